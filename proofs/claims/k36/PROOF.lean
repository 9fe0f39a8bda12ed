import PyProof.Rows.All
import Wide.All
import OpenK.AllK
import Wide.FinOn
import Lean
import PyProof.EqAt
import PyProof.EqKinds
import PyProof.TupleCall
import PyProof.ExcInit
import PyProof.InstStoreFacts
import PyProof.StrLawsFirst
import PyProof.StrLawsIn
import KE.KLam
import PyProof.ListMulRoad
import PyProof.Rows.ListMul
import PyProof.ZipIter
import PyProof.Draws
import PyProof.ListStr
import PyProof.DictWalks
import PyProof.DictTruth
import PyProof.ListRange
import PyProof.StrLaws
import PyProof.StrLawsIdx
import PyProof.AttrMissHeap
import PyProof.StrBlock2
import PyProof.SumWalkG
import PySem.Challenge.RW_striproam_k36_comes_round_by_words
set_option linter.all false
set_option maxRecDepth 100000
set_option maxHeartbeats 4000000
set_option Elab.async false
set_option linter.all false
set_option maxRecDepth 100000
set_option genSizeOf false
def PySem.W.Fast.tw13830113317461322369:=()
def PySem.W.Fast.tw5503272507162452497:=()
def PySem.W.Fast.tw12758699948404630760:=()
def PySem.W.Fast.tw12887462015094707196:=()
def PySem.W.Fast.tw5880629471965370261:=()
def PySem.W.Fast.tw5009706051550600852:=()
def PySem.W.Fast.tw16733186052413828300:=()
def PySem.W.Fast.tw2284532926340411895:=()
def PySem.W.Fast.tw15321812950689339968:=()
def PySem.W.Fast.tw4786141564192907449:=()
def AA:=@PySem.wpAny_bind
def AB:=@List.length_map
def AC:=@PySem.wpAny_pure
def AD:=@if_pos
def AE:=@if_neg
def AG:=@Nat.le_refl
def AH:=@List.getElem?_map
def AI:=@List.getElem?_eq_some_iff
def AJ:=@PySem.Heap.get?_push_of_some
def AK:=@List.getElem?_cons_succ
def AL:=@List.mem_of_getElem?
def AM:=@List.mem_cons_of_mem
def AN:=@List.getElem?_eq_getElem
def AQ:=@List.getElem?_cons_zero
def AS:=@PySem.Heap.lt_size
def AT:=@List.map_cons
def AU:=@Bool.and_eq_true
def AV:=@List.mem_singleton
def AW:=@List.length_cons
def AX:=@List.mem_cons_self
def AY:=@List.set_cons_zero
def AZ:=@List.mem_cons
def A0:=@List.length_append
def A1:=@Nat.lt_of_lt_of_le
def A2:=@List.set_cons_succ
def A3:=@decide_eq_true
def A4:=@List.size_toArray
def A5:=@List.getD_eq_getElem?_getD
def A6:=@PySem.boot_len
def A7:=@decide_eq_false
def A8:=@List.length_nil
def A9:=@PySem.Heap.get?_push_size
def BA:=@List.mem_map
def BB:=@Nat.ne_of_lt
def BC:=@List.length_range
def BD:=@List.map_nil
def BE:=@PySem.mem_of_lookup
def BF:=@List.length_take
def BG:=@List.lookup_cons
def BH:=@PySem.F.slot_list_append
def BI:=@PySem.F.type_list_append
def BJ:=@Nat.le_trans
def BK:=@List.map_append
def BL:=@List.nil_append
def BM:=@PySem.F.plainAttrs_list
def BN:=@PyProof.Rows.boot_tuple
def BO:=@List.cons_append
def BP:=@Option.some.inj
def BQ:=@List.getElem?_set_ne
def BR:=@List.mem_append
def BS:=@Bool.false_eq_true
def BT:=@Bool.false_ne_true
def BU:=@PySem.wpAny_mono
def BV:=@List.getElem?_append_left
def BW:=@List.all_eq_true
def BX:=@Ne.symm
def BY:=@of_decide_eq_true
def BZ:=@PySem.Heap.get?_update_self
def B0:=@List.map_congr_left
def B1:=@List.getElem?_range
def B2:=@PyProof.Rows.boot_isinstance
def B3:=@List.mem_range
def B4:=@List.mem_append_right
def B5:=@List.length_singleton
def B6:=@PySem.Heap.get?_update_other
def B7:=@Nat.lt_irrefl
def B8:=@PySem.W.kia_one
def B9:=@List.append_nil
def CA:=@List.getElem?_append_right
def CB:=@if_true
def CC:=@List.map_map
def CD:=@PySem.W.mg_none_of
def CF:=@List.getElem?_set_self
def CG:=@Int.emod_lt_of_pos
def CH:=@if_false
def CI:=@PySem.wpAny_standAt
def CJ:=@PySem.wpAny_newObj_type
def CK:=@List.length_set
def CL:=@List.getElem?_eq_none
def CM:=@PySem.wpAny_holding
def CN:=@Nat.zero_le
def CO:=@PySem.F.slot_dict_keyiterator_next
def CP:=@PyProof.Rows.callWith_type1
def CQ:=@beq_false_of_ne
def CS:=@Int.emod_nonneg
def CT:=@Bool.or_eq_true
def CU:=@Array.length_toList
def CV:=@List.length_drop
def CW:=@PySem.wpAny_Call_Name_kw
def CY:=@Nat.le_of_lt
def CZ:=@List.nodup_cons
def C0:=@List.find?_cons
def C1:=@PySem.wpAny_loadPart_at
def C2:=@List.nodup_append
def C3:=@List.foldl_append
def C4:=@PySem.wpAny_typeNameOfWhole_keyiter
def C5:=@beq_eq_false_iff_ne
def C6:=@beq_self_eq_true
def C7:=@PySem.Heap.size_push
def C8:=@List.take_of_length_le
def C9:=@Nat.ne_of_gt
def DA:=@List.mem_filterMap
def DB:=@PySem.wpAny_passesOwn
def DC:=@List.forIn_cons
def DD:=@Array.getElem?_eq_some_iff
def DE:=@PySem.eqIsQuiet_byValue
def DF:=@List.mem_append_left
def DG:=@PySem.wpAny_field
def DH:=@Int.le_refl
def DI:=@Option.bind_some
def DJ:=@PySem.wpAny_typeNameOf_keyiter
def DK:=@List.prefix_refl
def DL:=@List.take_length
def DM:=@PySem.Heap.SameBut.update
def DN:=@List.mem_map_of_mem
def DO:=@PyProof.Rows.slot_tuple_getitem
def DP:=@PySem.wpAny_callSpecial?_slot
def DQ:=@PySem.W.mg_of
def DR:=@PySem.W.callWith_K
def DS:=@List.contains_cons
def DT:=@PySem.Obj.data_mapFields
def DV:=@List.map_singleton
def DW:=@Nat.le_succ
def DX:=@PySem.F.plainAttrs_str
def DY:=@PySem.wpAny_truthy_bool
def DZ:=@List.take_add_one
def D0:=@List.length_replicate
def D1:=@List.nodup_nil
def D2:=@PyProof.Rows.boot_str
def D4:=@PyProof.Rows.boot_int
def D5:=@LawfulBEq.eq_of_beq
def EA:=@congrArg
def EB:=@List.drop_length
def EC:=@List.getElem?_of_mem
def ED:=@List.mem_of_mem_take
def EE:=@PySem.sizeLine_eq
def EF:=@List.filterMap_cons
def EG:=@PySem.wpAny_isSubtype_exc
def EH:=@PySem.F.plain_extend_loop
def EI:=@List.pairwise_iff_getElem
def EJ:=@Array.size_push
def EK:=@PySem.codeAny_mono
def EL:=@PySem.wpAny_setField
def EM:=@Nat.mul_le_mul
def EN:=@List.getElem?_replicate
def EO:=@Int.toNat_natCast
def EQ:=@PySem.wpAny_pyIter_enum
def ER:=@Option.isSome_map
def ES:=@PySem.wpAny_dictEntries
def ET:=@PySem.F.slot_str_index
def EU:=@PySem.F.type_str_index
def EV:=@PySem.wpAny_call_entry
def EW:=@List.getElem_mem
def EX:=@PySem.Obj.isFreed_of_fields
def EY:=@Array.getElem?_toList
def EZ:=@PySem.Heap.get?_none_of_le
def E1:=@PySem.wpAny_execs_nil
def E2:=@PySem.wpAny_call
def E3:=@List.of_mem_zip
def E4:=@Nat.mul_comm
def E5:=@List.foldl_cons
def E6:=@List.mem_iff_getElem
def E7:=@List.cons.injEq
def E8:=@PySem.F.args_dict_keyiterator_next_1
def E9:=@PySem.wpAny_updateSeq
def FA:=@Nat.min_eq_left
def FB:=@PySem.F.entry_dict_keyiterator_next
def FC:=@List.take_append_of_le_length
def FD:=@Array.toList_append
def FE:=@List.replicate_succ
def FF:=@PyProof.Rows.boot_enumerate
def FG:=@List.getElem?_take
def FH:=@PySem.Paired.length
def FJ:=@PySem.Calls.Name_function_global
def FK:=@PySem.wpAny_letOwnedTupleGo_enum
def FM:=@PySem.wpAny_attempt
def FN:=@PySem.F.excAttr_ValueError
def FP:=@PySem.F.excBase_ValueError
def FQ:=@Bool.true_and
def FR:=@Bool.not_true
def FS:=@PySem.W.kitx_list
def FT:=@PySem.StrLaws.subAt_one
def FU:=@Nat.lt_trichotomy
def FV:=@List.ext_getElem?
def FW:=@beq_iff_eq
def FX:=@List.drop_eq_getElem_cons
def FY:=@Classical.byContradiction
def FZ:=@Option.isSome_iff_exists
def F6:=@List.getElem?_take_of_lt
def F7:=@PySem.F.args_tuple_add_2
def F8:=@Option.getD_none
def F9:=@Nat.lt_succ_self
def GA:=@PySem.wpAny_comprehension_free
def GB:=@List.Pairwise.imp_of_mem
def GC:=@PySem.wpAny_isInstance
def GD:=@decide_false
def GE:=@decide_eq_decide
def GF:=@PySem.F.entry_tuple_add
def GG:=@List.length_eq_zero_iff
def GH:=@PySem.wpAny_specialOf
def GI:=@PySem.wpAny_dictEpoch
def GJ:=@PySem.W.cellsFrom_some
def GK:=@PySem.F.slot_tuple_add
def GL:=@PyProof.Rows.boot_list
def GM:=@PySem.wpAny_loadPart
def GN:=@PyProof.Rows.boot_min
def GO:=@Nat.not_lt
def GP:=@Bool.or_true
def GQ:=@Nat.lt_or_ge
theorem Mc.bn1{α:Type}{P:List α->Prop}(h:∀ a,P [a]):∀ us:List α,us.length=1->P us
 | [a],_=>h a
theorem Mc.bn2{α:Type}{P:List α->Prop}(h:∀ a b,P [a,b]):∀ us:List α,us.length=2->P us
 | [a,b],_=>h a b
theorem Mc.bn3{α:Type}{P:List α->Prop}(h:∀ a b c,P [a,b,c]):∀ us:List α,us.length=3->P us
 | [a,b,c],_=>h a b c
theorem Mc.bn4{α:Type}{P:List α->Prop}(h:∀ a b c d,P [a,b,c,d]):∀ us:List α,us.length=4->P us
 | [a,b,c,d],_=>h a b c d
open PySem.W (Frag)
noncomputable section
namespace L2
open PySem PySem.Spec PyProof.Rows
abbrev Key:=Sum Int Str
noncomputable def sZ:Key->Value->Bool
 | .inl k,v=>Value.isInt k v
 | .inr x,v=>Value.isStrOf x v
noncomputable def aSH(w:World):Key->Int
 | .inl k=>hashInt k
 | .inr x=>hashStr w x
theorem keyIs_shape:∀ {k:Key} {v:Value},sZ k v=true->(∃ i t,k=Sum.inl i/\v=Value.int i t)\/(∃ x t,k=Sum.inr x/\v=Value.str x t)
 | .inl i,v,h=>by
  obtain ⟨t,e⟩:=Value.isInt_shape (k:=i) (v:=v) h
  exact .inl ⟨i,t,rfl,e⟩
 | .inr x,v,h=>by
  obtain ⟨t,e⟩:=Value.isStrOf_shape (x:=x) (v:=v) h
  exact .inr ⟨x,t,rfl,e⟩
theorem aGA(i:Int)(t:Tok):sZ (.inl i) (.int i t)=true:=by simp[sZ,Value.isInt]
theorem aGB(x:Str)(t:Tok):sZ (.inr x) (.str x t)=true:=by simp[sZ,Value.isStrOf]
theorem aOB(a b:Int):decide ((Sum.inl a:Key)=Sum.inl b)=(a == b):=by
 by_cases e:a=b
 ·subst e;simp
 ·have h:¬ (Sum.inl a:Key)=Sum.inl b:=fun q=>e (Sum.inl.inj q)
  rw[A7 h]
  exact (C5.mpr e).symm
theorem aOC(a b:Str):decide ((Sum.inr a:Key)=Sum.inr b)=decide (a=b):=by
 by_cases e:a=b
 ·subst e;simp
 ·have h:¬ (Sum.inr a:Key)=Sum.inr b:=fun q=>e (Sum.inr.inj q)
  rw[A7 h,A7 e]
theorem aOD(a:Int)(b:Str):decide ((Sum.inl a:Key)=Sum.inr b)=false:=A7 (fun q=>nomatch q)
theorem aOE(a:Str)(b:Int):decide ((Sum.inr a:Key)=Sum.inl b)=false:=A7 (fun q=>nomatch q)
noncomputable def eD(prog:Program)(w:World):PySem.KeyKind prog w Key where
 is:=sZ
 hash:=aSH w
 inj:=fun v a b ha hb=>by
  rcases keyIs_shape ha with ⟨i,t,rfl,rfl⟩|⟨x,t,rfl,rfl⟩
  ·rcases keyIs_shape hb with ⟨j,u,rfl,e⟩|⟨y,u,rfl,e⟩
   · injection e with e1 _; rw [e1]
   · exact nomatch e
  ·rcases keyIs_shape hb with ⟨j,u,rfl,e⟩|⟨y,u,rfl,e⟩
   · exact nomatch e
   · injection e with e1 _; rw [e1]
 byValue:=fun k v h=>by
  rcases keyIs_shape h with ⟨i,t,rfl,rfl⟩|⟨x,t,rfl,rfl⟩<;>rfl
 pyHash:=fun hv h=>by
  rcases keyIs_shape hv with ⟨i,t,rfl,rfl⟩|⟨x,t,rfl,rfl⟩
  ·exact wpAny_pyHash_int h
  ·exact wpAny_pyHash_str h
 eqBool:=fun hu hv h=>by
  rcases keyIs_shape hu with ⟨i,t,rfl,rfl⟩|⟨x,t,rfl,rfl⟩
  ·rcases keyIs_shape hv with ⟨j,u,rfl,rfl⟩|⟨y,u,rfl,rfl⟩
   · rw [aOB] at h; exact wpAny_eqBool_int h
   · rw [aOD] at h; exact SeqAt.EqAt.int_str i t y u _ _ _ _ h
  ·rcases keyIs_shape hv with ⟨j,u,rfl,rfl⟩|⟨y,u,rfl,rfl⟩
   · rw [aOE] at h; exact SeqAt.EqAt.str_int x t j u _ _ _ _ h
   · rw [aOC] at h; exact wpAny_eqBool_str h
 «strs»:=fun k x t v h=>by
  rcases keyIs_shape h with ⟨i,u,rfl,e⟩|⟨y,u,rfl,e⟩
  ·exact nomatch e
  ·injection e with e1 _
   subst e1
   cases v<;>rfl
theorem aCW(prog:Program)(w:World)(i:Int)(t:Tok):(eD prog w).is (.inl i) (.int i t)=true:=aGA i t
theorem aCX(prog:Program)(w:World)(x:Str)(t:Tok):(eD prog w).is (.inr x) (.str x t)=true:=aGB x t
inductive V where
 | non|bl (b:Bool)|int (i:Int)|str (x:Str)|byt (b:Array UInt8)|flt (b:UInt64)|ref (a:Addr)|ty (n:String)
 deriving DecidableEq
def bJ:V->Value->Prop
 | .non,u=>u=Value.none
 | .bl b,u=>u=Value.bool b
 | .int i,u=>∃ t,u=Value.int i t
 | .str x,u=>∃ t,u=Value.str x t
 | .byt b,u=>∃ t,u=Value.bytes b t
 | .flt b,u=>∃ t,u=Value.float b t
 | .ref a,u=>u=Value.ref a
 | .ty n,u=>u=Value.type n
abbrev bT:List V->List Value->Prop:=Paired bJ
theorem bT.length{xs:List V}{us:List Value}(r:bT xs us):xs.length=us.length:=FH r
theorem bT.get:∀ {xs:List V} {us:List Value} {i:Nat} {x:V},bT xs us->xs[i]? = some x->∃ u,us[i]? = some u/\bJ x u
 | _,_,_,_,.nil,e=>by simp at e
 | _,_,0,_,.cons r _,e=>by simp at e;subst e;exact ⟨_,rfl,r⟩
 | _,_,i+1,x,.cons _ t,e=>by
  obtain ⟨u,h1,h2⟩:=bT.get (i:=i) (x:=x) t (by simpa using e)
  exact ⟨u,by simpa using h1,h2⟩
theorem bT.set{x:V}{u:Value}(r:bJ x u):∀ {xs:List V} {us:List Value} (i:Nat),bT xs us->bT (xs.set i x) (us.set i u)
 | _,_,_,.nil=>.nil
 | _,_,0,.cons _ t=>.cons r t
 | _,_,i+1,.cons q t=>.cons q (bT.set r i t)
theorem bT.append:∀ {xs ys:List V} {us ws:List Value},bT xs us->bT ys ws->bT (xs++ys) (us++ws)
 | _,_,_,_,.nil,s=>s
 | _,_,_,_,.cons r t,s=>.cons r (bT.append t s)
theorem bT.take:∀ {xs:List V} {us:List Value} (n:Nat),bT xs us->bT (xs.take n) (us.take n)
 | _,_,0,_=>.nil
 | _,_,_+1,.nil=>.nil
 | _,_,n+1,.cons r t=>.cons r (bT.take n t)
theorem bT.drop:∀ {xs:List V} {us:List Value} (n:Nat),bT xs us->bT (xs.drop n) (us.drop n)
 | _,_,0,r=>r
 | _,_,_+1,.nil=>.nil
 | _,_,n+1,.cons _ t=>bT.drop n t
def jD:Option V->Option Value->Prop
 | some v,some u=>bJ v u
 | none,none=>True
 | _,_=>False
def KV{κ:Type}:List (κ×V)->List (κ×Value)->Prop:=Paired fun (p:κ×V) (q:κ×Value)=>p.1=q.1/\bJ p.2 q.2
noncomputable def kV:Key->V
 | .inl i=>.int i
 | .inr x=>.str x
inductive HO where
 | lst (xs:List V)
 | tup (xs:List V)
 | dK (kvs:List (Key×V))|dT (kvs:List (List Key×V))
 | set (S:Int->Bool) (n:Nat)
 | ins (C dx:Addr) (fs:List (Str×V))
 | own (x:Addr)
 | xd (fs:List (Str×V))
 | met (f x:Addr)
 | rng (lo hi:Int)
 | frz (o:Obj) (u:HO)
 | tbl (qs:List (Pos×Str))
 | cod (q:Str)
 | ext (φ:Heap->Prop)
abbrev Hp:=Addr->Option HO
noncomputable def upd(H:Hp)(a:Addr)(o:HO):Hp:=fun b=>if b=a then some o else H b
theorem aX{H:Hp}{a:Addr}{o:HO}:upd H a o a=some o:=by unfold upd;rw[AD rfl]
theorem aG{H:Hp}{a b:Addr}{o:HO}(h:b≠a):upd H a o b=H b:=by unfold upd;rw[AE h]
theorem tD{H:Hp}{a:Addr}{o u:HO}:upd (upd H a o) a u=upd H a u:=by
 funext b;unfold upd;split<;>rfl
theorem bU{H:Hp}{a b:Addr}{o:HO}(h:H a=some o)(h':H b=none):a≠b:=by
 intro e;subst e;rw[h] at h';cases h'
def mM(h:Heap)(a:Addr)(its:Array Value):Prop:=∃ o,h.get? a=some o/\(o.cls=.type "tuple"/\o.dict=none)/\∃ n,o.data=.seq its n
theorem mM.t{h:Heap}{a:Addr}{b:Array Value}:mM h a b->IsTup h a b:=fun ⟨o,e,c,n,d⟩=>⟨o,e,c.1,n,d⟩
theorem mM.new(h:Heap)(a:Array Value):mM (h.push {cls:=.type "tuple",data:=.seq a}) h.objs.size a:=⟨_,A9 h rfl,⟨rfl,rfl⟩,_,rfl⟩
section
variable(P:Program)(w:World)
def cN(H:Hp)(h:Heap)(a:Addr):HO->Prop
 | .lst xs=>xs.length<=sizeLine/\∃ (its:List Value) (n:Nat),bT xs its/\h.get? a=some {cls:=.type "list",data:=.seq its.toArray n}
 | .tup xs=>xs.length<=sizeLine/\∃ its:List Value,bT xs its/\mM h a its.toArray
 | .dK kvs=>kvs.length<=sizeLine/\(a == sysModules)=false/\∃ vs,KV kvs vs/\h.DictOf (eD P w) a vs
 | .dT kvs=>kvs.length<=sizeLine/\(a == sysModules)=false/\∃ xs:List (List Key×Addr×Value),
  Paired (fun (p:List Key×V) (q:List Key×Addr×Value)=>p.1=q.1/\H q.2.1=some (.tup (p.1.map kV))/\bJ p.2 q.2.2) kvs xs /\
  ∃ o es ep,h.get? a=some o/\o.ExactDict/\o.data=.dict es ep/\es.toList=xs.map (entryOfKey (tupleKind (eD P w)))/\(xs.map (·.1)).Nodup
 | .set S n=>h.SetOf (intKind P w) a S n
 | .ins C dx fs=>H dx=some (.own a)/\fs.length<=1000/\dx≠a/\h.get? a=some (PySem.W.instObj C dx) /\
  ∃ mA,h.Ns1 dx mA/\(∀ f,jD (fs.lookup f) (mA f))/\PySem.Within mA (fs.map (·.1))
 | .own _=>∃ o,h.get? a=some o
 | .xd fs=>∃ mA,h.Ns1 a mA/\∀ f,jD (fs.lookup f) (mA f)
 | .rng lo hi=>∃ t u v,h.get? a=some {cls:=.type "range",data:=.fields #[.int lo t,.int hi u,.int 1 v]}
 | .frz o u=>h.get? a=some o/\cN H h a u
 | .tbl qs=>∃ ps:Array Value,h.get? a=some {cls:=.none,data:=.fields ps}/\TriplesOk ps.toList/\∀ p∈qs,codeAmong p.1 ps.toList=none\/∃ c,codeAmong p.1 ps.toList=some (.ref c)/\H c=some (.cod p.2)
 | .cod q=>h.CodeRec (.ref a) q
 | .met f x=>h.get? a=some (PySem.W.methodObj (.ref f) (.ref x))
 | .ext φ=>φ h/\(∃ o,h.get? a=some o)/\∀ h1 h2:Heap,φ h1->(∀ o,h1.get? a=some o->h2.get? a=some o)->φ h2
def HOk(H:Hp)(h:Heap):Prop:=∀ a o,H a=some o->cN P w H h a o
end
section
variable{P:Program}{w:World}{H H':Hp}{h h':Heap}{a:Addr}{o:HO}
theorem cN.lt(x:cN P w H h a o):a < h.objs.size:=by
 cases o with
 | lst xs=>obtain ⟨_,_,_,_,e⟩:=x;exact AS e
 | tup xs=>obtain ⟨_,_,_,p⟩:=x;exact p.t.lt
 | dK kvs=>obtain ⟨_,_,_,_,o,_,_,e,_⟩:=x;exact AS e
 | dT kvs=>obtain ⟨_,_,_,_,o,_,_,e,_⟩:=x;exact AS e
 | set S n=>obtain ⟨o,_,_,_,e,_⟩:=x;exact AS e
 | ins C dx fs=>obtain ⟨_,_,_,e,_⟩:=x;exact AS e
 | own y=>obtain ⟨_,e⟩:=x;exact AS e
 | xd fs=>obtain ⟨_,⟨_,_,_,e,_⟩,_⟩:=x;exact AS e
 | rng lo hi=>obtain ⟨_,_,_,e⟩:=x;exact AS e
 | frz ob u=>obtain ⟨e,_⟩:=x;exact AS e
 | tbl qs=>obtain ⟨ps,e,_⟩:=x;exact AS e
 | cod q=>obtain ⟨c,o,vs,t,e,b,_⟩:=x;cases e;exact AS b
 | met f y=>exact AS (show h.get? a=some _ from x)
 | ext φ=>obtain ⟨_,⟨_,e⟩,_⟩:=x;exact AS e
theorem Paired.mapP{α β:Type}{F G:α->β->Prop}:∀ {l₁:List α} {l₂:List β},Paired F l₁ l₂->(∀ a b,F a b->G a b)->Paired G l₁ l₂
 | _,_,.nil,_=>.nil
 | _,_,.cons r t,f=>.cons (f _ _ r) (Paired.mapP t f)
theorem cN.stay(x:cN P w H h a o)(k:∀ b u,(b=a\/H b=some (.own a))->h.get? b=some u->h'.get? b=some u)
  (j:∀ b,H b=some (.own a)->H' b=some (.own a)) (B:∀ b q,H b=some (.cod q)->H' b=some (.cod q)) (A:∀ b xs,H b=some (.tup xs)->H' b=some (.tup xs)):cN P w H' h' a o:=by
 induction o with
 | lst xs=>obtain ⟨z,i,n,r,e⟩:=x;exact ⟨z,i,n,r,k _ _ (.inl rfl) e⟩
 | tup xs=>obtain ⟨z,i,r,g,e,c⟩:=x;exact ⟨z,i,r,g,k _ _ (.inl rfl) e,c⟩
 | dK kvs=>obtain ⟨z,y,vs,r,g,es,ep,e,c⟩:=x;exact ⟨z,y,vs,r,g,es,ep,k _ _ (.inl rfl) e,c⟩
 | dT kvs=>
  obtain ⟨z,y,xs,r,g,es,ep,e,c⟩:=x
  exact ⟨z,y,xs,Paired.mapP r fun p q z=>⟨z.1,A _ _ z.2.1,z.2.2⟩,g,es,ep,k _ _ (.inl rfl) e,c⟩
 | set S n=>obtain ⟨g,es,ep,t,e,c⟩:=x;exact ⟨g,es,ep,t,k _ _ (.inl rfl) e,c⟩
 | ins C dx fs=>
  obtain ⟨d,z,m,e,mA,⟨od,es,ep,e2,c⟩,r⟩:=x
  exact ⟨j _ d,z,m,k _ _ (.inl rfl) e,mA,⟨od,es,ep,k _ _ (.inr d) e2,c⟩,r⟩
 | own y=>obtain ⟨g,e⟩:=x;exact ⟨g,k _ _ (.inl rfl) e⟩
 | xd fs=>obtain ⟨mA,⟨od,es,ep,e,c⟩,r⟩:=x;exact ⟨mA,⟨od,es,ep,k _ _ (.inl rfl) e,c⟩,r⟩
 | rng lo hi=>obtain ⟨t,u,v,e⟩:=x;exact ⟨t,u,v,k _ _ (.inl rfl) e⟩
 | frz g u ih=>obtain ⟨e,q⟩:=x;exact ⟨k _ _ (.inl rfl) e,ih q⟩
 | tbl qs=>
  obtain ⟨ps,e,t,r⟩:=x
  refine ⟨ps,k _ _ (.inl rfl) e,t,fun p s=>?_⟩
  rcases r p s with z|⟨c,z,l⟩
  · exact .inl z
  · exact .inr ⟨c, z, B _ _ l⟩
 | cod q=>
  obtain ⟨c,o,vs,t,e,j,r⟩:=x
  cases e
  exact ⟨_,o,vs,t,rfl,k _ _ (.inl rfl) j,r⟩
 | met f y=>
  have e:h.get? a=some (PySem.W.methodObj (.ref f) (.ref y)):=x
  show h'.get? a=some (PySem.W.methodObj (.ref f) (.ref y))
  exact k a _ (.inl rfl) e
 | ext φ=>obtain ⟨p,⟨o,e⟩,st⟩:=x;exact ⟨st _ _ p fun o q=>k _ _ (.inl rfl) q,⟨o,k _ _ (.inl rfl) e⟩,st⟩
theorem HOk.lt(x:HOk P w H h)(e:H a=some o):a < h.objs.size:=(x a o e).lt
theorem HOk.fresh(x:HOk P w H h)(e:h.objs.size<=a):H a=none:=by
 cases q:H a with
 | none=>rfl
 | some u=>exact absurd (A1 (x.lt q) e) (B7 _)
theorem HOk.kept(x:HOk P w H h)(k:∀ b u,h.get? b=some u->h'.get? b=some u):HOk P w H h':=fun a o e=>
 (x a o e).stay (fun b u _ q=>k b u q) (fun _ q=>q) (fun _ _ q=>q) fun _ _ q=>q
theorem HOk.laid(x:HOk P w H h)(k:∀ b u,h.get? b=some u->h'.get? b=some u)(g:h.objs.size<=a)(new:cN P w (upd H a o) h' a o):HOk P w (upd H a o) h':=fun b u e=>by
 have d:=x.fresh g
 by_cases f:b=a
 ·subst f;rw[aX] at e;cases e;exact new
 ·rw[aG f] at e
  exact (x b u e).stay (fun c v _ q=>k c v q) (fun c q=>by rw[aG (bU q d)];exact q) (fun c xs q=>by rw[aG (bU q d)];exact q) fun c xs q=>by rw[aG (bU q d)];exact q
end
def Rd(H:Hp)(a:Addr)(u:HO):Prop:=H a=some u\/∃ o,H a=some (.frz o u)
theorem Rd.ok{P:Program}{w:World}{H:Hp}{h:Heap}{a:Addr}{u:HO}(r:Rd H a u)(x:HOk P w H h):cN P w H h a u:=by
 rcases r with r|⟨o,r⟩
 ·exact x a u r
 ·obtain ⟨_,q⟩:=x a _ r
  exact q
def Mut:Option HO->Prop
 | some (.lst _)=>True
 | some (.dK _)=>True
 | some (.dT _)=>True
 | some (.set _ _)=>True
 | some (.ins _ _ _)=>True
 | some (.ext _)=>True
 | _=>False
section
variable{P:Program}{w:World}{H:Hp}{h h':Heap}{x e:Addr}{o':HO}
theorem HOk.write(ok:HOk P w H h)(f:Mut (H x))(n:e=x\/H e=some (.own x))(k:∀ b u,b≠e->h.get? b=some u->h'.get? b=some u)(m:∃ u,h'.get? e=some u)
  (new:cN P w (upd H x o') h' x o'):HOk P w (upd H x o') h':=fun b u q=>by
 have d:∀ c y,H c=some (.own y)->c≠x:=fun c y r z=>by subst z;rw[r] at f;exact f
 have g:∀ c xs,H c=some (.tup xs)->c≠x:=fun c xs r z=>by subst z;rw[r] at f;exact f
 have i:∀ c xs,H c=some (.cod xs)->c≠x:=fun c xs r z=>by subst z;rw[r] at f;exact f
 by_cases j:b=x
 ·subst j;rw[aX] at q;cases q;exact new
 ·rw[aG j] at q
  by_cases a:b=e
  ·have o:H b=some (.own x):=by
    rcases n with z|z
    · exact absurd (a.trans z) j
    · rw [a]; exact z
   rw[q] at o;cases o
   obtain ⟨v,p⟩:=m
   exact ⟨v,by rw[a];exact p⟩
  ·refine (ok b u q).stay (fun c v l r=>k c v ?_ r) (fun c r=>by rw[aG (d c b r)];exact r) (fun c xs r=>by rw[aG (i c xs r)];exact r) fun c xs r=>by rw[aG (g c xs r)];exact r
   rcases l with rfl|l
   ·exact a
   ·rintro rfl
    rcases n with z|z
    · exact d c b l z
    · rw [l] at z; cases z; exact j rfl
end
structure Un(fs ex:List Addr)(H H':Hp)(h h':Heap):Prop where
 keep:∀ b o,h.get? b=some o->H b=none->b∉fs->b∉ex->h'.get? b=some o
 slot:∀ b o,h.get? b=some o->H b=none->b∈fs->b∉ex->∃ sl,h'.get? b=some {o with slots:=sl}
 free:∀ b o,h.get? b=some o->H b=none->b∉ex->H' b=none
 there:∀ b o,h.get? b=some o->b∉ex->∃ o',h'.get? b=some o'
 tups:∀ b xs,H b=some (.tup xs)->H' b=some (.tup xs)
 frzs:∀ b o u,H b=some (.frz o u)->H' b=some (.frz o u)
 tbls:∀ b ps,H b=some (.tbl ps)->H' b=some (.tbl ps)
section
variable{fs fs' ex ex':List Addr}{H H1 H2:Hp}{h h1 h2 h':Heap}{a x e:Addr}{o:HO}
theorem Un.any(u:Un fs ex H H1 h h1){b:Addr}{a:Obj}(q:h.get? b=some a)(n:H b=none)(hx:b∉ex):∃ sl,h1.get? b=some {a with slots:=sl}:=by
 by_cases c:b∈fs
 · exact u.slot b a q n c hx
 · exact ⟨a.slots, u.keep b a q n c hx⟩
theorem Un.trans(a:Un fs ex H H1 h h1)(b:Un fs ex H1 H2 h1 h2):Un fs ex H H2 h h2 where
 keep:=fun c d q n f e=>b.keep c d (a.keep c d q n f e) (a.free c d q n e) f e
 slot:=fun c d q n f e=>by
  obtain ⟨sl,e1⟩:=a.slot c d q n f e
  obtain ⟨g,e2⟩:=b.slot c _ e1 (a.free c d q n e) f e
  exact ⟨g,e2⟩
 free:=fun c d q n e=>by
  obtain ⟨o',e1⟩:=a.there c d q e
  exact b.free c o' e1 (a.free c d q n e) e
 there:=fun c d q e=>by
  obtain ⟨o',e1⟩:=a.there c d q e
  exact b.there c o' e1 e
 tups:=fun c xs q=>b.tups c xs (a.tups c xs q)
 frzs:=fun c d xs q=>b.frzs c d xs (a.frzs c d xs q)
 tbls:=fun c ps q=>b.tbls c ps (a.tbls c ps q)
theorem Un.kept(k:∀ b u,h.get? b=some u->h'.get? b=some u):Un fs ex H H h h':=
 ⟨fun b a q _ _ _=>k b a q,fun b a q _ _ _=>⟨a.slots,k b a q⟩,fun _ _ _ n _=>n,fun b a q _=>⟨a,k b a q⟩,fun _ _ q=>q,fun _ _ _ q=>q,fun _ _ q=>q⟩
theorem Un.refl:Un fs ex H H h h:=Un.kept fun _ _ q=>q
theorem Un.laid(k:∀ b u,h.get? b=some u->h'.get? b=some u)(d:h.objs.size<=a)(c:H a=none):Un fs ex H (upd H a o) h h' where
 keep:=fun b u q _ _ _=>k b u q
 slot:=fun b u q _ _ _=>⟨u.slots,k b u q⟩
 free:=fun b u q n _=>by rw[aG (BB (A1 (AS q) d))];exact n
 there:=fun b u q _=>⟨u,k b u q⟩
 tups:=fun b xs q=>by rw[aG (bU q c)];exact q
 frzs:=fun b u xs q=>by rw[aG (bU q c)];exact q
 tbls:=fun b ps q=>by rw[aG (bU q c)];exact q
theorem Un.write(c:Mut (H x))(j:e=x\/H e=some (.own x))(k:∀ b u,b≠e->h.get? b=some u->h'.get? b=some u)(f:∃ u,h'.get? e=some u):Un fs ex H (upd H x o) h h':=by
 have i:∀ b,H b=none->b≠x:=fun b n z=>by subst z;rw[n] at c;exact c
 have g:∀ b,H b=none->b≠e:=fun b n z=>by
  subst z
  rcases j with r|r
  · exact i b n r
  · rw [n] at r; cases r
 have d:∀ b u,H b=some u->¬ Mut (some u)->b≠x:=fun b u q nm z=>by subst z;rw[q] at c;exact nm c
 refine ⟨fun b u q n _ _=>k b u (g b n) q,fun b u q n _ _=>⟨u.slots,k b u (g b n) q⟩,fun b u q n _=>by rw[aG (i b n)];exact n,fun b u q _=>?_,
  fun b xs q=>by rw[aG (d b _ q fun z=>z)];exact q,fun b u xs q=>by rw[aG (d b _ q fun z=>z)];exact q,fun b ps q=>by rw[aG (d b _ q fun z=>z)];exact q⟩
 by_cases a:b=e
 ·subst a;exact f
 ·exact ⟨u,k b u a q⟩
end
noncomputable def trk(h:Heap)(H:Hp):List Addr:=(List.range h.objs.size).filter fun a=>(H a).isSome
def oZ(h:Heap)(H:Hp):Heap:=PySem.W.hideAll h (trk h H)
theorem aGC(h:Heap)(H:Hp):(oZ h H).objs.size=h.objs.size:=PySem.W.hideAll_size _ _
theorem aIN{h:Heap}{H:Hp}{b:Addr}{o:Obj}(e:h.get? b=some o)(n:H b=none):(oZ h H).get? b=some o:=
 PySem.W.hideAll_get _ e fun a=>by
  have q:(H b).isSome=true:=(List.mem_filter.mp a).2
  rw[n] at q;simp at q
theorem aLN{h:Heap}{H:Hp}{b:Addr}{o:Obj}(e:(oZ h H).get? b=some o):h.get? b=some o/\H b=none:=by
 have a:h.get? b=some o:=PySem.W.of_hideAll (trk h H) e
 refine ⟨a,?_⟩
 cases q:H b with
 | none=>rfl
 | some x=>
  have c:b∈trk h H:=List.mem_filter.mpr ⟨B3.mpr (AS a),by simp[q]⟩
  have z:(oZ h H).get? b=none:=PySem.W.hideAll_none (trk h H) c
  rw[z] at e;cases e
def aLO(g h:Heap)(L:Addr):List (Addr×Obj):=(List.range h.objs.size).filterMap fun a=>if a=L\/(g.get? a).isSome=true then none else (h.get? a).map fun o=>(a,o)
def rest(g h:Heap)(L d:Addr):List (Addr×Obj):=(aLO g h L).filter fun p=>decide (p.1≠d)
structure Mod(K:Frag)(mg:Str->Option Value)(base:Heap):Prop where
 kin:K.In base
 glob:base.Ns mainGlobals mg
 blt:∃ mb,base.Ns builtinsNs mb/\∀ x:Str,x≠"__name__"->mb x=bootBuiltins x
 nolimit:base.NoLimit
structure Cx where
 prog:Program
 w:World
 K:Frag
 mg:Str->Option Value
 base:Heap
 A:Around
 N:List Str
 s₀:Shared
 H₀:Hp
 env:Env
 outer:List Env
 stack:List Env
 ex:List Addr
 fn:Str->Bool
 calm:Bool
 pn:List (Addr×Obj)
 xe:Value->Shared->Prop
noncomputable def frs(l:List Env):List Addr:=l.filterMap (·.frame)
abbrev Cx.fs(X:Cx):List Addr:=frs X.outer
def Vis(sc:Scope)(x:Str):Prop:=sc.names.lookup x=some .local\/sc.names.lookup x=some .cell\/sc.names.lookup x=some .free
def Loc(sc:Scope)(x:Str):Prop:=sc.names.lookup x=some .local\/sc.names.lookup x=some .cell
def aSI(env:Env)(h:Heap)(m:Str->Option Value)(x:Str)(u:Value):Prop:=
 (env.kindOf x=some .local/\m x=some u)\/((env.kindOf x=some .cell\/env.kindOf x=some .free)/\∃ c,env.cells.lookup x=some c/\h.IsCell c (some u))
structure Cx.Ok(X:Cx):Prop where
 mod:Mod X.K X.mg X.base
 kind:X.env.scope.kind=.function
 glob:X.env.globals=mainGlobals
 blt:X.env.builtins=builtinsNs
 above:X.s₀.heap.objs.size<=X.env.locals
 inj:∀ x y c,X.env.cells.lookup x=some c->X.env.cells.lookup y=some c->x=y
 has:∀ x,(X.env.kindOf x=some .cell\/X.env.kindOf x=some .free)->∃ c,X.env.cells.lookup x=some c
 cab:∀ x c,X.fn x=true->X.env.cells.lookup x=some c->X.s₀.heap.objs.size<=c
 hd:X.calm=true->X.A.handled=none
 frames:X.A.frames=some X.stack
 stk:X.stack=X.outer\/(X.stack=X.env::X.outer/\X.env.frame=some X.env.locals)
 exf:∀ b∈X.ex,b≠X.env.locals/\∀ x c,X.env.cells.lookup x=some c->c≠b
 bs:∀ b o,X.base.get? b=some o->X.s₀.heap.get? b=some o/\X.H₀ b=none
 bsz:X.base.objs.size<=X.s₀.heap.objs.size
 noex:∀ b o,X.base.get? b=some o->b∉X.ex
 exfs:∀ b∈X.ex,b∉X.fs
 funs:X.s₀.heap.FunFrames X.base X.outer
 frf:∀ b∈X.fs,X.H₀ b=none
structure Inv(X:Cx)(pins:List (Addr×Obj))(σ:List (Option V))(H:Hp)(s:Shared):Prop where
 ok:X.Ok
 os:s.os=X.s₀.os
 bare:AllBare s.gens
 base:Un X.fs X.ex X.H₀ H X.s₀.heap s.heap
 loc:∃ m,s.heap.Ns X.env.locals m/\∀ (i:Nat) (x:Str) (v:V),X.N[i]? = some x->σ[i]? = some (some v)->Vis X.env.scope x->∃ u,bJ v u/\aSI X.env s.heap m x u
 cell:∀ x c,X.env.cells.lookup x=some c->∃ v,s.heap.IsCell c v
 free:H X.env.locals=none
 freeC:∀ x c,X.env.cells.lookup x=some c->H c=none
 pin:∀ p∈X.pn++pins,s.heap.get? p.1=some p.2/\H p.1=none/\p.1≠X.env.locals/\p.1∉X.fs/\∀ v,p.2.data≠.cell v
 hok:HOk X.prog X.w H s.heap
 len:σ.length=X.N.length
section
variable{X:Cx}{pins:List (Addr×Obj)}{σ:List (Option V)}{H H':Hp}{s:Shared}{h':Heap}
theorem Cx.Ok.nofr(ok:X.Ok){b:Addr}{o:Obj}(e:X.base.get? b=some o):b∉X.fs:=fun a=>by
 have:=(ok.funs.mem a).1
 rw[e] at this;cases this
theorem Inv.bs(I:Inv X pins σ H s):∀ b o,X.base.get? b=some o->s.heap.get? b=some o/\H b=none:=fun b o e=>
 ⟨I.base.keep b o (I.ok.bs b o e).1 (I.ok.bs b o e).2 (I.ok.nofr e) (I.ok.noex b o e),I.base.free b o (I.ok.bs b o e).1 (I.ok.bs b o e).2 (I.ok.noex b o e)⟩
theorem Inv.bk(I:Inv X pins σ H s):∀ b o,X.base.get? b=some o->s.heap.get? b=some o:=fun b o e=>(I.bs b o e).1
theorem Inv.mod(I:Inv X pins σ H s):Mod X.K X.mg X.base:=I.ok.mod
theorem Inv.kIn(I:Inv X pins σ H s):X.K.In s.heap:=I.ok.mod.kin.keeps I.bk
theorem Inv.lt(I:Inv X pins σ H s):X.env.locals < s.heap.objs.size:=let ⟨_,hn,_⟩:=I.loc;hn.lt
theorem Inv.sz(I:Inv X pins σ H s):X.s₀.heap.objs.size<=s.heap.objs.size:=BJ I.ok.above (CY I.lt)
theorem Inv.nofs(I:Inv X pins σ H s){a:Addr}(h:s.heap.objs.size<=a):a∉X.fs:=fun c=>by
 obtain ⟨_,o,b,_⟩:=I.ok.funs.mem c
 exact absurd (A1 (AS b) (BJ I.sz h)) (B7 _)
theorem Inv.cne(I:Inv X pins σ H s):∀ x c,X.env.cells.lookup x=some c->c≠X.env.locals:=fun x c e z=>by
 obtain ⟨v,o,f,d⟩:=I.cell x c e
 obtain ⟨m,⟨o',es,ep,b,a,_⟩,_⟩:=I.loc
 rw[z,b] at f;cases f;rw[a] at d;cases d
theorem Inv.funs(I:Inv X pins σ H s):s.heap.FunFrames X.base X.outer:=by
 have all:∀ (l:List Env),(∀ b∈frs l,b∈X.fs)->X.s₀.heap.FunFrames X.base l->s.heap.FunFrames X.base l:=by
  intro l
  induction l with
  | nil=>intro _ _;trivial
  | cons env r ih=>
   intro f k
   obtain ⟨m,⟨L,o,a,i,j,h⟩,g⟩:=k
   have d:L∈X.fs:=f L (by unfold frs;rw[EF,a];exact AX)
   obtain ⟨sl,e⟩:=I.base.slot L o j (I.ok.frf L d) d fun z=>I.ok.exfs L z d
   exact ⟨m,⟨L,_,a,i,e,h⟩,ih (fun b c=>f b (by unfold frs;rw[EF,a];exact AM _ c)) g⟩
 exact all X.outer (fun _ c=>c) I.ok.funs
theorem Inv.stack(I:Inv X pins σ H s):s.heap.FunFrames X.base X.stack:=by
 rcases I.ok.stk with e|⟨e,a⟩
 ·rw[e];exact I.funs
 ·rw[e]
  obtain ⟨m,b,_⟩:=I.loc
  refine .cons (by rw[I.ok.kind];decide) a b ?_ I.funs
  exact EZ (BJ I.ok.bsz I.ok.above)
theorem Inv.stkSub(I:Inv X pins σ H s):∀ b∈frs X.stack,b∈X.env.locals::X.fs:=fun b a=>by
 rcases I.ok.stk with e|⟨e,c⟩
 ·rw[e] at a;exact AM _ a
 ·rw[e] at a
  unfold frs at a
  rw[EF,c] at a
  exact a
theorem Inv.stkFree(I:Inv X pins σ H s):∀ b∈frs X.stack,H b=none:=fun b a=>by
 rcases AZ.mp (I.stkSub b a) with e|a
 ·rw[e];exact I.free
 ·obtain ⟨_,o,c,_⟩:=I.ok.funs.mem a
  exact I.base.free b o c (I.ok.frf b a) fun z=>I.ok.exfs b z a
theorem Inv.step{g':Array GenState}{t':Nat}{d':Drawn}{ch:List Addr}(I:Inv X pins σ H s)
  (h:∀ b∈ch,(b∈X.ex\/X.s₀.heap.objs.size<=b)/\b≠X.env.locals/\(∀ x c,X.env.cells.lookup x=some c->c≠b)/\∀ p∈X.pn++pins,p.1≠b)
  (keep:∀ b o,b≠X.env.locals->b∉X.fs->b∉ch->s.heap.get? b=some o->H b=none->h'.get? b=some o)
  (slot:∀ b o,b≠X.env.locals->b∈X.fs->b∉ch->s.heap.get? b=some o->H b=none->∃ sl,h'.get? b=some {o with slots:=sl}) (free:∀ b o,b∉ch->s.heap.get? b=some o->H b=none->H' b=none)
  (there:∀ b o,b∉ch->s.heap.get? b=some o->∃ o',h'.get? b=some o')
  (tups:∀ b xs,H b=some (.tup xs)->H' b=some (.tup xs)) (frzs:∀ b o u,H b=some (.frz o u)->H' b=some (.frz o u)) (tbls:∀ b ps,H b=some (.tbl ps)->H' b=some (.tbl ps))
  (ns:∀ m,s.heap.Ns X.env.locals m->h'.Ns X.env.locals m) (hok:HOk X.prog X.w H' h') (hg:AllBare g') :
  Inv X pins σ H' {s with heap:=h',gens:=g',drawn:=d',toks:=t'}:=by
 have A:∀ b o,X.s₀.heap.get? b=some o->b≠X.env.locals:=fun b o e=>BB (A1 (AS e) I.ok.above)
 have j:∀ b o,X.s₀.heap.get? b=some o->b∉X.ex->b∉ch:=fun b o e a t=>by
  rcases (h b t).1 with z|z
  ·exact a z
  ·exact absurd (A1 (AS e) z) (B7 _)
 have g:∀ x c,X.env.cells.lookup x=some c->∀ v,s.heap.IsCell c v->h'.IsCell c v:=fun x c e v B=>by
  obtain ⟨o,y,C⟩:=B
  have f:c∉ch:=fun z=>(h c z).2.2.1 x c e rfl
  by_cases G:c∈X.fs
  ·obtain ⟨sl,q⟩:=slot c o (I.cne x c e) G f y (I.freeC x c e)
   exact ⟨_,q,C⟩
  ·exact ⟨o,keep c o (I.cne x c e) G f y (I.freeC x c e),C⟩
 refine ⟨I.ok,I.os,hg,⟨fun b o e n t a=>?_,fun b o e n t a=>?_,fun b o e n a=>?_,fun b o e a=>?_,fun b xs e=>tups b xs (I.base.tups b xs e),fun b o xs e=>frzs b o xs (I.base.frzs b o xs e),fun b ps e=>?_⟩,?_,fun x c e=>?_,?_,fun x c e=>?_,fun p J=>?_,hok,I.len⟩
 ·exact keep b o (A b o e) t (j b o e a) (I.base.keep b o e n t a) (I.base.free b o e n a)
 ·obtain ⟨sl,e1⟩:=I.base.slot b o e n t a
  obtain ⟨D,e2⟩:=slot b _ (A b o e) t (j b o e a) e1 (I.base.free b o e n a)
  exact ⟨D,e2⟩
 ·obtain ⟨o',e1⟩:=I.base.there b o e a
  exact free b o' (j b o e a) e1 (I.base.free b o e n a)
 ·obtain ⟨o',e1⟩:=I.base.there b o e a
  exact there b o' (j b o e a) e1
 ·exact tbls b ps (I.base.tbls b ps e)
 ·obtain ⟨m,M,L⟩:=I.loc
  refine ⟨m,ns m M,fun i x v e1 e2 K=>?_⟩
  obtain ⟨u,r,l⟩:=L i x v e1 e2 K
  refine ⟨u,r,?_⟩
  rcases l with l|⟨k,c,e,z⟩
  ·exact .inl l
  ·exact .inr ⟨k,c,e,g x c e _ z⟩
 ·obtain ⟨v,z⟩:=I.cell x c e
  exact ⟨v,g x c e v z⟩
 ·obtain ⟨m,⟨o,_,_,y,_⟩,_⟩:=I.loc
  exact free _ o (fun z=>(h _ z).2.1 rfl) y I.free
 ·obtain ⟨v,o,y,C⟩:=I.cell x c e
  exact free c o (fun z=>(h c z).2.2.1 x c e rfl) y (I.freeC x c e)
 ·obtain ⟨e,n,E,F,d⟩:=I.pin p J
  have f:p.1∉ch:=fun z=>(h p.1 z).2.2.2 p J rfl
  exact ⟨keep p.1 p.2 E F f e n,free p.1 p.2 f e n,E,F,d⟩
theorem Inv.un{t':Nat}(I:Inv X pins σ H s)(u:Un X.fs [] H H' s.heap h')(hok:HOk X.prog X.w H' h'):Inv X pins σ H' {s with heap:=h',toks:=t'}:=by
 obtain ⟨m,⟨o,es,ep,g,r⟩,_⟩:=id I.loc
 obtain ⟨sl,i⟩:=u.any g I.free (by simp)
 exact I.step (g':=s.gens) (d':=s.drawn) (ch:=[]) (fun _ z=>nomatch z) (fun b o _ c _ e n=>u.keep b o e n c (by simp)) (fun b o _ c _ e n=>u.slot b o e n c (by simp)) (fun b o _ e n=>u.free b o e n (by simp)) (fun b o _ e=>u.there b o e (by simp)) u.tups u.frzs u.tbls (fun k h=>by
  obtain ⟨o',f,d,a,j⟩:=h
  rw[g] at a;cases a
  exact ⟨_,f,d,i,j⟩) hok I.bare
theorem Inv.call{g':Array GenState}{t':Nat}{d':Drawn}{ch:List Addr}(I:Inv X pins σ H s)(u:Un (frs X.stack) ch H H' s.heap h')(hok:HOk X.prog X.w H' h')(t:AllBare g')
  (d:∀ b∈ch,(b∈X.ex\/X.s₀.heap.objs.size<=b)/\b≠X.env.locals/\(∀ x c,X.env.cells.lookup x=some c->c≠b)/\∀ p∈X.pn++pins,p.1≠b) :
  Inv X pins σ H' {s with heap:=h',gens:=g',drawn:=d',toks:=t'}:=by
 obtain ⟨m,⟨o,es,ep,j,r⟩,_⟩:=id I.loc
 obtain ⟨sl,i⟩:=u.any j I.free fun z=>(d _ z).2.1 rfl
 exact I.step (ch:=ch) d (fun b o i l a e n=>u.keep b o e n (fun z=>(AZ.mp (I.stkSub b z)).elim i l) a) (fun b o _ _ a e n=>u.any e n a) (fun b o a e n=>u.free b o e n a) (fun b o a e=>u.there b o e a) u.tups u.frzs u.tbls (fun v q=>by
  obtain ⟨o',h,g,f,k⟩:=q
  rw[j] at f;cases f
  exact ⟨_,h,g,i,k⟩) hok t
theorem Inv.turned{t':Nat}{it:Addr}(I:Inv X pins σ H s)(k:∀ b o,b≠it->s.heap.get? b=some o->h'.get? b=some o)(j:H it=none)(f:it≠X.env.locals)
  (h1:it∈X.ex\/X.s₀.heap.objs.size<=it) (h2:∀ x c,X.env.cells.lookup x=some c->c≠it) (h:∀ p∈X.pn++pins,p.1≠it):Inv X pins σ H {s with heap:=h',toks:=t'}:=by
 have d:∀ b u,H b=some u->b≠it:=fun b u e z=>by rw[z,j] at e;cases e
 refine I.step (g':=s.gens) (d':=s.drawn) (ch:=[it]) (fun b g=>?_) (fun b o _ _ a e _=>k b o (fun z=>a (by simp[z])) e) (fun b o _ _ a e _=>⟨o.slots,k b o (fun z=>a (by simp[z])) e⟩) (fun _ _ _ _ n=>n)
  (fun b o a e=>⟨o,k b o (fun z=>a (by simp[z])) e⟩) (fun _ _ e=>e) (fun _ _ _ e=>e) (fun _ _ e=>e) (fun m i=>?_) (fun b u e=>?_) I.bare
 ·have e:b=it:=by simpa using g
  subst e
  exact ⟨h1,f,h2,h⟩
 ·obtain ⟨o,es,ep,l,r⟩:=i
  exact ⟨o,es,ep,k _ o (BX f) l,r⟩
 ·refine (I.hok b u e).stay (fun c v a q=>k c v ?_ q) (fun _ q=>q) (fun _ _ q=>q) fun _ _ q=>q
  rcases a with z|z
  · rw [z]; exact d b u e
  · exact d c _ z
theorem Inv.tok(I:Inv X pins σ H s)(t:Nat):Inv X pins σ H {s with toks:=t}:=I.un (h':=s.heap) (t':=t) Un.refl I.hok
theorem Inv.kept{t':Nat}(I:Inv X pins σ H s)(k:∀ b u,s.heap.get? b=some u->h'.get? b=some u):Inv X pins σ H {s with heap:=h',toks:=t'}:=I.un (Un.kept k) (I.hok.kept k)
theorem Inv.laid{a:Addr}{o:HO}{t':Nat}(I:Inv X pins σ H s)(k:∀ b u,s.heap.get? b=some u->h'.get? b=some u)(c:s.heap.objs.size<=a)(new:cN X.prog X.w (upd H a o) h' a o) :
 Inv X pins σ (upd H a o) {s with heap:=h',toks:=t'}:=I.un (Un.laid k c (I.hok.fresh c)) (I.hok.laid k c new)
theorem Inv.write{x e:Addr}{o:HO}{t':Nat}(I:Inv X pins σ H s)(c:Mut (H x))(d:e=x\/H e=some (.own x))(k:∀ b u,b≠e->s.heap.get? b=some u->h'.get? b=some u)(a:∃ u,h'.get? e=some u)
 (new:cN X.prog X.w (upd H x o) h' x o):Inv X pins σ (upd H x o) {s with heap:=h',toks:=t'}:=I.un (Un.write c d k a) (I.hok.write c d k a new)
theorem Inv.pins_of{pins':List (Addr×Obj)}(I:Inv X pins σ H s)(h:∀ p∈pins',s.heap.get? p.1=some p.2/\H p.1=none/\p.1≠X.env.locals/\p.1∉X.fs/\∀ v,p.2.data≠.cell v):Inv X pins' σ H s:=
 ⟨I.ok,I.os,I.bare,I.base,I.loc,I.cell,I.free,I.freeC,fun p a=>(BR.mp a).elim (fun z=>I.pin p (DF _ z)) (h p),I.hok,I.len⟩
theorem z5{N:List Str}(c:N.Nodup){i j:Nat}{x:Str}(a:N[i]? = some x)(b:N[j]? = some x):i=j:=by
 obtain ⟨h1,e1⟩:=AI.mp a
 obtain ⟨h2,e2⟩:=AI.mp b
 exact (List.getElem_inj c).mp (e1.trans e2.symm)
theorem yN{M:Model}{A:Around}{E:Value->Shared->Prop}{i:Nat}{x:Str}{v:V}{u:Value}{Q:Unit->Shared->Prop}(I:Inv X pins σ H s)(hN:X.N.Nodup)(hi:X.N[i]? = some x)(hx:Loc X.env.scope x)(r:bJ v u)
  (h:∀ s',Inv X pins (σ.set i (some v)) H s'->(∃ a,Heap.SameBut a s.heap s'.heap/\(a=X.env.locals\/X.env.cells.lookup x=some a))->Q () s') (hf:X.fn x=true\/X.env.scope.names.lookup x=some .local):wpAny M A (storeName X.env x u) Q E s:=by
 obtain ⟨m,hn,hl⟩:=id I.loc
 have J:(X.env.scope.kind == .class || (X.env.scope.kind == .module && X.env.locals != X.env.globals))=false:=by rw[I.ok.kind];rfl
 have C:i < σ.length:=by rw[I.len];exact (AI.mp hi).1
 have cne:=I.cne
 have g:∀ {a:Addr} {h':Heap},(∃ o,s.heap.get? a=some o/\H a=none)->Heap.SameBut a s.heap h'->HOk X.prog X.w H h':=fun {a h'} ha f b ob e=>by
  obtain ⟨_,_,t⟩:=ha
  refine (I.hok b ob e).stay (fun c R l q=>(f.2 c ?_).trans q) (fun _ q=>q) (fun _ _ q=>q) fun _ _ q=>q
  rintro rfl
  rcases l with rfl|l
  ·rw[t] at e;cases e
  ·rw[t] at l;cases l
 rcases hx with B|B
 ·refine wpAny_storeName_local B hn (fun h' aa f=>?_) J
  obtain ⟨oL,_,_,W,_⟩:=id hn
  refine h _ ⟨I.ok,I.os,I.bare,⟨fun b o e n D hx=>?_,fun b o e n D hx=>?_,I.base.free,fun b o e hx=>?_,I.base.tups,I.base.frzs,I.base.tbls⟩,⟨_,aa,fun j y Z e1 e2 U=>?_⟩,fun y c e=>?_,I.free,I.freeC,fun p hp=>?_,g ⟨oL,W,I.free⟩ f,by simpa using I.len⟩ ⟨_,f,.inl rfl⟩
  ·exact (f.2 b (BB (A1 (AS e) I.ok.above))).trans (I.base.keep b o e n D hx)
  ·obtain ⟨sl,e1⟩:=I.base.slot b o e n D hx
   exact ⟨sl,(f.2 b (BB (A1 (AS e) I.ok.above))).trans e1⟩
  ·obtain ⟨o',e1⟩:=I.base.there b o e hx
   exact ⟨o',(f.2 b (BB (A1 (AS e) I.ok.above))).trans e1⟩
  ·by_cases F:j=i
   ·subst F
    rw[hi] at e1;cases e1
    rw[CF C] at e2
    cases e2
    exact ⟨u,r,.inl ⟨B,by simp⟩⟩
   ·rw[BQ (BX F)] at e2
    obtain ⟨u',Y,q⟩:=hl j y Z e1 e2 U
    refine ⟨u',Y,?_⟩
    rcases q with ⟨k,e⟩|⟨k,c,e,z⟩
    ·refine .inl ⟨k,?_⟩
     have:y≠x:=fun e=>F (z5 hN e1 (e▸hi))
     simp[this,e]
    ·exact .inr ⟨k,c,e,z.sameBut f (cne y c e)⟩
  ·obtain ⟨R,z⟩:=I.cell y c e
   exact ⟨R,z.sameBut f (cne y c e)⟩
  ·obtain ⟨e,n,S,nf,d⟩:=I.pin p hp
   exact ⟨(f.2 p.1 S).trans e,n,S,nf,d⟩
 ·have G:X.fn x=true:=by
   rcases hf with z|z
   ·exact z
   ·rw[z] at B;cases B
  obtain ⟨c,l⟩:=I.ok.has x (.inl B)
  obtain ⟨R,z⟩:=I.cell x c l
  refine wpAny_storeName_cell I.ok.kind B l z (fun h' P f=>?_)
  obtain ⟨oc,O,L⟩:=id z
  refine h {s with heap:=h'} ⟨I.ok,I.os,I.bare,⟨fun b o e n D hx=>?_,fun b o e n D hx=>?_,I.base.free,fun b o e hx=>?_,I.base.tups,I.base.frzs,I.base.tbls⟩,⟨m,hn.sameBut f (BX (cne x c l)),fun j y Z e1 e2 U=>?_⟩,fun y T e=>?_,I.free,I.freeC,fun p hp=>?_,g ⟨oc,O,I.freeC x c l⟩ f,by simpa using I.len⟩ ⟨c,f,.inr l⟩
  ·exact (f.2 b (BB (A1 (AS e) (I.ok.cab x c G l)))).trans (I.base.keep b o e n D hx)
  ·obtain ⟨sl,e1⟩:=I.base.slot b o e n D hx
   exact ⟨sl,(f.2 b (BB (A1 (AS e) (I.ok.cab x c G l)))).trans e1⟩
  ·obtain ⟨o',e1⟩:=I.base.there b o e hx
   exact ⟨o',(f.2 b (BB (A1 (AS e) (I.ok.cab x c G l)))).trans e1⟩
  ·by_cases F:j=i
   ·subst F
    rw[hi] at e1;cases e1
    rw[CF C] at e2
    cases e2
    exact ⟨u,r,.inr ⟨.inl B,c,l,P⟩⟩
   ·rw[BQ (BX F)] at e2
    obtain ⟨u',Y,q⟩:=hl j y Z e1 e2 U
    refine ⟨u',Y,?_⟩
    rcases q with q|⟨k,T,e,z'⟩
    ·exact .inl q
    ·refine .inr ⟨k,T,e,z'.sameBut f ?_⟩
     rintro rfl
     exact F (z5 hN e1 (I.ok.inj _ _ _ e l▸hi))
  ·by_cases K:T=c
   ·subst K;exact ⟨_,P⟩
   ·obtain ⟨w2,z2⟩:=I.cell y T e
    exact ⟨w2,z2.sameBut f K⟩
  ·obtain ⟨e,n,S,nf,d⟩:=I.pin p hp
   refine ⟨(f.2 p.1 ?_).trans e,n,S,nf,d⟩
   intro q
   rw[q,O] at e
   have q':oc=p.2:=BP e
   exact d R (by rw[<-q'];exact L)
theorem p6{M:Model}{A:Around}{E:Value->Shared->Prop}{i:Nat}{x:Str}{v:V}{u:Value}{Q:Unit->Shared->Prop}(I:Inv X pins σ H s)(a:X.N.Nodup)(hi:X.N[i]? = some x)(hx:Loc X.env.scope x)(r:bJ v u)
  (h:∀ s',Inv X pins (σ.set i (some v)) H s'->Q () s') (b:X.fn x=true\/X.env.scope.names.lookup x=some .local):wpAny M A (storeName X.env x u) Q E s:=
 yN I a hi hx r (fun s' c _=>h s' c) b
theorem Inv.call'{s':Shared}{ch:List Addr}(I:Inv X pins σ H s)(d:s'.os=s.os)(u:Un (frs X.stack) ch H H' s.heap s'.heap)(hok:HOk X.prog X.w H' s'.heap)(f:AllBare s'.gens)
  (a:∀ b∈ch,(b∈X.ex\/X.s₀.heap.objs.size<=b)/\b≠X.env.locals/\(∀ x c,X.env.cells.lookup x=some c->c≠b)/\∀ p∈X.pn++pins,p.1≠b):Inv X pins σ H' s':=by
 obtain ⟨h',g',d',t',o'⟩:=s'
 have e:o'=s.os:=d
 subst e
 exact I.call (g':=g') (t':=t') (d':=d') u hok f a
end
abbrev XK:=Value->Option Addr->Hp->Prop
abbrev St:=List (Option V)
abbrev VK:=V->Hp->Prop
abbrev TE:=St->Hp->VK->Prop
abbrev TT:=St->Hp->(Bool->Hp->Prop)->Prop
abbrev TA:=St->Hp->(List V->Hp->Prop)->Prop
structure lJ where
 nx:St->Hp->Prop
 rt:VK
 bk:St->Hp->Prop:=fun _ _=>False
 ct:St->Hp->Prop:=fun _ _=>False
abbrev TS:=lJ->St->Hp->Prop
def EP(X:Cx)(pins:List (Addr×Obj))(σ:St)(Q:VK)(u:Value)(s':Shared):Prop:=∃ v H',Inv X pins σ H' s'/\bJ v u/\Q v H'
def TP(X:Cx)(pins:List (Addr×Obj))(σ:St)(Q:Bool->Hp->Prop)(b:Bool)(s':Shared):Prop:=∃ H',Inv X pins σ H' s'/\Q b H'
def AP(X:Cx)(pins:List (Addr×Obj))(σ:St)(Q:List V->Hp->Prop)(us:List Value)(s':Shared):Prop:=∃ vs H',Inv X pins σ H' s'/\bT vs us/\Q vs H'
def SP(X:Cx)(pins:List (Addr×Obj))(D:lJ)(f:Flow)(s':Shared):Prop:=
 match f with
 | .next=>∃ σ' H',Inv X pins σ' H' s'/\D.nx σ' H'
 | .brk=>∃ σ' H',Inv X pins σ' H' s'/\D.bk σ' H'
 | .cont=>∃ σ' H',Inv X pins σ' H' s'/\D.ct σ' H'
 | .ret u=>∃ v σ' H',Inv X pins σ' H' s'/\bJ v u/\D.rt v H'
def PE(X:Cx)(e:Expr)(t:TE):Prop:=
 ∀ (pins:List (Addr×Obj)) (s:Shared) (σ:St) (H:Hp) (Q:VK),Inv X pins σ H s->t σ H Q->wpAny (model X.prog X.w) X.A (eval e X.env) (EP X pins σ Q) X.xe s
def PT(X:Cx)(e:Expr)(t:TT):Prop:=
 ∀ (pins:List (Addr×Obj)) (s:Shared) (σ:St) (H:Hp) (Q:Bool->Hp->Prop),Inv X pins σ H s->t σ H Q->wpAny (model X.prog X.w) X.A (isTrue e X.env (eval e X.env)) (TP X pins σ Q) X.xe s
def PW(X:Cx)(e:Expr)(t:TT):Prop:=
 ∀ (whole:Sem Value) (pins:List (Addr×Obj)) (s:Shared) (σ:St) (H:Hp) (Q:Bool->Hp->Prop),Inv X pins σ H s->t σ H Q->wpAny (model X.prog X.w) X.A (isTrue e X.env whole) (TP X pins σ Q) X.xe s
theorem PW.pt{X:Cx}{e:Expr}{t:TT}(h:PW X e t):PT X e t:=h _
def PA(X:Cx)(es:List Expr)(t:TA):Prop:=
 ∀ (pos:Pos) (pins:List (Addr×Obj)) (s:Shared) (σ:St) (H:Hp) (Q:List V->Hp->Prop),Inv X pins σ H s->t σ H Q->wpAny (model X.prog X.w) X.A (spliced (backTo pos (starEach es X.env))) (AP X pins σ Q) X.xe s
def PS(X:Cx)(st:Stmt)(t:TS):Prop:=
 ∀ (pins:List (Addr×Obj)) (s:Shared) (σ:St) (H:Hp) (D:lJ),Inv X pins σ H s->t D σ H->wpAny (model X.prog X.w) X.A (exec st X.env) (SP X pins D) X.xe s
def PSs(X:Cx)(st:List Stmt)(t:TS):Prop:=
 ∀ (pins:List (Addr×Obj)) (s:Shared) (σ:St) (H:Hp) (D:lJ),Inv X pins σ H s->t D σ H->wpAny (model X.prog X.w) X.A (execs st X.env) (SP X pins D) X.xe s
theorem thn{α:Type}{t:Sem α}{Q b:α->Shared->Prop}{M:Model}{A:Around}{E:Value->Shared->Prop}{s:Shared}(h:wpAny M A t Q E s)(c:∀ a s,Q a s->b a s):wpAny M A t b E s:=BU h c fun _ _ x=>x
section
variable{X:Cx}
def iR(i:Nat):TE:=fun σ H Q=>∃ v,σ[i]? = some (some v)/\Q v H
def tC(v:V):TE:=fun _ H Q=>Q v H
theorem aOF{i:Nat}{x:Str}{pos:Pos}(k:X.N[i]? = some x)(j:Vis X.env.scope x)(f:(x == ("__debug__":Str))=false:=by decide)(hcd:(x == ("__classdict__":Str))=false:=by decide):PE X (.Name x pos) (iR i):=by
 intro pins s σ H Q I h
 obtain ⟨v,e,h⟩:=h
 obtain ⟨m,p,n⟩:=I.loc
 obtain ⟨u,r,l⟩:=n i x v k e j
 have b:EP X pins σ Q u s:=⟨v,H,I,r,h⟩
 rcases l with ⟨d,o⟩|⟨d,c,g,a⟩
 ·exact wpAny_Name (wpAny_loadName_local I.ok.kind d p o b) f
 ·rcases d with d|d
  · exact wpAny_Name (wpAny_loadName_cell I.ok.kind d g a b) f
  · exact wpAny_Name (wpAny_loadName_free I.ok.kind d g a b hcd) f
theorem aGD{i j pos}:PE X (.Constant (.int i) j pos) (tC (.int i)):=fun _ _ _ H _ I h=>wpAny_Constant_int ⟨.int i,H,I.tok _,⟨_,rfl⟩,h⟩
theorem aRD{b j pos}:PE X (.Constant (.bool b) j pos) (tC (.bl b)):=fun _ _ _ H _ I h=>Constant_bool ⟨.bl b,H,I,rfl,h⟩
theorem aOG{j pos}:PE X (.Constant .none j pos) (tC .non):=fun _ _ _ H _ I h=>Constant_none ⟨.non,H,I,rfl,h⟩
theorem vI{x j pos}:PE X (.Constant (.str x) j pos) (tC (.str x)):=fun _ _ _ H _ I h=>Calls.Constant_str ⟨.str x,H,I.tok _,⟨_,rfl⟩,h⟩
def Gl(X:Cx)(x:Str):Prop:=X.env.kindOf x=some .globalImplicit
theorem pA{E:Value->Shared->Prop}{pins:List (Addr×Obj)}{s:Shared}{σ:St}{H:Hp}{x:Str}{u:Value}{pos:Pos}{Q:Value->Shared->Prop}(I:Inv X pins σ H s)(c:Gl X x)(a:X.mg x=some u)(h:Q u s)
  (b:(x == ("__debug__":Str))=false:=by decide):wpAny (model X.prog X.w) X.A (eval (.Name x pos) X.env) Q E s:=
 FJ I.ok.kind c (Calls.loadGlobal_global (by rw[I.ok.glob];exact I.mod.glob.keeps I.bk) a h) b
theorem nV{E:Value->Shared->Prop}{pins:List (Addr×Obj)}{s:Shared}{σ:St}{H:Hp}{x:Str}{u:Value}{pos:Pos}{Q:Value->Shared->Prop}(I:Inv X pins σ H s)(c:Gl X x)(b:X.mg x=none)(a:bootBuiltins x=some u)(h:Q u s)
  (d:x≠"__name__":=by decide) (hd:(x == ("__debug__":Str))=false:=by decide):wpAny (model X.prog X.w) X.A (eval (.Name x pos) X.env) Q E s:=by
 obtain ⟨e,h1,h2⟩:=I.mod.blt
 exact FJ I.ok.kind c (Calls.loadGlobal_builtin (by rw[I.ok.glob];exact I.mod.glob.keeps I.bk) b (by rw[I.ok.blt];exact h1.keeps I.bk) ((h2 x d).trans a) h) hd
theorem pB{x:Str}{v:V}{u:Value}{pos:Pos}(c:Gl X x)(a:X.mg x=some u)(r:bJ v u)(b:(x == ("__debug__":Str))=false:=by decide):PE X (.Name x pos) (tC v):=
 fun _ _ _ H _ I h=>pA I c a ⟨v,H,I,r,h⟩ b
theorem kS{x:Str}{v:V}{u:Value}{pos:Pos}(c:Gl X x)(b:X.mg x=none)(a:bootBuiltins x=some u)(r:bJ v u)(d:x≠"__name__":=by decide)(hd:(x == ("__debug__":Str))=false:=by decide):PE X (.Name x pos) (tC v):=
 fun _ _ _ H _ I h=>nV I c b a ⟨v,H,I,r,h⟩ d hd
variable{a b:Expr}{ta tb:TE}{pos:Pos}
def PC(X:Cx)(op:CmpOp)(a b:Expr)(t:TE):Prop:=
 ∀ (pins:List (Addr×Obj)) (s:Shared) (σ:St) (H:Hp) (Q:VK),Inv X pins σ H s->t σ H Q->
  wpAny (model X.prog X.w) X.A (eval a X.env) (fun v s₁=>wpAny (model X.prog X.w) X.A (eval b X.env) (fun u s₂=>wpAny (model X.prog X.w) X.A (compareOp op v u) (EP X pins σ Q) X.xe s₂) X.xe s₁) X.xe s
theorem aIO(b:Expr){a:CmpOp}(h:a≠.In)(h2:a≠.NotIn):behindInMarks a b=false:=by
 have e1:(a == CmpOp.In)=false:=by cases a<;>first|rfl|exact absurd rfl h
 have e2:(a == CmpOp.NotIn)=false:=by cases a<;>first|rfl|exact absurd rfl h2
 cases b<;>simp[behindInMarks,e1,e2]
def tB(t:TE):TT:=fun σ H Q=>t σ H fun x H1=>∃ c,x=.bl c/\Q c H1
theorem cK{e:CmpOp}{t:TE}(h:PC X e a b t)(h1:behindInMarks e b=false:=by first|exact aIO _ (by decide) (by decide)|rfl):PT X (.Compare a [e] [b] pos) (tB t):=by
 intro pins s σ H Q I g
 refine wpAny_isTrue_Compare1 (thn (h pins s σ H _ I g) fun v s1 h1=>thn h1 fun u k h2=>thn h2 fun c l f=>?_) h1
 obtain ⟨x,H1,j,r1,i⟩:=f
 obtain ⟨d,rfl,q⟩:=i
 cases r1
 exact DY ⟨H1,j,q⟩
theorem iB{e:Expr}{t:TE}(h:PE X e t)(c:∀ whole,isTrue e X.env whole=(do let v <-whole;standAt e.pos;holding [v] (truthy v)):=by intro _;rfl):PT X e (tB t):=by
 intro pins s σ H Q I b
 refine isTrue_plain (thn (h pins s σ H _ I b) fun v s1 a=>?_) (c _)
 obtain ⟨x,H1,g,r1,f⟩:=a
 obtain ⟨d,rfl,q⟩:=f
 cases r1
 exact DY ⟨H1,g,q⟩
variable{tA tB':TT}{rest:List Expr}
def aOH(t u:TT):TT:=fun σ H Q=>t σ H fun c H1=>if c=true then u σ H1 Q else Q false H1
def tOr(t u:TT):TT:=fun σ H Q=>t σ H fun c H1=>if c=true then Q true H1 else u σ H1 Q
def aIP(t:TT):TT:=fun σ H Q=>t σ H fun c H1=>Q (!c) H1
theorem j2(b:PT X a tA):PW X (.BoolOp .And [a] pos) tA:=by
 intro d pins s σ H Q I h
 refine isTrue_and (thn (b pins s σ H Q I h) fun c s1 e=>?_)
 cases c with
 | true=>exact isTrue_and_nil e
 | false=>exact e
theorem rD(b:PT X a tA):PW X (.BoolOp .Or [a] pos) tA:=by
 intro d pins s σ H Q I h
 refine isTrue_or (thn (b pins s σ H Q I h) fun c s1 e=>?_)
 cases c with
 | false=>exact isTrue_or_nil e
 | true=>exact e
theorem kE(j:PT X a tA)(g:PW X (.BoolOp .And (b::rest) pos) tB'):PW X (.BoolOp .And (a::b::rest) pos) (aOH tA tB'):=by
 intro i pins s σ H Q I h
 refine isTrue_and (thn (j pins s σ H _ I h) fun c s1 d=>?_)
 obtain ⟨H1,f,e⟩:=d
 cases c with
 | true=>exact g i pins s1 σ H1 Q f e
 | false=>exact ⟨H1,f,e⟩
theorem p7(j:PT X a tA)(g:PW X (.BoolOp .Or (b::rest) pos) tB'):PW X (.BoolOp .Or (a::b::rest) pos) (tOr tA tB'):=by
 intro i pins s σ H Q I h
 refine isTrue_or (thn (j pins s σ H _ I h) fun c s1 d=>?_)
 obtain ⟨H1,f,e⟩:=d
 cases c with
 | true=>exact ⟨H1,f,e⟩
 | false=>exact g i pins s1 σ H1 Q f e
theorem k9(b:PT X a tA):PT X (.UnaryOp .Not a pos) (aIP tA):=by
 intro pins s σ H Q I h
 exact isTrue_not (b pins s σ H (fun c H1=>Q (!c) H1) I h)
def aRE(ta tb:TE):TE:=fun σ H Q=>ta σ H fun x H1=>∃ c,x=.bl c/\if c=true then tb σ H1 Q else Q (.bl false) H1
def aRF(ta:TE):TE:=fun σ H Q=>ta σ H fun x H1=>∃ c,x=.bl c/\Q (.bl (!c)) H1
theorem aOI{op}{t:TE}(h:PE X a t):PE X (.BoolOp op [a] pos) t:=fun pins s σ H Q I b=>BoolOp_one (h pins s σ H Q I b)
theorem aOJ(g:PE X a ta)(i:PE X (.BoolOp .And (b::rest) pos) tb):PE X (.BoolOp .And (a::b::rest) pos) (aRE ta tb):=by
 intro pins s σ H Q I h
 refine BoolOp_and (thn (g pins s σ H _ I h) fun v s1 e=>?_)
 obtain ⟨x,H1,f,r1,d⟩:=e
 obtain ⟨c,rfl,d⟩:=d
 cases r1
 refine DY ?_
 cases c with
 | true=>exact i pins s1 σ H1 Q f d
 | false=>exact ⟨.bl false,H1,f,rfl,d⟩
theorem aOK(f:PE X a ta):PE X (.UnaryOp .Not a pos) (aRF ta):=by
 intro pins s σ H Q I h
 refine UnaryOp_ (thn (f pins s σ H _ I h) fun v s1 d=>?_)
 obtain ⟨x,H1,e,r1,b⟩:=d
 obtain ⟨c,rfl,b⟩:=b
 cases r1
 exact not_of (DY ⟨.bl (!c),H1,e,rfl,b⟩)
def tIf(t:TT)(ta tb:TE):TE:=fun σ H Q=>t σ H fun c H1=>if c=true then ta σ H1 Q else tb σ H1 Q
theorem aIQ{c:Expr}(k:PT X c tA)(j:PE X a ta)(i:PE X b tb):PE X (.IfExp c a b pos) (tIf tA ta tb):=by
 intro pins s σ H Q I h
 refine wpAny_IfExp (thn (k pins s σ H _ I h) fun d s1 e=>?_)
 obtain ⟨H1,g,f⟩:=e
 cases d with
 | true=>exact j pins s1 σ H1 Q g f
 | false=>exact i pins s1 σ H1 Q g f
end
def SqL(K:Frag)(H:Hp)(a:Addr)(xs:List V):Prop:=
 Rd H a (.lst xs) \/
  ∃ (o:Obj) (its:Array Value) (n:Nat),K.lookup a=some o/\o.cls=.type "list"/\o.dict=none/\o.data=.seq its n/\its.size<=sizeLine/\bT xs its.toList
def SqT(K:Frag)(H:Hp)(a:Addr)(xs:List V):Prop:=
 Rd H a (.tup xs) \/
  ∃ (o:Obj) (its:Array Value) (n:Nat),K.lookup a=some o/\(o.cls=.type "tuple"/\o.dict=none)/\o.data=.seq its n/\its.size<=sizeLine/\bT xs its.toList
noncomputable def aSJ:Value->Option V
 | .none=>some .non
 | .bool b=>some (.bl b)
 | .int i _=>some (.int i)
 | .str x _=>some (.str x)
 | .bytes b _=>some (.byt b)
 | .float b _=>some (.flt b)
 | .ref a=>some (.ref a)
 | .type n=>some (.ty n)
 | _=>none
theorem bJ.abs{x:V}{u:Value}(r:bJ x u):aSJ u=some x:=by
 cases x with
 | non=>cases r;rfl
 | bl _=>cases r;rfl
 | int _=>obtain ⟨t,rfl⟩:=r;rfl
 | str _=>obtain ⟨t,rfl⟩:=r;rfl
 | byt _=>obtain ⟨t,rfl⟩:=r;rfl
 | flt _=>obtain ⟨t,rfl⟩:=r;rfl
 | ref _=>cases r;rfl
 | ty _=>cases r;rfl
theorem bJ.inj{x y:V}{u:Value}(r:bJ x u)(q:bJ y u):x=y:=BP (r.abs.symm.trans q.abs)
theorem bT.inj:∀ {xs ys:List V} {us:List Value},bT xs us->bT ys us->xs=ys
 | _,_,_,.nil,.nil=>rfl
 | _,_,_,.cons r t,.cons r' t'=>by rw[r.inj r',bT.inj t t']
section
variable{X:Cx}{pins:List (Addr×Obj)}{σ:St}{H:Hp}{s:Shared}{a:Addr}{xs ys:List V}
theorem SqL.of{K:Frag}(h:H a=some (.lst xs)):SqL K H a xs:=.inl (.inl h)
theorem SqT.of{K:Frag}(h:H a=some (.tup xs)):SqT K H a xs:=.inl (.inl h)
theorem Inv.list(I:Inv X pins σ H s)(h:SqL X.K H a xs):∃ its:List Value,bT xs its/\PlainL s.heap a its.toArray/\xs.length<=sizeLine:=by
 rcases h with h|⟨o,its,n,d,f,b,c,g,r⟩
 ·obtain ⟨z,its,n,r,e⟩:=h.ok I.hok
  exact ⟨its,r,⟨_,n,e,rfl,rfl,rfl⟩,z⟩
 ·refine ⟨its.toList,r,⟨o,n,I.kIn a o d,f,b,by simpa using c⟩,?_⟩
  have e:=r.length
  simp only[CU] at e
  omega
theorem Inv.tuple(I:Inv X pins σ H s)(h:SqT X.K H a xs):∃ its:List Value,bT xs its/\IsTup s.heap a its.toArray/\xs.length<=sizeLine:=by
 rcases h with h|⟨o,its,n,c,d,b,f,r⟩
 ·obtain ⟨z,its,r,p⟩:=h.ok I.hok
  exact ⟨its,r,p.t,z⟩
 ·refine ⟨its.toList,r,⟨o,I.kIn a o c,d.1,n,by simpa using b⟩,?_⟩
  have e:=r.length
  simp only[CU] at e
  omega
theorem Inv.list_inj(I:Inv X pins σ H s)(h:SqL X.K H a xs)(h':SqL X.K H a ys):xs=ys:=by
 obtain ⟨c,r,⟨o,n,e,_,_,d⟩,_⟩:=I.list h
 obtain ⟨b,i,⟨o',j,g,_,_,f⟩,_⟩:=I.list h'
 rw[e] at g;cases g
 rw[d] at f
 injection f with d1 _
 have:c=b:=by simpa using congrArg Array.toList d1
 subst this
 exact r.inj i
theorem Inv.tuple_inj(I:Inv X pins σ H s)(h:SqT X.K H a xs)(h':SqT X.K H a ys):xs=ys:=by
 obtain ⟨c,r,⟨o,e,_,n,d⟩,_⟩:=I.tuple h
 obtain ⟨b,i,⟨o',g,_,j,f⟩,_⟩:=I.tuple h'
 rw[e] at g;cases g
 rw[d] at f
 injection f with d1 _
 have:c=b:=by simpa using congrArg Array.toList d1
 subst this
 exact r.inj i
end
abbrev Cx.wish(X:Cx)(E:Value->Shared->Prop):Cx:={X with xe:=E}
abbrev Cx.nox(X:Cx):Cx:=X.wish fun _ _=>False
theorem Cx.Ok.wish{X:Cx}(ok:X.Ok)(E:Value->Shared->Prop):(X.wish E).Ok:=
 ⟨ok.mod,ok.kind,ok.glob,ok.blt,ok.above,ok.inj,ok.has,ok.cab,ok.hd,ok.frames,ok.stk,ok.exf,ok.bs,ok.bsz,ok.noex,ok.exfs,ok.funs,ok.frf⟩
theorem Cx.Ok.unwish{X:Cx}{E:Value->Shared->Prop}(ok:(X.wish E).Ok):X.Ok:=
 ⟨ok.mod,ok.kind,ok.glob,ok.blt,ok.above,ok.inj,ok.has,ok.cab,ok.hd,ok.frames,ok.stk,ok.exf,ok.bs,ok.bsz,ok.noex,ok.exfs,ok.funs,ok.frf⟩
section
variable{X:Cx}{pins:List (Addr×Obj)}{σ:St}{H:Hp}{s:Shared}{E:Value->Shared->Prop}
theorem Inv.wish(I:Inv X pins σ H s)(E:Value->Shared->Prop):Inv (X.wish E) pins σ H s:=⟨I.ok.wish E,I.os,I.bare,I.base,I.loc,I.cell,I.free,I.freeC,I.pin,I.hok,I.len⟩
theorem Inv.unwish(I:Inv (X.wish E) pins σ H s):Inv X pins σ H s:=⟨I.ok.unwish,I.os,I.bare,I.base,I.loc,I.cell,I.free,I.freeC,I.pin,I.hok,I.len⟩
theorem SP.unwish{D:lJ}{f:Flow}{s':Shared}(h:SP (X.wish E) pins D f s'):SP X pins D f s':=by
 cases f with
 | next=>obtain ⟨a,H',I,q⟩:=h;exact ⟨a,H',I.unwish,q⟩
 | brk=>obtain ⟨a,H',I,q⟩:=h;exact ⟨a,H',I.unwish,q⟩
 | cont=>obtain ⟨a,H',I,q⟩:=h;exact ⟨a,H',I.unwish,q⟩
 | ret u=>obtain ⟨v,a,H',I,r,q⟩:=h;exact ⟨v,a,H',I.unwish,r,q⟩
theorem PE.nox{e:Expr}{t:TE}(h:PE X.nox e t):PE X e t:=fun pins s σ H Q I a=>
 BU (h pins s σ H Q (I.wish _) a) (fun _ _ ⟨v,H',b,r,q⟩=>⟨v,H',b.unwish,r,q⟩) fun _ _ z=>False.elim z
theorem PT.nox{e:Expr}{t:TT}(h:PT X.nox e t):PT X e t:=fun pins s σ H Q I a=>
 BU (h pins s σ H Q (I.wish _) a) (fun _ _ ⟨H',b,q⟩=>⟨H',b.unwish,q⟩) fun _ _ z=>False.elim z
theorem PSs.nox{st:List Stmt}{t:TS}(h:PSs X.nox st t):PSs X st t:=fun pins s σ H D I a=>
 BU (h pins s σ H D (I.wish _) a) (fun _ _ q=>q.unwish) fun _ _ z=>False.elim z
end
section
variable{X:Cx}{st:Stmt}{rest:List Stmt}{t u:TS}{e:Expr}{te:TE}{pos:Pos}
def aRG:TS:=fun D σ H=>D.nx σ H
def m6(t u:TS):TS:=fun D σ H=>t {D with nx:=u D} σ H
theorem cR:PSs X [] aRG:=fun _ _ σ H _ I h=>E1 ⟨σ,H,I,h⟩
theorem aF(h1:PS X st t)(h2:PSs X rest u):PSs X (st::rest) (m6 t u):=by
 intro pins s σ H D I h
 refine wpAny_execs_cons (thn (h1 pins s σ H {D with nx:=u D} I h) fun f s1 q=>?_)
 cases f with
 | next=>
  obtain ⟨a,H',b,q⟩:=q
  exact h2 pins s1 a H' D b q
 | ret v=>exact q
 | brk=>exact q
 | cont=>exact q
theorem aP(h1:PS X st t):PSs X [st] t:=by
 intro pins s σ H D I h
 refine wpAny_execs_cons (thn (h1 pins s σ H D I h) fun f s1 q=>?_)
 cases f with
 | next=>exact E1 q
 | ret v=>exact q
 | brk=>exact q
 | cont=>exact q
theorem Inv.quiet{pins:List (Addr×Obj)}{σ:St}{H:Hp}{s:Shared}(I:Inv X pins σ H s):interactive X.env=false:=by simp[interactive,I.ok.kind]
def vJ(te:TE):TS:=fun D σ H=>te σ H fun _ H1=>D.nx σ H1
theorem eU(c:PE X e te)(b:swapsWith e none pos.line X.env=pure false:=by rfl):PS X (.Expr e pos) (vJ te):=by
 intro pins s σ H D I h
 exact wpAny_Expr_any (thn (c pins s σ H _ I h) fun v s1 ⟨x,H1,a,r1,d⟩=>⟨σ,H1,a,d⟩) I.quiet b
def z6(te:TE):TS:=fun D σ H=>te σ H D.rt
theorem bM(b:PE X e te):PS X (.Return (some e) pos) (z6 te):=by
 intro pins s σ H D I h
 exact wpAny_Return_some (thn (b pins s σ H _ I h) fun v s1 ⟨x,H1,a,r1,c⟩=>⟨x,σ,H1,a,r1,c⟩)
def aER(c:TT)(t u:TS):TS:=fun D σ H=>c σ H fun b H1=>if b=true then t D σ H1 else u D σ H1
theorem dO{c:Expr}{a b:List Stmt}{tc:TT}(k:PT X c tc)(j:PSs X a t)(i:PSs X b u):PS X (.If c a b pos) (aER tc t u):=by
 intro pins s σ H D I h
 refine wpAny_If (thn (k pins s σ H _ I h) fun d s1 e=>?_)
 obtain ⟨H1,g,f⟩:=e
 cases d with
 | true=>exact j pins s1 σ H1 D g f
 | false=>exact i pins s1 σ H1 D g f
end
abbrev TG:=V->St->Hp->(St->Hp->Prop)->Prop
abbrev TGs:=List V->St->Hp->(St->Hp->Prop)->Prop
def PG(X:Cx)(target:Expr)(t:TG):Prop:=
 ∀ (pins:List (Addr×Obj)) (s:Shared) (σ:St) (H:Hp) (v:V) (u:Value) (Q:St->Hp->Prop),Inv X pins σ H s->bJ v u->t v σ H Q->
  wpAny (model X.prog X.w) X.A (assign target X.env u) (fun _ s'=>∃ σ' H',Inv X pins σ' H' s'/\Q σ' H') X.xe s
def PGs(X:Cx)(ts:List Expr)(t:TGs):Prop:=
 ∀ (pins:List (Addr×Obj)) (s:Shared) (σ:St) (H:Hp) (vs:List V) (us:List Value) (Q:St->Hp->Prop),Inv X pins σ H s->bT vs us->t vs σ H Q->
  wpAny (model X.prog X.w) X.A (assignInOrder ((assignEach ts X.env).map (·.2)) us) (fun _ s'=>∃ σ' H',Inv X pins σ' H' s'/\Q σ' H') X.xe s
abbrev aES:=V->V->V->Hp->(Hp->Prop)->Prop
def aIR(X:Cx)(t:aES):Prop:=
 ∀ (pins:List (Addr×Obj)) (s:Shared) (σ:St) (H:Hp) (o i v:V) (ov iv u:Value) (Q:Hp->Prop),Inv X pins σ H s->bJ o ov->bJ i iv->bJ v u->t o i v H Q->
  wpAny (model X.prog X.w) X.A (setItem ov iv u) (fun _ s'=>∃ H',Inv X pins σ H' s'/\Q H') X.xe s
abbrev TIp:=V->V->Hp->VK->Prop
def PIp(X:Cx)(op:Operator)(t:TIp):Prop:=
 ∀ (pins:List (Addr×Obj)) (s:Shared) (σ:St) (H:Hp) (x y:V) (v u:Value) (Q:VK),Inv X pins σ H s->bJ x v->bJ y u->t x y H Q->
  wpAny (model X.prog X.w) X.A (inplaceOp op v u) (EP X pins σ Q) X.xe s
section
variable{X:Cx}{pos:Pos}
def j3(i:Nat):TG:=fun v σ H Q=>Q (σ.set i (some v)) H
theorem bO{i:Nat}{x:Str}(a:X.N.Nodup)(hi:X.N[i]? = some x)(hx:Loc X.env.scope x)(b:X.fn x=true\/X.env.scope.names.lookup x=some .local:=by first|exact .inl rfl|exact .inr rfl):PG X (.Name x pos) (j3 i):=by
 intro pins s σ H v u Q I r h
 exact wpAny_assign_Name (p6 I a hi hx r (fun s' c=>⟨_,H,c,h⟩) b)
def aIS:TGs:=fun vs σ H Q=>vs=[]/\Q σ H
def aKS(t:TG)(u:TGs):TGs:=fun vs σ H Q=>∃ v r,vs=v::r/\t v σ H fun σ' H'=>u r σ' H' Q
theorem kT:PGs X [] aIS:=by
 intro pins s σ H vs us Q I r h
 obtain ⟨e,h⟩:=h
 subst e
 cases r
 exact assignInOrder_nil ⟨σ,H,I,h⟩
theorem dF{e:Expr}{es:List Expr}{t:TG}{u:TGs}(h1:PG X e t)(h2:PGs X es u)
  (f:(assignEach (e::es) X.env).map (·.2)=assign e X.env::(assignEach es X.env).map (·.2):=by rfl):PGs X (e::es) (aKS t u):=by
 intro pins s σ H vs us Q I r h
 obtain ⟨v,g,e1,h⟩:=h
 subst e1
 cases r with
 | cons r rr=>
  rw[f]
  refine assignInOrder_cons (thn (h1 pins s σ H _ _ _ I r h) fun _ s1 a=>?_)
  obtain ⟨b,H1,d,c⟩:=a
  exact h2 pins s1 b H1 _ _ Q d rr c
def aOL(K:Frag)(n:Nat)(t:TGs):TG:=fun v σ H Q=>∃ a xs,v=.ref a/\SqT K H a xs/\xs.length=n/\t xs σ H Q
theorem mO{es:List Expr}{k:Nat}{t:TGs}{n:Nat}(q:X.calm=true)(h:PGs X es t)
  (l:(assignEach es X.env).length=n:=by rfl) (hst:(assignEach es X.env).findIdx? (·.1)=none:=by rfl):PG X (.Tuple es k pos) (aOL X.K n t):=by
 intro pins s σ H v u Q I r c
 obtain ⟨a,xs,e1,i,f,c⟩:=c
 subst e1
 cases r
 obtain ⟨g,d,p,w⟩:=I.tuple i
 refine assign_Tuple_tuple (I.ok.hd q) p (by simp[l,<-f,d.length]) hst fun h' m=>?_
 have j:Inv X pins σ H {s with heap:=h'}:=I.kept (t':=s.toks) fun b o e=>m b o (BB (AS e)) e
 exact h pins _ σ H xs _ Q j (by simpa using d) c
def aIT(to ti:TE)(t:aES):TG:=fun v σ H Q=>to σ H fun o H1=>ti σ H1 fun i H2=>t o i v H2 fun H3=>Q σ H3
theorem mP{o i:Expr}{to b:TE}{t:aES}(j:PE X o to)(hi:PE X i b)(m:aIR X t)
  (n:∀ v,assign (.Subscript o i pos) X.env v=(do
   let ov <-holding [v] (eval o X.env)
   let iv <-holding [v,ov] (eval i X.env)
   standAt pos
   holding [v,ov,iv] (setItem ov iv v)
   release [v,ov,iv] []):=by intro _;rfl):PG X (.Subscript o i pos) (aIT to b t):=by
 intro pins s σ H v u Q I r h
 rw[n]
 refine AA (CM (thn (j pins s σ H _ I h) fun ov s1 a=>?_))
 obtain ⟨x,H1,l,r1,e⟩:=a
 refine AA (CM (thn (hi pins s1 σ H1 _ l e) fun iv d a=>?_))
 obtain ⟨y,H2,c,r2,k⟩:=a
 refine AA (CI (AA (CM (thn (m pins d σ H2 x y v ov iv u _ c r1 r2 r k) fun _ p a=>?_))))
 obtain ⟨H3,g,f⟩:=a
 exact wpAny_release ⟨σ,H3,g,f⟩
def kG(te:TE)(g:TG):TS:=fun D σ H=>te σ H fun x H1=>g x σ H1 D.nx
theorem gI{tg e:Expr}{te:TE}{g:TG}(b:PE X e te)(f:PG X tg g)(i:swapsWithSole [tg] e pos.line X.env=pure false:=by rfl)(hw:swappedStores [tg] e X.env=pure none:=by rfl)
  (h1:(assignEach [tg] X.env).map (·.2)=[assign tg X.env]:=by rfl):PS X (.Assign [tg] e pos) (kG te g):=by
 intro pins s σ H D I h
 refine wpAny_Assign_stores (thn (b pins s σ H _ I h) fun v s1 a=>?_) i hw
 obtain ⟨x,H1,d,r1,c⟩:=a
 rw[h1]
 exact thn (f pins s1 σ H1 x v _ d r1 c) fun _ j q=>q
theorem aK{i:Nat}{x:Str}{e:Expr}{te:TE}{pos':Pos}(f:X.N.Nodup)(hi:X.N[i]? = some x)(hx:Loc X.env.scope x)(b:PE X e te)(j:swapsWith e (some (.Name x pos')) pos.line X.env=pure false:=by rfl)(hf:X.fn x=true\/X.env.scope.names.lookup x=some .local:=by exact .inl rfl) :
  PS X (.Assign [.Name x pos'] e pos) (kG te (j3 i)):=by
 intro pins s σ H D I h
 refine wpAny_Assign_Name (thn (b pins s σ H _ I h) fun v s1 a=>?_) j
 obtain ⟨y,H1,g,r1,d⟩:=a
 exact p6 g f hi hx r1 (fun k c=>⟨_,H1,c,d⟩) hf
def aOM(i:Nat)(te:TE)(ti:TIp):TS:=fun D σ H=>∃ x,σ[i]? = some (some x)/\te σ H fun y H1=>ti x y H1 fun z H2=>D.nx (σ.set i (some z)) H2
theorem rE{i:Nat}{x:Str}{e:Expr}{te:TE}{n:Operator}{o:TIp}{pos':Pos}(M:X.N.Nodup)(hi:X.N[i]? = some x)(hx:Loc X.env.scope x)(L:PE X e te)(t:PIp X n o)(q:X.fn x=true\/X.env.scope.names.lookup x=some .local:=by first|exact .inl rfl|exact .inr rfl) :
  PS X (.AugAssign (.Name x pos') n e pos) (aOM i te o):=by
 intro pins s σ H D I h
 obtain ⟨v,e1,h⟩:=h
 obtain ⟨m,G,B⟩:=I.loc
 have j:Vis X.env.scope x:=by rcases hx with k|k;exact .inl k;exact .inr (.inl k)
 obtain ⟨u,r,l⟩:=B i x v hi e1 j
 refine wpAny_AugAssign_Name ?_
 have p:wpAny (model X.prog X.w) X.A (eval e X.env) (fun w g=>wpAny (model X.prog X.w) X.A (inplaceOp n u w) (fun r f=>wpAny (model X.prog X.w) X.A (storeName X.env x r) (fun _=>SP X pins D .next) X.xe f) X.xe g) X.xe s:=by
  refine thn (L pins s σ H _ I h) fun w s1 b=>?_
  obtain ⟨y,H1,P,r1,F⟩:=b
  refine thn (t pins s1 σ H1 v y u w _ P r r1 F) fun z R b=>?_
  obtain ⟨Q,H2,E,r2,K⟩:=b
  exact p6 E M hi hx r2 (fun S J=>⟨_,H2,J,K⟩) q
 rcases l with ⟨a,O⟩|⟨a,c,C,d⟩
 ·exact wpAny_loadName_local I.ok.kind a G O p
 ·rcases a with a|a
  ·exact wpAny_loadName_cell I.ok.kind a C d p
  ·rcases hx with k|k
   ·have:X.env.scope.names.lookup x=some .free:=a
    rw[k] at this;cases this
   ·have:X.env.scope.names.lookup x=some .free:=a
    rw[k] at this;cases this
def ipI(f:Int->Int->Int):TIp:=fun x y H Q=>∃ i j,x=.int i/\y=.int j/\Q (.int (f i j)) H
theorem aON:PIp X .Add (ipI fun i j=>i+j):=by
 intro pins s σ H x y v u Q I r1 r2 h
 obtain ⟨i,j,e1,e2,q⟩:=h
 subst e1;subst e2
 obtain ⟨t,rfl⟩:=r1
 obtain ⟨a,rfl⟩:=r2
 exact iadd_int ⟨.int _,H,I.tok _,⟨_,rfl⟩,q⟩
theorem aOO:PIp X .Sub (ipI fun i j=>i - j):=by
 intro pins s σ H x y v u Q I r1 r2 h
 obtain ⟨i,j,e1,e2,q⟩:=h
 subst e1;subst e2
 obtain ⟨t,rfl⟩:=r1
 obtain ⟨a,rfl⟩:=r2
 exact isub_int ⟨.int _,H,I.tok _,⟨_,rfl⟩,q⟩
end
section
variable{X:Cx}{pos:Pos}
def aGE(c:TT)(tb:TS):TS:=fun D σ H=>∃ W:Nat->St->Hp->Prop,(∃ m,W m σ H)/\∀ m σ H,W m σ H->
 c σ H fun b H1=>if b=true then ∃ N:St->Hp->Prop,(∀ σ' H',N σ' H'->∃ m',m' < m/\W m' σ' H')/\tb {D with nx:=N,ct:=N,bk:=D.nx} σ H1 else D.nx σ H1
theorem cP{c:Expr}{body:List Stmt}{tc:TT}{tb:TS}(q:PassesOwn (model X.prog X.w) X.A X.env X.xe)(z:PT X c tc)(x:PSs X body tb):PS X (.While c body [] pos) (aGE tc tb):=by
 intro pins s σ H D I h
 obtain ⟨W,⟨y,u⟩,d⟩:=h
 refine wpAny_While (codeAny_whileLoop (fun n s'=>∃ σ' H',Inv X pins σ' H' s'/\W n σ' H') ?_ y ⟨σ,H,I,u⟩)
 rintro n s1 ⟨σ1,H1,I1,w1⟩
 refine DB q (thn (z pins s1 σ1 H1 _ I1 (d n σ1 H1 w1)) fun b t i=>?_)
 obtain ⟨H2,p,g⟩:=i
 cases b with
 | true=>
  obtain ⟨N,r,g⟩:=g
  rw[AD rfl]
  refine DB q (thn (x pins t σ1 H2 _ p g) fun f B e=>?_)
  cases f with
  | next=>
   obtain ⟨a,H3,j,l⟩:=e
   obtain ⟨o,m,k⟩:=r a H3 l
   exact ⟨o,m,a,H3,j,k⟩
  | cont=>
   obtain ⟨a,H3,j,l⟩:=e
   obtain ⟨o,m,k⟩:=r a H3 l
   exact ⟨o,m,a,H3,j,k⟩
  | brk=>exact e
  | ret v=>exact e
 | false=>
  rw[AE BT]
  exact E1 ⟨σ1,H2,p,g⟩
end
structure It where
 go:Nat->Hp->Prop
 yld:Nat->Hp->V->Hp->Prop
 stop:Nat->Hp->Prop
def lP(X:Cx)(pins:List (Addr×Obj))(H:Hp)(b:Addr):Prop:=
 H b=none/\b≠X.env.locals/\b∉X.fs/\(b∈X.ex\/X.s₀.heap.objs.size<=b)/\(∀ x c,X.env.cells.lookup x=some c->c≠b)/\∀ p∈X.pn++pins,p.1≠b
theorem Inv.fpOk{X:Cx}{pins:List (Addr×Obj)}{σ:St}{H H':Hp}{s:Shared}{b:Addr}(I:Inv X pins σ H s)(a:s.heap.objs.size<=b)(f:H' b=none):lP X pins H' b:=by
 refine ⟨f,C9 (A1 I.lt a),I.nofs a,.inr (BJ I.sz a),fun x c e z=>?_,fun p d z=>?_⟩
 ·obtain ⟨v,q⟩:=I.cell x c e
  exact absurd (A1 q.lt (by rw[z];exact a)) (B7 _)
 ·exact absurd (A1 (AS (I.pin p d).1) (by rw[z];exact a)) (B7 _)
structure Turn(P:Program)(w:World)(K:Frag)(tg:Expr)(J:It)(fp:List Addr)(it:Addr)(tn:Nat->Heap->Prop):Prop where
 mem:it∈fp
 obj:∀ i h,tn i h->∀ b∈fp,∃ o,h.get? b=some o/\∀ v,o.data≠.cell v
 keep:∀ i h h',tn i h->(∀ b∈fp,∀ o,h.get? b=some o->h'.get? b=some o)->tn i h'
 item:∀ (X:Cx),X.prog=P->X.w=w->X.K=K->X.calm=true->∀ (i:Nat) (pins:List (Addr×Obj)) (s:Shared) (σ:St) (H:Hp) (E:Value->Shared->Prop),Inv X pins σ H s->(∀ b∈fp,lP X pins H b)->tn i s.heap->J.go i H->
  wpAny (model P w) X.A (pyNext (.ref it)) (fun r s1=>∃ u,r=some u /\
   wpAny (model P w) X.A (letOwnedTupleGo tg (.ref it) u) (fun _ s2=>∃ x H',Inv X pins σ H' s2/\bJ x u/\J.yld i H x H'/\tn (i+1) s2.heap/\∀ b∈fp,H' b=none) E s1) E s
 done:∀ (X:Cx),X.prog=P->X.w=w->X.K=K->X.calm=true->∀ (i:Nat) (pins:List (Addr×Obj)) (s:Shared) (σ:St) (H:Hp) (E:Value->Shared->Prop),Inv X pins σ H s->(∀ b∈fp,lP X pins H b)->tn i s.heap->J.stop i H->
  wpAny (model P w) X.A (pyNext (.ref it)) (fun r s1=>r=none/\Inv X pins σ H s1) E s
 self:∀ (A:Around) (i:Nat) (s:Shared) (Q:Value->Shared->Prop) (E:Value->Shared->Prop),tn i s.heap->Q (.ref it) s->wpAny (model P w) A (pyIter (.ref it)) Q E s
abbrev TI:=St->Hp->(It->Hp->Prop)->Prop
def PIE(X:Cx)(pins:List (Addr×Obj))(σ:St)(tg:Expr)(R:It->Hp->Prop)(itv:Value)(s2:Shared):Prop:=
 ∃ (it:Addr) (fp:List Addr) (tn:Nat->Heap->Prop) (J:It) (H':Hp),itv=.ref it/\Inv X pins σ H' s2/\Turn X.prog X.w X.K tg J fp it tn/\tn 0 s2.heap/\(∀ b∈fp,lP X pins H' b)/\R J H'
def PI(X:Cx)(tg iter:Expr)(wi:TI):Prop:=
 ∀ (pins:List (Addr×Obj)) (s:Shared) (σ:St) (H:Hp) (R:It->Hp->Prop),Inv X pins σ H s->wi σ H R->
  wpAny (model X.prog X.w) X.A (eval iter X.env) (fun v s1=>wpAny (model X.prog X.w) X.A (pyIter v) (PIE X pins σ tg R) X.xe s1) X.xe s
theorem zQ {M : Model} {A : Around} {E : Value -> Shared -> Prop} {s : Shared} {tg : Expr} {it : Addr} {u : Value} {o : Obj} {n : String} {vs : Array Value} {Q : Unit -> Shared -> Prop} (d : s.heap.get? it = some o) (e : o.cls = .type n) (b : o.data = .fields vs)
    (c : ["enumerate", "zip", "dict_itemiterator", "dict_reverseitemiterator", "odict_iterator", "itertools.zip_longest", "itertools.pairwise"].contains n = false) (a : Q () s) : wpAny M A (letOwnedTupleGo tg (.ref it) u) Q E s := by
  unfold letOwnedTupleGo
  cases tg <;> first
    | exact AC a
    | (cases u <;> first
        | exact AC a
        | (refine AA (wpAny_load d ?_)
           rw [e, b]
           show wpAny M A (if (["enumerate", "zip", "dict_itemiterator", "dict_reverseitemiterator", "odict_iterator", "itertools.zip_longest", "itertools.pairwise"].contains n && vs[0]? == some (rawInt _)) = true then _ else _) Q E s
           rw [AE (by intro h; rw [c, Bool.false_and] at h; cases h)]
           exact AC a))
def Itl(K:Frag)(a:Addr):It:=
 ⟨fun i H=>∃ xs x,SqL K H a xs/\xs[i]? = some x,fun i H x H'=>H'=H/\∀ xs,SqL K H a xs->xs[i]? = some x,fun i H=>∃ xs,SqL K H a xs/\xs.length<=i⟩
def Itt(K:Frag)(a:Addr):It:=
 ⟨fun i H=>∃ xs x,SqT K H a xs/\xs[i]? = some x,fun i H x H'=>H'=H/\∀ xs,SqT K H a xs->xs[i]? = some x,fun i H=>∃ xs,SqT K H a xs/\xs.length<=i⟩
noncomputable def Itr(lo:Int)(n:Nat):It:=⟨fun i _=>i < n,fun i H x H'=>H'=H/\x=.int (lo+i),fun i _=>n<=i⟩
theorem aGF{P:Program}{w:World}{K:Frag}{tg:Expr}(a it:Addr):Turn P w K tg (Itl K a) [it] it (fun i h=>h.IsListIter it a i) where
 mem:=by simp
 obj:=fun i h st b f=>by
  have e:b=it:=by simpa using f
  subst e
  obtain ⟨o,e,c,d⟩:=st
  exact ⟨o,e,fun v z=>by rw[d] at z;cases z⟩
 keep:=fun i h h' st k=>st.at fun o e=>k it (by simp) o e
 item:=by
  intro X t C G J i pins s σ H E I j st A
  subst t C G
  obtain ⟨xs,x,l,B⟩:=A
  obtain ⟨r,D,p,L⟩:=I.list l
  obtain ⟨u,Q,O⟩:=D.get B
  obtain ⟨n,F,S,m,y,q⟩:=j it (by simp)
  refine wpAny_pyNext_list_item st p.isList (x:=u) (by simpa using Q) fun h' g M=>?_
  have T:Inv X pins σ H {s with heap:=h'}:=I.turned (t':=s.toks) (fun b o f e=>(M.2 b f).trans e) n F m y q
  obtain ⟨o,e,c,d⟩:=id g
  exact ⟨u,rfl,zQ (s:={s with heap:=h'}) e c d (by decide) ⟨x,H,T,O,⟨rfl,fun ys R=>by rw[I.list_inj R l];exact B⟩,g,fun b f=>(j b f).1⟩⟩
 done:=by
  intro X t C G J i pins s σ H E I j st A
  subst t C G
  obtain ⟨xs,l,B⟩:=A
  obtain ⟨r,D,p,L⟩:=I.list l
  obtain ⟨n,F,S,m,y,q⟩:=j it (by simp)
  have U:=D.length
  exact wpAny_pyNext_list_end (I.ok.hd J) st p.isList (by simp;omega) fun h' N=>⟨rfl,I.turned (t':=s.toks) (fun b o f e=>N b o f e) n F m y q⟩
 self:=fun _ _ _ _ _ st h=>wpAny_pyIter_listiter st h
theorem aET{P:Program}{w:World}{K:Frag}{tg:Expr}(a it:Addr):Turn P w K tg (Itt K a) [it] it (fun i h=>h.IsTupleIter it a i) where
 mem:=by simp
 obj:=fun i h st b f=>by
  have e:b=it:=by simpa using f
  subst e
  obtain ⟨o,e,c,d⟩:=st
  exact ⟨o,e,fun v z=>by rw[d] at z;cases z⟩
 keep:=fun i h h' st k=>st.at fun o e=>k it (by simp) o e
 item:=by
  intro X t C G J i pins s σ H E I l st A
  subst t C G
  obtain ⟨xs,x,m,B⟩:=A
  obtain ⟨g,D,p,L⟩:=I.tuple m
  obtain ⟨u,Q,O⟩:=D.get B
  obtain ⟨q,F,S,n,y,r⟩:=l it (by simp)
  refine wpAny_pyNext_tuple_item st (show s.heap.IsTuple a g.toArray from p) (x:=u) (by simpa using Q) fun h' j M=>?_
  have T:Inv X pins σ H {s with heap:=h'}:=I.turned (t':=s.toks) (fun b o f e=>(M.2 b f).trans e) q F n y r
  obtain ⟨o,e,c,d⟩:=id j
  exact ⟨u,rfl,zQ (s:={s with heap:=h'}) e c d (by decide) ⟨x,H,T,O,⟨rfl,fun ys R=>by rw[I.tuple_inj R m];exact B⟩,j,fun b f=>(l b f).1⟩⟩
 done:=by
  intro X t C G J i pins s σ H E I l st A
  subst t C G
  obtain ⟨xs,m,B⟩:=A
  obtain ⟨g,D,p,L⟩:=I.tuple m
  obtain ⟨q,F,S,n,y,r⟩:=l it (by simp)
  have U:=D.length
  exact wpAny_pyNext_tuple_end (I.ok.hd J) st (show s.heap.IsTuple a g.toArray from p) (by simp;omega) fun h' N=>⟨rfl,I.turned (t':=s.toks) (fun b o f e=>N b o f e) q F n y r⟩
 self:=fun _ _ _ _ _ st h=>wpAny_pyIter_tupleiter st h
theorem aEU{P:Program}{w:World}{K:Frag}{tg:Expr}(it:Addr)(lo:Int)(n:Nat):Turn P w K tg (Itr lo n) [it] it (fun i h=>IsRangeIter h it (lo+(i:Nat) * 1) ((n:Int) - (i:Nat)) 1) where
 mem:=by simp
 obj:=fun i h st b a=>by
  have e:b=it:=by simpa using a
  subst e
  exact ⟨_,st,fun v z=>by
   have B:Data.fields _=Data.cell v:=z
   cases B⟩
 keep:=fun i h h' st k=>k it (by simp) _ st
 item:=by
  intro X p f x u i pins s σ H E I d st r
  subst p f x
  obtain ⟨j,m,C,g,q,l⟩:=d it (by simp)
  have W:=Walks.range (prog:=X.prog) (w:=X.w) (I.ok.hd u) it lo 1 n
  refine W.item i s _ _ r st fun v h' tk y c A=>?_
  obtain ⟨t,rfl⟩:=y
  have F:Inv X pins σ H {s with heap:=h',toks:=tk}:=I.turned (fun b o a e=>A b o (by simpa using a) e) j m g q l
  refine ⟨_,rfl,zQ (s:={s with heap:=h',toks:=tk}) (n:="range_iterator") c rfl rfl (by decide) ⟨.int (lo+i),H,F,⟨t,?_⟩,⟨rfl,rfl⟩,c,fun b a=>(d b a).1⟩⟩
  rw[Int.mul_one]
 done:=by
  intro X p f x u i pins s σ H E I d st r
  subst p f x
  obtain ⟨j,m,C,g,q,l⟩:=d it (by simp)
  exact wpAny_pyNext_range_end (I.ok.hd u) st (by have:n<=i:=r;omega) fun h' D=>⟨rfl,I.turned (t':=s.toks) (fun b o a e=>D b o a e) j m g q l⟩
 self:=fun _ _ _ _ _ st h=>wpAny_pyIter_rangeiter st h
section
variable{X:Cx}{tg:Expr}
theorem z7{pins:List (Addr×Obj)}{σ:St}{H:Hp}{s:Shared}{R:It->Hp->Prop}{E:Value->Shared->Prop}{lo hi:Int}{t u v:Tok}{tk:Nat}(I:Inv X pins σ H s)(h1 : -(2 ^ 62)<=lo)(h2:lo < 2 ^ 62)(d : -(2 ^ 62)<=hi)(f:hi < 2 ^ 62)
  (q:R (Itr lo (hi - lo).toNat) H):wpAny (model X.prog X.w) X.A (pyIter (.ref s.heap.objs.size)) (PIE X pins σ tg R) E {s with heap:=s.heap.push {cls:=.type "range",data:=.fields #[.int lo t,.int hi u,.int 1 v]},toks:=tk}:=by
 refine wpAny_pyIter_range (IsRange.new ..) (small_one h1 h2 d f) ?_
 have a:Inv X pins σ H {s with heap:=s.heap.push {cls:=.type "range",data:=.fields #[.int lo t,.int hi u,.int 1 v]},toks:=tk}:=I.kept fun b o e=>AJ _ e
 refine ⟨(s.heap.push {cls:=.type "range",data:=.fields #[.int lo t,.int hi u,.int 1 v]}).objs.size,[(s.heap.push {cls:=.type "range",data:=.fields #[.int lo t,.int hi u,.int 1 v]}).objs.size],_,_,H,rfl,
  a.kept (t':=tk) fun b o e=>AJ _ e,aEU _ lo (hi - lo).toNat,?_,fun b c=>?_,q⟩
 ·have e1:lo+((0:Nat):Int) * 1=lo:=by simp
  have e2:(((hi - lo).toNat:Nat):Int) - ((0:Nat):Int)=Builtin.Range.rangeSize lo hi 1:=by rw[rangeSize_one];split<;>omega
  show IsRangeIter _ _ (lo+((0:Nat):Int) * 1) ((((hi - lo).toNat:Nat):Int) - ((0:Nat):Int)) 1
  rw[e1,e2]
  exact A9 _ rfl
 ·have e:b=(s.heap.push {cls:=.type "range",data:=.fields #[.int lo t,.int hi u,.int 1 v]}).objs.size:=by simpa using c
  subst e
  exact a.fpOk (AG _) (a.hok.fresh (AG _))
def aKT(ta:TA):TI:=fun σ H R=>ta σ H fun vs H1=>∃ j:Int,vs=[.int j] /\ -(2 ^ 62)<=j/\j < 2 ^ 62/\R (Itr 0 j.toNat) H1
def aKU(ta:TA):TI:=fun σ H R=>ta σ H fun vs H1=>∃ i j:Int,vs=[.int i,.int j]/\(-(2 ^ 62)<=i/\i < 2 ^ 62 /\ -(2 ^ 62)<=j/\j < 2 ^ 62)/\R (Itr i (j - i).toNat) H1
theorem fK{a:Expr}{ta:TA}{p pos:Pos}(i:Gl X "range")(f:X.mg "range"=none)(l:PA X [a] ta)(k:starEach [a] X.env=[(false,eval a X.env)]:=by rfl):PI X tg (.Call (.Name "range" p) [a] [] pos) (aKT ta):=by
 intro pins s σ H R I h
 refine Call_ (nV I i f boot_range (CP (thn (l pos pins s σ H _ I h) fun us s1 c=>?_) k rfl))
 obtain ⟨vs,H1,g,r1,b⟩:=c
 obtain ⟨j,e,b,d,q⟩:=b
 subst e
 cases r1 with
 | cons r rr=>
  cases rr
  obtain ⟨t,rfl⟩:=r
  exact call_range_1 (z7 g (by omega) (by omega) b d (by simpa using q))
theorem aGG{a b:Expr}{ta:TA}{p pos:Pos}(m:Gl X "range")(k:X.mg "range"=none)(u:PA X [a,b] ta)(o:starEach [a,b] X.env=[(false,eval a X.env),(false,eval b X.env)]:=by rfl)(hs2:starEach [b] X.env=[(false,eval b X.env)]:=by rfl) :
  PI X tg (.Call (.Name "range" p) [a,b] [] pos) (aKU ta):=by
 intro pins s σ H R I h
 refine Call_ (nV I m k boot_range (CP (thn (u pos pins s σ H _ I h) fun us s1 d=>?_) (by rw[o,hs2]) (by rw[hs2];rfl)))
 obtain ⟨vs,H1,l,r1,c⟩:=d
 obtain ⟨i,j,e,⟨c,g,n,f⟩,q⟩:=c
 subst e
 cases r1 with
 | cons r rr=>
  cases rr with
  | cons r' rr=>
   cases rr
   obtain ⟨t,rfl⟩:=r
   obtain ⟨v,rfl⟩:=r'
   exact call_range_2 (z7 l c g n f q)
def aOP(wi:TI)(g:TG)(tb:TS):TS:=fun D σ H=>wi σ H fun J H1=>∃ W:Nat->Nat->St->Hp->Prop,(∃ m,W 0 m σ H1)/\∀ i m σ H,W i m σ H->
 (J.stop i H/\D.nx σ H)\/(J.go i H/\∃ N:St->Hp->Prop,(∀ σ' H',N σ' H'->∃ m',m' < m/\W (i+1) m' σ' H')/\∀ x H',J.yld i H x H'->g x σ H' fun σ2 H2=>tb {D with nx:=N,ct:=N,bk:=D.nx} σ2 H2)
noncomputable def rF(fp:List Addr)(h:Heap):List (Addr×Obj):=fp.filterMap fun b=>(h.get? b).map fun o=>(b,o)
theorem nF{a:List Addr}{h:Heap}{b:Addr}{o:Obj}(c:b∈a)(e:h.get? b=some o):(b,o)∈rF a h:=DA.mpr ⟨b,c,by rw[e];rfl⟩
theorem aGH{a:List Addr}{h:Heap}{p:Addr×Obj}(d:p∈rF a h):p.1∈a/\h.get? p.1=some p.2:=by
 obtain ⟨b,c,e⟩:=DA.mp d
 cases q:h.get? b with
 | none=>rw[q] at e;cases e
 | some o=>
  rw[q] at e
  have f:(b,o)=p:=BP e
  subst f
  exact ⟨c,q⟩
theorem Inv.pinned{pins:List (Addr×Obj)}{σ:St}{H:Hp}{s:Shared}{a:List Addr}(I:Inv X pins σ H s)(g:∀ b∈a,lP X pins H b)(l:∀ b∈a,∃ o,s.heap.get? b=some o/\∀ v,o.data≠.cell v):Inv X (pins++rF a s.heap) σ H s:=
 I.pins_of fun p j=>(BR.mp j).elim (fun z=>I.pin p (B4 _ z)) fun z=>by
  obtain ⟨c,e⟩:=aGH z
  obtain ⟨k,h,i,_⟩:=g p.1 c
  obtain ⟨o,f,d⟩:=l p.1 c
  rw[e] at f;cases f
  exact ⟨e,k,h,i,d⟩
theorem Inv.unpinned{pins pl:List (Addr×Obj)}{σ:St}{H:Hp}{s:Shared}(I:Inv X (pins++pl) σ H s):Inv X pins σ H s:=I.pins_of fun p a=>I.pin p (B4 _ (DF _ a))
theorem cU{j:Expr}{body:List Stmt}{Q:TI}{g:TG}{tb:TS}{pos:Pos}(B:PassesOwn (model X.prog X.w) X.A X.env X.xe)(V:X.calm=true)(hi:PI X tg j Q)(hg:PG X tg g)(l:PSs X body tb)
  (hs:∀ x,foldedSetIterable j X.env x=pure x:=by intro _;rfl):PS X (.For tg j body [] pos) (aOP Q g tb):=by
 intro pins s σ H D I h
 refine wpAny_For (thn (hi pins s σ H _ I h) fun v s1 h1=>thn h1 fun Z s2 h2=>?_) hs
 obtain ⟨it,F,U,J,H2,e,I2,T,P,Y,W,⟨m0,w0⟩,C⟩:=h2
 subst e
 have q:∀ {H':Hp},(∀ b∈F,H' b=none)->∀ b∈F,lP X pins H' b:=fun hn b l=>⟨hn b l,(Y b l).2⟩
 refine codeAny_forLoop_any (fun n s'=>∃ i σ' H',Inv X pins σ' H' s'/\U i s'.heap/\(∀ b∈F,H' b=none)/\W i n σ' H') ?_ m0 ⟨0,σ,H2,I2,P,fun b l=>(Y b l).1,w0⟩
 rintro n R ⟨i,σ3,H3,I3,st3,fr3,w3⟩
 rcases C i n σ3 H3 w3 with ⟨stop,qn⟩|⟨go,N,hN,step⟩
 ·refine DB B (thn (T.done X rfl rfl rfl V i pins R σ3 H3 X.xe I3 (q fr3) st3 stop) fun r s4 c=>?_)
  obtain ⟨G,I4⟩:=c
  subst G
  exact E1 ⟨σ3,H3,I4,qn⟩
 ·refine DB B (thn (T.item X rfl rfl rfl V i pins R σ3 H3 X.xe I3 (q fr3) st3 go) fun r s4 c=>?_)
  obtain ⟨u,G,h4⟩:=c
  subst G
  refine DB B (thn h4 fun _ S c=>?_)
  obtain ⟨x,H5,I5,r5,y5,z,K⟩:=c
  have L:=I5.pinned (q K) (T.obj _ _ z)
  refine DB B (thn (hg _ S σ3 H5 x u _ L r5 (step x H5 y5)) fun _ s6 c=>?_)
  obtain ⟨O,H6,I6,q6⟩:=c
  refine DB B (thn (l _ s6 O H6 _ I6 q6) fun f M y=>?_)
  have t:∀ {a:St} {k:Hp},Inv X (pins++rF F S.heap) a k M->N a k->∃ m,m < n/\∃ i σ' H',Inv X pins σ' H' M/\U i M.heap/\(∀ b∈F,H' b=none)/\W i m σ' H':=fun {a k} p E=>by
   obtain ⟨m',hm,w7⟩:=hN a k E
   refine ⟨m',hm,i+1,a,k,p.unpinned,T.keep _ _ _ z fun b l o e=>(p.pin (b,o) (B4 _ (B4 _ (nF l e)))).1,fun b l=>?_,w7⟩
   obtain ⟨o,e,d⟩:=T.obj _ _ z b l
   exact (p.pin (b,o) (B4 _ (B4 _ (nF l e)))).2.1
  cases f with
  | next=>obtain ⟨a,k,p,E⟩:=y;exact t p E
  | cont=>obtain ⟨a,k,p,E⟩:=y;exact t p E
  | brk=>obtain ⟨a,k,p,y⟩:=y;exact ⟨a,k,p.unpinned,y⟩
  | ret v=>obtain ⟨x7,a,k,p,r7,y⟩:=y;exact ⟨x7,a,k,p.unpinned,r7,y⟩
end
abbrev R2:=V->V->Hp->VK->Prop
def OpR(X:Cx)(f:Value->Value->Sem Value)(r:R2):Prop:=
 ∀ (pins:List (Addr×Obj)) (s:Shared) (σ:St) (H:Hp) (x y:V) (v u:Value) (Q:VK),Inv X pins σ H s->bJ x v->bJ y u->r x y H Q->
  wpAny (model X.prog X.w) X.A (f v u) (EP X pins σ Q) X.xe s
def UnR(X:Cx)(f:Value->Sem Value)(r:V->Hp->VK->Prop):Prop:=
 ∀ (pins:List (Addr×Obj)) (s:Shared) (σ:St) (H:Hp) (x:V) (v:Value) (Q:VK),Inv X pins σ H s->bJ x v->r x H Q->
  wpAny (model X.prog X.w) X.A (f v) (EP X pins σ Q) X.xe s
def kF(X:Cx)(f:Value)(r:List V->Hp->VK->Prop):Prop:=
 ∀ (pins:List (Addr×Obj)) (s:Shared) (σ:St) (H:Hp) (xs:List V) (us:List Value) (Q:VK),Inv X pins σ H s->bT xs us->r xs H Q->
  wpAny (model X.prog X.w) X.A (call f us) (EP X pins σ Q) X.xe s
def tOp(r:R2)(ta tb:TE):TE:=fun σ H Q=>ta σ H fun x H1=>tb σ H1 fun y H2=>r x y H2 Q
def tUn(r:V->Hp->VK->Prop)(ta:TE):TE:=fun σ H Q=>ta σ H fun x H1=>r x H1 Q
def rI(C:Int->Int->Prop)(g:Int->Int->V):R2:=fun x y H Q=>∃ i j,x=.int i/\y=.int j/\C i j/\Q (g i j) H
def rI0(g:Int->Int->V):R2:=fun x y H Q=>∃ i j,x=.int i/\y=.int j/\Q (g i j) H
def rU(g:Int->V):V->Hp->VK->Prop:=fun x H Q=>∃ i,x=.int i/\Q (g i) H
section
variable{X:Cx}{a b c:Expr}{ta tb tc:TE}{pos:Pos}
theorem aIU(l:PE X a ta)(g:PE X b tb){pins:List (Addr×Obj)}{s:Shared}{σ:St}{H:Hp}{R:V->V->Hp->Prop}(I:Inv X pins σ H s)
  (h:ta σ H fun x H1=>tb σ H1 fun y H2=>R x y H2) {Q:Value->Shared->Prop} {f:Value->Value->Sem Value}
  (e:∀ v u s2 x y H2,Inv X pins σ H2 s2->bJ x v->bJ y u->R x y H2->wpAny (model X.prog X.w) X.A (f v u) Q X.xe s2) :
  wpAny (model X.prog X.w) X.A (eval a X.env) (fun v s₁=>wpAny (model X.prog X.w) X.A (eval b X.env) (fun u s₂=>wpAny (model X.prog X.w) X.A (f v u) Q X.xe s₂) X.xe s₁) X.xe s:=by
 refine thn (l pins s σ H _ I h) fun v s1 c=>?_
 obtain ⟨x,H1,k,r1,j⟩:=c
 refine thn (g pins s1 σ H1 _ k j) fun u s2 c=>?_
 obtain ⟨y,H2,i,r2,d⟩:=c
 exact e v u s2 x y H2 i r1 r2 d
theorem aKV{c:Operator}{r:R2}(j:OpR X (binaryOp c) r)(i:PE X a ta)(d:PE X b tb):PE X (.BinOp a c b pos) (tOp r ta tb):=by
 intro pins s σ H Q I h
 exact wpAny_BinOp (aIU i d I h fun v u f x y H2 e k g q=>j pins f σ H2 x y v u Q e k g q)
theorem aRH{b:UnaryOp}{r:V->Hp->VK->Prop}(f:UnR X (unaryOp b) r)(c:PE X a ta):PE X (.UnaryOp b a pos) (tUn r ta):=by
 intro pins s σ H Q I h
 exact UnaryOp_ (thn (c pins s σ H _ I h) fun v s1 ⟨x,H1,d,r1,e⟩=>f pins s1 σ H1 x v Q d r1 e)
theorem opI{f:Value->Value->Sem Value}{C:Int->Int->Prop}{g:Int->Int->Int}
  (a:∀ (i j:Int) (t u:Tok) (s:Shared) (Q:Value->Shared->Prop) (E:Value->Shared->Prop),C i j->Q (.int (g i j) s.toks) {s with toks:=s.toks+1}->wpAny (model X.prog X.w) X.A (f (.int i t) (.int j u)) Q E s) :
  OpR X f (rI C fun i j=>.int (g i j)):=by
 intro pins s σ H x y v u Q I e b h
 obtain ⟨i,j,rfl,rfl,d,q⟩:=h
 obtain ⟨t,rfl⟩:=e
 obtain ⟨c,rfl⟩:=b
 exact a i j t c s _ _ d ⟨.int (g i j),H,I.tok _,⟨_,rfl⟩,q⟩
theorem aOQ{f:Value->Value->Sem Value}{g:Int->Int->Int}
  (a:∀ (i j:Int) (t u:Tok) (s:Shared) (Q:Value->Shared->Prop) (E:Value->Shared->Prop),Q (.int (g i j) s.toks) {s with toks:=s.toks+1}->wpAny (model X.prog X.w) X.A (f (.int i t) (.int j u)) Q E s) :
  OpR X f (rI0 fun i j=>.int (g i j)):=by
 intro pins s σ H x y v u Q I d b h
 obtain ⟨i,j,rfl,rfl,q⟩:=h
 obtain ⟨t,rfl⟩:=d
 obtain ⟨c,rfl⟩:=b
 exact a i j t c s _ _ ⟨.int (g i j),H,I.tok _,⟨_,rfl⟩,q⟩
theorem aEV{f:Value->Value->Sem Value}{g:Int->Int->Bool}
  (a:∀ (i j:Int) (t u:Tok) (s:Shared) (Q:Value->Shared->Prop) (E:Value->Shared->Prop),Q (.bool (g i j)) s->wpAny (model X.prog X.w) X.A (f (.int i t) (.int j u)) Q E s) :
  OpR X f (rI0 fun i j=>.bl (g i j)):=by
 intro pins s σ H x y v u Q I d b h
 obtain ⟨i,j,rfl,rfl,q⟩:=h
 obtain ⟨t,rfl⟩:=d
 obtain ⟨c,rfl⟩:=b
 exact a i j t c s _ _ ⟨.bl (g i j),H,I,rfl,q⟩
def aIV(i j:Int):Prop:=(-(2 ^ 64) < i/\i < 2 ^ 64)\/(-(2 ^ 64) < j/\j < 2 ^ 64)
theorem aIV.ok{i j:Int}(h:aIV i j):IntMulOk i j:=by
 rcases h with ⟨h1,h2⟩|⟨h1,h2⟩
 · exact .of_left (intBits_le_64 h1 h2)
 · exact .of_right (intBits_le_64 h1 h2)
theorem aOR:OpR X (binaryOp .Add) (rI0 fun i j=>.int (i+j)):=aOQ fun _ _ _ _ _ _ _ q=>add_int q
theorem aOS:OpR X (binaryOp .Sub) (rI0 fun i j=>.int (i - j)):=aOQ fun _ _ _ _ _ _ _ q=>sub_int q
theorem aOT:OpR X (binaryOp .Mult) (rI aIV fun i j=>.int (i * j)):=opI fun _ _ _ _ _ _ _ a q=>mul_int q a.ok
theorem aOU:OpR X (binaryOp .Mod) (rI (fun _ j=>0 < j) fun i j=>.int (i % j)):=opI fun i j _ _ _ _ _ a q=>by
 have h1:(0:Int) < j:=a
 exact mod_int' (by omega) (by rw[Int.fmod_eq_emod_of_nonneg i (by omega)];exact q)
theorem unI{f:Value->Sem Value}{g:Int->Int}
  (a:∀ (i:Int) (t:Tok) (s:Shared) (Q:Value->Shared->Prop) (E:Value->Shared->Prop),Q (.int (g i) s.toks) {s with toks:=s.toks+1}->wpAny (model X.prog X.w) X.A (f (.int i t)) Q E s) :
  UnR X f (rU fun i=>.int (g i)):=by
 intro pins s σ H x v Q I b h
 obtain ⟨i,rfl,q⟩:=h
 obtain ⟨t,rfl⟩:=b
 exact a i t s _ _ ⟨.int (g i),H,I.tok _,⟨_,rfl⟩,q⟩
theorem aOV:UnR X (unaryOp .USub) (rU fun i=>.int (-i)):=unI fun _ _ _ _ _ q=>neg_int q
end
section
variable{X:Cx}{a b c:Expr}{ta tb tc:TE}{pos:Pos}
theorem z8{pins:List (Addr×Obj)}{σ:St}{H:Hp}{s:Shared}{Q:VK}{k a:Bool}(I:Inv X pins σ H s)(q:Q (.bl k) H)(e:k=a):EP X pins σ Q (.bool a) s:=by
 subst e
 exact ⟨.bl k,H,I,rfl,q⟩
theorem aRI:OpR X (compareOp .Lt) (rI0 fun i j=>.bl (decide (i < j))):=aEV fun _ _ _ _ _ _ _ q=>lt_int q
theorem aRJ:OpR X (compareOp .LtE) (rI0 fun i j=>.bl (decide (i<=j))):=aEV fun _ _ _ _ _ _ _ q=>le_int q
theorem aRK:OpR X (compareOp .Gt) (rI0 fun i j=>.bl (decide (j < i))):=aEV fun _ _ _ _ _ _ _ q=>gt_int q
theorem aRL:OpR X (compareOp .GtE) (rI0 fun i j=>.bl (decide (j<=i))):=aEV fun _ _ _ _ _ _ _ q=>ge_int q
theorem aOW:OpR X (compareOp .Is) (fun x y H Q=>y=.non/\Q (.bl (decide (x=.non))) H):=by
 intro pins s σ H x y v u Q I a b h
 obtain ⟨rfl,q⟩:=h
 cases b
 refine is_none_gen (z8 I q ?_)
 cases x<;>first
  | (cases a;rfl)
  | (obtain ⟨t,rfl⟩:=a;rfl)
theorem aLP:OpR X (compareOp .IsNot) (fun x y H Q=>y=.non/\Q (.bl (!decide (x=.non))) H):=by
 intro pins s σ H x y v u Q I a b h
 obtain ⟨rfl,q⟩:=h
 cases b
 refine isnot_none_gen (z8 I q ?_)
 cases x<;>first
  | (cases a;rfl)
  | (obtain ⟨t,rfl⟩:=a;rfl)
theorem z9:OpR X (compareOp .NotIn) (fun x y H Q=>∃ i j,x=.str i/\y=.str j/\Q (.bl (!(!(Builtin.Str.occurrences j i 0 j.length 1).isEmpty))) H):=by
 intro pins s σ H x y v u Q I b a h
 obtain ⟨i,j,rfl,rfl,q⟩:=h
 obtain ⟨t,rfl⟩:=b
 obtain ⟨c,rfl⟩:=a
 exact notIn_str (z8 I q rfl)
theorem cE(b:Expr){a:CmpOp}(h:a≠.In:=by decide)(h2:a≠.NotIn:=by decide):behindInMarks a b=false:=by
 have e1:(a == CmpOp.In)=false:=by cases a<;>first|rfl|exact absurd rfl h
 have e2:(a == CmpOp.NotIn)=false:=by cases a<;>first|rfl|exact absurd rfl h2
 cases b<;>simp[behindInMarks,e1,e2]
theorem aLQ{c:CmpOp}{r:R2}(k:OpR X (compareOp c) r)(j:PE X a ta)(d:PE X b tb)(i:behindInMarks c b=false):PE X (.Compare a [c] [b] pos) (tOp r ta tb):=by
 intro pins s σ H Q I h
 exact wpAny_Compare1 (aIU j d I h fun v u f x y H2 e l g q=>k pins f σ H2 x y v u Q e l g q) i
def aKW(t:TE):TT:=fun σ H Q=>t σ H fun x H'=>∃ k,x=.bl k/\Q k H'
theorem kU{d:CmpOp}{r:R2}(m:OpR X (compareOp d) r)(w:PE X a ta)(o:PE X b tb)(p:behindInMarks d b=false):PT X (.Compare a [d] [b] pos) (aKW (tOp r ta tb)):=by
 intro pins s σ H Q I h
 refine wpAny_isTrue_Compare1 (thn (w pins s σ H _ I h) fun v s1 ⟨x,H1,t,r1,i⟩=>thn (o pins s1 σ H1 _ t i) fun u g ⟨y,H2,f,r2,n⟩=>
  thn (m pins g σ H2 x y v u _ f r1 r2 n) fun c A ⟨z,H3,l,q,k,e,j⟩=>?_) p
 subst e
 cases q
 exact DY ⟨H3,l,j⟩
theorem rG:(sizeLine:Nat) < 2 ^ 63:=by rw[EE];decide
theorem aEW:OpR X (binaryOp .Add) (fun x y H Q=>∃ i j,x=.str i/\y=.str j/\i.length+j.length<=sizeLine/\Q (.str (i++j)) H):=by
 intro pins s σ H x y v u Q I d b h
 obtain ⟨i,j,rfl,rfl,a,q⟩:=h
 obtain ⟨t,rfl⟩:=d
 obtain ⟨c,rfl⟩:=b
 exact add_str (fun c tk=>⟨.str (i++j),H,I.tok _,⟨_,rfl⟩,q⟩) a
theorem oJ{x:V}{us:List Value}(r:bT [x] us):∃ u,us=[u]/\bJ x u:=by
 cases r with
 | cons r1 r2=>cases r2;exact ⟨_,rfl,r1⟩
theorem zR{x y:V}{us:List Value}(r:bT [x,y] us):∃ u w',us=[u,w']/\bJ x u/\bJ y w':=by
 cases r with
 | cons r1 r2=>
  cases r2 with
  | cons r3 r4=>cases r4;exact ⟨_,_,rfl,r1,r3⟩
theorem yO(b:X.calm=true):kF X (.builtin "min") (fun xs H Q=>∃ i j,xs=[.int i,.int j]/\Q (.int (if j < i then j else i)) H):=by
 intro pins s σ H xs us Q I r h
 obtain ⟨i,j,rfl,q⟩:=h
 obtain ⟨u,d,rfl,⟨t,rfl⟩,⟨c,rfl⟩⟩:=zR r
 refine min_two_ints (I.ok.hd b) fun h' tk k=>⟨_,H,I.kept k,?_,q⟩
 by_cases a:j < i
 · rw [AD a, AD a]; exact ⟨_, rfl⟩
 · rw [AE a, AE a]; exact ⟨_, rfl⟩
theorem rH:kF X (.type "int") (fun xs H Q=>(∃ i,xs=[.int i]/\Q (.int i) H)\/∃ k,xs=[.bl k]/\Q (.int (if k then 1 else 0)) H):=by
 intro pins s σ H xs us Q I r h
 rcases h with ⟨i,rfl,q⟩|⟨k,rfl,q⟩
 ·obtain ⟨u,rfl,t,rfl⟩:=oJ r
  exact call_int_int ⟨.int i,H,I,⟨_,rfl⟩,q⟩
 ·obtain ⟨u,rfl,r1⟩:=oJ r
  cases r1
  exact call_int_bool ⟨.int (if k then 1 else 0),H,I.tok _,⟨_,rfl⟩,q⟩
def aOX(K:Frag)(x:V)(H:Hp)(n:Nat):Prop:=
 match x with
 | .str y=>y.length<=sizeLine/\n=y.length
 | .byt y=>y.size<=sizeLine/\n=y.size
 | .ref p=>(∃ xs,SqL K H p xs/\n=xs.length)\/∃ xs,SqT K H p xs/\n=xs.length
 | _=>False
theorem cG:kF X (.builtin "len") (fun xs H Q=>∃ x n,xs=[x]/\aOX X.K x H n/\Q (.int n) H):=by
 intro pins s σ H xs us Q I r h
 obtain ⟨x,n,rfl,e,q⟩:=h
 obtain ⟨u,rfl,i⟩:=oJ r
 have l:=rG
 have m:sizeLine=16777216:=EE
 cases x with
 | str y=>
  obtain ⟨t,rfl⟩:=i
  obtain ⟨k,b⟩:y.length<=sizeLine/\n=y.length:=e
  subst b
  exact len_str (by omega) ⟨.int _,H,I.tok _,⟨_,rfl⟩,q⟩
 | byt y=>
  obtain ⟨t,rfl⟩:=i
  obtain ⟨k,b⟩:y.size<=sizeLine/\n=y.size:=e
  subst b
  exact PySem.W.len_bytes (by omega) ⟨.int _,H,I.tok _,⟨_,rfl⟩,q⟩
 | ref p=>
  cases i
  have b:(∃ xs,SqL X.K H p xs/\n=xs.length)\/∃ xs,SqT X.K H p xs/\n=xs.length:=e
  rcases b with ⟨xs,g,b⟩|⟨xs,g,b⟩
  ·subst b
   obtain ⟨f,c,d,j⟩:=I.list g
   have a:=c.length
   exact Calls.call_len_list d.isList (by simp only[A4];omega) ⟨.int xs.length,H,I.tok _,⟨_,by simp only[A4];rw[a]⟩,q⟩
  ·subst b
   obtain ⟨f,c,d,j⟩:=I.tuple g
   have a:=c.length
   exact len_tuple d (by simp only[A4];omega) ⟨.int xs.length,H,I.tok _,⟨_,by simp only[A4];rw[a]⟩,q⟩
 | _=>exact (show False from e).elim
end
structure ObjM(h:Heap)(x dx C:Addr)(mA:Str->Option Value):Prop where
 obj:h.get? x=some (PySem.W.instObj C dx)
 ns:h.Ns1 dx mA
 ne:dx≠x
theorem rJ{h:Heap}{dx:Addr}{mA:Str->Option Value}(n:h.Ns1 dx mA):∃ od,h.get? dx=some od/\∀ name,PySem.W.lookIn name od=some (mA name):=by
 obtain ⟨o,es,ep,j,f,i,_,d⟩:=n
 refine ⟨o,j,fun name=>?_⟩
 have e:=d name
 unfold nsFind findBy at e
 rw[<-Array.find?_toList] at e
 unfold PySem.W.lookIn
 rw[f]
 dsimp only
 split
 ·rename_i y q
  rw[q] at e
  exact EA some e
 ·rename_i q
  rw[q] at e
  have a:es.toList.any (·.refKey)=false:=by
   rw[List.any_eq_false]
   intro y c
   obtain ⟨z,t,b⟩:=i y (Array.mem_toList_iff.mp c)
   simp[DictEntry.refKey,b]
  have g:¬ es.toList.any (·.refKey)=true:=by rw[a];exact BT
  rw[AE g]
  exact EA some e
theorem ObjM.look{h:Heap}{x dx C:Addr}{mA:Str->Option Value}(I:ObjM h x dx C mA):∃ od,PySem.W.InstAt h x (PySem.W.instObj C dx) C (some od)/\∀ name,PySem.W.lookIn name od=some (mA name):=
 let ⟨od,ho,hl⟩:=rJ I.ns
 ⟨od,⟨I.obj,rfl,rfl,ho⟩,hl⟩
section
variable{prog:Program}{w:World}{A:Around}{E:Value->Shared->Prop}{s:Shared}{K:Frag}{x dx C f:Addr}{mA:Str->Option Value}{name:Str}{v:Value}
end
noncomputable def w9(f:Str)(v:V):List (Str×V)->List (Str×V)
 | []=>[(f,v)]
 | (g,x)::r=>if g=f then (g,v)::r else (g,x)::w9 f v r
theorem t8(f g:Str)(v:V):∀ fs:List (Str×V),(w9 f v fs).lookup g=if g=f then some v else fs.lookup g
 | []=>by
  show List.lookup g [(f,v)]=_
  by_cases h:g=f
  ·have hb:(g == f)=true:=FW.mpr h
   simp only[List.lookup,hb,AD h]
  ·have hb:(g == f)=false:=C5.mpr h
   simp only[List.lookup,hb,AE h]
 | (k,x)::r=>by
  have b:=t8 f g v r
  rw[show w9 f v ((k,x)::r)=(if k=f then (k,v)::r else (k,x)::w9 f v r) from rfl]
  by_cases a:k=f
  ·rw[AD a]
   by_cases h:g=k
   ·have hb:(g == k)=true:=FW.mpr h
    simp only[List.lookup,hb,AD (h.trans a)]
   ·have hb:(g == k)=false:=C5.mpr h
    simp only[List.lookup,hb,AE (fun e:g=f=>h (e.trans a.symm))]
  ·rw[AE a]
   by_cases h:g=k
   ·have hb:(g == k)=true:=FW.mpr h
    simp only[List.lookup,hb,AE (fun e:g=f=>a (h.symm.trans e))]
   ·have hb:(g == k)=false:=C5.mpr h
    simp only[List.lookup,hb]
    exact b
theorem jD.some_of{v:V}{o:Option Value}(r:jD (some v) o):∃ u,o=some u/\bJ v u:=by
 cases o with
 | none=>exact (show False from r).elim
 | some u=>exact ⟨u,rfl,r⟩
theorem jD.none_of{o:Option Value}(r:jD none o):o=none:=by
 cases o with
 | none=>rfl
 | some u=>exact (show False from r).elim
section
variable{P:Program}{w:World}{H H':Hp}{h h':Heap}{a C dx:Addr}{fs fs':List (Str×V)}
theorem aLR(hok:HOk P w H h)(e:H a=some (.ins C dx fs)):∃ mA,ObjM h a dx C mA/\(∀ f,jD (fs.lookup f) (mA f))/\PySem.Within mA (fs.map (·.1))/\fs.length<=1000/\H dx=some (.own a):=by
 obtain ⟨d,z,c,b,mA,n,r,q⟩:=(show cN P w H h a (.ins C dx fs) from hok a _ e)
 exact ⟨mA,⟨b,n,c⟩,r,q,z,d⟩
end
structure Cls(K:Frag)(C:Addr):Prop where
 pg:PySem.W.plainGet K C Str.empty=true
 hd:PySem.W.hasDictIn K C=true
 po:PySem.W.plainOver K C=true
 sa:PySem.W.findIn K (.ref C) "__setattr__"=some (some (.builtin "object.__setattr__"))
theorem Cls.get{K:Frag}{C:Addr}(c:Cls K C)(f:Str):PySem.W.plainGet K C f=true:=c.pg
structure Con(K:Frag)(C:Addr)(f:Str)(v:V)(u:Value):Prop where
 at_:PySem.W.findIn K (.ref C) f=some (some u)
 rel:bJ v u
 get:PySem.W.specialIn K u "__get__"=some none
 cp:PySem.W.copiedNames.contains f=false
structure Meth(K:Frag)(C:Addr)(m:Str)(f:Addr):Prop where
 at_:PySem.W.findIn K (.ref C) m=some (some (.ref f))
 fn:PySem.W.isFn K (.ref f)=true
 kp:PySem.W.keepIn K (.ref f)=true
section
variable{X:Cx}{pins:List (Addr×Obj)}{σ:St}{H:Hp}{s:Shared}{a C dx:Addr}{fs:List (Str×V)}{f:Str}{v:V}{A:Around}{E:Value->Shared->Prop}
end
section
variable{X:Cx}{pins:List (Addr×Obj)}{σ:St}{H:Hp}{s:Shared}{A:Around}{E:Value->Shared->Prop}{Q:Value->Shared->Prop}{c:Value}{b:Bool}
inductive TyOf(K:Frag)(H:Hp):V->Value->Prop where
 | non:TyOf K H .non (.type "NoneType")
 | bl (x:Bool):TyOf K H (.bl x) (.type "bool")
 | int (i:Int):TyOf K H (.int i) (.type "int")
 | str (x:Str):TyOf K H (.str x) (.type "str")
 | flt (x:UInt64):TyOf K H (.flt x) (.type "float")
 | lst {a:Addr} {xs:List V} (e:H a=some (.lst xs)):TyOf K H (.ref a) (.type "list")
 | frz {a:Addr} {o:Obj} {xs:List V} (e:H a=some (.frz o (.lst xs))):TyOf K H (.ref a) (.type "list")
 | tup {a:Addr} {xs:List V} (e:H a=some (.tup xs)):TyOf K H (.ref a) (.type "tuple")
 | dK {a:Addr} {kvs:List (Key×V)} (e:H a=some (.dK kvs)):TyOf K H (.ref a) (.type "dict")
 | dT {a:Addr} {kvs:List (List Key×V)} (e:H a=some (.dT kvs)):TyOf K H (.ref a) (.type "dict")
 | ins {a C dx:Addr} {fs:List (Str×V)} (e:H a=some (.ins C dx fs)) (cl:Cls K C) (ha:PySem.W.findIn K (.ref C) "__class__"=some (some (.builtin "object.__class__")))
  (hn:PySem.W.specialIn K (.builtin "object.__class__") "__get__"=some (some (.builtin "getset_descriptor.__get__"))) (htk:PySem.W.takesIn K (.builtin "object.__class__")=some true)
  (hm:PySem.W.mroIn K C (.type "object")=some true):TyOf K H (.ref a) (.ref C)
theorem aGI{x:V}{u t:Value}(I:Inv X pins σ H s)(d:bJ x u)(ty:TyOf X.K H x t)(e:PySem.W.kitOne X.K t c=some b)(h:∀ tk,Q (.bool b) {s with toks:=tk}) :
  wpAny (model X.prog X.w) A (call (.builtin "isinstance") [u,c]) Q E s:=by
 cases ty with
 | non=>cases (show u=Value.none from d);exact B8 PySem.W.kitx_none I.kIn True.intro e (fun z=>nomatch z) h
 | bl y=>cases (show u=Value.bool y from d);exact B8 PySem.W.kitx_bool I.kIn True.intro e (fun z=>nomatch z) h
 | int i=>obtain ⟨t,q⟩:=(show ∃ t,u=Value.int i t from d);cases q;exact B8 PySem.W.kitx_int I.kIn True.intro e (fun z=>nomatch z) h
 | str y=>obtain ⟨t,q⟩:=(show ∃ t,u=Value.str y t from d);cases q;exact B8 PySem.W.kitx_str I.kIn True.intro e (fun z=>nomatch z) h
 | flt y=>obtain ⟨t,q⟩:=(show ∃ t,u=Value.float y t from d);cases q;exact B8 PySem.W.kitx_float I.kIn True.intro e (fun z=>nomatch z) h
 | @lst a xs ea=>
  cases (show u=Value.ref a from d)
  obtain ⟨_,_,n,_,h1⟩:=(show cN X.prog X.w H s.heap a (.lst xs) from I.hok a _ ea)
  exact B8 FS I.kIn ⟨_,h1,rfl⟩ e (fun z=>nomatch z) h
 | @frz a ob xs ea=>
  cases (show u=Value.ref a from d)
  obtain ⟨_,_,_,n,_,h1⟩:=(show cN X.prog X.w H s.heap a (.frz ob (.lst xs)) from I.hok a _ ea)
  exact B8 FS I.kIn ⟨_,h1,rfl⟩ e (fun z=>nomatch z) h
 | @tup a xs ea=>
  cases (show u=Value.ref a from d)
  obtain ⟨_,_,_,p⟩:=(show cN X.prog X.w H s.heap a (.tup xs) from I.hok a _ ea)
  obtain ⟨o,h1,h2,_⟩:=p
  exact B8 PySem.W.kitx_tuple I.kIn ⟨o,h1,h2.1⟩ e (fun z=>nomatch z) h
 | @dK a kvs ea=>
  cases (show u=Value.ref a from d)
  obtain ⟨_,_,vs,_,p⟩:=(show cN X.prog X.w H s.heap a (.dK kvs) from I.hok a _ ea)
  obtain ⟨o,es,ep,h1,h2,_⟩:=p
  exact B8 PySem.W.kitx_dict I.kIn ⟨o,h1,h2.1⟩ e (fun z=>nomatch z) h
 | @dT a kvs ea=>
  cases (show u=Value.ref a from d)
  obtain ⟨_,_,xs,_,o,es,ep,h1,h2,_⟩:=(show cN X.prog X.w H s.heap a (.dT kvs) from I.hok a _ ea)
  exact B8 PySem.W.kitx_dict I.kIn ⟨o,h1,h2.1⟩ e (fun z=>nomatch z) h
 | @ins a C dx fs ea cl ha hn htk hm=>
  cases (show u=Value.ref a from d)
  obtain ⟨mA,O,_⟩:=aLR I.hok ea
  obtain ⟨od,J,_⟩:=O.look
  exact B8 (PySem.W.kitx_own (cl.get _) cl.hd ha hn htk hm) I.kIn J e (fun z=>nomatch z) h
end
structure Room(k:Nat)(A:Around):Prop where
 hd:A.handled=none
 dp:A.depth+3 * k+5 < recursionLimit
 un:A.units+16 * k+200 < cLine
theorem Room.mono{j k:Nat}{A:Around}(r:Room k A)(h:j<=k):Room j A:=⟨r.hd,by have:=r.dp;omega,by have:=r.un;omega⟩
theorem Room.deeper{k:Nat}{A:Around}(r:Room (k+1) A)(env:Env):Room k (A.deeper env):=
 ⟨r.hd,by have:=r.dp;show A.depth+1+3 * k+5 < _;omega,by have:=r.un;show A.units+3+16 * k+200 < _;omega⟩
theorem aEX{A:Around}{C:Addr}{us:List Value}{a:List (Str×Value)}:(A.under (.builtin "type.__call__" ⟨.ref C::us,a⟩)).depth=A.depth+1:=by
 first|rfl|simp[Around.under,Code.weight,Code.isCreation,Code.isGuard,Code.isCaller,Code.frames,Code.isFrame,guardIds]
theorem aEY{A:Around}{C:Addr}{us:List Value}{a:List (Str×Value)}:(A.under (.builtin "type.__call__" ⟨.ref C::us,a⟩)).units=A.units+1:=by
 first|rfl|simp[Around.under,Code.cUnits,Code.frames,Code.isFrame]
theorem Room.make{k:Nat}{A:Around}(r:Room (k+1) A)(C:Addr)(us:List Value)(a:List (Str×Value)):Room k (A.under (.builtin "type.__call__" ⟨.ref C::us,a⟩)):=
 ⟨r.hd,by have:=r.dp;rw[aEX];omega,by have:=r.un;rw[aEY];omega⟩
theorem Room.depth{k:Nat}{A:Around}(r:Room k A):A.depth < recursionLimit:=by have:=r.dp;omega
theorem Room.units{k:Nat}{A:Around}(r:Room k A):A.units+64 < cLine:=by have:=r.un;omega
def iS:TA:=fun _ H Q=>Q [] H
def dU(ta:TE)(tr:TA):TA:=fun σ H Q=>ta σ H fun x H1=>tr σ H1 fun xs H2=>Q (x::xs) H2
section
variable{X:Cx}{e:Expr}{es:List Expr}{te:TE}{t:TA}{pos:Pos}
theorem aU:PA X [] iS:=fun _ _ _ _ H Q I h=>Calls.spliced_nil ⟨[],H,I,.nil,h⟩
theorem aJ(j:PE X e te)(f:PA X es t)(i:starEach (e::es) X.env=(false,eval e X.env)::starEach es X.env:=by rfl):PA X (e::es) (dU te t):=by
 intro pos pins s σ H Q I h
 rw[i]
 show wpAny _ _ (spliced ((false,eval e X.env)::backTo pos (starEach es X.env))) _ _ s
 refine Calls.spliced_cons (thn (j pins s σ H _ I h) fun u s1 a=>?_)
 obtain ⟨x,H1,g,r1,d⟩:=a
 exact thn (f pos pins s1 σ H1 _ g d) fun us k ⟨xs,H2,c,r2,b⟩=>⟨x::xs,H2,c,.cons r1 r2,b⟩
def aSK(t:TA):TE:=fun σ H Q=>t σ H fun xs H1=>xs.length<=sizeLine/\∀ p,H1 p=none->Q (.ref p) (upd H1 p (.tup xs))
def aSL(t:TA):TE:=fun σ H Q=>t σ H fun xs H1=>xs.length<=sizeLine/\∀ p,H1 p=none->Q (.ref p) (upd H1 p (.lst xs))
theorem aGJ{x1}(h:PA X es t):PE X (.Tuple es x1 pos) (aSK t):=by
 intro pins s σ H Q I d
 refine wpAny_Tuple_spliced (thn (h pos pins s σ H _ I d) fun us s1 ⟨xs,H1,a,r,z,q⟩=>⟨by rw[<-r.length];exact z,?_⟩)
 have c:H1 s1.heap.objs.size=none:=a.hok.fresh (AG _)
 refine ⟨.ref s1.heap.objs.size,upd H1 s1.heap.objs.size (.tup xs),a.laid (t':=s1.toks) (fun b u e=>AJ _ e) (AG _) ?_,rfl,q _ c⟩
 exact ⟨z,us,r,⟨_,A9 _ rfl,⟨rfl,rfl⟩,_,rfl⟩⟩
theorem aOY(h:PA X es t):PE X (.List es pos) (aSL t):=by
 intro pins s σ H Q I d
 refine wpAny_List_spliced (thn (h pos pins s σ H _ I d) fun us s1 ⟨xs,H1,a,r,z,q⟩=>⟨by rw[<-r.length];exact z,?_⟩)
 have c:H1 s1.heap.objs.size=none:=a.hok.fresh (AG _)
 refine ⟨.ref s1.heap.objs.size,upd H1 s1.heap.objs.size (.lst xs),a.laid (t':=s1.toks) (fun b u e=>AJ _ e) (AG _) ?_,rfl,q _ c⟩
 exact ⟨z,us,0,r,A9 _ rfl⟩
end
abbrev Sp:=List V->Hp->VK->XK->Prop
abbrev CXT:=List Env->Hp->Shared->XK->Value->Shared->Prop
structure Env0(P:Program)(w:World)(K:Frag)(mg:Str->Option Value)(base:Heap)(A:Around)(outer:List Env)(s:Shared)(H:Hp):Prop where
 frames:A.frames=some outer
 mod:Mod K mg base
 bs:∀ b o,base.get? b=some o->s.heap.get? b=some o/\H b=none
 bsz:base.objs.size<=s.heap.objs.size
 funs:s.heap.FunFrames base outer
 frf:∀ b∈frs outer,H b=none
 hok:HOk P w H s.heap
 bare:AllBare s.gens
def CE(outer:List Env)(P:Program)(w:World)(H:Hp)(s:Shared)(Q:VK)(u:Value)(s':Shared):Prop:=
 ∃ v H',s'.os=s.os/\AllBare s'.gens/\Un (frs outer) [] H H' s.heap s'.heap/\HOk P w H' s'.heap/\bJ v u/\Q v H'
def CR(CX:CXT)(outer:List Env)(P:Program)(w:World)(H:Hp)(s:Shared)(Q:VK)(E:XK)(r:Result)(s':Shared):Prop:=
 match r with
 | .ok (.ret u)=>CE outer P w H s Q u s'
 | .ok _=>False
 | .error e=>CX outer H s E e s'
structure FnOk(P:Program)(w:World)(K:Frag)(mg:Str->Option Value)(base:Heap)(CX:CXT)(k:Nat)(f:Addr)(fd:FuncData)(ps:List Str)(sp:Sp):Prop where
 len:∀ vs H Q E,sp vs H Q E->vs.length=ps.length
 run:∀ (A:Around) (outer:List Env) (s:Shared) (H:Hp) (args:Args) (us:List Value) (vs:List V) (Q:VK) (E:XK),Room k A->Env0 P w K mg base A outer s H->BindsTo s fd args (ps.zip us)->bT vs us->sp vs H Q E->
  codeAny (model P w) A (.call (.ref f) args) (CR CX outer P w H s Q E) s
theorem FnOk.imp{P:Program}{w:World}{K:Frag}{mg:Str->Option Value}{base:Heap}{CX:CXT}{k:Nat}{f:Addr}{fd:FuncData}{ps:List Str}{sp a:Sp}(F:FnOk P w K mg base CX k f fd ps sp)
  (h:∀ vs H Q E,a vs H Q E->sp vs H Q E):FnOk P w K mg base CX k f fd ps a:=
 ⟨fun vs H Q E q=>F.len vs H Q E (h _ _ _ _ q),fun A outer s H args us vs Q E e d c b g=>F.run A outer s H args us vs Q E e d c b (h _ _ _ _ g)⟩
theorem Env0.make{P:Program}{w:World}{K:Frag}{mg:Str->Option Value}{base:Heap}{A:Around}{outer:List Env}{s:Shared}{H:Hp}(e:Env0 P w K mg base A outer s H)(C:Addr)(us:List Value)(a:List (Str×Value)) :
 Env0 P w K mg base (A.under (.builtin "type.__call__" ⟨.ref C::us,a⟩)) outer s H:=⟨by first|exact e.frames|(simpa[Around.under,Code.envs,Code.isFrame,pushEnvs] using e.frames),e.mod,e.bs,e.bsz,e.funs,e.frf,e.hok,e.bare⟩
section
variable{X:Cx}{pins:List (Addr×Obj)}{σ:St}{H:Hp}{s s':Shared}
theorem Inv.env0(I:Inv X pins σ H s):Env0 X.prog X.w X.K X.mg X.base X.A X.stack s H:=
 ⟨I.ok.frames,I.ok.mod,I.bs,BJ I.ok.bsz I.sz,I.stack,I.stkFree,I.hok,I.bare⟩
theorem Inv.after{Q:VK}{u:Value}(I:Inv X pins σ H s)(h:CE X.stack X.prog X.w H s Q u s'):EP X pins σ Q u s':=by
 obtain ⟨v,H',os,a,un,e,r,q⟩:=h
 obtain ⟨f,g,d,t,c⟩:=s'
 obtain rfl:c=s.os:=os
 exact ⟨v,H',I.call (h':=f) (g':=g) (d':=d) (t':=t) (ch:=[]) un e a (fun b z=>absurd z (by simp)),r,q⟩
end
def oK(sp:Sp)(dvs:List V)(E:XK)(t:TA):TE:=fun σ H Q=>t σ H fun vs H1=>sp (vs++dvs) H1 Q E
def gQ(K:Frag)(fd:FuncData)(ps:List Str)(ds:List Value):Prop:=
 ∀ (s:Shared) (us:List Value),K.In s.heap->(us++ds).length=ps.length->BindsTo s fd ⟨us,[]⟩ (ps.zip (us++ds))
theorem gQ.all{K:Frag}{fd:FuncData}{ps:List Str}(h:∀ us:List Value,us.length=ps.length->bindArgs fd ⟨us,[]⟩=pure (ps.zip us)):gQ K fd ps []:=fun s us _ a=>by
 rw[B9] at a ⊢
 exact .of_eq (h us a)
def mQ(CX:CXT)(X:Cx)(E:XK):Prop:=∀ (pins:List (Addr×Obj)) (σ:St) (H:Hp) (s:Shared) (e:Value) (s':Shared),Inv X pins σ H s->CX X.stack H s E e s'->X.xe e s'
section
variable{X:Cx}{CX:CXT}{k:Nat}{f C:Addr}{fd:FuncData}{ps:List Str}{sp:Sp}{dvs:List V}{ds:List Value}{E:XK}{x m:Str}{p pos apos:Pos}{e o:Expr}{es:List Expr}{ta:TE}{t:TA}
theorem aGK{pins:List (Addr×Obj)}{σ:St}{H:Hp}{s:Shared}{Q:VK}{us:List Value}{vs:List V}(F:FnOk X.prog X.w X.K X.mg X.base CX k f fd ps sp)(d:Room k X.A)(c:gQ X.K fd ps ds)(b:bT dvs ds)(hx:mQ CX X E)
  (I:Inv X pins σ H s) (r:bT vs us) (h:sp (vs++dvs) H Q E):wpAny (model X.prog X.w) X.A (call (.ref f) us) (EP X pins σ Q) X.xe s:=by
 have r2:bT (vs++dvs) (us++ds):=r.append b
 have g:(us++ds).length=ps.length:=by rw[<-r2.length];exact F.len _ _ _ _ h
 refine E2 (EK (F.run X.A X.stack s H ⟨us,[]⟩ (us++ds) (vs++dvs) Q E d I.env0 (c s us I.kIn g) r2 h) fun r s' a=>?_)
 cases r with
 | error e=>exact hx pins σ H s e s' I a
 | ok fl=>
  cases fl with
  | ret u=>exact I.after a
  | next=>exact False.elim a
  | brk=>exact False.elim a
  | cont=>exact False.elim a
theorem aC7(F:FnOk X.prog X.w X.K X.mg X.base CX k f fd ps sp)(d:Room k X.A)(j:Gl X x)(g:X.mg x=some (.ref f))(l:PySem.W.keepIn X.K (.ref f)=true)(c:gQ X.K fd ps ds)(i:bT dvs ds)(hx:mQ CX X E)
  (m:PA X (e::es) t) (a:(x == ("__debug__":Str))=false:=by decide) (he:starEach (e::es) X.env=(false,eval e X.env)::starEach es X.env:=by rfl) (hpl:(backTo pos (starEach es X.env)).any (·.1)=false:=by rfl) :
  PE X (.Call (.Name x p) (e::es) [] pos) (oK sp dvs E t):=by
 intro pins s σ H Q I h
 refine CW (pA I j g ?_ a)
 refine DR (h₀:=X.base) I.ok.mod.kin l (thn (m pos pins s σ H _ I h) fun us s1 ⟨vs,H1,b,r,q⟩=>⟨b.kIn,?_⟩) he hpl
 exact aGK F d c i hx b r q
structure Mk(K:Frag)(C f:Addr):Prop where
 makes:PySem.W.makesIn K C=true
 init:PySem.W.findIn K (.ref C) "__init__"=some (some (.ref f))
 fn:PySem.W.isFn K (.ref f)=true
 kp:PySem.W.keepIn K (.ref C)=true
end
section
variable{X:Cx}{CX:CXT}{k:Nat}{f C:Addr}{fd:FuncData}{ps ks:List Str}{sp:Sp}{E:XK}{x m:Str}{p pos apos kpos:Pos}{e o:Expr}{es:List Expr}{kws:List Keyword}{te ta:TE}{t tk:TA}{nm:Option Str}
structure KBinds(K:Frag)(fd:FuncData)(ps ks:List Str)(g:List Value->List Value->List Value)(gV:List V->List V->List V):Prop where
 to:∀ (s:Shared) (us ws:List Value),K.In s.heap->(g us ws).length=ps.length->BindsTo s fd ⟨us,ks.zip ws⟩ (ps.zip (g us ws))
 rel:∀ {vs:List V} {us:List Value} {zs:List V} {ws:List Value},bT vs us->bT zs ws->bT (gV vs zs) (g us ws)
variable{g:List Value->List Value->List Value}{gV:List V->List V->List V}
end
structure FnScope(N P:List Str)(sc:Scope):Prop where
 kind:sc.kind=.function
 co:sc.isCoroutine=false
 gen:sc.isGenerator=false
 nd:N.Nodup
 pre:N.take P.length=P
 par:∀ x∈P,sc.names.lookup x=some .local\/sc.names.lookup x=some .cell
 nofree:∀ y∈sc.names,y.2≠.free
theorem yP{a:Str->Option NameKind}{x:Str}:∀ {binds:List (Str×Value)} {m:Str->Option Value},(∀ v,(x,v)∉binds)->bindL a binds m x=m x
 | [],_,_=>rfl
 | (n,v)::r,m,h=>by
  unfold bindL
  rw[yP fun w hw=>h w (AM _ hw)]
  split
  ·have:x≠n:=by rintro rfl;exact h v AX
   simp[this]
  ·rfl
theorem yQ{a:Str->Option NameKind}{x:Str}:∀ {binds:List (Str×Value)} {m:Str->Option Value},(∀ v,(x,v)∉binds)->bindC a binds m x=m x
 | [],_,_=>rfl
 | (n,v)::r,m,h=>by
  unfold bindC
  rw[yQ fun w hw=>h w (AM _ hw)]
  split
  ·rfl
  ·have:x≠n:=by rintro rfl;exact h v AX
   simp[this]
theorem rK{a:Str->Option NameKind}{x:Str}{v:Value}:∀ {P:List Str} {vs:List Value} {i:Nat} {m:Str->Option Value},P.Nodup->P[i]? = some x->vs[i]? = some v->a x=some .local->
  bindL a (P.zip vs) m x=some v
 | [],_,_,_,_,h,_,_=>by simp at h
 | _::_,[],_,_,_,_,h,_=>by simp at h
 | p::P,w::vs,0,m,nd,h1,h2,hk=>by
  simp at h1 h2;subst h1;subst h2
  show bindL a ((p,w)::P.zip vs) m p=_
  unfold bindL
  rw[yP fun v hv=>(CZ.mp nd).1 (E3 hv).1,AD hk]
  simp
 | p::P,w::vs,i+1,m,nd,h1,h2,hk=>by
  show bindL a ((p,w)::P.zip vs) m x=_
  unfold bindL
  exact rK (i:=i) (CZ.mp nd).2 (by simpa using h1) (by simpa using h2) hk
theorem rL{a:Str->Option NameKind}{x:Str}{v:Value}:∀ {P:List Str} {vs:List Value} {i:Nat} {m:Str->Option Value},P.Nodup->P[i]? = some x->vs[i]? = some v->a x≠some .local->
  bindC a (P.zip vs) m x=some v
 | [],_,_,_,_,h,_,_=>by simp at h
 | _::_,[],_,_,_,_,h,_=>by simp at h
 | p::P,w::vs,0,m,nd,h1,h2,hk=>by
  simp at h1 h2;subst h1;subst h2
  show bindC a ((p,w)::P.zip vs) m p=_
  unfold bindC
  rw[yQ fun v hv=>(CZ.mp nd).1 (E3 hv).1,AE hk]
  simp
 | p::P,w::vs,i+1,m,nd,h1,h2,hk=>by
  show bindC a ((p,w)::P.zip vs) m x=_
  unfold bindC
  exact rL (i:=i) (CZ.mp nd).2 (by simpa using h1) (by simpa using h2) hk
noncomputable def start(N:List Str)(vs:List V):St:=vs.map some++List.replicate (N.length - vs.length) none
noncomputable def jJ(CX:CXT)(P:Program)(w:World)(K:Frag)(mg:Str->Option Value)(base:Heap)(N:List Str)(qual:Str)(scope:Scope)(f:Addr)(cd:Value)(A:Around)(outer:List Env)(s:Shared)(H:Hp)(E:XK):Cx where
 prog:=P
 w:=w
 K:=K
 mg:=mg
 base:=base
 A:=A.deeper (envOfC qual scope s.heap.objs.size f cd)
 N:=N
 s₀:=s
 H₀:=H
 env:=envOfC qual scope s.heap.objs.size f cd
 outer:=outer
 stack:=envOfC qual scope s.heap.objs.size f cd::outer
 ex:=[]
 calm:=true
 fn:=fun _=>true
 pn:=[]
 xe:=fun e s'=>wpAny (model P w) (A.deeper (envOfC qual scope s.heap.objs.size f cd)) (leaving (envOfC qual scope s.heap.objs.size f cd) e) (fun _ s''=>CX outer H s E e s'') (fun e' s''=>CX outer H s E e' s'') s'
theorem nW{a:Scope}{n:Nat}{x:Str}(h:a.names.lookup x=some .cell):∃ c,(cellsFrom n a.names []).lookup x=some c:=by
 have q:=GJ a.names n [] (.inl h)
 exact FZ.mp q
theorem aGL{CX:CXT}{P:Program}{w:World}{K:Frag}{mg:Str->Option Value}{base:Heap}{N ps:List Str}{qual:Str}{scope:Scope}{f:Addr}{cd:Value}{A:Around}{outer:List Env}{s s1:Shared}{H:Hp}{E:XK}{us:List Value}{vs:List V}
  (S:FnScope N ps scope) (t:A.handled=none) (e0:Env0 P w K mg base A outer s H) (G:vs.length=ps.length) (r:bT vs us)
  (x:InCallC s s.heap.objs.size (bindL (envOfC qual scope s.heap.objs.size f cd).kindOf (ps.zip us) fun _=>none) (cellsFrom (s.heap.objs.size+1) scope.names []) (bindC (envOfC qual scope s.heap.objs.size f cd).kindOf (ps.zip us) fun _=>none) s1) :
  Inv (jJ CX P w K mg base N qual scope f cd A outer s H E) [] (start N vs) H s1:=by
 have B:ps.length<=N.length:=by have:=EA List.length S.pre;rw[BF] at this;omega
 obtain ⟨h1,tk,rfl,o⟩:=x.done
 have d:∀ b:Addr,b∉(jJ CX P w K mg base N qual scope f cd A outer s H E).ex:=fun b z=>absurd (show b∈([]:List Addr) from z) (by simp)
 refine ⟨⟨e0.mod,S.kind,rfl,rfl,AG _,fun y z c h1 h2=>?_,fun y g=>?_,fun y c _ h=>?_,fun _=>t,Around.frames_deeper e0.frames,.inr ⟨rfl,rfl⟩,fun b z=>absurd z (d b),e0.bs,e0.bsz,fun b _ _=>d b,fun b z=>absurd z (d b),e0.funs,e0.frf⟩,
  rfl,e0.bare,Un.kept o,⟨_,x.toInCall.ns,fun i y v h1 h2 F=>?_⟩,fun y c h=>⟨_,x.cell y c h⟩,e0.hok.fresh (AG _),fun y c h=>?_,fun p j=>absurd (show p∈([]:List (Addr×Obj)) from j) (by simp),e0.hok.kept o,?_⟩
 ·exact name_of_addr x.apart (BE h1) (BE h2)
 ·have g:scope.names.lookup y=some .cell\/scope.names.lookup y=some .free:=g
  rcases g with g|g
  ·exact nW g
  ·exact absurd rfl (S.nofree _ (BE g))
 ·exact CY (x.above y c (BE h))
 ·have hi:i < vs.length:=by
   unfold start at h2
   by_cases hi:i < vs.length
   ·exact hi
   ·rw[CA (by simpa using hi)] at h2
    rw[EN] at h2
    split at h2<;>cases h2
  have D:vs[i]? = some v:=by
   unfold start at h2
   rw[BV (by simpa using hi),AH] at h2
   cases e:vs[i]? with
   | none=>rw[e] at h2;cases h2
   | some a=>rw[e] at h2;cases h2;rfl
  obtain ⟨u,m,C⟩:=r.get D
  have j:ps[i]? = some y:=by
   rw[<-S.pre,F6 (by omega)];exact h1
  have l:ps.Nodup:=by rw[<-S.pre];exact S.nd.sublist (List.take_sublist _ _)
  refine ⟨u,C,?_⟩
  rcases S.par y (AL j) with k|k
  ·exact .inl ⟨k,rK l j m k⟩
  ·obtain ⟨c,e⟩:=nW (n:=s.heap.objs.size+1) k
   refine .inr ⟨.inl k,c,e,?_⟩
   have q:=x.cell y c e
   rw[rL l j m (by show scope.names.lookup y≠_;rw[k];decide)] at q
   exact q
 ·exact e0.hok.fresh (CY (x.above y c (BE h)))
 ·unfold start
  show _=N.length
  rw[A0,AB,D0]
  omega
theorem zS{CX:CXT}{P:Program}{w:World}{K:Frag}{mg:Str->Option Value}{base:Heap}{k:Nat}{f:Addr}{name qual:Str}{params:Arguments}{body:List Stmt}{scope:Scope}{D kV doc pm a ct L:Value}{F od:Option Addr}
  {C:Array (Option Value)} {N ps:List Str} {sp:Sp} (M:K.lookup f=some ⟨L,od,.func (PySem.W.fnOf name qual params body scope D kV doc pm F a ct),C⟩) (l:PySem.W.codeIn K a qual=true) (S:FnScope N ps scope)
  (len:∀ vs H Q E,sp vs H Q E->vs.length=ps.length)
  (d:∀ (A:Around) (outer:List Env) (s:Shared) (H:Hp) (vs:List V) (Q:VK) (E:XK),Room k (A.deeper (envOfC qual scope s.heap.objs.size f a))->sp vs H Q E->
   ∃ t,PSs (jJ CX P w K mg base N qual scope f a A outer s H E) body t/\t {nx:=fun _ H'=>Q .non H',rt:=Q} (start N vs) H) :
  FnOk P w K mg base CX (k+1) f (PySem.W.fnOf name qual params body scope D kV doc pm F a ct) ps sp:=by
 refine ⟨len,fun A outer s H args us vs Q E z e0 R r i=>?_⟩
 have T:=len _ _ _ _ i
 have G:K.In s.heap:=e0.mod.kin.keeps fun b o e=>(e0.bs b o e).1
 have p:s.heap.NoLimit:=e0.mod.nolimit.keeps fun b o e=>(e0.bs b o e).1
 have g:∀ y∈ps.zip us,scope.names.lookup y.1=some .local\/(scope.names.lookup y.1=some .cell/\((cellsFrom (s.heap.objs.size+1) scope.names []).lookup y.1).isSome=true):=fun m U=>by
  obtain ⟨n,v⟩:=m
  rcases S.par n (E3 U).1 with q|q
  ·exact .inl q
  ·exact .inr ⟨q,GJ _ _ _ (.inl q)⟩
 refine codeAny_call_function z.depth (G _ _ M) rfl S.co S.gen rfl (PySem.W.codeRec_of G l) (R _ _ _ _ ?_)
 refine wpAny_newFunctionEnv_cells S.kind g fun env Y s1 x=>?_
 subst Y
 refine ⟨p.keeps x.toInCall.keep,codeAny_func ?_⟩
 obtain ⟨t,O,X⟩:=d A outer s H vs Q E (z.deeper _) i
 have I:Inv (jJ CX P w K mg base N qual scope f a A outer s H E) [] (start N vs) H s1:=aGL S z.hd e0 T r x
 refine BU (O [] s1 (start N vs) H _ I X) (fun Z s' h=>?_) fun e s' h=>h
 have j:∀ {c:St} {H':Hp} {v:V} {u:Value},Inv (jJ CX P w K mg base N qual scope f a A outer s H E) [] c H' s'->bJ v u->Q v H'->CE outer P w H s Q u s':=
  fun {c H' v u} J B q=>⟨v,H',J.os,J.bare,J.base,J.hok,B,q⟩
 cases Z with
 | ret u=>
  obtain ⟨v,c,H',J,B,q⟩:=h
  exact j J B q
 | next=>
  obtain ⟨c,H',J,q⟩:=h
  exact j (v:=V.non) (u:=Value.none) J rfl q
 | brk=>
  obtain ⟨_,_,_,q⟩:=h
  exact False.elim q
 | cont=>
  obtain ⟨_,_,_,q⟩:=h
  exact False.elim q
section
variable{X:Cx}{x:Str}{p pos:Pos}{e:Expr}{es:List Expr}{t:TA}{id T:String}{r:List V->Hp->VK->Prop}
def tCB(r:List V->Hp->VK->Prop)(t:TA):TE:=fun σ H Q=>t σ H fun vs H1=>r vs H1 Q
theorem bK(j:kF X (.builtin id) r)(f:Gl X x)(c:X.mg x=none)(a:bootBuiltins x=some (.builtin id))(i:PA X (e::es) t)(g:x≠"__name__":=by decide)(hdb:(x == ("__debug__":Str))=false:=by decide)
  (he:starEach (e::es) X.env=(false,eval e X.env)::starEach es X.env:=by rfl) (hpl:(backTo pos (starEach es X.env)).any (·.1)=false:=by rfl):PE X (.Call (.Name x p) (e::es) [] pos) (tCB r t):=by
 intro pins s σ H Q I h
 refine CW (nV I f c a ?_ g hdb)
 exact PyProof.Rows.callWith_builtin1 (thn (i pos pins s σ H _ I h) fun us s1 ⟨vs,H1,d,r1,b⟩=>j pins s1 σ H1 vs us Q d r1 b) he hpl
theorem dE(j:kF X (.type T) r)(f:Gl X x)(c:X.mg x=none)(a:bootBuiltins x=some (.type T))(i:PA X (e::es) t)(g:x≠"__name__":=by decide)(hdb:(x == ("__debug__":Str))=false:=by decide)
  (he:starEach (e::es) X.env=(false,eval e X.env)::starEach es X.env:=by rfl) (hpl:(backTo pos (starEach es X.env)).any (·.1)=false:=by rfl):PE X (.Call (.Name x p) (e::es) [] pos) (tCB r t):=by
 intro pins s σ H Q I h
 refine CW (nV I f c a ?_ g hdb)
 exact CP (thn (i pos pins s σ H _ I h) fun us s1 ⟨vs,H1,d,r1,b⟩=>j pins s1 σ H1 vs us Q d r1 b) he hpl
end
end L2
namespace HT
open PySem PyProof.Rows
section
open PySem.SeqAt
open PySem.AutoSeq1 (wpAny_loadPart')
open PySem.MeetsSeq PySem.MeetsSeq2 PySem.MeetsSeq3
end
section
variable{prog:Program}{w:World}{A:Around}{E:Value->Shared->Prop}{s:Shared}
theorem aLS{t b:Addr}{vs ws:List Value}{Q:Value->Shared->Prop}(q:IsTup s.heap t vs.toArray)(r:IsTup s.heap b ws.toArray)(k:vs≠[])
  (h1:ws=[]->Q (.ref t) s) (h2:ws≠[]->Q (.ref s.heap.objs.size) {s with heap:=s.heap.push {cls:=.type "tuple",data:=.seq (vs++ws).toArray}})
  (hsz:vs.length+ws.length<=sizeLine):wpAny (model prog w) A (binaryOp .Add (.ref t) (.ref b)) Q E s:=by
 obtain ⟨⟨cls,dd,data,sl⟩,i,p,n,m⟩:=id q
 obtain ⟨⟨l,g,j,f⟩,a,d,o,c⟩:=id r
 simp only at p m d c
 subst p m d c
 have e:vs.toArray++ws.toArray=(vs++ws).toArray:=by simp
 by_cases h:ws=[]
 ·exact concat_meets ⟨_,i,rfl⟩ ⟨_,a,rfl⟩ noFill_tuple_add seq_tuple_add GK GF (F7 _ _)
   (tuple_addW1 t b vs.toArray ws.toArray n o dd g sl f (by simpa using k) (by simp[h])) ⟨i,a,h1 h⟩
 ·refine concat_meets ⟨_,i,rfl⟩ ⟨_,a,rfl⟩ noFill_tuple_add seq_tuple_add GK GF (F7 _ _)
   (tuple_addW2 t b vs.toArray ws.toArray n o dd g sl f (by simpa using k) (by simpa using h) (by rw[A4,A4];exact hsz)) ⟨i,a,?_⟩
  rw[e]
  exact h2 h
noncomputable def sIx(n d:Nat):Option Int->Nat
 | none=>d
 | some v=>if v < 0 then (v+(n:Int)).toNat else min v.toNat n
theorem aAA(n d:Nat):sIx n d none=d:=rfl
theorem aC8(n d k:Nat):sIx n d (some (k:Int))=min k n:=by
 show (if (k:Int) < 0 then ((k:Int)+(n:Int)).toNat else min (k:Int).toNat n)=min k n
 rw[AE (by omega),EO]
theorem aOZ(n d:Nat)(b:d<=n)(o:Option Int):sIx n d o<=n:=by
 cases o with
 | none=>exact b
 | some v=>
  show (if v < 0 then (v+(n:Int)).toNat else min v.toNat n)<=n
  by_cases a:v < 0
  · rw [AD a]; omega
  · rw [AE a]; exact Nat.min_le_right _ _
theorem aC9(v:Int)(n d:Nat):(if v < 0 then max (v+(n:Int)) 0 else min v (n:Int))=((sIx n d (some v):Nat):Int):=by
 show (if v < 0 then max (v+(n:Int)) 0 else min v (n:Int))=(((if v < 0 then (v+(n:Int)).toNat else min v.toNat n):Nat):Int)
 by_cases a:v < 0
 · simp only [AD a]; omega
 · simp only [AE a]; omega
theorem aEZ(lo hi:Option Int)(n:Nat):Builtin.Slice.sliceAdjust lo hi 1 (n:Int)=(((sIx n 0 lo:Nat):Int),((sIx n n hi:Nat):Int)):=by
 have h1:¬ ((1:Int) < 0):=by omega
 unfold Builtin.Slice.sliceAdjust
 simp only[h1,CH]
 refine Prod.ext ?_ ?_
 ·cases lo with
  | none=>rfl
  | some v=>exact aC9 v n 0
 ·cases hi with
  | none=>rfl
  | some v=>exact aC9 v n n
theorem aE0(i j:Nat):Builtin.Slice.slicePlaces (i:Int) (j:Int) 1=j - i:=by
 unfold Builtin.Slice.slicePlaces
 have h1:(1:Int) > 0:=by omega
 simp only[h1,CB,Int.ediv_one]
 split<;>omega
theorem vK{v:Value}{o:Option Int}{Q:Option Int->Shared->Prop}(p:IsPart v o)(h:Q o s):wpAny (model prog w) A (Builtin.Slice.slicePartIndex v) Q E s:=by
 cases p with
 | none=>exact slicePart_none h
 | int i t=>exact slicePart_int h
theorem uG{sl:Addr}{c d:Value}{lo hi:Option Int}{n:Nat}{Q:Int×Int×Nat->Shared->Prop}(f:s.heap.IsSliceOf sl c d .none)(pl:IsPart c lo)(e:IsPart d hi)
  (h:Q (((sIx n 0 lo:Nat):Int),1,sIx n n hi - sIx n 0 lo) s):wpAny (model prog w) A (Builtin.Slice.sliceApplied (.ref sl) (pure (n:Int))) Q E s:=by
 obtain ⟨os,a,g,b⟩:=id f
 unfold Builtin.Slice.sliceApplied Builtin.Slice.sliceFields
 refine AA (AA (DG a b (x:=c) rfl (AA (DG a b (x:=d) rfl (AA (DG a b (x:=.none) rfl (AC ?_)))))))
 refine AA (slicePart_none ?_)
 show wpAny _ _ (if ((1:Int) == 0)=true then _ else _) _ _ s
 rw[AE (by decide)]
 refine AA (vK pl (AA (vK e (AA (AC ?_)))))
 show wpAny _ _ (match Builtin.Slice.sliceAdjust lo hi 1 (n:Int) with|(lo,hi)=>pure (lo,(1:Int),Builtin.Slice.slicePlaces lo hi 1)) _ _ s
 rw[aEZ lo hi n]
 show wpAny _ _ (pure (((sIx n 0 lo:Nat):Int),(1:Int),Builtin.Slice.slicePlaces ((sIx n 0 lo:Nat):Int) ((sIx n n hi:Nat):Int) 1)) _ _ s
 rw[aE0]
 exact AC h
theorem aIW(xs:Array Value)(i k:Nat):((List.range k).filterMap fun (m:Nat)=>xs[((i:Int)+(m:Int) * 1).toNat]?).toArray=((xs.toList.drop i).take k).toArray:=by
 have e:(fun (m:Nat)=>xs[((i:Int)+(m:Int) * 1).toNat]?)=fun m=>xs[i+m]?:=by
  funext m
  have:((i:Int)+(m:Int) * 1).toNat=i+m:=by omega
  rw[this]
 rw[e]
 have:=pick_run xs i k
 rw[List.filterMap_map] at this
 have e2:((fun x=>xs[x]?)∘fun x=>i+x)=fun m=>xs[i+m]?:=rfl
 rw[e2] at this
 rw[this]
theorem tW{t sl:Addr}{items:Array Value}{g i:Value}{lo hi:Option Int}{Q:Value->Shared->Prop}(b:IsTup s.heap t items)(j:s.heap.IsSliceOf sl g i .none)(pl:IsPart g lo)(k:IsPart i hi)
  (hw:¬ (sIx items.size 0 lo=0/\sIx items.size items.size hi=items.size))
  (h:Q (.ref s.heap.objs.size) {s with heap:=s.heap.push {cls:=.type "tuple",data:=.seq ((items.toList.drop (sIx items.size 0 lo)).take (sIx items.size items.size hi - sIx items.size 0 lo)).toArray}})
  (hsz:items.size<=sizeLine):wpAny (model prog w) A (getItem (.ref t) (.ref sl)) Q E s:=by
 have a:sizeOk (.seq ((items.toList.drop (sIx items.size 0 lo)).take (sIx items.size items.size hi - sIx items.size 0 lo)).toArray):=by
  show ((items.toList.drop (sIx items.size 0 lo)).take (sIx items.size items.size hi - sIx items.size 0 lo)).toArray.size<=sizeLine
  rw[A4,BF,CV,CU]
  omega
 have o:sIx items.size items.size hi<=items.size:=aOZ _ _ (AG _) hi
 obtain ⟨os,e,d,l⟩:=id j
 have f:s.TypeIs (.ref sl) "slice":=⟨os,e,d⟩
 unfold getItem
 try with_reducible refine CM ?_
 first|refine AA (AC ?_)|skip
 refine AA (wpAny_sequenceKey b.typeIs (by decide) ?_)
 refine AA (DP (name:=Str.ofString "__getitem__") b.typeIs DO
  (EV DO b.typeIs entry_tuple_getitem ?_ (args_tuple_getitem _ _)))
 show wpAny _ _ (Builtin.Tuple.tupleItemsOf (.ref t) >>= _) _ _ s
 refine AA (tupleItemsOf_ b ?_)
 refine AA (wpAny_typeOf f ?_)
 rw[AD (by decide)]
 refine AA (uG j pl k ?_)
 have c:¬ ((((sIx items.size 0 lo:Nat):Int) == 0 && (1:Int) == 1 && (sIx items.size items.size hi - sIx items.size 0 lo) == items.size)=true):=by
  intro q
  rw[AU,AU] at q
  have n:((sIx items.size 0 lo:Nat):Int)=0:=D5 q.1.1
  have p:sIx items.size items.size hi - sIx items.size 0 lo=items.size:=D5 q.2
  exact hw ⟨by omega,by omega⟩
 show wpAny _ _ (if (((sIx items.size 0 lo:Nat):Int) == 0 && (1:Int) == 1 && (sIx items.size items.size hi - sIx items.size 0 lo) == items.size)=true then _ else _) _ _ s
 rw[AE c,aIW]
 first
  | exact AA (m:=Builtin.Tuple.tupleExact _) (CJ (AC ⟨_,rfl,AC h⟩) a)
  | exact AA (m:=Builtin.Tuple.tupleExact _) (CJ (AA (AC (AC ⟨_,rfl,AC h⟩))) a)
  | exact AA (AA (m:=Builtin.Tuple.tupleExact _) (CJ (AC (AC ⟨_,rfl,AC h⟩)) a))
  | exact AA (AA (m:=Builtin.Tuple.tupleExact _) (CJ (AC ⟨_,rfl,AC h⟩) a))
end
end HT
namespace L2
open PySem PySem.Spec PyProof.Rows
abbrev TO:=St->Hp->(Option Int->Hp->Prop)->Prop
def PO(X:Cx)(e:Option Expr)(t:TO):Prop:=
 ∀ (pins:List (Addr×Obj)) (s:Shared) (σ:St) (H:Hp) (Q:Option Int->Hp->Prop),Inv X pins σ H s->t σ H Q->
  wpAny (model X.prog X.w) X.A (evalPart e X.env) (fun u s'=>∃ o H',Inv X pins σ H' s'/\IsPart u o/\Q o H') X.xe s
def aLT:TO:=fun _ H Q=>Q none H
def aRM(t:TE):TO:=fun σ H Q=>t σ H fun x H1=>∃ i,x=.int i/\Q (some i) H1
section
variable{X:Cx}{e:Expr}{te:TE}{lo hi:Option Expr}{tl th:TO}{pos p2:Pos}
theorem aLU:PO X none aLT:=by
 intro pins s σ H Q I h
 rw[evalPart_none]
 exact AC ⟨none,H,I,.none,h⟩
theorem aLV(h:PE X e te):PO X (some e) (aRM te):=by
 intro pins s σ H Q I b
 rw[evalPart_some]
 refine thn (h pins s σ H _ I b) fun u s1 a=>?_
 obtain ⟨x,H1,c,r1,d⟩:=a
 obtain ⟨i,rfl,q⟩:=d
 obtain ⟨t,rfl⟩:=r1
 exact ⟨some i,H1,c,.int i t,q⟩
def SlR(X:Cx)(r:V->Option Int->Option Int->Hp->VK->Prop):Prop:=
 ∀ (pins:List (Addr×Obj)) (s:Shared) (σ:St) (H:Hp) (x:V) (v vl vu:Value) (lo hi:Option Int) (sl:Addr) (Q:VK),Inv X pins σ H s->bJ x v->s.heap.IsSliceOf sl vl vu .none->IsPart vl lo->IsPart vu hi->r x lo hi H Q->
  ∃ T id,typeLookup (.type T) "__getitem__"=pure (some (.builtin id))/\s.TypeIs v T/\wpAny (model X.prog X.w) X.A (getItem v (.ref sl)) (EP X pins σ Q) X.xe s
def tSl(r:V->Option Int->Option Int->Hp->VK->Prop)(te:TE)(tl th:TO):TE:=fun σ H Q=>te σ H fun x H1=>tl σ H1 fun l H2=>th σ H2 fun u H3=>r x l u H3 Q
theorem aAB{r:V->Option Int->Option Int->Hp->VK->Prop}(y:SlR X r)(E:PE X e te)(k:PO X lo tl)(j:PO X hi th):PE X (.Subscript e (.Slice lo hi none p2) pos) (tSl r te tl th):=by
 intro pins s σ H Q I h
 refine Subscript_ (thn (E pins s σ H _ I h) fun v s1 c=>?_)
 obtain ⟨x,H1,G,r1,t⟩:=c
 refine wpAny_Slice (thn (k pins s1 σ H1 _ G t) fun d p ⟨l,H2,o,i,D⟩=>thn (j pins p σ H2 _ o D) fun f a c=>?_)
 obtain ⟨u,H3,C,F,z⟩:=c
 rw[evalPart_none]
 refine AC ?_
 have n:Inv X pins σ H3 {a with heap:=a.heap.push {cls:=.type "slice",data:=.fields #[d,f,.none]}}:=C.kept (t':=a.toks) fun b J q=>AJ _ q
 obtain ⟨T,id,B,g,m⟩:=y pins {a with heap:=a.heap.push {cls:=.type "slice",data:=.fields #[d,f,.none]}} σ H3 x v d f l u a.heap.objs.size Q n r1 (Heap.IsSliceOf.new ..) i F z
 show wpAny (model X.prog X.w) X.A (subscriptTail e (.Slice lo hi none p2) v (.ref a.heap.objs.size)) (EP X pins σ Q) X.xe {a with heap:=a.heap.push {cls:=.type "slice",data:=.fields #[d,f,.none]}}
 exact tail_any (ops:=[.ref a.heap.objs.size,v]) g B m (by with_unfolding_all rfl)
noncomputable def rM(xs:List V)(lo hi:Option Int):List V:=(xs.drop (HT.sIx xs.length 0 lo)).take (HT.sIx xs.length xs.length hi - HT.sIx xs.length 0 lo)
theorem t9(xs:List V)(lo hi:Option Int):(rM xs lo hi).length<=xs.length:=by
 unfold rM
 rw[BF,CV]
 omega
def aSM(K:Frag):V->Option Int->Option Int->Hp->VK->Prop:=fun x lo hi H Q=>∃ a xs,x=.ref a/\SqT K H a xs /\
 ¬ (HT.sIx xs.length 0 lo=0/\HT.sIx xs.length xs.length hi=xs.length)/\∀ p,H p=none->Q (.ref p) (upd H p (.tup (rM xs lo hi)))
theorem aO0:SlR X (aSM X.K):=by
 intro pins s σ H x v n t lo hi sl Q I m k i j h
 obtain ⟨a,xs,rfl,l,g,q⟩:=h
 cases m
 obtain ⟨d,r,f,e⟩:=I.tuple l
 have c:d.toArray.size=xs.length:=by rw[A4];exact r.length.symm
 refine ⟨"tuple",_,DO.lookup,f.typeIs,?_⟩
 refine HT.tW f k i j (by rw[c];exact g) ?_ (by rw[c];exact e)
 rw[c]
 refine ⟨.ref s.heap.objs.size,_,I.laid (t':=s.toks) (o:=.tup (rM xs lo hi)) (fun b p q=>AJ _ q) (AG _) ?_,rfl,q _ (I.hok.fresh (AG _))⟩
 exact ⟨BJ (t9 xs lo hi) e,_,(r.drop (HT.sIx xs.length 0 lo)).take (HT.sIx xs.length xs.length hi - HT.sIx xs.length 0 lo),mM.new _ _⟩
def aRN(K:Frag):R2:=fun x y H Q=>∃ a b xs ys,x=.ref a/\y=.ref b/\SqT K H a xs/\SqT K H b ys/\xs≠[]/\xs.length+ys.length<=sizeLine /\
 (ys=[]->Q (.ref a) H)/\(ys≠[]->∀ p,H p=none->Q (.ref p) (upd H p (.tup (xs++ys))))
theorem bT.nil_iff{xs:List V}{us:List Value}(r:bT xs us):us=[]↔xs=[]:=by
 cases r with
 | nil=>simp
 | cons _ _=>simp
theorem aLW:OpR X (binaryOp .Add) (aRN X.K):=by
 intro pins s σ H x y v u Q I n j h
 obtain ⟨a,b,xs,ys,rfl,rfl,l,i,m,c,f,g⟩:=h
 cases n
 cases j
 obtain ⟨k,r1,e,_⟩:=I.tuple l
 obtain ⟨d,r2,p2,_⟩:=I.tuple i
 refine HT.aLS e p2 (fun z=>m (r1.nil_iff.mp z)) (fun z=>⟨.ref a,H,I,rfl,f (r2.nil_iff.mp z)⟩) (fun z=>?_) (by rw[<-r1.length,<-r2.length];exact c)
 refine ⟨.ref s.heap.objs.size,_,I.laid (t':=s.toks) (o:=.tup (xs++ys)) (fun b p q=>AJ _ q) (AG _) ?_,rfl,g (fun w=>z (r2.nil_iff.mpr w)) _ (I.hok.fresh (AG _))⟩
 exact ⟨by rw[A0];exact c,_,r1.append r2,mM.new _ _⟩
end
noncomputable def ixN(n:Nat)(i:Int):Option Nat:=if 0<=i then (if i < n then some i.toNat else none) else if -(n:Int)<=i then some (i+n).toNat else none
noncomputable def atI{α:Type}(xs:List α)(i:Int):Option α:=(ixN xs.length i).bind fun j=>xs[j]?
theorem aDA{n:Nat}{i:Int}{j:Nat}(h:ixN n i=some j):seqIndex? i n=some j/\j < n /\ -(n:Int)<=i/\i < n:=by
 unfold ixN at h
 by_cases a:0<=i
 ·rw[AD a] at h
  by_cases h1:i < n
  ·rw[AD h1] at h
   have e:i.toNat=j:=BP h
   exact ⟨by rw[seqIndex_of a h1,e],by omega,by omega,h1⟩
  ·rw[AE h1] at h;cases h
 ·rw[AE a] at h
  by_cases h1 : -(n:Int)<=i
  ·rw[AD h1] at h
   have e:(i+n).toNat=j:=BP h
   exact ⟨by rw[seqIndex_neg (by omega) h1,e],by omega,h1,by omega⟩
  ·rw[AE h1] at h;cases h
theorem xA{α:Type}{xs:List α}{i:Int}{v:α}(h:atI xs i=some v):∃ j,seqIndex? i xs.length=some j/\xs[j]? = some v/\j < xs.length /\ -(xs.length:Int)<=i/\i < xs.length:=by
 unfold atI at h
 cases e:ixN xs.length i with
 | none=>rw[e] at h;cases h
 | some j=>
  rw[e] at h
  obtain ⟨h1,h2,b,a⟩:=aDA e
  exact ⟨j,h1,h,h2,b,a⟩
theorem dX{α:Type}{xs:List α}{j:Nat}{v:α}(h:xs[j]? = some v):atI xs (j:Int)=some v:=by
 have a:j < xs.length:=(AI.mp h).1
 have e:ixN xs.length (j:Int)=some j:=by
  unfold ixN
  rw[AD (by omega),AD (by omega)];simp
 unfold atI;rw[e];exact h
theorem aIX{α:Type}(xs:List α)(v:α):atI (xs++[v]) (-1)=some v:=by
 have a:(xs++[v]).length=xs.length+1:=by simp
 have e:ixN (xs++[v]).length (-1)=some xs.length:=by
  unfold ixN
  rw[a,AE (by decide),AD (by omega)]
  congr 1
  omega
 unfold atI
 rw[e]
 show (xs++[v])[xs.length]? = some v
 simp
def aDB(b:Expr):Prop:=∀ o i,subscripted b false o i=operate [o,i] (getItem o i)
def IxR(X:Cx)(r:R2):Prop:=
 ∀ (value slice:Expr) (pins:List (Addr×Obj)) (s:Shared) (σ:St) (H:Hp) (x y:V) (v u:Value) (Q:VK),Inv X pins σ H s->bJ x v->bJ y u->r x y H Q->
  subscripted slice false v u=operate [v,u] (getItem v u)->wpAny (model X.prog X.w) X.A (subscriptTail value slice v u) (EP X pins σ Q) X.xe s
def MtR(X:Cx)(id:String)(r:V->List V->Hp->VK->Prop):Prop:=
 ∀ (pins:List (Addr×Obj)) (s:Shared) (σ:St) (H:Hp) (x:V) (xs:List V) (v:Value) (us:List Value) (Q:VK),Inv X pins σ H s->bJ x v->bT xs us->r x xs H Q->
  wpAny (model X.prog X.w) X.A (call (.builtin id) (v::us)) (EP X pins σ Q) X.xe s
section
variable{X:Cx}{a b:Expr}{ta tb:TE}{pos:Pos}
theorem IxR.or{r d:R2}(h:IxR X r)(h':IxR X d):IxR X (fun x y H Q=>r x y H Q\/d x y H Q):=by
 intro value a pins s σ H x y v u Q I e b q c
 rcases q with q|q
 · exact h value a pins s σ H x y v u Q I e b q c
 · exact h' value a pins s σ H x y v u Q I e b q c
theorem aKX{r:R2}(g:IxR X r)(j:PE X a ta)(c:PE X b tb)(i:aDB b):PE X (.Subscript a b pos) (tOp r ta tb):=by
 intro pins s σ H Q I h
 exact Subscript_ (aIU j c I h fun v u e x y H2 d k f q=>g a b pins e σ H2 x y v u Q d k f q (i _ _))
def aO1(K:Frag):R2:=fun x y H Q=>∃ p xs i v,x=.ref p/\y=.int i/\SqL K H p xs/\atI xs i=some v/\Q v H
def aO2(K:Frag):R2:=fun x y H Q=>∃ p xs i v,x=.ref p/\y=.int i/\SqT K H p xs/\atI xs i=some v/\Q v H
def aO3:R2:=fun x y H Q=>∃ z i c,x=.str z/\y=.int i/\z.length<=sizeLine/\atI z.cps.toList i=some c/\Q (.str ⟨#[c]⟩) H
theorem aDC:IxR X (aO1 X.K):=by
 intro value b pins s σ H x y v u Q I o B h l
 obtain ⟨p,xs,i,z,rfl,rfl,m,A,q⟩:=h
 cases o
 obtain ⟨t,rfl⟩:=B
 obtain ⟨f,r,e,E⟩:=I.list m
 obtain ⟨j,h1,h2,F,D,n⟩:=xA A
 obtain ⟨w,k,c⟩:=r.get h2
 have C:=r.length
 have G:=rG
 have a:EP X pins σ Q w s:=⟨z,H,I,c,q⟩
 by_cases g:0<=i
 ·have d:i.toNat=j:=by
   rw[seqIndex_of g n] at h1
   exact BP h1
  exact item_listR e.isList g (by omega) (by rw[d];simpa using k) a l
 ·have d:(i+(f.toArray.size:Int)).toNat=j:=by
   rw[seqIndex_neg (by omega) D] at h1
   rw[A4,<-C]
   exact BP h1
  exact subscriptTail_builtinR (x:=w) e.isList.typeIs slot_list_getitem.lookup
   (wpAny_getItem_list_neg (Q:=fun r s'=>r=w/\EP X pins σ Q r s') e.isList (by omega) (by rw[A4]<;>omega) (by omega) (by rw[d];simpa using k) ⟨rfl,a⟩) l
theorem aGM:IxR X (aO2 X.K):=by
 intro value a pins s σ H x y v u Q I f l h o
 obtain ⟨p,xs,i,z,rfl,rfl,e,k,q⟩:=h
 cases f
 obtain ⟨t,rfl⟩:=l
 obtain ⟨n,r,d,A⟩:=I.tuple e
 obtain ⟨j,h1,h2,B,E,C⟩:=xA k
 obtain ⟨w,g,b⟩:=r.get h2
 have m:=r.length
 have D:=rG
 have c:EP X pins σ Q w s:=⟨z,H,I,b,q⟩
 exact subscriptTail_builtinR (x:=w) d.typeIs slot_tuple_getitem.lookup
  (getItem_tuple (j:=j) (Q:=fun r s'=>r=w/\EP X pins σ Q r s') d (by omega) (by omega) (by rw[A4,<-m];exact h1) (by simpa using g) ⟨rfl,c⟩) o
theorem aGN:IxR X aO3:=by
 intro value a pins s σ H x y v u Q I l e h k
 obtain ⟨z,i,c,rfl,rfl,m,d,q⟩:=h
 obtain ⟨t,rfl⟩:=l
 obtain ⟨p,rfl⟩:=e
 obtain ⟨j,h1,h2,n,g,b⟩:=xA d
 have f:z.cps.toList.length=z.length:=by simp[Str.length]
 rw[f] at h1 g b
 have o:=rG
 exact tail_any (typeIs_str s z t) slot_str_getitem.lookup (getItem_str (c:=c) (by
  have e1:decide (i < -(2 ^ 63:Int))=false:=A7 (by omega)
  have e2:decide (i>=2 ^ 63)=false:=A7 (by omega)
  rw[e1,e2,Bool.or_false]) (by rw[h1];simpa using h2) ⟨.str ⟨#[c]⟩,H,I.tok _,⟨_,rfl⟩,q⟩) k
def rIx(K:Frag):R2:=fun x y H Q=>aO1 K x y H Q\/aO2 K x y H Q\/aO3 x y H Q
theorem aO4:IxR X (rIx X.K):=aDC.or (aGM.or aGN)
theorem aE1(a:List Value)(n j:Nat)(u:Value):Obj.mapSeq (·.setIfInBounds j u) {cls:=.type "list",data:=.seq a.toArray n}={cls:=.type "list",data:=.seq (a.set j u).toArray n}:=by
 simp[Obj.mapSeq]
theorem Inv.lst{pins:List (Addr×Obj)}{σ:St}{H:Hp}{s:Shared}{p:Addr}{xs:List V}(I:Inv X pins σ H s)(h:H p=some (.lst xs)) :
  ∃ (its:List Value) (n:Nat),bT xs its/\s.heap.get? p=some {cls:=.type "list",data:=.seq its.toArray n}/\xs.length<=sizeLine:=by
 obtain ⟨z,its,n,r,e⟩:=I.hok p _ h
 exact ⟨its,n,r,e,z⟩
theorem Inv.lstUpd{pins:List (Addr×Obj)}{σ:St}{H:Hp}{s:Shared}{p:Addr}{xs ys:List V}{a its':List Value}{n c:Nat}{f:Obj->Obj}(I:Inv X pins σ H s)(h:H p=some (.lst xs))
  (g:s.heap.get? p=some {cls:=.type "list",data:=.seq a.toArray n}) (hf:f {cls:=.type "list",data:=.seq a.toArray n}={cls:=.type "list",data:=.seq its'.toArray c}) (r:bT ys its') (hz:ys.length<=sizeLine) (t:Nat) :
  Inv X pins σ (upd H p (.lst ys)) {s with heap:=s.heap.update p f,toks:=t}:=by
 have e:(s.heap.update p f).get? p=some {cls:=.type "list",data:=.seq its'.toArray c}:=by
  rw[BZ f g (by rw[hf]<;>rfl),hf]
 refine I.write (x:=p) (e:=p) (by rw[h];trivial) (.inl rfl) (fun b u d q=>(B6 _ _ (BX d)).trans q) ⟨_,e⟩ ?_
 exact ⟨hz,its',c,r,e⟩
def aKY:V->V->V->Hp->(Hp->Prop)->Prop:=fun o i v H Q=>∃ p xs k j,o=.ref p/\i=.int k/\H p=some (.lst xs)/\ixN xs.length k=some j/\Q (upd H p (.lst (xs.set j v)))
theorem aIY:aIR X aKY:=by
 intro pins s σ H o i v B D u Q I A y z h
 obtain ⟨p,xs,k,j,rfl,rfl,l,x,q⟩:=h
 cases A
 obtain ⟨t,rfl⟩:=y
 obtain ⟨a,n,r,b,w⟩:=I.lst l
 obtain ⟨h1,h2,e,m⟩:=aDA x
 have c:=r.length
 have C:=rG
 have g:Inv X pins σ (upd H p (.lst (xs.set j v))) {s with heap:=s.heap.update p (Obj.mapSeq (·.setIfInBounds j u))}:=
  I.lstUpd l b (aE1 a n j u) (r.set z j) (by rw[CK];exact w) s.toks
 by_cases f:0<=k
 ·have d:k.toNat=j:=by
   rw[seqIndex_of f m] at h1
   exact BP h1
  exact PySem.W.ki_setAt b f (by omega) (by rw[A4,<-c];exact m) (by rw[d];exact ⟨_,g,q⟩)
 ·have d:(k+(a.toArray.size:Int)).toNat=j:=by
   rw[seqIndex_neg (by omega) e] at h1
   rw[A4,<-c]
   exact BP h1
  exact PySem.W.ki_setBack b (by omega) (by rw[A4,<-c];exact e) (by omega) (by rw[d];exact ⟨_,g,q⟩)
theorem aAC(lo hi:Option Int)(n:Nat):(sliceBounds lo hi none n).1=((HT.sIx n 0 lo:Nat):Int)/\(sliceBounds lo hi none n).2.1=((HT.sIx n n hi:Nat):Int)/\(sliceBounds lo hi none n).2.2=1:=by
 refine ⟨?_,?_,rfl⟩
 ·cases lo with
  | none=>simp[sliceBounds,HT.sIx]
  | some i=>
   simp only[sliceBounds,HT.sIx,F8,show (1:Int) > 0 by decide,CB]
   by_cases h:i < 0
   · simp only [h, CB] <;> omega
   · simp only [h, CH] <;> omega
 ·cases hi with
  | none=>simp[sliceBounds,HT.sIx]
  | some i=>
   simp only[sliceBounds,HT.sIx,F8,show (1:Int) > 0 by decide,CB]
   by_cases h:i < 0
   · simp only [h, CB] <;> omega
   · simp only [h, CH] <;> omega
theorem zI(a:List Value)(lo hi:Option Int):slicePick a.toArray lo hi none=((a.drop (HT.sIx a.length 0 lo)).take (HT.sIx a.length a.length hi - HT.sIx a.length 0 lo)).toArray:=by
 obtain ⟨h1,h2,b⟩:=aAC lo hi a.toArray.size
 unfold slicePick
 rw[h1,h2,b]
 simp only[sliceRange_one,pick_run,A4]<;>rfl
def aSN(K:Frag):V->Option Int->Option Int->Hp->VK->Prop:=fun x lo hi H Q=>∃ a xs,x=.ref a/\SqL K H a xs/\∀ p,H p=none->Q (.ref p) (upd H p (.lst (rM xs lo hi)))
theorem aDD:SlR X (aSN X.K):=by
 intro pins s σ H x v m p lo hi sl Q I l j f i h
 obtain ⟨a,xs,rfl,k,q⟩:=h
 cases l
 obtain ⟨g,r,d,e⟩:=I.list k
 have c:=r.length
 refine ⟨"list",_,slot_list_getitem.lookup,d.isList.typeIs,?_⟩
 refine wpAny_getItem_list_slice d.isList j f i .none (by simp) ?_ (by rw[A4]<;>omega)
 rw[zI,<-c]
 refine ⟨.ref s.heap.objs.size,_,I.laid (t':=s.toks) (o:=.lst (rM xs lo hi)) (fun b n q=>AJ _ q) (AG _) ?_,rfl,q _ (I.hok.fresh (AG _))⟩
 exact ⟨BJ (t9 xs lo hi) e,_,0,(r.drop (HT.sIx xs.length 0 lo)).take (HT.sIx xs.length xs.length hi - HT.sIx xs.length 0 lo),A9 _ rfl⟩
theorem c8:kF X (.type "tuple") (fun xs H Q=>∃ p ys,xs=[.ref p]/\((SqL X.K H p ys/\∀ l,H l=none->Q (.ref l) (upd H l (.tup ys)))\/(SqT X.K H p ys/\Q (.ref p) H))):=by
 intro pins s σ H xs us Q I r h
 obtain ⟨p,ys,rfl,h⟩:=h
 obtain ⟨u,rfl,n⟩:=oJ r
 cases n
 rcases h with ⟨c,q⟩|⟨c,q⟩
 ·obtain ⟨a,d,f,i⟩:=I.list c
  have g:=d.length
  refine call_tuple_list f.isList (fun h' m=>?_) (by simp only[A4]<;>omega)
  have j:Inv X pins σ H {s with heap:=h'}:=I.kept (t':=s.toks) m
  have k:Inv X pins σ (upd H h'.objs.size (.tup ys)) {s with heap:=h'.push {cls:=.type "tuple",data:=.seq a.toArray}}:=
   j.laid (t':=s.toks) (fun b o e=>AJ _ e) (AG _) (show cN X.prog X.w _ _ _ (.tup ys) from ⟨i,a,d,mM.new _ _⟩)
  exact ⟨.ref h'.objs.size,_,k,rfl,q _ (j.hok.fresh (AG _))⟩
 ·obtain ⟨a,d,f,i⟩:=I.tuple c
  exact call_tuple_same f ⟨.ref p,H,I,rfl,q⟩
def tyV(K:Frag)(T:String)(x:V)(H:Hp):Prop:=match x with
 | .str _=>T="str"
 | .int _=>T="int"
 | .ref p=>(T="list"/\∃ xs,SqL K H p xs)\/(T="tuple"/\∃ o,K.lookup p=some o/\o.cls=.type "tuple"/\o.dict=none) \/
  (T="dict"/\((∃ kvs,H p=some (.dK kvs))\/∃ kvs,H p=some (.dT kvs)))\/(T="set"/\∃ S n,H p=some (.set S n))
 | _=>False
theorem aO5{pins:List (Addr×Obj)}{σ:St}{H:Hp}{s:Shared}{T:String}{x:V}{v:Value}(I:Inv X pins σ H s)(r:bJ x v)(ty:tyV X.K T x H) :
  s.TypeIs v T/\∀ a,v=.ref a->∃ ob,s.heap.get? a=some ob/\ob.dict=none:=by
 cases x with
 | str z=>
  obtain ⟨t,rfl⟩:=r
  cases (show T="str" from ty)
  exact ⟨typeIs_str s z t,fun _ e=>nomatch e⟩
 | int i=>
  obtain ⟨t,rfl⟩:=r
  cases (show T="int" from ty)
  exact ⟨typeIs_int s i t,fun _ e=>nomatch e⟩
 | ref p=>
  cases r
  rcases ty with ⟨rfl,xs,j⟩|⟨rfl,o,b,k,f⟩|⟨rfl,b⟩|⟨rfl,S,n,b⟩
  ·obtain ⟨h,_,g,_⟩:=I.list j
   refine ⟨g.isList.typeIs,fun a e=>?_⟩
   cases e
   obtain ⟨o,n,e,c,f,_⟩:=g
   exact ⟨o,e,f⟩
  ·refine ⟨⟨o,I.kIn p o b,k⟩,fun a e=>?_⟩
   cases e
   exact ⟨o,I.kIn _ o b,f⟩
  ·have z:∃ o,s.heap.get? p=some o/\o.ExactDict:=by
    rcases b with ⟨d,b⟩|⟨d,b⟩
    ·obtain ⟨_,_,_,_,o,_,_,e,ex,_⟩:=I.hok p _ b
     exact ⟨o,e,ex⟩
    ·obtain ⟨_,_,_,_,o,_,_,e,ex,_⟩:=I.hok p _ b
     exact ⟨o,e,ex⟩
   obtain ⟨o,e,ex⟩:=z
   refine ⟨⟨o,e,ex.1⟩,fun a e2=>?_⟩
   cases e2
   exact ⟨o,e,ex.2.1⟩
  ·obtain ⟨o,_,_,_,e,ex,_⟩:=I.hok p _ b
   refine ⟨⟨o,e,ex.1⟩,fun a e2=>?_⟩
   cases e2
   exact ⟨o,e,ex.2.1⟩
 | _=>exact False.elim ty
def tBM(K:Frag)(T:String)(r:V->List V->Hp->VK->Prop)(to:TE)(t:TA):TE:=fun σ H Q=>to σ H fun x H1=>tyV K T x H1/\t σ H1 fun xs H2=>r x xs H2 Q
variable{o e:Expr}{es:List Expr}{to:TE}{t:TA}{name:Str}{apos cpos:Pos}{T id:String}{r:V->List V->Hp->VK->Prop}
theorem gU(i:PlainAttrs T)(slot:Slot T name id)(c:typeOf (.builtin id)=pure (.type "method_descriptor"))(p:MtR X id r)(l:PE X o to)(q:PA X (e::es) t)
  (a:attributeBase o name X.env (eval o X.env)=eval o X.env:=by rfl)
  (hfew:((backTo cpos (starEach (e::es) X.env)).all (fun x=>!x.1) && (backToKw cpos (keywordEach [] X.env)).all (fun x=>x.1.isSome)
   && decide ((e::es).length+([]:List Keyword).length+(if ([]:List Keyword).isEmpty then 0 else 1) < 30))=true:=by rfl)
  (hline:(apos.endLine == cpos.line)=true:=by rfl) (hs:starEach (e::es) X.env=(false,eval e X.env)::starEach es X.env:=by rfl) (hplain:(backTo cpos (starEach es X.env)).any (·.1)=false:=by rfl) :
  PE X (.Call (.Attribute o name apos) (e::es) [] cpos) (tBM X.K T r to t):=by
 intro pins s σ H Q I h
 refine wpAny_Call_method_late a hfew hline rfl (thn (l pins s σ H _ I h) fun v s1 b=>?_)
 obtain ⟨x,H1,f,r1,m,k⟩:=b
 obtain ⟨h1,h2⟩:=aO5 f r1 m
 refine ⟨T,id,i,slot,c,h1,h2,?_⟩
 have d:=q cpos pins s1 σ H1 _ f k
 rw[hs] at d ⊢
 refine Calls.callWith_builtin (by show (false || (backTo cpos (starEach es X.env)).any (·.1))=false;rw[hplain]<;>rfl) (Calls.evalArgs_plain ?_)
 exact thn d fun us j ⟨vs,H2,g,r2,n⟩=>p pins j σ H2 x vs v us Q g r1 r2 n
end
def MtM(X:Cx)(id:String)(r:V->List V->Hp->VK->Prop):Prop:=
 ∀ (pins:List (Addr×Obj)) (s:Shared) (σ:St) (H:Hp) (x:V) (xs:List V) (v:Value) (us:List Value) (Q:VK),Inv X pins σ H s->bJ x v->bT xs us->r x xs H Q->
  wpAny (model X.prog X.w) X.A (call (.builtin id) (v::us)) (EP X pins σ Q) X.xe s
theorem bT.one:∀ {x:V} {us:List Value},bT [x] us->∃ u,us=[u]/\bJ x u
 | _,_,.cons r .nil=>⟨_,rfl,r⟩
theorem bT.reverse{xs:List V}{us:List Value}(h:bT xs us):bT xs.reverse us.reverse:=by
 induction h with
 | nil=>exact .nil
 | cons r t ih=>rw[List.reverse_cons,List.reverse_cons];exact bT.append ih (.cons r .nil)
section
variable{X:Cx}{pins:List (Addr×Obj)}{σ:St}{H:Hp}{s:Shared}{l b:Addr}{xs ys zs:List V}
theorem Inv.lset{a its':List Value}{n:Nat}{f:Array Value->Array Value}{t':Nat}(I:Inv X pins σ H s)(b:H l=some (.lst xs))
  (e:s.heap.get? l=some {cls:=.type "list",data:=.seq a.toArray n}) (hf:f a.toArray=its'.toArray) (hv:bT ys its') (hz:ys.length<=sizeLine) :
  Inv X pins σ (upd H l (.lst ys)) {s with heap:=s.heap.update l (Obj.mapSeq f),toks:=t'}:=by
 have q:=PySem.IsL.update e f
 rw[hf] at q
 refine I.write (x:=l) (e:=l) (by rw[b];exact trivial) (.inl rfl) (fun g u c d=>(B6 s.heap (Obj.mapSeq f) (BX c)).trans d) ⟨_,q⟩ ?_
 exact ⟨hz,its',_,hv,q⟩
theorem Inv.lnew{a:List Value}{t':Nat}(I:Inv X pins σ H s)(b:bT ys a)(c:ys.length<=sizeLine) :
  Inv X pins σ (upd H s.heap.objs.size (.lst ys)) {s with heap:=s.heap.push {cls:=.type "list",data:=.seq a.toArray},toks:=t'}:=
 I.laid (fun _ _ q=>AJ _ q) (AG _) ⟨c,a,0,b,A9 _ rfl⟩
theorem Inv.fresh(I:Inv X pins σ H s):H s.heap.objs.size=none:=I.hok.fresh (AG _)
theorem Inv.lstM(I:Inv X pins σ H s)(a:H l=some (.lst xs)):xs.length<=sizeLine/\∃ (its:List Value) (n:Nat),bT xs its/\xs.length=its.length/\s.heap.get? l=some {cls:=.type "list",data:=.seq its.toArray n}:=by
 obtain ⟨z,its,n,r,e⟩:=I.hok l _ a
 exact ⟨z,its,n,r,r.length,e⟩
end
section
variable{X:Cx}
def tE:V->List V->Hp->VK->Prop:=fun x vs H Q=>∃ l xs y,x=.ref l/\vs=[y]/\H l=some (.lst xs)/\xs.length < sizeLine/\Q .non (upd H l (.lst (xs++[y])))
theorem eE:MtM X "list.append" tE:=by
 intro pins s σ H x vs v us Q I d f h
 obtain ⟨l,xs,y,rfl,rfl,b,g,q⟩:=h
 cases d
 obtain ⟨u,rfl,c⟩:=f.one
 obtain ⟨z,a,n,r,i,e⟩:=I.lstM b
 refine call_meets F.slot_list_append ⟨_,e,rfl⟩ F.entry_list_append (F.args_list_append_2 _ _) (PySem.list_append l a.toArray n u (by rw[A4];omega)) ⟨e,?_⟩
 refine ⟨.non,_,I.lset (its':=a++[u]) b e (by simp) (r.append (.cons c .nil)) ?_,rfl,q⟩
 rw[A0,B5]
 omega
end
end L2
namespace Att
open PySem PySem.W PySem.Calls PyProof.Rows
theorem vL{P:Params}{h:Heap}:∀ (ns:List Int) (vs:List Value),WellAll P h vs (ns.map WData.int)->IntsAre vs ns:=by
 intro ns
 induction ns with
 | nil=>
  intro vs w
  rw[BD] at w
  cases w
  exact .nil
 | cons n ns ih=>
  intro vs w
  rw[AT] at w
  cases w with
  | cons a b=>
   cases a
   exact .cons _ _ (ih _ b)
theorem aGO{l:OpenLaw}{n:Nat}(p:l.most=some n){P:Params}{h:Heap}{args:List WData}{c:List Value}
  (b:l.row.toRowW.claim.pre args=true) (j:WellAll P h c args) :
  ∃ a vs ns,c=[Value.ref a]/\args=[WData.list (ns.map WData.int)]/\h.get? a=some {cls:=.type "list",data:=.seq vs.toArray}/\IntsAre vs ns/\ns.length<=n:=by
 have i:WShape.hasAll [] args [.list .int]=true:=(pre_splitW b).1
 have k:l.pre.holds [] {args:=args}=true:=(pre_splitW b).2
 obtain ⟨d,r,rfl,h1,h2⟩:=hasAllW_cons i
 obtain rfl:=hasAllW_nil h2
 obtain ⟨xs,rfl,m⟩:=hasW_list h1
 obtain ⟨ns,rfl⟩:=items_int m
 have e:ns.length<=n:=by
  unfold OpenLaw.pre at k
  have g:(WTm.not (.lt (.lit (.int (n:Int))) (.len (.arg 0)))).holds [] {args:=[.list (ns.map .int)]}=true:=by
   have g:=(holds_andW k).1
   rw[p] at g
   exact g
  have f:=condW_of g (w_not (w_lt w_lit (w_len_list (w_arg rfl))))
  rw[AB] at f
  refine Nat.le_of_not_lt fun q=>?_
  have o:(n:Int) < ((ns.length:Nat):Int):=by omega
  first
   | (rw[A3 o] at f;exact absurd f (by decide))
   | (simp at f;omega)
 cases j with
 | cons w1 w2=>
  cases w2
  cases w1 with
  | list ho hall=>exact ⟨_,_,ns,rfl,rfl,ho,vL ns _ hall,e⟩
theorem aGP(l:OpenLaw)(args:List WData):l.row.toRowW.claim.post args (.bool true) args=true:=
 postW_of (r:=l.row.toRowW) (X:=(true == true))
  (show WShape.has [] (.bool true) .bool=true by first|rfl|decide|simp[WShape.has,WShape.arms,WShape.armsAll])
  (show (WTm.eq .res (.lit (.bool true))).value [] {args:=args,res:=some (.bool true),after:=args}=some (.bool (true == true)) from w_eq_bool (w_res rfl) w_lit) rfl
theorem attach_call{l:OpenLaw}{n:Nat}{q:Program}{b:List Str}{p:(Str->Option Value)->Heap->Prop}{t:World->Heap->Prop}{d:DefRec}
  (F:l.most=some n) (k:d.params.defaults=[])
  (call:∀ (w:World) (s₀ s₁:Shared) (mg mb:Str->Option Value) (fa:Addr) (o:Obj) (pm cd doc:Value) (a:Addr) (vs:List Value) (ns:List Int),
   Ground q b [] p w s₀ mg mb s₁.heap->t w s₁.heap->
   s₁.heap.get? fa=some o->o.data=.func (docDef d.name d.params d.body d.scope pm cd doc)->s₁.heap.CodeRec cd d.name->mg d.name=some (.ref fa)->
   s₁.heap.get? a=some {cls:=.type "list",data:=.seq vs.toArray}->IntsAre vs ns->ns.length<=n->s₁.gens = #[]->
   codeAny (model l.prog w) callerA (.call (.ref fa) ⟨[.ref a],[]⟩) (fun r s'=>r=.ok (.ret (.bool true))/\OldK s₁.heap s'.heap/\s'.os=s₁.os/\AllBare s'.gens) s₁) :
  WalkO q b p t l.row.toRowW d [] (fun f vs=>PySem.call f vs):=by
 intro w s₀ s₁ mg mb G Y fa o pm cd doc z kV A E i u m B args v J g s x j y
 obtain rfl:z=.none:=Dflts.none u k
 obtain rfl:kV=.none:=Dflts.noKw u
 obtain ⟨a,vs,ns,rfl,rfl,h,c,e⟩:=aGO F g j
 refine enter_call (EK (call w s₀ s₁ mg mb fa o pm cd doc a vs ns G Y A (fd_plain E) i m h c e B) fun r s' D=>?_)
 obtain ⟨rfl,h2,C,I⟩:=D
 exact ⟨.inl ⟨.bool true,.bool true,[],rfl,fun _=>rfl,.bool true,aGP l _,fun _=>⟨List.Pairwise.nil,fun _ H=>(nomatch H)⟩⟩,h2,C,I⟩
section
variable{prog:Program}{w:World}{A:Around}{E:Value->Shared->Prop}{s:Shared}{K:Frag}
noncomputable def aTX(h:Heap)(L d:Addr):List (Addr×Obj):=(List.range h.objs.size).filterMap fun a=>if a=L\/a=d then none else (h.get? a).map fun o=>(a,o)
end
end Att
namespace L2
open PySem PySem.Spec PyProof.Rows
theorem yR:∀ {vs:List Value} {ns:List Int},IntsAre vs ns->bT (ns.map V.int) vs
 | _,_,.nil=>.nil
 | _,_,.cons n t h=>.cons ⟨t,rfl⟩ (yR h)
abbrev KOf{K:Frag}{h:Heap}(_:K.In h):Frag:=K
noncomputable def lQ(s:Stmt)(j:Nat):Stmt:=match s with
 | .ClassDef _ _ _ body _ _ _ _ _ _ _=>body.getD j (.Pass ⟨0,0,0,0⟩)
 | _=>.Pass ⟨0,0,0,0⟩
noncomputable def dY(s:Stmt):Arguments:=match s with
 | .FunctionDef _ a _ _ _ _ _ _ _ _=>a
 | _=>{posonlyargs:=[],args:=[],vararg:=none,kwonlyargs:=[],kw_defaults:=[],kwarg:=none,defaults:=[]}
noncomputable def cL(s:Stmt):List Stmt:=match s with
 | .FunctionDef _ _ b _ _ _ _ _ _ _=>b
 | _=>[]
noncomputable def aL(s:Stmt):Scope:=match s with
 | .FunctionDef _ _ _ _ _ _ sc _ _ _=>sc
 | _=>{kind:=.function,names:=[],isGenerator:=false,isCoroutine:=false}
abbrev CX0:CXT:=fun _ _ _ _ _ _=>False
abbrev E0:XK:=fun _ _ _=>False
structure Fun(K:Frag)(x qual:Str)(st:Stmt)(f:Addr)(fd:FuncData):Prop where
 ex:∃ (oc:Value) (od:Option Addr) (kV doc pm:Value) (an:Option Addr) (cdv ct:Value) (osl:Array (Option Value)),
  fd=PySem.W.fnOf x qual (dY st) (cL st) (aL st) .none kV doc pm an cdv ct/\K.lookup f=some ⟨oc,od,.func fd,osl⟩/\PySem.W.codeIn K cdv qual=true
 kp:PySem.W.keepIn K (.ref f)=true
section
variable{P:Program}{w:World}{K:Frag}{mg:Str->Option Value}{base:Heap}
theorem Fun.ok{x qual:Str}{st:Stmt}{f:Addr}{fd:FuncData}{N ps:List Str}{k:Nat}{sp:Sp}(F:Fun K x qual st f fd)(S:FnScope N ps (aL st))(len:∀ vs H Q E,sp vs H Q E->vs.length=ps.length)
  (a:∀ (cdv:Value) (A:Around) (outer:List Env) (s:Shared) (H:Hp) (vs:List V) (Q:VK) (E:XK),Room k (A.deeper (envOfC qual (aL st) s.heap.objs.size f cdv))->sp vs H Q E->
   ∃ t,PSs (jJ CX0 P w K mg base N qual (aL st) f cdv A outer s H E).nox (cL st) t/\t {nx:=fun _ H'=>Q .non H',rt:=Q} (start N vs) H):FnOk P w K mg base CX0 (k+1) f fd ps sp:=by
 obtain ⟨i,od,kV,doc,pm,j,cdv,ct,e,rfl,g,b⟩:=F.ex
 refine zS g b S len fun A outer s H vs Q E d c=>?_
 obtain ⟨t,h,q⟩:=a cdv A outer s H vs Q E d c
 exact ⟨t,h.nox,q⟩
theorem Fun.binds{x qual:Str}{st:Stmt}{f:Addr}{fd:FuncData}{ps:List Str}(F:Fun K x qual st f fd)
  (h:∀ (kV doc pm:Value) (an:Option Addr) (cdv ct:Value) (us:List Value),us.length=ps.length->bindArgs (PySem.W.fnOf x qual (dY st) (cL st) (aL st) .none kV doc pm an cdv ct) ⟨us,[]⟩=pure (ps.zip us)):gQ K fd ps []:=by
 obtain ⟨c,od,kV,doc,pm,an,cdv,ct,b,rfl,d,a⟩:=F.ex
 exact .all (h kV doc pm an cdv ct)
theorem aAD{x qual:Str}{st:Stmt}{f:Addr}{e:Value}{od d:Option Addr}{b:Array (Option Value)}{kV doc pm a ct:Value}(l:K.lookup f=some ⟨e,od,.func (PySem.W.fnOf x qual (dY st) (cL st) (aL st) .none kV doc pm d a ct),b⟩)
 (c:PySem.W.codeIn K a qual=true) (k:PySem.W.keepIn K (.ref f)=true):Fun K x qual st f (PySem.W.fnOf x qual (dY st) (cL st) (aL st) .none kV doc pm d a ct):=⟨⟨e,od,kV,doc,pm,d,a,ct,b,rfl,l,c⟩,k⟩
end
section
variable{X:Cx}
theorem pv(i:Nat){x:Str}{pos:Pos}(a:X.N[i]? = some x:=by rfl)(hv:Vis X.env.scope x:=by first|exact Or.inl rfl|exact Or.inr (Or.inl rfl)|exact Or.inr (Or.inr rfl))(hd:(x == ("__debug__":Str))=false:=by decide)
 (hcd:(x == ("__classdict__":Str))=false:=by decide):PE X (.Name x pos) (iR i):=aOF a hv hd hcd
end
theorem aAE{A B:Prop}(h:B):if false=true then A else B:=by
 rw[AE BT]
 exact h
theorem aAF{A B:Prop}(h:A):if true=true then A else B:=by
 rw[AD rfl]
 exact h
def aO(H H':Hp):Prop:=∀ b o,H b=some o->H' b=some o
theorem aO.trans{H H1 H2:Hp}(a:aO H H1)(b:aO H1 H2):aO H H2:=fun c o h=>b c o (a c o h)
theorem aO.free{H H':Hp}(e:aO H H'){l:Addr}(h:H' l=Option.none):H l=Option.none:=by
 cases q:H l with
 | none=>rfl
 | some o=>
  rw[e l o q] at h
  cases h
theorem aO.seq{K:Frag}{H H':Hp}{a:Addr}{xs:List V}(e:aO H H')(h:SqL K H a xs):SqL K H' a xs:=by
 rcases h with (h|⟨o,h⟩)|h
 · exact .inl (.inl (e _ _ h))
 · exact .inl (.inr ⟨o, e _ _ h⟩)
 · exact .inr h
theorem aE2{env:Env}:∀ (names:List (Str×NameKind)) (acc:List (Str×Addr)),(∀ x∈names,x.2=.free->∃ c,env.cells.lookup x.1=some c)->
  (∀ x c,acc.lookup x=some c->env.cells.lookup x=some c)->
  ∃ cl,(forIn names acc fun x r=>(if (x.2 == NameKind.free)=true then (do let a <-cellOf env x.1;pure (ForInStep.yield ((x.1,a)::r))) else pure (ForInStep.yield r)):Sem (List (Str×Addr)))=pure cl /\
   (∀ x c,cl.lookup x=some c->env.cells.lookup x=some c)/\(∀ x∈names,x.2=.free->∃ c,cl.lookup x.1=some c)/\∀ x c,acc.lookup x=some c->∃ c',cl.lookup x=some c':=by
 intro names
 induction names with
 | nil=>intro acc _ h;exact ⟨acc,rfl,h,fun x o=>absurd o (by simp),fun x c e=>⟨c,e⟩⟩
 | cons x r ih=>
  intro acc l h
  obtain ⟨n,k⟩:=x
  by_cases m:k=.free
  ·subst m
   obtain ⟨c,i⟩:=l (n,.free) AX rfl
   have i:env.cells.lookup n=some c:=i
   obtain ⟨cl,e1,e2,j,g⟩:=ih ((n,c)::acc) (fun y f=>l y (AM _ f)) (fun y d e=>by
    rw[BG] at e
    cases q:y == n with
    | true=>rw[q] at e;cases e;have:=D5 q;subst this;exact i
    | false=>rw[q] at e;exact h y d e)
   refine ⟨cl,?_,e2,fun y f b=>?_,fun y d e=>?_⟩
   ·rw[DC]
    simp only[C6,CB]
    unfold cellOf
    simp only[i,pure_bind]
    exact e1
   ·rcases AZ.mp f with z|z
    ·subst z
     exact g n c (by rw[BG];simp)
    ·exact j y z b
   ·by_cases q:y=n
    ·subst q;exact g y c (by rw[BG];simp)
    ·exact g y d (by rw[BG,CQ q];exact e)
  ·obtain ⟨cl,e1,e2,j,g⟩:=ih acc (fun y f=>l y (AM _ f)) h
   refine ⟨cl,?_,e2,fun y f b=>?_,g⟩
   ·rw[DC]
    have:(k == NameKind.free)=false:=by simpa using m
    simp only[this,BS,CH,pure_bind]
    exact e1
   ·rcases AZ.mp f with z|z
    ·subst z;exact absurd b m
    ·exact j y z b
theorem vM{env:Env}{scope:Scope}(b:∀ x∈scope.names,x.2=.free->∃ c,env.cells.lookup x.1=some c) :
  ∃ cl,closureFor scope env=pure cl/\(∀ x c,cl.lookup x=some c->env.cells.lookup x=some c)/\∀ x∈scope.names,x.2=.free->∃ c,cl.lookup x.1=some c:=by
 obtain ⟨cl,e1,e2,a,_⟩:=aE2 scope.names [] b (fun x c e=>by simp at e)
 refine ⟨cl,?_,e2,a⟩
 unfold closureFor
 first
  | exact e1
  | (rw[<-e1];rfl)
  | (simp only[bind_pure];exact e1)
theorem iC{env:Env}:∀ {names:List (Str×NameKind)} {x:Str} {k:NameKind},
  (names.map fun (n,k)=>if (k == NameKind.free && env.scope.kind == .function && env.kindOf n == some .cell) then (n,NameKind.cell) else (n,k)).lookup x=some k->
  k=.cell\/k=.free->(∀ y∈names,y.2≠.cell)->(x,NameKind.free)∈names
 | [],_,_,h,_,_=>by simp at h
 | (n,k0)::r,x,k,h,hk,hc=>by
  have ih:=@iC env r x k
  rw[AT] at h
  dsimp only at h
  by_cases c:x=n
  ·subst c
   by_cases a:(k0 == NameKind.free && env.scope.kind == .function && env.kindOf x == some .cell)=true
   ·have:k0=.free:=by
     simp only[AU] at a
     exact D5 a.1.1
    subst this
    exact AX
   ·rw[AE a,BG] at h
    simp only[C6] at h
    cases h
    rcases hk with rfl|rfl
    ·exact absurd rfl (hc _ AX)
    ·exact AX
  ·have b:(x == n)=false:=CQ c
   refine AM _ (ih ?_ hk fun y d=>hc y (AM _ d))
   split at h
   ·rw[BG,b] at h;exact h
   ·rw[BG,b] at h;exact h
noncomputable def iD(X:Cx)(N:List Str)(scope:Scope)(cl:List (Str×Addr))(C:Addr)(s:Shared)(H:Hp)(fp:List Addr):Cx where
 prog:=X.prog
 w:=X.w
 K:=X.K
 mg:=X.mg
 base:=X.base
 A:=X.A
 N:=N
 s₀:=s
 H₀:=H
 env:=compEnvC scope cl C X.env
 outer:=X.stack
 stack:=X.stack
 ex:=fp
 calm:=X.calm
 fn:=fun _=>false
 pn:=[]
 xe:=fun _ _=>False
inductive Caps(X:Cx)(scope:Scope):List Str->List (Option Nat)->Prop
 | nil:Caps X scope [] []
 | own {x:Str} {N:List Str} {js:List (Option Nat)} (t:Caps X scope N js):Caps X scope (x::N) (none::js)
 | cap {x:Str} {j:Nat} {N:List Str} {js:List (Option Nat)} (h1:X.N[j]? = some x) (h2:X.env.kindOf x=some .cell\/X.env.kindOf x=some .free)
  (h3:(relabel scope X.env).names.lookup x=some .cell\/(relabel scope X.env).names.lookup x=some .free) (t:Caps X scope N js):Caps X scope (x::N) (some j::js)
theorem Caps.len{X:Cx}{scope:Scope}{N:List Str}{js:List (Option Nat)}(c:Caps X scope N js):js.length=N.length:=by
 induction c with
 | nil=>rfl
 | own _ ih=>simp[ih]
 | cap _ _ _ _ ih=>simp[ih]
theorem Caps.get{X:Cx}{scope:Scope}{N:List Str}{js:List (Option Nat)}(c:Caps X scope N js):∀ {i j:Nat} {x:Str},js[i]? = some (some j)->N[i]? = some x->
  X.N[j]? = some x/\(X.env.kindOf x=some .cell\/X.env.kindOf x=some .free)/\((relabel scope X.env).names.lookup x=some .cell\/(relabel scope X.env).names.lookup x=some .free):=by
 induction c with
 | nil=>intro i j x h;simp at h
 | own _ ih=>
  intro i j x h1 h2
  cases i with
  | zero=>simp at h1
  | succ i=>exact ih (by simpa using h1) (by simpa using h2)
 | cap a b d _ ih=>
  intro i j x h1 h2
  cases i with
  | zero=>
   simp at h1 h2
   subst h1 h2
   exact ⟨a,b,d⟩
  | succ i=>exact ih (by simpa using h1) (by simpa using h2)
noncomputable def lR(js:List (Option Nat))(σ:St):St:=js.map fun o=>o.bind fun j=>(σ[j]?).join
def dP(σ σ':St):Prop:=σ'.length=σ.length/\∀ (i:Nat) v,σ[i]? = some (some v)->σ'[i]? = some (some v)
theorem dP.refl(σ:St):dP σ σ:=⟨rfl,fun _ _ h=>h⟩
theorem dP.set{σ:St}{i:Nat}{v:Option V}(h:σ[i]? = some none):dP σ (σ.set i v):=by
 refine ⟨CK,fun j u e=>?_⟩
 by_cases q:i=j
 · subst q; rw [h] at e; cases e
 · rw [BQ q]; exact e
theorem dP.trans{a b c:St}(h:dP a b)(k:dP b c):dP a c:=⟨k.1.trans h.1,fun i v e=>k.2 i v (h.2 i v e)⟩
section
variable{X:Cx}
def PIf(X:Cx)(ifs:List Expr)(t:TT):Prop:=
 ∀ (pins:List (Addr×Obj)) (s:Shared) (σ:St) (H:Hp) (Q:Bool->Hp->Prop),Inv X pins σ H s->t σ H Q->
  wpAny (model X.prog X.w) X.A (forIn ifs true fun c r=>if r=true then do let ok <-isTrue c X.env (eval c X.env);pure (ForInStep.yield ok) else pure (ForInStep.yield r)) (TP X pins σ Q) X.xe s
def aSO:TT:=fun _ H Q=>Q true H
theorem fA:PIf X [] aSO:=by
 intro pins s σ H Q I h
 show wpAny _ _ (pure true) _ _ s
 exact AC ⟨H,I,h⟩
end
def xB(X:Cx)(N:List Str)(scope:Scope)(js:List (Option Nat))(tg elt:Expr)(ifs:List Expr)(σ:St)(x:V)(H:Hp)(R:Option V->Hp->Prop):Prop:=
 ∀ (cl:List (Str×Addr)) (C:Addr) (s:Shared) (H0:Hp) (fp:List Addr),∃ (g:TG) (tt:TT) (te:TE),PG (iD X N scope cl C s H0 fp) tg g/\PIf (iD X N scope cl C s H0 fp) ifs tt/\PE (iD X N scope cl C s H0 fp) elt te /\
  ∀ σ0,dP (lR js σ) σ0->g x σ0 H fun σ2 H2=>dP (lR js σ) σ2/\tt σ2 H2 fun b H3=>if b=true then te σ2 H3 fun y H4=>R (some y) H4 else R none H3
def compK(X:Cx)(N:List Str)(scope:Scope)(js:List (Option Nat))(tg elt:Expr)(ifs:List Expr)(σ:St)(Q:VK)(J:It)(H1:Hp):Prop:=∃ (n:Nat) (W:Nat->List V->Hp->Prop),n<=sizeLine/\W 0 [] H1 /\
 ∀ i ys H,W i ys H->ys.length<=i/\((J.stop i H/\∀ p,H p=none->Q (.ref p) (upd H p (.lst ys)))\/(J.go i H/\i < n/\∃ R:Option V->Hp->Prop,(∀ y H2,R (some y) H2->W (i+1) (ys++[y]) H2)/\(∀ H2,R none H2->W (i+1) ys H2) /\
  ∀ x H',J.yld i H x H'->xB X N scope js tg elt ifs σ x H' R))
def vN(X:Cx)(N:List Str)(scope:Scope)(js:List (Option Nat))(tg elt:Expr)(ifs:List Expr)(wi:TI):TE:=fun σ H Q=>wi σ H (compK X N scope js tg elt ifs σ Q)
section
variable{prog:Program}{w:World}{A:Around}{R:Result->Shared->Prop}{s:Shared}
theorem aAG{i a d:Expr}{g:List Expr}{scope:Scope}{pos:Pos}{it j:Value}{env:Env}(I:Nat->Shared->Prop)
  (l:∀ n s,I n s->wpAny (model prog w) A (pyNext it) (fun r s1=>match r with
   | none=>R (.ok .next) s1
   | some v=>wpAny (model prog w) A (letOwnedTupleGo a it v) (fun _ s1'=>wpAny (model prog w) A (assign a env v) (fun _ s2=>
    wpAny (model prog w) A (forIn g true fun c r=>if r=true then do let ok <-isTrue c env (eval c env);pure (ForInStep.yield ok) else pure (ForInStep.yield r)) (fun ok s3=>
     if ok=true then wpAny (model prog w) A (eval i env) (fun x s4=>
      wpAny (model prog w) A (call (.builtin "list.append") [j,x]) (fun _ s5=>∃ m,m < n/\I m s5) (fun _ _=>False) s4) (fun _ _=>False) s3
     else ∃ m,m < n/\I m s3) (fun _ _=>False) s2) (fun _ _=>False) s1') (fun _ _=>False) s1) (fun _ _=>False) s)
  (n:Nat) (h:I n s) :
  codeAny (model prog w) A (.compLoop (.ListComp i [⟨a,d,g,0⟩] scope pos) 0 it j env) R s:=by
 refine codeAny_loop rfl I (fun n s E=>?_) n h
 show wpAny _ A ((compTurn (.ListComp i [⟨a,d,g,0⟩] scope pos) 0 it j env).onRaise (fun x=>do noteFrame x env;theTreesLotGoes x)) _ _ s
 refine wpAny_noted ?_
 rw[compTurn_list]
 have F:∀ {α:Type} {t:Sem α} {Q:α->Shared->Prop} {E':Value->Shared->Prop} {s:Shared},wpAny (model prog w) A t Q (fun _ _=>False) s->wpAny (model prog w) A t Q E' s:=fun h=>BU h (fun _ _ q=>q) fun _ _ f=>f.elim
 refine AA (CI (AA (BU (l n s E) (fun r C b=>?_) fun _ _ h'=>h'.elim)))
 cases r with
 | none=>exact AC b
 | some v=>
  refine AA (BU b (fun _ s1' u=>?_) fun _ _ f=>f.elim)
  refine AA (BU u (fun _ z k=>AA (BU k (fun ok y e=>?_) fun _ _ h'=>h'.elim)) fun _ _ h'=>h'.elim)
  cases ok with
  | false=>exact AC ⟨rfl,e⟩
  | true=>
   exact AA (AA (BU e (fun x D p=>AA (BU p (fun _ B o=>AC (AC ⟨rfl,o⟩)) fun _ _ h'=>h'.elim)) fun _ _ h'=>h'.elim))
end
theorem HOk.track{P:Program}{w:World}{H:Hp}{h:Heap}{a:Addr}{o:HO}(x:HOk P w H h)(d:H a=none)(new:cN P w (upd H a o) h a o):HOk P w (upd H a o) h:=fun b u e=>by
 by_cases f:b=a
 ·subst f;rw[aX] at e;cases e;exact new
 ·rw[aG f] at e
  exact (x b u e).stay (fun c v _ q=>q) (fun c q=>by rw[aG (bU q d)];exact q) (fun c xs q=>by rw[aG (bU q d)];exact q) fun c xs q=>by rw[aG (bU q d)];exact q
section
variable{X:Cx}{pins:List (Addr×Obj)}{σ:St}
structure CompEnd(X:Cx)(pins:List (Addr×Obj))(σ:St)(D C:Addr)(ys:List V)(H':Hp)(s':Shared):Prop where
 inv:Inv X pins σ (upd H' D (.lst ys)) s'
 ns:∃ m,s'.heap.Ns C m
 fp:lP X pins (upd H' D (.lst ys)) C
 nD:H' D=none
theorem CompEnd.gone{D C:Addr}{ys:List V}{H H':Hp}{s':Shared}{c:Heap}{d:St}(I:Inv X pins d H s')(a:lP X pins H C)(g:Heap.SameBut C s'.heap c):Inv X pins d H {s' with heap:=c}:=
 I.turned (it:=C) (t':=s'.toks) (fun b o f e=>(g.2 b f).trans e) a.1 a.2.1 a.2.2.2.1 a.2.2.2.2.1 a.2.2.2.2.2
theorem aAH{prog:Program}{w:World}{A:Around}{E:Value->Shared->Prop}{s:Shared}{l:Addr}{items:Array Value}{a:Nat}{x:Value}{Q:Value->Shared->Prop}(e:s.heap.get? l=some {cls:=.type "list",dict:=none,data:=.seq items a})(hz:items.size<=sizeLine)
  (hQ:∀ nn' h',h'.get? l=some {cls:=.type "list",dict:=none,data:=.seq (items.push x) nn'}->Heap.SameBut l s.heap h'->Q .none {s with heap:=h'}) :
  wpAny (model prog w) A (call (.builtin "list.append") [.ref l,x]) Q E s:=by
 refine call_meets F.slot_list_append ⟨_,e,rfl⟩ F.entry_list_append (F.args_list_append_2 _ _) (PySem.list_append l items a x (by omega)) ⟨e,?_⟩
 exact hQ _ _ (BZ _ e rfl) (DM ..)
theorem vO{N:List Str}{js:List (Option Nat)}{scope:Scope}{tg am ad:Expr}{ap:List Expr}{cl:List (Str×Addr)}{pos:Pos}{it:Addr}{O:List Addr}{tn:Nat->Heap->Prop}{J:It}{B:Shared}{H2:Hp}{E:Value->Shared->Prop}
  {RR:Value->Addr->Result->Shared->Prop} {Q:VK} (hc:X.calm=true) (ah:Caps X scope N js) (S:scope.kind=.function) (t:∀ y∈scope.names,y.2≠.cell)
  (f:∀ x c,cl.lookup x=some c->X.env.cells.lookup x=some c) (ag:∀ x∈scope.names,x.2=.free->∃ c,cl.lookup x.1=some c)
  (I:Inv X pins σ H2 B) (T:Turn X.prog X.w X.K tg J O it tn) (bn:tn 0 B.heap) (Z:∀ b∈O,lP X pins H2 b) (n:Nat) (W:Nat->List V->Hp->Prop) (hn:n<=sizeLine) (w0:W 0 [] H2)
  (bg:∀ i ys H,W i ys H->ys.length<=i/\((J.stop i H/\∀ p,H p=none->Q (.ref p) (upd H p (.lst ys)))\/(J.go i H/\i < n/\∃ R:Option V->Hp->Prop,(∀ y H2,R (some y) H2->W (i+1) (ys++[y]) H2)/\(∀ H2,R none H2->W (i+1) ys H2) /\
   ∀ x H',J.yld i H x H'->xB X N scope js tg am ap σ x H' R)))
  (bz:∀ D C ys H' s',CompEnd X pins σ D C ys H' s'->Q (.ref D) (upd H' D (.lst ys))->RR (.ref D) C (.ok .next) s') :
  wpAny (model X.prog X.w) X.A (newList []) (fun acc s3=>wpAny (model X.prog X.w) X.A (newFunctionEnv scope X.env.globals cl [] X.env.qual none .none (some X.env)) (fun cenv s4=>
   codeAny (model X.prog X.w) X.A (.compStart (.ListComp am [⟨tg,ad,ap,0⟩] scope pos) 0 (.ref it) acc {cenv with scope:=relabel scope X.env}) (RR acc cenv.locals) s4) E s3) E B:=by
 refine CJ (wpAny_newFunctionEnv t (by intro y hy;simp at hy) (fun G F h=>?_) S)
 dsimp only at F h ⊢
 generalize aj:B.heap.push {cls:=.type "list",dict:=none,data:=.seq ([]:List Value).toArray}=Hh at F h ⊢
 have hC:Hh.objs.size=B.heap.objs.size+1:=by rw[<-aj,C7]
 have ac:B.heap.objs.size≠Hh.objs.size:=by rw[hC];exact BB (F9 _)
 have M:B.heap.objs.size<=Hh.objs.size:=by rw[hC];exact DW _
 have P:∀ b o,B.heap.get? b=some o->G.get? b=some o:=fun b o e=>h.extBut b o (by rw[hC];exact BB (Nat.lt_succ_of_lt (AS e))) (AJ _ (aj▸AJ _ e))
 have aq:G.get? B.heap.objs.size=some {cls:=.type "list",dict:=none,data:=.seq ([]:List Value).toArray}:=h.extBut _ _ ac (AJ _ (aj▸A9 _ rfl))
 have aw:tn 0 G:=T.keep _ _ _ bn fun b a o e=>P b o e
 have ae:∀ b∈O,b < B.heap.objs.size:=fun b a=>by
  obtain ⟨o,e,_⟩:=T.obj _ _ bn b a
  exact AS e
 have be:∀ b∈frs X.stack,b < B.heap.objs.size:=fun b a=>by
  rcases AZ.mp (I.stkSub b a) with z|z
  ·rw[z];exact I.lt
  ·refine Nat.lt_of_not_le fun bu=>I.nofs bu z
 have bi:∀ b∈O,b≠Hh.objs.size:=fun b a z=>B7 _ (A1 (ae b a) (z▸M))
 generalize hD:B.heap.objs.size=D at *
 generalize cj:Hh.objs.size=C at *
 let X':=iD X N scope cl C B H2 O
 have ba:X'.Ok:=by
  refine ⟨I.ok.mod,S,I.ok.glob,I.ok.blt,by show B.heap.objs.size<=C;rw[hD];exact M,fun x y c e1 e2=>I.ok.inj x y c (f x c e1) (f y c e2),fun x hx=>?_,fun x c z=>absurd (show false=true from z) BT,I.ok.hd,I.ok.frames,.inl rfl,fun b a=>?_,
   I.bs,BJ I.ok.bsz I.sz,fun b o e a=>?_,fun b a z=>?_,I.stack,I.stkFree⟩
  ·have hm:(x,NameKind.free)∈scope.names:=by
    rcases hx with z|z
    ·exact iC (env:=X.env) z (.inl rfl) t
    ·exact iC (env:=X.env) z (.inr rfl) t
   exact ag _ hm rfl
  ·exact ⟨bi b a,fun x c e=>(Z b a).2.2.2.2.1 x c (f x c e)⟩
  ·rcases (Z b a).2.2.2.1 with z|z
   ·exact I.ok.noex b o e z
   ·exact absurd (AS (I.ok.bs b o e).1) (GO.mpr z)
  ·rcases AZ.mp (I.stkSub b z) with q|q
   ·exact (Z b a).2.1 q
   ·exact (Z b a).2.2.1 q
 have az:(lR js σ).length=N.length:=by unfold lR;rw[AB,ah.len]
 have freeC:H2 C=none:=I.hok.fresh (by rw[hD];exact M)
 have Y:H2 D=none:=I.hok.fresh (by rw[hD];exact AG _)
 have DnotFs:D∉frs X.stack:=fun z=>B7 _ (be D z)
 have DnotFp:D∉O:=fun z=>B7 _ (ae D z)
 have I0:∀ tk,Inv X' [] (lR js σ) H2 {B with heap:=G,toks:=tk}:=fun tk=>by
  refine ⟨ba,rfl,I.bare,Un.kept P,⟨_,F,fun i x v e1 e2 e3=>?_⟩,fun x c e=>?_,freeC,fun x c e=>I.freeC x c (f x c e),fun p L=>absurd L (by show ¬ p∈([]++[]:List (Addr×Obj));simp),I.hok.kept P,az⟩
  ·unfold lR at e2
   rw[AH] at e2
   cases q:js[i]? with
   | none=>rw[q] at e2;cases e2
   | some o=>
    rw[q] at e2
    cases o with
    | none=>cases e2
    | some j=>
     have aa:(σ[j]?).join=some v:=BP e2
     obtain ⟨c1,c2,c3⟩:=ah.get q e1
     have e4:σ[j]? = some (some v):=by
      cases z:σ[j]? with
      | none=>rw[z] at aa;cases aa
      | some u=>rw[z] at aa;have:u=some v:=aa;rw[this]
     obtain ⟨m,hm,hl⟩:=I.loc
     have bx:Vis X.env.scope x:=by
      rcases c2 with z|z
      · exact .inr (.inl z)
      · exact .inr (.inr z)
     obtain ⟨u,r,l⟩:=hl j x v c1 e4 bx
     refine ⟨u,r,.inr ⟨c3,?_⟩⟩
     have lc:∃ c,X.env.cells.lookup x=some c/\B.heap.IsCell c (some u):=by
      rcases l with ⟨k,_⟩|⟨_,z⟩
      · rcases c2 with z | z <;> (rw [k] at z; cases z)
      · exact z
     obtain ⟨c,e5,o,ho,hd⟩:=lc
     have cb:(x,NameKind.free)∈scope.names:=by
      rcases c3 with z|z
      · exact iC (env := X.env) z (.inl rfl) t
      · exact iC (env := X.env) z (.inr rfl) t
     obtain ⟨c',e6⟩:=ag _ cb rfl
     have e7:=f _ _ e6
     rw[e5] at e7;cases e7
     exact ⟨c,e6,o,P c o ho,hd⟩
  ·obtain ⟨v,o,ho,hd⟩:=I.cell x c (f x c e)
   exact ⟨v,o,P c o ho,hd⟩
 have ai:∀ {H':Hp} {pl:List (Addr×Obj)},(∀ b∈O,H' b=none)->(∀ b∈O,∀ p∈pl,p.1≠b)->∀ b∈O,lP X' pl H' b:=fun {H' pl} hn hpl b a=>by
  refine ⟨hn b a,bi b a,ba.exfs b a,.inl a,fun x c e=>(Z b a).2.2.2.2.1 x c (f x c e),fun p L=>hpl b a p ?_⟩
  have bo:p∈[]++pl:=L
  simpa using bo
 let LI:Nat->Shared->Prop:=fun k s'=>∃ i ys its nn σ' H',k=n+1 - i/\i<=n/\W i ys H'/\tn i s'.heap/\(∀ b∈O,H' b=none)/\bT ys its/\dP (lR js σ) σ' /\
  Inv X' [(D,{cls:=.type "list",dict:=none,data:=.seq its.toArray nn})] σ' H' s'
 have af:∀ tk,codeAny (model X.prog X.w) X.A (.compLoop (.ListComp am [⟨tg,ad,ap,0⟩] scope pos) 0 (.ref it) (.ref D) (compEnvC scope cl C X.env)) (RR (.ref D) C) {B with heap:=G,toks:=tk}:=by
  intro tk
  refine aAG LI ?_ (n+1) ⟨0,[],[],0,lR js σ,H2,rfl,CN _,w0,aw,fun b a=>(Z b a).1,.nil,dP.refl _,?_⟩
  ·rintro k s3 ⟨i,ys,its,nn,σ3,H3,rfl,hin,w3,st3,fr3,r3,ks,I3⟩
   obtain ⟨bd,tr⟩:=bg i ys H3 w3
   have au:=ai (pl:=[(D,{cls:=.type "list",dict:=none,data:=.seq its.toArray nn})]) fr3 (fun b a p L z=>by
    rw[AV.mp L] at z
    exact DnotFp ((show D=b from z)▸a))
   rcases tr with ⟨stop,q⟩|⟨go,bh,RW,cf,bp,step⟩
   ·refine thn (T.done X' rfl rfl rfl hc i _ s3 σ3 H3 _ I3 au st3 stop) fun r s4 s=>?_
    obtain ⟨hr,I4⟩:=s
    subst hr
    show RR (.ref D) C (.ok .next) s4
    obtain ⟨pe,pn,p1,p2,p3⟩:=I4.pin (D,{cls:=.type "list",dict:=none,data:=.seq its.toArray nn}) (by show _∈[]++_;simp)
    refine bz D C ys H3 s4 ?_ (q D pn)
    have bc:HOk X.prog X.w (upd H3 D (.lst ys)) s4.heap:=HOk.track I4.hok pn ⟨BJ bd (BJ hin hn),its,nn,r3,pe⟩
    have ak:∀ b u,H2 b=some u->b≠D:=fun b u e z=>by rw[z,Y] at e;cases e
    have bv:Un (frs X.stack) O H2 (upd H3 D (.lst ys)) B.heap s4.heap:=by
     have ub:=I4.base
     refine ⟨ub.keep,ub.slot,fun b o e ao hx=>?_,ub.there,fun b xs e=>?_,fun b o u e=>?_,fun b ps e=>?_⟩
     ·rw[aG (fun z=>by have:=AS e;rw[hD,z] at this;exact B7 _ this)]
      exact ub.free b o e ao hx
     ·rw[aG (ak b _ e)];exact ub.tups b xs e
     ·rw[aG (ak b _ e)];exact ub.frzs b o u e
     ·rw[aG (ak b _ e)];exact ub.tbls b ps e
    refine ⟨I.call' I4.os bv bc I4.bare fun b a=>⟨(Z b a).2.2.2.1,(Z b a).2.1,(Z b a).2.2.2.2.1,(Z b a).2.2.2.2.2⟩,?_,?_,pn⟩
    ·obtain ⟨m,hm,_⟩:=I4.loc
     exact ⟨m,hm⟩
    ·refine I.fpOk (by rw[hD];exact M) ?_
     rw[aG (BX ac)]
     exact I4.free
   ·refine thn (T.item X' rfl rfl rfl hc i _ s3 σ3 H3 _ I3 au st3 go) fun r s4 s=>?_
    obtain ⟨u,hr,h4⟩:=s
    subst hr
    show wpAny _ _ (letOwnedTupleGo tg (.ref it) u) _ _ s4
    refine thn h4 fun _ s5 s=>?_
    obtain ⟨x,H5,I5,r5,y5,al,bq⟩:=s
    obtain ⟨g,tt,te,hg,ht,he,hq⟩:=step x H5 y5 cl C B H2 O
    have bj:=ai (pl:=[(D,{cls:=.type "list",dict:=none,data:=.seq its.toArray nn})]) bq (fun b a p L z=>by
     rw[AV.mp L] at z
     exact DnotFp ((show D=b from z)▸a))
    have br:=I5.pinned bj (T.obj _ _ al)
    refine thn (hg _ s5 σ3 H5 x u _ br r5 (hq σ3 ks)) fun _ s6 s=>?_
    obtain ⟨U,H6,I6,ay,q6⟩:=s
    refine thn (ht _ s6 U H6 _ I6 q6) fun b s7 s=>?_
    obtain ⟨H7,I7,q7⟩:=s
    have bf:∀ {s':Shared} {H':Hp} {σ':St},Inv X' ([(D,{cls:=.type "list",dict:=none,data:=.seq its.toArray nn})]++rF O s5.heap) σ' H' s'->tn (i+1) s'.heap/\(∀ b∈O,H' b=none):=fun {s' H' σ'} I'=>by
     refine ⟨T.keep _ _ _ al fun b a o e=>(I'.pin (b,o) (B4 _ (B4 _ (nF a e)))).1,fun b a=>?_⟩
     obtain ⟨o,e,d⟩:=T.obj _ _ al b a
     exact (I'.pin (b,o) (B4 _ (B4 _ (nF a e)))).2.1
    cases b with
    | false=>
     rw[AE BT] at q7 ⊢
     obtain ⟨a1,a2⟩:=bf I7
     exact ⟨n+1 - (i+1),by omega,i+1,ys,its,nn,U,H7,rfl,bh,bp _ q7,a1,a2,r3,ay,I7.unpinned⟩
    | true=>
     rw[AD rfl] at q7 ⊢
     refine thn (he _ s7 U H7 _ I7 q7) fun yv s8 s=>?_
     obtain ⟨y,H8,I8,r8,q8⟩:=s
     obtain ⟨a1,a2⟩:=bf I8
     have I8u:=I8.unpinned
     obtain ⟨pe,pn,p1,p2,p3⟩:=I8u.pin (D,{cls:=.type "list",dict:=none,data:=.seq its.toArray nn}) (by show _∈[]++_;simp)
     have ci:s8.heap.IsList D its.toArray:=PySem.IsL.isList pe
     have bw:its.length<=sizeLine:=by rw[<-r3.length];exact BJ bd (BJ hin hn)
     refine aAH pe (by simpa using bw) fun ao h9 e9 ax=>?_
     have I9:Inv X' [] U H8 {s8 with heap:=h9,toks:=s8.toks}:=by
      refine Inv.turned (pins:=[]) (it:=D) (t':=s8.toks) (I8u.pins_of (pins':=[]) fun p L=>absurd L (by simp)) (fun b o a e=>(ax.2 b a).trans e) pn ac (.inr (by show B.heap.objs.size<=D;rw[hD];exact AG _)) (fun x c e z=>?_) fun p L=>absurd L (by show ¬ p∈([]++[]:List (Addr×Obj));simp)
      obtain ⟨v,o,ho,hd⟩:=I.cell x c (f x c e)
      have:=AS ho
      rw[hD,z] at this
      exact B7 _ this
     refine ⟨n+1 - (i+1),by omega,i+1,ys++[y],its++[yv],ao,U,H8,rfl,bh,cf _ _ q8,?_,a2,bT.append r3 (.cons r8 .nil),ay,?_⟩
     ·exact T.keep _ _ _ a1 fun b a o e=>(ax.2 b (fun z=>DnotFp (z▸a))).trans e
     ·refine I9.pins_of fun p L=>?_
      obtain rfl:=AV.mp L
      exact ⟨by simpa using e9,pn,p1,p2,by simp⟩
  ·refine (I0 tk).pins_of fun p L=>?_
   obtain rfl:=AV.mp L
   exact ⟨aq,Y,ac,DnotFs,by simp⟩
 exact codeAny_compStart_list (af _) (T.self X.A 0 _ _ _ aw (af _))
noncomputable def fM(names:List (Str×NameKind))(outer:Str->Option NameKind):Bool:=
 names.all (fun y=>y.2 != .cell) && names.all (fun y=>y.2 != .local || names.lookup y.1 == some .local) && names.all (fun y=>y.2 != .free || outer y.1 == some .cell || outer y.1 == some .free)
theorem fM.cell{names:List (Str×NameKind)}{outer:Str->Option NameKind}(h:fM names outer=true):∀ y∈names,y.2≠.cell:=fun y a=>by
 unfold fM at h
 simp only[AU,BW] at h
 simpa using h.1.1 y a
theorem fM.names{names:List (Str×NameKind)}{outer:Str->Option NameKind}(h:fM names outer=true):∀ y∈names,y.2=.local->names.lookup y.1=some .local:=fun y a e=>by
 unfold fM at h
 simp only[AU,BW] at h
 have:=h.1.2 y a
 rw[e] at this
 simpa using this
theorem fM.free{names:List (Str×NameKind)}{outer:Str->Option NameKind}(h:fM names outer=true):∀ y∈names,y.2=.free->outer y.1=some .cell\/outer y.1=some .free:=fun y a e=>by
 unfold fM at h
 simp only[AU,BW] at h
 have:=h.2 y a
 rw[e] at this
 simpa using this
theorem j4{N:List Str}{js:List (Option Nat)}{scope:Scope}{tg d a:Expr}{c:List Expr}{pos:Pos}{l:TI}(F:X.calm=true)(e:Caps X scope N js)(hok:fM scope.names X.env.kindOf=true)
  (hi:PI X tg a l) (b:scope.kind=.function:=by rfl) (hs:∀ x,foldedSetIterable a X.env x=pure x:=by intro _;rfl) :
  PE X (.ListComp d [⟨tg,a,c,0⟩] scope pos) (vN X N scope js tg d c l):=by
 intro pins s σ H Q I h
 obtain ⟨cl,e1,e2,p⟩:=vM (env:=X.env) (scope:=scope) fun x y r=>I.ok.has _ (fM.free hok x y r)
 rw[eval_ListComp]
 refine GA (use:=none) rfl hs e1 b (fM.names hok) (thn (hi pins s σ H _ I h) fun v s1 h1=>thn h1 fun o G h2=>?_)
 obtain ⟨it,fp,K,J,H2,rfl,t,T,j,z,n,W,B,u,f⟩:=h2
 refine vO (RR:=fun k C=>compPost (model X.prog X.w) X.A X.xe none (EP X pins σ Q) k C) (Q:=Q) F e b (fM.cell hok) e2 p t T j z n W B u f ?_
 intro D C ys H' s' g q
 obtain ⟨m,E⟩:=g.ns
 exact ⟨m,E,fun h' i=>⟨.ref D,_,CompEnd.gone (D:=D) (ys:=ys) (H':=H') g.inv g.fp i,rfl,q⟩⟩
theorem nG{i:Nat}{x:Str}{N:List Str}{js:List (Option Nat)}{scope:Scope}{tg f b:Expr}{d:List Expr}{pos pos' g:Pos}{G:TI}(hN:X.N.Nodup)(t:X.N[i]? = some x)(hx:Loc X.env.scope x)
  (y:swapsWith (.ListComp f [⟨tg,b,d,0⟩] scope pos) (some (.Name x pos')) g.line X.env=pure true) (S:X.calm=true) (k:Caps X scope N js) (hok:fM scope.names X.env.kindOf=true)
  (hi:PI X tg b G) (c:scope.kind=.function:=by rfl) (o:X.fn x=true\/X.env.scope.names.lookup x=some .local:=by exact .inl rfl) (hs:∀ x,foldedSetIterable b X.env x=pure x:=by intro _;rfl) :
  PS X (.Assign [.Name x pos'] (.ListComp f [⟨tg,b,d,0⟩] scope pos) g) (kG (vN X N scope js tg f d G) (j3 i)):=by
 intro pins s σ H D I h
 obtain ⟨cl,e1,e2,M⟩:=vM (env:=X.env) (scope:=scope) fun x hx o=>I.ok.has _ (fM.free hok x hx o)
 rw[exec_Assign_Name_used _ _ _ _ y]
 refine AA (CI (AA ?_))
 show wpAny _ X.A (do let _ <-comprehension (.ListComp f [⟨tg,b,d,0⟩] scope pos) scope X.env _ (newList []) false (eval b X.env) (some (assign (.Name x pos') X.env))) _ _ s
 refine AA (BU (GA (use:=some (assign (.Name x pos') X.env)) (Q:=fun _ s'=>SP X pins D .next s') rfl hs e1 c (fM.names hok)
  (thn (hi pins s σ H _ I h) fun v s1 h1=>thn h1 fun K s2 h2=>?_)) (fun _ s' Z=>AC (AC Z)) fun _ _ e=>e)
 obtain ⟨it,fp,tn,J,H2,rfl,Y,T,E,f2,n,W,hn,P,l⟩:=h2
 refine vO (RR:=fun B C=>compPost (model X.prog X.w) X.A X.xe (some (assign (.Name x pos') X.env)) (fun _ s'=>SP X pins D .next s') B C) (Q:=fun v H'=>D.nx (σ.set i (some v)) H') S k c (fM.cell hok) e2 M Y T E f2 n W hn P l ?_
 intro L C ys H' s' j q
 show wpAny _ X.A (assign (.Name x pos') X.env (.ref L)) _ _ s'
 refine wpAny_assign_Name (yN (v:=.ref L) j.inv hN t hx rfl (fun U u R=>?_) o)
 obtain ⟨a,F,V⟩:=R
 have p:C≠a:=by
  rcases V with z|z
  · rw [z]; exact j.fp.2.1
  · exact fun O => j.fp.2.2.2.2.1 x a z O.symm
 obtain ⟨m,hm⟩:=j.ns
 exact ⟨m,hm.sameBut F p,fun h' r=>⟨_,_,CompEnd.gone (D:=L) (ys:=ys) (H':=H') u j.fp r,q⟩⟩
end
noncomputable def aKZ(W:Nat->List V->Hp->Prop)(i:Nat)(ys:List V):Option V->Hp->Prop
 | some y,H=>W (i+1) (ys++[y]) H
 | none,H=>W (i+1) ys H
theorem aLX{X:Cx}{J:It}{N:List Str}{scope:Scope}{js:List (Option Nat)}{tg b:Expr}{c:List Expr}{σ:St}{Q:VK}{n:Nat}{H1:Hp}(W:Nat->List V->Hp->Prop)(g:n<=sizeLine)(j:W 0 [] H1)
  (h:∀ i ys H,i<=n->W i ys H->ys.length<=i) (d:∀ i ys H,i < n->W i ys H->J.go i H) (f:∀ ys H,W n ys H->J.stop n H)
  (step:∀ i x ys H H',i < n->W i ys H->J.yld i H x H'->xB X N scope js tg b c σ x H' (aKZ W i ys))
  (done:∀ ys H,W n ys H->∀ p,H p=none->Q (.ref p) (upd H p (.lst ys))) :
  compK X N scope js tg b c σ Q J H1:=by
 refine ⟨n,fun i ys H=>i<=n/\W i ys H,g,⟨CN _,j⟩,?_⟩
 rintro i ys H ⟨hi,w⟩
 refine ⟨h i ys H hi w,?_⟩
 by_cases a:i < n
 ·exact .inr ⟨d i ys H a w,a,aKZ W i ys,fun y H2 q=>⟨a,q⟩,fun H2 q=>⟨a,q⟩,fun x H' y=>step i x ys H H' a w y⟩
 ·have e:i=n:=by omega
  subst e
  exact .inl ⟨f ys H w,done ys H w⟩
mutual
inductive DatV(K:Frag)(H:Hp):V->PyData->Prop
 | non:DatV K H .non .none
 | bl (b:Bool):DatV K H (.bl b) (.bool b)
 | int (i:Int):DatV K H (.int i) (.int i)
 | str (x:Str):DatV K H (.str x) (.str x)
 | lst {a:Addr} {xs:List V} {ds:List PyData}:SqL K H a xs->DatVs K H xs ds->DatV K H (.ref a) (.list ds)
 | tup {a:Addr} {xs:List V} {ds:List PyData}:SqT K H a xs->DatVs K H xs ds->DatV K H (.ref a) (.tuple ds)
 | pl {a:Addr} {ns:List Int}:H a=some (.lst (ns.map V.int))->DatV K H (.ref a) (.dict [(.list (ns.map .int),.none)])
inductive DatVs(K:Frag)(H:Hp):List V->List PyData->Prop
 | nil:DatVs K H [] []
 | cons {x:V} {d:PyData} {xs:List V} {ds:List PyData}:DatV K H x d->DatVs K H xs ds->DatVs K H (x::xs) (d::ds)
end
section
variable{X:Cx}{pins:List (Addr×Obj)}{σ:St}{H:Hp}{s:Shared}
mutual
theorem DatV.reads(I:Inv X pins σ H s):∀ {x:V} {d:PyData} {u:Value},DatV X.K H x d->d.canLay0=true->bJ x u->∃ as,Reads s.heap u d as
 | _,_,_,.non,_,r=>by cases r;exact ⟨_,.none⟩
 | _,_,_,.bl b,_,r=>by cases r;exact ⟨_,.bool b⟩
 | _,_,_,.int i,_,r=>by obtain ⟨t,rfl⟩:=r;exact ⟨_,.int i t⟩
 | _,_,_,.str x,_,r=>by obtain ⟨t,rfl⟩:=r;exact ⟨_,.str x t⟩
 | _,_,_,.pl _,y,_=>by cases y
 | _,_,_,.lst h ds,y,r=>by
  cases r
  obtain ⟨a,f,⟨o,e,c,n,d⟩,g⟩:∃ a:List Value,bT _ a/\s.heap.IsList _ a.toArray/\_:=by
   obtain ⟨a,f,p,g⟩:=I.list h
   exact ⟨a,f,p.isList,g⟩
  obtain ⟨as,q⟩:=DatVs.reads I ds y f
  exact ⟨_,.list e c d (by simpa using q)⟩
 | _,_,_,.tup h ds,y,r=>by
  cases r
  obtain ⟨a,f,p,g⟩:=I.tuple h
  obtain ⟨o,e,c,n,d⟩:=p
  obtain ⟨as,q⟩:=DatVs.reads I ds y f
  exact ⟨_,.tuple e c d (by simpa using q)⟩
theorem DatVs.reads(I:Inv X pins σ H s):∀ {xs:List V} {ds:List PyData} {us:List Value},DatVs X.K H xs ds->PyData.canLayAll0 ds=true->bT xs us->∃ as,ReadsAll s.heap us ds as
 | _,_,_,.nil,_,r=>by cases r;exact ⟨_,.nil⟩
 | _,_,_,.cons (d:=d0) (ds:=ds0) h t,y,r=>by
  have a:(d0.canLay0 && PyData.canLayAll0 ds0)=true:=y
  rw[AU] at a
  cases r with
  | cons r1 r2=>
   obtain ⟨as,q⟩:=DatV.reads I h a.1 r1
   obtain ⟨bs,b⟩:=DatVs.reads I t a.2 r2
   exact ⟨_,.cons q b⟩
end
theorem tF{d:PyData}(h:SeqAt.shaped d=true):d.canLay0=true:=by
 have h':(d.canLay0 && decide (d.depth<=64))=true:=h
 rw[AU] at h'
 exact h'.1
theorem aO6(f:X.A.units+64 < cLine):OpR X (compareOp .Eq) (fun x y H Q=>∃ d e,DatV X.K H x d/\DatV X.K H y e/\SeqAt.shaped d=true/\SeqAt.shaped e=true/\Q (.bl (PyData.eqv d e)) H):=by
 intro pins s σ H x y u v Q I j c h
 obtain ⟨d,e,i,g,a,b,q⟩:=h
 obtain ⟨k,r1⟩:=i.reads I (tF a) j
 obtain ⟨bs,r2⟩:=g.reads I (tF b) c
 exact eq_dataH r1 r2 a b f ⟨.bl _,H,I,rfl,q⟩
theorem aO7(f:X.A.units+64 < cLine):OpR X (compareOp .NotEq) (fun x y H Q=>∃ d e,DatV X.K H x d/\DatV X.K H y e/\SeqAt.shaped d=true/\SeqAt.shaped e=true/\Q (.bl (!PyData.eqv d e)) H):=by
 intro pins s σ H x y u v Q I j c h
 obtain ⟨d,e,i,g,a,b,q⟩:=h
 obtain ⟨k,r1⟩:=i.reads I (tF a) j
 obtain ⟨bs,r2⟩:=g.reads I (tF b) c
 exact ne_dataH r1 r2 a b f ⟨.bl _,H,I,rfl,q⟩
end
theorem SqL.same{K:Frag}{H H':Hp}{a:Addr}{xs:List V}(e:aO H H')(h:SqL K H a xs):SqL K H' a xs:=aO.seq e h
theorem SqT.same{K:Frag}{H H':Hp}{a:Addr}{xs:List V}(e:aO H H')(h:SqT K H a xs):SqT K H' a xs:=by
 rcases h with (h|⟨o,h⟩)|h
 · exact .inl (.inl (e _ _ h))
 · exact .inl (.inr ⟨o, e _ _ h⟩)
 · exact .inr h
theorem DatV.same{K:Frag}{H H':Hp}(e:aO H H'){x:V}{d:PyData}(h:DatV K H x d):DatV K H' x d:=
 DatV.rec (motive_1:=fun x d _=>DatV K H' x d) (motive_2:=fun xs ds _=>DatVs K H' xs ds) .non .bl .int .str (fun h _ q=>.lst (h.same e) q) (fun h _ q=>.tup (h.same e) q) (fun h=>.pl (e _ _ h)) .nil (fun _ _ p q=>.cons p q) h
theorem DatVs.same{K:Frag}{H H':Hp}(e:aO H H'){xs:List V}{ds:List PyData}(h:DatVs K H xs ds):DatVs K H' xs ds:=
 DatVs.rec (motive_1:=fun x d _=>DatV K H' x d) (motive_2:=fun xs ds _=>DatVs K H' xs ds) .non .bl .int .str (fun h _ q=>.lst (h.same e) q) (fun h _ q=>.tup (h.same e) q) (fun h=>.pl (e _ _ h)) .nil (fun _ _ p q=>.cons p q) h
theorem aO.upd{H:Hp}{a:Addr}{o:HO}(h:H a=none):aO H (upd H a o):=fun b u e=>by rw[aG (bU e h)];exact e
theorem DatVs.length{K:Frag}{H:Hp}:∀ {xs:List V} {ds:List PyData},DatVs K H xs ds->xs.length=ds.length
 | _,_,.nil=>rfl
 | _,_,.cons _ t=>by simp[DatVs.length t]
theorem DatVs.append{K:Frag}{H:Hp}:∀ {xs ys:List V} {ds es:List PyData},DatVs K H xs ds->DatVs K H ys es->DatVs K H (xs++ys) (ds++es)
 | _,_,_,_,.nil,h=>h
 | _,_,_,_,.cons a t,h=>.cons a (DatVs.append t h)
theorem DatVs.get{K:Frag}{H:Hp}:∀ {xs:List V} {ds:List PyData} {i:Nat} {x:V},DatVs K H xs ds->xs[i]? = some x->∃ d,ds[i]? = some d/\DatV K H x d
 | _,_,_,_,.nil,e=>by simp at e
 | _,_,0,_,.cons a t,e=>by simp at e;subst e;exact ⟨_,by simp,a⟩
 | _,_,i+1,x,.cons a t,e=>by
  obtain ⟨d,h1,h2⟩:=DatVs.get (i:=i) (x:=x) t (by simpa using e)
  exact ⟨d,by simpa using h1,h2⟩
theorem DatVs.get'{K:Frag}{H:Hp}:∀ {xs:List V} {ds:List PyData} {i:Nat} {d:PyData},DatVs K H xs ds->ds[i]? = some d->∃ x,xs[i]? = some x/\DatV K H x d
 | _,_,_,_,.nil,e=>by simp at e
 | _,_,0,_,.cons a t,e=>by simp at e;subst e;exact ⟨_,by simp,a⟩
 | _,_,i+1,x,.cons a t,e=>by
  obtain ⟨d,h1,h2⟩:=DatVs.get' (i:=i) (d:=x) t (by simpa using e)
  exact ⟨d,by simpa using h1,h2⟩
theorem DatVs.drop{K:Frag}{H:Hp}:∀ {xs:List V} {ds:List PyData} (n:Nat),DatVs K H xs ds->DatVs K H (xs.drop n) (ds.drop n)
 | _,_,0,h=>h
 | _,_,_+1,.nil=>.nil
 | _,_,n+1,.cons _ t=>DatVs.drop n t
theorem DatVs.take{K:Frag}{H:Hp}:∀ {xs:List V} {ds:List PyData} (n:Nat),DatVs K H xs ds->DatVs K H (xs.take n) (ds.take n)
 | _,_,0,_=>.nil
 | _,_,_+1,.nil=>.nil
 | _,_,n+1,.cons a t=>.cons a (DatVs.take n t)
def Ite(K:Frag)(a:Addr):It:=
 ⟨fun i H=>∃ xs x,SqL K H a xs/\xs[i]? = some x,fun i H x H'=>∃ p v,H p=none/\x=.ref p/\H'=upd H p (.tup [.int i,v])/\∀ xs,SqL K H a xs->xs[i]? = some v,fun i H=>∃ xs,SqL K H a xs/\xs.length<=i⟩
theorem aGQ{P:Program}{w:World}{K:Frag}{es:List Expr}{k1}{J:Pos}(a e it:Addr)(B:e≠it):Turn P w K (.Tuple es k1 J) (Ite K a) [e,it] e (fun i h=>(∃ old,IsEnum h e it i old)/\h.IsListIter it a i) where
 mem:=by simp
 obj:=fun i h st b l=>by
  obtain ⟨⟨old,s1⟩,o,e2,c,d⟩:=st
  rcases AZ.mp l with z|z
  ·subst z
   exact ⟨_,s1,fun v z=>by
    have z':Data.fields _=Data.cell v:=z
    cases z'⟩
  ·obtain rfl:b=it:=by simpa using z
   exact ⟨o,e2,fun v z=>by rw[d] at z;cases z⟩
 keep:=fun i h h' st k=>by
  obtain ⟨⟨old,s1⟩,y⟩:=st
  exact ⟨⟨old,k e (by simp) _ s1⟩,y.at fun o q=>k it (by simp) o q⟩
 item:=by
  intro X Q hw V f i pins s σ H E I L st S
  subst Q hw V
  obtain ⟨⟨old,s1⟩,y⟩:=st
  obtain ⟨xs,x,N,T⟩:=S
  obtain ⟨O,rv,p,hz⟩:=I.list N
  obtain ⟨u,hu,ru⟩:=rv.get T
  obtain ⟨Z,f1,f2,f3,f4,f5⟩:=L e (by simp)
  obtain ⟨F,M,g2,W,U,g5⟩:=L it (by simp)
  refine wpAny_pyNext_enum_item s1 y p.isList (x:=u) (by simpa using hu) B fun h' so si st ac kp=>?_
  refine ⟨_,rfl,FK so fun h2 se sb=>?_⟩
  have C:s.heap.objs.size≠e:=C9 (AS s1)
  have Y:h2.get? s.heap.objs.size=some {cls:=.type "tuple",data:=.seq #[.int i s.toks,u]}:=(sb.2 _ C).trans st
  have fT:H s.heap.objs.size=none:=I.hok.fresh (AG _)
  have g:∀ b o,b≠e->b≠it->s.heap.get? b=some o->h2.get? b=some o:=fun b o h1 R q=>(sb.2 b h1).trans (kp b o h1 R q)
  have G:HOk X.prog X.w H h2:=fun b A q=>by
   refine (I.hok b A q).stay (fun c v f q'=>g c v ?_ ?_ q') (fun _ q=>q) (fun _ _ q=>q) fun _ _ q=>q
   ·rcases f with z|z
    ·rw[z];exact fun t=>by rw[t,Z] at q;cases q
    ·exact fun t=>by rw[t,Z] at z;cases z
   ·rcases f with z|z
    ·rw[z];exact fun t=>by rw[t,F] at q;cases q
    ·exact fun t=>by rw[t,F] at z;cases z
  have D:HOk X.prog X.w (upd H s.heap.objs.size (.tup [.int i,x])) h2:=HOk.track G fT ⟨by show 2<=sizeLine;decide,[.int i s.toks,u],.cons ⟨_,rfl⟩ (.cons ru .nil),⟨_,Y,⟨rfl,rfl⟩,_,rfl⟩⟩
  have j:∀ b A,H b=some A->b≠s.heap.objs.size:=fun b A q=>bU q fT
  have I2:Inv X pins σ (upd H s.heap.objs.size (.tup [.int i,x])) {s with heap:=h2,gens:=s.gens,drawn:=s.drawn,toks:=s.toks+1}:=by
   refine I.step (ch:=[e,it]) (fun b l=>?_) (fun b o _ _ f q _=>g b o (fun z=>f (by simp[z])) (fun z=>f (by simp[z])) q) (fun b o _ _ f q _=>⟨o.slots,g b o (fun z=>f (by simp[z])) (fun z=>f (by simp[z])) q⟩)
    (fun b o _ q n=>by rw[aG (BB (AS q))];exact n) (fun b o f q=>⟨o,g b o (fun z=>f (by simp[z])) (fun z=>f (by simp[z])) q⟩) (fun b ys q=>by rw[aG (j b _ q)];exact q) (fun b o A q=>by rw[aG (j b _ q)];exact q)
    (fun b ps q=>by rw[aG (j b _ q)];exact q) (fun m hm=>?_) D I.bare
   ·rcases AZ.mp l with z|z
    ·subst z;exact ⟨f3,f1,f4,f5⟩
    ·obtain rfl:b=it:=by simpa using z
     exact ⟨W,M,U,g5⟩
   ·obtain ⟨o,aa,ep,ho,r⟩:=hm
    exact ⟨o,aa,ep,g _ o (BX f1) (BX M) ho,r⟩
  refine ⟨.ref s.heap.objs.size,_,I2,rfl,⟨_,x,fT,rfl,rfl,fun ys hy=>by rw[I.list_inj hy N];exact T⟩,⟨⟨u,by simpa using se⟩,si.at fun o q=>(sb.2 it B.symm).trans q⟩,fun b l=>?_⟩
  rcases AZ.mp l with z|z
  ·subst z;rw[aG (BX C)];exact Z
  ·obtain rfl:b=it:=by simpa using z
   obtain ⟨o,q,_⟩:=y
   rw[aG (BB (AS q))];exact F
 done:=by
  intro X Q hw V f i pins s σ H E I L st S
  subst Q hw V
  obtain ⟨⟨old,s1⟩,y⟩:=st
  obtain ⟨xs,N,T⟩:=S
  obtain ⟨O,rv,p,hz⟩:=I.list N
  obtain ⟨F,M,g2,W,U,g5⟩:=L it (by simp)
  have hl:=rv.length
  exact wpAny_pyNext_enum_end (I.ok.hd f) s1 y p.isList (by simp;omega) fun h' eb=>⟨rfl,I.turned (t':=s.toks) (fun b o l q=>eb b o l q) F M W U g5⟩
 self:=fun _ _ _ _ _ st h=>EQ st.1.choose_spec h
def aK0(K:Frag)(ta:TA):TI:=fun σ H R=>ta σ H fun vs H1=>∃ a,vs=[.ref a]/\(∃ xs,SqL K H1 a xs)/\R (Ite K a) H1
theorem aLY{X:Cx}{es:List Expr}{k1}{d:Pos}{a:Expr}{ta:TA}{p pos:Pos}(x:Gl X "enumerate")(w:X.mg "enumerate"=none)(A:PA X [a] ta)(y:starEach [a] X.env=[(false,eval a X.env)]:=by rfl) :
  PI X (.Tuple es k1 d) (.Call (.Name "enumerate" p) [a] [] pos) (aK0 X.K ta):=by
 intro pins s σ H R I h
 refine Call_ (nV I x w FF (CP (thn (A pos pins s σ H _ I h) fun us s1 f=>?_) y rfl))
 obtain ⟨vs,H1,c,r1,k⟩:=f
 obtain ⟨j,e,⟨xs,m⟩,q⟩:=k
 subst e
 obtain ⟨u,rfl,t⟩:=oJ r1
 cases t
 obtain ⟨r,D,n,C⟩:=c.list m
 refine call_enumerate_list n.isList fun h' g B v l=>?_
 have i:Inv X pins σ H1 {s1 with heap:=h'}:=c.kept (t':=s1.toks) l
 refine EQ g ?_
 refine ⟨s1.heap.objs.size+1,[s1.heap.objs.size+1,s1.heap.objs.size],_,_,H1,rfl,i,aGQ j _ _ (C9 (F9 _)),⟨⟨_,g⟩,B⟩,fun b o=>?_,q⟩
 rcases AZ.mp o with z|z
 ·subst z
  exact c.fpOk (DW _) (c.hok.fresh (DW _))
 ·obtain rfl:b=s1.heap.objs.size:=by simpa using z
  exact c.fpOk (AG _) (c.hok.fresh (AG _))
end L2
namespace SX
open PySem PySem.W
section
variable{prog:Program}{w:World}{A:Around}{E:Value->Shared->Prop}{h:Heap}{g:Array GenState}{d:Drawn}{t:Nat}{os:OsState}{K:Frag}
variable{nm q:Str}{C N:Addr}{bs bm bmB:List Value}{hdct:Bool}{sn:List Str}{sub:List Value}{ab:Bool}{col:Option Bool}{dd:Option Addr}{k0 k1 k2 k3 k5:Option Value}{B newId initId:String}
structure BmOk(B:String)(bm:List Value):Prop where
 hasB:bm.contains (.type B)=true
 hasBase:bm.contains (.type "BaseException")=true
 noAttr:bm.contains (.type "AttributeError")=false
 noName:bm.contains (.type "NameError")=false
theorem aE3(F:ExcBaseFacts B newId initId bmB)(T:BmOk B bm){M:Model}{rest:List Value}{Q:Unit->Shared->Prop}(b:h.get? C=some (excClassObj nm q C N bs bm hdct sn sub ab col dd k0 k1 k2 k3 k5 newId))
  (e:Q () ⟨h,g,d,t,os⟩):wpAny M A (checkBuiltinCall newId ⟨.ref C::rest,[]⟩) Q E ⟨h,g,d,t,os⟩:=by
 have a:(Value.ref C::bm).contains (.type B)=true:=by rw[DS,T.hasB,GP]
 have c:=F.noStar
 simp only[checkBuiltinCall,F.newKind,F.newSplit,F.newRow]
 repeat (first|refine C1 b ?_|(refine EG b ?_;rw[a])|refine wpAny_staticBase_exc b ?_|refine wpAny_madeBy_exc b ?_|simp only[bne_self_eq_false,BS,CH]|wp_step)
 exact e
theorem aIZ(F:ExcBaseFacts B newId initId bmB)(T:BmOk B bm){R:Result->Shared->Prop}{rest:List Value}(c:h.get? C=some (excClassObj nm q C N bs bm hdct sn sub ab col dd k0 k1 k2 k3 k5 newId))
  (j:R (.ok (.ret (.ref (h.objs.size+1)))) ⟨(h.push {cls:=.type "tuple",data:=.seq rest.toArray}).push
   {cls:=.ref C,data:=.fields #[.ref h.objs.size,.none,.none,.none,.bool false,.none]},g,d,t,os⟩) (hrest:rest.length<=sizeLine) :
  codeAny (model prog w) A (.builtin newId ⟨.ref C::rest,[]⟩) R ⟨h,g,d,t,os⟩:=by
 have f:=F.ends
 have e:(Value.ref C::bm).contains (.type B)=true:=by rw[DS,T.hasB,GP]
 have i:(Value.ref C::bm).contains (.type "AttributeError")=false:=by rw[DS,T.noAttr];rfl
 have b:(Value.ref C::bm).contains (.type "NameError")=false:=by rw[DS,T.noName];rfl
 refine codeAny_builtinAt F.entry ?_
 unfold Builtin.«BaseException.__new__»
 refine wpAt_bind ?_
 show wpAt _ _ _ (stack >>= _) _ _ _
 refine wpAt_bind (wpAt_stack fun p a=>wpAt_of_wpAny ?_)
 wp_walk
 refine wpAt_of_wpAny ?_
 rw[F.owner]
 repeat (first|with_reducible refine wpAny_madeHere_exc F.canon c ?_|with_reducible refine C1 c ?_|(with_reducible refine EG c ?_;first|rw[e]|rw[i]|rw[b])|wp_step)
 show R _ _
 rw[C7]
 exact j
theorem aAI(F:ExcBaseFacts B newId initId bmB)(T:BmOk B bm)(X:K.In h){rest:List Value}{fI:Addr}{Q:Fin->Shared->Prop}
  (j:h.get? C=some (excClassObj nm q C N bs bm hdct sn sub ab col dd k0 k1 k2 k3 k5 newId)) (hi:findIn K (.ref C) "__init__"=some (some (.ref fI))) (m:typeIn K (.ref fI)=some (.type "function"))
  (s:∀ h' e,Heap.MadeExcOf h h' e (.ref C) rest->h.objs.size<=e->
   wpAny (model prog w) A (call (.ref fI) (.ref e::rest)) (fun r s'=>r=.none/\Q (.done (.ret (.ref e))) s') E ⟨h',g,d,t,os⟩) (f:rest.length<=sizeLine) :
  wpAny (model prog w) A (Builtin.«type.__call__» ⟨.ref C::rest,[]⟩) Q E ⟨h,g,d,t,os⟩:=by
 repeat (first|with_reducible refine C1 j ?_|with_reducible refine wpAny_madeBy_exc j ?_|wp_step)
 refine codeAny_call_builtin_code (Code.quiet_builtin _ F.quiet) (aE3 F T j ?_)
 refine aIZ F T j ?_ f
 show wpAny _ _ _ _ _ _
 have k:∀ b o,h.get? b=some o->((h.push {cls:=.type "tuple",data:=.seq rest.toArray}).push {cls:=.ref C,data:=.fields #[.ref h.objs.size,.none,.none,.none,.bool false,.none]}).get? b=some o:=fun b o e=>AJ _ (AJ _ e)
 have i:=k _ _ j
 have c:=X.keeps k
 have a:((h.push {cls:=.type "tuple",data:=.seq rest.toArray}).push
   {cls:=.ref C,data:=.fields #[.ref h.objs.size,.none,.none,.none,.bool false,.none]}).get? (h.objs.size+1)=some
   {cls:=.ref C,data:=.fields #[.ref h.objs.size,.none,.none,.none,.bool false,.none]}:=by heap_get
 have l:(Value.ref C::bm).contains (.ref C)=true:=by simp
 unfold isInstance
 repeat (first|with_reducible refine C1 a ?_|(with_reducible refine EG i ?_;rw[l])|wp_step)
 show wpAny _ _ (typeLookup (.ref C) _) _ _ _
 refine (looks_findIn (M:=model prog w) c hi).at ?_
 refine CM (AA ?_)
 refine (bind_fn (M:=model prog w) c _ m).at ?_
 refine AA (BU (s _ (h.objs.size+1) ⟨k,EZ (DW _),h.objs.size,a,EZ (AG _),?_⟩ (DW _)) (fun r s' n=>?_) fun _ _ x=>x)
 ·exact AJ _ (Heap.get?_push_at rfl rfl)
 ·obtain ⟨rfl,p⟩:=n
  wp_walk
  exact p
theorem aI0(F:ExcBaseFacts B newId initId bmB)(T:BmOk B bm)(X:K.In h){rest:List Value}{fI:Addr}{Q:Value->Shared->Prop}
  (b:h.get? C=some (excClassObj nm q C N bs bm hdct sn sub ab col dd k0 k1 k2 k3 k5 newId)) (hi:findIn K (.ref C) "__init__"=some (some (.ref fI))) (f:typeIn K (.ref fI)=some (.type "function"))
  (i:∀ h' e,Heap.MadeExcOf h h' e (.ref C) rest->h.objs.size<=e->
   wpAny (model prog w) (A.under (.builtin "type.__call__" ⟨.ref C::rest,[]⟩)) (call (.ref fI) (.ref e::rest)) (fun r s'=>r=.none/\Q (.ref e) s') E ⟨h',g,d,t,os⟩) (a:rest.length<=sizeLine) :
  wpAny (model prog w) A (call (.ref C) rest) Q E ⟨h,g,d,t,os⟩:=by
 have l:=tc_lookup
 have m:=tc_bind (.ref C)
 have k:(⟨h,g,d,t,os⟩:Shared).TypeIs (.ref C) "type":=⟨_,b,rfl⟩
 refine E2 (codeAny_of_tree ?_)
 show wpAny _ _ (callAny (.ref C) _) _ _ _
 repeat (any_goals (first|assumption|with_reducible refine C1 b ?_|wp_step))
 refine ⟨rfl,?_⟩
 refine codeAny_call_builtin_at (Code.quiet_builtin _ (by decide +kernel)) entry_typeCall (wpAny_check_type_call_sub b (aAI F T X b hi f (fun h' e j c=>?_) a))
 exact i h' e j c
theorem nH{M:Model}{env:Env}{s:Shared}{x:Sem Value}{Q:Flow->Shared->Prop}(T:BmOk B bm)(i:A.handled=none)
  (hx:wpAny M A x (fun v s₁=>∃ e od vs,v=.ref e/\s₁.heap.get? C=some (excClassObj nm q C N bs bm hdct sn sub ab col dd k0 k1 k2 k3 k5 newId) /\
   s₁.heap.get? e=some {cls:=.ref C,dict:=od,data:=.fields vs}/\vs[1]? = some .none/\E (.ref e) s₁) E s) :
  wpAny M A (raiseStmt env (some x) none) Q E s:=by
 have b:(Value.ref C::bm).contains (.type "BaseException")=true:=by rw[DS,T.hasBase,GP]
 unfold raiseStmt
 refine AA (BU hx (fun v s₁ a=>?_) fun _ _ x=>x)
 obtain ⟨e,od,vs,rfl,f,c,h1,h⟩:=a
 obtain ⟨j,g,d,tk,os⟩:=s₁
 repeat (first|with_reducible refine C1 c ?_|with_reducible refine C1 f ?_|(with_reducible refine EG f ?_;rw[b])|(with_reducible refine DG c rfl h1 ?_)|wp_step)
 exact wpAny_raiseNew_none i h
end
end SX
namespace SX
open PySem PySem.W PySem.Builtin PySem.Builtin.ObjectAttr
abbrev jE:List Value:=[.type "ValueError",.type "Exception",.type "BaseException",.type "object"]
structure ExcC(K:Frag)(W C:Addr):Prop where
 lk:∃ nm q N bs sn sub ab col dd k0 k1 k2 k3 k5,K.lookup C=some (excClassObj nm q C N bs (.ref W::jE) true sn sub ab col dd k0 k1 k2 k3 k5 "ValueError.__new__")
 sa:findIn K (.ref C) "__setattr__"=some (some (.builtin "object.__setattr__"))
 ga:findIn K (.ref C) "__getattribute__"=some (some (.builtin "BaseException.__getattribute__"))
 gh:findIn K (.ref C) "__getattr__"=some none
 cl:findIn K (.ref C) "__class__"=some (some (.builtin "object.__class__"))
 clg:specialIn K (.builtin "object.__class__") "__get__"=some (some (.builtin "getset_descriptor.__get__"))
 clt:takesIn K (.builtin "object.__class__")=some true
 kp:keepIn K (.ref C)=true
theorem aAJ(W:Addr):BmOk "ValueError" (.ref W::jE):=⟨by simp[jE],by simp[jE],by simp[jE],by simp[jE]⟩
theorem passes(self:Value)(C W:Addr):refuseLoop self "__setattr__" (.ref C::.ref W::jE)=pure ():=by
 rw[refuseLoop_ref,refuseLoop_ref]
 exact PySem.F.store_ValueError.passes self
theorem ExcC.cls{K:Frag}{W C:Addr}(c:ExcC K W C):∃ cd:ClassData,clsIn K C=some cd/\cd.hasDict=true/\cd.mro=.ref C::.ref W::jE:=by
 obtain ⟨nm,q,N,bs,sn,sub,ab,col,dd,k0,k1,k2,k3,k5,e⟩:=c.lk
 exact ⟨_,by unfold clsIn;rw[e],rfl,rfl⟩
theorem ExcC.mro{K:Frag}{W C:Addr}(c:ExcC K W C)(b:Value):mroIn K C b=some ((Value.ref C::.ref W::jE).contains b):=by
 obtain ⟨cd,h1,_,a⟩:=c.cls
 unfold mroIn
 rw[h1,DI,a]
 rfl
section
variable{prog:Program}{w:World}{A:Around}{E:Value->Shared->Prop}{s:Shared}{K:Frag}{W C x:Addr}{name:Str}{v:Value}{vs:Array Value}
theorem aDE{od:Option Addr}{o:Option Obj}{tk:Tok}{R:Result->Shared->Prop}(X:K.In s.heap)(c:ExcC K W C)(i:findIn K (.ref C) name=some none)(I:InstAt s.heap x ⟨.ref C,od,.fields vs,#[]⟩ C o)
  (h:wpAny (model prog w) A.in1 (storeInOwnDict (.ref x) (.ref C) (.str name tk) name v false)
   (fun fin s'=>match fin with | .done f=>R (.ok f) s' | .again c'=>c'.quiet=true/\codeAny (model prog w) A c' R s') (fun e s'=>R (.error e) s') s) :
  codeAny (model prog w) A (.call (.builtin "object.__setattr__") ⟨[.ref x,.str name tk,v],[]⟩) R s:=by
 have b:=PySem.F.store_object
 obtain ⟨cd,g,hdct,a⟩:=c.cls
 have sub:Looks (model prog w) s.heap (isInstance (.ref x) (.type "object")) true:=I.type.andThen (looks_mroIn X (by rw[c.mro];simp[jE]))
 refine codeAny_call_builtin b.slot.plain b.entry (@check_slot (model prog w) _ _ s "object.__setattr__" "object" "__setattr__" (.ref x) [.str name tk,v] [] _ b.kind b.split sub (b.args (.ref x) (.str name tk) v) ?_)
 have d:Looks (model prog w) s.heap (mroOf (.ref C)) cd.mro:=(looks_clsIn X g).andThen .now
 rw[osa_eq,refuse_eq]
 refine AA (AA (I.type.here (AA (d.here ?_))))
 rw[a,passes]
 exact AC (AA (I.type.here (AA ((looks_findIn X i).here (AA (AC h))))))
theorem aGR{Q:Unit->Shared->Prop}(X:K.In s.heap)(c:ExcC K W C)(D:findIn K (.ref C) name=some none)(hx:s.heap.get? x=some ⟨.ref C,none,.fields vs,#[]⟩)
  (h:∀ h' tk',h'.get? x=some ⟨.ref C,some s.heap.objs.size,.fields vs,#[]⟩->h'.Ns1 s.heap.objs.size (fun y=>if y=name then some v else none)->(∀ b o,b≠x->s.heap.get? b=some o->h'.get? b=some o)->Q () {s with heap:=h',toks:=tk'}) :
  wpAny (model prog w) A (setAttr (.ref x) name v) Q E s:=by
 have I:InstAt s.heap x ⟨.ref C,none,.fields vs,#[]⟩ C none:=⟨hx,rfl,rfl,trivial⟩
 refine set_plain X I c.sa (aDE (s:={s with toks:=s.toks+1}) X c D I ?_)
 obtain ⟨cd,H,hdct,z⟩:=c.cls
 obtain ⟨f,g,d,t,os⟩:=s
 have hx:f.get? x=some ⟨.ref C,none,.fields vs,#[]⟩:=hx
 unfold storeInOwnDict
 refine AA (AC ?_)
 show wpAny _ _ (ownDictForStores (.ref x) >>= _) _ _ _
 refine AA ?_
 show wpAny _ _ (instanceDict x true) _ _ _
 unfold instanceDict
 refine AA (GM hx (AA ((looks_clsIn (M:=model prog w) X H).at ?_)))
 rw[hdct]
 have a:(f.push {cls:=.type "dict",data:=.dict #[]}).get? x=some ⟨.ref C,none,.fields vs,#[]⟩:=AJ _ hx
 have j:x≠f.objs.size:=BB (AS hx)
 refine AA (wpAny_alloc' ?_)
 refine AA (wpAny_update' a ?_)
 refine AC ?_
 have k:((f.push {cls:=.type "dict",data:=.dict #[]}).update x fun o=>{cls:=o.cls,dict:=some f.objs.size,data:=o.data,slots:=o.slots}).get? f.objs.size
   = some {cls:=.type "dict",data:=.dict #[]}:=
  (Heap.get?_update_ne _ _ _ _ j.symm).trans (Heap.get?_push_at rfl rfl)
 have l:((f.push {cls:=.type "dict",data:=.dict #[]}).update x fun o=>{cls:=o.cls,dict:=some f.objs.size,data:=o.data,slots:=o.slots}).Ns f.objs.size (fun _=>none):=
  ⟨_,#[],_,k,rfl,fun e G=>absurd G (by simp),fun _=>rfl⟩
 show wpAny _ _ (storeInDict f.objs.size (.str name t) name v) _ _ _
 unfold storeInDict newKeyGuard
 refine AA (AC (AA (wpAny_nsSet1 (Heap.Ns1.of_empty l) fun h' i u=>?_)))
 obtain ⟨J,B,F,q,m,n⟩:=i.count (Within.cons name v Within.nil)
 refine AA (wpAny_lookBehind q (by rw[m];exact pastItsLine_dict (BJ n (by rw[AW,A8,EE];omega))) ?_)
 refine AC (h h' _ ?_ i fun b o p r=>?_)
 ·exact (u.2 x j).trans (BZ _ a rfl)
 ·exact (u.2 b (BB (AS r))).trans ((Heap.get?_update_ne _ _ _ _ p).trans (AJ _ r))
theorem aI1{Q:Unit->Shared->Prop}{dx:Addr}{mA:Str->Option Value}{ns:List Str}(X:K.In s.heap)(c:ExcC K W C)(o:findIn K (.ref C) name=some none)(hx:s.heap.get? x=some ⟨.ref C,some dx,.fields vs,#[]⟩)
  (n:dx≠x) (a:s.heap.Ns1 dx mA) (hw:Within mA ns) (hsz:ns.length<=sizeLine)
  (h:∀ h' tk',h'.Ns1 dx (fun y=>if y=name then some v else mA y)->Heap.SameBut dx s.heap h'->Q () {s with heap:=h',toks:=tk'}) :
  wpAny (model prog w) A (setAttr (.ref x) name v) Q E s:=by
 obtain ⟨od,i,_⟩:=L2.rJ a
 have I:InstAt s.heap x ⟨.ref C,some dx,.fields vs,#[]⟩ C (some od):=⟨hx,rfl,rfl,i⟩
 refine set_plain X I c.sa (aDE (s:={s with toks:=s.toks+1}) X c o I ?_)
 obtain ⟨cd,r,hdct,k⟩:=c.cls
 obtain ⟨m,g,d,t,os⟩:=s
 have hx:m.get? x=some ⟨.ref C,some dx,.fields vs,#[]⟩:=hx
 unfold storeInOwnDict
 refine AA (AC ?_)
 show wpAny _ _ (ownDictForStores (.ref x) >>= _) _ _ _
 refine AA ?_
 show wpAny _ _ (instanceDict x true) _ _ _
 unfold instanceDict
 refine AA (GM hx (AA ((looks_clsIn (M:=model prog w) X r).at ?_)))
 rw[hdct]
 refine AC ?_
 show wpAny _ _ (storeInDict dx (.str name t) name v) _ _ _
 unfold storeInDict newKeyGuard
 refine AA (AC (AA (wpAny_nsSet1 a fun h' b q=>?_)))
 obtain ⟨u,l,p,j,e,f⟩:=b.count (Within.cons name v hw)
 refine AA (wpAny_lookBehind j (by rw[e];exact pastItsLine_dict (BJ f (by rw[AW];omega))) ?_)
 exact AC (h h' _ b q)
theorem aGS{od:Option Addr}{o:Option Obj}{Q:Option Value->Shared->Prop}(X:K.In s.heap)(c:ExcC K W C)(I:InstAt s.heap x ⟨.ref C,od,.fields vs,#[]⟩ C o)(h:Q (some (.ref C)) {s with toks:=s.toks+1}) :
  wpAny (model prog w) A (getAttr? (.ref x) "__class__") Q E s:=by
 obtain ⟨f,g,d,t,os⟩:=s
 obtain ⟨cd,b,hdct,i⟩:=c.cls
 have e:=I.type (M:=model prog w)
 have n:=looks_findIn (M:=model prog w) X c.ga
 have k:=looks_findIn (M:=model prog w) X c.gh
 have sub:Looks (model prog w) f (isInstance (.ref x) (.type "BaseException")) true:=e.andThen (looks_mroIn X (by rw[c.mro];simp[jE]))
 have j:findObj K C o "__class__"=some (.bind (.builtin "getset_descriptor.__get__") (.builtin "object.__class__")):=by
  unfold findObj
  rw[b,DI,c.cl,DI]
  simp only[c.clg,c.clt,DI]
 have l:=looks_find (M:=model prog w) X I j
 unfold getAttr?
 refine AA (wpAny_mkText ?_)
 unfold getAttrBy?
 refine AA (FM ?_)
 unfold getAttrBy
 refine CM (AA (e.at (AA (n.at ?_))))
 show wpAny _ _ (getAttrByItsOwn _ _ _ _ _ _) _ _ _
 unfold getAttrByItsOwn
 refine AA ?_
 show wpAny _ _ (typeLookup (.ref C) "__getattr__") _ _ _
 refine k.at (AA (FM (CM ?_)))
 unfold callGetattribute
 rw[show (false && onTheHeap (Value.builtin "BaseException.__getattribute__"))=false from rfl,AE BT]
 unfold boundAndCalled
 rw[FN.ga.bind]
 refine AA (AC ?_)
 have m:builtinKind "BaseException.__getattribute__"=some .slot:=by decide +kernel
 have a:splitId "BaseException.__getattribute__"=some ("BaseException","__getattribute__"):=by decide +kernel
 refine E2 (codeAny_call_builtin FN.ga.plain PySem.F.entry_bexc_ga (@check_slot (model prog w) _ _ _ "BaseException.__getattribute__" "BaseException" "__getattribute__" (.ref x) [.str "__class__" t] [] _ m a sub (PySem.F.args_bexc_ga (.ref x) (.str "__class__" t)) ?_))
 refine AA (AC (AA (AC ?_)))
 refine AA (e.at (AA (l.at ?_)))
 show wpAny _ _ (holding [.builtin "object.__class__"] (call (.builtin "getset_descriptor.__get__") [.builtin "object.__class__",.ref x,.ref C]) >>= ret) _ _ _
 refine AA (CM (E2 (class_get (s:=⟨f,g,d,t+1,os⟩) X I (by rw[c.mro];simp[jE]) ?_)))
 refine AC ?_
 show wpAny _ _ (handedOut (.ref C)) _ _ _
 exact AC (AC h)
theorem aI2{od:Option Addr}{o:Option Obj}(c:ExcC K W C):KitX K (.ref x) (.ref C) (fun h=>InstAt h x ⟨.ref C,od,.fields vs,#[]⟩ C o) where
 ty:=fun _ _ _ I=>I.type
 it:=fun _ _ X _=>by
  obtain ⟨nm,q,N,bs,sn,sub,ab,col,dd,k0,k1,k2,k3,k5,e⟩:=c.lk
  intro i j l s' k q
  unfold isType loadHead
  exact AA (GM (k _ _ (X _ _ e)) (AC q))
 ne:=fun h d dd f n sl X a=>by
  obtain ⟨nm,q,N,bs,sn,sub,ab,col,dd,k0,k1,k2,k3,k5,e⟩:=c.lk
  refine Bool.eq_false_iff.mpr fun q=>?_
  have g:C=d:=Value.ref.inj (FW.mp q)
  subst g
  have z:=(X _ _ e).symm.trans a
  have b:Value.type "type"=Value.type "tuple":=EA Obj.cls (BP z)
  exact absurd (Value.type.inj b) (by decide)
 ca:=fun X I k=>aGS X c I k
theorem vP{od:Option Addr}{o:Option Obj}{a:Value}{b:Bool}{Q:Value->Shared->Prop}(X:K.In s.heap)(c:ExcC K W C)(I:InstAt s.heap x ⟨.ref C,od,.fields vs,#[]⟩ C o)(e:kitOne K (.ref C) a=some b)(h:∀ tk,Q (.bool b) {s with toks:=tk}) :
 wpAny (model prog w) A (call (.builtin "isinstance") [.ref x,a]) Q E s:=kia_one (aI2 c) X I e (fun z=>nomatch z) h
end
end SX
namespace SX
open PySem PySem.W
def uH(h:Heap)(vs:Array Value)(e:Addr)(T:Option Addr):Prop:=
 match T with
 | none=>vs[1]? = some .none
 | some t=>vs[1]? = some (.ref t)/\t≠e/\∃ oT ts x,h.get? t=some oT/\oT.data=.fields ts/\ts[3]? = some x
section
variable{M:Model}{A:Around}{E:Value->Shared->Prop}{s:Shared}
structure Noted(FL:List Addr)(e:Addr)(T:Option Addr)(C:Addr)(od:Option Addr)(h h':Heap)(T':Option Addr):Prop where
 keep:∀ b o,b∉FL->b≠e->(∀ t,T=some t->b≠t)->h.get? b=some o->h'.get? b=some o
 slot:∀ b o,b∈FL->h.get? b=some o->∃ sl,h'.get? b=some {o with slots:=sl}
 exc:∃ vs,h'.get? e=some ⟨.ref C,od,.fields vs,#[]⟩/\uH h' vs e T'
 new:(∃ t,T'=some t/\h.objs.size<=t)\/(T'=T/\T≠none)
 there:∀ t o,T=some t->h.get? t=some o->∃ o',h'.get? t=some o'
theorem aI3{base:Heap}{env:Env}{outer:List Env}{L e C:Addr}{od:Option Addr}{vs:Array Value}{T:Option Addr}{Q:Unit->Shared->Prop}
  (X:A.frames=some (env::outer)) (V:s.heap.FunFrames base (env::outer)) (hf:env.frame=some L) (I:s.heap.get? e=some ⟨.ref C,od,.fields vs,#[]⟩) (J:uH s.heap vs e T)
  (h:∀ h' T',T'≠none->Noted ((env::outer).filterMap (·.frame)) e T C od s.heap h' T'->Q () {s with heap:=h'}) :
  wpAny M A (noteFrame (.ref e) env) Q E s:=by
 have K:∀ b∈(env::outer).filterMap (·.frame),∃ o,s.heap.get? b=some o/\∀ vs,o.data≠.fields vs:=fun b f=>(V.mem f).2
 have w:e∉(env::outer).filterMap (·.frame):=fun hm=>by
  obtain ⟨o,r,l⟩:=K e hm
  rw[I] at r;injection r with r;subst r;exact l vs rfl
 have N:1 < vs.size:=by
  unfold uH at J
  cases T with
  | none=>exact (DD.mp J).1
  | some t=>exact (DD.mp J.1).1
 have make:∀ (u:Heap) (i:Value) (g:Bool),u.FunFrames base (env::outer)->u.objs.size=s.heap.objs.size->u.get? e=some ⟨.ref C,od,.fields vs,#[]⟩->
   (∀ b o,(∀ t,T=some t->b≠t)->s.heap.get? b=some o->u.get? b=some o)->(∀ t o,T=some t->s.heap.get? t=some o->∃ o',u.get? t=some o'/\t∉(env::outer).filterMap (·.frame)/\t≠e)->
   wpAny M A (do let a <-frameOf env;let v <-entryPlaceOf L g;let b <-EntryCells.newEntry i a .none (rawInt L) .none v;setField (.ref e) 1 b) Q E {s with heap:=u}:=by
  intro u i g Y Z W kp tp
  refine AA (wpAny_frameOf_fun (s:={s with heap:=u}) X Y hf fun c d=>?_)
  refine AA (wpAny_entryPlaceOf fun v O=>?_)
  unfold EntryCells.newEntry newFields
  refine AA (CJ ?_ (O.sizeOk5 _ _ _ _ _))
  have n:c.get? e=some ⟨.ref C,od,.fields vs,#[]⟩:=(d.2.1 e w).trans W
  have m:=AJ (h:=c) {cls:=.type "traceback",dict:=none,data:=.fields ([i,.ref L,.none,rawInt L,.none]++(if v.isEmpty then List.replicate 6 Value.none else v)).toArray} n
  refine EL m rfl N ?_
  have P:c.objs.size≠e:=C9 (AS n)
  have G:=BZ (Obj.mapFields (·.setIfInBounds 1 (Value.ref c.objs.size))) m rfl
  have D:=(B6 (c.push {cls:=.type "traceback",dict:=none,data:=.fields ([i,.ref L,.none,rawInt L,.none]++(if v.isEmpty then List.replicate 6 Value.none else v)).toArray})
   (Obj.mapFields (·.setIfInBounds 1 (Value.ref c.objs.size))) (BX P)).trans (A9 c rfl)
  have p:∀ b o,b≠e->c.get? b=some o->
    ((c.push {cls:=.type "traceback",dict:=none,data:=.fields ([i,.ref L,.none,rawInt L,.none]++(if v.isEmpty then List.replicate 6 Value.none else v)).toArray}).update e (Obj.mapFields (·.setIfInBounds 1 (Value.ref c.objs.size)))).get? b=some o:=
   fun b o B f=>by
    rw[B6 _ _ (BX B)]
    exact AJ _ f
  refine h _ (some c.objs.size) (by simp) ⟨fun b o f B y q=>?_,fun b o f q=>?_,⟨vs.setIfInBounds 1 (.ref c.objs.size),?_,?_⟩,.inl ⟨_,rfl,by rw[d.1,Z];exact AG _⟩,fun t o e1 e2=>?_⟩
  ·exact p b o B ((d.2.1 b f).trans (kp b o y q))
  ·have y:∀ t,T=some t->b≠t:=fun t e1 z=>by
    obtain ⟨o',S,U,_⟩:=tp t o e1 (z▸q)
    exact U (z▸f)
   obtain ⟨sl,S⟩:=d.2.2 b o (kp b o y q)
   exact ⟨sl,p b _ (fun z=>w (z▸f)) S⟩
  ·exact G
  ·refine ⟨by simp[N],P,_,_,rawInt L,D,rfl,by first|(simp;done)|(rcases O with rfl|⟨_,_,_,_,_,_,_,rfl⟩<;>simp)⟩
  ·obtain ⟨o',S,U,z3⟩:=tp t o e1 e2
   exact ⟨o',p t o' z3 ((d.2.1 t U).trans S)⟩
 unfold noteFrame
 simp only[hf]
 cases T with
 | none=>
  refine AA (DG I rfl J ?_)
  rw[AE (by decide)]
  exact make s.heap .none _ V rfl I (fun b o _ q=>q) (fun t o e1=>nomatch e1)
 | some t=>
  obtain ⟨R,F,oT,ts,x,H,k,h3⟩:=J
  have aa:t∉(env::outer).filterMap (·.frame):=fun hm=>by
   obtain ⟨o,r,l⟩:=K t hm
   rw[H] at r;injection r with r;subst r;exact l ts k
  refine AA (DG I rfl R ?_)
  rw[AD (show (Value.ref t != Value.none)=true from by simp)]
  refine AA (DG H k h3 ?_)
  by_cases hx:(x == rawInt L)=true
  ·rw[AD hx]
   refine AC (h s.heap (some t) (by simp) ⟨fun b o _ _ _ q=>q,fun b o _ q=>⟨o.slots,q⟩,⟨vs,I,R,F,oT,ts,x,H,k,h3⟩,.inr ⟨rfl,by simp⟩,fun t' o e1 q=>⟨o,q⟩⟩)
  ·rw[AE hx]
   refine AA (EL H k (DD.mp h3).1 ?_)
   have j:∀ b,b≠t->(s.heap.update t (Obj.mapFields (·.setIfInBounds 3 Value.none))).get? b=s.heap.get? b:=fun b f=>B6 _ _ (BX f)
   have ac:=BZ (Obj.mapFields (·.setIfInBounds 3 Value.none)) H (EX (DT k _))
   refine make (s.heap.update t (Obj.mapFields (·.setIfInBounds 3 Value.none))) _ _ (V.of_keeps fun b o f l=>⟨o,(j b fun q=>?_).trans f,rfl⟩) (DM ..).1 ((j e (BX F)).trans I) (fun b o f q=>(j b (f t rfl)).trans q) (fun t' o e1 q=>?_)
   ·rw[q,H] at f;injection f with f;subst f;exact l ts k
   ·cases e1
    exact ⟨_,ac,aa,F⟩
theorem aE4{e C t:Addr}{od:Option Addr}{vs:Array Value}{fr:Option Addr}{Q:Unit->Shared->Prop}(i:s.heap.get? e=some ⟨.ref C,od,.fields vs,#[]⟩)(j:uH s.heap vs e (some t))
  (h:∀ h',Heap.SameBut t s.heap h'->uH h' vs e (some t)->Q () {s with heap:=h'}):wpAny M A (setFlight (.ref e) fr) Q E s:=by
 obtain ⟨b,d,oT,k,x,f,a,g⟩:=j
 unfold setFlight
 refine AA (DG i rfl b ?_)
 rw[AD (show (Value.ref t != Value.none)=true from by simp)]
 have c:=(DD.mp g).1
 refine EL f a c (h _ (DM ..) ⟨b,d,_,_,_,BZ _ f (EX (DT a _)),DT a _,Array.getElem?_setIfInBounds_self_of_lt c⟩)
end
end SX
namespace L2
open PySem PySem.Spec PyProof.Rows
def ExN(e C:Addr)(od:Option Addr):HO:=.ext fun h=>∃ vs,h.get? e=some ⟨.ref C,od,.fields vs,#[]⟩/\vs[1]? = some .none
def ExO(e C:Addr)(od:Option Addr):HO:=.ext fun h=>∃ vs,h.get? e=some ⟨.ref C,od,.fields vs,#[]⟩
section
variable{P:Program}{w:World}{H:Hp}{h:Heap}{e C:Addr}{od:Option Addr}
theorem aGT{vs:Array Value}(a:h.get? e=some ⟨.ref C,od,.fields vs,#[]⟩)(b:vs[1]? = some .none):cN P w H h e (ExN e C od):=
 ⟨⟨vs,a,b⟩,⟨_,a⟩,fun h1 h2 ⟨vs,a,b⟩ k=>⟨vs,k _ a,b⟩⟩
theorem aAK{vs:Array Value}(a:h.get? e=some ⟨.ref C,od,.fields vs,#[]⟩):cN P w H h e (ExO e C od):=
 ⟨⟨vs,a⟩,⟨_,a⟩,fun h1 h2 ⟨vs,a⟩ k=>⟨vs,k _ a⟩⟩
theorem aAL(ok:HOk P w H h)(q:H e=some (ExN e C od)):∃ vs,h.get? e=some ⟨.ref C,od,.fields vs,#[]⟩/\vs[1]? = some .none:=(ok e _ q).1
theorem aGU(ok:HOk P w H h)(q:H e=some (ExO e C od)):∃ vs,h.get? e=some ⟨.ref C,od,.fields vs,#[]⟩:=(ok e _ q).1
end
structure FlyAt(X:Cx)(H:Hp)(h:Heap)(e C:Addr)(od:Option Addr)(traced:Bool):Prop where
 tr:H e=some (ExO e C od)
 tb:∃ vs T,h.get? e=some ⟨.ref C,od,.fields vs,#[]⟩/\SX.uH h vs e T/\(∀ t,T=some t->H t=none/\X.s₀.heap.objs.size<=t/\∀ p∈X.pn,p.1≠t)/\(traced=true->T≠none)
def Fly(X:Cx)(E:XK)(ev:Value)(s':Shared):Prop:=∃ e C od σ H',ev=.ref e/\Inv X [] σ H' s'/\FlyAt X H' s'.heap e C od false/\E (.ref C) (some e) H'
abbrev Cx.fly(X:Cx)(E:XK):Cx:=X.wish (Fly X E)
def zT(X:Cx):Prop:=X.stack=X.env::X.outer/\X.env.frame=some X.env.locals
section
variable{X:Cx}{σ:St}{H:Hp}{s:Shared}{e C:Addr}{od:Option Addr}{b:Bool}
theorem aAM(I:Inv X [] σ H s){t:Addr}{oT:Obj}{f:Array Value}(e:s.heap.get? t=some oT)(d:oT.data=.fields f):t≠X.env.locals/\(∀ x c,X.env.cells.lookup x=some c->c≠t):=by
 refine ⟨fun z=>?_,fun x c q z=>?_⟩
 ·obtain ⟨m,⟨o,es,ep,b,a,_⟩,_⟩:=I.loc
  rw[<-z,e] at b;cases b;rw[d] at a;cases a
 ·obtain ⟨v,o,b,a⟩:=I.cell x c q
  rw[z,e] at b;cases b;rw[d] at a;cases a
theorem uI{Q:Unit->Shared->Prop}{E':Value->Shared->Prop}(U:zT X)(I:Inv X [] σ H s)(f:FlyAt X H s.heap e C od b)(h:∀ s',Inv X [] σ H s'->FlyAt X H s'.heap e C od true->Q () s') :
  wpAny (model X.prog X.w) X.A (noteFrame (.ref e) X.env) Q E' s:=by
 obtain ⟨g,B⟩:=U
 obtain ⟨vs,T,he,G,J,_⟩:=f.tb
 have L:X.A.frames=some (X.env::X.outer):=by rw[<-g];exact I.ok.frames
 have hl:s.heap.FunFrames X.base (X.env::X.outer):=by have:=I.stack;rw[g] at this;exact this
 have y:(X.env::X.outer).filterMap (·.frame)=X.env.locals::X.fs:=by rw[EF,B];rfl
 refine SX.aI3 (T:=T) L hl B he G fun h' T' O N=>?_
 rw[y] at N
 have trk:∀ c u,H c=some u->c∉X.env.locals::X.fs:=fun c u q z=>by
  have:=I.stkFree c (by unfold frs;rw[g,y];exact z)
  rw[q] at this;cases this
 have P:∀ c u,H c=some u->∀ t,T=some t->c≠t:=fun c u q t e1 z=>by
  have:=(J t e1).1
  rw[<-z,q] at this;cases this
 have l:HOk X.prog X.w H h':=fun c u q=>by
  by_cases d:c=e
  ·subst d
   rw[f.tr] at q;cases q
   obtain ⟨i,a,_⟩:=N.exc
   exact aAK a
  ·refine (I.hok c u q).stay (fun M v k a=>N.keep M v ?_ ?_ ?_ a) (fun _ q=>q) (fun _ _ q=>q) fun _ _ q=>q
   ·rcases k with z|z
    ·rw[z];exact trk c u q
    ·exact trk M _ z
   ·rcases k with z|z
    ·rw[z];exact d
    ·intro zz;rw[zz,f.tr] at z;cases z
   ·rcases k with z|z
    ·rw[z];exact P c u q
    ·exact P M _ z
 have I':Inv X [] σ H {s with heap:=h',gens:=s.gens,drawn:=s.drawn,toks:=s.toks}:=by
  refine I.step (ch:=T.toList) (fun c d=>?_) (fun c o h1 h2 D q n=>?_) (fun c o h1 h2 D q n=>N.slot c o (AM _ h2) q) (fun _ _ _ _ n=>n) (fun c o D q=>?_) (fun _ _ q=>q) (fun _ _ _ q=>q) (fun _ _ q=>q) (fun m hm=>?_) l I.bare
  ·have e1:T=some c:=by cases T<;>simp at d;rw[d]
   obtain ⟨t1,S,Z⟩:=J c e1
   rw[e1] at G
   obtain ⟨_,_,oT,ts,x,E,F,_⟩:=G
   obtain ⟨V,Y⟩:=aAM I E F
   exact ⟨.inr S,V,Y,fun p K=>Z p (by simpa using K)⟩
  ·refine N.keep c o ?_ ?_ ?_ q
   ·intro z
    rcases AZ.mp z with z|z
    ·exact h1 z
    ·exact h2 z
   ·intro z;rw[z,f.tr] at n;cases n
   ·intro t e1 z;exact D (by rw[e1,z];simp)
  ·by_cases d:c=e
   ·subst d
    obtain ⟨i,a,_⟩:=N.exc
    exact ⟨_,a⟩
   ·by_cases R:c∈X.env.locals::X.fs
    ·obtain ⟨sl,a⟩:=N.slot c o R q
     exact ⟨_,a⟩
    ·exact ⟨o,N.keep c o R d (fun t e1 z=>D (by rw[e1,z];simp)) q⟩
  ·obtain ⟨o,es,ep,W,r⟩:=hm
   obtain ⟨sl,a⟩:=N.slot _ o AX W
   exact ⟨_,es,ep,a,r⟩
 refine h _ I' ⟨f.tr,?_⟩
 obtain ⟨i,a,t'⟩:=N.exc
 refine ⟨i,T',a,t',fun t e1=>?_,fun _=>O⟩
 rcases N.new with ⟨S,e2,j⟩|⟨e2,_⟩
 ·rw[e1] at e2;cases e2
  refine ⟨I.hok.fresh j,BJ I.sz j,fun p K z=>?_⟩
  have:=AS (I.pin p (DF _ K)).1
  rw[z] at this
  exact absurd (A1 this j) (B7 _)
 ·exact J t (e2▸e1)
theorem xC{Q:Unit->Shared->Prop}{E:Value->Shared->Prop}{fr:Option Addr}{A:Around}(I:Inv X [] σ H s)(f:FlyAt X H s.heap e C od true)(h:∀ s',Inv X [] σ H s'->FlyAt X H s'.heap e C od true->Q () s') :
  wpAny (model X.prog X.w) A (setFlight (.ref e) fr) Q E s:=by
 obtain ⟨vs,T,m,j,z,v⟩:=f.tb
 cases T with
 | none=>exact absurd rfl (v rfl)
 | some t=>
  obtain ⟨i,n,l⟩:=z t rfl
  refine SX.aE4 m j fun h' k a=>?_
  obtain ⟨_,d,oT,F,x,c,g,_⟩:=j
  obtain ⟨u,B⟩:=aAM I c g
  have r:Inv X [] σ H {s with heap:=h'}:=I.turned (t':=s.toks) (it:=t) (fun b o D q=>(k.2 b D).trans q) i u (.inr n) B fun p y=>l p (by simpa using y)
  exact h _ r ⟨f.tr,vs,some t,(k.2 e (BX d)).trans m,a,fun t' e1=>by cases e1;exact ⟨i,n,l⟩,fun _=>by simp⟩
theorem aGV{Q:Value->Shared->Prop}{b:Value->Shared->Prop}{A:Around}(f:FlyAt X H s.heap e C od true)(h:∀ t,Q (.ref t) s):wpAny (model X.prog X.w) A (field (.ref e) 1) Q b s:=by
 obtain ⟨vs,T,a,d,g,c⟩:=f.tb
 cases T with
 | none=>exact absurd rfl (c rfl)
 | some t=>exact DG a rfl d.1 (h t)
theorem cS{E:XK}(h:zT X):PassesOwn (model X.prog X.w) X.A X.env (Fly X E):=by
 rintro l s' ⟨e,C,od,σ,H,rfl,I,f,q⟩
 refine uI h I f fun k i d=>?_
 unfold cameBackBy
 refine AA (aGV d fun t=>?_)
 rw[AE (by simp)]
 exact xC i d fun m j g=>⟨e,C,od,σ,H,rfl,j,⟨g.tr,let ⟨vs,T,a,b,c,_⟩:=g.tb;⟨vs,T,a,b,c,fun z=>nomatch z⟩⟩,q⟩
end
def CXe(P:Program)(w:World):CXT:=fun outer H s E ev s'=>∃ e C od H',ev=.ref e/\s'.os=s.os/\AllBare s'.gens/\Un (frs outer) [] H H' s.heap s'.heap/\HOk P w H' s'.heap/\H' e=some (ExO e C od) /\
 (∃ vs T,s'.heap.get? e=some ⟨.ref C,od,.fields vs,#[]⟩/\SX.uH s'.heap vs e T/\∀ t,T=some t->H' t=none/\s.heap.objs.size<=t)/\E (.ref C) (some e) H'
section
variable{X:Cx}
theorem cA{E f:XK}(k:∀ c e H,E c e H->f c e H):mQ (CXe X.prog X.w) (X.fly f) E:=by
 rintro pins σ H s m s' I ⟨e,C,od,H',rfl,os,bare,un,hok,he,⟨vs,T,q1,q2,q3⟩,q⟩
 have d:Inv X pins σ H s:=I.unwish
 have l:Inv X [] σ H s:=d.pins_of fun p a=>absurd a (by simp)
 have i:Inv X [] σ H' s':=l.call' os un hok bare (fun b h=>absurd h (by simp))
 refine ⟨e,C,od,σ,H',rfl,i,⟨he,vs,T,q1,q2,fun t e1=>?_,fun z=>nomatch z⟩,k _ _ _ q⟩
 obtain ⟨j,g⟩:=q3 t e1
 refine ⟨j,BJ d.sz g,fun p a z=>?_⟩
 have:=AS (d.pin p (DF _ a)).1
 rw[z] at this
 exact absurd (A1 this g) (B7 _)
theorem PSs.unfly{E:XK}{st:List Stmt}{t:TS}(h:PSs (X.fly E) st t)(hx:∀ e s',Fly X E e s'->X.xe e s'):PSs X st t:=fun pins s σ H D I a=>
 BU (h pins s σ H D (I.wish _) a) (fun f s' q=>SP.unwish q) hx
end
theorem rN{P:Program}{w:World}{K:Frag}{mg:Str->Option Value}{base:Heap}{N:List Str}{qual:Str}{scope:Scope}{f:Addr}{cd:Value}{A:Around}{outer:List Env}{s:Shared}{H:Hp}{E:XK}{g:Value}{s':Shared}
  (h:Fly (jJ (CXe P w) P w K mg base N qual scope f cd A outer s H E) E g s'):(jJ (CXe P w) P w K mg base N qual scope f cd A outer s H E).xe g s':=by
 obtain ⟨e,C,od,σ,H',rfl,I,m,q⟩:=h
 show wpAny (model P w) _ (leaving _ (.ref e)) _ _ s'
 unfold leaving
 have j:zT (jJ (CXe P w) P w K mg base N qual scope f cd A outer s H E):=⟨rfl,rfl⟩
 refine AA (uI j I m fun n k l=>xC k l fun o d i=>?_)
 obtain ⟨vs,T,a,b,c,_⟩:=i.tb
 exact ⟨e,C,od,H',rfl,d.os,d.bare,d.base,d.hok,i.tr,⟨vs,T,a,b,fun t e1=>⟨(c t e1).1,(c t e1).2.1⟩⟩,q⟩
section
variable{P:Program}{w:World}{K:Frag}{mg:Str->Option Value}{base:Heap}
theorem Fun.okX{x qual:Str}{st:Stmt}{f:Addr}{fd:FuncData}{N ps:List Str}{k:Nat}{sp:Sp}(F:Fun K x qual st f fd)(S:FnScope N ps (aL st))(len:∀ vs H Q E,sp vs H Q E->vs.length=ps.length)
  (a:∀ (cdv:Value) (A:Around) (outer:List Env) (s:Shared) (H:Hp) (vs:List V) (Q:VK) (E:XK),Room k (A.deeper (envOfC qual (aL st) s.heap.objs.size f cdv))->sp vs H Q E->
   ∃ t,PSs ((jJ (CXe P w) P w K mg base N qual (aL st) f cdv A outer s H E).fly E) (cL st) t/\t {nx:=fun _ H'=>Q .non H',rt:=Q} (start N vs) H):FnOk P w K mg base (CXe P w) (k+1) f fd ps sp:=by
 obtain ⟨i,od,kV,doc,pm,j,cdv,ct,e,rfl,g,b⟩:=F.ex
 refine zS g b S len fun A outer s H vs Q E d c=>?_
 obtain ⟨t,h,q⟩:=a cdv A outer s H vs Q E d c
 exact ⟨t,h.unfly fun _ _ z=>rN z,q⟩
end
theorem Inv.xdw{X:Cx}{pins:List (Addr×Obj)}{σ:St}{H:Hp}{s:Shared}{h':Heap}{d:Addr}{fs fs':List (Str×V)}{t':Nat}(I:Inv X pins σ H s)(a:H d=some (.xd fs))(h:Heap.SameBut d s.heap h')
  (new:cN X.prog X.w (upd H d (.xd fs')) h' d (.xd fs')):Inv X pins σ (upd H d (.xd fs')) {s with heap:=h',toks:=t'}:=by
 have i:∀ b (u:Obj),H b=none->b≠d:=fun b u e z=>by rw[z,a] at e;cases e
 refine I.un ⟨fun b o q n _ _=>(h.2 b (i b o n)).trans q,fun b o q n k=>?_,fun b o q n _=>by rw[aG (i b o n)];exact n,fun b o q _=>?_,fun b xs q=>?_,fun b o u q=>?_,fun b ps q=>?_⟩ fun b u q=>?_
 ·exact fun _=>⟨o.slots,(h.2 b (i b o n)).trans q⟩
 ·by_cases z:b=d
  ·obtain ⟨o',e⟩:=(show ∃ o',h'.get? d=some o' from let ⟨mA,⟨o,_,_,e,_⟩,_⟩:=new;⟨o,e⟩)
   exact ⟨o',z▸e⟩
  ·exact ⟨o,(h.2 b z).trans q⟩
 ·rw[aG (fun z=>by rw[z,a] at q;cases q)];exact q
 ·rw[aG (fun z=>by rw[z,a] at q;cases q)];exact q
 ·rw[aG (fun z=>by rw[z,a] at q;cases q)];exact q
 ·by_cases z:b=d
  ·subst z;rw[aX] at q;cases q;exact new
  ·rw[aG z] at q
   refine (I.hok b u q).stay (fun c v j r=>(h.2 c ?_).trans r) (fun c r=>?_) (fun c xs r=>?_) fun c xs r=>?_
   ·rcases j with g|g
    · rw [g]; exact z
    · intro f; rw [f, a] at g; cases g
   ·rw[aG (fun f=>by rw[f,a] at r;cases r)];exact r
   ·rw[aG (fun f=>by rw[f,a] at r;cases r)];exact r
   ·rw[aG (fun f=>by rw[f,a] at r;cases r)];exact r
def aRO(K:Frag)(ta tv:TE)(f:Str):TS:=fun D σ H=>tv σ H fun y H1=>ta σ H1 fun x H2=>∃ a W C,x=.ref a/\SX.ExcC K W C/\PySem.W.findIn K (.ref C) f=some none /\
 ((H2 a=some (ExN a C none)/\∀ d,H2 d=none->d≠a->D.nx σ (upd (upd H2 a (ExN a C (some d))) d (.xd [(f,y)]))) \/
  (∃ d fs,H2 a=some (ExN a C (some d))/\H2 d=some (.xd fs)/\fs.length < 1000/\D.nx σ (upd H2 d (.xd (w9 f y fs)))))
section
variable{X:Cx}{o e value:Expr}{f:Str}{pos pos':Pos}{ta tv:TE}
theorem aGW{fs:List (Str×V)}{mA:Str->Option Value}(r:∀ f,jD (fs.lookup f) (mA f)):PySem.Within mA (fs.map (·.1)):=fun y a=>by
 cases q:fs.lookup y with
 | none=>exact absurd (jD.none_of (by rw[<-q];exact r y)) a
 | some v=>exact BA.mpr ⟨(y,v),BE q,rfl⟩
theorem aLZ(ha:PE X o ta)(hv:PE X value tv)(hs:swapsWith value (some (.Attribute o f pos')) pos.line X.env=pure false):PS X (.Assign [.Attribute o f pos'] value pos) (aRO X.K ta tv f):=by
 intro pins s σ H D I h
 refine plainObj_wpAny_Assign_Attribute (thn (hv pins s σ H _ I h) fun u s1 ⟨y,H1,I1,U,q⟩=>thn (ha pins s1 σ H1 _ I1 q) fun V m Q=>?_) hs
 obtain ⟨x,H2,l,rx,a,W,C,ex,c,n,L⟩:=Q
 subst ex
 obtain rfl:V=Value.ref a:=rx
 rcases L with ⟨k,L⟩|⟨d,fs,k,P,hl,L⟩
 ·obtain ⟨vs,N,h1⟩:=aAL l.hok k
  refine SX.aGR l.kIn c n N fun h' E F p O=>?_
  have fd:H2 m.heap.objs.size=none:=l.hok.fresh (AG _)
  have R:m.heap.objs.size≠a:=C9 (AS N)
  refine ⟨σ,_,?_,L m.heap.objs.size fd R⟩
  have t:∀ b (u:Obj),H2 b=none->b≠a:=fun b u z zz=>by rw[zz,k] at z;cases z
  have e:∀ b u,H2 b=some u->b≠m.heap.objs.size:=fun b u z=>bU z fd
  have J:HOk X.prog X.w (upd (upd H2 a (ExN a C (some m.heap.objs.size))) m.heap.objs.size (.xd [(f,y)])) h':=fun b u z=>by
   by_cases T:b=m.heap.objs.size
   ·subst T;rw[aX] at z;cases z
    refine ⟨_,p,fun g=>?_⟩
    show jD (List.lookup g [(f,y)]) (if g=f then some u else none)
    rw[BG]
    by_cases S:g=f
    ·subst S;rw[AD rfl];simp only[C6];exact U
    ·rw[AE S,CQ S];exact True.intro
   ·rw[aG T] at z
    by_cases A:b=a
    ·subst A;rw[aX] at z;cases z
     exact aGT F h1
    ·rw[aG A] at z
     refine (l.hok b u z).stay (fun B v Z r=>O B v ?_ r) (fun B r=>?_) (fun B xs r=>?_) fun B xs r=>?_
     ·rcases Z with M|M
      · rw [M]; exact A
      · intro i; rw [i, k] at M; cases M
     ·rw[aG (e B _ r),aG (fun i=>by rw[i,k] at r;cases r)];exact r
     ·rw[aG (e B _ r),aG (fun i=>by rw[i,k] at r;cases r)];exact r
     ·rw[aG (e B _ r),aG (fun i=>by rw[i,k] at r;cases r)];exact r
  refine l.un (t':=E) ⟨fun b j q n _ _=>O b j (t b j n) q,fun b j q n _ _=>⟨j.slots,O b j (t b j n) q⟩,fun b j q n _=>by rw[aG (BB (AS q)),aG (t b j n)];exact n,fun b j q _=>?_,fun b xs q=>?_,fun b j u' q=>?_,fun b ps q=>?_⟩ J
  ·by_cases z:b=a
   ·subst z;exact ⟨_,F⟩
   ·exact ⟨j,O b j z q⟩
  ·rw[aG (e b _ q),aG (fun i=>by rw[i,k] at q;cases q)];exact q
  ·rw[aG (e b _ q),aG (fun i=>by rw[i,k] at q;cases q)];exact q
  ·rw[aG (e b _ q),aG (fun i=>by rw[i,k] at q;cases q)];exact q
 ·obtain ⟨vs,N,h1⟩:=aAL l.hok k
  obtain ⟨mA,p,r⟩:=(show cN X.prog X.w H2 m.heap d (.xd fs) from l.hok d _ P)
  have R:d≠a:=fun z=>by rw[z,k] at P;cases P
  refine SX.aI1 (ns:=fs.map (·.1)) l.kIn c n N R p (aGW r) (by rw[AB,EE];omega) fun h' E G Y=>?_
  refine ⟨σ,_,l.xdw (t':=E) P Y ⟨_,G,fun g=>?_⟩,L⟩
  show jD ((w9 f y fs).lookup g) (if g=f then some u else mA g)
  rw[t8]
  by_cases q:g=f
  ·rw[AD q,AD q];exact U
  ·rw[AE q,AE q];exact r g
end
inductive TyX(K:Frag)(H:Hp):V->Value->Prop where
 | pl {x:V} {t:Value} (h:TyOf K H x t):TyX K H x t
 | exc {a W C:Addr} {d:Addr} {fs:List (Str×V)} (c:SX.ExcC K W C) (e:H a=some (ExO a C (some d))) (ed:H d=some (.xd fs)):TyX K H (.ref a) (.ref C)
 | exc0 {a W C:Addr} (c:SX.ExcC K W C) (e:H a=some (ExO a C none)):TyX K H (.ref a) (.ref C)
def aE5:V->Option Value
 | .ty n=>some (.type n)
 | .ref a=>some (.ref a)
 | _=>none
theorem xD{x:V}{u v:Value}(h:aE5 x=some v)(r:bJ x u):u=v:=by
 cases x with
 | ty n=>cases h;exact r
 | ref a=>cases h;exact r
 | _=>cases h
theorem mD{X:Cx}:kF X (.builtin "isinstance") (fun xs H Q=>∃ x c t cv b,xs=[x,c]/\TyX X.K H x t/\aE5 c=some cv/\PySem.W.kitOne X.K t cv=some b/\Q (.bl b) H):=by
 intro pins s σ H xs us Q I r h
 obtain ⟨x,c,t,cv,b,rfl,k,m,e,q⟩:=h
 obtain ⟨u,v,rfl,i,l⟩:=zR r
 obtain rfl:=xD m l
 cases k with
 | pl k=>exact aGI I i k e fun tk=>⟨.bl b,H,I.tok _,rfl,q⟩
 | @exc a W C d fs cc ea ed=>
  cases (show u=Value.ref a from i)
  obtain ⟨vs,j⟩:=aGU I.hok ea
  obtain ⟨mA,f,r⟩:=(show cN X.prog X.w H s.heap d (.xd fs) from I.hok d _ ed)
  obtain ⟨od,g,_⟩:=rJ f
  exact SX.vP (o:=some od) I.kIn cc ⟨j,rfl,rfl,g⟩ e fun tk=>⟨.bl b,H,I.tok _,rfl,q⟩
 | @exc0 a W C cc ea=>
  cases (show u=Value.ref a from i)
  obtain ⟨vs,j⟩:=aGU I.hok ea
  exact SX.vP (o:=none) I.kIn cc ⟨j,rfl,rfl,True.intro⟩ e fun tk=>⟨.bl b,H,I.tok _,rfl,q⟩
def aAN(C:Addr)(spI:Sp)(E:XK)(ta:TA):TS:=fun _ σ H=>ta σ H fun vs H1=>vs.length<=1000/\∀ e,H1 e=none->
 spI (.ref e::vs) (upd H1 e (ExN e C none)) (fun v H2=>v=.non/\∃ od,H2 e=some (ExN e C od)/\E (.ref C) (some e) (upd H2 e (ExO e C od))) E0
section
variable{X:Cx}{E:XK}{W C fI:Addr}{fdI:FuncData}{ps:List Str}{spI:Sp}{k:Nat}{x:Str}{np cpos pos:Pos}{e0:Expr}{rest:List Expr}{ta:TA}
theorem uJ(R:X.calm=true)(c:SX.ExcC X.K W C)(hg:Gl X x)(hm:X.mg x=some (.ref C))(Q:FnOk X.prog X.w X.K X.mg X.base CX0 k fI fdI ps spI)(hi:PySem.W.findIn X.K (.ref C) "__init__"=some (some (.ref fI)))
  (U:PySem.W.typeIn X.K (.ref fI)=some (.type "function")) (Z:gQ X.K fdI ps []) (hr:Room (k+1) X.A) (ha:PA (X.fly E) (e0::rest) ta) (F:(x == ("__debug__":Str))=false:=by decide)
  (he:starEach (e0::rest) X.env=(false,eval e0 X.env)::starEach rest X.env:=by rfl) (hpl:(backTo cpos (starEach rest X.env)).any (·.1)=false:=by rfl) :
  PS (X.fly E) (.Raise (some (.Call (.Name x np) (e0::rest) [] cpos)) none pos) (aAN C spI E ta):=by
 intro pins s σ H D I h
 obtain ⟨nm,q,N,bs,sn,sub,ab,col,dd,k0,k1,k2,k3,k5,lk⟩:=c.lk
 have a:wpAny (model X.prog X.w) X.A (eval (.Call (.Name x np) (e0::rest) [] cpos) X.env) (fun v s1=>∃ e od vs,v=.ref e/\s1.heap.get? C=some (excClassObj nm q C N bs (.ref W::SX.jE) true sn sub ab col dd k0 k1 k2 k3 k5 "ValueError.__new__") /\
   s1.heap.get? e=some {cls:=.ref C,dict:=od,data:=.fields vs}/\vs[1]? = some .none/\Fly X E (.ref e) s1) (Fly X E) s:=by
  refine CW (pA (X:=X) I.unwish hg hm ?_ F)
  refine DR (h₀:=X.base) I.ok.mod.kin c.kp (thn (ha cpos pins s σ H _ I h) fun us s1 ⟨vs,H1,i,r,hz,q1⟩=>⟨i.kIn,?_⟩) he hpl
  have o:Inv X pins σ H1 s1:=i.unwish
  obtain ⟨S,g,d,tk,os⟩:=s1
  have B:us.length<=sizeLine:=by rw[<-r.length,EE];omega
  refine SX.aI0 FP (SX.aAJ W) o.kIn (o.kIn _ _ lk) hi U (fun h' e j m=>?_) B
  obtain ⟨t,M,_,_⟩:=j.there
  have J:Inv X pins σ (upd H1 e (ExN e C none)) ⟨h',g,d,tk,os⟩:=o.laid (t':=tk) j.keeps m (aGT M rfl)
  have T:=q1 e (o.hok.fresh m)
  have r2:bT (V.ref e::vs) (Value.ref e::us):=.cons rfl r
  have y:(Value.ref e::us++[]).length=ps.length:=by
   have z:=r2.length
   rw[Q.len _ _ _ _ T] at z
   rw[B9]
   exact z.symm
  have Y:(Value.ref e::us).length=ps.length:=by rw[B9] at y;exact y
  have O:=Z ⟨h',g,d,tk,os⟩ (Value.ref e::us) J.kIn y
  rw[B9] at O
  refine E2 (EK (Q.run _ X.stack ⟨h',g,d,tk,os⟩ _ ⟨Value.ref e::us,[]⟩ (Value.ref e::us) (V.ref e::vs) _ E0 (hr.make C us []) (J.env0.make C us []) O r2 T) fun G s' l=>?_)
  cases G with
  | error e=>exact False.elim l
  | ok fl=>
   cases fl with
   | next=>exact False.elim l
   | brk=>exact False.elim l
   | cont=>exact False.elim l
   | ret u=>
    obtain ⟨v,H3,L,rv,ev,od,P,q3⟩:=J.after l
    subst ev
    obtain ⟨f,n,h1⟩:=aAL L.hok P
    refine ⟨rv,e,od,f,rfl,L.kIn _ _ lk,n,h1,?_⟩
    have I4:Inv X pins σ (upd H3 e (ExO e C od)) {s' with heap:=s'.heap,toks:=s'.toks}:=L.write (x:=e) (e:=e) (by rw[P];exact True.intro) (.inl rfl) (fun b u _ z=>z) ⟨_,n⟩ (aAK n)
    have I5:Inv X [] σ (upd H3 e (ExO e C od)) s':=(show Inv X pins σ _ s' from I4).pins_of fun p S=>absurd S (by simp)
    exact ⟨e,C,od,σ,_,rfl,I5,⟨aX,f,none,n,h1,(fun t z=>nomatch z),(fun z=>nomatch z)⟩,q3⟩
 show wpAny (model X.prog X.w) X.A (exec (.Raise (some (.Call (.Name x np) (e0::rest) [] cpos)) none pos) X.env) _ (Fly X E) s
 rw[arm_exec_Raise]
 first
  | refine AA (CI (SX.nH (SX.aAJ W) (I.ok.hd R) (AA (BU a (fun v s1 h1=>AA (CI (AC h1))) fun _ _ z=>z))))
  | (simp only[evalOpt,Option.map];refine AA (CI (SX.nH (SX.aAJ W) (I.ok.hd R) (AA (BU a (fun v s1 h1=>AA (CI (AC h1))) fun _ _ z=>z)))))
end
end L2
namespace SX
open PySem PySem.W
structure ExcAny(K:Frag)(C:Addr)(bm:List Value):Prop where
 lk:∃ nm q N bs hd sn sub ab col dd k0 k1 k2 k3 k5 newId,K.lookup C=some (excClassObj nm q C N bs bm hd sn sub ab col dd k0 k1 k2 k3 k5 newId)
 base:bm.contains (.type "BaseException")=true
end SX
namespace L2
open PySem PySem.Spec PyProof.Rows
structure Blt(mg:Str->Option Value):Prop where
 b_len:mg "len"=none
 b_isinstance:mg "isinstance"=none
 b_all:mg "all"=none
 b_max:mg "max"=none
 b_min:mg "min"=none
 b_int:mg "int"=none
 b_str:mg "str"=none
 b_bool:mg "bool"=none
 b_tuple:mg "tuple"=none
 b_list:mg "list"=none
 b_range:mg "range"=none
 b_enumerate:mg "enumerate"=none
 b_ValueError:mg "ValueError"=none
structure DefAt(K:Frag)(mg:Str->Option Value)(x:Str)(st:Stmt)(ps:List Str):Prop where
 ex:∃ f fd,Fun K x x st f fd/\gQ K fd ps []/\mg x=some (.ref f)
def Calls(P:Program)(w:World)(K:Frag)(mg:Str->Option Value)(base:Heap)(CX:CXT)(k:Nat)(x:Str)(ps:List Str)(sp:Sp):Prop:=
 ∃ f fd,FnOk P w K mg base CX k f fd ps sp/\gQ K fd ps []/\mg x=some (.ref f)/\PySem.W.keepIn K (.ref f)=true
section
variable{P:Program}{w:World}{K:Frag}{mg:Str->Option Value}{base:Heap}{x:Str}{st:Stmt}{N ps:List Str}{k:Nat}{sp:Sp}
theorem DefAt.ok(D:DefAt K mg x st ps)(S:FnScope N ps (aL st))(len:∀ vs H Q E,sp vs H Q E->vs.length=ps.length)
  (a:∀ (f:Addr) (cdv:Value) (A:Around) (outer:List Env) (s:Shared) (H:Hp) (vs:List V) (Q:VK) (E:XK),Room k (A.deeper (envOfC x (aL st) s.heap.objs.size f cdv))->sp vs H Q E->
   ∃ t,PSs (jJ CX0 P w K mg base N x (aL st) f cdv A outer s H E).nox (cL st) t/\t {nx:=fun _ H'=>Q .non H',rt:=Q} (start N vs) H):Calls P w K mg base CX0 (k+1) x ps sp:=by
 obtain ⟨f,fd,F,b,m⟩:=D.ex
 exact ⟨f,fd,F.ok S len (a f),b,m,F.kp⟩
theorem DefAt.okX(D:DefAt K mg x st ps)(S:FnScope N ps (aL st))(len:∀ vs H Q E,sp vs H Q E->vs.length=ps.length)
  (a:∀ (f:Addr) (cdv:Value) (A:Around) (outer:List Env) (s:Shared) (H:Hp) (vs:List V) (Q:VK) (E:XK),Room k (A.deeper (envOfC x (aL st) s.heap.objs.size f cdv))->sp vs H Q E->
   ∃ t,PSs ((jJ (CXe P w) P w K mg base N x (aL st) f cdv A outer s H E).fly E) (cL st) t/\t {nx:=fun _ H'=>Q .non H',rt:=Q} (start N vs) H):Calls P w K mg base (CXe P w) (k+1) x ps sp:=by
 obtain ⟨f,fd,F,b,m⟩:=D.ex
 exact ⟨f,fd,F.okX S len (a f),b,m,F.kp⟩
theorem Calls.imp{CX:CXT}{a:Sp}(C:Calls P w K mg base CX k x ps sp)(h:∀ vs H Q E,a vs H Q E->sp vs H Q E):Calls P w K mg base CX k x ps a:=by
 obtain ⟨f,fd,F,b,m,c⟩:=C
 exact ⟨f,fd,F.imp h,b,m,c⟩
end
section
variable{X:Cx}{CX:CXT}{k:Nat}{x:Str}{ps:List Str}{sp:Sp}{E:XK}{p pos:Pos}{e:Expr}{es:List Expr}{t:TA}
theorem bZ(C:Calls X.prog X.w X.K X.mg X.base CX k x ps sp)(g:Room k X.A)(c:Gl X x)(hx:mQ CX X E)(d:PA X (e::es) t)(a:(x == ("__debug__":Str))=false:=by decide)
  (he:starEach (e::es) X.env=(false,eval e X.env)::starEach es X.env:=by rfl) (hpl:(backTo pos (starEach es X.env)).any (·.1)=false:=by rfl):PE X (.Call (.Name x p) (e::es) [] pos) (oK sp [] E t):=by
 obtain ⟨f,fd,F,b,m,h⟩:=C
 exact aC7 F g c m h b .nil hx d a he hpl
end
def spI(C:Addr)(fs:List Str):Sp:=fun vs H Q _=>∃ e xs,vs=.ref e::xs/\xs.length=fs.length/\H e=some (ExN e C none)/\∀ d,H d=none->d≠e->Q .non (upd (upd H e (ExN e C (some d))) d (.xd (fs.zip xs)))
structure ErrAt(P:Program)(w:World)(K:Frag)(mg:Str->Option Value)(base:Heap)(x:Str)(fs:List Str)(W C:Addr):Prop where
 c:SX.ExcC K W C
 m:mg x=some (.ref C)
 na:∀ f∈fs,PySem.W.findIn K (.ref C) f=some none
 i:∃ fI fdI,FnOk P w K mg base CX0 1 fI fdI ("self"::fs) (spI C fs)/\PySem.W.findIn K (.ref C) "__init__"=some (some (.ref fI))/\PySem.W.typeIn K (.ref fI)=some (.type "function")/\gQ K fdI ("self"::fs) []
theorem aI4{H:Hp}{a b:Addr}{o u:HO}(h:a≠b):upd (upd H a o) b u=upd (upd H b u) a o:=by
 funext c
 unfold upd
 by_cases h1:c=a
 · subst h1; rw [AE h, AD rfl, AD rfl]
 · rw [AE h1, AE h1]
theorem aGX{X:Cx}{E:XK}{fs:List Str}{W C:Addr}{x:Str}{np cpos pos:Pos}{e0:Expr}{rest:List Expr}{ta:TA}(k:X.calm=true)(a:ErrAt X.prog X.w X.K X.mg X.base x fs W C)(h:Gl X x)(f:Room 2 X.A)(j:PA (X.fly E) (e0::rest) ta)
  (b:(x == ("__debug__":Str))=false:=by decide) (he:starEach (e0::rest) X.env=(false,eval e0 X.env)::starEach rest X.env:=by rfl) (hpl:(backTo cpos (starEach rest X.env)).any (·.1)=false:=by rfl) :
  PS (X.fly E) (.Raise (some (.Call (.Name x np) (e0::rest) [] cpos)) none pos) (aAN C (spI C fs) E ta):=by
 obtain ⟨fI,fdI,g,hi,d,e⟩:=a.i
 exact uJ k a.c h a.m g hi d e f j b he hpl
theorem aE6{C:Addr}{fs:List Str}{vs:List V}{E:XK}{H1:Hp}(k:vs.length=fs.length)(i:vs.length<=1000)
  (h:∀ e d,H1 e=none->H1 d=none->d≠e->E (.ref C) (some e) (upd (upd H1 e (ExO e C (some d))) d (.xd (fs.zip vs)))) :
  vs.length<=1000/\∀ e,H1 e=none->spI C fs (.ref e::vs) (upd H1 e (ExN e C none)) (fun v H2=>v=.non/\∃ od,H2 e=some (ExN e C od)/\E (.ref C) (some e) (upd H2 e (ExO e C od))) E0:=by
 refine ⟨i,fun e j=>⟨e,vs,rfl,k,aX,fun d g c=>⟨rfl,some d,?_,?_⟩⟩⟩
 ·rw[aG (BX c),aX]
 ·have f:H1 d=none:=by rw[aG c] at g;exact g
  have:=h e d j f c
  rw[tD,aI4 (a:=d) (b:=e) c,tD]
  exact this
theorem DatV.tup_of{K:Frag}{H:Hp}{v:V}{ds:List PyData}(h:DatV K H v (.tuple ds)):∃ a xs,v=.ref a/\SqT K H a xs/\DatVs K H xs ds:=by
 cases h with
 | tup h1 h2=>exact ⟨_,_,rfl,h1,h2⟩
theorem DatV.lst_of{K:Frag}{H:Hp}{v:V}{ds:List PyData}(h:DatV K H v (.list ds)):∃ a xs,v=.ref a/\SqL K H a xs/\DatVs K H xs ds:=by
 cases h with
 | lst h1 h2=>exact ⟨_,_,rfl,h1,h2⟩
theorem DatV.int_of{K:Frag}{H:Hp}{v:V}{i:Int}(h:DatV K H v (.int i)):v=.int i:=by cases h;rfl
theorem DatV.str_of{K:Frag}{H:Hp}{v:V}{i:Str}(h:DatV K H v (.str i)):v=.str i:=by cases h;rfl
theorem DatVs.cons_of{K:Frag}{H:Hp}{xs:List V}{d:PyData}{ds:List PyData}(h:DatVs K H xs (d::ds)):∃ x t,xs=x::t/\DatV K H x d/\DatVs K H t ds:=by
 cases h with
 | cons h1 h2=>exact ⟨_,_,rfl,h1,h2⟩
theorem DatVs.nil_of{K:Frag}{H:Hp}{xs:List V}(h:DatVs K H xs []):xs=[]:=by cases h;rfl
theorem dP.nil:dP [] []:=⟨rfl,fun _ _ h=>by simp at h⟩
theorem dP.own{τ ρ:St}{u:Option V}(h:dP τ ρ):dP (none::τ) (u::ρ):=⟨by simp[h.1],fun i v e=>by
 cases i with
 | zero=>simp at e
 | succ i=>simpa using h.2 i v (by simpa using e)⟩
theorem dP.nil_of{σ:St}(h:dP [] σ):σ=[]:=GG.mp h.1
def SqS(K:Frag)(H:Hp)(a:Addr)(xs:List V):Prop:=SqL K H a xs\/SqT K H a xs
theorem SqS.same{K:Frag}{H H':Hp}{a:Addr}{xs:List V}(e:aO H H')(h:SqS K H a xs):SqS K H' a xs:=h.imp (SqL.same e) (SqT.same e)
theorem PI.or{X:Cx}{tg a:Expr}{w1 w2:TI}(h1:PI X tg a w1)(h2:PI X tg a w2):PI X tg a (fun σ H R=>w1 σ H R\/w2 σ H R):=fun pins s σ H R I h=>h.elim (h1 pins s σ H R I) (h2 pins s σ H R I)
def aSP(K:Frag)(tl:TE):TI:=fun σ H R=>tl σ H fun x H1=>∃ a,x=.ref a/\(((∃ xs,SqL K H1 a xs)/\R (Itl K a) H1)\/((∃ xs,SqT K H1 a xs)/\R (Itt K a) H1))
theorem aGY{X:Cx}{tg l:Expr}{tl:TE}(m:PE X l tl):PI X tg l (aSP X.K tl):=by
 intro pins s σ H R I h
 refine thn (m pins s σ H _ I h) fun v s1 g=>?_
 obtain ⟨x,H1,c,r1,k⟩:=g
 obtain ⟨a,e,q⟩:=k
 subst e
 cases r1
 rcases q with ⟨⟨xs,i⟩,q⟩|⟨⟨xs,i⟩,q⟩
 ·obtain ⟨d,n,p,j⟩:=c.list i
  refine wpAny_pyIter_list p.isList ?_
  refine ⟨s1.heap.objs.size,[s1.heap.objs.size],_,_,H1,rfl,c.kept (t':=s1.toks) fun b o e=>AJ _ e,aGF a _,⟨_,A9 _ rfl,rfl,rfl⟩,fun b f=>?_,q⟩
  obtain rfl:=AV.mp f
  exact c.fpOk (AG _) (c.hok.fresh (AG _))
 ·obtain ⟨d,n,p,j⟩:=c.tuple i
  refine wpAny_pyIter_tuple (show s1.heap.IsTuple a d.toArray from p) ?_
  refine ⟨s1.heap.objs.size,[s1.heap.objs.size],_,_,H1,rfl,c.kept (t':=s1.toks) fun b o e=>AJ _ e,aET a _,⟨_,A9 _ rfl,rfl,rfl⟩,fun b f=>?_,q⟩
  obtain rfl:=AV.mp f
  exact c.fpOk (AG _) (c.hok.fresh (AG _))
def aRP(i j:Int):Prop:=0 < j/\j < 2 ^ 64
theorem aI5{X:Cx}:OpR X (binaryOp .FloorDiv) (rI aRP fun i j=>.int (i / j)):=opI fun i j _ _ _ _ _ a q=>by
 have h1:(0:Int) < j:=a.1
 have h2:j < 2 ^ 64:=a.2
 have b:j.natAbs < 2 ^ 64:=by omega
 have c:j.natAbs.log2 < 64:=(Nat.log2_lt (by omega)).mpr b
 exact floordiv_int (by omega) (by rw[Int.fdiv_eq_ediv_of_nonneg i (by omega)];exact q) (.inl (PyProof.noPylong_of_log2 (by omega)))
theorem mE{X:Cx}{P:Program}{w:World}:mQ (CXe P w) X E0:=by
 rintro pins σ H s a s' I ⟨e,C,od,H',rfl,os,bare,un,hok,he,hv,q⟩
 exact q.elim
section
variable{X:Cx}
def aSQ:V->Option Int->Option Int->Hp->VK->Prop:=fun x lo hi H Q=>∃ z,x=.str z/\z.length<=sizeLine/\Q (.str (Txt.slice z lo hi)) H
theorem aDF{v:Value}{o:Option Int}(h:IsPart v o):∃ l:Option (Int×Tok),partValue l=v/\l.map (·.1)=o:=by
 cases h with
 | none=>exact ⟨none,rfl,rfl⟩
 | int i t=>exact ⟨some (i,t),rfl,rfl⟩
theorem aO8:SlR X aSQ:=by
 intro pins s σ H x v n p lo hi sl Q I m i f g h
 obtain ⟨z,rfl,b,q⟩:=h
 obtain ⟨t,rfl⟩:=m
 obtain ⟨l,rfl,d⟩:=aDF f
 obtain ⟨u,rfl,j⟩:=aDF g
 obtain ⟨o,e,k,c⟩:=i
 refine ⟨"str",_,PyProof.Rows.slot_str_getitem.lookup,rfl,?_⟩
 refine wpAny_getItem_str_slice (l:=l) (u:=u) (st:=none) ⟨o,e,k,c⟩ rfl ?_
 have le:=Txt.slice_le z lo hi
 unfold Txt.slice at q le
 unfold sliceMade slicePicked
 rw[d,j]
 simp only[C6,FQ,Option.map_none,F8] at q le ⊢
 by_cases a:((Builtin.Str.strSliceIndices lo hi 1 z.length).length == z.length)=true
 ·rw[AD a] at q ⊢
  exact ⟨.str z,H,I,⟨t,rfl⟩,q⟩
 ·rw[AE a] at q le ⊢
  exact ⟨BJ le b,.str _,H,I.tok _,⟨_,rfl⟩,q⟩
def aGZ:V->List V->Hp->VK->Prop:=fun x vs H Q=>∃ z y i rest,x=.str z/\vs=[.str y]/\Builtin.Str.occurrences z y 0 z.length 1=i::rest/\Q (.int i) H
theorem uK:MtR X "str.index" aGZ:=by
 intro pins s σ H x vs v us Q I d b h
 obtain ⟨z,y,i,rest,rfl,rfl,c,q⟩:=h
 obtain ⟨t,rfl⟩:=d
 obtain ⟨u,rfl,a,rfl⟩:=b.one
 exact call_gives F.slot_str_index rfl F.entry_str_index (F.args_str_index_2 _ _) (gives_str_index z y t a i rest c) ⟨.int i,H,I.tok _,⟨_,rfl⟩,q⟩
def Ity(z:Str):It:=
 ⟨fun i _=>i < z.cps.size,fun i H x H'=>∃ p c,H p=none/\x=.ref p/\H'=upd H p (.tup [.int i,.str ⟨#[c]⟩])/\z.cps[i]? = some c,fun i _=>i=z.cps.size⟩
theorem aE7{P:Program}{w:World}{K:Frag}{es:List Expr}{k1}{G:Pos}(z:Str)(t:Tok)(T:String)(hT:∀ A:Around,A.handled=none->∀ it,Draws P w A it [it] z.cps.size (fun i v=>∃ c u,z.cps[i]? = some c/\v=Value.str {cps:=#[c]} u) fun i h=>h.IsStrIter it T z t i)
  (e it:Addr) (hei:e≠it):Turn P w K (.Tuple es k1 G) (Ity z) [e,it] e (fun i h=>(∃ f,IsEnum h e it i f)/\h.IsStrIter it T z t i) where
 mem:=by simp
 obj:=fun i h st b l=>by
  obtain ⟨⟨f,s1⟩,o,e2,c,d⟩:=st
  rcases AZ.mp l with z|z
  ·subst z
   exact ⟨_,s1,fun v z=>by
    have z':Data.fields _=Data.cell v:=z
    cases z'⟩
  ·obtain rfl:b=it:=by simpa using z
   exact ⟨o,e2,fun v z=>by rw[d] at z;cases z⟩
 keep:=fun i h h' st k=>by
  obtain ⟨⟨f,s1⟩,o,e2,c,d⟩:=st
  exact ⟨⟨f,k e (by simp) _ s1⟩,o,k it (by simp) o e2,c,d⟩
 item:=by
  intro X O hw S a i pins s σ H E I J st B
  subst O hw S
  obtain ⟨⟨f,s1⟩,L⟩:=st
  obtain ⟨W,f1,f2,f3,f4,f5⟩:=J e (by simp)
  obtain ⟨D,M,g2,U,R,g5⟩:=J it (by simp)
  refine wpAny_pyNext_enum_itemD (hT X.A.in1 (I.ok.hd a) it) s1 L B hei (by simpa using hei) fun u h' tk N so si st ad kp=>?_
  obtain ⟨c,tc,aa,hu⟩:=N
  subst hu
  refine ⟨_,rfl,FK so fun h2 se Z=>?_⟩
  have y:s.heap.objs.size≠e:=C9 (AS s1)
  have V:h2.get? s.heap.objs.size=some {cls:=.type "tuple",data:=.seq #[.int i tk,.str ⟨#[c]⟩ tc]}:=(Z.2 _ y).trans st
  have Y:H s.heap.objs.size=none:=I.hok.fresh (AG _)
  have g:∀ b o,b≠e->b≠it->s.heap.get? b=some o->h2.get? b=some o:=fun b o h1 Q q=>(Z.2 b h1).trans (kp b o h1 Q q)
  have F:HOk X.prog X.w H h2:=fun b x q=>by
   refine (I.hok b x q).stay (fun c v a q'=>g c v ?_ ?_ q') (fun _ q=>q) (fun _ _ q=>q) fun _ _ q=>q
   ·rcases a with z|z
    ·rw[z];exact fun p=>by rw[p,W] at q;cases q
    ·exact fun p=>by rw[p,W] at z;cases z
   ·rcases a with z|z
    ·rw[z];exact fun p=>by rw[p,D] at q;cases q
    ·exact fun p=>by rw[p,D] at z;cases z
  have C:HOk X.prog X.w (upd H s.heap.objs.size (.tup [.int i,.str ⟨#[c]⟩])) h2:=HOk.track F Y ⟨by show 2<=sizeLine;decide,[.int i tk,.str ⟨#[c]⟩ tc],.cons ⟨_,rfl⟩ (.cons ⟨_,rfl⟩ .nil),⟨_,V,⟨rfl,rfl⟩,_,rfl⟩⟩
  have j:∀ b x,H b=some x->b≠s.heap.objs.size:=fun b x q=>bU q Y
  have I2:Inv X pins σ (upd H s.heap.objs.size (.tup [.int i,.str ⟨#[c]⟩])) {s with heap:=h2,gens:=s.gens,drawn:=s.drawn,toks:=tk+1}:=by
   refine I.step (ch:=[e,it]) (fun b l=>?_) (fun b o _ _ a q _=>g b o (fun z=>a (by simp[z])) (fun z=>a (by simp[z])) q) (fun b o _ _ a q _=>⟨o.slots,g b o (fun z=>a (by simp[z])) (fun z=>a (by simp[z])) q⟩)
    (fun b o _ q n=>by rw[aG (BB (AS q))];exact n) (fun b o a q=>⟨o,g b o (fun z=>a (by simp[z])) (fun z=>a (by simp[z])) q⟩) (fun b ys q=>by rw[aG (j b _ q)];exact q) (fun b o x q=>by rw[aG (j b _ q)];exact q)
    (fun b ps q=>by rw[aG (j b _ q)];exact q) (fun m hm=>?_) C I.bare
   ·rcases AZ.mp l with z|z
    ·subst z;exact ⟨f3,f1,f4,f5⟩
    ·obtain rfl:b=it:=by simpa using z
     exact ⟨U,M,R,g5⟩
   ·obtain ⟨o,ac,ep,ho,r⟩:=hm
    exact ⟨o,ac,ep,g _ o (BX f1) (BX M) ho,r⟩
  refine ⟨.ref s.heap.objs.size,_,I2,rfl,⟨_,c,Y,rfl,rfl,aa⟩,⟨⟨_,by simpa using se⟩,?_⟩,fun b l=>?_⟩
  ·obtain ⟨o,q1,q2,q3⟩:=si
   exact ⟨o,(Z.2 it hei.symm).trans q1,q2,q3⟩
  ·rcases AZ.mp l with z|z
   ·subst z;rw[aG (BX y)];exact W
   ·obtain rfl:b=it:=by simpa using z
    obtain ⟨o,q,_⟩:=L
    rw[aG (BB (AS q))];exact D
 done:=by
  intro X O hw S a i pins s σ H E I J st B
  subst O hw S
  obtain ⟨⟨f,s1⟩,L⟩:=st
  obtain ⟨D,M,g2,U,R,g5⟩:=J it (by simp)
  have B:i=z.cps.size:=B
  subst B
  exact wpAny_pyNext_enum_endD (hT X.A.in1 (I.ok.hd a) it) s1 L fun h' eb=>⟨rfl,I.turned (t':=s.toks) (fun b o l q=>eb b o l q) D M U R g5⟩
 self:=fun _ _ _ _ _ st h=>EQ st.1.choose_spec h
def aG0(ta:TA):TI:=fun σ H R=>ta σ H fun vs H1=>∃ z,vs=[.str z]/\R (Ity z) H1
theorem aI6{es:List Expr}{k1}{d:Pos}{a:Expr}{ta:TA}{p pos:Pos}(B:Gl X "enumerate")(y:X.mg "enumerate"=none)(D:PA X [a] ta)(C:starEach [a] X.env=[(false,eval a X.env)]:=by rfl) :
  PI X (.Tuple es k1 d) (.Call (.Name "enumerate" p) [a] [] pos) (aG0 ta):=by
 intro pins s σ H R I h
 refine Call_ (nV I B y FF (CP (thn (D pos pins s σ H _ I h) fun us s1 g=>?_) C rfl))
 obtain ⟨vs,H1,f,r1,m⟩:=g
 obtain ⟨z,e,q⟩:=m
 subst e
 obtain ⟨u,rfl,t,rfl⟩:=oJ r1
 have o:∀ A:Around,A.handled=none->∀ it,Draws X.prog X.w A it [it] z.cps.size (fun i v=>∃ c u,z.cps[i]? = some c/\v=Value.str {cps:=#[c]} u) fun i h=>h.IsStrIter it (strIterType z) z t i:=fun A k it=>by
  unfold strIterType
  split
  · exact Draws.strAscii k it z t
  · exact Draws.strWide k it z t
 refine call_enumerate_str fun h' j E x n=>?_
 have l:Inv X pins σ H1 {s1 with heap:=h'}:=f.kept (t':=s1.toks) n
 refine EQ j ?_
 refine ⟨s1.heap.objs.size+1,[s1.heap.objs.size+1,s1.heap.objs.size],_,_,H1,rfl,l,aE7 z t _ o _ _ (C9 (F9 _)),⟨⟨_,j⟩,E⟩,fun b r=>?_,q⟩
 rcases AZ.mp r with z|z
 ·subst z
  exact f.fpOk (DW _) (f.hok.fresh (DW _))
 ·obtain rfl:b=s1.heap.objs.size:=by simpa using z
  exact f.fpOk (AG _) (f.hok.fresh (AG _))
end
theorem aAO{X:Cx}:kF X (.builtin "isinstance") (fun xs H Q=>∃ a ys c cv b,xs=[.ref a,c]/\SqT X.K H a ys/\aE5 c=some cv/\PySem.W.kitOne X.K (.type "tuple") cv=some b/\Q (.bl b) H):=by
 intro pins s σ H xs us Q I r h
 obtain ⟨a,ys,c,cv,b,rfl,i,j,e,q⟩:=h
 obtain ⟨u,v,rfl,f,g⟩:=zR r
 obtain rfl:=xD j g
 cases (show u=Value.ref a from f)
 obtain ⟨d,_,⟨o,h1,h2,_⟩,_⟩:=I.tuple i
 exact B8 PySem.W.kitx_tuple I.kIn ⟨o,h1,h2⟩ e (fun z=>nomatch z) fun tk=>⟨.bl b,H,I.tok _,rfl,q⟩
structure RoomH(k:Nat)(A:Around):Prop where
 dp:A.depth+3 * k+5 < recursionLimit
 un:A.units+16 * k+200 < cLine
theorem Room.h{k:Nat}{A:Around}(r:Room k A):RoomH k A:=⟨r.dp,r.un⟩
structure FnOkH(P:Program)(w:World)(K:Frag)(mg:Str->Option Value)(base:Heap)(k:Nat)(f:Addr)(fd:FuncData)(ps:List Str)(sp:Sp):Prop where
 len:∀ vs H Q E,sp vs H Q E->vs.length=ps.length
 run:∀ (A:Around) (outer:List Env) (s:Shared) (H:Hp) (args:Args) (us:List Value) (vs:List V) (Q:VK),RoomH k A->Env0 P w K mg base A outer s H->BindsTo s fd args (ps.zip us)->bT vs us->sp vs H Q E0->
  codeAny (model P w) A (.call (.ref f) args) (CR CX0 outer P w H s Q E0) s
theorem FnOkH.ok{P:Program}{w:World}{K:Frag}{mg:Str->Option Value}{base:Heap}{k:Nat}{f:Addr}{fd:FuncData}{ps:List Str}{sp:Sp}(F:FnOkH P w K mg base k f fd ps sp)(g:∀ vs H Q E,sp vs H Q E->sp vs H Q E0):FnOk P w K mg base CX0 k f fd ps sp:=
 ⟨F.len,fun A outer s H args us vs Q E d c b a i=>EK (F.run A outer s H args us vs Q d.h c b a (g _ _ _ _ i)) fun r s' h=>by
  cases r with
  | error e=>exact h
  | ok fl=>cases fl<;>exact h⟩
end L2
namespace Mc
open PySem L2 PyProof.Rows
inductive Tn where
 | n (i:Int)|w (x:Str)
noncomputable def Tn.v:Tn->V
 | .n i=>.int i
 | .w x=>.str x
noncomputable def Tn.d:Tn->PyData
 | .n i=>.int i
 | .w x=>.str x
structure Rw where
 l:Tn
 c:List (Int×Int)
 r:Tn
def d4(c:Int×Int):PyData:=.tuple [.int c.1,.int c.2]
def cV(r:Rw):PyData:=.tuple [r.l.d,.tuple (r.c.map d4),r.r.d]
def bH(rs:List Rw):PyData:=.tuple (rs.map cV)
inductive CellsAt(K:Frag)(H:Hp):List V->List (Int×Int)->Prop
 | nil:CellsAt K H [] []
 | cons {q:Addr} {a b:Int} {xs:List V} {cs:List (Int×Int)} (h:SqS K H q [.int a,.int b]) (t:CellsAt K H xs cs):CellsAt K H (.ref q::xs) ((a,b)::cs)
def zU(K:Frag)(H:Hp)(v:V)(r:Rw):Prop:=∃ p b cs,v=.ref p/\SqS K H p [r.l.v,.ref b,r.r.v]/\SqS K H b cs/\CellsAt K H cs r.c
inductive RowsAt(K:Frag)(H:Hp):List V->List Rw->Prop
 | nil:RowsAt K H [] []
 | cons {v:V} {r:Rw} {xs:List V} {rs:List Rw} (h:zU K H v r) (t:RowsAt K H xs rs):RowsAt K H (v::xs) (r::rs)
section
variable{K:Frag}{H H':Hp}
theorem CellsAt.same(e:aO H H'):∀ {xs:List V} {cs:List (Int×Int)},CellsAt K H xs cs->CellsAt K H' xs cs
 | _,_,.nil=>.nil
 | _,_,.cons h t=>.cons (h.same e) (t.same e)
theorem CellsAt.len:∀ {xs:List V} {cs:List (Int×Int)},CellsAt K H xs cs->xs.length=cs.length
 | _,_,.nil=>rfl
 | _,_,.cons h t=>by simp[t.len]
theorem zU.same(e:aO H H'){v:V}{r:Rw}(h:zU K H v r):zU K H' v r:=by
 obtain ⟨p,b,cs,h1,h2,c,a⟩:=h
 exact ⟨p,b,cs,h1,h2.same e,c.same e,a.same e⟩
theorem RowsAt.same(e:aO H H'):∀ {xs:List V} {rs:List Rw},RowsAt K H xs rs->RowsAt K H' xs rs
 | _,_,.nil=>.nil
 | _,_,.cons h t=>.cons (h.same e) (t.same e)
theorem RowsAt.len:∀ {xs:List V} {rs:List Rw},RowsAt K H xs rs->xs.length=rs.length
 | _,_,.nil=>rfl
 | _,_,.cons h t=>by simp[t.len]
end
noncomputable def Tn.ok:Tn->Prop
 | .n _=>True
 | .w x=>PyData.strOk x=true
def Rw.ok(r:Rw):Prop:=r.l.ok/\r.r.ok
theorem xE:∀ {xs:List PyData},(∀ x∈xs,x.canLay0=true)->PyData.canLayAll0 xs=true
 | [],_=>by rfl
 | x::t,h=>by
  show (x.canLay0 && PyData.canLayAll0 t)=true
  rw[h x (AX ..),xE fun y a=>h y (AM _ a)];rfl
theorem rO{n:Nat}:∀ {xs:List PyData},(∀ x∈xs,x.depth<=n)->PyData.depthAll xs<=n
 | [],_=>CN _
 | x::t,h=>by
  show max x.depth (PyData.depthAll t)<=n
  exact Nat.max_le.mpr ⟨h x (AX ..),rO fun y a=>h y (AM _ a)⟩
def Sh(n:Nat)(d:PyData):Prop:=d.canLay0=true/\d.depth<=n
theorem aAP{n:Nat}{xs:List PyData}(h:∀ x∈xs,Sh n x):Sh (n+1) (.tuple xs):=⟨xE fun x a=>(h x a).1,by
 have:=rO fun x a=>(h x a).2
 show PyData.depthAll xs+1<=n+1
 omega⟩
theorem aO9{n:Nat}{xs:List PyData}(h:∀ x∈xs,Sh n x):Sh (n+1) (.list xs):=⟨xE fun x a=>(h x a).1,by
 have:=rO fun x a=>(h x a).2
 show PyData.depthAll xs+1<=n+1
 omega⟩
theorem aAQ(n:Nat)(i:Int):Sh n (.int i):=⟨rfl,CN _⟩
theorem vQ(n:Nat){x:Str}(h:PyData.strOk x=true):Sh n (.str x):=⟨h,CN _⟩
theorem aK1(n:Nat){t:Tn}(h:t.ok):Sh n t.d:=by
 cases t with
 | n i=>exact aAQ n i
 | w x=>exact vQ n h
theorem Sh.shaped{n:Nat}{d:PyData}(h:Sh n d)(a:n<=64):SeqAt.shaped d=true:=by
 show (d.canLay0 && decide (d.depth<=64))=true
 rw[h.1,A3 (BJ h.2 a)];rfl
section
variable{K:Frag}{H:Hp}{p q:Addr}{xs ys:List V}{o:HO}
inductive NoL:PyData->Prop where
 | int (i:Int):NoL (.int i)
 | str (i:Str):NoL (.str i)
 | tup {ds:List PyData} (h:∀ d∈ds,NoL d):NoL (.tuple ds)
end
section
variable{K:Frag}{H:Hp}
theorem cells_of:∀ {xs:List V} {cs:List (Int×Int)},DatVs K H xs (cs.map d4)->CellsAt K H xs cs
 | xs,[],h=>by obtain rfl:=h.nil_of;exact .nil
 | xs,c::cs,h=>by
  obtain ⟨x,t,rfl,h1,h2⟩:=h.cons_of
  obtain ⟨a,ys,rfl,b,i⟩:=h1.tup_of
  obtain ⟨j,t0,rfl,g,e⟩:=i.cons_of
  obtain ⟨k,l,rfl,d,f⟩:=e.cons_of
  obtain rfl:=f.nil_of
  obtain rfl:=g.int_of
  obtain rfl:=d.int_of
  exact .cons (.inr b) (cells_of h2)
end
section
variable{K:Frag}{h:Heap}{mg:Str->Option Value}
theorem b9{x:Str}{st:Stmt}{ps:List Str}{f:Addr}{i:Value}{od g:Option Addr}{e:Array (Option Value)}{kV doc pm d ct:Value}(X:K.In h)(G:h.Ns mainGlobals mg)
  (a:PySem.W.nsIn K mainGlobals x=some (some (.ref f))) (l:K.lookup f=some ⟨i,od,.func (PySem.W.fnOf x x (dY st) (cL st) (aL st) .none kV doc pm g d ct),e⟩)
  (c:PySem.W.codeIn K d x=true) (k:PySem.W.keepIn K (.ref f)=true)
  (b:∀ (kV doc pm:Value) (g:Option Addr) (d ct:Value) (us:List Value),us.length=ps.length->bindArgs (PySem.W.fnOf x x (dY st) (cL st) (aL st) .none kV doc pm g d ct) ⟨us,[]⟩=pure (ps.zip us)):DefAt K mg x st ps:=by
 have F:=aAD (st:=st) l c k
 exact ⟨f,_,F,F.binds b,DQ X G a⟩
end
section
variable{K:Frag}{h:Heap}{mg:Str->Option Value}
theorem aDG{W C N:Addr}{bs sub:List Value}{nm q:Str}{ab:Bool}{sn:List Str}{col:Option Bool}{dd:Option Addr}{k0 k1 k2 k3 k5:Option Value}(l:K.lookup C=some (excClassObj nm q C N bs (.ref W::SX.jE) true sn sub ab col dd k0 k1 k2 k3 k5 "ValueError.__new__"))
 (d:PySem.W.findIn K (.ref C) "__setattr__"=some (some (.builtin "object.__setattr__"))) (e:PySem.W.findIn K (.ref C) "__getattribute__"=some (some (.builtin "BaseException.__getattribute__"))) (c:PySem.W.findIn K (.ref C) "__getattr__"=some none) (cl:PySem.W.findIn K (.ref C) "__class__"=some (some (.builtin "object.__class__")))
 (b:PySem.W.specialIn K (.builtin "object.__class__") "__get__"=some (some (.builtin "getset_descriptor.__get__"))) (a:PySem.W.takesIn K (.builtin "object.__class__")=some true) (f:PySem.W.keepIn K (.ref C)=true):SX.ExcC K W C:=⟨⟨_,_,_,_,_,_,_,_,_,_,_,_,_,_,l⟩,d,e,c,cl,b,a,f⟩
end
noncomputable def cH(n c:Nat):Bool:=decide (97<=c/\c < 97+n)
noncomputable def mF(n:Nat):Nat->List Nat->Option Nat
 | _,[]=>none
 | i,c::t=>if cH n c=true then mF n (i+1) t else some i
theorem vR(n i c:Nat)(t:List Nat):mF n i (c::t)=if cH n c=true then mF n (i+1) t else some i:=rfl
theorem occ_one(x:Str)(c:Nat):(Builtin.Str.occurrences x ⟨#[c]⟩ 0 x.length 1=[]/\∀ i:Nat,x.cps.toList[i]? ≠ some c)\/∃ (i:Nat) (r:List Nat),Builtin.Str.occurrences x ⟨#[c]⟩ 0 x.length 1=i::r/\x.cps.toList[i]? = some c/\∀ k:Nat,k < i->x.cps.toList[k]? ≠ some c:=by
 rcases StrLaws.occ_head x ⟨#[c]⟩ 1 (AG _) with ⟨h1,h2⟩|⟨i,r,h1,h2,b⟩
 · exact .inl ⟨h1, fun i e => h2 i ((FT x c i).mpr e)⟩
 · exact .inr ⟨i, r, h1, (FT x c i).mp h2, fun k a e => b k a ((FT x c k).mpr e)⟩
theorem aDH{n:Nat}(h1:1<=n)(h2:n<=3):(Txt.slice "abc" none (some (n:Int))).cps.toList=[97,98,99].take n:=by
 obtain rfl|rfl|rfl:n=1\/n=2\/n=3:=by omega
 all_goals decide +kernel
theorem yS{n c:Nat}(h1:1<=n)(h2:n<=3):cH n c=true↔∃ i:Nat,(([97,98,99]:List Nat).take n)[i]? = some c:=by
 unfold cH
 rw[decide_eq_true_iff]
 constructor
 ·intro h
  refine ⟨c - 97,?_⟩
  obtain rfl|rfl|rfl:n=1\/n=2\/n=3:=by omega
  ·obtain rfl:c=97:=by omega
   rfl
  ·obtain rfl|rfl:c=97\/c=98:=by omega
   all_goals rfl
  ·obtain rfl|rfl|rfl:c=97\/c=98\/c=99:=by omega
   all_goals rfl
 ·rintro ⟨i,e⟩
  obtain ⟨hi,b⟩:=AI.mp e
  have a:=EW hi
  rw[b] at a
  obtain rfl|rfl|rfl:n=1\/n=2\/n=3:=by omega
  all_goals
   simp at a
   omega
theorem aI7{n c:Nat}(h1:1<=n)(h2:n<=3):(!(!(Builtin.Str.occurrences (Txt.slice "abc" none (some (n:Int))) ⟨#[c]⟩ 0 (Txt.slice "abc" none (some (n:Int))).length 1).isEmpty)) = !cH n c:=by
 have e:=aDH h1 h2
 rcases occ_one (Txt.slice "abc" none (some (n:Int))) c with ⟨a,b⟩|⟨i,r,a,b,_⟩
 ·rw[a]
  have:cH n c=false:=Bool.eq_false_iff.mpr fun z=>by
   obtain ⟨i,hi⟩:=(yS h1 h2).mp z
   rw[e] at b
   exact b i hi
  rw[this];rfl
 ·rw[a]
  rw[e] at b
  rw[(yS h1 h2).mpr ⟨i,b⟩];rfl
theorem aG1{c:Nat}(h:cH 3 c=true):∃ r,Builtin.Str.occurrences "abc" ⟨#[c]⟩ 0 ("abc":Str).length 1=(c - 97)::r:=by
 have h:=BY h
 refine ⟨[],?_⟩
 obtain rfl|rfl|rfl:c=97\/c=98\/c=99:=by omega
 all_goals decide +kernel
end Mc
namespace L2
open PySem PySem.Spec PyProof.Rows
section
variable{κ:Type}[DecidableEq κ]
theorem jD.getD{o:Option V}{u:Option Value}{d:V}{d':Value}(r:jD o u)(a:bJ d d'):bJ (o.getD d) (u.getD d'):=by
 cases o with
 | none=>cases u with
  | none=>exact a
  | some _=>exact (show False from r).elim
 | some _=>cases u with
  | none=>exact (show False from r).elim
  | some _=>exact r
theorem KV.length{a:List (κ×V)}{vs:List (κ×Value)}(r:KV a vs):a.length=vs.length:=FH r
end
theorem aK2{P:Program}{w:World}{k:Key}{u:Value}(r:bJ (kV k) u):(eD P w).is k u=true:=by
 cases k with
 | inl i=>obtain ⟨t,e⟩:=(show ∃ t,u=Value.int i t from r);subst e;exact aCW P w i t
 | inr x=>obtain ⟨t,e⟩:=(show ∃ t,u=Value.str x t from r);subst e;exact aCX P w x t
section
variable{X:Cx}{pins:List (Addr×Obj)}{σ:St}{H:Hp}{s:Shared}{a:Addr}{y v:V}{u r:Value}{o:Option V}{A:Around}{E:Value->Shared->Prop}
theorem Inv.big(I:Inv X pins σ H s):sysModules < s.heap.objs.size:=by
 have h:mainGlobals < s.heap.objs.size:=(I.mod.glob.keeps I.bk).lt
 exact Nat.lt_trans (by decide) h
theorem tG{h':Heap}{t':Nat}{c:HO}(I:Inv X pins σ H s)(h:Mut (H a))(g:Heap.SameBut a s.heap h')(f:∃ q,h'.get? a=some q)(new:cN X.prog X.w (upd H a c) h' a c) :
  Inv X pins σ (upd H a c) {s with heap:=h',toks:=t'}:=
 I.write (x:=a) (e:=a) h (.inl rfl) (fun b q d z=>(g.2 b d).trans z) f new
end
def aPA(i:Expr):Prop:=∀ ov iv,subscripted i false ov iv=operate [ov,iv] (getItem ov iv)
theorem aL0{prog:Program}{w:World}{A:Around}{E:Value->Shared->Prop}{s:Shared}{env:Env}{value a:Expr}{pos:Pos}{T id:String}{Q:Value->Shared->Prop}
  (j:typeLookup (.type T) "__getitem__"=pure (some (.builtin id))) (k:aPA a)
  (h:wpAny (model prog w) A (eval value env) (fun o s₁=>wpAny (model prog w) A (eval a env) (fun i s₂=>s₂.TypeIs o T/\wpAny (model prog w) A (getItem o i) Q E s₂) E s₁) E s) :
  wpAny (model prog w) A (eval (.Subscript value a pos) env) Q E s:=by
 refine Subscript_ (BU h (fun o s₁ e=>BU e (fun i s₂ b=>?_) fun _ _ x=>x) fun _ _ x=>x)
 obtain ⟨g,b⟩:=b
 unfold subscriptTail
 refine AA ?_
 rw[getitemInPython_of_ne g.not_modules]
 refine AA (GH g j ?_)
 have d:wpAny (model prog w) A (subscripted a false o i) (fun r c=>wpAny (model prog w) A (letTemporaryGo value o r >>= fun _=>pure r) Q E c) E s₂:=by
  rw[k o i]
  exact wpAny_operating (BU b (fun r c f=>AA (wpAny_letTemporaryGo (AC f))) fun _ _ x=>x)
 first
  | exact AC (AA d)
  | exact AA (AC (AA d))
  | exact AA d
structure M1(X:Cx)(o:Expr)(m:Str)(apos:Pos)(e:Expr)(cpos:Pos):Prop where
 base:attributeBase o m X.env (eval o X.env)=eval o X.env
 few:((backTo cpos (starEach [e] X.env)).all (fun x=>!x.1) && (backToKw cpos (keywordEach [] X.env)).all (fun x=>x.1.isSome)
  && decide (([e]:List Expr).length+([]:List Keyword).length+(if ([]:List Keyword).isEmpty then 0 else 1) < 30))=true
 line:(apos.endLine == cpos.line)=true
 trees:backTo cpos (starEach [e] X.env)=[(false,eval e X.env)]
structure M2(X:Cx)(o:Expr)(m:Str)(apos:Pos)(e f:Expr)(cpos:Pos):Prop where
 base:attributeBase o m X.env (eval o X.env)=eval o X.env
 few:((backTo cpos (starEach [e,f] X.env)).all (fun x=>!x.1) && (backToKw cpos (keywordEach [] X.env)).all (fun x=>x.1.isSome)
  && decide (([e,f]:List Expr).length+([]:List Keyword).length+(if ([]:List Keyword).isEmpty then 0 else 1) < 30))=true
 line:(apos.endLine == cpos.line)=true
 trees:backTo cpos (starEach [e,f] X.env)=[(false,eval e X.env),(false,eval f X.env)]
def aAR(K:Frag)(H:Hp)(ks:List (List Key×Addr)):Prop:=∀ p∈ks,SqT K H p.2 (p.1.map kV)
theorem aAR.same{K:Frag}{H H':Hp}{ks:List (List Key×Addr)}(e:aO H H')(h:aAR K H ks):aAR K H' ks:=fun p a=>SqT.same e (h p a)
end L2
namespace Mc
open PySem L2 PyProof.Rows
def Tn.good(n:Int):Tn->Prop
 | .n i=>0<=i/\i < n
 | .w x=>x="by"\/x="out"
def nX(n:Int)(c:Int×Int):Prop:=0<=c.1/\c.1 < n/\(c.2=1\/c.2 = -1)
def Rw.good(n:Int)(r:Rw):Prop:=r.l.good n/\r.r.good n/\∀ c∈r.c,nX n c
theorem Tn.good.ok{n:Int}{t:Tn}(h:t.good n):t.ok:=by
 cases t with
 | n i=>trivial
 | w x=>
  rcases h with rfl|rfl
  · exact (show PyData.strOk _ = true by decide +kernel)
  · exact (show PyData.strOk _ = true by decide +kernel)
theorem Rw.good.ok{n:Int}{r:Rw}(h:r.good n):r.ok:=⟨h.1.ok,h.2.1.ok⟩
structure Mach(rs:List Rw)(sg:Nat):Prop where
 len:1<=rs.length
 len2:rs.length<=1000
 sg1:1<=sg
 sg3:sg<=3
 row:∀ r∈rs,r.good rs.length/\r.c.length=sg
def bC(sg:Nat)(z:List Nat):Prop:=z.length<=1000/\∀ c∈z,cH sg c=true
theorem aAS{sg:Nat}:∀ {z:List Nat} {i:Nat},(∀ c∈z,cH sg c=true)->mF sg i z=none
 | [],_,_=>rfl
 | c::t,i,h=>by
  rw[vR,AD (h c (by simp))]
  exact aAS fun x a=>h x (by simp[a])
noncomputable def bA(rs:List Rw)(q:Int):Rw:=rs.getD q.toNat ⟨.n 0,[],.n 0⟩
noncomputable def bY(rs:List Rw)(z:List Nat)(st:Int×Int):Tn×Int:=
 if st.1=0 then ((bA rs st.2).l,1) else if st.1=(z.length:Int)+1 then ((bA rs st.2).r,-1) else
  (.n ((bA rs st.2).c.getD (z.getD (st.1.toNat - 1) 97 - 97) (0,0)).1,((bA rs st.2).c.getD (z.getD (st.1.toNat - 1) 97 - 97) (0,0)).2)
def eI(rs:List Rw)(z:List Nat)(st:Int×Int):Option (Int×Int):=
 match (bY rs z st).1 with
 | .w _=>none
 | .n q=>some (st.1+(bY rs z st).2,q)
def j5(rs:List Rw)(z:List Nat)(st:Int×Int):Prop:=0<=st.1/\st.1<=(z.length:Int)+1/\0<=st.2/\st.2 < (rs.length:Int)
theorem eF{rs:List Rw}{q:Int}(h0:0<=q)(h1:q < rs.length):rs[q.toNat]? = some (bA rs q):=by
 have h:q.toNat < rs.length:=by omega
 unfold bA
 rw[A5,AN h];rfl
theorem aDI{rs:List Rw}{sg:Nat}{z:List Nat}{st:Int×Int}(S:bC sg z)(V:j5 rs z st)(h0:st.1≠0)(h1:st.1≠(z.length:Int)+1):∃ c,z[st.1.toNat - 1]? = some c/\cH sg c=true/\z.getD (st.1.toNat - 1) 97=c:=by
 obtain ⟨a,b,_,_⟩:=V
 have d:st.1.toNat - 1 < z.length:=by omega
 refine ⟨z[st.1.toNat - 1],by simp[d],S.2 _ (EW d),by rw[A5,AN d];rfl⟩
theorem aAT{rs:List Rw}{sg:Nat}{z:List Nat}{st:Int×Int}(M:Mach rs sg)(S:bC sg z)(V:j5 rs z st)(h0:st.1≠0)(h1:st.1≠(z.length:Int)+1) :
  ∃ c,(bA rs st.2).c[z.getD (st.1.toNat - 1) 97 - 97]? = some c/\(bA rs st.2).c.getD (z.getD (st.1.toNat - 1) 97 - 97) (0,0)=c/\nX rs.length c:=by
 obtain ⟨c,_,b,e⟩:=aDI S V h0 h1
 rw[e]
 have b:=BY b
 have d:=M.row _ (AL (eF V.2.2.1 V.2.2.2))
 have a:c - 97 < (bA rs st.2).c.length:=by rw[d.2];omega
 refine ⟨(bA rs st.2).c[c - 97],by simp[a],by rw[A5,AN a];rfl,d.1.2.2 _ (EW a)⟩
theorem vS{rs:List Rw}{sg:Nat}{z:List Nat}{st st':Int×Int}(M:Mach rs sg)(S:bC sg z)(V:j5 rs z st)(h:eI rs z st=some st'):j5 rs z st':=by
 have j:=M.row _ (AL (eF V.2.2.1 V.2.2.2))
 obtain ⟨a,b,c,d⟩:=id V
 unfold eI bY at h
 by_cases i:st.1=0
 ·simp only[AD i] at h
  have g:=j.1.1
  cases e:(bA rs st.2).l with
  | w x=>rw[e] at h;cases h
  | n q=>
   rw[e] at h g
   cases h
   exact ⟨by show 0<=st.1+1;omega,by show st.1+1<=_;omega,g.1,g.2⟩
 ·by_cases h1:st.1=(z.length:Int)+1
  ·simp only[AE i,AD h1] at h
   have g:=j.1.2.1
   cases e:(bA rs st.2).r with
   | w x=>rw[e] at h;cases h
   | n q=>
    rw[e] at h g
    cases h
    exact ⟨by show 0<=st.1 + -1;omega,by show st.1 + -1<=_;omega,g.1,g.2⟩
  ·obtain ⟨k,_,e,g⟩:=aAT M S V i h1
   simp only[AE i,AE h1] at h
   rw[e] at h
   cases h
   obtain ⟨m,o,f⟩:=g
   refine ⟨?_,?_,m,o⟩
   ·show 0<=st.1+k.2;rcases f with f|f<;>omega
   ·show st.1+k.2<=_;rcases f with f|f<;>omega
theorem rP:∀ (N:Nat) (l:List Nat),l.Nodup->(∀ x∈l,x < N)->l.length<=N
 | 0,l,_,h=>by
  cases l with
  | nil=>exact AG _
  | cons a t=>exact absurd (h a (by simp)) (by omega)
 | N+1,l,hn,h=>by
  have ih:=rP N (l.erase N) (hn.erase N) (fun x b=>by
   have:=(hn.mem_erase_iff).mp b
   have h2:=h x this.2
   omega)
  have:=List.length_erase (a:=N) (l:=l)
  split at this<;>omega
theorem p8{rs:List Rw}{z:List Nat}{l:List (Int×Int)}(k:l.Nodup)(f:∀ st∈l,j5 rs z st):l.length<=(z.length+2) * rs.length:=by
 have h:=rP ((z.length+2) * rs.length) (l.map fun st=>st.1.toNat * rs.length+st.2.toNat) ?_ ?_
 ·rw[AB] at h;exact h
 ·unfold List.Nodup
  rw[List.pairwise_map]
  refine GB (fun {a b} ha hb hab e=>hab ?_) k
  obtain ⟨j,m,o,n⟩:=f a ha
  obtain ⟨r,s,t,q⟩:=f b hb
  have i:0 < rs.length:=by omega
  have e1:(a.1.toNat * rs.length+a.2.toNat) / rs.length=(b.1.toNat * rs.length+b.2.toNat) / rs.length:=by rw[e]
  have e2:(a.1.toNat * rs.length+a.2.toNat) % rs.length=(b.1.toNat * rs.length+b.2.toNat) % rs.length:=by rw[e]
  have d:a.2.toNat < rs.length:=by omega
  have c:b.2.toNat < rs.length:=by omega
  rw[E4,Nat.mul_add_div i,E4 b.1.toNat,Nat.mul_add_div i,Nat.div_eq_of_lt d,Nat.div_eq_of_lt c] at e1
  rw[E4,Nat.mul_add_mod,E4 b.1.toNat,Nat.mul_add_mod,Nat.mod_eq_of_lt d,Nat.mod_eq_of_lt c] at e2
  exact Prod.ext (by omega) (by omega)
 ·intro x p
  obtain ⟨st,g,rfl⟩:=BA.mp p
  obtain ⟨j,m,o,n⟩:=f st g
  have h1:st.1.toNat+1<=z.length+2:=by omega
  have h2:st.2.toNat < rs.length:=by omega
  calc st.1.toNat * rs.length+st.2.toNat < st.1.toNat * rs.length+rs.length:=by omega
   _=(st.1.toNat+1) * rs.length:=by rw[Nat.add_mul];omega
   _<=(z.length+2) * rs.length:=Nat.mul_le_mul_right _ h1
noncomputable def tH(rs:List Rw)(z:List Nat):Nat->List (Int×Int)->Int×Int->List (Int×Int)
 | 0,ps,st=>ps++[st]
 | k+1,ps,st=>if st∈ps then ps++[st] else match eI rs z st with
  | none=>ps++[st]
  | some st'=>tH rs z k (ps++[st]) st'
def lA(rs:List Rw)(z:List Nat):Nat:=(z.length+2) * rs.length
def nI(rs:List Rw)(z:List Nat):List (Int×Int):=tH rs z (lA rs z) [] (0,0)
structure Way(rs:List Rw)(z:List Nat)(ps:List (Int×Int))(st:Int×Int)(k:Nat):Prop where
 nd:ps.Nodup
 val:∀ s∈ps++[st],j5 rs z s
 num:ps.length+k=lA rs z
 res:tH rs z k ps st=nI rs z
theorem Way.start{rs:List Rw}{sg:Nat}{z:List Nat}(M:Mach rs sg):Way rs z [] (0,0) (lA rs z) where
 nd:=D1
 val:=fun s a=>by
  obtain rfl:s=(0,0):=by simpa using a
  have:=M.len
  exact ⟨DH _,by show (0:Int)<=_;omega,DH _,by show (0:Int) < _;omega⟩
 num:=by simp
 res:=rfl
theorem Way.here{rs:List Rw}{z:List Nat}{ps:List (Int×Int)}{st:Int×Int}{k:Nat}(W:Way rs z ps st k):j5 rs z st:=W.val st (by simp)
theorem Way.stop{rs:List Rw}{z:List Nat}{ps:List (Int×Int)}{st:Int×Int}{k:Nat}(W:Way rs z ps st k)(h:st∈ps):ps++[st]=nI rs z:=by
 rw[<-W.res]
 cases k with
 | zero=>rfl
 | succ k=>unfold tH;rw[AD h]
theorem Way.more{rs:List Rw}{z:List Nat}{ps:List (Int×Int)}{st:Int×Int}{k:Nat}(W:Way rs z ps st k)(h:st∉ps):∃ j,k=j+1:=by
 have d:(ps++[st]).Nodup:=by
  rw[C2]
  exact ⟨W.nd,by simp,fun a g b c e=>by rw[AV.mp c] at e;exact h (e▸g)⟩
 have:=p8 d W.val
 rw[A0] at this
 have f:=W.num
 unfold lA at f
 simp only[AW,A8] at this
 exact ⟨k - 1,by omega⟩
theorem Way.ends{rs:List Rw}{z:List Nat}{ps:List (Int×Int)}{st:Int×Int}{k:Nat}(W:Way rs z ps st k)(h:st∉ps)(e:eI rs z st=none):ps++[st]=nI rs z:=by
 obtain ⟨j,rfl⟩:=W.more h
 rw[<-W.res]
 unfold tH
 rw[AE h,e]
theorem Way.next{rs:List Rw}{sg:Nat}{z:List Nat}{ps:List (Int×Int)}{st st':Int×Int}{k:Nat}(M:Mach rs sg)(S:bC sg z)(W:Way rs z ps st (k+1))(h:st∉ps)(e:eI rs z st=some st'):Way rs z (ps++[st]) st' k where
 nd:=by
  rw[C2]
  exact ⟨W.nd,by simp,fun a f b c e=>by rw[AV.mp c] at e;exact h (e▸f)⟩
 val:=fun s d=>by
  rcases BR.mp d with q|q
  · exact W.val s q
  · rw [AV.mp q]; exact vS M S W.here e
 num:=by rw[A0];have:=W.num;simp;omega
 res:=by
  rw[<-W.res]
  conv=>rhs;unfold tH
  rw[AE h,e]
end Mc
namespace L2
open PySem PySem.Spec PyProof.Rows
theorem pC:∀ {ys:List Str} {us:List Value},bT (ys.map V.str) us->StrsAre us ys
 | [],_,.nil=>.nil
 | y::ys,_,.cons r t=>by obtain ⟨t',rfl⟩:=r;exact .cons y t' (pC t)
def aK3(K:Frag):V->List V->Hp->VK->Prop:=fun x vs H Q=>∃ (sep:Str) (a:Addr) (ys:List Str),x=.str sep/\vs=[.ref a]/\SqL K H a (ys.map V.str)/\(ys.map fun y=>y.length).sum+ys.length * sep.length<=16777216/\Q (.str (Txt.join sep ys)) H
theorem aL1{X:Cx}:MtR X "str.join" (aK3 X.K):=by
 intro pins s σ H x vs v us Q I j e h
 obtain ⟨d,a,ys,rfl,rfl,i,c,q⟩:=h
 obtain ⟨t,rfl⟩:=j
 obtain ⟨u,rfl,g⟩:=e.one
 cases (show u=Value.ref a from g)
 obtain ⟨b,r,f,_⟩:=I.list i
 exact join_list (items:=b.toArray) f.isList (by simpa using pC r) c fun l k=>⟨.str _,H,I.tok _,⟨_,rfl⟩,q⟩
end L2
namespace Mc
open PySem L2 PyProof.Rows
noncomputable def one(c:Nat):Str:=⟨#[c]⟩
theorem aG2(cs:List Nat):∀ (a:Array Nat),(List.foldl (fun acc p=>acc++("":Str).cps++p.cps) a (cs.map one)).toList=a.toList++cs:=by
 induction cs with
 | nil=>intro a;simp
 | cons c t ih=>
  intro a
  rw[AT,E5,ih]
  have:("":Str).cps = #[]:=rfl
  rw[this]
  simp[one]
theorem aI8(cs:List Nat):(Txt.join "" (cs.map one)).cps.toList=cs:=by
 unfold Txt.join Builtin.Str.glued
 cases cs with
 | nil=>rfl
 | cons c t=>
  show (List.foldl _ (one c).cps (t.map one)).toList=_
  rw[aG2];rfl
theorem aL2(cs:List Nat):((cs.map one).map fun y=>y.length).sum=cs.length:=by
 induction cs with
 | nil=>rfl
 | cons c t ih=>rw[AT,AT,List.sum_cons,ih,AW];show 1+_=_;omega
theorem aL3{x y:Str}(h:x.cps.toList=y.cps.toList):x=y:=by
 cases x;cases y
 simp only[Str.mk.injEq]
 exact Array.toList_inj.mp h
theorem aL4(cs:List Nat):Txt.join "" (cs.map one)=⟨cs.toArray⟩:=aL3 (by rw[aI8])
theorem aL5{k:Int}{sg:Nat}(h1:1<=sg)(d:sg<=3):∃ c,atI ("abc":Str).cps.toList (k % (sg:Int))=some c/\cH sg c=true:=by
 have a:=CS k (show (sg:Int)≠0 by omega)
 have h2:=CG k (show (0:Int) < sg by omega)
 obtain ⟨j,b⟩:∃ j:Nat,k % (sg:Int)=j:=⟨(k % (sg:Int)).toNat,by omega⟩
 rw[b] at a h2 ⊢
 refine ⟨97+j,?_,A3 (by omega)⟩
 obtain rfl|rfl|rfl:j=0\/j=1\/j=2:=by omega
 all_goals decide +kernel
section
variable{S O:Type}
inductive Ex(st:S->Option (S⊕O)):Nat->S->O->Prop
 | out {s:S} {o:O} (h:st s=some (.inr o)):Ex st 0 s o
 | go {s s':S} {o:O} {n:Nat} (h:st s=some (.inl s')) (t:Ex st n s' o):Ex st (n+1) s o
inductive Rc(st:S->Option (S⊕O)):Nat->S->S->Prop
 | nil {s:S}:Rc st 0 s s
 | cons {s s' s'':S} {n:Nat} (h:st s=some (.inl s')) (t:Rc st n s' s''):Rc st (n+1) s s''
variable{st:S->Option (S⊕O)}
theorem Ex.det{n c:Nat}{s:S}{o o':O}(a:Ex st n s o)(b:Ex st c s o'):n=c/\o=o':=by
 induction a generalizing c o' with
 | out h=>
  cases b with
  | out h'=>rw[h] at h';cases h';exact ⟨rfl,rfl⟩
  | go h' t=>rw[h] at h';cases h'
 | go h t ih=>
  cases b with
  | out h'=>rw[h] at h';cases h'
  | go h' t'=>
   rw[h] at h';cases h'
   obtain ⟨e,d⟩:=ih t'
   exact ⟨by omega,d⟩
theorem Rc.ex{k n:Nat}{s s':S}{o:O}(a:Rc st k s s')(b:Ex st n s o):∃ n',n=n'+k/\Ex st n' s' o:=by
 induction a generalizing n with
 | nil=>exact ⟨n,rfl,b⟩
 | cons h t ih=>
  cases b with
  | out h'=>rw[h] at h';cases h'
  | go h' t'=>
   rw[h] at h';cases h'
   obtain ⟨n',e,q⟩:=ih t'
   exact ⟨n',by omega,q⟩
theorem Rc.to{k n:Nat}{s s':S}{o:O}(a:Rc st k s s')(b:Ex st n s' o):Ex st (n+k) s o:=by
 induction a with
 | nil=>exact b
 | cons h t ih=>exact .go h (ih b)
theorem Rc.snoc{k:Nat}{s s' b:S}(a:Rc st k s s')(h:st s'=some (.inl b)):Rc st (k+1) s b:=by
 induction a with
 | nil=>exact .cons h .nil
 | cons h' t ih=>exact .cons h' (ih h)
theorem Rc.round{m n:Nat}{s:S}{o:O}(a:Rc st (m+1) s s):¬ Ex st n s o:=fun b=>by
 obtain ⟨c,e,q⟩:=a.ex b
 have:=(b.det q).1
 omega
def Res(st:S->Option (S⊕O))(s:S)(r:Option O):Prop:=∀ o,r=some o↔∃ n,Ex st n s o
theorem Res.det{s:S}{r c:Option O}(a:Res st s r)(b:Res st s c):r=c:=by
 apply Option.ext
 intro o
 exact (a o).trans (b o).symm
theorem Res.out{s:S}{o:O}(h:st s=some (.inr o)):Res st s (some o):=fun o'=>by
 constructor
 · intro e; cases e; exact ⟨0, .out h⟩
 · rintro ⟨n, q⟩; rw [((Ex.out h).det q).2]
theorem Res.step{s s':S}{r:Option O}(h:st s=some (.inl s'))(a:Res st s' r):Res st s r:=fun o=>by
 rw[a o]
 constructor
 ·rintro ⟨n,q⟩;exact ⟨n+1,.go h q⟩
 ·rintro ⟨n,q⟩
  cases q with
  | out h'=>rw[h] at h';cases h'
  | go h' t=>rw[h] at h';cases h';exact ⟨_,t⟩
theorem Res.round{s:S}{m:Nat}(a:Rc st (m+1) s s):Res st s none:=fun o=>by
 constructor
 · intro e; cases e
 · rintro ⟨n, q⟩; exact absurd q a.round
open Classical in
noncomputable def cC(st:S->Option (S⊕O))(s:S):Option O:=if h:∃ o n,Ex st n s o then some h.choose else none
theorem mR(st:S->Option (S⊕O))(s:S):Res st s (cC st s):=fun o=>by
 unfold cC
 by_cases h:∃ o n,Ex st n s o
 ·rw[dif_pos h]
  obtain ⟨n,q⟩:=h.choose_spec
  constructor
  · intro e; cases e; exact ⟨n, q⟩
  · rintro ⟨n', q'⟩; rw [(q.det q').2]
 ·rw[dif_neg h]
  constructor
  · intro e; cases e
  · rintro ⟨n, q⟩; exact absurd ⟨o, n, q⟩ h
theorem Res.eq{s:S}{r:Option O}(a:Res st s r):r=cC st s:=a.det (mR st s)
theorem uA{a:Type}{st':a->Option (a⊕O)}{s:S}{s':a}(h:∀ o,(∃ n,Ex st n s o)↔∃ n,Ex st' n s' o):cC st s=cC st' s':=
 Option.ext fun o=>((mR st s) o).trans ((h o).trans ((mR st' s') o).symm)
structure Und2(st:S->Option (S⊕O))(s0:S)(ps:List S)(s:S):Prop where
 nd:ps.Nodup
 back:∀ p∈ps,∃ m,Rc st (m+1) p s
 res:∀ r,Res st s r->Res st s0 r
theorem Und2.start{a:S}:Und2 st a [] a:=⟨D1,fun p b=>by simp at b,fun r h=>h⟩
theorem Und2.next{c s s':S}{ps:List S}(U:Und2 st c ps s)(f:s∉ps)(h:st s=some (.inl s')):Und2 st c (ps++[s]) s' where
 nd:=by
  rw[C2]
  exact ⟨U.nd,by simp,fun a i b d e=>by rw[AV.mp d] at e;exact f (e▸i)⟩
 back:=fun p g=>by
  rcases BR.mp g with q|q
  · obtain ⟨m, r⟩ := U.back p q; exact ⟨m + 1, r.snoc h⟩
  · rw [AV.mp q]; exact ⟨0, .cons h .nil⟩
 res:=fun r a=>U.res r (a.step h)
theorem Und2.met{a s:S}{ps:List S}(U:Und2 st a ps s)(h:s∈ps):cC st a=none:=by
 obtain ⟨m,r⟩:=U.back s h
 exact ((U.res _ (Res.round r)).eq).symm
theorem Und2.outs{a s:S}{ps:List S}{o:O}(U:Und2 st a ps s)(h:st s=some (.inr o)):cC st a=some o:=((U.res _ (Res.out h)).eq).symm
end
abbrev Th:=Option (Int×Int)
structure Tb where
 f:List Th
 a:List Th
def aG3(m:Nat):Th->Prop
 | none=>True
 | some (d,q)=>(d=1\/d = -1)/\0<=q/\q < (m:Int)
structure Tb.good(m:Nat)(t:Tb):Prop where
 lf:t.f.length=m
 la:t.a.length=m
 gf:∀ x∈t.f,aG3 m x
 ga:∀ x∈t.a,aG3 m x
def aUL(k n:Int)(s:Int×Int×Int):Int×Int×Int:=(if s.1 < k then s.1 else if s.1=k then (if s.2.1=1 then k else k+n - 1) else s.1+n - 1,s.2.1,s.2.2)
theorem rQ{S:Type}(f:S->Nat)(N:Nat)(l:List S)(g:l.Nodup)(c:∀ s∈l,f s < N)(hi:∀ a∈l,∀ b∈l,f a=f b->a=b):l.length<=N:=by
 have h:=rP N (l.map f) ?_ ?_
 ·rw[AB] at h;exact h
 ·unfold List.Nodup
  rw[List.pairwise_map]
  exact GB (fun {a b} ha hb hab e=>hab (hi a ha b hb e)) g
 ·intro x i
  obtain ⟨s,d,rfl⟩:=BA.mp i
  exact c s d
theorem yT{S O:Type}{st:S->Option (S⊕O)}{s:S}{o:O}(h:st s=some (.inr o)):cC st s=some o:=((Res.out h).eq).symm
end Mc
namespace L2
open PySem PySem.Spec PyProof.Rows
def Its(z:Str):It:=⟨fun i _=>i < z.cps.size,fun i H x H'=>H'=H/\∃ c,z.cps[i]? = some c/\x=.str ⟨#[c]⟩,fun i _=>i=z.cps.size⟩
theorem aAU{P:Program}{w:World}{K:Frag}{tg:Expr}(z:Str)(t:Tok)(T:String)(G:∀ A:Around,A.handled=none->∀ it,Walks P w A it [it] [it] z.cps.size (SignAt z) fun i h=>h.IsStrIter it T z t i)
  (f:∀ (A:Around) (it:Addr) (i:Nat) (s:Shared) (Q E:Value->Shared->Prop),s.heap.IsStrIter it T z t i->Q (.ref it) s->wpAny (model P w) A (pyIter (.ref it)) Q E s)
  (p:["enumerate","zip","dict_itemiterator","dict_reverseitemiterator","odict_iterator","itertools.zip_longest","itertools.pairwise"].contains T=false) (it:Addr):Turn P w K tg (Its z) [it] it (fun i h=>h.IsStrIter it T z t i) where
 mem:=by simp
 obj:=fun i h st b a=>by
  obtain rfl:b=it:=by simpa using a
  obtain ⟨o,e,c,d⟩:=st
  exact ⟨o,e,fun v z=>by rw[d] at z;cases z⟩
 keep:=fun i h h' st k=>by
  obtain ⟨o,e,c,d⟩:=st
  exact ⟨o,k it (by simp) o e,c,d⟩
 item:=by
  intro X u B F y i pins s σ H E I l st j
  subst u B F
  obtain ⟨n,D,M,m,x,q⟩:=l it (by simp)
  refine (G X.A (I.ok.hd y) it).item i s _ E j st fun v h' tk J g C=>?_
  obtain ⟨c,tc,r,rfl⟩:=J
  have N:Inv X pins σ H {s with heap:=h',toks:=tk}:=I.turned (t':=tk) (it:=it) (fun b o a e=>C b o (by simpa using a) e) n D m x q
  obtain ⟨o,e,L,d⟩:=id g
  exact ⟨_,rfl,zQ (s:={s with heap:=h',toks:=tk}) e L d p ⟨.str ⟨#[c]⟩,H,N,⟨_,rfl⟩,⟨rfl,c,r,rfl⟩,g,fun b a=>(l b a).1⟩⟩
 done:=by
  intro X u B F y i pins s σ H E I l st j
  subst u B F
  obtain ⟨n,D,M,m,x,q⟩:=l it (by simp)
  have j:i=z.cps.size:=j
  subst j
  exact (G X.A (I.ok.hd y) it).done s _ E st fun h' tk C=>⟨rfl,I.turned (t':=tk) (it:=it) (fun b o a e=>C b o (by simpa using a) e) n D m x q⟩
 self:=fun A i s Q E st h=>f A it i s Q E st h
def aSR(te:TE):TI:=fun σ H R=>te σ H fun x H1=>∃ z,x=.str z/\R (Its z) H1
theorem aG4{X:Cx}{tg l:Expr}{tl:TE}(p:PE X l tl):PI X tg l (aSR tl):=by
 intro pins s σ H R I h
 refine thn (p pins s σ H _ I h) fun v s1 d=>?_
 obtain ⟨x,H1,g,r1,m⟩:=d
 obtain ⟨z,e,q⟩:=m
 subst e
 obtain ⟨t,rfl⟩:=r1
 refine wpAny_pyIter_strU ?_
 have c:Inv X pins σ H1 {s1 with heap:=s1.heap.push {cls:=.type (strIterType z),data:=.fields #[.str z t,.int 0 0]}}:=g.kept (t':=s1.toks) fun b o e=>AJ _ e
 have st:(s1.heap.push {cls:=.type (strIterType z),data:=.fields #[.str z t,.int 0 0]}).IsStrIter s1.heap.objs.size (strIterType z) z t 0:=⟨_,A9 _ rfl,rfl,rfl⟩
 have a:∀ b∈[s1.heap.objs.size],lP X pins H1 b:=fun b n=>by
  obtain rfl:=AV.mp n
  exact g.fpOk (AG _) (g.hok.fresh (AG _))
 by_cases k:(z.cps.all fun x=>decide (x < 128))=true
 ·have j:strIterType z="str_ascii_iterator":=by unfold strIterType;rw[AD k]
  rw[j] at st c ⊢
  exact ⟨s1.heap.objs.size,[s1.heap.objs.size],_,_,H1,rfl,c,aAU z t "str_ascii_iterator" (fun A f it=>Walks.strAscii f it z t) (fun A it i s Q E st h=>wpAny_pyIter_striter_ascii st h) (by decide) _,st,a,q⟩
 ·have j:strIterType z="str_iterator":=by unfold strIterType;rw[AE k]
  rw[j] at st c ⊢
  exact ⟨s1.heap.objs.size,[s1.heap.objs.size],_,_,H1,rfl,c,aAU z t "str_iterator" (fun A f it=>Walks.strWide f it z t) (fun A it i s Q E st h=>wpAny_pyIter_striter_wide st h) (by decide) _,st,a,q⟩
theorem aDJ:∀ {xs:List V} {ys:List Value},xs.length=ys.length->(∀ (i:Nat) x y,xs[i]? = some x->ys[i]? = some y->bJ x y)->bT xs ys
 | [],[],_,_=>.nil
 | [],_::_,h,_=>by simp at h
 | _::_,[],h,_=>by simp at h
 | x::xs,y::ys,h,f=>.cons (f 0 x y rfl rfl) (aDJ (by simpa using h) fun i a b h1 h2=>f (i+1) a b (by simpa using h1) (by simpa using h2))
structure InK(env:Env)(s₀:Shared)(m cm:Str->Option Value)(s:Shared):Prop where
 ic:InCall s₀ env.locals m s
 cell:∀ n c,env.cells.lookup n=some c->s.heap.IsCell c (cm n)
 inj:∀ n n' c,env.cells.lookup n=some c->env.cells.lookup n'=some c->n=n'
 ne:∀ n c,env.cells.lookup n=some c->c≠env.locals
 up:∀ n c,env.kindOf n=some .cell->env.cells.lookup n=some c->env.locals < c
section
variable{M:Model}{A:Around}{E:Value->Shared->Prop}{s₀ s:Shared}{m cm:Str->Option Value}{env:Env}
theorem InK.stL{n:Str}{v:Value}{Q:Unit->Shared->Prop}(x:InK env s₀ m cm s)(j:env.scope.kind=.function)(i:env.kindOf n=some .local)
  (h:∀ s',InK env s₀ (fun y=>if y=n then some v else m y) cm s'->Q () s'):wpAny M A (storeName env n v) Q E s:=by
 refine wpAny_storeName_local i x.ic.ns (fun h' d a=>h _ ⟨⟨?_,d,fun b o e=>?_,x.ic.fresh⟩,fun k c g=>?_,x.inj,x.ne,x.up⟩) (by rw[j];rfl)
 ·obtain ⟨f,tk,rfl⟩:=x.ic.same
  exact ⟨h',_,rfl⟩
 ·exact a.extBut b o (BB (A1 (AS e) x.ic.fresh)) (x.ic.keep b o e)
 ·exact (x.cell k c g).sameBut a (x.ne k c g)
theorem InK.stC{n:Str}{c:Addr}{v:Value}{Q:Unit->Shared->Prop}(x:InK env s₀ m cm s)(r:env.scope.kind=.function)(p:env.kindOf n=some .cell)
  (i:env.cells.lookup n=some c)
  (h:∀ s',InK env s₀ m (fun y=>if y=n then some v else cm y) s'->Q () s'):wpAny M A (storeName env n v) Q E s:=by
 have g:=x.up n c p i
 refine wpAny_storeName_cell r p i (x.cell n c i) fun h' j f=>h _ ⟨⟨?_,x.ic.ns.sameBut f (BB g),fun b o e=>?_,x.ic.fresh⟩,fun k q a=>?_,x.inj,x.ne,x.up⟩
 ·obtain ⟨l,tk,rfl⟩:=x.ic.same
  exact ⟨h',_,rfl⟩
 ·exact f.extBut b o (BB (Nat.lt_trans (A1 (AS e) x.ic.fresh) g)) (x.ic.keep b o e)
 ·by_cases d:k=n
  ·subst d
   rw[i] at a;cases a
   simpa using j
  ·rw[AE d]
   exact (x.cell k q a).sameBut f fun e=>d (x.inj k n q a (e▸i))
theorem InK.binds(f:Str×Value->PUnit->Sem (ForInStep PUnit))(i:∀ n v u,f (n,v) u=(do storeName env n v;pure (.yield ⟨⟩)))(g:env.scope.kind=.function) :
  ∀ (binds:List (Str×Value)) (m cm:Str->Option Value) (s:Shared) (Q:PUnit->Shared->Prop),InK env s₀ m cm s->
   (∀ x∈binds,env.kindOf x.1=some .local\/(env.kindOf x.1=some .cell/\(env.cells.lookup x.1).isSome=true))->
   (∀ s',InK env s₀ (bindL env.kindOf binds m) (bindC env.kindOf binds cm) s'->Q ⟨⟩ s')->wpAny M A (forIn binds ⟨⟩ f) Q E s
 | [],m,cm,s,Q,x,_,h=>by rw[List.forIn_nil];exact AC (h s x)
 | (n,v)::r,m,cm,s,Q,x,hkind,h=>by
  rw[DC,i]
  have hr:∀ y∈r,env.kindOf y.1=some .local\/(env.kindOf y.1=some .cell/\(env.cells.lookup y.1).isSome=true):=fun y l=>hkind y (AM _ l)
  rcases hkind (n,v) AX with d|⟨d,k⟩
  ·refine AA (AA (x.stL g d fun s' j=>AC (InK.binds f i g r _ _ s' Q j hr fun a b=>h a ?_)))
   unfold bindL bindC;rw[AD d,AD d];exact b
  ·obtain ⟨c,k⟩:=FZ.mp k
   have e:¬ env.kindOf n=some .local:=by rw[d];decide
   refine AA (AA (x.stC g d k fun s' j=>AC (InK.binds f i g r _ _ s' Q j hr fun a b=>h a ?_)))
   unfold bindL bindC;rw[AE e,AE e];exact b
end
theorem kW:∀ (names:List (Str×NameKind)) (n:Nat) (acc:List (Str×Addr)),cellsFrom n names acc=cellsFrom n names []++acc
 | [],_,_=>rfl
 | (x,k)::r,n,acc=>by
  unfold cellsFrom
  split
  · rw [kW r (n + 1) ((x, n) :: acc), kW r (n + 1) [(x, n)], List.append_assoc]; rfl
  · exact kW r n acc
theorem oM:∀ (names:List (Str×NameKind)) (n:Nat) {x:Str} {c:Addr},(x,c)∈cellsFrom n names []->(x,NameKind.cell)∈names
 | [],_,_,_,h=>by simp[cellsFrom] at h
 | (y,k)::r,n,x,c,h=>by
  unfold cellsFrom at h
  split at h
  ·rename_i hk
   rw[kW] at h
   rcases BR.mp h with h|h
   ·exact AM _ (oM r _ h)
   ·have:(x,c)=(y,n):=by simpa using h
    cases this
    rw[D5 hk];exact AX
  ·exact AM _ (oM r _ h)
theorem p9{α:Type}{x:Str}:∀ {l l':List (Str×α)},(l++l').lookup x=(l.lookup x).or (l'.lookup x)
 | [],l'=>by simp
 | (y,v)::r,l'=>by
  rw[BO,BG,BG]
  cases x == y with
  | true=>rfl
  | false=>exact p9
theorem aG5{α:Type}{x:Str}{l:List (Str×α)}(h:∀ v,(x,v)∉l):l.lookup x=none:=by
 cases e:l.lookup x with
 | none=>rfl
 | some v=>exact absurd (BE e) (h v)
noncomputable def cY(qual:Str)(scope:Scope)(L f:Addr)(cd:Value)(cl:List (Str×Addr)):Env:=newEnv scope L mainGlobals (cellsFrom (L+1) scope.names cl) (qual++".<locals>.") (some f) cd none builtinsNs
structure ClAt(h:Heap)(scope:Scope)(cl:List (Str×Addr))(cm:Str->Option Value):Prop where
 cell:∀ n c,cl.lookup n=some c->h.IsCell c (cm n)
 inj:∀ n n' c,cl.lookup n=some c->cl.lookup n'=some c->n=n'
 off:∀ y∈scope.names,y.2=.cell->cl.lookup y.1=none
section
variable{M:Model}{A:Around}{E:Value->Shared->Prop}{s:Shared}
theorem aDK{scope:Scope}{binds:List (Str×Value)}{qual:Str}{f:Addr}{cd:Value}{cl:List (Str×Addr)}{cm:Str->Option Value}{Q:Env->Shared->Prop}
  (w:scope.kind=.function) (C:ClAt s.heap scope cl cm)
  (k:∀ x∈binds,scope.names.lookup x.1=some .local\/scope.names.lookup x.1=some .cell)
  (u:∀ s',InK (cY qual scope s.heap.objs.size f cd cl) s (bindL (cY qual scope s.heap.objs.size f cd cl).kindOf binds fun _=>none) (bindC (cY qual scope s.heap.objs.size f cd cl).kindOf binds fun n=>if (cl.lookup n).isSome then cm n else none) s'->Q (cY qual scope s.heap.objs.size f cd cl) s') :
  wpAny M A (newFunctionEnv scope mainGlobals cl binds (qual++".<locals>.") (some f) cd none builtinsNs) Q E s:=by
 simp only[newFunctionEnv,Option.isSome_none,BS,CH]
 refine AA (wpAny_alloc ?_)
 refine AA (wpAny_layCells _ (fun name kind cells=>by cases l:kind == NameKind.cell<;>simp[l]) _ _ _ _ ?_)
 have ok:=cellsFrom_ok scope.names (s.heap.push {cls:=.type "frame",data:=.dict #[]}) (s.heap.objs.size+1) [] ⟨fun _ _ v=>(nomatch v),List.Pairwise.nil⟩ (by rw[C7];exact AG _)
 rw[C7] at ok
 rw[show ({s with heap:=s.heap.push {cls:=.type "frame",data:=.dict #[]}}:Shared).heap.objs.size=s.heap.objs.size+1 from C7 ..]
 have j:∀ b o,s.heap.get? b=some o->(pushCells (s.heap.push {cls:=.type "frame",data:=.dict #[]}) scope.names).get? b=some o:=fun b o e=>pushCells_keeps _ _ b o (AJ _ e)
 have h:(cY qual scope s.heap.objs.size f cd cl).cells=cellsFrom (s.heap.objs.size+1) scope.names []++cl:=kW _ _ _
 have i:∀ n c,(cY qual scope s.heap.objs.size f cd cl).cells.lookup n=some c->((cellsFrom (s.heap.objs.size+1) scope.names []).lookup n=some c/\cl.lookup n=none)\/((cellsFrom (s.heap.objs.size+1) scope.names []).lookup n=none/\cl.lookup n=some c):=fun n c e=>by
  rw[h,p9] at e
  cases q:(cellsFrom (s.heap.objs.size+1) scope.names []).lookup n with
  | none=>rw[q] at e;exact .inr ⟨rfl,by simpa using e⟩
  | some d=>
   rw[q] at e
   have p:some d=some c:=by simpa using e
   cases p
   exact .inl ⟨rfl,C.off (n,.cell) (oM _ _ (BE q)) rfl⟩
 have big:∀ n c,(cellsFrom (s.heap.objs.size+1) scope.names []).lookup n=some c->s.heap.objs.size < c:=fun n c e=>(ok.empty n c (BE e)).2
 have g:∀ n c,cl.lookup n=some c->c < s.heap.objs.size:=fun n c e=>(C.cell n c e).lt
 refine AA (InK.binds (s₀:=s) (env:=cY qual scope s.heap.objs.size f cd cl)
  _ (fun _ _ _=>rfl) w binds (fun _=>none) (fun n=>if (cl.lookup n).isSome then cm n else none) _ _
  ⟨⟨⟨_,_,rfl⟩,(Heap.Ns.new s.heap (.type "frame")).keeps (pushCells_keeps _ _),j,AG _⟩,fun n c e=>?_,fun n t c e p=>?_,fun n c e=>?_,fun n c z e=>?_⟩
  (fun x y=>?_) fun s' x=>AC (u s' x))
 ·rcases i n c e with ⟨q,a⟩|⟨q,a⟩
  ·rw[a];exact (ok.empty n c (BE q)).1
  ·rw[a];exact (C.cell n c a).keeps j
 ·rcases i n c e with ⟨q,a⟩|⟨q,a⟩<;>rcases i t c p with ⟨r,m⟩|⟨r,m⟩
  ·exact name_of_addr ok.apart (BE q) (BE r)
  ·exact absurd (big _ _ q) (GO.mpr (CY (g _ _ m)))
  ·exact absurd (big _ _ r) (GO.mpr (CY (g _ _ a)))
  ·exact C.inj n t c a m
 ·show c≠s.heap.objs.size
  rcases i n c e with ⟨q,a⟩|⟨q,a⟩
  ·exact C9 (big _ _ q)
  ·exact BB (g _ _ a)
 ·show s.heap.objs.size < c
  rcases i n c e with ⟨q,a⟩|⟨q,a⟩
  ·exact big _ _ q
  ·rw[C.off (n,.cell) (BE z) rfl] at a;cases a
 ·rcases k x y with q|q
  ·exact .inl q
  ·refine .inr ⟨q,?_⟩
   obtain ⟨c,e⟩:=nW (n:=s.heap.objs.size+1) q
   rw[h,p9,e];rfl
end
noncomputable def hid(cs:List Addr)(H:Hp):Hp:=fun b=>if b∈cs then none else H b
noncomputable def shw(cs:List Addr)(H H':Hp):Hp:=fun b=>if b∈cs then H b else H' b
theorem pD{cs:List Addr}{H:Hp}{b:Addr}(h:b∈cs):hid cs H b=none:=AD h
theorem cD{cs:List Addr}{H:Hp}{b:Addr}(h:b∉cs):hid cs H b=H b:=AE h
theorem rR{cs:List Addr}{H H':Hp}{b:Addr}(h:b∈cs):shw cs H H' b=H b:=AD h
theorem fB{cs:List Addr}{H H':Hp}{b:Addr}(h:b∉cs):shw cs H H' b=H' b:=AE h
theorem jK{cs:List Addr}{H:Hp}{b:Addr}(h:H b=none):hid cs H b=none:=by
 by_cases q:b∈cs
 · exact pD q
 · rw [cD q]; exact h
theorem qA{cs:List Addr}{H:Hp}{b:Addr}{o:HO}(h:hid cs H b=some o):H b=some o/\b∉cs:=by
 by_cases q:b∈cs
 · rw [pD q] at h; cases h
 · rw [cD q] at h; exact ⟨h, q⟩
def FnO(f:Addr)(o:Obj):HO:=.ext fun h=>h.get? f=some o
def fC(c:Addr)(o:Obj)(v:V):HO:=.frz o (.ext fun h=>∃ u,bJ v u/\h.IsCell c (some u))
section
variable{P:Program}{w:World}{H:Hp}{h:Heap}
theorem FnO.get{f:Addr}{o:Obj}(x:HOk P w H h)(e:H f=some (FnO f o)):h.get? f=some o:=(x f _ e).1
theorem fC.get{c:Addr}{o:Obj}{v:V}(x:HOk P w H h)(e:H c=some (fC c o v)):h.get? c=some o/\∃ u,bJ v u/\h.IsCell c (some u):=⟨(x c _ e).1,(x c _ e).2.1⟩
theorem FnO.ok{f:Addr}{o:Obj}(e:h.get? f=some o):cN P w H h f (FnO f o):=⟨e,⟨o,e⟩,fun h1 h2 q k=>k o q⟩
theorem fC.ok{c:Addr}{o:Obj}{v:V}{u:Value}(r:bJ v u)(e:h.get? c=some o)(a:o.data=.cell (some u)):cN P w H h c (fC c o v):=
 ⟨e,⟨u,r,o,e,a⟩,⟨o,e⟩,fun h1 h2 ⟨u,r,o,b,a⟩ k=>⟨u,r,o,k o b,a⟩⟩
end
def Celd(cs:List Addr)(H:Hp):Prop:=∀ c∈cs,∃ o v,H c=some (fC c o v)
theorem Celd.out{cs:List Addr}{H:Hp}(h:Celd cs H){b:Addr}{o:HO}(e:H b=some o)(n:∀ o' v,o≠fC b o' v):b∉cs:=fun z=>by
 obtain ⟨o',v,q⟩:=h b z
 rw[q] at e;cases e
 exact n o' v rfl
theorem HOk.hid{P:Program}{w:World}{H:Hp}{h:Heap}{cs:List Addr}(x:HOk P w H h)(a:Celd cs H):HOk P w (hid cs H) h:=fun b u e=>by
 obtain ⟨e1,_⟩:=qA e
 exact (x b u e1).stay (fun _ _ _ q=>q) (fun c q=>by rw[cD (a.out q fun _ v z=>nomatch z)];exact q) (fun c _ q=>by rw[cD (a.out q fun _ v z=>nomatch z)];exact q) fun c _ q=>by rw[cD (a.out q fun _ v z=>nomatch z)];exact q
structure CloScope(N ps fr:List Str)(sc:Scope):Prop where
 kind:sc.kind=.function
 co:sc.isCoroutine=false
 gen:sc.isGenerator=false
 nd:N.Nodup
 pre:N.take (ps++fr).length=ps++fr
 par:∀ x∈ps,sc.names.lookup x=some .local\/sc.names.lookup x=some .cell
 cap:∀ x∈fr,sc.names.lookup x=some .free
 only:∀ y∈sc.names,y.2=.free->y.1∈fr
 off:∀ y∈sc.names,y.2=.cell->y.1∉fr
structure CapAt(H:Hp)(fr:List Str)(cl:List (Str×Addr))(vs:List V):Prop where
 len:vs.length=fr.length
 only:∀ n c,cl.lookup n=some c->n∈fr
 inj:∀ n n' c,cl.lookup n=some c->cl.lookup n'=some c->n=n'
 at':∀ (i:Nat) x v,fr[i]? = some x->vs[i]? = some v->∃ c o,cl.lookup x=some c/\H c=some (fC c o v)
theorem CapAt.get{H:Hp}{fr:List Str}{cl:List (Str×Addr)}{vs:List V}(a:CapAt H fr cl vs){n:Str}{c:Addr}(e:cl.lookup n=some c):∃ o v,H c=some (fC c o v):=by
 obtain ⟨i,hi,d⟩:=E6.mp (a.only n c e)
 obtain ⟨f,o,b,q⟩:=a.at' i n (vs[i]'(by rw[a.len];exact hi)) (by rw[AN hi,d]) (AN _)
 rw[e] at b;cases b
 exact ⟨_,_,q⟩
noncomputable def bG(fr:List Str)(cl:List (Str×Addr)):List Addr:=fr.filterMap fun x=>cl.lookup x
theorem CapAt.celd{H:Hp}{fr:List Str}{cl:List (Str×Addr)}{vs:List V}(a:CapAt H fr cl vs):Celd (bG fr cl) H:=fun c b=>by
 obtain ⟨x,_,e⟩:=DA.mp b
 exact a.get e
theorem CapAt.same{H H':Hp}{fr:List Str}{cl:List (Str×Addr)}{vs:List V}(a:CapAt H fr cl vs)(s:aO H H'):CapAt H' fr cl vs:=⟨a.len,a.only,a.inj,fun i x v h1 h2=>let ⟨c,o,e,q⟩:=a.at' i x v h1 h2;⟨c,o,e,s _ _ q⟩⟩
noncomputable def j6(CX:CXT)(P:Program)(w:World)(K:Frag)(mg:Str->Option Value)(base:Heap)(N fr:List Str)(qual:Str)(scope:Scope)(f:Addr)(cd:Value)(cl:List (Str×Addr))(A:Around)(outer:List Env)(s:Shared)(H:Hp)(E:XK):Cx where
 prog:=P
 w:=w
 K:=K
 mg:=mg
 base:=base
 A:=A.deeper (cY qual scope s.heap.objs.size f cd cl)
 N:=N
 s₀:=s
 H₀:=hid (bG fr cl) H
 env:=cY qual scope s.heap.objs.size f cd cl
 outer:=outer
 stack:=cY qual scope s.heap.objs.size f cd cl::outer
 ex:=[]
 calm:=true
 fn:=fun x=>(cl.lookup x).isNone
 pn:=[]
 xe:=fun e s'=>wpAny (model P w) (A.deeper (cY qual scope s.heap.objs.size f cd cl)) (leaving (cY qual scope s.heap.objs.size f cd cl) e) (fun _ s''=>CX outer H s E e s'') (fun e' s''=>CX outer H s E e' s'') s'
section
variable{CX:CXT}{P:Program}{w:World}{K:Frag}{mg:Str->Option Value}{base:Heap}{N ps fr:List Str}{qual:Str}{scope:Scope}{f:Addr}{cd:Value}{cl:List (Str×Addr)}{A:Around}{outer:List Env}{s s1:Shared}{H:Hp}{E:XK}{us:List Value}{vs cvs:List V}
theorem aDL{h:Heap}(hok:HOk P w H h)(C:CapAt H fr cl cvs):∃ cm:Str->Option Value,(∀ n c,cl.lookup n=some c->∃ v u,(∃ o,H c=some (fC c o v))/\bJ v u/\cm n=some u/\h.IsCell c (some u)):=by
 have a:∀ n,∃ x:Option Value,∀ c,cl.lookup n=some c->∃ v u,(∃ o,H c=some (fC c o v))/\bJ v u/\x=some u/\h.IsCell c (some u):=fun n=>by
  cases e:cl.lookup n with
  | none=>exact ⟨none,fun c z=>nomatch z⟩
  | some c=>
   obtain ⟨o,v,q⟩:=C.get e
   obtain ⟨_,u,r,z⟩:=fC.get hok q
   exact ⟨some u,fun d b=>by cases b;exact ⟨v,u,⟨o,q⟩,r,rfl,z⟩⟩
 exact ⟨fun n=>(a n).choose,fun n c e=>(a n).choose_spec c e⟩
theorem qB{n:Str}{L:Nat}:(cY qual scope L f cd cl).cells.lookup n=((cellsFrom (L+1) scope.names []).lookup n).or (cl.lookup n):=by
 rw[show (cY qual scope L f cd cl).cells=cellsFrom (L+1) scope.names []++cl from kW _ _ _,p9]
theorem tJ{n:Str}{c:Addr}{L:Nat}(S:CloScope N ps fr scope)(C:CapAt H fr cl cvs)(e:cl.lookup n=some c):(cY qual scope L f cd cl).cells.lookup n=some c:=by
 rw[qB,aG5 fun v a=>S.off (n,.cell) (oM _ _ a) rfl (C.only n c e)]
 simpa using e
theorem vT{cm:Str->Option Value}(S:CloScope N ps fr scope)(C:CapAt H fr cl cvs)(X:A.handled=none)(e0:Env0 P w K mg base A outer s H)(O:vs.length=ps.length)(r:bT vs us)
  (W:∀ n c,cl.lookup n=some c->∃ v u,(∃ o,H c=some (fC c o v))/\bJ v u/\cm n=some u/\s.heap.IsCell c (some u))
  (x:InK (cY qual scope s.heap.objs.size f cd cl) s (bindL (cY qual scope s.heap.objs.size f cd cl).kindOf (ps.zip us) fun _=>none) (bindC (cY qual scope s.heap.objs.size f cd cl).kindOf (ps.zip us) fun n=>if (cl.lookup n).isSome then cm n else none) s1) :
  Inv (j6 CX P w K mg base N fr qual scope f cd cl A outer s H E) [] (start N (vs++cvs)) (hid (bG fr cl) H) s1:=by
 have R:(ps++fr).length<=N.length:=by have:=EA List.length S.pre;rw[BF] at this;omega
 have Q:(vs++cvs).length=(ps++fr).length:=by rw[A0,A0,O,C.len]
 obtain ⟨h1,tk,rfl,G⟩:=x.ic.done
 have g:∀ b:Addr,b∉(j6 CX P w K mg base N fr qual scope f cd cl A outer s H E).ex:=fun b z=>absurd (show b∈([]:List Addr) from z) (by simp)
 have B:∀ y c,cl.lookup y=none->(cY qual scope s.heap.objs.size f cd cl).cells.lookup y=some c->s.heap.objs.size < c:=fun y c n e=>by
  rw[qB,n] at e
  have m:(cellsFrom (s.heap.objs.size+1) scope.names []).lookup y=some c:=by simpa using e
  have ok:=cellsFrom_ok scope.names (s.heap.push {cls:=.type "frame",data:=.dict #[]}) (s.heap.objs.size+1) [] ⟨fun _ _ hm=>(nomatch hm),List.Pairwise.nil⟩ (by rw[C7];exact AG _)
  rw[C7] at ok
  exact (ok.empty y c (BE m)).2
 refine ⟨⟨e0.mod,S.kind,rfl,rfl,AG _,fun y z c h1 h2=>x.inj y z c h1 h2,fun y j=>?_,fun y c F h=>?_,fun _=>X,Around.frames_deeper e0.frames,.inr ⟨rfl,rfl⟩,fun b z=>absurd z (g b),fun b o e=>⟨(e0.bs b o e).1,jK (e0.bs b o e).2⟩,e0.bsz,fun b _ _=>g b,fun b z=>absurd z (g b),e0.funs,fun b U=>jK (e0.frf b U)⟩,
  rfl,e0.bare,Un.kept G,⟨_,x.ic.ns,fun i y v h1 h2 h3=>?_⟩,fun y c h=>⟨_,x.cell y c h⟩,jK (e0.hok.fresh (AG _)),fun y c h=>?_,fun p d=>absurd (show p∈([]:List (Addr×Obj)) from d) (by simp),(e0.hok.hid C.celd).kept G,?_⟩
 ·have j:scope.names.lookup y=some .cell\/scope.names.lookup y=some .free:=j
  rcases j with j|j
  ·obtain ⟨c,e⟩:=nW (n:=s.heap.objs.size+1) j
   exact ⟨c,by show (cY qual scope s.heap.objs.size f cd cl).cells.lookup y=_;rw[qB,e];rfl⟩
  ·obtain ⟨i,hi,V⟩:=E6.mp (S.only _ (BE j) rfl)
   obtain ⟨c,_,e,_⟩:=C.at' i y (cvs[i]'(by rw[C.len];exact hi)) (by rw[AN hi,V]) (AN _)
   exact ⟨c,tJ S C e⟩
 ·have F:(cl.lookup y).isNone=true:=F
  exact CY (B y c (Option.isNone_iff_eq_none.mp F) h)
 ·have hi:i < (vs++cvs).length:=by
   unfold start at h2
   by_cases hi:i < (vs++cvs).length
   ·exact hi
   ·rw[CA (by simpa using hi)] at h2
    rw[EN] at h2
    split at h2<;>cases h2
  have D:(vs++cvs)[i]? = some v:=by
   unfold start at h2
   rw[BV (by simpa using hi),AH] at h2
   cases e:(vs++cvs)[i]? with
   | none=>rw[e] at h2;cases h2
   | some a=>rw[e] at h2;cases h2;rfl
  have d:(ps++fr)[i]? = some y:=by
   rw[<-S.pre,F6 (by omega)];exact h1
  have J:(ps++fr).Nodup:=by rw[<-S.pre];exact S.nd.sublist (List.take_sublist _ _)
  have t:ps.Nodup:=(C2.mp J).1
  by_cases I:i < ps.length
  ·rw[BV (by omega)] at D
   rw[BV I] at d
   obtain ⟨u,M,Y⟩:=r.get D
   refine ⟨u,Y,?_⟩
   rcases S.par y (AL d) with k|k
   ·exact .inl ⟨k,rK t d M k⟩
   ·obtain ⟨c,e⟩:=nW (n:=s.heap.objs.size+1) k
    have m:(cY qual scope s.heap.objs.size f cd cl).cells.lookup y=some c:=by rw[qB,e];rfl
    refine .inr ⟨.inl k,c,m,?_⟩
    have q:=x.cell y c m
    rw[rL t d M (by show scope.names.lookup y≠_;rw[k];decide)] at q
    exact q
  ·rw[CA (by omega)] at D
   rw[CA (by omega)] at d
   rw[O] at D
   obtain ⟨c,o,e,q⟩:=C.at' _ y v d D
   obtain ⟨_,Z,r2,T⟩:=fC.get e0.hok q
   have m:=tJ (qual:=qual) (f:=f) (cd:=cd) (L:=s.heap.objs.size) S C e
   have l:scope.names.lookup y=some .free:=S.cap y (AL d)
   refine ⟨Z,r2,.inr ⟨.inr l,c,m,?_⟩⟩
   exact T.keeps G
 ·cases e:cl.lookup y with
  | none=>exact jK (e0.hok.fresh (CY (B y c e h)))
  | some c'=>
   have h':=tJ (qual:=qual) (f:=f) (cd:=cd) (L:=s.heap.objs.size) S C e
   have h:(cY qual scope s.heap.objs.size f cd cl).cells.lookup y=some c:=h
   rw[h] at h';cases h'
   exact pD (DA.mpr ⟨y,C.only y c e,e⟩)
 ·unfold start
  show _=N.length
  rw[A0,AB,D0]
  omega
theorem uL{pins:List (Addr×Obj)}{σ:St}{H':Hp}{s':Shared}(S:CloScope N ps fr scope)(C:CapAt H fr cl cvs)(e0:Env0 P w K mg base A outer s H)(J:Inv (j6 CX P w K mg base N fr qual scope f cd cl A outer s H E) pins σ H' s') :
  (∀ c∈bG fr cl,H' c=none)/\Un (frs outer) [] H (shw (bG fr cl) H H') s.heap s'.heap/\HOk P w (shw (bG fr cl) H H') s'.heap:=by
 have un:Un (frs outer) [] (hid (bG fr cl) H) H' s.heap s'.heap:=J.base
 have g:∀ c∈bG fr cl,H' c=none:=fun c k=>by
  obtain ⟨x,_,e⟩:=DA.mp k
  exact J.freeC x c (tJ S C e)
 have out:∀ b,H b=none->b∉bG fr cl:=fun b n z=>by
  obtain ⟨o,v,q⟩:=C.celd b z
  rw[n] at q;cases q
 refine ⟨g,⟨fun b o e n h1 h2=>un.keep b o e (jK n) h1 h2,fun b o e n h1 h2=>un.slot b o e (jK n) h1 h2,fun b o e n h2=>by rw[fB (out b n)];exact un.free b o e (jK n) h2,un.there,
  fun b xs q=>?_,fun b o u q=>?_,fun b ps q=>?_⟩,fun b u e=>?_⟩
 ·have a:=C.celd.out q fun _ v z=>nomatch z
  rw[fB a];exact un.tups b xs (by rw[cD a];exact q)
 ·by_cases a:b∈bG fr cl
  ·rw[rR a];exact q
  ·rw[fB a];exact un.frzs b o u (by rw[cD a];exact q)
 ·have a:=C.celd.out q fun _ v z=>nomatch z
  rw[fB a];exact un.tbls b ps (by rw[cD a];exact q)
 ·by_cases a:b∈bG fr cl
  ·rw[rR a] at e
   obtain ⟨o,v,q⟩:=C.celd b a
   rw[q] at e;cases e
   obtain ⟨i,u,r,l,d,j⟩:=fC.get e0.hok q
   rw[i] at d;cases d
   exact fC.ok r (un.keep b o i (pD a) (fun z=>by have:=e0.frf b z;rw[q] at this;cases this) (by simp)) j
  ·rw[fB a] at e
   have h:∀ c o,H' c=some o->c∉bG fr cl:=fun c o q z=>by rw[g c z] at q;cases q
   exact (J.hok b u e).stay (fun _ _ _ q=>q) (fun c q=>by rw[fB (h c _ q)];exact q) (fun c _ q=>by rw[fB (h c _ q)];exact q) fun c _ q=>by rw[fB (h c _ q)];exact q
end
section
variable{P:Program}{w:World}{K:Frag}{mg:Str->Option Value}{base:Heap}{N ps fr:List Str}{qual:Str}{scope:Scope}{f:Addr}{cd:Value}{cl:List (Str×Addr)}{A:Around}{outer:List Env}{s:Shared}{H:Hp}{E:XK}{cvs:List V}
theorem vU{j:Value}{s':Shared}(S:CloScope N ps fr scope)(C:CapAt H fr cl cvs)(e0:Env0 P w K mg base A outer s H)
  (h:Fly (j6 (CXe P w) P w K mg base N fr qual scope f cd cl A outer s H E) (fun c e H'=>(∀ a∈bG fr cl,H' a=none)->E c e (shw (bG fr cl) H H')) j s'):(j6 (CXe P w) P w K mg base N fr qual scope f cd cl A outer s H E).xe j s':=by
 obtain ⟨e,n,od,σ,H',rfl,I,r,q⟩:=h
 show wpAny (model P w) _ (leaving _ (.ref e)) _ _ s'
 unfold leaving
 have k:zT (j6 (CXe P w) P w K mg base N fr qual scope f cd cl A outer s H E):=⟨rfl,rfl⟩
 refine AA (uI k I r fun u l m=>xC l m fun x i g=>?_)
 obtain ⟨vs,T,a,b,c,_⟩:=g.tb
 obtain ⟨d,un,hok⟩:=uL S C e0 i
 have p:∀ c o,H' c=some o->c∉bG fr cl:=fun c o q z=>by rw[d c z] at q;cases q
 refine ⟨e,n,od,_,rfl,i.os,i.bare,un,hok,by rw[fB (p _ _ g.tr)];exact g.tr,⟨vs,T,a,b,fun t e1=>⟨?_,(c t e1).2.1⟩⟩,q d⟩
 rw[fB]
 ·exact (c t e1).1
 ·intro z
  obtain ⟨o,v,q⟩:=C.celd t z
  exact absurd (A1 (e0.hok.lt q) (c t e1).2.1) (B7 _)
end
structure ClSt where
 name:Str
 qual:Str
 params:Arguments
 body:FuncBody
 scope:Scope
noncomputable def ClSt.fd(S:ClSt)(cl:List (Str×Addr))(doc pm:Value)(c:Addr)(ct:Value):FuncData:=
 {name:=S.name,qualname:=S.qual,params:=S.params,body:=S.body,scope:=S.scope,globals:=mainGlobals,closure:=cl,defaults:=.none,kwdefaults:=.none,doc:=doc,pyModule:=pm,annotations:=none,code:=.ref c,closureTuple:=ct,builtins:=builtinsNs}
abbrev ClSt.obj(S:ClSt)(cl:List (Str×Addr))(doc pm:Value)(c:Addr)(ct:Value):Obj:={cls:=.type "function",data:=.func (S.fd cl doc pm c ct)}
section
variable{P:Program}{w:World}{K:Frag}{mg:Str->Option Value}{base:Heap}{N ps fr:List Str}{S:ClSt}{f c:Addr}{cl:List (Str×Addr)}{A:Around}{outer:List Env}{s:Shared}{H:Hp}{E:XK}{Q:VK}{cvs vs:List V}{us:List Value}{args:Args}{doc pm ct:Value}{k:Nat}
theorem aAV(Sc:CloScope N ps fr S.scope):∀ y∈ps.zip us,S.scope.names.lookup y.1=some .local\/S.scope.names.lookup y.1=some .cell:=fun ⟨n,v⟩ a=>Sc.par n (E3 a).1
theorem aG6{h:Heap}(hok:HOk P w H h)(Sc:CloScope N ps fr S.scope)(C:CapAt H fr cl cvs){cm:Str->Option Value}(a:∀ n c,cl.lookup n=some c->∃ v u,(∃ o,H c=some (fC c o v))/\bJ v u/\cm n=some u/\h.IsCell c (some u)):ClAt h S.scope cl cm where
 cell:=fun n c e=>by
  obtain ⟨v,u,_,_,e1,z⟩:=a n c e
  rw[e1];exact z
 inj:=C.inj
 off:=fun y d b=>by
  cases e:cl.lookup y.1 with
  | none=>rfl
  | some c=>exact absurd (C.only _ _ e) (Sc.off y d b)
theorem aG7{body:List Stmt}(M:S.body=.stmts body)(D:H f=some (FnO f (S.obj cl doc pm c ct)))(T:H c=some (.cod S.qual))(Sc:CloScope N ps fr S.scope)(C:CapAt H fr cl cvs)(m:Room (k+1) A)
  (e0:Env0 P w K mg base A outer s H) (n:BindsTo s (S.fd cl doc pm c ct) args (ps.zip us)) (r:bT vs us) (O:vs.length=ps.length)
  (g:Room k (A.deeper (cY S.qual S.scope s.heap.objs.size f (.ref c) cl))->∃ t,PSs ((j6 (CXe P w) P w K mg base N fr S.qual S.scope f (.ref c) cl A outer s H E).fly fun c e H'=>(∀ a∈bG fr cl,H' a=none)->E c e (shw (bG fr cl) H H')) body t /\
   t {nx:=fun _ H'=>(∀ a∈bG fr cl,H' a=none)->Q .non (shw (bG fr cl) H H'),rt:=fun v H'=>(∀ a∈bG fr cl,H' a=none)->Q v (shw (bG fr cl) H H')} (start N (vs++cvs)) (hid (bG fr cl) H)) :
  codeAny (model P w) A (.call (.ref f) args) (CR (CXe P w) outer P w H s Q E) s:=by
 have y:s.heap.NoLimit:=e0.mod.nolimit.keeps fun b o e=>(e0.bs b o e).1
 obtain ⟨cm,i⟩:=aDL e0.hok C
 have B:s.heap.CodeRec (.ref c) S.qual:=e0.hok c _ T
 refine codeAny_call_function m.depth (FnO.get e0.hok D) rfl Sc.co Sc.gen M B (n _ _ _ _ ?_)
 refine aDK (cm:=cm) Sc.kind (aG6 e0.hok Sc C i) (aAV Sc) fun s1 x=>?_
 refine ⟨y.keeps x.ic.keep,codeAny_func ?_⟩
 obtain ⟨t,L,F⟩:=g (m.deeper _)
 have I:Inv (j6 (CXe P w) P w K mg base N fr S.qual S.scope f (.ref c) cl A outer s H E) [] (start N (vs++cvs)) (hid (bG fr cl) H) s1:=vT Sc C m.hd e0 O r i x
 have l:=L.unfly fun _ _ z=>vU Sc C e0 z
 refine BU (l [] s1 _ _ _ I F) (fun R s' h=>?_) fun e s' h=>h
 have j:∀ {d:St} {H':Hp} {v:V} {u:Value},Inv (j6 (CXe P w) P w K mg base N fr S.qual S.scope f (.ref c) cl A outer s H E) [] d H' s'->bJ v u->((∀ a∈bG fr cl,H' a=none)->Q v (shw (bG fr cl) H H'))->CE outer P w H s Q u s':=
  fun {d H' v u} J p q=>by
   obtain ⟨G,un,hok⟩:=uL Sc C e0 J
   exact ⟨v,_,J.os,J.bare,un,hok,p,q G⟩
 cases R with
 | ret u=>
  obtain ⟨v,d,H',J,p,q⟩:=h
  exact j J p q
 | next=>
  obtain ⟨d,H',J,q⟩:=h
  exact j (v:=V.non) (u:=Value.none) J rfl q
 | brk=>
  obtain ⟨_,_,_,q⟩:=h
  exact False.elim q
 | cont=>
  obtain ⟨_,_,_,q⟩:=h
  exact False.elim q
theorem aI9{body:Expr}(D:S.body=.expr body)(n:H f=some (FnO f (S.obj cl doc pm c ct)))(G:H c=some (.cod S.qual))(Sc:CloScope N ps fr S.scope)(C:CapAt H fr cl cvs)(h:Room (k+1) A)
  (e0:Env0 P w K mg base A outer s H) (i:BindsTo s (S.fd cl doc pm c ct) args (ps.zip us)) (r:bT vs us) (F:vs.length=ps.length)
  (d:Room k (A.deeper (cY S.qual S.scope s.heap.objs.size f (.ref c) cl))->∃ t,PE ((j6 (CXe P w) P w K mg base N fr S.qual S.scope f (.ref c) cl A outer s H E).fly fun c e H'=>(∀ a∈bG fr cl,H' a=none)->E c e (shw (bG fr cl) H H')) body t /\
   t (start N (vs++cvs)) (hid (bG fr cl) H) fun v H'=>(∀ a∈bG fr cl,H' a=none)->Q v (shw (bG fr cl) H H')) :
  codeAny (model P w) A (.call (.ref f) args) (CR (CXe P w) outer P w H s Q E) s:=by
 have j:s.heap.NoLimit:=e0.mod.nolimit.keeps fun b o e=>(e0.bs b o e).1
 obtain ⟨cm,g⟩:=aDL e0.hok C
 have m:s.heap.CodeRec (.ref c) S.qual:=e0.hok c _ G
 refine PySem.W.kla_callFunE h.depth (FnO.get e0.hok n) rfl Sc.co Sc.gen D m (i _ _ _ _ ?_)
 refine aDK (cm:=cm) Sc.kind (aG6 e0.hok Sc C g) (aAV Sc) fun s1 x=>?_
 refine ⟨j.keeps x.ic.keep,PySem.W.kla_codeExpr ?_⟩
 obtain ⟨t,B,p⟩:=d (h.deeper _)
 have I:Inv (j6 (CXe P w) P w K mg base N fr S.qual S.scope f (.ref c) cl A outer s H E) [] (start N (vs++cvs)) (hid (bG fr cl) H) s1:=vT Sc C h.hd e0 F r g x
 refine BU (B [] s1 _ _ _ (I.wish _) p) (fun u s' l=>?_) fun e s' l=>vU Sc C e0 l
 obtain ⟨v,H',J,z,q⟩:=l
 obtain ⟨y,un,hok⟩:=uL Sc C e0 J.unwish
 exact ⟨v,_,J.os,J.bare,un,hok,z,q y⟩
end
theorem aE8{env:Env}:∀ (names:List (Str×NameKind)) (acc:List (Str×Addr)),(∀ x∈names,x.2=.free->∃ c,env.cells.lookup x.1=some c)->
  (∀ x c,acc.lookup x=some c->env.cells.lookup x=some c)->
  ∃ cl,(forIn names acc fun x r=>(if (x.2 == NameKind.free)=true then (do let a <-cellOf env x.1;pure (ForInStep.yield ((x.1,a)::r))) else pure (ForInStep.yield r)):Sem (List (Str×Addr)))=pure cl /\
   (∀ x c,cl.lookup x=some c->env.cells.lookup x=some c)/\(∀ x∈names,x.2=.free->∃ c,cl.lookup x.1=some c)/\(∀ x c,acc.lookup x=some c->∃ c',cl.lookup x=some c') /\
   (∀ x c,cl.lookup x=some c->(∃ c',acc.lookup x=some c')\/(x,NameKind.free)∈names):=by
 intro names
 induction names with
 | nil=>intro acc _ h;exact ⟨acc,rfl,h,fun x p=>absurd p (by simp),fun x c e=>⟨c,e⟩,fun x c e=>.inl ⟨c,e⟩⟩
 | cons x r ih=>
  intro acc l h
  obtain ⟨n,k⟩:=x
  by_cases o:k=.free
  ·subst o
   obtain ⟨c,i⟩:=l (n,.free) AX rfl
   have i:env.cells.lookup n=some c:=i
   obtain ⟨cl,e1,e2,j,g,m⟩:=ih ((n,c)::acc) (fun y f=>l y (AM _ f)) (fun y d e=>by
    rw[BG] at e
    cases q:y == n with
    | true=>rw[q] at e;cases e;have:=D5 q;subst this;exact i
    | false=>rw[q] at e;exact h y d e)
   refine ⟨cl,?_,e2,fun y f b=>?_,fun y d e=>?_,fun y d e=>?_⟩
   ·rw[DC]
    simp only[C6,CB]
    unfold cellOf
    simp only[i,pure_bind]
    exact e1
   ·rcases AZ.mp f with z|z
    ·subst z
     exact g n c (by rw[BG];simp)
    ·exact j y z b
   ·by_cases q:y=n
    ·subst q;exact g y c (by rw[BG];simp)
    ·exact g y d (by rw[BG,CQ q];exact e)
   ·rcases m y d e with ⟨c',z⟩|z
    ·by_cases q:y=n
     ·subst q;exact .inr AX
     ·rw[BG,CQ q] at z
      exact .inl ⟨c',z⟩
    ·exact .inr (AM _ z)
  ·obtain ⟨cl,e1,e2,j,g,m⟩:=ih acc (fun y f=>l y (AM _ f)) h
   refine ⟨cl,?_,e2,fun y f b=>?_,g,fun y d e=>(m y d e).imp id fun z=>AM _ z⟩
   ·rw[DC]
    have:(k == NameKind.free)=false:=by simpa using o
    simp only[this,BS,CH,pure_bind]
    exact e1
   ·rcases AZ.mp f with z|z
    ·subst z;exact absurd b o
    ·exact j y z b
structure ClOf(cells:List (Str×Addr))(sc:Scope)(cl:List (Str×Addr)):Prop where
 of:∀ x c,cl.lookup x=some c->cells.lookup x=some c
 all:∀ x∈sc.names,x.2=.free->∃ c,cl.lookup x.1=some c
 only:∀ x c,cl.lookup x=some c->(x,NameKind.free)∈sc.names
theorem aAW{env:Env}{scope:Scope}(b:∀ x∈scope.names,x.2=.free->∃ c,env.cells.lookup x.1=some c) :
  ∃ cl,closureFor scope env=pure cl/\ClOf env.cells scope cl:=by
 obtain ⟨cl,e1,e2,a,_,d⟩:=aE8 scope.names [] b (fun x c e=>by simp at e)
 refine ⟨cl,?_,e2,a,fun x c e=>?_⟩
 ·unfold closureFor
  first
   | exact e1
   | (rw[<-e1];rfl)
   | (simp only[bind_pure];exact e1)
 ·rcases d x c e with ⟨f,z⟩|z
  ·simp at z
  ·exact z
theorem aG8{pos:Pos}{r:List Value}(l:List Value)(h:TriplesOk l):codeAmong pos (l++r)=(codeAmong pos l).or (codeAmong pos r):=by
 fun_induction TriplesOk l with
 | case1=>simp[codeAmong]
 | case2 a t b u x rest ih=>
  simp only[BO,codeAmong]
  split
  · rfl
  · exact ih h
 | case3 l h1 h2=>exact h.elim
structure Tb(mg:Str->Option Value)(base:Heap)(c0 P0:Addr):Prop where
 hd:PySem.W.CodeHd base c0 P0
 bt:∃ bm ob,mg "__builtins__"=some (.ref bm)/\bm≠builtinsNs/\base.get? bm=some ob/\ob.cls=.type "module"/\ob.dict=some builtinsNs/\ob.data=.plain
section
variable{X:Cx}{pins:List (Addr×Obj)}{σ:St}{H:Hp}{s:Shared}{c0 P0:Addr}{qs:List (Pos×Str)}{pos:Pos}{q:Str}
theorem aG9{ps:Array Value}{c:Addr}{h h':Heap}(C:HOk X.prog X.w H h)(k:H P0=some (.tbl qs))(x:h.get? P0=some (PySem.W.tabObj ps))(n:TriplesOk ps.toList)(f:∀ p∈qs,codeAmong p.1 ps.toList=none\/∃ c,codeAmong p.1 ps.toList=some (.ref c)/\H c=some (.cod p.2))
  (A:∀ p∈qs,p.1.line=pos.line->p.1.col=pos.col->p.2=q) (B:codeAmong pos ps.toList=none) (a:H c=none) (hx:Heap.ExtBut P0 h h') (j:h'.CodeRec (.ref c) q) (l:h'.get? P0=some (PySem.W.tabObj (ps ++ #[rawInt pos.line,rawInt pos.col,.ref c]))) :
  HOk X.prog X.w (upd H c (.cod q)) h':=fun b u e=>by
 have D:P0≠c:=fun z=>by rw[<-z,k] at a;cases a
 by_cases s:b=c
 ·subst s;rw[aX] at e;cases e;exact j
 ·rw[aG s] at e
  by_cases i:b=P0
  ·subst i
   rw[k] at e;cases e
   refine ⟨_,l,?_,fun p m=>?_⟩
   ·rw[FD];exact TriplesOk_snoc _ _ _ _ n
   ·rw[FD,aG8 _ n]
    rcases f p m with z|⟨d,z,t⟩
    ·rw[z]
     show (codeAmong p.1 [rawInt pos.line,rawInt pos.col,.ref c])=none\/_
     by_cases g:p.1.line=pos.line/\p.1.col=pos.col
     ·refine .inr ⟨c,?_,?_⟩
      ·show codeAmong p.1 [rawInt pos.line,rawInt pos.col,.ref c]=_
       rw[<-g.1,<-g.2]
       exact codeAmong_snoc [] trivial rfl
      ·rw[A p m g.1 g.2];exact aX
     ·refine .inl ?_
      simp only[codeAmong,rawInt]
      rw[AE]
      simp only[AU,FW]
      intro o
      exact g ⟨by omega,by omega⟩
    ·refine .inr ⟨d,by rw[z];rfl,?_⟩
     rw[aG (bU t a)];exact t
  ·refine (C b u e).stay (fun d v y r=>hx d v ?_ r) (fun d r=>by rw[aG (bU r a)];exact r) (fun d _ r=>by rw[aG (bU r a)];exact r) fun d _ r=>by rw[aG (bU r a)];exact r
   rcases y with z|z
   ·rw[z];exact i
   ·intro o;rw[o,k] at z;cases z
def Mkd(H:Hp)(q:Str)(c:Addr)(H1:Hp):Prop:=(H c=some (.cod q)/\H1=H)\/(H c=none/\H1=upd H c (.cod q))
theorem aDM {S : ClSt} {M : Model} {A : Around} {E : Value -> Shared -> Prop} {Q : Value -> Shared -> Prop} {i : Nat} (I : Inv X pins σ H s) (d : X.env.code = .ref c0) (T : Tb X.mg X.base c0 P0) (Y : H P0 = some (.tbl qs)) (hq : (pos, S.qual) ∈ qs)
    (hu : ∀ p ∈ qs, p.1.line = pos.line -> p.1.col = pos.col -> p.2 = S.qual) (B : ∀ x ∈ S.scope.names, x.2 = .free -> ∃ c, X.env.cells.lookup x.1 = some c)
    (h : ∀ f c cl doc pm ct H1 s', Mkd H S.qual c H1 -> H1 f = none -> ClOf X.env.cells S.scope cl -> Inv X pins σ (upd H1 f (FnO f (S.obj cl doc pm c ct))) s' -> Q (.ref f) s') :
    wpAny M A (makeFunction S.name S.qual S.params S.body S.scope X.env [] [] [] pos i) Q E s := by
  obtain ⟨cl, q, L⟩ := aAW B
  obtain ⟨ps, g, J, r⟩ := (show cN X.prog X.w H s.heap P0 (.tbl qs) from I.hok P0 _ Y)
  have C : PySem.W.CodeHd s.heap c0 P0 := T.hd.keeps I.bk
  have F : s.heap.Ns mainGlobals X.mg := I.mod.glob.keeps I.bk
  have P : mainGlobals ≠ P0 := fun z => by
    obtain ⟨o, es, ep, e, hd, _⟩ := F
    rw [z, g] at e; cases e; cases hd
  obtain ⟨bm, ob, b1, b2, b3, b4, b5, b6⟩ := T.bt
  have l := I.bk _ _ b3
  have aa : bm ≠ P0 := fun z => by rw [z, g] at l; cases l; cases b4
  have V : bm ≠ mainGlobals := fun z => by
    obtain ⟨o, es, ep, e, hd, _⟩ := F
    rw [z, e] at l; cases l; rw [hd] at b6; cases b6
  have U : s.heap.BuiltinsAt X.mg P0 := ⟨bm, ob, b1, b2, V, aa, l, b4, b5, b6⟩
  rcases r _ hq with y | ⟨c, hf, hc⟩
  · have m : ∀ (j : Addr) (a doc : Value) (h' : Heap) (tk : Tok), Heap.ExtBut P0 s.heap h' -> s.heap.objs.size <= j -> j < h'.objs.size -> h'.CodeRec (.ref j) S.qual -> h'.get? P0 = some (PySem.W.tabObj (ps ++ #[rawInt pos.line, rawInt pos.col, .ref j])) ->
        Q (.ref h'.objs.size) { s with heap := h'.push (S.obj cl doc ((X.mg "__name__").getD .none) j a), toks := tk } := by
      intro j a doc h' tk R v G K N
      have Z : H j = none := I.hok.fresh v
      have t : HOk X.prog X.w (upd H j (.cod S.qual)) h' := aG9 I.hok Y g J r hu y Z R K N
      have k : (upd H j (.cod S.qual)) h'.objs.size = none := t.fresh (AG _)
      refine h h'.objs.size j cl doc ((X.mg "__name__").getD .none) a _ _ (.inr ⟨Z, rfl⟩) k L ?_
      have D : ∀ b o, H b = some o -> b ≠ j /\ b ≠ h'.objs.size := fun b o e => ⟨bU e Z, fun z => by
        rw [z] at e
        rw [aG (C9 G), e] at k; cases k⟩
      have nP : ∀ b, H b = none -> b ≠ P0 := fun b n z => by rw [z, Y] at n; cases n
      refine I.un ⟨fun b o e n _ _ => AJ _ (R b o (nP b n) e), fun b o e n _ _ => ⟨o.slots, AJ _ (R b o (nP b n) e)⟩, fun b o e n _ => ?_, fun b o e _ => ?_, fun b xs e => ?_, fun b o u e => ?_, fun b qs e => ?_⟩ ?_
      · have hb := AS e
        rw [aG (BB (A1 hb (BJ v (CY G)))), aG (BB (A1 hb v))]; exact n
      · by_cases z : b = P0
        · subst z; exact ⟨_, AJ _ N⟩
        · exact ⟨o, AJ _ (R b o z e)⟩
      · rw [aG (D b _ e).2, aG (D b _ e).1]; exact e
      · rw [aG (D b _ e).2, aG (D b _ e).1]; exact e
      · rw [aG (D b _ e).2, aG (D b _ e).1]; exact e
      · exact t.laid (fun b u e => AJ _ e) (AG _) (FnO.ok (A9 _ rfl))
    obtain ⟨name, qual, params, body, scope⟩ := S
    cases body with
    | stmts body => exact PySem.W.makeFunction_K q I.ok.glob F d C g J y P U m
    | expr body => exact PySem.W.kla_makeFunction q I.ok.glob F d C g J y P U fun j a h' tk => m j a .none h' tk
  · have m : ∀ (a doc : Value) (h' : Heap) (tk : Tok), (∀ b o, s.heap.get? b = some o -> h'.get? b = some o) -> s.heap.objs.size <= h'.objs.size ->
        Q (.ref h'.objs.size) { s with heap := h'.push (S.obj cl doc ((X.mg "__name__").getD .none) c a), toks := tk } := by
      intro a doc h' tk hk O
      refine h h'.objs.size c cl doc ((X.mg "__name__").getD .none) a H _ (.inl ⟨hc, rfl⟩) (I.hok.fresh O) L ?_
      exact I.laid (fun b u e => AJ _ (hk b u e)) O (FnO.ok (A9 _ rfl))
    obtain ⟨name, qual, params, body, scope⟩ := S
    cases body with
    | stmts body => exact PySem.W.makeFunction_hit q I.ok.glob F d C g J hf U m
    | expr body => exact PySem.W.kla_makeFunctionHit q I.ok.glob F d C g J hf U fun a h' tk => m a .none h' tk
def tMk(cells:List (Str×Addr))(S:ClSt)(P0:Addr)(qs:List (Pos×Str)):TE:=fun σ H Q=>H P0=some (.tbl qs)/\∀ f c cl doc pm ct H1,Mkd H S.qual c H1->H1 f=none->ClOf cells S.scope cl->Q (.ref f) (upd H1 f (FnO f (S.obj cl doc pm c ct)))
theorem aPB{i:Nat}{x:Str}{params:Arguments}{body:List Stmt}{scope:Scope}(a:X.env.code=.ref c0)(T:Tb X.mg X.base c0 P0)(g:qualnameIn X.env x x=q)(o:(pos,q)∈qs)
  (w:∀ p∈qs,p.1.line=pos.line->p.1.col=pos.col->p.2=q) (b:∀ y∈scope.names,y.2=.free->X.env.kindOf y.1=some .cell\/X.env.kindOf y.1=some .free)
  (d:params.defaults=[]) (e:params.kw_defaults=[]) (B:annTrees params none X.env=[])
  (u:X.N.Nodup) (hi:X.N[i]? = some x) (hx:Loc X.env.scope x) (m:X.fn x=true\/X.env.scope.names.lookup x=some .local:=by exact .inl rfl) :
  PS X (.FunctionDef x params body [] none [] scope none x pos) (kG (tMk X.env.cells ⟨x,q,params,.stmts body,scope⟩ P0 qs) (j3 i)):=by
 intro pins s σ H D I h
 obtain ⟨z,h⟩:=h
 refine PySem.W.nestDef_K d e B ?_
 rw[g]
 refine aDM (S:=⟨x,q,params,.stmts body,scope⟩) I a T z o w (fun y n j=>I.ok.has _ (b y n j)) fun f c cl doc pm ct H1 s' A t C r=>?_
 exact p6 r u hi hx (v:=.ref f) rfl (fun l k=>⟨_,_,k,h f c cl doc pm ct H1 A t C⟩) m
theorem aPC{params:Arguments}{body:Expr}{scope:Scope}(a:X.env.code=.ref c0)(T:Tb X.mg X.base c0 P0)(e:X.env.qual++("<lambda>":Str)=q)(j:(pos,q)∈qs)
  (m:∀ p∈qs,p.1.line=pos.line->p.1.col=pos.col->p.2=q) (b:∀ y∈scope.names,y.2=.free->X.env.kindOf y.1=some .cell\/X.env.kindOf y.1=some .free)
  (d:defaultsOf params X.env=([],[])) :
  PE X (.Lambda params body scope pos) (tMk X.env.cells ⟨"<lambda>",q,params,.expr body,scope⟩ P0 qs):=by
 intro pins s σ H Q I h
 obtain ⟨n,h⟩:=h
 refine PySem.W.kla_eval d ?_
 rw[e]
 exact aDM (S:=⟨"<lambda>",q,params,.expr body,scope⟩) I a T n j m (fun y i g=>I.ok.has _ (b y i g)) fun f c cl doc pm ct H1 s' o l r k=>⟨.ref f,_,k,rfl,h f c cl doc pm ct H1 o l r⟩
end
abbrev Cv:=List (Addr×Obj×V)
noncomputable def pub(cv:Cv)(H:Hp):Hp:=fun b=>match cv.lookup b with
 | some p=>some (fC b p.1 p.2)
 | none=>H b
noncomputable def dL(cv:Cv):List Addr:=cv.map (·.1)
theorem jA{c:Cv}{b:Addr}:b∈dL c↔∃ p,c.lookup b=some p:=by
 unfold dL
 induction c with
 | nil=>simp
 | cons a r ih=>
  obtain ⟨x,p⟩:=a
  rw[AT,AZ,ih,BG]
  by_cases h:b=x
  ·subst h;simp
  ·rw[CQ h]
   simp[h]
theorem rS{a:Cv}{H:Hp}{b:Addr}{p:Obj×V}(h:a.lookup b=some p):pub a H b=some (fC b p.1 p.2):=by unfold pub;rw[h]
theorem fD{a:Cv}{H:Hp}{b:Addr}(h:b∉dL a):pub a H b=H b:=by
 unfold pub
 cases e:a.lookup b with
 | none=>rfl
 | some p=>exact absurd (jA.mpr ⟨p,e⟩) h
theorem lS{a:Cv}{H:Hp}(c:∀ b∈dL a,H b=none):aO H (pub a H):=fun b o e=>by
 rw[fD fun z=>by rw[c b z] at e;cases e];exact e
theorem aK4{P:Program}{w:World}{fs:List Addr}{d:Cv}{H H1:Hp}{h h':Heap}(k:∀ b∈dL d,H b=none)(l:HOk P w (pub d H) h)(un:Un fs [] (pub d H) H1 h h')(hk1:HOk P w H1 h') :
  Un fs [] H (hid (dL d) H1) h h'/\HOk P w (hid (dL d) H1) h':=by
 have inn:∀ b,b∈dL d->∃ o v,h.get? b=some o/\h'.get? b=some o/\H1 b=some (fC b o v):=fun b a=>by
  obtain ⟨⟨o,v⟩,e⟩:=jA.mp a
  have z:=rS (H:=H) e
  have g:=un.frzs b o _ z
  exact ⟨o,v,(fC.get l z).1,(fC.get hk1 g).1,g⟩
 have out:∀ b u,H b=some u->b∉dL d:=fun b u e z=>by rw[k b z] at e;cases e
 refine ⟨⟨fun b o e n h1 h2=>?_,fun b o e n h1 h2=>?_,fun b o e n h2=>?_,un.there,fun b xs q=>?_,fun b o u q=>?_,fun b ps q=>?_⟩,fun b u e=>?_⟩
 ·by_cases a:b∈dL d
  ·obtain ⟨o',v,f,i,_⟩:=inn b a
   rw[e] at f;cases f;exact i
  ·exact un.keep b o e (by rw[fD a];exact n) h1 h2
 ·by_cases a:b∈dL d
  ·obtain ⟨o',v,f,i,_⟩:=inn b a
   rw[e] at f;cases f;exact ⟨o.slots,i⟩
  ·exact un.slot b o e (by rw[fD a];exact n) h1 h2
 ·by_cases a:b∈dL d
  ·exact pD a
  ·rw[cD a];exact un.free b o e (by rw[fD a];exact n) h2
 ·have a:=out b _ q
  rw[cD a];exact un.tups b xs (by rw[fD a];exact q)
 ·have a:=out b _ q
  rw[cD a];exact un.frzs b o u (by rw[fD a];exact q)
 ·have a:=out b _ q
  rw[cD a];exact un.tbls b ps (by rw[fD a];exact q)
 ·obtain ⟨e1,a⟩:=qA e
  have j:∀ c o,H1 c=some o->(∀ o' v,o≠fC c o' v)->c∉dL d:=fun c o q n z=>by
   obtain ⟨o',v,_,_,g⟩:=inn c z
   rw[q] at g;cases g;exact n o' v rfl
  exact (hk1 b u e1).stay (fun _ _ _ q=>q) (fun c q=>by rw[cD (j c _ q fun _ _ z=>nomatch z)];exact q) (fun c _ q=>by rw[cD (j c _ q fun _ _ z=>nomatch z)];exact q) fun c _ q=>by rw[cD (j c _ q fun _ _ z=>nomatch z)];exact q
structure PubRel(X:Cx)(σ:St)(H:Hp)(js:List Nat)(cv:Cv):Prop where
 at':∀ b o v,cv.lookup b=some (o,v)->∃ x j,j∈js/\X.N[j]? = some x/\X.env.cells.lookup x=some b/\σ[j]? = some (some v)
 all:∀ j∈js,∃ x c o v,X.N[j]? = some x/\X.env.cells.lookup x=some c/\σ[j]? = some (some v)/\cv.lookup c=some (o,v)
 free:∀ b∈dL cv,H b=none
 inj:∀ x y c,X.env.cells.lookup x=some c->X.env.cells.lookup y=some c->x=y
section
variable{X:Cx}{pins:List (Addr×Obj)}{σ:St}{H:Hp}{s:Shared}
def aAX(X:Cx)(σ:St)(j:Nat):Prop:=∃ x v,X.N[j]? = some x/\X.env.kindOf x=some .cell/\X.fn x=true/\σ[j]? = some (some v)
theorem aHA(I:Inv X pins σ H s):∀ (js:List Nat),(∀ j∈js,aAX X σ j)->∃ cv,PubRel X σ H js cv/\∀ b o v,cv.lookup b=some (o,v)->(∃ u,s.heap.get? b=some o/\o.data=.cell (some u)/\bJ v u)/\X.s₀.heap.objs.size<=b/\∃ x,X.env.cells.lookup x=some b
 | [],_=>⟨[],⟨fun b o v e=>by simp at e,fun j hj=>by simp at hj,fun b hb=>by simp[dL] at hb,I.ok.inj⟩,fun b o v e=>by simp at e⟩
 | j::js,hj=>by
  obtain ⟨cv,R,ok⟩:=aHA I js fun y h'=>hj y (AM _ h')
  obtain ⟨x,v,q,f,N,n⟩:=hj j AX
  obtain ⟨m,U,G⟩:=I.loc
  obtain ⟨u,r,l⟩:=G j x v q n (.inr (.inl f))
  rcases l with ⟨i,_⟩|⟨_,c,d,o,F,K⟩
  ·rw[f] at i;cases i
  ·have h:=I.ok.cab x c N d
   by_cases g:c∈dL cv
   ·obtain ⟨⟨o',a⟩,e⟩:=jA.mp g
    obtain ⟨p,y,O,t,C,A⟩:=R.at' c o' a e
    have w:x=p:=I.ok.inj x p c d C
    subst w
    refine ⟨cv,⟨fun b o v e=>?_,fun k f=>?_,R.free,R.inj⟩,ok⟩
    ·obtain ⟨x,j,h1,h2⟩:=R.at' b o v e
     exact ⟨x,j,AM _ h1,h2⟩
    ·rcases AZ.mp f with z|z
     ·subst z
      obtain ⟨V,r2,T⟩:=G y x a t A (.inr (.inl (by assumption)))
      obtain ⟨⟨S,J,M,Q⟩,_⟩:=ok c o' a e
      rw[F] at J;cases J
      rw[K] at M
      have:u=S:=by cases M;rfl
      subst this
      have D:v=a:=bJ.inj r Q
      subst D
      exact ⟨x,c,_,v,q,d,n,e⟩
     ·exact R.all k z
   ·refine ⟨(c,o,v)::cv,⟨fun b o' a e=>?_,fun k f=>?_,fun b hb=>?_,R.inj⟩,fun b o' a e=>?_⟩
    ·rw[BG] at e
     by_cases hb:b=c
     ·subst hb
      simp only[C6] at e
      cases e
      exact ⟨x,j,AX,q,d,n⟩
     ·rw[CQ hb] at e
      obtain ⟨x,j,h1,h2⟩:=R.at' b o' a e
      exact ⟨x,j,AM _ h1,h2⟩
    ·rcases AZ.mp f with z|z
     ·subst z
      exact ⟨x,c,o,v,q,d,n,by rw[BG];simp⟩
     ·obtain ⟨p,L,o',a,h1,h2,P,E⟩:=R.all k z
      refine ⟨p,L,o',a,h1,h2,P,?_⟩
      rw[BG,CQ (show L≠c from fun z=>by rw[z] at E;exact g (jA.mpr ⟨_,E⟩))];exact E
    ·have B:b=c\/b∈dL cv:=by simpa[dL] using hb
     rcases B with z|z
     ·subst z;exact I.freeC x b d
     ·exact R.free b z
    ·rw[BG] at e
     by_cases hb:b=c
     ·subst hb
      simp only[C6] at e
      cases e
      exact ⟨⟨u,F,K,r⟩,h,x,d⟩
     ·rw[CQ hb] at e
      exact ok b o' a e
theorem aL6(I:Inv X pins σ H s){js:List Nat}{d:Cv}(R:PubRel X σ H js d)(ok:∀ b o v,d.lookup b=some (o,v)->(∃ u,s.heap.get? b=some o/\o.data=.cell (some u)/\bJ v u)/\X.s₀.heap.objs.size<=b/\∃ x,X.env.cells.lookup x=some b) :
  Env0 X.prog X.w X.K X.mg X.base X.A X.stack s (pub d H) where
 frames:=I.ok.frames
 mod:=I.ok.mod
 bs:=fun b o e=>⟨(I.bs b o e).1,by
  rw[fD]
  ·exact (I.bs b o e).2
  ·intro z
   obtain ⟨⟨o',v⟩,q⟩:=jA.mp z
   have h1:=(ok b o' v q).2.1
   have h2:=AS e
   exact absurd (A1 h2 (BJ I.ok.bsz h1)) (B7 _)⟩
 bsz:=BJ I.ok.bsz I.sz
 funs:=I.stack
 frf:=fun b a=>by
  rw[fD]
  ·exact I.stkFree b a
  ·intro z
   obtain ⟨⟨o',v⟩,q⟩:=jA.mp z
   obtain ⟨_,h1,x,i⟩:=ok b o' v q
   rcases AZ.mp (I.stkSub b a) with f|f
   ·exact I.cne x b i f
   ·obtain ⟨_,o,h,_⟩:=I.ok.funs.mem f
    exact absurd (A1 (AS h) h1) (B7 _)
 hok:=fun b u e=>by
  by_cases a:b∈dL d
  ·obtain ⟨⟨o,v⟩,q⟩:=jA.mp a
   rw[rS q] at e;cases e
   obtain ⟨⟨u,h1,h2,g⟩,_⟩:=ok b o v q
   exact fC.ok g h1 h2
  ·rw[fD a] at e
   exact (I.hok b u e).stay (fun _ _ _ q=>q) (fun c q=>lS R.free _ _ q) (fun c _ q=>lS R.free _ _ q) fun c _ q=>lS R.free _ _ q
 bare:=I.bare
def aHB(X:Cx)(js:List Nat)(sp:Sp)(E:XK)(t:TA):TE:=fun σ H Q=>t σ H fun vs H1=>(∀ j∈js,aAX X σ j)/\∀ cv,PubRel X σ H1 js cv->sp vs (pub cv H1) (fun v H2=>Q v (hid (dL cv) H2)) (fun c e H2=>E c e (hid (dL cv) H2)/\∀ a,e=some a->a∉dL cv)
theorem aPD{k:Nat}{x:Str}{ps:List Str}{sp:Sp}{E:XK}{p pos:Pos}{e:Expr}{es:List Expr}{t:TA}{js:List Nat}(C:Calls X.prog X.w X.K X.mg X.base (CXe X.prog X.w) k x ps sp)(O:Room k X.A)(M:Gl X x)(hx:mQ (CXe X.prog X.w) X E)(Y:PA X (e::es) t)(o:(x == ("__debug__":Str))=false:=by decide)
  (he:starEach (e::es) X.env=(false,eval e X.env)::starEach es X.env:=by rfl) (hpl:(backTo pos (starEach es X.env)).any (·.1)=false:=by rfl):PE X (.Call (.Name x p) (e::es) [] pos) (aHB X js sp E t):=by
 obtain ⟨f,fd,F,b,m,P⟩:=C
 intro pins s σ H Q I h
 refine CW (pA I M m ?_ o)
 refine DR (h₀:=X.base) I.ok.mod.kin P (thn (Y pos pins s σ H _ I h) fun us s1 ⟨vs,H1,g,r,y,q⟩=>⟨g.kIn,?_⟩) he hpl
 obtain ⟨z,R,ok⟩:=aHA g js y
 have i:=q z R
 have e0:=aL6 g R ok
 have L:us.length=ps.length:=by rw[<-r.length];exact F.len _ _ _ _ i
 have B:=b s1 us g.kIn (by simpa using L)
 rw[B9] at B
 refine E2 (EK (F.run X.A X.stack s1 _ ⟨us,[]⟩ us vs _ _ O e0 B r i) fun G s' j=>?_)
 cases G with
 | error ev=>
  obtain ⟨e,C,od,H',rfl,os,c,un,hok,l,⟨n,T,N,V,D⟩,U,W⟩:=j
  obtain ⟨d,a⟩:=aK4 R.free e0.hok un hok
  refine hx pins σ H1 s1 (.ref e) s' g ⟨e,C,od,hid (dL z) H',rfl,os,c,d,a,?_,⟨n,T,N,V,fun t e1=>?_⟩,U⟩
  ·rw[cD (W e rfl)];exact l
  ·exact ⟨jK (D t e1).1,(D t e1).2⟩
 | ok fl=>
  cases fl with
  | ret u=>
   obtain ⟨v,H',os,c,un,hok,S,J⟩:=j
   obtain ⟨d,a⟩:=aK4 R.free e0.hok un hok
   exact g.after ⟨v,hid (dL z) H',os,c,d,a,S,J⟩
  | next=>exact False.elim j
  | brk=>exact False.elim j
  | cont=>exact False.elim j
end
noncomputable def aAY(Ps:List Addr)(qs:List (Pos×Str)):Hp:=fun b=>if b∈Ps then some (.tbl qs) else none
def aAZ(mg:Str->Option Value)(h base:Heap)(T:Hp)(qs:List (Pos×Str))(xs:List Str):Prop:=
 ∀ x∈xs,∃ c0 P0,T P0=some (.tbl qs)/\Tb mg base c0 P0/\∀ f o fd,mg x=some (.ref f)->h.get? f=some o->o.data=.func fd->fd.code=.ref c0
theorem aHC{P:Program}{w:World}{K:Frag}{mg mb:Str->Option Value}{CX:CXT}{k:Nat}{fa a:Addr}{fd:FuncData}{x:Str}{c:Shared}{vs:List Value}{ns:List Int}{qs:List (Pos×Str)}{xs:List Str}{tb:Str->Addr×Addr}
  (hT:∀ x∈xs,PySem.W.CodeHd c.heap (tb x).1 (tb x).2/\c.heap.get? (tb x).2=some (PySem.W.tabObj #[])) (aj:∀ x∈xs,∀ f o fd,mg x=some (.ref f)->c.heap.get? f=some o->o.data=.func fd->fd.code=.ref (tb x).1)
  (ad:∃ bm ob,mg "__builtins__"=some (.ref bm)/\bm≠builtinsNs/\c.heap.get? bm=some ob/\ob.cls=.type "module"/\ob.dict=some builtinsNs/\ob.data=.plain) (hNT:PySem.W.noTabs K=true)
  (KX:K.In c.heap) (S:c.heap.Ns mainGlobals mg) (g:c.heap.Ns builtinsNs mb) (ai:∀ x:Str,x≠"__name__"->mb x=bootBuiltins x) (M:c.heap.NoLimit) (hg:c.gens = #[])
  (Z:c.heap.get? a=some {cls:=.type "list",data:=.seq vs.toArray}) (hi:IntsAre vs ns) (hl:ns.length<=sizeLine) (hr:Room k callerA)
  (F:∀ (base:Heap) (T:Hp),K.In base->base.Ns mainGlobals mg->aAZ mg c.heap base T qs xs->∃ sp,FnOk P w K mg base CX k fa fd [x] sp/\∀ H:Hp,aO T H->SqL K H a (ns.map V.int)->sp [.ref a] H (fun v _=>v=.bl true) fun _ _ _=>False) (hbind:∀ (s:Shared) (u:Value),BindsTo s fd ⟨[u],[]⟩ [(x,u)])
  (hCX:∀ H e s',CX [] H c (fun _ _ _=>False) e s'->False) :
  codeAny (model P w) callerA (.call (.ref fa) ⟨[.ref a],[]⟩) (fun r s'=>r=.ok (.ret (.bool true))/\OldK c.heap s'.heap/\s'.os=c.os/\AllBare s'.gens) c:=by
 have rv:=yR hi
 have U:=hi.length
 let Ps:List Addr:=xs.map fun x=>(tb x).2
 have l:∀ b∈Ps,c.heap.get? b=some (PySem.W.tabObj #[])/\isCodeTable c.heap b:=fun b g=>by
  obtain ⟨y,J,rfl⟩:=BA.mp g
  exact ⟨(hT y J).2,((hT y J).1.tab (hT y J).2).isCodeTable⟩
 have I:a∉Ps:=fun z=>by have:=(l a z).1;rw[Z] at this;cases this
 have aa:∀ b∈Ps,K.lookup b=none:=fun b g=>by
  cases e:K.lookup b with
  | none=>rfl
  | some o=>
   have e2:=KX b o e
   rw[(l b g).1] at e2
   cases e2
   have h2:=BW.mp hNT (b,_) (PySem.W.mem_of_lookupK e)
   exact absurd (show false=true from h2) BT
 have D:∀ H:Hp,(∀ b∈Ps,H b=some (.tbl qs))->(∀ b,H b≠none->b=a\/b∈Ps)->(H a=none\/∃ o xs,H a=some (.frz o (.lst xs)))->SqL K H a (ns.map V.int)->HOk P w H c.heap->(H a≠none->K.lookup a=none)->
   codeAny (model P w) callerA (.call (.ref fa) ⟨[.ref a],[]⟩) (fun r s'=>r=.ok (.ret (.bool true))/\OldK c.heap s'.heap/\s'.os=c.os/\AllBare s'.gens) c:=by
  intro H hP hA hO hS O hK
  have i:∀ {b:Addr} {o:Obj},c.heap.get? b=some o->H b=none->(oZ c.heap H).get? b=some o:=fun e n=>aIN e n
  have j:∀ {b:Addr} {o:Obj},c.heap.get? b=some o->(∀ vs,o.data≠.seq vs)->o≠PySem.W.tabObj #[]->H b=none:=fun {b o} e d d2=>by
   cases q:H b with
   | none=>rfl
   | some u=>
    rcases hA b (by rw[q];simp) with G|G
    ·subst G
     rw[Z] at e;cases e
     exact absurd rfl (d _)
    ·rw[(l b G).1] at e;cases e;exact absurd rfl d2
  have ae:∀ {b:Addr} {o:Obj} {es:Array DictEntry} {ep:Nat},c.heap.get? b=some o->o.data=.dict es ep->H b=none:=fun {b o es ep} e d=>j e (fun vs z=>by rw[d] at z;cases z) fun z=>by rw[z] at d;cases d
  have C:∀ {b:Addr} {m:Str->Option Value},c.heap.Ns b m->(oZ c.heap H).Ns b m:=fun {b m} ⟨o,es,ep,e,d,r⟩=>⟨o,es,ep,i e (ae e d),d,r⟩
  have Y:K.In (oZ c.heap H):=fun b o e=>i (KX b o e) (by
   cases q:H b with
   | none=>rfl
   | some u=>
    rcases hA b (by rw[q];simp) with G|G
    ·subst G
     rw[hK (by rw[q];simp)] at e;cases e
    ·rw[aa b G] at e;cases e)
  have hM:Mod K mg (oZ c.heap H):=⟨Y,C S,⟨mb,C g,ai⟩,let ⟨mc,h1,h2⟩:=M;⟨mc,C h1,h2⟩⟩
  have e0:Env0 P w K mg (oZ c.heap H) callerA [] c H:=⟨rfl,hM,fun b o e=>aLN e,Nat.le_of_eq (aGC _ _),trivial,fun b g=>absurd (show b∈([]:List Addr) from g) (by simp),O,.of_eq hg⟩
  have ag:aAZ mg c.heap (oZ c.heap H) (aAY Ps qs) qs xs:=fun y J=>by
   refine ⟨(tb y).1,(tb y).2,AD (BA.mpr ⟨y,J,rfl⟩),⟨?_,?_⟩,aj y J⟩
   ·obtain ⟨o,vs,R,tf,L,tg,af,X,tt,e1,r1,r2,r3⟩:=(hT y J).1
    exact ⟨o,vs,R,tf,L,tg,af,X,tt,i e1 (j e1 (fun vs z=>by rw[r2] at z;cases z) fun z=>by rw[z] at r1;cases r1),r1,r2,r3⟩
   ·obtain ⟨bm,ob,b1,b2,b3,b4,b5,b6⟩:=ad
    exact ⟨bm,ob,b1,b2,i b3 (j b3 (fun vs z=>by rw[b6] at z;cases z) fun z=>by rw[z] at b4;cases b4),b4,b5,b6⟩
  have ac:aO (aAY Ps qs) H:=fun b o e=>by
   unfold aAY at e
   split at e
   ·rename_i g;cases e;exact hP b g
   ·cases e
  obtain ⟨sp,FO,ah⟩:=F _ _ Y (C S) ag
  refine EK (FO.run callerA [] c H ⟨[.ref a],[]⟩ [.ref a] [.ref a] _ _ hr e0 (hbind c (.ref a)) (.cons rfl .nil) (ah H ac hS)) fun r s' h=>?_
  cases r with
  | error e=>exact (hCX H e s' h).elim
  | ok fl=>
   cases fl with
   | next=>exact False.elim h
   | brk=>exact False.elim h
   | cont=>exact False.elim h
   | ret u=>
    obtain ⟨v,H',os,Q,un,A,r',q⟩:=h
    have q':v=.bl true:=q
    subst q'
    obtain rfl:u=Value.bool true:=r'
    have kept:∀ b o,c.heap.get? b=some o->b∉Ps->s'.heap.get? b=some o:=fun b o e g=>by
     cases q:H b with
     | none=>exact un.keep b o e q (by intro z;exact absurd (show b∈([]:List Addr) from z) (by simp)) (by simp)
     | some u=>
      rcases hA b (by rw[q];simp) with z|z
      ·subst z
       rcases hO with z|⟨ob,xs,z⟩
       ·rw[q] at z;cases z
       ·have N:=un.frzs b ob _ z
        obtain ⟨e1,_⟩:=O b _ z
        obtain ⟨e2,_⟩:=A b _ N
        rw[e] at e1;cases e1
        exact e2
      ·exact absurd z g
    refine ⟨rfl,⟨fun b o e=>?_,fun b o e=>?_⟩,os,Q⟩
    ·by_cases g:b∈Ps
     ·obtain ⟨ps,e2,_⟩:=(show cN P w H' s'.heap b (.tbl qs) from A b _ (un.tbls b _ (hP b g)))
      have e1:=(l b g).1
      rw[e] at e1;cases e1
      exact .inr (.inl ⟨(l b g).2,rfl,#[],ps,rfl,by rw[Array.empty_append];exact e2⟩)
     ·exact .inl (kept b o e g)
    ·by_cases g:b∈Ps
     ·obtain ⟨ps,e2,_⟩:=(show cN P w H' s'.heap b (.tbl qs) from A b _ (un.tbls b _ (hP b g)))
      exact ⟨_,e2⟩
     ·exact ⟨o,kept b o e g⟩
 have B:∀ (H:Hp) b,b∈Ps->cN P w H c.heap b (.tbl qs):=fun H b g=>⟨#[],(l b g).1,trivial,fun p _=>.inl rfl⟩
 cases hk:K.lookup a with
 | some o=>
  have e:=KX a o hk
  rw[Z] at e
  cases e
  refine D (aAY Ps qs) (fun b g=>AD g) (fun b z=>?_) (.inl (AE I)) (.inr ⟨_,vs.toArray,_,hk,rfl,rfl,rfl,by rw[A4,U];exact hl,by simpa using rv⟩) (fun b u z=>?_) fun z=>absurd (AE I) z
  ·by_cases g:b∈Ps
   ·exact .inr g
   ·exact absurd (AE g) z
  ·by_cases g:b∈Ps
   ·have E:=(AD g).symm.trans z
    cases E
    exact B _ b g
   ·have E:=(AE g).symm.trans z
    cases E
 | none=>
  refine D (fun b=>if b=a then some (.frz {cls:=.type "list",data:=.seq vs.toArray} (.lst (ns.map V.int))) else aAY Ps qs b) (fun b g=>?_) (fun b z=>?_) (.inr ⟨_,_,AD rfl⟩) (.inl (.inr ⟨{cls:=.type "list",data:=.seq vs.toArray},AD rfl⟩)) (fun b u z=>?_) fun _=>hk
  ·rw[AE (show ¬ b=a from fun z=>I (by rw[<-z];exact g))];exact AD g
  ·by_cases g:b=a
   ·exact .inl g
   ·rw[AE g] at z
    by_cases t:b∈Ps
    ·exact .inr t
    ·exact absurd (AE t) z
  ·by_cases g:b=a
   ·have E:=(AD g).symm.trans z
    cases E
    subst g
    exact ⟨Z,by rw[AB];exact hl,vs,_,rv,Z⟩
   ·have E:=(AE g).symm.trans z
    by_cases t:b∈Ps
    ·have N:=(AD t).symm.trans E
     cases N
     exact B _ b t
    ·have N:=(AE t).symm.trans E
     cases N
theorem aL7{p:Program}{b:List Str}{g:ExcName->Option Value}{mg l:Str->Option Value}{h:Heap}(T:Top p b g mg l h)(xs:List Str)(hx:∀ x∈xs,∃ d∈recsOf p,d.name=x) :
  ∃ tb:Str->Addr×Addr,(∀ x∈xs,PySem.W.CodeHd h (tb x).1 (tb x).2/\h.get? (tb x).2=some (PySem.W.tabObj #[]))/\∀ x∈xs,∀ f o fd,mg x=some (.ref f)->h.get? f=some o->o.data=.func fd->fd.code=.ref (tb x).1:=by
 have e:∀ x,∃ t:Addr×Addr,x∈xs->(PySem.W.CodeHd h t.1 t.2/\h.get? t.2=some (PySem.W.tabObj #[]))/\∀ f o fd,mg x=some (.ref f)->h.get? f=some o->o.data=.func fd->fd.code=.ref t.1:=fun x=>by
  by_cases k:x∈xs
  ·obtain ⟨d,s,rfl⟩:=hx x k
   obtain ⟨a,o,fd,c,n,h1,h2,m,u,r,j⟩:=T.tab d s
   refine ⟨(c,n),fun _=>⟨⟨PySem.W.CodeHd.of r j,j.2⟩,fun f o' q e1 e2 i=>?_⟩⟩
   rw[h1] at e1;cases e1
   rw[h2] at e2;cases e2
   rw[m] at i;cases i
   exact u
  ·exact ⟨(0,0),fun z=>absurd z k⟩
 exact ⟨fun x=>(e x).choose,fun x hx=>((e x).choose_spec hx).1,fun x hx=>((e x).choose_spec hx).2⟩
theorem walk_ofT{l:PySem.W.OpenLaw}{n k:Nat}{q:Program}{j:List Str}{E:(Str->Option Value)->Heap->Prop}{C:World->Heap->Prop}{d:DefRec}{K:Params->Frag}{CX:World->CXT}{x:Str}{qs:List (Pos×Str)}{xs:List Str}
  (B:∀ x∈xs,∃ d∈recsOf q,d.name=x) (hNT:∀ w:World,PySem.W.noTabs (K w.params)=true)
  (S:l.most=some n) (A:n<=sizeLine) (r:d.params.defaults=[]) (O:Room k callerA)
  (P:∀ (w:World) (h:Heap),C w h->(K w.params).In h)
  (F:∀ (w:World) (mg:Str->Option Value) (fa:Addr) (h:Heap),(K w.params).In h->h.Ns mainGlobals mg->mg d.name=some (.ref fa)->
   ∃ fd:FuncData,(∀ (s:Shared) (u:Value),BindsTo s fd ⟨[u],[]⟩ [(x,u)]) /\
    ∀ (base:Heap) (T:Hp),(K w.params).In base->base.Ns mainGlobals mg->aAZ mg h base T qs xs->∃ sp,FnOk l.prog w (K w.params) mg base (CX w) k fa fd [x] sp /\
     ∀ (H:Hp) (a:Addr) (ns:List Int),ns.length<=n->aO T H->SqL (K w.params) H a (ns.map V.int)->sp [.ref a] H (fun v _=>v=.bl true) fun _ _ _=>False)
  (t:∀ (w:World) (H:Hp) (s:Shared) (e:Value) (s':Shared),CX w [] H s (fun _ _ _=>False) e s'->False) :
  PySem.W.WalkO q j E C l.row.toRowW d [] (fun f vs=>PySem.call f vs):=by
 refine Att.attach_call S r fun w s₀ m mg mb fa o pm cd doc a vs ns G Y ho hd I z p i c M=>?_
 have D:=P w _ Y
 obtain ⟨fd,J,N⟩:=F w mg fa _ D G.T.g z
 obtain ⟨tb,R,y⟩:=aL7 G.T xs B
 refine aHC (qs:=qs) R y G.T.bmain (hNT w) D G.T.g G.T.b G.T.builtins G.T.nolimit M p i (BJ c A) O (fun base T X L U=>?_) J fun H e s'=>t w H m e s'
 obtain ⟨sp,Q,Z⟩:=N base T X L U
 exact ⟨sp,Q,fun H h1 h2=>Z H a ns c h1 h2⟩
end L2
namespace Fl
open PySem L2 PyProof.Rows
mutual
noncomputable def gA:PyData->Bool
 | .none=>true
 | .int _=>true
 | .str x=>PyData.strOk x
 | .tuple xs=>eZ xs
 | _=>false
noncomputable def eZ:List PyData->Bool
 | []=>true
 | x::t=>gA x && eZ t
end
mutual
noncomputable def jH(w:World):PyData->Int
 | .none=>reduceHash 0xFCA86420
 | .int i=>hashInt i
 | .str x=>hashStr w x
 | .tuple xs=>reduceHash (Builtin.Tuple.tupleHashOf (nN w xs))
 | _=>0
noncomputable def nN(w:World):List PyData->List Int
 | []=>[]
 | x::t=>jH w x::nN w t
end
mutual
noncomputable def iE:PyData->Nat
 | .tuple xs=>nY xs+1
 | _=>1
noncomputable def nY:List PyData->Nat
 | []=>0
 | x::t=>iE x+nY t
end
mutual
theorem pE:∀ {d:PyData},gA d=true->d.canLay0=true
 | .none,_=>rfl
 | .int _,_=>rfl
 | .str x,h=>h
 | .tuple xs,h=>by
  have h':eZ xs=true:=h
  exact aA0 h'
theorem aA0:∀ {xs:List PyData},eZ xs=true->PyData.canLayAll0 xs=true
 | [],_=>rfl
 | x::t,h=>by
  have h':(gA x && eZ t)=true:=h
  rw[AU] at h'
  show (x.canLay0 && PyData.canLayAll0 t)=true
  rw[pE h'.1,aA0 h'.2];rfl
end
mutual
theorem xF:∀ {d e:PyData},gA d=true->gA e=true->(PyData.eqv d e=true↔d=e)
 | .none,e,_,he=>by cases e<;>simp[PyData.eqv]<;>cases he
 | .int i,e,_,he=>by cases e<;>simp[PyData.eqv]<;>cases he
 | .str x,e,_,he=>by cases e<;>simp[PyData.eqv]<;>cases he
 | .tuple xs,e,hd,he=>by
  have hd':eZ xs=true:=hd
  cases e with
  | tuple ys=>
   have a:eZ ys=true:=he
   have:=aA1 hd' a
   show PyData.eqvAll xs ys=true↔_
   rw[this]
   exact ⟨fun z=>by rw[z],fun z=>by cases z;rfl⟩
  | _=>simp[PyData.eqv]<;>cases he
theorem aA1:∀ {xs ys:List PyData},eZ xs=true->eZ ys=true->(PyData.eqvAll xs ys=true↔xs=ys)
 | [],ys,_,_=>by cases ys<;>simp[PyData.eqvAll]
 | x::t,ys,hx,hy=>by
  have hx':(gA x && eZ t)=true:=hx
  rw[AU] at hx'
  cases ys with
  | nil=>simp[PyData.eqvAll]
  | cons y u=>
   have c:(gA y && eZ u)=true:=hy
   rw[AU] at c
   rw[PyData.eqvAll,AU,xF hx'.1 c.1,aA1 hx'.2 c.2]
   exact ⟨fun ⟨a,b⟩=>by rw[a,b],fun z=>by cases z;exact ⟨rfl,rfl⟩⟩
end
noncomputable instance decPyData:DecidableEq PyData:=fun a b=>Classical.propDecidable (a=b)
theorem aL8{d e:PyData}(a:gA d=true)(b:gA e=true):PyData.eqv d e=decide (d=e):=by
 by_cases h:d=e
 ·rw[A3 h,(xF a b).mpr h]
 ·rw[A7 h]
  cases q:PyData.eqv d e with
  | false=>rfl
  | true=>exact absurd ((xF a b).mp q) h
theorem aE9(xs:List PyData):iE (.tuple xs)=nY xs+1:=by rw[iE]
theorem yU(A:Around):A.in1.units=A.units+1:=rfl
def mS(prog:Program)(w:World)(E:Value->Shared->Prop)(d:PyData):Prop:=∀ (v:Value) (as:List Addr) (A:Around) (s:Shared) (Q:Int->Shared->Prop),gA d=true->Reads s.heap v d as->A.units+d.depth < cLine->Q (jH w d) {s with toks:=s.toks+iE d}->
 wpAny (model prog w) A (pyHash v) Q E s
theorem aPE{prog:Program}{w:World}{E:Value->Shared->Prop}:∀ (xs:List PyData) (ih:∀ x∈xs,mS prog w E x) (vs:List Value) (as:List Addr) (A:Around) (s:Shared) (b:Array Int) (Q:Array Int->Shared->Prop),eZ xs=true->ReadsAll s.heap vs xs as->A.units+PyData.depthAll xs < cLine->
  (∀ b',b'.toList=b.toList++nN w xs->Q b' {s with toks:=s.toks+nY xs})->
  wpAny (model prog w) A (forIn vs b fun x r=>do let h <-pyHash x;pure PUnit.unit;pure (ForInStep.yield (r.push h))) Q E s:=by
 intro xs
 induction xs with
 | nil=>
  intro ih vs as A s b Q _ x _ h
  cases x
  exact AC (h b (by simp[nN]))
 | cons k xs ih0=>
  intro ih vs as A s b Q f x e h
  cases x with
  | @cons v vs _ _ as bs x1 x2=>
   have a:(gA k && eZ xs)=true:=f
   rw[AU] at a
   have d:A.units+max k.depth (PyData.depthAll xs) < cLine:=e
   rw[DC]
   refine AA (AA (ih k AX _ _ A s _ a.1 x1 (by omega) ?_))
   refine AA (AC (AC ?_))
   refine ih0 (fun x g=>ih x (AM _ g)) _ _ A {s with toks:=s.toks+iE k} _ Q a.2 x2 (by omega) fun b' c=>?_
   have q:=h b' (by rw[c];simp[nN])
   rw[show nY (k::xs)=iE k+nY xs by rw[nY],<-Nat.add_assoc] at q
   exact q
theorem yV(w:World)(i:Int):jH w (.int i)=hashInt i:=by rw[jH]
theorem yW(w:World)(i:Str):jH w (.str i)=hashStr w i:=by rw[jH]
theorem aHD(w:World)(xs:List PyData):jH w (.tuple xs)=reduceHash (Builtin.Tuple.tupleHashOf (nN w xs)):=by rw[jH]
theorem aFA(i:Int):iE (.int i)=1:=by unfold iE;rfl
theorem aFB(i:Str):iE (.str i)=1:=by unfold iE;rfl
theorem aJA{prog:Program}{w:World}{E:Value->Shared->Prop}(i:Int):mS prog w E (.int i):=fun v a A s Q _ r _ h=>by
 rw[yV,aFA] at h
 cases r
 exact wpAny_pyHash_int h
theorem aJB{prog:Program}{w:World}{E:Value->Shared->Prop}(i:Str):mS prog w E (.str i):=fun v a A s Q _ r _ h=>by
 rw[yW,aFB] at h
 cases r
 exact wpAny_pyHash_str h
theorem aJC{prog:Program}{w:World}{E:Value->Shared->Prop}(xs:List PyData)(i:∀ x∈xs,mS prog w E x):mS prog w E (.tuple xs):=fun v d A s Q j r g h=>by
 rw[aHD,aE9] at h
 cases r with
 | @tuple a o vs n _ d h1 h2 h3 h4=>
  have c:eZ xs=true:=j
  have f:A.units+(PyData.depthAll xs+1) < cLine:=g
  refine PySem.W.pyHash_slot (T:="tuple") ⟨o,h1,h2⟩ F.slot_tuple_hash F.entry_tuple_hash (F.args_tuple_hash_1 _) (beq_builtin_none _) (.inr (by omega)) ?_
  show wpAny _ _ (Builtin.Tuple.tupleItemsOf (.ref a) >>= _) _ _ s
  refine AA (wpAny_tupleItemsOf h1 h3 ?_)
  refine AA ?_
  rw[<-Array.forIn_toList]
  refine aPE xs i vs.toList d A.in1 s #[] _ c h4 (by rw[yU];omega) fun b e=>?_
  show wpAny _ _ (retInt (Builtin.Tuple.tupleHashOf b.toList)) _ _ _
  rw[e]
  exact AA (wpAny_mkInt (AC ⟨_,_,rfl,h⟩))
theorem aFC(w:World):jH w .none=reduceHash 0xFCA86420:=by rw[jH]
theorem aCY:iE .none=1:=by unfold iE;rfl
theorem aJD{prog:Program}{w:World}{E:Value->Shared->Prop}:mS prog w E .none:=fun v b A s Q _ r c h=>by
 rw[aFC,aCY] at h
 generalize a:reduceHash 0xFCA86420=g at h
 cases r
 refine PySem.W.pyHash_slot (T:="NoneType") rfl F.slot_NoneType_hash F.entry_NoneType_hash (F.args_NoneType_hash_1 _) (beq_builtin_none _) (.inr (by omega)) (AA (AC (AA (wpAny_mkInt (AC ⟨0xFCA86420,_,rfl,?_⟩)))))
 rw[a]
 exact h
theorem aPF{prog:Program}{w:World}{E:Value->Shared->Prop}:∀ (n:Nat) (d:PyData),sizeOf d<=n->mS prog w E d:=by
 intro n
 induction n with
 | zero=>intro d h;cases d<;>simp at h
 | succ n ih=>
  intro d h
  cases d with
  | none=>exact aJD
  | int i=>exact aJA i
  | str x=>exact aJB x
  | tuple xs=>
   refine aJC xs fun x e=>ih x ?_
   have:=List.sizeOf_lt_of_mem e
   simp only[PyData.tuple.sizeOf_spec] at h
   omega
  | bool b=>exact fun v c A s Q a=>nomatch a
  | list xs=>exact fun v c A s Q a=>nomatch a
  | dict xs=>exact fun v c A s Q a=>nomatch a
theorem aPG{prog:Program}{w:World}{E:Value->Shared->Prop}(d:PyData):mS prog w E d:=aPF (sizeOf d) d (AG _)
theorem aL9{M:Model}{A:Around}{E:Value->Shared->Prop}{s:Shared}:∀ (n:Nat) (d:PyData) (v:Value) (as:List Addr) (Q:Bool->Shared->Prop),gA d=true->Reads s.heap v d as->d.depth<=n->Q true s->wpAny M A (eqIsQuiet n v) Q E s:=by
 intro n
 induction n with
 | zero=>
  intro d v as Q c r j h
  cases d with
  | none=>cases r;rw[DE _ rfl];exact AC h
  | int i=>cases r;rw[DE _ rfl];exact AC h
  | str x=>cases r;rw[DE _ rfl];exact AC h
  | tuple xs=>
   have f:PyData.depthAll xs+1<=0:=j
   omega
  | bool b=>exact nomatch c
  | list xs=>exact nomatch c
  | dict xs=>exact nomatch c
 | succ n ih=>
  intro d v as Q c r j h
  cases d with
  | none=>cases r;rw[DE _ rfl];exact AC h
  | int i=>cases r;rw[DE _ rfl];exact AC h
  | str x=>cases r;rw[DE _ rfl];exact AC h
  | bool b=>exact nomatch c
  | list xs=>exact nomatch c
  | dict xs=>exact nomatch c
  | tuple xs=>
   cases r with
   | @tuple a o vs m _ as h1 h2 h3 h4=>
    have g:eZ xs=true:=c
    have f:PyData.depthAll xs+1<=n+1:=j
    have l:s.TypeIs (.ref a) "tuple":=⟨o,h1,h2⟩
    unfold eqIsQuiet
    refine AA (GH l F.slot_tuple_eq.lookup ?_)
    show wpAny _ _ (isInstance (.ref a) (.type "tuple") >>= _) _ _ s
    refine AA (GC l isSubtype_tuple_tuple ?_)
    simp only[FR,BS,CH]
    refine AA (wpAny_seqItems h1 h3 ?_)
    refine AA ?_
    show wpAny _ _ (forIn vs _ _) _ _ s
    rw[<-Array.forIn_toList]
    refine wpAny_forIn_list _ (fun rest r s'=>r.1=none/\s'=s/\∃ ys bs,eZ ys=true/\PyData.depthAll ys<=n/\ReadsAll s.heap rest ys bs) _ ?_ ?_ _ _ ⟨rfl,rfl,xs,_,g,by omega,h4⟩
    ·rintro v rest r s' ⟨hr,rfl,ys,bs,hy,hdy,ry⟩
     cases ry with
     | @cons _ _ y yt cs ds r1 r2=>
      have e:(gA y && eZ yt)=true:=hy
      rw[AU] at e
      have k:max y.depth (PyData.depthAll yt)<=n:=hdy
      refine AA (ih y v _ _ e.1 r1 (by omega) ?_)
      simp only[FR,BS,CH]
      exact AC ⟨rfl,rfl,yt,_,e.2,by omega,r2⟩
    ·rintro ⟨r1,r2⟩ s' ⟨hr,rfl,_⟩
     simp only at hr
     subst hr
     exact AC h
def aSS(h:Heap)(d:PyData)(a:Addr):Prop:=gA d=true/\d.depth<=8/\∃ as,Reads h (.ref a) d as
theorem aFD{h h':Heap}{a:Addr}{o:Obj}{es:Array DictEntry}{ep:Nat}(q:h.get? a=some o)(p:o.data=.dict es ep)(u:Heap.SameBut a h h'){v:Value}{d:PyData}{e:List Addr}(c:gA d=true)(r:Reads h v d e):Reads h' v d e:=by
 refine Reads.rec (motive_1:=fun v d e _=>gA d=true->Reads h' v d e) (motive_2:=fun vs xs e _=>eZ xs=true->ReadsAll h' vs xs e) ?_ ?_ ?_ ?_ ?_ ?_ ?_ ?_ ?_ r c
 ·exact fun _=>.none
 ·intro b c;cases c
 ·exact fun i t _=>.int i t
 ·exact fun i t _=>.str i t
 ·intro b o' vs n xs e h1 h2 f l j c;cases c
 ·intro b o' vs n xs e h1 h2 f l j c
  exact .tuple ((u.2 b (fun z=>by subst z;rw[q] at h1;cases h1;rw[p] at f;cases f)).trans h1) h2 f (j c)
 ·intro b o' s n m e bs h1 h2 f l w k g c;cases c
 ·exact fun _=>.nil
 ·intro v vs d ds e bs r1 r2 k g c
  exact .cons (k ((AU ..).mp c).1) (g ((AU ..).mp c).2)
noncomputable def kH(prog:Program)(w:World):HeapKind prog w PyData where
 is:=aSS
 hash:=jH w
 draws:=iE
 room:=fun A=>A.units+9 < cLine
 inj:=fun {h a x y} hx hy=>by
  obtain ⟨k1,_,as,r1⟩:=hx
  obtain ⟨k2,_,bs,r2⟩:=hy
  exact PySem.SeqAt.Reads.unique x y _ _ _ (pE k1) r1 r2
 keeps:=fun {h h' k a d o es ep} hx ho hd hs=>by
  obtain ⟨k1,k2,as,r1⟩:=hx
  exact ⟨k1,k2,as,aFD ho hd hs k1 r1⟩
 pyHash:=fun {A E s k a Q} hu hk h=>by
  obtain ⟨k1,k2,as,r1⟩:=hk
  exact aPG k _ as A s Q k1 r1 (by omega) h
 eqBool:=fun {A E s x y a b Q} hu hx hy h=>by
  obtain ⟨k1,k2,as,r1⟩:=hx
  obtain ⟨l1,l2,bs,r2⟩:=hy
  refine PySem.SeqAt.eqAt_reads x y A s _ _ as bs r1 r2 (pE k1) (pE l1) ?_ prog w E Q ?_
  ·have:min x.depth y.depth<=8:=BJ (Nat.min_le_left _ _) k2
   omega
  ·rw[aL8 k1 l1];exact h
 quiet:=fun {A E s k a Q} hk h=>by
  obtain ⟨k1,k2,as,r1⟩:=hk
  exact aL9 8 k _ as Q k1 r1 k2 h
abbrev Ent:=PyData×V×V
def qD(w:World)(p:Ent)(en:DictEntry):Prop:=en.hash=jH w p.1/\bJ p.2.1 en.key/\bJ p.2.2 en.val
def dZ(w:World)(a:Addr)(es:List Ent)(ep:Nat):HO:=.ext fun h=>(a == sysModules)=false/\∃ o ar,h.get? a=some o/\o.ExactDict/\o.data=.dict ar ep/\Paired (qD w) es ar.toList
theorem nO{P:Program}{w:World}{H:Hp}{h:Heap}{a:Addr}{es:List Ent}{ep:Nat}(c:(a == sysModules)=false)(b:∃ o ar,h.get? a=some o/\o.ExactDict/\o.data=.dict ar ep/\Paired (qD w) es ar.toList):cN P w H h a (dZ w a es ep):=
 ⟨⟨c,b⟩,let ⟨o,_,e,_⟩:=b;⟨o,e⟩,fun h1 h2 ⟨q,o,es,e,r⟩ d=>⟨q,o,es,d _ e,r⟩⟩
noncomputable def jF:PyData->Bool
 | .tuple xs=>gA (.tuple xs) && decide ((PyData.tuple xs).depth<=8)
 | _=>false
noncomputable def o0:PyData->Bool
 | .int _=>true
 | .str _=>true
 | _=>false
def cI(k:PyData)(ks:List PyData):Bool:=(jF k && ks.all jF) || (o0 k && ks.all o0)
theorem aMA{d:PyData}(h:jF d=true):∃ xs,d=.tuple xs/\gA d=true/\d.depth<=8:=by
 cases d with
 | tuple xs=>
  have h':(gA (.tuple xs) && decide ((PyData.tuple xs).depth<=8))=true:=h
  rw[AU] at h'
  exact ⟨xs,rfl,h'.1,BY h'.2⟩
 | _=>cases h
def lB:Key->PyData
 | .inl i=>.int i
 | .inr x=>.str x
theorem aDN{d:PyData}(h:o0 d=true):∃ k,d=lB k:=by
 cases d with
 | int i=>exact ⟨.inl i,rfl⟩
 | str i=>exact ⟨.inr i,rfl⟩
 | _=>cases h
theorem yX{a b:Key}(h:lB a=lB b):a=b:=by
 cases a<;>cases b<;>cases h<;>rfl
theorem aDO{K:Frag}{H:Hp}{v:V}{k:Key}(h:DatV K H v (lB k)):v=kV k:=by
 cases k with
 | inl i=>exact h.int_of
 | inr x=>exact h.str_of
theorem aA2{P:Program}{w:World}(k:Key):jH w (lB k)=(eD P w).hash k:=by
 cases k with
 | inl i=>exact yV w i
 | inr x=>exact yW w x
def xG:Ent->(PyData×Addr×Value)->Prop:=fun e x=>e.1=x.1/\e.2.1=.ref x.2.1/\bJ e.2.2 x.2.2
def xH:Ent->(Key×Value)->Prop:=fun e x=>e.1=lB x.1/\e.2.1=kV x.1/\bJ e.2.2 x.2
theorem aHE{P:Program}{w:World}:∀ {es:List Ent} {ens:List DictEntry},Paired (qD w) es ens->(∀ e∈es,∃ b,e.2.1=.ref b)->∃ xs,ens=xs.map (entryOfKey (kH P w))/\Paired xG es xs
 | _,_,.nil,_=>⟨[],rfl,.nil⟩
 | e::es,en::ens,.cons h t,hb=>by
  obtain ⟨xs,h1,h2⟩:=aHE (P:=P) t fun e m=>hb e (AM _ m)
  obtain ⟨b,c⟩:=hb e AX
  obtain ⟨k,j,l⟩:=h
  rw[c] at j
  obtain ⟨a,f,i⟩:=en
  have g:f=Value.ref b:=j
  have d:a=jH w e.1:=k
  subst g d
  exact ⟨(e.1,b,i)::xs,by rw[AT,h1];rfl,.cons ⟨rfl,c,l⟩ h2⟩
theorem uM{P:Program}{w:World}:∀ {es:List Ent} {xs:List (PyData×Addr×Value)},Paired xG es xs->Paired (qD w) es (xs.map (entryOfKey (kH P w)))
 | _,_,.nil=>.nil
 | _,_,.cons h t=>.cons ⟨by rw[h.1];rfl,by rw[h.2.1];rfl,h.2.2⟩ (uM t)
theorem aHF{P:Program}{w:World}:∀ {es:List Ent} {ens:List DictEntry},Paired (qD w) es ens->(∀ e∈es,∃ k,e.1=lB k/\e.2.1=kV k)->∃ xs,Pairs (eD P w) ens xs/\Paired xH es xs/\∀ en∈ens,∃ k,(eD P w).is k en.key=true/\en.hash=(eD P w).hash k
 | _,_,.nil,_=>⟨[],.nil,.nil,fun _ h=>by cases h⟩
 | e::es,en::ens,.cons h t,hb=>by
  obtain ⟨xs,h1,h2,h3⟩:=aHF (P:=P) t fun e g=>hb e (AM _ g)
  obtain ⟨k,a,b⟩:=hb e AX
  obtain ⟨i,f,j⟩:=h
  have hi:(eD P w).is k en.key=true:=aK2 (by rw[<-b];exact f)
  refine ⟨(k,en.val)::xs,.cons hi rfl h1,.cons ⟨a,b,j⟩ h2,fun d c=>?_⟩
  rcases AZ.mp c with z|z
  · subst z; exact ⟨k, hi, by rw [i, a, aA2 (P := P)]⟩
  · exact h3 d z
theorem aMB{P:Program}{w:World}{k:Key}{v:Value}(h:(eD P w).is k v=true):bJ (kV k) v:=by
 rcases keyIs_shape h with ⟨i,t,rfl,rfl⟩|⟨x,t,rfl,rfl⟩
 · exact ⟨t, rfl⟩
 · exact ⟨t, rfl⟩
theorem uN{P:Program}{w:World}:∀ {es:List Ent} {xs:List (Key×Value)} {ens:List DictEntry},Paired xH es xs->Pairs (eD P w) ens xs->(∀ en∈ens,∃ k,(eD P w).is k en.key=true/\en.hash=(eD P w).hash k)->Paired (qD w) es ens
 | _,_,_,.nil,.nil,_=>.nil
 | _,_,_,.cons h t,.cons p1 p2 ps,hk=>by
  obtain ⟨k,hk1,hk2⟩:=hk _ AX
  obtain rfl:=(eD P w).inj _ _ _ hk1 p1
  refine .cons ⟨by rw[hk2,h.1,aA2 (P:=P)],by rw[h.2.1];exact aMB hk1,by rw[p2];exact h.2.2⟩ (uN t ps fun en a=>hk en (AM _ a))
noncomputable def atE(es:List Ent)(k:PyData):Option V:=(es.find? fun e=>decide (e.1=k)).map (·.2.2)
noncomputable def o3(es:List Ent)(k:PyData)(kv v:V):List Ent:=if (atE es k).isSome then es.map (fun e=>if e.1=k then (e.1,e.2.1,v) else e) else es++[(k,kv,v)]
theorem rT{k:PyData}:∀ {es:List Ent} {xs:List (PyData×Addr×Value)},Paired xG es xs->jD (atE es k) ((atKey xs k).map (·.2))
 | _,_,.nil=>trivial
 | e::es,x::xs,.cons h t=>by
  have ih:=rT (k:=k) t
  unfold atE atKey at ih ⊢
  rw[C0,C0,h.1]
  by_cases q:x.1=k
  · rw [A3 q]; exact h.2.2
  · rw [A7 q]; exact ih
theorem rW{k:Key}:∀ {es:List Ent} {xs:List (Key×Value)},Paired xH es xs->jD (atE es (lB k)) (valueAt xs k)
 | _,_,.nil=>trivial
 | e::es,x::xs,.cons h t=>by
  have ih:=rW (k:=k) t
  unfold atE valueAt at ih ⊢
  rw[C0,C0,h.1]
  by_cases q:x.1=k
  · rw [A3 q, A3 (by rw [q])]; exact h.2.2
  · rw [A7 q, A7 (fun z => q (yX z))]; exact ih
theorem kX{o:Option V}{u:Option Value}(h:jD o u):o.isSome=u.isSome:=by
 cases o<;>cases u<;>first|rfl|exact h.elim
theorem qE{α β:Type}{f:α->β->Prop}{g:α->α}{k:β->β}(hg:∀ a b,f a b->f (g a) (k b)):∀ {xs:List α} {ys:List β},Paired f xs ys->Paired f (xs.map g) (ys.map k)
 | _,_,.nil=>.nil
 | _,_,.cons h t=>.cons (hg _ _ h) (qE hg t)
theorem qF{α β:Type}{f:α->β->Prop}{a:α}{b:β}(h:f a b):∀ {xs:List α} {ys:List β},Paired f xs ys->Paired f (xs++[a]) (ys++[b])
 | _,_,.nil=>.cons h .nil
 | _,_,.cons q t=>.cons q (qF h t)
theorem aK5{k:PyData}{b:Addr}{v:V}{u:Value}{es:List Ent}{xs:List (PyData×Addr×Value)}(r:bJ v u)(h:Paired xG es xs):Paired xG (o3 es k (.ref b) v) (storedH xs k b u):=by
 have q:=kX (rT (k:=k) h)
 rw[ER] at q
 unfold o3 storedH
 rw[q]
 cases (atKey xs k).isSome with
 | true=>
  rw[AD rfl,AD rfl]
  refine qE (fun e x a=>?_) h
  unfold putAt
  rw[a.1]
  by_cases z:x.1=k
  · rw [AD z, AD z]; exact ⟨rfl, a.2.1, r⟩
  · rw [AE z, AE z]; exact a
 | false=>rw[AE (by decide),AE (by decide)];exact qF ⟨rfl,rfl,r⟩ h
theorem aK6{k:Key}:∀ {xs:List (Key×Value)},xs.any (fun kv=>decide (kv.1=k))=(valueAt xs k).isSome
 | []=>rfl
 | x::xs=>by
  have ih:=aK6 (k:=k) (xs:=xs)
  unfold valueAt at ih ⊢
  rw[List.any_cons,C0]
  by_cases q:x.1=k
  · rw [A3 q]; rfl
  · rw [A7 q, Bool.false_or]; exact ih
theorem aK7{k:Key}{v:V}{u:Value}{es:List Ent}{xs:List (Key×Value)}(r:bJ v u)(h:Paired xH es xs):Paired xH (o3 es (lB k) (kV k) v) (stored xs k u):=by
 have q:=kX (rW (k:=k) h)
 unfold o3 stored
 rw[q,aK6]
 cases (valueAt xs k).isSome with
 | true=>
  rw[AD rfl,AD rfl]
  refine qE (fun e x a=>?_) h
  by_cases z:x.1=k
  · rw [AD z, AD (by rw [a.1, z])]; exact ⟨by rw [a.1], a.2.1, r⟩
  · rw [AE z, AE (fun y => z (yX (a.1.symm.trans y)))]; exact a
 | false=>rw[AE (by decide),AE (by decide)];exact qF ⟨rfl,rfl,r⟩ h
section
variable{X:Cx}{pins:List (Addr×Obj)}{σ:L2.St}{H:Hp}{s:Shared}{a:Addr}{es:List Ent}{k:PyData}{kv v:V}{ku u:Value}{A:Around}{E:Value->Shared->Prop}
structure DicAt(X:Cx)(H:Hp)(a:Addr)(es:List Ent)(k:PyData)(kv:V):Prop where
 o:∃ ep,H a=some (dZ X.w a es ep)
 ks:∀ e∈es,DatV X.K H e.2.1 e.1
 nd:(es.map (·.1)).Nodup
 dk:DatV X.K H kv k
 one:cI k (es.map (·.1))=true
theorem vW{α β:Type}{f:α->β->Prop}{y:β}:∀ {xs:List α} {ys:List β},Paired f xs ys->y∈ys->∃ x,x∈xs/\f x y
 | _,_,.nil,h=>by cases h
 | _,_,.cons q t,h=>by
  rcases AZ.mp h with z|z
  ·subst z;exact ⟨_,AX,q⟩
  ·obtain ⟨x,h1,h2⟩:=vW t z
   exact ⟨x,AM _ h1,h2⟩
theorem qG{α β γ:Type}{f:α->β->Prop}{g:α->γ}{k:β->γ}(h:∀ a b,f a b->g a=k b):∀ {xs:List α} {ys:List β},Paired f xs ys->xs.map g=ys.map k
 | _,_,.nil=>rfl
 | _,_,.cons q t=>by rw[AT,AT,h _ _ q,qG h t]
theorem yY{α β:Type}{f:α->β}:∀ {xs:List α},(xs.map f).Nodup->xs.Nodup
 | [],_=>D1
 | x::t,h=>by
  rw[AT,CZ] at h
  exact CZ.mpr ⟨fun z=>h.1 (DN z),yY h.2⟩
theorem DicAt.cases (D : DicAt X H a es k kv) (I : Inv X pins σ H s) (L : bJ kv ku) : (a == sysModules) = false /\
    ((∃ b xs, kv = .ref b /\ ku = .ref b /\ Paired xG es xs /\ (kH X.prog X.w).is s.heap k b /\ s.heap.DictOfH (kH X.prog X.w) a xs) \/
     (∃ kk xs, k = lB kk /\ kv = kV kk /\ Paired xH es xs /\ (eD X.prog X.w).is kk ku = true /\ s.heap.DictOf (eD X.prog X.w) a xs)) := by
  obtain ⟨ep, N⟩ := D.o
  obtain ⟨⟨C, o, ar, h1, h2, G, M⟩, _, _⟩ := (show cN X.prog X.w H s.heap a (dZ X.w a es ep) from I.hok a _ N)
  refine ⟨C, ?_⟩
  have f := D.one
  unfold cI at f
  rw [CT, AU, AU, BW, BW] at f
  rcases f with ⟨A, y⟩ | ⟨A, y⟩
  · have m : ∀ (d : PyData) (v : V), jF d = true -> DatV X.K H v d -> ∃ i, v = .ref i /\ (kH X.prog X.w).is s.heap d i := fun d v C F => by
      obtain ⟨ws, rfl, J, S⟩ := aMA C
      obtain ⟨i, vs, rfl, _, _⟩ := F.tup_of
      obtain ⟨O, r⟩ := F.reads I (pE J) (u := .ref i) rfl
      exact ⟨i, rfl, J, S, O, r⟩
    obtain ⟨b, rfl, E⟩ := m _ _ A D.dk
    cases (show ku = Value.ref b from L)
    obtain ⟨xs, l, c⟩ := aHE (P := X.prog) M fun e j => by
      obtain ⟨i, e1, _⟩ := m e.1 e.2.1 (y _ (DN j)) (D.ks e j)
      exact ⟨i, e1⟩
    refine .inl ⟨b, xs, rfl, rfl, c, E, o, ar, ep, h1, h2, G, l, fun x Q => ?_, ?_⟩
    · obtain ⟨e, j, n⟩ := vW c Q
      obtain ⟨i, e1, q⟩ := m e.1 e.2.1 (y _ (DN j)) (D.ks e j)
      rw [n.2.1] at e1
      cases e1
      rw [<- n.1]; exact q
    · rw [<- qG (g := fun e : Ent => e.1) (fun a b h => h.1) c]; exact D.nd
  · obtain ⟨kk, rfl⟩ := aDN A
    have p := aDO D.dk
    obtain ⟨xs, l, c, B⟩ := aHF (P := X.prog) M fun e j => by
      obtain ⟨T, t⟩ := aDN (y _ (DN j))
      have q := D.ks e j
      rw [t] at q
      exact ⟨T, t, aDO q⟩
    refine .inr ⟨kk, xs, rfl, p, c, aK2 (by rw [<- p]; exact L), o, ar, ep, h1, h2, G, fun R z => B R (by simpa using z), l, ?_⟩
    have : es.map (·.1) = (xs.map (·.1)).map lB := by rw [CC]; exact qG (g := fun e : Ent => e.1) (fun a b h => h.1) c
    have nd := D.nd
    rw [this] at nd
    exact yY nd
theorem oN{A:Around}(a:A.units+64 < cLine):(kH X.prog X.w).room A.in1:=by show A.in1.units+9 < cLine;rw[yU];omega
theorem aPH{Q:Value->Shared->Prop}(g:A.units+64 < cLine)(D:DicAt X H a es k kv)(I:Inv X pins σ H s)(i:bJ kv ku)(h:∀ s',Inv X pins σ H s'->Q (.bool (atE es k).isSome) s'):wpAny (model X.prog X.w) A (compareOp .In ku (.ref a)) Q E s:=by
 obtain ⟨e,⟨b,xs,rfl,rfl,d,c,dd⟩|⟨f,xs,rfl,rfl,d,c,dd⟩⟩:=D.cases I i
 ·refine wpAny_in_heap (oN g) c e dd ?_
  have q:=kX (rT (k:=k) d)
  rw[ER] at q
  rw[<-q];exact h _ (I.tok _)
 ·refine wpAny_in_of c e dd.mapOf ?_
  rw[<-kX (rW (k:=f) d)];exact h _ (I.tok _)
theorem aMC{Q:Value->Shared->Prop}(g:A.units+64 < cLine)(D:DicAt X H a es k kv)(I:Inv X pins σ H s)(i:bJ kv ku)(h:∀ s',Inv X pins σ H s'->Q (.bool (!(atE es k).isSome)) s'):wpAny (model X.prog X.w) A (compareOp .NotIn ku (.ref a)) Q E s:=by
 obtain ⟨e,⟨b,xs,rfl,rfl,d,c,dd⟩|⟨f,xs,rfl,rfl,d,c,dd⟩⟩:=D.cases I i
 ·refine wpAny_notIn_heap (oN g) c e dd ?_
  have q:=kX (rT (k:=k) d)
  rw[ER] at q
  rw[<-q];exact h _ (I.tok _)
 ·refine wpAny_notIn_of c e dd.mapOf ?_
  rw[<-kX (rW (k:=f) d)];exact h _ (I.tok _)
theorem aMD{Q:Value->Shared->Prop}(l:A.units+64 < cLine)(D:DicAt X H a es k kv)(I:Inv X pins σ H s)(m:bJ kv ku)(i:atE es k=some v)(h:∀ w' s',Inv X pins σ H s'->bJ v w'->Q w' s'):wpAny (model X.prog X.w) A (getItem (.ref a) ku) Q E s:=by
 obtain ⟨o,⟨b,xs,rfl,rfl,g,f,dd⟩|⟨j,xs,rfl,rfl,g,f,dd⟩⟩:=D.cases I m
 ·have q:=rT (k:=k) g
  rw[i] at q
  obtain ⟨w',d,c⟩:=jD.some_of q
  obtain ⟨p,n,e⟩:=Option.map_eq_some_iff.mp d
  refine wpAny_getItem_heap (oN l) f dd n ?_
  rw[e];exact h w' _ (I.tok _) c
 ·have q:=rW (k:=j) g
  rw[i] at q
  obtain ⟨w',d,c⟩:=jD.some_of q
  exact wpAny_getItem_of f dd.mapOf d (h w' _ (I.tok _) c)
theorem aME{Q:Unit->Shared->Prop}(B:A.units+64 < cLine)(D:DicAt X H a es k kv)(I:Inv X pins σ H s)(C:bJ kv ku)(y:bJ v u)(r:es.length<=sizeLine)(h:∀ ep s',Inv X pins σ (upd H a (dZ X.w a (o3 es k kv v) ep)) s'->Q () s') :
  wpAny (model X.prog X.w) A (setItem (.ref a) ku u) Q E s:=by
 obtain ⟨x,⟨b,xs,rfl,rfl,f,p,dd⟩|⟨F,xs,rfl,rfl,f,p,dd⟩⟩:=D.cases I C
 ·have l:xs.length<=sizeLine:=by rw[<-Paired.length f];exact r
  refine wpAny_setItem_heap (hsz:=l) (oN B) p dd fun h' c n=>?_
  obtain ⟨e,ar,ep,d,h2,i,q,_,t⟩:=c
  obtain ⟨j,g⟩:=D.o
  refine h ep _ (tG I (by rw[g];exact True.intro) n ⟨e,d⟩ (nO x ⟨e,ar,d,h2,i,?_⟩))
  rw[q]
  exact uM (aK5 y f)
 ·have l:xs.length<=sizeLine:=by rw[<-Paired.length f];exact r
  refine wpAny_setItem_pairs (hsz:=l) p dd fun h' c n=>?_
  obtain ⟨e,ar,ep,d,h2,i,q,t,_⟩:=c
  obtain ⟨j,g⟩:=D.o
  refine h ep _ (tG I (by rw[g];exact True.intro) n ⟨e,d⟩ (nO x ⟨e,ar,d,h2,i,?_⟩))
  exact uN (aK7 y f) t fun z m=>q z (by simpa using m)
end
structure Er where
 c:Str
 fs:List (Str×PyData)
inductive R(α:Type) where
 | bad|ok (a:α)|ex (e:Er)
noncomputable def R.bind{α β:Type}:R α->(α->R β)->R β
 | .bad,_=>.bad
 | .ok a,f=>f a
 | .ex e,_=>.ex e
@[simp] theorem R.bind_ok{α β:Type}(a:α)(f:α->R β):(R.ok a).bind f=f a:=id rfl
@[simp] theorem R.bind_bad{α β:Type}(f:α->R β):(R.bad:R α).bind f=.bad:=id rfl
@[simp] theorem R.bind_ex{α β:Type}(e:Er)(f:α->R β):(R.ex e:R α).bind f=.ex e:=id rfl
inductive A where
 | d (x:PyData)|l (xs:List PyData)|m (kvs:List (PyData×PyData))|x (e:Er)|g (k n:Nat) (f:List PyData->R PyData)|k (q:Str)|f (kvs:List (PyData×PyData))|o (e:Er)
abbrev Sg:=List (Option A)
structure Gb where
 B:Addr->Hp->Nat->Nat->(List PyData->R PyData)->Prop
 T:Hp
 w:World
structure Ct where
 K:Frag
 mg:Str->Option Value
 w:World
 F0:Hp
 H0:Hp
 g:Gb
 cells:List (Str×Addr)
 cls:Str->Option ClSt
theorem aA3{w:World}{p:Addr}{es:List Ent}{ep:Nat}{q:Str}(h:dZ w p es ep=.cod q):False:=by unfold dZ at h;cases h
theorem cO(H:Hp):aO H H:=fun _ _ h=>h
theorem bW{H H':Hp}(s:aO H H'){a:Addr}(h:H' a=none):H a=none:=by
 cases e:H a with
 | none=>rfl
 | some o=>rw[s a o e] at h;cases h
def nJ(H:Hp)(a:Addr):Prop:=H a=none\/∃ q,H a=some (.cod q)
theorem nJ.back{H H1:Hp}{a:Addr}(s:aO H H1)(h:nJ H1 a):nJ H a:=by
 cases e:H a with
 | none=>exact .inl e
 | some o=>
  have e1:=s a o e
  rcases h with z|⟨q,z⟩
  · rw [e1] at z; cases z
  · rw [e1] at z; cases z; exact .inr ⟨q, e⟩
structure Ext(F H F' H':Hp):Prop where
 hh:aO H H'
 ff:aO F F'
 fh:aO F' H'
 nw:∀ a,F a=none->F' a≠none->nJ H a
theorem Ext.refl{F H:Hp}(h:aO F H):Ext F H F H:=⟨cO H,cO F,h,fun a e n=>absurd e n⟩
theorem Ext.trans{F H c H1 d H2:Hp}(a:Ext F H c H1)(b:Ext c H1 d H2):Ext F H d H2:=
 ⟨fun x o e=>b.hh x o (a.hh x o e),fun x o e=>b.ff x o (a.ff x o e),b.fh,fun x e n=>by
  cases q:c x with
  | none=>exact (b.nw x q n).back a.hh
  | some o=>exact a.nw x e (by rw[q];exact fun z=>nomatch z)⟩
theorem Ext.stay{F H b H':Hp}(s:Ext F H b H'){p:Addr}{o:HO}(c:F p=none)(h2:H p=some o)(a:∀ q,o≠.cod q):b p=none:=by
 cases q:b p with
 | none=>rfl
 | some o=>
  rcases s.nw p c (by rw[q];exact fun z=>nomatch z) with z|⟨d,z⟩
  · rw [z] at h2; cases h2
  · rw [z] at h2; cases h2; exact absurd rfl (a _)
theorem aJE{F H:Hp}{p:Addr}{o:HO}(s:aO F H):aO (upd F p o) (upd H p o):=fun a u e=>by
 by_cases q:a=p
 · subst q; rw [aX] at e ⊢; exact e
 · rw [aG q] at e ⊢; exact s a u e
theorem Ext.new{F H:Hp}{p:Addr}{o:HO}(s:aO F H)(b:H p=none):Ext F H (upd F p o) (upd H p o):=
 ⟨aO.upd b,aO.upd (bW s b),aJE s,fun a e n=>by
  by_cases q:a=p
  · subst q; exact .inl b
  · rw [aG q] at n; exact absurd e n⟩
theorem Ext.own{F H:Hp}{p:Addr}{o:HO}(s:aO F H)(b:H p=none):Ext F H F (upd H p o):=
 ⟨aO.upd b,cO F,fun a u e=>by
  rw[aG (bU (s a u e) b)];exact s a u e,fun a e n=>absurd e n⟩
def lC(K:Frag)(mg:Str->Option Value)(F:Hp)(e:Er)(a C:Addr):Prop:=mg e.c=some (.ref C)/\∃ od,F a=some (ExO a C od)/\((e.fs=[]/\od=none)\/∃ d fvs,od=some d/\F d=some (.xd fvs)/\fvs.map (·.1)=e.fs.map (·.1)/\DatVs K F (fvs.map (·.2)) (e.fs.map (·.2)))
theorem lC.same{K:Frag}{mg:Str->Option Value}{F b:Hp}{e:Er}{a C:Addr}(s:aO F b)(h:lC K mg F e a C):lC K mg b e a C:=by
 obtain ⟨m,od,h1,h2⟩:=h
 refine ⟨m,od,s _ _ h1,h2.imp id ?_⟩
 rintro ⟨d,fvs,e1,e2,e3,e4⟩
 exact ⟨d,fvs,e1,s _ _ e2,e3,e4.same s⟩
def aFE(K:Frag)(mg:Str->Option Value)(F:Hp)(e:Er)(a:Addr):Prop:=∃ C dx fvs,mg e.c=some (.ref C)/\F a=some (.ins C dx fvs)/\fvs.map (·.1)=e.fs.map (·.1)/\DatVs K F (fvs.map (·.2)) (e.fs.map (·.2))
theorem aFE.same{K:Frag}{mg:Str->Option Value}{F c:Hp}{e:Er}{a:Addr}(s:aO F c)(h:aFE K mg F e a):aFE K mg c e a:=by
 obtain ⟨C,dx,b,h1,h2,d,f⟩:=h
 exact ⟨C,dx,b,h1,s _ _ h2,d,f.same s⟩
structure MapRel(K:Frag)(F:Hp)(es:List Ent)(kvs:List (PyData×PyData)):Prop where
 k1:es.map (·.1)=kvs.map (·.1)
 k2:DatVs K F (es.map (·.2.1)) (kvs.map (·.1))
 vs:DatVs K F (es.map (·.2.2)) (kvs.map (·.2))
 nd:(kvs.map (·.1)).Nodup
theorem MapRel.same{K:Frag}{F b:Hp}{es:List Ent}{a:List (PyData×PyData)}(s:aO F b)(h:MapRel K F es a):MapRel K b es a:=⟨h.k1,h.k2.same s,h.vs.same s,h.nd⟩
def AF(g:Gb)(K:Frag)(mg:Str->Option Value)(F:Hp):A->V->Prop
 | .d x,v=>DatV K F v x
 | .x e,v=>∃ a C,v=.ref a/\lC K mg F e a C
 | .g k n G,v=>∃ f F1,v=.ref f/\aO F1 F/\g.B f F1 k n G
 | .f kvs,v=>∃ p es,v=.ref p/\(∃ ep,F p=some (dZ g.w p es ep))/\MapRel K F es kvs
 | .o e,v=>∃ a,v=.ref a/\aFE K mg F e a
 | _,_=>False
theorem AF.same{g:Gb}{K:Frag}{mg:Str->Option Value}{F F':Hp}(s:aO F F'):∀ {a:A} {v:V},AF g K mg F a v->AF g K mg F' a v
 | .d x,v,h=>DatV.same s h
 | .x e,v,⟨a,C,h1,h2⟩=>⟨a,C,h1,h2.same s⟩
 | .g k n G,v,⟨f,F1,h1,h2,h3⟩=>⟨f,F1,h1,fun a o z=>s a o (h2 a o z),h3⟩
 | .f kvs,v,⟨p,es,h1,⟨ep,h2⟩,h3⟩=>⟨p,es,h1,⟨ep,s _ _ h2⟩,h3.same s⟩
 | .o e,v,⟨a,h1,h2⟩=>⟨a,h1,h2.same s⟩
noncomputable def A.own:A->Bool
 | .l _=>true
 | .m _=>true
 | _=>false
def AO(c:Ct)(F H:Hp):A->V->Prop
 | .l xs,v=>∃ p vs,v=.ref p/\H p=some (.lst vs)/\F p=none/\c.H0 p=none/\DatVs c.K F vs xs
 | .m kvs,v=>∃ p es,v=.ref p/\(∃ ep,H p=some (dZ c.w p es ep))/\F p=none/\c.H0 p=none/\MapRel c.K F es kvs
 | .k q,v=>∃ S f cl doc pm cc ct,c.cls q=some S/\v=.ref f/\F f=some (FnO f (S.obj cl doc pm cc ct))/\F cc=some (.cod S.qual)/\ClOf c.cells S.scope cl
 | a,v=>AF c.g c.K c.mg F a v
theorem AO.ext{c:Ct}{F H b H':Hp}(s:Ext F H b H'):∀ {a:A} {v:V},AO c F H a v->AO c b H' a v
 | .d x,v,h=>DatV.same s.ff h
 | .x e,v,h=>AF.same (g:=c.g) (K:=c.K) (mg:=c.mg) (a:=.x e) s.ff h
 | .g k n G,v,h=>AF.same (g:=c.g) (K:=c.K) (mg:=c.mg) (a:=.g k n G) s.ff h
 | .f kvs,v,h=>AF.same (g:=c.g) (K:=c.K) (mg:=c.mg) (a:=.f kvs) s.ff h
 | .o e,v,h=>AF.same (g:=c.g) (K:=c.K) (mg:=c.mg) (a:=.o e) s.ff h
 | .k q,v,⟨S,f,cl,doc,pm,cc,ct,h0,h1,h2,h3,h4⟩=>⟨S,f,cl,doc,pm,cc,ct,h0,h1,s.ff _ _ h2,s.ff _ _ h3,h4⟩
 | .l xs,v,⟨p,vs,h1,h2,h3,h4,h5⟩=>⟨p,vs,h1,s.hh _ _ h2,s.stay h3 h2 (fun _ z=>nomatch z),h4,h5.same s.ff⟩
 | .m kvs,v,⟨p,vs,h1,⟨ep,h2⟩,h3,h4,h5⟩=>⟨p,vs,h1,⟨ep,s.hh _ _ h2⟩,s.stay h3 h2 (fun _ z=>aA3 z),h4,h5.same s.ff⟩
theorem AO.at{c:Ct}{F H:Hp}{a:A}{v:V}(h:AO c F H a v)(o:a.own=true):∃ p o,v=.ref p/\H p=some o/\F p=none/\c.H0 p=none:=by
 cases a with
 | l xs=>obtain ⟨p,vs,h1,h2,b,i,j⟩:=h;exact ⟨p,_,h1,h2,b,i⟩
 | m xs=>obtain ⟨p,vs,h1,⟨ep,h2⟩,b,i,j⟩:=h;exact ⟨p,_,h1,h2,b,i⟩
 | d x=>cases o
 | x e=>cases o
 | g k n f=>cases o
 | k S=>cases o
 | f S=>cases o
 | o S=>cases o
theorem AO.off{c:Ct}{F H:Hp}{p:Addr}{o:HO}:∀ {a:A} {v:V},AO c F H a v->v≠.ref p->AO c F (upd H p o) a v
 | .l xs,v,⟨q,vs,h1,h2,h3,h4,h5⟩,n=>⟨q,vs,h1,by rw[aG (fun z=>n (by rw[h1,z]))];exact h2,h3,h4,h5⟩
 | .m xs,v,⟨q,vs,h1,⟨ep,h2⟩,h3,h4,h5⟩,n=>⟨q,vs,h1,⟨ep,by rw[aG (fun z=>n (by rw[h1,z]))];exact h2⟩,h3,h4,h5⟩
 | .d x,v,h,_=>h
 | .x e,v,h,_=>h
 | .g k n G,v,h,_=>h
 | .k S,v,h,_=>h
 | .f S,v,h,_=>h
 | .o S,v,h,_=>h
structure Ab(c:Ct)(ρ:Sg)(σ:L2.St)(F H:Hp):Prop where
 len:ρ.length=σ.length
 fh:aO F H
 slot:∀ (i:Nat) (a:A),ρ[i]? = some (some a)->∃ v,σ[i]? = some (some v)/\AO c F H a v
 apart:∀ (i j:Nat) (a b:A),i≠j->ρ[i]? = some (some a)->ρ[j]? = some (some b)->a.own=true->b.own=true->σ[i]? ≠ σ[j]?
 f0:aO c.F0 F
 h0:aO c.H0 H
 n0:∀ a,c.F0 a=none->F a≠none->nJ c.H0 a
 t0:aO c.g.T c.F0
theorem Ab.all{c:Ct}{ρ:Sg}{σ:L2.St}{F H:Hp}(b:Ab c ρ σ F H):Ext c.F0 c.H0 F H:=⟨b.h0,b.f0,b.fh,b.n0⟩
theorem Ab.ext{c:Ct}{ρ:Sg}{σ:L2.St}{F H d H':Hp}(b:Ab c ρ σ F H)(e:Ext F H d H'):Ab c ρ σ d H' where
 len:=b.len
 fh:=e.fh
 slot:=fun i a h=>let ⟨v,h1,h2⟩:=b.slot i a h;⟨v,h1,h2.ext e⟩
 apart:=b.apart
 f0:=fun x o h=>e.ff x o (b.f0 x o h)
 h0:=fun x o h=>e.hh x o (b.h0 x o h)
 n0:=fun a h n=>by
  cases q:F a with
  | none=>exact (e.nw a q n).back b.h0
  | some o=>exact b.n0 a h (by rw[q];exact fun z=>nomatch z)
 t0:=b.t0
def XW(c:Ct)(E:XK)(e:Er):Prop:=∀ a C F' H',Ext c.F0 c.H0 F' H'->lC c.K c.mg F' e a C->E (.ref C) (some a) H'
def Rk{α:Type}(c:Ct)(E:XK)(F H:Hp)(r:R α)(k:α->Prop):Prop:=match r with
 | .bad=>False
 | .ok a=>k a
 | .ex e=>XW c E e
abbrev VR(α:Type):=α->V->Hp->Hp->Hp->Prop
def tV{α:Type}(Rel:VR α)(c:Ct)(E:XK)(f:Sg->R α):TE:=fun σ H Q=>∃ ρ F,Ab c ρ σ F H/\Rk c E F H (f ρ) fun d=>∀ v F' H',Ext F H F' H'->Rel d v H F' H'->Q v H'
def c6(c:Ct):VR PyData:=fun d v _ F _=>DatV c.K F v d
def bE(K:Frag)(F H:Hp)(v:V)(d:PyData):Prop:=DatV K F v d\/∃ p vs xs,v=.ref p/\d=.list xs/\H p=some (.lst vs)/\DatVs K F vs xs
def b7(c:Ct):VR PyData:=fun d v _ F H=>bE c.K F H v d
def aJF(c:Ct):VR A:=fun a v _ F _=>AF c.g c.K c.mg F a v
def rX(c:Ct):VR (List PyData):=fun xs v H F H'=>∃ p vs,v=.ref p/\H p=none/\H' p=some (.lst vs)/\F p=none/\DatVs c.K F vs xs
abbrev PD(X:Cx)(c:Ct)(E:XK)(e:Expr)(f:Sg->R PyData):Prop:=PE X e (tV (c6 c) c E f)
abbrev PR(X:Cx)(c:Ct)(E:XK)(e:Expr)(f:Sg->R PyData):Prop:=PE X e (tV (b7 c) c E f)
abbrev PV(X:Cx)(c:Ct)(E:XK)(e:Expr)(f:Sg->R A):Prop:=PE X e (tV (aJF c) c E f)
abbrev PN(X:Cx)(c:Ct)(E:XK)(e:Expr)(f:Sg->R (List PyData)):Prop:=PE X e (tV (rX c) c E f)
theorem PE.imp{X:Cx}{e:Expr}{t t':TE}(h:PE X e t)(i:∀ σ H Q,t' σ H Q->t σ H Q):PE X e t':=fun pins s σ H Q I q=>h pins s σ H Q I (i σ H Q q)
theorem PT.imp{X:Cx}{e:Expr}{t t':TT}(h:PT X e t)(i:∀ σ H Q,t' σ H Q->t σ H Q):PT X e t':=fun pins s σ H Q I q=>h pins s σ H Q I (i σ H Q q)
theorem PS.imp{X:Cx}{e:Stmt}{t t':TS}(h:PS X e t)(i:∀ D σ H,t' D σ H->t D σ H):PS X e t':=fun pins s σ H D I q=>h pins s σ H D I (i D σ H q)
theorem PSs.imp{X:Cx}{e:List Stmt}{t t':TS}(h:PSs X e t)(i:∀ D σ H,t' D σ H->t D σ H):PSs X e t':=fun pins s σ H D I q=>h pins s σ H D I (i D σ H q)
def aK8{α:Type}(Rel:VR α):Prop:=∀ d v H F H1 F2 H2,Ext F H1 F2 H2->Rel d v H F H1->Rel d v H F2 H2
theorem bE.ext{K:Frag}{F H a H':Hp}{v:V}{d:PyData}(e:Ext F H a H')(h:bE K F H v d):bE K a H' v d:=by
 rcases h with h|⟨p,vs,xs,h1,h2,b,c⟩
 · exact .inl (h.same e.ff)
 · exact .inr ⟨p, vs, xs, h1, h2, e.hh _ _ b, c.same e.ff⟩
theorem rY(c:Ct):aK8 (b7 c):=fun d v H F H1 a H2 e h=>bE.ext e h
theorem bE.heap{K:Frag}{F H:Hp}{v:V}{d:PyData}(s:aO F H)(h:bE K F H v d):DatV K H v d:=by
 rcases h with h|⟨p,vs,xs,h1,h2,b,a⟩
 · exact h.same s
 · subst h1 h2; exact .lst (SqL.of b) (a.same s)
section
variable{X:Cx}{c:Ct}{E:XK}{α β γ:Type}{Ra:VR α}{Rb:VR β}{Rc:VR γ}{σ:L2.St}{H:Hp}{Q:VK}
theorem Rk.ok{F:Hp}{a:α}{k:α->Prop}(h:Rk c E F H (.ok a) k):k a:=h
theorem Rk.imp{F:Hp}{r:R α}{k b:α->Prop}(h:Rk c E F H r k)(i:∀ a,r=.ok a->k a->b a):Rk c E F H r b:=by
 cases r with
 | bad=>exact h
 | ok a=>exact i a rfl h
 | ex e=>exact h
theorem Rk.bind{F:Hp}{r:R α}{f:α->R β}{k:β->Prop}(h:Rk c E F H (r.bind f) k):Rk c E F H r fun a=>Rk c E F H (f a) k:=by
 cases r with
 | bad=>exact h
 | ok a=>exact h
 | ex e=>exact h
theorem Rk.ext{F b H':Hp}{r:R α}{k:α->Prop}(e:Ext F H b H')(h:Rk c E F H r k):Rk c E b H' r k:=by
 cases r with
 | bad=>exact h
 | ok a=>exact h
 | ex x=>exact h
end
def aA4{α:Type}(Rel:VR α):Prop:=∀ d v H H1 F' H',aO H H1->Rel d v H1 F' H'->Rel d v H F' H'
theorem nK(c:Ct):aA4 (c6 c):=fun _ _ _ _ _ _ _ h=>h
theorem aK9(c:Ct):aA4 (rX c):=fun _ _ _ _ _ _ s h=>by
 obtain ⟨p,vs,h1,h2,a⟩:=h
 exact ⟨p,vs,h1,bW s h2,a⟩
section
variable{X:Cx}{c:Ct}{E:XK}{α β γ:Type}{Ra:VR α}{Rb:VR β}{Rc:VR γ}
def Op1(c:Ct)(Ra:VR α)(Rb:VR β)(g:α->R β)(r:V->Hp->VK->Prop):Prop:=
 ∀ (H0 F H:Hp) (a:α) (b:β) (v:V) (Q:VK),aO F H->Ra a v H0 F H->g a=.ok b->(∀ w F' H',Ext F H F' H'->Rb b w H F' H'->Q w H')->r v H Q
def Op2(c:Ct)(Ra:VR α)(Rb:VR β)(Rc:VR γ)(g:α->β->R γ)(r:R2):Prop:=
 ∀ (H0 H1 F H:Hp) (a:α) (b:β) (d:γ) (v u:V) (Q:VK),aO F H->Ra a v H0 F H->Rb b u H1 F H->g a b=.ok d->(∀ w F' H',Ext F H F' H'->Rc d w H F' H'->Q w H')->r v u H Q
def pF(g:α->R β):Prop:=∀ a e,g a≠.ex e
def dQ(g:α->β->R γ):Prop:=∀ a b e,g a b≠.ex e
theorem tV1{f:Sg->R α}{g:α->R β}{r:V->Hp->VK->Prop}(n:Op1 c Ra Rb g r)(l:pF g)(j:aA4 Rb){σ:L2.St}{H:Hp}{Q:VK}(h:tV Rb c E (fun ρ=>(f ρ).bind g) σ H Q) :
  tV Ra c E f σ H fun v H1=>r v H1 Q:=by
 obtain ⟨ρ,F,ab,h⟩:=h
 refine ⟨ρ,F,ab,(Rk.bind h).imp fun a p q v o H1 e1 k=>?_⟩
 cases d:g a with
 | bad=>rw[d] at q;exact q.elim
 | ex e=>exact absurd d (l a e)
 | ok b=>
  rw[d] at q
  exact n H o H1 a b v Q e1.fh k d fun w m H' e2 i=>q w m H' (e1.trans e2) (j _ _ _ _ _ _ e1.hh i)
theorem tV2{f:Sg->R α}{k:Sg->R β}{g:α->β->R γ}{r:R2}(s:Op2 c Ra Rb Rc g r)(n:dQ g)(y:aK8 Ra)(B:aA4 Rc){σ:L2.St}{H:Hp}{Q:VK}(h:tV Rc c E (fun ρ=>(f ρ).bind fun a=>(k ρ).bind fun b=>g a b) σ H Q) :
  tOp r (tV Ra c E f) (tV Rb c E k) σ H Q:=by
 obtain ⟨ρ,F,ab,h⟩:=h
 refine ⟨ρ,F,ab,(Rk.bind h).imp fun a G q v A H1 e1 m=>?_⟩
 refine ⟨ρ,A,ab.ext e1,((Rk.bind q).ext e1).imp fun b D q u t H2 e2 C=>?_⟩
 cases i:g a b with
 | bad=>rw[i] at q;exact q.elim
 | ex e=>exact absurd i (n a b e)
 | ok d=>
  rw[i] at q
  exact s H H1 t H2 a b d v u Q e2.fh (y _ _ _ _ _ _ _ e2 m) C i fun w p H' l j=>q w p H' ((e1.trans e2).trans l) (B _ _ _ _ _ _ (fun x o z=>e2.hh x o (e1.hh x o z)) j)
end
section
variable{K:Frag}{F H:Hp}{v:V}
theorem DatV.bl_of{b:Bool}(h:DatV K H v (.bool b)):v=.bl b:=by cases h;rfl
theorem DatV.non_of(h:DatV K H v .none):v=.non:=by cases h;rfl
theorem bE.int_of{i:Int}(h:bE K F H v (.int i)):v=.int i:=by
 rcases h with h|⟨_,_,_,_,h,_⟩
 · exact h.int_of
 · cases h
theorem bE.str_of{i:Str}(h:bE K F H v (.str i)):v=.str i:=by
 rcases h with h|⟨_,_,_,_,h,_⟩
 · exact h.str_of
 · cases h
theorem bE.bl_of{i:Bool}(h:bE K F H v (.bool i)):v=.bl i:=by
 rcases h with h|⟨_,_,_,_,h,_⟩
 · exact DatV.bl_of h
 · cases h
theorem bE.non_of(h:bE K F H v .none):v=.non:=by
 rcases h with h|⟨_,_,_,_,h,_⟩
 · exact DatV.non_of h
 · cases h
theorem bE.tup_of{xs:List PyData}(s:aO F H)(h:bE K F H v (.tuple xs)):∃ a vs,v=.ref a/\SqT K F a vs/\SqT K H a vs/\DatVs K F vs xs:=by
 rcases h with h|⟨_,_,_,_,h,_⟩
 ·obtain ⟨a,vs,h1,h2,b⟩:=h.tup_of
  exact ⟨a,vs,h1,h2,h2.same s,b⟩
 ·cases h
theorem bE.lst_of{xs:List PyData}(s:aO F H)(h:bE K F H v (.list xs)):∃ a vs,v=.ref a/\SqL K H a vs/\DatVs K F vs xs:=by
 rcases h with h|⟨p,vs,ys,h1,h2,b,c⟩
 ·obtain ⟨a,vs,h1,h2,b⟩:=h.lst_of
  exact ⟨a,vs,h1,h2.same s,b⟩
 ·cases h2
  exact ⟨p,vs,h1,SqL.of b,c⟩
theorem aA5{vs:List V}{xs:List PyData}{i:Int}{d:PyData}(h:DatVs K F vs xs)(e:atI xs i=some d):∃ x,atI vs i=some x/\DatV K F x d:=by
 unfold atI at e ⊢
 rw[h.length]
 cases q:ixN xs.length i with
 | none=>rw[q] at e;cases e
 | some j=>
  rw[q] at e
  exact h.get' (i:=j) e
end
noncomputable def eV(i:Nat):Sg->R PyData:=fun ρ=>match ρ[i]? with
 | some (some (.d x))=>.ok x
 | _=>.bad
noncomputable def rV(i:Nat):Sg->R PyData:=fun ρ=>match ρ[i]? with
 | some (some (.d x))=>.ok x
 | some (some (.l xs))=>.ok (.list xs)
 | _=>.bad
noncomputable def vV(i:Nat):Sg->R A:=fun ρ=>match ρ[i]? with
 | some (some (.d x))=>.ok (.d x)
 | some (some (.x e))=>.ok (.x e)
 | some (some (.g k n f))=>.ok (.g k n f)
 | some (some (.f kvs))=>.ok (.f kvs)
 | _=>.bad
def eC(d:PyData):Sg->R PyData:=fun _=>.ok d
section
variable{X:Cx}{c:Ct}{E:XK}{e a b:Expr}
theorem bF{i:Nat}(h:PE X e (iR i)):PD X c E e (eV i):=PE.imp h fun σ H Q ⟨ρ,F,ab,k⟩=>by
 unfold eV at k
 split at k
 ·rename_i x a
  obtain ⟨v,h1,h2⟩:=ab.slot i _ a
  exact ⟨v,h1,k v F H (Ext.refl ab.fh) h2⟩
 ·exact k.elim
theorem aC{i:Nat}(h:PE X e (iR i)):PR X c E e (rV i):=PE.imp h fun σ H Q ⟨ρ,F,ab,k⟩=>by
 unfold rV at k
 split at k
 ·rename_i x a
  obtain ⟨v,h1,h2⟩:=ab.slot i _ a
  exact ⟨v,h1,k v F H (Ext.refl ab.fh) (.inl h2)⟩
 ·rename_i x a
  obtain ⟨v,h1,p,vs,h2,b,g,f,d⟩:=ab.slot i _ a
  exact ⟨v,h1,k v F H (Ext.refl ab.fh) (.inr ⟨p,vs,x,h2,rfl,b,d⟩)⟩
 ·exact k.elim
theorem aQ{i:Nat}(h:PE X e (iR i)):PV X c E e (vV i):=PE.imp h fun σ H Q ⟨ρ,F,ab,k⟩=>by
 unfold vV at k
 split at k
 ·rename_i x a
  obtain ⟨v,h1,h2⟩:=ab.slot i _ a
  exact ⟨v,h1,k v F H (Ext.refl ab.fh) h2⟩
 ·rename_i x a
  obtain ⟨v,h1,h2⟩:=ab.slot i _ a
  exact ⟨v,h1,k v F H (Ext.refl ab.fh) h2⟩
 ·rename_i d g f a
  obtain ⟨v,h1,h2⟩:=ab.slot i _ a
  exact ⟨v,h1,k v F H (Ext.refl ab.fh) h2⟩
 ·rename_i b a
  obtain ⟨v,h1,h2⟩:=ab.slot i _ a
  exact ⟨v,h1,k v F H (Ext.refl ab.fh) h2⟩
 ·exact k.elim
theorem iT{v:V}{d:PyData}(h:PE X e (tC v))(a:∀ F,DatV c.K F v d):PD X c E e (eC d):=PE.imp h fun σ H Q ⟨ρ,F,ab,k⟩=>k v F H (Ext.refl ab.fh) (a F)
theorem aE{i j pos}:PD X c E (.Constant (.int i) j pos) (eC (.int i)):=iT aGD fun _=>.int i
theorem oO{i j pos}:PD X c E (.Constant (.bool i) j pos) (eC (.bool i)):=iT aRD fun _=>.bl i
theorem eO{i j pos}:PD X c E (.Constant (.str i) j pos) (eC (.str i)):=iT vI fun _=>.str i
theorem nZ{j pos}:PD X c E (.Constant .none j pos) (eC .none):=iT aOG fun _=>.non
theorem aB{f:Sg->R PyData}(h:PD X c E e f):PR X c E e f:=PE.imp h fun σ H Q ⟨ρ,F,ab,k⟩=>⟨ρ,F,ab,k.imp fun d _ q v a H' s r=>q v a H' s (.inl r)⟩
def vD(f:Sg->R PyData):Sg->R A:=fun ρ=>(f ρ).bind fun x=>.ok (.d x)
theorem aT{f:Sg->R PyData}(h:PD X c E e f):PV X c E e (vD f):=PE.imp h fun σ H Q ⟨ρ,F,ab,k⟩=>⟨ρ,F,ab,(Rk.bind k).imp fun d _ q v a H' s r=>Rk.ok q v a H' s r⟩
def getD:A->R PyData
 | .d x=>.ok x
 | _=>.bad
def eA(f:Sg->R A):Sg->R PyData:=fun ρ=>(f ρ).bind getD
theorem c7{f:Sg->R A}(h:PV X c E e f):PD X c E e (eA f):=PE.imp h fun σ H Q ⟨ρ,F,ab,k⟩=>⟨ρ,F,ab,(Rk.bind k).imp fun d _ q v a H' s r=>by
 cases d with
 | d x=>exact Rk.ok q v a H' s r
 | _=>exact False.elim q⟩
def eL(f:Sg->R (List PyData)):Sg->R PyData:=fun ρ=>(f ρ).bind fun xs=>.ok (.list xs)
theorem fN{f:Sg->R (List PyData)}(h:PN X c E e f):PD X c E e (eL f):=PE.imp h fun σ H Q ⟨ρ,F,ab,k⟩=>⟨ρ,F,ab,(Rk.bind k).imp fun xs _ q v i H' s r=>by
 obtain ⟨p,vs,h1,h2,d,b,g⟩:=r
 subst h1
 refine Rk.ok q (.ref p) (upd i p (.lst vs)) H' ⟨s.hh,fun a o z=>?_,fun a o z=>?_,fun a z n=>?_⟩ (.lst (SqL.of aX) (g.same (aO.upd b)))
 ·rw[aG (bU (s.ff a o z) b)];exact s.ff a o z
 ·by_cases w:a=p
  · subst w; rw [aX] at z; rw [d]; exact z
  · rw [aG w] at z; exact s.fh a o z
 ·by_cases w:a=p
  · subst w; exact .inl h2
  · rw [aG w] at n; exact s.nw a z n⟩
def e1{α β:Type}(g:α->R β)(f:Sg->R α):Sg->R β:=fun ρ=>(f ρ).bind g
def e2{α β γ:Type}(g:α->β->R γ)(f:Sg->R α)(f':Sg->R β):Sg->R γ:=fun ρ=>(f ρ).bind fun x=>(f' ρ).bind fun y=>g x y
noncomputable def bL:PyData->PyData->R PyData
 | .int i,.int j=>.ok (.int (i+j))
 | .str x,.str y=>if x.length+y.length<=sizeLine then .ok (.str (x++y)) else .bad
 | .tuple xs,.tuple ys=>if xs.isEmpty=false/\xs.length+ys.length<=sizeLine then .ok (.tuple (xs++ys)) else .bad
 | _,_=>.bad
def dSub:PyData->PyData->R PyData
 | .int i,.int j=>.ok (.int (i - j))
 | _,_=>.bad
noncomputable def dMul:PyData->PyData->R PyData
 | .int i,.int j=>if (-18446744073709551616 < i/\i < 18446744073709551616)\/(-18446744073709551616 < j/\j < 18446744073709551616) then .ok (.int (i * j)) else .bad
 | _,_=>.bad
def dDiv:PyData->PyData->R PyData
 | .int i,.int j=>if 0 < j/\j < 18446744073709551616 then .ok (.int (i / j)) else .bad
 | _,_=>.bad
def dMod:PyData->PyData->R PyData
 | .int i,.int j=>if 0 < j then .ok (.int (i % j)) else .bad
 | _,_=>.bad
def dNeg:PyData->R PyData
 | .int i=>.ok (.int (-i))
 | _=>.bad
def dLt:PyData->PyData->R PyData
 | .int i,.int j=>.ok (.bool (decide (i < j)))
 | _,_=>.bad
def dLe:PyData->PyData->R PyData
 | .int i,.int j=>.ok (.bool (decide (i<=j)))
 | _,_=>.bad
def dGt:PyData->PyData->R PyData
 | .int i,.int j=>.ok (.bool (decide (j < i)))
 | _,_=>.bad
def dGe:PyData->PyData->R PyData
 | .int i,.int j=>.ok (.bool (decide (j<=i)))
 | _,_=>.bad
def dEq(x y:PyData):R PyData:=if SeqAt.shaped x=true/\SeqAt.shaped y=true then .ok (.bool (PyData.eqv x y)) else .bad
def dNe(x y:PyData):R PyData:=if SeqAt.shaped x=true/\SeqAt.shaped y=true then .ok (.bool (!PyData.eqv x y)) else .bad
def hU:PyData->Bool
 | .none=>true
 | _=>false
def dIs(x y:PyData):R PyData:=if hU y=true then .ok (.bool (hU x)) else .bad
def dIsnt(x y:PyData):R PyData:=if hU y=true then .ok (.bool (!hU x)) else .bad
noncomputable def inD:PyData->PyData->Option Bool
 | .str i,.str j=>some (!(Builtin.Str.occurrences j i 0 j.length 1).isEmpty)
 | x,.list xs=>if SeqAt.shaped x=true/\SeqAt.shaped (.list xs)=true then some (xs.any fun y=>PyData.eqv y x) else none
 | x,.tuple xs=>if SeqAt.shaped x=true/\SeqAt.shaped (.tuple xs)=true then some (xs.any fun y=>PyData.eqv y x) else none
 | _,_=>none
def dNin(x y:PyData):R PyData:=match inD x y with
 | some b=>.ok (.bool (!b))
 | none=>.bad
noncomputable def dIx:PyData->PyData->R PyData
 | .list xs,.int i=>match atI xs i with
  | some v=>.ok v
  | none=>.bad
 | .tuple xs,.int i=>match atI xs i with
  | some v=>.ok v
  | none=>.bad
 | .str z,.int i=>if z.length<=sizeLine then match atI z.cps.toList i with
  | some u=>.ok (.str ⟨#[u]⟩)
  | none=>.bad else .bad
 | _,_=>.bad
end
section
variable{X:Cx}{c:Ct}{E:XK}{e a b:Expr}{α β γ:Type}{Ra:VR α}{Rb:VR β}{Rc:VR γ}{pos:Pos}
def r2D(Ra:VR α)(Rb:VR β)(Rc:VR γ)(g:α->β->R γ):R2:=fun v u H Q=>∃ H0 H1 F a b d,aO F H/\Ra a v H0 F H/\Rb b u H1 F H/\g a b=.ok d/\∀ w F' H',Ext F H F' H'->Rc d w H F' H'->Q w H'
def r1D(Ra:VR α)(Rb:VR β)(g:α->R β):V->Hp->VK->Prop:=fun v H Q=>∃ H0 F a b,aO F H/\Ra a v H0 F H/\g a=.ok b/\∀ w F' H',Ext F H F' H'->Rb b w H F' H'->Q w H'
theorem vX{g:α->β->R γ}:Op2 c Ra Rb Rc g (r2D Ra Rb Rc g):=fun e H1 F H a b d v u Q j f i h q=>⟨e,H1,F,a,b,d,j,f,i,h,q⟩
theorem zV{g:α->R β}:Op1 c Ra Rb g (r1D Ra Rb g):=fun d F H a b v Q h e f q=>⟨d,F,a,b,h,e,f,q⟩
theorem aS{d:Operator}{g:PyData->PyData->R PyData}{e fb:Sg->R PyData}(k:OpR X (binaryOp d) (r2D (b7 c) (b7 c) (c6 c) g))(i:dQ g)(j:PR X c E a e)(f:PR X c E b fb):PD X c E (.BinOp a d b pos) (e2 g e fb):=
 PE.imp (aKV k j f) fun σ H Q h=>tV2 vX i (rY c) (nK c) h
theorem zW{b:UnaryOp}{g:PyData->R PyData}{d:Sg->R PyData}(i:UnR X (unaryOp b) (r1D (b7 c) (c6 c) g))(e:pF g)(f:PR X c E a d):PD X c E (.UnaryOp b a pos) (e1 g d):=
 PE.imp (aRH i f) fun σ H Q h=>tV1 zV e (nK c) h
theorem pG{d:CmpOp}{g:PyData->PyData->R PyData}{e fb:Sg->R PyData}(l:OpR X (compareOp d) (r2D (b7 c) (b7 c) (c6 c) g))(j:dQ g)(k:PR X c E a e)(i:PR X c E b fb)(f:behindInMarks d b=false):PD X c E (.Compare a [d] [b] pos) (e2 g e fb):=
 PE.imp (aLQ l k i f) fun σ H Q h=>tV2 vX j (rY c) (nK c) h
theorem aY{g:PyData->PyData->R PyData}{d fb:Sg->R PyData}(k:IxR X (r2D (b7 c) (b7 c) (c6 c) g))(i:dQ g)(j:PR X c E a d)(e:PR X c E b fb)(f:aDB b:=by exact fun _ _=>rfl):PD X c E (.Subscript a b pos) (e2 g d fb):=
 PE.imp (L2.aKX k j e f) fun σ H Q h=>tV2 vX i (rY c) (nK c) h
theorem cB(E:X.K=c.K):OpR X (binaryOp .Add) (r2D (b7 c) (b7 c) (c6 c) bL):=by
 intro pins s σ H v u x y Q I r n h
 obtain ⟨G,H1,F,a,b,d,f,m,o,e,q⟩:=h
 unfold bL at e
 split at e
 ·rename_i i j
  cases e
  obtain rfl:=bE.int_of m
  obtain rfl:=bE.int_of o
  exact aOR pins s σ H _ _ x y Q I r n ⟨i,j,rfl,rfl,q _ F H (Ext.refl f) (.int _)⟩
 ·rename_i i j
  split at e
  ·rename_i g
   cases e
   obtain rfl:=bE.str_of m
   obtain rfl:=bE.str_of o
   exact aEW pins s σ H _ _ x y Q I r n ⟨i,j,rfl,rfl,g,q _ F H (Ext.refl f) (.str _)⟩
  ·cases e
 ·rename_i xs ys
  split at e
  ·rename_i g
   cases e
   obtain ⟨B,vs,rfl,D,A,k⟩:=bE.tup_of f m
   obtain ⟨C,us,rfl,J,w,l⟩:=bE.tup_of f o
   rw[<-E] at A w
   refine aLW pins s σ H _ _ x y Q I r n ⟨B,C,vs,us,rfl,rfl,A,w,?_,by rw[k.length,l.length];exact g.2,fun z=>?_,fun z p t=>?_⟩
   ·intro z;subst z;obtain rfl:xs=[]:=by cases k;rfl
    exact absurd g.1 (by decide)
   ·subst z
    obtain rfl:ys=[]:=by cases l;rfl
    exact q _ F H (Ext.refl f) (by rw[B9];exact .tup D k)
   ·exact q _ _ _ (Ext.new f t) (.tup (SqT.of aX) ((k.append l).same (aO.upd (bW f t))))
  ·cases e
 ·cases e
theorem bP:dQ bL:=by
 intro a b e h
 unfold bL at h
 split at h<;>(try split at h)<;>cases h
theorem mT{f:Value->Value->Sem Value}{g:PyData->PyData->R PyData}{C:Int->Int->Prop}{k:Int->Int->PyData}{kv:Int->Int->V}(l:OpR X f (rI C kv))(t:∀ i j F,DatV c.K F (kv i j) (k i j))
  (r:∀ a b d,g a b=.ok d->∃ i j,a=.int i/\b=.int j/\C i j/\d=k i j):OpR X f (r2D (b7 c) (b7 c) (c6 c) g):=by
 intro pins s σ H v u x y Q I z n h
 obtain ⟨A,H1,F,a,b,d,p,m,o,e,q⟩:=h
 obtain ⟨i,j,rfl,rfl,w,rfl⟩:=r a b d e
 obtain rfl:=bE.int_of m
 obtain rfl:=bE.int_of o
 exact l pins s σ H _ _ x y Q I z n ⟨i,j,rfl,rfl,w,q _ F H (Ext.refl p) (t i j F)⟩
theorem vY{f:Value->Value->Sem Value}{kv:Int->Int->V}(b:OpR X f (rI0 kv)):OpR X f (rI (fun _ _=>True) kv):=fun pins s σ H x y v u Q I c a ⟨i,j,h1,h2,_,q⟩=>b pins s σ H x y v u Q I c a ⟨i,j,h1,h2,q⟩
theorem gG:OpR X (binaryOp .Sub) (r2D (b7 c) (b7 c) (c6 c) dSub):=mT (vY aOS) (fun _ _ _=>.int _) fun a b d h=>by
 unfold dSub at h;split at h
 · cases h; exact ⟨_, _, rfl, rfl, trivial, rfl⟩
 · cases h
theorem iF:OpR X (binaryOp .Mult) (r2D (b7 c) (b7 c) (c6 c) dMul):=mT aOT (fun _ _ _=>.int _) fun a b d h=>by
 unfold dMul at h;split at h
 ·split at h
  · rename_i e; cases h; exact ⟨_, _, rfl, rfl, e, rfl⟩
  · cases h
 ·cases h
theorem gT:OpR X (binaryOp .FloorDiv) (r2D (b7 c) (b7 c) (c6 c) dDiv):=mT aI5 (fun _ _ _=>.int _) fun a b d h=>by
 unfold dDiv at h;split at h
 ·split at h
  · rename_i e; cases h; exact ⟨_, _, rfl, rfl, e, rfl⟩
  · cases h
 ·cases h
theorem cT:OpR X (binaryOp .Mod) (r2D (b7 c) (b7 c) (c6 c) dMod):=mT aOU (fun _ _ _=>.int _) fun a b d h=>by
 unfold dMod at h;split at h
 ·split at h
  · rename_i e; cases h; exact ⟨_, _, rfl, rfl, e, rfl⟩
  · cases h
 ·cases h
theorem vZ:OpR X (compareOp .Lt) (r2D (b7 c) (b7 c) (c6 c) dLt):=mT (vY aRI) (fun _ _ _=>.bl _) fun a b d h=>by
 unfold dLt at h;split at h
 · cases h; exact ⟨_, _, rfl, rfl, trivial, rfl⟩
 · cases h
theorem aHG:OpR X (compareOp .LtE) (r2D (b7 c) (b7 c) (c6 c) dLe):=mT (vY aRJ) (fun _ _ _=>.bl _) fun a b d h=>by
 unfold dLe at h;split at h
 · cases h; exact ⟨_, _, rfl, rfl, trivial, rfl⟩
 · cases h
theorem jL:OpR X (compareOp .Gt) (r2D (b7 c) (b7 c) (c6 c) dGt):=mT (vY aRK) (fun _ _ _=>.bl _) fun a b d h=>by
 unfold dGt at h;split at h
 · cases h; exact ⟨_, _, rfl, rfl, trivial, rfl⟩
 · cases h
theorem aPI:OpR X (compareOp .GtE) (r2D (b7 c) (b7 c) (c6 c) dGe):=mT (vY aRL) (fun _ _ _=>.bl _) fun a b d h=>by
 unfold dGe at h;split at h
 · cases h; exact ⟨_, _, rfl, rfl, trivial, rfl⟩
 · cases h
theorem eG:dQ dSub:=by intro a b e h;unfold dSub at h;split at h<;>cases h
theorem fO:dQ dMul:=by intro a b e h;unfold dMul at h;split at h<;>(try split at h)<;>cases h
theorem eW:dQ dDiv:=by intro a b e h;unfold dDiv at h;split at h<;>(try split at h)<;>cases h
theorem cF:dQ dMod:=by intro a b e h;unfold dMod at h;split at h<;>(try split at h)<;>cases h
theorem qH:dQ dLt:=by intro a b e h;unfold dLt at h;split at h<;>cases h
theorem aA6:dQ dLe:=by intro a b e h;unfold dLe at h;split at h<;>cases h
theorem gJ:dQ dGt:=by intro a b e h;unfold dGt at h;split at h<;>cases h
theorem aJG:dQ dGe:=by intro a b e h;unfold dGe at h;split at h<;>cases h
theorem fE:dQ dEq:=by intro a b e h;unfold dEq at h;split at h<;>cases h
theorem uO:dQ dNe:=by intro a b e h;unfold dNe at h;split at h<;>cases h
theorem uP:dQ dIs:=by intro a b e h;unfold dIs at h;split at h<;>cases h
theorem aFF:dQ dIsnt:=by intro a b e h;unfold dIsnt at h;split at h<;>cases h
theorem aHH:dQ dNin:=by intro a b e h;unfold dNin at h;split at h<;>cases h
theorem oP:pF dNeg:=by intro a e h;unfold dNeg at h;split at h<;>cases h
theorem aH:dQ dIx:=by
 intro a b e h
 unfold dIx at h
 split at h<;>(try split at h)<;>(try split at h)<;>cases h
theorem tK:UnR X (unaryOp .USub) (r1D (b7 c) (c6 c) dNeg):=by
 intro pins s σ H v x Q I g h
 obtain ⟨j,F,a,d,f,e,b,q⟩:=h
 unfold dNeg at b
 split at b
 ·rename_i i
  cases b
  obtain rfl:=bE.int_of e
  exact aOV pins s σ H _ x Q I g ⟨i,rfl,q _ F H (Ext.refl f) (.int _)⟩
 ·cases b
theorem iG(i:X.K=c.K)(m:X.A.units+64 < cLine):OpR X (compareOp .Eq) (r2D (b7 c) (b7 c) (c6 c) dEq):=by
 intro pins s σ H v u x y Q I n k h
 obtain ⟨o,H1,F,a,b,d,f,j,l,e,q⟩:=h
 unfold dEq at e
 split at e
 ·rename_i g
  cases e
  exact aO6 m pins s σ H _ _ x y Q I n k ⟨a,b,by rw[i];exact bE.heap f j,by rw[i];exact bE.heap f l,g.1,g.2,q _ F H (Ext.refl f) (.bl _)⟩
 ·cases e
theorem aA7(i:X.K=c.K)(m:X.A.units+64 < cLine):OpR X (compareOp .NotEq) (r2D (b7 c) (b7 c) (c6 c) dNe):=by
 intro pins s σ H v u x y Q I n k h
 obtain ⟨o,H1,F,a,b,d,f,j,l,e,q⟩:=h
 unfold dNe at e
 split at e
 ·rename_i g
  cases e
  exact aO7 m pins s σ H _ _ x y Q I n k ⟨a,b,by rw[i];exact bE.heap f j,by rw[i];exact bE.heap f l,g.1,g.2,q _ F H (Ext.refl f) (.bl _)⟩
 ·cases e
theorem oQ{K:Frag}{F H:Hp}{v:V}{d:PyData}(h:bE K F H v d):decide (v=.non)=hU d:=by
 rcases h with h|⟨p,vs,xs,h1,h2,_⟩
 · cases h <;> rfl
 · subst h1 h2; rfl
theorem aA8:OpR X (compareOp .Is) (r2D (b7 c) (b7 c) (c6 c) dIs):=by
 intro pins s σ H v u x y Q I l g h
 obtain ⟨m,H1,F,a,b,d,j,f,i,e,q⟩:=h
 unfold dIs at e
 split at e
 ·rename_i k
  cases e
  have e2:=oQ i
  rw[k] at e2
  refine aOW pins s σ H _ _ x y Q I l g ⟨BY e2,q _ F H (Ext.refl j) ?_⟩
  rw[oQ f];exact .bl _
 ·cases e
theorem aJH:OpR X (compareOp .IsNot) (r2D (b7 c) (b7 c) (c6 c) dIsnt):=by
 intro pins s σ H v u x y Q I l g h
 obtain ⟨m,H1,F,a,b,d,j,f,i,e,q⟩:=h
 unfold dIsnt at e
 split at e
 ·rename_i k
  cases e
  have e2:=oQ i
  rw[k] at e2
  refine aLP pins s σ H _ _ x y Q I l g ⟨BY e2,q _ F H (Ext.refl j) ?_⟩
  rw[oQ f];exact .bl _
 ·cases e
theorem aFG{xs:List PyData}(h:SeqAt.shaped (.list xs)=true):PyData.canLayAll0 xs=true/\PyData.depthAll xs<=63:=by
 have h':(PyData.canLay0 (.list xs) && decide ((PyData.list xs).depth<=64))=true:=h
 rw[AU] at h'
 have a:PyData.depthAll xs+1<=64:=BY h'.2
 exact ⟨h'.1,by omega⟩
theorem aCZ{xs:List PyData}(h:SeqAt.shaped (.tuple xs)=true):PyData.canLayAll0 xs=true/\PyData.depthAll xs<=63:=by
 have h':(PyData.canLay0 (.tuple xs) && decide ((PyData.tuple xs).depth<=64))=true:=h
 rw[AU] at h'
 have a:PyData.depthAll xs+1<=64:=BY h'.2
 exact ⟨h'.1,by omega⟩
theorem j7{d:PyData}(h:SeqAt.shaped d=true):d.canLay0=true:=by
 have h':(PyData.canLay0 d && decide (d.depth<=64))=true:=h
 rw[AU] at h'
 exact h'.1
theorem inD_cases{x y:PyData}{b:Bool}(h:inD x y=some b):(∃ i j,x=.str i/\y=.str j/\b = !(Builtin.Str.occurrences j i 0 j.length 1).isEmpty) \/
  (∃ xs,y=.list xs/\SeqAt.shaped x=true/\SeqAt.shaped (.list xs)=true/\b=xs.any fun z=>PyData.eqv z x)\/(∃ xs,y=.tuple xs/\SeqAt.shaped x=true/\SeqAt.shaped (.tuple xs)=true/\b=xs.any fun z=>PyData.eqv z x):=by
 unfold inD at h
 split at h
 ·cases h;exact .inl ⟨_,_,rfl,rfl,rfl⟩
 ·split at h
  · rename_i a; cases h; exact .inr (.inl ⟨_, rfl, a.1, a.2, rfl⟩)
  · cases h
 ·split at h
  · rename_i a; cases h; exact .inr (.inr ⟨_, rfl, a.1, a.2, rfl⟩)
  · cases h
 ·cases h
theorem aA9{a b:Nat}(h:a<=63):min a b<=63:=BJ (Nat.min_le_left _ _) h
theorem aMF(l:X.K=c.K)(B:X.A.units+64 < cLine):OpR X (compareOp .NotIn) (r2D (b7 c) (b7 c) (c6 c) dNin):=by
 intro pins s σ H v u x y Q I p n h
 obtain ⟨z,H1,F,a,b,d,e,m,o,k,q⟩:=h
 unfold dNin at k
 split at k
 ·rename_i bb r
  cases k
  have f:EP X pins σ Q (.bool (!bb)) s:=⟨.bl (!bb),H,I,rfl,q _ F H (Ext.refl e) (.bl _)⟩
  rcases inD_cases r with ⟨i,j,rfl,rfl,rfl⟩|⟨xs,rfl,h1,h2,rfl⟩|⟨xs,rfl,h1,h2,rfl⟩
  ·obtain rfl:=bE.str_of m
   obtain rfl:=bE.str_of o
   exact z9 pins s σ H _ _ x y Q I p n ⟨i,j,rfl,rfl,q _ F H (Ext.refl e) (.bl _)⟩
  ·obtain ⟨w,r1⟩:=DatV.reads I (by rw[l];exact bE.heap e m) (j7 h1) p
   obtain ⟨bs,r2⟩:=DatV.reads I (by rw[l];exact bE.heap e o) (j7 h2) n
   have g:=aFG h2
   have t:=aA9 (b:=a.depth) g.2
   exact SeqAt.notIn_list_reads r2 r1 g.1 (j7 h1) (by omega) f
  ·obtain ⟨w,r1⟩:=DatV.reads I (by rw[l];exact bE.heap e m) (j7 h1) p
   obtain ⟨bs,r2⟩:=DatV.reads I (by rw[l];exact bE.heap e o) (j7 h2) n
   have g:=aCZ h2
   have t:=aA9 (b:=a.depth) g.2
   exact SeqAt.notIn_tuple_reads r2 r1 g.1 (j7 h1) (by omega) f
 ·cases k
theorem aZ(A:X.K=c.K):IxR X (r2D (b7 c) (b7 c) (c6 c) dIx):=by
 intro value e pins s σ H v u x y Q I l n h r
 obtain ⟨C,H1,F,a,b,d,j,m,o,f,q⟩:=h
 unfold dIx at f
 split at f
 ·rename_i xs i
  split at f
  ·rename_i w g
   cases f
   obtain ⟨p,vs,rfl,h1,h2⟩:=bE.lst_of j m
   obtain rfl:=bE.int_of o
   obtain ⟨z,k,t⟩:=aA5 h2 g
   rw[<-A] at h1
   exact aDC value e pins s σ H _ _ x y Q I l n ⟨p,vs,i,z,rfl,rfl,h1,k,q _ F H (Ext.refl j) t⟩ r
  ·cases f
 ·rename_i xs i
  split at f
  ·rename_i w g
   cases f
   obtain ⟨p,vs,rfl,_,h1,h2⟩:=bE.tup_of j m
   obtain rfl:=bE.int_of o
   obtain ⟨z,k,t⟩:=aA5 h2 g
   rw[<-A] at h1
   exact aGM value e pins s σ H _ _ x y Q I l n ⟨p,vs,i,z,rfl,rfl,h1,k,q _ F H (Ext.refl j) t⟩ r
  ·cases f
 ·rename_i z i
  split at f
  ·rename_i B
   split at f
   ·rename_i w g
    cases f
    obtain rfl:=bE.str_of m
    obtain rfl:=bE.int_of o
    exact aGN value e pins s σ H _ _ x y Q I l n ⟨z,i,w,rfl,rfl,B,g,q _ F H (Ext.refl j) (.str _)⟩ r
   ·cases f
  ·cases f
 ·cases f
def tTf(c:Ct)(E:XK)(f:Sg->R Bool):TT:=fun σ H Q=>∃ ρ F,Ab c ρ σ F H/\Rk c E F H (f ρ) fun b=>∀ F' H',Ext F H F' H'->Q b H'
abbrev PTf(X:Cx)(c:Ct)(E:XK)(e:Expr)(f:Sg->R Bool):Prop:=PT X e (tTf c E f)
def asB:PyData->R Bool
 | .bool b=>.ok b
 | _=>.bad
theorem xI{f:Sg->R PyData}{σ:L2.St}{H:Hp}{Q:Bool->Hp->Prop}(h:tTf c E (e1 asB f) σ H Q):tV (c6 c) c E f σ H fun x H'=>∃ k,x=.bl k/\Q k H':=by
 obtain ⟨ρ,F,ab,h⟩:=h
 refine ⟨ρ,F,ab,(Rk.bind h).imp fun d _ q v a H' s r=>?_⟩
 cases d with
 | bool b=>exact ⟨b,DatV.bl_of r,Rk.ok q a H' s⟩
 | _=>exact False.elim q
theorem cK{d:CmpOp}{g:PyData->PyData->R PyData}{e fb:Sg->R PyData}(l:OpR X (compareOp d) (r2D (b7 c) (b7 c) (c6 c) g))(j:dQ g)(k:PR X c E a e)(i:PR X c E b fb)(f:behindInMarks d b=false):PTf X c E (.Compare a [d] [b] pos) (e1 asB (e2 g e fb)):=
 PT.imp (kU l k i f) fun σ H Q h=>tV2 vX j (rY c) (nK c) (xI h)
theorem iB{f:Sg->R PyData}(h:PD X c E e f)(a:∀ whole,isTrue e X.env whole=(do let v <-whole;standAt e.pos;holding [v] (truthy v)):=by intro _;rfl):PTf X c E e (e1 asB f):=
 PT.imp (L2.iB h a) fun σ H Q h=>xI h
def jM(f g:Sg->R Bool):Sg->R Bool:=fun ρ=>(f ρ).bind fun b=>if b=true then g ρ else .ok false
def bOr(f g:Sg->R Bool):Sg->R Bool:=fun ρ=>(f ρ).bind fun b=>if b=true then .ok true else g ρ
def qI(f:Sg->R Bool):Sg->R Bool:=fun ρ=>(f ρ).bind fun b=>.ok (!b)
abbrev PWf(X:Cx)(c:Ct)(E:XK)(e:Expr)(f:Sg->R Bool):Prop:=PW X e (tTf c E f)
theorem PW.imp{X:Cx}{e:Expr}{t t':TT}(h:PW X e t)(i:∀ σ H Q,t' σ H Q->t σ H Q):PW X e t':=fun a pins s σ H Q I q=>h a pins s σ H Q I (i σ H Q q)
theorem aST{f g:Sg->R Bool}{σ:L2.St}{H:Hp}{Q:Bool->Hp->Prop}(h:tTf c E (jM f g) σ H Q):aOH (tTf c E f) (tTf c E g) σ H Q:=by
 obtain ⟨ρ,F,ab,h⟩:=h
 refine ⟨ρ,F,ab,(Rk.bind h).imp fun b _ q a H' s=>?_⟩
 cases b with
 | true=>exact ⟨ρ,a,ab.ext s,(Rk.ext s q).imp fun d _ z i H2 e=>z i H2 (s.trans e)⟩
 | false=>exact Rk.ok q a H' s
theorem tor{f g:Sg->R Bool}{σ:L2.St}{H:Hp}{Q:Bool->Hp->Prop}(h:tTf c E (bOr f g) σ H Q):tOr (tTf c E f) (tTf c E g) σ H Q:=by
 obtain ⟨ρ,F,ab,h⟩:=h
 refine ⟨ρ,F,ab,(Rk.bind h).imp fun b _ q a H' s=>?_⟩
 cases b with
 | false=>exact ⟨ρ,a,ab.ext s,(Rk.ext s q).imp fun d _ z i H2 e=>z i H2 (s.trans e)⟩
 | true=>exact Rk.ok q a H' s
theorem j2{f:Sg->R Bool}(h:PTf X c E a f):PWf X c E (.BoolOp .And [a] pos) f:=L2.j2 h
theorem rD{f:Sg->R Bool}(h:PTf X c E a f):PWf X c E (.BoolOp .Or [a] pos) f:=L2.rD h
theorem kE{f g:Sg->R Bool}{rest:List Expr}(h:PTf X c E a f)(h2:PWf X c E (.BoolOp .And (b::rest) pos) g):PWf X c E (.BoolOp .And (a::b::rest) pos) (jM f g):=PW.imp (L2.kE h h2) fun _ _ _ q=>aST q
theorem p7{f g:Sg->R Bool}{rest:List Expr}(h:PTf X c E a f)(h2:PWf X c E (.BoolOp .Or (b::rest) pos) g):PWf X c E (.BoolOp .Or (a::b::rest) pos) (bOr f g):=PW.imp (L2.p7 h h2) fun _ _ _ q=>tor q
theorem k9{f:Sg->R Bool}(h:PTf X c E a f):PTf X c E (.UnaryOp .Not a pos) (qI f):=PT.imp (L2.k9 h) fun σ H Q ⟨ρ,F,ab,k⟩=>⟨ρ,F,ab,(Rk.bind k).imp fun b _ q d H' s=>Rk.ok q d H' s⟩
noncomputable def aBA(f g:Sg->R PyData):Sg->R PyData:=fun ρ=>(f ρ).bind fun x=>(asB x).bind fun b=>if b=true then g ρ else .ok (.bool false)
def eOr(f g:Sg->R PyData):Sg->R PyData:=fun ρ=>(f ρ).bind fun x=>(asB x).bind fun b=>if b=true then .ok (.bool true) else g ρ
def aJI(f:Sg->R PyData):Sg->R PyData:=fun ρ=>(f ρ).bind fun x=>(asB x).bind fun b=>.ok (.bool (!b))
def eIf{α:Type}(t:Sg->R Bool)(f g:Sg->R α):Sg->R α:=fun ρ=>(t ρ).bind fun b=>if b=true then f ρ else g ρ
theorem aHI{op}{f:Sg->R PyData}(h:PD X c E a f):PD X c E (.BoolOp op [a] pos) f:=aOI h
theorem aBB{f g:Sg->R PyData}{rest:List Expr}(h:PD X c E a f)(h2:PD X c E (.BoolOp .And (b::rest) pos) g):PD X c E (.BoolOp .And (a::b::rest) pos) (aBA f g):=PE.imp (aOJ h h2) fun σ H Q e=>by
 obtain ⟨ρ,F,ab,k⟩:=e
 refine ⟨ρ,F,ab,(Rk.bind k).imp fun d _ q v i H' s r=>?_⟩
 cases d with
 | bool b=>
  refine ⟨b,DatV.bl_of r,?_⟩
  cases b with
  | true=>exact aAF ⟨ρ,i,ab.ext s,(Rk.ext s q).imp fun d _ z v l H2 j=>z v l H2 (s.trans j)⟩
  | false=>exact aAE (Rk.ok q (.bl false) i H' s (.bl false))
 | _=>exact False.elim q
theorem aPJ{f:Sg->R PyData}(h:PD X c E a f):PD X c E (.UnaryOp .Not a pos) (aJI f):=PE.imp (aOK h) fun σ H Q e=>by
 obtain ⟨ρ,F,ab,k⟩:=e
 refine ⟨ρ,F,ab,(Rk.bind k).imp fun d _ q v g H' s r=>?_⟩
 cases d with
 | bool b=>exact ⟨b,DatV.bl_of r,Rk.ok q _ g H' s (.bl _)⟩
 | _=>exact False.elim q
theorem aLA{t:Sg->R Bool}{f g:Sg->R PyData}{q:Expr}(m:PTf X c E q t)(h:PD X c E a f)(h2:PD X c E b g):PD X c E (.IfExp q a b pos) (eIf t f g):=PE.imp (aIQ m h h2) fun σ H Q i=>by
 obtain ⟨ρ,F,ab,k⟩:=i
 refine ⟨ρ,F,ab,(Rk.bind k).imp fun b _ q l H' s=>?_⟩
 cases b with
 | true=>exact aAF ⟨ρ,l,ab.ext s,(Rk.ext s q).imp fun d _ z v j H2 e=>z v j H2 (s.trans e)⟩
 | false=>exact aAE ⟨ρ,l,ab.ext s,(Rk.ext s q).imp fun d _ z v j H2 e=>z v j H2 (s.trans e)⟩
noncomputable def eCh(g g':PyData->PyData->R PyData)(fa fb fc:Sg->R PyData):Sg->R PyData:=fun ρ=>(fa ρ).bind fun x=>(fb ρ).bind fun y=>(g x y).bind fun z=>(asB z).bind fun k=>if k=true then (fc ρ).bind fun w=>g' y w else .ok (.bool false)
end
def AFs(g:Gb)(K:Frag)(mg:Str->Option Value)(F:Hp):List A->List V->Prop
 | [],[]=>True
 | a::as,v::vs=>AF g K mg F a v/\AFs g K mg F as vs
 | _,_=>False
theorem AFs.same{g:Gb}{K:Frag}{mg:Str->Option Value}{F F':Hp}(s:aO F F'):∀ {as:List A} {vs:List V},AFs g K mg F as vs->AFs g K mg F' as vs
 | [],[],_=>trivial
 | a::as,v::vs,h=>⟨AF.same s h.1,AFs.same s h.2⟩
theorem AFs.len{g:Gb}{K:Frag}{mg:Str->Option Value}{F:Hp}:∀ {as:List A} {vs:List V},AFs g K mg F as vs->vs.length=as.length
 | [],[],_=>rfl
 | a::as,v::vs,h=>by rw[AW,AW,AFs.len h.2]
theorem PA.imp{X:Cx}{es:List Expr}{t t':TA}(h:PA X es t)(i:∀ σ H Q,t' σ H Q->t σ H Q):PA X es t':=fun pos pins s σ H Q I q=>h pos pins s σ H Q I (i σ H Q q)
def tAd(c:Ct)(E:XK)(f:Sg->R (List PyData)):TA:=fun σ H Q=>∃ ρ F,Ab c ρ σ F H/\Rk c E F H (f ρ) fun ds=>∀ vs F' H',Ext F H F' H'->DatVs c.K F' vs ds->Q vs H'
def tAv(c:Ct)(E:XK)(f:Sg->R (List A)):TA:=fun σ H Q=>∃ ρ F,Ab c ρ σ F H/\Rk c E F H (f ρ) fun ds=>∀ vs F' H',Ext F H F' H'->AFs c.g c.K c.mg F' ds vs->Q vs H'
abbrev PAd(X:Cx)(c:Ct)(E:XK)(es:List Expr)(f:Sg->R (List PyData)):Prop:=PA X es (tAd c E f)
abbrev PAv(X:Cx)(c:Ct)(E:XK)(es:List Expr)(f:Sg->R (List A)):Prop:=PA X es (tAv c E f)
noncomputable def aM{α:Type}:Sg->R (List α):=fun _=>.ok []
def aA{α:Type}(f:Sg->R α)(g:Sg->R (List α)):Sg->R (List α):=fun ρ=>(f ρ).bind fun x=>(g ρ).bind fun xs=>.ok (x::xs)
section
variable{X:Cx}{c:Ct}{E:XK}{e a b:Expr}{es:List Expr}{pos:Pos}
theorem bR:PAd X c E [] aM:=PA.imp aU fun σ H Q ⟨ρ,F,ab,k⟩=>Rk.ok k [] F H (Ext.refl ab.fh) .nil
theorem bB:PAv X c E [] aM:=PA.imp aU fun σ H Q ⟨ρ,F,ab,k⟩=>Rk.ok k [] F H (Ext.refl ab.fh) trivial
theorem aR{f:Sg->R PyData}{g:Sg->R (List PyData)}(h:PD X c E e f)(h2:PAd X c E es g)(d:starEach (e::es) X.env=(false,eval e X.env)::starEach es X.env:=by rfl):PAd X c E (e::es) (aA f g):=PA.imp (aJ h h2 d) fun σ H Q a=>by
 obtain ⟨ρ,F,ab,k⟩:=a
 refine ⟨ρ,F,ab,(Rk.bind k).imp fun x _ q v j H1 s1 r1=>⟨ρ,j,ab.ext s1,((Rk.bind q).ext s1).imp fun xs _ q vs i H2 b r2=>?_⟩⟩
 exact Rk.ok q (v::vs) i H2 (s1.trans b) (.cons (DatV.same b.ff r1) r2)
theorem aD{f:Sg->R A}{g:Sg->R (List A)}(h:PV X c E e f)(h2:PAv X c E es g)(d:starEach (e::es) X.env=(false,eval e X.env)::starEach es X.env:=by rfl):PAv X c E (e::es) (aA f g):=PA.imp (aJ h h2 d) fun σ H Q a=>by
 obtain ⟨ρ,F,ab,k⟩:=a
 refine ⟨ρ,F,ab,(Rk.bind k).imp fun x _ q v j H1 s1 r1=>⟨ρ,j,ab.ext s1,((Rk.bind q).ext s1).imp fun xs _ q vs i H2 b r2=>?_⟩⟩
 exact Rk.ok q (v::vs) i H2 (s1.trans b) ⟨AF.same b.ff r1,r2⟩
def d3(f:Sg->R (List PyData)):Sg->R PyData:=fun ρ=>(f ρ).bind fun xs=>if xs.length<=16777216 then .ok (.tuple xs) else .bad
def eJ(f:Sg->R (List PyData)):Sg->R (List PyData):=fun ρ=>(f ρ).bind fun xs=>if xs.length<=16777216 then .ok xs else .bad
theorem dI:sizeLine=16777216:=EE
theorem dR{x1}{f:Sg->R (List PyData)}(h:PAd X c E es f):PD X c E (.Tuple es x1 pos) (d3 f):=PE.imp (aGJ h) fun σ H Q b=>by
 obtain ⟨ρ,F,ab,k⟩:=b
 refine ⟨ρ,F,ab,(Rk.bind k).imp fun xs _ q vs e H1 s1 r1=>?_⟩
 by_cases a:xs.length<=16777216
 ·rw[AD a] at q
  refine ⟨by rw[r1.length,dI];exact a,fun p d=>?_⟩
  exact Rk.ok q (.ref p) _ _ (s1.trans (Ext.new s1.fh d)) (.tup (SqT.of aX) (r1.same (aO.upd (bW s1.fh d))))
 ·rw[AE a] at q;exact q.elim
theorem eP{f:Sg->R (List PyData)}(h:PAd X c E es f):PN X c E (.List es pos) (eJ f):=PE.imp (aOY h) fun σ H Q b=>by
 obtain ⟨ρ,F,ab,k⟩:=b
 refine ⟨ρ,F,ab,(Rk.bind k).imp fun xs _ q vs e H1 s1 r1=>?_⟩
 by_cases a:xs.length<=16777216
 ·rw[AD a] at q
  refine ⟨by rw[r1.length,dI];exact a,fun p d=>?_⟩
  exact Rk.ok q (.ref p) _ _ (s1.trans (Ext.own s1.fh d)) ⟨p,vs,rfl,bW s1.hh d,aX,bW s1.fh d,r1⟩
 ·rw[AE a] at q;exact q.elim
noncomputable def dLen:PyData->R PyData
 | .str z=>if z.length<=16777216 then .ok (.int z.length) else .bad
 | .list xs=>.ok (.int xs.length)
 | .tuple xs=>.ok (.int xs.length)
 | _=>.bad
theorem plain_len:pF dLen:=by intro a e h;unfold dLen at h;split at h<;>(try split at h)<;>cases h
theorem cZ{j:Sg->R PyData}(l:X.K=c.K)(h0:PE X e (tCB (fun xs H Q=>∃ x n,xs=[x]/\aOX X.K x H n/\Q (.int n) H) (dU (tV (b7 c) c E j) iS))):PD X c E e (e1 dLen j):=
 PE.imp h0 fun σ H Q h=>by
  obtain ⟨ρ,F,ab,k⟩:=tV1 (Ra:=b7 c) zV plain_len (nK c) h
  refine ⟨ρ,F,ab,k.imp fun d _ q v o H' s r=>?_⟩
  obtain ⟨t,i,a,u,f,g,b,q⟩:=q v o H' s r
  unfold dLen at b
  split at b
  ·rename_i z
   split at b
   ·rename_i m
    cases b
    obtain rfl:=bE.str_of g
    exact ⟨_,_,rfl,⟨by rw[dI];exact m,rfl⟩,q _ i H' (Ext.refl f) (.int _)⟩
   ·cases b
  ·cases b
   obtain ⟨p,vs,rfl,h1,h2⟩:=bE.lst_of f g
   rw[<-l] at h1
   exact ⟨_,vs.length,rfl,.inl ⟨vs,h1,rfl⟩,q _ i H' (Ext.refl f) (by rw[h2.length];exact .int _)⟩
  ·cases b
   obtain ⟨p,vs,rfl,_,h1,h2⟩:=bE.tup_of f g
   rw[<-l] at h1
   exact ⟨_,vs.length,rfl,.inr ⟨vs,h1,rfl⟩,q _ i H' (Ext.refl f) (by rw[h2.length];exact .int _)⟩
  ·cases b
noncomputable def dTup:PyData->R PyData
 | .list xs=>.ok (.tuple xs)
 | .tuple xs=>.ok (.tuple xs)
 | _=>.bad
theorem aHJ:pF dTup:=by intro a e h;unfold dTup at h;split at h<;>cases h
theorem fX{g:Sg->R PyData}(m:X.K=c.K)(h0:PE X e (tCB (fun xs H Q=>∃ p ys,xs=[.ref p]/\((SqL X.K H p ys/\∀ l,H l=none->Q (.ref l) (upd H l (.tup ys)))\/(SqT X.K H p ys/\Q (.ref p) H))) (dU (tV (b7 c) c E g) iS))):PD X c E e (e1 dTup g):=
 PE.imp h0 fun σ H Q h=>by
  obtain ⟨ρ,F,ab,k⟩:=tV1 (Ra:=b7 c) zV aHJ (nK c) h
  refine ⟨ρ,F,ab,k.imp fun d _ q v n H' s r=>?_⟩
  obtain ⟨u,o,a,w,f,i,b,q⟩:=q v n H' s r
  unfold dTup at b
  split at b
  ·cases b
   obtain ⟨p,vs,rfl,h1,h2⟩:=bE.lst_of f i
   rw[<-m] at h1
   exact ⟨p,vs,rfl,.inl ⟨h1,fun l j=>q _ _ _ (Ext.new f j) (.tup (SqT.of aX) (h2.same (aO.upd (bW f j))))⟩⟩
  ·cases b
   obtain ⟨p,vs,rfl,t,h1,h2⟩:=bE.tup_of f i
   rw[<-m] at h1
   exact ⟨p,vs,rfl,.inr ⟨h1,q _ o H' (Ext.refl f) (.tup t h2)⟩⟩
  ·cases b
noncomputable def aPK:PyData->R (List PyData)
 | .list xs=>.ok xs
 | .tuple xs=>.ok xs
 | _=>.bad
noncomputable def dInt:PyData->R PyData
 | .int i=>.ok (.int i)
 | .bool b=>.ok (.int (if b=true then 1 else 0))
 | _=>.bad
theorem aHK:pF dInt:=by intro a e h;unfold dInt at h;split at h<;>cases h
theorem xJ{l:Sg->R PyData}(h0:PE X e (tCB (fun xs H Q=>(∃ i,xs=[.int i]/\Q (.int i) H)\/∃ k,xs=[.bl k]/\Q (.int (if k then 1 else 0)) H) (dU (tV (b7 c) c E l) iS))):PD X c E e (e1 dInt l):=
 PE.imp h0 fun σ H Q h=>by
  obtain ⟨ρ,F,ab,k⟩:=tV1 (Ra:=b7 c) zV aHK (nK c) h
  refine ⟨ρ,F,ab,k.imp fun d _ q v n H' s r=>?_⟩
  obtain ⟨o,m,a,p,j,g,f,q⟩:=q v n H' s r
  unfold dInt at f
  split at f
  ·cases f
   obtain rfl:=bE.int_of g
   exact .inl ⟨_,rfl,q _ m H' (Ext.refl j) (.int _)⟩
  ·rename_i b
   cases f
   obtain rfl:=bE.bl_of g
   exact .inr ⟨b,rfl,q _ m H' (Ext.refl j) (by cases b<;>exact .int _)⟩
  ·cases f
noncomputable def aRQ:List PyData->Option (List Bool)
 | []=>some []
 | .bool b::t=>(aRQ t).map (b :: ·)
 | _=>none
end
inductive Fw where
 | nx (ρ:Sg)|bk (ρ:Sg)|ct (ρ:Sg)|rt (a:A)
def AR(g:Gb)(K:Frag)(mg:Str->Option Value)(H F' H':Hp):A->V->Prop
 | .l xs,v=>∃ p us,v=.ref p/\H p=none/\H' p=some (.lst us)/\F' p=none/\DatVs K F' us xs
 | a,v=>AF g K mg F' a v
theorem AR.of{g:Gb}{K:Frag}{mg:Str->Option Value}{H b H':Hp}{a:A}{v:V}(h:AF g K mg b a v):AR g K mg H b H' a v:=by
 cases a with
 | l xs=>exact False.elim h
 | _=>exact h
def iH(c:Ct)(F:Hp)(D:lJ):Fw->Prop
 | .nx ρ=>∀ σ' F' H',aO F F'->Ab c ρ σ' F' H'->D.nx σ' H'
 | .bk ρ=>∀ σ' F' H',aO F F'->Ab c ρ σ' F' H'->D.bk σ' H'
 | .ct ρ=>∀ σ' F' H',aO F F'->Ab c ρ σ' F' H'->D.ct σ' H'
 | .rt a=>∀ v F' H',Ext c.F0 c.H0 F' H'->AR c.g c.K c.mg c.H0 F' H' a v->D.rt v H'
theorem iH.same{c:Ct}{F F1:Hp}{D:lJ}(s:aO F F1):∀ {w:Fw},iH c F D w->iH c F1 D w
 | .nx ρ,h=>fun b d H' s' ab=>h b d H' (fun a o z=>s' a o (s a o z)) ab
 | .bk ρ,h=>fun b d H' s' ab=>h b d H' (fun a o z=>s' a o (s a o z)) ab
 | .ct ρ,h=>fun b d H' s' ab=>h b d H' (fun a o z=>s' a o (s a o z)) ab
 | .rt a,h=>h
def tSf(c:Ct)(E:XK)(f:Sg->R Fw):TS:=fun D σ H=>∃ ρ F,Ab c ρ σ F H/\Rk c E F H (f ρ) (iH c F D)
abbrev PSf(X:Cx)(c:Ct)(E:XK)(st:Stmt)(f:Sg->R Fw):Prop:=PS X st (tSf c E f)
abbrev lT(X:Cx)(c:Ct)(E:XK)(st:List Stmt)(f:Sg->R Fw):Prop:=PSs X st (tSf c E f)
theorem get_set{α:Type}{l:List α}{i j:Nat}{x y:α}(h:(l.set i x)[j]? = some y):(i=j/\y=x/\i < l.length)\/(i≠j/\l[j]? = some y):=by
 by_cases e:i=j
 ·subst e
  by_cases a:i < l.length
  · rw [CF a] at h; exact .inl ⟨rfl, (BP h).symm, a⟩
  · rw [List.getElem?_eq_none_iff.mpr (by rw [CK]; omega)] at h; cases h
 ·rw[BQ e] at h;exact .inr ⟨e,h⟩
theorem Ab.setF{c:Ct}{ρ:Sg}{σ:L2.St}{F H:Hp}{i:Nat}{a:A}{v:V}(b:Ab c ρ σ F H)(u:AO c F H a v)(t:a.own=true->∀ (j:Nat) (a':A),j≠i->ρ[j]? = some (some a')->a'.own=true->σ[j]? ≠ some (some v)):Ab c (ρ.set i (some a)) (σ.set i (some v)) F H where
 len:=by rw[CK,CK];exact b.len
 fh:=b.fh
 slot:=fun j a' h=>by
  rcases get_set h with ⟨e,q,o⟩|⟨m,q⟩
  ·subst e
   cases q
   exact ⟨v,CF (by rw[<-b.len];exact o),u⟩
  ·rw[BQ m];exact b.slot j a' q
 apart:=fun j k a' s d h1 h2 r p=>by
  rcases get_set h1 with ⟨e,q,o⟩|⟨m,q⟩
  ·subst e
   cases q
   rcases get_set h2 with ⟨n,g,l⟩|⟨f,g⟩
   ·exact absurd n d
   ·rw[CF (by rw[<-b.len];exact o),BQ f]
    exact (t r k s (BX d) g p).symm
  ·rcases get_set h2 with ⟨n,g,l⟩|⟨f,g⟩
   ·subst n
    cases g
    rw[CF (by rw[<-b.len];exact l),BQ m]
    exact t p j a' d q r
   ·rw[BQ m,BQ f]
    exact b.apart j k a' s d q g r p
 f0:=b.f0
 h0:=b.h0
 n0:=b.n0
 t0:=b.t0
theorem AO.of{c:Ct}{F H:Hp}:∀ {a:A} {v:V},AF c.g c.K c.mg F a v->AO c F H a v
 | .d x,v,h=>h
 | .x e,v,h=>h
 | .g k n G,v,h=>h
 | .f kvs,v,h=>h
 | .o e,v,h=>h
theorem AF.notOwn{g:Gb}{K:Frag}{mg:Str->Option Value}{F:Hp}:∀ {a:A} {v:V},AF g K mg F a v->a.own=false
 | .d x,v,h=>rfl
 | .x e,v,h=>rfl
 | .g k n G,v,h=>rfl
 | .f kvs,v,h=>rfl
 | .o e,v,h=>rfl
theorem Ab.setA{c:Ct}{ρ:Sg}{σ:L2.St}{F H:Hp}{i:Nat}{a:A}{v:V}(b:Ab c ρ σ F H)(d:AF c.g c.K c.mg F a v):Ab c (ρ.set i (some a)) (σ.set i (some v)) F H:=
 b.setF (AO.of d) fun z=>by rw[AF.notOwn d] at z;cases z
theorem Ab.setN{c:Ct}{ρ:Sg}{σ:L2.St}{F H d H':Hp}{i:Nat}{xs:List PyData}{v:V}(b:Ab c ρ σ F H)(e:Ext F H d H')(h:rX c xs v H d H'):Ab c (ρ.set i (some (.l xs))) (σ.set i (some v)) d H':=by
 obtain ⟨p,vs,rfl,h1,h2,k,m⟩:=h
 refine (b.ext e).setF ⟨p,vs,rfl,h2,k,bW b.h0 h1,m⟩ fun _ j n _ a o=>?_
 obtain ⟨w,g,q⟩:=b.slot j n a
 rw[g]
 intro z
 cases z
 obtain ⟨s,o',r,f,_⟩:=q.at o
 cases r
 rw[h1] at f
 cases f
theorem Ab.putO{c:Ct}{ρ:Sg}{σ:L2.St}{F H:Hp}{i:Nat}{a u:A}{p:Addr}{o:HO}(b:Ab c ρ σ F H)(hi:ρ[i]? = some (some a))(C:a.own=true)(I:σ[i]? = some (some (.ref p)))(P:u.own=true)(T:AO c F (upd H p o) u (.ref p)) :
  Ab c (ρ.set i (some u)) σ F (upd H p o):=by
 obtain ⟨v,h1,q⟩:=b.slot i _ hi
 rw[I] at h1
 cases h1
 obtain ⟨X,o',y,h2,Q,W⟩:=q.at C
 cases y
 have t:∀ (j:Nat) (a:A) (w:V),j≠i->ρ[j]? = some (some a)->σ[j]? = some (some w)->AO c F H a w->AO c F (upd H p o) a w:=by
  intro j K w R U D s
  by_cases own:K.own=true
  ·refine s.off fun z=>?_
   subst z
   exact b.apart j i _ _ R U hi own C (by rw[D,I])
  ·cases K with
   | l zs=>exact absurd rfl own
   | m zs=>exact absurd rfl own
   | d x=>exact s
   | x e=>exact s
   | g k n f=>exact s
   | k S=>exact s
   | f S=>exact s
   | o S=>exact s
 exact {
  len:=by rw[CK];exact b.len
  fh:=fun a o z=>by rw[aG (fun w=>by subst w;rw[Q] at z;cases z)];exact b.fh a o z
  slot:=fun j a h=>by
   rcases get_set h with ⟨e,q,O⟩|⟨L,q⟩
   ·subst e
    cases q
    exact ⟨_,I,T⟩
   ·obtain ⟨w,D,s⟩:=b.slot j a q
    exact ⟨w,D,t j a w (BX L) q D s⟩
  apart:=fun j k u J r h1 h2 N M=>by
   rcases get_set h1 with ⟨e,q,O⟩|⟨L,q⟩
   ·subst e
    cases q
    rcases get_set h2 with ⟨y,B,E⟩|⟨G,B⟩
    ·exact absurd y r
    ·exact b.apart _ k _ J r hi B C M
   ·rcases get_set h2 with ⟨y,B,E⟩|⟨G,B⟩
    ·subst y
     exact b.apart j _ u _ r q hi N C
    ·exact b.apart j k u J r q B N M
  f0:=b.f0
  h0:=fun a o z=>by rw[aG (fun w=>by subst w;rw[W] at z;cases z)];exact b.h0 a o z
  n0:=b.n0
  t0:=b.t0}
theorem Ab.putL{c:Ct}{ρ:Sg}{σ:L2.St}{F H:Hp}{i:Nat}{xs ys:List PyData}{p:Addr}{vs:List V}(b:Ab c ρ σ F H)(hi:ρ[i]? = some (some (.l xs)))(a:σ[i]? = some (some (.ref p)))(e:DatVs c.K F vs ys) :
  Ab c (ρ.set i (some (.l ys))) σ F (upd H p (.lst vs)):=by
 obtain ⟨v,h1,h,us,rfl,h2,d,f,g⟩:=b.slot i _ hi
 rw[a] at h1
 cases h1
 exact b.putO hi rfl a rfl ⟨p,vs,rfl,aX,d,f,e⟩
theorem Ab.putM{c:Ct}{ρ:Sg}{σ:L2.St}{F H:Hp}{i:Nat}{d a:List (PyData×PyData)}{p:Addr}{es:List Ent}{ep:Nat}(b:Ab c ρ σ F H)(hi:ρ[i]? = some (some (.m d)))(e:σ[i]? = some (some (.ref p)))(g:MapRel c.K F es a) :
  Ab c (ρ.set i (some (.m a))) σ F (upd H p (dZ c.w p es ep)):=by
 obtain ⟨v,h1,k,us,rfl,h2,f,h,j⟩:=b.slot i _ hi
 rw[e] at h1
 cases h1
 exact b.putO hi rfl e rfl ⟨p,es,rfl,⟨ep,aX⟩,f,h,g⟩
theorem Ab.setM{c:Ct}{ρ:Sg}{σ:L2.St}{F H d H':Hp}{i:Nat}{a:List (PyData×PyData)}{p:Addr}{es:List Ent}{ep:Nat}(b:Ab c ρ σ F H)(e:Ext F H d H')(h1:H p=none)(h2:H' p=some (dZ c.w p es ep))(k:d p=none)(l:MapRel c.K d es a):Ab c (ρ.set i (some (.m a))) (σ.set i (some (.ref p))) d H':=by
 refine (b.ext e).setF ⟨p,es,rfl,⟨ep,h2⟩,k,bW b.h0 h1,l⟩ fun _ j n _ f o=>?_
 obtain ⟨w,h,q⟩:=b.slot j n f
 rw[h]
 intro z
 cases z
 obtain ⟨s,o',r,g,_⟩:=q.at o
 cases r
 rw[h1] at g
 cases g
noncomputable def fz(i:Nat)(ρ:Sg):Sg:=match ρ[i]? with
 | some (some (.l xs))=>ρ.set i (some (.d (.list xs)))
 | _=>ρ
theorem Ab.publ{c:Ct}{ρ:Sg}{σ:L2.St}{F H:Hp}{i:Nat}{a0 a1:A}{p:Addr}{o:HO}(b:Ab c ρ σ F H)(hi:ρ[i]? = some (some a0))(M:σ[i]? = some (some (.ref p)))(X:a0.own=true)(h2:H p=some o)(B:F p=none)(I:c.H0 p=none)(N:a1.own=false)(U:AO c (upd F p o) H a1 (.ref p)):Ab c (ρ.set i (some a1)) σ (upd F p o) H:=by
 have t:aO F (upd F p o):=aO.upd B
 exact {
  len:=by rw[CK];exact b.len
  fh:=fun a o' z=>by
   by_cases w:a=p
   ·subst w;rw[aX] at z;rw[h2];exact z
   ·rw[aG w] at z;exact b.fh a o' z
  slot:=fun j a h=>by
   rcases get_set h with ⟨e,q,Q⟩|⟨J,q⟩
   ·subst e
    cases q
    exact ⟨_,M,U⟩
   ·obtain ⟨w,L,s⟩:=b.slot j a q
    refine ⟨w,L,?_⟩
    have off:∀ r,a.own=true->w=.ref r->F r=none->upd F p o r=none:=fun r T e f=>by
     rw[aG]
     ·exact f
     ·intro z
      subst z
      exact b.apart j i _ _ (BX J) q hi T X (by rw[L,M,e])
    cases a with
    | l zs=>obtain ⟨r,ws,e,C,s,D,E⟩:=s;exact ⟨r,ws,e,C,off r rfl e s,D,E.same t⟩
    | m kvs=>obtain ⟨r,ws,e,C,s,D,E⟩:=s;exact ⟨r,ws,e,C,off r rfl e s,D,E.same t⟩
    | d x=>exact DatV.same t s
    | x e=>exact AF.same (g:=c.g) (K:=c.K) (mg:=c.mg) (a:=.x e) t s
    | g k n f=>exact AF.same (g:=c.g) (K:=c.K) (mg:=c.mg) (a:=.g k n f) t s
    | k S=>obtain ⟨S,f,cl,doc,pm,V,ct,h0,h1,h2,B,I⟩:=s;exact ⟨S,f,cl,doc,pm,V,ct,h0,h1,t _ _ h2,t _ _ B,I⟩
    | f kvs=>exact AF.same (g:=c.g) (K:=c.K) (mg:=c.mg) (a:=.f kvs) t s
    | o e=>exact AF.same (g:=c.g) (K:=c.K) (mg:=c.mg) (a:=.o e) t s
  apart:=fun j k W O G h1 h2 y v=>by
   rcases get_set h1 with ⟨e,q,Q⟩|⟨J,q⟩
   ·cases q;rw[N] at y;cases y
   ·rcases get_set h2 with ⟨Y,u,P⟩|⟨R,u⟩
    ·cases u;rw[N] at v;cases v
    ·exact b.apart j k W O G q u y v
  f0:=fun a o z=>t a o (b.f0 a o z)
  h0:=b.h0
  n0:=fun a z n=>by
   by_cases w:a=p
   ·subst w;exact .inl I
   ·rw[aG w] at n;exact b.n0 a z n
  t0:=b.t0}
theorem Ab.frz{c:Ct}{ρ:Sg}{σ:L2.St}{F H:Hp}(b:Ab c ρ σ F H)(i:Nat):∃ F',aO F F'/\Ab c (fz i ρ) σ F' H:=by
 unfold fz
 split
 ·rename_i xs hi
  obtain ⟨v,e,p,vs,rfl,h2,a,f,d⟩:=b.slot i _ hi
  exact ⟨_,aO.upd a,b.publ hi e rfl h2 a f rfl (.lst (SqL.of aX) (d.same (aO.upd a)))⟩
 ·exact ⟨F,cO F,b⟩
noncomputable def tL:PyData->PyData->R PyData
 | .int i,.int j=>.ok (.int (i+j))
 | _,_=>.bad
section
variable{X:Cx}{c:Ct}{E:XK}{e a b:Expr}{st:Stmt}{rest:List Stmt}{pos:Pos}
def sFz(i:Nat)(f:Sg->R Fw):Sg->R Fw:=fun ρ=>f (fz i ρ)
theorem qJ(i:Nat){f:Sg->R Fw}(h:PSf X c E st f):PSf X c E st (sFz i f):=PS.imp h fun D σ H d=>by
 obtain ⟨ρ,F,ab,k⟩:=d
 obtain ⟨g,s,b⟩:=ab.frz i
 refine ⟨fz i ρ,g,b,?_⟩
 have a:Rk c E F H (f (fz i ρ)) (iH c F D):=k
 cases q:f (fz i ρ) with
 | bad=>rw[q] at a;exact a
 | ok w=>rw[q] at a;exact iH.same s a
 | ex e=>rw[q] at a;exact a
noncomputable def sNx:Sg->R Fw:=fun ρ=>.ok (.nx ρ)
def aN(f g:Sg->R Fw):Sg->R Fw:=fun ρ=>(f ρ).bind fun w=>match w with
 | .nx ρ'=>g ρ'
 | w=>.ok w
theorem cR:lT X c E [] sNx:=PSs.imp L2.cR fun D σ H ⟨ρ,F,ab,k⟩=>Rk.ok k σ F H (cO F) ab
theorem aP{f:Sg->R Fw}(h:PSf X c E st f):lT X c E [st] f:=L2.aP h
theorem aF{f g:Sg->R Fw}(h:PSf X c E st f)(h2:lT X c E rest g):lT X c E (st::rest) (aN f g):=PSs.imp (L2.aF h h2) fun D σ H j=>by
 obtain ⟨ρ,F,ab,k⟩:=j
 refine ⟨ρ,F,ab,(Rk.bind k).imp fun w _ q=>?_⟩
 cases w with
 | nx ρ'=>
  intro l m H' s d
  refine ⟨ρ',m,d,?_⟩
  have b:Rk c E F H (g ρ') (iH c F D):=q
  cases i:g ρ' with
  | bad=>rw[i] at b;exact b
  | ok w=>rw[i] at b;exact iH.same s b
  | ex e=>rw[i] at b;exact b
 | bk ρ'=>exact q
 | ct ρ'=>exact q
 | rt a=>exact q
def bX(f:Sg->R A):Sg->R Fw:=fun ρ=>(f ρ).bind fun a=>.ok (.rt a)
theorem bM{f:Sg->R A}(h:PV X c E e f):PSf X c E (.Return (some e) pos) (bX f):=PS.imp (L2.bM h) fun D σ H ⟨ρ,F,ab,k⟩=>
 ⟨ρ,F,ab,(Rk.bind k).imp fun a _ q v b H' s r=>Rk.ok q v b H' (ab.all.trans s) (AR.of r)⟩
noncomputable def aRR:Sg->R Fw:=fun _=>.ok (.rt (.d .none))
def sIf(t:Sg->R Bool)(f g:Sg->R Fw):Sg->R Fw:=fun ρ=>(t ρ).bind fun b=>if b=true then f ρ else g ρ
theorem Rk.fw{F a H H1:Hp}{D:lJ}{r:R Fw}(s:aO F a)(k:Rk c E F H r (iH c F D)):Rk c E a H1 r (iH c a D):=by
 cases r with
 | bad=>exact k
 | ok w=>exact iH.same s k
 | ex e=>exact k
theorem dO{q:Expr}{d e:List Stmt}{t:Sg->R Bool}{f g:Sg->R Fw}(j:PTf X c E q t)(l:lT X c E d f)(i:lT X c E e g):PSf X c E (.If q d e pos) (sIf t f g):=PS.imp (L2.dO j l i) fun D σ H a=>by
 obtain ⟨ρ,F,ab,k⟩:=a
 refine ⟨ρ,F,ab,(Rk.bind k).imp fun b _ q h H' s=>?_⟩
 cases b with
 | true=>exact aAF ⟨ρ,h,ab.ext s,Rk.fw s.ff q⟩
 | false=>exact aAE ⟨ρ,h,ab.ext s,Rk.fw s.ff q⟩
def bN(i:Nat)(f:Sg->R A):Sg->R Fw:=fun ρ=>(f ρ).bind fun a=>.ok (.nx (ρ.set i (some a)))
theorem aK{i:Nat}{f:Sg->R A}(h:PS X st (kG (tV (aJF c) c E f) (j3 i))):PSf X c E st (bN i f):=PS.imp h fun D σ H ⟨ρ,F,ab,k⟩=>
 ⟨ρ,F,ab,(Rk.bind k).imp fun a _ q v b H' s r=>Rk.ok q _ b H' s.ff ((ab.ext s).setA r)⟩
def dW(i:Nat)(f:Sg->R (List PyData)):Sg->R Fw:=fun ρ=>(f ρ).bind fun xs=>.ok (.nx (ρ.set i (some (.l xs))))
theorem fQ{i:Nat}{f:Sg->R (List PyData)}(h:PS X st (kG (tV (rX c) c E f) (j3 i))):PSf X c E st (dW i f):=PS.imp h fun D σ H ⟨ρ,F,ab,k⟩=>
 ⟨ρ,F,ab,(Rk.bind k).imp fun a _ q v b H' s r=>Rk.ok q _ b H' s.ff (ab.setN s r)⟩
def aFH(f:Sg->R A):Sg->R Fw:=fun ρ=>(f ρ).bind fun _=>.ok (.nx ρ)
theorem eU{f:Sg->R A}(h:PS X st (vJ (tV (aJF c) c E f))):PSf X c E st (aFH f):=PS.imp h fun D σ H ⟨ρ,F,ab,k⟩=>
 ⟨ρ,F,ab,(Rk.bind k).imp fun a _ q v b H' s r=>Rk.ok q _ b H' s.ff (ab.ext s)⟩
def fY(i:Nat)(f:Sg->R PyData):Sg->R Fw:=fun ρ=>match ρ[i]? with
 | some (some (.l xs))=>(f ρ).bind fun x=>if xs.length < 16777216 then .ok (.nx (ρ.set i (some (.l (xs++[x]))))) else .bad
 | _=>.bad
theorem i7{i:Nat}{f:Sg->R PyData}(l:X.K=c.K)(h:PS X st (vJ (tBM X.K "list" tE (iR i) (dU (tV (c6 c) c E f) iS)))):PSf X c E st (fY i f):=PS.imp h fun D σ H ⟨ρ,F,ab,k⟩=>by
 unfold fY at k
 split at k
 ·rename_i xs hi
  obtain ⟨v,d,p,vs,rfl,h2,g,j,b⟩:=ab.slot i _ hi
  refine ⟨_,d,.inl ⟨rfl,vs,SqL.of h2⟩,ρ,F,ab,(Rk.bind k).imp fun x _ q u e H1 s1 r1=>?_⟩
  by_cases a:xs.length < 16777216
  ·rw[AD a] at q
   refine ⟨p,vs,u,rfl,rfl,s1.hh _ _ h2,by rw[b.length,dI];exact a,?_⟩
   exact Rk.ok q σ e _ s1.ff ((ab.ext s1).putL hi d ((b.same s1.ff).append (.cons r1 .nil)))
  ·rw[AE a] at q;exact q.elim
 ·exact k.elim
def aBC(i:Nat)(f g:Sg->R PyData):Sg->R Fw:=fun ρ=>(g ρ).bind fun x=>match ρ[i]? with
 | some (some (.l xs))=>(f ρ).bind fun k=>match k with
  | .int k=>match ixN xs.length k with
   | some j=>.ok (.nx (ρ.set i (some (.l (xs.set j x)))))
   | none=>.bad
  | _=>.bad
 | _=>.bad
theorem yZ{K:Frag}{F:Hp}{x:V}{d:PyData}(h:DatV K F x d):∀ {vs:List V} {xs:List PyData} (j:Nat),DatVs K F vs xs->DatVs K F (vs.set j x) (xs.set j d)
 | _,_,_,.nil=>.nil
 | _,_,0,.cons _ t=>.cons h t
 | _,_,j+1,.cons q t=>.cons q (yZ h j t)
theorem aPL{i:Nat}{f g:Sg->R PyData}(h:PS X st (kG (tV (c6 c) c E g) (aIT (iR i) (tV (b7 c) c E f) aKY))):PSf X c E st (aBC i f g):=PS.imp h fun D σ H ⟨ρ,F,ab,k⟩=>by
 refine ⟨ρ,F,ab,(Rk.bind k).imp fun x _ q v s H1 s1 r1=>?_⟩
 split at q
 ·rename_i xs hi
  have a:=ab.ext s1
  obtain ⟨_,n,p,vs,rfl,h2,t,w,m⟩:=a.slot i _ hi
  refine ⟨_,n,ρ,s,a,((Rk.bind q).ext s1).imp fun k _ q u r H2 b r2=>?_⟩
  have e:=a.ext b
  cases k with
  | int kk=>
   have d:Rk c E F H (match ixN xs.length kk with|some j=>R.ok (.nx (ρ.set i (some (.l (xs.set j x)))))|none=>.bad) (iH c F D):=q
   clear q
   split at d
   ·rename_i j o
    obtain rfl:=bE.int_of r2
    refine ⟨p,vs,kk,j,rfl,rfl,b.hh _ _ h2,by rw[m.length];exact o,?_⟩
    exact Rk.ok d σ r _ (s1.trans b).ff (e.putL hi n (yZ (DatV.same b.ff r1) j (m.same b.ff)))
   ·exact d.elim
  | _=>exact q.elim
 ·exact q.elim
def aFI(i:Nat)(g:PyData->PyData->R PyData)(f:Sg->R PyData):Sg->R Fw:=fun ρ=>(eV i ρ).bind fun x=>(f ρ).bind fun y=>(g x y).bind fun z=>.ok (.nx (ρ.set i (some (.d z))))
theorem rE{i:Nat}{k:Int->Int->Int}{g:PyData->PyData->R PyData}{f:Sg->R PyData}(l:∀ x y,(∃ i j,x=.int i/\y=.int j/\g x y=.ok (.int (k i j)))\/g x y=.bad)(h:PS X st (aOM i (tV (b7 c) c E f) (ipI k))):PSf X c E st (aFI i g f):=PS.imp h fun D σ H ⟨ρ,F,ab,k⟩=>by
 have b:=Rk.bind k
 unfold eV at b
 split at b
 ·rename_i x o
  obtain ⟨v,h1,h2⟩:=ab.slot i _ o
  refine ⟨v,h1,ρ,F,ab,(Rk.bind b).imp fun y _ q u p H1 s1 r1=>?_⟩
  rcases l x y with ⟨m,n,rfl,rfl,e⟩|e
  ·rw[e] at q
   obtain rfl:=DatV.int_of h2
   obtain rfl:=bE.int_of r1
   exact ⟨m,n,rfl,rfl,Rk.ok q _ p H1 s1.ff ((ab.ext s1).setA (a:=.d _) (.int _))⟩
  ·rw[e] at q;exact q.elim
 ·exact b.elim
theorem aMG(x y:PyData):(∃ i j,x=.int i/\y=.int j/\tL x y=.ok (.int (i+j)))\/tL x y=.bad:=by
 unfold tL
 split
 · exact .inl ⟨_, _, rfl, rfl, rfl⟩
 · exact .inr rfl
theorem aMH(x y:PyData):(∃ i j,x=.int i/\y=.int j/\dSub x y=.ok (.int (i - j)))\/dSub x y=.bad:=by
 unfold dSub
 split
 · exact .inl ⟨_, _, rfl, rfl, rfl⟩
 · exact .inr rfl
end
def Tg(c:Ct)(g:TG)(fs:PyData->Sg->Option Sg)(is:List Nat):Prop:=∀ (v:V) (x:PyData) (ρ ρ':Sg) (σ:L2.St) (F H:Hp) (Q:L2.St->Hp->Prop),Ab c ρ σ F H->DatV c.K F v x->fs x ρ=some ρ'->
 (∀ σ':L2.St,σ'.length=σ.length->(∀ j:Nat,j∉is->σ'[j]? = σ[j]?)->Ab c ρ' σ' F H->Q σ' H)->g v σ H Q
noncomputable def stN(i:Nat):PyData->Sg->Option Sg:=fun x ρ=>some (ρ.set i (some (.d x)))
theorem bQ{c:Ct}(i:Nat):Tg c (j3 i) (stN i) [i]:=fun v x ρ f σ F H Q ab r e q=>by
 cases e
 exact q _ CK (fun j b=>BQ (by intro z;subst z;exact b (by simp))) (ab.setA (a:=.d x) r)
noncomputable def stL:List (PyData->Sg->Option Sg)->List PyData->Sg->Option Sg
 | [],[],ρ=>some ρ
 | f::fs,x::xs,ρ=>(f x ρ).bind (stL fs xs)
 | _,_,_=>none
def Tgs(c:Ct)(g:TGs)(fs:List (PyData->Sg->Option Sg))(is:List Nat):Prop:=∀ (vs:List V) (xs:List PyData) (ρ ρ':Sg) (σ:L2.St) (F H:Hp) (Q:L2.St->Hp->Prop),Ab c ρ σ F H->DatVs c.K F vs xs->stL fs xs ρ=some ρ'->
 (∀ σ':L2.St,σ'.length=σ.length->(∀ j:Nat,j∉is->σ'[j]? = σ[j]?)->Ab c ρ' σ' F H->Q σ' H)->g vs σ H Q
theorem kY{c:Ct}:Tgs c aIS [] []:=fun vs xs ρ a σ F H Q ab r e q=>by
 cases xs with
 | nil=>cases e;exact ⟨by cases r;rfl,q σ rfl (fun _ _=>rfl) ab⟩
 | cons x t=>cases e
theorem dG{c:Ct}{g:TG}{gs:TGs}{f:PyData->Sg->Option Sg}{fs:List (PyData->Sg->Option Sg)}{is js:List Nat}(h:Tg c g f is)(h2:Tgs c gs fs js):Tgs c (aKS g gs) (f::fs) (is++js):=fun vs xs ρ a σ F H Q ab r e q=>by
 cases r with
 | nil=>cases e
 | cons r1 r2=>
  rename_i x d vs ds
  have b:(f d ρ).bind (stL fs ds)=some a:=e
  cases e1:f d ρ with
  | none=>rw[e1] at b;cases b
  | some ρ1=>
   rw[e1] at b
   refine ⟨_,_,rfl,h _ _ ρ ρ1 σ F H _ ab r1 e1 fun n o k1 m=>h2 _ _ ρ1 a n F H _ m r2 b fun k p k2 l=>q k (p.trans o) (fun j i=>?_) l⟩
   rw[BR,not_or] at i
   exact (k2 j i.2).trans (k1 j i.1)
noncomputable def stT(fs:List (PyData->Sg->Option Sg)):PyData->Sg->Option Sg:=fun x ρ=>match x with
 | .tuple xs=>stL fs xs ρ
 | _=>none
theorem aDP:∀ {fs:List (PyData->Sg->Option Sg)} {xs:List PyData} {ρ ρ':Sg},stL fs xs ρ=some ρ'->xs.length=fs.length
 | [],[],_,_,_=>rfl
 | [],_::_,_,_,h=>by cases h
 | _::_,[],_,_,h=>by cases h
 | f::fs,x::xs,ρ,ρ',h=>by
  have h':(f x ρ).bind (stL fs xs)=some ρ':=h
  cases e:f x ρ with
  | none=>rw[e] at h';cases h'
  | some ρ1=>
   rw[e] at h'
   have:=aDP (fs:=fs) (xs:=xs) h'
   simp[this]
theorem mU{c:Ct}{gs:TGs}{fs:List (PyData->Sg->Option Sg)}{is:List Nat}{n:Nat}{K:Frag}(d:K=c.K)(h:Tgs c gs fs is)(f:fs.length=n):Tg c (aOL K n gs) (stT fs) is:=fun v x ρ b σ F H Q ab r e q=>by
 cases x with
 | tuple xs=>
  obtain ⟨a,vs,rfl,h1,h2⟩:=r.tup_of
  subst d
  exact ⟨a,vs,rfl,h1.same ab.fh,by rw[h2.length,aDP e,f],h vs xs ρ b σ F H Q ab h2 e q⟩
 | _=>cases e
structure Yld(K:Frag)(J:It)(F B:Hp)(xs:List PyData):Prop where
 len:xs.length<=sizeLine
 go:∀ (i:Nat) F1 H1,aO F F1->aO F1 H1->aO B H1->i < xs.length->J.go i H1
 yld:∀ (i:Nat) F1 H1 v H2 x,aO F F1->aO F1 H1->aO B H1->J.yld i H1 v H2->xs[i]? = some x->∃ F2,Ext F1 H1 F2 H2/\DatV K F2 v x
 stop:∀ F1 H1,aO F F1->aO F1 H1->aO B H1->J.stop xs.length H1
def tI(c:Ct)(E:XK)(f:Sg->R (List PyData)):TI:=fun σ H Rr=>∃ ρ F,Ab c ρ σ F H/\Rk c E F H (f ρ) fun xs=>∀ J B F' H',Ext F H F' H'->aO B H'->Yld c.K J F' B xs->Rr J H'
def tI0(c:Ct)(E:XK)(f:Sg->R (List PyData)):TI:=fun σ H Rr=>∃ ρ F,Ab c ρ σ F H/\Rk c E F H (f ρ) fun xs=>∀ J F' H',Ext F H F' H'->Yld c.K J F' (fun _=>none) xs->Rr J H'
theorem PI.imp{X:Cx}{tg e:Expr}{t t':TI}(h:PI X tg e t)(i:∀ σ H Q,t' σ H Q->t σ H Q):PI X tg e t':=fun pins s σ H Q I q=>h pins s σ H Q I (i σ H Q q)
abbrev PIf(X:Cx)(c:Ct)(E:XK)(tg e:Expr)(f:Sg->R (List PyData)):Prop:=PI X tg e (tI c E f)
abbrev PI0(X:Cx)(c:Ct)(E:XK)(tg e:Expr)(f:Sg->R (List PyData)):Prop:=PI X tg e (tI0 c E f)
theorem v4{X:Cx}{c:Ct}{E:XK}{tg e:Expr}{f:Sg->R (List PyData)}(h:PI0 X c E tg e f):PIf X c E tg e f:=PI.imp h fun σ H Q ⟨ρ,F,ab,k⟩=>
 ⟨ρ,F,ab,k.imp fun xs _ q J a H' s y=>q J (fun _=>none) a H' s (fun _ _ z=>nomatch z) y⟩
def rZ{H:Hp}:aO (fun _=>none) H:=fun _ _ z=>nomatch z
noncomputable def cJ:PyData->R (List PyData)
 | .list xs=>if xs.length<=16777216 then .ok xs else .bad
 | .tuple xs=>if xs.length<=16777216 then .ok xs else .bad
 | .str z=>if z.cps.toList.length<=16777216 then .ok (z.cps.toList.map fun u=>.str ⟨#[u]⟩) else .bad
 | _=>.bad
theorem aBD{K:Frag}{F B H:Hp}{a:Addr}{vs:List V}{xs:List PyData}(h:xs.length<=16777216)(f:∀ H1,aO F H1->aO B H1->SqL K H1 a vs)(c:DatVs K F vs xs):Yld K (Itl K a) F B xs where
 len:=by rw[dI];exact h
 go:=fun i g H1 h1 h2 b hi=>by
  have q:=f H1 (fun x o z=>h2 x o (h1 x o z)) b
  exact ⟨vs,vs[i]'(by rw[c.length];exact hi),q,by simp⟩
 yld:=fun i g H1 v H2 x h1 h2 b y e=>by
  obtain ⟨rfl,y⟩:=y
  have q:=y vs (f _ (fun x o z=>h2 x o (h1 x o z)) b)
  obtain ⟨d,e2,r⟩:=c.get q
  rw[e] at e2
  cases e2
  exact ⟨g,Ext.refl h2,r.same h1⟩
 stop:=fun g H1 h1 h2 b=>⟨vs,f H1 (fun x o z=>h2 x o (h1 x o z)) b,by rw[c.length];exact AG _⟩
theorem aDQ{K:Frag}{F B:Hp}{a:Addr}{vs:List V}{xs:List PyData}(h:xs.length<=16777216)(c:SqT K F a vs)(b:DatVs K F vs xs):Yld K (Itt K a) F B xs where
 len:=by rw[dI];exact h
 go:=fun i f H1 h1 h2 g hi=>by
  have q:=c.same (H':=H1) (fun x o z=>h2 x o (h1 x o z))
  exact ⟨vs,vs[i]'(by rw[b.length];exact hi),q,by simp⟩
 yld:=fun i f H1 v H2 x h1 h2 g y e=>by
  obtain ⟨rfl,y⟩:=y
  have q:=y vs (c.same (fun x o z=>h2 x o (h1 x o z)))
  obtain ⟨d,e2,r⟩:=b.get q
  rw[e] at e2
  cases e2
  exact ⟨f,Ext.refl h2,r.same h1⟩
 stop:=fun f H1 h1 h2 g=>⟨vs,c.same (fun x o z=>h2 x o (h1 x o z)),by rw[b.length];exact AG _⟩
theorem aDR{K:Frag}{F B:Hp}{z:Str}(c:z.cps.toList.length<=16777216):Yld K (Its z) F B (z.cps.toList.map fun u=>.str ⟨#[u]⟩) where
 len:=by rw[dI,AB];exact c
 go:=fun i a H1 h1 h2 b hi=>by
  rw[AB,CU] at hi
  exact hi
 yld:=fun i a H1 v H2 x h1 h2 b y e=>by
  obtain ⟨rfl,u,d,rfl⟩:=y
  rw[AH,EY,d] at e
  cases e
  exact ⟨a,Ext.refl h2,.str _⟩
 stop:=fun a H1 h1 h2 b=>by
  show (z.cps.toList.map _).length=z.cps.size
  rw[AB,CU]
section
variable{X:Cx}{c:Ct}{E:XK}{tg e a b:Expr}{pos:Pos}
theorem xK{f:Sg->R PyData}(j:X.K=c.K)(h:PD X c E e f):PI0 X c E tg e (e1 cJ f):=PI.imp (PI.or (aGY h) (aG4 h)) fun σ H Q ⟨ρ,F,ab,k⟩=>by
 have b:=Rk.bind k
 cases a:f ρ with
 | bad=>rw[a] at b;exact b.elim
 | ex x=>rw[a] at b;exact .inl ⟨ρ,F,ab,by rw[a];exact b⟩
 | ok d=>
  rw[a] at b
  have k2:=Rk.ok b
  unfold cJ at k2
  split at k2
  ·rename_i xs
   split at k2
   ·rename_i g
    refine .inl ⟨ρ,F,ab,?_⟩
    rw[a]
    intro v i H' s r
    obtain ⟨p,vs,rfl,h1,h2⟩:=DatV.lst_of r
    refine ⟨p,rfl,.inl ⟨⟨vs,?_⟩,?_⟩⟩
    · rw [j]; exact h1.same s.fh
    · rw [j]; exact Rk.ok k2 _ i H' s (aBD (H := H') g (fun H1 q _ => h1.same q) h2)
   ·exact k2.elim
  ·rename_i xs
   split at k2
   ·rename_i g
    refine .inl ⟨ρ,F,ab,?_⟩
    rw[a]
    intro v i H' s r
    obtain ⟨p,vs,rfl,h1,h2⟩:=DatV.tup_of r
    refine ⟨p,rfl,.inr ⟨⟨vs,?_⟩,?_⟩⟩
    · rw [j]; exact h1.same s.fh
    · rw [j]; exact Rk.ok k2 _ i H' s (aDQ g h1 h2)
   ·exact k2.elim
  ·rename_i z
   split at k2
   ·rename_i g
    refine .inr ⟨ρ,F,ab,?_⟩
    rw[a]
    intro v i H' s r
    obtain rfl:=DatV.str_of r
    exact ⟨z,rfl,Rk.ok k2 _ i H' s (aDR g)⟩
   ·exact k2.elim
  ·exact k2.elim
theorem r6{f:Sg->R PyData}(j:X.K=c.K)(h:PR X c E e f):PIf X c E tg e (e1 cJ f):=PI.imp (PI.or (aGY h) (aG4 h)) fun σ H Q ⟨ρ,F,ab,k⟩=>by
 have b:=Rk.bind k
 cases a:f ρ with
 | bad=>rw[a] at b;exact b.elim
 | ex x=>rw[a] at b;exact .inl ⟨ρ,F,ab,by rw[a];exact b⟩
 | ok d=>
  rw[a] at b
  have k2:=Rk.ok b
  unfold cJ at k2
  split at k2
  ·rename_i xs
   split at k2
   ·rename_i g
    refine .inl ⟨ρ,F,ab,?_⟩
    rw[a]
    intro v i H' s r
    obtain ⟨p,vs,rfl,h1,h2⟩:=bE.lst_of s.fh r
    refine ⟨p,rfl,.inl ⟨⟨vs,?_⟩,?_⟩⟩
    · rw [j]; exact h1
    · rw [j]; exact Rk.ok k2 _ H' i H' s (cO _) (aBD (H := H') g (fun H1 _ q => h1.same q) h2)
   ·exact k2.elim
  ·rename_i xs
   split at k2
   ·rename_i g
    refine .inl ⟨ρ,F,ab,?_⟩
    rw[a]
    intro v i H' s r
    obtain ⟨p,vs,rfl,h1,_,h2⟩:=bE.tup_of s.fh r
    refine ⟨p,rfl,.inr ⟨⟨vs,?_⟩,?_⟩⟩
    · rw [j]; exact h1.same s.fh
    · rw [j]; exact Rk.ok k2 _ H' i H' s (cO _) (aDQ g h1 h2)
   ·exact k2.elim
  ·rename_i z
   split at k2
   ·rename_i g
    refine .inr ⟨ρ,F,ab,?_⟩
    rw[a]
    intro v i H' s r
    obtain rfl:=bE.str_of r
    exact ⟨z,rfl,Rk.ok k2 _ H' i H' s (cO _) (aDR g)⟩
   ·exact k2.elim
  ·exact k2.elim
noncomputable def mV(lo:Int)(n:Nat):List PyData:=(List.range n).map fun i:Nat=>.int (lo+i)
def gK(lo hi:Int):R (List PyData):=if -4611686018427387904<=lo/\lo < 4611686018427387904 /\ -4611686018427387904<=hi/\hi < 4611686018427387904/\hi - lo<=16777216 then .ok (mV lo (hi - lo).toNat) else .bad
def dJ(f:Sg->R PyData):Sg->R (List PyData):=fun ρ=>(f ρ).bind fun x=>match x with
 | .int j=>gK 0 j
 | _=>.bad
def xL(f g:Sg->R PyData):Sg->R (List PyData):=fun ρ=>(f ρ).bind fun x=>(g ρ).bind fun y=>match x,y with
 | .int i,.int j=>gK i j
 | _,_=>.bad
theorem y6{K:Frag}{F B:Hp}{lo:Int}{n:Nat}(d:n<=16777216):Yld K (Itr lo n) F B (mV lo n) where
 len:=by unfold mV;rw[dI,AB,BC];exact d
 go:=fun i a H1 h1 h2 c hi=>by unfold mV at hi;rw[AB,BC] at hi;exact hi
 yld:=fun i a H1 v H2 x h1 h2 c y e=>by
  obtain ⟨rfl,rfl⟩:=y
  unfold mV at e
  rw[AH] at e
  cases q:(List.range n)[i]? with
  | none=>rw[q] at e;cases e
  | some j=>
   rw[q] at e
   cases e
   obtain ⟨f,b⟩:=AI.mp q
   rw[List.getElem_range] at b
   subst b
   exact ⟨a,Ext.refl h2,.int _⟩
 stop:=fun a H1 h1 h2 c=>by show n<=_;unfold mV;rw[AB,BC];exact AG _
theorem iI{f:Sg->R PyData}(h:PI X tg e (aKT (dU (tV (b7 c) c E f) iS))):PI0 X c E tg e (dJ f):=PI.imp h fun σ H Q ⟨ρ,F,ab,k⟩=>by
 refine ⟨ρ,F,ab,(Rk.bind k).imp fun x _ q v b H' s r=>?_⟩
 cases x with
 | int j=>
  have a:Rk c E F H (gK 0 j) _:=q
  unfold gK at a
  split at a
  ·rename_i d
   obtain rfl:=bE.int_of r
   refine ⟨j,rfl,by omega,by omega,?_⟩
   have e0:(j - 0).toNat=j.toNat:=by rw[Int.sub_zero]
   rw[<-e0]
   exact Rk.ok a _ b H' s (y6 (by omega))
  ·exact a.elim
 | _=>exact q.elim
theorem aMI{f g:Sg->R PyData}(h:PI X tg e (aKU (dU (tV (b7 c) c E f) (dU (tV (b7 c) c E g) iS)))):PI0 X c E tg e (xL f g):=PI.imp h fun σ H Q ⟨ρ,F,ab,k⟩=>by
 refine ⟨ρ,F,ab,(Rk.bind k).imp fun x _ q v d H1 s1 r1=>⟨ρ,d,ab.ext s1,((Rk.bind q).ext s1).imp fun y _ q w b H' s r=>?_⟩⟩
 cases x with
 | int i=>
  cases y with
  | int j=>
   have a:Rk c E F H (gK i j) _:=q
   unfold gK at a
   split at a
   ·rename_i l
    obtain rfl:=bE.int_of r1
    obtain rfl:=bE.int_of r
    exact ⟨i,j,rfl,⟨by omega,by omega,by omega,by omega⟩,Rk.ok a _ b H' (s1.trans s) (y6 (by omega))⟩
   ·exact a.elim
  | _=>exact q.elim
 | _=>cases y<;>exact q.elim
end
noncomputable def gL(js:List (Option Nat))(ρ:Sg):Sg:=js.map fun o=>o.bind fun j=>(ρ[j]?).join
theorem xM{α:Type}{js:List (Option Nat)}{ρ:List (Option α)}{i:Nat}{a:α}(h:(js.map fun o=>o.bind fun j=>(ρ[j]?).join)[i]? = some (some a)):∃ j,js[i]? = some (some j)/\ρ[j]? = some (some a):=by
 rw[AH] at h
 cases e:js[i]? with
 | none=>rw[e] at h;cases h
 | some o=>
  rw[e] at h
  have h':(o.bind fun j=>(ρ[j]?).join)=some a:=BP h
  cases o with
  | none=>cases h'
  | some j=>
   have h2:(ρ[j]?).join=some a:=h'
   cases e2:ρ[j]? with
   | none=>rw[e2] at h2;cases h2
   | some o2=>rw[e2] at h2;have:o2=some a:=h2;subst this;exact ⟨j,rfl,e2⟩
theorem xN{α:Type}{js:List (Option Nat)}{ρ:List (Option α)}{i j:Nat}{a:α}(h:js[i]? = some (some j))(h2:ρ[j]? = some (some a)):(js.map fun o=>o.bind fun j=>(ρ[j]?).join)[i]? = some (some a):=by
 rw[AH,h]
 show some ((ρ[j]?).join)=_
 rw[h2];rfl
def xO(js:List (Option Nat)):Prop:=∀ (i k j:Nat),js[i]? = some (some j)->js[k]? = some (some j)->i=k
theorem v5{js:List (Option Nat)}(h:js.Pairwise fun a b=>a=none\/a≠b):xO js:=fun i k j h1 h2=>by
 obtain ⟨c,e1⟩:=AI.mp h1
 obtain ⟨d,e2⟩:=AI.mp h2
 rw[EI] at h
 rcases FU i k with q|q|q
 ·rcases h i k c d q with z|z
  · rw [e1] at z; cases z
  · exact absurd (e1.trans e2.symm) z
 ·exact q
 ·rcases h k i d c q with z|z
  · rw [e2] at z; cases z
  · exact absurd (e2.trans e1.symm) z
theorem Ab.cap{c:Ct}{ρ:Sg}{σ d:L2.St}{F H:Hp}{js:List (Option Nat)}(b:Ab c ρ σ F H)(s:xO js)(k:dP (lR js σ) d):Ab c (gL js ρ) d F H where
 len:=by rw[k.1];unfold gL lR;rw[AB,AB]
 fh:=b.fh
 slot:=fun i a h=>by
  obtain ⟨j,h1,h2⟩:=xM h
  obtain ⟨v,l,u⟩:=b.slot j a h2
  exact ⟨v,k.2 i v (xN h1 l),u⟩
 apart:=fun i q a p m h h' o o'=>by
  obtain ⟨j,h1,h2⟩:=xM h
  obtain ⟨n,g,e⟩:=xM h'
  have r:j≠n:=fun z=>m (s i q j h1 (by rw[g,z]))
  obtain ⟨v,l,_⟩:=b.slot j a h2
  obtain ⟨t,f,_⟩:=b.slot n p e
  rw[k.2 i v (xN h1 l),k.2 q t (xN g f),<-l,<-f]
  exact b.apart j n a p r h2 e o o'
 f0:=b.f0
 h0:=b.h0
 n0:=b.n0
 t0:=b.t0
noncomputable def R.noEx{α:Type}:R α->R α
 | .ex _=>.bad
 | r=>r
@[simp] theorem R.noEx_ok{α:Type}(a:α):(R.ok a).noEx=.ok a:=id rfl
noncomputable def aBE{α:Type}:Option α->R α
 | some a=>.ok a
 | none=>.bad
@[simp] theorem r9{α:Type}(a:α):aBE (some a)=.ok a:=id rfl
noncomputable def compL(fs:PyData->Sg->Option Sg)(ft:Sg->R Bool)(fe:Sg->R PyData)(ρ0:Sg):List PyData->R (List PyData)
 | []=>.ok []
 | x::t=>(aBE (fs x ρ0)).bind fun ρ1=>(ft ρ1).noEx.bind fun b=>if b=true then (fe ρ1).noEx.bind fun y=>(compL fs ft fe ρ0 t).bind fun ys=>.ok (y::ys) else compL fs ft fe ρ0 t
theorem qK{fs:PyData->Sg->Option Sg}{a:Sg->R Bool}{fe:Sg->R PyData}{ρ0:Sg}{e:Er}:∀ {xs:List PyData},compL fs a fe ρ0 xs≠.ex e
 | []=>fun h=>by cases h
 | x::t=>fun h=>by
  unfold compL at h
  cases h1:fs x ρ0 with
  | none=>rw[h1] at h;cases h
  | some ρ1=>
   rw[h1] at h
   have h:((a ρ1).noEx.bind fun b=>if b=true then (fe ρ1).noEx.bind fun y=>(compL fs a fe ρ0 t).bind fun ys=>.ok (y::ys) else compL fs a fe ρ0 t)=.ex e:=h
   cases h2:a ρ1 with
   | bad=>rw[h2] at h;cases h
   | ex _=>rw[h2] at h;cases h
   | ok b=>
    rw[h2] at h
    have h:(if b=true then (fe ρ1).noEx.bind fun y=>(compL fs a fe ρ0 t).bind fun ys=>.ok (y::ys) else compL fs a fe ρ0 t)=.ex e:=h
    cases b with
    | false=>exact qK (xs:=t) h
    | true=>
     have h:((fe ρ1).noEx.bind fun y=>(compL fs a fe ρ0 t).bind fun ys=>.ok (y::ys))=.ex e:=h
     cases c:fe ρ1 with
     | bad=>rw[c] at h;cases h
     | ex _=>rw[c] at h;cases h
     | ok y=>
      rw[c] at h
      have h:((compL fs a fe ρ0 t).bind fun ys=>.ok (y::ys))=.ex e:=h
      cases d:compL fs a fe ρ0 t with
      | bad=>rw[d] at h;cases h
      | ex e'=>exact qK (xs:=t) (e:=e') d
      | ok ys=>rw[d] at h;cases h
theorem aFJ{fs:PyData->Sg->Option Sg}{a:Sg->R Bool}{fe:Sg->R PyData}{ρ0:Sg}{x:PyData}{t ys:List PyData}(h:compL fs a fe ρ0 (x::t)=.ok ys) :
  ∃ ρ1 b,fs x ρ0=some ρ1/\a ρ1=.ok b/\((b=true/\∃ y zs,fe ρ1=.ok y/\compL fs a fe ρ0 t=.ok zs/\ys=y::zs)\/(b=false/\compL fs a fe ρ0 t=.ok ys)):=by
 unfold compL at h
 cases h1:fs x ρ0 with
 | none=>rw[h1] at h;cases h
 | some ρ1=>
  rw[h1] at h
  have h:((a ρ1).noEx.bind fun b=>if b=true then (fe ρ1).noEx.bind fun y=>(compL fs a fe ρ0 t).bind fun ys=>.ok (y::ys) else compL fs a fe ρ0 t)=.ok ys:=h
  cases h2:a ρ1 with
  | bad=>rw[h2] at h;cases h
  | ex _=>rw[h2] at h;cases h
  | ok b=>
   rw[h2] at h
   have h:(if b=true then (fe ρ1).noEx.bind fun y=>(compL fs a fe ρ0 t).bind fun ys=>.ok (y::ys) else compL fs a fe ρ0 t)=.ok ys:=h
   refine ⟨ρ1,b,rfl,h2,?_⟩
   cases b with
   | false=>exact .inr ⟨rfl,h⟩
   | true=>
    refine .inl ⟨rfl,?_⟩
    have h:((fe ρ1).noEx.bind fun y=>(compL fs a fe ρ0 t).bind fun ys=>.ok (y::ys))=.ok ys:=h
    cases c:fe ρ1 with
    | bad=>rw[c] at h;cases h
    | ex _=>rw[c] at h;cases h
    | ok y=>
     rw[c] at h
     have h:((compL fs a fe ρ0 t).bind fun ys=>.ok (y::ys))=.ok ys:=h
     cases d:compL fs a fe ρ0 t with
     | bad=>rw[d] at h;cases h
     | ex e'=>rw[d] at h;cases h
     | ok zs=>rw[d] at h;cases h;exact ⟨y,zs,rfl,rfl,rfl⟩
def fR(js:List (Option Nat))(fi:Sg->R (List PyData))(fs:PyData->Sg->Option Sg)(ft:Sg->R Bool)(fe:Sg->R PyData):Sg->R (List PyData):=fun ρ=>(fi ρ).bind fun xs=>compL fs ft fe (gL js ρ) xs
noncomputable def gS:Sg->R Bool:=fun _=>.ok true
section
variable{X:Cx}{c:Ct}{E:XK}{e a b:Expr}{pos:Pos}
theorem fA:L2.PIf X [] (tTf c E gS):=fun pins s σ H Q I ⟨ρ,F,ab,k⟩=>L2.fA pins s σ H Q I (Rk.ok k F H (Ext.refl ab.fh))
theorem aJJ{js:List (Option Nat)}{is:List Nat}{σ a b:L2.St}(k:dP (lR js σ) a)(c:b.length=a.length)(h:∀ j:Nat,j∉is->b[j]? = a[j]?)(hi:∀ i∈is,js[i]? = some none):dP (lR js σ) b:=
 ⟨c.trans k.1,fun i v e=>by
  by_cases q:i∈is
  ·unfold lR at e
   rw[AH,hi i q] at e
   cases e
  ·rw[h i q];exact k.2 i v e⟩
theorem y7{N:List Str}{js:List (Option Nat)}{scope:Scope}{tg x:Expr}{t:List Expr}{Z:Sg->R (List PyData)}{fs:PyData->Sg->Option Sg}{A:Sg->R Bool}{fe:Sg->R PyData}{is:List Nat}(ho:xO js)(hi:∀ i∈is,js[i]? = some none)
  (hb:∀ (cl:List (Str×Addr)) (C:Addr) (s:Shared) (H0:Hp) (fp:List Addr),∃ g,PG (iD X N scope cl C s H0 fp) tg g/\Tg c g fs is/\L2.PIf (iD X N scope cl C s H0 fp) t (tTf c E0 A)/\PD (iD X N scope cl C s H0 fp) c E0 x fe)
  {σ:L2.St} {H:Hp} {Q:VK} (h:tV (rX c) c E (fR js Z fs A fe) σ H Q):vN X N scope js tg x t (tI c E Z) σ H Q:=by
 obtain ⟨ρ,F,ab,k⟩:=h
 refine ⟨ρ,F,ab,(Rk.bind k).imp fun xs _ q J B F1 H1 s1 P G=>?_⟩
 cases D:compL fs A fe (gL js ρ) xs with
 | bad=>rw[D] at q;exact q.elim
 | ex e=>exact absurd D qK
 | ok ys=>
  rw[D] at q
  refine aLX (n:=xs.length) (fun i b H'=>∃ F',Ext F1 H1 F' H'/\b.length<=i/\∃ zs rest,DatVs c.K F' b zs/\compL fs A fe (gL js ρ) (xs.drop i)=.ok rest/\zs++rest=ys) G.len ⟨F1,Ext.refl s1.fh,AG _,[],ys,.nil,D,rfl⟩ ?_ ?_ ?_ ?_ ?_
  ·rintro i b H' _ ⟨F',_,h,_⟩;exact h
  ·rintro i b H' d ⟨F',e1,_⟩
   exact G.go i F' H' e1.ff e1.fh (fun a o z=>e1.hh a o (P a o z)) d
  ·rintro b H' ⟨F',e1,_⟩
   exact G.stop F' H' e1.ff e1.fh (fun a o z=>e1.hh a o (P a o z))
  ·rintro i v b Ha Hb d ⟨F',e1,hlen,zs,rest,hd,hr,hz⟩ hy
   obtain ⟨M,e2,rx⟩:=G.yld i F' Ha v Hb xs[i] e1.ff e1.fh (fun a o z=>e1.hh a o (P a o z)) hy (AN d)
   have U:xs.drop i=xs[i]::xs.drop (i+1):=FX d
   rw[U] at hr
   obtain ⟨f,bb,hs,ht,l⟩:=aFJ hr
   intro cl C s H0 fp
   obtain ⟨g,hg,W,V,he⟩:=hb cl C s H0 fp
   refine ⟨g,_,_,hg,V,he,fun r k0=>?_⟩
   have O:Ab c (gL js ρ) r M Hb:=(ab.ext (s1.trans (e1.trans e2))).cap ho k0
   refine W v xs[i] _ f r M Hb _ O rx hs fun σ1 I T u=>⟨aJJ k0 I T hi,f,M,u,?_⟩
   rw[ht]
   intro Y H3 m
   rcases l with ⟨rfl,y,ws,S,j,rfl⟩|⟨rfl,j⟩
   ·refine aAF ⟨f,Y,u.ext m,?_⟩
    rw[S]
    intro w F4 H4 e4 L
    refine ⟨F4,e1.trans (e2.trans (m.trans e4)),by rw[A0,B5];omega,zs++[y],ws,(hd.same (e2.trans (m.trans e4)).ff).append (.cons L .nil),j,by rw[List.append_assoc];exact hz⟩
   ·exact aAE ⟨Y,e1.trans (e2.trans m),by omega,zs,rest,hd.same (e2.trans m).ff,j,hz⟩
  ·rintro b H' ⟨F',e1,_,zs,rest,hd,hr,hz⟩ p hp
   rw[EB] at hr
   cases hr
   rw[B9] at hz
   subst hz
   exact Rk.ok q (.ref p) F' _ (s1.trans (e1.trans (Ext.own e1.fh hp))) ⟨p,b,rfl,bW (s1.trans e1).hh hp,aX,bW e1.fh hp,hd⟩
theorem j8{N:List Str}{js:List (Option Nat)}{scope:Scope}{tg d:Expr}{f:List Expr}{k:Sg->R (List PyData)}{fs:PyData->Sg->Option Sg}{j:Sg->R Bool}{fe:Sg->R PyData}{is:List Nat}(h:PE X e (vN X N scope js tg d f (tI c E k)))(m:js.Pairwise fun a b=>a=none\/a≠b)(hi:∀ i∈is,js[i]? = some none)
 (l:∀ (cl:List (Str×Addr)) (C:Addr) (s:Shared) (H0:Hp) (fp:List Addr),∃ g,PG (iD X N scope cl C s H0 fp) tg g/\Tg c g fs is/\L2.PIf (iD X N scope cl C s H0 fp) f (tTf c E0 j)/\PD (iD X N scope cl C s H0 fp) c E0 d fe) :
 PN X c E e (fR js k fs j fe):=PE.imp h fun σ H Q q=>y7 (v5 m) hi l q
theorem tM{i:Nat}{st:Stmt}{N:List Str}{js:List (Option Nat)}{scope:Scope}{tg d:Expr}{e:List Expr}{j:Sg->R (List PyData)}{fs:PyData->Sg->Option Sg}{f:Sg->R Bool}{fe:Sg->R PyData}{is:List Nat}(h:PS X st (kG (vN X N scope js tg d e (tI c E j)) (j3 i)))(l:js.Pairwise fun a b=>a=none\/a≠b)(hi:∀ i∈is,js[i]? = some none)
 (k:∀ (cl:List (Str×Addr)) (C:Addr) (s:Shared) (H0:Hp) (fp:List Addr),∃ g,PG (iD X N scope cl C s H0 fp) tg g/\Tg c g fs is/\L2.PIf (iD X N scope cl C s H0 fp) e (tTf c E0 f)/\PD (iD X N scope cl C s H0 fp) c E0 d fe) :
 PSf X c E st (dW i (fR js j fs f fe)):=fQ (PS.imp h fun D σ H q=>y7 (v5 l) hi k q)
end
noncomputable def jN(fs:PyData->Sg->Option Sg)(fb:Sg->R Fw):List PyData->Sg->R Fw
 | [],ρ=>.ok (.nx ρ)
 | x::t,ρ=>(aBE (fs x ρ)).bind fun ρ1=>(fb ρ1).bind fun w=>match w with
  | .nx ρ2=>jN fs fb t ρ2
  | .ct ρ2=>jN fs fb t ρ2
  | .bk ρ2=>.ok (.nx ρ2)
  | .rt a=>.ok (.rt a)
def iJ(fi:Sg->R (List PyData))(fs:PyData->Sg->Option Sg)(fb:Sg->R Fw):Sg->R Fw:=fun ρ=>(fi ρ).bind fun xs=>jN fs fb xs ρ
section
variable{X:Cx}{c:Ct}{E:XK}{e a b:Expr}{pos:Pos}{st:Stmt}
theorem cU{g:TG}{C:Sg->R (List PyData)}{fs:PyData->Sg->Option Sg}{is:List Nat}{fb:Sg->R Fw}(L:Tg c g fs is)(h:PS X st (aOP (tI0 c E C) g (tSf c E fb))):PSf X c E st (iJ C fs fb):=PS.imp h fun D σ H t=>by
 obtain ⟨ρ,F,ab,k⟩:=t
 refine ⟨ρ,F,ab,(Rk.bind k).imp fun xs _ q J x H1 s1 u=>?_⟩
 refine ⟨fun i m σ H=>m=xs.length - i/\i<=xs.length/\∃ ρ' b,aO x b/\Ab c ρ' σ b H/\Rk c E b H (jN fs fb (xs.drop i) ρ') (iH c F D),⟨xs.length,by simp,CN _,ρ,x,cO _,ab.ext s1,Rk.ext s1 q⟩,?_⟩
 rintro i m l H2 ⟨rfl,hi,ρ2,F2,s2,ab2,k2⟩
 by_cases j:i < xs.length
 ·refine .inr ⟨u.go i F2 H2 s2 ab2.fh rZ j,fun d H'=>∃ ρ' b,aO x b/\Ab c ρ' d b H'/\Rk c E b H' (jN fs fb (xs.drop (i+1)) ρ') (iH c F D),fun d H' w=>⟨xs.length - (i+1),by omega,rfl,j,w⟩,fun v H3 y=>?_⟩
  obtain ⟨A,p,I⟩:=u.yld i F2 H2 v H3 xs[i] s2 ab2.fh rZ y (AN j)
  have B:xs.drop i=xs[i]::xs.drop (i+1):=FX j
  rw[B] at k2
  unfold jN at k2
  cases h1:fs xs[i] ρ2 with
  | none=>rw[h1] at k2;exact k2.elim
  | some ρ3=>
   rw[h1] at k2
   refine L v xs[i] ρ2 ρ3 l A H3 _ (ab2.ext p) I h1 fun G _ _ s=>⟨ρ3,A,s,?_⟩
   have k3:Rk c E F2 H2 (fb ρ3) _:=Rk.bind k2
   cases h2:fb ρ3 with
   | bad=>rw[h2] at k3;exact k3.elim
   | ex e=>rw[h2] at k3;exact k3
   | ok w=>
    rw[h2] at k3
    have n:=Rk.ok k3
    have K:aO F A:=fun a o z=>p.ff a o (s2 a o (s1.ff a o z))
    cases w with
    | nx ρ4=>exact fun d b H' s' f=>⟨ρ4,b,fun a o z=>s' a o (p.ff a o (s2 a o z)),f,n⟩
    | ct ρ4=>exact fun d b H' s' f=>⟨ρ4,b,fun a o z=>s' a o (p.ff a o (s2 a o z)),f,n⟩
    | bk ρ4=>exact fun d b H' s' f=>Rk.ok n d b H' (fun a o z=>s' a o (K a o z)) f
    | rt a=>exact fun v b H' z r=>Rk.ok n v b H' z r
 ·have e:i=xs.length:=by omega
  subst e
  rw[EB] at k2
  exact .inl ⟨u.stop F2 H2 s2 ab2.fh rZ,Rk.ok k2 l F2 H2 (fun a o z=>s2 a o (s1.ff a o z)) ab2⟩
end
noncomputable def c9(t:Sg->R Bool)(b:Sg->R Fw):Nat->Sg->R Fw
 | 0,_=>.bad
 | n+1,ρ=>(t ρ).bind fun k=>if k=true then (b ρ).bind fun w=>match w with
   | .nx ρ'=>c9 t b n ρ'
   | .ct ρ'=>c9 t b n ρ'
   | .bk ρ'=>.ok (.nx ρ')
   | .rt a=>.ok (.rt a)
  else .ok (.nx ρ)
open Classical in
noncomputable def bS(t:Sg->R Bool)(b:Sg->R Fw):Sg->R Fw:=fun ρ=>if h:∃ n,c9 t b n ρ≠.bad then c9 t b h.choose ρ else .bad
theorem R.bind_mono{α β:Type}{r:R α}{f g:α->R β}(h:r.bind f≠.bad)(b:∀ a,f a≠.bad->g a=f a):r.bind g=r.bind f:=by
 cases r with
 | bad=>rfl
 | ex e=>rfl
 | ok a=>exact b a h
theorem mG{t:Sg->R Bool}{b:Sg->R Fw}:∀ {n m:Nat} {ρ:Sg},n<=m->c9 t b n ρ≠.bad->c9 t b m ρ=c9 t b n ρ
 | 0,_,_,_,h=>absurd rfl h
 | n+1,0,_,hm,_=>absurd hm (by omega)
 | n+1,m+1,ρ,hm,h=>by
  unfold c9 at h ⊢
  refine R.bind_mono h fun k hk=>?_
  cases k with
  | false=>rfl
  | true=>
   refine R.bind_mono (r:=b ρ) hk fun w c=>?_
   cases w with
   | nx ρ'=>exact mG (by omega) c
   | ct ρ'=>exact mG (by omega) c
   | bk ρ'=>rfl
   | rt a=>rfl
theorem sA{t:Sg->R Bool}{b:Sg->R Fw}{ρ:Sg}{n:Nat}(h:c9 t b n ρ≠.bad):bS t b ρ=c9 t b n ρ:=by
 have a:∃ n,c9 t b n ρ≠.bad:=⟨n,h⟩
 unfold bS
 rw[dif_pos a]
 have c:=a.choose_spec
 rcases Nat.le_total n a.choose with q|q
 · exact mG q h
 · exact (mG q c).symm
theorem sB (t : Sg -> R Bool) (b : Sg -> R Fw) (ρ : Sg) : bS t b ρ = (t ρ).bind fun k => if k = true then (b ρ).bind fun w => match w with
      | .nx ρ' => bS t b ρ'
      | .ct ρ' => bS t b ρ'
      | .bk ρ' => .ok (.nx ρ')
      | .rt a => .ok (.rt a)
    else .ok (.nx ρ) := by
  have l : ∀ n, (∀ k, t ρ = .ok k -> k = true -> ∀ w, b ρ = .ok w -> ∀ ρ', (w = .nx ρ' \/ w = .ct ρ') -> bS t b ρ' = c9 t b n ρ') -> c9 t b (n + 1) ρ = (t ρ).bind fun k => if k = true then (b ρ).bind fun w => match w with
      | .nx ρ' => bS t b ρ'
      | .ct ρ' => bS t b ρ'
      | .bk ρ' => .ok (.nx ρ')
      | .rt a => .ok (.rt a)
    else .ok (.nx ρ) := by
    intro n h
    unfold c9
    cases d : t ρ with
    | bad => rfl
    | ex e => rfl
    | ok k =>
      cases k with
      | false => rfl
      | true =>
        show ((b ρ).bind _) = ((b ρ).bind _)
        cases f : b ρ with
        | bad => rfl
        | ex e => rfl
        | ok w =>
          cases w with
          | nx ρ' => exact (h true d rfl _ f ρ' (.inl rfl)).symm
          | ct ρ' => exact (h true d rfl _ f ρ' (.inr rfl)).symm
          | bk ρ' => rfl
          | rt a => rfl
  by_cases m : ∃ n, c9 t b n ρ ≠ .bad
  · obtain ⟨n, g⟩ := m
    cases n with
    | zero => exact absurd rfl g
    | succ n =>
      rw [sA g]
      refine l n fun k d p w f ρ' j => ?_
      subst p
      refine sA fun z => g ?_
      unfold c9
      rw [d]
      show ((b ρ).bind _) = _
      rw [f]
      rcases j with rfl | rfl
      · exact z
      · exact z
  · have o : bS t b ρ = .bad := by unfold bS; rw [dif_neg m]
    rw [o]
    have c : ∀ n, c9 t b n ρ = .bad := fun n => FY fun z => m ⟨n, z⟩
    cases d : t ρ with
    | bad => rfl
    | ex e => have := c 1; unfold c9 at this; rw [d] at this; cases this
    | ok k =>
      cases k with
      | false => have := c 1; unfold c9 at this; rw [d] at this; cases this
      | true =>
        show R.bad = ((b ρ).bind _)
        cases f : b ρ with
        | bad => rfl
        | ex e => have := c 1; unfold c9 at this; rw [d] at this; change ((b ρ).bind _) = _ at this; rw [f] at this; cases this
        | ok w =>
          have i : ∀ ρ', (w = .nx ρ' \/ w = .ct ρ') -> bS t b ρ' = .bad := fun ρ' j => by
            unfold bS
            rw [dif_neg]
            rintro ⟨n, g⟩
            refine g ?_
            have := c (n + 1)
            unfold c9 at this
            rw [d] at this
            change ((b ρ).bind _) = _ at this
            rw [f] at this
            rcases j with rfl | rfl <;> exact this
          cases w with
          | nx ρ' => exact (i ρ' (.inl rfl)).symm
          | ct ρ' => exact (i ρ' (.inr rfl)).symm
          | bk ρ' => have := c 1; unfold c9 at this; rw [d] at this; change ((b ρ).bind _) = _ at this; rw [f] at this; cases this
          | rt a => have := c 1; unfold c9 at this; rw [d] at this; change ((b ρ).bind _) = _ at this; rw [f] at this; cases this
section
variable{X:Cx}{c:Ct}{E:XK}{st:Stmt}
theorem cP{t:Sg->R Bool}{fb:Sg->R Fw}(h:PS X st (aGE (tTf c E t) (tSf c E fb))):PSf X c E st (bS t fb):=PS.imp h fun D σ H p=>by
 obtain ⟨ρ,F,ab,k⟩:=p
 have A:∃ n,c9 t fb n ρ≠.bad:=FY fun z=>by
  have:bS t fb ρ=.bad:=by unfold bS;rw[dif_neg z]
  rw[this] at k
  exact k
 obtain ⟨n,y⟩:=A
 rw[sA y] at k
 refine ⟨fun m σ H=>∃ ρ' d,aO F d/\Ab c ρ' σ d H/\Rk c E d H (c9 t fb m ρ') (iH c F D),⟨n,ρ,F,cO F,ab,k⟩,?_⟩
 rintro m x H1 ⟨ρ1,F1,s1,ab1,k1⟩
 cases m with
 | zero=>exact k1.elim
 | succ m=>
  unfold c9 at k1
  refine ⟨ρ1,F1,ab1,(Rk.bind k1).imp fun b _ q s H2 e2=>?_⟩
  have j:=ab1.ext e2
  cases b with
  | false=>exact aAE (Rk.ok q x s H2 (fun a o z=>e2.ff a o (s1 a o z)) j)
  | true=>
   refine aAF ⟨fun f H'=>∃ ρ' d,aO F d/\Ab c ρ' f d H'/\Rk c E d H' (c9 t fb m ρ') (iH c F D),fun f H' w=>⟨m,by omega,w⟩,ρ1,s,j,?_⟩
   have i:Rk c E F1 H1 (fb ρ1) _:=Rk.bind (r:=fb ρ1) q
   cases h2:fb ρ1 with
   | bad=>rw[h2] at i;exact i.elim
   | ex e=>rw[h2] at i;exact i
   | ok w=>
    rw[h2] at i
    have l:=Rk.ok i
    have u:aO F s:=fun a o z=>e2.ff a o (s1 a o z)
    cases w with
    | nx ρ4=>exact fun f d H' s' g=>⟨ρ4,d,fun a o z=>s' a o (u a o z),g,l⟩
    | ct ρ4=>exact fun f d H' s' g=>⟨ρ4,d,fun a o z=>s' a o (u a o z),g,l⟩
    | bk ρ4=>exact fun f d H' s' g=>Rk.ok l f d H' (fun a o z=>s' a o (u a o z)) g
    | rt a=>exact fun v d H' z r=>Rk.ok l v d H' z r
end
def spG(K:Frag)(mg:Str->Option Value)(T F1:Hp)(n:Nat)(G:List PyData->R PyData):Sp:=fun vs H Q E=>∃ F ds,aO F1 F/\aO T F/\aO F H/\DatVs K F vs ds/\ds.length=n/\match G ds with
 | .bad=>False
 | .ok d=>∀ v F' H',Ext F H F' H'->DatV K F' v d->Q v H'
 | .ex e=>∀ a C F' H',Ext F H F' H'->lC K mg F' e a C->E (.ref C) (some a) H'
def Beh(P:Program)(w:World)(K:Frag)(mg:Str->Option Value)(base:Heap)(T:Hp)(f:Addr)(F1:Hp)(k n:Nat)(G:List PyData->R PyData):Prop:=
 ∃ fd ps,ps.length=n/\gQ K fd ps []/\FnOk P w K mg base (CXe P w) k f fd ps (spG K mg T F1 n G)/\(PySem.W.keepIn K (.ref f)=true\/∃ oc od fd' sl,F1 f=some (FnO f ⟨oc,od,.func fd',sl⟩))
def gOf(P:Program)(w:World)(K:Frag)(mg:Str->Option Value)(base:Heap)(T:Hp):Gb:=⟨Beh P w K mg base T,T,w⟩
def spF(g:Gb)(K:Frag)(mg:Str->Option Value)(n:Nat)(G:List A->R A):Sp:=fun vs H Q E=>∃ F as,aO g.T F/\aO F H/\AFs g K mg F as vs/\as.length=n/\match G as with
 | .bad=>False
 | .ok a=>∀ v F' H',Ext F H F' H'->AF g K mg F' a v->Q v H'
 | .ex e=>∀ a C F' H',Ext F H F' H'->lC K mg F' e a C->E (.ref C) (some a) H'
def a7(P:Program)(w:World)(K:Frag)(mg:Str->Option Value)(base:Heap)(T:Hp)(k:Nat)(x:Str)(ps:List Str)(G:List A->R A):Prop:=Calls P w K mg base (CXe P w) k x ps (spF (gOf P w K mg base T) K mg ps.length G)
def aW(n:Nat)(G:List A->R A)(f:Sg->R (List A)):Sg->R A:=fun ρ=>(f ρ).bind fun as=>if as.length=n then G as else .bad
theorem b8{X:Cx}{c:Ct}{E:XK}{e:Expr}{n:Nat}{G:List A->R A}{g:Gb}{K:Frag}{mg:Str->Option Value}{f:Sg->R (List A)}(m:g=c.g)(u:K=c.K)(p:mg=c.mg)(h:PE X e (oK (spF g K mg n G) [] E (tAv c E f))):PV X c E e (aW n G f):=PE.imp h fun σ H Q d=>by
 obtain ⟨ρ,F,ab,k⟩:=d
 subst m u p
 refine ⟨ρ,F,ab,(Rk.bind k).imp fun j _ q vs t H1 s1 r1=>?_⟩
 by_cases b:j.length=n
 ·rw[AD b] at q
  refine ⟨t,j,fun a o z=>s1.ff a o (ab.f0 a o (ab.t0 a o z)),s1.fh,by rw[B9];exact r1,b,?_⟩
  cases i:G j with
  | bad=>rw[i] at q;exact q
  | ok a=>rw[i] at q;exact fun v l H' s r=>Rk.ok q v l H' (s1.trans s) r
  | ex e=>rw[i] at q;exact fun a C l H' s r=>q a C l H' ((ab.all.trans s1).trans s) r
 ·rw[AE b] at q;exact q.elim
def fnF(n:Nat)(fb:Sg->R Fw):List A->R A:=fun as=>(fb (as.map some++List.replicate (n - as.length) none)).bind fun w=>match w with
 | .rt (.l _)=>.bad
 | .rt a=>.ok a
 | .nx _=>.ok (.d .none)
 | _=>.bad
theorem AFs.get{g:Gb}{K:Frag}{mg:Str->Option Value}{F:Hp}:∀ {as:List A} {vs:List V} {i:Nat} {a:A},AFs g K mg F as vs->as[i]? = some a->∃ v,vs[i]? = some v/\AF g K mg F a v
 | [],[],_,_,_,h=>by simp at h
 | a::as,v::vs,0,_,h,e=>by simp at e;subst e;exact ⟨v,rfl,h.1⟩
 | a::as,v::vs,i+1,_,h,e=>by
  obtain ⟨w,h1,h2⟩:=AFs.get (i:=i) h.2 (by simpa using e)
  exact ⟨w,by simpa using h1,h2⟩
theorem sC{α:Type}{c:List α}{n i:Nat}{a:α}(h:(c.map some++List.replicate n none)[i]? = some (some a)):c[i]? = some a:=by
 by_cases hi:i < c.length
 ·rw[BV (by rw[AB];exact hi),AH] at h
  cases e:c[i]? with
  | none=>rw[e] at h;cases h
  | some b=>rw[e] at h;cases h;rfl
 ·rw[CA (by rw[AB];omega),EN] at h
  split at h
  · cases h
  · cases h
theorem uQ{g:Gb}{c:List (Str×Addr)}{cls:Str->Option ClSt}{K:Frag}{mg:Str->Option Value}{w:World}{F H:Hp}{d:List A}{vs:List V}{n:Nat}(f:aO g.T F)(s:aO F H)(h:AFs g K mg F d vs):Ab ⟨K,mg,w,F,H,g,c,cls⟩ (d.map some++List.replicate (n - d.length) none) (vs.map some++List.replicate (n - vs.length) none) F H where
 len:=by rw[A0,A0,AB,AB,D0,D0,h.len]
 fh:=s
 slot:=fun i a e=>by
  obtain ⟨v,h1,h2⟩:=h.get (sC e)
  refine ⟨v,?_,AO.of h2⟩
  have hi:i < vs.length:=(AI.mp h1).1
  rw[BV (by rw[AB];exact hi),AH,h1];rfl
 apart:=fun i j a b _ e1 _ o _=>by
  obtain ⟨v,h1,h2⟩:=h.get (sC e1)
  rw[AF.notOwn h2] at o
  cases o
 f0:=cO F
 h0:=cO H
 n0:=fun a e n=>absurd e n
 t0:=f
theorem tN{g:Gb}{c:List (Str×Addr)}{cls:Str->Option ClSt}{K:Frag}{mg:Str->Option Value}{w:World}{n:Nat}{fb:Sg->R Fw}{vs:List V}{d:List A}{F H:Hp}{Q:VK}{E:XK}(h0:aO g.T F)(h1:aO F H)(h2:AFs g K mg F d vs)(b:match fnF n fb d with
 | .bad=>False
 | .ok a=>∀ v F' H',Ext F H F' H'->AF g K mg F' a v->Q v H'
 | .ex e=>∀ a C F' H',Ext F H F' H'->lC K mg F' e a C->E (.ref C) (some a) H'):tSf ⟨K,mg,w,F,H,g,c,cls⟩ E fb {nx:=fun _ H'=>Q .non H',rt:=Q} (vs.map some++List.replicate (n - vs.length) none) H:=by
 refine ⟨_,F,uQ h0 h1 h2,?_⟩
 unfold fnF at b
 cases e:fb (d.map some++List.replicate (n - d.length) none) with
 | bad=>rw[e] at b;exact b
 | ex x=>rw[e] at b;exact b
 | ok w=>
  rw[e] at b
  cases w with
  | nx ρ'=>exact fun f F' H' s ab=>b .non F' H' ab.all .non
  | rt a=>
   cases a with
   | l xs=>exact b.elim
   | _=>exact b
  | bk ρ'=>exact b.elim
  | ct ρ'=>exact b.elim
section
variable{P:Program}{w:World}{K:Frag}{mg:Str->Option Value}{base:Heap}{T:Hp}{x:Str}{st:Stmt}{N ps:List Str}{k:Nat}
theorem cQ{fb:Sg->R Fw}(D:DefAt K mg x st ps)(S:FnScope N ps (aL st))
  (a:∀ (f:Addr) (cdv:Value) (A:Around) (outer:List Env) (s:Shared) (H F:Hp) (E:XK),Room k (A.deeper (envOfC x (aL st) s.heap.objs.size f cdv))->
   lT ((jJ (CXe P w) P w K mg base N x (aL st) f cdv A outer s H E).fly E) ⟨K,mg,w,F,H,gOf P w K mg base T,(envOfC x (aL st) s.heap.objs.size f cdv).cells,fun _=>none⟩ E (cL st) fb):a7 P w K mg base T (k+1) x ps (fnF N.length fb):=by
 refine D.okX S (fun vs H Q E h=>?_) (fun f cdv A outer s H vs Q E d h=>?_)
 ·obtain ⟨F,e,_,_,h2,b,_⟩:=h
  rw[h2.len,b]
 ·obtain ⟨F,e,c,h1,h2,b,g⟩:=h
  exact ⟨_,a f cdv A outer s H F E d,tN c h1 h2 g⟩
theorem a7.imp{G b:List A->R A}(C:a7 P w K mg base T k x ps G)(h:∀ as,b as≠.bad->G as=b as):a7 P w K mg base T k x ps b:=Calls.imp C fun vs H Q E=>by
 rintro ⟨F,as,h0,h1,h2,h3,h4⟩
 refine ⟨F,as,h0,h1,h2,h3,?_⟩
 cases e:b as with
 | bad=>rw[e] at h4;exact h4.elim
 | ok a=>rw[h as (by rw[e];exact fun z=>nomatch z),e];rw[e] at h4;exact h4
 | ex x=>rw[h as (by rw[e];exact fun z=>nomatch z),e];rw[e] at h4;exact h4
end
def v6(cn:Str)(fs:List Str)(f:Sg->R (List PyData)):Sg->R Fw:=fun ρ=>(f ρ).bind fun xs=>if xs.length=fs.length then .ex ⟨cn,fs.zip xs⟩ else .bad
theorem xP{α β:Type}:∀ {xs:List α} {ys:List β},ys.length=xs.length->(xs.zip ys).map (·.1)=xs
 | [],_,_=>by simp
 | x::xs,[],h=>by simp at h
 | x::xs,y::ys,h=>by simp at h;simp[xP h]
theorem xQ{α β:Type}:∀ {xs:List α} {ys:List β},ys.length=xs.length->(xs.zip ys).map (·.2)=ys
 | [],[],_=>by simp
 | [],_::_,h=>by simp at h
 | x::xs,[],h=>by simp at h
 | x::xs,y::ys,h=>by simp at h;simp[xQ h]
theorem uJ{X:Cx}{c:Ct}{E:XK}{st:Stmt}{cn:Str}{C:Addr}{fs:List Str}{f:Sg->R (List PyData)}(r:c.mg cn=some (.ref C))(p:fs.length<=1000)(h:PS X st (aAN C (spI C fs) E (tAd c E f))):PSf X c E st (v6 cn fs f):=PS.imp h fun D σ H j=>by
 obtain ⟨ρ,F,ab,k⟩:=j
 refine ⟨ρ,F,ab,(Rk.bind k).imp fun xs _ q vs l H1 s1 r1=>?_⟩
 by_cases a:xs.length=fs.length
 ·rw[AD a] at q
  have g:vs.length=fs.length:=by rw[r1.length,a]
  refine aE6 g (by rw[g];exact p) fun e d o n b=>?_
  have i:Ext l H1 (upd l e (ExO e C (some d))) (upd H1 e (ExO e C (some d))):=Ext.new s1.fh o
  have m:Ext _ _ (upd (upd l e (ExO e C (some d))) d (.xd (fs.zip vs))) (upd (upd H1 e (ExO e C (some d))) d (.xd (fs.zip vs))):=Ext.new i.fh (by rw[aG b];exact n)
  refine q e C _ _ ((ab.all.trans s1).trans (i.trans m)) ⟨r,some d,?_,.inr ⟨d,fs.zip vs,rfl,aX,?_,?_⟩⟩
  ·rw[aG (BX b),aX]
  ·show _=(fs.zip xs).map (·.1)
   rw[xP g,xP a]
  ·show DatVs _ _ _ ((fs.zip xs).map (·.2))
   rw[xQ g,xQ a]
   exact r1.same (i.trans m).ff
 ·rw[AE a] at q;exact q.elim
def tPf(c:Ct)(E:XK)(f:Sg->R (Option Int)):TO:=fun σ H Q=>∃ ρ F,Ab c ρ σ F H/\Rk c E F H (f ρ) fun o=>∀ F' H',Ext F H F' H'->Q o H'
noncomputable def oNo:Sg->R (Option Int):=fun _=>.ok none
def oSo(f:Sg->R PyData):Sg->R (Option Int):=fun ρ=>(f ρ).bind fun x=>match x with
 | .int i=>.ok (some i)
 | _=>.bad
noncomputable def kI{α:Type}(xs:List α)(lo hi:Option Int):List α:=(xs.drop (HT.sIx xs.length 0 lo)).take (HT.sIx xs.length xs.length hi - HT.sIx xs.length 0 lo)
noncomputable def dSl:PyData->Option Int->Option Int->R PyData
 | .list xs,lo,hi=>.ok (.list (kI xs lo hi))
 | .tuple xs,lo,hi=>if ¬ (HT.sIx xs.length 0 lo=0/\HT.sIx xs.length xs.length hi=xs.length) then .ok (.tuple (kI xs lo hi)) else .bad
 | .str z,lo,hi=>if z.length<=16777216 then .ok (.str (Txt.slice z lo hi)) else .bad
 | _,_,_=>.bad
noncomputable def nSl:PyData->Option Int->Option Int->R (List PyData)
 | .list xs,lo,hi=>.ok (kI xs lo hi)
 | _,_,_=>.bad
def eSl{α:Type}(g:PyData->Option Int->Option Int->R α)(f:Sg->R PyData)(lo hi:Sg->R (Option Int)):Sg->R α:=fun ρ=>(f ρ).bind fun x=>(lo ρ).bind fun l=>(hi ρ).bind fun h=>g x l h
theorem uR{K:Frag}{F:Hp}{vs:List V}{xs:List PyData}(h:DatVs K F vs xs)(lo hi:Option Int):DatVs K F (rM vs lo hi) (kI xs lo hi):=by
 unfold rM kI
 rw[h.length]
 exact (h.drop _).take _
theorem PO.imp{X:Cx}{e:Option Expr}{t t':TO}(h:PO X e t)(i:∀ σ H Q,t' σ H Q->t σ H Q):PO X e t':=fun pins s σ H Q I q=>h pins s σ H Q I (i σ H Q q)
section
variable{X:Cx}{c:Ct}{E:XK}{e a b:Expr}{pos p2:Pos}{lo hi:Option Expr}
theorem mH:PO X none (tPf c E oNo):=PO.imp aLU fun σ H Q ⟨ρ,F,ab,k⟩=>Rk.ok k F H (Ext.refl ab.fh)
theorem mI{f:Sg->R PyData}(h:PR X c E e f):PO X (some e) (tPf c E (oSo f)):=PO.imp (aLV h) fun σ H Q ⟨ρ,F,ab,k⟩=>⟨ρ,F,ab,(Rk.bind k).imp fun x _ q v a H' s r=>by
 cases x with
 | int i=>exact ⟨i,bE.int_of r,Rk.ok q a H' s⟩
 | _=>exact q.elim⟩
def aJK(c:Ct){α:Type}(Rb:VR α)(g:PyData->Option Int->Option Int->R α):V->Option Int->Option Int->Hp->VK->Prop:=fun v lo hi H Q=>∃ F x d,aO F H/\bE c.K F H v x/\g x lo hi=.ok d/\∀ w F' H',Ext F H F' H'->Rb d w H F' H'->Q w H'
theorem aRS(o:X.K=c.K):SlR X (aJK c (c6 c) dSl):=by
 intro pins s σ H v x f g lo hi sl Q I n m i k h
 obtain ⟨F,d,w,b,j,a,q⟩:=h
 unfold dSl at a
 split at a
 ·cases a
  obtain ⟨p,vs,rfl,h1,h2⟩:=bE.lst_of b j
  rw[<-o] at h1
  exact aDD pins s σ H _ x f g lo hi sl Q I n m i k ⟨p,vs,rfl,h1,fun l e=>q _ _ _ (Ext.new b e) (.lst (SqL.of aX) ((uR h2 lo hi).same (aO.upd (bW b e))))⟩
 ·rename_i xs _ _
  split at a
  ·rename_i r
   cases a
   obtain ⟨p,vs,rfl,_,h1,h2⟩:=bE.tup_of b j
   rw[<-o] at h1
   exact aO0 pins s σ H _ x f g lo hi sl Q I n m i k ⟨p,vs,rfl,h1,by rw[h2.length];exact r,fun l e=>q _ _ _ (Ext.new b e) (.tup (SqT.of aX) ((uR h2 lo hi).same (aO.upd (bW b e))))⟩
  ·cases a
 ·split at a
  ·rename_i t
   cases a
   obtain rfl:=bE.str_of j
   exact aO8 pins s σ H _ x f g lo hi sl Q I n m i k ⟨_,rfl,by rw[dI];exact t,q _ F H (Ext.refl b) (.str _)⟩
  ·cases a
 ·cases a
theorem aRT(o:X.K=c.K):SlR X (aJK c (rX c) nSl):=by
 intro pins s σ H v x f g lo hi sl Q I n m i k h
 obtain ⟨F,d,w,b,j,a,q⟩:=h
 unfold nSl at a
 split at a
 ·cases a
  obtain ⟨p,vs,rfl,h1,h2⟩:=bE.lst_of b j
  rw[<-o] at h1
  exact aDD pins s σ H _ x f g lo hi sl Q I n m i k ⟨p,vs,rfl,h1,fun l e=>q _ _ _ (Ext.own b e) ⟨l,_,rfl,e,aX,bW b e,uR h2 lo hi⟩⟩
 ·cases a
theorem aDS{α:Type}{Rb:VR α}{g:PyData->Option Int->Option Int->R α}(n:∀ x l h e,g x l h≠.ex e)(y:aA4 Rb){f:Sg->R PyData}{m fh:Sg->R (Option Int)}{σ:L2.St}{H:Hp}{Q:VK}(h:tV Rb c E (eSl g f m fh) σ H Q) :
  tSl (aJK c Rb g) (tV (b7 c) c E f) (tPf c E m) (tPf c E fh) σ H Q:=by
 obtain ⟨ρ,F,ab,k⟩:=h
 refine ⟨ρ,F,ab,(Rk.bind k).imp fun x _ q v t H1 s1 r1=>⟨ρ,t,ab.ext s1,((Rk.bind q).ext s1).imp fun l _ q p H2 i=>⟨ρ,p,ab.ext (s1.trans i),((Rk.bind q).ext (s1.trans i)).imp fun hh _ q u H3 j=>?_⟩⟩⟩
 cases b:g x l hh with
 | bad=>rw[b] at q;exact q.elim
 | ex e=>exact absurd b (n x l hh e)
 | ok d=>
  rw[b] at q
  have a:=(s1.trans i).trans j
  exact ⟨u,x,d,j.fh,bE.ext (i.trans j) r1,b,fun w o H' s r=>Rk.ok q w o H' (a.trans s) (y _ _ _ _ _ _ a.hh r)⟩
theorem aJL:∀ x l h e,dSl x l h≠.ex e:=by intro x l h e q;unfold dSl at q;split at q<;>(try split at q)<;>cases q
theorem aHL:∀ x l h e,nSl x l h≠.ex e:=by intro x l h e q;unfold nSl at q;split at q<;>cases q
theorem iU{f:Sg->R PyData}{a fh:Sg->R (Option Int)}(i:X.K=c.K)(d:PR X c E e f)(g:PO X lo (tPf c E a))(b:PO X hi (tPf c E fh)):PD X c E (.Subscript e (.Slice lo hi none p2) pos) (eSl dSl f a fh):=
 PE.imp (aAB (aRS i) d g b) fun σ H Q h=>aDS aJL (nK c) h
theorem aJM{f:Sg->R PyData}{a fh:Sg->R (Option Int)}(i:X.K=c.K)(d:PR X c E e f)(g:PO X lo (tPf c E a))(b:PO X hi (tPf c E fh)):PN X c E (.Subscript e (.Slice lo hi none p2) pos) (eSl nSl f a fh):=
 PE.imp (aAB (aRT i) d g b) fun σ H Q h=>aDS aHL (aK9 c) h
noncomputable def tyN:PyData->String
 | .none=>"NoneType"
 | .bool _=>"bool"
 | .int _=>"int"
 | .str _=>"str"
 | .list _=>"list"
 | .tuple _=>"tuple"
 | .dict _=>"dict"
noncomputable def iV(t T:String):Bool:=t == T || (T == "int" && t == "bool")
noncomputable def iK(T:String)(x:PyData):R PyData:=match x with
 | .dict _=>.bad
 | x=>.ok (.bool (iV (tyN x) T))
structure Kit(K:Frag)(T:String):Prop where
 non:PySem.W.kitOne K (.type "NoneType") (.type T)=some (iV "NoneType" T)
 bl:PySem.W.kitOne K (.type "bool") (.type T)=some (iV "bool" T)
 int:PySem.W.kitOne K (.type "int") (.type T)=some (iV "int" T)
 str:PySem.W.kitOne K (.type "str") (.type T)=some (iV "str" T)
 lst:PySem.W.kitOne K (.type "list") (.type T)=some (iV "list" T)
 tup:PySem.W.kitOne K (.type "tuple") (.type T)=some (iV "tuple" T)
theorem aMJ(K:Frag):Kit K "int":=⟨rfl,rfl,rfl,rfl,rfl,rfl⟩
theorem aJN(K:Frag):Kit K "bool":=⟨rfl,rfl,rfl,rfl,rfl,rfl⟩
theorem tO(K:Frag):Kit K "str":=⟨rfl,rfl,rfl,rfl,rfl,rfl⟩
theorem aJO(K:Frag):Kit K "list":=⟨rfl,rfl,rfl,rfl,rfl,rfl⟩
theorem aHM(K:Frag):Kit K "tuple":=⟨rfl,rfl,rfl,rfl,rfl,rfl⟩
theorem aJP{X:Cx}:kF X (.builtin "isinstance") (fun xs H Q=>∃ a ys c cv b,xs=[.ref a,c]/\SqL X.K H a ys/\aE5 c=some cv/\PySem.W.kitOne X.K (.type "list") cv=some b/\Q (.bl b) H):=by
 intro pins s σ H xs us Q I r h
 obtain ⟨a,ys,c,cv,b,rfl,i,k,e,q⟩:=h
 obtain ⟨u,v,rfl,f,g⟩:=zR r
 obtain rfl:=xD k g
 cases (show u=Value.ref a from f)
 obtain ⟨d,_,j,_⟩:=I.list i
 obtain ⟨o,h1,h2,_⟩:=j.isList
 exact B8 FS I.kIn ⟨o,h1,h2⟩ e (fun z=>nomatch z) fun tk=>⟨.bl b,H,I.tok _,rfl,q⟩
def aJQ(c:Ct)(T:String):List V->Hp->VK->Prop:=fun xs H Q=>∃ F x v d,xs=[v,.ty T]/\aO F H/\bE c.K F H v x/\iK T x=.ok d/\∀ w F' H',Ext F H F' H'->DatV c.K F' w d->Q w H'
theorem jO(g:X.K=c.K){T:String}(k:Kit X.K T):kF X (.builtin "isinstance") (aJQ c T):=by
 intro pins s σ H xs us Q I r h
 obtain ⟨F,x,v,d,rfl,a,f,e,q⟩:=h
 cases x with
 | dict _=>cases e
 | none=>
  cases e
  obtain rfl:=bE.non_of f
  exact mD pins s σ H _ us Q I r ⟨_,_,_,_,_,rfl,.pl .non,rfl,k.non,q _ F H (Ext.refl a) (.bl _)⟩
 | bool b=>
  cases e
  obtain rfl:=bE.bl_of f
  exact mD pins s σ H _ us Q I r ⟨_,_,_,_,_,rfl,.pl (.bl b),rfl,k.bl,q _ F H (Ext.refl a) (.bl _)⟩
 | int b=>
  cases e
  obtain rfl:=bE.int_of f
  exact mD pins s σ H _ us Q I r ⟨_,_,_,_,_,rfl,.pl (.int b),rfl,k.int,q _ F H (Ext.refl a) (.bl _)⟩
 | str b=>
  cases e
  obtain rfl:=bE.str_of f
  exact mD pins s σ H _ us Q I r ⟨_,_,_,_,_,rfl,.pl (.str b),rfl,k.str,q _ F H (Ext.refl a) (.bl _)⟩
 | tuple xs=>
  cases e
  obtain ⟨p,vs,rfl,_,h1,h2⟩:=bE.tup_of a f
  rw[<-g] at h1
  exact aAO pins s σ H _ us Q I r ⟨p,vs,_,_,_,rfl,h1,rfl,k.tup,q _ F H (Ext.refl a) (.bl _)⟩
 | list xs=>
  cases e
  obtain ⟨p,vs,rfl,h1,h2⟩:=bE.lst_of a f
  rw[<-g] at h1
  exact aJP pins s σ H _ us Q I r ⟨p,vs,_,_,_,rfl,h1,rfl,k.lst,q _ F H (Ext.refl a) (.bl _)⟩
theorem mX{T:String}{f:Sg->R PyData}(h:PE X e (tCB (aJQ c T) (dU (tV (b7 c) c E f) (dU (tC (.ty T)) iS)))):PD X c E e (e1 (iK T) f):=PE.imp h fun σ H Q d=>by
 obtain ⟨ρ,F,ab,k⟩:=d
 refine ⟨ρ,F,ab,(Rk.bind k).imp fun x _ q v b H1 s1 r1=>?_⟩
 show aJQ c T [v,.ty T] H1 Q
 cases x with
 | dict _=>exact q.elim
 | none=>exact ⟨b,_,v,_,rfl,s1.fh,r1,rfl,fun w a H' s r=>Rk.ok q w a H' (s1.trans s) r⟩
 | bool _=>exact ⟨b,_,v,_,rfl,s1.fh,r1,rfl,fun w a H' s r=>Rk.ok q w a H' (s1.trans s) r⟩
 | int _=>exact ⟨b,_,v,_,rfl,s1.fh,r1,rfl,fun w a H' s r=>Rk.ok q w a H' (s1.trans s) r⟩
 | str _=>exact ⟨b,_,v,_,rfl,s1.fh,r1,rfl,fun w a H' s r=>Rk.ok q w a H' (s1.trans s) r⟩
 | list _=>exact ⟨b,_,v,_,rfl,s1.fh,r1,rfl,fun w a H' s r=>Rk.ok q w a H' (s1.trans s) r⟩
 | tuple _=>exact ⟨b,_,v,_,rfl,s1.fh,r1,rfl,fun w a H' s r=>Rk.ok q w a H' (s1.trans s) r⟩
noncomputable def qL:List PyData->Option (List Str)
 | []=>some []
 | .str s::t=>(qL t).map (s :: ·)
 | _=>none
theorem pC{K:Frag}{F:Hp}:∀ {vs:List V} {xs:List PyData} {ys:List Str},DatVs K F vs xs->qL xs=some ys->vs=ys.map V.str
 | _,_,ys,.nil,e=>by cases e;rfl
 | _,_,ys,.cons (d:=d) (ds:=t) h h2,e=>by
  cases d with
  | str b=>
   unfold qL at e
   cases q:qL t with
   | none=>rw[q] at e;cases e
   | some cs=>
    rw[q] at e
    cases e
    rw[pC h2 q,h.str_of];rfl
  | _=>cases e
noncomputable def zX:PyData->PyData->R PyData
 | .str sep,.list xs=>match qL xs with
  | some ys=>if (ys.map fun y=>y.length).sum+ys.length * sep.length<=16777216 then .ok (.str (Txt.join sep ys)) else .bad
  | none=>.bad
 | _,_=>.bad
theorem aMK{f g:Sg->R PyData}(o:X.K=c.K)(h:PE X e (tBM X.K "str" (aK3 X.K) (tV (b7 c) c E f) (dU (tV (b7 c) c E g) iS)))(l:∀ ρ x,f ρ=.ok x->∃ z,x=.str z):PD X c E e (e2 zX f g):=PE.imp h fun σ H Q ⟨ρ,F,ab,k⟩=>by
 refine ⟨ρ,F,ab,(Rk.bind k).imp fun x ex q v n H1 s1 r1=>?_⟩
 obtain ⟨z,rfl⟩:=l ρ x ex
 obtain rfl:=bE.str_of r1
 refine ⟨rfl,ρ,n,ab.ext s1,((Rk.bind q).ext s1).imp fun y _ q u m H2 b r2=>?_⟩
 cases y with
 | list xs=>
  have a:Rk c E F H (match qL xs with
   | some ys=>if (ys.map fun y=>y.length).sum+ys.length * z.length<=16777216 then R.ok (PyData.str (Txt.join z ys)) else .bad
   | none=>.bad) (fun d=>∀ v F' H',Ext F H F' H'->c6 c d v H F' H'->Q v H'):=q
  split at a
  ·rename_i ys j
   split at a
   ·rename_i i
    obtain ⟨p,vs,rfl,h1,h2⟩:=bE.lst_of b.fh r2
    rw[<-o] at h1
    obtain rfl:=pC h2 j
    exact ⟨z,p,ys,rfl,rfl,h1,i,Rk.ok a _ m H2 (s1.trans b) (.str _)⟩
   ·exact a.elim
  ·exact a.elim
 | _=>exact q.elim
noncomputable def mY:PyData->PyData->R PyData
 | .str z,.str y=>match Builtin.Str.occurrences z y 0 z.length 1 with
  | i::_=>.ok (.int i)
  | []=>.bad
 | _,_=>.bad
theorem uS{f g:Sg->R PyData}(h:PE X e (tBM X.K "str" aGZ (tV (b7 c) c E f) (dU (tV (b7 c) c E g) iS)))(j:∀ ρ x,f ρ=.ok x->∃ z,x=.str z):PD X c E e (e2 mY f g):=PE.imp h fun σ H Q ⟨ρ,F,ab,k⟩=>by
 refine ⟨ρ,F,ab,(Rk.bind k).imp fun x ex q v n H1 s1 r1=>?_⟩
 obtain ⟨z,rfl⟩:=j ρ x ex
 obtain rfl:=bE.str_of r1
 refine ⟨rfl,ρ,n,ab.ext s1,((Rk.bind q).ext s1).imp fun y _ q u m H2 b r2=>?_⟩
 cases y with
 | str y=>
  have a:Rk c E F H (match Builtin.Str.occurrences z y 0 z.length 1 with
   | i::_=>R.ok (PyData.int i)
   | []=>.bad) (fun d=>∀ v F' H',Ext F H F' H'->c6 c d v H F' H'->Q v H'):=q
  split at a
  ·rename_i i rest l
   obtain rfl:=bE.str_of r2
   exact ⟨z,y,i,rest,rfl,rfl,l,Rk.ok a _ m H2 (s1.trans b) (.int _)⟩
  ·exact a.elim
 | _=>exact q.elim
noncomputable def kJ:Nat->List PyData->List PyData
 | _,[]=>[]
 | i,x::t=>.tuple [.int i,x]::kJ (i+1) t
theorem kK:∀ (i:Nat) (xs:List PyData),(kJ i xs).length=xs.length
 | _,[]=>rfl
 | i,x::t=>by rw[kJ,AW,AW,kK]
theorem uT:∀ (k i:Nat) (xs:List PyData),(kJ k xs)[i]? = (xs[i]?).map fun x=>.tuple [.int ((k+i:Nat):Int),x]
 | k,i,[]=>by simp[kJ]
 | k,0,x::t=>by simp[kJ]
 | k,i+1,x::t=>by rw[kJ,AK,AK,uT,show k+1+i=k+(i+1) by omega]
noncomputable def zY:PyData->R (List PyData)
 | .list xs=>if xs.length<=16777216 then .ok (kJ 0 xs) else .bad
 | .str z=>if z.cps.toList.length<=16777216 then .ok (kJ 0 (z.cps.toList.map fun u=>.str ⟨#[u]⟩)) else .bad
 | _=>.bad
theorem aJR{K:Frag}{F B:Hp}{a:Addr}{vs:List V}{xs:List PyData}(j:xs.length<=16777216)(f:∀ H1,aO F H1->aO B H1->SqL K H1 a vs)(c:DatVs K F vs xs):Yld K (Ite K a) F B (kJ 0 xs) where
 len:=by rw[dI,kK];exact j
 go:=fun i h H1 h1 h2 b hi=>by
  rw[kK] at hi
  exact ⟨vs,vs[i]'(by rw[c.length];exact hi),f H1 (fun x o z=>h2 x o (h1 x o z)) b,by simp⟩
 yld:=fun i h H1 v H2 x h1 h2 b y e=>by
  obtain ⟨p,w,g,rfl,rfl,y⟩:=y
  have q:=y vs (f _ (fun x o z=>h2 x o (h1 x o z)) b)
  obtain ⟨d,e2,r⟩:=c.get q
  rw[uT,e2] at e
  cases e
  refine ⟨_,Ext.new h2 g,.tup (SqT.of aX) (.cons ?_ (.cons ((r.same h1).same (aO.upd (bW h2 g))) .nil))⟩
  rw[Nat.zero_add];exact .int _
 stop:=fun h H1 h1 h2 b=>⟨vs,f H1 (fun x o z=>h2 x o (h1 x o z)) b,by rw[c.length,kK];exact AG _⟩
theorem aHN{K:Frag}{F B:Hp}{z:Str}(c:z.cps.toList.length<=16777216):Yld K (Ity z) F B (kJ 0 (z.cps.toList.map fun u=>.str ⟨#[u]⟩)) where
 len:=by rw[dI,kK,AB];exact c
 go:=fun i b H1 h1 h2 a hi=>by
  rw[kK,AB,CU] at hi
  exact hi
 yld:=fun i b H1 v H2 x h1 h2 a y e=>by
  obtain ⟨p,u,f,rfl,rfl,d⟩:=y
  rw[uT,AH,EY,d] at e
  cases e
  refine ⟨_,Ext.new h2 f,.tup (SqT.of aX) (.cons ?_ (.cons (.str _) .nil))⟩
  rw[Nat.zero_add];exact .int _
 stop:=fun b H1 h1 h2 a=>by
  show (kJ 0 _).length=z.cps.size
  rw[kK,AB,CU]
theorem aPM{tg:Expr}{f:Sg->R PyData}(j:X.K=c.K)(h:PI X tg e (aK0 X.K (dU (tV (c6 c) c E f) iS)))(h':PI X tg e (aG0 (dU (tV (c6 c) c E f) iS))):PI0 X c E tg e (e1 zY f):=PI.imp (PI.or h h') fun σ H Q ⟨ρ,F,ab,k⟩=>by
 have b:=Rk.bind k
 cases a:f ρ with
 | bad=>rw[a] at b;exact b.elim
 | ex x=>rw[a] at b;exact .inl ⟨ρ,F,ab,by rw[a];exact b⟩
 | ok d=>
  rw[a] at b
  have k2:=Rk.ok b
  unfold zY at k2
  split at k2
  ·rename_i xs
   split at k2
   ·rename_i g
    refine .inl ⟨ρ,F,ab,?_⟩
    rw[a]
    intro v i H' s r
    obtain ⟨p,vs,rfl,h1,h2⟩:=DatV.lst_of r
    refine ⟨p,rfl,⟨vs,?_⟩,?_⟩
    · rw [j]; exact h1.same s.fh
    · rw [j]; exact Rk.ok k2 _ i H' s (aJR g (fun H1 q _ => h1.same q) h2)
   ·exact k2.elim
  ·rename_i z
   split at k2
   ·rename_i g
    refine .inr ⟨ρ,F,ab,?_⟩
    rw[a]
    intro v i H' s r
    obtain rfl:=DatV.str_of r
    exact ⟨z,rfl,Rk.ok k2 _ i H' s (aHN g)⟩
   ·exact k2.elim
  ·exact k2.elim
end
noncomputable def fZ(kvs:List (PyData×PyData))(k:PyData):Option PyData:=(kvs.find? fun p=>decide (p.1=k)).map (·.2)
noncomputable def dM(kvs:List (PyData×PyData))(k:PyData):Bool:=(fZ kvs k).isSome
noncomputable def putM(kvs:List (PyData×PyData))(k v:PyData):List (PyData×PyData):=if dM kvs k=true then kvs.map (fun p=>if p.1=k then (p.1,v) else p) else kvs++[(k,v)]
theorem aDT{K:Frag}{F:Hp}{k:PyData}:∀ {es:List Ent} {kvs:List (PyData×PyData)},es.map (·.1)=kvs.map (·.1)->DatVs K F (es.map (·.2.2)) (kvs.map (·.2))->
  (atE es k=none/\fZ kvs k=none)\/∃ v d,atE es k=some v/\fZ kvs k=some d/\DatV K F v d
 | [],[],_,_=>.inl ⟨rfl,rfl⟩
 | [],_::_,h,_=>by cases h
 | _::_,[],h,_=>by cases h
 | e::es,p::kvs,h,r=>by
  rw[AT,AT] at h r
  injection h with h1 h2
  obtain ⟨v,t,e1,r1,r2⟩:=r.cons_of
  rw[E7] at e1
  obtain ⟨rfl,rfl⟩:=e1
  have a:=aDT (k:=k) h2 r2
  unfold atE fZ at a ⊢
  rw[C0,C0,h1]
  by_cases q:p.1=k
  · rw [A3 q]; exact .inr ⟨_, _, rfl, rfl, r1⟩
  · rw [A7 q]; exact a
theorem MapRel.get{K:Frag}{F:Hp}{es:List Ent}{a:List (PyData×PyData)}(m:MapRel K F es a)(k:PyData):(atE es k=none/\fZ a k=none)\/∃ v d,atE es k=some v/\fZ a k=some d/\DatV K F v d:=aDT m.k1 m.vs
theorem MapRel.has{K:Frag}{F:Hp}{es:List Ent}{c:List (PyData×PyData)}(m:MapRel K F es c)(k:PyData):(atE es k).isSome=dM c k:=by
 unfold dM
 rcases m.get k with ⟨a,b⟩|⟨v,d,a,b,_⟩<;>rw[a,b]<;>rfl
theorem uU{a:List (PyData×PyData)}{k:PyData}:dM a k=true↔k∈a.map (·.1):=by
 unfold dM fZ
 rw[ER]
 induction a with
 | nil=>simp
 | cons p t ih=>
  rw[C0]
  by_cases q:p.1=k
  ·rw[A3 q];simp[q]
  ·rw[A7 q,ih,AT]
   exact ⟨fun z=>AM _ z,fun z=>(AZ.mp z).resolve_left (fun w=>q w.symm)⟩
theorem aHO{a:List (PyData×PyData)}{k v:PyData}:(putM a k v).map (·.1)=if dM a k=true then a.map (·.1) else a.map (·.1)++[k]:=by
 unfold putM
 cases h:dM a k with
 | true=>
  rw[AD rfl,AD rfl,CC]
  refine B0 fun p _=>?_
  show (if p.1=k then (p.1,v) else p).1=p.1
  split<;>rfl
 | false=>rw[AE (by decide),AE (by decide),BK];rfl
theorem aDU{K:Frag}{F:Hp}{k d:PyData}{v:V}(r:DatV K F v d):∀ {es:List Ent} {kvs:List (PyData×PyData)},es.map (·.1)=kvs.map (·.1)->DatVs K F (es.map (·.2.1)) (kvs.map (·.1))->DatVs K F (es.map (·.2.2)) (kvs.map (·.2))->
  (es.map fun e=>if e.1=k then (e.1,e.2.1,v) else e).map (·.1)=(kvs.map fun p=>if p.1=k then (p.1,d) else p).map (·.1) /\
  DatVs K F ((es.map fun e=>if e.1=k then (e.1,e.2.1,v) else e).map (·.2.1)) ((kvs.map fun p=>if p.1=k then (p.1,d) else p).map (·.1)) /\
  DatVs K F ((es.map fun e=>if e.1=k then (e.1,e.2.1,v) else e).map (·.2.2)) ((kvs.map fun p=>if p.1=k then (p.1,d) else p).map (·.2))
 | [],[],_,_,_=>⟨rfl,.nil,.nil⟩
 | [],_::_,h,_,_=>by cases h
 | _::_,[],h,_,_=>by cases h
 | e::es,p::kvs,h,rk,rv=>by
  rw[AT,AT] at h rk rv
  injection h with h1 h2
  obtain ⟨_,_,e1,r1,r2⟩:=rk.cons_of
  rw[E7] at e1
  obtain ⟨rfl,rfl⟩:=e1
  obtain ⟨_,_,e1,g,c⟩:=rv.cons_of
  rw[E7] at e1
  obtain ⟨rfl,rfl⟩:=e1
  obtain ⟨f,a,b⟩:=aDU r h2 r2 c
  simp only[AT]
  rw[h1,f]
  by_cases q:p.1=k
  · rw [AD q, AD q]; exact ⟨rfl, .cons r1 a, .cons r b⟩
  · rw [AE q, AE q]; exact ⟨by rw [h1], .cons r1 a, .cons g b⟩
theorem MapRel.put{K:Frag}{F:Hp}{es:List Ent}{c:List (PyData×PyData)}{k d:PyData}{kv v:V}(m:MapRel K F es c)(g:DatV K F kv k)(r:DatV K F v d):MapRel K F (o3 es k kv v) (putM c k d):=by
 have i:=m.has k
 have nd:((putM c k d).map (·.1)).Nodup:=by
  rw[aHO]
  cases h:dM c k with
  | true=>rw[AD rfl];exact m.nd
  | false=>
   rw[AE (by decide),C2]
   refine ⟨m.nd,by simp,fun a n b e z=>?_⟩
   rw[AV] at e
   subst e z
   rw[uU.mpr n] at h
   cases h
 unfold o3
 rw[i]
 unfold putM at nd ⊢
 cases h:dM c k with
 | true=>
  rw[h,AD rfl] at nd
  rw[AD rfl,AD rfl]
  obtain ⟨j,f,l⟩:=aDU (k:=k) r m.k1 m.k2 m.vs
  exact ⟨j,f,l,nd⟩
 | false=>
  rw[h,AE (by decide)] at nd
  rw[AE (by decide),AE (by decide)]
  refine ⟨by rw[BK,BK,m.k1];rfl,?_,?_,nd⟩
  ·rw[BK,BK];exact m.k2.append (.cons g .nil)
  ·rw[BK,BK];exact m.vs.append (.cons r .nil)
theorem oR{K:Frag}{F:Hp}:∀ {es:List Ent} {kvs:List (PyData×PyData)},es.map (·.1)=kvs.map (·.1)->DatVs K F (es.map (·.2.1)) (kvs.map (·.1))->∀ e∈es,DatV K F e.2.1 e.1
 | [],_,_,_,e,he=>by cases he
 | _::_,[],h,_,_,_=>by cases h
 | e0::es,p::kvs,h,rk,e,he=>by
  rw[AT,AT] at h rk
  injection h with h1 h2
  obtain ⟨_,_,e1,r1,r2⟩:=rk.cons_of
  rw[E7] at e1
  obtain ⟨rfl,rfl⟩:=e1
  rcases AZ.mp he with z|z
  · subst z; rw [h1]; exact r1
  · exact oR h2 r2 e z
section
variable{X:Cx}{c:Ct}{E:XK}{e a b:Expr}{st:Stmt}{pos:Pos}
theorem aFK{ρ:Sg}{σ:L2.St}{F H:Hp}{i:Nat}{a:List (PyData×PyData)}{k:PyData}{kv:V}(d:X.K=c.K)(g:X.w=c.w)(ab:Ab c ρ σ F H)(hi:ρ[i]? = some (some (.m a)))(j:DatV c.K F kv k)(h:cI k (a.map (·.1))=true) :
  ∃ p es,σ[i]? = some (some (.ref p))/\DicAt X H p es k kv/\MapRel c.K F es a:=by
 obtain ⟨v,l,p,es,rfl,⟨ep,h2⟩,n,o,b⟩:=ab.slot i _ hi
 refine ⟨p,es,l,⟨⟨ep,by rw[g];exact h2⟩,fun e f=>by rw[d];exact (oR b.k1 b.k2 e f).same ab.fh,by rw[b.k1];exact b.nd,by rw[d];exact j.same ab.fh,by rw[b.k1];exact h⟩,b⟩
theorem aHP{ρ:Sg}{σ:L2.St}{F H:Hp}{i:Nat}{a:List (PyData×PyData)}{k:PyData}{kv:V}(d:X.K=c.K)(j:X.w=c.g.w)(ab:Ab c ρ σ F H)(hi:ρ[i]? = some (some (.f a)))(m:DatV c.K F kv k)(l:cI k (a.map (·.1))=true) :
  ∃ p es,σ[i]? = some (some (.ref p))/\DicAt X H p es k kv/\MapRel c.K F es a:=by
 obtain ⟨v,n,p,es,rfl,⟨ep,h2⟩,b⟩:=ab.slot i _ hi
 refine ⟨p,es,n,⟨⟨ep,by rw[j];exact ab.fh _ _ h2⟩,fun e h=>by rw[d];exact (oR b.k1 b.k2 e h).same ab.fh,by rw[b.k1];exact b.nd,by rw[d];exact m.same ab.fh,by rw[b.k1];exact l⟩,b⟩
def aLB(w:World):TE:=fun _ H Q=>∀ p,H p=none->Q (.ref p) (upd H p (dZ w p [] 0))
theorem pH:PE X (.Dict [] [] pos) (aLB X.w):=fun pins s σ H Q I h=>
 wpAny_Dict_empty ⟨.ref s.heap.objs.size,_,I.laid (a:=s.heap.objs.size) (o:=dZ X.w s.heap.objs.size [] 0) (t':=s.toks) (fun _ _ q=>AJ _ q) (AG _)
  (nO (C5.mpr (BX (BB I.big))) ⟨_,#[],A9 _ rfl,⟨rfl,rfl,rfl⟩,rfl,.nil⟩),rfl,h _ (I.hok.fresh (AG _))⟩
noncomputable def qM(i:Nat):Sg->R Fw:=fun ρ=>.ok (.nx (ρ.set i (some (.m []))))
theorem pI{i:Nat}{w:World}(b:w=c.w)(h:PS X st (kG (aLB w) (j3 i))):PSf X c E st (qM i):=PS.imp h fun D σ H ⟨ρ,F,ab,k⟩=>fun p a=>by
 subst b
 exact Rk.ok k _ F _ (cO F) (ab.setM (Ext.own ab.fh a) a aX (bW ab.fh a) ⟨rfl,.nil,.nil,D1⟩)
noncomputable def n4(neg:Bool)(i:Nat)(f:Sg->R PyData):Sg->R PyData:=fun ρ=>(f ρ).bind fun k=>match ρ[i]? with
 | some (some (.m kvs))=>if cI k (kvs.map (·.1))=true then .ok (.bool (if neg=true then !dM kvs k else dM kvs k)) else .bad
 | some (some (.f kvs))=>if cI k (kvs.map (·.1))=true then .ok (.bool (if neg=true then !dM kvs k else dM kvs k)) else .bad
 | _=>.bad
def aFL(X:Cx)(neg:Bool):R2:=fun y x H Q=>∃ p es k,x=.ref p/\DicAt X H p es k y/\Q (.bl (if neg=true then !(atE es k).isSome else (atE es k).isSome)) H
theorem xR(c:X.A.units+64 < cLine):OpR X (compareOp .In) (aFL X false):=by
 intro pins s σ H y x v u Q I b d h
 obtain ⟨p,es,k,rfl,D,q⟩:=h
 cases (show u=Value.ref p from d)
 exact aPH c D I b fun s' a=>⟨.bl _,H,a,rfl,q⟩
theorem qN(c:X.A.units+64 < cLine):OpR X (compareOp .NotIn) (aFL X true):=by
 intro pins s σ H y x v u Q I b d h
 obtain ⟨p,es,k,rfl,D,q⟩:=h
 cases (show u=Value.ref p from d)
 exact aMC c D I b fun s' a=>⟨.bl _,H,a,rfl,q⟩
theorem aJS{i:Nat}{neg:Bool}{f:Sg->R PyData}(n:X.K=c.K)(j:X.w=c.w)(o:c.w=c.g.w){σ:L2.St}{H:Hp}{Q:VK}(h:tV (c6 c) c E (n4 neg i f) σ H Q):tOp (aFL X neg) (tV (c6 c) c E f) (iR i) σ H Q:=by
 obtain ⟨ρ,F,ab,k⟩:=h
 refine ⟨ρ,F,ab,(Rk.bind k).imp fun d _ q v l H1 s1 r1=>?_⟩
 split at q
 ·rename_i a hi
  split at q
  ·rename_i b
   obtain ⟨p,es,e,D,m⟩:=aFK n j (ab.ext s1) hi r1 b
   refine ⟨_,e,p,es,d,rfl,D,?_⟩
   rw[m.has]
   exact Rk.ok q _ l H1 s1 (.bl _)
  ·exact q.elim
 ·rename_i a hi
  split at q
  ·rename_i b
   obtain ⟨p,es,e,D,m⟩:=aHP n (j.trans o) (ab.ext s1) hi r1 b
   refine ⟨_,e,p,es,d,rfl,D,?_⟩
   rw[m.has]
   exact Rk.ok q _ l H1 s1 (.bl _)
  ·exact q.elim
 ·exact q.elim
theorem n6{i:Nat}{neg:Bool}{f:Sg->R PyData}(d:X.K=c.K)(a:X.w=c.w)(h:PT X e (aKW (tOp (aFL X neg) (tV (c6 c) c E f) (iR i))))(b:c.w=c.g.w:=by rfl):PTf X c E e (e1 asB (n4 neg i f)):=PT.imp h fun σ H Q q=>aJS d a b (xI q)
noncomputable def qO(i:Nat)(f:Sg->R PyData):Sg->R PyData:=fun ρ=>match ρ[i]? with
 | some (some (.m kvs))=>(f ρ).bind fun k=>if cI k (kvs.map (·.1))=true then match fZ kvs k with
  | some v=>.ok v
  | none=>.bad else .bad
 | some (some (.f kvs))=>(f ρ).bind fun k=>if cI k (kvs.map (·.1))=true then match fZ kvs k with
  | some v=>.ok v
  | none=>.bad else .bad
 | _=>.bad
def aLC(X:Cx)(td ty:TE):TE:=fun σ H Q=>td σ H fun x H1=>ty σ H1 fun y H2=>∃ p es k v,x=.ref p/\DicAt X H2 p es k y/\atE es k=some v/\Q v H2
theorem xS{o i:Expr}{d ty:TE}(r:X.A.units+64 < cLine)(m:PE X o d)(hi:PE X i ty)(z:aPA i):PE X (.Subscript o i pos) (aLC X d ty):=by
 intro pins s σ H Q I h
 refine aL0 PySem.F.slot_dict_getitem.lookup z (thn (m pins s σ H _ I h) fun u s1 ⟨x,H1,t,B,j⟩=>thn (hi pins s1 σ H1 _ t j) fun C g b=>?_)
 obtain ⟨y,H2,c,q,p,es,k,v,ex,D,f,n⟩:=b
 subst ex
 obtain rfl:u=Value.ref p:=B
 obtain ⟨ep,e⟩:=D.o
 obtain ⟨⟨_,o',ar,h1,h2,_⟩,_,_⟩:=(show cN X.prog X.w H2 g.heap p (dZ X.w p es ep) from c.hok p _ e)
 exact ⟨⟨o',h1,h2.1⟩,aMD r D c q f fun E G l a=>⟨v,H2,l,a,n⟩⟩
theorem xT{i:Nat}{f:Sg->R PyData}(x:X.K=c.K)(u:X.w=c.w)(h:PE X e (aLC X (iR i) (tV (c6 c) c E f)))(B:c.w=c.g.w:=by rfl):PD X c E e (qO i f):=PE.imp h fun σ H Q ⟨ρ,F,ab,k⟩=>by
 unfold qO at k
 split at k
 ·rename_i r hi
  obtain ⟨_,l,p,es,rfl,_⟩:=ab.slot i _ hi
  refine ⟨_,l,ρ,F,ab,(Rk.bind k).imp fun d _ q v s H1 s1 r1=>?_⟩
  split at q
  ·rename_i t
   obtain ⟨y,b,a,D,m⟩:=aFK x u (ab.ext s1) hi r1 t
   rw[l] at a
   cases a
   split at q
   ·rename_i w j
    rcases m.get d with ⟨_,z⟩|⟨n,A,h1,h2,o⟩
    ·rw[j] at z;cases z
    ·rw[j] at h2
     cases h2
     exact ⟨p,b,d,n,rfl,D,h1,Rk.ok q n s H1 s1 o⟩
   ·exact q.elim
  ·exact q.elim
 ·rename_i r hi
  obtain ⟨_,l,p,es,rfl,_⟩:=ab.slot i _ hi
  refine ⟨_,l,ρ,F,ab,(Rk.bind k).imp fun d _ q v s H1 s1 r1=>?_⟩
  split at q
  ·rename_i t
   obtain ⟨y,b,a,D,m⟩:=aHP x (u.trans B) (ab.ext s1) hi r1 t
   rw[l] at a
   cases a
   split at q
   ·rename_i w j
    rcases m.get d with ⟨_,z⟩|⟨n,A,h1,h2,o⟩
    ·rw[j] at z;cases z
    ·rw[j] at h2
     cases h2
     exact ⟨p,b,d,n,rfl,D,h1,Rk.ok q n s H1 s1 o⟩
   ·exact q.elim
  ·exact q.elim
 ·exact k.elim
noncomputable def mJ(i:Nat)(f g:Sg->R PyData):Sg->R Fw:=fun ρ=>(g ρ).bind fun v=>match ρ[i]? with
 | some (some (.m kvs))=>(f ρ).bind fun k=>if cI k (kvs.map (·.1))=true/\kvs.length<=16777216 then .ok (.nx (ρ.set i (some (.m (putM kvs k v))))) else .bad
 | _=>.bad
def aLD(X:Cx):aES:=fun o i v H Q=>∃ p es k,o=.ref p/\DicAt X H p es k i/\es.length<=sizeLine/\∀ ep,Q (upd H p (dZ X.w p (o3 es k i v) ep))
theorem kL(c:X.A.units+64 < cLine):aIR X (aLD X):=by
 intro pins s σ H o i v b j u Q I d e g h
 obtain ⟨p,es,k,rfl,D,a,q⟩:=h
 cases (show b=Value.ref p from d)
 exact aME c D I e g a fun ep s' f=>⟨_,f,q ep⟩
theorem lU{i:Nat}{f g:Sg->R PyData}(A:X.K=c.K)(r:X.w=c.w)(h:PS X st (kG (tV (c6 c) c E g) (aIT (iR i) (tV (c6 c) c E f) (aLD X)))):PSf X c E st (mJ i f g):=PS.imp h fun D σ H ⟨ρ,F,ab,k⟩=>by
 refine ⟨ρ,F,ab,(Rk.bind k).imp fun x _ q v z H1 s1 r1=>?_⟩
 split at q
 ·rename_i n hi
  have a:=ab.ext s1
  obtain ⟨_,o,p,es,rfl,_⟩:=a.slot i _ hi
  refine ⟨_,o,ρ,z,a,((Rk.bind q).ext s1).imp fun d _ q u y H2 l r2=>?_⟩
  have j:=a.ext l
  split at q
  ·rename_i s
   obtain ⟨B,e,b,t,m⟩:=aFK A r j hi r2 s.1
   rw[o] at b
   cases b
   refine ⟨p,e,d,rfl,t,?_,?_⟩
   ·have:e.length=n.length:=by have:=EA List.length m.k1;simpa using this
    rw[this,dI];exact s.2
   ·intro ep
    rw[r]
    exact Rk.ok q σ y _ (s1.trans l).ff (j.putM hi o (m.put r2 (DatV.same l.ff r1)))
  ·exact q.elim
 ·exact q.elim
end
section
variable{X:Cx}{c:Ct}{E:XK}{e a b:Expr}{st:Stmt}{pos p2:Pos}
def lV(fs:PyData->Sg->Option Sg)(f:Sg->R PyData):Sg->R Fw:=fun ρ=>(f ρ).bind fun x=>(aBE (fs x ρ)).bind fun ρ'=>.ok (.nx ρ')
theorem n8{g:TG}{fs:PyData->Sg->Option Sg}{is:List Nat}{f:Sg->R PyData}(i:Tg c g fs is)(h:PS X st (kG (tV (c6 c) c E f) g)):PSf X c E st (lV fs f):=PS.imp h fun D σ H b=>by
 obtain ⟨ρ,F,ab,k⟩:=b
 refine ⟨ρ,F,ab,(Rk.bind k).imp fun x _ q v e H1 s1 r1=>?_⟩
 cases h1:fs x ρ with
 | none=>rw[h1] at q;exact q.elim
 | some ρ'=>
  rw[h1] at q
  exact i v x ρ ρ' σ e H1 _ (ab.ext s1) r1 h1 fun d _ _ a=>Rk.ok q d e H1 s1.ff a
noncomputable def aPN:PyData->R PyData
 | .str z=>if z.length<=16777216 then .ok (.str ⟨z.cps.toList.reverse.toArray⟩) else .bad
 | _=>.bad
def aSU(f:Sg->R PyData)(g:Sg->R (Option Int)):Sg->R PyData:=fun ρ=>(f ρ).bind fun x=>(g ρ).bind fun o=>if o=some (-1) then aPN x else .bad
end
theorem aPO{P:Program}{w:World}{K:Frag}{mg:Str->Option Value}{base:Heap}{T:Hp}{x:Str}{st:Stmt}{N ps:List Str}{k:Nat}{f:Addr}{fd:FuncData}{fb:Sg->R Fw}(i:Fun K x x st f fd)(S:FnScope N ps (aL st))
  (a:∀ (cdv:Value) (A:Around) (outer:List Env) (s:Shared) (H F:Hp) (E:XK),Room k (A.deeper (envOfC x (aL st) s.heap.objs.size f cdv))->
   lT ((jJ (CXe P w) P w K mg base N x (aL st) f cdv A outer s H E).fly E) ⟨K,mg,w,F,H,gOf P w K mg base T,(envOfC x (aL st) s.heap.objs.size f cdv).cells,fun _=>none⟩ E (cL st) fb):FnOk P w K mg base (CXe P w) (k+1) f fd ps (spF (gOf P w K mg base T) K mg ps.length (fnF N.length fb)):=by
 refine i.okX S (fun vs H Q E h=>?_) (fun cdv A outer s H vs Q E d h=>?_)
 ·obtain ⟨F,e,_,_,h2,b,_⟩:=h
  rw[h2.len,b]
 ·obtain ⟨F,e,c,h1,h2,b,g⟩:=h
  exact ⟨_,a cdv A outer s H F E d,tN c h1 h2 g⟩
def aFM(K:Frag)(T:Hp):Sp:=fun vs H Q _=>∃ (a:Addr) (ns:List Int),vs=[.ref a]/\ns.length<=63/\aO T H/\SqL K H a (ns.map V.int)/\∀ H',Q (.bl true) H'
theorem aBF{K:Frag}{H:Hp}:∀ (ns:List Int),DatVs K H (ns.map V.int) (ns.map PyData.int)
 | []=>.nil
 | n::t=>.cons (.int n) (aBF t)
theorem aPP{P:Program}{w:World}{K:Frag}{mg:Str->Option Value}{base:Heap}{T:Hp}{k:Nat}{f:Addr}{fd:FuncData}{x:Str}{G:List A->R A}(h:FnOk P w K mg base (CXe P w) k f fd [x] (spF (gOf P w K mg base T) K mg 1 G))
  (b:∀ ns:List Int,ns.length<=63->G [.d (.list (ns.map .int))]=.ok (.d (.bool true))):FnOk P w K mg base (CXe P w) k f fd [x] (aFM K T):=h.imp fun vs H Q E=>by
 rintro ⟨a,ns,rfl,hn,ht,hs,q⟩
 refine ⟨H,[.d (.list (ns.map .int))],ht,cO H,⟨.lst hs (aBF ns),trivial⟩,rfl,?_⟩
 rw[b ns hn]
 intro v c H' _ r
 obtain rfl:=DatV.bl_of r
 exact q H'
theorem aRU(P:Program)(w:World)(H:Hp)(s:Shared)(e:Value)(s':Shared)(h:CXe P w [] H s (fun _ _ _=>False) e s'):False:=by
 obtain ⟨_,_,_,_,_,_,_,_,_,_,_,q⟩:=h
 exact q
theorem aML{l:PySem.W.OpenLaw}{k:Nat}{q:Program}{b:List Str}{m:(Str->Option Value)->Heap->Prop}{j:World->Heap->Prop}{d:DefRec}{K:Params->Frag}{x:Str}{qs:List (Pos×Str)}{xs:List Str}
  (i:∀ x∈xs,∃ d∈recsOf q,d.name=x) (hNT:∀ w:World,PySem.W.noTabs (K w.params)=true)
  (t:l.most=some 63) (g:d.params.defaults=[]) (o:Room k callerA)
  (r:∀ (w:World) (h:Heap),j w h->(K w.params).In h)
  (F:∀ (w:World) (mg:Str->Option Value) (fa:Addr) (h:Heap),(K w.params).In h->h.Ns mainGlobals mg->mg d.name=some (.ref fa)->
   ∃ fd:FuncData,(∀ (s:Shared) (u:Value),BindsTo s fd ⟨[u],[]⟩ [(x,u)]) /\
    ∀ (base:Heap) (T:Hp),(K w.params).In base->base.Ns mainGlobals mg->aAZ mg h base T qs xs->FnOk l.prog w (K w.params) mg base (CXe l.prog w) k fa fd [x] (aFM (K w.params) T)) :
  PySem.W.WalkO q b m j l.row.toRowW d [] (fun f vs=>PySem.call f vs):=
 walk_ofT (K:=K) (CX:=fun w=>CXe l.prog w) (qs:=qs) (xs:=xs) i hNT t (by decide) g o r (fun w mg fa h h1 h2 c=>by
  obtain ⟨fd,y,n⟩:=F w mg fa h h1 h2 c
  exact ⟨fd,y,fun base T h1 h2 c=>⟨_,n base T h1 h2 c,fun H a ns A v p=>⟨a,ns,rfl,A,v,p,fun _=>rfl⟩⟩⟩) fun w H s e s' z=>aRU _ w H s e s' z
variable{X:Cx}{c:Ct}{E:XK}{e:Expr}
noncomputable def d2(G:Int->Int->Int):PyData->PyData->R PyData
 | .int i,.int j=>.ok (.int (G i j))
 | _,_=>.bad
noncomputable def d1(G:Int->Int):PyData->R PyData
 | .int i=>.ok (.int (G i))
 | _=>.bad
noncomputable def qP(i j:Int):Int:=if j < i then j else i
theorem aHQ{G:Int->Int->Int}{f g:Sg->R PyData}(h0:PE X e (tCB (fun xs H Q=>∃ i j,xs=[.int i,.int j]/\Q (.int (G i j)) H) (dU (tV (b7 c) c E f) (dU (tV (b7 c) c E g) iS)))):PD X c E e (e2 (d2 G) f g):=PE.imp h0 fun σ H Q a=>by
 obtain ⟨ρ,F,ab,k⟩:=a
 refine ⟨ρ,F,ab,(Rk.bind k).imp fun x ex q v h H1 s1 r1=>?_⟩
 refine ⟨ρ,h,ab.ext s1,((Rk.bind q).ext s1).imp fun y _ q u d H2 b r2=>?_⟩
 cases x with
 | int i=>
  cases y with
  | int j=>
   obtain rfl:=bE.int_of r1
   obtain rfl:=bE.int_of r2
   exact ⟨i,j,rfl,Rk.ok q _ d H2 (s1.trans b) (.int _)⟩
  | _=>exact q.elim
 | _=>exact q.elim
end Fl
namespace L2
open PySem PyProof.Rows
variable{X:Cx}
end L2
namespace Fl
open PySem L2 PyProof.Rows
variable{X:Cx}{c:Ct}{E:XK}{e:Expr}
variable{X:Cx}{c:Ct}{E:XK}{e:Expr}{st:Stmt}
end Fl
namespace L2
open PySem PyProof.Rows
theorem aMM{prog:Program}{w:World}{A:Around}{E:Value->Shared->Prop}{s:Shared}{t b:Addr}{vs ws:List Value}{Q:Value->Shared->Prop}(m:PlainL s.heap t vs.toArray)(p:PlainL s.heap b ws.toArray)
  (h2:Q (.ref s.heap.objs.size) {s with heap:=s.heap.push {cls:=.type "list",data:=.seq (vs++ws).toArray}})
  (hsz:vs.length+ws.length<=sizeLine):wpAny (model prog w) A (binaryOp .Add (.ref t) (.ref b)) Q E s:=by
 obtain ⟨⟨cls,dd,data,sl⟩,n,k,l,_,j⟩:=id m
 obtain ⟨⟨i,g,h,f⟩,o,a,d,_,c⟩:=id p
 simp only at l j d c
 subst l j d c
 have e:vs.toArray++ws.toArray=(vs++ws).toArray:=by simp
 refine concat_meets ⟨_,k,rfl⟩ ⟨_,a,rfl⟩ noFill_list_add seq_list_add PySem.F.slot_list_add PySem.F.entry_list_add (PySem.F.args_list_add_2 _ _)
   (list_addW t b vs.toArray ws.toArray n o dd g sl f (by rw[A4,A4];exact hsz)) ⟨k,a,?_⟩
 rw[e]
 exact h2
end L2
namespace Fl
open PySem L2 PyProof.Rows
section
variable{X:Cx}{c:Ct}{E:XK}{e a b:Expr}{pos:Pos}
noncomputable def uV:PyData->PyData->R (List PyData)
 | .list xs,.list ys=>if xs.length+ys.length<=sizeLine then .ok (xs++ys) else .bad
 | _,_=>.bad
theorem aMN(B:X.K=c.K):OpR X (binaryOp .Add) (r2D (b7 c) (b7 c) (rX c) uV):=by
 intro pins s σ H v u x y Q I w p h
 obtain ⟨D,H1,F,a,b,d,g,A,r,e,q⟩:=h
 unfold uV at e
 split at e
 ·rename_i xs ys
  split at e
  ·rename_i o
   cases e
   obtain ⟨C,vs,rfl,n,j⟩:=bE.lst_of g A
   obtain ⟨E,us,rfl,l,k⟩:=bE.lst_of g r
   rw[<-B] at n l
   cases w
   cases p
   obtain ⟨t,r1,z,_⟩:=I.list n
   obtain ⟨m,r2,p2,_⟩:=I.list l
   have f:vs.length+us.length<=sizeLine:=by rw[j.length,k.length];exact o
   have i:=I.fresh
   refine aMM z p2 ?_ (by rw[<-r1.length,<-r2.length];exact f)
   exact ⟨.ref _,_,I.lnew (t':=s.toks) (r1.append r2) (by rw[A0];exact f),rfl,q _ F _ (Ext.own g i) ⟨_,_,rfl,i,aX,bW g i,j.append k⟩⟩
  ·cases e
 ·cases e
theorem aHR:dQ uV:=by
 intro a b e h
 unfold uV at h
 split at h<;>(try split at h)<;>cases h
theorem aPQ(g:X.K=c.K){d fb:Sg->R PyData}(e:PR X c E a d)(f:PR X c E b fb):PN X c E (.BinOp a .Add b pos) (e2 uV d fb):=
 PE.imp (aKV (aMN g) e f) fun σ H Q h=>tV2 vX aHR (rY c) (aK9 c) h
end
theorem tD{H:Hp}{p:Addr}{a b:HO}:upd (upd H p a) p b=upd H p b:=by
 funext x
 by_cases q:x=p
 · subst q; rw [aX, aX]
 · rw [aG q, aG q, aG q]
section
variable{X:Cx}{pins:List (Addr×Obj)}{σ:L2.St}{H:Hp}{s:Shared}{a:Addr}{es:List Ent}{k:PyData}{kv v:V}{ku u:Value}{A:Around}{E:Value->Shared->Prop}
theorem aFN{A:Around}(a:A.units+64 < cLine):(kH X.prog X.w).room A:=by show A.units+9 < cLine;omega
theorem aMO{Q:Unit->Shared->Prop}(B:A.units+64 < cLine)(D:DicAt X H a es k kv)(I:Inv X pins σ H s)(C:bJ kv ku)(y:bJ v u)(r:es.length<=sizeLine)(h:∀ ep s',Inv X pins σ (upd H a (dZ X.w a (o3 es k kv v) ep)) s'->Q () s') :
  wpAny (model X.prog X.w) A (dictSet a ku u) Q E s:=by
 obtain ⟨x,⟨b,xs,rfl,rfl,f,p,dd⟩|⟨F,xs,rfl,rfl,f,p,dd⟩⟩:=D.cases I C
 ·have l:xs.length<=sizeLine:=by rw[<-Paired.length f];exact r
  refine wpAny_dictSet_heap (a:=b) (aFN B) p dd (fun h' c n=>?_) l
  obtain ⟨e,ar,ep,d,h2,i,q,_,t⟩:=c
  obtain ⟨j,g⟩:=D.o
  refine h ep _ (tG I (by rw[g];exact True.intro) n ⟨e,d⟩ (nO x ⟨e,ar,d,h2,i,?_⟩))
  rw[q]
  exact uM (aK5 y f)
 ·have l:xs.length<=sizeLine:=by rw[<-Paired.length f];exact r
  refine wpAny_dictSet_pairs p dd (fun h' c n=>?_) l
  obtain ⟨e,ar,ep,d,h2,i,q,t,_⟩:=c
  obtain ⟨j,g⟩:=D.o
  refine h ep _ (tG I (by rw[g];exact True.intro) n ⟨e,d⟩ (nO x ⟨e,ar,d,h2,i,?_⟩))
  exact uN (aK7 y f) t fun z m=>q z (by simpa using m)
end
abbrev TP:=L2.St->Hp->(List (V×V)->Hp->Prop)->Prop
def aPR(p:V×V)(u:Value×Value):Prop:=bJ p.1 u.1/\bJ p.2 u.2
def PPr(X:Cx)(keys:List (Option Expr))(vals:List Expr)(t:TP):Prop:=∀ (pos:Pos) (pins:List (Addr×Obj)) (s:Shared) (σ:L2.St) (H:Hp) (Q:List (V×V)->Hp->Prop),Inv X pins σ H s->t σ H Q->
 wpAny (model X.prog X.w) X.A (evalPairs (pairTrees keys vals X.env pos)) (fun vs s'=>∃ ps H',Inv X pins σ H' s'/\Paired aPR ps vs/\Q ps H') X.xe s
def aRV:TP:=fun _ H Q=>Q [] H
def aPS(tk tv:TE)(t:TP):TP:=fun σ H Q=>tk σ H fun x H1=>tv σ H1 fun y H2=>t σ H2 fun ps H3=>Q ((x,y)::ps) H3
section
variable{X:Cx}{c:Ct}{E:XK}{e a b:Expr}{st:Stmt}{pos:Pos}
theorem aPT:PPr X [] [] aRV:=fun pos pins s σ H Q I h=>evalPairs_nil ⟨[],H,I,.nil,h⟩
theorem aMP{k v:Expr}{ks:List (Option Expr)}{vs:List Expr}{tk tv:TE}{t:TP}(m:PE X k tk)(b:PE X v tv)(f:PPr X ks vs t):PPr X (some k::ks) (v::vs) (aPS tk tv t):=by
 intro pos pins s σ H Q I h
 rw[pairTrees.eq_1]
 refine evalPairs_cons (thn (m pins s σ H _ I h) fun ku s1 a=>?_)
 obtain ⟨x,H1,l,r1,e⟩:=a
 refine AA (thn (b pins s1 σ H1 _ l e) fun o d a=>?_)
 obtain ⟨y,H2,c,r2,j⟩:=a
 refine AA (CI (AC ?_))
 exact thn (f pos pins d σ H2 _ c j) fun vs p ⟨ps,H3,i,n,g⟩=>⟨(x,y)::ps,H3,i,.cons ⟨r1,r2⟩ n,g⟩
noncomputable def iL:List (PyData×PyData)->List (PyData×PyData)->R (List (PyData×PyData))
 | acc,[]=>.ok acc
 | acc,(k,v)::t=>if cI k (acc.map (·.1))=true/\acc.length<=16777216 then iL (putM acc k v) t else .bad
def aJT(K:Frag)(F:Hp)(p:V×V)(d:PyData×PyData):Prop:=DatV K F p.1 d.1/\DatV K F p.2 d.2
theorem aHS{pins:List (Addr×Obj)}{σ:L2.St}{p:Addr}{F:Hp}(J:X.A.units+64 < cLine)(b:List (PyData×PyData)):∀ (ps:List (V×V)) (vs:List (Value×Value)) (acc res:List (PyData×PyData)) (es:List Ent) (ep:Nat) (H:Hp) (s:Shared) (Q:Shared->Prop),
  Inv X pins σ H s->aO F H->F p=none->H p=some (dZ X.w p es ep)->MapRel X.K F es acc->Paired (aJT X.K F) ps b->Paired aPR ps vs->iL acc b=.ok res->
  (∀ es' ep' s',Inv X pins σ (upd H p (dZ X.w p es' ep')) s'->MapRel X.K F es' res->Q s')->wpAny (model X.prog X.w) X.A (storeAll p vs) (fun _ s=>Q s) X.xe s:=by
 induction b with
 | nil=>
  intro ps vs acc res es ep H s Q I f i n m d r e q
  cases d
  cases r
  cases e
  have g:storeAll p []=pure PUnit.unit:=by unfold storeAll;rw[List.forIn_nil]
  rw[g]
  refine AC (q es ep s ?_ m)
  have:upd H p (dZ X.w p es ep)=H:=by
   funext x
   by_cases z:x=p
   ·subst z;rw[aX,n]
   ·rw[aG z]
  rw[this];exact I
 | cons kv t ih=>
  obtain ⟨k,v⟩:=kv
  intro ps vs acc res es ep H s Q I f i n m d r e q
  cases d with
  | @cons x _ ps _ d ds=>
   cases r with
   | @cons _ u _ vs r rs=>
    unfold iL at e
    split at e
    ·rename_i g
     have D:DicAt X H p es k x.1:=⟨⟨ep,n⟩,fun e E=>(oR m.k1 m.k2 e E).same f,by rw[m.k1];exact m.nd,d.1.same f,by rw[m.k1];exact g.1⟩
     have G:es.length<=sizeLine:=by
      have:es.length=acc.length:=by simpa using congrArg List.length m.k1
      rw[this,dI];exact g.2
     have B:storeAll p (u::vs)=(do dictSet p u.1 u.2;storeAll p vs):=by
      unfold storeAll
      rw[DC]
      simp
     rw[B]
     refine AA (aMO J D I r.1 r.2 G fun l s' C=>?_)
     have L:=m.put d.1 d.2
     have j:aO F (upd H p (dZ X.w p (o3 es k x.1 x.2) l)):=fun a o z=>by rw[aG (bU z i)];exact f a o z
     refine ih ps vs _ res _ _ _ s' Q C j i aX L ds rs e fun es' ep' h c y=>?_
     rw[tD] at c
     exact q es' ep' h c y
    ·cases e
def aLE(X:Cx)(tp:TP):TE:=fun σ H Q=>∀ p,H p=none->tp σ (upd H p (dZ X.w p [] 0)) fun ps H2=>∃ (F:Hp) (kvs res:List (PyData×PyData)),aO F H2/\F p=none/\H2 p=some (dZ X.w p [] 0)/\Paired (aJT X.K F) ps kvs/\iL [] kvs=.ok res /\
 ∀ es' ep',MapRel X.K F es' res->Q (.ref p) (upd H2 p (dZ X.w p es' ep'))
theorem aDV{b:List (Option Expr)}{c:List Expr}{l:TP}(C:X.A.units+64 < cLine)(h:PPr X b c l)(h1:(b.all fun x=>x.isSome)=true:=by rfl)(h2:b.length=c.length:=by rfl)(h3:b≠[]:=by exact fun z=>nomatch z)(h4:b.length<=15:=by decide):PE X (.Dict b c pos) (aLE X l):=by
 intro pins s σ H Q I q
 have D:=I.laid (a:=s.heap.objs.size) (o:=dZ X.w s.heap.objs.size [] 0) (t':=s.toks) (fun _ _ q=>AJ {cls:=.type "dict",data:=.dict #[]} q) (AG _)
  (nO (C5.mpr (BX (BB I.big))) ⟨_,#[],A9 _ rfl,⟨rfl,rfl,rfl⟩,rfl,.nil⟩)
 have u:=q _ (I.hok.fresh (AG _))
 refine wpAny_Dict_any h1 h2 h3 h4 (thn (h pos pins _ σ _ _ D u) fun vs t g=>?_)
 obtain ⟨ps,H2,p,r,F,i,f,B,n,y,d,e,z⟩:=g
 exact aHS C i ps vs [] f [] 0 H2 t _ p B n y ⟨rfl,.nil,.nil,D1⟩ d r e fun k j s' v m=>⟨.ref s.heap.objs.size,_,v,rfl,z k j m⟩
def aPU(c:Ct)(E:XK)(f:Sg->R (List (PyData×PyData))):TP:=fun σ H Q=>∃ ρ F,Ab c ρ σ F H/\Rk c E F H (f ρ) fun kvs=>∀ ps F' H',Ext F H F' H'->Paired (aJT c.K F') ps kvs->Q ps H'
abbrev PPf(X:Cx)(c:Ct)(E:XK)(keys:List (Option Expr))(vals:List Expr)(f:Sg->R (List (PyData×PyData))):Prop:=PPr X keys vals (aPU c E f)
theorem PPr.imp{X:Cx}{ks:List (Option Expr)}{vs:List Expr}{t t':TP}(h:PPr X ks vs t)(i:∀ σ H Q,t' σ H Q->t σ H Q):PPr X ks vs t':=fun pos pins s σ H Q I q=>h pos pins s σ H Q I (i σ H Q q)
noncomputable def aBG:Sg->R (List (PyData×PyData)):=fun _=>.ok []
def v7(f g:Sg->R PyData)(r:Sg->R (List (PyData×PyData))):Sg->R (List (PyData×PyData)):=fun ρ=>(f ρ).bind fun x=>(g ρ).bind fun y=>(r ρ).bind fun t=>.ok ((x,y)::t)
theorem aDW:PPf X c E [] [] aBG:=PPr.imp aPT fun σ H Q ⟨ρ,F,ab,k⟩=>Rk.ok k [] F H (Ext.refl ab.fh) .nil
theorem aBH{k v:Expr}{ks:List (Option Expr)}{vs:List Expr}{f g:Sg->R PyData}{r:Sg->R (List (PyData×PyData))}(i:PD X c E k f)(e:PD X c E v g)(h:PPf X c E ks vs r):PPf X c E (some k::ks) (v::vs) (v7 f g r):=PPr.imp (aMP i e h) fun σ H Q b=>by
 obtain ⟨ρ,F,ab,k⟩:=b
 refine ⟨ρ,F,ab,(Rk.bind k).imp fun x _ q v m H1 s1 r1=>?_⟩
 refine ⟨ρ,m,ab.ext s1,((Rk.bind q).ext s1).imp fun y _ q u l H2 a r2=>?_⟩
 refine ⟨ρ,l,ab.ext (s1.trans a),((Rk.bind q).ext (s1.trans a)).imp fun t _ q ps n H3 d j=>?_⟩
 exact Rk.ok q _ n H3 ((s1.trans a).trans d) (.cons ⟨DatV.same (a.trans d).ff r1,DatV.same d.ff r2⟩ j)
noncomputable def v9(i:Nat)(f:Sg->R (List (PyData×PyData))):Sg->R Fw:=fun ρ=>(f ρ).bind fun kvs=>(iL [] kvs).bind fun res=>.ok (.nx (ρ.set i (some (.m res))))
theorem y8:∀ (kvs acc:List (PyData×PyData)) (x:Er),iL acc kvs≠.ex x
 | [],acc,x,h=>by cases h
 | (k,v)::t,acc,x,h=>by
  unfold iL at h
  split at h
  · exact y8 t _ x h
  · cases h
theorem aDX{i:Nat}{f:Sg->R (List (PyData×PyData))}(v:X.K=c.K)(y:X.w=c.w)(h:PS X st (kG (aLE X (aPU c E f)) (j3 i))):PSf X c E st (v9 i f):=PS.imp h fun D σ H ⟨ρ,F,ab,k⟩=>fun p g=>by
 have e1:=Ext.own (F:=F) (o:=dZ X.w p [] 0) ab.fh g
 refine ⟨ρ,F,ab.ext e1,((Rk.bind k).ext e1).imp fun d _ q ps j H2 b r2=>?_⟩
 have l:j p=none:=b.stay (bW ab.fh g) aX (fun _ z=>aA3 z)
 have h2:H2 p=some (dZ X.w p [] 0):=b.hh _ _ aX
 cases e:iL [] d with
 | bad=>rw[e] at q;exact q.elim
 | ex x=>exact absurd e (y8 _ _ _)
 | ok res=>
  rw[e] at q
  refine ⟨j,d,res,b.fh,l,h2,by rw[v];exact r2,e,fun s r m=>?_⟩
  have t:Ext F H j (upd H2 p (dZ X.w p s r)):=by
   refine ⟨fun a o z=>?_,b.ff,fun a o z=>?_,fun a z n=>?_⟩
   ·have u:a≠p:=bU z g
    rw[aG u]
    exact b.hh a o (by rw[aG u];exact z)
   ·rw[aG (bU z l)];exact b.fh a o z
   ·have:=b.nw a z n
    by_cases w:a=p
    · subst w; exact .inl g
    · unfold nJ at this; rw [aG w] at this; exact this
  rw[y] at t ⊢
  rw[v] at m
  exact Rk.ok q _ j _ b.ff (ab.setM t g aX l m)
end
section
variable{X:Cx}{c:Ct}{E:XK}{e a b:Expr}{st:Stmt}{pos:Pos}
noncomputable def aPV(i:Nat)(f g:Sg->R PyData):Sg->R PyData:=fun ρ=>match ρ[i]? with
 | some (some (.m kvs))=>(f ρ).bind fun k=>(g ρ).bind fun y=>if cI k (kvs.map (·.1))=true then .ok ((fZ kvs k).getD y) else .bad
 | _=>.bad
end
section
variable{X:Cx}{c:Ct}{E:XK}
end
section
variable{X:Cx}{c:Ct}{E:XK}{e:Expr}{P:Program}{w:World}{base:Heap}
end
end Fl
namespace L2
open PySem PySem.Spec PyProof.Rows
theorem cN.got{P:Program}{w:World}{H:Hp}{h:Heap}{a:Addr}{o:HO}(x:cN P w H h a o):∃ u,h.get? a=some u:=by
 cases o with
 | lst xs=>obtain ⟨_,_,_,_,e⟩:=x;exact ⟨_,e⟩
 | tup xs=>obtain ⟨_,_,_,⟨o,e,_⟩⟩:=x;exact ⟨_,e⟩
 | dK kvs=>obtain ⟨_,_,_,_,o,_,_,e,_⟩:=x;exact ⟨_,e⟩
 | dT kvs=>obtain ⟨_,_,_,_,o,_,_,e,_⟩:=x;exact ⟨_,e⟩
 | set S n=>obtain ⟨o,_,_,_,e,_⟩:=x;exact ⟨_,e⟩
 | ins C dx fs=>obtain ⟨_,_,_,e,_⟩:=x;exact ⟨_,e⟩
 | own y=>exact x
 | xd fs=>obtain ⟨_,⟨_,_,_,e,_⟩,_⟩:=x;exact ⟨_,e⟩
 | rng lo hi=>obtain ⟨_,_,_,e⟩:=x;exact ⟨_,e⟩
 | frz ob u=>exact ⟨_,x.1⟩
 | tbl ps=>obtain ⟨_,e,_⟩:=x;exact ⟨_,e⟩
 | cod q=>obtain ⟨c,o,vs,t,e,b,_⟩:=x;cases e;exact ⟨_,b⟩
 | met f y=>exact ⟨_,x⟩
 | ext φ=>exact x.2.1
theorem HOk.free{P:Program}{w:World}{H:Hp}{h:Heap}{a:Addr}(x:HOk P w H h)(e:h.get? a=none):H a=none:=by
 cases q:H a with
 | none=>rfl
 | some u=>
  obtain ⟨o,z⟩:=(x a u q).got
  rw[e] at z;cases z
theorem Inv.laidN{X:Cx}{pins:List (Addr×Obj)}{σ:St}{H:Hp}{s:Shared}{h':Heap}{a:Addr}{o:HO}{t':Nat}(I:Inv X pins σ H s)(k:∀ b u,s.heap.get? b=some u->h'.get? b=some u)(g:s.heap.get? a=none)(new:cN X.prog X.w (upd H a o) h' a o) :
  Inv X pins σ (upd H a o) {s with heap:=h',toks:=t'}:=by
 have d:H a=none:=I.hok.free g
 refine I.un ⟨fun b u q _ _ _=>k b u q,fun b u q _ _ _=>⟨u.slots,k b u q⟩,fun b u q n _=>?_,fun b u q _=>⟨u,k b u q⟩,fun b xs q=>by rw[aG (bU q d)];exact q,fun b u xs q=>by rw[aG (bU q d)];exact q,fun b ps q=>by rw[aG (bU q d)];exact q⟩ fun b u e=>?_
 ·rw[aG (fun z=>by rw[z,g] at q;cases q)];exact n
 ·by_cases f:b=a
  ·subst f;rw[aX] at e;cases e;exact new
  ·rw[aG f] at e
   exact (I.hok b u e).stay (fun c v _ q=>k c v q) (fun c q=>by rw[aG (bU q d)];exact q) (fun c xs q=>by rw[aG (bU q d)];exact q) fun c xs q=>by rw[aG (bU q d)];exact q
structure ErrP(K:Frag)(mg:Str->Option Value)(x:Str)(W C:Addr):Prop where
 c:SX.ExcC K W C
 m:mg x=some (.ref C)
 lk:∃ nm q N bs sn sub ab col dd k0 k1 k2 k3 k5,K.lookup C=some (excClassObj nm q C N bs (.ref W::SX.jE) true sn sub ab col dd k0 k1 k2 k3 k5 "ValueError.__new__")/\PySem.W.nsOkIn K N=true/\PySem.W.nsIn K N "__init__"=some none
 lw:∃ c0 dd cd sl,K.lookup W=some ⟨c0,dd,.cls cd,sl⟩/\PySem.W.nsOkIn K cd.ns=true/\PySem.W.nsIn K cd.ns "__init__"=some none
def xU(C:Addr)(E:XK)(ta:TA):TS:=fun _ σ H=>ta σ H fun vs H1=>vs.length<=1000/\∀ e,H1 e=none->E (.ref C) (some e) (upd H1 e (ExO e C none))
theorem aLF{K:Frag}{h:Heap}{N:Addr}{n:Str}(X:K.In h)(a:PySem.W.nsOkIn K N=true)(b:PySem.W.nsIn K N n=some none):∃ m,h.Ns N m/\m n=none:=by
 have:=Heap.Ns.of_isNs (PySem.W.isNs_of_in X a)
 exact ⟨_,this,PySem.W.ns_none_of X this b⟩
section
variable{X:Cx}{E:XK}{W C:Addr}{x:Str}{np cpos pos:Pos}{e0:Expr}{rest:List Expr}{ta:TA}
theorem y9(L:X.calm=true)(j:ErrP X.K X.mg x W C)(O:Gl X x)(U:PA (X.fly E) (e0::rest) ta)(u:(x == ("__debug__":Str))=false:=by decide)
  (he:starEach (e0::rest) X.env=(false,eval e0 X.env)::starEach rest X.env:=by rfl) (hpl:(backTo cpos (starEach rest X.env)).any (·.1)=false:=by rfl) :
  PS (X.fly E) (.Raise (some (.Call (.Name x np) (e0::rest) [] cpos)) none pos) (xU C E ta):=by
 intro pins s σ H D I h
 obtain ⟨nm,q,N,bs,sn,sub,ab,col,dd,k0,k1,k2,k3,k5,lk,J,o⟩:=j.lk
 obtain ⟨c0,dw,cd,sl,lw,k,y⟩:=j.lw
 have b:wpAny (model X.prog X.w) X.A (eval (.Call (.Name x np) (e0::rest) [] cpos) X.env) (fun v s1=>∃ e od vs,v=.ref e/\s1.heap.get? C=some (excClassObj nm q C N bs (.ref W::SX.jE) true sn sub ab col dd k0 k1 k2 k3 k5 "ValueError.__new__") /\
   s1.heap.get? e=some {cls:=.ref C,dict:=od,data:=.fields vs}/\vs[1]? = some .none/\Fly X E (.ref e) s1) (Fly X E) s:=by
  refine CW (pA (X:=X) I.unwish O j.m ?_ u)
  refine DR (h₀:=X.base) I.ok.mod.kin j.c.kp (thn (U cpos pins s σ H _ I h) fun us s1 ⟨vs,H1,i,r,V,Q⟩=>⟨i.kIn,?_⟩) he hpl
  have G:Inv X pins σ H1 s1:=i.unwish
  obtain ⟨F,g,d,tk,os⟩:=s1
  have n:us.length<=sizeLine:=by rw[<-r.length,EE];omega
  have kin:X.K.In F:=G.kIn
  obtain ⟨Z,T,B⟩:=aLF kin J o
  obtain ⟨Y,R,l⟩:=aLF kin k y
  refine wpAny_call_exc_subT FP (.own (kin _ _ lw) R l .base) (kin _ _ lk) T B (fun h' e a=>?_) n
  obtain ⟨t,f,_,_⟩:=a.there
  have M:Inv X pins σ (upd H1 e (ExO e C none)) ⟨h',g,d,tk,os⟩:=G.laidN (t':=tk) a.keeps a.new (aAK f)
  have S:=Q e (G.hok.free a.new)
  have P:Inv X [] σ (upd H1 e (ExO e C none)) ⟨h',g,d,tk,os⟩:=M.pins_of fun p F=>absurd F (by simp)
  exact ⟨e,none,_,rfl,M.kIn _ _ lk,f,rfl,e,C,none,σ,_,rfl,P,⟨aX,_,none,f,rfl,(fun t z=>nomatch z),(fun z=>nomatch z)⟩,S⟩
 show wpAny (model X.prog X.w) X.A (exec (.Raise (some (.Call (.Name x np) (e0::rest) [] cpos)) none pos) X.env) _ (Fly X E) s
 rw[arm_exec_Raise]
 first
  | refine AA (CI (SX.nH (SX.aAJ W) (I.ok.hd L) (AA (BU b (fun v s1 h1=>AA (CI (AC h1))) fun _ _ z=>z))))
  | (simp only[evalOpt,Option.map];refine AA (CI (SX.nH (SX.aAJ W) (I.ok.hd L) (AA (BU b (fun v s1 h1=>AA (CI (AC h1))) fun _ _ z=>z)))))
end
def few(i:Int):Prop:=i=40\/i=60\/i=200\/i=300
theorem aMQ{i:Int}(h:few i):(Str.ofString (toString i)).length<=10/\i.natAbs.log2 < 1920:=by
 rcases h with rfl|rfl|rfl|rfl<;>decide +kernel
theorem j9(x y:Str):(x++y).length=x.length+y.length:=by
 show (x.cps++y.cps).size=x.cps.size+y.cps.size
 simp
def aPW(ta:TE):TE:=fun σ H Q=>ta σ H fun x H1=>∃ i:Int,x=.int i/\few i/\∀ z:Str,Q (.str z) H1
theorem aPX{X:Cx}{v:Expr}{ta:TE}{a b:Str}{k1 k2:Nat}{p1 p2 o pos:Pos}(f:PE X v ta)(B:a.length<=1000:=by decide)(hb:b.length<=1000:=by decide) :
  PE X (.JoinedStr [.Constant (.str a) k1 p1,.FormattedValue v (-1) none p2,.Constant (.str b) k2 o] pos) (aPW ta):=by
 intro pins s σ H Q I h
 have t:sizeLine=16777216:=rfl
 have d:(Str.empty).length=0:=rfl
 refine wpAny_JoinedStr (Joins_cons (thn (vI (X:=X) pins s σ H (fun y H1=>y=.str a/\H1=H) I ⟨rfl,rfl⟩) fun u s1 c=>?_))
 obtain ⟨y,H1,r,r1,e1,e2⟩:=c
 subst e1 e2
 obtain ⟨k,rfl⟩:=r1
 refine ⟨a,k,rfl,by rw[j9,d];omega,Joins_cons (wpAny_FormattedValue_plain (thn (f pins s1 σ _ _ r h) fun u w c=>?_))⟩
 obtain ⟨y,H2,j,r2,i,e,g,q⟩:=c
 subst e
 obtain ⟨A,rfl⟩:=r2
 obtain ⟨x,l⟩:=aMQ g
 refine wpAny_formatField_int l ⟨_,_,rfl,by rw[j9,j9,d];omega,Joins_cons (thn (vI (X:=X) pins _ σ H2 (fun y H1=>y=.str b/\H1=H2) (j.tok _) ⟨rfl,rfl⟩) fun u z c=>?_)⟩
 obtain ⟨y,H3,m,p,e1,e2⟩:=c
 subst e1 e2
 obtain ⟨n,rfl⟩:=p
 refine ⟨b,n,rfl,by rw[j9,j9,j9,d];omega,Joins_nil ⟨by rw[j9,j9,j9,d];omega,?_⟩⟩
 exact ⟨.str _,_,m.tok _,⟨_,rfl⟩,q _⟩
end L2
namespace Fl
open PySem L2 PyProof.Rows
instance (i:Int):Decidable (few i):=by unfold few;infer_instance
def aMR(cn:Str)(f:Sg->R (List PyData)):Sg->R Fw:=fun ρ=>(f ρ).bind fun xs=>if xs.length<=1000 then .ex ⟨cn,[]⟩ else .bad
def xV(cn:Str)(g:Sg->R PyData):Sg->R Fw:=fun ρ=>(g ρ).bind fun x=>match x with
 | .int i=>if few i then .ex ⟨cn,[]⟩ else .bad
 | _=>.bad
section
variable{X:Cx}{c:Ct}{E:XK}{st:Stmt}{cn:Str}{C:Addr}
theorem y9{f:Sg->R (List PyData)}(g:c.mg cn=some (.ref C))(h:PS X st (xU C E (tAd c E f))):PSf X c E st (aMR cn f):=PS.imp h fun D σ H a=>by
 obtain ⟨ρ,F,ab,k⟩:=a
 refine ⟨ρ,F,ab,(Rk.bind k).imp fun xs _ q vs i H1 s1 r1=>?_⟩
 by_cases b:xs.length<=1000
 ·rw[AD b] at q
  exact ⟨by rw[r1.length];exact b,fun e d=>q e C _ _ ((ab.all.trans s1).trans (Ext.new s1.fh d)) ⟨g,none,aX,.inl ⟨rfl,rfl⟩⟩⟩
 ·rw[AE b] at q;exact q.elim
theorem aHT{g:Sg->R PyData}(d:c.mg cn=some (.ref C))(h:PS X st (xU C E (dU (aPW (tV (b7 c) c E g)) iS))):PSf X c E st (xV cn g):=PS.imp h fun D σ H ⟨ρ,F,ab,k⟩=>by
 refine ⟨ρ,F,ab,(Rk.bind k).imp fun x f q v j H1 s1 r1=>?_⟩
 clear f
 split at q
 ·rename_i i
  split at q
  ·rename_i a
   obtain rfl:=bE.int_of r1
   exact ⟨i,rfl,a,fun z=>⟨by show 1<=1000;decide,fun e b=>q e C _ _ ((ab.all.trans s1).trans (Ext.new s1.fh b)) ⟨d,none,aX,.inl ⟨rfl,rfl⟩⟩⟩⟩
  ·exact q.elim
 ·exact q.elim
end
end Fl
namespace L2
open PySem
noncomputable def aPY(e:DictEntry):Bool:=match e.key with
 | .str _ _=>true
 | _=>false
theorem aDY{K:Frag}{N:Addr}{cl:Value}{d:Option Addr}{es:Array DictEntry}{ep:Nat}{sl:Array (Option Value)}(l:K.lookup N=some ⟨cl,d,.dict es ep,sl⟩)(h:es.toList.all aPY=true):PySem.W.nsOkIn K N=true:=by
 unfold PySem.W.nsOkIn
 rw[show List.lookup N K=some ⟨cl,d,.dict es ep,sl⟩ from l]
 show es.all _=true
 rw[<-Array.all_toList]
 exact h
end L2
namespace Fl
open PySem L2 PyProof.Rows
end Fl
namespace HT
open PySem PySem.Spec PyProof.Rows L2
end HT
namespace Fl
open PySem L2 PyProof.Rows
def FnK(K:Frag)(H:Hp)(f:Addr):Prop:=PySem.W.keepIn K (.ref f)=true\/∃ oc od fd sl,H f=some (FnO f ⟨oc,od,.func fd,sl⟩)
theorem FnK.same{K:Frag}{H H':Hp}{f:Addr}(s:aO H H')(h:FnK K H f):FnK K H' f:=h.imp id fun ⟨a,od,fd,sl,e⟩=>⟨a,od,fd,sl,s _ _ e⟩
def aBI(X:Cx)(i:Nat)(E:XK)(t:TA):TE:=fun σ H Q=>∃ f,σ[i]? = some (some (.ref f))/\FnK X.K H f/\t σ H fun vs H1=>FnK X.K H1 f/\∃ k fd ps sp,Room k X.A/\FnOk X.prog X.w X.K X.mg X.base (CXe X.prog X.w) k f fd ps sp/\gQ X.K fd ps []/\sp vs H1 Q E
theorem aBJ{X:Cx}{i:Nat}{x:Str}{E:XK}{p pos:Pos}{e:Expr}{es:List Expr}{t:TA}(G:PE X (.Name x p) (iR i))(hx:mQ (CXe X.prog X.w) X E)(z:PA X (e::es) t)
  (y:starEach (e::es) X.env=(false,eval e X.env)::starEach es X.env:=by rfl) (hpl:(backTo pos (starEach es X.env)).any (·.1)=false:=by rfl):PE X (.Call (.Name x p) (e::es) [] pos) (aBI X i E t):=by
 intro pins s σ H Q I h
 obtain ⟨f,D,d,h⟩:=h
 refine CW (thn (G pins s σ H (fun v H'=>v=.ref f/\H'=H) I ⟨_,D,rfl,rfl⟩) fun u B l=>?_)
 obtain ⟨v,j,b,J,e1,e2⟩:=l
 subst e1 e2
 obtain rfl:u=Value.ref f:=J
 have g:∀ (us:List Value) (s1:Shared),AP X pins σ (fun vs H1=>FnK X.K H1 f/\∃ k fd ps sp,Room k X.A/\FnOk X.prog X.w X.K X.mg X.base (CXe X.prog X.w) k f fd ps sp/\gQ X.K fd ps []/\sp vs H1 Q E) us s1->
   (∃ H1,Inv X pins σ H1 s1/\FnK X.K H1 f)/\wpAny (model X.prog X.w) X.A (call (.ref f) us) (EP X pins σ Q) X.xe s1:=by
  rintro us s1 ⟨vs,H1,c,r,a,k,fd,ps,sp,hr,F,hb,q⟩
  refine ⟨⟨H1,c,a⟩,aGK (dvs:=[]) (ds:=[]) F hr hb .nil hx c r ?_⟩
  rw[B9];exact q
 rcases d with d|⟨n,od,fd,sl,d⟩
 ·refine DR (h₀:=X.base) b.ok.mod.kin d (thn (z pos pins B σ j _ b h) fun us s1 m=>?_) y hpl
  obtain ⟨⟨H1,c,_⟩,q⟩:=g us s1 m
  exact ⟨c.kIn,q⟩
 ·refine PySem.W.callWith_F ⟨n,od,fd,sl,FnO.get b.hok d⟩ (thn (z pos pins B σ j _ b h) fun us s1 m=>?_) y hpl
  obtain ⟨⟨H1,c,a⟩,q⟩:=g us s1 m
  refine ⟨?_,q⟩
  rcases a with a|⟨n,od,fd,sl,a⟩
  ·cases e:X.K.lookup f with
   | none=>unfold PySem.W.keepIn at a;dsimp only at a;rw[e] at a;cases a
   | some o=>
    have e1:=c.kIn f o e
    exfalso
    have e2:=b.kIn f o e
    obtain ⟨o',h1,h2⟩:∃ o',j f=some (FnO f o')/\True:=⟨_,d,trivial⟩
    have C:=b.bs f o (b.ok.mod.kin f o e)
    rw[C.2] at h1;cases h1
  ·exact ⟨n,od,fd,sl,FnO.get c.hok a⟩
def aBK(m i:Nat)(f:Sg->R (List PyData)):Sg->R PyData:=fun ρ=>match ρ[i]? with
 | some (some (.g k n G))=>(f ρ).bind fun ds=>if k<=m/\ds.length=n then G ds else .bad
 | _=>.bad
theorem aPZ{X:Cx}{c:Ct}{E:XK}{e:Expr}{m i:Nat}{T:Hp}{f:Sg->R (List PyData)}(D:c.g=gOf X.prog X.w X.K X.mg X.base T)(y:X.K=c.K)(J:X.mg=c.mg)(L:Room m X.A)(h:PE X e (aBI X i E (tAd c E f))):PD X c E e (aBK m i f):=PE.imp h fun σ H Q ⟨ρ,F,ab,k⟩=>by
 unfold aBK at k
 split at k
 ·rename_i p n G hi
  obtain ⟨v,I,N⟩:=ab.slot i _ hi
  obtain ⟨s,S,rfl,s1,B⟩:=(show AF c.g c.K c.mg F (.g p n G) v from N)
  rw[D] at B
  obtain ⟨fd,ps,M,W,P,Y⟩:=(show Beh X.prog X.w X.K X.mg X.base T s S p n G from B)
  have j:∀ b H',aO F b->aO b H'->FnK X.K H' s:=fun b H' U V=>Y.imp id fun ⟨O,od,fd,sl,e⟩=>⟨O,od,fd,sl,V _ _ (U _ _ (s1 _ _ e))⟩
  refine ⟨s,I,j F H (cO F) ab.fh,ρ,F,ab,(Rk.bind k).imp fun ds _ q vs b H' e1 r=>?_⟩
  refine ⟨j b H' e1.ff e1.fh,?_⟩
  by_cases l:p<=m/\ds.length=n
  ·rw[AD l] at q
   refine ⟨p,fd,ps,_,L.mono l.1,P,W,b,ds,fun a o z=>e1.ff a o (s1 a o z),fun a o z=>e1.ff a o (ab.f0 a o (ab.t0 a o (by rw[D];exact z))),e1.fh,by rw[y];exact r,l.2,?_⟩
   cases u:G ds with
   | bad=>rw[u] at q;exact q
   | ok d=>rw[u] at q;exact fun v t H2 e2 r2=>Rk.ok q v t H2 (e1.trans e2) (by rw[y] at r2;exact r2)
   | ex x=>rw[u] at q;exact fun a C t H2 e2 r2=>q a C t H2 ((ab.all.trans e1).trans e2) (by rw[y,J] at r2;exact r2)
  ·rw[AE l] at q;exact q.elim
 ·exact k.elim
noncomputable def tP:PyData->Bool
 | .none=>true
 | .bool _=>true
 | .int _=>true
 | .str _=>true
 | _=>false
theorem aJU{K:Frag}{F a:Hp}{v:V}{d:PyData}(h:tP d=true)(r:DatV K F v d):DatV K a v d:=by
 cases d with
 | none=>cases r;exact .non
 | bool b=>cases r;exact .bl b
 | int i=>cases r;exact .int i
 | str x=>cases r;exact .str x
 | list xs=>cases h
 | tuple xs=>cases h
 | dict xs=>cases h
def mK(K:Frag)(F H:Hp):List V->List PyData->Prop
 | [],[]=>True
 | v::vs,d::ds=>bE K F H v d/\mK K F H vs ds
 | _,_=>False
theorem mK.ext{K:Frag}{F H F' H':Hp}(e:Ext F H F' H'):∀ {vs:List V} {ds:List PyData},mK K F H vs ds->mK K F' H' vs ds
 | [],[],_=>trivial
 | v::vs,d::ds,h=>⟨bE.ext e h.1,mK.ext e h.2⟩
theorem mK.len{K:Frag}{F H:Hp}:∀ {vs:List V} {ds:List PyData},mK K F H vs ds->vs.length=ds.length
 | [],[],_=>rfl
 | v::vs,d::ds,h=>by rw[AW,AW,mK.len h.2]
def tAr(c:Ct)(E:XK)(f:Sg->R (List PyData)):TA:=fun σ H Q=>∃ ρ F,Ab c ρ σ F H/\Rk c E F H (f ρ) fun ds=>∀ vs F' H',Ext F H F' H'->mK c.K F' H' vs ds->Q vs H'
theorem aMS{X:Cx}{c:Ct}{E:XK}:PA X [] (tAr c E aM):=PA.imp aU fun σ H Q ⟨ρ,F,ab,k⟩=>Rk.ok k [] F H (Ext.refl ab.fh) trivial
theorem aBL{X:Cx}{c:Ct}{E:XK}{e:Expr}{es:List Expr}{f:Sg->R PyData}{g:Sg->R (List PyData)}(h:PR X c E e f)(h2:PA X es (tAr c E g))(d:starEach (e::es) X.env=(false,eval e X.env)::starEach es X.env:=by rfl):PA X (e::es) (tAr c E (aA f g)):=PA.imp (aJ h h2 d) fun σ H Q a=>by
 obtain ⟨ρ,F,ab,k⟩:=a
 refine ⟨ρ,F,ab,(Rk.bind k).imp fun x _ q v j H1 s1 r1=>⟨ρ,j,ab.ext s1,((Rk.bind q).ext s1).imp fun xs _ q vs i H2 b r2=>?_⟩⟩
 exact Rk.ok q (v::vs) i H2 (s1.trans b) ⟨bE.ext b r1,r2⟩
theorem aP0{K:Frag}{F H:Hp}(s:aO F H):∀ {vs:List V} {ds:List PyData},mK K F H vs ds->∃ FL,aO F FL/\aO FL H/\DatVs K FL vs ds
 | [],[],_=>⟨F,cO F,s,.nil⟩
 | v::vs,d::ds,h=>by
  obtain ⟨FL,a,b,r⟩:=aP0 s h.2
  rcases h.1 with q|⟨p,us,xs,rfl,rfl,h1,h2⟩
  ·exact ⟨FL,a,b,.cons (q.same a) r⟩
  ·refine ⟨fun x=>if x=p then some (.lst us) else FL x,fun x o z=>?_,fun x o z=>?_,?_⟩
   ·by_cases c:x=p
    ·subst c
     have:=s x o z
     rw[h1] at this;cases this
     exact AD rfl
    ·exact (AE c).trans (a x o z)
   ·by_cases c:x=p
    ·subst c
     have f:=(AD rfl).symm.trans z
     rw[h1];exact f
    ·exact b x o ((AE c).symm.trans z)
   ·have e:aO FL (fun x=>if x=p then some (.lst us) else FL x):=fun x o z=>by
     by_cases c:x=p
     ·subst c
      have:=b x o z
      rw[h1] at this;cases this
      exact AD rfl
     ·exact (AE c).trans z
    exact .cons (.lst (SqL.of (AD rfl)) (h2.same fun x o z=>e x o (a x o z))) (r.same e)
def wA(m i:Nat)(f:Sg->R (List PyData)):Sg->R PyData:=fun ρ=>match ρ[i]? with
 | some (some (.g k n G))=>(f ρ).bind fun ds=>if k<=m/\ds.length=n then (match G ds with | .ok d=>if tP d=true then .ok d else .bad|_=>.bad) else .bad
 | _=>.bad
theorem aMT{X:Cx}{c:Ct}{E:XK}{e:Expr}{m i:Nat}{T:Hp}{f:Sg->R (List PyData)}(D:c.g=gOf X.prog X.w X.K X.mg X.base T)(I:X.K=c.K)(hM:X.mg=c.mg)(Y:Room m X.A)(h:PE X e (aBI X i E (tAr c E f))):PD X c E e (wA m i f):=PE.imp h fun σ H Q ⟨ρ,F,ab,k⟩=>by
 unfold wA at k
 split at k
 ·rename_i t n G hi
  obtain ⟨v,W,L⟩:=ab.slot i _ hi
  obtain ⟨y,F1,rfl,s1,B⟩:=(show AF c.g c.K c.mg F (.g t n G) v from L)
  rw[D] at B
  obtain ⟨fd,ps,J,S,Z,U⟩:=(show Beh X.prog X.w X.K X.mg X.base T y F1 t n G from B)
  have l:∀ j H',aO F j->aO j H'->FnK X.K H' y:=fun j H' M P=>U.imp id fun ⟨N,od,fd,sl,e⟩=>⟨N,od,fd,sl,P _ _ (M _ _ (s1 _ _ e))⟩
  refine ⟨y,W,l F H (cO F) ab.fh,ρ,F,ab,(Rk.bind k).imp fun ds _ q vs j H' e1 r=>?_⟩
  refine ⟨l j H' e1.ff e1.fh,?_⟩
  by_cases s:t<=m/\ds.length=n
  ·rw[AD s] at q
   obtain ⟨V,a,b,O⟩:=aP0 e1.fh r
   refine ⟨t,fd,ps,_,Y.mono s.1,Z,S,V,ds,fun x o z=>a x o (e1.ff x o (s1 x o z)),fun x o z=>a x o (e1.ff x o (ab.f0 x o (ab.t0 x o (by rw[D];exact z)))),b,by rw[I];exact O,s.2,?_⟩
   cases C:G ds with
   | bad=>rw[C] at q;exact q
   | ok d=>
    rw[C] at q
    intro v F2 H2 e2 r2
    have p:Rk c E F H (if tP d=true then R.ok d else .bad) _:=q
    by_cases u:tP d=true
    ·rw[AD u] at p
     refine Rk.ok p v j H2 (e1.trans ⟨e2.hh,cO j,fun x o z=>e2.hh x o (e1.fh x o z),fun x z n=>absurd z n⟩) (by rw[I] at r2;exact aJU u r2)
    ·rw[AE u] at p;exact p.elim
   | ex x=>rw[C] at q;exact q.elim
  ·rw[AE s] at q;exact q.elim
 ·exact k.elim
theorem aMU{K:Frag}{F:Hp}{cs:List Addr}{a:Addr}{xs:List V}(b:Celd cs F)(h:SqL K F a xs):SqL K (hid cs F) a xs:=by
 rcases h with (h|⟨o,h⟩)|h
 · exact .inl (.inl (by rw [cD (b.out h fun _ v z => nomatch z)]; exact h))
 · exact .inl (.inr ⟨o, by rw [cD (b.out h fun _ v z => by unfold fC at z; cases z)]; exact h⟩)
 · exact .inr h
theorem aMV{K:Frag}{F:Hp}{cs:List Addr}{a:Addr}{xs:List V}(b:Celd cs F)(h:SqT K F a xs):SqT K (hid cs F) a xs:=by
 rcases h with (h|⟨o,h⟩)|h
 · exact .inl (.inl (by rw [cD (b.out h fun _ v z => nomatch z)]; exact h))
 · exact .inl (.inr ⟨o, by rw [cD (b.out h fun _ v z => by unfold fC at z; cases z)]; exact h⟩)
 · exact .inr h
mutual
theorem aDZ{K:Frag}{F:Hp}{cs:List Addr}(hc:Celd cs F):∀ {v:V} {d:PyData},DatV K F v d->DatV K (hid cs F) v d
 | _,_,.non=>.non
 | _,_,.bl b=>.bl b
 | _,_,.int i=>.int i
 | _,_,.str x=>.str x
 | _,_,.lst h r=>.lst (aMU hc h) (n9 hc r)
 | _,_,.tup h r=>.tup (aMV hc h) (n9 hc r)
 | _,_,.pl h=>.pl (by rw[cD (hc.out h fun _ v z=>nomatch z)];exact h)
theorem n9{K:Frag}{F:Hp}{cs:List Addr}(hc:Celd cs F):∀ {vs:List V} {ds:List PyData},DatVs K F vs ds->DatVs K (hid cs F) vs ds
 | _,_,.nil=>.nil
 | _,_,.cons h r=>.cons (aDZ hc h) (n9 hc r)
end
theorem aMW{e C b:Addr}{od:Option Addr}{o:Obj}{v:V}(h:ExO e C od=fC b o v):False:=by unfold ExO fC at h;cases h
theorem aJV{K:Frag}{mg:Str->Option Value}{F:Hp}{e:Er}{a C:Addr}{cs:List Addr}(b:Celd cs F)(h:lC K mg F e a C):lC K mg (hid cs F) e a C/\a∉cs:=by
 obtain ⟨m,od,h1,h2⟩:=h
 have c:=b.out h1 fun _ v z=>aMW z
 refine ⟨⟨m,od,by rw[cD c];exact h1,h2.imp id ?_⟩,c⟩
 rintro ⟨d,fvs,e1,e2,e3,e4⟩
 exact ⟨d,fvs,e1,by rw[cD (b.out e2 fun _ v z=>nomatch z)];exact e2,e3,n9 b e4⟩
theorem aBM{a:Cv}{H c:Hp}(s:aO (pub a H) c):Celd (dL a) c:=fun b d=>by
 obtain ⟨p,e⟩:=jA.mp d
 exact ⟨p.1,p.2,s _ _ (rS e)⟩
theorem aJW{a:Cv}{F H:Hp}(s:aO F H):aO (pub a F) (pub a H):=fun b o e=>by
 by_cases c:b∈dL a
 ·obtain ⟨p,q⟩:=jA.mp c
  rw[rS q] at e ⊢;exact e
 ·rw[fD c] at e ⊢;exact s b o e
theorem zA{c:Cv}{F H g H2:Hp}(f:∀ b∈dL c,H b=none)(s:aO F H)(e:Ext (pub c F) (pub c H) g H2):Ext F H (hid (dL c) g) (hid (dL c) H2):=by
 have h:∀ b∈dL c,F b=none:=fun b a=>bW s (f b a)
 have outH:∀ b o,H b=some o->b∉dL c:=fun b o q z=>by rw[f b z] at q;cases q
 have d:∀ b o,F b=some o->b∉dL c:=fun b o q z=>by rw[h b z] at q;cases q
 refine ⟨fun b o q=>?_,fun b o q=>?_,fun b o q=>?_,fun b q n=>?_⟩
 ·have a:=outH b o q
  rw[cD a];exact e.hh b o (by rw[fD a];exact q)
 ·have a:=d b o q
  rw[cD a];exact e.ff b o (by rw[fD a];exact q)
 ·obtain ⟨i,a⟩:=qA q
  rw[cD a];exact e.fh b o i
 ·by_cases a:b∈dL c
  ·exact absurd (pD a) n
  ·rw[cD a] at n
   have:=e.nw b (by rw[fD a];exact q) n
   unfold nJ at this ⊢
   rw[fD a] at this;exact this
noncomputable def dOf:R A->R PyData
 | .ok (.d x)=>.ok x
 | .ok _=>.bad
 | .ex e=>.ex e
 | .bad=>.bad
def CloOk(P:Program)(w:World)(K:Frag)(mg:Str->Option Value)(base:Heap)(T:Hp)(S:ClSt)(fr:List Str)(k n:Nat)(Gm:List A->List PyData->R PyData):Prop:=
 ∀ (F0 F1:Hp) (caps:List A) (cvs:List V) (f:Addr) (cl:List (Str×Addr)) (doc pm ct:Value) (cc:Addr),aO T F0->AFs (gOf P w K mg base T) K mg F0 caps cvs->aO F0 F1->
  F1 f=some (FnO f (S.obj cl doc pm cc ct))->F1 cc=some (.cod S.qual)->CapAt F1 fr cl cvs->(∀ c∈bG fr cl,F0 c=none)->Beh P w K mg base T f F1 k n (Gm caps)
theorem aD0{cs:List Addr}{F H d H2:Hp}(s:aO F H)(i:Celd cs F)(f:∀ c∈cs,H2 c=none)(e:Ext (hid cs F) (hid cs H) d H2):Ext F H (shw cs F d) (shw cs H H2)/\aO d (shw cs F d):=by
 have g:∀ c∈cs,d c=none:=fun c h=>bW e.fh (f c h)
 refine ⟨⟨fun b o q=>?_,fun b o q=>?_,fun b o q=>?_,fun b q n=>?_⟩,fun b o q=>?_⟩
 ·by_cases a:b∈cs
  ·rw[rR a];exact q
  ·rw[fB a];exact e.hh b o (by rw[cD a];exact q)
 ·by_cases a:b∈cs
  ·rw[rR a];exact q
  ·rw[fB a];exact e.ff b o (by rw[cD a];exact q)
 ·by_cases a:b∈cs
  ·rw[rR a] at q ⊢;exact s b o q
  ·rw[fB a] at q ⊢;exact e.fh b o q
 ·by_cases a:b∈cs
  ·obtain ⟨o,v,z⟩:=i b a
   rw[z] at q;cases q
  ·rw[fB a] at n
   have:=e.nw b (by rw[cD a];exact q) n
   unfold nJ at this ⊢
   rw[cD a] at this;exact this
 ·rw[fB fun z=>by rw[g b z] at q;cases q];exact q
theorem AFs.data{g:Gb}{K:Frag}{mg:Str->Option Value}{F:Hp}:∀ {vs:List V} {ds:List PyData},DatVs K F vs ds->AFs g K mg F (ds.map .d) vs
 | _,_,.nil=>trivial
 | _,_,.cons h r=>⟨h,AFs.data r⟩
theorem AFs.append{g:Gb}{K:Frag}{mg:Str->Option Value}{F:Hp}:∀ {as bs:List A} {vs us:List V},AFs g K mg F as vs->AFs g K mg F bs us->AFs g K mg F (as++bs) (vs++us)
 | [],_,[],_,_,h=>h
 | a::as,bs,v::vs,us,h,h2=>⟨h.1,AFs.append h.2 h2⟩
section
variable{P:Program}{w:World}{K:Frag}{mg:Str->Option Value}{base:Heap}{T:Hp}{S:ClSt}{N ps fr:List Str}{k:Nat}
theorem zB{e l F H:Hp}{a:List A}{cvs vs:List V}{ds:List PyData}{cl:List (Str×Addr)}(i:aO T e)(f:AFs (gOf P w K mg base T) K mg e a cvs)(j:aO e l)(g:aO l F)(h:aO F H)(C:CapAt l fr cl cvs)(k:∀ c∈bG fr cl,e c=none)(s:DatVs K F vs ds) :
  Celd (bG fr cl) F/\aO T (hid (bG fr cl) F)/\aO (hid (bG fr cl) F) (hid (bG fr cl) H)/\AFs (gOf P w K mg base T) K mg (hid (bG fr cl) F) (ds.map .d++a) (vs++cvs):=by
 have n:Celd (bG fr cl) F:=(C.same g).celd
 have m:aO e (hid (bG fr cl) F):=fun b o q=>by
  rw[cD fun z=>by rw[k b z] at q;cases q];exact g b o (j b o q)
 refine ⟨n,fun b o q=>m b o (i b o q),fun b o q=>?_,(AFs.data (n9 n s)).append (f.same m)⟩
 obtain ⟨r,p⟩:=qA q
 rw[cD p];exact h b o r
def lD(n:Nat)(fb:Sg->R Fw):List A->List PyData->R PyData:=fun caps ds=>dOf (fnF n fb (ds.map .d++caps))
theorem aD1{F H:Hp}{cs:List Addr}{Q:VK}{E:XK}{r:R A}(b:aO F H)(j:Celd cs F)(h:match dOf r with
 | .bad=>False
 | .ok d=>∀ v F' H',Ext F H F' H'->DatV K F' v d->Q v H'
 | .ex e=>∀ a C F' H',Ext F H F' H'->lC K mg F' e a C->E (.ref C) (some a) H'):match (generalizing:=false) r with
 | .bad=>False
 | .ok a=>∀ v F' H',Ext (hid cs F) (hid cs H) F' H'->AF (gOf P w K mg base T) K mg F' a v->(∀ a∈cs,H' a=none)->Q v (shw cs H H')
 | .ex e=>∀ a C F' H',Ext (hid cs F) (hid cs H) F' H'->lC K mg F' e a C->(∀ a∈cs,H' a=none)->E (.ref C) (some a) (shw cs H H'):=by
 cases r with
 | bad=>exact h
 | ok a=>
  cases a with
  | d x=>
   intro v F' H' e q c
   obtain ⟨e2,i⟩:=aD0 b j c e
   exact h v _ _ e2 (DatV.same i q)
  | l xs=>exact False.elim h
  | m xs=>exact False.elim h
  | x e=>exact False.elim h
  | g k n f=>exact False.elim h
  | k S=>exact False.elim h
  | f S=>exact False.elim h
  | o S=>exact False.elim h
 | ex x=>
  intro a C F' H' e q c
  obtain ⟨e2,i⟩:=aD0 b j c e
  exact h a C _ _ e2 (q.same i)
theorem aP1{body:List Stmt}{fb:Sg->R Fw}(V:S.body=.stmts body)(Sc:CloScope N ps fr S.scope)(q:∀ (cl:List (Str×Addr)) (doc pm:Value) (cc:Addr) (ct:Value) (us:List Value),us.length=ps.length->bindArgs (S.fd cl doc pm cc ct) ⟨us,[]⟩=pure (ps.zip us))
  (i:∀ (f cc:Addr) (cl:List (Str×Addr)) (A:Around) (outer:List Env) (s:Shared) (H F:Hp) (E E':XK),Room k (A.deeper (cY S.qual S.scope s.heap.objs.size f (.ref cc) cl))->
   lT ((j6 (CXe P w) P w K mg base N fr S.qual S.scope f (.ref cc) cl A outer s H E').fly E) ⟨K,mg,w,F,hid (bG fr cl) H,gOf P w K mg base T,(cY S.qual S.scope s.heap.objs.size f (.ref cc) cl).cells,fun _=>none⟩ E body fb) :
  CloOk P w K mg base T S fr (k+1) ps.length (lD N.length fb):=by
 intro F0 F1 g cvs f cl doc pm ct cc D l B I y C u
 refine ⟨S.fd cl doc pm cc ct,ps,rfl,.all (q cl doc pm cc ct),⟨fun vs H Q E h=>?_,fun A outer s H args us vs Q E X e0 G Y t=>?_⟩,.inr ⟨_,_,_,_,I⟩⟩
 ·obtain ⟨F,ds,_,_,_,h1,h2,_⟩:=h
  rw[h1.length,h2]
 ·obtain ⟨F,ds,h1,h2,m,J,M,L⟩:=t
  obtain ⟨W,O,U,Z⟩:=zB D l B h1 m C u J
  refine aG7 V (m _ _ (h1 _ _ I)) (m _ _ (h1 _ _ y)) Sc (C.same fun b o z=>m b o (h1 b o z)) X e0 G Y (by rw[J.length,M]) fun p=>⟨_,i f cc cl A outer s H (hid (bG fr cl) F) _ E p,?_⟩
  have j:=aD1 (P:=P) (w:=w) (base:=base) (T:=T) (r:=fnF N.length fb (ds.map .d++g)) m W L
  refine tN (n:=N.length) (fb:=fb) (Q:=fun v H'=>(∀ a∈bG fr cl,H' a=none)->Q v (shw (bG fr cl) H H')) (E:=fun c e H'=>(∀ a∈bG fr cl,H' a=none)->E c e (shw (bG fr cl) H H')) O U Z ?_
  cases e:fnF N.length fb (ds.map .d++g) with
  | bad=>rw[e] at j;exact j
  | ok a=>rw[e] at j;exact j
  | ex x=>rw[e] at j;exact j
theorem aP2{body:Expr}{fe:Sg->R PyData}(V:S.body=.expr body)(Sc:CloScope N ps fr S.scope)(n:∀ (cl:List (Str×Addr)) (doc pm:Value) (cc:Addr) (ct:Value) (us:List Value),us.length=ps.length->bindArgs (S.fd cl doc pm cc ct) ⟨us,[]⟩=pure (ps.zip us))
  (i:∀ (f cc:Addr) (cl:List (Str×Addr)) (A:Around) (outer:List Env) (s:Shared) (H F:Hp) (E E':XK),Room k (A.deeper (cY S.qual S.scope s.heap.objs.size f (.ref cc) cl))->
   PD ((j6 (CXe P w) P w K mg base N fr S.qual S.scope f (.ref cc) cl A outer s H E').fly E) ⟨K,mg,w,F,hid (bG fr cl) H,gOf P w K mg base T,(cY S.qual S.scope s.heap.objs.size f (.ref cc) cl).cells,fun _=>none⟩ E body fe) :
  CloOk P w K mg base T S fr (k+1) ps.length (lD N.length (bX (vD fe))):=by
 intro F0 F1 c cvs f cl doc pm ct cc y j u I t C q
 refine ⟨S.fd cl doc pm cc ct,ps,rfl,.all (n cl doc pm cc ct),⟨fun vs H Q E h=>?_,fun A outer s H args us vs Q E X e0 B Y p=>?_⟩,.inr ⟨_,_,_,_,I⟩⟩
 ·obtain ⟨F,ds,_,_,_,h1,h2,_⟩:=h
  rw[h1.length,h2]
 ·obtain ⟨F,ds,h1,h2,l,J,M,L⟩:=p
  obtain ⟨W,O,U,Z⟩:=zB y j u h1 l C q J
  refine aI9 V (l _ _ (h1 _ _ I)) (l _ _ (h1 _ _ t)) Sc (C.same fun b o z=>l b o (h1 b o z)) X e0 B Y (by rw[J.length,M]) fun m=>⟨_,i f cc cl A outer s H (hid (bG fr cl) F) _ E m,?_⟩
  have g:=aD1 (P:=P) (w:=w) (base:=base) (T:=T) (r:=fnF N.length (bX (vD fe)) (ds.map .d++c)) l W L
  refine ⟨_,_,uQ O U Z,?_⟩
  unfold fnF bX vD at g
  cases e:fe ((ds.map Fl.A.d++c).map some++List.replicate (N.length - (ds.map Fl.A.d++c).length) none) with
  | bad=>rw[e] at g;exact g
  | ok d=>rw[e] at g;exact fun v G H' e1 r1 D=>g v G H' e1 r1 D
  | ex x=>rw[e] at g;exact fun a C G H' e1 r1 D=>g a C G H' e1 r1 D
end
def qQ(c:Ct)(F:Hp)(S:ClSt)(v:V):Prop:=∃ f cl doc pm cc ct,v=.ref f/\F f=some (FnO f (S.obj cl doc pm cc ct))/\F cc=some (.cod S.qual)/\ClOf c.cells S.scope cl
theorem qQ.same{c:Ct}{F a:Hp}{S:ClSt}{v:V}(s:aO F a):qQ c F S v->qQ c a S v:=by
 rintro ⟨f,cl,doc,pm,cc,ct,h1,h2,h3,h4⟩
 exact ⟨f,cl,doc,pm,cc,ct,h1,s _ _ h2,s _ _ h3,h4⟩
theorem aD2{c:Ct}{S:ClSt}{P0:Addr}{qs:List (Pos×Str)}{cells:List (Str×Addr)}{ρ:Sg}{σ:L2.St}{F H:Hp}{Q:VK}(j:cells=c.cells)(m:c.g.T P0=some (.tbl qs))(ab:Ab c ρ σ F H)(h:∀ v F' H',Ext F H F' H'->qQ c F' S v->Q v H'):tMk cells S P0 qs σ H Q:=by
 subst j
 refine ⟨ab.fh _ _ (ab.f0 _ _ (ab.t0 _ _ m)),fun f b cl doc pm ct H1 k l e=>?_⟩
 have e1:∃ d,Ext F H d H1/\d b=some (.cod S.qual):=by
  rcases k with ⟨q,rfl⟩|⟨q,rfl⟩
  ·refine ⟨upd F b (.cod S.qual),⟨cO _,fun a o z=>?_,fun a o z=>?_,fun a z n=>?_⟩,aX⟩
   ·by_cases w:a=b
    ·subst w
     have:=ab.fh a o z
     rw[q] at this;cases this
     exact aX
    ·rw[aG w];exact z
   ·by_cases w:a=b
    ·subst w;rw[aX] at z;rw[q];exact z
    ·rw[aG w] at z;exact ab.fh a o z
   ·by_cases w:a=b
    ·subst w;exact .inr ⟨_,q⟩
    ·rw[aG w] at n;exact absurd z n
  ·exact ⟨upd F b (.cod S.qual),Ext.new ab.fh q,aX⟩
 obtain ⟨d,e1,i⟩:=e1
 have e2:Ext d H1 (upd d f (FnO f (S.obj cl doc pm b ct))) (upd H1 f (FnO f (S.obj cl doc pm b ct))):=Ext.new e1.fh l
 exact h (.ref f) _ _ (e1.trans e2) ⟨f,cl,doc,pm,b,ct,rfl,aX,e2.ff _ _ i,e⟩
noncomputable def zZ(i:Nat)(q:Str):Sg->R Fw:=fun ρ=>.ok (.nx (ρ.set i (some (.k q))))
theorem aMX{X:Cx}{c:Ct}{E:XK}{st:Stmt}{i:Nat}{q:Str}{S:ClSt}{P0:Addr}{qs:List (Pos×Str)}{cells:List (Str×Addr)}(d:cells=c.cells)(j:c.cls q=some S)(l:c.g.T P0=some (.tbl qs))(h:PS X st (kG (tMk cells S P0 qs) (j3 i))):PSf X c E st (zZ i q):=PS.imp h fun D σ H b=>by
 obtain ⟨ρ,F,ab,k⟩:=b
 refine aD2 d l ab fun v m H' e n=>?_
 exact Rk.ok k _ m H' e.ff ((ab.ext e).setF (a:=.k q) (let ⟨f,cl,doc,pm,cc,ct,h⟩:=n;⟨S,f,cl,doc,pm,cc,ct,j,h⟩) fun z=>nomatch z)
noncomputable def wC:Option (Option A)->Option A
 | some (some (.d x))=>some (.d x)
 | some (some (.x e))=>some (.x e)
 | some (some (.g k n G))=>some (.g k n G)
 | _=>none
noncomputable def i8:List Nat->Sg->Option (List A)
 | [],_=>some []
 | j::js,ρ=>match wC ρ[j]?,i8 js ρ with
  | some a,some as=>some (a::as)
  | _,_=>none
theorem wD{o:Option (Option A)}{a:A}(h:wC o=some a):o=some (some a)/\∀ {c:Ct} {F H:Hp} {v:V},AO c F H a v->AF c.g c.K c.mg F a v:=by
 unfold wC at h
 split at h<;>cases h
 · exact ⟨rfl, fun z => z⟩
 · exact ⟨rfl, fun z => z⟩
 · exact ⟨rfl, fun z => z⟩
theorem aD3{c:Ct}{ρ:Sg}{σ:L2.St}{F H:Hp}(ab:Ab c ρ σ F H):∀ {js:List Nat} {caps:List A},i8 js ρ=some caps->∃ cvs,AFs c.g c.K c.mg F caps cvs/\cvs.length=js.length/\∀ (i:Nat) j,js[i]? = some j->∃ v,cvs[i]? = some v/\σ[j]? = some (some v)
 | [],_,h=>by cases h;exact ⟨[],trivial,rfl,fun i j z=>by simp at z⟩
 | j::js,caps,h=>by
  unfold i8 at h
  split at h
  ·rename_i a as h1 h2
   cases h
   obtain ⟨cvs,r,l,g⟩:=aD3 ab h2
   obtain ⟨m,f⟩:=wD h1
   obtain ⟨v,b,o⟩:=ab.slot j a m
   refine ⟨v::cvs,⟨f o,r⟩,by simp[l],fun i k e=>?_⟩
   cases i with
   | zero=>simp at e;subst e;exact ⟨v,rfl,b⟩
   | succ i=>obtain ⟨n,p,d⟩:=g i k (by simpa using e);exact ⟨n,by simpa using p,d⟩
  ·cases h
def aBN(X:Cx)(T:Hp)(c:Ct)(js:List Nat)(ρ:Sg)(F:Hp)(a:A)(v:V):Prop:=AF c.g c.K c.mg F a v \/
 ∃ S fr sl k n Gm caps,a=.g k n (Gm caps)/\qQ c F S v/\CloOk X.prog X.w X.K X.mg X.base T S fr k n Gm/\(∀ y,(y,NameKind.free)∈S.scope.names->y∈fr)/\(∀ y∈fr,(y,NameKind.free)∈S.scope.names)/\sl.map (fun j=>X.N[j]?)=fr.map some/\(∀ j∈sl,j∈js)/\i8 sl ρ=some caps
theorem aBN.same{X:Cx}{T:Hp}{c:Ct}{js:List Nat}{ρ:Sg}{F d:Hp}{a:A}{v:V}(s:aO F d)(h:aBN X T c js ρ F a v):aBN X T c js ρ d a v:=by
 rcases h with h|⟨S,fr,sl,k,n,Gm,b,h1,h2,e⟩
 · exact .inl (AF.same s h)
 · exact .inr ⟨S, fr, sl, k, n, Gm, b, h1, h2.same s, e⟩
def aFO(X:Cx)(T:Hp)(c:Ct)(js:List Nat)(ρ:Sg)(F:Hp):List A->List V->Prop
 | [],[]=>True
 | a::as,v::vs=>aBN X T c js ρ F a v/\aFO X T c js ρ F as vs
 | _,_=>False
def tK1(X:Cx)(T:Hp)(c:Ct)(js:List Nat)(E:XK)(f:Sg->R A):TE:=fun σ H Q=>∃ ρ F,Ab c ρ σ F H/\Rk c E F H (f ρ) fun a=>∀ v F' H',Ext F H F' H'->aBN X T c js ρ F' a v->Q v H'
def tKs(X:Cx)(T:Hp)(c:Ct)(js:List Nat)(E:XK)(f:Sg->R (List A)):TA:=fun σ H Q=>∃ ρ F,Ab c ρ σ F H/\Rk c E F H (f ρ) fun as=>∀ vs F' H',Ext F H F' H'->aFO X T c js ρ F' as vs->Q vs H'
section
variable{X:Cx}{T:Hp}{c:Ct}{js:List Nat}{E:XK}{e:Expr}{es:List Expr}
theorem aRW{f:Sg->R A}(h:PV X c E e f):PE X e (tK1 X T c js E f):=PE.imp h fun σ H Q ⟨ρ,F,ab,k⟩=>⟨ρ,F,ab,k.imp fun a _ q v b H' e1 r=>q v b H' e1 (.inl r)⟩
def wE(q:Str)(sl:List Nat)(k n:Nat)(Gm:List A->List PyData->R PyData)(i:Nat):Sg->R A:=fun ρ=>match ρ[i]?,i8 sl ρ with
 | some (some (.k q')),some caps=>if q'=q then .ok (.g k n (Gm caps)) else .bad
 | _,_=>.bad
theorem aMY{q:Str}{S:ClSt}{fr:List Str}{sl:List Nat}{k n i:Nat}{Gm:List A->List PyData->R PyData}(p:c.cls q=some S)(M:CloOk X.prog X.w X.K X.mg X.base T S fr k n Gm)(h1:∀ y,(y,NameKind.free)∈S.scope.names->y∈fr)(h2:∀ y∈fr,(y,NameKind.free)∈S.scope.names)
  (m:sl.map (fun j=>X.N[j]?)=fr.map some) (t:∀ j∈sl,j∈js) (h:PE X e (iR i)):PE X e (tK1 X T c js E (wE q sl k n Gm i)):=PE.imp h fun σ H Q ⟨ρ,F,ab,k⟩=>by
 unfold wE at k
 split at k
 ·rename_i r a hi s
  by_cases b:r=q
  ·rw[AD b] at k
   subst b
   obtain ⟨v,l,u,f,cl,doc,pm,o,ct,g,d⟩:=ab.slot i _ hi
   rw[p] at g;cases g
   have d:qQ c F S v:=⟨f,cl,doc,pm,o,ct,d⟩
   exact ⟨v,l,Rk.ok k v F H (Ext.refl ab.fh) (.inr ⟨_,fr,sl,_,_,Gm,a,rfl,d,M,h1,h2,m,t,s⟩)⟩
  ·rw[AE b] at k;exact k.elim
 ·exact k.elim
def aBO(sl:List Nat)(k n:Nat)(Gm:List A->List PyData->R PyData):Sg->R A:=fun ρ=>match i8 sl ρ with
 | some caps=>.ok (.g k n (Gm caps))
 | none=>.bad
theorem aP3{S:ClSt}{fr:List Str}{sl:List Nat}{k n:Nat}{Gm:List A->List PyData->R PyData}{P0:Addr}{qs:List (Pos×Str)}{cells:List (Str×Addr)}(b:cells=c.cells)(i:c.g.T P0=some (.tbl qs))(M:CloOk X.prog X.w X.K X.mg X.base T S fr k n Gm)(h1:∀ y,(y,NameKind.free)∈S.scope.names->y∈fr)(h2:∀ y∈fr,(y,NameKind.free)∈S.scope.names)
  (d:sl.map (fun j=>X.N[j]?)=fr.map some) (o:∀ j∈sl,j∈js) (h:PE X e (tMk cells S P0 qs)):PE X e (tK1 X T c js E (aBO sl k n Gm)):=PE.imp h fun σ H Q ⟨ρ,F,ab,k⟩=>by
 unfold aBO at k
 split at k
 ·rename_i a m
  exact aD2 b i ab fun v l H' e1 f=>Rk.ok k v l H' e1 (.inr ⟨_,fr,sl,_,_,Gm,a,rfl,f,M,h1,h2,d,o,m⟩)
 ·exact k.elim
theorem aMZ:PA X [] (tKs X T c js E aM):=PA.imp aU fun σ H Q ⟨ρ,F,ab,k⟩=>Rk.ok k [] F H (Ext.refl ab.fh) trivial
end
section
variable{X:Cx}{T:Hp}{c:Ct}{js:List Nat}{E:XK}{e:Expr}{es:List Expr}
theorem uW{f:Sg->R A}{g:Sg->R (List A)}(h:PE X e (tK1 X T c js E f))(h2:PA X es (tKs X T c js E g))(d:starEach (e::es) X.env=(false,eval e X.env)::starEach es X.env:=by rfl):PA X (e::es) (tKs X T c js E (aA f g)):=PA.imp (aJ h h2 d) fun σ H Q a=>by
 obtain ⟨ρ,F,ab,k⟩:=a
 refine ⟨ρ,F,ab,(Rk.bind k).imp fun x _ q v j H1 s1 r1=>⟨ρ,j,ab.ext s1,((Rk.bind q).ext s1).imp fun xs _ q vs i H2 b r2=>?_⟩⟩
 exact Rk.ok q (v::vs) i H2 (s1.trans b) ⟨r1.same b.ff,r2⟩
theorem aBP:∀ {js:List Nat} {ρ:Sg} {caps:List A},i8 js ρ=some caps->∀ j∈js,∃ a,ρ[j]? = some (some a)
 | [],_,_,_,j,hj=>by simp at hj
 | i::js,ρ,caps,h,j,hj=>by
  unfold i8 at h
  split at h
  ·rename_i a b h1 h2
   rcases AZ.mp hj with z|z
   · subst z; exact ⟨a, (wD h1).1⟩
   · exact aBP h2 j z
  ·cases h
theorem aM0{α:Type}{N:List α}{sl:List Nat}{fr:List α}(h:sl.map (fun j=>N[j]?)=fr.map some):sl.length=fr.length/\∀ (i:Nat) x,fr[i]? = some x->∃ j,sl[i]? = some j/\N[j]? = some x:=by
 have a:sl.length=fr.length:=by have:=EA List.length h;simpa using this
 refine ⟨a,fun i x e=>?_⟩
 have hi:i < fr.length:=(AI.mp e).1
 have h2:(sl.map (fun j=>N[j]?))[i]? = (fr.map some)[i]?:=by rw[h]
 rw[AH,AH,e,AN (by omega)] at h2
 exact ⟨sl[i],AN _,BP h2⟩
theorem aJX{S:ClSt}{fr:List Str}{sl:List Nat}{k n:Nat}{Gm:List A->List PyData->R PyData}{d:List A}{ρ:Sg}{σ:L2.St}{F H:Hp}{q:Cv}{v:V}(I:c.g=gOf X.prog X.w X.K X.mg X.base T)(O:X.K=c.K)(E:X.mg=c.mg)(p:X.env.cells=c.cells)(ab:Ab c ρ σ F H)(R:PubRel X σ H js q)
  (hA:qQ c F S v) (M:CloOk X.prog X.w X.K X.mg X.base T S fr k n Gm) (h1:∀ y,(y,NameKind.free)∈S.scope.names->y∈fr) (h2:∀ y∈fr,(y,NameKind.free)∈S.scope.names)
  (h3:sl.map (fun j=>X.N[j]?)=fr.map some) (h4:∀ j∈sl,j∈js) (hc:i8 sl ρ=some d):AF c.g c.K c.mg (pub q F) (.g k n (Gm d)) v:=by
 obtain ⟨f,cl,doc,pm,cc,ct,rfl,q1,q2,B⟩:=hA
 obtain ⟨cvs,r,l,gt⟩:=aD3 ab hc
 obtain ⟨U,g3⟩:=aM0 h3
 have u:∀ b∈dL q,F b=none:=fun b hb=>bW ab.fh (R.free b hb)
 have J:aO F (pub q F):=lS u
 have s:∀ (i:Nat) x v,fr[i]? = some x->cvs[i]? = some v->∃ a o,cl.lookup x=some a/\q.lookup a=some (o,v):=fun i x v e1 e2=>by
  obtain ⟨j,m,D⟩:=g3 i x e1
  obtain ⟨v',Q,e6⟩:=gt i j m
  rw[e2] at Q;cases Q
  obtain ⟨x',a,o,v2,W,Z,P,L⟩:=R.all j (h4 j (AL m))
  rw[D] at W;cases W
  rw[e6] at P;cases P
  obtain ⟨Y,C⟩:=B.all (x,.free) (h2 x (AL e1)) rfl
  have t:=B.of _ _ C
  rw[<-p] at t
  have h:X.env.cells.lookup x=some Y:=t
  rw[Z] at h;cases h
  exact ⟨a,o,C,L⟩
 refine ⟨f,pub q F,rfl,cO _,?_⟩
 rw[I]
 refine M F (pub q F) d cvs f cl doc pm ct cc (fun a o z=>ab.f0 a o (ab.t0 a o (by rw[I];exact z))) (by rw[O,E,<-O,<-E];rw[I] at r;rw[<-O,<-E] at r;exact r) J (J _ _ q1) (J _ _ q2) ⟨l.trans U,fun n c e=>h1 n (B.only n c e),fun n n' c e e'=>R.inj n n' c (by rw[p];exact B.of _ _ e) (by rw[p];exact B.of _ _ e'),fun i x v e1 e2=>?_⟩ fun a ha=>?_
 ·obtain ⟨a,o,m,D⟩:=s i x v e1 e2
  exact ⟨a,o,m,rS D⟩
 ·obtain ⟨x,hx,e⟩:=DA.mp ha
  obtain ⟨i,hi,G⟩:=E6.mp hx
  obtain ⟨Y,o,m,D⟩:=s i x (cvs[i]'(by rw[l,U];exact hi)) (by rw[AN hi,G]) (AN _)
  rw[e] at m;cases m
  exact u a (jA.mpr ⟨_,D⟩)
theorem zC{ρ:Sg}{σ:L2.St}{F H:Hp}{cv:Cv}(hG:c.g=gOf X.prog X.w X.K X.mg X.base T)(hK:X.K=c.K)(hM:X.mg=c.mg)(hcl:X.env.cells=c.cells)(ab:Ab c ρ σ F H)(R:PubRel X σ H js cv):∀ {as:List A} {vs:List V},aFO X T c js ρ F as vs->AFs c.g c.K c.mg (pub cv F) as vs
 | [],[],_=>trivial
 | a::as,v::vs,h=>by
  refine ⟨?_,zC hG hK hM hcl ab R h.2⟩
  rcases h.1 with q|⟨S,fr,sl,k,n,Gm,d,rfl,m,f,p,e,l,j,o⟩
  · exact AF.same (lS fun b i => bW ab.fh (R.free b i)) q
  · exact aJX hG hK hM hcl ab R m f p e l j o
def sD(js:List Nat)(n:Nat)(G:List A->R A)(f:Sg->R (List A)):Sg->R A:=fun ρ=>match i8 js ρ with
 | some _=>(f ρ).bind fun as=>if as.length=n then (dOf (G as)).bind fun x=>.ok (.d x) else .bad
 | none=>.bad
theorem aP4{n:Nat}{G:List A->R A}{g:Gb}{K:Frag}{mg:Str->Option Value}{f:Sg->R (List A)}(hG:c.g=gOf X.prog X.w X.K X.mg X.base T)(hK:X.K=c.K)(M:X.mg=c.mg)(y:X.env.cells=c.cells)(V:g=c.g)(W:K=c.K)(hm:mg=c.mg)
  (B:∀ j∈js,∃ x,X.N[j]? = some x/\X.env.kindOf x=some .cell/\X.fn x=true) (h:PE X e (aHB X js (spF g K mg n G) E (tKs X T c js E f))):PV X c E e (sD js n G f):=PE.imp h fun σ H Q ⟨ρ,F,ab,k⟩=>by
 subst V W hm
 unfold sD at k
 split at k
 ·rename_i L Y
  refine ⟨ρ,F,ab,(Rk.bind k).imp fun r _ q vs I H1 e1 r1=>⟨fun j D=>?_,fun J R=>?_⟩⟩
  ·obtain ⟨x,O,U,a3⟩:=B j D
   obtain ⟨a,ha⟩:=aBP Y j D
   obtain ⟨v,Z,_⟩:=ab.slot j a ha
   exact ⟨x,v,O,U,a3,Z⟩
  ·by_cases u:r.length=n
   ·rw[AD u] at q
    have s:=ab.ext e1
    have t:∀ b∈dL J,I b=none:=fun b p=>bW e1.fh (R.free b p)
    refine ⟨pub J I,r,fun a o z=>lS t a o (e1.ff a o (ab.f0 a o (ab.t0 a o z))),aJW e1.fh,zC hG hK M y s R r1,u,?_⟩
    cases i:G r with
    | bad=>rw[i] at q;exact q
    | ok a=>
     rw[i] at q
     cases a with
     | d x=>
      intro v P H2 e2 r2
      exact Rk.ok q v _ _ (e1.trans (zA R.free e1.fh e2)) (aDZ (aBM e2.ff) r2)
     | l xs=>exact False.elim q
     | m xs=>exact False.elim q
     | x xs=>exact False.elim q
     | g k n f=>exact False.elim q
     | k S=>exact False.elim q
     | f S=>exact False.elim q
     | o S=>exact False.elim q
    | ex x=>
     rw[i] at q
     intro a C P H2 e2 r2
     obtain ⟨q1,q2⟩:=aJV (aBM e2.ff) r2
     exact ⟨q a C _ _ ((ab.all.trans e1).trans (zA R.free e1.fh e2)) q1,fun b p=>by cases p;exact q2⟩
   ·rw[AE u] at q;exact q.elim
 ·exact k.elim
end
section
variable{P:Program}{w:World}{K:Frag}{mg:Str->Option Value}{base:Heap}{T:Hp}
structure DefAtT(K:Frag)(mg:Str->Option Value)(base:Heap)(T:Hp)(qs:List (Pos×Str))(x:Str)(st:Stmt)(ps:List Str):Prop where
 ex:∃ f oc od kV doc pm an c0 ct osl P0,K.lookup f=some ⟨oc,od,.func (PySem.W.fnOf x x (dY st) (cL st) (aL st) .none kV doc pm an (.ref c0) ct),osl⟩/\PySem.W.codeIn K (.ref c0) x=true/\PySem.W.keepIn K (.ref f)=true /\
  gQ K (PySem.W.fnOf x x (dY st) (cL st) (aL st) .none kV doc pm an (.ref c0) ct) ps []/\mg x=some (.ref f)/\Tb mg base c0 P0/\T P0=some (.tbl qs)
theorem aSV{h:Heap}{qs:List (Pos×Str)}{xs:List Str}{x:Str}{st:Stmt}{ps:List Str}(D:DefAt K mg x st ps)(l:K.In h)(o:aAZ mg h base T qs xs)(hx:x∈xs):DefAtT K mg base T qs x st ps:=by
 obtain ⟨f,fd,F,b,m⟩:=D.ex
 obtain ⟨j,od,kV,doc,pm,k,c,ct,d,rfl,g,a⟩:=F.ex
 obtain ⟨c0,P0,i,p,n⟩:=o x hx
 have e:c=.ref c0:=n f _ _ m (l _ _ g) rfl
 subst e
 exact ⟨f,j,od,kV,doc,pm,k,c0,ct,d,P0,g,a,F.kp,b,m,p,i⟩
theorem aM1{x:Str}{st:Stmt}{N ps:List Str}{k:Nat}{qs:List (Pos×Str)}{cls:Str->Option ClSt}{fb:Sg->R Fw}(D:DefAtT K mg base T qs x st ps)(S:FnScope N ps (aL st))
  (a:∀ (f c0 P0:Addr) (A:Around) (outer:List Env) (s:Shared) (H F:Hp) (E:XK),Tb mg base c0 P0->T P0=some (.tbl qs)->Room k (A.deeper (envOfC x (aL st) s.heap.objs.size f (.ref c0)))->
   lT ((jJ (CXe P w) P w K mg base N x (aL st) f (.ref c0) A outer s H E).fly E) ⟨K,mg,w,F,H,gOf P w K mg base T,(envOfC x (aL st) s.heap.objs.size f (.ref c0)).cells,cls⟩ E (cL st) fb):a7 P w K mg base T (k+1) x ps (fnF N.length fb):=by
 obtain ⟨f,r,od,kV,doc,pm,t,c0,ct,p,P0,l,c,i,b,m,n,j⟩:=D.ex
 refine ⟨f,_,zS l c S (fun vs H Q E h=>?_) (fun A outer s H vs Q E g h=>?_),b,m,i⟩
 ·obtain ⟨F,o,_,_,h2,d,_⟩:=h
  rw[h2.len,d]
 ·obtain ⟨F,o,e,h1,h2,d,q⟩:=h
  exact ⟨_,(a f c0 P0 A outer s H F E n j g).unfly fun _ _ z=>rN z,tN e h1 h2 q⟩
end
noncomputable def aP5:Stmt->Expr
 | .Assign _ e _=>e
 | .Return (some e) _=>e
 | _=>.Constant .none 0 ⟨0,0,0,0⟩
noncomputable def aP6(e:Expr)(i:Nat):Expr:=match e with
 | .Call _ as _ _=>as.getD i (.Constant .none 0 ⟨0,0,0,0⟩)
 | e=>e
noncomputable def clS(q:Str):Stmt->ClSt
 | .FunctionDef x a b _ _ _ sc _ _ _=>⟨x,q,a,.stmts b,sc⟩
 | s=>⟨"",q,dY s,.stmts [],aL s⟩
noncomputable def clE(q:Str):Expr->ClSt
 | .Lambda a b sc _=>⟨"<lambda>",q,a,.expr b,sc⟩
 | _=>⟨"",q,dY (.Pass ⟨0,0,0,0⟩),.stmts [],aL (.Pass ⟨0,0,0,0⟩)⟩
noncomputable def aSW:Stmt->Pos
 | .FunctionDef _ _ _ _ _ _ _ _ _ p=>p
 | _=>⟨0,0,0,0⟩
noncomputable def aSX:Expr->Pos
 | .Lambda _ _ _ p=>p
 | _=>⟨0,0,0,0⟩
theorem aP7{X:Cx}:∀ j∈([]:List Nat),∃ x,X.N[j]? = some x/\X.env.kindOf x=some .cell/\X.fn x=true:=fun j h=>by simp at h
theorem aM2{X:Cx}{i:Nat}{js:List Nat}(h:∃ x,X.N[i]? = some x/\X.env.kindOf x=some .cell/\X.fn x=true)(t:∀ j∈js,∃ x,X.N[j]? = some x/\X.env.kindOf x=some .cell/\X.fn x=true):∀ j∈i::js,∃ x,X.N[j]? = some x/\X.env.kindOf x=some .cell/\X.fn x=true:=fun j a=>by
 rcases AZ.mp a with z|z
 · subst z; exact h
 · exact t j z
end Fl
namespace Zp
open PySem
structure Apart(z TI TO i1 i2:Addr)(f1 f2:List Addr):Prop where
 TIz:TI≠z
 TOz:TO≠z
 i1z:i1≠z
 i2z:i2≠z
 TITO:TI≠TO
 TIi1:TI≠i1
 TIi2:TI≠i2
 TOi1:TO≠i1
 TOi2:TO≠i2
 i12:i1≠i2
 z1:z∉f1
 z2:z∉f2
 t1:TO∉f1
 t2:TO∉f2
 i1f2:i1∉f2
 i2f1:i2∉f1
section
variable{prog:Program}{w:World}{A:Around}{E:Value->Shared->Prop}{s:Shared}
abbrev aSY(h:Heap)(z TI TO:Addr)(f0 f1:Value):Prop:=h.get? z=some {cls:=.type "zip",dict:=none,data:=.fields #[f0,f1,.bool false,.ref TI,.ref TO],slots:=#[]}
end
noncomputable abbrev H2(h:Heap)(o1 o2:Obj):Heap:=(h.push o1).push o2
noncomputable abbrev H3(h:Heap)(o1 o2:Obj):Heap:=(H2 h o1 o2).push {cls:=.type "tuple",data:=.seq #[.ref h.objs.size,.ref (h.push o1).objs.size]}
noncomputable abbrev H4(h:Heap)(o1 o2:Obj):Heap:=(H3 h o1 o2).push {cls:=.type "tuple",data:=.seq #[.none,.none]}
noncomputable abbrev H5(h:Heap)(o1 o2:Obj):Heap:=(H4 h o1 o2).push {cls:=.type "zip",data:=.fields #[.none,.bool false,.bool false,.ref (H2 h o1 o2).objs.size,.ref (H3 h o1 o2).objs.size]}
end Zp
namespace L2
open PySem PySem.Spec PyProof.Rows
abbrev Col:=Hp->List V->Prop
structure ColOk(P:Program)(w:World)(K:Frag)(C:Col)(it:Addr)(tn:Nat->Heap->Prop):Prop where
 obj:∀ i h,tn i h->∃ o,h.get? it=some o/\∀ v,o.data≠.cell v
 keep:∀ i h h',tn i h->(∀ o,h.get? it=some o->h'.get? it=some o)->tn i h'
 one:∀ (X:Cx),X.prog=P->X.w=w->X.K=K->∀ pins s σ H xs ys,Inv X pins σ H s->C H xs->C H ys->xs=ys
 draw:∀ (X:Cx),X.prog=P->X.w=w->X.K=K->∀ (i:Nat) (pins:List (Addr×Obj)) (s:Shared) (σ:St) (H:Hp) (xs:List V) (A:Around),Inv X pins σ H s->lP X pins H it->tn i s.heap->C H xs->A.handled=none->
  ∃ fp Pv St,Draws P w A it fp xs.length Pv St/\St i s.heap/\(∀ j h,St j h->tn j h)/\(∀ j v,Pv j v->∃ x,xs[j]? = some x/\bJ x v)/\∀ b,lP X pins H b->b≠it->b∉fp
end L2
namespace Fl
open PySem L2 PyProof.Rows
section
variable{X:Cx}{c:Ct}{E:XK}{e a b:Expr}{st:Stmt}{pos:Pos}
noncomputable def aRX(i:Nat)(f g:Sg->R PyData):Sg->R Fw:=fun ρ=>match ρ[i]? with
 | some (some (.m kvs))=>(f ρ).bind fun k=>(g ρ).bind fun y=>if cI k (kvs.map (·.1))=true/\kvs.length<=16777216 then .ok (.nx (if dM kvs k=true then ρ else ρ.set i (some (.m (putM kvs k y))))) else .bad
 | _=>.bad
end
def aSZ(i:Nat):Sg->R Fw:=fun ρ=>match ρ[i]? with
 | some (some (.l xs))=>.ok (.nx (ρ.set i (some (.l xs.reverse))))
 | _=>.bad
end Fl
namespace Zp
open PySem
end Zp
namespace Fl
open PySem L2 PyProof.Rows
noncomputable def fzM(i:Nat)(ρ:Sg):Sg:=match ρ[i]? with
 | some (some (.m kvs))=>ρ.set i (some (.f kvs))
 | _=>ρ
def aS0(i:Nat)(f:Sg->R Fw):Sg->R Fw:=fun ρ=>f (fzM i ρ)
noncomputable def aS1(neg:Bool)(i:Nat)(f:Sg->R PyData):Sg->R PyData:=fun ρ=>(f ρ).bind fun k=>match ρ[i]? with
 | some (some (.f kvs))=>if cI k (kvs.map (·.1))=true then .ok (.bool (if neg=true then !dM kvs k else dM kvs k)) else .bad
 | _=>.bad
noncomputable def aRY(i:Nat)(f:Sg->R PyData):Sg->R PyData:=fun ρ=>match ρ[i]? with
 | some (some (.f kvs))=>(f ρ).bind fun k=>if cI k (kvs.map (·.1))=true then (match fZ kvs k with
  | some v=>.ok v
  | none=>.bad) else .bad
 | _=>.bad
end Fl
namespace Zp
open PySem
def Raw(h:Heap)(d:Addr)(ar:Array DictEntry)(ep:Nat):Prop:=∃ o,h.get? d=some o/\o.ExactDict/\o.data=.dict ar ep
section
variable{prog:Program}{w:World}{A:Around}{E:Value->Shared->Prop}{s:Shared}{d it:Addr}{ar:Array DictEntry}{ep i:Nat}
theorem aJY{Q:Value->Shared->Prop}(f:(d == sysModules)=false)(e:Raw s.heap d ar ep)(q:Q (.ref s.heap.objs.size) {s with heap:=s.heap.push {cls:=.type "dict_keyiterator",data:=.fields #[.ref d,.int 0 0,.int ar.size 0,.int ep 0]}}) :
  wpAny (model prog w) A (pyIter (.ref d)) Q E s:=by
 obtain ⟨o,c,g,a⟩:=e
 have b:s.TypeIs (.ref d) "dict":=⟨o,c,g.1⟩
 refine wpAny_pyIter_slot b F.slot_dict_iter (EV F.slot_dict_iter b F.entry_dict_iter ?_ (F.args_dict_iter_1 _))
 unfold Builtin.«dict.__iter__»
 refine AA ?_
 unfold Builtin.Dict.dictSlotNone
 refine AA (wpAny_notOrdered_dict b (AC ?_))
 show wpAny _ _ (Builtin.Dict.showsAll d >>= _) _ _ s
 unfold Builtin.Dict.showsAll
 rw[AE (by rw[f];exact BT)]
 refine AA (AC (AA (ES c a (AA (GI c a ?_)))))
 refine AA (CJ (AC ⟨_,rfl,"dict_keyiterator",_,⟨_,A9 _ rfl,rfl⟩,CO.lookup,?_⟩))
 simpa[rawInt] using q
theorem aJZ{Q:Option Value->Shared->Prop}{g:DictEntry}(a:s.heap.IsKeyIter it d i ar.size ep)(k:Raw s.heap d ar ep)(hx:ar[i]? = some g)
  (q:∀ h',h'.IsKeyIter it d (i+1) ar.size ep->Heap.SameBut it s.heap h'->Q (some g.key) {s with heap:=h'}):wpAny (model prog w) A (pyNext (.ref it)) Q E s:=by
 obtain ⟨o,h,l,f⟩:=id a
 obtain ⟨od,e,j,c⟩:=k
 unfold pyNext
 refine AA (FM (DP (name:=Str.ofString "__next__") a.typeIs CO
  (EV CO a.typeIs FB ?_ (E8 _))))
 refine AA (AC (AA (AA ?_)))
 first|refine AA (C4 a.typeIs (AC ?_))|refine AA (DJ a.typeIs (AC ?_))
 refine AA (wpAny_fieldsOf h f ?_)
 simp only[show Builtin.Dict_items.ownsTuple "dict_keyiterator"=false by decide,BS,CH]
 show wpAny _ _ (if (Value.ref d == Value.none)=true then _ else _) _ _ s
 rw[AE (show ¬ ((Value.ref d == Value.none)=true) from BT)]
 refine AA (AC (AA (ES e c ?_)))
 rw[AE (by simp)]
 refine AA (AC (AA (GI e c ?_)))
 rw[AE (by simp)]
 refine AC ?_
 simp only[show ¬ ((i:Int) < 0) from by omega,CH,EO,hx]
 refine AA ?_
 first|refine AA (C4 a.typeIs (AC ?_))|refine AA (DJ a.typeIs (AC ?_))
 refine AA (wpAny_isOneOf_keyiter a.typeIs ?_)
 show wpAny _ _ (setField (.ref it) 1 (rawInt ((i:Int)+1)) >>= _) _ _ s
 refine AA (EL h f (by simp) ?_)
 have b:(s.heap.update it (Obj.mapFields (·.setIfInBounds 1 (rawInt ((i:Int)+1))))).IsKeyIter it d (i+1) ar.size ep:=
  ⟨_,BZ _ h (EX (DT f _)),(Obj.cls_mapFields ..).trans l,by rw[DT f];simp[rawInt]⟩
 refine AA (CM (AA (wpAny_isOneOf_keyiter (s:={s with heap:=s.heap.update it (Obj.mapFields (·.setIfInBounds 1 (rawInt ((i:Int)+1))))}) b.typeIs ?_)))
 show wpAny _ _ (pure g.key) _ _ _
 exact AC (AC ⟨_,rfl,AC (q _ b (DM ..))⟩)
theorem aM3{Q:Option Value->Shared->Prop}(l:A.handled=none)(c:s.heap.IsKeyIter it d i ar.size ep)(k:Raw s.heap d ar ep)(hx:ar.size<=i)
  (q:∀ h',Heap.ExtBut it s.heap h'->Q none {s with heap:=h'}):wpAny (model prog w) A (pyNext (.ref it)) Q E s:=by
 obtain ⟨o,h,n,g⟩:=id c
 obtain ⟨od,f,j,e⟩:=k
 unfold pyNext
 refine AA (FM (DP (name:=Str.ofString "__next__") c.typeIs CO
  (EV CO c.typeIs FB ?_ (E8 _))))
 refine AA (AC (AA (AA ?_)))
 first|refine AA (C4 c.typeIs (AC ?_))|refine AA (DJ c.typeIs (AC ?_))
 refine AA (wpAny_fieldsOf h g ?_)
 simp only[show Builtin.Dict_items.ownsTuple "dict_keyiterator"=false by decide,BS,CH]
 show wpAny _ _ (if (Value.ref d == Value.none)=true then _ else _) _ _ s
 rw[AE (show ¬ ((Value.ref d == Value.none)=true) from BT)]
 refine AA (AC (AA (ES f e ?_)))
 rw[AE (by simp)]
 refine AA (AC (AA (GI f e ?_)))
 rw[AE (by simp)]
 refine AC ?_
 simp only[show ¬ ((i:Int) < 0) from by omega,CH,EO,Array.getElem?_eq_none hx]
 refine AA ?_
 first|refine AA (C4 c.typeIs (AC ?_))|refine AA (DJ c.typeIs (AC ?_))
 show wpAny _ _ (setField (.ref it) 0 .none >>= _) _ _ s
 refine AA (EL h g (by simp) ?_)
 show wpAny _ _ (newExc (.type "StopIteration") [] >>= _) _ _ _
 refine AA ?_
 simp only[newExc,newTuple]
 refine AA (CJ ?_ (by size_fits))
 refine AA (m:=firstArgMember _ _) (wpAny_of_eq (a:=Value.none) (by first|rfl|(simp only[firstArgMember];rfl)) ?_)
 refine CJ ?_ (by size_fits)
 simp only[raiseNew]
 refine AA (wpAny_handled ?_)
 rw[show A.in1.handled=none from l]
 refine AA (AC (wpAny_throw ?_))
 refine AA (GC (T:="StopIteration") (b:=true) ⟨_,A9 _ rfl,rfl⟩ isSubtype_stop ?_)
 exact AC (q _ (((DM ..).extBut.push _).push _))
end
end Zp
namespace Fl
open PySem L2 PyProof.Rows
theorem wF{α β:Type}{f:α->β->Prop}:∀ {xs:List α} {ys:List β} {i:Nat} {x:α},Paired f xs ys->xs[i]? = some x->∃ y,ys[i]? = some y/\f x y
 | _,_,_,_,.nil,h=>by simp at h
 | _,_,0,_,.cons q t,h=>by simp at h;subst h;exact ⟨_,rfl,q⟩
 | _,_,i+1,_,.cons q t,h=>by
  obtain ⟨y,h1,h2⟩:=wF (i:=i) t (by simpa using h)
  exact ⟨y,by simpa using h1,h2⟩
theorem aD4{X:Cx}{pins:List (Addr×Obj)}{σ:L2.St}{H:Hp}{s:Shared}{d:Addr}{es:List Ent}{ep:Nat}(I:Inv X pins σ H s)(h:H d=some (dZ X.w d es ep)):(d == sysModules)=false/\∃ ar,Zp.Raw s.heap d ar ep/\Paired (qD X.w) es ar.toList:=by
 obtain ⟨⟨a,o,ar,h1,h2,b,c⟩,_,_⟩:=(show cN X.prog X.w H s.heap d (dZ X.w d es ep) from I.hok d _ h)
 exact ⟨a,ar,⟨o,h1,h2,b⟩,c⟩
section
variable{X:Cx}{c:Ct}{E:XK}{tg e:Expr}
noncomputable def aRZ(i:Nat):Sg->R (List PyData):=fun ρ=>match ρ[i]? with
 | some (some (.f kvs))=>if kvs.length<=16777216 then .ok (kvs.map (·.1)) else .bad
 | _=>.bad
def wG(i:Nat):Sg->R PyData:=fun ρ=>match ρ[i]? with
 | some (some (.m kvs))=>if kvs.length<=16777216 then .ok (.int (kvs.length:Int)) else .bad
 | some (some (.f kvs))=>if kvs.length<=16777216 then .ok (.int (kvs.length:Int)) else .bad
 | _=>.bad
end
end Fl
namespace Zp
open PySem
abbrev uX(h:Heap)(S:Addr)(acc:Array Value)(c:Nat):Prop:=h.get? S=some {cls:=.type "list",dict:=none,data:=.seq acc c,slots:=#[]}
theorem aJ0{prog:Program}{w:World}{A:Around}{R:Result->Shared->Prop}{I S:Addr}{n:Nat}{res:Value}(J Jf:Array Value->Heap->Prop)(y:n<=sizeLine)
  (size:∀ acc h,J acc h->acc.size<=n)
  (g:∀ acc h h',J acc h->h'.objs.size=h.objs.size->(∀ b o,b≠S->h.get? b=some o->h'.get? b=some o)->J acc h')
  (item:∀ acc (s:Shared) (c:Nat) (Q:Option Value->Shared->Prop) (E:Value->Shared->Prop),acc.size < n->J acc s.heap->uX s.heap S acc c->(∀ v h' tk,J (acc.push v) h'->uX h' S acc c->Q (some v) {s with heap:=h',toks:=tk})->wpAny (model prog w) A.in1 (pyNext (.ref I)) Q E s)
  (done:∀ acc (s:Shared) (c:Nat) (Q:Option Value->Shared->Prop) (E:Value->Shared->Prop),acc.size=n->J acc s.heap->uX s.heap S acc c->(∀ h' tk,Jf acc h'->uX h' S acc c->Q none {s with heap:=h',toks:=tk})->wpAny (model prog w) A.in1 (pyNext (.ref I)) Q E s) :
  ∀ (k:Nat) (s:Shared) (acc:Array Value) (c:Nat),n - acc.size=k->J acc s.heap->uX s.heap S acc c->(∀ h' tk a m,Jf a h'->a.size=n->uX h' S a m->R (.ok (.ret res)) {s with heap:=h',toks:=tk})->
  codeAny (model prog w) A (.builtin "list.extend.loop" ⟨[.ref S,.ref I,res],[]⟩) R s:=by
 intro k
 induction k with
 | zero=>
  intro s acc c u i l j
  have:=size acc _ i
  refine codeAny_builtin F.entry_extend_loop ?_
  rw[Around.under_plainId EH _]
  show wpAny _ A.in1 (pyNext (.ref I) >>= _) _ _ s
  exact AA (done acc s c _ _ (by omega) i l fun h' tk f d=>AC (j h' tk acc c f (by omega) d))
 | succ k ih=>
  intro s acc c u i l j
  refine codeAny_builtin F.entry_extend_loop ?_
  rw[Around.under_plainId EH _]
  show wpAny _ A.in1 (pyNext (.ref I) >>= _) _ _ s
  refine AA (item acc s c _ _ (by omega) i l fun v h' tk f d=>?_)
  show wpAny _ A.in1 (updateSeq S (·.push v) >>= _) _ _ _
  refine AA (E9 d rfl (AC ⟨plainId_quiet EH _,ih _ (acc.push v) _ (by rw[EJ];omega) (g _ _ _ f (Heap.size_update ..) fun b o t e=>?_) (BZ _ d rfl) fun h2 p a m q r x=>j h2 p a m q r x⟩) (by omega) (by show (acc.push v).size<=sizeLine+1;rw[EJ];omega))
  exact (B6 _ _ (fun h:S=b=>t h.symm)).trans e
structure Jz(P1 P2:Nat->Value->Prop)(S1 S2:Nat->Heap->Prop)(s0:Heap)(z TI TO i1 i2 S:Addr)(n:Nat)(acc:Array Value)(h:Heap):Prop where
 size:acc.size<=n
 inc:∀ (j k p q:Nat),j < k->acc[j]? = some (.ref p)->acc[k]? = some (.ref q)->p < q
 top:∀ (j p:Nat),acc[j]? = some (.ref p)->p < h.objs.size
 told:∀ (j:Nat) v,acc[j]? = some v->∃ p x y,v=.ref p/\S < p/\IsPair h p x y/\P1 j x/\P2 j y
 s1:S1 acc.size h
 s2:S2 acc.size h
 ti:IsPair h TI (.ref i1) (.ref i2)
 keep:∀ c o,c≠z->c≠TO->c≠i1->c≠i2->c≠S->s0.get? c=some o->h.get? c=some o
 big:S < h.objs.size
 st:(acc.size=0/\IsZip h z TI TO .none/\∃ a b,IsPair h TO a b)\/(0 < acc.size/\∃ (T:Addr) (bb:Bool) (o:Obj),aSY h z TI TO (rawInt T) (.bool bb)/\h.get? T=some o/\S < T)
end Zp
namespace L2
open PySem PySem.Spec PyProof.Rows
structure LZ(H1 H2:Hp)(xs ys:List V)(l:Addr)(ps:List Addr):Prop where
 same:∀ b o,H1 b=some o->H2 b=some o
 new:H1 l=none
 lst:H2 l=some (.lst (ps.map .ref))
 len:ps.length=min xs.length ys.length
 tup:∀ (j:Nat) p,ps[j]? = some p->H1 p=none/\∃ u v,xs[j]? = some u/\ys[j]? = some v/\H2 p=some (.tup [u,v])
end L2
namespace HT
open PySem PySem.Spec PyProof.Rows L2
end HT
namespace Fl
open PySem L2 PyProof.Rows
end Fl
namespace L2
open PySem PySem.Spec PyProof.Rows
end L2
namespace Zp
open PySem PySem.Spec PyProof.Rows
section
variable{prog:Program}{w:World}{A:Around}{E:Value->Shared->Prop}{s:Shared}{d:Addr}{ar:Array DictEntry}{ep:Nat}
theorem zJ(e:(d == sysModules)=false) :
  MeetsIn prog w (Builtin.«dict.__len__» ⟨[.ref d],[]⟩) (fun _ R s=>∃ ar ep,Raw s.heap d ar ep/\R (.ok (.ret (.int ar.size s.toks))) {s with toks:=s.toks+1}):=
 .of_wp fun A R s b=>by
  obtain ⟨ar,ep,c,h⟩:=b
  obtain ⟨o,f,g,a⟩:=c
  show wpAny _ _ (dictSize d >>= _) _ _ s
  unfold dictSize
  refine AA (AA (ES f a (AC ?_)))
  show wpAny _ _ (Builtin.Dict.pendingCount d >>= _) _ _ s
  refine AA (wpAny_pendingCount_other e ?_)
  refine wpAny_ret_mkInt ?_
  rw[Nat.add_zero];exact h
theorem aM4{Q:Value->Shared->Prop}(f:(d == sysModules)=false)(b:Raw s.heap d ar ep)(e:(ar.size:Int) < 2 ^ 63)
  (h:∀ t t',Q (.int ar.size t) {s with toks:=t'}):wpAny (model prog w) A (call (.builtin "len") [.ref d]) Q E s:=by
 have c:s.TypeIs (.ref d) "dict":=by
  obtain ⟨o,g,i,a⟩:=id b
  exact ⟨o,g,i.1⟩
 refine Calls.call_function_entry kind_len plain_len entry_len (args_len1 _) ?_
 unfold Builtin.«len»
 refine AA (m:=oneArg "len" _) (AC ?_)
 refine AA (m:=callSpecial? (.ref d) (Str.ofString "__len__")) (DP (name:=Str.ofString "__len__") c F.slot_dict_len
  (call_meetsIn F.slot_dict_len c F.entry_dict_len (F.args_dict_len_1 _) (zJ f) ⟨ar,ep,b,?_⟩))
 show wpAny _ _ _ _ _ {s with toks:=s.toks+1}
 refine AA (CM (AC ?_))
 refine AA (wpAny_letGo ?_)
 show wpAny _ _ (if ((ar.size:Nat):Int) < 0 then _ else _) _ _ _
 rw[AE (by omega)]
 show wpAny _ _ (if ((ar.size:Nat):Int)>=2 ^ 63 then _ else _) _ _ _
 rw[AE (by omega)]
 exact AA (wpAny_mkInt (AC ⟨_,rfl,h _ _⟩))
end
end Zp
namespace Fl
open PySem L2 PyProof.Rows
section
variable{X:Cx}{c:Ct}{E:XK}{e:Expr}
theorem aHU:kF X (.builtin "len") (fun xs H Q=>∃ d es ep,xs=[.ref d]/\H d=some (dZ X.w d es ep)/\es.length<=16777216/\Q (.int (es.length:Int)) H):=by
 intro pins s σ H xs us Q I r h
 obtain ⟨d,es,ep,rfl,b,i,q⟩:=h
 obtain ⟨u,rfl,e⟩:=oJ r
 cases (show u=Value.ref d from e)
 obtain ⟨f,ar,c,g⟩:=aD4 I b
 have a:ar.size=es.length:=by rw[FH g];simp
 refine Zp.aM4 f c (by rw[a];omega) fun t j=>?_
 rw[a]
 exact ⟨.int (es.length:Int),H,I.tok _,⟨t,rfl⟩,q⟩
theorem aM5{i:Nat}(n:X.w=c.g.w)(j:X.w=c.w)(h:PE X e (tCB (fun xs H Q=>∃ d es ep,xs=[.ref d]/\H d=some (dZ X.w d es ep)/\es.length<=16777216/\Q (.int (es.length:Int)) H) (dU (iR i) iS))):PD X c E e (wG i):=PE.imp h fun σ H Q ⟨ρ,F,ab,k⟩=>by
 unfold wG at k
 split at k
 ·rename_i a hi
  split at k
  ·rename_i m
   obtain ⟨v,l,p,es,rfl,⟨ep,h2⟩,o,q,f⟩:=ab.slot i _ hi
   have b:es.length=a.length:=by simpa using congrArg List.length f.k1
   refine ⟨_,l,p,es,ep,rfl,by rw[j];exact h2,by omega,?_⟩
   rw[b]
   exact Rk.ok k _ F H (Ext.refl ab.fh) (.int _)
  ·exact k.elim
 ·rename_i a hi
  split at k
  ·rename_i m
   obtain ⟨v,l,p,es,rfl,⟨ep,h2⟩,f⟩:=ab.slot i _ hi
   have b:es.length=a.length:=by simpa using congrArg List.length f.k1
   refine ⟨_,l,p,es,ep,rfl,by rw[n];exact ab.fh _ _ h2,by omega,?_⟩
   rw[b]
   exact Rk.ok k _ F H (Ext.refl ab.fh) (.int _)
  ·exact k.elim
 ·exact k.elim
end
end Fl
namespace Mc
open PySem L2 PyProof.Rows Fl
noncomputable def qR:Sg->R Fw:=(bX (vD (e1 dLen (e2 dIx (e2 dIx (rV 0) (eC (.int 0))) (eC (.int 1))))))
noncomputable def gW:List A->R A:=fnF 1 qR
noncomputable def qS:Sg->R Fw:=(bX (vD (eL (fR [none,some 1] (e1 cJ (rV 0)) (stN 0) gS (e2 dIx (e2 dIx (rV 0) (eC (.int 1))) (rV 1))))))
noncomputable def kA:List A->R A:=fnF 2 qS
noncomputable def oA:Sg->R Fw:=(aN (bN 2 (vD (eSl dSl (eC (.str "abc")) oNo (oSo (rV 0)))))
 (aN (iJ (e1 zY (eV 1)) (stT [(stN 3),(stN 4)]) (sIf (e1 asB (e2 dNin (rV 4) (rV 2))) (v6 "NoStrip" ["at"] (aA (eV 3) aM)) sNx))
 (bX (vV 1))))
noncomputable def jP:List A->R A:=fnF 5 oA
noncomputable def sE:Sg->R Fw:=(bX (aW 2 jP (aA (aW 1 gW (aA (vV 0) aM)) (aA (vV 1) aM))))
noncomputable def jQ:List A->R A:=fnF 2 sE
noncomputable def sG:Sg->R Fw:=(aN (dW 3 (eJ (aA (eV 0) aM)))
 (aN (v9 4 (v7 (eV 0) (eC (.int 0)) aBG))
 (aN (dW 5 (eJ aM))
 (aN (bS (jM (e1 asB (e2 dLt (e1 dLen (rV 5)) (e1 dLen (rV 3)))) (qI (e1 asB (wA 12 2 (aA (rV 3) (aA (e1 dLen (rV 5)) aM)))))) (aN (dW 6 (eJ aM))
 (aN (iJ (e1 cJ (aBK 12 1 (aA (e2 dIx (rV 3) (e1 dLen (rV 5))) aM))) (stN 7) (aN (sIf (e1 asB (n4 true 4 (eV 7))) (aN (mJ 4 (eV 7) (e1 dLen (rV 3)))
 (fY 3 (eV 7))) sNx)
 (fY 6 (qO 4 (eV 7)))))
 (fY 5 (e1 dTup (rV 6))))))
 (sFz 5 (sFz 3 (bX (vD (d3 (aA (eV 3) (aA (eV 5) aM)))))))))))
noncomputable def kZ:List A->R A:=fnF 8 sG
noncomputable def oS:Sg->R Fw:=(bX (vD (e1 (iK "str") (rV 0))))
noncomputable def gE:List A->R A:=fnF 1 oS
noncomputable def lE:Sg->R Fw:=(aN (bN 1 (vD (e1 dTup (eL (fR [none] (e1 cJ (rV 0)) (stN 0) gS (e2 dIx (rV 0) (eC (.int 0))))))))
 (bX (vD (d3 (aA (e2 dIx (rV 1) (eC (.int 0))) (aA (eV 1) aM))))))
noncomputable def gX:List A->R A:=fnF 2 lE
noncomputable def oT:Sg->R Bool:=(qI (e1 asB (eA (aW 1 gE (aA (vV 2) aM)))))
noncomputable def oB:Sg->R Fw:=(aN (sIf (e1 asB (n4 false 3 (eV 2))) (bX (vD (eC (.str "ever")))) sNx)
 (aN (mJ 3 (eV 2) (eC (.bool true)))
 (aN (bN 4 (vD (e2 dIx (rV 1) (rV 2))))
 (aN (sIf (e1 asB (e2 dEq (e2 dIx (rV 4) (eC (.int 1))) (eC (.int 1)))) (bX (vD (e2 dIx (rV 4) (eC (.int 0))))) sNx)
 (bN 2 (vD (e2 dIx (rV 0) (e2 dIx (rV 4) (eC (.int 0))))))))))
noncomputable def sH:Sg->R Fw:=aN (qM 3) (aN (bS oT oB) (bX (vV 2)))
noncomputable def jR:List A->R A:=fnF 5 sH
noncomputable def uY:Sg->R Fw:=(aN (bN 2 (aW 3 jR (aA (vD (e2 dIx (rV 0) (eC (.int 1)))) (aA (vV 1) (aA (vD (e2 dIx (rV 0) (eC (.int 0)))) aM)))))
 (aN (bN 3 (vD (e1 dTup (eL (fR [none,some 0,some 1] (dJ (e1 dLen (rV 1))) (stN 0) gS (eA (aW 3 jR (aA (vD (e2 dIx (rV 1) (eC (.int 1)))) (aA (vV 2) (aA (vV 0) aM))))))))))
 (bX (vD (d3 (aA (eV 2) (aA (eV 3) aM)))))))
noncomputable def iW:List A->R A:=fnF 4 uY
noncomputable def wT:Sg->R Bool:=(qI (e1 asB (eA (aW 1 gE (aA (vV 2) aM)))))
noncomputable def wB:Sg->R Fw:=(aN (sIf (e1 asB (n4 false 3 (eV 2))) (bX (vD (eC (.str "ever")))) sNx)
 (aN (mJ 3 (eV 2) (eC (.bool true)))
 (aN (bN 4 (vD (e2 dIx (e2 dIx (rV 0) (rV 2)) (eC (.int 2)))))
 (bN 2 (vD (eIf (e1 asB (eA (aW 1 gE (aA (vV 4) aM)))) (eV 4) (e2 dIx (e2 dIx (rV 1) (eC (.int 1))) (rV 4))))))))
noncomputable def m7:Sg->R Fw:=aN (bN 2 (vD (e2 dIx (rV 1) (eC (.int 0))))) (aN (qM 3) (aN (bS wT wB) (bX (vV 2))))
noncomputable def eX:List A->R A:=fnF 5 m7
noncomputable def d5:Sg->R Fw:=(bX (vD (eL (fR [none,some 0] (e1 cJ (rV 1)) (stN 0) gS (eA (aW 2 iW (aA (vV 1) (aA (vV 0) aM))))))))
noncomputable def fS:Sg->R Fw:=(bX (vD (e2 dGt (e1 dLen (rV 0)) (eC (.int 200)))))
noncomputable def oU:Sg->R Fw:=(aN (dW 1 (fR [none,some 0] (dJ (eA (aW 1 gW (aA (vV 0) aM)))) (stN 0) gS (eA (aW 2 kA (aA (vV 1) (aA (vV 0) aM))))))
 (aN (zZ 2 "one_way.<locals>.after")
 (aN (sFz 1 (bN 3 (sD [1] 3 kZ (aA (aW 1 gX (aA (vV 0) aM)) (aA (wE "one_way.<locals>.after" [1] 4 1 (lD 2 d5) 2) (aA (aBO [] 1 2 (lD 2 fS)) aM))))))
 (aN (bN 4 (vD (e2 dIx (rV 3) (eC (.int 0)))))
 (aN (sIf (e1 asB (e2 dGt (e1 dLen (rV 4)) (eC (.int 200)))) (xV "TooMany" (eC (.int 200))) sNx)
 (bX (vD (d3 (aA (e1 dTup (e2 dIx (rV 3) (eC (.int 1)))) (aA (e1 dTup (eL (fR [none,some 0] (e1 cJ (rV 4)) (stN 0) gS (eA (aW 2 eX (aA (vV 1) (aA (vV 0) aM))))))) aM))))))))))
noncomputable def iP:List A->R A:=fnF 5 oU
noncomputable def o4:Sg->R Fw:=(aN (iJ (e1 cJ (eV 2)) (stN 3) (bN 1 (vD (e2 dIx (e2 dIx (e2 dIx (rV 0) (eC (.int 0))) (rV 1)) (e2 mY (eC (.str "abc")) (rV 3))))))
 (bX (vV 1)))
noncomputable def fH:List A->R A:=fnF 4 o4
end Mc
namespace Mc
open PySem L2 PyProof.Rows
theorem pJ{rs:List Rw}{sg:Nat}{r:Rw}{k:Nat}(M:Mach rs sg)(d:r∈rs)(a:k < sg):r.c[k]? = some (r.c.getD k (0,0))/\nX rs.length (r.c.getD k (0,0)):=by
 have h:=M.row r d
 have b:k < r.c.length:=by rw[h.2];exact a
 have e:r.c[k]? = some (r.c.getD k (0,0)):=by rw[A5,AN b];rfl
 exact ⟨e,h.1.2.2 _ (AL e)⟩
end Mc
namespace Fl
open PySem L2 PyProof.Rows
@[simp] theorem fU(d:PyData)(ρ:Sg):eC d ρ=.ok d:=id rfl
@[simp] theorem gR{α β:Type}(g:α->R β)(f:Sg->R α)(ρ:Sg):e1 g f ρ=(f ρ).bind g:=id rfl
@[simp] theorem fV{α β γ:Type}(g:α->β->R γ)(f:Sg->R α)(a:Sg->R β)(ρ:Sg):e2 g f a ρ=(f ρ).bind fun x=>(a ρ).bind fun y=>g x y:=id rfl
@[simp] theorem wH(i:Nat)(ρ:Sg):eV i ρ=match ρ[i]? with|some (some (.d x))=>.ok x|_=>.bad:=id rfl
@[simp] theorem eQ(i:Nat)(ρ:Sg):rV i ρ=match ρ[i]? with|some (some (.d x))=>.ok x|some (some (.l xs))=>.ok (.list xs)|_=>.bad:=id rfl
@[simp] theorem qT(i:Nat)(ρ:Sg):vV i ρ=match ρ[i]? with|some (some (.d x))=>.ok (.d x)|some (some (.x e))=>.ok (.x e)|some (some (.g k n f))=>.ok (.g k n f)|some (some (.f kvs))=>.ok (.f kvs)|_=>.bad:=id rfl
@[simp] theorem kB(f:Sg->R PyData)(ρ:Sg):vD f ρ=(f ρ).bind fun x=>.ok (.d x):=id rfl
@[simp] theorem aBQ(x:PyData):getD (.d x)=.ok x:=id rfl
@[simp] theorem aFP(f:Sg->R A)(ρ:Sg):eA f ρ=(f ρ).bind getD:=id rfl
@[simp] theorem aUG(f:Sg->R (List PyData))(ρ:Sg):eL f ρ=(f ρ).bind fun xs=>.ok (.list xs):=id rfl
@[simp] theorem gH{α:Type}(ρ:Sg):(aM (α:=α)) ρ=.ok []:=id rfl
@[simp] theorem jS{α:Type}(f:Sg->R α)(g:Sg->R (List α))(ρ:Sg):aA f g ρ=(f ρ).bind fun x=>(g ρ).bind fun xs=>.ok (x::xs):=id rfl
@[simp] theorem aD5(f:Sg->R (List PyData))(ρ:Sg):d3 f ρ=(f ρ).bind fun xs=>if xs.length<=16777216 then .ok (.tuple xs) else .bad:=id rfl
@[simp] theorem lW(f:Sg->R (List PyData))(ρ:Sg):eJ f ρ=(f ρ).bind fun xs=>if xs.length<=16777216 then .ok xs else .bad:=id rfl
@[simp] theorem lX(n:Nat)(G:List A->R A)(f:Sg->R (List A))(ρ:Sg):aW n G f ρ=(f ρ).bind fun as=>if as.length=n then G as else .bad:=id rfl
@[simp] theorem f9(n:Nat)(fb:Sg->R Fw)(b:List A):fnF n fb b=(fb (b.map some++List.replicate (n - b.length) none)).bind fun w=>match w with | .rt (.l _)=>.bad | .rt a=>.ok a | .nx _=>.ok (.d .none)|_=>.bad:=id rfl
@[simp] theorem aBR(ρ:Sg):sNx ρ=.ok (.nx ρ):=id rfl
@[simp] theorem a8(f g:Sg->R Fw)(ρ:Sg):aN f g ρ=(f ρ).bind fun w=>match w with | .nx ρ'=>g ρ'|w=>.ok w:=id rfl
@[simp] theorem aM6(f:Sg->R A)(ρ:Sg):bX f ρ=(f ρ).bind fun a=>.ok (.rt a):=id rfl
@[simp] theorem aS2(ρ:Sg):aRR ρ=.ok (.rt (.d .none)):=id rfl
@[simp] theorem mZ(t:Sg->R Bool)(f g:Sg->R Fw)(ρ:Sg):sIf t f g ρ=(t ρ).bind fun b=>if b=true then f ρ else g ρ:=id rfl
@[simp] theorem aTY{α:Type}(t:Sg->R Bool)(f g:Sg->R α)(ρ:Sg):eIf t f g ρ=(t ρ).bind fun b=>if b=true then f ρ else g ρ:=id rfl
@[simp] theorem iM(i:Nat)(f:Sg->R A)(ρ:Sg):bN i f ρ=(f ρ).bind fun a=>.ok (.nx (ρ.set i (some a))):=id rfl
@[simp] theorem iX(i:Nat)(f:Sg->R (List PyData))(ρ:Sg):dW i f ρ=(f ρ).bind fun xs=>.ok (.nx (ρ.set i (some (.l xs)))):=id rfl
@[simp] theorem aS3(f:Sg->R A)(ρ:Sg):aFH f ρ=(f ρ).bind fun _=>.ok (.nx ρ):=id rfl
@[simp] theorem aP8(i:Nat)(f:Sg->R Fw)(ρ:Sg):sFz i f ρ=f (fz i ρ):=id rfl
@[simp] theorem aUH(i:Nat)(ρ:Sg):fz i ρ=match ρ[i]? with|some (some (.l xs))=>ρ.set i (some (.d (.list xs)))|_=>ρ:=id rfl
@[simp] theorem xW(i:Nat)(f:Sg->R PyData)(ρ:Sg):fY i f ρ=match ρ[i]? with|some (some (.l xs))=>(f ρ).bind fun x=>if xs.length < 16777216 then .ok (.nx (ρ.set i (some (.l (xs++[x]))))) else .bad|_=>.bad:=id rfl
@[simp] theorem aTF(fs:PyData->Sg->Option Sg)(f:Sg->R PyData)(ρ:Sg):lV fs f ρ=(f ρ).bind fun x=>(aBE (fs x ρ)).bind fun ρ'=>.ok (.nx ρ'):=id rfl
@[simp] theorem jB(a:Sg->R (List PyData))(fs:PyData->Sg->Option Sg)(fb:Sg->R Fw)(ρ:Sg):iJ a fs fb ρ=(a ρ).bind fun xs=>jN fs fb xs ρ:=id rfl
@[simp] theorem uZ(js:List (Option Nat))(a:Sg->R (List PyData))(fs:PyData->Sg->Option Sg)(b:Sg->R Bool)(fe:Sg->R PyData)(ρ:Sg):fR js a fs b fe ρ=(a ρ).bind fun xs=>compL fs b fe (gL js ρ) xs:=id rfl
@[simp] theorem aSD(cn:Str)(fs:List Str)(f:Sg->R (List PyData))(ρ:Sg):v6 cn fs f ρ=(f ρ).bind fun xs=>if xs.length=fs.length then .ex ⟨cn,fs.zip xs⟩ else .bad:=id rfl
@[simp] theorem aBS(i:Nat)(x:PyData)(ρ:Sg):stN i x ρ=some (ρ.set i (some (.d x))):=id rfl
@[simp] theorem aTZ(fs:List (PyData->Sg->Option Sg))(xs:List PyData)(ρ:Sg):stT fs (.tuple xs) ρ=stL fs xs ρ:=id rfl
@[simp] theorem aTG(ρ:Sg):stL [] [] ρ=some ρ:=id rfl
@[simp] theorem aS4(f:PyData->Sg->Option Sg)(fs:List (PyData->Sg->Option Sg))(x:PyData)(xs:List PyData)(ρ:Sg):stL (f::fs) (x::xs) ρ=(f x ρ).bind (stL fs xs):=id rfl
@[simp] theorem aD6(ρ:Sg):gS ρ=.ok true:=id rfl
@[simp] theorem lF(b:Bool):asB (.bool b)=.ok b:=id rfl
@[simp] theorem aTH(f:Sg->R Bool)(ρ:Sg):qI f ρ=(f ρ).bind fun b=>.ok (!b):=id rfl
@[simp] theorem lY(f g:Sg->R Bool)(ρ:Sg):jM f g ρ=(f ρ).bind fun b=>if b=true then g ρ else .ok false:=id rfl
@[simp] theorem aT0(f g:Sg->R Bool)(ρ:Sg):bOr f g ρ=(f ρ).bind fun b=>if b=true then .ok true else g ρ:=id rfl
@[simp] theorem aTI(f:Sg->R PyData)(ρ:Sg):aJI f ρ=(f ρ).bind fun x=>(asB x).bind fun b=>.ok (.bool (!b)):=id rfl
@[simp] theorem aTJ(f g:Sg->R PyData)(ρ:Sg):aBA f g ρ=(f ρ).bind fun x=>(asB x).bind fun b=>if b=true then g ρ else .ok (.bool false):=id rfl
@[simp] theorem aT1(f g:Sg->R PyData)(ρ:Sg):eOr f g ρ=(f ρ).bind fun x=>(asB x).bind fun b=>if b=true then .ok (.bool true) else g ρ:=id rfl
@[simp] theorem aT2(g g':PyData->PyData->R PyData)(a fb b:Sg->R PyData)(ρ:Sg):eCh g g' a fb b ρ=(a ρ).bind fun x=>(fb ρ).bind fun y=>(g x y).bind fun z=>(asB z).bind fun k=>if k=true then (b ρ).bind fun w=>g' y w else .ok (.bool false):=id rfl
@[simp] theorem aBT{α:Type}(g:PyData->Option Int->Option Int->R α)(f:Sg->R PyData)(lo hi:Sg->R (Option Int))(ρ:Sg):eSl g f lo hi ρ=(f ρ).bind fun x=>(lo ρ).bind fun l=>(hi ρ).bind fun h=>g x l h:=id rfl
@[simp] theorem aBU(ρ:Sg):oNo ρ=.ok none:=id rfl
@[simp] theorem aBV(f:Sg->R PyData)(ρ:Sg):oSo f ρ=(f ρ).bind fun x=>match x with | .int i=>.ok (some i)|_=>.bad:=id rfl
@[simp] theorem lG(f:Sg->R PyData)(ρ:Sg):dJ f ρ=(f ρ).bind fun x=>match x with | .int j=>gK 0 j|_=>.bad:=id rfl
@[simp] theorem aFQ(f g:Sg->R PyData)(ρ:Sg):xL f g ρ=(f ρ).bind fun x=>(g ρ).bind fun y=>match x,y with | .int i,.int j=>gK i j|_,_=>.bad:=id rfl
@[simp] theorem aTK(f:Sg->R PyData)(g:Sg->R (Option Int))(ρ:Sg):aSU f g ρ=(f ρ).bind fun x=>(g ρ).bind fun o=>if o=some (-1) then aPN x else .bad:=id rfl
@[simp] theorem aTL(i:Nat)(g:PyData->PyData->R PyData)(f:Sg->R PyData)(ρ:Sg):aFI i g f ρ=(eV i ρ).bind fun x=>(f ρ).bind fun y=>(g x y).bind fun z=>.ok (.nx (ρ.set i (some (.d z)))):=id rfl
@[simp] theorem oC(i:Nat)(ρ:Sg):qM i ρ=.ok (.nx (ρ.set i (some (.m [])))):=id rfl
@[simp] theorem aD7(neg:Bool)(i:Nat)(f:Sg->R PyData)(ρ:Sg):n4 neg i f ρ=(f ρ).bind fun k=>match ρ[i]? with|some (some (.m kvs))=>if cI k (kvs.map (·.1))=true then .ok (.bool (if neg=true then !dM kvs k else dM kvs k)) else .bad|some (some (.f kvs))=>if cI k (kvs.map (·.1))=true then .ok (.bool (if neg=true then !dM kvs k else dM kvs k)) else .bad|_=>.bad:=id rfl
@[simp] theorem aBW(i:Nat)(f:Sg->R PyData)(ρ:Sg):qO i f ρ=match ρ[i]? with|some (some (.m kvs))=>(f ρ).bind fun k=>if cI k (kvs.map (·.1))=true then (match fZ kvs k with|some v=>.ok v|none=>.bad) else .bad|some (some (.f kvs))=>(f ρ).bind fun k=>if cI k (kvs.map (·.1))=true then (match fZ kvs k with|some v=>.ok v|none=>.bad) else .bad|_=>.bad:=id rfl
@[simp] theorem aJ1(i:Nat)(f g:Sg->R PyData)(ρ:Sg):mJ i f g ρ=(g ρ).bind fun v=>match ρ[i]? with|some (some (.m kvs))=>(f ρ).bind fun k=>if cI k (kvs.map (·.1))=true/\kvs.length<=16777216 then .ok (.nx (ρ.set i (some (.m (putM kvs k v))))) else .bad|_=>.bad:=id rfl
@[simp] theorem lH(i j:Int):bL (.int i) (.int j)=.ok (.int (i+j)):=id rfl
@[simp] theorem sI(i j:Int):dSub (.int i) (.int j)=.ok (.int (i - j)):=id rfl
@[simp] theorem aTM(i j:Int):tL (.int i) (.int j)=.ok (.int (i+j)):=id rfl
@[simp] theorem aT3(i:Int):dNeg (.int i)=.ok (.int (-i)):=id rfl
@[simp] theorem wI(i j:Int):dLt (.int i) (.int j)=.ok (.bool (decide (i < j))):=id rfl
@[simp] theorem aUI(i j:Int):dLe (.int i) (.int j)=.ok (.bool (decide (i<=j))):=id rfl
@[simp] theorem aLG(i j:Int):dGt (.int i) (.int j)=.ok (.bool (decide (j < i))):=id rfl
@[simp] theorem aUJ(i j:Int):dGe (.int i) (.int j)=.ok (.bool (decide (j<=i))):=id rfl
theorem dB{i j:Int}(h:0 < j):dMod (.int i) (.int j)=.ok (.int (i % j)):=AD h
theorem jT{i j:Int}(h:0 < j)(h2:j < 18446744073709551616):dDiv (.int i) (.int j)=.ok (.int (i / j)):=AD ⟨h,h2⟩
theorem sJ{i j:Int}(h : -18446744073709551616 < j)(h2:j < 18446744073709551616):dMul (.int i) (.int j)=.ok (.int (i * j)):=AD (.inr ⟨h,h2⟩)
theorem pK{i j:Int}(h : -18446744073709551616 < i)(h2:i < 18446744073709551616):dMul (.int i) (.int j)=.ok (.int (i * j)):=AD (.inl ⟨h,h2⟩)
@[simp] theorem gM(xs:List PyData):dLen (.list xs)=.ok (.int xs.length):=id rfl
@[simp] theorem wJ(xs:List PyData):dLen (.tuple xs)=.ok (.int xs.length):=id rfl
theorem aBX{z:Str}(h:z.length<=16777216):dLen (.str z)=.ok (.int z.length):=AD h
@[simp] theorem aHV(xs:List PyData):dTup (.list xs)=.ok (.tuple xs):=id rfl
@[simp] theorem aT4(xs:List PyData):dTup (.tuple xs)=.ok (.tuple xs):=id rfl
@[simp] theorem aT5(xs:List PyData):aPK (.list xs)=.ok xs:=id rfl
@[simp] theorem aT6(xs:List PyData):aPK (.tuple xs)=.ok xs:=id rfl
@[simp] theorem aT7(i:Int):dInt (.int i)=.ok (.int i):=id rfl
@[simp] theorem aT8(b:Bool):dInt (.bool b)=.ok (.int (if b=true then 1 else 0)):=id rfl
@[simp] theorem aUK(x:PyData):dIs x .none=.ok (.bool (hU x)):=id rfl
@[simp] theorem aTN(x:PyData):dIsnt x .none=.ok (.bool (!hU x)):=id rfl
@[simp] theorem aTO:hU .none=true:=id rfl
@[simp] theorem aTP(xs:List PyData):hU (.tuple xs)=false:=id rfl
@[simp] theorem aTQ(i:Int):hU (.int i)=false:=id rfl
@[simp] theorem aTR(i:Str):hU (.str i)=false:=id rfl
theorem pL{α:Type}{xs:List α}{i:Int}{v:α}(h0:0<=i)(h:xs[i.toNat]? = some v):atI xs i=some v:=by
 obtain ⟨j,rfl⟩:∃ j:Nat,i=j:=⟨i.toNat,by omega⟩
 exact dX (j:=j) h
theorem aBY{α:Type}(x:α)(t:List α):atI (x::t) 0=some x:=dX (j:=0) rfl
theorem aD8{α:Type}(x y:α)(t:List α):atI (x::y::t) 1=some y:=dX (j:=1) rfl
theorem aM7{α:Type}(x y z:α)(t:List α):atI (x::y::z::t) 2=some z:=dX (j:=2) rfl
theorem hV{xs:List PyData}{i:Int}{v:PyData}(h:atI xs i=some v):dIx (.tuple xs) (.int i)=.ok v:=by show (match atI xs i with|some v=>R.ok v|none=>.bad)=_;rw[h]
theorem oV{xs:List PyData}{i:Int}{v:PyData}(h:atI xs i=some v):dIx (.list xs) (.int i)=.ok v:=by show (match atI xs i with|some v=>R.ok v|none=>.bad)=_;rw[h]
theorem aLH{z:Str}{i:Int}{u:Nat}(a:z.length<=16777216)(h:atI z.cps.toList i=some u):dIx (.str z) (.int i)=.ok (.str ⟨#[u]⟩):=by
 show (if z.length<=sizeLine then match atI z.cps.toList i with|some u=>R.ok (PyData.str ⟨#[u]⟩)|none=>.bad else .bad)=_
 rw[dI,AD a,h]
@[simp] theorem aBZ(x:PyData)(t:List PyData):dIx (.tuple (x::t)) (.int 0)=.ok x:=hV (aBY x t)
@[simp] theorem aP9(x y:PyData)(t:List PyData):dIx (.tuple (x::y::t)) (.int 1)=.ok y:=hV (aD8 x y t)
@[simp] theorem aT9(x y z:PyData)(t:List PyData):dIx (.tuple (x::y::z::t)) (.int 2)=.ok z:=hV (aM7 x y z t)
@[simp] theorem aQA(x:PyData)(t:List PyData):dIx (.list (x::t)) (.int 0)=.ok x:=oV (aBY x t)
@[simp] theorem aQB(x y:PyData)(t:List PyData):dIx (.list (x::y::t)) (.int 1)=.ok y:=oV (aD8 x y t)
theorem aB0{xs:List PyData}(h:xs.length<=16777216):cJ (.tuple xs)=.ok xs:=AD h
theorem kM{xs:List PyData}(h:xs.length<=16777216):cJ (.list xs)=.ok xs:=AD h
theorem u0{z:Str}(h:z.cps.toList.length<=16777216):cJ (.str z)=.ok (z.cps.toList.map fun u=>.str ⟨#[u]⟩):=AD h
theorem aB1{x y:PyData}(hx:SeqAt.shaped x=true)(a:SeqAt.shaped y=true):dEq x y=.ok (.bool (PyData.eqv x y)):=AD ⟨hx,a⟩
theorem aB2{x y:PyData}(hx:SeqAt.shaped x=true)(a:SeqAt.shaped y=true):dNe x y=.ok (.bool (!PyData.eqv x y)):=AD ⟨hx,a⟩
@[simp] theorem aUA(T:String)(i:Int):iK T (.int i)=.ok (.bool (iV "int" T)):=id rfl
@[simp] theorem aUB(T:String)(i:Str):iK T (.str i)=.ok (.bool (iV "str" T)):=id rfl
@[simp] theorem aQC(T:String)(i:List PyData):iK T (.tuple i)=.ok (.bool (iV "tuple" T)):=id rfl
@[simp] theorem aUC(T:String)(i:List PyData):iK T (.list i)=.ok (.bool (iV "list" T)):=id rfl
@[simp] theorem aUD(T:String)(i:Bool):iK T (.bool i)=.ok (.bool (iV "bool" T)):=id rfl
@[simp] theorem aUE(T:String):iK T .none=.ok (.bool (iV "NoneType" T)):=id rfl
theorem aR0{xs:List PyData}{lo hi:Option Int}(h:¬ (HT.sIx xs.length 0 lo=0/\HT.sIx xs.length xs.length hi=xs.length)):dSl (.tuple xs) lo hi=.ok (.tuple (kI xs lo hi)):=by
 unfold dSl;exact AD h
theorem z0(xs:List PyData)(lo hi:Option Int):dSl (.list xs) lo hi=.ok (.list (kI xs lo hi)):=id rfl
theorem aR1{z:Str}{lo hi:Option Int}(h:z.length<=16777216):dSl (.str z) lo hi=.ok (.str (Txt.slice z lo hi)):=by
 unfold dSl;exact AD h
theorem aQD{xs ys:List PyData}(h:xs.isEmpty=false)(h2:xs.length+ys.length<=16777216):bL (.tuple xs) (.tuple ys)=.ok (.tuple (xs++ys)):=by
 unfold bL;exact AD ⟨h,by rw[dI];exact h2⟩
theorem aB3{x y:Str}(h:x.length+y.length<=16777216):bL (.str x) (.str y)=.ok (.str (x++y)):=by
 unfold bL;exact AD (by rw[dI];exact h)
theorem fF{α:Type}{fs:PyData->Sg->Option Sg}{fe:Sg->R PyData}{ρ0:Sg}{d:α->PyData}{g:α->PyData}:∀ {xs:List α},(∀ x∈xs,∃ ρ1,fs (d x) ρ0=some ρ1/\fe ρ1=.ok (g x))->compL fs gS fe ρ0 (xs.map d)=.ok (xs.map g)
 | [],_=>rfl
 | x::t,h=>by
  obtain ⟨ρ1,h1,h2⟩:=h x AX
  rw[AT]
  unfold compL
  rw[h1,fF fun y a=>h y (AM _ a),r9,R.bind_ok,aD6,R.noEx_ok,R.bind_ok,AD rfl,h2];rfl
theorem f6{α:Type}{fs:PyData->Sg->Option Sg}{fb:Sg->R Fw}{d:α->PyData}{xs:List α}{ρ:Sg}(J:Nat->Sg->Prop)(h0:J 0 ρ)(a:∀ (i:Nat) (x:α) (ρ:Sg),xs[i]? = some x->J i ρ->∃ ρ1 ρ2,fs (d x) ρ=some ρ1/\(fb ρ1=.ok (.nx ρ2)\/fb ρ1=.ok (.ct ρ2))/\J (i+1) ρ2) :
  ∃ ρ',jN fs fb (xs.map d) ρ=.ok (.nx ρ')/\J xs.length ρ':=by
 induction xs generalizing ρ J with
 | nil=>exact ⟨ρ,rfl,h0⟩
 | cons x t ih=>
  obtain ⟨ρ1,ρ2,h1,h2,c⟩:=a 0 x ρ rfl h0
  obtain ⟨ρ',e,b⟩:=ih (ρ:=ρ2) (fun i=>J (i+1)) c (fun i y ρ g f=>a (i+1) y ρ (by simpa using g) f)
  refine ⟨ρ',?_,b⟩
  rw[AT]
  unfold jN
  rw[h1,r9,R.bind_ok]
  rcases h2 with h2|h2<;>rw[h2]<;>exact e
theorem eY{t:Sg->R Bool}{b:Sg->R Fw}{ρ a:Sg}(h1:t ρ=.ok true)(h2:b ρ=.ok (.nx a)):bS t b ρ=bS t b a:=by
 rw[sB,h1,R.bind_ok,AD rfl,h2];rfl
theorem jU{t:Sg->R Bool}{b:Sg->R Fw}{ρ:Sg}{a:A}(h1:t ρ=.ok true)(h2:b ρ=.ok (.rt a)):bS t b ρ=.ok (.rt a):=by
 rw[sB,h1,R.bind_ok,AD rfl,h2];rfl
theorem dC{t:Sg->R Bool}{b:Sg->R Fw}{ρ:Sg}(h1:t ρ=.ok false):bS t b ρ=.ok (.nx ρ):=by
 rw[sB,h1,R.bind_ok,AE (by decide)]
def been{α:Type}(d:α->PyData)(ps:List α):List (PyData×PyData):=ps.map fun p=>(d p,.bool true)
theorem sK{α:Type}(d:α->PyData)(ps:List α):(been d ps).map (·.1)=ps.map d:=by unfold been;rw[CC];rfl
theorem oE{α:Type}{d:α->PyData}(c:∀ a b,d a=d b->a=b){ps:List α}{p:α}:dM (been d ps) (d p)=true↔p∈ps:=by
 rw[uU,sK,BA]
 exact ⟨fun ⟨q,h1,h2⟩=>c q p h2▸h1,fun h=>⟨p,h,rfl⟩⟩
theorem iQ{α:Type}{d:α->PyData}(c:∀ a b,d a=d b->a=b){ps:List α}{p:α}(h:p∉ps):dM (been d ps) (d p)=false:=by
 cases q:dM (been d ps) (d p) with
 | false=>rfl
 | true=>exact absurd ((oE c).mp q) h
theorem lZ{α:Type}{d:α->PyData}(c:∀ a b,d a=d b->a=b){ps:List α}{p:α}(h:p∉ps):putM (been d ps) (d p) (.bool true)=been d (ps++[p]):=by
 unfold putM
 rw[iQ c h,AE (by decide)]
 unfold been
 rw[BK];rfl
theorem jV{α:Type}{d:α->PyData}(b:∀ a,jF (d a)=true)(ps:List α)(p:α):cI (d p) ((been d ps).map (·.1))=true:=by
 unfold cI
 rw[sK,b,FQ,CT,BW]
 refine .inl fun x c=>?_
 obtain ⟨q,_,rfl⟩:=BA.mp c
 exact b q
theorem jW{α:Type}(d:α->PyData)(ps:List α):(been d ps).length=ps.length:=by unfold been;rw[AB]
def prD(p:Int×Int):PyData:=.tuple [.int p.1,.int p.2]
theorem k7(a b:Int×Int)(h:prD a=prD b):a=b:=by
 unfold prD at h
 injection h with h
 injection h with h1 h2
 injection h2 with h2 _
 injection h1 with h1
 injection h2 with h2
 exact Prod.ext h1 h2
theorem l0(a:Int×Int):jF (prD a)=true:=rfl
end Fl
namespace Mc
open PySem L2 PyProof.Rows Fl
theorem aD9{r:Rw}{rs:List Rw}:gW [.d (bH (r::rs))]=.ok (.d (.int r.c.length)):=by
 simp[gW,qR,bH,cV]
theorem aJ2{n:Nat}(h1:1<=n)(e:n<=3)(z:Str):∀ (cs:List Nat) (k:Nat) (u3 u4:Option A),
  jN (stT [stN 3,stN 4]) (sIf (e1 asB (e2 dNin (rV 4) (rV 2))) (v6 "NoStrip" ["at"] (aA (eV 3) aM)) sNx) (kJ k (cs.map fun u=>.str ⟨#[u]⟩)) [some (.d (.int n)),some (.d (.str z)),some (.d (.str (Txt.slice "abc" none (some (n:Int))))),u3,u4] =
  match mF n k cs with
  | some i=>.ex ⟨"NoStrip",[("at",.int i)]⟩
  | none=>.ok (.nx [some (.d (.int n)),some (.d (.str z)),some (.d (.str (Txt.slice "abc" none (some (n:Int))))),if cs=[] then u3 else some (.d (.int ((k+cs.length - 1:Nat):Int))),if cs=[] then u4 else (cs.getLast?.map fun u=>A.d (.str ⟨#[u]⟩))]):=by
 intro cs
 induction cs with
 | nil=>intro k u3 u4;rfl
 | cons c t ih=>
  intro k u3 u4
  have a:dNin (.str ⟨#[c]⟩) (.str (Txt.slice "abc" none (some (n:Int))))=.ok (.bool (!cH n c)):=by
   show R.ok (PyData.bool (!_))=_
   rw[aI7 h1 e]
  rw[AT,kJ]
  unfold jN
  rw[vR]
  cases b:cH n c with
  | false=>simp[a,b]
  | true=>
   simp[a,b,ih]
   cases mF n (k+1) t with
   | some i=>rfl
   | none=>
    simp
    cases t with
    | nil=>simp
    | cons c' t'=>simp<;>try omega
theorem aR2{n:Nat}(h1:1<=n)(b:n<=3){z:Str}(a:z.cps.toList.length<=16777216):jP [.d (.int n),.d (.str z)]=match mF n 0 z.cps.toList with
  | some i=>.ex ⟨"NoStrip",[("at",.int i)]⟩
  | none=>.ok (.d (.str z)):=by
 have c:dSl (.str "abc") none (some (n:Int))=.ok (.str (Txt.slice "abc" none (some (n:Int)))):=by
  show (if ("abc":Str).length<=16777216 then R.ok _ else .bad)=_
  exact AD (by decide)
 have e:zY (.str z)=.ok (kJ 0 (z.cps.toList.map fun u=>.str ⟨#[u]⟩)):=by
  show (if z.cps.toList.length<=16777216 then R.ok _ else .bad)=_
  exact AD a
 simp only[jP,oA,f9,a8,iM,kB,aBT,fU,aBU,aBV,R.bind_ok,eQ,jB,gR,wH,AT,BD,BO,BL,AW,A8]
 simp only[List.replicate,AQ,AK,c,R.bind_ok,A2,AY,e,aJ2 h1 b]
 cases mF n 0 z.cps.toList with
 | some i=>rfl
 | none=>rfl
theorem Mach.cons{rs:List Rw}{sg:Nat}(M:Mach rs sg):∃ r t,rs=r::t/\r.c.length=sg:=by
 cases rs with
 | nil=>have:=M.len;simp at this
 | cons r t=>exact ⟨r,t,rfl,(M.row r AX).2⟩
theorem aQE{rs:List Rw}{sg:Nat}(M:Mach rs sg){z:Str}(a:z.cps.toList.length<=16777216):jQ [.d (bH rs),.d (.str z)]=match mF sg 0 z.cps.toList with
  | some i=>.ex ⟨"NoStrip",[("at",.int i)]⟩
  | none=>.ok (.d (.str z)):=by
 obtain ⟨r,t,rfl,b⟩:=M.cons
 simp[jQ,sE,aD9,b,aR2 M.sg1 M.sg3 a]
 cases mF sg 0 z.cps.toList<;>rfl
theorem aJ3{rs:List Rw}{sg:Nat}(M:Mach rs sg){z:Str}(S:bC sg z.cps.toList):jQ [.d (bH rs),.d (.str z)]=.ok (.d (.str z)):=by
 rw[aQE M (by have:=S.1;omega),aAS S.2]
def ck(k:Nat)(r:Rw):Int×Int:=r.c.getD k (0,0)
theorem aM8{rs:List Rw}{sg k:Nat}(M:Mach rs sg)(a:k < sg):kA [.d (bH rs),.d (.int k)]=.ok (.d (.list (rs.map fun r=>d4 (ck k r)))):=by
 have h:=fF (fs:=stN 0) (fe:=e2 dIx (e2 dIx (rV 0) (eC (.int 1))) (rV 1)) (ρ0:=[none,some (.d (.int k))]) (d:=cV) (g:=fun r=>d4 (ck k r)) (xs:=rs) fun r b=>by
  refine ⟨_,rfl,?_⟩
  have e:dIx (.tuple (r.c.map d4)) (.int (k:Int))=.ok (d4 (ck k r)):=hV (dX (j:=k) (by rw[AH,(pJ M b a).1];rfl))
  simp[cV,e]
 have f:(rs.map cV).length<=16777216:=by have:=M.len2;rw[AB];omega
 simp[kA,qS,bH,aB0 f,gL,h]
theorem gF{n:Nat}(h:n<=16777216):gK 0 (n:Int)=.ok ((List.range n).map fun i:Nat=>.int (i:Int)):=by
 unfold gK
 rw[AD (by omega)]
 unfold mV
 simp
theorem aHW(z y:Str):mY (.str z) (.str y)=match Builtin.Str.occurrences z y 0 z.length 1 with|i::_=>R.ok (PyData.int i)|[]=>.bad:=rfl
theorem xX{c:Nat}(h:cH 3 c=true):mY (.str "abc") (.str ⟨#[c]⟩)=.ok (.int ((c - 97:Nat):Int)):=by
 obtain ⟨r,e⟩:=aG1 h
 rw[aHW,e]
theorem u1{n c:Nat}(a:n<=3)(h:cH n c=true):cH 3 c=true:=A3 (by have:=BY h;omega)
theorem nL(i:Int):SeqAt.shaped (.int i)=true:=id rfl
theorem aHX(i j:Int):PyData.eqv (.int i) (.int j)=decide (i=j):=by
 rw[PyData.eqv.eq_5]
 by_cases h:i=j
 · simp [h]
 · simp [h]
theorem dS(i j:Int):dEq (.int i) (.int j)=.ok (.bool (decide (i=j))):=by rw[aB1 (nL i) (nL j),aHX]
noncomputable def mL:Sg->R Fw:=(aN (bN 2 (vD (eC (.int 0))))
 (aN (sIf (e1 asB (e2 dGt (e1 dLen (rV 0)) (eC (.int 0)))) (bN 2 (vD (e2 dIx (rV 0) (e2 dMod (rV 1) (e1 dLen (rV 0)))))) sNx)
 (aN (bN 3 (vD (e2 dMod (e2 dMul (e2 bL (e2 bL (e2 dMod (rV 2) (eC (.int 2147483647))) (e2 dMul (eC (.int 7919)) (rV 1))) (eC (.int 1))) (eC (.int 48271))) (eC (.int 2147483647)))))
 (bX (vD (e2 bL (e2 dMul (e2 dDiv (rV 2) (eC (.int 2147483647))) (eC (.int 2147483659))) (e2 dMod (e2 bL (e2 dMul (rV 3) (eC (.int 69621))) (e2 dMul (eC (.int 104729)) (rV 1))) (eC (.int 2147483659)))))))))
noncomputable def bD:List A->R A:=fnF 4 mL
noncomputable def nM:Sg->R Fw:=(aN (sIf (e1 asB (e2 dEq (e2 dMod (rV 0) (eC (.int 3))) (eC (.int 0)))) (bX (vD (e2 dIx (eL (eJ (aA (eC (.str "by")) (aA (eC (.str "out")) aM)))) (e2 dMod (e2 dDiv (rV 0) (eC (.int 3))) (eC (.int 2)))))) sNx)
 (bX (vD (e2 dMod (e2 dDiv (rV 0) (eC (.int 3))) (rV 1)))))
noncomputable def gY:List A->R A:=fnF 2 nM
noncomputable def kN:Sg->R Fw:=(aN (bN 3 (vD (e2 dMod (rV 0) (e2 bL (rV 1) (eC (.int 2))))))
 (aN (bN 0 (vD (e2 dDiv (rV 0) (e2 bL (rV 1) (eC (.int 2))))))
 (aN (dW 4 (eJ aM))
 (aN (iJ (dJ (rV 2)) (stN 5) (aN (fY 4 (d3 (aA (e2 dMod (e2 dDiv (rV 0) (eC (.int 2))) (rV 1)) (aA (e2 dSub (eC (.int 1)) (e2 dMul (e2 dMod (rV 0) (eC (.int 2))) (eC (.int 2)))) aM))))
 (bN 0 (vD (e2 dDiv (rV 0) (e2 dMul (eC (.int 2)) (rV 1)))))))
 (aN (dW 6 (eJ (aA (eV 3) (aA (e2 dMod (rV 0) (e2 bL (rV 1) (eC (.int 2)))) aM))))
 (aN (dW 6 (fR [none,some 1] (e1 cJ (rV 6)) (stN 0) gS (eIf (e1 asB (e2 dGe (rV 0) (rV 1))) (e2 dIx (eL (eJ (aA (eC (.str "by")) (aA (eC (.str "out")) aM)))) (e2 dSub (rV 0) (rV 1))) (eV 0))))
 (bX (vD (d3 (aA (e2 dIx (rV 6) (eC (.int 0))) (aA (e1 dTup (rV 4)) (aA (e2 dIx (rV 6) (eC (.int 1))) aM))))))))))))
noncomputable def fG:List A->R A:=fnF 7 kN
noncomputable def kO:Sg->R Fw:=(aN (dW 3 (eJ aM))
 (aN (iJ (dJ (e2 bL (rV 2) (eC (.int 2)))) (stN 4) (aN (bN 0 (vD (e2 dMod (e2 bL (e2 dMul (rV 0) (eC (.int 48271))) (eC (.int 7919))) (eC (.int 2147483647)))))
 (fY 3 (e2 dDiv (rV 0) (eC (.int 64))))))
 (aN (bN 5 (vD (e1 dTup (eL (fR [none,some 1] (e1 cJ (eSl dSl (rV 3) (oSo (eC (.int 2))) oNo)) (stN 0) gS (d3 (aA (e2 dMod (rV 0) (rV 1)) (aA (e2 dSub (eC (.int 1)) (e2 dMul (e2 dDiv (e2 dMod (e2 dDiv (rV 0) (eC (.int 64))) (eC (.int 3))) (eC (.int 2))) (eC (.int 2)))) aM))))))))
 (bX (vD (d3 (aA (eA (aW 2 gY (aA (vD (e2 dIx (rV 3) (eC (.int 0)))) (aA (vV 1) aM)))) (aA (eV 5) (aA (eA (aW 2 gY (aA (vD (e2 dIx (rV 3) (eC (.int 1)))) (aA (vV 1) aM)))) aM)))))))))
noncomputable def d6:List A->R A:=fnF 6 kO
noncomputable def l5:Sg->R Fw:=(aN (dW 4 (eJ aM))
 (aN (iJ (dJ (rV 2)) (stN 5) (sIf (jM (e1 asB (e2 dLt (e2 bL (rV 1) (rV 5)) (e1 dLen (rV 0)))) (e1 asB (e2 dEq (e2 dMod (e2 dIx (rV 0) (eC (.int 0))) (eC (.int 2))) (eC (.int 1))))) (fY 4 (eA (aW 3 fG (aA (vD (e2 dIx (rV 0) (e2 bL (rV 1) (rV 5)))) (aA (vV 2) (aA (vV 3) aM)))))) (aN (bN 6 (aW 3 d6 (aA (vD (e2 dMod (eA (aW 2 bD (aA (vV 0) (aA (vD (e2 bL (rV 1) (rV 5))) aM)))) (eC (.int 2147483647)))) (aA (vV 2) (aA (vV 3) aM)))))
 (aN (sIf (jM (e1 asB (e2 dEq (rV 5) (eC (.int 0)))) (jM (e1 asB (e1 (iK "str") (e2 dIx (rV 6) (eC (.int 0))))) (e1 asB (e2 dGt (e2 dMod (e2 dDiv (eA (aW 2 bD (aA (vV 0) (aA (vV 1) aM)))) (eC (.int 8))) (eC (.int 8))) (eC (.int 0)))))) (bN 6 (vD (e2 bL (d3 (aA (e2 dMod (e2 dDiv (eA (aW 2 bD (aA (vV 0) (aA (vV 1) aM)))) (eC (.int 64))) (rV 2)) aM)) (eSl dSl (rV 6) (oSo (eC (.int 1))) oNo)))) sNx)
 (fY 4 (eV 6))))))
 (bX (vD (e1 dTup (rV 4))))))
noncomputable def eH:List A->R A:=fnF 7 l5
noncomputable def jX:Sg->R Fw:=(aN (sIf (jM (e1 asB (e2 dLt (rV 1) (e1 dLen (rV 0)))) (e1 asB (e2 dEq (e2 dMod (e2 dIx (rV 0) (eC (.int 0))) (eC (.int 2))) (eC (.int 1))))) (aN (bN 4 (vD (e2 dIx (rV 0) (rV 1))))
 (aN (bN 5 (vD (eC (.str ""))))
 (aN (iJ (dJ (rV 2)) (stN 6) (aN (bN 5 (vD (e2 bL (rV 5) (e2 dIx (eC (.str "abc")) (e2 dMod (rV 4) (rV 3))))))
 (bN 4 (vD (e2 dDiv (rV 4) (rV 3))))))
 (bX (vV 5))))) sNx)
 (bX (vD (e2 zX (eC (.str "")) (eL (fR [none,some 0,some 1,some 3] (dJ (rV 2)) (stN 0) gS (e2 dIx (eC (.str "abc")) (e2 dMod (eA (aW 2 bD (aA (vV 1) (aA (vD (e2 bL (rV 2) (rV 0))) aM)))) (rV 3)))))))))
noncomputable def dN:List A->R A:=fnF 7 jX
noncomputable def oF:Sg->R Fw:=(bX (vD (aBA (e1 (iK "int") (rV 0)) (aJI (e1 (iK "bool") (rV 0))))))
noncomputable def iN:List A->R A:=fnF 1 oF
noncomputable def o5:Sg->R Fw:=(aN (lV (stT [(stN 3),(stN 4)]) (eV 2))
 (aN (lV (stT [(stN 5),(stN 6),(stN 7)]) (e2 dIx (rV 0) (rV 4)))
 (aN (sIf (bOr (e1 asB (e2 dEq (rV 3) (eC (.int 0)))) (e1 asB (e2 dGt (rV 3) (e1 dLen (rV 1))))) (aN (bN 8 (vD (e2 dIx (eL (eJ (aA (eV 5) (aA (eV 7) aM)))) (e1 dInt (e2 dGt (rV 3) (eC (.int 0)))))))
 (aN (sIf (e1 asB (e1 (iK "str") (rV 8))) (bX (vD (eC .none))) sNx)
 (bX (vD (d3 (aA (e2 dIx (eL (eJ (aA (eC (.int 1)) (aA (e1 dLen (rV 1)) aM)))) (e1 dInt (e2 dGt (rV 3) (eC (.int 0))))) (aA (eV 8) aM))))))) sNx)
 (aN (lV (stT [(stN 8),(stN 9)]) (e2 dIx (rV 6) (e2 mY (eC (.str "abc")) (e2 dIx (rV 1) (e2 dSub (rV 3) (eC (.int 1)))))))
 (bX (vD (d3 (aA (e2 bL (rV 3) (rV 9)) (aA (eV 8) aM)))))))))
noncomputable def fJ:List A->R A:=fnF 10 o5
noncomputable def u7:Sg->R Bool:=(e1 asB (n4 true 3 (e2 dIx (rV 2) (e1 dNeg (eC (.int 1))))))
noncomputable def u8:Sg->R Fw:=(aN (mJ 3 (e2 dIx (rV 2) (e1 dNeg (eC (.int 1)))) (eC (.bool true)))
 (aN (bN 4 (aW 3 fJ (aA (vV 0) (aA (vV 1) (aA (vD (e2 dIx (rV 2) (e1 dNeg (eC (.int 1))))) aM)))))
 (aN (sIf (e1 asB (e2 dIs (rV 4) (eC .none))) (sFz 2 (bX (vV 2))) sNx)
 (fY 2 (eV 4)))))
noncomputable def m8:Sg->R Fw:=aN (dW 2 (eJ (aA (d3 (aA (eC (.int 0)) (aA (eC (.int 0)) aM))) aM))) (aN (qM 3) (aN (bS u7 u8) (sFz 2 (bX (vV 2)))))
noncomputable def i9:List A->R A:=fnF 5 m8
noncomputable def o6:Sg->R Fw:=(aN (lV (stT [(stN 2),(stN 3)]) (e2 dIx (eA (aW 2 i9 (aA (vV 0) (aA (vV 1) aM)))) (e1 dNeg (eC (.int 1)))))
 (aN (sIf (e1 asB (e2 dIsnt (eA (aW 3 fJ (aA (vV 0) (aA (vV 1) (aA (vD (d3 (aA (eV 2) (aA (eV 3) aM)))) aM))))) (eC .none))) (bX (vD (eC (.str "ever")))) sNx)
 (bX (vD (e2 dIx (eL (eJ (aA (e2 dIx (e2 dIx (rV 0) (rV 3)) (eC (.int 0))) (aA (e2 dIx (e2 dIx (rV 0) (rV 3)) (eC (.int 2))) aM)))) (e1 dInt (e2 dGt (rV 2) (eC (.int 0)))))))))
noncomputable def eN:List A->R A:=fnF 4 o6
noncomputable def byT:Sg->R Bool:=(e1 asB (e2 dLe (rV 2) (e1 dLen (rV 1))))
noncomputable def byB:Sg->R Fw:=(aN (sIf (e1 asB (n4 false 4 (d3 (aA (eV 2) (aA (eV 3) aM))))) (bX (vD (eC (.str "ever")))) sNx)
 (aN (mJ 4 (d3 (aA (eV 2) (aA (eV 3) aM))) (eC (.bool true)))
 (aN (sIf (jM (e1 asB (e2 dEq (rV 2) (eC (.int 0)))) (e1 asB (e1 (iK "str") (e2 dIx (e2 dIx (rV 0) (rV 3)) (eC (.int 0)))))) (bX (vD (e2 dIx (e2 dIx (rV 0) (rV 3)) (eC (.int 0))))) sNx)
 (lV (stT [(stN 2),(stN 3)]) (eA (aW 3 fJ (aA (vV 0) (aA (vV 1) (aA (vD (d3 (aA (eV 2) (aA (eV 3) aM)))) aM)))))))))
noncomputable def m9:Sg->R Fw:=aN (qM 4) (aN (bS byT byB) (bX (vV 3)))
noncomputable def f7:List A->R A:=fnF 5 m9
noncomputable def kP:Sg->R Fw:=(aN (dW 2 (fR [none,some 0,some 1] (dJ (e1 dLen (rV 0))) (stN 0) gS (eA (aW 4 f7 (aA (vV 1) (aA (vV 2) (aA (vD (e1 dLen (rV 2))) (aA (vV 0) aM))))))))
 (bX (vD (d3 (aA (eA (aW 4 f7 (aA (vV 0) (aA (vV 1) (aA (vD (eC (.int 0))) (aA (vD (eC (.int 0))) aM)))))) (aA (e1 dTup (rV 2)) aM))))))
noncomputable def d7:List A->R A:=fnF 3 kP
noncomputable def wyT:Sg->R Bool:=(e1 asB (e2 dLt (e1 dLen (rV 5)) (e1 dLen (rV 3))))
noncomputable def wyF:Sg->R Fw:=(aN (bN 8 (vD (e2 bL (e2 dIx (rV 3) (e1 dLen (rV 5))) (rV 7))))
 (aN (bN 9 (aW 2 d7 (aA (vV 0) (aA (vV 8) aM))))
 (aN (sIf (e1 asB (n4 true 4 (eV 9))) (aN (mJ 4 (eV 9) (e1 dLen (rV 3)))
 (fY 3 (eV 8))) sNx)
 (fY 6 (qO 4 (eV 9))))))
noncomputable def wyB:Sg->R Fw:=(aN (dW 6 (eJ aM))
 (aN (iJ (e1 cJ (eSl dSl (eC (.str "abc")) oNo (oSo (rV 1)))) (stN 7) wyF)
 (aN (fY 5 (e1 dTup (rV 6)))
 (sIf (e1 asB (e2 dGt (e1 dLen (rV 3)) (rV 2))) (bX (vD (eC .none))) sNx))))
noncomputable def wyE:Sg->R Fw:=(sFz 3 (bX (vD (d3 (aA (eV 3) (aA (e1 dTup (rV 5)) (aA (e1 dTup (eL (fR [none,some 0] (e1 cJ (rV 3)) (stN 0) gS (eA (aW 2 eN (aA (vV 1) (aA (vV 0) aM))))))) aM)))))))
noncomputable def o7:Sg->R Fw:=(aN (dW 3 (eJ (aA (eC (.str "")) aM)))
 (aN (v9 4 (v7 (eA (aW 2 d7 (aA (vV 0) (aA (vD (eC (.str ""))) aM)))) (eC (.int 0)) aBG))
 (aN (dW 5 (eJ aM)) (aN (bS wyT wyB) wyE))))
noncomputable def cW:List A->R A:=fnF 10 o7
noncomputable def oG:Sg->R Fw:=(aN (bN 2 (vD (e2 bL (eC (.int 1)) (e2 dMod (eA (aW 2 bD (aA (vV 0) (aA (vV 1) aM)))) (eC (.int 2))))))
 (aN (bN 3 (vD (e2 bL (eC (.int 1)) (e2 dMod (eA (aW 2 bD (aA (vV 0) (aA (vD (e2 bL (rV 1) (eC (.int 1)))) aM)))) (e2 dIx (eL (eJ (aA (eC (.int 5)) (aA (eC (.int 3)) aM)))) (e2 dSub (rV 2) (eC (.int 1))))))))
 (aN (bN 4 (aW 4 eH (aA (vV 0) (aA (vD (e2 bL (rV 1) (eC (.int 2)))) (aA (vV 3) (aA (vV 2) aM))))))
 (aN (bN 5 (aW 3 cW (aA (vV 4) (aA (vV 2) (aA (vD (eC (.int 40))) aM)))))
 (aN (bS (e1 asB (e2 dIs (rV 5) (eC .none))) (aN (bN 3 (vD (e2 dSub (rV 3) (eC (.int 1)))))
 (aN (bN 4 (aW 4 eH (aA (vV 0) (aA (vD (e2 bL (rV 1) (eC (.int 2)))) (aA (vV 3) (aA (vV 2) aM))))))
 (bN 5 (aW 3 cW (aA (vV 4) (aA (vV 2) (aA (vD (eC (.int 40))) aM))))))))
 (bX (vD (d3 (aA (eV 4) (aA (eV 5) aM))))))))))
noncomputable def gN:List A->R A:=fnF 6 oG
end Mc
namespace Zp
open PySem L2
end Zp
namespace Fl
open PySem L2 PyProof.Rows
end Fl
namespace Zp
open PySem
structure Jk(s0:Heap)(d it S:Addr)(ar:Array DictEntry)(ep:Nat)(acc:Array Value)(h:Heap):Prop where
 size:acc.size<=ar.size
 told:acc.toList=(ar.toList.take acc.size).map (·.key)
 iter:h.IsKeyIter it d acc.size ar.size ep
 raw:Raw h d ar ep
 keep:∀ c o,c≠it->c≠S->s0.get? c=some o->h.get? c=some o
theorem aJ4:typeLookup (.type "dict") "__len__"=pure (some (.builtin "dict.__len__")):=by rw[typeLookup_type,builtinLookup_eq_fast];kernel_rfl
theorem aHY{prog:Program}{w:World}{A:Around}{E:Value->Shared->Prop}{s:Shared}{d:Addr}{ar:Array DictEntry}{ep:Nat}{Q:Value->Shared->Prop}(hh:A.handled=none)(hd:(d == sysModules)=false)(hm:Raw s.heap d ar ep)(hn:ar.size<=sizeLine)
  (hQ:∀ h' tk acc c,(∀ b o,s.heap.get? b=some o->h'.get? b=some o)->uX h' s.heap.objs.size acc c->acc.toList=ar.toList.map (·.key)->Q (.ref s.heap.objs.size) {s with heap:=h',toks:=tk}) :
  wpAny (model prog w) A (call (.type "list") [.ref d]) Q E s:=by
 have v:d < s.heap.objs.size:=by obtain ⟨o,a,_⟩:=hm;exact AS a
 refine callType_codes (Q₁:=fun obj l=>obj=.ref s.heap.objs.size/\l={s with heap:=s.heap.push {cls:=.type "list",data:=.seq #[]}}) F.called_list (F.typeCall_list_1 _) F.entry_list_init
  (code_list_new _ ⟨rfl,rfl⟩) fun obj l t=>?_
 obtain ⟨rfl,rfl⟩:=t
 have M:(s.heap.push {cls:=.type "list",data:=.seq #[]}).get? s.heap.objs.size=some {cls:=.type "list",data:=.seq #[]}:=A9 _ rfl
 refine ⟨⟨_,M,rfl⟩,F.args_list_init_2 _ _,?_⟩
 generalize C:s.heap.objs.size=S at *
 show wpAny _ _ (do let old <-Builtin.List.listItems (.ref S);Builtin.List.listUpdate (.ref S) (fun _=>#[]);letGo old.toList.reverse;Builtin.List.listExtendWith (.ref S) (.ref d) .none) _ _ _
 refine AA ?_
 unfold Builtin.List.listItems
 refine AA (wpAny_seqItems M rfl (AC ?_))
 show wpAny _ _ (updateSeq S (fun _=>#[]) >>= fun _=>letGo (#[]:Array Value).toList.reverse >>= fun _=>Builtin.List.listExtendWith (.ref S) (.ref d) .none) _ _ _
 refine AA (E9 M rfl (AA (wpAny_letGo ?_)))
 have g1:=BZ (Obj.mapSeq (fun _=>(#[]:Array Value))) M rfl
 have g2:∀ c o,c≠S->s.heap.get? c=some o->((s.heap.push {cls:=.type "list",data:=.seq #[]}).update S (Obj.mapSeq (fun _=>(#[]:Array Value)))).get? c=some o:=
  fun c o m e=>(B6 _ _ (BX m)).trans (AJ _ e)
 have g3:((s.heap.push {cls:=.type "list",data:=.seq #[]}).update S (Obj.mapSeq (fun _=>(#[]:Array Value)))).objs.size=S+1:=by rw[Heap.size_update,C7,C]
 generalize (s.heap.push {cls:=.type "list",data:=.seq #[]}).update S (Obj.mapSeq (fun _=>(#[]:Array Value)))=i at *
 have L:d≠S:=BB v
 have u:Raw i d ar ep:=by obtain ⟨o,a,r⟩:=hm;exact ⟨o,g2 _ _ L a,r⟩
 have O:(({s with heap:=i}:Shared)).TypeIs (.ref d) "dict":=by obtain ⟨o,a,m,_⟩:=u;exact ⟨o,a,m.1⟩
 unfold Builtin.List.listExtendWith
 refine AA (wpAny_typeOf O ?_)
 have e1:Builtin.List.listSameRef (.ref S) (.ref d)=false:=by simp[Builtin.List.listSameRef,BX L]
 simp only[e1,show (Value.type "dict" == Value.type "list")=false by decide,show (Value.type "dict" == Value.type "tuple")=false by decide,Bool.or_false,BS,CH]
 refine AA (aJY (s:={s with heap:=i}) hd u (AA (CM ?_)))
 have q:(i.push {cls:=.type "dict_keyiterator",data:=.fields #[.ref d,.int 0 0,.int ar.size 0,.int ep 0]}).IsKeyIter i.objs.size d 0 ar.size ep:=⟨_,A9 _ rfl,rfl,rfl⟩
 have y:∀ c o,i.get? c=some o->(i.push {cls:=.type "dict_keyiterator",data:=.fields #[.ref d,.int 0 0,.int ar.size 0,.int ep 0]}).get? c=some o:=fun c o e=>AJ _ e
 rw[g3] at q
 show wpAny _ _ (Builtin.List.listLengthHint (.ref d)) _ _ ({s with heap:=i.push {cls:=.type "dict_keyiterator",data:=.fields #[.ref d,.int 0 0,.int ar.size 0,.int ep 0]}}:Shared)
 generalize i.push {cls:=.type "dict_keyiterator",data:=.fields #[.ref d,.int 0 0,.int ar.size 0,.int ep 0]}=G at *
 have B:Raw G d ar ep:=by obtain ⟨o,a,r⟩:=u;exact ⟨o,y _ _ a,r⟩
 have f:(({s with heap:=G}:Shared)).TypeIs (.ref d) "dict":=by obtain ⟨o,a,m,_⟩:=B;exact ⟨o,a,m.1⟩
 unfold Builtin.List.listLengthHint
 refine AA (GH f aJ4 ?_)
 have P:splitId "dict.__len__"=some ("dict","__len__"):=by decide +kernel
 simp only[P]
 refine AA (GC (b:=true) f isSubtype_dict_dict ?_)
 simp only[FR,BS,CH]
 rw[AD (by decide +kernel)]
 refine AA (wpAny_typeOf f (AC ?_))
 simp only[Bool.false_or]
 rw[AD (by decide +kernel)]
 have H:=y _ _ g1
 rw[g3]
 refine AA (wpAny_rule (AA ?_))
 show wpAny _ _ (updateSeq S (·.push .none) >>= fun _=>updateSeq S (·.pop)) _ _ _
 refine AA (E9 H rfl ?_)
 have g4:=BZ (Obj.mapSeq (·.push Value.none)) H rfl
 refine E9 g4 rfl ?_
 have g5:=BZ (Obj.mapSeq (·.pop)) g4 rfl
 have Y:∀ c o,c≠S->G.get? c=some o->((G.update S (Obj.mapSeq (·.push Value.none))).update S (Obj.mapSeq (·.pop))).get? c=some o:=
  fun c o m e=>(B6 _ _ (BX m)).trans ((B6 _ _ (BX m)).trans e)
 generalize (G.update S (Obj.mapSeq (·.push Value.none))).update S (Obj.mapSeq (·.pop))=hr at *
 have j:S+1≠S:=Nat.succ_ne_self S
 refine AC ⟨plainId_quiet EH _,aJ0 (A:=A.in1) (I:=S+1) (S:=S) (n:=ar.size) (Jk s.heap d (S+1) S ar ep) (fun acc h=>acc.toList=ar.toList.map (·.key)/\∀ c o,c≠S+1->c≠S->s.heap.get? c=some o->h.get? c=some o) hn (fun acc h J=>J.size) (fun acc h h' J X W=>?_) (fun acc s' c Q' E' R J K x=>?_) (fun acc s' c Q' E' U J K x=>?_) ar.size _ #[] _ (by simp) ?_ g5 fun h' tk acc c J X K=>?_⟩
 ·obtain ⟨o,a,r⟩:=J.iter
  obtain ⟨D,g,r2⟩:=J.raw
  exact ⟨J.size,J.told,⟨o,W _ _ j a,r⟩,⟨D,W _ _ L g,r2⟩,fun c o p k e=>W _ _ k (J.keep c o p k e)⟩
 ·have hx:ar[acc.size]? = some ar[acc.size]:=Array.getElem?_eq_getElem R
  refine aJZ J.iter J.raw hx fun h2 st T=>?_
  have V:d≠S+1:=fun z=>by rw[z] at v;exact absurd v (GO.mpr (DW S))
  refine x _ h2 s'.toks ⟨by rw[EJ];omega,?_,by rw[EJ];exact st,?_,fun c o p k e=>T.extBut _ _ p (J.keep c o p k e)⟩ (T.extBut _ _ (BX j) K)
  ·rw[Array.toList_push,J.told,EJ,DZ,BK]
   congr 1
   rw[EY,hx];rfl
  ·obtain ⟨D,g,r2⟩:=J.raw
   exact ⟨D,T.extBut _ _ V g,r2⟩
 ·refine aM3 (A:=A.in1.in1) hh J.iter J.raw (by omega) fun h2 Z=>?_
  refine x h2 s'.toks ⟨?_,fun c o p k e=>Z c o p (J.keep c o p k e)⟩ (Z _ _ (BX j) K)
  have:=J.told
  rw[U,C8 (by simp)] at this
  exact this
 ·obtain ⟨o,a,r⟩:=q
  obtain ⟨D,g,r2⟩:=B
  exact ⟨CN _,by simp,⟨o,Y _ _ j a,r⟩,⟨D,Y _ _ L g,r2⟩,fun c o p k e=>Y _ _ k (y _ _ (g2 _ _ k e))⟩
 ·refine ⟨rfl,hQ h' tk acc c (fun b o e=>?_) K J.1⟩
  have N:=AS e
  rw[C] at N
  exact J.2 b o (BB (Nat.lt_succ_of_lt N)) (BB N) e
end Zp
namespace Fl
open PySem L2 PyProof.Rows
section
variable{X:Cx}{c:Ct}{E:XK}{e:Expr}
theorem aFR(z:X.calm=true):kF X (.type "list") (fun xs H Q=>∃ d es ep,xs=[.ref d]/\H d=some (dZ X.w d es ep)/\es.length<=16777216/\∀ l,H l=none->Q (.ref l) (upd H l (.lst (es.map (·.2.1))))):=by
 intro pins s σ H xs us Q I r h
 obtain ⟨d,es,ep,rfl,g,f,q⟩:=h
 obtain ⟨u,rfl,t⟩:=oJ r
 cases (show u=Value.ref d from t)
 obtain ⟨hd,ar,j,e⟩:=aD4 I g
 have b:es.length=ar.size:=by rw[FH e];simp
 refine Zp.aHY (I.ok.hd z) hd j (by rw[<-b,dI];exact f) fun h' tk c k m v a=>?_
 refine ⟨.ref s.heap.objs.size,_,I.laid (t':=tk) (o:=.lst (es.map (·.2.1))) m (AG _) ⟨by rw[AB,dI];exact f,c.toList,k,?_,by simpa using v⟩,rfl,q _ (I.hok.fresh (AG _))⟩
 rw[a]
 refine aDJ (by simp[b]) fun i x y h1 h2=>?_
 rw[AH] at h1 h2
 cases e1:es[i]? with
 | none=>rw[e1] at h1;cases h1
 | some en=>
  obtain ⟨A,n,C,p,B⟩:=wF e e1
  rw[e1] at h1
  rw[n] at h2
  cases h1
  cases h2
  exact p
end
end Fl
namespace Zp
open PySem
end Zp
namespace Fl
open PySem L2 PyProof.Rows
def pM(ρ:Sg)(σ:L2.St)(p:Addr):Prop:=∀ (j:Nat) (a:A),ρ[j]? = some (some a)->a.own=true->σ[j]? ≠ some (some (.ref p))
theorem Ab.off9{c:Ct}{ρ:Sg}{σ:L2.St}{F H:Hp}{p:Addr}{o:HO}(b:Ab c ρ σ F H)(r:F p=none)(s:c.H0 p=none)(q:pM ρ σ p):Ab c ρ σ F (upd H p o) where
 len:=b.len
 fh:=fun a o' z=>by rw[aG (fun w=>by rw[w,r] at z;cases z)];exact b.fh a o' z
 slot:=fun j a h=>by
  obtain ⟨v,h1,h2⟩:=b.slot j a h
  refine ⟨v,h1,?_⟩
  cases i:a.own with
  | true=>exact h2.off fun z=>q j a h i (by rw[h1,z])
  | false=>
   cases a with
   | l xs=>cases i
   | m xs=>cases i
   | d x=>exact h2
   | x e=>exact h2
   | g k n f=>exact h2
   | k S=>exact h2
   | f S=>exact h2
   | o S=>exact h2
 apart:=b.apart
 f0:=b.f0
 h0:=fun a o' z=>by rw[aG (fun w=>by rw[w,s] at z;cases z)];exact b.h0 a o' z
 n0:=b.n0
 t0:=b.t0
theorem Ab.pub9{c:Ct}{ρ:Sg}{σ:L2.St}{F H:Hp}{p:Addr}{o:HO}(b:Ab c ρ σ F H)(h2:H p=some o)(t:F p=none)(y:c.H0 p=none)(C:pM ρ σ p):Ab c ρ σ (upd F p o) H:=by
 have q:aO F (upd F p o):=aO.upd t
 exact {
  len:=b.len
  fh:=fun a o' z=>by
   by_cases w:a=p
   ·subst w;rw[aX] at z;rw[h2];exact z
   ·rw[aG w] at z;exact b.fh a o' z
  slot:=fun j a h=>by
   obtain ⟨w,A,i⟩:=b.slot j a h
   refine ⟨w,A,?_⟩
   have off:∀ r,a.own=true->w=.ref r->F r=none->upd F p o r=none:=fun r D e f=>by
    rw[aG]
    ·exact f
    ·intro z
     subst z
     exact C j a h D (by rw[A,e])
   cases a with
   | l zs=>obtain ⟨r,ws,e,u,i,v,s⟩:=i;exact ⟨r,ws,e,u,off r rfl e i,v,s.same q⟩
   | m kvs=>obtain ⟨r,ws,e,u,i,v,s⟩:=i;exact ⟨r,ws,e,u,off r rfl e i,v,s.same q⟩
   | d x=>exact DatV.same q i
   | x e=>exact AF.same (g:=c.g) (K:=c.K) (mg:=c.mg) (a:=.x e) q i
   | g k n f=>exact AF.same (g:=c.g) (K:=c.K) (mg:=c.mg) (a:=.g k n f) q i
   | k S=>obtain ⟨S,f,cl,doc,pm,B,ct,h0,h1,h2,t,y⟩:=i;exact ⟨S,f,cl,doc,pm,B,ct,h0,h1,q _ _ h2,q _ _ t,y⟩
   | f kvs=>exact AF.same (g:=c.g) (K:=c.K) (mg:=c.mg) (a:=.f kvs) q i
   | o e=>exact AF.same (g:=c.g) (K:=c.K) (mg:=c.mg) (a:=.o e) q i
  apart:=b.apart
  f0:=fun a o z=>q a o (b.f0 a o z)
  h0:=b.h0
  n0:=fun a z n=>by
   by_cases w:a=p
   ·subst w;exact .inl y
   ·rw[aG w] at n;exact b.n0 a z n
  t0:=b.t0}
theorem Ab.drop9{c:Ct}{ρ:Sg}{σ:L2.St}{F H:Hp}(b:Ab c ρ σ F H)(i:Nat)(v:V):Ab c (ρ.set i none) (σ.set i (some v)) F H where
 len:=by rw[CK,CK];exact b.len
 fh:=b.fh
 slot:=fun j a h=>by
  rcases get_set h with ⟨e,q,p⟩|⟨g,q⟩
  ·cases q
  ·rw[BQ g];exact b.slot j a q
 apart:=fun j k n m d h1 h2 s r=>by
  rcases get_set h1 with ⟨e,q,p⟩|⟨g,q⟩
  ·cases q
  ·rcases get_set h2 with ⟨t,f,o⟩|⟨l,f⟩
   ·cases f
   ·rw[BQ g,BQ l]
    exact b.apart j k n m d q f s r
 f0:=b.f0
 h0:=b.h0
 n0:=b.n0
 t0:=b.t0
theorem aB4{α:Type}{l:List α}{i:Nat}{x:α}(h:l[i]? = some x):l.set i x=l:=by
 obtain ⟨a,e⟩:=AI.mp h
 rw[<-e];exact List.set_getElem_self a
structure Own9(c:Ct)(F H:Hp)(ρ:Sg)(σ:L2.St)(i:Nat)(p b:Addr)(u:V)(ws:List V):Prop where
 s:σ[i]? = some (some (.ref p))
 ne:p≠b
 hp:H p=some (.lst [u,.ref b])
 hb:H b=some (.lst ws)
 fp:F p=none
 fb:F b=none
 p0:c.H0 p=none
 b0:c.H0 b=none
 np:pM ρ σ p
 nb:pM ρ σ b
theorem Own9.done{c:Ct}{F H:Hp}{ρ:Sg}{σ:L2.St}{i:Nat}{p b:Addr}{u:V}{ws e:List V}{d1:PyData}{ys:List PyData}(h:Own9 c F H ρ σ i p b u ws)(ab:Ab c ρ σ F H)(h1:DatV c.K F u d1)(h2:DatVs c.K F e ys) :
  ∃ F',aO F F'/\Ab c (ρ.set i (some (.d (.list [d1,.list ys])))) σ F' (upd H b (.lst e)):=by
 have k:=(ab.off9 (o:=.lst e) h.fb h.b0 h.nb).pub9 (p:=b) aX h.fb h.b0 h.nb
 have j:=k.pub9 (p:=p) (o:=.lst [u,.ref b]) (by rw[aG h.ne];exact h.hp) (by rw[aG h.ne];exact h.fp) h.p0 h.np
 have s1:aO F (upd F b (.lst e)):=aO.upd h.fb
 have f:aO (upd F b (.lst e)) (upd (upd F b (.lst e)) p (.lst [u,.ref b])):=aO.upd (by rw[aG h.ne];exact h.fp)
 have g:=j.setA (i:=i) (a:=.d (.list [d1,.list ys])) (v:=.ref p) (.lst (SqL.of aX) (.cons ((h1.same s1).same f) (.cons (.lst (SqL.of (by rw[aG (BX h.ne)];exact aX)) ((h2.same s1).same f)) .nil)))
 rw[aB4 h.s] at g
 exact ⟨_,fun a o z=>f a o (s1 a o z),g⟩
def outH(F:Hp)(q:Addr):Hp:=fun a=>if a=q then none else F a
theorem sL(F:Hp)(q:Addr):outH F q q=none:=AD rfl
theorem pN{F:Hp}{a q:Addr}(h:a≠q):outH F q a=F a:=AE h
theorem zD(F:Hp)(q:Addr):aO (outH F q) F:=fun a o e=>by
 unfold outH at e
 split at e
 · cases e
 · exact e
def aFS(c:Ct)(F:Hp)(D:lJ)(s0:Option (Option V)):Fw->Prop
 | .nx ρ=>∀ σ' F' H',σ'[0]? = s0->aO F F'->Ab c ρ σ' F' H'->D.nx σ' H'
 | _=>False
theorem aFS.same{c:Ct}{F F1:Hp}{D:lJ}{s0:Option (Option V)}(s:aO F F1):∀ {w:Fw},aFS c F D s0 w->aFS c F1 D s0 w
 | .nx ρ,h=>fun b d H' e s' ab=>h b d H' e (fun a o z=>s' a o (s a o z)) ab
 | .bk _,h=>h
 | .ct _,h=>h
 | .rt _,h=>h
structure ExtM(F H:Hp)(p:Addr)(F' H':Hp):Prop where
 ff:aO F F'
 hh:aO (outH H p) H'
 fh:aO F' H'
 nw:∀ a,F a=none->F' a≠none->nJ (outH H p) a
section
variable{X:Cx}{c:Ct}{E:XK}{st:Stmt}
end
end Fl
namespace L2
open PySem PySem.Spec PyProof.Rows
section
variable{X:Cx}
end
end L2
namespace Fl
open PySem L2 PyProof.Rows
section
variable{X:Cx}{c:Ct}{E:XK}{e:Expr}{st:Stmt}{rest:List Stmt}{pos:Pos}
end
section
variable{X:Cx}{c:Ct}{E:XK}{e:Expr}{st:Stmt}
noncomputable def wK(i:Nat):Sg->R (List PyData):=fun ρ=>match ρ[i]? with
 | some (some (.m kvs))=>if kvs.length<=16777216 then .ok (kvs.map (·.1)) else .bad
 | _=>.bad
theorem aJ5{i:Nat}(g:X.w=c.w)(h:PE X e (tCB (fun xs H Q=>∃ d es ep,xs=[.ref d]/\H d=some (dZ X.w d es ep)/\es.length<=16777216/\∀ l,H l=none->Q (.ref l) (upd H l (.lst (es.map (·.2.1))))) (dU (iR i) iS))):PN X c E e (wK i):=PE.imp h fun σ H Q ⟨ρ,F,ab,k⟩=>by
 unfold wK at k
 split at k
 ·rename_i b hi
  split at k
  ·rename_i o
   obtain ⟨v,f,p,es,rfl,⟨ep,h2⟩,j,q,m⟩:=ab.slot i _ hi
   have n:es.length=b.length:=by simpa using congrArg List.length m.k1
   refine ⟨_,f,p,es,ep,rfl,by rw[g];exact h2,by omega,fun l a=>?_⟩
   exact Rk.ok k _ F _ (Ext.own ab.fh a) ⟨l,_,rfl,a,aX,bW ab.fh a,m.k2⟩
  ·exact k.elim
 ·exact k.elim
end
end Fl
namespace Mc
open PySem L2 PyProof.Rows Fl
noncomputable def rpT:Sg->R Bool:=(e1 asB (n4 true 3 (eV 1)))
noncomputable def rpB:Sg->R Fw:=(aN (mJ 3 (eV 1) (wG 3))
 (bN 1 (aW 3 fH (aA (vV 0) (aA (vV 1) (aA (vV 2) aM))))))
noncomputable def rpR:Sg->R Fw:=(bX (vD (d3 (aA (eL (wK 3)) (aA (qO 3 (eV 1)) aM)))))
noncomputable def l6:Sg->R Fw:=(aN (qM 3) (aN (bS rpT rpB) rpR))
noncomputable def iO:List A->R A:=fnF 4 l6
noncomputable def lrT:Sg->R Bool:=(e1 asB (e2 dNe (eL (e2 uV (eSl dSl (rV 0) (oSo (rV 1)) oNo) (eSl dSl (rV 0) oNo (oSo (rV 1))))) (rV 0)))
noncomputable def lrB:Sg->R Fw:=(aFI 1 tL (eC (.int 1)))
noncomputable def lI:Sg->R Fw:=(aN (bN 1 (vD (eC (.int 1)))) (aN (bS lrT lrB) (bX (vV 1))))
noncomputable def gZ:List A->R A:=fnF 2 lI
def eK(ns:List Int):PyData:=.list (ns.map .int)
theorem k8(ns:List Int):dLen (eK ns)=.ok (.int ns.length):=by unfold eK;rw[gM,AB]
theorem sM{ns:List Int}{i:Int}(h0:0<=i)(h1:i < ns.length):∃ v,dIx (eK ns) (.int i)=.ok (.int v):=by
 refine ⟨ns[i.toNat]'(by omega),oV (pL h0 ?_)⟩
 rw[AH,AN (by omega)];rfl
theorem pO(ns:List Int)(k:Int):∃ v,bD [.d (eK ns),.d (.int k)]=.ok (.d (.int v)):=by
 by_cases h:(0:Int) < ns.length
 ·obtain ⟨v,b⟩:=sM (ns:=ns) (i:=k % (ns.length:Int)) (CS _ (by omega)) (CG _ h)
  have c:dMod (.int k) (.int (ns.length:Int))=.ok (.int (k % (ns.length:Int))):=dB h
  have a:0 < ns.length:=by omega
  refine ⟨v / 2147483647 * 2147483659+((v % 2147483647+7919 * k+1) * 48271 % 2147483647 * 69621+104729 * k) % 2147483659,?_⟩
  unfold bD mL
  simp[k8,a,c,b,dB,sJ,pK,jT]
 ·have a:¬ 0 < ns.length:=by omega
  refine ⟨((7919 * k+1) * 48271 % 2147483647 * 69621+104729 * k) % 2147483659,?_⟩
  unfold bD mL
  simp[k8,a,dB,sJ,pK,jT]
theorem aQF(x y:PyData)(i:Int):∃ z,dIx (.list [x,y]) (.int (i % 2))=.ok z/\(z=x\/z=y):=by
 rcases Int.emod_two_eq i with h|h
 · rw [h]; exact ⟨x, aQA _ _, .inl rfl⟩
 · rw [h]; exact ⟨y, aQB _ _ _, .inr rfl⟩
theorem aLI(x:Int){n:Int}(c:0 < n):∃ t:Tn,gY [.d (.int x),.d (.int n)]=.ok (.d t.d)/\t.good n:=by
 by_cases h:x % 3=0
 ·obtain ⟨z,f,b⟩:=aQF (.str "by") (.str "out") (x / 3)
  have a:decide (x % 3=0)=true:=A3 h
  have e:gY [.d (.int x),.d (.int n)]=.ok (.d z):=by
   unfold gY nM
   simp[dB,jT,dS,a,f]
  rcases b with rfl|rfl
  ·exact ⟨.w "by",e,.inl rfl⟩
  ·exact ⟨.w "out",e,.inr rfl⟩
 ·have a:decide (x % 3=0)=false:=A7 h
  refine ⟨.n (x / 3 % n),?_,CS _ (by omega),CG _ c⟩
  unfold gY nM
  simp[dB,jT,dS,a,c]
  rfl
theorem aEA(x:Int){n:Int}{sg:Nat}(h:0 < n)(E:sg<=1000):∃ r:Rw,d6 [.d (.int x),.d (.int n),.d (.int sg)]=.ok (.d (cV r))/\r.good n/\r.c.length=sg:=by
 have u:gK 0 ((sg:Int)+2)=.ok ((List.range (sg+2)).map fun i:Nat=>.int (i:Int)):=by
  have:=gF (n:=sg+2) (by omega)
  rw[show (((sg+2:Nat)):Int)=(sg:Int)+2 by omega] at this
  exact this
 obtain ⟨C,t,y,ps,m,b,rfl⟩:=f6 (fs:=stN 4) (fb:=aN (bN 0 (vD (e2 dMod (e2 bL (e2 dMul (rV 0) (eC (.int 48271))) (eC (.int 7919))) (eC (.int 2147483647))))) (fY 3 (e2 dDiv (rV 0) (eC (.int 64)))))
  (d:=fun i:Nat=>.int (i:Int)) (xs:=List.range (sg+2)) (ρ:=[some (.d (.int x)),some (.d (.int n)),some (.d (.int sg)),some (.l []),none,none])
  (fun i ρ=>∃ (y:Int) (ps:List Int) (m:Option A),ps.length=i/\ρ=[some (.d (.int y)),some (.d (.int n)),some (.d (.int sg)),some (.l (ps.map .int)),m,none]) ⟨x,[],none,rfl,rfl⟩
  (fun i k ρ D o=>by
   obtain ⟨y,ps,m,b,rfl⟩:=o
   have hi:i < sg+2:=by have:=(AI.mp D).1;simpa using this
   refine ⟨_,_,rfl,.inl ?_,(y * 48271+7919) % 2147483647,ps++[(y * 48271+7919) % 2147483647 / 64],some (.d (.int k)),by simp[b],rfl⟩
   have B:(ps.map PyData.int).length < 16777216:=by rw[AB,b];omega
   simp[sJ,pK,dB,jT,B]
   omega)
 rw[BC] at b
 obtain ⟨f,e,qs,rfl,v⟩:∃ f e qs,ps=f::e::qs/\qs.length=sg:=by
  match ps,b with
  | f::e::qs,b=>exact ⟨f,e,qs,rfl,by simpa using b⟩
 have a:dSl (.list ((f::e::qs).map .int)) (some 2) none=.ok (.list (qs.map .int)):=by
  show R.ok (PyData.list (kI _ _ _))=_
  unfold kI HT.sIx
  simp
  rw[C8 (by simp)]
 obtain ⟨t0,e0,s⟩:=aLI f h
 obtain ⟨w,p,z⟩:=aLI e h
 have j:=fF (fs:=stN 0) (fe:=d3 (aA (e2 dMod (rV 0) (rV 1)) (aA (e2 dSub (eC (.int 1)) (e2 dMul (e2 dDiv (e2 dMod (e2 dDiv (rV 0) (eC (.int 64))) (eC (.int 3))) (eC (.int 2))) (eC (.int 2)))) aM))) (ρ0:=[none,some (.d (.int n))]) (d:=PyData.int) (g:=fun q=>d4 (q % n,1 - q / 64 % 3 / 2 * 2)) (xs:=qs) fun q _=>⟨_,rfl,by simp[dB,jT,sJ,h,d4]⟩
 have hi:cJ (.list (qs.map .int))=.ok (qs.map .int):=kM (by rw[AB];omega)
 refine ⟨⟨t0,qs.map fun q=>(q % n,1 - q / 64 % 3 / 2 * 2),w⟩,?_,⟨s,z,fun c j=>?_⟩,by simpa using v⟩
 ·unfold d6 kO
  simp only[f9,AT,BD,BO,BL,AW,A8,List.replicate,a8,iX,lW,gH,R.bind_ok]
  simp[u]
  rw[t]
  simp at a hi j
  simp[a,hi,gL,j,e0,p,cV]
 ·obtain ⟨q,_,rfl⟩:=BA.mp j
  refine ⟨CS _ (by omega),CG _ h,?_⟩
  simp only
  omega
theorem aM9(x:Int){n:Int}{sg:Nat}(F:0 < n)(M:n<=1000)(O:sg<=1000):∃ r:Rw,fG [.d (.int x),.d (.int n),.d (.int sg)]=.ok (.d (cV r))/\r.good n/\r.c.length=sg:=by
 have D:=gF (n:=sg) (by omega)
 have f:(0:Int) < n+2:=by omega
 have s:n+2 < 18446744073709551616:=by omega
 have v:(0:Int) < 2 * n:=by omega
 have j:2 * n < 18446744073709551616:=by omega
 obtain ⟨H,G,y,cs,q,o,u,rfl⟩:=f6 (fs:=stN 5) (fb:=aN (fY 4 (d3 (aA (e2 dMod (e2 dDiv (rV 0) (eC (.int 2))) (rV 1)) (aA (e2 dSub (eC (.int 1)) (e2 dMul (e2 dMod (rV 0) (eC (.int 2))) (eC (.int 2)))) aM)))) (bN 0 (vD (e2 dDiv (rV 0) (e2 dMul (eC (.int 2)) (rV 1))))))
  (d:=fun i:Nat=>.int (i:Int)) (xs:=List.range sg) (ρ:=[some (.d (.int (x / (n+2)))),some (.d (.int n)),some (.d (.int sg)),some (.d (.int (x % (n+2)))),some (.l []),none,none])
  (fun i ρ=>∃ (y:Int) (cs:List (Int×Int)) (q:Option A),cs.length=i/\(∀ c∈cs,nX n c)/\ρ=[some (.d (.int y)),some (.d (.int n)),some (.d (.int sg)),some (.d (.int (x % (n+2)))),some (.l (cs.map d4)),q,none]) ⟨x / (n+2),[],none,rfl,fun c m=>by simp at m,rfl⟩
  (fun i k ρ I B=>by
   obtain ⟨y,cs,q,o,u,rfl⟩:=B
   have hi:i < sg:=by have:=(AI.mp I).1;simpa using this
   have N:(cs.map d4).length < 16777216:=by rw[AB,o];omega
   refine ⟨_,_,rfl,.inl ?_,y / (2 * n),cs++[(y / 2 % n,1 - y % 2 * 2)],some (.d (.int k)),by simp[o],fun c m=>?_,rfl⟩
   ·have p:cs.length < 16777216:=by omega
    simp[sJ,pK,dB,jT,F,v,j,d4,p]
   ·rcases BR.mp m with z|z
    ·exact u c z
    ·rw[AV.mp z]
     refine ⟨CS _ (by omega),CG _ F,?_⟩
     simp only;omega)
 rw[BC] at o
 have g:∀ e:Int,0<=e->e < n+2->∃ t:Tn,(eIf (e1 asB (e2 dGe (rV 0) (rV 1))) (e2 dIx (eL (eJ (aA (eC (.str "by")) (aA (eC (.str "out")) aM)))) (e2 dSub (rV 0) (rV 1))) (eV 0)) [some (.d (.int e)),some (.d (.int n))]=.ok t.d/\t.good n:=fun e K h1=>by
  by_cases h:n<=e
  ·obtain rfl|rfl:e=n\/e=n+1:=by omega
   ·exact ⟨.w "by",by simp[Tn.d],.inl rfl⟩
   ·exact ⟨.w "out",by simp[Tn.d,show n+1 - n=1 by omega,show n<=n+1 by omega],.inr rfl⟩
  ·exact ⟨.n e,by simp[Tn.d,h],K,by omega⟩
 obtain ⟨t0,e0,J⟩:=g (x % (n+2)) (CS _ (by omega)) (CG _ f)
 obtain ⟨E,C,L⟩:=g (y % (n+2)) (CS _ (by omega)) (CG _ f)
 have m:compL (stN 0) gS (eIf (e1 asB (e2 dGe (rV 0) (rV 1))) (e2 dIx (eL (eJ (aA (eC (.str "by")) (aA (eC (.str "out")) aM)))) (e2 dSub (rV 0) (rV 1))) (eV 0)) [none,some (.d (.int n))] [.int (x % (n+2)),.int (y % (n+2))]=.ok [t0.d,E.d]:=by
  simp only[compL,aBS,AY,r9,R.bind_ok,aD6,R.noEx_ok,CB,e0,C]
 have hi:∀ a b:PyData,cJ (.list [a,b])=.ok [a,b]:=fun a b=>kM (by simp)
 refine ⟨⟨t0,cs,E⟩,?_,⟨J,L,u⟩,o⟩
 unfold fG kN
 simp only[f9,AT,BD,BO,BL,AW,A8,List.replicate,a8,iM,kB,fV,eQ,fU,AQ,AK,R.bind_ok,lH,dB f,jT f s,AY,A2,iX,lW,gH,jB,lG,D]
 simp only[CN,CB,R.bind_ok,AY,A2,AQ,AK,D,G]
 simp only[jS,wH,gH,fV,eQ,fU,AQ,AK,R.bind_ok,lH,dB f,uZ,gR,AY,A2]
 simp[hi,gL,m,cV,dB f]
theorem aHZ{ns:List Int}{at':Int}{n sg:Nat}(T:0<=at')(h1:1<=n)(h2:n<=1000)(s1:1<=sg)(W:sg<=3):∃ rs:List Rw,eH [.d (eK ns),.d (.int at'),.d (.int n),.d (.int sg)]=.ok (.d (bH rs))/\Mach rs sg/\rs.length=n:=by
 have a:=gF (n:=n) (by omega)
 have D:(0:Int) < (n:Int):=by omega
 obtain ⟨Y,Q,rs,j,q,p,G,rfl⟩:=f6 (fs:=stN 5) (fb:=(sIf (jM (e1 asB (e2 dLt (e2 bL (rV 1) (rV 5)) (e1 dLen (rV 0)))) (e1 asB (e2 dEq (e2 dMod (e2 dIx (rV 0) (eC (.int 0))) (eC (.int 2))) (eC (.int 1))))) (fY 4 (eA (aW 3 fG (aA (vD (e2 dIx (rV 0) (e2 bL (rV 1) (rV 5)))) (aA (vV 2) (aA (vV 3) aM)))))) (aN (bN 6 (aW 3 d6 (aA (vD (e2 dMod (eA (aW 2 bD (aA (vV 0) (aA (vD (e2 bL (rV 1) (rV 5))) aM)))) (eC (.int 2147483647)))) (aA (vV 2) (aA (vV 3) aM)))))
 (aN (sIf (jM (e1 asB (e2 dEq (rV 5) (eC (.int 0)))) (jM (e1 asB (e1 (iK "str") (e2 dIx (rV 6) (eC (.int 0))))) (e1 asB (e2 dGt (e2 dMod (e2 dDiv (eA (aW 2 bD (aA (vV 0) (aA (vV 1) aM)))) (eC (.int 8))) (eC (.int 8))) (eC (.int 0)))))) (bN 6 (vD (e2 bL (d3 (aA (e2 dMod (e2 dDiv (eA (aW 2 bD (aA (vV 0) (aA (vV 1) aM)))) (eC (.int 64))) (rV 2)) aM)) (eSl dSl (rV 6) (oSo (eC (.int 1))) oNo)))) sNx)
 (fY 4 (eV 6))))))
  (d:=fun i:Nat=>.int (i:Int)) (xs:=List.range n) (ρ:=[some (.d (eK ns)),some (.d (.int at')),some (.d (.int n)),some (.d (.int sg)),some (.l []),none,none])
  (fun i ρ=>∃ (rs:List Rw) (j q:Option A),rs.length=i/\(∀ r∈rs,r.good n/\r.c.length=sg)/\ρ=[some (.d (eK ns)),some (.d (.int at')),some (.d (.int n)),some (.d (.int sg)),some (.l (rs.map cV)),j,q]) ⟨[],none,none,rfl,fun c hc=>by simp at hc,rfl⟩
  (fun i k ρ Z J=>by
   obtain ⟨rs,j,q,p,G,rfl⟩:=J
   have hi:i < n:=by have:=(AI.mp Z).1;simpa using this
   have w:rs.length < 16777216:=by omega
   have snoc:∀ r:Rw,r.good n/\r.c.length=sg->∀ x∈rs++[r],x.good n/\x.c.length=sg:=fun r a x U=>by
    rcases BR.mp U with z|z
    ·exact G x z
    ·rw[AV.mp z];exact a
   obtain ⟨v,V⟩:=pO ns (at'+k)
   obtain ⟨r,a,f⟩:=aEA (v % 2147483647) (n:=(n:Int)) (sg:=sg) D (by omega)
   obtain ⟨o,s⟩:=pO ns at'
   have I:∀ r:Rw,dSl (cV r) (some 1) none=.ok (.tuple [.tuple (r.c.map d4),r.r.d]):=fun r=>by
    unfold cV
    rw[aR0 (by unfold HT.sIx;simp)]
    unfold kI HT.sIx
    simp
   have put:∀ (j q:Option A) (r:Rw),(fY 4 (eV 6)) [some (.d (eK ns)),some (.d (.int at')),some (.d (.int n)),some (.d (.int sg)),some (.l (rs.map cV)),j,some (.d (cV r))]=.ok (.nx [some (.d (eK ns)),some (.d (.int at')),some (.d (.int n)),some (.d (.int sg)),some (.l ((rs++[r]).map cV)),j,some (.d (cV r))]):=fun j q r=>by simp[w]
   have g:∀ u,u=[some (.d (eK ns)),some (.d (.int at')),some (.d (.int n)),some (.d (.int sg)),some (.l (rs.map cV)),some (.d (.int k)),q]->∃ r2:Rw,(r2.good n/\r2.c.length=sg)/\∃ e,(aN (bN 6 (aW 3 d6 (aA (vD (e2 dMod (eA (aW 2 bD (aA (vV 0) (aA (vD (e2 bL (rV 1) (rV 5))) aM)))) (eC (.int 2147483647)))) (aA (vV 2) (aA (vV 3) aM)))))
     (aN (sIf (jM (e1 asB (e2 dEq (rV 5) (eC (.int 0)))) (jM (e1 asB (e1 (iK "str") (e2 dIx (rV 6) (eC (.int 0))))) (e1 asB (e2 dGt (e2 dMod (e2 dDiv (eA (aW 2 bD (aA (vV 0) (aA (vV 1) aM)))) (eC (.int 8))) (eC (.int 8))) (eC (.int 0)))))) (bN 6 (vD (e2 bL (d3 (aA (e2 dMod (e2 dDiv (eA (aW 2 bD (aA (vV 0) (aA (vV 1) aM)))) (eC (.int 64))) (rV 2)) aM)) (eSl dSl (rV 6) (oSo (eC (.int 1))) oNo)))) sNx)
     (fY 4 (eV 6)))) u=.ok (.nx [some (.d (eK ns)),some (.d (.int at')),some (.d (.int n)),some (.d (.int sg)),some (.l ((rs++[r2]).map cV)),some (.d (.int k)),e]):=by
    rintro u rfl
    by_cases t:k=0
    case neg=>
     exact ⟨r,f,some (.d (cV r)),by simp[V,dB,a,t,dS,w]⟩
    subst t
    obtain ⟨r,a,f⟩:=aEA (o % 2147483647) (n:=(n:Int)) (sg:=sg) D (by omega)
    have h:dIx (cV r) (.int 0)=.ok r.l.d:=aBZ _ _
    have F:∃ b,iK "str" r.l.d=.ok (.bool b):=by cases r.l<;>exact ⟨_,rfl⟩
    obtain ⟨b,E⟩:=F
    have y:bL (.tuple [.int (o / 64 % (n:Int))]) (.tuple [.tuple (r.c.map d4),r.r.d])=.ok (cV ⟨.n (o / 64 % (n:Int)),r.c,r.r⟩):=by
     rw[aQD rfl (by simp)];rfl
    have m:(⟨.n (o / 64 % (n:Int)),r.c,r.r⟩:Rw).good n/\r.c.length=sg:=⟨⟨⟨CS _ (by omega),CG _ D⟩,f.1.2.1,f.1.2.2⟩,f.2⟩
    cases C:b with
    | false=>
     subst C
     exact ⟨r,f,some (.d (cV r)),by simp[s,dB,a,dS,h,E,w]⟩
    | true=>
     subst C
     by_cases M:0 < o / 8 % 8
     ·refine ⟨⟨.n (o / 64 % (n:Int)),r.c,r.r⟩,m,some (.d (cV ⟨.n (o / 64 % (n:Int)),r.c,r.r⟩)),?_⟩
      simp[s,dB,dB D,a,dS,h,E,w,jT,M,I,y]
     ·exact ⟨r,f,some (.d (cV r)),by simp[s,dB,a,dS,h,E,w,jT,M]⟩
   obtain ⟨r2,P,e,O⟩:=g _ rfl
   by_cases t:at'+(k:Int) < (ns.length:Int)
   ·obtain ⟨S,B⟩:=sM (ns:=ns) (i:=0) (DH _) (by omega)
    by_cases N:S % 2=1
    ·obtain ⟨w1,H⟩:=sM (ns:=ns) (i:=at'+k) (by omega) t
     obtain ⟨L,K,X⟩:=aM9 w1 (n:=(n:Int)) (sg:=sg) D (by omega) (by omega)
     refine ⟨_,_,rfl,.inl ?_,rs++[L],some (.d (.int k)),q,by simp[p],snoc L X,rfl⟩
     simp[k8,t,B,dB,N,dS,H,K,w]
    ·refine ⟨_,_,rfl,.inl ?_,rs++[r2],some (.d (.int k)),e,by simp[p],snoc r2 P,rfl⟩
     rw[<-O]
     simp only[aBS,A2,AY]
     rw[mZ]
     simp only[lY,gR,fV,eQ,fU,AQ,AK,R.bind_ok,lH,k8,wI,lF,t,decide_true,CB,B,dB (show (0:Int) < 2 by decide),dS,N,GD,BS,CH]
   ·refine ⟨_,_,rfl,.inl ?_,rs++[r2],some (.d (.int k)),e,by simp[p],snoc r2 P,rfl⟩
    rw[<-O]
    simp only[aBS,A2,AY]
    rw[mZ]
    simp only[lY,gR,fV,eQ,fU,AQ,AK,R.bind_ok,lH,k8,wI,lF,t,GD,BS,CH])
 rw[BC] at p
 refine ⟨rs,?_,⟨by omega,by omega,s1,W,fun r a=>by rw[p];exact G r a⟩,p⟩
 unfold eH l5
 simp only[f9,AT,BD,BO,BL,AW,A8,List.replicate,a8,iX,lW,gH,R.bind_ok,CN,CB,AY,A2,jB,lG,eQ,AQ,AK,a,Q]
 simp[bH]
theorem uB(x y:Str):(x++y).cps.toList=x.cps.toList++y.cps.toList:=by
 show (x.cps++y.cps).toList=_
 rw[FD]
theorem aNA{ns:List Int}{at':Int}{m sg:Nat}(E:0<=at')(U:m<=1000)(s1:1<=sg)(T:sg<=3):∃ z:Str,dN [.d (eK ns),.d (.int at'),.d (.int m),.d (.int sg)]=.ok (.d (.str z))/\bC sg z.cps.toList/\z.cps.toList.length=m:=by
 have M:=gF (n:=m) (by omega)
 have G:(0:Int) < (sg:Int):=by omega
 have o:∀ y:Int,∃ c,dIx (.str "abc") (.int (y % (sg:Int)))=.ok (.str ⟨#[c]⟩)/\cH sg c=true:=fun y=>by
  obtain ⟨c,h1,h2⟩:=aL5 (k:=y) s1 T
  exact ⟨c,aLH (by decide) h1,h2⟩
 have D:∃ z:Str,(bX (vD (e2 zX (eC (.str "")) (eL (fR [none,some 0,some 1,some 3] (dJ (rV 2)) (stN 0) gS (e2 dIx (eC (.str "abc")) (e2 dMod (eA (aW 2 bD (aA (vV 1) (aA (vD (e2 bL (rV 2) (rV 0))) aM)))) (rV 3)))))))) [some (.d (eK ns)),some (.d (.int at')),some (.d (.int m)),some (.d (.int sg)),none,none,none]=.ok (.rt (.d (.str z)))/\bC sg z.cps.toList/\z.cps.toList.length=m:=by
  have b:∀ i:Nat,∃ c,(e2 dIx (eC (.str "abc")) (e2 dMod (eA (aW 2 bD (aA (vV 1) (aA (vD (e2 bL (rV 2) (rV 0))) aM)))) (rV 3))) [some (.d (.int i)),some (.d (eK ns)),some (.d (.int at')),some (.d (.int sg))]=.ok (.str ⟨#[c]⟩)/\cH sg c=true:=fun i=>by
   obtain ⟨v,Q⟩:=pO ns (at'+i)
   obtain ⟨c,h1,h2⟩:=o v
   exact ⟨c,by simp[Q,dB G,h1],h2⟩
  have r:=Classical.skolem.mp b
  obtain ⟨f,p⟩:=r
  have h1:=fF (fs:=stN 0) (fe:=e2 dIx (eC (.str "abc")) (e2 dMod (eA (aW 2 bD (aA (vV 1) (aA (vD (e2 bL (rV 2) (rV 0))) aM)))) (rV 3))) (ρ0:=[none,some (.d (eK ns)),some (.d (.int at')),some (.d (.int sg))]) (d:=fun i:Nat=>.int (i:Int)) (g:=fun i:Nat=>.str ⟨#[f i]⟩) (xs:=List.range m) fun i _=>⟨_,rfl,(p i).1⟩
  have B:qL ((List.range m).map fun i:Nat=>PyData.str ⟨#[f i]⟩)=some (((List.range m).map f).map one):=by
   rw[CC]
   generalize List.range m=l
   induction l with
   | nil=>rfl
   | cons a t ih=>simp only[AT,qL,ih];rfl
  have S:zX (.str "") (.list ((List.range m).map fun i:Nat=>.str ⟨#[f i]⟩))=.ok (.str ⟨((List.range m).map f).toArray⟩):=by
   show (match qL ((List.range m).map fun i:Nat=>PyData.str ⟨#[f i]⟩) with|some ys=>if _ then R.ok _ else .bad|none=>.bad)=_
   rw[B]
   simp only
   rw[AD (by rw[aL2,AB,AB,BC];show m+m * 0<=_;omega),aL4]
  refine ⟨⟨((List.range m).map f).toArray⟩,?_,⟨by simp;omega,fun c b=>?_⟩,by simp⟩
  ·simp[M,gL,h1,S]
  ·simp at b
   obtain ⟨i,_,rfl⟩:=b
   exact (p i).2
 obtain ⟨J,j,I,K⟩:=D
 by_cases u:at' < (ns.length:Int)
 ·obtain ⟨N,e⟩:=sM (ns:=ns) (i:=0) (DH _) (by omega)
  by_cases L:N % 2=1
  ·obtain ⟨w1,F⟩:=sM (ns:=ns) (i:=at') E u
   obtain ⟨O,p,y,z,w,s,C,rfl⟩:=f6 (fs:=stN 6) (fb:=aN (bN 5 (vD (e2 bL (rV 5) (e2 dIx (eC (.str "abc")) (e2 dMod (rV 4) (rV 3)))))) (bN 4 (vD (e2 dDiv (rV 4) (rV 3)))))
    (d:=fun i:Nat=>.int (i:Int)) (xs:=List.range m) (ρ:=[some (.d (eK ns)),some (.d (.int at')),some (.d (.int m)),some (.d (.int sg)),some (.d (.int w1)),some (.d (.str "")),none])
    (fun i ρ=>∃ (y:Int) (z:Str) (w:Option A),z.cps.toList.length=i/\(∀ c∈z.cps.toList,cH sg c=true)/\ρ=[some (.d (eK ns)),some (.d (.int at')),some (.d (.int m)),some (.d (.int sg)),some (.d (.int y)),some (.d (.str z)),w]) ⟨w1,"",none,rfl,fun c b=>(nomatch (show c∈([]:List Nat) from b)),rfl⟩
    (fun i k ρ P H=>by
     obtain ⟨y,z,w,s,C,rfl⟩:=H
     have hi:i < m:=by have:=(AI.mp P).1;simpa using this
     obtain ⟨c,h1,h2⟩:=o y
     have h:bL (.str z) (.str ⟨#[c]⟩)=.ok (.str (z++⟨#[c]⟩)):=aB3 (by
      have:z.length=z.cps.toList.length:=by simp[Str.length]
      show z.length+1<=_
      omega)
     refine ⟨_,_,rfl,.inl ?_,y / sg,z++⟨#[c]⟩,some (.d (.int k)),by rw[uB,A0,s];rfl,fun x r=>?_,rfl⟩
     ·simp[dB G,h1,h,jT G (show (sg:Int) < 18446744073709551616 by omega)]
     ·rw[uB] at r
      rcases BR.mp r with q|q
      ·exact C x q
      ·have:x=c:=by simpa using q
       rw[this];exact h2)
   rw[BC] at s
   refine ⟨z,?_,⟨by omega,C⟩,s⟩
   unfold dN jX
   simp only[f9,AT,BD,BO,BL,AW,A8,List.replicate,a8,mZ,lY,gR,fV,eQ,fU,AQ,AK,R.bind_ok,k8,wI,lF,u,decide_true,CB,e,dB (show (0:Int) < 2 by decide),dS,L,iM,kB,F,AY,A2,jB,lG,M,p,aM6,qT]
  ·refine ⟨J,?_,I,K⟩
   unfold dN jX
   simp only[f9,AT,BD,BO,BL,AW,A8,List.replicate]
   rw[a8,mZ]
   simp only[lY,gR,fV,eQ,fU,AQ,AK,R.bind_ok,k8,wI,lF,u,decide_true,CB,e,dB (show (0:Int) < 2 by decide),dS,L,GD,BS,CH,aBR]
   rw[j];rfl
 ·refine ⟨J,?_,I,K⟩
  unfold dN jX
  simp only[f9,AT,BD,BO,BL,AW,A8,List.replicate]
  rw[a8,mZ]
  simp only[lY,gR,fV,eQ,fU,AQ,AK,R.bind_ok,k8,wI,lF,u,GD,BS,CH,aBR]
  rw[j];rfl
theorem aNB(i:Int):iN [.d (.int i)]=.ok (.d (.bool true)):=by
 have h1:iV "int" "int"=true:=by decide
 have h2:iV "int" "bool"=false:=by decide
 simp[iN,oF,h1,h2]
end Mc
namespace Mc
open PySem L2 PyProof.Rows
def fP(rs:List Rw)(z:List Nat)(s:Int×Int):Option ((Int×Int)⊕Str):=
 match (bY rs z s).1 with
 | .w x=>some (.inr x)
 | .n q=>some (.inl (s.1+(bY rs z s).2,q))
theorem walk_step{rs:List Rw}{z:List Nat}{s:Int×Int}:(∃ x,eI rs z s=none/\(bY rs z s).1=.w x/\fP rs z s=some (.inr x))\/∃ s',eI rs z s=some s'/\fP rs z s=some (.inl s'):=by
 unfold eI fP
 cases (bY rs z s).1 with
 | w x=>exact .inl ⟨x,rfl,rfl,rfl⟩
 | n q=>exact .inr ⟨_,rfl,rfl⟩
end Mc
namespace Mc
open PySem L2 PyProof.Rows Fl
theorem wL:iV "int" "str"=false:=by decide
theorem wM:iV "str" "str"=true:=by decide
theorem pP{rs:List Rw}{q:Int}(h0:0<=q)(h1:q < (rs.length:Int)):dIx (bH rs) (.int q)=.ok (cV (bA rs q)):=hV (pL h0 (by rw[AH,eF h0 h1];rfl))
def nA:Option (Int×Int)->PyData
 | none=>.none
 | some s=>prD s
theorem nQ(z:Str):z.length=z.cps.toList.length:=by simp[Str.length]
theorem wN{rs:List Rw}{sg:Nat}{z:Str}(M:Mach rs sg)(S:bC sg z.cps.toList){s:Int×Int}(V:j5 rs z.cps.toList s):fJ [.d (bH rs),.d (.str z),.d (prD s)]=.ok (.d (nA (eI rs z.cps.toList s))):=by
 obtain ⟨p,q⟩:=s
 have i:=pP V.2.2.1 V.2.2.2
 have k:z.length<=16777216:=by rw[nQ];have:=S.1;omega
 have g:=aBX k
 rw[nQ] at g
 generalize E:z.cps.toList=h at *
 unfold fJ o5
 by_cases f:p=0
 ·subst f
  have a:eI rs h (0,q)=match (bA rs q).l with | .w _=>none | .n q'=>some (0+1,q'):=by
   unfold eI bY;simp only[CB]<;>(cases (bA rs q).l<;>rfl)
  cases e:(bA rs q).l with
  | w x=>
   rw[e] at a
   rw[a]
   simp[prD,i,g,cV,dS,e,Tn.d,wM,nA]
  | n q'=>
   rw[e] at a
   rw[a]
   simp[prD,i,g,cV,dS,e,Tn.d,wL,nA]
 ·by_cases h1:p=(h.length:Int)+1
  ·have a:eI rs h (p,q)=match (bA rs q).r with | .w _=>none | .n q'=>some (p + -1,q'):=by
    unfold eI bY;simp only[AE f,AD h1]<;>(cases (bA rs q).r<;>rfl)
   have u:(0:Int) < p:=by omega
   have b:(h.length:Int) < p:=by omega
   cases e:(bA rs q).r with
   | w x=>
    rw[e] at a
    rw[a]
    simp[prD,i,g,cV,dS,e,Tn.d,wM,nA,f,b,u]
   | n q'=>
    rw[e] at a
    rw[a]
    simp[prD,i,g,cV,dS,e,Tn.d,wL,nA,f,b,u]
    omega
  ·obtain ⟨c,m,B,v⟩:=aDI S V f h1
   obtain ⟨j,o,t,F⟩:=aAT M S V f h1
   have y:=V.1
   have C:=V.2.1
   simp only at y C m v o t
   have a:eI rs h (p,q)=some (p+j.2,j.1):=by
    unfold eI bY;simp only[AE f,AE h1,t]
   have b:¬ (h.length:Int) < p:=by omega
   have D:dIx (.str z) (.int (p - 1))=.ok (.str ⟨#[c]⟩):=aLH k (pL (by omega) (by rw[E,<-m];congr 1;omega))
   have id:=xX (u1 M.sg3 B)
   have A:dIx (.tuple ((bA rs q).c.map d4)) (.int ((c - 97:Nat):Int))=.ok (d4 j):=hV (dX (by rw[AH,<-v,o];rfl))
   rw[a]
   simp[prD,i,g,cV,dS,nA,f,b,D,id,A,d4]
theorem kQ(xs:List PyData)(x:PyData):dIx (.list (xs++[x])) (.int (-1))=.ok x:=oV (L2.aIX xs x)
def stρ(rs:List Rw)(z:Str)(ps:List (Int×Int))(s:Int×Int)(u:Option A):Sg:=[some (.d (bH rs)),some (.d (.str z)),some (.l (ps.map prD++[prD s])),some (.m (been prD ps)),u]
theorem aQG{rs:List Rw}{z:Str}{ps:List (Int×Int)}{s:Int×Int}{u:Option A}(h:s∈ps):u7 (stρ rs z ps s u)=.ok false:=by
 have h1:=jV l0 ps s
 have h2:=(oE k7).mpr h
 simp[u7,stρ,kQ,h1,h2]
theorem aEB{rs:List Rw}{z:Str}{ps:List (Int×Int)}{s:Int×Int}{u:Option A}(h:s∉ps):u7 (stρ rs z ps s u)=.ok true:=by
 have h1:=jV l0 ps s
 have h2:=iQ k7 h
 simp[u7,stρ,kQ,h1,h2]
theorem aH0(s:Int×Int):hU (prD s)=false:=id rfl
theorem aNC{rs:List Rw}{sg:Nat}{z:Str}(M:Mach rs sg)(S:bC sg z.cps.toList){ps:List (Int×Int)}{s:Int×Int}{u:Option A}(V:j5 rs z.cps.toList s)(h:s∉ps)(c:ps.length<=2000000)(e:eI rs z.cps.toList s=none):u8 (stρ rs z ps s u)=.ok (.rt (.d (.list ((ps++[s]).map prD)))):=by
 have h1:=jV l0 ps s
 have a:=lZ k7 h
 have b:(been prD ps).length<=16777216:=by rw[jW];omega
 have f:=wN M S V
 rw[e] at f
 simp[u8,stρ,kQ,h1,a,b,f,nA]
theorem aQH{rs:List Rw}{sg:Nat}{z:Str}(M:Mach rs sg)(S:bC sg z.cps.toList){ps:List (Int×Int)}{s s':Int×Int}{u:Option A}(V:j5 rs z.cps.toList s)(h:s∉ps)(g:ps.length<=2000000)(e:eI rs z.cps.toList s=some s'):u8 (stρ rs z ps s u)=.ok (.nx (stρ rs z (ps++[s]) s' (some (.d (prD s'))))):=by
 have h1:=jV l0 ps s
 have b:=lZ k7 h
 have c:(been prD ps).length<=16777216:=by rw[jW];omega
 have f:=wN M S V
 rw[e] at f
 have a:ps.length+1 < 16777216:=by omega
 simp[u8,stρ,kQ,h1,b,c,f,nA,aH0,a]
def lJ(rs:List Rw)(z:List Nat)(s:Int×Int):Prop:=j5 rs z s/\((eI rs z s=none/\∃ x,(bY rs z s).1=.w x/\cC (fP rs z) (0,0)=some x)\/((∃ s',eI rs z s=some s')/\cC (fP rs z) (0,0)=none))
theorem aC0{rs:List Rw}{sg:Nat}{z:Str}(M:Mach rs sg)(S:bC sg z.cps.toList):∀ (k:Nat) (ps:List (Int×Int)) (s:Int×Int) (u:Option A),Way rs z.cps.toList ps s k->Und2 (fP rs z.cps.toList) (0,0) ps s->
  aN (bS u7 u8) (sFz 2 (bX (vV 2))) (stρ rs z ps s u)=.ok (.rt (.d (.list ((nI rs z.cps.toList).map prD))))/\∃ ps' s',nI rs z.cps.toList=ps'++[s']/\lJ rs z.cps.toList s':=by
 have g:lA rs z.cps.toList<=1002 * 1000:=EM (by have:=S.1;omega) M.len2
 have b:∀ (k:Nat) (ps:List (Int×Int)) (s:Int×Int) (u:Option A),Way rs z.cps.toList ps s k->Und2 (fP rs z.cps.toList) (0,0) ps s->s∈ps->aN (bS u7 u8) (sFz 2 (bX (vV 2))) (stρ rs z ps s u)=.ok (.rt (.d (.list ((nI rs z.cps.toList).map prD))))/\∃ ps' s',nI rs z.cps.toList=ps'++[s']/\lJ rs z.cps.toList s':=by
  intro k ps s u W U a
  refine ⟨?_,ps,s,(W.stop a).symm,W.here,.inr ⟨?_,U.met a⟩⟩
  ·rw[a8,dC (aQG a),<-W.stop a]
   simp[stρ]
  ·obtain ⟨m,r⟩:=U.back s a
   cases r with
   | cons h t=>
    rcases walk_step (rs:=rs) (z:=z.cps.toList) (s:=s) with ⟨x,_,_,e⟩|⟨s',e,_⟩
    · rw [e] at h; cases h
    · exact ⟨s', e⟩
 intro k
 induction k with
 | zero=>
  intro ps s u W U
  by_cases a:s∈ps
  ·exact b 0 ps s u W U a
  ·obtain ⟨j,i⟩:=W.more a;omega
 | succ k ih=>
  intro ps s u W U
  by_cases a:s∈ps
  ·exact b _ ps s u W U a
  ·have f:ps.length<=2000000:=by have:=W.num;omega
   rcases walk_step (rs:=rs) (z:=z.cps.toList) (s:=s) with ⟨x,e,e2,c⟩|⟨s',e,c⟩
   ·refine ⟨?_,ps,s,(W.ends a e).symm,W.here,.inl ⟨e,x,e2,U.outs c⟩⟩
    rw[a8,jU (aEB a) (aNC M S W.here a f e),<-W.ends a e];rfl
   ·have:=ih (ps++[s]) s' (some (.d (prD s'))) (W.next M S a e) (U.next a c)
    rw[a8] at this ⊢
    rw[eY (aEB a) (aQH M S W.here a f e)]
    exact this
theorem aB5{rs:List Rw}{sg:Nat}{z:Str}(M:Mach rs sg)(S:bC sg z.cps.toList):i9 [.d (bH rs),.d (.str z)]=.ok (.d (.list ((nI rs z.cps.toList).map prD)))/\∃ ps' s',nI rs z.cps.toList=ps'++[s']/\lJ rs z.cps.toList s':=by
 have h:=aC0 M S (lA rs z.cps.toList) [] (0,0) none (Way.start M) Und2.start
 refine ⟨?_,h.2⟩
 unfold i9
 rw[m8]
 simp only[f9,a8,iX,lW,jS,aD5,fU,gH,R.bind_ok,AW,A8,Nat.reduceAdd,Nat.reduceLeDiff,CB,AT,BD,BO,BL,List.replicate,AY,A2,oC]
 have e:=h.1
 rw[a8] at e
 simp only[stρ,BD,BL,been,prD] at e
 rw[e];rfl
noncomputable def gB(rs:List Rw)(z:List Nat):Str:=(cC (fP rs z) (0,0)).getD "ever"
theorem aH1{rs:List Rw}{sg:Nat}{z:Str}(M:Mach rs sg)(S:bC sg z.cps.toList):eN [.d (bH rs),.d (.str z)]=.ok (.d (.str (gB rs z.cps.toList))):=by
 obtain ⟨h,ps,s,e,V,q⟩:=aB5 M S
 have f:=wN M S V
 rw[e,BK,AT,BD] at h
 have c:=pP V.2.2.1 V.2.2.2
 unfold eN o6 gB
 obtain ⟨p,r⟩:=s
 rcases q with ⟨i,x,a,j⟩|⟨⟨s',i⟩,j⟩
 ·rw[i] at f
  rw[j]
  have b:(if 0 < p then (bA rs r).r else (bA rs r).l)=.w x:=by
   unfold bY at a
   simp only at a
   by_cases k:p=0
   ·rw[AD k] at a;rw[AE (by omega)];exact a
   ·rw[AE k] at a
    have m:=V.1
    simp only at m
    rw[AD (by omega)]
    by_cases h1:p=(z.cps.toList.length:Int)+1
    · rw [AD h1] at a; exact a
    · rw [AE h1] at a; cases a
  simp only[prD] at f c h
  by_cases g:0 < p
  ·rw[AD g] at b
   simp[h,kQ,prD,f,nA,c,cV,g,b,Tn.d]
  ·rw[AE g] at b
   simp[h,kQ,prD,f,nA,c,cV,g,b,Tn.d]
 ·rw[i] at f
  rw[j]
  simp only[prD] at f c h
  simp[h,kQ,prD,f,nA]
end Mc
namespace Mc
open PySem L2 PyProof.Rows
section
variable{S T O Q:Type}
structure Gates(st:S->Option (S⊕O))(sub:S->Option (S⊕Q))(ext:Q->T⊕O)(g:T->S)(ent:T->S⊕O)(Dom:S->Prop)(TV:T->Prop):Prop where
 step:∀ s,Dom s->(∃ s',sub s=some (.inl s')/\st s=some (.inl s')/\Dom s')\/(∃ e t,sub s=some (.inr e)/\ext e=.inl t/\st s=some (.inl (g t))/\TV t)\/∃ e o,sub s=some (.inr e)/\ext e=.inr o/\st s=some (.inr o)
 gate:∀ t,TV t->(∃ s,ent t=.inl s/\st (g t)=some (.inl s)/\Dom s)\/∃ o,ent t=.inr o/\st (g t)=some (.inr o)
noncomputable def gst(sub:S->Option (S⊕Q))(ext:Q->T⊕O)(ent:T->S⊕O)(ev:O)(t:T):Option (T⊕O):=match ent t with
 | .inr o=>some (.inr o)
 | .inl s=>match cC sub s with
  | none=>some (.inr ev)
  | some e=>some (ext e)
variable{st:S->Option (S⊕O)}{sub:S->Option (S⊕Q)}{ext:Q->T⊕O}{g:T->S}{ent:T->S⊕O}{Dom:S->Prop}{TV:T->Prop}
theorem iY{st:S->Option (S⊕O)}{s:S}{o:O}{n:Nat}(h:Ex st n s o):cC st s=some o:=((mR st s) o).mpr ⟨n,h⟩
theorem gO{st:S->Option (S⊕O)}{s:S}{o:O}(h:cC st s=some o):∃ n,Ex st n s o:=((mR st s) o).mp h
theorem Gates.in1(G:Gates st sub ext g ent Dom TV){k:Nat}{s:S}{e:Q}(d:Dom s)(h:Ex sub k s e):(∀ t,ext e=.inl t->Rc st (k+1) s (g t)/\TV t)/\∀ o,ext e=.inr o->Ex st k s o:=by
 induction h with
 | out h=>
  rcases G.step _ d with ⟨s',a,_⟩|⟨i,t,a,b,c,tv⟩|⟨i,o,a,b,c⟩
  ·rw[h] at a;cases a
  ·rw[h] at a;cases a
   exact ⟨fun f z=>by rw[b] at z;cases z;exact ⟨.cons c .nil,tv⟩,fun o z=>by rw[b] at z;cases z⟩
  ·rw[h] at a;cases a
   exact ⟨fun f z=>(by rw[b] at z;cases z),fun o' z=>by rw[b] at z;cases z;exact .out c⟩
 | go h t ih=>
  rcases G.step _ d with ⟨s',a,b,c⟩|⟨i,t,a,b,c,tv⟩|⟨i,o,a,b,c⟩
  ·rw[h] at a;cases a
   obtain ⟨j,l⟩:=ih c
   exact ⟨fun f z=>⟨.cons b (j f z).1,(j f z).2⟩,fun o z=>.go b (l o z)⟩
  ·rw[h] at a;cases a
  ·rw[h] at a;cases a
theorem Gates.in2(G:Gates st sub ext g ent Dom TV){n:Nat}{s:S}{o:O}(d:Dom s)(h:Ex st n s o):∃ k e,Ex sub k s e/\((∃ t n',ext e=.inl t/\TV t/\n' < n/\Ex st n' (g t) o)\/ext e=.inr o):=by
 induction h with
 | out h=>
  rcases G.step _ d with ⟨s',a,b,_⟩|⟨f,t,a,b,c,tv⟩|⟨f,o',a,b,c⟩
  ·rw[h] at b;cases b
  ·rw[h] at c;cases c
  ·rw[h] at c;cases c
   exact ⟨0,f,.out a,.inr b⟩
 | go h t ih=>
  rcases G.step _ d with ⟨s',a,b,c⟩|⟨f,i,a,b,c,tv⟩|⟨f,o',a,b,c⟩
  ·rw[h] at b;cases b
   obtain ⟨k,e,q,r⟩:=ih c
   refine ⟨k+1,e,.go a q,r.imp ?_ id⟩
   rintro ⟨t,n',x1,x2,x3,x4⟩
   exact ⟨t,n',x1,x2,by omega,x4⟩
  ·rw[h] at c;cases c
   exact ⟨0,f,.out a,.inl ⟨i,_,b,tv,by omega,t⟩⟩
  ·rw[h] at c;cases c
theorem Gates.fwd(G:Gates st sub ext g ent Dom TV)(j:O):∀ (n:Nat) {t:T} {o:O},TV t->Ex st n (g t) o->∃ m,Ex (gst sub ext ent j) m t o:=by
 intro n
 induction n using Nat.strongRecOn with
 | ind n ih=>
  intro t o tv h
  rcases G.gate t tv with ⟨s,a,b,c⟩|⟨o',a,b⟩
  ·cases h with
   | out h=>rw[b] at h;cases h
   | go h q=>
    rw[b] at h;cases h
    obtain ⟨k,e,x,y⟩:=G.in2 c q
    have d:=iY x
    rcases y with ⟨v,f,p,i,u,l⟩|y
    ·obtain ⟨m,r⟩:=ih f (by omega) i l
     exact ⟨m+1,.go (by unfold gst;rw[a];simp only;rw[d];simp only;rw[p]) r⟩
    ·exact ⟨0,.out (by unfold gst;rw[a];simp only;rw[d];simp only;rw[y])⟩
  ·cases h with
   | out h=>rw[b] at h;cases h;exact ⟨0,.out (by unfold gst;rw[a])⟩
   | go h q=>rw[b] at h;cases h
theorem Gates.bwd(G:Gates st sub ext g ent Dom TV){f:O}{m:Nat}{t:T}{o:O}(h:Ex (gst sub ext ent f) m t o)(tv:TV t):o=f\/∃ n,Ex st n (g t) o:=by
 induction h with
 | @out t o h=>
  rcases G.gate t tv with ⟨s,a,b,c⟩|⟨o',a,b⟩
  ·unfold gst at h
   rw[a] at h
   simp only at h
   cases e:cC sub s with
   | none=>rw[e] at h;cases h;exact .inl rfl
   | some x=>
    rw[e] at h
    have h':ext x=.inr o:=BP h
    obtain ⟨k,d⟩:=gO e
    exact .inr ⟨k+1,.go b ((G.in1 c d).2 o h')⟩
  ·unfold gst at h
   rw[a] at h
   cases h
   exact .inr ⟨0,.out b⟩
 | @go t t' o n h q ih=>
  rcases G.gate t tv with ⟨s,a,b,c⟩|⟨o',a,b⟩
  ·unfold gst at h
   rw[a] at h
   simp only at h
   cases e:cC sub s with
   | none=>rw[e] at h;cases h
   | some x=>
    rw[e] at h
    have h':ext x=.inl t':=BP h
    obtain ⟨k,d⟩:=gO e
    obtain ⟨r1,r2⟩:=(G.in1 c d).1 t' h'
    rcases ih r2 with z|⟨i,z⟩
    · exact .inl z
    · exact .inr ⟨i + (k + 1) + 1, .go b (r1.to z)⟩
  ·unfold gst at h
   rw[a] at h
   cases h
theorem Gates.eq(G:Gates st sub ext g ent Dom TV)(a:O){t:T}(tv:TV t):(cC st (g t)).getD a=(cC (gst sub ext ent a) t).getD a:=by
 cases e:cC st (g t) with
 | some o=>
  obtain ⟨n,h⟩:=gO e
  obtain ⟨m,b⟩:=G.fwd a n tv h
  rw[iY b]
 | none=>
  cases e2:cC (gst sub ext ent a) t with
  | none=>rfl
  | some o=>
   obtain ⟨m,b⟩:=gO e2
   rcases G.bwd b tv with z|⟨n,z⟩
   · rw [z]; rfl
   · rw [iY z] at e; cases e
theorem Gates.inn(G:Gates st sub ext g ent Dom TV)(a:O){s:S}(d:Dom s):(cC st s).getD a=match cC sub s with
  | none=>a
  | some e=>match ext e with
   | .inr o=>o
   | .inl t=>(cC (gst sub ext ent a) t).getD a:=by
 cases e:cC sub s with
 | none=>
  cases e2:cC st s with
  | none=>rfl
  | some o=>
   obtain ⟨n,h⟩:=gO e2
   obtain ⟨k,x,j,_⟩:=G.in2 d h
   rw[iY j] at e;cases e
 | some x=>
  obtain ⟨k,f⟩:=gO e
  obtain ⟨i,c⟩:=G.in1 d f
  simp only
  cases q:ext x with
  | inr o=>simp only;rw[iY (c o q)];rfl
  | inl t=>
   simp only
   obtain ⟨r1,r2⟩:=i t q
   rw[<-G.eq a r2]
   cases e2:cC st (g t) with
   | some o=>
    obtain ⟨n,h⟩:=gO e2
    rw[iY (r1.to h)]
   | none=>
    cases b:cC st s with
    | none=>rfl
    | some o=>
     obtain ⟨n,h⟩:=gO b
     obtain ⟨l,_,z⟩:=r1.ex h
     rw[iY z] at e2;cases e2
end
def gC:Str:="ever"
def cM(rs:List Rw)(z:List Nat)(s:Int×Int):Option ((Int×Int)⊕Tn):=
 match (bY rs z s).1 with
 | .w x=>some (.inr (.w x))
 | .n q=>if s.1+(bY rs z s).2<=(z.length:Int) then some (.inl (s.1+(bY rs z s).2,q)) else some (.inr (.n q))
def lK(rs:List Rw)(z:List Nat)(s:Int×Int):Prop:=0<=s.1/\s.1<=(z.length:Int)/\0<=s.2/\s.2 < (rs.length:Int)
def dD(rs:List Rw)(q:Int):Prop:=0<=q/\q < (rs.length:Int)
theorem lK.valid{rs:List Rw}{z:List Nat}{s:Int×Int}(h:lK rs z s):j5 rs z s:=⟨h.1,by have:=h.2.1;omega,h.2.2⟩
noncomputable def eM(rs:List Rw)(z:List Nat)(s:Int×Int):Tn:=(cC (cM rs z) s).getD (.w gC)
noncomputable def d8(rs:List Rw)(z:List Nat)(q:Int):Tn:=eM rs z ((z.length:Int),q)
theorem aH2{rs:List Rw}{z:List Nat}{c:Nat}{s:Int×Int}(h0:0<=s.1)(h:s.1<=(z.length:Int)):bY rs (z++[c]) s=bY rs z s:=by
 unfold bY
 by_cases h1:s.1=0
 ·rw[AD h1,AD h1]
 ·rw[AE h1,AE h1,AE (by rw[A0,B5];omega),AE (by omega)]
  have e:(z++[c]).getD (s.1.toNat - 1) 97=z.getD (s.1.toNat - 1) 97:=by
   rw[A5,A5,BV (by omega)]
  rw[e]
theorem beg_cell{rs:List Rw}{sg:Nat}{z:List Nat}{s:Int×Int}(M:Mach rs sg)(S:bC sg z)(V:lK rs z s):(∃ x,(bY rs z s).1=.w x/\s.1=0)\/∃ q,(bY rs z s).1=.n q/\dD rs q/\0<=s.1+(bY rs z s).2/\s.1+(bY rs z s).2<=(z.length:Int)+1:=by
 cases e:(bY rs z s).1 with
 | w x=>
  refine .inl ⟨x,rfl,?_⟩
  by_cases b:s.1=0
  ·exact b
  ·unfold bY at e
   rw[AE b,AE (by have:=V.2.1;omega)] at e
   cases e
 | n q=>
  have a:j5 rs z (s.1+(bY rs z s).2,q):=vS M S V.valid (by unfold eI;rw[e])
  exact .inr ⟨q,rfl,⟨a.2.2.1,a.2.2.2⟩,a.1,a.2.1⟩
def aQI(e:Tn):Int⊕Tn:=match e with
 | .n q=>.inl q
 | .w x=>.inr (.w x)
def aQJ(e:Tn):Int⊕Str:=match e with
 | .n q=>.inl q
 | .w x=>.inr x
def aB6(rs:List Rw)(z:List Nat)(c:Nat)(q:Int):(Int×Int)⊕Tn:=
 if ((bA rs q).c.getD (c - 97) (0,0)).2=1 then .inr (.n ((bA rs q).c.getD (c - 97) (0,0)).1) else .inl ((z.length:Int),((bA rs q).c.getD (c - 97) (0,0)).1)
theorem zE{rs:List Rw}{z:List Nat}{c:Nat}{q:Int}:bY rs (z++[c]) ((z.length:Int)+1,q)=(.n ((bA rs q).c.getD (c - 97) (0,0)).1,((bA rs q).c.getD (c - 97) (0,0)).2):=by
 unfold bY
 have e:(z++[c]).getD (((z.length:Int)+1).toNat - 1) 97=c:=by
  rw[show ((z.length:Int)+1).toNat - 1=z.length by omega,A5,CA (AG _)];simp
 rw[AE (show ¬ (z.length:Int)+1=0 by omega),AE (by simp only[A0,B5];omega)]
 simp only
 rw[e]
theorem zF{rs:List Rw}{sg:Nat}{z:List Nat}{c:Nat}(M:Mach rs sg)(S:bC sg z)(k:cH sg c=true):Gates (cM rs (z++[c])) (cM rs z) aQI (fun q=>((z.length:Int)+1,q)) (aB6 rs z c) (lK rs z) (dD rs) where
 step:=fun s V=>by
  have g:=aH2 (rs:=rs) (c:=c) V.1 V.2.1
  have d:((z++[c]).length:Int)=(z.length:Int)+1:=by rw[A0,B5];omega
  rcases beg_cell M S V with ⟨x,e,m⟩|⟨q,e,b,h1,h2⟩
  ·refine .inr (.inr ⟨.w x,.w x,?_,rfl,?_⟩)
   ·unfold cM;rw[e]
   ·unfold cM;rw[g,e]
  ·by_cases f:s.1+(bY rs z s).2<=(z.length:Int)
   ·refine .inl ⟨(s.1+(bY rs z s).2,q),?_,?_,h1,f,b⟩
    · unfold cM; rw [e]; simp only; rw [AD f]
    · unfold cM; rw [g, e]; simp only; rw [AD (by rw [d]; omega)]
   ·refine .inr (.inl ⟨.n q,q,?_,rfl,?_,b⟩)
    · unfold cM; rw [e]; simp only; rw [AE f]
    · unfold cM; rw [g, e]; simp only; rw [AD (by rw [d]; omega), show s.1 + (bY rs z s).2 = (z.length : Int) + 1 by omega]
 gate:=fun q b=>by
  have d:((z++[c]).length:Int)=(z.length:Int)+1:=by rw[A0,B5];omega
  have h:=AL (eF b.1 b.2)
  obtain ⟨_,i⟩:=pJ M h (show c - 97 < sg by have:=BY k;omega)
  obtain ⟨j,l,a⟩:=i
  rcases a with a|a
  ·refine .inr ⟨.n _,by unfold aB6;rw[AD a],?_⟩
   unfold cM;rw[zE];simp only;rw[AE (by rw[d,a];omega)]
  ·refine .inl ⟨((z.length:Int),((bA rs q).c.getD (c - 97) (0,0)).1),by unfold aB6;rw[AE (by rw[a];decide)],?_,?_⟩
   ·unfold cM;rw[zE];simp only;rw[AD (by rw[d,a];omega),a,show (z.length:Int)+1 + -1=z.length by omega]
   ·exact ⟨by show (0:Int)<=z.length;omega,DH _,j,l⟩
def gD(rs:List Rw)(bk:Int->Tn)(c:Nat)(q:Int):Option (Int⊕Tn):=
 if ((bA rs q).c.getD (c - 97) (0,0)).2=1 then some (.inr (.n ((bA rs q).c.getD (c - 97) (0,0)).1)) else match bk ((bA rs q).c.getD (c - 97) (0,0)).1 with
  | .n r=>some (.inl r)
  | .w x=>some (.inr (.w x))
noncomputable def onR(rs:List Rw)(bk:Int->Tn)(c:Nat)(t:Tn):Tn:=match t with
 | .w x=>.w x
 | .n q=>(cC (gD rs bk c) q).getD (.w gC)
theorem aH3{rs:List Rw}{z:List Nat}{c:Nat}:gst (cM rs z) aQI (aB6 rs z c) (.w gC)=gD rs (d8 rs z) c:=by
 funext q
 unfold gst aB6 gD d8 eM
 by_cases h:((bA rs q).c.getD (c - 97) (0,0)).2=1
 ·rw[AD h,AD h]
 ·rw[AE h,AE h]
  simp only
  cases cC (cM rs z) ((z.length:Int),((bA rs q).c.getD (c - 97) (0,0)).1) with
  | none=>rfl
  | some e=>cases e<;>rfl
theorem aH4{rs:List Rw}{sg:Nat}{z:List Nat}{c:Nat}(M:Mach rs sg)(S:bC sg z)(b:cH sg c=true){q:Int}(a:dD rs q):d8 rs (z++[c]) q=onR rs (d8 rs z) c (.n q):=by
 have h:=(zF M S b).eq (.w gC) a
 rw[aH3] at h
 unfold d8 eM onR
 rw[show ((z++[c]).length:Int)=(z.length:Int)+1 by rw[A0,B5];omega]
 exact h
theorem qU{rs:List Rw}{sg:Nat}(M:Mach rs sg)(z:List Nat):lK rs z (0,0):=⟨DH _,by show (0:Int)<=z.length;omega,DH _,by have:=M.len;show (0:Int) < rs.length;omega⟩
theorem aH5{rs:List Rw}{sg:Nat}{z:List Nat}{c:Nat}(M:Mach rs sg)(S:bC sg z)(a:cH sg c=true):eM rs (z++[c]) (0,0)=onR rs (d8 rs z) c (eM rs z (0,0)):=by
 have h:=(zF M S a).inn (.w gC) (qU M z)
 rw[aH3] at h
 unfold eM
 rw[h]
 cases cC (cM rs z) (0,0) with
 | none=>rfl
 | some e=>cases e<;>rfl
def f8(rs:List Rw)(bk:Int->Tn)(q:Int):Option (Int⊕Str):=match (bA rs q).r with
 | .w x=>some (.inr x)
 | .n q'=>match bk q' with
  | .n r=>some (.inl r)
  | .w x=>some (.inr x)
noncomputable def wbR(rs:List Rw)(bk:Int->Tn)(t:Tn):Str:=match t with
 | .w x=>x
 | .n q=>(cC (f8 rs bk) q).getD gC
def aB7(rs:List Rw)(z:List Nat)(q:Int):(Int×Int)⊕Str:=match (bA rs q).r with
 | .w x=>.inr x
 | .n q'=>.inl ((z.length:Int),q')
theorem zG{rs:List Rw}{z:List Nat}{q:Int}:bY rs z ((z.length:Int)+1,q)=((bA rs q).r,-1):=by
 unfold bY
 rw[AE (show ¬ (z.length:Int)+1=0 by omega),AD rfl]
theorem aFT{rs:List Rw}{sg:Nat}{z:List Nat}(M:Mach rs sg)(S:bC sg z):Gates (fP rs z) (cM rs z) aQJ (fun q=>((z.length:Int)+1,q)) (aB7 rs z) (lK rs z) (dD rs) where
 step:=fun s V=>by
  rcases beg_cell M S V with ⟨x,e,f⟩|⟨q,e,a,h1,h2⟩
  ·refine .inr (.inr ⟨.w x,x,?_,rfl,?_⟩)
   ·unfold cM;rw[e]
   ·unfold fP;rw[e]
  ·by_cases b:s.1+(bY rs z s).2<=(z.length:Int)
   ·refine .inl ⟨(s.1+(bY rs z s).2,q),?_,?_,h1,b,a⟩
    · unfold cM; rw [e]; simp only; rw [AD b]
    · unfold fP; rw [e]
   ·refine .inr (.inl ⟨.n q,q,?_,rfl,?_,a⟩)
    · unfold cM; rw [e]; simp only; rw [AE b]
    · unfold fP; rw [e]; simp only; rw [show s.1 + (bY rs z s).2 = (z.length : Int) + 1 by omega]
 gate:=fun q a=>by
  have d:=AL (eF a.1 a.2)
  have c:=(M.row _ d).1.2.1
  cases e:(bA rs q).r with
  | w x=>exact .inr ⟨x,by unfold aB7;rw[e],by unfold fP;rw[zG];simp only;rw[e]⟩
  | n q'=>
   rw[e] at c
   refine .inl ⟨((z.length:Int),q'),by unfold aB7;rw[e],?_,⟨by show (0:Int)<=z.length;omega,DH _,c.1,c.2⟩⟩
   unfold fP;rw[zG];simp only;rw[e];simp only;rw[show (z.length:Int)+1 + -1=z.length by omega]
theorem aQK{rs:List Rw}{z:List Nat}:gst (cM rs z) aQJ (aB7 rs z) gC=f8 rs (d8 rs z):=by
 funext q
 unfold gst aB7 f8 d8 eM
 cases (bA rs q).r with
 | w x=>rfl
 | n q'=>
  simp only
  cases cC (cM rs z) ((z.length:Int),q') with
  | none=>rfl
  | some e=>cases e<;>rfl
theorem aJ6{rs:List Rw}{sg:Nat}{z:List Nat}(M:Mach rs sg)(S:bC sg z):(cC (fP rs z) (0,0)).getD gC=wbR rs (d8 rs z) (eM rs z (0,0)):=by
 have h:=(aFT M S).inn gC (qU M z)
 rw[aQK] at h
 rw[h]
 unfold eM wbR
 cases cC (cM rs z) (0,0) with
 | none=>rfl
 | some e=>cases e<;>rfl
theorem aEC{rs:List Rw}{q:Int}:eM rs [] (0,q)=(bA rs q).l:=by
 have a:bY rs [] (0,q)=((bA rs q).l,1):=by unfold bY;rw[AD rfl]
 unfold eM
 cases e:(bA rs q).l with
 | w x=>rw[yT (o:=.w x) (by unfold cM;rw[a,e])];rfl
 | n q'=>
  rw[yT (o:=.n q') (by unfold cM;rw[a,e];simp only;rw[AE (by decide)])];rfl
end Mc
namespace Mc
open PySem L2 PyProof.Rows Fl
def iZ(f:Tn)(bk:List Tn):PyData:=.tuple [f.d,.tuple (bk.map Tn.d)]
def bkF(bk:List Tn)(q:Int):Tn:=bk.getD q.toNat (.w gC)
def tnV(m:Nat):Tn->Prop
 | .n i=>0<=i/\i < (m:Int)
 | .w _=>True
theorem kC(a b:Int)(h:PyData.int a=PyData.int b):a=b:=by injection h
theorem kD(ps:List Int)(q:Int):cI (.int q) ((been PyData.int ps).map (·.1))=true:=by
 unfold cI
 rw[sK,CT]
 refine .inr ?_
 rw[show o0 (.int q)=true from rfl,FQ,BW]
 intro x a
 obtain ⟨i,_,rfl⟩:=BA.mp a
 rfl
theorem xY(i:Int):gE [.d (.int i)]=.ok (.d (.bool false)):=by
 unfold gE oS
 simp[wL]
theorem xZ(x:Str):gE [.d (.str x)]=.ok (.d (.bool true)):=by
 unfold gE oS
 simp[wM]
def gP(rs:List Rw)(k:Nat):PyData:=.list (rs.map fun r=>d4 (ck k r))
theorem aB8{rs:List Rw}{k:Nat}{q:Int}(h0:0<=q)(h1:q < (rs.length:Int)):dIx (gP rs k) (.int q)=.ok (d4 (ck k (bA rs q))):=oV (pL h0 (by rw[AH,eF h0 h1];rfl))
theorem aLJ{bk:List Tn}{q:Int}(h0:0<=q)(h1:q < (bk.length:Int)):dIx (.tuple (bk.map Tn.d)) (.int q)=.ok (bkF bk q).d:=by
 refine hV (pL h0 ?_)
 have a:q.toNat < bk.length:=by omega
 rw[AH,AN a]
 unfold bkF
 rw[A5,AN a];rfl
theorem tQ{m:Nat}{bk:List Tn}(a:∀ t∈bk,tnV m t)(q:Int):tnV m (bkF bk q):=by
 unfold bkF
 rw[A5]
 cases e:bk[q.toNat]? with
 | none=>exact trivial
 | some t=>exact a t (AL e)
noncomputable def oρ(rs:List Rw)(bk:List Tn)(k:Nat)(t:Tn)(ps:List Int)(u:Option A):Sg:=[some (.d (.tuple (bk.map Tn.d))),some (.d (gP rs k)),some (.d t.d),some (.m (been PyData.int ps)),u]
theorem aQL{rs:List Rw}{bk:List Tn}{k:Nat}{x:Str}{ps:List Int}{u:Option A}:oT (oρ rs bk k (.w x) ps u)=.ok false:=by
 simp[oT,oρ,Tn.d,xZ]
theorem aJ7{rs:List Rw}{bk:List Tn}{k:Nat}{q:Int}{ps:List Int}{u:Option A}:oT (oρ rs bk k (.n q) ps u)=.ok true:=by
 simp[oT,oρ,Tn.d,xY]
theorem aQM{rs:List Rw}{bk:List Tn}{k:Nat}{q:Int}{ps:List Int}{u:Option A}(h:q∈ps):oB (oρ rs bk k (.n q) ps u)=.ok (.rt (.d (.str "ever"))):=by
 have h1:=kD ps q
 have h2:=(oE kC).mpr h
 simp[oB,oρ,Tn.d,h1,h2]
theorem aQN{rs:List Rw}{bk:List Tn}{k:Nat}{q:Int}{ps:List Int}{u:Option A}(h:q∉ps)(a:dD rs q)(b:ps.length<=16777216)(c:(ck k (bA rs q)).2=1):oB (oρ rs bk k (.n q) ps u)=.ok (.rt (.d (.int (ck k (bA rs q)).1))):=by
 have h1:=kD ps q
 have h2:=iQ kC h
 have e:(been PyData.int ps).length<=16777216:=by rw[jW];exact b
 have hi:=aB8 (k:=k) a.1 a.2
 simp[oB,oρ,Tn.d,h1,h2,e,hi,d4,dS,c]
theorem aR3{rs:List Rw}{bk:List Tn}{k:Nat}{q:Int}{ps:List Int}{u:Option A}(h:q∉ps)(a:dD rs q)(f:ps.length<=16777216)(g:(ck k (bA rs q)).2≠1)(h0:0<=(ck k (bA rs q)).1)(e:(ck k (bA rs q)).1 < (bk.length:Int)):oB (oρ rs bk k (.n q) ps u)=.ok (.nx (oρ rs bk k (bkF bk (ck k (bA rs q)).1) (ps++[q]) (some (.d (d4 (ck k (bA rs q))))))):=by
 have h1:=kD ps q
 have h2:=iQ kC h
 have c:=lZ kC h
 have i:(been PyData.int ps).length<=16777216:=by rw[jW];exact f
 have hi:=aB8 (k:=k) a.1 a.2
 have b:=aLJ h0 e
 simp[oB,oρ,Tn.d,h1,h2,c,i,hi,d4,dS,g,b]
theorem tR{m:Nat}{l:List Int}(g:l.Nodup)(c:∀ q∈l,0<=q/\q < (m:Int)):l.length<=m:=
 rQ (fun q:Int=>q.toNat) m l g (fun q f=>by have:=c q f;show q.toNat < m;omega) (fun a h b d e=>by
  have h1:=c a h
  have h2:=c b d
  have i:a.toNat=b.toNat:=e
  omega)
theorem aED{rs:List Rw}{bk:Int->Tn}{c:Nat}{q:Int}:gD rs bk c q=if (ck (c - 97) (bA rs q)).2=1 then some (.inr (.n (ck (c - 97) (bA rs q)).1)) else match bk (ck (c - 97) (bA rs q)).1 with
 | .n r=>some (.inl r)
 | .w x=>some (.inr (.w x)):=id rfl
theorem aND{rs:List Rw}{sg c:Nat}{bk:List Tn}(M:Mach rs sg)(s:cH sg c=true)(o:bk.length=rs.length)(j:∀ t∈bk,tnV rs.length t){i:Int}:∀ (n:Nat) (ps:List Int) (q:Int) (u:Option A),Und2 (gD rs (bkF bk) c) i ps q->(∀ p∈ps,dD rs p)->dD rs q->rs.length+1<=ps.length+n->
  aN (bS oT oB) (bX (vV 2)) (oρ rs bk (c - 97) (.n q) ps u)=.ok (.rt (.d ((cC (gD rs (bkF bk) c) i).getD (.w gC)).d)):=by
 intro n
 induction n with
 | zero=>
  intro ps q u U pv a m
  have:=tR U.nd pv
  omega
 | succ n ih=>
  intro ps q u U pv a m
  rw[a8]
  by_cases b:q∈ps
  ·rw[jU aJ7 (aQM b),U.met b];rfl
  ·have B:ps.length<=rs.length:=tR U.nd pv
   have f:ps.length<=16777216:=by have:=M.len2;omega
   have k:=AL (eF a.1 a.2)
   obtain ⟨_,g⟩:=pJ M k (show c - 97 < sg by have:=BY s;omega)
   have g:nX rs.length (ck (c - 97) (bA rs q)):=g
   obtain ⟨l,v,y⟩:=g
   by_cases h1:(ck (c - 97) (bA rs q)).2=1
   ·have st:gD rs (bkF bk) c q=some (.inr (.n (ck (c - 97) (bA rs q)).1)):=by unfold gD;exact AD h1
    rw[jU aJ7 (aQN b a f h1),U.outs st];rfl
   ·rw[eY aJ7 (aR3 b a f h1 l (by rw[o];exact v))]
    have h:=tQ j (ck (c - 97) (bA rs q)).1
    cases e:bkF bk (ck (c - 97) (bA rs q)).1 with
    | w x=>
     have st:gD rs (bkF bk) c q=some (.inr (.w x)):=by rw[aED,AE h1,e]
     rw[dC aQL,U.outs st]
     simp[oρ,Tn.d]
    | n r=>
     rw[e] at h
     have st:gD rs (bkF bk) c q=some (.inl r):=by rw[aED,AE h1,e]
     have:=ih (ps++[q]) r (some (.d (d4 (ck (c - 97) (bA rs q))))) (U.next b st) (fun p f=>by
      rcases BR.mp f with z|z
      · exact pv p z
      · rw [AV.mp z]; exact a) h (by rw [A0, B5]; omega)
     rw[a8] at this
     exact this
theorem aQO{rs:List Rw}{sg c:Nat}{bk:List Tn}(M:Mach rs sg)(h:cH sg c=true)(e:bk.length=rs.length)(b:∀ t∈bk,tnV rs.length t){t:Tn}(g:tnV rs.length t):jR [.d (.tuple (bk.map Tn.d)),.d (gP rs (c - 97)),.d t.d]=.ok (.d (onR rs (bkF bk) c t).d):=by
 have a:aN (bS oT oB) (bX (vV 2)) (oρ rs bk (c - 97) t [] none)=.ok (.rt (.d (onR rs (bkF bk) c t).d)):=by
  cases t with
  | w x=>
   rw[a8,dC aQL]
   simp[oρ,Tn.d,onR]
  | n q=>exact aND M h e b (rs.length+1) [] q none Und2.start (fun p f=>by simp at f) g (by simp)
 unfold jR
 rw[sH]
 simp only[f9,a8,oC,R.bind_ok,AW,A8,Nat.reduceAdd,AT,BD,BO,BL,List.replicate,AY,A2]
 rw[a8] at a
 simp only[oρ,been,BD] at a
 rw[a];rfl
theorem aR4{rs:List Rw}{sg c:Nat}{bk:List Tn}(M:Mach rs sg)(f:cH sg c=true)(b:bk.length=rs.length)(a:∀ t∈bk,tnV rs.length t){t:Tn}(m:tnV rs.length t) :
  iW [.d (iZ t bk),.d (gP rs (c - 97))]=.ok (.d (iZ (onR rs (bkF bk) c t) ((List.range rs.length).map fun q:Nat=>onR rs (bkF bk) c (.n (q:Int))))):=by
 have h:=fF (fs:=stN 0) (fe:=eA (aW 3 jR (aA (vD (e2 dIx (rV 1) (eC (.int 1)))) (aA (vV 2) (aA (vV 0) aM))))) (ρ0:=[none,some (.d (iZ t bk)),some (.d (gP rs (c - 97)))]) (d:=fun i:Nat=>.int (i:Int)) (g:=fun i:Nat=>(onR rs (bkF bk) c (.n (i:Int))).d) (xs:=List.range rs.length) fun i hi=>by
  refine ⟨_,rfl,?_⟩
  have:=aQO M f b a (t:=.n (i:Int)) ⟨by omega,by have:=B3.mp hi;omega⟩
  have e:(Tn.n (i:Int)).d=.int i:=rfl
  rw[e] at this
  simp[iZ,this]
 have k:=gF (n:=rs.length) (by have:=M.len2;omega)
 have l:dLen (gP rs (c - 97))=.ok (.int rs.length):=by unfold gP;rw[gM,AB]
 have h1:=aQO M f b a m
 have j:dIx (iZ t bk) (.int 0)=.ok t.d:=aBZ _ _
 have h2:dIx (iZ t bk) (.int 1)=.ok (.tuple (bk.map Tn.d)):=aP9 _ _ _
 unfold iW uY
 simp[j,h2,h1,l,k,gL,h]
 unfold iZ
 rw[CC];rfl
noncomputable def aV(rs:List Rw)(z:List Nat):PyData:=iZ (eM rs z (0,0)) ((List.range rs.length).map fun q:Nat=>d8 rs z (q:Int))
theorem l7{rs:List Rw}{sg:Nat}{z:List Nat}(M:Mach rs sg)(S:bC sg z){s:Int×Int}(V:lK rs z s):tnV rs.length (eM rs z s):=by
 unfold eM
 cases e:cC (cM rs z) s with
 | none=>exact trivial
 | some t=>
  obtain ⟨n,h⟩:=gO e
  show tnV rs.length t
  clear e
  induction h with
  | @out s o h=>
   unfold cM at h
   rcases beg_cell M S V with ⟨x,e,c⟩|⟨q,e,a,h1,h2⟩
   ·rw[e] at h;cases h;exact trivial
   ·rw[e] at h
    simp only at h
    split at h
    · cases h
    · cases h; exact a
  | @go s s' o n h t ih=>
   refine ih ?_
   unfold cM at h
   rcases beg_cell M S V with ⟨x,e,c⟩|⟨q,e,a,h1,h2⟩
   ·rw[e] at h;cases h
   ·rw[e] at h
    simp only at h
    split at h
    · rename_i b; cases h; exact ⟨h1, b, a⟩
    · cases h
theorem wO{rs:List Rw}{z:List Nat}{q:Nat}(h:q < rs.length):lK rs z ((z.length:Int),(q:Int)):=⟨by show (0:Int)<=z.length;omega,DH _,by show (0:Int)<=q;omega,by show (q:Int) < rs.length;omega⟩
theorem x5{rs:List Rw}{z:List Nat}{q:Int}(a:dD rs q):bkF ((List.range rs.length).map fun q:Nat=>d8 rs z (q:Int)) q=d8 rs z q:=by
 have b:q.toNat < rs.length:=by have:=a.1;have:=a.2;omega
 unfold bkF
 rw[A5,AH,B1 b]
 show d8 rs z ((q.toNat:Nat):Int)=_
 rw[show ((q.toNat:Nat):Int)=q by have:=a.1;omega]
theorem aB9{rs:List Rw}{sg c:Nat}(M:Mach rs sg)(p:cH sg c=true){bk a:Int->Tn}(h:∀ q,dD rs q->bk q=a q)(z:∀ q,dD rs q->tnV rs.length (bk q)){t:Tn}(l:tnV rs.length t):onR rs bk c t=onR rs a c t:=by
 cases t with
 | w x=>rfl
 | n q=>
  have st:∀ q,dD rs q->gD rs bk c q=gD rs a c q:=fun q b=>by
   unfold gD
   have g:=AL (eF b.1 b.2)
   obtain ⟨_,f⟩:=pJ M g (show c - 97 < sg by have:=BY p;omega)
   rw[h _ ⟨f.1,f.2.1⟩]
  have j:∀ q d,dD rs q->gD rs bk c q=some (.inl d)->dD rs d:=fun q d b e=>by
   unfold gD at e
   have g:=AL (eF b.1 b.2)
   obtain ⟨_,f⟩:=pJ M g (show c - 97 < sg by have:=BY p;omega)
   have k:=z _ ⟨f.1,f.2.1⟩
   split at e
   ·cases e
   ·split at e
    · rename_i r y; cases e; rw [y] at k; exact k
    · cases e
  have u:∀ n q o,dD rs q->Ex (gD rs bk c) n q o->Ex (gD rs a c) n q o:=by
   intro n q o b i
   induction i with
   | @out q o e=>exact .out (by rw[<-st q b];exact e)
   | @go q d o n e t ih=>exact .go (by rw[<-st q b];exact e) (ih (j q d b e))
  have v:∀ n q o,dD rs q->Ex (gD rs a c) n q o->Ex (gD rs bk c) n q o:=by
   intro n q o b i
   induction i with
   | @out q o e=>exact .out (by rw[st q b];exact e)
   | @go q d o n e t ih=>
    have m:gD rs bk c q=some (.inl d):=by rw[st q b];exact e
    exact .go m (ih (j q d b m))
  show (cC (gD rs bk c) q).getD (.w gC)=(cC (gD rs a c) q).getD (.w gC)
  rw[uA (st:=gD rs bk c) (st':=gD rs a c) (s:=q) (s':=q) fun o=>⟨fun ⟨n,x⟩=>⟨n,u n q o l x⟩,fun ⟨n,x⟩=>⟨n,v n q o l x⟩⟩]
theorem aCA{rs:List Rw}{sg:Nat}{z:List Nat}{c:Nat}(M:Mach rs sg)(S:bC sg z)(b:cH sg c=true):iW [.d (aV rs z),.d (gP rs (c - 97))]=.ok (.d (aV rs (z++[c]))):=by
 have h:((List.range rs.length).map fun q:Nat=>d8 rs z (q:Int)).length=rs.length:=by simp
 have f:∀ t∈(List.range rs.length).map fun q:Nat=>d8 rs z (q:Int),tnV rs.length t:=fun t j=>by
  obtain ⟨q,e,rfl⟩:=BA.mp j
  exact l7 M S (wO (B3.mp e))
 have g:∀ q,dD rs q->tnV rs.length (bkF ((List.range rs.length).map fun q:Nat=>d8 rs z (q:Int)) q):=fun q a=>tQ f q
 unfold aV
 rw[aR4 M b h f (l7 M S (qU M z))]
 rw[aB9 M b (fun q a=>x5 a) g (l7 M S (qU M z)),aH5 M S b]
 have i:((List.range rs.length).map fun q:Nat=>onR rs (bkF ((List.range rs.length).map fun q:Nat=>d8 rs z (q:Int))) c (.n (q:Int)))=(List.range rs.length).map fun q:Nat=>d8 rs (z++[c]) (q:Int):=?_
 ·rw[i]
 refine B0 fun q e=>?_
 have a:dD rs (q:Int):=⟨by omega,by have:=B3.mp e;omega⟩
 rw[aB9 M b (fun q a=>x5 a) g (t:=.n (q:Int)) a,aH4 M S b a]
theorem aFU{rs:List Rw}{sg:Nat}(M:Mach rs sg):cJ (bH rs)=.ok (rs.map cV):=aB0 (by have:=M.len2;rw[AB];omega)
theorem aJ8{α:Type}(rs:List Rw)(f:Rw->α):rs.map f=(List.range rs.length).map fun q:Nat=>f (bA rs (q:Int)):=by
 apply List.ext_getElem
 ·simp
 ·intro i h1 h2
  have hi:i < rs.length:=by simpa using h1
  simp only[List.getElem_map,List.getElem_range]
  congr 1
  unfold bA
  rw[A5,show ((i:Int)).toNat=i by omega,AN hi];rfl
theorem aR5{rs:List Rw}{sg:Nat}(M:Mach rs sg):gX [.d (bH rs)]=.ok (.d (aV rs [])):=by
 have h:=fF (fs:=stN 0) (fe:=e2 dIx (rV 0) (eC (.int 0))) (ρ0:=[none]) (d:=cV) (g:=fun r:Rw=>r.l.d) (xs:=rs) fun r _=>⟨_,rfl,by simp[cV]⟩
 have e1:aV rs []=.tuple [(bA rs 0).l.d,.tuple (rs.map fun r=>r.l.d)]:=by
  unfold aV iZ
  rw[aEC,aJ8 rs,CC]
  congr 4
  refine B0 fun q _=>?_
  show (eM rs [] (((([]:List Nat).length:Nat):Int),(q:Int))).d=_
  rw[show ((([]:List Nat).length:Nat):Int)=0 by rfl,aEC]
 obtain ⟨r,t,a,_⟩:=M.cons
 have b:dIx (.tuple (rs.map fun r=>r.l.d)) (.int 0)=.ok (bA rs 0).l.d:=by
  subst a
  exact aBZ _ _
 rw[e1]
 unfold gX lE
 simp[aFU M,gL,h,b]
theorem aQP{rs:List Rw}{sg:Nat}(M:Mach rs sg)(ρ0:Sg)(h:gL [none,some 0] ρ0=[none,some (.d (bH rs))]) :
  compL (stN 0) gS (eA (aW 2 kA (aA (vV 1) (aA (vV 0) aM)))) (gL [none,some 0] ρ0) ((List.range sg).map fun i:Nat=>.int (i:Int))=.ok ((List.range sg).map (gP rs)):=by
 rw[h]
 refine fF fun k a=>⟨_,rfl,?_⟩
 have:=aM8 M (B3.mp a)
 simp[this]
 rfl
noncomputable def byρ(rs:List Rw)(z:Str)(s:Int×Int)(ps:List (Int×Int)):Sg:=[some (.d (bH rs)),some (.d (.str z)),some (.d (.int s.1)),some (.d (.int s.2)),some (.m (been prD ps))]
theorem aH6{rs:List Rw}{z:Str}(b:z.cps.toList.length<=16777216){s:Int×Int}{ps:List (Int×Int)}:byT (byρ rs z s ps)=.ok (decide (s.1<=(z.cps.toList.length:Int))):=by
 have a:=aBX (z:=z) (by rw[nQ];exact b)
 rw[nQ] at a
 simp[byT,byρ,a]
theorem aNE{rs:List Rw}{z:Str}{s:Int×Int}{ps:List (Int×Int)}(h:s∈ps):byB (byρ rs z s ps)=.ok (.rt (.d (.str "ever"))):=by
 have h1:cI (.tuple [.int s.1,.int s.2]) ((been prD ps).map (·.1))=true:=jV l0 ps s
 have h2:dM (been prD ps) (.tuple [.int s.1,.int s.2])=true:=(oE k7).mpr h
 simp[byB,byρ,h1,h2]
theorem aR6{rs:List Rw}{z:Str}{q:Int}{ps:List (Int×Int)}{x:Str}(h:(0,q)∉ps)(b:ps.length<=16777216)(a:dD rs q)(e:(bA rs q).l=.w x):byB (byρ rs z (0,q) ps)=.ok (.rt (.d (.str x))):=by
 have h1:cI (.tuple [.int 0,.int q]) ((been prD ps).map (·.1))=true:=jV l0 ps (0,q)
 have h2:dM (been prD ps) (.tuple [.int 0,.int q])=false:=iQ k7 h
 have f:(been prD ps).length<=16777216:=by rw[jW];exact b
 have c:=pP a.1 a.2
 simp[byB,byρ,h1,h2,f,dS,c,cV,e,Tn.d,wM]
theorem aQQ{rs:List Rw}{sg:Nat}{z:Str}(M:Mach rs sg)(S:bC sg z.cps.toList){s s':Int×Int}{ps:List (Int×Int)}(h:s∉ps)(k:ps.length<=16777216)(V:lK rs z.cps.toList s)(e:eI rs z.cps.toList s=some s'):byB (byρ rs z s ps)=.ok (.nx (byρ rs z s' (ps++[s]))):=by
 obtain ⟨p,q⟩:=s
 have h1:cI (.tuple [.int p,.int q]) ((been prD ps).map (·.1))=true:=jV l0 ps (p,q)
 have h2:dM (been prD ps) (.tuple [.int p,.int q])=false:=iQ k7 h
 have c:putM (been prD ps) (.tuple [.int p,.int q]) (.bool true)=been prD (ps++[(p,q)]):=lZ k7 h
 have i:(been prD ps).length<=16777216:=by rw[jW];exact k
 have j:=pP V.2.2.1 V.2.2.2
 have f:=wN M S V.valid
 rw[e] at f
 obtain ⟨r,o⟩:=s'
 simp only[nA,prD] at f
 by_cases g:p=0
 ·subst g
  have b:∃ a,(bA rs q).l=.n a:=by
   unfold eI bY at e
   rw[AD rfl] at e
   cases m:(bA rs q).l with
   | w x=>rw[m] at e;cases e
   | n a=>exact ⟨a,rfl⟩
  obtain ⟨a,b⟩:=b
  simp[byB,byρ,h1,h2,c,i,dS,j,cV,b,Tn.d,wL,f]
 ·simp[byB,byρ,h1,h2,c,i,dS,g,f]
theorem aNF{rs:List Rw}{sg:Nat}{z:Str}(M:Mach rs sg)(S:bC sg z.cps.toList){m:Int×Int}:∀ (n:Nat) (ps:List (Int×Int)) (s:Int×Int),Und2 (cM rs z.cps.toList) m ps s->(∀ p∈ps,lK rs z.cps.toList p)->lK rs z.cps.toList s->lA rs z.cps.toList+1<=ps.length+n->
  aN (bS byT byB) (bX (vV 3)) (byρ rs z s ps)=.ok (.rt (.d ((cC (cM rs z.cps.toList) m).getD (.w gC)).d)):=by
 have i:z.cps.toList.length<=16777216:=by have:=S.1;omega
 have t:lA rs z.cps.toList<=1002 * 1000:=EM (by have:=S.1;omega) M.len2
 intro n
 induction n with
 | zero=>
  intro ps s U pv V k
  have:=p8 U.nd fun st h=>(pv st h).valid
  unfold lA at k
  omega
 | succ n ih=>
  intro ps s U pv V k
  rw[a8]
  have g:byT (byρ rs z s ps)=.ok true:=by rw[aH6 i,A3 V.2.1]
  by_cases a:s∈ps
  ·rw[jU g (aNE a),U.met a];rfl
  ·have u:ps.length<=lA rs z.cps.toList:=p8 U.nd fun st h=>(pv st h).valid
   have c:ps.length<=16777216:=by omega
   rcases beg_cell M S V with ⟨x,e,j⟩|⟨q,e,o,h1,h2⟩
   ·obtain ⟨p,q⟩:=s
    simp only at j
    subst j
    have r:(bA rs q).l=.w x:=by unfold bY at e;rw[AD rfl] at e;exact e
    rw[jU g (aR6 a c V.2.2 r),U.outs (show cM rs z.cps.toList (0,q)=some (.inr (.w x)) by unfold cM;rw[e])];rfl
   ·have f:eI rs z.cps.toList s=some (s.1+(bY rs z.cps.toList s).2,q):=by unfold eI;rw[e]
    rw[eY g (aQQ M S a c V f)]
    by_cases b:s.1+(bY rs z.cps.toList s).2<=(z.cps.toList.length:Int)
    ·have st:cM rs z.cps.toList s=some (.inl (s.1+(bY rs z.cps.toList s).2,q)):=by unfold cM;rw[e];simp only;rw[AD b]
     have:=ih (ps++[s]) (s.1+(bY rs z.cps.toList s).2,q) (U.next a st) (fun p c=>by
      rcases BR.mp c with z|z
      · exact pv p z
      · rw [AV.mp z]; exact V) ⟨h1, b, o⟩ (by rw [A0, B5]; omega)
     rw[a8] at this
     exact this
    ·have st:cM rs z.cps.toList s=some (.inr (.n q)):=by unfold cM;rw[e];simp only;rw[AE b]
     rw[dC (by rw[aH6 i,A7 b]),U.outs st]
     simp[byρ,Tn.d]
theorem aLK{rs:List Rw}{sg:Nat}{z:Str}(M:Mach rs sg)(S:bC sg z.cps.toList){s:Int×Int}(V:lK rs z.cps.toList s):f7 [.d (bH rs),.d (.str z),.d (.int s.1),.d (.int s.2)]=.ok (.d (eM rs z.cps.toList s).d):=by
 have a:=aNF M S (lA rs z.cps.toList+1) [] s Und2.start (fun p b=>by simp at b) V (by simp)
 unfold f7
 rw[m9]
 simp only[f9,a8,oC,R.bind_ok,AW,A8,Nat.reduceAdd,AT,BD,BO,BL,List.replicate,AY,A2]
 rw[a8] at a
 simp only[byρ,been,BD] at a
 rw[a];rfl
theorem aH7{rs:List Rw}{sg:Nat}{z:Str}(M:Mach rs sg)(S:bC sg z.cps.toList):d7 [.d (bH rs),.d (.str z)]=.ok (.d (aV rs z.cps.toList)):=by
 have c:z.cps.toList.length<=16777216:=by have:=S.1;omega
 have b:=aBX (z:=z) (by rw[nQ];exact c)
 rw[nQ] at b
 have h:=fF (fs:=stN 0) (fe:=eA (aW 4 f7 (aA (vV 1) (aA (vV 2) (aA (vD (e1 dLen (rV 2))) (aA (vV 0) aM)))))) (ρ0:=[none,some (.d (bH rs)),some (.d (.str z))]) (d:=fun i:Nat=>.int (i:Int)) (g:=fun i:Nat=>(d8 rs z.cps.toList (i:Int)).d) (xs:=List.range rs.length) fun i hi=>by
  refine ⟨_,rfl,?_⟩
  have:=aLK M S (wO (z:=z.cps.toList) (B3.mp hi))
  simp only at this
  simp only[aFP,lX,jS,qT,kB,gR,eQ,gH,AY,AQ,AK,R.bind_ok,b,AW,A8,Nat.reduceAdd,CB,this,aBQ]
  rfl
 have e:=gF (n:=rs.length) (by have:=M.len2;omega)
 have f:dLen (bH rs)=.ok (.int rs.length):=by unfold bH;rw[wJ,AB]
 have a:=aLK M S (qU M z.cps.toList)
 simp only at a
 unfold d7 kP
 simp[f,e,gL,h,a]
 unfold aV iZ
 rw[CC];rfl
end Mc
namespace Fl
open PySem L2 PyProof.Rows
@[simp] theorem aJ9(i:Nat)(f:Sg->R (List (PyData×PyData)))(ρ:Sg):v9 i f ρ=(f ρ).bind fun kvs=>(iL [] kvs).bind fun res=>.ok (.nx (ρ.set i (some (.m res)))):=id rfl
@[simp] theorem aNG(ρ:Sg):aBG ρ=.ok []:=id rfl
@[simp] theorem aKA(f g:Sg->R PyData)(r:Sg->R (List (PyData×PyData)))(ρ:Sg):v7 f g r ρ=(f ρ).bind fun x=>(g ρ).bind fun y=>(r ρ).bind fun t=>.ok ((x,y)::t):=id rfl
@[simp] theorem aSE(i:Nat)(f g:Sg->R PyData)(ρ:Sg):aPV i f g ρ=match ρ[i]? with|some (some (.m kvs))=>(f ρ).bind fun k=>(g ρ).bind fun y=>if cI k (kvs.map (·.1))=true then .ok ((fZ kvs k).getD y) else .bad|_=>.bad:=id rfl
end Fl
namespace Mc
open PySem L2 PyProof.Rows Fl
theorem aKB{rs:List Rw}{sg:Nat}{z:List Nat}(M:Mach rs sg)(S:bC sg z):gB rs z="by"\/gB rs z="out"\/gB rs z="ever":=by
 obtain ⟨_,ps,⟨p,r⟩,_,V,q⟩:=aB5 (z:=⟨z.toArray⟩) M S
 have c:=(M.row _ (AL (eF V.2.2.1 V.2.2.2))).1
 unfold gB
 rcases q with ⟨_,x,a,b⟩|⟨_,b⟩
 ·have b:cC (fP rs z) (0,0)=some x:=b
  have:x="by"\/x="out":=by
   unfold bY at a
   simp only at a
   by_cases d:p=0
   ·rw[AD d] at a;have k:=c.1;rw[show (bA rs r).l=.w x from a] at k;exact k
   ·rw[AE d] at a
    split at a
    · have k := c.2.1; rw [show (bA rs r).r = .w x from a] at k; exact k
    · cases a
  rw[b]
  rcases this with e|e
  ·exact .inl e
  ·exact .inr (.inl e)
 ·have b:cC (fP rs z) (0,0)=none:=b
  rw[b];exact .inr (.inr rfl)
@[simp] theorem aTS(m i:Nat)(f:Sg->R (List PyData))(ρ:Sg):aBK m i f ρ=match ρ[i]? with|some (some (.g k n G))=>(f ρ).bind fun ds=>if k<=m/\ds.length=n then G ds else .bad|_=>.bad:=id rfl
@[simp] theorem aS5(m i:Nat)(f:Sg->R (List PyData))(ρ:Sg):wA m i f ρ=match ρ[i]? with|some (some (.g k n G))=>(f ρ).bind fun ds=>if k<=m/\ds.length=n then (match G ds with | .ok d=>if tP d=true then .ok d else .bad|_=>.bad) else .bad|_=>.bad:=id rfl
def eR(fs:List PyData):List (PyData×PyData):=fs.zipIdx.map fun p=>(p.1,.int (p.2:Int))
theorem l8(fs:List PyData):(eR fs).map (·.1)=fs:=by
 unfold eR
 rw[CC]
 show fs.zipIdx.map Prod.fst=fs
 exact List.zipIdx_map_fst 0 fs
theorem x6(fs:List PyData):(eR fs).length=fs.length:=by unfold eR;rw[AB,List.length_zipIdx]
theorem aCB{fs:List PyData}{x:PyData}(hx:jF x=true)(h:∀ y∈fs,jF y=true):cI x ((eR fs).map (·.1))=true:=by
 unfold cI
 rw[l8,hx,FQ,CT,BW]
 exact .inl h
theorem tS{fs:List PyData}{x:PyData}:dM (eR fs) x=true↔x∈fs:=by rw[uU,l8]
theorem qV{fs:List PyData}{x:PyData}(h:x∉fs):dM (eR fs) x=false:=by
 cases q:dM (eR fs) x with
 | false=>rfl
 | true=>exact absurd (tS.mp q) h
theorem yA{fs:List PyData}{x:PyData}(h:x∉fs):putM (eR fs) x (.int (fs.length:Int))=eR (fs++[x]):=by
 unfold putM
 rw[qV h,AE (by decide)]
 unfold eR
 rw[List.zipIdx_append,BK]
 simp
theorem aEE{fs:List PyData}{x:PyData}(h:x∈fs):∃ i:Nat,fZ (eR fs) x=some (.int (i:Int))/\fs[i]? = some x:=by
 unfold fZ
 cases e:(eR fs).find? fun p=>decide (p.1=x) with
 | none=>
  rw[List.find?_eq_none] at e
  rw[<-l8 fs,BA] at h
  obtain ⟨p,a,e2⟩:=h
  exact absurd (A3 e2) (e p a)
 | some p=>
  have h1:=List.find?_some e
  have h2:=List.mem_of_find?_eq_some e
  unfold eR at h2
  obtain ⟨⟨y,i⟩,b,rfl⟩:=BA.mp h2
  refine ⟨i,rfl,?_⟩
  have h1:y=x:=BY h1
  rw[<-h1]
  exact List.mk_mem_zipIdx_iff_getElem?.mp b
structure Srch where
 after:PyData->List PyData
 x0:PyData
 good:Nat->PyData->Prop
 lim:Nat
 k1:Nat
 k2:Nat
 G:List PyData->R PyData
 D:List PyData->R PyData
structure Srch.ok(S:Srch):Prop where
 g0:S.good 0 S.x0
 gs:∀ i x,S.good i x->i<=S.lim->∀ y∈S.after x,S.good (i+1) y
 up:∀ i j x,i<=j->S.good i x->S.good j x
 few:∀ xs:List PyData,xs.Nodup->(∀ x∈xs,∃ i,S.good i x)->xs.length<=S.lim
 key:∀ i x,S.good i x->jF x=true
 hk1:S.k1<=12
 hk2:S.k2<=12
 hG:∀ i x,i<=S.lim->S.good i x->S.G [x]=.ok (.list (S.after x))/\(S.after x).length<=16777216
 hD:∀ (fs:List PyData) (i:Int),fs.length<=S.lim->S.D [.list fs,.int i]=.ok (.bool false)
 hl:S.lim<=16000000
noncomputable def rhF:Sg->R Fw:=(aN (sIf (e1 asB (n4 true 4 (eV 7))) (aN (mJ 4 (eV 7) (e1 dLen (rV 3)))
 (fY 3 (eV 7))) sNx)
 (fY 6 (qO 4 (eV 7))))
noncomputable def rhT:Sg->R Bool:=(jM (e1 asB (e2 dLt (e1 dLen (rV 5)) (e1 dLen (rV 3)))) (qI (e1 asB (wA 12 2 (aA (rV 3) (aA (e1 dLen (rV 5)) aM))))))
noncomputable def rhB:Sg->R Fw:=(aN (dW 6 (eJ aM))
 (aN (iJ (e1 cJ (aBK 12 1 (aA (e2 dIx (rV 3) (e1 dLen (rV 5))) aM))) (stN 7) rhF)
 (fY 5 (e1 dTup (rV 6)))))
theorem aQR:sG=aN (dW 3 (eJ (aA (eV 0) aM))) (aN (v9 4 (v7 (eV 0) (eC (.int 0)) aBG)) (aN (dW 5 (eJ aM)) (aN (bS rhT rhB) (sFz 5 (sFz 3 (bX (vD (d3 (aA (eV 3) (aA (eV 5) aM))))))))) ):=id rfl
def aR7(fs:List PyData)(js:List Nat)(ys:List PyData):Prop:=js.length=ys.length/\∀ (c:Nat) (y:PyData),ys[c]? = some y->∃ j,js[c]? = some j/\fs[j]? = some y
def g9(js:List Nat):PyData:=.tuple (js.map fun j:Nat=>.int (j:Int))
structure Fnd(S:Srch)(fs:List PyData):Prop where
 nd:fs.Nodup
 gd:∀ (i:Nat) (x:PyData),fs[i]? = some x->S.good i x
theorem Fnd.len{S:Srch}(O:S.ok){fs:List PyData}(h:Fnd S fs):fs.length<=S.lim:=O.few fs h.nd fun x a=>by
 obtain ⟨i,hi⟩:=EC a
 exact ⟨i,h.gd i x hi⟩
structure Rchd(S:Srch)(fs:List PyData)(gs:List (List Nat)):Prop where
 fnd:Fnd S fs
 len:gs.length=fs.length
 zer:fs[0]? = some S.x0
 row:∀ (i:Nat) (js:List Nat) (x:PyData),gs[i]? = some js->fs[i]? = some x->aR7 fs js (S.after x)
noncomputable def adQ(fs:List PyData)(y:PyData):List PyData:=if y∈fs then fs else fs++[y]
noncomputable def adA(fs ys:List PyData):List PyData:=ys.foldl adQ fs
noncomputable def nrQ(fs:List PyData)(y:PyData):Nat:=fs.idxOf y
theorem pQ{fs:List PyData}{y:PyData}(h:y∈fs):adQ fs y=fs:=AD h
theorem nR{fs:List PyData}{y:PyData}(h:y∉fs):adQ fs y=fs++[y]:=AE h
theorem pR(fs:List PyData)(y:PyData):fs <+: adQ fs y:=by
 by_cases h:y∈fs
 · rw [pQ h]; exact DK _
 · rw [nR h]; exact List.prefix_append ..
theorem tT(fs:List PyData)(y:PyData):y∈adQ fs y:=by
 by_cases h:y∈fs
 · rw [pQ h]; exact h
 · rw [nR h]; simp
theorem aH8{fs:List PyData}{y:PyData}(h:fs.Nodup):(adQ fs y).Nodup:=by
 by_cases q:y∈fs
 ·rw[pQ q];exact h
 ·rw[nR q,C2]
  exact ⟨h,by simp,fun a c b d=>by rw[AV.mp d];rintro rfl;exact q c⟩
theorem aNH(fs:List PyData)(y:PyData):(adQ fs y).length<=fs.length+1:=by
 by_cases q:y∈fs
 · rw [pQ q]; omega
 · rw [nR q]; simp
theorem aKC(fs ys:List PyData)(y:PyData):adA fs (ys++[y])=adQ (adA fs ys) y:=by unfold adA;rw[C3];rfl
theorem yB(ys:List PyData):∀ fs:List PyData,fs <+: adA fs ys:=by
 induction ys with
 | nil=>exact fun fs=>DK _
 | cons y t ih=>exact fun fs=>(pR fs y).trans (ih _)
theorem wP(ys:List PyData):∀ {fs:List PyData},fs.Nodup->(adA fs ys).Nodup:=by
 induction ys with
 | nil=>exact fun h=>h
 | cons y t ih=>exact fun h=>ih (aH8 h)
theorem nS(ys:List PyData):∀ {fs:List PyData} {y:PyData},y∈ys->y∈adA fs ys:=by
 induction ys with
 | nil=>intro fs y h;cases h
 | cons x t ih=>
  intro fs y h
  rcases AZ.mp h with rfl|h
  · exact (yB t _).subset (tT fs y)
  · exact ih h
theorem aEF(ys:List PyData):∀ fs:List PyData,(adA fs ys).length<=fs.length+ys.length:=by
 induction ys with
 | nil=>intro fs;exact AG _
 | cons x t ih=>
  intro fs
  have h1:=ih (adQ fs x)
  have h2:=aNH fs x
  show (adA (adQ fs x) t).length<=fs.length+(t.length+1)
  omega
theorem tU{fs fs':List PyData}{y:PyData}(h:fs <+: fs')(a:y∈fs):nrQ fs' y=nrQ fs y:=by
 obtain ⟨t,rfl⟩:=h
 unfold nrQ
 rw[List.idxOf_append,AD a]
theorem aCC{fs:List PyData}{y:PyData}(a:y∈fs):fs[nrQ fs y]? = some y:=by
 have h:nrQ fs y < fs.length:=List.idxOf_lt_length_of_mem a
 rw[AN h]
 exact EA some (List.getElem_idxOf h)
theorem aR8{α:Type}{xs:List α}(h:xs.Nodup){i j:Nat}{x:α}(h1:xs[i]? = some x)(h2:xs[j]? = some x):i=j:=by
 obtain ⟨a,e1⟩:=AI.mp h1
 obtain ⟨b,e2⟩:=AI.mp h2
 rcases FU i j with q|q|q
 · exact absurd (e1.trans e2.symm) (EI.mp h i j a b q)
 · exact q
 · exact absurd (e2.trans e1.symm) (EI.mp h j i b a q)
theorem aEG{fs:List PyData}{y:PyData}(h:fs.Nodup)(a:y∈fs):fZ (eR fs) y=some (.int (nrQ fs y:Int)):=by
 obtain ⟨i,h1,h2⟩:=aEE a
 rw[h1,aR8 h h2 (aCC a)]
structure Sq where
 after:PyData->List PyData
 x0:PyData
 stop:List PyData->Nat->Bool
 k1:Nat
 k2:Nat
 G:List PyData->R PyData
 D:List PyData->R PyData
noncomputable def bfQ(after:PyData->List PyData)(x0:PyData):Nat->List PyData
 | 0=>[x0]
 | n+1=>match (bfQ after x0 n)[n]? with
  | some x=>adA (bfQ after x0 n) (after x)
  | none=>bfQ after x0 n
theorem oH{after:PyData->List PyData}{x0 x:PyData}{n:Nat}(h:(bfQ after x0 n)[n]? = some x):bfQ after x0 (n+1)=adA (bfQ after x0 n) (after x):=by rw[bfQ,h]
theorem jY(after:PyData->List PyData)(x0:PyData)(n:Nat):bfQ after x0 n <+: bfQ after x0 (n+1):=by
 rw[bfQ]
 split
 · exact yB _ _
 · exact DK _
theorem l9{after:PyData->List PyData}{x0:PyData}{m n:Nat}(h:m<=n):bfQ after x0 m <+: bfQ after x0 n:=by
 obtain ⟨k,rfl⟩:=Nat.le.dest h
 clear h
 induction k with
 | zero=>exact DK _
 | succ k ih=>exact ih.trans (jY after x0 (m+k))
theorem aCD(after:PyData->List PyData)(x0:PyData)(n:Nat):(bfQ after x0 n).Nodup:=by
 induction n with
 | zero=>simp[bfQ]
 | succ n ih=>
  rw[bfQ]
  split
  · exact wP _ ih
  · exact ih
theorem aCE(after:PyData->List PyData)(x0:PyData)(n:Nat):(bfQ after x0 n)[0]? = some x0:=by
 obtain ⟨t,e⟩:=l9 (after:=after) (x0:=x0) (CN n)
 rw[<-e];rfl
theorem u9{α:Type}{f g:List α}{i:Nat}{x:α}(h:f <+: g)(e:f[i]? = some x):g[i]? = some x:=by
 obtain ⟨t,rfl⟩:=h
 rw[BV (AI.mp e).1]
 exact e
theorem sN{α:Type}{f g:List α}{i:Nat}{x:α}(h:f <+: g)(hi:i < f.length)(e:g[i]? = some x):f[i]? = some x:=by
 obtain ⟨t,rfl⟩:=h
 rwa [BV hi] at e
noncomputable def o8(after:PyData->List PyData)(fs:List PyData)(x:PyData):PyData:=g9 ((after x).map (nrQ fs))
noncomputable def cX(after:PyData->List PyData)(fs:List PyData)(n:Nat):List PyData:=(fs.take n).map (o8 after fs)
structure Sq.ok(S:Sq)(N:Nat):Prop where
 on:∀ m,m < N->m < (bfQ S.after S.x0 m).length/\S.stop (bfQ S.after S.x0 m) m=false
 off:(bfQ S.after S.x0 N).length<=N\/S.stop (bfQ S.after S.x0 N) N=true
 key:(∀ x∈bfQ S.after S.x0 N,jF x=true)\/(∀ x∈bfQ S.after S.x0 N,o0 x=true)
 len:(bfQ S.after S.x0 N).length<=16000000
 hk1:S.k1<=12
 hk2:S.k2<=12
 hG:∀ m x,m < N->(bfQ S.after S.x0 N)[m]? = some x->(∃ d,S.G [x]=.ok d/\cJ d=.ok (S.after x))/\(S.after x).length<=1000
 hD:∀ m,m<=N->m < (bfQ S.after S.x0 m).length->S.D [.list (bfQ S.after S.x0 m),.int (m:Int)]=.ok (.bool (S.stop (bfQ S.after S.x0 m) m))
theorem aLL{B:List PyData}(h:(∀ x∈B,jF x=true)\/(∀ x∈B,o0 x=true)){y:PyData}{fs:List PyData}(c:y∈B)(b:∀ x∈fs,x∈B):cI y ((eR fs).map (·.1))=true:=by
 unfold cI
 rw[l8,CT,AU,AU,BW,BW]
 exact h.imp (fun h=>⟨h y c,fun x a=>h x (b x a)⟩) (fun h=>⟨h y c,fun x a=>h x (b x a)⟩)
noncomputable def rqρ(S:Sq)(fs:List PyData)(gs:List PyData)(u v:Option A):Sg:=[some (.d S.x0),some (.g S.k1 1 S.G),some (.g S.k2 2 S.D),some (.l fs),some (.m (eR fs)),some (.l gs),u,v]
theorem aQS{S:Sq}{B fs ys gs:List PyData}{v:Option A}(D:(∀ x∈B,jF x=true)\/(∀ x∈B,o0 x=true))(N:B.length<=16000000)(nd:fs.Nodup)(M:adA fs ys <+: B)(O:ys.length<=1000) :
  ∃ v',jN (stN 7) rhF ys (rqρ S fs gs (some (.l [])) v)=.ok (.nx (rqρ S (adA fs ys) gs (some (.l ((ys.map (nrQ (adA fs ys))).map fun j:Nat=>.int (j:Int)))) v')):=by
 obtain ⟨J,E,v',G⟩:=f6 (fs:=stN 7) (fb:=rhF) (d:=id) (xs:=ys) (ρ:=rqρ S fs gs (some (.l [])) v)
  (fun i ρ=>∃ v',ρ=rqρ S (adA fs (ys.take i)) gs (some (.l (((ys.take i).map (nrQ (adA fs (ys.take i)))).map fun j:Nat=>.int (j:Int)))) v') ⟨v,rfl⟩ fun i y ρ hi q=>by
  obtain ⟨v',e⟩:=q
  have C:ys.take (i+1)=ys.take i++[y]:=by rw[DZ,hi];rfl
  have H:=(AI.mp hi).1
  have a:adA fs (ys.take (i+1)) <+: B:=by
   refine List.IsPrefix.trans ?_ M
   have:adA fs ys=adA (adA fs (ys.take (i+1))) (ys.drop (i+1)):=by
    unfold adA;rw[<-List.foldl_append,List.take_append_drop]
   rw[this];exact yB _ _
  have K:(adA fs (ys.take i)).Nodup:=wP _ nd
  have m:(adA fs (ys.take (i+1))).Nodup:=wP _ nd
  have w:∀ x∈ys.take (i+1),x∈adA fs (ys.take (i+1)):=fun x b=>nS _ b
  rw[C] at a m w
  rw[C,aKC] at *
  generalize L:adA fs (ys.take i)=F at *
  have k:y∈B:=a.subset (tT F y)
  have r:∀ x∈F,x∈B:=fun x b=>a.subset ((pR F y).subset b)
  have f:F.length < 16777216:=by
   have h1:=a.length_le
   have h2:=(pR F y).length_le
   omega
  have s1:=aLL D k r
  have u:=aLL D k (fs:=adQ F y) (fun x b=>a.subset b)
  have p:=aEG m (tT F y)
  have n:(eR F).length<=16777216:=by rw[x6];omega
  have t:∀ x∈ys.take i,x∈F:=fun x b=>by rw[<-L];exact nS _ b
  have h:(ys.take i++[y]).map (nrQ (adQ F y))=(ys.take i).map (nrQ F)++[nrQ (adQ F y) y]:=by
   rw[BK,DV]
   congr 1
   exact B0 fun x b=>tU (pR F y) (t x b)
  have g:(ys.take i).length < 16777216:=by rw[BF];omega
  rw[h]
  refine ⟨rqρ S F gs (some (.l (((ys.take i).map (nrQ F)).map fun j:Nat=>.int (j:Int)))) (some (.d y)),_,by rw[e];simp[rqρ],.inl ?_,some (.d y),rfl⟩
  have z:dLen (.list F)=.ok (.int (F.length:Int)):=gM _
  have c:min i ys.length < 16777216:=by rw[BF] at g;exact g
  by_cases o:y∈F
  ·have s:=tS.mpr o
   rw[pQ o] at u p ⊢
   simp[rhF,rqρ,s1,s,p,c]
  ·have s:=qV o
   have I:=yA o
   rw[nR o] at u p ⊢
   simp[rhF,rqρ,s1,u,s,I,p,z,n,f,c]
 rw[List.map_id] at E
 rw[DL] at G
 exact ⟨v',by rw[E,G]⟩
theorem Sq.ok.le{S:Sq}{N:Nat}(O:S.ok N){m:Nat}(h:m<=N):bfQ S.after S.x0 m <+: bfQ S.after S.x0 N:=l9 h
theorem aEH{S:Sq}{N m:Nat}(O:S.ok N)(h:m<=N){gs:List PyData}(c:gs.length=m){u v:Option A}:rhT (rqρ S (bfQ S.after S.x0 m) gs u v)=.ok (decide (m < N)):=by
 have k2:=O.hk2
 subst c
 by_cases a:gs.length < (bfQ S.after S.x0 gs.length).length
 ·have b:=O.hD _ h a
  have d:S.stop (bfQ S.after S.x0 gs.length) gs.length = !decide (gs.length < N):=by
   by_cases q:gs.length < N
   ·rw[(O.on _ q).2,A3 q];rfl
   ·have e:gs.length=N:=by omega
    rcases O.off with z|z
    · rw [e] at a; omega
    · rw [A7 q, e]; exact z
  rw[d] at b
  simp[rhT,rqρ,gM,a,k2,b,tP]
 ·have:¬ gs.length < N:=fun q=>a (O.on _ q).1
  simp[rhT,rqρ,gM,a,this]
theorem aNI{S:Sq}{N m:Nat}(O:S.ok N)(h:m < N){gs:List PyData}(n:gs.length=m){u v:Option A}:∃ x u' v',(bfQ S.after S.x0 m)[m]? = some x/\rhB (rqρ S (bfQ S.after S.x0 m) gs u v)=.ok (.nx (rqρ S (bfQ S.after S.x0 (m+1)) (gs++[o8 S.after (bfQ S.after S.x0 (m+1)) x]) u' v')):=by
 have f:=(O.on m h).1
 have a:(bfQ S.after S.x0 m)[m]? = some (bfQ S.after S.x0 m)[m]:=AN f
 generalize (bfQ S.after S.x0 m)[m]=x at a
 have k1:=O.hk1
 obtain ⟨⟨d,i,p⟩,k⟩:=O.hG m x h (u9 (O.le (by omega)) a)
 have e:=oH a
 have o:adA (bfQ S.after S.x0 m) (S.after x) <+: bfQ S.after S.x0 N:=by rw[<-e];exact O.le (by omega)
 obtain ⟨v',q⟩:=aQS (S:=S) (gs:=gs) (v:=v) O.key O.len (aCD S.after S.x0 m) o k
 rw[<-e] at q
 have g:dIx (.list (bfQ S.after S.x0 m)) (.int (m:Int))=.ok x:=oV (dX a)
 have c:gs.length < 16777216:=by have:=(O.le (show m<=N by omega)).length_le;have:=O.len;omega
 have b:(S.after x).length<=16777216:=by omega
 refine ⟨x,some (.l (((S.after x).map (nrQ (bfQ S.after S.x0 (m+1)))).map fun j:Nat=>.int (j:Int))),v',a,?_⟩
 subst n
 simp only[rqρ] at q
 simp[rhB,rqρ,gM,g,k1,i,p,q,c,o8,g9,b]
theorem aNJ{S:Sq}{N:Nat}(O:S.ok N):∀ (k m:Nat) (u v:Option A),m+k=N->
  ∃ u' v',bS rhT rhB (rqρ S (bfQ S.after S.x0 m) (cX S.after (bfQ S.after S.x0 m) m) u v)=.ok (.nx (rqρ S (bfQ S.after S.x0 N) (cX S.after (bfQ S.after S.x0 N) N) u' v')):=by
 have c:∀ m,m<=N->(∀ a,a < m->a < (bfQ S.after S.x0 a).length)->m<=(bfQ S.after S.x0 m).length:=fun m d h=>by
  cases m with
  | zero=>omega
  | succ m=>have h1:=h m (by omega);have h2:=(jY S.after S.x0 m).length_le;omega
 intro k
 induction k with
 | zero=>
  intro m u v d
  have d:m=N:=by omega
  subst d
  have i:=c m (by omega) fun a h=>(O.on a h).1
  have f:(cX S.after (bfQ S.after S.x0 m) m).length=m:=by unfold cX;rw[AB,BF];omega
  rw[dC (by rw[aEH O (AG m) f,A7 (by omega)])]
  exact ⟨u,v,rfl⟩
 | succ k ih=>
  intro m u v d
  have b:m < N:=by omega
  have i:=c m (by omega) fun a h=>(O.on a (by omega)).1
  have f:(cX S.after (bfQ S.after S.x0 m) m).length=m:=by unfold cX;rw[AB,BF];omega
  obtain ⟨x,u',v',o,q⟩:=aNI O b f (u:=u) (v:=v)
  rw[eY (by rw[aEH O (by omega) f,A3 b]) q]
  have e:cX S.after (bfQ S.after S.x0 m) m++[o8 S.after (bfQ S.after S.x0 (m+1)) x]=cX S.after (bfQ S.after S.x0 (m+1)) (m+1):=by
   unfold cX
   have B:(bfQ S.after S.x0 (m+1)).take (m+1)=(bfQ S.after S.x0 m).take m++[x]:=by
    obtain ⟨t,w⟩:=jY S.after S.x0 m
    have r:=(AI.mp o).1
    rw[<-w,FC (by omega),DZ,o];rfl
   rw[B,BK,DV]
   congr 1
   refine B0 fun y s=>?_
   unfold o8
   congr 1
   refine B0 fun z p=>?_
   obtain ⟨j,g⟩:=EC s
   have n:j < m:=by
    have:=(AI.mp g).1
    rw[BF] at this;omega
   rw[FG,AD n] at g
   refine (tU (jY S.after S.x0 m) ?_).symm
   have l:(bfQ S.after S.x0 j)[j]? = some y:=sN (O.le (by omega)) ((O.on j (by omega)).1) (u9 (O.le (by omega)) g)
   have:=nS (fs:=bfQ S.after S.x0 j) _ p
   rw[<-oH l] at this
   exact (l9 (by omega)).subset this
  rw[e]
  exact ih (m+1) u' v' (by omega)
theorem aS6{S:Sq}{N:Nat}(O:S.ok N):kZ [.d S.x0,.g S.k1 1 S.G,.g S.k2 2 S.D]=.ok (.d (.tuple [.list (bfQ S.after S.x0 N),.list (cX S.after (bfQ S.after S.x0 N) N)])):=by
 obtain ⟨u,v,q⟩:=aNJ O N 0 none none (by omega)
 have a:=AL (aCE S.after S.x0 N)
 have b:cI S.x0 []=true:=by
  unfold cI
  rw[CT,AU,AU]
  exact O.key.imp (fun h=>⟨h _ a,rfl⟩) (fun h=>⟨h _ a,rfl⟩)
 have hi:eR [S.x0]=[(S.x0,.int 0)]:=rfl
 have c:Fl.iL [] [(S.x0,.int 0)]=.ok [(S.x0,.int 0)]:=by simp[Fl.iL,b,putM,dM,fZ]
 unfold kZ
 rw[aQR]
 simp only[rqρ,bfQ,cX,List.take_zero,hi,BD] at q
 simp[c,q,cX]
end Mc
namespace Fl
open PySem L2 PyProof.Rows
@[simp] theorem aS7(i:Nat)(f g:Sg->R PyData)(ρ:Sg):aRX i f g ρ=match ρ[i]? with
 | some (some (.m kvs))=>(f ρ).bind fun k=>(g ρ).bind fun y=>if cI k (kvs.map (·.1))=true/\kvs.length<=16777216 then .ok (.nx (if dM kvs k=true then ρ else ρ.set i (some (.m (putM kvs k y))))) else .bad
 | _=>.bad:=id rfl
@[simp] theorem aTT(i:Nat)(ρ:Sg):aSZ i ρ=match ρ[i]? with
 | some (some (.l xs))=>.ok (.nx (ρ.set i (some (.l xs.reverse))))
 | _=>.bad:=id rfl
end Fl
namespace Mc
open PySem L2 PyProof.Rows Fl
mutual
def nbD:PyData->Bool
 | .bool _=>false
 | .dict _=>false
 | .list xs=>o9 xs
 | .tuple xs=>o9 xs
 | _=>true
def o9:List PyData->Bool
 | []=>true
 | x::t=>nbD x && o9 t
end
theorem aEI:∀ {xs:List PyData},(∀ x∈xs,nbD x=true)->o9 xs=true
 | [],_=>rfl
 | x::t,h=>by
  show (nbD x && o9 t)=true
  rw[h x AX,aEI fun y a=>h y (AM _ a)];rfl
mutual
theorem wQ:∀ d:PyData,d.canLay0=true->d.eqv d=true
 | .none,_=>by rfl
 | .bool b,_=>by simp[PyData.eqv]
 | .int i,_=>by simp[PyData.eqv]
 | .str x,_=>by simp[PyData.eqv]
 | .list xs,h=>by
  show PyData.eqvAll xs xs=true
  exact yC xs h
 | .tuple xs,h=>by
  show PyData.eqvAll xs xs=true
  exact yC xs h
 | .dict _,h=>by cases h
theorem yC:∀ xs:List PyData,PyData.canLayAll0 xs=true->PyData.eqvAll xs xs=true
 | [],_=>by rfl
 | x::t,h=>by
  have h':(x.canLay0 && PyData.canLayAll0 t)=true:=h
  rw[AU] at h'
  show (x.eqv x && PyData.eqvAll t t)=true
  rw[wQ x h'.1,yC t h'.2];rfl
end
mutual
theorem aH9:∀ x y:PyData,nbD x=true->nbD y=true->x.eqv y=true->x=y
 | .none,.none,_,_,_=>rfl
 | .int i,.int j,_,_,h=>by simp[PyData.eqv] at h;rw[h]
 | .str i,.str j,_,_,h=>by simp[PyData.eqv] at h;rw[h]
 | .list xs,.list ys,h1,h2,h=>by rw[yD xs ys h1 h2 h]
 | .tuple xs,.tuple ys,h1,h2,h=>by rw[yD xs ys h1 h2 h]
 | .bool _,_,h,_,_=>by cases h
 | .dict _,_,h,_,_=>by cases h
 | _,.bool _,_,h,_=>by cases h
 | _,.dict _,_,h,_=>by cases h
 | .none,.int _,_,_,h=>by simp[PyData.eqv] at h
 | .none,.str _,_,_,h=>by simp[PyData.eqv] at h
 | .none,.list _,_,_,h=>by simp[PyData.eqv] at h
 | .none,.tuple _,_,_,h=>by simp[PyData.eqv] at h
 | .int _,.none,_,_,h=>by simp[PyData.eqv] at h
 | .int _,.str _,_,_,h=>by simp[PyData.eqv] at h
 | .int _,.list _,_,_,h=>by simp[PyData.eqv] at h
 | .int _,.tuple _,_,_,h=>by simp[PyData.eqv] at h
 | .str _,.none,_,_,h=>by simp[PyData.eqv] at h
 | .str _,.int _,_,_,h=>by simp[PyData.eqv] at h
 | .str _,.list _,_,_,h=>by simp[PyData.eqv] at h
 | .str _,.tuple _,_,_,h=>by simp[PyData.eqv] at h
 | .list _,.none,_,_,h=>by simp[PyData.eqv] at h
 | .list _,.int _,_,_,h=>by simp[PyData.eqv] at h
 | .list _,.str _,_,_,h=>by simp[PyData.eqv] at h
 | .list _,.tuple _,_,_,h=>by simp[PyData.eqv] at h
 | .tuple _,.none,_,_,h=>by simp[PyData.eqv] at h
 | .tuple _,.int _,_,_,h=>by simp[PyData.eqv] at h
 | .tuple _,.str _,_,_,h=>by simp[PyData.eqv] at h
 | .tuple _,.list _,_,_,h=>by simp[PyData.eqv] at h
theorem yD:∀ xs ys:List PyData,o9 xs=true->o9 ys=true->PyData.eqvAll xs ys=true->xs=ys
 | [],[],_,_,_=>rfl
 | [],_::_,_,_,h=>by simp[PyData.eqvAll] at h
 | _::_,[],_,_,h=>by simp[PyData.eqvAll] at h
 | x::xs,y::ys,h1,h2,h=>by
  have h1':(nbD x && o9 xs)=true:=h1
  have a:(nbD y && o9 ys)=true:=h2
  have h':(x.eqv y && PyData.eqvAll xs ys)=true:=h
  rw[AU] at h1' a h'
  rw[aH9 x y h1'.1 a.1 h'.1,yD xs ys h1'.2 a.2 h'.2]
end
theorem aCF{d:PyData}(h:SeqAt.shaped d=true):d.canLay0=true:=by
 have h':(d.canLay0 && decide (d.depth<=64))=true:=h
 rw[AU] at h'
 exact h'.1
theorem aIA{x y:PyData}(hx:nbD x=true)(a:nbD y=true)(l:SeqAt.shaped x=true):x.eqv y=decide (x=y):=by
 by_cases h:x=y
 ·subst h;rw[wQ x (aCF l),A3 rfl]
 ·rw[A7 h]
  cases q:x.eqv y with
  | false=>rfl
  | true=>exact absurd (aH9 x y hx a q) h
structure Cp(d:PyData):Prop where
 nb:nbD d=true
 sh:SeqAt.shaped d=true
theorem aCG{x y:PyData}(hx:Cp x)(a:Cp y):dEq x y=.ok (.bool (decide (x=y))):=by rw[aB1 hx.sh a.sh,aIA hx.nb a.nb hx.sh]
theorem aQT{x y:PyData}(hx:Cp x)(a:Cp y):dNe x y=.ok (.bool (!decide (x=y))):=by rw[aB2 hx.sh a.sh,aIA hx.nb a.nb hx.sh]
theorem aIB{x:PyData}(h:SeqAt.shaped x=true):dEq x x=.ok (.bool true):=by rw[aB1 h h,wQ x (aCF h)]
theorem aQU{x:PyData}(h:SeqAt.shaped x=true):dNe x x=.ok (.bool false):=by rw[aB2 h h,wQ x (aCF h)];rfl
noncomputable def wρ(rs:List Rw)(f:Tn)(bk:List Tn)(t:Tn)(ps:List Int)(u:Option A):Sg:=[some (.d (bH rs)),some (.d (iZ f bk)),some (.d t.d),some (.m (been PyData.int ps)),u]
theorem aKD{rs:List Rw}{f:Tn}{bk:List Tn}{x:Str}{ps:List Int}{u:Option A}:wT (wρ rs f bk (.w x) ps u)=.ok false:=by
 simp[wT,wρ,Tn.d,xZ]
theorem aKE{rs:List Rw}{f:Tn}{bk:List Tn}{q:Int}{ps:List Int}{u:Option A}:wT (wρ rs f bk (.n q) ps u)=.ok true:=by
 simp[wT,wρ,Tn.d,xY]
theorem aQV{rs:List Rw}{f:Tn}{bk:List Tn}{q:Int}{ps:List Int}{u:Option A}(h:q∈ps):wB (wρ rs f bk (.n q) ps u)=.ok (.rt (.d (.str "ever"))):=by
 have h1:=kD ps q
 have h2:=(oE kC).mpr h
 simp[wB,wρ,Tn.d,h1,h2]
theorem aS8{rs:List Rw}{f:Tn}{bk:List Tn}{q:Int}{ps:List Int}{u:Option A}{x:Str}(h:q∉ps)(a:dD rs q)(c:ps.length<=16777216)(e:(bA rs q).r=.w x):wB (wρ rs f bk (.n q) ps u)=.ok (.nx (wρ rs f bk (.w x) (ps++[q]) (some (.d (.str x))))):=by
 have h1:=kD ps q
 have h2:=iQ kC h
 have b:=lZ kC h
 have i:(been PyData.int ps).length<=16777216:=by rw[jW];exact c
 have g:=pP a.1 a.2
 simp[wB,wρ,Tn.d,h1,h2,b,i,g,cV,e,xZ]
theorem aS9{rs:List Rw}{f:Tn}{bk:List Tn}{q a:Int}{ps:List Int}{u:Option A}(h:q∉ps)(b:dD rs q)(k:ps.length<=16777216)(e:(bA rs q).r=.n a)(h0:0<=a)(j:a < (bk.length:Int)):wB (wρ rs f bk (.n q) ps u)=.ok (.nx (wρ rs f bk (bkF bk a) (ps++[q]) (some (.d (.int a))))):=by
 have h1:=kD ps q
 have h2:=iQ kC h
 have g:=lZ kC h
 have l:(been PyData.int ps).length<=16777216:=by rw[jW];exact k
 have i:=pP b.1 b.2
 have c:=aLJ h0 j
 simp[wB,wρ,Tn.d,h1,h2,g,l,i,cV,e,xY,iZ,c]
theorem qW{rs:List Rw}{sg:Nat}(M:Mach rs sg){q a:Int}(b:dD rs q)(e:(bA rs q).r=.n a):0<=a/\a < (rs.length:Int):=by
 have c:=AL (eF b.1 b.2)
 have:=(M.row _ c).1.2.1
 rw[e] at this
 exact this
theorem aNK{rs:List Rw}{sg:Nat}{f:Tn}{bk:List Tn}(M:Mach rs sg)(l:bk.length=rs.length)(i:∀ t∈bk,tnV rs.length t){h:Int}:∀ (n:Nat) (ps:List Int) (q:Int) (u:Option A),Und2 (f8 rs (bkF bk)) h ps q->(∀ p∈ps,dD rs p)->dD rs q->rs.length+1<=ps.length+n->
  aN (bS wT wB) (bX (vV 2)) (wρ rs f bk (.n q) ps u)=.ok (.rt (.d (.str ((cC (f8 rs (bkF bk)) h).getD gC)))):=by
 intro n
 induction n with
 | zero=>
  intro ps q u U pv a k
  have:=tR U.nd pv
  omega
 | succ n ih=>
  intro ps q u U pv a k
  rw[a8]
  by_cases b:q∈ps
  ·rw[jU aKE (aQV b),U.met b];rfl
  ·have o:ps.length<=rs.length:=tR U.nd pv
   have c:ps.length<=16777216:=by have:=M.len2;omega
   cases e:(bA rs q).r with
   | w x=>
    have st:f8 rs (bkF bk) q=some (.inr x):=by unfold f8;rw[e]
    rw[eY aKE (aS8 b a c e),dC aKD,U.outs st]
    simp[wρ,Tn.d]
   | n q'=>
    obtain ⟨j,m⟩:=qW M a e
    rw[eY aKE (aS9 b a c e j (by rw[l];exact m))]
    have g:=tQ i q'
    cases e2:bkF bk q' with
    | w x=>
     have st:f8 rs (bkF bk) q=some (.inr x):=by unfold f8;rw[e];simp only;rw[e2]
     rw[dC aKD,U.outs st]
     simp[wρ,Tn.d]
    | n r=>
     rw[e2] at g
     have st:f8 rs (bkF bk) q=some (.inl r):=by unfold f8;rw[e];simp only;rw[e2]
     have:=ih (ps++[q]) r (some (.d (.int q'))) (U.next b st) (fun p c=>by
      rcases BR.mp c with z|z
      · exact pv p z
      · rw [AV.mp z]; exact a) g (by rw [A0, B5]; omega)
     rw[a8] at this
     exact this
theorem aR9{rs:List Rw}{sg:Nat}{f:Tn}{bk:List Tn}(M:Mach rs sg)(e:bk.length=rs.length)(b:∀ t∈bk,tnV rs.length t)(c:tnV rs.length f):eX [.d (bH rs),.d (iZ f bk)]=.ok (.d (.str (wbR rs (bkF bk) f))):=by
 have h:dIx (iZ f bk) (.int 0)=.ok f.d:=rfl
 have a:aN (bS wT wB) (bX (vV 2)) (wρ rs f bk f [] none)=.ok (.rt (.d (.str (wbR rs (bkF bk) f)))):=by
  cases f with
  | w x=>
   rw[a8,dC aKD]
   simp[wρ,Tn.d,wbR]
  | n q=>exact aNK M e b (rs.length+1) [] q none Und2.start (fun p g=>by simp at g) c (by simp)
 unfold eX
 rw[m7]
 rw[a8] at a
 simp only[wρ,been,BD] at a
 simp only[f9,a8,oC,iM,kB,fV,eQ,fU,AQ,AK,h,R.bind_ok,AW,A8,Nat.reduceAdd,AT,BD,BO,BL,List.replicate,AY,A2,a]
theorem aKF{rs:List Rw}{sg:Nat}(M:Mach rs sg){bk a:Int->Tn}(h:∀ q,dD rs q->bk q=a q)(p:∀ q,dD rs q->tnV rs.length (bk q)){t:Tn}(i:tnV rs.length t):wbR rs bk t=wbR rs a t:=by
 cases t with
 | w x=>rfl
 | n q=>
  have st:∀ q,dD rs q->f8 rs bk q=f8 rs a q:=fun q b=>by
   unfold f8
   cases e:(bA rs q).r with
   | w x=>rfl
   | n c=>simp only;rw[h c (qW M b e)]
  have f:∀ q c,dD rs q->f8 rs bk q=some (.inl c)->dD rs c:=fun q c b e=>by
   unfold f8 at e
   cases e2:(bA rs q).r with
   | w x=>rw[e2] at e;cases e
   | n r=>
    rw[e2] at e
    simp only at e
    have g:=p _ (qW M b e2)
    split at e
    · rename_i u m; cases e; rw [m] at g; exact g
    · cases e
  have k:∀ n q o,dD rs q->Ex (f8 rs bk) n q o->Ex (f8 rs a) n q o:=by
   intro n q o b d
   induction d with
   | @out q o e=>exact .out (by rw[<-st q b];exact e)
   | @go q c o n e t ih=>exact .go (by rw[<-st q b];exact e) (ih (f q c b e))
  have l:∀ n q o,dD rs q->Ex (f8 rs a) n q o->Ex (f8 rs bk) n q o:=by
   intro n q o b d
   induction d with
   | @out q o e=>exact .out (by rw[st q b];exact e)
   | @go q c o n e t ih=>
    have j:f8 rs bk q=some (.inl c):=by rw[st q b];exact e
    exact .go j (ih (f q c b j))
  show (cC (f8 rs bk) q).getD gC=(cC (f8 rs a) q).getD gC
  rw[uA (st:=f8 rs bk) (st':=f8 rs a) (s:=q) (s':=q) fun o=>⟨fun ⟨n,x⟩=>⟨n,k n q o i x⟩,fun ⟨n,x⟩=>⟨n,l n q o i x⟩⟩]
theorem aQW{rs:List Rw}{sg:Nat}{z:List Nat}(M:Mach rs sg)(S:bC sg z):eX [.d (bH rs),.d (aV rs z)]=.ok (.d (.str (gB rs z))):=by
 have c:((List.range rs.length).map fun q:Nat=>d8 rs z (q:Int)).length=rs.length:=by simp
 have a:∀ t∈(List.range rs.length).map fun q:Nat=>d8 rs z (q:Int),tnV rs.length t:=fun t f=>by
  obtain ⟨q,e,rfl⟩:=BA.mp f
  exact l7 M S (wO (B3.mp e))
 unfold aV
 rw[aR9 M c a (l7 M S (qU M z)),aKF M (fun q b=>x5 b) (fun q b=>tQ a q) (l7 M S (qU M z)),<-aJ6 M S]
 rfl
theorem aIC{rs:List Rw}{sg:Nat}{z:List Nat}(M:Mach rs sg)(S:bC sg z){s:Int×Int}(V:lK rs z s):(eM rs z s).ok:=by
 have a:(Tn.w gC).ok:=by show PyData.strOk gC=true;decide +kernel
 unfold eM
 cases e:cC (cM rs z) s with
 | none=>exact a
 | some t=>
  obtain ⟨n,h⟩:=gO e
  show t.ok
  clear e
  induction h with
  | @out s o h=>
   unfold cM at h
   rcases beg_cell M S V with ⟨x,e,b⟩|⟨q,e,c,h1,h2⟩
   ·rw[e] at h
    cases h
    have f:=AL (eF V.2.2.1 V.2.2.2)
    have:=((M.row _ f).1.ok).1
    unfold bY at e
    rw[AD b] at e
    simp only at e
    rw[e] at this
    exact this
   ·rw[e] at h
    simp only at h
    split at h
    · cases h
    · cases h; exact trivial
  | @go s s' o n h t ih=>
   refine ih ?_
   unfold cM at h
   rcases beg_cell M S V with ⟨x,e,b⟩|⟨q,e,c,h1,h2⟩
   ·rw[e] at h;cases h
   ·rw[e] at h
    simp only at h
    split at h
    · rename_i d; cases h; exact ⟨h1, d, c⟩
    · cases h
theorem aNL{rs:List Rw}{sg:Nat}{z:List Nat}(M:Mach rs sg)(S:bC sg z):(eM rs z (0,0)).ok/\∀ t∈(List.range rs.length).map fun q:Nat=>d8 rs z (q:Int),t.ok:=⟨aIC M S (qU M z),fun t a=>by
 obtain ⟨q,b,rfl⟩:=BA.mp a
 exact aIC M S (wO (B3.mp b))⟩
theorem vA:∀ {xs:List PyData},(∀ x∈xs,gA x=true)->eZ xs=true
 | [],_=>rfl
 | x::t,h=>by
  show (gA x && eZ t)=true
  rw[h x (AX ..),vA fun y a=>h y (AM _ a)];rfl
theorem aID{t:Tn}(h:t.ok):gA t.d=true:=by
 cases t with
 | n i=>rfl
 | w x=>exact h
theorem aNM{f:Tn}{bk:List Tn}(e:f.ok)(g:∀ t∈bk,t.ok):jF (iZ f bk)=true:=by
 have h1:gA (iZ f bk)=true:=by
  show eZ [f.d,.tuple (bk.map Tn.d)]=true
  refine vA fun x a=>?_
  rcases AZ.mp a with z|a
  ·rw[z];exact aID e
  ·rw[AV.mp a]
   show eZ (bk.map Tn.d)=true
   refine vA fun x a=>?_
   obtain ⟨c,b,rfl⟩:=BA.mp a
   exact aID (g c b)
 have h2:Sh 3 (iZ f bk):=by
  refine aAP fun x a=>?_
  rcases AZ.mp a with z|a
  ·rw[z];exact aK1 _ e
  ·rw[AV.mp a]
   refine aAP fun x a=>?_
   obtain ⟨c,b,rfl⟩:=BA.mp a
   exact aK1 _ (g c b)
 show (gA (iZ f bk) && decide ((iZ f bk).depth<=8))=true
 rw[h1,A3 (BJ h2.2 (by decide))];rfl
noncomputable def aCH(rs:List Rw)(x:PyData)(k:Nat):PyData:=match iW [.d x,.d (gP rs k)] with
 | .ok (.d y)=>y
 | _=>.none
theorem yE{rs:List Rw}{sg k:Nat}{z:List Nat}(M:Mach rs sg)(S:bC sg z)(a:k < sg):aCH rs (aV rs z) k=aV rs (z++[97+k]):=by
 have:=aCA M S (c:=97+k) (by unfold cH;exact A3 (by omega))
 rw[show 97+k - 97=k by omega] at this
 unfold aCH
 rw[this]
theorem qX{sg k:Nat}{z:List Nat}(S:bC sg z)(b:k < sg)(d:z.length < 1000):bC sg (z++[97+k]):=⟨by simp;omega,fun c a=>by
 rcases BR.mp a with h|h
 · exact S.2 c h
 · rw [AV.mp h]; unfold cH; exact A3 (by omega)⟩
noncomputable def aIE(rs:List Rw)(x:PyData):PyData:=match eX [.d (bH rs),.d x] with
 | .ok (.d y)=>y
 | _=>.none
theorem wR{rs:List Rw}{sg:Nat}{z:List Nat}(M:Mach rs sg)(S:bC sg z):aIE rs (aV rs z)=.str (gB rs z):=by
 unfold aIE
 rw[aQW M S]
def tnB(m:Nat):Tn->Prop
 | .n i=>0<=i/\i < (m:Int)
 | .w x=>x="by"\/x="out"\/x="ever"
theorem aEJ{rs:List Rw}{sg:Nat}{z:List Nat}(M:Mach rs sg)(S:bC sg z){s:Int×Int}(V:lK rs z s):tnB rs.length (eM rs z s):=by
 unfold eM
 cases e:cC (cM rs z) s with
 | none=>exact .inr (.inr rfl)
 | some t=>
  obtain ⟨n,h⟩:=gO e
  show tnB rs.length t
  clear e
  induction h with
  | @out s o h=>
   unfold cM at h
   rcases beg_cell M S V with ⟨x,e,b⟩|⟨q,e,a,h1,h2⟩
   ·rw[e] at h
    cases h
    have d:=AL (eF V.2.2.1 V.2.2.2)
    have:=(M.row _ d).1.1
    unfold bY at e
    rw[AD b] at e
    simp only at e
    rw[e] at this
    rcases this with h|h
    · exact .inl h
    · exact .inr (.inl h)
   ·rw[e] at h
    simp only at h
    split at h
    · cases h
    · cases h; exact a
  | @go s s' o n h t ih=>
   refine ih ?_
   unfold cM at h
   rcases beg_cell M S V with ⟨x,e,b⟩|⟨q,e,a,h1,h2⟩
   ·rw[e] at h;cases h
   ·rw[e] at h
    simp only at h
    split at h
    · rename_i c; cases h; exact ⟨h1, c, a⟩
    · cases h
def tc(m:Nat):Tn->Nat
 | .n i=>i.toNat
 | .w x=>if x="by" then m else if x="out" then m+1 else m+2
theorem z4{m:Nat}{t:Tn}(h:tnB m t):tc m t < m+3:=by
 cases t with
 | n i=>have:0<=i/\i < (m:Int):=h;show i.toNat < _;omega
 | w x=>show (if x="by" then m else if x="out" then m+1 else m+2) < _;split<;>(try split)<;>omega
theorem aIF{m:Nat}{t u:Tn}(h:tnB m t)(h':tnB m u)(e:tc m t=tc m u):t=u:=by
 have c:("by":Str)≠"out":=by decide +kernel
 have h1:("ever":Str)≠"by":=by decide +kernel
 have h2:("ever":Str)≠"out":=by decide +kernel
 cases t with
 | n i=>
  have a:0<=i/\i < (m:Int):=h
  cases u with
  | n j=>
   have b:0<=j/\j < (m:Int):=h'
   have e:i.toNat=j.toNat:=e
   rw[show i=j by omega]
  | w x=>
   have e:i.toNat=(if x="by" then m else if x="out" then m+1 else m+2):=e
   split at e<;>(try split at e)<;>omega
 | w x=>
  cases u with
  | n j=>
   have b:0<=j/\j < (m:Int):=h'
   have e:(if x="by" then m else if x="out" then m+1 else m+2)=j.toNat:=e
   split at e<;>(try split at e)<;>omega
  | w y=>
   have e:(if x="by" then m else if x="out" then m+1 else m+2)=(if y="by" then m else if y="out" then m+1 else m+2):=e
   rcases h with rfl|rfl|rfl<;>rcases h' with rfl|rfl|rfl<;>first|rfl|(simp[c,c.symm,h1,h1.symm,h2,h2.symm] at e)
theorem aKG{rs:List Rw}{z a:List Nat}(h1:eM rs z (0,0)=eM rs a (0,0))(h2:∀ q:Nat,q < rs.length->d8 rs z (q:Int)=d8 rs a (q:Int)):aV rs z=aV rs a:=by
 unfold aV
 rw[h1,B0 fun q b=>h2 q (B3.mp b)]
structure Ctr(rs:List Rw)(sg p q:Nat):Prop where
 len:rs.length=p+1+q
 p1:1<=p
 p5:p<=5
 q1:1<=q
 q5:q<=5
 lef:(bA rs 0).l=.n 0
 mid:(bA rs (p:Int)).l=.n ((p:Int)+1)
 a:∀ i:Nat,i < p->∀ k,k < sg->ck k (bA rs (i:Int))=((((i+(if k=0 then 1 else 0)) % p:Nat):Int),1)
 b:∀ k,k < sg->ck k (bA rs (p:Int))=((p:Int),-1)
 c:∀ j:Nat,j < q->∀ k,k < sg->ck k (bA rs ((p+1+j:Nat):Int))=(((p+1+(j+(if k=sg - 1 then 1 else 0)) % q:Nat):Int),1)
end Mc
namespace Mb
open Classical
section
variable{τ:Type}(g:τ->Nat->τ)(t0:τ)(cs:List Nat)
variable{g t0 cs}
end
end Mb
namespace Mc
open PySem L2 PyProof.Rows Fl
def stD(z:List Nat):PyData:=.str ⟨z.toArray⟩
def sgT(sg:Nat):Str:=Txt.slice "abc" none (some (sg:Int))
theorem aEK{sg:Nat}(s1:1<=sg)(a:sg<=3):(sgT sg).cps.toList=[97,98,99].take sg:=aDH s1 a
theorem aNN{sg:Nat}(s1:1<=sg)(a:sg<=3):(sgT sg).cps.toList.length<=3:=by rw[aEK s1 a,BF];simp;omega
abbrev PZ:=PyData×List Nat
structure Came(L:List PZ)(D:List (PyData×PyData))(m:Nat):Prop where
 got:∀ (j:Nat) (x:PyData) (z:List Nat),1<=j->j < m->L[j]? = some (x,z)->∃ (i k:Nat) (x':PyData) (z':List Nat),fZ D (.int (j:Int))=some (.tuple [.int (i:Int),.str ⟨#[97+k]⟩])/\L[i]? = some (x',z')/\i < j/\z=z'++[97+k]
 new:∀ j:Nat,m<=j->dM D (.int (j:Int))=false
 key:∀ p∈D.map (·.1),o0 p=true
theorem Came.same{L:List PZ}{D:List (PyData×PyData)}{m:Nat}(C:Came L D m)(j:Int):cI (.int j) (D.map (·.1))=true:=by
 unfold cI
 rw[CT,AU,AU]
 exact .inr ⟨rfl,BW.mpr C.key⟩
section
variable{after:PyData->List PyData}{x0:PyData}
structure Fto(after:PyData->List PyData)(x0:PyData)(wn:PyData->Bool)(k1 k2:Nat)(G Wn:List PyData->R PyData)(N:Nat):Prop where
 on:∀ m,m < N->m < (bfQ after x0 m).length/\∀ x,(bfQ after x0 m)[m]? = some x->wn x=false
 off:(bfQ after x0 N).length<=N\/∃ x,(bfQ after x0 N)[N]? = some x/\wn x=true
 key:(∀ x∈bfQ after x0 N,jF x=true)\/(∀ x∈bfQ after x0 N,o0 x=true)
 len:(bfQ after x0 N).length<=100000
 hN:N<=100000
 hk1:k1<=12
 hk2:k2<=11
 hG:∀ m x,m < N->(bfQ after x0 N)[m]? = some x->(∃ d,G [x]=.ok d/\cJ d=.ok (after x))/\(after x).length<=3
 hW:∀ m x,m<=N->(bfQ after x0 N)[m]? = some x->Wn [x]=.ok (.bool (wn x))
end
def rdD(rows:List (List Nat))(ws:List PyData):PyData:=.tuple [.tuple (rows.map g9),.tuple ws]
structure Rdr(rows:List (List Nat))(sg:Nat):Prop where
 n1:1<=rows.length
 n2:rows.length<=1000
 s1:1<=sg
 s3:sg<=3
 row:∀ r∈rows,r.length=sg/\∀ j∈r,j < rows.length
section
variable{rows:List (List Nat)}{sg:Nat}
theorem Rdr.at(M:Rdr rows sg){q:Nat}(a:q < rows.length):rows[q]? = some (rows.getD q [])/\(rows.getD q []).length=sg/\∀ j∈rows.getD q [],j < rows.length:=by
 have e:rows[q]? = some (rows.getD q []):=by rw[A5,AN a];rfl
 exact ⟨e,M.row _ (AL e)⟩
theorem aNO:∀ {n:Nat} {xs:List PyData},xs.Nodup->(∀ x∈xs,∃ q:Nat,q < n/\x=.int (q:Int))->xs.length<=n:=by
 intro n xs g h
 refine rQ (fun x=>match x with | .int q=>q.toNat|_=>0) n xs g (fun x i=>?_) (fun a f b c e=>?_)
 ·obtain ⟨q,d,rfl⟩:=h x i
  show ((q:Int)).toNat < n
  omega
 ·obtain ⟨q,d,rfl⟩:=h a f
  obtain ⟨r,j,rfl⟩:=h b c
  have k:((q:Int)).toNat=((r:Int)).toNat:=e
  rw[show q=r by omega]
end
def sl(y z:List Nat):Prop:=y.length < z.length\/(y.length=z.length/\List.Lex (· < ·) y z)
section
variable{after:PyData->List PyData}{x0:PyData}
structure FtoC(after:PyData->List PyData)(x0:PyData)(wn:PyData->Bool)(k1 k2:Nat)(G Wn:List PyData->R PyData)(M:Nat):Prop where
 cl:(bfQ after x0 M).length<=M
 hM:M<=100000
 key:(∀ x∈bfQ after x0 M,jF x=true)\/(∀ x∈bfQ after x0 M,o0 x=true)
 hk1:k1<=12
 hk2:k2<=11
 hG:∀ x∈bfQ after x0 M,(∃ d,G [x]=.ok d/\cJ d=.ok (after x))/\(after x).length<=3
 hW:∀ x∈bfQ after x0 M,Wn [x]=.ok (.bool (wn x))
end
def jG(w:Str):Prop:=w="by"\/w="out"\/w="ever"
structure Rdw(rows:List (List Nat))(ws:List Str)(sg:Nat):Prop where
 r:Rdr rows sg
 wl:ws.length=rows.length
 ww:∀ w∈ws,jG w
noncomputable def rdW(rows:List (List Nat))(ws:List Str):PyData:=rdD rows (ws.map .str)
section
variable{r1 r2:List (List Nat)}{w1 w2:List Str}{sg:Nat}
theorem Rdw.w(M:Rdw r1 w1 sg){q:Nat}(b:q < r1.length):jG (w1.getD q "")/\dIx (.tuple (w1.map .str)) (.int (q:Int))=.ok (.str (w1.getD q "")):=by
 have a:=M.wl
 have e:w1[q]? = some (w1.getD q ""):=by rw[A5,AN (by omega)];rfl
 refine ⟨M.ww _ (AL e),hV (dX ?_)⟩
 rw[AH,e];rfl
end
@[simp] theorem aTU(i:Nat)(f:Sg->R Fw)(ρ:Sg):aS0 i f ρ=f (fzM i ρ):=id rfl
@[simp] theorem aUF(i:Nat)(ρ:Sg):fzM i ρ=match ρ[i]? with|some (some (.m kvs))=>ρ.set i (some (.f kvs))|_=>ρ:=id rfl
@[simp] theorem aTV(neg:Bool)(i:Nat)(f:Sg->R PyData)(ρ:Sg):aS1 neg i f ρ=(f ρ).bind fun k=>match ρ[i]? with
 | some (some (.f kvs))=>if cI k (kvs.map (·.1))=true then .ok (.bool (if neg=true then !dM kvs k else dM kvs k)) else .bad
 | _=>.bad:=id rfl
@[simp] theorem aTA(i:Nat)(f:Sg->R PyData)(ρ:Sg):aRY i f ρ=match ρ[i]? with
 | some (some (.f kvs))=>(f ρ).bind fun k=>if cI k (kvs.map (·.1))=true then (match fZ kvs k with
  | some v=>.ok v
  | none=>.bad) else .bad
 | _=>.bad:=id rfl
@[simp] theorem aTB(i:Nat)(ρ:Sg):aRZ i ρ=match ρ[i]? with|some (some (.f kvs))=>if kvs.length<=16777216 then .ok (kvs.map (·.1)) else .bad|_=>.bad:=id rfl
section
variable{r1 r2:List (List Nat)}{w1 w2:List Str}{sg:Nat}
end
def mB(rows:List (List Nat))(q c:Nat):Nat:=(rows.getD q []).getD (c - 97) 0
def runN(rows:List (List Nat))(q:Nat)(z:List Nat):Nat:=z.foldl (mB rows) q
def Sgs(sg:Nat)(z:List Nat):Prop:=∀ c∈z,cH sg c=true
section
variable{rows r1 r2:List (List Nat)}{ws w1 w2:List Str}{sg:Nat}
theorem aIG{c:Nat}(h:cH sg c=true):97<=c/\c - 97 < sg:=by
 unfold cH at h
 have:=BY h
 omega
theorem yF(M:Rdr rows sg){q c:Nat}(f:q < rows.length)(d:cH sg c=true):(rows.getD q [])[c - 97]? = some (mB rows q c)/\mB rows q c < rows.length:=by
 have a:=M.at f
 have h:=aIG d
 have b:c - 97 < (rows.getD q []).length:=by rw[a.2.1];exact h.2
 have e:(rows.getD q [])[c - 97]? = some (mB rows q c):=by
  unfold mB
  generalize rows.getD q []=r at *
  rw[A5,AN b];rfl
 exact ⟨e,a.2.2 _ (AL e)⟩
theorem jC(M:Rdr rows sg):∀ (z:List Nat) {q:Nat},Sgs sg z->q < rows.length->runN rows q z < rows.length
 | [],_,_,h=>h
 | c::t,_,hs,h=>jC M t (fun c a=>hs c (AM _ a)) (yF M h (hs c AX)).2
def EqI(rows:List (List Nat))(ws:List Str)(sg i x y:Nat):Prop:=∀ w,Sgs sg w->w.length<=i->ws.getD (runN rows x w) ""=ws.getD (runN rows y w) ""
end
section
variable{rows:List (List Nat)}{ws:List Str}{sg:Nat}
def EqA(rows:List (List Nat))(ws:List Str)(sg x y:Nat):Prop:=∀ w,Sgs sg w->ws.getD (runN rows x w) ""=ws.getD (runN rows y w) ""
end
section
variable{rows:List (List Nat)}{ws:List Str}{sg:Nat}{L:List Nat}
structure Lk(rows:List (List Nat))(ws:List Str)(sg:Nat)(L:List Nat):Prop where
 len:L.length=rows.length
 at_:∀ x,x < rows.length->L[x]? = some (L.getD x 0)/\L.getD x 0<=x/\EqA rows ws sg x (L.getD x 0)/\∀ b,b < L.getD x 0->¬ EqA rows ws sg (L.getD x 0) b
noncomputable def afL(rows:List (List Nat))(L:List Nat):PyData->List PyData
 | .int q=>(rows.getD q.toNat []).map fun j=>.int (L.getD j 0:Int)
 | _=>[]
structure Lst(rows:List (List Nat))(ws:List Str)(L:List Nat)(N:Nat):Prop where
 len:(bfQ (afL rows L) (.int 0) N).length=N
 on:∀ m,m < N->m < (bfQ (afL rows L) (.int 0) m).length
 le:N<=rows.length
end
section
variable{rows:List (List Nat)}{ws:List Str}{sg:Nat}{L:List Nat}{N:Nat}
theorem aIH{after:PyData->List PyData}{x0 x y:PyData}{n:Nat}(g:(bfQ after x0 n).length<=n)(hx:x∈bfQ after x0 n)(i:y∈after x):y∈bfQ after x0 n:=by
 obtain ⟨m,f⟩:=EC hx
 have b:=(AI.mp f).1
 have a:m < n:=A1 b g
 by_cases h:m < (bfQ after x0 m).length
 ·have:=sN (l9 (CY a)) h f
  have e:=oH this
  have d:y∈bfQ after x0 (m+1):=by rw[e];exact nS _ i
  exact (l9 (show m+1<=n by omega)).subset d
 ·exfalso
  have c:∀ k,(bfQ after x0 (m+k))=bfQ after x0 m:=by
   intro k
   induction k with
   | zero=>rfl
   | succ k ih=>
    have:(bfQ after x0 (m+k))[m+k]? = none:=by rw[ih];exact CL (by omega)
    rw[<-Nat.add_assoc,bfQ,this]
    exact ih
  obtain ⟨k,rfl⟩:=Nat.le.dest (CY a)
  rw[c k] at b
  omega
end
end Mc
namespace Fl
open PySem L2 PyProof.Rows
noncomputable def aNP(i j:Nat)(f g:Sg->R PyData):Sg->R Fw:=fun ρ=>match ρ[i]? with
 | some (some (.l xs))=>match ρ[j]? with
  | some (some (.m kvs))=>(f ρ).bind fun k=>(g ρ).bind fun y=>if cI k (kvs.map (·.1))=true/\kvs.length<=16777216/\xs.length < 16777216/\i≠j then
   .ok (.nx ((ρ.set j (some (.m (match fZ kvs k with|some _=>kvs|none=>putM kvs k y)))).set i (some (.l (xs++[(fZ kvs k).getD y]))))) else .bad
  | _=>.bad
 | _=>.bad
@[simp] theorem aSA(i j:Nat)(f g:Sg->R PyData)(ρ:Sg):aNP i j f g ρ=match ρ[i]? with
 | some (some (.l xs))=>match ρ[j]? with
  | some (some (.m kvs))=>(f ρ).bind fun k=>(g ρ).bind fun y=>if cI k (kvs.map (·.1))=true/\kvs.length<=16777216/\xs.length < 16777216/\i≠j then
   .ok (.nx ((ρ.set j (some (.m (match fZ kvs k with|some _=>kvs|none=>putM kvs k y)))).set i (some (.l (xs++[(fZ kvs k).getD y]))))) else .bad
  | _=>.bad
 | _=>.bad:=id rfl
@[simp] theorem aTC(i:Nat)(ρ:Sg):wG i ρ=match ρ[i]? with
 | some (some (.m kvs))=>if kvs.length<=16777216 then .ok (.int (kvs.length:Int)) else .bad
 | some (some (.f kvs))=>if kvs.length<=16777216 then .ok (.int (kvs.length:Int)) else .bad
 | _=>.bad:=id rfl
end Fl
namespace Mc
open PySem L2 PyProof.Rows Fl
section
variable{rows:List (List Nat)}{ws:List Str}{sg:Nat}
def kOk(d:PyData):Prop:=(∃ i,d=.int i)\/∃ w,jG w/\d=.str w
structure Kd(rows:List (List Nat))(ws:List Str)(sg i:Nat)(κ:Nat->PyData):Prop where
 ok:∀ x,x < rows.length->kOk (κ x)
 iff:∀ x y,x < rows.length->y < rows.length->(κ x=κ y↔EqI rows ws sg i x y)
end
noncomputable def afW(rs:List Rw)(sg:Nat)(x:PyData):List PyData:=(List.range sg).map (aCH rs x)
noncomputable def bfW(rs:List Rw)(sg n:Nat):List PyData:=bfQ (afW rs sg) (aV rs []) n
noncomputable def adZ(rs:List Rw)(zs:List (List Nat))(z:List Nat):List (List Nat):=if aV rs z∈zs.map (aV rs) then zs else zs++[z]
def dH(sg:Nat)(z:List Nat):List (List Nat):=(List.range sg).map fun k=>z++[97+k]
noncomputable def zsW(rs:List Rw)(sg:Nat):Nat->List (List Nat)
 | 0=>[[]]
 | n+1=>match (zsW rs sg n)[n]? with
  | some z=>(dH sg z).foldl (adZ rs) (zsW rs sg n)
  | none=>zsW rs sg n
theorem pS(rs:List Rw)(zs:List (List Nat))(z:List Nat):(adZ rs zs z).map (aV rs)=adQ (zs.map (aV rs)) (aV rs z):=by
 unfold adZ adQ
 split
 · rfl
 · rw [BK]; rfl
theorem qY(rs:List Rw)(l:List (List Nat)):∀ zs:List (List Nat),(l.foldl (adZ rs) zs).map (aV rs)=adA (zs.map (aV rs)) (l.map (aV rs)):=by
 induction l with
 | nil=>intro zs;rfl
 | cons z t ih=>intro zs;rw[E5,ih,pS];rfl
theorem adZ_mem{rs:List Rw}{zs:List (List Nat)}{z x:List Nat}(h:x∈adZ rs zs z):x∈zs\/x=z:=by
 unfold adZ at h
 split at h
 ·exact .inl h
 ·rcases BR.mp h with h|h
  · exact .inl h
  · exact .inr (AV.mp h)
theorem adZs_mem{rs:List Rw}{x:List Nat}(l:List (List Nat)):∀ {zs:List (List Nat)},x∈l.foldl (adZ rs) zs->x∈zs\/x∈l:=by
 induction l with
 | nil=>intro zs h;exact .inl h
 | cons z t ih=>
  intro zs h
  rcases ih (zs:=adZ rs zs z) h with h|h
  ·rcases adZ_mem h with h|h
   · exact .inl h
   · exact .inr (by rw [h]; exact AX)
  ·exact .inr (AM _ h)
theorem aNQ(rs:List Rw)(zs:List (List Nat))(z:List Nat):zs <+: adZ rs zs z:=by
 unfold adZ
 split
 · exact DK _
 · exact List.prefix_append ..
theorem aKH(rs:List Rw)(l:List (List Nat)):∀ zs:List (List Nat),zs <+: l.foldl (adZ rs) zs:=by
 induction l with
 | nil=>exact fun zs=>DK _
 | cons z t ih=>exact fun zs=>(aNQ rs zs z).trans (ih _)
theorem aCI{rs:List Rw}{sg:Nat}{z:List Nat}(M:Mach rs sg)(S:bC sg z):(dH sg z).map (aV rs)=afW rs sg (aV rs z):=by
 unfold dH afW
 rw[CC]
 exact B0 fun k a=>(yE M S (B3.mp a)).symm
structure ZsOk(rs:List Rw)(sg n:Nat)(zs:List (List Nat)):Prop where
 map:zs.map (aV rs)=bfW rs sg n
 ok:∀ z∈zs,bC sg z/\z.length<=n
theorem aNR{sg n:Nat}{z x:List Nat}(S:bC sg z)(b:z.length<=n)(c:n < 900)(h:x∈dH sg z):bC sg x/\x.length<=n+1:=by
 obtain ⟨k,a,rfl⟩:=BA.mp h
 exact ⟨qX S (B3.mp a) (by omega),by simp;omega⟩
theorem lL{rs:List Rw}{sg:Nat}(M:Mach rs sg):∀ n,n<=900->ZsOk rs sg n (zsW rs sg n):=by
 intro n
 induction n with
 | zero=>exact fun _=>⟨rfl,fun z a=>by rw[AV.mp a];exact ⟨⟨by simp,fun c d=>by simp at d⟩,by simp⟩⟩
 | succ n ih=>
  intro f
  obtain ⟨h1,h2⟩:=ih (by omega)
  unfold bfW at h1
  have e:(bfQ (afW rs sg) (aV rs []) n)[n]? = ((zsW rs sg n)[n]?).map (aV rs):=by rw[<-h1,AH]
  cases q:(zsW rs sg n)[n]? with
  | none=>
   rw[q] at e
   refine ⟨?_,fun z a=>?_⟩
   ·unfold bfW
    rw[zsW,bfQ,q,e];exact h1
   ·rw[zsW,q] at a
    have:=h2 z a
    exact ⟨this.1,by omega⟩
  | some z=>
   rw[q] at e
   have a:=h2 z (AL q)
   refine ⟨?_,fun x b=>?_⟩
   ·unfold bfW
    rw[zsW,bfQ,q,e]
    simp only[Option.map_some]
    rw[qY,h1,aCI M a.1]
   ·rw[zsW,q] at b
    rcases adZs_mem _ b with b|b
    ·have:=h2 x b
     exact ⟨this.1,by omega⟩
    ·exact aNR a.1 a.2 (by omega) b
structure EndW(rs:List Rw)(sg most N:Nat):Prop where
 on:∀ m,m < N->m < (bfW rs sg m).length/\(bfW rs sg m).length<=most
 off:(bfW rs sg N).length<=N\/most < (bfW rs sg N).length
theorem aKI{P:Nat->Prop}:∀ K:Nat,P K->∃ n,n<=K/\P n/\∀ m,m < n->¬ P m:=by
 intro K
 induction K using Nat.strongRecOn with
 | _ K ih=>
  intro h
  by_cases q:∃ m,m < K/\P m
  ·obtain ⟨m,h1,h2⟩:=q
   obtain ⟨n,a,b,c⟩:=ih m h1 h2
   exact ⟨n,by omega,b,c⟩
  ·exact ⟨K,AG _,h,fun m e d=>q ⟨m,e,d⟩⟩
theorem aNS(rs:List Rw)(sg most:Nat):∃ N,N<=most/\EndW rs sg most N:=by
 obtain ⟨n,h1,h2,b⟩:=aKI (P:=fun n=>(bfW rs sg n).length<=n\/most < (bfW rs sg n).length) most (by omega)
 exact ⟨n,h1,fun m a=>by have:=b m a;omega,h2⟩
theorem EndW.full{rs:List Rw}{sg most N:Nat}(E:EndW rs sg most N)(h:(bfW rs sg N).length<=most):(bfW rs sg N).length=N:=by
 rcases E.off with q|q
 ·cases N with
  | zero=>have:(bfW rs sg 0).length=1:=rfl;omega
  | succ n=>
   have h1:=(E.on n (by omega)).1
   have h2:(bfW rs sg n).length<=(bfW rs sg (n+1)).length:=(jY _ _ n).length_le
   omega
 ·omega
theorem EndW.up{rs:List Rw}{sg most a N:Nat}(E:EndW rs sg most N)(h:(bfW rs sg N).length<=most)(c:most<=a):EndW rs sg a N:=
 ⟨fun m b=>⟨(E.on m b).1,by have:=(E.on m b).2;omega⟩,.inl (by rw[E.full h];omega)⟩
noncomputable def aTD(rs:List Rw)(sg:Nat):Sq where
 after:=afW rs sg
 x0:=aV rs []
 stop fs _:=decide (200 < fs.length)
 k1:=4
 k2:=1
 G:=lD 2 d5 [.d (.list ((List.range sg).map (gP rs)))]
 D:=lD 2 fS []
theorem sO{rs:List Rw}{sg n:Nat}(M:Mach rs sg)(b:n<=900){x:PyData}(h:x∈bfW rs sg n):∃ z,bC sg z/\x=aV rs z:=by
 obtain ⟨h1,h2⟩:=lL M n b
 rw[<-h1] at h
 obtain ⟨z,a,rfl⟩:=BA.mp h
 exact ⟨z,(h2 z a).1,rfl⟩
theorem oW{rs:List Rw}{sg:Nat}{z:List Nat}(M:Mach rs sg)(S:bC sg z):jF (aV rs z)=true:=by
 obtain ⟨b,a⟩:=aNL M S
 exact aNM b a
theorem aEL{rs:List Rw}{sg most N:Nat}(M:Mach rs sg)(E:EndW rs sg most N)(c:1<=most):(bfW rs sg N).length<=most+3:=by
 cases N with
 | zero=>show 1<=most+3;omega
 | succ n=>
  obtain ⟨h1,h2⟩:=E.on n (by omega)
  have b:(bfQ (afW rs sg) (aV rs []) n)[n]? = some (bfQ (afW rs sg) (aV rs []) n)[n]:=AN h1
  have a:=aEF (afW rs sg (bfQ (afW rs sg) (aV rs []) n)[n]) (bfQ (afW rs sg) (aV rs []) n)
  rw[<-oH b] at a
  have d:(afW rs sg (bfQ (afW rs sg) (aV rs []) n)[n]).length=sg:=by unfold afW;simp
  have:=M.sg3
  unfold bfW at h2 ⊢
  omega
theorem aNT{rs:List Rw}{sg N:Nat}(M:Mach rs sg)(E:EndW rs sg 200 N)(j:N<=200):(aTD rs sg).ok N where
 on m h:=⟨(E.on m h).1,A7 (by have:=(E.on m h).2;unfold bfW at this;show ¬ 200 < (bfQ (afW rs sg) (aV rs []) m).length;omega)⟩
 off:=E.off.imp id fun h=>A3 h
 key:=.inl fun x b=>by
  obtain ⟨z,S,rfl⟩:=sO M (by omega) (show x∈bfW rs sg N from b)
  exact oW M S
 len:=by have:=aEL M E (by omega);show (bfW rs sg N).length<=_;omega
 hk1:=by show 4<=12;decide
 hk2:=by show 1<=12;decide
 hG m x hm b:=by
  obtain ⟨z,S,rfl⟩:=sO M (show N<=900 by omega) (AL b)
  have f:=fF (fs:=stN 0) (fe:=eA (aW 2 iW (aA (vV 1) (aA (vV 0) aM)))) (ρ0:=[none,some (.d (aV rs z))]) (d:=gP rs) (g:=aCH rs (aV rs z)) (xs:=List.range sg) fun k a=>by
   refine ⟨_,rfl,?_⟩
   have a:=B3.mp a
   have:=aCA M S (c:=97+k) (by unfold cH;exact A3 (by omega))
   rw[show 97+k - 97=k by omega,<-yE M S a] at this
   simp[this]
  have hi:=kM (xs:=(List.range sg).map (gP rs)) (by have:=M.sg3;simp;omega)
  have e:(afW rs sg (aV rs z)).length=sg:=by unfold afW;simp
  have i:=M.sg3
  refine ⟨⟨.list (afW rs sg (aV rs z)),?_,kM (by omega)⟩,by show (afW rs sg (aV rs z)).length<=_;omega⟩
  show lD 2 d5 [.d (.list ((List.range sg).map (gP rs)))] [aV rs z]=_
  unfold lD d5
  simp[hi,gL,f,dOf]
  rfl
 hD m hm e:=by
  show lD 2 fS [] [.list (bfW rs sg m),.int (m:Int)]=.ok (.bool (decide (200 < (bfW rs sg m).length)))
  unfold lD fS
  simp[gM,dOf]
  omega
noncomputable def aCJ(rs:List Rw)(sg N:Nat):PyData:=.tuple [.tuple (cX (afW rs sg) (bfW rs sg N) N),.tuple ((zsW rs sg N).map fun z=>.str (gB rs z))]
theorem aQX{rs:List Rw}{sg N:Nat}(M:Mach rs sg)(E:EndW rs sg 200 N)(y:N<=200):iP [.d (bH rs)]=if 200 < (bfW rs sg N).length then .ex ⟨"TooMany",[]⟩ else .ok (.d (aCJ rs sg N)):=by
 have O:=aNT M E y
 have e:=aS6 O
 obtain ⟨r,t,l,v⟩:=M.cons
 have c:gW [.d (bH rs)]=.ok (.d (.int sg)):=by rw[l,aD9,v]
 have f:=gF (n:=sg) (by have:=M.sg3;omega)
 have j:=aQP M [some (.d (bH rs)),none,none,none,none] rfl
 rw[show gL [none,some 0] [some (.d (bH rs)),none,none,none,none]=[none,some (.d (bH rs))] from rfl] at j
 have o:=aR5 M
 have Z:=lL M N (by omega)
 have a:=fF (fs:=stN 0) (fe:=eA (aW 2 eX (aA (vV 1) (aA (vV 0) aM)))) (ρ0:=[none,some (.d (bH rs))]) (d:=aV rs) (g:=fun z=>.str (gB rs z)) (xs:=zsW rs sg N) fun z s=>by
  refine ⟨_,rfl,?_⟩
  have:=aQW M (Z.ok z s).1
  simp[this]
 rw[Z.map] at a
 have u:=aEL M E (by omega)
 have m:=kM (xs:=bfW rs sg N) (by omega)
 have e:kZ [.d (aV rs []),.g 4 1 (lD 2 d5 [.d (.list ((List.range sg).map (gP rs)))]),.g 1 2 (lD 2 fS [])]=.ok (.d (.tuple [.list (bfW rs sg N),.list (cX (afW rs sg) (bfW rs sg N) N)])):=e
 generalize b:cX (afW rs sg) (bfW rs sg N) N=i at e
 have x:i.length<=16777216:=by rw[<-b];unfold cX;rw[AB,BF];omega
 have q:dIx (.tuple [.list (bfW rs sg N),.list i]) (.int 0)=.ok (.list (bfW rs sg N)):=rfl
 have p:dIx (.tuple [.list (bfW rs sg N),.list i]) (.int 1)=.ok (.list i):=rfl
 have w:(zsW rs sg N).length<=16777216:=by
  have:((zsW rs sg N).map (aV rs)).length<=16777216:=by rw[Z.map];omega
  rwa [AB] at this
 by_cases h:200 < (bfW rs sg N).length
 ·have k:(200:Int) < ((bfW rs sg N).length:Int):=by omega
  rw[AD h]
  unfold iP oU
  simp[c,f,j,o,zZ,sD,wE,aBO,i8,wC,e,dOf,q,p,gM,k,xV,few,gL]
 ·have k:¬ (200:Int) < ((bfW rs sg N).length:Int):=by omega
  rw[AE h]
  unfold iP oU aCJ
  rw[b]
  simp[c,f,j,o,zZ,sD,wE,aBO,i8,wC,e,dOf,q,p,gM,k,m,gL,a]
noncomputable def wyρ(rs:List Rw)(sg most:Nat)(zs:List (List Nat))(gs:List PyData)(u v w x:Option A):Sg:=[some (.d (bH rs)),some (.d (.int (sg:Int))),some (.d (.int (most:Int))),some (.l (zs.map stD)),some (.m (eR (zs.map (aV rs)))),some (.l gs),u,v,w,x]
theorem aNU{sg:Nat}(s1:1<=sg)(a:sg<=3):(sgT sg).cps.toList=(List.range sg).map (97 + ·):=by
 rw[aEK s1 a]
 rcases (by omega:sg=1\/sg=2\/sg=3) with rfl|rfl|rfl<;>rfl
theorem aQY{rs:List Rw}{sg most:Nat}{zs:List (List Nat)}{gs:List PyData}{z:List Nat}{v w x:Option A}(M:Mach rs sg)(S:zs[gs.length]? = some z)(nd:(zs.map (aV rs)).Nodup)(V:∀ y∈zs,bC sg y)(Z:z.length < 900)(Q:zs.length<=1000) :
  ∃ v' w' x',jN (stN 7) wyF ((List.range sg).map fun k:Nat=>.str ⟨#[97+k]⟩) (wyρ rs sg most zs gs (some (.l [])) v w x)=.ok (.nx (wyρ rs sg most ((dH sg z).foldl (adZ rs) zs) gs (some (.l (((afW rs sg (aV rs z)).map (nrQ (((dH sg z).foldl (adZ rs) zs).map (aV rs)))).map fun j:Nat=>.int (j:Int)))) v' w' x')):=by
 have s3:=M.sg3
 have Sz:=V z (AL S)
 obtain ⟨X,Y,v',w',x',U⟩:=f6 (fs:=stN 7) (fb:=wyF) (d:=fun k:Nat=>PyData.str ⟨#[97+k]⟩) (xs:=List.range sg) (ρ:=wyρ rs sg most zs gs (some (.l [])) v w x)
  (fun i ρ=>∃ v' w' x',ρ=wyρ rs sg most (((dH sg z).take i).foldl (adZ rs) zs) gs (some (.l ((((dH sg z).take i).map fun y=>nrQ ((((dH sg z).take i).foldl (adZ rs) zs).map (aV rs)) (aV rs y)).map fun j:Nat=>.int (j:Int)))) v' w' x') ⟨v,w,x,rfl⟩ fun i k ρ hi D=>by
  obtain ⟨v',w',x',e⟩:=D
  have a:=(AI.mp hi).1
  rw[BC] at a
  rw[B1 a] at hi
  cases hi
  have g:(dH sg z)[i]? = some (z++[97+i]):=by unfold dH;rw[AH,B1 a];rfl
  have Sy:bC sg (z++[97+i]):=qX Sz a (by omega)
  have W:(dH sg z).take (i+1)=(dH sg z).take i++[z++[97+i]]:=by rw[DZ,g];rfl
  have I:∀ x∈((dH sg z).take i).foldl (adZ rs) zs,bC sg x:=fun x b=>by
   rcases adZs_mem _ b with h|h
   ·exact V x h
   ·obtain ⟨k,s,rfl⟩:=BA.mp (ED h)
    exact qX Sz (B3.mp s) (by omega)
  have r:∀ y∈(dH sg z).take i,aV rs y∈(((dH sg z).take i).foldl (adZ rs) zs).map (aV rs):=fun y g=>by
   rw[qY];exact nS _ (DN g)
  have C:((((dH sg z).take i).foldl (adZ rs) zs).map (aV rs)).Nodup:=by rw[qY];exact wP _ nd
  have P:(((dH sg z).take i).foldl (adZ rs) zs)[gs.length]? = some z:=u9 (aKH rs _ zs) S
  have O:(((dH sg z).take i).foldl (adZ rs) zs).length<=1003:=by
   have h1:=aEF (((dH sg z).take i).map (aV rs)) (zs.map (aV rs))
   rw[<-qY,AB,AB,AB,BF] at h1
   omega
  rw[W,C3,E5,List.foldl_nil]
  generalize hF:((dH sg z).take i).foldl (adZ rs) zs=F at *
  have o:((dH sg z).take i++[z++[97+i]]).map (fun y=>nrQ ((adZ rs F (z++[97+i])).map (aV rs)) (aV rs y))=((dH sg z).take i).map (fun y=>nrQ (F.map (aV rs)) (aV rs y))++[nrQ ((adZ rs F (z++[97+i])).map (aV rs)) (aV rs (z++[97+i]))]:=by
   rw[BK,DV]
   congr 1
   refine B0 fun y g=>?_
   rw[pS]
   exact tU (pR _ _) (r y g)
  rw[o]
  have H:=aH7 M (z:=⟨(z++[97+i]).toArray⟩) (by simpa using Sy)
  simp only[List.toList_toArray] at H
  have n:dIx (.list (F.map stD)) (.int (gs.length:Int))=.ok (stD z):=oV (dX (by rw[AH,P];rfl))
  have B:bL (stD z) (.str ⟨#[97+i]⟩)=.ok (.str ⟨(z++[97+i]).toArray⟩):=by
   unfold stD
   have N:z.length+1<=16777216:=by omega
   rw[aB3 (by show z.toArray.size+1<=16777216;rw[A4];exact N),show (⟨z.toArray⟩:Str)++(⟨#[97+i]⟩:Str)=⟨(z++[97+i]).toArray⟩ by
    show (⟨z.toArray ++ #[97+i]⟩:Str)=_
    simp]
  have s:∀ x∈F.map (aV rs),jF x=true:=fun x b=>by
   obtain ⟨y,g,rfl⟩:=BA.mp b
   exact oW M (I y g)
  have c:=oW M Sy
  have s1:=aCB c s
  have J:((adZ rs F (z++[97+i])).map (aV rs)).Nodup:=by rw[pS];exact aH8 C
  have m:=aEG J (y:=aV rs (z++[97+i])) (by rw[pS];exact tT _ _)
  have L:∀ x∈(adZ rs F (z++[97+i])).map (aV rs),jF x=true:=fun x b=>by
   rw[pS] at b
   by_cases q:aV rs (z++[97+i])∈F.map (aV rs)
   ·rw[pQ q] at b;exact s x b
   ·rw[nR q] at b
    rcases BR.mp b with h|h
    · exact s x h
    · rw [AV.mp h]; exact c
  have t:=aCB c L
  have u:(eR (F.map (aV rs))).length<=16777216:=by rw[x6,AB];omega
  have p:F.length < 16777216:=by omega
  have f:min i (dH sg z).length < 16777216:=by omega
  refine ⟨wyρ rs sg most F gs (some (.l ((((dH sg z).take i).map fun y=>nrQ (F.map (aV rs)) (aV rs y)).map fun j:Nat=>.int (j:Int)))) (some (.d (.str ⟨#[97+i]⟩))) w' x',_,by rw[e];simp[wyρ],.inl ?_,some (.d (.str ⟨#[97+i]⟩)),some (.d (.str ⟨(z++[97+i]).toArray⟩)),some (.d (aV rs (z++[97+i]))),rfl⟩
  by_cases q:aV rs (z++[97+i])∈F.map (aV rs)
  ·have E:=tS.mpr q
   have G:adZ rs F (z++[97+i])=F:=AD q
   rw[G] at t m ⊢
   simp only[wyF,wyρ,a8,iM,kB,fV,gR,eQ,qT,wH,lX,jS,gH,AQ,AK,R.bind_ok,gM,n,B,AY,A2,AW,A8,Nat.reduceAdd,CB,H,mZ,aD7,s1,E,lF,FR,BS,CH,aBR,xW,aBW,m,AB,BF,f]
   simp
  ·have E:=qV q
   have T:=yA q
   have G:adZ rs F (z++[97+i])=F++[z++[97+i]]:=AE q
   rw[G] at t m ⊢
   rw[AB] at T
   rw[BK,DV] at t m
   simp only[wyF,wyρ,a8,iM,kB,fV,gR,eQ,qT,wH,lX,jS,gH,AQ,AK,R.bind_ok,gM,n,B,AY,A2,AW,A8,Nat.reduceAdd,CB,H,mZ,aD7,s1,E,lF,Bool.not_false,aJ1,T,u,p,xW,aBW,t,m,AB,BF,f]
   simp[stD,p,t,m,f]
 have K:(dH sg z).take (List.range sg).length=dH sg z:=C8 (by unfold dH;simp)
 rw[K] at U
 refine ⟨v',w',x',?_⟩
 rw[Y,U,<-aCI M Sz]
 simp only[CC]
 rfl
theorem aNV{rs:List Rw}{sg most m:Nat}{gs:List PyData}{u v w x:Option A}(M:Mach rs sg)(t:m < 900)(s:gs.length=m)(o:m < (bfW rs sg m).length)(p:(bfW rs sg m).length<=900) :
  ∃ y u' v' w' x',(bfW rs sg m)[m]? = some y/\wyB (wyρ rs sg most (zsW rs sg m) gs u v w x)=if most < (bfW rs sg (m+1)).length then .ok (.rt (.d .none)) else .ok (.nx (wyρ rs sg most (zsW rs sg (m+1)) (gs++[o8 (afW rs sg) (bfW rs sg (m+1)) y]) u' v' w' x')):=by
 have Z:=lL M m (by omega)
 have n:=lL M (m+1) (by omega)
 have r:(zsW rs sg m).length=(bfW rs sg m).length:=by rw[<-Z.map,AB]
 have a:(zsW rs sg (m+1)).length=(bfW rs sg (m+1)).length:=by rw[<-n.map,AB]
 have c:(zsW rs sg m)[m]? = some (zsW rs sg m)[m]:=AN (by omega)
 generalize (zsW rs sg m)[m]=z at c
 have Sz:=Z.ok z (AL c)
 have e:(bfW rs sg m)[m]? = some (aV rs z):=by rw[<-Z.map,AH,c];rfl
 have e1:zsW rs sg (m+1)=(dH sg z).foldl (adZ rs) (zsW rs sg m):=by rw[zsW,c]
 obtain ⟨v',w',x',q⟩:=aQY (most:=most) (v:=v) (w:=w) (x:=x) M (by rw[s];exact c) (by rw[Z.map];exact aCD _ _ m) (fun y e=>(Z.ok y e).1) (by have:=Sz.2;omega) (by omega)
 rw[<-e1,n.map] at q
 have i:dSl (.str "abc") none (some (sg:Int))=.ok (.str (sgT sg)):=aR1 (by decide)
 have hi:cJ (.str (sgT sg))=.ok ((List.range sg).map fun k:Nat=>.str ⟨#[97+k]⟩):=by
  rw[u0 (by have:=aNN M.sg1 M.sg3;omega),aNU M.sg1 M.sg3,CC];rfl
 have f:((afW rs sg (aV rs z)).map (nrQ (bfW rs sg (m+1)))).length<=16777216:=by unfold afW;have:=M.sg3;simp;omega
 have g:gs.length < 16777216:=by omega
 refine ⟨aV rs z,some (.l (((afW rs sg (aV rs z)).map (nrQ (bfW rs sg (m+1)))).map fun j:Nat=>.int (j:Int))),v',w',x',e,?_⟩
 simp only[wyρ] at q
 have B:decide ((most:Int) < ((bfW rs sg (m+1)).length:Int))=decide (most < (bfW rs sg (m+1)).length):=by
  by_cases h:most < (bfW rs sg (m+1)).length
  · rw [A3 h, A3 (by omega)]
  · rw [A7 h, A7 (by omega)]
 have b:(afW rs sg (aV rs z)).length<=16777216:=by simpa using f
 simp only[wyB,wyρ,a8,iX,lW,gH,R.bind_ok,A8,CN,CB,AY,A2,jB,gR,aBT,fU,aBU,aBV,eQ,AQ,AK,i,hi,q,xW,aHV,g,mZ,fV,gM,AB,a]
 by_cases h:most < (bfW rs sg (m+1)).length
 ·have h':(most:Int) < ((bfW rs sg (m+1)).length:Int):=by omega
  rw[AD h]
  simp[h',a,b]
 ·have h':¬ (most:Int) < ((bfW rs sg (m+1)).length:Int):=by omega
  rw[AE h]
  simp[h',a,b,o8,g9]
theorem aNW{rs:List Rw}{sg most N:Nat}(M:Mach rs sg)(E:EndW rs sg most N)(Q:most<=800)(h1:1<=most)(P:N<=most):∀ (k m:Nat) (u v w x:Option A),m+k=N->((bfW rs sg m).length<=most)->
  (most < (bfW rs sg N).length/\aN (bS wyT wyB) wyE (wyρ rs sg most (zsW rs sg m) (cX (afW rs sg) (bfW rs sg m) m) u v w x)=.ok (.rt (.d .none))) \/
  ((bfW rs sg N).length<=most/\∃ u' v' w' x',aN (bS wyT wyB) wyE (wyρ rs sg most (zsW rs sg m) (cX (afW rs sg) (bfW rs sg m) m) u v w x)=wyE (wyρ rs sg most (zsW rs sg N) (cX (afW rs sg) (bfW rs sg N) N) u' v' w' x')):=by
 have I:∀ (m:Nat) (u v w x:Option A),m<=N->m<=(bfW rs sg m).length->wyT (wyρ rs sg most (zsW rs sg m) (cX (afW rs sg) (bfW rs sg m) m) u v w x)=.ok (decide (m < (bfW rs sg m).length)):=fun m u v w x g i=>by
  have Z:=lL M m (by omega)
  have F:(zsW rs sg m).length=(bfW rs sg m).length:=by rw[<-Z.map,AB]
  have p:(cX (afW rs sg) (bfW rs sg m) m).length=m:=by unfold cX;rw[AB,BF];omega
  simp only[wyT,wyρ,gR,fV,eQ,AQ,AK,R.bind_ok,gM,AB,F,p]
  simp
 have G:∀ m,m<=N->m<=(bfW rs sg m).length:=fun m h=>by
  cases m with
  | zero=>omega
  | succ n=>have a:=(E.on n (by omega)).1;have b:(bfW rs sg n).length<=(bfW rs sg (n+1)).length:=(jY _ _ n).length_le;omega
 intro k
 induction k with
 | zero=>
  intro m u v w x s i
  have s:m=N:=by omega
  subst s
  have O:=E.full i
  refine .inr ⟨i,u,v,w,x,?_⟩
  rw[a8,dC (by rw[I m u v w x (AG _) (by omega),A7 (by omega)])]
  rfl
 | succ k ih=>
  intro m u v w x s i
  have f:m < N:=by omega
  have D:=G m (by omega)
  have p:(cX (afW rs sg) (bfW rs sg m) m).length=m:=by unfold cX;rw[AB,BF];omega
  obtain ⟨y,u',v',w',x',l,q⟩:=aNV (most:=most) (u:=u) (v:=v) (w:=w) (x:=x) M (by omega) p (E.on m f).1 (by omega)
  have H:wyT (wyρ rs sg most (zsW rs sg m) (cX (afW rs sg) (bfW rs sg m) m) u v w x)=.ok true:=by rw[I m u v w x (by omega) D,A3 (E.on m f).1]
  by_cases c:most < (bfW rs sg (m+1)).length
  ·rw[AD c] at q
   have g:m+1=N:=by
    rcases GQ (m+1) N with h|h
    ·have:=(E.on _ h).2;omega
    ·omega
   rw[g] at c
   refine .inl ⟨c,?_⟩
   rw[a8,jU H q];rfl
  ·rw[AE c] at q
   have e:cX (afW rs sg) (bfW rs sg m) m++[o8 (afW rs sg) (bfW rs sg (m+1)) y]=cX (afW rs sg) (bfW rs sg (m+1)) (m+1):=by
    unfold cX bfW at *
    have C:(bfQ (afW rs sg) (aV rs []) (m+1)).take (m+1)=(bfQ (afW rs sg) (aV rs []) m).take m++[y]:=by
     obtain ⟨t,L⟩:=jY (afW rs sg) (aV rs []) m
     have K:=(AI.mp l).1
     rw[<-L,FC (by omega),DZ,l];rfl
    rw[C,BK,DV]
    congr 1
    refine B0 fun y l=>?_
    unfold o8
    congr 1
    refine B0 fun z J=>?_
    obtain ⟨j,B⟩:=EC l
    have r:j < m:=by
     have:=(AI.mp B).1
     rw[BF] at this;omega
    rw[FG,AD r] at B
    refine (tU (jY (afW rs sg) (aV rs []) m) ?_).symm
    have o:(bfQ (afW rs sg) (aV rs []) j)[j]? = some y:=sN (l9 (by omega)) ((E.on j (by omega)).1) B
    have:=nS (fs:=bfQ (afW rs sg) (aV rs []) j) _ J
    rw[<-oH o] at this
    exact (l9 (by omega)).subset this
   rw[e] at q
   have:=ih (m+1) u' v' w' x' (by omega) (by omega)
   rw[a8,eY H q]
   rw[a8] at this
   exact this
noncomputable def jI(rs:List Rw)(sg N:Nat):PyData:=.tuple [.list ((zsW rs sg N).map stD),.tuple (cX (afW rs sg) (bfW rs sg N) N),.tuple ((zsW rs sg N).map fun z=>.str (gB rs z))]
theorem aQZ{rs:List Rw}{sg most N:Nat}(M:Mach rs sg)(E:EndW rs sg most N)(D:most<=800)(h1:1<=most)(B:N<=most):cW [.d (bH rs),.d (.int (sg:Int)),.d (.int (most:Int))]=if most < (bfW rs sg N).length then .ok (.d .none) else .ok (.d (jI rs sg N)):=by
 have n:=aNW M E D h1 B N 0 none none none none (by omega) (by show 1<=most;exact h1)
 have k:=aH7 M (z:="") ⟨by show 0<=1000;omega,fun c o=>nomatch o⟩
 have k:d7 [.d (bH rs),.d (.str "")]=.ok (.d (aV rs [])):=k
 have C:=oW M (z:=[]) ⟨by simp,fun c o=>by simp at o⟩
 have F:cI (aV rs []) []=true:=by unfold cI;rw[C];rfl
 have s:Fl.iL [] [(aV rs [],.int 0)]=.ok [(aV rs [],.int 0)]:=by simp[Fl.iL,F,putM,dM,fZ]
 have run:∀ r,aN (bS wyT wyB) wyE (wyρ rs sg most (zsW rs sg 0) (cX (afW rs sg) (bfW rs sg 0) 0) none none none none)=r->cW [.d (bH rs),.d (.int (sg:Int)),.d (.int (most:Int))]=match r with | .bad=>.bad | .ex e=>.ex e | .ok (.rt (.l _))=>.bad | .ok (.rt a)=>.ok a | .ok (.nx _)=>.ok (.d .none) | .ok _=>.bad:=fun r h=>by
  have h:aN (bS wyT wyB) wyE [some (.d (bH rs)),some (.d (.int (sg:Int))),some (.d (.int (most:Int))),some (.l [.str ""]),some (.m [(aV rs [],.int 0)]),some (.l []),none,none,none,none]=r:=h
  unfold cW
  rw[o7]
  simp only[f9,a8,iX,lW,jS,gH,fU,aJ9,aKA,aNG,aFP,lX,qT,kB,R.bind_ok,AW,A8,Nat.reduceAdd,Nat.reduceSub,AT,BD,BO,BL,List.replicate,AQ,AK,CB,AY,A2,k,aBQ,s,Nat.reduceLeDiff,CN]
  rw[a8] at h
  rw[h]
  cases r with
  | bad=>rfl
  | ex e=>rfl
  | ok w=>
   cases w with
   | rt a=>cases a<;>rfl
   | _=>rfl
 rcases n with ⟨b,q⟩|⟨t,u,v,w,x,q⟩
 ·rw[AD b,run _ q]
 ·have Z:=lL M N (by omega)
  have y:(zsW rs sg N).length=(bfW rs sg N).length:=by rw[<-Z.map,AB]
  rw[AE (by omega)]
  have j:=fF (fs:=stN 0) (fe:=eA (aW 2 eN (aA (vV 1) (aA (vV 0) aM)))) (ρ0:=[none,some (.d (bH rs))]) (d:=stD) (g:=fun z=>.str (gB rs z)) (xs:=zsW rs sg N) fun z p=>by
   refine ⟨_,rfl,?_⟩
   have:=aH1 M (z:=⟨z.toArray⟩) (by simpa using (Z.ok z p).1)
   simp only[List.toList_toArray] at this
   simp[stD,this]
  have i:=kM (xs:=(zsW rs sg N).map stD) (by simp;omega)
  have A:(cX (afW rs sg) (bfW rs sg N) N).length<=16777216:=by unfold cX;rw[AB,BF];omega
  have f:(zsW rs sg N).length<=16777216:=by omega
  have:wyE (wyρ rs sg most (zsW rs sg N) (cX (afW rs sg) (bfW rs sg N) N) u v w x)=.ok (.rt (.d (jI rs sg N))):=by
   simp[wyE,wyρ,i,gL,j,aHV,f,jI]
  rw[run _ (q.trans this)]
theorem aNX{rs:List Rw}{sg:Nat}(M:Mach rs sg)(h1:rs.length=1)(xs:List PyData)(nd:xs.Nodup)(h:∀ x∈xs,∃ z,bC sg z/\x=aV rs z):xs.length<=16:=by
 classical
 have k:∀ z,bC sg z->tnB 1 (eM rs z (0,0)):=fun z S=>h1▸aEJ M S (qU M z)
 have g:∀ z,bC sg z->tnB 1 (d8 rs z ((0:Nat):Int)):=fun z S=>h1▸aEJ M S (wO (by omega))
 let code:List Nat->Nat:=fun z=>tc 1 (eM rs z (0,0)) * 4+tc 1 (d8 rs z ((0:Nat):Int))
 let f:PyData->Nat:=fun x=>if h:∃ z,bC sg z/\x=aV rs z then code h.choose else 0
 have j:∀ x∈xs,∃ z,bC sg z/\x=aV rs z/\f x=code z:=fun x d=>⟨(h x d).choose,(h x d).choose_spec.1,(h x d).choose_spec.2,dif_pos (h x d)⟩
 refine rQ f 16 xs nd (fun x d=>?_) (fun a o b m e=>?_)
 ·obtain ⟨z,S,_,e⟩:=j x d
  rw[e]
  have:=z4 (k z S)
  have:=z4 (g z S)
  show tc 1 (eM rs z (0,0)) * 4+tc 1 (d8 rs z ((0:Nat):Int)) < 16
  omega
 ·obtain ⟨z,S,e1,e2⟩:=j a o
  obtain ⟨c,i,l,n⟩:=j b m
  rw[e1,l]
  rw[e2,n] at e
  have e:tc 1 (eM rs z (0,0)) * 4+tc 1 (d8 rs z ((0:Nat):Int))=tc 1 (eM rs c (0,0)) * 4+tc 1 (d8 rs c ((0:Nat):Int)):=e
  have s:=z4 (g z S)
  have r:=z4 (g c i)
  have e0:tc 1 (eM rs z (0,0))=tc 1 (eM rs c (0,0)):=by omega
  have e1:tc 1 (d8 rs z ((0:Nat):Int))=tc 1 (d8 rs c ((0:Nat):Int)):=by omega
  refine aKG (aIF (k z S) (k c i) e0) fun q p=>?_
  have:q=0:=by omega
  subst this
  exact aIF (g z S) (g c i) e1
noncomputable def smT:Sg->R Bool:=(e1 asB (e2 dIs (rV 5) (eC .none)))
noncomputable def smB:Sg->R Fw:=(aN (bN 3 (vD (e2 dSub (rV 3) (eC (.int 1)))))
 (aN (bN 4 (aW 4 eH (aA (vV 0) (aA (vD (e2 bL (rV 1) (eC (.int 2)))) (aA (vV 3) (aA (vV 2) aM))))))
 (bN 5 (aW 3 cW (aA (vV 4) (aA (vV 2) (aA (vD (eC (.int 40))) aM)))))))
theorem aQ0:oG=(aN (bN 2 (vD (e2 bL (eC (.int 1)) (e2 dMod (eA (aW 2 bD (aA (vV 0) (aA (vV 1) aM)))) (eC (.int 2))))))
 (aN (bN 3 (vD (e2 bL (eC (.int 1)) (e2 dMod (eA (aW 2 bD (aA (vV 0) (aA (vD (e2 bL (rV 1) (eC (.int 1)))) aM)))) (e2 dIx (eL (eJ (aA (eC (.int 5)) (aA (eC (.int 3)) aM)))) (e2 dSub (rV 2) (eC (.int 1))))))))
 (aN (bN 4 (aW 4 eH (aA (vV 0) (aA (vD (e2 bL (rV 1) (eC (.int 2)))) (aA (vV 3) (aA (vV 2) aM))))))
 (aN (bN 5 (aW 3 cW (aA (vV 4) (aA (vV 2) (aA (vD (eC (.int 40))) aM)))))
 (aN (bS smT smB)
 (bX (vD (d3 (aA (eV 4) (aA (eV 5) aM)))))))))):=id rfl
structure Sml(rs:List Rw)(sg N:Nat):Prop where
 m:Mach rs sg
 e:EndW rs sg 40 N
 n:N<=40
 few:(bfW rs sg N).length<=40
 s2:sg<=2
 r5:rs.length<=5
theorem ways40{rs:List Rw}{sg:Nat}(M:Mach rs sg)(c:sg<=2)(b:rs.length<=5):(cW [.d (bH rs),.d (.int (sg:Int)),.d (.int 40)]=.ok (.d .none)/\rs.length≠1)\/∃ N,cW [.d (bH rs),.d (.int (sg:Int)),.d (.int 40)]=.ok (.d (jI rs sg N))/\Sml rs sg N:=by
 obtain ⟨N,a,E⟩:=aNS rs sg 40
 have h:=aQZ M E (by decide) (by decide) a
 have h:cW [.d (bH rs),.d (.int (sg:Int)),.d (.int 40)]=_:=h
 by_cases q:40 < (bfW rs sg N).length
 ·rw[AD q] at h
  refine .inl ⟨h,fun h1=>?_⟩
  have:(bfW rs sg N).length<=16:=aNX M h1 (bfW rs sg N) (aCD _ _ _) fun x e=>sO M (n:=N) (by omega) e
  omega
 ·rw[AE q] at h
  exact .inr ⟨N,h,M,E,a,by omega,c,b⟩
theorem aNY{ns:List Int}{at' sg:Nat}(s1:1<=sg)(j:sg<=2):∀ (n:Nat) (rs:List Rw) (y:PyData),1<=n->n<=5->Mach rs sg->rs.length=n->cW [.d (bH rs),.d (.int (sg:Int)),.d (.int 40)]=.ok (.d y)->
  ∃ rs' N,aN (bS smT smB) (bX (vD (d3 (aA (eV 4) (aA (eV 5) aM))))) [some (.d (eK ns)),some (.d (.int (at':Int))),some (.d (.int (sg:Int))),some (.d (.int (n:Int))),some (.d (bH rs)),some (.d y)]=.ok (.rt (.d (.tuple [bH rs',jI rs' sg N])))/\Sml rs' sg N:=by
 intro n
 induction n with
 | zero=>intro rs y h;omega
 | succ n ih=>
  intro rs y h1 p M q c
  rcases ways40 M j (by omega) with ⟨e,m⟩|⟨N,e,S⟩
  ·rw[e] at c
   cases c
   have g:smT [some (.d (eK ns)),some (.d (.int (at':Int))),some (.d (.int (sg:Int))),some (.d (.int ((n+1:Nat):Int))),some (.d (bH rs)),some (.d .none)]=.ok true:=by
    simp[smT,hU]
   obtain ⟨a,e2,M2,o⟩:=aHZ (ns:=ns) (at':=(at':Int)+2) (n:=n) (sg:=sg) (by omega) (by omega) (by omega) s1 (by omega)
   obtain ⟨f,b⟩:∃ f,cW [.d (bH a),.d (.int (sg:Int)),.d (.int 40)]=.ok (.d f):=by
    rcases ways40 M2 j (by omega) with ⟨e,_⟩|⟨N,e,_⟩
    · exact ⟨_, e⟩
    · exact ⟨_, e⟩
   have k:smB [some (.d (eK ns)),some (.d (.int (at':Int))),some (.d (.int (sg:Int))),some (.d (.int ((n+1:Nat):Int))),some (.d (bH rs)),some (.d .none)]=.ok (.nx [some (.d (eK ns)),some (.d (.int (at':Int))),some (.d (.int (sg:Int))),some (.d (.int (n:Int))),some (.d (bH a)),some (.d f)]):=by
    have l:((n+1:Nat):Int) - 1=(n:Int):=by omega
    simp only[smB,a8,iM,kB,fV,eQ,fU,AK,AQ,R.bind_ok,sI,l,A2,AY,lX,jS,gH,qT,lH,AW,A8,Nat.reduceAdd,CB,e2,b]
   obtain ⟨rs',N,i,S⟩:=ih a f (by omega) (by omega) M2 o b
   refine ⟨rs',N,?_,S⟩
   rw[a8] at i ⊢
   rw[eY g k]
   exact i
  ·rw[e] at c
   cases c
   refine ⟨rs,N,?_,S⟩
   have g:smT [some (.d (eK ns)),some (.d (.int (at':Int))),some (.d (.int (sg:Int))),some (.d (.int ((n+1:Nat):Int))),some (.d (bH rs)),some (.d (jI rs sg N))]=.ok false:=by
    simp[smT,hU,jI]
   rw[a8,dC g]
   simp
theorem aNZ(ns:List Int)(at':Nat):∃ rs sg N,gN [.d (eK ns),.d (.int (at':Int))]=.ok (.d (.tuple [bH rs,jI rs sg N]))/\Sml rs sg N:=by
 obtain ⟨f,j⟩:=pO ns (at':Int)
 obtain ⟨a,h⟩:=pO ns ((at':Int)+1)
 have k2:dMod (.int f) (.int 2)=.ok (.int (f % 2)):=dB (by decide)
 obtain ⟨sg,s,s1,k⟩:∃ sg:Nat,1+f % 2=(sg:Int)/\1<=sg/\sg<=2:=⟨(1+f % 2).toNat,by omega,by omega,by omega⟩
 obtain ⟨m,r,u,v⟩:∃ m:Int,dIx (.list [.int 5,.int 3]) (.int ((sg:Int) - 1))=.ok (.int m)/\1<=m/\m<=5:=by
  have:sg=1\/sg=2:=by omega
  rcases this with rfl|rfl
  · exact ⟨5, rfl, by decide, by decide⟩
  · exact ⟨3, rfl, by decide, by decide⟩
 have k3:dMod (.int a) (.int m)=.ok (.int (a % m)):=dB (by omega)
 have w:=CS a (show m≠0 by omega)
 have x:=CG a (show 0 < m by omega)
 obtain ⟨n,q,o,t⟩:∃ n:Nat,1+a % m=(n:Int)/\1<=n/\n<=5:=⟨(1+a % m).toNat,by omega,by omega,by omega⟩
 obtain ⟨c,e2,M2,p⟩:=aHZ (ns:=ns) (at':=(at':Int)+2) (n:=n) (sg:=sg) (by omega) (by omega) (by omega) s1 (by omega)
 obtain ⟨g,b⟩:∃ g,cW [.d (bH c),.d (.int (sg:Int)),.d (.int 40)]=.ok (.d g):=by
  rcases ways40 M2 k (by omega) with ⟨e,_⟩|⟨N,e,_⟩
  · exact ⟨_, e⟩
  · exact ⟨_, e⟩
 obtain ⟨i,N,l,S⟩:=aNY (ns:=ns) (at':=at') s1 k n c g o t M2 p b
 refine ⟨i,sg,N,?_,S⟩
 unfold gN
 rw[aQ0]
 generalize aN (bS smT smB) (bX (vD (d3 (aA (eV 4) (aA (eV 5) aM)))))=W at *
 simp[j,h,k2,s,r,k3,q,e2,b,l]
section
variable{rs:List Rw}{sg N:Nat}
structure Wy(rs:List Rw)(sg N:Nat):Prop where
 m:Mach rs sg
 len:(bfW rs sg N).length=N
 n:N<=200
noncomputable def a9(rs:List Rw)(sg N:Nat):List (List Nat):=(bfW rs sg N).map fun x=>(afW rs sg x).map (nrQ (bfW rs sg N))
noncomputable def bV(rs:List Rw)(sg N:Nat):List Str:=(zsW rs sg N).map (gB rs)
theorem Sml.wy(S:Sml rs sg N):Wy rs sg N:=⟨S.m,S.e.full S.few,by have:=S.n;omega⟩
theorem aII(W:Wy rs sg N):aCJ rs sg N=rdW (a9 rs sg N) (bV rs sg N):=by
 unfold aCJ rdW rdD cX a9 bV o8
 rw[C8 (by rw[W.len];exact AG _),CC,CC]
 rfl
theorem aTE(W:Wy rs sg N)(E:EndW rs sg 200 N):iP [.d (bH rs)]=.ok (.d (rdW (a9 rs sg N) (bV rs sg N))):=by
 have h:=aQX W.m E W.n
 rw[AE (by have:=W.len;have:=W.n;omega),aII W] at h
 exact h
theorem Wy.pos(W:Wy rs sg N):0 < N:=by
 have:=W.len
 cases N with
 | zero=>simp[bfW,bfQ] at this
 | succ n=>omega
theorem Wy.zlen(W:Wy rs sg N):(zsW rs sg N).length=N:=by
 have h:=(lL W.m N (by have:=W.n;omega)).map
 have:=EA List.length h
 rw[AB,W.len] at this
 exact this
theorem Wy.at_(W:Wy rs sg N){i:Nat}(hi:i < N):∃ z,(zsW rs sg N)[i]? = some z/\(bfW rs sg N)[i]? = some (aV rs z)/\bC sg z/\z.length<=N:=by
 have ok:=lL W.m N (by have:=W.n;omega)
 have b:=W.zlen
 have a:(zsW rs sg N)[i]? = some (zsW rs sg N)[i]:=AN (by omega)
 refine ⟨_,a,?_,ok.ok _ (EW _)⟩
 rw[<-ok.map,AH,a];rfl
theorem Wy.rows_len(W:Wy rs sg N):(a9 rs sg N).length=N:=by unfold a9;rw[AB,W.len]
theorem Wy.on(W:Wy rs sg N){i c:Nat}{z:List Nat}(hi:(bfW rs sg N)[i]? = some (aV rs z))(S:bC sg z)(j:z.length < 1000)(g:cH sg c=true) :
  mB (a9 rs sg N) i c < N/\(bfW rs sg N)[mB (a9 rs sg N) i c]? = some (aV rs (z++[c])):=by
 obtain ⟨h,d⟩:=aIG g
 have a:=yE W.m S (k:=c - 97) d
 rw[show 97+(c - 97)=c by omega] at a
 have f:aV rs (z++[c])∈bfW rs sg N:=aIH (by have:=W.len;unfold bfW at this;omega) (AL hi) (by
  unfold afW
  exact BA.mpr ⟨c - 97,B3.mpr d,a⟩)
 have e:mB (a9 rs sg N) i c=nrQ (bfW rs sg N) (aV rs (z++[c])):=by
  unfold mB a9
  rw[A5 (l:=List.map _ _),AH,hi]
  show ((afW rs sg (aV rs z)).map (nrQ (bfW rs sg N))).getD (c - 97) 0=_
  unfold afW
  rw[A5,AH,AH,B1 d]
  show nrQ (bfW rs sg N) (aCH rs (aV rs z) (c - 97))=_
  rw[a]
 have b:=aCC f
 rw[e]
 exact ⟨by have:=(AI.mp b).1;have:=W.len;omega,b⟩
theorem aC1(M:Mach rs sg){z b:List Nat}(S:bC sg z)(c:bC sg b)(h:aV rs z=aV rs b):gB rs z=gB rs b:=by
 have a:=wR M S
 rw[h,wR M c] at a
 injection a with a
 exact a.symm
theorem Wy.word(W:Wy rs sg N){i:Nat}{z:List Nat}(hi:(bfW rs sg N)[i]? = some (aV rs z))(S:bC sg z):(bV rs sg N).getD i ""=gB rs z:=by
 have a:=(AI.mp hi).1
 rw[W.len] at a
 obtain ⟨c,h1,h2,b,_⟩:=W.at_ a
 rw[hi] at h2
 unfold bV
 rw[A5,AH,h1]
 exact aC1 W.m b S (BP h2).symm
theorem Wy.run(W:Wy rs sg N):∀ (y:List Nat) {i:Nat} {z:List Nat},(bfW rs sg N)[i]? = some (aV rs z)->bC sg (z++y)->(bfW rs sg N)[runN (a9 rs sg N) i y]? = some (aV rs (z++y))
 | [],i,z,hi,_=>by rw[B9];exact hi
 | c::t,i,z,hi,S=>by
  have hc:cH sg c=true:=S.2 c (by simp)
  have b:z.length < 1000:=by have:=S.1;simp at this;omega
  have Sz:bC sg z:=⟨by omega,fun d a=>S.2 d (DF _ a)⟩
  have h:=(W.on hi Sz b hc).2
  have e:z++c::t=(z++[c])++t:=by simp
  rw[e] at S ⊢
  exact W.run t h S
theorem Wy.says(W:Wy rs sg N){z:List Nat}(S:bC sg z):(bV rs sg N).getD (runN (a9 rs sg N) 0 z) ""=gB rs z:=by
 have a:(bfW rs sg N)[0]? = some (aV rs []):=aCE _ _ _
 have:=W.run z a S
 exact W.word this S
theorem Wy.rdw(W:Wy rs sg N):Rdw (a9 rs sg N) (bV rs sg N) sg:=by
 have s1:=W.m.sg1
 have i:=W.m.sg3
 have n:=W.n
 have k:=W.pos
 have a:=W.rows_len
 refine ⟨⟨by omega,by omega,by omega,by omega,fun r c=>?_⟩,?_,fun w b=>?_⟩
 ·unfold a9 at c
  obtain ⟨x,h,rfl⟩:=BA.mp c
  refine ⟨by rw[AB];unfold afW;rw[AB,BC],fun j e=>?_⟩
  obtain ⟨y,f,rfl⟩:=BA.mp e
  have g:y∈bfW rs sg N:=aIH (by have:=W.len;unfold bfW at this;omega) h f
  have:=(AI.mp (aCC g)).1
  have:=W.len
  omega
 ·unfold bV;rw[AB,W.zlen,a]
 ·unfold bV at b
  obtain ⟨z,d,rfl⟩:=BA.mp b
  exact aKB W.m ((lL W.m N (by omega)).ok z d).1
end
section
variable{rows:List (List Nat)}{ws:List Str}{sg:Nat}
theorem aFV(M:Rdr rows sg){wd:List PyData}{q:Nat}(n:q < rows.length){z:List Nat}(h:Sgs sg z)(C:z.length<=1000):fH [.d (rdD rows wd),.d (.int (q:Int)),.d (stD z)]=.ok (.d (.int (runN rows q z:Int))):=by
 have g:cJ (stD z)=.ok (z.map fun u:Nat=>PyData.str ⟨#[u]⟩):=by
  have:=u0 (z:=⟨z.toArray⟩) (by simpa using (by omega:z.length<=16777216))
  simpa[stD] using this
 obtain ⟨w,j,u,rfl⟩:=f6 (fs:=stN 3) (fb:=(bN 1 (vD (e2 dIx (e2 dIx (e2 dIx (rV 0) (eC (.int 0))) (rV 1)) (e2 mY (eC (.str "abc")) (rV 3)))))) (d:=fun u:Nat=>PyData.str ⟨#[u]⟩) (xs:=z) (ρ:=[some (.d (rdD rows wd)),some (.d (.int (q:Int))),some (.d (stD z)),none])
  (fun i ρ=>∃ u,ρ=[some (.d (rdD rows wd)),some (.d (.int (runN rows q (z.take i):Int))),some (.d (stD z)),u]) ⟨none,rfl⟩ fun i c ρ l b=>by
  obtain ⟨u,e⟩:=b
  have f:=AL l
  have k:=h c f
  have a:runN rows q (z.take i) < rows.length:=jC M _ (fun x o=>h x (ED o)) n
  obtain ⟨p,B⟩:=yF M a k
  obtain ⟨t,_⟩:=M.at a
  have r:z.take (i+1)=z.take i++[c]:=by rw[List.take_succ,l];rfl
  have v:runN rows q (z.take (i+1))=mB rows (runN rows q (z.take i)) c:=by unfold runN;rw[r,C3];rfl
  have A:dIx (rdD rows wd) (.int 0)=.ok (.tuple (rows.map g9)):=rfl
  have y:dIx (.tuple (rows.map g9)) (.int (runN rows q (z.take i):Int))=.ok (g9 (rows.getD (runN rows q (z.take i)) [])):=hV (dX (by rw[AH,t];rfl))
  have m:dIx (g9 (rows.getD (runN rows q (z.take i)) [])) (.int ((c - 97:Nat):Int))=.ok (.int (mB rows (runN rows q (z.take i)) c:Int)):=hV (dX (by rw[AH,p];rfl))
  have id:=xX (u1 M.s3 k)
  refine ⟨[some (.d (rdD rows wd)),some (.d (.int (runN rows q (z.take i):Int))),some (.d (stD z)),some (.d (.str ⟨#[c]⟩))],_,by rw[e];rfl,.inl ?_,some (.d (.str ⟨#[c]⟩)),rfl⟩
  rw[v]
  generalize rows.getD (runN rows q (z.take i)) []=s at *
  simp[A,y,m,id]
 rw[DL] at j
 unfold fH o4
 simp[g,j]
def itR(rows:List (List Nat))(q:Nat)(z:List Nat):Nat->Nat
 | 0=>q
 | k+1=>runN rows (itR rows q z k) z
theorem pT(M:Rdr rows sg){q:Nat}(hq:q < rows.length){z:List Nat}(hz:Sgs sg z):∀ k,itR rows q z k < rows.length
 | 0=>hq
 | k+1=>jC M z hz (pT M hq hz k)
theorem aEM(rows:List (List Nat))(q:Nat)(z:List Nat):∀ k,itR rows q z k=runN rows q (List.replicate k z).flatten
 | 0=>rfl
 | k+1=>by
  rw[itR,aEM rows q z k,List.replicate_succ',List.flatten_concat]
  unfold runN
  rw[C3]
theorem aN0{q:Nat}{z:List Nat}{s m:Nat}(h:itR rows q z m=itR rows q z s)(b:s<=m):∀ k,s<=k->itR rows q z (k+(m - s))=itR rows q z k:=by
 intro k c
 induction k with
 | zero=>
  have:s=0:=by omega
  subst this
  simpa using h
 | succ k ih=>
  by_cases a:s<=k
  ·rw[show k+1+(m - s)=(k+(m - s))+1 by omega,itR,itR,ih a]
  ·have:s=k+1:=by omega
   subst this
   rw[show k+1+(m - (k+1))=m by omega]
   exact h
noncomputable def psN(rows:List (List Nat))(q:Nat)(z:List Nat)(m:Nat):List PyData:=(List.range m).map fun k=>.int (itR rows q z k:Int)
noncomputable def rpρ(rows:List (List Nat))(wd:List PyData)(q:Nat)(z:List Nat)(m:Nat):Sg:=[some (.d (rdD rows wd)),some (.d (.int (itR rows q z m:Int))),some (.d (stD z)),some (.m (eR (psN rows q z m)))]
@[simp] theorem aSF(i:Nat)(ρ:Sg):wG i ρ=match ρ[i]? with
 | some (some (.m kvs))=>if kvs.length<=16777216 then .ok (.int (kvs.length:Int)) else .bad
 | some (some (.f kvs))=>if kvs.length<=16777216 then .ok (.int (kvs.length:Int)) else .bad
 | _=>.bad:=id rfl
@[simp] theorem aSG(i:Nat)(ρ:Sg):wK i ρ=match ρ[i]? with
 | some (some (.m kvs))=>if kvs.length<=16777216 then .ok (kvs.map (·.1)) else .bad
 | _=>.bad:=id rfl
theorem aQ1{q:Nat}{z:List Nat}{m:Nat}:∀ x∈psN rows q z m,∃ i:Int,x=.int i:=fun x a=>by
 obtain ⟨k,_,rfl⟩:=BA.mp a
 exact ⟨_,rfl⟩
theorem aIJ{fs:List PyData}{i:Int}(h:∀ y∈fs,∃ j:Int,y=.int j):cI (.int i) ((eR fs).map (·.1))=true:=by
 rw[l8]
 unfold cI
 rw[CT,AU,AU]
 exact .inr ⟨rfl,BW.mpr fun y a=>by obtain ⟨j,rfl⟩:=h y a;rfl⟩
theorem aN1(M:Rdr rows sg){wd:List PyData}{q:Nat}(B:q < rows.length){z:List Nat}(u:Sgs sg z)(F:z.length<=1000):∀ (n m:Nat),(psN rows q z m).Nodup->rows.length+1<=m+n->
  ∃ m' s,s < m'/\m'<=rows.length/\itR rows q z m'=itR rows q z s/\aN (bS rpT rpB) rpR (rpρ rows wd q z m)=.ok (.rt (.d (.tuple [.list (psN rows q z m'),.int (s:Int)]))):=by
 have few:∀ m,(psN rows q z m).Nodup->m<=rows.length:=fun m l=>by
  have:=aNO (n:=rows.length) l fun x G=>by
   obtain ⟨k,_,rfl⟩:=BA.mp G
   exact ⟨itR rows q z k,pT M B u k,rfl⟩
  simpa[psN] using this
 intro n
 induction n with
 | zero=>
  intro m l L
  have:=few m l
  omega
 | succ n ih=>
  intro m l L
  have v:=few m l
  have N:=M.n2
  have p:(psN rows q z m).length=m:=by unfold psN;rw[AB,BC]
  have g:=aIJ (fs:=psN rows q z m) (i:=(itR rows q z m:Int)) aQ1
  have r:(eR (psN rows q z m)).length=m:=by rw[x6,p]
  by_cases f:PyData.int (itR rows q z m:Int)∈psN rows q z m
  ·obtain ⟨s,K,t⟩:=aEE f
   have C:s < m:=by have:=(AI.mp t).1;omega
   have es:itR rows q z m=itR rows q z s:=by
    unfold psN at t
    rw[AH,B1 C] at t
    have:=BP t
    injection this with this
    omega
   refine ⟨m,s,C,v,es,?_⟩
   have y:rpT (rpρ rows wd q z m)=.ok false:=by
    have:=tS.mpr f
    generalize j:eR (psN rows q z m)=I at *
    simp[rpT,rpρ,j,g,this]
   have A:=l8 (psN rows q z m)
   have h:m<=16777216:=by omega
   rw[a8,dC y]
   unfold rpρ
   generalize j:eR (psN rows q z m)=I at *
   generalize psN rows q z m=P at *
   rw[A] at g
   simp[rpR,r,h,A,g,K]
  ·have y:rpT (rpρ rows wd q z m)=.ok true:=by
    have:=qV f
    generalize j:eR (psN rows q z m)=I at *
    simp[rpT,rpρ,j,g,this]
   have c:=yA f
   rw[p] at c
   have o:psN rows q z m++[.int (itR rows q z m:Int)]=psN rows q z (m+1):=by unfold psN;rw[List.range_succ,BK];rfl
   rw[o] at c
   have w:=aFV M (wd:=wd) (pT M B u m) u F
   have h:m<=16777216:=by omega
   have H:rpB (rpρ rows wd q z m)=.ok (.nx (rpρ rows wd q z (m+1))):=by
    show _=R.ok (Fw.nx [some (.d (rdD rows wd)),some (.d (.int (runN rows (itR rows q z m) z:Int))),some (.d (stD z)),some (.m (eR (psN rows q z (m+1))))])
    rw[<-c]
    generalize j:eR (psN rows q z m)=I at *
    simp[rpB,rpρ,j,r,h,g,w]
   obtain ⟨m',s,h1,h2,J,D⟩:=ih (m+1) (by
    rw[<-o]
    exact C2.mpr ⟨l,by simp,fun a O b E e=>by rw[AV.mp E] at e;subst e;exact f O⟩) (by omega)
   refine ⟨m',s,h1,h2,J,?_⟩
   rw[a8] at D ⊢
   rw[eY y H]
   exact D
theorem aN2(M:Rdr rows sg){wd:List PyData}{q:Nat}(g:q < rows.length){z:List Nat}(b:Sgs sg z)(f:z.length<=1000) :
  ∃ m s,s < m/\m<=rows.length/\itR rows q z m=itR rows q z s/\iO [.d (rdD rows wd),.d (.int (q:Int)),.d (stD z)]=.ok (.d (.tuple [.list (psN rows q z m),.int (s:Int)])):=by
 obtain ⟨m,s,h1,h2,c,a⟩:=aN1 M (wd:=wd) g b f (rows.length+1) 0 (by unfold psN;exact D1) (by omega)
 refine ⟨m,s,h1,h2,c,?_⟩
 unfold iO
 rw[l6]
 simp only[f9,a8,oC,R.bind_ok,AT,BD,BO,BL,AW,A8,List.replicate,Nat.reduceAdd,Nat.reduceSub,AY,A2]
 rw[a8] at a
 have e:rpρ rows wd q z 0=[some (.d (rdD rows wd)),some (.d (.int (q:Int))),some (.d (stD z)),some (.m [])]:=rfl
 rw[e] at a
 rw[a];rfl
end
structure Canon(W:Nat->Str)(st l:Nat):Prop where
 l1:1<=l
 per:∀ k,st<=k->W (k+l)=W k
 least:∀ l',1<=l'->(∃ t,∀ k,t<=k->W (k+l')=W k)->l<=l'
 first:st=0\/W (st - 1)≠W (st - 1+l)
section
variable{W:Nat->Str}{s p:Nat}
theorem pU(hp:∀ k,s<=k->W (k+p)=W k):∀ (n k:Nat),s<=k->W (k+n * p)=W k
 | 0,k,_=>by rw[Nat.zero_mul];rfl
 | n+1,k,hk=>by
  rw[show k+(n+1) * p=(k+n * p)+p by rw[Nat.add_mul];omega,hp _ (by omega),pU hp n k hk]
theorem aEN(a:∀ k,s<=k->W (k+p)=W k)(p1:1<=p){l:Nat}(h:∀ i,i < p->W (s+i+l)=W (s+i)):∀ k,s<=k->W (k+l)=W k:=fun k c=>by
 have e:k=s+(k - s) % p+(k - s) / p * p:=by
  have:=Nat.mod_add_div (k - s) p
  rw[E4] at this
  omega
 have h1:=pU a ((k - s) / p) (s+(k - s) % p) (by omega)
 have h2:=pU a ((k - s) / p) (s+(k - s) % p+l) (by omega)
 have b:=h ((k - s) % p) (Nat.mod_lt _ p1)
 rw[show s+(k - s) % p+l+(k - s) / p * p=k+l by omega] at h2
 rw[<-e] at h1
 rw[h2,b,h1]
theorem aKJ(a:∀ k,s<=k->W (k+p)=W k)(p1:1<=p){l:Nat}(h:∃ t,∀ k,t<=k->W (k+l)=W k):∀ k,s<=k->W (k+l)=W k:=fun k c=>by
 obtain ⟨t,d⟩:=h
 have h1:=pU a t k c
 have h2:=pU a t (k+l) (by omega)
 have b:=d (k+t * p) (by have:=Nat.le_mul_of_pos_right t p1;omega)
 rw[show k+l+t * p=k+t * p+l by omega] at h2
 rw[<-h2,b,h1]
noncomputable def pieceW(W:Nat->Str)(s p:Nat):List Str:=(List.range p).map fun i=>W (s+i)
theorem aQ2(c:∀ k,s<=k->W (k+p)=W k){l:Nat}(d:l<=p):(pieceW W s p).drop l++(pieceW W s p).take l=(List.range p).map fun i=>W (s+i+l):=by
 have a:(pieceW W s p).length=p:=by unfold pieceW;rw[AB,BC]
 have b:∀ i,i < p->(pieceW W s p)[i]? = some (W (s+i)):=fun i hi=>by unfold pieceW;rw[AH,B1 hi];rfl
 refine FV fun i=>?_
 by_cases hi:i < p
 ·rw[AH,B1 hi]
  show _=some (W (s+i+l))
  by_cases h:i < p - l
  ·rw[BV (by rw[CV,a];exact h),List.getElem?_drop,b _ (by omega)]
   congr 2
   omega
  ·rw[CA (by rw[CV,a];omega),CV,a,FG,AD (by omega),b _ (by omega)]
   have:=c (s+(i - (p - l))) (by omega)
   rw[show s+(i - (p - l))+p=s+i+l by omega] at this
   rw[this]
 ·rw[CL (by rw[A0,CV,BF,a];omega),CL (by rw[AB,BC];omega)]
theorem aEO(a:∀ k,s<=k->W (k+p)=W k){l:Nat}(b:l<=p):(pieceW W s p).drop l++(pieceW W s p).take l=pieceW W s p↔∀ i,i < p->W (s+i+l)=W (s+i):=by
 rw[aQ2 a b]
 constructor
 ·intro h i hi
  have:=EA (·[i]?) h
  simp only[pieceW,AH,B1 hi,Option.map_some] at this
  exact BP this
 ·intro h
  unfold pieceW
  refine B0 fun i hi=>h i (B3.mp hi)
end
theorem vB{L:List Str}(h:∀ w∈L,jG w):Cp (.list (L.map .str)):=by
 have ok:∀ w,jG w->PyData.strOk w=true:=fun w a=>by
  rcases a with rfl|rfl|rfl<;>decide +kernel
 refine ⟨?_,Sh.shaped (n:=2) (aO9 fun x b=>?_) (by decide)⟩
 ·show o9 (L.map .str)=true
  exact aEI fun x b=>by
   obtain ⟨w,_,rfl⟩:=BA.mp b
   rfl
 ·obtain ⟨w,a,rfl⟩:=BA.mp b
  exact vQ _ (ok w (h w a))
theorem str_map_inj{A B:List Str}:A.map PyData.str=B.map PyData.str↔A=B:=by
 refine ⟨fun h=>?_,fun h=>by rw[h]⟩
 induction A generalizing B with
 | nil=>cases B with|nil=>rfl|cons=>cases h
 | cons a t ih=>
  cases B with
  | nil=>cases h
  | cons b u=>
   rw[AT,AT] at h
   injection h with h1 h2
   injection h1 with h1
   rw[h1,ih h2]
theorem aCK(xs:List PyData){l:Nat}(h:l<=xs.length):kI xs (some (l:Int)) none=xs.drop l:=by
 unfold kI
 rw[HT.aC8,HT.aAA,FA h,C8 (by rw[CV];omega)]
theorem aCL(xs:List PyData){l:Nat}(h:l<=xs.length):kI xs none (some (l:Int))=xs.take l:=by
 unfold kI
 rw[HT.aC8,HT.aAA,FA h,List.drop_zero,Nat.sub_zero]
theorem aN3{L:List Str}(hw:∀ w∈L,jG w)(B:L.length<=1000):∀ (n l:Nat),1<=l->l<=L.length->L.length<=l+n->(∀ l',1<=l'->l' < l->L.drop l'++L.take l'≠L)->
  ∃ l',1<=l'/\l'<=L.length/\L.drop l'++L.take l'=L/\(∀ l'',1<=l''->l'' < l'->L.drop l''++L.take l''≠L)/\aN (bS lrT lrB) (bX (vV 1)) [some (.d (.list (L.map .str))),some (.d (.int (l:Int)))]=.ok (.rt (.d (.int (l':Int)))):=by
 have f:∀ l,l<=L.length->lrT [some (.d (.list (L.map .str))),some (.d (.int (l:Int)))]=.ok (!decide (L.drop l++L.take l=L)):=fun l h=>by
  have u:=aCK (L.map PyData.str) (l:=l) (by rw[AB];exact h)
  have p:=aCL (L.map PyData.str) (l:=l) (by rw[AB];exact h)
  have s1:dSl (.list (L.map .str)) (some (l:Int)) none=.ok (.list ((L.drop l).map .str)):=by rw[z0,u,List.map_drop]
  have t:dSl (.list (L.map .str)) none (some (l:Int))=.ok (.list ((L.take l).map .str)):=by rw[z0,p,List.map_take]
  have x:uV (.list ((L.drop l).map .str)) (.list ((L.take l).map .str))=.ok ((L.drop l++L.take l).map .str):=by
   show (if _<=sizeLine then R.ok _ else .bad)=_
   rw[AD (by rw[AB,AB,CV,BF,dI];omega),BK]
  have c:∀ w∈L.drop l++L.take l,jG w:=fun w y=>by
   rcases BR.mp y with q|q
   ·exact hw w (List.mem_of_mem_drop q)
   ·exact hw w (ED q)
  have j:dNe (.list ((L.drop l++L.take l).map .str)) (.list (L.map .str))=.ok (.bool (!decide (L.drop l++L.take l=L))):=by
   rw[aQT (vB c) (vB hw)]
   congr 3
   refine GE.mpr ?_
   constructor
   ·intro e;injection e with e;exact str_map_inj.mp e
   ·intro e;rw[e]
  generalize (L.drop l++L.take l).map PyData.str=E at *
  generalize (L.drop l).map PyData.str=A at *
  generalize (L.take l).map PyData.str=F at *
  generalize L.map PyData.str=D at *
  simp[lrT,s1,t,x,j]
 intro n
 induction n with
 | zero=>
  intro l h1 h2 s b
  have e:l=L.length:=by omega
  subst e
  refine ⟨L.length,h1,AG _,by rw[EB,DL,BL],b,?_⟩
  have:=f L.length (AG _)
  rw[EB,DL,BL,A3 rfl] at this
  rw[a8,dC this]
  simp
 | succ n ih=>
  intro l h1 h2 s b
  by_cases a:L.drop l++L.take l=L
  ·refine ⟨l,h1,h2,a,b,?_⟩
   have:=f l h2
   rw[A3 a] at this
   rw[a8,dC this]
   simp
  ·have k:l≠L.length:=by
    rintro rfl
    exact a (by rw[EB,DL,BL])
   obtain ⟨l',i,m,z,v,g⟩:=ih (l+1) (by omega) (by omega) (by omega) fun l'' o C=>by
    by_cases e:l''=l
    · subst e; exact a
    · exact b l'' o (by omega)
   refine ⟨l',i,m,z,v,?_⟩
   have:=f l h2
   rw[A7 a] at this
   have r:lrB [some (.d (.list (L.map .str))),some (.d (.int (l:Int)))]=.ok (.nx [some (.d (.list (L.map .str))),some (.d (.int ((l+1:Nat):Int)))]):=by simp[lrB,tL]
   rw[a8] at g ⊢
   rw[eY this r]
   exact g
theorem aKK{L:List Str}(hw:∀ w∈L,jG w)(c:L.length<=1000)(h1:1<=L.length):∃ l,1<=l/\l<=L.length/\L.drop l++L.take l=L/\(∀ l',1<=l'->l' < l->L.drop l'++L.take l'≠L)/\gZ [.d (.list (L.map .str))]=.ok (.d (.int (l:Int))):=by
 obtain ⟨l,f,b,g,e,a⟩:=aN3 hw c L.length 1 (AG _) h1 (by omega) (fun l' h i=>by omega)
 refine ⟨l,f,b,g,e,?_⟩
 unfold gZ
 rw[lI]
 rw[a8] at a
 simp only[Int.natCast_one] at a
 simp only[f9,a8,iM,kB,fU,R.bind_ok,AT,BD,BO,BL,AW,A8,List.replicate,Nat.reduceAdd,Nat.reduceSub,AY,A2]
 rw[a];rfl
noncomputable def cw(rows:List (List Nat))(ws:List Str)(a g b:List Nat)(k:Nat):Str:=ws.getD (runN rows (itR rows (runN rows 0 a) g k) b) ""
noncomputable def crC:Sg->R Fw:=(aFH (aW 2 jQ (aA (vV 0) (aA (vV 4) aM))))
noncomputable def crT:Sg->R Bool:=(jM (e1 asB (e2 dGt (rV 8) (eC (.int 0)))) (e1 asB (e2 dEq (e2 dIx (rV 7) (e2 dSub (rV 8) (eC (.int 1)))) (e2 dIx (rV 7) (e2 bL (e2 dSub (rV 8) (eC (.int 1))) (rV 9))))))
noncomputable def crB:Sg->R Fw:=(aFI 8 dSub (eC (.int 1)))
noncomputable def wdL(W:Nat->Str)(m:Nat):List PyData:=(List.range m).map fun k=>.str (W k)
theorem sP{W:Nat->Str}{m k:Nat}(h:k < m):dIx (.list (wdL W m)) (.int (k:Int))=.ok (.str (W k)):=oV (dX (by unfold wdL;rw[AH,B1 h];rfl))
theorem nU(W:Nat->Str)(m:Nat):(wdL W m).length=m:=by unfold wdL;rw[AB,BC]
theorem wS{w:Str}(h:jG w):Cp (.str w):=by
 refine ⟨rfl,Sh.shaped (n:=1) (vQ _ ?_) (by decide)⟩
 rcases h with rfl|rfl|rfl<;>decide +kernel
end Mc
namespace L2
open PySem PySem.Spec PyProof.Rows
structure DefAtD(K:Frag)(mg:Str->Option Value)(x:Str)(st:Stmt)(ps:List Str)(dvs:List V):Prop where
 ex:∃ f oc od dV kV doc pm an cdv ct osl ds,K.lookup f=some ⟨oc,od,.func (PySem.W.fnOf x x (dY st) (cL st) (aL st) dV kV doc pm an cdv ct),osl⟩/\PySem.W.codeIn K cdv x=true/\PySem.W.keepIn K (.ref f)=true /\
  gQ K (PySem.W.fnOf x x (dY st) (cL st) (aL st) dV kV doc pm an cdv ct) ps []/\gQ K (PySem.W.fnOf x x (dY st) (cL st) (aL st) dV kV doc pm an cdv ct) ps ds/\bT dvs ds/\mg x=some (.ref f)
def sQ(P:Program)(w:World)(K:Frag)(mg:Str->Option Value)(base:Heap)(CX:CXT)(k:Nat)(x:Str)(ps:List Str)(dvs:List V)(sp:Sp):Prop:=
 ∃ f fd ds,FnOk P w K mg base CX k f fd ps sp/\gQ K fd ps []/\gQ K fd ps ds/\bT dvs ds/\mg x=some (.ref f)/\PySem.W.keepIn K (.ref f)=true
section
variable{P:Program}{w:World}{K:Frag}{mg:Str->Option Value}{base:Heap}{x:Str}{st:Stmt}{N ps:List Str}{k:Nat}{sp:Sp}{dvs:List V}
theorem sQ.calls{CX:CXT}(C:sQ P w K mg base CX k x ps dvs sp):Calls P w K mg base CX k x ps sp:=by
 obtain ⟨f,fd,ds,F,b,_,_,m,a⟩:=C
 exact ⟨f,fd,F,b,m,a⟩
theorem DefAtD.okX(D:DefAtD K mg x st ps dvs)(S:FnScope N ps (aL st))(len:∀ vs H Q E,sp vs H Q E->vs.length=ps.length)
  (a:∀ (f:Addr) (cdv:Value) (A:Around) (outer:List Env) (s:Shared) (H:Hp) (vs:List V) (Q:VK) (E:XK),Room k (A.deeper (envOfC x (aL st) s.heap.objs.size f cdv))->sp vs H Q E->
   ∃ t,PSs ((jJ (CXe P w) P w K mg base N x (aL st) f cdv A outer s H E).fly E) (cL st) t/\t {nx:=fun _ H'=>Q .non H',rt:=Q} (start N vs) H):sQ P w K mg base (CXe P w) (k+1) x ps dvs sp:=by
 obtain ⟨f,n,od,o,kV,doc,pm,p,cdv,ct,l,ds,g,b,e,i,j,v,m⟩:=D.ex
 refine ⟨f,_,ds,zS g b S len fun A outer s H vs Q E d c=>?_,i,j,v,m,e⟩
 obtain ⟨t,h,q⟩:=a f cdv A outer s H vs Q E d c
 exact ⟨t,h.unfly fun _ _ z=>rN z,q⟩
end
section
variable{X:Cx}{CX:CXT}{k:Nat}{x:Str}{ps:List Str}{dvs:List V}{sp:Sp}{E:XK}{p pos:Pos}{e:Expr}{es:List Expr}{t:TA}
theorem aQ3(C:sQ X.prog X.w X.K X.mg X.base CX k x ps dvs sp)(g:Room k X.A)(c:Gl X x)(hx:mQ CX X E)(d:PA X (e::es) t)(a:(x == ("__debug__":Str))=false:=by decide)
  (he:starEach (e::es) X.env=(false,eval e X.env)::starEach es X.env:=by rfl) (hpl:(backTo pos (starEach es X.env)).any (·.1)=false:=by rfl):PE X (.Call (.Name x p) (e::es) [] pos) (oK sp dvs E t):=by
 obtain ⟨f,fd,ds,F,_,b,v,m,h⟩:=C
 exact aC7 F g c m h b v hx d a he hpl
end
end L2
namespace Fl
open PySem L2 PyProof.Rows
abbrev D3:=PyData×PyData×List PyData
def RT3(K:Frag)(H F' H':Hp)(d:D3)(v:V):Prop:=∃ t a b p ws,v=.ref t/\H' t=some (.tup [a,b,.ref p])/\H t=none/\F' t=none/\DatV K F' a d.1/\DatV K F' b d.2.1/\H p=none/\H' p=some (.lst ws)/\F' p=none/\DatVs K F' ws d.2.2
def aFW(c:Ct)(E:XK)(f:Sg->R D3):TS:=fun D σ H=>∃ ρ F,Ab c ρ σ F H/\Rk c E F H (f ρ) fun d=>∀ v F' H',Ext c.F0 c.H0 F' H'->RT3 c.K c.H0 F' H' d v->D.rt v H'
def m6(f:Sg->R Fw)(g:Sg->R D3):Sg->R D3:=fun ρ=>(f ρ).bind fun w=>match w with
 | .nx ρ'=>g ρ'
 | _=>.bad
def z6(f g:Sg->R PyData)(h:Sg->R (List PyData)):Sg->R D3:=fun ρ=>(f ρ).bind fun x=>(g ρ).bind fun y=>(h ρ).bind fun z=>.ok (x,y,z)
section
variable{X:Cx}{c:Ct}{E:XK}{st:Stmt}{rest:List Stmt}{pos:Pos}
theorem jZ{f:Sg->R Fw}{g:Sg->R D3}(h:PSf X c E st f)(h2:PSs X rest (aFW c E g)):PSs X (st::rest) (aFW c E (m6 f g)):=PSs.imp (L2.aF h h2) fun D σ H j=>by
 obtain ⟨ρ,F,ab,k⟩:=j
 refine ⟨ρ,F,ab,(Rk.bind k).imp fun w _ q=>?_⟩
 cases w with
 | nx ρ'=>
  intro l m H' s d
  refine ⟨ρ',m,d,?_⟩
  have b:Rk c E F H (g ρ') _:=q
  cases i:g ρ' with
  | bad=>rw[i] at b;exact b
  | ok w=>rw[i] at b;exact b
  | ex e=>rw[i] at b;exact b
 | bk ρ'=>exact q.elim
 | ct ρ'=>exact q.elim
 | rt a=>exact q.elim
theorem aKL{f g:Sg->R PyData}{h:Sg->R (List PyData)}{es:List Expr}{x1}{s:Pos}(v:PA X es (dU (tV (c6 c) c E f) (dU (tV (c6 c) c E g) (dU (tV (rX c) c E h) iS)))):PSs X [.Return (some (.Tuple es x1 s)) pos] (aFW c E (z6 f g h)):=PSs.imp (L2.aP (L2.bM (aGJ v))) fun D σ H j=>by
 obtain ⟨ρ,F,ab,k⟩:=j
 refine ⟨ρ,F,ab,(Rk.bind k).imp fun x _ q n A H1 s1 r1=>⟨ρ,A,ab.ext s1,((Rk.bind q).ext s1).imp fun y _ q r w H2 b r2=>⟨ρ,w,(ab.ext s1).ext b,(((Rk.bind q).ext s1).ext b).imp fun z _ q I l H3 e C=>?_⟩⟩⟩
 obtain ⟨p,ws,rfl,h1,h2,u,G⟩:=C
 refine ⟨by show 3<=sizeLine;decide,fun t i=>?_⟩
 have B:Ext l H3 l (upd H3 t (.tup [n,r,.ref p])):=Ext.own e.fh i
 have d:=s1.trans (b.trans e)
 have m:p≠t:=fun z=>by rw[z,i] at h2;cases h2
 refine Rk.ok q (.ref t) l _ (ab.all.trans (d.trans B)) ⟨t,n,r,p,ws,rfl,aX,bW ab.h0 (bW d.hh i),bW e.fh i,DatV.same (fun a o z=>e.ff a o (b.ff a o z)) r1,DatV.same e.ff r2,bW ab.h0 (bW (s1.trans b).hh h1),by rw[aG m];exact h2,u,G⟩
end
def fn3(n:Nat)(fb:Sg->R D3):List A->R D3:=fun as=>fb (as.map some++List.replicate (n - as.length) none)
def sp3(g:Gb)(K:Frag)(mg:Str->Option Value)(n:Nat)(G:List A->R D3):Sp:=fun vs H Q E=>∃ F as,aO g.T F/\aO F H/\AFs g K mg F as vs/\as.length=n/\match G as with
 | .bad=>False
 | .ok d=>∀ v F' H',Ext F H F' H'->RT3 K H F' H' d v->Q v H'
 | .ex e=>∀ a C F' H',Ext F H F' H'->lC K mg F' e a C->E (.ref C) (some a) H'
def yG(P:Program)(w:World)(K:Frag)(mg:Str->Option Value)(base:Heap)(T:Hp)(k:Nat)(x:Str)(ps:List Str)(dvs:List V)(G:List A->R D3):Prop:=sQ P w K mg base (CXe P w) k x ps dvs (sp3 (gOf P w K mg base T) K mg ps.length G)
theorem aKM{P:Program}{w:World}{K:Frag}{mg:Str->Option Value}{base:Heap}{T:Hp}{x:Str}{st:Stmt}{N ps:List Str}{dvs:List V}{k:Nat}{fb:Sg->R D3}(D:DefAtD K mg x st ps dvs)(S:FnScope N ps (aL st))
  (a:∀ (f:Addr) (cdv:Value) (A:Around) (outer:List Env) (s:Shared) (H F:Hp) (E:XK),Room k (A.deeper (envOfC x (aL st) s.heap.objs.size f cdv))->
   PSs ((jJ (CXe P w) P w K mg base N x (aL st) f cdv A outer s H E).fly E) (cL st) (aFW ⟨K,mg,w,F,H,gOf P w K mg base T,(envOfC x (aL st) s.heap.objs.size f cdv).cells,fun _=>none⟩ E fb)):yG P w K mg base T (k+1) x ps dvs (fn3 N.length fb):=by
 refine D.okX S (fun vs H Q E h=>?_) (fun f cdv A outer s H vs Q E i h=>?_)
 ·obtain ⟨F,c,_,_,h2,d,_⟩:=h
  rw[h2.len,d]
 ·obtain ⟨F,c,g,h1,h2,d,b⟩:=h
  refine ⟨_,a f cdv A outer s H F E i,_,F,uQ g h1 h2,?_⟩
  unfold fn3 at b
  cases e:fb (c.map some++List.replicate (N.length - c.length) none) with
  | bad=>rw[e] at b;exact b
  | ex x=>rw[e] at b;exact b
  | ok w=>rw[e] at b;exact b
def aFX(ρ:Sg):Bool:=ρ.all fun o=>match o with
 | some a=>!a.own
 | none=>true
theorem wU{ρ:Sg}{σ:L2.St}{p:Addr}(h:aFX ρ=true):pM ρ σ p:=fun j a b c=>by
 have z:=BW.mp h _ (AL b)
 simp only[c] at z
 cases z
structure OwnL(c:Ct)(F H:Hp)(σ:L2.St)(i:Nat)(p:Addr)(qs:List Addr)(vss:List (List V)):Prop where
 s:σ[i]? = some (some (.ref p))
 hp:H p=some (.lst (qs.map V.ref))
 fp:F p=none
 p0:c.H0 p=none
 np:p∉qs
 nd:qs.Nodup
 len:vss.length=qs.length
 q:∀ (j:Nat) (q:Addr) (vs:List V),qs[j]? = some q->vss[j]? = some vs->H q=some (.lst vs)/\F q=none/\c.H0 q=none
theorem aEP{c:Ct}{ρ:Sg}{σ:L2.St}{H:Hp}(k:aFX ρ=true):∀ (qs:List Addr) (vss:List (List V)) {F:Hp},Ab c ρ σ F H->qs.Nodup->vss.length=qs.length->(∀ (j:Nat) (q:Addr) (vs:List V),qs[j]? = some q->vss[j]? = some vs->H q=some (.lst vs)/\F q=none/\c.H0 q=none)->
  ∃ F',aO F F'/\Ab c ρ σ F' H/\(∀ (j:Nat) (q:Addr) (vs:List V),qs[j]? = some q->vss[j]? = some vs->F' q=some (.lst vs))/\∀ a,a∉qs->F' a=F a
 | [],_,F,ab,_,_,_=>⟨F,cO F,ab,fun j q vs h=>by simp at h,fun _ _=>rfl⟩
 | q::qs,[],F,ab,_,hl,_=>by simp at hl
 | q::qs,vs::vss,F,ab,nd,hl,h=>by
  obtain ⟨a,b,d⟩:=h 0 q vs rfl rfl
  have f:=ab.pub9 a b d (wU k)
  have i:q∉qs:=(CZ.mp nd).1
  obtain ⟨F',s1,e,k1,k2⟩:=aEP k qs vss f (CZ.mp nd).2 (by simpa using hl) (fun j r ws e1 e2=>by
   obtain ⟨x,y,z⟩:=h (j+1) r ws (by simpa using e1) (by simpa using e2)
   exact ⟨x,by rw[aG (fun w=>i (by rw[<-w];exact AL e1))];exact y,z⟩)
  refine ⟨F',fun x o z=>s1 x o (aO.upd b x o z),e,fun j r ws e1 e2=>?_,fun x g=>?_⟩
  ·cases j with
   | zero=>simp at e1 e2;subst e1 e2;rw[k2 q i,aX]
   | succ j=>exact k1 j r ws (by simpa using e1) (by simpa using e2)
  ·rw[AZ,not_or] at g
   rw[k2 x g.2,aG g.1]
theorem aCM{K:Frag}{F F2:Hp}(s:aO F F2):∀ {qs:List Addr} {vss:List (List V)} {xss:List (List PyData)},vss.length=qs.length->xss.length=qs.length->(∀ (j:Nat) (q:Addr) (vs:List V),qs[j]? = some q->vss[j]? = some vs->F2 q=some (.lst vs))->(∀ (j:Nat) vs xs,vss[j]? = some vs->xss[j]? = some xs->DatVs K F vs xs)->DatVs K F2 (qs.map V.ref) (xss.map PyData.list)
 | [],_,[],_,_,_,_=>.nil
 | [],_,_::_,_,h,_,_=>by simp at h
 | q::qs,[],_,h,_,_,_=>by simp at h
 | q::qs,_,[],_,h,_,_=>by simp at h
 | q::qs,vs::vss,xs::xss,h1,h2,h3,h4=>.cons (.lst (SqL.of (h3 0 q vs rfl rfl)) ((h4 0 vs xs rfl rfl).same s)) (aCM s (by simpa using h1) (by simpa using h2) (fun j r ws e1 e2=>h3 (j+1) r ws (by simpa using e1) (by simpa using e2)) (fun j r ws e1 e2=>h4 (j+1) r ws (by simpa using e1) (by simpa using e2)))
theorem OwnL.done{c:Ct}{F H:Hp}{ρ:Sg}{σ:L2.St}{i:Nat}{p:Addr}{qs:List Addr}{e:List (List V)}{b:List (List PyData)}(h:OwnL c F H σ i p qs e)(ab:Ab c ρ σ F H)(n:aFX ρ=true)(hx:b.length=qs.length)(r:∀ (j:Nat) vs xs,e[j]? = some vs->b[j]? = some xs->DatVs c.K F vs xs) :
  ∃ F',aO F F'/\Ab c (ρ.set i (some (.d (.list (b.map PyData.list))))) σ F' H:=by
 obtain ⟨m,s1,l,k1,k2⟩:=aEP n qs e ab h.nd h.len h.q
 have fp:m p=none:=by rw[k2 p h.np];exact h.fp
 have k:=l.pub9 h.hp fp h.p0 (wU n)
 have g:aO m (upd m p (.lst (qs.map V.ref))):=aO.upd fp
 have f:=k.setA (i:=i) (a:=.d (.list (b.map PyData.list))) (v:=.ref p) (.lst (SqL.of aX) (aCM (fun a o z=>g a o (s1 a o z)) h.len hx (fun j q vs e1 e2=>g _ _ (k1 j q vs e1 e2)) r))
 rw[aB4 h.s] at f
 exact ⟨_,fun a o z=>g a o (s1 a o z),f⟩
def aFY(i n m:Nat)(ft:Sg->R Bool)(G:List A->R D3)(dd:List A)(fa3 fa4:Sg->R (List A))(fd:Sg->R Bool)(T:List A->R A)(fb:Sg->R (List A)):Sg->R Fw:=fun ρ=>(ft ρ).bind fun b=>(if b=true then (fa3 ρ).bind fun as=>.ok (as++dd) else fa4 ρ).bind fun as=>if as.length=n/\i < ρ.length then (G as).bind fun d=>(fd (ρ.set i none)).bind fun q=>if q=true then .ok (.rt (.d (.bool false))) else (fb (ρ.set i none)).bind fun bs=>if bs.length+1=m/\d.2.2.length < 16777216 then (match T (.d (.tuple [d.1,d.2.1,.list d.2.2])::bs) with
 | .ok (.d (.bool r))=>if r=true then .ok (.nx (ρ.set i none)) else .ok (.rt (.d (.bool false)))
 | _=>.bad) else .bad else .bad
section
variable{X:Cx}{c:Ct}{E:XK}
theorem aN4{ad ak Y:Stmt}{i n m:Nat}{ft fd:Sg->R Bool}{G:List A->R D3}{dd:List A}{dvs:List V}{aj ai fb:Sg->R (List A)}{T:List A->R A}{x:Str}{g:Gb}{K:Frag}{mg:Str->Option Value}(hG:g=c.g)(hK:K=c.K)(hM:mg=c.mg)(hX:X.K=c.K)
  (ax:∀ F,AFs g K mg F dd dvs)
  (h1:PS X ad (aER (tTf c E ft) (kG (oK (sp3 g K mg n G) dvs E (tAv c E aj)) (j3 i)) (kG (oK (sp3 g K mg n G) [] E (tAv c E ai)) (j3 i))))
  (h2:PS X ak (aER (tOr (tTf c E fd) (aIP (tB (oK (spF g K mg m T) [] E (dU (iR i) (tAv c E fb)))))) (tSf c E (bX (vD (eC (.bool false))))) (fun D σ H=>D.nx σ H)))
  (h3:PS X Y (vJ (tBM X.K "list" tE (tOp (rIx X.K) (iR i) (tC (.int 2))) (dU (tC (.str x)) iS)))):lT X c E [ad,ak,Y] (aFY i n m ft G dd aj ai fd T fb):=PSs.imp (L2.aF h1 (L2.aF h2 (L2.aP h3))) fun D σ H am=>by
 obtain ⟨ρ,F,ab,k⟩:=am
 subst hG hK hM
 refine ⟨ρ,F,ab,(Rk.bind k).imp fun b _ k1 F1 H1 s1=>?_⟩
 have aa:=ab.ext s1
 have N:∀ (l:List A) (B H2:Hp),Ext F1 H1 B H2->Rk c E F H (if l.length=n/\i < ρ.length then (G l).bind fun d=>(fd (ρ.set i none)).bind fun q=>if q=true then .ok (.rt (.d (.bool false))) else (fb (ρ.set i none)).bind fun bs=>if bs.length+1=m/\d.2.2.length < 16777216 then (match T (.d (.tuple [d.1,d.2.1,.list d.2.2])::bs) with
   | .ok (.d (.bool r))=>if r=true then .ok (.nx (ρ.set i none)) else .ok (.rt (.d (.bool false)))
   | _=>.bad) else .bad else .bad) (iH c F D)->l.length=n/\match G l with
   | .bad=>False
   | .ok d=>∀ v h H',Ext B H2 h H'->RT3 c.K H2 h H' d v->aER (tOr (tTf c E fd) (aIP (tB (oK (spF c.g c.K c.mg m T) [] E (dU (iR i) (tAv c E fb)))))) (tSf c E (bX (vD (eC (.bool false))))) (fun D σ H=>D.nx σ H) {D with nx:=fun σ H=>vJ (tBM X.K "list" tE (tOp (rIx X.K) (iR i) (tC (.int 2))) (dU (tC (.str x)) iS)) D σ H} (σ.set i (some v)) H'
   | .ex e=>∀ a C h H',Ext B H2 h H'->lC c.K c.mg h e a C->E (.ref C) (some a) H':=by
  intro l B H2 J k
  by_cases hn:l.length=n/\i < ρ.length
  ·rw[AD hn] at k
   obtain ⟨hn,ao⟩:=hn
   refine ⟨hn,?_⟩
   have ae:i < σ.length:=by rw[<-ab.len];exact ao
   cases hg:G l with
   | bad=>rw[hg] at k;exact k
   | ex e=>rw[hg] at k;exact fun a C h H' s r=>k a C h H' ((ab.all.trans (s1.trans J)).trans s) r
   | ok d=>
    rw[hg,R.bind_ok] at k
    intro v F3 H3 s3 r3
    obtain ⟨t,a,P,p,ws,rfl,t1,t2,t3,da,db,p1,p2,p3,dw⟩:=r3
    have L:=s1.trans (J.trans s3)
    have M:Ab c (ρ.set i none) (σ.set i (some (.ref t))) F3 H3:=(ab.ext L).drop9 i (.ref t)
    have ag:H p=none:=bW (s1.trans J).hh p1
    have O:t≠p:=fun z=>by rw[z,p2] at t1;cases t1
    have ap:pM (ρ.set i none) (σ.set i (some (.ref t))) p:=fun j a' hj ho=>by
     rcases get_set hj with ⟨_,z,_⟩|⟨ne,z⟩
     ·cases z
     ·rw[BQ ne]
      obtain ⟨w,hw,q⟩:=ab.slot j a' z
      obtain ⟨p',o',e',q1,_⟩:=q.at ho
      rw[hw,e']
      intro zz
      cases zz
      rw[ag] at q1;cases q1
    refine ⟨ρ.set i none,F3,M,((Rk.bind k).ext L).imp fun q _ k4 F4 H4 S=>?_⟩
    by_cases hq:q=true
    ·rw[AD hq] at k4 ⊢
     show (if true=true then _ else _)
     rw[AD rfl]
     exact ⟨ρ.set i none,F4,M.ext S,fun v h H' s r=>Rk.ok k4 v h H' s r⟩
    ·rw[AE hq] at k4 ⊢
     refine ⟨.ref t,CF ae,ρ.set i none,F4,M.ext S,((Rk.bind k4).ext (L.trans S)).imp fun bs _ k5 vs u H5 s5 r5=>?_⟩
     by_cases hc:bs.length+1=m/\d.2.2.length < 16777216
     ·rw[AD hc] at k5
      have f:=S.trans s5
      have W:u p=none:=f.stay p3 p2 (fun _ z=>nomatch z)
      have al:u t=none:=f.stay t3 t1 (fun _ z=>nomatch z)
      have ah:H5 p=some (.lst ws):=f.hh _ _ p2
      have af:H5 t=some (.tup [a,P,.ref p]):=f.hh _ _ t1
      have au:aO u (upd u p (.lst ws)):=aO.upd W
      have aw:aO (upd u p (.lst ws)) (upd (upd u p (.lst ws)) t (.tup [a,P,.ref p])):=aO.upd (by rw[aG O];exact al)
      have I:aO u (upd (upd u p (.lst ws)) t (.tup [a,P,.ref p])):=fun a o z=>aw a o (au a o z)
      have aq:(upd (upd u p (.lst ws)) t (.tup [a,P,.ref p])) p=some (.lst ws):=by rw[aG (BX O),aX]
      refine ⟨upd (upd u p (.lst ws)) t (.tup [a,P,.ref p]),.d (.tuple [d.1,d.2.1,.list d.2.2])::bs,fun a o z=>I a o (s5.ff a o (S.ff a o (L.ff a o (ab.f0 a o (ab.t0 a o z))))),fun y o z=>?_,?_,hc.1,?_⟩
      ·by_cases w:y=t
       ·subst w;rw[aX] at z;rw[af];exact z
       ·rw[aG w] at z
        by_cases w2:y=p
        ·subst w2;rw[aX] at z;rw[ah];exact z
        ·rw[aG w2] at z;exact s5.fh y o z
      ·rw[B9]
       exact ⟨.tup (SqT.of aX) (.cons (DatV.same (fun a o z=>I a o (f.ff a o z)) da) (.cons (DatV.same (fun a o z=>I a o (f.ff a o z)) db) (.cons (.lst (SqL.of aq) ((dw.same f.ff).same I)) .nil))),r5.same I⟩
      ·cases ht:T (.d (.tuple [d.1,d.2.1,.list d.2.2])::bs) with
       | bad=>rw[ht] at k5;exact k5
       | ex e=>rw[ht] at k5;exact k5.elim
       | ok av=>
        rw[ht] at k5
        cases av with
        | d xv=>
         cases xv with
         | bool r=>
          intro v h H' s r'
          obtain rfl:=DatV.bl_of r'
          have e6:Ext u H5 (outH (outH h p) t) H':=⟨s.hh,fun y o z=>by
            have U:y≠p:=fun w=>by rw[w,W] at z;cases z
            have Q:y≠t:=fun w=>by rw[w,al] at z;cases z
            rw[pN Q,pN U]
            exact s.ff y o (by rw[aG Q,aG U];exact z),
           fun y o z=>s.fh y o (zD h p y o (zD _ t y o z)),fun y z n=>by
            by_cases Q:y=t
            ·subst Q;exact absurd (sL _ y) n
            ·rw[pN Q] at n
             by_cases U:y=p
             ·subst U;exact absurd (sL h y) n
             ·rw[pN U] at n
              exact s.nw y (by rw[aG Q,aG U];exact z) n⟩
          have Z:=(M.ext f).ext e6
          refine ⟨r,rfl,?_⟩
          have k6:Rk c E F H (if r=true then R.ok (Fw.nx (ρ.set i none)) else R.ok (Fw.rt (.d (.bool false)))) (iH c F D):=k5
          cases r with
          | false=>
           rw[AE BT] at k6
           show (if true=true then _ else _)
           rw[AD rfl]
           exact ⟨ρ.set i none,_,Z,fun v h H' s r=>Rk.ok k6 v h H' s r⟩
          | true=>
           rw[AD rfl] at k6
           show (if false=true then _ else _)
           rw[AE BT]
           have ac:H' p=some (.lst ws):=s.hh _ _ ah
           have ay:H' t=some (.tup [a,P,.ref p]):=s.hh _ _ af
           refine ⟨.ref t,CF ae,.inr (.inl ⟨t,[a,P,.ref p],2,.ref p,rfl,rfl,SqT.of ay,rfl,?_⟩)⟩
           refine ⟨.inl ⟨rfl,ws,SqL.of ac⟩,p,ws,.str x,rfl,rfl,ac,by rw[dw.length,dI];exact hc.2,?_⟩
           refine Rk.ok k6 _ (outH (outH h p) t) _ (fun y o z=>e6.ff y o (s5.ff y o (S.ff y o (L.ff y o z)))) (Z.off9 ?_ (bW ab.h0 ag) ap)
           rw[pN (BX O),sL]
         | _=>exact k5.elim
        | _=>exact k5.elim
     ·rw[AE hc] at k5;exact k5.elim
  ·rw[AE hn] at k;exact k.elim
 cases b with
 | true=>
  rw[AD rfl] at k1
  show (if true=true then _ else _)
  rw[AD rfl]
  refine ⟨ρ,F1,aa,((Rk.bind (Rk.bind k1)).ext s1).imp fun l _ q vs B H2 J r2=>?_⟩
  obtain ⟨m1,m2⟩:=N (l++dd) B H2 J q
  exact ⟨B,l++dd,fun a o z=>J.ff a o (s1.ff a o (ab.f0 a o (ab.t0 a o z))),J.fh,r2.append (ax B),m1,m2⟩
 | false=>
  rw[AE BT] at k1
  show (if false=true then _ else _)
  rw[AE BT]
  refine ⟨ρ,F1,aa,((Rk.bind k1).ext s1).imp fun l _ q vs B H2 J r2=>?_⟩
  obtain ⟨m1,m2⟩:=N l B H2 J q
  exact ⟨B,l,fun a o z=>J.ff a o (s1.ff a o (ab.f0 a o (ab.t0 a o z))),J.fh,by rw[B9];exact r2,m1,m2⟩
theorem aQ4(i:Nat){b:List Stmt}{f:Sg->R Fw}(h:lT X c E b f):lT X c E b (sFz i f):=PSs.imp h fun D σ H g=>by
 obtain ⟨ρ,F,ab,k⟩:=g
 obtain ⟨j,s,d⟩:=ab.frz i
 refine ⟨fz i ρ,j,d,?_⟩
 have a:Rk c E F H (f (fz i ρ)) (iH c F D):=k
 cases q:f (fz i ρ) with
 | bad=>rw[q] at a;exact a
 | ok w=>rw[q] at a;exact iH.same s a
 | ex e=>rw[q] at a;exact a
end
def aIS:Sg->R Unit:=fun _=>.ok ()
def dMulS:PyData->PyData->R PyData
 | .str x,.int n=>if x.length<=1000/\0<=n/\n<=1000 then .ok (.str (Txt.mul x n)) else .bad
 | _,_=>.bad
theorem aFZ:dQ dMulS:=by intro a b e h;unfold dMulS at h;split at h<;>(try split at h)<;>cases h
theorem aC2{x:Str}{n:Int}(h1:x.length<=1000)(h2:0<=n)(c:n<=1000):MulOk x n:=by
 refine ⟨by simp;omega,fun a b=>?_,fun a b=>?_⟩
 ·have:(2 ^ 63 - 1:Int) / 1000<=(2 ^ 63 - 1:Int) / n:=by
   apply Int.le_ediv_of_mul_le (by omega)
   have:(2 ^ 63 - 1:Int) / 1000 * n<=(2 ^ 63 - 1:Int) / 1000 * 1000:=Int.mul_le_mul_of_nonneg_left c (by decide)
   omega
  omega
 ·have:x.length * n.toNat<=1000 * 1000:=EM h1 (by omega)
  unfold Builtin.Str.tooLong
  have:sizeLine=16777216:=rfl
  exact A7 (by omega)
theorem vC{x:Const}{es:List Expr}{k:Nat}{p:Pos}{env:Env}:starEach (.Constant x k p::es) env=(false,eval (.Constant x k p) env)::starEach es env:=by rfl
section
variable{X:Cx}{c:Ct}
theorem aKN:OpR X (binaryOp .Mult) (r2D (b7 c) (b7 c) (c6 c) dMulS):=by
 intro pins s σ H v u x y Q I m i h
 obtain ⟨o,H1,F,a,b,d,l,g,j,e,q⟩:=h
 unfold dMulS at e
 split at e
 ·split at e
  ·rename_i z n f
   cases e
   obtain rfl:=bE.str_of g
   obtain rfl:=bE.int_of j
   obtain ⟨t,rfl⟩:=m
   obtain ⟨r,rfl⟩:=i
   exact SB.mul (aC2 f.1 f.2.1 f.2.2) fun p k=>⟨.str _,H,I.tok _,⟨_,rfl⟩,q _ F H (Ext.refl l) (.str _)⟩
  ·cases e
 ·cases e
end
end Fl
namespace Mc
open PySem L2 PyProof.Rows Fl
noncomputable def aF0:Sg->R D3:=(z6 (eV 8) (eV 9) (eSl nSl (rV 7) oNo (oSo (e2 bL (rV 8) (rV 9)))))
noncomputable def lM:Sg->R D3:=(m6 (iJ (e1 cJ (d3 (aA (eV 1) (aA (eV 2) (aA (eV 3) aM))))) (stN 4) crC)
 (m6 (bN 5 (aW 1 iP (aA (vV 0) aM)))
 (m6 (bN 6 (aW 3 iO (aA (vV 5) (aA (aW 3 fH (aA (vV 5) (aA (vD (eC (.int 0))) (aA (vV 1) aM)))) (aA (vV 2) aM)))))
 (m6 (dW 7 (fR [none,some 5,some 3] (e1 cJ (e2 dIx (rV 6) (eC (.int 0)))) (stN 0) gS (e2 dIx (e2 dIx (rV 1) (eC (.int 1))) (eA (aW 3 fH (aA (vV 1) (aA (vV 0) (aA (vV 2) aM))))))))
 (m6 (bN 8 (vD (e2 dIx (rV 6) (eC (.int 1)))))
 (m6 (bN 9 (aW 1 gZ (aA (vD (eSl dSl (rV 7) (oSo (rV 8)) oNo)) aM)))
 (m6 (bS crT crB) aF0)))))))
noncomputable def eS:List A->R D3:=fn3 10 lM
noncomputable def mC:Sg->R Fw:=(aN (iJ (e1 cJ (eV 2)) (stN 3) (bN 1 (vD (e2 dIx (e2 dIx (rV 0) (rV 1)) (e2 mY (eC (.str "abc")) (rV 3))))))
 (bX (vV 1)))
noncomputable def dA:List A->R A:=fnF 4 mC
noncomputable def rdT:Sg->R Bool:=(jM (e1 asB (e2 dGt (rV 3) (eC (.int 0)))) (e1 asB (e2 dEq (e2 dIx (rV 0) (e2 dSub (rV 3) (eC (.int 1)))) (e2 dIx (rV 0) (e2 bL (e2 dSub (rV 3) (eC (.int 1))) (rV 2))))))
noncomputable def rdB:Sg->R Fw:=(bN 3 (vD (e2 dSub (rV 3) (eC (.int 1)))))
noncomputable def rdF:Sg->R Fw:=(aN (bN 3 (vD (e2 dSub (e1 dLen (rV 0)) (rV 2))))
 (aN (bS rdT rdB)
 (sIf (e1 asB (e2 dLe (rV 3) (rV 1))) (bX (vD (d3 (aA (eV 3) (aA (eV 2) aM))))) sNx)))
noncomputable def kR:Sg->R Fw:=(aN (iJ (xL (eC (.int 1)) (e2 bL (rV 1) (eC (.int 1)))) (stN 2) rdF) (bX (vD (eC .none))))
noncomputable def d9:List A->R A:=fnF 4 kR
noncomputable def lN:Sg->R Fw:=(aN (sIf (bOr (qI (e1 asB (e1 (iK "tuple") (rV 0)))) (bOr (e1 asB (e2 dNe (e1 dLen (rV 0)) (eC (.int 3)))) (bOr (qI (e1 asB (eA (aW 1 iN (aA (vD (e2 dIx (rV 0) (eC (.int 0)))) aM))))) (qI (e1 asB (eA (aW 1 iN (aA (vD (e2 dIx (rV 0) (eC (.int 1)))) aM)))))))) (bX (vD (eC (.bool false)))) sNx)
 (bX (vD (aBA (e2 dEq (eSl dSl (rV 0) oNo (oSo (eC (.int 2)))) (rV 1)) (aBA (e1 (iK "list") (e2 dIx (rV 0) (eC (.int 2)))) (e2 dEq (e2 dIx (rV 0) (eC (.int 2))) (eSl dSl (rV 2) oNo (oSo (e2 bL (e2 dIx (rV 1) (eC (.int 0))) (e2 dIx (rV 1) (eC (.int 1))))))))))))
noncomputable def fW:List A->R A:=fnF 3 lN
noncomputable def aF1:Sg->R Fw:=(aN (lV (stT [(stN 1),(stN 2)]) (eA (aW 2 gN (aA (vV 0) (aA (vD (eC (.int 0))) aM)))))
 (aN (lV (stT [(stN 3),(stN 4),(stN 5)]) (eV 2))
 (aN (bN 6 (vD (e1 dLen (e2 dIx (e2 dIx (rV 1) (eC (.int 0))) (eC (.int 1))))))
 (aN (dW 7 (fR [none,some 0,some 6] (dJ (eC (.int 3))) (stN 0) gS (eA (aW 4 dN (aA (vV 1) (aA (vD (e2 bL (eC (.int 12)) (e2 dMul (eC (.int 4)) (rV 0)))) (aA (vD (e2 dMod (eA (aW 2 bD (aA (vV 1) (aA (vD (e2 bL (eC (.int 9)) (rV 0))) aM)))) (eC (.int 5)))) (aA (vV 2) aM))))))))
 (aN (sIf (e1 asB (e2 dEq (e2 dMod (eA (aW 2 bD (aA (vV 0) (aA (vD (eC (.int 8))) aM)))) (eC (.int 2))) (eC (.int 1)))) (aBC 7 (eC (.int 2)) (eC (.str ""))) sNx)
 (aN (bN 8 (aW 3 dA (aA (vV 4) (aA (vD (eC (.int 0))) (aA (vD (e2 dIx (rV 7) (eC (.int 0)))) aM)))))
 (aN (dW 9 (eJ aM))
 (aN (iJ (dJ (e2 bL (e2 dMul (eC (.int 3)) (e1 dLen (rV 3))) (eC (.int 2)))) (stN 10) (aN (fY 9 (e2 dIx (rV 5) (eA (aW 3 dA (aA (vV 4) (aA (vV 8) (aA (vD (e2 dIx (rV 7) (eC (.int 2)))) aM)))))))
 (bN 8 (aW 3 dA (aA (vV 4) (aA (vV 8) (aA (vD (e2 dIx (rV 7) (eC (.int 1)))) aM)))))))
 (aN (sFz 9 (bN 11 (aW 2 d9 (aA (vV 9) (aA (vD (e1 dLen (rV 3))) aM)))))
 (aN (iJ (dJ (eC (.int 2))) (stN 12) (sFz 9 (aFY 13 4 3 (e1 asB (e2 dEq (e2 dIx (rV 7) (eC (.int 2))) (eC (.str "")))) eS [.d (.str "")] (aA (vV 1) (aA (vD (e2 dIx (rV 7) (eC (.int 0)))) (aA (vD (e2 dIx (rV 7) (eC (.int 1)))) aM))) (aA (vV 1) (aA (vD (e2 dIx (rV 7) (eC (.int 0)))) (aA (vD (e2 dIx (rV 7) (eC (.int 1)))) (aA (vD (e2 dIx (rV 7) (eC (.int 2)))) aM)))) (e1 asB (e2 dIs (rV 11) (eC .none))) fW (aA (vV 11) (aA (vV 9) aM)))))
 (aN (iJ (e1 cJ (eL (eJ (aA (eC (.int 0)) (aA (eC (.int 1)) (aA (eC (.int 2)) (aA (e2 dIx (rV 11) (eC (.int 0))) (aA (e2 dSub (e2 bL (e2 dIx (rV 11) (eC (.int 0))) (e2 dIx (rV 11) (eC (.int 1)))) (eC (.int 1))) (aA (e2 bL (e2 dIx (rV 11) (eC (.int 0))) (e2 dIx (rV 11) (eC (.int 1)))) aM))))))))) (stN 10) (sIf (e1 asB (e2 dNe (eA (aW 2 eN (aA (vV 1) (aA (vD (e2 bL (e2 bL (e2 dIx (rV 7) (eC (.int 0))) (e2 dMulS (e2 dIx (rV 7) (eC (.int 1))) (e2 (d2 qP) (rV 10) (eC (.int 30))))) (e2 dIx (rV 7) (eC (.int 2))))) aM)))) (e2 dIx (rV 9) (e2 (d2 qP) (rV 10) (eC (.int 30)))))) (bX (vD (eC (.bool false)))) sNx))
 (bX (vD (eC (.bool true)))))))))))))))
noncomputable def aF2:List A->R A:=fnF 14 aF1
def top(i:Nat):Stmt:=PySem.Challenge.pw_striproam_k36_comes_round_by_words.main.body.getD i (.Pass ⟨0,0,0,0⟩)
def eB:ClSt:=clS "one_way.<locals>.after" ((cL (top 19)).getD 1 (.Pass ⟨0,0,0,0⟩))
def g7:Pos:=aSW ((cL (top 19)).getD 1 (.Pass ⟨0,0,0,0⟩))
def g8:ClSt:=clE "one_way.<locals>.<lambda>" (aP6 (aP5 ((cL (top 19)).getD 2 (.Pass ⟨0,0,0,0⟩))) 2)
def hZ:Pos:=aSX (aP6 (aP5 ((cL (top 19)).getD 2 (.Pass ⟨0,0,0,0⟩))) 2)
def qsT:List (Pos×Str):=[(g7,("one_way.<locals>.after":Str)),(hZ,("one_way.<locals>.<lambda>":Str))]
structure Txt(w:World)(K:Frag)(mg:Str->Option Value):Prop where
 b_bool:mg "bool"=none
 b_enumerate:mg "enumerate"=none
 b_int:mg "int"=none
 b_isinstance:mg "isinstance"=none
 b_len:mg "len"=none
 b_list:mg "list"=none
 b_min:mg "min"=none
 b_range:mg "range"=none
 b_str:mg "str"=none
 b_tuple:mg "tuple"=none
 g_MOST_BEGINNINGS:∃ t,mg "MOST_BEGINNINGS"=some (.int 200 t)
 g_SIGNS:∃ t,mg "SIGNS"=some (.str "abc" t)
section
variable{P:Program}{w:World}{K:Frag}{mg:Str->Option Value}{base:Heap}{TH:Hp}
theorem uC:FnScope ["machine"] ["machine"] (aL (top 6)):=by constructor<;>first|rfl|decide +kernel
theorem aC3(T:Txt w K mg)(D:DefAt K mg "signs_of" (top 6) ["machine"]):a7 P w K mg base TH 1 "signs_of" ["machine"] gW:=
 @cQ P w K mg base TH "signs_of" (top 6) ["machine"] ["machine"] 0 qR D uC (fun f a A outer s H F E b=>by
  have nd:=uC.nd
  exact (Fl.aP (Fl.bM (aT (cZ rfl (bK cG rfl T.b_len A6 (aJ (aB (aY (aZ rfl) aH (aB (aY (aZ rfl) aH (aC (pv 0)) (aB aE))) (aB aE))) aU)))))))
theorem uD:FnScope ["machine","number"] ["machine","number"] (aL (top 7)):=by constructor<;>first|rfl|decide +kernel
theorem aC4(T:Txt w K mg)(D:DefAt K mg "cells_of" (top 7) ["machine","number"]):a7 P w K mg base TH 1 "cells_of" ["machine","number"] kA:=
 @cQ P w K mg base TH "cells_of" (top 7) ["machine","number"] ["machine","number"] 0 qS D uD (fun f a A outer s H F E c=>by
  have nd:=uD.nd
  exact (Fl.aP (Fl.bM (aT (fN (j8 (j4 (N:=["row","number"]) (js:=[none,some 1]) rfl (.own (.cap rfl (.inl rfl) (.inl rfl) .nil)) (by rfl) (r6 rfl (aC (pv 0)))) (by decide) (by decide) (is:=[0]) (fun cl C e b d=>⟨_,(bO (i:=0) (show (["row","number"]:List Str).Nodup by decide +kernel) rfl (Or.inl rfl)),(bQ 0),Fl.fA,(aY (aZ rfl) aH (aB (aY (aZ rfl) aH (aC (pv 0)) (aB aE))) (aC (pv 1)))⟩)))))))
theorem qZ:FnScope ["signs","strip","known","at","sign"] ["signs","strip"] (aL (top 8)):=by constructor<;>first|rfl|decide +kernel
theorem zK(T:Txt w K mg)(D:DefAt K mg "checked_by" (top 8) ["signs","strip"]){W_NoStrip C_NoStrip:Addr}(a:ErrAt P w K mg base "NoStrip" ["at"] W_NoStrip C_NoStrip):a7 P w K mg base TH 3 "checked_by" ["signs","strip"] jP:=
 @cQ P w K mg base TH "checked_by" (top 8) ["signs","strip","known","at","sign"] ["signs","strip"] 2 oA D qZ (fun f c A outer s H F E b=>by
  have nd:=qZ.nd
  exact (Fl.aF (Fl.aK (L2.aK (i:=2) nd rfl (Or.inl rfl) (aT (iU rfl (aB (iT (pB (v:=.str "abc") rfl T.g_SIGNS.choose_spec ⟨_,rfl⟩) fun _=>.str _)) mH (mI (aC (pv 0)))))))
   (Fl.aF (Fl.cU (mU rfl (dG (bQ 3) (dG (bQ 4) kY)) rfl) (L2.cU (cS ⟨rfl,rfl⟩) rfl (aPM rfl (aLY rfl T.b_enumerate (aJ (bF (pv 1)) aU)) (aI6 rfl T.b_enumerate (aJ (bF (pv 1)) aU))) (mO rfl (dF (bO (i:=3) nd rfl (Or.inl rfl)) (dF (bO (i:=4) nd rfl (Or.inl rfl)) kT)))
   (Fl.aP (Fl.dO (Fl.cK (aMF rfl b.units) aHH (aC (pv 4)) (aC (pv 2)) (by with_unfolding_all rfl)) (Fl.aP (Fl.uJ a.m (by decide) (aGX rfl a rfl (b.mono (by decide)) (aR (bF (pv 3)) bR)))) Fl.cR))))
   (Fl.aP (Fl.bM (aQ (pv 1)))))))
theorem wV:FnScope ["machine","strip"] ["machine","strip"] (aL (top 9)):=by constructor<;>first|rfl|decide +kernel
theorem aF3(T:Txt w K mg)(D:DefAt K mg "checked" (top 9) ["machine","strip"])(a:a7 P w K mg base TH 3 "checked_by" ["signs","strip"] jP)(b:a7 P w K mg base TH 1 "signs_of" ["machine"] gW):a7 P w K mg base TH 4 "checked" ["machine","strip"] jQ:=
 @cQ P w K mg base TH "checked" (top 9) ["machine","strip"] ["machine","strip"] 3 sE D wV (fun f d A outer s H F E c=>by
  have nd:=wV.nd
  exact (Fl.aP (Fl.bM (b8 rfl rfl rfl (bZ a (c.mono (by decide)) rfl (cA fun _ _ _ h=>h) (aD (b8 rfl rfl rfl (bZ b (c.mono (by decide)) rfl (cA fun _ _ _ h=>h) (aD (aQ (pv 0)) bB))) (aD (aQ (pv 1)) bB)))))))
theorem wW:FnScope ["begin","after","done","found","numbers","rows","row","thing"] ["begin","after","done"] (aL (top 11)):=by constructor<;>first|rfl|decide +kernel
theorem aF4(T:Txt w K mg)(D:DefAt K mg "reached" (top 11) ["begin","after","done"]):a7 P w K mg base TH 13 "reached" ["begin","after","done"] kZ:=
 @cQ P w K mg base TH "reached" (top 11) ["begin","after","done","found","numbers","rows","row","thing"] ["begin","after","done"] 12 sG D wW (fun f b A outer s H F E a=>by
  have nd:=wW.nd
  exact (Fl.aF (fQ (L2.aK (i:=3) nd rfl (Or.inl rfl) (eP (aR (bF (pv 0)) bR))))
   (Fl.aF (aDX rfl rfl (L2.aK (i:=4) nd rfl (Or.inl rfl) (aDV a.units (aBH (bF (pv 0)) aE aDW))))
   (Fl.aF (fQ (L2.aK (i:=5) nd rfl (Or.inl rfl) (eP bR)))
   (Fl.aF (Fl.cP (L2.cP (cS ⟨rfl,rfl⟩) (PW.pt (Fl.kE (Fl.cK vZ qH (aB (cZ rfl (bK cG rfl T.b_len A6 (aJ (aC (pv 5)) aU)))) (aB (cZ rfl (bK cG rfl T.b_len A6 (aJ (aC (pv 3)) aU)))) (cE _)) (Fl.j2 (Fl.k9 (Fl.iB (aMT (m:=12) rfl rfl rfl (a.mono (by decide)) (aBJ (pv 2) (cA fun _ _ _ h=>h) (aBL (aC (pv 3)) (aBL (aB (cZ rfl (bK cG rfl T.b_len A6 (aJ (aC (pv 5)) aU)))) aMS)))))))))
   (Fl.aF (fQ (L2.aK (i:=6) nd rfl (Or.inl rfl) (eP bR)))
   (Fl.aF (Fl.cU (bQ 7) (L2.cU (cS ⟨rfl,rfl⟩) rfl (xK rfl (aPZ (m:=12) rfl rfl rfl (a.mono (by decide)) (aBJ (pv 1) (cA fun _ _ _ h=>h) (aR (aY (aZ rfl) aH (aC (pv 3)) (aB (cZ rfl (bK cG rfl T.b_len A6 (aJ (aC (pv 5)) aU))))) bR)))) (bO (i:=7) nd rfl (Or.inl rfl))
   (Fl.aF (Fl.dO (n6 rfl rfl (kU (qN a.units) (bF (pv 7)) (pv 4) (by with_unfolding_all rfl))) (Fl.aF (Fl.lU rfl rfl (gI (cZ rfl (bK cG rfl T.b_len A6 (aJ (aC (pv 3)) aU))) (mP (pv 4) (bF (pv 7)) (kL a.units))))
   (Fl.aP (i7 rfl (L2.eU (gU BM BH BI eE (pv 3) (aJ (bF (pv 7)) aU)))))) Fl.cR)
   (Fl.aP (i7 rfl (L2.eU (gU BM BH BI eE (pv 6) (aJ (xT rfl rfl (xS a.units (pv 4) (bF (pv 7)) (fun _ _=>rfl))) aU))))))))
   (Fl.aP (i7 rfl (L2.eU (gU BM BH BI eE (pv 5) (aJ (fX rfl (dE c8 rfl T.b_tuple BN (aJ (aC (pv 6)) aU))) aU)))))))))
   (Fl.aP (qJ 5 (qJ 3 (Fl.bM (aT (dR (aR (bF (pv 3)) (aR (bF (pv 5)) bR)))))))))))))
end
section
variable{P:Program}{w:World}{K:Frag}{mg:Str->Option Value}{base:Heap}{TH:Hp}
theorem wX:FnScope ["part"] ["part"] (aL (top 14)):=by constructor<;>first|rfl|decide +kernel
theorem aF5(T:Txt w K mg)(D:DefAt K mg "is_word" (top 14) ["part"]):a7 P w K mg base TH 1 "is_word" ["part"] gE:=
 @cQ P w K mg base TH "is_word" (top 14) ["part"] ["part"] 0 oS D wX (fun f a A outer s H F E b=>by
  have nd:=wX.nd
  exact (Fl.aP (Fl.bM (aT (mX (bK (jO rfl (tO _)) rfl T.b_isinstance B2 (aJ (aC (pv 0)) (aJ (kS (v:=.ty "str") rfl T.b_str D2 rfl) aU))))))))
theorem oI:FnScope ["machine","lefts"] ["machine"] (aL (top 15)):=by constructor<;>first|rfl|decide +kernel
theorem vE(T:Txt w K mg)(D:DefAt K mg "without_signs" (top 15) ["machine"]):a7 P w K mg base TH 1 "without_signs" ["machine"] gX:=
 @cQ P w K mg base TH "without_signs" (top 15) ["machine","lefts"] ["machine"] 0 lE D oI (fun f a A outer s H F E c=>by
  have nd:=oI.nd
  exact (Fl.aF (Fl.aK (L2.aK (i:=1) nd rfl (Or.inl rfl) (aT (fX rfl (dE c8 rfl T.b_tuple BN (aJ (aB (fN (j8 (j4 (N:=["row"]) (js:=[none]) rfl (.own .nil) (by rfl) (r6 rfl (aC (pv 0)))) (by decide) (by decide) (is:=[0]) (fun cl C e b d=>⟨_,(bO (i:=0) (show (["row"]:List Str).Nodup by decide +kernel) rfl (Or.inl rfl)),(bQ 0),Fl.fA,(aY (aZ rfl) aH (aC (pv 0)) (aB aE))⟩)))) aU))))))
   (Fl.aP (Fl.bM (aT (dR (aR (aY (aZ rfl) aH (aC (pv 1)) (aB aE)) (aR (bF (pv 1)) bR))))))))
theorem wY:FnScope ["backs","cells","room","been","cell"] ["backs","cells","room"] (aL (top 16)):=by constructor<;>first|rfl|decide +kernel
theorem aF6(T:Txt w K mg)(D:DefAt K mg "gone_on" (top 16) ["backs","cells","room"])(a:a7 P w K mg base TH 1 "is_word" ["part"] gE):a7 P w K mg base TH 2 "gone_on" ["backs","cells","room"] jR:=
 @cQ P w K mg base TH "gone_on" (top 16) ["backs","cells","room","been","cell"] ["backs","cells","room"] 1 sH D wY (fun f c A outer s H F E b=>by
  have nd:=wY.nd
  exact (Fl.aF (pI rfl (L2.aK (i:=3) nd rfl (Or.inl rfl) pH))
   (Fl.aF (Fl.cP (L2.cP (cS ⟨rfl,rfl⟩) (Fl.k9 (Fl.iB (c7 (b8 rfl rfl rfl (bZ a (b.mono (by decide)) rfl (cA fun _ _ _ h=>h) (aD (aQ (pv 2)) bB))))))
   (Fl.aF (Fl.dO (n6 rfl rfl (kU (xR b.units) (bF (pv 2)) (pv 3) (by with_unfolding_all rfl))) (Fl.aP (Fl.bM (aT eO))) Fl.cR)
   (Fl.aF (Fl.lU rfl rfl (gI oO (mP (pv 3) (bF (pv 2)) (kL b.units))))
   (Fl.aF (Fl.aK (L2.aK (i:=4) nd rfl (Or.inl rfl) (aT (aY (aZ rfl) aH (aC (pv 1)) (aC (pv 2))))))
   (Fl.aF (Fl.dO (Fl.cK (iG rfl b.units) fE (aB (aY (aZ rfl) aH (aC (pv 4)) (aB aE))) (aB aE) (cE _)) (Fl.aP (Fl.bM (aT (aY (aZ rfl) aH (aC (pv 4)) (aB aE))))) Fl.cR)
   (Fl.aP (Fl.aK (L2.aK (i:=2) nd rfl (Or.inl rfl) (aT (aY (aZ rfl) aH (aC (pv 0)) (aB (aY (aZ rfl) aH (aC (pv 4)) (aB aE))))))))))))))
   (Fl.aP (Fl.bM (aQ (pv 2)))))))
theorem zH:FnScope ["begun","cells","first","backs"] ["begun","cells"] (aL (top 17)):=by constructor<;>first|rfl|decide +kernel
theorem aIK(T:Txt w K mg)(D:DefAt K mg "longer" (top 17) ["begun","cells"])(a:a7 P w K mg base TH 2 "gone_on" ["backs","cells","room"] jR):a7 P w K mg base TH 3 "longer" ["begun","cells"] iW:=
 @cQ P w K mg base TH "longer" (top 17) ["begun","cells","first","backs"] ["begun","cells"] 2 uY D zH (fun f c A outer s H F E b=>by
  have nd:=zH.nd
  exact (Fl.aF (Fl.aK (L2.aK (i:=2) nd rfl (Or.inl rfl) (b8 rfl rfl rfl (bZ a (b.mono (by decide)) rfl (cA fun _ _ _ h=>h) (aD (aT (aY (aZ rfl) aH (aC (pv 0)) (aB aE))) (aD (aQ (pv 1)) (aD (aT (aY (aZ rfl) aH (aC (pv 0)) (aB aE))) bB)))))))
   (Fl.aF (Fl.aK (L2.aK (i:=3) nd rfl (Or.inl rfl) (aT (fX rfl (dE c8 rfl T.b_tuple BN (aJ (aB (fN (j8 (j4 (N:=["room","begun","cells"]) (js:=[none,some 0,some 1]) rfl (.own (.cap rfl (.inl rfl) (.inl rfl) (.cap rfl (.inl rfl) (.inl rfl) .nil))) (by rfl) (v4 (iI (fK rfl T.b_range (aJ (aB (cZ rfl (bK cG rfl T.b_len A6 (aJ (aC (pv 1)) aU)))) aU))))) (by decide) (by decide) (is:=[0]) (fun cl C g d e=>⟨_,(bO (i:=0) (show (["room","begun","cells"]:List Str).Nodup by decide +kernel) rfl (Or.inl rfl)),(bQ 0),Fl.fA,(c7 (b8 rfl rfl rfl (bZ a (b.mono (by decide)) rfl mE (aD (aT (aY (aZ rfl) aH (aC (pv 1)) (aB aE))) (aD (aQ (pv 2)) (aD (aQ (pv 0)) bB))))))⟩)))) aU))))))
   (Fl.aP (Fl.bM (aT (dR (aR (bF (pv 2)) (aR (bF (pv 3)) bR)))))))))
theorem pV:FnScope ["machine","begun","room","been","turn"] ["machine","begun"] (aL (top 18)):=by constructor<;>first|rfl|decide +kernel
theorem yH(T:Txt w K mg)(D:DefAt K mg "word_behind" (top 18) ["machine","begun"])(a:a7 P w K mg base TH 1 "is_word" ["part"] gE):a7 P w K mg base TH 2 "word_behind" ["machine","begun"] eX:=
 @cQ P w K mg base TH "word_behind" (top 18) ["machine","begun","room","been","turn"] ["machine","begun"] 1 m7 D pV (fun f c A outer s H F E b=>by
  have nd:=pV.nd
  exact (Fl.aF (Fl.aK (L2.aK (i:=2) nd rfl (Or.inl rfl) (aT (aY (aZ rfl) aH (aC (pv 1)) (aB aE)))))
   (Fl.aF (pI rfl (L2.aK (i:=3) nd rfl (Or.inl rfl) pH))
   (Fl.aF (Fl.cP (L2.cP (cS ⟨rfl,rfl⟩) (Fl.k9 (Fl.iB (c7 (b8 rfl rfl rfl (bZ a (b.mono (by decide)) rfl (cA fun _ _ _ h=>h) (aD (aQ (pv 2)) bB))))))
   (Fl.aF (Fl.dO (n6 rfl rfl (kU (xR b.units) (bF (pv 2)) (pv 3) (by with_unfolding_all rfl))) (Fl.aP (Fl.bM (aT eO))) Fl.cR)
   (Fl.aF (Fl.lU rfl rfl (gI oO (mP (pv 3) (bF (pv 2)) (kL b.units))))
   (Fl.aF (Fl.aK (L2.aK (i:=4) nd rfl (Or.inl rfl) (aT (aY (aZ rfl) aH (aB (aY (aZ rfl) aH (aC (pv 0)) (aC (pv 2)))) (aB aE)))))
   (Fl.aP (Fl.aK (L2.aK (i:=2) nd rfl (Or.inl rfl) (aT (aLA (Fl.iB (c7 (b8 rfl rfl rfl (bZ a (b.mono (by decide)) rfl (cA fun _ _ _ h=>h) (aD (aQ (pv 4)) bB))))) (bF (pv 4)) (aY (aZ rfl) aH (aB (aY (aZ rfl) aH (aC (pv 1)) (aB aE))) (aC (pv 4)))))))))))))
   (Fl.aP (Fl.bM (aQ (pv 2))))))))
end
section
variable{P:Program}{w:World}{K:Frag}{mg:Str->Option Value}{base:Heap}{TH:Hp}
theorem iA:CloScope ["begun","columns"] ["begun"] ["columns"] eB.scope:=⟨rfl,rfl,rfl,by decide +kernel,rfl,by decide +kernel,by decide +kernel,by decide +kernel,by decide +kernel⟩
theorem tX:∀ y∈eB.scope.names,y.2=.free->(aL (top 19)).names.lookup y.1=some .cell\/(aL (top 19)).names.lookup y.1=some .free:=by decide +kernel
theorem sR:(g7,("one_way.<locals>.after":Str))∈qsT:=(.head _)
theorem tY:∀ p∈qsT,p.1.line=g7.line->p.1.col=g7.col->p.2=("one_way.<locals>.after":Str):=by decide +kernel
theorem sS(T:Txt w K mg)(a:a7 P w K mg base TH 3 "longer" ["begun","cells"] iW):CloOk P w K mg base TH eB ["columns"] 4 1 (lD 2 d5):=
 @aP1 P w K mg base TH eB ["begun","columns"] ["begun"] ["columns"] 3 _ d5 rfl iA (fun _ _ _ _ _=>Mc.bn1 fun _=>rfl) (fun f e cl A outer s H F E d b=>by
  have nd:=iA.nd
  exact (Fl.aP (Fl.bM (aT (fN (j8 (j4 (N:=["cells","begun"]) (js:=[none,some 0]) rfl (.own (.cap rfl (.inl rfl) (.inl rfl) .nil)) (by rfl) (r6 rfl (aC (pv 1)))) (by decide) (by decide) (is:=[0]) (fun cl C h c g=>⟨_,(bO (i:=0) (show (["cells","begun"]:List Str).Nodup by decide +kernel) rfl (Or.inl rfl)),(bQ 0),Fl.fA,(c7 (b8 rfl rfl rfl (bZ a (b.mono (by decide)) rfl mE (aD (aQ (pv 1)) (aD (aQ (pv 0)) bB)))))⟩)))))))
theorem i6:CloScope ["found","at"] ["found","at"] [] g8.scope:=⟨rfl,rfl,rfl,by decide +kernel,rfl,by decide +kernel,by decide +kernel,by decide +kernel,by decide +kernel⟩
theorem vF:∀ y∈g8.scope.names,y.2=.free->(aL (top 19)).names.lookup y.1=some .cell\/(aL (top 19)).names.lookup y.1=some .free:=by decide +kernel
theorem tZ:(hZ,("one_way.<locals>.<lambda>":Str))∈qsT:=(.tail _ (.head _))
theorem vG:∀ p∈qsT,p.1.line=hZ.line->p.1.col=hZ.col->p.2=("one_way.<locals>.<lambda>":Str):=by decide +kernel
theorem t4(T:Txt w K mg):CloOk P w K mg base TH g8 [] 1 2 (lD 2 fS):=
 @aP2 P w K mg base TH g8 ["found","at"] ["found","at"] [] 0 _ (e2 dGt (e1 dLen (rV 0)) (eC (.int 200))) rfl i6 (fun _ _ _ _ _=>Mc.bn2 fun _ _=>rfl) (fun f a cl A outer s H F E b c=>by
  have nd:=i6.nd
  exact (pG jL gJ (aB (cZ rfl (bK cG rfl T.b_len A6 (aJ (aC (pv 0)) aU)))) (aB (iT (pB (v:=.int 200) rfl T.g_MOST_BEGINNINGS.choose_spec ⟨_,rfl⟩) fun _=>.int _)) (cE _)))
theorem wZ:FnScope ["machine","columns","after","search","found"] ["machine"] (aL (top 19)):=by constructor<;>first|rfl|decide +kernel
theorem aF7(T:Txt w K mg)(D:DefAtT K mg base TH qsT "one_way" (top 19) ["machine"])(e:a7 P w K mg base TH 1 "signs_of" ["machine"] gW)(d:a7 P w K mg base TH 1 "cells_of" ["machine","number"] kA)(j:a7 P w K mg base TH 3 "longer" ["begun","cells"] iW)(g:a7 P w K mg base TH 13 "reached" ["begin","after","done"] kZ)(b:a7 P w K mg base TH 1 "without_signs" ["machine"] gX)(c:a7 P w K mg base TH 2 "word_behind" ["machine","begun"] eX){Wp_TooMany Cp_TooMany:Addr}(a:ErrP K mg "TooMany" Wp_TooMany Cp_TooMany):a7 P w K mg base TH 14 "one_way" ["machine"] iP:=
 @aM1 P w K mg base TH "one_way" (top 19) ["machine","columns","after","search","found"] ["machine"] 13 qsT (fun q=>[(("one_way.<locals>.after":Str),eB)].lookup q) oU D wZ (fun f c0 P0 A outer s H F E n o l=>by
  have nd:=wZ.nd
  exact (Fl.aF (fQ (L2.aK (i:=1) nd rfl (Or.inr rfl) (j8 (j4 (N:=["number","machine"]) (js:=[none,some 0]) rfl (.own (.cap rfl (.inl rfl) (.inl rfl) .nil)) (by rfl) (v4 (iI (fK rfl T.b_range (aJ (aB (c7 (b8 rfl rfl rfl (bZ e (l.mono (by decide)) rfl (cA fun _ _ _ h=>h) (aD (aQ (pv 0)) bB))))) aU))))) (by decide) (by decide) (is:=[0]) (fun cl C t p r=>⟨_,(bO (i:=0) (show (["number","machine"]:List Str).Nodup by decide +kernel) rfl (Or.inl rfl)),(bQ 0),Fl.fA,(c7 (b8 rfl rfl rfl (bZ d (l.mono (by decide)) rfl mE (aD (aQ (pv 1)) (aD (aQ (pv 0)) bB)))))⟩))))
   (Fl.aF (aMX (S:=eB) rfl rfl o (L2.aPB rfl n rfl sR tY tX rfl rfl rfl nd rfl (Or.inl rfl)))
   (Fl.aF (qJ 1 (Fl.aK (L2.aK (i:=3) nd rfl (Or.inl rfl) (aP4 (js:=[1]) rfl rfl rfl rfl rfl rfl rfl (aM2 ⟨_,rfl,rfl,rfl⟩ aP7) (L2.aPD g (l.mono (by decide)) rfl (cA fun _ _ _ h=>h) (uW (aRW (b8 rfl rfl rfl (bZ b (l.mono (by decide)) rfl (cA fun _ _ _ h=>h) (aD (aQ (pv 0)) bB)))) (uW (aMY (S:=eB) rfl (sS T j) (fun y k=>iA.only (y,.free) k rfl) (fun y k=>BE (iA.cap y k)) rfl (by decide) (pv 2)) (uW (aP3 (S:=g8) rfl o (t4 T ) (fun y k=>i6.only (y,.free) k rfl) (fun y k=>BE (i6.cap y k)) rfl (by decide) (L2.aPC rfl n rfl tZ vG vF rfl)) aMZ))))))))
   (Fl.aF (Fl.aK (L2.aK (i:=4) nd rfl (Or.inl rfl) (aT (aY (aZ rfl) aH (aC (pv 3)) (aB aE)))))
   (Fl.aF (Fl.dO (Fl.cK jL gJ (aB (cZ rfl (bK cG rfl T.b_len A6 (aJ (aC (pv 4)) aU)))) (aB (iT (pB (v:=.int 200) rfl T.g_MOST_BEGINNINGS.choose_spec ⟨_,rfl⟩) fun _=>.int _)) (cE _)) (Fl.aP (aHT a.m (L2.y9 rfl a rfl (aJ (aPX (aB (iT (pB (v:=.int 200) rfl T.g_MOST_BEGINNINGS.choose_spec ⟨_,rfl⟩) fun _=>.int _))) aU)))) Fl.cR)
   (Fl.aP (Fl.bM (aT (dR (aR (fX rfl (dE c8 rfl T.b_tuple BN (aJ (aB (aY (aZ rfl) aH (aC (pv 3)) (aB aE))) aU))) (aR (fX rfl (dE c8 rfl T.b_tuple BN (aJ (aB (fN (j8 (j4 (N:=["begun","machine"]) (js:=[none,some 0]) rfl (.own (.cap rfl (.inl rfl) (.inl rfl) .nil)) (by rfl) (r6 rfl (aC (pv 4)))) (by decide) (by decide) (is:=[0]) (fun cl C t p r=>⟨_,(bO (i:=0) (show (["begun","machine"]:List Str).Nodup by decide +kernel) rfl (Or.inl rfl)),(bQ 0),Fl.fA,(c7 (b8 rfl rfl rfl (bZ c (l.mono (by decide)) rfl mE (aD (aQ (pv 1)) (aD (aQ (pv 0)) bB)))))⟩)))) aU))) bR))))))))))))
theorem sT:FnScope ["reader","room","strip","sign"] ["reader","room","strip"] (aL (top 20)):=by constructor<;>first|rfl|decide +kernel
theorem aCN(T:Txt w K mg)(D:DefAt K mg "room_from" (top 20) ["reader","room","strip"]):a7 P w K mg base TH 1 "room_from" ["reader","room","strip"] fH:=
 @cQ P w K mg base TH "room_from" (top 20) ["reader","room","strip","sign"] ["reader","room","strip"] 0 o4 D sT (fun f a A outer s H F E b=>by
  have nd:=sT.nd
  exact (Fl.aF (Fl.cU (bQ 3) (L2.cU (cS ⟨rfl,rfl⟩) rfl (xK rfl (bF (pv 2))) (bO (i:=3) nd rfl (Or.inl rfl))
   (Fl.aP (Fl.aK (L2.aK (i:=1) nd rfl (Or.inl rfl) (aT (aY (aZ rfl) aH (aB (aY (aZ rfl) aH (aB (aY (aZ rfl) aH (aC (pv 0)) (aB aE))) (aC (pv 1)))) (aB (uS (gU DX ET EU uK (aB (iT (pB (v:=.str "abc") rfl T.g_SIGNS.choose_spec ⟨_,rfl⟩) fun _=>.str _)) (aJ (aC (pv 3)) aU)) (by intro ρ x h;cases h;exact ⟨_,rfl⟩))))))))))
   (Fl.aP (Fl.bM (aQ (pv 1))))))
theorem oX:FnScope ["reader","room","piece","numbers"] ["reader","room","piece"] (aL (top 22)):=by constructor<;>first|rfl|decide +kernel
theorem w4(T:Txt w K mg)(D:DefAt K mg "rooms_passed" (top 22) ["reader","room","piece"])(a:a7 P w K mg base TH 1 "room_from" ["reader","room","strip"] fH):a7 P w K mg base TH 2 "rooms_passed" ["reader","room","piece"] iO:=
 @cQ P w K mg base TH "rooms_passed" (top 22) ["reader","room","piece","numbers"] ["reader","room","piece"] 1 l6 D oX (fun f c A outer s H F E b=>by
  have nd:=oX.nd
  exact (Fl.aF (pI rfl (L2.aK (i:=3) nd rfl (Or.inl rfl) pH))
   (Fl.aF (Fl.cP (L2.cP (cS ⟨rfl,rfl⟩) (n6 rfl rfl (kU (qN b.units) (bF (pv 1)) (pv 3) (by with_unfolding_all rfl)))
   (Fl.aF (Fl.lU rfl rfl (gI (aM5 rfl rfl (bK aHU rfl T.b_len A6 (aJ (pv 3) aU))) (mP (pv 3) (bF (pv 1)) (kL b.units))))
   (Fl.aP (Fl.aK (L2.aK (i:=1) nd rfl (Or.inl rfl) (b8 rfl rfl rfl (bZ a (b.mono (by decide)) rfl (cA fun _ _ _ h=>h) (aD (aQ (pv 0)) (aD (aQ (pv 1)) (aD (aQ (pv 2)) bB)))))))))))
   (Fl.aP (Fl.bM (aT (dR (aR (fN (aJ5 rfl (dE (aFR rfl) rfl T.b_list GL (aJ (pv 3) aU)))) (aR (xT rfl rfl (xS b.units (pv 3) (bF (pv 1)) (fun _ _=>rfl))) bR)))))))))
theorem pW:FnScope ["words","length"] ["words"] (aL (top 23)):=by constructor<;>first|rfl|decide +kernel
theorem yI(T:Txt w K mg)(D:DefAt K mg "least_round" (top 23) ["words"]):a7 P w K mg base TH 1 "least_round" ["words"] gZ:=
 @cQ P w K mg base TH "least_round" (top 23) ["words","length"] ["words"] 0 lI D pW (fun f b A outer s H F E a=>by
  have nd:=pW.nd
  exact (Fl.aF (Fl.aK (L2.aK (i:=1) nd rfl (Or.inl rfl) (aT aE)))
   (Fl.aF (Fl.cP (L2.cP (cS ⟨rfl,rfl⟩) (Fl.cK (aA7 rfl a.units) uO (aB (fN (aPQ rfl (aB (iU rfl (aC (pv 0)) (mI (aC (pv 1))) mH)) (aB (iU rfl (aC (pv 0)) mH (mI (aC (pv 1)))))))) (aC (pv 0)) (cE _))
   (Fl.aP (Fl.rE aMG (L2.rE (i:=1) nd rfl (Or.inl rfl) (aB aE) aON)))))
   (Fl.aP (Fl.bM (aQ (pv 1)))))))
theorem pX:FnScope ["machine","ahead","again","behind","strip","reader","passed","words","start","length"] ["machine","ahead","again","behind"] (aL (top 24)):=by constructor<;>first|rfl|decide +kernel
theorem yJ(T:Txt w K mg)(D:DefAtD K mg "comes_round" (top 24) ["machine","ahead","again","behind"] [.str ""])(e:a7 P w K mg base TH 4 "checked" ["machine","strip"] jQ)(d:a7 P w K mg base TH 14 "one_way" ["machine"] iP)(b:a7 P w K mg base TH 2 "rooms_passed" ["reader","room","piece"] iO)(a:a7 P w K mg base TH 1 "room_from" ["reader","room","strip"] fH)(c:a7 P w K mg base TH 1 "least_round" ["words"] gZ):yG P w K mg base TH 15 "comes_round" ["machine","ahead","again","behind"] [.str ""] eS:=
 @aKM P w K mg base TH "comes_round" (top 24) ["machine","ahead","again","behind","strip","reader","passed","words","start","length"] ["machine","ahead","again","behind"] [.str ""] 14 lM D pX (fun f j A outer s H F E g=>by
  have nd:=pX.nd
  exact (jZ (Fl.cU (bQ 4) (L2.cU (cS ⟨rfl,rfl⟩) rfl (xK rfl (dR (aR (bF (pv 1)) (aR (bF (pv 2)) (aR (bF (pv 3)) bR))))) (bO (i:=4) nd rfl (Or.inl rfl))
   (Fl.aP (Fl.eU (L2.eU (b8 rfl rfl rfl (bZ e (g.mono (by decide)) rfl (cA fun _ _ _ h=>h) (aD (aQ (pv 0)) (aD (aQ (pv 4)) bB)))))))))
   (jZ (Fl.aK (L2.aK (i:=5) nd rfl (Or.inr rfl) (b8 rfl rfl rfl (bZ d (g.mono (by decide)) rfl (cA fun _ _ _ h=>h) (aD (aQ (pv 0)) bB)))))
   (jZ (Fl.aK (L2.aK (i:=6) nd rfl (Or.inl rfl) (b8 rfl rfl rfl (bZ b (g.mono (by decide)) rfl (cA fun _ _ _ h=>h) (aD (aQ (pv 5)) (aD (b8 rfl rfl rfl (bZ a (g.mono (by decide)) rfl (cA fun _ _ _ h=>h) (aD (aQ (pv 5)) (aD (aT aE) (aD (aQ (pv 1)) bB))))) (aD (aQ (pv 2)) bB)))))))
   (jZ (tM (L2.nG (i:=7) nd rfl (Or.inl rfl) (by rfl) (N:=["room","reader","behind"]) (js:=[none,some 5,some 3]) rfl (.own (.cap rfl (.inl rfl) (.inl rfl) (.cap rfl (.inl rfl) (.inl rfl) .nil))) (by rfl) (r6 rfl (aB (aY (aZ rfl) aH (aC (pv 6)) (aB aE))))) (by decide) (by decide) (is:=[0]) (fun cl C m k l=>⟨_,(bO (i:=0) (show (["room","reader","behind"]:List Str).Nodup by decide +kernel) rfl (Or.inl rfl)),(bQ 0),Fl.fA,(aY (aZ rfl) aH (aB (aY (aZ rfl) aH (aC (pv 1)) (aB aE))) (aB (c7 (b8 rfl rfl rfl (bZ a (g.mono (by decide)) rfl mE (aD (aQ (pv 1)) (aD (aQ (pv 0)) (aD (aQ (pv 2)) bB))))))))⟩))
   (jZ (Fl.aK (L2.aK (i:=8) nd rfl (Or.inl rfl) (aT (aY (aZ rfl) aH (aC (pv 6)) (aB aE)))))
   (jZ (Fl.aK (L2.aK (i:=9) nd rfl (Or.inl rfl) (b8 rfl rfl rfl (bZ c (g.mono (by decide)) rfl (cA fun _ _ _ h=>h) (aD (aT (iU rfl (aC (pv 7)) (mI (aC (pv 8))) mH)) bB)))))
   (jZ (Fl.cP (L2.cP (cS ⟨rfl,rfl⟩) (PW.pt (Fl.kE (Fl.cK jL gJ (aC (pv 8)) (aB aE) (cE _)) (Fl.j2 (Fl.cK (iG rfl g.units) fE (aB (aY (aZ rfl) aH (aC (pv 7)) (aB (aS gG eG (aC (pv 8)) (aB aE))))) (aB (aY (aZ rfl) aH (aC (pv 7)) (aB (aS (cB rfl) bP (aB (aS gG eG (aC (pv 8)) (aB aE))) (aC (pv 9)))))) (cE _)))))
   (Fl.aP (Fl.rE aMH (L2.rE (i:=8) nd rfl (Or.inl rfl) (aB aE) aOO)))))
   (aKL (aJ (bF (pv 8)) (aJ (bF (pv 9)) (aJ (aJM rfl (aC (pv 7)) mH (mI (aB (aS (cB rfl) bP (aC (pv 8)) (aC (pv 9)))))) aU))))))))))))
end
section
variable{P:Program}{w:World}{K:Frag}{mg:Str->Option Value}{base:Heap}{TH:Hp}
theorem sU:FnScope ["_law_script","_law_k","_law_cell_here","_law_mixed"] ["_law_script","_law_k"] (aL (top 26)):=by constructor<;>first|rfl|decide +kernel
theorem aCO(T:Txt w K mg)(D:DefAt K mg "_law_cell" (top 26) ["_law_script","_law_k"]):a7 P w K mg base TH 1 "_law_cell" ["_law_script","_law_k"] bD:=
 @cQ P w K mg base TH "_law_cell" (top 26) ["_law_script","_law_k","_law_cell_here","_law_mixed"] ["_law_script","_law_k"] 0 mL D sU (fun f a A outer s H F E b=>by
  have nd:=sU.nd
  exact (Fl.aF (Fl.aK (L2.aK (i:=2) nd rfl (Or.inl rfl) (aT aE)))
   (Fl.aF (Fl.dO (Fl.cK jL gJ (aB (cZ rfl (bK cG rfl T.b_len A6 (aJ (aC (pv 0)) aU)))) (aB aE) (cE _)) (Fl.aP (Fl.aK (L2.aK (i:=2) nd rfl (Or.inl rfl) (aT (aY (aZ rfl) aH (aC (pv 0)) (aB (aS cT cF (aC (pv 1)) (aB (cZ rfl (bK cG rfl T.b_len A6 (aJ (aC (pv 0)) aU))))))))))) Fl.cR)
   (Fl.aF (Fl.aK (L2.aK (i:=3) nd rfl (Or.inl rfl) (aT (aS cT cF (aB (aS iF fO (aB (aS (cB rfl) bP (aB (aS (cB rfl) bP (aB (aS cT cF (aC (pv 2)) (aB aE))) (aB (aS iF fO (aB aE) (aC (pv 1)))))) (aB aE))) (aB aE))) (aB aE)))))
   (Fl.aP (Fl.bM (aT (aS (cB rfl) bP (aB (aS iF fO (aB (aS gT eW (aC (pv 2)) (aB aE))) (aB aE))) (aB (aS cT cF (aB (aS (cB rfl) bP (aB (aS iF fO (aC (pv 3)) (aB aE))) (aB (aS iF fO (aB aE) (aC (pv 1)))))) (aB aE)))))))))))
theorem uE:FnScope ["_law_number","_law_rooms"] ["_law_number","_law_rooms"] (aL (top 27)):=by constructor<;>first|rfl|decide +kernel
theorem aC5(T:Txt w K mg)(D:DefAt K mg "_law_end" (top 27) ["_law_number","_law_rooms"]):a7 P w K mg base TH 1 "_law_end" ["_law_number","_law_rooms"] gY:=
 @cQ P w K mg base TH "_law_end" (top 27) ["_law_number","_law_rooms"] ["_law_number","_law_rooms"] 0 nM D uE (fun f b A outer s H F E a=>by
  have nd:=uE.nd
  exact (Fl.aF (Fl.dO (Fl.cK (iG rfl a.units) fE (aB (aS cT cF (aC (pv 0)) (aB aE))) (aB aE) (cE _)) (Fl.aP (Fl.bM (aT (aY (aZ rfl) aH (aB (fN (eP (aR eO (aR eO bR))))) (aB (aS cT cF (aB (aS gT eW (aC (pv 0)) (aB aE))) (aB aE))))))) Fl.cR)
   (Fl.aP (Fl.bM (aT (aS cT cF (aB (aS gT eW (aC (pv 0)) (aB aE))) (aC (pv 1))))))))
theorem nB:FnScope ["_law_number","_law_rooms","_law_signs","_law_left","_law_cells","_law_k","_law_ends"] ["_law_number","_law_rooms","_law_signs"] (aL (top 28)):=by constructor<;>first|rfl|decide +kernel
theorem t5(T:Txt w K mg)(D:DefAt K mg "_law_digit_row" (top 28) ["_law_number","_law_rooms","_law_signs"]):a7 P w K mg base TH 1 "_law_digit_row" ["_law_number","_law_rooms","_law_signs"] fG:=
 @cQ P w K mg base TH "_law_digit_row" (top 28) ["_law_number","_law_rooms","_law_signs","_law_left","_law_cells","_law_k","_law_ends"] ["_law_number","_law_rooms","_law_signs"] 0 kN D nB (fun f a A outer s H F E c=>by
  have nd:=nB.nd
  exact (Fl.aF (Fl.aK (L2.aK (i:=3) nd rfl (Or.inl rfl) (aT (aS cT cF (aC (pv 0)) (aB (aS (cB rfl) bP (aC (pv 1)) (aB aE)))))))
   (Fl.aF (Fl.aK (L2.aK (i:=0) nd rfl (Or.inl rfl) (aT (aS gT eW (aC (pv 0)) (aB (aS (cB rfl) bP (aC (pv 1)) (aB aE)))))))
   (Fl.aF (fQ (L2.aK (i:=4) nd rfl (Or.inl rfl) (eP bR)))
   (Fl.aF (Fl.cU (bQ 5) (L2.cU (cS ⟨rfl,rfl⟩) rfl (iI (fK rfl T.b_range (aJ (aC (pv 2)) aU))) (bO (i:=5) nd rfl (Or.inl rfl))
   (Fl.aF (i7 rfl (L2.eU (gU BM BH BI eE (pv 4) (aJ (dR (aR (aS cT cF (aB (aS gT eW (aC (pv 0)) (aB aE))) (aC (pv 1))) (aR (aS gG eG (aB aE) (aB (aS iF fO (aB (aS cT cF (aC (pv 0)) (aB aE))) (aB aE)))) bR))) aU))))
   (Fl.aP (Fl.aK (L2.aK (i:=0) nd rfl (Or.inl rfl) (aT (aS gT eW (aC (pv 0)) (aB (aS iF fO (aB aE) (aC (pv 1))))))))))))
   (Fl.aF (fQ (L2.aK (i:=6) nd rfl (Or.inl rfl) (eP (aR (bF (pv 3)) (aR (aS cT cF (aC (pv 0)) (aB (aS (cB rfl) bP (aC (pv 1)) (aB aE)))) bR)))))
   (Fl.aF (tM (L2.nG (i:=6) nd rfl (Or.inl rfl) (by rfl) (N:=["_law_end_here","_law_rooms"]) (js:=[none,some 1]) rfl (.own (.cap rfl (.inl rfl) (.inl rfl) .nil)) (by rfl) (r6 rfl (aC (pv 6)))) (by decide) (by decide) (is:=[0]) (fun cl C e b d=>⟨_,(bO (i:=0) (show (["_law_end_here","_law_rooms"]:List Str).Nodup by decide +kernel) rfl (Or.inl rfl)),(bQ 0),Fl.fA,(aLA (Fl.cK aPI aJG (aC (pv 0)) (aC (pv 1)) (cE _)) (aY (aZ rfl) aH (aB (fN (eP (aR eO (aR eO bR))))) (aB (aS gG eG (aC (pv 0)) (aC (pv 1))))) (bF (pv 0)))⟩))
   (Fl.aP (Fl.bM (aT (dR (aR (aY (aZ rfl) aH (aC (pv 6)) (aB aE)) (aR (fX rfl (dE c8 rfl T.b_tuple BN (aJ (aC (pv 4)) aU))) (aR (aY (aZ rfl) aH (aC (pv 6)) (aB aE)) bR))))))))))))))
theorem nC:FnScope ["_law_number","_law_rooms","_law_signs","_law_pieces","_law_k","_law_cells"] ["_law_number","_law_rooms","_law_signs"] (aL (top 29)):=by constructor<;>first|rfl|decide +kernel
theorem t6(T:Txt w K mg)(D:DefAt K mg "_law_mixed_row" (top 29) ["_law_number","_law_rooms","_law_signs"])(a:a7 P w K mg base TH 1 "_law_end" ["_law_number","_law_rooms"] gY):a7 P w K mg base TH 2 "_law_mixed_row" ["_law_number","_law_rooms","_law_signs"] d6:=
 @cQ P w K mg base TH "_law_mixed_row" (top 29) ["_law_number","_law_rooms","_law_signs","_law_pieces","_law_k","_law_cells"] ["_law_number","_law_rooms","_law_signs"] 1 kO D nC (fun f c A outer s H F E b=>by
  have nd:=nC.nd
  exact (Fl.aF (fQ (L2.aK (i:=3) nd rfl (Or.inl rfl) (eP bR)))
   (Fl.aF (Fl.cU (bQ 4) (L2.cU (cS ⟨rfl,rfl⟩) rfl (iI (fK rfl T.b_range (aJ (aB (aS (cB rfl) bP (aC (pv 2)) (aB aE))) aU))) (bO (i:=4) nd rfl (Or.inl rfl))
   (Fl.aF (Fl.aK (L2.aK (i:=0) nd rfl (Or.inl rfl) (aT (aS cT cF (aB (aS (cB rfl) bP (aB (aS iF fO (aC (pv 0)) (aB aE))) (aB aE))) (aB aE)))))
   (Fl.aP (i7 rfl (L2.eU (gU BM BH BI eE (pv 3) (aJ (aS gT eW (aC (pv 0)) (aB aE)) aU))))))))
   (Fl.aF (Fl.aK (L2.aK (i:=5) nd rfl (Or.inl rfl) (aT (fX rfl (dE c8 rfl T.b_tuple BN (aJ (aB (fN (j8 (j4 (N:=["_law_piece","_law_rooms"]) (js:=[none,some 1]) rfl (.own (.cap rfl (.inl rfl) (.inl rfl) .nil)) (by rfl) (r6 rfl (aB (iU rfl (aC (pv 3)) (mI (aB aE)) mH)))) (by decide) (by decide) (is:=[0]) (fun cl C g d e=>⟨_,(bO (i:=0) (show (["_law_piece","_law_rooms"]:List Str).Nodup by decide +kernel) rfl (Or.inl rfl)),(bQ 0),Fl.fA,(dR (aR (aS cT cF (aC (pv 0)) (aC (pv 1))) (aR (aS gG eG (aB aE) (aB (aS iF fO (aB (aS gT eW (aB (aS cT cF (aB (aS gT eW (aC (pv 0)) (aB aE))) (aB aE))) (aB aE))) (aB aE)))) bR)))⟩)))) aU))))))
   (Fl.aP (Fl.bM (aT (dR (aR (c7 (b8 rfl rfl rfl (bZ a (b.mono (by decide)) rfl (cA fun _ _ _ h=>h) (aD (aT (aY (aZ rfl) aH (aC (pv 3)) (aB aE))) (aD (aQ (pv 1)) bB))))) (aR (bF (pv 5)) (aR (c7 (b8 rfl rfl rfl (bZ a (b.mono (by decide)) rfl (cA fun _ _ _ h=>h) (aD (aT (aY (aZ rfl) aH (aC (pv 3)) (aB aE))) (aD (aQ (pv 1)) bB))))) bR)))))))))))
theorem oY:FnScope ["_law_script","_law_at","_law_rooms","_law_signs","_law_rows","_law_room","_law_row"] ["_law_script","_law_at","_law_rooms","_law_signs"] (aL (top 30)):=by constructor<;>first|rfl|decide +kernel
theorem w5(T:Txt w K mg)(D:DefAt K mg "_law_machine" (top 30) ["_law_script","_law_at","_law_rooms","_law_signs"])(b:a7 P w K mg base TH 1 "_law_digit_row" ["_law_number","_law_rooms","_law_signs"] fG)(c:a7 P w K mg base TH 2 "_law_mixed_row" ["_law_number","_law_rooms","_law_signs"] d6)(a:a7 P w K mg base TH 1 "_law_cell" ["_law_script","_law_k"] bD):a7 P w K mg base TH 3 "_law_machine" ["_law_script","_law_at","_law_rooms","_law_signs"] eH:=
 @cQ P w K mg base TH "_law_machine" (top 30) ["_law_script","_law_at","_law_rooms","_law_signs","_law_rows","_law_room","_law_row"] ["_law_script","_law_at","_law_rooms","_law_signs"] 2 l5 D oY (fun f e A outer s H F E d=>by
  have nd:=oY.nd
  exact (Fl.aF (fQ (L2.aK (i:=4) nd rfl (Or.inl rfl) (eP bR)))
   (Fl.aF (Fl.cU (bQ 5) (L2.cU (cS ⟨rfl,rfl⟩) rfl (iI (fK rfl T.b_range (aJ (aC (pv 2)) aU))) (bO (i:=5) nd rfl (Or.inl rfl))
   (Fl.aP (Fl.dO (PW.pt (Fl.kE (Fl.cK vZ qH (aB (aS (cB rfl) bP (aC (pv 1)) (aC (pv 5)))) (aB (cZ rfl (bK cG rfl T.b_len A6 (aJ (aC (pv 0)) aU)))) (cE _)) (Fl.j2 (Fl.cK (iG rfl d.units) fE (aB (aS cT cF (aB (aY (aZ rfl) aH (aC (pv 0)) (aB aE))) (aB aE))) (aB aE) (cE _))))) (Fl.aP (i7 rfl (L2.eU (gU BM BH BI eE (pv 4) (aJ (c7 (b8 rfl rfl rfl (bZ b (d.mono (by decide)) rfl (cA fun _ _ _ h=>h) (aD (aT (aY (aZ rfl) aH (aC (pv 0)) (aB (aS (cB rfl) bP (aC (pv 1)) (aC (pv 5)))))) (aD (aQ (pv 2)) (aD (aQ (pv 3)) bB)))))) aU))))) (Fl.aF (Fl.aK (L2.aK (i:=6) nd rfl (Or.inl rfl) (b8 rfl rfl rfl (bZ c (d.mono (by decide)) rfl (cA fun _ _ _ h=>h) (aD (aT (aS cT cF (aB (c7 (b8 rfl rfl rfl (bZ a (d.mono (by decide)) rfl (cA fun _ _ _ h=>h) (aD (aQ (pv 0)) (aD (aT (aS (cB rfl) bP (aC (pv 1)) (aC (pv 5)))) bB)))))) (aB aE))) (aD (aQ (pv 2)) (aD (aQ (pv 3)) bB)))))))
   (Fl.aF (Fl.dO (PW.pt (Fl.kE (Fl.cK (iG rfl d.units) fE (aC (pv 5)) (aB aE) (cE _)) (Fl.kE (Fl.iB (mX (bK (jO rfl (tO _)) rfl T.b_isinstance B2 (aJ (aB (aY (aZ rfl) aH (aC (pv 6)) (aB aE))) (aJ (kS (v:=.ty "str") rfl T.b_str D2 rfl) aU))))) (Fl.j2 (Fl.cK jL gJ (aB (aS cT cF (aB (aS gT eW (aB (c7 (b8 rfl rfl rfl (bZ a (d.mono (by decide)) rfl (cA fun _ _ _ h=>h) (aD (aQ (pv 0)) (aD (aQ (pv 1)) bB)))))) (aB aE))) (aB aE))) (aB aE) (cE _)))))) (Fl.aP (Fl.aK (L2.aK (i:=6) nd rfl (Or.inl rfl) (aT (aS (cB rfl) bP (aB (dR (aR (aS cT cF (aB (aS gT eW (aB (c7 (b8 rfl rfl rfl (bZ a (d.mono (by decide)) rfl (cA fun _ _ _ h=>h) (aD (aQ (pv 0)) (aD (aQ (pv 1)) bB)))))) (aB aE))) (aC (pv 2))) bR))) (aB (iU rfl (aC (pv 6)) (mI (aB aE)) mH))))))) Fl.cR)
   (Fl.aP (i7 rfl (L2.eU (gU BM BH BI eE (pv 4) (aJ (bF (pv 6)) aU)))))))))))
   (Fl.aP (Fl.bM (aT (fX rfl (dE c8 rfl T.b_tuple BN (aJ (aC (pv 4)) aU)))))))))
end
section
variable{P:Program}{w:World}{K:Frag}{mg:Str->Option Value}{base:Heap}{TH:Hp}
theorem q9:FnScope ["_law_script","_law_at","_law_size","_law_signs","_law_number","_law_strip_here","_law_k"] ["_law_script","_law_at","_law_size","_law_signs"] (aL (top 31)):=by constructor<;>first|rfl|decide +kernel
theorem zL(T:Txt w K mg)(D:DefAt K mg "_law_strip" (top 31) ["_law_script","_law_at","_law_size","_law_signs"])(a:a7 P w K mg base TH 1 "_law_cell" ["_law_script","_law_k"] bD):a7 P w K mg base TH 2 "_law_strip" ["_law_script","_law_at","_law_size","_law_signs"] dN:=
 @cQ P w K mg base TH "_law_strip" (top 31) ["_law_script","_law_at","_law_size","_law_signs","_law_number","_law_strip_here","_law_k"] ["_law_script","_law_at","_law_size","_law_signs"] 1 jX D q9 (fun f c A outer s H F E b=>by
  have nd:=q9.nd
  exact (Fl.aF (Fl.dO (PW.pt (Fl.kE (Fl.cK vZ qH (aC (pv 1)) (aB (cZ rfl (bK cG rfl T.b_len A6 (aJ (aC (pv 0)) aU)))) (cE _)) (Fl.j2 (Fl.cK (iG rfl b.units) fE (aB (aS cT cF (aB (aY (aZ rfl) aH (aC (pv 0)) (aB aE))) (aB aE))) (aB aE) (cE _))))) (Fl.aF (Fl.aK (L2.aK (i:=4) nd rfl (Or.inl rfl) (aT (aY (aZ rfl) aH (aC (pv 0)) (aC (pv 1))))))
   (Fl.aF (Fl.aK (L2.aK (i:=5) nd rfl (Or.inl rfl) (aT eO)))
   (Fl.aF (Fl.cU (bQ 6) (L2.cU (cS ⟨rfl,rfl⟩) rfl (iI (fK rfl T.b_range (aJ (aC (pv 2)) aU))) (bO (i:=6) nd rfl (Or.inl rfl))
   (Fl.aF (Fl.aK (L2.aK (i:=5) nd rfl (Or.inl rfl) (aT (aS (cB rfl) bP (aC (pv 5)) (aB (aY (aZ rfl) aH (aB eO) (aB (aS cT cF (aC (pv 4)) (aC (pv 3))))))))))
   (Fl.aP (Fl.aK (L2.aK (i:=4) nd rfl (Or.inl rfl) (aT (aS gT eW (aC (pv 4)) (aC (pv 3))))))))))
   (Fl.aP (Fl.bM (aQ (pv 5))))))) Fl.cR)
   (Fl.aP (Fl.bM (aT (aMK rfl (gU DX PySem.F.slot_str_join PySem.F.type_str_join aL1 (aB eO) (aJ (aB (fN (j8 (j4 (N:=["_law_k","_law_script","_law_at","_law_signs"]) (js:=[none,some 0,some 1,some 3]) rfl (.own (.cap rfl (.inl rfl) (.inl rfl) (.cap rfl (.inl rfl) (.inl rfl) (.cap rfl (.inl rfl) (.inl rfl) .nil)))) (by rfl) (v4 (iI (fK rfl T.b_range (aJ (aC (pv 2)) aU))))) (by decide) (by decide) (is:=[0]) (fun cl C g d e=>⟨_,(bO (i:=0) (show (["_law_k","_law_script","_law_at","_law_signs"]:List Str).Nodup by decide +kernel) rfl (Or.inl rfl)),(bQ 0),Fl.fA,(aY (aZ rfl) aH (aB eO) (aB (aS cT cF (aB (c7 (b8 rfl rfl rfl (bZ a (b.mono (by decide)) rfl mE (aD (aQ (pv 1)) (aD (aT (aS (cB rfl) bP (aC (pv 2)) (aC (pv 0)))) bB)))))) (aC (pv 3)))))⟩)))) aU)) (by intro ρ x h;cases h;exact ⟨_,rfl⟩)))))))
theorem sV:FnScope ["_law_machine_here","_law_strip_here","_law_stand","_law_place","_law_room","_law_left","_law_cells","_law_right","_law_there","_law_step_here"] ["_law_machine_here","_law_strip_here","_law_stand"] (aL (top 32)):=by constructor<;>first|rfl|decide +kernel
theorem aCP(T:Txt w K mg)(D:DefAt K mg "_law_step" (top 32) ["_law_machine_here","_law_strip_here","_law_stand"]):a7 P w K mg base TH 1 "_law_step" ["_law_machine_here","_law_strip_here","_law_stand"] fJ:=
 @cQ P w K mg base TH "_law_step" (top 32) ["_law_machine_here","_law_strip_here","_law_stand","_law_place","_law_room","_law_left","_law_cells","_law_right","_law_there","_law_step_here"] ["_law_machine_here","_law_strip_here","_law_stand"] 0 o5 D sV (fun f b A outer s H F E a=>by
  have nd:=sV.nd
  exact (Fl.aF (n8 (mU rfl (dG (bQ 3) (dG (bQ 4) kY)) rfl) (gI (bF (pv 2)) (mO rfl (dF (bO (i:=3) nd rfl (Or.inl rfl)) (dF (bO (i:=4) nd rfl (Or.inl rfl)) kT)))))
   (Fl.aF (n8 (mU rfl (dG (bQ 5) (dG (bQ 6) (dG (bQ 7) kY))) rfl) (gI (aY (aZ rfl) aH (aC (pv 0)) (aC (pv 4))) (mO rfl (dF (bO (i:=5) nd rfl (Or.inl rfl)) (dF (bO (i:=6) nd rfl (Or.inl rfl)) (dF (bO (i:=7) nd rfl (Or.inl rfl)) kT))))))
   (Fl.aF (Fl.dO (PW.pt (Fl.p7 (Fl.cK (iG rfl a.units) fE (aC (pv 3)) (aB aE) (cE _)) (Fl.rD (Fl.cK jL gJ (aC (pv 3)) (aB (cZ rfl (bK cG rfl T.b_len A6 (aJ (aC (pv 1)) aU)))) (cE _))))) (Fl.aF (Fl.aK (L2.aK (i:=8) nd rfl (Or.inl rfl) (aT (aY (aZ rfl) aH (aB (fN (eP (aR (bF (pv 5)) (aR (bF (pv 7)) bR))))) (aB (xJ (dE rH rfl T.b_int D4 (aJ (aB (pG jL gJ (aC (pv 3)) (aB aE) (cE _))) aU))))))))
   (Fl.aF (Fl.dO (Fl.iB (mX (bK (jO rfl (tO _)) rfl T.b_isinstance B2 (aJ (aC (pv 8)) (aJ (kS (v:=.ty "str") rfl T.b_str D2 rfl) aU))))) (Fl.aP (Fl.bM (aT nZ))) Fl.cR)
   (Fl.aP (Fl.bM (aT (dR (aR (aY (aZ rfl) aH (aB (fN (eP (aR aE (aR (cZ rfl (bK cG rfl T.b_len A6 (aJ (aC (pv 1)) aU))) bR))))) (aB (xJ (dE rH rfl T.b_int D4 (aJ (aB (pG jL gJ (aC (pv 3)) (aB aE) (cE _))) aU))))) (aR (bF (pv 8)) bR)))))))) Fl.cR)
   (Fl.aF (n8 (mU rfl (dG (bQ 8) (dG (bQ 9) kY)) rfl) (gI (aY (aZ rfl) aH (aC (pv 6)) (aB (uS (gU DX ET EU uK (aB eO) (aJ (aB (aY (aZ rfl) aH (aC (pv 1)) (aB (aS gG eG (aC (pv 3)) (aB aE))))) aU)) (by intro ρ x h;cases h;exact ⟨_,rfl⟩)))) (mO rfl (dF (bO (i:=8) nd rfl (Or.inl rfl)) (dF (bO (i:=9) nd rfl (Or.inl rfl)) kT)))))
   (Fl.aP (Fl.bM (aT (dR (aR (aS (cB rfl) bP (aC (pv 3)) (aC (pv 9))) (aR (bF (pv 8)) bR)))))))))))
theorem pY:FnScope ["_law_machine_here","_law_strip_here","_law_stands_here","_law_met","_law_after"] ["_law_machine_here","_law_strip_here"] (aL (top 33)):=by constructor<;>first|rfl|decide +kernel
theorem yK(T:Txt w K mg)(D:DefAt K mg "_law_stands" (top 33) ["_law_machine_here","_law_strip_here"])(a:a7 P w K mg base TH 1 "_law_step" ["_law_machine_here","_law_strip_here","_law_stand"] fJ):a7 P w K mg base TH 2 "_law_stands" ["_law_machine_here","_law_strip_here"] i9:=
 @cQ P w K mg base TH "_law_stands" (top 33) ["_law_machine_here","_law_strip_here","_law_stands_here","_law_met","_law_after"] ["_law_machine_here","_law_strip_here"] 1 m8 D pY (fun f c A outer s H F E b=>by
  have nd:=pY.nd
  exact (Fl.aF (fQ (L2.aK (i:=2) nd rfl (Or.inl rfl) (eP (aR (dR (aR aE (aR aE bR))) bR))))
   (Fl.aF (pI rfl (L2.aK (i:=3) nd rfl (Or.inl rfl) pH))
   (Fl.aF (Fl.cP (L2.cP (cS ⟨rfl,rfl⟩) (n6 rfl rfl (kU (qN b.units) (aY (aZ rfl) aH (aC (pv 2)) (aB (zW tK oP (aB aE)))) (pv 3) (by with_unfolding_all rfl)))
   (Fl.aF (Fl.lU rfl rfl (gI oO (mP (pv 3) (aY (aZ rfl) aH (aC (pv 2)) (aB (zW tK oP (aB aE)))) (kL b.units))))
   (Fl.aF (Fl.aK (L2.aK (i:=4) nd rfl (Or.inl rfl) (b8 rfl rfl rfl (bZ a (b.mono (by decide)) rfl (cA fun _ _ _ h=>h) (aD (aQ (pv 0)) (aD (aQ (pv 1)) (aD (aT (aY (aZ rfl) aH (aC (pv 2)) (aB (zW tK oP (aB aE))))) bB)))))))
   (Fl.aF (Fl.dO (Fl.cK aA8 uP (aC (pv 4)) (aB nZ) (cE _)) (Fl.aP (qJ 2 (Fl.bM (aQ (pv 2))))) Fl.cR)
   (Fl.aP (i7 rfl (L2.eU (gU BM BH BI eE (pv 2) (aJ (bF (pv 4)) aU))))))))))
   (Fl.aP (qJ 2 (Fl.bM (aQ (pv 2)))))))))
theorem sW:FnScope ["_law_machine_here","_law_strip_here","_law_place","_law_room"] ["_law_machine_here","_law_strip_here"] (aL (top 34)):=by constructor<;>first|rfl|decide +kernel
theorem aCQ(T:Txt w K mg)(D:DefAt K mg "_law_says" (top 34) ["_law_machine_here","_law_strip_here"])(a:a7 P w K mg base TH 2 "_law_stands" ["_law_machine_here","_law_strip_here"] i9)(b:a7 P w K mg base TH 1 "_law_step" ["_law_machine_here","_law_strip_here","_law_stand"] fJ):a7 P w K mg base TH 3 "_law_says" ["_law_machine_here","_law_strip_here"] eN:=
 @cQ P w K mg base TH "_law_says" (top 34) ["_law_machine_here","_law_strip_here","_law_place","_law_room"] ["_law_machine_here","_law_strip_here"] 2 o6 D sW (fun f d A outer s H F E c=>by
  have nd:=sW.nd
  exact (Fl.aF (n8 (mU rfl (dG (bQ 2) (dG (bQ 3) kY)) rfl) (gI (aY (aZ rfl) aH (aB (c7 (b8 rfl rfl rfl (bZ a (c.mono (by decide)) rfl (cA fun _ _ _ h=>h) (aD (aQ (pv 0)) (aD (aQ (pv 1)) bB)))))) (aB (zW tK oP (aB aE)))) (mO rfl (dF (bO (i:=2) nd rfl (Or.inl rfl)) (dF (bO (i:=3) nd rfl (Or.inl rfl)) kT)))))
   (Fl.aF (Fl.dO (Fl.cK aJH aFF (aB (c7 (b8 rfl rfl rfl (bZ b (c.mono (by decide)) rfl (cA fun _ _ _ h=>h) (aD (aQ (pv 0)) (aD (aQ (pv 1)) (aD (aT (dR (aR (bF (pv 2)) (aR (bF (pv 3)) bR)))) bB))))))) (aB nZ) (cE _)) (Fl.aP (Fl.bM (aT eO))) Fl.cR)
   (Fl.aP (Fl.bM (aT (aY (aZ rfl) aH (aB (fN (eP (aR (aY (aZ rfl) aH (aB (aY (aZ rfl) aH (aC (pv 0)) (aC (pv 3)))) (aB aE)) (aR (aY (aZ rfl) aH (aB (aY (aZ rfl) aH (aC (pv 0)) (aC (pv 3)))) (aB aE)) bR))))) (aB (xJ (dE rH rfl T.b_int D4 (aJ (aB (pG jL gJ (aC (pv 2)) (aB aE) (cE _))) aU)))))))))))
theorem rA:FnScope ["_law_found"] ["_law_found"] (aL (top 35)):=by constructor<;>first|rfl|decide +kernel
theorem zM(T:Txt w K mg)(D:DefAt K mg "_law_whole" (top 35) ["_law_found"]):a7 P w K mg base TH 1 "_law_whole" ["_law_found"] iN:=
 @cQ P w K mg base TH "_law_whole" (top 35) ["_law_found"] ["_law_found"] 0 oF D rA (fun f a A outer s H F E b=>by
  have nd:=rA.nd
  exact (Fl.aP (Fl.bM (aT (aBB (mX (bK (jO rfl (aMJ _)) rfl T.b_isinstance B2 (aJ (aC (pv 0)) (aJ (kS (v:=.ty "int") rfl T.b_int D4 rfl) aU)))) (aHI (aPJ (mX (bK (jO rfl (aJN _)) rfl T.b_isinstance B2 (aJ (aC (pv 0)) (aJ (kS (v:=.ty "bool") rfl T.b_bool PyProof.Rows.boot_bool rfl) aU)))))))))))
end
section
variable{P:Program}{w:World}{K:Frag}{mg:Str->Option Value}{base:Heap}{TH:Hp}
theorem pZ:FnScope ["_law_machine_here","_law_strip_here","_law_place","_law_room","_law_met"] ["_law_machine_here","_law_strip_here","_law_place","_law_room"] (aL (top 36)):=by constructor<;>first|rfl|decide +kernel
theorem yL(T:Txt w K mg)(D:DefAt K mg "_law_beyond" (top 36) ["_law_machine_here","_law_strip_here","_law_place","_law_room"])(a:a7 P w K mg base TH 1 "_law_step" ["_law_machine_here","_law_strip_here","_law_stand"] fJ):a7 P w K mg base TH 2 "_law_beyond" ["_law_machine_here","_law_strip_here","_law_place","_law_room"] f7:=
 @cQ P w K mg base TH "_law_beyond" (top 36) ["_law_machine_here","_law_strip_here","_law_place","_law_room","_law_met"] ["_law_machine_here","_law_strip_here","_law_place","_law_room"] 1 m9 D pZ (fun f c A outer s H F E b=>by
  have nd:=pZ.nd
  exact (Fl.aF (pI rfl (L2.aK (i:=4) nd rfl (Or.inl rfl) pH))
   (Fl.aF (Fl.cP (L2.cP (cS ⟨rfl,rfl⟩) (Fl.cK aHG aA6 (aC (pv 2)) (aB (cZ rfl (bK cG rfl T.b_len A6 (aJ (aC (pv 1)) aU)))) (cE _))
   (Fl.aF (Fl.dO (n6 rfl rfl (kU (xR b.units) (dR (aR (bF (pv 2)) (aR (bF (pv 3)) bR))) (pv 4) (by with_unfolding_all rfl))) (Fl.aP (Fl.bM (aT eO))) Fl.cR)
   (Fl.aF (Fl.lU rfl rfl (gI oO (mP (pv 4) (dR (aR (bF (pv 2)) (aR (bF (pv 3)) bR))) (kL b.units))))
   (Fl.aF (Fl.dO (PW.pt (Fl.kE (Fl.cK (iG rfl b.units) fE (aC (pv 2)) (aB aE) (cE _)) (Fl.j2 (Fl.iB (mX (bK (jO rfl (tO _)) rfl T.b_isinstance B2 (aJ (aB (aY (aZ rfl) aH (aB (aY (aZ rfl) aH (aC (pv 0)) (aC (pv 3)))) (aB aE))) (aJ (kS (v:=.ty "str") rfl T.b_str D2 rfl) aU)))))))) (Fl.aP (Fl.bM (aT (aY (aZ rfl) aH (aB (aY (aZ rfl) aH (aC (pv 0)) (aC (pv 3)))) (aB aE))))) Fl.cR)
   (Fl.aP (n8 (mU rfl (dG (bQ 2) (dG (bQ 3) kY)) rfl) (gI (c7 (b8 rfl rfl rfl (bZ a (b.mono (by decide)) rfl (cA fun _ _ _ h=>h) (aD (aQ (pv 0)) (aD (aQ (pv 1)) (aD (aT (dR (aR (bF (pv 2)) (aR (bF (pv 3)) bR)))) bB)))))) (mO rfl (dF (bO (i:=2) nd rfl (Or.inl rfl)) (dF (bO (i:=3) nd rfl (Or.inl rfl)) kT)))))))))))
   (Fl.aP (Fl.bM (aQ (pv 3)))))))
theorem nE:FnScope ["_law_machine_here","_law_strip_here","_law_backs"] ["_law_machine_here","_law_strip_here"] (aL (top 37)):=by constructor<;>first|rfl|decide +kernel
theorem t7(T:Txt w K mg)(D:DefAt K mg "_law_beginning" (top 37) ["_law_machine_here","_law_strip_here"])(a:a7 P w K mg base TH 2 "_law_beyond" ["_law_machine_here","_law_strip_here","_law_place","_law_room"] f7):a7 P w K mg base TH 3 "_law_beginning" ["_law_machine_here","_law_strip_here"] d7:=
 @cQ P w K mg base TH "_law_beginning" (top 37) ["_law_machine_here","_law_strip_here","_law_backs"] ["_law_machine_here","_law_strip_here"] 2 kP D nE (fun f c A outer s H F E b=>by
  have nd:=nE.nd
  exact (Fl.aF (tM (L2.nG (i:=2) nd rfl (Or.inl rfl) (by rfl) (N:=["_law_room","_law_machine_here","_law_strip_here"]) (js:=[none,some 0,some 1]) rfl (.own (.cap rfl (.inl rfl) (.inl rfl) (.cap rfl (.inl rfl) (.inl rfl) .nil))) (by rfl) (v4 (iI (fK rfl T.b_range (aJ (aB (cZ rfl (bK cG rfl T.b_len A6 (aJ (aC (pv 0)) aU)))) aU))))) (by decide) (by decide) (is:=[0]) (fun cl C g d e=>⟨_,(bO (i:=0) (show (["_law_room","_law_machine_here","_law_strip_here"]:List Str).Nodup by decide +kernel) rfl (Or.inl rfl)),(bQ 0),Fl.fA,(c7 (b8 rfl rfl rfl (bZ a (b.mono (by decide)) rfl mE (aD (aQ (pv 1)) (aD (aQ (pv 2)) (aD (aT (cZ rfl (bK cG rfl T.b_len A6 (aJ (aC (pv 2)) aU)))) (aD (aQ (pv 0)) bB)))))))⟩))
   (Fl.aP (Fl.bM (aT (dR (aR (c7 (b8 rfl rfl rfl (bZ a (b.mono (by decide)) rfl (cA fun _ _ _ h=>h) (aD (aQ (pv 0)) (aD (aQ (pv 1)) (aD (aT aE) (aD (aT aE) bB))))))) (aR (fX rfl (dE c8 rfl T.b_tuple BN (aJ (aC (pv 2)) aU))) bR))))))))
theorem sX:FnScope ["_law_machine_here","_law_signs","_law_most","_law_strips","_law_known","_law_rows","_law_row","_law_sign","_law_strip_here","_law_begun"] ["_law_machine_here","_law_signs","_law_most"] (aL (top 38)):=by constructor<;>first|rfl|decide +kernel
theorem aCR(T:Txt w K mg)(D:DefAt K mg "_law_ways" (top 38) ["_law_machine_here","_law_signs","_law_most"])(a:a7 P w K mg base TH 3 "_law_beginning" ["_law_machine_here","_law_strip_here"] d7)(b:a7 P w K mg base TH 3 "_law_says" ["_law_machine_here","_law_strip_here"] eN):a7 P w K mg base TH 4 "_law_ways" ["_law_machine_here","_law_signs","_law_most"] cW:=
 @cQ P w K mg base TH "_law_ways" (top 38) ["_law_machine_here","_law_signs","_law_most","_law_strips","_law_known","_law_rows","_law_row","_law_sign","_law_strip_here","_law_begun"] ["_law_machine_here","_law_signs","_law_most"] 3 o7 D sX (fun f d A outer s H F E c=>by
  have nd:=sX.nd
  exact (Fl.aF (fQ (L2.aK (i:=3) nd rfl (Or.inl rfl) (eP (aR eO bR))))
   (Fl.aF (aDX rfl rfl (L2.aK (i:=4) nd rfl (Or.inl rfl) (aDV c.units (aBH (c7 (b8 rfl rfl rfl (bZ a (c.mono (by decide)) rfl (cA fun _ _ _ h=>h) (aD (aQ (pv 0)) (aD (aT eO) bB))))) aE aDW))))
   (Fl.aF (fQ (L2.aK (i:=5) nd rfl (Or.inl rfl) (eP bR)))
   (Fl.aF (Fl.cP (L2.cP (cS ⟨rfl,rfl⟩) (Fl.cK vZ qH (aB (cZ rfl (bK cG rfl T.b_len A6 (aJ (aC (pv 5)) aU)))) (aB (cZ rfl (bK cG rfl T.b_len A6 (aJ (aC (pv 3)) aU)))) (cE _))
   (Fl.aF (fQ (L2.aK (i:=6) nd rfl (Or.inl rfl) (eP bR)))
   (Fl.aF (Fl.cU (bQ 7) (L2.cU (cS ⟨rfl,rfl⟩) rfl (xK rfl (iU rfl (aB eO) mH (mI (aC (pv 1))))) (bO (i:=7) nd rfl (Or.inl rfl))
   (Fl.aF (Fl.aK (L2.aK (i:=8) nd rfl (Or.inl rfl) (aT (aS (cB rfl) bP (aB (aY (aZ rfl) aH (aC (pv 3)) (aB (cZ rfl (bK cG rfl T.b_len A6 (aJ (aC (pv 5)) aU)))))) (aC (pv 7))))))
   (Fl.aF (Fl.aK (L2.aK (i:=9) nd rfl (Or.inl rfl) (b8 rfl rfl rfl (bZ a (c.mono (by decide)) rfl (cA fun _ _ _ h=>h) (aD (aQ (pv 0)) (aD (aQ (pv 8)) bB))))))
   (Fl.aF (Fl.dO (n6 rfl rfl (kU (qN c.units) (bF (pv 9)) (pv 4) (by with_unfolding_all rfl))) (Fl.aF (Fl.lU rfl rfl (gI (cZ rfl (bK cG rfl T.b_len A6 (aJ (aC (pv 3)) aU))) (mP (pv 4) (bF (pv 9)) (kL c.units))))
   (Fl.aP (i7 rfl (L2.eU (gU BM BH BI eE (pv 3) (aJ (bF (pv 8)) aU)))))) Fl.cR)
   (Fl.aP (i7 rfl (L2.eU (gU BM BH BI eE (pv 6) (aJ (xT rfl rfl (xS c.units (pv 4) (bF (pv 9)) (fun _ _=>rfl))) aU))))))))))
   (Fl.aF (i7 rfl (L2.eU (gU BM BH BI eE (pv 5) (aJ (fX rfl (dE c8 rfl T.b_tuple BN (aJ (aC (pv 6)) aU))) aU))))
   (Fl.aP (Fl.dO (Fl.cK jL gJ (aB (cZ rfl (bK cG rfl T.b_len A6 (aJ (aC (pv 3)) aU)))) (aC (pv 2)) (cE _)) (Fl.aP (Fl.bM (aT nZ))) Fl.cR)))))))
   (Fl.aP (qJ 3 (Fl.bM (aT (dR (aR (bF (pv 3)) (aR (fX rfl (dE c8 rfl T.b_tuple BN (aJ (aC (pv 5)) aU))) (aR (fX rfl (dE c8 rfl T.b_tuple BN (aJ (aB (fN (j8 (j4 (N:=["_law_strip_here","_law_machine_here"]) (js:=[none,some 0]) rfl (.own (.cap rfl (.inl rfl) (.inl rfl) .nil)) (by rfl) (r6 rfl (aC (pv 3)))) (by decide) (by decide) (is:=[0]) (fun cl C j e g=>⟨_,(bO (i:=0) (show (["_law_strip_here","_law_machine_here"]:List Str).Nodup by decide +kernel) rfl (Or.inl rfl)),(bQ 0),Fl.fA,(c7 (b8 rfl rfl rfl (bZ b (c.mono (by decide)) rfl mE (aD (aQ (pv 1)) (aD (aQ (pv 0)) bB)))))⟩)))) aU))) bR)))))))))))))
theorem rB:FnScope ["_law_script","_law_at","_law_signs","_law_rooms","_law_machine_here","_law_ways_here"] ["_law_script","_law_at"] (aL (top 39)):=by constructor<;>first|rfl|decide +kernel
theorem zN(T:Txt w K mg)(D:DefAt K mg "_law_small" (top 39) ["_law_script","_law_at"])(b:a7 P w K mg base TH 1 "_law_cell" ["_law_script","_law_k"] bD)(a:a7 P w K mg base TH 3 "_law_machine" ["_law_script","_law_at","_law_rooms","_law_signs"] eH)(c:a7 P w K mg base TH 4 "_law_ways" ["_law_machine_here","_law_signs","_law_most"] cW):a7 P w K mg base TH 5 "_law_small" ["_law_script","_law_at"] gN:=
 @cQ P w K mg base TH "_law_small" (top 39) ["_law_script","_law_at","_law_signs","_law_rooms","_law_machine_here","_law_ways_here"] ["_law_script","_law_at"] 4 oG D rB (fun f e A outer s H F E d=>by
  have nd:=rB.nd
  exact (Fl.aF (Fl.aK (L2.aK (i:=2) nd rfl (Or.inl rfl) (aT (aS (cB rfl) bP (aB aE) (aB (aS cT cF (aB (c7 (b8 rfl rfl rfl (bZ b (d.mono (by decide)) rfl (cA fun _ _ _ h=>h) (aD (aQ (pv 0)) (aD (aQ (pv 1)) bB)))))) (aB aE)))))))
   (Fl.aF (Fl.aK (L2.aK (i:=3) nd rfl (Or.inl rfl) (aT (aS (cB rfl) bP (aB aE) (aB (aS cT cF (aB (c7 (b8 rfl rfl rfl (bZ b (d.mono (by decide)) rfl (cA fun _ _ _ h=>h) (aD (aQ (pv 0)) (aD (aT (aS (cB rfl) bP (aC (pv 1)) (aB aE))) bB)))))) (aB (aY (aZ rfl) aH (aB (fN (eP (aR aE (aR aE bR))))) (aB (aS gG eG (aC (pv 2)) (aB aE)))))))))))
   (Fl.aF (Fl.aK (L2.aK (i:=4) nd rfl (Or.inl rfl) (b8 rfl rfl rfl (bZ a (d.mono (by decide)) rfl (cA fun _ _ _ h=>h) (aD (aQ (pv 0)) (aD (aT (aS (cB rfl) bP (aC (pv 1)) (aB aE))) (aD (aQ (pv 3)) (aD (aQ (pv 2)) bB))))))))
   (Fl.aF (Fl.aK (L2.aK (i:=5) nd rfl (Or.inl rfl) (b8 rfl rfl rfl (bZ c (d.mono (by decide)) rfl (cA fun _ _ _ h=>h) (aD (aQ (pv 4)) (aD (aQ (pv 2)) (aD (aT aE) bB)))))))
   (Fl.aF (Fl.cP (L2.cP (cS ⟨rfl,rfl⟩) (Fl.cK aA8 uP (aC (pv 5)) (aB nZ) (cE _))
   (Fl.aF (Fl.aK (L2.aK (i:=3) nd rfl (Or.inl rfl) (aT (aS gG eG (aC (pv 3)) (aB aE)))))
   (Fl.aF (Fl.aK (L2.aK (i:=4) nd rfl (Or.inl rfl) (b8 rfl rfl rfl (bZ a (d.mono (by decide)) rfl (cA fun _ _ _ h=>h) (aD (aQ (pv 0)) (aD (aT (aS (cB rfl) bP (aC (pv 1)) (aB aE))) (aD (aQ (pv 3)) (aD (aQ (pv 2)) bB))))))))
   (Fl.aP (Fl.aK (L2.aK (i:=5) nd rfl (Or.inl rfl) (b8 rfl rfl rfl (bZ c (d.mono (by decide)) rfl (cA fun _ _ _ h=>h) (aD (aQ (pv 4)) (aD (aQ (pv 2)) (aD (aT aE) bB))))))))))))
   (Fl.aP (Fl.bM (aT (dR (aR (bF (pv 4)) (aR (bF (pv 5)) bR))))))))))))
theorem uF:FnScope ["_law_rows","_law_room","_law_strip_here","_law_sign"] ["_law_rows","_law_room","_law_strip_here"] (aL (top 40)):=by constructor<;>first|rfl|decide +kernel
theorem aC6(T:Txt w K mg)(D:DefAt K mg "_law_led" (top 40) ["_law_rows","_law_room","_law_strip_here"]):a7 P w K mg base TH 1 "_law_led" ["_law_rows","_law_room","_law_strip_here"] dA:=
 @cQ P w K mg base TH "_law_led" (top 40) ["_law_rows","_law_room","_law_strip_here","_law_sign"] ["_law_rows","_law_room","_law_strip_here"] 0 mC D uF (fun f a A outer s H F E b=>by
  have nd:=uF.nd
  exact (Fl.aF (Fl.cU (bQ 3) (L2.cU (cS ⟨rfl,rfl⟩) rfl (xK rfl (bF (pv 2))) (bO (i:=3) nd rfl (Or.inl rfl))
   (Fl.aP (Fl.aK (L2.aK (i:=1) nd rfl (Or.inl rfl) (aT (aY (aZ rfl) aH (aB (aY (aZ rfl) aH (aC (pv 0)) (aC (pv 1)))) (aB (uS (gU DX ET EU uK (aB eO) (aJ (aC (pv 3)) aU)) (by intro ρ x h;cases h;exact ⟨_,rfl⟩))))))))))
   (Fl.aP (Fl.bM (aQ (pv 1))))))
end
section
variable{P:Program}{w:World}{K:Frag}{mg:Str->Option Value}{base:Heap}{TH:Hp}
theorem rC:FnScope ["_law_words","_law_most","_law_length","_law_start"] ["_law_words","_law_most"] (aL (top 41)):=by constructor<;>first|rfl|decide +kernel
theorem zO(T:Txt w K mg)(D:DefAt K mg "_law_round" (top 41) ["_law_words","_law_most"]):a7 P w K mg base TH 1 "_law_round" ["_law_words","_law_most"] d9:=
 @cQ P w K mg base TH "_law_round" (top 41) ["_law_words","_law_most","_law_length","_law_start"] ["_law_words","_law_most"] 0 kR D rC (fun f b A outer s H F E a=>by
  have nd:=rC.nd
  exact (Fl.aF (Fl.cU (bQ 2) (L2.cU (cS ⟨rfl,rfl⟩) rfl (aMI (aGG rfl T.b_range (aJ (aB aE) (aJ (aB (aS (cB rfl) bP (aC (pv 1)) (aB aE))) aU)))) (bO (i:=2) nd rfl (Or.inl rfl))
   (Fl.aF (Fl.aK (L2.aK (i:=3) nd rfl (Or.inl rfl) (aT (aS gG eG (aB (cZ rfl (bK cG rfl T.b_len A6 (aJ (aC (pv 0)) aU)))) (aC (pv 2))))))
   (Fl.aF (Fl.cP (L2.cP (cS ⟨rfl,rfl⟩) (PW.pt (Fl.kE (Fl.cK jL gJ (aC (pv 3)) (aB aE) (cE _)) (Fl.j2 (Fl.cK (iG rfl a.units) fE (aB (aY (aZ rfl) aH (aC (pv 0)) (aB (aS gG eG (aC (pv 3)) (aB aE))))) (aB (aY (aZ rfl) aH (aC (pv 0)) (aB (aS (cB rfl) bP (aB (aS gG eG (aC (pv 3)) (aB aE))) (aC (pv 2)))))) (cE _)))))
   (Fl.aP (Fl.aK (L2.aK (i:=3) nd rfl (Or.inl rfl) (aT (aS gG eG (aC (pv 3)) (aB aE))))))))
   (Fl.aP (Fl.dO (Fl.cK aHG aA6 (aC (pv 3)) (aC (pv 1)) (cE _)) (Fl.aP (Fl.bM (aT (dR (aR (bF (pv 3)) (aR (bF (pv 2)) bR)))))) Fl.cR))))))
   (Fl.aP (Fl.bM (aT nZ)))))
theorem sY:FnScope ["_law_found","_law_due","_law_words"] ["_law_found","_law_due","_law_words"] (aL (top 42)):=by constructor<;>first|rfl|decide +kernel
theorem aCS(T:Txt w K mg)(D:DefAt K mg "_law_told" (top 42) ["_law_found","_law_due","_law_words"])(a:a7 P w K mg base TH 1 "_law_whole" ["_law_found"] iN):a7 P w K mg base TH 2 "_law_told" ["_law_found","_law_due","_law_words"] fW:=
 @cQ P w K mg base TH "_law_told" (top 42) ["_law_found","_law_due","_law_words"] ["_law_found","_law_due","_law_words"] 1 lN D sY (fun f c A outer s H F E b=>by
  have nd:=sY.nd
  exact (Fl.aF (Fl.dO (PW.pt (Fl.p7 (Fl.k9 (Fl.iB (mX (bK (jO rfl (aHM _)) rfl T.b_isinstance B2 (aJ (aC (pv 0)) (aJ (kS (v:=.ty "tuple") rfl T.b_tuple BN rfl) aU)))))) (Fl.p7 (Fl.cK (aA7 rfl b.units) uO (aB (cZ rfl (bK cG rfl T.b_len A6 (aJ (aC (pv 0)) aU)))) (aB aE) (cE _)) (Fl.p7 (Fl.k9 (Fl.iB (c7 (b8 rfl rfl rfl (bZ a (b.mono (by decide)) rfl (cA fun _ _ _ h=>h) (aD (aT (aY (aZ rfl) aH (aC (pv 0)) (aB aE))) bB)))))) (Fl.rD (Fl.k9 (Fl.iB (c7 (b8 rfl rfl rfl (bZ a (b.mono (by decide)) rfl (cA fun _ _ _ h=>h) (aD (aT (aY (aZ rfl) aH (aC (pv 0)) (aB aE))) bB))))))))))) (Fl.aP (Fl.bM (aT oO))) Fl.cR)
   (Fl.aP (Fl.bM (aT (aBB (pG (iG rfl b.units) fE (aB (iU rfl (aC (pv 0)) mH (mI (aB aE)))) (aC (pv 1)) (cE _)) (aBB (mX (bK (jO rfl (aJO _)) rfl T.b_isinstance B2 (aJ (aB (aY (aZ rfl) aH (aC (pv 0)) (aB aE))) (aJ (kS (v:=.ty "list") rfl T.b_list GL rfl) aU)))) (aHI (pG (iG rfl b.units) fE (aB (aY (aZ rfl) aH (aC (pv 0)) (aB aE))) (aB (iU rfl (aC (pv 2)) mH (mI (aB (aS (cB rfl) bP (aB (aY (aZ rfl) aH (aC (pv 1)) (aB aE))) (aB (aY (aZ rfl) aH (aC (pv 1)) (aB aE)))))))) (cE _))))))))))
theorem aIL:FnScope ["_law_script","_law_machine_here","_law_ways_here","_law_strips","_law_rows","_law_words","_law_signs","_law_pieces","_law_room","_law_said_of","_law_k","_law_due","_law_turn","_law_found"] ["_law_script"] (aL (top 43)):=by constructor<;>first|rfl|decide +kernel
theorem aQ5(T:Txt w K mg){n:Addr}{m:FuncData}(p:Fun K "law" "law" (top 43) n m)(e:a7 P w K mg base TH 5 "_law_small" ["_law_script","_law_at"] gN)(g:a7 P w K mg base TH 2 "_law_strip" ["_law_script","_law_at","_law_size","_law_signs"] dN)(c:a7 P w K mg base TH 1 "_law_cell" ["_law_script","_law_k"] bD)(a:a7 P w K mg base TH 1 "_law_led" ["_law_rows","_law_room","_law_strip_here"] dA)(f:a7 P w K mg base TH 1 "_law_round" ["_law_words","_law_most"] d9)(b:yG P w K mg base TH 15 "comes_round" ["machine","ahead","again","behind"] [.str ""] eS)(j:a7 P w K mg base TH 2 "_law_told" ["_law_found","_law_due","_law_words"] fW)(k:a7 P w K mg base TH 3 "_law_says" ["_law_machine_here","_law_strip_here"] eN):FnOk P w K mg base (CXe P w) 16 n m ["_law_script"] (spF (gOf P w K mg base TH) K mg 1 aF2):=
 @aPO P w K mg base TH "law" (top 43) ["_law_script","_law_machine_here","_law_ways_here","_law_strips","_law_rows","_law_words","_law_signs","_law_pieces","_law_room","_law_said_of","_law_k","_law_due","_law_turn","_law_found"] ["_law_script"] 15 n m aF1 p aIL (fun o A outer s H F E l=>by
  have nd:=aIL.nd
  exact (Fl.aF (n8 (mU rfl (dG (bQ 1) (dG (bQ 2) kY)) rfl) (gI (c7 (b8 rfl rfl rfl (bZ e (l.mono (by decide)) rfl (cA fun _ _ _ h=>h) (aD (aQ (pv 0)) (aD (aT aE) bB))))) (mO rfl (dF (bO (i:=1) nd rfl (Or.inl rfl)) (dF (bO (i:=2) nd rfl (Or.inl rfl)) kT)))))
   (Fl.aF (n8 (mU rfl (dG (bQ 3) (dG (bQ 4) (dG (bQ 5) kY))) rfl) (gI (bF (pv 2)) (mO rfl (dF (bO (i:=3) nd rfl (Or.inl rfl)) (dF (bO (i:=4) nd rfl (Or.inl rfl)) (dF (bO (i:=5) nd rfl (Or.inl rfl)) kT))))))
   (Fl.aF (Fl.aK (L2.aK (i:=6) nd rfl (Or.inr rfl) (aT (cZ rfl (bK cG rfl T.b_len A6 (aJ (aB (aY (aZ rfl) aH (aB (aY (aZ rfl) aH (aC (pv 1)) (aB aE))) (aB aE))) aU))))))
   (Fl.aF (tM (L2.nG (i:=7) nd rfl (Or.inl rfl) (by rfl) (N:=["_law_k","_law_script","_law_signs"]) (js:=[none,some 0,some 6]) rfl (.own (.cap rfl (.inl rfl) (.inl rfl) (.cap rfl (.inl rfl) (.inl rfl) .nil))) (by rfl) (v4 (iI (fK rfl T.b_range (aJ (aB aE) aU))))) (by decide) (by decide) (is:=[0]) (fun cl C t q r=>⟨_,(bO (i:=0) (show (["_law_k","_law_script","_law_signs"]:List Str).Nodup by decide +kernel) rfl (Or.inl rfl)),(bQ 0),Fl.fA,(c7 (b8 rfl rfl rfl (bZ g (l.mono (by decide)) rfl mE (aD (aQ (pv 1)) (aD (aT (aS (cB rfl) bP (aB aE) (aB (aS iF fO (aB aE) (aC (pv 0)))))) (aD (aT (aS cT cF (aB (c7 (b8 rfl rfl rfl (bZ c (l.mono (by decide)) rfl mE (aD (aQ (pv 1)) (aD (aT (aS (cB rfl) bP (aB aE) (aC (pv 0)))) bB)))))) (aB aE))) (aD (aQ (pv 2)) bB)))))))⟩))
   (Fl.aF (Fl.dO (Fl.cK (iG rfl l.units) fE (aB (aS cT cF (aB (c7 (b8 rfl rfl rfl (bZ c (l.mono (by decide)) rfl (cA fun _ _ _ h=>h) (aD (aQ (pv 0)) (aD (aT aE) bB)))))) (aB aE))) (aB aE) (cE _)) (Fl.aP (aPL (gI eO (mP (pv 7) (aB aE) aIY)))) Fl.cR)
   (Fl.aF (Fl.aK (L2.aK (i:=8) nd rfl (Or.inl rfl) (b8 rfl rfl rfl (bZ a (l.mono (by decide)) rfl (cA fun _ _ _ h=>h) (aD (aQ (pv 4)) (aD (aT aE) (aD (aT (aY (aZ rfl) aH (aC (pv 7)) (aB aE))) bB)))))))
   (Fl.aF (fQ (L2.aK (i:=9) nd rfl (Or.inl rfl) (eP bR)))
   (Fl.aF (Fl.cU (bQ 10) (L2.cU (cS ⟨rfl,rfl⟩) rfl (iI (fK rfl T.b_range (aJ (aB (aS (cB rfl) bP (aB (aS iF fO (aB aE) (aB (cZ rfl (bK cG rfl T.b_len A6 (aJ (aC (pv 3)) aU)))))) (aB aE))) aU))) (bO (i:=10) nd rfl (Or.inl rfl))
   (Fl.aF (i7 rfl (L2.eU (gU BM BH BI eE (pv 9) (aJ (aY (aZ rfl) aH (aC (pv 5)) (aB (c7 (b8 rfl rfl rfl (bZ a (l.mono (by decide)) rfl (cA fun _ _ _ h=>h) (aD (aQ (pv 4)) (aD (aQ (pv 8)) (aD (aT (aY (aZ rfl) aH (aC (pv 7)) (aB aE))) bB)))))))) aU))))
   (Fl.aP (Fl.aK (L2.aK (i:=8) nd rfl (Or.inl rfl) (b8 rfl rfl rfl (bZ a (l.mono (by decide)) rfl (cA fun _ _ _ h=>h) (aD (aQ (pv 4)) (aD (aQ (pv 8)) (aD (aT (aY (aZ rfl) aH (aC (pv 7)) (aB aE))) bB)))))))))))
   (Fl.aF (qJ 9 (Fl.aK (L2.aK (i:=11) nd rfl (Or.inl rfl) (b8 rfl rfl rfl (bZ f (l.mono (by decide)) rfl (cA fun _ _ _ h=>h) (aD (aQ (pv 9)) (aD (aT (cZ rfl (bK cG rfl T.b_len A6 (aJ (aC (pv 3)) aU)))) bB)))))))
   (Fl.aF (Fl.cU (bQ 12) (L2.cU (cS ⟨rfl,rfl⟩) rfl (iI (fK rfl T.b_range (aJ (aB aE) aU))) (bO (i:=12) nd rfl (Or.inl rfl))
   (aQ4 9 (aN4 (E:=E) (dd:=[.d (.str "")]) (dvs:=[.str ""]) rfl rfl rfl rfl (fun F=>⟨.str _,trivial⟩)
   (L2.dO (Fl.cK (iG rfl l.units) fE (aB (aY (aZ rfl) aH (aC (pv 7)) (aB aE))) (aB eO) (cE _)) (L2.aP (L2.aK (i:=13) nd rfl (Or.inl rfl) (aQ3 b (l.mono (by decide)) rfl (cA fun _ _ _ h=>h) (aD (aQ (pv 1)) (aD (aT (aY (aZ rfl) aH (aC (pv 7)) (aB aE))) (aD (aT (aY (aZ rfl) aH (aC (pv 7)) (aB aE))) bB)))))) (L2.aP (L2.aK (i:=13) nd rfl (Or.inl rfl) (bZ b.calls (l.mono (by decide)) rfl (cA fun _ _ _ h=>h) (aD (aQ (pv 1)) (aD (aT (aY (aZ rfl) aH (aC (pv 7)) (aB aE))) (aD (aT (aY (aZ rfl) aH (aC (pv 7)) (aB aE))) (aD (aT (aY (aZ rfl) aH (aC (pv 7)) (aB aE))) bB))))))))
   (L2.dO (PW.pt (L2.p7 (Fl.cK aA8 uP (aC (pv 11)) (aB nZ) (cE _)) (L2.rD (L2.k9 (L2.iB (bZ j (l.mono (by decide)) rfl (cA fun _ _ _ h=>h) (aJ (pv 13) (aD (aQ (pv 11)) (aD (aQ (pv 9)) bB))))))))) (Fl.aP (Fl.bM (aT oO))) L2.cR)
   (L2.eU (gU BM BH BI eE (aKX aO4 (pv 13) aGD (fun _ _=>rfl)) (aJ vI aU)))))))
   (Fl.aF (Fl.cU (bQ 10) (L2.cU (cS ⟨rfl,rfl⟩) rfl (xK rfl (fN (eP (@aR _ _ _ _ _ _ _ aE (@aR _ _ _ _ _ _ _ aE (@aR _ _ _ _ _ _ _ aE (aR (aY (aZ rfl) aH (aC (pv 11)) (aB aE)) (aR (aS gG eG (aB (aS (cB rfl) bP (aB (aY (aZ rfl) aH (aC (pv 11)) (aB aE))) (aB (aY (aZ rfl) aH (aC (pv 11)) (aB aE))))) (aB aE)) (aR (aS (cB rfl) bP (aB (aY (aZ rfl) aH (aC (pv 11)) (aB aE))) (aB (aY (aZ rfl) aH (aC (pv 11)) (aB aE)))) bR))) vC) vC) vC)))) (bO (i:=10) nd rfl (Or.inl rfl))
   (Fl.aP (Fl.dO (Fl.cK (aA7 rfl l.units) uO (aB (c7 (b8 rfl rfl rfl (bZ k (l.mono (by decide)) rfl (cA fun _ _ _ h=>h) (aD (aQ (pv 1)) (aD (aT (aS (cB rfl) bP (aB (aS (cB rfl) bP (aB (aY (aZ rfl) aH (aC (pv 7)) (aB aE))) (aB (aS aKN aFZ (aB (aY (aZ rfl) aH (aC (pv 7)) (aB aE))) (aB (aHQ (G:=qP) (bK (yO rfl) rfl T.b_min GN (aJ (aC (pv 10)) (aJ (aB aE) aU))))))))) (aB (aY (aZ rfl) aH (aC (pv 7)) (aB aE))))) bB)))))) (aB (aY (aZ rfl) aH (aC (pv 9)) (aB (aHQ (G:=qP) (bK (yO rfl) rfl T.b_min GN (aJ (aC (pv 10)) (aJ (aB aE) aU))))))) (cE _)) (Fl.aP (Fl.bM (aT oO))) Fl.cR))))
   (Fl.aP (Fl.bM (aT oO)))))))))))))))
end
theorem p4(f:Sg->R Fw)(g:Sg->R D3)(ρ:Sg):m6 f g ρ=(f ρ).bind fun w=>match w with
 | .nx ρ'=>g ρ'
 | _=>.bad:=id rfl
@[simp] theorem aTW(f g:Sg->R PyData)(h:Sg->R (List PyData))(ρ:Sg):z6 f g h ρ=(f ρ).bind fun x=>(g ρ).bind fun y=>(h ρ).bind fun z=>.ok (x,y,z):=id rfl
theorem aQ6(n:Nat)(fb:Sg->R D3)(a:List A):fn3 n fb a=fb (a.map some++List.replicate (n - a.length) none):=id rfl
theorem aKO{W:Nat->Str}(hw:∀ k,jG (W k)){m l:Nat}(y:m<=1000)(w:1<=l){a0 a1 a2 a3 a4 a5 a6:Option A}:∀ (st:Nat),st+l<=m->(∀ k,st<=k->W (k+l)=W k)->
  ∃ st',st'<=st/\(∀ k,st'<=k->W (k+l)=W k)/\(st'=0\/W (st' - 1)≠W (st' - 1+l)) /\
   m6 (bS crT crB) aF0 [a0,a1,a2,a3,a4,a5,a6,some (.l (wdL W m)),some (.d (.int (st:Int))),some (.d (.int (l:Int)))]=.ok (.int (st':Int),.int (l:Int),wdL W (st'+l)):=by
 have b:∀ st,st+l<=m->aF0 [a0,a1,a2,a3,a4,a5,a6,some (.l (wdL W m)),some (.d (.int (st:Int))),some (.d (.int (l:Int)))]=.ok (.int (st:Int),.int (l:Int),wdL W (st+l)):=fun st h=>by
  have c:=aCL (wdL W m) (l:=st+l) (by rw[nU];exact h)
  have s1:nSl (.list (wdL W m)) none (some ((st:Int)+(l:Int)))=.ok (wdL W (st+l)):=by
   show R.ok (kI _ _ _)=_
   rw[show ((st:Int)+(l:Int))=((st+l:Nat):Int) by omega,c]
   unfold wdL
   rw[<-List.map_take,List.take_range,FA h]
  generalize wdL W m=n at *
  generalize wdL W (st+l)=v at *
  simp[aF0,s1]
 intro st
 induction st with
 | zero=>
  intro h i
  refine ⟨0,AG _,i,.inl rfl,?_⟩
  have a:crT [a0,a1,a2,a3,a4,a5,a6,some (.l (wdL W m)),some (.d (.int ((0:Nat):Int))),some (.d (.int (l:Int)))]=.ok false:=by simp[crT]
  rw[p4,dC a]
  exact b 0 h
 | succ st ih=>
  intro h i
  have t:=sP (W:=W) (m:=m) (k:=st) (by omega)
  have p:=sP (W:=W) (m:=m) (k:=st+l) (by omega)
  have q:=aCG (wS (hw st)) (wS (hw (st+l)))
  have e1:((st+1:Nat):Int) - 1=(st:Int):=by omega
  have e2:((st:Int)+(l:Int))=((st+l:Nat):Int):=by omega
  have a:crT [a0,a1,a2,a3,a4,a5,a6,some (.l (wdL W m)),some (.d (.int ((st+1:Nat):Int))),some (.d (.int (l:Int)))]=.ok (decide (W st=W (st+l))):=by
   have g:(0:Int) < ((st+1:Nat):Int):=by omega
   have r:dEq (.str (W st)) (.str (W (st+l)))=.ok (.bool (decide (W st=W (st+l)))):=by
    rw[q]
    congr 2
    refine GE.mpr ⟨fun e=>by injection e,fun e=>by rw[e]⟩
   generalize wdL W m=n at *
   unfold crT
   simp only[lY,gR,fV,eQ,fU,AQ,AK,R.bind_ok,aLG,A3 g,lF,CB,sI,e1,t,lH,e2,p,r]
  by_cases f:W st=W (st+l)
  ·obtain ⟨st',x,s,u,j⟩:=ih (by omega) fun k z=>by
    by_cases e:k=st
    · subst e; exact f.symm
    · exact i k (by omega)
   refine ⟨st',by omega,s,u,?_⟩
   rw[A3 f] at a
   have o:crB [a0,a1,a2,a3,a4,a5,a6,some (.l (wdL W m)),some (.d (.int ((st+1:Nat):Int))),some (.d (.int (l:Int)))]=.ok (.nx [a0,a1,a2,a3,a4,a5,a6,some (.l (wdL W m)),some (.d (.int (st:Int))),some (.d (.int (l:Int)))]):=by
    generalize wdL W m=n at *
    simp[crB,e1]
   rw[p4] at j ⊢
   rw[eY a o]
   exact j
  ·refine ⟨st+1,AG _,i,.inr (by rw[Nat.add_sub_cancel];exact f),?_⟩
   rw[A7 f] at a
   rw[p4,dC a]
   exact b (st+1) h
theorem aSB{rs:List Rw}{rows:List (List Nat)}{ws:List Str}{sg:Nat}(M:Mach rs sg)(ho:iP [.d (bH rs)]=.ok (.d (rdW rows ws)))(Rr:Rdw rows ws sg){a g b:List Nat}(Sa:bC sg a)(Sg:bC sg g)(Sb:bC sg b) :
  ∃ st l,Canon (cw rows ws a g b) st l/\st+l<=rows.length/\eS [.d (bH rs),.d (stD a),.d (stD g),.d (stD b)]=.ok (.int (st:Int),.int (l:Int),wdL (cw rows ws a g b) (st+l)):=by
 have n1:=Rr.r.n1
 have n2:=Rr.r.n2
 have p:runN rows 0 a < rows.length:=jC Rr.r a Sa.2 n1
 have j:=aFV Rr.r (wd:=ws.map .str) (q:=0) n1 Sa.2 Sa.1
 obtain ⟨m,s,ad,Y,I,o⟩:=aN2 Rr.r (wd:=ws.map .str) p Sg.2 Sg.1
 have v:∀ k,itR rows (runN rows 0 a) g k < rows.length:=pT Rr.r p Sg.2
 have h:∀ k,runN rows (itR rows (runN rows 0 a) g k) b < rows.length:=fun k=>jC Rr.r b Sb.2 (v k)
 have x:∀ k,jG (cw rows ws a g b k):=fun k=>(Rr.w (h k)).1
 have c:∀ k,s<=k->cw rows ws a g b (k+(m - s))=cw rows ws a g b k:=fun k hk=>by
  unfold cw
  rw[aN0 I (by omega) k hk]
 have F:∀ z:List Nat,bC sg z->jQ [.d (bH rs),.d (stD z)]=.ok (.d (stD z)):=fun z S=>by
  have:=aJ3 M (z:=⟨z.toArray⟩) (by simpa using S)
  simpa[stD] using this
 obtain ⟨ρ',N,A,rfl⟩:=f6 (fs:=stN 4) (fb:=crC) (d:=stD) (xs:=[a,g,b]) (ρ:=[some (.d (bH rs)),some (.d (stD a)),some (.d (stD g)),some (.d (stD b)),none,none,none,none,none,none])
  (fun i ρ=>∃ A,ρ=[some (.d (bH rs)),some (.d (stD a)),some (.d (stD g)),some (.d (stD b)),A,none,none,none,none,none]) ⟨none,rfl⟩ fun i z ρ hz B=>by
  obtain ⟨A,e⟩:=B
  have f:=AL hz
  have S:bC sg z:=by
   rcases AZ.mp f with rfl|f
   ·exact Sa
   rcases AZ.mp f with rfl|f
   ·exact Sg
   ·rw[AV.mp f];exact Sb
  have:=F z S
  refine ⟨_,_,by rw[e];rfl,.inl (show crC [some (.d (bH rs)),some (.d (stD a)),some (.d (stD g)),some (.d (stD b)),some (.d (stD z)),none,none,none,none,none]=.ok (.nx [some (.d (bH rs)),some (.d (stD a)),some (.d (stD g)),some (.d (stD b)),some (.d (stD z)),none,none,none,none,none]) from ?_),some (.d (stD z)),rfl⟩
  generalize stD z=sz at *
  simp[crC,this]
 have C:(psN rows (runN rows 0 a) g m).length=m:=by unfold psN;rw[AB,BC]
 have D:cJ (.list (psN rows (runN rows 0 a) g m))=.ok (psN rows (runN rows 0 a) g m):=kM (by rw[C];omega)
 have E:compL (stN 0) gS (e2 dIx (e2 dIx (rV 1) (eC (.int 1))) (eA (aW 3 fH (aA (vV 1) (aA (vV 0) (aA (vV 2) aM)))))) [none,some (.d (rdW rows ws)),some (.d (stD b))] (psN rows (runN rows 0 a) g m)=.ok (wdL (cw rows ws a g b) m):=fF (d:=fun k=>.int (itR rows (runN rows 0 a) g k:Int)) (g:=fun k=>.str (cw rows ws a g b k)) (xs:=List.range m) fun k _=>⟨_,rfl,by
  have K:=aFV Rr.r (wd:=ws.map .str) (v k) Sb.2 Sb.1
  have X:=(Rr.w (h k)).2
  have i1:dIx (rdW rows ws) (.int 1)=.ok (.tuple (ws.map .str)):=rfl
  rw[show rdD rows (ws.map .str)=rdW rows ws from rfl] at K
  unfold cw
  generalize stD b=sb at *
  generalize rdW rows ws=rd at *
  generalize ws.getD (runN rows (itR rows (runN rows 0 a) g k) b) ""=wk at *
  simp[i1,K,X]⟩
 have n:(pieceW (cw rows ws a g b) s (m - s)).length=m - s:=by unfold pieceW;rw[AB,BC]
 obtain ⟨l,Q,O,l3,l4,G⟩:=aKK (L:=pieceW (cw rows ws a g b) s (m - s)) (fun w P=>by
  unfold pieceW at P
  obtain ⟨i,_,rfl⟩:=BA.mp P
  exact x _) (by rw[n];omega) (by rw[n];omega)
 rw[n] at O
 have u:=aEN c (by omega) ((aEO c O).mp l3)
 obtain ⟨st,b1,T,V,J⟩:=aKO (W:=cw rows ws a g b) x (m:=m) (l:=l) (by omega) Q (a0:=some (.d (bH rs))) (a1:=some (.d (stD a))) (a2:=some (.d (stD g))) (a3:=some (.d (stD b))) (a4:=A) (a5:=some (.d (rdW rows ws))) (a6:=some (.d (.tuple [.list (psN rows (runN rows 0 a) g m),.int (s:Int)]))) s (by omega) u
 refine ⟨st,l,⟨Q,T,fun y h1 h2=>?_,V⟩,by omega,?_⟩
 ·rcases GQ y l with q|q
  ·exact absurd ((aEO c (by omega)).mpr fun i _=>by
    have:=aKJ c (by omega) h2 (s+i) (by omega)
    rw[show s+i+y=(s+i)+y from rfl];exact this) (l4 y h1 q)
  ·exact q
 ·have t:dSl (.list (wdL (cw rows ws a g b) m)) (some (s:Int)) none=.ok (.list ((pieceW (cw rows ws a g b) s (m - s)).map .str)):=by
   rw[z0,aCK _ (by rw[nU];omega)]
   congr 2
   refine FV fun i=>?_
   unfold wdL pieceW
   rw[List.getElem?_drop,AH,AH,AH]
   by_cases hi:i < m - s
   ·rw[B1 (by omega),B1 hi];rfl
   ·rw[CL (by rw[BC];omega),CL (by rw[BC];omega)];rfl
  have Z:dIx (.tuple [.list (psN rows (runN rows 0 a) g m),.int (s:Int)]) (.int 0)=.ok (.list (psN rows (runN rows 0 a) g m)):=rfl
  have j1:dIx (.tuple [.list (psN rows (runN rows 0 a) g m),.int (s:Int)]) (.int 1)=.ok (.int (s:Int)):=rfl
  have H:cJ (.tuple [stD a,stD g,stD b])=.ok ([a,g,b].map stD):=rfl
  rw[show rdD rows (ws.map .str)=rdW rows ws from rfl] at j o
  unfold eS
  rw[lM]
  rw[p4] at J
  generalize U:psN rows (runN rows 0 a) g m=PS at *
  generalize aa:(pieceW (cw rows ws a g b) s (m - s)).map PyData.str=PW at *
  generalize ac:wdL (cw rows ws a g b) m=WL at *
  simp only[Int.natCast_zero] at j
  simp only[aQ6,p4,jB,gR,fV,aD5,wH,fU,aFP,jS,gH,qT,kB,eQ,lX,iM,iX,uZ,aBT,aBU,aBV,R.bind_ok,AW,A8,Nat.reduceAdd,Nat.reduceSub,Nat.reduceLeDiff,CB,AT,BD,BO,BL,List.replicate,AQ,AK,AY,A2,H]
  simp only[AT,BD] at N
  simp only[N,R.bind_ok,ho,aBQ,j,o,AQ,AK,AY,A2,AW,A8,Nat.reduceAdd,CB,Z,j1,D,gL,AT,BD,Option.bind_none,DI,Option.join_some,E,t,G,J]
theorem aCT{rows:List (List Nat)}{sg:Nat}(M:Rdr rows sg){q:Nat}(o:q < rows.length){z:List Nat}(h:Sgs sg z)(C:z.length<=1000):dA [.d (.tuple (rows.map g9)),.d (.int (q:Int)),.d (stD z)]=.ok (.d (.int (runN rows q z:Int))):=by
 have g:cJ (stD z)=.ok (z.map fun u:Nat=>PyData.str ⟨#[u]⟩):=by
  have:=u0 (z:=⟨z.toArray⟩) (by simpa using (by omega:z.length<=16777216))
  simpa[stD] using this
 obtain ⟨y,j,u,rfl⟩:=f6 (fs:=stN 3) (fb:=(bN 1 (vD (e2 dIx (e2 dIx (rV 0) (rV 1)) (e2 mY (eC (.str "abc")) (rV 3)))))) (d:=fun u:Nat=>PyData.str ⟨#[u]⟩) (xs:=z) (ρ:=[some (.d (.tuple (rows.map g9))),some (.d (.int (q:Int))),some (.d (stD z)),none])
  (fun i ρ=>∃ u,ρ=[some (.d (.tuple (rows.map g9))),some (.d (.int (runN rows q (z.take i):Int))),some (.d (stD z)),u]) ⟨none,rfl⟩ fun i c ρ l b=>by
  obtain ⟨u,e⟩:=b
  have f:=AL l
  have k:=h c f
  have a:runN rows q (z.take i) < rows.length:=jC M _ (fun x p=>h x (ED p)) o
  obtain ⟨r,B⟩:=yF M a k
  obtain ⟨v,_⟩:=M.at a
  have s:z.take (i+1)=z.take i++[c]:=by rw[List.take_succ,l];rfl
  have w:runN rows q (z.take (i+1))=mB rows (runN rows q (z.take i)) c:=by unfold runN;rw[s,C3];rfl
  have A:dIx (.tuple (rows.map g9)) (.int (runN rows q (z.take i):Int))=.ok (g9 (rows.getD (runN rows q (z.take i)) [])):=hV (dX (by rw[AH,v];rfl))
  have n:dIx (g9 (rows.getD (runN rows q (z.take i)) [])) (.int ((c - 97:Nat):Int))=.ok (.int (mB rows (runN rows q (z.take i)) c:Int)):=hV (dX (by rw[AH,r];rfl))
  have id:=xX (u1 M.s3 k)
  refine ⟨[some (.d (.tuple (rows.map g9))),some (.d (.int (runN rows q (z.take i):Int))),some (.d (stD z)),some (.d (.str ⟨#[c]⟩))],_,by rw[e];rfl,.inl ?_,some (.d (.str ⟨#[c]⟩)),rfl⟩
  rw[w]
  generalize rows.getD (runN rows q (z.take i)) []=t at *
  generalize rows.map g9=m at *
  simp[A,n,id]
 rw[DL] at j
 unfold dA mC
 generalize rows.map g9=m at *
 simp[g,j]
noncomputable def rdρ(W:Nat->Str)(n N L:Nat)(x:Option A):Sg:=[some (.d (.list (wdL W n))),some (.d (.int (N:Int))),some (.d (.int (L:Int))),x]
theorem aCU{W:Nat->Str}(hw:∀ k,jG (W k)){n N L:Nat}:∀ x:Nat,x+L<=n->∃ s,s<=x/\(∀ k,s<=k->k < x->W k=W (k+L))/\(s=0\/W (s - 1)≠W (s - 1+L)) /\
  bS rdT rdB (rdρ W n N L (some (.d (.int (x:Int)))))=.ok (.nx (rdρ W n N L (some (.d (.int (s:Int)))))):=by
 intro x
 induction x with
 | zero=>
  intro h
  refine ⟨0,AG _,fun k h1 h2=>by omega,.inl rfl,?_⟩
  rw[dC (by simp[rdT,rdρ])]
 | succ x ih=>
  intro h
  have r:=sP (W:=W) (m:=n) (k:=x) (by omega)
  have f:=sP (W:=W) (m:=n) (k:=x+L) (by omega)
  have q:=aCG (wS (hw x)) (wS (hw (x+L)))
  have e1:((x+1:Nat):Int) - 1=(x:Int):=by omega
  have e2:((x:Int)+(L:Int))=((x+L:Nat):Int):=by omega
  have b:rdT (rdρ W n N L (some (.d (.int ((x+1:Nat):Int)))))=.ok (decide (W x=W (x+L))):=by
   have g:(0:Int) < ((x+1:Nat):Int):=by omega
   have l:dEq (.str (W x)) (.str (W (x+L)))=.ok (.bool (decide (W x=W (x+L)))):=by
    rw[q]
    congr 2
    refine GE.mpr ⟨fun e=>by injection e,fun e=>by rw[e]⟩
   unfold rdρ
   generalize wdL W n=i at *
   unfold rdT
   simp only[lY,gR,fV,eQ,fU,AQ,AK,R.bind_ok,aLG,A3 g,lF,CB,sI,e1,r,lH,e2,f,l]
  by_cases a:W x=W (x+L)
  ·obtain ⟨s,t,j,p,o⟩:=ih (by omega)
   refine ⟨s,by omega,fun k h1 h2=>?_,p,?_⟩
   ·by_cases e:k=x
    ·subst e;exact a
    ·exact j k h1 (by omega)
   ·rw[A3 a] at b
    have c:rdB (rdρ W n N L (some (.d (.int ((x+1:Nat):Int)))))=.ok (.nx (rdρ W n N L (some (.d (.int (x:Int)))))):=by
     unfold rdρ
     generalize wdL W n=i at *
     simp[rdB,e1]
    rw[eY b c]
    exact o
  ·refine ⟨x+1,AG _,fun k h1 h2=>by omega,.inr (by rw[Nat.add_sub_cancel];exact a),?_⟩
   rw[A7 a] at b
   rw[dC b]
theorem aQ7{W:Nat->Str}(hw:∀ k,jG (W k)){N st l:Nat}(C:Canon W st l)(H:st+l<=N)(D:N<=1000):d9 [.d (.list (wdL W (3 * N+2))),.d (.int (N:Int))]=.ok (.d (.tuple [.int (st:Int),.int (l:Int)])):=by
 have l1:=C.l1
 have a:dLen (.list (wdL W (3 * N+2)))=.ok (.int ((3 * N+2:Nat):Int)):=by rw[gM,nU]
 have e:∀ (L:Nat) (x:Option A),1<=L->L < l->∃ y,rdF (rdρ W (3 * N+2) N L x)=.ok (.nx (rdρ W (3 * N+2) N L y)):=fun L x h1 h2=>by
  obtain ⟨s,B,m,w,t⟩:=aCU hw (n:=3 * N+2) (N:=N) (L:=L) (3 * N+2 - L) (by omega)
  have F:N < s:=by
   rcases GQ N s with q|q
   ·exact q
   ·exfalso
    have per:∀ k,N<=k->W (k+L)=W k:=aEN (s:=N) (p:=l) (fun k G=>C.per k (by omega)) l1 fun i hi=>(m (N+i) (by omega) (by omega)).symm
    have:=C.least L h1 ⟨N,per⟩
    omega
  refine ⟨some (.d (.int (s:Int))),?_⟩
  have e1:((3 * N+2:Nat):Int) - (L:Int)=((3 * N+2 - L:Nat):Int):=by omega
  have c:¬ (s:Int)<=(N:Int):=by omega
  unfold rdF
  have u:bN 3 (vD (e2 dSub (Fl.e1 dLen (rV 0)) (rV 2))) (rdρ W (3 * N+2) N L x)=.ok (.nx (rdρ W (3 * N+2) N L (some (.d (.int ((3 * N+2 - L:Nat):Int)))))):=by
   unfold rdρ
   generalize wdL W (3 * N+2)=j at *
   simp only[iM,kB,fV,gR,eQ,AQ,AK,R.bind_ok,a,sI,e1,AY,A2]
  rw[a8,u,R.bind_ok]
  simp only
  rw[a8,t,R.bind_ok]
  unfold rdρ
  generalize wdL W (3 * N+2)=j at *
  simp[c]
 have f:∀ x:Option A,rdF (rdρ W (3 * N+2) N l x)=.ok (.rt (.d (.tuple [.int (st:Int),.int (l:Int)]))):=fun x=>by
  obtain ⟨s,B,m,w,t⟩:=aCU hw (n:=3 * N+2) (N:=N) (L:=l) (3 * N+2 - l) (by omega)
  have es:s=st:=by
   rcases FU s st with q|q|q
   ·rcases C.first with z|z
    · omega
    · exact absurd (m (st - 1) (by omega) (by omega)) z
   ·exact q
   ·rcases w with z|z
    · omega
    · exact absurd (C.per (s - 1) (by omega)).symm z
  subst es
  have e1:((3 * N+2:Nat):Int) - (l:Int)=((3 * N+2 - l:Nat):Int):=by omega
  have c:(s:Int)<=(N:Int):=by omega
  unfold rdF
  have u:bN 3 (vD (e2 dSub (Fl.e1 dLen (rV 0)) (rV 2))) (rdρ W (3 * N+2) N l x)=.ok (.nx (rdρ W (3 * N+2) N l (some (.d (.int ((3 * N+2 - l:Nat):Int)))))):=by
   unfold rdρ
   generalize wdL W (3 * N+2)=j at *
   simp only[iM,kB,fV,gR,eQ,AQ,AK,R.bind_ok,a,sI,e1,AY,A2]
  rw[a8,u,R.bind_ok]
  simp only
  rw[a8,t,R.bind_ok]
  unfold rdρ
  generalize wdL W (3 * N+2)=j at *
  simp[c]
 have g:∀ (d L:Nat) (o x:Option A),L+d=l->1<=L->jN (stN 2) rdF ((List.range' L (N+1 - L)).map fun k:Nat=>PyData.int (k:Int)) [some (.d (.list (wdL W (3 * N+2)))),some (.d (.int (N:Int))),o,x]=.ok (.rt (.d (.tuple [.int (st:Int),.int (l:Int)]))):=by
  intro d
  induction d with
  | zero=>
   intro L o x h h1
   have:L=l:=by omega
   subst this
   rw[show N+1 - L=(N - L)+1 by omega,List.range'_succ,AT]
   unfold jN
   show ((R.ok (rdρ W (3 * N+2) N L x)).bind fun b=>(rdF b).bind _)=_
   rw[R.bind_ok,f x];rfl
  | succ d ih=>
   intro L o x h h1
   rw[show N+1 - L=(N - L)+1 by omega,List.range'_succ,AT]
   unfold jN
   show ((R.ok (rdρ W (3 * N+2) N L x)).bind fun b=>(rdF b).bind _)=_
   obtain ⟨y,E⟩:=e L x h1 (by omega)
   rw[R.bind_ok,E,R.bind_ok]
   have:=ih (L+1) (some (.d (.int (L:Int)))) y (by omega) (by omega)
   rw[show N+1 - (L+1)=N - L by omega] at this
   exact this
 have r:gK 1 ((N:Int)+1)=.ok ((List.range' 1 N).map fun k:Nat=>PyData.int (k:Int)):=by
  unfold gK
  rw[AD (by omega)]
  congr 1
  unfold mV
  refine FV fun i=>?_
  rw[AH,AH]
  by_cases hi:i < N
  ·rw[B1 (by omega),List.getElem?_range' hi]
   simp
   try omega
  ·rw[CL (by rw[BC];omega),CL (by rw[List.length_range'];omega)];rfl
 have v:=g (l - 1) 1 none none (by omega) (AG _)
 rw[show N+1 - 1=N by omega] at v
 unfold d9
 rw[kR]
 generalize wdL W (3 * N+2)=j at *
 simp only[f9,a8,jB,aFQ,fU,fV,eQ,R.bind_ok,AT,BD,BO,BL,AW,A8,List.replicate,Nat.reduceAdd,Nat.reduceSub,AQ,AK,lH,r,v]
theorem aKP(z:List Nat)(n:Nat):Txt.mul ⟨z.toArray⟩ (n:Int)=⟨((List.replicate n z).flatten).toArray⟩:=by
 unfold Txt.mul
 by_cases h:(n:Int) < 1
 ·rw[AD h,show n=0 by omega];rfl
 ·rw[AE h]
  split
  ·rename_i h1
   rcases CT _ _ |>.mp h1 with q|q
   ·have:=D5 q
    have:n=1:=by omega
    subst this
    simp
   ·have q:z.toArray.size=0:=D5 q
    have b:z=[]:=by
     rw[A4] at q
     exact GG.mp q
    subst b
    congr 1
    simp
  ·congr 1
   rw[EO]
   have:∀ (m:Nat) (a:Array Nat),(List.replicate m z.toArray).foldl (· ++ ·) a=a++((List.replicate m z).flatten).toArray:=fun m=>by
    induction m with
    | zero=>intro a;simp
    | succ m ih=>
     intro a
     rw[FE,E5,ih,FE,List.flatten_cons]
     simp
   have:=this n #[]
   simpa using this
theorem vH(z:List Nat):∀ n,((List.replicate n z).flatten).length=n * z.length
 | 0=>by simp
 | n+1=>by rw[FE,List.flatten_cons,A0,vH z n,Nat.add_mul];omega
theorem cw_word{rs:List Rw}{sg N:Nat}(W:Wy rs sg N){a g b:List Nat}(Sa:bC sg a)(Sg:bC sg g)(Sb:bC sg b)(j:a.length<=4)(e:g.length<=4)(i:b.length<=4){k:Nat}(f:k<=30) :
  bC sg (a++(List.replicate k g).flatten++b)/\cw (a9 rs sg N) (bV rs sg N) a g b k=gB rs (a++(List.replicate k g).flatten++b):=by
 have S:bC sg (a++(List.replicate k g).flatten++b):=by
  refine ⟨?_,fun c d=>?_⟩
  ·rw[A0,A0,vH]
   have:=EM f e
   omega
  ·rcases BR.mp d with d|d
   ·rcases BR.mp d with d|d
    ·exact Sa.2 c d
    ·obtain ⟨l,h,d⟩:=List.mem_flatten.mp d
     rw[List.eq_of_mem_replicate h] at d
     exact Sg.2 c d
   ·exact Sb.2 c d
 refine ⟨S,?_⟩
 rw[<-W.says S]
 unfold cw
 rw[aEM]
 unfold runN
 rw[C3,C3]
theorem aEQ{x y:List Nat}(h:x.length+y.length<=1000):bL (stD x) (stD y)=.ok (stD (x++y)):=by
 unfold stD
 rw[aB3 (by show x.toArray.size+y.toArray.size<=16777216;rw[A4,A4];omega)]
 congr 2
 show (⟨x.toArray++y.toArray⟩:Str)=_
 simp
theorem aN5{z:List Nat}(h:z.length<=1000){k:Nat}(a:k<=30):dMulS (stD z) (.int (k:Int))=.ok (stD (List.replicate k z).flatten):=by
 show (if z.toArray.size<=1000/\0<=(k:Int)/\(k:Int)<=1000 then R.ok (PyData.str (Txt.mul ⟨z.toArray⟩ (k:Int))) else .bad)=_
 rw[AD ⟨by rw[A4];exact h,by omega,by omega⟩,aKP]
 rfl
theorem aN6{rs:List Rw}{sg:Nat}{z:List Nat}(M:Mach rs sg)(S:bC sg z):eN [.d (bH rs),.d (stD z)]=.ok (.d (.str (gB rs z))):=by
 have:=aH1 (z:=⟨z.toArray⟩) M (by simpa using S)
 simpa[stD] using this
theorem aQ8{w:Str}(h:jG w):dNe (.str w) (.str w)=.ok (.bool false):=aQU (wS h).sh
theorem aN7{W:Nat->Str}(hw:∀ k,jG (W k)){n st l:Nat}(h:st+l<=n)(A:n<=1000):fW [.d (.tuple [.int (st:Int),.int (l:Int),.list (wdL W (st+l))]),.d (.tuple [.int (st:Int),.int (l:Int)]),.d (.list (wdL W n))]=.ok (.d (.bool true)):=by
 have o:iV "tuple" "tuple"=true:=by decide
 have t:iV "list" "list"=true:=by decide
 have x:dIx (.tuple [.int (st:Int),.int (l:Int),.list (wdL W (st+l))]) (.int 0)=.ok (.int (st:Int)):=rfl
 have v:dIx (.tuple [.int (st:Int),.int (l:Int),.list (wdL W (st+l))]) (.int 1)=.ok (.int (l:Int)):=rfl
 have c:dIx (.tuple [.int (st:Int),.int (l:Int),.list (wdL W (st+l))]) (.int 2)=.ok (.list (wdL W (st+l))):=rfl
 have g:dIx (.tuple [.int (st:Int),.int (l:Int)]) (.int 0)=.ok (.int (st:Int)):=rfl
 have s:dIx (.tuple [.int (st:Int),.int (l:Int)]) (.int 1)=.ok (.int (l:Int)):=rfl
 have s1:dSl (.tuple [.int (st:Int),.int (l:Int),.list (wdL W (st+l))]) none (some 2)=.ok (.tuple [.int (st:Int),.int (l:Int)]):=rfl
 have q:dNe (.int 3) (.int 3)=.ok (.bool false):=by rw[aB2 (nL _) (nL _),aHX];simp
 have m:dLen (.tuple [.int (st:Int),.int (l:Int),.list (wdL W (st+l))])=.ok (.int 3):=by rw[wJ];rfl
 have i:dEq (.tuple [.int (st:Int),.int (l:Int)]) (.tuple [.int (st:Int),.int (l:Int)])=.ok (.bool true):=aIB (Sh.shaped (n:=1) (aAP fun y a=>by
  rcases AZ.mp a with rfl|a
  ·exact aAQ _ _
  ·rw[AV.mp a];exact aAQ _ _) (by decide))
 have j:dSl (.list (wdL W n)) none (some ((st:Int)+(l:Int)))=.ok (.list (wdL W (st+l))):=by
  rw[z0,show ((st:Int)+(l:Int))=((st+l:Nat):Int) by omega,aCL _ (by rw[nU];exact h)]
  unfold wdL
  rw[<-List.map_take,List.take_range,FA h]
 have r:dEq (.list (wdL W (st+l))) (.list (wdL W (st+l)))=.ok (.bool true):=by
  have b:=vB (L:=(List.range (st+l)).map W) fun w u=>by
   obtain ⟨k,_,rfl⟩:=BA.mp u
   exact hw k
  rw[CC] at b
  exact aIB b.sh
 unfold fW lN
 generalize f:PyData.tuple [.int (st:Int),.int (l:Int),.list (wdL W (st+l))]=e at *
 have p:iK "tuple" e=.ok (.bool true):=by rw[<-f,aQC,o]
 generalize a:PyData.tuple [.int (st:Int),.int (l:Int)]=C at *
 generalize wdL W (st+l)=B at *
 generalize wdL W n=z at *
 simp[p,m,q,x,v,c,aNB,s1,i,t,g,s,j,r]
noncomputable def aCV:Sg->R Fw:=(aN (fY 9 (e2 dIx (rV 5) (eA (aW 3 dA (aA (vV 4) (aA (vV 8) (aA (vD (e2 dIx (rV 7) (eC (.int 2)))) aM)))))))
 (bN 8 (aW 3 dA (aA (vV 4) (aA (vV 8) (aA (vD (e2 dIx (rV 7) (eC (.int 1)))) aM))))))
noncomputable def aF8:Sg->R Fw:=(sFz 9 (aFY 13 4 3 (e1 asB (e2 dEq (e2 dIx (rV 7) (eC (.int 2))) (eC (.str "")))) eS [.d (.str "")] (aA (vV 1) (aA (vD (e2 dIx (rV 7) (eC (.int 0)))) (aA (vD (e2 dIx (rV 7) (eC (.int 1)))) aM))) (aA (vV 1) (aA (vD (e2 dIx (rV 7) (eC (.int 0)))) (aA (vD (e2 dIx (rV 7) (eC (.int 1)))) (aA (vD (e2 dIx (rV 7) (eC (.int 2)))) aM)))) (e1 asB (e2 dIs (rV 11) (eC .none))) fW (aA (vV 11) (aA (vV 9) aM))))
noncomputable def aF9:Sg->R Fw:=(sIf (e1 asB (e2 dNe (eA (aW 2 eN (aA (vV 1) (aA (vD (e2 bL (e2 bL (e2 dIx (rV 7) (eC (.int 0))) (e2 dMulS (e2 dIx (rV 7) (eC (.int 1))) (e2 (d2 qP) (rV 10) (eC (.int 30))))) (e2 dIx (rV 7) (eC (.int 2))))) aM)))) (e2 dIx (rV 9) (e2 (d2 qP) (rV 10) (eC (.int 30)))))) (bX (vD (eC (.bool false)))) sNx)
theorem aKQ:aF1=(aN (lV (stT [(stN 1),(stN 2)]) (eA (aW 2 gN (aA (vV 0) (aA (vD (eC (.int 0))) aM)))))
 (aN (lV (stT [(stN 3),(stN 4),(stN 5)]) (eV 2))
 (aN (bN 6 (vD (e1 dLen (e2 dIx (e2 dIx (rV 1) (eC (.int 0))) (eC (.int 1))))))
 (aN (dW 7 (fR [none,some 0,some 6] (dJ (eC (.int 3))) (stN 0) gS (eA (aW 4 dN (aA (vV 1) (aA (vD (e2 bL (eC (.int 12)) (e2 dMul (eC (.int 4)) (rV 0)))) (aA (vD (e2 dMod (eA (aW 2 bD (aA (vV 1) (aA (vD (e2 bL (eC (.int 9)) (rV 0))) aM)))) (eC (.int 5)))) (aA (vV 2) aM))))))))
 (aN (sIf (e1 asB (e2 dEq (e2 dMod (eA (aW 2 bD (aA (vV 0) (aA (vD (eC (.int 8))) aM)))) (eC (.int 2))) (eC (.int 1)))) (aBC 7 (eC (.int 2)) (eC (.str ""))) sNx)
 (aN (bN 8 (aW 3 dA (aA (vV 4) (aA (vD (eC (.int 0))) (aA (vD (e2 dIx (rV 7) (eC (.int 0)))) aM)))))
 (aN (dW 9 (eJ aM))
 (aN (iJ (dJ (e2 bL (e2 dMul (eC (.int 3)) (e1 dLen (rV 3))) (eC (.int 2)))) (stN 10) aCV)
 (aN (sFz 9 (bN 11 (aW 2 d9 (aA (vV 9) (aA (vD (e1 dLen (rV 3))) aM)))))
 (aN (iJ (dJ (eC (.int 2))) (stN 12) aF8)
 (aN (iJ (e1 cJ (eL (eJ (aA (eC (.int 0)) (aA (eC (.int 1)) (aA (eC (.int 2)) (aA (e2 dIx (rV 11) (eC (.int 0))) (aA (e2 dSub (e2 bL (e2 dIx (rV 11) (eC (.int 0))) (e2 dIx (rV 11) (eC (.int 1)))) (eC (.int 1))) (aA (e2 bL (e2 dIx (rV 11) (eC (.int 0))) (e2 dIx (rV 11) (eC (.int 1)))) aM))))))))) (stN 10) aF9)
 (bX (vD (eC (.bool true))))))))))))))):=id rfl
section
variable{rs:List Rw}{sg N:Nat}{ns:List Int}{a g b:List Nat}
noncomputable def pcL(a g b:List Nat):List PyData:=[stD a,stD g,stD b]
noncomputable def lwρ(ns:List Int)(rs:List Rw)(sg N:Nat)(a g b:List Nat)(w:PyData)(x8:Option A)(x9:A)(x10 x11 x12 x13:Option A):Sg:=[some (.d (eK ns)),some (.d (bH rs)),some (.d w),some (.d (.list ((zsW rs sg N).map stD))),some (.d (.tuple ((a9 rs sg N).map g9))),some (.d (.tuple ((bV rs sg N).map .str))),some (.d (.int (sg:Int))),some (.l (pcL a g b)),x8,some x9,x10,x11,x12,x13]
theorem aN8(W:Wy rs sg N)(Sa:bC sg a)(Sg:bC sg g)(Sb:bC sg b){w:PyData}(n:Nat)(B:n<=1000):∃ x8 x10,jN (stN 10) aCV ((List.range n).map fun i:Nat=>.int (i:Int)) (lwρ ns rs sg N a g b w (some (.d (.int (runN (a9 rs sg N) 0 a:Int)))) (.l []) none none none none)=.ok (.nx (lwρ ns rs sg N a g b w x8 (.l (wdL (cw (a9 rs sg N) (bV rs sg N) a g b) n)) x10 none none none)):=by
 have Rr:=W.rdw
 have n1:=Rr.r.n1
 have j:runN (a9 rs sg N) 0 a < (a9 rs sg N).length:=jC Rr.r a Sa.2 n1
 have c:∀ k,itR (a9 rs sg N) (runN (a9 rs sg N) 0 a) g k < (a9 rs sg N).length:=pT Rr.r j Sg.2
 obtain ⟨v,o,x8,x10,rfl,_⟩:=f6 (fs:=stN 10) (fb:=aCV) (d:=fun i:Nat=>PyData.int (i:Int)) (xs:=List.range n) (ρ:=lwρ ns rs sg N a g b w (some (.d (.int (runN (a9 rs sg N) 0 a:Int)))) (.l []) none none none none)
  (fun i ρ=>∃ x8 x10,ρ=lwρ ns rs sg N a g b w x8 (.l (wdL (cw (a9 rs sg N) (bV rs sg N) a g b) i)) x10 none none none/\x8=some (.d (.int (itR (a9 rs sg N) (runN (a9 rs sg N) 0 a) g i:Int)))) ⟨_,none,rfl,rfl⟩ fun i x ρ m h=>by
  obtain ⟨x8,x10,e,q⟩:=h
  subst q
  have hi:i < n:=by have:=(AI.mp m).1;simpa using this
  have s:=aCT Rr.r (c i) Sb.2 Sb.1
  have y:=aCT Rr.r (c i) Sg.2 Sg.1
  have p:dIx (.list (pcL a g b)) (.int 1)=.ok (stD g):=rfl
  have p2:dIx (.list (pcL a g b)) (.int 2)=.ok (stD b):=rfl
  have f:=jC Rr.r b Sb.2 (c i)
  have m:=(Rr.w f).2
  have u:wdL (cw (a9 rs sg N) (bV rs sg N) a g b) i++[.str (cw (a9 rs sg N) (bV rs sg N) a g b i)]=wdL (cw (a9 rs sg N) (bV rs sg N) a g b) (i+1):=by unfold wdL;rw[List.range_succ,BK];rfl
  have t:(wdL (cw (a9 rs sg N) (bV rs sg N) a g b) i).length < 16777216:=by rw[nU];omega
  refine ⟨_,_,by rw[e];rfl,.inl ?_,_,some (.d (.int (x:Int))),rfl,rfl⟩
  rw[<-u]
  show aCV (lwρ ns rs sg N a g b w _ _ (some (.d (.int (x:Int)))) none none none)=.ok (.nx (lwρ ns rs sg N a g b w (some (.d (.int (runN (a9 rs sg N) (itR (a9 rs sg N) (runN (a9 rs sg N) 0 a) g i) g:Int)))) (.l (wdL (cw (a9 rs sg N) (bV rs sg N) a g b) i++[.str ((bV rs sg N).getD (runN (a9 rs sg N) (itR (a9 rs sg N) (runN (a9 rs sg N) 0 a) g i) b) "")])) (some (.d (.int (x:Int)))) none none none))
  unfold lwρ
  generalize (bV rs sg N).getD (runN (a9 rs sg N) (itR (a9 rs sg N) (runN (a9 rs sg N) 0 a) g i) b) ""=C at *
  generalize wdL (cw (a9 rs sg N) (bV rs sg N) a g b) i=z at *
  generalize runN (a9 rs sg N) (itR (a9 rs sg N) (runN (a9 rs sg N) 0 a) g i) b=r2 at *
  generalize runN (a9 rs sg N) (itR (a9 rs sg N) (runN (a9 rs sg N) 0 a) g i) g=r1 at *
  generalize itR (a9 rs sg N) (runN (a9 rs sg N) 0 a) g i=D at *
  generalize (a9 rs sg N).map g9=E at *
  generalize (bV rs sg N).map PyData.str=A at *
  generalize pcL a g b=PC at *
  simp[aCV,p,p2,s,y,m,t]
 rw[BC] at o
 exact ⟨x8,x10,o⟩
theorem aLM{z:List Nat}(b:sg<=3)(S:bC sg z):Cp (stD z):=⟨rfl,Sh.shaped (n:=1) (vQ _ (by
 unfold PyData.strOk
 rw[List.all_toArray,BW]
 intro c a
 have h:=S.2 c a
 unfold cH at h
 exact A3 (by simp at h;omega))) (by decide)⟩
theorem aSC(W:Wy rs sg N){st l n:Nat}(j:eS [.d (bH rs),.d (stD a),.d (stD g),.d (stD b)]=.ok (.int (st:Int),.int (l:Int),wdL (cw (a9 rs sg N) (bV rs sg N) a g b) (st+l)))(Sb:bC sg b)(h:st+l<=n)(H:n<=1000)(hw:∀ k,jG (cw (a9 rs sg N) (bV rs sg N) a g b k)){w:PyData}{f e x12 x13:Option A}{p:A}(C:p=.l (wdL (cw (a9 rs sg N) (bV rs sg N) a g b) n)\/p=.d (.list (wdL (cw (a9 rs sg N) (bV rs sg N) a g b) n))) :
  aF8 (lwρ ns rs sg N a g b w f p e (some (.d (.tuple [.int (st:Int),.int (l:Int)]))) x12 x13)=.ok (.nx (lwρ ns rs sg N a g b w f (.d (.list (wdL (cw (a9 rs sg N) (bV rs sg N) a g b) n))) e (some (.d (.tuple [.int (st:Int),.int (l:Int)]))) x12 none)):=by
 have q:=aN7 hw h H
 have v:dIx (.list (pcL a g b)) (.int 0)=.ok (stD a):=rfl
 have s:dIx (.list (pcL a g b)) (.int 1)=.ok (stD g):=rfl
 have p2:dIx (.list (pcL a g b)) (.int 2)=.ok (stD b):=rfl
 have t:=W.m.sg3
 have u:dEq (stD b) (.str "")=.ok (.bool (decide (stD b=.str ""))):=aCG (aLM t Sb) (aLM (z:=[]) t ⟨by simp,fun c F=>by simp at F⟩)
 have i:(wdL (cw (a9 rs sg N) (bV rs sg N) a g b) (st+l)).length < 16777216:=by rw[nU];omega
 have y:fz 9 (lwρ ns rs sg N a g b w f p e (some (.d (.tuple [.int (st:Int),.int (l:Int)]))) x12 x13)=lwρ ns rs sg N a g b w f (.d (.list (wdL (cw (a9 rs sg N) (bV rs sg N) a g b) n))) e (some (.d (.tuple [.int (st:Int),.int (l:Int)]))) x12 x13:=by
  rcases C with rfl|rfl<;>rfl
 have x:lwρ ns rs sg N a g b w f (.d (.list (wdL (cw (a9 rs sg N) (bV rs sg N) a g b) n))) e (some (.d (.tuple [.int (st:Int),.int (l:Int)]))) x12 none=(lwρ ns rs sg N a g b w f (.d (.list (wdL (cw (a9 rs sg N) (bV rs sg N) a g b) n))) e (some (.d (.tuple [.int (st:Int),.int (l:Int)]))) x12 x13).set 13 none:=rfl
 unfold aF8
 rw[aP8,y]
 have o:13 < (lwρ ns rs sg N a g b w f (.d (.list (wdL (cw (a9 rs sg N) (bV rs sg N) a g b) n))) e (some (.d (.tuple [.int (st:Int),.int (l:Int)]))) x12 x13).length:=by show 13 < 14;decide
 rw[x]
 unfold aFY
 rw[<-x]
 unfold lwρ at o ⊢
 generalize wdL (cw (a9 rs sg N) (bV rs sg N) a g b) (st+l)=L at *
 generalize wdL (cw (a9 rs sg N) (bV rs sg N) a g b) n=K at *
 generalize E:pcL a g b=PC at *
 generalize J:stD a=M at *
 generalize I:stD g=G at *
 generalize D:stD b=B at *
 by_cases r:B=.str ""
 ·subst r
  simp[v,s,p2,u,j,q,i,hU]
 ·simp[v,s,p2,u,r,j,q,i,hU]
theorem aQ9(W:Wy rs sg N)(Sa:bC sg a)(Sg:bC sg g)(Sb:bC sg b)(F:a.length<=4)(l:g.length<=4)(q:b.length<=4){n k:Nat}(K:k < n)(hw:∀ k,jG (cw (a9 rs sg N) (bV rs sg N) a g b k)){w:PyData}{o f x12 x13:Option A} :
  aF9 (lwρ ns rs sg N a g b w o (.d (.list (wdL (cw (a9 rs sg N) (bV rs sg N) a g b) n))) (some (.d (.int (k:Int)))) f x12 x13)=.ok (.nx (lwρ ns rs sg N a g b w o (.d (.list (wdL (cw (a9 rs sg N) (bV rs sg N) a g b) n))) (some (.d (.int (k:Int)))) f x12 x13)):=by
 have D:dIx (.list (pcL a g b)) (.int 0)=.ok (stD a):=rfl
 have s:dIx (.list (pcL a g b)) (.int 1)=.ok (stD g):=rfl
 have p2:dIx (.list (pcL a g b)) (.int 2)=.ok (stD b):=rfl
 obtain ⟨j,u,c,H⟩:∃ j:Nat,min (k:Int) 30=(j:Int)/\j<=30/\j<=k:=⟨(min (k:Int) 30).toNat,by omega,by omega,by omega⟩
 have E:Fl.d2 qP (.int (k:Int)) (.int 30)=.ok (.int (j:Int)):=by
  have:qP (k:Int) 30=(j:Int):=by
   rw[<-u]
   unfold qP
   split<;>omega
  rw[<-this];rfl
 obtain ⟨S,e⟩:=cw_word W Sa Sg Sb F l q c
 have C:=aN5 (z:=g) (by omega) c
 have P:=vH g j
 have p:=EM c l
 have v:=aEQ (x:=a) (y:=(List.replicate j g).flatten) (by omega)
 have r:=aEQ (x:=a++(List.replicate j g).flatten) (y:=b) (by rw[A0];omega)
 have h:=aN6 W.m S
 rw[<-e] at h
 have B:=sP (W:=cw (a9 rs sg N) (bV rs sg N) a g b) (m:=n) (k:=j) (by omega)
 have i:=aQ8 (hw j)
 unfold lwρ
 generalize cw (a9 rs sg N) (bV rs sg N) a g b j=J at *
 generalize wdL (cw (a9 rs sg N) (bV rs sg N) a g b) n=G at *
 generalize stD (a++(List.replicate j g).flatten++b)=O at *
 generalize stD (a++(List.replicate j g).flatten)=L at *
 generalize stD (List.replicate j g).flatten=s1 at *
 generalize pcL a g b=PC at *
 generalize stD a=M at *
 generalize stD g=t at *
 generalize stD b=I at *
 simp[aF9,D,s,p2,E,C,v,r,h,B,i]
end
theorem aN9(z:Str):PyData.str z=stD z.cps.toList:=by unfold stD;simp
theorem aKR:∀ ns:List Int,ns.length<=63->aF2 [.d (.list (ns.map .int))]=.ok (.d (.bool true)):=by
 intro ns bd
 rw[show PyData.list (ns.map .int)=eK ns from rfl]
 obtain ⟨rs,sg,N,P,S⟩:=aNZ ns 0
 have W:=S.wy
 have E:=S.e.up S.few (show (40:Nat)<=200 by decide)
 have ho:=aTE W E
 have Rr:=W.rdw
 have al:=W.rows_len
 have hN:=S.n
 have bc:=W.pos
 have M:=S.m
 have az:jI rs sg N=.tuple [.list ((zsW rs sg N).map stD),.tuple ((a9 rs sg N).map g9),.tuple ((bV rs sg N).map .str)]:=by
  have h1:=aII W
  unfold aCJ rdW rdD at h1
  injection h1 with h1
  injection h1 with h2 h1
  unfold jI
  rw[h2]
  unfold bV
  rw[CC]
  rfl
 obtain ⟨r,t,af,hr⟩:=M.cons
 have be:(dIx (bH rs) (.int 0)).bind (fun x=>(dIx x (.int 1)).bind dLen)=.ok (.int (sg:Int)):=by
  have i0:dIx (bH rs) (.int 0)=.ok (cV r):=by rw[af];exact hV (dX (j:=0) rfl)
  have i1:dIx (cV r) (.int 1)=.ok (.tuple (r.c.map d4)):=hV (dX (j:=1) rfl)
  rw[i0,R.bind_ok,i1,R.bind_ok,wJ,AB,hr]
 have cell:∀ k:Int,0<=k->∃ v,bD [.d (eK ns),.d (.int k)]=.ok (.d (.int v)):=fun k _=>pO ns k
 have F:∀ k:Nat,∃ z:List Nat,(bC sg z/\z.length<=4)/\eA (aW 4 dN (aA (vV 1) (aA (vD (e2 bL (eC (.int 12)) (e2 dMul (eC (.int 4)) (rV 0)))) (aA (vD (e2 dMod (eA (aW 2 bD (aA (vV 1) (aA (vD (e2 bL (eC (.int 9)) (rV 0))) aM)))) (eC (.int 5)))) (aA (vV 2) aM))))) [some (.d (.int (k:Int))),some (.d (eK ns)),some (.d (.int (sg:Int)))]=.ok (stD z):=fun k=>by
  obtain ⟨v,hv⟩:=cell (9+(k:Int)) (by omega)
  obtain ⟨m,hm,m4⟩:∃ m:Nat,v % 5=(m:Int)/\m<=4:=⟨(v % 5).toNat,by omega,by omega⟩
  obtain ⟨z,e4,Sz,lz⟩:=aNA (ns:=ns) (at':=12+4 * (k:Int)) (m:=m) (sg:=sg) (by omega) (by omega) M.sg1 M.sg3
  have k5:dMod (.int v) (.int 5)=.ok (.int (m:Int)):=by rw[dB (by decide),hm]
  have ac:dMul (.int 4) (.int (k:Int))=.ok (.int (4 * (k:Int))):=pK (by decide) (by decide)
  refine ⟨z.cps.toList,⟨Sz,by omega⟩,?_⟩
  rw[<-aN9]
  simp[hv,k5,ac,e4]
 have Q:=gF (n:=3) (by decide)
 have T:=fF (fs:=stN 0) (fe:=eA (aW 4 dN (aA (vV 1) (aA (vD (e2 bL (eC (.int 12)) (e2 dMul (eC (.int 4)) (rV 0)))) (aA (vD (e2 dMod (eA (aW 2 bD (aA (vV 1) (aA (vD (e2 bL (eC (.int 9)) (rV 0))) aM)))) (eC (.int 5)))) (aA (vV 2) aM)))))) (ρ0:=[none,some (.d (eK ns)),some (.d (.int (sg:Int)))]) (d:=fun k:Nat=>PyData.int (k:Int)) (g:=fun k:Nat=>stD (F k).choose) (xs:=List.range 3) fun k _=>⟨_,rfl,(F k).choose_spec.2⟩
 have ax:(List.range 3).map (fun k:Nat=>stD (F k).choose)=pcL (F 0).choose (F 1).choose (F 2).choose:=rfl
 rw[ax] at T
 obtain ⟨⟨Sa,la⟩,_⟩:=(F 0).choose_spec
 obtain ⟨⟨Sg,lg⟩,_⟩:=(F 1).choose_spec
 obtain ⟨⟨Sz2,aq⟩,_⟩:=(F 2).choose_spec
 generalize (F 0).choose=a at *
 generalize (F 1).choose=g at *
 generalize (F 2).choose=z2 at *
 obtain ⟨v8,Y⟩:=cell 8 (by decide)
 obtain ⟨b,Sb,lb,Z⟩:∃ b:List Nat,bC sg b/\b.length<=4/\∀ (X a1 a2 a3 a4 a5 a6:Option A),X=some (.d (eK ns))->sIf (e1 asB (e2 dEq (e2 dMod (eA (aW 2 bD (aA (vV 0) (aA (vD (eC (.int 8))) aM)))) (eC (.int 2))) (eC (.int 1)))) (aBC 7 (eC (.int 2)) (eC (.str ""))) sNx [X,a1,a2,a3,a4,a5,a6,some (.l (pcL a g z2)),none,none,none,none,none,none]=.ok (.nx [X,a1,a2,a3,a4,a5,a6,some (.l (pcL a g b)),none,none,none,none,none,none]):=by
  have k2:dMod (.int v8) (.int 2)=.ok (.int (v8 % 2)):=dB (by decide)
  by_cases h:v8 % 2=1
  ·refine ⟨[],⟨by simp,fun c hc=>by simp at hc⟩,by simp,fun X a1 a2 a3 a4 a5 a6 e0=>?_⟩
   subst e0
   simp[Y,k2,dS,h,pcL,aBC,ixN]
   rfl
  ·refine ⟨z2,Sz2,aq,fun X a1 a2 a3 a4 a5 a6 e0=>?_⟩
   subst e0
   simp[Y,k2,dS,h]
 obtain ⟨st,l,C,I,ao⟩:=aSB M ho Rr Sa Sg Sb
 rw[al] at I
 have ah:runN (a9 rs sg N) 0 a < (a9 rs sg N).length:=jC Rr.r a Sa.2 Rr.r.n1
 have U:∀ k,runN (a9 rs sg N) (itR (a9 rs sg N) (runN (a9 rs sg N) 0 a) g k) b < (a9 rs sg N).length:=fun k=>jC Rr.r b Sb.2 (pT Rr.r ah Sg.2 k)
 have hw:∀ k,jG (cw (a9 rs sg N) (bV rs sg N) a g b k):=fun k=>(Rr.w (U k)).1
 have ak:=aQ7 hw C I (by omega)
 have H:=aCT Rr.r (q:=0) Rr.r.n1 Sa.2 Sa.1
 obtain ⟨L,o,K⟩:=aN8 (ns:=ns) W Sa Sg Sb (w:=jI rs sg N) (3 * N+2) (by omega)
 obtain ⟨ρ2,G,x9,x12,x13,ad,ai⟩:=f6 (fs:=stN 12) (fb:=aF8) (d:=fun i:Nat=>PyData.int (i:Int)) (xs:=List.range 2) (ρ:=lwρ ns rs sg N a g b (jI rs sg N) L (.d (.list (wdL (cw (a9 rs sg N) (bV rs sg N) a g b) (3 * N+2)))) o (some (.d (.tuple [.int (st:Int),.int (l:Int)]))) none none)
  (fun i ρ=>∃ x9 x12 x13,ρ=lwρ ns rs sg N a g b (jI rs sg N) L x9 o (some (.d (.tuple [.int (st:Int),.int (l:Int)]))) x12 x13/\x9=.d (.list (wdL (cw (a9 rs sg N) (bV rs sg N) a g b) (3 * N+2)))) ⟨_,none,none,rfl,rfl⟩ fun i x ρ hx J=>by
  obtain ⟨x9,x12,x13,e,h9⟩:=J
  subst e
  exact ⟨_,_,rfl,.inl (aSC (ns:=ns) (x12:=some (.d (.int (x:Int)))) W ao Sb (by omega) (by omega) hw (.inr h9)),_,_,_,rfl,rfl⟩
 subst ai
 obtain ⟨ρ3,D,O,ag⟩:=f6 (fs:=stN 10) (fb:=aF9) (d:=fun i:Nat=>PyData.int (i:Int)) (xs:=[0,1,2,st,st+l - 1,st+l]) (ρ:=ρ2)
  (fun i ρ=>∃ O,ρ=lwρ ns rs sg N a g b (jI rs sg N) L (.d (.list (wdL (cw (a9 rs sg N) (bV rs sg N) a g b) (3 * N+2)))) O (some (.d (.tuple [.int (st:Int),.int (l:Int)]))) x12 x13) ⟨o,ad⟩ fun i x ρ hx J=>by
  obtain ⟨O,e⟩:=J
  subst e
  have hm:=AL hx
  simp only[AZ,List.not_mem_nil,or_false] at hm
  have:=C.l1
  exact ⟨_,_,rfl,.inl (aQ9 (ns:=ns) (x12:=x12) (x13:=x13) W Sa Sg Sb la lg lb (by omega) hw),_,rfl⟩
 have V:dLen (.list ((zsW rs sg N).map stD))=.ok (.int (N:Int)):=by rw[gM,AB,W.zlen]
 have m3:dMul (.int 3) (.int (N:Int))=.ok (.int (3 * (N:Int))):=pK (by decide) (by decide)
 have ae:=gF (n:=3 * N+2) (by omega)
 rw[show ((3 * N+2:Nat):Int)=3 * (N:Int)+2 by omega] at ae
 have am:=gF (n:=2) (by decide)
 have p0:dIx (.list (pcL a g b)) (.int 0)=.ok (stD a):=rfl
 have q0:dIx (.tuple [.int (st:Int),.int (l:Int)]) (.int 0)=.ok (.int (st:Int)):=rfl
 have q1:dIx (.tuple [.int (st:Int),.int (l:Int)]) (.int 1)=.ok (.int (l:Int)):=rfl
 have ap:([0,1,2,st,st+l - 1,st+l]:List Nat).map (fun i:Nat=>PyData.int (i:Int))=[.int 0,.int 1,.int 2,.int (st:Int),.int ((st:Int)+(l:Int) - 1),.int ((st:Int)+(l:Int))]:=by
  have:=C.l1
  simp only[AT,BD]
  rw[show ((st+l - 1:Nat):Int)=(st:Int)+(l:Int) - 1 by omega,show ((st+l:Nat):Int)=(st:Int)+(l:Int) by omega]
  rfl
 rw[ap] at D
 have aw:cJ (.list [.int 0,.int 1,.int 2,.int (st:Int),.int ((st:Int)+(l:Int) - 1),.int ((st:Int)+(l:Int))])=.ok [.int 0,.int 1,.int 2,.int (st:Int),.int ((st:Int)+(l:Int) - 1),.int ((st:Int)+(l:Int))]:=rfl
 rw[ad] at G D
 rw[ag] at D
 have i0:dIx (bH rs) (.int 0)=.ok (cV r):=by rw[af];exact hV (dX (j:=0) rfl)
 have i1:dIx (cV r) (.int 1)=.ok (.tuple (r.c.map d4)):=hV (dX (j:=1) rfl)
 have i2:dLen (.tuple (r.c.map d4))=.ok (.int (sg:Int)):=by rw[wJ,AB,hr]
 simp only[Int.natCast_zero] at P H
 rw[az] at P K G D
 unfold aF2
 rw[aKQ]
 unfold lwρ at K G D
 generalize wdL (cw (a9 rs sg N) (bV rs sg N) a g b) (3 * N+2)=WL at *
 generalize (zsW rs sg N).map stD=B at *
 generalize (a9 rs sg N).map g9=y at *
 generalize (bV rs sg N).map PyData.str=u at *
 generalize runN (a9 rs sg N) 0 a=aa at *
 generalize ay:PyData.tuple [.list B,.tuple y,.tuple u]=s at *
 generalize ba:PyData.tuple [.int (st:Int),.int (l:Int)]=DU at *
 generalize eK ns=f at *
 generalize bf:bH rs=p at *
 have s1:lV (stT [(stN 1),(stN 2)]) (eA (aW 2 gN (aA (vV 0) (aA (vD (eC (.int 0))) aM)))) [some (.d f),none,none,none,none,none,none,none,none,none,none,none,none,none]=.ok (.nx [some (.d f),some (.d p),some (.d s),none,none,none,none,none,none,none,none,none,none,none]):=by simp[P]
 have s2:lV (stT [(stN 3),(stN 4),(stN 5)]) (eV 2) [some (.d f),some (.d p),some (.d s),none,none,none,none,none,none,none,none,none,none,none]=.ok (.nx [some (.d f),some (.d p),some (.d s),some (.d (.list B)),some (.d (.tuple y)),some (.d (.tuple u)),none,none,none,none,none,none,none,none]):=by simp[<-ay]
 have s3:bN 6 (vD (e1 dLen (e2 dIx (e2 dIx (rV 1) (eC (.int 0))) (eC (.int 1))))) [some (.d f),some (.d p),some (.d s),some (.d (.list B)),some (.d (.tuple y)),some (.d (.tuple u)),none,none,none,none,none,none,none,none]=.ok (.nx [some (.d f),some (.d p),some (.d s),some (.d (.list B)),some (.d (.tuple y)),some (.d (.tuple u)),some (.d (.int (sg:Int))),none,none,none,none,none,none,none]):=by simp[i0,i1,i2]
 have s4:dW 7 (fR [none,some 0,some 6] (dJ (eC (.int 3))) (stN 0) gS (eA (aW 4 dN (aA (vV 1) (aA (vD (e2 bL (eC (.int 12)) (e2 dMul (eC (.int 4)) (rV 0)))) (aA (vD (e2 dMod (eA (aW 2 bD (aA (vV 1) (aA (vD (e2 bL (eC (.int 9)) (rV 0))) aM)))) (eC (.int 5)))) (aA (vV 2) aM))))))) [some (.d f),some (.d p),some (.d s),some (.d (.list B)),some (.d (.tuple y)),some (.d (.tuple u)),some (.d (.int (sg:Int))),none,none,none,none,none,none,none]=.ok (.nx [some (.d f),some (.d p),some (.d s),some (.d (.list B)),some (.d (.tuple y)),some (.d (.tuple u)),some (.d (.int (sg:Int))),some (.l (pcL a g z2)),none,none,none,none,none,none]):=by
  have Q:gK 0 3=.ok ((List.range 3).map fun i:Nat=>PyData.int (i:Int)):=Q
  rw[iX,uZ,lG,fU,R.bind_ok]
  show ((gK 0 3).bind _).bind _=_
  rw[Q,R.bind_ok]
  simp only[gL,AT,BD,AQ,AK,Option.bind_none,DI,Option.join_some,T,R.bind_ok,AY,A2]
  try rfl
 have s5:=Z (some (.d f)) (some (.d p)) (some (.d s)) (some (.d (.list B))) (some (.d (.tuple y))) (some (.d (.tuple u))) (some (.d (.int (sg:Int)))) rfl
 generalize pcL a g b=PC at *
 have s6:bN 8 (aW 3 dA (aA (vV 4) (aA (vD (eC (.int 0))) (aA (vD (e2 dIx (rV 7) (eC (.int 0)))) aM)))) [some (.d f),some (.d p),some (.d s),some (.d (.list B)),some (.d (.tuple y)),some (.d (.tuple u)),some (.d (.int (sg:Int))),some (.l PC),none,none,none,none,none,none]=.ok (.nx [some (.d f),some (.d p),some (.d s),some (.d (.list B)),some (.d (.tuple y)),some (.d (.tuple u)),some (.d (.int (sg:Int))),some (.l PC),some (.d (.int (aa:Int))),none,none,none,none,none]):=by simp[p0,H]
 have s8:dJ (e2 bL (e2 dMul (eC (.int 3)) (e1 dLen (rV 3))) (eC (.int 2))) [some (.d f),some (.d p),some (.d s),some (.d (.list B)),some (.d (.tuple y)),some (.d (.tuple u)),some (.d (.int (sg:Int))),some (.l PC),some (.d (.int (aa:Int))),some (.l []),none,none,none,none]=.ok ((List.range (3 * N+2)).map fun i:Nat=>PyData.int (i:Int)):=by
  simp only[lG,fV,gR,fU,eQ,AQ,AK,R.bind_ok,V,m3,lH,ae]
 have s9:sFz 9 (bN 11 (aW 2 d9 (aA (vV 9) (aA (vD (e1 dLen (rV 3))) aM)))) [some (.d f),some (.d p),some (.d s),some (.d (.list B)),some (.d (.tuple y)),some (.d (.tuple u)),some (.d (.int (sg:Int))),some (.l PC),L,some (.l WL),o,none,none,none]=.ok (.nx [some (.d f),some (.d p),some (.d s),some (.d (.list B)),some (.d (.tuple y)),some (.d (.tuple u)),some (.d (.int (sg:Int))),some (.l PC),L,some (.d (.list WL)),o,some (.d DU),none,none]):=by simp[fz,V,ak]
 have au:dJ (eC (.int 2)) [some (.d f),some (.d p),some (.d s),some (.d (.list B)),some (.d (.tuple y)),some (.d (.tuple u)),some (.d (.int (sg:Int))),some (.l PC),L,some (.d (.list WL)),o,some (.d DU),none,none]=.ok ((List.range 2).map fun i:Nat=>PyData.int (i:Int)):=am
 have aj:(e1 cJ (eL (eJ (aA (eC (.int 0)) (aA (eC (.int 1)) (aA (eC (.int 2)) (aA (e2 dIx (rV 11) (eC (.int 0))) (aA (e2 dSub (e2 bL (e2 dIx (rV 11) (eC (.int 0))) (e2 dIx (rV 11) (eC (.int 1)))) (eC (.int 1))) (aA (e2 bL (e2 dIx (rV 11) (eC (.int 0))) (e2 dIx (rV 11) (eC (.int 1)))) aM))))))))) [some (.d f),some (.d p),some (.d s),some (.d (.list B)),some (.d (.tuple y)),some (.d (.tuple u)),some (.d (.int (sg:Int))),some (.l PC),L,some (.d (.list WL)),o,some (.d DU),x12,x13]=.ok [.int 0,.int 1,.int 2,.int (st:Int),.int ((st:Int)+(l:Int) - 1),.int ((st:Int)+(l:Int))]:=by
  simp[q0,q1,aw]
 rw[f9]
 show (aN _ _ [some (.d f),none,none,none,none,none,none,none,none,none,none,none,none,none]).bind _=_
 rw[a8,s1,R.bind_ok]
 simp only
 rw[a8,s2,R.bind_ok]
 simp only
 rw[a8,s3,R.bind_ok]
 simp only
 rw[a8,s4,R.bind_ok]
 simp only
 rw[a8,s5,R.bind_ok]
 simp only
 rw[a8,s6,R.bind_ok]
 simp only
 rw[a8,iX,lW,gH,R.bind_ok]
 simp only[A8,CN,CB,R.bind_ok,AY,A2]
 rw[a8,jB,s8,R.bind_ok,K,R.bind_ok]
 simp only
 rw[a8,s9,R.bind_ok]
 simp only
 rw[a8,jB,au,R.bind_ok,G,R.bind_ok]
 simp only
 rw[a8,jB,aj,R.bind_ok,D,R.bind_ok]
 simp
end Mc
namespace Mc
open PySem L2 PyProof.Rows
section
variable{K:Frag}{h:Heap}{mg:Str->Option Value}
theorem aIM{x:Str}{st:Stmt}{ps:List Str}{f Td:Addr}{o:Value}{od g:Option Addr}{i sl:Array (Option Value)}{kV doc pm e ct:Value}{z:Str}{t n:Nat}(X:K.In h)(G:h.Ns mainGlobals mg)
  (a:PySem.W.nsIn K mainGlobals x=some (some (.ref f))) (l:K.lookup f=some ⟨o,od,.func (PySem.W.fnOf x x (dY st) (cL st) (aL st) (.ref Td) kV doc pm g e ct),i⟩)
  (d:K.lookup Td=some ⟨.type "tuple",none,.seq #[.str z t] n,sl⟩)
  (c:PySem.W.codeIn K e x=true) (k:PySem.W.keepIn K (.ref f)=true)
  (b:∀ (Td:Addr) (kV doc pm:Value) (g:Option Addr) (e ct u:Value) (us:List Value),us.length=ps.length->∃ q,bindArgs (PySem.W.fnOf x x (dY st) (cL st) (aL st) (.ref Td) kV doc pm g e ct) ⟨us,[]⟩=seqItems? (.ref Td) >>= q/\q (some #[u])=pure (ps.zip us))
  (b2:∀ (Td:Addr) (kV doc pm:Value) (g:Option Addr) (e ct u:Value) (us:List Value),us.length+1=ps.length->∃ q,bindArgs (PySem.W.fnOf x x (dY st) (cL st) (aL st) (.ref Td) kV doc pm g e ct) ⟨us,[]⟩=seqItems? (.ref Td) >>= q/\q (some #[u])=pure (ps.zip (us++[u]))):DefAtD K mg x st ps [.str z]:=by
 refine ⟨f,o,od,.ref Td,kV,doc,pm,g,e,ct,i,[.str z t],l,c,k,fun s us m j=>?_,fun s us m j=>?_,.cons ⟨_,rfl⟩ .nil,DQ X G a⟩
 ·rw[B9] at j ⊢
  obtain ⟨q,e1,e2⟩:=b Td kV doc pm g e ct (.str z t) us j
  exact PySem.W.binds_K m rfl d rfl e1 e2
 obtain ⟨q,e1,e2⟩:=b2 Td kV doc pm g e ct (.str z t) us (by simpa using j)
 exact PySem.W.binds_K m rfl d rfl e1 e2
end
end Mc
namespace Mc
open PySem L2 PyProof.Rows Fl
section
variable{P:Program}{w:World}{K:Frag}{mg:Str->Option Value}{base:Heap}{TH:Hp}
theorem w6:FnScope ["self","at"] ["self","at"] (aL (lQ (top 2) 0)):=by constructor<;>first|rfl|decide +kernel
theorem w8{f W C:Addr}{fd:FuncData}(F:Fun K "__init__" "NoStrip.__init__" (lQ (top 2) 0) f fd)(c:SX.ExcC K W C)(n1:PySem.W.findIn K (.ref C) "at"=some none) :
  FnOk P w K mg base CX0 1 f fd ["self","at"] (spI C ["at"]):=by
 refine F.ok w6 (fun vs H Q E h=>?_) (fun i A outer s H vs Q E k h=>?_)
 ·obtain ⟨e,xs,rfl,a,_⟩:=h
  rw[AW,a];rfl
 ·obtain ⟨e,xs,rfl,a,g,q⟩:=h
  obtain ⟨x,rfl⟩:∃ x,xs=[x]:=Mc.bn1 (P:=fun xs=>∃ x,xs=[x]) (fun x=>⟨x,rfl⟩) xs a
  refine ⟨_,L2.aP (aLZ (pv 0) (pv 1) rfl),?_⟩
  refine ⟨_,rfl,_,rfl,e,W,C,rfl,c,n1,.inl ⟨g,fun d j b=>?_⟩⟩
  exact q d j b
def lO (K : Frag) (mg : Str -> Option Value) : Prop := ∃ W C, SX.ExcC K W C /\ mg "NoStrip" = some (.ref C) /\ PySem.W.findIn K (.ref C) "at" = some none /\
      ∃ fI fdI, Fun K "__init__" "NoStrip.__init__" (lQ (top 2) 0) fI fdI /\ gQ K fdI ["self", "at"] [] /\ PySem.W.findIn K (.ref C) "__init__" = some (some (.ref fI)) /\ PySem.W.typeIn K (.ref fI) = some (.type "function")
theorem yM(h:lO K mg):∃ W C,ErrAt P w K mg base "NoStrip" ["at"] W C:=by
 obtain ⟨W,C,b,m,a,fI,fdI,e,g,d,tI⟩:=h
 have I:=w8 (P:=P) (w:=w) (mg:=mg) (base:=base) e b a
 exact ⟨W,C,b,m,fun f c=>by rw[AV.mp c];exact a,fI,fdI,I,d,tI,g⟩
theorem aOA(T:Txt w K mg)(Er_NoStrip:lO K mg)(Erp_TooMany:∃ W C,ErrP K mg "TooMany" W C)(D6:DefAt K mg "signs_of" (top 6) ["machine"])(D7:DefAt K mg "cells_of" (top 7) ["machine","number"])(D8:DefAt K mg "checked_by" (top 8) ["signs","strip"])(D9:DefAt K mg "checked" (top 9) ["machine","strip"])(V:DefAt K mg "reached" (top 11) ["begin","after","done"])(ah:DefAt K mg "is_word" (top 14) ["part"])(aw:DefAt K mg "without_signs" (top 15) ["machine"])(Y:DefAt K mg "gone_on" (top 16) ["backs","cells","room"])(am:DefAt K mg "longer" (top 17) ["begun","cells"])(ac:DefAt K mg "word_behind" (top 18) ["machine","begun"])(af:DefAtT K mg base TH qsT "one_way" (top 19) ["machine"])(R:DefAt K mg "room_from" (top 20) ["reader","room","strip"])(M:DefAt K mg "rooms_passed" (top 22) ["reader","room","piece"])(ai:DefAt K mg "least_round" (top 23) ["words"])(N:DefAtD K mg "comes_round" (top 24) ["machine","ahead","again","behind"] [.str ""])(S:DefAt K mg "_law_cell" (top 26) ["_law_script","_law_k"])(ag:DefAt K mg "_law_end" (top 27) ["_law_number","_law_rooms"])(aa:DefAt K mg "_law_digit_row" (top 28) ["_law_number","_law_rooms","_law_signs"])(O:DefAt K mg "_law_mixed_row" (top 29) ["_law_number","_law_rooms","_law_signs"])(U:DefAt K mg "_law_machine" (top 30) ["_law_script","_law_at","_law_rooms","_law_signs"])(ap:DefAt K mg "_law_strip" (top 31) ["_law_script","_law_at","_law_size","_law_signs"])(X:DefAt K mg "_law_step" (top 32) ["_law_machine_here","_law_strip_here","_law_stand"])(Z:DefAt K mg "_law_stands" (top 33) ["_law_machine_here","_law_strip_here"])(ao:DefAt K mg "_law_says" (top 34) ["_law_machine_here","_law_strip_here"])(ak:DefAt K mg "_law_whole" (top 35) ["_law_found"])(ae:DefAt K mg "_law_beyond" (top 36) ["_law_machine_here","_law_strip_here","_law_place","_law_room"])(aj:DefAt K mg "_law_beginning" (top 37) ["_law_machine_here","_law_strip_here"])(aq:DefAt K mg "_law_ways" (top 38) ["_law_machine_here","_law_signs","_law_most"])(ad:DefAt K mg "_law_small" (top 39) ["_law_script","_law_at"])(au:DefAt K mg "_law_led" (top 40) ["_law_rows","_law_room","_law_strip_here"])(Q:DefAt K mg "_law_round" (top 41) ["_law_words","_law_most"])(al:DefAt K mg "_law_told" (top 42) ["_law_found","_law_due","_law_words"]){fL:Addr}{L:FuncData}(FL:Fun K "law" "law" (top 43) fL L):FnOk P w K mg base (CXe P w) 16 fL L ["_law_script"] (aFM K TH):=by
 obtain ⟨W_NoStrip,C_NoStrip,B⟩:=yM (P:=P) (w:=w) (base:=base) Er_NoStrip
 obtain ⟨Wp_TooMany,Cp_TooMany,x⟩:=Erp_TooMany
 have i:=@aC3 P w K mg base TH T D6
 have D:=@aC4 P w K mg base TH T D7
 have u:=zK (P:=P) (w:=w) (base:=base) (TH:=TH) T D8 B
 have I:=@aF3 P w K mg base TH T D9 u i
 have F:=@aF4 P w K mg base TH T V
 have p:=@aF5 P w K mg base TH T ah
 have h:=@vE P w K mg base TH T aw
 have G:=@aF6 P w K mg base TH T Y p
 have J:=@aIK P w K mg base TH T am G
 have o:=@yH P w K mg base TH T ac p
 have H:=aF7 (P:=P) (w:=w) (base:=base) (TH:=TH) T af i D J F h o x
 have e:=@aCN P w K mg base TH T R
 have j:=@w4 P w K mg base TH T M e
 have l:=@yI P w K mg base TH T ai
 have m:=@yJ P w K mg base TH T N I H j e l
 have a:=@aCO P w K mg base TH T S
 have E:=@aC5 P w K mg base TH T ag
 have g:=@t5 P w K mg base TH T aa
 have d:=@t6 P w K mg base TH T O E
 have k:=@w5 P w K mg base TH T U g d a
 have t:=@zL P w K mg base TH T ap a
 have b:=@aCP P w K mg base TH T X
 have n:=@yK P w K mg base TH T Z b
 have c:=@aCQ P w K mg base TH T ao n b
 have v:=@zM P w K mg base TH T ak
 have q:=@yL P w K mg base TH T ae b
 have f:=@t7 P w K mg base TH T aj q
 have y:=@aCR P w K mg base TH T aq f c
 have s:=@zN P w K mg base TH T ad a k y
 have A:=@aC6 P w K mg base TH T au
 have r:=@zO P w K mg base TH T Q
 have z:=@aCS P w K mg base TH T al v
 exact aPP (aQ5 (P:=P) (w:=w) (base:=base) (TH:=TH) T FL s t a A r m z c) aKR
end
section
variable{w:World}{K:Frag}{h:Heap}{mg:Str->Option Value}
theorem aRA(X:K.In h)(G:h.Ns mainGlobals mg){a:Nat}{b:Nat}(z_bool:PySem.W.nsIn K mainGlobals "bool"=some none)(z_enumerate:PySem.W.nsIn K mainGlobals "enumerate"=some none)(z_int:PySem.W.nsIn K mainGlobals "int"=some none)(z_isinstance:PySem.W.nsIn K mainGlobals "isinstance"=some none)(z_len:PySem.W.nsIn K mainGlobals "len"=some none)(z_list:PySem.W.nsIn K mainGlobals "list"=some none)(z_min:PySem.W.nsIn K mainGlobals "min"=some none)(z_range:PySem.W.nsIn K mainGlobals "range"=some none)(z_str:PySem.W.nsIn K mainGlobals "str"=some none)(z_tuple:PySem.W.nsIn K mainGlobals "tuple"=some none)(s_MOST_BEGINNINGS:PySem.W.nsIn K mainGlobals "MOST_BEGINNINGS"=some (some (.int 200 a)))(s_SIGNS:PySem.W.nsIn K mainGlobals "SIGNS"=some (some (.str "abc" b))):Txt w K mg:=⟨CD X G z_bool,CD X G z_enumerate,CD X G z_int,CD X G z_isinstance,CD X G z_len,CD X G z_list,CD X G z_min,CD X G z_range,CD X G z_str,CD X G z_tuple,⟨a,DQ X G s_MOST_BEGINNINGS⟩,⟨b,DQ X G s_SIGNS⟩⟩
theorem zP(X:K.In h)(G:h.Ns mainGlobals mg){W C fI r:Addr}{g a:List Value}{d s:Str}{j:Bool}{f:List Str}{b:Option Bool}{e:Option Addr}{c0 t l n o:Option Value}
  {p:Value} {od q:Option Addr} {i:Array (Option Value)} {kV doc pm c ct:Value}
  (m:PySem.W.nsIn K mainGlobals "NoStrip"=some (some (.ref C)))
  (e1:K.lookup C=some (excClassObj d s C r g (.ref W::SX.jE) true f a j b e c0 t l n o "ValueError.__new__"))
  (e2:PySem.W.findIn K (.ref C) "__setattr__"=some (some (.builtin "object.__setattr__"))) (e3:PySem.W.findIn K (.ref C) "__getattribute__"=some (some (.builtin "BaseException.__getattribute__"))) (e4:PySem.W.findIn K (.ref C) "__getattr__"=some none) (e5:PySem.W.findIn K (.ref C) "__class__"=some (some (.builtin "object.__class__")))
  (e6:PySem.W.specialIn K (.builtin "object.__class__") "__get__"=some (some (.builtin "getset_descriptor.__get__"))) (e7:PySem.W.takesIn K (.builtin "object.__class__")=some true) (e8:PySem.W.keepIn K (.ref C)=true)
  (p1:PySem.W.findIn K (.ref C) "at"=some none)
  (i1:PySem.W.findIn K (.ref C) "__init__"=some (some (.ref fI))) (i2:K.lookup fI=some ⟨p,od,.func (PySem.W.fnOf "__init__" "NoStrip.__init__" (dY (lQ (top 2) 0)) (cL (lQ (top 2) 0)) (aL (lQ (top 2) 0)) .none kV doc pm q c ct),i⟩) (i3:PySem.W.codeIn K c "NoStrip.__init__"=true) (i4:PySem.W.keepIn K (.ref fI)=true) (i5:PySem.W.typeIn K (.ref fI)=some (.type "function")):lO K mg:=by
 have k:=aAD (st:=lQ (top 2) 0) i2 i3 i4
 exact ⟨W,C,aDG e1 e2 e3 e4 e5 e6 e7 e8,DQ X G m,p1,fI,_,k,k.binds (ps:=["self","at"]) (fun _ _ _ _ _ _=>Mc.bn2 fun _ _=>rfl),i1,i5⟩
theorem aRB{x:Str}(X:K.In h)(G:h.Ns mainGlobals mg){W C c:Addr}{d b:List Value}{g n:Str}{f:Bool}{j:List Str}{a:Option Bool}{i:Option Addr}{c0 o k p l:Option Value}{q:Value}{wd:Option Addr}{cd:ClassData}{e:Array (Option Value)}
  (m:PySem.W.nsIn K mainGlobals x=some (some (.ref C)))
  (e1:K.lookup C=some (excClassObj g n C c d (.ref W::SX.jE) true j b f a i c0 o k p l "ValueError.__new__"))
  (e2:PySem.W.findIn K (.ref C) "__setattr__"=some (some (.builtin "object.__setattr__"))) (e3:PySem.W.findIn K (.ref C) "__getattribute__"=some (some (.builtin "BaseException.__getattribute__"))) (e4:PySem.W.findIn K (.ref C) "__getattr__"=some none) (e5:PySem.W.findIn K (.ref C) "__class__"=some (some (.builtin "object.__class__")))
  (e6:PySem.W.specialIn K (.builtin "object.__class__") "__get__"=some (some (.builtin "getset_descriptor.__get__"))) (e7:PySem.W.takesIn K (.builtin "object.__class__")=some true) (e8:PySem.W.keepIn K (.ref C)=true)
  (n1:PySem.W.nsOkIn K c=true) (n2:PySem.W.nsIn K c "__init__"=some none) (w1:K.lookup W=some ⟨q,wd,.cls cd,e⟩) (w2:PySem.W.nsOkIn K cd.ns=true) (w3:PySem.W.nsIn K cd.ns "__init__"=some none):∃ W C,ErrP K mg x W C:=
 ⟨W,C,aDG e1 e2 e3 e4 e5 e6 e7 e8,DQ X G m,⟨_,_,c,_,_,_,_,_,_,_,_,_,_,_,e1,n1,n2⟩,⟨_,_,cd,_,w1,w2,w3⟩⟩
theorem rec_in{q:Program}{x:Str}(h:((recsOf q).any fun d=>d.name == x)=true):∃ d∈recsOf q,d.name=x:=by
 obtain ⟨d,a,e⟩:=List.any_eq_true.mp h
 exact ⟨d,a,D5 e⟩
theorem aRC{i f:Addr}{j:Value}{od m:Option Addr}{d:Array (Option Value)}{kV doc pm b ct:Value}(X:K.In h)(G:h.Ns mainGlobals mg)(g:mg "law"=some (.ref i))(a:PySem.W.nsIn K mainGlobals "law"=some (some (.ref f)))(l:K.lookup f=some ⟨j,od,.func (PySem.W.fnOf "law" "law" (dY (top 43)) (cL (top 43)) (aL (top 43)) .none kV doc pm m b ct),d⟩)
  (c:PySem.W.codeIn K b "law"=true) (k:PySem.W.keepIn K (.ref f)=true):∃ fd,Fun K "law" "law" (top 43) i fd/\∀ (s:Shared) (u:Value),BindsTo s fd ⟨[u],[]⟩ [("_law_script",u)]:=by
 have e:=g.symm.trans (DQ X G a)
 cases e
 exact ⟨_,aAD (st:=top 43) l c k,fun s u=>.of_eq rfl⟩
end
end Mc
open PySem PySem.W PyProof.Rows
set_option maxRecDepth 100000 in
set_option maxHeartbeats 0 in
theorem PySem.Challenge.cw_striproam_k36_comes_round_by_words_holds : PySem.Challenge.rw_striproam_k36_comes_round_by_words.Holds := by
 w_on;o_law;k_head;(case hw=>w_witness2)
 k_fill
 refine Fl.aML (l:=PySem.Challenge.rw_striproam_k36_comes_round_by_words) (k:=16) (x:="_law_script") (qs:=Mc.qsT) (xs:=["one_way"]) ?hx ?hNT rfl rfl ⟨rfl,by decide,by decide⟩ (fun w h Y=>PySem.W.km_in_of Y) ?F
 case hx=>
  intro x hx
  simp only[AZ,List.not_mem_nil,or_false] at hx
  rcases hx with rfl<;>exact Mc.rec_in (by decide +kernel)
 case hNT=>
  intro w
  kernel_rfl
 case F=>
  intro w mg V h e G D
  have D6:L2.DefAt (L2.KOf e) mg "signs_of" (Mc.top 6) ["machine"]:=by dsimp only[L2.KOf];refine' Mc.b9 e G ?a ?l ?c ?k ?b;(case a=>k_is);(case l=>k_is);(case c=>k_is);(case k=>k_is);(case b=>exact fun _ _ _ _ _ _=>Mc.bn1 fun _=>rfl)
  have Z:L2.DefAt (L2.KOf e) mg "cells_of" (Mc.top 7) ["machine","number"]:=by dsimp only[L2.KOf];refine' Mc.b9 e G ?a ?l ?c ?k ?b;(case a=>k_is);(case l=>k_is);(case c=>k_is);(case k=>k_is);(case b=>exact fun _ _ _ _ _ _=>Mc.bn2 fun _ _=>rfl)
  have D8:L2.DefAt (L2.KOf e) mg "checked_by" (Mc.top 8) ["signs","strip"]:=by dsimp only[L2.KOf];refine' Mc.b9 e G ?a ?l ?c ?k ?b;(case a=>k_is);(case l=>k_is);(case c=>k_is);(case k=>k_is);(case b=>exact fun _ _ _ _ _ _=>Mc.bn2 fun _ _=>rfl)
  have D9:L2.DefAt (L2.KOf e) mg "checked" (Mc.top 9) ["machine","strip"]:=by dsimp only[L2.KOf];refine' Mc.b9 e G ?a ?l ?c ?k ?b;(case a=>k_is);(case l=>k_is);(case c=>k_is);(case k=>k_is);(case b=>exact fun _ _ _ _ _ _=>Mc.bn2 fun _ _=>rfl)
  have q:L2.DefAt (L2.KOf e) mg "reached" (Mc.top 11) ["begin","after","done"]:=by dsimp only[L2.KOf];refine' Mc.b9 e G ?a ?l ?c ?k ?b;(case a=>k_is);(case l=>k_is);(case c=>k_is);(case k=>k_is);(case b=>exact fun _ _ _ _ _ _=>Mc.bn3 fun _ _ _=>rfl)
  have J:L2.DefAt (L2.KOf e) mg "is_word" (Mc.top 14) ["part"]:=by dsimp only[L2.KOf];refine' Mc.b9 e G ?a ?l ?c ?k ?b;(case a=>k_is);(case l=>k_is);(case c=>k_is);(case k=>k_is);(case b=>exact fun _ _ _ _ _ _=>Mc.bn1 fun _=>rfl)
  have U:L2.DefAt (L2.KOf e) mg "without_signs" (Mc.top 15) ["machine"]:=by dsimp only[L2.KOf];refine' Mc.b9 e G ?a ?l ?c ?k ?b;(case a=>k_is);(case l=>k_is);(case c=>k_is);(case k=>k_is);(case b=>exact fun _ _ _ _ _ _=>Mc.bn1 fun _=>rfl)
  have y:L2.DefAt (L2.KOf e) mg "gone_on" (Mc.top 16) ["backs","cells","room"]:=by dsimp only[L2.KOf];refine' Mc.b9 e G ?a ?l ?c ?k ?b;(case a=>k_is);(case l=>k_is);(case c=>k_is);(case k=>k_is);(case b=>exact fun _ _ _ _ _ _=>Mc.bn3 fun _ _ _=>rfl)
  have O:L2.DefAt (L2.KOf e) mg "longer" (Mc.top 17) ["begun","cells"]:=by dsimp only[L2.KOf];refine' Mc.b9 e G ?a ?l ?c ?k ?b;(case a=>k_is);(case l=>k_is);(case c=>k_is);(case k=>k_is);(case b=>exact fun _ _ _ _ _ _=>Mc.bn2 fun _ _=>rfl)
  have A:L2.DefAt (L2.KOf e) mg "word_behind" (Mc.top 18) ["machine","begun"]:=by dsimp only[L2.KOf];refine' Mc.b9 e G ?a ?l ?c ?k ?b;(case a=>k_is);(case l=>k_is);(case c=>k_is);(case k=>k_is);(case b=>exact fun _ _ _ _ _ _=>Mc.bn2 fun _ _=>rfl)
  have H:L2.DefAt (L2.KOf e) mg "one_way" (Mc.top 19) ["machine"]:=by dsimp only[L2.KOf];refine' Mc.b9 e G ?a ?l ?c ?k ?b;(case a=>k_is);(case l=>k_is);(case c=>k_is);(case k=>k_is);(case b=>exact fun _ _ _ _ _ _=>Mc.bn1 fun _=>rfl)
  have n:L2.DefAt (L2.KOf e) mg "room_from" (Mc.top 20) ["reader","room","strip"]:=by dsimp only[L2.KOf];refine' Mc.b9 e G ?a ?l ?c ?k ?b;(case a=>k_is);(case l=>k_is);(case c=>k_is);(case k=>k_is);(case b=>exact fun _ _ _ _ _ _=>Mc.bn3 fun _ _ _=>rfl)
  have f:L2.DefAt (L2.KOf e) mg "rooms_passed" (Mc.top 22) ["reader","room","piece"]:=by dsimp only[L2.KOf];refine' Mc.b9 e G ?a ?l ?c ?k ?b;(case a=>k_is);(case l=>k_is);(case c=>k_is);(case k=>k_is);(case b=>exact fun _ _ _ _ _ _=>Mc.bn3 fun _ _ _=>rfl)
  have K:L2.DefAt (L2.KOf e) mg "least_round" (Mc.top 23) ["words"]:=by dsimp only[L2.KOf];refine' Mc.b9 e G ?a ?l ?c ?k ?b;(case a=>k_is);(case l=>k_is);(case c=>k_is);(case k=>k_is);(case b=>exact fun _ _ _ _ _ _=>Mc.bn1 fun _=>rfl)
  have g:L2.DefAtD (L2.KOf e) mg "comes_round" (Mc.top 24) ["machine","ahead","again","behind"] [.str ""]:=by
   dsimp only[L2.KOf]
   refine' Mc.aIM e G ?a ?l ?d ?c ?k ?b ?b2
   (case a=>k_is);(case l=>k_is);(case d=>k_is);(case c=>k_is);(case k=>k_is)
   (case b=>exact fun _ _ _ _ _ _ _ u us r=>match us,r with|[_,_,_,_],_=>⟨_,rfl,rfl⟩)
   (case b2=>exact fun _ _ _ _ _ _ _ u us r=>match us,r with|[_,_,_],_=>⟨_,rfl,rfl⟩)
  have o:L2.DefAt (L2.KOf e) mg "_law_cell" (Mc.top 26) ["_law_script","_law_k"]:=by dsimp only[L2.KOf];refine' Mc.b9 e G ?a ?l ?c ?k ?b;(case a=>k_is);(case l=>k_is);(case c=>k_is);(case k=>k_is);(case b=>exact fun _ _ _ _ _ _=>Mc.bn2 fun _ _=>rfl)
  have I:L2.DefAt (L2.KOf e) mg "_law_end" (Mc.top 27) ["_law_number","_law_rooms"]:=by dsimp only[L2.KOf];refine' Mc.b9 e G ?a ?l ?c ?k ?b;(case a=>k_is);(case l=>k_is);(case c=>k_is);(case k=>k_is);(case b=>exact fun _ _ _ _ _ _=>Mc.bn2 fun _ _=>rfl)
  have z:L2.DefAt (L2.KOf e) mg "_law_digit_row" (Mc.top 28) ["_law_number","_law_rooms","_law_signs"]:=by dsimp only[L2.KOf];refine' Mc.b9 e G ?a ?l ?c ?k ?b;(case a=>k_is);(case l=>k_is);(case c=>k_is);(case k=>k_is);(case b=>exact fun _ _ _ _ _ _=>Mc.bn3 fun _ _ _=>rfl)
  have i:L2.DefAt (L2.KOf e) mg "_law_mixed_row" (Mc.top 29) ["_law_number","_law_rooms","_law_signs"]:=by dsimp only[L2.KOf];refine' Mc.b9 e G ?a ?l ?c ?k ?b;(case a=>k_is);(case l=>k_is);(case c=>k_is);(case k=>k_is);(case b=>exact fun _ _ _ _ _ _=>Mc.bn3 fun _ _ _=>rfl)
  have p:L2.DefAt (L2.KOf e) mg "_law_machine" (Mc.top 30) ["_law_script","_law_at","_law_rooms","_law_signs"]:=by dsimp only[L2.KOf];refine' Mc.b9 e G ?a ?l ?c ?k ?b;(case a=>k_is);(case l=>k_is);(case c=>k_is);(case k=>k_is);(case b=>exact fun _ _ _ _ _ _=>Mc.bn4 fun _ _ _ _=>rfl)
  have Q:L2.DefAt (L2.KOf e) mg "_law_strip" (Mc.top 31) ["_law_script","_law_at","_law_size","_law_signs"]:=by dsimp only[L2.KOf];refine' Mc.b9 e G ?a ?l ?c ?k ?b;(case a=>k_is);(case l=>k_is);(case c=>k_is);(case k=>k_is);(case b=>exact fun _ _ _ _ _ _=>Mc.bn4 fun _ _ _ _=>rfl)
  have t:L2.DefAt (L2.KOf e) mg "_law_step" (Mc.top 32) ["_law_machine_here","_law_strip_here","_law_stand"]:=by dsimp only[L2.KOf];refine' Mc.b9 e G ?a ?l ?c ?k ?b;(case a=>k_is);(case l=>k_is);(case c=>k_is);(case k=>k_is);(case b=>exact fun _ _ _ _ _ _=>Mc.bn3 fun _ _ _=>rfl)
  have v:L2.DefAt (L2.KOf e) mg "_law_stands" (Mc.top 33) ["_law_machine_here","_law_strip_here"]:=by dsimp only[L2.KOf];refine' Mc.b9 e G ?a ?l ?c ?k ?b;(case a=>k_is);(case l=>k_is);(case c=>k_is);(case k=>k_is);(case b=>exact fun _ _ _ _ _ _=>Mc.bn2 fun _ _=>rfl)
  have P:L2.DefAt (L2.KOf e) mg "_law_says" (Mc.top 34) ["_law_machine_here","_law_strip_here"]:=by dsimp only[L2.KOf];refine' Mc.b9 e G ?a ?l ?c ?k ?b;(case a=>k_is);(case l=>k_is);(case c=>k_is);(case k=>k_is);(case b=>exact fun _ _ _ _ _ _=>Mc.bn2 fun _ _=>rfl)
  have M:L2.DefAt (L2.KOf e) mg "_law_whole" (Mc.top 35) ["_law_found"]:=by dsimp only[L2.KOf];refine' Mc.b9 e G ?a ?l ?c ?k ?b;(case a=>k_is);(case l=>k_is);(case c=>k_is);(case k=>k_is);(case b=>exact fun _ _ _ _ _ _=>Mc.bn1 fun _=>rfl)
  have E:L2.DefAt (L2.KOf e) mg "_law_beyond" (Mc.top 36) ["_law_machine_here","_law_strip_here","_law_place","_law_room"]:=by dsimp only[L2.KOf];refine' Mc.b9 e G ?a ?l ?c ?k ?b;(case a=>k_is);(case l=>k_is);(case c=>k_is);(case k=>k_is);(case b=>exact fun _ _ _ _ _ _=>Mc.bn4 fun _ _ _ _=>rfl)
  have L:L2.DefAt (L2.KOf e) mg "_law_beginning" (Mc.top 37) ["_law_machine_here","_law_strip_here"]:=by dsimp only[L2.KOf];refine' Mc.b9 e G ?a ?l ?c ?k ?b;(case a=>k_is);(case l=>k_is);(case c=>k_is);(case k=>k_is);(case b=>exact fun _ _ _ _ _ _=>Mc.bn2 fun _ _=>rfl)
  have R:L2.DefAt (L2.KOf e) mg "_law_ways" (Mc.top 38) ["_law_machine_here","_law_signs","_law_most"]:=by dsimp only[L2.KOf];refine' Mc.b9 e G ?a ?l ?c ?k ?b;(case a=>k_is);(case l=>k_is);(case c=>k_is);(case k=>k_is);(case b=>exact fun _ _ _ _ _ _=>Mc.bn3 fun _ _ _=>rfl)
  have B:L2.DefAt (L2.KOf e) mg "_law_small" (Mc.top 39) ["_law_script","_law_at"]:=by dsimp only[L2.KOf];refine' Mc.b9 e G ?a ?l ?c ?k ?b;(case a=>k_is);(case l=>k_is);(case c=>k_is);(case k=>k_is);(case b=>exact fun _ _ _ _ _ _=>Mc.bn2 fun _ _=>rfl)
  have S:L2.DefAt (L2.KOf e) mg "_law_led" (Mc.top 40) ["_law_rows","_law_room","_law_strip_here"]:=by dsimp only[L2.KOf];refine' Mc.b9 e G ?a ?l ?c ?k ?b;(case a=>k_is);(case l=>k_is);(case c=>k_is);(case k=>k_is);(case b=>exact fun _ _ _ _ _ _=>Mc.bn3 fun _ _ _=>rfl)
  have j:L2.DefAt (L2.KOf e) mg "_law_round" (Mc.top 41) ["_law_words","_law_most"]:=by dsimp only[L2.KOf];refine' Mc.b9 e G ?a ?l ?c ?k ?b;(case a=>k_is);(case l=>k_is);(case c=>k_is);(case k=>k_is);(case b=>exact fun _ _ _ _ _ _=>Mc.bn2 fun _ _=>rfl)
  have N:L2.DefAt (L2.KOf e) mg "_law_told" (Mc.top 42) ["_law_found","_law_due","_law_words"]:=by dsimp only[L2.KOf];refine' Mc.b9 e G ?a ?l ?c ?k ?b;(case a=>k_is);(case l=>k_is);(case c=>k_is);(case k=>k_is);(case b=>exact fun _ _ _ _ _ _=>Mc.bn3 fun _ _ _=>rfl)
  have T:Mc.Txt w (L2.KOf e) mg:=by
   dsimp only[L2.KOf]
   refine' Mc.aRA e G ?z_bool ?z_enumerate ?z_int ?z_isinstance ?z_len ?z_list ?z_min ?z_range ?z_str ?z_tuple ?s_MOST_BEGINNINGS ?s_SIGNS
   (case z_bool=>k_is);(case z_enumerate=>k_is);(case z_int=>k_is);(case z_isinstance=>k_is);(case z_len=>k_is);(case z_list=>k_is);(case z_min=>k_is);(case z_range=>k_is);(case z_str=>k_is);(case z_tuple=>k_is);(case s_MOST_BEGINNINGS=>k_is);(case s_SIGNS=>k_is)
  have E_NoStrip:Mc.lO (L2.KOf e) mg:=by
   dsimp only[L2.KOf]
   refine' Mc.zP e G ?m ?e1 ?e2 ?e3 ?e4 ?e5 ?e6 ?e7 ?e8 ?p1 ?i1 ?i2 ?i3 ?i4 ?i5
   (case m=>k_is)
   (case e1=>k_is)
   (case e2=>k_is);(case e3=>k_is);(case e4=>k_is);(case e5=>k_is);(case e6=>k_is);(case e7=>k_is);(case e8=>k_is)
   (case p1=>k_is);(case i1=>k_is);(case i2=>k_is);(case i3=>k_is);(case i4=>k_is);(case i5=>k_is)
  have Ep_TooMany:∃ W C,L2.ErrP (L2.KOf e) mg "TooMany" W C:=by
   dsimp only[L2.KOf]
   refine' Mc.aRB e G ?m ?e1 ?e2 ?e3 ?e4 ?e5 ?e6 ?e7 ?e8 ?n1 ?n2 ?w1 ?w2 ?w3
   (case m=>k_is)
   (case e1=>k_is)
   (case e2=>k_is);(case e3=>k_is);(case e4=>k_is);(case e5=>k_is);(case e6=>k_is);(case e7=>k_is);(case e8=>k_is)
   (case n2=>k_is);(case w1=>k_is);(case w3=>k_is)
   (case n1=>refine' L2.aDY ?l ?h;(case l=>k_is);(case h=>rfl))
   (case w2=>refine' L2.aDY ?l ?h;(case l=>k_is);(case h=>rfl))
  have LL:∃ fd,L2.Fun (L2.KOf e) "law" "law" (Mc.top 43) V fd/\∀ (s:Shared) (u:Value),BindsTo s fd ⟨[u],[]⟩ [("_law_script",u)]:=by
   dsimp only[L2.KOf]
   refine' Mc.aRC e G D ?a4 ?l4 ?c4 ?k4
   (case a4=>k_is);(case l4=>k_is);(case c4=>k_is);(case k4=>k_is)
  obtain ⟨fd,FL,X⟩:=LL
  exact ⟨fd,X,fun base TH _ _ TL=>Mc.aOA T E_NoStrip Ep_TooMany D6 Z D8 D9 q J U y O A (Fl.aSV H e TL (by decide)) n f K g o I z i p Q t v P M E L R B S j N FL⟩
end
