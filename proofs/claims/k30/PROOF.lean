import PyProof.Rows.All
import Wide.All
import OpenK.AllK
import Wide.FinOn
import Lean
import PyProof.EqAt
import PyProof.EqKinds
import PyProof.TupleCall
import PyProof.ExcInit
import PyProof.InstStoreFacts
import PyProof.StrLawsFirst
import PyProof.StrLawsIn
import KE.KLam
import PyProof.ListMulRoad
import PyProof.Rows.ListMul
import PyProof.ZipIter
import PyProof.Draws
import PyProof.ListStr
import PyProof.DictWalks
import PyProof.DictTruth
import PyProof.ListRange
import PyProof.StrLaws
import PyProof.StrLawsIdx
import PyProof.P3In
import PyProof.AttrMissHeap
import PyProof.StrBlock2
import PySem.Challenge.RW_striproam_k30_first_strips_by_words
set_option linter.all false
set_option maxRecDepth 100000
set_option maxHeartbeats 4000000
set_option Elab.async false
set_option linter.all false
set_option maxRecDepth 100000
set_option genSizeOf false
def PySem.W.Fast.tw10860845900869211476:=()
def PySem.W.Fast.tw18234430432964907001:=()
def PySem.W.Fast.tw963677936473948121:=()
def PySem.W.Fast.tw14776952213614770877:=()
def PySem.W.Fast.tw14642326292789346542:=()
def PySem.W.Fast.tw15805868488373180299:=()
def PySem.W.Fast.tw15210468605352463374:=()
def PySem.W.Fast.tw4269939413709085845:=()
def PySem.W.Fast.tw1373846687519976410:=()
def PySem.W.Fast.tw11110881284351026103:=()
def AA:=@PySem.wpAny_bind
def AB:=@List.length_map
def AC:=@PySem.Heap.get?_push_of_some
def AD:=@PySem.wpAny_pure
def AE:=@List.getElem?_eq_some_iff
def AG:=@if_pos
def AH:=@if_neg
def AI:=@List.getElem?_eq_getElem
def AJ:=@List.getElem?_map
def AK:=@Nat.le_refl
def AL:=@List.mem_of_getElem?
def AM:=@PySem.Heap.lt_size
def AN:=@List.mem_cons_of_mem
def AQ:=@List.mem_singleton
def AS:=@List.mem_cons
def AT:=@Nat.lt_of_lt_of_le
def AU:=@Bool.and_eq_true
def AV:=@List.mem_cons_self
def AW:=@List.map_cons
def AX:=@PySem.Heap.get?_push_size
def AY:=@decide_eq_true
def AZ:=@decide_eq_false
def A0:=@List.mem_map
def A1:=@List.getElem?_cons_zero
def A2:=@List.getElem?_cons_succ
def A3:=@List.getD_eq_getElem?_getD
def A4:=@PySem.mem_of_lookup
def A5:=@List.length_append
def A6:=@PySem.boot_len
def A7:=@List.map_append
def A8:=@PySem.F.plainAttrs_list
def A9:=@PyProof.Rows.boot_tuple
def BA:=@List.set_cons_zero
def BB:=@List.length_take
def BC:=@List.lookup_cons
def BD:=@PySem.F.slot_list_append
def BE:=@PySem.F.type_list_append
def BF:=@List.size_toArray
def BG:=@List.length_cons
def BH:=@List.set_cons_succ
def BI:=@Nat.le_trans
def BJ:=@List.mem_append
def BK:=@List.getElem?_set_ne
def BL:=@Nat.ne_of_lt
def BM:=@Nat.lt_irrefl
def BN:=@Ne.symm
def BO:=@of_decide_eq_true
def BP:=@PySem.wpAny_mono
def BQ:=@List.getElem?_append_left
def BR:=@List.length_nil
def BS:=@List.mem_range
def BT:=@List.all_eq_true
def BU:=@List.length_range
def BV:=@PySem.wpAny_field
def BW:=@Option.some.inj
def BX:=@List.mem_append_right
def BY:=@List.length_singleton
def BZ:=@List.map_congr_left
def B0:=@List.map_nil
def B1:=@List.map_map
def B2:=@PySem.Heap.size_push
def B3:=@PyProof.Rows.boot_isinstance
def B4:=@PySem.W.kia_one
def B5:=@List.getElem?_append_right
def B6:=@Bool.false_ne_true
def B7:=@List.nil_append
def B8:=@PySem.W.mg_none_of
def B9:=@List.cons_append
def CA:=@List.not_mem_nil
def CB:=@List.prefix_refl
def CC:=@PySem.Heap.SameBut.update
def CD:=@List.nodup_cons
def CF:=@if_true
def CG:=@List.getElem?_set_self
def CH:=@Nat.zero_le
def CI:=@List.getElem?_range
def CJ:=@PySem.Heap.get?_update_self
def CK:=@Bool.false_eq_true
def CL:=@Int.emod_lt_of_pos
def CM:=@PySem.W.mg_of
def CN:=@PySem.wpAny_newObj_type
def CO:=@List.nodup_append
def CP:=@List.forIn_cons
def CQ:=@List.length_set
def CS:=@List.foldl_cons
def CT:=@List.replicate_succ
def CU:=@beq_self_eq_true
def CV:=@PySem.wpAny_Call_Name_kw
def CW:=@PySem.wpAny_seqItems
def CY:=@PyProof.Rows.boot_int
def CZ:=@Nat.le_of_lt
def C0:=@List.mem_append_left
def C3:=@List.append_nil
def C4:=@beq_false_of_ne
def C5:=@List.find?_cons
def C6:=@List.getElem?_zipIdx
def C7:=@Int.emod_nonneg
def C8:=@List.getElem?_of_mem
def C9:=@PySem.wpAny_holding
def DA:=@PySem.wpAny_callSpecial?_slot
def DB:=@Array.length_toList
def DC:=@List.nodup_nil
def DD:=@Nat.ne_of_gt
def DE:=@PyProof.Rows.callWith_type1
def DF:=@List.mem_filterMap
def DG:=@PySem.wpAny_setField_rec
def DH:=@List.length_zipIdx
def DI:=@PySem.wpAny_passesOwn
def DJ:=@List.length_replicate
def DK:=@Bool.or_eq_true
def DL:=@PySem.wpAny_standAt
def DM:=@congrArg
def DN:=@Array.getElem?_eq_some_iff
def DO:=@PySem.F.slot_tuple_iterator_next
def DP:=@List.flatten_cons
def DQ:=@PySem.eqIsQuiet_byValue
def DR:=@List.mem_map_of_mem
def DS:=@PyProof.Rows.slot_tuple_getitem
def DT:=@PySem.wpAny_execs_nil
def DU:=@PySem.W.callWith_K
def DV:=@PySem.Obj.data_mapFields
def DW:=@Option.map_some
def DX:=@List.map_singleton
def DY:=@if_false
def DZ:=@PySem.Calls.callWith_builtin
def D0:=@PySem.Heap.get?_update_other
def D3:=@Int.le_refl
def D4:=@or_false
def D5:=@List.take_of_length_le
def D8:=@List.take_add_one
def EA:=@PySem.F.slot_dict_setdefault
def EB:=@List.getElem?_eq_none
def EC:=@PyProof.Rows.boot_str
def ED:=@List.idxOf_lt_length_of_mem
def EE:=@PySem.wpAny_call_entry
def EF:=@PySem.Obj.data_mapDictKeys
def EG:=@List.filterMap_cons
def EH:=@List.pairwise_iff_getElem
def EI:=@PySem.codeAny_mono
def EJ:=@LawfulBEq.eq_of_beq
def EK:=@PySem.F.slot_tuple_index
def EL:=@PySem.wpAny_setField
def EM:=@List.getElem?_replicate
def EN:=@List.reverse_cons
def EO:=@PySem.wpAny_loadPart_at
def EQ:=@List.append_assoc
def ER:=@Option.isSome_map
def ES:=@Int.toNat_natCast
def ET:=@PySem.wpAny_Call_method_late
def EU:=@List.findIdx?_eq_some_iff_getElem
def EV:=@Option.bind_some
def EW:=@Nat.le_add_right
def EX:=@PySem.Obj.isFreed_of_fields
def EY:=@List.of_mem_zip
def EZ:=@PySem.Calls.evalArgs_plain
def E2:=@PySem.call_meets
def E3:=@Nat.mul_comm
def E4:=@List.mem_iff_getElem
def E5:=@List.cons.injEq
def E6:=@PySem.wpAny_rule
def E7:=@PySem.wpAny_updateSeq_pair
def E8:=@PySem.F.slot_zip_next
def E9:=@PySem.F.args_dict_setdefault_3
def FA:=@PySem.F.entry_dict_setdefault
def FB:=@List.take_append_of_le_length
def FC:=@beq_eq_false_iff_ne
def FD:=@PySem.wpAny_isSubtype_exc
def FE:=@List.forIn_nil
def FF:=@PySem.F.args_tuple_iterator_next_1
def FG:=@Nat.le.dest
def FH:=@PySem.F.entry_tuple_iterator_next
def FI:=@List.prefix_append
def FJ:=@List.getElem?_take
def FK:=@PySem.Calls.Name_function_global
def FM:=@PySem.wpAny_attempt
def FN:=@PySem.F.excAttr_ValueError
def FP:=@Bool.true_and
def FQ:=@PySem.wpAny_onRaise
def FR:=@PySem.wpAny_truthy_bool
def FS:=@PySem.W.kitx_list
def FT:=@not_false_eq_true
def FU:=@List.foldl_append
def FV:=@List.idxOf_append
def FW:=@Option.some.injEq
def FX:=@PySem.wpAny_call
def FY:=@List.drop_eq_getElem_cons
def FZ:=@Classical.byContradiction
def F5:=@List.findIdx?_eq_none_iff
def F6:=@PySem.wpAny_execs_cons
def F7:=@Option.isSome_iff_exists
def F8:=@List.getElem?_take_of_lt
def F9:=@PySem.F.args_tuple_add_2
def GA:=@Option.getD_none
def GB:=@PySem.wpAny_comprehension_free
def GC:=@List.getElem_mem
def GD:=@List.Pairwise.imp_of_mem
def GE:=@Nat.mod_eq_of_lt
def GF:=@not_or
def GG:=@List.any_eq_true
def GH:=@Nat.zero_add
def GI:=@List.getElem_map
def GJ:=@PySem.F.plainAttrs_tuple
def GK:=@PySem.F.type_tuple_index
def GL:=@PySem.F.entry_tuple_add
def GM:=@List.length_eq_zero_iff
def GN:=@List.length_zip
def GO:=@PySem.sizeLine_eq
def GP:=@PySem.W.cellsFrom_some
def GQ:=@PySem.F.slot_tuple_add
def GR:=@PySem.F.plainAttrs_str
def GS:=@Array.getElem?_toList
def GT:=@List.take_append_drop
def GU:=@Bool.not_true
theorem Mc.bn1{α:Type}{P:List α->Prop}(h:∀ a,P [a]):∀ us:List α,us.length=1->P us
 | [a],_=>h a
theorem Mc.bn2{α:Type}{P:List α->Prop}(h:∀ a b,P [a,b]):∀ us:List α,us.length=2->P us
 | [a,b],_=>h a b
theorem Mc.bn3{α:Type}{P:List α->Prop}(h:∀ a b c,P [a,b,c]):∀ us:List α,us.length=3->P us
 | [a,b,c],_=>h a b c
theorem Mc.bn4{α:Type}{P:List α->Prop}(h:∀ a b c d,P [a,b,c,d]):∀ us:List α,us.length=4->P us
 | [a,b,c,d],_=>h a b c d
theorem Mc.bn5{α:Type}{P:List α->Prop}(h:∀ a b c d e,P [a,b,c,d,e]):∀ us:List α,us.length=5->P us
 | [a,b,c,d,e],_=>h a b c d e
open PySem.W (Frag)
noncomputable section
namespace L2
open PySem PySem.Spec PyProof.Rows
abbrev Key:=Sum Int Str
noncomputable def sG:Key->Value->Bool
 | .inl k,v=>Value.isInt k v
 | .inr x,v=>Value.isStrOf x v
noncomputable def aSK(w:World):Key->Int
 | .inl k=>hashInt k
 | .inr x=>hashStr w x
theorem keyIs_shape:∀ {k:Key} {v:Value},sG k v=true->(∃ i t,k=Sum.inl i/\v=Value.int i t)\/(∃ x t,k=Sum.inr x/\v=Value.str x t)
 | .inl i,v,h=>by
  obtain ⟨t,e⟩:=Value.isInt_shape (k:=i) (v:=v) h
  exact .inl ⟨i,t,rfl,e⟩
 | .inr x,v,h=>by
  obtain ⟨t,e⟩:=Value.isStrOf_shape (x:=x) (v:=v) h
  exact .inr ⟨x,t,rfl,e⟩
theorem aFO(i:Int)(t:Tok):sG (.inl i) (.int i t)=true:=by simp[sG,Value.isInt]
theorem aFP(x:Str)(t:Tok):sG (.inr x) (.str x t)=true:=by simp[sG,Value.isStrOf]
theorem aN3(a b:Int):decide ((Sum.inl a:Key)=Sum.inl b)=(a == b):=by
 by_cases e:a=b
 ·subst e;simp
 ·have h:¬ (Sum.inl a:Key)=Sum.inl b:=fun q=>e (Sum.inl.inj q)
  rw[AZ h]
  exact (FC.mpr e).symm
theorem aN4(a b:Str):decide ((Sum.inr a:Key)=Sum.inr b)=decide (a=b):=by
 by_cases e:a=b
 ·subst e;simp
 ·have h:¬ (Sum.inr a:Key)=Sum.inr b:=fun q=>e (Sum.inr.inj q)
  rw[AZ h,AZ e]
theorem aN5(a:Int)(b:Str):decide ((Sum.inl a:Key)=Sum.inr b)=false:=AZ (fun q=>nomatch q)
theorem aN6(a:Str)(b:Int):decide ((Sum.inr a:Key)=Sum.inl b)=false:=AZ (fun q=>nomatch q)
noncomputable def eE(prog:Program)(w:World):PySem.KeyKind prog w Key where
 is:=sG
 hash:=aSK w
 inj:=fun v a b ha hb=>by
  rcases keyIs_shape ha with ⟨i,t,rfl,rfl⟩|⟨x,t,rfl,rfl⟩
  ·rcases keyIs_shape hb with ⟨j,u,rfl,e⟩|⟨y,u,rfl,e⟩
   · injection e with e1 _; rw [e1]
   · exact nomatch e
  ·rcases keyIs_shape hb with ⟨j,u,rfl,e⟩|⟨y,u,rfl,e⟩
   · exact nomatch e
   · injection e with e1 _; rw [e1]
 byValue:=fun k v h=>by
  rcases keyIs_shape h with ⟨i,t,rfl,rfl⟩|⟨x,t,rfl,rfl⟩<;>rfl
 pyHash:=fun hv h=>by
  rcases keyIs_shape hv with ⟨i,t,rfl,rfl⟩|⟨x,t,rfl,rfl⟩
  ·exact wpAny_pyHash_int h
  ·exact wpAny_pyHash_str h
 eqBool:=fun hu hv h=>by
  rcases keyIs_shape hu with ⟨i,t,rfl,rfl⟩|⟨x,t,rfl,rfl⟩
  ·rcases keyIs_shape hv with ⟨j,u,rfl,rfl⟩|⟨y,u,rfl,rfl⟩
   · rw [aN3] at h; exact wpAny_eqBool_int h
   · rw [aN5] at h; exact SeqAt.EqAt.int_str i t y u _ _ _ _ h
  ·rcases keyIs_shape hv with ⟨j,u,rfl,rfl⟩|⟨y,u,rfl,rfl⟩
   · rw [aN6] at h; exact SeqAt.EqAt.str_int x t j u _ _ _ _ h
   · rw [aN4] at h; exact wpAny_eqBool_str h
 «strs»:=fun k x t v h=>by
  rcases keyIs_shape h with ⟨i,u,rfl,e⟩|⟨y,u,rfl,e⟩
  ·exact nomatch e
  ·injection e with e1 _
   subst e1
   cases v<;>rfl
theorem aB9(prog:Program)(w:World)(i:Int)(t:Tok):(eE prog w).is (.inl i) (.int i t)=true:=aFO i t
theorem aCA(prog:Program)(w:World)(x:Str)(t:Tok):(eE prog w).is (.inr x) (.str x t)=true:=aFP x t
inductive V where
 | non|bl (b:Bool)|int (i:Int)|str (x:Str)|byt (b:Array UInt8)|flt (b:UInt64)|ref (a:Addr)|ty (n:String)
 deriving DecidableEq
def bC:V->Value->Prop
 | .non,u=>u=Value.none
 | .bl b,u=>u=Value.bool b
 | .int i,u=>∃ t,u=Value.int i t
 | .str x,u=>∃ t,u=Value.str x t
 | .byt b,u=>∃ t,u=Value.bytes b t
 | .flt b,u=>∃ t,u=Value.float b t
 | .ref a,u=>u=Value.ref a
 | .ty n,u=>u=Value.type n
abbrev bG:List V->List Value->Prop:=Paired bC
theorem bG.length{xs:List V}{us:List Value}(r:bG xs us):xs.length=us.length:=Paired.length r
theorem bG.get:∀ {xs:List V} {us:List Value} {i:Nat} {x:V},bG xs us->xs[i]? = some x->∃ u,us[i]? = some u/\bC x u
 | _,_,_,_,.nil,e=>by simp at e
 | _,_,0,_,.cons r _,e=>by simp at e;subst e;exact ⟨_,rfl,r⟩
 | _,_,i+1,x,.cons _ t,e=>by
  obtain ⟨u,h1,h2⟩:=bG.get (i:=i) (x:=x) t (by simpa using e)
  exact ⟨u,by simpa using h1,h2⟩
theorem bG.set{x:V}{u:Value}(r:bC x u):∀ {xs:List V} {us:List Value} (i:Nat),bG xs us->bG (xs.set i x) (us.set i u)
 | _,_,_,.nil=>.nil
 | _,_,0,.cons _ t=>.cons r t
 | _,_,i+1,.cons q t=>.cons q (bG.set r i t)
theorem bG.append:∀ {xs ys:List V} {us ws:List Value},bG xs us->bG ys ws->bG (xs++ys) (us++ws)
 | _,_,_,_,.nil,s=>s
 | _,_,_,_,.cons r t,s=>.cons r (bG.append t s)
theorem bG.take:∀ {xs:List V} {us:List Value} (n:Nat),bG xs us->bG (xs.take n) (us.take n)
 | _,_,0,_=>.nil
 | _,_,_+1,.nil=>.nil
 | _,_,n+1,.cons r t=>.cons r (bG.take n t)
theorem bG.drop:∀ {xs:List V} {us:List Value} (n:Nat),bG xs us->bG (xs.drop n) (us.drop n)
 | _,_,0,r=>r
 | _,_,_+1,.nil=>.nil
 | _,_,n+1,.cons _ t=>bG.drop n t
def l8:Option V->Option Value->Prop
 | some v,some u=>bC v u
 | none,none=>True
 | _,_=>False
def KV{κ:Type}:List (κ×V)->List (κ×Value)->Prop:=Paired fun (p:κ×V) (q:κ×Value)=>p.1=q.1/\bC p.2 q.2
noncomputable def kV:Key->V
 | .inl i=>.int i
 | .inr x=>.str x
inductive HO where
 | lst (xs:List V)
 | tup (xs:List V)
 | dK (kvs:List (Key×V))|dT (kvs:List (List Key×V))
 | set (S:Int->Bool) (n:Nat)
 | ins (C dx:Addr) (fs:List (Str×V))
 | own (x:Addr)
 | xd (fs:List (Str×V))
 | met (f x:Addr)
 | rng (lo hi:Int)
 | frz (o:Obj) (u:HO)
 | tbl (qs:List (Pos×Str))
 | cod (q:Str)
 | ext (φ:Heap->Prop)
abbrev Hp:=Addr->Option HO
noncomputable def upd(H:Hp)(a:Addr)(o:HO):Hp:=fun b=>if b=a then some o else H b
theorem aY{H:Hp}{a:Addr}{o:HO}:upd H a o a=some o:=by unfold upd;rw[AG rfl]
theorem aM{H:Hp}{a b:Addr}{o:HO}(h:b≠a):upd H a o b=H b:=by unfold upd;rw[AH h]
theorem aCL{H:Hp}{a:Addr}{o u:HO}:upd (upd H a o) a u=upd H a u:=by
 funext b;unfold upd;split<;>rfl
theorem bI{H:Hp}{a b:Addr}{o:HO}(h:H a=some o)(h':H b=none):a≠b:=by
 intro e;subst e;rw[h] at h';cases h'
def lX(h:Heap)(a:Addr)(its:Array Value):Prop:=∃ o,h.get? a=some o/\(o.cls=.type "tuple"/\o.dict=none)/\∃ n,o.data=.seq its n
theorem lX.t{h:Heap}{a:Addr}{its:Array Value}:lX h a its->IsTup h a its:=fun ⟨o,e,c,n,d⟩=>⟨o,e,c.1,n,d⟩
theorem lX.new(h:Heap)(its:Array Value):lX (h.push {cls:=.type "tuple",data:=.seq its}) h.objs.size its:=⟨_,AX h rfl,⟨rfl,rfl⟩,_,rfl⟩
section
variable(P:Program)(w:World)
def cO(H:Hp)(h:Heap)(a:Addr):HO->Prop
 | .lst xs=>xs.length<=sizeLine/\∃ (its:List Value) (n:Nat),bG xs its/\h.get? a=some {cls:=.type "list",data:=.seq its.toArray n}
 | .tup xs=>xs.length<=sizeLine/\∃ its:List Value,bG xs its/\lX h a its.toArray
 | .dK kvs=>kvs.length<=sizeLine/\(a == sysModules)=false/\∃ vs,KV kvs vs/\h.DictOf (eE P w) a vs
 | .dT kvs=>kvs.length<=sizeLine/\(a == sysModules)=false/\∃ xs:List (List Key×Addr×Value),
  Paired (fun (p:List Key×V) (q:List Key×Addr×Value)=>p.1=q.1/\H q.2.1=some (.tup (p.1.map kV))/\bC p.2 q.2.2) kvs xs /\
  ∃ o es ep,h.get? a=some o/\o.ExactDict/\o.data=.dict es ep/\es.toList=xs.map (entryOfKey (tupleKind (eE P w)))/\(xs.map (·.1)).Nodup
 | .set S n=>h.SetOf (intKind P w) a S n
 | .ins C dx fs=>H dx=some (.own a)/\fs.length<=1000/\dx≠a/\h.get? a=some (PySem.W.instObj C dx) /\
  ∃ mA,h.Ns1 dx mA/\(∀ f,l8 (fs.lookup f) (mA f))/\PySem.Within mA (fs.map (·.1))
 | .own _=>∃ o,h.get? a=some o
 | .xd fs=>∃ mA,h.Ns1 a mA/\∀ f,l8 (fs.lookup f) (mA f)
 | .rng lo hi=>∃ t u v,h.get? a=some {cls:=.type "range",data:=.fields #[.int lo t,.int hi u,.int 1 v]}
 | .frz o u=>h.get? a=some o/\cO H h a u
 | .tbl qs=>∃ ps:Array Value,h.get? a=some {cls:=.none,data:=.fields ps}/\TriplesOk ps.toList/\∀ p∈qs,codeAmong p.1 ps.toList=none\/∃ c,codeAmong p.1 ps.toList=some (.ref c)/\H c=some (.cod p.2)
 | .cod q=>h.CodeRec (.ref a) q
 | .met f x=>h.get? a=some (PySem.W.methodObj (.ref f) (.ref x))
 | .ext φ=>φ h/\(∃ o,h.get? a=some o)/\∀ h1 h2:Heap,φ h1->(∀ o,h1.get? a=some o->h2.get? a=some o)->φ h2
def HOk(H:Hp)(h:Heap):Prop:=∀ a o,H a=some o->cO P w H h a o
end
section
variable{P:Program}{w:World}{H H':Hp}{h h':Heap}{a:Addr}{o:HO}
theorem cO.lt(x:cO P w H h a o):a < h.objs.size:=by
 cases o with
 | lst xs=>obtain ⟨_,_,_,_,e⟩:=x;exact AM e
 | tup xs=>obtain ⟨_,_,_,p⟩:=x;exact p.t.lt
 | dK kvs=>obtain ⟨_,_,_,_,o,_,_,e,_⟩:=x;exact AM e
 | dT kvs=>obtain ⟨_,_,_,_,o,_,_,e,_⟩:=x;exact AM e
 | set S n=>obtain ⟨o,_,_,_,e,_⟩:=x;exact AM e
 | ins C dx fs=>obtain ⟨_,_,_,e,_⟩:=x;exact AM e
 | own y=>obtain ⟨_,e⟩:=x;exact AM e
 | xd fs=>obtain ⟨_,⟨_,_,_,e,_⟩,_⟩:=x;exact AM e
 | rng lo hi=>obtain ⟨_,_,_,e⟩:=x;exact AM e
 | frz ob u=>obtain ⟨e,_⟩:=x;exact AM e
 | tbl qs=>obtain ⟨ps,e,_⟩:=x;exact AM e
 | cod q=>obtain ⟨c,o,vs,t,e,ho,_⟩:=x;cases e;exact AM ho
 | met f y=>exact AM (show h.get? a=some _ from x)
 | ext φ=>obtain ⟨_,⟨_,e⟩,_⟩:=x;exact AM e
theorem Paired.mapP{α β:Type}{F G:α->β->Prop}:∀ {l₁:List α} {l₂:List β},Paired F l₁ l₂->(∀ a b,F a b->G a b)->Paired G l₁ l₂
 | _,_,.nil,_=>.nil
 | _,_,.cons r t,f=>.cons (f _ _ r) (Paired.mapP t f)
theorem cO.stay(x:cO P w H h a o)(k:∀ b u,(b=a\/H b=some (.own a))->h.get? b=some u->h'.get? b=some u)
  (ho:∀ b,H b=some (.own a)->H' b=some (.own a)) (hc:∀ b q,H b=some (.cod q)->H' b=some (.cod q)) (ht:∀ b xs,H b=some (.tup xs)->H' b=some (.tup xs)):cO P w H' h' a o:=by
 induction o with
 | lst xs=>obtain ⟨z,its,n,r,e⟩:=x;exact ⟨z,its,n,r,k _ _ (.inl rfl) e⟩
 | tup xs=>obtain ⟨z,its,r,ob,e,c⟩:=x;exact ⟨z,its,r,ob,k _ _ (.inl rfl) e,c⟩
 | dK kvs=>obtain ⟨z,y,vs,r,ob,es,ep,e,c⟩:=x;exact ⟨z,y,vs,r,ob,es,ep,k _ _ (.inl rfl) e,c⟩
 | dT kvs=>
  obtain ⟨z,y,xs,r,ob,es,ep,e,c⟩:=x
  exact ⟨z,y,xs,Paired.mapP r fun p q z=>⟨z.1,ht _ _ z.2.1,z.2.2⟩,ob,es,ep,k _ _ (.inl rfl) e,c⟩
 | set S n=>obtain ⟨ob,es,ep,t,e,c⟩:=x;exact ⟨ob,es,ep,t,k _ _ (.inl rfl) e,c⟩
 | ins C dx fs=>
  obtain ⟨d,z,ne,e,mA,⟨od,es,ep,e2,c⟩,r⟩:=x
  exact ⟨ho _ d,z,ne,k _ _ (.inl rfl) e,mA,⟨od,es,ep,k _ _ (.inr d) e2,c⟩,r⟩
 | own y=>obtain ⟨ob,e⟩:=x;exact ⟨ob,k _ _ (.inl rfl) e⟩
 | xd fs=>obtain ⟨mA,⟨od,es,ep,e,c⟩,r⟩:=x;exact ⟨mA,⟨od,es,ep,k _ _ (.inl rfl) e,c⟩,r⟩
 | rng lo hi=>obtain ⟨t,u,v,e⟩:=x;exact ⟨t,u,v,k _ _ (.inl rfl) e⟩
 | frz ob u ih=>obtain ⟨e,q⟩:=x;exact ⟨k _ _ (.inl rfl) e,ih q⟩
 | tbl qs=>
  obtain ⟨ps,e,t,r⟩:=x
  refine ⟨ps,k _ _ (.inl rfl) e,t,fun p hp=>?_⟩
  rcases r p hp with z|⟨c,z,z2⟩
  · exact .inl z
  · exact .inr ⟨c, z, hc _ _ z2⟩
 | cod q=>
  obtain ⟨c,o,vs,t,e,ho,r⟩:=x
  cases e
  exact ⟨_,o,vs,t,rfl,k _ _ (.inl rfl) ho,r⟩
 | met f y=>
  have e:h.get? a=some (PySem.W.methodObj (.ref f) (.ref y)):=x
  show h'.get? a=some (PySem.W.methodObj (.ref f) (.ref y))
  exact k a _ (.inl rfl) e
 | ext φ=>obtain ⟨p,⟨o,e⟩,st⟩:=x;exact ⟨st _ _ p fun o q=>k _ _ (.inl rfl) q,⟨o,k _ _ (.inl rfl) e⟩,st⟩
theorem HOk.lt(x:HOk P w H h)(e:H a=some o):a < h.objs.size:=(x a o e).lt
theorem HOk.fresh(x:HOk P w H h)(e:h.objs.size<=a):H a=none:=by
 cases q:H a with
 | none=>rfl
 | some u=>exact absurd (AT (x.lt q) e) (BM _)
theorem HOk.kept(x:HOk P w H h)(k:∀ b u,h.get? b=some u->h'.get? b=some u):HOk P w H h':=fun a o e=>
 (x a o e).stay (fun b u _ q=>k b u q) (fun _ q=>q) (fun _ _ q=>q) fun _ _ q=>q
theorem HOk.laid(x:HOk P w H h)(k:∀ b u,h.get? b=some u->h'.get? b=some u)(hp:h.objs.size<=a)(new:cO P w (upd H a o) h' a o):HOk P w (upd H a o) h':=fun b u e=>by
 have hn:=x.fresh hp
 by_cases hb:b=a
 ·subst hb;rw[aY] at e;cases e;exact new
 ·rw[aM hb] at e
  exact (x b u e).stay (fun c v _ q=>k c v q) (fun c q=>by rw[aM (bI q hn)];exact q) (fun c xs q=>by rw[aM (bI q hn)];exact q) fun c xs q=>by rw[aM (bI q hn)];exact q
end
def Rd(H:Hp)(a:Addr)(u:HO):Prop:=H a=some u\/∃ o,H a=some (.frz o u)
theorem Rd.ok{P:Program}{w:World}{H:Hp}{h:Heap}{a:Addr}{u:HO}(r:Rd H a u)(x:HOk P w H h):cO P w H h a u:=by
 rcases r with r|⟨o,r⟩
 ·exact x a u r
 ·obtain ⟨_,q⟩:=x a _ r
  exact q
def Mut:Option HO->Prop
 | some (.lst _)=>True
 | some (.dK _)=>True
 | some (.dT _)=>True
 | some (.set _ _)=>True
 | some (.ins _ _ _)=>True
 | some (.ext _)=>True
 | _=>False
section
variable{P:Program}{w:World}{H:Hp}{h h':Heap}{x e:Addr}{o':HO}
theorem HOk.write(ok:HOk P w H h)(mu:Mut (H x))(he:e=x\/H e=some (.own x))(k:∀ b u,b≠e->h.get? b=some u->h'.get? b=some u)(heo:∃ u,h'.get? e=some u)
  (new:cO P w (upd H x o') h' x o'):HOk P w (upd H x o') h':=fun b u q=>by
 have nown:∀ c y,H c=some (.own y)->c≠x:=fun c y r z=>by subst z;rw[r] at mu;exact mu
 have ntup:∀ c xs,H c=some (.tup xs)->c≠x:=fun c xs r z=>by subst z;rw[r] at mu;exact mu
 have ncod:∀ c xs,H c=some (.cod xs)->c≠x:=fun c xs r z=>by subst z;rw[r] at mu;exact mu
 by_cases hb:b=x
 ·subst hb;rw[aY] at q;cases q;exact new
 ·rw[aM hb] at q
  by_cases hbe:b=e
  ·have q':H b=some (.own x):=by
    rcases he with z|z
    · exact absurd (hbe.trans z) hb
    · rw [hbe]; exact z
   rw[q] at q';cases q'
   obtain ⟨v,hv⟩:=heo
   exact ⟨v,by rw[hbe];exact hv⟩
  ·refine (ok b u q).stay (fun c v hc r=>k c v ?_ r) (fun c r=>by rw[aM (nown c b r)];exact r) (fun c xs r=>by rw[aM (ncod c xs r)];exact r) fun c xs r=>by rw[aM (ntup c xs r)];exact r
   rcases hc with rfl|hc
   ·exact hbe
   ·rintro rfl
    rcases he with z|z
    · exact nown c b hc z
    · rw [hc] at z; cases z; exact hb rfl
end
structure Un(fs ex:List Addr)(H H':Hp)(h h':Heap):Prop where
 keep:∀ b o,h.get? b=some o->H b=none->b∉fs->b∉ex->h'.get? b=some o
 slot:∀ b o,h.get? b=some o->H b=none->b∈fs->b∉ex->∃ sl,h'.get? b=some {o with slots:=sl}
 free:∀ b o,h.get? b=some o->H b=none->b∉ex->H' b=none
 there:∀ b o,h.get? b=some o->b∉ex->∃ o',h'.get? b=some o'
 tups:∀ b xs,H b=some (.tup xs)->H' b=some (.tup xs)
 frzs:∀ b o u,H b=some (.frz o u)->H' b=some (.frz o u)
 tbls:∀ b ps,H b=some (.tbl ps)->H' b=some (.tbl ps)
section
variable{fs fs' ex ex':List Addr}{H H1 H2:Hp}{h h1 h2 h':Heap}{a x e:Addr}{o:HO}
theorem Un.any(u:Un fs ex H H1 h h1){b:Addr}{ob:Obj}(q:h.get? b=some ob)(n:H b=none)(hx:b∉ex):∃ sl,h1.get? b=some {ob with slots:=sl}:=by
 by_cases hb:b∈fs
 · exact u.slot b ob q n hb hx
 · exact ⟨ob.slots, u.keep b ob q n hb hx⟩
theorem Un.trans(a:Un fs ex H H1 h h1)(b:Un fs ex H1 H2 h1 h2):Un fs ex H H2 h h2 where
 keep:=fun c ob q n hc hx=>b.keep c ob (a.keep c ob q n hc hx) (a.free c ob q n hx) hc hx
 slot:=fun c ob q n hc hx=>by
  obtain ⟨sl,e1⟩:=a.slot c ob q n hc hx
  obtain ⟨sl',e2⟩:=b.slot c _ e1 (a.free c ob q n hx) hc hx
  exact ⟨sl',e2⟩
 free:=fun c ob q n hx=>by
  obtain ⟨o',e1⟩:=a.there c ob q hx
  exact b.free c o' e1 (a.free c ob q n hx) hx
 there:=fun c ob q hx=>by
  obtain ⟨o',e1⟩:=a.there c ob q hx
  exact b.there c o' e1 hx
 tups:=fun c xs q=>b.tups c xs (a.tups c xs q)
 frzs:=fun c ob xs q=>b.frzs c ob xs (a.frzs c ob xs q)
 tbls:=fun c ps q=>b.tbls c ps (a.tbls c ps q)
theorem Un.kept(k:∀ b u,h.get? b=some u->h'.get? b=some u):Un fs ex H H h h':=
 ⟨fun b ob q _ _ _=>k b ob q,fun b ob q _ _ _=>⟨ob.slots,k b ob q⟩,fun _ _ _ n _=>n,fun b ob q _=>⟨ob,k b ob q⟩,fun _ _ q=>q,fun _ _ _ q=>q,fun _ _ q=>q⟩
theorem Un.refl:Un fs ex H H h h:=Un.kept fun _ _ q=>q
theorem Un.laid(k:∀ b u,h.get? b=some u->h'.get? b=some u)(hp:h.objs.size<=a)(hn:H a=none):Un fs ex H (upd H a o) h h' where
 keep:=fun b u q _ _ _=>k b u q
 slot:=fun b u q _ _ _=>⟨u.slots,k b u q⟩
 free:=fun b u q n _=>by rw[aM (BL (AT (AM q) hp))];exact n
 there:=fun b u q _=>⟨u,k b u q⟩
 tups:=fun b xs q=>by rw[aM (bI q hn)];exact q
 frzs:=fun b u xs q=>by rw[aM (bI q hn)];exact q
 tbls:=fun b ps q=>by rw[aM (bI q hn)];exact q
theorem Un.write(mu:Mut (H x))(he:e=x\/H e=some (.own x))(k:∀ b u,b≠e->h.get? b=some u->h'.get? b=some u)(heo:∃ u,h'.get? e=some u):Un fs ex H (upd H x o) h h':=by
 have hx:∀ b,H b=none->b≠x:=fun b n z=>by subst z;rw[n] at mu;exact mu
 have hb:∀ b,H b=none->b≠e:=fun b n z=>by
  subst z
  rcases he with r|r
  · exact hx b n r
  · rw [n] at r; cases r
 have hm:∀ b u,H b=some u->¬ Mut (some u)->b≠x:=fun b u q nm z=>by subst z;rw[q] at mu;exact nm mu
 refine ⟨fun b u q n _ _=>k b u (hb b n) q,fun b u q n _ _=>⟨u.slots,k b u (hb b n) q⟩,fun b u q n _=>by rw[aM (hx b n)];exact n,fun b u q _=>?_,
  fun b xs q=>by rw[aM (hm b _ q fun z=>z)];exact q,fun b u xs q=>by rw[aM (hm b _ q fun z=>z)];exact q,fun b ps q=>by rw[aM (hm b _ q fun z=>z)];exact q⟩
 by_cases hbe:b=e
 ·subst hbe;exact heo
 ·exact ⟨u,k b u hbe q⟩
end
noncomputable def trk(h:Heap)(H:Hp):List Addr:=(List.range h.objs.size).filter fun a=>(H a).isSome
def oK(h:Heap)(H:Hp):Heap:=PySem.W.hideAll h (trk h H)
theorem aFQ(h:Heap)(H:Hp):(oK h H).objs.size=h.objs.size:=PySem.W.hideAll_size _ _
theorem aHZ{h:Heap}{H:Hp}{b:Addr}{o:Obj}(e:h.get? b=some o)(n:H b=none):(oK h H).get? b=some o:=
 PySem.W.hideAll_get _ e fun hm=>by
  have q:(H b).isSome=true:=(List.mem_filter.mp hm).2
  rw[n] at q;simp at q
theorem aK3{h:Heap}{H:Hp}{b:Addr}{o:Obj}(e:(oK h H).get? b=some o):h.get? b=some o/\H b=none:=by
 have e':h.get? b=some o:=PySem.W.of_hideAll (trk h H) e
 refine ⟨e',?_⟩
 cases q:H b with
 | none=>rfl
 | some x=>
  have hm:b∈trk h H:=List.mem_filter.mpr ⟨BS.mpr (AM e'),by simp[q]⟩
  have z:(oK h H).get? b=none:=PySem.W.hideAll_none (trk h H) hm
  rw[z] at e;cases e
def aK4(g h:Heap)(L:Addr):List (Addr×Obj):=(List.range h.objs.size).filterMap fun a=>if a=L\/(g.get? a).isSome=true then none else (h.get? a).map fun o=>(a,o)
def rest(g h:Heap)(L d:Addr):List (Addr×Obj):=(aK4 g h L).filter fun p=>decide (p.1≠d)
structure Mod(K:Frag)(mg:Str->Option Value)(base:Heap):Prop where
 kin:K.In base
 glob:base.Ns mainGlobals mg
 blt:∃ mb,base.Ns builtinsNs mb/\∀ x:Str,x≠"__name__"->mb x=bootBuiltins x
 nolimit:base.NoLimit
structure Cx where
 prog:Program
 w:World
 K:Frag
 mg:Str->Option Value
 base:Heap
 A:Around
 N:List Str
 s₀:Shared
 H₀:Hp
 env:Env
 outer:List Env
 stack:List Env
 ex:List Addr
 fn:Str->Bool
 calm:Bool
 pn:List (Addr×Obj)
 xe:Value->Shared->Prop
noncomputable def frs(l:List Env):List Addr:=l.filterMap (·.frame)
abbrev Cx.fs(X:Cx):List Addr:=frs X.outer
def Vis(sc:Scope)(x:Str):Prop:=sc.names.lookup x=some .local\/sc.names.lookup x=some .cell\/sc.names.lookup x=some .free
def Loc(sc:Scope)(x:Str):Prop:=sc.names.lookup x=some .local\/sc.names.lookup x=some .cell
def aSL(env:Env)(h:Heap)(m:Str->Option Value)(x:Str)(u:Value):Prop:=
 (env.kindOf x=some .local/\m x=some u)\/((env.kindOf x=some .cell\/env.kindOf x=some .free)/\∃ c,env.cells.lookup x=some c/\h.IsCell c (some u))
structure Cx.Ok(X:Cx):Prop where
 mod:Mod X.K X.mg X.base
 kind:X.env.scope.kind=.function
 glob:X.env.globals=mainGlobals
 blt:X.env.builtins=builtinsNs
 above:X.s₀.heap.objs.size<=X.env.locals
 inj:∀ x y c,X.env.cells.lookup x=some c->X.env.cells.lookup y=some c->x=y
 has:∀ x,(X.env.kindOf x=some .cell\/X.env.kindOf x=some .free)->∃ c,X.env.cells.lookup x=some c
 cab:∀ x c,X.fn x=true->X.env.cells.lookup x=some c->X.s₀.heap.objs.size<=c
 hd:X.calm=true->X.A.handled=none
 frames:X.A.frames=some X.stack
 stk:X.stack=X.outer\/(X.stack=X.env::X.outer/\X.env.frame=some X.env.locals)
 exf:∀ b∈X.ex,b≠X.env.locals/\∀ x c,X.env.cells.lookup x=some c->c≠b
 bs:∀ b o,X.base.get? b=some o->X.s₀.heap.get? b=some o/\X.H₀ b=none
 bsz:X.base.objs.size<=X.s₀.heap.objs.size
 noex:∀ b o,X.base.get? b=some o->b∉X.ex
 exfs:∀ b∈X.ex,b∉X.fs
 funs:X.s₀.heap.FunFrames X.base X.outer
 frf:∀ b∈X.fs,X.H₀ b=none
structure Inv(X:Cx)(pins:List (Addr×Obj))(σ:List (Option V))(H:Hp)(s:Shared):Prop where
 ok:X.Ok
 os:s.os=X.s₀.os
 bare:AllBare s.gens
 base:Un X.fs X.ex X.H₀ H X.s₀.heap s.heap
 loc:∃ m,s.heap.Ns X.env.locals m/\∀ (i:Nat) (x:Str) (v:V),X.N[i]? = some x->σ[i]? = some (some v)->Vis X.env.scope x->∃ u,bC v u/\aSL X.env s.heap m x u
 cell:∀ x c,X.env.cells.lookup x=some c->∃ v,s.heap.IsCell c v
 free:H X.env.locals=none
 freeC:∀ x c,X.env.cells.lookup x=some c->H c=none
 pin:∀ p∈X.pn++pins,s.heap.get? p.1=some p.2/\H p.1=none/\p.1≠X.env.locals/\p.1∉X.fs/\∀ v,p.2.data≠.cell v
 hok:HOk X.prog X.w H s.heap
 len:σ.length=X.N.length
section
variable{X:Cx}{pins:List (Addr×Obj)}{σ:List (Option V)}{H H':Hp}{s:Shared}{h':Heap}
theorem Cx.Ok.nofr(ok:X.Ok){b:Addr}{o:Obj}(e:X.base.get? b=some o):b∉X.fs:=fun hb=>by
 have:=(ok.funs.mem hb).1
 rw[e] at this;cases this
theorem Inv.bs(I:Inv X pins σ H s):∀ b o,X.base.get? b=some o->s.heap.get? b=some o/\H b=none:=fun b o e=>
 ⟨I.base.keep b o (I.ok.bs b o e).1 (I.ok.bs b o e).2 (I.ok.nofr e) (I.ok.noex b o e),I.base.free b o (I.ok.bs b o e).1 (I.ok.bs b o e).2 (I.ok.noex b o e)⟩
theorem Inv.bk(I:Inv X pins σ H s):∀ b o,X.base.get? b=some o->s.heap.get? b=some o:=fun b o e=>(I.bs b o e).1
theorem Inv.mod(I:Inv X pins σ H s):Mod X.K X.mg X.base:=I.ok.mod
theorem Inv.kIn(I:Inv X pins σ H s):X.K.In s.heap:=I.ok.mod.kin.keeps I.bk
theorem Inv.lt(I:Inv X pins σ H s):X.env.locals < s.heap.objs.size:=let ⟨_,hn,_⟩:=I.loc;hn.lt
theorem Inv.sz(I:Inv X pins σ H s):X.s₀.heap.objs.size<=s.heap.objs.size:=BI I.ok.above (CZ I.lt)
theorem Inv.nofs(I:Inv X pins σ H s){a:Addr}(h:s.heap.objs.size<=a):a∉X.fs:=fun hb=>by
 obtain ⟨_,o,ho,_⟩:=I.ok.funs.mem hb
 exact absurd (AT (AM ho) (BI I.sz h)) (BM _)
theorem Inv.cne(I:Inv X pins σ H s):∀ x c,X.env.cells.lookup x=some c->c≠X.env.locals:=fun x c e z=>by
 obtain ⟨v,o,ho,hd⟩:=I.cell x c e
 obtain ⟨m,⟨o',es,ep,ho',hd',_⟩,_⟩:=I.loc
 rw[z,ho'] at ho;cases ho;rw[hd'] at hd;cases hd
theorem Inv.funs(I:Inv X pins σ H s):s.heap.FunFrames X.base X.outer:=by
 have all:∀ (l:List Env),(∀ b∈frs l,b∈X.fs)->X.s₀.heap.FunFrames X.base l->s.heap.FunFrames X.base l:=by
  intro l
  induction l with
  | nil=>intro _ _;trivial
  | cons env r ih=>
   intro hs hl
   obtain ⟨hk,⟨L,o,hf,hn,ho,hd⟩,hr⟩:=hl
   have hL:L∈X.fs:=hs L (by unfold frs;rw[EG,hf];exact AV)
   obtain ⟨sl,e⟩:=I.base.slot L o ho (I.ok.frf L hL) hL fun z=>I.ok.exfs L z hL
   exact ⟨hk,⟨L,_,hf,hn,e,hd⟩,ih (fun b hb=>hs b (by unfold frs;rw[EG,hf];exact AN _ hb)) hr⟩
 exact all X.outer (fun _ hb=>hb) I.ok.funs
theorem Inv.stack(I:Inv X pins σ H s):s.heap.FunFrames X.base X.stack:=by
 rcases I.ok.stk with e|⟨e,hf⟩
 ·rw[e];exact I.funs
 ·rw[e]
  obtain ⟨m,hn,_⟩:=I.loc
  refine .cons (by rw[I.ok.kind];decide) hf hn ?_ I.funs
  exact Heap.get?_none_of_le (BI I.ok.bsz I.ok.above)
theorem Inv.stkSub(I:Inv X pins σ H s):∀ b∈frs X.stack,b∈X.env.locals::X.fs:=fun b hb=>by
 rcases I.ok.stk with e|⟨e,hf⟩
 ·rw[e] at hb;exact AN _ hb
 ·rw[e] at hb
  unfold frs at hb
  rw[EG,hf] at hb
  exact hb
theorem Inv.stkFree(I:Inv X pins σ H s):∀ b∈frs X.stack,H b=none:=fun b hb=>by
 rcases AS.mp (I.stkSub b hb) with e|hb
 ·rw[e];exact I.free
 ·obtain ⟨_,o,ho,_⟩:=I.ok.funs.mem hb
  exact I.base.free b o ho (I.ok.frf b hb) fun z=>I.ok.exfs b z hb
theorem Inv.step{g':Array GenState}{t':Nat}{d':Drawn}{ch:List Addr}(I:Inv X pins σ H s)
  (hch:∀ b∈ch,(b∈X.ex\/X.s₀.heap.objs.size<=b)/\b≠X.env.locals/\(∀ x c,X.env.cells.lookup x=some c->c≠b)/\∀ p∈X.pn++pins,p.1≠b)
  (keep:∀ b o,b≠X.env.locals->b∉X.fs->b∉ch->s.heap.get? b=some o->H b=none->h'.get? b=some o)
  (slot:∀ b o,b≠X.env.locals->b∈X.fs->b∉ch->s.heap.get? b=some o->H b=none->∃ sl,h'.get? b=some {o with slots:=sl}) (free:∀ b o,b∉ch->s.heap.get? b=some o->H b=none->H' b=none)
  (there:∀ b o,b∉ch->s.heap.get? b=some o->∃ o',h'.get? b=some o')
  (tups:∀ b xs,H b=some (.tup xs)->H' b=some (.tup xs)) (frzs:∀ b o u,H b=some (.frz o u)->H' b=some (.frz o u)) (tbls:∀ b ps,H b=some (.tbl ps)->H' b=some (.tbl ps))
  (ns:∀ m,s.heap.Ns X.env.locals m->h'.Ns X.env.locals m) (hok:HOk X.prog X.w H' h') (hg:AllBare g') :
  Inv X pins σ H' {s with heap:=h',gens:=g',drawn:=d',toks:=t'}:=by
 have neL:∀ b o,X.s₀.heap.get? b=some o->b≠X.env.locals:=fun b o e=>BL (AT (AM e) I.ok.above)
 have neC:∀ b o,X.s₀.heap.get? b=some o->b∉X.ex->b∉ch:=fun b o e hx hb=>by
  rcases (hch b hb).1 with z|z
  ·exact hx z
  ·exact absurd (AT (AM e) z) (BM _)
 have cellK:∀ x c,X.env.cells.lookup x=some c->∀ v,s.heap.IsCell c v->h'.IsCell c v:=fun x c e v zz0=>by
  obtain ⟨o,ho,hd⟩:=zz0
  have nch:c∉ch:=fun z=>(hch c z).2.2.1 x c e rfl
  by_cases hc:c∈X.fs
  ·obtain ⟨sl,q⟩:=slot c o (I.cne x c e) hc nch ho (I.freeC x c e)
   exact ⟨_,q,hd⟩
  ·exact ⟨o,keep c o (I.cne x c e) hc nch ho (I.freeC x c e),hd⟩
 refine ⟨I.ok,I.os,hg,⟨fun b o e n hb hx=>?_,fun b o e n hb hx=>?_,fun b o e n hx=>?_,fun b o e hx=>?_,fun b xs e=>tups b xs (I.base.tups b xs e),fun b o xs e=>frzs b o xs (I.base.frzs b o xs e),fun b ps e=>?_⟩,?_,fun x c e=>?_,?_,fun x c e=>?_,fun p hp=>?_,hok,I.len⟩
 ·exact keep b o (neL b o e) hb (neC b o e hx) (I.base.keep b o e n hb hx) (I.base.free b o e n hx)
 ·obtain ⟨sl,e1⟩:=I.base.slot b o e n hb hx
  obtain ⟨sl',e2⟩:=slot b _ (neL b o e) hb (neC b o e hx) e1 (I.base.free b o e n hx)
  exact ⟨sl',e2⟩
 ·obtain ⟨o',e1⟩:=I.base.there b o e hx
  exact free b o' (neC b o e hx) e1 (I.base.free b o e n hx)
 ·obtain ⟨o',e1⟩:=I.base.there b o e hx
  exact there b o' (neC b o e hx) e1
 ·exact tbls b ps (I.base.tbls b ps e)
 ·obtain ⟨m,hn,hl⟩:=I.loc
  refine ⟨m,ns m hn,fun i x v e1 e2 e3=>?_⟩
  obtain ⟨u,r,l⟩:=hl i x v e1 e2 e3
  refine ⟨u,r,?_⟩
  rcases l with l|⟨k,c,e,z⟩
  ·exact .inl l
  ·exact .inr ⟨k,c,e,cellK x c e _ z⟩
 ·obtain ⟨v,z⟩:=I.cell x c e
  exact ⟨v,cellK x c e v z⟩
 ·obtain ⟨m,⟨o,_,_,ho,_⟩,_⟩:=I.loc
  exact free _ o (fun z=>(hch _ z).2.1 rfl) ho I.free
 ·obtain ⟨v,o,ho,hd⟩:=I.cell x c e
  exact free c o (fun z=>(hch c z).2.2.1 x c e rfl) ho (I.freeC x c e)
 ·obtain ⟨e,n,ne,nf,d⟩:=I.pin p hp
  have nch:p.1∉ch:=fun z=>(hch p.1 z).2.2.2 p hp rfl
  exact ⟨keep p.1 p.2 ne nf nch e n,free p.1 p.2 nch e n,ne,nf,d⟩
theorem Inv.un{t':Nat}(I:Inv X pins σ H s)(u:Un X.fs [] H H' s.heap h')(hok:HOk X.prog X.w H' h'):Inv X pins σ H' {s with heap:=h',toks:=t'}:=by
 obtain ⟨m,⟨o,es,ep,ho,r⟩,_⟩:=id I.loc
 obtain ⟨sl,hL⟩:=u.any ho I.free (by simp)
 exact I.step (g':=s.gens) (d':=s.drawn) (ch:=[]) (fun _ z=>nomatch z) (fun b o _ hb _ e n=>u.keep b o e n hb (by simp)) (fun b o _ hb _ e n=>u.slot b o e n hb (by simp)) (fun b o _ e n=>u.free b o e n (by simp)) (fun b o _ e=>u.there b o e (by simp)) u.tups u.frzs u.tbls (fun m' hm=>by
  obtain ⟨o',es',ep',ho',r'⟩:=hm
  rw[ho] at ho';cases ho'
  exact ⟨_,es',ep',hL,r'⟩) hok I.bare
theorem Inv.call{g':Array GenState}{t':Nat}{d':Drawn}{ch:List Addr}(I:Inv X pins σ H s)(u:Un (frs X.stack) ch H H' s.heap h')(hok:HOk X.prog X.w H' h')(hg:AllBare g')
  (hch:∀ b∈ch,(b∈X.ex\/X.s₀.heap.objs.size<=b)/\b≠X.env.locals/\(∀ x c,X.env.cells.lookup x=some c->c≠b)/\∀ p∈X.pn++pins,p.1≠b) :
  Inv X pins σ H' {s with heap:=h',gens:=g',drawn:=d',toks:=t'}:=by
 obtain ⟨m,⟨o,es,ep,ho,r⟩,_⟩:=id I.loc
 obtain ⟨sl,hL⟩:=u.any ho I.free fun z=>(hch _ z).2.1 rfl
 exact I.step (ch:=ch) hch (fun b o hL hb hc e n=>u.keep b o e n (fun z=>(AS.mp (I.stkSub b z)).elim hL hb) hc) (fun b o _ _ hc e n=>u.any e n hc) (fun b o hc e n=>u.free b o e n hc) (fun b o hc e=>u.there b o e hc) u.tups u.frzs u.tbls (fun m' hm=>by
  obtain ⟨o',es',ep',ho',r'⟩:=hm
  rw[ho] at ho';cases ho'
  exact ⟨_,es',ep',hL,r'⟩) hok hg
theorem Inv.turned{t':Nat}{it:Addr}(I:Inv X pins σ H s)(k:∀ b o,b≠it->s.heap.get? b=some o->h'.get? b=some o)(hn:H it=none)(hL:it≠X.env.locals)
  (h1:it∈X.ex\/X.s₀.heap.objs.size<=it) (h2:∀ x c,X.env.cells.lookup x=some c->c≠it) (h3:∀ p∈X.pn++pins,p.1≠it):Inv X pins σ H {s with heap:=h',toks:=t'}:=by
 have nit:∀ b u,H b=some u->b≠it:=fun b u e z=>by rw[z,hn] at e;cases e
 refine I.step (g':=s.gens) (d':=s.drawn) (ch:=[it]) (fun b hb=>?_) (fun b o _ _ hc e _=>k b o (fun z=>hc (by simp[z])) e) (fun b o _ _ hc e _=>⟨o.slots,k b o (fun z=>hc (by simp[z])) e⟩) (fun _ _ _ _ n=>n)
  (fun b o hc e=>⟨o,k b o (fun z=>hc (by simp[z])) e⟩) (fun _ _ e=>e) (fun _ _ _ e=>e) (fun _ _ e=>e) (fun m hm=>?_) (fun b u e=>?_) I.bare
 ·have e:b=it:=by simpa using hb
  subst e
  exact ⟨h1,hL,h2,h3⟩
 ·obtain ⟨o,es,ep,ho,r⟩:=hm
  exact ⟨o,es,ep,k _ o (BN hL) ho,r⟩
 ·refine (I.hok b u e).stay (fun c v hc q=>k c v ?_ q) (fun _ q=>q) (fun _ _ q=>q) fun _ _ q=>q
  rcases hc with z|z
  · rw [z]; exact nit b u e
  · exact nit c _ z
theorem Inv.tok(I:Inv X pins σ H s)(t:Nat):Inv X pins σ H {s with toks:=t}:=I.un (h':=s.heap) (t':=t) Un.refl I.hok
theorem Inv.kept{t':Nat}(I:Inv X pins σ H s)(k:∀ b u,s.heap.get? b=some u->h'.get? b=some u):Inv X pins σ H {s with heap:=h',toks:=t'}:=I.un (Un.kept k) (I.hok.kept k)
theorem Inv.laid{a:Addr}{o:HO}{t':Nat}(I:Inv X pins σ H s)(k:∀ b u,s.heap.get? b=some u->h'.get? b=some u)(hp:s.heap.objs.size<=a)(new:cO X.prog X.w (upd H a o) h' a o) :
 Inv X pins σ (upd H a o) {s with heap:=h',toks:=t'}:=I.un (Un.laid k hp (I.hok.fresh hp)) (I.hok.laid k hp new)
theorem Inv.write{x e:Addr}{o:HO}{t':Nat}(I:Inv X pins σ H s)(mu:Mut (H x))(he:e=x\/H e=some (.own x))(k:∀ b u,b≠e->s.heap.get? b=some u->h'.get? b=some u)(heo:∃ u,h'.get? e=some u)
 (new:cO X.prog X.w (upd H x o) h' x o):Inv X pins σ (upd H x o) {s with heap:=h',toks:=t'}:=I.un (Un.write mu he k heo) (I.hok.write mu he k heo new)
theorem Inv.pins_of{pins':List (Addr×Obj)}(I:Inv X pins σ H s)(h:∀ p∈pins',s.heap.get? p.1=some p.2/\H p.1=none/\p.1≠X.env.locals/\p.1∉X.fs/\∀ v,p.2.data≠.cell v):Inv X pins' σ H s:=
 ⟨I.ok,I.os,I.bare,I.base,I.loc,I.cell,I.free,I.freeC,fun p hp=>(BJ.mp hp).elim (fun z=>I.pin p (C0 _ z)) (h p),I.hok,I.len⟩
theorem t5{N:List Str}(hN:N.Nodup){i j:Nat}{x:Str}(a:N[i]? = some x)(b:N[j]? = some x):i=j:=by
 obtain ⟨h1,e1⟩:=AE.mp a
 obtain ⟨h2,e2⟩:=AE.mp b
 exact (List.getElem_inj hN).mp (e1.trans e2.symm)
theorem yE{M:Model}{A:Around}{E:Value->Shared->Prop}{i:Nat}{x:Str}{v:V}{u:Value}{Q:Unit->Shared->Prop}(I:Inv X pins σ H s)(hN:X.N.Nodup)(hi:X.N[i]? = some x)(hx:Loc X.env.scope x)(r:bC v u)
  (h:∀ s',Inv X pins (σ.set i (some v)) H s'->(∃ a,Heap.SameBut a s.heap s'.heap/\(a=X.env.locals\/X.env.cells.lookup x=some a))->Q () s') (hf:X.fn x=true\/X.env.scope.names.lookup x=some .local):wpAny M A (storeName X.env x u) Q E s:=by
 obtain ⟨m,hn,hl⟩:=id I.loc
 have hcls:(X.env.scope.kind == .class || (X.env.scope.kind == .module && X.env.locals != X.env.globals))=false:=by rw[I.ok.kind];rfl
 have hiσ:i < σ.length:=by rw[I.len];exact (AE.mp hi).1
 have cne:=I.cne
 have tracked:∀ {a:Addr} {h':Heap},(∃ o,s.heap.get? a=some o/\H a=none)->Heap.SameBut a s.heap h'->HOk X.prog X.w H h':=fun {a h'} ha hs b ob e=>by
  obtain ⟨_,_,hfree⟩:=ha
  refine (I.hok b ob e).stay (fun c w' hc q=>(hs.2 c ?_).trans q) (fun _ q=>q) (fun _ _ q=>q) fun _ _ q=>q
  rintro rfl
  rcases hc with rfl|hc
  ·rw[hfree] at e;cases e
  ·rw[hfree] at hc;cases hc
 rcases hx with hk|hk
 ·refine wpAny_storeName_local hk hn (fun h' hn' hs=>?_) hcls
  obtain ⟨oL,_,_,hoL,_⟩:=id hn
  refine h _ ⟨I.ok,I.os,I.bare,⟨fun b o e n hb hx=>?_,fun b o e n hb hx=>?_,I.base.free,fun b o e hx=>?_,I.base.tups,I.base.frzs,I.base.tbls⟩,⟨_,hn',fun j y v' e1 e2 e3=>?_⟩,fun y c e=>?_,I.free,I.freeC,fun p hp=>?_,tracked ⟨oL,hoL,I.free⟩ hs,by simpa using I.len⟩ ⟨_,hs,.inl rfl⟩
  ·exact (hs.2 b (BL (AT (AM e) I.ok.above))).trans (I.base.keep b o e n hb hx)
  ·obtain ⟨sl,e1⟩:=I.base.slot b o e n hb hx
   exact ⟨sl,(hs.2 b (BL (AT (AM e) I.ok.above))).trans e1⟩
  ·obtain ⟨o',e1⟩:=I.base.there b o e hx
   exact ⟨o',(hs.2 b (BL (AT (AM e) I.ok.above))).trans e1⟩
  ·by_cases hj:j=i
   ·subst hj
    rw[hi] at e1;cases e1
    rw[CG hiσ] at e2
    cases e2
    exact ⟨u,r,.inl ⟨hk,by simp⟩⟩
   ·rw[BK (BN hj)] at e2
    obtain ⟨u',r',q⟩:=hl j y v' e1 e2 e3
    refine ⟨u',r',?_⟩
    rcases q with ⟨k,e⟩|⟨k,c,e,z⟩
    ·refine .inl ⟨k,?_⟩
     have:y≠x:=fun e=>hj (t5 hN e1 (e▸hi))
     simp[this,e]
    ·exact .inr ⟨k,c,e,z.sameBut hs (cne y c e)⟩
  ·obtain ⟨w',z⟩:=I.cell y c e
   exact ⟨w',z.sameBut hs (cne y c e)⟩
  ·obtain ⟨e,n,ne,nf,d⟩:=I.pin p hp
   exact ⟨(hs.2 p.1 ne).trans e,n,ne,nf,d⟩
 ·have hfn:X.fn x=true:=by
   rcases hf with z|z
   ·exact z
   ·rw[z] at hk;cases hk
  obtain ⟨c,hc⟩:=I.ok.has x (.inl hk)
  obtain ⟨w',z⟩:=I.cell x c hc
  refine wpAny_storeName_cell I.ok.kind hk hc z (fun h' hc' hs=>?_)
  obtain ⟨oc,hoc,hocd⟩:=id z
  refine h {s with heap:=h'} ⟨I.ok,I.os,I.bare,⟨fun b o e n hb hx=>?_,fun b o e n hb hx=>?_,I.base.free,fun b o e hx=>?_,I.base.tups,I.base.frzs,I.base.tbls⟩,⟨m,hn.sameBut hs (BN (cne x c hc)),fun j y v' e1 e2 e3=>?_⟩,fun y c' e=>?_,I.free,I.freeC,fun p hp=>?_,tracked ⟨oc,hoc,I.freeC x c hc⟩ hs,by simpa using I.len⟩ ⟨c,hs,.inr hc⟩
  ·exact (hs.2 b (BL (AT (AM e) (I.ok.cab x c hfn hc)))).trans (I.base.keep b o e n hb hx)
  ·obtain ⟨sl,e1⟩:=I.base.slot b o e n hb hx
   exact ⟨sl,(hs.2 b (BL (AT (AM e) (I.ok.cab x c hfn hc)))).trans e1⟩
  ·obtain ⟨o',e1⟩:=I.base.there b o e hx
   exact ⟨o',(hs.2 b (BL (AT (AM e) (I.ok.cab x c hfn hc)))).trans e1⟩
  ·by_cases hj:j=i
   ·subst hj
    rw[hi] at e1;cases e1
    rw[CG hiσ] at e2
    cases e2
    exact ⟨u,r,.inr ⟨.inl hk,c,hc,hc'⟩⟩
   ·rw[BK (BN hj)] at e2
    obtain ⟨u',r',q⟩:=hl j y v' e1 e2 e3
    refine ⟨u',r',?_⟩
    rcases q with q|⟨k,c',e,z'⟩
    ·exact .inl q
    ·refine .inr ⟨k,c',e,z'.sameBut hs ?_⟩
     rintro rfl
     exact hj (t5 hN e1 (I.ok.inj _ _ _ e hc▸hi))
  ·by_cases hcc:c'=c
   ·subst hcc;exact ⟨_,hc'⟩
   ·obtain ⟨w2,z2⟩:=I.cell y c' e
    exact ⟨w2,z2.sameBut hs hcc⟩
  ·obtain ⟨e,n,ne,nf,d⟩:=I.pin p hp
   refine ⟨(hs.2 p.1 ?_).trans e,n,ne,nf,d⟩
   intro q
   rw[q,hoc] at e
   have q':oc=p.2:=BW e
   exact d w' (by rw[<-q'];exact hocd)
theorem m9{M:Model}{A:Around}{E:Value->Shared->Prop}{i:Nat}{x:Str}{v:V}{u:Value}{Q:Unit->Shared->Prop}(I:Inv X pins σ H s)(hN:X.N.Nodup)(hi:X.N[i]? = some x)(hx:Loc X.env.scope x)(r:bC v u)
  (h:∀ s',Inv X pins (σ.set i (some v)) H s'->Q () s') (hf:X.fn x=true\/X.env.scope.names.lookup x=some .local):wpAny M A (storeName X.env x u) Q E s:=
 yE I hN hi hx r (fun s' I' _=>h s' I') hf
theorem Inv.call'{s':Shared}{ch:List Addr}(I:Inv X pins σ H s)(ho:s'.os=s.os)(u:Un (frs X.stack) ch H H' s.heap s'.heap)(hok:HOk X.prog X.w H' s'.heap)(hg:AllBare s'.gens)
  (hch:∀ b∈ch,(b∈X.ex\/X.s₀.heap.objs.size<=b)/\b≠X.env.locals/\(∀ x c,X.env.cells.lookup x=some c->c≠b)/\∀ p∈X.pn++pins,p.1≠b):Inv X pins σ H' s':=by
 obtain ⟨h',g',d',t',o'⟩:=s'
 have e:o'=s.os:=ho
 subst e
 exact I.call (g':=g') (t':=t') (d':=d') u hok hg hch
end
abbrev XK:=Value->Option Addr->Hp->Prop
abbrev St:=List (Option V)
abbrev VK:=V->Hp->Prop
abbrev TE:=St->Hp->VK->Prop
abbrev TT:=St->Hp->(Bool->Hp->Prop)->Prop
abbrev TA:=St->Hp->(List V->Hp->Prop)->Prop
structure iS where
 nx:St->Hp->Prop
 rt:VK
 bk:St->Hp->Prop:=fun _ _=>False
 ct:St->Hp->Prop:=fun _ _=>False
abbrev TS:=iS->St->Hp->Prop
def EP(X:Cx)(pins:List (Addr×Obj))(σ:St)(Q:VK)(u:Value)(s':Shared):Prop:=∃ v H',Inv X pins σ H' s'/\bC v u/\Q v H'
def TP(X:Cx)(pins:List (Addr×Obj))(σ:St)(Q:Bool->Hp->Prop)(b:Bool)(s':Shared):Prop:=∃ H',Inv X pins σ H' s'/\Q b H'
def AP(X:Cx)(pins:List (Addr×Obj))(σ:St)(Q:List V->Hp->Prop)(us:List Value)(s':Shared):Prop:=∃ vs H',Inv X pins σ H' s'/\bG vs us/\Q vs H'
def SP(X:Cx)(pins:List (Addr×Obj))(D:iS)(f:Flow)(s':Shared):Prop:=
 match f with
 | .next=>∃ σ' H',Inv X pins σ' H' s'/\D.nx σ' H'
 | .brk=>∃ σ' H',Inv X pins σ' H' s'/\D.bk σ' H'
 | .cont=>∃ σ' H',Inv X pins σ' H' s'/\D.ct σ' H'
 | .ret u=>∃ v σ' H',Inv X pins σ' H' s'/\bC v u/\D.rt v H'
def PE(X:Cx)(e:Expr)(t:TE):Prop:=
 ∀ (pins:List (Addr×Obj)) (s:Shared) (σ:St) (H:Hp) (Q:VK),Inv X pins σ H s->t σ H Q->wpAny (model X.prog X.w) X.A (eval e X.env) (EP X pins σ Q) X.xe s
def PT(X:Cx)(e:Expr)(t:TT):Prop:=
 ∀ (pins:List (Addr×Obj)) (s:Shared) (σ:St) (H:Hp) (Q:Bool->Hp->Prop),Inv X pins σ H s->t σ H Q->wpAny (model X.prog X.w) X.A (isTrue e X.env (eval e X.env)) (TP X pins σ Q) X.xe s
def PW(X:Cx)(e:Expr)(t:TT):Prop:=
 ∀ (whole:Sem Value) (pins:List (Addr×Obj)) (s:Shared) (σ:St) (H:Hp) (Q:Bool->Hp->Prop),Inv X pins σ H s->t σ H Q->wpAny (model X.prog X.w) X.A (isTrue e X.env whole) (TP X pins σ Q) X.xe s
theorem PW.pt{X:Cx}{e:Expr}{t:TT}(h:PW X e t):PT X e t:=h _
def PA(X:Cx)(es:List Expr)(t:TA):Prop:=
 ∀ (pos:Pos) (pins:List (Addr×Obj)) (s:Shared) (σ:St) (H:Hp) (Q:List V->Hp->Prop),Inv X pins σ H s->t σ H Q->wpAny (model X.prog X.w) X.A (spliced (backTo pos (starEach es X.env))) (AP X pins σ Q) X.xe s
def PS(X:Cx)(st:Stmt)(t:TS):Prop:=
 ∀ (pins:List (Addr×Obj)) (s:Shared) (σ:St) (H:Hp) (D:iS),Inv X pins σ H s->t D σ H->wpAny (model X.prog X.w) X.A (exec st X.env) (SP X pins D) X.xe s
def PSs(X:Cx)(st:List Stmt)(t:TS):Prop:=
 ∀ (pins:List (Addr×Obj)) (s:Shared) (σ:St) (H:Hp) (D:iS),Inv X pins σ H s->t D σ H->wpAny (model X.prog X.w) X.A (execs st X.env) (SP X pins D) X.xe s
theorem thn{α:Type}{t:Sem α}{Q Q':α->Shared->Prop}{M:Model}{A:Around}{E:Value->Shared->Prop}{s:Shared}(h:wpAny M A t Q E s)(hQ:∀ a s,Q a s->Q' a s):wpAny M A t Q' E s:=BP h hQ fun _ _ x=>x
section
variable{X:Cx}
def jS(i:Nat):TE:=fun σ H Q=>∃ v,σ[i]? = some (some v)/\Q v H
def tC(v:V):TE:=fun _ H Q=>Q v H
theorem aN7{i:Nat}{x:Str}{pos:Pos}(hN:X.N[i]? = some x)(hv:Vis X.env.scope x)(hd:(x == ("__debug__":Str))=false:=by decide)(hcd:(x == ("__classdict__":Str))=false:=by decide):PE X (.Name x pos) (jS i):=by
 intro pins s σ H Q I h
 obtain ⟨v,e,h⟩:=h
 obtain ⟨m,hn,hl⟩:=I.loc
 obtain ⟨u,r,l⟩:=hl i x v hN e hv
 have fin:EP X pins σ Q u s:=⟨v,H,I,r,h⟩
 rcases l with ⟨hk,hm⟩|⟨hk,c,hc,hcell⟩
 ·exact wpAny_Name (wpAny_loadName_local I.ok.kind hk hn hm fin) hd
 ·rcases hk with hk|hk
  · exact wpAny_Name (wpAny_loadName_cell I.ok.kind hk hc hcell fin) hd
  · exact wpAny_Name (wpAny_loadName_free I.ok.kind hk hc hcell fin hcd) hd
theorem aN8{i j pos}:PE X (.Constant (.int i) j pos) (tC (.int i)):=fun _ _ _ H _ I h=>wpAny_Constant_int ⟨.int i,H,I.tok _,⟨_,rfl⟩,h⟩
theorem aQ9{b j pos}:PE X (.Constant (.bool b) j pos) (tC (.bl b)):=fun _ _ _ H _ I h=>Constant_bool ⟨.bl b,H,I,rfl,h⟩
theorem aN9{j pos}:PE X (.Constant .none j pos) (tC .non):=fun _ _ _ H _ I h=>Constant_none ⟨.non,H,I,rfl,h⟩
theorem uY{x j pos}:PE X (.Constant (.str x) j pos) (tC (.str x)):=fun _ _ _ H _ I h=>Calls.Constant_str ⟨.str x,H,I.tok _,⟨_,rfl⟩,h⟩
def Gl(X:Cx)(x:Str):Prop:=X.env.kindOf x=some .globalImplicit
theorem mU{E:Value->Shared->Prop}{pins:List (Addr×Obj)}{s:Shared}{σ:St}{H:Hp}{x:Str}{u:Value}{pos:Pos}{Q:Value->Shared->Prop}(I:Inv X pins σ H s)(hg:Gl X x)(hm:X.mg x=some u)(h:Q u s)
  (hd:(x == ("__debug__":Str))=false:=by decide):wpAny (model X.prog X.w) X.A (eval (.Name x pos) X.env) Q E s:=
 FK I.ok.kind hg (Calls.loadGlobal_global (by rw[I.ok.glob];exact I.mod.glob.keeps I.bk) hm h) hd
theorem oS{E:Value->Shared->Prop}{pins:List (Addr×Obj)}{s:Shared}{σ:St}{H:Hp}{x:Str}{u:Value}{pos:Pos}{Q:Value->Shared->Prop}(I:Inv X pins σ H s)(hg:Gl X x)(hm:X.mg x=none)(hv:bootBuiltins x=some u)(h:Q u s)
  (hn:x≠"__name__":=by decide) (hd:(x == ("__debug__":Str))=false:=by decide):wpAny (model X.prog X.w) X.A (eval (.Name x pos) X.env) Q E s:=by
 obtain ⟨mb,h1,h2⟩:=I.mod.blt
 exact FK I.ok.kind hg (Calls.loadGlobal_builtin (by rw[I.ok.glob];exact I.mod.glob.keeps I.bk) hm (by rw[I.ok.blt];exact h1.keeps I.bk) ((h2 x hn).trans hv) h) hd
theorem lE{x:Str}{v:V}{u:Value}{pos:Pos}(hg:Gl X x)(hm:X.mg x=some u)(r:bC v u)(hd:(x == ("__debug__":Str))=false:=by decide):PE X (.Name x pos) (tC v):=
 fun _ _ _ H _ I h=>mU I hg hm ⟨v,H,I,r,h⟩ hd
theorem oU{x:Str}{v:V}{u:Value}{pos:Pos}(hg:Gl X x)(hm:X.mg x=none)(hv:bootBuiltins x=some u)(r:bC v u)(hn:x≠"__name__":=by decide)(hd:(x == ("__debug__":Str))=false:=by decide):PE X (.Name x pos) (tC v):=
 fun _ _ _ H _ I h=>oS I hg hm hv ⟨v,H,I,r,h⟩ hn hd
variable{a b:Expr}{ta tb:TE}{pos:Pos}
def PC(X:Cx)(op:CmpOp)(a b:Expr)(t:TE):Prop:=
 ∀ (pins:List (Addr×Obj)) (s:Shared) (σ:St) (H:Hp) (Q:VK),Inv X pins σ H s->t σ H Q->
  wpAny (model X.prog X.w) X.A (eval a X.env) (fun v s₁=>wpAny (model X.prog X.w) X.A (eval b X.env) (fun u s₂=>wpAny (model X.prog X.w) X.A (compareOp op v u) (EP X pins σ Q) X.xe s₂) X.xe s₁) X.xe s
theorem aH0(b:Expr){op:CmpOp}(h:op≠.In)(h2:op≠.NotIn):behindInMarks op b=false:=by
 have e1:(op == CmpOp.In)=false:=by cases op<;>first|rfl|exact absurd rfl h
 have e2:(op == CmpOp.NotIn)=false:=by cases op<;>first|rfl|exact absurd rfl h2
 cases b<;>simp[behindInMarks,e1,e2]
def tB(t:TE):TT:=fun σ H Q=>t σ H fun x H1=>∃ c,x=.bl c/\Q c H1
theorem cS{op:CmpOp}{t:TE}(h:PC X op a b t)(h1:behindInMarks op b=false:=by first|exact aH0 _ (by decide) (by decide)|rfl):PT X (.Compare a [op] [b] pos) (tB t):=by
 intro pins s σ H Q I hw
 refine wpAny_isTrue_Compare1 (thn (h pins s σ H _ I hw) fun v s1 h1=>thn h1 fun u s2 h2=>thn h2 fun c s3 zz0=>?_) h1
 obtain ⟨x,H1,I1,r1,q1⟩:=zz0
 obtain ⟨d,rfl,q⟩:=q1
 cases r1
 exact FR ⟨H1,I1,q⟩
theorem kQ{e:Expr}{t:TE}(h:PE X e t)(he:∀ whole,isTrue e X.env whole=(do let v <-whole;standAt e.pos;holding [v] (truthy v)):=by intro _;rfl):PT X e (tB t):=by
 intro pins s σ H Q I hw
 refine isTrue_plain (thn (h pins s σ H _ I hw) fun v s1 zz0=>?_) (he _)
 obtain ⟨x,H1,I1,r1,q1⟩:=zz0
 obtain ⟨d,rfl,q⟩:=q1
 cases r1
 exact FR ⟨H1,I1,q⟩
variable{tA tB':TT}{rest:List Expr}
def aOA(t u:TT):TT:=fun σ H Q=>t σ H fun c H1=>if c=true then u σ H1 Q else Q false H1
def tOr(t u:TT):TT:=fun σ H Q=>t σ H fun c H1=>if c=true then Q true H1 else u σ H1 Q
def aSM(t:TT):TT:=fun σ H Q=>t σ H fun c H1=>Q (!c) H1
theorem lF(ha:PT X a tA):PW X (.BoolOp .And [a] pos) tA:=by
 intro wh pins s σ H Q I h
 refine isTrue_and (thn (ha pins s σ H Q I h) fun c s1 e=>?_)
 cases c with
 | true=>exact isTrue_and_nil e
 | false=>exact e
theorem zS(ha:PT X a tA):PW X (.BoolOp .Or [a] pos) tA:=by
 intro wh pins s σ H Q I h
 refine isTrue_or (thn (ha pins s σ H Q I h) fun c s1 e=>?_)
 cases c with
 | false=>exact isTrue_or_nil e
 | true=>exact e
theorem lY(ha:PT X a tA)(hb:PW X (.BoolOp .And (b::rest) pos) tB'):PW X (.BoolOp .And (a::b::rest) pos) (aOA tA tB'):=by
 intro wh pins s σ H Q I h
 refine isTrue_and (thn (ha pins s σ H _ I h) fun c s1 zz0=>?_)
 obtain ⟨H1,I1,q1⟩:=zz0
 cases c with
 | true=>exact hb wh pins s1 σ H1 Q I1 q1
 | false=>exact ⟨H1,I1,q1⟩
theorem aD5(ha:PT X a tA)(hb:PW X (.BoolOp .Or (b::rest) pos) tB'):PW X (.BoolOp .Or (a::b::rest) pos) (tOr tA tB'):=by
 intro wh pins s σ H Q I h
 refine isTrue_or (thn (ha pins s σ H _ I h) fun c s1 zz0=>?_)
 obtain ⟨H1,I1,q1⟩:=zz0
 cases c with
 | true=>exact ⟨H1,I1,q1⟩
 | false=>exact hb wh pins s1 σ H1 Q I1 q1
theorem qR(ha:PT X a tA):PT X (.UnaryOp .Not a pos) (aSM tA):=by
 intro pins s σ H Q I h
 exact isTrue_not (ha pins s σ H (fun c H1=>Q (!c) H1) I h)
def tIf(t:TT)(ta tb:TE):TE:=fun σ H Q=>t σ H fun c H1=>if c=true then ta σ H1 Q else tb σ H1 Q
theorem aH1{c:Expr}(hc:PT X c tA)(ha:PE X a ta)(hb:PE X b tb):PE X (.IfExp c a b pos) (tIf tA ta tb):=by
 intro pins s σ H Q I h
 refine wpAny_IfExp (thn (hc pins s σ H _ I h) fun d s1 zz0=>?_)
 obtain ⟨H1,I1,q1⟩:=zz0
 cases d with
 | true=>exact ha pins s1 σ H1 Q I1 q1
 | false=>exact hb pins s1 σ H1 Q I1 q1
end
def SqL(K:Frag)(H:Hp)(a:Addr)(xs:List V):Prop:=
 Rd H a (.lst xs) \/
  ∃ (o:Obj) (its:Array Value) (n:Nat),K.lookup a=some o/\o.cls=.type "list"/\o.dict=none/\o.data=.seq its n/\its.size<=sizeLine/\bG xs its.toList
def SqT(K:Frag)(H:Hp)(a:Addr)(xs:List V):Prop:=
 Rd H a (.tup xs) \/
  ∃ (o:Obj) (its:Array Value) (n:Nat),K.lookup a=some o/\(o.cls=.type "tuple"/\o.dict=none)/\o.data=.seq its n/\its.size<=sizeLine/\bG xs its.toList
noncomputable def aSN:Value->Option V
 | .none=>some .non
 | .bool b=>some (.bl b)
 | .int i _=>some (.int i)
 | .str x _=>some (.str x)
 | .bytes b _=>some (.byt b)
 | .float b _=>some (.flt b)
 | .ref a=>some (.ref a)
 | .type n=>some (.ty n)
 | _=>none
theorem bC.abs{x:V}{u:Value}(r:bC x u):aSN u=some x:=by
 cases x with
 | non=>cases r;rfl
 | bl _=>cases r;rfl
 | int _=>obtain ⟨t,rfl⟩:=r;rfl
 | str _=>obtain ⟨t,rfl⟩:=r;rfl
 | byt _=>obtain ⟨t,rfl⟩:=r;rfl
 | flt _=>obtain ⟨t,rfl⟩:=r;rfl
 | ref _=>cases r;rfl
 | ty _=>cases r;rfl
theorem bC.inj{x y:V}{u:Value}(r:bC x u)(q:bC y u):x=y:=BW (r.abs.symm.trans q.abs)
theorem bG.inj:∀ {xs ys:List V} {us:List Value},bG xs us->bG ys us->xs=ys
 | _,_,_,.nil,.nil=>rfl
 | _,_,_,.cons r t,.cons r' t'=>by rw[r.inj r',bG.inj t t']
section
variable{X:Cx}{pins:List (Addr×Obj)}{σ:St}{H:Hp}{s:Shared}{a:Addr}{xs ys:List V}
theorem SqL.of{K:Frag}(h:H a=some (.lst xs)):SqL K H a xs:=.inl (.inl h)
theorem SqT.of{K:Frag}(h:H a=some (.tup xs)):SqT K H a xs:=.inl (.inl h)
theorem Inv.list(I:Inv X pins σ H s)(h:SqL X.K H a xs):∃ its:List Value,bG xs its/\PlainL s.heap a its.toArray/\xs.length<=sizeLine:=by
 rcases h with h|⟨o,its,n,hk,hc,hd,hs,hz,r⟩
 ·obtain ⟨z,its,n,r,e⟩:=h.ok I.hok
  exact ⟨its,r,⟨_,n,e,rfl,rfl,rfl⟩,z⟩
 ·refine ⟨its.toList,r,⟨o,n,I.kIn a o hk,hc,hd,by simpa using hs⟩,?_⟩
  have e:=r.length
  simp only[DB] at e
  omega
theorem Inv.tuple(I:Inv X pins σ H s)(h:SqT X.K H a xs):∃ its:List Value,bG xs its/\IsTup s.heap a its.toArray/\xs.length<=sizeLine:=by
 rcases h with h|⟨o,its,n,hk,hc,hs,hz,r⟩
 ·obtain ⟨z,its,r,p⟩:=h.ok I.hok
  exact ⟨its,r,p.t,z⟩
 ·refine ⟨its.toList,r,⟨o,I.kIn a o hk,hc.1,n,by simpa using hs⟩,?_⟩
  have e:=r.length
  simp only[DB] at e
  omega
theorem Inv.list_inj(I:Inv X pins σ H s)(h:SqL X.K H a xs)(h':SqL X.K H a ys):xs=ys:=by
 obtain ⟨its,r,⟨o,n,e,_,_,d⟩,_⟩:=I.list h
 obtain ⟨its',r',⟨o',n',e',_,_,d'⟩,_⟩:=I.list h'
 rw[e] at e';cases e'
 rw[d] at d'
 injection d' with d1 _
 have:its=its':=by simpa using congrArg Array.toList d1
 subst this
 exact r.inj r'
theorem Inv.tuple_inj(I:Inv X pins σ H s)(h:SqT X.K H a xs)(h':SqT X.K H a ys):xs=ys:=by
 obtain ⟨its,r,⟨o,e,_,n,d⟩,_⟩:=I.tuple h
 obtain ⟨its',r',⟨o',e',_,n',d'⟩,_⟩:=I.tuple h'
 rw[e] at e';cases e'
 rw[d] at d'
 injection d' with d1 _
 have:its=its':=by simpa using congrArg Array.toList d1
 subst this
 exact r.inj r'
end
abbrev Cx.wish(X:Cx)(E:Value->Shared->Prop):Cx:={X with xe:=E}
abbrev Cx.nox(X:Cx):Cx:=X.wish fun _ _=>False
theorem Cx.Ok.wish{X:Cx}(ok:X.Ok)(E:Value->Shared->Prop):(X.wish E).Ok:=
 ⟨ok.mod,ok.kind,ok.glob,ok.blt,ok.above,ok.inj,ok.has,ok.cab,ok.hd,ok.frames,ok.stk,ok.exf,ok.bs,ok.bsz,ok.noex,ok.exfs,ok.funs,ok.frf⟩
theorem Cx.Ok.unwish{X:Cx}{E:Value->Shared->Prop}(ok:(X.wish E).Ok):X.Ok:=
 ⟨ok.mod,ok.kind,ok.glob,ok.blt,ok.above,ok.inj,ok.has,ok.cab,ok.hd,ok.frames,ok.stk,ok.exf,ok.bs,ok.bsz,ok.noex,ok.exfs,ok.funs,ok.frf⟩
section
variable{X:Cx}{pins:List (Addr×Obj)}{σ:St}{H:Hp}{s:Shared}{E:Value->Shared->Prop}
theorem Inv.wish(I:Inv X pins σ H s)(E:Value->Shared->Prop):Inv (X.wish E) pins σ H s:=⟨I.ok.wish E,I.os,I.bare,I.base,I.loc,I.cell,I.free,I.freeC,I.pin,I.hok,I.len⟩
theorem Inv.unwish(I:Inv (X.wish E) pins σ H s):Inv X pins σ H s:=⟨I.ok.unwish,I.os,I.bare,I.base,I.loc,I.cell,I.free,I.freeC,I.pin,I.hok,I.len⟩
theorem SP.unwish{D:iS}{f:Flow}{s':Shared}(h:SP (X.wish E) pins D f s'):SP X pins D f s':=by
 cases f with
 | next=>obtain ⟨σ',H',I,q⟩:=h;exact ⟨σ',H',I.unwish,q⟩
 | brk=>obtain ⟨σ',H',I,q⟩:=h;exact ⟨σ',H',I.unwish,q⟩
 | cont=>obtain ⟨σ',H',I,q⟩:=h;exact ⟨σ',H',I.unwish,q⟩
 | ret u=>obtain ⟨v,σ',H',I,r,q⟩:=h;exact ⟨v,σ',H',I.unwish,r,q⟩
theorem PE.nox{e:Expr}{t:TE}(h:PE X.nox e t):PE X e t:=fun pins s σ H Q I hw=>
 BP (h pins s σ H Q (I.wish _) hw) (fun _ _ ⟨v,H',I',r,q⟩=>⟨v,H',I'.unwish,r,q⟩) fun _ _ z=>False.elim z
theorem PT.nox{e:Expr}{t:TT}(h:PT X.nox e t):PT X e t:=fun pins s σ H Q I hw=>
 BP (h pins s σ H Q (I.wish _) hw) (fun _ _ ⟨H',I',q⟩=>⟨H',I'.unwish,q⟩) fun _ _ z=>False.elim z
theorem PSs.nox{st:List Stmt}{t:TS}(h:PSs X.nox st t):PSs X st t:=fun pins s σ H D I hw=>
 BP (h pins s σ H D (I.wish _) hw) (fun _ _ q=>q.unwish) fun _ _ z=>False.elim z
end
section
variable{X:Cx}{st:Stmt}{rest:List Stmt}{t u:TS}{e:Expr}{te:TE}{pos:Pos}
def aRA:TS:=fun D σ H=>D.nx σ H
def aSO(t u:TS):TS:=fun D σ H=>t {D with nx:=u D} σ H
theorem cT:PSs X [] aRA:=fun _ _ σ H _ I h=>DT ⟨σ,H,I,h⟩
theorem aD(h1:PS X st t)(h2:PSs X rest u):PSs X (st::rest) (aSO t u):=by
 intro pins s σ H D I h
 refine F6 (thn (h1 pins s σ H {D with nx:=u D} I h) fun f s1 q=>?_)
 cases f with
 | next=>
  obtain ⟨σ',H',I',q⟩:=q
  exact h2 pins s1 σ' H' D I' q
 | ret v=>exact q
 | brk=>exact q
 | cont=>exact q
theorem aO(h1:PS X st t):PSs X [st] t:=by
 intro pins s σ H D I h
 refine F6 (thn (h1 pins s σ H D I h) fun f s1 q=>?_)
 cases f with
 | next=>exact DT q
 | ret v=>exact q
 | brk=>exact q
 | cont=>exact q
theorem Inv.quiet{pins:List (Addr×Obj)}{σ:St}{H:Hp}{s:Shared}(I:Inv X pins σ H s):interactive X.env=false:=by simp[interactive,I.ok.kind]
def uZ(te:TE):TS:=fun D σ H=>te σ H fun _ H1=>D.nx σ H1
theorem eF(he:PE X e te)(hs:swapsWith e none pos.line X.env=pure false:=by rfl):PS X (.Expr e pos) (uZ te):=by
 intro pins s σ H D I h
 exact wpAny_Expr_any (thn (he pins s σ H _ I h) fun v s1 ⟨x,H1,I1,r1,q1⟩=>⟨σ,H1,I1,q1⟩) I.quiet hs
def aSP(te:TE):TS:=fun D σ H=>te σ H D.rt
theorem bH(he:PE X e te):PS X (.Return (some e) pos) (aSP te):=by
 intro pins s σ H D I h
 exact wpAny_Return_some (thn (he pins s σ H _ I h) fun v s1 ⟨x,H1,I1,r1,q1⟩=>⟨x,σ,H1,I1,r1,q1⟩)
def aSQ(c:TT)(t u:TS):TS:=fun D σ H=>c σ H fun b H1=>if b=true then t D σ H1 else u D σ H1
theorem dR{c:Expr}{a b:List Stmt}{tc:TT}(hc:PT X c tc)(ha:PSs X a t)(hb:PSs X b u):PS X (.If c a b pos) (aSQ tc t u):=by
 intro pins s σ H D I h
 refine wpAny_If (thn (hc pins s σ H _ I h) fun d s1 zz0=>?_)
 obtain ⟨H1,I1,q1⟩:=zz0
 cases d with
 | true=>exact ha pins s1 σ H1 D I1 q1
 | false=>exact hb pins s1 σ H1 D I1 q1
end
abbrev TG:=V->St->Hp->(St->Hp->Prop)->Prop
abbrev TGs:=List V->St->Hp->(St->Hp->Prop)->Prop
def PG(X:Cx)(target:Expr)(t:TG):Prop:=
 ∀ (pins:List (Addr×Obj)) (s:Shared) (σ:St) (H:Hp) (v:V) (u:Value) (Q:St->Hp->Prop),Inv X pins σ H s->bC v u->t v σ H Q->
  wpAny (model X.prog X.w) X.A (assign target X.env u) (fun _ s'=>∃ σ' H',Inv X pins σ' H' s'/\Q σ' H') X.xe s
def PGs(X:Cx)(ts:List Expr)(t:TGs):Prop:=
 ∀ (pins:List (Addr×Obj)) (s:Shared) (σ:St) (H:Hp) (vs:List V) (us:List Value) (Q:St->Hp->Prop),Inv X pins σ H s->bG vs us->t vs σ H Q->
  wpAny (model X.prog X.w) X.A (assignInOrder ((assignEach ts X.env).map (·.2)) us) (fun _ s'=>∃ σ' H',Inv X pins σ' H' s'/\Q σ' H') X.xe s
abbrev aD6:=V->V->V->Hp->(Hp->Prop)->Prop
def aOB(X:Cx)(t:aD6):Prop:=
 ∀ (pins:List (Addr×Obj)) (s:Shared) (σ:St) (H:Hp) (o i v:V) (ov iv u:Value) (Q:Hp->Prop),Inv X pins σ H s->bC o ov->bC i iv->bC v u->t o i v H Q->
  wpAny (model X.prog X.w) X.A (setItem ov iv u) (fun _ s'=>∃ H',Inv X pins σ H' s'/\Q H') X.xe s
section
variable{X:Cx}{pos:Pos}
def kR(i:Nat):TG:=fun v σ H Q=>Q (σ.set i (some v)) H
theorem bK{i:Nat}{x:Str}(hN:X.N.Nodup)(hi:X.N[i]? = some x)(hx:Loc X.env.scope x)(hf:X.fn x=true\/X.env.scope.names.lookup x=some .local:=by first|exact .inl rfl|exact .inr rfl):PG X (.Name x pos) (kR i):=by
 intro pins s σ H v u Q I r h
 exact wpAny_assign_Name (m9 I hN hi hx r (fun s' I'=>⟨_,H,I',h⟩) hf)
def aH2:TGs:=fun vs σ H Q=>vs=[]/\Q σ H
def aJ7(t:TG)(u:TGs):TGs:=fun vs σ H Q=>∃ v r,vs=v::r/\t v σ H fun σ' H'=>u r σ' H' Q
theorem jE:PGs X [] aH2:=by
 intro pins s σ H vs us Q I r h
 obtain ⟨e,h⟩:=h
 subst e
 cases r
 exact assignInOrder_nil ⟨σ,H,I,h⟩
theorem cZ{e:Expr}{es:List Expr}{t:TG}{u:TGs}(h1:PG X e t)(h2:PGs X es u)
  (hs:(assignEach (e::es) X.env).map (·.2)=assign e X.env::(assignEach es X.env).map (·.2):=by rfl):PGs X (e::es) (aJ7 t u):=by
 intro pins s σ H vs us Q I r h
 obtain ⟨v,vr,e1,h⟩:=h
 subst e1
 cases r with
 | cons r rr=>
  rw[hs]
  refine assignInOrder_cons (thn (h1 pins s σ H _ _ _ I r h) fun _ s1 zz0=>?_)
  obtain ⟨σ1,H1,I1,q1⟩:=zz0
  exact h2 pins s1 σ1 H1 _ _ Q I1 rr q1
def aOC(K:Frag)(n:Nat)(t:TGs):TG:=fun v σ H Q=>∃ a xs,v=.ref a/\SqT K H a xs/\xs.length=n/\t xs σ H Q
theorem kS{es:List Expr}{k:Nat}{t:TGs}{n:Nat}(hc:X.calm=true)(h:PGs X es t)
  (hn:(assignEach es X.env).length=n:=by rfl) (hst:(assignEach es X.env).findIdx? (·.1)=none:=by rfl):PG X (.Tuple es k pos) (aOC X.K n t):=by
 intro pins s σ H v u Q I r hw
 obtain ⟨a,xs,e1,hq,hl,hw⟩:=hw
 subst e1
 cases r
 obtain ⟨its,rv,ht,hz⟩:=I.tuple hq
 refine assign_Tuple_tuple (I.ok.hd hc) ht (by simp[hn,<-hl,rv.length]) hst fun h' hx=>?_
 have I1:Inv X pins σ H {s with heap:=h'}:=I.kept (t':=s.toks) fun b o e=>hx b o (BL (AM e)) e
 exact h pins _ σ H xs _ Q I1 (by simpa using rv) hw
def aOD(to ti:TE)(t:aD6):TG:=fun v σ H Q=>to σ H fun o H1=>ti σ H1 fun i H2=>t o i v H2 fun H3=>Q σ H3
theorem oV{o i:Expr}{to ti:TE}{t:aD6}(ho:PE X o to)(hi:PE X i ti)(hs:aOB X t)
  (ha:∀ v,assign (.Subscript o i pos) X.env v=(do
   let ov <-holding [v] (eval o X.env)
   let iv <-holding [v,ov] (eval i X.env)
   standAt pos
   holding [v,ov,iv] (setItem ov iv v)
   release [v,ov,iv] []):=by intro _;rfl):PG X (.Subscript o i pos) (aOD to ti t):=by
 intro pins s σ H v u Q I r h
 rw[ha]
 refine AA (C9 (thn (ho pins s σ H _ I h) fun ov s1 zz0=>?_))
 obtain ⟨x,H1,I1,r1,q1⟩:=zz0
 refine AA (C9 (thn (hi pins s1 σ H1 _ I1 q1) fun iv s2 zz0=>?_))
 obtain ⟨y,H2,I2,r2,q2⟩:=zz0
 refine AA (DL (AA (C9 (thn (hs pins s2 σ H2 x y v ov iv u _ I2 r1 r2 r q2) fun _ s3 zz0=>?_))))
 obtain ⟨H3,I3,q3⟩:=zz0
 exact wpAny_release ⟨σ,H3,I3,q3⟩
def l9(te:TE)(g:TG):TS:=fun D σ H=>te σ H fun x H1=>g x σ H1 D.nx
theorem g9{tg e:Expr}{te:TE}{g:TG}(he:PE X e te)(hg:PG X tg g)(hs:swapsWithSole [tg] e pos.line X.env=pure false:=by rfl)(hw:swappedStores [tg] e X.env=pure none:=by rfl)
  (h1:(assignEach [tg] X.env).map (·.2)=[assign tg X.env]:=by rfl):PS X (.Assign [tg] e pos) (l9 te g):=by
 intro pins s σ H D I h
 refine wpAny_Assign_stores (thn (he pins s σ H _ I h) fun v s1 zz0=>?_) hs hw
 obtain ⟨x,H1,I1,r1,q1⟩:=zz0
 rw[h1]
 exact thn (hg pins s1 σ H1 x v _ I1 r1 q1) fun _ s2 q=>q
theorem aJ{i:Nat}{x:Str}{e:Expr}{te:TE}{pos':Pos}(hN:X.N.Nodup)(hi:X.N[i]? = some x)(hx:Loc X.env.scope x)(he:PE X e te)(hs:swapsWith e (some (.Name x pos')) pos.line X.env=pure false:=by rfl)(hf:X.fn x=true\/X.env.scope.names.lookup x=some .local:=by exact .inl rfl) :
  PS X (.Assign [.Name x pos'] e pos) (l9 te (kR i)):=by
 intro pins s σ H D I h
 refine wpAny_Assign_Name (thn (he pins s σ H _ I h) fun v s1 zz0=>?_) hs
 obtain ⟨y,H1,I1,r1,q1⟩:=zz0
 exact m9 I1 hN hi hx r1 (fun s2 I2=>⟨_,H1,I2,q1⟩) hf
end
section
variable{X:Cx}{pos:Pos}
def aFR(c:TT)(tb:TS):TS:=fun D σ H=>∃ W:Nat->St->Hp->Prop,(∃ m,W m σ H)/\∀ m σ H,W m σ H->
 c σ H fun b H1=>if b=true then ∃ N:St->Hp->Prop,(∀ σ' H',N σ' H'->∃ m',m' < m/\W m' σ' H')/\tb {D with nx:=N,ct:=N,bk:=D.nx} σ H1 else D.nx σ H1
theorem dI{c:Expr}{body:List Stmt}{tc:TT}{tb:TS}(hp:PassesOwn (model X.prog X.w) X.A X.env X.xe)(hc:PT X c tc)(hb:PSs X body tb):PS X (.While c body [] pos) (aFR tc tb):=by
 intro pins s σ H D I h
 obtain ⟨W,⟨m0,w0⟩,turn⟩:=h
 refine wpAny_While (codeAny_whileLoop (fun n s'=>∃ σ' H',Inv X pins σ' H' s'/\W n σ' H') ?_ m0 ⟨σ,H,I,w0⟩)
 rintro n s1 ⟨σ1,H1,I1,w1⟩
 refine DI hp (thn (hc pins s1 σ1 H1 _ I1 (turn n σ1 H1 w1)) fun b s2 zz0=>?_)
 obtain ⟨H2,I2,q2⟩:=zz0
 cases b with
 | true=>
  obtain ⟨N,hN,q2⟩:=q2
  rw[AG rfl]
  refine DI hp (thn (hb pins s2 σ1 H2 _ I2 q2) fun f s3 q3=>?_)
  cases f with
  | next=>
   obtain ⟨σ3,H3,I3,n3⟩:=q3
   obtain ⟨m',hm,w3⟩:=hN σ3 H3 n3
   exact ⟨m',hm,σ3,H3,I3,w3⟩
  | cont=>
   obtain ⟨σ3,H3,I3,n3⟩:=q3
   obtain ⟨m',hm,w3⟩:=hN σ3 H3 n3
   exact ⟨m',hm,σ3,H3,I3,w3⟩
  | brk=>exact q3
  | ret v=>exact q3
 | false=>
  rw[AH B6]
  exact DT ⟨σ1,H2,I2,q2⟩
end
structure It where
 go:Nat->Hp->Prop
 yld:Nat->Hp->V->Hp->Prop
 stop:Nat->Hp->Prop
def jT(X:Cx)(pins:List (Addr×Obj))(H:Hp)(b:Addr):Prop:=
 H b=none/\b≠X.env.locals/\b∉X.fs/\(b∈X.ex\/X.s₀.heap.objs.size<=b)/\(∀ x c,X.env.cells.lookup x=some c->c≠b)/\∀ p∈X.pn++pins,p.1≠b
theorem Inv.fpOk{X:Cx}{pins:List (Addr×Obj)}{σ:St}{H H':Hp}{s:Shared}{b:Addr}(I:Inv X pins σ H s)(hb:s.heap.objs.size<=b)(hn:H' b=none):jT X pins H' b:=by
 refine ⟨hn,DD (AT I.lt hb),I.nofs hb,.inr (BI I.sz hb),fun x c e z=>?_,fun p hp z=>?_⟩
 ·obtain ⟨v,q⟩:=I.cell x c e
  exact absurd (AT q.lt (by rw[z];exact hb)) (BM _)
 ·exact absurd (AT (AM (I.pin p hp).1) (by rw[z];exact hb)) (BM _)
structure Turn(P:Program)(w:World)(K:Frag)(tg:Expr)(J:It)(fp:List Addr)(it:Addr)(tn:Nat->Heap->Prop):Prop where
 mem:it∈fp
 obj:∀ i h,tn i h->∀ b∈fp,∃ o,h.get? b=some o/\∀ v,o.data≠.cell v
 keep:∀ i h h',tn i h->(∀ b∈fp,∀ o,h.get? b=some o->h'.get? b=some o)->tn i h'
 item:∀ (X:Cx),X.prog=P->X.w=w->X.K=K->X.calm=true->∀ (i:Nat) (pins:List (Addr×Obj)) (s:Shared) (σ:St) (H:Hp) (E:Value->Shared->Prop),Inv X pins σ H s->(∀ b∈fp,jT X pins H b)->tn i s.heap->J.go i H->
  wpAny (model P w) X.A (pyNext (.ref it)) (fun r s1=>∃ u,r=some u /\
   wpAny (model P w) X.A (letOwnedTupleGo tg (.ref it) u) (fun _ s2=>∃ x H',Inv X pins σ H' s2/\bC x u/\J.yld i H x H'/\tn (i+1) s2.heap/\∀ b∈fp,H' b=none) E s1) E s
 done:∀ (X:Cx),X.prog=P->X.w=w->X.K=K->X.calm=true->∀ (i:Nat) (pins:List (Addr×Obj)) (s:Shared) (σ:St) (H:Hp) (E:Value->Shared->Prop),Inv X pins σ H s->(∀ b∈fp,jT X pins H b)->tn i s.heap->J.stop i H->
  wpAny (model P w) X.A (pyNext (.ref it)) (fun r s1=>r=none/\Inv X pins σ H s1) E s
 self:∀ (A:Around) (i:Nat) (s:Shared) (Q:Value->Shared->Prop) (E:Value->Shared->Prop),tn i s.heap->Q (.ref it) s->wpAny (model P w) A (pyIter (.ref it)) Q E s
abbrev TI:=St->Hp->(It->Hp->Prop)->Prop
def PIE(X:Cx)(pins:List (Addr×Obj))(σ:St)(tg:Expr)(R:It->Hp->Prop)(itv:Value)(s2:Shared):Prop:=
 ∃ (it:Addr) (fp:List Addr) (tn:Nat->Heap->Prop) (J:It) (H':Hp),itv=.ref it/\Inv X pins σ H' s2/\Turn X.prog X.w X.K tg J fp it tn/\tn 0 s2.heap/\(∀ b∈fp,jT X pins H' b)/\R J H'
def PI(X:Cx)(tg iter:Expr)(wi:TI):Prop:=
 ∀ (pins:List (Addr×Obj)) (s:Shared) (σ:St) (H:Hp) (R:It->Hp->Prop),Inv X pins σ H s->wi σ H R->
  wpAny (model X.prog X.w) X.A (eval iter X.env) (fun v s1=>wpAny (model X.prog X.w) X.A (pyIter v) (PIE X pins σ tg R) X.xe s1) X.xe s
theorem zK {M : Model} {A : Around} {E : Value -> Shared -> Prop} {s : Shared} {tg : Expr} {it : Addr} {u : Value} {o : Obj} {n : String} {vs : Array Value} {Q : Unit -> Shared -> Prop} (ho : s.heap.get? it = some o) (hc : o.cls = .type n) (hd : o.data = .fields vs)
    (hn : ["enumerate", "zip", "dict_itemiterator", "dict_reverseitemiterator", "odict_iterator", "itertools.zip_longest", "itertools.pairwise"].contains n = false) (hQ : Q () s) : wpAny M A (letOwnedTupleGo tg (.ref it) u) Q E s := by
  unfold letOwnedTupleGo
  cases tg <;> first
    | exact AD hQ
    | (cases u <;> first
        | exact AD hQ
        | (refine AA (wpAny_load ho ?_)
           rw [hc, hd]
           show wpAny M A (if (["enumerate", "zip", "dict_itemiterator", "dict_reverseitemiterator", "odict_iterator", "itertools.zip_longest", "itertools.pairwise"].contains n && vs[0]? == some (rawInt _)) = true then _ else _) Q E s
           rw [AH (by intro h; rw [hn, Bool.false_and] at h; cases h)]
           exact AD hQ))
def Itl(K:Frag)(a:Addr):It:=
 ⟨fun i H=>∃ xs x,SqL K H a xs/\xs[i]? = some x,fun i H x H'=>H'=H/\∀ xs,SqL K H a xs->xs[i]? = some x,fun i H=>∃ xs,SqL K H a xs/\xs.length<=i⟩
def Itt(K:Frag)(a:Addr):It:=
 ⟨fun i H=>∃ xs x,SqT K H a xs/\xs[i]? = some x,fun i H x H'=>H'=H/\∀ xs,SqT K H a xs->xs[i]? = some x,fun i H=>∃ xs,SqT K H a xs/\xs.length<=i⟩
noncomputable def Itr(lo:Int)(n:Nat):It:=⟨fun i _=>i < n,fun i H x H'=>H'=H/\x=.int (lo+i),fun i _=>n<=i⟩
theorem aFS{P:Program}{w:World}{K:Frag}{tg:Expr}(a it:Addr):Turn P w K tg (Itl K a) [it] it (fun i h=>h.IsListIter it a i) where
 mem:=by simp
 obj:=fun i h st b hb=>by
  have e:b=it:=by simpa using hb
  subst e
  obtain ⟨o,e,c,d⟩:=st
  exact ⟨o,e,fun v z=>by rw[d] at z;cases z⟩
 keep:=fun i h h' st k=>st.at fun o e=>k it (by simp) o e
 item:=by
  intro X hP hw hK hc i pins s σ H E I hf st hg
  subst hP hw hK
  obtain ⟨xs,x,hq,hx⟩:=hg
  obtain ⟨its,rv,p,hz⟩:=I.list hq
  obtain ⟨u,hu,ru⟩:=rv.get hx
  obtain ⟨f0,f1,f2,f3,f4,f5⟩:=hf it (by simp)
  refine wpAny_pyNext_list_item st p.isList (x:=u) (by simpa using hu) fun h' st' sb=>?_
  have I1:Inv X pins σ H {s with heap:=h'}:=I.turned (t':=s.toks) (fun b o hb e=>(sb.2 b hb).trans e) f0 f1 f3 f4 f5
  obtain ⟨o,e,c,d⟩:=id st'
  exact ⟨u,rfl,zK (s:={s with heap:=h'}) e c d (by decide) ⟨x,H,I1,ru,⟨rfl,fun ys hy=>by rw[I.list_inj hy hq];exact hx⟩,st',fun b hb=>(hf b hb).1⟩⟩
 done:=by
  intro X hP hw hK hc i pins s σ H E I hf st hg
  subst hP hw hK
  obtain ⟨xs,hq,hx⟩:=hg
  obtain ⟨its,rv,p,hz⟩:=I.list hq
  obtain ⟨f0,f1,f2,f3,f4,f5⟩:=hf it (by simp)
  have hl:=rv.length
  exact wpAny_pyNext_list_end (I.ok.hd hc) st p.isList (by simp;omega) fun h' eb=>⟨rfl,I.turned (t':=s.toks) (fun b o hb e=>eb b o hb e) f0 f1 f3 f4 f5⟩
 self:=fun _ _ _ _ _ st h=>wpAny_pyIter_listiter st h
theorem aD7{P:Program}{w:World}{K:Frag}{tg:Expr}(a it:Addr):Turn P w K tg (Itt K a) [it] it (fun i h=>h.IsTupleIter it a i) where
 mem:=by simp
 obj:=fun i h st b hb=>by
  have e:b=it:=by simpa using hb
  subst e
  obtain ⟨o,e,c,d⟩:=st
  exact ⟨o,e,fun v z=>by rw[d] at z;cases z⟩
 keep:=fun i h h' st k=>st.at fun o e=>k it (by simp) o e
 item:=by
  intro X hP hw hK hc i pins s σ H E I hf st hg
  subst hP hw hK
  obtain ⟨xs,x,hq,hx⟩:=hg
  obtain ⟨its,rv,p,hz⟩:=I.tuple hq
  obtain ⟨u,hu,ru⟩:=rv.get hx
  obtain ⟨f0,f1,f2,f3,f4,f5⟩:=hf it (by simp)
  refine wpAny_pyNext_tuple_item st (show s.heap.IsTuple a its.toArray from p) (x:=u) (by simpa using hu) fun h' st' sb=>?_
  have I1:Inv X pins σ H {s with heap:=h'}:=I.turned (t':=s.toks) (fun b o hb e=>(sb.2 b hb).trans e) f0 f1 f3 f4 f5
  obtain ⟨o,e,c,d⟩:=id st'
  exact ⟨u,rfl,zK (s:={s with heap:=h'}) e c d (by decide) ⟨x,H,I1,ru,⟨rfl,fun ys hy=>by rw[I.tuple_inj hy hq];exact hx⟩,st',fun b hb=>(hf b hb).1⟩⟩
 done:=by
  intro X hP hw hK hc i pins s σ H E I hf st hg
  subst hP hw hK
  obtain ⟨xs,hq,hx⟩:=hg
  obtain ⟨its,rv,p,hz⟩:=I.tuple hq
  obtain ⟨f0,f1,f2,f3,f4,f5⟩:=hf it (by simp)
  have hl:=rv.length
  exact wpAny_pyNext_tuple_end (I.ok.hd hc) st (show s.heap.IsTuple a its.toArray from p) (by simp;omega) fun h' eb=>⟨rfl,I.turned (t':=s.toks) (fun b o hb e=>eb b o hb e) f0 f1 f3 f4 f5⟩
 self:=fun _ _ _ _ _ st h=>wpAny_pyIter_tupleiter st h
theorem aD8{P:Program}{w:World}{K:Frag}{tg:Expr}(it:Addr)(lo:Int)(n:Nat):Turn P w K tg (Itr lo n) [it] it (fun i h=>IsRangeIter h it (lo+(i:Nat) * 1) ((n:Int) - (i:Nat)) 1) where
 mem:=by simp
 obj:=fun i h st b hb=>by
  have e:b=it:=by simpa using hb
  subst e
  exact ⟨_,st,fun v z=>by
   have z':Data.fields _=Data.cell v:=z
   cases z'⟩
 keep:=fun i h h' st k=>k it (by simp) _ st
 item:=by
  intro X hP hw hK hc i pins s σ H E I hf st hg
  subst hP hw hK
  obtain ⟨f0,f1,f2,f3,f4,f5⟩:=hf it (by simp)
  have W:=Walks.range (prog:=X.prog) (w:=X.w) (I.ok.hd hc) it lo 1 n
  refine W.item i s _ _ hg st fun v h' tk hv st' kk=>?_
  obtain ⟨t,rfl⟩:=hv
  have I1:Inv X pins σ H {s with heap:=h',toks:=tk}:=I.turned (fun b o hb e=>kk b o (by simpa using hb) e) f0 f1 f3 f4 f5
  refine ⟨_,rfl,zK (s:={s with heap:=h',toks:=tk}) (n:="range_iterator") st' rfl rfl (by decide) ⟨.int (lo+i),H,I1,⟨t,?_⟩,⟨rfl,rfl⟩,st',fun b hb=>(hf b hb).1⟩⟩
  rw[Int.mul_one]
 done:=by
  intro X hP hw hK hc i pins s σ H E I hf st hg
  subst hP hw hK
  obtain ⟨f0,f1,f2,f3,f4,f5⟩:=hf it (by simp)
  exact wpAny_pyNext_range_end (I.ok.hd hc) st (by have:n<=i:=hg;omega) fun h' eb=>⟨rfl,I.turned (t':=s.toks) (fun b o hb e=>eb b o hb e) f0 f1 f3 f4 f5⟩
 self:=fun _ _ _ _ _ st h=>wpAny_pyIter_rangeiter st h
section
variable{X:Cx}{tg:Expr}
theorem aH3{pins:List (Addr×Obj)}{σ:St}{H:Hp}{s:Shared}{R:It->Hp->Prop}{E:Value->Shared->Prop}{lo hi:Int}{t u v:Tok}{tk:Nat}(I:Inv X pins σ H s)(h1 : -(2 ^ 62)<=lo)(h2:lo < 2 ^ 62)(h3 : -(2 ^ 62)<=hi)(h4:hi < 2 ^ 62)
  (q:R (Itr lo (hi - lo).toNat) H):wpAny (model X.prog X.w) X.A (pyIter (.ref s.heap.objs.size)) (PIE X pins σ tg R) E {s with heap:=s.heap.push {cls:=.type "range",data:=.fields #[.int lo t,.int hi u,.int 1 v]},toks:=tk}:=by
 refine wpAny_pyIter_range (IsRange.new ..) (small_one h1 h2 h3 h4) ?_
 have I1:Inv X pins σ H {s with heap:=s.heap.push {cls:=.type "range",data:=.fields #[.int lo t,.int hi u,.int 1 v]},toks:=tk}:=I.kept fun b o e=>AC _ e
 refine ⟨(s.heap.push {cls:=.type "range",data:=.fields #[.int lo t,.int hi u,.int 1 v]}).objs.size,[(s.heap.push {cls:=.type "range",data:=.fields #[.int lo t,.int hi u,.int 1 v]}).objs.size],_,_,H,rfl,
  I1.kept (t':=tk) fun b o e=>AC _ e,aD8 _ lo (hi - lo).toNat,?_,fun b hb=>?_,q⟩
 ·have e1:lo+((0:Nat):Int) * 1=lo:=by simp
  have e2:(((hi - lo).toNat:Nat):Int) - ((0:Nat):Int)=Builtin.Range.rangeSize lo hi 1:=by rw[rangeSize_one];split<;>omega
  show IsRangeIter _ _ (lo+((0:Nat):Int) * 1) ((((hi - lo).toNat:Nat):Int) - ((0:Nat):Int)) 1
  rw[e1,e2]
  exact AX _ rfl
 ·have e:b=(s.heap.push {cls:=.type "range",data:=.fields #[.int lo t,.int hi u,.int 1 v]}).objs.size:=by simpa using hb
  subst e
  exact I1.fpOk (AK _) (I1.hok.fresh (AK _))
def aJ8(ta:TA):TI:=fun σ H R=>ta σ H fun vs H1=>∃ j:Int,vs=[.int j] /\ -(2 ^ 62)<=j/\j < 2 ^ 62/\R (Itr 0 j.toNat) H1
theorem gG{a:Expr}{ta:TA}{p pos:Pos}(hg:Gl X "range")(hm:X.mg "range"=none)(ha:PA X [a] ta)(hs:starEach [a] X.env=[(false,eval a X.env)]:=by rfl):PI X tg (.Call (.Name "range" p) [a] [] pos) (aJ8 ta):=by
 intro pins s σ H R I h
 refine Call_ (oS I hg hm boot_range (DE (thn (ha pos pins s σ H _ I h) fun us s1 zz0=>?_) hs rfl))
 obtain ⟨vs,H1,I1,r1,q1⟩:=zz0
 obtain ⟨j,e,q1,q2,q⟩:=q1
 subst e
 cases r1 with
 | cons r rr=>
  cases rr
  obtain ⟨t,rfl⟩:=r
  exact call_range_1 (aH3 I1 (by omega) (by omega) q1 q2 (by simpa using q))
def aOE(wi:TI)(g:TG)(tb:TS):TS:=fun D σ H=>wi σ H fun J H1=>∃ W:Nat->Nat->St->Hp->Prop,(∃ m,W 0 m σ H1)/\∀ i m σ H,W i m σ H->
 (J.stop i H/\D.nx σ H)\/(J.go i H/\∃ N:St->Hp->Prop,(∀ σ' H',N σ' H'->∃ m',m' < m/\W (i+1) m' σ' H')/\∀ x H',J.yld i H x H'->g x σ H' fun σ2 H2=>tb {D with nx:=N,ct:=N,bk:=D.nx} σ2 H2)
noncomputable def qS(fp:List Addr)(h:Heap):List (Addr×Obj):=fp.filterMap fun b=>(h.get? b).map fun o=>(b,o)
theorem mK{fp:List Addr}{h:Heap}{b:Addr}{o:Obj}(hb:b∈fp)(e:h.get? b=some o):(b,o)∈qS fp h:=DF.mpr ⟨b,hb,by rw[e];rfl⟩
theorem aFT{fp:List Addr}{h:Heap}{p:Addr×Obj}(hp:p∈qS fp h):p.1∈fp/\h.get? p.1=some p.2:=by
 obtain ⟨b,hb,e⟩:=DF.mp hp
 cases q:h.get? b with
 | none=>rw[q] at e;cases e
 | some o=>
  rw[q] at e
  have e':(b,o)=p:=BW e
  subst e'
  exact ⟨hb,q⟩
theorem Inv.pinned{pins:List (Addr×Obj)}{σ:St}{H:Hp}{s:Shared}{fp:List Addr}(I:Inv X pins σ H s)(hf:∀ b∈fp,jT X pins H b)(ho:∀ b∈fp,∃ o,s.heap.get? b=some o/\∀ v,o.data≠.cell v):Inv X (pins++qS fp s.heap) σ H s:=
 I.pins_of fun p hp=>(BJ.mp hp).elim (fun z=>I.pin p (BX _ z)) fun z=>by
  obtain ⟨hb,e⟩:=aFT z
  obtain ⟨f0,f1,f2,_⟩:=hf p.1 hb
  obtain ⟨o,e',d⟩:=ho p.1 hb
  rw[e] at e';cases e'
  exact ⟨e,f0,f1,f2,d⟩
theorem Inv.unpinned{pins pl:List (Addr×Obj)}{σ:St}{H:Hp}{s:Shared}(I:Inv X (pins++pl) σ H s):Inv X pins σ H s:=I.pins_of fun p hp=>I.pin p (BX _ (C0 _ hp))
theorem dJ{iter:Expr}{body:List Stmt}{wi:TI}{g:TG}{tb:TS}{pos:Pos}(hp:PassesOwn (model X.prog X.w) X.A X.env X.xe)(hc:X.calm=true)(hi:PI X tg iter wi)(hg:PG X tg g)(hb:PSs X body tb)
  (hs:∀ x,foldedSetIterable iter X.env x=pure x:=by intro _;rfl):PS X (.For tg iter body [] pos) (aOE wi g tb):=by
 intro pins s σ H D I h
 refine wpAny_For (thn (hi pins s σ H _ I h) fun v s1 h1=>thn h1 fun itv s2 h2=>?_) hs
 obtain ⟨it,fp,tn,J,H2,e,I2,T,st2,f2,W,⟨m0,w0⟩,turn⟩:=h2
 subst e
 have stat:∀ {H':Hp},(∀ b∈fp,H' b=none)->∀ b∈fp,jT X pins H' b:=fun hn b hb=>⟨hn b hb,(f2 b hb).2⟩
 refine codeAny_forLoop_any (fun n s'=>∃ i σ' H',Inv X pins σ' H' s'/\tn i s'.heap/\(∀ b∈fp,H' b=none)/\W i n σ' H') ?_ m0 ⟨0,σ,H2,I2,st2,fun b hb=>(f2 b hb).1,w0⟩
 rintro n s3 ⟨i,σ3,H3,I3,st3,fr3,w3⟩
 rcases turn i n σ3 H3 w3 with ⟨stop,qn⟩|⟨go,N,hN,step⟩
 ·refine DI hp (thn (T.done X rfl rfl rfl hc i pins s3 σ3 H3 X.xe I3 (stat fr3) st3 stop) fun r s4 zz0=>?_)
  obtain ⟨hr,I4⟩:=zz0
  subst hr
  exact DT ⟨σ3,H3,I4,qn⟩
 ·refine DI hp (thn (T.item X rfl rfl rfl hc i pins s3 σ3 H3 X.xe I3 (stat fr3) st3 go) fun r s4 zz0=>?_)
  obtain ⟨u,hr,h4⟩:=zz0
  subst hr
  refine DI hp (thn h4 fun _ s5 zz0=>?_)
  obtain ⟨x,H5,I5,r5,y5,st5,fr5⟩:=zz0
  have I5':=I5.pinned (stat fr5) (T.obj _ _ st5)
  refine DI hp (thn (hg _ s5 σ3 H5 x u _ I5' r5 (step x H5 y5)) fun _ s6 zz0=>?_)
  obtain ⟨σ6,H6,I6,q6⟩:=zz0
  refine DI hp (thn (hb _ s6 σ6 H6 _ I6 q6) fun f s7 q7=>?_)
  have again:∀ {σ7:St} {H7:Hp},Inv X (pins++qS fp s5.heap) σ7 H7 s7->N σ7 H7->∃ m,m < n/\∃ i σ' H',Inv X pins σ' H' s7/\tn i s7.heap/\(∀ b∈fp,H' b=none)/\W i m σ' H':=fun {σ7 H7} I7 n7=>by
   obtain ⟨m',hm,w7⟩:=hN σ7 H7 n7
   refine ⟨m',hm,i+1,σ7,H7,I7.unpinned,T.keep _ _ _ st5 fun b hb o e=>(I7.pin (b,o) (BX _ (BX _ (mK hb e)))).1,fun b hb=>?_,w7⟩
   obtain ⟨o,e,d⟩:=T.obj _ _ st5 b hb
   exact (I7.pin (b,o) (BX _ (BX _ (mK hb e)))).2.1
  cases f with
  | next=>obtain ⟨σ7,H7,I7,n7⟩:=q7;exact again I7 n7
  | cont=>obtain ⟨σ7,H7,I7,n7⟩:=q7;exact again I7 n7
  | brk=>obtain ⟨σ7,H7,I7,q7⟩:=q7;exact ⟨σ7,H7,I7.unpinned,q7⟩
  | ret v=>obtain ⟨x7,σ7,H7,I7,r7,q7⟩:=q7;exact ⟨x7,σ7,H7,I7.unpinned,r7,q7⟩
end
abbrev R2:=V->V->Hp->VK->Prop
def OpR(X:Cx)(f:Value->Value->Sem Value)(r:R2):Prop:=
 ∀ (pins:List (Addr×Obj)) (s:Shared) (σ:St) (H:Hp) (x y:V) (v u:Value) (Q:VK),Inv X pins σ H s->bC x v->bC y u->r x y H Q->
  wpAny (model X.prog X.w) X.A (f v u) (EP X pins σ Q) X.xe s
def UnR(X:Cx)(f:Value->Sem Value)(r:V->Hp->VK->Prop):Prop:=
 ∀ (pins:List (Addr×Obj)) (s:Shared) (σ:St) (H:Hp) (x:V) (v:Value) (Q:VK),Inv X pins σ H s->bC x v->r x H Q->
  wpAny (model X.prog X.w) X.A (f v) (EP X pins σ Q) X.xe s
def mL(X:Cx)(f:Value)(r:List V->Hp->VK->Prop):Prop:=
 ∀ (pins:List (Addr×Obj)) (s:Shared) (σ:St) (H:Hp) (xs:List V) (us:List Value) (Q:VK),Inv X pins σ H s->bG xs us->r xs H Q->
  wpAny (model X.prog X.w) X.A (call f us) (EP X pins σ Q) X.xe s
def tOp(r:R2)(ta tb:TE):TE:=fun σ H Q=>ta σ H fun x H1=>tb σ H1 fun y H2=>r x y H2 Q
def tUn(r:V->Hp->VK->Prop)(ta:TE):TE:=fun σ H Q=>ta σ H fun x H1=>r x H1 Q
def rI(C:Int->Int->Prop)(g:Int->Int->V):R2:=fun x y H Q=>∃ i j,x=.int i/\y=.int j/\C i j/\Q (g i j) H
def rI0(g:Int->Int->V):R2:=fun x y H Q=>∃ i j,x=.int i/\y=.int j/\Q (g i j) H
def rU(g:Int->V):V->Hp->VK->Prop:=fun x H Q=>∃ i,x=.int i/\Q (g i) H
section
variable{X:Cx}{a b c:Expr}{ta tb tc:TE}{pos:Pos}
theorem aH4(ha:PE X a ta)(hb:PE X b tb){pins:List (Addr×Obj)}{s:Shared}{σ:St}{H:Hp}{R:V->V->Hp->Prop}(I:Inv X pins σ H s)
  (h:ta σ H fun x H1=>tb σ H1 fun y H2=>R x y H2) {Q:Value->Shared->Prop} {f:Value->Value->Sem Value}
  (hf:∀ v u s2 x y H2,Inv X pins σ H2 s2->bC x v->bC y u->R x y H2->wpAny (model X.prog X.w) X.A (f v u) Q X.xe s2) :
  wpAny (model X.prog X.w) X.A (eval a X.env) (fun v s₁=>wpAny (model X.prog X.w) X.A (eval b X.env) (fun u s₂=>wpAny (model X.prog X.w) X.A (f v u) Q X.xe s₂) X.xe s₁) X.xe s:=by
 refine thn (ha pins s σ H _ I h) fun v s1 zz0=>?_
 obtain ⟨x,H1,I1,r1,q1⟩:=zz0
 refine thn (hb pins s1 σ H1 _ I1 q1) fun u s2 zz0=>?_
 obtain ⟨y,H2,I2,r2,q2⟩:=zz0
 exact hf v u s2 x y H2 I2 r1 r2 q2
theorem aJ9{op:Operator}{r:R2}(ho:OpR X (binaryOp op) r)(ha:PE X a ta)(hb:PE X b tb):PE X (.BinOp a op b pos) (tOp r ta tb):=by
 intro pins s σ H Q I h
 exact wpAny_BinOp (aH4 ha hb I h fun v u s2 x y H2 I2 rx ry q=>ho pins s2 σ H2 x y v u Q I2 rx ry q)
theorem aRB{op:UnaryOp}{r:V->Hp->VK->Prop}(ho:UnR X (unaryOp op) r)(ha:PE X a ta):PE X (.UnaryOp op a pos) (tUn r ta):=by
 intro pins s σ H Q I h
 exact UnaryOp_ (thn (ha pins s σ H _ I h) fun v s1 ⟨x,H1,I1,r1,q1⟩=>ho pins s1 σ H1 x v Q I1 r1 q1)
theorem opI{f:Value->Value->Sem Value}{C:Int->Int->Prop}{g:Int->Int->Int}
  (rule:∀ (i j:Int) (t u:Tok) (s:Shared) (Q:Value->Shared->Prop) (E:Value->Shared->Prop),C i j->Q (.int (g i j) s.toks) {s with toks:=s.toks+1}->wpAny (model X.prog X.w) X.A (f (.int i t) (.int j u)) Q E s) :
  OpR X f (rI C fun i j=>.int (g i j)):=by
 intro pins s σ H x y v u Q I rx ry h
 obtain ⟨i,j,rfl,rfl,hc,q⟩:=h
 obtain ⟨t,rfl⟩:=rx
 obtain ⟨t',rfl⟩:=ry
 exact rule i j t t' s _ _ hc ⟨.int (g i j),H,I.tok _,⟨_,rfl⟩,q⟩
theorem aOF{f:Value->Value->Sem Value}{g:Int->Int->Int}
  (rule:∀ (i j:Int) (t u:Tok) (s:Shared) (Q:Value->Shared->Prop) (E:Value->Shared->Prop),Q (.int (g i j) s.toks) {s with toks:=s.toks+1}->wpAny (model X.prog X.w) X.A (f (.int i t) (.int j u)) Q E s) :
  OpR X f (rI0 fun i j=>.int (g i j)):=by
 intro pins s σ H x y v u Q I rx ry h
 obtain ⟨i,j,rfl,rfl,q⟩:=h
 obtain ⟨t,rfl⟩:=rx
 obtain ⟨t',rfl⟩:=ry
 exact rule i j t t' s _ _ ⟨.int (g i j),H,I.tok _,⟨_,rfl⟩,q⟩
theorem aD9{f:Value->Value->Sem Value}{g:Int->Int->Bool}
  (rule:∀ (i j:Int) (t u:Tok) (s:Shared) (Q:Value->Shared->Prop) (E:Value->Shared->Prop),Q (.bool (g i j)) s->wpAny (model X.prog X.w) X.A (f (.int i t) (.int j u)) Q E s) :
  OpR X f (rI0 fun i j=>.bl (g i j)):=by
 intro pins s σ H x y v u Q I rx ry h
 obtain ⟨i,j,rfl,rfl,q⟩:=h
 obtain ⟨t,rfl⟩:=rx
 obtain ⟨t',rfl⟩:=ry
 exact rule i j t t' s _ _ ⟨.bl (g i j),H,I,rfl,q⟩
def aH5(i j:Int):Prop:=(-(2 ^ 64) < i/\i < 2 ^ 64)\/(-(2 ^ 64) < j/\j < 2 ^ 64)
theorem aH5.ok{i j:Int}(h:aH5 i j):IntMulOk i j:=by
 rcases h with ⟨h1,h2⟩|⟨h1,h2⟩
 · exact .of_left (intBits_le_64 h1 h2)
 · exact .of_right (intBits_le_64 h1 h2)
theorem aOG:OpR X (binaryOp .Add) (rI0 fun i j=>.int (i+j)):=aOF fun _ _ _ _ _ _ _ q=>add_int q
theorem aOH:OpR X (binaryOp .Sub) (rI0 fun i j=>.int (i - j)):=aOF fun _ _ _ _ _ _ _ q=>sub_int q
theorem aOI:OpR X (binaryOp .Mult) (rI aH5 fun i j=>.int (i * j)):=opI fun _ _ _ _ _ _ _ hc q=>mul_int q hc.ok
theorem aOJ:OpR X (binaryOp .Mod) (rI (fun _ j=>0 < j) fun i j=>.int (i % j)):=opI fun i j _ _ _ _ _ hc q=>by
 have h1:(0:Int) < j:=hc
 exact mod_int' (by omega) (by rw[Int.fmod_eq_emod_of_nonneg i (by omega)];exact q)
theorem unI{f:Value->Sem Value}{g:Int->Int}
  (rule:∀ (i:Int) (t:Tok) (s:Shared) (Q:Value->Shared->Prop) (E:Value->Shared->Prop),Q (.int (g i) s.toks) {s with toks:=s.toks+1}->wpAny (model X.prog X.w) X.A (f (.int i t)) Q E s) :
  UnR X f (rU fun i=>.int (g i)):=by
 intro pins s σ H x v Q I rx h
 obtain ⟨i,rfl,q⟩:=h
 obtain ⟨t,rfl⟩:=rx
 exact rule i t s _ _ ⟨.int (g i),H,I.tok _,⟨_,rfl⟩,q⟩
theorem aOK:UnR X (unaryOp .USub) (rU fun i=>.int (-i)):=unI fun _ _ _ _ _ q=>neg_int q
end
section
variable{X:Cx}{a b c:Expr}{ta tb tc:TE}{pos:Pos}
theorem u0{pins:List (Addr×Obj)}{σ:St}{H:Hp}{s:Shared}{Q:VK}{k k':Bool}(I:Inv X pins σ H s)(q:Q (.bl k) H)(e:k=k'):EP X pins σ Q (.bool k') s:=by
 subst e
 exact ⟨.bl k,H,I,rfl,q⟩
theorem aRC:OpR X (compareOp .Lt) (rI0 fun i j=>.bl (decide (i < j))):=aD9 fun _ _ _ _ _ _ _ q=>lt_int q
theorem aRD:OpR X (compareOp .LtE) (rI0 fun i j=>.bl (decide (i<=j))):=aD9 fun _ _ _ _ _ _ _ q=>le_int q
theorem aRE:OpR X (compareOp .Gt) (rI0 fun i j=>.bl (decide (j < i))):=aD9 fun _ _ _ _ _ _ _ q=>gt_int q
theorem aRF:OpR X (compareOp .GtE) (rI0 fun i j=>.bl (decide (j<=i))):=aD9 fun _ _ _ _ _ _ _ q=>ge_int q
theorem aFU:OpR X (compareOp .In) (fun x y H Q=>∃ i j,x=.str i/\y=.str j/\Q (.bl (!(Builtin.Str.occurrences j i 0 j.length 1).isEmpty)) H):=by
 intro pins s σ H x y v u Q I rx ry h
 obtain ⟨i,j,rfl,rfl,q⟩:=h
 obtain ⟨t,rfl⟩:=rx
 obtain ⟨t',rfl⟩:=ry
 exact in_str (u0 I q rfl)
theorem aOL:OpR X (compareOp .Is) (fun x y H Q=>y=.non/\Q (.bl (decide (x=.non))) H):=by
 intro pins s σ H x y v u Q I rx ry h
 obtain ⟨rfl,q⟩:=h
 cases ry
 refine is_none_gen (u0 I q ?_)
 cases x<;>first
  | (cases rx;rfl)
  | (obtain ⟨t,rfl⟩:=rx;rfl)
theorem aK5:OpR X (compareOp .IsNot) (fun x y H Q=>y=.non/\Q (.bl (!decide (x=.non))) H):=by
 intro pins s σ H x y v u Q I rx ry h
 obtain ⟨rfl,q⟩:=h
 cases ry
 refine isnot_none_gen (u0 I q ?_)
 cases x<;>first
  | (cases rx;rfl)
  | (obtain ⟨t,rfl⟩:=rx;rfl)
theorem zT:OpR X (compareOp .NotIn) (fun x y H Q=>∃ i j,x=.str i/\y=.str j/\Q (.bl (!(!(Builtin.Str.occurrences j i 0 j.length 1).isEmpty))) H):=by
 intro pins s σ H x y v u Q I rx ry h
 obtain ⟨i,j,rfl,rfl,q⟩:=h
 obtain ⟨t,rfl⟩:=rx
 obtain ⟨t',rfl⟩:=ry
 exact notIn_str (u0 I q rfl)
theorem cC(b:Expr){op:CmpOp}(h:op≠.In:=by decide)(h2:op≠.NotIn:=by decide):behindInMarks op b=false:=by
 have e1:(op == CmpOp.In)=false:=by cases op<;>first|rfl|exact absurd rfl h
 have e2:(op == CmpOp.NotIn)=false:=by cases op<;>first|rfl|exact absurd rfl h2
 cases b<;>simp[behindInMarks,e1,e2]
theorem aK6{op:CmpOp}{r:R2}(ho:OpR X (compareOp op) r)(ha:PE X a ta)(hb:PE X b tb)(hm:behindInMarks op b=false):PE X (.Compare a [op] [b] pos) (tOp r ta tb):=by
 intro pins s σ H Q I h
 exact wpAny_Compare1 (aH4 ha hb I h fun v u s2 x y H2 I2 rx ry q=>ho pins s2 σ H2 x y v u Q I2 rx ry q) hm
def aKA(t:TE):TT:=fun σ H Q=>t σ H fun x H'=>∃ k,x=.bl k/\Q k H'
theorem lG{op:CmpOp}{r:R2}(ho:OpR X (compareOp op) r)(ha:PE X a ta)(hb:PE X b tb)(hm:behindInMarks op b=false):PT X (.Compare a [op] [b] pos) (aKA (tOp r ta tb)):=by
 intro pins s σ H Q I h
 refine wpAny_isTrue_Compare1 (thn (ha pins s σ H _ I h) fun v s1 ⟨x,H1,I1,r1,q1⟩=>thn (hb pins s1 σ H1 _ I1 q1) fun u s2 ⟨y,H2,I2,r2,q2⟩=>
  thn (ho pins s2 σ H2 x y v u _ I2 r1 r2 q2) fun c s3 ⟨z,H3,I3,r3,k,e,q3⟩=>?_) hm
 subst e
 cases r3
 exact FR ⟨H3,I3,q3⟩
theorem u7:(sizeLine:Nat) < 2 ^ 63:=by rw[GO];decide
theorem aEA:OpR X (binaryOp .Add) (fun x y H Q=>∃ i j,x=.str i/\y=.str j/\i.length+j.length<=sizeLine/\Q (.str (i++j)) H):=by
 intro pins s σ H x y v u Q I rx ry h
 obtain ⟨i,j,rfl,rfl,hz,q⟩:=h
 obtain ⟨t,rfl⟩:=rx
 obtain ⟨t',rfl⟩:=ry
 exact add_str (fun t' tk=>⟨.str (i++j),H,I.tok _,⟨_,rfl⟩,q⟩) hz
theorem u8{x:V}{us:List Value}(r:bG [x] us):∃ u,us=[u]/\bC x u:=by
 cases r with
 | cons r1 r2=>cases r2;exact ⟨_,rfl,r1⟩
theorem aEB{x y:V}{us:List Value}(r:bG [x,y] us):∃ u w',us=[u,w']/\bC x u/\bC y w':=by
 cases r with
 | cons r1 r2=>
  cases r2 with
  | cons r3 r4=>cases r4;exact ⟨_,_,rfl,r1,r3⟩
theorem kH:mL X (.type "int") (fun xs H Q=>(∃ i,xs=[.int i]/\Q (.int i) H)\/∃ k,xs=[.bl k]/\Q (.int (if k then 1 else 0)) H):=by
 intro pins s σ H xs us Q I r h
 rcases h with ⟨i,rfl,q⟩|⟨k,rfl,q⟩
 ·obtain ⟨u,rfl,t,rfl⟩:=u8 r
  exact call_int_int ⟨.int i,H,I,⟨_,rfl⟩,q⟩
 ·obtain ⟨u,rfl,r1⟩:=u8 r
  cases r1
  exact call_int_bool ⟨.int (if k then 1 else 0),H,I.tok _,⟨_,rfl⟩,q⟩
def aOM(K:Frag)(x:V)(H:Hp)(n:Nat):Prop:=
 match x with
 | .str y=>y.length<=sizeLine/\n=y.length
 | .byt y=>y.size<=sizeLine/\n=y.size
 | .ref p=>(∃ xs,SqL K H p xs/\n=xs.length)\/∃ xs,SqT K H p xs/\n=xs.length
 | _=>False
theorem cG:mL X (.builtin "len") (fun xs H Q=>∃ x n,xs=[x]/\aOM X.K x H n/\Q (.int n) H):=by
 intro pins s σ H xs us Q I r h
 obtain ⟨x,n,rfl,e,q⟩:=h
 obtain ⟨u,rfl,rx⟩:=u8 r
 have hl:=u7
 have hs:sizeLine=16777216:=GO
 cases x with
 | str y=>
  obtain ⟨t,rfl⟩:=rx
  obtain ⟨hy,e'⟩:y.length<=sizeLine/\n=y.length:=e
  subst e'
  exact len_str (by omega) ⟨.int _,H,I.tok _,⟨_,rfl⟩,q⟩
 | byt y=>
  obtain ⟨t,rfl⟩:=rx
  obtain ⟨hy,e'⟩:y.size<=sizeLine/\n=y.size:=e
  subst e'
  exact PySem.W.len_bytes (by omega) ⟨.int _,H,I.tok _,⟨_,rfl⟩,q⟩
 | ref p=>
  cases rx
  have e':(∃ xs,SqL X.K H p xs/\n=xs.length)\/∃ xs,SqT X.K H p xs/\n=xs.length:=e
  rcases e' with ⟨xs,hx,e'⟩|⟨xs,hx,e'⟩
  ·subst e'
   obtain ⟨its,r',pl,hz⟩:=I.list hx
   have hlen:=r'.length
   exact Calls.call_len_list pl.isList (by simp only[BF];omega) ⟨.int xs.length,H,I.tok _,⟨_,by simp only[BF];rw[hlen]⟩,q⟩
  ·subst e'
   obtain ⟨its,r',pl,hz⟩:=I.tuple hx
   have hlen:=r'.length
   exact len_tuple pl (by simp only[BF];omega) ⟨.int xs.length,H,I.tok _,⟨_,by simp only[BF];rw[hlen]⟩,q⟩
 | _=>exact (show False from e).elim
end
structure ObjM(h:Heap)(x dx C:Addr)(mA:Str->Option Value):Prop where
 obj:h.get? x=some (PySem.W.instObj C dx)
 ns:h.Ns1 dx mA
 ne:dx≠x
theorem yF{h:Heap}{dx:Addr}{mA:Str->Option Value}(n:h.Ns1 dx mA):∃ od,h.get? dx=some od/\∀ name,PySem.W.lookIn name od=some (mA name):=by
 obtain ⟨o,es,ep,ho,hd,hk,_,hm⟩:=n
 refine ⟨o,ho,fun name=>?_⟩
 have e:=hm name
 unfold nsFind findBy at e
 rw[<-Array.find?_toList] at e
 unfold PySem.W.lookIn
 rw[hd]
 dsimp only
 split
 ·rename_i y q
  rw[q] at e
  exact DM some e
 ·rename_i q
  rw[q] at e
  have a:es.toList.any (·.refKey)=false:=by
   rw[List.any_eq_false]
   intro y hy
   obtain ⟨z,t,hkey⟩:=hk y (Array.mem_toList_iff.mp hy)
   simp[DictEntry.refKey,hkey]
  have a':¬ es.toList.any (·.refKey)=true:=by rw[a];exact B6
  rw[AH a']
  exact DM some e
theorem ObjM.look{h:Heap}{x dx C:Addr}{mA:Str->Option Value}(I:ObjM h x dx C mA):∃ od,PySem.W.InstAt h x (PySem.W.instObj C dx) C (some od)/\∀ name,PySem.W.lookIn name od=some (mA name):=
 let ⟨od,ho,hl⟩:=yF I.ns
 ⟨od,⟨I.obj,rfl,rfl,ho⟩,hl⟩
section
variable{prog:Program}{w:World}{A:Around}{E:Value->Shared->Prop}{s:Shared}{K:Frag}{x dx C f:Addr}{mA:Str->Option Value}{name:Str}{v:Value}
end
theorem l8.some_of{v:V}{o:Option Value}(r:l8 (some v) o):∃ u,o=some u/\bC v u:=by
 cases o with
 | none=>exact (show False from r).elim
 | some u=>exact ⟨u,rfl,r⟩
section
variable{P:Program}{w:World}{H H':Hp}{h h':Heap}{a C dx:Addr}{fs fs':List (Str×V)}
theorem aK7(hok:HOk P w H h)(e:H a=some (.ins C dx fs)):∃ mA,ObjM h a dx C mA/\(∀ f,l8 (fs.lookup f) (mA f))/\PySem.Within mA (fs.map (·.1))/\fs.length<=1000/\H dx=some (.own a):=by
 obtain ⟨d,z,ne,ob,mA,n,r,q⟩:=(show cO P w H h a (.ins C dx fs) from hok a _ e)
 exact ⟨mA,⟨ob,n,ne⟩,r,q,z,d⟩
end
structure Cls(K:Frag)(C:Addr):Prop where
 pg:PySem.W.plainGet K C Str.empty=true
 hd:PySem.W.hasDictIn K C=true
 po:PySem.W.plainOver K C=true
 sa:PySem.W.findIn K (.ref C) "__setattr__"=some (some (.builtin "object.__setattr__"))
theorem Cls.get{K:Frag}{C:Addr}(c:Cls K C)(f:Str):PySem.W.plainGet K C f=true:=c.pg
structure Con(K:Frag)(C:Addr)(f:Str)(v:V)(u:Value):Prop where
 at_:PySem.W.findIn K (.ref C) f=some (some u)
 rel:bC v u
 get:PySem.W.specialIn K u "__get__"=some none
 cp:PySem.W.copiedNames.contains f=false
structure Meth(K:Frag)(C:Addr)(m:Str)(f:Addr):Prop where
 at_:PySem.W.findIn K (.ref C) m=some (some (.ref f))
 fn:PySem.W.isFn K (.ref f)=true
 kp:PySem.W.keepIn K (.ref f)=true
section
variable{X:Cx}{pins:List (Addr×Obj)}{σ:St}{H:Hp}{s:Shared}{a C dx:Addr}{fs:List (Str×V)}{f:Str}{v:V}{A:Around}{E:Value->Shared->Prop}
end
section
variable{X:Cx}{pins:List (Addr×Obj)}{σ:St}{H:Hp}{s:Shared}{A:Around}{E:Value->Shared->Prop}{Q:Value->Shared->Prop}{c:Value}{b:Bool}
inductive TyOf(K:Frag)(H:Hp):V->Value->Prop where
 | non:TyOf K H .non (.type "NoneType")
 | bl (x:Bool):TyOf K H (.bl x) (.type "bool")
 | int (i:Int):TyOf K H (.int i) (.type "int")
 | str (x:Str):TyOf K H (.str x) (.type "str")
 | flt (x:UInt64):TyOf K H (.flt x) (.type "float")
 | lst {a:Addr} {xs:List V} (e:H a=some (.lst xs)):TyOf K H (.ref a) (.type "list")
 | frz {a:Addr} {o:Obj} {xs:List V} (e:H a=some (.frz o (.lst xs))):TyOf K H (.ref a) (.type "list")
 | tup {a:Addr} {xs:List V} (e:H a=some (.tup xs)):TyOf K H (.ref a) (.type "tuple")
 | dK {a:Addr} {kvs:List (Key×V)} (e:H a=some (.dK kvs)):TyOf K H (.ref a) (.type "dict")
 | dT {a:Addr} {kvs:List (List Key×V)} (e:H a=some (.dT kvs)):TyOf K H (.ref a) (.type "dict")
 | ins {a C dx:Addr} {fs:List (Str×V)} (e:H a=some (.ins C dx fs)) (cl:Cls K C) (ha:PySem.W.findIn K (.ref C) "__class__"=some (some (.builtin "object.__class__")))
  (hn:PySem.W.specialIn K (.builtin "object.__class__") "__get__"=some (some (.builtin "getset_descriptor.__get__"))) (htk:PySem.W.takesIn K (.builtin "object.__class__")=some true)
  (hm:PySem.W.mroIn K C (.type "object")=some true):TyOf K H (.ref a) (.ref C)
theorem aFV{x:V}{u t:Value}(I:Inv X pins σ H s)(rx:bC x u)(ty:TyOf X.K H x t)(e:PySem.W.kitOne X.K t c=some b)(h:∀ tk,Q (.bool b) {s with toks:=tk}) :
  wpAny (model X.prog X.w) A (call (.builtin "isinstance") [u,c]) Q E s:=by
 cases ty with
 | non=>cases (show u=Value.none from rx);exact B4 PySem.W.kitx_none I.kIn True.intro e (fun z=>nomatch z) h
 | bl y=>cases (show u=Value.bool y from rx);exact B4 PySem.W.kitx_bool I.kIn True.intro e (fun z=>nomatch z) h
 | int i=>obtain ⟨t,q⟩:=(show ∃ t,u=Value.int i t from rx);cases q;exact B4 PySem.W.kitx_int I.kIn True.intro e (fun z=>nomatch z) h
 | str y=>obtain ⟨t,q⟩:=(show ∃ t,u=Value.str y t from rx);cases q;exact B4 PySem.W.kitx_str I.kIn True.intro e (fun z=>nomatch z) h
 | flt y=>obtain ⟨t,q⟩:=(show ∃ t,u=Value.float y t from rx);cases q;exact B4 PySem.W.kitx_float I.kIn True.intro e (fun z=>nomatch z) h
 | @lst a xs ea=>
  cases (show u=Value.ref a from rx)
  obtain ⟨_,_,n,_,h1⟩:=(show cO X.prog X.w H s.heap a (.lst xs) from I.hok a _ ea)
  exact B4 FS I.kIn ⟨_,h1,rfl⟩ e (fun z=>nomatch z) h
 | @frz a ob xs ea=>
  cases (show u=Value.ref a from rx)
  obtain ⟨_,_,_,n,_,h1⟩:=(show cO X.prog X.w H s.heap a (.frz ob (.lst xs)) from I.hok a _ ea)
  exact B4 FS I.kIn ⟨_,h1,rfl⟩ e (fun z=>nomatch z) h
 | @tup a xs ea=>
  cases (show u=Value.ref a from rx)
  obtain ⟨_,_,_,p⟩:=(show cO X.prog X.w H s.heap a (.tup xs) from I.hok a _ ea)
  obtain ⟨o,h1,h2,_⟩:=p
  exact B4 PySem.W.kitx_tuple I.kIn ⟨o,h1,h2.1⟩ e (fun z=>nomatch z) h
 | @dK a kvs ea=>
  cases (show u=Value.ref a from rx)
  obtain ⟨_,_,vs,_,p⟩:=(show cO X.prog X.w H s.heap a (.dK kvs) from I.hok a _ ea)
  obtain ⟨o,es,ep,h1,h2,_⟩:=p
  exact B4 PySem.W.kitx_dict I.kIn ⟨o,h1,h2.1⟩ e (fun z=>nomatch z) h
 | @dT a kvs ea=>
  cases (show u=Value.ref a from rx)
  obtain ⟨_,_,xs,_,o,es,ep,h1,h2,_⟩:=(show cO X.prog X.w H s.heap a (.dT kvs) from I.hok a _ ea)
  exact B4 PySem.W.kitx_dict I.kIn ⟨o,h1,h2.1⟩ e (fun z=>nomatch z) h
 | @ins a C dx fs ea cl ha hn htk hm=>
  cases (show u=Value.ref a from rx)
  obtain ⟨mA,O,_⟩:=aK7 I.hok ea
  obtain ⟨od,J,_⟩:=O.look
  exact B4 (PySem.W.kitx_own (cl.get _) cl.hd ha hn htk hm) I.kIn J e (fun z=>nomatch z) h
end
structure Room(k:Nat)(A:Around):Prop where
 hd:A.handled=none
 dp:A.depth+3 * k+5 < recursionLimit
 un:A.units+16 * k+200 < cLine
theorem Room.mono{j k:Nat}{A:Around}(r:Room k A)(h:j<=k):Room j A:=⟨r.hd,by have:=r.dp;omega,by have:=r.un;omega⟩
theorem Room.deeper{k:Nat}{A:Around}(r:Room (k+1) A)(env:Env):Room k (A.deeper env):=
 ⟨r.hd,by have:=r.dp;show A.depth+1+3 * k+5 < _;omega,by have:=r.un;show A.units+3+16 * k+200 < _;omega⟩
theorem Room.depth{k:Nat}{A:Around}(r:Room k A):A.depth < recursionLimit:=by have:=r.dp;omega
theorem Room.units{k:Nat}{A:Around}(r:Room k A):A.units+64 < cLine:=by have:=r.un;omega
def i3:TA:=fun _ H Q=>Q [] H
def eN(ta:TE)(tr:TA):TA:=fun σ H Q=>ta σ H fun x H1=>tr σ H1 fun xs H2=>Q (x::xs) H2
section
variable{X:Cx}{e:Expr}{es:List Expr}{te:TE}{t:TA}{pos:Pos}
theorem aR:PA X [] i3:=fun _ _ _ _ H Q I h=>Calls.spliced_nil ⟨[],H,I,.nil,h⟩
theorem aH(ha:PE X e te)(hr:PA X es t)(hs:starEach (e::es) X.env=(false,eval e X.env)::starEach es X.env:=by rfl):PA X (e::es) (eN te t):=by
 intro pos pins s σ H Q I h
 rw[hs]
 show wpAny _ _ (spliced ((false,eval e X.env)::backTo pos (starEach es X.env))) _ _ s
 refine Calls.spliced_cons (thn (ha pins s σ H _ I h) fun u s1 zz0=>?_)
 obtain ⟨x,H1,I1,r1,q1⟩:=zz0
 exact thn (hr pos pins s1 σ H1 _ I1 q1) fun us s2 ⟨xs,H2,I2,r2,q2⟩=>⟨x::xs,H2,I2,.cons r1 r2,q2⟩
def aON(t:TA):TE:=fun σ H Q=>t σ H fun xs H1=>xs.length<=sizeLine/\∀ p,H1 p=none->Q (.ref p) (upd H1 p (.tup xs))
def aSR(t:TA):TE:=fun σ H Q=>t σ H fun xs H1=>xs.length<=sizeLine/\∀ p,H1 p=none->Q (.ref p) (upd H1 p (.lst xs))
theorem aFW{x1}(h:PA X es t):PE X (.Tuple es x1 pos) (aON t):=by
 intro pins s σ H Q I hq
 refine wpAny_Tuple_spliced (thn (h pos pins s σ H _ I hq) fun us s1 ⟨xs,H1,I1,r,z,q⟩=>⟨by rw[<-r.length];exact z,?_⟩)
 have hf:H1 s1.heap.objs.size=none:=I1.hok.fresh (AK _)
 refine ⟨.ref s1.heap.objs.size,upd H1 s1.heap.objs.size (.tup xs),I1.laid (t':=s1.toks) (fun b u e=>AC _ e) (AK _) ?_,rfl,q _ hf⟩
 exact ⟨z,us,r,⟨_,AX _ rfl,⟨rfl,rfl⟩,_,rfl⟩⟩
theorem aOO(h:PA X es t):PE X (.List es pos) (aSR t):=by
 intro pins s σ H Q I hq
 refine wpAny_List_spliced (thn (h pos pins s σ H _ I hq) fun us s1 ⟨xs,H1,I1,r,z,q⟩=>⟨by rw[<-r.length];exact z,?_⟩)
 have hf:H1 s1.heap.objs.size=none:=I1.hok.fresh (AK _)
 refine ⟨.ref s1.heap.objs.size,upd H1 s1.heap.objs.size (.lst xs),I1.laid (t':=s1.toks) (fun b u e=>AC _ e) (AK _) ?_,rfl,q _ hf⟩
 exact ⟨z,us,0,r,AX _ rfl⟩
end
abbrev Sp:=List V->Hp->VK->XK->Prop
abbrev CXT:=List Env->Hp->Shared->XK->Value->Shared->Prop
structure Env0(P:Program)(w:World)(K:Frag)(mg:Str->Option Value)(base:Heap)(A:Around)(outer:List Env)(s:Shared)(H:Hp):Prop where
 frames:A.frames=some outer
 mod:Mod K mg base
 bs:∀ b o,base.get? b=some o->s.heap.get? b=some o/\H b=none
 bsz:base.objs.size<=s.heap.objs.size
 funs:s.heap.FunFrames base outer
 frf:∀ b∈frs outer,H b=none
 hok:HOk P w H s.heap
 bare:AllBare s.gens
def CE(outer:List Env)(P:Program)(w:World)(H:Hp)(s:Shared)(Q:VK)(u:Value)(s':Shared):Prop:=
 ∃ v H',s'.os=s.os/\AllBare s'.gens/\Un (frs outer) [] H H' s.heap s'.heap/\HOk P w H' s'.heap/\bC v u/\Q v H'
def CR(CX:CXT)(outer:List Env)(P:Program)(w:World)(H:Hp)(s:Shared)(Q:VK)(E:XK)(r:Result)(s':Shared):Prop:=
 match r with
 | .ok (.ret u)=>CE outer P w H s Q u s'
 | .ok _=>False
 | .error e=>CX outer H s E e s'
structure FnOk(P:Program)(w:World)(K:Frag)(mg:Str->Option Value)(base:Heap)(CX:CXT)(k:Nat)(f:Addr)(fd:FuncData)(ps:List Str)(sp:Sp):Prop where
 len:∀ vs H Q E,sp vs H Q E->vs.length=ps.length
 run:∀ (A:Around) (outer:List Env) (s:Shared) (H:Hp) (args:Args) (us:List Value) (vs:List V) (Q:VK) (E:XK),Room k A->Env0 P w K mg base A outer s H->BindsTo s fd args (ps.zip us)->bG vs us->sp vs H Q E->
  codeAny (model P w) A (.call (.ref f) args) (CR CX outer P w H s Q E) s
theorem FnOk.imp{P:Program}{w:World}{K:Frag}{mg:Str->Option Value}{base:Heap}{CX:CXT}{k:Nat}{f:Addr}{fd:FuncData}{ps:List Str}{sp sp':Sp}(F:FnOk P w K mg base CX k f fd ps sp)
  (h:∀ vs H Q E,sp' vs H Q E->sp vs H Q E):FnOk P w K mg base CX k f fd ps sp':=
 ⟨fun vs H Q E q=>F.len vs H Q E (h _ _ _ _ q),fun A outer s H args us vs Q E hr he hb hv hs=>F.run A outer s H args us vs Q E hr he hb hv (h _ _ _ _ hs)⟩
section
variable{X:Cx}{pins:List (Addr×Obj)}{σ:St}{H:Hp}{s s':Shared}
theorem Inv.env0(I:Inv X pins σ H s):Env0 X.prog X.w X.K X.mg X.base X.A X.stack s H:=
 ⟨I.ok.frames,I.ok.mod,I.bs,BI I.ok.bsz I.sz,I.stack,I.stkFree,I.hok,I.bare⟩
theorem Inv.after{Q:VK}{u:Value}(I:Inv X pins σ H s)(h:CE X.stack X.prog X.w H s Q u s'):EP X pins σ Q u s':=by
 obtain ⟨v,H',os,bare,un,hok,r,q⟩:=h
 obtain ⟨hh,g,d,t,os'⟩:=s'
 obtain rfl:os'=s.os:=os
 exact ⟨v,H',I.call (h':=hh) (g':=g) (d':=d) (t':=t) (ch:=[]) un hok bare (fun b z=>absurd z (by simp)),r,q⟩
end
def sH(sp:Sp)(dvs:List V)(E:XK)(t:TA):TE:=fun σ H Q=>t σ H fun vs H1=>sp (vs++dvs) H1 Q E
def iT(K:Frag)(fd:FuncData)(ps:List Str)(ds:List Value):Prop:=
 ∀ (s:Shared) (us:List Value),K.In s.heap->(us++ds).length=ps.length->BindsTo s fd ⟨us,[]⟩ (ps.zip (us++ds))
theorem iT.all{K:Frag}{fd:FuncData}{ps:List Str}(h:∀ us:List Value,us.length=ps.length->bindArgs fd ⟨us,[]⟩=pure (ps.zip us)):iT K fd ps []:=fun s us _ hl=>by
 rw[C3] at hl ⊢
 exact .of_eq (h us hl)
def nA(CX:CXT)(X:Cx)(E:XK):Prop:=∀ (pins:List (Addr×Obj)) (σ:St) (H:Hp) (s:Shared) (e:Value) (s':Shared),Inv X pins σ H s->CX X.stack H s E e s'->X.xe e s'
section
variable{X:Cx}{CX:CXT}{k:Nat}{f C:Addr}{fd:FuncData}{ps:List Str}{sp:Sp}{dvs:List V}{ds:List Value}{E:XK}{x m:Str}{p pos apos:Pos}{e o:Expr}{es:List Expr}{ta:TE}{t:TA}
theorem aFX{pins:List (Addr×Obj)}{σ:St}{H:Hp}{s:Shared}{Q:VK}{us:List Value}{vs:List V}(F:FnOk X.prog X.w X.K X.mg X.base CX k f fd ps sp)(hr:Room k X.A)(hb:iT X.K fd ps ds)(hd:bG dvs ds)(hx:nA CX X E)
  (I:Inv X pins σ H s) (r:bG vs us) (h:sp (vs++dvs) H Q E):wpAny (model X.prog X.w) X.A (call (.ref f) us) (EP X pins σ Q) X.xe s:=by
 have r2:bG (vs++dvs) (us++ds):=r.append hd
 have hl:(us++ds).length=ps.length:=by rw[<-r2.length];exact F.len _ _ _ _ h
 refine FX (EI (F.run X.A X.stack s H ⟨us,[]⟩ (us++ds) (vs++dvs) Q E hr I.env0 (hb s us I.kIn hl) r2 h) fun r s' hq=>?_)
 cases r with
 | error e=>exact hx pins σ H s e s' I hq
 | ok fl=>
  cases fl with
  | ret u=>exact I.after hq
  | next=>exact False.elim hq
  | brk=>exact False.elim hq
  | cont=>exact False.elim hq
theorem aK8(F:FnOk X.prog X.w X.K X.mg X.base CX k f fd ps sp)(hr:Room k X.A)(hg:Gl X x)(hm:X.mg x=some (.ref f))(hk:PySem.W.keepIn X.K (.ref f)=true)(hb:iT X.K fd ps ds)(hd:bG dvs ds)(hx:nA CX X E)
  (ha:PA X (e::es) t) (hdb:(x == ("__debug__":Str))=false:=by decide) (he:starEach (e::es) X.env=(false,eval e X.env)::starEach es X.env:=by rfl) (hpl:(backTo pos (starEach es X.env)).any (·.1)=false:=by rfl) :
  PE X (.Call (.Name x p) (e::es) [] pos) (sH sp dvs E t):=by
 intro pins s σ H Q I h
 refine CV (mU I hg hm ?_ hdb)
 refine DU (h₀:=X.base) I.ok.mod.kin hk (thn (ha pos pins s σ H _ I h) fun us s1 ⟨vs,H1,I1,r,q⟩=>⟨I1.kIn,?_⟩) he hpl
 exact aFX F hr hb hd hx I1 r q
structure Mk(K:Frag)(C f:Addr):Prop where
 makes:PySem.W.makesIn K C=true
 init:PySem.W.findIn K (.ref C) "__init__"=some (some (.ref f))
 fn:PySem.W.isFn K (.ref f)=true
 kp:PySem.W.keepIn K (.ref C)=true
end
section
variable{X:Cx}{CX:CXT}{k:Nat}{f C:Addr}{fd:FuncData}{ps ks:List Str}{sp:Sp}{E:XK}{x m:Str}{p pos apos kpos:Pos}{e o:Expr}{es:List Expr}{kws:List Keyword}{te ta:TE}{t tk:TA}{nm:Option Str}
structure KBinds(K:Frag)(fd:FuncData)(ps ks:List Str)(g:List Value->List Value->List Value)(gV:List V->List V->List V):Prop where
 to:∀ (s:Shared) (us ws:List Value),K.In s.heap->(g us ws).length=ps.length->BindsTo s fd ⟨us,ks.zip ws⟩ (ps.zip (g us ws))
 rel:∀ {vs:List V} {us:List Value} {zs:List V} {ws:List Value},bG vs us->bG zs ws->bG (gV vs zs) (g us ws)
variable{g:List Value->List Value->List Value}{gV:List V->List V->List V}
end
structure FnScope(N P:List Str)(sc:Scope):Prop where
 kind:sc.kind=.function
 co:sc.isCoroutine=false
 gen:sc.isGenerator=false
 nd:N.Nodup
 pre:N.take P.length=P
 par:∀ x∈P,sc.names.lookup x=some .local\/sc.names.lookup x=some .cell
 nofree:∀ y∈sc.names,y.2≠.free
theorem yG{kindOf:Str->Option NameKind}{x:Str}:∀ {binds:List (Str×Value)} {m:Str->Option Value},(∀ v,(x,v)∉binds)->bindL kindOf binds m x=m x
 | [],_,_=>rfl
 | (n,v)::r,m,h=>by
  unfold bindL
  rw[yG fun w hw=>h w (AN _ hw)]
  split
  ·have:x≠n:=by rintro rfl;exact h v AV
   simp[this]
  ·rfl
theorem yH{kindOf:Str->Option NameKind}{x:Str}:∀ {binds:List (Str×Value)} {m:Str->Option Value},(∀ v,(x,v)∉binds)->bindC kindOf binds m x=m x
 | [],_,_=>rfl
 | (n,v)::r,m,h=>by
  unfold bindC
  rw[yH fun w hw=>h w (AN _ hw)]
  split
  ·rfl
  ·have:x≠n:=by rintro rfl;exact h v AV
   simp[this]
theorem qT{kindOf:Str->Option NameKind}{x:Str}{v:Value}:∀ {P:List Str} {vs:List Value} {i:Nat} {m:Str->Option Value},P.Nodup->P[i]? = some x->vs[i]? = some v->kindOf x=some .local->
  bindL kindOf (P.zip vs) m x=some v
 | [],_,_,_,_,h,_,_=>by simp at h
 | _::_,[],_,_,_,_,h,_=>by simp at h
 | p::P,w::vs,0,m,nd,h1,h2,hk=>by
  simp at h1 h2;subst h1;subst h2
  show bindL kindOf ((p,w)::P.zip vs) m p=_
  unfold bindL
  rw[yG fun v hv=>(CD.mp nd).1 (EY hv).1,AG hk]
  simp
 | p::P,w::vs,i+1,m,nd,h1,h2,hk=>by
  show bindL kindOf ((p,w)::P.zip vs) m x=_
  unfold bindL
  exact qT (i:=i) (CD.mp nd).2 (by simpa using h1) (by simpa using h2) hk
theorem qU{kindOf:Str->Option NameKind}{x:Str}{v:Value}:∀ {P:List Str} {vs:List Value} {i:Nat} {m:Str->Option Value},P.Nodup->P[i]? = some x->vs[i]? = some v->kindOf x≠some .local->
  bindC kindOf (P.zip vs) m x=some v
 | [],_,_,_,_,h,_,_=>by simp at h
 | _::_,[],_,_,_,_,h,_=>by simp at h
 | p::P,w::vs,0,m,nd,h1,h2,hk=>by
  simp at h1 h2;subst h1;subst h2
  show bindC kindOf ((p,w)::P.zip vs) m p=_
  unfold bindC
  rw[yH fun v hv=>(CD.mp nd).1 (EY hv).1,AH hk]
  simp
 | p::P,w::vs,i+1,m,nd,h1,h2,hk=>by
  show bindC kindOf ((p,w)::P.zip vs) m x=_
  unfold bindC
  exact qU (i:=i) (CD.mp nd).2 (by simpa using h1) (by simpa using h2) hk
noncomputable def start(N:List Str)(vs:List V):St:=vs.map some++List.replicate (N.length - vs.length) none
noncomputable def j1(CX:CXT)(P:Program)(w:World)(K:Frag)(mg:Str->Option Value)(base:Heap)(N:List Str)(qual:Str)(scope:Scope)(f:Addr)(cd:Value)(A:Around)(outer:List Env)(s:Shared)(H:Hp)(E:XK):Cx where
 prog:=P
 w:=w
 K:=K
 mg:=mg
 base:=base
 A:=A.deeper (envOfC qual scope s.heap.objs.size f cd)
 N:=N
 s₀:=s
 H₀:=H
 env:=envOfC qual scope s.heap.objs.size f cd
 outer:=outer
 stack:=envOfC qual scope s.heap.objs.size f cd::outer
 ex:=[]
 calm:=true
 fn:=fun _=>true
 pn:=[]
 xe:=fun e s'=>wpAny (model P w) (A.deeper (envOfC qual scope s.heap.objs.size f cd)) (leaving (envOfC qual scope s.heap.objs.size f cd) e) (fun _ s''=>CX outer H s E e s'') (fun e' s''=>CX outer H s E e' s'') s'
theorem nB{sc:Scope}{n:Nat}{x:Str}(h:sc.names.lookup x=some .cell):∃ c,(cellsFrom n sc.names []).lookup x=some c:=by
 have q:=GP sc.names n [] (.inl h)
 exact F7.mp q
theorem aFY{CX:CXT}{P:Program}{w:World}{K:Frag}{mg:Str->Option Value}{base:Heap}{N ps:List Str}{qual:Str}{scope:Scope}{f:Addr}{cd:Value}{A:Around}{outer:List Env}{s s1:Shared}{H:Hp}{E:XK}{us:List Value}{vs:List V}
  (S:FnScope N ps scope) (hd:A.handled=none) (e0:Env0 P w K mg base A outer s H) (hl:vs.length=ps.length) (r:bG vs us)
  (x:InCallC s s.heap.objs.size (bindL (envOfC qual scope s.heap.objs.size f cd).kindOf (ps.zip us) fun _=>none) (cellsFrom (s.heap.objs.size+1) scope.names []) (bindC (envOfC qual scope s.heap.objs.size f cd).kindOf (ps.zip us) fun _=>none) s1) :
  Inv (j1 CX P w K mg base N qual scope f cd A outer s H E) [] (start N vs) H s1:=by
 have hpl:ps.length<=N.length:=by have:=DM List.length S.pre;rw[BB] at this;omega
 obtain ⟨h1,tk,rfl,hk⟩:=x.done
 have noA:∀ b:Addr,b∉(j1 CX P w K mg base N qual scope f cd A outer s H E).ex:=fun b z=>absurd (show b∈([]:List Addr) from z) (by simp)
 refine ⟨⟨e0.mod,S.kind,rfl,rfl,AK _,fun y z c h1 h2=>?_,fun y hy=>?_,fun y c _ h=>?_,fun _=>hd,Around.frames_deeper e0.frames,.inr ⟨rfl,rfl⟩,fun b z=>absurd z (noA b),e0.bs,e0.bsz,fun b _ _=>noA b,fun b z=>absurd z (noA b),e0.funs,e0.frf⟩,
  rfl,e0.bare,Un.kept hk,⟨_,x.toInCall.ns,fun i y v h1 h2 h3=>?_⟩,fun y c h=>⟨_,x.cell y c h⟩,e0.hok.fresh (AK _),fun y c h=>?_,fun p hp=>absurd (show p∈([]:List (Addr×Obj)) from hp) (by simp),e0.hok.kept hk,?_⟩
 ·exact name_of_addr x.apart (A4 h1) (A4 h2)
 ·have hy:scope.names.lookup y=some .cell\/scope.names.lookup y=some .free:=hy
  rcases hy with hy|hy
  ·exact nB hy
  ·exact absurd rfl (S.nofree _ (A4 hy))
 ·exact CZ (x.above y c (A4 h))
 ·have hi:i < vs.length:=by
   unfold start at h2
   by_cases hi:i < vs.length
   ·exact hi
   ·rw[B5 (by simpa using hi)] at h2
    rw[EM] at h2
    split at h2<;>cases h2
  have ha:vs[i]? = some v:=by
   unfold start at h2
   rw[BQ (by simpa using hi),AJ] at h2
   cases e:vs[i]? with
   | none=>rw[e] at h2;cases h2
   | some a=>rw[e] at h2;cases h2;rfl
  obtain ⟨u,hu,rv⟩:=r.get ha
  have hp:ps[i]? = some y:=by
   rw[<-S.pre,F8 (by omega)];exact h1
  have ndP:ps.Nodup:=by rw[<-S.pre];exact S.nd.sublist (List.take_sublist _ _)
  refine ⟨u,rv,?_⟩
  rcases S.par y (AL hp) with k|k
  ·exact .inl ⟨k,qT ndP hp hu k⟩
  ·obtain ⟨c,e⟩:=nB (n:=s.heap.objs.size+1) k
   refine .inr ⟨.inl k,c,e,?_⟩
   have q:=x.cell y c e
   rw[qU ndP hp hu (by show scope.names.lookup y≠_;rw[k];decide)] at q
   exact q
 ·exact e0.hok.fresh (CZ (x.above y c (A4 h)))
 ·unfold start
  show _=N.length
  rw[A5,AB,DJ]
  omega
theorem aEC{CX:CXT}{P:Program}{w:World}{K:Frag}{mg:Str->Option Value}{base:Heap}{k:Nat}{f:Addr}{name qual:Str}{params:Arguments}{body:List Stmt}{scope:Scope}{dV kV doc pm cdv ct oc:Value}{an od:Option Addr}
  {osl:Array (Option Value)} {N ps:List Str} {sp:Sp} (lk:K.lookup f=some ⟨oc,od,.func (PySem.W.fnOf name qual params body scope dV kV doc pm an cdv ct),osl⟩) (hcd:PySem.W.codeIn K cdv qual=true) (S:FnScope N ps scope)
  (len:∀ vs H Q E,sp vs H Q E->vs.length=ps.length)
  (hbody:∀ (A:Around) (outer:List Env) (s:Shared) (H:Hp) (vs:List V) (Q:VK) (E:XK),Room k (A.deeper (envOfC qual scope s.heap.objs.size f cdv))->sp vs H Q E->
   ∃ t,PSs (j1 CX P w K mg base N qual scope f cdv A outer s H E) body t/\t {nx:=fun _ H'=>Q .non H',rt:=Q} (start N vs) H) :
  FnOk P w K mg base CX (k+1) f (PySem.W.fnOf name qual params body scope dV kV doc pm an cdv ct) ps sp:=by
 refine ⟨len,fun A outer s H args us vs Q E hr e0 hb r hsp=>?_⟩
 have hl:=len _ _ _ _ hsp
 have KX:K.In s.heap:=e0.mod.kin.keeps fun b o e=>(e0.bs b o e).1
 have lim:s.heap.NoLimit:=e0.mod.nolimit.keeps fun b o e=>(e0.bs b o e).1
 have hkind:∀ y∈ps.zip us,scope.names.lookup y.1=some .local\/(scope.names.lookup y.1=some .cell/\((cellsFrom (s.heap.objs.size+1) scope.names []).lookup y.1).isSome=true):=fun zz0 hy=>by
  obtain ⟨n,v⟩:=zz0
  rcases S.par n (EY hy).1 with q|q
  ·exact .inl q
  ·exact .inr ⟨q,GP _ _ _ (.inl q)⟩
 refine codeAny_call_function hr.depth (KX _ _ lk) rfl S.co S.gen rfl (PySem.W.codeRec_of KX hcd) (hb _ _ _ _ ?_)
 refine wpAny_newFunctionEnv_cells S.kind hkind fun env he s1 x=>?_
 subst he
 refine ⟨lim.keeps x.toInCall.keep,codeAny_func ?_⟩
 obtain ⟨t,ht,hq⟩:=hbody A outer s H vs Q E (hr.deeper _) hsp
 have I:Inv (j1 CX P w K mg base N qual scope f cdv A outer s H E) [] (start N vs) H s1:=aFY S hr.hd e0 hl r x
 refine BP (ht [] s1 (start N vs) H _ I hq) (fun fl s' hs=>?_) fun e s' hs=>hs
 have fin:∀ {σ':St} {H':Hp} {v:V} {u:Value},Inv (j1 CX P w K mg base N qual scope f cdv A outer s H E) [] σ' H' s'->bC v u->Q v H'->CE outer P w H s Q u s':=
  fun {σ' H' v u} J rv q=>⟨v,H',J.os,J.bare,J.base,J.hok,rv,q⟩
 cases fl with
 | ret u=>
  obtain ⟨v,σ',H',J,rv,q⟩:=hs
  exact fin J rv q
 | next=>
  obtain ⟨σ',H',J,q⟩:=hs
  exact fin (v:=V.non) (u:=Value.none) J rfl q
 | brk=>
  obtain ⟨_,_,_,q⟩:=hs
  exact False.elim q
 | cont=>
  obtain ⟨_,_,_,q⟩:=hs
  exact False.elim q
section
variable{X:Cx}{x:Str}{p pos:Pos}{e:Expr}{es:List Expr}{t:TA}{id T:String}{r:List V->Hp->VK->Prop}
def tCB(r:List V->Hp->VK->Prop)(t:TA):TE:=fun σ H Q=>t σ H fun vs H1=>r vs H1 Q
theorem bN(hc:mL X (.builtin id) r)(hg:Gl X x)(hm:X.mg x=none)(hv:bootBuiltins x=some (.builtin id))(ha:PA X (e::es) t)(hn:x≠"__name__":=by decide)(hdb:(x == ("__debug__":Str))=false:=by decide)
  (he:starEach (e::es) X.env=(false,eval e X.env)::starEach es X.env:=by rfl) (hpl:(backTo pos (starEach es X.env)).any (·.1)=false:=by rfl):PE X (.Call (.Name x p) (e::es) [] pos) (tCB r t):=by
 intro pins s σ H Q I h
 refine CV (oS I hg hm hv ?_ hn hdb)
 exact PyProof.Rows.callWith_builtin1 (thn (ha pos pins s σ H _ I h) fun us s1 ⟨vs,H1,I1,r1,q1⟩=>hc pins s1 σ H1 vs us Q I1 r1 q1) he hpl
theorem cM(hc:mL X (.type T) r)(hg:Gl X x)(hm:X.mg x=none)(hv:bootBuiltins x=some (.type T))(ha:PA X (e::es) t)(hn:x≠"__name__":=by decide)(hdb:(x == ("__debug__":Str))=false:=by decide)
  (he:starEach (e::es) X.env=(false,eval e X.env)::starEach es X.env:=by rfl) (hpl:(backTo pos (starEach es X.env)).any (·.1)=false:=by rfl):PE X (.Call (.Name x p) (e::es) [] pos) (tCB r t):=by
 intro pins s σ H Q I h
 refine CV (oS I hg hm hv ?_ hn hdb)
 exact DE (thn (ha pos pins s σ H _ I h) fun us s1 ⟨vs,H1,I1,r1,q1⟩=>hc pins s1 σ H1 vs us Q I1 r1 q1) he hpl
end
end L2
namespace HT
open PySem PyProof.Rows
section
open PySem.SeqAt
open PySem.AutoSeq1 (wpAny_loadPart')
open PySem.MeetsSeq PySem.MeetsSeq2 PySem.MeetsSeq3
end
section
variable{prog:Program}{w:World}{A:Around}{E:Value->Shared->Prop}{s:Shared}
theorem aK9{t b:Addr}{vs ws:List Value}{Q:Value->Shared->Prop}(ht:IsTup s.heap t vs.toArray)(hb:IsTup s.heap b ws.toArray)(hv:vs≠[])
  (h1:ws=[]->Q (.ref t) s) (h2:ws≠[]->Q (.ref s.heap.objs.size) {s with heap:=s.heap.push {cls:=.type "tuple",data:=.seq (vs++ws).toArray}})
  (hsz:vs.length+ws.length<=sizeLine):wpAny (model prog w) A (binaryOp .Add (.ref t) (.ref b)) Q E s:=by
 obtain ⟨⟨cls,dd,data,sl⟩,ho,hc,n,hd⟩:=id ht
 obtain ⟨⟨cls2,dd2,data2,sl2⟩,ho2,hc2,n2,hd2⟩:=id hb
 simp only at hc hd hc2 hd2
 subst hc hd hc2 hd2
 have e:vs.toArray++ws.toArray=(vs++ws).toArray:=by simp
 by_cases hw:ws=[]
 ·exact concat_meets ⟨_,ho,rfl⟩ ⟨_,ho2,rfl⟩ noFill_tuple_add seq_tuple_add GQ GL (F9 _ _)
   (tuple_addW1 t b vs.toArray ws.toArray n n2 dd dd2 sl sl2 (by simpa using hv) (by simp[hw])) ⟨ho,ho2,h1 hw⟩
 ·refine concat_meets ⟨_,ho,rfl⟩ ⟨_,ho2,rfl⟩ noFill_tuple_add seq_tuple_add GQ GL (F9 _ _)
   (tuple_addW2 t b vs.toArray ws.toArray n n2 dd dd2 sl sl2 (by simpa using hv) (by simpa using hw) (by rw[BF,BF];exact hsz)) ⟨ho,ho2,?_⟩
  rw[e]
  exact h2 hw
noncomputable def sIx(n d:Nat):Option Int->Nat
 | none=>d
 | some v=>if v < 0 then (v+(n:Int)).toNat else min v.toNat n
theorem aOP(n d:Nat)(hd:d<=n)(o:Option Int):sIx n d o<=n:=by
 cases o with
 | none=>exact hd
 | some v=>
  show (if v < 0 then (v+(n:Int)).toNat else min v.toNat n)<=n
  by_cases hv:v < 0
  · rw [AG hv]; omega
  · rw [AH hv]; exact Nat.min_le_right _ _
theorem aCM(v:Int)(n d:Nat):(if v < 0 then max (v+(n:Int)) 0 else min v (n:Int))=((sIx n d (some v):Nat):Int):=by
 show (if v < 0 then max (v+(n:Int)) 0 else min v (n:Int))=(((if v < 0 then (v+(n:Int)).toNat else min v.toNat n):Nat):Int)
 by_cases hv:v < 0
 · simp only [AG hv]; omega
 · simp only [AH hv]; omega
theorem aED(lo hi:Option Int)(n:Nat):Builtin.Slice.sliceAdjust lo hi 1 (n:Int)=(((sIx n 0 lo:Nat):Int),((sIx n n hi:Nat):Int)):=by
 have h1:¬ ((1:Int) < 0):=by omega
 unfold Builtin.Slice.sliceAdjust
 simp only[h1,DY]
 refine Prod.ext ?_ ?_
 ·cases lo with
  | none=>rfl
  | some v=>exact aCM v n 0
 ·cases hi with
  | none=>rfl
  | some v=>exact aCM v n n
theorem aEE(i j:Nat):Builtin.Slice.slicePlaces (i:Int) (j:Int) 1=j - i:=by
 unfold Builtin.Slice.slicePlaces
 have h1:(1:Int) > 0:=by omega
 simp only[h1,CF,Int.ediv_one]
 split<;>omega
theorem u9{v:Value}{o:Option Int}{Q:Option Int->Shared->Prop}(p:IsPart v o)(h:Q o s):wpAny (model prog w) A (Builtin.Slice.slicePartIndex v) Q E s:=by
 cases p with
 | none=>exact slicePart_none h
 | int i t=>exact slicePart_int h
theorem t6{sl:Addr}{vl vu:Value}{lo hi:Option Int}{n:Nat}{Q:Int×Int×Nat->Shared->Prop}(hs:s.heap.IsSliceOf sl vl vu .none)(pl:IsPart vl lo)(pu:IsPart vu hi)
  (h:Q (((sIx n 0 lo:Nat):Int),1,sIx n n hi - sIx n 0 lo) s):wpAny (model prog w) A (Builtin.Slice.sliceApplied (.ref sl) (pure (n:Int))) Q E s:=by
 obtain ⟨os,hos,hcs,hds⟩:=id hs
 unfold Builtin.Slice.sliceApplied Builtin.Slice.sliceFields
 refine AA (AA (BV hos hds (x:=vl) rfl (AA (BV hos hds (x:=vu) rfl (AA (BV hos hds (x:=.none) rfl (AD ?_)))))))
 refine AA (slicePart_none ?_)
 show wpAny _ _ (if ((1:Int) == 0)=true then _ else _) _ _ s
 rw[AH (by decide)]
 refine AA (u9 pl (AA (u9 pu (AA (AD ?_)))))
 show wpAny _ _ (match Builtin.Slice.sliceAdjust lo hi 1 (n:Int) with|(lo,hi)=>pure (lo,(1:Int),Builtin.Slice.slicePlaces lo hi 1)) _ _ s
 rw[aED lo hi n]
 show wpAny _ _ (pure (((sIx n 0 lo:Nat):Int),(1:Int),Builtin.Slice.slicePlaces ((sIx n 0 lo:Nat):Int) ((sIx n n hi:Nat):Int) 1)) _ _ s
 rw[aEE]
 exact AD h
theorem aH6(xs:Array Value)(i k:Nat):((List.range k).filterMap fun (m:Nat)=>xs[((i:Int)+(m:Int) * 1).toNat]?).toArray=((xs.toList.drop i).take k).toArray:=by
 have e:(fun (m:Nat)=>xs[((i:Int)+(m:Int) * 1).toNat]?)=fun m=>xs[i+m]?:=by
  funext m
  have:((i:Int)+(m:Int) * 1).toNat=i+m:=by omega
  rw[this]
 rw[e]
 have:=pick_run xs i k
 rw[List.filterMap_map] at this
 have e2:((fun x=>xs[x]?)∘fun x=>i+x)=fun m=>xs[i+m]?:=rfl
 rw[e2] at this
 rw[this]
theorem tG{t sl:Addr}{items:Array Value}{vl vu:Value}{lo hi:Option Int}{Q:Value->Shared->Prop}(ht:IsTup s.heap t items)(hs:s.heap.IsSliceOf sl vl vu .none)(pl:IsPart vl lo)(pu:IsPart vu hi)
  (hw:¬ (sIx items.size 0 lo=0/\sIx items.size items.size hi=items.size))
  (h:Q (.ref s.heap.objs.size) {s with heap:=s.heap.push {cls:=.type "tuple",data:=.seq ((items.toList.drop (sIx items.size 0 lo)).take (sIx items.size items.size hi - sIx items.size 0 lo)).toArray}})
  (hsz:items.size<=sizeLine):wpAny (model prog w) A (getItem (.ref t) (.ref sl)) Q E s:=by
 have htake:sizeOk (.seq ((items.toList.drop (sIx items.size 0 lo)).take (sIx items.size items.size hi - sIx items.size 0 lo)).toArray):=by
  show ((items.toList.drop (sIx items.size 0 lo)).take (sIx items.size items.size hi - sIx items.size 0 lo)).toArray.size<=sizeLine
  rw[BF,BB,List.length_drop,DB]
  omega
 have hj:sIx items.size items.size hi<=items.size:=aOP _ _ (AK _) hi
 obtain ⟨os,hos,hcs,hds⟩:=id hs
 have hTs:s.TypeIs (.ref sl) "slice":=⟨os,hos,hcs⟩
 unfold getItem
 try with_reducible refine C9 ?_
 first|refine AA (AD ?_)|skip
 refine AA (wpAny_sequenceKey ht.typeIs (by decide) ?_)
 refine AA (DA (name:=Str.ofString "__getitem__") ht.typeIs DS
  (EE DS ht.typeIs entry_tuple_getitem ?_ (args_tuple_getitem _ _)))
 show wpAny _ _ (Builtin.Tuple.tupleItemsOf (.ref t) >>= _) _ _ s
 refine AA (tupleItemsOf_ ht ?_)
 refine AA (wpAny_typeOf hTs ?_)
 rw[AG (by decide)]
 refine AA (t6 hs pl pu ?_)
 have hno:¬ ((((sIx items.size 0 lo:Nat):Int) == 0 && (1:Int) == 1 && (sIx items.size items.size hi - sIx items.size 0 lo) == items.size)=true):=by
  intro q
  rw[AU,AU] at q
  have q1:((sIx items.size 0 lo:Nat):Int)=0:=EJ q.1.1
  have q2:sIx items.size items.size hi - sIx items.size 0 lo=items.size:=EJ q.2
  exact hw ⟨by omega,by omega⟩
 show wpAny _ _ (if (((sIx items.size 0 lo:Nat):Int) == 0 && (1:Int) == 1 && (sIx items.size items.size hi - sIx items.size 0 lo) == items.size)=true then _ else _) _ _ s
 rw[AH hno,aH6]
 first
  | exact AA (m:=Builtin.Tuple.tupleExact _) (CN (AD ⟨_,rfl,AD h⟩) htake)
  | exact AA (m:=Builtin.Tuple.tupleExact _) (CN (AA (AD (AD ⟨_,rfl,AD h⟩))) htake)
  | exact AA (AA (m:=Builtin.Tuple.tupleExact _) (CN (AD (AD ⟨_,rfl,AD h⟩)) htake))
  | exact AA (AA (m:=Builtin.Tuple.tupleExact _) (CN (AD ⟨_,rfl,AD h⟩) htake))
end
end HT
namespace L2
open PySem PySem.Spec PyProof.Rows
abbrev TO:=St->Hp->(Option Int->Hp->Prop)->Prop
def PO(X:Cx)(e:Option Expr)(t:TO):Prop:=
 ∀ (pins:List (Addr×Obj)) (s:Shared) (σ:St) (H:Hp) (Q:Option Int->Hp->Prop),Inv X pins σ H s->t σ H Q->
  wpAny (model X.prog X.w) X.A (evalPart e X.env) (fun u s'=>∃ o H',Inv X pins σ H' s'/\IsPart u o/\Q o H') X.xe s
def aLA:TO:=fun _ H Q=>Q none H
def aRG(t:TE):TO:=fun σ H Q=>t σ H fun x H1=>∃ i,x=.int i/\Q (some i) H1
section
variable{X:Cx}{e:Expr}{te:TE}{lo hi:Option Expr}{tl th:TO}{pos p2:Pos}
theorem aLB:PO X none aLA:=by
 intro pins s σ H Q I h
 rw[evalPart_none]
 exact AD ⟨none,H,I,.none,h⟩
theorem aLC(h:PE X e te):PO X (some e) (aRG te):=by
 intro pins s σ H Q I hw
 rw[evalPart_some]
 refine thn (h pins s σ H _ I hw) fun u s1 zz0=>?_
 obtain ⟨x,H1,I1,r1,q1⟩:=zz0
 obtain ⟨i,rfl,q⟩:=q1
 obtain ⟨t,rfl⟩:=r1
 exact ⟨some i,H1,I1,.int i t,q⟩
def SlR(X:Cx)(r:V->Option Int->Option Int->Hp->VK->Prop):Prop:=
 ∀ (pins:List (Addr×Obj)) (s:Shared) (σ:St) (H:Hp) (x:V) (v vl vu:Value) (lo hi:Option Int) (sl:Addr) (Q:VK),Inv X pins σ H s->bC x v->s.heap.IsSliceOf sl vl vu .none->IsPart vl lo->IsPart vu hi->r x lo hi H Q->
  ∃ T id,typeLookup (.type T) "__getitem__"=pure (some (.builtin id))/\s.TypeIs v T/\wpAny (model X.prog X.w) X.A (getItem v (.ref sl)) (EP X pins σ Q) X.xe s
def tSl(r:V->Option Int->Option Int->Hp->VK->Prop)(te:TE)(tl th:TO):TE:=fun σ H Q=>te σ H fun x H1=>tl σ H1 fun l H2=>th σ H2 fun u H3=>r x l u H3 Q
theorem aH7{r:V->Option Int->Option Int->Hp->VK->Prop}(hr:SlR X r)(he:PE X e te)(hl:PO X lo tl)(hu:PO X hi th):PE X (.Subscript e (.Slice lo hi none p2) pos) (tSl r te tl th):=by
 intro pins s σ H Q I h
 refine Subscript_ (thn (he pins s σ H _ I h) fun v s1 zz0=>?_)
 obtain ⟨x,H1,I1,r1,q1⟩:=zz0
 refine wpAny_Slice (thn (hl pins s1 σ H1 _ I1 q1) fun vl s2 ⟨l,H2,I2,pl,q2⟩=>thn (hu pins s2 σ H2 _ I2 q2) fun vu s3 zz0=>?_)
 obtain ⟨u,H3,I3,pu,q3⟩:=zz0
 rw[evalPart_none]
 refine AD ?_
 have I4:Inv X pins σ H3 {s3 with heap:=s3.heap.push {cls:=.type "slice",data:=.fields #[vl,vu,.none]}}:=I3.kept (t':=s3.toks) fun b ob q=>AC _ q
 obtain ⟨T,id,hT,ht,hg⟩:=hr pins {s3 with heap:=s3.heap.push {cls:=.type "slice",data:=.fields #[vl,vu,.none]}} σ H3 x v vl vu l u s3.heap.objs.size Q I4 r1 (Heap.IsSliceOf.new ..) pl pu q3
 show wpAny (model X.prog X.w) X.A (subscriptTail e (.Slice lo hi none p2) v (.ref s3.heap.objs.size)) (EP X pins σ Q) X.xe {s3 with heap:=s3.heap.push {cls:=.type "slice",data:=.fields #[vl,vu,.none]}}
 exact tail_any (ops:=[.ref s3.heap.objs.size,v]) ht hT hg (by with_unfolding_all rfl)
noncomputable def qV(xs:List V)(lo hi:Option Int):List V:=(xs.drop (HT.sIx xs.length 0 lo)).take (HT.sIx xs.length xs.length hi - HT.sIx xs.length 0 lo)
theorem tS(xs:List V)(lo hi:Option Int):(qV xs lo hi).length<=xs.length:=by
 unfold qV
 rw[BB,List.length_drop]
 omega
def aSS(K:Frag):V->Option Int->Option Int->Hp->VK->Prop:=fun x lo hi H Q=>∃ a xs,x=.ref a/\SqT K H a xs /\
 ¬ (HT.sIx xs.length 0 lo=0/\HT.sIx xs.length xs.length hi=xs.length)/\∀ p,H p=none->Q (.ref p) (upd H p (.tup (qV xs lo hi)))
theorem aOQ:SlR X (aSS X.K):=by
 intro pins s σ H x v vl vu lo hi sl Q I rx hs pl pu h
 obtain ⟨a,xs,rfl,hx,hw,q⟩:=h
 cases rx
 obtain ⟨its,r,ht,hz⟩:=I.tuple hx
 have hlen:its.toArray.size=xs.length:=by rw[BF];exact r.length.symm
 refine ⟨"tuple",_,DS.lookup,ht.typeIs,?_⟩
 refine HT.tG ht hs pl pu (by rw[hlen];exact hw) ?_ (by rw[hlen];exact hz)
 rw[hlen]
 refine ⟨.ref s.heap.objs.size,_,I.laid (t':=s.toks) (o:=.tup (qV xs lo hi)) (fun b ob q=>AC _ q) (AK _) ?_,rfl,q _ (I.hok.fresh (AK _))⟩
 exact ⟨BI (tS xs lo hi) hz,_,(r.drop (HT.sIx xs.length 0 lo)).take (HT.sIx xs.length xs.length hi - HT.sIx xs.length 0 lo),lX.new _ _⟩
def aRH(K:Frag):R2:=fun x y H Q=>∃ a b xs ys,x=.ref a/\y=.ref b/\SqT K H a xs/\SqT K H b ys/\xs≠[]/\xs.length+ys.length<=sizeLine /\
 (ys=[]->Q (.ref a) H)/\(ys≠[]->∀ p,H p=none->Q (.ref p) (upd H p (.tup (xs++ys))))
theorem bG.nil_iff{xs:List V}{us:List Value}(r:bG xs us):us=[]↔xs=[]:=by
 cases r with
 | nil=>simp
 | cons _ _=>simp
theorem aLD:OpR X (binaryOp .Add) (aRH X.K):=by
 intro pins s σ H x y v u Q I rx ry h
 obtain ⟨a,b,xs,ys,rfl,rfl,ha,hb,hx,hz,q1,q2⟩:=h
 cases rx
 cases ry
 obtain ⟨its,r1,p1,_⟩:=I.tuple ha
 obtain ⟨its2,r2,p2,_⟩:=I.tuple hb
 refine HT.aK9 p1 p2 (fun z=>hx (r1.nil_iff.mp z)) (fun z=>⟨.ref a,H,I,rfl,q1 (r2.nil_iff.mp z)⟩) (fun z=>?_) (by rw[<-r1.length,<-r2.length];exact hz)
 refine ⟨.ref s.heap.objs.size,_,I.laid (t':=s.toks) (o:=.tup (xs++ys)) (fun b ob q=>AC _ q) (AK _) ?_,rfl,q2 (fun w=>z (r2.nil_iff.mpr w)) _ (I.hok.fresh (AK _))⟩
 exact ⟨by rw[A5];exact hz,_,r1.append r2,lX.new _ _⟩
end
noncomputable def ixN(n:Nat)(i:Int):Option Nat:=if 0<=i then (if i < n then some i.toNat else none) else if -(n:Int)<=i then some (i+n).toNat else none
noncomputable def atI{α:Type}(xs:List α)(i:Int):Option α:=(ixN xs.length i).bind fun j=>xs[j]?
theorem aLE{n:Nat}{i:Int}{j:Nat}(h:ixN n i=some j):seqIndex? i n=some j/\j < n /\ -(n:Int)<=i/\i < n:=by
 unfold ixN at h
 by_cases h0:0<=i
 ·rw[AG h0] at h
  by_cases h1:i < n
  ·rw[AG h1] at h
   have e:i.toNat=j:=BW h
   exact ⟨by rw[seqIndex_of h0 h1,e],by omega,by omega,h1⟩
  ·rw[AH h1] at h;cases h
 ·rw[AH h0] at h
  by_cases h1 : -(n:Int)<=i
  ·rw[AG h1] at h
   have e:(i+n).toNat=j:=BW h
   exact ⟨by rw[seqIndex_neg (by omega) h1,e],by omega,h1,by omega⟩
  ·rw[AH h1] at h;cases h
theorem wV{α:Type}{xs:List α}{i:Int}{v:α}(h:atI xs i=some v):∃ j,seqIndex? i xs.length=some j/\xs[j]? = some v/\j < xs.length /\ -(xs.length:Int)<=i/\i < xs.length:=by
 unfold atI at h
 cases e:ixN xs.length i with
 | none=>rw[e] at h;cases h
 | some j=>
  rw[e] at h
  obtain ⟨h1,h2,h3,h4⟩:=aLE e
  exact ⟨j,h1,h,h2,h3,h4⟩
theorem hJ{α:Type}{xs:List α}{j:Nat}{v:α}(h:xs[j]? = some v):atI xs (j:Int)=some v:=by
 have hj:j < xs.length:=(AE.mp h).1
 have e:ixN xs.length (j:Int)=some j:=by
  unfold ixN
  rw[AG (by omega),AG (by omega)];simp
 unfold atI;rw[e];exact h
theorem aH8{α:Type}(xs:List α)(v:α):atI (xs++[v]) (-1)=some v:=by
 have hl:(xs++[v]).length=xs.length+1:=by simp
 have e:ixN (xs++[v]).length (-1)=some xs.length:=by
  unfold ixN
  rw[hl,AH (by decide),AG (by omega)]
  congr 1
  omega
 unfold atI
 rw[e]
 show (xs++[v])[xs.length]? = some v
 simp
def aCN(b:Expr):Prop:=∀ o i,subscripted b false o i=operate [o,i] (getItem o i)
def IxR(X:Cx)(r:R2):Prop:=
 ∀ (value slice:Expr) (pins:List (Addr×Obj)) (s:Shared) (σ:St) (H:Hp) (x y:V) (v u:Value) (Q:VK),Inv X pins σ H s->bC x v->bC y u->r x y H Q->
  subscripted slice false v u=operate [v,u] (getItem v u)->wpAny (model X.prog X.w) X.A (subscriptTail value slice v u) (EP X pins σ Q) X.xe s
def MtR(X:Cx)(id:String)(r:V->List V->Hp->VK->Prop):Prop:=
 ∀ (pins:List (Addr×Obj)) (s:Shared) (σ:St) (H:Hp) (x:V) (xs:List V) (v:Value) (us:List Value) (Q:VK),Inv X pins σ H s->bC x v->bG xs us->r x xs H Q->
  wpAny (model X.prog X.w) X.A (call (.builtin id) (v::us)) (EP X pins σ Q) X.xe s
section
variable{X:Cx}{a b:Expr}{ta tb:TE}{pos:Pos}
theorem aRI{r:R2}(hr:IxR X r)(ha:PE X a ta)(hb:PE X b tb)(hs:aCN b):PE X (.Subscript a b pos) (tOp r ta tb):=by
 intro pins s σ H Q I h
 exact Subscript_ (aH4 ha hb I h fun v u s2 x y H2 I2 rx ry q=>hr a b pins s2 σ H2 x y v u Q I2 rx ry q (hs _ _))
def aST(K:Frag):R2:=fun x y H Q=>∃ p xs i v,x=.ref p/\y=.int i/\SqL K H p xs/\atI xs i=some v/\Q v H
def aSU(K:Frag):R2:=fun x y H Q=>∃ p xs i v,x=.ref p/\y=.int i/\SqT K H p xs/\atI xs i=some v/\Q v H
def aSV:R2:=fun x y H Q=>∃ z i c,x=.str z/\y=.int i/\z.length<=sizeLine/\atI z.cps.toList i=some c/\Q (.str ⟨#[c]⟩) H
theorem aLF:IxR X (aST X.K):=by
 intro value slice pins s σ H x y v u Q I rx ry h hs
 obtain ⟨p,xs,i,z,rfl,rfl,hq,he,q⟩:=h
 cases rx
 obtain ⟨t,rfl⟩:=ry
 obtain ⟨its,r,pl,hz⟩:=I.list hq
 obtain ⟨j,h1,h2,h3,h4,h5⟩:=wV he
 obtain ⟨w,ew,rw'⟩:=r.get h2
 have hl:=r.length
 have hn:=u7
 have fin:EP X pins σ Q w s:=⟨z,H,I,rw',q⟩
 by_cases h0:0<=i
 ·have hj:i.toNat=j:=by
   rw[seqIndex_of h0 h5] at h1
   exact BW h1
  exact item_listR pl.isList h0 (by omega) (by rw[hj];simpa using ew) fin hs
 ·have hj:(i+(its.toArray.size:Int)).toNat=j:=by
   rw[seqIndex_neg (by omega) h4] at h1
   rw[BF,<-hl]
   exact BW h1
  exact subscriptTail_builtinR (x:=w) pl.isList.typeIs slot_list_getitem.lookup
   (wpAny_getItem_list_neg (Q:=fun r s'=>r=w/\EP X pins σ Q r s') pl.isList (by omega) (by rw[BF]<;>omega) (by omega) (by rw[hj];simpa using ew) ⟨rfl,fin⟩) hs
theorem aOR:IxR X (aSU X.K):=by
 intro value slice pins s σ H x y v u Q I rx ry h hs
 obtain ⟨p,xs,i,z,rfl,rfl,hq,he,q⟩:=h
 cases rx
 obtain ⟨t,rfl⟩:=ry
 obtain ⟨its,r,pl,hz⟩:=I.tuple hq
 obtain ⟨j,h1,h2,h3,h4,h5⟩:=wV he
 obtain ⟨w,ew,rw'⟩:=r.get h2
 have hl:=r.length
 have hn:=u7
 have fin:EP X pins σ Q w s:=⟨z,H,I,rw',q⟩
 exact subscriptTail_builtinR (x:=w) pl.typeIs slot_tuple_getitem.lookup
  (getItem_tuple (j:=j) (Q:=fun r s'=>r=w/\EP X pins σ Q r s') pl (by omega) (by omega) (by rw[BF,<-hl];exact h1) (by simpa using ew) ⟨rfl,fin⟩) hs
theorem aOS:IxR X aSV:=by
 intro value slice pins s σ H x y v u Q I rx ry h hs
 obtain ⟨z,i,c,rfl,rfl,hz,he,q⟩:=h
 obtain ⟨t,rfl⟩:=rx
 obtain ⟨t',rfl⟩:=ry
 obtain ⟨j,h1,h2,h3,h4,h5⟩:=wV he
 have hl:z.cps.toList.length=z.length:=by simp[Str.length]
 rw[hl] at h1 h4 h5
 have hn:=u7
 exact tail_any (typeIs_str s z t) slot_str_getitem.lookup (getItem_str (c:=c) (by
  have e1:decide (i < -(2 ^ 63:Int))=false:=AZ (by omega)
  have e2:decide (i>=2 ^ 63)=false:=AZ (by omega)
  rw[e1,e2,Bool.or_false]) (by rw[h1];simpa using h2) ⟨.str ⟨#[c]⟩,H,I.tok _,⟨_,rfl⟩,q⟩) hs
theorem Inv.lst{pins:List (Addr×Obj)}{σ:St}{H:Hp}{s:Shared}{p:Addr}{xs:List V}(I:Inv X pins σ H s)(h:H p=some (.lst xs)) :
  ∃ (its:List Value) (n:Nat),bG xs its/\s.heap.get? p=some {cls:=.type "list",data:=.seq its.toArray n}/\xs.length<=sizeLine:=by
 obtain ⟨z,its,n,r,e⟩:=I.hok p _ h
 exact ⟨its,n,r,e,z⟩
theorem zU(lo hi:Option Int)(n:Nat):(sliceBounds lo hi none n).1=((HT.sIx n 0 lo:Nat):Int)/\(sliceBounds lo hi none n).2.1=((HT.sIx n n hi:Nat):Int)/\(sliceBounds lo hi none n).2.2=1:=by
 refine ⟨?_,?_,rfl⟩
 ·cases lo with
  | none=>simp[sliceBounds,HT.sIx]
  | some i=>
   simp only[sliceBounds,HT.sIx,GA,show (1:Int) > 0 by decide,CF]
   by_cases h:i < 0
   · simp only [h, CF] <;> omega
   · simp only [h, DY] <;> omega
 ·cases hi with
  | none=>simp[sliceBounds,HT.sIx]
  | some i=>
   simp only[sliceBounds,HT.sIx,GA,show (1:Int) > 0 by decide,CF]
   by_cases h:i < 0
   · simp only [h, CF] <;> omega
   · simp only [h, DY] <;> omega
theorem zE(its:List Value)(lo hi:Option Int):slicePick its.toArray lo hi none=((its.drop (HT.sIx its.length 0 lo)).take (HT.sIx its.length its.length hi - HT.sIx its.length 0 lo)).toArray:=by
 obtain ⟨h1,h2,h3⟩:=zU lo hi its.toArray.size
 unfold slicePick
 rw[h1,h2,h3]
 simp only[sliceRange_one,pick_run,BF]<;>rfl
def aSW(K:Frag):V->Option Int->Option Int->Hp->VK->Prop:=fun x lo hi H Q=>∃ a xs,x=.ref a/\SqL K H a xs/\∀ p,H p=none->Q (.ref p) (upd H p (.lst (qV xs lo hi)))
theorem aLG:SlR X (aSW X.K):=by
 intro pins s σ H x v vl vu lo hi sl Q I rx hs pl pu h
 obtain ⟨a,xs,rfl,hx,q⟩:=h
 cases rx
 obtain ⟨its,r,ht,hz⟩:=I.list hx
 have hlen:=r.length
 refine ⟨"list",_,slot_list_getitem.lookup,ht.isList.typeIs,?_⟩
 refine wpAny_getItem_list_slice ht.isList hs pl pu .none (by simp) ?_ (by rw[BF]<;>omega)
 rw[zE,<-hlen]
 refine ⟨.ref s.heap.objs.size,_,I.laid (t':=s.toks) (o:=.lst (qV xs lo hi)) (fun b ob q=>AC _ q) (AK _) ?_,rfl,q _ (I.hok.fresh (AK _))⟩
 exact ⟨BI (tS xs lo hi) hz,_,0,(r.drop (HT.sIx xs.length 0 lo)).take (HT.sIx xs.length xs.length hi - HT.sIx xs.length 0 lo),AX _ rfl⟩
theorem cH:mL X (.type "tuple") (fun xs H Q=>∃ p ys,xs=[.ref p]/\((SqL X.K H p ys/\∀ l,H l=none->Q (.ref l) (upd H l (.tup ys)))\/(SqT X.K H p ys/\Q (.ref p) H))):=by
 intro pins s σ H xs us Q I r h
 obtain ⟨p,ys,rfl,h⟩:=h
 obtain ⟨u,rfl,rx⟩:=u8 r
 cases rx
 rcases h with ⟨hq,q⟩|⟨hq,q⟩
 ·obtain ⟨its,r',pl,hz⟩:=I.list hq
  have hlen:=r'.length
  refine call_tuple_list pl.isList (fun h' kp=>?_) (by simp only[BF]<;>omega)
  have I1:Inv X pins σ H {s with heap:=h'}:=I.kept (t':=s.toks) kp
  have I2:Inv X pins σ (upd H h'.objs.size (.tup ys)) {s with heap:=h'.push {cls:=.type "tuple",data:=.seq its.toArray}}:=
   I1.laid (t':=s.toks) (fun b o e=>AC _ e) (AK _) (show cO X.prog X.w _ _ _ (.tup ys) from ⟨hz,its,r',lX.new _ _⟩)
  exact ⟨.ref h'.objs.size,_,I2,rfl,q _ (I1.hok.fresh (AK _))⟩
 ·obtain ⟨its,r',pl,hz⟩:=I.tuple hq
  exact call_tuple_same pl ⟨.ref p,H,I,rfl,q⟩
def tyV(K:Frag)(T:String)(x:V)(H:Hp):Prop:=match x with
 | .str _=>T="str"
 | .int _=>T="int"
 | .ref p=>(T="list"/\∃ xs,SqL K H p xs)\/(T="tuple"/\∃ o,K.lookup p=some o/\o.cls=.type "tuple"/\o.dict=none) \/
  (T="dict"/\((∃ kvs,H p=some (.dK kvs))\/∃ kvs,H p=some (.dT kvs)))\/(T="set"/\∃ S n,H p=some (.set S n))
 | _=>False
theorem aFZ{pins:List (Addr×Obj)}{σ:St}{H:Hp}{s:Shared}{T:String}{x:V}{v:Value}(I:Inv X pins σ H s)(r:bC x v)(ty:tyV X.K T x H) :
  s.TypeIs v T/\∀ a,v=.ref a->∃ ob,s.heap.get? a=some ob/\ob.dict=none:=by
 cases x with
 | str z=>
  obtain ⟨t,rfl⟩:=r
  cases (show T="str" from ty)
  exact ⟨typeIs_str s z t,fun _ e=>nomatch e⟩
 | int i=>
  obtain ⟨t,rfl⟩:=r
  cases (show T="int" from ty)
  exact ⟨typeIs_int s i t,fun _ e=>nomatch e⟩
 | ref p=>
  cases r
  rcases ty with ⟨rfl,xs,hq⟩|⟨rfl,o,hk,hc,hd⟩|⟨rfl,hk⟩|⟨rfl,S,n,hk⟩
  ·obtain ⟨its,_,pl,_⟩:=I.list hq
   refine ⟨pl.isList.typeIs,fun a e=>?_⟩
   cases e
   obtain ⟨o,n,e,c,hd,_⟩:=pl
   exact ⟨o,e,hd⟩
  ·refine ⟨⟨o,I.kIn p o hk,hc⟩,fun a e=>?_⟩
   cases e
   exact ⟨o,I.kIn _ o hk,hd⟩
  ·have z:∃ o,s.heap.get? p=some o/\o.ExactDict:=by
    rcases hk with ⟨kvs,hk⟩|⟨kvs,hk⟩
    ·obtain ⟨_,_,_,_,o,_,_,e,ex,_⟩:=I.hok p _ hk
     exact ⟨o,e,ex⟩
    ·obtain ⟨_,_,_,_,o,_,_,e,ex,_⟩:=I.hok p _ hk
     exact ⟨o,e,ex⟩
   obtain ⟨o,e,ex⟩:=z
   refine ⟨⟨o,e,ex.1⟩,fun a e2=>?_⟩
   cases e2
   exact ⟨o,e,ex.2.1⟩
  ·obtain ⟨o,_,_,_,e,ex,_⟩:=I.hok p _ hk
   refine ⟨⟨o,e,ex.1⟩,fun a e2=>?_⟩
   cases e2
   exact ⟨o,e,ex.2.1⟩
 | _=>exact False.elim ty
def aOT(K:Frag)(T:String)(r:V->List V->Hp->VK->Prop)(to:TE):TE:=fun σ H Q=>to σ H fun x H1=>tyV K T x H1/\r x [] H1 Q
def tBM(K:Frag)(T:String)(r:V->List V->Hp->VK->Prop)(to:TE)(t:TA):TE:=fun σ H Q=>to σ H fun x H1=>tyV K T x H1/\t σ H1 fun xs H2=>r x xs H2 Q
variable{o e:Expr}{es:List Expr}{to:TE}{t:TA}{name:Str}{apos cpos:Pos}{T id:String}{r:V->List V->Hp->VK->Prop}
theorem aOU(pa:PlainAttrs T)(slot:Slot T name id)(hty:typeOf (.builtin id)=pure (.type "method_descriptor"))(hm:MtR X id r)(ho:PE X o to)
  (hbase:attributeBase o name X.env (eval o X.env)=eval o X.env:=by rfl) (hline:(apos.endLine == cpos.line)=true:=by rfl):PE X (.Call (.Attribute o name apos) [] [] cpos) (aOT X.K T r to):=by
 intro pins s σ H Q I h
 refine wpAny_Call_method0_late hbase hline (thn (ho pins s σ H _ I h) fun v s1 zz0=>?_)
 obtain ⟨x,H1,I1,r1,ty,q1⟩:=zz0
 obtain ⟨h1,h2⟩:=aFZ I1 r1 ty
 exact ⟨T,id,pa,slot,hty,h1,h2,DZ rfl (PySem.evalArgs_none (hm pins s1 σ H1 x [] v [] Q I1 r1 .nil q1))⟩
theorem gY(pa:PlainAttrs T)(slot:Slot T name id)(hty:typeOf (.builtin id)=pure (.type "method_descriptor"))(hm:MtR X id r)(ho:PE X o to)(ha:PA X (e::es) t)
  (hbase:attributeBase o name X.env (eval o X.env)=eval o X.env:=by rfl)
  (hfew:((backTo cpos (starEach (e::es) X.env)).all (fun x=>!x.1) && (backToKw cpos (keywordEach [] X.env)).all (fun x=>x.1.isSome)
   && decide ((e::es).length+([]:List Keyword).length+(if ([]:List Keyword).isEmpty then 0 else 1) < 30))=true:=by rfl)
  (hline:(apos.endLine == cpos.line)=true:=by rfl) (hs:starEach (e::es) X.env=(false,eval e X.env)::starEach es X.env:=by rfl) (hplain:(backTo cpos (starEach es X.env)).any (·.1)=false:=by rfl) :
  PE X (.Call (.Attribute o name apos) (e::es) [] cpos) (tBM X.K T r to t):=by
 intro pins s σ H Q I h
 refine ET hbase hfew hline rfl (thn (ho pins s σ H _ I h) fun v s1 zz0=>?_)
 obtain ⟨x,H1,I1,r1,ty,q1⟩:=zz0
 obtain ⟨h1,h2⟩:=aFZ I1 r1 ty
 refine ⟨T,id,pa,slot,hty,h1,h2,?_⟩
 have hA:=ha cpos pins s1 σ H1 _ I1 q1
 rw[hs] at hA ⊢
 refine DZ (by show (false || (backTo cpos (starEach es X.env)).any (·.1))=false;rw[hplain]<;>rfl) (EZ ?_)
 exact thn hA fun us s2 ⟨vs,H2,I2,r2,q2⟩=>hm pins s2 σ H2 x vs v us Q I2 r1 r2 q2
end
def MtM(X:Cx)(id:String)(r:V->List V->Hp->VK->Prop):Prop:=
 ∀ (pins:List (Addr×Obj)) (s:Shared) (σ:St) (H:Hp) (x:V) (xs:List V) (v:Value) (us:List Value) (Q:VK),Inv X pins σ H s->bC x v->bG xs us->r x xs H Q->
  wpAny (model X.prog X.w) X.A (call (.builtin id) (v::us)) (EP X pins σ Q) X.xe s
theorem bG.one:∀ {x:V} {us:List Value},bG [x] us->∃ u,us=[u]/\bC x u
 | _,_,.cons r .nil=>⟨_,rfl,r⟩
theorem bG.zero:∀ {us:List Value},bG [] us->us=[]
 | _,.nil=>rfl
theorem bG.reverse{xs:List V}{us:List Value}(h:bG xs us):bG xs.reverse us.reverse:=by
 induction h with
 | nil=>exact .nil
 | cons r t ih=>rw[EN,EN];exact bG.append ih (.cons r .nil)
section
variable{X:Cx}{pins:List (Addr×Obj)}{σ:St}{H:Hp}{s:Shared}{l b:Addr}{xs ys zs:List V}
theorem Inv.lset{its its':List Value}{n:Nat}{f:Array Value->Array Value}{t':Nat}(I:Inv X pins σ H s)(hH:H l=some (.lst xs))
  (e:s.heap.get? l=some {cls:=.type "list",data:=.seq its.toArray n}) (hf:f its.toArray=its'.toArray) (hv:bG ys its') (hz:ys.length<=sizeLine) :
  Inv X pins σ (upd H l (.lst ys)) {s with heap:=s.heap.update l (Obj.mapSeq f),toks:=t'}:=by
 have q:=PySem.IsL.update e f
 rw[hf] at q
 refine I.write (x:=l) (e:=l) (by rw[hH];exact trivial) (.inl rfl) (fun b' u hb hu=>(D0 s.heap (Obj.mapSeq f) (BN hb)).trans hu) ⟨_,q⟩ ?_
 exact ⟨hz,its',_,hv,q⟩
theorem Inv.lnew{its:List Value}{t':Nat}(I:Inv X pins σ H s)(hv:bG ys its)(hz:ys.length<=sizeLine) :
  Inv X pins σ (upd H s.heap.objs.size (.lst ys)) {s with heap:=s.heap.push {cls:=.type "list",data:=.seq its.toArray},toks:=t'}:=
 I.laid (fun _ _ q=>AC _ q) (AK _) ⟨hz,its,0,hv,AX _ rfl⟩
theorem Inv.fresh(I:Inv X pins σ H s):H s.heap.objs.size=none:=I.hok.fresh (AK _)
theorem Inv.lstM(I:Inv X pins σ H s)(hH:H l=some (.lst xs)):xs.length<=sizeLine/\∃ (its:List Value) (n:Nat),bG xs its/\xs.length=its.length/\s.heap.get? l=some {cls:=.type "list",data:=.seq its.toArray n}:=by
 obtain ⟨z,its,n,r,e⟩:=I.hok l _ hH
 exact ⟨z,its,n,r,r.length,e⟩
end
section
variable{X:Cx}
def aCO:V->List V->Hp->VK->Prop:=fun x vs H Q=>∃ l xs y,x=.ref l/\vs=[y]/\H l=some (.lst xs)/\xs.length < sizeLine/\Q .non (upd H l (.lst (xs++[y])))
theorem dS:MtM X "list.append" aCO:=by
 intro pins s σ H x vs v us Q I rx rv h
 obtain ⟨l,xs,y,rfl,rfl,hH,hz,q⟩:=h
 cases rx
 obtain ⟨u,rfl,ru⟩:=rv.one
 obtain ⟨z,its,n,r,hl,e⟩:=I.lstM hH
 refine E2 F.slot_list_append ⟨_,e,rfl⟩ F.entry_list_append (F.args_list_append_2 _ _) (PySem.list_append l its.toArray n u (by rw[BF];omega)) ⟨e,?_⟩
 refine ⟨.non,_,I.lset (its':=its++[u]) hH e (by simp) (r.append (.cons ru .nil)) ?_,rfl,q⟩
 rw[A5,BY]
 omega
def zV:V->List V->Hp->VK->Prop:=fun x vs H Q=>∃ l xs,x=.ref l/\vs=[]/\H l=some (.lst xs)/\Q .non (upd H l (.lst xs.reverse))
theorem aEF:MtM X "list.reverse" zV:=by
 intro pins s σ H x vs v us Q I rx rv h
 obtain ⟨l,xs,rfl,rfl,hH,q⟩:=h
 cases rx
 have hus:=rv.zero
 subst hus
 obtain ⟨z,its,n,r,hl,e⟩:=I.lstM hH
 refine E2 F.slot_list_reverse ⟨_,e,rfl⟩ F.entry_list_reverse (F.args_list_reverse_1 _) (AutoSeq1.list_reverse_list_0 l its.toArray n (by rw[BF];omega)) ⟨e,?_⟩
 refine ⟨.non,_,I.lset (its':=its.reverse) hH e (by simp) r.reverse ?_,rfl,q⟩
 rw[List.length_reverse]
 omega
theorem aLH{α:Type}(xs:List α)(k:Nat):(List.replicate k xs).flatten.length=k * xs.length:=by
 induction k with
 | zero=>simp
 | succ k ih=>rw[CT,DP,A5,ih,Nat.succ_mul,Nat.add_comm]
end
end L2
namespace Att
open PySem PySem.W PySem.Calls PyProof.Rows
theorem vA{P:Params}{h:Heap}:∀ (ns:List Int) (vs:List Value),WellAll P h vs (ns.map WData.int)->IntsAre vs ns:=by
 intro ns
 induction ns with
 | nil=>
  intro vs w
  rw[B0] at w
  cases w
  exact .nil
 | cons n ns ih=>
  intro vs w
  rw[AW] at w
  cases w with
  | cons a b=>
   cases a
   exact .cons _ _ (ih _ b)
theorem aF0{l:OpenLaw}{n:Nat}(hn:l.most=some n){P:Params}{h:Heap}{args:List WData}{vals:List Value}
  (hpre:l.row.toRowW.claim.pre args=true) (hwl:WellAll P h vals args) :
  ∃ a vs ns,vals=[Value.ref a]/\args=[WData.list (ns.map WData.int)]/\h.get? a=some {cls:=.type "list",data:=.seq vs.toArray}/\IntsAre vs ns/\ns.length<=n:=by
 have hsh:WShape.hasAll [] args [.list .int]=true:=(pre_splitW hpre).1
 have hc:l.pre.holds [] {args:=args}=true:=(pre_splitW hpre).2
 obtain ⟨d,r,rfl,h1,h2⟩:=hasAllW_cons hsh
 obtain rfl:=hasAllW_nil h2
 obtain ⟨xs,rfl,h3⟩:=hasW_list h1
 obtain ⟨ns,rfl⟩:=items_int h3
 have hlen:ns.length<=n:=by
  unfold OpenLaw.pre at hc
  have h4:(WTm.not (.lt (.lit (.int (n:Int))) (.len (.arg 0)))).holds [] {args:=[.list (ns.map .int)]}=true:=by
   have h4:=(holds_andW hc).1
   rw[hn] at h4
   exact h4
  have h5:=condW_of h4 (w_not (w_lt w_lit (w_len_list (w_arg rfl))))
  rw[AB] at h5
  refine Nat.le_of_not_lt fun q=>?_
  have q':(n:Int) < ((ns.length:Nat):Int):=by omega
  first
   | (rw[AY q'] at h5;exact absurd h5 (by decide))
   | (simp at h5;omega)
 cases hwl with
 | cons w1 w2=>
  cases w2
  cases w1 with
  | list ho hall=>exact ⟨_,_,ns,rfl,rfl,ho,vA ns _ hall,hlen⟩
theorem aF1(l:OpenLaw)(args:List WData):l.row.toRowW.claim.post args (.bool true) args=true:=
 postW_of (r:=l.row.toRowW) (X:=(true == true))
  (show WShape.has [] (.bool true) .bool=true by first|rfl|decide|simp[WShape.has,WShape.arms,WShape.armsAll])
  (show (WTm.eq .res (.lit (.bool true))).value [] {args:=args,res:=some (.bool true),after:=args}=some (.bool (true == true)) from w_eq_bool (w_res rfl) w_lit) rfl
theorem attach_call{l:OpenLaw}{n:Nat}{q:Program}{loose:List Str}{XP:(Str->Option Value)->Heap->Prop}{YP:World->Heap->Prop}{d:DefRec}
  (hn:l.most=some n) (hdf:d.params.defaults=[])
  (call:∀ (w:World) (s₀ s₁:Shared) (mg mb:Str->Option Value) (fa:Addr) (o:Obj) (pm cd doc:Value) (a:Addr) (vs:List Value) (ns:List Int),
   Ground q loose [] XP w s₀ mg mb s₁.heap->YP w s₁.heap->
   s₁.heap.get? fa=some o->o.data=.func (docDef d.name d.params d.body d.scope pm cd doc)->s₁.heap.CodeRec cd d.name->mg d.name=some (.ref fa)->
   s₁.heap.get? a=some {cls:=.type "list",data:=.seq vs.toArray}->IntsAre vs ns->ns.length<=n->s₁.gens = #[]->
   codeAny (model l.prog w) callerA (.call (.ref fa) ⟨[.ref a],[]⟩) (fun r s'=>r=.ok (.ret (.bool true))/\OldK s₁.heap s'.heap/\s'.os=s₁.os/\AllBare s'.gens) s₁) :
  WalkO q loose XP YP l.row.toRowW d [] (fun f vs=>PySem.call f vs):=by
 intro w s₀ s₁ mg mb G Y fa o pm cd doc dV kV ho hd hcd hD hmg hg args vals as hpre hlay hrd hwl hlo
 obtain rfl:dV=.none:=Dflts.none hD hdf
 obtain rfl:kV=.none:=Dflts.noKw hD
 obtain ⟨a,vs,ns,rfl,rfl,hobj,hints,hlen⟩:=aF0 hn hpre hwl
 refine enter_call (EI (call w s₀ s₁ mg mb fa o pm cd doc a vs ns G Y ho (fd_plain hd) hcd hmg hobj hints hlen hg) fun r s' hq=>?_)
 obtain ⟨rfl,h2,h3,h4⟩:=hq
 exact ⟨.inl ⟨.bool true,.bool true,[],rfl,fun _=>rfl,.bool true,aF1 l _,fun _=>⟨List.Pairwise.nil,fun _ hm=>(nomatch hm)⟩⟩,h2,h3,h4⟩
section
variable{prog:Program}{w:World}{A:Around}{E:Value->Shared->Prop}{s:Shared}{K:Frag}
noncomputable def aT6(h:Heap)(L d:Addr):List (Addr×Obj):=(List.range h.objs.size).filterMap fun a=>if a=L\/a=d then none else (h.get? a).map fun o=>(a,o)
end
end Att
namespace L2
open PySem PySem.Spec PyProof.Rows
theorem yI:∀ {vs:List Value} {ns:List Int},IntsAre vs ns->bG (ns.map V.int) vs
 | _,_,.nil=>.nil
 | _,_,.cons n t h=>.cons ⟨t,rfl⟩ (yI h)
abbrev KOf{K:Frag}{h:Heap}(_:K.In h):Frag:=K
noncomputable def hR(s:Stmt):Arguments:=match s with
 | .FunctionDef _ a _ _ _ _ _ _ _ _=>a
 | _=>{posonlyargs:=[],args:=[],vararg:=none,kwonlyargs:=[],kw_defaults:=[],kwarg:=none,defaults:=[]}
noncomputable def cQ(s:Stmt):List Stmt:=match s with
 | .FunctionDef _ _ b _ _ _ _ _ _ _=>b
 | _=>[]
noncomputable def aN(s:Stmt):Scope:=match s with
 | .FunctionDef _ _ _ _ _ _ sc _ _ _=>sc
 | _=>{kind:=.function,names:=[],isGenerator:=false,isCoroutine:=false}
abbrev CX0:CXT:=fun _ _ _ _ _ _=>False
abbrev E0:XK:=fun _ _ _=>False
structure Fun(K:Frag)(x qual:Str)(st:Stmt)(f:Addr)(fd:FuncData):Prop where
 ex:∃ (oc:Value) (od:Option Addr) (kV doc pm:Value) (an:Option Addr) (cdv ct:Value) (osl:Array (Option Value)),
  fd=PySem.W.fnOf x qual (hR st) (cQ st) (aN st) .none kV doc pm an cdv ct/\K.lookup f=some ⟨oc,od,.func fd,osl⟩/\PySem.W.codeIn K cdv qual=true
 kp:PySem.W.keepIn K (.ref f)=true
section
variable{P:Program}{w:World}{K:Frag}{mg:Str->Option Value}{base:Heap}
theorem Fun.ok{x qual:Str}{st:Stmt}{f:Addr}{fd:FuncData}{N ps:List Str}{k:Nat}{sp:Sp}(F:Fun K x qual st f fd)(S:FnScope N ps (aN st))(len:∀ vs H Q E,sp vs H Q E->vs.length=ps.length)
  (hbody:∀ (cdv:Value) (A:Around) (outer:List Env) (s:Shared) (H:Hp) (vs:List V) (Q:VK) (E:XK),Room k (A.deeper (envOfC qual (aN st) s.heap.objs.size f cdv))->sp vs H Q E->
   ∃ t,PSs (j1 CX0 P w K mg base N qual (aN st) f cdv A outer s H E).nox (cQ st) t/\t {nx:=fun _ H'=>Q .non H',rt:=Q} (start N vs) H):FnOk P w K mg base CX0 (k+1) f fd ps sp:=by
 obtain ⟨oc,od,kV,doc,pm,an,cdv,ct,osl,rfl,lk,hcd⟩:=F.ex
 refine aEC lk hcd S len fun A outer s H vs Q E hr hsp=>?_
 obtain ⟨t,h,q⟩:=hbody cdv A outer s H vs Q E hr hsp
 exact ⟨t,h.nox,q⟩
theorem Fun.binds{x qual:Str}{st:Stmt}{f:Addr}{fd:FuncData}{ps:List Str}(F:Fun K x qual st f fd)
  (h:∀ (kV doc pm:Value) (an:Option Addr) (cdv ct:Value) (us:List Value),us.length=ps.length->bindArgs (PySem.W.fnOf x qual (hR st) (cQ st) (aN st) .none kV doc pm an cdv ct) ⟨us,[]⟩=pure (ps.zip us)):iT K fd ps []:=by
 obtain ⟨oc,od,kV,doc,pm,an,cdv,ct,osl,rfl,lk,hcd⟩:=F.ex
 exact .all (h kV doc pm an cdv ct)
theorem aF2{x qual:Str}{st:Stmt}{f:Addr}{oc:Value}{od an:Option Addr}{osl:Array (Option Value)}{kV doc pm cdv ct:Value}(l:K.lookup f=some ⟨oc,od,.func (PySem.W.fnOf x qual (hR st) (cQ st) (aN st) .none kV doc pm an cdv ct),osl⟩)
 (c:PySem.W.codeIn K cdv qual=true) (k:PySem.W.keepIn K (.ref f)=true):Fun K x qual st f (PySem.W.fnOf x qual (hR st) (cQ st) (aN st) .none kV doc pm an cdv ct):=⟨⟨oc,od,kV,doc,pm,an,cdv,ct,osl,rfl,l,c⟩,k⟩
end
section
variable{X:Cx}
theorem pv(i:Nat){x:Str}{pos:Pos}(hN:X.N[i]? = some x:=by rfl)(hv:Vis X.env.scope x:=by first|exact Or.inl rfl|exact Or.inr (Or.inl rfl)|exact Or.inr (Or.inr rfl))(hd:(x == ("__debug__":Str))=false:=by decide)
 (hcd:(x == ("__classdict__":Str))=false:=by decide):PE X (.Name x pos) (jS i):=aN7 hN hv hd hcd
end
theorem aEG{A B:Prop}(h:B):if false=true then A else B:=by
 rw[AH B6]
 exact h
theorem aEH{A B:Prop}(h:A):if true=true then A else B:=by
 rw[AG rfl]
 exact h
def aI(H H':Hp):Prop:=∀ b o,H b=some o->H' b=some o
theorem aI.trans{H H1 H2:Hp}(a:aI H H1)(b:aI H1 H2):aI H H2:=fun c o h=>b c o (a c o h)
theorem aI.free{H H':Hp}(e:aI H H'){l:Addr}(h:H' l=Option.none):H l=Option.none:=by
 cases q:H l with
 | none=>rfl
 | some o=>
  rw[e l o q] at h
  cases h
theorem aI.seq{K:Frag}{H H':Hp}{a:Addr}{xs:List V}(e:aI H H')(h:SqL K H a xs):SqL K H' a xs:=by
 rcases h with (h|⟨o,h⟩)|h
 · exact .inl (.inl (e _ _ h))
 · exact .inl (.inr ⟨o, e _ _ h⟩)
 · exact .inr h
theorem aEI{env:Env}:∀ (names:List (Str×NameKind)) (acc:List (Str×Addr)),(∀ x∈names,x.2=.free->∃ c,env.cells.lookup x.1=some c)->
  (∀ x c,acc.lookup x=some c->env.cells.lookup x=some c)->
  ∃ cl,(forIn names acc fun x r=>(if (x.2 == NameKind.free)=true then (do let a <-cellOf env x.1;pure (ForInStep.yield ((x.1,a)::r))) else pure (ForInStep.yield r)):Sem (List (Str×Addr)))=pure cl /\
   (∀ x c,cl.lookup x=some c->env.cells.lookup x=some c)/\(∀ x∈names,x.2=.free->∃ c,cl.lookup x.1=some c)/\∀ x c,acc.lookup x=some c->∃ c',cl.lookup x=some c':=by
 intro names
 induction names with
 | nil=>intro acc _ h;exact ⟨acc,rfl,h,fun x hx=>absurd hx (by simp),fun x c e=>⟨c,e⟩⟩
 | cons x r ih=>
  intro acc hf h
  obtain ⟨n,k⟩:=x
  by_cases hk:k=.free
  ·subst hk
   obtain ⟨c,hc⟩:=hf (n,.free) AV rfl
   have hc:env.cells.lookup n=some c:=hc
   obtain ⟨cl,e1,e2,e3,e4⟩:=ih ((n,c)::acc) (fun y hy=>hf y (AN _ hy)) (fun y d e=>by
    rw[BC] at e
    cases q:y == n with
    | true=>rw[q] at e;cases e;have:=EJ q;subst this;exact hc
    | false=>rw[q] at e;exact h y d e)
   refine ⟨cl,?_,e2,fun y hy hyf=>?_,fun y d e=>?_⟩
   ·rw[CP]
    simp only[CU,CF]
    unfold cellOf
    simp only[hc,pure_bind]
    exact e1
   ·rcases AS.mp hy with z|z
    ·subst z
     exact e4 n c (by rw[BC];simp)
    ·exact e3 y z hyf
   ·by_cases q:y=n
    ·subst q;exact e4 y c (by rw[BC];simp)
    ·exact e4 y d (by rw[BC,C4 q];exact e)
  ·obtain ⟨cl,e1,e2,e3,e4⟩:=ih acc (fun y hy=>hf y (AN _ hy)) h
   refine ⟨cl,?_,e2,fun y hy hyf=>?_,e4⟩
   ·rw[CP]
    have:(k == NameKind.free)=false:=by simpa using hk
    simp only[this,CK,DY,pure_bind]
    exact e1
   ·rcases AS.mp hy with z|z
    ·subst z;exact absurd hyf hk
    ·exact e3 y z hyf
theorem vB{env:Env}{scope:Scope}(hf:∀ x∈scope.names,x.2=.free->∃ c,env.cells.lookup x.1=some c) :
  ∃ cl,closureFor scope env=pure cl/\(∀ x c,cl.lookup x=some c->env.cells.lookup x=some c)/\∀ x∈scope.names,x.2=.free->∃ c,cl.lookup x.1=some c:=by
 obtain ⟨cl,e1,e2,e3,_⟩:=aEI scope.names [] hf (fun x c e=>by simp at e)
 refine ⟨cl,?_,e2,e3⟩
 unfold closureFor
 first
  | exact e1
  | (rw[<-e1];rfl)
  | (simp only[bind_pure];exact e1)
theorem hU{env:Env}:∀ {names:List (Str×NameKind)} {x:Str} {k:NameKind},
  (names.map fun (n,k)=>if (k == NameKind.free && env.scope.kind == .function && env.kindOf n == some .cell) then (n,NameKind.cell) else (n,k)).lookup x=some k->
  k=.cell\/k=.free->(∀ y∈names,y.2≠.cell)->(x,NameKind.free)∈names
 | [],_,_,h,_,_=>by simp at h
 | (n,k0)::r,x,k,h,hk,hc=>by
  have ih:=@hU env r x k
  rw[AW] at h
  dsimp only at h
  by_cases hx:x=n
  ·subst hx
   by_cases hcond:(k0 == NameKind.free && env.scope.kind == .function && env.kindOf x == some .cell)=true
   ·have:k0=.free:=by
     simp only[AU] at hcond
     exact EJ hcond.1.1
    subst this
    exact AV
   ·rw[AH hcond,BC] at h
    simp only[CU] at h
    cases h
    rcases hk with rfl|rfl
    ·exact absurd rfl (hc _ AV)
    ·exact AV
  ·have hb:(x == n)=false:=C4 hx
   refine AN _ (ih ?_ hk fun y hy=>hc y (AN _ hy))
   split at h
   ·rw[BC,hb] at h;exact h
   ·rw[BC,hb] at h;exact h
noncomputable def hV(X:Cx)(N:List Str)(scope:Scope)(cl:List (Str×Addr))(C:Addr)(s:Shared)(H:Hp)(fp:List Addr):Cx where
 prog:=X.prog
 w:=X.w
 K:=X.K
 mg:=X.mg
 base:=X.base
 A:=X.A
 N:=N
 s₀:=s
 H₀:=H
 env:=compEnvC scope cl C X.env
 outer:=X.stack
 stack:=X.stack
 ex:=fp
 calm:=X.calm
 fn:=fun _=>false
 pn:=[]
 xe:=fun _ _=>False
inductive Caps(X:Cx)(scope:Scope):List Str->List (Option Nat)->Prop
 | nil:Caps X scope [] []
 | own {x:Str} {N:List Str} {js:List (Option Nat)} (t:Caps X scope N js):Caps X scope (x::N) (none::js)
 | cap {x:Str} {j:Nat} {N:List Str} {js:List (Option Nat)} (h1:X.N[j]? = some x) (h2:X.env.kindOf x=some .cell\/X.env.kindOf x=some .free)
  (h3:(relabel scope X.env).names.lookup x=some .cell\/(relabel scope X.env).names.lookup x=some .free) (t:Caps X scope N js):Caps X scope (x::N) (some j::js)
theorem Caps.len{X:Cx}{scope:Scope}{N:List Str}{js:List (Option Nat)}(c:Caps X scope N js):js.length=N.length:=by
 induction c with
 | nil=>rfl
 | own _ ih=>simp[ih]
 | cap _ _ _ _ ih=>simp[ih]
theorem Caps.get{X:Cx}{scope:Scope}{N:List Str}{js:List (Option Nat)}(c:Caps X scope N js):∀ {i j:Nat} {x:Str},js[i]? = some (some j)->N[i]? = some x->
  X.N[j]? = some x/\(X.env.kindOf x=some .cell\/X.env.kindOf x=some .free)/\((relabel scope X.env).names.lookup x=some .cell\/(relabel scope X.env).names.lookup x=some .free):=by
 induction c with
 | nil=>intro i j x h;simp at h
 | own _ ih=>
  intro i j x h1 h2
  cases i with
  | zero=>simp at h1
  | succ i=>exact ih (by simpa using h1) (by simpa using h2)
 | cap a b d _ ih=>
  intro i j x h1 h2
  cases i with
  | zero=>
   simp at h1 h2
   subst h1 h2
   exact ⟨a,b,d⟩
  | succ i=>exact ih (by simpa using h1) (by simpa using h2)
noncomputable def lH(js:List (Option Nat))(σ:St):St:=js.map fun o=>o.bind fun j=>(σ[j]?).join
def dP(σ σ':St):Prop:=σ'.length=σ.length/\∀ (i:Nat) v,σ[i]? = some (some v)->σ'[i]? = some (some v)
theorem dP.refl(σ:St):dP σ σ:=⟨rfl,fun _ _ h=>h⟩
theorem dP.set{σ:St}{i:Nat}{v:Option V}(h:σ[i]? = some none):dP σ (σ.set i v):=by
 refine ⟨CQ,fun j u e=>?_⟩
 by_cases q:i=j
 · subst q; rw [h] at e; cases e
 · rw [BK q]; exact e
theorem dP.trans{a b c:St}(h:dP a b)(k:dP b c):dP a c:=⟨k.1.trans h.1,fun i v e=>k.2 i v (h.2 i v e)⟩
section
variable{X:Cx}
def PIf(X:Cx)(ifs:List Expr)(t:TT):Prop:=
 ∀ (pins:List (Addr×Obj)) (s:Shared) (σ:St) (H:Hp) (Q:Bool->Hp->Prop),Inv X pins σ H s->t σ H Q->
  wpAny (model X.prog X.w) X.A (forIn ifs true fun c r=>if r=true then do let ok <-isTrue c X.env (eval c X.env);pure (ForInStep.yield ok) else pure (ForInStep.yield r)) (TP X pins σ Q) X.xe s
def aSX:TT:=fun _ H Q=>Q true H
theorem gC:PIf X [] aSX:=by
 intro pins s σ H Q I h
 show wpAny _ _ (pure true) _ _ s
 exact AD ⟨H,I,h⟩
end
def wW(X:Cx)(N:List Str)(scope:Scope)(js:List (Option Nat))(tg elt:Expr)(ifs:List Expr)(σ:St)(x:V)(H:Hp)(R:Option V->Hp->Prop):Prop:=
 ∀ (cl:List (Str×Addr)) (C:Addr) (s:Shared) (H0:Hp) (fp:List Addr),∃ (g:TG) (tt:TT) (te:TE),PG (hV X N scope cl C s H0 fp) tg g/\PIf (hV X N scope cl C s H0 fp) ifs tt/\PE (hV X N scope cl C s H0 fp) elt te /\
  ∀ σ0,dP (lH js σ) σ0->g x σ0 H fun σ2 H2=>dP (lH js σ) σ2/\tt σ2 H2 fun b H3=>if b=true then te σ2 H3 fun y H4=>R (some y) H4 else R none H3
def compK(X:Cx)(N:List Str)(scope:Scope)(js:List (Option Nat))(tg elt:Expr)(ifs:List Expr)(σ:St)(Q:VK)(J:It)(H1:Hp):Prop:=∃ (n:Nat) (W:Nat->List V->Hp->Prop),n<=sizeLine/\W 0 [] H1 /\
 ∀ i ys H,W i ys H->ys.length<=i/\((J.stop i H/\∀ p,H p=none->Q (.ref p) (upd H p (.lst ys)))\/(J.go i H/\i < n/\∃ R:Option V->Hp->Prop,(∀ y H2,R (some y) H2->W (i+1) (ys++[y]) H2)/\(∀ H2,R none H2->W (i+1) ys H2) /\
  ∀ x H',J.yld i H x H'->wW X N scope js tg elt ifs σ x H' R))
def vC(X:Cx)(N:List Str)(scope:Scope)(js:List (Option Nat))(tg elt:Expr)(ifs:List Expr)(wi:TI):TE:=fun σ H Q=>wi σ H (compK X N scope js tg elt ifs σ Q)
section
variable{prog:Program}{w:World}{A:Around}{R:Result->Shared->Prop}{s:Shared}
theorem zW{elt target iter:Expr}{ifs:List Expr}{scope:Scope}{pos:Pos}{it acc:Value}{env:Env}(I:Nat->Shared->Prop)
  (turn:∀ n s,I n s->wpAny (model prog w) A (pyNext it) (fun r s1=>match r with
   | none=>R (.ok .next) s1
   | some v=>wpAny (model prog w) A (letOwnedTupleGo target it v) (fun _ s1'=>wpAny (model prog w) A (assign target env v) (fun _ s2=>
    wpAny (model prog w) A (forIn ifs true fun c r=>if r=true then do let ok <-isTrue c env (eval c env);pure (ForInStep.yield ok) else pure (ForInStep.yield r)) (fun ok s3=>
     if ok=true then wpAny (model prog w) A (eval elt env) (fun x s4=>
      wpAny (model prog w) A (call (.builtin "list.append") [acc,x]) (fun _ s5=>∃ m,m < n/\I m s5) (fun _ _=>False) s4) (fun _ _=>False) s3
     else ∃ m,m < n/\I m s3) (fun _ _=>False) s2) (fun _ _=>False) s1') (fun _ _=>False) s1) (fun _ _=>False) s)
  (n:Nat) (h:I n s) :
  codeAny (model prog w) A (.compLoop (.ListComp elt [⟨target,iter,ifs,0⟩] scope pos) 0 it acc env) R s:=by
 refine codeAny_loop rfl I (fun n s hI=>?_) n h
 show wpAny _ A ((compTurn (.ListComp elt [⟨target,iter,ifs,0⟩] scope pos) 0 it acc env).onRaise (fun x=>do noteFrame x env;theTreesLotGoes x)) _ _ s
 refine wpAny_noted ?_
 rw[compTurn_list]
 have nr:∀ {α:Type} {t:Sem α} {Q:α->Shared->Prop} {E':Value->Shared->Prop} {s:Shared},wpAny (model prog w) A t Q (fun _ _=>False) s->wpAny (model prog w) A t Q E' s:=fun h=>BP h (fun _ _ q=>q) fun _ _ f=>f.elim
 refine AA (DL (AA (BP (turn n s hI) (fun r s₁ h₁=>?_) fun _ _ h'=>h'.elim)))
 cases r with
 | none=>exact AD h₁
 | some v=>
  refine AA (BP h₁ (fun _ s1' h1'=>?_) fun _ _ f=>f.elim)
  refine AA (BP h1' (fun _ s₂ h₂=>AA (BP h₂ (fun ok s₃ h₃=>?_) fun _ _ h'=>h'.elim)) fun _ _ h'=>h'.elim)
  cases ok with
  | false=>exact AD ⟨rfl,h₃⟩
  | true=>
   exact AA (AA (BP h₃ (fun x s₄ h₄=>AA (BP h₄ (fun _ s₅ h₅=>AD (AD ⟨rfl,h₅⟩)) fun _ _ h'=>h'.elim)) fun _ _ h'=>h'.elim))
end
theorem HOk.track{P:Program}{w:World}{H:Hp}{h:Heap}{a:Addr}{o:HO}(x:HOk P w H h)(hn:H a=none)(new:cO P w (upd H a o) h a o):HOk P w (upd H a o) h:=fun b u e=>by
 by_cases hb:b=a
 ·subst hb;rw[aY] at e;cases e;exact new
 ·rw[aM hb] at e
  exact (x b u e).stay (fun c v _ q=>q) (fun c q=>by rw[aM (bI q hn)];exact q) (fun c xs q=>by rw[aM (bI q hn)];exact q) fun c xs q=>by rw[aM (bI q hn)];exact q
section
variable{X:Cx}{pins:List (Addr×Obj)}{σ:St}
structure CompEnd(X:Cx)(pins:List (Addr×Obj))(σ:St)(D C:Addr)(ys:List V)(H':Hp)(s':Shared):Prop where
 inv:Inv X pins σ (upd H' D (.lst ys)) s'
 ns:∃ m,s'.heap.Ns C m
 fp:jT X pins (upd H' D (.lst ys)) C
 nD:H' D=none
theorem CompEnd.gone{D C:Addr}{ys:List V}{H H':Hp}{s':Shared}{h'':Heap}{σ':St}(I:Inv X pins σ' H s')(fp:jT X pins H C)(hs:Heap.SameBut C s'.heap h''):Inv X pins σ' H {s' with heap:=h''}:=
 I.turned (it:=C) (t':=s'.toks) (fun b o hb e=>(hs.2 b hb).trans e) fp.1 fp.2.1 fp.2.2.2.1 fp.2.2.2.2.1 fp.2.2.2.2.2
theorem zX{prog:Program}{w:World}{A:Around}{E:Value->Shared->Prop}{s:Shared}{l:Addr}{items:Array Value}{nn:Nat}{x:Value}{Q:Value->Shared->Prop}(e:s.heap.get? l=some {cls:=.type "list",dict:=none,data:=.seq items nn})(hz:items.size<=sizeLine)
  (hQ:∀ nn' h',h'.get? l=some {cls:=.type "list",dict:=none,data:=.seq (items.push x) nn'}->Heap.SameBut l s.heap h'->Q .none {s with heap:=h'}) :
  wpAny (model prog w) A (call (.builtin "list.append") [.ref l,x]) Q E s:=by
 refine E2 F.slot_list_append ⟨_,e,rfl⟩ F.entry_list_append (F.args_list_append_2 _ _) (PySem.list_append l items nn x (by omega)) ⟨e,?_⟩
 exact hQ _ _ (CJ _ e rfl) (CC ..)
theorem vE{N:List Str}{js:List (Option Nat)}{scope:Scope}{tg elt iter:Expr}{ifs:List Expr}{cl:List (Str×Addr)}{pos:Pos}{it:Addr}{fp:List Addr}{tn:Nat->Heap->Prop}{J:It}{s2:Shared}{H2:Hp}{E:Value->Shared->Prop}
  {RR:Value->Addr->Result->Shared->Prop} {Q:VK} (hc:X.calm=true) (caps:Caps X scope N js) (hkind:scope.kind=.function) (hcell:∀ y∈scope.names,y.2≠.cell)
  (hcl1:∀ x c,cl.lookup x=some c->X.env.cells.lookup x=some c) (hcl2:∀ x∈scope.names,x.2=.free->∃ c,cl.lookup x.1=some c)
  (I:Inv X pins σ H2 s2) (T:Turn X.prog X.w X.K tg J fp it tn) (st2:tn 0 s2.heap) (f2:∀ b∈fp,jT X pins H2 b) (n:Nat) (W:Nat->List V->Hp->Prop) (hn:n<=sizeLine) (w0:W 0 [] H2)
  (turn:∀ i ys H,W i ys H->ys.length<=i/\((J.stop i H/\∀ p,H p=none->Q (.ref p) (upd H p (.lst ys)))\/(J.go i H/\i < n/\∃ R:Option V->Hp->Prop,(∀ y H2,R (some y) H2->W (i+1) (ys++[y]) H2)/\(∀ H2,R none H2->W (i+1) ys H2) /\
   ∀ x H',J.yld i H x H'->wW X N scope js tg elt ifs σ x H' R)))
  (hRR:∀ D C ys H' s',CompEnd X pins σ D C ys H' s'->Q (.ref D) (upd H' D (.lst ys))->RR (.ref D) C (.ok .next) s') :
  wpAny (model X.prog X.w) X.A (newList []) (fun acc s3=>wpAny (model X.prog X.w) X.A (newFunctionEnv scope X.env.globals cl [] X.env.qual none .none (some X.env)) (fun cenv s4=>
   codeAny (model X.prog X.w) X.A (.compStart (.ListComp elt [⟨tg,iter,ifs,0⟩] scope pos) 0 (.ref it) acc {cenv with scope:=relabel scope X.env}) (RR acc cenv.locals) s4) E s3) E s2:=by
 refine CN (wpAny_newFunctionEnv hcell (by intro y hy;simp at hy) (fun h₁ hns₁ hsb₁=>?_) hkind)
 dsimp only at hns₁ hsb₁ ⊢
 generalize hHh:s2.heap.push {cls:=.type "list",dict:=none,data:=.seq ([]:List Value).toArray}=Hh at hns₁ hsb₁ ⊢
 have hC:Hh.objs.size=s2.heap.objs.size+1:=by rw[<-hHh,B2]
 have hDC:s2.heap.objs.size≠Hh.objs.size:=by rw[hC];exact BL (Nat.lt_succ_self _)
 have hCle:s2.heap.objs.size<=Hh.objs.size:=by rw[hC];exact Nat.le_succ _
 have old:∀ b o,s2.heap.get? b=some o->h₁.get? b=some o:=fun b o e=>hsb₁.extBut b o (by rw[hC];exact BL (Nat.lt_succ_of_lt (AM e))) (AC _ (hHh▸AC _ e))
 have haccO:h₁.get? s2.heap.objs.size=some {cls:=.type "list",dict:=none,data:=.seq ([]:List Value).toArray}:=hsb₁.extBut _ _ hDC (AC _ (hHh▸AX _ rfl))
 have st1:tn 0 h₁:=T.keep _ _ _ st2 fun b hb o e=>old b o e
 have fplt:∀ b∈fp,b < s2.heap.objs.size:=fun b hb=>by
  obtain ⟨o,e,_⟩:=T.obj _ _ st2 b hb
  exact AM e
 have fsIn:∀ b∈frs X.stack,b < s2.heap.objs.size:=fun b hb=>by
  rcases AS.mp (I.stkSub b hb) with z|z
  ·rw[z];exact I.lt
  ·refine Nat.lt_of_not_le fun hle=>I.nofs hle z
 have fpC:∀ b∈fp,b≠Hh.objs.size:=fun b hb z=>BM _ (AT (fplt b hb) (z▸hCle))
 generalize hD:s2.heap.objs.size=D at *
 generalize hCc:Hh.objs.size=C at *
 let X':=hV X N scope cl C s2 H2 fp
 have ok':X'.Ok:=by
  refine ⟨I.ok.mod,hkind,I.ok.glob,I.ok.blt,by show s2.heap.objs.size<=C;rw[hD];exact hCle,fun x y c e1 e2=>I.ok.inj x y c (hcl1 x c e1) (hcl1 y c e2),fun x hx=>?_,fun x c z=>absurd (show false=true from z) B6,I.ok.hd,I.ok.frames,.inl rfl,fun b hb=>?_,
   I.bs,BI I.ok.bsz I.sz,fun b o e hb=>?_,fun b hb z=>?_,I.stack,I.stkFree⟩
  ·have hm:(x,NameKind.free)∈scope.names:=by
    rcases hx with z|z
    ·exact hU (env:=X.env) z (.inl rfl) hcell
    ·exact hU (env:=X.env) z (.inr rfl) hcell
   exact hcl2 _ hm rfl
  ·exact ⟨fpC b hb,fun x c e=>(f2 b hb).2.2.2.2.1 x c (hcl1 x c e)⟩
  ·rcases (f2 b hb).2.2.2.1 with z|z
   ·exact I.ok.noex b o e z
   ·exact absurd (AM (I.ok.bs b o e).1) (Nat.not_lt.mpr z)
  ·rcases AS.mp (I.stkSub b z) with q|q
   ·exact (f2 b hb).2.1 q
   ·exact (f2 b hb).2.2.1 q
 have hσl:(lH js σ).length=N.length:=by unfold lH;rw[AB,caps.len]
 have freeC:H2 C=none:=I.hok.fresh (by rw[hD];exact hCle)
 have freeD:H2 D=none:=I.hok.fresh (by rw[hD];exact AK _)
 have DnotFs:D∉frs X.stack:=fun z=>BM _ (fsIn D z)
 have DnotFp:D∉fp:=fun z=>BM _ (fplt D z)
 have I0:∀ tk,Inv X' [] (lH js σ) H2 {s2 with heap:=h₁,toks:=tk}:=fun tk=>by
  refine ⟨ok',rfl,I.bare,Un.kept old,⟨_,hns₁,fun i x v e1 e2 e3=>?_⟩,fun x c e=>?_,freeC,fun x c e=>I.freeC x c (hcl1 x c e),fun p hp=>absurd hp (by show ¬ p∈([]++[]:List (Addr×Obj));simp),I.hok.kept old,hσl⟩
  ·unfold lH at e2
   rw[AJ] at e2
   cases q:js[i]? with
   | none=>rw[q] at e2;cases e2
   | some o=>
    rw[q] at e2
    cases o with
    | none=>cases e2
    | some j=>
     have e2':(σ[j]?).join=some v:=BW e2
     obtain ⟨c1,c2,c3⟩:=caps.get q e1
     have e4:σ[j]? = some (some v):=by
      cases z:σ[j]? with
      | none=>rw[z] at e2';cases e2'
      | some u=>rw[z] at e2';have:u=some v:=e2';rw[this]
     obtain ⟨m,hm,hl⟩:=I.loc
     have vis:Vis X.env.scope x:=by
      rcases c2 with z|z
      · exact .inr (.inl z)
      · exact .inr (.inr z)
     obtain ⟨u,r,l⟩:=hl j x v c1 e4 vis
     refine ⟨u,r,.inr ⟨c3,?_⟩⟩
     have lc:∃ c,X.env.cells.lookup x=some c/\s2.heap.IsCell c (some u):=by
      rcases l with ⟨k,_⟩|⟨_,z⟩
      · rcases c2 with z | z <;> (rw [k] at z; cases z)
      · exact z
     obtain ⟨c,e5,o,ho,hd⟩:=lc
     have hm2:(x,NameKind.free)∈scope.names:=by
      rcases c3 with z|z
      · exact hU (env := X.env) z (.inl rfl) hcell
      · exact hU (env := X.env) z (.inr rfl) hcell
     obtain ⟨c',e6⟩:=hcl2 _ hm2 rfl
     have e7:=hcl1 _ _ e6
     rw[e5] at e7;cases e7
     exact ⟨c,e6,o,old c o ho,hd⟩
  ·obtain ⟨v,o,ho,hd⟩:=I.cell x c (hcl1 x c e)
   exact ⟨v,o,old c o ho,hd⟩
 have fpok:∀ {H':Hp} {pl:List (Addr×Obj)},(∀ b∈fp,H' b=none)->(∀ b∈fp,∀ p∈pl,p.1≠b)->∀ b∈fp,jT X' pl H' b:=fun {H' pl} hn hpl b hb=>by
  refine ⟨hn b hb,fpC b hb,ok'.exfs b hb,.inl hb,fun x c e=>(f2 b hb).2.2.2.2.1 x c (hcl1 x c e),fun p hp=>hpl b hb p ?_⟩
  have hp':p∈[]++pl:=hp
  simpa using hp'
 let LI:Nat->Shared->Prop:=fun k s'=>∃ i ys its nn σ' H',k=n+1 - i/\i<=n/\W i ys H'/\tn i s'.heap/\(∀ b∈fp,H' b=none)/\bG ys its/\dP (lH js σ) σ' /\
  Inv X' [(D,{cls:=.type "list",dict:=none,data:=.seq its.toArray nn})] σ' H' s'
 have loop:∀ tk,codeAny (model X.prog X.w) X.A (.compLoop (.ListComp elt [⟨tg,iter,ifs,0⟩] scope pos) 0 (.ref it) (.ref D) (compEnvC scope cl C X.env)) (RR (.ref D) C) {s2 with heap:=h₁,toks:=tk}:=by
  intro tk
  refine zW LI ?_ (n+1) ⟨0,[],[],0,lH js σ,H2,rfl,CH _,w0,st1,fun b hb=>(f2 b hb).1,.nil,dP.refl _,?_⟩
  ·rintro k s3 ⟨i,ys,its,nn,σ3,H3,rfl,hin,w3,st3,fr3,r3,ks,I3⟩
   obtain ⟨hyl,tr⟩:=turn i ys H3 w3
   have fpk:=fpok (pl:=[(D,{cls:=.type "list",dict:=none,data:=.seq its.toArray nn})]) fr3 (fun b hb p hp z=>by
    rw[AQ.mp hp] at z
    exact DnotFp ((show D=b from z)▸hb))
   rcases tr with ⟨stop,q⟩|⟨go,hlt,RW,hR1,hR2,step⟩
   ·refine thn (T.done X' rfl rfl rfl hc i _ s3 σ3 H3 _ I3 fpk st3 stop) fun r s4 zz0=>?_
    obtain ⟨hr,I4⟩:=zz0
    subst hr
    show RR (.ref D) C (.ok .next) s4
    obtain ⟨pe,pn,p1,p2,p3⟩:=I4.pin (D,{cls:=.type "list",dict:=none,data:=.seq its.toArray nn}) (by show _∈[]++_;simp)
    refine hRR D C ys H3 s4 ?_ (q D pn)
    have hok4:HOk X.prog X.w (upd H3 D (.lst ys)) s4.heap:=HOk.track I4.hok pn ⟨BI hyl (BI hin hn),its,nn,r3,pe⟩
    have ltD:∀ b u,H2 b=some u->b≠D:=fun b u e z=>by rw[z,freeD] at e;cases e
    have un4:Un (frs X.stack) fp H2 (upd H3 D (.lst ys)) s2.heap s4.heap:=by
     have ub:=I4.base
     refine ⟨ub.keep,ub.slot,fun b o e nn' hx=>?_,ub.there,fun b xs e=>?_,fun b o u e=>?_,fun b ps e=>?_⟩
     ·rw[aM (fun z=>by have:=AM e;rw[hD,z] at this;exact BM _ this)]
      exact ub.free b o e nn' hx
     ·rw[aM (ltD b _ e)];exact ub.tups b xs e
     ·rw[aM (ltD b _ e)];exact ub.frzs b o u e
     ·rw[aM (ltD b _ e)];exact ub.tbls b ps e
    refine ⟨I.call' I4.os un4 hok4 I4.bare fun b hb=>⟨(f2 b hb).2.2.2.1,(f2 b hb).2.1,(f2 b hb).2.2.2.2.1,(f2 b hb).2.2.2.2.2⟩,?_,?_,pn⟩
    ·obtain ⟨m,hm,_⟩:=I4.loc
     exact ⟨m,hm⟩
    ·refine I.fpOk (by rw[hD];exact hCle) ?_
     rw[aM (BN hDC)]
     exact I4.free
   ·refine thn (T.item X' rfl rfl rfl hc i _ s3 σ3 H3 _ I3 fpk st3 go) fun r s4 zz0=>?_
    obtain ⟨u,hr,h4⟩:=zz0
    subst hr
    show wpAny _ _ (letOwnedTupleGo tg (.ref it) u) _ _ s4
    refine thn h4 fun _ s5 zz0=>?_
    obtain ⟨x,H5,I5,r5,y5,st5,fr5⟩:=zz0
    obtain ⟨g,tt,te,hg,ht,he,hq⟩:=step x H5 y5 cl C s2 H2 fp
    have fpk5:=fpok (pl:=[(D,{cls:=.type "list",dict:=none,data:=.seq its.toArray nn})]) fr5 (fun b hb p hp z=>by
     rw[AQ.mp hp] at z
     exact DnotFp ((show D=b from z)▸hb))
    have I5':=I5.pinned fpk5 (T.obj _ _ st5)
    refine thn (hg _ s5 σ3 H5 x u _ I5' r5 (hq σ3 ks)) fun _ s6 zz0=>?_
    obtain ⟨σ6,H6,I6,ks6,q6⟩:=zz0
    refine thn (ht _ s6 σ6 H6 _ I6 q6) fun b s7 zz0=>?_
    obtain ⟨H7,I7,q7⟩:=zz0
    have stK:∀ {s':Shared} {H':Hp} {σ':St},Inv X' ([(D,{cls:=.type "list",dict:=none,data:=.seq its.toArray nn})]++qS fp s5.heap) σ' H' s'->tn (i+1) s'.heap/\(∀ b∈fp,H' b=none):=fun {s' H' σ'} I'=>by
     refine ⟨T.keep _ _ _ st5 fun b hb o e=>(I'.pin (b,o) (BX _ (BX _ (mK hb e)))).1,fun b hb=>?_⟩
     obtain ⟨o,e,d⟩:=T.obj _ _ st5 b hb
     exact (I'.pin (b,o) (BX _ (BX _ (mK hb e)))).2.1
    cases b with
    | false=>
     rw[AH B6] at q7 ⊢
     obtain ⟨a1,a2⟩:=stK I7
     exact ⟨n+1 - (i+1),by omega,i+1,ys,its,nn,σ6,H7,rfl,hlt,hR2 _ q7,a1,a2,r3,ks6,I7.unpinned⟩
    | true=>
     rw[AG rfl] at q7 ⊢
     refine thn (he _ s7 σ6 H7 _ I7 q7) fun yv s8 zz0=>?_
     obtain ⟨y,H8,I8,r8,q8⟩:=zz0
     obtain ⟨a1,a2⟩:=stK I8
     have I8u:=I8.unpinned
     obtain ⟨pe,pn,p1,p2,p3⟩:=I8u.pin (D,{cls:=.type "list",dict:=none,data:=.seq its.toArray nn}) (by show _∈[]++_;simp)
     have hl8:s8.heap.IsList D its.toArray:=PySem.IsL.isList pe
     have isz:its.length<=sizeLine:=by rw[<-r3.length];exact BI hyl (BI hin hn)
     refine zX pe (by simpa using isz) fun nn' h9 e9 hs9=>?_
     have I9:Inv X' [] σ6 H8 {s8 with heap:=h9,toks:=s8.toks}:=by
      refine Inv.turned (pins:=[]) (it:=D) (t':=s8.toks) (I8u.pins_of (pins':=[]) fun p hp=>absurd hp (by simp)) (fun b o hb e=>(hs9.2 b hb).trans e) pn hDC (.inr (by show s2.heap.objs.size<=D;rw[hD];exact AK _)) (fun x c e z=>?_) fun p hp=>absurd hp (by show ¬ p∈([]++[]:List (Addr×Obj));simp)
      obtain ⟨v,o,ho,hd⟩:=I.cell x c (hcl1 x c e)
      have:=AM ho
      rw[hD,z] at this
      exact BM _ this
     refine ⟨n+1 - (i+1),by omega,i+1,ys++[y],its++[yv],nn',σ6,H8,rfl,hlt,hR1 _ _ q8,?_,a2,bG.append r3 (.cons r8 .nil),ks6,?_⟩
     ·exact T.keep _ _ _ a1 fun b hb o e=>(hs9.2 b (fun z=>DnotFp (z▸hb))).trans e
     ·refine I9.pins_of fun p hp=>?_
      obtain rfl:=AQ.mp hp
      exact ⟨by simpa using e9,pn,p1,p2,by simp⟩
  ·refine (I0 tk).pins_of fun p hp=>?_
   obtain rfl:=AQ.mp hp
   exact ⟨haccO,freeD,hDC,DnotFs,by simp⟩
 exact codeAny_compStart_list (loop _) (T.self X.A 0 _ _ _ st1 (loop _))
noncomputable def fF(names:List (Str×NameKind))(outer:Str->Option NameKind):Bool:=
 names.all (fun y=>y.2 != .cell) && names.all (fun y=>y.2 != .local || names.lookup y.1 == some .local) && names.all (fun y=>y.2 != .free || outer y.1 == some .cell || outer y.1 == some .free)
theorem fF.cell{names:List (Str×NameKind)}{outer:Str->Option NameKind}(h:fF names outer=true):∀ y∈names,y.2≠.cell:=fun y hy=>by
 unfold fF at h
 simp only[AU,BT] at h
 simpa using h.1.1 y hy
theorem fF.names{names:List (Str×NameKind)}{outer:Str->Option NameKind}(h:fF names outer=true):∀ y∈names,y.2=.local->names.lookup y.1=some .local:=fun y hy e=>by
 unfold fF at h
 simp only[AU,BT] at h
 have:=h.1.2 y hy
 rw[e] at this
 simpa using this
theorem fF.free{names:List (Str×NameKind)}{outer:Str->Option NameKind}(h:fF names outer=true):∀ y∈names,y.2=.free->outer y.1=some .cell\/outer y.1=some .free:=fun y hy e=>by
 unfold fF at h
 simp only[AU,BT] at h
 have:=h.2 y hy
 rw[e] at this
 simpa using this
theorem kI{N:List Str}{js:List (Option Nat)}{scope:Scope}{tg elt iter:Expr}{ifs:List Expr}{pos:Pos}{wi:TI}(hc:X.calm=true)(caps:Caps X scope N js)(hok:fF scope.names X.env.kindOf=true)
  (hi:PI X tg iter wi) (hkind:scope.kind=.function:=by rfl) (hs:∀ x,foldedSetIterable iter X.env x=pure x:=by intro _;rfl) :
  PE X (.ListComp elt [⟨tg,iter,ifs,0⟩] scope pos) (vC X N scope js tg elt ifs wi):=by
 intro pins s σ H Q I h
 obtain ⟨cl,e1,e2,e3⟩:=vB (env:=X.env) (scope:=scope) fun x hx hf=>I.ok.has _ (fF.free hok x hx hf)
 rw[eval_ListComp]
 refine GB (use:=none) rfl hs e1 hkind (fF.names hok) (thn (hi pins s σ H _ I h) fun v s1 h1=>thn h1 fun itv s2 h2=>?_)
 obtain ⟨it,fp,tn,J,H2,rfl,I2,T,st2,f2,n,W,hn,w0,turn⟩:=h2
 refine vE (RR:=fun acc C=>compPost (model X.prog X.w) X.A X.xe none (EP X pins σ Q) acc C) (Q:=Q) hc caps hkind (fF.cell hok) e2 e3 I2 T st2 f2 n W hn w0 turn ?_
 intro D C ys H' s' ce q
 obtain ⟨m,hm⟩:=ce.ns
 exact ⟨m,hm,fun h' hs'=>⟨.ref D,_,CompEnd.gone (D:=D) (ys:=ys) (H':=H') ce.inv ce.fp hs',rfl,q⟩⟩
theorem vF{i:Nat}{x:Str}{N:List Str}{js:List (Option Nat)}{scope:Scope}{tg elt iter:Expr}{ifs:List Expr}{pos pos' spos:Pos}{wi:TI}(hN:X.N.Nodup)(hi':X.N[i]? = some x)(hx:Loc X.env.scope x)
  (hsw:swapsWith (.ListComp elt [⟨tg,iter,ifs,0⟩] scope pos) (some (.Name x pos')) spos.line X.env=pure true) (hc:X.calm=true) (caps:Caps X scope N js) (hok:fF scope.names X.env.kindOf=true)
  (hi:PI X tg iter wi) (hkind:scope.kind=.function:=by rfl) (hf:X.fn x=true\/X.env.scope.names.lookup x=some .local:=by exact .inl rfl) (hs:∀ x,foldedSetIterable iter X.env x=pure x:=by intro _;rfl) :
  PS X (.Assign [.Name x pos'] (.ListComp elt [⟨tg,iter,ifs,0⟩] scope pos) spos) (l9 (vC X N scope js tg elt ifs wi) (kR i)):=by
 intro pins s σ H D I h
 obtain ⟨cl,e1,e2,e3⟩:=vB (env:=X.env) (scope:=scope) fun x hx hf=>I.ok.has _ (fF.free hok x hx hf)
 rw[exec_Assign_Name_used _ _ _ _ hsw]
 refine AA (DL (AA ?_))
 show wpAny _ X.A (do let _ <-comprehension (.ListComp elt [⟨tg,iter,ifs,0⟩] scope pos) scope X.env _ (newList []) false (eval iter X.env) (some (assign (.Name x pos') X.env))) _ _ s
 refine AA (BP (GB (use:=some (assign (.Name x pos') X.env)) (Q:=fun _ s'=>SP X pins D .next s') rfl hs e1 hkind (fF.names hok)
  (thn (hi pins s σ H _ I h) fun v s1 h1=>thn h1 fun itv s2 h2=>?_)) (fun _ s' hq=>AD (AD hq)) fun _ _ e=>e)
 obtain ⟨it,fp,tn,J,H2,rfl,I2,T,st2,f2,n,W,hn,w0,turn⟩:=h2
 refine vE (RR:=fun acc C=>compPost (model X.prog X.w) X.A X.xe (some (assign (.Name x pos') X.env)) (fun _ s'=>SP X pins D .next s') acc C) (Q:=fun v H'=>D.nx (σ.set i (some v)) H') hc caps hkind (fF.cell hok) e2 e3 I2 T st2 f2 n W hn w0 turn ?_
 intro L C ys H' s' ce q
 show wpAny _ X.A (assign (.Name x pos') X.env (.ref L)) _ _ s'
 refine wpAny_assign_Name (yE (v:=.ref L) ce.inv hN hi' hx rfl (fun s'' I'' sb=>?_) hf)
 obtain ⟨a,hsa,ha⟩:=sb
 have hCa:C≠a:=by
  rcases ha with z|z
  · rw [z]; exact ce.fp.2.1
  · exact fun z' => ce.fp.2.2.2.2.1 x a z z'.symm
 obtain ⟨m,hm⟩:=ce.ns
 exact ⟨m,hm.sameBut hsa hCa,fun h' hs'=>⟨_,_,CompEnd.gone (D:=L) (ys:=ys) (H':=H') I'' ce.fp hs',q⟩⟩
end
noncomputable def aKB(W:Nat->List V->Hp->Prop)(i:Nat)(ys:List V):Option V->Hp->Prop
 | some y,H=>W (i+1) (ys++[y]) H
 | none,H=>W (i+1) ys H
theorem aLI{X:Cx}{J:It}{N:List Str}{scope:Scope}{js:List (Option Nat)}{tg elt:Expr}{ifs:List Expr}{σ:St}{Q:VK}{n:Nat}{H1:Hp}(W:Nat->List V->Hp->Prop)(hz:n<=sizeLine)(w0:W 0 [] H1)
  (hl:∀ i ys H,i<=n->W i ys H->ys.length<=i) (hgo:∀ i ys H,i < n->W i ys H->J.go i H) (hst:∀ ys H,W n ys H->J.stop n H)
  (step:∀ i x ys H H',i < n->W i ys H->J.yld i H x H'->wW X N scope js tg elt ifs σ x H' (aKB W i ys))
  (done:∀ ys H,W n ys H->∀ p,H p=none->Q (.ref p) (upd H p (.lst ys))) :
  compK X N scope js tg elt ifs σ Q J H1:=by
 refine ⟨n,fun i ys H=>i<=n/\W i ys H,hz,⟨CH _,w0⟩,?_⟩
 rintro i ys H ⟨hi,w⟩
 refine ⟨hl i ys H hi w,?_⟩
 by_cases hlt:i < n
 ·exact .inr ⟨hgo i ys H hlt w,hlt,aKB W i ys,fun y H2 q=>⟨hlt,q⟩,fun H2 q=>⟨hlt,q⟩,fun x H' y=>step i x ys H H' hlt w y⟩
 ·have e:i=n:=by omega
  subst e
  exact .inl ⟨hst ys H w,done ys H w⟩
mutual
inductive DatV(K:Frag)(H:Hp):V->PyData->Prop
 | non:DatV K H .non .none
 | bl (b:Bool):DatV K H (.bl b) (.bool b)
 | int (i:Int):DatV K H (.int i) (.int i)
 | str (x:Str):DatV K H (.str x) (.str x)
 | lst {a:Addr} {xs:List V} {ds:List PyData}:SqL K H a xs->DatVs K H xs ds->DatV K H (.ref a) (.list ds)
 | tup {a:Addr} {xs:List V} {ds:List PyData}:SqT K H a xs->DatVs K H xs ds->DatV K H (.ref a) (.tuple ds)
inductive DatVs(K:Frag)(H:Hp):List V->List PyData->Prop
 | nil:DatVs K H [] []
 | cons {x:V} {d:PyData} {xs:List V} {ds:List PyData}:DatV K H x d->DatVs K H xs ds->DatVs K H (x::xs) (d::ds)
end
section
variable{X:Cx}{pins:List (Addr×Obj)}{σ:St}{H:Hp}{s:Shared}
theorem DatV.reads(I:Inv X pins σ H s){x:V}{d:PyData}{u:Value}(h:DatV X.K H x d)(r:bC x u):∃ as,Reads s.heap u d as:=by
 refine DatV.rec (motive_1:=fun x d _=>∀ u,bC x u->∃ as,Reads s.heap u d as) (motive_2:=fun xs ds _=>∀ us,bG xs us->∃ as,ReadsAll s.heap us ds as) ?_ ?_ ?_ ?_ ?_ ?_ ?_ ?_ h u r
 ·intro u r;cases r;exact ⟨_,.none⟩
 ·intro b u r;cases r;exact ⟨_,.bool b⟩
 ·intro i u r;obtain ⟨t,rfl⟩:=r;exact ⟨_,.int i t⟩
 ·intro x u r;obtain ⟨t,rfl⟩:=r;exact ⟨_,.str x t⟩
 ·intro a xs ds h _ ih u r
  cases r
  obtain ⟨its,rv,p,hz⟩:=I.list h
  obtain ⟨o,e,c,n,d⟩:=p.isList
  obtain ⟨as,q⟩:=ih _ rv
  exact ⟨_,.list e c d (by simpa using q)⟩
 ·intro a xs ds h _ ih u r
  cases r
  obtain ⟨its,rv,p,hz⟩:=I.tuple h
  obtain ⟨o,e,c,n,d⟩:=p
  obtain ⟨as,q⟩:=ih _ rv
  exact ⟨_,.tuple e c d (by simpa using q)⟩
 ·intro us r;cases r;exact ⟨_,.nil⟩
 ·intro x d xs ds _ _ i1 i2 us r
  cases r with
  | cons r1 r2=>
   obtain ⟨as,q⟩:=i1 _ r1
   obtain ⟨bs,q2⟩:=i2 _ r2
   exact ⟨_,.cons q q2⟩
theorem aOV(hu:X.A.units+64 < cLine):OpR X (compareOp .Eq) (fun x y H Q=>∃ d e,DatV X.K H x d/\DatV X.K H y e/\SeqAt.shaped d=true/\SeqAt.shaped e=true/\Q (.bl (PyData.eqv d e)) H):=by
 intro pins s σ H x y u v Q I rx ry h
 obtain ⟨d,e,hx,hy,sd,se,q⟩:=h
 obtain ⟨as,r1⟩:=hx.reads I rx
 obtain ⟨bs,r2⟩:=hy.reads I ry
 exact eq_dataH r1 r2 sd se hu ⟨.bl _,H,I,rfl,q⟩
theorem aOW(hu:X.A.units+64 < cLine):OpR X (compareOp .NotEq) (fun x y H Q=>∃ d e,DatV X.K H x d/\DatV X.K H y e/\SeqAt.shaped d=true/\SeqAt.shaped e=true/\Q (.bl (!PyData.eqv d e)) H):=by
 intro pins s σ H x y u v Q I rx ry h
 obtain ⟨d,e,hx,hy,sd,se,q⟩:=h
 obtain ⟨as,r1⟩:=hx.reads I rx
 obtain ⟨bs,r2⟩:=hy.reads I ry
 exact ne_dataH r1 r2 sd se hu ⟨.bl _,H,I,rfl,q⟩
end
theorem SqL.same{K:Frag}{H H':Hp}{a:Addr}{xs:List V}(e:aI H H')(h:SqL K H a xs):SqL K H' a xs:=aI.seq e h
theorem SqT.same{K:Frag}{H H':Hp}{a:Addr}{xs:List V}(e:aI H H')(h:SqT K H a xs):SqT K H' a xs:=by
 rcases h with (h|⟨o,h⟩)|h
 · exact .inl (.inl (e _ _ h))
 · exact .inl (.inr ⟨o, e _ _ h⟩)
 · exact .inr h
theorem DatV.same{K:Frag}{H H':Hp}(e:aI H H'){x:V}{d:PyData}(h:DatV K H x d):DatV K H' x d:=
 DatV.rec (motive_1:=fun x d _=>DatV K H' x d) (motive_2:=fun xs ds _=>DatVs K H' xs ds) .non .bl .int .str (fun h _ q=>.lst (h.same e) q) (fun h _ q=>.tup (h.same e) q) .nil (fun _ _ p q=>.cons p q) h
theorem DatVs.same{K:Frag}{H H':Hp}(e:aI H H'){xs:List V}{ds:List PyData}(h:DatVs K H xs ds):DatVs K H' xs ds:=
 DatVs.rec (motive_1:=fun x d _=>DatV K H' x d) (motive_2:=fun xs ds _=>DatVs K H' xs ds) .non .bl .int .str (fun h _ q=>.lst (h.same e) q) (fun h _ q=>.tup (h.same e) q) .nil (fun _ _ p q=>.cons p q) h
theorem aI.upd{H:Hp}{a:Addr}{o:HO}(h:H a=none):aI H (upd H a o):=fun b u e=>by rw[aM (bI e h)];exact e
theorem DatVs.length{K:Frag}{H:Hp}:∀ {xs:List V} {ds:List PyData},DatVs K H xs ds->xs.length=ds.length
 | _,_,.nil=>rfl
 | _,_,.cons _ t=>by simp[DatVs.length t]
theorem DatVs.append{K:Frag}{H:Hp}:∀ {xs ys:List V} {ds es:List PyData},DatVs K H xs ds->DatVs K H ys es->DatVs K H (xs++ys) (ds++es)
 | _,_,_,_,.nil,h=>h
 | _,_,_,_,.cons a t,h=>.cons a (DatVs.append t h)
theorem DatVs.get{K:Frag}{H:Hp}:∀ {xs:List V} {ds:List PyData} {i:Nat} {x:V},DatVs K H xs ds->xs[i]? = some x->∃ d,ds[i]? = some d/\DatV K H x d
 | _,_,_,_,.nil,e=>by simp at e
 | _,_,0,_,.cons a t,e=>by simp at e;subst e;exact ⟨_,by simp,a⟩
 | _,_,i+1,x,.cons a t,e=>by
  obtain ⟨d,h1,h2⟩:=DatVs.get (i:=i) (x:=x) t (by simpa using e)
  exact ⟨d,by simpa using h1,h2⟩
theorem DatVs.get'{K:Frag}{H:Hp}:∀ {xs:List V} {ds:List PyData} {i:Nat} {d:PyData},DatVs K H xs ds->ds[i]? = some d->∃ x,xs[i]? = some x/\DatV K H x d
 | _,_,_,_,.nil,e=>by simp at e
 | _,_,0,_,.cons a t,e=>by simp at e;subst e;exact ⟨_,by simp,a⟩
 | _,_,i+1,x,.cons a t,e=>by
  obtain ⟨d,h1,h2⟩:=DatVs.get' (i:=i) (d:=x) t (by simpa using e)
  exact ⟨d,by simpa using h1,h2⟩
theorem DatVs.drop{K:Frag}{H:Hp}:∀ {xs:List V} {ds:List PyData} (n:Nat),DatVs K H xs ds->DatVs K H (xs.drop n) (ds.drop n)
 | _,_,0,h=>h
 | _,_,_+1,.nil=>.nil
 | _,_,n+1,.cons _ t=>DatVs.drop n t
theorem DatVs.take{K:Frag}{H:Hp}:∀ {xs:List V} {ds:List PyData} (n:Nat),DatVs K H xs ds->DatVs K H (xs.take n) (ds.take n)
 | _,_,0,_=>.nil
 | _,_,_+1,.nil=>.nil
 | _,_,n+1,.cons a t=>.cons a (DatVs.take n t)
end L2
namespace SX
open PySem PySem.W
section
variable{prog:Program}{w:World}{A:Around}{E:Value->Shared->Prop}{h:Heap}{g:Array GenState}{d:Drawn}{t:Nat}{os:OsState}{K:Frag}
variable{nm q:Str}{C N:Addr}{bs bm bmB:List Value}{hdct:Bool}{sn:List Str}{sub:List Value}{ab:Bool}{col:Option Bool}{dd:Option Addr}{k0 k1 k2 k3 k5:Option Value}{B newId initId:String}
structure BmOk(B:String)(bm:List Value):Prop where
 hasB:bm.contains (.type B)=true
 hasBase:bm.contains (.type "BaseException")=true
 noAttr:bm.contains (.type "AttributeError")=false
 noName:bm.contains (.type "NameError")=false
theorem vG{M:Model}{env:Env}{s:Shared}{x:Sem Value}{Q:Flow->Shared->Prop}(T:BmOk B bm)(hh:A.handled=none)
  (hx:wpAny M A x (fun v s₁=>∃ e od vs,v=.ref e/\s₁.heap.get? C=some (excClassObj nm q C N bs bm hdct sn sub ab col dd k0 k1 k2 k3 k5 newId) /\
   s₁.heap.get? e=some {cls:=.ref C,dict:=od,data:=.fields vs}/\vs[1]? = some .none/\E (.ref e) s₁) E s) :
  wpAny M A (raiseStmt env (some x) none) Q E s:=by
 have hcB:(Value.ref C::bm).contains (.type "BaseException")=true:=by rw[List.contains_cons,T.hasBase,Bool.or_true]
 unfold raiseStmt
 refine AA (BP hx (fun v s₁ h₁=>?_) fun _ _ x=>x)
 obtain ⟨e,od,vs,rfl,hC,he,h1,hE⟩:=h₁
 obtain ⟨hp,g,d,tk,os⟩:=s₁
 repeat (first|with_reducible refine EO he ?_|with_reducible refine EO hC ?_|(with_reducible refine FD hC ?_;rw[hcB])|(with_reducible refine BV he rfl h1 ?_)|wp_step)
 exact wpAny_raiseNew_none hh hE
end
end SX
namespace SX
open PySem PySem.W PySem.Builtin PySem.Builtin.ObjectAttr
abbrev jU:List Value:=[.type "ValueError",.type "Exception",.type "BaseException",.type "object"]
structure ExcC(K:Frag)(W C:Addr):Prop where
 lk:∃ nm q N bs sn sub ab col dd k0 k1 k2 k3 k5,K.lookup C=some (excClassObj nm q C N bs (.ref W::jU) true sn sub ab col dd k0 k1 k2 k3 k5 "ValueError.__new__")
 sa:findIn K (.ref C) "__setattr__"=some (some (.builtin "object.__setattr__"))
 ga:findIn K (.ref C) "__getattribute__"=some (some (.builtin "BaseException.__getattribute__"))
 gh:findIn K (.ref C) "__getattr__"=some none
 cl:findIn K (.ref C) "__class__"=some (some (.builtin "object.__class__"))
 clg:specialIn K (.builtin "object.__class__") "__get__"=some (some (.builtin "getset_descriptor.__get__"))
 clt:takesIn K (.builtin "object.__class__")=some true
 kp:keepIn K (.ref C)=true
theorem aH9(W:Addr):BmOk "ValueError" (.ref W::jU):=⟨by simp[jU],by simp[jU],by simp[jU],by simp[jU]⟩
theorem passes(self:Value)(C W:Addr):refuseLoop self "__setattr__" (.ref C::.ref W::jU)=pure ():=by
 rw[refuseLoop_ref,refuseLoop_ref]
 exact PySem.F.store_ValueError.passes self
theorem ExcC.cls{K:Frag}{W C:Addr}(c:ExcC K W C):∃ cd:ClassData,clsIn K C=some cd/\cd.hasDict=true/\cd.mro=.ref C::.ref W::jU:=by
 obtain ⟨nm,q,N,bs,sn,sub,ab,col,dd,k0,k1,k2,k3,k5,e⟩:=c.lk
 exact ⟨_,by unfold clsIn;rw[e],rfl,rfl⟩
theorem ExcC.mro{K:Frag}{W C:Addr}(c:ExcC K W C)(b:Value):mroIn K C b=some ((Value.ref C::.ref W::jU).contains b):=by
 obtain ⟨cd,h1,_,h3⟩:=c.cls
 unfold mroIn
 rw[h1,EV,h3]
 rfl
section
variable{prog:Program}{w:World}{A:Around}{E:Value->Shared->Prop}{s:Shared}{K:Frag}{W C x:Addr}{name:Str}{v:Value}{vs:Array Value}
theorem aF3{od:Option Addr}{o:Option Obj}{Q:Option Value->Shared->Prop}(X:K.In s.heap)(c:ExcC K W C)(I:InstAt s.heap x ⟨.ref C,od,.fields vs,#[]⟩ C o)(h:Q (some (.ref C)) {s with toks:=s.toks+1}) :
  wpAny (model prog w) A (getAttr? (.ref x) "__class__") Q E s:=by
 obtain ⟨hp,g,d,t,os⟩:=s
 obtain ⟨cd,hcd,hdct,hmro⟩:=c.cls
 have L0:=I.type (M:=model prog w)
 have L1:=looks_findIn (M:=model prog w) X c.ga
 have L2:=looks_findIn (M:=model prog w) X c.gh
 have sub:Looks (model prog w) hp (isInstance (.ref x) (.type "BaseException")) true:=L0.andThen (looks_mroIn X (by rw[c.mro];simp[jU]))
 have hf:findObj K C o "__class__"=some (.bind (.builtin "getset_descriptor.__get__") (.builtin "object.__class__")):=by
  unfold findObj
  rw[hcd,EV,c.cl,EV]
  simp only[c.clg,c.clt,EV]
 have L3:=looks_find (M:=model prog w) X I hf
 unfold getAttr?
 refine AA (wpAny_mkText ?_)
 unfold getAttrBy?
 refine AA (FM ?_)
 unfold getAttrBy
 refine C9 (AA (L0.at (AA (L1.at ?_))))
 show wpAny _ _ (getAttrByItsOwn _ _ _ _ _ _) _ _ _
 unfold getAttrByItsOwn
 refine AA ?_
 show wpAny _ _ (typeLookup (.ref C) "__getattr__") _ _ _
 refine L2.at (AA (FM (C9 ?_)))
 unfold callGetattribute
 rw[show (false && onTheHeap (Value.builtin "BaseException.__getattribute__"))=false from rfl,AH B6]
 unfold boundAndCalled
 rw[FN.ga.bind]
 refine AA (AD ?_)
 have hk:builtinKind "BaseException.__getattribute__"=some .slot:=by decide +kernel
 have hsplit:splitId "BaseException.__getattribute__"=some ("BaseException","__getattribute__"):=by decide +kernel
 refine FX (codeAny_call_builtin FN.ga.plain PySem.F.entry_bexc_ga (@check_slot (model prog w) _ _ _ "BaseException.__getattribute__" "BaseException" "__getattribute__" (.ref x) [.str "__class__" t] [] _ hk hsplit sub (PySem.F.args_bexc_ga (.ref x) (.str "__class__" t)) ?_))
 refine AA (AD (AA (AD ?_)))
 refine AA (L0.at (AA (L3.at ?_)))
 show wpAny _ _ (holding [.builtin "object.__class__"] (call (.builtin "getset_descriptor.__get__") [.builtin "object.__class__",.ref x,.ref C]) >>= ret) _ _ _
 refine AA (C9 (FX (class_get (s:=⟨hp,g,d,t+1,os⟩) X I (by rw[c.mro];simp[jU]) ?_)))
 refine AD ?_
 show wpAny _ _ (handedOut (.ref C)) _ _ _
 exact AD (AD h)
theorem aIA{od:Option Addr}{o:Option Obj}(c:ExcC K W C):KitX K (.ref x) (.ref C) (fun h=>InstAt h x ⟨.ref C,od,.fields vs,#[]⟩ C o) where
 ty:=fun _ _ _ I=>I.type
 it:=fun _ _ X _=>by
  obtain ⟨nm,q,N,bs,sn,sub,ab,col,dd,k0,k1,k2,k3,k5,e⟩:=c.lk
  intro A' Q' E' s' k q
  unfold isType loadHead
  exact AA (wpAny_loadPart (k _ _ (X _ _ e)) (AD q))
 ne:=fun h tp dd its n sl X htp=>by
  obtain ⟨nm,q,N,bs,sn,sub,ab,col,dd,k0,k1,k2,k3,k5,e⟩:=c.lk
  refine Bool.eq_false_iff.mpr fun q=>?_
  have e':C=tp:=Value.ref.inj (beq_iff_eq.mp q)
  subst e'
  have z:=(X _ _ e).symm.trans htp
  have z':Value.type "type"=Value.type "tuple":=DM Obj.cls (BW z)
  exact absurd (Value.type.inj z') (by decide)
 ca:=fun X I k=>aF3 X c I k
theorem vH{od:Option Addr}{o:Option Obj}{cv:Value}{b:Bool}{Q:Value->Shared->Prop}(X:K.In s.heap)(c:ExcC K W C)(I:InstAt s.heap x ⟨.ref C,od,.fields vs,#[]⟩ C o)(e:kitOne K (.ref C) cv=some b)(h:∀ tk,Q (.bool b) {s with toks:=tk}) :
 wpAny (model prog w) A (call (.builtin "isinstance") [.ref x,cv]) Q E s:=kia_one (aIA c) X I e (fun z=>nomatch z) h
end
end SX
namespace SX
open PySem PySem.W
def t7(h:Heap)(vs:Array Value)(e:Addr)(T:Option Addr):Prop:=
 match T with
 | none=>vs[1]? = some .none
 | some t=>vs[1]? = some (.ref t)/\t≠e/\∃ oT ts x,h.get? t=some oT/\oT.data=.fields ts/\ts[3]? = some x
section
variable{M:Model}{A:Around}{E:Value->Shared->Prop}{s:Shared}
structure Noted(FL:List Addr)(e:Addr)(T:Option Addr)(C:Addr)(od:Option Addr)(h h':Heap)(T':Option Addr):Prop where
 keep:∀ b o,b∉FL->b≠e->(∀ t,T=some t->b≠t)->h.get? b=some o->h'.get? b=some o
 slot:∀ b o,b∈FL->h.get? b=some o->∃ sl,h'.get? b=some {o with slots:=sl}
 exc:∃ vs,h'.get? e=some ⟨.ref C,od,.fields vs,#[]⟩/\t7 h' vs e T'
 new:(∃ t,T'=some t/\h.objs.size<=t)\/(T'=T/\T≠none)
 there:∀ t o,T=some t->h.get? t=some o->∃ o',h'.get? t=some o'
theorem aIB{base:Heap}{env:Env}{outer:List Env}{L e C:Addr}{od:Option Addr}{vs:Array Value}{T:Option Addr}{Q:Unit->Shared->Prop}
  (hfr:A.frames=some (env::outer)) (hl:s.heap.FunFrames base (env::outer)) (hf:env.frame=some L) (he:s.heap.get? e=some ⟨.ref C,od,.fields vs,#[]⟩) (ht:t7 s.heap vs e T)
  (h:∀ h' T',T'≠none->Noted ((env::outer).filterMap (·.frame)) e T C od s.heap h' T'->Q () {s with heap:=h'}) :
  wpAny M A (noteFrame (.ref e) env) Q E s:=by
 have frF:∀ b∈(env::outer).filterMap (·.frame),∃ o,s.heap.get? b=some o/\∀ vs,o.data≠.fields vs:=fun b hb=>(hl.mem hb).2
 have hene:e∉(env::outer).filterMap (·.frame):=fun hm=>by
  obtain ⟨o,ho,hnf⟩:=frF e hm
  rw[he] at ho;injection ho with ho;subst ho;exact hnf vs rfl
 have h1s:1 < vs.size:=by
  unfold t7 at ht
  cases T with
  | none=>exact (DN.mp ht).1
  | some t=>exact (DN.mp ht.1).1
 have make:∀ (hp:Heap) (head:Value) (hadNext:Bool),hp.FunFrames base (env::outer)->hp.objs.size=s.heap.objs.size->hp.get? e=some ⟨.ref C,od,.fields vs,#[]⟩->
   (∀ b o,(∀ t,T=some t->b≠t)->s.heap.get? b=some o->hp.get? b=some o)->(∀ t o,T=some t->s.heap.get? t=some o->∃ o',hp.get? t=some o'/\t∉(env::outer).filterMap (·.frame)/\t≠e)->
   wpAny M A (do let a <-frameOf env;let pl <-entryPlaceOf L hadNext;let b <-EntryCells.newEntry head a .none (rawInt L) .none pl;setField (.ref e) 1 b) Q E {s with heap:=hp}:=by
  intro hp head hadNext hlp hsz hep kp tp
  refine AA (wpAny_frameOf_fun (s:={s with heap:=hp}) hfr hlp hf fun h₁ hs₁=>?_)
  refine AA (wpAny_entryPlaceOf fun pl hpl=>?_)
  unfold EntryCells.newEntry newFields
  refine AA (CN ?_ (hpl.sizeOk5 _ _ _ _ _))
  have he₁:h₁.get? e=some ⟨.ref C,od,.fields vs,#[]⟩:=(hs₁.2.1 e hene).trans hep
  have he₂:=AC (h:=h₁) {cls:=.type "traceback",dict:=none,data:=.fields ([head,.ref L,.none,rawInt L,.none]++(if pl.isEmpty then List.replicate 6 Value.none else pl)).toArray} he₁
  refine EL he₂ rfl h1s ?_
  have hTe:h₁.objs.size≠e:=DD (AM he₁)
  have he₃:=CJ (Obj.mapFields (·.setIfInBounds 1 (Value.ref h₁.objs.size))) he₂ rfl
  have hT₃:=(D0 (h₁.push {cls:=.type "traceback",dict:=none,data:=.fields ([head,.ref L,.none,rawInt L,.none]++(if pl.isEmpty then List.replicate 6 Value.none else pl)).toArray})
   (Obj.mapFields (·.setIfInBounds 1 (Value.ref h₁.objs.size))) (BN hTe)).trans (AX h₁ rfl)
  have keep:∀ b o,b≠e->h₁.get? b=some o->
    ((h₁.push {cls:=.type "traceback",dict:=none,data:=.fields ([head,.ref L,.none,rawInt L,.none]++(if pl.isEmpty then List.replicate 6 Value.none else pl)).toArray}).update e (Obj.mapFields (·.setIfInBounds 1 (Value.ref h₁.objs.size)))).get? b=some o:=
   fun b o hbe hb=>by
    rw[D0 _ _ (BN hbe)]
    exact AC _ hb
  refine h _ (some h₁.objs.size) (by simp) ⟨fun b o hb hbe hbt q=>?_,fun b o hb q=>?_,⟨vs.setIfInBounds 1 (.ref h₁.objs.size),?_,?_⟩,.inl ⟨_,rfl,by rw[hs₁.1,hsz];exact AK _⟩,fun t o e1 e2=>?_⟩
  ·exact keep b o hbe ((hs₁.2.1 b hb).trans (kp b o hbt q))
  ·have hbt:∀ t,T=some t->b≠t:=fun t e1 z=>by
    obtain ⟨o',q',z2,_⟩:=tp t o e1 (z▸q)
    exact z2 (z▸hb)
   obtain ⟨sl,q'⟩:=hs₁.2.2 b o (kp b o hbt q)
   exact ⟨sl,keep b _ (fun z=>hene (z▸hb)) q'⟩
  ·exact he₃
  ·refine ⟨by simp[h1s],hTe,_,_,rawInt L,hT₃,rfl,by first|(simp;done)|(rcases hpl with rfl|⟨_,_,_,_,_,_,_,rfl⟩<;>simp)⟩
  ·obtain ⟨o',q',z2,z3⟩:=tp t o e1 e2
   exact ⟨o',keep t o' z3 ((hs₁.2.1 t z2).trans q')⟩
 unfold noteFrame
 simp only[hf]
 cases T with
 | none=>
  refine AA (BV he rfl ht ?_)
  rw[AH (by decide)]
  exact make s.heap .none _ hl rfl he (fun b o _ q=>q) (fun t o e1=>nomatch e1)
 | some t=>
  obtain ⟨ht1,hte,oT,ts,x,hT,hdT,h3⟩:=ht
  have tFL:t∉(env::outer).filterMap (·.frame):=fun hm=>by
   obtain ⟨o,ho,hnf⟩:=frF t hm
   rw[hT] at ho;injection ho with ho;subst ho;exact hnf ts hdT
  refine AA (BV he rfl ht1 ?_)
  rw[AG (show (Value.ref t != Value.none)=true from by simp)]
  refine AA (BV hT hdT h3 ?_)
  by_cases hx:(x == rawInt L)=true
  ·rw[AG hx]
   refine AD (h s.heap (some t) (by simp) ⟨fun b o _ _ _ q=>q,fun b o _ q=>⟨o.slots,q⟩,⟨vs,he,ht1,hte,oT,ts,x,hT,hdT,h3⟩,.inr ⟨rfl,by simp⟩,fun t' o e1 q=>⟨o,q⟩⟩)
  ·rw[AH hx]
   refine AA (EL hT hdT (DN.mp h3).1 ?_)
   have other:∀ b,b≠t->(s.heap.update t (Obj.mapFields (·.setIfInBounds 3 Value.none))).get? b=s.heap.get? b:=fun b hb=>D0 _ _ (BN hb)
   have hT':=CJ (Obj.mapFields (·.setIfInBounds 3 Value.none)) hT (EX (DV hdT _))
   refine make (s.heap.update t (Obj.mapFields (·.setIfInBounds 3 Value.none))) _ _ (hl.of_keeps fun b o hb hnf=>⟨o,(other b fun q=>?_).trans hb,rfl⟩) (CC ..).1 ((other e (BN hte)).trans he) (fun b o hb q=>(other b (hb t rfl)).trans q) (fun t' o e1 q=>?_)
   ·rw[q,hT] at hb;injection hb with hb;subst hb;exact hnf ts hdT
   ·cases e1
    exact ⟨_,hT',tFL,hte⟩
theorem aEJ{e C t:Addr}{od:Option Addr}{vs:Array Value}{fr:Option Addr}{Q:Unit->Shared->Prop}(he:s.heap.get? e=some ⟨.ref C,od,.fields vs,#[]⟩)(ht:t7 s.heap vs e (some t))
  (h:∀ h',Heap.SameBut t s.heap h'->t7 h' vs e (some t)->Q () {s with heap:=h'}):wpAny M A (setFlight (.ref e) fr) Q E s:=by
 obtain ⟨ht1,hte,oT,ts,x,hT,hdT,h3⟩:=ht
 unfold setFlight
 refine AA (BV he rfl ht1 ?_)
 rw[AG (show (Value.ref t != Value.none)=true from by simp)]
 have hsz:=(DN.mp h3).1
 refine EL hT hdT hsz (h _ (CC ..) ⟨ht1,hte,_,_,_,CJ _ hT (EX (DV hdT _)),DV hdT _,Array.getElem?_setIfInBounds_self_of_lt hsz⟩)
end
end SX
namespace L2
open PySem PySem.Spec PyProof.Rows
def ExN(e C:Addr)(od:Option Addr):HO:=.ext fun h=>∃ vs,h.get? e=some ⟨.ref C,od,.fields vs,#[]⟩/\vs[1]? = some .none
def ExO(e C:Addr)(od:Option Addr):HO:=.ext fun h=>∃ vs,h.get? e=some ⟨.ref C,od,.fields vs,#[]⟩
section
variable{P:Program}{w:World}{H:Hp}{h:Heap}{e C:Addr}{od:Option Addr}
theorem aF4{vs:Array Value}(a:h.get? e=some ⟨.ref C,od,.fields vs,#[]⟩):cO P w H h e (ExO e C od):=
 ⟨⟨vs,a⟩,⟨_,a⟩,fun h1 h2 ⟨vs,a⟩ k=>⟨vs,k _ a⟩⟩
theorem zY(ok:HOk P w H h)(q:H e=some (ExO e C od)):∃ vs,h.get? e=some ⟨.ref C,od,.fields vs,#[]⟩:=(ok e _ q).1
end
structure FlyAt(X:Cx)(H:Hp)(h:Heap)(e C:Addr)(od:Option Addr)(traced:Bool):Prop where
 tr:H e=some (ExO e C od)
 tb:∃ vs T,h.get? e=some ⟨.ref C,od,.fields vs,#[]⟩/\SX.t7 h vs e T/\(∀ t,T=some t->H t=none/\X.s₀.heap.objs.size<=t/\∀ p∈X.pn,p.1≠t)/\(traced=true->T≠none)
def Fly(X:Cx)(E:XK)(ev:Value)(s':Shared):Prop:=∃ e C od σ H',ev=.ref e/\Inv X [] σ H' s'/\FlyAt X H' s'.heap e C od false/\E (.ref C) (some e) H'
abbrev Cx.fly(X:Cx)(E:XK):Cx:=X.wish (Fly X E)
def nW(X:Cx):Prop:=X.stack=X.env::X.outer/\X.env.frame=some X.env.locals
section
variable{X:Cx}{σ:St}{H:Hp}{s:Shared}{e C:Addr}{od:Option Addr}{b:Bool}
theorem zZ(I:Inv X [] σ H s){t:Addr}{oT:Obj}{ts:Array Value}(hT:s.heap.get? t=some oT)(hd:oT.data=.fields ts):t≠X.env.locals/\(∀ x c,X.env.cells.lookup x=some c->c≠t):=by
 refine ⟨fun z=>?_,fun x c q z=>?_⟩
 ·obtain ⟨m,⟨o,es,ep,ho,hd',_⟩,_⟩:=I.loc
  rw[<-z,hT] at ho;cases ho;rw[hd] at hd';cases hd'
 ·obtain ⟨v,o,ho,hd'⟩:=I.cell x c q
  rw[z,hT] at ho;cases ho;rw[hd] at hd';cases hd'
theorem pQ{Q:Unit->Shared->Prop}{E':Value->Shared->Prop}(hO:nW X)(I:Inv X [] σ H s)(f:FlyAt X H s.heap e C od b)(h:∀ s',Inv X [] σ H s'->FlyAt X H s'.heap e C od true->Q () s') :
  wpAny (model X.prog X.w) X.A (noteFrame (.ref e) X.env) Q E' s:=by
 obtain ⟨hst,hfm⟩:=hO
 obtain ⟨vs,T,he,ht,hT,_⟩:=f.tb
 have hfr:X.A.frames=some (X.env::X.outer):=by rw[<-hst];exact I.ok.frames
 have hl:s.heap.FunFrames X.base (X.env::X.outer):=by have:=I.stack;rw[hst] at this;exact this
 have hFL:(X.env::X.outer).filterMap (·.frame)=X.env.locals::X.fs:=by rw[EG,hfm];rfl
 refine SX.aIB (T:=T) hfr hl hfm he ht fun h' T' hT' N=>?_
 rw[hFL] at N
 have trk:∀ c u,H c=some u->c∉X.env.locals::X.fs:=fun c u q z=>by
  have:=I.stkFree c (by unfold frs;rw[hst,hFL];exact z)
  rw[q] at this;cases this
 have nT:∀ c u,H c=some u->∀ t,T=some t->c≠t:=fun c u q t e1 z=>by
  have:=(hT t e1).1
  rw[<-z,q] at this;cases this
 have hok':HOk X.prog X.w H h':=fun c u q=>by
  by_cases hc:c=e
  ·subst hc
   rw[f.tr] at q;cases q
   obtain ⟨vs',q',_⟩:=N.exc
   exact aF4 q'
  ·refine (I.hok c u q).stay (fun c' v hc' q'=>N.keep c' v ?_ ?_ ?_ q') (fun _ q=>q) (fun _ _ q=>q) fun _ _ q=>q
   ·rcases hc' with z|z
    ·rw[z];exact trk c u q
    ·exact trk c' _ z
   ·rcases hc' with z|z
    ·rw[z];exact hc
    ·intro zz;rw[zz,f.tr] at z;cases z
   ·rcases hc' with z|z
    ·rw[z];exact nT c u q
    ·exact nT c' _ z
 have I':Inv X [] σ H {s with heap:=h',gens:=s.gens,drawn:=s.drawn,toks:=s.toks}:=by
  refine I.step (ch:=T.toList) (fun c hc=>?_) (fun c o h1 h2 h3 q n=>?_) (fun c o h1 h2 h3 q n=>N.slot c o (AN _ h2) q) (fun _ _ _ _ n=>n) (fun c o h3 q=>?_) (fun _ _ q=>q) (fun _ _ _ q=>q) (fun _ _ q=>q) (fun m hm=>?_) hok' I.bare
  ·have e1:T=some c:=by cases T<;>simp at hc;rw[hc]
   obtain ⟨t1,t2,t3⟩:=hT c e1
   rw[e1] at ht
   obtain ⟨_,_,oT,ts,x,hTo,hTd,_⟩:=ht
   obtain ⟨a1,a2⟩:=zZ I hTo hTd
   exact ⟨.inr t2,a1,a2,fun p hp=>t3 p (by simpa using hp)⟩
  ·refine N.keep c o ?_ ?_ ?_ q
   ·intro z
    rcases AS.mp z with z|z
    ·exact h1 z
    ·exact h2 z
   ·intro z;rw[z,f.tr] at n;cases n
   ·intro t e1 z;exact h3 (by rw[e1,z];simp)
  ·by_cases hc:c=e
   ·subst hc
    obtain ⟨vs',q',_⟩:=N.exc
    exact ⟨_,q'⟩
   ·by_cases hF:c∈X.env.locals::X.fs
    ·obtain ⟨sl,q'⟩:=N.slot c o hF q
     exact ⟨_,q'⟩
    ·exact ⟨o,N.keep c o hF hc (fun t e1 z=>h3 (by rw[e1,z];simp)) q⟩
  ·obtain ⟨o,es,ep,ho,r⟩:=hm
   obtain ⟨sl,q'⟩:=N.slot _ o AV ho
   exact ⟨_,es,ep,q',r⟩
 refine h _ I' ⟨f.tr,?_⟩
 obtain ⟨vs',q',t'⟩:=N.exc
 refine ⟨vs',T',q',t',fun t e1=>?_,fun _=>hT'⟩
 rcases N.new with ⟨t2,e2,hle⟩|⟨e2,_⟩
 ·rw[e1] at e2;cases e2
  refine ⟨I.hok.fresh hle,BI I.sz hle,fun p hp z=>?_⟩
  have:=AM (I.pin p (C0 _ hp)).1
  rw[z] at this
  exact absurd (AT this hle) (BM _)
 ·exact hT t (e2▸e1)
theorem oW{Q:Unit->Shared->Prop}{E':Value->Shared->Prop}{fr:Option Addr}{A:Around}(I:Inv X [] σ H s)(f:FlyAt X H s.heap e C od true)(h:∀ s',Inv X [] σ H s'->FlyAt X H s'.heap e C od true->Q () s') :
  wpAny (model X.prog X.w) A (setFlight (.ref e) fr) Q E' s:=by
 obtain ⟨vs,T,he,ht,hT,hn⟩:=f.tb
 cases T with
 | none=>exact absurd rfl (hn rfl)
 | some t=>
  obtain ⟨t1,t2,t3⟩:=hT t rfl
  refine SX.aEJ he ht fun h' sb ht'=>?_
  obtain ⟨_,hte,oT,ts,x,hTo,hTd,_⟩:=ht
  obtain ⟨a1,a2⟩:=zZ I hTo hTd
  have I':Inv X [] σ H {s with heap:=h'}:=I.turned (t':=s.toks) (it:=t) (fun b o hb q=>(sb.2 b hb).trans q) t1 a1 (.inr t2) a2 fun p hp=>t3 p (by simpa using hp)
  exact h _ I' ⟨f.tr,vs,some t,(sb.2 e (BN hte)).trans he,ht',fun t' e1=>by cases e1;exact ⟨t1,t2,t3⟩,fun _=>by simp⟩
theorem aF5{Q:Value->Shared->Prop}{E':Value->Shared->Prop}{A:Around}(f:FlyAt X H s.heap e C od true)(h:∀ t,Q (.ref t) s):wpAny (model X.prog X.w) A (field (.ref e) 1) Q E' s:=by
 obtain ⟨vs,T,he,ht,hT,hn⟩:=f.tb
 cases T with
 | none=>exact absurd rfl (hn rfl)
 | some t=>exact BV he rfl ht.1 (h t)
theorem dN{E:XK}(hO:nW X):PassesOwn (model X.prog X.w) X.A X.env (Fly X E):=by
 rintro ev s' ⟨e,C,od,σ,H,rfl,I,f,q⟩
 refine pQ hO I f fun s2 I2 f2=>?_
 unfold cameBackBy
 refine AA (aF5 f2 fun t=>?_)
 rw[AH (by simp)]
 exact oW I2 f2 fun s3 I3 f3=>⟨e,C,od,σ,H,rfl,I3,⟨f3.tr,let ⟨vs,T,a,b,c,_⟩:=f3.tb;⟨vs,T,a,b,c,fun z=>nomatch z⟩⟩,q⟩
end
def CXe(P:Program)(w:World):CXT:=fun outer H s E ev s'=>∃ e C od H',ev=.ref e/\s'.os=s.os/\AllBare s'.gens/\Un (frs outer) [] H H' s.heap s'.heap/\HOk P w H' s'.heap/\H' e=some (ExO e C od) /\
 (∃ vs T,s'.heap.get? e=some ⟨.ref C,od,.fields vs,#[]⟩/\SX.t7 s'.heap vs e T/\∀ t,T=some t->H' t=none/\s.heap.objs.size<=t)/\E (.ref C) (some e) H'
section
variable{X:Cx}
theorem b8{E E':XK}(hE:∀ c e H,E c e H->E' c e H):nA (CXe X.prog X.w) (X.fly E') E:=by
 rintro pins σ H s ev s' I ⟨e,C,od,H',rfl,os,bare,un,hok,he,⟨vs,T,q1,q2,q3⟩,q⟩
 have I0:Inv X pins σ H s:=I.unwish
 have I1:Inv X [] σ H s:=I0.pins_of fun p hp=>absurd hp (by simp)
 have I2:Inv X [] σ H' s':=I1.call' os un hok bare (fun b hb=>absurd hb (by simp))
 refine ⟨e,C,od,σ,H',rfl,I2,⟨he,vs,T,q1,q2,fun t e1=>?_,fun z=>nomatch z⟩,hE _ _ _ q⟩
 obtain ⟨t1,t2⟩:=q3 t e1
 refine ⟨t1,BI I0.sz t2,fun p hp z=>?_⟩
 have:=AM (I0.pin p (C0 _ hp)).1
 rw[z] at this
 exact absurd (AT this t2) (BM _)
theorem PSs.unfly{E:XK}{st:List Stmt}{t:TS}(h:PSs (X.fly E) st t)(hx:∀ e s',Fly X E e s'->X.xe e s'):PSs X st t:=fun pins s σ H D I hw=>
 BP (h pins s σ H D (I.wish _) hw) (fun f s' q=>SP.unwish q) hx
end
theorem yJ{P:Program}{w:World}{K:Frag}{mg:Str->Option Value}{base:Heap}{N:List Str}{qual:Str}{scope:Scope}{f:Addr}{cd:Value}{A:Around}{outer:List Env}{s:Shared}{H:Hp}{E:XK}{ev:Value}{s':Shared}
  (h:Fly (j1 (CXe P w) P w K mg base N qual scope f cd A outer s H E) E ev s'):(j1 (CXe P w) P w K mg base N qual scope f cd A outer s H E).xe ev s':=by
 obtain ⟨e,C,od,σ,H',rfl,I,fl,q⟩:=h
 show wpAny (model P w) _ (leaving _ (.ref e)) _ _ s'
 unfold leaving
 have hO:nW (j1 (CXe P w) P w K mg base N qual scope f cd A outer s H E):=⟨rfl,rfl⟩
 refine AA (pQ hO I fl fun s2 I2 f2=>oW I2 f2 fun s3 I3 f3=>?_)
 obtain ⟨vs,T,a,b,c,_⟩:=f3.tb
 exact ⟨e,C,od,H',rfl,I3.os,I3.bare,I3.base,I3.hok,f3.tr,⟨vs,T,a,b,fun t e1=>⟨(c t e1).1,(c t e1).2.1⟩⟩,q⟩
section
variable{P:Program}{w:World}{K:Frag}{mg:Str->Option Value}{base:Heap}
theorem Fun.okX{x qual:Str}{st:Stmt}{f:Addr}{fd:FuncData}{N ps:List Str}{k:Nat}{sp:Sp}(F:Fun K x qual st f fd)(S:FnScope N ps (aN st))(len:∀ vs H Q E,sp vs H Q E->vs.length=ps.length)
  (hbody:∀ (cdv:Value) (A:Around) (outer:List Env) (s:Shared) (H:Hp) (vs:List V) (Q:VK) (E:XK),Room k (A.deeper (envOfC qual (aN st) s.heap.objs.size f cdv))->sp vs H Q E->
   ∃ t,PSs ((j1 (CXe P w) P w K mg base N qual (aN st) f cdv A outer s H E).fly E) (cQ st) t/\t {nx:=fun _ H'=>Q .non H',rt:=Q} (start N vs) H):FnOk P w K mg base (CXe P w) (k+1) f fd ps sp:=by
 obtain ⟨oc,od,kV,doc,pm,an,cdv,ct,osl,rfl,lk,hcd⟩:=F.ex
 refine aEC lk hcd S len fun A outer s H vs Q E hr hsp=>?_
 obtain ⟨t,h,q⟩:=hbody cdv A outer s H vs Q E hr hsp
 exact ⟨t,h.unfly fun _ _ z=>yJ z,q⟩
end
inductive TyX(K:Frag)(H:Hp):V->Value->Prop where
 | pl {x:V} {t:Value} (h:TyOf K H x t):TyX K H x t
 | exc {a W C:Addr} {d:Addr} {fs:List (Str×V)} (c:SX.ExcC K W C) (e:H a=some (ExO a C (some d))) (ed:H d=some (.xd fs)):TyX K H (.ref a) (.ref C)
 | exc0 {a W C:Addr} (c:SX.ExcC K W C) (e:H a=some (ExO a C none)):TyX K H (.ref a) (.ref C)
def t8:V->Option Value
 | .ty n=>some (.type n)
 | .ref a=>some (.ref a)
 | _=>none
theorem wX{x:V}{u v:Value}(h:t8 x=some v)(r:bC x u):u=v:=by
 cases x with
 | ty n=>cases h;exact r
 | ref a=>cases h;exact r
 | _=>cases h
theorem gS{X:Cx}:mL X (.builtin "isinstance") (fun xs H Q=>∃ x c t cv b,xs=[x,c]/\TyX X.K H x t/\t8 c=some cv/\PySem.W.kitOne X.K t cv=some b/\Q (.bl b) H):=by
 intro pins s σ H xs us Q I r h
 obtain ⟨x,c,t,cv,b,rfl,ty,hc,e,q⟩:=h
 obtain ⟨u,v,rfl,ru,rv⟩:=aEB r
 obtain rfl:=wX hc rv
 cases ty with
 | pl ty=>exact aFV I ru ty e fun tk=>⟨.bl b,H,I.tok _,rfl,q⟩
 | @exc a W C d fs cc ea ed=>
  cases (show u=Value.ref a from ru)
  obtain ⟨vs,hx⟩:=zY I.hok ea
  obtain ⟨mA,hns,r⟩:=(show cO X.prog X.w H s.heap d (.xd fs) from I.hok d _ ed)
  obtain ⟨od,hod,_⟩:=yF hns
  exact SX.vH (o:=some od) I.kIn cc ⟨hx,rfl,rfl,hod⟩ e fun tk=>⟨.bl b,H,I.tok _,rfl,q⟩
 | @exc0 a W C cc ea=>
  cases (show u=Value.ref a from ru)
  obtain ⟨vs,hx⟩:=zY I.hok ea
  exact SX.vH (o:=none) I.kIn cc ⟨hx,rfl,rfl,True.intro⟩ e fun tk=>⟨.bl b,H,I.tok _,rfl,q⟩
end L2
namespace SX
open PySem PySem.W
structure ExcAny(K:Frag)(C:Addr)(bm:List Value):Prop where
 lk:∃ nm q N bs hd sn sub ab col dd k0 k1 k2 k3 k5 newId,K.lookup C=some (excClassObj nm q C N bs bm hd sn sub ab col dd k0 k1 k2 k3 k5 newId)
 base:bm.contains (.type "BaseException")=true
theorem aCB{M:Model}{A:Around}{E:Value->Shared->Prop}{K:Frag}{C W:Addr}{bmC bmW:List Value}{s:Shared}{e:Addr}{oe:Obj}{Q:Bool->Shared->Prop}(X:K.In s.heap)(c:ExcAny K C bmC)(w:ExcAny K W bmW)
  (he:s.heap.get? e=some oe) (hcls:oe.cls=.ref C) (hq:Q ((Value.ref C::bmC).contains (.ref W)) s):wpAny M A (excMatches (.ref e) (.ref W)) Q E s:=by
 obtain ⟨nm,q,N,bs,hd,sn,sub,ab,col,dd,k0,k1,k2,k3,k5,nid,lC⟩:=c.lk
 obtain ⟨nm',q',N',bs',hd',sn',sub',ab',col',dd',k0',k1',k2',k3',k5',nid',lW⟩:=w.lk
 have hC:=X _ _ lC
 have hW:=X _ _ lW
 have hcB:(Value.ref W::bmW).contains (.type "BaseException")=true:=by rw[List.contains_cons,w.base,Bool.or_true]
 have f:=tc_notTuple
 obtain ⟨hp,g,d,t,os⟩:=s
 unfold excMatches
 repeat (first|(with_reducible refine EO he ?_;rw[hcls])|with_reducible refine EO hW ?_|(with_reducible refine FD hW ?_;rw[hcB])|with_reducible refine FD hC ?_|wp_step)
 cases hb:(Value.ref C::bmC).contains (.ref W)<;>(rw[hb] at hq;wp_walk;exact hq)
end SX
namespace L2
open PySem PySem.Spec PyProof.Rows
abbrev Cx.pnw(X:Cx)(pn:List (Addr×Obj)):Cx:={X with pn:=pn}
noncomputable abbrev Cx.inH(X:Cx)(e:Addr):Cx:={X with A:=X.A.mark (some (.ref e)),calm:=false,xe:=fun _ _=>False}
section
variable{X:Cx}{pins:List (Addr×Obj)}{σ:St}{H:Hp}{s:Shared}{e:Addr}
theorem Cx.Ok.pnw{X:Cx}(ok:X.Ok)(pn:List (Addr×Obj)):(X.pnw pn).Ok:=
 ⟨ok.mod,ok.kind,ok.glob,ok.blt,ok.above,ok.inj,ok.has,ok.cab,ok.hd,ok.frames,ok.stk,ok.exf,ok.bs,ok.bsz,ok.noex,ok.exfs,ok.funs,ok.frf⟩
theorem Cx.Ok.unpn{X:Cx}{pn:List (Addr×Obj)}(ok:(X.pnw pn).Ok):X.Ok:=
 ⟨ok.mod,ok.kind,ok.glob,ok.blt,ok.above,ok.inj,ok.has,ok.cab,ok.hd,ok.frames,ok.stk,ok.exf,ok.bs,ok.bsz,ok.noex,ok.exfs,ok.funs,ok.frf⟩
theorem Inv.toPn(I:Inv X pins σ H s):Inv (X.pnw (X.pn++pins)) [] σ H s:=
 ⟨I.ok.pnw _,I.os,I.bare,I.base,I.loc,I.cell,I.free,I.freeC,fun p hp=>I.pin p (by
  have z:p∈(X.pn++pins)++[]:=hp
  rw[C3] at z
  exact z),I.hok,I.len⟩
theorem Inv.ofPn{pl:List (Addr×Obj)}(I:Inv (X.pnw (X.pn++pins)) pl σ H s):Inv X pins σ H s:=
 ⟨I.ok.unpn,I.os,I.bare,I.base,I.loc,I.cell,I.free,I.freeC,fun p hp=>I.pin p (C0 _ hp),I.hok,I.len⟩
theorem SP.ofPn{pl:List (Addr×Obj)}{E:Value->Shared->Prop}{D:iS}{f:Flow}{s':Shared}(h:SP ((X.pnw (X.pn++pins)).wish E) pl D f s'):SP X pins D f s':=by
 cases f with
 | next=>obtain ⟨a,b,c,d⟩:=h;exact ⟨a,b,c.unwish.ofPn,d⟩
 | brk=>obtain ⟨a,b,c,d⟩:=h;exact ⟨a,b,c.unwish.ofPn,d⟩
 | cont=>obtain ⟨a,b,c,d⟩:=h;exact ⟨a,b,c.unwish.ofPn,d⟩
 | ret u=>obtain ⟨v,a,b,c,d⟩:=h;exact ⟨v,a,b,c.unwish.ofPn,d⟩
theorem Cx.Ok.inH{X:Cx}(ok:X.Ok)(e:Addr):(X.inH e).Ok:=
 ⟨ok.mod,ok.kind,ok.glob,ok.blt,ok.above,ok.inj,ok.has,ok.cab,(fun z=>nomatch z),ok.frames,ok.stk,ok.exf,ok.bs,ok.bsz,ok.noex,ok.exfs,ok.funs,ok.frf⟩
theorem Inv.inH(I:Inv X pins σ H s)(e:Addr):Inv (X.inH e) pins σ H s:=
 ⟨I.ok.inH e,I.os,I.bare,I.base,I.loc,I.cell,I.free,I.freeC,I.pin,I.hok,I.len⟩
theorem Inv.ofH(ok:X.Ok)(I:Inv (X.inH e) pins σ H s):Inv X pins σ H s:=
 ⟨ok,I.os,I.bare,I.base,I.loc,I.cell,I.free,I.freeC,I.pin,I.hok,I.len⟩
theorem nX{i:Nat}{n:Str}{hpos:Pos}{Q:Unit->Shared->Prop}{M:Model}{A:Around}{E':Value->Shared->Prop}(I:Inv X pins σ H s)(hN:X.N.Nodup)(hi:X.N[i]? = some n)(hk:X.env.kindOf n=some .local)
  (h:∀ s',Inv X pins (σ.set i none) H s'->Q () s'):wpAny M A (do bindName X.env n .none;unbindBehindTheSuite X.env n hpos) Q E' s:=by
 obtain ⟨m,hn,hl⟩:=id I.loc
 have hcls:(X.env.scope.kind == .class || (X.env.scope.kind == .module && X.env.locals != X.env.globals))=false:=by rw[I.ok.kind];rfl
 refine wpAny_nameGoes_keeps hk hn hcls fun h' v hn' hs=>h _ ?_
 obtain ⟨oL,_,_,hoL,_⟩:=id hn
 have neL:∀ b o,X.s₀.heap.get? b=some o->b≠X.env.locals:=fun b o e=>BL (AT (AM e) I.ok.above)
 refine ⟨I.ok,I.os,I.bare,⟨fun b o e n hb hx=>(hs.2 b (neL b o e)).trans (I.base.keep b o e n hb hx),fun b o e n hb hx=>?_,I.base.free,fun b o e hx=>?_,I.base.tups,I.base.frzs,I.base.tbls⟩,⟨_,hn',fun j y v' e1 e2 e3=>?_⟩,fun y c e=>?_,I.free,I.freeC,fun p hp=>?_,fun b ob e=>?_,by simpa using I.len⟩
 ·obtain ⟨sl,e1⟩:=I.base.slot b o e n hb hx
  exact ⟨sl,(hs.2 b (neL b o e)).trans e1⟩
 ·obtain ⟨o',e1⟩:=I.base.there b o e hx
  exact ⟨o',(hs.2 b (neL b o e)).trans e1⟩
 ·by_cases hj:j=i
  ·subst hj
   have hiσ:j < σ.length:=by rw[I.len];exact (AE.mp hi).1
   rw[CG hiσ] at e2;cases e2
  ·rw[BK (BN hj)] at e2
   obtain ⟨u',r',q⟩:=hl j y v' e1 e2 e3
   refine ⟨u',r',?_⟩
   rcases q with ⟨k,e⟩|⟨k,c,e,z⟩
   ·refine .inl ⟨k,?_⟩
    have:y≠n:=fun e=>hj (t5 hN e1 (e▸hi))
    simp[this,e]
   ·exact .inr ⟨k,c,e,z.sameBut hs (I.cne y c e)⟩
 ·obtain ⟨w',z⟩:=I.cell y c e
  exact ⟨w',z.sameBut hs (I.cne y c e)⟩
 ·obtain ⟨e,n,ne,nf,d⟩:=I.pin p hp
  exact ⟨(hs.2 p.1 ne).trans e,n,ne,nf,d⟩
 ·refine (I.hok b ob e).stay (fun c w' hc q=>(hs.2 c ?_).trans q) (fun _ q=>q) (fun _ _ q=>q) fun _ _ q=>q
  rintro rfl
  rcases hc with hc|hc
  ·rw[<-hc,I.free] at e;cases e
  ·rw[I.free] at hc;cases hc
end
structure Blt(mg:Str->Option Value):Prop where
 b_len:mg "len"=none
 b_isinstance:mg "isinstance"=none
 b_all:mg "all"=none
 b_max:mg "max"=none
 b_min:mg "min"=none
 b_int:mg "int"=none
 b_str:mg "str"=none
 b_bool:mg "bool"=none
 b_tuple:mg "tuple"=none
 b_list:mg "list"=none
 b_range:mg "range"=none
 b_enumerate:mg "enumerate"=none
 b_ValueError:mg "ValueError"=none
structure DefAt(K:Frag)(mg:Str->Option Value)(x:Str)(st:Stmt)(ps:List Str):Prop where
 ex:∃ f fd,Fun K x x st f fd/\iT K fd ps []/\mg x=some (.ref f)
def Calls(P:Program)(w:World)(K:Frag)(mg:Str->Option Value)(base:Heap)(CX:CXT)(k:Nat)(x:Str)(ps:List Str)(sp:Sp):Prop:=
 ∃ f fd,FnOk P w K mg base CX k f fd ps sp/\iT K fd ps []/\mg x=some (.ref f)/\PySem.W.keepIn K (.ref f)=true
section
variable{P:Program}{w:World}{K:Frag}{mg:Str->Option Value}{base:Heap}{x:Str}{st:Stmt}{N ps:List Str}{k:Nat}{sp:Sp}
theorem DefAt.ok(D:DefAt K mg x st ps)(S:FnScope N ps (aN st))(len:∀ vs H Q E,sp vs H Q E->vs.length=ps.length)
  (hbody:∀ (f:Addr) (cdv:Value) (A:Around) (outer:List Env) (s:Shared) (H:Hp) (vs:List V) (Q:VK) (E:XK),Room k (A.deeper (envOfC x (aN st) s.heap.objs.size f cdv))->sp vs H Q E->
   ∃ t,PSs (j1 CX0 P w K mg base N x (aN st) f cdv A outer s H E).nox (cQ st) t/\t {nx:=fun _ H'=>Q .non H',rt:=Q} (start N vs) H):Calls P w K mg base CX0 (k+1) x ps sp:=by
 obtain ⟨f,fd,F,b,m⟩:=D.ex
 exact ⟨f,fd,F.ok S len (hbody f),b,m,F.kp⟩
theorem DefAt.okX(D:DefAt K mg x st ps)(S:FnScope N ps (aN st))(len:∀ vs H Q E,sp vs H Q E->vs.length=ps.length)
  (hbody:∀ (f:Addr) (cdv:Value) (A:Around) (outer:List Env) (s:Shared) (H:Hp) (vs:List V) (Q:VK) (E:XK),Room k (A.deeper (envOfC x (aN st) s.heap.objs.size f cdv))->sp vs H Q E->
   ∃ t,PSs ((j1 (CXe P w) P w K mg base N x (aN st) f cdv A outer s H E).fly E) (cQ st) t/\t {nx:=fun _ H'=>Q .non H',rt:=Q} (start N vs) H):Calls P w K mg base (CXe P w) (k+1) x ps sp:=by
 obtain ⟨f,fd,F,b,m⟩:=D.ex
 exact ⟨f,fd,F.okX S len (hbody f),b,m,F.kp⟩
theorem Calls.imp{CX:CXT}{sp':Sp}(C:Calls P w K mg base CX k x ps sp)(h:∀ vs H Q E,sp' vs H Q E->sp vs H Q E):Calls P w K mg base CX k x ps sp':=by
 obtain ⟨f,fd,F,b,m,kp⟩:=C
 exact ⟨f,fd,F.imp h,b,m,kp⟩
end
section
variable{X:Cx}{CX:CXT}{k:Nat}{x:Str}{ps:List Str}{sp:Sp}{E:XK}{p pos:Pos}{e:Expr}{es:List Expr}{t:TA}
theorem b9(C:Calls X.prog X.w X.K X.mg X.base CX k x ps sp)(hr:Room k X.A)(hg:Gl X x)(hx:nA CX X E)(ha:PA X (e::es) t)(hdb:(x == ("__debug__":Str))=false:=by decide)
  (he:starEach (e::es) X.env=(false,eval e X.env)::starEach es X.env:=by rfl) (hpl:(backTo pos (starEach es X.env)).any (·.1)=false:=by rfl):PE X (.Call (.Name x p) (e::es) [] pos) (sH sp [] E t):=by
 obtain ⟨f,fd,F,b,m,kp⟩:=C
 exact aK8 F hr hg m kp b .nil hx ha hdb he hpl
end
def spI(C:Addr)(fs:List Str):Sp:=fun vs H Q _=>∃ e xs,vs=.ref e::xs/\xs.length=fs.length/\H e=some (ExN e C none)/\∀ d,H d=none->d≠e->Q .non (upd (upd H e (ExN e C (some d))) d (.xd (fs.zip xs)))
structure ErrAt(P:Program)(w:World)(K:Frag)(mg:Str->Option Value)(base:Heap)(x:Str)(fs:List Str)(W C:Addr):Prop where
 c:SX.ExcC K W C
 m:mg x=some (.ref C)
 na:∀ f∈fs,PySem.W.findIn K (.ref C) f=some none
 i:∃ fI fdI,FnOk P w K mg base CX0 1 fI fdI ("self"::fs) (spI C fs)/\PySem.W.findIn K (.ref C) "__init__"=some (some (.ref fI))/\PySem.W.typeIn K (.ref fI)=some (.type "function")/\iT K fdI ("self"::fs) []
theorem DatV.tup_of{K:Frag}{H:Hp}{v:V}{ds:List PyData}(h:DatV K H v (.tuple ds)):∃ a xs,v=.ref a/\SqT K H a xs/\DatVs K H xs ds:=by
 cases h with
 | tup h1 h2=>exact ⟨_,_,rfl,h1,h2⟩
theorem DatV.lst_of{K:Frag}{H:Hp}{v:V}{ds:List PyData}(h:DatV K H v (.list ds)):∃ a xs,v=.ref a/\SqL K H a xs/\DatVs K H xs ds:=by
 cases h with
 | lst h1 h2=>exact ⟨_,_,rfl,h1,h2⟩
theorem DatV.int_of{K:Frag}{H:Hp}{v:V}{i:Int}(h:DatV K H v (.int i)):v=.int i:=by cases h;rfl
theorem DatV.str_of{K:Frag}{H:Hp}{v:V}{i:Str}(h:DatV K H v (.str i)):v=.str i:=by cases h;rfl
theorem DatVs.cons_of{K:Frag}{H:Hp}{xs:List V}{d:PyData}{ds:List PyData}(h:DatVs K H xs (d::ds)):∃ x t,xs=x::t/\DatV K H x d/\DatVs K H t ds:=by
 cases h with
 | cons h1 h2=>exact ⟨_,_,rfl,h1,h2⟩
theorem DatVs.nil_of{K:Frag}{H:Hp}{xs:List V}(h:DatVs K H xs []):xs=[]:=by cases h;rfl
theorem dP.nil:dP [] []:=⟨rfl,fun _ _ h=>by simp at h⟩
theorem dP.own{τ ρ:St}{u:Option V}(h:dP τ ρ):dP (none::τ) (u::ρ):=⟨by simp[h.1],fun i v e=>by
 cases i with
 | zero=>simp at e
 | succ i=>simpa using h.2 i v (by simpa using e)⟩
theorem dP.nil_of{σ:St}(h:dP [] σ):σ=[]:=GM.mp h.1
def SqS(K:Frag)(H:Hp)(a:Addr)(xs:List V):Prop:=SqL K H a xs\/SqT K H a xs
theorem SqS.same{K:Frag}{H H':Hp}{a:Addr}{xs:List V}(e:aI H H')(h:SqS K H a xs):SqS K H' a xs:=h.imp (SqL.same e) (SqT.same e)
theorem PI.or{X:Cx}{tg iter:Expr}{w1 w2:TI}(h1:PI X tg iter w1)(h2:PI X tg iter w2):PI X tg iter (fun σ H R=>w1 σ H R\/w2 σ H R):=fun pins s σ H R I h=>h.elim (h1 pins s σ H R I) (h2 pins s σ H R I)
def aSY(K:Frag)(tl:TE):TI:=fun σ H R=>tl σ H fun x H1=>∃ a,x=.ref a/\(((∃ xs,SqL K H1 a xs)/\R (Itl K a) H1)\/((∃ xs,SqT K H1 a xs)/\R (Itt K a) H1))
theorem aF6{X:Cx}{tg l:Expr}{tl:TE}(hl:PE X l tl):PI X tg l (aSY X.K tl):=by
 intro pins s σ H R I h
 refine thn (hl pins s σ H _ I h) fun v s1 zz0=>?_
 obtain ⟨x,H1,I1,r1,q1⟩:=zz0
 obtain ⟨a,e,q⟩:=q1
 subst e
 cases r1
 rcases q with ⟨⟨xs,hq⟩,q⟩|⟨⟨xs,hq⟩,q⟩
 ·obtain ⟨its,rv,p,hz⟩:=I1.list hq
  refine wpAny_pyIter_list p.isList ?_
  refine ⟨s1.heap.objs.size,[s1.heap.objs.size],_,_,H1,rfl,I1.kept (t':=s1.toks) fun b o e=>AC _ e,aFS a _,⟨_,AX _ rfl,rfl,rfl⟩,fun b hb=>?_,q⟩
  obtain rfl:=AQ.mp hb
  exact I1.fpOk (AK _) (I1.hok.fresh (AK _))
 ·obtain ⟨its,rv,p,hz⟩:=I1.tuple hq
  refine wpAny_pyIter_tuple (show s1.heap.IsTuple a its.toArray from p) ?_
  refine ⟨s1.heap.objs.size,[s1.heap.objs.size],_,_,H1,rfl,I1.kept (t':=s1.toks) fun b o e=>AC _ e,aD7 a _,⟨_,AX _ rfl,rfl,rfl⟩,fun b hb=>?_,q⟩
  obtain rfl:=AQ.mp hb
  exact I1.fpOk (AK _) (I1.hok.fresh (AK _))
def aRJ(i j:Int):Prop:=0 < j/\j < 2 ^ 64
theorem aIC{X:Cx}:OpR X (binaryOp .FloorDiv) (rI aRJ fun i j=>.int (i / j)):=opI fun i j _ _ _ _ _ hc q=>by
 have h1:(0:Int) < j:=hc.1
 have h2:j < 2 ^ 64:=hc.2
 have h3:j.natAbs < 2 ^ 64:=by omega
 have h4:j.natAbs.log2 < 64:=(Nat.log2_lt (by omega)).mpr h3
 exact floordiv_int (by omega) (by rw[Int.fdiv_eq_ediv_of_nonneg i (by omega)];exact q) (.inl (PyProof.noPylong_of_log2 (by omega)))
theorem sI{X:Cx}{P:Program}{w:World}:nA (CXe P w) X E0:=by
 rintro pins σ H s ev s' I ⟨e,C,od,H',rfl,os,bare,un,hok,he,hv,q⟩
 exact q.elim
section
variable{X:Cx}
def aSZ:V->Option Int->Option Int->Hp->VK->Prop:=fun x lo hi H Q=>∃ z,x=.str z/\z.length<=sizeLine/\Q (.str (Txt.slice z lo hi)) H
theorem aCP{v:Value}{o:Option Int}(h:IsPart v o):∃ l:Option (Int×Tok),partValue l=v/\l.map (·.1)=o:=by
 cases h with
 | none=>exact ⟨none,rfl,rfl⟩
 | int i t=>exact ⟨some (i,t),rfl,rfl⟩
theorem aOX:SlR X aSZ:=by
 intro pins s σ H x v vl vu lo hi sl Q I rx hs pl pu h
 obtain ⟨z,rfl,hz,q⟩:=h
 obtain ⟨t,rfl⟩:=rx
 obtain ⟨l,rfl,el⟩:=aCP pl
 obtain ⟨u,rfl,eu⟩:=aCP pu
 obtain ⟨o,ho,hc,hd⟩:=hs
 refine ⟨"str",_,PyProof.Rows.slot_str_getitem.lookup,rfl,?_⟩
 refine wpAny_getItem_str_slice (l:=l) (u:=u) (st:=none) ⟨o,ho,hc,hd⟩ rfl ?_
 have le:=Txt.slice_le z lo hi
 unfold Txt.slice at q le
 unfold sliceMade slicePicked
 rw[el,eu]
 simp only[CU,FP,Option.map_none,GA] at q le ⊢
 by_cases hb:((Builtin.Str.strSliceIndices lo hi 1 z.length).length == z.length)=true
 ·rw[AG hb] at q ⊢
  exact ⟨.str z,H,I,⟨t,rfl⟩,q⟩
 ·rw[AH hb] at q le ⊢
  exact ⟨BI le hz,.str _,H,I.tok _,⟨_,rfl⟩,q⟩
def aF7:V->List V->Hp->VK->Prop:=fun x vs H Q=>∃ z y i rest,x=.str z/\vs=[.str y]/\Builtin.Str.occurrences z y 0 z.length 1=i::rest/\Q (.int i) H
theorem aID:MtR X "str.index" aF7:=by
 intro pins s σ H x vs v us Q I rx rv h
 obtain ⟨z,y,i,rest,rfl,rfl,ho,q⟩:=h
 obtain ⟨t,rfl⟩:=rx
 obtain ⟨u,rfl,tu,rfl⟩:=rv.one
 exact call_gives F.slot_str_index rfl F.entry_str_index (F.args_str_index_2 _ _) (gives_str_index z y t tu i rest ho) ⟨.int i,H,I.tok _,⟨_,rfl⟩,q⟩
end
theorem z0{X:Cx}:mL X (.builtin "isinstance") (fun xs H Q=>∃ a ys c cv b,xs=[.ref a,c]/\SqT X.K H a ys/\t8 c=some cv/\PySem.W.kitOne X.K (.type "tuple") cv=some b/\Q (.bl b) H):=by
 intro pins s σ H xs us Q I r h
 obtain ⟨a,ys,c,cv,b,rfl,ha,hc,e,q⟩:=h
 obtain ⟨u,v,rfl,ru,rv⟩:=aEB r
 obtain rfl:=wX hc rv
 cases (show u=Value.ref a from ru)
 obtain ⟨its,_,⟨o,h1,h2,_⟩,_⟩:=I.tuple ha
 exact B4 PySem.W.kitx_tuple I.kIn ⟨o,h1,h2⟩ e (fun z=>nomatch z) fun tk=>⟨.bl b,H,I.tok _,rfl,q⟩
structure RoomH(k:Nat)(A:Around):Prop where
 dp:A.depth+3 * k+5 < recursionLimit
 un:A.units+16 * k+200 < cLine
theorem Room.h{k:Nat}{A:Around}(r:Room k A):RoomH k A:=⟨r.dp,r.un⟩
structure FnOkH(P:Program)(w:World)(K:Frag)(mg:Str->Option Value)(base:Heap)(k:Nat)(f:Addr)(fd:FuncData)(ps:List Str)(sp:Sp):Prop where
 len:∀ vs H Q E,sp vs H Q E->vs.length=ps.length
 run:∀ (A:Around) (outer:List Env) (s:Shared) (H:Hp) (args:Args) (us:List Value) (vs:List V) (Q:VK),RoomH k A->Env0 P w K mg base A outer s H->BindsTo s fd args (ps.zip us)->bG vs us->sp vs H Q E0->
  codeAny (model P w) A (.call (.ref f) args) (CR CX0 outer P w H s Q E0) s
theorem FnOkH.ok{P:Program}{w:World}{K:Frag}{mg:Str->Option Value}{base:Heap}{k:Nat}{f:Addr}{fd:FuncData}{ps:List Str}{sp:Sp}(F:FnOkH P w K mg base k f fd ps sp)(hE:∀ vs H Q E,sp vs H Q E->sp vs H Q E0):FnOk P w K mg base CX0 k f fd ps sp:=
 ⟨F.len,fun A outer s H args us vs Q E hr he hb hv hs=>EI (F.run A outer s H args us vs Q hr.h he hb hv (hE _ _ _ _ hs)) fun r s' h=>by
  cases r with
  | error e=>exact h
  | ok fl=>cases fl<;>exact h⟩
end L2
namespace Mc
open PySem L2 PyProof.Rows
inductive Tn where
 | n (i:Int)|w (x:Str)
noncomputable def Tn.v:Tn->V
 | .n i=>.int i
 | .w x=>.str x
noncomputable def Tn.d:Tn->PyData
 | .n i=>.int i
 | .w x=>.str x
structure Rw where
 l:Tn
 c:List (Int×Int)
 r:Tn
def eS(c:Int×Int):PyData:=.tuple [.int c.1,.int c.2]
def dE(r:Rw):PyData:=.tuple [r.l.d,.tuple (r.c.map eS),r.r.d]
def bE(rs:List Rw):PyData:=.tuple (rs.map dE)
inductive CellsAt(K:Frag)(H:Hp):List V->List (Int×Int)->Prop
 | nil:CellsAt K H [] []
 | cons {q:Addr} {a b:Int} {xs:List V} {cs:List (Int×Int)} (h:SqS K H q [.int a,.int b]) (t:CellsAt K H xs cs):CellsAt K H (.ref q::xs) ((a,b)::cs)
def zL(K:Frag)(H:Hp)(v:V)(r:Rw):Prop:=∃ p b cs,v=.ref p/\SqS K H p [r.l.v,.ref b,r.r.v]/\SqS K H b cs/\CellsAt K H cs r.c
inductive RowsAt(K:Frag)(H:Hp):List V->List Rw->Prop
 | nil:RowsAt K H [] []
 | cons {v:V} {r:Rw} {xs:List V} {rs:List Rw} (h:zL K H v r) (t:RowsAt K H xs rs):RowsAt K H (v::xs) (r::rs)
section
variable{K:Frag}{H H':Hp}
theorem CellsAt.same(e:aI H H'):∀ {xs:List V} {cs:List (Int×Int)},CellsAt K H xs cs->CellsAt K H' xs cs
 | _,_,.nil=>.nil
 | _,_,.cons h t=>.cons (h.same e) (t.same e)
theorem CellsAt.len:∀ {xs:List V} {cs:List (Int×Int)},CellsAt K H xs cs->xs.length=cs.length
 | _,_,.nil=>rfl
 | _,_,.cons h t=>by simp[t.len]
theorem zL.same(e:aI H H'){v:V}{r:Rw}(h:zL K H v r):zL K H' v r:=by
 obtain ⟨p,b,cs,h1,h2,h3,h4⟩:=h
 exact ⟨p,b,cs,h1,h2.same e,h3.same e,h4.same e⟩
theorem RowsAt.same(e:aI H H'):∀ {xs:List V} {rs:List Rw},RowsAt K H xs rs->RowsAt K H' xs rs
 | _,_,.nil=>.nil
 | _,_,.cons h t=>.cons (h.same e) (t.same e)
theorem RowsAt.len:∀ {xs:List V} {rs:List Rw},RowsAt K H xs rs->xs.length=rs.length
 | _,_,.nil=>rfl
 | _,_,.cons h t=>by simp[t.len]
end
def wY(K:Frag)(a:Addr)(xs:List V):Prop:=∃ (o:Obj) (its:Array Value) (n:Nat),K.lookup a=some o/\(o.cls=.type "tuple"/\o.dict=none)/\o.data=.seq its n/\its.size<=sizeLine/\bG xs its.toList
theorem wY.sq{K:Frag}{a:Addr}{xs:List V}(h:wY K a xs)(H:Hp):SqT K H a xs:=.inr h
theorem aLJ(i:Str):(PyData.str i).eqv (.str i)=true:=by rw[PyData.eqv.eq_6];simp
noncomputable def Tn.ok:Tn->Prop
 | .n _=>True
 | .w x=>PyData.strOk x=true
def Rw.ok(r:Rw):Prop:=r.l.ok/\r.r.ok
theorem aCQ:∀ {xs:List PyData},(∀ x∈xs,x.canLay0=true)->PyData.canLayAll0 xs=true
 | [],_=>by rfl
 | x::t,h=>by
  show (x.canLay0 && PyData.canLayAll0 t)=true
  rw[h x (AV ..),aCQ fun y hy=>h y (AN _ hy)];rfl
theorem yK{n:Nat}:∀ {xs:List PyData},(∀ x∈xs,x.depth<=n)->PyData.depthAll xs<=n
 | [],_=>CH _
 | x::t,h=>by
  show max x.depth (PyData.depthAll t)<=n
  exact Nat.max_le.mpr ⟨h x (AV ..),yK fun y hy=>h y (AN _ hy)⟩
def Sh(n:Nat)(d:PyData):Prop:=d.canLay0=true/\d.depth<=n
theorem sh_tup{n:Nat}{xs:List PyData}(h:∀ x∈xs,Sh n x):Sh (n+1) (.tuple xs):=⟨aCQ fun x hx=>(h x hx).1,by
 have:=yK fun x hx=>(h x hx).2
 show PyData.depthAll xs+1<=n+1
 omega⟩
theorem aOY(n:Nat)(i:Int):Sh n (.int i):=⟨rfl,CH _⟩
theorem vI(n:Nat){x:Str}(h:PyData.strOk x=true):Sh n (.str x):=⟨h,CH _⟩
theorem aKC(n:Nat){t:Tn}(h:t.ok):Sh n t.d:=by
 cases t with
 | n i=>exact aOY n i
 | w x=>exact vI n h
theorem Sh.shaped{n:Nat}{d:PyData}(h:Sh n d)(hn:n<=64):SeqAt.shaped d=true:=by
 show (d.canLay0 && decide (d.depth<=64))=true
 rw[h.1,AY (BI h.2 hn)];rfl
section
variable{K:Frag}{H:Hp}{p q:Addr}{xs ys:List V}{o:HO}
inductive NoL:PyData->Prop where
 | int (i:Int):NoL (.int i)
 | str (i:Str):NoL (.str i)
 | tup {ds:List PyData} (h:∀ d∈ds,NoL d):NoL (.tuple ds)
end
section
variable{K:Frag}{H:Hp}
theorem cells_of:∀ {xs:List V} {cs:List (Int×Int)},DatVs K H xs (cs.map eS)->CellsAt K H xs cs
 | xs,[],h=>by obtain rfl:=h.nil_of;exact .nil
 | xs,c::cs,h=>by
  obtain ⟨x,t,rfl,h1,h2⟩:=h.cons_of
  obtain ⟨a,ys,rfl,h3,h4⟩:=h1.tup_of
  obtain ⟨y0,t0,rfl,h5,h6⟩:=h4.cons_of
  obtain ⟨y1,t1,rfl,h7,h8⟩:=h6.cons_of
  obtain rfl:=h8.nil_of
  obtain rfl:=h5.int_of
  obtain rfl:=h7.int_of
  exact .cons (.inr h3) (cells_of h2)
end
section
variable{K:Frag}{h:Heap}{mg:Str->Option Value}
theorem b7{x:Str}{st:Stmt}{ps:List Str}{f:Addr}{oc:Value}{od an:Option Addr}{osl:Array (Option Value)}{kV doc pm cdv ct:Value}(X:K.In h)(G:h.Ns mainGlobals mg)
  (a:PySem.W.nsIn K mainGlobals x=some (some (.ref f))) (l:K.lookup f=some ⟨oc,od,.func (PySem.W.fnOf x x (hR st) (cQ st) (aN st) .none kV doc pm an cdv ct),osl⟩)
  (c:PySem.W.codeIn K cdv x=true) (k:PySem.W.keepIn K (.ref f)=true)
  (b:∀ (kV doc pm:Value) (an:Option Addr) (cdv ct:Value) (us:List Value),us.length=ps.length->bindArgs (PySem.W.fnOf x x (hR st) (cQ st) (aN st) .none kV doc pm an cdv ct) ⟨us,[]⟩=pure (ps.zip us)):DefAt K mg x st ps:=by
 have F:=aF2 (st:=st) l c k
 exact ⟨f,_,F,F.binds b,CM X G a⟩
end
section
variable{K:Frag}{h:Heap}{mg:Str->Option Value}
theorem aF8{W N:Addr}{bm bs sub:List Value}{nm q:Str}{hd ab:Bool}{sn:List Str}{col:Option Bool}{dd:Option Addr}{k0 k1 k2 k3 k5:Option Value}{newId:String}(l:K.lookup W=some (excClassObj nm q W N bs bm hd sn sub ab col dd k0 k1 k2 k3 k5 newId))(b:bm.contains (.type "BaseException")=true):SX.ExcAny K W bm:=⟨⟨_,_,_,_,_,_,_,_,_,_,_,_,_,_,_,_,l⟩,b⟩
theorem aLK{W C N:Addr}{bs sub:List Value}{nm q:Str}{ab:Bool}{sn:List Str}{col:Option Bool}{dd:Option Addr}{k0 k1 k2 k3 k5:Option Value}(l:K.lookup C=some (excClassObj nm q C N bs (.ref W::SX.jU) true sn sub ab col dd k0 k1 k2 k3 k5 "ValueError.__new__"))
 (sa:PySem.W.findIn K (.ref C) "__setattr__"=some (some (.builtin "object.__setattr__"))) (ga:PySem.W.findIn K (.ref C) "__getattribute__"=some (some (.builtin "BaseException.__getattribute__"))) (gh:PySem.W.findIn K (.ref C) "__getattr__"=some none) (cl:PySem.W.findIn K (.ref C) "__class__"=some (some (.builtin "object.__class__")))
 (clg:PySem.W.specialIn K (.builtin "object.__class__") "__get__"=some (some (.builtin "getset_descriptor.__get__"))) (clt:PySem.W.takesIn K (.builtin "object.__class__")=some true) (kp:PySem.W.keepIn K (.ref C)=true):SX.ExcC K W C:=⟨⟨_,_,_,_,_,_,_,_,_,_,_,_,_,_,l⟩,sa,ga,gh,cl,clg,clt,kp⟩
theorem aCR{t:Value}{C:Addr}{cd:ClassData}{b:Bool}(h0:(t == Value.ref C)=false)(h1:PySem.W.clsIn K C=some cd)(h2:PySem.W.typeIn K (.ref C)=some (.type "type"))(h3:PySem.W.subIn K t (.ref C)=some b):PySem.W.kitOne K t (.ref C)=some b:=by
 unfold PySem.W.kitOne
 rw[h0,AH (by decide)]
 unfold PySem.W.kitCls
 simp only[h1,h2]
 rw[AG (by rfl)]
 exact h3
theorem aF9{t:Value}{T:String}{b:Bool}(h0:(t == Value.type T)=false)(h1:PySem.W.kitMeta T=true)(h3:PySem.W.subIn K t (.type T)=some b):PySem.W.kitOne K t (.type T)=some b:=by
 unfold PySem.W.kitOne
 rw[h0,AH (by decide)]
 unfold PySem.W.kitCls
 show (if PySem.W.kitMeta T=true then _ else _)=_
 rw[AG h1]
 exact h3
theorem z7{C:Addr}:PySem.W.kitOne K (.ref C) (.ref C)=some true:=by
 unfold PySem.W.kitOne
 rw[AG (by simp)]
end
noncomputable def eO(n c:Nat):Bool:=decide (97<=c/\c < 97+n)
theorem aLL{n:Nat}(h1:1<=n)(h2:n<=3):(Txt.slice "abc" none (some (n:Int))).cps.toList=[97,98,99].take n:=by
 obtain rfl|rfl|rfl:n=1\/n=2\/n=3:=by omega
 all_goals decide +kernel
theorem aGA{c:Nat}(h:eO 3 c=true):∃ r,Builtin.Str.occurrences "abc" ⟨#[c]⟩ 0 ("abc":Str).length 1=(c - 97)::r:=by
 have h:=BO h
 refine ⟨[],?_⟩
 obtain rfl|rfl|rfl:c=97\/c=98\/c=99:=by omega
 all_goals decide +kernel
end Mc
namespace L2
open PySem PySem.Spec PyProof.Rows
section
variable{κ:Type}[DecidableEq κ]
theorem l8.getD{o:Option V}{u:Option Value}{d:V}{d':Value}(r:l8 o u)(rd:bC d d'):bC (o.getD d) (u.getD d'):=by
 cases o with
 | none=>cases u with
  | none=>exact rd
  | some _=>exact (show False from r).elim
 | some _=>cases u with
  | none=>exact (show False from r).elim
  | some _=>exact r
theorem KV.length{kvs:List (κ×V)}{vs:List (κ×Value)}(r:KV kvs vs):kvs.length=vs.length:=Paired.length r
end
theorem aKD{P:Program}{w:World}{k:Key}{u:Value}(r:bC (kV k) u):(eE P w).is k u=true:=by
 cases k with
 | inl i=>obtain ⟨t,e⟩:=(show ∃ t,u=Value.int i t from r);subst e;exact aB9 P w i t
 | inr x=>obtain ⟨t,e⟩:=(show ∃ t,u=Value.str x t from r);subst e;exact aCA P w x t
section
variable{X:Cx}{pins:List (Addr×Obj)}{σ:St}{H:Hp}{s:Shared}{a:Addr}{y v:V}{u r:Value}{o:Option V}{A:Around}{E:Value->Shared->Prop}
theorem Inv.big(I:Inv X pins σ H s):sysModules < s.heap.objs.size:=by
 have h:mainGlobals < s.heap.objs.size:=(I.mod.glob.keeps I.bk).lt
 exact Nat.lt_trans (by decide) h
theorem mV{h':Heap}{t':Nat}{ob:HO}(I:Inv X pins σ H s)(mu:Mut (H a))(hs:Heap.SameBut a s.heap h')(he:∃ q,h'.get? a=some q)(new:cO X.prog X.w (upd H a ob) h' a ob) :
  Inv X pins σ (upd H a ob) {s with heap:=h',toks:=t'}:=
 I.write (x:=a) (e:=a) mu (.inl rfl) (fun b q hb z=>(hs.2 b hb).trans z) he new
end
def aOZ(i:Expr):Prop:=∀ ov iv,subscripted i false ov iv=operate [ov,iv] (getItem ov iv)
theorem aLM{prog:Program}{w:World}{A:Around}{E:Value->Shared->Prop}{s:Shared}{env:Env}{value slice:Expr}{pos:Pos}{T id:String}{Q:Value->Shared->Prop}
  (hl:typeLookup (.type T) "__getitem__"=pure (some (.builtin id))) (hs:aOZ slice)
  (h:wpAny (model prog w) A (eval value env) (fun o s₁=>wpAny (model prog w) A (eval slice env) (fun i s₂=>s₂.TypeIs o T/\wpAny (model prog w) A (getItem o i) Q E s₂) E s₁) E s) :
  wpAny (model prog w) A (eval (.Subscript value slice pos) env) Q E s:=by
 refine Subscript_ (BP h (fun o s₁ h₁=>BP h₁ (fun i s₂ h₂=>?_) fun _ _ x=>x) fun _ _ x=>x)
 obtain ⟨hT,h₂⟩:=h₂
 unfold subscriptTail
 refine AA ?_
 rw[getitemInPython_of_ne hT.not_modules]
 refine AA (wpAny_specialOf hT hl ?_)
 have fin:wpAny (model prog w) A (subscripted slice false o i) (fun r s₃=>wpAny (model prog w) A (letTemporaryGo value o r >>= fun _=>pure r) Q E s₃) E s₂:=by
  rw[hs o i]
  exact wpAny_operating (BP h₂ (fun r s₃ h₃=>AA (wpAny_letTemporaryGo (AD h₃))) fun _ _ x=>x)
 first
  | exact AD (AA fin)
  | exact AA (AD (AA fin))
  | exact AA fin
structure M1(X:Cx)(o:Expr)(m:Str)(apos:Pos)(e:Expr)(cpos:Pos):Prop where
 base:attributeBase o m X.env (eval o X.env)=eval o X.env
 few:((backTo cpos (starEach [e] X.env)).all (fun x=>!x.1) && (backToKw cpos (keywordEach [] X.env)).all (fun x=>x.1.isSome)
  && decide (([e]:List Expr).length+([]:List Keyword).length+(if ([]:List Keyword).isEmpty then 0 else 1) < 30))=true
 line:(apos.endLine == cpos.line)=true
 trees:backTo cpos (starEach [e] X.env)=[(false,eval e X.env)]
structure M2(X:Cx)(o:Expr)(m:Str)(apos:Pos)(e f:Expr)(cpos:Pos):Prop where
 base:attributeBase o m X.env (eval o X.env)=eval o X.env
 few:((backTo cpos (starEach [e,f] X.env)).all (fun x=>!x.1) && (backToKw cpos (keywordEach [] X.env)).all (fun x=>x.1.isSome)
  && decide (([e,f]:List Expr).length+([]:List Keyword).length+(if ([]:List Keyword).isEmpty then 0 else 1) < 30))=true
 line:(apos.endLine == cpos.line)=true
 trees:backTo cpos (starEach [e,f] X.env)=[(false,eval e X.env),(false,eval f X.env)]
def oX(K:Frag)(H:Hp)(ks:List (List Key×Addr)):Prop:=∀ p∈ks,SqT K H p.2 (p.1.map kV)
theorem oX.same{K:Frag}{H H':Hp}{ks:List (List Key×Addr)}(e:aI H H')(h:oX K H ks):oX K H' ks:=fun p hp=>SqT.same e (h p hp)
theorem SqT.ext{K:Frag}{H:Hp}{a q:Addr}{φ:Heap->Prop}{o:HO}{xs:List V}(h:SqT K H q xs)(ha:H a=some (.ext φ)):SqT K (upd H a o) q xs:=by
 rcases h with (h|⟨u,h⟩)|h
 ·refine .inl (.inl ?_)
  rw[aM (fun z=>by rw[z,ha] at h;cases h)];exact h
 ·refine .inl (.inr ⟨u,?_⟩)
  rw[aM (fun z=>by rw[z,ha] at h;cases h)];exact h
 ·exact .inr h
theorem SqL.ext{K:Frag}{H:Hp}{a q:Addr}{φ:Heap->Prop}{o:HO}{xs:List V}(h:SqL K H q xs)(ha:H a=some (.ext φ)):SqL K (upd H a o) q xs:=by
 rcases h with (h|⟨u,h⟩)|h
 ·refine .inl (.inl ?_)
  rw[aM (fun z=>by rw[z,ha] at h;cases h)];exact h
 ·refine .inl (.inr ⟨u,?_⟩)
  rw[aM (fun z=>by rw[z,ha] at h;cases h)];exact h
 ·exact .inr h
mutual
theorem DatV.ext{K:Frag}{H:Hp}{a:Addr}{φ:Heap->Prop}{o:HO}(ha:H a=some (.ext φ)):∀ {x:V} {d:PyData},DatV K H x d->DatV K (upd H a o) x d
 | _,_,.non=>.non
 | _,_,.bl b=>.bl b
 | _,_,.int i=>.int i
 | _,_,.str x=>.str x
 | _,_,.lst h ds=>.lst (h.ext ha) (DatVs.ext ha ds)
 | _,_,.tup h ds=>.tup (h.ext ha) (DatVs.ext ha ds)
theorem DatVs.ext{K:Frag}{H:Hp}{a:Addr}{φ:Heap->Prop}{o:HO}(ha:H a=some (.ext φ)):∀ {xs:List V} {ds:List PyData},DatVs K H xs ds->DatVs K (upd H a o) xs ds
 | _,_,.nil=>.nil
 | _,_,.cons h t=>.cons (DatV.ext ha h) (DatVs.ext ha t)
end
theorem oX.ext{K:Frag}{H:Hp}{a:Addr}{φ:Heap->Prop}{o:HO}{ks:List (List Key×Addr)}(h:oX K H ks)(ha:H a=some (.ext φ)):oX K (upd H a o) ks:=fun p hp=>SqT.ext (h p hp) ha
end L2
namespace Mc
open PySem L2 PyProof.Rows
def Tn.good(n:Int):Tn->Prop
 | .n i=>0<=i/\i < n
 | .w x=>x="by"\/x="out"
def nC(n:Int)(c:Int×Int):Prop:=0<=c.1/\c.1 < n/\(c.2=1\/c.2 = -1)
def Rw.good(n:Int)(r:Rw):Prop:=r.l.good n/\r.r.good n/\∀ c∈r.c,nC n c
theorem Tn.good.ok{n:Int}{t:Tn}(h:t.good n):t.ok:=by
 cases t with
 | n i=>trivial
 | w x=>
  rcases h with rfl|rfl
  · exact (show PyData.strOk _ = true by decide +kernel)
  · exact (show PyData.strOk _ = true by decide +kernel)
theorem Rw.good.ok{n:Int}{r:Rw}(h:r.good n):r.ok:=⟨h.1.ok,h.2.1.ok⟩
structure Mach(rs:List Rw)(sg:Nat):Prop where
 len:1<=rs.length
 len2:rs.length<=1000
 sg1:1<=sg
 sg3:sg<=3
 row:∀ r∈rs,r.good rs.length/\r.c.length=sg
def bU(sg:Nat)(z:List Nat):Prop:=z.length<=1000/\∀ c∈z,eO sg c=true
noncomputable def aW(rs:List Rw)(q:Int):Rw:=rs.getD q.toNat ⟨.n 0,[],.n 0⟩
noncomputable def bJ(rs:List Rw)(z:List Nat)(st:Int×Int):Tn×Int:=
 if st.1=0 then ((aW rs st.2).l,1) else if st.1=(z.length:Int)+1 then ((aW rs st.2).r,-1) else
  (.n ((aW rs st.2).c.getD (z.getD (st.1.toNat - 1) 97 - 97) (0,0)).1,((aW rs st.2).c.getD (z.getD (st.1.toNat - 1) 97 - 97) (0,0)).2)
def eJ(rs:List Rw)(z:List Nat)(st:Int×Int):Option (Int×Int):=
 match (bJ rs z st).1 with
 | .w _=>none
 | .n q=>some (st.1+(bJ rs z st).2,q)
def jF(rs:List Rw)(z:List Nat)(st:Int×Int):Prop:=0<=st.1/\st.1<=(z.length:Int)+1/\0<=st.2/\st.2 < (rs.length:Int)
theorem eG{rs:List Rw}{q:Int}(h0:0<=q)(h1:q < rs.length):rs[q.toNat]? = some (aW rs q):=by
 have h:q.toNat < rs.length:=by omega
 unfold aW
 rw[A3,AI h];rfl
theorem aCS{rs:List Rw}{sg:Nat}{z:List Nat}{st:Int×Int}(S:bU sg z)(V:jF rs z st)(h0:st.1≠0)(h1:st.1≠(z.length:Int)+1):∃ c,z[st.1.toNat - 1]? = some c/\eO sg c=true/\z.getD (st.1.toNat - 1) 97=c:=by
 obtain ⟨a,b,_,_⟩:=V
 have hl:st.1.toNat - 1 < z.length:=by omega
 refine ⟨z[st.1.toNat - 1],by simp[hl],S.2 _ (GC hl),by rw[A3,AI hl];rfl⟩
theorem z8{rs:List Rw}{sg:Nat}{z:List Nat}{st:Int×Int}(M:Mach rs sg)(S:bU sg z)(V:jF rs z st)(h0:st.1≠0)(h1:st.1≠(z.length:Int)+1) :
  ∃ c,(aW rs st.2).c[z.getD (st.1.toNat - 1) 97 - 97]? = some c/\(aW rs st.2).c.getD (z.getD (st.1.toNat - 1) 97 - 97) (0,0)=c/\nC rs.length c:=by
 obtain ⟨c,_,hs,e⟩:=aCS S V h0 h1
 rw[e]
 have hs:=BO hs
 have hr:=M.row _ (AL (eG V.2.2.1 V.2.2.2))
 have hl:c - 97 < (aW rs st.2).c.length:=by rw[hr.2];omega
 refine ⟨(aW rs st.2).c[c - 97],by simp[hl],by rw[A3,AI hl];rfl,hr.1.2.2 _ (GC hl)⟩
theorem vJ{rs:List Rw}{sg:Nat}{z:List Nat}{st st':Int×Int}(M:Mach rs sg)(S:bU sg z)(V:jF rs z st)(h:eJ rs z st=some st'):jF rs z st':=by
 have hr:=M.row _ (AL (eG V.2.2.1 V.2.2.2))
 obtain ⟨a,b,c,d⟩:=id V
 unfold eJ bJ at h
 by_cases h0:st.1=0
 ·simp only[AG h0] at h
  have g:=hr.1.1
  cases e:(aW rs st.2).l with
  | w x=>rw[e] at h;cases h
  | n q=>
   rw[e] at h g
   cases h
   exact ⟨by show 0<=st.1+1;omega,by show st.1+1<=_;omega,g.1,g.2⟩
 ·by_cases h1:st.1=(z.length:Int)+1
  ·simp only[AH h0,AG h1] at h
   have g:=hr.1.2.1
   cases e:(aW rs st.2).r with
   | w x=>rw[e] at h;cases h
   | n q=>
    rw[e] at h g
    cases h
    exact ⟨by show 0<=st.1 + -1;omega,by show st.1 + -1<=_;omega,g.1,g.2⟩
  ·obtain ⟨cc,_,e,g⟩:=z8 M S V h0 h1
   simp only[AH h0,AH h1] at h
   rw[e] at h
   cases h
   obtain ⟨g1,g2,g3⟩:=g
   refine ⟨?_,?_,g1,g2⟩
   ·show 0<=st.1+cc.2;rcases g3 with g3|g3<;>omega
   ·show st.1+cc.2<=_;rcases g3 with g3|g3<;>omega
theorem qX:∀ (N:Nat) (l:List Nat),l.Nodup->(∀ x∈l,x < N)->l.length<=N
 | 0,l,_,h=>by
  cases l with
  | nil=>exact AK _
  | cons a t=>exact absurd (h a (by simp)) (by omega)
 | N+1,l,hn,h=>by
  have ih:=qX N (l.erase N) (hn.erase N) (fun x hx=>by
   have:=(hn.mem_erase_iff).mp hx
   have h2:=h x this.2
   omega)
  have:=List.length_erase (a:=N) (l:=l)
  split at this<;>omega
theorem pR{rs:List Rw}{z:List Nat}{l:List (Int×Int)}(hn:l.Nodup)(hv:∀ st∈l,jF rs z st):l.length<=(z.length+2) * rs.length:=by
 have h:=qX ((z.length+2) * rs.length) (l.map fun st=>st.1.toNat * rs.length+st.2.toNat) ?_ ?_
 ·rw[AB] at h;exact h
 ·unfold List.Nodup
  rw[List.pairwise_map]
  refine GD (fun {a b} ha hb hab e=>hab ?_) hn
  obtain ⟨a1,a2,a3,a4⟩:=hv a ha
  obtain ⟨b1,b2,b3,b4⟩:=hv b hb
  have hm:0 < rs.length:=by omega
  have e1:(a.1.toNat * rs.length+a.2.toNat) / rs.length=(b.1.toNat * rs.length+b.2.toNat) / rs.length:=by rw[e]
  have e2:(a.1.toNat * rs.length+a.2.toNat) % rs.length=(b.1.toNat * rs.length+b.2.toNat) % rs.length:=by rw[e]
  have ha2:a.2.toNat < rs.length:=by omega
  have hb2:b.2.toNat < rs.length:=by omega
  rw[E3,Nat.mul_add_div hm,E3 b.1.toNat,Nat.mul_add_div hm,Nat.div_eq_of_lt ha2,Nat.div_eq_of_lt hb2] at e1
  rw[E3,Nat.mul_add_mod,E3 b.1.toNat,Nat.mul_add_mod,GE ha2,GE hb2] at e2
  exact Prod.ext (by omega) (by omega)
 ·intro x hx
  obtain ⟨st,hst,rfl⟩:=A0.mp hx
  obtain ⟨a1,a2,a3,a4⟩:=hv st hst
  have h1:st.1.toNat+1<=z.length+2:=by omega
  have h2:st.2.toNat < rs.length:=by omega
  calc st.1.toNat * rs.length+st.2.toNat < st.1.toNat * rs.length+rs.length:=by omega
   _=(st.1.toNat+1) * rs.length:=by rw[Nat.add_mul];omega
   _<=(z.length+2) * rs.length:=Nat.mul_le_mul_right _ h1
noncomputable def sJ(rs:List Rw)(z:List Nat):Nat->List (Int×Int)->Int×Int->List (Int×Int)
 | 0,ps,st=>ps++[st]
 | k+1,ps,st=>if st∈ps then ps++[st] else match eJ rs z st with
  | none=>ps++[st]
  | some st'=>sJ rs z k (ps++[st]) st'
def kT(rs:List Rw)(z:List Nat):Nat:=(z.length+2) * rs.length
def mM(rs:List Rw)(z:List Nat):List (Int×Int):=sJ rs z (kT rs z) [] (0,0)
structure Way(rs:List Rw)(z:List Nat)(ps:List (Int×Int))(st:Int×Int)(k:Nat):Prop where
 nd:ps.Nodup
 val:∀ s∈ps++[st],jF rs z s
 num:ps.length+k=kT rs z
 res:sJ rs z k ps st=mM rs z
theorem Way.start{rs:List Rw}{sg:Nat}{z:List Nat}(M:Mach rs sg):Way rs z [] (0,0) (kT rs z) where
 nd:=DC
 val:=fun s hs=>by
  obtain rfl:s=(0,0):=by simpa using hs
  have:=M.len
  exact ⟨D3 _,by show (0:Int)<=_;omega,D3 _,by show (0:Int) < _;omega⟩
 num:=by simp
 res:=rfl
theorem Way.here{rs:List Rw}{z:List Nat}{ps:List (Int×Int)}{st:Int×Int}{k:Nat}(W:Way rs z ps st k):jF rs z st:=W.val st (by simp)
theorem Way.stop{rs:List Rw}{z:List Nat}{ps:List (Int×Int)}{st:Int×Int}{k:Nat}(W:Way rs z ps st k)(h:st∈ps):ps++[st]=mM rs z:=by
 rw[<-W.res]
 cases k with
 | zero=>rfl
 | succ k=>unfold sJ;rw[AG h]
theorem Way.more{rs:List Rw}{z:List Nat}{ps:List (Int×Int)}{st:Int×Int}{k:Nat}(W:Way rs z ps st k)(h:st∉ps):∃ j,k=j+1:=by
 have hn:(ps++[st]).Nodup:=by
  rw[CO]
  exact ⟨W.nd,by simp,fun a ha b hb e=>by rw[AQ.mp hb] at e;exact h (e▸ha)⟩
 have:=pR hn W.val
 rw[A5] at this
 have hk:=W.num
 unfold kT at hk
 simp only[BG,BR] at this
 exact ⟨k - 1,by omega⟩
theorem Way.ends{rs:List Rw}{z:List Nat}{ps:List (Int×Int)}{st:Int×Int}{k:Nat}(W:Way rs z ps st k)(h:st∉ps)(e:eJ rs z st=none):ps++[st]=mM rs z:=by
 obtain ⟨j,rfl⟩:=W.more h
 rw[<-W.res]
 unfold sJ
 rw[AH h,e]
theorem Way.next{rs:List Rw}{sg:Nat}{z:List Nat}{ps:List (Int×Int)}{st st':Int×Int}{k:Nat}(M:Mach rs sg)(S:bU sg z)(W:Way rs z ps st (k+1))(h:st∉ps)(e:eJ rs z st=some st'):Way rs z (ps++[st]) st' k where
 nd:=by
  rw[CO]
  exact ⟨W.nd,by simp,fun a ha b hb e=>by rw[AQ.mp hb] at e;exact h (e▸ha)⟩
 val:=fun s hs=>by
  rcases BJ.mp hs with q|q
  · exact W.val s q
  · rw [AQ.mp q]; exact vJ M S W.here e
 num:=by rw[A5];have:=W.num;simp;omega
 res:=by
  rw[<-W.res]
  conv=>rhs;unfold sJ
  rw[AH h,e]
end Mc
namespace L2
open PySem PySem.Spec PyProof.Rows
theorem oY:∀ {ys:List Str} {us:List Value},bG (ys.map V.str) us->StrsAre us ys
 | [],_,.nil=>.nil
 | y::ys,_,.cons r t=>by obtain ⟨t',rfl⟩:=r;exact .cons y t' (oY t)
def aKE(K:Frag):V->List V->Hp->VK->Prop:=fun x vs H Q=>∃ (sep:Str) (a:Addr) (ys:List Str),x=.str sep/\vs=[.ref a]/\SqL K H a (ys.map V.str)/\(ys.map fun y=>y.length).sum+ys.length * sep.length<=16777216/\Q (.str (Txt.join sep ys)) H
theorem aLN{X:Cx}:MtR X "str.join" (aKE X.K):=by
 intro pins s σ H x vs v us Q I rx rv h
 obtain ⟨sep,a,ys,rfl,rfl,ha,hz,q⟩:=h
 obtain ⟨t,rfl⟩:=rx
 obtain ⟨u,rfl,ru⟩:=rv.one
 cases (show u=Value.ref a from ru)
 obtain ⟨its,r,pl,_⟩:=I.list ha
 exact join_list (items:=its.toArray) pl.isList (by simpa using oY r) hz fun t' k=>⟨.str _,H,I.tok _,⟨_,rfl⟩,q⟩
end L2
namespace Mc
open PySem L2 PyProof.Rows
noncomputable def one(c:Nat):Str:=⟨#[c]⟩
theorem aGB(cs:List Nat):∀ (a:Array Nat),(List.foldl (fun acc p=>acc++("":Str).cps++p.cps) a (cs.map one)).toList=a.toList++cs:=by
 induction cs with
 | nil=>intro a;simp
 | cons c t ih=>
  intro a
  rw[AW,CS,ih]
  have:("":Str).cps = #[]:=rfl
  rw[this]
  simp[one]
theorem aIE(cs:List Nat):(Txt.join "" (cs.map one)).cps.toList=cs:=by
 unfold Txt.join Builtin.Str.glued
 cases cs with
 | nil=>rfl
 | cons c t=>
  show (List.foldl _ (one c).cps (t.map one)).toList=_
  rw[aGB];rfl
theorem aLO(cs:List Nat):((cs.map one).map fun y=>y.length).sum=cs.length:=by
 induction cs with
 | nil=>rfl
 | cons c t ih=>rw[AW,AW,List.sum_cons,ih,BG];show 1+_=_;omega
theorem aLP{x y:Str}(h:x.cps.toList=y.cps.toList):x=y:=by
 cases x;cases y
 simp only[Str.mk.injEq]
 exact Array.toList_inj.mp h
theorem aLQ(cs:List Nat):Txt.join "" (cs.map one)=⟨cs.toArray⟩:=aLP (by rw[aIE])
section
variable{S O:Type}
inductive Ex(st:S->Option (S⊕O)):Nat->S->O->Prop
 | out {s:S} {o:O} (h:st s=some (.inr o)):Ex st 0 s o
 | go {s s':S} {o:O} {n:Nat} (h:st s=some (.inl s')) (t:Ex st n s' o):Ex st (n+1) s o
inductive Rc(st:S->Option (S⊕O)):Nat->S->S->Prop
 | nil {s:S}:Rc st 0 s s
 | cons {s s' s'':S} {n:Nat} (h:st s=some (.inl s')) (t:Rc st n s' s''):Rc st (n+1) s s''
variable{st:S->Option (S⊕O)}
theorem Ex.det{n n':Nat}{s:S}{o o':O}(a:Ex st n s o)(b:Ex st n' s o'):n=n'/\o=o':=by
 induction a generalizing n' o' with
 | out h=>
  cases b with
  | out h'=>rw[h] at h';cases h';exact ⟨rfl,rfl⟩
  | go h' t=>rw[h] at h';cases h'
 | go h t ih=>
  cases b with
  | out h'=>rw[h] at h';cases h'
  | go h' t'=>
   rw[h] at h';cases h'
   obtain ⟨e,e'⟩:=ih t'
   exact ⟨by omega,e'⟩
theorem Rc.ex{k n:Nat}{s s':S}{o:O}(a:Rc st k s s')(b:Ex st n s o):∃ n',n=n'+k/\Ex st n' s' o:=by
 induction a generalizing n with
 | nil=>exact ⟨n,rfl,b⟩
 | cons h t ih=>
  cases b with
  | out h'=>rw[h] at h';cases h'
  | go h' t'=>
   rw[h] at h';cases h'
   obtain ⟨n',e,q⟩:=ih t'
   exact ⟨n',by omega,q⟩
theorem Rc.to{k n:Nat}{s s':S}{o:O}(a:Rc st k s s')(b:Ex st n s' o):Ex st (n+k) s o:=by
 induction a with
 | nil=>exact b
 | cons h t ih=>exact .go h (ih b)
theorem Rc.snoc{k:Nat}{s s' s'':S}(a:Rc st k s s')(h:st s'=some (.inl s'')):Rc st (k+1) s s'':=by
 induction a with
 | nil=>exact .cons h .nil
 | cons h' t ih=>exact .cons h' (ih h)
theorem Rc.round{m n:Nat}{s:S}{o:O}(a:Rc st (m+1) s s):¬ Ex st n s o:=fun b=>by
 obtain ⟨n',e,q⟩:=a.ex b
 have:=(b.det q).1
 omega
def Res(st:S->Option (S⊕O))(s:S)(r:Option O):Prop:=∀ o,r=some o↔∃ n,Ex st n s o
theorem Res.det{s:S}{r r':Option O}(a:Res st s r)(b:Res st s r'):r=r':=by
 apply Option.ext
 intro o
 exact (a o).trans (b o).symm
theorem Res.out{s:S}{o:O}(h:st s=some (.inr o)):Res st s (some o):=fun o'=>by
 constructor
 · intro e; cases e; exact ⟨0, .out h⟩
 · rintro ⟨n, q⟩; rw [((Ex.out h).det q).2]
theorem Res.step{s s':S}{r:Option O}(h:st s=some (.inl s'))(a:Res st s' r):Res st s r:=fun o=>by
 rw[a o]
 constructor
 ·rintro ⟨n,q⟩;exact ⟨n+1,.go h q⟩
 ·rintro ⟨n,q⟩
  cases q with
  | out h'=>rw[h] at h';cases h'
  | go h' t=>rw[h] at h';cases h';exact ⟨_,t⟩
theorem Res.round{s:S}{m:Nat}(a:Rc st (m+1) s s):Res st s none:=fun o=>by
 constructor
 · intro e; cases e
 · rintro ⟨n, q⟩; exact absurd q a.round
open Classical in
noncomputable def bS(st:S->Option (S⊕O))(s:S):Option O:=if h:∃ o n,Ex st n s o then some h.choose else none
theorem lZ(st:S->Option (S⊕O))(s:S):Res st s (bS st s):=fun o=>by
 unfold bS
 by_cases h:∃ o n,Ex st n s o
 ·rw[dif_pos h]
  obtain ⟨n,q⟩:=h.choose_spec
  constructor
  · intro e; cases e; exact ⟨n, q⟩
  · rintro ⟨n', q'⟩; rw [(q.det q').2]
 ·rw[dif_neg h]
  constructor
  · intro e; cases e
  · rintro ⟨n, q⟩; exact absurd ⟨o, n, q⟩ h
theorem Res.eq{s:S}{r:Option O}(a:Res st s r):r=bS st s:=a.det (lZ st s)
theorem tT{S':Type}{st':S'->Option (S'⊕O)}{s:S}{s':S'}(h:∀ o,(∃ n,Ex st n s o)↔∃ n,Ex st' n s' o):bS st s=bS st' s':=
 Option.ext fun o=>((lZ st s) o).trans ((h o).trans ((lZ st' s') o).symm)
structure Und2(st:S->Option (S⊕O))(s0:S)(ps:List S)(s:S):Prop where
 nd:ps.Nodup
 back:∀ p∈ps,∃ m,Rc st (m+1) p s
 res:∀ r,Res st s r->Res st s0 r
theorem Und2.start{s0:S}:Und2 st s0 [] s0:=⟨DC,fun p hp=>by simp at hp,fun r h=>h⟩
theorem Und2.next{s0 s s':S}{ps:List S}(U:Und2 st s0 ps s)(hn:s∉ps)(h:st s=some (.inl s')):Und2 st s0 (ps++[s]) s' where
 nd:=by
  rw[CO]
  exact ⟨U.nd,by simp,fun a ha b hb e=>by rw[AQ.mp hb] at e;exact hn (e▸ha)⟩
 back:=fun p hp=>by
  rcases BJ.mp hp with q|q
  · obtain ⟨m, r⟩ := U.back p q; exact ⟨m + 1, r.snoc h⟩
  · rw [AQ.mp q]; exact ⟨0, .cons h .nil⟩
 res:=fun r a=>U.res r (a.step h)
theorem Und2.met{s0 s:S}{ps:List S}(U:Und2 st s0 ps s)(h:s∈ps):bS st s0=none:=by
 obtain ⟨m,r⟩:=U.back s h
 exact ((U.res _ (Res.round r)).eq).symm
theorem Und2.outs{s0 s:S}{ps:List S}{o:O}(U:Und2 st s0 ps s)(h:st s=some (.inr o)):bS st s0=some o:=((U.res _ (Res.out h)).eq).symm
end
abbrev Th:=Option (Int×Int)
structure Tb where
 f:List Th
 a:List Th
def aGC(m:Nat):Th->Prop
 | none=>True
 | some (d,q)=>(d=1\/d = -1)/\0<=q/\q < (m:Int)
structure Tb.good(m:Nat)(t:Tb):Prop where
 lf:t.f.length=m
 la:t.a.length=m
 gf:∀ x∈t.f,aGC m x
 ga:∀ x∈t.a,aGC m x
def aUY(k n:Int)(s:Int×Int×Int):Int×Int×Int:=(if s.1 < k then s.1 else if s.1=k then (if s.2.1=1 then k else k+n - 1) else s.1+n - 1,s.2.1,s.2.2)
theorem qY{S:Type}(f:S->Nat)(N:Nat)(l:List S)(hn:l.Nodup)(hf:∀ s∈l,f s < N)(hi:∀ a∈l,∀ b∈l,f a=f b->a=b):l.length<=N:=by
 have h:=qX N (l.map f) ?_ ?_
 ·rw[AB] at h;exact h
 ·unfold List.Nodup
  rw[List.pairwise_map]
  exact GD (fun {a b} ha hb hab e=>hab (hi a ha b hb e)) hn
 ·intro x hx
  obtain ⟨s,hs,rfl⟩:=A0.mp hx
  exact hf s hs
theorem yL{S O:Type}{st:S->Option (S⊕O)}{s:S}{o:O}(h:st s=some (.inr o)):bS st s=some o:=((Res.out h).eq).symm
end Mc
namespace L2
open PySem PySem.Spec PyProof.Rows
def Its(z:Str):It:=⟨fun i _=>i < z.cps.size,fun i H x H'=>H'=H/\∃ c,z.cps[i]? = some c/\x=.str ⟨#[c]⟩,fun i _=>i=z.cps.size⟩
theorem z9{P:Program}{w:World}{K:Frag}{tg:Expr}(z:Str)(t:Tok)(T:String)(hT:∀ A:Around,A.handled=none->∀ it,Walks P w A it [it] [it] z.cps.size (SignAt z) fun i h=>h.IsStrIter it T z t i)
  (hself:∀ (A:Around) (it:Addr) (i:Nat) (s:Shared) (Q E:Value->Shared->Prop),s.heap.IsStrIter it T z t i->Q (.ref it) s->wpAny (model P w) A (pyIter (.ref it)) Q E s)
  (hno:["enumerate","zip","dict_itemiterator","dict_reverseitemiterator","odict_iterator","itertools.zip_longest","itertools.pairwise"].contains T=false) (it:Addr):Turn P w K tg (Its z) [it] it (fun i h=>h.IsStrIter it T z t i) where
 mem:=by simp
 obj:=fun i h st b hb=>by
  obtain rfl:b=it:=by simpa using hb
  obtain ⟨o,e,c,d⟩:=st
  exact ⟨o,e,fun v z=>by rw[d] at z;cases z⟩
 keep:=fun i h h' st k=>by
  obtain ⟨o,e,c,d⟩:=st
  exact ⟨o,k it (by simp) o e,c,d⟩
 item:=by
  intro X hP hw hK hc i pins s σ H E I hf st hg
  subst hP hw hK
  obtain ⟨f0,f1,f2,f3,f4,f5⟩:=hf it (by simp)
  refine (hT X.A (I.ok.hd hc) it).item i s _ E hg st fun v h' tk hv st' kp=>?_
  obtain ⟨c,tc,hcc,rfl⟩:=hv
  have I1:Inv X pins σ H {s with heap:=h',toks:=tk}:=I.turned (t':=tk) (it:=it) (fun b o hb e=>kp b o (by simpa using hb) e) f0 f1 f3 f4 f5
  obtain ⟨o,e,cc,d⟩:=id st'
  exact ⟨_,rfl,zK (s:={s with heap:=h',toks:=tk}) e cc d hno ⟨.str ⟨#[c]⟩,H,I1,⟨_,rfl⟩,⟨rfl,c,hcc,rfl⟩,st',fun b hb=>(hf b hb).1⟩⟩
 done:=by
  intro X hP hw hK hc i pins s σ H E I hf st hg
  subst hP hw hK
  obtain ⟨f0,f1,f2,f3,f4,f5⟩:=hf it (by simp)
  have hg:i=z.cps.size:=hg
  subst hg
  exact (hT X.A (I.ok.hd hc) it).done s _ E st fun h' tk kp=>⟨rfl,I.turned (t':=tk) (it:=it) (fun b o hb e=>kp b o (by simpa using hb) e) f0 f1 f3 f4 f5⟩
 self:=fun A i s Q E st h=>hself A it i s Q E st h
def aS0(te:TE):TI:=fun σ H R=>te σ H fun x H1=>∃ z,x=.str z/\R (Its z) H1
theorem aGD{X:Cx}{tg l:Expr}{tl:TE}(hl:PE X l tl):PI X tg l (aS0 tl):=by
 intro pins s σ H R I h
 refine thn (hl pins s σ H _ I h) fun v s1 zz0=>?_
 obtain ⟨x,H1,I1,r1,q1⟩:=zz0
 obtain ⟨z,e,q⟩:=q1
 subst e
 obtain ⟨t,rfl⟩:=r1
 refine wpAny_pyIter_strU ?_
 have I2:Inv X pins σ H1 {s1 with heap:=s1.heap.push {cls:=.type (strIterType z),data:=.fields #[.str z t,.int 0 0]}}:=I1.kept (t':=s1.toks) fun b o e=>AC _ e
 have st:(s1.heap.push {cls:=.type (strIterType z),data:=.fields #[.str z t,.int 0 0]}).IsStrIter s1.heap.objs.size (strIterType z) z t 0:=⟨_,AX _ rfl,rfl,rfl⟩
 have fin:∀ b∈[s1.heap.objs.size],jT X pins H1 b:=fun b hb=>by
  obtain rfl:=AQ.mp hb
  exact I1.fpOk (AK _) (I1.hok.fresh (AK _))
 by_cases ha:(z.cps.all fun x=>decide (x < 128))=true
 ·have eT:strIterType z="str_ascii_iterator":=by unfold strIterType;rw[AG ha]
  rw[eT] at st I2 ⊢
  exact ⟨s1.heap.objs.size,[s1.heap.objs.size],_,_,H1,rfl,I2,z9 z t "str_ascii_iterator" (fun A hA it=>Walks.strAscii hA it z t) (fun A it i s Q E st h=>wpAny_pyIter_striter_ascii st h) (by decide) _,st,fin,q⟩
 ·have eT:strIterType z="str_iterator":=by unfold strIterType;rw[AH ha]
  rw[eT] at st I2 ⊢
  exact ⟨s1.heap.objs.size,[s1.heap.objs.size],_,_,H1,rfl,I2,z9 z t "str_iterator" (fun A hA it=>Walks.strWide hA it z t) (fun A it i s Q E st h=>wpAny_pyIter_striter_wide st h) (by decide) _,st,fin,q⟩
structure InK(env:Env)(s₀:Shared)(m cm:Str->Option Value)(s:Shared):Prop where
 ic:InCall s₀ env.locals m s
 cell:∀ n c,env.cells.lookup n=some c->s.heap.IsCell c (cm n)
 inj:∀ n n' c,env.cells.lookup n=some c->env.cells.lookup n'=some c->n=n'
 ne:∀ n c,env.cells.lookup n=some c->c≠env.locals
 up:∀ n c,env.kindOf n=some .cell->env.cells.lookup n=some c->env.locals < c
section
variable{M:Model}{A:Around}{E:Value->Shared->Prop}{s₀ s:Shared}{m cm:Str->Option Value}{env:Env}
theorem InK.stL{n:Str}{v:Value}{Q:Unit->Shared->Prop}(x:InK env s₀ m cm s)(hk:env.scope.kind=.function)(hl:env.kindOf n=some .local)
  (h:∀ s',InK env s₀ (fun y=>if y=n then some v else m y) cm s'->Q () s'):wpAny M A (storeName env n v) Q E s:=by
 refine wpAny_storeName_local hl x.ic.ns (fun h' hn' hs'=>h _ ⟨⟨?_,hn',fun b o e=>?_,x.ic.fresh⟩,fun k c hc=>?_,x.inj,x.ne,x.up⟩) (by rw[hk];rfl)
 ·obtain ⟨h₁,tk,rfl⟩:=x.ic.same
  exact ⟨h',_,rfl⟩
 ·exact hs'.extBut b o (BL (AT (AM e) x.ic.fresh)) (x.ic.keep b o e)
 ·exact (x.cell k c hc).sameBut hs' (x.ne k c hc)
theorem InK.stC{n:Str}{c:Addr}{v:Value}{Q:Unit->Shared->Prop}(x:InK env s₀ m cm s)(hk:env.scope.kind=.function)(hl:env.kindOf n=some .cell)
  (hc:env.cells.lookup n=some c)
  (h:∀ s',InK env s₀ m (fun y=>if y=n then some v else cm y) s'->Q () s'):wpAny M A (storeName env n v) Q E s:=by
 have hLc:=x.up n c hl hc
 refine wpAny_storeName_cell hk hl hc (x.cell n c hc) fun h' hc' hs'=>h _ ⟨⟨?_,x.ic.ns.sameBut hs' (BL hLc),fun b o e=>?_,x.ic.fresh⟩,fun k c' hk'=>?_,x.inj,x.ne,x.up⟩
 ·obtain ⟨h₁,tk,rfl⟩:=x.ic.same
  exact ⟨h',_,rfl⟩
 ·exact hs'.extBut b o (BL (Nat.lt_trans (AT (AM e) x.ic.fresh) hLc)) (x.ic.keep b o e)
 ·by_cases hkn:k=n
  ·subst hkn
   rw[hc] at hk';cases hk'
   simpa using hc'
  ·rw[AH hkn]
   exact (x.cell k c' hk').sameBut hs' fun e=>hkn (x.inj k n c' hk' (e▸hc))
theorem InK.binds(f:Str×Value->PUnit->Sem (ForInStep PUnit))(hf:∀ n v u,f (n,v) u=(do storeName env n v;pure (.yield ⟨⟩)))(hk:env.scope.kind=.function) :
  ∀ (binds:List (Str×Value)) (m cm:Str->Option Value) (s:Shared) (Q:PUnit->Shared->Prop),InK env s₀ m cm s->
   (∀ x∈binds,env.kindOf x.1=some .local\/(env.kindOf x.1=some .cell/\(env.cells.lookup x.1).isSome=true))->
   (∀ s',InK env s₀ (bindL env.kindOf binds m) (bindC env.kindOf binds cm) s'->Q ⟨⟩ s')->wpAny M A (forIn binds ⟨⟩ f) Q E s
 | [],m,cm,s,Q,x,_,h=>by rw[FE];exact AD (h s x)
 | (n,v)::r,m,cm,s,Q,x,hkind,h=>by
  rw[CP,hf]
  have hr:∀ y∈r,env.kindOf y.1=some .local\/(env.kindOf y.1=some .cell/\(env.cells.lookup y.1).isSome=true):=fun y hy=>hkind y (AN _ hy)
  rcases hkind (n,v) AV with hl|⟨hl,hc⟩
  ·refine AA (AA (x.stL hk hl fun s' x'=>AD (InK.binds f hf hk r _ _ s' Q x' hr fun s'' x''=>h s'' ?_)))
   unfold bindL bindC;rw[AG hl,AG hl];exact x''
  ·obtain ⟨c,hc⟩:=F7.mp hc
   have hnl:¬ env.kindOf n=some .local:=by rw[hl];decide
   refine AA (AA (x.stC hk hl hc fun s' x'=>AD (InK.binds f hf hk r _ _ s' Q x' hr fun s'' x''=>h s'' ?_)))
   unfold bindL bindC;rw[AH hnl,AH hnl];exact x''
end
theorem kJ:∀ (names:List (Str×NameKind)) (n:Nat) (acc:List (Str×Addr)),cellsFrom n names acc=cellsFrom n names []++acc
 | [],_,_=>rfl
 | (x,k)::r,n,acc=>by
  unfold cellsFrom
  split
  · rw [kJ r (n + 1) ((x, n) :: acc), kJ r (n + 1) [(x, n)], EQ]; rfl
  · exact kJ r n acc
theorem nY:∀ (names:List (Str×NameKind)) (n:Nat) {x:Str} {c:Addr},(x,c)∈cellsFrom n names []->(x,NameKind.cell)∈names
 | [],_,_,_,h=>by simp[cellsFrom] at h
 | (y,k)::r,n,x,c,h=>by
  unfold cellsFrom at h
  split at h
  ·rename_i hk
   rw[kJ] at h
   rcases BJ.mp h with h|h
   ·exact AN _ (nY r _ h)
   ·have:(x,c)=(y,n):=by simpa using h
    cases this
    rw[EJ hk];exact AV
  ·exact AN _ (nY r _ h)
theorem pS{α:Type}{x:Str}:∀ {l l':List (Str×α)},(l++l').lookup x=(l.lookup x).or (l'.lookup x)
 | [],l'=>by simp
 | (y,v)::r,l'=>by
  rw[B9,BC,BC]
  cases x == y with
  | true=>rfl
  | false=>exact pS
theorem qZ{α:Type}{x:Str}{l:List (Str×α)}(h:∀ v,(x,v)∉l):l.lookup x=none:=by
 cases e:l.lookup x with
 | none=>rfl
 | some v=>exact absurd (A4 e) (h v)
noncomputable def cW(qual:Str)(scope:Scope)(L f:Addr)(cd:Value)(cl:List (Str×Addr)):Env:=newEnv scope L mainGlobals (cellsFrom (L+1) scope.names cl) (qual++".<locals>.") (some f) cd none builtinsNs
structure ClAt(h:Heap)(scope:Scope)(cl:List (Str×Addr))(cm:Str->Option Value):Prop where
 cell:∀ n c,cl.lookup n=some c->h.IsCell c (cm n)
 inj:∀ n n' c,cl.lookup n=some c->cl.lookup n'=some c->n=n'
 off:∀ y∈scope.names,y.2=.cell->cl.lookup y.1=none
section
variable{M:Model}{A:Around}{E:Value->Shared->Prop}{s:Shared}
theorem aCT{scope:Scope}{binds:List (Str×Value)}{qual:Str}{f:Addr}{cd:Value}{cl:List (Str×Addr)}{cm:Str->Option Value}{Q:Env->Shared->Prop}
  (hk:scope.kind=.function) (C:ClAt s.heap scope cl cm)
  (hkind:∀ x∈binds,scope.names.lookup x.1=some .local\/scope.names.lookup x.1=some .cell)
  (hQ:∀ s',InK (cW qual scope s.heap.objs.size f cd cl) s (bindL (cW qual scope s.heap.objs.size f cd cl).kindOf binds fun _=>none) (bindC (cW qual scope s.heap.objs.size f cd cl).kindOf binds fun n=>if (cl.lookup n).isSome then cm n else none) s'->Q (cW qual scope s.heap.objs.size f cd cl) s') :
  wpAny M A (newFunctionEnv scope mainGlobals cl binds (qual++".<locals>.") (some f) cd none builtinsNs) Q E s:=by
 simp only[newFunctionEnv,Option.isSome_none,CK,DY]
 refine AA (wpAny_alloc ?_)
 refine AA (wpAny_layCells _ (fun name kind cells=>by cases hkc:kind == NameKind.cell<;>simp[hkc]) _ _ _ _ ?_)
 have ok:=cellsFrom_ok scope.names (s.heap.push {cls:=.type "frame",data:=.dict #[]}) (s.heap.objs.size+1) [] ⟨fun _ _ hm=>(nomatch hm),List.Pairwise.nil⟩ (by rw[B2];exact AK _)
 rw[B2] at ok
 rw[show ({s with heap:=s.heap.push {cls:=.type "frame",data:=.dict #[]}}:Shared).heap.objs.size=s.heap.objs.size+1 from B2 ..]
 have keep:∀ b o,s.heap.get? b=some o->(pushCells (s.heap.push {cls:=.type "frame",data:=.dict #[]}) scope.names).get? b=some o:=fun b o e=>pushCells_keeps _ _ b o (AC _ e)
 have hcells:(cW qual scope s.heap.objs.size f cd cl).cells=cellsFrom (s.heap.objs.size+1) scope.names []++cl:=kJ _ _ _
 have two:∀ n c,(cW qual scope s.heap.objs.size f cd cl).cells.lookup n=some c->((cellsFrom (s.heap.objs.size+1) scope.names []).lookup n=some c/\cl.lookup n=none)\/((cellsFrom (s.heap.objs.size+1) scope.names []).lookup n=none/\cl.lookup n=some c):=fun n c e=>by
  rw[hcells,pS] at e
  cases q:(cellsFrom (s.heap.objs.size+1) scope.names []).lookup n with
  | none=>rw[q] at e;exact .inr ⟨rfl,by simpa using e⟩
  | some d=>
   rw[q] at e
   have e':some d=some c:=by simpa using e
   cases e'
   exact .inl ⟨rfl,C.off (n,.cell) (nY _ _ (A4 q)) rfl⟩
 have big:∀ n c,(cellsFrom (s.heap.objs.size+1) scope.names []).lookup n=some c->s.heap.objs.size < c:=fun n c e=>(ok.empty n c (A4 e)).2
 have small:∀ n c,cl.lookup n=some c->c < s.heap.objs.size:=fun n c e=>(C.cell n c e).lt
 refine AA (InK.binds (s₀:=s) (env:=cW qual scope s.heap.objs.size f cd cl)
  _ (fun _ _ _=>rfl) hk binds (fun _=>none) (fun n=>if (cl.lookup n).isSome then cm n else none) _ _
  ⟨⟨⟨_,_,rfl⟩,(Heap.Ns.new s.heap (.type "frame")).keeps (pushCells_keeps _ _),keep,AK _⟩,fun n c e=>?_,fun n n' c e e'=>?_,fun n c e=>?_,fun n c hc e=>?_⟩
  (fun x hx=>?_) fun s' x=>AD (hQ s' x))
 ·rcases two n c e with ⟨q,q'⟩|⟨q,q'⟩
  ·rw[q'];exact (ok.empty n c (A4 q)).1
  ·rw[q'];exact (C.cell n c q').keeps keep
 ·rcases two n c e with ⟨q,q'⟩|⟨q,q'⟩<;>rcases two n' c e' with ⟨r,r'⟩|⟨r,r'⟩
  ·exact name_of_addr ok.apart (A4 q) (A4 r)
  ·exact absurd (big _ _ q) (Nat.not_lt.mpr (CZ (small _ _ r')))
  ·exact absurd (big _ _ r) (Nat.not_lt.mpr (CZ (small _ _ q')))
  ·exact C.inj n n' c q' r'
 ·show c≠s.heap.objs.size
  rcases two n c e with ⟨q,q'⟩|⟨q,q'⟩
  ·exact DD (big _ _ q)
  ·exact BL (small _ _ q')
 ·show s.heap.objs.size < c
  rcases two n c e with ⟨q,q'⟩|⟨q,q'⟩
  ·exact big _ _ q
  ·rw[C.off (n,.cell) (A4 hc) rfl] at q';cases q'
 ·rcases hkind x hx with q|q
  ·exact .inl q
  ·refine .inr ⟨q,?_⟩
   obtain ⟨c,e⟩:=nB (n:=s.heap.objs.size+1) q
   rw[hcells,pS,e];rfl
end
noncomputable def hid(cs:List Addr)(H:Hp):Hp:=fun b=>if b∈cs then none else H b
noncomputable def shw(cs:List Addr)(H H':Hp):Hp:=fun b=>if b∈cs then H b else H' b
theorem oZ{cs:List Addr}{H:Hp}{b:Addr}(h:b∈cs):hid cs H b=none:=AG h
theorem bX{cs:List Addr}{H:Hp}{b:Addr}(h:b∉cs):hid cs H b=H b:=AH h
theorem q9{cs:List Addr}{H H':Hp}{b:Addr}(h:b∈cs):shw cs H H' b=H b:=AG h
theorem eX{cs:List Addr}{H H':Hp}{b:Addr}(h:b∉cs):shw cs H H' b=H' b:=AH h
theorem i4{cs:List Addr}{H:Hp}{b:Addr}(h:H b=none):hid cs H b=none:=by
 by_cases q:b∈cs
 · exact oZ q
 · rw [bX q]; exact h
theorem pT{cs:List Addr}{H:Hp}{b:Addr}{o:HO}(h:hid cs H b=some o):H b=some o/\b∉cs:=by
 by_cases q:b∈cs
 · rw [oZ q] at h; cases h
 · rw [bX q] at h; exact ⟨h, q⟩
def FnO(f:Addr)(o:Obj):HO:=.ext fun h=>h.get? f=some o
def eY(c:Addr)(o:Obj)(v:V):HO:=.frz o (.ext fun h=>∃ u,bC v u/\h.IsCell c (some u))
section
variable{P:Program}{w:World}{H:Hp}{h:Heap}
theorem FnO.get{f:Addr}{o:Obj}(x:HOk P w H h)(e:H f=some (FnO f o)):h.get? f=some o:=(x f _ e).1
theorem eY.get{c:Addr}{o:Obj}{v:V}(x:HOk P w H h)(e:H c=some (eY c o v)):h.get? c=some o/\∃ u,bC v u/\h.IsCell c (some u):=⟨(x c _ e).1,(x c _ e).2.1⟩
theorem FnO.ok{f:Addr}{o:Obj}(e:h.get? f=some o):cO P w H h f (FnO f o):=⟨e,⟨o,e⟩,fun h1 h2 q k=>k o q⟩
theorem eY.ok{c:Addr}{o:Obj}{v:V}{u:Value}(r:bC v u)(e:h.get? c=some o)(hd:o.data=.cell (some u)):cO P w H h c (eY c o v):=
 ⟨e,⟨u,r,o,e,hd⟩,⟨o,e⟩,fun h1 h2 ⟨u,r,o,ho,hd⟩ k=>⟨u,r,o,k o ho,hd⟩⟩
end
def Celd(cs:List Addr)(H:Hp):Prop:=∀ c∈cs,∃ o v,H c=some (eY c o v)
theorem Celd.out{cs:List Addr}{H:Hp}(h:Celd cs H){b:Addr}{o:HO}(e:H b=some o)(n:∀ o' v,o≠eY b o' v):b∉cs:=fun z=>by
 obtain ⟨o',v,q⟩:=h b z
 rw[q] at e;cases e
 exact n o' v rfl
theorem HOk.hid{P:Program}{w:World}{H:Hp}{h:Heap}{cs:List Addr}(x:HOk P w H h)(hc:Celd cs H):HOk P w (hid cs H) h:=fun b u e=>by
 obtain ⟨e1,_⟩:=pT e
 exact (x b u e1).stay (fun _ _ _ q=>q) (fun c q=>by rw[bX (hc.out q fun _ v z=>nomatch z)];exact q) (fun c _ q=>by rw[bX (hc.out q fun _ v z=>nomatch z)];exact q) fun c _ q=>by rw[bX (hc.out q fun _ v z=>nomatch z)];exact q
structure CloScope(N ps fr:List Str)(sc:Scope):Prop where
 kind:sc.kind=.function
 co:sc.isCoroutine=false
 gen:sc.isGenerator=false
 nd:N.Nodup
 pre:N.take (ps++fr).length=ps++fr
 par:∀ x∈ps,sc.names.lookup x=some .local\/sc.names.lookup x=some .cell
 cap:∀ x∈fr,sc.names.lookup x=some .free
 only:∀ y∈sc.names,y.2=.free->y.1∈fr
 off:∀ y∈sc.names,y.2=.cell->y.1∉fr
structure CapAt(H:Hp)(fr:List Str)(cl:List (Str×Addr))(vs:List V):Prop where
 len:vs.length=fr.length
 only:∀ n c,cl.lookup n=some c->n∈fr
 inj:∀ n n' c,cl.lookup n=some c->cl.lookup n'=some c->n=n'
 at':∀ (i:Nat) x v,fr[i]? = some x->vs[i]? = some v->∃ c o,cl.lookup x=some c/\H c=some (eY c o v)
theorem CapAt.get{H:Hp}{fr:List Str}{cl:List (Str×Addr)}{vs:List V}(a:CapAt H fr cl vs){n:Str}{c:Addr}(e:cl.lookup n=some c):∃ o v,H c=some (eY c o v):=by
 obtain ⟨i,hi,hx⟩:=E4.mp (a.only n c e)
 obtain ⟨c',o,e',q⟩:=a.at' i n (vs[i]'(by rw[a.len];exact hi)) (by rw[AI hi,hx]) (AI _)
 rw[e] at e';cases e'
 exact ⟨_,_,q⟩
noncomputable def a8(fr:List Str)(cl:List (Str×Addr)):List Addr:=fr.filterMap fun x=>cl.lookup x
theorem CapAt.celd{H:Hp}{fr:List Str}{cl:List (Str×Addr)}{vs:List V}(a:CapAt H fr cl vs):Celd (a8 fr cl) H:=fun c hc=>by
 obtain ⟨x,_,e⟩:=DF.mp hc
 exact a.get e
theorem CapAt.same{H H':Hp}{fr:List Str}{cl:List (Str×Addr)}{vs:List V}(a:CapAt H fr cl vs)(s:aI H H'):CapAt H' fr cl vs:=⟨a.len,a.only,a.inj,fun i x v h1 h2=>let ⟨c,o,e,q⟩:=a.at' i x v h1 h2;⟨c,o,e,s _ _ q⟩⟩
noncomputable def jG(CX:CXT)(P:Program)(w:World)(K:Frag)(mg:Str->Option Value)(base:Heap)(N fr:List Str)(qual:Str)(scope:Scope)(f:Addr)(cd:Value)(cl:List (Str×Addr))(A:Around)(outer:List Env)(s:Shared)(H:Hp)(E:XK):Cx where
 prog:=P
 w:=w
 K:=K
 mg:=mg
 base:=base
 A:=A.deeper (cW qual scope s.heap.objs.size f cd cl)
 N:=N
 s₀:=s
 H₀:=hid (a8 fr cl) H
 env:=cW qual scope s.heap.objs.size f cd cl
 outer:=outer
 stack:=cW qual scope s.heap.objs.size f cd cl::outer
 ex:=[]
 calm:=true
 fn:=fun x=>(cl.lookup x).isNone
 pn:=[]
 xe:=fun e s'=>wpAny (model P w) (A.deeper (cW qual scope s.heap.objs.size f cd cl)) (leaving (cW qual scope s.heap.objs.size f cd cl) e) (fun _ s''=>CX outer H s E e s'') (fun e' s''=>CX outer H s E e' s'') s'
section
variable{CX:CXT}{P:Program}{w:World}{K:Frag}{mg:Str->Option Value}{base:Heap}{N ps fr:List Str}{qual:Str}{scope:Scope}{f:Addr}{cd:Value}{cl:List (Str×Addr)}{A:Around}{outer:List Env}{s s1:Shared}{H:Hp}{E:XK}{us:List Value}{vs cvs:List V}
theorem aCU{h:Heap}(hok:HOk P w H h)(C:CapAt H fr cl cvs):∃ cm:Str->Option Value,(∀ n c,cl.lookup n=some c->∃ v u,(∃ o,H c=some (eY c o v))/\bC v u/\cm n=some u/\h.IsCell c (some u)):=by
 have key:∀ n,∃ x:Option Value,∀ c,cl.lookup n=some c->∃ v u,(∃ o,H c=some (eY c o v))/\bC v u/\x=some u/\h.IsCell c (some u):=fun n=>by
  cases e:cl.lookup n with
  | none=>exact ⟨none,fun c z=>nomatch z⟩
  | some c=>
   obtain ⟨o,v,q⟩:=C.get e
   obtain ⟨_,u,r,z⟩:=eY.get hok q
   exact ⟨some u,fun c' e'=>by cases e';exact ⟨v,u,⟨o,q⟩,r,rfl,z⟩⟩
 exact ⟨fun n=>(key n).choose,fun n c e=>(key n).choose_spec c e⟩
theorem pU{n:Str}{L:Nat}:(cW qual scope L f cd cl).cells.lookup n=((cellsFrom (L+1) scope.names []).lookup n).or (cl.lookup n):=by
 rw[show (cW qual scope L f cd cl).cells=cellsFrom (L+1) scope.names []++cl from kJ _ _ _,pS]
theorem sK{n:Str}{c:Addr}{L:Nat}(S:CloScope N ps fr scope)(C:CapAt H fr cl cvs)(e:cl.lookup n=some c):(cW qual scope L f cd cl).cells.lookup n=some c:=by
 rw[pU,qZ fun v hv=>S.off (n,.cell) (nY _ _ hv) rfl (C.only n c e)]
 simpa using e
theorem vK{cm:Str->Option Value}(S:CloScope N ps fr scope)(C:CapAt H fr cl cvs)(hd:A.handled=none)(e0:Env0 P w K mg base A outer s H)(hl:vs.length=ps.length)(r:bG vs us)
  (hcm:∀ n c,cl.lookup n=some c->∃ v u,(∃ o,H c=some (eY c o v))/\bC v u/\cm n=some u/\s.heap.IsCell c (some u))
  (x:InK (cW qual scope s.heap.objs.size f cd cl) s (bindL (cW qual scope s.heap.objs.size f cd cl).kindOf (ps.zip us) fun _=>none) (bindC (cW qual scope s.heap.objs.size f cd cl).kindOf (ps.zip us) fun n=>if (cl.lookup n).isSome then cm n else none) s1) :
  Inv (jG CX P w K mg base N fr qual scope f cd cl A outer s H E) [] (start N (vs++cvs)) (hid (a8 fr cl) H) s1:=by
 have hpl:(ps++fr).length<=N.length:=by have:=DM List.length S.pre;rw[BB] at this;omega
 have hvl:(vs++cvs).length=(ps++fr).length:=by rw[A5,A5,hl,C.len]
 obtain ⟨h1,tk,rfl,hk⟩:=x.ic.done
 have noA:∀ b:Addr,b∉(jG CX P w K mg base N fr qual scope f cd cl A outer s H E).ex:=fun b z=>absurd (show b∈([]:List Addr) from z) (by simp)
 have cab:∀ y c,cl.lookup y=none->(cW qual scope s.heap.objs.size f cd cl).cells.lookup y=some c->s.heap.objs.size < c:=fun y c n e=>by
  rw[pU,n] at e
  have e':(cellsFrom (s.heap.objs.size+1) scope.names []).lookup y=some c:=by simpa using e
  have ok:=cellsFrom_ok scope.names (s.heap.push {cls:=.type "frame",data:=.dict #[]}) (s.heap.objs.size+1) [] ⟨fun _ _ hm=>(nomatch hm),List.Pairwise.nil⟩ (by rw[B2];exact AK _)
  rw[B2] at ok
  exact (ok.empty y c (A4 e')).2
 refine ⟨⟨e0.mod,S.kind,rfl,rfl,AK _,fun y z c h1 h2=>x.inj y z c h1 h2,fun y hy=>?_,fun y c hf h=>?_,fun _=>hd,Around.frames_deeper e0.frames,.inr ⟨rfl,rfl⟩,fun b z=>absurd z (noA b),fun b o e=>⟨(e0.bs b o e).1,i4 (e0.bs b o e).2⟩,e0.bsz,fun b _ _=>noA b,fun b z=>absurd z (noA b),e0.funs,fun b hb=>i4 (e0.frf b hb)⟩,
  rfl,e0.bare,Un.kept hk,⟨_,x.ic.ns,fun i y v h1 h2 h3=>?_⟩,fun y c h=>⟨_,x.cell y c h⟩,i4 (e0.hok.fresh (AK _)),fun y c h=>?_,fun p hp=>absurd (show p∈([]:List (Addr×Obj)) from hp) (by simp),(e0.hok.hid C.celd).kept hk,?_⟩
 ·have hy:scope.names.lookup y=some .cell\/scope.names.lookup y=some .free:=hy
  rcases hy with hy|hy
  ·obtain ⟨c,e⟩:=nB (n:=s.heap.objs.size+1) hy
   exact ⟨c,by show (cW qual scope s.heap.objs.size f cd cl).cells.lookup y=_;rw[pU,e];rfl⟩
  ·obtain ⟨i,hi,hx⟩:=E4.mp (S.only _ (A4 hy) rfl)
   obtain ⟨c,_,e,_⟩:=C.at' i y (cvs[i]'(by rw[C.len];exact hi)) (by rw[AI hi,hx]) (AI _)
   exact ⟨c,sK S C e⟩
 ·have hf:(cl.lookup y).isNone=true:=hf
  exact CZ (cab y c (Option.isNone_iff_eq_none.mp hf) h)
 ·have hi:i < (vs++cvs).length:=by
   unfold start at h2
   by_cases hi:i < (vs++cvs).length
   ·exact hi
   ·rw[B5 (by simpa using hi)] at h2
    rw[EM] at h2
    split at h2<;>cases h2
  have ha:(vs++cvs)[i]? = some v:=by
   unfold start at h2
   rw[BQ (by simpa using hi),AJ] at h2
   cases e:(vs++cvs)[i]? with
   | none=>rw[e] at h2;cases h2
   | some a=>rw[e] at h2;cases h2;rfl
  have hp:(ps++fr)[i]? = some y:=by
   rw[<-S.pre,F8 (by omega)];exact h1
  have ndA:(ps++fr).Nodup:=by rw[<-S.pre];exact S.nd.sublist (List.take_sublist _ _)
  have ndP:ps.Nodup:=(CO.mp ndA).1
  by_cases hip:i < ps.length
  ·rw[BQ (by omega)] at ha
   rw[BQ hip] at hp
   obtain ⟨u,hu,rv⟩:=r.get ha
   refine ⟨u,rv,?_⟩
   rcases S.par y (AL hp) with k|k
   ·exact .inl ⟨k,qT ndP hp hu k⟩
   ·obtain ⟨c,e⟩:=nB (n:=s.heap.objs.size+1) k
    have e':(cW qual scope s.heap.objs.size f cd cl).cells.lookup y=some c:=by rw[pU,e];rfl
    refine .inr ⟨.inl k,c,e',?_⟩
    have q:=x.cell y c e'
    rw[qU ndP hp hu (by show scope.names.lookup y≠_;rw[k];decide)] at q
    exact q
  ·rw[B5 (by omega)] at ha
   rw[B5 (by omega)] at hp
   rw[hl] at ha
   obtain ⟨c,o,e,q⟩:=C.at' _ y v hp ha
   obtain ⟨_,u2,r2,z2⟩:=eY.get e0.hok q
   have e':=sK (qual:=qual) (f:=f) (cd:=cd) (L:=s.heap.objs.size) S C e
   have hfree:scope.names.lookup y=some .free:=S.cap y (AL hp)
   refine ⟨u2,r2,.inr ⟨.inr hfree,c,e',?_⟩⟩
   exact z2.keeps hk
 ·cases e:cl.lookup y with
  | none=>exact i4 (e0.hok.fresh (CZ (cab y c e h)))
  | some c'=>
   have h':=sK (qual:=qual) (f:=f) (cd:=cd) (L:=s.heap.objs.size) S C e
   have h:(cW qual scope s.heap.objs.size f cd cl).cells.lookup y=some c:=h
   rw[h] at h';cases h'
   exact oZ (DF.mpr ⟨y,C.only y c e,e⟩)
 ·unfold start
  show _=N.length
  rw[A5,AB,DJ]
  omega
theorem t9{pins:List (Addr×Obj)}{σ:St}{H':Hp}{s':Shared}(S:CloScope N ps fr scope)(C:CapAt H fr cl cvs)(e0:Env0 P w K mg base A outer s H)(J:Inv (jG CX P w K mg base N fr qual scope f cd cl A outer s H E) pins σ H' s') :
  (∀ c∈a8 fr cl,H' c=none)/\Un (frs outer) [] H (shw (a8 fr cl) H H') s.heap s'.heap/\HOk P w (shw (a8 fr cl) H H') s'.heap:=by
 have un:Un (frs outer) [] (hid (a8 fr cl) H) H' s.heap s'.heap:=J.base
 have fr':∀ c∈a8 fr cl,H' c=none:=fun c hc=>by
  obtain ⟨x,_,e⟩:=DF.mp hc
  exact J.freeC x c (sK S C e)
 have out:∀ b,H b=none->b∉a8 fr cl:=fun b n z=>by
  obtain ⟨o,v,q⟩:=C.celd b z
  rw[n] at q;cases q
 refine ⟨fr',⟨fun b o e n h1 h2=>un.keep b o e (i4 n) h1 h2,fun b o e n h1 h2=>un.slot b o e (i4 n) h1 h2,fun b o e n h2=>by rw[eX (out b n)];exact un.free b o e (i4 n) h2,un.there,
  fun b xs q=>?_,fun b o u q=>?_,fun b ps q=>?_⟩,fun b u e=>?_⟩
 ·have hb:=C.celd.out q fun _ v z=>nomatch z
  rw[eX hb];exact un.tups b xs (by rw[bX hb];exact q)
 ·by_cases hb:b∈a8 fr cl
  ·rw[q9 hb];exact q
  ·rw[eX hb];exact un.frzs b o u (by rw[bX hb];exact q)
 ·have hb:=C.celd.out q fun _ v z=>nomatch z
  rw[eX hb];exact un.tbls b ps (by rw[bX hb];exact q)
 ·by_cases hb:b∈a8 fr cl
  ·rw[q9 hb] at e
   obtain ⟨o,v,q⟩:=C.celd b hb
   rw[q] at e;cases e
   obtain ⟨ho,u,r,o2,ho2,hd⟩:=eY.get e0.hok q
   rw[ho] at ho2;cases ho2
   exact eY.ok r (un.keep b o ho (oZ hb) (fun z=>by have:=e0.frf b z;rw[q] at this;cases this) (by simp)) hd
  ·rw[eX hb] at e
   have ne:∀ c o,H' c=some o->c∉a8 fr cl:=fun c o q z=>by rw[fr' c z] at q;cases q
   exact (J.hok b u e).stay (fun _ _ _ q=>q) (fun c q=>by rw[eX (ne c _ q)];exact q) (fun c _ q=>by rw[eX (ne c _ q)];exact q) fun c _ q=>by rw[eX (ne c _ q)];exact q
end
section
variable{P:Program}{w:World}{K:Frag}{mg:Str->Option Value}{base:Heap}{N ps fr:List Str}{qual:Str}{scope:Scope}{f:Addr}{cd:Value}{cl:List (Str×Addr)}{A:Around}{outer:List Env}{s:Shared}{H:Hp}{E:XK}{cvs:List V}
theorem vL{ev:Value}{s':Shared}(S:CloScope N ps fr scope)(C:CapAt H fr cl cvs)(e0:Env0 P w K mg base A outer s H)
  (h:Fly (jG (CXe P w) P w K mg base N fr qual scope f cd cl A outer s H E) (fun c e H'=>(∀ a∈a8 fr cl,H' a=none)->E c e (shw (a8 fr cl) H H')) ev s'):(jG (CXe P w) P w K mg base N fr qual scope f cd cl A outer s H E).xe ev s':=by
 obtain ⟨e,C',od,σ,H',rfl,I,fl,q⟩:=h
 show wpAny (model P w) _ (leaving _ (.ref e)) _ _ s'
 unfold leaving
 have hO:nW (jG (CXe P w) P w K mg base N fr qual scope f cd cl A outer s H E):=⟨rfl,rfl⟩
 refine AA (pQ hO I fl fun s2 I2 f2=>oW I2 f2 fun s3 I3 f3=>?_)
 obtain ⟨vs,T,a,b,c,_⟩:=f3.tb
 obtain ⟨fr',un,hok⟩:=t9 S C e0 I3
 have ne:∀ c o,H' c=some o->c∉a8 fr cl:=fun c o q z=>by rw[fr' c z] at q;cases q
 refine ⟨e,C',od,_,rfl,I3.os,I3.bare,un,hok,by rw[eX (ne _ _ f3.tr)];exact f3.tr,⟨vs,T,a,b,fun t e1=>⟨?_,(c t e1).2.1⟩⟩,q fr'⟩
 rw[eX]
 ·exact (c t e1).1
 ·intro z
  obtain ⟨o,v,q⟩:=C.celd t z
  exact absurd (AT (e0.hok.lt q) (c t e1).2.1) (BM _)
end
structure ClSt where
 name:Str
 qual:Str
 params:Arguments
 body:FuncBody
 scope:Scope
noncomputable def ClSt.fd(S:ClSt)(cl:List (Str×Addr))(doc pm:Value)(c:Addr)(ct:Value):FuncData:=
 {name:=S.name,qualname:=S.qual,params:=S.params,body:=S.body,scope:=S.scope,globals:=mainGlobals,closure:=cl,defaults:=.none,kwdefaults:=.none,doc:=doc,pyModule:=pm,annotations:=none,code:=.ref c,closureTuple:=ct,builtins:=builtinsNs}
abbrev ClSt.obj(S:ClSt)(cl:List (Str×Addr))(doc pm:Value)(c:Addr)(ct:Value):Obj:={cls:=.type "function",data:=.func (S.fd cl doc pm c ct)}
section
variable{P:Program}{w:World}{K:Frag}{mg:Str->Option Value}{base:Heap}{N ps fr:List Str}{S:ClSt}{f c:Addr}{cl:List (Str×Addr)}{A:Around}{outer:List Env}{s:Shared}{H:Hp}{E:XK}{Q:VK}{cvs vs:List V}{us:List Value}{args:Args}{doc pm ct:Value}{k:Nat}
theorem aAA(Sc:CloScope N ps fr S.scope):∀ y∈ps.zip us,S.scope.names.lookup y.1=some .local\/S.scope.names.lookup y.1=some .cell:=fun ⟨n,v⟩ hy=>Sc.par n (EY hy).1
theorem aGE{h:Heap}(hok:HOk P w H h)(Sc:CloScope N ps fr S.scope)(C:CapAt H fr cl cvs){cm:Str->Option Value}(hcm:∀ n c,cl.lookup n=some c->∃ v u,(∃ o,H c=some (eY c o v))/\bC v u/\cm n=some u/\h.IsCell c (some u)):ClAt h S.scope cl cm where
 cell:=fun n c e=>by
  obtain ⟨v,u,_,_,e1,z⟩:=hcm n c e
  rw[e1];exact z
 inj:=C.inj
 off:=fun y hy hc=>by
  cases e:cl.lookup y.1 with
  | none=>rfl
  | some c=>exact absurd (C.only _ _ e) (Sc.off y hy hc)
theorem aGF{body:List Stmt}(hb:S.body=.stmts body)(hf:H f=some (FnO f (S.obj cl doc pm c ct)))(hc:H c=some (.cod S.qual))(Sc:CloScope N ps fr S.scope)(C:CapAt H fr cl cvs)(hr:Room (k+1) A)
  (e0:Env0 P w K mg base A outer s H) (hbi:BindsTo s (S.fd cl doc pm c ct) args (ps.zip us)) (r:bG vs us) (hl:vs.length=ps.length)
  (hbody:Room k (A.deeper (cW S.qual S.scope s.heap.objs.size f (.ref c) cl))->∃ t,PSs ((jG (CXe P w) P w K mg base N fr S.qual S.scope f (.ref c) cl A outer s H E).fly fun c e H'=>(∀ a∈a8 fr cl,H' a=none)->E c e (shw (a8 fr cl) H H')) body t /\
   t {nx:=fun _ H'=>(∀ a∈a8 fr cl,H' a=none)->Q .non (shw (a8 fr cl) H H'),rt:=fun v H'=>(∀ a∈a8 fr cl,H' a=none)->Q v (shw (a8 fr cl) H H')} (start N (vs++cvs)) (hid (a8 fr cl) H)) :
  codeAny (model P w) A (.call (.ref f) args) (CR (CXe P w) outer P w H s Q E) s:=by
 have lim:s.heap.NoLimit:=e0.mod.nolimit.keeps fun b o e=>(e0.bs b o e).1
 obtain ⟨cm,hcm⟩:=aCU e0.hok C
 have hcr:s.heap.CodeRec (.ref c) S.qual:=e0.hok c _ hc
 refine codeAny_call_function hr.depth (FnO.get e0.hok hf) rfl Sc.co Sc.gen hb hcr (hbi _ _ _ _ ?_)
 refine aCT (cm:=cm) Sc.kind (aGE e0.hok Sc C hcm) (aAA Sc) fun s1 x=>?_
 refine ⟨lim.keeps x.ic.keep,codeAny_func ?_⟩
 obtain ⟨t,ht,hq⟩:=hbody (hr.deeper _)
 have I:Inv (jG (CXe P w) P w K mg base N fr S.qual S.scope f (.ref c) cl A outer s H E) [] (start N (vs++cvs)) (hid (a8 fr cl) H) s1:=vK Sc C hr.hd e0 hl r hcm x
 have ht':=ht.unfly fun _ _ z=>vL Sc C e0 z
 refine BP (ht' [] s1 _ _ _ I hq) (fun fl s' hs=>?_) fun e s' hs=>hs
 have fin:∀ {σ':St} {H':Hp} {v:V} {u:Value},Inv (jG (CXe P w) P w K mg base N fr S.qual S.scope f (.ref c) cl A outer s H E) [] σ' H' s'->bC v u->((∀ a∈a8 fr cl,H' a=none)->Q v (shw (a8 fr cl) H H'))->CE outer P w H s Q u s':=
  fun {σ' H' v u} J rv q=>by
   obtain ⟨hn,un,hok⟩:=t9 Sc C e0 J
   exact ⟨v,_,J.os,J.bare,un,hok,rv,q hn⟩
 cases fl with
 | ret u=>
  obtain ⟨v,σ',H',J,rv,q⟩:=hs
  exact fin J rv q
 | next=>
  obtain ⟨σ',H',J,q⟩:=hs
  exact fin (v:=V.non) (u:=Value.none) J rfl q
 | brk=>
  obtain ⟨_,_,_,q⟩:=hs
  exact False.elim q
 | cont=>
  obtain ⟨_,_,_,q⟩:=hs
  exact False.elim q
theorem aIF{body:Expr}(hb:S.body=.expr body)(hf:H f=some (FnO f (S.obj cl doc pm c ct)))(hc:H c=some (.cod S.qual))(Sc:CloScope N ps fr S.scope)(C:CapAt H fr cl cvs)(hr:Room (k+1) A)
  (e0:Env0 P w K mg base A outer s H) (hbi:BindsTo s (S.fd cl doc pm c ct) args (ps.zip us)) (r:bG vs us) (hl:vs.length=ps.length)
  (hbody:Room k (A.deeper (cW S.qual S.scope s.heap.objs.size f (.ref c) cl))->∃ t,PE ((jG (CXe P w) P w K mg base N fr S.qual S.scope f (.ref c) cl A outer s H E).fly fun c e H'=>(∀ a∈a8 fr cl,H' a=none)->E c e (shw (a8 fr cl) H H')) body t /\
   t (start N (vs++cvs)) (hid (a8 fr cl) H) fun v H'=>(∀ a∈a8 fr cl,H' a=none)->Q v (shw (a8 fr cl) H H')) :
  codeAny (model P w) A (.call (.ref f) args) (CR (CXe P w) outer P w H s Q E) s:=by
 have lim:s.heap.NoLimit:=e0.mod.nolimit.keeps fun b o e=>(e0.bs b o e).1
 obtain ⟨cm,hcm⟩:=aCU e0.hok C
 have hcr:s.heap.CodeRec (.ref c) S.qual:=e0.hok c _ hc
 refine PySem.W.kla_callFunE hr.depth (FnO.get e0.hok hf) rfl Sc.co Sc.gen hb hcr (hbi _ _ _ _ ?_)
 refine aCT (cm:=cm) Sc.kind (aGE e0.hok Sc C hcm) (aAA Sc) fun s1 x=>?_
 refine ⟨lim.keeps x.ic.keep,PySem.W.kla_codeExpr ?_⟩
 obtain ⟨t,ht,hq⟩:=hbody (hr.deeper _)
 have I:Inv (jG (CXe P w) P w K mg base N fr S.qual S.scope f (.ref c) cl A outer s H E) [] (start N (vs++cvs)) (hid (a8 fr cl) H) s1:=vK Sc C hr.hd e0 hl r hcm x
 refine BP (ht [] s1 _ _ _ (I.wish _) hq) (fun u s' hs=>?_) fun e s' hs=>vL Sc C e0 hs
 obtain ⟨v,H',J,rv,q⟩:=hs
 obtain ⟨hn,un,hok⟩:=t9 Sc C e0 J.unwish
 exact ⟨v,_,J.os,J.bare,un,hok,rv,q hn⟩
end
theorem aEK{env:Env}:∀ (names:List (Str×NameKind)) (acc:List (Str×Addr)),(∀ x∈names,x.2=.free->∃ c,env.cells.lookup x.1=some c)->
  (∀ x c,acc.lookup x=some c->env.cells.lookup x=some c)->
  ∃ cl,(forIn names acc fun x r=>(if (x.2 == NameKind.free)=true then (do let a <-cellOf env x.1;pure (ForInStep.yield ((x.1,a)::r))) else pure (ForInStep.yield r)):Sem (List (Str×Addr)))=pure cl /\
   (∀ x c,cl.lookup x=some c->env.cells.lookup x=some c)/\(∀ x∈names,x.2=.free->∃ c,cl.lookup x.1=some c)/\(∀ x c,acc.lookup x=some c->∃ c',cl.lookup x=some c') /\
   (∀ x c,cl.lookup x=some c->(∃ c',acc.lookup x=some c')\/(x,NameKind.free)∈names):=by
 intro names
 induction names with
 | nil=>intro acc _ h;exact ⟨acc,rfl,h,fun x hx=>absurd hx (by simp),fun x c e=>⟨c,e⟩,fun x c e=>.inl ⟨c,e⟩⟩
 | cons x r ih=>
  intro acc hf h
  obtain ⟨n,k⟩:=x
  by_cases hk:k=.free
  ·subst hk
   obtain ⟨c,hc⟩:=hf (n,.free) AV rfl
   have hc:env.cells.lookup n=some c:=hc
   obtain ⟨cl,e1,e2,e3,e4,e5⟩:=ih ((n,c)::acc) (fun y hy=>hf y (AN _ hy)) (fun y d e=>by
    rw[BC] at e
    cases q:y == n with
    | true=>rw[q] at e;cases e;have:=EJ q;subst this;exact hc
    | false=>rw[q] at e;exact h y d e)
   refine ⟨cl,?_,e2,fun y hy hyf=>?_,fun y d e=>?_,fun y d e=>?_⟩
   ·rw[CP]
    simp only[CU,CF]
    unfold cellOf
    simp only[hc,pure_bind]
    exact e1
   ·rcases AS.mp hy with z|z
    ·subst z
     exact e4 n c (by rw[BC];simp)
    ·exact e3 y z hyf
   ·by_cases q:y=n
    ·subst q;exact e4 y c (by rw[BC];simp)
    ·exact e4 y d (by rw[BC,C4 q];exact e)
   ·rcases e5 y d e with ⟨c',z⟩|z
    ·by_cases q:y=n
     ·subst q;exact .inr AV
     ·rw[BC,C4 q] at z
      exact .inl ⟨c',z⟩
    ·exact .inr (AN _ z)
  ·obtain ⟨cl,e1,e2,e3,e4,e5⟩:=ih acc (fun y hy=>hf y (AN _ hy)) h
   refine ⟨cl,?_,e2,fun y hy hyf=>?_,e4,fun y d e=>(e5 y d e).imp id fun z=>AN _ z⟩
   ·rw[CP]
    have:(k == NameKind.free)=false:=by simpa using hk
    simp only[this,CK,DY,pure_bind]
    exact e1
   ·rcases AS.mp hy with z|z
    ·subst z;exact absurd hyf hk
    ·exact e3 y z hyf
structure ClOf(cells:List (Str×Addr))(sc:Scope)(cl:List (Str×Addr)):Prop where
 of:∀ x c,cl.lookup x=some c->cells.lookup x=some c
 all:∀ x∈sc.names,x.2=.free->∃ c,cl.lookup x.1=some c
 only:∀ x c,cl.lookup x=some c->(x,NameKind.free)∈sc.names
theorem aAB{env:Env}{scope:Scope}(hf:∀ x∈scope.names,x.2=.free->∃ c,env.cells.lookup x.1=some c) :
  ∃ cl,closureFor scope env=pure cl/\ClOf env.cells scope cl:=by
 obtain ⟨cl,e1,e2,e3,_,e5⟩:=aEK scope.names [] hf (fun x c e=>by simp at e)
 refine ⟨cl,?_,e2,e3,fun x c e=>?_⟩
 ·unfold closureFor
  first
   | exact e1
   | (rw[<-e1];rfl)
   | (simp only[bind_pure];exact e1)
 ·rcases e5 x c e with ⟨c',z⟩|z
  ·simp at z
  ·exact z
theorem aGG{pos:Pos}{r:List Value}(l:List Value)(h:TriplesOk l):codeAmong pos (l++r)=(codeAmong pos l).or (codeAmong pos r):=by
 fun_induction TriplesOk l with
 | case1=>simp[codeAmong]
 | case2 a t b u x rest ih=>
  simp only[B9,codeAmong]
  split
  · rfl
  · exact ih h
 | case3 l h1 h2=>exact h.elim
structure Tb(mg:Str->Option Value)(base:Heap)(c0 P0:Addr):Prop where
 hd:PySem.W.CodeHd base c0 P0
 bt:∃ bm ob,mg "__builtins__"=some (.ref bm)/\bm≠builtinsNs/\base.get? bm=some ob/\ob.cls=.type "module"/\ob.dict=some builtinsNs/\ob.data=.plain
section
variable{X:Cx}{pins:List (Addr×Obj)}{σ:St}{H:Hp}{s:Shared}{c0 P0:Addr}{qs:List (Pos×Str)}{pos:Pos}{q:Str}
theorem aGH{ps:Array Value}{c:Addr}{h h':Heap}(hk:HOk X.prog X.w H h)(hP:H P0=some (.tbl qs))(hps:h.get? P0=some (PySem.W.tabObj ps))(ht:TriplesOk ps.toList)(hall:∀ p∈qs,codeAmong p.1 ps.toList=none\/∃ c,codeAmong p.1 ps.toList=some (.ref c)/\H c=some (.cod p.2))
  (hu:∀ p∈qs,p.1.line=pos.line->p.1.col=pos.col->p.2=q) (hnf:codeAmong pos ps.toList=none) (hn:H c=none) (hx:Heap.ExtBut P0 h h') (hcr:h'.CodeRec (.ref c) q) (hP':h'.get? P0=some (PySem.W.tabObj (ps ++ #[rawInt pos.line,rawInt pos.col,.ref c]))) :
  HOk X.prog X.w (upd H c (.cod q)) h':=fun b u e=>by
 have hcP:P0≠c:=fun z=>by rw[<-z,hP] at hn;cases hn
 by_cases hb:b=c
 ·subst hb;rw[aY] at e;cases e;exact hcr
 ·rw[aM hb] at e
  by_cases hbP:b=P0
  ·subst hbP
   rw[hP] at e;cases e
   refine ⟨_,hP',?_,fun p hp=>?_⟩
   ·rw[Array.toList_append];exact TriplesOk_snoc _ _ _ _ ht
   ·rw[Array.toList_append,aGG _ ht]
    rcases hall p hp with z|⟨d,z,zd⟩
    ·rw[z]
     show (codeAmong p.1 [rawInt pos.line,rawInt pos.col,.ref c])=none\/_
     by_cases hq:p.1.line=pos.line/\p.1.col=pos.col
     ·refine .inr ⟨c,?_,?_⟩
      ·show codeAmong p.1 [rawInt pos.line,rawInt pos.col,.ref c]=_
       rw[<-hq.1,<-hq.2]
       exact codeAmong_snoc [] trivial rfl
      ·rw[hu p hp hq.1 hq.2];exact aY
     ·refine .inl ?_
      simp only[codeAmong,rawInt]
      rw[AH]
      simp only[AU,beq_iff_eq]
      intro z2
      exact hq ⟨by omega,by omega⟩
    ·refine .inr ⟨d,by rw[z];rfl,?_⟩
     rw[aM (bI zd hn)];exact zd
  ·refine (hk b u e).stay (fun d v hd r=>hx d v ?_ r) (fun d r=>by rw[aM (bI r hn)];exact r) (fun d _ r=>by rw[aM (bI r hn)];exact r) fun d _ r=>by rw[aM (bI r hn)];exact r
   rcases hd with z|z
   ·rw[z];exact hbP
   ·intro z2;rw[z2,hP] at z;cases z
def Mkd(H:Hp)(q:Str)(c:Addr)(H1:Hp):Prop:=(H c=some (.cod q)/\H1=H)\/(H c=none/\H1=upd H c (.cod q))
theorem aCV {S : ClSt} {M : Model} {A : Around} {E : Value -> Shared -> Prop} {Q : Value -> Shared -> Prop} {firstLine : Nat} (I : Inv X pins σ H s) (hcode : X.env.code = .ref c0) (T : Tb X.mg X.base c0 P0) (hP : H P0 = some (.tbl qs)) (hq : (pos, S.qual) ∈ qs)
    (hu : ∀ p ∈ qs, p.1.line = pos.line -> p.1.col = pos.col -> p.2 = S.qual) (hfree : ∀ x ∈ S.scope.names, x.2 = .free -> ∃ c, X.env.cells.lookup x.1 = some c)
    (h : ∀ f c cl doc pm ct H1 s', Mkd H S.qual c H1 -> H1 f = none -> ClOf X.env.cells S.scope cl -> Inv X pins σ (upd H1 f (FnO f (S.obj cl doc pm c ct))) s' -> Q (.ref f) s') :
    wpAny M A (makeFunction S.name S.qual S.params S.body S.scope X.env [] [] [] pos firstLine) Q E s := by
  obtain ⟨cl, hcl, hco⟩ := aAB hfree
  obtain ⟨ps, hps, ht, hall⟩ := (show cO X.prog X.w H s.heap P0 (.tbl qs) from I.hok P0 _ hP)
  have C : PySem.W.CodeHd s.heap c0 P0 := T.hd.keeps I.bk
  have hg : s.heap.Ns mainGlobals X.mg := I.mod.glob.keeps I.bk
  have hgP : mainGlobals ≠ P0 := fun z => by
    obtain ⟨o, es, ep, e, hd, _⟩ := hg
    rw [z, hps] at e; cases e; cases hd
  obtain ⟨bm, ob, b1, b2, b3, b4, b5, b6⟩ := T.bt
  have b3' := I.bk _ _ b3
  have hbP : bm ≠ P0 := fun z => by rw [z, hps] at b3'; cases b3'; cases b4
  have hbG : bm ≠ mainGlobals := fun z => by
    obtain ⟨o, es, ep, e, hd, _⟩ := hg
    rw [z, e] at b3'; cases b3'; rw [hd] at b6; cases b6
  have hB : s.heap.BuiltinsAt X.mg P0 := ⟨bm, ob, b1, b2, hbG, hbP, b3', b4, b5, b6⟩
  rcases hall _ hq with hnf | ⟨c, hf, hc⟩
  · have fin : ∀ (c' : Addr) (ctv doc : Value) (h' : Heap) (tk : Tok), Heap.ExtBut P0 s.heap h' -> s.heap.objs.size <= c' -> c' < h'.objs.size -> h'.CodeRec (.ref c') S.qual -> h'.get? P0 = some (PySem.W.tabObj (ps ++ #[rawInt pos.line, rawInt pos.col, .ref c'])) ->
        Q (.ref h'.objs.size) { s with heap := h'.push (S.obj cl doc ((X.mg "__name__").getD .none) c' ctv), toks := tk } := by
      intro c' ctv doc h' tk hx hge hlt hrec htb
      have hn : H c' = none := I.hok.fresh hge
      have hok1 : HOk X.prog X.w (upd H c' (.cod S.qual)) h' := aGH I.hok hP hps ht hall hu hnf hn hx hrec htb
      have hnf' : (upd H c' (.cod S.qual)) h'.objs.size = none := hok1.fresh (AK _)
      refine h h'.objs.size c' cl doc ((X.mg "__name__").getD .none) ctv _ _ (.inr ⟨hn, rfl⟩) hnf' hco ?_
      have ne : ∀ b o, H b = some o -> b ≠ c' /\ b ≠ h'.objs.size := fun b o e => ⟨bI e hn, fun z => by
        rw [z] at e
        rw [aM (DD hlt), e] at hnf'; cases hnf'⟩
      have nP : ∀ b, H b = none -> b ≠ P0 := fun b n z => by rw [z, hP] at n; cases n
      refine I.un ⟨fun b o e n _ _ => AC _ (hx b o (nP b n) e), fun b o e n _ _ => ⟨o.slots, AC _ (hx b o (nP b n) e)⟩, fun b o e n _ => ?_, fun b o e _ => ?_, fun b xs e => ?_, fun b o u e => ?_, fun b qs e => ?_⟩ ?_
      · have hb := AM e
        rw [aM (BL (AT hb (BI hge (CZ hlt)))), aM (BL (AT hb hge))]; exact n
      · by_cases z : b = P0
        · subst z; exact ⟨_, AC _ htb⟩
        · exact ⟨o, AC _ (hx b o z e)⟩
      · rw [aM (ne b _ e).2, aM (ne b _ e).1]; exact e
      · rw [aM (ne b _ e).2, aM (ne b _ e).1]; exact e
      · rw [aM (ne b _ e).2, aM (ne b _ e).1]; exact e
      · exact hok1.laid (fun b u e => AC _ e) (AK _) (FnO.ok (AX _ rfl))
    obtain ⟨name, qual, params, body, scope⟩ := S
    cases body with
    | stmts body => exact PySem.W.makeFunction_K hcl I.ok.glob hg hcode C hps ht hnf hgP hB fin
    | expr body => exact PySem.W.kla_makeFunction hcl I.ok.glob hg hcode C hps ht hnf hgP hB fun c' ctv h' tk => fin c' ctv .none h' tk
  · have fin : ∀ (ctv doc : Value) (h' : Heap) (tk : Tok), (∀ b o, s.heap.get? b = some o -> h'.get? b = some o) -> s.heap.objs.size <= h'.objs.size ->
        Q (.ref h'.objs.size) { s with heap := h'.push (S.obj cl doc ((X.mg "__name__").getD .none) c ctv), toks := tk } := by
      intro ctv doc h' tk hk hsz
      refine h h'.objs.size c cl doc ((X.mg "__name__").getD .none) ctv H _ (.inl ⟨hc, rfl⟩) (I.hok.fresh hsz) hco ?_
      exact I.laid (fun b u e => AC _ (hk b u e)) hsz (FnO.ok (AX _ rfl))
    obtain ⟨name, qual, params, body, scope⟩ := S
    cases body with
    | stmts body => exact PySem.W.makeFunction_hit hcl I.ok.glob hg hcode C hps ht hf hB fin
    | expr body => exact PySem.W.kla_makeFunctionHit hcl I.ok.glob hg hcode C hps ht hf hB fun ctv h' tk => fin ctv .none h' tk
def tMk(cells:List (Str×Addr))(S:ClSt)(P0:Addr)(qs:List (Pos×Str)):TE:=fun σ H Q=>H P0=some (.tbl qs)/\∀ f c cl doc pm ct H1,Mkd H S.qual c H1->H1 f=none->ClOf cells S.scope cl->Q (.ref f) (upd H1 f (FnO f (S.obj cl doc pm c ct)))
theorem aGI{i:Nat}{x:Str}{params:Arguments}{body:List Stmt}{scope:Scope}(hcode:X.env.code=.ref c0)(T:Tb X.mg X.base c0 P0)(hqn:qualnameIn X.env x x=q)(hq:(pos,q)∈qs)
  (hu:∀ p∈qs,p.1.line=pos.line->p.1.col=pos.col->p.2=q) (hfree:∀ y∈scope.names,y.2=.free->X.env.kindOf y.1=some .cell\/X.env.kindOf y.1=some .free)
  (hd0:params.defaults=[]) (hk0:params.kw_defaults=[]) (ha:annTrees params none X.env=[])
  (hN:X.N.Nodup) (hi:X.N[i]? = some x) (hx:Loc X.env.scope x) (hf:X.fn x=true\/X.env.scope.names.lookup x=some .local:=by exact .inl rfl) :
  PS X (.FunctionDef x params body [] none [] scope none x pos) (l9 (tMk X.env.cells ⟨x,q,params,.stmts body,scope⟩ P0 qs) (kR i)):=by
 intro pins s σ H D I h
 obtain ⟨hP,h⟩:=h
 refine PySem.W.nestDef_K hd0 hk0 ha ?_
 rw[hqn]
 refine aCV (S:=⟨x,q,params,.stmts body,scope⟩) I hcode T hP hq hu (fun y hy hyf=>I.ok.has _ (hfree y hy hyf)) fun f c cl doc pm ct H1 s' hm hn hc I'=>?_
 exact m9 I' hN hi hx (v:=.ref f) rfl (fun s'' I''=>⟨_,_,I'',h f c cl doc pm ct H1 hm hn hc⟩) hf
theorem aAC{params:Arguments}{body:Expr}{scope:Scope}(hcode:X.env.code=.ref c0)(T:Tb X.mg X.base c0 P0)(hqn:X.env.qual++("<lambda>":Str)=q)(hq:(pos,q)∈qs)
  (hu:∀ p∈qs,p.1.line=pos.line->p.1.col=pos.col->p.2=q) (hfree:∀ y∈scope.names,y.2=.free->X.env.kindOf y.1=some .cell\/X.env.kindOf y.1=some .free)
  (hdef:defaultsOf params X.env=([],[])) :
  PE X (.Lambda params body scope pos) (tMk X.env.cells ⟨"<lambda>",q,params,.expr body,scope⟩ P0 qs):=by
 intro pins s σ H Q I h
 obtain ⟨hP,h⟩:=h
 refine PySem.W.kla_eval hdef ?_
 rw[hqn]
 exact aCV (S:=⟨"<lambda>",q,params,.expr body,scope⟩) I hcode T hP hq hu (fun y hy hyf=>I.ok.has _ (hfree y hy hyf)) fun f c cl doc pm ct H1 s' hm hn hc I'=>⟨.ref f,_,I',rfl,h f c cl doc pm ct H1 hm hn hc⟩
end
abbrev Cv:=List (Addr×Obj×V)
noncomputable def pub(cv:Cv)(H:Hp):Hp:=fun b=>match cv.lookup b with
 | some p=>some (eY b p.1 p.2)
 | none=>H b
noncomputable def dL(cv:Cv):List Addr:=cv.map (·.1)
theorem iQ{cv:Cv}{b:Addr}:b∈dL cv↔∃ p,cv.lookup b=some p:=by
 unfold dL
 induction cv with
 | nil=>simp
 | cons a r ih=>
  obtain ⟨x,p⟩:=a
  rw[AW,AS,ih,BC]
  by_cases h:b=x
  ·subst h;simp
  ·rw[C4 h]
   simp[h]
theorem rA{cv:Cv}{H:Hp}{b:Addr}{p:Obj×V}(h:cv.lookup b=some p):pub cv H b=some (eY b p.1 p.2):=by unfold pub;rw[h]
theorem eZ{cv:Cv}{H:Hp}{b:Addr}(h:b∉dL cv):pub cv H b=H b:=by
 unfold pub
 cases e:cv.lookup b with
 | none=>rfl
 | some p=>exact absurd (iQ.mpr ⟨p,e⟩) h
theorem lI{cv:Cv}{H:Hp}(hd:∀ b∈dL cv,H b=none):aI H (pub cv H):=fun b o e=>by
 rw[eZ fun z=>by rw[hd b z] at e;cases e];exact e
theorem aKF{P:Program}{w:World}{fs:List Addr}{cv:Cv}{H H1:Hp}{h h':Heap}(hd:∀ b∈dL cv,H b=none)(hk:HOk P w (pub cv H) h)(un:Un fs [] (pub cv H) H1 h h')(hk1:HOk P w H1 h') :
  Un fs [] H (hid (dL cv) H1) h h'/\HOk P w (hid (dL cv) H1) h':=by
 have inn:∀ b,b∈dL cv->∃ o v,h.get? b=some o/\h'.get? b=some o/\H1 b=some (eY b o v):=fun b hb=>by
  obtain ⟨⟨o,v⟩,e⟩:=iQ.mp hb
  have z:=rA (H:=H) e
  have z1:=un.frzs b o _ z
  exact ⟨o,v,(eY.get hk z).1,(eY.get hk1 z1).1,z1⟩
 have out:∀ b u,H b=some u->b∉dL cv:=fun b u e z=>by rw[hd b z] at e;cases e
 refine ⟨⟨fun b o e n h1 h2=>?_,fun b o e n h1 h2=>?_,fun b o e n h2=>?_,un.there,fun b xs q=>?_,fun b o u q=>?_,fun b ps q=>?_⟩,fun b u e=>?_⟩
 ·by_cases hb:b∈dL cv
  ·obtain ⟨o',v,q1,q2,_⟩:=inn b hb
   rw[e] at q1;cases q1;exact q2
  ·exact un.keep b o e (by rw[eZ hb];exact n) h1 h2
 ·by_cases hb:b∈dL cv
  ·obtain ⟨o',v,q1,q2,_⟩:=inn b hb
   rw[e] at q1;cases q1;exact ⟨o.slots,q2⟩
  ·exact un.slot b o e (by rw[eZ hb];exact n) h1 h2
 ·by_cases hb:b∈dL cv
  ·exact oZ hb
  ·rw[bX hb];exact un.free b o e (by rw[eZ hb];exact n) h2
 ·have hb:=out b _ q
  rw[bX hb];exact un.tups b xs (by rw[eZ hb];exact q)
 ·have hb:=out b _ q
  rw[bX hb];exact un.frzs b o u (by rw[eZ hb];exact q)
 ·have hb:=out b _ q
  rw[bX hb];exact un.tbls b ps (by rw[eZ hb];exact q)
 ·obtain ⟨e1,hb⟩:=pT e
  have ne:∀ c o,H1 c=some o->(∀ o' v,o≠eY c o' v)->c∉dL cv:=fun c o q n z=>by
   obtain ⟨o',v,_,_,z1⟩:=inn c z
   rw[q] at z1;cases z1;exact n o' v rfl
  exact (hk1 b u e1).stay (fun _ _ _ q=>q) (fun c q=>by rw[bX (ne c _ q fun _ _ z=>nomatch z)];exact q) (fun c _ q=>by rw[bX (ne c _ q fun _ _ z=>nomatch z)];exact q) fun c _ q=>by rw[bX (ne c _ q fun _ _ z=>nomatch z)];exact q
structure PubRel(X:Cx)(σ:St)(H:Hp)(js:List Nat)(cv:Cv):Prop where
 at':∀ b o v,cv.lookup b=some (o,v)->∃ x j,j∈js/\X.N[j]? = some x/\X.env.cells.lookup x=some b/\σ[j]? = some (some v)
 all:∀ j∈js,∃ x c o v,X.N[j]? = some x/\X.env.cells.lookup x=some c/\σ[j]? = some (some v)/\cv.lookup c=some (o,v)
 free:∀ b∈dL cv,H b=none
 inj:∀ x y c,X.env.cells.lookup x=some c->X.env.cells.lookup y=some c->x=y
section
variable{X:Cx}{pins:List (Addr×Obj)}{σ:St}{H:Hp}{s:Shared}
def aAD(X:Cx)(σ:St)(j:Nat):Prop:=∃ x v,X.N[j]? = some x/\X.env.kindOf x=some .cell/\X.fn x=true/\σ[j]? = some (some v)
theorem aGJ(I:Inv X pins σ H s):∀ (js:List Nat),(∀ j∈js,aAD X σ j)->∃ cv,PubRel X σ H js cv/\∀ b o v,cv.lookup b=some (o,v)->(∃ u,s.heap.get? b=some o/\o.data=.cell (some u)/\bC v u)/\X.s₀.heap.objs.size<=b/\∃ x,X.env.cells.lookup x=some b
 | [],_=>⟨[],⟨fun b o v e=>by simp at e,fun j hj=>by simp at hj,fun b hb=>by simp[dL] at hb,I.ok.inj⟩,fun b o v e=>by simp at e⟩
 | j::js,hj=>by
  obtain ⟨cv,R,ok⟩:=aGJ I js fun j' h'=>hj j' (AN _ h')
  obtain ⟨x,v,hN,hk,hf,hv⟩:=hj j AV
  obtain ⟨m,hn,hl⟩:=I.loc
  obtain ⟨u,r,l⟩:=hl j x v hN hv (.inr (.inl hk))
  rcases l with ⟨hk',_⟩|⟨_,c,hc,o,ho,hd⟩
  ·rw[hk] at hk';cases hk'
  ·have hcab:=I.ok.cab x c hf hc
   by_cases hin:c∈dL cv
   ·obtain ⟨⟨o',v'⟩,e⟩:=iQ.mp hin
    obtain ⟨x',j',hj',hN',hc',hv'⟩:=R.at' c o' v' e
    have hxx:x=x':=I.ok.inj x x' c hc hc'
    subst hxx
    refine ⟨cv,⟨fun b o v e=>?_,fun k hk=>?_,R.free,R.inj⟩,ok⟩
    ·obtain ⟨x,j,h1,h2⟩:=R.at' b o v e
     exact ⟨x,j,AN _ h1,h2⟩
    ·rcases AS.mp hk with z|z
     ·subst z
      obtain ⟨u2,r2,l2⟩:=hl j' x v' hN' hv' (.inr (.inl (by assumption)))
      obtain ⟨⟨u3,q1,q2,q3⟩,_⟩:=ok c o' v' e
      rw[ho] at q1;cases q1
      rw[hd] at q2
      have:u=u3:=by cases q2;rfl
      subst this
      have hvv:v=v':=bC.inj r q3
      subst hvv
      exact ⟨x,c,_,v,hN,hc,hv,e⟩
     ·exact R.all k z
   ·refine ⟨(c,o,v)::cv,⟨fun b o' v' e=>?_,fun k hk=>?_,fun b hb=>?_,R.inj⟩,fun b o' v' e=>?_⟩
    ·rw[BC] at e
     by_cases hb:b=c
     ·subst hb
      simp only[CU] at e
      cases e
      exact ⟨x,j,AV,hN,hc,hv⟩
     ·rw[C4 hb] at e
      obtain ⟨x,j,h1,h2⟩:=R.at' b o' v' e
      exact ⟨x,j,AN _ h1,h2⟩
    ·rcases AS.mp hk with z|z
     ·subst z
      exact ⟨x,c,o,v,hN,hc,hv,by rw[BC];simp⟩
     ·obtain ⟨x',c',o',v',h1,h2,h3,h4⟩:=R.all k z
      refine ⟨x',c',o',v',h1,h2,h3,?_⟩
      rw[BC,C4 (show c'≠c from fun z=>by rw[z] at h4;exact hin (iQ.mpr ⟨_,h4⟩))];exact h4
    ·have hb':b=c\/b∈dL cv:=by simpa[dL] using hb
     rcases hb' with z|z
     ·subst z;exact I.freeC x b hc
     ·exact R.free b z
    ·rw[BC] at e
     by_cases hb:b=c
     ·subst hb
      simp only[CU] at e
      cases e
      exact ⟨⟨u,ho,hd,r⟩,hcab,x,hc⟩
     ·rw[C4 hb] at e
      exact ok b o' v' e
theorem aLR(I:Inv X pins σ H s){js:List Nat}{cv:Cv}(R:PubRel X σ H js cv)(ok:∀ b o v,cv.lookup b=some (o,v)->(∃ u,s.heap.get? b=some o/\o.data=.cell (some u)/\bC v u)/\X.s₀.heap.objs.size<=b/\∃ x,X.env.cells.lookup x=some b) :
  Env0 X.prog X.w X.K X.mg X.base X.A X.stack s (pub cv H) where
 frames:=I.ok.frames
 mod:=I.ok.mod
 bs:=fun b o e=>⟨(I.bs b o e).1,by
  rw[eZ]
  ·exact (I.bs b o e).2
  ·intro z
   obtain ⟨⟨o',v⟩,q⟩:=iQ.mp z
   have h1:=(ok b o' v q).2.1
   have h2:=AM e
   exact absurd (AT h2 (BI I.ok.bsz h1)) (BM _)⟩
 bsz:=BI I.ok.bsz I.sz
 funs:=I.stack
 frf:=fun b hb=>by
  rw[eZ]
  ·exact I.stkFree b hb
  ·intro z
   obtain ⟨⟨o',v⟩,q⟩:=iQ.mp z
   obtain ⟨_,h1,x,hx⟩:=ok b o' v q
   rcases AS.mp (I.stkSub b hb) with z2|z2
   ·exact I.cne x b hx z2
   ·obtain ⟨_,o,ho,_⟩:=I.ok.funs.mem z2
    exact absurd (AT (AM ho) h1) (BM _)
 hok:=fun b u e=>by
  by_cases hb:b∈dL cv
  ·obtain ⟨⟨o,v⟩,q⟩:=iQ.mp hb
   rw[rA q] at e;cases e
   obtain ⟨⟨u,h1,h2,h3⟩,_⟩:=ok b o v q
   exact eY.ok h3 h1 h2
  ·rw[eZ hb] at e
   exact (I.hok b u e).stay (fun _ _ _ q=>q) (fun c q=>lI R.free _ _ q) (fun c _ q=>lI R.free _ _ q) fun c _ q=>lI R.free _ _ q
 bare:=I.bare
def aGK(X:Cx)(js:List Nat)(sp:Sp)(E:XK)(t:TA):TE:=fun σ H Q=>t σ H fun vs H1=>(∀ j∈js,aAD X σ j)/\∀ cv,PubRel X σ H1 js cv->sp vs (pub cv H1) (fun v H2=>Q v (hid (dL cv) H2)) (fun c e H2=>E c e (hid (dL cv) H2)/\∀ a,e=some a->a∉dL cv)
theorem aAE{k:Nat}{x:Str}{ps:List Str}{sp:Sp}{E:XK}{p pos:Pos}{e:Expr}{es:List Expr}{t:TA}{js:List Nat}(C:Calls X.prog X.w X.K X.mg X.base (CXe X.prog X.w) k x ps sp)(hr:Room k X.A)(hg:Gl X x)(hx:nA (CXe X.prog X.w) X E)(ha:PA X (e::es) t)(hdb:(x == ("__debug__":Str))=false:=by decide)
  (he:starEach (e::es) X.env=(false,eval e X.env)::starEach es X.env:=by rfl) (hpl:(backTo pos (starEach es X.env)).any (·.1)=false:=by rfl):PE X (.Call (.Name x p) (e::es) [] pos) (aGK X js sp E t):=by
 obtain ⟨f,fd,F,b,m,kp⟩:=C
 intro pins s σ H Q I h
 refine CV (mU I hg m ?_ hdb)
 refine DU (h₀:=X.base) I.ok.mod.kin kp (thn (ha pos pins s σ H _ I h) fun us s1 ⟨vs,H1,I1,r,hcs,q⟩=>⟨I1.kIn,?_⟩) he hpl
 obtain ⟨cv,R,ok⟩:=aGJ I1 js hcs
 have hsp:=q cv R
 have e0:=aLR I1 R ok
 have hl:us.length=ps.length:=by rw[<-r.length];exact F.len _ _ _ _ hsp
 have hb:=b s1 us I1.kIn (by simpa using hl)
 rw[C3] at hb
 refine FX (EI (F.run X.A X.stack s1 _ ⟨us,[]⟩ us vs _ _ hr e0 hb r hsp) fun r' s' hq=>?_)
 cases r' with
 | error ev=>
  obtain ⟨e,C,od,H',rfl,os,bare,un,hok,hee,⟨vs',T,q1,q2,q3⟩,q4,q5⟩:=hq
  obtain ⟨un',hok'⟩:=aKF R.free e0.hok un hok
  refine hx pins σ H1 s1 (.ref e) s' I1 ⟨e,C,od,hid (dL cv) H',rfl,os,bare,un',hok',?_,⟨vs',T,q1,q2,fun t e1=>?_⟩,q4⟩
  ·rw[bX (q5 e rfl)];exact hee
  ·exact ⟨i4 (q3 t e1).1,(q3 t e1).2⟩
 | ok fl=>
  cases fl with
  | ret u=>
   obtain ⟨v,H',os,bare,un,hok,rv,q'⟩:=hq
   obtain ⟨un',hok'⟩:=aKF R.free e0.hok un hok
   exact I1.after ⟨v,hid (dL cv) H',os,bare,un',hok',rv,q'⟩
  | next=>exact False.elim hq
  | brk=>exact False.elim hq
  | cont=>exact False.elim hq
end
noncomputable def aAF(Ps:List Addr)(qs:List (Pos×Str)):Hp:=fun b=>if b∈Ps then some (.tbl qs) else none
def aAG(mg:Str->Option Value)(h base:Heap)(T:Hp)(qs:List (Pos×Str))(xs:List Str):Prop:=
 ∀ x∈xs,∃ c0 P0,T P0=some (.tbl qs)/\Tb mg base c0 P0/\∀ f o fd,mg x=some (.ref f)->h.get? f=some o->o.data=.func fd->fd.code=.ref c0
theorem aGL{P:Program}{w:World}{K:Frag}{mg mb:Str->Option Value}{CX:CXT}{k:Nat}{fa a:Addr}{fd:FuncData}{x:Str}{s₁:Shared}{vs:List Value}{ns:List Int}{qs:List (Pos×Str)}{xs:List Str}{tb:Str->Addr×Addr}
  (hT:∀ x∈xs,PySem.W.CodeHd s₁.heap (tb x).1 (tb x).2/\s₁.heap.get? (tb x).2=some (PySem.W.tabObj #[])) (hlk:∀ x∈xs,∀ f o fd,mg x=some (.ref f)->s₁.heap.get? f=some o->o.data=.func fd->fd.code=.ref (tb x).1)
  (hbt:∃ bm ob,mg "__builtins__"=some (.ref bm)/\bm≠builtinsNs/\s₁.heap.get? bm=some ob/\ob.cls=.type "module"/\ob.dict=some builtinsNs/\ob.data=.plain) (hNT:PySem.W.noTabs K=true)
  (KX:K.In s₁.heap) (hns:s₁.heap.Ns mainGlobals mg) (hb:s₁.heap.Ns builtinsNs mb) (hbb:∀ x:Str,x≠"__name__"->mb x=bootBuiltins x) (hlim:s₁.heap.NoLimit) (hg:s₁.gens = #[])
  (ha:s₁.heap.get? a=some {cls:=.type "list",data:=.seq vs.toArray}) (hi:IntsAre vs ns) (hl:ns.length<=sizeLine) (hr:Room k callerA)
  (F:∀ (base:Heap) (T:Hp),K.In base->base.Ns mainGlobals mg->aAG mg s₁.heap base T qs xs->∃ sp,FnOk P w K mg base CX k fa fd [x] sp/\∀ H:Hp,aI T H->SqL K H a (ns.map V.int)->sp [.ref a] H (fun v _=>v=.bl true) fun _ _ _=>False) (hbind:∀ (s:Shared) (u:Value),BindsTo s fd ⟨[u],[]⟩ [(x,u)])
  (hCX:∀ H e s',CX [] H s₁ (fun _ _ _=>False) e s'->False) :
  codeAny (model P w) callerA (.call (.ref fa) ⟨[.ref a],[]⟩) (fun r s'=>r=.ok (.ret (.bool true))/\OldK s₁.heap s'.heap/\s'.os=s₁.os/\AllBare s'.gens) s₁:=by
 have rv:=yI hi
 have lenV:=hi.length
 let Ps:List Addr:=xs.map fun x=>(tb x).2
 have hPs:∀ b∈Ps,s₁.heap.get? b=some (PySem.W.tabObj #[])/\isCodeTable s₁.heap b:=fun b hb=>by
  obtain ⟨y,hy,rfl⟩:=A0.mp hb
  exact ⟨(hT y hy).2,((hT y hy).1.tab (hT y hy).2).isCodeTable⟩
 have haP:a∉Ps:=fun z=>by have:=(hPs a z).1;rw[ha] at this;cases this
 have hKP:∀ b∈Ps,K.lookup b=none:=fun b hb=>by
  cases e:K.lookup b with
  | none=>rfl
  | some o=>
   have e2:=KX b o e
   rw[(hPs b hb).1] at e2
   cases e2
   have h2:=BT.mp hNT (b,_) (PySem.W.mem_of_lookupK e)
   exact absurd (show false=true from h2) B6
 have core:∀ H:Hp,(∀ b∈Ps,H b=some (.tbl qs))->(∀ b,H b≠none->b=a\/b∈Ps)->(H a=none\/∃ o xs,H a=some (.frz o (.lst xs)))->SqL K H a (ns.map V.int)->HOk P w H s₁.heap->(H a≠none->K.lookup a=none)->
   codeAny (model P w) callerA (.call (.ref fa) ⟨[.ref a],[]⟩) (fun r s'=>r=.ok (.ret (.bool true))/\OldK s₁.heap s'.heap/\s'.os=s₁.os/\AllBare s'.gens) s₁:=by
  intro H hP hA hO hS hok hK
  have base_of:∀ {b:Addr} {o:Obj},s₁.heap.get? b=some o->H b=none->(oK s₁.heap H).get? b=some o:=fun e n=>aHZ e n
  have free_of:∀ {b:Addr} {o:Obj},s₁.heap.get? b=some o->(∀ vs,o.data≠.seq vs)->o≠PySem.W.tabObj #[]->H b=none:=fun {b o} e d d2=>by
   cases q:H b with
   | none=>rfl
   | some u=>
    rcases hA b (by rw[q];simp) with e'|e'
    ·subst e'
     rw[ha] at e;cases e
     exact absurd rfl (d _)
    ·rw[(hPs b e').1] at e;cases e;exact absurd rfl d2
  have noA:∀ {b:Addr} {o:Obj} {es:Array DictEntry} {ep:Nat},s₁.heap.get? b=some o->o.data=.dict es ep->H b=none:=fun {b o es ep} e d=>free_of e (fun vs z=>by rw[d] at z;cases z) fun z=>by rw[z] at d;cases d
  have nsK:∀ {b:Addr} {m:Str->Option Value},s₁.heap.Ns b m->(oK s₁.heap H).Ns b m:=fun {b m} ⟨o,es,ep,e,d,r⟩=>⟨o,es,ep,base_of e (noA e d),d,r⟩
  have hKb:K.In (oK s₁.heap H):=fun b o e=>base_of (KX b o e) (by
   cases q:H b with
   | none=>rfl
   | some u=>
    rcases hA b (by rw[q];simp) with e'|e'
    ·subst e'
     rw[hK (by rw[q];simp)] at e;cases e
    ·rw[hKP b e'] at e;cases e)
  have hM:Mod K mg (oK s₁.heap H):=⟨hKb,nsK hns,⟨mb,nsK hb,hbb⟩,let ⟨mc,h1,h2⟩:=hlim;⟨mc,nsK h1,h2⟩⟩
  have e0:Env0 P w K mg (oK s₁.heap H) callerA [] s₁ H:=⟨rfl,hM,fun b o e=>aK3 e,Nat.le_of_eq (aFQ _ _),trivial,fun b hb=>absurd (show b∈([]:List Addr) from hb) (by simp),hok,.of_eq hg⟩
  have hTL:aAG mg s₁.heap (oK s₁.heap H) (aAF Ps qs) qs xs:=fun y hy=>by
   refine ⟨(tb y).1,(tb y).2,AG (A0.mpr ⟨y,hy,rfl⟩),⟨?_,?_⟩,hlk y hy⟩
   ·obtain ⟨o,vs,file,tf,flags,tg,inF,text,tt,e1,r1,r2,r3⟩:=(hT y hy).1
    exact ⟨o,vs,file,tf,flags,tg,inF,text,tt,base_of e1 (free_of e1 (fun vs z=>by rw[r2] at z;cases z) fun z=>by rw[z] at r1;cases r1),r1,r2,r3⟩
   ·obtain ⟨bm,ob,b1,b2,b3,b4,b5,b6⟩:=hbt
    exact ⟨bm,ob,b1,b2,base_of b3 (free_of b3 (fun vs z=>by rw[b6] at z;cases z) fun z=>by rw[z] at b4;cases b4),b4,b5,b6⟩
  have hTH:aI (aAF Ps qs) H:=fun b o e=>by
   unfold aAF at e
   split at e
   ·rename_i hb;cases e;exact hP b hb
   ·cases e
  obtain ⟨sp,FO,hsp⟩:=F _ _ hKb (nsK hns) hTL
  refine EI (FO.run callerA [] s₁ H ⟨[.ref a],[]⟩ [.ref a] [.ref a] _ _ hr e0 (hbind s₁ (.ref a)) (.cons rfl .nil) (hsp H hTH hS)) fun r s' h=>?_
  cases r with
  | error e=>exact (hCX H e s' h).elim
  | ok fl=>
   cases fl with
   | next=>exact False.elim h
   | brk=>exact False.elim h
   | cont=>exact False.elim h
   | ret u=>
    obtain ⟨v,H',os,bare,un,hok',r',q⟩:=h
    have q':v=.bl true:=q
    subst q'
    obtain rfl:u=Value.bool true:=r'
    have kept:∀ b o,s₁.heap.get? b=some o->b∉Ps->s'.heap.get? b=some o:=fun b o e hb=>by
     cases q:H b with
     | none=>exact un.keep b o e q (by intro z;exact absurd (show b∈([]:List Addr) from z) (by simp)) (by simp)
     | some u=>
      rcases hA b (by rw[q];simp) with z|z
      ·subst z
       rcases hO with z|⟨ob,xs,z⟩
       ·rw[q] at z;cases z
       ·have z2:=un.frzs b ob _ z
        obtain ⟨e1,_⟩:=hok b _ z
        obtain ⟨e2,_⟩:=hok' b _ z2
        rw[e] at e1;cases e1
        exact e2
      ·exact absurd z hb
    refine ⟨rfl,⟨fun b o e=>?_,fun b o e=>?_⟩,os,bare⟩
    ·by_cases hb:b∈Ps
     ·obtain ⟨ps,e2,_⟩:=(show cO P w H' s'.heap b (.tbl qs) from hok' b _ (un.tbls b _ (hP b hb)))
      have e1:=(hPs b hb).1
      rw[e] at e1;cases e1
      exact .inr (.inl ⟨(hPs b hb).2,rfl,#[],ps,rfl,by rw[Array.empty_append];exact e2⟩)
     ·exact .inl (kept b o e hb)
    ·by_cases hb:b∈Ps
     ·obtain ⟨ps,e2,_⟩:=(show cO P w H' s'.heap b (.tbl qs) from hok' b _ (un.tbls b _ (hP b hb)))
      exact ⟨_,e2⟩
     ·exact ⟨o,kept b o e hb⟩
 have tabOk:∀ (H:Hp) b,b∈Ps->cO P w H s₁.heap b (.tbl qs):=fun H b hb=>⟨#[],(hPs b hb).1,trivial,fun p _=>.inl rfl⟩
 cases hk:K.lookup a with
 | some o=>
  have e:=KX a o hk
  rw[ha] at e
  cases e
  refine core (aAF Ps qs) (fun b hb=>AG hb) (fun b z=>?_) (.inl (AH haP)) (.inr ⟨_,vs.toArray,_,hk,rfl,rfl,rfl,by rw[BF,lenV];exact hl,by simpa using rv⟩) (fun b u z=>?_) fun z=>absurd (AH haP) z
  ·by_cases hb:b∈Ps
   ·exact .inr hb
   ·exact absurd (AH hb) z
  ·by_cases hb:b∈Ps
   ·have z':=(AG hb).symm.trans z
    cases z'
    exact tabOk _ b hb
   ·have z':=(AH hb).symm.trans z
    cases z'
 | none=>
  refine core (fun b=>if b=a then some (.frz {cls:=.type "list",data:=.seq vs.toArray} (.lst (ns.map V.int))) else aAF Ps qs b) (fun b hb=>?_) (fun b z=>?_) (.inr ⟨_,_,AG rfl⟩) (.inl (.inr ⟨{cls:=.type "list",data:=.seq vs.toArray},AG rfl⟩)) (fun b u z=>?_) fun _=>hk
  ·rw[AH (show ¬ b=a from fun z=>haP (by rw[<-z];exact hb))];exact AG hb
  ·by_cases hb:b=a
   ·exact .inl hb
   ·rw[AH hb] at z
    by_cases hb2:b∈Ps
    ·exact .inr hb2
    ·exact absurd (AH hb2) z
  ·by_cases hb:b=a
   ·have z':=(AG hb).symm.trans z
    cases z'
    subst hb
    exact ⟨ha,by rw[AB];exact hl,vs,_,rv,ha⟩
   ·have z':=(AH hb).symm.trans z
    by_cases hb2:b∈Ps
    ·have z2:=(AG hb2).symm.trans z'
     cases z2
     exact tabOk _ b hb2
    ·have z2:=(AH hb2).symm.trans z'
     cases z2
theorem aLS{p:Program}{loose:List Str}{mean:ExcName->Option Value}{mg mb:Str->Option Value}{h:Heap}(T:Top p loose mean mg mb h)(xs:List Str)(hx:∀ x∈xs,∃ d∈recsOf p,d.name=x) :
  ∃ tb:Str->Addr×Addr,(∀ x∈xs,PySem.W.CodeHd h (tb x).1 (tb x).2/\h.get? (tb x).2=some (PySem.W.tabObj #[]))/\∀ x∈xs,∀ f o fd,mg x=some (.ref f)->h.get? f=some o->o.data=.func fd->fd.code=.ref (tb x).1:=by
 have key:∀ x,∃ t:Addr×Addr,x∈xs->(PySem.W.CodeHd h t.1 t.2/\h.get? t.2=some (PySem.W.tabObj #[]))/\∀ f o fd,mg x=some (.ref f)->h.get? f=some o->o.data=.func fd->fd.code=.ref t.1:=fun x=>by
  by_cases hm:x∈xs
  ·obtain ⟨d,hd,rfl⟩:=hx x hm
   obtain ⟨a,o,fd,c,P',h1,h2,h3,h4,h5,h6⟩:=T.tab d hd
   refine ⟨(c,P'),fun _=>⟨⟨PySem.W.CodeHd.of h5 h6,h6.2⟩,fun f o' fd' e1 e2 e3=>?_⟩⟩
   rw[h1] at e1;cases e1
   rw[h2] at e2;cases e2
   rw[h3] at e3;cases e3
   exact h4
  ·exact ⟨(0,0),fun z=>absurd z hm⟩
 exact ⟨fun x=>(key x).choose,fun x hx=>((key x).choose_spec hx).1,fun x hx=>((key x).choose_spec hx).2⟩
theorem walk_ofT{l:PySem.W.OpenLaw}{n k:Nat}{q:Program}{loose:List Str}{XP:(Str->Option Value)->Heap->Prop}{YP:World->Heap->Prop}{d:DefRec}{K:Params->Frag}{CX:World->CXT}{x:Str}{qs:List (Pos×Str)}{xs:List Str}
  (hxs:∀ x∈xs,∃ d∈recsOf q,d.name=x) (hNT:∀ w:World,PySem.W.noTabs (K w.params)=true)
  (hn:l.most=some n) (hn2:n<=sizeLine) (hdf:d.params.defaults=[]) (hr:Room k callerA)
  (hY:∀ (w:World) (h:Heap),YP w h->(K w.params).In h)
  (F:∀ (w:World) (mg:Str->Option Value) (fa:Addr) (h:Heap),(K w.params).In h->h.Ns mainGlobals mg->mg d.name=some (.ref fa)->
   ∃ fd:FuncData,(∀ (s:Shared) (u:Value),BindsTo s fd ⟨[u],[]⟩ [(x,u)]) /\
    ∀ (base:Heap) (T:Hp),(K w.params).In base->base.Ns mainGlobals mg->aAG mg h base T qs xs->∃ sp,FnOk l.prog w (K w.params) mg base (CX w) k fa fd [x] sp /\
     ∀ (H:Hp) (a:Addr) (ns:List Int),ns.length<=n->aI T H->SqL (K w.params) H a (ns.map V.int)->sp [.ref a] H (fun v _=>v=.bl true) fun _ _ _=>False)
  (hCX:∀ (w:World) (H:Hp) (s:Shared) (e:Value) (s':Shared),CX w [] H s (fun _ _ _=>False) e s'->False) :
  PySem.W.WalkO q loose XP YP l.row.toRowW d [] (fun f vs=>PySem.call f vs):=by
 refine Att.attach_call hn hdf fun w s₀ s₁ mg mb fa o pm cd doc a vs ns G Y ho hd hcd hmg hobj hints hlen hg=>?_
 have KX:=hY w _ Y
 obtain ⟨fd,hb,hF⟩:=F w mg fa _ KX G.T.g hmg
 obtain ⟨tb,hT,hlk⟩:=aLS G.T xs hxs
 refine aGL (qs:=qs) hT hlk G.T.bmain (hNT w) KX G.T.g G.T.b G.T.builtins G.T.nolimit hg hobj hints (BI hlen hn2) hr (fun base T kb nb TL=>?_) hb fun H e s'=>hCX w H s₁ e s'
 obtain ⟨sp,FO,hs⟩:=hF base T kb nb TL
 exact ⟨sp,FO,fun H h1 h2=>hs H a ns hlen h1 h2⟩
end L2
namespace Fl
open PySem L2 PyProof.Rows
mutual
noncomputable def fU:PyData->Bool
 | .none=>true
 | .int _=>true
 | .str x=>PyData.strOk x
 | .tuple xs=>eU xs
 | _=>false
noncomputable def eU:List PyData->Bool
 | []=>true
 | x::t=>fU x && eU t
end
mutual
noncomputable def iU(w:World):PyData->Int
 | .none=>reduceHash 0xFCA86420
 | .int i=>hashInt i
 | .str x=>hashStr w x
 | .tuple xs=>reduceHash (Builtin.Tuple.tupleHashOf (mX w xs))
 | _=>0
noncomputable def mX(w:World):List PyData->List Int
 | []=>[]
 | x::t=>iU w x::mX w t
end
mutual
noncomputable def hX:PyData->Nat
 | .tuple xs=>nE xs+1
 | _=>1
noncomputable def nE:List PyData->Nat
 | []=>0
 | x::t=>hX x+nE t
end
mutual
theorem sL:∀ {d:PyData},fU d=true->d.canLay0=true
 | .none,_=>rfl
 | .int _,_=>rfl
 | .str x,h=>h
 | .tuple xs,h=>by
  have h':eU xs=true:=h
  exact aAH h'
theorem aAH:∀ {xs:List PyData},eU xs=true->PyData.canLayAll0 xs=true
 | [],_=>rfl
 | x::t,h=>by
  have h':(fU x && eU t)=true:=h
  rw[AU] at h'
  show (x.canLay0 && PyData.canLayAll0 t)=true
  rw[sL h'.1,aAH h'.2];rfl
end
mutual
theorem wZ:∀ {d e:PyData},fU d=true->fU e=true->(PyData.eqv d e=true↔d=e)
 | .none,e,_,he=>by cases e<;>simp[PyData.eqv]<;>cases he
 | .int i,e,_,he=>by cases e<;>simp[PyData.eqv]<;>cases he
 | .str x,e,_,he=>by cases e<;>simp[PyData.eqv]<;>cases he
 | .tuple xs,e,hd,he=>by
  have hd':eU xs=true:=hd
  cases e with
  | tuple ys=>
   have he':eU ys=true:=he
   have:=aAI hd' he'
   show PyData.eqvAll xs ys=true↔_
   rw[this]
   exact ⟨fun z=>by rw[z],fun z=>by cases z;rfl⟩
  | _=>simp[PyData.eqv]<;>cases he
theorem aAI:∀ {xs ys:List PyData},eU xs=true->eU ys=true->(PyData.eqvAll xs ys=true↔xs=ys)
 | [],ys,_,_=>by cases ys<;>simp[PyData.eqvAll]
 | x::t,ys,hx,hy=>by
  have hx':(fU x && eU t)=true:=hx
  rw[AU] at hx'
  cases ys with
  | nil=>simp[PyData.eqvAll]
  | cons y u=>
   have hy':(fU y && eU u)=true:=hy
   rw[AU] at hy'
   rw[PyData.eqvAll,AU,wZ hx'.1 hy'.1,aAI hx'.2 hy'.2]
   exact ⟨fun ⟨a,b⟩=>by rw[a,b],fun z=>by cases z;exact ⟨rfl,rfl⟩⟩
end
noncomputable instance decPyData:DecidableEq PyData:=fun a b=>Classical.propDecidable (a=b)
theorem aLT{d e:PyData}(hd:fU d=true)(he:fU e=true):PyData.eqv d e=decide (d=e):=by
 by_cases h:d=e
 ·rw[AY h,(wZ hd he).mpr h]
 ·rw[AZ h]
  cases q:PyData.eqv d e with
  | false=>rfl
  | true=>exact absurd ((wZ hd he).mp q) h
theorem aEL(xs:List PyData):hX (.tuple xs)=nE xs+1:=by rw[hX]
theorem yM(A:Around):A.in1.units=A.units+1:=rfl
def l0(prog:Program)(w:World)(E:Value->Shared->Prop)(d:PyData):Prop:=∀ (v:Value) (as:List Addr) (A:Around) (s:Shared) (Q:Int->Shared->Prop),fU d=true->Reads s.heap v d as->A.units+d.depth < cLine->Q (iU w d) {s with toks:=s.toks+hX d}->
 wpAny (model prog w) A (pyHash v) Q E s
theorem aO0{prog:Program}{w:World}{E:Value->Shared->Prop}:∀ (xs:List PyData) (ih:∀ x∈xs,l0 prog w E x) (vs:List Value) (as:List Addr) (A:Around) (s:Shared) (b:Array Int) (Q:Array Int->Shared->Prop),eU xs=true->ReadsAll s.heap vs xs as->A.units+PyData.depthAll xs < cLine->
  (∀ b',b'.toList=b.toList++mX w xs->Q b' {s with toks:=s.toks+nE xs})->
  wpAny (model prog w) A (forIn vs b fun x r=>do let h <-pyHash x;pure PUnit.unit;pure (ForInStep.yield (r.push h))) Q E s:=by
 intro xs
 induction xs with
 | nil=>
  intro ih vs as A s b Q _ x _ h
  cases x
  exact AD (h b (by simp[mX]))
 | cons k xs ih0=>
  intro ih vs as A s b Q hk x hu h
  cases x with
  | @cons v vs _ _ as bs x1 x2=>
   have hk':(fU k && eU xs)=true:=hk
   rw[AU] at hk'
   have hu':A.units+max k.depth (PyData.depthAll xs) < cLine:=hu
   rw[CP]
   refine AA (AA (ih k AV _ _ A s _ hk'.1 x1 (by omega) ?_))
   refine AA (AD (AD ?_))
   refine ih0 (fun x hx=>ih x (AN _ hx)) _ _ A {s with toks:=s.toks+hX k} _ Q hk'.2 x2 (by omega) fun b' hb=>?_
   have q:=h b' (by rw[hb];simp[mX])
   rw[show nE (k::xs)=hX k+nE xs by rw[nE],<-Nat.add_assoc] at q
   exact q
theorem yN(w:World)(i:Int):iU w (.int i)=hashInt i:=by rw[iU]
theorem yO(w:World)(i:Str):iU w (.str i)=hashStr w i:=by rw[iU]
theorem aGM(w:World)(xs:List PyData):iU w (.tuple xs)=reduceHash (Builtin.Tuple.tupleHashOf (mX w xs)):=by rw[iU]
theorem aEM(i:Int):hX (.int i)=1:=by unfold hX;rfl
theorem aEN(i:Str):hX (.str i)=1:=by unfold hX;rfl
theorem aIG{prog:Program}{w:World}{E:Value->Shared->Prop}(i:Int):l0 prog w E (.int i):=fun v as A s Q _ r _ h=>by
 rw[yN,aEM] at h
 cases r
 exact wpAny_pyHash_int h
theorem aIH{prog:Program}{w:World}{E:Value->Shared->Prop}(i:Str):l0 prog w E (.str i):=fun v as A s Q _ r _ h=>by
 rw[yO,aEN] at h
 cases r
 exact wpAny_pyHash_str h
theorem aII{prog:Program}{w:World}{E:Value->Shared->Prop}(xs:List PyData)(ih:∀ x∈xs,l0 prog w E x):l0 prog w E (.tuple xs):=fun v as A s Q hk r hu h=>by
 rw[aGM,aEL] at h
 cases r with
 | @tuple a o vs n _ as h1 h2 h3 h4=>
  have hk':eU xs=true:=hk
  have hu':A.units+(PyData.depthAll xs+1) < cLine:=hu
  refine PySem.W.pyHash_slot (T:="tuple") ⟨o,h1,h2⟩ F.slot_tuple_hash F.entry_tuple_hash (F.args_tuple_hash_1 _) (beq_builtin_none _) (.inr (by omega)) ?_
  show wpAny _ _ (Builtin.Tuple.tupleItemsOf (.ref a) >>= _) _ _ s
  refine AA (wpAny_tupleItemsOf h1 h3 ?_)
  refine AA ?_
  rw[<-Array.forIn_toList]
  refine aO0 xs ih vs.toList as A.in1 s #[] _ hk' h4 (by rw[yM];omega) fun b hb=>?_
  show wpAny _ _ (retInt (Builtin.Tuple.tupleHashOf b.toList)) _ _ _
  rw[hb]
  exact AA (wpAny_mkInt (AD ⟨_,_,rfl,h⟩))
theorem aEO(w:World):iU w .none=reduceHash 0xFCA86420:=by rw[iU]
theorem aCC:hX .none=1:=by unfold hX;rfl
theorem aIJ{prog:Program}{w:World}{E:Value->Shared->Prop}:l0 prog w E .none:=fun v as A s Q _ r hu h=>by
 rw[aEO,aCC] at h
 generalize hg:reduceHash 0xFCA86420=g at h
 cases r
 refine PySem.W.pyHash_slot (T:="NoneType") rfl F.slot_NoneType_hash F.entry_NoneType_hash (F.args_NoneType_hash_1 _) (beq_builtin_none _) (.inr (by omega)) (AA (AD (AA (wpAny_mkInt (AD ⟨0xFCA86420,_,rfl,?_⟩)))))
 rw[hg]
 exact h
theorem aO1{prog:Program}{w:World}{E:Value->Shared->Prop}:∀ (n:Nat) (d:PyData),sizeOf d<=n->l0 prog w E d:=by
 intro n
 induction n with
 | zero=>intro d h;cases d<;>simp at h
 | succ n ih=>
  intro d h
  cases d with
  | none=>exact aIJ
  | int i=>exact aIG i
  | str x=>exact aIH x
  | tuple xs=>
   refine aII xs fun x hx=>ih x ?_
   have:=List.sizeOf_lt_of_mem hx
   simp only[PyData.tuple.sizeOf_spec] at h
   omega
  | bool b=>exact fun v as A s Q hk=>nomatch hk
  | list xs=>exact fun v as A s Q hk=>nomatch hk
  | dict xs=>exact fun v as A s Q hk=>nomatch hk
theorem aO2{prog:Program}{w:World}{E:Value->Shared->Prop}(d:PyData):l0 prog w E d:=aO1 (sizeOf d) d (AK _)
theorem aLU{M:Model}{A:Around}{E:Value->Shared->Prop}{s:Shared}:∀ (n:Nat) (d:PyData) (v:Value) (as:List Addr) (Q:Bool->Shared->Prop),fU d=true->Reads s.heap v d as->d.depth<=n->Q true s->wpAny M A (eqIsQuiet n v) Q E s:=by
 intro n
 induction n with
 | zero=>
  intro d v as Q hk r hd h
  cases d with
  | none=>cases r;rw[DQ _ rfl];exact AD h
  | int i=>cases r;rw[DQ _ rfl];exact AD h
  | str x=>cases r;rw[DQ _ rfl];exact AD h
  | tuple xs=>
   have hd':PyData.depthAll xs+1<=0:=hd
   omega
  | bool b=>exact nomatch hk
  | list xs=>exact nomatch hk
  | dict xs=>exact nomatch hk
 | succ n ih=>
  intro d v as Q hk r hd h
  cases d with
  | none=>cases r;rw[DQ _ rfl];exact AD h
  | int i=>cases r;rw[DQ _ rfl];exact AD h
  | str x=>cases r;rw[DQ _ rfl];exact AD h
  | bool b=>exact nomatch hk
  | list xs=>exact nomatch hk
  | dict xs=>exact nomatch hk
  | tuple xs=>
   cases r with
   | @tuple a o vs m _ as h1 h2 h3 h4=>
    have hk':eU xs=true:=hk
    have hd':PyData.depthAll xs+1<=n+1:=hd
    have hT:s.TypeIs (.ref a) "tuple":=⟨o,h1,h2⟩
    unfold eqIsQuiet
    refine AA (wpAny_specialOf hT F.slot_tuple_eq.lookup ?_)
    show wpAny _ _ (isInstance (.ref a) (.type "tuple") >>= _) _ _ s
    refine AA (wpAny_isInstance hT isSubtype_tuple_tuple ?_)
    simp only[GU,CK,DY]
    refine AA (CW h1 h3 ?_)
    refine AA ?_
    show wpAny _ _ (forIn vs _ _) _ _ s
    rw[<-Array.forIn_toList]
    refine wpAny_forIn_list _ (fun rest r s'=>r.1=none/\s'=s/\∃ ys bs,eU ys=true/\PyData.depthAll ys<=n/\ReadsAll s.heap rest ys bs) _ ?_ ?_ _ _ ⟨rfl,rfl,xs,_,hk',by omega,h4⟩
    ·rintro v rest r s' ⟨hr,rfl,ys,bs,hy,hdy,ry⟩
     cases ry with
     | @cons _ _ y yt cs ds r1 r2=>
      have hy':(fU y && eU yt)=true:=hy
      rw[AU] at hy'
      have hdy':max y.depth (PyData.depthAll yt)<=n:=hdy
      refine AA (ih y v _ _ hy'.1 r1 (by omega) ?_)
      simp only[GU,CK,DY]
      exact AD ⟨rfl,rfl,yt,_,hy'.2,by omega,r2⟩
    ·rintro ⟨r1,r2⟩ s' ⟨hr,rfl,_⟩
     simp only at hr
     subst hr
     exact AD h
def aS1(h:Heap)(d:PyData)(a:Addr):Prop:=fU d=true/\d.depth<=8/\∃ as,Reads h (.ref a) d as
theorem aEP{h h':Heap}{a:Addr}{o:Obj}{es:Array DictEntry}{ep:Nat}(ho:h.get? a=some o)(hd:o.data=.dict es ep)(hs:Heap.SameBut a h h'){v:Value}{d:PyData}{as:List Addr}(hk:fU d=true)(r:Reads h v d as):Reads h' v d as:=by
 refine Reads.rec (motive_1:=fun v d as _=>fU d=true->Reads h' v d as) (motive_2:=fun vs xs as _=>eU xs=true->ReadsAll h' vs xs as) ?_ ?_ ?_ ?_ ?_ ?_ ?_ ?_ ?_ r hk
 ·exact fun _=>.none
 ·intro b hk;cases hk
 ·exact fun i t _=>.int i t
 ·exact fun i t _=>.str i t
 ·intro b o' vs n xs as h1 h2 h3 h4 ih hk;cases hk
 ·intro b o' vs n xs as h1 h2 h3 h4 ih hk
  exact .tuple ((hs.2 b (fun z=>by subst z;rw[ho] at h1;cases h1;rw[hd] at h3;cases h3)).trans h1) h2 h3 (ih hk)
 ·intro b o' es' n kvs as bs h1 h2 h3 h4 h5 i1 i2 hk;cases hk
 ·exact fun _=>.nil
 ·intro v vs d ds as bs r1 r2 i1 i2 hk
  exact .cons (i1 ((AU ..).mp hk).1) (i2 ((AU ..).mp hk).2)
noncomputable def j2(prog:Program)(w:World):HeapKind prog w PyData where
 is:=aS1
 hash:=iU w
 draws:=hX
 room:=fun A=>A.units+9 < cLine
 inj:=fun {h a x y} hx hy=>by
  obtain ⟨k1,_,as,r1⟩:=hx
  obtain ⟨k2,_,bs,r2⟩:=hy
  exact PySem.SeqAt.Reads.unique x y _ _ _ (sL k1) r1 r2
 keeps:=fun {h h' k a d o es ep} hx ho hd hs=>by
  obtain ⟨k1,k2,as,r1⟩:=hx
  exact ⟨k1,k2,as,aEP ho hd hs k1 r1⟩
 pyHash:=fun {A E s k a Q} hu hk h=>by
  obtain ⟨k1,k2,as,r1⟩:=hk
  exact aO2 k _ as A s Q k1 r1 (by omega) h
 eqBool:=fun {A E s x y a b Q} hu hx hy h=>by
  obtain ⟨k1,k2,as,r1⟩:=hx
  obtain ⟨l1,l2,bs,r2⟩:=hy
  refine PySem.SeqAt.eqAt_reads x y A s _ _ as bs r1 r2 (sL k1) (sL l1) ?_ prog w E Q ?_
  ·have:min x.depth y.depth<=8:=BI (Nat.min_le_left _ _) k2
   omega
  ·rw[aLT k1 l1];exact h
 quiet:=fun {A E s k a Q} hk h=>by
  obtain ⟨k1,k2,as,r1⟩:=hk
  exact aLU 8 k _ as Q k1 r1 k2 h
abbrev Ent:=PyData×V×V
def sM(w:World)(p:Ent)(en:DictEntry):Prop:=en.hash=iU w p.1/\bC p.2.1 en.key/\bC p.2.2 en.val
def eP(w:World)(a:Addr)(es:List Ent)(ep:Nat):HO:=.ext fun h=>(a == sysModules)=false/\∃ o ar,h.get? a=some o/\o.ExactDict/\o.data=.dict ar ep/\Paired (sM w) es ar.toList
theorem kK{P:Program}{w:World}{H:Hp}{h:Heap}{a:Addr}{es:List Ent}{ep:Nat}(hd:(a == sysModules)=false)(hh:∃ o ar,h.get? a=some o/\o.ExactDict/\o.data=.dict ar ep/\Paired (sM w) es ar.toList):cO P w H h a (eP w a es ep):=
 ⟨⟨hd,hh⟩,let ⟨o,_,e,_⟩:=hh;⟨o,e⟩,fun h1 h2 ⟨q,o,es,e,r⟩ kp=>⟨q,o,es,kp _ e,r⟩⟩
noncomputable def iR:PyData->Bool
 | .tuple xs=>fU (.tuple xs) && decide ((PyData.tuple xs).depth<=8)
 | _=>false
noncomputable def oM:PyData->Bool
 | .int _=>true
 | .str _=>true
 | _=>false
def cF(k:PyData)(ks:List PyData):Bool:=(iR k && ks.all iR) || (oM k && ks.all oM)
theorem aLV{d:PyData}(h:iR d=true):∃ xs,d=.tuple xs/\fU d=true/\d.depth<=8:=by
 cases d with
 | tuple xs=>
  have h':(fU (.tuple xs) && decide ((PyData.tuple xs).depth<=8))=true:=h
  rw[AU] at h'
  exact ⟨xs,rfl,h'.1,BO h'.2⟩
 | _=>cases h
def iV:Key->PyData
 | .inl i=>.int i
 | .inr x=>.str x
theorem aCW{d:PyData}(h:oM d=true):∃ k,d=iV k:=by
 cases d with
 | int i=>exact ⟨.inl i,rfl⟩
 | str i=>exact ⟨.inr i,rfl⟩
 | _=>cases h
theorem yP{a b:Key}(h:iV a=iV b):a=b:=by
 cases a<;>cases b<;>cases h<;>rfl
theorem aCX{K:Frag}{H:Hp}{v:V}{k:Key}(h:DatV K H v (iV k)):v=kV k:=by
 cases k with
 | inl i=>exact h.int_of
 | inr x=>exact h.str_of
theorem aAJ{P:Program}{w:World}(k:Key):iU w (iV k)=(eE P w).hash k:=by
 cases k with
 | inl i=>exact yN w i
 | inr x=>exact yO w x
def w4:Ent->(PyData×Addr×Value)->Prop:=fun e x=>e.1=x.1/\e.2.1=.ref x.2.1/\bC e.2.2 x.2.2
def w6:Ent->(Key×Value)->Prop:=fun e x=>e.1=iV x.1/\e.2.1=kV x.1/\bC e.2.2 x.2
theorem aGN{P:Program}{w:World}:∀ {es:List Ent} {ens:List DictEntry},Paired (sM w) es ens->(∀ e∈es,∃ b,e.2.1=.ref b)->∃ xs,ens=xs.map (entryOfKey (j2 P w))/\Paired w4 es xs
 | _,_,.nil,_=>⟨[],rfl,.nil⟩
 | e::es,en::ens,.cons h t,hb=>by
  obtain ⟨xs,h1,h2⟩:=aGN (P:=P) t fun e he=>hb e (AN _ he)
  obtain ⟨b,hb'⟩:=hb e AV
  obtain ⟨q1,q2,q3⟩:=h
  rw[hb'] at q2
  obtain ⟨hash,key,val⟩:=en
  have q2':key=Value.ref b:=q2
  have q1':hash=iU w e.1:=q1
  subst q2' q1'
  exact ⟨(e.1,b,val)::xs,by rw[AW,h1];rfl,.cons ⟨rfl,hb',q3⟩ h2⟩
theorem pV{P:Program}{w:World}:∀ {es:List Ent} {xs:List (PyData×Addr×Value)},Paired w4 es xs->Paired (sM w) es (xs.map (entryOfKey (j2 P w)))
 | _,_,.nil=>.nil
 | _,_,.cons h t=>.cons ⟨by rw[h.1];rfl,by rw[h.2.1];rfl,h.2.2⟩ (pV t)
theorem aGO{P:Program}{w:World}:∀ {es:List Ent} {ens:List DictEntry},Paired (sM w) es ens->(∀ e∈es,∃ k,e.1=iV k/\e.2.1=kV k)->∃ xs,Pairs (eE P w) ens xs/\Paired w6 es xs/\∀ en∈ens,∃ k,(eE P w).is k en.key=true/\en.hash=(eE P w).hash k
 | _,_,.nil,_=>⟨[],.nil,.nil,fun _ h=>by cases h⟩
 | e::es,en::ens,.cons h t,hb=>by
  obtain ⟨xs,h1,h2,h3⟩:=aGO (P:=P) t fun e he=>hb e (AN _ he)
  obtain ⟨k,hk1,hk2⟩:=hb e AV
  obtain ⟨q1,q2,q3⟩:=h
  have hi:(eE P w).is k en.key=true:=aKD (by rw[<-hk2];exact q2)
  refine ⟨(k,en.val)::xs,.cons hi rfl h1,.cons ⟨hk1,hk2,q3⟩ h2,fun en' hen=>?_⟩
  rcases AS.mp hen with z|z
  · subst z; exact ⟨k, hi, by rw [q1, hk1, aAJ (P := P)]⟩
  · exact h3 en' z
theorem aLW{P:Program}{w:World}{k:Key}{v:Value}(h:(eE P w).is k v=true):bC (kV k) v:=by
 rcases keyIs_shape h with ⟨i,t,rfl,rfl⟩|⟨x,t,rfl,rfl⟩
 · exact ⟨t, rfl⟩
 · exact ⟨t, rfl⟩
theorem pW{P:Program}{w:World}:∀ {es:List Ent} {xs:List (Key×Value)} {ens:List DictEntry},Paired w6 es xs->Pairs (eE P w) ens xs->(∀ en∈ens,∃ k,(eE P w).is k en.key=true/\en.hash=(eE P w).hash k)->Paired (sM w) es ens
 | _,_,_,.nil,.nil,_=>.nil
 | _,_,_,.cons h t,.cons p1 p2 ps,hk=>by
  obtain ⟨k,hk1,hk2⟩:=hk _ AV
  obtain rfl:=(eE P w).inj _ _ _ hk1 p1
  refine .cons ⟨by rw[hk2,h.1,aAJ (P:=P)],by rw[h.2.1];exact aLW hk1,by rw[p2];exact h.2.2⟩ (pW t ps fun en he=>hk en (AN _ he))
noncomputable def atE(es:List Ent)(k:PyData):Option V:=(es.find? fun e=>decide (e.1=k)).map (·.2.2)
noncomputable def nF(es:List Ent)(k:PyData)(kv v:V):List Ent:=if (atE es k).isSome then es.map (fun e=>if e.1=k then (e.1,e.2.1,v) else e) else es++[(k,kv,v)]
theorem o0{k:PyData}:∀ {es:List Ent} {xs:List (PyData×Addr×Value)},Paired w4 es xs->l8 (atE es k) ((atKey xs k).map (·.2))
 | _,_,.nil=>trivial
 | e::es,x::xs,.cons h t=>by
  have ih:=o0 (k:=k) t
  unfold atE atKey at ih ⊢
  rw[C5,C5,h.1]
  by_cases q:x.1=k
  · rw [AY q]; exact h.2.2
  · rw [AZ q]; exact ih
theorem o3{k:Key}:∀ {es:List Ent} {xs:List (Key×Value)},Paired w6 es xs->l8 (atE es (iV k)) (valueAt xs k)
 | _,_,.nil=>trivial
 | e::es,x::xs,.cons h t=>by
  have ih:=o3 (k:=k) t
  unfold atE valueAt at ih ⊢
  rw[C5,C5,h.1]
  by_cases q:x.1=k
  · rw [AY q, AY (by rw [q])]; exact h.2.2
  · rw [AZ q, AZ (fun z => q (yP z))]; exact ih
theorem kL{o:Option V}{u:Option Value}(h:l8 o u):o.isSome=u.isSome:=by
 cases o<;>cases u<;>first|rfl|exact h.elim
theorem pX{α β:Type}{f:α->β->Prop}{g:α->α}{k:β->β}(hg:∀ a b,f a b->f (g a) (k b)):∀ {xs:List α} {ys:List β},Paired f xs ys->Paired f (xs.map g) (ys.map k)
 | _,_,.nil=>.nil
 | _,_,.cons h t=>.cons (hg _ _ h) (pX hg t)
theorem pY{α β:Type}{f:α->β->Prop}{a:α}{b:β}(h:f a b):∀ {xs:List α} {ys:List β},Paired f xs ys->Paired f (xs++[a]) (ys++[b])
 | _,_,.nil=>.cons h .nil
 | _,_,.cons q t=>.cons q (pY h t)
theorem aEQ{k:PyData}{b:Addr}{v:V}{u:Value}{es:List Ent}{xs:List (PyData×Addr×Value)}(r:bC v u)(h:Paired w4 es xs):Paired w4 (nF es k (.ref b) v) (storedH xs k b u):=by
 have q:=kL (o0 (k:=k) h)
 rw[ER] at q
 unfold nF storedH
 rw[q]
 cases (atKey xs k).isSome with
 | true=>
  rw[AG rfl,AG rfl]
  refine pX (fun e x hx=>?_) h
  unfold putAt
  rw[hx.1]
  by_cases z:x.1=k
  · rw [AG z, AG z]; exact ⟨rfl, hx.2.1, r⟩
  · rw [AH z, AH z]; exact hx
 | false=>rw[AH (by decide),AH (by decide)];exact pY ⟨rfl,rfl,r⟩ h
theorem aKG{k:Key}:∀ {xs:List (Key×Value)},xs.any (fun kv=>decide (kv.1=k))=(valueAt xs k).isSome
 | []=>rfl
 | x::xs=>by
  have ih:=aKG (k:=k) (xs:=xs)
  unfold valueAt at ih ⊢
  rw[List.any_cons,C5]
  by_cases q:x.1=k
  · rw [AY q]; rfl
  · rw [AZ q, Bool.false_or]; exact ih
theorem aER{k:Key}{v:V}{u:Value}{es:List Ent}{xs:List (Key×Value)}(r:bC v u)(h:Paired w6 es xs):Paired w6 (nF es (iV k) (kV k) v) (stored xs k u):=by
 have q:=kL (o3 (k:=k) h)
 unfold nF stored
 rw[q,aKG]
 cases (valueAt xs k).isSome with
 | true=>
  rw[AG rfl,AG rfl]
  refine pX (fun e x hx=>?_) h
  by_cases z:x.1=k
  · rw [AG z, AG (by rw [hx.1, z])]; exact ⟨by rw [hx.1], hx.2.1, r⟩
  · rw [AH z, AH (fun y => z (yP (hx.1.symm.trans y)))]; exact hx
 | false=>rw[AH (by decide),AH (by decide)];exact pY ⟨rfl,rfl,r⟩ h
section
variable{X:Cx}{pins:List (Addr×Obj)}{σ:L2.St}{H:Hp}{s:Shared}{a:Addr}{es:List Ent}{k:PyData}{kv v:V}{ku u:Value}{A:Around}{E:Value->Shared->Prop}
structure DicAt(X:Cx)(H:Hp)(a:Addr)(es:List Ent)(k:PyData)(kv:V):Prop where
 o:∃ ep,H a=some (eP X.w a es ep)
 ks:∀ e∈es,DatV X.K H e.2.1 e.1
 nd:(es.map (·.1)).Nodup
 dk:DatV X.K H kv k
 one:cF k (es.map (·.1))=true
theorem vM{α β:Type}{f:α->β->Prop}{y:β}:∀ {xs:List α} {ys:List β},Paired f xs ys->y∈ys->∃ x,x∈xs/\f x y
 | _,_,.nil,h=>by cases h
 | _,_,.cons q t,h=>by
  rcases AS.mp h with z|z
  ·subst z;exact ⟨_,AV,q⟩
  ·obtain ⟨x,h1,h2⟩:=vM t z
   exact ⟨x,AN _ h1,h2⟩
theorem pZ{α β γ:Type}{f:α->β->Prop}{g:α->γ}{k:β->γ}(h:∀ a b,f a b->g a=k b):∀ {xs:List α} {ys:List β},Paired f xs ys->xs.map g=ys.map k
 | _,_,.nil=>rfl
 | _,_,.cons q t=>by rw[AW,AW,h _ _ q,pZ h t]
theorem yQ{α β:Type}{f:α->β}:∀ {xs:List α},(xs.map f).Nodup->xs.Nodup
 | [],_=>DC
 | x::t,h=>by
  rw[AW,CD] at h
  exact CD.mpr ⟨fun z=>h.1 (DR z),yQ h.2⟩
theorem DicAt.cases (D : DicAt X H a es k kv) (I : Inv X pins σ H s) (rk : bC kv ku) : (a == sysModules) = false /\
    ((∃ b xs, kv = .ref b /\ ku = .ref b /\ Paired w4 es xs /\ (j2 X.prog X.w).is s.heap k b /\ s.heap.DictOfH (j2 X.prog X.w) a xs) \/
     (∃ kk xs, k = iV kk /\ kv = kV kk /\ Paired w6 es xs /\ (eE X.prog X.w).is kk ku = true /\ s.heap.DictOf (eE X.prog X.w) a xs)) := by
  obtain ⟨ep, hO⟩ := D.o
  obtain ⟨⟨hd, o, ar, h1, h2, h3, h4⟩, _, _⟩ := (show cO X.prog X.w H s.heap a (eP X.w a es ep) from I.hok a _ hO)
  refine ⟨hd, ?_⟩
  have hone := D.one
  unfold cF at hone
  rw [DK, AU, AU, BT, BT] at hone
  rcases hone with ⟨hk, ha⟩ | ⟨hk, ha⟩
  · have key : ∀ (d : PyData) (v : V), iR d = true -> DatV X.K H v d -> ∃ b', v = .ref b' /\ (j2 X.prog X.w).is s.heap d b' := fun d v hd hv => by
      obtain ⟨ws, rfl, q1, q2⟩ := aLV hd
      obtain ⟨b', vs, rfl, _, _⟩ := hv.tup_of
      obtain ⟨as, r⟩ := hv.reads I (u := .ref b') rfl
      exact ⟨b', rfl, q1, q2, as, r⟩
    obtain ⟨b, rfl, hkb⟩ := key _ _ hk D.dk
    cases (show ku = Value.ref b from rk)
    obtain ⟨xs, hx1, hx2⟩ := aGN (P := X.prog) h4 fun e he => by
      obtain ⟨b', e1, _⟩ := key e.1 e.2.1 (ha _ (DR he)) (D.ks e he)
      exact ⟨b', e1⟩
    refine .inl ⟨b, xs, rfl, rfl, hx2, hkb, o, ar, ep, h1, h2, h3, hx1, fun x hx => ?_, ?_⟩
    · obtain ⟨e, he, hex⟩ := vM hx2 hx
      obtain ⟨b', e1, q⟩ := key e.1 e.2.1 (ha _ (DR he)) (D.ks e he)
      rw [hex.2.1] at e1
      cases e1
      rw [<- hex.1]; exact q
    · rw [<- pZ (g := fun e : Ent => e.1) (fun a b h => h.1) hx2]; exact D.nd
  · obtain ⟨kk, rfl⟩ := aCW hk
    have hkv := aCX D.dk
    obtain ⟨xs, hx1, hx2, hx3⟩ := aGO (P := X.prog) h4 fun e he => by
      obtain ⟨k', hk'⟩ := aCW (ha _ (DR he))
      have q := D.ks e he
      rw [hk'] at q
      exact ⟨k', hk', aCX q⟩
    refine .inr ⟨kk, xs, rfl, hkv, hx2, aKD (by rw [<- hkv]; exact rk), o, ar, ep, h1, h2, h3, fun en hen => hx3 en (by simpa using hen), hx1, ?_⟩
    have : es.map (·.1) = (xs.map (·.1)).map iV := by rw [B1]; exact pZ (g := fun e : Ent => e.1) (fun a b h => h.1) hx2
    have nd := D.nd
    rw [this] at nd
    exact yQ nd
theorem l5{A:Around}(hu:A.units+64 < cLine):(j2 X.prog X.w).room A.in1:=by show A.in1.units+9 < cLine;rw[yM];omega
theorem aO3{Q:Value->Shared->Prop}(hu:A.units+64 < cLine)(D:DicAt X H a es k kv)(I:Inv X pins σ H s)(rk:bC kv ku)(h:∀ s',Inv X pins σ H s'->Q (.bool (atE es k).isSome) s'):wpAny (model X.prog X.w) A (compareOp .In ku (.ref a)) Q E s:=by
 obtain ⟨hd,⟨b,xs,rfl,rfl,hx,hk,dd⟩|⟨kk,xs,rfl,rfl,hx,hk,dd⟩⟩:=D.cases I rk
 ·refine wpAny_in_heap (l5 hu) hk hd dd ?_
  have q:=kL (o0 (k:=k) hx)
  rw[ER] at q
  rw[<-q];exact h _ (I.tok _)
 ·refine wpAny_in_of hk hd dd.mapOf ?_
  rw[<-kL (o3 (k:=kk) hx)];exact h _ (I.tok _)
theorem aLX{Q:Value->Shared->Prop}(hu:A.units+64 < cLine)(D:DicAt X H a es k kv)(I:Inv X pins σ H s)(rk:bC kv ku)(h:∀ s',Inv X pins σ H s'->Q (.bool (!(atE es k).isSome)) s'):wpAny (model X.prog X.w) A (compareOp .NotIn ku (.ref a)) Q E s:=by
 obtain ⟨hd,⟨b,xs,rfl,rfl,hx,hk,dd⟩|⟨kk,xs,rfl,rfl,hx,hk,dd⟩⟩:=D.cases I rk
 ·refine wpAny_notIn_heap (l5 hu) hk hd dd ?_
  have q:=kL (o0 (k:=k) hx)
  rw[ER] at q
  rw[<-q];exact h _ (I.tok _)
 ·refine wpAny_notIn_of hk hd dd.mapOf ?_
  rw[<-kL (o3 (k:=kk) hx)];exact h _ (I.tok _)
theorem aLY{Q:Value->Shared->Prop}(hu:A.units+64 < cLine)(D:DicAt X H a es k kv)(I:Inv X pins σ H s)(rk:bC kv ku)(hv:atE es k=some v)(h:∀ w' s',Inv X pins σ H s'->bC v w'->Q w' s'):wpAny (model X.prog X.w) A (getItem (.ref a) ku) Q E s:=by
 obtain ⟨hd,⟨b,xs,rfl,rfl,hx,hk,dd⟩|⟨kk,xs,rfl,rfl,hx,hk,dd⟩⟩:=D.cases I rk
 ·have q:=o0 (k:=k) hx
  rw[hv] at q
  obtain ⟨w',hw,rw'⟩:=l8.some_of q
  obtain ⟨p,hp,hp2⟩:=Option.map_eq_some_iff.mp hw
  refine wpAny_getItem_heap (l5 hu) hk dd hp ?_
  rw[hp2];exact h w' _ (I.tok _) rw'
 ·have q:=o3 (k:=kk) hx
  rw[hv] at q
  obtain ⟨w',hw,rw'⟩:=l8.some_of q
  exact wpAny_getItem_of hk dd.mapOf hw (h w' _ (I.tok _) rw')
theorem aLZ{Q:Unit->Shared->Prop}(hu:A.units+64 < cLine)(D:DicAt X H a es k kv)(I:Inv X pins σ H s)(rk:bC kv ku)(rv:bC v u)(hz:es.length<=sizeLine)(h:∀ ep s',Inv X pins σ (upd H a (eP X.w a (nF es k kv v) ep)) s'->Q () s') :
  wpAny (model X.prog X.w) A (setItem (.ref a) ku u) Q E s:=by
 obtain ⟨hd,⟨b,xs,rfl,rfl,hx,hk,dd⟩|⟨kk,xs,rfl,rfl,hx,hk,dd⟩⟩:=D.cases I rk
 ·have hl:xs.length<=sizeLine:=by rw[<-Paired.length hx];exact hz
  refine wpAny_setItem_heap (hsz:=hl) (l5 hu) hk dd fun h' dd' hs=>?_
  obtain ⟨q',ar,ep,hq,h2,h3,h4,_,h5⟩:=dd'
  obtain ⟨ep0,hO⟩:=D.o
  refine h ep _ (mV I (by rw[hO];exact True.intro) hs ⟨q',hq⟩ (kK hd ⟨q',ar,hq,h2,h3,?_⟩))
  rw[h4]
  exact pV (aEQ rv hx)
 ·have hl:xs.length<=sizeLine:=by rw[<-Paired.length hx];exact hz
  refine wpAny_setItem_pairs (hsz:=hl) hk dd fun h' dd' hs=>?_
  obtain ⟨q',ar,ep,hq,h2,h3,h4,h5,_⟩:=dd'
  obtain ⟨ep0,hO⟩:=D.o
  refine h ep _ (mV I (by rw[hO];exact True.intro) hs ⟨q',hq⟩ (kK hd ⟨q',ar,hq,h2,h3,?_⟩))
  exact pW (aER rv hx) h5 fun en hen=>h4 en (by simpa using hen)
end
structure Er where
 c:Str
 fs:List (Str×PyData)
inductive R(α:Type) where
 | bad|ok (a:α)|ex (e:Er)
noncomputable def R.bind{α β:Type}:R α->(α->R β)->R β
 | .bad,_=>.bad
 | .ok a,f=>f a
 | .ex e,_=>.ex e
@[simp] theorem R.bind_ok{α β:Type}(a:α)(f:α->R β):(R.ok a).bind f=f a:=id rfl
@[simp] theorem R.bind_bad{α β:Type}(f:α->R β):(R.bad:R α).bind f=.bad:=id rfl
@[simp] theorem R.bind_ex{α β:Type}(e:Er)(f:α->R β):(R.ex e:R α).bind f=.ex e:=id rfl
inductive A where
 | d (x:PyData)|l (xs:List PyData)|m (kvs:List (PyData×PyData))|x (e:Er)|g (k n:Nat) (f:List PyData->R PyData)|k (q:Str)|f (kvs:List (PyData×PyData))|o (e:Er)
abbrev Sg:=List (Option A)
structure Gb where
 B:Addr->Hp->Nat->Nat->(List PyData->R PyData)->Prop
 T:Hp
 w:World
structure Ct where
 K:Frag
 mg:Str->Option Value
 w:World
 F0:Hp
 H0:Hp
 g:Gb
 cells:List (Str×Addr)
 cls:Str->Option ClSt
theorem aAK{w:World}{p:Addr}{es:List Ent}{ep:Nat}{q:Str}(h:eP w p es ep=.cod q):False:=by unfold eP at h;cases h
theorem cK(H:Hp):aI H H:=fun _ _ h=>h
theorem bZ{H H':Hp}(s:aI H H'){a:Addr}(h:H' a=none):H a=none:=by
 cases e:H a with
 | none=>rfl
 | some o=>rw[s a o e] at h;cases h
def nZ(H:Hp)(a:Addr):Prop:=H a=none\/∃ q,H a=some (.cod q)
theorem nZ.back{H H1:Hp}{a:Addr}(s:aI H H1)(h:nZ H1 a):nZ H a:=by
 cases e:H a with
 | none=>exact .inl e
 | some o=>
  have e1:=s a o e
  rcases h with z|⟨q,z⟩
  · rw [e1] at z; cases z
  · rw [e1] at z; cases z; exact .inr ⟨q, e⟩
structure Ext(F H F' H':Hp):Prop where
 hh:aI H H'
 ff:aI F F'
 fh:aI F' H'
 nw:∀ a,F a=none->F' a≠none->nZ H a
theorem Ext.refl{F H:Hp}(h:aI F H):Ext F H F H:=⟨cK H,cK F,h,fun a e n=>absurd e n⟩
theorem Ext.trans{F H F1 H1 F2 H2:Hp}(a:Ext F H F1 H1)(b:Ext F1 H1 F2 H2):Ext F H F2 H2:=
 ⟨fun x o e=>b.hh x o (a.hh x o e),fun x o e=>b.ff x o (a.ff x o e),b.fh,fun x e n=>by
  cases q:F1 x with
  | none=>exact (b.nw x q n).back a.hh
  | some o=>exact a.nw x e (by rw[q];exact fun z=>nomatch z)⟩
theorem Ext.stay{F H F' H':Hp}(s:Ext F H F' H'){p:Addr}{o:HO}(h3:F p=none)(h2:H p=some o)(hno:∀ q,o≠.cod q):F' p=none:=by
 cases q:F' p with
 | none=>rfl
 | some o=>
  rcases s.nw p h3 (by rw[q];exact fun z=>nomatch z) with z|⟨q',z⟩
  · rw [z] at h2; cases h2
  · rw [z] at h2; cases h2; exact absurd rfl (hno _)
theorem aIK{F H:Hp}{p:Addr}{o:HO}(s:aI F H):aI (upd F p o) (upd H p o):=fun a u e=>by
 by_cases q:a=p
 · subst q; rw [aY] at e ⊢; exact e
 · rw [aM q] at e ⊢; exact s a u e
theorem Ext.new{F H:Hp}{p:Addr}{o:HO}(s:aI F H)(hp:H p=none):Ext F H (upd F p o) (upd H p o):=
 ⟨aI.upd hp,aI.upd (bZ s hp),aIK s,fun a e n=>by
  by_cases q:a=p
  · subst q; exact .inl hp
  · rw [aM q] at n; exact absurd e n⟩
theorem Ext.own{F H:Hp}{p:Addr}{o:HO}(s:aI F H)(hp:H p=none):Ext F H F (upd H p o):=
 ⟨aI.upd hp,cK F,fun a u e=>by
  rw[aM (bI (s a u e) hp)];exact s a u e,fun a e n=>absurd e n⟩
def kU(K:Frag)(mg:Str->Option Value)(F:Hp)(e:Er)(a C:Addr):Prop:=mg e.c=some (.ref C)/\∃ od,F a=some (ExO a C od)/\((e.fs=[]/\od=none)\/∃ d fvs,od=some d/\F d=some (.xd fvs)/\fvs.map (·.1)=e.fs.map (·.1)/\DatVs K F (fvs.map (·.2)) (e.fs.map (·.2)))
theorem kU.same{K:Frag}{mg:Str->Option Value}{F F':Hp}{e:Er}{a C:Addr}(s:aI F F')(h:kU K mg F e a C):kU K mg F' e a C:=by
 obtain ⟨m,od,h1,h2⟩:=h
 refine ⟨m,od,s _ _ h1,h2.imp id ?_⟩
 rintro ⟨d,fvs,e1,e2,e3,e4⟩
 exact ⟨d,fvs,e1,s _ _ e2,e3,e4.same s⟩
def aES(K:Frag)(mg:Str->Option Value)(F:Hp)(e:Er)(a:Addr):Prop:=∃ C dx fvs,mg e.c=some (.ref C)/\F a=some (.ins C dx fvs)/\fvs.map (·.1)=e.fs.map (·.1)/\DatVs K F (fvs.map (·.2)) (e.fs.map (·.2))
theorem aES.same{K:Frag}{mg:Str->Option Value}{F F':Hp}{e:Er}{a:Addr}(s:aI F F')(h:aES K mg F e a):aES K mg F' e a:=by
 obtain ⟨C,dx,fvs,h1,h2,h3,h4⟩:=h
 exact ⟨C,dx,fvs,h1,s _ _ h2,h3,h4.same s⟩
structure MapRel(K:Frag)(F:Hp)(es:List Ent)(kvs:List (PyData×PyData)):Prop where
 k1:es.map (·.1)=kvs.map (·.1)
 k2:DatVs K F (es.map (·.2.1)) (kvs.map (·.1))
 vs:DatVs K F (es.map (·.2.2)) (kvs.map (·.2))
 nd:(kvs.map (·.1)).Nodup
theorem MapRel.same{K:Frag}{F F':Hp}{es:List Ent}{kvs:List (PyData×PyData)}(s:aI F F')(h:MapRel K F es kvs):MapRel K F' es kvs:=⟨h.k1,h.k2.same s,h.vs.same s,h.nd⟩
def AF(g:Gb)(K:Frag)(mg:Str->Option Value)(F:Hp):A->V->Prop
 | .d x,v=>DatV K F v x
 | .x e,v=>∃ a C,v=.ref a/\kU K mg F e a C
 | .g k n G,v=>∃ f F1,v=.ref f/\aI F1 F/\g.B f F1 k n G
 | .f kvs,v=>∃ p es,v=.ref p/\(∃ ep,F p=some (eP g.w p es ep))/\MapRel K F es kvs
 | .o e,v=>∃ a,v=.ref a/\aES K mg F e a
 | _,_=>False
theorem AF.same{g:Gb}{K:Frag}{mg:Str->Option Value}{F F':Hp}(s:aI F F'):∀ {a:A} {v:V},AF g K mg F a v->AF g K mg F' a v
 | .d x,v,h=>DatV.same s h
 | .x e,v,⟨a,C,h1,h2⟩=>⟨a,C,h1,h2.same s⟩
 | .g k n G,v,⟨f,F1,h1,h2,h3⟩=>⟨f,F1,h1,fun a o z=>s a o (h2 a o z),h3⟩
 | .f kvs,v,⟨p,es,h1,⟨ep,h2⟩,h3⟩=>⟨p,es,h1,⟨ep,s _ _ h2⟩,h3.same s⟩
 | .o e,v,⟨a,h1,h2⟩=>⟨a,h1,h2.same s⟩
noncomputable def A.own:A->Bool
 | .l _=>true
 | .m _=>true
 | _=>false
def AO(c:Ct)(F H:Hp):A->V->Prop
 | .l xs,v=>∃ p vs,v=.ref p/\H p=some (.lst vs)/\F p=none/\c.H0 p=none/\DatVs c.K F vs xs
 | .m kvs,v=>∃ p es,v=.ref p/\(∃ ep,H p=some (eP c.w p es ep))/\F p=none/\c.H0 p=none/\MapRel c.K F es kvs
 | .k q,v=>∃ S f cl doc pm cc ct,c.cls q=some S/\v=.ref f/\F f=some (FnO f (S.obj cl doc pm cc ct))/\F cc=some (.cod S.qual)/\ClOf c.cells S.scope cl
 | a,v=>AF c.g c.K c.mg F a v
theorem AO.ext{c:Ct}{F H F' H':Hp}(s:Ext F H F' H'):∀ {a:A} {v:V},AO c F H a v->AO c F' H' a v
 | .d x,v,h=>DatV.same s.ff h
 | .x e,v,h=>AF.same (g:=c.g) (K:=c.K) (mg:=c.mg) (a:=.x e) s.ff h
 | .g k n G,v,h=>AF.same (g:=c.g) (K:=c.K) (mg:=c.mg) (a:=.g k n G) s.ff h
 | .f kvs,v,h=>AF.same (g:=c.g) (K:=c.K) (mg:=c.mg) (a:=.f kvs) s.ff h
 | .o e,v,h=>AF.same (g:=c.g) (K:=c.K) (mg:=c.mg) (a:=.o e) s.ff h
 | .k q,v,⟨S,f,cl,doc,pm,cc,ct,h0,h1,h2,h3,h4⟩=>⟨S,f,cl,doc,pm,cc,ct,h0,h1,s.ff _ _ h2,s.ff _ _ h3,h4⟩
 | .l xs,v,⟨p,vs,h1,h2,h3,h4,h5⟩=>⟨p,vs,h1,s.hh _ _ h2,s.stay h3 h2 (fun _ z=>nomatch z),h4,h5.same s.ff⟩
 | .m kvs,v,⟨p,vs,h1,⟨ep,h2⟩,h3,h4,h5⟩=>⟨p,vs,h1,⟨ep,s.hh _ _ h2⟩,s.stay h3 h2 (fun _ z=>aAK z),h4,h5.same s.ff⟩
theorem AO.at{c:Ct}{F H:Hp}{a:A}{v:V}(h:AO c F H a v)(o:a.own=true):∃ p o,v=.ref p/\H p=some o/\F p=none/\c.H0 p=none:=by
 cases a with
 | l xs=>obtain ⟨p,vs,h1,h2,h3,h4,h5⟩:=h;exact ⟨p,_,h1,h2,h3,h4⟩
 | m xs=>obtain ⟨p,vs,h1,⟨ep,h2⟩,h3,h4,h5⟩:=h;exact ⟨p,_,h1,h2,h3,h4⟩
 | d x=>cases o
 | x e=>cases o
 | g k n f=>cases o
 | k S=>cases o
 | f S=>cases o
 | o S=>cases o
theorem AO.off{c:Ct}{F H:Hp}{p:Addr}{o:HO}:∀ {a:A} {v:V},AO c F H a v->v≠.ref p->AO c F (upd H p o) a v
 | .l xs,v,⟨q,vs,h1,h2,h3,h4,h5⟩,n=>⟨q,vs,h1,by rw[aM (fun z=>n (by rw[h1,z]))];exact h2,h3,h4,h5⟩
 | .m xs,v,⟨q,vs,h1,⟨ep,h2⟩,h3,h4,h5⟩,n=>⟨q,vs,h1,⟨ep,by rw[aM (fun z=>n (by rw[h1,z]))];exact h2⟩,h3,h4,h5⟩
 | .d x,v,h,_=>h
 | .x e,v,h,_=>h
 | .g k n G,v,h,_=>h
 | .k S,v,h,_=>h
 | .f S,v,h,_=>h
 | .o S,v,h,_=>h
structure Ab(c:Ct)(ρ:Sg)(σ:L2.St)(F H:Hp):Prop where
 len:ρ.length=σ.length
 fh:aI F H
 slot:∀ (i:Nat) (a:A),ρ[i]? = some (some a)->∃ v,σ[i]? = some (some v)/\AO c F H a v
 apart:∀ (i j:Nat) (a b:A),i≠j->ρ[i]? = some (some a)->ρ[j]? = some (some b)->a.own=true->b.own=true->σ[i]? ≠ σ[j]?
 f0:aI c.F0 F
 h0:aI c.H0 H
 n0:∀ a,c.F0 a=none->F a≠none->nZ c.H0 a
 t0:aI c.g.T c.F0
theorem Ab.all{c:Ct}{ρ:Sg}{σ:L2.St}{F H:Hp}(b:Ab c ρ σ F H):Ext c.F0 c.H0 F H:=⟨b.h0,b.f0,b.fh,b.n0⟩
theorem Ab.ext{c:Ct}{ρ:Sg}{σ:L2.St}{F H F' H':Hp}(b:Ab c ρ σ F H)(e:Ext F H F' H'):Ab c ρ σ F' H' where
 len:=b.len
 fh:=e.fh
 slot:=fun i a h=>let ⟨v,h1,h2⟩:=b.slot i a h;⟨v,h1,h2.ext e⟩
 apart:=b.apart
 f0:=fun x o h=>e.ff x o (b.f0 x o h)
 h0:=fun x o h=>e.hh x o (b.h0 x o h)
 n0:=fun a h n=>by
  cases q:F a with
  | none=>exact (e.nw a q n).back b.h0
  | some o=>exact b.n0 a h (by rw[q];exact fun z=>nomatch z)
 t0:=b.t0
def XW(c:Ct)(E:XK)(e:Er):Prop:=∀ a C F' H',Ext c.F0 c.H0 F' H'->kU c.K c.mg F' e a C->E (.ref C) (some a) H'
def Rk{α:Type}(c:Ct)(E:XK)(F H:Hp)(r:R α)(k:α->Prop):Prop:=match r with
 | .bad=>False
 | .ok a=>k a
 | .ex e=>XW c E e
abbrev VR(α:Type):=α->V->Hp->Hp->Hp->Prop
def tV{α:Type}(Rel:VR α)(c:Ct)(E:XK)(f:Sg->R α):TE:=fun σ H Q=>∃ ρ F,Ab c ρ σ F H/\Rk c E F H (f ρ) fun d=>∀ v F' H',Ext F H F' H'->Rel d v H F' H'->Q v H'
def cX(c:Ct):VR PyData:=fun d v _ F _=>DatV c.K F v d
def aZ(K:Frag)(F H:Hp)(v:V)(d:PyData):Prop:=DatV K F v d\/∃ p vs xs,v=.ref p/\d=.list xs/\H p=some (.lst vs)/\DatVs K F vs xs
def bQ(c:Ct):VR PyData:=fun d v _ F H=>aZ c.K F H v d
def aIL(c:Ct):VR A:=fun a v _ F _=>AF c.g c.K c.mg F a v
def aET(c:Ct):VR (List PyData):=fun xs v H F H'=>∃ p vs,v=.ref p/\H p=none/\H' p=some (.lst vs)/\F p=none/\DatVs c.K F vs xs
abbrev PD(X:Cx)(c:Ct)(E:XK)(e:Expr)(f:Sg->R PyData):Prop:=PE X e (tV (cX c) c E f)
abbrev PR(X:Cx)(c:Ct)(E:XK)(e:Expr)(f:Sg->R PyData):Prop:=PE X e (tV (bQ c) c E f)
abbrev PV(X:Cx)(c:Ct)(E:XK)(e:Expr)(f:Sg->R A):Prop:=PE X e (tV (aIL c) c E f)
abbrev PN(X:Cx)(c:Ct)(E:XK)(e:Expr)(f:Sg->R (List PyData)):Prop:=PE X e (tV (aET c) c E f)
theorem PE.imp{X:Cx}{e:Expr}{t t':TE}(h:PE X e t)(i:∀ σ H Q,t' σ H Q->t σ H Q):PE X e t':=fun pins s σ H Q I q=>h pins s σ H Q I (i σ H Q q)
theorem PT.imp{X:Cx}{e:Expr}{t t':TT}(h:PT X e t)(i:∀ σ H Q,t' σ H Q->t σ H Q):PT X e t':=fun pins s σ H Q I q=>h pins s σ H Q I (i σ H Q q)
theorem PS.imp{X:Cx}{e:Stmt}{t t':TS}(h:PS X e t)(i:∀ D σ H,t' D σ H->t D σ H):PS X e t':=fun pins s σ H D I q=>h pins s σ H D I (i D σ H q)
theorem PSs.imp{X:Cx}{e:List Stmt}{t t':TS}(h:PSs X e t)(i:∀ D σ H,t' D σ H->t D σ H):PSs X e t':=fun pins s σ H D I q=>h pins s σ H D I (i D σ H q)
def aKH{α:Type}(Rel:VR α):Prop:=∀ d v H F H1 F2 H2,Ext F H1 F2 H2->Rel d v H F H1->Rel d v H F2 H2
theorem aZ.ext{K:Frag}{F H F' H':Hp}{v:V}{d:PyData}(e:Ext F H F' H')(h:aZ K F H v d):aZ K F' H' v d:=by
 rcases h with h|⟨p,vs,xs,h1,h2,h3,h4⟩
 · exact .inl (h.same e.ff)
 · exact .inr ⟨p, vs, xs, h1, h2, e.hh _ _ h3, h4.same e.ff⟩
theorem vN(c:Ct):aKH (bQ c):=fun d v H F H1 F2 H2 e h=>aZ.ext e h
theorem aZ.heap{K:Frag}{F H:Hp}{v:V}{d:PyData}(s:aI F H)(h:aZ K F H v d):DatV K H v d:=by
 rcases h with h|⟨p,vs,xs,h1,h2,h3,h4⟩
 · exact h.same s
 · subst h1 h2; exact .lst (SqL.of h3) (h4.same s)
section
variable{X:Cx}{c:Ct}{E:XK}{α β γ:Type}{Ra:VR α}{Rb:VR β}{Rc:VR γ}{σ:L2.St}{H:Hp}{Q:VK}
theorem Rk.ok{F:Hp}{a:α}{k:α->Prop}(h:Rk c E F H (.ok a) k):k a:=h
theorem Rk.imp{F:Hp}{r:R α}{k k':α->Prop}(h:Rk c E F H r k)(i:∀ a,r=.ok a->k a->k' a):Rk c E F H r k':=by
 cases r with
 | bad=>exact h
 | ok a=>exact i a rfl h
 | ex e=>exact h
theorem Rk.bind{F:Hp}{r:R α}{f:α->R β}{k:β->Prop}(h:Rk c E F H (r.bind f) k):Rk c E F H r fun a=>Rk c E F H (f a) k:=by
 cases r with
 | bad=>exact h
 | ok a=>exact h
 | ex e=>exact h
theorem Rk.ext{F F' H':Hp}{r:R α}{k:α->Prop}(e:Ext F H F' H')(h:Rk c E F H r k):Rk c E F' H' r k:=by
 cases r with
 | bad=>exact h
 | ok a=>exact h
 | ex x=>exact h
end
def aEU{α:Type}(Rel:VR α):Prop:=∀ d v H H1 F' H',aI H H1->Rel d v H1 F' H'->Rel d v H F' H'
theorem mO(c:Ct):aEU (cX c):=fun _ _ _ _ _ _ _ h=>h
section
variable{X:Cx}{c:Ct}{E:XK}{α β γ:Type}{Ra:VR α}{Rb:VR β}{Rc:VR γ}
def Op1(c:Ct)(Ra:VR α)(Rb:VR β)(g:α->R β)(r:V->Hp->VK->Prop):Prop:=
 ∀ (H0 F H:Hp) (a:α) (b:β) (v:V) (Q:VK),aI F H->Ra a v H0 F H->g a=.ok b->(∀ w F' H',Ext F H F' H'->Rb b w H F' H'->Q w H')->r v H Q
def Op2(c:Ct)(Ra:VR α)(Rb:VR β)(Rc:VR γ)(g:α->β->R γ)(r:R2):Prop:=
 ∀ (H0 H1 F H:Hp) (a:α) (b:β) (d:γ) (v u:V) (Q:VK),aI F H->Ra a v H0 F H->Rb b u H1 F H->g a b=.ok d->(∀ w F' H',Ext F H F' H'->Rc d w H F' H'->Q w H')->r v u H Q
def o4(g:α->R β):Prop:=∀ a e,g a≠.ex e
def dU(g:α->β->R γ):Prop:=∀ a b e,g a b≠.ex e
theorem tV1{f:Sg->R α}{g:α->R β}{r:V->Hp->VK->Prop}(ho:Op1 c Ra Rb g r)(hp:o4 g)(kb:aEU Rb){σ:L2.St}{H:Hp}{Q:VK}(h:tV Rb c E (fun ρ=>(f ρ).bind g) σ H Q) :
  tV Ra c E f σ H fun v H1=>r v H1 Q:=by
 obtain ⟨ρ,F,ab,h⟩:=h
 refine ⟨ρ,F,ab,(Rk.bind h).imp fun a ea q v F1 H1 e1 rv=>?_⟩
 cases eg:g a with
 | bad=>rw[eg] at q;exact q.elim
 | ex e=>exact absurd eg (hp a e)
 | ok b=>
  rw[eg] at q
  exact ho H F1 H1 a b v Q e1.fh rv eg fun w F' H' e2 rw'=>q w F' H' (e1.trans e2) (kb _ _ _ _ _ _ e1.hh rw')
theorem tV2{f:Sg->R α}{f':Sg->R β}{g:α->β->R γ}{r:R2}(ho:Op2 c Ra Rb Rc g r)(hp:dU g)(ka:aKH Ra)(kb:aEU Rc){σ:L2.St}{H:Hp}{Q:VK}(h:tV Rc c E (fun ρ=>(f ρ).bind fun a=>(f' ρ).bind fun b=>g a b) σ H Q) :
  tOp r (tV Ra c E f) (tV Rb c E f') σ H Q:=by
 obtain ⟨ρ,F,ab,h⟩:=h
 refine ⟨ρ,F,ab,(Rk.bind h).imp fun a ea q v F1 H1 e1 rv=>?_⟩
 refine ⟨ρ,F1,ab.ext e1,((Rk.bind q).ext e1).imp fun b eb q u F2 H2 e2 ru=>?_⟩
 cases eg:g a b with
 | bad=>rw[eg] at q;exact q.elim
 | ex e=>exact absurd eg (hp a b e)
 | ok d=>
  rw[eg] at q
  exact ho H H1 F2 H2 a b d v u Q e2.fh (ka _ _ _ _ _ _ _ e2 rv) ru eg fun w F' H' e3 rw'=>q w F' H' ((e1.trans e2).trans e3) (kb _ _ _ _ _ _ (fun x o z=>e2.hh x o (e1.hh x o z)) rw')
end
section
variable{K:Frag}{F H:Hp}{v:V}
theorem DatV.bl_of{b:Bool}(h:DatV K H v (.bool b)):v=.bl b:=by cases h;rfl
theorem DatV.non_of(h:DatV K H v .none):v=.non:=by cases h;rfl
theorem aZ.int_of{i:Int}(h:aZ K F H v (.int i)):v=.int i:=by
 rcases h with h|⟨_,_,_,_,h,_⟩
 · exact h.int_of
 · cases h
theorem aZ.str_of{i:Str}(h:aZ K F H v (.str i)):v=.str i:=by
 rcases h with h|⟨_,_,_,_,h,_⟩
 · exact h.str_of
 · cases h
theorem aZ.bl_of{i:Bool}(h:aZ K F H v (.bool i)):v=.bl i:=by
 rcases h with h|⟨_,_,_,_,h,_⟩
 · exact DatV.bl_of h
 · cases h
theorem aZ.non_of(h:aZ K F H v .none):v=.non:=by
 rcases h with h|⟨_,_,_,_,h,_⟩
 · exact DatV.non_of h
 · cases h
theorem aZ.tup_of{xs:List PyData}(s:aI F H)(h:aZ K F H v (.tuple xs)):∃ a vs,v=.ref a/\SqT K F a vs/\SqT K H a vs/\DatVs K F vs xs:=by
 rcases h with h|⟨_,_,_,_,h,_⟩
 ·obtain ⟨a,vs,h1,h2,h3⟩:=h.tup_of
  exact ⟨a,vs,h1,h2,h2.same s,h3⟩
 ·cases h
theorem aZ.lst_of{xs:List PyData}(s:aI F H)(h:aZ K F H v (.list xs)):∃ a vs,v=.ref a/\SqL K H a vs/\DatVs K F vs xs:=by
 rcases h with h|⟨p,vs,ys,h1,h2,h3,h4⟩
 ·obtain ⟨a,vs,h1,h2,h3⟩:=h.lst_of
  exact ⟨a,vs,h1,h2.same s,h3⟩
 ·cases h2
  exact ⟨p,vs,h1,SqL.of h3,h4⟩
theorem aAL{vs:List V}{xs:List PyData}{i:Int}{d:PyData}(h:DatVs K F vs xs)(e:atI xs i=some d):∃ x,atI vs i=some x/\DatV K F x d:=by
 unfold atI at e ⊢
 rw[h.length]
 cases q:ixN xs.length i with
 | none=>rw[q] at e;cases e
 | some j=>
  rw[q] at e
  exact h.get' (i:=j) e
end
noncomputable def eV(i:Nat):Sg->R PyData:=fun ρ=>match ρ[i]? with
 | some (some (.d x))=>.ok x
 | _=>.bad
noncomputable def rV(i:Nat):Sg->R PyData:=fun ρ=>match ρ[i]? with
 | some (some (.d x))=>.ok x
 | some (some (.l xs))=>.ok (.list xs)
 | _=>.bad
noncomputable def vV(i:Nat):Sg->R A:=fun ρ=>match ρ[i]? with
 | some (some (.d x))=>.ok (.d x)
 | some (some (.x e))=>.ok (.x e)
 | some (some (.g k n f))=>.ok (.g k n f)
 | some (some (.f kvs))=>.ok (.f kvs)
 | _=>.bad
def eC(d:PyData):Sg->R PyData:=fun _=>.ok d
section
variable{X:Cx}{c:Ct}{E:XK}{e a b:Expr}
theorem bD{i:Nat}(h:PE X e (jS i)):PD X c E e (eV i):=PE.imp h fun σ H Q ⟨ρ,F,ab,k⟩=>by
 unfold eV at k
 split at k
 ·rename_i x hx
  obtain ⟨v,h1,h2⟩:=ab.slot i _ hx
  exact ⟨v,h1,k v F H (Ext.refl ab.fh) h2⟩
 ·exact k.elim
theorem aC{i:Nat}(h:PE X e (jS i)):PR X c E e (rV i):=PE.imp h fun σ H Q ⟨ρ,F,ab,k⟩=>by
 unfold rV at k
 split at k
 ·rename_i x hx
  obtain ⟨v,h1,h2⟩:=ab.slot i _ hx
  exact ⟨v,h1,k v F H (Ext.refl ab.fh) (.inl h2)⟩
 ·rename_i x hx
  obtain ⟨v,h1,p,vs,h2,h3,h4,h5,h6⟩:=ab.slot i _ hx
  exact ⟨v,h1,k v F H (Ext.refl ab.fh) (.inr ⟨p,vs,x,h2,rfl,h3,h6⟩)⟩
 ·exact k.elim
theorem aT{i:Nat}(h:PE X e (jS i)):PV X c E e (vV i):=PE.imp h fun σ H Q ⟨ρ,F,ab,k⟩=>by
 unfold vV at k
 split at k
 ·rename_i x hx
  obtain ⟨v,h1,h2⟩:=ab.slot i _ hx
  exact ⟨v,h1,k v F H (Ext.refl ab.fh) h2⟩
 ·rename_i x hx
  obtain ⟨v,h1,h2⟩:=ab.slot i _ hx
  exact ⟨v,h1,k v F H (Ext.refl ab.fh) h2⟩
 ·rename_i kk nn ff hx
  obtain ⟨v,h1,h2⟩:=ab.slot i _ hx
  exact ⟨v,h1,k v F H (Ext.refl ab.fh) h2⟩
 ·rename_i kvs hx
  obtain ⟨v,h1,h2⟩:=ab.slot i _ hx
  exact ⟨v,h1,k v F H (Ext.refl ab.fh) h2⟩
 ·exact k.elim
theorem iI{v:V}{d:PyData}(h:PE X e (tC v))(hd:∀ F,DatV c.K F v d):PD X c E e (eC d):=PE.imp h fun σ H Q ⟨ρ,F,ab,k⟩=>k v F H (Ext.refl ab.fh) (hd F)
theorem aG{i j pos}:PD X c E (.Constant (.int i) j pos) (eC (.int i)):=iI aN8 fun _=>.int i
theorem gH{i j pos}:PD X c E (.Constant (.bool i) j pos) (eC (.bool i)):=iI aQ9 fun _=>.bl i
theorem bY{i j pos}:PD X c E (.Constant (.str i) j pos) (eC (.str i)):=iI uY fun _=>.str i
theorem kW{j pos}:PD X c E (.Constant .none j pos) (eC .none):=iI aN9 fun _=>.non
theorem aB{f:Sg->R PyData}(h:PD X c E e f):PR X c E e f:=PE.imp h fun σ H Q ⟨ρ,F,ab,k⟩=>⟨ρ,F,ab,k.imp fun d _ q v F' H' s r=>q v F' H' s (.inl r)⟩
def vD(f:Sg->R PyData):Sg->R A:=fun ρ=>(f ρ).bind fun x=>.ok (.d x)
theorem aS{f:Sg->R PyData}(h:PD X c E e f):PV X c E e (vD f):=PE.imp h fun σ H Q ⟨ρ,F,ab,k⟩=>⟨ρ,F,ab,(Rk.bind k).imp fun d _ q v F' H' s r=>Rk.ok q v F' H' s r⟩
def getD:A->R PyData
 | .d x=>.ok x
 | _=>.bad
def eA(f:Sg->R A):Sg->R PyData:=fun ρ=>(f ρ).bind getD
theorem dB{f:Sg->R A}(h:PV X c E e f):PD X c E e (eA f):=PE.imp h fun σ H Q ⟨ρ,F,ab,k⟩=>⟨ρ,F,ab,(Rk.bind k).imp fun d _ q v F' H' s r=>by
 cases d with
 | d x=>exact Rk.ok q v F' H' s r
 | _=>exact False.elim q⟩
def eL(f:Sg->R (List PyData)):Sg->R PyData:=fun ρ=>(f ρ).bind fun xs=>.ok (.list xs)
theorem dM{f:Sg->R (List PyData)}(h:PN X c E e f):PD X c E e (eL f):=PE.imp h fun σ H Q ⟨ρ,F,ab,k⟩=>⟨ρ,F,ab,(Rk.bind k).imp fun xs _ q v F' H' s r=>by
 obtain ⟨p,vs,h1,h2,h3,h4,h5⟩:=r
 subst h1
 refine Rk.ok q (.ref p) (upd F' p (.lst vs)) H' ⟨s.hh,fun a o z=>?_,fun a o z=>?_,fun a z n=>?_⟩ (.lst (SqL.of aY) (h5.same (aI.upd h4)))
 ·rw[aM (bI (s.ff a o z) h4)];exact s.ff a o z
 ·by_cases w:a=p
  · subst w; rw [aY] at z; rw [h3]; exact z
  · rw [aM w] at z; exact s.fh a o z
 ·by_cases w:a=p
  · subst w; exact .inl h2
  · rw [aM w] at n; exact s.nw a z n⟩
def e1{α β:Type}(g:α->R β)(f:Sg->R α):Sg->R β:=fun ρ=>(f ρ).bind g
def e2{α β γ:Type}(g:α->β->R γ)(f:Sg->R α)(f':Sg->R β):Sg->R γ:=fun ρ=>(f ρ).bind fun x=>(f' ρ).bind fun y=>g x y
noncomputable def cR:PyData->PyData->R PyData
 | .int i,.int j=>.ok (.int (i+j))
 | .str x,.str y=>if x.length+y.length<=sizeLine then .ok (.str (x++y)) else .bad
 | .tuple xs,.tuple ys=>if xs.isEmpty=false/\xs.length+ys.length<=sizeLine then .ok (.tuple (xs++ys)) else .bad
 | _,_=>.bad
def dSub:PyData->PyData->R PyData
 | .int i,.int j=>.ok (.int (i - j))
 | _,_=>.bad
noncomputable def dMul:PyData->PyData->R PyData
 | .int i,.int j=>if (-18446744073709551616 < i/\i < 18446744073709551616)\/(-18446744073709551616 < j/\j < 18446744073709551616) then .ok (.int (i * j)) else .bad
 | _,_=>.bad
def dDiv:PyData->PyData->R PyData
 | .int i,.int j=>if 0 < j/\j < 18446744073709551616 then .ok (.int (i / j)) else .bad
 | _,_=>.bad
def dMod:PyData->PyData->R PyData
 | .int i,.int j=>if 0 < j then .ok (.int (i % j)) else .bad
 | _,_=>.bad
def dNeg:PyData->R PyData
 | .int i=>.ok (.int (-i))
 | _=>.bad
def dLt:PyData->PyData->R PyData
 | .int i,.int j=>.ok (.bool (decide (i < j)))
 | _,_=>.bad
def dLe:PyData->PyData->R PyData
 | .int i,.int j=>.ok (.bool (decide (i<=j)))
 | _,_=>.bad
def dGt:PyData->PyData->R PyData
 | .int i,.int j=>.ok (.bool (decide (j < i)))
 | _,_=>.bad
def dGe:PyData->PyData->R PyData
 | .int i,.int j=>.ok (.bool (decide (j<=i)))
 | _,_=>.bad
def dEq(x y:PyData):R PyData:=if SeqAt.shaped x=true/\SeqAt.shaped y=true then .ok (.bool (PyData.eqv x y)) else .bad
def dNe(x y:PyData):R PyData:=if SeqAt.shaped x=true/\SeqAt.shaped y=true then .ok (.bool (!PyData.eqv x y)) else .bad
def iW:PyData->Bool
 | .none=>true
 | _=>false
def dIs(x y:PyData):R PyData:=if iW y=true then .ok (.bool (iW x)) else .bad
def dIsnt(x y:PyData):R PyData:=if iW y=true then .ok (.bool (!iW x)) else .bad
noncomputable def inD:PyData->PyData->Option Bool
 | .str i,.str j=>some (!(Builtin.Str.occurrences j i 0 j.length 1).isEmpty)
 | x,.list xs=>if SeqAt.shaped x=true/\SeqAt.shaped (.list xs)=true then some (xs.any fun y=>PyData.eqv y x) else none
 | x,.tuple xs=>if SeqAt.shaped x=true/\SeqAt.shaped (.tuple xs)=true then some (xs.any fun y=>PyData.eqv y x) else none
 | _,_=>none
def dIn(x y:PyData):R PyData:=match inD x y with
 | some b=>.ok (.bool b)
 | none=>.bad
def dNin(x y:PyData):R PyData:=match inD x y with
 | some b=>.ok (.bool (!b))
 | none=>.bad
noncomputable def dIx:PyData->PyData->R PyData
 | .list xs,.int i=>match atI xs i with
  | some v=>.ok v
  | none=>.bad
 | .tuple xs,.int i=>match atI xs i with
  | some v=>.ok v
  | none=>.bad
 | .str z,.int i=>if z.length<=sizeLine then match atI z.cps.toList i with
  | some u=>.ok (.str ⟨#[u]⟩)
  | none=>.bad else .bad
 | _,_=>.bad
end
section
variable{X:Cx}{c:Ct}{E:XK}{e a b:Expr}{α β γ:Type}{Ra:VR α}{Rb:VR β}{Rc:VR γ}{pos:Pos}
def r2D(Ra:VR α)(Rb:VR β)(Rc:VR γ)(g:α->β->R γ):R2:=fun v u H Q=>∃ H0 H1 F a b d,aI F H/\Ra a v H0 F H/\Rb b u H1 F H/\g a b=.ok d/\∀ w F' H',Ext F H F' H'->Rc d w H F' H'->Q w H'
def r1D(Ra:VR α)(Rb:VR β)(g:α->R β):V->Hp->VK->Prop:=fun v H Q=>∃ H0 F a b,aI F H/\Ra a v H0 F H/\g a=.ok b/\∀ w F' H',Ext F H F' H'->Rb b w H F' H'->Q w H'
theorem zM{g:α->β->R γ}:Op2 c Ra Rb Rc g (r2D Ra Rb Rc g):=fun H0 H1 F H a b d v u Q sf ra rb eg q=>⟨H0,H1,F,a,b,d,sf,ra,rb,eg,q⟩
theorem zN{g:α->R β}:Op1 c Ra Rb g (r1D Ra Rb g):=fun H0 F H a b v Q sf ra eg q=>⟨H0,F,a,b,sf,ra,eg,q⟩
theorem aV{op:Operator}{g:PyData->PyData->R PyData}{fa fb:Sg->R PyData}(ho:OpR X (binaryOp op) (r2D (bQ c) (bQ c) (cX c) g))(hp:dU g)(ha:PR X c E a fa)(hb:PR X c E b fb):PD X c E (.BinOp a op b pos) (e2 g fa fb):=
 PE.imp (aJ9 ho ha hb) fun σ H Q h=>tV2 zM hp (vN c) (mO c) h
theorem vO{op:UnaryOp}{g:PyData->R PyData}{fa:Sg->R PyData}(ho:UnR X (unaryOp op) (r1D (bQ c) (cX c) g))(hp:o4 g)(ha:PR X c E a fa):PD X c E (.UnaryOp op a pos) (e1 g fa):=
 PE.imp (aRB ho ha) fun σ H Q h=>tV1 zN hp (mO c) h
theorem kX{op:CmpOp}{g:PyData->PyData->R PyData}{fa fb:Sg->R PyData}(ho:OpR X (compareOp op) (r2D (bQ c) (bQ c) (cX c) g))(hp:dU g)(ha:PR X c E a fa)(hb:PR X c E b fb)(hm:behindInMarks op b=false):PD X c E (.Compare a [op] [b] pos) (e2 g fa fb):=
 PE.imp (aK6 ho ha hb hm) fun σ H Q h=>tV2 zM hp (vN c) (mO c) h
theorem a9{g:PyData->PyData->R PyData}{fa fb:Sg->R PyData}(ho:IxR X (r2D (bQ c) (bQ c) (cX c) g))(hp:dU g)(ha:PR X c E a fa)(hb:PR X c E b fb)(hs:aCN b:=by exact fun _ _=>rfl):PD X c E (.Subscript a b pos) (e2 g fa fb):=
 PE.imp (L2.aRI ho ha hb hs) fun σ H Q h=>tV2 zM hp (vN c) (mO c) h
theorem c6(hK:X.K=c.K):OpR X (binaryOp .Add) (r2D (bQ c) (bQ c) (cX c) cR):=by
 intro pins s σ H v u x y Q I rx ry h
 obtain ⟨H0,H1,F,a,b,d,sf,ra,rb,eg,q⟩:=h
 unfold cR at eg
 split at eg
 ·rename_i i j
  cases eg
  obtain rfl:=aZ.int_of ra
  obtain rfl:=aZ.int_of rb
  exact aOG pins s σ H _ _ x y Q I rx ry ⟨i,j,rfl,rfl,q _ F H (Ext.refl sf) (.int _)⟩
 ·rename_i i j
  split at eg
  ·rename_i hz
   cases eg
   obtain rfl:=aZ.str_of ra
   obtain rfl:=aZ.str_of rb
   exact aEA pins s σ H _ _ x y Q I rx ry ⟨i,j,rfl,rfl,hz,q _ F H (Ext.refl sf) (.str _)⟩
  ·cases eg
 ·rename_i xs ys
  split at eg
  ·rename_i hz
   cases eg
   obtain ⟨pa,vs,rfl,fa,ha,da⟩:=aZ.tup_of sf ra
   obtain ⟨pb,us,rfl,fb,hb,db⟩:=aZ.tup_of sf rb
   rw[<-hK] at ha hb
   refine aLD pins s σ H _ _ x y Q I rx ry ⟨pa,pb,vs,us,rfl,rfl,ha,hb,?_,by rw[da.length,db.length];exact hz.2,fun z=>?_,fun z p hp=>?_⟩
   ·intro z;subst z;obtain rfl:xs=[]:=by cases da;rfl
    exact absurd hz.1 (by decide)
   ·subst z
    obtain rfl:ys=[]:=by cases db;rfl
    exact q _ F H (Ext.refl sf) (by rw[C3];exact .tup fa da)
   ·exact q _ _ _ (Ext.new sf hp) (.tup (SqT.of aY) ((da.append db).same (aI.upd (bZ sf hp))))
  ·cases eg
 ·cases eg
theorem cD:dU cR:=by
 intro a b e h
 unfold cR at h
 split at h<;>(try split at h)<;>cases h
theorem l6{f:Value->Value->Sem Value}{g:PyData->PyData->R PyData}{C:Int->Int->Prop}{k:Int->Int->PyData}{kv:Int->Int->V}(ho:OpR X f (rI C kv))(hk:∀ i j F,DatV c.K F (kv i j) (k i j))
  (hg:∀ a b d,g a b=.ok d->∃ i j,a=.int i/\b=.int j/\C i j/\d=k i j):OpR X f (r2D (bQ c) (bQ c) (cX c) g):=by
 intro pins s σ H v u x y Q I rx ry h
 obtain ⟨H0,H1,F,a,b,d,sf,ra,rb,eg,q⟩:=h
 obtain ⟨i,j,rfl,rfl,hc,rfl⟩:=hg a b d eg
 obtain rfl:=aZ.int_of ra
 obtain rfl:=aZ.int_of rb
 exact ho pins s σ H _ _ x y Q I rx ry ⟨i,j,rfl,rfl,hc,q _ F H (Ext.refl sf) (hk i j F)⟩
theorem vP{f:Value->Value->Sem Value}{kv:Int->Int->V}(ho:OpR X f (rI0 kv)):OpR X f (rI (fun _ _=>True) kv):=fun pins s σ H x y v u Q I rx ry ⟨i,j,h1,h2,_,q⟩=>ho pins s σ H x y v u Q I rx ry ⟨i,j,h1,h2,q⟩
theorem mY:OpR X (binaryOp .Sub) (r2D (bQ c) (bQ c) (cX c) dSub):=l6 (vP aOH) (fun _ _ _=>.int _) fun a b d h=>by
 unfold dSub at h;split at h
 · cases h; exact ⟨_, _, rfl, rfl, trivial, rfl⟩
 · cases h
theorem jH:OpR X (binaryOp .Mult) (r2D (bQ c) (bQ c) (cX c) dMul):=l6 aOI (fun _ _ _=>.int _) fun a b d h=>by
 unfold dMul at h;split at h
 ·split at h
  · rename_i hc; cases h; exact ⟨_, _, rfl, rfl, hc, rfl⟩
  · cases h
 ·cases h
theorem hZ:OpR X (binaryOp .FloorDiv) (r2D (bQ c) (bQ c) (cX c) dDiv):=l6 aIC (fun _ _ _=>.int _) fun a b d h=>by
 unfold dDiv at h;split at h
 ·split at h
  · rename_i hc; cases h; exact ⟨_, _, rfl, rfl, hc, rfl⟩
  · cases h
 ·cases h
theorem c7:OpR X (binaryOp .Mod) (r2D (bQ c) (bQ c) (cX c) dMod):=l6 aOJ (fun _ _ _=>.int _) fun a b d h=>by
 unfold dMod at h;split at h
 ·split at h
  · rename_i hc; cases h; exact ⟨_, _, rfl, rfl, hc, rfl⟩
  · cases h
 ·cases h
theorem aAM:OpR X (compareOp .Lt) (r2D (bQ c) (bQ c) (cX c) dLt):=l6 (vP aRC) (fun _ _ _=>.bl _) fun a b d h=>by
 unfold dLt at h;split at h
 · cases h; exact ⟨_, _, rfl, rfl, trivial, rfl⟩
 · cases h
theorem aO4:OpR X (compareOp .LtE) (r2D (bQ c) (bQ c) (cX c) dLe):=l6 (vP aRD) (fun _ _ _=>.bl _) fun a b d h=>by
 unfold dLe at h;split at h
 · cases h; exact ⟨_, _, rfl, rfl, trivial, rfl⟩
 · cases h
theorem jV:OpR X (compareOp .Gt) (r2D (bQ c) (bQ c) (cX c) dGt):=l6 (vP aRE) (fun _ _ _=>.bl _) fun a b d h=>by
 unfold dGt at h;split at h
 · cases h; exact ⟨_, _, rfl, rfl, trivial, rfl⟩
 · cases h
theorem aO5:OpR X (compareOp .GtE) (r2D (bQ c) (bQ c) (cX c) dGe):=l6 (vP aRF) (fun _ _ _=>.bl _) fun a b d h=>by
 unfold dGe at h;split at h
 · cases h; exact ⟨_, _, rfl, rfl, trivial, rfl⟩
 · cases h
theorem kM:dU dSub:=by intro a b e h;unfold dSub at h;split at h<;>cases h
theorem gI:dU dMul:=by intro a b e h;unfold dMul at h;split at h<;>(try split at h)<;>cases h
theorem fG:dU dDiv:=by intro a b e h;unfold dDiv at h;split at h<;>(try split at h)<;>cases h
theorem cE:dU dMod:=by intro a b e h;unfold dMod at h;split at h<;>(try split at h)<;>cases h
theorem uA:dU dLt:=by intro a b e h;unfold dLt at h;split at h<;>cases h
theorem aIM:dU dLe:=by intro a b e h;unfold dLe at h;split at h<;>cases h
theorem gT:dU dGt:=by intro a b e h;unfold dGt at h;split at h<;>cases h
theorem aIN:dU dGe:=by intro a b e h;unfold dGe at h;split at h<;>cases h
theorem fZ:dU dEq:=by intro a b e h;unfold dEq at h;split at h<;>cases h
theorem nG:dU dNe:=by intro a b e h;unfold dNe at h;split at h<;>cases h
theorem aAN:dU dIs:=by intro a b e h;unfold dIs at h;split at h<;>cases h
theorem vQ:dU dIsnt:=by intro a b e h;unfold dIsnt at h;split at h<;>cases h
theorem aIO:dU dIn:=by intro a b e h;unfold dIn at h;split at h<;>cases h
theorem yR:dU dNin:=by intro a b e h;unfold dNin at h;split at h<;>cases h
theorem l7:o4 dNeg:=by intro a e h;unfold dNeg at h;split at h<;>cases h
theorem aQ:dU dIx:=by
 intro a b e h
 unfold dIx at h
 split at h<;>(try split at h)<;>(try split at h)<;>cases h
theorem o5:UnR X (unaryOp .USub) (r1D (bQ c) (cX c) dNeg):=by
 intro pins s σ H v x Q I rx h
 obtain ⟨H0,F,a,d,sf,ra,eg,q⟩:=h
 unfold dNeg at eg
 split at eg
 ·rename_i i
  cases eg
  obtain rfl:=aZ.int_of ra
  exact aOK pins s σ H _ x Q I rx ⟨i,rfl,q _ F H (Ext.refl sf) (.int _)⟩
 ·cases eg
theorem i5(hK:X.K=c.K)(hu:X.A.units+64 < cLine):OpR X (compareOp .Eq) (r2D (bQ c) (bQ c) (cX c) dEq):=by
 intro pins s σ H v u x y Q I rx ry h
 obtain ⟨H0,H1,F,a,b,d,sf,ra,rb,eg,q⟩:=h
 unfold dEq at eg
 split at eg
 ·rename_i hs
  cases eg
  exact aOV hu pins s σ H _ _ x y Q I rx ry ⟨a,b,by rw[hK];exact aZ.heap sf ra,by rw[hK];exact aZ.heap sf rb,hs.1,hs.2,q _ F H (Ext.refl sf) (.bl _)⟩
 ·cases eg
theorem rB(hK:X.K=c.K)(hu:X.A.units+64 < cLine):OpR X (compareOp .NotEq) (r2D (bQ c) (bQ c) (cX c) dNe):=by
 intro pins s σ H v u x y Q I rx ry h
 obtain ⟨H0,H1,F,a,b,d,sf,ra,rb,eg,q⟩:=h
 unfold dNe at eg
 split at eg
 ·rename_i hs
  cases eg
  exact aOW hu pins s σ H _ _ x y Q I rx ry ⟨a,b,by rw[hK];exact aZ.heap sf ra,by rw[hK];exact aZ.heap sf rb,hs.1,hs.2,q _ F H (Ext.refl sf) (.bl _)⟩
 ·cases eg
theorem n4{K:Frag}{F H:Hp}{v:V}{d:PyData}(h:aZ K F H v d):decide (v=.non)=iW d:=by
 rcases h with h|⟨p,vs,xs,h1,h2,_⟩
 · cases h <;> rfl
 · subst h1 h2; rfl
theorem aGP:OpR X (compareOp .Is) (r2D (bQ c) (bQ c) (cX c) dIs):=by
 intro pins s σ H v u x y Q I rx ry h
 obtain ⟨H0,H1,F,a,b,d,sf,ra,rb,eg,q⟩:=h
 unfold dIs at eg
 split at eg
 ·rename_i hs
  cases eg
  have e2:=n4 rb
  rw[hs] at e2
  refine aOL pins s σ H _ _ x y Q I rx ry ⟨BO e2,q _ F H (Ext.refl sf) ?_⟩
  rw[n4 ra];exact .bl _
 ·cases eg
theorem aAO:OpR X (compareOp .IsNot) (r2D (bQ c) (bQ c) (cX c) dIsnt):=by
 intro pins s σ H v u x y Q I rx ry h
 obtain ⟨H0,H1,F,a,b,d,sf,ra,rb,eg,q⟩:=h
 unfold dIsnt at eg
 split at eg
 ·rename_i hs
  cases eg
  have e2:=n4 rb
  rw[hs] at e2
  refine aK5 pins s σ H _ _ x y Q I rx ry ⟨BO e2,q _ F H (Ext.refl sf) ?_⟩
  rw[n4 ra];exact .bl _
 ·cases eg
theorem p4{xs:List PyData}(h:SeqAt.shaped (.list xs)=true):PyData.canLayAll0 xs=true/\PyData.depthAll xs<=63:=by
 have h':(PyData.canLay0 (.list xs) && decide ((PyData.list xs).depth<=64))=true:=h
 rw[AU] at h'
 have hd:PyData.depthAll xs+1<=64:=BO h'.2
 exact ⟨h'.1,by omega⟩
theorem tU{xs:List PyData}(h:SeqAt.shaped (.tuple xs)=true):PyData.canLayAll0 xs=true/\PyData.depthAll xs<=63:=by
 have h':(PyData.canLay0 (.tuple xs) && decide ((PyData.tuple xs).depth<=64))=true:=h
 rw[AU] at h'
 have hd:PyData.depthAll xs+1<=64:=BO h'.2
 exact ⟨h'.1,by omega⟩
theorem kY{d:PyData}(h:SeqAt.shaped d=true):d.canLay0=true:=by
 have h':(PyData.canLay0 d && decide (d.depth<=64))=true:=h
 rw[AU] at h'
 exact h'.1
theorem inD_cases{x y:PyData}{b:Bool}(h:inD x y=some b):(∃ i j,x=.str i/\y=.str j/\b = !(Builtin.Str.occurrences j i 0 j.length 1).isEmpty) \/
  (∃ xs,y=.list xs/\SeqAt.shaped x=true/\SeqAt.shaped (.list xs)=true/\b=xs.any fun z=>PyData.eqv z x)\/(∃ xs,y=.tuple xs/\SeqAt.shaped x=true/\SeqAt.shaped (.tuple xs)=true/\b=xs.any fun z=>PyData.eqv z x):=by
 unfold inD at h
 split at h
 ·cases h;exact .inl ⟨_,_,rfl,rfl,rfl⟩
 ·split at h
  · rename_i hs; cases h; exact .inr (.inl ⟨_, rfl, hs.1, hs.2, rfl⟩)
  · cases h
 ·split at h
  · rename_i hs; cases h; exact .inr (.inr ⟨_, rfl, hs.1, hs.2, rfl⟩)
  · cases h
 ·cases h
theorem nH{a b:Nat}(h:a<=63):min a b<=63:=BI (Nat.min_le_left _ _) h
theorem aO6(hK:X.K=c.K)(hu:X.A.units+64 < cLine):OpR X (compareOp .In) (r2D (bQ c) (bQ c) (cX c) dIn):=by
 intro pins s σ H v u x y Q I rx ry h
 obtain ⟨H0,H1,F,a,b,d,sf,ra,rb,eg,q⟩:=h
 unfold dIn at eg
 split at eg
 ·rename_i bb hb
  cases eg
  have fin:EP X pins σ Q (.bool bb) s:=⟨.bl bb,H,I,rfl,q _ F H (Ext.refl sf) (.bl _)⟩
  rcases inD_cases hb with ⟨i,j,rfl,rfl,rfl⟩|⟨xs,rfl,h1,h2,rfl⟩|⟨xs,rfl,h1,h2,rfl⟩
  ·obtain rfl:=aZ.str_of ra
   obtain rfl:=aZ.str_of rb
   exact aFU pins s σ H _ _ x y Q I rx ry ⟨i,j,rfl,rfl,q _ F H (Ext.refl sf) (.bl _)⟩
  ·obtain ⟨as,r1⟩:=DatV.reads I (by rw[hK];exact aZ.heap sf ra) rx
   obtain ⟨bs,r2⟩:=DatV.reads I (by rw[hK];exact aZ.heap sf rb) ry
   have hs:=p4 h2
   have hm:=nH (b:=a.depth) hs.2
   exact SeqAt.in_list_reads r2 r1 hs.1 (kY h1) (by omega) fin
  ·obtain ⟨as,r1⟩:=DatV.reads I (by rw[hK];exact aZ.heap sf ra) rx
   obtain ⟨bs,r2⟩:=DatV.reads I (by rw[hK];exact aZ.heap sf rb) ry
   have hs:=tU h2
   have hm:=nH (b:=a.depth) hs.2
   exact SeqAt.in_tuple_reads r2 r1 hs.1 (kY h1) (by omega) fin
 ·cases eg
theorem aCY(hK:X.K=c.K)(hu:X.A.units+64 < cLine):OpR X (compareOp .NotIn) (r2D (bQ c) (bQ c) (cX c) dNin):=by
 intro pins s σ H v u x y Q I rx ry h
 obtain ⟨H0,H1,F,a,b,d,sf,ra,rb,eg,q⟩:=h
 unfold dNin at eg
 split at eg
 ·rename_i bb hb
  cases eg
  have fin:EP X pins σ Q (.bool (!bb)) s:=⟨.bl (!bb),H,I,rfl,q _ F H (Ext.refl sf) (.bl _)⟩
  rcases inD_cases hb with ⟨i,j,rfl,rfl,rfl⟩|⟨xs,rfl,h1,h2,rfl⟩|⟨xs,rfl,h1,h2,rfl⟩
  ·obtain rfl:=aZ.str_of ra
   obtain rfl:=aZ.str_of rb
   exact zT pins s σ H _ _ x y Q I rx ry ⟨i,j,rfl,rfl,q _ F H (Ext.refl sf) (.bl _)⟩
  ·obtain ⟨as,r1⟩:=DatV.reads I (by rw[hK];exact aZ.heap sf ra) rx
   obtain ⟨bs,r2⟩:=DatV.reads I (by rw[hK];exact aZ.heap sf rb) ry
   have hs:=p4 h2
   have hm:=nH (b:=a.depth) hs.2
   exact SeqAt.notIn_list_reads r2 r1 hs.1 (kY h1) (by omega) fin
  ·obtain ⟨as,r1⟩:=DatV.reads I (by rw[hK];exact aZ.heap sf ra) rx
   obtain ⟨bs,r2⟩:=DatV.reads I (by rw[hK];exact aZ.heap sf rb) ry
   have hs:=tU h2
   have hm:=nH (b:=a.depth) hs.2
   exact SeqAt.notIn_tuple_reads r2 r1 hs.1 (kY h1) (by omega) fin
 ·cases eg
theorem bA(hK:X.K=c.K):IxR X (r2D (bQ c) (bQ c) (cX c) dIx):=by
 intro value slice pins s σ H v u x y Q I rx ry h hs
 obtain ⟨H0,H1,F,a,b,d,sf,ra,rb,eg,q⟩:=h
 unfold dIx at eg
 split at eg
 ·rename_i xs i
  split at eg
  ·rename_i w hw
   cases eg
   obtain ⟨p,vs,rfl,h1,h2⟩:=aZ.lst_of sf ra
   obtain rfl:=aZ.int_of rb
   obtain ⟨z,h3,h4⟩:=aAL h2 hw
   rw[<-hK] at h1
   exact aLF value slice pins s σ H _ _ x y Q I rx ry ⟨p,vs,i,z,rfl,rfl,h1,h3,q _ F H (Ext.refl sf) h4⟩ hs
  ·cases eg
 ·rename_i xs i
  split at eg
  ·rename_i w hw
   cases eg
   obtain ⟨p,vs,rfl,_,h1,h2⟩:=aZ.tup_of sf ra
   obtain rfl:=aZ.int_of rb
   obtain ⟨z,h3,h4⟩:=aAL h2 hw
   rw[<-hK] at h1
   exact aOR value slice pins s σ H _ _ x y Q I rx ry ⟨p,vs,i,z,rfl,rfl,h1,h3,q _ F H (Ext.refl sf) h4⟩ hs
  ·cases eg
 ·rename_i z i
  split at eg
  ·rename_i hz
   split at eg
   ·rename_i w hw
    cases eg
    obtain rfl:=aZ.str_of ra
    obtain rfl:=aZ.int_of rb
    exact aOS value slice pins s σ H _ _ x y Q I rx ry ⟨z,i,w,rfl,rfl,hz,hw,q _ F H (Ext.refl sf) (.str _)⟩ hs
   ·cases eg
  ·cases eg
 ·cases eg
def tTf(c:Ct)(E:XK)(f:Sg->R Bool):TT:=fun σ H Q=>∃ ρ F,Ab c ρ σ F H/\Rk c E F H (f ρ) fun b=>∀ F' H',Ext F H F' H'->Q b H'
abbrev PTf(X:Cx)(c:Ct)(E:XK)(e:Expr)(f:Sg->R Bool):Prop:=PT X e (tTf c E f)
def asB:PyData->R Bool
 | .bool b=>.ok b
 | _=>.bad
theorem w8{f:Sg->R PyData}{σ:L2.St}{H:Hp}{Q:Bool->Hp->Prop}(h:tTf c E (e1 asB f) σ H Q):tV (cX c) c E f σ H fun x H'=>∃ k,x=.bl k/\Q k H':=by
 obtain ⟨ρ,F,ab,h⟩:=h
 refine ⟨ρ,F,ab,(Rk.bind h).imp fun d _ q v F' H' s r=>?_⟩
 cases d with
 | bool b=>exact ⟨b,DatV.bl_of r,Rk.ok q F' H' s⟩
 | _=>exact False.elim q
theorem cS{op:CmpOp}{g:PyData->PyData->R PyData}{fa fb:Sg->R PyData}(ho:OpR X (compareOp op) (r2D (bQ c) (bQ c) (cX c) g))(hp:dU g)(ha:PR X c E a fa)(hb:PR X c E b fb)(hm:behindInMarks op b=false):PTf X c E (.Compare a [op] [b] pos) (e1 asB (e2 g fa fb)):=
 PT.imp (lG ho ha hb hm) fun σ H Q h=>tV2 zM hp (vN c) (mO c) (w8 h)
theorem kQ{f:Sg->R PyData}(h:PD X c E e f)(he:∀ whole,isTrue e X.env whole=(do let v <-whole;standAt e.pos;holding [v] (truthy v)):=by intro _;rfl):PTf X c E e (e1 asB f):=
 PT.imp (L2.kQ h he) fun σ H Q h=>w8 h
def j3(f g:Sg->R Bool):Sg->R Bool:=fun ρ=>(f ρ).bind fun b=>if b=true then g ρ else .ok false
def bOr(f g:Sg->R Bool):Sg->R Bool:=fun ρ=>(f ρ).bind fun b=>if b=true then .ok true else g ρ
def w9(f:Sg->R Bool):Sg->R Bool:=fun ρ=>(f ρ).bind fun b=>.ok (!b)
abbrev PWf(X:Cx)(c:Ct)(E:XK)(e:Expr)(f:Sg->R Bool):Prop:=PW X e (tTf c E f)
theorem PW.imp{X:Cx}{e:Expr}{t t':TT}(h:PW X e t)(i:∀ σ H Q,t' σ H Q->t σ H Q):PW X e t':=fun whole pins s σ H Q I q=>h whole pins s σ H Q I (i σ H Q q)
theorem aS2{f g:Sg->R Bool}{σ:L2.St}{H:Hp}{Q:Bool->Hp->Prop}(h:tTf c E (j3 f g) σ H Q):aOA (tTf c E f) (tTf c E g) σ H Q:=by
 obtain ⟨ρ,F,ab,h⟩:=h
 refine ⟨ρ,F,ab,(Rk.bind h).imp fun b _ q F' H' s=>?_⟩
 cases b with
 | true=>exact ⟨ρ,F',ab.ext s,(Rk.ext s q).imp fun d _ z F2 H2 s2=>z F2 H2 (s.trans s2)⟩
 | false=>exact Rk.ok q F' H' s
theorem tor{f g:Sg->R Bool}{σ:L2.St}{H:Hp}{Q:Bool->Hp->Prop}(h:tTf c E (bOr f g) σ H Q):tOr (tTf c E f) (tTf c E g) σ H Q:=by
 obtain ⟨ρ,F,ab,h⟩:=h
 refine ⟨ρ,F,ab,(Rk.bind h).imp fun b _ q F' H' s=>?_⟩
 cases b with
 | false=>exact ⟨ρ,F',ab.ext s,(Rk.ext s q).imp fun d _ z F2 H2 s2=>z F2 H2 (s.trans s2)⟩
 | true=>exact Rk.ok q F' H' s
theorem lF{f:Sg->R Bool}(h:PTf X c E a f):PWf X c E (.BoolOp .And [a] pos) f:=L2.lF h
theorem zS{f:Sg->R Bool}(h:PTf X c E a f):PWf X c E (.BoolOp .Or [a] pos) f:=L2.zS h
theorem lY{f g:Sg->R Bool}{rest:List Expr}(h:PTf X c E a f)(h2:PWf X c E (.BoolOp .And (b::rest) pos) g):PWf X c E (.BoolOp .And (a::b::rest) pos) (j3 f g):=PW.imp (L2.lY h h2) fun _ _ _ q=>aS2 q
theorem aD5{f g:Sg->R Bool}{rest:List Expr}(h:PTf X c E a f)(h2:PWf X c E (.BoolOp .Or (b::rest) pos) g):PWf X c E (.BoolOp .Or (a::b::rest) pos) (bOr f g):=PW.imp (L2.aD5 h h2) fun _ _ _ q=>tor q
theorem qR{f:Sg->R Bool}(h:PTf X c E a f):PTf X c E (.UnaryOp .Not a pos) (w9 f):=PT.imp (L2.qR h) fun σ H Q ⟨ρ,F,ab,k⟩=>⟨ρ,F,ab,(Rk.bind k).imp fun b _ q F' H' s=>Rk.ok q F' H' s⟩
noncomputable def aS3(f g:Sg->R PyData):Sg->R PyData:=fun ρ=>(f ρ).bind fun x=>(asB x).bind fun b=>if b=true then g ρ else .ok (.bool false)
def eOr(f g:Sg->R PyData):Sg->R PyData:=fun ρ=>(f ρ).bind fun x=>(asB x).bind fun b=>if b=true then .ok (.bool true) else g ρ
def aS4(f:Sg->R PyData):Sg->R PyData:=fun ρ=>(f ρ).bind fun x=>(asB x).bind fun b=>.ok (.bool (!b))
def eIf{α:Type}(t:Sg->R Bool)(f g:Sg->R α):Sg->R α:=fun ρ=>(t ρ).bind fun b=>if b=true then f ρ else g ρ
theorem aEV{t:Sg->R Bool}{f g:Sg->R PyData}{q:Expr}(hq:PTf X c E q t)(h:PD X c E a f)(h2:PD X c E b g):PD X c E (.IfExp q a b pos) (eIf t f g):=PE.imp (aH1 hq h h2) fun σ H Q zz0=>by
 obtain ⟨ρ,F,ab,k⟩:=zz0
 refine ⟨ρ,F,ab,(Rk.bind k).imp fun b _ q F' H' s=>?_⟩
 cases b with
 | true=>exact aEH ⟨ρ,F',ab.ext s,(Rk.ext s q).imp fun d _ z v F2 H2 s2=>z v F2 H2 (s.trans s2)⟩
 | false=>exact aEG ⟨ρ,F',ab.ext s,(Rk.ext s q).imp fun d _ z v F2 H2 s2=>z v F2 H2 (s.trans s2)⟩
noncomputable def eCh(g g':PyData->PyData->R PyData)(fa fb fc:Sg->R PyData):Sg->R PyData:=fun ρ=>(fa ρ).bind fun x=>(fb ρ).bind fun y=>(g x y).bind fun z=>(asB z).bind fun k=>if k=true then (fc ρ).bind fun w=>g' y w else .ok (.bool false)
end
def AFs(g:Gb)(K:Frag)(mg:Str->Option Value)(F:Hp):List A->List V->Prop
 | [],[]=>True
 | a::as,v::vs=>AF g K mg F a v/\AFs g K mg F as vs
 | _,_=>False
theorem AFs.same{g:Gb}{K:Frag}{mg:Str->Option Value}{F F':Hp}(s:aI F F'):∀ {as:List A} {vs:List V},AFs g K mg F as vs->AFs g K mg F' as vs
 | [],[],_=>trivial
 | a::as,v::vs,h=>⟨AF.same s h.1,AFs.same s h.2⟩
theorem AFs.len{g:Gb}{K:Frag}{mg:Str->Option Value}{F:Hp}:∀ {as:List A} {vs:List V},AFs g K mg F as vs->vs.length=as.length
 | [],[],_=>rfl
 | a::as,v::vs,h=>by rw[BG,BG,AFs.len h.2]
theorem PA.imp{X:Cx}{es:List Expr}{t t':TA}(h:PA X es t)(i:∀ σ H Q,t' σ H Q->t σ H Q):PA X es t':=fun pos pins s σ H Q I q=>h pos pins s σ H Q I (i σ H Q q)
def tAd(c:Ct)(E:XK)(f:Sg->R (List PyData)):TA:=fun σ H Q=>∃ ρ F,Ab c ρ σ F H/\Rk c E F H (f ρ) fun ds=>∀ vs F' H',Ext F H F' H'->DatVs c.K F' vs ds->Q vs H'
def tAv(c:Ct)(E:XK)(f:Sg->R (List A)):TA:=fun σ H Q=>∃ ρ F,Ab c ρ σ F H/\Rk c E F H (f ρ) fun ds=>∀ vs F' H',Ext F H F' H'->AFs c.g c.K c.mg F' ds vs->Q vs H'
abbrev PAd(X:Cx)(c:Ct)(E:XK)(es:List Expr)(f:Sg->R (List PyData)):Prop:=PA X es (tAd c E f)
abbrev PAv(X:Cx)(c:Ct)(E:XK)(es:List Expr)(f:Sg->R (List A)):Prop:=PA X es (tAv c E f)
noncomputable def aK{α:Type}:Sg->R (List α):=fun _=>.ok []
def aA{α:Type}(f:Sg->R α)(g:Sg->R (List α)):Sg->R (List α):=fun ρ=>(f ρ).bind fun x=>(g ρ).bind fun xs=>.ok (x::xs)
section
variable{X:Cx}{c:Ct}{E:XK}{e a b:Expr}{es:List Expr}{pos:Pos}
theorem aU:PAd X c E [] aK:=PA.imp aR fun σ H Q ⟨ρ,F,ab,k⟩=>Rk.ok k [] F H (Ext.refl ab.fh) .nil
theorem bF:PAv X c E [] aK:=PA.imp aR fun σ H Q ⟨ρ,F,ab,k⟩=>Rk.ok k [] F H (Ext.refl ab.fh) trivial
theorem aE{f:Sg->R PyData}{g:Sg->R (List PyData)}(h:PD X c E e f)(h2:PAd X c E es g)(hs:starEach (e::es) X.env=(false,eval e X.env)::starEach es X.env:=by rfl):PAd X c E (e::es) (aA f g):=PA.imp (aH h h2 hs) fun σ H Q zz0=>by
 obtain ⟨ρ,F,ab,k⟩:=zz0
 refine ⟨ρ,F,ab,(Rk.bind k).imp fun x _ q v F1 H1 s1 r1=>⟨ρ,F1,ab.ext s1,((Rk.bind q).ext s1).imp fun xs _ q vs F2 H2 s2 r2=>?_⟩⟩
 exact Rk.ok q (v::vs) F2 H2 (s1.trans s2) (.cons (DatV.same s2.ff r1) r2)
theorem aF{f:Sg->R A}{g:Sg->R (List A)}(h:PV X c E e f)(h2:PAv X c E es g)(hs:starEach (e::es) X.env=(false,eval e X.env)::starEach es X.env:=by rfl):PAv X c E (e::es) (aA f g):=PA.imp (aH h h2 hs) fun σ H Q zz0=>by
 obtain ⟨ρ,F,ab,k⟩:=zz0
 refine ⟨ρ,F,ab,(Rk.bind k).imp fun x _ q v F1 H1 s1 r1=>⟨ρ,F1,ab.ext s1,((Rk.bind q).ext s1).imp fun xs _ q vs F2 H2 s2 r2=>?_⟩⟩
 exact Rk.ok q (v::vs) F2 H2 (s1.trans s2) ⟨AF.same s2.ff r1,r2⟩
def cY(f:Sg->R (List PyData)):Sg->R PyData:=fun ρ=>(f ρ).bind fun xs=>if xs.length<=16777216 then .ok (.tuple xs) else .bad
def dG(f:Sg->R (List PyData)):Sg->R (List PyData):=fun ρ=>(f ρ).bind fun xs=>if xs.length<=16777216 then .ok xs else .bad
theorem eH:sizeLine=16777216:=GO
theorem cN{x1}{f:Sg->R (List PyData)}(h:PAd X c E es f):PD X c E (.Tuple es x1 pos) (cY f):=PE.imp (aFW h) fun σ H Q zz0=>by
 obtain ⟨ρ,F,ab,k⟩:=zz0
 refine ⟨ρ,F,ab,(Rk.bind k).imp fun xs _ q vs F1 H1 s1 r1=>?_⟩
 by_cases hz:xs.length<=16777216
 ·rw[AG hz] at q
  refine ⟨by rw[r1.length,eH];exact hz,fun p hp=>?_⟩
  exact Rk.ok q (.ref p) _ _ (s1.trans (Ext.new s1.fh hp)) (.tup (SqT.of aY) (r1.same (aI.upd (bZ s1.fh hp))))
 ·rw[AH hz] at q;exact q.elim
theorem cU{f:Sg->R (List PyData)}(h:PAd X c E es f):PN X c E (.List es pos) (dG f):=PE.imp (aOO h) fun σ H Q zz0=>by
 obtain ⟨ρ,F,ab,k⟩:=zz0
 refine ⟨ρ,F,ab,(Rk.bind k).imp fun xs _ q vs F1 H1 s1 r1=>?_⟩
 by_cases hz:xs.length<=16777216
 ·rw[AG hz] at q
  refine ⟨by rw[r1.length,eH];exact hz,fun p hp=>?_⟩
  exact Rk.ok q (.ref p) _ _ (s1.trans (Ext.own s1.fh hp)) ⟨p,vs,rfl,bZ s1.hh hp,aY,bZ s1.fh hp,r1⟩
 ·rw[AH hz] at q;exact q.elim
noncomputable def dLen:PyData->R PyData
 | .str z=>if z.length<=16777216 then .ok (.int z.length) else .bad
 | .list xs=>.ok (.int xs.length)
 | .tuple xs=>.ok (.int xs.length)
 | _=>.bad
theorem plain_len:o4 dLen:=by intro a e h;unfold dLen at h;split at h<;>(try split at h)<;>cases h
theorem dF{fa:Sg->R PyData}(hK:X.K=c.K)(h0:PE X e (tCB (fun xs H Q=>∃ x n,xs=[x]/\aOM X.K x H n/\Q (.int n) H) (eN (tV (bQ c) c E fa) i3))):PD X c E e (e1 dLen fa):=
 PE.imp h0 fun σ H Q h=>by
  obtain ⟨ρ,F,ab,k⟩:=tV1 (Ra:=bQ c) zN plain_len (mO c) h
  refine ⟨ρ,F,ab,k.imp fun d _ q v F' H' s r=>?_⟩
  obtain ⟨H0,F1,a,d',sf,ra,eg,q⟩:=q v F' H' s r
  unfold dLen at eg
  split at eg
  ·rename_i z
   split at eg
   ·rename_i hz
    cases eg
    obtain rfl:=aZ.str_of ra
    exact ⟨_,_,rfl,⟨by rw[eH];exact hz,rfl⟩,q _ F1 H' (Ext.refl sf) (.int _)⟩
   ·cases eg
  ·cases eg
   obtain ⟨p,vs,rfl,h1,h2⟩:=aZ.lst_of sf ra
   rw[<-hK] at h1
   exact ⟨_,vs.length,rfl,.inl ⟨vs,h1,rfl⟩,q _ F1 H' (Ext.refl sf) (by rw[h2.length];exact .int _)⟩
  ·cases eg
   obtain ⟨p,vs,rfl,_,h1,h2⟩:=aZ.tup_of sf ra
   rw[<-hK] at h1
   exact ⟨_,vs.length,rfl,.inr ⟨vs,h1,rfl⟩,q _ F1 H' (Ext.refl sf) (by rw[h2.length];exact .int _)⟩
  ·cases eg
noncomputable def dTup:PyData->R PyData
 | .list xs=>.ok (.tuple xs)
 | .tuple xs=>.ok (.tuple xs)
 | _=>.bad
theorem aGQ:o4 dTup:=by intro a e h;unfold dTup at h;split at h<;>cases h
theorem dY{fa:Sg->R PyData}(hK:X.K=c.K)(h0:PE X e (tCB (fun xs H Q=>∃ p ys,xs=[.ref p]/\((SqL X.K H p ys/\∀ l,H l=none->Q (.ref l) (upd H l (.tup ys)))\/(SqT X.K H p ys/\Q (.ref p) H))) (eN (tV (bQ c) c E fa) i3))):PD X c E e (e1 dTup fa):=
 PE.imp h0 fun σ H Q h=>by
  obtain ⟨ρ,F,ab,k⟩:=tV1 (Ra:=bQ c) zN aGQ (mO c) h
  refine ⟨ρ,F,ab,k.imp fun d _ q v F' H' s r=>?_⟩
  obtain ⟨H0,F1,a,d',sf,ra,eg,q⟩:=q v F' H' s r
  unfold dTup at eg
  split at eg
  ·cases eg
   obtain ⟨p,vs,rfl,h1,h2⟩:=aZ.lst_of sf ra
   rw[<-hK] at h1
   exact ⟨p,vs,rfl,.inl ⟨h1,fun l hl=>q _ _ _ (Ext.new sf hl) (.tup (SqT.of aY) (h2.same (aI.upd (bZ sf hl))))⟩⟩
  ·cases eg
   obtain ⟨p,vs,rfl,f1,h1,h2⟩:=aZ.tup_of sf ra
   rw[<-hK] at h1
   exact ⟨p,vs,rfl,.inr ⟨h1,q _ F1 H' (Ext.refl sf) (.tup f1 h2)⟩⟩
  ·cases eg
noncomputable def aO7:PyData->R (List PyData)
 | .list xs=>.ok xs
 | .tuple xs=>.ok xs
 | _=>.bad
noncomputable def dInt:PyData->R PyData
 | .int i=>.ok (.int i)
 | .bool b=>.ok (.int (if b=true then 1 else 0))
 | _=>.bad
theorem aGR:o4 dInt:=by intro a e h;unfold dInt at h;split at h<;>cases h
theorem mZ{fa:Sg->R PyData}(h0:PE X e (tCB (fun xs H Q=>(∃ i,xs=[.int i]/\Q (.int i) H)\/∃ k,xs=[.bl k]/\Q (.int (if k then 1 else 0)) H) (eN (tV (bQ c) c E fa) i3))):PD X c E e (e1 dInt fa):=
 PE.imp h0 fun σ H Q h=>by
  obtain ⟨ρ,F,ab,k⟩:=tV1 (Ra:=bQ c) zN aGR (mO c) h
  refine ⟨ρ,F,ab,k.imp fun d _ q v F' H' s r=>?_⟩
  obtain ⟨H0,F1,a,d',sf,ra,eg,q⟩:=q v F' H' s r
  unfold dInt at eg
  split at eg
  ·cases eg
   obtain rfl:=aZ.int_of ra
   exact .inl ⟨_,rfl,q _ F1 H' (Ext.refl sf) (.int _)⟩
  ·rename_i b
   cases eg
   obtain rfl:=aZ.bl_of ra
   exact .inr ⟨b,rfl,q _ F1 H' (Ext.refl sf) (by cases b<;>exact .int _)⟩
  ·cases eg
noncomputable def aRK:List PyData->Option (List Bool)
 | []=>some []
 | .bool b::t=>(aRK t).map (b :: ·)
 | _=>none
end
inductive Fw where
 | nx (ρ:Sg)|bk (ρ:Sg)|ct (ρ:Sg)|rt (a:A)
def AR(g:Gb)(K:Frag)(mg:Str->Option Value)(H F' H':Hp):A->V->Prop
 | .l xs,v=>∃ p us,v=.ref p/\H p=none/\H' p=some (.lst us)/\F' p=none/\DatVs K F' us xs
 | a,v=>AF g K mg F' a v
theorem AR.of{g:Gb}{K:Frag}{mg:Str->Option Value}{H F' H':Hp}{a:A}{v:V}(h:AF g K mg F' a v):AR g K mg H F' H' a v:=by
 cases a with
 | l xs=>exact False.elim h
 | _=>exact h
def j4(c:Ct)(F:Hp)(D:iS):Fw->Prop
 | .nx ρ=>∀ σ' F' H',aI F F'->Ab c ρ σ' F' H'->D.nx σ' H'
 | .bk ρ=>∀ σ' F' H',aI F F'->Ab c ρ σ' F' H'->D.bk σ' H'
 | .ct ρ=>∀ σ' F' H',aI F F'->Ab c ρ σ' F' H'->D.ct σ' H'
 | .rt a=>∀ v F' H',Ext c.F0 c.H0 F' H'->AR c.g c.K c.mg c.H0 F' H' a v->D.rt v H'
theorem j4.same{c:Ct}{F F1:Hp}{D:iS}(s:aI F F1):∀ {w:Fw},j4 c F D w->j4 c F1 D w
 | .nx ρ,h=>fun σ' F' H' s' ab=>h σ' F' H' (fun a o z=>s' a o (s a o z)) ab
 | .bk ρ,h=>fun σ' F' H' s' ab=>h σ' F' H' (fun a o z=>s' a o (s a o z)) ab
 | .ct ρ,h=>fun σ' F' H' s' ab=>h σ' F' H' (fun a o z=>s' a o (s a o z)) ab
 | .rt a,h=>h
def tSf(c:Ct)(E:XK)(f:Sg->R Fw):TS:=fun D σ H=>∃ ρ F,Ab c ρ σ F H/\Rk c E F H (f ρ) (j4 c F D)
abbrev PSf(X:Cx)(c:Ct)(E:XK)(st:Stmt)(f:Sg->R Fw):Prop:=PS X st (tSf c E f)
abbrev mB(X:Cx)(c:Ct)(E:XK)(st:List Stmt)(f:Sg->R Fw):Prop:=PSs X st (tSf c E f)
theorem get_set{α:Type}{l:List α}{i j:Nat}{x y:α}(h:(l.set i x)[j]? = some y):(i=j/\y=x/\i < l.length)\/(i≠j/\l[j]? = some y):=by
 by_cases e:i=j
 ·subst e
  by_cases hl:i < l.length
  · rw [CG hl] at h; exact .inl ⟨rfl, (BW h).symm, hl⟩
  · rw [List.getElem?_eq_none_iff.mpr (by rw [CQ]; omega)] at h; cases h
 ·rw[BK e] at h;exact .inr ⟨e,h⟩
theorem Ab.setF{c:Ct}{ρ:Sg}{σ:L2.St}{F H:Hp}{i:Nat}{a:A}{v:V}(b:Ab c ρ σ F H)(ha:AO c F H a v)(hn:a.own=true->∀ (j:Nat) (a':A),j≠i->ρ[j]? = some (some a')->a'.own=true->σ[j]? ≠ some (some v)):Ab c (ρ.set i (some a)) (σ.set i (some v)) F H where
 len:=by rw[CQ,CQ];exact b.len
 fh:=b.fh
 slot:=fun j a' h=>by
  rcases get_set h with ⟨e,q,hl⟩|⟨ne,q⟩
  ·subst e
   cases q
   exact ⟨v,CG (by rw[<-b.len];exact hl),ha⟩
  ·rw[BK ne];exact b.slot j a' q
 apart:=fun j k a' b' hjk h1 h2 o1 o2=>by
  rcases get_set h1 with ⟨e,q,hl⟩|⟨ne,q⟩
  ·subst e
   cases q
   rcases get_set h2 with ⟨e',q',hl'⟩|⟨ne',q'⟩
   ·exact absurd e' hjk
   ·rw[CG (by rw[<-b.len];exact hl),BK ne']
    exact (hn o1 k b' (BN hjk) q' o2).symm
  ·rcases get_set h2 with ⟨e',q',hl'⟩|⟨ne',q'⟩
   ·subst e'
    cases q'
    rw[CG (by rw[<-b.len];exact hl'),BK ne]
    exact hn o2 j a' hjk q o1
   ·rw[BK ne,BK ne']
    exact b.apart j k a' b' hjk q q' o1 o2
 f0:=b.f0
 h0:=b.h0
 n0:=b.n0
 t0:=b.t0
theorem AO.of{c:Ct}{F H:Hp}:∀ {a:A} {v:V},AF c.g c.K c.mg F a v->AO c F H a v
 | .d x,v,h=>h
 | .x e,v,h=>h
 | .g k n G,v,h=>h
 | .f kvs,v,h=>h
 | .o e,v,h=>h
theorem AF.notOwn{g:Gb}{K:Frag}{mg:Str->Option Value}{F:Hp}:∀ {a:A} {v:V},AF g K mg F a v->a.own=false
 | .d x,v,h=>rfl
 | .x e,v,h=>rfl
 | .g k n G,v,h=>rfl
 | .f kvs,v,h=>rfl
 | .o e,v,h=>rfl
theorem Ab.setA{c:Ct}{ρ:Sg}{σ:L2.St}{F H:Hp}{i:Nat}{a:A}{v:V}(b:Ab c ρ σ F H)(ha:AF c.g c.K c.mg F a v):Ab c (ρ.set i (some a)) (σ.set i (some v)) F H:=
 b.setF (AO.of ha) fun z=>by rw[AF.notOwn ha] at z;cases z
theorem Ab.setN{c:Ct}{ρ:Sg}{σ:L2.St}{F H F' H':Hp}{i:Nat}{xs:List PyData}{v:V}(b:Ab c ρ σ F H)(e:Ext F H F' H')(h:aET c xs v H F' H'):Ab c (ρ.set i (some (.l xs))) (σ.set i (some v)) F' H':=by
 obtain ⟨p,vs,rfl,h1,h2,h3,h4⟩:=h
 refine (b.ext e).setF ⟨p,vs,rfl,h2,h3,bZ b.h0 h1,h4⟩ fun _ j a' _ ha' ho=>?_
 obtain ⟨w,hw,q⟩:=b.slot j a' ha'
 rw[hw]
 intro z
 cases z
 obtain ⟨p',o',e',q1,_⟩:=q.at ho
 cases e'
 rw[h1] at q1
 cases q1
theorem Ab.putO{c:Ct}{ρ:Sg}{σ:L2.St}{F H:Hp}{i:Nat}{a a':A}{p:Addr}{o:HO}(b:Ab c ρ σ F H)(hi:ρ[i]? = some (some a))(ho:a.own=true)(hp:σ[i]? = some (some (.ref p)))(ho':a'.own=true)(hy:AO c F (upd H p o) a' (.ref p)) :
  Ab c (ρ.set i (some a')) σ F (upd H p o):=by
 obtain ⟨v,h1,q⟩:=b.slot i _ hi
 rw[hp] at h1
 cases h1
 obtain ⟨p',o',e',h2,h3,h4⟩:=q.at ho
 cases e'
 have other:∀ (j:Nat) (a:A) (w:V),j≠i->ρ[j]? = some (some a)->σ[j]? = some (some w)->AO c F H a w->AO c F (upd H p o) a w:=by
  intro j a2 w hj ha hw q2
  by_cases own:a2.own=true
  ·refine q2.off fun z=>?_
   subst z
   exact b.apart j i _ _ hj ha hi own ho (by rw[hw,hp])
  ·cases a2 with
   | l zs=>exact absurd rfl own
   | m zs=>exact absurd rfl own
   | d x=>exact q2
   | x e=>exact q2
   | g k n f=>exact q2
   | k S=>exact q2
   | f S=>exact q2
   | o S=>exact q2
 exact {
  len:=by rw[CQ];exact b.len
  fh:=fun a o z=>by rw[aM (fun w=>by subst w;rw[h3] at z;cases z)];exact b.fh a o z
  slot:=fun j a h=>by
   rcases get_set h with ⟨e,q,hl⟩|⟨ne,q⟩
   ·subst e
    cases q
    exact ⟨_,hp,hy⟩
   ·obtain ⟨w,hw,q2⟩:=b.slot j a q
    exact ⟨w,hw,other j a w (BN ne) q hw q2⟩
  apart:=fun j k a' b' hjk h1 h2 o1 o2=>by
   rcases get_set h1 with ⟨e,q,hl⟩|⟨ne,q⟩
   ·subst e
    cases q
    rcases get_set h2 with ⟨e',q',hl'⟩|⟨ne',q'⟩
    ·exact absurd e' hjk
    ·exact b.apart _ k _ b' hjk hi q' ho o2
   ·rcases get_set h2 with ⟨e',q',hl'⟩|⟨ne',q'⟩
    ·subst e'
     exact b.apart j _ a' _ hjk q hi o1 ho
    ·exact b.apart j k a' b' hjk q q' o1 o2
  f0:=b.f0
  h0:=fun a o z=>by rw[aM (fun w=>by subst w;rw[h4] at z;cases z)];exact b.h0 a o z
  n0:=b.n0
  t0:=b.t0}
theorem Ab.putL{c:Ct}{ρ:Sg}{σ:L2.St}{F H:Hp}{i:Nat}{xs ys:List PyData}{p:Addr}{vs:List V}(b:Ab c ρ σ F H)(hi:ρ[i]? = some (some (.l xs)))(hp:σ[i]? = some (some (.ref p)))(hy:DatVs c.K F vs ys) :
  Ab c (ρ.set i (some (.l ys))) σ F (upd H p (.lst vs)):=by
 obtain ⟨v,h1,p',us,rfl,h2,h3,h4,h5⟩:=b.slot i _ hi
 rw[hp] at h1
 cases h1
 exact b.putO hi rfl hp rfl ⟨p,vs,rfl,aY,h3,h4,hy⟩
theorem Ab.putM{c:Ct}{ρ:Sg}{σ:L2.St}{F H:Hp}{i:Nat}{kvs kvs':List (PyData×PyData)}{p:Addr}{es:List Ent}{ep:Nat}(b:Ab c ρ σ F H)(hi:ρ[i]? = some (some (.m kvs)))(hp:σ[i]? = some (some (.ref p)))(hy:MapRel c.K F es kvs') :
  Ab c (ρ.set i (some (.m kvs'))) σ F (upd H p (eP c.w p es ep)):=by
 obtain ⟨v,h1,p',us,rfl,h2,h3,h4,h5⟩:=b.slot i _ hi
 rw[hp] at h1
 cases h1
 exact b.putO hi rfl hp rfl ⟨p,es,rfl,⟨ep,aY⟩,h3,h4,hy⟩
theorem Ab.setM{c:Ct}{ρ:Sg}{σ:L2.St}{F H F' H':Hp}{i:Nat}{kvs:List (PyData×PyData)}{p:Addr}{es:List Ent}{ep:Nat}(b:Ab c ρ σ F H)(e:Ext F H F' H')(h1:H p=none)(h2:H' p=some (eP c.w p es ep))(h3:F' p=none)(h4:MapRel c.K F' es kvs):Ab c (ρ.set i (some (.m kvs))) (σ.set i (some (.ref p))) F' H':=by
 refine (b.ext e).setF ⟨p,es,rfl,⟨ep,h2⟩,h3,bZ b.h0 h1,h4⟩ fun _ j a' _ ha' ho=>?_
 obtain ⟨w,hw,q⟩:=b.slot j a' ha'
 rw[hw]
 intro z
 cases z
 obtain ⟨p',o',e',q1,_⟩:=q.at ho
 cases e'
 rw[h1] at q1
 cases q1
noncomputable def fz(i:Nat)(ρ:Sg):Sg:=match ρ[i]? with
 | some (some (.l xs))=>ρ.set i (some (.d (.list xs)))
 | _=>ρ
theorem Ab.publ{c:Ct}{ρ:Sg}{σ:L2.St}{F H:Hp}{i:Nat}{a0 a1:A}{p:Addr}{o:HO}(b:Ab c ρ σ F H)(hi:ρ[i]? = some (some a0))(hp:σ[i]? = some (some (.ref p)))(ow:a0.own=true)(h2:H p=some o)(h3:F p=none)(h4:c.H0 p=none)(no:a1.own=false)(hr:AO c (upd F p o) H a1 (.ref p)):Ab c (ρ.set i (some a1)) σ (upd F p o) H:=by
 have sf:aI F (upd F p o):=aI.upd h3
 exact {
  len:=by rw[CQ];exact b.len
  fh:=fun a o' z=>by
   by_cases w:a=p
   ·subst w;rw[aY] at z;rw[h2];exact z
   ·rw[aM w] at z;exact b.fh a o' z
  slot:=fun j a h=>by
   rcases get_set h with ⟨e,q,hl⟩|⟨ne,q⟩
   ·subst e
    cases q
    exact ⟨_,hp,hr⟩
   ·obtain ⟨w,hw,q2⟩:=b.slot j a q
    refine ⟨w,hw,?_⟩
    have off:∀ r,a.own=true->w=.ref r->F r=none->upd F p o r=none:=fun r oa e f=>by
     rw[aM]
     ·exact f
     ·intro z
      subst z
      exact b.apart j i _ _ (BN ne) q hi oa ow (by rw[hw,hp,e])
    cases a with
    | l zs=>obtain ⟨r,ws,e,q1,q2,q3,q4⟩:=q2;exact ⟨r,ws,e,q1,off r rfl e q2,q3,q4.same sf⟩
    | m kvs=>obtain ⟨r,ws,e,q1,q2,q3,q4⟩:=q2;exact ⟨r,ws,e,q1,off r rfl e q2,q3,q4.same sf⟩
    | d x=>exact DatV.same sf q2
    | x e=>exact AF.same (g:=c.g) (K:=c.K) (mg:=c.mg) (a:=.x e) sf q2
    | g k n f=>exact AF.same (g:=c.g) (K:=c.K) (mg:=c.mg) (a:=.g k n f) sf q2
    | k S=>obtain ⟨S,f,cl,doc,pm,cc,ct,h0,h1,h2,h3,h4⟩:=q2;exact ⟨S,f,cl,doc,pm,cc,ct,h0,h1,sf _ _ h2,sf _ _ h3,h4⟩
    | f kvs=>exact AF.same (g:=c.g) (K:=c.K) (mg:=c.mg) (a:=.f kvs) sf q2
    | o e=>exact AF.same (g:=c.g) (K:=c.K) (mg:=c.mg) (a:=.o e) sf q2
  apart:=fun j k a' b' hjk h1 h2 o1 o2=>by
   rcases get_set h1 with ⟨e,q,hl⟩|⟨ne,q⟩
   ·cases q;rw[no] at o1;cases o1
   ·rcases get_set h2 with ⟨e',q',hl'⟩|⟨ne',q'⟩
    ·cases q';rw[no] at o2;cases o2
    ·exact b.apart j k a' b' hjk q q' o1 o2
  f0:=fun a o z=>sf a o (b.f0 a o z)
  h0:=b.h0
  n0:=fun a z n=>by
   by_cases w:a=p
   ·subst w;exact .inl h4
   ·rw[aM w] at n;exact b.n0 a z n
  t0:=b.t0}
theorem Ab.frz{c:Ct}{ρ:Sg}{σ:L2.St}{F H:Hp}(b:Ab c ρ σ F H)(i:Nat):∃ F',aI F F'/\Ab c (fz i ρ) σ F' H:=by
 unfold fz
 split
 ·rename_i xs hi
  obtain ⟨v,hp,p,vs,rfl,h2,h3,h4,h5⟩:=b.slot i _ hi
  exact ⟨_,aI.upd h3,b.publ hi hp rfl h2 h3 h4 rfl (.lst (SqL.of aY) (h5.same (aI.upd h3)))⟩
 ·exact ⟨F,cK F,b⟩
noncomputable def aRL:PyData->PyData->R PyData
 | .int i,.int j=>.ok (.int (i+j))
 | _,_=>.bad
section
variable{X:Cx}{c:Ct}{E:XK}{e a b:Expr}{st:Stmt}{rest:List Stmt}{pos:Pos}
def sFz(i:Nat)(f:Sg->R Fw):Sg->R Fw:=fun ρ=>f (fz i ρ)
theorem sN(i:Nat){f:Sg->R Fw}(h:PSf X c E st f):PSf X c E st (sFz i f):=PS.imp h fun D σ H zz0=>by
 obtain ⟨ρ,F,ab,k⟩:=zz0
 obtain ⟨F',s,ab'⟩:=ab.frz i
 refine ⟨fz i ρ,F',ab',?_⟩
 have k':Rk c E F H (f (fz i ρ)) (j4 c F D):=k
 cases q:f (fz i ρ) with
 | bad=>rw[q] at k';exact k'
 | ok w=>rw[q] at k';exact j4.same s k'
 | ex e=>rw[q] at k';exact k'
noncomputable def sNx:Sg->R Fw:=fun ρ=>.ok (.nx ρ)
def aL(f g:Sg->R Fw):Sg->R Fw:=fun ρ=>(f ρ).bind fun w=>match w with
 | .nx ρ'=>g ρ'
 | w=>.ok w
theorem cT:mB X c E [] sNx:=PSs.imp L2.cT fun D σ H ⟨ρ,F,ab,k⟩=>Rk.ok k σ F H (cK F) ab
theorem aO{f:Sg->R Fw}(h:PSf X c E st f):mB X c E [st] f:=L2.aO h
theorem aD{f g:Sg->R Fw}(h:PSf X c E st f)(h2:mB X c E rest g):mB X c E (st::rest) (aL f g):=PSs.imp (L2.aD h h2) fun D σ H zz0=>by
 obtain ⟨ρ,F,ab,k⟩:=zz0
 refine ⟨ρ,F,ab,(Rk.bind k).imp fun w _ q=>?_⟩
 cases w with
 | nx ρ'=>
  intro σ' F' H' s ab'
  refine ⟨ρ',F',ab',?_⟩
  have q':Rk c E F H (g ρ') (j4 c F D):=q
  cases eg:g ρ' with
  | bad=>rw[eg] at q';exact q'
  | ok w=>rw[eg] at q';exact j4.same s q'
  | ex e=>rw[eg] at q';exact q'
 | bk ρ'=>exact q
 | ct ρ'=>exact q
 | rt a=>exact q
def bO(f:Sg->R A):Sg->R Fw:=fun ρ=>(f ρ).bind fun a=>.ok (.rt a)
theorem bH{f:Sg->R A}(h:PV X c E e f):PSf X c E (.Return (some e) pos) (bO f):=PS.imp (L2.bH h) fun D σ H ⟨ρ,F,ab,k⟩=>
 ⟨ρ,F,ab,(Rk.bind k).imp fun a _ q v F' H' s r=>Rk.ok q v F' H' (ab.all.trans s) (AR.of r)⟩
noncomputable def aRM:Sg->R Fw:=fun _=>.ok (.rt (.d .none))
def sIf(t:Sg->R Bool)(f g:Sg->R Fw):Sg->R Fw:=fun ρ=>(t ρ).bind fun b=>if b=true then f ρ else g ρ
theorem Rk.fw{F F1 H H1:Hp}{D:iS}{r:R Fw}(s:aI F F1)(k:Rk c E F H r (j4 c F D)):Rk c E F1 H1 r (j4 c F1 D):=by
 cases r with
 | bad=>exact k
 | ok w=>exact j4.same s k
 | ex e=>exact k
theorem dR{q:Expr}{sa sb:List Stmt}{t:Sg->R Bool}{f g:Sg->R Fw}(hq:PTf X c E q t)(ha:mB X c E sa f)(hb:mB X c E sb g):PSf X c E (.If q sa sb pos) (sIf t f g):=PS.imp (L2.dR hq ha hb) fun D σ H zz0=>by
 obtain ⟨ρ,F,ab,k⟩:=zz0
 refine ⟨ρ,F,ab,(Rk.bind k).imp fun b _ q F' H' s=>?_⟩
 cases b with
 | true=>exact aEH ⟨ρ,F',ab.ext s,Rk.fw s.ff q⟩
 | false=>exact aEG ⟨ρ,F',ab.ext s,Rk.fw s.ff q⟩
def bW(i:Nat)(f:Sg->R A):Sg->R Fw:=fun ρ=>(f ρ).bind fun a=>.ok (.nx (ρ.set i (some a)))
theorem aJ{i:Nat}{f:Sg->R A}(h:PS X st (l9 (tV (aIL c) c E f) (kR i))):PSf X c E st (bW i f):=PS.imp h fun D σ H ⟨ρ,F,ab,k⟩=>
 ⟨ρ,F,ab,(Rk.bind k).imp fun a _ q v F' H' s r=>Rk.ok q _ F' H' s.ff ((ab.ext s).setA r)⟩
def eW(i:Nat)(f:Sg->R (List PyData)):Sg->R Fw:=fun ρ=>(f ρ).bind fun xs=>.ok (.nx (ρ.set i (some (.l xs))))
theorem fA{i:Nat}{f:Sg->R (List PyData)}(h:PS X st (l9 (tV (aET c) c E f) (kR i))):PSf X c E st (eW i f):=PS.imp h fun D σ H ⟨ρ,F,ab,k⟩=>
 ⟨ρ,F,ab,(Rk.bind k).imp fun a _ q v F' H' s r=>Rk.ok q _ F' H' s.ff (ab.setN s r)⟩
def aKI(f:Sg->R A):Sg->R Fw:=fun ρ=>(f ρ).bind fun _=>.ok (.nx ρ)
theorem eF{f:Sg->R A}(h:PS X st (uZ (tV (aIL c) c E f))):PSf X c E st (aKI f):=PS.imp h fun D σ H ⟨ρ,F,ab,k⟩=>
 ⟨ρ,F,ab,(Rk.bind k).imp fun a _ q v F' H' s r=>Rk.ok q _ F' H' s.ff (ab.ext s)⟩
def fH(i:Nat)(f:Sg->R PyData):Sg->R Fw:=fun ρ=>match ρ[i]? with
 | some (some (.l xs))=>(f ρ).bind fun x=>if xs.length < 16777216 then .ok (.nx (ρ.set i (some (.l (xs++[x]))))) else .bad
 | _=>.bad
theorem gJ{i:Nat}{f:Sg->R PyData}(hK:X.K=c.K)(h:PS X st (uZ (tBM X.K "list" aCO (jS i) (eN (tV (cX c) c E f) i3)))):PSf X c E st (fH i f):=PS.imp h fun D σ H ⟨ρ,F,ab,k⟩=>by
 unfold fH at k
 split at k
 ·rename_i xs hi
  obtain ⟨v,hp,p,vs,rfl,h2,h3,h4,h5⟩:=ab.slot i _ hi
  refine ⟨_,hp,.inl ⟨rfl,vs,SqL.of h2⟩,ρ,F,ab,(Rk.bind k).imp fun x _ q u F1 H1 s1 r1=>?_⟩
  by_cases hz:xs.length < 16777216
  ·rw[AG hz] at q
   refine ⟨p,vs,u,rfl,rfl,s1.hh _ _ h2,by rw[h5.length,eH];exact hz,?_⟩
   exact Rk.ok q σ F1 _ s1.ff ((ab.ext s1).putL hi hp ((h5.same s1.ff).append (.cons r1 .nil)))
  ·rw[AH hz] at q;exact q.elim
 ·exact k.elim
def aS5(i:Nat)(g:PyData->PyData->R PyData)(f:Sg->R PyData):Sg->R Fw:=fun ρ=>(eV i ρ).bind fun x=>(f ρ).bind fun y=>(g x y).bind fun z=>.ok (.nx (ρ.set i (some (.d z))))
end
def Tg(c:Ct)(g:TG)(fs:PyData->Sg->Option Sg)(is:List Nat):Prop:=∀ (v:V) (x:PyData) (ρ ρ':Sg) (σ:L2.St) (F H:Hp) (Q:L2.St->Hp->Prop),Ab c ρ σ F H->DatV c.K F v x->fs x ρ=some ρ'->
 (∀ σ':L2.St,σ'.length=σ.length->(∀ j:Nat,j∉is->σ'[j]? = σ[j]?)->Ab c ρ' σ' F H->Q σ' H)->g v σ H Q
noncomputable def stN(i:Nat):PyData->Sg->Option Sg:=fun x ρ=>some (ρ.set i (some (.d x)))
theorem bL{c:Ct}(i:Nat):Tg c (kR i) (stN i) [i]:=fun v x ρ ρ' σ F H Q ab r e q=>by
 cases e
 exact q _ CQ (fun j hj=>BK (by intro z;subst z;exact hj (by simp))) (ab.setA (a:=.d x) r)
noncomputable def stL:List (PyData->Sg->Option Sg)->List PyData->Sg->Option Sg
 | [],[],ρ=>some ρ
 | f::fs,x::xs,ρ=>(f x ρ).bind (stL fs xs)
 | _,_,_=>none
def Tgs(c:Ct)(g:TGs)(fs:List (PyData->Sg->Option Sg))(is:List Nat):Prop:=∀ (vs:List V) (xs:List PyData) (ρ ρ':Sg) (σ:L2.St) (F H:Hp) (Q:L2.St->Hp->Prop),Ab c ρ σ F H->DatVs c.K F vs xs->stL fs xs ρ=some ρ'->
 (∀ σ':L2.St,σ'.length=σ.length->(∀ j:Nat,j∉is->σ'[j]? = σ[j]?)->Ab c ρ' σ' F H->Q σ' H)->g vs σ H Q
theorem jI{c:Ct}:Tgs c aH2 [] []:=fun vs xs ρ ρ' σ F H Q ab r e q=>by
 cases xs with
 | nil=>cases e;exact ⟨by cases r;rfl,q σ rfl (fun _ _=>rfl) ab⟩
 | cons x t=>cases e
theorem c8{c:Ct}{g:TG}{gs:TGs}{f:PyData->Sg->Option Sg}{fs:List (PyData->Sg->Option Sg)}{is js:List Nat}(h:Tg c g f is)(h2:Tgs c gs fs js):Tgs c (aJ7 g gs) (f::fs) (is++js):=fun vs xs ρ ρ' σ F H Q ab r e q=>by
 cases r with
 | nil=>cases e
 | cons r1 r2=>
  rename_i x d vs ds
  have e':(f d ρ).bind (stL fs ds)=some ρ':=e
  cases e1:f d ρ with
  | none=>rw[e1] at e';cases e'
  | some ρ1=>
   rw[e1] at e'
   refine ⟨_,_,rfl,h _ _ ρ ρ1 σ F H _ ab r1 e1 fun σ1 l1 k1 ab1=>h2 _ _ ρ1 ρ' σ1 F H _ ab1 r2 e' fun σ2 l2 k2 ab2=>q σ2 (l2.trans l1) (fun j hj=>?_) ab2⟩
   rw[BJ,GF] at hj
   exact (k2 j hj.2).trans (k1 j hj.1)
noncomputable def stT(fs:List (PyData->Sg->Option Sg)):PyData->Sg->Option Sg:=fun x ρ=>match x with
 | .tuple xs=>stL fs xs ρ
 | _=>none
theorem aCZ:∀ {fs:List (PyData->Sg->Option Sg)} {xs:List PyData} {ρ ρ':Sg},stL fs xs ρ=some ρ'->xs.length=fs.length
 | [],[],_,_,_=>rfl
 | [],_::_,_,_,h=>by cases h
 | _::_,[],_,_,h=>by cases h
 | f::fs,x::xs,ρ,ρ',h=>by
  have h':(f x ρ).bind (stL fs xs)=some ρ':=h
  cases e:f x ρ with
  | none=>rw[e] at h';cases h'
  | some ρ1=>
   rw[e] at h'
   have:=aCZ (fs:=fs) (xs:=xs) h'
   simp[this]
theorem kZ{c:Ct}{gs:TGs}{fs:List (PyData->Sg->Option Sg)}{is:List Nat}{n:Nat}{K:Frag}(hK:K=c.K)(h:Tgs c gs fs is)(hn:fs.length=n):Tg c (aOC K n gs) (stT fs) is:=fun v x ρ ρ' σ F H Q ab r e q=>by
 cases x with
 | tuple xs=>
  obtain ⟨a,vs,rfl,h1,h2⟩:=r.tup_of
  subst hK
  exact ⟨a,vs,rfl,h1.same ab.fh,by rw[h2.length,aCZ e,hn],h vs xs ρ ρ' σ F H Q ab h2 e q⟩
 | _=>cases e
structure Yld(K:Frag)(J:It)(F B:Hp)(xs:List PyData):Prop where
 len:xs.length<=sizeLine
 go:∀ (i:Nat) F1 H1,aI F F1->aI F1 H1->aI B H1->i < xs.length->J.go i H1
 yld:∀ (i:Nat) F1 H1 v H2 x,aI F F1->aI F1 H1->aI B H1->J.yld i H1 v H2->xs[i]? = some x->∃ F2,Ext F1 H1 F2 H2/\DatV K F2 v x
 stop:∀ F1 H1,aI F F1->aI F1 H1->aI B H1->J.stop xs.length H1
def tI(c:Ct)(E:XK)(f:Sg->R (List PyData)):TI:=fun σ H Rr=>∃ ρ F,Ab c ρ σ F H/\Rk c E F H (f ρ) fun xs=>∀ J B F' H',Ext F H F' H'->aI B H'->Yld c.K J F' B xs->Rr J H'
def tI0(c:Ct)(E:XK)(f:Sg->R (List PyData)):TI:=fun σ H Rr=>∃ ρ F,Ab c ρ σ F H/\Rk c E F H (f ρ) fun xs=>∀ J F' H',Ext F H F' H'->Yld c.K J F' (fun _=>none) xs->Rr J H'
theorem PI.imp{X:Cx}{tg e:Expr}{t t':TI}(h:PI X tg e t)(i:∀ σ H Q,t' σ H Q->t σ H Q):PI X tg e t':=fun pins s σ H Q I q=>h pins s σ H Q I (i σ H Q q)
abbrev PIf(X:Cx)(c:Ct)(E:XK)(tg e:Expr)(f:Sg->R (List PyData)):Prop:=PI X tg e (tI c E f)
abbrev PI0(X:Cx)(c:Ct)(E:XK)(tg e:Expr)(f:Sg->R (List PyData)):Prop:=PI X tg e (tI0 c E f)
theorem aEW{X:Cx}{c:Ct}{E:XK}{tg e:Expr}{f:Sg->R (List PyData)}(h:PI0 X c E tg e f):PIf X c E tg e f:=PI.imp h fun σ H Q ⟨ρ,F,ab,k⟩=>
 ⟨ρ,F,ab,k.imp fun xs _ q J F' H' s y=>q J (fun _=>none) F' H' s (fun _ _ z=>nomatch z) y⟩
def rC{H:Hp}:aI (fun _=>none) H:=fun _ _ z=>nomatch z
noncomputable def bV:PyData->R (List PyData)
 | .list xs=>if xs.length<=16777216 then .ok xs else .bad
 | .tuple xs=>if xs.length<=16777216 then .ok xs else .bad
 | .str z=>if z.cps.toList.length<=16777216 then .ok (z.cps.toList.map fun u=>.str ⟨#[u]⟩) else .bad
 | _=>.bad
theorem aAP{K:Frag}{F B H:Hp}{a:Addr}{vs:List V}{xs:List PyData}(hz:xs.length<=16777216)(hs:∀ H1,aI F H1->aI B H1->SqL K H1 a vs)(hd:DatVs K F vs xs):Yld K (Itl K a) F B xs where
 len:=by rw[eH];exact hz
 go:=fun i F1 H1 h1 h2 h3 hi=>by
  have q:=hs H1 (fun x o z=>h2 x o (h1 x o z)) h3
  exact ⟨vs,vs[i]'(by rw[hd.length];exact hi),q,by simp⟩
 yld:=fun i F1 H1 v H2 x h1 h2 h3 y e=>by
  obtain ⟨rfl,y⟩:=y
  have q:=y vs (hs _ (fun x o z=>h2 x o (h1 x o z)) h3)
  obtain ⟨d,e2,r⟩:=hd.get q
  rw[e] at e2
  cases e2
  exact ⟨F1,Ext.refl h2,r.same h1⟩
 stop:=fun F1 H1 h1 h2 h3=>⟨vs,hs H1 (fun x o z=>h2 x o (h1 x o z)) h3,by rw[hd.length];exact AK _⟩
theorem aC0{K:Frag}{F B:Hp}{a:Addr}{vs:List V}{xs:List PyData}(hz:xs.length<=16777216)(hs:SqT K F a vs)(hd:DatVs K F vs xs):Yld K (Itt K a) F B xs where
 len:=by rw[eH];exact hz
 go:=fun i F1 H1 h1 h2 h3 hi=>by
  have q:=hs.same (H':=H1) (fun x o z=>h2 x o (h1 x o z))
  exact ⟨vs,vs[i]'(by rw[hd.length];exact hi),q,by simp⟩
 yld:=fun i F1 H1 v H2 x h1 h2 h3 y e=>by
  obtain ⟨rfl,y⟩:=y
  have q:=y vs (hs.same (fun x o z=>h2 x o (h1 x o z)))
  obtain ⟨d,e2,r⟩:=hd.get q
  rw[e] at e2
  cases e2
  exact ⟨F1,Ext.refl h2,r.same h1⟩
 stop:=fun F1 H1 h1 h2 h3=>⟨vs,hs.same (fun x o z=>h2 x o (h1 x o z)),by rw[hd.length];exact AK _⟩
theorem aC1{K:Frag}{F B:Hp}{z:Str}(hz:z.cps.toList.length<=16777216):Yld K (Its z) F B (z.cps.toList.map fun u=>.str ⟨#[u]⟩) where
 len:=by rw[eH,AB];exact hz
 go:=fun i F1 H1 h1 h2 h3 hi=>by
  rw[AB,DB] at hi
  exact hi
 yld:=fun i F1 H1 v H2 x h1 h2 h3 y e=>by
  obtain ⟨rfl,u,hu,rfl⟩:=y
  rw[AJ,GS,hu] at e
  cases e
  exact ⟨F1,Ext.refl h2,.str _⟩
 stop:=fun F1 H1 h1 h2 h3=>by
  show (z.cps.toList.map _).length=z.cps.size
  rw[AB,DB]
section
variable{X:Cx}{c:Ct}{E:XK}{tg e a b:Expr}{pos:Pos}
theorem aIP{f:Sg->R PyData}(hK:X.K=c.K)(h:PD X c E e f):PI0 X c E tg e (e1 bV f):=PI.imp (PI.or (aF6 h) (aGD h)) fun σ H Q ⟨ρ,F,ab,k⟩=>by
 have k':=Rk.bind k
 cases hf:f ρ with
 | bad=>rw[hf] at k';exact k'.elim
 | ex x=>rw[hf] at k';exact .inl ⟨ρ,F,ab,by rw[hf];exact k'⟩
 | ok d=>
  rw[hf] at k'
  have k2:=Rk.ok k'
  unfold bV at k2
  split at k2
  ·rename_i xs
   split at k2
   ·rename_i hz
    refine .inl ⟨ρ,F,ab,?_⟩
    rw[hf]
    intro v F' H' s r
    obtain ⟨p,vs,rfl,h1,h2⟩:=DatV.lst_of r
    refine ⟨p,rfl,.inl ⟨⟨vs,?_⟩,?_⟩⟩
    · rw [hK]; exact h1.same s.fh
    · rw [hK]; exact Rk.ok k2 _ F' H' s (aAP (H := H') hz (fun H1 q _ => h1.same q) h2)
   ·exact k2.elim
  ·rename_i xs
   split at k2
   ·rename_i hz
    refine .inl ⟨ρ,F,ab,?_⟩
    rw[hf]
    intro v F' H' s r
    obtain ⟨p,vs,rfl,h1,h2⟩:=DatV.tup_of r
    refine ⟨p,rfl,.inr ⟨⟨vs,?_⟩,?_⟩⟩
    · rw [hK]; exact h1.same s.fh
    · rw [hK]; exact Rk.ok k2 _ F' H' s (aC0 hz h1 h2)
   ·exact k2.elim
  ·rename_i z
   split at k2
   ·rename_i hz
    refine .inr ⟨ρ,F,ab,?_⟩
    rw[hf]
    intro v F' H' s r
    obtain rfl:=DatV.str_of r
    exact ⟨z,rfl,Rk.ok k2 _ F' H' s (aC1 hz)⟩
   ·exact k2.elim
  ·exact k2.elim
theorem uB{f:Sg->R PyData}(hK:X.K=c.K)(h:PR X c E e f):PIf X c E tg e (e1 bV f):=PI.imp (PI.or (aF6 h) (aGD h)) fun σ H Q ⟨ρ,F,ab,k⟩=>by
 have k':=Rk.bind k
 cases hf:f ρ with
 | bad=>rw[hf] at k';exact k'.elim
 | ex x=>rw[hf] at k';exact .inl ⟨ρ,F,ab,by rw[hf];exact k'⟩
 | ok d=>
  rw[hf] at k'
  have k2:=Rk.ok k'
  unfold bV at k2
  split at k2
  ·rename_i xs
   split at k2
   ·rename_i hz
    refine .inl ⟨ρ,F,ab,?_⟩
    rw[hf]
    intro v F' H' s r
    obtain ⟨p,vs,rfl,h1,h2⟩:=aZ.lst_of s.fh r
    refine ⟨p,rfl,.inl ⟨⟨vs,?_⟩,?_⟩⟩
    · rw [hK]; exact h1
    · rw [hK]; exact Rk.ok k2 _ H' F' H' s (cK _) (aAP (H := H') hz (fun H1 _ q => h1.same q) h2)
   ·exact k2.elim
  ·rename_i xs
   split at k2
   ·rename_i hz
    refine .inl ⟨ρ,F,ab,?_⟩
    rw[hf]
    intro v F' H' s r
    obtain ⟨p,vs,rfl,h1,_,h2⟩:=aZ.tup_of s.fh r
    refine ⟨p,rfl,.inr ⟨⟨vs,?_⟩,?_⟩⟩
    · rw [hK]; exact h1.same s.fh
    · rw [hK]; exact Rk.ok k2 _ H' F' H' s (cK _) (aC0 hz h1 h2)
   ·exact k2.elim
  ·rename_i z
   split at k2
   ·rename_i hz
    refine .inr ⟨ρ,F,ab,?_⟩
    rw[hf]
    intro v F' H' s r
    obtain rfl:=aZ.str_of r
    exact ⟨z,rfl,Rk.ok k2 _ H' F' H' s (cK _) (aC1 hz)⟩
   ·exact k2.elim
  ·exact k2.elim
noncomputable def nI(lo:Int)(n:Nat):List PyData:=(List.range n).map fun i:Nat=>.int (lo+i)
def jW(lo hi:Int):R (List PyData):=if -4611686018427387904<=lo/\lo < 4611686018427387904 /\ -4611686018427387904<=hi/\hi < 4611686018427387904/\hi - lo<=16777216 then .ok (nI lo (hi - lo).toNat) else .bad
def iA(f:Sg->R PyData):Sg->R (List PyData):=fun ρ=>(f ρ).bind fun x=>match x with
 | .int j=>jW 0 j
 | _=>.bad
def aL0(f g:Sg->R PyData):Sg->R (List PyData):=fun ρ=>(f ρ).bind fun x=>(g ρ).bind fun y=>match x,y with
 | .int i,.int j=>jW i j
 | _,_=>.bad
theorem aGS{K:Frag}{F B:Hp}{lo:Int}{n:Nat}(hz:n<=16777216):Yld K (Itr lo n) F B (nI lo n) where
 len:=by unfold nI;rw[eH,AB,BU];exact hz
 go:=fun i F1 H1 h1 h2 h3 hi=>by unfold nI at hi;rw[AB,BU] at hi;exact hi
 yld:=fun i F1 H1 v H2 x h1 h2 h3 y e=>by
  obtain ⟨rfl,rfl⟩:=y
  unfold nI at e
  rw[AJ] at e
  cases q:(List.range n)[i]? with
  | none=>rw[q] at e;cases e
  | some j=>
   rw[q] at e
   cases e
   obtain ⟨hl,hv⟩:=AE.mp q
   rw[List.getElem_range] at hv
   subst hv
   exact ⟨F1,Ext.refl h2,.int _⟩
 stop:=fun F1 H1 h1 h2 h3=>by show n<=_;unfold nI;rw[AB,BU];exact AK _
theorem jJ{f:Sg->R PyData}(h:PI X tg e (aJ8 (eN (tV (bQ c) c E f) i3))):PI0 X c E tg e (iA f):=PI.imp h fun σ H Q ⟨ρ,F,ab,k⟩=>by
 refine ⟨ρ,F,ab,(Rk.bind k).imp fun x _ q v F' H' s r=>?_⟩
 cases x with
 | int j=>
  have q':Rk c E F H (jW 0 j) _:=q
  unfold jW at q'
  split at q'
  ·rename_i hz
   obtain rfl:=aZ.int_of r
   refine ⟨j,rfl,by omega,by omega,?_⟩
   have e0:(j - 0).toNat=j.toNat:=by rw[Int.sub_zero]
   rw[<-e0]
   exact Rk.ok q' _ F' H' s (aGS (by omega))
  ·exact q'.elim
 | _=>exact q.elim
end
noncomputable def iB(js:List (Option Nat))(ρ:Sg):Sg:=js.map fun o=>o.bind fun j=>(ρ[j]?).join
theorem xA{α:Type}{js:List (Option Nat)}{ρ:List (Option α)}{i:Nat}{a:α}(h:(js.map fun o=>o.bind fun j=>(ρ[j]?).join)[i]? = some (some a)):∃ j,js[i]? = some (some j)/\ρ[j]? = some (some a):=by
 rw[AJ] at h
 cases e:js[i]? with
 | none=>rw[e] at h;cases h
 | some o=>
  rw[e] at h
  have h':(o.bind fun j=>(ρ[j]?).join)=some a:=BW h
  cases o with
  | none=>cases h'
  | some j=>
   have h2:(ρ[j]?).join=some a:=h'
   cases e2:ρ[j]? with
   | none=>rw[e2] at h2;cases h2
   | some o2=>rw[e2] at h2;have:o2=some a:=h2;subst this;exact ⟨j,rfl,e2⟩
theorem xB{α:Type}{js:List (Option Nat)}{ρ:List (Option α)}{i j:Nat}{a:α}(h:js[i]? = some (some j))(h2:ρ[j]? = some (some a)):(js.map fun o=>o.bind fun j=>(ρ[j]?).join)[i]? = some (some a):=by
 rw[AJ,h]
 show some ((ρ[j]?).join)=_
 rw[h2];rfl
def xC(js:List (Option Nat)):Prop:=∀ (i k j:Nat),js[i]? = some (some j)->js[k]? = some (some j)->i=k
theorem vR{js:List (Option Nat)}(h:js.Pairwise fun a b=>a=none\/a≠b):xC js:=fun i k j h1 h2=>by
 obtain ⟨l1,e1⟩:=AE.mp h1
 obtain ⟨l2,e2⟩:=AE.mp h2
 rw[EH] at h
 rcases Nat.lt_trichotomy i k with q|q|q
 ·rcases h i k l1 l2 q with z|z
  · rw [e1] at z; cases z
  · exact absurd (e1.trans e2.symm) z
 ·exact q
 ·rcases h k i l2 l1 q with z|z
  · rw [e2] at z; cases z
  · exact absurd (e2.trans e1.symm) z
theorem Ab.cap{c:Ct}{ρ:Sg}{σ σ0:L2.St}{F H:Hp}{js:List (Option Nat)}(b:Ab c ρ σ F H)(ho:xC js)(k:dP (lH js σ) σ0):Ab c (iB js ρ) σ0 F H where
 len:=by rw[k.1];unfold iB lH;rw[AB,AB]
 fh:=b.fh
 slot:=fun i a h=>by
  obtain ⟨j,h1,h2⟩:=xA h
  obtain ⟨v,h3,h4⟩:=b.slot j a h2
  exact ⟨v,k.2 i v (xB h1 h3),h4⟩
 apart:=fun i i' a a' hne h h' o o'=>by
  obtain ⟨j,h1,h2⟩:=xA h
  obtain ⟨j',h1',h2'⟩:=xA h'
  have hj:j≠j':=fun z=>hne (ho i i' j h1 (by rw[h1',z]))
  obtain ⟨v,h3,_⟩:=b.slot j a h2
  obtain ⟨v',h3',_⟩:=b.slot j' a' h2'
  rw[k.2 i v (xB h1 h3),k.2 i' v' (xB h1' h3'),<-h3,<-h3']
  exact b.apart j j' a a' hj h2 h2' o o'
 f0:=b.f0
 h0:=b.h0
 n0:=b.n0
 t0:=b.t0
noncomputable def R.noEx{α:Type}:R α->R α
 | .ex _=>.bad
 | r=>r
@[simp] theorem R.noEx_ok{α:Type}(a:α):(R.ok a).noEx=.ok a:=id rfl
noncomputable def aAQ{α:Type}:Option α->R α
 | some a=>.ok a
 | none=>.bad
@[simp] theorem rD{α:Type}(a:α):aAQ (some a)=.ok a:=id rfl
noncomputable def compL(fs:PyData->Sg->Option Sg)(ft:Sg->R Bool)(fe:Sg->R PyData)(ρ0:Sg):List PyData->R (List PyData)
 | []=>.ok []
 | x::t=>(aAQ (fs x ρ0)).bind fun ρ1=>(ft ρ1).noEx.bind fun b=>if b=true then (fe ρ1).noEx.bind fun y=>(compL fs ft fe ρ0 t).bind fun ys=>.ok (y::ys) else compL fs ft fe ρ0 t
theorem p6{fs:PyData->Sg->Option Sg}{ft:Sg->R Bool}{fe:Sg->R PyData}{ρ0:Sg}{e:Er}:∀ {xs:List PyData},compL fs ft fe ρ0 xs≠.ex e
 | []=>fun h=>by cases h
 | x::t=>fun h=>by
  unfold compL at h
  cases h1:fs x ρ0 with
  | none=>rw[h1] at h;cases h
  | some ρ1=>
   rw[h1] at h
   have h:((ft ρ1).noEx.bind fun b=>if b=true then (fe ρ1).noEx.bind fun y=>(compL fs ft fe ρ0 t).bind fun ys=>.ok (y::ys) else compL fs ft fe ρ0 t)=.ex e:=h
   cases h2:ft ρ1 with
   | bad=>rw[h2] at h;cases h
   | ex _=>rw[h2] at h;cases h
   | ok b=>
    rw[h2] at h
    have h:(if b=true then (fe ρ1).noEx.bind fun y=>(compL fs ft fe ρ0 t).bind fun ys=>.ok (y::ys) else compL fs ft fe ρ0 t)=.ex e:=h
    cases b with
    | false=>exact p6 (xs:=t) h
    | true=>
     have h:((fe ρ1).noEx.bind fun y=>(compL fs ft fe ρ0 t).bind fun ys=>.ok (y::ys))=.ex e:=h
     cases h3:fe ρ1 with
     | bad=>rw[h3] at h;cases h
     | ex _=>rw[h3] at h;cases h
     | ok y=>
      rw[h3] at h
      have h:((compL fs ft fe ρ0 t).bind fun ys=>.ok (y::ys))=.ex e:=h
      cases h4:compL fs ft fe ρ0 t with
      | bad=>rw[h4] at h;cases h
      | ex e'=>exact p6 (xs:=t) (e:=e') h4
      | ok ys=>rw[h4] at h;cases h
theorem aEX{fs:PyData->Sg->Option Sg}{ft:Sg->R Bool}{fe:Sg->R PyData}{ρ0:Sg}{x:PyData}{t ys:List PyData}(h:compL fs ft fe ρ0 (x::t)=.ok ys) :
  ∃ ρ1 b,fs x ρ0=some ρ1/\ft ρ1=.ok b/\((b=true/\∃ y zs,fe ρ1=.ok y/\compL fs ft fe ρ0 t=.ok zs/\ys=y::zs)\/(b=false/\compL fs ft fe ρ0 t=.ok ys)):=by
 unfold compL at h
 cases h1:fs x ρ0 with
 | none=>rw[h1] at h;cases h
 | some ρ1=>
  rw[h1] at h
  have h:((ft ρ1).noEx.bind fun b=>if b=true then (fe ρ1).noEx.bind fun y=>(compL fs ft fe ρ0 t).bind fun ys=>.ok (y::ys) else compL fs ft fe ρ0 t)=.ok ys:=h
  cases h2:ft ρ1 with
  | bad=>rw[h2] at h;cases h
  | ex _=>rw[h2] at h;cases h
  | ok b=>
   rw[h2] at h
   have h:(if b=true then (fe ρ1).noEx.bind fun y=>(compL fs ft fe ρ0 t).bind fun ys=>.ok (y::ys) else compL fs ft fe ρ0 t)=.ok ys:=h
   refine ⟨ρ1,b,rfl,h2,?_⟩
   cases b with
   | false=>exact .inr ⟨rfl,h⟩
   | true=>
    refine .inl ⟨rfl,?_⟩
    have h:((fe ρ1).noEx.bind fun y=>(compL fs ft fe ρ0 t).bind fun ys=>.ok (y::ys))=.ok ys:=h
    cases h3:fe ρ1 with
    | bad=>rw[h3] at h;cases h
    | ex _=>rw[h3] at h;cases h
    | ok y=>
     rw[h3] at h
     have h:((compL fs ft fe ρ0 t).bind fun ys=>.ok (y::ys))=.ok ys:=h
     cases h4:compL fs ft fe ρ0 t with
     | bad=>rw[h4] at h;cases h
     | ex e'=>rw[h4] at h;cases h
     | ok zs=>rw[h4] at h;cases h;exact ⟨y,zs,rfl,rfl,rfl⟩
def iX(js:List (Option Nat))(fi:Sg->R (List PyData))(fs:PyData->Sg->Option Sg)(ft:Sg->R Bool)(fe:Sg->R PyData):Sg->R (List PyData):=fun ρ=>(fi ρ).bind fun xs=>compL fs ft fe (iB js ρ) xs
noncomputable def j5:Sg->R Bool:=fun _=>.ok true
section
variable{X:Cx}{c:Ct}{E:XK}{e a b:Expr}{pos:Pos}
theorem gC:L2.PIf X [] (tTf c E j5):=fun pins s σ H Q I ⟨ρ,F,ab,k⟩=>L2.gC pins s σ H Q I (Rk.ok k F H (Ext.refl ab.fh))
theorem aIQ{js:List (Option Nat)}{is:List Nat}{σ σ0 σ1:L2.St}(k:dP (lH js σ) σ0)(hl:σ1.length=σ0.length)(h:∀ j:Nat,j∉is->σ1[j]? = σ0[j]?)(hi:∀ i∈is,js[i]? = some none):dP (lH js σ) σ1:=
 ⟨hl.trans k.1,fun i v e=>by
  by_cases q:i∈is
  ·unfold lH at e
   rw[AJ,hi i q] at e
   cases e
  ·rw[h i q];exact k.2 i v e⟩
theorem yS{N:List Str}{js:List (Option Nat)}{scope:Scope}{tg elt:Expr}{ifs:List Expr}{fi:Sg->R (List PyData)}{fs:PyData->Sg->Option Sg}{ft:Sg->R Bool}{fe:Sg->R PyData}{is:List Nat}(ho:xC js)(hi:∀ i∈is,js[i]? = some none)
  (hb:∀ (cl:List (Str×Addr)) (C:Addr) (s:Shared) (H0:Hp) (fp:List Addr),∃ g,PG (hV X N scope cl C s H0 fp) tg g/\Tg c g fs is/\L2.PIf (hV X N scope cl C s H0 fp) ifs (tTf c E0 ft)/\PD (hV X N scope cl C s H0 fp) c E0 elt fe)
  {σ:L2.St} {H:Hp} {Q:VK} (h:tV (aET c) c E (iX js fi fs ft fe) σ H Q):vC X N scope js tg elt ifs (tI c E fi) σ H Q:=by
 obtain ⟨ρ,F,ab,k⟩:=h
 refine ⟨ρ,F,ab,(Rk.bind k).imp fun xs _ q J B F1 H1 s1 sb yl=>?_⟩
 cases hc:compL fs ft fe (iB js ρ) xs with
 | bad=>rw[hc] at q;exact q.elim
 | ex e=>exact absurd hc p6
 | ok ys=>
  rw[hc] at q
  refine aLI (n:=xs.length) (fun i acc H'=>∃ F',Ext F1 H1 F' H'/\acc.length<=i/\∃ zs rest,DatVs c.K F' acc zs/\compL fs ft fe (iB js ρ) (xs.drop i)=.ok rest/\zs++rest=ys) yl.len ⟨F1,Ext.refl s1.fh,AK _,[],ys,.nil,hc,rfl⟩ ?_ ?_ ?_ ?_ ?_
  ·rintro i acc H' _ ⟨F',_,h,_⟩;exact h
  ·rintro i acc H' hlt ⟨F',e1,_⟩
   exact yl.go i F' H' e1.ff e1.fh (fun a o z=>e1.hh a o (sb a o z)) hlt
  ·rintro acc H' ⟨F',e1,_⟩
   exact yl.stop F' H' e1.ff e1.fh (fun a o z=>e1.hh a o (sb a o z))
  ·rintro i v acc Ha Hb hlt ⟨F',e1,hlen,zs,rest,hd,hr,hz⟩ hy
   obtain ⟨F2,e2,rx⟩:=yl.yld i F' Ha v Hb xs[i] e1.ff e1.fh (fun a o z=>e1.hh a o (sb a o z)) hy (AI hlt)
   have hdr:xs.drop i=xs[i]::xs.drop (i+1):=FY hlt
   rw[hdr] at hr
   obtain ⟨ρ1,bb,hs,ht,hcase⟩:=aEX hr
   intro cl C s H0 fp
   obtain ⟨g,hg,tg',hif,he⟩:=hb cl C s H0 fp
   refine ⟨g,_,_,hg,hif,he,fun σ0 k0=>?_⟩
   have ab0:Ab c (iB js ρ) σ0 F2 Hb:=(ab.ext (s1.trans (e1.trans e2))).cap ho k0
   refine tg' v xs[i] _ ρ1 σ0 F2 Hb _ ab0 rx hs fun σ1 hl1 hk1 ab1=>⟨aIQ k0 hl1 hk1 hi,ρ1,F2,ab1,?_⟩
   rw[ht]
   intro F3 H3 e3
   rcases hcase with ⟨rfl,y,ws,hy1,hy2,rfl⟩|⟨rfl,hy2⟩
   ·refine aEH ⟨ρ1,F3,ab1.ext e3,?_⟩
    rw[hy1]
    intro w F4 H4 e4 rw'
    refine ⟨F4,e1.trans (e2.trans (e3.trans e4)),by rw[A5,BY];omega,zs++[y],ws,(hd.same (e2.trans (e3.trans e4)).ff).append (.cons rw' .nil),hy2,by rw[EQ];exact hz⟩
   ·exact aEG ⟨F3,e1.trans (e2.trans e3),by omega,zs,rest,hd.same (e2.trans e3).ff,hy2,hz⟩
  ·rintro acc H' ⟨F',e1,_,zs,rest,hd,hr,hz⟩ p hp
   rw[List.drop_length] at hr
   cases hr
   rw[C3] at hz
   subst hz
   exact Rk.ok q (.ref p) F' _ (s1.trans (e1.trans (Ext.own e1.fh hp))) ⟨p,acc,rfl,bZ (s1.trans e1).hh hp,aY,bZ e1.fh hp,hd⟩
theorem kN{N:List Str}{js:List (Option Nat)}{scope:Scope}{tg elt:Expr}{ifs:List Expr}{fi:Sg->R (List PyData)}{fs:PyData->Sg->Option Sg}{ft:Sg->R Bool}{fe:Sg->R PyData}{is:List Nat}(h:PE X e (vC X N scope js tg elt ifs (tI c E fi)))(ho:js.Pairwise fun a b=>a=none\/a≠b)(hi:∀ i∈is,js[i]? = some none)
 (hb:∀ (cl:List (Str×Addr)) (C:Addr) (s:Shared) (H0:Hp) (fp:List Addr),∃ g,PG (hV X N scope cl C s H0 fp) tg g/\Tg c g fs is/\L2.PIf (hV X N scope cl C s H0 fp) ifs (tTf c E0 ft)/\PD (hV X N scope cl C s H0 fp) c E0 elt fe) :
 PN X c E e (iX js fi fs ft fe):=PE.imp h fun σ H Q q=>yS (vR ho) hi hb q
theorem aC2{i:Nat}{st:Stmt}{N:List Str}{js:List (Option Nat)}{scope:Scope}{tg elt:Expr}{ifs:List Expr}{fi:Sg->R (List PyData)}{fs:PyData->Sg->Option Sg}{ft:Sg->R Bool}{fe:Sg->R PyData}{is:List Nat}(h:PS X st (l9 (vC X N scope js tg elt ifs (tI c E fi)) (kR i)))(ho:js.Pairwise fun a b=>a=none\/a≠b)(hi:∀ i∈is,js[i]? = some none)
 (hb:∀ (cl:List (Str×Addr)) (C:Addr) (s:Shared) (H0:Hp) (fp:List Addr),∃ g,PG (hV X N scope cl C s H0 fp) tg g/\Tg c g fs is/\L2.PIf (hV X N scope cl C s H0 fp) ifs (tTf c E0 ft)/\PD (hV X N scope cl C s H0 fp) c E0 elt fe) :
 PSf X c E st (eW i (iX js fi fs ft fe)):=fA (PS.imp h fun D σ H q=>yS (vR ho) hi hb q)
end
noncomputable def lJ(fs:PyData->Sg->Option Sg)(fb:Sg->R Fw):List PyData->Sg->R Fw
 | [],ρ=>.ok (.nx ρ)
 | x::t,ρ=>(aAQ (fs x ρ)).bind fun ρ1=>(fb ρ1).bind fun w=>match w with
  | .nx ρ2=>lJ fs fb t ρ2
  | .ct ρ2=>lJ fs fb t ρ2
  | .bk ρ2=>.ok (.nx ρ2)
  | .rt a=>.ok (.rt a)
def k6(fi:Sg->R (List PyData))(fs:PyData->Sg->Option Sg)(fb:Sg->R Fw):Sg->R Fw:=fun ρ=>(fi ρ).bind fun xs=>lJ fs fb xs ρ
section
variable{X:Cx}{c:Ct}{E:XK}{e a b:Expr}{pos:Pos}{st:Stmt}
theorem dJ{g:TG}{fi:Sg->R (List PyData)}{fs:PyData->Sg->Option Sg}{is:List Nat}{fb:Sg->R Fw}(hg:Tg c g fs is)(h:PS X st (aOE (tI0 c E fi) g (tSf c E fb))):PSf X c E st (k6 fi fs fb):=PS.imp h fun D σ H zz0=>by
 obtain ⟨ρ,F,ab,k⟩:=zz0
 refine ⟨ρ,F,ab,(Rk.bind k).imp fun xs _ q J F1 H1 s1 yl=>?_⟩
 refine ⟨fun i m σ H=>m=xs.length - i/\i<=xs.length/\∃ ρ' F',aI F1 F'/\Ab c ρ' σ F' H/\Rk c E F' H (lJ fs fb (xs.drop i) ρ') (j4 c F D),⟨xs.length,by simp,CH _,ρ,F1,cK _,ab.ext s1,Rk.ext s1 q⟩,?_⟩
 rintro i m σ2 H2 ⟨rfl,hi,ρ2,F2,s2,ab2,k2⟩
 by_cases hlt:i < xs.length
 ·refine .inr ⟨yl.go i F2 H2 s2 ab2.fh rC hlt,fun σ' H'=>∃ ρ' F',aI F1 F'/\Ab c ρ' σ' F' H'/\Rk c E F' H' (lJ fs fb (xs.drop (i+1)) ρ') (j4 c F D),fun σ' H' w=>⟨xs.length - (i+1),by omega,rfl,hlt,w⟩,fun v H3 y=>?_⟩
  obtain ⟨F3,e3,rv⟩:=yl.yld i F2 H2 v H3 xs[i] s2 ab2.fh rC y (AI hlt)
  have hdr:xs.drop i=xs[i]::xs.drop (i+1):=FY hlt
  rw[hdr] at k2
  unfold lJ at k2
  cases h1:fs xs[i] ρ2 with
  | none=>rw[h1] at k2;exact k2.elim
  | some ρ3=>
   rw[h1] at k2
   refine hg v xs[i] ρ2 ρ3 σ2 F3 H3 _ (ab2.ext e3) rv h1 fun σ3 _ _ ab3=>⟨ρ3,F3,ab3,?_⟩
   have k3:Rk c E F2 H2 (fb ρ3) _:=Rk.bind k2
   cases h2:fb ρ3 with
   | bad=>rw[h2] at k3;exact k3.elim
   | ex e=>rw[h2] at k3;exact k3
   | ok w=>
    rw[h2] at k3
    have k4:=Rk.ok k3
    have sF:aI F F3:=fun a o z=>e3.ff a o (s2 a o (s1.ff a o z))
    cases w with
    | nx ρ4=>exact fun σ' F' H' s' ab'=>⟨ρ4,F',fun a o z=>s' a o (e3.ff a o (s2 a o z)),ab',k4⟩
    | ct ρ4=>exact fun σ' F' H' s' ab'=>⟨ρ4,F',fun a o z=>s' a o (e3.ff a o (s2 a o z)),ab',k4⟩
    | bk ρ4=>exact fun σ' F' H' s' ab'=>Rk.ok k4 σ' F' H' (fun a o z=>s' a o (sF a o z)) ab'
    | rt a=>exact fun v F' H' z r=>Rk.ok k4 v F' H' z r
 ·have e:i=xs.length:=by omega
  subst e
  rw[List.drop_length] at k2
  exact .inl ⟨yl.stop F2 H2 s2 ab2.fh rC,Rk.ok k2 σ2 F2 H2 (fun a o z=>s2 a o (s1.ff a o z)) ab2⟩
end
noncomputable def c9(t:Sg->R Bool)(b:Sg->R Fw):Nat->Sg->R Fw
 | 0,_=>.bad
 | n+1,ρ=>(t ρ).bind fun k=>if k=true then (b ρ).bind fun w=>match w with
   | .nx ρ'=>c9 t b n ρ'
   | .ct ρ'=>c9 t b n ρ'
   | .bk ρ'=>.ok (.nx ρ')
   | .rt a=>.ok (.rt a)
  else .ok (.nx ρ)
open Classical in
noncomputable def bM(t:Sg->R Bool)(b:Sg->R Fw):Sg->R Fw:=fun ρ=>if h:∃ n,c9 t b n ρ≠.bad then c9 t b h.choose ρ else .bad
theorem R.bind_mono{α β:Type}{r:R α}{f g:α->R β}(h:r.bind f≠.bad)(hfg:∀ a,f a≠.bad->g a=f a):r.bind g=r.bind f:=by
 cases r with
 | bad=>rfl
 | ex e=>rfl
 | ok a=>exact hfg a h
theorem lS{t:Sg->R Bool}{b:Sg->R Fw}:∀ {n m:Nat} {ρ:Sg},n<=m->c9 t b n ρ≠.bad->c9 t b m ρ=c9 t b n ρ
 | 0,_,_,_,h=>absurd rfl h
 | n+1,0,_,hm,_=>absurd hm (by omega)
 | n+1,m+1,ρ,hm,h=>by
  unfold c9 at h ⊢
  refine R.bind_mono h fun k hk=>?_
  cases k with
  | false=>rfl
  | true=>
   refine R.bind_mono (r:=b ρ) hk fun w hw=>?_
   cases w with
   | nx ρ'=>exact lS (by omega) hw
   | ct ρ'=>exact lS (by omega) hw
   | bk ρ'=>rfl
   | rt a=>rfl
theorem rE{t:Sg->R Bool}{b:Sg->R Fw}{ρ:Sg}{n:Nat}(h:c9 t b n ρ≠.bad):bM t b ρ=c9 t b n ρ:=by
 have hx:∃ n,c9 t b n ρ≠.bad:=⟨n,h⟩
 unfold bM
 rw[dif_pos hx]
 have hc:=hx.choose_spec
 rcases Nat.le_total n hx.choose with q|q
 · exact lS q h
 · exact (lS q hc).symm
theorem rF (t : Sg -> R Bool) (b : Sg -> R Fw) (ρ : Sg) : bM t b ρ = (t ρ).bind fun k => if k = true then (b ρ).bind fun w => match w with
      | .nx ρ' => bM t b ρ'
      | .ct ρ' => bM t b ρ'
      | .bk ρ' => .ok (.nx ρ')
      | .rt a => .ok (.rt a)
    else .ok (.nx ρ) := by
  have key : ∀ n, (∀ k, t ρ = .ok k -> k = true -> ∀ w, b ρ = .ok w -> ∀ ρ', (w = .nx ρ' \/ w = .ct ρ') -> bM t b ρ' = c9 t b n ρ') -> c9 t b (n + 1) ρ = (t ρ).bind fun k => if k = true then (b ρ).bind fun w => match w with
      | .nx ρ' => bM t b ρ'
      | .ct ρ' => bM t b ρ'
      | .bk ρ' => .ok (.nx ρ')
      | .rt a => .ok (.rt a)
    else .ok (.nx ρ) := by
    intro n h
    unfold c9
    cases ht : t ρ with
    | bad => rfl
    | ex e => rfl
    | ok k =>
      cases k with
      | false => rfl
      | true =>
        show ((b ρ).bind _) = ((b ρ).bind _)
        cases hb : b ρ with
        | bad => rfl
        | ex e => rfl
        | ok w =>
          cases w with
          | nx ρ' => exact (h true ht rfl _ hb ρ' (.inl rfl)).symm
          | ct ρ' => exact (h true ht rfl _ hb ρ' (.inr rfl)).symm
          | bk ρ' => rfl
          | rt a => rfl
  by_cases hx : ∃ n, c9 t b n ρ ≠ .bad
  · obtain ⟨n, hn⟩ := hx
    cases n with
    | zero => exact absurd rfl hn
    | succ n =>
      rw [rE hn]
      refine key n fun k ht hk w hb ρ' hw => ?_
      subst hk
      refine rE fun z => hn ?_
      unfold c9
      rw [ht]
      show ((b ρ).bind _) = _
      rw [hb]
      rcases hw with rfl | rfl
      · exact z
      · exact z
  · have h0 : bM t b ρ = .bad := by unfold bM; rw [dif_neg hx]
    rw [h0]
    have hall : ∀ n, c9 t b n ρ = .bad := fun n => FZ fun z => hx ⟨n, z⟩
    cases ht : t ρ with
    | bad => rfl
    | ex e => have := hall 1; unfold c9 at this; rw [ht] at this; cases this
    | ok k =>
      cases k with
      | false => have := hall 1; unfold c9 at this; rw [ht] at this; cases this
      | true =>
        show R.bad = ((b ρ).bind _)
        cases hb : b ρ with
        | bad => rfl
        | ex e => have := hall 1; unfold c9 at this; rw [ht] at this; change ((b ρ).bind _) = _ at this; rw [hb] at this; cases this
        | ok w =>
          have nxt : ∀ ρ', (w = .nx ρ' \/ w = .ct ρ') -> bM t b ρ' = .bad := fun ρ' hw => by
            unfold bM
            rw [dif_neg]
            rintro ⟨n, hn⟩
            refine hn ?_
            have := hall (n + 1)
            unfold c9 at this
            rw [ht] at this
            change ((b ρ).bind _) = _ at this
            rw [hb] at this
            rcases hw with rfl | rfl <;> exact this
          cases w with
          | nx ρ' => exact (nxt ρ' (.inl rfl)).symm
          | ct ρ' => exact (nxt ρ' (.inr rfl)).symm
          | bk ρ' => have := hall 1; unfold c9 at this; rw [ht] at this; change ((b ρ).bind _) = _ at this; rw [hb] at this; cases this
          | rt a => have := hall 1; unfold c9 at this; rw [ht] at this; change ((b ρ).bind _) = _ at this; rw [hb] at this; cases this
section
variable{X:Cx}{c:Ct}{E:XK}{st:Stmt}
theorem dI{t:Sg->R Bool}{fb:Sg->R Fw}(h:PS X st (aFR (tTf c E t) (tSf c E fb))):PSf X c E st (bM t fb):=PS.imp h fun D σ H zz0=>by
 obtain ⟨ρ,F,ab,k⟩:=zz0
 have hx:∃ n,c9 t fb n ρ≠.bad:=FZ fun z=>by
  have:bM t fb ρ=.bad:=by unfold bM;rw[dif_neg z]
  rw[this] at k
  exact k
 obtain ⟨n,hn⟩:=hx
 rw[rE hn] at k
 refine ⟨fun m σ H=>∃ ρ' F',aI F F'/\Ab c ρ' σ F' H/\Rk c E F' H (c9 t fb m ρ') (j4 c F D),⟨n,ρ,F,cK F,ab,k⟩,?_⟩
 rintro m σ1 H1 ⟨ρ1,F1,s1,ab1,k1⟩
 cases m with
 | zero=>exact k1.elim
 | succ m=>
  unfold c9 at k1
  refine ⟨ρ1,F1,ab1,(Rk.bind k1).imp fun b _ q F2 H2 e2=>?_⟩
  have ab2:=ab1.ext e2
  cases b with
  | false=>exact aEG (Rk.ok q σ1 F2 H2 (fun a o z=>e2.ff a o (s1 a o z)) ab2)
  | true=>
   refine aEH ⟨fun σ' H'=>∃ ρ' F',aI F F'/\Ab c ρ' σ' F' H'/\Rk c E F' H' (c9 t fb m ρ') (j4 c F D),fun σ' H' w=>⟨m,by omega,w⟩,ρ1,F2,ab2,?_⟩
   have q':Rk c E F1 H1 (fb ρ1) _:=Rk.bind (r:=fb ρ1) q
   cases h2:fb ρ1 with
   | bad=>rw[h2] at q';exact q'.elim
   | ex e=>rw[h2] at q';exact q'
   | ok w=>
    rw[h2] at q'
    have k4:=Rk.ok q'
    have sF:aI F F2:=fun a o z=>e2.ff a o (s1 a o z)
    cases w with
    | nx ρ4=>exact fun σ' F' H' s' ab'=>⟨ρ4,F',fun a o z=>s' a o (sF a o z),ab',k4⟩
    | ct ρ4=>exact fun σ' F' H' s' ab'=>⟨ρ4,F',fun a o z=>s' a o (sF a o z),ab',k4⟩
    | bk ρ4=>exact fun σ' F' H' s' ab'=>Rk.ok k4 σ' F' H' (fun a o z=>s' a o (sF a o z)) ab'
    | rt a=>exact fun v F' H' z r=>Rk.ok k4 v F' H' z r
end
def spG(K:Frag)(mg:Str->Option Value)(T F1:Hp)(n:Nat)(G:List PyData->R PyData):Sp:=fun vs H Q E=>∃ F ds,aI F1 F/\aI T F/\aI F H/\DatVs K F vs ds/\ds.length=n/\match G ds with
 | .bad=>False
 | .ok d=>∀ v F' H',Ext F H F' H'->DatV K F' v d->Q v H'
 | .ex e=>∀ a C F' H',Ext F H F' H'->kU K mg F' e a C->E (.ref C) (some a) H'
def Beh(P:Program)(w:World)(K:Frag)(mg:Str->Option Value)(base:Heap)(T:Hp)(f:Addr)(F1:Hp)(k n:Nat)(G:List PyData->R PyData):Prop:=
 ∃ fd ps,ps.length=n/\iT K fd ps []/\FnOk P w K mg base (CXe P w) k f fd ps (spG K mg T F1 n G)/\(PySem.W.keepIn K (.ref f)=true\/∃ oc od fd' sl,F1 f=some (FnO f ⟨oc,od,.func fd',sl⟩))
def gOf(P:Program)(w:World)(K:Frag)(mg:Str->Option Value)(base:Heap)(T:Hp):Gb:=⟨Beh P w K mg base T,T,w⟩
def spF(g:Gb)(K:Frag)(mg:Str->Option Value)(n:Nat)(G:List A->R A):Sp:=fun vs H Q E=>∃ F as,aI g.T F/\aI F H/\AFs g K mg F as vs/\as.length=n/\match G as with
 | .bad=>False
 | .ok a=>∀ v F' H',Ext F H F' H'->AF g K mg F' a v->Q v H'
 | .ex e=>∀ a C F' H',Ext F H F' H'->kU K mg F' e a C->E (.ref C) (some a) H'
def aX(P:Program)(w:World)(K:Frag)(mg:Str->Option Value)(base:Heap)(T:Hp)(k:Nat)(x:Str)(ps:List Str)(G:List A->R A):Prop:=Calls P w K mg base (CXe P w) k x ps (spF (gOf P w K mg base T) K mg ps.length G)
def bB(n:Nat)(G:List A->R A)(f:Sg->R (List A)):Sg->R A:=fun ρ=>(f ρ).bind fun as=>if as.length=n then G as else .bad
theorem cB{X:Cx}{c:Ct}{E:XK}{e:Expr}{n:Nat}{G:List A->R A}{g:Gb}{K:Frag}{mg:Str->Option Value}{f:Sg->R (List A)}(hG:g=c.g)(hK:K=c.K)(hM:mg=c.mg)(h:PE X e (sH (spF g K mg n G) [] E (tAv c E f))):PV X c E e (bB n G f):=PE.imp h fun σ H Q zz0=>by
 obtain ⟨ρ,F,ab,k⟩:=zz0
 subst hG hK hM
 refine ⟨ρ,F,ab,(Rk.bind k).imp fun as _ q vs F1 H1 s1 r1=>?_⟩
 by_cases hn:as.length=n
 ·rw[AG hn] at q
  refine ⟨F1,as,fun a o z=>s1.ff a o (ab.f0 a o (ab.t0 a o z)),s1.fh,by rw[C3];exact r1,hn,?_⟩
  cases hg:G as with
  | bad=>rw[hg] at q;exact q
  | ok a=>rw[hg] at q;exact fun v F' H' s r=>Rk.ok q v F' H' (s1.trans s) r
  | ex e=>rw[hg] at q;exact fun a C F' H' s r=>q a C F' H' ((ab.all.trans s1).trans s) r
 ·rw[AH hn] at q;exact q.elim
def fnF(n:Nat)(fb:Sg->R Fw):List A->R A:=fun as=>(fb (as.map some++List.replicate (n - as.length) none)).bind fun w=>match w with
 | .rt (.l _)=>.bad
 | .rt a=>.ok a
 | .nx _=>.ok (.d .none)
 | _=>.bad
theorem AFs.get{g:Gb}{K:Frag}{mg:Str->Option Value}{F:Hp}:∀ {as:List A} {vs:List V} {i:Nat} {a:A},AFs g K mg F as vs->as[i]? = some a->∃ v,vs[i]? = some v/\AF g K mg F a v
 | [],[],_,_,_,h=>by simp at h
 | a::as,v::vs,0,_,h,e=>by simp at e;subst e;exact ⟨v,rfl,h.1⟩
 | a::as,v::vs,i+1,_,h,e=>by
  obtain ⟨w,h1,h2⟩:=AFs.get (i:=i) h.2 (by simpa using e)
  exact ⟨w,by simpa using h1,h2⟩
theorem rG{α:Type}{as:List α}{n i:Nat}{a:α}(h:(as.map some++List.replicate n none)[i]? = some (some a)):as[i]? = some a:=by
 by_cases hi:i < as.length
 ·rw[BQ (by rw[AB];exact hi),AJ] at h
  cases e:as[i]? with
  | none=>rw[e] at h;cases h
  | some b=>rw[e] at h;cases h;rfl
 ·rw[B5 (by rw[AB];omega),EM] at h
  split at h
  · cases h
  · cases h
theorem aAR{g:Gb}{cells:List (Str×Addr)}{cls:Str->Option ClSt}{K:Frag}{mg:Str->Option Value}{w:World}{F H:Hp}{as:List A}{vs:List V}{n:Nat}(s0:aI g.T F)(s:aI F H)(h:AFs g K mg F as vs):Ab ⟨K,mg,w,F,H,g,cells,cls⟩ (as.map some++List.replicate (n - as.length) none) (vs.map some++List.replicate (n - vs.length) none) F H where
 len:=by rw[A5,A5,AB,AB,DJ,DJ,h.len]
 fh:=s
 slot:=fun i a e=>by
  obtain ⟨v,h1,h2⟩:=h.get (rG e)
  refine ⟨v,?_,AO.of h2⟩
  have hi:i < vs.length:=(AE.mp h1).1
  rw[BQ (by rw[AB];exact hi),AJ,h1];rfl
 apart:=fun i j a b _ e1 _ o _=>by
  obtain ⟨v,h1,h2⟩:=h.get (rG e1)
  rw[AF.notOwn h2] at o
  cases o
 f0:=cK F
 h0:=cK H
 n0:=fun a e n=>absurd e n
 t0:=s0
theorem sO{g:Gb}{cells:List (Str×Addr)}{cls:Str->Option ClSt}{K:Frag}{mg:Str->Option Value}{w:World}{n:Nat}{fb:Sg->R Fw}{vs:List V}{as:List A}{F H:Hp}{Q:VK}{E:XK}(h0:aI g.T F)(h1:aI F H)(h2:AFs g K mg F as vs)(h4:match fnF n fb as with
 | .bad=>False
 | .ok a=>∀ v F' H',Ext F H F' H'->AF g K mg F' a v->Q v H'
 | .ex e=>∀ a C F' H',Ext F H F' H'->kU K mg F' e a C->E (.ref C) (some a) H'):tSf ⟨K,mg,w,F,H,g,cells,cls⟩ E fb {nx:=fun _ H'=>Q .non H',rt:=Q} (vs.map some++List.replicate (n - vs.length) none) H:=by
 refine ⟨_,F,aAR h0 h1 h2,?_⟩
 unfold fnF at h4
 cases e:fb (as.map some++List.replicate (n - as.length) none) with
 | bad=>rw[e] at h4;exact h4
 | ex x=>rw[e] at h4;exact h4
 | ok w=>
  rw[e] at h4
  cases w with
  | nx ρ'=>exact fun σ' F' H' s ab=>h4 .non F' H' ab.all .non
  | rt a=>
   cases a with
   | l xs=>exact h4.elim
   | _=>exact h4
  | bk ρ'=>exact h4.elim
  | ct ρ'=>exact h4.elim
section
variable{P:Program}{w:World}{K:Frag}{mg:Str->Option Value}{base:Heap}{T:Hp}{x:Str}{st:Stmt}{N ps:List Str}{k:Nat}
theorem dH{fb:Sg->R Fw}(D:DefAt K mg x st ps)(S:FnScope N ps (aN st))
  (hbody:∀ (f:Addr) (cdv:Value) (A:Around) (outer:List Env) (s:Shared) (H F:Hp) (E:XK),Room k (A.deeper (envOfC x (aN st) s.heap.objs.size f cdv))->
   mB ((j1 (CXe P w) P w K mg base N x (aN st) f cdv A outer s H E).fly E) ⟨K,mg,w,F,H,gOf P w K mg base T,(envOfC x (aN st) s.heap.objs.size f cdv).cells,fun _=>none⟩ E (cQ st) fb):aX P w K mg base T (k+1) x ps (fnF N.length fb):=by
 refine D.okX S (fun vs H Q E h=>?_) (fun f cdv A outer s H vs Q E hr h=>?_)
 ·obtain ⟨F,as,_,_,h2,h3,_⟩:=h
  rw[h2.len,h3]
 ·obtain ⟨F,as,h0,h1,h2,h3,h4⟩:=h
  exact ⟨_,hbody f cdv A outer s H F E hr,sO h0 h1 h2 h4⟩
theorem aX.imp{G G':List A->R A}(C:aX P w K mg base T k x ps G)(h:∀ as,G' as≠.bad->G as=G' as):aX P w K mg base T k x ps G':=Calls.imp C fun vs H Q E=>by
 rintro ⟨F,as,h0,h1,h2,h3,h4⟩
 refine ⟨F,as,h0,h1,h2,h3,?_⟩
 cases e:G' as with
 | bad=>rw[e] at h4;exact h4.elim
 | ok a=>rw[h as (by rw[e];exact fun z=>nomatch z),e];rw[e] at h4;exact h4
 | ex x=>rw[h as (by rw[e];exact fun z=>nomatch z),e];rw[e] at h4;exact h4
end
def aO8(cn:Str)(fs:List Str)(f:Sg->R (List PyData)):Sg->R Fw:=fun ρ=>(f ρ).bind fun xs=>if xs.length=fs.length then .ex ⟨cn,fs.zip xs⟩ else .bad
def tPf(c:Ct)(E:XK)(f:Sg->R (Option Int)):TO:=fun σ H Q=>∃ ρ F,Ab c ρ σ F H/\Rk c E F H (f ρ) fun o=>∀ F' H',Ext F H F' H'->Q o H'
noncomputable def oNo:Sg->R (Option Int):=fun _=>.ok none
def oSo(f:Sg->R PyData):Sg->R (Option Int):=fun ρ=>(f ρ).bind fun x=>match x with
 | .int i=>.ok (some i)
 | _=>.bad
noncomputable def rH{α:Type}(xs:List α)(lo hi:Option Int):List α:=(xs.drop (HT.sIx xs.length 0 lo)).take (HT.sIx xs.length xs.length hi - HT.sIx xs.length 0 lo)
noncomputable def dSl:PyData->Option Int->Option Int->R PyData
 | .list xs,lo,hi=>.ok (.list (rH xs lo hi))
 | .tuple xs,lo,hi=>if ¬ (HT.sIx xs.length 0 lo=0/\HT.sIx xs.length xs.length hi=xs.length) then .ok (.tuple (rH xs lo hi)) else .bad
 | .str z,lo,hi=>if z.length<=16777216 then .ok (.str (Txt.slice z lo hi)) else .bad
 | _,_,_=>.bad
def eSl{α:Type}(g:PyData->Option Int->Option Int->R α)(f:Sg->R PyData)(lo hi:Sg->R (Option Int)):Sg->R α:=fun ρ=>(f ρ).bind fun x=>(lo ρ).bind fun l=>(hi ρ).bind fun h=>g x l h
theorem aAS{K:Frag}{F:Hp}{vs:List V}{xs:List PyData}(h:DatVs K F vs xs)(lo hi:Option Int):DatVs K F (qV vs lo hi) (rH xs lo hi):=by
 unfold qV rH
 rw[h.length]
 exact (h.drop _).take _
theorem PO.imp{X:Cx}{e:Option Expr}{t t':TO}(h:PO X e t)(i:∀ σ H Q,t' σ H Q->t σ H Q):PO X e t':=fun pins s σ H Q I q=>h pins s σ H Q I (i σ H Q q)
section
variable{X:Cx}{c:Ct}{E:XK}{e a b:Expr}{pos p2:Pos}{lo hi:Option Expr}
theorem aEY:PO X none (tPf c E oNo):=PO.imp aLB fun σ H Q ⟨ρ,F,ab,k⟩=>Rk.ok k F H (Ext.refl ab.fh)
theorem aEZ{f:Sg->R PyData}(h:PR X c E e f):PO X (some e) (tPf c E (oSo f)):=PO.imp (aLC h) fun σ H Q ⟨ρ,F,ab,k⟩=>⟨ρ,F,ab,(Rk.bind k).imp fun x _ q v F' H' s r=>by
 cases x with
 | int i=>exact ⟨i,aZ.int_of r,Rk.ok q F' H' s⟩
 | _=>exact q.elim⟩
def aO9(c:Ct){α:Type}(Rb:VR α)(g:PyData->Option Int->Option Int->R α):V->Option Int->Option Int->Hp->VK->Prop:=fun v lo hi H Q=>∃ F x d,aI F H/\aZ c.K F H v x/\g x lo hi=.ok d/\∀ w F' H',Ext F H F' H'->Rb d w H F' H'->Q w H'
theorem aRN(hK:X.K=c.K):SlR X (aO9 c (cX c) dSl):=by
 intro pins s σ H v x vl vu lo hi sl Q I rx hs pl pu h
 obtain ⟨F,d,w,sf,ra,eg,q⟩:=h
 unfold dSl at eg
 split at eg
 ·cases eg
  obtain ⟨p,vs,rfl,h1,h2⟩:=aZ.lst_of sf ra
  rw[<-hK] at h1
  exact aLG pins s σ H _ x vl vu lo hi sl Q I rx hs pl pu ⟨p,vs,rfl,h1,fun l hl=>q _ _ _ (Ext.new sf hl) (.lst (SqL.of aY) ((aAS h2 lo hi).same (aI.upd (bZ sf hl))))⟩
 ·rename_i xs _ _
  split at eg
  ·rename_i hw
   cases eg
   obtain ⟨p,vs,rfl,_,h1,h2⟩:=aZ.tup_of sf ra
   rw[<-hK] at h1
   exact aOQ pins s σ H _ x vl vu lo hi sl Q I rx hs pl pu ⟨p,vs,rfl,h1,by rw[h2.length];exact hw,fun l hl=>q _ _ _ (Ext.new sf hl) (.tup (SqT.of aY) ((aAS h2 lo hi).same (aI.upd (bZ sf hl))))⟩
  ·cases eg
 ·split at eg
  ·rename_i hz
   cases eg
   obtain rfl:=aZ.str_of ra
   exact aOX pins s σ H _ x vl vu lo hi sl Q I rx hs pl pu ⟨_,rfl,by rw[eH];exact hz,q _ F H (Ext.refl sf) (.str _)⟩
  ·cases eg
 ·cases eg
theorem aL1{α:Type}{Rb:VR α}{g:PyData->Option Int->Option Int->R α}(hp:∀ x l h e,g x l h≠.ex e)(kb:aEU Rb){f:Sg->R PyData}{fl fh:Sg->R (Option Int)}{σ:L2.St}{H:Hp}{Q:VK}(h:tV Rb c E (eSl g f fl fh) σ H Q) :
  tSl (aO9 c Rb g) (tV (bQ c) c E f) (tPf c E fl) (tPf c E fh) σ H Q:=by
 obtain ⟨ρ,F,ab,k⟩:=h
 refine ⟨ρ,F,ab,(Rk.bind k).imp fun x _ q v F1 H1 s1 r1=>⟨ρ,F1,ab.ext s1,((Rk.bind q).ext s1).imp fun l _ q F2 H2 s2=>⟨ρ,F2,ab.ext (s1.trans s2),((Rk.bind q).ext (s1.trans s2)).imp fun hh _ q F3 H3 s3=>?_⟩⟩⟩
 cases eg:g x l hh with
 | bad=>rw[eg] at q;exact q.elim
 | ex e=>exact absurd eg (hp x l hh e)
 | ok d=>
  rw[eg] at q
  have s13:=(s1.trans s2).trans s3
  exact ⟨F3,x,d,s3.fh,aZ.ext (s2.trans s3) r1,eg,fun w F' H' s r=>Rk.ok q w F' H' (s13.trans s) (kb _ _ _ _ _ _ s13.hh r)⟩
theorem aIR:∀ x l h e,dSl x l h≠.ex e:=by intro x l h e q;unfold dSl at q;split at q<;>(try split at q)<;>cases q
theorem uC{f:Sg->R PyData}{fl fh:Sg->R (Option Int)}(hK:X.K=c.K)(he:PR X c E e f)(hl:PO X lo (tPf c E fl))(hh:PO X hi (tPf c E fh)):PD X c E (.Subscript e (.Slice lo hi none p2) pos) (eSl dSl f fl fh):=
 PE.imp (aH7 (aRN hK) he hl hh) fun σ H Q h=>aL1 aIR (mO c) h
noncomputable def tyN:PyData->String
 | .none=>"NoneType"
 | .bool _=>"bool"
 | .int _=>"int"
 | .str _=>"str"
 | .list _=>"list"
 | .tuple _=>"tuple"
 | .dict _=>"dict"
noncomputable def j6(t T:String):Bool:=t == T || (T == "int" && t == "bool")
noncomputable def j7(T:String)(x:PyData):R PyData:=match x with
 | .dict _=>.bad
 | x=>.ok (.bool (j6 (tyN x) T))
structure Kit(K:Frag)(T:String):Prop where
 non:PySem.W.kitOne K (.type "NoneType") (.type T)=some (j6 "NoneType" T)
 bl:PySem.W.kitOne K (.type "bool") (.type T)=some (j6 "bool" T)
 int:PySem.W.kitOne K (.type "int") (.type T)=some (j6 "int" T)
 str:PySem.W.kitOne K (.type "str") (.type T)=some (j6 "str" T)
 lst:PySem.W.kitOne K (.type "list") (.type T)=some (j6 "list" T)
 tup:PySem.W.kitOne K (.type "tuple") (.type T)=some (j6 "tuple" T)
theorem sP(K:Frag):Kit K "str":=⟨rfl,rfl,rfl,rfl,rfl,rfl⟩
theorem aIS{X:Cx}:mL X (.builtin "isinstance") (fun xs H Q=>∃ a ys c cv b,xs=[.ref a,c]/\SqL X.K H a ys/\t8 c=some cv/\PySem.W.kitOne X.K (.type "list") cv=some b/\Q (.bl b) H):=by
 intro pins s σ H xs us Q I r h
 obtain ⟨a,ys,c,cv,b,rfl,ha,hc,e,q⟩:=h
 obtain ⟨u,v,rfl,ru,rv⟩:=aEB r
 obtain rfl:=wX hc rv
 cases (show u=Value.ref a from ru)
 obtain ⟨its,_,pl,_⟩:=I.list ha
 obtain ⟨o,h1,h2,_⟩:=pl.isList
 exact B4 FS I.kIn ⟨o,h1,h2⟩ e (fun z=>nomatch z) fun tk=>⟨.bl b,H,I.tok _,rfl,q⟩
def aIT(c:Ct)(T:String):List V->Hp->VK->Prop:=fun xs H Q=>∃ F x v d,xs=[v,.ty T]/\aI F H/\aZ c.K F H v x/\j7 T x=.ok d/\∀ w F' H',Ext F H F' H'->DatV c.K F' w d->Q w H'
theorem p7(hK:X.K=c.K){T:String}(k:Kit X.K T):mL X (.builtin "isinstance") (aIT c T):=by
 intro pins s σ H xs us Q I r h
 obtain ⟨F,x,v,d,rfl,sf,ra,eg,q⟩:=h
 cases x with
 | dict _=>cases eg
 | none=>
  cases eg
  obtain rfl:=aZ.non_of ra
  exact gS pins s σ H _ us Q I r ⟨_,_,_,_,_,rfl,.pl .non,rfl,k.non,q _ F H (Ext.refl sf) (.bl _)⟩
 | bool b=>
  cases eg
  obtain rfl:=aZ.bl_of ra
  exact gS pins s σ H _ us Q I r ⟨_,_,_,_,_,rfl,.pl (.bl b),rfl,k.bl,q _ F H (Ext.refl sf) (.bl _)⟩
 | int b=>
  cases eg
  obtain rfl:=aZ.int_of ra
  exact gS pins s σ H _ us Q I r ⟨_,_,_,_,_,rfl,.pl (.int b),rfl,k.int,q _ F H (Ext.refl sf) (.bl _)⟩
 | str b=>
  cases eg
  obtain rfl:=aZ.str_of ra
  exact gS pins s σ H _ us Q I r ⟨_,_,_,_,_,rfl,.pl (.str b),rfl,k.str,q _ F H (Ext.refl sf) (.bl _)⟩
 | tuple xs=>
  cases eg
  obtain ⟨p,vs,rfl,_,h1,h2⟩:=aZ.tup_of sf ra
  rw[<-hK] at h1
  exact z0 pins s σ H _ us Q I r ⟨p,vs,_,_,_,rfl,h1,rfl,k.tup,q _ F H (Ext.refl sf) (.bl _)⟩
 | list xs=>
  cases eg
  obtain ⟨p,vs,rfl,h1,h2⟩:=aZ.lst_of sf ra
  rw[<-hK] at h1
  exact aIS pins s σ H _ us Q I r ⟨p,vs,_,_,_,rfl,h1,rfl,k.lst,q _ F H (Ext.refl sf) (.bl _)⟩
theorem vS{T:String}{f:Sg->R PyData}(h:PE X e (tCB (aIT c T) (eN (tV (bQ c) c E f) (eN (tC (.ty T)) i3)))):PD X c E e (e1 (j7 T) f):=PE.imp h fun σ H Q zz0=>by
 obtain ⟨ρ,F,ab,k⟩:=zz0
 refine ⟨ρ,F,ab,(Rk.bind k).imp fun x _ q v F1 H1 s1 r1=>?_⟩
 show aIT c T [v,.ty T] H1 Q
 cases x with
 | dict _=>exact q.elim
 | none=>exact ⟨F1,_,v,_,rfl,s1.fh,r1,rfl,fun w F' H' s r=>Rk.ok q w F' H' (s1.trans s) r⟩
 | bool _=>exact ⟨F1,_,v,_,rfl,s1.fh,r1,rfl,fun w F' H' s r=>Rk.ok q w F' H' (s1.trans s) r⟩
 | int _=>exact ⟨F1,_,v,_,rfl,s1.fh,r1,rfl,fun w F' H' s r=>Rk.ok q w F' H' (s1.trans s) r⟩
 | str _=>exact ⟨F1,_,v,_,rfl,s1.fh,r1,rfl,fun w F' H' s r=>Rk.ok q w F' H' (s1.trans s) r⟩
 | list _=>exact ⟨F1,_,v,_,rfl,s1.fh,r1,rfl,fun w F' H' s r=>Rk.ok q w F' H' (s1.trans s) r⟩
 | tuple _=>exact ⟨F1,_,v,_,rfl,s1.fh,r1,rfl,fun w F' H' s r=>Rk.ok q w F' H' (s1.trans s) r⟩
noncomputable def p8:List PyData->Option (List Str)
 | []=>some []
 | .str s::t=>(p8 t).map (s :: ·)
 | _=>none
theorem oY{K:Frag}{F:Hp}:∀ {vs:List V} {xs:List PyData} {ys:List Str},DatVs K F vs xs->p8 xs=some ys->vs=ys.map V.str
 | _,_,ys,.nil,e=>by cases e;rfl
 | _,_,ys,.cons (d:=d) (ds:=t) h h2,e=>by
  cases d with
  | str b=>
   unfold p8 at e
   cases q:p8 t with
   | none=>rw[q] at e;cases e
   | some cs=>
    rw[q] at e
    cases e
    rw[oY h2 q,h.str_of];rfl
  | _=>cases e
noncomputable def aE0:PyData->PyData->R PyData
 | .str sep,.list xs=>match p8 xs with
  | some ys=>if (ys.map fun y=>y.length).sum+ys.length * sep.length<=16777216 then .ok (.str (Txt.join sep ys)) else .bad
  | none=>.bad
 | _,_=>.bad
theorem aL2{f g:Sg->R PyData}(hK:X.K=c.K)(h:PE X e (tBM X.K "str" (aKE X.K) (tV (bQ c) c E f) (eN (tV (bQ c) c E g) i3)))(hs:∀ ρ x,f ρ=.ok x->∃ z,x=.str z):PD X c E e (e2 aE0 f g):=PE.imp h fun σ H Q ⟨ρ,F,ab,k⟩=>by
 refine ⟨ρ,F,ab,(Rk.bind k).imp fun x ex q v F1 H1 s1 r1=>?_⟩
 obtain ⟨z,rfl⟩:=hs ρ x ex
 obtain rfl:=aZ.str_of r1
 refine ⟨rfl,ρ,F1,ab.ext s1,((Rk.bind q).ext s1).imp fun y _ q u F2 H2 s2 r2=>?_⟩
 cases y with
 | list xs=>
  have q':Rk c E F H (match p8 xs with
   | some ys=>if (ys.map fun y=>y.length).sum+ys.length * z.length<=16777216 then R.ok (PyData.str (Txt.join z ys)) else .bad
   | none=>.bad) (fun d=>∀ v F' H',Ext F H F' H'->cX c d v H F' H'->Q v H'):=q
  split at q'
  ·rename_i ys hy
   split at q'
   ·rename_i hz
    obtain ⟨p,vs,rfl,h1,h2⟩:=aZ.lst_of s2.fh r2
    rw[<-hK] at h1
    obtain rfl:=oY h2 hy
    exact ⟨z,p,ys,rfl,rfl,h1,hz,Rk.ok q' _ F2 H2 (s1.trans s2) (.str _)⟩
   ·exact q'.elim
  ·exact q'.elim
 | _=>exact q.elim
noncomputable def vT:PyData->PyData->R PyData
 | .str z,.str y=>match Builtin.Str.occurrences z y 0 z.length 1 with
  | i::_=>.ok (.int i)
  | []=>.bad
 | _,_=>.bad
theorem aIU{f g:Sg->R PyData}(h:PE X e (tBM X.K "str" aF7 (tV (bQ c) c E f) (eN (tV (bQ c) c E g) i3)))(hs:∀ ρ x,f ρ=.ok x->∃ z,x=.str z):PD X c E e (e2 vT f g):=PE.imp h fun σ H Q ⟨ρ,F,ab,k⟩=>by
 refine ⟨ρ,F,ab,(Rk.bind k).imp fun x ex q v F1 H1 s1 r1=>?_⟩
 obtain ⟨z,rfl⟩:=hs ρ x ex
 obtain rfl:=aZ.str_of r1
 refine ⟨rfl,ρ,F1,ab.ext s1,((Rk.bind q).ext s1).imp fun y _ q u F2 H2 s2 r2=>?_⟩
 cases y with
 | str y=>
  have q':Rk c E F H (match Builtin.Str.occurrences z y 0 z.length 1 with
   | i::_=>R.ok (PyData.int i)
   | []=>.bad) (fun d=>∀ v F' H',Ext F H F' H'->cX c d v H F' H'->Q v H'):=q
  split at q'
  ·rename_i i rest ho
   obtain rfl:=aZ.str_of r2
   exact ⟨z,y,i,rest,rfl,rfl,ho,Rk.ok q' _ F2 H2 (s1.trans s2) (.int _)⟩
  ·exact q'.elim
 | _=>exact q.elim
end
noncomputable def eK(kvs:List (PyData×PyData))(k:PyData):Option PyData:=(kvs.find? fun p=>decide (p.1=k)).map (·.2)
noncomputable def cI(kvs:List (PyData×PyData))(k:PyData):Bool:=(eK kvs k).isSome
noncomputable def putM(kvs:List (PyData×PyData))(k v:PyData):List (PyData×PyData):=if cI kvs k=true then kvs.map (fun p=>if p.1=k then (p.1,v) else p) else kvs++[(k,v)]
theorem xD{K:Frag}{F:Hp}{k:PyData}:∀ {es:List Ent} {kvs:List (PyData×PyData)},es.map (·.1)=kvs.map (·.1)->DatVs K F (es.map (·.2.2)) (kvs.map (·.2))->
  (atE es k=none/\eK kvs k=none)\/∃ v d,atE es k=some v/\eK kvs k=some d/\DatV K F v d
 | [],[],_,_=>.inl ⟨rfl,rfl⟩
 | [],_::_,h,_=>by cases h
 | _::_,[],h,_=>by cases h
 | e::es,p::kvs,h,r=>by
  rw[AW,AW] at h r
  injection h with h1 h2
  obtain ⟨v,t,e1,r1,r2⟩:=r.cons_of
  rw[E5] at e1
  obtain ⟨rfl,rfl⟩:=e1
  have ih:=xD (k:=k) h2 r2
  unfold atE eK at ih ⊢
  rw[C5,C5,h1]
  by_cases q:p.1=k
  · rw [AY q]; exact .inr ⟨_, _, rfl, rfl, r1⟩
  · rw [AZ q]; exact ih
theorem MapRel.get{K:Frag}{F:Hp}{es:List Ent}{kvs:List (PyData×PyData)}(m:MapRel K F es kvs)(k:PyData):(atE es k=none/\eK kvs k=none)\/∃ v d,atE es k=some v/\eK kvs k=some d/\DatV K F v d:=xD m.k1 m.vs
theorem MapRel.has{K:Frag}{F:Hp}{es:List Ent}{kvs:List (PyData×PyData)}(m:MapRel K F es kvs)(k:PyData):(atE es k).isSome=cI kvs k:=by
 unfold cI
 rcases m.get k with ⟨a,b⟩|⟨v,d,a,b,_⟩<;>rw[a,b]<;>rfl
theorem uD{kvs:List (PyData×PyData)}{k:PyData}:cI kvs k=true↔k∈kvs.map (·.1):=by
 unfold cI eK
 rw[ER]
 induction kvs with
 | nil=>simp
 | cons p t ih=>
  rw[C5]
  by_cases q:p.1=k
  ·rw[AY q];simp[q]
  ·rw[AZ q,ih,AW]
   exact ⟨fun z=>AN _ z,fun z=>(AS.mp z).resolve_left (fun w=>q w.symm)⟩
theorem aGT{kvs:List (PyData×PyData)}{k v:PyData}:(putM kvs k v).map (·.1)=if cI kvs k=true then kvs.map (·.1) else kvs.map (·.1)++[k]:=by
 unfold putM
 cases h:cI kvs k with
 | true=>
  rw[AG rfl,AG rfl,B1]
  refine BZ fun p _=>?_
  show (if p.1=k then (p.1,v) else p).1=p.1
  split<;>rfl
 | false=>rw[AH (by decide),AH (by decide),A7];rfl
theorem aC3{K:Frag}{F:Hp}{k d:PyData}{v:V}(r:DatV K F v d):∀ {es:List Ent} {kvs:List (PyData×PyData)},es.map (·.1)=kvs.map (·.1)->DatVs K F (es.map (·.2.1)) (kvs.map (·.1))->DatVs K F (es.map (·.2.2)) (kvs.map (·.2))->
  (es.map fun e=>if e.1=k then (e.1,e.2.1,v) else e).map (·.1)=(kvs.map fun p=>if p.1=k then (p.1,d) else p).map (·.1) /\
  DatVs K F ((es.map fun e=>if e.1=k then (e.1,e.2.1,v) else e).map (·.2.1)) ((kvs.map fun p=>if p.1=k then (p.1,d) else p).map (·.1)) /\
  DatVs K F ((es.map fun e=>if e.1=k then (e.1,e.2.1,v) else e).map (·.2.2)) ((kvs.map fun p=>if p.1=k then (p.1,d) else p).map (·.2))
 | [],[],_,_,_=>⟨rfl,.nil,.nil⟩
 | [],_::_,h,_,_=>by cases h
 | _::_,[],h,_,_=>by cases h
 | e::es,p::kvs,h,rk,rv=>by
  rw[AW,AW] at h rk rv
  injection h with h1 h2
  obtain ⟨_,_,e1,r1,r2⟩:=rk.cons_of
  rw[E5] at e1
  obtain ⟨rfl,rfl⟩:=e1
  obtain ⟨_,_,e1,q1,q2⟩:=rv.cons_of
  rw[E5] at e1
  obtain ⟨rfl,rfl⟩:=e1
  obtain ⟨a1,a2,a3⟩:=aC3 r h2 r2 q2
  simp only[AW]
  rw[h1,a1]
  by_cases q:p.1=k
  · rw [AG q, AG q]; exact ⟨rfl, .cons r1 a2, .cons r a3⟩
  · rw [AH q, AH q]; exact ⟨by rw [h1], .cons r1 a2, .cons q1 a3⟩
theorem MapRel.put{K:Frag}{F:Hp}{es:List Ent}{kvs:List (PyData×PyData)}{k d:PyData}{kv v:V}(m:MapRel K F es kvs)(rk:DatV K F kv k)(r:DatV K F v d):MapRel K F (nF es k kv v) (putM kvs k d):=by
 have hh:=m.has k
 have nd:((putM kvs k d).map (·.1)).Nodup:=by
  rw[aGT]
  cases h:cI kvs k with
  | true=>rw[AG rfl];exact m.nd
  | false=>
   rw[AH (by decide),CO]
   refine ⟨m.nd,by simp,fun a ha b hb z=>?_⟩
   rw[AQ] at hb
   subst hb z
   rw[uD.mpr ha] at h
   cases h
 unfold nF
 rw[hh]
 unfold putM at nd ⊢
 cases h:cI kvs k with
 | true=>
  rw[h,AG rfl] at nd
  rw[AG rfl,AG rfl]
  obtain ⟨a1,a2,a3⟩:=aC3 (k:=k) r m.k1 m.k2 m.vs
  exact ⟨a1,a2,a3,nd⟩
 | false=>
  rw[h,AH (by decide)] at nd
  rw[AH (by decide),AH (by decide)]
  refine ⟨by rw[A7,A7,m.k1];rfl,?_,?_,nd⟩
  ·rw[A7,A7];exact m.k2.append (.cons rk .nil)
  ·rw[A7,A7];exact m.vs.append (.cons r .nil)
theorem n6{K:Frag}{F:Hp}:∀ {es:List Ent} {kvs:List (PyData×PyData)},es.map (·.1)=kvs.map (·.1)->DatVs K F (es.map (·.2.1)) (kvs.map (·.1))->∀ e∈es,DatV K F e.2.1 e.1
 | [],_,_,_,e,he=>by cases he
 | _::_,[],h,_,_,_=>by cases h
 | e0::es,p::kvs,h,rk,e,he=>by
  rw[AW,AW] at h rk
  injection h with h1 h2
  obtain ⟨_,_,e1,r1,r2⟩:=rk.cons_of
  rw[E5] at e1
  obtain ⟨rfl,rfl⟩:=e1
  rcases AS.mp he with z|z
  · subst z; rw [h1]; exact r1
  · exact n6 h2 r2 e z
section
variable{X:Cx}{c:Ct}{E:XK}{e a b:Expr}{st:Stmt}{pos:Pos}
theorem zO{ρ:Sg}{σ:L2.St}{F H:Hp}{i:Nat}{kvs:List (PyData×PyData)}{k:PyData}{kv:V}(hK:X.K=c.K)(hW:X.w=c.w)(ab:Ab c ρ σ F H)(hi:ρ[i]? = some (some (.m kvs)))(hk:DatV c.K F kv k)(hs:cF k (kvs.map (·.1))=true) :
  ∃ p es,σ[i]? = some (some (.ref p))/\DicAt X H p es k kv/\MapRel c.K F es kvs:=by
 obtain ⟨v,hp,p,es,rfl,⟨ep,h2⟩,h3,h4,h5⟩:=ab.slot i _ hi
 refine ⟨p,es,hp,⟨⟨ep,by rw[hW];exact h2⟩,fun e he=>by rw[hK];exact (n6 h5.k1 h5.k2 e he).same ab.fh,by rw[h5.k1];exact h5.nd,by rw[hK];exact hk.same ab.fh,by rw[h5.k1];exact hs⟩,h5⟩
theorem aGU{ρ:Sg}{σ:L2.St}{F H:Hp}{i:Nat}{kvs:List (PyData×PyData)}{k:PyData}{kv:V}(hK:X.K=c.K)(hW:X.w=c.g.w)(ab:Ab c ρ σ F H)(hi:ρ[i]? = some (some (.f kvs)))(hk:DatV c.K F kv k)(hs:cF k (kvs.map (·.1))=true) :
  ∃ p es,σ[i]? = some (some (.ref p))/\DicAt X H p es k kv/\MapRel c.K F es kvs:=by
 obtain ⟨v,hp,p,es,rfl,⟨ep,h2⟩,h5⟩:=ab.slot i _ hi
 refine ⟨p,es,hp,⟨⟨ep,by rw[hW];exact ab.fh _ _ h2⟩,fun e he=>by rw[hK];exact (n6 h5.k1 h5.k2 e he).same ab.fh,by rw[h5.k1];exact h5.nd,by rw[hK];exact hk.same ab.fh,by rw[h5.k1];exact hs⟩,h5⟩
def aKJ(w:World):TE:=fun _ H Q=>∀ p,H p=none->Q (.ref p) (upd H p (eP w p [] 0))
theorem o6:PE X (.Dict [] [] pos) (aKJ X.w):=fun pins s σ H Q I h=>
 wpAny_Dict_empty ⟨.ref s.heap.objs.size,_,I.laid (a:=s.heap.objs.size) (o:=eP X.w s.heap.objs.size [] 0) (t':=s.toks) (fun _ _ q=>AC _ q) (AK _)
  (kK (FC.mpr (BN (BL I.big))) ⟨_,#[],AX _ rfl,⟨rfl,rfl,rfl⟩,rfl,.nil⟩),rfl,h _ (I.hok.fresh (AK _))⟩
noncomputable def p9(i:Nat):Sg->R Fw:=fun ρ=>.ok (.nx (ρ.set i (some (.m []))))
theorem o7{i:Nat}{w:World}(hW:w=c.w)(h:PS X st (l9 (aKJ w) (kR i))):PSf X c E st (p9 i):=PS.imp h fun D σ H ⟨ρ,F,ab,k⟩=>fun p hp=>by
 subst hW
 exact Rk.ok k _ F _ (cK F) (ab.setM (Ext.own ab.fh hp) hp aY (bZ ab.fh hp) ⟨rfl,.nil,.nil,DC⟩)
noncomputable def oN(neg:Bool)(i:Nat)(f:Sg->R PyData):Sg->R PyData:=fun ρ=>(f ρ).bind fun k=>match ρ[i]? with
 | some (some (.m kvs))=>if cF k (kvs.map (·.1))=true then .ok (.bool (if neg=true then !cI kvs k else cI kvs k)) else .bad
 | some (some (.f kvs))=>if cF k (kvs.map (·.1))=true then .ok (.bool (if neg=true then !cI kvs k else cI kvs k)) else .bad
 | _=>.bad
def aE1(X:Cx)(neg:Bool):R2:=fun y x H Q=>∃ p es k,x=.ref p/\DicAt X H p es k y/\Q (.bl (if neg=true then !(atE es k).isSome else (atE es k).isSome)) H
theorem xE(hu:X.A.units+64 < cLine):OpR X (compareOp .In) (aE1 X false):=by
 intro pins s σ H y x v u Q I ry rx h
 obtain ⟨p,es,k,rfl,D,q⟩:=h
 cases (show u=Value.ref p from rx)
 exact aO3 hu D I ry fun s' I'=>⟨.bl _,H,I',rfl,q⟩
theorem uE(hu:X.A.units+64 < cLine):OpR X (compareOp .NotIn) (aE1 X true):=by
 intro pins s σ H y x v u Q I ry rx h
 obtain ⟨p,es,k,rfl,D,q⟩:=h
 cases (show u=Value.ref p from rx)
 exact aLX hu D I ry fun s' I'=>⟨.bl _,H,I',rfl,q⟩
theorem aIV{i:Nat}{neg:Bool}{f:Sg->R PyData}(hK:X.K=c.K)(hW:X.w=c.w)(hg:c.w=c.g.w){σ:L2.St}{H:Hp}{Q:VK}(h:tV (cX c) c E (oN neg i f) σ H Q):tOp (aE1 X neg) (tV (cX c) c E f) (jS i) σ H Q:=by
 obtain ⟨ρ,F,ab,k⟩:=h
 refine ⟨ρ,F,ab,(Rk.bind k).imp fun d _ q v F1 H1 s1 r1=>?_⟩
 split at q
 ·rename_i kvs hi
  split at q
  ·rename_i hs
   obtain ⟨p,es,hp,D,m⟩:=zO hK hW (ab.ext s1) hi r1 hs
   refine ⟨_,hp,p,es,d,rfl,D,?_⟩
   rw[m.has]
   exact Rk.ok q _ F1 H1 s1 (.bl _)
  ·exact q.elim
 ·rename_i kvs hi
  split at q
  ·rename_i hs
   obtain ⟨p,es,hp,D,m⟩:=aGU hK (hW.trans hg) (ab.ext s1) hi r1 hs
   refine ⟨_,hp,p,es,d,rfl,D,?_⟩
   rw[m.has]
   exact Rk.ok q _ F1 H1 s1 (.bl _)
  ·exact q.elim
 ·exact q.elim
theorem o8{i:Nat}{neg:Bool}{f:Sg->R PyData}(hK:X.K=c.K)(hW:X.w=c.w)(h:PT X e (aKA (tOp (aE1 X neg) (tV (cX c) c E f) (jS i))))(hg:c.w=c.g.w:=by rfl):PTf X c E e (e1 asB (oN neg i f)):=PT.imp h fun σ H Q q=>aIV hK hW hg (w8 q)
noncomputable def n8(i:Nat)(f:Sg->R PyData):Sg->R PyData:=fun ρ=>match ρ[i]? with
 | some (some (.m kvs))=>(f ρ).bind fun k=>if cF k (kvs.map (·.1))=true then match eK kvs k with
  | some v=>.ok v
  | none=>.bad else .bad
 | some (some (.f kvs))=>(f ρ).bind fun k=>if cF k (kvs.map (·.1))=true then match eK kvs k with
  | some v=>.ok v
  | none=>.bad else .bad
 | _=>.bad
def aKK(X:Cx)(td ty:TE):TE:=fun σ H Q=>td σ H fun x H1=>ty σ H1 fun y H2=>∃ p es k v,x=.ref p/\DicAt X H2 p es k y/\atE es k=some v/\Q v H2
theorem sQ{o i:Expr}{td ty:TE}(hu:X.A.units+64 < cLine)(ho:PE X o td)(hi:PE X i ty)(hs:aOZ i):PE X (.Subscript o i pos) (aKK X td ty):=by
 intro pins s σ H Q I h
 refine aLM PySem.F.slot_dict_getitem.lookup hs (thn (ho pins s σ H _ I h) fun u s1 ⟨x,H1,I1,rx,q1⟩=>thn (hi pins s1 σ H1 _ I1 q1) fun iv s2 zz0=>?_)
 obtain ⟨y,H2,I2,ry,p,es,k,v,ex,D,hv,q2⟩:=zz0
 subst ex
 obtain rfl:u=Value.ref p:=rx
 obtain ⟨ep,hO⟩:=D.o
 obtain ⟨⟨_,o',ar,h1,h2,_⟩,_,_⟩:=(show cO X.prog X.w H2 s2.heap p (eP X.w p es ep) from I2.hok p _ hO)
 exact ⟨⟨o',h1,h2.1⟩,aLY hu D I2 ry hv fun w' s3 I3 rw'=>⟨v,H2,I3,rw',q2⟩⟩
theorem sR{i:Nat}{f:Sg->R PyData}(hK:X.K=c.K)(hW:X.w=c.w)(h:PE X e (aKK X (jS i) (tV (cX c) c E f)))(hg:c.w=c.g.w:=by rfl):PD X c E e (n8 i f):=PE.imp h fun σ H Q ⟨ρ,F,ab,k⟩=>by
 unfold n8 at k
 split at k
 ·rename_i kvs hi
  obtain ⟨_,hp,p,es,rfl,_⟩:=ab.slot i _ hi
  refine ⟨_,hp,ρ,F,ab,(Rk.bind k).imp fun d _ q v F1 H1 s1 r1=>?_⟩
  split at q
  ·rename_i hs
   obtain ⟨p',es',hp',D,m⟩:=zO hK hW (ab.ext s1) hi r1 hs
   rw[hp] at hp'
   cases hp'
   split at q
   ·rename_i w hw
    rcases m.get d with ⟨_,z⟩|⟨v',d',h1,h2,h3⟩
    ·rw[hw] at z;cases z
    ·rw[hw] at h2
     cases h2
     exact ⟨p,es',d,v',rfl,D,h1,Rk.ok q v' F1 H1 s1 h3⟩
   ·exact q.elim
  ·exact q.elim
 ·rename_i kvs hi
  obtain ⟨_,hp,p,es,rfl,_⟩:=ab.slot i _ hi
  refine ⟨_,hp,ρ,F,ab,(Rk.bind k).imp fun d _ q v F1 H1 s1 r1=>?_⟩
  split at q
  ·rename_i hs
   obtain ⟨p',es',hp',D,m⟩:=aGU hK (hW.trans hg) (ab.ext s1) hi r1 hs
   rw[hp] at hp'
   cases hp'
   split at q
   ·rename_i w hw
    rcases m.get d with ⟨_,z⟩|⟨v',d',h1,h2,h3⟩
    ·rw[hw] at z;cases z
    ·rw[hw] at h2
     cases h2
     exact ⟨p,es',d,v',rfl,D,h1,Rk.ok q v' F1 H1 s1 h3⟩
   ·exact q.elim
  ·exact q.elim
 ·exact k.elim
noncomputable def mP(i:Nat)(f g:Sg->R PyData):Sg->R Fw:=fun ρ=>(g ρ).bind fun v=>match ρ[i]? with
 | some (some (.m kvs))=>(f ρ).bind fun k=>if cF k (kvs.map (·.1))=true/\kvs.length<=16777216 then .ok (.nx (ρ.set i (some (.m (putM kvs k v))))) else .bad
 | _=>.bad
def aKL(X:Cx):aD6:=fun o i v H Q=>∃ p es k,o=.ref p/\DicAt X H p es k i/\es.length<=sizeLine/\∀ ep,Q (upd H p (eP X.w p (nF es k i v) ep))
theorem lK(hu:X.A.units+64 < cLine):aOB X (aKL X):=by
 intro pins s σ H o i v ov iv u Q I ro ri rv h
 obtain ⟨p,es,k,rfl,D,hz,q⟩:=h
 cases (show ov=Value.ref p from ro)
 exact aLZ hu D I ri rv hz fun ep s' I'=>⟨_,I',q ep⟩
theorem m3{i:Nat}{f g:Sg->R PyData}(hK:X.K=c.K)(hW:X.w=c.w)(h:PS X st (l9 (tV (cX c) c E g) (aOD (jS i) (tV (cX c) c E f) (aKL X)))):PSf X c E st (mP i f g):=PS.imp h fun D σ H ⟨ρ,F,ab,k⟩=>by
 refine ⟨ρ,F,ab,(Rk.bind k).imp fun x _ q v F1 H1 s1 r1=>?_⟩
 split at q
 ·rename_i kvs hi
  have ab1:=ab.ext s1
  obtain ⟨_,hp,p,es,rfl,_⟩:=ab1.slot i _ hi
  refine ⟨_,hp,ρ,F1,ab1,((Rk.bind q).ext s1).imp fun d _ q u F2 H2 s2 r2=>?_⟩
  have ab2:=ab1.ext s2
  split at q
  ·rename_i hs
   obtain ⟨p',es',hp',D',m⟩:=zO hK hW ab2 hi r2 hs.1
   rw[hp] at hp'
   cases hp'
   refine ⟨p,es',d,rfl,D',?_,?_⟩
   ·have:es'.length=kvs.length:=by have:=DM List.length m.k1;simpa using this
    rw[this,eH];exact hs.2
   ·intro ep
    rw[hW]
    exact Rk.ok q σ F2 _ (s1.trans s2).ff (ab2.putM hi hp (m.put r2 (DatV.same s2.ff r1)))
  ·exact q.elim
 ·exact q.elim
end
theorem aIW{K:Frag}{a:Addr}{vs:List V}{xs:List PyData}(m:Mc.wY K a vs)(h:∀ F,DatVs K F vs xs)(F:Hp):DatV K F (.ref a) (.tuple xs):=.tup (m.sq F) (h F)
section
variable{X:Cx}{c:Ct}{E:XK}{e a b:Expr}{st:Stmt}{pos p2:Pos}
def qA(fs:PyData->Sg->Option Sg)(f:Sg->R PyData):Sg->R Fw:=fun ρ=>(f ρ).bind fun x=>(aAQ (fs x ρ)).bind fun ρ'=>.ok (.nx ρ')
theorem nJ{g:TG}{fs:PyData->Sg->Option Sg}{is:List Nat}{f:Sg->R PyData}(hg:Tg c g fs is)(h:PS X st (l9 (tV (cX c) c E f) g)):PSf X c E st (qA fs f):=PS.imp h fun D σ H zz0=>by
 obtain ⟨ρ,F,ab,k⟩:=zz0
 refine ⟨ρ,F,ab,(Rk.bind k).imp fun x _ q v F1 H1 s1 r1=>?_⟩
 cases h1:fs x ρ with
 | none=>rw[h1] at q;exact q.elim
 | some ρ'=>
  rw[h1] at q
  exact hg v x ρ ρ' σ F1 H1 _ (ab.ext s1) r1 h1 fun σ' _ _ ab'=>Rk.ok q σ' F1 H1 s1.ff ab'
noncomputable def aPA:PyData->R PyData
 | .str z=>if z.length<=16777216 then .ok (.str ⟨z.cps.toList.reverse.toArray⟩) else .bad
 | _=>.bad
def aS6(f:Sg->R PyData)(g:Sg->R (Option Int)):Sg->R PyData:=fun ρ=>(f ρ).bind fun x=>(g ρ).bind fun o=>if o=some (-1) then aPA x else .bad
end
theorem aPB{P:Program}{w:World}{K:Frag}{mg:Str->Option Value}{base:Heap}{T:Hp}{x:Str}{st:Stmt}{N ps:List Str}{k:Nat}{f:Addr}{fd:FuncData}{fb:Sg->R Fw}(FL:Fun K x x st f fd)(S:FnScope N ps (aN st))
  (hbody:∀ (cdv:Value) (A:Around) (outer:List Env) (s:Shared) (H F:Hp) (E:XK),Room k (A.deeper (envOfC x (aN st) s.heap.objs.size f cdv))->
   mB ((j1 (CXe P w) P w K mg base N x (aN st) f cdv A outer s H E).fly E) ⟨K,mg,w,F,H,gOf P w K mg base T,(envOfC x (aN st) s.heap.objs.size f cdv).cells,fun _=>none⟩ E (cQ st) fb):FnOk P w K mg base (CXe P w) (k+1) f fd ps (spF (gOf P w K mg base T) K mg ps.length (fnF N.length fb)):=by
 refine FL.okX S (fun vs H Q E h=>?_) (fun cdv A outer s H vs Q E hr h=>?_)
 ·obtain ⟨F,as,_,_,h2,h3,_⟩:=h
  rw[h2.len,h3]
 ·obtain ⟨F,as,h0,h1,h2,h3,h4⟩:=h
  exact ⟨_,hbody cdv A outer s H F E hr,sO h0 h1 h2 h4⟩
def aE2(K:Frag)(T:Hp):Sp:=fun vs H Q _=>∃ (a:Addr) (ns:List Int),vs=[.ref a]/\ns.length<=63/\aI T H/\SqL K H a (ns.map V.int)/\∀ H',Q (.bl true) H'
theorem aAT{K:Frag}{H:Hp}:∀ (ns:List Int),DatVs K H (ns.map V.int) (ns.map PyData.int)
 | []=>.nil
 | n::t=>.cons (.int n) (aAT t)
theorem aPC{P:Program}{w:World}{K:Frag}{mg:Str->Option Value}{base:Heap}{T:Hp}{k:Nat}{f:Addr}{fd:FuncData}{x:Str}{G:List A->R A}(h:FnOk P w K mg base (CXe P w) k f fd [x] (spF (gOf P w K mg base T) K mg 1 G))
  (hl:∀ ns:List Int,ns.length<=63->G [.d (.list (ns.map .int))]=.ok (.d (.bool true))):FnOk P w K mg base (CXe P w) k f fd [x] (aE2 K T):=h.imp fun vs H Q E=>by
 rintro ⟨a,ns,rfl,hn,ht,hs,q⟩
 refine ⟨H,[.d (.list (ns.map .int))],ht,cK H,⟨.lst hs (aAT ns),trivial⟩,rfl,?_⟩
 rw[hl ns hn]
 intro v F' H' _ r
 obtain rfl:=DatV.bl_of r
 exact q H'
theorem aRO(P:Program)(w:World)(H:Hp)(s:Shared)(e:Value)(s':Shared)(h:CXe P w [] H s (fun _ _ _=>False) e s'):False:=by
 obtain ⟨_,_,_,_,_,_,_,_,_,_,_,q⟩:=h
 exact q
theorem aL3{l:PySem.W.OpenLaw}{k:Nat}{q:Program}{loose:List Str}{XP:(Str->Option Value)->Heap->Prop}{YP:World->Heap->Prop}{d:DefRec}{K:Params->Frag}{x:Str}{qs:List (Pos×Str)}{xs:List Str}
  (hxs:∀ x∈xs,∃ d∈recsOf q,d.name=x) (hNT:∀ w:World,PySem.W.noTabs (K w.params)=true)
  (hn:l.most=some 63) (hdf:d.params.defaults=[]) (hr:Room k callerA)
  (hY:∀ (w:World) (h:Heap),YP w h->(K w.params).In h)
  (F:∀ (w:World) (mg:Str->Option Value) (fa:Addr) (h:Heap),(K w.params).In h->h.Ns mainGlobals mg->mg d.name=some (.ref fa)->
   ∃ fd:FuncData,(∀ (s:Shared) (u:Value),BindsTo s fd ⟨[u],[]⟩ [(x,u)]) /\
    ∀ (base:Heap) (T:Hp),(K w.params).In base->base.Ns mainGlobals mg->aAG mg h base T qs xs->FnOk l.prog w (K w.params) mg base (CXe l.prog w) k fa fd [x] (aE2 (K w.params) T)) :
  PySem.W.WalkO q loose XP YP l.row.toRowW d [] (fun f vs=>PySem.call f vs):=
 walk_ofT (K:=K) (CX:=fun w=>CXe l.prog w) (qs:=qs) (xs:=xs) hxs hNT hn (by decide) hdf hr hY (fun w mg fa h h1 h2 h3=>by
  obtain ⟨fd,hb,hF⟩:=F w mg fa h h1 h2 h3
  exact ⟨fd,hb,fun base T h1 h2 h3=>⟨_,hF base T h1 h2 h3,fun H a ns hl hT hS=>⟨a,ns,rfl,hl,hT,hS,fun _=>rfl⟩⟩⟩) fun w H s e s' z=>aRO _ w H s e s' z
variable{X:Cx}{c:Ct}{E:XK}{e:Expr}
noncomputable def d2(G:Int->Int->Int):PyData->PyData->R PyData
 | .int i,.int j=>.ok (.int (G i j))
 | _,_=>.bad
noncomputable def d1(G:Int->Int):PyData->R PyData
 | .int i=>.ok (.int (G i))
 | _=>.bad
end Fl
namespace L2
open PySem PyProof.Rows
variable{X:Cx}
end L2
namespace Fl
open PySem L2 PyProof.Rows
variable{X:Cx}{c:Ct}{E:XK}{e:Expr}
variable{X:Cx}{c:Ct}{E:XK}{e:Expr}{st:Stmt}
end Fl
namespace L2
open PySem PyProof.Rows
theorem aC4(vs:List Value):∀ (n:Nat) (acc:List Value),(List.replicate n vs.toArray).foldl (· ++ ·) acc.toArray=(acc++(List.replicate n vs).flatten).toArray
 | 0,acc=>by simp
 | n+1,acc=>by
  rw[CT,CS,List.append_toArray,aC4 vs n,CT,DP,EQ]
end L2
namespace Fl
open PySem L2 PyProof.Rows
section
variable{X:Cx}{c:Ct}{E:XK}{e a b:Expr}{pos:Pos}
theorem aAU{vs:List V}{its:List Value}(h:bG vs its):∀ n:Nat,bG (List.replicate n vs).flatten (List.replicate n its).flatten
 | 0=>.nil
 | n+1=>by
  rw[CT,DP,CT,DP]
  exact h.append (aAU h n)
theorem yT{K:Frag}{F:Hp}{vs:List V}{xs:List PyData}(h:DatVs K F vs xs):∀ n:Nat,DatVs K F (List.replicate n vs).flatten (List.replicate n xs).flatten
 | 0=>.nil
 | n+1=>by
  rw[CT,DP,CT,DP]
  exact h.append (yT h n)
end
theorem aCL{H:Hp}{p:Addr}{a b:HO}:upd (upd H p a) p b=upd H p b:=by
 funext x
 by_cases q:x=p
 · subst q; rw [aY, aY]
 · rw [aM q, aM q, aM q]
section
variable{X:Cx}{pins:List (Addr×Obj)}{σ:L2.St}{H:Hp}{s:Shared}{a:Addr}{es:List Ent}{k:PyData}{kv v:V}{ku u:Value}{A:Around}{E:Value->Shared->Prop}
theorem aE3{A:Around}(hu:A.units+64 < cLine):(j2 X.prog X.w).room A:=by show A.units+9 < cLine;omega
theorem aL4{Q:Unit->Shared->Prop}(hu:A.units+64 < cLine)(D:DicAt X H a es k kv)(I:Inv X pins σ H s)(rk:bC kv ku)(rv:bC v u)(hz:es.length<=sizeLine)(h:∀ ep s',Inv X pins σ (upd H a (eP X.w a (nF es k kv v) ep)) s'->Q () s') :
  wpAny (model X.prog X.w) A (dictSet a ku u) Q E s:=by
 obtain ⟨hd,⟨b,xs,rfl,rfl,hx,hk,dd⟩|⟨kk,xs,rfl,rfl,hx,hk,dd⟩⟩:=D.cases I rk
 ·have hl:xs.length<=sizeLine:=by rw[<-Paired.length hx];exact hz
  refine wpAny_dictSet_heap (a:=b) (aE3 hu) hk dd (fun h' dd' hs=>?_) hl
  obtain ⟨q',ar,ep,hq,h2,h3,h4,_,h5⟩:=dd'
  obtain ⟨ep0,hO⟩:=D.o
  refine h ep _ (mV I (by rw[hO];exact True.intro) hs ⟨q',hq⟩ (kK hd ⟨q',ar,hq,h2,h3,?_⟩))
  rw[h4]
  exact pV (aEQ rv hx)
 ·have hl:xs.length<=sizeLine:=by rw[<-Paired.length hx];exact hz
  refine wpAny_dictSet_pairs hk dd (fun h' dd' hs=>?_) hl
  obtain ⟨q',ar,ep,hq,h2,h3,h4,h5,_⟩:=dd'
  obtain ⟨ep0,hO⟩:=D.o
  refine h ep _ (mV I (by rw[hO];exact True.intro) hs ⟨q',hq⟩ (kK hd ⟨q',ar,hq,h2,h3,?_⟩))
  exact pW (aER rv hx) h5 fun en hen=>h4 en (by simpa using hen)
end
abbrev TP:=L2.St->Hp->(List (V×V)->Hp->Prop)->Prop
def aPD(p:V×V)(u:Value×Value):Prop:=bC p.1 u.1/\bC p.2 u.2
def PPr(X:Cx)(keys:List (Option Expr))(vals:List Expr)(t:TP):Prop:=∀ (pos:Pos) (pins:List (Addr×Obj)) (s:Shared) (σ:L2.St) (H:Hp) (Q:List (V×V)->Hp->Prop),Inv X pins σ H s->t σ H Q->
 wpAny (model X.prog X.w) X.A (evalPairs (pairTrees keys vals X.env pos)) (fun vs s'=>∃ ps H',Inv X pins σ H' s'/\Paired aPD ps vs/\Q ps H') X.xe s
def aRP:TP:=fun _ H Q=>Q [] H
def aPE(tk tv:TE)(t:TP):TP:=fun σ H Q=>tk σ H fun x H1=>tv σ H1 fun y H2=>t σ H2 fun ps H3=>Q ((x,y)::ps) H3
section
variable{X:Cx}{c:Ct}{E:XK}{e a b:Expr}{st:Stmt}{pos:Pos}
theorem aPF:PPr X [] [] aRP:=fun pos pins s σ H Q I h=>evalPairs_nil ⟨[],H,I,.nil,h⟩
theorem aL5{k v:Expr}{ks:List (Option Expr)}{vs:List Expr}{tk tv:TE}{t:TP}(hk:PE X k tk)(hv:PE X v tv)(hr:PPr X ks vs t):PPr X (some k::ks) (v::vs) (aPE tk tv t):=by
 intro pos pins s σ H Q I h
 rw[pairTrees.eq_1]
 refine evalPairs_cons (thn (hk pins s σ H _ I h) fun ku s1 zz0=>?_)
 obtain ⟨x,H1,I1,r1,q1⟩:=zz0
 refine AA (thn (hv pins s1 σ H1 _ I1 q1) fun vu s2 zz0=>?_)
 obtain ⟨y,H2,I2,r2,q2⟩:=zz0
 refine AA (DL (AD ?_))
 exact thn (hr pos pins s2 σ H2 _ I2 q2) fun vs s3 ⟨ps,H3,I3,r3,q3⟩=>⟨(x,y)::ps,H3,I3,.cons ⟨r1,r2⟩ r3,q3⟩
noncomputable def iC:List (PyData×PyData)->List (PyData×PyData)->R (List (PyData×PyData))
 | acc,[]=>.ok acc
 | acc,(k,v)::t=>if cF k (acc.map (·.1))=true/\acc.length<=16777216 then iC (putM acc k v) t else .bad
def aIX(K:Frag)(F:Hp)(p:V×V)(d:PyData×PyData):Prop:=DatV K F p.1 d.1/\DatV K F p.2 d.2
theorem aGV{pins:List (Addr×Obj)}{σ:L2.St}{p:Addr}{F:Hp}(hu:X.A.units+64 < cLine)(kvs:List (PyData×PyData)):∀ (ps:List (V×V)) (vs:List (Value×Value)) (acc res:List (PyData×PyData)) (es:List Ent) (ep:Nat) (H:Hp) (s:Shared) (Q:Shared->Prop),
  Inv X pins σ H s->aI F H->F p=none->H p=some (eP X.w p es ep)->MapRel X.K F es acc->Paired (aIX X.K F) ps kvs->Paired aPD ps vs->iC acc kvs=.ok res->
  (∀ es' ep' s',Inv X pins σ (upd H p (eP X.w p es' ep')) s'->MapRel X.K F es' res->Q s')->wpAny (model X.prog X.w) X.A (storeAll p vs) (fun _ s=>Q s) X.xe s:=by
 induction kvs with
 | nil=>
  intro ps vs acc res es ep H s Q I sf hf hp m d r e q
  cases d
  cases r
  cases e
  have hs:storeAll p []=pure PUnit.unit:=by unfold storeAll;rw[FE]
  rw[hs]
  refine AD (q es ep s ?_ m)
  have:upd H p (eP X.w p es ep)=H:=by
   funext x
   by_cases z:x=p
   ·subst z;rw[aY,hp]
   ·rw[aM z]
  rw[this];exact I
 | cons kv t ih=>
  obtain ⟨k,v⟩:=kv
  intro ps vs acc res es ep H s Q I sf hf hp m d r e q
  cases d with
  | @cons x _ ps _ d ds=>
   cases r with
   | @cons _ u _ vs r rs=>
    unfold iC at e
    split at e
    ·rename_i hs
     have D:DicAt X H p es k x.1:=⟨⟨ep,hp⟩,fun e he=>(n6 m.k1 m.k2 e he).same sf,by rw[m.k1];exact m.nd,d.1.same sf,by rw[m.k1];exact hs.1⟩
     have hl:es.length<=sizeLine:=by
      have:es.length=acc.length:=by simpa using congrArg List.length m.k1
      rw[this,eH];exact hs.2
     have hst:storeAll p (u::vs)=(do dictSet p u.1 u.2;storeAll p vs):=by
      unfold storeAll
      rw[CP]
      simp
     rw[hst]
     refine AA (aL4 hu D I r.1 r.2 hl fun ep1 s' I'=>?_)
     have m':=m.put d.1 d.2
     have sf':aI F (upd H p (eP X.w p (nF es k x.1 x.2) ep1)):=fun a o z=>by rw[aM (bI z hf)];exact sf a o z
     refine ih ps vs _ res _ _ _ s' Q I' sf' hf aY m' ds rs e fun es' ep' s'' I'' m''=>?_
     rw[aCL] at I''
     exact q es' ep' s'' I'' m''
    ·cases e
def aKM(X:Cx)(tp:TP):TE:=fun σ H Q=>∀ p,H p=none->tp σ (upd H p (eP X.w p [] 0)) fun ps H2=>∃ (F:Hp) (kvs res:List (PyData×PyData)),aI F H2/\F p=none/\H2 p=some (eP X.w p [] 0)/\Paired (aIX X.K F) ps kvs/\iC [] kvs=.ok res /\
 ∀ es' ep',MapRel X.K F es' res->Q (.ref p) (upd H2 p (eP X.w p es' ep'))
theorem aC5{keys:List (Option Expr)}{vals:List Expr}{tp:TP}(hu:X.A.units+64 < cLine)(h:PPr X keys vals tp)(h1:(keys.all fun x=>x.isSome)=true:=by rfl)(h2:keys.length=vals.length:=by rfl)(h3:keys≠[]:=by exact fun z=>nomatch z)(h4:keys.length<=15:=by decide):PE X (.Dict keys vals pos) (aKM X tp):=by
 intro pins s σ H Q I q
 have I1:=I.laid (a:=s.heap.objs.size) (o:=eP X.w s.heap.objs.size [] 0) (t':=s.toks) (fun _ _ q=>AC {cls:=.type "dict",data:=.dict #[]} q) (AK _)
  (kK (FC.mpr (BN (BL I.big))) ⟨_,#[],AX _ rfl,⟨rfl,rfl,rfl⟩,rfl,.nil⟩)
 have q1:=q _ (I.hok.fresh (AK _))
 refine wpAny_Dict_any h1 h2 h3 h4 (thn (h pos pins _ σ _ _ I1 q1) fun vs s2 zz0=>?_)
 obtain ⟨ps,H2,I2,r,F,kvs,res,sf,hf,hp,d,e,z⟩:=zz0
 exact aGV hu kvs ps vs [] res [] 0 H2 s2 _ I2 sf hf hp ⟨rfl,.nil,.nil,DC⟩ d r e fun es' ep' s' I' m=>⟨.ref s.heap.objs.size,_,I',rfl,z es' ep' m⟩
def aPG(c:Ct)(E:XK)(f:Sg->R (List (PyData×PyData))):TP:=fun σ H Q=>∃ ρ F,Ab c ρ σ F H/\Rk c E F H (f ρ) fun kvs=>∀ ps F' H',Ext F H F' H'->Paired (aIX c.K F') ps kvs->Q ps H'
abbrev PPf(X:Cx)(c:Ct)(E:XK)(keys:List (Option Expr))(vals:List Expr)(f:Sg->R (List (PyData×PyData))):Prop:=PPr X keys vals (aPG c E f)
theorem PPr.imp{X:Cx}{ks:List (Option Expr)}{vs:List Expr}{t t':TP}(h:PPr X ks vs t)(i:∀ σ H Q,t' σ H Q->t σ H Q):PPr X ks vs t':=fun pos pins s σ H Q I q=>h pos pins s σ H Q I (i σ H Q q)
noncomputable def aAV:Sg->R (List (PyData×PyData)):=fun _=>.ok []
def vU(f g:Sg->R PyData)(r:Sg->R (List (PyData×PyData))):Sg->R (List (PyData×PyData)):=fun ρ=>(f ρ).bind fun x=>(g ρ).bind fun y=>(r ρ).bind fun t=>.ok ((x,y)::t)
theorem aC6:PPf X c E [] [] aAV:=PPr.imp aPF fun σ H Q ⟨ρ,F,ab,k⟩=>Rk.ok k [] F H (Ext.refl ab.fh) .nil
theorem aAW{k v:Expr}{ks:List (Option Expr)}{vs:List Expr}{f g:Sg->R PyData}{r:Sg->R (List (PyData×PyData))}(hk:PD X c E k f)(hv:PD X c E v g)(hr:PPf X c E ks vs r):PPf X c E (some k::ks) (v::vs) (vU f g r):=PPr.imp (aL5 hk hv hr) fun σ H Q zz0=>by
 obtain ⟨ρ,F,ab,k⟩:=zz0
 refine ⟨ρ,F,ab,(Rk.bind k).imp fun x _ q v F1 H1 s1 r1=>?_⟩
 refine ⟨ρ,F1,ab.ext s1,((Rk.bind q).ext s1).imp fun y _ q u F2 H2 s2 r2=>?_⟩
 refine ⟨ρ,F2,ab.ext (s1.trans s2),((Rk.bind q).ext (s1.trans s2)).imp fun t _ q ps F3 H3 s3 r3=>?_⟩
 exact Rk.ok q _ F3 H3 ((s1.trans s2).trans s3) (.cons ⟨DatV.same (s2.trans s3).ff r1,DatV.same s3.ff r2⟩ r3)
noncomputable def vW(i:Nat)(f:Sg->R (List (PyData×PyData))):Sg->R Fw:=fun ρ=>(f ρ).bind fun kvs=>(iC [] kvs).bind fun res=>.ok (.nx (ρ.set i (some (.m res))))
theorem yU:∀ (kvs acc:List (PyData×PyData)) (x:Er),iC acc kvs≠.ex x
 | [],acc,x,h=>by cases h
 | (k,v)::t,acc,x,h=>by
  unfold iC at h
  split at h
  · exact yU t _ x h
  · cases h
theorem aC7{i:Nat}{f:Sg->R (List (PyData×PyData))}(hK:X.K=c.K)(hW:X.w=c.w)(h:PS X st (l9 (aKM X (aPG c E f)) (kR i))):PSf X c E st (vW i f):=PS.imp h fun D σ H ⟨ρ,F,ab,k⟩=>fun p hp=>by
 have e1:=Ext.own (F:=F) (o:=eP X.w p [] 0) ab.fh hp
 refine ⟨ρ,F,ab.ext e1,((Rk.bind k).ext e1).imp fun kvs _ q ps F2 H2 s2 r2=>?_⟩
 have hf:F2 p=none:=s2.stay (bZ ab.fh hp) aY (fun _ z=>aAK z)
 have h2:H2 p=some (eP X.w p [] 0):=s2.hh _ _ aY
 cases e:iC [] kvs with
 | bad=>rw[e] at q;exact q.elim
 | ex x=>exact absurd e (yU _ _ _)
 | ok res=>
  rw[e] at q
  refine ⟨F2,kvs,res,s2.fh,hf,h2,by rw[hK];exact r2,e,fun es' ep' m=>?_⟩
  have e3:Ext F H F2 (upd H2 p (eP X.w p es' ep')):=by
   refine ⟨fun a o z=>?_,s2.ff,fun a o z=>?_,fun a z n=>?_⟩
   ·have ne:a≠p:=bI z hp
    rw[aM ne]
    exact s2.hh a o (by rw[aM ne];exact z)
   ·rw[aM (bI z hf)];exact s2.fh a o z
   ·have:=s2.nw a z n
    by_cases w:a=p
    · subst w; exact .inl hp
    · unfold nZ at this; rw [aM w] at this; exact this
  rw[hW] at e3 ⊢
  rw[hK] at m
  exact Rk.ok q _ F2 _ s2.ff (ab.setM e3 hp aY hf m)
end
end Fl
namespace L2
open PySem PySem.Spec PyProof.Rows
def aPH(X:Cx)(T:String)(r:V->List V->Hp->VK->Prop)(to:TE)(t:TA):TE:=fun σ H Q=>to σ H fun x H1=>(∀ (pins:List (Addr×Obj)) (s:Shared) (v:Value),Inv X pins σ H1 s->bC x v->s.TypeIs v T/\∀ a,v=.ref a->∃ ob,s.heap.get? a=some ob/\ob.dict=none)/\t σ H1 fun xs H2=>r x xs H2 Q
theorem aPI{X:Cx}{o e:Expr}{es:List Expr}{to:TE}{t:TA}{name:Str}{apos cpos:Pos}{T id:String}{r:V->List V->Hp->VK->Prop}(pa:PlainAttrs T)(slot:Slot T name id)(hty:typeOf (.builtin id)=pure (.type "method_descriptor"))(hm:MtR X id r)(ho:PE X o to)(ha:PA X (e::es) t)
  (hbase:attributeBase o name X.env (eval o X.env)=eval o X.env:=by rfl)
  (hfew:((backTo cpos (starEach (e::es) X.env)).all (fun x=>!x.1) && (backToKw cpos (keywordEach [] X.env)).all (fun x=>x.1.isSome)
   && decide ((e::es).length+([]:List Keyword).length+(if ([]:List Keyword).isEmpty then 0 else 1) < 30))=true:=by rfl)
  (hline:(apos.endLine == cpos.line)=true:=by rfl) (hs:starEach (e::es) X.env=(false,eval e X.env)::starEach es X.env:=by rfl) (hplain:(backTo cpos (starEach es X.env)).any (·.1)=false:=by rfl) :
  PE X (.Call (.Attribute o name apos) (e::es) [] cpos) (aPH X T r to t):=by
 intro pins s σ H Q I h
 refine ET hbase hfew hline rfl (thn (ho pins s σ H _ I h) fun v s1 zz0=>?_)
 obtain ⟨x,H1,I1,r1,ty,q1⟩:=zz0
 obtain ⟨h1,h2⟩:=ty pins s1 v I1 r1
 refine ⟨T,id,pa,slot,hty,h1,h2,?_⟩
 have hA:=ha cpos pins s1 σ H1 _ I1 q1
 rw[hs] at hA ⊢
 refine DZ (by show (false || (backTo cpos (starEach es X.env)).any (·.1))=false;rw[hplain]<;>rfl) (EZ ?_)
 exact thn hA fun us s2 ⟨vs,H2,I2,r2,q2⟩=>hm pins s2 σ H2 x vs v us Q I2 r1 r2 q2
end L2
namespace Fl
open PySem L2 PyProof.Rows
section
variable{X:Cx}{c:Ct}{E:XK}{e a b:Expr}{st:Stmt}{pos:Pos}
noncomputable def aPJ(i:Nat)(f g:Sg->R PyData):Sg->R PyData:=fun ρ=>match ρ[i]? with
 | some (some (.m kvs))=>(f ρ).bind fun k=>(g ρ).bind fun y=>if cF k (kvs.map (·.1))=true then .ok ((eK kvs k).getD y) else .bad
 | _=>.bad
end
end Fl
namespace L2
open PySem PySem.Spec PyProof.Rows
def xF(X:Cx)(σ0:St)(E:XK)(ev:Value)(s':Shared):Prop:=∃ e C od H',ev=.ref e/\Inv X [] σ0 H' s'/\FlyAt X H' s'.heap e C od false/\E (.ref C) (some e) H'
abbrev Cx.flyS(X:Cx)(σ0:St)(E:XK):Cx:=X.wish (xF X σ0 E)
section
variable{X:Cx}
theorem aRQ{E:XK}{σ:St}{pins:List (Addr×Obj)}{H:Hp}{s:Shared}{ev:Value}{s':Shared}(I:Inv (X.flyS σ E) pins σ H s)(h:CXe X.prog X.w X.stack H s E ev s'):xF X σ E ev s':=by
 obtain ⟨e,C,od,H',rfl,os,bare,un,hok,he,⟨vs,T,q1,q2,q3⟩,q⟩:=h
 have I0:Inv X pins σ H s:=I.unwish
 have I1:Inv X [] σ H s:=I0.pins_of fun p hp=>absurd hp (by simp)
 have I2:Inv X [] σ H' s':=I1.call' os un hok bare (fun b hb=>absurd hb (by simp))
 refine ⟨e,C,od,H',rfl,I2,⟨he,vs,T,q1,q2,fun t e1=>?_,fun z=>nomatch z⟩,q⟩
 obtain ⟨t1,t2⟩:=q3 t e1
 refine ⟨t1,BI I0.sz t2,fun p hp z=>?_⟩
 have:=AM (I0.pin p (C0 _ hp)).1
 rw[z] at this
 exact absurd (AT this t2) (BM _)
theorem aL6{CX:CXT}{k:Nat}{f:Addr}{fd:FuncData}{ps:List Str}{sp:Sp}{E:XK}{pins:List (Addr×Obj)}{σ:St}{H:Hp}{s:Shared}{Q:VK}{us:List Value}{vs:List V}{W:Value->Shared->Prop}(F:FnOk X.prog X.w X.K X.mg X.base CX k f fd ps sp)(hr:Room k X.A)(hb:iT X.K fd ps [])
  (hx:∀ e s',CX X.stack H s E e s'->W e s') (I:Inv X pins σ H s) (r:bG vs us) (h:sp (vs++[]) H Q E):wpAny (model X.prog X.w) X.A (call (.ref f) us) (EP X pins σ Q) W s:=by
 have r2:bG (vs++[]) (us++[]):=r.append .nil
 have hl:(us++[]).length=ps.length:=by rw[<-r2.length];exact F.len _ _ _ _ h
 refine FX (EI (F.run X.A X.stack s H ⟨us,[]⟩ (us++[]) (vs++[]) Q E hr I.env0 (hb s us I.kIn hl) r2 h) fun r s' hq=>?_)
 cases r with
 | error e=>exact hx e s' hq
 | ok fl=>
  cases fl with
  | ret u=>exact I.after hq
  | next=>exact False.elim hq
  | brk=>exact False.elim hq
  | cont=>exact False.elim hq
def PCl(X:Cx)(σ:St)(E:XK)(e:Expr)(t:TE):Prop:=∀ (pins:List (Addr×Obj)) (s:Shared) (H:Hp) (Q:VK),Inv (X.flyS σ E) pins σ H s->t σ H Q->wpAny (model X.prog X.w) X.A (eval e X.env) (EP (X.flyS σ E) pins σ Q) (xF X σ E) s
theorem aPK{k:Nat}{x:Str}{ps:List Str}{sp:Sp}{E:XK}{σ:St}{e:Expr}{es:List Expr}{t:TA}{p pos:Pos}(C:Calls X.prog X.w X.K X.mg X.base (CXe X.prog X.w) k x ps sp)(hr:Room k X.A)(hg:Gl X x)(ha:PA (X.flyS σ E) (e::es) t)(hdb:(x == ("__debug__":Str))=false:=by decide)
  (he:starEach (e::es) X.env=(false,eval e X.env)::starEach es X.env:=by rfl) (hpl:(backTo pos (starEach es X.env)).any (·.1)=false:=by rfl):PCl X σ E (.Call (.Name x p) (e::es) [] pos) (sH sp [] E t):=by
 obtain ⟨f,fd,F,b,m,kp⟩:=C
 intro pins s H Q I h
 refine CV (mU (X:=X.flyS σ E) I hg m ?_ hdb)
 refine DU (h₀:=X.base) I.ok.mod.kin kp (thn (ha pos pins s σ H _ I h) fun us s1 ⟨vs,H1,I1,r,q⟩=>⟨I1.kIn,?_⟩) he hpl
 exact aL6 (X:=X.flyS σ E) F hr b (fun e s' z=>aRQ I1 z) I1 r q
theorem aRR{i:Nat}{n x:Str}{Wc:Addr}{bmW:List Value}{body suite:List Stmt}{b0:Stmt}{np hpos pos:Pos}(hO:nW X)(hN:X.N.Nodup)(hi:X.N[i]? = some n)(hk:X.env.scope.names.lookup n=some .local)
  (hg:Gl X x) (hm:X.mg x=some (.ref Wc)) (hw:SX.ExcAny X.K Wc bmW) (hdb:(x == ("__debug__":Str))=false) {pins:List (Addr×Obj)} {s:Shared} {σ:St} {H:Hp} {D:iS} {E:XK} (I:Inv X pins σ H s)
  (hb:wpAny (model X.prog X.w) X.A (execs body X.env) (fun f s1=>SP X pins D f s1) (xF (X.pnw (X.pn++pins)) σ E) s)
  (hh:∀ (C e:Addr) (H':Hp),(∃ od,H' e=some (ExO e C od))->E (.ref C) (some e) H'->∃ bm,SX.ExcAny X.K C bm/\(Value.ref C::bm).contains (.ref Wc)=true /\
   ∃ ts,PSs (X.inH e) (b0::suite) ts/\ts {nx:=fun σ2 H2=>D.nx (σ2.set i none) H2,rt:=D.rt,bk:=fun σ2 H2=>D.bk (σ2.set i none) H2,ct:=fun σ2 H2=>D.ct (σ2.set i none) H2} (σ.set i (some (.ref e))) H') :
  wpAny (model X.prog X.w) X.A (exec (.Try body [.ExceptHandler (some (.Name x np)) (some n) (b0::suite) hpos] [] [] pos) X.env) (SP X pins D) X.xe s:=by
 refine wpAny_Try_except (BP hb (fun f s1 q'=>?_) fun ev s1 q=>?_)
 ·cases f with
  | next=>exact DT q'
  | brk=>exact q'
  | cont=>exact q'
  | ret u=>exact q'
 ·obtain ⟨e,C,od,H1,rfl,I2,f2,q⟩:=q
  have hO':nW (X.pnw (X.pn++pins)):=hO
  refine pQ (X:=X.pnw (X.pn++pins)) hO' I2 f2 fun s3 I3 f3=>oW (X:=X.pnw (X.pn++pins)) I3 f3 fun s4 I4 f4=>?_
  have I4':Inv X pins σ H1 s4:=I4.ofPn
  obtain ⟨bm,cA,hcon,ts,pts,qts⟩:=hh C e H1 ⟨od,f4.tr⟩ q
  refine wpAny_handleBy_cons (codeAny_handlers_test ?_) (by intro z;cases z)
  have IH:Inv (X.inH e) pins σ H1 s4:=I4'.inH e
  refine mU (X:=X.inH e) IH hg hm ?_ hdb
  obtain ⟨vs,hx⟩:=zY I4'.hok f4.tr
  refine SX.aCB I4'.kIn cA hw hx rfl ?_
  rw[hcon]
  refine codeAny_handlers_suite_as ?_
  refine oW (X:=X.pnw (X.pn++pins)) I4 f4 fun s5 I5 f5=>?_
  have I5':Inv X pins σ H1 s5:=I5.ofPn
  refine m9 (X:=X.inH e) (v:=.ref e) (I5'.inH e) hN hi (.inl hk) rfl (fun s6 I6=>?_) (.inr hk)
  refine BP (pts pins s6 _ H1 _ I6 qts) (fun f s7 q7=>?_) fun _ _ z=>z.elim
  show wpAny _ _ (do bindName X.env n .none;unbindBehindTheSuite X.env n hpos) _ _ s7
  cases f with
  | next=>
   obtain ⟨σ7,H7,I7,q7⟩:=q7
   exact nX (I7.ofH I.ok) hN hi hk fun s8 I8=>⟨_,_,I8,q7⟩
  | brk=>
   obtain ⟨σ7,H7,I7,q7⟩:=q7
   exact nX (I7.ofH I.ok) hN hi hk fun s8 I8=>⟨_,_,I8,q7⟩
  | cont=>
   obtain ⟨σ7,H7,I7,q7⟩:=q7
   exact nX (I7.ofH I.ok) hN hi hk fun s8 I8=>⟨_,_,I8,q7⟩
  | ret u=>
   obtain ⟨v,σ7,H7,I7,r7,q7⟩:=q7
   exact nX (I7.ofH I.ok) hN hi hk fun s8 I8=>⟨v,_,_,I8,r7,q7⟩
theorem aIY{e:Expr}{t:TE}{E:XK}{σ:St}{pos pos':Pos}{j:Nat}{y:Str}{pins:List (Addr×Obj)}{s:Shared}{H:Hp}{D:iS}(hc:PCl (X.pnw (X.pn++pins)) σ E e t)(hN:X.N.Nodup)(hj:X.N[j]? = some y)(hx:Loc X.env.scope y)(I:Inv X pins σ H s)(h:t σ H fun v H1=>D.nx (σ.set j (some v)) H1)(hs:swapsWith e (some (.Name y pos')) pos.line X.env=pure false:=by rfl)(hf:X.fn y=true\/X.env.scope.names.lookup y=some .local:=by first|exact .inl rfl|exact .inr rfl) :
  wpAny (model X.prog X.w) X.A (execs [.Assign [.Name y pos'] e pos] X.env) (fun f s1=>SP X pins D f s1) (xF (X.pnw (X.pn++pins)) σ E) s:=by
 have I1:=I.toPn
 have I1':Inv ((X.pnw (X.pn++pins)).flyS σ E) [] σ H s:=I1.wish _
 refine F6 (thn (Q:=fun f s1=>SP ((X.pnw (X.pn++pins)).flyS σ E) [] D f s1) (wpAny_Assign_Name (thn (hc [] s H _ I1' h) fun v s1 ⟨x,H1,I1,r1,q1⟩=>m9 (X:=(X.pnw (X.pn++pins)).flyS σ E) I1 hN hj hx r1 (fun s2 I2=>⟨_,H1,I2,q1⟩) hf) hs) fun f s1 q=>?_)
 have q':=SP.ofPn q
 cases f with
 | next=>exact DT q'
 | ret v=>exact q'
 | brk=>exact q'
 | cont=>exact q'
end
end L2
namespace Fl
open PySem L2 PyProof.Rows
theorem Ab.off'{c:Ct}{ρ:Sg}{σ:L2.St}{F H:Hp}(b:Ab c ρ σ F H)(i:Nat):Ab c (ρ.set i none) (σ.set i none) F H where
 len:=by rw[CQ,CQ];exact b.len
 fh:=b.fh
 slot:=fun j a h=>by
  rcases get_set h with ⟨e,q,hl⟩|⟨ne,q⟩
  ·cases q
  ·obtain ⟨v,h1,h2⟩:=b.slot j a q
   exact ⟨v,by rw[BK ne];exact h1,h2⟩
 apart:=fun j k a a' hne h1 h2 o1 o2=>by
  rcases get_set h1 with ⟨e,q,hl⟩|⟨ne,q⟩
  ·cases q
  ·rcases get_set h2 with ⟨e',q',hl'⟩|⟨ne',q'⟩
   ·cases q'
   ·rw[BK ne,BK ne']
    exact b.apart j k a a' hne q q' o1 o2
 f0:=b.f0
 h0:=b.h0
 n0:=b.n0
 t0:=b.t0
noncomputable def aE4(i:Nat):Fw->Fw
 | .nx ρ=>.nx (ρ.set i none)
 | .bk ρ=>.bk (ρ.set i none)
 | .ct ρ=>.ct (ρ.set i none)
 | .rt a=>.rt a
noncomputable def putO(j:Option Nat)(a:A)(ρ:Sg):Sg:=match j with
 | none=>ρ
 | some j=>ρ.set j (some a)
def aAX(i:Nat)(j:Option Nat)(n:Nat)(G:List A->R A)(f:Sg->R (List A))(cl:List Str)(fs:Sg->R Fw):Sg->R Fw:=fun ρ=>match f ρ with
 | .ok as=>if as.length=n then (match G as with
  | .bad=>.bad
  | .ok a=>.ok (.nx (putO j a ρ))
  | .ex e=>if cl.contains e.c=true then (fs (ρ.set i (some (.x e)))).bind fun w=>.ok (aE4 i w) else .bad) else .bad
 | _=>.bad
def m4(K:Frag)(mg:Str->Option Value)(Wc:Addr)(cl:List Str):Prop:=∀ nm∈cl,∃ C bm,mg nm=some (.ref C)/\SX.ExcAny K C bm/\(Value.ref C::bm).contains (.ref Wc)=true
section
variable{X:Cx}{c:Ct}{E:XK}
theorem try_read{i n:Nat}{j:Option Nat}{nx x:Str}{Wc:Addr}{bmW:List Value}{body suite:List Stmt}{b0:Stmt}{np hpos pos:Pos}{G:List A->R A}{f:Sg->R (List A)}{cl:List Str}{fs:Sg->R Fw}(hK:X.K=c.K)(hM:X.mg=c.mg)
  (hO:nW X) (hN:X.N.Nodup) (hi:X.N[i]? = some nx) (hk:X.env.scope.names.lookup nx=some .local) (hg:Gl X x) (hm:X.mg x=some (.ref Wc)) (hw:SX.ExcAny X.K Wc bmW) (hdb:(x == ("__debug__":Str))=false)
  (hcl:m4 X.K X.mg Wc cl)
  (hb:∀ (pins:List (Addr×Obj)) (s:Shared) (σ:L2.St) (H:Hp) (D:iS) (E':XK),Inv X pins σ H s->sH (spF c.g X.K X.mg n G) [] E' (tAv c E f) σ H (fun v H1=>D.nx (match j with|none=>σ|some j=>σ.set j (some v)) H1)->wpAny (model X.prog X.w) X.A (execs body X.env) (fun f s1=>SP X pins D f s1) (xF (X.pnw (X.pn++pins)) σ E') s)
  (hs:∀ e,mB (X.inH e) c E (b0::suite) fs):PSf X c E (.Try body [.ExceptHandler (some (.Name x np)) (some nx) (b0::suite) hpos] [] [] pos) (aAX i j n G f cl fs):=by
 intro pins s σ H D I h
 obtain ⟨ρ,F,ab,k⟩:=h
 unfold aAX at k
 cases hf:f ρ with
 | bad=>rw[hf] at k;exact k.elim
 | ex z=>rw[hf] at k;exact k.elim
 | ok as=>
  rw[hf] at k
  simp only at k
  by_cases hn:as.length=n
  ·rw[AG hn] at k
   let E':XK:=fun cv oa H'=>∃ C a e F',cv=.ref C/\oa=some a/\Ext F H F' H'/\kU c.K c.mg F' e a C/\G as=.ex e
   refine aRR (E:=E') hO hN hi hk hg hm hw hdb I (hb pins s σ H D E' I ?_) ?_
   ·refine ⟨ρ,F,ab,?_⟩
    rw[hf]
    intro vs F1 H1 s1 r1
    refine ⟨F1,as,fun a o z=>s1.ff a o (ab.f0 a o (ab.t0 a o z)),s1.fh,by rw[C3,hK,hM];exact r1,hn,?_⟩
    cases hG:G as with
    | bad=>rw[hG] at k;exact k
    | ok a=>
     rw[hG] at k
     intro v F' H' s' r'
     rw[hK,hM] at r'
     have ab':=(ab.ext (s1.trans s'))
     refine Rk.ok k _ F' H' (s1.trans s').ff ?_
     cases j with
     | none=>exact ab'
     | some j=>exact ab'.setA r'
    | ex e=>
     intro a C F' H' s' r'
     rw[hK,hM] at r'
     exact ⟨C,a,e,F',rfl,rfl,s1.trans s',r',hG⟩
   ·rintro C e H' ⟨od,_⟩ ⟨C',a,er,F',h1,h2,s',r',hG⟩
    cases h1
    cases h2
    rw[hG] at k
    simp only at k
    by_cases hc:cl.contains er.c=true
    ·rw[AG hc] at k
     obtain ⟨C2,bm,m2,ca,co⟩:=hcl er.c (by simpa using hc)
     obtain ⟨m1,_⟩:=id r'
     rw[hM,m1] at m2
     cases m2
     refine ⟨bm,ca,co,_,hs e,ρ.set i (some (.x er)),F',(ab.ext s').setA ⟨e,C,rfl,r'⟩,?_⟩
     have k':=(Rk.bind k).ext s'
     refine k'.imp fun w _ q=>?_
     cases w with
     | nx ρ2=>exact fun σ2 F2 H2 s2 ab2=>Rk.ok q _ F2 H2 (fun a o z=>s2 a o (s'.ff a o z)) (ab2.off' i)
     | bk ρ2=>exact fun σ2 F2 H2 s2 ab2=>Rk.ok q _ F2 H2 (fun a o z=>s2 a o (s'.ff a o z)) (ab2.off' i)
     | ct ρ2=>exact fun σ2 F2 H2 s2 ab2=>Rk.ok q _ F2 H2 (fun a o z=>s2 a o (s'.ff a o z)) (ab2.off' i)
     | rt a=>exact fun v F2 H2 s2 r2=>Rk.ok q v F2 H2 s2 r2
    ·rw[AH hc] at k;exact k.elim
  ·rw[AH hn] at k;exact k.elim
end
def Is1(K:Frag)(mg:Str->Option Value)(nm q:Str)(b:Bool):Prop:=∃ D C,mg q=some (.ref D)/\mg nm=some (.ref C)/\PySem.W.kitOne K (.ref C) (.ref D)=some b
def rJ(K:Frag)(mg:Str->Option Value)(nm:Str)(T:String)(b:Bool):Prop:=∃ C,mg nm=some (.ref C)/\PySem.W.kitOne K (.ref C) (.type T)=some b
section
variable{X:Cx}{c:Ct}{E:XK}{e:Expr}{P:Program}{w:World}{base:Heap}
end
theorem aL7:bootBuiltins "ValueError"=some (.type "ValueError"):=by rfl
end Fl
namespace L2
open PySem PySem.Spec PyProof.Rows
theorem cO.got{P:Program}{w:World}{H:Hp}{h:Heap}{a:Addr}{o:HO}(x:cO P w H h a o):∃ u,h.get? a=some u:=by
 cases o with
 | lst xs=>obtain ⟨_,_,_,_,e⟩:=x;exact ⟨_,e⟩
 | tup xs=>obtain ⟨_,_,_,⟨o,e,_⟩⟩:=x;exact ⟨_,e⟩
 | dK kvs=>obtain ⟨_,_,_,_,o,_,_,e,_⟩:=x;exact ⟨_,e⟩
 | dT kvs=>obtain ⟨_,_,_,_,o,_,_,e,_⟩:=x;exact ⟨_,e⟩
 | set S n=>obtain ⟨o,_,_,_,e,_⟩:=x;exact ⟨_,e⟩
 | ins C dx fs=>obtain ⟨_,_,_,e,_⟩:=x;exact ⟨_,e⟩
 | own y=>exact x
 | xd fs=>obtain ⟨_,⟨_,_,_,e,_⟩,_⟩:=x;exact ⟨_,e⟩
 | rng lo hi=>obtain ⟨_,_,_,e⟩:=x;exact ⟨_,e⟩
 | frz ob u=>exact ⟨_,x.1⟩
 | tbl ps=>obtain ⟨_,e,_⟩:=x;exact ⟨_,e⟩
 | cod q=>obtain ⟨c,o,vs,t,e,ho,_⟩:=x;cases e;exact ⟨_,ho⟩
 | met f y=>exact ⟨_,x⟩
 | ext φ=>exact x.2.1
theorem HOk.free{P:Program}{w:World}{H:Hp}{h:Heap}{a:Addr}(x:HOk P w H h)(e:h.get? a=none):H a=none:=by
 cases q:H a with
 | none=>rfl
 | some u=>
  obtain ⟨o,z⟩:=(x a u q).got
  rw[e] at z;cases z
theorem Inv.laidN{X:Cx}{pins:List (Addr×Obj)}{σ:St}{H:Hp}{s:Shared}{h':Heap}{a:Addr}{o:HO}{t':Nat}(I:Inv X pins σ H s)(k:∀ b u,s.heap.get? b=some u->h'.get? b=some u)(hp:s.heap.get? a=none)(new:cO X.prog X.w (upd H a o) h' a o) :
  Inv X pins σ (upd H a o) {s with heap:=h',toks:=t'}:=by
 have hn:H a=none:=I.hok.free hp
 refine I.un ⟨fun b u q _ _ _=>k b u q,fun b u q _ _ _=>⟨u.slots,k b u q⟩,fun b u q n _=>?_,fun b u q _=>⟨u,k b u q⟩,fun b xs q=>by rw[aM (bI q hn)];exact q,fun b u xs q=>by rw[aM (bI q hn)];exact q,fun b ps q=>by rw[aM (bI q hn)];exact q⟩ fun b u e=>?_
 ·rw[aM (fun z=>by rw[z,hp] at q;cases q)];exact n
 ·by_cases hb:b=a
  ·subst hb;rw[aY] at e;cases e;exact new
  ·rw[aM hb] at e
   exact (I.hok b u e).stay (fun c v _ q=>k c v q) (fun c q=>by rw[aM (bI q hn)];exact q) (fun c xs q=>by rw[aM (bI q hn)];exact q) fun c xs q=>by rw[aM (bI q hn)];exact q
structure ErrP(K:Frag)(mg:Str->Option Value)(x:Str)(W C:Addr):Prop where
 c:SX.ExcC K W C
 m:mg x=some (.ref C)
 lk:∃ nm q N bs sn sub ab col dd k0 k1 k2 k3 k5,K.lookup C=some (excClassObj nm q C N bs (.ref W::SX.jU) true sn sub ab col dd k0 k1 k2 k3 k5 "ValueError.__new__")/\PySem.W.nsOkIn K N=true/\PySem.W.nsIn K N "__init__"=some none
 lw:∃ c0 dd cd sl,K.lookup W=some ⟨c0,dd,.cls cd,sl⟩/\PySem.W.nsOkIn K cd.ns=true/\PySem.W.nsIn K cd.ns "__init__"=some none
def xG(C:Addr)(E:XK)(ta:TA):TS:=fun _ σ H=>ta σ H fun vs H1=>vs.length<=1000/\∀ e,H1 e=none->E (.ref C) (some e) (upd H1 e (ExO e C none))
theorem aKN{K:Frag}{h:Heap}{N:Addr}{n:Str}(X:K.In h)(a:PySem.W.nsOkIn K N=true)(b:PySem.W.nsIn K N n=some none):∃ m,h.Ns N m/\m n=none:=by
 have:=Heap.Ns.of_isNs (PySem.W.isNs_of_in X a)
 exact ⟨_,this,PySem.W.ns_none_of X this b⟩
section
variable{X:Cx}{E:XK}{W C:Addr}{x:Str}{np cpos pos:Pos}{e0:Expr}{rest:List Expr}{ta:TA}
theorem n9(hc:X.calm=true)(er:ErrP X.K X.mg x W C)(hg:Gl X x)(ha:PA (X.fly E) (e0::rest) ta)(hdb:(x == ("__debug__":Str))=false:=by decide)
  (he:starEach (e0::rest) X.env=(false,eval e0 X.env)::starEach rest X.env:=by rfl) (hpl:(backTo cpos (starEach rest X.env)).any (·.1)=false:=by rfl) :
  PS (X.fly E) (.Raise (some (.Call (.Name x np) (e0::rest) [] cpos)) none pos) (xG C E ta):=by
 intro pins s σ H D I h
 obtain ⟨nm,q,N,bs,sn,sub,ab,col,dd,k0,k1,k2,k3,k5,lk,nok,nno⟩:=er.lk
 obtain ⟨c0,dw,cd,sl,lw,wok,wno⟩:=er.lw
 have core:wpAny (model X.prog X.w) X.A (eval (.Call (.Name x np) (e0::rest) [] cpos) X.env) (fun v s1=>∃ e od vs,v=.ref e/\s1.heap.get? C=some (excClassObj nm q C N bs (.ref W::SX.jU) true sn sub ab col dd k0 k1 k2 k3 k5 "ValueError.__new__") /\
   s1.heap.get? e=some {cls:=.ref C,dict:=od,data:=.fields vs}/\vs[1]? = some .none/\Fly X E (.ref e) s1) (Fly X E) s:=by
  refine CV (mU (X:=X) I.unwish hg er.m ?_ hdb)
  refine DU (h₀:=X.base) I.ok.mod.kin er.c.kp (thn (ha cpos pins s σ H _ I h) fun us s1 ⟨vs,H1,I1',r,hz,q1⟩=>⟨I1'.kIn,?_⟩) he hpl
  have I1:Inv X pins σ H1 s1:=I1'.unwish
  obtain ⟨hp,g,d,tk,os⟩:=s1
  have hz':us.length<=sizeLine:=by rw[<-r.length,GO];omega
  have kin:X.K.In hp:=I1.kIn
  obtain ⟨mN,hN,hN0⟩:=aKN kin nok nno
  obtain ⟨mW,hW,hW0⟩:=aKN kin wok wno
  refine wpAny_call_exc_subT PySem.F.excBase_ValueError (.own (kin _ _ lw) hW hW0 .base) (kin _ _ lk) hN hN0 (fun h' e hm'=>?_) hz'
  obtain ⟨t,het,_,_⟩:=hm'.there
  have I2:Inv X pins σ (upd H1 e (ExO e C none)) ⟨h',g,d,tk,os⟩:=I1.laidN (t':=tk) hm'.keeps hm'.new (aF4 het)
  have q2:=q1 e (I1.hok.free hm'.new)
  have I5:Inv X [] σ (upd H1 e (ExO e C none)) ⟨h',g,d,tk,os⟩:=I2.pins_of fun p hp=>absurd hp (by simp)
  exact ⟨e,none,_,rfl,I2.kIn _ _ lk,het,rfl,e,C,none,σ,_,rfl,I5,⟨aY,_,none,het,rfl,(fun t z=>nomatch z),(fun z=>nomatch z)⟩,q2⟩
 show wpAny (model X.prog X.w) X.A (exec (.Raise (some (.Call (.Name x np) (e0::rest) [] cpos)) none pos) X.env) _ (Fly X E) s
 rw[arm_exec_Raise]
 first
  | refine AA (DL (SX.vG (SX.aH9 W) (I.ok.hd hc) (AA (BP core (fun v s1 h1=>AA (DL (AD h1))) fun _ _ z=>z))))
  | (simp only[evalOpt,Option.map];refine AA (DL (SX.vG (SX.aH9 W) (I.ok.hd hc) (AA (BP core (fun v s1 h1=>AA (DL (AD h1))) fun _ _ z=>z)))))
end
def few(i:Int):Prop:=i=40\/i=60\/i=200\/i=300
theorem aL8{i:Int}(h:few i):(Str.ofString (toString i)).length<=10/\i.natAbs.log2 < 1920:=by
 rcases h with rfl|rfl|rfl|rfl<;>decide +kernel
theorem jK(x y:Str):(x++y).length=x.length+y.length:=by
 show (x.cps++y.cps).size=x.cps.size+y.cps.size
 simp
def aPL(ta:TE):TE:=fun σ H Q=>ta σ H fun x H1=>∃ i:Int,x=.int i/\few i/\∀ z:Str,Q (.str z) H1
theorem aPM{X:Cx}{v:Expr}{ta:TE}{a b:Str}{k1 k2:Nat}{p1 p2 p3 pos:Pos}(hv:PE X v ta)(ha:a.length<=1000:=by decide)(hb:b.length<=1000:=by decide) :
  PE X (.JoinedStr [.Constant (.str a) k1 p1,.FormattedValue v (-1) none p2,.Constant (.str b) k2 p3] pos) (aPL ta):=by
 intro pins s σ H Q I h
 have hsz:sizeLine=16777216:=rfl
 have h0:(Str.empty).length=0:=rfl
 refine wpAny_JoinedStr (Joins_cons (thn (uY (X:=X) pins s σ H (fun y H1=>y=.str a/\H1=H) I ⟨rfl,rfl⟩) fun u s1 zz0=>?_))
 obtain ⟨y,H1,I1,r1,e1,e2⟩:=zz0
 subst e1 e2
 obtain ⟨t1,rfl⟩:=r1
 refine ⟨a,t1,rfl,by rw[jK,h0];omega,Joins_cons (wpAny_FormattedValue_plain (thn (hv pins s1 σ _ _ I1 h) fun u s2 zz0=>?_))⟩
 obtain ⟨y,H2,I2,r2,i,e,hf,q⟩:=zz0
 subst e
 obtain ⟨t2,rfl⟩:=r2
 obtain ⟨f1,f2⟩:=aL8 hf
 refine wpAny_formatField_int f2 ⟨_,_,rfl,by rw[jK,jK,h0];omega,Joins_cons (thn (uY (X:=X) pins _ σ H2 (fun y H1=>y=.str b/\H1=H2) (I2.tok _) ⟨rfl,rfl⟩) fun u s3 zz0=>?_)⟩
 obtain ⟨y,H3,I3,r3,e1,e2⟩:=zz0
 subst e1 e2
 obtain ⟨t3,rfl⟩:=r3
 refine ⟨b,t3,rfl,by rw[jK,jK,jK,h0];omega,Joins_nil ⟨by rw[jK,jK,jK,h0];omega,?_⟩⟩
 exact ⟨.str _,_,I3.tok _,⟨_,rfl⟩,q _⟩
end L2
namespace Fl
open PySem L2 PyProof.Rows
instance (i:Int):Decidable (few i):=by unfold few;infer_instance
def xH(cn:Str)(f:Sg->R (List PyData)):Sg->R Fw:=fun ρ=>(f ρ).bind fun xs=>if xs.length<=1000 then .ex ⟨cn,[]⟩ else .bad
def xI(cn:Str)(g:Sg->R PyData):Sg->R Fw:=fun ρ=>(g ρ).bind fun x=>match x with
 | .int i=>if few i then .ex ⟨cn,[]⟩ else .bad
 | _=>.bad
section
variable{X:Cx}{c:Ct}{E:XK}{st:Stmt}{cn:Str}{C:Addr}
theorem n9{f:Sg->R (List PyData)}(hm:c.mg cn=some (.ref C))(h:PS X st (xG C E (tAd c E f))):PSf X c E st (xH cn f):=PS.imp h fun D σ H zz0=>by
 obtain ⟨ρ,F,ab,k⟩:=zz0
 refine ⟨ρ,F,ab,(Rk.bind k).imp fun xs _ q vs F1 H1 s1 r1=>?_⟩
 by_cases hn:xs.length<=1000
 ·rw[AG hn] at q
  exact ⟨by rw[r1.length];exact hn,fun e he=>q e C _ _ ((ab.all.trans s1).trans (Ext.new s1.fh he)) ⟨hm,none,aY,.inl ⟨rfl,rfl⟩⟩⟩
 ·rw[AH hn] at q;exact q.elim
theorem aGW{g:Sg->R PyData}(hm:c.mg cn=some (.ref C))(h:PS X st (xG C E (eN (aPL (tV (bQ c) c E g)) i3))):PSf X c E st (xI cn g):=PS.imp h fun D σ H ⟨ρ,F,ab,k⟩=>by
 refine ⟨ρ,F,ab,(Rk.bind k).imp fun x hx q v F1 H1 s1 r1=>?_⟩
 clear hx
 split at q
 ·rename_i i
  split at q
  ·rename_i hf
   obtain rfl:=aZ.int_of r1
   exact ⟨i,rfl,hf,fun z=>⟨by show 1<=1000;decide,fun e he=>q e C _ _ ((ab.all.trans s1).trans (Ext.new s1.fh he)) ⟨hm,none,aY,.inl ⟨rfl,rfl⟩⟩⟩⟩
  ·exact q.elim
 ·exact q.elim
theorem aCD{K:Frag}{mg:Str->Option Value}{Wc:Addr}{a b:List Str}(h:m4 K mg Wc a)(h2:m4 K mg Wc b):m4 K mg Wc (a++b):=fun nm hn=>by
 rcases BJ.mp hn with q|q
 · exact h nm q
 · exact h2 nm q
theorem aS7{i:Nat}{ρ:Sg}{σ:L2.St}{F H:Hp}{er:Er}{nm:Str}{W C:Addr}(hM:X.mg=c.mg)(hc:SX.ExcC X.K W C)(hm:X.mg nm=some (.ref C))(ab:Ab c ρ σ F H)(hi:ρ[i]? = some (some (.x er)))(h:er.c=nm) :
  ∃ a,σ[i]? = some (some (.ref a))/\TyX X.K H (.ref a) (.ref C):=by
 obtain ⟨v,hv,a,C2,rfl,m,od,h1,h2⟩:=ab.slot i _ hi
 rw[h,<-hM,hm] at m
 cases m
 rcases h2 with ⟨_,rfl⟩|⟨dd,fvs,e1,e2,e3,e4⟩
 ·exact ⟨a,hv,.exc0 hc (ab.fh _ _ h1)⟩
 ·subst e1
  exact ⟨a,hv,.exc hc (ab.fh _ _ h1) (ab.fh _ _ e2)⟩
end
end Fl
namespace L2
open PySem
noncomputable def aPN(e:DictEntry):Bool:=match e.key with
 | .str _ _=>true
 | _=>false
theorem sS{K:Frag}{N:Addr}{cl:Value}{d:Option Addr}{es:Array DictEntry}{ep:Nat}{sl:Array (Option Value)}(l:K.lookup N=some ⟨cl,d,.dict es ep,sl⟩)(h:es.toList.all aPN=true):PySem.W.nsOkIn K N=true:=by
 unfold PySem.W.nsOkIn
 rw[show List.lookup N K=some ⟨cl,d,.dict es ep,sl⟩ from l]
 show es.all _=true
 rw[<-Array.all_toList]
 exact h
end L2
namespace Fl
open PySem L2 PyProof.Rows
end Fl
namespace HT
open PySem PySem.Spec PyProof.Rows L2
end HT
namespace Fl
open PySem L2 PyProof.Rows
def FnK(K:Frag)(H:Hp)(f:Addr):Prop:=PySem.W.keepIn K (.ref f)=true\/∃ oc od fd sl,H f=some (FnO f ⟨oc,od,.func fd,sl⟩)
theorem FnK.same{K:Frag}{H H':Hp}{f:Addr}(s:aI H H')(h:FnK K H f):FnK K H' f:=h.imp id fun ⟨oc,od,fd,sl,e⟩=>⟨oc,od,fd,sl,s _ _ e⟩
def aAY(X:Cx)(i:Nat)(E:XK)(t:TA):TE:=fun σ H Q=>∃ f,σ[i]? = some (some (.ref f))/\FnK X.K H f/\t σ H fun vs H1=>FnK X.K H1 f/\∃ k fd ps sp,Room k X.A/\FnOk X.prog X.w X.K X.mg X.base (CXe X.prog X.w) k f fd ps sp/\iT X.K fd ps []/\sp vs H1 Q E
theorem uF{X:Cx}{i:Nat}{x:Str}{E:XK}{p pos:Pos}{e:Expr}{es:List Expr}{t:TA}(hn:PE X (.Name x p) (jS i))(hx:nA (CXe X.prog X.w) X E)(ha:PA X (e::es) t)
  (he:starEach (e::es) X.env=(false,eval e X.env)::starEach es X.env:=by rfl) (hpl:(backTo pos (starEach es X.env)).any (·.1)=false:=by rfl):PE X (.Call (.Name x p) (e::es) [] pos) (aAY X i E t):=by
 intro pins s σ H Q I h
 obtain ⟨f,hf,hk,h⟩:=h
 refine CV (thn (hn pins s σ H (fun v H'=>v=.ref f/\H'=H) I ⟨_,hf,rfl,rfl⟩) fun u s0 zz0=>?_)
 obtain ⟨v,H0,I0,rv,e1,e2⟩:=zz0
 subst e1 e2
 obtain rfl:u=Value.ref f:=rv
 have fin:∀ (us:List Value) (s1:Shared),AP X pins σ (fun vs H1=>FnK X.K H1 f/\∃ k fd ps sp,Room k X.A/\FnOk X.prog X.w X.K X.mg X.base (CXe X.prog X.w) k f fd ps sp/\iT X.K fd ps []/\sp vs H1 Q E) us s1->
   (∃ H1,Inv X pins σ H1 s1/\FnK X.K H1 f)/\wpAny (model X.prog X.w) X.A (call (.ref f) us) (EP X pins σ Q) X.xe s1:=by
  rintro us s1 ⟨vs,H1,I1,r,hk1,k,fd,ps,sp,hr,F,hb,q⟩
  refine ⟨⟨H1,I1,hk1⟩,aFX (dvs:=[]) (ds:=[]) F hr hb .nil hx I1 r ?_⟩
  rw[C3];exact q
 rcases hk with hk|⟨oc,od,fd,sl,hk⟩
 ·refine DU (h₀:=X.base) I0.ok.mod.kin hk (thn (ha pos pins s0 σ H0 _ I0 h) fun us s1 hq=>?_) he hpl
  obtain ⟨⟨H1,I1,_⟩,q⟩:=fin us s1 hq
  exact ⟨I1.kIn,q⟩
 ·refine PySem.W.callWith_F ⟨oc,od,fd,sl,FnO.get I0.hok hk⟩ (thn (ha pos pins s0 σ H0 _ I0 h) fun us s1 hq=>?_) he hpl
  obtain ⟨⟨H1,I1,hk1⟩,q⟩:=fin us s1 hq
  refine ⟨?_,q⟩
  rcases hk1 with hk1|⟨oc,od,fd,sl,hk1⟩
  ·cases e:X.K.lookup f with
   | none=>unfold PySem.W.keepIn at hk1;dsimp only at hk1;rw[e] at hk1;cases hk1
   | some o=>
    have e1:=I1.kIn f o e
    exfalso
    have e2:=I0.kIn f o e
    obtain ⟨o',h1,h2⟩:∃ o',H0 f=some (FnO f o')/\True:=⟨_,hk,trivial⟩
    have e3:=I0.bs f o (I0.ok.mod.kin f o e)
    rw[e3.2] at h1;cases h1
  ·exact ⟨oc,od,fd,sl,FnO.get I1.hok hk1⟩
def uG(m i:Nat)(f:Sg->R (List PyData)):Sg->R PyData:=fun ρ=>match ρ[i]? with
 | some (some (.g k n G))=>(f ρ).bind fun ds=>if k<=m/\ds.length=n then G ds else .bad
 | _=>.bad
theorem aGX{X:Cx}{c:Ct}{E:XK}{e:Expr}{m i:Nat}{T:Hp}{f:Sg->R (List PyData)}(hG:c.g=gOf X.prog X.w X.K X.mg X.base T)(hK:X.K=c.K)(hM:X.mg=c.mg)(hr:Room m X.A)(h:PE X e (aAY X i E (tAd c E f))):PD X c E e (uG m i f):=PE.imp h fun σ H Q ⟨ρ,F,ab,k⟩=>by
 unfold uG at k
 split at k
 ·rename_i lv n G hi
  obtain ⟨v,hv,hA⟩:=ab.slot i _ hi
  obtain ⟨fa,F1,rfl,s1,B⟩:=(show AF c.g c.K c.mg F (.g lv n G) v from hA)
  rw[hG] at B
  obtain ⟨fd,ps,hps,hb,FO,hk⟩:=(show Beh X.prog X.w X.K X.mg X.base T fa F1 lv n G from B)
  have hk1:∀ F' H',aI F F'->aI F' H'->FnK X.K H' fa:=fun F' H' a1 a2=>hk.imp id fun ⟨oc,od,fd,sl,e⟩=>⟨oc,od,fd,sl,a2 _ _ (a1 _ _ (s1 _ _ e))⟩
  refine ⟨fa,hv,hk1 F H (cK F) ab.fh,ρ,F,ab,(Rk.bind k).imp fun ds _ q vs F' H' e1 r=>?_⟩
  refine ⟨hk1 F' H' e1.ff e1.fh,?_⟩
  by_cases hn:lv<=m/\ds.length=n
  ·rw[AG hn] at q
   refine ⟨lv,fd,ps,_,hr.mono hn.1,FO,hb,F',ds,fun a o z=>e1.ff a o (s1 a o z),fun a o z=>e1.ff a o (ab.f0 a o (ab.t0 a o (by rw[hG];exact z))),e1.fh,by rw[hK];exact r,hn.2,?_⟩
   cases hg:G ds with
   | bad=>rw[hg] at q;exact q
   | ok d=>rw[hg] at q;exact fun v F2 H2 e2 r2=>Rk.ok q v F2 H2 (e1.trans e2) (by rw[hK] at r2;exact r2)
   | ex x=>rw[hg] at q;exact fun a C F2 H2 e2 r2=>q a C F2 H2 ((ab.all.trans e1).trans e2) (by rw[hK,hM] at r2;exact r2)
  ·rw[AH hn] at q;exact q.elim
 ·exact k.elim
noncomputable def sT:PyData->Bool
 | .none=>true
 | .bool _=>true
 | .int _=>true
 | .str _=>true
 | _=>false
theorem aIZ{K:Frag}{F F':Hp}{v:V}{d:PyData}(h:sT d=true)(r:DatV K F v d):DatV K F' v d:=by
 cases d with
 | none=>cases r;exact .non
 | bool b=>cases r;exact .bl b
 | int i=>cases r;exact .int i
 | str x=>cases r;exact .str x
 | list xs=>cases h
 | tuple xs=>cases h
 | dict xs=>cases h
def lT(K:Frag)(F H:Hp):List V->List PyData->Prop
 | [],[]=>True
 | v::vs,d::ds=>aZ K F H v d/\lT K F H vs ds
 | _,_=>False
theorem lT.ext{K:Frag}{F H F' H':Hp}(e:Ext F H F' H'):∀ {vs:List V} {ds:List PyData},lT K F H vs ds->lT K F' H' vs ds
 | [],[],_=>trivial
 | v::vs,d::ds,h=>⟨aZ.ext e h.1,lT.ext e h.2⟩
theorem lT.len{K:Frag}{F H:Hp}:∀ {vs:List V} {ds:List PyData},lT K F H vs ds->vs.length=ds.length
 | [],[],_=>rfl
 | v::vs,d::ds,h=>by rw[BG,BG,lT.len h.2]
def tAr(c:Ct)(E:XK)(f:Sg->R (List PyData)):TA:=fun σ H Q=>∃ ρ F,Ab c ρ σ F H/\Rk c E F H (f ρ) fun ds=>∀ vs F' H',Ext F H F' H'->lT c.K F' H' vs ds->Q vs H'
theorem aL9{X:Cx}{c:Ct}{E:XK}:PA X [] (tAr c E aK):=PA.imp aR fun σ H Q ⟨ρ,F,ab,k⟩=>Rk.ok k [] F H (Ext.refl ab.fh) trivial
theorem aAZ{X:Cx}{c:Ct}{E:XK}{e:Expr}{es:List Expr}{f:Sg->R PyData}{g:Sg->R (List PyData)}(h:PR X c E e f)(h2:PA X es (tAr c E g))(hs:starEach (e::es) X.env=(false,eval e X.env)::starEach es X.env:=by rfl):PA X (e::es) (tAr c E (aA f g)):=PA.imp (aH h h2 hs) fun σ H Q zz0=>by
 obtain ⟨ρ,F,ab,k⟩:=zz0
 refine ⟨ρ,F,ab,(Rk.bind k).imp fun x _ q v F1 H1 s1 r1=>⟨ρ,F1,ab.ext s1,((Rk.bind q).ext s1).imp fun xs _ q vs F2 H2 s2 r2=>?_⟩⟩
 exact Rk.ok q (v::vs) F2 H2 (s1.trans s2) ⟨aZ.ext s2 r1,r2⟩
theorem aPO{K:Frag}{F H:Hp}(s:aI F H):∀ {vs:List V} {ds:List PyData},lT K F H vs ds->∃ FL,aI F FL/\aI FL H/\DatVs K FL vs ds
 | [],[],_=>⟨F,cK F,s,.nil⟩
 | v::vs,d::ds,h=>by
  obtain ⟨FL,a,b,r⟩:=aPO s h.2
  rcases h.1 with q|⟨p,us,xs,rfl,rfl,h1,h2⟩
  ·exact ⟨FL,a,b,.cons (q.same a) r⟩
  ·refine ⟨fun x=>if x=p then some (.lst us) else FL x,fun x o z=>?_,fun x o z=>?_,?_⟩
   ·by_cases hx:x=p
    ·subst hx
     have:=s x o z
     rw[h1] at this;cases this
     exact AG rfl
    ·exact (AH hx).trans (a x o z)
   ·by_cases hx:x=p
    ·subst hx
     have z':=(AG rfl).symm.trans z
     rw[h1];exact z'
    ·exact b x o ((AH hx).symm.trans z)
   ·have sm:aI FL (fun x=>if x=p then some (.lst us) else FL x):=fun x o z=>by
     by_cases hx:x=p
     ·subst hx
      have:=b x o z
      rw[h1] at this;cases this
      exact AG rfl
     ·exact (AH hx).trans z
    exact .cons (.lst (SqL.of (AG rfl)) (h2.same fun x o z=>sm x o (a x o z))) (r.same sm)
def vX(m i:Nat)(f:Sg->R (List PyData)):Sg->R PyData:=fun ρ=>match ρ[i]? with
 | some (some (.g k n G))=>(f ρ).bind fun ds=>if k<=m/\ds.length=n then (match G ds with | .ok d=>if sT d=true then .ok d else .bad|_=>.bad) else .bad
 | _=>.bad
theorem aMA{X:Cx}{c:Ct}{E:XK}{e:Expr}{m i:Nat}{T:Hp}{f:Sg->R (List PyData)}(hG:c.g=gOf X.prog X.w X.K X.mg X.base T)(hK:X.K=c.K)(hM:X.mg=c.mg)(hr:Room m X.A)(h:PE X e (aAY X i E (tAr c E f))):PD X c E e (vX m i f):=PE.imp h fun σ H Q ⟨ρ,F,ab,k⟩=>by
 unfold vX at k
 split at k
 ·rename_i lv n G hi
  obtain ⟨v,hv,hA⟩:=ab.slot i _ hi
  obtain ⟨fa,F1,rfl,s1,B⟩:=(show AF c.g c.K c.mg F (.g lv n G) v from hA)
  rw[hG] at B
  obtain ⟨fd,ps,hps,hb,FO,hk⟩:=(show Beh X.prog X.w X.K X.mg X.base T fa F1 lv n G from B)
  have hk1:∀ F' H',aI F F'->aI F' H'->FnK X.K H' fa:=fun F' H' a1 a2=>hk.imp id fun ⟨oc,od,fd,sl,e⟩=>⟨oc,od,fd,sl,a2 _ _ (a1 _ _ (s1 _ _ e))⟩
  refine ⟨fa,hv,hk1 F H (cK F) ab.fh,ρ,F,ab,(Rk.bind k).imp fun ds _ q vs F' H' e1 r=>?_⟩
  refine ⟨hk1 F' H' e1.ff e1.fh,?_⟩
  by_cases hn:lv<=m/\ds.length=n
  ·rw[AG hn] at q
   obtain ⟨FL,a,b,r'⟩:=aPO e1.fh r
   refine ⟨lv,fd,ps,_,hr.mono hn.1,FO,hb,FL,ds,fun x o z=>a x o (e1.ff x o (s1 x o z)),fun x o z=>a x o (e1.ff x o (ab.f0 x o (ab.t0 x o (by rw[hG];exact z)))),b,by rw[hK];exact r',hn.2,?_⟩
   cases hg:G ds with
   | bad=>rw[hg] at q;exact q
   | ok d=>
    rw[hg] at q
    intro v F2 H2 e2 r2
    have q':Rk c E F H (if sT d=true then R.ok d else .bad) _:=q
    by_cases hf:sT d=true
    ·rw[AG hf] at q'
     refine Rk.ok q' v F' H2 (e1.trans ⟨e2.hh,cK F',fun x o z=>e2.hh x o (e1.fh x o z),fun x z n=>absurd z n⟩) (by rw[hK] at r2;exact aIZ hf r2)
    ·rw[AH hf] at q';exact q'.elim
   | ex x=>rw[hg] at q;exact q.elim
  ·rw[AH hn] at q;exact q.elim
 ·exact k.elim
theorem aMB{K:Frag}{F:Hp}{cs:List Addr}{a:Addr}{xs:List V}(hc:Celd cs F)(h:SqL K F a xs):SqL K (hid cs F) a xs:=by
 rcases h with (h|⟨o,h⟩)|h
 · exact .inl (.inl (by rw [bX (hc.out h fun _ v z => nomatch z)]; exact h))
 · exact .inl (.inr ⟨o, by rw [bX (hc.out h fun _ v z => by unfold eY at z; cases z)]; exact h⟩)
 · exact .inr h
theorem aMC{K:Frag}{F:Hp}{cs:List Addr}{a:Addr}{xs:List V}(hc:Celd cs F)(h:SqT K F a xs):SqT K (hid cs F) a xs:=by
 rcases h with (h|⟨o,h⟩)|h
 · exact .inl (.inl (by rw [bX (hc.out h fun _ v z => nomatch z)]; exact h))
 · exact .inl (.inr ⟨o, by rw [bX (hc.out h fun _ v z => by unfold eY at z; cases z)]; exact h⟩)
 · exact .inr h
mutual
theorem aC8{K:Frag}{F:Hp}{cs:List Addr}(hc:Celd cs F):∀ {v:V} {d:PyData},DatV K F v d->DatV K (hid cs F) v d
 | _,_,.non=>.non
 | _,_,.bl b=>.bl b
 | _,_,.int i=>.int i
 | _,_,.str x=>.str x
 | _,_,.lst h r=>.lst (aMB hc h) (nK hc r)
 | _,_,.tup h r=>.tup (aMC hc h) (nK hc r)
theorem nK{K:Frag}{F:Hp}{cs:List Addr}(hc:Celd cs F):∀ {vs:List V} {ds:List PyData},DatVs K F vs ds->DatVs K (hid cs F) vs ds
 | _,_,.nil=>.nil
 | _,_,.cons h r=>.cons (aC8 hc h) (nK hc r)
end
theorem aMD{e C b:Addr}{od:Option Addr}{o:Obj}{v:V}(h:ExO e C od=eY b o v):False:=by unfold ExO eY at h;cases h
theorem aI0{K:Frag}{mg:Str->Option Value}{F:Hp}{e:Er}{a C:Addr}{cs:List Addr}(hc:Celd cs F)(h:kU K mg F e a C):kU K mg (hid cs F) e a C/\a∉cs:=by
 obtain ⟨m,od,h1,h2⟩:=h
 have ha:=hc.out h1 fun _ v z=>aMD z
 refine ⟨⟨m,od,by rw[bX ha];exact h1,h2.imp id ?_⟩,ha⟩
 rintro ⟨d,fvs,e1,e2,e3,e4⟩
 exact ⟨d,fvs,e1,by rw[bX (hc.out e2 fun _ v z=>nomatch z)];exact e2,e3,nK hc e4⟩
theorem aA0{cv:Cv}{H F2:Hp}(s:aI (pub cv H) F2):Celd (dL cv) F2:=fun b hb=>by
 obtain ⟨p,e⟩:=iQ.mp hb
 exact ⟨p.1,p.2,s _ _ (rA e)⟩
theorem aI1{cv:Cv}{F H:Hp}(s:aI F H):aI (pub cv F) (pub cv H):=fun b o e=>by
 by_cases hb:b∈dL cv
 ·obtain ⟨p,q⟩:=iQ.mp hb
  rw[rA q] at e ⊢;exact e
 ·rw[eZ hb] at e ⊢;exact s b o e
theorem yV{cv:Cv}{F H F2 H2:Hp}(hd:∀ b∈dL cv,H b=none)(s:aI F H)(e:Ext (pub cv F) (pub cv H) F2 H2):Ext F H (hid (dL cv) F2) (hid (dL cv) H2):=by
 have hF:∀ b∈dL cv,F b=none:=fun b hb=>bZ s (hd b hb)
 have outH:∀ b o,H b=some o->b∉dL cv:=fun b o q z=>by rw[hd b z] at q;cases q
 have outF:∀ b o,F b=some o->b∉dL cv:=fun b o q z=>by rw[hF b z] at q;cases q
 refine ⟨fun b o q=>?_,fun b o q=>?_,fun b o q=>?_,fun b q n=>?_⟩
 ·have hb:=outH b o q
  rw[bX hb];exact e.hh b o (by rw[eZ hb];exact q)
 ·have hb:=outF b o q
  rw[bX hb];exact e.ff b o (by rw[eZ hb];exact q)
 ·obtain ⟨q1,hb⟩:=pT q
  rw[bX hb];exact e.fh b o q1
 ·by_cases hb:b∈dL cv
  ·exact absurd (oZ hb) n
  ·rw[bX hb] at n
   have:=e.nw b (by rw[eZ hb];exact q) n
   unfold nZ at this ⊢
   rw[eZ hb] at this;exact this
noncomputable def dOf:R A->R PyData
 | .ok (.d x)=>.ok x
 | .ok _=>.bad
 | .ex e=>.ex e
 | .bad=>.bad
def CloOk(P:Program)(w:World)(K:Frag)(mg:Str->Option Value)(base:Heap)(T:Hp)(S:ClSt)(fr:List Str)(k n:Nat)(Gm:List A->List PyData->R PyData):Prop:=
 ∀ (F0 F1:Hp) (caps:List A) (cvs:List V) (f:Addr) (cl:List (Str×Addr)) (doc pm ct:Value) (cc:Addr),aI T F0->AFs (gOf P w K mg base T) K mg F0 caps cvs->aI F0 F1->
  F1 f=some (FnO f (S.obj cl doc pm cc ct))->F1 cc=some (.cod S.qual)->CapAt F1 fr cl cvs->(∀ c∈a8 fr cl,F0 c=none)->Beh P w K mg base T f F1 k n (Gm caps)
theorem aC9{cs:List Addr}{F H F2 H2:Hp}(s:aI F H)(hc:Celd cs F)(hn:∀ c∈cs,H2 c=none)(e:Ext (hid cs F) (hid cs H) F2 H2):Ext F H (shw cs F F2) (shw cs H H2)/\aI F2 (shw cs F F2):=by
 have hF:∀ c∈cs,F2 c=none:=fun c h=>bZ e.fh (hn c h)
 refine ⟨⟨fun b o q=>?_,fun b o q=>?_,fun b o q=>?_,fun b q n=>?_⟩,fun b o q=>?_⟩
 ·by_cases hb:b∈cs
  ·rw[q9 hb];exact q
  ·rw[eX hb];exact e.hh b o (by rw[bX hb];exact q)
 ·by_cases hb:b∈cs
  ·rw[q9 hb];exact q
  ·rw[eX hb];exact e.ff b o (by rw[bX hb];exact q)
 ·by_cases hb:b∈cs
  ·rw[q9 hb] at q ⊢;exact s b o q
  ·rw[eX hb] at q ⊢;exact e.fh b o q
 ·by_cases hb:b∈cs
  ·obtain ⟨o,v,z⟩:=hc b hb
   rw[z] at q;cases q
  ·rw[eX hb] at n
   have:=e.nw b (by rw[bX hb];exact q) n
   unfold nZ at this ⊢
   rw[bX hb] at this;exact this
 ·rw[eX fun z=>by rw[hF b z] at q;cases q];exact q
theorem AFs.data{g:Gb}{K:Frag}{mg:Str->Option Value}{F:Hp}:∀ {vs:List V} {ds:List PyData},DatVs K F vs ds->AFs g K mg F (ds.map .d) vs
 | _,_,.nil=>trivial
 | _,_,.cons h r=>⟨h,AFs.data r⟩
theorem AFs.append{g:Gb}{K:Frag}{mg:Str->Option Value}{F:Hp}:∀ {as bs:List A} {vs us:List V},AFs g K mg F as vs->AFs g K mg F bs us->AFs g K mg F (as++bs) (vs++us)
 | [],_,[],_,_,h=>h
 | a::as,bs,v::vs,us,h,h2=>⟨h.1,AFs.append h.2 h2⟩
section
variable{P:Program}{w:World}{K:Frag}{mg:Str->Option Value}{base:Heap}{T:Hp}{S:ClSt}{N ps fr:List Str}{k:Nat}
theorem yW{F0 F1 F H:Hp}{caps:List A}{cvs vs:List V}{ds:List PyData}{cl:List (Str×Addr)}(hT0:aI T F0)(hcap:AFs (gOf P w K mg base T) K mg F0 caps cvs)(h01:aI F0 F1)(h1F:aI F1 F)(hFH:aI F H)(C:CapAt F1 fr cl cvs)(hno:∀ c∈a8 fr cl,F0 c=none)(hd:DatVs K F vs ds) :
  Celd (a8 fr cl) F/\aI T (hid (a8 fr cl) F)/\aI (hid (a8 fr cl) F) (hid (a8 fr cl) H)/\AFs (gOf P w K mg base T) K mg (hid (a8 fr cl) F) (ds.map .d++caps) (vs++cvs):=by
 have hc:Celd (a8 fr cl) F:=(C.same h1F).celd
 have h0:aI F0 (hid (a8 fr cl) F):=fun b o q=>by
  rw[bX fun z=>by rw[hno b z] at q;cases q];exact h1F b o (h01 b o q)
 refine ⟨hc,fun b o q=>h0 b o (hT0 b o q),fun b o q=>?_,(AFs.data (nK hc hd)).append (hcap.same h0)⟩
 obtain ⟨q1,hb⟩:=pT q
 rw[bX hb];exact hFH b o q1
def eM(n:Nat)(fb:Sg->R Fw):List A->List PyData->R PyData:=fun caps ds=>dOf (fnF n fb (ds.map .d++caps))
theorem aDA{F H:Hp}{cs:List Addr}{Q:VK}{E:XK}{r:R A}(hFH:aI F H)(hc:Celd cs F)(h:match dOf r with
 | .bad=>False
 | .ok d=>∀ v F' H',Ext F H F' H'->DatV K F' v d->Q v H'
 | .ex e=>∀ a C F' H',Ext F H F' H'->kU K mg F' e a C->E (.ref C) (some a) H'):match (generalizing:=false) r with
 | .bad=>False
 | .ok a=>∀ v F' H',Ext (hid cs F) (hid cs H) F' H'->AF (gOf P w K mg base T) K mg F' a v->(∀ a∈cs,H' a=none)->Q v (shw cs H H')
 | .ex e=>∀ a C F' H',Ext (hid cs F) (hid cs H) F' H'->kU K mg F' e a C->(∀ a∈cs,H' a=none)->E (.ref C) (some a) (shw cs H H'):=by
 cases r with
 | bad=>exact h
 | ok a=>
  cases a with
  | d x=>
   intro v F' H' e q hn
   obtain ⟨e2,sm⟩:=aC9 hFH hc hn e
   exact h v _ _ e2 (DatV.same sm q)
  | l xs=>exact False.elim h
  | m xs=>exact False.elim h
  | x e=>exact False.elim h
  | g k n f=>exact False.elim h
  | k S=>exact False.elim h
  | f S=>exact False.elim h
  | o S=>exact False.elim h
 | ex x=>
  intro a C F' H' e q hn
  obtain ⟨e2,sm⟩:=aC9 hFH hc hn e
  exact h a C _ _ e2 (q.same sm)
theorem aGY{body:List Stmt}{fb:Sg->R Fw}(hb:S.body=.stmts body)(Sc:CloScope N ps fr S.scope)(hbi:∀ (cl:List (Str×Addr)) (doc pm:Value) (cc:Addr) (ct:Value) (us:List Value),us.length=ps.length->bindArgs (S.fd cl doc pm cc ct) ⟨us,[]⟩=pure (ps.zip us))
  (hbody:∀ (f cc:Addr) (cl:List (Str×Addr)) (A:Around) (outer:List Env) (s:Shared) (H F:Hp) (E E':XK),Room k (A.deeper (cW S.qual S.scope s.heap.objs.size f (.ref cc) cl))->
   mB ((jG (CXe P w) P w K mg base N fr S.qual S.scope f (.ref cc) cl A outer s H E').fly E) ⟨K,mg,w,F,hid (a8 fr cl) H,gOf P w K mg base T,(cW S.qual S.scope s.heap.objs.size f (.ref cc) cl).cells,fun _=>none⟩ E body fb) :
  CloOk P w K mg base T S fr (k+1) ps.length (eM N.length fb):=by
 intro F0 F1 caps cvs f cl doc pm ct cc hT0 hcap h01 hf hcc C hno
 refine ⟨S.fd cl doc pm cc ct,ps,rfl,.all (hbi cl doc pm cc ct),⟨fun vs H Q E h=>?_,fun A outer s H args us vs Q E hr e0 hbn rv hsp=>?_⟩,.inr ⟨_,_,_,_,hf⟩⟩
 ·obtain ⟨F,ds,_,_,_,h1,h2,_⟩:=h
  rw[h1.length,h2]
 ·obtain ⟨F,ds,h1,h2,h3,h4,h5,h6⟩:=hsp
  obtain ⟨hc,a1,a2,a3⟩:=yW hT0 hcap h01 h1 h3 C hno h4
  refine aGF hb (h3 _ _ (h1 _ _ hf)) (h3 _ _ (h1 _ _ hcc)) Sc (C.same fun b o z=>h3 b o (h1 b o z)) hr e0 hbn rv (by rw[h4.length,h5]) fun hr'=>⟨_,hbody f cc cl A outer s H (hid (a8 fr cl) F) _ E hr',?_⟩
  have h7:=aDA (P:=P) (w:=w) (base:=base) (T:=T) (r:=fnF N.length fb (ds.map .d++caps)) h3 hc h6
  refine sO (n:=N.length) (fb:=fb) (Q:=fun v H'=>(∀ a∈a8 fr cl,H' a=none)->Q v (shw (a8 fr cl) H H')) (E:=fun c e H'=>(∀ a∈a8 fr cl,H' a=none)->E c e (shw (a8 fr cl) H H')) a1 a2 a3 ?_
  cases e:fnF N.length fb (ds.map .d++caps) with
  | bad=>rw[e] at h7;exact h7
  | ok a=>rw[e] at h7;exact h7
  | ex x=>rw[e] at h7;exact h7
theorem aA1{body:Expr}{fe:Sg->R PyData}(hb:S.body=.expr body)(Sc:CloScope N ps fr S.scope)(hbi:∀ (cl:List (Str×Addr)) (doc pm:Value) (cc:Addr) (ct:Value) (us:List Value),us.length=ps.length->bindArgs (S.fd cl doc pm cc ct) ⟨us,[]⟩=pure (ps.zip us))
  (hbody:∀ (f cc:Addr) (cl:List (Str×Addr)) (A:Around) (outer:List Env) (s:Shared) (H F:Hp) (E E':XK),Room k (A.deeper (cW S.qual S.scope s.heap.objs.size f (.ref cc) cl))->
   PD ((jG (CXe P w) P w K mg base N fr S.qual S.scope f (.ref cc) cl A outer s H E').fly E) ⟨K,mg,w,F,hid (a8 fr cl) H,gOf P w K mg base T,(cW S.qual S.scope s.heap.objs.size f (.ref cc) cl).cells,fun _=>none⟩ E body fe) :
  CloOk P w K mg base T S fr (k+1) ps.length (eM N.length (bO (vD fe))):=by
 intro F0 F1 caps cvs f cl doc pm ct cc hT0 hcap h01 hf hcc C hno
 refine ⟨S.fd cl doc pm cc ct,ps,rfl,.all (hbi cl doc pm cc ct),⟨fun vs H Q E h=>?_,fun A outer s H args us vs Q E hr e0 hbn rv hsp=>?_⟩,.inr ⟨_,_,_,_,hf⟩⟩
 ·obtain ⟨F,ds,_,_,_,h1,h2,_⟩:=h
  rw[h1.length,h2]
 ·obtain ⟨F,ds,h1,h2,h3,h4,h5,h6⟩:=hsp
  obtain ⟨hc,a1,a2,a3⟩:=yW hT0 hcap h01 h1 h3 C hno h4
  refine aIF hb (h3 _ _ (h1 _ _ hf)) (h3 _ _ (h1 _ _ hcc)) Sc (C.same fun b o z=>h3 b o (h1 b o z)) hr e0 hbn rv (by rw[h4.length,h5]) fun hr'=>⟨_,hbody f cc cl A outer s H (hid (a8 fr cl) F) _ E hr',?_⟩
  have h7:=aDA (P:=P) (w:=w) (base:=base) (T:=T) (r:=fnF N.length (bO (vD fe)) (ds.map .d++caps)) h3 hc h6
  refine ⟨_,_,aAR a1 a2 a3,?_⟩
  unfold fnF bO vD at h7
  cases e:fe ((ds.map Fl.A.d++caps).map some++List.replicate (N.length - (ds.map Fl.A.d++caps).length) none) with
  | bad=>rw[e] at h7;exact h7
  | ok d=>rw[e] at h7;exact fun v F' H' e1 r1 hn=>h7 v F' H' e1 r1 hn
  | ex x=>rw[e] at h7;exact fun a C F' H' e1 r1 hn=>h7 a C F' H' e1 r1 hn
end
def qB(c:Ct)(F:Hp)(S:ClSt)(v:V):Prop:=∃ f cl doc pm cc ct,v=.ref f/\F f=some (FnO f (S.obj cl doc pm cc ct))/\F cc=some (.cod S.qual)/\ClOf c.cells S.scope cl
theorem qB.same{c:Ct}{F F':Hp}{S:ClSt}{v:V}(s:aI F F'):qB c F S v->qB c F' S v:=by
 rintro ⟨f,cl,doc,pm,cc,ct,h1,h2,h3,h4⟩
 exact ⟨f,cl,doc,pm,cc,ct,h1,s _ _ h2,s _ _ h3,h4⟩
theorem aDB{c:Ct}{S:ClSt}{P0:Addr}{qs:List (Pos×Str)}{cells:List (Str×Addr)}{ρ:Sg}{σ:L2.St}{F H:Hp}{Q:VK}(hcl:cells=c.cells)(hT:c.g.T P0=some (.tbl qs))(ab:Ab c ρ σ F H)(h:∀ v F' H',Ext F H F' H'->qB c F' S v->Q v H'):tMk cells S P0 qs σ H Q:=by
 subst hcl
 refine ⟨ab.fh _ _ (ab.f0 _ _ (ab.t0 _ _ hT)),fun f cc cl doc pm ct H1 hm hn hco=>?_⟩
 have e1:∃ F1,Ext F H F1 H1/\F1 cc=some (.cod S.qual):=by
  rcases hm with ⟨q,rfl⟩|⟨q,rfl⟩
  ·refine ⟨upd F cc (.cod S.qual),⟨cK _,fun a o z=>?_,fun a o z=>?_,fun a z n=>?_⟩,aY⟩
   ·by_cases w:a=cc
    ·subst w
     have:=ab.fh a o z
     rw[q] at this;cases this
     exact aY
    ·rw[aM w];exact z
   ·by_cases w:a=cc
    ·subst w;rw[aY] at z;rw[q];exact z
    ·rw[aM w] at z;exact ab.fh a o z
   ·by_cases w:a=cc
    ·subst w;exact .inr ⟨_,q⟩
    ·rw[aM w] at n;exact absurd z n
  ·exact ⟨upd F cc (.cod S.qual),Ext.new ab.fh q,aY⟩
 obtain ⟨F1,e1,hc1⟩:=e1
 have e2:Ext F1 H1 (upd F1 f (FnO f (S.obj cl doc pm cc ct))) (upd H1 f (FnO f (S.obj cl doc pm cc ct))):=Ext.new e1.fh hn
 exact h (.ref f) _ _ (e1.trans e2) ⟨f,cl,doc,pm,cc,ct,rfl,aY,e2.ff _ _ hc1,hco⟩
noncomputable def sU(i:Nat)(q:Str):Sg->R Fw:=fun ρ=>.ok (.nx (ρ.set i (some (.k q))))
theorem aDC{X:Cx}{c:Ct}{E:XK}{st:Stmt}{i:Nat}{q:Str}{S:ClSt}{P0:Addr}{qs:List (Pos×Str)}{cells:List (Str×Addr)}(hcl:cells=c.cells)(hS:c.cls q=some S)(hT:c.g.T P0=some (.tbl qs))(h:PS X st (l9 (tMk cells S P0 qs) (kR i))):PSf X c E st (sU i q):=PS.imp h fun D σ H zz0=>by
 obtain ⟨ρ,F,ab,k⟩:=zz0
 refine aDB hcl hT ab fun v F' H' e hc=>?_
 exact Rk.ok k _ F' H' e.ff ((ab.ext e).setF (a:=.k q) (let ⟨f,cl,doc,pm,cc,ct,h⟩:=hc;⟨S,f,cl,doc,pm,cc,ct,hS,h⟩) fun z=>nomatch z)
noncomputable def oA:Option (Option A)->Option A
 | some (some (.d x))=>some (.d x)
 | some (some (.x e))=>some (.x e)
 | some (some (.g k n G))=>some (.g k n G)
 | _=>none
noncomputable def f6:List Nat->Sg->Option (List A)
 | [],_=>some []
 | j::js,ρ=>match oA ρ[j]?,f6 js ρ with
  | some a,some as=>some (a::as)
  | _,_=>none
theorem vY{o:Option (Option A)}{a:A}(h:oA o=some a):o=some (some a)/\∀ {c:Ct} {F H:Hp} {v:V},AO c F H a v->AF c.g c.K c.mg F a v:=by
 unfold oA at h
 split at h<;>cases h
 · exact ⟨rfl, fun z => z⟩
 · exact ⟨rfl, fun z => z⟩
 · exact ⟨rfl, fun z => z⟩
theorem aDD{c:Ct}{ρ:Sg}{σ:L2.St}{F H:Hp}(ab:Ab c ρ σ F H):∀ {js:List Nat} {caps:List A},f6 js ρ=some caps->∃ cvs,AFs c.g c.K c.mg F caps cvs/\cvs.length=js.length/\∀ (i:Nat) j,js[i]? = some j->∃ v,cvs[i]? = some v/\σ[j]? = some (some v)
 | [],_,h=>by cases h;exact ⟨[],trivial,rfl,fun i j z=>by simp at z⟩
 | j::js,caps,h=>by
  unfold f6 at h
  split at h
  ·rename_i a as h1 h2
   cases h
   obtain ⟨cvs,r,l,g⟩:=aDD ab h2
   obtain ⟨q1,q2⟩:=vY h1
   obtain ⟨v,hv,hA⟩:=ab.slot j a q1
   refine ⟨v::cvs,⟨q2 hA,r⟩,by simp[l],fun i j' e=>?_⟩
   cases i with
   | zero=>simp at e;subst e;exact ⟨v,rfl,hv⟩
   | succ i=>obtain ⟨v',a1,a2⟩:=g i j' (by simpa using e);exact ⟨v',by simpa using a1,a2⟩
  ·cases h
def aA2(X:Cx)(T:Hp)(c:Ct)(js:List Nat)(ρ:Sg)(F:Hp)(a:A)(v:V):Prop:=AF c.g c.K c.mg F a v \/
 ∃ S fr sl k n Gm caps,a=.g k n (Gm caps)/\qB c F S v/\CloOk X.prog X.w X.K X.mg X.base T S fr k n Gm/\(∀ y,(y,NameKind.free)∈S.scope.names->y∈fr)/\(∀ y∈fr,(y,NameKind.free)∈S.scope.names)/\sl.map (fun j=>X.N[j]?)=fr.map some/\(∀ j∈sl,j∈js)/\f6 sl ρ=some caps
theorem aA2.same{X:Cx}{T:Hp}{c:Ct}{js:List Nat}{ρ:Sg}{F F':Hp}{a:A}{v:V}(s:aI F F')(h:aA2 X T c js ρ F a v):aA2 X T c js ρ F' a v:=by
 rcases h with h|⟨S,fr,sl,k,n,Gm,caps,h1,h2,h3⟩
 · exact .inl (AF.same s h)
 · exact .inr ⟨S, fr, sl, k, n, Gm, caps, h1, h2.same s, h3⟩
def aE5(X:Cx)(T:Hp)(c:Ct)(js:List Nat)(ρ:Sg)(F:Hp):List A->List V->Prop
 | [],[]=>True
 | a::as,v::vs=>aA2 X T c js ρ F a v/\aE5 X T c js ρ F as vs
 | _,_=>False
def tK1(X:Cx)(T:Hp)(c:Ct)(js:List Nat)(E:XK)(f:Sg->R A):TE:=fun σ H Q=>∃ ρ F,Ab c ρ σ F H/\Rk c E F H (f ρ) fun a=>∀ v F' H',Ext F H F' H'->aA2 X T c js ρ F' a v->Q v H'
def tKs(X:Cx)(T:Hp)(c:Ct)(js:List Nat)(E:XK)(f:Sg->R (List A)):TA:=fun σ H Q=>∃ ρ F,Ab c ρ σ F H/\Rk c E F H (f ρ) fun as=>∀ vs F' H',Ext F H F' H'->aE5 X T c js ρ F' as vs->Q vs H'
section
variable{X:Cx}{T:Hp}{c:Ct}{js:List Nat}{E:XK}{e:Expr}{es:List Expr}
theorem zP{f:Sg->R A}(h:PV X c E e f):PE X e (tK1 X T c js E f):=PE.imp h fun σ H Q ⟨ρ,F,ab,k⟩=>⟨ρ,F,ab,k.imp fun a _ q v F' H' e1 r=>q v F' H' e1 (.inl r)⟩
def qD(q:Str)(sl:List Nat)(k n:Nat)(Gm:List A->List PyData->R PyData)(i:Nat):Sg->R A:=fun ρ=>match ρ[i]?,f6 sl ρ with
 | some (some (.k q')),some caps=>if q'=q then .ok (.g k n (Gm caps)) else .bad
 | _,_=>.bad
theorem aDE{q:Str}{S:ClSt}{fr:List Str}{sl:List Nat}{k n i:Nat}{Gm:List A->List PyData->R PyData}(hS:c.cls q=some S)(M:CloOk X.prog X.w X.K X.mg X.base T S fr k n Gm)(h1:∀ y,(y,NameKind.free)∈S.scope.names->y∈fr)(h2:∀ y∈fr,(y,NameKind.free)∈S.scope.names)
  (h3:sl.map (fun j=>X.N[j]?)=fr.map some) (h4:∀ j∈sl,j∈js) (h:PE X e (jS i)):PE X e (tK1 X T c js E (qD q sl k n Gm i)):=PE.imp h fun σ H Q ⟨ρ,F,ab,k⟩=>by
 unfold qD at k
 split at k
 ·rename_i q' caps hi hc
  by_cases hq:q'=q
  ·rw[AG hq] at k
   subst hq
   obtain ⟨v,hv,S',f,cl,doc,pm,cc,ct,h0,hA⟩:=ab.slot i _ hi
   rw[hS] at h0;cases h0
   have hA:qB c F S v:=⟨f,cl,doc,pm,cc,ct,hA⟩
   exact ⟨v,hv,Rk.ok k v F H (Ext.refl ab.fh) (.inr ⟨_,fr,sl,_,_,Gm,caps,rfl,hA,M,h1,h2,h3,h4,hc⟩)⟩
  ·rw[AH hq] at k;exact k.elim
 ·exact k.elim
def oO(sl:List Nat)(k n:Nat)(Gm:List A->List PyData->R PyData):Sg->R A:=fun ρ=>match f6 sl ρ with
 | some caps=>.ok (.g k n (Gm caps))
 | none=>.bad
theorem aA3{S:ClSt}{fr:List Str}{sl:List Nat}{k n:Nat}{Gm:List A->List PyData->R PyData}{P0:Addr}{qs:List (Pos×Str)}{cells:List (Str×Addr)}(hcl:cells=c.cells)(hT:c.g.T P0=some (.tbl qs))(M:CloOk X.prog X.w X.K X.mg X.base T S fr k n Gm)(h1:∀ y,(y,NameKind.free)∈S.scope.names->y∈fr)(h2:∀ y∈fr,(y,NameKind.free)∈S.scope.names)
  (h3:sl.map (fun j=>X.N[j]?)=fr.map some) (h4:∀ j∈sl,j∈js) (h:PE X e (tMk cells S P0 qs)):PE X e (tK1 X T c js E (oO sl k n Gm)):=PE.imp h fun σ H Q ⟨ρ,F,ab,k⟩=>by
 unfold oO at k
 split at k
 ·rename_i caps hc
  exact aDB hcl hT ab fun v F' H' e1 hA=>Rk.ok k v F' H' e1 (.inr ⟨_,fr,sl,_,_,Gm,caps,rfl,hA,M,h1,h2,h3,h4,hc⟩)
 ·exact k.elim
theorem xJ:PA X [] (tKs X T c js E aK):=PA.imp aR fun σ H Q ⟨ρ,F,ab,k⟩=>Rk.ok k [] F H (Ext.refl ab.fh) trivial
end
section
variable{X:Cx}{T:Hp}{c:Ct}{js:List Nat}{E:XK}{e:Expr}{es:List Expr}
theorem iJ{f:Sg->R A}{g:Sg->R (List A)}(h:PE X e (tK1 X T c js E f))(h2:PA X es (tKs X T c js E g))(hs:starEach (e::es) X.env=(false,eval e X.env)::starEach es X.env:=by rfl):PA X (e::es) (tKs X T c js E (aA f g)):=PA.imp (aH h h2 hs) fun σ H Q zz0=>by
 obtain ⟨ρ,F,ab,k⟩:=zz0
 refine ⟨ρ,F,ab,(Rk.bind k).imp fun x _ q v F1 H1 s1 r1=>⟨ρ,F1,ab.ext s1,((Rk.bind q).ext s1).imp fun xs _ q vs F2 H2 s2 r2=>?_⟩⟩
 exact Rk.ok q (v::vs) F2 H2 (s1.trans s2) ⟨r1.same s2.ff,r2⟩
theorem aA4:∀ {js:List Nat} {ρ:Sg} {caps:List A},f6 js ρ=some caps->∀ j∈js,∃ a,ρ[j]? = some (some a)
 | [],_,_,_,j,hj=>by simp at hj
 | i::js,ρ,caps,h,j,hj=>by
  unfold f6 at h
  split at h
  ·rename_i a as h1 h2
   rcases AS.mp hj with z|z
   · subst z; exact ⟨a, (vY h1).1⟩
   · exact aA4 h2 j z
  ·cases h
theorem aME{α:Type}{N:List α}{sl:List Nat}{fr:List α}(h:sl.map (fun j=>N[j]?)=fr.map some):sl.length=fr.length/\∀ (i:Nat) x,fr[i]? = some x->∃ j,sl[i]? = some j/\N[j]? = some x:=by
 have hl:sl.length=fr.length:=by have:=DM List.length h;simpa using this
 refine ⟨hl,fun i x e=>?_⟩
 have hi:i < fr.length:=(AE.mp e).1
 have h2:(sl.map (fun j=>N[j]?))[i]? = (fr.map some)[i]?:=by rw[h]
 rw[AJ,AJ,e,AI (by omega)] at h2
 exact ⟨sl[i],AI _,BW h2⟩
theorem aI2{S:ClSt}{fr:List Str}{sl:List Nat}{k n:Nat}{Gm:List A->List PyData->R PyData}{caps:List A}{ρ:Sg}{σ:L2.St}{F H:Hp}{cv:Cv}{v:V}(hG:c.g=gOf X.prog X.w X.K X.mg X.base T)(hK:X.K=c.K)(hM:X.mg=c.mg)(hcl:X.env.cells=c.cells)(ab:Ab c ρ σ F H)(R:PubRel X σ H js cv)
  (hA:qB c F S v) (M:CloOk X.prog X.w X.K X.mg X.base T S fr k n Gm) (h1:∀ y,(y,NameKind.free)∈S.scope.names->y∈fr) (h2:∀ y∈fr,(y,NameKind.free)∈S.scope.names)
  (h3:sl.map (fun j=>X.N[j]?)=fr.map some) (h4:∀ j∈sl,j∈js) (hc:f6 sl ρ=some caps):AF c.g c.K c.mg (pub cv F) (.g k n (Gm caps)) v:=by
 obtain ⟨f,cl,doc,pm,cc,ct,rfl,q1,q2,q3⟩:=hA
 obtain ⟨cvs,r,l,gt⟩:=aDD ab hc
 obtain ⟨l3,g3⟩:=aME h3
 have hdF:∀ b∈dL cv,F b=none:=fun b hb=>bZ ab.fh (R.free b hb)
 have hs:aI F (pub cv F):=lI hdF
 have key:∀ (i:Nat) x v,fr[i]? = some x->cvs[i]? = some v->∃ a o,cl.lookup x=some a/\cv.lookup a=some (o,v):=fun i x v e1 e2=>by
  obtain ⟨j,e3,e4⟩:=g3 i x e1
  obtain ⟨v',e5,e6⟩:=gt i j e3
  rw[e2] at e5;cases e5
  obtain ⟨x',a,o,v2,e7,e8,e9,e10⟩:=R.all j (h4 j (AL e3))
  rw[e4] at e7;cases e7
  rw[e6] at e9;cases e9
  obtain ⟨a',e11⟩:=q3.all (x,.free) (h2 x (AL e1)) rfl
  have e12:=q3.of _ _ e11
  rw[<-hcl] at e12
  have e12':X.env.cells.lookup x=some a':=e12
  rw[e8] at e12';cases e12'
  exact ⟨a,o,e11,e10⟩
 refine ⟨f,pub cv F,rfl,cK _,?_⟩
 rw[hG]
 refine M F (pub cv F) caps cvs f cl doc pm ct cc (fun a o z=>ab.f0 a o (ab.t0 a o (by rw[hG];exact z))) (by rw[hK,hM,<-hK,<-hM];rw[hG] at r;rw[<-hK,<-hM] at r;exact r) hs (hs _ _ q1) (hs _ _ q2) ⟨l.trans l3,fun n c e=>h1 n (q3.only n c e),fun n n' c e e'=>R.inj n n' c (by rw[hcl];exact q3.of _ _ e) (by rw[hcl];exact q3.of _ _ e'),fun i x v e1 e2=>?_⟩ fun a ha=>?_
 ·obtain ⟨a,o,e3,e4⟩:=key i x v e1 e2
  exact ⟨a,o,e3,rA e4⟩
 ·obtain ⟨x,hx,e⟩:=DF.mp ha
  obtain ⟨i,hi,hxi⟩:=E4.mp hx
  obtain ⟨a',o,e3,e4⟩:=key i x (cvs[i]'(by rw[l,l3];exact hi)) (by rw[AI hi,hxi]) (AI _)
  rw[e] at e3;cases e3
  exact hdF a (iQ.mpr ⟨_,e4⟩)
theorem yX{ρ:Sg}{σ:L2.St}{F H:Hp}{cv:Cv}(hG:c.g=gOf X.prog X.w X.K X.mg X.base T)(hK:X.K=c.K)(hM:X.mg=c.mg)(hcl:X.env.cells=c.cells)(ab:Ab c ρ σ F H)(R:PubRel X σ H js cv):∀ {as:List A} {vs:List V},aE5 X T c js ρ F as vs->AFs c.g c.K c.mg (pub cv F) as vs
 | [],[],_=>trivial
 | a::as,v::vs,h=>by
  refine ⟨?_,yX hG hK hM hcl ab R h.2⟩
  rcases h.1 with q|⟨S,fr,sl,k,n,Gm,caps,rfl,q1,q2,q3,q4,q5,q6,q7⟩
  · exact AF.same (lI fun b hb => bZ ab.fh (R.free b hb)) q
  · exact aI2 hG hK hM hcl ab R q1 q2 q3 q4 q5 q6 q7
def jX(js:List Nat)(n:Nat)(G:List A->R A)(f:Sg->R (List A)):Sg->R A:=fun ρ=>match f6 js ρ with
 | some _=>(f ρ).bind fun as=>if as.length=n then (dOf (G as)).bind fun x=>.ok (.d x) else .bad
 | none=>.bad
theorem aA5{n:Nat}{G:List A->R A}{g:Gb}{K:Frag}{mg:Str->Option Value}{f:Sg->R (List A)}(hG:c.g=gOf X.prog X.w X.K X.mg X.base T)(hK:X.K=c.K)(hM:X.mg=c.mg)(hcl:X.env.cells=c.cells)(hg:g=c.g)(hk:K=c.K)(hm:mg=c.mg)
  (hcs:∀ j∈js,∃ x,X.N[j]? = some x/\X.env.kindOf x=some .cell/\X.fn x=true) (h:PE X e (aGK X js (spF g K mg n G) E (tKs X T c js E f))):PV X c E e (jX js n G f):=PE.imp h fun σ H Q ⟨ρ,F,ab,k⟩=>by
 subst hg hk hm
 unfold jX at k
 split at k
 ·rename_i caps hc
  refine ⟨ρ,F,ab,(Rk.bind k).imp fun as _ q vs F1 H1 e1 r1=>⟨fun j hj=>?_,fun cv R=>?_⟩⟩
  ·obtain ⟨x,a1,a2,a3⟩:=hcs j hj
   obtain ⟨a,ha⟩:=aA4 hc j hj
   obtain ⟨v,hv,_⟩:=ab.slot j a ha
   exact ⟨x,v,a1,a2,a3,hv⟩
  ·by_cases hn:as.length=n
   ·rw[AG hn] at q
    have ab1:=ab.ext e1
    have hdF:∀ b∈dL cv,F1 b=none:=fun b hb=>bZ e1.fh (R.free b hb)
    refine ⟨pub cv F1,as,fun a o z=>lI hdF a o (e1.ff a o (ab.f0 a o (ab.t0 a o z))),aI1 e1.fh,yX hG hK hM hcl ab1 R r1,hn,?_⟩
    cases hgg:G as with
    | bad=>rw[hgg] at q;exact q
    | ok a=>
     rw[hgg] at q
     cases a with
     | d x=>
      intro v F2 H2 e2 r2
      exact Rk.ok q v _ _ (e1.trans (yV R.free e1.fh e2)) (aC8 (aA0 e2.ff) r2)
     | l xs=>exact False.elim q
     | m xs=>exact False.elim q
     | x xs=>exact False.elim q
     | g k n f=>exact False.elim q
     | k S=>exact False.elim q
     | f S=>exact False.elim q
     | o S=>exact False.elim q
    | ex x=>
     rw[hgg] at q
     intro a C F2 H2 e2 r2
     obtain ⟨q1,q2⟩:=aI0 (aA0 e2.ff) r2
     exact ⟨q a C _ _ ((ab.all.trans e1).trans (yV R.free e1.fh e2)) q1,fun b hb=>by cases hb;exact q2⟩
   ·rw[AH hn] at q;exact q.elim
 ·exact k.elim
end
section
variable{P:Program}{w:World}{K:Frag}{mg:Str->Option Value}{base:Heap}{T:Hp}
structure DefAtT(K:Frag)(mg:Str->Option Value)(base:Heap)(T:Hp)(qs:List (Pos×Str))(x:Str)(st:Stmt)(ps:List Str):Prop where
 ex:∃ f oc od kV doc pm an c0 ct osl P0,K.lookup f=some ⟨oc,od,.func (PySem.W.fnOf x x (hR st) (cQ st) (aN st) .none kV doc pm an (.ref c0) ct),osl⟩/\PySem.W.codeIn K (.ref c0) x=true/\PySem.W.keepIn K (.ref f)=true /\
  iT K (PySem.W.fnOf x x (hR st) (cQ st) (aN st) .none kV doc pm an (.ref c0) ct) ps []/\mg x=some (.ref f)/\Tb mg base c0 P0/\T P0=some (.tbl qs)
theorem aI3{h:Heap}{qs:List (Pos×Str)}{xs:List Str}{x:Str}{st:Stmt}{ps:List Str}(D:DefAt K mg x st ps)(KX:K.In h)(TL:aAG mg h base T qs xs)(hx:x∈xs):DefAtT K mg base T qs x st ps:=by
 obtain ⟨f,fd,F,b,m⟩:=D.ex
 obtain ⟨oc,od,kV,doc,pm,an,cdv,ct,osl,rfl,lk,hcd⟩:=F.ex
 obtain ⟨c0,P0,t1,t2,t3⟩:=TL x hx
 have e:cdv=.ref c0:=t3 f _ _ m (KX _ _ lk) rfl
 subst e
 exact ⟨f,oc,od,kV,doc,pm,an,c0,ct,osl,P0,lk,hcd,F.kp,b,m,t2,t1⟩
theorem xK{x:Str}{st:Stmt}{N ps:List Str}{k:Nat}{qs:List (Pos×Str)}{cls:Str->Option ClSt}{fb:Sg->R Fw}(D:DefAtT K mg base T qs x st ps)(S:FnScope N ps (aN st))
  (hbody:∀ (f c0 P0:Addr) (A:Around) (outer:List Env) (s:Shared) (H F:Hp) (E:XK),Tb mg base c0 P0->T P0=some (.tbl qs)->Room k (A.deeper (envOfC x (aN st) s.heap.objs.size f (.ref c0)))->
   mB ((j1 (CXe P w) P w K mg base N x (aN st) f (.ref c0) A outer s H E).fly E) ⟨K,mg,w,F,H,gOf P w K mg base T,(envOfC x (aN st) s.heap.objs.size f (.ref c0)).cells,cls⟩ E (cQ st) fb):aX P w K mg base T (k+1) x ps (fnF N.length fb):=by
 obtain ⟨f,oc,od,kV,doc,pm,an,c0,ct,osl,P0,lk,hcd,kp,b,m,t2,t1⟩:=D.ex
 refine ⟨f,_,aEC lk hcd S (fun vs H Q E h=>?_) (fun A outer s H vs Q E hr h=>?_),b,m,kp⟩
 ·obtain ⟨F,as,_,_,h2,h3,_⟩:=h
  rw[h2.len,h3]
 ·obtain ⟨F,as,h0,h1,h2,h3,h4⟩:=h
  exact ⟨_,(hbody f c0 P0 A outer s H F E t2 t1 hr).unfly fun _ _ z=>yJ z,sO h0 h1 h2 h4⟩
end
noncomputable def xL:Stmt->Expr
 | .Assign _ e _=>e
 | .Return (some e) _=>e
 | _=>.Constant .none 0 ⟨0,0,0,0⟩
def aPP:Expr->Expr
 | .Subscript e _ _=>e
 | e=>e
noncomputable def xM(e:Expr)(i:Nat):Expr:=match e with
 | .Call _ as _ _=>as.getD i (.Constant .none 0 ⟨0,0,0,0⟩)
 | e=>e
noncomputable def clS(q:Str):Stmt->ClSt
 | .FunctionDef x a b _ _ _ sc _ _ _=>⟨x,q,a,.stmts b,sc⟩
 | s=>⟨"",q,hR s,.stmts [],aN s⟩
noncomputable def clE(q:Str):Expr->ClSt
 | .Lambda a b sc _=>⟨"<lambda>",q,a,.expr b,sc⟩
 | _=>⟨"",q,hR (.Pass ⟨0,0,0,0⟩),.stmts [],aN (.Pass ⟨0,0,0,0⟩)⟩
noncomputable def aPQ:Stmt->Pos
 | .FunctionDef _ _ _ _ _ _ _ _ _ p=>p
 | _=>⟨0,0,0,0⟩
noncomputable def aI4:Expr->Pos
 | .Lambda _ _ _ p=>p
 | _=>⟨0,0,0,0⟩
theorem aA6{X:Cx}:∀ j∈([]:List Nat),∃ x,X.N[j]? = some x/\X.env.kindOf x=some .cell/\X.fn x=true:=fun j h=>by simp at h
theorem sV{X:Cx}{i:Nat}{js:List Nat}(h:∃ x,X.N[i]? = some x/\X.env.kindOf x=some .cell/\X.fn x=true)(t:∀ j∈js,∃ x,X.N[j]? = some x/\X.env.kindOf x=some .cell/\X.fn x=true):∀ j∈i::js,∃ x,X.N[j]? = some x/\X.env.kindOf x=some .cell/\X.fn x=true:=fun j hj=>by
 rcases AS.mp hj with z|z
 · subst z; exact h
 · exact t j z
end Fl
namespace Zp
open PySem
section
variable{prog:Program}{w:World}{A:Around}{E:Value->Shared->Prop}{s:Shared}
theorem tH{it t:Addr}{i:Nat}{items}{x:Value}{Q:Value->Shared->Prop}(hit:s.heap.IsTupleIter it t i)
  (ht:s.heap.IsTuple t items) (hx:items[i]? = some x) (hQ:∀ h',h'.IsTupleIter it t (i+1)->Heap.SameBut it s.heap h'->Q x {s with heap:=h'}) :
  wpAny (model prog w) A (Builtin.SmallTypes.nextOf (.ref it)) Q E s:=by
 obtain ⟨o,ho,hc,hd⟩:=id hit
 obtain ⟨ol,hol,_,nl,hdl⟩:=ht
 unfold Builtin.SmallTypes.nextOf
 refine AA (DA (name:=Str.ofString "__next__") hit.typeIs DO
  (EE DO hit.typeIs FH ?_ (FF _)))
 show wpAny _ _ (field (.ref it) 0 >>= _) _ _ s
 refine AA (BV ho hd (x:=.ref t) rfl ?_)
 show wpAny _ _ (if (Value.ref t == Value.none)=true then _ else _) _ _ s
 rw[AH (show ¬ ((Value.ref t == Value.none)=true) from B6)]
 show wpAny _ _ (field (.ref it) 1 >>= _) _ _ s
 refine AA (BV ho hd (x:=.int i 0) rfl ?_)
 show wpAny _ _ (seqItems? (.ref t) >>= _) _ _ s
 refine AA (CW hol hdl ?_)
 simp only[ES,hx]
 refine AA (EL ho hd (by simp) (AD ⟨x,rfl,AD (hQ _ ?_ (CC ..))⟩))
 exact ⟨_,CJ _ ho (EX (DV hd _)),(Obj.cls_mapFields ..).trans hc,by
  rw[DV hd];simp[rawInt]⟩
theorem uH{it t:Addr}{i:Nat}{items}{Q:Value->Shared->Prop}(hh:A.handled=none)
  (hit:s.heap.IsTupleIter it t i) (ht:s.heap.IsTuple t items) (hx:items[i]? = none)
  (hE:∀ h' e,Heap.ExtBut it s.heap h'->(∃ o,h'.get? e=some o/\o.cls=.type "StopIteration")->E (.ref e) {s with heap:=h'}) :
  wpAny (model prog w) A (Builtin.SmallTypes.nextOf (.ref it)) Q E s:=by
 obtain ⟨o,ho,hc,hd⟩:=id hit
 obtain ⟨ol,hol,_,nl,hdl⟩:=ht
 unfold Builtin.SmallTypes.nextOf
 refine AA (DA (name:=Str.ofString "__next__") hit.typeIs DO
  (EE DO hit.typeIs FH ?_ (FF _)))
 show wpAny _ _ (field (.ref it) 0 >>= _) _ _ s
 refine AA (BV ho hd (x:=.ref t) rfl ?_)
 show wpAny _ _ (if (Value.ref t == Value.none)=true then _ else _) _ _ s
 rw[AH (show ¬ ((Value.ref t == Value.none)=true) from B6)]
 show wpAny _ _ (field (.ref it) 1 >>= _) _ _ s
 refine AA (BV ho hd (x:=.int i 0) rfl ?_)
 show wpAny _ _ (seqItems? (.ref t) >>= _) _ _ s
 refine AA (CW hol hdl ?_)
 simp only[ES,hx]
 refine AA (E6 (AA (EL ho hd (by simp) ?_)))
 show wpAny _ _ (newExc (.type "StopIteration") [] >>= _) _ _ _
 refine AA ?_
 simp only[newExc,newTuple]
 refine AA (CN ?_ (by size_fits))
 refine AA (m:=firstArgMember _ _) (wpAny_of_eq (a:=Value.none) (by first|rfl|(simp only[firstArgMember];rfl)) ?_)
 refine CN ?_ (by size_fits)
 simp only[raiseNew]
 refine AA (wpAny_handled ?_)
 first|rw[show A.in1.handled=none from hh]|rw[hh]
 refine AA (AD (wpAny_throw ?_))
 exact hE _ _ (((CC ..).extBut.push _).push _) ⟨_,AX _ rfl,rfl⟩
end
theorem aCE{prog:Program}{w:World}{A:Around}(hh:A.handled=none)(it l:Addr)(hne:l≠it)(items:Array Value) :
  Draws prog w A it [it,l] items.size (fun i v=>items[i]? = some v) (fun i h=>h.IsTupleIter it l i/\h.IsTuple l items) where
 live:=fun _ _ st=>let ⟨o,ho,_⟩:=st.1;⟨o,ho⟩
 frame:=fun _ _ _ st hk=>⟨let ⟨o,ho,r⟩:=st.1;⟨o,hk it (by simp) o ho,r⟩,let ⟨o,ho,r⟩:=st.2;⟨o,hk l (by simp) o ho,r⟩⟩
 item:=fun i s Q E hi st hQ=>by
  refine tH st.1 st.2 (x:=items[i]) (by simp[hi]) fun h' hit' hs'=>?_
  exact hQ _ h' s.toks (by simp[hi]) ⟨hit',st.2.extBut hs'.extBut hne⟩ hs'
 done:=fun s Q E st hE=>uH hh st.1 st.2 (by simp) hE
structure Apart(z TI TO i1 i2:Addr)(f1 f2:List Addr):Prop where
 TIz:TI≠z
 TOz:TO≠z
 i1z:i1≠z
 i2z:i2≠z
 TITO:TI≠TO
 TIi1:TI≠i1
 TIi2:TI≠i2
 TOi1:TO≠i1
 TOi2:TO≠i2
 i12:i1≠i2
 z1:z∉f1
 z2:z∉f2
 t1:TO∉f1
 t2:TO∉f2
 i1f2:i1∉f2
 i2f1:i2∉f1
section
variable{prog:Program}{w:World}{A:Around}{E:Value->Shared->Prop}{s:Shared}
abbrev nL(h:Heap)(z TI TO:Addr)(f0 f1:Value):Prop:=h.get? z=some {cls:=.type "zip",dict:=none,data:=.fields #[f0,f1,.bool false,.ref TI,.ref TO],slots:=#[]}
theorem aI5{M:Model}{A:Around}{E:Value->Shared->Prop}{s:Shared}{a:Addr}{Q:Option Obj->Shared->Prop}(h:Q (s.heap.get? a) s):wpAny M A (loadIfAlive a) Q E s:=fun Γ p _=>by
 unfold loadIfAlive
 rw[Sem.wp_loadIfAlive]
 exact h
theorem yY{z TI TO:Addr}{f0:Value}{bb:Bool}{Q:Bool->Shared->Prop}(hz:nL s.heap z TI TO f0 (.bool bb))(hf:f0=.none\/∃ T:Addr,f0=rawInt T/\s.heap.get? T=none)(h:Q true s):wpAny (model prog w) A (Builtin.SmallTypes.ownedTupleIsFree (.ref z)) Q E s:=by
 unfold Builtin.SmallTypes.ownedTupleIsFree
 refine AA (BV hz rfl (x:=f0) rfl ?_)
 rcases hf with rfl|⟨T,rfl,hT⟩
 ·exact AD h
 ·show wpAny _ _ (loadIfAlive ((T:Int)).toNat >>= _) _ _ s
  refine AA (aI5 ?_)
  rw[show ((T:Int)).toNat=T by omega,hT]
  exact AD h
theorem aGZ{z TI TO i1 i2:Addr}{f1 f2:List Addr}{n1 n2 i:Nat}{P1 P2:Nat->Value->Prop}{S1 S2:Nat->Heap->Prop}{a b f0:Value}{bb:Bool}{Q:Value->Shared->Prop}(D:Apart z TI TO i1 i2 f1 f2)
  (D1:Draws prog w A i1 f1 n1 P1 S1) (D2:Draws prog w A i2 f2 n2 P2 S2)
  (hz:nL s.heap z TI TO f0 (.bool bb)) (hfr:f0=.none\/∃ T:Addr,f0=rawInt T/\s.heap.get? T=none) (hTI:IsPair s.heap TI (.ref i1) (.ref i2)) (hTO:IsPair s.heap TO a b) (h1:S1 i s.heap) (h2:S2 i s.heap) (l1:i < n1) (l2:i < n2)
  (hQ:∀ x y h' tk,P1 i x->P2 i y->IsZip h' z TI TO (rawInt s.heap.objs.size)->IsPair h' TO x y->S1 (i+1) h'->S2 (i+1) h'->IsPair h' s.heap.objs.size x y->h'.objs.size=s.heap.objs.size+1->
   (∀ c o,c≠z->c≠TO->c≠i1->c≠i2->s.heap.get? c=some o->h'.get? c=some o)->Q (.ref s.heap.objs.size) {s with heap:=h',toks:=tk}) :
  wpAny (model prog w) A (Builtin.«zip.__next__» ⟨[.ref z],[]⟩) (fun fin s'=>∃ v,fin=.done (.ret v)/\Q v s') E s:=by
 show wpAny _ _ (field (.ref z) 2 >>= _) _ _ _
 refine AA (BV hz rfl (x:=.bool false) rfl ?_)
 show wpAny _ _ (field (.ref z) 3 >>= _) _ _ _
 refine AA (BV hz rfl (x:=.ref TI) rfl ?_)
 refine AA (CW hTI rfl ?_)
 show wpAny _ _ (Builtin.SmallTypes.ownedTupleIsFree (.ref z) >>= _) _ _ _
 refine AA (yY hz hfr ?_)
 simp only[CF]
 refine AA (E6 ?_)
 refine AA (BV hz rfl (x:=.ref TO) rfl ?_)
 refine AA (DG hz (by simp) fun h₁ hz₁ hs₁=>?_)
 replace hz₁:nL h₁ z TI TO .ellipsis (.bool bb):=hz₁
 refine AA ?_
 simp only[List.zipIdx_cons,List.zipIdx_nil,CP,FE]
 have fr:∀ {f:List Addr} {c:Addr} {g g':Heap},Heap.SameBut c g g'->c∉f->∀ b∈f,∀ o,g.get? b=some o->g'.get? b=some o:=fun hs hc b hb o e=>hs.extBut _ _ (fun z=>hc (z▸hb)) e
 refine AA (AA (FQ ?_))
 show wpAny _ _ (Builtin.SmallTypes.nextOf (.ref i1) >>= _) _ _ _
 refine AA (D1.item i {s with heap:=h₁} _ _ l1 (D1.frame _ _ _ h1 (fr hs₁ D.z1)) fun x h₂ tk1 px h1₂ hs₂=>AD ?_)
 have hTO₂:IsPair h₂ TO a b:=hs₂.extBut _ _ D.TOi1 (hs₁.extBut _ _ D.TOz hTO)
 refine AA (CW hTO₂ rfl ?_)
 refine AA (E7 hTO₂ fun h₃ hTO₃ hs₃=>?_)
 replace hTO₃:IsPair h₃ TO x b:=hTO₃
 refine AA (wpAny_letGo (AD ?_))
 refine AA (AA (FQ ?_))
 show wpAny _ _ (Builtin.SmallTypes.nextOf (.ref i2) >>= _) _ _ _
 refine AA (D2.item i {s with heap:=h₃,toks:=tk1} _ _ l2 (D2.frame _ _ _ (D2.frame _ _ _ (D2.frame _ _ _ h2 (fr hs₁ D.z2)) (fr hs₂ D.i1f2)) (fr hs₃ D.t2)) fun y h₄ tk2 py h2₄ hs₄=>AD ?_)
 have hs₄:Heap.SameBut i2 h₃ h₄:=hs₄
 have hs₂:Heap.SameBut i1 h₁ h₂:=hs₂
 have hTO₄:IsPair h₄ TO x b:=hs₄.extBut _ _ D.TOi2 hTO₃
 refine AA (CW hTO₄ rfl ?_)
 refine AA (E7 hTO₄ fun h₅ hTO₅ hs₅=>?_)
 replace hTO₅:IsPair h₅ TO x y:=hTO₅
 refine AA (wpAny_letGo (AD (AD ?_)))
 refine AA (CW hTO₅ rfl ?_)
 refine AA (wpAny_newTuple ?_)
 have hsz:h₅.objs.size=s.heap.objs.size:=by rw[hs₅.1];show h₄.objs.size=_;rw[hs₄.1,hs₃.1];show h₂.objs.size=_;rw[hs₂.1,hs₁.1]
 have hs₃:Heap.SameBut TO h₂ h₃:=hs₃
 have hs₅:Heap.SameBut TO h₄ h₅:=hs₅
 have hz₅:nL h₅ z TI TO .ellipsis (.bool bb):=hs₅.extBut _ _ D.TOz.symm (hs₄.extBut _ _ D.i2z.symm (hs₃.extBut _ _ D.TOz.symm (hs₂.extBut _ _ D.i1z.symm hz₁)))
 have hk₅:∀ c o,c≠z->c≠TO->c≠i1->c≠i2->s.heap.get? c=some o->h₅.get? c=some o:=fun c o c1 c2 c3 c4 e=>
  hs₅.extBut _ _ c2 (hs₄.extBut _ _ c4 (hs₃.extBut _ _ c2 (hs₂.extBut _ _ c3 (hs₁.extBut _ _ c1 e))))
 have h1₅:S1 (i+1) h₅:=D1.frame _ _ _ (D1.frame _ _ _ (D1.frame _ _ _ h1₂ (fr hs₃ D.t1)) (fr hs₄ D.i2f1)) (fr hs₅ D.t1)
 have h2₅:S2 (i+1) h₅:=D2.frame _ _ _ h2₄ (fr hs₅ D.t2)
 have hzlt:z < h₅.objs.size:=AM hz₅
 show wpAny _ _ (Builtin.SmallTypes.ownedTupleHandOut (.ref z) (.ref h₅.objs.size) >>= _) _ _ _
 refine AA ?_
 unfold Builtin.SmallTypes.ownedTupleHandOut
 have hz₆:nL (h₅.push {cls:=.type "tuple",data:=.seq #[x,y]}) z TI TO .ellipsis (.bool bb):=AC _ hz₅
 refine AA (DG hz₆ (by simp) fun h₇ hz₇ hs₇=>?_)
 replace hz₇:nL h₇ z TI TO (rawInt h₅.objs.size) (.bool bb):=hz₇
 refine DG hz₇ (by simp) fun h₈ hz₈ hs₈=>?_
 replace hz₈:IsZip h₈ z TI TO (rawInt h₅.objs.size):=hz₈
 have up:∀ c o,c≠z->h₅.get? c=some o->h₈.get? c=some o:=fun c o c1 e=>hs₈.extBut _ _ c1 (hs₇.extBut _ _ c1 (AC _ e))
 have hT₈:IsPair h₈ h₅.objs.size x y:=hs₈.extBut _ _ (DD hzlt) (hs₇.extBut _ _ (DD hzlt) (AX _ rfl))
 have hz8:h₈.objs.size=h₅.objs.size+1:=by rw[hs₈.1,hs₇.1,B2]
 rw[hsz] at hz₈ hT₈ hz8
 refine AD ⟨_,rfl,?_⟩
 show Q (.ref h₅.objs.size) _
 rw[hsz]
 exact hQ x y h₈ tk2 px py hz₈ (up _ _ D.TOz hTO₅) (D1.frame _ _ _ h1₅ fun b hb o e=>up b o (fun q=>D.z1 (q▸hb)) e) (D2.frame _ _ _ h2₅ fun b hb o e=>up b o (fun q=>D.z2 (q▸hb)) e) hT₈ hz8 fun c o c1 c2 c3 c4 e=>up c o c1 (hk₅ c o c1 c2 c3 c4 e)
theorem aI6{z TI TO i1 i2:Addr}{f1 f2:List Addr}{n1 n2 i:Nat}{P1 P2:Nat->Value->Prop}{S1 S2:Nat->Heap->Prop}{a b f0:Value}{bb:Bool}{Q:Fin->Shared->Prop}(D:Apart z TI TO i1 i2 f1 f2)
  (D1:Draws prog w A i1 f1 n1 P1 S1) (D2:Draws prog w A i2 f2 n2 P2 S2)
  (hz:nL s.heap z TI TO f0 (.bool bb)) (hfr:f0=.none\/∃ T:Addr,f0=rawInt T/\s.heap.get? T=none) (hTI:IsPair s.heap TI (.ref i1) (.ref i2)) (hTO:IsPair s.heap TO a b) (h1:S1 i s.heap) (h2:S2 i s.heap) (hend:i=n1\/(i < n1/\i=n2))
  (hE:∀ h' tk e,(∀ c o,c≠z->c≠TO->c≠i1->c≠i2->s.heap.get? c=some o->h'.get? c=some o)->(∃ o,h'.get? e=some o/\o.cls=.type "StopIteration")->E (.ref e) {s with heap:=h',toks:=tk}) :
  wpAny (model prog w) A (Builtin.«zip.__next__» ⟨[.ref z],[]⟩) Q E s:=by
 show wpAny _ _ (field (.ref z) 2 >>= _) _ _ _
 refine AA (BV hz rfl (x:=.bool false) rfl ?_)
 show wpAny _ _ (field (.ref z) 3 >>= _) _ _ _
 refine AA (BV hz rfl (x:=.ref TI) rfl ?_)
 refine AA (CW hTI rfl ?_)
 show wpAny _ _ (Builtin.SmallTypes.ownedTupleIsFree (.ref z) >>= _) _ _ _
 refine AA (yY hz hfr ?_)
 simp only[CF]
 refine AA (E6 ?_)
 refine AA (BV hz rfl (x:=.ref TO) rfl ?_)
 refine AA (DG hz (by simp) fun h₁ hz₁ hs₁=>?_)
 replace hz₁:nL h₁ z TI TO .ellipsis (.bool bb):=hz₁
 refine AA ?_
 simp only[List.zipIdx_cons,List.zipIdx_nil,CP,FE]
 have fr:∀ {f:List Addr} {c:Addr} {g g':Heap},Heap.SameBut c g g'->c∉f->∀ b∈f,∀ o,g.get? b=some o->g'.get? b=some o:=fun hs hc b hb o e=>hs.extBut _ _ (fun z=>hc (z▸hb)) e
 refine AA (AA (FQ ?_))
 show wpAny _ _ (Builtin.SmallTypes.nextOf (.ref i1) >>= _) _ _ _
 rcases hend with rfl|⟨l1,rfl⟩
 ·refine AA (D1.done {s with heap:=h₁} _ _ (D1.frame _ _ _ h1 (fr hs₁ D.z1)) fun h₂ e hs₂ he=>?_)
  obtain ⟨oe,hoe,hce⟩:=he
  have hz₂:nL h₂ z TI TO .ellipsis (.bool bb):=hs₂ _ _ D.i1z.symm hz₁
  have hez:e≠z:=fun x=>by subst x;rw[hz₂] at hoe;cases hoe;simp at hce
  refine DG hz₂ (by simp) fun h₃ _ hs₃=>hE h₃ s.toks e (fun c o c1 _ c3 _ x=>hs₃.extBut _ _ c1 (hs₂ _ _ c3 (hs₁.extBut _ _ c1 x))) ⟨oe,hs₃.extBut _ _ hez hoe,hce⟩
 ·refine AA (D1.item i {s with heap:=h₁} _ _ l1 (D1.frame _ _ _ h1 (fr hs₁ D.z1)) fun x h₂ tk1 px h1₂ hs₂=>AD ?_)
  have hs₂:Heap.SameBut i1 h₁ h₂:=hs₂
  have hTO₂:IsPair h₂ TO a b:=hs₂.extBut _ _ D.TOi1 (hs₁.extBut _ _ D.TOz hTO)
  refine AA (CW hTO₂ rfl ?_)
  refine AA (E7 hTO₂ fun h₃ hTO₃ hs₃=>?_)
  have hs₃:Heap.SameBut TO h₂ h₃:=hs₃
  refine AA (wpAny_letGo (AD ?_))
  refine AA (AA (FQ ?_))
  show wpAny _ _ (Builtin.SmallTypes.nextOf (.ref i2) >>= _) _ _ _
  refine AA (D2.done {s with heap:=h₃,toks:=tk1} _ _ (D2.frame _ _ _ (D2.frame _ _ _ (D2.frame _ _ _ h2 (fr hs₁ D.z2)) (fr hs₂ D.i1f2)) (fr hs₃ D.t2)) fun h₄ e hs₄ he=>?_)
  have hs₄:Heap.ExtBut i2 h₃ h₄:=hs₄
  obtain ⟨oe,hoe,hce⟩:=he
  have hz₄:nL h₄ z TI TO .ellipsis (.bool bb):=hs₄ _ _ D.i2z.symm (hs₃.extBut _ _ D.TOz.symm (hs₂.extBut _ _ D.i1z.symm hz₁))
  have hez:e≠z:=fun x=>by subst x;rw[hz₄] at hoe;cases hoe;simp at hce
  refine DG hz₄ (by simp) fun h₅ _ hs₅=>hE h₅ tk1 e (fun c o c1 c2 c3 c4 x=>hs₅.extBut _ _ c1 (hs₄ _ _ c4 (hs₃.extBut _ _ c2 (hs₂.extBut _ _ c3 (hs₁.extBut _ _ c1 x))))) ⟨oe,hs₅.extBut _ _ hez hoe,hce⟩
theorem aI7{z TI TO i1 i2:Addr}{f1 f2:List Addr}{n1 n2 i:Nat}{P1 P2:Nat->Value->Prop}{S1 S2:Nat->Heap->Prop}{a b:Value}{Q:Value->Shared->Prop}(D:Apart z TI TO i1 i2 f1 f2)
 (D1:Draws prog w A i1 f1 n1 P1 S1) (D2:Draws prog w A i2 f2 n2 P2 S2)
 (hz:IsZip s.heap z TI TO .none) (hTI:IsPair s.heap TI (.ref i1) (.ref i2)) (hTO:IsPair s.heap TO a b) (h1:S1 i s.heap) (h2:S2 i s.heap) (l1:i < n1) (l2:i < n2)
 (hQ:∀ x y h' tk,P1 i x->P2 i y->IsZip h' z TI TO (rawInt s.heap.objs.size)->IsPair h' TO x y->S1 (i+1) h'->S2 (i+1) h'->IsPair h' s.heap.objs.size x y->h'.objs.size=s.heap.objs.size+1->
  (∀ c o,c≠z->c≠TO->c≠i1->c≠i2->s.heap.get? c=some o->h'.get? c=some o)->Q (.ref s.heap.objs.size) {s with heap:=h',toks:=tk}) :
 wpAny (model prog w) A (Builtin.«zip.__next__» ⟨[.ref z],[]⟩) (fun fin s'=>∃ v,fin=.done (.ret v)/\Q v s') E s:=aGZ D D1 D2 hz (.inl rfl) hTI hTO h1 h2 l1 l2 hQ
theorem aMF{z TI TO i1 i2:Addr}{f1 f2:List Addr}{n1 n2 i:Nat}{P1 P2:Nat->Value->Prop}{S1 S2:Nat->Heap->Prop}{a b:Value}{Q:Fin->Shared->Prop}(D:Apart z TI TO i1 i2 f1 f2)
 (D1:Draws prog w A i1 f1 n1 P1 S1) (D2:Draws prog w A i2 f2 n2 P2 S2)
 (hz:IsZip s.heap z TI TO .none) (hTI:IsPair s.heap TI (.ref i1) (.ref i2)) (hTO:IsPair s.heap TO a b) (h1:S1 i s.heap) (h2:S2 i s.heap) (hend:i=n1\/(i < n1/\i=n2))
 (hE:∀ h' tk e,(∀ c o,c≠z->c≠TO->c≠i1->c≠i2->s.heap.get? c=some o->h'.get? c=some o)->(∃ o,h'.get? e=some o/\o.cls=.type "StopIteration")->E (.ref e) {s with heap:=h',toks:=tk}) :
 wpAny (model prog w) A (Builtin.«zip.__next__» ⟨[.ref z],[]⟩) Q E s:=aI6 D D1 D2 hz (.inl rfl) hTI hTO h1 h2 hend hE
theorem aG0{z TI TO i1 i2:Addr}{f1 f2:List Addr}{n1 n2 i:Nat}{P1 P2:Nat->Value->Prop}{S1 S2:Nat->Heap->Prop}{a b:Value}{Q:Option Value->Shared->Prop}(D:Apart z TI TO i1 i2 f1 f2)
  (D1:Draws prog w A.in1 i1 f1 n1 P1 S1) (D2:Draws prog w A.in1 i2 f2 n2 P2 S2)
  (hz:IsZip s.heap z TI TO .none) (hTI:IsPair s.heap TI (.ref i1) (.ref i2)) (hTO:IsPair s.heap TO a b) (h1:S1 i s.heap) (h2:S2 i s.heap) (l1:i < n1) (l2:i < n2)
  (hQ:∀ x y h' tk,P1 i x->P2 i y->IsZip h' z TI TO (rawInt s.heap.objs.size)->IsPair h' TO x y->S1 (i+1) h'->S2 (i+1) h'->IsPair h' s.heap.objs.size x y->h'.objs.size=s.heap.objs.size+1->
   (∀ c o,c≠z->c≠TO->c≠i1->c≠i2->s.heap.get? c=some o->h'.get? c=some o)->Q (some (.ref s.heap.objs.size)) {s with heap:=h',toks:=tk}) :
  wpAny (model prog w) A (pyNext (.ref z)) Q E s:=by
 have hT:s.TypeIs (.ref z) "zip":=⟨_,hz,rfl⟩
 unfold pyNext
 exact AA (FM (DA (name:=Str.ofString "__next__") hT E8
  (EE E8 hT F.entry_zip_next
   (aI7 D D1 D2 hz hTI hTO h1 h2 l1 l2 fun x y h' tk p1 p2 a1 a2 a3 a4 a5 a6 a7=>AD (hQ x y h' tk p1 p2 a1 a2 a3 a4 a5 a6 a7)) (F.args_zip_next_1 _))))
theorem aI8{z TI TO i1 i2:Addr}{f1 f2:List Addr}{n1 n2 i:Nat}{P1 P2:Nat->Value->Prop}{S1 S2:Nat->Heap->Prop}{a b:Value}{Q:Option Value->Shared->Prop}(D:Apart z TI TO i1 i2 f1 f2)
  (D1:Draws prog w A.in1 i1 f1 n1 P1 S1) (D2:Draws prog w A.in1 i2 f2 n2 P2 S2)
  (hz:IsZip s.heap z TI TO .none) (hTI:IsPair s.heap TI (.ref i1) (.ref i2)) (hTO:IsPair s.heap TO a b) (h1:S1 i s.heap) (h2:S2 i s.heap) (hend:i=n1\/(i < n1/\i=n2))
  (hQ:∀ h' tk,(∀ c o,c≠z->c≠TO->c≠i1->c≠i2->s.heap.get? c=some o->h'.get? c=some o)->Q none {s with heap:=h',toks:=tk}):wpAny (model prog w) A (pyNext (.ref z)) Q E s:=by
 have hT:s.TypeIs (.ref z) "zip":=⟨_,hz,rfl⟩
 unfold pyNext
 refine AA (FM (DA (name:=Str.ofString "__next__") hT E8
  (EE E8 hT F.entry_zip_next (aMF D D1 D2 hz hTI hTO h1 h2 hend fun h' tk e hk he=>?_) (F.args_zip_next_1 _))))
 obtain ⟨o,ho,hc⟩:=he
 refine AA (wpAny_isInstance (T:="StopIteration") (b:=true) ⟨o,ho,hc⟩ isSubtype_stop ?_)
 exact AD (hQ _ _ hk)
end
def nM(v:Value)(o:Obj)(h:Heap):Prop:=∀ (prog:Program) (w:World) (A:Around) (E:Value->Shared->Prop) (s:Shared) (Q:Value->Shared->Prop),s.heap=h->Q (.ref h.objs.size) {s with heap:=h.push o}->wpAny (model prog w) A (pyIter v) Q E s
noncomputable abbrev H2(h:Heap)(o1 o2:Obj):Heap:=(h.push o1).push o2
noncomputable abbrev H3(h:Heap)(o1 o2:Obj):Heap:=(H2 h o1 o2).push {cls:=.type "tuple",data:=.seq #[.ref h.objs.size,.ref (h.push o1).objs.size]}
noncomputable abbrev H4(h:Heap)(o1 o2:Obj):Heap:=(H3 h o1 o2).push {cls:=.type "tuple",data:=.seq #[.none,.none]}
noncomputable abbrev H5(h:Heap)(o1 o2:Obj):Heap:=(H4 h o1 o2).push {cls:=.type "zip",data:=.fields #[.none,.bool false,.bool false,.ref (H2 h o1 o2).objs.size,.ref (H3 h o1 o2).objs.size]}
theorem aG1(v1 v2:Value)(o1 o2:Obj) :
  Meets (Builtin.«zip.__new__» ⟨[.type "zip",v1,v2],[]⟩) (fun _ R s=>nM v1 o1 s.heap/\nM v2 o2 (s.heap.push o1) /\
   R (.ok (.ret (.ref (H4 s.heap o1 o2).objs.size))) {s with heap:=H5 s.heap o1 o2}):=
 .of_wp fun prog w A R s h=>by
  obtain ⟨hp,g,d,tk,os⟩:=s;obtain ⟨hl1,hl2,h⟩:=h
  have hsub:=sub_zip
  have p1:∀ {A:Around} {E:Value->Shared->Prop} {Q:Value->Shared->Prop},Q (.ref hp.objs.size) ⟨hp.push o1,g,d,tk,os⟩->wpAny (model prog w) A (pyIter v1) Q E ⟨hp,g,d,tk,os⟩:=fun hq=>hl1 prog w _ _ ⟨hp,g,d,tk,os⟩ _ rfl hq
  have p2:∀ {A:Around} {E:Value->Shared->Prop} {Q:Value->Shared->Prop},Q (.ref (hp.push o1).objs.size) ⟨(hp.push o1).push o2,g,d,tk,os⟩->wpAny (model prog w) A (pyIter v2) Q E ⟨hp.push o1,g,d,tk,os⟩:=fun hq=>hl2 prog w _ _ ⟨hp.push o1,g,d,tk,os⟩ _ rfl hq
  wp_walk using p1,p2
  exact ⟨_,rfl,h⟩
section
variable{prog:Program}{w:World}{A:Around}{E:Value->Shared->Prop}{s:Shared}
theorem aI9{v1 v2:Value}{o1 o2:Obj}{Q:Value->Shared->Prop}(h1:nM v1 o1 s.heap)(h2:nM v2 o2 (s.heap.push o1))(f1:o1.isFreed=false)(f2:o2.isFreed=false)
  (h:∀ h',IsZip h' (s.heap.objs.size+4) (s.heap.objs.size+2) (s.heap.objs.size+3) .none->IsPair h' (s.heap.objs.size+2) (.ref s.heap.objs.size) (.ref (s.heap.objs.size+1))->
   IsPair h' (s.heap.objs.size+3) .none .none->h'.get? s.heap.objs.size=some o1->h'.get? (s.heap.objs.size+1)=some o2->h'.objs.size=s.heap.objs.size+5->
   (∀ c o,s.heap.get? c=some o->h'.get? c=some o)->Q (.ref (s.heap.objs.size+4)) {s with heap:=h'}) :
  wpAny (model prog w) A (call (.type "zip") [v1,v2]) Q E s:=by
 refine callType_new F.called_zip (by decide) (F.typeCall_zip_2 _ _) (F.newCall_zip_2 _ _) (fun obj=>F.args_object_init_3 obj _ _) F.entry_zip_new
  (aG1 v1 v2 o1 o2) ⟨h1,h2,?_⟩
 have z1:(s.heap.push o1).objs.size=s.heap.objs.size+1:=B2 ..
 have z2:(H2 s.heap o1 o2).objs.size=s.heap.objs.size+2:=by rw[B2,z1]
 have z3:(H3 s.heap o1 o2).objs.size=s.heap.objs.size+3:=by rw[B2,z2]
 have z4:(H4 s.heap o1 o2).objs.size=s.heap.objs.size+4:=by rw[B2,z3]
 have z5:(H5 s.heap o1 o2).objs.size=s.heap.objs.size+5:=by rw[B2,z4]
 have g5:(H5 s.heap o1 o2).get? (H4 s.heap o1 o2).objs.size=some _:=AX _ rfl
 have g4:(H5 s.heap o1 o2).get? (H3 s.heap o1 o2).objs.size=some _:=AC _ (AX _ rfl)
 have g3:(H5 s.heap o1 o2).get? (H2 s.heap o1 o2).objs.size=some _:=AC _ (AC _ (AX _ rfl))
 have g2:(H5 s.heap o1 o2).get? (s.heap.push o1).objs.size=some o2:=AC _ (AC _ (AC _ (AX _ f2)))
 have g1:(H5 s.heap o1 o2).get? s.heap.objs.size=some o1:=AC _ (AC _ (AC _ (AC _ (AX _ f1))))
 show _/\_
 rw[z2,z3,z4] at g5
 rw[z1,z2] at g3
 rw[z3] at g4
 rw[z1] at g2
 rw[z4]
 exact ⟨⟨_,g5,rfl⟩,h _ g5 g3 g4 g1 g2 z5 fun c o x=>
  AC _ (AC _ (AC _ (AC _ (AC _ x))))⟩
end
end Zp
namespace L2
open PySem PySem.Spec PyProof.Rows
abbrev Col:=Hp->List V->Prop
structure ColOk(P:Program)(w:World)(K:Frag)(C:Col)(it:Addr)(tn:Nat->Heap->Prop):Prop where
 obj:∀ i h,tn i h->∃ o,h.get? it=some o/\∀ v,o.data≠.cell v
 keep:∀ i h h',tn i h->(∀ o,h.get? it=some o->h'.get? it=some o)->tn i h'
 one:∀ (X:Cx),X.prog=P->X.w=w->X.K=K->∀ pins s σ H xs ys,Inv X pins σ H s->C H xs->C H ys->xs=ys
 draw:∀ (X:Cx),X.prog=P->X.w=w->X.K=K->∀ (i:Nat) (pins:List (Addr×Obj)) (s:Shared) (σ:St) (H:Hp) (xs:List V) (A:Around),Inv X pins σ H s->jT X pins H it->tn i s.heap->C H xs->A.handled=none->
  ∃ fp Pv St,Draws P w A it fp xs.length Pv St/\St i s.heap/\(∀ j h,St j h->tn j h)/\(∀ j v,Pv j v->∃ x,xs[j]? = some x/\bC x v)/\∀ b,jT X pins H b->b≠it->b∉fp
theorem aDF{X:Cx}{pins:List (Addr×Obj)}{σ:St}{H:Hp}{s:Shared}{b a:Addr}{o:Obj}(I:Inv X pins σ H s)(hf:jT X pins H b)(e:X.base.get? a=some o):b≠a:=by
 obtain ⟨_,_,_,h4,_⟩:=hf
 intro z
 rcases h4 with z2|z2
 ·exact I.ok.noex a o e (z▸z2)
 ·have h5:=AM e
  have h6:=I.ok.bsz
  rw[z] at z2
  exact absurd (AT h5 (BI h6 z2)) (BM _)
theorem aG2{X:Cx}{pins:List (Addr×Obj)}{σ:St}{H:Hp}{s:Shared}{b a:Addr}{xs:List V}(I:Inv X pins σ H s)(hf:jT X pins H b)(h:SqL X.K H a xs):b≠a:=by
 rcases h with (h|⟨o,h⟩)|⟨o,vs,n,h,_⟩
 · intro z; rw [<- z, hf.1] at h; cases h
 · intro z; rw [<- z, hf.1] at h; cases h
 · exact aDF I hf (I.ok.mod.kin _ _ h)
theorem aG3{X:Cx}{pins:List (Addr×Obj)}{σ:St}{H:Hp}{s:Shared}{b a:Addr}{xs:List V}(I:Inv X pins σ H s)(hf:jT X pins H b)(h:SqT X.K H a xs):b≠a:=by
 rcases h with (h|⟨o,h⟩)|⟨o,vs,n,h,_⟩
 · intro z; rw [<- z, hf.1] at h; cases h
 · intro z; rw [<- z, hf.1] at h; cases h
 · exact aDF I hf (I.ok.mod.kin _ _ h)
theorem aJA{P:Program}{w:World}{K:Frag}(a it:Addr):ColOk P w K (fun H xs=>SqL K H a xs) it (fun i h=>h.IsListIter it a i) where
 obj:=fun i h ⟨o,e,c,d⟩=>⟨o,e,fun v z=>by rw[d] at z;cases z⟩
 keep:=fun i h h' st k=>st.at fun o e=>k o e
 one:=by
  intro X hP hw hK pins s σ H xs ys I h1 h2
  subst hK
  exact I.list_inj h1 h2
 draw:=by
  intro X hP hw hK i pins s σ H xs A I hf st hx hh
  subst hP hw hK
  obtain ⟨its,rv,p,hz⟩:=I.list hx
  have hne:=aG2 I hf hx
  refine ⟨[it,a],(fun i v=>its.toArray[i]? = some v),(fun i h=>h.IsListIter it a i/\h.IsList a its.toArray),by rw[show xs.length=its.toArray.size by rw[rv.length];simp];exact Draws.list hh it a (BN hne) its.toArray,⟨st,p.isList⟩,fun j h z=>z.1,fun j v e=>?_,fun b hb nb hm=>?_⟩
  ·have e':its[j]? = some v:=by simpa using e
   have hj:j < xs.length:=by rw[rv.length];exact (AE.mp e').1
   obtain ⟨u,hu,ru⟩:=rv.get (AI hj)
   rw[e'] at hu;cases hu
   exact ⟨_,AI hj,ru⟩
  ·rcases AS.mp hm with z|z
   · exact nb z
   · exact aG2 I hb hx (by simpa using z)
theorem aG4{P:Program}{w:World}{K:Frag}(a it:Addr):ColOk P w K (fun H xs=>SqT K H a xs) it (fun i h=>h.IsTupleIter it a i) where
 obj:=fun i h ⟨o,e,c,d⟩=>⟨o,e,fun v z=>by rw[d] at z;cases z⟩
 keep:=fun i h h' ⟨o,e,r⟩ k=>⟨o,k o e,r⟩
 one:=by
  intro X hP hw hK pins s σ H xs ys I h1 h2
  subst hK
  exact I.tuple_inj h1 h2
 draw:=by
  intro X hP hw hK i pins s σ H xs A I hf st hx hh
  subst hP hw hK
  obtain ⟨its,rv,p,hz⟩:=I.tuple hx
  have hne:=aG3 I hf hx
  refine ⟨[it,a],(fun i v=>its.toArray[i]? = some v),(fun i h=>h.IsTupleIter it a i/\h.IsTuple a its.toArray),by rw[show xs.length=its.toArray.size by rw[rv.length];simp];exact Zp.aCE hh it a (BN hne) its.toArray,⟨st,p⟩,fun j h z=>z.1,fun j v e=>?_,fun b hb nb hm=>?_⟩
  ·have e':its[j]? = some v:=by simpa using e
   have hj:j < xs.length:=by rw[rv.length];exact (AE.mp e').1
   obtain ⟨u,hu,ru⟩:=rv.get (AI hj)
   rw[e'] at hu;cases hu
   exact ⟨_,AI hj,ru⟩
  ·rcases AS.mp hm with z|z
   · exact nb z
   · exact aG3 I hb hx (by simpa using z)
noncomputable def xN(z:Str):List V:=z.cps.toList.map fun c=>V.str ⟨#[c]⟩
theorem aMG{P:Program}{w:World}{K:Frag}(z:Str)(t:Tok)(it:Addr):ColOk P w K (fun _ xs=>xs=xN z) it (fun i h=>h.IsStrIter it (strIterType z) z t i) where
 obj:=fun i h ⟨o,e,c,d⟩=>⟨o,e,fun v z=>by rw[d] at z;cases z⟩
 keep:=fun i h h' ⟨o,e,r⟩ k=>⟨o,k o e,r⟩
 one:=fun _ _ _ _ _ _ _ _ _ _ _ h1 h2=>h1.trans h2.symm
 draw:=by
  intro X hP hw hK i pins s σ H xs A I hf st hx hh
  subst hP hw hK hx
  have hD:Draws X.prog X.w A it [it] z.cps.size (fun i v=>∃ c u,z.cps[i]? = some c/\v=.str ⟨#[c]⟩ u) (fun i h=>h.IsStrIter it (strIterType z) z t i):=by
   unfold strIterType
   split
   · exact Draws.strAscii hh it z t
   · exact Draws.strWide hh it z t
  refine ⟨[it],_,_,by rw[show (xN z).length=z.cps.size by unfold xN;simp];exact hD,st,fun j h z=>z,?_,fun b hb nb hm=>nb (by simpa using hm)⟩
  rintro j v ⟨c,u,hc,rfl⟩
  exact ⟨.str ⟨#[c]⟩,by unfold xN;rw[AJ,GS,hc];rfl,u,rfl⟩
def Itz(C1 C2:Col):It:=
 ⟨fun i H=>∃ xs ys,C1 H xs/\C2 H ys/\i < xs.length/\i < ys.length,fun i H x H'=>∃ p u v,H p=none/\x=.ref p/\H'=upd H p (.tup [u,v])/\(∀ xs,C1 H xs->xs[i]? = some u)/\∀ ys,C2 H ys->ys[i]? = some v,
  fun i H=>∃ xs ys,C1 H xs/\C2 H ys/\(i=xs.length\/(i < xs.length/\i=ys.length))⟩
theorem aJB{P:Program}{w:World}{K:Frag}{es:List Expr}{k1}{tpos:Pos}{C1 C2:Col}{z TI TO i1 i2:Addr}{t1 t2:Nat->Heap->Prop}(c1:ColOk P w K C1 i1 t1)(c2:ColOk P w K C2 i2 t2)(hd:[z,TI,TO,i1,i2].Nodup) :
  Turn P w K (.Tuple es k1 tpos) (Itz C1 C2) [z,TI,TO,i1,i2] z (fun i h=>IsZip h z TI TO .none/\IsPair h TI (.ref i1) (.ref i2)/\(∃ a b,IsPair h TO a b)/\t1 i h/\t2 i h) where
 mem:=by simp
 obj:=fun i h zz0 c hc=>by
  obtain ⟨s1,s2,⟨a,b,s3⟩,s4,s5⟩:=zz0
  simp only[AS,CA,D4] at hc
  rcases hc with rfl|rfl|rfl|rfl|rfl
  ·exact ⟨_,s1,fun v z=>by have z':Data.fields _=Data.cell v:=z;cases z'⟩
  ·exact ⟨_,s2,fun v z=>by have z':Data.seq _ _=Data.cell v:=z;cases z'⟩
  ·exact ⟨_,s3,fun v z=>by have z':Data.seq _ _=Data.cell v:=z;cases z'⟩
  ·exact c1.obj i h s4
  ·exact c2.obj i h s5
 keep:=fun i h h' ⟨s1,s2,⟨a,b,s3⟩,s4,s5⟩ k=>⟨k z (by simp) _ s1,k TI (by simp) _ s2,⟨a,b,k TO (by simp) _ s3⟩,c1.keep i h h' s4 fun o e=>k i1 (by simp) o e,c2.keep i h h' s5 fun o e=>k i2 (by simp) o e⟩
 item:=by
  intro X hP hw hK hc i pins s σ H E I hf st hg
  obtain ⟨s1,s2,⟨a,b,s3⟩,s4,s5⟩:=st
  obtain ⟨xs,ys,q1,q2,l1,l2⟩:=hg
  simp only[CD,AS,CA,D4,GF,DC,and_true,FT] at hd
  obtain ⟨⟨d1,d2,d3,d4⟩,⟨d5,d6,d7⟩,⟨d8,d9⟩,d10⟩:=hd
  have hhd:X.A.in1.handled=none:=I.ok.hd hc
  obtain ⟨f1,P1,S1,D1,a1,a2,a3,a4⟩:=c1.draw X hP hw hK i pins s σ H xs X.A.in1 I (hf i1 (by simp)) s4 q1 hhd
  obtain ⟨f2,P2,S2,D2,b1,b2,b3,b4⟩:=c2.draw X hP hw hK i pins s σ H ys X.A.in1 I (hf i2 (by simp)) s5 q2 hhd
  have one1:=fun zs (h:C1 H zs)=>c1.one X hP hw hK pins s σ H zs xs I h q1
  have one2:=fun zs (h:C2 H zs)=>c2.one X hP hw hK pins s σ H zs ys I h q2
  subst hP hw hK
  have D:Zp.Apart z TI TO i1 i2 f1 f2:=⟨BN d1,BN d2,BN d3,BN d4,d5,d6,d7,d8,d9,d10,a4 z (hf z (by simp)) d3,b4 z (hf z (by simp)) d4,a4 TO (hf TO (by simp)) d8,b4 TO (hf TO (by simp)) d9,b4 i1 (hf i1 (by simp)) d10,a4 i2 (hf i2 (by simp)) (BN d10)⟩
  refine Zp.aG0 D D1 D2 s1 s2 s3 a1 b1 l1 l2 fun x y h' tk px py g1 g2 g3 g4 g5 g6 kp=>?_
  obtain ⟨u,hu,ru⟩:=a3 i x px
  obtain ⟨v,hv,rv⟩:=b3 i y py
  refine ⟨_,rfl,wpAny_letOwnedTupleGo_zip g1 fun h2 se sb=>?_⟩
  have ne1:s.heap.objs.size≠z:=DD (AM s1)
  have hT2:h2.get? s.heap.objs.size=some {cls:=.type "tuple",data:=.seq #[x,y]}:=(sb.2 _ ne1).trans g5
  have fT:H s.heap.objs.size=none:=I.hok.fresh (AK _)
  have kp2:∀ c o,c∉[z,TI,TO,i1,i2]->s.heap.get? c=some o->h2.get? c=some o:=fun c o hc' q=>by
   simp only[AS,CA,D4,GF] at hc'
   exact (sb.2 c hc'.1).trans (kp c o hc'.1 hc'.2.2.1 hc'.2.2.2.1 hc'.2.2.2.2 q)
  have nfp:∀ c uu,H c=some uu->c∉[z,TI,TO,i1,i2]:=fun c uu q z2=>by rw[(hf c z2).1] at q;cases q
  have hok2:HOk X.prog X.w H h2:=fun c uu q=>by
   refine (I.hok c uu q).stay (fun c' v' hc' q'=>kp2 c' v' ?_ q') (fun _ q=>q) (fun _ _ q=>q) fun _ _ q=>q
   rcases hc' with z2|z2
   ·rw[z2];exact nfp c uu q
   ·exact nfp c' _ z2
  have hokT:HOk X.prog X.w (upd H s.heap.objs.size (.tup [u,v])) h2:=HOk.track hok2 fT ⟨by show 2<=sizeLine;decide,[x,y],.cons ru (.cons rv .nil),⟨_,hT2,⟨rfl,rfl⟩,_,rfl⟩⟩
  have ltT:∀ c uu,H c=some uu->c≠s.heap.objs.size:=fun c uu q=>bI q fT
  have I2:Inv X pins σ (upd H s.heap.objs.size (.tup [u,v])) {s with heap:=h2,gens:=s.gens,drawn:=s.drawn,toks:=tk}:=by
   refine I.step (ch:=[z,TI,TO,i1,i2]) (fun c hc'=>?_) (fun c o _ _ hc' q _=>kp2 c o hc' q) (fun c o _ _ hc' q _=>⟨o.slots,kp2 c o hc' q⟩)
    (fun c o _ q n=>by rw[aM (BL (AM q))];exact n) (fun c o hc' q=>⟨o,kp2 c o hc' q⟩) (fun c ys q=>by rw[aM (ltT c _ q)];exact q) (fun c o uu q=>by rw[aM (ltT c _ q)];exact q)
    (fun c ps q=>by rw[aM (ltT c _ q)];exact q) (fun m hm=>?_) hokT I.bare
   ·obtain ⟨e0,e1,e2,e3,e4,e5⟩:=hf c hc'
    exact ⟨e3,e1,e4,e5⟩
   ·obtain ⟨o,es',ep,ho,r⟩:=hm
    exact ⟨o,es',ep,kp2 _ o (fun z2=>(hf _ z2).2.1 rfl) ho,r⟩
  refine ⟨.ref s.heap.objs.size,_,I2,rfl,⟨_,u,v,fT,rfl,rfl,fun zs hzs=>by rw[one1 zs hzs];exact hu,fun zs hzs=>by rw[one2 zs hzs];exact hv⟩,⟨se,(sb.2 TI (BN d1)).trans (kp TI _ (BN d1) d5 d6 d7 s2),⟨x,y,(sb.2 TO (BN d2)).trans g2⟩,c1.keep _ _ _ (a2 _ _ g3) fun o e=>(sb.2 i1 (BN d3)).trans e,c2.keep _ _ _ (b2 _ _ g4) fun o e=>(sb.2 i2 (BN d4)).trans e⟩,fun c hc'=>?_⟩
  rw[aM]
  ·exact (hf c hc').1
  ·intro z2
   have hlt:c < s.heap.objs.size:=by
    simp only[AS,CA,D4] at hc'
    rcases hc' with rfl|rfl|rfl|rfl|rfl
    · exact AM s1
    · exact AM s2
    · exact AM s3
    · obtain ⟨o, e, _⟩ := c1.obj _ _ s4; exact AM e
    · obtain ⟨o, e, _⟩ := c2.obj _ _ s5; exact AM e
   rw[z2] at hlt
   exact absurd hlt (BM _)
 done:=by
  intro X hP hw hK hc i pins s σ H E I hf st hg
  obtain ⟨s1,s2,⟨a,b,s3⟩,s4,s5⟩:=st
  obtain ⟨xs,ys,q1,q2,hend⟩:=hg
  simp only[CD,AS,CA,D4,GF,DC,and_true,FT] at hd
  obtain ⟨⟨d1,d2,d3,d4⟩,⟨d5,d6,d7⟩,⟨d8,d9⟩,d10⟩:=hd
  have hhd:X.A.in1.handled=none:=I.ok.hd hc
  obtain ⟨f1,P1,S1,D1,a1,a2,a3,a4⟩:=c1.draw X hP hw hK i pins s σ H xs X.A.in1 I (hf i1 (by simp)) s4 q1 hhd
  obtain ⟨f2,P2,S2,D2,b1,b2,b3,b4⟩:=c2.draw X hP hw hK i pins s σ H ys X.A.in1 I (hf i2 (by simp)) s5 q2 hhd
  subst hP hw hK
  have D:Zp.Apart z TI TO i1 i2 f1 f2:=⟨BN d1,BN d2,BN d3,BN d4,d5,d6,d7,d8,d9,d10,a4 z (hf z (by simp)) d3,b4 z (hf z (by simp)) d4,a4 TO (hf TO (by simp)) d8,b4 TO (hf TO (by simp)) d9,b4 i1 (hf i1 (by simp)) d10,a4 i2 (hf i2 (by simp)) (BN d10)⟩
  refine Zp.aI8 D D1 D2 s1 s2 s3 a1 b1 hend fun h' tk kp=>⟨rfl,?_⟩
  have kp2:∀ c o,c∉[z,TI,TO,i1,i2]->s.heap.get? c=some o->h'.get? c=some o:=fun c o hc' q=>by
   simp only[AS,CA,D4,GF] at hc'
   exact kp c o hc'.1 hc'.2.2.1 hc'.2.2.2.1 hc'.2.2.2.2 q
  have nfp:∀ c uu,H c=some uu->c∉[z,TI,TO,i1,i2]:=fun c uu q z2=>by rw[(hf c z2).1] at q;cases q
  have hthere:∀ c o,s.heap.get? c=some o->c∈[TI]->h'.get? c=some o:=fun c o e hm=>by
   have:c=TI:=by simpa using hm
   subst this
   exact kp c o (BN d1) d5 d6 d7 e
  refine I.step (g':=s.gens) (d':=s.drawn) (ch:=[z,TI,TO,i1,i2]) (fun c hc'=>?_) (fun c o _ _ hc' q _=>kp2 c o hc' q) (fun c o _ _ hc' q _=>⟨o.slots,kp2 c o hc' q⟩) (fun _ _ _ _ n=>n) (fun c o hc' q=>⟨o,kp2 c o hc' q⟩) (fun _ _ q=>q) (fun _ _ _ q=>q) (fun _ _ q=>q) (fun m hm=>?_) (fun c uu q=>?_) I.bare
  ·obtain ⟨e0,e1,e2,e3,e4,e5⟩:=hf c hc'
   exact ⟨e3,e1,e4,e5⟩
  ·obtain ⟨o,es',ep,ho,r⟩:=hm
   exact ⟨o,es',ep,kp2 _ o (fun z2=>(hf _ z2).2.1 rfl) ho,r⟩
  ·refine (I.hok c uu q).stay (fun c' v' hc' q'=>kp2 c' v' ?_ q') (fun _ q=>q) (fun _ _ q=>q) fun _ _ q=>q
   rcases hc' with z2|z2
   ·rw[z2];exact nfp c uu q
   ·exact nfp c' _ z2
 self:=fun _ _ _ _ _ st h=>wpAny_pyIter_zip st.1 h
def aA7(K:Frag)(H:Hp)(x:V)(C:Col):Prop:=
 (∃ a xs,x=.ref a/\SqL K H a xs/\C=fun H xs=>SqL K H a xs)\/(∃ a xs,x=.ref a/\SqT K H a xs/\C=fun H xs=>SqT K H a xs)\/∃ z,x=.str z/\C=fun _ xs=>xs=xN z
theorem uI{X:Cx}{pins:List (Addr×Obj)}{σ:St}{H:Hp}{s:Shared}{x:V}{u:Value}{C:Col}(I:Inv X pins σ H s)(r:bC x u)(h:aA7 X.K H x C) :
  ∃ (o:Obj) (tn:Addr->Nat->Heap->Prop),(∀ h':Heap,(∀ b ob,s.heap.get? b=some ob->h'.get? b=some ob)->Zp.nM u o h')/\o.isFreed=false/\(∀ it,ColOk X.prog X.w X.K C it (tn it))/\∀ it h',h'.get? it=some o->tn it 0 h':=by
 rcases h with ⟨a,xs,rfl,hq,rfl⟩|⟨a,xs,rfl,hq,rfl⟩|⟨z,rfl,rfl⟩
 ·cases r
  obtain ⟨its,rv,p,hz⟩:=I.list hq
  refine ⟨{cls:=.type "list_iterator",data:=.fields #[.ref a,.int 0 0]},fun it i h=>h.IsListIter it a i,fun h' kp prog w A E s' Q e q=>?_,rfl,fun it=>aJA a it,fun it h' e=>⟨_,e,rfl,rfl⟩⟩
  subst e
  refine wpAny_pyIter_list (l:=a) (items:=its.toArray) ?_ q
  obtain ⟨o,e,r⟩:=p.isList
  exact ⟨o,kp _ _ e,r⟩
 ·cases r
  obtain ⟨its,rv,p,hz⟩:=I.tuple hq
  refine ⟨{cls:=.type "tuple_iterator",data:=.fields #[.ref a,.int 0 0]},fun it i h=>h.IsTupleIter it a i,fun h' kp prog w A E s' Q e q=>?_,rfl,fun it=>aG4 a it,fun it h' e=>⟨_,e,rfl,rfl⟩⟩
  subst e
  refine wpAny_pyIter_tuple (t:=a) (items:=its.toArray) ?_ q
  obtain ⟨o,e,r⟩:=p
  exact ⟨o,kp _ _ e,r⟩
 ·obtain ⟨t,rfl⟩:=r
  refine ⟨{cls:=.type (strIterType z),data:=.fields #[.str z t,.int 0 0]},fun it i h=>h.IsStrIter it (strIterType z) z t i,fun h' kp prog w A E s' Q e q=>?_,rfl,fun it=>aMG z t it,fun it h' e=>⟨_,e,rfl,rfl⟩⟩
  subst e
  exact wpAny_pyIter_strU q
def aPR(K:Frag)(ta:TA):TI:=fun σ H R=>ta σ H fun vs H1=>∃ x y C1 C2,vs=[x,y]/\aA7 K H1 x C1/\aA7 K H1 y C2/\R (Itz C1 C2) H1
theorem aPS{X:Cx}{es:List Expr}{k1}{tpos:Pos}{a b:Expr}{ta:TA}{p pos:Pos}(hg:Gl X "zip")(hm:X.mg "zip"=none)(ha:PA X [a,b] ta)(hs:starEach [a,b] X.env=[(false,eval a X.env),(false,eval b X.env)]:=by rfl)(hs2:starEach [b] X.env=[(false,eval b X.env)]:=by rfl) :
  PI X (.Tuple es k1 tpos) (.Call (.Name "zip" p) [a,b] [] pos) (aPR X.K ta):=by
 intro pins s σ H R I h
 refine Call_ (oS I hg hm PyProof.Rows.boot_zip (DE (thn (ha pos pins s σ H _ I h) fun us s1 ⟨vs,H1,I1,r1,q1⟩=>?_) (by rw[hs,hs2]) (by rw[hs2];rfl)))
 obtain ⟨x,y,C1,C2,rfl,c1,c2,q⟩:=q1
 cases r1 with
 | cons ru rr=>
  cases rr with
  | cons rv rr=>
   cases rr
   rename_i u1 _ u2
   obtain ⟨o1,t1,a1,a2,a3,a4⟩:=uI I1 ru c1
   obtain ⟨o2,t2,b1,b2,b3,b4⟩:=uI I1 rv c2
   refine Zp.aI9 (a1 _ fun _ _ e=>e) (b1 _ fun _ _ e=>AC _ e) a2 b2 fun h' z1 z2 z3 z4 z5 z6 kp=>?_
   have I2:Inv X pins σ H1 {s1 with heap:=h'}:=I1.kept (t':=s1.toks) kp
   refine wpAny_pyIter_zip z1 ?_
   refine ⟨s1.heap.objs.size+4,[s1.heap.objs.size+4,s1.heap.objs.size+2,s1.heap.objs.size+3,s1.heap.objs.size,s1.heap.objs.size+1],_,_,H1,rfl,I2,aJB (a3 _) (b3 _) ?_,⟨z1,z2,⟨_,_,z3⟩,a4 _ _ z4,b4 _ _ z5⟩,fun c hc=>?_,q⟩
   ·simp only[CD,AS,CA,D4,GF,DC,and_true,FT]
    refine ⟨⟨?_,?_,?_,?_⟩,⟨?_,?_,?_⟩,⟨?_,?_⟩,?_⟩<;>(intro z;have z':=DM (fun x:Nat=>x - s1.heap.objs.size) z;simp at z')
   ·have hle:s1.heap.objs.size<=c:=by
     simp only[AS,CA,D4] at hc
     rcases hc with rfl|rfl|rfl|rfl|rfl
     · exact EW _ _
     · exact EW _ _
     · exact EW _ _
     · exact AK _
     · exact EW _ _
    exact I1.fpOk hle (I1.hok.fresh hle)
end L2
namespace Fl
open PySem L2 PyProof.Rows
noncomputable def aKO(p:PyData×PyData):PyData:=.tuple [p.1,p.2]
noncomputable def aA8(x y:PyData):R (List PyData):=(bV x).bind fun xs=>(bV y).bind fun ys=>.ok ((xs.zip ys).map aKO)
theorem vZ{d:PyData}{xs:List PyData}(h:bV d=.ok xs):xs.length<=16777216:=by
 unfold bV at h
 split at h
 ·split at h
  · rename_i hz; cases h; exact hz
  · cases h
 ·split at h
  · rename_i hz; cases h; exact hz
  · cases h
 ·split at h
  · rename_i hz; cases h; rw [AB]; exact hz
  · cases h
 ·cases h
theorem rK{d:PyData}{e:Er}:bV d≠.ex e:=by
 intro h
 unfold bV at h
 split at h
 · split at h <;> cases h
 · split at h <;> cases h
 · split at h <;> cases h
 · cases h
theorem aA9{K:Frag}{F:Hp}:∀ (cs:List Nat),DatVs K F (cs.map fun c=>V.str ⟨#[c]⟩) (cs.map fun c=>PyData.str ⟨#[c]⟩)
 | []=>.nil
 | c::t=>.cons (.str _) (aA9 t)
theorem uJ{K:Frag}{F B:Hp}{v:V}{d:PyData}{xs:List PyData}(s:aI F B)(r:DatV K F v d)(h:bV d=.ok xs):∃ C vs,aA7 K B v C/\(∀ H1,aI F H1->C H1 vs)/\DatVs K F vs xs:=by
 unfold bV at h
 split at h
 ·split at h
  ·cases h
   obtain ⟨p,vs,rfl,h1,h2⟩:=DatV.lst_of r
   exact ⟨_,vs,.inl ⟨p,vs,rfl,h1.same s,rfl⟩,fun H1 q=>h1.same q,h2⟩
  ·cases h
 ·split at h
  ·cases h
   obtain ⟨p,vs,rfl,h1,h2⟩:=DatV.tup_of r
   exact ⟨_,vs,.inr (.inl ⟨p,vs,rfl,h1.same s,rfl⟩),fun H1 q=>h1.same q,h2⟩
  ·cases h
 ·rename_i z
  split at h
  ·cases h
   obtain rfl:=DatV.str_of r
   exact ⟨_,xN z,.inr (.inr ⟨z,rfl,rfl⟩),fun _ _=>rfl,aA9 _⟩
  ·cases h
 ·cases h
theorem aDG{α β:Type}:∀ {xs:List α} {ys:List β} {i:Nat} {x:α} {y:β},xs[i]? = some x->ys[i]? = some y->(xs.zip ys)[i]? = some (x,y)
 | [],_,_,_,_,h,_=>by simp at h
 | _::_,[],_,_,_,_,h=>by simp at h
 | x::xs,y::ys,0,_,_,h1,h2=>by simp at h1 h2;subst h1 h2;rfl
 | x::xs,y::ys,i+1,_,_,h1,h2=>by
  show (xs.zip ys)[i]? = _
  exact aDG (by simpa using h1) (by simpa using h2)
theorem aMH{K:Frag}{F B:Hp}{C1 C2:Col}{us vs:List V}{xs ys:List PyData}(hz:xs.length<=16777216)(h1:∀ H1,aI F H1->aI B H1->C1 H1 us)(h2:∀ H1,aI F H1->aI B H1->C2 H1 vs)(d1:DatVs K F us xs)(d2:DatVs K F vs ys) :
  Yld K (Itz C1 C2) F B ((xs.zip ys).map aKO) where
 len:=by rw[eH,AB,GN];omega
 go:=fun i F1 H1 a1 a2 a3 hi=>by
  rw[AB,GN] at hi
  have hs:aI F H1:=fun x o z=>a2 x o (a1 x o z)
  exact ⟨us,vs,h1 H1 hs a3,h2 H1 hs a3,by rw[d1.length];omega,by rw[d2.length];omega⟩
 yld:=fun i F1 H1 v H2 x a1 a2 a3 y e=>by
  obtain ⟨p,u,w,hp,rfl,rfl,y1,y2⟩:=y
  have hs:aI F H1:=fun x o z=>a2 x o (a1 x o z)
  obtain ⟨dx,e1,r1⟩:=d1.get (y1 us (h1 H1 hs a3))
  obtain ⟨dy,e2,r2⟩:=d2.get (y2 vs (h2 H1 hs a3))
  rw[AJ,aDG e1 e2] at e
  cases e
  have sm:=aI.upd (o:=.tup [u,w]) (bZ a2 hp)
  exact ⟨_,Ext.new a2 hp,.tup (SqT.of aY) (.cons ((r1.same a1).same sm) (.cons ((r2.same a1).same sm) .nil))⟩
 stop:=fun F1 H1 a1 a2 a3=>by
  have hs:aI F H1:=fun x o z=>a2 x o (a1 x o z)
  refine ⟨us,vs,h1 H1 hs a3,h2 H1 hs a3,?_⟩
  rw[AB,GN,d1.length,d2.length]
  omega
section
variable{X:Cx}{c:Ct}{E:XK}{tg e:Expr}
theorem aMI{f g:Sg->R PyData}(hK:X.K=c.K)(h:PI X tg e (aPR X.K (eN (tV (cX c) c E f) (eN (tV (cX c) c E g) i3)))):PI0 X c E tg e (fun ρ=>(f ρ).bind fun x=>(g ρ).bind fun y=>aA8 x y):=PI.imp h fun σ H Q zz0=>by
 obtain ⟨ρ,F,ab,k⟩:=zz0
 refine ⟨ρ,F,ab,(Rk.bind k).imp fun x _ q v F1 H1 s1 r1=>⟨ρ,F1,ab.ext s1,((Rk.bind q).ext s1).imp fun y _ q w F' H' s r=>?_⟩⟩
 unfold aA8 at q
 cases e1:bV x with
 | bad=>rw[e1] at q;exact q.elim
 | ex e=>exact absurd e1 rK
 | ok xs=>
  rw[e1] at q
  cases e2:bV y with
  | bad=>rw[R.bind_ok,e2] at q;exact q.elim
  | ex e=>exact absurd e2 rK
  | ok ys=>
   rw[R.bind_ok,e2] at q
   have r1':DatV c.K F' v x:=DatV.same s.ff r1
   obtain ⟨C1,us,a1,a2,a3⟩:=uJ s.fh r1' e1
   obtain ⟨C2,vs,b1,b2,b3⟩:=uJ s.fh r e2
   rw[hK]
   exact ⟨v,w,C1,C2,rfl,a1,b1,Rk.ok q _ F' H' (s1.trans s) (aMH (vZ e1) (fun H1 z _=>a2 H1 z) (fun H1 z _=>b2 H1 z) a3 b3)⟩
end
end Fl
namespace L2
open PySem PySem.Spec PyProof.Rows
section
variable{K:Type}[DecidableEq K]{prog:Program}{w:World}{knd:KeyKind prog w K}{A:Around}{E:Value->Shared->Prop}{s:Shared}
theorem o9{kvs:List (K×Value)}{k:K}(h:valueAt kvs k=none):k∉kvs.map (·.1):=fun q=>by
 obtain ⟨kv,hkv,e⟩:=A0.mp q
 unfold valueAt at h
 have h:=Option.map_eq_none_iff.mp h
 rw[List.find?_eq_none] at h
 exact h kv hkv (AY e)
theorem aJC{d:Addr}{kvs:List (K×Value)}{k:K}{key y:Value}{Q:Value->Shared->Prop}(hkey:knd.is k key=true)(hm:s.heap.DictOf knd d kvs)
  (h1:∀ v,valueAt kvs k=some v->Q v {s with toks:=s.toks+1})
  (h2:valueAt kvs k=none->∀ h',h'.DictOf knd d (kvs++[(k,y)])->Heap.SameBut d s.heap h'->Q y {s with heap:=h',toks:=s.toks+1})
  (hsz:kvs.length<=sizeLine):wpAny (model prog w) A (dictSetDefault d key y) Q E s:=by
 have hz:s.heap.DictLe d sizeLine:=fun o es ep ho hd=>by
  obtain ⟨o',es',ep',a,_,b,_,hp,_⟩:=hm
  rw[ho] at a;cases a
  rw[hd] at b;cases b
  have e1:=hp.length
  have e2:es.toList.length=es.size:=by simp
  omega
 cases e:valueAt kvs k with
 | some v=>exact wpAny_dictSetDefault_of (hz:=hz) hkey hm.mapOf (fun v' hv=>h1 v' hv) fun hn=>by rw[e] at hn;cases hn
 | none=>
  have hno:=o9 e
  obtain ⟨o,es,ep,ho,hc,hd,hk,hp,hn⟩:=hm
  have hi:(es.findIdx? fun e=>knd.is k e.key)=none:=by
   have q:(es.findIdx? fun e=>knd.is k e.key)=kvs.findIdx? fun kv=>decide (kv.1=k):=by rw[<-hp.findIdx k];obtain ⟨l⟩:=es;simp
   rw[q,F5]
   intro kv hkv
   exact AZ fun z=>hno (A0.mpr ⟨kv,hkv,z⟩)
  unfold dictSetDefault
  try with_reducible refine C9 ?_
  refine AA (knd.pyHash hkey (AA (wpAny_dictFind_of (s:={s with toks:=s.toks+1}) hkey ho hd hk ?_)))
  rw[hi]
  have hs:=hz _ _ _ ho hd
  refine AA (E6 (AA (wpAny_updateDictKeys (hz:=hs) (s:={s with toks:=s.toks+1}) ho hd (AD (h2 e _ ⟨_,_,ep+1,CJ _ ho (Obj.isFreed_of_dict (EF hd _)),hc.mapDictKeys _,EF hd _,hk.push hkey _,?_,?_⟩ (CC ..))))))
  ·have q:=hp.append hkey (knd.hash k) y
   obtain ⟨l⟩:=es
   simpa using q
  ·rw[A7,CO]
   refine ⟨hn,by simp,fun x hx z hz'=>?_⟩
   rw[show z=k by simpa using hz']
   exact fun q=>hno (q▸hx)
end
section
variable{K:Type}[DecidableEq K]{prog:Program}{w:World}{knd:HeapKind prog w K}{A:Around}{E:Value->Shared->Prop}{s:Shared}
theorem aMJ{d a:Addr}{xs:List (K×Addr×Value)}{k:K}{y:Value}{Q:Value->Shared->Prop}(hu:knd.room A)(hkey:knd.is s.heap k a)(hm:s.heap.DictOfH knd d xs)
  (h1:∀ p,atKey xs k=some p->Q p.2 {s with toks:=s.toks+knd.draws k})
  (h2:atKey xs k=none->∀ h',h'.DictOfH knd d (storedH xs k a y)->Heap.SameBut d s.heap h'->Q y {s with heap:=h',toks:=s.toks+knd.draws k})
  (hsz:xs.length<=sizeLine):wpAny (model prog w) A (dictSetDefault d (.ref a) y) Q E s:=by
 obtain ⟨o,es,ep,ho,hc,hd,he,his,hn⟩:=hm
 unfold dictSetDefault
 try with_reducible refine C9 ?_
 refine AA (knd.pyHash hu hkey (AA (wpAny_dictFind_heap (s:={s with toks:=s.toks+knd.draws k}) hu hkey ho hd he his hn (fun hno=>?_) (fun j p hj=>?_))))
 ·have hnot:k∉xs.map (·.1):=not_mem_keys_of_get hno
  have hnn:=atKey_none_of_get hno
  have h2:=h2 hnn
  rw[storedH_new hnn] at h2
  have hes:es.size<=sizeLine:=by have e:=size_of_entries he;omega
  refine AA (E6 (AA (wpAny_updateDictKeys (hz:=hes) (s:={s with toks:=s.toks+knd.draws k}) ho hd (AD (h2 _ ⟨_,_,ep+1,CJ _ ho (Obj.isFreed_of_dict (EF hd _)),hc.mapDictKeys _,EF hd _,by simp[he,entryOfKey],fun x hx=>?_,?_⟩ (CC ..))))))
  ·rcases BJ.mp hx with hx|hx
   · exact knd.keeps (his x hx) ho hd (CC ..)
   · rw [AQ.mp hx]; exact knd.keeps hkey ho hd (CC ..)
  ·rw[A7,CO]
   refine ⟨hn,by simp,fun x hx z hz'=>?_⟩
   rw[show z=k by simpa using hz']
   exact fun q=>hnot (q▸hx)
 ·refine AA (wpAny_dictEntries (s:={s with toks:=s.toks+knd.draws k}) ho hd ?_)
  rw[entry_at he j,hj]
  exact AA (E6 (AD (h1 p (atKey_of_get hn hj))))
end
theorem aBA{prog:Program}{w:World}{d:Addr}{key y:Value}(hd:(d == sysModules)=false) :
  MeetsIn prog w (Builtin.«dict.setdefault» ⟨[.ref d,key,y],[]⟩) (fun A R s=>s.TypeIs (.ref d) "dict"/\wpAny (model prog w) A.in1 (dictSetDefault d key y) (fun v s'=>R (.ok (.ret v)) s') (fun e s'=>R (.error e) s') s):=
 .of_wp fun A R s zz0=>by
  obtain ⟨ht,h⟩:=zz0
  unfold Builtin.«dict.setdefault»
  refine AA ?_
  unfold Builtin.Dict.keyAndDefault
  refine AA (wpAny_notOrdered_dict ht ?_)
  show wpAny _ _ (pure (d,key,some y)) _ _ s
  refine AD ?_
  show wpAny _ _ (if (d == sysModules)=true then _ else (dictSetDefault d key y >>= _)) _ _ s
  rw[AH (by rw[hd];exact B6)]
  exact AA (BP h (fun v s' q=>AD ⟨v,rfl,q⟩) fun _ _ q=>q)
end L2
namespace Fl
open PySem L2 PyProof.Rows
def aPT(X:Cx):V->List V->Hp->VK->Prop:=fun x xs H Q=>∃ p es k kv y,x=.ref p/\xs=[kv,y]/\DicAt X H p es k kv/\es.length<=sizeLine/\(∀ v,atE es k=some v->Q v H)/\(atE es k=none->∀ ep,Q y (upd H p (eP X.w p (nF es k kv y) ep)))
section
variable{X:Cx}{c:Ct}{E:XK}{e a b:Expr}{st:Stmt}{pos:Pos}
theorem aPU(hu:X.A.units+64 < cLine):MtR X "dict.setdefault" (aPT X):=by
 intro pins s σ H x xs v us Q I rx rv h
 obtain ⟨p,es,k,kv,y,rfl,rfl,D,hz,q1,q2⟩:=h
 cases (show v=Value.ref p from rx)
 cases rv with
 | @cons _ ku _ us r1 t=>
  cases t with
  | @cons _ yu _ us r2 t=>
   cases t
   have hty:s.TypeIs (.ref p) "dict":=by
    obtain ⟨ep,hO⟩:=D.o
    obtain ⟨⟨_,o,ar,h1,h2,_⟩,_,_⟩:=(show cO X.prog X.w H s.heap p (eP X.w p es ep) from I.hok p _ hO)
    exact ⟨o,h1,h2.1⟩
   obtain ⟨hd,⟨b,xs,rfl,rfl,hx,hk,dd⟩|⟨kk,xs,rfl,rfl,hx,hk,dd⟩⟩:=D.cases I r1
   ·have hl:xs.length<=sizeLine:=by rw[<-Paired.length hx];exact hz
    have ro:=o0 (k:=k) hx
    refine call_meetsIn EA hty FA (E9 _ _ _) (aBA hd) ⟨hty,aMJ (l5 hu) hk dd (fun pr hp=>?_) (fun hp h' dd' hs=>?_) hl⟩
    ·rw[hp] at ro
     cases e:atE es k with
     | none=>rw[e] at ro;cases ro
     | some z=>
      rw[e] at ro
      exact ⟨_,H,I.tok _,ro,q1 z e⟩
    ·rw[hp] at ro
     have e:atE es k=none:=by
      cases e:atE es k with
      | none=>rfl
      | some z=>rw[e] at ro;cases ro
     obtain ⟨q',ar,ep,hq,h2,h3,h4,_,h5⟩:=dd'
     obtain ⟨ep0,hO⟩:=D.o
     refine ⟨y,_,mV I (by rw[hO];exact True.intro) hs ⟨q',hq⟩ (kK (ep:=ep) hd ⟨q',ar,hq,h2,h3,?_⟩),r2,q2 e ep⟩
     rw[h4]
     exact pV (aEQ r2 hx)
   ·have hl:xs.length<=sizeLine:=by rw[<-Paired.length hx];exact hz
    have ro:=o3 (k:=kk) hx
    refine call_meetsIn EA hty FA (E9 _ _ _) (aBA hd) ⟨hty,aJC hk dd (fun v hv=>?_) (fun hv h' dd' hs=>?_) hl⟩
    ·rw[hv] at ro
     cases e:atE es (iV kk) with
     | none=>rw[e] at ro;cases ro
     | some z=>
      rw[e] at ro
      exact ⟨_,H,I.tok _,ro,q1 z e⟩
    ·rw[hv] at ro
     have e:atE es (iV kk)=none:=by
      cases e:atE es (iV kk) with
      | none=>rfl
      | some z=>rw[e] at ro;cases ro
     have pv:=aER (k:=kk) r2 hx
     have hst:stored xs kk yu=xs++[(kk,yu)]:=by
      unfold stored
      rw[AH]
      intro z
      obtain ⟨kv,h1,h2⟩:=GG.mp z
      exact o9 hv (A0.mpr ⟨kv,h1,BO h2⟩)
     rw[hst] at pv
     obtain ⟨q',ar,ep,hq,h2,h3,h4,h5,_⟩:=dd'
     obtain ⟨ep0,hO⟩:=D.o
     refine ⟨y,_,mV I (by rw[hO];exact True.intro) hs ⟨q',hq⟩ (kK (ep:=ep) hd ⟨q',ar,hq,h2,h3,?_⟩),r2,q2 e ep⟩
     exact pW pv h5 fun en hen=>h4 en (by simpa using hen)
noncomputable def zQ(i:Nat)(f g:Sg->R PyData):Sg->R Fw:=fun ρ=>match ρ[i]? with
 | some (some (.m kvs))=>(f ρ).bind fun k=>(g ρ).bind fun y=>if cF k (kvs.map (·.1))=true/\kvs.length<=16777216 then .ok (.nx (if cI kvs k=true then ρ else ρ.set i (some (.m (putM kvs k y))))) else .bad
 | _=>.bad
theorem aMK{i:Nat}{f g:Sg->R PyData}(hK:X.K=c.K)(hW:X.w=c.w)(h:PS X st (uZ (aPH X "dict" (aPT X) (jS i) (eN (tV (cX c) c E f) (eN (tV (cX c) c E g) i3))))):PSf X c E st (zQ i f g):=PS.imp h fun D σ H ⟨ρ,F,ab,k⟩=>by
 unfold zQ at k
 split at k
 ·rename_i kvs hi
  obtain ⟨_,hp,p,es,rfl,⟨ep,hd⟩,_⟩:=ab.slot i _ hi
  refine ⟨_,hp,fun pins s v I r=>?_,ρ,F,ab,(Rk.bind k).imp fun d _ q v F1 H1 s1 r1=>?_⟩
  ·cases (show v=Value.ref p from r)
   rw[<-hW] at hd
   obtain ⟨⟨_,o,ar,h1,h2,_⟩,_,_⟩:=(show cO X.prog X.w H s.heap p (eP X.w p es ep) from I.hok p _ hd)
   exact ⟨⟨o,h1,h2.1⟩,fun a z=>by cases z;exact ⟨o,h1,h2.2.1⟩⟩
  ·refine ⟨ρ,F1,ab.ext s1,((Rk.bind q).ext s1).imp fun y _ q u F2 H2 s2 r2=>?_⟩
   split at q
   ·rename_i hs
    have s12:=s1.trans s2
    have ab2:=ab.ext s12
    obtain ⟨p',es',hp',D',m⟩:=zO hK hW ab2 hi (DatV.same s2.ff r1) hs.1
    rw[hp] at hp'
    cases hp'
    have gr:=xD (k:=d) m.k1 m.vs
    refine ⟨p,es',d,v,u,rfl,rfl,D',?_,fun z hz=>?_,fun hz=>?_⟩
    ·have:es'.length=kvs.length:=by have:=DM List.length m.k1;simpa using this
     rw[this,eH];exact hs.2
    ·have hh:cI kvs d=true:=by
      rcases gr with ⟨g1,_⟩|⟨_,_,_,g2,_⟩
      · rw [g1] at hz; cases hz
      · unfold cI; rw [g2]; rfl
     rw[AG hh] at q
     exact Rk.ok q σ F2 _ s12.ff ab2
    ·have hh:¬ cI kvs d=true:=by
      rcases gr with ⟨_,g2⟩|⟨_,_,g1,_,_⟩
      · unfold cI; rw [g2]; intro z; cases z
      · rw [g1] at hz; cases hz
     rw[AH hh] at q
     intro ep
     rw[hW]
     exact Rk.ok q σ F2 _ s12.ff (ab2.putM hi hp (m.put (DatV.same s2.ff r1) r2))
   ·exact q.elim
 ·exact k.elim
end
def aE6(i:Nat):Sg->R Fw:=fun ρ=>match ρ[i]? with
 | some (some (.l xs))=>.ok (.nx (ρ.set i (some (.l xs.reverse))))
 | _=>.bad
theorem yZ{K:Frag}{F:Hp}:∀ {vs:List V} {xs:List PyData},DatVs K F vs xs->DatVs K F vs.reverse xs.reverse
 | _,_,.nil=>.nil
 | _,_,.cons h t=>by
  rw[EN,EN]
  exact (yZ t).append (.cons h .nil)
section
variable{X:Cx}{c:Ct}{E:XK}{st:Stmt}
theorem aPV{i:Nat}(h:PS X st (uZ (aOT X.K "list" zV (jS i)))):PSf X c E st (aE6 i):=PS.imp h fun D σ H ⟨ρ,F,ab,k⟩=>by
 unfold aE6 at k
 split at k
 ·rename_i xs hi
  obtain ⟨v,hp,p,vs,rfl,h2,h3,h4,h5⟩:=ab.slot i _ hi
  refine ⟨_,hp,.inl ⟨rfl,vs,SqL.of h2⟩,p,vs,rfl,rfl,h2,?_⟩
  exact Rk.ok k σ F _ (cK F) (ab.putL hi hp (yZ h5))
 ·exact k.elim
end
end Fl
namespace Zp
open PySem
theorem aG5(v:Value)(o:Obj) :
  Meets (Builtin.«enumerate.__new__» ⟨[.type "enumerate",v],[]⟩) (fun _ R s=>nM v o s.heap /\
   R (.ok (.ret (.ref (s.heap.push o).objs.size))) {s with heap:=(s.heap.push o).push {cls:=.type "enumerate",data:=.fields #[.none,.bool false,.ref s.heap.objs.size,rawInt 0,.none,.none]}}):=
 .of_wp fun prog w A R s h=>by
  obtain ⟨hp,g,d,tk,os⟩:=s;obtain ⟨hl,h⟩:=h
  have hsub:=sub_enumerate
  have p1:∀ {A:Around} {E:Value->Shared->Prop} {Q:Value->Shared->Prop},Q (.ref hp.objs.size) ⟨hp.push o,g,d,tk,os⟩->wpAny (model prog w) A (pyIter v) Q E ⟨hp,g,d,tk,os⟩:=fun hq=>hl prog w _ _ ⟨hp,g,d,tk,os⟩ _ rfl hq
  wp_walk
  refine wpAny_stack_any fun st=>AD ?_
  split
  ·rename_i c _ _ _ _ _
   cases (c == Value.type "enumerate")<;>(wp_walk using p1;exact ⟨_,rfl,h⟩)
  ·wp_walk using p1
   exact ⟨_,rfl,h⟩
theorem aJD{prog:Program}{w:World}{A:Around}{E:Value->Shared->Prop}{s:Shared}{v:Value}{o:Obj}{Q:Value->Shared->Prop}(h1:nM v o s.heap)(f1:o.isFreed=false)
  (h:∀ h',IsEnum h' (s.heap.objs.size+1) s.heap.objs.size 0 .none->h'.get? s.heap.objs.size=some o->h'.objs.size=s.heap.objs.size+2->(∀ b o,s.heap.get? b=some o->h'.get? b=some o)->Q (.ref (s.heap.objs.size+1)) {s with heap:=h'}) :
  wpAny (model prog w) A (call (.type "enumerate") [v]) Q E s:=by
 refine callType_new F.called_enumerate (by decide) (F.typeCall_enumerate_1 _) (F.newCall_enumerate_1 _) (fun obj=>F.args_object_init_2 obj _) F.entry_enumerate_new (aG5 v o) ⟨h1,?_⟩
 have hz:(s.heap.push o).objs.size=s.heap.objs.size+1:=B2 ..
 show _/\_
 rw[hz]
 have he:IsEnum ((s.heap.push o).push {cls:=.type "enumerate",data:=.fields #[.none,.bool false,.ref s.heap.objs.size,rawInt 0,.none,.none]}) (s.heap.objs.size+1) s.heap.objs.size 0 .none:=by
  have q:=AX (s.heap.push o) (o:={cls:=.type "enumerate",data:=.fields #[.none,.bool false,.ref s.heap.objs.size,rawInt 0,.none,.none]}) rfl
  rw[hz] at q;exact q
 exact ⟨⟨_,he,rfl⟩,h _ he (AC _ (AX _ f1)) (by rw[B2,hz]) fun b o y=>AC _ (AC _ y)⟩
end Zp
namespace L2
open PySem PySem.Spec PyProof.Rows
def Itn(C:Col):It:=
 ⟨fun i H=>∃ xs,C H xs/\i < xs.length,fun i H x H'=>∃ p v,H p=none/\x=.ref p/\H'=upd H p (.tup [.int i,v])/\∀ xs,C H xs->xs[i]? = some v,fun i H=>∃ xs,C H xs/\i=xs.length⟩
theorem aG6{P:Program}{w:World}{K:Frag}{es:List Expr}{k1}{tpos:Pos}{C:Col}{e it:Addr}{tn:Nat->Heap->Prop}(c:ColOk P w K C it tn)(hei:e≠it) :
  Turn P w K (.Tuple es k1 tpos) (Itn C) [e,it] e (fun i h=>(∃ old,IsEnum h e it i old)/\tn i h) where
 mem:=by simp
 obj:=fun i h st b hb=>by
  obtain ⟨⟨old,s1⟩,s2⟩:=st
  rcases AS.mp hb with z|z
  ·subst z
   exact ⟨_,s1,fun v z=>by have z':Data.fields _=Data.cell v:=z;cases z'⟩
  ·obtain rfl:b=it:=by simpa using z
   exact c.obj i h s2
 keep:=fun i h h' st k=>by
  obtain ⟨⟨old,s1⟩,s2⟩:=st
  exact ⟨⟨old,k e (by simp) _ s1⟩,c.keep i h h' s2 fun o q=>k it (by simp) o q⟩
 item:=by
  intro X hP hw hK hc i pins s σ H E I hf st hg
  obtain ⟨⟨old,s1⟩,s2⟩:=st
  obtain ⟨xs,hx,hlt⟩:=hg
  have hhd:X.A.in1.handled=none:=I.ok.hd hc
  obtain ⟨fp,Pv,S,D,a1,a2,a3,a4⟩:=c.draw X hP hw hK i pins s σ H xs X.A.in1 I (hf it (by simp)) s2 hx hhd
  have one:=fun zs (h:C H zs)=>c.one X hP hw hK pins s σ H zs xs I h hx
  subst hP hw hK
  obtain ⟨o2,eo2,_⟩:=c.obj _ _ s2
  refine wpAny_pyNext_enum_itemD D s1 a1 hlt hei (a4 e (hf e (by simp)) hei) fun u h' tk pu so si st hz' kp=>?_
  obtain ⟨x,hux,ru⟩:=a3 i u pu
  refine ⟨_,rfl,wpAny_letOwnedTupleGo_enum so fun h2 se sb=>?_⟩
  have ne1:s.heap.objs.size≠e:=DD (AM s1)
  have hT2:h2.get? s.heap.objs.size=some {cls:=.type "tuple",data:=.seq #[.int i tk,u]}:=(sb.2 _ ne1).trans st
  have fT:H s.heap.objs.size=none:=I.hok.fresh (AK _)
  have kp2:∀ b o,b∉[e,it]->s.heap.get? b=some o->h2.get? b=some o:=fun b o hb q=>by
   simp only[AS,CA,D4,GF] at hb
   exact (sb.2 b hb.1).trans (kp b o hb.1 hb.2 q)
  have nfp:∀ b uu,H b=some uu->b∉[e,it]:=fun b uu q z2=>by rw[(hf b z2).1] at q;cases q
  have hok2:HOk X.prog X.w H h2:=fun b uu q=>by
   refine (I.hok b uu q).stay (fun c' v' hc' q'=>kp2 c' v' ?_ q') (fun _ q=>q) (fun _ _ q=>q) fun _ _ q=>q
   rcases hc' with z2|z2
   ·rw[z2];exact nfp b uu q
   ·exact nfp c' _ z2
  have hokT:HOk X.prog X.w (upd H s.heap.objs.size (.tup [.int i,x])) h2:=HOk.track hok2 fT ⟨by show 2<=sizeLine;decide,[.int i tk,u],.cons ⟨_,rfl⟩ (.cons ru .nil),⟨_,hT2,⟨rfl,rfl⟩,_,rfl⟩⟩
  have ltT:∀ b uu,H b=some uu->b≠s.heap.objs.size:=fun b uu q=>bI q fT
  have I2:Inv X pins σ (upd H s.heap.objs.size (.tup [.int i,x])) {s with heap:=h2,gens:=s.gens,drawn:=s.drawn,toks:=tk+1}:=by
   refine I.step (ch:=[e,it]) (fun b hb=>?_) (fun b o _ _ hc' q _=>kp2 b o hc' q) (fun b o _ _ hc' q _=>⟨o.slots,kp2 b o hc' q⟩)
    (fun b o _ q n=>by rw[aM (BL (AM q))];exact n) (fun b o hc' q=>⟨o,kp2 b o hc' q⟩) (fun b ys q=>by rw[aM (ltT b _ q)];exact q) (fun b o uu q=>by rw[aM (ltT b _ q)];exact q)
    (fun b ps q=>by rw[aM (ltT b _ q)];exact q) (fun m hm=>?_) hokT I.bare
   ·obtain ⟨e0,e1,e2,e3,e4,e5⟩:=hf b hb
    exact ⟨e3,e1,e4,e5⟩
   ·obtain ⟨o,es',ep,ho,r⟩:=hm
    exact ⟨o,es',ep,kp2 _ o (fun z2=>(hf _ z2).2.1 rfl) ho,r⟩
  refine ⟨.ref s.heap.objs.size,_,I2,rfl,⟨_,x,fT,rfl,rfl,fun zs hzs=>by rw[one zs hzs];exact hux⟩,⟨⟨_,by simpa using se⟩,c.keep _ _ _ (a2 _ _ si) fun o q=>(sb.2 it hei.symm).trans q⟩,fun b hb=>?_⟩
  rw[aM]
  ·exact (hf b hb).1
  ·intro z2
   have hlt:b < s.heap.objs.size:=by
    simp only[AS,CA,D4] at hb
    rcases hb with rfl|rfl
    · exact AM s1
    · exact AM eo2
   rw[z2] at hlt
   exact absurd hlt (BM _)
 done:=by
  intro X hP hw hK hc i pins s σ H E I hf st hg
  obtain ⟨⟨old,s1⟩,s2⟩:=st
  obtain ⟨xs,hx,rfl⟩:=hg
  have hhd:X.A.in1.handled=none:=I.ok.hd hc
  obtain ⟨fp,Pv,S,D,a1,a2,a3,a4⟩:=c.draw X hP hw hK _ pins s σ H xs X.A.in1 I (hf it (by simp)) s2 hx hhd
  subst hP hw hK
  obtain ⟨g0,g1,g2,g3,g4,g5⟩:=hf it (by simp)
  exact wpAny_pyNext_enum_endD D s1 a1 fun h' eb=>⟨rfl,I.turned (t':=s.toks) (fun b o hb q=>eb b o hb q) g0 g1 g3 g4 g5⟩
 self:=fun _ _ _ _ _ st h=>wpAny_pyIter_enum st.1.choose_spec h
def aKP(K:Frag)(ta:TA):TI:=fun σ H R=>ta σ H fun vs H1=>∃ x C,vs=[x]/\aA7 K H1 x C/\R (Itn C) H1
theorem aML{X:Cx}{es:List Expr}{k1}{tpos:Pos}{a:Expr}{ta:TA}{p pos:Pos}(hg:Gl X "enumerate")(hm:X.mg "enumerate"=none)(ha:PA X [a] ta)(hs:starEach [a] X.env=[(false,eval a X.env)]:=by rfl) :
  PI X (.Tuple es k1 tpos) (.Call (.Name "enumerate" p) [a] [] pos) (aKP X.K ta):=by
 intro pins s σ H R I h
 refine Call_ (oS I hg hm PyProof.Rows.boot_enumerate (DE (thn (ha pos pins s σ H _ I h) fun us s1 zz0=>?_) hs rfl))
 obtain ⟨vs,H1,I1,r1,q1⟩:=zz0
 obtain ⟨x,C,rfl,c1,q⟩:=q1
 obtain ⟨u,rfl,ru⟩:=u8 r1
 obtain ⟨o1,t1,a1,a2,a3,a4⟩:=uI I1 ru c1
 refine Zp.aJD (a1 _ fun _ _ e=>e) a2 fun h' se si hz' kp=>?_
 have I2:Inv X pins σ H1 {s1 with heap:=h'}:=I1.kept (t':=s1.toks) kp
 refine wpAny_pyIter_enum se ?_
 refine ⟨s1.heap.objs.size+1,[s1.heap.objs.size+1,s1.heap.objs.size],_,_,H1,rfl,I2,aG6 (a3 _) (DD (Nat.lt_succ_self _)),⟨⟨_,se⟩,a4 _ _ si⟩,fun b hb=>?_,q⟩
 rcases AS.mp hb with z|z
 ·subst z
  exact I1.fpOk (Nat.le_succ _) (I1.hok.fresh (Nat.le_succ _))
 ·obtain rfl:b=s1.heap.objs.size:=by simpa using z
  exact I1.fpOk (AK _) (I1.hok.fresh (AK _))
end L2
namespace Fl
open PySem L2 PyProof.Rows
def aBB(p:PyData×Nat):PyData:=.tuple [.int (p.2:Int),p.1]
def v3(x:PyData):R (List PyData):=(bV x).bind fun xs=>.ok (xs.zipIdx.map aBB)
theorem aMM{K:Frag}{F B:Hp}{C:Col}{us:List V}{xs:List PyData}(hz:xs.length<=16777216)(h1:∀ H1,aI F H1->aI B H1->C H1 us)(d1:DatVs K F us xs):Yld K (Itn C) F B (xs.zipIdx.map aBB) where
 len:=by rw[eH,AB,DH];exact hz
 go:=fun i F1 H1 a1 a2 a3 hi=>by
  rw[AB,DH] at hi
  have hs:aI F H1:=fun x o z=>a2 x o (a1 x o z)
  exact ⟨us,h1 H1 hs a3,by rw[d1.length];exact hi⟩
 yld:=fun i F1 H1 v H2 x a1 a2 a3 y e=>by
  obtain ⟨p,u,hp,rfl,rfl,y1⟩:=y
  have hs:aI F H1:=fun x o z=>a2 x o (a1 x o z)
  obtain ⟨dx,e1,r1⟩:=d1.get (y1 us (h1 H1 hs a3))
  rw[AJ,C6,e1] at e
  simp only[DW,GH] at e
  cases e
  have sm:=aI.upd (o:=.tup [.int i,u]) (bZ a2 hp)
  exact ⟨_,Ext.new a2 hp,.tup (SqT.of aY) (.cons (.int _) (.cons ((r1.same a1).same sm) .nil))⟩
 stop:=fun F1 H1 a1 a2 a3=>by
  have hs:aI F H1:=fun x o z=>a2 x o (a1 x o z)
  refine ⟨us,h1 H1 hs a3,?_⟩
  rw[AB,DH,d1.length]
section
variable{X:Cx}{c:Ct}{E:XK}{tg e:Expr}
theorem aMN{f:Sg->R PyData}(hK:X.K=c.K)(h:PI X tg e (aKP X.K (eN (tV (cX c) c E f) i3))):PI0 X c E tg e (e1 v3 f):=PI.imp h fun σ H Q zz0=>by
 obtain ⟨ρ,F,ab,k⟩:=zz0
 refine ⟨ρ,F,ab,(Rk.bind k).imp fun x _ q v F' H' s r=>?_⟩
 unfold v3 at q
 cases e1:bV x with
 | bad=>rw[e1] at q;exact q.elim
 | ex e=>exact absurd e1 rK
 | ok xs=>
  rw[e1] at q
  obtain ⟨C1,us,a1,a2,a3⟩:=uJ s.fh r e1
  rw[hK]
  exact ⟨v,C1,rfl,a1,Rk.ok q _ F' H' s (aMM (vZ e1) (fun H1 z _=>a2 H1 z) a3)⟩
end
def rL(i:Nat)(tb:List (Str×Bool)):Sg->R PyData:=fun ρ=>match ρ[i]? with
 | some (some (.x e))=>(match tb.lookup e.c with
  | some b=>.ok (.bool b)
  | none=>.bad)
 | _=>.bad
def uK(K:Frag)(mg:Str->Option Value)(cv:Value)(tb:List (Str×Bool)):Prop:=∀ p∈tb,∃ W C,SX.ExcC K W C/\mg p.1=some (.ref C)/\PySem.W.kitOne K (.ref C) cv=some p.2
def IsA(K:Frag)(mg:Str->Option Value)(q:Str)(tb:List (Str×Bool)):Prop:=∃ D,mg q=some (.ref D)/\uK K mg (.ref D) tb
theorem rM{K:Frag}{mg:Str->Option Value}{cv:Value}{tb:List (Str×Bool)}{W C:Addr}{nm:Str}{b:Bool}(c:SX.ExcC K W C)(m:mg nm=some (.ref C))(k:PySem.W.kitOne K (.ref C) cv=some b)(t:uK K mg cv tb):uK K mg cv ((nm,b)::tb):=fun p hp=>by
 rcases AS.mp hp with rfl|h
 · exact ⟨W, C, c, m, k⟩
 · exact t p h
theorem aDH{K:Frag}{mg:Str->Option Value}{cv:Value}:uK K mg cv []:=fun p hp=>nomatch hp
theorem aDI{K:Frag}{mg:Str->Option Value}{W C:Addr}{nm q:Str}{b:Bool}(c:SX.ExcC K W C)(m:mg nm=some (.ref C))(i:Is1 K mg nm q b):IsA K mg q [(nm,b)]:=by
 obtain ⟨D,C2,h1,h2,h3⟩:=i
 rw[m] at h2
 cases h2
 exact ⟨D,h1,rM c m h3 aDH⟩
theorem aBC{K:Frag}{mg:Str->Option Value}{tb:List (Str×Bool)}{W C:Addr}{nm q:Str}{b:Bool}(c:SX.ExcC K W C)(m:mg nm=some (.ref C))(i:Is1 K mg nm q b)(t:IsA K mg q tb):IsA K mg q ((nm,b)::tb):=by
 obtain ⟨D,C2,h1,h2,h3⟩:=i
 obtain ⟨D2,t1,t2⟩:=t
 rw[m] at h2
 cases h2
 rw[h1] at t1
 cases t1
 exact ⟨D,h1,rM c m h3 t2⟩
theorem aBD{K:Frag}{mg:Str->Option Value}{tb:List (Str×Bool)}{W C:Addr}{nm:Str}{T:String}{b:Bool}(c:SX.ExcC K W C)(m:mg nm=some (.ref C))(i:rJ K mg nm T b)(t:uK K mg (.type T) tb):uK K mg (.type T) ((nm,b)::tb):=by
 obtain ⟨C2,h2,h3⟩:=i
 rw[m] at h2
 cases h2
 exact rM c m h3 t
theorem aBE{β:Type}{x:Str}{b:β}:∀ {tb:List (Str×β)},tb.lookup x=some b->(x,b)∈tb
 | [],h=>by cases h
 | (y,c)::t,h=>by
  rw[BC] at h
  cases q:(x == y) with
  | true=>rw[q] at h;cases h;rw[EJ q];exact AV
  | false=>rw[q] at h;exact AN _ (aBE h)
section
variable{X:Cx}{c:Ct}{E:XK}{e:Expr}
theorem aG7{i:Nat}{tb:List (Str×Bool)}{v:V}{cv:Value}(hM:X.mg=c.mg)(hv:t8 v=some cv)(is:uK X.K X.mg cv tb)
  (h:PE X e (tCB (fun xs H Q=>∃ x c t cv b,xs=[x,c]/\TyX X.K H x t/\t8 c=some cv/\PySem.W.kitOne X.K t cv=some b/\Q (.bl b) H) (eN (jS i) (eN (tC v) i3)))):PD X c E e (rL i tb):=PE.imp h fun σ H Q ⟨ρ,F,ab,k⟩=>by
 unfold rL at k
 split at k
 ·rename_i er hi
  split at k
  ·rename_i b hb
   obtain ⟨W,C,h1,h2,h3⟩:=is _ (aBE hb)
   obtain ⟨a,a1,a2⟩:=aS7 hM h1 h2 ab hi rfl
   exact ⟨_,a1,_,_,_,_,b,rfl,a2,hv,h3,Rk.ok k _ F H (Ext.refl ab.fh) (.bl b)⟩
  ·exact k.elim
 ·exact k.elim
theorem aG8{i:Nat}{tb:List (Str×Bool)}{q:Str}(hM:X.mg=c.mg)(is:IsA X.K X.mg q tb)
  (h:∀ D,X.mg q=some (.ref D)->PE X e (tCB (fun xs H Q=>∃ x c t cv b,xs=[x,c]/\TyX X.K H x t/\t8 c=some cv/\PySem.W.kitOne X.K t cv=some b/\Q (.bl b) H) (eN (jS i) (eN (tC (.ref D)) i3)))):PD X c E e (rL i tb):=by
 obtain ⟨D,h1,h2⟩:=is
 exact aG7 hM rfl h2 (h D h1)
def UpK(K:Frag)(mg:Str->Option Value)(cl:List Str):Prop:=∃ Wc bm,mg "WayError"=some (.ref Wc)/\SX.ExcAny K Wc bm/\m4 K mg Wc cl
theorem aPW{K:Frag}{mg:Str->Option Value}{a b:List Str}(h:UpK K mg a)(h2:UpK K mg b):UpK K mg (a++b):=by
 obtain ⟨W,bm,m,w,k⟩:=h
 obtain ⟨W2,bm2,m2,w2,k2⟩:=h2
 rw[m] at m2
 cases m2
 exact ⟨W,bm,m,w,aCD k k2⟩
end
noncomputable def fzM(i:Nat)(ρ:Sg):Sg:=match ρ[i]? with
 | some (some (.m kvs))=>ρ.set i (some (.f kvs))
 | _=>ρ
def aS8(i:Nat)(f:Sg->R Fw):Sg->R Fw:=fun ρ=>f (fzM i ρ)
noncomputable def aS9(neg:Bool)(i:Nat)(f:Sg->R PyData):Sg->R PyData:=fun ρ=>(f ρ).bind fun k=>match ρ[i]? with
 | some (some (.f kvs))=>if cF k (kvs.map (·.1))=true then .ok (.bool (if neg=true then !cI kvs k else cI kvs k)) else .bad
 | _=>.bad
noncomputable def aRS(i:Nat)(f:Sg->R PyData):Sg->R PyData:=fun ρ=>match ρ[i]? with
 | some (some (.f kvs))=>(f ρ).bind fun k=>if cF k (kvs.map (·.1))=true then (match eK kvs k with
  | some v=>.ok v
  | none=>.bad) else .bad
 | _=>.bad
end Fl
namespace Zp
open PySem
def Raw(h:Heap)(d:Addr)(ar:Array DictEntry)(ep:Nat):Prop:=∃ o,h.get? d=some o/\o.ExactDict/\o.data=.dict ar ep
end Zp
namespace Fl
open PySem L2 PyProof.Rows
section
variable{X:Cx}{c:Ct}{E:XK}{tg e:Expr}
noncomputable def aRT(i:Nat):Sg->R (List PyData):=fun ρ=>match ρ[i]? with
 | some (some (.f kvs))=>if kvs.length<=16777216 then .ok (kvs.map (·.1)) else .bad
 | _=>.bad
def aRU(i:Nat):Sg->R PyData:=fun ρ=>match ρ[i]? with
 | some (some (.m kvs))=>if kvs.length<=16777216 then .ok (.int (kvs.length:Int)) else .bad
 | some (some (.f kvs))=>if kvs.length<=16777216 then .ok (.int (kvs.length:Int)) else .bad
 | _=>.bad
end
end Fl
namespace Zp
open PySem
structure Jz(P1 P2:Nat->Value->Prop)(S1 S2:Nat->Heap->Prop)(s0:Heap)(z TI TO i1 i2 S:Addr)(n:Nat)(acc:Array Value)(h:Heap):Prop where
 size:acc.size<=n
 inc:∀ (j k p q:Nat),j < k->acc[j]? = some (.ref p)->acc[k]? = some (.ref q)->p < q
 top:∀ (j p:Nat),acc[j]? = some (.ref p)->p < h.objs.size
 told:∀ (j:Nat) v,acc[j]? = some v->∃ p x y,v=.ref p/\S < p/\IsPair h p x y/\P1 j x/\P2 j y
 s1:S1 acc.size h
 s2:S2 acc.size h
 ti:IsPair h TI (.ref i1) (.ref i2)
 keep:∀ c o,c≠z->c≠TO->c≠i1->c≠i2->c≠S->s0.get? c=some o->h.get? c=some o
 big:S < h.objs.size
 st:(acc.size=0/\IsZip h z TI TO .none/\∃ a b,IsPair h TO a b)\/(0 < acc.size/\∃ (T:Addr) (bb:Bool) (o:Obj),nL h z TI TO (rawInt T) (.bool bb)/\h.get? T=some o/\S < T)
end Zp
namespace L2
open PySem PySem.Spec PyProof.Rows
structure LZ(H1 H2:Hp)(xs ys:List V)(l:Addr)(ps:List Addr):Prop where
 same:∀ b o,H1 b=some o->H2 b=some o
 new:H1 l=none
 lst:H2 l=some (.lst (ps.map .ref))
 len:ps.length=min xs.length ys.length
 tup:∀ (j:Nat) p,ps[j]? = some p->H1 p=none/\∃ u v,xs[j]? = some u/\ys[j]? = some v/\H2 p=some (.tup [u,v])
end L2
namespace HT
open PySem PySem.Spec PyProof.Rows L2
end HT
namespace Fl
open PySem L2 PyProof.Rows
end Fl
namespace L2
open PySem PySem.Spec PyProof.Rows
end L2
namespace Mc
open PySem L2 PyProof.Rows Fl
noncomputable def qE:Sg->R Fw:=(bO (vD (e1 dLen (e2 dIx (e2 dIx (rV 0) (eC (.int 0))) (eC (.int 1))))))
noncomputable def jL:List A->R A:=fnF 1 qE
noncomputable def qF:Sg->R Fw:=(bO (vD (eL (iX [none,some 1] (e1 bV (rV 0)) (stN 0) j5 (e2 dIx (e2 dIx (rV 0) (eC (.int 1))) (rV 1))))))
noncomputable def jM:List A->R A:=fnF 2 qF
noncomputable def rN:Sg->R Fw:=(aL (eW 3 (dG (aA (eV 0) aK)))
 (aL (vW 4 (vU (eV 0) (eC (.int 0)) aAV))
 (aL (eW 5 (dG aK))
 (aL (bM (j3 (e1 asB (e2 dLt (e1 dLen (rV 5)) (e1 dLen (rV 3)))) (w9 (e1 asB (vX 12 2 (aA (rV 3) (aA (e1 dLen (rV 5)) aK)))))) (aL (eW 6 (dG aK))
 (aL (k6 (e1 bV (uG 12 1 (aA (e2 dIx (rV 3) (e1 dLen (rV 5))) aK))) (stN 7) (aL (sIf (e1 asB (oN true 4 (eV 7))) (aL (mP 4 (eV 7) (e1 dLen (rV 3)))
 (fH 3 (eV 7))) sNx)
 (fH 6 (n8 4 (eV 7)))))
 (fH 5 (e1 dTup (rV 6))))))
 (sFz 5 (sFz 3 (bO (vD (cY (aA (eV 3) (aA (eV 5) aK)))))))))))
noncomputable def gK:List A->R A:=fnF 8 rN
noncomputable def oC:Sg->R Fw:=(bO (vD (e1 (j7 "str") (rV 0))))
noncomputable def fX:List A->R A:=fnF 1 oC
noncomputable def k7:Sg->R Fw:=(aL (bW 1 (vD (e1 dTup (eL (iX [none] (e1 bV (rV 0)) (stN 0) j5 (e2 dIx (rV 0) (eC (.int 0))))))))
 (bO (vD (cY (aA (e2 dIx (rV 1) (eC (.int 0))) (aA (eV 1) aK))))))
noncomputable def gL:List A->R A:=fnF 2 k7
noncomputable def oT:Sg->R Bool:=(w9 (e1 asB (eA (bB 1 fX (aA (vV 2) aK)))))
noncomputable def oB:Sg->R Fw:=(aL (sIf (e1 asB (oN false 3 (eV 2))) (bO (vD (eC (.str "ever")))) sNx)
 (aL (mP 3 (eV 2) (eC (.bool true)))
 (aL (bW 4 (vD (e2 dIx (rV 1) (rV 2))))
 (aL (sIf (e1 asB (e2 dEq (e2 dIx (rV 4) (eC (.int 1))) (eC (.int 1)))) (bO (vD (e2 dIx (rV 4) (eC (.int 0))))) sNx)
 (bW 2 (vD (e2 dIx (rV 0) (e2 dIx (rV 4) (eC (.int 0))))))))))
noncomputable def rO:Sg->R Fw:=aL (p9 3) (aL (bM oT oB) (bO (vV 2)))
noncomputable def i6:List A->R A:=fnF 5 rO
noncomputable def uL:Sg->R Fw:=(aL (bW 2 (bB 3 i6 (aA (vD (e2 dIx (rV 0) (eC (.int 1)))) (aA (vV 1) (aA (vD (e2 dIx (rV 0) (eC (.int 0)))) aK)))))
 (aL (bW 3 (vD (e1 dTup (eL (iX [none,some 0,some 1] (iA (e1 dLen (rV 1))) (stN 0) j5 (eA (bB 3 i6 (aA (vD (e2 dIx (rV 1) (eC (.int 1)))) (aA (vV 2) (aA (vV 0) aK))))))))))
 (bO (vD (cY (aA (eV 2) (aA (eV 3) aK)))))))
noncomputable def iK:List A->R A:=fnF 4 uL
noncomputable def wT:Sg->R Bool:=(w9 (e1 asB (eA (bB 1 fX (aA (vV 2) aK)))))
noncomputable def wB:Sg->R Fw:=(aL (sIf (e1 asB (oN false 3 (eV 2))) (bO (vD (eC (.str "ever")))) sNx)
 (aL (mP 3 (eV 2) (eC (.bool true)))
 (aL (bW 4 (vD (e2 dIx (e2 dIx (rV 0) (rV 2)) (eC (.int 2)))))
 (bW 2 (vD (eIf (e1 asB (eA (bB 1 fX (aA (vV 4) aK)))) (eV 4) (e2 dIx (e2 dIx (rV 1) (eC (.int 1))) (rV 4))))))))
noncomputable def mC:Sg->R Fw:=aL (bW 2 (vD (e2 dIx (rV 1) (eC (.int 0))))) (aL (p9 3) (aL (bM wT wB) (bO (vV 2))))
noncomputable def fO:List A->R A:=fnF 5 mC
noncomputable def dZ:Sg->R Fw:=(bO (vD (eL (iX [none,some 0] (e1 bV (rV 1)) (stN 0) j5 (eA (bB 2 iK (aA (vV 1) (aA (vV 0) aK))))))))
noncomputable def fM:Sg->R Fw:=(bO (vD (e2 dGt (e1 dLen (rV 0)) (eC (.int 200)))))
noncomputable def oD:Sg->R Fw:=(aL (eW 1 (iX [none,some 0] (iA (eA (bB 1 jL (aA (vV 0) aK)))) (stN 0) j5 (eA (bB 2 jM (aA (vV 1) (aA (vV 0) aK))))))
 (aL (sU 2 "one_way.<locals>.after")
 (aL (sFz 1 (bW 3 (jX [1] 3 gK (aA (bB 1 gL (aA (vV 0) aK)) (aA (qD "one_way.<locals>.after" [1] 4 1 (eM 2 dZ) 2) (aA (oO [] 1 2 (eM 2 fM)) aK))))))
 (aL (bW 4 (vD (e2 dIx (rV 3) (eC (.int 0)))))
 (aL (sIf (e1 asB (e2 dGt (e1 dLen (rV 4)) (eC (.int 200)))) (xI "TooMany" (eC (.int 200))) sNx)
 (bO (vD (cY (aA (e1 dTup (e2 dIx (rV 3) (eC (.int 1)))) (aA (e1 dTup (eL (iX [none,some 0] (e1 bV (rV 4)) (stN 0) j5 (eA (bB 2 fO (aA (vV 1) (aA (vV 0) aK))))))) aK))))))))))
noncomputable def fJ:List A->R A:=fnF 5 oD
noncomputable def stF:Sg->R Fw:=(zQ 2 (eV 6) (cY (aA (eV 3) (aA (eV 5) aK))))
noncomputable def stO:Sg->R Fw:=(k6 (e2 aA8 (eC (.str "abc")) (eV 4)) (stT [(stN 5),(stN 6)]) stF)
noncomputable def stQ:Sg->R Bool:=(e1 asB (e2 dNe (rV 1) (eC (.int 0))))
noncomputable def stW:Sg->R Fw:=(aL (fH 7 (e2 dIx (n8 2 (eV 1)) (eC (.int 1))))
 (bW 1 (vD (e2 dIx (n8 2 (eV 1)) (eC (.int 0))))))
noncomputable def qG:Sg->R Fw:=(aL (p9 2) (aL (k6 (e1 v3 (eV 0)) (stT [(stN 3),(stN 4)]) stO) (aL (eW 7 (dG aK)) (aL (bM stQ stW) (aL (aE6 7) (bO (vD (e2 aE0 (eC (.str "")) (rV 7)))))))))
noncomputable def k8:List A->R A:=fnF 8 qG
noncomputable def fB:Sg->R Fw:=(bO (vD (uG 11 2 (aA (e2 dIx (rV 0) (rV 1)) aK))))
noncomputable def mQ:Sg->R Fw:=(aL (bW 3 (jX [2] 3 gK (aA (vV 0) (aA (vV 1) (aA (oO [2] 12 2 (eM 3 fB)) aK)))))
 (aL (bW 4 (vD (e2 dIx (rV 3) (eC (.int 0)))))
 (aL (bW 5 (vD (e2 dIx (rV 3) (eC (.int 1)))))
 (bO (vD (cY (aA (eV 4) (aA (eIf (e1 asB (e2 dEq (e1 dLen (rV 5)) (e1 dLen (rV 4)))) (eC .none) (eA (bB 2 k8 (aA (vV 5) (aA (vD (e1 dLen (rV 5))) aK))))) aK))))))))
noncomputable def gM:List A->R A:=fnF 6 mQ
noncomputable def gD:Sg->R Fw:=(bO (vD (e2 dIx (e2 dIx (rV 1) (eC (.int 0))) (rV 0))))
noncomputable def i7:Sg->R Fw:=(bO (vD (e2 dEq (rV 0) (rV 1))))
noncomputable def aBF:Sg->R Fw:=(aL (sU 2 "lead.<locals>.after")
 (bO (vD (e2 dIx (eA (jX [0,1] 3 gM (aA (vD (eC (.int 0))) (aA (qD "lead.<locals>.after" [0] 1 1 (eM 2 gD) 2) (aA (oO [1] 1 1 (eM 2 i7)) aK))))) (eC (.int 1))))))
noncomputable def k9:List A->R A:=fnF 3 aBF
end Mc
namespace Mc
open PySem L2 PyProof.Rows
theorem pA{rs:List Rw}{sg:Nat}{r:Rw}{k:Nat}(M:Mach rs sg)(hr:r∈rs)(hk:k < sg):r.c[k]? = some (r.c.getD k (0,0))/\nC rs.length (r.c.getD k (0,0)):=by
 have h:=M.row r hr
 have hl:k < r.c.length:=by rw[h.2];exact hk
 have e:r.c[k]? = some (r.c.getD k (0,0)):=by rw[A3,AI hl];rfl
 exact ⟨e,h.1.2.2 _ (AL e)⟩
end Mc
namespace Fl
open PySem L2 PyProof.Rows
@[simp] theorem lA(d:PyData)(ρ:Sg):eC d ρ=.ok d:=id rfl
@[simp] theorem mR{α β:Type}(g:α->R β)(f:Sg->R α)(ρ:Sg):e1 g f ρ=(f ρ).bind g:=id rfl
@[simp] theorem jZ{α β γ:Type}(g:α->β->R γ)(f:Sg->R α)(f':Sg->R β)(ρ:Sg):e2 g f f' ρ=(f ρ).bind fun x=>(f' ρ).bind fun y=>g x y:=id rfl
@[simp] theorem sW(i:Nat)(ρ:Sg):eV i ρ=match ρ[i]? with|some (some (.d x))=>.ok x|_=>.bad:=id rfl
@[simp] theorem jN(i:Nat)(ρ:Sg):rV i ρ=match ρ[i]? with|some (some (.d x))=>.ok x|some (some (.l xs))=>.ok (.list xs)|_=>.bad:=id rfl
@[simp] theorem v4(i:Nat)(ρ:Sg):vV i ρ=match ρ[i]? with|some (some (.d x))=>.ok (.d x)|some (some (.x e))=>.ok (.x e)|some (some (.g k n f))=>.ok (.g k n f)|some (some (.f kvs))=>.ok (.f kvs)|_=>.bad:=id rfl
@[simp] theorem oE(f:Sg->R PyData)(ρ:Sg):vD f ρ=(f ρ).bind fun x=>.ok (.d x):=id rfl
@[simp] theorem aG9(x:PyData):getD (.d x)=.ok x:=id rfl
@[simp] theorem aKQ(f:Sg->R A)(ρ:Sg):eA f ρ=(f ρ).bind getD:=id rfl
@[simp] theorem aUS(f:Sg->R (List PyData))(ρ:Sg):eL f ρ=(f ρ).bind fun xs=>.ok (.list xs):=id rfl
@[simp] theorem fY{α:Type}(ρ:Sg):(aK (α:=α)) ρ=.ok []:=id rfl
@[simp] theorem i8{α:Type}(f:Sg->R α)(g:Sg->R (List α))(ρ:Sg):aA f g ρ=(f ρ).bind fun x=>(g ρ).bind fun xs=>.ok (x::xs):=id rfl
@[simp] theorem aDJ(f:Sg->R (List PyData))(ρ:Sg):cY f ρ=(f ρ).bind fun xs=>if xs.length<=16777216 then .ok (.tuple xs) else .bad:=id rfl
@[simp] theorem lL(f:Sg->R (List PyData))(ρ:Sg):dG f ρ=(f ρ).bind fun xs=>if xs.length<=16777216 then .ok xs else .bad:=id rfl
@[simp] theorem nN(n:Nat)(G:List A->R A)(f:Sg->R (List A))(ρ:Sg):bB n G f ρ=(f ρ).bind fun as=>if as.length=n then G as else .bad:=id rfl
@[simp] theorem lB(n:Nat)(fb:Sg->R Fw)(as:List A):fnF n fb as=(fb (as.map some++List.replicate (n - as.length) none)).bind fun w=>match w with | .rt (.l _)=>.bad | .rt a=>.ok a | .nx _=>.ok (.d .none)|_=>.bad:=id rfl
@[simp] theorem aPX(ρ:Sg):sNx ρ=.ok (.nx ρ):=id rfl
@[simp] theorem bR(f g:Sg->R Fw)(ρ:Sg):aL f g ρ=(f ρ).bind fun w=>match w with | .nx ρ'=>g ρ'|w=>.ok w:=id rfl
@[simp] theorem aMO(f:Sg->R A)(ρ:Sg):bO f ρ=(f ρ).bind fun a=>.ok (.rt a):=id rfl
@[simp] theorem aTA(ρ:Sg):aRM ρ=.ok (.rt (.d .none)):=id rfl
@[simp] theorem rP(t:Sg->R Bool)(f g:Sg->R Fw)(ρ:Sg):sIf t f g ρ=(t ρ).bind fun b=>if b=true then f ρ else g ρ:=id rfl
@[simp] theorem aT7{α:Type}(t:Sg->R Bool)(f g:Sg->R α)(ρ:Sg):eIf t f g ρ=(t ρ).bind fun b=>if b=true then f ρ else g ρ:=id rfl
@[simp] theorem pB(i:Nat)(f:Sg->R A)(ρ:Sg):bW i f ρ=(f ρ).bind fun a=>.ok (.nx (ρ.set i (some a))):=id rfl
@[simp] theorem j8(i:Nat)(f:Sg->R (List PyData))(ρ:Sg):eW i f ρ=(f ρ).bind fun xs=>.ok (.nx (ρ.set i (some (.l xs)))):=id rfl
@[simp] theorem aTB(f:Sg->R A)(ρ:Sg):aKI f ρ=(f ρ).bind fun _=>.ok (.nx ρ):=id rfl
@[simp] theorem aT8(i:Nat)(f:Sg->R Fw)(ρ:Sg):sFz i f ρ=f (fz i ρ):=id rfl
@[simp] theorem aUT(i:Nat)(ρ:Sg):fz i ρ=match ρ[i]? with|some (some (.l xs))=>ρ.set i (some (.d (.list xs)))|_=>ρ:=id rfl
@[simp] theorem xO(i:Nat)(f:Sg->R PyData)(ρ:Sg):fH i f ρ=match ρ[i]? with|some (some (.l xs))=>(f ρ).bind fun x=>if xs.length < 16777216 then .ok (.nx (ρ.set i (some (.l (xs++[x]))))) else .bad|_=>.bad:=id rfl
@[simp] theorem aTP(fs:PyData->Sg->Option Sg)(f:Sg->R PyData)(ρ:Sg):qA fs f ρ=(f ρ).bind fun x=>(aAQ (fs x ρ)).bind fun ρ'=>.ok (.nx ρ'):=id rfl
@[simp] theorem pC(fi:Sg->R (List PyData))(fs:PyData->Sg->Option Sg)(fb:Sg->R Fw)(ρ:Sg):k6 fi fs fb ρ=(fi ρ).bind fun xs=>lJ fs fb xs ρ:=id rfl
@[simp] theorem aJE(js:List (Option Nat))(fi:Sg->R (List PyData))(fs:PyData->Sg->Option Sg)(ft:Sg->R Bool)(fe:Sg->R PyData)(ρ:Sg):iX js fi fs ft fe ρ=(fi ρ).bind fun xs=>compL fs ft fe (iB js ρ) xs:=id rfl
@[simp] theorem aSI(cn:Str)(fs:List Str)(f:Sg->R (List PyData))(ρ:Sg):aO8 cn fs f ρ=(f ρ).bind fun xs=>if xs.length=fs.length then .ex ⟨cn,fs.zip xs⟩ else .bad:=id rfl
@[simp] theorem aBG(i:Nat)(x:PyData)(ρ:Sg):stN i x ρ=some (ρ.set i (some (.d x))):=id rfl
@[simp] theorem aPY(fs:List (PyData->Sg->Option Sg))(xs:List PyData)(ρ:Sg):stT fs (.tuple xs) ρ=stL fs xs ρ:=id rfl
@[simp] theorem aTQ(ρ:Sg):stL [] [] ρ=some ρ:=id rfl
@[simp] theorem aTC(f:PyData->Sg->Option Sg)(fs:List (PyData->Sg->Option Sg))(x:PyData)(xs:List PyData)(ρ:Sg):stL (f::fs) (x::xs) ρ=(f x ρ).bind (stL fs xs):=id rfl
@[simp] theorem aDK(ρ:Sg):j5 ρ=.ok true:=id rfl
@[simp] theorem v5(b:Bool):asB (.bool b)=.ok b:=id rfl
@[simp] theorem aTR(f:Sg->R Bool)(ρ:Sg):w9 f ρ=(f ρ).bind fun b=>.ok (!b):=id rfl
@[simp] theorem aDL(f g:Sg->R Bool)(ρ:Sg):j3 f g ρ=(f ρ).bind fun b=>if b=true then g ρ else .ok false:=id rfl
@[simp] theorem aT9(f g:Sg->R Bool)(ρ:Sg):bOr f g ρ=(f ρ).bind fun b=>if b=true then .ok true else g ρ:=id rfl
@[simp] theorem aTS(f:Sg->R PyData)(ρ:Sg):aS4 f ρ=(f ρ).bind fun x=>(asB x).bind fun b=>.ok (.bool (!b)):=id rfl
@[simp] theorem aTT(f g:Sg->R PyData)(ρ:Sg):aS3 f g ρ=(f ρ).bind fun x=>(asB x).bind fun b=>if b=true then g ρ else .ok (.bool false):=id rfl
@[simp] theorem aUA(f g:Sg->R PyData)(ρ:Sg):eOr f g ρ=(f ρ).bind fun x=>(asB x).bind fun b=>if b=true then .ok (.bool true) else g ρ:=id rfl
@[simp] theorem aUB(g g':PyData->PyData->R PyData)(fa fb fc:Sg->R PyData)(ρ:Sg):eCh g g' fa fb fc ρ=(fa ρ).bind fun x=>(fb ρ).bind fun y=>(g x y).bind fun z=>(asB z).bind fun k=>if k=true then (fc ρ).bind fun w=>g' y w else .ok (.bool false):=id rfl
@[simp] theorem aPZ{α:Type}(g:PyData->Option Int->Option Int->R α)(f:Sg->R PyData)(lo hi:Sg->R (Option Int))(ρ:Sg):eSl g f lo hi ρ=(f ρ).bind fun x=>(lo ρ).bind fun l=>(hi ρ).bind fun h=>g x l h:=id rfl
@[simp] theorem aP0(ρ:Sg):oNo ρ=.ok none:=id rfl
@[simp] theorem aP1(f:Sg->R PyData)(ρ:Sg):oSo f ρ=(f ρ).bind fun x=>match x with | .int i=>.ok (some i)|_=>.bad:=id rfl
@[simp] theorem v9(f:Sg->R PyData)(ρ:Sg):iA f ρ=(f ρ).bind fun x=>match x with | .int j=>jW 0 j|_=>.bad:=id rfl
@[simp] theorem aRV(f g:Sg->R PyData)(ρ:Sg):aL0 f g ρ=(f ρ).bind fun x=>(g ρ).bind fun y=>match x,y with | .int i,.int j=>jW i j|_,_=>.bad:=id rfl
@[simp] theorem aTU(f:Sg->R PyData)(g:Sg->R (Option Int))(ρ:Sg):aS6 f g ρ=(f ρ).bind fun x=>(g ρ).bind fun o=>if o=some (-1) then aPA x else .bad:=id rfl
@[simp] theorem aTV(i:Nat)(g:PyData->PyData->R PyData)(f:Sg->R PyData)(ρ:Sg):aS5 i g f ρ=(eV i ρ).bind fun x=>(f ρ).bind fun y=>(g x y).bind fun z=>.ok (.nx (ρ.set i (some (.d z)))):=id rfl
@[simp] theorem nO(i:Nat)(ρ:Sg):p9 i ρ=.ok (.nx (ρ.set i (some (.m [])))):=id rfl
@[simp] theorem aDM(neg:Bool)(i:Nat)(f:Sg->R PyData)(ρ:Sg):oN neg i f ρ=(f ρ).bind fun k=>match ρ[i]? with|some (some (.m kvs))=>if cF k (kvs.map (·.1))=true then .ok (.bool (if neg=true then !cI kvs k else cI kvs k)) else .bad|some (some (.f kvs))=>if cF k (kvs.map (·.1))=true then .ok (.bool (if neg=true then !cI kvs k else cI kvs k)) else .bad|_=>.bad:=id rfl
@[simp] theorem aBH(i:Nat)(f:Sg->R PyData)(ρ:Sg):n8 i f ρ=match ρ[i]? with|some (some (.m kvs))=>(f ρ).bind fun k=>if cF k (kvs.map (·.1))=true then (match eK kvs k with|some v=>.ok v|none=>.bad) else .bad|some (some (.f kvs))=>(f ρ).bind fun k=>if cF k (kvs.map (·.1))=true then (match eK kvs k with|some v=>.ok v|none=>.bad) else .bad|_=>.bad:=id rfl
@[simp] theorem aJF(i:Nat)(f g:Sg->R PyData)(ρ:Sg):mP i f g ρ=(g ρ).bind fun v=>match ρ[i]? with|some (some (.m kvs))=>(f ρ).bind fun k=>if cF k (kvs.map (·.1))=true/\kvs.length<=16777216 then .ok (.nx (ρ.set i (some (.m (putM kvs k v))))) else .bad|_=>.bad:=id rfl
@[simp] theorem rQ(i j:Int):cR (.int i) (.int j)=.ok (.int (i+j)):=id rfl
@[simp] theorem aP2(i j:Int):dSub (.int i) (.int j)=.ok (.int (i - j)):=id rfl
@[simp] theorem aTW(i j:Int):aRL (.int i) (.int j)=.ok (.int (i+j)):=id rfl
@[simp] theorem aUC(i:Int):dNeg (.int i)=.ok (.int (-i)):=id rfl
@[simp] theorem aKR(i j:Int):dLt (.int i) (.int j)=.ok (.bool (decide (i < j))):=id rfl
@[simp] theorem aUU(i j:Int):dLe (.int i) (.int j)=.ok (.bool (decide (i<=j))):=id rfl
@[simp] theorem aUV(i j:Int):dGt (.int i) (.int j)=.ok (.bool (decide (j < i))):=id rfl
@[simp] theorem aUW(i j:Int):dGe (.int i) (.int j)=.ok (.bool (decide (j<=i))):=id rfl
theorem dW{i j:Int}(h:0 < j):dMod (.int i) (.int j)=.ok (.int (i % j)):=AG h
theorem jY{i j:Int}(h:0 < j)(h2:j < 18446744073709551616):dDiv (.int i) (.int j)=.ok (.int (i / j)):=AG ⟨h,h2⟩
theorem rR{i j:Int}(h : -18446744073709551616 < j)(h2:j < 18446744073709551616):dMul (.int i) (.int j)=.ok (.int (i * j)):=AG (.inr ⟨h,h2⟩)
theorem wA{i j:Int}(h : -18446744073709551616 < i)(h2:i < 18446744073709551616):dMul (.int i) (.int j)=.ok (.int (i * j)):=AG (.inl ⟨h,h2⟩)
@[simp] theorem f7(xs:List PyData):dLen (.list xs)=.ok (.int xs.length):=id rfl
@[simp] theorem aP3(xs:List PyData):dLen (.tuple xs)=.ok (.int xs.length):=id rfl
theorem aBI{z:Str}(h:z.length<=16777216):dLen (.str z)=.ok (.int z.length):=AG h
@[simp] theorem aHA(xs:List PyData):dTup (.list xs)=.ok (.tuple xs):=id rfl
@[simp] theorem aUD(xs:List PyData):dTup (.tuple xs)=.ok (.tuple xs):=id rfl
@[simp] theorem aUE(xs:List PyData):aO7 (.list xs)=.ok xs:=id rfl
@[simp] theorem aUF(xs:List PyData):aO7 (.tuple xs)=.ok xs:=id rfl
@[simp] theorem aUG(i:Int):dInt (.int i)=.ok (.int i):=id rfl
@[simp] theorem aUH(b:Bool):dInt (.bool b)=.ok (.int (if b=true then 1 else 0)):=id rfl
@[simp] theorem aUX(x:PyData):dIs x .none=.ok (.bool (iW x)):=id rfl
@[simp] theorem aTX(x:PyData):dIsnt x .none=.ok (.bool (!iW x)):=id rfl
@[simp] theorem aTY:iW .none=true:=id rfl
@[simp] theorem aTZ(xs:List PyData):iW (.tuple xs)=false:=id rfl
@[simp] theorem aT0(i:Int):iW (.int i)=false:=id rfl
@[simp] theorem aT1(i:Str):iW (.str i)=false:=id rfl
theorem pD{α:Type}{xs:List α}{i:Int}{v:α}(h0:0<=i)(h:xs[i.toNat]? = some v):atI xs i=some v:=by
 obtain ⟨j,rfl⟩:∃ j:Nat,i=j:=⟨i.toNat,by omega⟩
 exact hJ (j:=j) h
theorem aBJ{α:Type}(x:α)(t:List α):atI (x::t) 0=some x:=hJ (j:=0) rfl
theorem aDN{α:Type}(x y:α)(t:List α):atI (x::y::t) 1=some y:=hJ (j:=1) rfl
theorem aMP{α:Type}(x y z:α)(t:List α):atI (x::y::z::t) 2=some z:=hJ (j:=2) rfl
theorem oF{xs:List PyData}{i:Int}{v:PyData}(h:atI xs i=some v):dIx (.tuple xs) (.int i)=.ok v:=by show (match atI xs i with|some v=>R.ok v|none=>.bad)=_;rw[h]
theorem lU{xs:List PyData}{i:Int}{v:PyData}(h:atI xs i=some v):dIx (.list xs) (.int i)=.ok v:=by show (match atI xs i with|some v=>R.ok v|none=>.bad)=_;rw[h]
theorem aRW{z:Str}{i:Int}{u:Nat}(hz:z.length<=16777216)(h:atI z.cps.toList i=some u):dIx (.str z) (.int i)=.ok (.str ⟨#[u]⟩):=by
 show (if z.length<=sizeLine then match atI z.cps.toList i with|some u=>R.ok (PyData.str ⟨#[u]⟩)|none=>.bad else .bad)=_
 rw[eH,AG hz,h]
@[simp] theorem aBK(x:PyData)(t:List PyData):dIx (.tuple (x::t)) (.int 0)=.ok x:=oF (aBJ x t)
@[simp] theorem aP4(x y:PyData)(t:List PyData):dIx (.tuple (x::y::t)) (.int 1)=.ok y:=oF (aDN x y t)
@[simp] theorem aUI(x y z:PyData)(t:List PyData):dIx (.tuple (x::y::z::t)) (.int 2)=.ok z:=oF (aMP x y z t)
@[simp] theorem aP5(x:PyData)(t:List PyData):dIx (.list (x::t)) (.int 0)=.ok x:=lU (aBJ x t)
@[simp] theorem aP6(x y:PyData)(t:List PyData):dIx (.list (x::y::t)) (.int 1)=.ok y:=lU (aDN x y t)
theorem qH{xs:List PyData}(h:xs.length<=16777216):bV (.tuple xs)=.ok xs:=AG h
theorem j9{xs:List PyData}(h:xs.length<=16777216):bV (.list xs)=.ok xs:=AG h
theorem aJG{z:Str}(h:z.cps.toList.length<=16777216):bV (.str z)=.ok (z.cps.toList.map fun u=>.str ⟨#[u]⟩):=AG h
theorem aHB{x y:PyData}(hx:SeqAt.shaped x=true)(hy:SeqAt.shaped y=true):dEq x y=.ok (.bool (PyData.eqv x y)):=AG ⟨hx,hy⟩
theorem aBL{x y:PyData}(hx:SeqAt.shaped x=true)(hy:SeqAt.shaped y=true):dNe x y=.ok (.bool (!PyData.eqv x y)):=AG ⟨hx,hy⟩
@[simp] theorem aUJ(T:String)(i:Int):j7 T (.int i)=.ok (.bool (j6 "int" T)):=id rfl
@[simp] theorem aUK(T:String)(i:Str):j7 T (.str i)=.ok (.bool (j6 "str" T)):=id rfl
@[simp] theorem aUL(T:String)(i:List PyData):j7 T (.tuple i)=.ok (.bool (j6 "tuple" T)):=id rfl
@[simp] theorem aUM(T:String)(i:List PyData):j7 T (.list i)=.ok (.bool (j6 "list" T)):=id rfl
@[simp] theorem aUN(T:String)(i:Bool):j7 T (.bool i)=.ok (.bool (j6 "bool" T)):=id rfl
@[simp] theorem aUO(T:String):j7 T .none=.ok (.bool (j6 "NoneType" T)):=id rfl
theorem aRX{xs:List PyData}{lo hi:Option Int}(h:¬ (HT.sIx xs.length 0 lo=0/\HT.sIx xs.length xs.length hi=xs.length)):dSl (.tuple xs) lo hi=.ok (.tuple (rH xs lo hi)):=by
 unfold dSl;exact AG h
theorem aRY{z:Str}{lo hi:Option Int}(h:z.length<=16777216):dSl (.str z) lo hi=.ok (.str (Txt.slice z lo hi)):=by
 unfold dSl;exact AG h
theorem aP7{xs ys:List PyData}(h:xs.isEmpty=false)(h2:xs.length+ys.length<=16777216):cR (.tuple xs) (.tuple ys)=.ok (.tuple (xs++ys)):=by
 unfold cR;exact AG ⟨h,by rw[eH];exact h2⟩
theorem aP8{x y:Str}(h:x.length+y.length<=16777216):cR (.str x) (.str y)=.ok (.str (x++y)):=by
 unfold cR;exact AG (by rw[eH];exact h)
theorem gU{α:Type}{fs:PyData->Sg->Option Sg}{fe:Sg->R PyData}{ρ0:Sg}{d:α->PyData}{g:α->PyData}:∀ {xs:List α},(∀ x∈xs,∃ ρ1,fs (d x) ρ0=some ρ1/\fe ρ1=.ok (g x))->compL fs j5 fe ρ0 (xs.map d)=.ok (xs.map g)
 | [],_=>rfl
 | x::t,h=>by
  obtain ⟨ρ1,h1,h2⟩:=h x AV
  rw[AW]
  unfold compL
  rw[h1,gU fun y hy=>h y (AN _ hy),rD,R.bind_ok,aDK,R.noEx_ok,R.bind_ok,AG rfl,h2];rfl
theorem iL{α:Type}{fs:PyData->Sg->Option Sg}{fb:Sg->R Fw}{d:α->PyData}{xs:List α}{ρ:Sg}(J:Nat->Sg->Prop)(h0:J 0 ρ)(hs:∀ (i:Nat) (x:α) (ρ:Sg),xs[i]? = some x->J i ρ->∃ ρ1 ρ2,fs (d x) ρ=some ρ1/\(fb ρ1=.ok (.nx ρ2)\/fb ρ1=.ok (.ct ρ2))/\J (i+1) ρ2) :
  ∃ ρ',lJ fs fb (xs.map d) ρ=.ok (.nx ρ')/\J xs.length ρ':=by
 induction xs generalizing ρ J with
 | nil=>exact ⟨ρ,rfl,h0⟩
 | cons x t ih=>
  obtain ⟨ρ1,ρ2,h1,h2,h3⟩:=hs 0 x ρ rfl h0
  obtain ⟨ρ',q1,q2⟩:=ih (ρ:=ρ2) (fun i=>J (i+1)) h3 (fun i y ρ hy hj=>hs (i+1) y ρ (by simpa using hy) hj)
  refine ⟨ρ',?_,q2⟩
  rw[AW]
  unfold lJ
  rw[h1,rD,R.bind_ok]
  rcases h2 with h2|h2<;>rw[h2]<;>exact q1
theorem gN{t:Sg->R Bool}{b:Sg->R Fw}{ρ ρ':Sg}(h1:t ρ=.ok true)(h2:b ρ=.ok (.nx ρ')):bM t b ρ=bM t b ρ':=by
 rw[rF,h1,R.bind_ok,AG rfl,h2];rfl
theorem i9{t:Sg->R Bool}{b:Sg->R Fw}{ρ:Sg}{a:A}(h1:t ρ=.ok true)(h2:b ρ=.ok (.rt a)):bM t b ρ=.ok (.rt a):=by
 rw[rF,h1,R.bind_ok,AG rfl,h2];rfl
theorem eQ{t:Sg->R Bool}{b:Sg->R Fw}{ρ:Sg}(h1:t ρ=.ok false):bM t b ρ=.ok (.nx ρ):=by
 rw[rF,h1,R.bind_ok,AH (by decide)]
def been{α:Type}(d:α->PyData)(ps:List α):List (PyData×PyData):=ps.map fun p=>(d p,.bool true)
theorem rS{α:Type}(d:α->PyData)(ps:List α):(been d ps).map (·.1)=ps.map d:=by unfold been;rw[B1];rfl
theorem nQ{α:Type}{d:α->PyData}(hd:∀ a b,d a=d b->a=b){ps:List α}{p:α}:cI (been d ps) (d p)=true↔p∈ps:=by
 rw[uD,rS,A0]
 exact ⟨fun ⟨q,h1,h2⟩=>hd q p h2▸h1,fun h=>⟨p,h,rfl⟩⟩
theorem iH{α:Type}{d:α->PyData}(hd:∀ a b,d a=d b->a=b){ps:List α}{p:α}(h:p∉ps):cI (been d ps) (d p)=false:=by
 cases q:cI (been d ps) (d p) with
 | false=>rfl
 | true=>exact absurd ((nQ hd).mp q) h
theorem lM{α:Type}{d:α->PyData}(hd:∀ a b,d a=d b->a=b){ps:List α}{p:α}(h:p∉ps):putM (been d ps) (d p) (.bool true)=been d (ps++[p]):=by
 unfold putM
 rw[iH hd h,AH (by decide)]
 unfold been
 rw[A7];rfl
theorem jA{α:Type}{d:α->PyData}(hk:∀ a,iR (d a)=true)(ps:List α)(p:α):cF (d p) ((been d ps).map (·.1))=true:=by
 unfold cF
 rw[rS,hk,FP,DK,BT]
 refine .inl fun x hx=>?_
 obtain ⟨q,_,rfl⟩:=A0.mp hx
 exact hk q
theorem jB{α:Type}(d:α->PyData)(ps:List α):(been d ps).length=ps.length:=by unfold been;rw[AB]
def prD(p:Int×Int):PyData:=.tuple [.int p.1,.int p.2]
theorem kO(a b:Int×Int)(h:prD a=prD b):a=b:=by
 unfold prD at h
 injection h with h
 injection h with h1 h2
 injection h2 with h2 _
 injection h1 with h1
 injection h2 with h2
 exact Prod.ext h1 h2
theorem lN(a:Int×Int):iR (prD a)=true:=rfl
end Fl
namespace Mc
open PySem L2 PyProof.Rows Fl
theorem aMQ{r:Rw}{rs:List Rw}:jL [.d (bE (r::rs))]=.ok (.d (.int r.c.length)):=by
 simp[jL,qE,bE,dE]
theorem Mach.cons{rs:List Rw}{sg:Nat}(M:Mach rs sg):∃ r t,rs=r::t/\r.c.length=sg:=by
 cases rs with
 | nil=>have:=M.len;simp at this
 | cons r t=>exact ⟨r,t,rfl,(M.row r AV).2⟩
def ck(k:Nat)(r:Rw):Int×Int:=r.c.getD k (0,0)
theorem aMR{rs:List Rw}{sg k:Nat}(M:Mach rs sg)(hk:k < sg):jM [.d (bE rs),.d (.int k)]=.ok (.d (.list (rs.map fun r=>eS (ck k r)))):=by
 have h:=gU (fs:=stN 0) (fe:=e2 dIx (e2 dIx (rV 0) (eC (.int 1))) (rV 1)) (ρ0:=[none,some (.d (.int k))]) (d:=dE) (g:=fun r=>eS (ck k r)) (xs:=rs) fun r hr=>by
  refine ⟨_,rfl,?_⟩
  have e:dIx (.tuple (r.c.map eS)) (.int (k:Int))=.ok (eS (ck k r)):=oF (hJ (j:=k) (by rw[AJ,(pA M hr hk).1];rfl))
  simp[dE,e]
 have hl:(rs.map dE).length<=16777216:=by have:=M.len2;rw[AB];omega
 simp[jM,qF,bE,qH hl,iB,h]
theorem jC{n:Nat}(h:n<=16777216):jW 0 (n:Int)=.ok ((List.range n).map fun i:Nat=>.int (i:Int)):=by
 unfold jW
 rw[AG (by omega)]
 unfold nI
 simp
theorem aHC(z y:Str):vT (.str z) (.str y)=match Builtin.Str.occurrences z y 0 z.length 1 with|i::_=>R.ok (PyData.int i)|[]=>.bad:=rfl
theorem aMS{c:Nat}(h:eO 3 c=true):vT (.str "abc") (.str ⟨#[c]⟩)=.ok (.int ((c - 97:Nat):Int)):=by
 obtain ⟨r,e⟩:=aGA h
 rw[aHC,e]
theorem aJH{n c:Nat}(hn:n<=3)(h:eO n c=true):eO 3 c=true:=AY (by have:=BO h;omega)
theorem mS(i:Int):SeqAt.shaped (.int i)=true:=id rfl
theorem aHD(i j:Int):PyData.eqv (.int i) (.int j)=decide (i=j):=by
 rw[PyData.eqv.eq_5]
 by_cases h:i=j
 · simp [h]
 · simp [h]
theorem dX(i j:Int):dEq (.int i) (.int j)=.ok (.bool (decide (i=j))):=by rw[aHB (mS i) (mS j),aHD]
noncomputable def lV:Sg->R Fw:=(aL (bW 2 (vD (eC (.int 0))))
 (aL (sIf (e1 asB (e2 dGt (e1 dLen (rV 0)) (eC (.int 0)))) (bW 2 (vD (e2 dIx (rV 0) (e2 dMod (rV 1) (e1 dLen (rV 0)))))) sNx)
 (aL (bW 3 (vD (e2 dMod (e2 dMul (e2 cR (e2 cR (e2 dMod (rV 2) (eC (.int 2147483647))) (e2 dMul (eC (.int 7919)) (rV 1))) (eC (.int 1))) (eC (.int 48271))) (eC (.int 2147483647)))))
 (bO (vD (e2 cR (e2 dMul (e2 dDiv (rV 2) (eC (.int 2147483647))) (eC (.int 2147483659))) (e2 dMod (e2 cR (e2 dMul (rV 3) (eC (.int 69621))) (e2 dMul (eC (.int 104729)) (rV 1))) (eC (.int 2147483659)))))))))
noncomputable def bT:List A->R A:=fnF 4 lV
noncomputable def mT:Sg->R Fw:=(aL (sIf (e1 asB (e2 dEq (e2 dMod (rV 0) (eC (.int 3))) (eC (.int 0)))) (bO (vD (e2 dIx (eL (dG (aA (eC (.str "by")) (aA (eC (.str "out")) aK)))) (e2 dMod (e2 dDiv (rV 0) (eC (.int 3))) (eC (.int 2)))))) sNx)
 (bO (vD (e2 dMod (e2 dDiv (rV 0) (eC (.int 3))) (rV 1)))))
noncomputable def gO:List A->R A:=fnF 2 mT
noncomputable def kA:Sg->R Fw:=(aL (bW 3 (vD (e2 dMod (rV 0) (e2 cR (rV 1) (eC (.int 2))))))
 (aL (bW 0 (vD (e2 dDiv (rV 0) (e2 cR (rV 1) (eC (.int 2))))))
 (aL (eW 4 (dG aK))
 (aL (k6 (iA (rV 2)) (stN 5) (aL (fH 4 (cY (aA (e2 dMod (e2 dDiv (rV 0) (eC (.int 2))) (rV 1)) (aA (e2 dSub (eC (.int 1)) (e2 dMul (e2 dMod (rV 0) (eC (.int 2))) (eC (.int 2)))) aK))))
 (bW 0 (vD (e2 dDiv (rV 0) (e2 dMul (eC (.int 2)) (rV 1)))))))
 (aL (eW 6 (dG (aA (eV 3) (aA (e2 dMod (rV 0) (e2 cR (rV 1) (eC (.int 2)))) aK))))
 (aL (eW 6 (iX [none,some 1] (e1 bV (rV 6)) (stN 0) j5 (eIf (e1 asB (e2 dGe (rV 0) (rV 1))) (e2 dIx (eL (dG (aA (eC (.str "by")) (aA (eC (.str "out")) aK)))) (e2 dSub (rV 0) (rV 1))) (eV 0))))
 (bO (vD (cY (aA (e2 dIx (rV 6) (eC (.int 0))) (aA (e1 dTup (rV 4)) (aA (e2 dIx (rV 6) (eC (.int 1))) aK))))))))))))
noncomputable def fC:List A->R A:=fnF 7 kA
noncomputable def kB:Sg->R Fw:=(aL (eW 3 (dG aK))
 (aL (k6 (iA (e2 cR (rV 2) (eC (.int 2)))) (stN 4) (aL (bW 0 (vD (e2 dMod (e2 cR (e2 dMul (rV 0) (eC (.int 48271))) (eC (.int 7919))) (eC (.int 2147483647)))))
 (fH 3 (e2 dDiv (rV 0) (eC (.int 64))))))
 (aL (bW 5 (vD (e1 dTup (eL (iX [none,some 1] (e1 bV (eSl dSl (rV 3) (oSo (eC (.int 2))) oNo)) (stN 0) j5 (cY (aA (e2 dMod (rV 0) (rV 1)) (aA (e2 dSub (eC (.int 1)) (e2 dMul (e2 dDiv (e2 dMod (e2 dDiv (rV 0) (eC (.int 64))) (eC (.int 3))) (eC (.int 2))) (eC (.int 2)))) aK))))))))
 (bO (vD (cY (aA (eA (bB 2 gO (aA (vD (e2 dIx (rV 3) (eC (.int 0)))) (aA (vV 1) aK)))) (aA (eV 5) (aA (eA (bB 2 gO (aA (vD (e2 dIx (rV 3) (eC (.int 1)))) (aA (vV 1) aK)))) aK)))))))))
noncomputable def d0:List A->R A:=fnF 6 kB
noncomputable def lO:Sg->R Fw:=(aL (eW 4 (dG aK))
 (aL (k6 (iA (rV 2)) (stN 5) (sIf (j3 (e1 asB (e2 dLt (e2 cR (rV 1) (rV 5)) (e1 dLen (rV 0)))) (e1 asB (e2 dEq (e2 dMod (e2 dIx (rV 0) (eC (.int 0))) (eC (.int 2))) (eC (.int 1))))) (fH 4 (eA (bB 3 fC (aA (vD (e2 dIx (rV 0) (e2 cR (rV 1) (rV 5)))) (aA (vV 2) (aA (vV 3) aK)))))) (aL (bW 6 (bB 3 d0 (aA (vD (e2 dMod (eA (bB 2 bT (aA (vV 0) (aA (vD (e2 cR (rV 1) (rV 5))) aK)))) (eC (.int 2147483647)))) (aA (vV 2) (aA (vV 3) aK)))))
 (aL (sIf (j3 (e1 asB (e2 dEq (rV 5) (eC (.int 0)))) (j3 (e1 asB (e1 (j7 "str") (e2 dIx (rV 6) (eC (.int 0))))) (e1 asB (e2 dGt (e2 dMod (e2 dDiv (eA (bB 2 bT (aA (vV 0) (aA (vV 1) aK)))) (eC (.int 8))) (eC (.int 8))) (eC (.int 0)))))) (bW 6 (vD (e2 cR (cY (aA (e2 dMod (e2 dDiv (eA (bB 2 bT (aA (vV 0) (aA (vV 1) aK)))) (eC (.int 64))) (rV 2)) aK)) (eSl dSl (rV 6) (oSo (eC (.int 1))) oNo)))) sNx)
 (fH 4 (eV 6))))))
 (bO (vD (e1 dTup (rV 4))))))
noncomputable def eI:List A->R A:=fnF 7 lO
noncomputable def oP:Sg->R Fw:=(aL (qA (stT [(stN 3),(stN 4)]) (eV 2))
 (aL (qA (stT [(stN 5),(stN 6),(stN 7)]) (e2 dIx (rV 0) (rV 4)))
 (aL (sIf (bOr (e1 asB (e2 dEq (rV 3) (eC (.int 0)))) (e1 asB (e2 dGt (rV 3) (e1 dLen (rV 1))))) (aL (bW 8 (vD (e2 dIx (eL (dG (aA (eV 5) (aA (eV 7) aK)))) (e1 dInt (e2 dGt (rV 3) (eC (.int 0)))))))
 (aL (sIf (e1 asB (e1 (j7 "str") (rV 8))) (bO (vD (eC .none))) sNx)
 (bO (vD (cY (aA (e2 dIx (eL (dG (aA (eC (.int 1)) (aA (e1 dLen (rV 1)) aK)))) (e1 dInt (e2 dGt (rV 3) (eC (.int 0))))) (aA (eV 8) aK))))))) sNx)
 (aL (qA (stT [(stN 8),(stN 9)]) (e2 dIx (rV 6) (e2 vT (eC (.str "abc")) (e2 dIx (rV 1) (e2 dSub (rV 3) (eC (.int 1)))))))
 (bO (vD (cY (aA (e2 cR (rV 3) (rV 9)) (aA (eV 8) aK)))))))))
noncomputable def fD:List A->R A:=fnF 10 oP
noncomputable def uM:Sg->R Bool:=(e1 asB (oN true 3 (e2 dIx (rV 2) (e1 dNeg (eC (.int 1))))))
noncomputable def uN:Sg->R Fw:=(aL (mP 3 (e2 dIx (rV 2) (e1 dNeg (eC (.int 1)))) (eC (.bool true)))
 (aL (bW 4 (bB 3 fD (aA (vV 0) (aA (vV 1) (aA (vD (e2 dIx (rV 2) (e1 dNeg (eC (.int 1))))) aK)))))
 (aL (sIf (e1 asB (e2 dIs (rV 4) (eC .none))) (sFz 2 (bO (vV 2))) sNx)
 (fH 2 (eV 4)))))
noncomputable def mD:Sg->R Fw:=aL (eW 2 (dG (aA (cY (aA (eC (.int 0)) (aA (eC (.int 0)) aK))) aK))) (aL (p9 3) (aL (bM uM uN) (sFz 2 (bO (vV 2)))))
noncomputable def iO:List A->R A:=fnF 5 mD
noncomputable def oQ:Sg->R Fw:=(aL (qA (stT [(stN 2),(stN 3)]) (e2 dIx (eA (bB 2 iO (aA (vV 0) (aA (vV 1) aK)))) (e1 dNeg (eC (.int 1)))))
 (aL (sIf (e1 asB (e2 dIsnt (eA (bB 3 fD (aA (vV 0) (aA (vV 1) (aA (vD (cY (aA (eV 2) (aA (eV 3) aK)))) aK))))) (eC .none))) (bO (vD (eC (.str "ever")))) sNx)
 (bO (vD (e2 dIx (eL (dG (aA (e2 dIx (e2 dIx (rV 0) (rV 3)) (eC (.int 0))) (aA (e2 dIx (e2 dIx (rV 0) (rV 3)) (eC (.int 2))) aK)))) (e1 dInt (e2 dGt (rV 2) (eC (.int 0)))))))))
noncomputable def fE:List A->R A:=fnF 4 oQ
noncomputable def byT:Sg->R Bool:=(e1 asB (e2 dLe (rV 2) (e1 dLen (rV 1))))
noncomputable def byB:Sg->R Fw:=(aL (sIf (e1 asB (oN false 4 (cY (aA (eV 2) (aA (eV 3) aK))))) (bO (vD (eC (.str "ever")))) sNx)
 (aL (mP 4 (cY (aA (eV 2) (aA (eV 3) aK))) (eC (.bool true)))
 (aL (sIf (j3 (e1 asB (e2 dEq (rV 2) (eC (.int 0)))) (e1 asB (e1 (j7 "str") (e2 dIx (e2 dIx (rV 0) (rV 3)) (eC (.int 0)))))) (bO (vD (e2 dIx (e2 dIx (rV 0) (rV 3)) (eC (.int 0))))) sNx)
 (qA (stT [(stN 2),(stN 3)]) (eA (bB 3 fD (aA (vV 0) (aA (vV 1) (aA (vD (cY (aA (eV 2) (aA (eV 3) aK)))) aK)))))))))
noncomputable def mE:Sg->R Fw:=aL (p9 4) (aL (bM byT byB) (bO (vV 3)))
noncomputable def fP:List A->R A:=fnF 5 mE
noncomputable def kC:Sg->R Fw:=(aL (eW 2 (iX [none,some 0,some 1] (iA (e1 dLen (rV 0))) (stN 0) j5 (eA (bB 4 fP (aA (vV 1) (aA (vV 2) (aA (vD (e1 dLen (rV 2))) (aA (vV 0) aK))))))))
 (bO (vD (cY (aA (eA (bB 4 fP (aA (vV 0) (aA (vV 1) (aA (vD (eC (.int 0))) (aA (vD (eC (.int 0))) aK)))))) (aA (e1 dTup (rV 2)) aK))))))
noncomputable def eB:List A->R A:=fnF 3 kC
noncomputable def wyT:Sg->R Bool:=(e1 asB (e2 dLt (e1 dLen (rV 5)) (e1 dLen (rV 3))))
noncomputable def wyF:Sg->R Fw:=(aL (bW 8 (vD (e2 cR (e2 dIx (rV 3) (e1 dLen (rV 5))) (rV 7))))
 (aL (bW 9 (bB 2 eB (aA (vV 0) (aA (vV 8) aK))))
 (aL (sIf (e1 asB (oN true 4 (eV 9))) (aL (mP 4 (eV 9) (e1 dLen (rV 3)))
 (fH 3 (eV 8))) sNx)
 (fH 6 (n8 4 (eV 9))))))
noncomputable def wyB:Sg->R Fw:=(aL (eW 6 (dG aK))
 (aL (k6 (e1 bV (eSl dSl (eC (.str "abc")) oNo (oSo (rV 1)))) (stN 7) wyF)
 (aL (fH 5 (e1 dTup (rV 6)))
 (sIf (e1 asB (e2 dGt (e1 dLen (rV 3)) (rV 2))) (bO (vD (eC .none))) sNx))))
noncomputable def wyE:Sg->R Fw:=(sFz 3 (bO (vD (cY (aA (eV 3) (aA (e1 dTup (rV 5)) (aA (e1 dTup (eL (iX [none,some 0] (e1 bV (rV 3)) (stN 0) j5 (eA (bB 2 fE (aA (vV 1) (aA (vV 0) aK))))))) aK)))))))
noncomputable def oR:Sg->R Fw:=(aL (eW 3 (dG (aA (eC (.str "")) aK)))
 (aL (vW 4 (vU (eA (bB 2 eB (aA (vV 0) (aA (vD (eC (.str ""))) aK)))) (eC (.int 0)) aAV))
 (aL (eW 5 (dG aK)) (aL (bM wyT wyB) wyE))))
noncomputable def cV:List A->R A:=fnF 10 oR
noncomputable def nR:Sg->R Fw:=(aL (bW 2 (vD (e2 cR (eC (.int 1)) (e2 dMod (eA (bB 2 bT (aA (vV 0) (aA (vV 1) aK)))) (eC (.int 2))))))
 (aL (bW 3 (vD (e2 cR (eC (.int 1)) (e2 dMod (eA (bB 2 bT (aA (vV 0) (aA (vD (e2 cR (rV 1) (eC (.int 1)))) aK)))) (e2 dIx (eL (dG (aA (eC (.int 5)) (aA (eC (.int 3)) aK)))) (e2 dSub (rV 2) (eC (.int 1))))))))
 (aL (bW 4 (bB 4 eI (aA (vV 0) (aA (vD (e2 cR (rV 1) (eC (.int 2)))) (aA (vV 3) (aA (vV 2) aK))))))
 (aL (bW 5 (bB 3 cV (aA (vV 4) (aA (vV 2) (aA (vD (eC (.int 40))) aK)))))
 (aL (bM (e1 asB (e2 dIs (rV 5) (eC .none))) (aL (bW 3 (vD (e2 dSub (rV 3) (eC (.int 1)))))
 (aL (bW 4 (bB 4 eI (aA (vV 0) (aA (vD (e2 cR (rV 1) (eC (.int 2)))) (aA (vV 3) (aA (vV 2) aK))))))
 (bW 5 (bB 3 cV (aA (vV 4) (aA (vV 2) (aA (vD (eC (.int 40))) aK))))))))
 (bO (vD (cY (aA (eV 4) (aA (eV 5) aK))))))))))
noncomputable def iD:List A->R A:=fnF 6 nR
def fQ(ns:List Int):PyData:=.list (ns.map .int)
theorem pE(ns:List Int):dLen (fQ ns)=.ok (.int ns.length):=by unfold fQ;rw[f7,AB]
theorem aBM{ns:List Int}{i:Int}(h0:0<=i)(h1:i < ns.length):∃ v,dIx (fQ ns) (.int i)=.ok (.int v):=by
 refine ⟨ns[i.toNat]'(by omega),lU (pD h0 ?_)⟩
 rw[AJ,AI (by omega)];rfl
theorem rT(ns:List Int)(k:Int):∃ v,bT [.d (fQ ns),.d (.int k)]=.ok (.d (.int v)):=by
 by_cases h:(0:Int) < ns.length
 ·obtain ⟨v,hv⟩:=aBM (ns:=ns) (i:=k % (ns.length:Int)) (C7 _ (by omega)) (CL _ h)
  have hm:dMod (.int k) (.int (ns.length:Int))=.ok (.int (k % (ns.length:Int))):=dW h
  have hd:0 < ns.length:=by omega
  refine ⟨v / 2147483647 * 2147483659+((v % 2147483647+7919 * k+1) * 48271 % 2147483647 * 69621+104729 * k) % 2147483659,?_⟩
  unfold bT lV
  simp[pE,hd,hm,hv,dW,rR,wA,jY]
 ·have hd:¬ 0 < ns.length:=by omega
  refine ⟨((7919 * k+1) * 48271 % 2147483647 * 69621+104729 * k) % 2147483659,?_⟩
  unfold bT lV
  simp[pE,hd,dW,rR,wA,jY]
theorem aP9(x y:PyData)(i:Int):∃ z,dIx (.list [x,y]) (.int (i % 2))=.ok z/\(z=x\/z=y):=by
 rcases Int.emod_two_eq i with h|h
 · rw [h]; exact ⟨x, aP5 _ _, .inl rfl⟩
 · rw [h]; exact ⟨y, aP6 _ _ _, .inr rfl⟩
theorem aKS(x:Int){n:Int}(hn:0 < n):∃ t:Tn,gO [.d (.int x),.d (.int n)]=.ok (.d t.d)/\t.good n:=by
 by_cases h:x % 3=0
 ·obtain ⟨z,hz,hzz⟩:=aP9 (.str "by") (.str "out") (x / 3)
  have hd:decide (x % 3=0)=true:=AY h
  have e:gO [.d (.int x),.d (.int n)]=.ok (.d z):=by
   unfold gO mT
   simp[dW,jY,dX,hd,hz]
  rcases hzz with rfl|rfl
  ·exact ⟨.w "by",e,.inl rfl⟩
  ·exact ⟨.w "out",e,.inr rfl⟩
 ·have hd:decide (x % 3=0)=false:=AZ h
  refine ⟨.n (x / 3 % n),?_,C7 _ (by omega),CL _ hn⟩
  unfold gO mT
  simp[dW,jY,dX,hd,hn]
  rfl
theorem aDO(x:Int){n:Int}{sg:Nat}(hn:0 < n)(hs:sg<=1000):∃ r:Rw,d0 [.d (.int x),.d (.int n),.d (.int sg)]=.ok (.d (dE r))/\r.good n/\r.c.length=sg:=by
 have hr:jW 0 ((sg:Int)+2)=.ok ((List.range (sg+2)).map fun i:Nat=>.int (i:Int)):=by
  have:=jC (n:=sg+2) (by omega)
  rw[show (((sg+2:Nat)):Int)=(sg:Int)+2 by omega] at this
  exact this
 obtain ⟨ρ',hf,y,ps,u4,hp,rfl⟩:=iL (fs:=stN 4) (fb:=aL (bW 0 (vD (e2 dMod (e2 cR (e2 dMul (rV 0) (eC (.int 48271))) (eC (.int 7919))) (eC (.int 2147483647))))) (fH 3 (e2 dDiv (rV 0) (eC (.int 64)))))
  (d:=fun i:Nat=>.int (i:Int)) (xs:=List.range (sg+2)) (ρ:=[some (.d (.int x)),some (.d (.int n)),some (.d (.int sg)),some (.l []),none,none])
  (fun i ρ=>∃ (y:Int) (ps:List Int) (u4:Option A),ps.length=i/\ρ=[some (.d (.int y)),some (.d (.int n)),some (.d (.int sg)),some (.l (ps.map .int)),u4,none]) ⟨x,[],none,rfl,rfl⟩
  (fun i k ρ hk hρ=>by
   obtain ⟨y,ps,u4,hp,rfl⟩:=hρ
   have hi:i < sg+2:=by have:=(AE.mp hk).1;simpa using this
   refine ⟨_,_,rfl,.inl ?_,(y * 48271+7919) % 2147483647,ps++[(y * 48271+7919) % 2147483647 / 64],some (.d (.int k)),by simp[hp],rfl⟩
   have hl:(ps.map PyData.int).length < 16777216:=by rw[AB,hp];omega
   simp[rR,wA,dW,jY,hl]
   omega)
 rw[BU] at hp
 obtain ⟨p0,p1,qs,rfl,hq⟩:∃ p0 p1 qs,ps=p0::p1::qs/\qs.length=sg:=by
  match ps,hp with
  | p0::p1::qs,hp=>exact ⟨p0,p1,qs,rfl,by simpa using hp⟩
 have hcut:dSl (.list ((p0::p1::qs).map .int)) (some 2) none=.ok (.list (qs.map .int)):=by
  show R.ok (PyData.list (rH _ _ _))=_
  unfold rH HT.sIx
  simp
  rw[D5 (by simp)]
 obtain ⟨t0,e0,g0⟩:=aKS p0 hn
 obtain ⟨t1,e1',g1⟩:=aKS p1 hn
 have hc:=gU (fs:=stN 0) (fe:=cY (aA (e2 dMod (rV 0) (rV 1)) (aA (e2 dSub (eC (.int 1)) (e2 dMul (e2 dDiv (e2 dMod (e2 dDiv (rV 0) (eC (.int 64))) (eC (.int 3))) (eC (.int 2))) (eC (.int 2)))) aK))) (ρ0:=[none,some (.d (.int n))]) (d:=PyData.int) (g:=fun q=>eS (q % n,1 - q / 64 % 3 / 2 * 2)) (xs:=qs) fun q _=>⟨_,rfl,by simp[dW,jY,rR,hn,eS]⟩
 have hi:bV (.list (qs.map .int))=.ok (qs.map .int):=j9 (by rw[AB];omega)
 refine ⟨⟨t0,qs.map fun q=>(q % n,1 - q / 64 % 3 / 2 * 2),t1⟩,?_,⟨g0,g1,fun c hc=>?_⟩,by simpa using hq⟩
 ·unfold d0 kB
  simp only[lB,AW,B0,B9,B7,BG,BR,List.replicate,bR,j8,lL,fY,R.bind_ok]
  simp[hr]
  rw[hf]
  simp at hcut hi hc
  simp[hcut,hi,iB,hc,e0,e1',dE]
 ·obtain ⟨q,_,rfl⟩:=A0.mp hc
  refine ⟨C7 _ (by omega),CL _ hn,?_⟩
  simp only
  omega
theorem aMT(x:Int){n:Int}{sg:Nat}(hn:0 < n)(hn2:n<=1000)(hs:sg<=1000):∃ r:Rw,fC [.d (.int x),.d (.int n),.d (.int sg)]=.ok (.d (dE r))/\r.good n/\r.c.length=sg:=by
 have hr:=jC (n:=sg) (by omega)
 have hn3:(0:Int) < n+2:=by omega
 have hn4:n+2 < 18446744073709551616:=by omega
 have h2n:(0:Int) < 2 * n:=by omega
 have h2n':2 * n < 18446744073709551616:=by omega
 obtain ⟨ρ',hf,y,cs,u5,hp,hg,rfl⟩:=iL (fs:=stN 5) (fb:=aL (fH 4 (cY (aA (e2 dMod (e2 dDiv (rV 0) (eC (.int 2))) (rV 1)) (aA (e2 dSub (eC (.int 1)) (e2 dMul (e2 dMod (rV 0) (eC (.int 2))) (eC (.int 2)))) aK)))) (bW 0 (vD (e2 dDiv (rV 0) (e2 dMul (eC (.int 2)) (rV 1))))))
  (d:=fun i:Nat=>.int (i:Int)) (xs:=List.range sg) (ρ:=[some (.d (.int (x / (n+2)))),some (.d (.int n)),some (.d (.int sg)),some (.d (.int (x % (n+2)))),some (.l []),none,none])
  (fun i ρ=>∃ (y:Int) (cs:List (Int×Int)) (u5:Option A),cs.length=i/\(∀ c∈cs,nC n c)/\ρ=[some (.d (.int y)),some (.d (.int n)),some (.d (.int sg)),some (.d (.int (x % (n+2)))),some (.l (cs.map eS)),u5,none]) ⟨x / (n+2),[],none,rfl,fun c hc=>by simp at hc,rfl⟩
  (fun i k ρ hk hρ=>by
   obtain ⟨y,cs,u5,hp,hg,rfl⟩:=hρ
   have hi:i < sg:=by have:=(AE.mp hk).1;simpa using this
   have hl:(cs.map eS).length < 16777216:=by rw[AB,hp];omega
   refine ⟨_,_,rfl,.inl ?_,y / (2 * n),cs++[(y / 2 % n,1 - y % 2 * 2)],some (.d (.int k)),by simp[hp],fun c hc=>?_,rfl⟩
   ·have hl':cs.length < 16777216:=by omega
    simp[rR,wA,dW,jY,hn,h2n,h2n',eS,hl']
   ·rcases BJ.mp hc with z|z
    ·exact hg c z
    ·rw[AQ.mp z]
     refine ⟨C7 _ (by omega),CL _ hn,?_⟩
     simp only;omega)
 rw[BU] at hp
 have key:∀ e:Int,0<=e->e < n+2->∃ t:Tn,(eIf (e1 asB (e2 dGe (rV 0) (rV 1))) (e2 dIx (eL (dG (aA (eC (.str "by")) (aA (eC (.str "out")) aK)))) (e2 dSub (rV 0) (rV 1))) (eV 0)) [some (.d (.int e)),some (.d (.int n))]=.ok t.d/\t.good n:=fun e h0 h1=>by
  by_cases h:n<=e
  ·obtain rfl|rfl:e=n\/e=n+1:=by omega
   ·exact ⟨.w "by",by simp[Tn.d],.inl rfl⟩
   ·exact ⟨.w "out",by simp[Tn.d,show n+1 - n=1 by omega,show n<=n+1 by omega],.inr rfl⟩
  ·exact ⟨.n e,by simp[Tn.d,h],h0,by omega⟩
 obtain ⟨t0,e0,g0⟩:=key (x % (n+2)) (C7 _ (by omega)) (CL _ hn3)
 obtain ⟨t1,e1',g1⟩:=key (y % (n+2)) (C7 _ (by omega)) (CL _ hn3)
 have hc:compL (stN 0) j5 (eIf (e1 asB (e2 dGe (rV 0) (rV 1))) (e2 dIx (eL (dG (aA (eC (.str "by")) (aA (eC (.str "out")) aK)))) (e2 dSub (rV 0) (rV 1))) (eV 0)) [none,some (.d (.int n))] [.int (x % (n+2)),.int (y % (n+2))]=.ok [t0.d,t1.d]:=by
  simp only[compL,aBG,BA,rD,R.bind_ok,aDK,R.noEx_ok,CF,e0,e1']
 have hi:∀ a b:PyData,bV (.list [a,b])=.ok [a,b]:=fun a b=>j9 (by simp)
 refine ⟨⟨t0,cs,t1⟩,?_,⟨g0,g1,hg⟩,hp⟩
 unfold fC kA
 simp only[lB,AW,B0,B9,B7,BG,BR,List.replicate,bR,pB,oE,jZ,jN,lA,A1,A2,R.bind_ok,rQ,dW hn3,jY hn3 hn4,BA,BH,j8,lL,fY,pC,v9,hr]
 simp only[CH,CF,R.bind_ok,BA,BH,A1,A2,hr,hf]
 simp only[i8,sW,fY,jZ,jN,lA,A1,A2,R.bind_ok,rQ,dW hn3,aJE,mR,BA,BH]
 simp[hi,iB,hc,dE,dW hn3]
theorem aHE{ns:List Int}{at':Int}{n sg:Nat}(hat:0<=at')(h1:1<=n)(h2:n<=1000)(s1:1<=sg)(s3:sg<=3):∃ rs:List Rw,eI [.d (fQ ns),.d (.int at'),.d (.int n),.d (.int sg)]=.ok (.d (bE rs))/\Mach rs sg/\rs.length=n:=by
 have hr:=jC (n:=n) (by omega)
 have hn:(0:Int) < (n:Int):=by omega
 obtain ⟨ρ',hf,rs,u5,u6,hp,hg,rfl⟩:=iL (fs:=stN 5) (fb:=(sIf (j3 (e1 asB (e2 dLt (e2 cR (rV 1) (rV 5)) (e1 dLen (rV 0)))) (e1 asB (e2 dEq (e2 dMod (e2 dIx (rV 0) (eC (.int 0))) (eC (.int 2))) (eC (.int 1))))) (fH 4 (eA (bB 3 fC (aA (vD (e2 dIx (rV 0) (e2 cR (rV 1) (rV 5)))) (aA (vV 2) (aA (vV 3) aK)))))) (aL (bW 6 (bB 3 d0 (aA (vD (e2 dMod (eA (bB 2 bT (aA (vV 0) (aA (vD (e2 cR (rV 1) (rV 5))) aK)))) (eC (.int 2147483647)))) (aA (vV 2) (aA (vV 3) aK)))))
 (aL (sIf (j3 (e1 asB (e2 dEq (rV 5) (eC (.int 0)))) (j3 (e1 asB (e1 (j7 "str") (e2 dIx (rV 6) (eC (.int 0))))) (e1 asB (e2 dGt (e2 dMod (e2 dDiv (eA (bB 2 bT (aA (vV 0) (aA (vV 1) aK)))) (eC (.int 8))) (eC (.int 8))) (eC (.int 0)))))) (bW 6 (vD (e2 cR (cY (aA (e2 dMod (e2 dDiv (eA (bB 2 bT (aA (vV 0) (aA (vV 1) aK)))) (eC (.int 64))) (rV 2)) aK)) (eSl dSl (rV 6) (oSo (eC (.int 1))) oNo)))) sNx)
 (fH 4 (eV 6))))))
  (d:=fun i:Nat=>.int (i:Int)) (xs:=List.range n) (ρ:=[some (.d (fQ ns)),some (.d (.int at')),some (.d (.int n)),some (.d (.int sg)),some (.l []),none,none])
  (fun i ρ=>∃ (rs:List Rw) (u5 u6:Option A),rs.length=i/\(∀ r∈rs,r.good n/\r.c.length=sg)/\ρ=[some (.d (fQ ns)),some (.d (.int at')),some (.d (.int n)),some (.d (.int sg)),some (.l (rs.map dE)),u5,u6]) ⟨[],none,none,rfl,fun c hc=>by simp at hc,rfl⟩
  (fun i k ρ hk hρ=>by
   obtain ⟨rs,u5,u6,hp,hg,rfl⟩:=hρ
   have hi:i < n:=by have:=(AE.mp hk).1;simpa using this
   have hl:rs.length < 16777216:=by omega
   have snoc:∀ r:Rw,r.good n/\r.c.length=sg->∀ x∈rs++[r],x.good n/\x.c.length=sg:=fun r hr x hx=>by
    rcases BJ.mp hx with z|z
    ·exact hg x z
    ·rw[AQ.mp z];exact hr
   obtain ⟨v,hv⟩:=rT ns (at'+k)
   obtain ⟨r,hr,gr⟩:=aDO (v % 2147483647) (n:=(n:Int)) (sg:=sg) hn (by omega)
   obtain ⟨v2,hv2⟩:=rT ns at'
   have hsl:∀ r:Rw,dSl (dE r) (some 1) none=.ok (.tuple [.tuple (r.c.map eS),r.r.d]):=fun r=>by
    unfold dE
    rw[aRX (by unfold HT.sIx;simp)]
    unfold rH HT.sIx
    simp
   have put:∀ (u5 u6:Option A) (r:Rw),(fH 4 (eV 6)) [some (.d (fQ ns)),some (.d (.int at')),some (.d (.int n)),some (.d (.int sg)),some (.l (rs.map dE)),u5,some (.d (dE r))]=.ok (.nx [some (.d (fQ ns)),some (.d (.int at')),some (.d (.int n)),some (.d (.int sg)),some (.l ((rs++[r]).map dE)),u5,some (.d (dE r))]):=fun u5 u6 r=>by simp[hl]
   have mixed:∀ ρ2,ρ2=[some (.d (fQ ns)),some (.d (.int at')),some (.d (.int n)),some (.d (.int sg)),some (.l (rs.map dE)),some (.d (.int k)),u6]->∃ r2:Rw,(r2.good n/\r2.c.length=sg)/\∃ u6',(aL (bW 6 (bB 3 d0 (aA (vD (e2 dMod (eA (bB 2 bT (aA (vV 0) (aA (vD (e2 cR (rV 1) (rV 5))) aK)))) (eC (.int 2147483647)))) (aA (vV 2) (aA (vV 3) aK)))))
     (aL (sIf (j3 (e1 asB (e2 dEq (rV 5) (eC (.int 0)))) (j3 (e1 asB (e1 (j7 "str") (e2 dIx (rV 6) (eC (.int 0))))) (e1 asB (e2 dGt (e2 dMod (e2 dDiv (eA (bB 2 bT (aA (vV 0) (aA (vV 1) aK)))) (eC (.int 8))) (eC (.int 8))) (eC (.int 0)))))) (bW 6 (vD (e2 cR (cY (aA (e2 dMod (e2 dDiv (eA (bB 2 bT (aA (vV 0) (aA (vV 1) aK)))) (eC (.int 64))) (rV 2)) aK)) (eSl dSl (rV 6) (oSo (eC (.int 1))) oNo)))) sNx)
     (fH 4 (eV 6)))) ρ2=.ok (.nx [some (.d (fQ ns)),some (.d (.int at')),some (.d (.int n)),some (.d (.int sg)),some (.l ((rs++[r2]).map dE)),some (.d (.int k)),u6']):=by
    rintro ρ2 rfl
    by_cases c1:k=0
    case neg=>
     exact ⟨r,gr,some (.d (dE r)),by simp[hv,dW,hr,c1,dX,hl]⟩
    subst c1
    obtain ⟨r,hr,gr⟩:=aDO (v2 % 2147483647) (n:=(n:Int)) (sg:=sg) hn (by omega)
    have hix:dIx (dE r) (.int 0)=.ok r.l.d:=aBK _ _
    have hty:∃ b,j7 "str" r.l.d=.ok (.bool b):=by cases r.l<;>exact ⟨_,rfl⟩
    obtain ⟨b,hb⟩:=hty
    have hadd:cR (.tuple [.int (v2 / 64 % (n:Int))]) (.tuple [.tuple (r.c.map eS),r.r.d])=.ok (dE ⟨.n (v2 / 64 % (n:Int)),r.c,r.r⟩):=by
     rw[aP7 rfl (by simp)];rfl
    have good2:(⟨.n (v2 / 64 % (n:Int)),r.c,r.r⟩:Rw).good n/\r.c.length=sg:=⟨⟨⟨C7 _ (by omega),CL _ hn⟩,gr.1.2.1,gr.1.2.2⟩,gr.2⟩
    cases hbb:b with
    | false=>
     subst hbb
     exact ⟨r,gr,some (.d (dE r)),by simp[hv2,dW,hr,dX,hix,hb,hl]⟩
    | true=>
     subst hbb
     by_cases c3:0 < v2 / 8 % 8
     ·refine ⟨⟨.n (v2 / 64 % (n:Int)),r.c,r.r⟩,good2,some (.d (dE ⟨.n (v2 / 64 % (n:Int)),r.c,r.r⟩)),?_⟩
      simp[hv2,dW,dW hn,hr,dX,hix,hb,hl,jY,c3,hsl,hadd]
     ·exact ⟨r,gr,some (.d (dE r)),by simp[hv2,dW,hr,dX,hix,hb,hl,jY,c3]⟩
   obtain ⟨r2,g2,u6',hm⟩:=mixed _ rfl
   by_cases c1:at'+(k:Int) < (ns.length:Int)
   ·obtain ⟨w0,hw0⟩:=aBM (ns:=ns) (i:=0) (D3 _) (by omega)
    by_cases c2:w0 % 2=1
    ·obtain ⟨w1,hw1⟩:=aBM (ns:=ns) (i:=at'+k) (by omega) c1
     obtain ⟨r3,hr3,g3⟩:=aMT w1 (n:=(n:Int)) (sg:=sg) hn (by omega) (by omega)
     refine ⟨_,_,rfl,.inl ?_,rs++[r3],some (.d (.int k)),u6,by simp[hp],snoc r3 g3,rfl⟩
     simp[pE,c1,hw0,dW,c2,dX,hw1,hr3,hl]
    ·refine ⟨_,_,rfl,.inl ?_,rs++[r2],some (.d (.int k)),u6',by simp[hp],snoc r2 g2,rfl⟩
     rw[<-hm]
     simp only[aBG,BH,BA]
     rw[rP]
     simp only[aDL,mR,jZ,jN,lA,A1,A2,R.bind_ok,rQ,pE,aKR,v5,c1,decide_true,CF,hw0,dW (show (0:Int) < 2 by decide),dX,c2,decide_false,CK,DY]
   ·refine ⟨_,_,rfl,.inl ?_,rs++[r2],some (.d (.int k)),u6',by simp[hp],snoc r2 g2,rfl⟩
    rw[<-hm]
    simp only[aBG,BH,BA]
    rw[rP]
    simp only[aDL,mR,jZ,jN,lA,A1,A2,R.bind_ok,rQ,pE,aKR,v5,c1,decide_false,CK,DY])
 rw[BU] at hp
 refine ⟨rs,?_,⟨by omega,by omega,s1,s3,fun r hr=>by rw[hp];exact hg r hr⟩,hp⟩
 unfold eI lO
 simp only[lB,AW,B0,B9,B7,BG,BR,List.replicate,bR,j8,lL,fY,R.bind_ok,CH,CF,BA,BH,pC,v9,jN,A1,A2,hr,hf]
 simp[bE]
end Mc
namespace Mc
open PySem L2 PyProof.Rows
def fK(rs:List Rw)(z:List Nat)(s:Int×Int):Option ((Int×Int)⊕Str):=
 match (bJ rs z s).1 with
 | .w x=>some (.inr x)
 | .n q=>some (.inl (s.1+(bJ rs z s).2,q))
theorem walk_step{rs:List Rw}{z:List Nat}{s:Int×Int}:(∃ x,eJ rs z s=none/\(bJ rs z s).1=.w x/\fK rs z s=some (.inr x))\/∃ s',eJ rs z s=some s'/\fK rs z s=some (.inl s'):=by
 unfold eJ fK
 cases (bJ rs z s).1 with
 | w x=>exact .inl ⟨x,rfl,rfl,rfl⟩
 | n q=>exact .inr ⟨_,rfl,rfl⟩
end Mc
namespace Mc
open PySem L2 PyProof.Rows Fl
theorem wC:j6 "int" "str"=false:=by decide
theorem wD:j6 "str" "str"=true:=by decide
theorem pF{rs:List Rw}{q:Int}(h0:0<=q)(h1:q < (rs.length:Int)):dIx (bE rs) (.int q)=.ok (dE (aW rs q)):=oF (pD h0 (by rw[AJ,eG h0 h1];rfl))
def mF:Option (Int×Int)->PyData
 | none=>.none
 | some s=>prD s
theorem m6(z:Str):z.length=z.cps.toList.length:=by simp[Str.length]
theorem wE{rs:List Rw}{sg:Nat}{z:Str}(M:Mach rs sg)(S:bU sg z.cps.toList){s:Int×Int}(V:jF rs z.cps.toList s):fD [.d (bE rs),.d (.str z),.d (prD s)]=.ok (.d (mF (eJ rs z.cps.toList s))):=by
 obtain ⟨p,q⟩:=s
 have hr:=pF V.2.2.1 V.2.2.2
 have hz:z.length<=16777216:=by rw[m6];have:=S.1;omega
 have hl:=aBI hz
 rw[m6] at hl
 generalize hL:z.cps.toList=zl at *
 unfold fD oP
 by_cases h0:p=0
 ·subst h0
  have hst:eJ rs zl (0,q)=match (aW rs q).l with | .w _=>none | .n q'=>some (0+1,q'):=by
   unfold eJ bJ;simp only[CF]<;>(cases (aW rs q).l<;>rfl)
  cases e:(aW rs q).l with
  | w x=>
   rw[e] at hst
   rw[hst]
   simp[prD,hr,hl,dE,dX,e,Tn.d,wD,mF]
  | n q'=>
   rw[e] at hst
   rw[hst]
   simp[prD,hr,hl,dE,dX,e,Tn.d,wC,mF]
 ·by_cases h1:p=(zl.length:Int)+1
  ·have hst:eJ rs zl (p,q)=match (aW rs q).r with | .w _=>none | .n q'=>some (p + -1,q'):=by
    unfold eJ bJ;simp only[AH h0,AG h1]<;>(cases (aW rs q).r<;>rfl)
   have hp:(0:Int) < p:=by omega
   have hgt:(zl.length:Int) < p:=by omega
   cases e:(aW rs q).r with
   | w x=>
    rw[e] at hst
    rw[hst]
    simp[prD,hr,hl,dE,dX,e,Tn.d,wD,mF,h0,hgt,hp]
   | n q'=>
    rw[e] at hst
    rw[hst]
    simp[prD,hr,hl,dE,dX,e,Tn.d,wC,mF,h0,hgt,hp]
    omega
  ·obtain ⟨c,a1,a2,a3⟩:=aCS S V h0 h1
   obtain ⟨cc,b1,b2,b3⟩:=z8 M S V h0 h1
   have v1:=V.1
   have v2:=V.2.1
   simp only at v1 v2 a1 a3 b1 b2
   have hst:eJ rs zl (p,q)=some (p+cc.2,cc.1):=by
    unfold eJ bJ;simp only[AH h0,AH h1,b2]
   have hgt:¬ (zl.length:Int) < p:=by omega
   have ix:dIx (.str z) (.int (p - 1))=.ok (.str ⟨#[c]⟩):=aRW hz (pD (by omega) (by rw[hL,<-a1];congr 1;omega))
   have id:=aMS (aJH M.sg3 a2)
   have ic:dIx (.tuple ((aW rs q).c.map eS)) (.int ((c - 97:Nat):Int))=.ok (eS cc):=oF (hJ (by rw[AJ,<-a3,b1];rfl))
   rw[hst]
   simp[prD,hr,hl,dE,dX,mF,h0,hgt,ix,id,ic,eS]
theorem kD(xs:List PyData)(x:PyData):dIx (.list (xs++[x])) (.int (-1))=.ok x:=lU (L2.aH8 xs x)
def stρ(rs:List Rw)(z:Str)(ps:List (Int×Int))(s:Int×Int)(u:Option A):Sg:=[some (.d (bE rs)),some (.d (.str z)),some (.l (ps.map prD++[prD s])),some (.m (been prD ps)),u]
theorem aQA{rs:List Rw}{z:Str}{ps:List (Int×Int)}{s:Int×Int}{u:Option A}(h:s∈ps):uM (stρ rs z ps s u)=.ok false:=by
 have h1:=jA lN ps s
 have h2:=(nQ kO).mpr h
 simp[uM,stρ,kD,h1,h2]
theorem aDP{rs:List Rw}{z:Str}{ps:List (Int×Int)}{s:Int×Int}{u:Option A}(h:s∉ps):uM (stρ rs z ps s u)=.ok true:=by
 have h1:=jA lN ps s
 have h2:=iH kO h
 simp[uM,stρ,kD,h1,h2]
theorem aHF(s:Int×Int):iW (prD s)=false:=id rfl
theorem aMU{rs:List Rw}{sg:Nat}{z:Str}(M:Mach rs sg)(S:bU sg z.cps.toList){ps:List (Int×Int)}{s:Int×Int}{u:Option A}(V:jF rs z.cps.toList s)(h:s∉ps)(hp:ps.length<=2000000)(e:eJ rs z.cps.toList s=none):uN (stρ rs z ps s u)=.ok (.rt (.d (.list ((ps++[s]).map prD)))):=by
 have h1:=jA lN ps s
 have h3:=lM kO h
 have h4:(been prD ps).length<=16777216:=by rw[jB];omega
 have f:=wE M S V
 rw[e] at f
 simp[uN,stρ,kD,h1,h3,h4,f,mF]
theorem aQB{rs:List Rw}{sg:Nat}{z:Str}(M:Mach rs sg)(S:bU sg z.cps.toList){ps:List (Int×Int)}{s s':Int×Int}{u:Option A}(V:jF rs z.cps.toList s)(h:s∉ps)(hp:ps.length<=2000000)(e:eJ rs z.cps.toList s=some s'):uN (stρ rs z ps s u)=.ok (.nx (stρ rs z (ps++[s]) s' (some (.d (prD s'))))):=by
 have h1:=jA lN ps s
 have h3:=lM kO h
 have h4:(been prD ps).length<=16777216:=by rw[jB];omega
 have f:=wE M S V
 rw[e] at f
 have h5:ps.length+1 < 16777216:=by omega
 simp[uN,stρ,kD,h1,h3,h4,f,mF,aHF,h5]
def iS(rs:List Rw)(z:List Nat)(s:Int×Int):Prop:=jF rs z s/\((eJ rs z s=none/\∃ x,(bJ rs z s).1=.w x/\bS (fK rs z) (0,0)=some x)\/((∃ s',eJ rs z s=some s')/\bS (fK rs z) (0,0)=none))
theorem aCF{rs:List Rw}{sg:Nat}{z:Str}(M:Mach rs sg)(S:bU sg z.cps.toList):∀ (k:Nat) (ps:List (Int×Int)) (s:Int×Int) (u:Option A),Way rs z.cps.toList ps s k->Und2 (fK rs z.cps.toList) (0,0) ps s->
  aL (bM uM uN) (sFz 2 (bO (vV 2))) (stρ rs z ps s u)=.ok (.rt (.d (.list ((mM rs z.cps.toList).map prD))))/\∃ ps' s',mM rs z.cps.toList=ps'++[s']/\iS rs z.cps.toList s':=by
 have hB:kT rs z.cps.toList<=1002 * 1000:=Nat.mul_le_mul (by have:=S.1;omega) M.len2
 have hin:∀ (k:Nat) (ps:List (Int×Int)) (s:Int×Int) (u:Option A),Way rs z.cps.toList ps s k->Und2 (fK rs z.cps.toList) (0,0) ps s->s∈ps->aL (bM uM uN) (sFz 2 (bO (vV 2))) (stρ rs z ps s u)=.ok (.rt (.d (.list ((mM rs z.cps.toList).map prD))))/\∃ ps' s',mM rs z.cps.toList=ps'++[s']/\iS rs z.cps.toList s':=by
  intro k ps s u W U hs
  refine ⟨?_,ps,s,(W.stop hs).symm,W.here,.inr ⟨?_,U.met hs⟩⟩
  ·rw[bR,eQ (aQA hs),<-W.stop hs]
   simp[stρ]
  ·obtain ⟨m,r⟩:=U.back s hs
   cases r with
   | cons h t=>
    rcases walk_step (rs:=rs) (z:=z.cps.toList) (s:=s) with ⟨x,_,_,e⟩|⟨s',e,_⟩
    · rw [e] at h; cases h
    · exact ⟨s', e⟩
 intro k
 induction k with
 | zero=>
  intro ps s u W U
  by_cases hs:s∈ps
  ·exact hin 0 ps s u W U hs
  ·obtain ⟨j,hj⟩:=W.more hs;omega
 | succ k ih=>
  intro ps s u W U
  by_cases hs:s∈ps
  ·exact hin _ ps s u W U hs
  ·have hp:ps.length<=2000000:=by have:=W.num;omega
   rcases walk_step (rs:=rs) (z:=z.cps.toList) (s:=s) with ⟨x,e,e2,e3⟩|⟨s',e,e3⟩
   ·refine ⟨?_,ps,s,(W.ends hs e).symm,W.here,.inl ⟨e,x,e2,U.outs e3⟩⟩
    rw[bR,i9 (aDP hs) (aMU M S W.here hs hp e),<-W.ends hs e];rfl
   ·have:=ih (ps++[s]) s' (some (.d (prD s'))) (W.next M S hs e) (U.next hs e3)
    rw[bR] at this ⊢
    rw[gN (aDP hs) (aQB M S W.here hs hp e)]
    exact this
theorem aBN{rs:List Rw}{sg:Nat}{z:Str}(M:Mach rs sg)(S:bU sg z.cps.toList):iO [.d (bE rs),.d (.str z)]=.ok (.d (.list ((mM rs z.cps.toList).map prD)))/\∃ ps' s',mM rs z.cps.toList=ps'++[s']/\iS rs z.cps.toList s':=by
 have h:=aCF M S (kT rs z.cps.toList) [] (0,0) none (Way.start M) Und2.start
 refine ⟨?_,h.2⟩
 unfold iO
 rw[mD]
 simp only[lB,bR,j8,lL,i8,aDJ,lA,fY,R.bind_ok,BG,BR,Nat.reduceAdd,Nat.reduceLeDiff,CF,AW,B0,B9,B7,List.replicate,BA,BH,nO]
 have e:=h.1
 rw[bR] at e
 simp only[stρ,B0,B7,been,prD] at e
 rw[e];rfl
noncomputable def iY(rs:List Rw)(z:List Nat):Str:=(bS (fK rs z) (0,0)).getD "ever"
theorem aHG{rs:List Rw}{sg:Nat}{z:Str}(M:Mach rs sg)(S:bU sg z.cps.toList):fE [.d (bE rs),.d (.str z)]=.ok (.d (.str (iY rs z.cps.toList))):=by
 obtain ⟨h,ps,s,e,V,q⟩:=aBN M S
 have f:=wE M S V
 rw[e,A7,AW,B0] at h
 have hr:=pF V.2.2.1 V.2.2.2
 unfold fE oQ iY
 obtain ⟨p,r⟩:=s
 rcases q with ⟨q1,x,q2,q3⟩|⟨⟨s',q1⟩,q3⟩
 ·rw[q1] at f
  rw[q3]
  have hw:(if 0 < p then (aW rs r).r else (aW rs r).l)=.w x:=by
   unfold bJ at q2
   simp only at q2
   by_cases h0:p=0
   ·rw[AG h0] at q2;rw[AH (by omega)];exact q2
   ·rw[AH h0] at q2
    have v1:=V.1
    simp only at v1
    rw[AG (by omega)]
    by_cases h1:p=(z.cps.toList.length:Int)+1
    · rw [AG h1] at q2; exact q2
    · rw [AH h1] at q2; cases q2
  simp only[prD] at f hr h
  by_cases hp:0 < p
  ·rw[AG hp] at hw
   simp[h,kD,prD,f,mF,hr,dE,hp,hw,Tn.d]
  ·rw[AH hp] at hw
   simp[h,kD,prD,f,mF,hr,dE,hp,hw,Tn.d]
 ·rw[q1] at f
  rw[q3]
  simp only[prD] at f hr h
  simp[h,kD,prD,f,mF]
theorem wF(x y:Str):PyData.eqv (.str x) (.str y)=(x == y):=by rw[PyData.eqv.eq_6]
end Mc
namespace Mc
open PySem L2 PyProof.Rows
section
variable{S T O Q:Type}
structure Gates(st:S->Option (S⊕O))(sub:S->Option (S⊕Q))(ext:Q->T⊕O)(g:T->S)(ent:T->S⊕O)(Dom:S->Prop)(TV:T->Prop):Prop where
 step:∀ s,Dom s->(∃ s',sub s=some (.inl s')/\st s=some (.inl s')/\Dom s')\/(∃ e t,sub s=some (.inr e)/\ext e=.inl t/\st s=some (.inl (g t))/\TV t)\/∃ e o,sub s=some (.inr e)/\ext e=.inr o/\st s=some (.inr o)
 gate:∀ t,TV t->(∃ s,ent t=.inl s/\st (g t)=some (.inl s)/\Dom s)\/∃ o,ent t=.inr o/\st (g t)=some (.inr o)
noncomputable def gst(sub:S->Option (S⊕Q))(ext:Q->T⊕O)(ent:T->S⊕O)(ev:O)(t:T):Option (T⊕O):=match ent t with
 | .inr o=>some (.inr o)
 | .inl s=>match bS sub s with
  | none=>some (.inr ev)
  | some e=>some (ext e)
variable{st:S->Option (S⊕O)}{sub:S->Option (S⊕Q)}{ext:Q->T⊕O}{g:T->S}{ent:T->S⊕O}{Dom:S->Prop}{TV:T->Prop}
theorem fV{st:S->Option (S⊕O)}{s:S}{o:O}{n:Nat}(h:Ex st n s o):bS st s=some o:=((lZ st s) o).mpr ⟨n,h⟩
theorem f8{st:S->Option (S⊕O)}{s:S}{o:O}(h:bS st s=some o):∃ n,Ex st n s o:=((lZ st s) o).mp h
theorem Gates.in1(G:Gates st sub ext g ent Dom TV){k:Nat}{s:S}{e:Q}(d:Dom s)(h:Ex sub k s e):(∀ t,ext e=.inl t->Rc st (k+1) s (g t)/\TV t)/\∀ o,ext e=.inr o->Ex st k s o:=by
 induction h with
 | out h=>
  rcases G.step _ d with ⟨s',a,_⟩|⟨e',t,a,b,c,tv⟩|⟨e',o,a,b,c⟩
  ·rw[h] at a;cases a
  ·rw[h] at a;cases a
   exact ⟨fun t' z=>by rw[b] at z;cases z;exact ⟨.cons c .nil,tv⟩,fun o z=>by rw[b] at z;cases z⟩
  ·rw[h] at a;cases a
   exact ⟨fun t' z=>(by rw[b] at z;cases z),fun o' z=>by rw[b] at z;cases z;exact .out c⟩
 | go h t ih=>
  rcases G.step _ d with ⟨s',a,b,c⟩|⟨e',t,a,b,c,tv⟩|⟨e',o,a,b,c⟩
  ·rw[h] at a;cases a
   obtain ⟨i1,i2⟩:=ih c
   exact ⟨fun t' z=>⟨.cons b (i1 t' z).1,(i1 t' z).2⟩,fun o z=>.go b (i2 o z)⟩
  ·rw[h] at a;cases a
  ·rw[h] at a;cases a
theorem Gates.in2(G:Gates st sub ext g ent Dom TV){n:Nat}{s:S}{o:O}(d:Dom s)(h:Ex st n s o):∃ k e,Ex sub k s e/\((∃ t n',ext e=.inl t/\TV t/\n' < n/\Ex st n' (g t) o)\/ext e=.inr o):=by
 induction h with
 | out h=>
  rcases G.step _ d with ⟨s',a,b,_⟩|⟨e',t,a,b,c,tv⟩|⟨e',o',a,b,c⟩
  ·rw[h] at b;cases b
  ·rw[h] at c;cases c
  ·rw[h] at c;cases c
   exact ⟨0,e',.out a,.inr b⟩
 | go h t ih=>
  rcases G.step _ d with ⟨s',a,b,c⟩|⟨e',t',a,b,c,tv⟩|⟨e',o',a,b,c⟩
  ·rw[h] at b;cases b
   obtain ⟨k,e,q,r⟩:=ih c
   refine ⟨k+1,e,.go a q,r.imp ?_ id⟩
   rintro ⟨t,n',x1,x2,x3,x4⟩
   exact ⟨t,n',x1,x2,by omega,x4⟩
  ·rw[h] at c;cases c
   exact ⟨0,e',.out a,.inl ⟨t',_,b,tv,by omega,t⟩⟩
  ·rw[h] at c;cases c
theorem Gates.fwd(G:Gates st sub ext g ent Dom TV)(ev:O):∀ (n:Nat) {t:T} {o:O},TV t->Ex st n (g t) o->∃ m,Ex (gst sub ext ent ev) m t o:=by
 intro n
 induction n using Nat.strongRecOn with
 | ind n ih=>
  intro t o tv h
  rcases G.gate t tv with ⟨s,a,b,c⟩|⟨o',a,b⟩
  ·cases h with
   | out h=>rw[b] at h;cases h
   | go h q=>
    rw[b] at h;cases h
    obtain ⟨k,e,x,y⟩:=G.in2 c q
    have hr:=fV x
    rcases y with ⟨t',n',y1,y2,y3,y4⟩|y
    ·obtain ⟨m,hm⟩:=ih n' (by omega) y2 y4
     exact ⟨m+1,.go (by unfold gst;rw[a];simp only;rw[hr];simp only;rw[y1]) hm⟩
    ·exact ⟨0,.out (by unfold gst;rw[a];simp only;rw[hr];simp only;rw[y])⟩
  ·cases h with
   | out h=>rw[b] at h;cases h;exact ⟨0,.out (by unfold gst;rw[a])⟩
   | go h q=>rw[b] at h;cases h
theorem Gates.bwd(G:Gates st sub ext g ent Dom TV){ev:O}{m:Nat}{t:T}{o:O}(h:Ex (gst sub ext ent ev) m t o)(tv:TV t):o=ev\/∃ n,Ex st n (g t) o:=by
 induction h with
 | @out t o h=>
  rcases G.gate t tv with ⟨s,a,b,c⟩|⟨o',a,b⟩
  ·unfold gst at h
   rw[a] at h
   simp only at h
   cases e:bS sub s with
   | none=>rw[e] at h;cases h;exact .inl rfl
   | some x=>
    rw[e] at h
    have h':ext x=.inr o:=BW h
    obtain ⟨k,hk⟩:=f8 e
    exact .inr ⟨k+1,.go b ((G.in1 c hk).2 o h')⟩
  ·unfold gst at h
   rw[a] at h
   cases h
   exact .inr ⟨0,.out b⟩
 | @go t t' o n h q ih=>
  rcases G.gate t tv with ⟨s,a,b,c⟩|⟨o',a,b⟩
  ·unfold gst at h
   rw[a] at h
   simp only at h
   cases e:bS sub s with
   | none=>rw[e] at h;cases h
   | some x=>
    rw[e] at h
    have h':ext x=.inl t':=BW h
    obtain ⟨k,hk⟩:=f8 e
    obtain ⟨r1,r2⟩:=(G.in1 c hk).1 t' h'
    rcases ih r2 with z|⟨n',z⟩
    · exact .inl z
    · exact .inr ⟨n' + (k + 1) + 1, .go b (r1.to z)⟩
  ·unfold gst at h
   rw[a] at h
   cases h
theorem Gates.eq(G:Gates st sub ext g ent Dom TV)(ev:O){t:T}(tv:TV t):(bS st (g t)).getD ev=(bS (gst sub ext ent ev) t).getD ev:=by
 cases e:bS st (g t) with
 | some o=>
  obtain ⟨n,h⟩:=f8 e
  obtain ⟨m,hm⟩:=G.fwd ev n tv h
  rw[fV hm]
 | none=>
  cases e2:bS (gst sub ext ent ev) t with
  | none=>rfl
  | some o=>
   obtain ⟨m,hm⟩:=f8 e2
   rcases G.bwd hm tv with z|⟨n,z⟩
   · rw [z]; rfl
   · rw [fV z] at e; cases e
theorem Gates.inn(G:Gates st sub ext g ent Dom TV)(ev:O){s:S}(d:Dom s):(bS st s).getD ev=match bS sub s with
  | none=>ev
  | some e=>match ext e with
   | .inr o=>o
   | .inl t=>(bS (gst sub ext ent ev) t).getD ev:=by
 cases e:bS sub s with
 | none=>
  cases e2:bS st s with
  | none=>rfl
  | some o=>
   obtain ⟨n,h⟩:=f8 e2
   obtain ⟨k,x,hx,_⟩:=G.in2 d h
   rw[fV hx] at e;cases e
 | some x=>
  obtain ⟨k,hk⟩:=f8 e
  obtain ⟨i1,i2⟩:=G.in1 d hk
  simp only
  cases q:ext x with
  | inr o=>simp only;rw[fV (i2 o q)];rfl
  | inl t=>
   simp only
   obtain ⟨r1,r2⟩:=i1 t q
   rw[<-G.eq ev r2]
   cases e2:bS st (g t) with
   | some o=>
    obtain ⟨n,h⟩:=f8 e2
    rw[fV (r1.to h)]
   | none=>
    cases e3:bS st s with
    | none=>rfl
    | some o=>
     obtain ⟨n,h⟩:=f8 e3
     obtain ⟨n',_,z⟩:=r1.ex h
     rw[fV z] at e2;cases e2
end
def fW:Str:="ever"
def cL(rs:List Rw)(z:List Nat)(s:Int×Int):Option ((Int×Int)⊕Tn):=
 match (bJ rs z s).1 with
 | .w x=>some (.inr (.w x))
 | .n q=>if s.1+(bJ rs z s).2<=(z.length:Int) then some (.inl (s.1+(bJ rs z s).2,q)) else some (.inr (.n q))
def lD(rs:List Rw)(z:List Nat)(s:Int×Int):Prop:=0<=s.1/\s.1<=(z.length:Int)/\0<=s.2/\s.2 < (rs.length:Int)
def dC(rs:List Rw)(q:Int):Prop:=0<=q/\q < (rs.length:Int)
theorem lD.valid{rs:List Rw}{z:List Nat}{s:Int×Int}(h:lD rs z s):jF rs z s:=⟨h.1,by have:=h.2.1;omega,h.2.2⟩
noncomputable def dQ(rs:List Rw)(z:List Nat)(s:Int×Int):Tn:=(bS (cL rs z) s).getD (.w fW)
noncomputable def begB(rs:List Rw)(z:List Nat)(q:Int):Tn:=dQ rs z ((z.length:Int),q)
theorem aHH{rs:List Rw}{z:List Nat}{c:Nat}{s:Int×Int}(h0:0<=s.1)(h:s.1<=(z.length:Int)):bJ rs (z++[c]) s=bJ rs z s:=by
 unfold bJ
 by_cases h1:s.1=0
 ·rw[AG h1,AG h1]
 ·rw[AH h1,AH h1,AH (by rw[A5,BY];omega),AH (by omega)]
  have e:(z++[c]).getD (s.1.toNat - 1) 97=z.getD (s.1.toNat - 1) 97:=by
   rw[A3,A3,BQ (by omega)]
  rw[e]
theorem beg_cell{rs:List Rw}{sg:Nat}{z:List Nat}{s:Int×Int}(M:Mach rs sg)(S:bU sg z)(V:lD rs z s):(∃ x,(bJ rs z s).1=.w x/\s.1=0)\/∃ q,(bJ rs z s).1=.n q/\dC rs q/\0<=s.1+(bJ rs z s).2/\s.1+(bJ rs z s).2<=(z.length:Int)+1:=by
 cases e:(bJ rs z s).1 with
 | w x=>
  refine .inl ⟨x,rfl,?_⟩
  by_cases h0:s.1=0
  ·exact h0
  ·unfold bJ at e
   rw[AH h0,AH (by have:=V.2.1;omega)] at e
   cases e
 | n q=>
  have hv:jF rs z (s.1+(bJ rs z s).2,q):=vJ M S V.valid (by unfold eJ;rw[e])
  exact .inr ⟨q,rfl,⟨hv.2.2.1,hv.2.2.2⟩,hv.1,hv.2.1⟩
def aQC(e:Tn):Int⊕Tn:=match e with
 | .n q=>.inl q
 | .w x=>.inr (.w x)
def aQD(e:Tn):Int⊕Str:=match e with
 | .n q=>.inl q
 | .w x=>.inr x
def aBO(rs:List Rw)(z:List Nat)(c:Nat)(q:Int):(Int×Int)⊕Tn:=
 if ((aW rs q).c.getD (c - 97) (0,0)).2=1 then .inr (.n ((aW rs q).c.getD (c - 97) (0,0)).1) else .inl ((z.length:Int),((aW rs q).c.getD (c - 97) (0,0)).1)
theorem y6{rs:List Rw}{z:List Nat}{c:Nat}{q:Int}:bJ rs (z++[c]) ((z.length:Int)+1,q)=(.n ((aW rs q).c.getD (c - 97) (0,0)).1,((aW rs q).c.getD (c - 97) (0,0)).2):=by
 unfold bJ
 have e:(z++[c]).getD (((z.length:Int)+1).toNat - 1) 97=c:=by
  rw[show ((z.length:Int)+1).toNat - 1=z.length by omega,A3,B5 (AK _)];simp
 rw[AH (show ¬ (z.length:Int)+1=0 by omega),AH (by simp only[A5,BY];omega)]
 simp only
 rw[e]
theorem y7{rs:List Rw}{sg:Nat}{z:List Nat}{c:Nat}(M:Mach rs sg)(S:bU sg z)(hc:eO sg c=true):Gates (cL rs (z++[c])) (cL rs z) aQC (fun q=>((z.length:Int)+1,q)) (aBO rs z c) (lD rs z) (dC rs) where
 step:=fun s V=>by
  have ce:=aHH (rs:=rs) (c:=c) V.1 V.2.1
  have hl:((z++[c]).length:Int)=(z.length:Int)+1:=by rw[A5,BY];omega
  rcases beg_cell M S V with ⟨x,e,h0⟩|⟨q,e,rv,h1,h2⟩
  ·refine .inr (.inr ⟨.w x,.w x,?_,rfl,?_⟩)
   ·unfold cL;rw[e]
   ·unfold cL;rw[ce,e]
  ·by_cases h3:s.1+(bJ rs z s).2<=(z.length:Int)
   ·refine .inl ⟨(s.1+(bJ rs z s).2,q),?_,?_,h1,h3,rv⟩
    · unfold cL; rw [e]; simp only; rw [AG h3]
    · unfold cL; rw [ce, e]; simp only; rw [AG (by rw [hl]; omega)]
   ·refine .inr (.inl ⟨.n q,q,?_,rfl,?_,rv⟩)
    · unfold cL; rw [e]; simp only; rw [AH h3]
    · unfold cL; rw [ce, e]; simp only; rw [AG (by rw [hl]; omega), show s.1 + (bJ rs z s).2 = (z.length : Int) + 1 by omega]
 gate:=fun q rv=>by
  have hl:((z++[c]).length:Int)=(z.length:Int)+1:=by rw[A5,BY];omega
  have hr:=AL (eG rv.1 rv.2)
  obtain ⟨_,cg⟩:=pA M hr (show c - 97 < sg by have:=BO hc;omega)
  obtain ⟨g1,g2,g3⟩:=cg
  rcases g3 with g3|g3
  ·refine .inr ⟨.n _,by unfold aBO;rw[AG g3],?_⟩
   unfold cL;rw[y6];simp only;rw[AH (by rw[hl,g3];omega)]
  ·refine .inl ⟨((z.length:Int),((aW rs q).c.getD (c - 97) (0,0)).1),by unfold aBO;rw[AH (by rw[g3];decide)],?_,?_⟩
   ·unfold cL;rw[y6];simp only;rw[AG (by rw[hl,g3];omega),g3,show (z.length:Int)+1 + -1=z.length by omega]
   ·exact ⟨by show (0:Int)<=z.length;omega,D3 _,g1,g2⟩
def eR(rs:List Rw)(bk:Int->Tn)(c:Nat)(q:Int):Option (Int⊕Tn):=
 if ((aW rs q).c.getD (c - 97) (0,0)).2=1 then some (.inr (.n ((aW rs q).c.getD (c - 97) (0,0)).1)) else match bk ((aW rs q).c.getD (c - 97) (0,0)).1 with
  | .n r=>some (.inl r)
  | .w x=>some (.inr (.w x))
noncomputable def onR(rs:List Rw)(bk:Int->Tn)(c:Nat)(t:Tn):Tn:=match t with
 | .w x=>.w x
 | .n q=>(bS (eR rs bk c) q).getD (.w fW)
theorem aHI{rs:List Rw}{z:List Nat}{c:Nat}:gst (cL rs z) aQC (aBO rs z c) (.w fW)=eR rs (begB rs z) c:=by
 funext q
 unfold gst aBO eR begB dQ
 by_cases h:((aW rs q).c.getD (c - 97) (0,0)).2=1
 ·rw[AG h,AG h]
 ·rw[AH h,AH h]
  simp only
  cases bS (cL rs z) ((z.length:Int),((aW rs q).c.getD (c - 97) (0,0)).1) with
  | none=>rfl
  | some e=>cases e<;>rfl
theorem y8{rs:List Rw}{sg:Nat}{z:List Nat}{c:Nat}(M:Mach rs sg)(S:bU sg z)(hc:eO sg c=true){q:Int}(rv:dC rs q):begB rs (z++[c]) q=onR rs (begB rs z) c (.n q):=by
 have h:=(y7 M S hc).eq (.w fW) rv
 rw[aHI] at h
 unfold begB dQ onR
 rw[show ((z++[c]).length:Int)=(z.length:Int)+1 by rw[A5,BY];omega]
 exact h
theorem qI{rs:List Rw}{sg:Nat}(M:Mach rs sg)(z:List Nat):lD rs z (0,0):=⟨D3 _,by show (0:Int)<=z.length;omega,D3 _,by have:=M.len;show (0:Int) < rs.length;omega⟩
theorem y9{rs:List Rw}{sg:Nat}{z:List Nat}{c:Nat}(M:Mach rs sg)(S:bU sg z)(hc:eO sg c=true):dQ rs (z++[c]) (0,0)=onR rs (begB rs z) c (dQ rs z (0,0)):=by
 have h:=(y7 M S hc).inn (.w fW) (qI M z)
 rw[aHI] at h
 unfold dQ
 rw[h]
 cases bS (cL rs z) (0,0) with
 | none=>rfl
 | some e=>cases e<;>rfl
def fR(rs:List Rw)(bk:Int->Tn)(q:Int):Option (Int⊕Str):=match (aW rs q).r with
 | .w x=>some (.inr x)
 | .n q'=>match bk q' with
  | .n r=>some (.inl r)
  | .w x=>some (.inr x)
noncomputable def wbR(rs:List Rw)(bk:Int->Tn)(t:Tn):Str:=match t with
 | .w x=>x
 | .n q=>(bS (fR rs bk) q).getD fW
def aBP(rs:List Rw)(z:List Nat)(q:Int):(Int×Int)⊕Str:=match (aW rs q).r with
 | .w x=>.inr x
 | .n q'=>.inl ((z.length:Int),q')
theorem zA{rs:List Rw}{z:List Nat}{q:Int}:bJ rs z ((z.length:Int)+1,q)=((aW rs q).r,-1):=by
 unfold bJ
 rw[AH (show ¬ (z.length:Int)+1=0 by omega),AG rfl]
theorem aE7{rs:List Rw}{sg:Nat}{z:List Nat}(M:Mach rs sg)(S:bU sg z):Gates (fK rs z) (cL rs z) aQD (fun q=>((z.length:Int)+1,q)) (aBP rs z) (lD rs z) (dC rs) where
 step:=fun s V=>by
  rcases beg_cell M S V with ⟨x,e,h0⟩|⟨q,e,rv,h1,h2⟩
  ·refine .inr (.inr ⟨.w x,x,?_,rfl,?_⟩)
   ·unfold cL;rw[e]
   ·unfold fK;rw[e]
  ·by_cases h3:s.1+(bJ rs z s).2<=(z.length:Int)
   ·refine .inl ⟨(s.1+(bJ rs z s).2,q),?_,?_,h1,h3,rv⟩
    · unfold cL; rw [e]; simp only; rw [AG h3]
    · unfold fK; rw [e]
   ·refine .inr (.inl ⟨.n q,q,?_,rfl,?_,rv⟩)
    · unfold cL; rw [e]; simp only; rw [AH h3]
    · unfold fK; rw [e]; simp only; rw [show s.1 + (bJ rs z s).2 = (z.length : Int) + 1 by omega]
 gate:=fun q rv=>by
  have hr:=AL (eG rv.1 rv.2)
  have hg:=(M.row _ hr).1.2.1
  cases e:(aW rs q).r with
  | w x=>exact .inr ⟨x,by unfold aBP;rw[e],by unfold fK;rw[zA];simp only;rw[e]⟩
  | n q'=>
   rw[e] at hg
   refine .inl ⟨((z.length:Int),q'),by unfold aBP;rw[e],?_,⟨by show (0:Int)<=z.length;omega,D3 _,hg.1,hg.2⟩⟩
   unfold fK;rw[zA];simp only;rw[e];simp only;rw[show (z.length:Int)+1 + -1=z.length by omega]
theorem aQE{rs:List Rw}{z:List Nat}:gst (cL rs z) aQD (aBP rs z) fW=fR rs (begB rs z):=by
 funext q
 unfold gst aBP fR begB dQ
 cases (aW rs q).r with
 | w x=>rfl
 | n q'=>
  simp only
  cases bS (cL rs z) ((z.length:Int),q') with
  | none=>rfl
  | some e=>cases e<;>rfl
theorem aJI{rs:List Rw}{sg:Nat}{z:List Nat}(M:Mach rs sg)(S:bU sg z):(bS (fK rs z) (0,0)).getD fW=wbR rs (begB rs z) (dQ rs z (0,0)):=by
 have h:=(aE7 M S).inn fW (qI M z)
 rw[aQE] at h
 rw[h]
 unfold dQ wbR
 cases bS (cL rs z) (0,0) with
 | none=>rfl
 | some e=>cases e<;>rfl
theorem sX{rs:List Rw}{q:Int}:dQ rs [] (0,q)=(aW rs q).l:=by
 have hc:bJ rs [] (0,q)=((aW rs q).l,1):=by unfold bJ;rw[AG rfl]
 unfold dQ
 cases e:(aW rs q).l with
 | w x=>rw[yL (o:=.w x) (by unfold cL;rw[hc,e])];rfl
 | n q'=>
  rw[yL (o:=.n q') (by unfold cL;rw[hc,e];simp only;rw[AH (by decide)])];rfl
end Mc
namespace Mc
open PySem L2 PyProof.Rows Fl
def iE(f:Tn)(bk:List Tn):PyData:=.tuple [f.d,.tuple (bk.map Tn.d)]
def bkF(bk:List Tn)(q:Int):Tn:=bk.getD q.toNat (.w fW)
def tnV(m:Nat):Tn->Prop
 | .n i=>0<=i/\i < (m:Int)
 | .w _=>True
theorem gE(a b:Int)(h:PyData.int a=PyData.int b):a=b:=by injection h
theorem jO(ps:List Int)(q:Int):cF (.int q) ((been PyData.int ps).map (·.1))=true:=by
 unfold cF
 rw[rS,DK]
 refine .inr ?_
 rw[show oM (.int q)=true from rfl,FP,BT]
 intro x hx
 obtain ⟨i,_,rfl⟩:=A0.mp hx
 rfl
theorem xP(i:Int):fX [.d (.int i)]=.ok (.d (.bool false)):=by
 unfold fX oC
 simp[wC]
theorem xQ(x:Str):fX [.d (.str x)]=.ok (.d (.bool true)):=by
 unfold fX oC
 simp[wD]
def f9(rs:List Rw)(k:Nat):PyData:=.list (rs.map fun r=>eS (ck k r))
theorem aBQ{rs:List Rw}{k:Nat}{q:Int}(h0:0<=q)(h1:q < (rs.length:Int)):dIx (f9 rs k) (.int q)=.ok (eS (ck k (aW rs q))):=lU (pD h0 (by rw[AJ,eG h0 h1];rfl))
theorem aKT{bk:List Tn}{q:Int}(h0:0<=q)(h1:q < (bk.length:Int)):dIx (.tuple (bk.map Tn.d)) (.int q)=.ok (bkF bk q).d:=by
 refine oF (pD h0 ?_)
 have hq:q.toNat < bk.length:=by omega
 rw[AJ,AI hq]
 unfold bkF
 rw[A3,AI hq];rfl
theorem sY{m:Nat}{bk:List Tn}(hv:∀ t∈bk,tnV m t)(q:Int):tnV m (bkF bk q):=by
 unfold bkF
 rw[A3]
 cases e:bk[q.toNat]? with
 | none=>exact trivial
 | some t=>exact hv t (AL e)
noncomputable def oρ(rs:List Rw)(bk:List Tn)(k:Nat)(t:Tn)(ps:List Int)(u:Option A):Sg:=[some (.d (.tuple (bk.map Tn.d))),some (.d (f9 rs k)),some (.d t.d),some (.m (been PyData.int ps)),u]
theorem aQF{rs:List Rw}{bk:List Tn}{k:Nat}{x:Str}{ps:List Int}{u:Option A}:oT (oρ rs bk k (.w x) ps u)=.ok false:=by
 simp[oT,oρ,Tn.d,xQ]
theorem aJJ{rs:List Rw}{bk:List Tn}{k:Nat}{q:Int}{ps:List Int}{u:Option A}:oT (oρ rs bk k (.n q) ps u)=.ok true:=by
 simp[oT,oρ,Tn.d,xP]
theorem aQG{rs:List Rw}{bk:List Tn}{k:Nat}{q:Int}{ps:List Int}{u:Option A}(h:q∈ps):oB (oρ rs bk k (.n q) ps u)=.ok (.rt (.d (.str "ever"))):=by
 have h1:=jO ps q
 have h2:=(nQ gE).mpr h
 simp[oB,oρ,Tn.d,h1,h2]
theorem aQH{rs:List Rw}{bk:List Tn}{k:Nat}{q:Int}{ps:List Int}{u:Option A}(h:q∉ps)(rv:dC rs q)(hp:ps.length<=16777216)(hc:(ck k (aW rs q)).2=1):oB (oρ rs bk k (.n q) ps u)=.ok (.rt (.d (.int (ck k (aW rs q)).1))):=by
 have h1:=jO ps q
 have h2:=iH gE h
 have h4:(been PyData.int ps).length<=16777216:=by rw[jB];exact hp
 have hi:=aBQ (k:=k) rv.1 rv.2
 simp[oB,oρ,Tn.d,h1,h2,h4,hi,eS,dX,hc]
theorem aRZ{rs:List Rw}{bk:List Tn}{k:Nat}{q:Int}{ps:List Int}{u:Option A}(h:q∉ps)(rv:dC rs q)(hp:ps.length<=16777216)(hc:(ck k (aW rs q)).2≠1)(h0:0<=(ck k (aW rs q)).1)(hl:(ck k (aW rs q)).1 < (bk.length:Int)):oB (oρ rs bk k (.n q) ps u)=.ok (.nx (oρ rs bk k (bkF bk (ck k (aW rs q)).1) (ps++[q]) (some (.d (eS (ck k (aW rs q))))))):=by
 have h1:=jO ps q
 have h2:=iH gE h
 have h3:=lM gE h
 have h4:(been PyData.int ps).length<=16777216:=by rw[jB];exact hp
 have hi:=aBQ (k:=k) rv.1 rv.2
 have hb:=aKT h0 hl
 simp[oB,oρ,Tn.d,h1,h2,h3,h4,hi,eS,dX,hc,hb]
theorem sZ{m:Nat}{l:List Int}(hn:l.Nodup)(hv:∀ q∈l,0<=q/\q < (m:Int)):l.length<=m:=
 qY (fun q:Int=>q.toNat) m l hn (fun q hq=>by have:=hv q hq;show q.toNat < m;omega) (fun a ha b hb e=>by
  have h1:=hv a ha
  have h2:=hv b hb
  have e':a.toNat=b.toNat:=e
  omega)
theorem aDQ{rs:List Rw}{bk:Int->Tn}{c:Nat}{q:Int}:eR rs bk c q=if (ck (c - 97) (aW rs q)).2=1 then some (.inr (.n (ck (c - 97) (aW rs q)).1)) else match bk (ck (c - 97) (aW rs q)).1 with
 | .n r=>some (.inl r)
 | .w x=>some (.inr (.w x)):=id rfl
theorem aMV{rs:List Rw}{sg c:Nat}{bk:List Tn}(M:Mach rs sg)(hc:eO sg c=true)(hb:bk.length=rs.length)(hv:∀ t∈bk,tnV rs.length t){q0:Int}:∀ (n:Nat) (ps:List Int) (q:Int) (u:Option A),Und2 (eR rs (bkF bk) c) q0 ps q->(∀ p∈ps,dC rs p)->dC rs q->rs.length+1<=ps.length+n->
  aL (bM oT oB) (bO (vV 2)) (oρ rs bk (c - 97) (.n q) ps u)=.ok (.rt (.d ((bS (eR rs (bkF bk) c) q0).getD (.w fW)).d)):=by
 intro n
 induction n with
 | zero=>
  intro ps q u U pv rv hn
  have:=sZ U.nd pv
  omega
 | succ n ih=>
  intro ps q u U pv rv hn
  rw[bR]
  by_cases hs:q∈ps
  ·rw[i9 aJJ (aQG hs),U.met hs];rfl
  ·have hl:ps.length<=rs.length:=sZ U.nd pv
   have hp:ps.length<=16777216:=by have:=M.len2;omega
   have hr:=AL (eG rv.1 rv.2)
   obtain ⟨_,cg⟩:=pA M hr (show c - 97 < sg by have:=BO hc;omega)
   have cg:nC rs.length (ck (c - 97) (aW rs q)):=cg
   obtain ⟨g1,g2,g3⟩:=cg
   by_cases h1:(ck (c - 97) (aW rs q)).2=1
   ·have st:eR rs (bkF bk) c q=some (.inr (.n (ck (c - 97) (aW rs q)).1)):=by unfold eR;exact AG h1
    rw[i9 aJJ (aQH hs rv hp h1),U.outs st];rfl
   ·rw[gN aJJ (aRZ hs rv hp h1 g1 (by rw[hb];exact g2))]
    have gd:=sY hv (ck (c - 97) (aW rs q)).1
    cases e:bkF bk (ck (c - 97) (aW rs q)).1 with
    | w x=>
     have st:eR rs (bkF bk) c q=some (.inr (.w x)):=by rw[aDQ,AH h1,e]
     rw[eQ aQF,U.outs st]
     simp[oρ,Tn.d]
    | n r=>
     rw[e] at gd
     have st:eR rs (bkF bk) c q=some (.inl r):=by rw[aDQ,AH h1,e]
     have:=ih (ps++[q]) r (some (.d (eS (ck (c - 97) (aW rs q))))) (U.next hs st) (fun p hp=>by
      rcases BJ.mp hp with z|z
      · exact pv p z
      · rw [AQ.mp z]; exact rv) gd (by rw [A5, BY]; omega)
     rw[bR] at this
     exact this
theorem aQI{rs:List Rw}{sg c:Nat}{bk:List Tn}(M:Mach rs sg)(hc:eO sg c=true)(hb:bk.length=rs.length)(hv:∀ t∈bk,tnV rs.length t){t:Tn}(ht:tnV rs.length t):i6 [.d (.tuple (bk.map Tn.d)),.d (f9 rs (c - 97)),.d t.d]=.ok (.d (onR rs (bkF bk) c t).d):=by
 have key:aL (bM oT oB) (bO (vV 2)) (oρ rs bk (c - 97) t [] none)=.ok (.rt (.d (onR rs (bkF bk) c t).d)):=by
  cases t with
  | w x=>
   rw[bR,eQ aQF]
   simp[oρ,Tn.d,onR]
  | n q=>exact aMV M hc hb hv (rs.length+1) [] q none Und2.start (fun p hp=>by simp at hp) ht (by simp)
 unfold i6
 rw[rO]
 simp only[lB,bR,nO,R.bind_ok,BG,BR,Nat.reduceAdd,AW,B0,B9,B7,List.replicate,BA,BH]
 rw[bR] at key
 simp only[oρ,been,B0] at key
 rw[key];rfl
theorem aR0{rs:List Rw}{sg c:Nat}{bk:List Tn}(M:Mach rs sg)(hc:eO sg c=true)(hb:bk.length=rs.length)(hv:∀ t∈bk,tnV rs.length t){t:Tn}(ht:tnV rs.length t) :
  iK [.d (iE t bk),.d (f9 rs (c - 97))]=.ok (.d (iE (onR rs (bkF bk) c t) ((List.range rs.length).map fun q:Nat=>onR rs (bkF bk) c (.n (q:Int))))):=by
 have h:=gU (fs:=stN 0) (fe:=eA (bB 3 i6 (aA (vD (e2 dIx (rV 1) (eC (.int 1)))) (aA (vV 2) (aA (vV 0) aK))))) (ρ0:=[none,some (.d (iE t bk)),some (.d (f9 rs (c - 97)))]) (d:=fun i:Nat=>.int (i:Int)) (g:=fun i:Nat=>(onR rs (bkF bk) c (.n (i:Int))).d) (xs:=List.range rs.length) fun i hi=>by
  refine ⟨_,rfl,?_⟩
  have:=aQI M hc hb hv (t:=.n (i:Int)) ⟨by omega,by have:=BS.mp hi;omega⟩
  have e:(Tn.n (i:Int)).d=.int i:=rfl
  rw[e] at this
  simp[iE,this]
 have hr:=jC (n:=rs.length) (by have:=M.len2;omega)
 have hl:dLen (f9 rs (c - 97))=.ok (.int rs.length):=by unfold f9;rw[f7,AB]
 have h1:=aQI M hc hb hv ht
 have h0:dIx (iE t bk) (.int 0)=.ok t.d:=aBK _ _
 have h2:dIx (iE t bk) (.int 1)=.ok (.tuple (bk.map Tn.d)):=aP4 _ _ _
 unfold iK uL
 simp[h0,h2,h1,hl,hr,iB,h]
 unfold iE
 rw[B1];rfl
noncomputable def aP(rs:List Rw)(z:List Nat):PyData:=iE (dQ rs z (0,0)) ((List.range rs.length).map fun q:Nat=>begB rs z (q:Int))
theorem lP{rs:List Rw}{sg:Nat}{z:List Nat}(M:Mach rs sg)(S:bU sg z){s:Int×Int}(V:lD rs z s):tnV rs.length (dQ rs z s):=by
 unfold dQ
 cases e:bS (cL rs z) s with
 | none=>exact trivial
 | some t=>
  obtain ⟨n,h⟩:=f8 e
  show tnV rs.length t
  clear e
  induction h with
  | @out s o h=>
   unfold cL at h
   rcases beg_cell M S V with ⟨x,e,h0⟩|⟨q,e,rv,h1,h2⟩
   ·rw[e] at h;cases h;exact trivial
   ·rw[e] at h
    simp only at h
    split at h
    · cases h
    · cases h; exact rv
  | @go s s' o n h t ih=>
   refine ih ?_
   unfold cL at h
   rcases beg_cell M S V with ⟨x,e,h0⟩|⟨q,e,rv,h1,h2⟩
   ·rw[e] at h;cases h
   ·rw[e] at h
    simp only at h
    split at h
    · rename_i h3; cases h; exact ⟨h1, h3, rv⟩
    · cases h
theorem wG{rs:List Rw}{z:List Nat}{q:Nat}(h:q < rs.length):lD rs z ((z.length:Int),(q:Int)):=⟨by show (0:Int)<=z.length;omega,D3 _,by show (0:Int)<=q;omega,by show (q:Int) < rs.length;omega⟩
theorem xR{rs:List Rw}{z:List Nat}{q:Int}(rv:dC rs q):bkF ((List.range rs.length).map fun q:Nat=>begB rs z (q:Int)) q=begB rs z q:=by
 have hq:q.toNat < rs.length:=by have:=rv.1;have:=rv.2;omega
 unfold bkF
 rw[A3,AJ,CI hq]
 show begB rs z ((q.toNat:Nat):Int)=_
 rw[show ((q.toNat:Nat):Int)=q by have:=rv.1;omega]
theorem aBR{rs:List Rw}{sg c:Nat}(M:Mach rs sg)(hc:eO sg c=true){bk bk':Int->Tn}(h:∀ q,dC rs q->bk q=bk' q)(hg:∀ q,dC rs q->tnV rs.length (bk q)){t:Tn}(ht:tnV rs.length t):onR rs bk c t=onR rs bk' c t:=by
 cases t with
 | w x=>rfl
 | n q=>
  have st:∀ q,dC rs q->eR rs bk c q=eR rs bk' c q:=fun q rv=>by
   unfold eR
   have hr:=AL (eG rv.1 rv.2)
   obtain ⟨_,cg⟩:=pA M hr (show c - 97 < sg by have:=BO hc;omega)
   rw[h _ ⟨cg.1,cg.2.1⟩]
  have nx:∀ q q',dC rs q->eR rs bk c q=some (.inl q')->dC rs q':=fun q q' rv e=>by
   unfold eR at e
   have hr:=AL (eG rv.1 rv.2)
   obtain ⟨_,cg⟩:=pA M hr (show c - 97 < sg by have:=BO hc;omega)
   have gd:=hg _ ⟨cg.1,cg.2.1⟩
   split at e
   ·cases e
   ·split at e
    · rename_i r er; cases e; rw [er] at gd; exact gd
    · cases e
  have a1:∀ n q o,dC rs q->Ex (eR rs bk c) n q o->Ex (eR rs bk' c) n q o:=by
   intro n q o rv hx
   induction hx with
   | @out q o e=>exact .out (by rw[<-st q rv];exact e)
   | @go q q' o n e t ih=>exact .go (by rw[<-st q rv];exact e) (ih (nx q q' rv e))
  have a2:∀ n q o,dC rs q->Ex (eR rs bk' c) n q o->Ex (eR rs bk c) n q o:=by
   intro n q o rv hx
   induction hx with
   | @out q o e=>exact .out (by rw[st q rv];exact e)
   | @go q q' o n e t ih=>
    have e':eR rs bk c q=some (.inl q'):=by rw[st q rv];exact e
    exact .go e' (ih (nx q q' rv e'))
  show (bS (eR rs bk c) q).getD (.w fW)=(bS (eR rs bk' c) q).getD (.w fW)
  rw[tT (st:=eR rs bk c) (st':=eR rs bk' c) (s:=q) (s':=q) fun o=>⟨fun ⟨n,x⟩=>⟨n,a1 n q o ht x⟩,fun ⟨n,x⟩=>⟨n,a2 n q o ht x⟩⟩]
theorem aBS{rs:List Rw}{sg:Nat}{z:List Nat}{c:Nat}(M:Mach rs sg)(S:bU sg z)(hc:eO sg c=true):iK [.d (aP rs z),.d (f9 rs (c - 97))]=.ok (.d (aP rs (z++[c]))):=by
 have hl:((List.range rs.length).map fun q:Nat=>begB rs z (q:Int)).length=rs.length:=by simp
 have hv:∀ t∈(List.range rs.length).map fun q:Nat=>begB rs z (q:Int),tnV rs.length t:=fun t ht=>by
  obtain ⟨q,hq,rfl⟩:=A0.mp ht
  exact lP M S (wG (BS.mp hq))
 have hg:∀ q,dC rs q->tnV rs.length (bkF ((List.range rs.length).map fun q:Nat=>begB rs z (q:Int)) q):=fun q rv=>sY hv q
 unfold aP
 rw[aR0 M hc hl hv (lP M S (qI M z))]
 rw[aBR M hc (fun q rv=>xR rv) hg (lP M S (qI M z)),y9 M S hc]
 have em:((List.range rs.length).map fun q:Nat=>onR rs (bkF ((List.range rs.length).map fun q:Nat=>begB rs z (q:Int))) c (.n (q:Int)))=(List.range rs.length).map fun q:Nat=>begB rs (z++[c]) (q:Int):=?_
 ·rw[em]
 refine BZ fun q hq=>?_
 have rv:dC rs (q:Int):=⟨by omega,by have:=BS.mp hq;omega⟩
 rw[aBR M hc (fun q rv=>xR rv) hg (t:=.n (q:Int)) rv,y8 M S hc rv]
theorem aE8{rs:List Rw}{sg:Nat}(M:Mach rs sg):bV (bE rs)=.ok (rs.map dE):=qH (by have:=M.len2;rw[AB];omega)
theorem aJK{α:Type}(rs:List Rw)(f:Rw->α):rs.map f=(List.range rs.length).map fun q:Nat=>f (aW rs (q:Int)):=by
 apply List.ext_getElem
 ·simp
 ·intro i h1 h2
  have hi:i < rs.length:=by simpa using h1
  simp only[GI,List.getElem_range]
  congr 1
  unfold aW
  rw[A3,show ((i:Int)).toNat=i by omega,AI hi];rfl
theorem aR1{rs:List Rw}{sg:Nat}(M:Mach rs sg):gL [.d (bE rs)]=.ok (.d (aP rs [])):=by
 have h:=gU (fs:=stN 0) (fe:=e2 dIx (rV 0) (eC (.int 0))) (ρ0:=[none]) (d:=dE) (g:=fun r:Rw=>r.l.d) (xs:=rs) fun r _=>⟨_,rfl,by simp[dE]⟩
 have e1:aP rs []=.tuple [(aW rs 0).l.d,.tuple (rs.map fun r=>r.l.d)]:=by
  unfold aP iE
  rw[sX,aJK rs,B1]
  congr 4
  refine BZ fun q _=>?_
  show (dQ rs [] (((([]:List Nat).length:Nat):Int),(q:Int))).d=_
  rw[show ((([]:List Nat).length:Nat):Int)=0 by rfl,sX]
 obtain ⟨r,t,hrs,_⟩:=M.cons
 have h0:dIx (.tuple (rs.map fun r=>r.l.d)) (.int 0)=.ok (aW rs 0).l.d:=by
  subst hrs
  exact aBK _ _
 rw[e1]
 unfold gL k7
 simp[aE8 M,iB,h,h0]
theorem aQJ{rs:List Rw}{sg:Nat}(M:Mach rs sg)(ρ0:Sg)(h:iB [none,some 0] ρ0=[none,some (.d (bE rs))]) :
  compL (stN 0) j5 (eA (bB 2 jM (aA (vV 1) (aA (vV 0) aK)))) (iB [none,some 0] ρ0) ((List.range sg).map fun i:Nat=>.int (i:Int))=.ok ((List.range sg).map (f9 rs)):=by
 rw[h]
 refine gU fun k hk=>⟨_,rfl,?_⟩
 have:=aMR M (BS.mp hk)
 simp[this]
 rfl
noncomputable def byρ(rs:List Rw)(z:Str)(s:Int×Int)(ps:List (Int×Int)):Sg:=[some (.d (bE rs)),some (.d (.str z)),some (.d (.int s.1)),some (.d (.int s.2)),some (.m (been prD ps))]
theorem aHJ{rs:List Rw}{z:Str}(hz:z.cps.toList.length<=16777216){s:Int×Int}{ps:List (Int×Int)}:byT (byρ rs z s ps)=.ok (decide (s.1<=(z.cps.toList.length:Int))):=by
 have hl:=aBI (z:=z) (by rw[m6];exact hz)
 rw[m6] at hl
 simp[byT,byρ,hl]
theorem aMW{rs:List Rw}{z:Str}{s:Int×Int}{ps:List (Int×Int)}(h:s∈ps):byB (byρ rs z s ps)=.ok (.rt (.d (.str "ever"))):=by
 have h1:cF (.tuple [.int s.1,.int s.2]) ((been prD ps).map (·.1))=true:=jA lN ps s
 have h2:cI (been prD ps) (.tuple [.int s.1,.int s.2])=true:=(nQ kO).mpr h
 simp[byB,byρ,h1,h2]
theorem aR2{rs:List Rw}{z:Str}{q:Int}{ps:List (Int×Int)}{x:Str}(h:(0,q)∉ps)(hp:ps.length<=16777216)(rv:dC rs q)(e:(aW rs q).l=.w x):byB (byρ rs z (0,q) ps)=.ok (.rt (.d (.str x))):=by
 have h1:cF (.tuple [.int 0,.int q]) ((been prD ps).map (·.1))=true:=jA lN ps (0,q)
 have h2:cI (been prD ps) (.tuple [.int 0,.int q])=false:=iH kO h
 have h4:(been prD ps).length<=16777216:=by rw[jB];exact hp
 have hr:=pF rv.1 rv.2
 simp[byB,byρ,h1,h2,h4,dX,hr,dE,e,Tn.d,wD]
theorem aQK{rs:List Rw}{sg:Nat}{z:Str}(M:Mach rs sg)(S:bU sg z.cps.toList){s s':Int×Int}{ps:List (Int×Int)}(h:s∉ps)(hp:ps.length<=16777216)(V:lD rs z.cps.toList s)(e:eJ rs z.cps.toList s=some s'):byB (byρ rs z s ps)=.ok (.nx (byρ rs z s' (ps++[s]))):=by
 obtain ⟨p,q⟩:=s
 have h1:cF (.tuple [.int p,.int q]) ((been prD ps).map (·.1))=true:=jA lN ps (p,q)
 have h2:cI (been prD ps) (.tuple [.int p,.int q])=false:=iH kO h
 have h3:putM (been prD ps) (.tuple [.int p,.int q]) (.bool true)=been prD (ps++[(p,q)]):=lM kO h
 have h4:(been prD ps).length<=16777216:=by rw[jB];exact hp
 have hr:=pF V.2.2.1 V.2.2.2
 have f:=wE M S V.valid
 rw[e] at f
 obtain ⟨p',q'⟩:=s'
 simp only[mF,prD] at f
 by_cases h0:p=0
 ·subst h0
  have hw:∃ q2,(aW rs q).l=.n q2:=by
   unfold eJ bJ at e
   rw[AG rfl] at e
   cases el:(aW rs q).l with
   | w x=>rw[el] at e;cases e
   | n q2=>exact ⟨q2,rfl⟩
  obtain ⟨q2,hw⟩:=hw
  simp[byB,byρ,h1,h2,h3,h4,dX,hr,dE,hw,Tn.d,wC,f]
 ·simp[byB,byρ,h1,h2,h3,h4,dX,h0,f]
theorem aMX{rs:List Rw}{sg:Nat}{z:Str}(M:Mach rs sg)(S:bU sg z.cps.toList){s0:Int×Int}:∀ (n:Nat) (ps:List (Int×Int)) (s:Int×Int),Und2 (cL rs z.cps.toList) s0 ps s->(∀ p∈ps,lD rs z.cps.toList p)->lD rs z.cps.toList s->kT rs z.cps.toList+1<=ps.length+n->
  aL (bM byT byB) (bO (vV 3)) (byρ rs z s ps)=.ok (.rt (.d ((bS (cL rs z.cps.toList) s0).getD (.w fW)).d)):=by
 have hz:z.cps.toList.length<=16777216:=by have:=S.1;omega
 have hB:kT rs z.cps.toList<=1002 * 1000:=Nat.mul_le_mul (by have:=S.1;omega) M.len2
 intro n
 induction n with
 | zero=>
  intro ps s U pv V hn
  have:=pR U.nd fun st h=>(pv st h).valid
  unfold kT at hn
  omega
 | succ n ih=>
  intro ps s U pv V hn
  rw[bR]
  have hT:byT (byρ rs z s ps)=.ok true:=by rw[aHJ hz,AY V.2.1]
  by_cases hs:s∈ps
  ·rw[i9 hT (aMW hs),U.met hs];rfl
  ·have hl:ps.length<=kT rs z.cps.toList:=pR U.nd fun st h=>(pv st h).valid
   have hp:ps.length<=16777216:=by omega
   rcases beg_cell M S V with ⟨x,e,h0⟩|⟨q,e,rv,h1,h2⟩
   ·obtain ⟨p,q⟩:=s
    simp only at h0
    subst h0
    have el:(aW rs q).l=.w x:=by unfold bJ at e;rw[AG rfl] at e;exact e
    rw[i9 hT (aR2 hs hp V.2.2 el),U.outs (show cL rs z.cps.toList (0,q)=some (.inr (.w x)) by unfold cL;rw[e])];rfl
   ·have est:eJ rs z.cps.toList s=some (s.1+(bJ rs z.cps.toList s).2,q):=by unfold eJ;rw[e]
    rw[gN hT (aQK M S hs hp V est)]
    by_cases h3:s.1+(bJ rs z.cps.toList s).2<=(z.cps.toList.length:Int)
    ·have st:cL rs z.cps.toList s=some (.inl (s.1+(bJ rs z.cps.toList s).2,q)):=by unfold cL;rw[e];simp only;rw[AG h3]
     have:=ih (ps++[s]) (s.1+(bJ rs z.cps.toList s).2,q) (U.next hs st) (fun p hp=>by
      rcases BJ.mp hp with z|z
      · exact pv p z
      · rw [AQ.mp z]; exact V) ⟨h1, h3, rv⟩ (by rw [A5, BY]; omega)
     rw[bR] at this
     exact this
    ·have st:cL rs z.cps.toList s=some (.inr (.n q)):=by unfold cL;rw[e];simp only;rw[AH h3]
     rw[eQ (by rw[aHJ hz,AZ h3]),U.outs st]
     simp[byρ,Tn.d]
theorem aKU{rs:List Rw}{sg:Nat}{z:Str}(M:Mach rs sg)(S:bU sg z.cps.toList){s:Int×Int}(V:lD rs z.cps.toList s):fP [.d (bE rs),.d (.str z),.d (.int s.1),.d (.int s.2)]=.ok (.d (dQ rs z.cps.toList s).d):=by
 have key:=aMX M S (kT rs z.cps.toList+1) [] s Und2.start (fun p hp=>by simp at hp) V (by simp)
 unfold fP
 rw[mE]
 simp only[lB,bR,nO,R.bind_ok,BG,BR,Nat.reduceAdd,AW,B0,B9,B7,List.replicate,BA,BH]
 rw[bR] at key
 simp only[byρ,been,B0] at key
 rw[key];rfl
theorem aHK{rs:List Rw}{sg:Nat}{z:Str}(M:Mach rs sg)(S:bU sg z.cps.toList):eB [.d (bE rs),.d (.str z)]=.ok (.d (aP rs z.cps.toList)):=by
 have hz:z.cps.toList.length<=16777216:=by have:=S.1;omega
 have hl:=aBI (z:=z) (by rw[m6];exact hz)
 rw[m6] at hl
 have h:=gU (fs:=stN 0) (fe:=eA (bB 4 fP (aA (vV 1) (aA (vV 2) (aA (vD (e1 dLen (rV 2))) (aA (vV 0) aK)))))) (ρ0:=[none,some (.d (bE rs)),some (.d (.str z))]) (d:=fun i:Nat=>.int (i:Int)) (g:=fun i:Nat=>(begB rs z.cps.toList (i:Int)).d) (xs:=List.range rs.length) fun i hi=>by
  refine ⟨_,rfl,?_⟩
  have:=aKU M S (wG (z:=z.cps.toList) (BS.mp hi))
  simp only at this
  simp only[aKQ,nN,i8,v4,oE,mR,jN,fY,BA,A1,A2,R.bind_ok,hl,BG,BR,Nat.reduceAdd,CF,this,aG9]
  rfl
 have hr:=jC (n:=rs.length) (by have:=M.len2;omega)
 have hm:dLen (bE rs)=.ok (.int rs.length):=by unfold bE;rw[aP3,AB]
 have h0:=aKU M S (qI M z.cps.toList)
 simp only at h0
 unfold eB kC
 simp[hm,hr,iB,h,h0]
 unfold aP iE
 rw[B1];rfl
theorem aBT(i j:Int):dNe (.int i) (.int j)=.ok (.bool (!decide (i=j))):=by rw[aBL (mS i) (mS j),aHD]
end Mc
namespace Fl
open PySem L2 PyProof.Rows
@[simp] theorem aJL(i:Nat)(f:Sg->R (List (PyData×PyData)))(ρ:Sg):vW i f ρ=(f ρ).bind fun kvs=>(iC [] kvs).bind fun res=>.ok (.nx (ρ.set i (some (.m res)))):=id rfl
@[simp] theorem aMY(ρ:Sg):aAV ρ=.ok []:=id rfl
@[simp] theorem aJM(f g:Sg->R PyData)(r:Sg->R (List (PyData×PyData)))(ρ:Sg):vU f g r ρ=(f ρ).bind fun x=>(g ρ).bind fun y=>(r ρ).bind fun t=>.ok ((x,y)::t):=id rfl
@[simp] theorem aSJ(i:Nat)(f g:Sg->R PyData)(ρ:Sg):aPJ i f g ρ=match ρ[i]? with|some (some (.m kvs))=>(f ρ).bind fun k=>(g ρ).bind fun y=>if cF k (kvs.map (·.1))=true then .ok ((eK kvs k).getD y) else .bad|_=>.bad:=id rfl
end Fl
namespace Mc
open PySem L2 PyProof.Rows Fl
theorem aJN{rs:List Rw}{sg:Nat}{z:List Nat}(M:Mach rs sg)(S:bU sg z):iY rs z="by"\/iY rs z="out"\/iY rs z="ever":=by
 obtain ⟨_,ps,⟨p,r⟩,_,V,q⟩:=aBN (z:=⟨z.toArray⟩) M S
 have hg:=(M.row _ (AL (eG V.2.2.1 V.2.2.2))).1
 unfold iY
 rcases q with ⟨_,x,q2,q3⟩|⟨_,q3⟩
 ·have q3:bS (fK rs z) (0,0)=some x:=q3
  have:x="by"\/x="out":=by
   unfold bJ at q2
   simp only at q2
   by_cases h0:p=0
   ·rw[AG h0] at q2;have k:=hg.1;rw[show (aW rs r).l=.w x from q2] at k;exact k
   ·rw[AH h0] at q2
    split at q2
    · have k := hg.2.1; rw [show (aW rs r).r = .w x from q2] at k; exact k
    · cases q2
  rw[q3]
  rcases this with e|e
  ·exact .inl e
  ·exact .inr (.inl e)
 ·have q3:bS (fK rs z) (0,0)=none:=q3
  rw[q3];exact .inr (.inr rfl)
theorem qJ{w:Str}(h:w="by"\/w="out"\/w="ever"):SeqAt.shaped (.str w)=true:=by rcases h with rfl|rfl|rfl<;>decide +kernel
theorem aR3{w:Str}(h:w="by"\/w="out"\/w="ever"):dNe (.str w) (.str w)=.ok (.bool false):=by
 rw[aBL (qJ h) (qJ h),aLJ];rfl
end Mc
namespace Fl
open PySem L2 PyProof.Rows
theorem xS(i:Nat)(j:Option Nat)(n:Nat)(G:List A->R A)(f:Sg->R (List A))(cl:List Str)(fs:Sg->R Fw)(ρ:Sg):aAX i j n G f cl fs ρ=match f ρ with
 | .ok as=>if as.length=n then (match G as with
  | .bad=>.bad
  | .ok a=>.ok (.nx (putO j a ρ))
  | .ex e=>if cl.contains e.c=true then (fs (ρ.set i (some (.x e)))).bind fun w=>.ok (aE4 i w) else .bad) else .bad
 | _=>.bad:=id rfl
end Fl
namespace Mc
open PySem L2 PyProof.Rows Fl
@[simp] theorem aT2(m i:Nat)(f:Sg->R (List PyData))(ρ:Sg):uG m i f ρ=match ρ[i]? with|some (some (.g k n G))=>(f ρ).bind fun ds=>if k<=m/\ds.length=n then G ds else .bad|_=>.bad:=id rfl
@[simp] theorem aTD(m i:Nat)(f:Sg->R (List PyData))(ρ:Sg):vX m i f ρ=match ρ[i]? with|some (some (.g k n G))=>(f ρ).bind fun ds=>if k<=m/\ds.length=n then (match G ds with | .ok d=>if sT d=true then .ok d else .bad|_=>.bad) else .bad|_=>.bad:=id rfl
def gW(fs:List PyData):List (PyData×PyData):=fs.zipIdx.map fun p=>(p.1,.int (p.2:Int))
theorem qK(fs:List PyData):(gW fs).map (·.1)=fs:=by
 unfold gW
 rw[B1]
 show fs.zipIdx.map Prod.fst=fs
 exact List.zipIdx_map_fst 0 fs
theorem aDR(fs:List PyData):(gW fs).length=fs.length:=by unfold gW;rw[AB,DH]
theorem aBU{fs:List PyData}{x:PyData}(hx:iR x=true)(h:∀ y∈fs,iR y=true):cF x ((gW fs).map (·.1))=true:=by
 unfold cF
 rw[qK,hx,FP,DK,BT]
 exact .inl h
theorem xT{fs:List PyData}{x:PyData}:cI (gW fs) x=true↔x∈fs:=by rw[uD,qK]
theorem uO{fs:List PyData}{x:PyData}(h:x∉fs):cI (gW fs) x=false:=by
 cases q:cI (gW fs) x with
 | false=>rfl
 | true=>exact absurd (xT.mp q) h
theorem aDS{fs:List PyData}{x:PyData}(h:x∉fs):putM (gW fs) x (.int (fs.length:Int))=gW (fs++[x]):=by
 unfold putM
 rw[uO h,AH (by decide)]
 unfold gW
 rw[List.zipIdx_append,A7]
 simp
theorem aMZ{fs:List PyData}{x:PyData}(h:x∈fs):∃ i:Nat,eK (gW fs) x=some (.int (i:Int))/\fs[i]? = some x:=by
 unfold eK
 cases e:(gW fs).find? fun p=>decide (p.1=x) with
 | none=>
  rw[List.find?_eq_none] at e
  rw[<-qK fs,A0] at h
  obtain ⟨p,hp,e2⟩:=h
  exact absurd (AY e2) (e p hp)
 | some p=>
  have h1:=List.find?_some e
  have h2:=List.mem_of_find?_eq_some e
  unfold gW at h2
  obtain ⟨⟨y,i⟩,hy,rfl⟩:=A0.mp h2
  refine ⟨i,rfl,?_⟩
  have h1:y=x:=BO h1
  rw[<-h1]
  exact List.mk_mem_zipIdx_iff_getElem?.mp hy
structure Srch where
 after:PyData->List PyData
 x0:PyData
 good:Nat->PyData->Prop
 lim:Nat
 k1:Nat
 k2:Nat
 G:List PyData->R PyData
 D:List PyData->R PyData
structure Srch.ok(S:Srch):Prop where
 g0:S.good 0 S.x0
 gs:∀ i x,S.good i x->i<=S.lim->∀ y∈S.after x,S.good (i+1) y
 up:∀ i j x,i<=j->S.good i x->S.good j x
 few:∀ xs:List PyData,xs.Nodup->(∀ x∈xs,∃ i,S.good i x)->xs.length<=S.lim
 key:∀ i x,S.good i x->iR x=true
 hk1:S.k1<=12
 hk2:S.k2<=12
 hG:∀ i x,i<=S.lim->S.good i x->S.G [x]=.ok (.list (S.after x))/\(S.after x).length<=16777216
 hD:∀ (fs:List PyData) (i:Int),fs.length<=S.lim->S.D [.list fs,.int i]=.ok (.bool false)
 hl:S.lim<=16000000
noncomputable def rhF:Sg->R Fw:=(aL (sIf (e1 asB (oN true 4 (eV 7))) (aL (mP 4 (eV 7) (e1 dLen (rV 3)))
 (fH 3 (eV 7))) sNx)
 (fH 6 (n8 4 (eV 7))))
noncomputable def rhT:Sg->R Bool:=(j3 (e1 asB (e2 dLt (e1 dLen (rV 5)) (e1 dLen (rV 3)))) (w9 (e1 asB (vX 12 2 (aA (rV 3) (aA (e1 dLen (rV 5)) aK))))))
noncomputable def rhB:Sg->R Fw:=(aL (eW 6 (dG aK))
 (aL (k6 (e1 bV (uG 12 1 (aA (e2 dIx (rV 3) (e1 dLen (rV 5))) aK))) (stN 7) rhF)
 (fH 5 (e1 dTup (rV 6)))))
theorem aQL:rN=aL (eW 3 (dG (aA (eV 0) aK))) (aL (vW 4 (vU (eV 0) (eC (.int 0)) aAV)) (aL (eW 5 (dG aK)) (aL (bM rhT rhB) (sFz 5 (sFz 3 (bO (vD (cY (aA (eV 3) (aA (eV 5) aK))))))))) ):=id rfl
def aR4(fs:List PyData)(js:List Nat)(ys:List PyData):Prop:=js.length=ys.length/\∀ (c:Nat) (y:PyData),ys[c]? = some y->∃ j,js[c]? = some j/\fs[j]? = some y
def iF(js:List Nat):PyData:=.tuple (js.map fun j:Nat=>.int (j:Int))
structure Fnd(S:Srch)(fs:List PyData):Prop where
 nd:fs.Nodup
 gd:∀ (i:Nat) (x:PyData),fs[i]? = some x->S.good i x
theorem Fnd.len{S:Srch}(O:S.ok){fs:List PyData}(h:Fnd S fs):fs.length<=S.lim:=O.few fs h.nd fun x hx=>by
 obtain ⟨i,hi⟩:=C8 hx
 exact ⟨i,h.gd i x hi⟩
structure Rchd(S:Srch)(fs:List PyData)(gs:List (List Nat)):Prop where
 fnd:Fnd S fs
 len:gs.length=fs.length
 zer:fs[0]? = some S.x0
 row:∀ (i:Nat) (js:List Nat) (x:PyData),gs[i]? = some js->fs[i]? = some x->aR4 fs js (S.after x)
noncomputable def adQ(fs:List PyData)(y:PyData):List PyData:=if y∈fs then fs else fs++[y]
noncomputable def adA(fs ys:List PyData):List PyData:=ys.foldl adQ fs
noncomputable def nrQ(fs:List PyData)(y:PyData):Nat:=fs.idxOf y
theorem nS{fs:List PyData}{y:PyData}(h:y∈fs):adQ fs y=fs:=AG h
theorem kP{fs:List PyData}{y:PyData}(h:y∉fs):adQ fs y=fs++[y]:=AH h
theorem pG(fs:List PyData)(y:PyData):fs <+: adQ fs y:=by
 by_cases h:y∈fs
 · rw [nS h]; exact CB _
 · rw [kP h]; exact FI ..
theorem s9(fs:List PyData)(y:PyData):y∈adQ fs y:=by
 by_cases h:y∈fs
 · rw [nS h]; exact h
 · rw [kP h]; simp
theorem aHL{fs:List PyData}{y:PyData}(h:fs.Nodup):(adQ fs y).Nodup:=by
 by_cases q:y∈fs
 ·rw[nS q];exact h
 ·rw[kP q,CO]
  exact ⟨h,by simp,fun a ha b hb=>by rw[AQ.mp hb];rintro rfl;exact q ha⟩
theorem aM0(fs:List PyData)(y:PyData):(adQ fs y).length<=fs.length+1:=by
 by_cases q:y∈fs
 · rw [nS q]; omega
 · rw [kP q]; simp
theorem aJO(fs ys:List PyData)(y:PyData):adA fs (ys++[y])=adQ (adA fs ys) y:=by unfold adA;rw[FU];rfl
theorem xU(ys:List PyData):∀ fs:List PyData,fs <+: adA fs ys:=by
 induction ys with
 | nil=>exact fun fs=>CB _
 | cons y t ih=>exact fun fs=>(pG fs y).trans (ih _)
theorem wH(ys:List PyData):∀ {fs:List PyData},fs.Nodup->(adA fs ys).Nodup:=by
 induction ys with
 | nil=>exact fun h=>h
 | cons y t ih=>exact fun h=>ih (aHL h)
theorem m7(ys:List PyData):∀ {fs:List PyData} {y:PyData},y∈ys->y∈adA fs ys:=by
 induction ys with
 | nil=>intro fs y h;cases h
 | cons x t ih=>
  intro fs y h
  rcases AS.mp h with rfl|h
  · exact (xU t _).subset (s9 fs y)
  · exact ih h
theorem adA_mem(ys:List PyData):∀ {fs:List PyData} {y:PyData},y∈adA fs ys->y∈fs\/y∈ys:=by
 induction ys with
 | nil=>intro fs y h;exact .inl h
 | cons x t ih=>
  intro fs y h
  rcases ih (fs:=adQ fs x) h with h|h
  ·by_cases q:x∈fs
   ·rw[nS q] at h;exact .inl h
   ·rw[kP q] at h
    rcases BJ.mp h with h|h
    · exact .inl h
    · exact .inr (by rw [AQ.mp h]; exact AV)
  ·exact .inr (AN _ h)
theorem aDT(ys:List PyData):∀ fs:List PyData,(adA fs ys).length<=fs.length+ys.length:=by
 induction ys with
 | nil=>intro fs;exact AK _
 | cons x t ih=>
  intro fs
  have h1:=ih (adQ fs x)
  have h2:=aM0 fs x
  show (adA (adQ fs x) t).length<=fs.length+(t.length+1)
  omega
theorem pH{fs fs':List PyData}{y:PyData}(h:fs <+: fs')(hy:y∈fs):nrQ fs' y=nrQ fs y:=by
 obtain ⟨t,rfl⟩:=h
 unfold nrQ
 rw[FV,AG hy]
theorem aBV{fs:List PyData}{y:PyData}(hy:y∈fs):fs[nrQ fs y]? = some y:=by
 have h:nrQ fs y < fs.length:=ED hy
 rw[AI h]
 exact DM some (List.getElem_idxOf h)
theorem aKV{α:Type}{xs:List α}(h:xs.Nodup){i j:Nat}{x:α}(h1:xs[i]? = some x)(h2:xs[j]? = some x):i=j:=by
 obtain ⟨l1,e1⟩:=AE.mp h1
 obtain ⟨l2,e2⟩:=AE.mp h2
 rcases Nat.lt_trichotomy i j with q|q|q
 · exact absurd (e1.trans e2.symm) (EH.mp h i j l1 l2 q)
 · exact q
 · exact absurd (e2.trans e1.symm) (EH.mp h j i l2 l1 q)
theorem aDU{fs:List PyData}{y:PyData}(h:fs.Nodup)(hy:y∈fs):eK (gW fs) y=some (.int (nrQ fs y:Int)):=by
 obtain ⟨i,h1,h2⟩:=aMZ hy
 rw[h1,aKV h h2 (aBV hy)]
structure Sq where
 after:PyData->List PyData
 x0:PyData
 stop:List PyData->Nat->Bool
 k1:Nat
 k2:Nat
 G:List PyData->R PyData
 D:List PyData->R PyData
noncomputable def bfQ(after:PyData->List PyData)(x0:PyData):Nat->List PyData
 | 0=>[x0]
 | n+1=>match (bfQ after x0 n)[n]? with
  | some x=>adA (bfQ after x0 n) (after x)
  | none=>bfQ after x0 n
theorem lQ{after:PyData->List PyData}{x0 x:PyData}{n:Nat}(h:(bfQ after x0 n)[n]? = some x):bfQ after x0 (n+1)=adA (bfQ after x0 n) (after x):=by rw[bfQ,h]
theorem gX(after:PyData->List PyData)(x0:PyData)(n:Nat):bfQ after x0 n <+: bfQ after x0 (n+1):=by
 rw[bfQ]
 split
 · exact xU _ _
 · exact CB _
theorem iG{after:PyData->List PyData}{x0:PyData}{m n:Nat}(h:m<=n):bfQ after x0 m <+: bfQ after x0 n:=by
 obtain ⟨k,rfl⟩:=FG h
 clear h
 induction k with
 | zero=>exact CB _
 | succ k ih=>exact ih.trans (gX after x0 (m+k))
theorem rW(after:PyData->List PyData)(x0:PyData)(n:Nat):(bfQ after x0 n).Nodup:=by
 induction n with
 | zero=>simp[bfQ]
 | succ n ih=>
  rw[bfQ]
  split
  · exact wH _ ih
  · exact ih
theorem aJP(after:PyData->List PyData)(x0:PyData)(n:Nat):(bfQ after x0 n)[0]? = some x0:=by
 obtain ⟨t,e⟩:=iG (after:=after) (x0:=x0) (CH n)
 rw[<-e];rfl
theorem iM{α:Type}{f g:List α}{i:Nat}{x:α}(h:f <+: g)(e:f[i]? = some x):g[i]? = some x:=by
 obtain ⟨t,rfl⟩:=h
 rw[BQ (AE.mp e).1]
 exact e
theorem oG{α:Type}{f g:List α}{i:Nat}{x:α}(h:f <+: g)(hi:i < f.length)(e:g[i]? = some x):f[i]? = some x:=by
 obtain ⟨t,rfl⟩:=h
 rwa [BQ hi] at e
noncomputable def kE(after:PyData->List PyData)(fs:List PyData)(x:PyData):PyData:=iF ((after x).map (nrQ fs))
noncomputable def bP(after:PyData->List PyData)(fs:List PyData)(n:Nat):List PyData:=(fs.take n).map (kE after fs)
structure Sq.ok(S:Sq)(N:Nat):Prop where
 on:∀ m,m < N->m < (bfQ S.after S.x0 m).length/\S.stop (bfQ S.after S.x0 m) m=false
 off:(bfQ S.after S.x0 N).length<=N\/S.stop (bfQ S.after S.x0 N) N=true
 key:(∀ x∈bfQ S.after S.x0 N,iR x=true)\/(∀ x∈bfQ S.after S.x0 N,oM x=true)
 len:(bfQ S.after S.x0 N).length<=16000000
 hk1:S.k1<=12
 hk2:S.k2<=12
 hG:∀ m x,m < N->(bfQ S.after S.x0 N)[m]? = some x->(∃ d,S.G [x]=.ok d/\bV d=.ok (S.after x))/\(S.after x).length<=1000
 hD:∀ m,m<=N->m < (bfQ S.after S.x0 m).length->S.D [.list (bfQ S.after S.x0 m),.int (m:Int)]=.ok (.bool (S.stop (bfQ S.after S.x0 m) m))
theorem aKW{B:List PyData}(h:(∀ x∈B,iR x=true)\/(∀ x∈B,oM x=true)){y:PyData}{fs:List PyData}(hy:y∈B)(hf:∀ x∈fs,x∈B):cF y ((gW fs).map (·.1))=true:=by
 unfold cF
 rw[qK,DK,AU,AU,BT,BT]
 exact h.imp (fun h=>⟨h y hy,fun x hx=>h x (hf x hx)⟩) (fun h=>⟨h y hy,fun x hx=>h x (hf x hx)⟩)
noncomputable def rqρ(S:Sq)(fs:List PyData)(gs:List PyData)(u v:Option A):Sg:=[some (.d S.x0),some (.g S.k1 1 S.G),some (.g S.k2 2 S.D),some (.l fs),some (.m (gW fs)),some (.l gs),u,v]
theorem aQM{S:Sq}{B fs ys gs:List PyData}{v:Option A}(hB:(∀ x∈B,iR x=true)\/(∀ x∈B,oM x=true))(hl:B.length<=16000000)(nd:fs.Nodup)(hp:adA fs ys <+: B)(hy:ys.length<=1000) :
  ∃ v',lJ (stN 7) rhF ys (rqρ S fs gs (some (.l [])) v)=.ok (.nx (rqρ S (adA fs ys) gs (some (.l ((ys.map (nrQ (adA fs ys))).map fun j:Nat=>.int (j:Int)))) v')):=by
 obtain ⟨ρ',q1,v',q2⟩:=iL (fs:=stN 7) (fb:=rhF) (d:=id) (xs:=ys) (ρ:=rqρ S fs gs (some (.l [])) v)
  (fun i ρ=>∃ v',ρ=rqρ S (adA fs (ys.take i)) gs (some (.l (((ys.take i).map (nrQ (adA fs (ys.take i)))).map fun j:Nat=>.int (j:Int)))) v') ⟨v,rfl⟩ fun i y ρ hi zz0=>by
  obtain ⟨v',e⟩:=zz0
  have ht:ys.take (i+1)=ys.take i++[y]:=by rw[D8,hi];rfl
  have hil:=(AE.mp hi).1
  have hpi:adA fs (ys.take (i+1)) <+: B:=by
   refine List.IsPrefix.trans ?_ hp
   have:adA fs ys=adA (adA fs (ys.take (i+1))) (ys.drop (i+1)):=by
    unfold adA;rw[<-List.foldl_append,GT]
   rw[this];exact xU _ _
  have nd1:(adA fs (ys.take i)).Nodup:=wH _ nd
  have nd2:(adA fs (ys.take (i+1))).Nodup:=wH _ nd
  have hm2:∀ x∈ys.take (i+1),x∈adA fs (ys.take (i+1)):=fun x hx=>m7 _ hx
  rw[ht] at hpi nd2 hm2
  rw[ht,aJO] at *
  generalize hF:adA fs (ys.take i)=F at *
  have hyB:y∈B:=hpi.subset (s9 F y)
  have hFB:∀ x∈F,x∈B:=fun x hx=>hpi.subset ((pG F y).subset hx)
  have hlen:F.length < 16777216:=by
   have h1:=hpi.length_le
   have h2:=(pG F y).length_le
   omega
  have s1:=aKW hB hyB hFB
  have s2:=aKW hB hyB (fs:=adQ F y) (fun x hx=>hpi.subset hx)
  have g2:=aDU nd2 (s9 F y)
  have hil2:(gW F).length<=16777216:=by rw[aDR];omega
  have hmF:∀ x∈ys.take i,x∈F:=fun x hx=>by rw[<-hF];exact m7 _ hx
  have hrow:(ys.take i++[y]).map (nrQ (adQ F y))=(ys.take i).map (nrQ F)++[nrQ (adQ F y) y]:=by
   rw[A7,DX]
   congr 1
   exact BZ fun x hx=>pH (pG F y) (hmF x hx)
  have htl:(ys.take i).length < 16777216:=by rw[BB];omega
  rw[hrow]
  refine ⟨rqρ S F gs (some (.l (((ys.take i).map (nrQ F)).map fun j:Nat=>.int (j:Int)))) (some (.d y)),_,by rw[e];simp[rqρ],.inl ?_,some (.d y),rfl⟩
  have hl3:dLen (.list F)=.ok (.int (F.length:Int)):=f7 _
  have htl2:min i ys.length < 16777216:=by rw[BB] at htl;exact htl
  by_cases hm:y∈F
  ·have a1:=xT.mpr hm
   rw[nS hm] at s2 g2 ⊢
   simp[rhF,rqρ,s1,a1,g2,htl2]
  ·have a1:=uO hm
   have a2:=aDS hm
   rw[kP hm] at s2 g2 ⊢
   simp[rhF,rqρ,s1,s2,a1,a2,g2,hl3,hil2,hlen,htl2]
 rw[List.map_id] at q1
 rw[List.take_length] at q2
 exact ⟨v',by rw[q1,q2]⟩
theorem Sq.ok.le{S:Sq}{N:Nat}(O:S.ok N){m:Nat}(h:m<=N):bfQ S.after S.x0 m <+: bfQ S.after S.x0 N:=iG h
theorem aDV{S:Sq}{N m:Nat}(O:S.ok N)(h:m<=N){gs:List PyData}(hg:gs.length=m){u v:Option A}:rhT (rqρ S (bfQ S.after S.x0 m) gs u v)=.ok (decide (m < N)):=by
 have k2:=O.hk2
 subst hg
 by_cases hl:gs.length < (bfQ S.after S.x0 gs.length).length
 ·have hd:=O.hD _ h hl
  have hs:S.stop (bfQ S.after S.x0 gs.length) gs.length = !decide (gs.length < N):=by
   by_cases q:gs.length < N
   ·rw[(O.on _ q).2,AY q];rfl
   ·have e:gs.length=N:=by omega
    rcases O.off with z|z
    · rw [e] at hl; omega
    · rw [AZ q, e]; exact z
  rw[hs] at hd
  simp[rhT,rqρ,f7,hl,k2,hd,sT]
 ·have:¬ gs.length < N:=fun q=>hl (O.on _ q).1
  simp[rhT,rqρ,f7,hl,this]
theorem aM1{S:Sq}{N m:Nat}(O:S.ok N)(h:m < N){gs:List PyData}(hg:gs.length=m){u v:Option A}:∃ x u' v',(bfQ S.after S.x0 m)[m]? = some x/\rhB (rqρ S (bfQ S.after S.x0 m) gs u v)=.ok (.nx (rqρ S (bfQ S.after S.x0 (m+1)) (gs++[kE S.after (bfQ S.after S.x0 (m+1)) x]) u' v')):=by
 have hlt:=(O.on m h).1
 have hx:(bfQ S.after S.x0 m)[m]? = some (bfQ S.after S.x0 m)[m]:=AI hlt
 generalize (bfQ S.after S.x0 m)[m]=x at hx
 have k1:=O.hk1
 obtain ⟨⟨d,g1,g2⟩,g3⟩:=O.hG m x h (iM (O.le (by omega)) hx)
 have e:=lQ hx
 have hp:adA (bfQ S.after S.x0 m) (S.after x) <+: bfQ S.after S.x0 N:=by rw[<-e];exact O.le (by omega)
 obtain ⟨v',q⟩:=aQM (S:=S) (gs:=gs) (v:=v) O.key O.len (rW S.after S.x0 m) hp g3
 rw[<-e] at q
 have ix:dIx (.list (bfQ S.after S.x0 m)) (.int (m:Int))=.ok x:=lU (hJ hx)
 have hml:gs.length < 16777216:=by have:=(O.le (show m<=N by omega)).length_le;have:=O.len;omega
 have hyl:(S.after x).length<=16777216:=by omega
 refine ⟨x,some (.l (((S.after x).map (nrQ (bfQ S.after S.x0 (m+1)))).map fun j:Nat=>.int (j:Int))),v',hx,?_⟩
 subst hg
 simp only[rqρ] at q
 simp[rhB,rqρ,f7,ix,k1,g1,g2,q,hml,kE,iF,hyl]
theorem aM2{S:Sq}{N:Nat}(O:S.ok N):∀ (k m:Nat) (u v:Option A),m+k=N->
  ∃ u' v',bM rhT rhB (rqρ S (bfQ S.after S.x0 m) (bP S.after (bfQ S.after S.x0 m) m) u v)=.ok (.nx (rqρ S (bfQ S.after S.x0 N) (bP S.after (bfQ S.after S.x0 N) N) u' v')):=by
 have hrl:∀ m,m<=N->(∀ m',m' < m->m' < (bfQ S.after S.x0 m').length)->m<=(bfQ S.after S.x0 m).length:=fun m hm h=>by
  cases m with
  | zero=>omega
  | succ m=>have h1:=h m (by omega);have h2:=(gX S.after S.x0 m).length_le;omega
 intro k
 induction k with
 | zero=>
  intro m u v hm
  have hm:m=N:=by omega
  subst hm
  have hle:=hrl m (by omega) fun m' h=>(O.on m' h).1
  have hg:(bP S.after (bfQ S.after S.x0 m) m).length=m:=by unfold bP;rw[AB,BB];omega
  rw[eQ (by rw[aDV O (AK m) hg,AZ (by omega)])]
  exact ⟨u,v,rfl⟩
 | succ k ih=>
  intro m u v hm
  have hlt:m < N:=by omega
  have hle:=hrl m (by omega) fun m' h=>(O.on m' (by omega)).1
  have hg:(bP S.after (bfQ S.after S.x0 m) m).length=m:=by unfold bP;rw[AB,BB];omega
  obtain ⟨x,u',v',hx,q⟩:=aM1 O hlt hg (u:=u) (v:=v)
  rw[gN (by rw[aDV O (by omega) hg,AY hlt]) q]
  have e:bP S.after (bfQ S.after S.x0 m) m++[kE S.after (bfQ S.after S.x0 (m+1)) x]=bP S.after (bfQ S.after S.x0 (m+1)) (m+1):=by
   unfold bP
   have ht:(bfQ S.after S.x0 (m+1)).take (m+1)=(bfQ S.after S.x0 m).take m++[x]:=by
    obtain ⟨t,et⟩:=gX S.after S.x0 m
    have hml:=(AE.mp hx).1
    rw[<-et,FB (by omega),D8,hx];rfl
   rw[ht,A7,DX]
   congr 1
   refine BZ fun y hy=>?_
   unfold kE
   congr 1
   refine BZ fun z hz=>?_
   obtain ⟨j,hj⟩:=C8 hy
   have hjl:j < m:=by
    have:=(AE.mp hj).1
    rw[BB] at this;omega
   rw[FJ,AG hjl] at hj
   refine (pH (gX S.after S.x0 m) ?_).symm
   have hj2:(bfQ S.after S.x0 j)[j]? = some y:=oG (O.le (by omega)) ((O.on j (by omega)).1) (iM (O.le (by omega)) hj)
   have:=m7 (fs:=bfQ S.after S.x0 j) _ hz
   rw[<-lQ hj2] at this
   exact (iG (by omega)).subset this
  rw[e]
  exact ih (m+1) u' v' (by omega)
theorem aQN{S:Sq}{N:Nat}(O:S.ok N):gK [.d S.x0,.g S.k1 1 S.G,.g S.k2 2 S.D]=.ok (.d (.tuple [.list (bfQ S.after S.x0 N),.list (bP S.after (bfQ S.after S.x0 N) N)])):=by
 obtain ⟨u,v,q⟩:=aM2 O N 0 none none (by omega)
 have h0:=AL (aJP S.after S.x0 N)
 have hs:cF S.x0 []=true:=by
  unfold cF
  rw[DK,AU,AU]
  exact O.key.imp (fun h=>⟨h _ h0,rfl⟩) (fun h=>⟨h _ h0,rfl⟩)
 have hi:gW [S.x0]=[(S.x0,.int 0)]:=rfl
 have hp:Fl.iC [] [(S.x0,.int 0)]=.ok [(S.x0,.int 0)]:=by simp[Fl.iC,hs,putM,cI,eK]
 unfold gK
 rw[aQL]
 simp only[rqρ,bfQ,bP,List.take_zero,hi,B0] at q
 simp[hp,q,bP]
end Mc
namespace Fl
open PySem L2 PyProof.Rows
@[simp] theorem aJQ(i:Nat)(f g:Sg->R PyData)(ρ:Sg):zQ i f g ρ=match ρ[i]? with
 | some (some (.m kvs))=>(f ρ).bind fun k=>(g ρ).bind fun y=>if cF k (kvs.map (·.1))=true/\kvs.length<=16777216 then .ok (.nx (if cI kvs k=true then ρ else ρ.set i (some (.m (putM kvs k y))))) else .bad
 | _=>.bad:=id rfl
@[simp] theorem aM3(i:Nat)(ρ:Sg):aE6 i ρ=match ρ[i]? with
 | some (some (.l xs))=>.ok (.nx (ρ.set i (some (.l xs.reverse))))
 | _=>.bad:=id rfl
theorem aJR{x:PyData}{xs:List PyData}(h:bV x=.ok xs):v3 x=.ok (xs.zipIdx.map aBB):=by
 unfold v3;rw[h];rfl
end Fl
namespace Mc
open PySem L2 PyProof.Rows Fl
mutual
def nbD:PyData->Bool
 | .bool _=>false
 | .dict _=>false
 | .list xs=>aJS xs
 | .tuple xs=>aJS xs
 | _=>true
def aJS:List PyData->Bool
 | []=>true
 | x::t=>nbD x && aJS t
end
mutual
theorem aBW:∀ d:PyData,d.canLay0=true->d.eqv d=true
 | .none,_=>by rfl
 | .bool b,_=>by simp[PyData.eqv]
 | .int i,_=>by simp[PyData.eqv]
 | .str x,_=>by simp[PyData.eqv]
 | .list xs,h=>by
  show PyData.eqvAll xs xs=true
  exact xV xs h
 | .tuple xs,h=>by
  show PyData.eqvAll xs xs=true
  exact xV xs h
 | .dict _,h=>by cases h
theorem xV:∀ xs:List PyData,PyData.canLayAll0 xs=true->PyData.eqvAll xs xs=true
 | [],_=>by rfl
 | x::t,h=>by
  have h':(x.canLay0 && PyData.canLayAll0 t)=true:=h
  rw[AU] at h'
  show (x.eqv x && PyData.eqvAll t t)=true
  rw[aBW x h'.1,xV t h'.2];rfl
end
theorem aHM{d:PyData}(h:SeqAt.shaped d=true):d.canLay0=true:=by
 have h':(d.canLay0 && decide (d.depth<=64))=true:=h
 rw[AU] at h'
 exact h'.1
structure Cp(d:PyData):Prop where
 nb:nbD d=true
 sh:SeqAt.shaped d=true
theorem aQO{x:PyData}(h:SeqAt.shaped x=true):dEq x x=.ok (.bool true):=by rw[aHB h h,aBW x (aHM h)]
theorem aBX{x:PyData}(h:SeqAt.shaped x=true):dNe x x=.ok (.bool false):=by rw[aBL h h,aBW x (aHM h)];rfl
noncomputable def wρ(rs:List Rw)(f:Tn)(bk:List Tn)(t:Tn)(ps:List Int)(u:Option A):Sg:=[some (.d (bE rs)),some (.d (iE f bk)),some (.d t.d),some (.m (been PyData.int ps)),u]
theorem aJT{rs:List Rw}{f:Tn}{bk:List Tn}{x:Str}{ps:List Int}{u:Option A}:wT (wρ rs f bk (.w x) ps u)=.ok false:=by
 simp[wT,wρ,Tn.d,xQ]
theorem aJU{rs:List Rw}{f:Tn}{bk:List Tn}{q:Int}{ps:List Int}{u:Option A}:wT (wρ rs f bk (.n q) ps u)=.ok true:=by
 simp[wT,wρ,Tn.d,xP]
theorem aQP{rs:List Rw}{f:Tn}{bk:List Tn}{q:Int}{ps:List Int}{u:Option A}(h:q∈ps):wB (wρ rs f bk (.n q) ps u)=.ok (.rt (.d (.str "ever"))):=by
 have h1:=jO ps q
 have h2:=(nQ gE).mpr h
 simp[wB,wρ,Tn.d,h1,h2]
theorem aTE{rs:List Rw}{f:Tn}{bk:List Tn}{q:Int}{ps:List Int}{u:Option A}{x:Str}(h:q∉ps)(rv:dC rs q)(hp:ps.length<=16777216)(e:(aW rs q).r=.w x):wB (wρ rs f bk (.n q) ps u)=.ok (.nx (wρ rs f bk (.w x) (ps++[q]) (some (.d (.str x))))):=by
 have h1:=jO ps q
 have h2:=iH gE h
 have h3:=lM gE h
 have h4:(been PyData.int ps).length<=16777216:=by rw[jB];exact hp
 have hr:=pF rv.1 rv.2
 simp[wB,wρ,Tn.d,h1,h2,h3,h4,hr,dE,e,xQ]
theorem aTF{rs:List Rw}{f:Tn}{bk:List Tn}{q q':Int}{ps:List Int}{u:Option A}(h:q∉ps)(rv:dC rs q)(hp:ps.length<=16777216)(e:(aW rs q).r=.n q')(h0:0<=q')(hl:q' < (bk.length:Int)):wB (wρ rs f bk (.n q) ps u)=.ok (.nx (wρ rs f bk (bkF bk q') (ps++[q]) (some (.d (.int q'))))):=by
 have h1:=jO ps q
 have h2:=iH gE h
 have h3:=lM gE h
 have h4:(been PyData.int ps).length<=16777216:=by rw[jB];exact hp
 have hr:=pF rv.1 rv.2
 have hb:=aKT h0 hl
 simp[wB,wρ,Tn.d,h1,h2,h3,h4,hr,dE,e,xP,iE,hb]
theorem qL{rs:List Rw}{sg:Nat}(M:Mach rs sg){q q':Int}(rv:dC rs q)(e:(aW rs q).r=.n q'):0<=q'/\q' < (rs.length:Int):=by
 have hr:=AL (eG rv.1 rv.2)
 have:=(M.row _ hr).1.2.1
 rw[e] at this
 exact this
theorem aM4{rs:List Rw}{sg:Nat}{f:Tn}{bk:List Tn}(M:Mach rs sg)(hb:bk.length=rs.length)(hv:∀ t∈bk,tnV rs.length t){q0:Int}:∀ (n:Nat) (ps:List Int) (q:Int) (u:Option A),Und2 (fR rs (bkF bk)) q0 ps q->(∀ p∈ps,dC rs p)->dC rs q->rs.length+1<=ps.length+n->
  aL (bM wT wB) (bO (vV 2)) (wρ rs f bk (.n q) ps u)=.ok (.rt (.d (.str ((bS (fR rs (bkF bk)) q0).getD fW)))):=by
 intro n
 induction n with
 | zero=>
  intro ps q u U pv rv hn
  have:=sZ U.nd pv
  omega
 | succ n ih=>
  intro ps q u U pv rv hn
  rw[bR]
  by_cases hs:q∈ps
  ·rw[i9 aJU (aQP hs),U.met hs];rfl
  ·have hl:ps.length<=rs.length:=sZ U.nd pv
   have hp:ps.length<=16777216:=by have:=M.len2;omega
   cases e:(aW rs q).r with
   | w x=>
    have st:fR rs (bkF bk) q=some (.inr x):=by unfold fR;rw[e]
    rw[gN aJU (aTE hs rv hp e),eQ aJT,U.outs st]
    simp[wρ,Tn.d]
   | n q'=>
    obtain ⟨g1,g2⟩:=qL M rv e
    rw[gN aJU (aTF hs rv hp e g1 (by rw[hb];exact g2))]
    have gd:=sY hv q'
    cases e2:bkF bk q' with
    | w x=>
     have st:fR rs (bkF bk) q=some (.inr x):=by unfold fR;rw[e];simp only;rw[e2]
     rw[eQ aJT,U.outs st]
     simp[wρ,Tn.d]
    | n r=>
     rw[e2] at gd
     have st:fR rs (bkF bk) q=some (.inl r):=by unfold fR;rw[e];simp only;rw[e2]
     have:=ih (ps++[q]) r (some (.d (.int q'))) (U.next hs st) (fun p hp=>by
      rcases BJ.mp hp with z|z
      · exact pv p z
      · rw [AQ.mp z]; exact rv) gd (by rw [A5, BY]; omega)
     rw[bR] at this
     exact this
theorem aR5{rs:List Rw}{sg:Nat}{f:Tn}{bk:List Tn}(M:Mach rs sg)(hb:bk.length=rs.length)(hv:∀ t∈bk,tnV rs.length t)(hf:tnV rs.length f):fO [.d (bE rs),.d (iE f bk)]=.ok (.d (.str (wbR rs (bkF bk) f))):=by
 have i0:dIx (iE f bk) (.int 0)=.ok f.d:=rfl
 have key:aL (bM wT wB) (bO (vV 2)) (wρ rs f bk f [] none)=.ok (.rt (.d (.str (wbR rs (bkF bk) f)))):=by
  cases f with
  | w x=>
   rw[bR,eQ aJT]
   simp[wρ,Tn.d,wbR]
  | n q=>exact aM4 M hb hv (rs.length+1) [] q none Und2.start (fun p hp=>by simp at hp) hf (by simp)
 unfold fO
 rw[mC]
 rw[bR] at key
 simp only[wρ,been,B0] at key
 simp only[lB,bR,nO,pB,oE,jZ,jN,lA,A1,A2,i0,R.bind_ok,BG,BR,Nat.reduceAdd,AW,B0,B9,B7,List.replicate,BA,BH,key]
theorem aJV{rs:List Rw}{sg:Nat}(M:Mach rs sg){bk bk':Int->Tn}(h:∀ q,dC rs q->bk q=bk' q)(hg:∀ q,dC rs q->tnV rs.length (bk q)){t:Tn}(ht:tnV rs.length t):wbR rs bk t=wbR rs bk' t:=by
 cases t with
 | w x=>rfl
 | n q=>
  have st:∀ q,dC rs q->fR rs bk q=fR rs bk' q:=fun q rv=>by
   unfold fR
   cases e:(aW rs q).r with
   | w x=>rfl
   | n q'=>simp only;rw[h q' (qL M rv e)]
  have nx:∀ q q',dC rs q->fR rs bk q=some (.inl q')->dC rs q':=fun q q' rv e=>by
   unfold fR at e
   cases e2:(aW rs q).r with
   | w x=>rw[e2] at e;cases e
   | n r=>
    rw[e2] at e
    simp only at e
    have gd:=hg _ (qL M rv e2)
    split at e
    · rename_i r' er; cases e; rw [er] at gd; exact gd
    · cases e
  have a1:∀ n q o,dC rs q->Ex (fR rs bk) n q o->Ex (fR rs bk') n q o:=by
   intro n q o rv hx
   induction hx with
   | @out q o e=>exact .out (by rw[<-st q rv];exact e)
   | @go q q' o n e t ih=>exact .go (by rw[<-st q rv];exact e) (ih (nx q q' rv e))
  have a2:∀ n q o,dC rs q->Ex (fR rs bk') n q o->Ex (fR rs bk) n q o:=by
   intro n q o rv hx
   induction hx with
   | @out q o e=>exact .out (by rw[st q rv];exact e)
   | @go q q' o n e t ih=>
    have e':fR rs bk q=some (.inl q'):=by rw[st q rv];exact e
    exact .go e' (ih (nx q q' rv e'))
  show (bS (fR rs bk) q).getD fW=(bS (fR rs bk') q).getD fW
  rw[tT (st:=fR rs bk) (st':=fR rs bk') (s:=q) (s':=q) fun o=>⟨fun ⟨n,x⟩=>⟨n,a1 n q o ht x⟩,fun ⟨n,x⟩=>⟨n,a2 n q o ht x⟩⟩]
theorem aTG{rs:List Rw}{sg:Nat}{z:List Nat}(M:Mach rs sg)(S:bU sg z):fO [.d (bE rs),.d (aP rs z)]=.ok (.d (.str (iY rs z))):=by
 have hl:((List.range rs.length).map fun q:Nat=>begB rs z (q:Int)).length=rs.length:=by simp
 have hv:∀ t∈(List.range rs.length).map fun q:Nat=>begB rs z (q:Int),tnV rs.length t:=fun t ht=>by
  obtain ⟨q,hq,rfl⟩:=A0.mp ht
  exact lP M S (wG (BS.mp hq))
 unfold aP
 rw[aR5 M hl hv (lP M S (qI M z)),aJV M (fun q rv=>xR rv) (fun q rv=>sY hv q) (lP M S (qI M z)),<-aJI M S]
 rfl
theorem aHN{rs:List Rw}{sg:Nat}{z:List Nat}(M:Mach rs sg)(S:bU sg z){s:Int×Int}(V:lD rs z s):(dQ rs z s).ok:=by
 have hev:(Tn.w fW).ok:=by show PyData.strOk fW=true;decide +kernel
 unfold dQ
 cases e:bS (cL rs z) s with
 | none=>exact hev
 | some t=>
  obtain ⟨n,h⟩:=f8 e
  show t.ok
  clear e
  induction h with
  | @out s o h=>
   unfold cL at h
   rcases beg_cell M S V with ⟨x,e,h0⟩|⟨q,e,rv,h1,h2⟩
   ·rw[e] at h
    cases h
    have hr:=AL (eG V.2.2.1 V.2.2.2)
    have:=((M.row _ hr).1.ok).1
    unfold bJ at e
    rw[AG h0] at e
    simp only at e
    rw[e] at this
    exact this
   ·rw[e] at h
    simp only at h
    split at h
    · cases h
    · cases h; exact trivial
  | @go s s' o n h t ih=>
   refine ih ?_
   unfold cL at h
   rcases beg_cell M S V with ⟨x,e,h0⟩|⟨q,e,rv,h1,h2⟩
   ·rw[e] at h;cases h
   ·rw[e] at h
    simp only at h
    split at h
    · rename_i h3; cases h; exact ⟨h1, h3, rv⟩
    · cases h
theorem aM5{rs:List Rw}{sg:Nat}{z:List Nat}(M:Mach rs sg)(S:bU sg z):(dQ rs z (0,0)).ok/\∀ t∈(List.range rs.length).map fun q:Nat=>begB rs z (q:Int),t.ok:=⟨aHN M S (qI M z),fun t ht=>by
 obtain ⟨q,hq,rfl⟩:=A0.mp ht
 exact aHN M S (wG (BS.mp hq))⟩
theorem uP:∀ {xs:List PyData},(∀ x∈xs,fU x=true)->eU xs=true
 | [],_=>rfl
 | x::t,h=>by
  show (fU x && eU t)=true
  rw[h x (AV ..),uP fun y hy=>h y (AN _ hy)];rfl
theorem aHO{t:Tn}(h:t.ok):fU t.d=true:=by
 cases t with
 | n i=>rfl
 | w x=>exact h
theorem aM6{f:Tn}{bk:List Tn}(hf:f.ok)(hb:∀ t∈bk,t.ok):iR (iE f bk)=true:=by
 have h1:fU (iE f bk)=true:=by
  show eU [f.d,.tuple (bk.map Tn.d)]=true
  refine uP fun x hx=>?_
  rcases AS.mp hx with z|hx
  ·rw[z];exact aHO hf
  ·rw[AQ.mp hx]
   show eU (bk.map Tn.d)=true
   refine uP fun x hx=>?_
   obtain ⟨c,hc,rfl⟩:=A0.mp hx
   exact aHO (hb c hc)
 have h2:Sh 3 (iE f bk):=by
  refine sh_tup fun x hx=>?_
  rcases AS.mp hx with z|hx
  ·rw[z];exact aKC _ hf
  ·rw[AQ.mp hx]
   refine sh_tup fun x hx=>?_
   obtain ⟨c,hc,rfl⟩:=A0.mp hx
   exact aKC _ (hb c hc)
 show (fU (iE f bk) && decide ((iE f bk).depth<=8))=true
 rw[h1,AY (BI h2.2 (by decide))];rfl
noncomputable def aE9(rs:List Rw)(x:PyData)(k:Nat):PyData:=match iK [.d x,.d (f9 rs k)] with
 | .ok (.d y)=>y
 | _=>.none
theorem aDW{rs:List Rw}{sg k:Nat}{z:List Nat}(M:Mach rs sg)(S:bU sg z)(hk:k < sg):aE9 rs (aP rs z) k=aP rs (z++[97+k]):=by
 have:=aBS M S (c:=97+k) (by unfold eO;exact AY (by omega))
 rw[show 97+k - 97=k by omega] at this
 unfold aE9
 rw[this]
theorem qM{sg k:Nat}{z:List Nat}(S:bU sg z)(hk:k < sg)(hl:z.length < 1000):bU sg (z++[97+k]):=⟨by simp;omega,fun c hc=>by
 rcases BJ.mp hc with h|h
 · exact S.2 c h
 · rw [AQ.mp h]; unfold eO; exact AY (by omega)⟩
def tnB(m:Nat):Tn->Prop
 | .n i=>0<=i/\i < (m:Int)
 | .w x=>x="by"\/x="out"\/x="ever"
theorem aDX{rs:List Rw}{sg:Nat}{z:List Nat}(M:Mach rs sg)(S:bU sg z){s:Int×Int}(V:lD rs z s):tnB rs.length (dQ rs z s):=by
 unfold dQ
 cases e:bS (cL rs z) s with
 | none=>exact .inr (.inr rfl)
 | some t=>
  obtain ⟨n,h⟩:=f8 e
  show tnB rs.length t
  clear e
  induction h with
  | @out s o h=>
   unfold cL at h
   rcases beg_cell M S V with ⟨x,e,h0⟩|⟨q,e,rv,h1,h2⟩
   ·rw[e] at h
    cases h
    have hr:=AL (eG V.2.2.1 V.2.2.2)
    have:=(M.row _ hr).1.1
    unfold bJ at e
    rw[AG h0] at e
    simp only at e
    rw[e] at this
    rcases this with h|h
    · exact .inl h
    · exact .inr (.inl h)
   ·rw[e] at h
    simp only at h
    split at h
    · cases h
    · cases h; exact rv
  | @go s s' o n h t ih=>
   refine ih ?_
   unfold cL at h
   rcases beg_cell M S V with ⟨x,e,h0⟩|⟨q,e,rv,h1,h2⟩
   ·rw[e] at h;cases h
   ·rw[e] at h
    simp only at h
    split at h
    · rename_i h3; cases h; exact ⟨h1, h3, rv⟩
    · cases h
def tc(m:Nat):Tn->Nat
 | .n i=>i.toNat
 | .w x=>if x="by" then m else if x="out" then m+1 else m+2
theorem zR{m:Nat}{t:Tn}(h:tnB m t):tc m t < m+3:=by
 cases t with
 | n i=>have:0<=i/\i < (m:Int):=h;show i.toNat < _;omega
 | w x=>show (if x="by" then m else if x="out" then m+1 else m+2) < _;split<;>(try split)<;>omega
theorem aHP{m:Nat}{t u:Tn}(h:tnB m t)(h':tnB m u)(e:tc m t=tc m u):t=u:=by
 have hby:("by":Str)≠"out":=by decide +kernel
 have h1:("ever":Str)≠"by":=by decide +kernel
 have h2:("ever":Str)≠"out":=by decide +kernel
 cases t with
 | n i=>
  have a:0<=i/\i < (m:Int):=h
  cases u with
  | n j=>
   have b:0<=j/\j < (m:Int):=h'
   have e:i.toNat=j.toNat:=e
   rw[show i=j by omega]
  | w x=>
   have e:i.toNat=(if x="by" then m else if x="out" then m+1 else m+2):=e
   split at e<;>(try split at e)<;>omega
 | w x=>
  cases u with
  | n j=>
   have b:0<=j/\j < (m:Int):=h'
   have e:(if x="by" then m else if x="out" then m+1 else m+2)=j.toNat:=e
   split at e<;>(try split at e)<;>omega
  | w y=>
   have e:(if x="by" then m else if x="out" then m+1 else m+2)=(if y="by" then m else if y="out" then m+1 else m+2):=e
   rcases h with rfl|rfl|rfl<;>rcases h' with rfl|rfl|rfl<;>first|rfl|(simp[hby,hby.symm,h1,h1.symm,h2,h2.symm] at e)
theorem aJW{rs:List Rw}{z z':List Nat}(h1:dQ rs z (0,0)=dQ rs z' (0,0))(h2:∀ q:Nat,q < rs.length->begB rs z (q:Int)=begB rs z' (q:Int)):aP rs z=aP rs z':=by
 unfold aP
 rw[h1,BZ fun q hq=>h2 q (BS.mp hq)]
structure Ctr(rs:List Rw)(sg p q:Nat):Prop where
 len:rs.length=p+1+q
 p1:1<=p
 p5:p<=5
 q1:1<=q
 q5:q<=5
 lef:(aW rs 0).l=.n 0
 mid:(aW rs (p:Int)).l=.n ((p:Int)+1)
 a:∀ i:Nat,i < p->∀ k,k < sg->ck k (aW rs (i:Int))=((((i+(if k=0 then 1 else 0)) % p:Nat):Int),1)
 b:∀ k,k < sg->ck k (aW rs (p:Int))=((p:Int),-1)
 c:∀ j:Nat,j < q->∀ k,k < sg->ck k (aW rs ((p+1+j:Nat):Int))=(((p+1+(j+(if k=sg - 1 then 1 else 0)) % q:Nat):Int),1)
end Mc
namespace Mb
open Classical
section
variable{τ:Type}(g:τ->Nat->τ)(t0:τ)(cs:List Nat)
variable{g t0 cs}
end
end Mb
namespace Mc
open PySem L2 PyProof.Rows Fl
def stD(z:List Nat):PyData:=.str ⟨z.toArray⟩
def sgT(sg:Nat):Str:=Txt.slice "abc" none (some (sg:Int))
theorem aDY{sg:Nat}(s1:1<=sg)(s3:sg<=3):(sgT sg).cps.toList=[97,98,99].take sg:=aLL s1 s3
theorem aM7{sg:Nat}(s1:1<=sg)(s3:sg<=3):(sgT sg).cps.toList.length<=3:=by rw[aDY s1 s3,BB];simp;omega
abbrev PZ:=PyData×List Nat
noncomputable def adP(z:List Nat)(l:List PZ)(y:PyData×Nat):List PZ:=if y.1∈l.map (·.1) then l else l++[(y.1,z++[97+y.2])]
noncomputable def bfP(after:PyData->List PyData)(x0:PyData):Nat->List PZ
 | 0=>[(x0,[])]
 | n+1=>match (bfP after x0 n)[n]? with
  | some p=>(after p.1).zipIdx.foldl (adP p.2) (bfP after x0 n)
  | none=>bfP after x0 n
theorem aM8(z:List Nat)(l:List PZ)(y:PyData×Nat):(adP z l y).map (·.1)=adQ (l.map (·.1)) y.1:=by
 unfold adP adQ
 split
 · rfl
 · rw [A7]; rfl
theorem xW(z:List Nat)(l:List PZ)(y:PyData×Nat):l <+: adP z l y:=by
 unfold adP
 split
 · exact CB _
 · exact FI ..
theorem aJX(z:List Nat)(ys:List (PyData×Nat)):∀ l:List PZ,(ys.foldl (adP z) l).map (·.1)=adA (l.map (·.1)) (ys.map (·.1)):=by
 induction ys with
 | nil=>intro l;rfl
 | cons y t ih=>intro l;rw[CS,ih,aM8];rfl
theorem uQ(z:List Nat)(ys:List (PyData×Nat)):∀ l:List PZ,l <+: ys.foldl (adP z) l:=by
 induction ys with
 | nil=>exact fun l=>CB _
 | cons y t ih=>exact fun l=>(xW z l y).trans (ih _)
theorem lR(after:PyData->List PyData)(x0:PyData)(n:Nat):(bfP after x0 n).map (·.1)=bfQ after x0 n:=by
 induction n with
 | zero=>rfl
 | succ n ih=>
  have e:(bfQ after x0 n)[n]? = ((bfP after x0 n)[n]?).map (·.1):=by rw[<-ih,AJ]
  cases q:(bfP after x0 n)[n]? with
  | none=>rw[q] at e;rw[bfP,bfQ,q,e];exact ih
  | some p=>
   rw[q] at e
   rw[bfP,bfQ,q,e]
   simp only[DW]
   rw[aJX,ih]
   congr 1
   exact List.zipIdx_map_fst 0 _
theorem aJY(after:PyData->List PyData)(x0:PyData)(n:Nat):bfP after x0 n <+: bfP after x0 (n+1):=by
 rw[bfP]
 split
 · exact uQ _ _ _
 · exact CB _
theorem pI{after:PyData->List PyData}{x0:PyData}{m n:Nat}(h:m<=n):bfP after x0 m <+: bfP after x0 n:=by
 obtain ⟨k,rfl⟩:=FG h
 clear h
 induction k with
 | zero=>exact CB _
 | succ k ih=>exact ih.trans (aJY after x0 (m+k))
theorem aJZ(after:PyData->List PyData)(x0:PyData)(n:Nat):(bfP after x0 n)[0]? = some (x0,[]):=by
 obtain ⟨t,e⟩:=pI (after:=after) (x0:=x0) (CH n)
 rw[<-e];rfl
theorem m8(after:PyData->List PyData)(x0:PyData)(n:Nat):(bfP after x0 n).length=(bfQ after x0 n).length:=by rw[<-lR,AB]
theorem aBY{after:PyData->List PyData}{x0:PyData}{n:Nat}{p:PZ}(h:(bfP after x0 n)[n]? = some p):bfP after x0 (n+1)=(after p.1).zipIdx.foldl (adP p.2) (bfP after x0 n):=by rw[bfP,h]
theorem nU{kvs:List (PyData×PyData)}{k v k':PyData}(h:cI kvs k=false):eK (putM kvs k v) k'=if k'=k then some v else eK kvs k':=by
 have h':eK kvs k=none:=by
  unfold cI at h
  cases q:eK kvs k with
  | none=>rfl
  | some x=>rw[q] at h;cases h
 unfold putM
 rw[h,AH (by decide)]
 unfold eK at h' ⊢
 rw[List.find?_append]
 by_cases e:k'=k
 ·subst e
  have:kvs.find? (fun p=>decide (p.1=k'))=none:=by
   cases q:kvs.find? (fun p=>decide (p.1=k')) with
   | none=>rfl
   | some x=>rw[q] at h';cases h'
  rw[AG rfl,this]
  simp
 ·rw[AH e]
  cases q:kvs.find? (fun p=>decide (p.1=k')) with
  | none=>simp[BN e]
  | some x=>rfl
theorem aM9{kvs:List (PyData×PyData)}{k v:PyData}(h:cI kvs k=false):(putM kvs k v).length=kvs.length+1:=by
 unfold putM;rw[h,AH (by decide)];simp
theorem aBZ{kvs:List (PyData×PyData)}{k v:PyData}(h:cI kvs k=false):(putM kvs k v).map (·.1)=kvs.map (·.1)++[k]:=by
 unfold putM;rw[h,AH (by decide),A7];rfl
structure Came(L:List PZ)(D:List (PyData×PyData))(m:Nat):Prop where
 got:∀ (j:Nat) (x:PyData) (z:List Nat),1<=j->j < m->L[j]? = some (x,z)->∃ (i k:Nat) (x':PyData) (z':List Nat),eK D (.int (j:Int))=some (.tuple [.int (i:Int),.str ⟨#[97+k]⟩])/\L[i]? = some (x',z')/\i < j/\z=z'++[97+k]
 new:∀ j:Nat,m<=j->cI D (.int (j:Int))=false
 key:∀ p∈D.map (·.1),oM p=true
theorem Came.same{L:List PZ}{D:List (PyData×PyData)}{m:Nat}(C:Came L D m)(j:Int):cF (.int j) (D.map (·.1))=true:=by
 unfold cF
 rw[DK,AU,AU]
 exact .inr ⟨rfl,BT.mpr C.key⟩
theorem wI{i j:Nat}(h:i≠j):(PyData.int (i:Int))≠.int (j:Int):=fun z=>by cases z;exact h rfl
theorem Came.step{L:List PZ}{D:List (PyData×PyData)}{m i k j:Nat}{x y:PyData}{z:List Nat}(C:Came L D m)(h1:1<=m)(hm:m<=L.length)(hi:L[i]? = some (x,z))(him:i < m)(hj:j < m\/(j=m/\L[j]? = some (y,z++[97+k]))) :
  Came L (if cI D (.int (j:Int))=true then D else putM D (.int (j:Int)) (.tuple [.int (i:Int),.str ⟨#[97+k]⟩])) (if j < m then m else m+1)/\(if cI D (.int (j:Int))=true then D else putM D (.int (j:Int)) (.tuple [.int (i:Int),.str ⟨#[97+k]⟩])).length<=D.length+1:=by
 refine ⟨?_,?_⟩
 ·rcases hj with hj|⟨rfl,hj⟩
  ·rw[AG hj]
   cases q:cI D (.int (j:Int)) with
   | true=>rw[AG rfl];exact C
   | false=>
    rw[AH (by decide)]
    have hz:j=0:=by
     rcases Nat.eq_zero_or_pos j with z|z
     ·exact z
     ·obtain ⟨i',k',x',z',g,_⟩:=C.got j _ _ z hj (AI (show j < L.length by omega))
      unfold cI at q
      rw[g] at q;cases q
    subst hz
    refine ⟨fun j' x' z' a b e=>?_,fun j' hj'=>?_,fun p hp=>?_⟩
    ·obtain ⟨i',k',x2,z2,g,r⟩:=C.got j' x' z' a b e
     exact ⟨i',k',x2,z2,by rw[nU q,AH (wI (by omega))];exact g,r⟩
    ·have:=C.new j' hj'
     unfold cI at this ⊢
     rw[nU q,AH (wI (by omega))];exact this
    ·rw[aBZ q] at hp
     rcases BJ.mp hp with h|h
     ·exact C.key p h
     ·rw[AQ.mp h];rfl
  ·have q:=C.new j (AK _)
   rw[q,AH (by decide),AH (show ¬ j < j by omega)]
   refine ⟨fun j' x' z' a b e=>?_,fun j' hj'=>?_,fun p hp=>?_⟩
   ·by_cases hjj:j'=j
    ·subst hjj
     rw[hj] at e
     cases e
     exact ⟨i,k,x,z,by rw[nU q,AG rfl],hi,him,rfl⟩
    ·obtain ⟨i',k',x2,z2,g,r⟩:=C.got j' x' z' a (by omega) e
     exact ⟨i',k',x2,z2,by rw[nU q,AH (wI hjj)];exact g,r⟩
   ·have:=C.new j' (by omega)
    unfold cI at this ⊢
    rw[nU q,AH (wI (by omega))];exact this
   ·rw[aBZ q] at hp
    rcases BJ.mp hp with h|h
    ·exact C.key p h
    ·rw[AQ.mp h];rfl
 ·cases q:cI D (.int (j:Int)) with
  | true=>rw[AG rfl];omega
  | false=>rw[AH (by decide),aM9 q];omega
theorem aNA:∀ {js:List Nat},js.length<=3->aA8 (.str "abc") (iF js)=.ok (js.zipIdx.map fun p=>.tuple [.str ⟨#[97+p.2]⟩,.int (p.1:Int)])
 | [],_=>rfl
 | [_],_=>rfl
 | [_,_],_=>rfl
 | [_,_,_],_=>rfl
 | _::_::_::_::_,h=>by simp at h
section
variable{after:PyData->List PyData}{x0:PyData}{N:Nat}
theorem aQQ{i:Nat}{x:PyData}{z:List Nat}{D:List (PyData×PyData)}{a b u v w:Option A}(hi:(bfP after x0 i)[i]? = some (x,z))(hiN:i < N)(h3:(after x).length<=3)(C:Came (bfP after x0 N) D (bfP after x0 i).length)(hD:D.length<=1000000) :
  ∃ D' u' v',lJ (stT [(stN 5),(stN 6)]) stF (((after x).map (nrQ (bfQ after x0 N))).zipIdx.map fun p=>.tuple [.str ⟨#[97+p.2]⟩,.int (p.1:Int)]) [a,b,some (.m D),some (.d (.int (i:Int))),w,u,v,none]=.ok (.nx [a,b,some (.m D'),some (.d (.int (i:Int))),w,u',v',none])/\Came (bfP after x0 N) D' (bfP after x0 (i+1)).length/\D'.length<=D.length+3:=by
 have ei:=aBY hi
 have hil:=(AE.mp hi).1
 have hiN':(bfP after x0 N)[i]? = some (x,z):=iM (pI (by omega)) hi
 obtain ⟨ρ',q1,D',u',v',q2,C',hD'⟩:=iL (fs:=stT [(stN 5),(stN 6)]) (fb:=stF) (d:=fun p:Nat×Nat=>PyData.tuple [.str ⟨#[97+p.2]⟩,.int (p.1:Int)]) (xs:=((after x).map (nrQ (bfQ after x0 N))).zipIdx) (ρ:=[a,b,some (.m D),some (.d (.int (i:Int))),w,u,v,none])
  (fun k ρ=>∃ D' u' v',ρ=[a,b,some (.m D'),some (.d (.int (i:Int))),w,u',v',none]/\Came (bfP after x0 N) D' (((after x).zipIdx.take k).foldl (adP z) (bfP after x0 i)).length/\D'.length<=D.length+k) ⟨D,u,v,rfl,C,by omega⟩ fun k p ρ hp zz0=>by
  obtain ⟨D',u',v',e,C',hD'⟩:=zz0
  obtain ⟨jn,kk⟩:=p
  rw[C6] at hp
  obtain ⟨hkl,y,hy,hjn,hkk⟩:k < (after x).length/\∃ y,(after x)[k]? = some y/\nrQ (bfQ after x0 N) y=jn/\k=kk:=by
   cases q:(after x)[k]? with
   | none=>rw[AJ,q] at hp;cases hp
   | some y=>
    rw[AJ,q] at hp
    simp only[DW,GH,FW,Prod.mk.injEq] at hp
    exact ⟨(AE.mp q).1,y,rfl,hp.1,hp.2⟩
  subst hjn hkk
  have hz:(after x).zipIdx[k]? = some (y,k):=by rw[C6,hy];simp
  have ht:(after x).zipIdx.take (k+1)=(after x).zipIdx.take k++[(y,k)]:=by rw[D8,hz];rfl
  have hpre:((after x).zipIdx.take (k+1)).foldl (adP z) (bfP after x0 i) <+: bfP after x0 N:=by
   refine List.IsPrefix.trans ?_ (pI (show i+1<=N by omega))
   rw[ei]
   have:(after x).zipIdx.foldl (adP z) (bfP after x0 i)=((after x).zipIdx.drop (k+1)).foldl (adP z) (((after x).zipIdx.take (k+1)).foldl (adP z) (bfP after x0 i)):=by
    rw[<-List.foldl_append,GT]
   rw[this];exact uQ _ _ _
  rw[ht,FU,CS,List.foldl_nil] at hpre ⊢
  have hpre0:=uQ z ((after x).zipIdx.take k) (bfP after x0 i)
  generalize ((after x).zipIdx.take k).foldl (adP z) (bfP after x0 i)=F at *
  have hFi:(bfP after x0 i).length<=F.length:=hpre0.length_le
  have hFN:F.length<=(bfP after x0 N).length:=((xW z F (y,k)).trans hpre).length_le
  have hmp:(adP z F (y,k)).map (·.1) <+: bfQ after x0 N:=by rw[<-lR];exact hpre.map _
  have hFp:F.map (·.1) <+: bfQ after x0 N:=by rw[<-lR];exact ((xW z F (y,k)).trans hpre).map _
  have hj:(nrQ (bfQ after x0 N) y < F.length/\(adP z F (y,k)).length=F.length)\/((nrQ (bfQ after x0 N) y=F.length/\(bfP after x0 N)[nrQ (bfQ after x0 N) y]? = some (y,z++[97+k]))/\(adP z F (y,k)).length=F.length+1):=by
   by_cases hm:y∈F.map (·.1)
   ·refine .inl ⟨?_,by unfold adP;rw[AG hm]⟩
    rw[pH hFp hm]
    have:=ED hm
    rw[AB] at this
    exact this
   ·have ea:adP z F (y,k)=F++[(y,z++[97+k])]:=AH hm
    rw[ea] at hpre hmp
    have hl:(bfP after x0 N)[F.length]? = some (y,z++[97+k]):=iM hpre (by simp)
    have hn:nrQ (bfQ after x0 N) y=F.length:=by
     have h1:(bfQ after x0 N)[F.length]? = some y:=by rw[<-lR,AJ,hl];rfl
     exact aKV (rW after x0 N) (aBV (AL h1)) h1
    exact .inr ⟨⟨hn,by rw[hn];exact hl⟩,by rw[ea];simp⟩
  obtain ⟨C2,l2⟩:=C'.step (i:=i) (k:=k) (j:=nrQ (bfQ after x0 N) y) (y:=y) (by omega) hFN hiN' (by omega) (hj.imp (·.1) (·.1))
  have hm2:(if nrQ (bfQ after x0 N) y < F.length then F.length else F.length+1)=(adP z F (y,k)).length:=by
   rcases hj with h|h
   ·rw[AG h.1,h.2]
   ·rw[AH (by omega),h.2]
  rw[hm2] at C2
  have hs:=C'.same (nrQ (bfQ after x0 N) y:Int)
  have hDl:D'.length<=16777216:=by omega
  refine ⟨[a,b,some (.m D'),some (.d (.int (i:Int))),w,some (.d (.str ⟨#[97+k]⟩)),some (.d (.int (nrQ (bfQ after x0 N) y:Int))),none],_,by rw[e];rfl,.inl ?_,_,some (.d (.str ⟨#[97+k]⟩)),some (.d (.int (nrQ (bfQ after x0 N) y:Int))),rfl,C2,by omega⟩
  simp only[stF,aJQ,A1,A2,sW,R.bind_ok,aDJ,i8,fY,BG,BR,Nat.reduceAdd,Nat.reduceLeDiff,CF,hs,hDl,and_self,BA,BH]
  cases q:cI D' (.int (nrQ (bfQ after x0 N) y:Int)) with
  | true=>simp
  | false=>simp
 subst q2
 refine ⟨D',u',v',q1,?_,?_⟩
 ·rw[ei]
  rwa [D5 (by simp)] at C'
 ·rw[DH,AB] at hD'
  omega
theorem aNB{a:PyData}{b:Option A}(hon:∀ m,m < N->m < (bfQ after x0 m).length)(h3:∀ i x,i < N->(bfQ after x0 N)[i]? = some x->(after x).length<=3)(hN:N<=100000) :
  ∃ D r s u v,lJ (stT [(stN 3),(stN 4)]) stO ((bP after (bfQ after x0 N) N).zipIdx.map aBB) [some (.d a),b,some (.m []),none,none,none,none,none]=.ok (.nx [some (.d a),b,some (.m D),r,s,u,v,none])/\Came (bfP after x0 N) D (bfP after x0 N).length:=by
 have hN0:N<=(bfQ after x0 N).length:=by
  cases N with
  | zero=>omega
  | succ n=>have a:=hon n (by omega);have b:=(gX after x0 n).length_le;omega
 have hrl:(bP after (bfQ after x0 N) N).length=N:=by unfold bP;rw[AB,BB];omega
 obtain ⟨ρ',q1,D,r,s,u,v,q2,C,_⟩:=iL (fs:=stT [(stN 3),(stN 4)]) (fb:=stO) (d:=aBB) (xs:=(bP after (bfQ after x0 N) N).zipIdx) (ρ:=[some (.d a),b,some (.m []),none,none,none,none,none])
  (fun i ρ=>∃ D r s u v,ρ=[some (.d a),b,some (.m D),r,s,u,v,none]/\Came (bfP after x0 N) D (bfP after x0 i).length/\D.length<=3 * i) ⟨[],none,none,none,none,rfl,⟨fun j x z h1 h2 _=>by simp[bfP] at h2;omega,fun j _=>rfl,fun p hp=>by simp at hp⟩,by simp⟩ fun i p ρ hp zz0=>by
  obtain ⟨D,r,s,u,v,e,C,hD⟩:=zz0
  obtain ⟨row,ii⟩:=p
  rw[C6] at hp
  have hiN:i < N:=by
   rcases Nat.lt_or_ge i N with h|h
   · exact h
   · rw [EB (by omega)] at hp; cases hp
  have hlt:=hon i hiN
  obtain ⟨⟨x,z⟩,hp0⟩:∃ p,(bfP after x0 i)[i]? = some p:=⟨_,AI (show i < (bfP after x0 i).length by rw[m8];exact hlt)⟩
  have hx:(bfQ after x0 N)[i]? = some x:=by
   have:=iM (pI (show i<=N by omega)) hp0
   rw[<-lR,AJ,this];rfl
  have hrow:(bP after (bfQ after x0 N) N)[i]? = some (kE after (bfQ after x0 N) x):=by
   unfold bP
   rw[AJ,FJ,AG hiN,hx];rfl
  rw[hrow] at hp
  simp only[DW,GH,FW,Prod.mk.injEq] at hp
  obtain ⟨rfl,rfl⟩:=hp
  have h3x:=h3 i x hiN hx
  obtain ⟨D',u',v',q,C',hD'⟩:=aQQ (N:=N) (a:=some (.d a)) (b:=b) (u:=u) (v:=v) (w:=some (.d (kE after (bfQ after x0 N) x))) hp0 hiN h3x C (by omega)
  refine ⟨[some (.d a),b,some (.m D),some (.d (.int (i:Int))),some (.d (kE after (bfQ after x0 N) x)),u,v,none],_,by rw[e];rfl,.inl ?_,D',some (.d (.int (i:Int))),some (.d (kE after (bfQ after x0 N) x)),u',v',rfl,C',by omega⟩
  have hz:aA8 (.str "abc") (kE after (bfQ after x0 N) x)=_:=aNA (js:=(after x).map (nrQ (bfQ after x0 N))) (by rw[AB];exact h3x)
  simp only[stO,pC,jZ,lA,sW,A1,A2,R.bind_ok,hz,q]
 subst q2
 rw[DH,hrl] at C
 exact ⟨D,r,s,u,v,q1,C⟩
theorem aNC{L:List PZ}{D:List (PyData×PyData)}(C:Came L D L.length)(h0:L[0]? = some (x0,[])):∀ (n j:Nat) (x:PyData) (z:List Nat) (acc:List PyData) (a r s u v:Option A),j<=n->L[j]? = some (x,z)->acc.length+j<=1000000->
  z.length<=j/\bM stQ stW [a,some (.d (.int (j:Int))),some (.m D),r,s,u,v,some (.l acc)]=.ok (.nx [a,some (.d (.int 0)),some (.m D),r,s,u,v,some (.l (acc++z.reverse.map fun c=>.str ⟨#[c]⟩))]):=by
 intro n
 induction n with
 | zero=>
  intro j x z acc a r s u v hj hL hl
  have:j=0:=by omega
  subst this
  rw[h0] at hL
  cases hL
  refine ⟨by simp,?_⟩
  rw[eQ (by simp[stQ,aBT])]
  simp
 | succ n ih=>
  intro j x z acc a r s u v hj hL hl
  rcases Nat.eq_zero_or_pos j with hz|hz
  ·subst hz
   rw[h0] at hL
   cases hL
   refine ⟨by simp,?_⟩
   rw[eQ (by simp[stQ,aBT])]
   simp
  ·obtain ⟨i,k,x',z',g,hi,hij,rfl⟩:=C.got j x z hz (AE.mp hL).1 hL
   obtain ⟨l1,w1⟩:=ih i x' z' (acc++[.str ⟨#[97+k]⟩]) a r s u v (by omega) hi (by simp;omega)
   refine ⟨by simp;omega,?_⟩
   have hs:=C.same (j:Int)
   have hne:¬ (j:Int)=0:=by omega
   have hT:stQ [a,some (.d (.int (j:Int))),some (.m D),r,s,u,v,some (.l acc)]=.ok true:=by simp[stQ,aBT,hne];omega
   have i0:dIx (.tuple [.int (i:Int),.str ⟨#[97+k]⟩]) (.int 0)=.ok (.int (i:Int)):=rfl
   have i1:dIx (.tuple [.int (i:Int),.str ⟨#[97+k]⟩]) (.int 1)=.ok (.str ⟨#[97+k]⟩):=rfl
   have hal:acc.length < 16777216:=by omega
   have hB:stW [a,some (.d (.int (j:Int))),some (.m D),r,s,u,v,some (.l acc)]=.ok (.nx [a,some (.d (.int (i:Int))),some (.m D),r,s,u,v,some (.l (acc++[.str ⟨#[97+k]⟩]))]):=by
    simp[stW,hs,g,i0,i1,hal]
   rw[gN hT hB,w1]
   simp
theorem aJ0(z:List Nat)(h:z.length<=1000000):aE0 (.str "") (.list (z.map fun c=>.str ⟨#[c]⟩))=.ok (stD z):=by
 have hst:p8 (z.map fun c=>PyData.str ⟨#[c]⟩)=some (z.map one):=by
  clear h
  induction z with
  | nil=>rfl
  | cons a t ih=>simp only[AW,p8,ih];rfl
 show (match p8 (z.map fun c=>PyData.str ⟨#[c]⟩) with|some ys=>if _ then R.ok _ else .bad|none=>.bad)=_
 rw[hst]
 simp only
 rw[AG (by rw[aLO,AB];show z.length+z.length * 0<=_;omega),aLQ];rfl
theorem aR6(hon:∀ m,m < N->m < (bfQ after x0 m).length)(h3:∀ i x,i < N->(bfQ after x0 N)[i]? = some x->(after x).length<=3)(hN:N<=100000)(hB:(bfQ after x0 N).length<=400000){j:Nat}{x:PyData}{z:List Nat}(hj:(bfP after x0 N)[j]? = some (x,z)) :
  k8 [.d (.list (bP after (bfQ after x0 N) N)),.d (.int (j:Int))]=.ok (.d (stD z)):=by
 obtain ⟨D,r,s,u,v,q,C⟩:=aNB (a:=.list (bP after (bfQ after x0 N) N)) (b:=some (.d (.int (j:Int)))) hon h3 hN
 have hjl:=(AE.mp hj).1
 rw[m8] at hjl
 obtain ⟨hz,w⟩:=aNC C (aJZ after x0 N) j j x z [] (some (.d (.list (bP after (bfQ after x0 N) N)))) r s u v (AK _) hj (by simp;omega)
 have hn:=aJR (j9 (xs:=bP after (bfQ after x0 N) N) (by unfold bP;rw[AB,BB];omega))
 have hjn:=aJ0 z (by omega)
 unfold k8
 rw[qG]
 rw[B7] at w
 simp only[lB,bR,nO,R.bind_ok,BG,BR,Nat.reduceAdd,Nat.reduceSub,AW,B0,B9,B7,List.replicate,BA,BH,pC,mR,sW,A1,A2,hn,q,j8,lL,fY,CH,CF,w,aM3,List.map_reverse,List.reverse_reverse,aMO,oE,jZ,lA,jN,hjn]
end
section
variable{after:PyData->List PyData}{x0:PyData}
theorem aJ1{n:Nat}(h:(bfQ after x0 n).length<=n):bfP after x0 (n+1)=bfP after x0 n:=by
 have:(bfP after x0 n)[n]? = none:=EB (by rw[m8];exact h)
 rw[bfP,this]
theorem uR{m:Nat}(h:(bfQ after x0 m).length<=m):∀ k,bfP after x0 (m+k)=bfP after x0 m
 | 0=>rfl
 | k+1=>by
  have ih:=uR h k
  have:(bfQ after x0 (m+k)).length<=m+k:=by rw[<-m8,ih,m8];omega
  rw[<-Nat.add_assoc,aJ1 this,ih]
theorem aFA{m n:Nat}(h:(bfQ after x0 m).length<=m):bfP after x0 n <+: bfP after x0 m:=by
 rcases Nat.le_total n m with q|q
 ·exact pI q
 ·obtain ⟨k,rfl⟩:=FG q
  rw[uR h k];exact CB _
structure Fto(after:PyData->List PyData)(x0:PyData)(wn:PyData->Bool)(k1 k2:Nat)(G Wn:List PyData->R PyData)(N:Nat):Prop where
 on:∀ m,m < N->m < (bfQ after x0 m).length/\∀ x,(bfQ after x0 m)[m]? = some x->wn x=false
 off:(bfQ after x0 N).length<=N\/∃ x,(bfQ after x0 N)[N]? = some x/\wn x=true
 key:(∀ x∈bfQ after x0 N,iR x=true)\/(∀ x∈bfQ after x0 N,oM x=true)
 len:(bfQ after x0 N).length<=100000
 hN:N<=100000
 hk1:k1<=12
 hk2:k2<=11
 hG:∀ m x,m < N->(bfQ after x0 N)[m]? = some x->(∃ d,G [x]=.ok d/\bV d=.ok (after x))/\(after x).length<=3
 hW:∀ m x,m<=N->(bfQ after x0 N)[m]? = some x->Wn [x]=.ok (.bool (wn x))
noncomputable def aTH(after:PyData->List PyData)(x0:PyData)(wn:PyData->Bool)(k1 k2:Nat)(G Wn:List PyData->R PyData):Sq where
 after:=after
 x0:=x0
 stop fs m:=match fs[m]? with
  | some x=>wn x
  | none=>false
 k1:=k1
 k2:=12
 G:=G
 D:=eM 3 fB [.g k2 1 Wn]
theorem Fto.sq{wn:PyData->Bool}{k1 k2 N:Nat}{G Wn:List PyData->R PyData}(O:Fto after x0 wn k1 k2 G Wn N):(aTH after x0 wn k1 k2 G Wn).ok N where
 on m h:=by
  obtain ⟨h1,h2⟩:=O.on m h
  refine ⟨h1,?_⟩
  show (match (bfQ after x0 m)[m]? with|some x=>wn x|none=>false)=false
  cases q:(bfQ after x0 m)[m]? with
  | none=>rfl
  | some x=>exact h2 x q
 off:=O.off.imp id fun zz0=>by
  obtain ⟨x,h1,h2⟩:=zz0
  show (match (bfQ after x0 N)[N]? with|some x=>wn x|none=>false)=true
  rw[h1];exact h2
 key:=O.key
 len:=by have:=O.len;show (bfQ after x0 N).length<=_;omega
 hk1:=O.hk1
 hk2:=by show 12<=12;omega
 hG m x hm hx:=by
  obtain ⟨h1,h2⟩:=O.hG m x hm hx
  exact ⟨h1,by show (after x).length<=1000;omega⟩
 hD m hm hl:=by
  show eM 3 fB [.g k2 1 Wn] [.list (bfQ after x0 m),.int (m:Int)]=.ok (.bool (match (bfQ after x0 m)[m]? with|some x=>wn x|none=>false))
  have hl':m < (bfQ after x0 m).length:=hl
  have hx:(bfQ after x0 m)[m]? = some (bfQ after x0 m)[m]:=AI hl'
  generalize (bfQ after x0 m)[m]=x at hx
  have hw:=O.hW m x hm (iM (iG hm) hx)
  have k2:=O.hk2
  have ix:dIx (.list (bfQ after x0 m)) (.int (m:Int))=.ok x:=lU (hJ hx)
  rw[hx]
  unfold eM fB
  simp[ix,k2,hw,dOf]
theorem F_fto{wn:PyData->Bool}{k1 k2 N:Nat}{G Wn:List PyData->R PyData}(O:Fto after x0 wn k1 k2 G Wn N) :
  ((bfQ after x0 N).length<=N/\gM [.d x0,.g k1 1 G,.g k2 1 Wn]=.ok (.d (.tuple [.list (bfQ after x0 N),.none]))) \/
  ∃ x z,(bfP after x0 N)[N]? = some (x,z)/\wn x=true/\gM [.d x0,.g k1 1 G,.g k2 1 Wn]=.ok (.d (.tuple [.list (bfQ after x0 N),stD z])):=by
 have e:=aQN O.sq
 have e:gK [.d x0,.g k1 1 G,.g 12 2 (eM 3 fB [.g k2 1 Wn])]=.ok (.d (.tuple [.list (bfQ after x0 N),.list (bP after (bfQ after x0 N) N)])):=e
 have hle:N<=(bfQ after x0 N).length:=by
  cases N with
  | zero=>omega
  | succ n=>have a:=(O.on n (by omega)).1;have b:=(gX after x0 n).length_le;omega
 have hrl:(bP after (bfQ after x0 N) N).length=N:=by unfold bP;rw[AB,BB];omega
 have i0:dIx (.tuple [.list (bfQ after x0 N),.list (bP after (bfQ after x0 N) N)]) (.int 0)=.ok (.list (bfQ after x0 N)):=rfl
 have i1:dIx (.tuple [.list (bfQ after x0 N),.list (bP after (bfQ after x0 N) N)]) (.int 1)=.ok (.list (bP after (bfQ after x0 N) N)):=rfl
 by_cases hc:(bfQ after x0 N).length<=N
 ·refine .inl ⟨hc,?_⟩
  have hq:(N:Int)=((bfQ after x0 N).length:Int):=by omega
  unfold gM mQ
  simp[jX,oO,f6,oA,e,i0,i1,f7,hrl,dX,<-hq,dOf]
 ·obtain ⟨x,hx,hw⟩:=O.off.resolve_left hc
  obtain ⟨⟨x',z⟩,hp⟩:∃ p,(bfP after x0 N)[N]? = some p:=⟨_,AI (show N < (bfP after x0 N).length by rw[m8];omega)⟩
  have hxx:x'=x:=by
   have:(bfQ after x0 N)[N]? = some x':=by rw[<-lR,AJ,hp];rfl
   rw[hx] at this;cases this;rfl
  subst hxx
  have hs:=aR6 (after:=after) (x0:=x0) (N:=N) (fun m h=>(O.on m h).1) (fun i x hi hx=>(O.hG i x hi hx).2) O.hN (by have:=O.len;omega) hp
  have hq:¬ (N:Int)=((bfQ after x0 N).length:Int):=by omega
  refine .inr ⟨x',z,hp,hw,?_⟩
  unfold gM mQ
  simp[jX,oO,f6,oA,e,i0,i1,f7,hrl,dX,hq,hs,dOf]
end
theorem aHQ{P:Nat->Prop}:∀ K:Nat,P K->∃ n,n<=K/\P n/\∀ m,m < n->¬ P m:=by
 intro K
 induction K using Nat.strongRecOn with
 | _ K ih=>
  intro h
  by_cases q:∃ m,m < K/\P m
  ·obtain ⟨m,h1,h2⟩:=q
   obtain ⟨n,a,b,c⟩:=ih m h1 h2
   exact ⟨n,by omega,b,c⟩
  ·exact ⟨K,AK _,h,fun m hm hp=>q ⟨m,hm,hp⟩⟩
def rdD(rows:List (List Nat))(ws:List PyData):PyData:=.tuple [.tuple (rows.map iF),.tuple ws]
noncomputable def afR(rows:List (List Nat)):PyData->List PyData
 | .int q=>(rows.getD q.toNat []).map fun j:Nat=>.int (j:Int)
 | _=>[]
structure Rdr(rows:List (List Nat))(sg:Nat):Prop where
 n1:1<=rows.length
 n2:rows.length<=1000
 s1:1<=sg
 s3:sg<=3
 row:∀ r∈rows,r.length=sg/\∀ j∈r,j < rows.length
section
variable{rows:List (List Nat)}{sg:Nat}
theorem Rdr.at(M:Rdr rows sg){q:Nat}(hq:q < rows.length):rows[q]? = some (rows.getD q [])/\(rows.getD q []).length=sg/\∀ j∈rows.getD q [],j < rows.length:=by
 have e:rows[q]? = some (rows.getD q []):=by rw[A3,AI hq];rfl
 exact ⟨e,M.row _ (AL e)⟩
theorem tD(q:Nat):afR rows (.int (q:Int))=(rows.getD q []).map fun j:Nat=>.int (j:Int):=by
 show (rows.getD ((q:Int)).toNat []).map _=_
 rw[show ((q:Int)).toNat=q by omega]
theorem tE(M:Rdr rows sg){n:Nat}:∀ {x:PyData},x∈bfQ (afR rows) (.int 0) n->∃ q:Nat,q < rows.length/\x=.int (q:Int):=by
 induction n with
 | zero=>intro x hx;rw[AQ.mp hx];exact ⟨0,M.n1,rfl⟩
 | succ n ih=>
  intro x hx
  rw[bfQ] at hx
  split at hx
  ·rename_i y hy
   rcases adA_mem _ hx with h|h
   ·exact ih h
   ·obtain ⟨q,hq,rfl⟩:=ih (AL hy)
    rw[tD] at h
    obtain ⟨j,hj,rfl⟩:=A0.mp h
    exact ⟨j,(M.at hq).2.2 j hj,rfl⟩
  ·exact ih hx
theorem aND:∀ {n:Nat} {xs:List PyData},xs.Nodup->(∀ x∈xs,∃ q:Nat,q < n/\x=.int (q:Int))->xs.length<=n:=by
 intro n xs nd h
 refine qY (fun x=>match x with | .int q=>q.toNat|_=>0) n xs nd (fun x hx=>?_) (fun a ha b hb e=>?_)
 ·obtain ⟨q,hq,rfl⟩:=h x hx
  show ((q:Int)).toNat < n
  omega
 ·obtain ⟨q,hq,rfl⟩:=h a ha
  obtain ⟨r,hr,rfl⟩:=h b hb
  have e':((q:Int)).toNat=((r:Int)).toNat:=e
  rw[show q=r by omega]
theorem xX(M:Rdr rows sg)(n:Nat):(bfQ (afR rows) (.int 0) n).length<=rows.length:=aND (rW _ _ n) fun x hx=>tE M hx
noncomputable def uS(rows:List (List Nat)):List PZ:=bfP (afR rows) (.int 0) rows.length
theorem aNE{ws:List PyData}(M:Rdr rows sg){q:Nat}(hq:q < rows.length):dIx (.tuple (rows.map iF)) (.int (q:Int))=.ok (iF (rows.getD q [])):=oF (hJ (by rw[AJ,(M.at hq).1];rfl))
theorem F_leadR{ws:List PyData}(M:Rdr rows sg)(room:Nat) :
  (∃ (i:Nat) (z:List Nat),(uS rows)[i]? = some (PyData.int (room:Int),z)/\k9 [.d (rdD rows ws),.d (.int (room:Int))]=.ok (.d (stD z))) \/
  ((PyData.int (room:Int))∉(uS rows).map (·.1)/\k9 [.d (rdD rows ws),.d (.int (room:Int))]=.ok (.d .none)):=by
 obtain ⟨N,hN,h2,h3⟩:=aHQ (P:=fun n=>(bfQ (afR rows) (.int 0) n).length<=n\/(bfQ (afR rows) (.int 0) n)[n]? = some (.int (room:Int))) rows.length (.inl (xX M _))
 have hl:=xX M N
 have n2:=M.n2
 have O:Fto (afR rows) (.int 0) (fun x=>decide (x=.int (room:Int))) 1 1 (eM 2 gD [.d (rdD rows ws)]) (eM 2 i7 [.d (.int (room:Int))]) N:={
  on:=fun m hm=>by
   have:=h3 m hm
   have hm1:¬ (bfQ (afR rows) (.int 0) m).length<=m:=fun z=>this (.inl z)
   exact ⟨by omega,fun x hx=>AZ fun z=>this (.inr (by rw[hx,z]))⟩
  off:=h2.imp id fun h=>⟨_,h,AY rfl⟩
  key:=.inr fun x hx=>by obtain ⟨q,_,rfl⟩:=tE M hx;rfl
  len:=by omega
  hN:=by omega
  hk1:=by decide
  hk2:=by decide
  hG:=fun m x hm hx=>by
   obtain ⟨q,hq,rfl⟩:=tE M (AL hx)
   have hr:=M.at hq
   have s3:=M.s3
   have i0:dIx (rdD rows ws) (.int 0)=.ok (.tuple (rows.map iF)):=rfl
   have i1:=aNE (ws:=ws) M hq
   refine ⟨⟨iF (rows.getD q []),?_,?_⟩,?_⟩
   ·unfold eM gD
    simp[i0,i1,dOf]
   ·rw[tD];exact qH (by rw[AB];omega)
   ·rw[tD,AB];omega
  hW:=fun m x hm hx=>by
   obtain ⟨q,hq,rfl⟩:=tE M (AL hx)
   have hd:decide ((PyData.int (q:Int))=.int (room:Int))=decide ((q:Int)=(room:Int)):=by
    by_cases h:(q:Int)=(room:Int)
    · rw [h, AY rfl, AY rfl]
    · rw [AZ h, AZ (fun z => h (by cases z; rfl))]
   rw[hd]
   unfold eM i7
   simp[dX,dOf]}
 have hcl:(bfQ (afR rows) (.int 0) rows.length).length<=rows.length:=xX M _
 have run:∀ r,gM [.d (.int 0),.g 1 1 (eM 2 gD [.d (rdD rows ws)]),.g 1 1 (eM 2 i7 [.d (.int (room:Int))])]=.ok (.d (.tuple [.list (bfQ (afR rows) (.int 0) N),r]))->k9 [.d (rdD rows ws),.d (.int (room:Int))]=.ok (.d r):=fun r e=>by
  have i1:dIx (.tuple [.list (bfQ (afR rows) (.int 0) N),r]) (.int 1)=.ok r:=rfl
  unfold k9 aBF
  simp[sU,jX,qD,oO,f6,oA,e,i1,dOf]
 have hpre:bfP (afR rows) (.int 0) N <+: uS rows:=aFA hcl
 rcases F_fto O with ⟨hle,e⟩|⟨x,z,hp,hw,e⟩
 ·refine .inr ⟨fun hm=>?_,run _ e⟩
  have he:uS rows=bfP (afR rows) (.int 0) N:=by
   unfold uS
   obtain ⟨k,hk⟩:=FG hN
   rw[<-hk,uR hle k]
  rw[he,lR] at hm
  obtain ⟨i,hi⟩:=C8 hm
  have hil:=(AE.mp hi).1
  have hiN:i < N:=by omega
  have:=(O.on i hiN).2 _ (oG (iG (by omega)) (O.on i hiN).1 hi)
  simp at this
 ·have hx:=BO hw
  subst hx
  exact .inl ⟨N,z,iM hpre hp,run _ e⟩
end
def sl(y z:List Nat):Prop:=y.length < z.length\/(y.length=z.length/\List.Lex (· < ·) y z)
section
variable{after:PyData->List PyData}{x0:PyData}
structure FtoC(after:PyData->List PyData)(x0:PyData)(wn:PyData->Bool)(k1 k2:Nat)(G Wn:List PyData->R PyData)(M:Nat):Prop where
 cl:(bfQ after x0 M).length<=M
 hM:M<=100000
 key:(∀ x∈bfQ after x0 M,iR x=true)\/(∀ x∈bfQ after x0 M,oM x=true)
 hk1:k1<=12
 hk2:k2<=11
 hG:∀ x∈bfQ after x0 M,(∃ d,G [x]=.ok d/\bV d=.ok (after x))/\(after x).length<=3
 hW:∀ x∈bfQ after x0 M,Wn [x]=.ok (.bool (wn x))
end
def aQR(w:Str):Prop:=w="by"\/w="out"\/w="ever"
structure Rdw(rows:List (List Nat))(ws:List Str)(sg:Nat):Prop where
 r:Rdr rows sg
 wl:ws.length=rows.length
 ww:∀ w∈ws,aQR w
noncomputable def rdW(rows:List (List Nat))(ws:List Str):PyData:=rdD rows (ws.map .str)
section
variable{r1 r2:List (List Nat)}{w1 w2:List Str}{sg:Nat}
end
@[simp] theorem aT3(i:Nat)(f:Sg->R Fw)(ρ:Sg):aS8 i f ρ=f (fzM i ρ):=id rfl
@[simp] theorem aUP(i:Nat)(ρ:Sg):fzM i ρ=match ρ[i]? with|some (some (.m kvs))=>ρ.set i (some (.f kvs))|_=>ρ:=id rfl
@[simp] theorem aT4(neg:Bool)(i:Nat)(f:Sg->R PyData)(ρ:Sg):aS9 neg i f ρ=(f ρ).bind fun k=>match ρ[i]? with
 | some (some (.f kvs))=>if cF k (kvs.map (·.1))=true then .ok (.bool (if neg=true then !cI kvs k else cI kvs k)) else .bad
 | _=>.bad:=id rfl
@[simp] theorem aTI(i:Nat)(f:Sg->R PyData)(ρ:Sg):aRS i f ρ=match ρ[i]? with
 | some (some (.f kvs))=>(f ρ).bind fun k=>if cF k (kvs.map (·.1))=true then (match eK kvs k with
  | some v=>.ok v
  | none=>.bad) else .bad
 | _=>.bad:=id rfl
@[simp] theorem aTJ(i:Nat)(ρ:Sg):aRT i ρ=match ρ[i]? with|some (some (.f kvs))=>if kvs.length<=16777216 then .ok (kvs.map (·.1)) else .bad|_=>.bad:=id rfl
section
variable{r1 r2:List (List Nat)}{w1 w2:List Str}{sg:Nat}
end
def aTK(rows:List (List Nat))(q c:Nat):Nat:=(rows.getD q []).getD (c - 97) 0
def aFB(rows:List (List Nat))(q:Nat)(z:List Nat):Nat:=z.foldl (aTK rows) q
def Sgs(sg:Nat)(z:List Nat):Prop:=∀ c∈z,eO sg c=true
section
variable{rows r1 r2:List (List Nat)}{ws w1 w2:List Str}{sg:Nat}
def EqI(rows:List (List Nat))(ws:List Str)(sg i x y:Nat):Prop:=∀ w,Sgs sg w->w.length<=i->ws.getD (aFB rows x w) ""=ws.getD (aFB rows y w) ""
end
section
variable{rows:List (List Nat)}{ws:List Str}{sg:Nat}
def EqA(rows:List (List Nat))(ws:List Str)(sg x y:Nat):Prop:=∀ w,Sgs sg w->ws.getD (aFB rows x w) ""=ws.getD (aFB rows y w) ""
end
section
variable{rows:List (List Nat)}{ws:List Str}{sg:Nat}{L:List Nat}
structure Lk(rows:List (List Nat))(ws:List Str)(sg:Nat)(L:List Nat):Prop where
 len:L.length=rows.length
 at_:∀ x,x < rows.length->L[x]? = some (L.getD x 0)/\L.getD x 0<=x/\EqA rows ws sg x (L.getD x 0)/\∀ b,b < L.getD x 0->¬ EqA rows ws sg (L.getD x 0) b
noncomputable def afL(rows:List (List Nat))(L:List Nat):PyData->List PyData
 | .int q=>(rows.getD q.toNat []).map fun j=>.int (L.getD j 0:Int)
 | _=>[]
structure Lst(rows:List (List Nat))(ws:List Str)(L:List Nat)(N:Nat):Prop where
 len:(bfQ (afL rows L) (.int 0) N).length=N
 on:∀ m,m < N->m < (bfQ (afL rows L) (.int 0) m).length
 le:N<=rows.length
end
section
variable{rows:List (List Nat)}{ws:List Str}{sg:Nat}{L:List Nat}{N:Nat}
theorem aQS{after:PyData->List PyData}{x0 x y:PyData}{n:Nat}(hl:(bfQ after x0 n).length<=n)(hx:x∈bfQ after x0 n)(hy:y∈after x):y∈bfQ after x0 n:=by
 obtain ⟨m,hm⟩:=C8 hx
 have hml:=(AE.mp hm).1
 have hmn:m < n:=AT hml hl
 by_cases h:m < (bfQ after x0 m).length
 ·have:=oG (iG (CZ hmn)) h hm
  have e:=lQ this
  have hin:y∈bfQ after x0 (m+1):=by rw[e];exact m7 _ hy
  exact (iG (show m+1<=n by omega)).subset hin
 ·exfalso
  have hst:∀ k,(bfQ after x0 (m+k))=bfQ after x0 m:=by
   intro k
   induction k with
   | zero=>rfl
   | succ k ih=>
    have:(bfQ after x0 (m+k))[m+k]? = none:=by rw[ih];exact EB (by omega)
    rw[<-Nat.add_assoc,bfQ,this]
    exact ih
  obtain ⟨k,rfl⟩:=FG (CZ hmn)
  rw[hst k] at hml
  omega
end
end Mc
namespace Zp
open PySem L2
end Zp
namespace Fl
open PySem L2 PyProof.Rows
noncomputable def aNF(i j:Nat)(f g:Sg->R PyData):Sg->R Fw:=fun ρ=>match ρ[i]? with
 | some (some (.l xs))=>match ρ[j]? with
  | some (some (.m kvs))=>(f ρ).bind fun k=>(g ρ).bind fun y=>if cF k (kvs.map (·.1))=true/\kvs.length<=16777216/\xs.length < 16777216/\i≠j then
   .ok (.nx ((ρ.set j (some (.m (match eK kvs k with|some _=>kvs|none=>putM kvs k y)))).set i (some (.l (xs++[(eK kvs k).getD y]))))) else .bad
  | _=>.bad
 | _=>.bad
@[simp] theorem aR7(i j:Nat)(f g:Sg->R PyData)(ρ:Sg):aNF i j f g ρ=match ρ[i]? with
 | some (some (.l xs))=>match ρ[j]? with
  | some (some (.m kvs))=>(f ρ).bind fun k=>(g ρ).bind fun y=>if cF k (kvs.map (·.1))=true/\kvs.length<=16777216/\xs.length < 16777216/\i≠j then
   .ok (.nx ((ρ.set j (some (.m (match eK kvs k with|some _=>kvs|none=>putM kvs k y)))).set i (some (.l (xs++[(eK kvs k).getD y]))))) else .bad
  | _=>.bad
 | _=>.bad:=id rfl
@[simp] theorem aTL(i:Nat)(ρ:Sg):aRU i ρ=match ρ[i]? with
 | some (some (.m kvs))=>if kvs.length<=16777216 then .ok (.int (kvs.length:Int)) else .bad
 | some (some (.f kvs))=>if kvs.length<=16777216 then .ok (.int (kvs.length:Int)) else .bad
 | _=>.bad:=id rfl
end Fl
namespace Mc
open PySem L2 PyProof.Rows Fl
section
variable{rows:List (List Nat)}{ws:List Str}{sg:Nat}
def kOk(d:PyData):Prop:=(∃ i,d=.int i)\/∃ w,aQR w/\d=.str w
structure Kd(rows:List (List Nat))(ws:List Str)(sg i:Nat)(κ:Nat->PyData):Prop where
 ok:∀ x,x < rows.length->kOk (κ x)
 iff:∀ x y,x < rows.length->y < rows.length->(κ x=κ y↔EqI rows ws sg i x y)
end
noncomputable def afW(rs:List Rw)(sg:Nat)(x:PyData):List PyData:=(List.range sg).map (aE9 rs x)
noncomputable def bfW(rs:List Rw)(sg n:Nat):List PyData:=bfQ (afW rs sg) (aP rs []) n
noncomputable def adZ(rs:List Rw)(zs:List (List Nat))(z:List Nat):List (List Nat):=if aP rs z∈zs.map (aP rs) then zs else zs++[z]
def dD(sg:Nat)(z:List Nat):List (List Nat):=(List.range sg).map fun k=>z++[97+k]
noncomputable def zsW(rs:List Rw)(sg:Nat):Nat->List (List Nat)
 | 0=>[[]]
 | n+1=>match (zsW rs sg n)[n]? with
  | some z=>(dD sg z).foldl (adZ rs) (zsW rs sg n)
  | none=>zsW rs sg n
theorem pJ(rs:List Rw)(zs:List (List Nat))(z:List Nat):(adZ rs zs z).map (aP rs)=adQ (zs.map (aP rs)) (aP rs z):=by
 unfold adZ adQ
 split
 · rfl
 · rw [A7]; rfl
theorem qN(rs:List Rw)(l:List (List Nat)):∀ zs:List (List Nat),(l.foldl (adZ rs) zs).map (aP rs)=adA (zs.map (aP rs)) (l.map (aP rs)):=by
 induction l with
 | nil=>intro zs;rfl
 | cons z t ih=>intro zs;rw[CS,ih,pJ];rfl
theorem adZ_mem{rs:List Rw}{zs:List (List Nat)}{z x:List Nat}(h:x∈adZ rs zs z):x∈zs\/x=z:=by
 unfold adZ at h
 split at h
 ·exact .inl h
 ·rcases BJ.mp h with h|h
  · exact .inl h
  · exact .inr (AQ.mp h)
theorem adZs_mem{rs:List Rw}{x:List Nat}(l:List (List Nat)):∀ {zs:List (List Nat)},x∈l.foldl (adZ rs) zs->x∈zs\/x∈l:=by
 induction l with
 | nil=>intro zs h;exact .inl h
 | cons z t ih=>
  intro zs h
  rcases ih (zs:=adZ rs zs z) h with h|h
  ·rcases adZ_mem h with h|h
   · exact .inl h
   · exact .inr (by rw [h]; exact AV)
  ·exact .inr (AN _ h)
theorem aNG(rs:List Rw)(zs:List (List Nat))(z:List Nat):zs <+: adZ rs zs z:=by
 unfold adZ
 split
 · exact CB _
 · exact FI ..
theorem aB0(rs:List Rw)(l:List (List Nat)):∀ zs:List (List Nat),zs <+: l.foldl (adZ rs) zs:=by
 induction l with
 | nil=>exact fun zs=>CB _
 | cons z t ih=>exact fun zs=>(aNG rs zs z).trans (ih _)
theorem qO{rs:List Rw}{sg:Nat}{z:List Nat}(M:Mach rs sg)(S:bU sg z):(dD sg z).map (aP rs)=afW rs sg (aP rs z):=by
 unfold dD afW
 rw[B1]
 exact BZ fun k hk=>(aDW M S (BS.mp hk)).symm
structure ZsOk(rs:List Rw)(sg n:Nat)(zs:List (List Nat)):Prop where
 map:zs.map (aP rs)=bfW rs sg n
 ok:∀ z∈zs,bU sg z/\z.length<=n
theorem aNH{sg n:Nat}{z x:List Nat}(S:bU sg z)(hl:z.length<=n)(hn:n < 900)(h:x∈dD sg z):bU sg x/\x.length<=n+1:=by
 obtain ⟨k,hk,rfl⟩:=A0.mp h
 exact ⟨qM S (BS.mp hk) (by omega),by simp;omega⟩
theorem iP{rs:List Rw}{sg:Nat}(M:Mach rs sg):∀ n,n<=900->ZsOk rs sg n (zsW rs sg n):=by
 intro n
 induction n with
 | zero=>exact fun _=>⟨rfl,fun z hz=>by rw[AQ.mp hz];exact ⟨⟨by simp,fun c hc=>by simp at hc⟩,by simp⟩⟩
 | succ n ih=>
  intro hn
  obtain ⟨h1,h2⟩:=ih (by omega)
  unfold bfW at h1
  have e:(bfQ (afW rs sg) (aP rs []) n)[n]? = ((zsW rs sg n)[n]?).map (aP rs):=by rw[<-h1,AJ]
  cases q:(zsW rs sg n)[n]? with
  | none=>
   rw[q] at e
   refine ⟨?_,fun z hz=>?_⟩
   ·unfold bfW
    rw[zsW,bfQ,q,e];exact h1
   ·rw[zsW,q] at hz
    have:=h2 z hz
    exact ⟨this.1,by omega⟩
  | some z=>
   rw[q] at e
   have hz:=h2 z (AL q)
   refine ⟨?_,fun x hx=>?_⟩
   ·unfold bfW
    rw[zsW,bfQ,q,e]
    simp only[DW]
    rw[qN,h1,qO M hz.1]
   ·rw[zsW,q] at hx
    rcases adZs_mem _ hx with hx|hx
    ·have:=h2 x hx
     exact ⟨this.1,by omega⟩
    ·exact aNH hz.1 hz.2 (by omega) hx
structure EndW(rs:List Rw)(sg most N:Nat):Prop where
 on:∀ m,m < N->m < (bfW rs sg m).length/\(bfW rs sg m).length<=most
 off:(bfW rs sg N).length<=N\/most < (bfW rs sg N).length
theorem aJ2{P:Nat->Prop}:∀ K:Nat,P K->∃ n,n<=K/\P n/\∀ m,m < n->¬ P m:=by
 intro K
 induction K using Nat.strongRecOn with
 | _ K ih=>
  intro h
  by_cases q:∃ m,m < K/\P m
  ·obtain ⟨m,h1,h2⟩:=q
   obtain ⟨n,a,b,c⟩:=ih m h1 h2
   exact ⟨n,by omega,b,c⟩
  ·exact ⟨K,AK _,h,fun m hm hp=>q ⟨m,hm,hp⟩⟩
theorem aDZ(rs:List Rw)(sg most:Nat):∃ N,N<=most/\EndW rs sg most N:=by
 obtain ⟨n,h1,h2,h3⟩:=aJ2 (P:=fun n=>(bfW rs sg n).length<=n\/most < (bfW rs sg n).length) most (by omega)
 exact ⟨n,h1,fun m hm=>by have:=h3 m hm;omega,h2⟩
theorem EndW.full{rs:List Rw}{sg most N:Nat}(E:EndW rs sg most N)(h:(bfW rs sg N).length<=most):(bfW rs sg N).length=N:=by
 rcases E.off with q|q
 ·cases N with
  | zero=>have:(bfW rs sg 0).length=1:=rfl;omega
  | succ n=>
   have h1:=(E.on n (by omega)).1
   have h2:(bfW rs sg n).length<=(bfW rs sg (n+1)).length:=(gX _ _ n).length_le
   omega
 ·omega
theorem EndW.up{rs:List Rw}{sg most most' N:Nat}(E:EndW rs sg most N)(h:(bfW rs sg N).length<=most)(hm:most<=most'):EndW rs sg most' N:=
 ⟨fun m hm'=>⟨(E.on m hm').1,by have:=(E.on m hm').2;omega⟩,.inl (by rw[E.full h];omega)⟩
noncomputable def aTM(rs:List Rw)(sg:Nat):Sq where
 after:=afW rs sg
 x0:=aP rs []
 stop fs _:=decide (200 < fs.length)
 k1:=4
 k2:=1
 G:=eM 2 dZ [.d (.list ((List.range sg).map (f9 rs)))]
 D:=eM 2 fM []
theorem rX{rs:List Rw}{sg n:Nat}(M:Mach rs sg)(hn:n<=900){x:PyData}(h:x∈bfW rs sg n):∃ z,bU sg z/\x=aP rs z:=by
 obtain ⟨h1,h2⟩:=iP M n hn
 rw[<-h1] at h
 obtain ⟨z,hz,rfl⟩:=A0.mp h
 exact ⟨z,(h2 z hz).1,rfl⟩
theorem oH{rs:List Rw}{sg:Nat}{z:List Nat}(M:Mach rs sg)(S:bU sg z):iR (aP rs z)=true:=by
 obtain ⟨o1,o2⟩:=aM5 M S
 exact aM6 o1 o2
theorem aD0{rs:List Rw}{sg most N:Nat}(M:Mach rs sg)(E:EndW rs sg most N)(hm:1<=most):(bfW rs sg N).length<=most+3:=by
 cases N with
 | zero=>show 1<=most+3;omega
 | succ n=>
  obtain ⟨h1,h2⟩:=E.on n (by omega)
  have hx:(bfQ (afW rs sg) (aP rs []) n)[n]? = some (bfQ (afW rs sg) (aP rs []) n)[n]:=AI h1
  have h3:=aDT (afW rs sg (bfQ (afW rs sg) (aP rs []) n)[n]) (bfQ (afW rs sg) (aP rs []) n)
  rw[<-lQ hx] at h3
  have h4:(afW rs sg (bfQ (afW rs sg) (aP rs []) n)[n]).length=sg:=by unfold afW;simp
  have:=M.sg3
  unfold bfW at h2 ⊢
  omega
theorem aNI{rs:List Rw}{sg N:Nat}(M:Mach rs sg)(E:EndW rs sg 200 N)(hN:N<=200):(aTM rs sg).ok N where
 on m h:=⟨(E.on m h).1,AZ (by have:=(E.on m h).2;unfold bfW at this;show ¬ 200 < (bfQ (afW rs sg) (aP rs []) m).length;omega)⟩
 off:=E.off.imp id fun h=>AY h
 key:=.inl fun x hx=>by
  obtain ⟨z,S,rfl⟩:=rX M (by omega) (show x∈bfW rs sg N from hx)
  exact oH M S
 len:=by have:=aD0 M E (by omega);show (bfW rs sg N).length<=_;omega
 hk1:=by show 4<=12;decide
 hk2:=by show 1<=12;decide
 hG m x hm hx:=by
  obtain ⟨z,S,rfl⟩:=rX M (show N<=900 by omega) (AL hx)
  have hc:=gU (fs:=stN 0) (fe:=eA (bB 2 iK (aA (vV 1) (aA (vV 0) aK)))) (ρ0:=[none,some (.d (aP rs z))]) (d:=f9 rs) (g:=aE9 rs (aP rs z)) (xs:=List.range sg) fun k hk=>by
   refine ⟨_,rfl,?_⟩
   have hk:=BS.mp hk
   have:=aBS M S (c:=97+k) (by unfold eO;exact AY (by omega))
   rw[show 97+k - 97=k by omega,<-aDW M S hk] at this
   simp[this]
  have hi:=j9 (xs:=(List.range sg).map (f9 rs)) (by have:=M.sg3;simp;omega)
  have hl:(afW rs sg (aP rs z)).length=sg:=by unfold afW;simp
  have h3:=M.sg3
  refine ⟨⟨.list (afW rs sg (aP rs z)),?_,j9 (by omega)⟩,by show (afW rs sg (aP rs z)).length<=_;omega⟩
  show eM 2 dZ [.d (.list ((List.range sg).map (f9 rs)))] [aP rs z]=_
  unfold eM dZ
  simp[hi,iB,hc,dOf]
  rfl
 hD m hm hl:=by
  show eM 2 fM [] [.list (bfW rs sg m),.int (m:Int)]=.ok (.bool (decide (200 < (bfW rs sg m).length)))
  unfold eM fM
  simp[f7,dOf]
  omega
noncomputable def aB1(rs:List Rw)(sg N:Nat):PyData:=.tuple [.tuple (bP (afW rs sg) (bfW rs sg N) N),.tuple ((zsW rs sg N).map fun z=>.str (iY rs z))]
theorem aHR{rs:List Rw}{sg N:Nat}(M:Mach rs sg)(E:EndW rs sg 200 N)(hN:N<=200):fJ [.d (bE rs)]=if 200 < (bfW rs sg N).length then .ex ⟨"TooMany",[]⟩ else .ok (.d (aB1 rs sg N)):=by
 have O:=aNI M E hN
 have e:=aQN O
 obtain ⟨r,t,hrs,hr⟩:=M.cons
 have hsg:jL [.d (bE rs)]=.ok (.d (.int sg)):=by rw[hrs,aMQ,hr]
 have hrg:=jC (n:=sg) (by have:=M.sg3;omega)
 have hc:=aQJ M [some (.d (bE rs)),none,none,none,none] rfl
 rw[show iB [none,some 0] [some (.d (bE rs)),none,none,none,none]=[none,some (.d (bE rs))] from rfl] at hc
 have hw:=aR1 M
 have Z:=iP M N (by omega)
 have hcw:=gU (fs:=stN 0) (fe:=eA (bB 2 fO (aA (vV 1) (aA (vV 0) aK)))) (ρ0:=[none,some (.d (bE rs))]) (d:=aP rs) (g:=fun z=>.str (iY rs z)) (xs:=zsW rs sg N) fun z hz=>by
  refine ⟨_,rfl,?_⟩
  have:=aTG M (Z.ok z hz).1
  simp[this]
 rw[Z.map] at hcw
 have hbl:=aD0 M E (by omega)
 have hif:=j9 (xs:=bfW rs sg N) (by omega)
 have e:gK [.d (aP rs []),.g 4 1 (eM 2 dZ [.d (.list ((List.range sg).map (f9 rs)))]),.g 1 2 (eM 2 fM [])]=.ok (.d (.tuple [.list (bfW rs sg N),.list (bP (afW rs sg) (bfW rs sg N) N)])):=e
 generalize hgs:bP (afW rs sg) (bfW rs sg N) N=gs at e
 have hgl:gs.length<=16777216:=by rw[<-hgs];unfold bP;rw[AB,BB];omega
 have i0:dIx (.tuple [.list (bfW rs sg N),.list gs]) (.int 0)=.ok (.list (bfW rs sg N)):=rfl
 have i1:dIx (.tuple [.list (bfW rs sg N),.list gs]) (.int 1)=.ok (.list gs):=rfl
 have hzl:(zsW rs sg N).length<=16777216:=by
  have:((zsW rs sg N).map (aP rs)).length<=16777216:=by rw[Z.map];omega
  rwa [AB] at this
 by_cases h:200 < (bfW rs sg N).length
 ·have hn:(200:Int) < ((bfW rs sg N).length:Int):=by omega
  rw[AG h]
  unfold fJ oD
  simp[hsg,hrg,hc,hw,sU,jX,qD,oO,f6,oA,e,dOf,i0,i1,f7,hn,xI,few,iB]
 ·have hn:¬ (200:Int) < ((bfW rs sg N).length:Int):=by omega
  rw[AH h]
  unfold fJ oD aB1
  rw[hgs]
  simp[hsg,hrg,hc,hw,sU,jX,qD,oO,f6,oA,e,dOf,i0,i1,f7,hn,hif,iB,hcw]
noncomputable def wyρ(rs:List Rw)(sg most:Nat)(zs:List (List Nat))(gs:List PyData)(u v w x:Option A):Sg:=[some (.d (bE rs)),some (.d (.int (sg:Int))),some (.d (.int (most:Int))),some (.l (zs.map stD)),some (.m (gW (zs.map (aP rs)))),some (.l gs),u,v,w,x]
theorem aNJ{sg:Nat}(s1:1<=sg)(s3:sg<=3):(sgT sg).cps.toList=(List.range sg).map (97 + ·):=by
 rw[aDY s1 s3]
 rcases (by omega:sg=1\/sg=2\/sg=3) with rfl|rfl|rfl<;>rfl
theorem aQT{rs:List Rw}{sg most:Nat}{zs:List (List Nat)}{gs:List PyData}{z:List Nat}{v w x:Option A}(M:Mach rs sg)(hz:zs[gs.length]? = some z)(nd:(zs.map (aP rs)).Nodup)(hs:∀ y∈zs,bU sg y)(hl:z.length < 900)(hlen:zs.length<=1000) :
  ∃ v' w' x',lJ (stN 7) wyF ((List.range sg).map fun k:Nat=>.str ⟨#[97+k]⟩) (wyρ rs sg most zs gs (some (.l [])) v w x)=.ok (.nx (wyρ rs sg most ((dD sg z).foldl (adZ rs) zs) gs (some (.l (((afW rs sg (aP rs z)).map (nrQ (((dD sg z).foldl (adZ rs) zs).map (aP rs)))).map fun j:Nat=>.int (j:Int)))) v' w' x')):=by
 have s3:=M.sg3
 have Sz:=hs z (AL hz)
 obtain ⟨ρ',q1,v',w',x',q2⟩:=iL (fs:=stN 7) (fb:=wyF) (d:=fun k:Nat=>PyData.str ⟨#[97+k]⟩) (xs:=List.range sg) (ρ:=wyρ rs sg most zs gs (some (.l [])) v w x)
  (fun i ρ=>∃ v' w' x',ρ=wyρ rs sg most (((dD sg z).take i).foldl (adZ rs) zs) gs (some (.l ((((dD sg z).take i).map fun y=>nrQ ((((dD sg z).take i).foldl (adZ rs) zs).map (aP rs)) (aP rs y)).map fun j:Nat=>.int (j:Int)))) v' w' x') ⟨v,w,x,rfl⟩ fun i k ρ hi zz0=>by
  obtain ⟨v',w',x',e⟩:=zz0
  have hil:=(AE.mp hi).1
  rw[BU] at hil
  rw[CI hil] at hi
  cases hi
  have hy:(dD sg z)[i]? = some (z++[97+i]):=by unfold dD;rw[AJ,CI hil];rfl
  have Sy:bU sg (z++[97+i]):=qM Sz hil (by omega)
  have ht:(dD sg z).take (i+1)=(dD sg z).take i++[z++[97+i]]:=by rw[D8,hy];rfl
  have hsi:∀ x∈((dD sg z).take i).foldl (adZ rs) zs,bU sg x:=fun x hx=>by
   rcases adZs_mem _ hx with h|h
   ·exact hs x h
   ·obtain ⟨k,hk,rfl⟩:=A0.mp (List.mem_of_mem_take h)
    exact qM Sz (BS.mp hk) (by omega)
  have hmem:∀ y∈(dD sg z).take i,aP rs y∈(((dD sg z).take i).foldl (adZ rs) zs).map (aP rs):=fun y hy=>by
   rw[qN];exact m7 _ (DR hy)
  have ndi:((((dD sg z).take i).foldl (adZ rs) zs).map (aP rs)).Nodup:=by rw[qN];exact wH _ nd
  have hzi:(((dD sg z).take i).foldl (adZ rs) zs)[gs.length]? = some z:=iM (aB0 rs _ zs) hz
  have hleni:(((dD sg z).take i).foldl (adZ rs) zs).length<=1003:=by
   have h1:=aDT (((dD sg z).take i).map (aP rs)) (zs.map (aP rs))
   rw[<-qN,AB,AB,AB,BB] at h1
   omega
  rw[ht,FU,CS,List.foldl_nil]
  generalize hF:((dD sg z).take i).foldl (adZ rs) zs=F at *
  have hrow:((dD sg z).take i++[z++[97+i]]).map (fun y=>nrQ ((adZ rs F (z++[97+i])).map (aP rs)) (aP rs y))=((dD sg z).take i).map (fun y=>nrQ (F.map (aP rs)) (aP rs y))++[nrQ ((adZ rs F (z++[97+i])).map (aP rs)) (aP rs (z++[97+i]))]:=by
   rw[A7,DX]
   congr 1
   refine BZ fun y hy=>?_
   rw[pJ]
   exact pH (pG _ _) (hmem y hy)
  rw[hrow]
  have hb:=aHK M (z:=⟨(z++[97+i]).toArray⟩) (by simpa using Sy)
  simp only[List.toList_toArray] at hb
  have hix:dIx (.list (F.map stD)) (.int (gs.length:Int))=.ok (stD z):=lU (hJ (by rw[AJ,hzi];rfl))
  have had:cR (stD z) (.str ⟨#[97+i]⟩)=.ok (.str ⟨(z++[97+i]).toArray⟩):=by
   unfold stD
   have hzl:z.length+1<=16777216:=by omega
   rw[aP8 (by show z.toArray.size+1<=16777216;rw[BF];exact hzl),show (⟨z.toArray⟩:Str)++(⟨#[97+i]⟩:Str)=⟨(z++[97+i]).toArray⟩ by
    show (⟨z.toArray ++ #[97+i]⟩:Str)=_
    simp]
  have hk:∀ x∈F.map (aP rs),iR x=true:=fun x hx=>by
   obtain ⟨y,hy,rfl⟩:=A0.mp hx
   exact oH M (hsi y hy)
  have hky:=oH M Sy
  have s1:=aBU hky hk
  have nd2:((adZ rs F (z++[97+i])).map (aP rs)).Nodup:=by rw[pJ];exact aHL ndi
  have g2:=aDU nd2 (y:=aP rs (z++[97+i])) (by rw[pJ];exact s9 _ _)
  have hk2:∀ x∈(adZ rs F (z++[97+i])).map (aP rs),iR x=true:=fun x hx=>by
   rw[pJ] at hx
   by_cases q:aP rs (z++[97+i])∈F.map (aP rs)
   ·rw[nS q] at hx;exact hk x hx
   ·rw[kP q] at hx
    rcases BJ.mp hx with h|h
    · exact hk x h
    · rw [AQ.mp h]; exact hky
  have s2:=aBU hky hk2
  have hil2:(gW (F.map (aP rs))).length<=16777216:=by rw[aDR,AB];omega
  have hFl:F.length < 16777216:=by omega
  have htl:min i (dD sg z).length < 16777216:=by omega
  refine ⟨wyρ rs sg most F gs (some (.l ((((dD sg z).take i).map fun y=>nrQ (F.map (aP rs)) (aP rs y)).map fun j:Nat=>.int (j:Int)))) (some (.d (.str ⟨#[97+i]⟩))) w' x',_,by rw[e];simp[wyρ],.inl ?_,some (.d (.str ⟨#[97+i]⟩)),some (.d (.str ⟨(z++[97+i]).toArray⟩)),some (.d (aP rs (z++[97+i]))),rfl⟩
  by_cases q:aP rs (z++[97+i])∈F.map (aP rs)
  ·have a1:=xT.mpr q
   have ez:adZ rs F (z++[97+i])=F:=AG q
   rw[ez] at s2 g2 ⊢
   simp only[wyF,wyρ,bR,pB,oE,jZ,mR,jN,v4,sW,nN,i8,fY,A1,A2,R.bind_ok,f7,hix,had,BA,BH,BG,BR,Nat.reduceAdd,CF,hb,rP,aDM,s1,a1,v5,GU,CK,DY,aPX,xO,aBH,g2,AB,BB,htl]
   simp
  ·have a1:=uO q
   have a2:=aDS q
   have ez:adZ rs F (z++[97+i])=F++[z++[97+i]]:=AH q
   rw[ez] at s2 g2 ⊢
   rw[AB] at a2
   rw[A7,DX] at s2 g2
   simp only[wyF,wyρ,bR,pB,oE,jZ,mR,jN,v4,sW,nN,i8,fY,A1,A2,R.bind_ok,f7,hix,had,BA,BH,BG,BR,Nat.reduceAdd,CF,hb,rP,aDM,s1,a1,v5,Bool.not_false,aJF,a2,hil2,hFl,xO,aBH,s2,g2,AB,BB,htl]
   simp[stD,hFl,s2,g2,htl]
 have htk:(dD sg z).take (List.range sg).length=dD sg z:=D5 (by unfold dD;simp)
 rw[htk] at q2
 refine ⟨v',w',x',?_⟩
 rw[q1,q2,<-qO M Sz]
 simp only[B1]
 rfl
theorem aNK{rs:List Rw}{sg most m:Nat}{gs:List PyData}{u v w x:Option A}(M:Mach rs sg)(hm:m < 900)(hg:gs.length=m)(hon:m < (bfW rs sg m).length)(hle:(bfW rs sg m).length<=900) :
  ∃ y u' v' w' x',(bfW rs sg m)[m]? = some y/\wyB (wyρ rs sg most (zsW rs sg m) gs u v w x)=if most < (bfW rs sg (m+1)).length then .ok (.rt (.d .none)) else .ok (.nx (wyρ rs sg most (zsW rs sg (m+1)) (gs++[kE (afW rs sg) (bfW rs sg (m+1)) y]) u' v' w' x')):=by
 have Z:=iP M m (by omega)
 have Z1:=iP M (m+1) (by omega)
 have hzl:(zsW rs sg m).length=(bfW rs sg m).length:=by rw[<-Z.map,AB]
 have hzl1:(zsW rs sg (m+1)).length=(bfW rs sg (m+1)).length:=by rw[<-Z1.map,AB]
 have hz:(zsW rs sg m)[m]? = some (zsW rs sg m)[m]:=AI (by omega)
 generalize (zsW rs sg m)[m]=z at hz
 have Sz:=Z.ok z (AL hz)
 have hy:(bfW rs sg m)[m]? = some (aP rs z):=by rw[<-Z.map,AJ,hz];rfl
 have e1:zsW rs sg (m+1)=(dD sg z).foldl (adZ rs) (zsW rs sg m):=by rw[zsW,hz]
 obtain ⟨v',w',x',q⟩:=aQT (most:=most) (v:=v) (w:=w) (x:=x) M (by rw[hg];exact hz) (by rw[Z.map];exact rW _ _ m) (fun y hy=>(Z.ok y hy).1) (by have:=Sz.2;omega) (by omega)
 rw[<-e1,Z1.map] at q
 have hsl:dSl (.str "abc") none (some (sg:Int))=.ok (.str (sgT sg)):=aRY (by decide)
 have hi:bV (.str (sgT sg))=.ok ((List.range sg).map fun k:Nat=>.str ⟨#[97+k]⟩):=by
  rw[aJG (by have:=aM7 M.sg1 M.sg3;omega),aNJ M.sg1 M.sg3,B1];rfl
 have hal:((afW rs sg (aP rs z)).map (nrQ (bfW rs sg (m+1)))).length<=16777216:=by unfold afW;have:=M.sg3;simp;omega
 have hgl:gs.length < 16777216:=by omega
 refine ⟨aP rs z,some (.l (((afW rs sg (aP rs z)).map (nrQ (bfW rs sg (m+1)))).map fun j:Nat=>.int (j:Int))),v',w',x',hy,?_⟩
 simp only[wyρ] at q
 have hc:decide ((most:Int) < ((bfW rs sg (m+1)).length:Int))=decide (most < (bfW rs sg (m+1)).length):=by
  by_cases h:most < (bfW rs sg (m+1)).length
  · rw [AY h, AY (by omega)]
  · rw [AZ h, AZ (by omega)]
 have hal2:(afW rs sg (aP rs z)).length<=16777216:=by simpa using hal
 simp only[wyB,wyρ,bR,j8,lL,fY,R.bind_ok,BR,CH,CF,BA,BH,pC,mR,aPZ,lA,aP0,aP1,jN,A1,A2,hsl,hi,q,xO,aHA,hgl,rP,jZ,f7,AB,hzl1]
 by_cases h:most < (bfW rs sg (m+1)).length
 ·have h':(most:Int) < ((bfW rs sg (m+1)).length:Int):=by omega
  rw[AG h]
  simp[h',hzl1,hal2]
 ·have h':¬ (most:Int) < ((bfW rs sg (m+1)).length:Int):=by omega
  rw[AH h]
  simp[h',hzl1,hal2,kE,iF]
theorem aNL{rs:List Rw}{sg most N:Nat}(M:Mach rs sg)(E:EndW rs sg most N)(hm:most<=800)(h1:1<=most)(hN:N<=most):∀ (k m:Nat) (u v w x:Option A),m+k=N->((bfW rs sg m).length<=most)->
  (most < (bfW rs sg N).length/\aL (bM wyT wyB) wyE (wyρ rs sg most (zsW rs sg m) (bP (afW rs sg) (bfW rs sg m) m) u v w x)=.ok (.rt (.d .none))) \/
  ((bfW rs sg N).length<=most/\∃ u' v' w' x',aL (bM wyT wyB) wyE (wyρ rs sg most (zsW rs sg m) (bP (afW rs sg) (bfW rs sg m) m) u v w x)=wyE (wyρ rs sg most (zsW rs sg N) (bP (afW rs sg) (bfW rs sg N) N) u' v' w' x')):=by
 have hT:∀ (m:Nat) (u v w x:Option A),m<=N->m<=(bfW rs sg m).length->wyT (wyρ rs sg most (zsW rs sg m) (bP (afW rs sg) (bfW rs sg m) m) u v w x)=.ok (decide (m < (bfW rs sg m).length)):=fun m u v w x hmN hl=>by
  have Z:=iP M m (by omega)
  have hzl:(zsW rs sg m).length=(bfW rs sg m).length:=by rw[<-Z.map,AB]
  have hg:(bP (afW rs sg) (bfW rs sg m) m).length=m:=by unfold bP;rw[AB,BB];omega
  simp only[wyT,wyρ,mR,jZ,jN,A1,A2,R.bind_ok,f7,AB,hzl,hg]
  simp
 have hrl:∀ m,m<=N->m<=(bfW rs sg m).length:=fun m h=>by
  cases m with
  | zero=>omega
  | succ n=>have a:=(E.on n (by omega)).1;have b:(bfW rs sg n).length<=(bfW rs sg (n+1)).length:=(gX _ _ n).length_le;omega
 intro k
 induction k with
 | zero=>
  intro m u v w x hk hl
  have hk:m=N:=by omega
  subst hk
  have hf:=E.full hl
  refine .inr ⟨hl,u,v,w,x,?_⟩
  rw[bR,eQ (by rw[hT m u v w x (AK _) (by omega),AZ (by omega)])]
  rfl
 | succ k ih=>
  intro m u v w x hk hl
  have hlt:m < N:=by omega
  have hle:=hrl m (by omega)
  have hg:(bP (afW rs sg) (bfW rs sg m) m).length=m:=by unfold bP;rw[AB,BB];omega
  obtain ⟨y,u',v',w',x',hy,q⟩:=aNK (most:=most) (u:=u) (v:=v) (w:=w) (x:=x) M (by omega) hg (E.on m hlt).1 (by omega)
  have ht:wyT (wyρ rs sg most (zsW rs sg m) (bP (afW rs sg) (bfW rs sg m) m) u v w x)=.ok true:=by rw[hT m u v w x (by omega) hle,AY (E.on m hlt).1]
  by_cases hbig:most < (bfW rs sg (m+1)).length
  ·rw[AG hbig] at q
   have hmN:m+1=N:=by
    rcases Nat.lt_or_ge (m+1) N with h|h
    ·have:=(E.on _ h).2;omega
    ·omega
   rw[hmN] at hbig
   refine .inl ⟨hbig,?_⟩
   rw[bR,i9 ht q];rfl
  ·rw[AH hbig] at q
   have e:bP (afW rs sg) (bfW rs sg m) m++[kE (afW rs sg) (bfW rs sg (m+1)) y]=bP (afW rs sg) (bfW rs sg (m+1)) (m+1):=by
    unfold bP bfW at *
    have htk:(bfQ (afW rs sg) (aP rs []) (m+1)).take (m+1)=(bfQ (afW rs sg) (aP rs []) m).take m++[y]:=by
     obtain ⟨t,et⟩:=gX (afW rs sg) (aP rs []) m
     have hml:=(AE.mp hy).1
     rw[<-et,FB (by omega),D8,hy];rfl
    rw[htk,A7,DX]
    congr 1
    refine BZ fun y hy=>?_
    unfold kE
    congr 1
    refine BZ fun z hz=>?_
    obtain ⟨j,hj⟩:=C8 hy
    have hjl:j < m:=by
     have:=(AE.mp hj).1
     rw[BB] at this;omega
    rw[FJ,AG hjl] at hj
    refine (pH (gX (afW rs sg) (aP rs []) m) ?_).symm
    have hj2:(bfQ (afW rs sg) (aP rs []) j)[j]? = some y:=oG (iG (by omega)) ((E.on j (by omega)).1) hj
    have:=m7 (fs:=bfQ (afW rs sg) (aP rs []) j) _ hz
    rw[<-lQ hj2] at this
    exact (iG (by omega)).subset this
   rw[e] at q
   have:=ih (m+1) u' v' w' x' (by omega) (by omega)
   rw[bR,gN ht q]
   rw[bR] at this
   exact this
noncomputable def fN(rs:List Rw)(sg N:Nat):PyData:=.tuple [.list ((zsW rs sg N).map stD),.tuple (bP (afW rs sg) (bfW rs sg N) N),.tuple ((zsW rs sg N).map fun z=>.str (iY rs z))]
theorem aQU{rs:List Rw}{sg most N:Nat}(M:Mach rs sg)(E:EndW rs sg most N)(hm:most<=800)(h1:1<=most)(hN:N<=most):cV [.d (bE rs),.d (.int (sg:Int)),.d (.int (most:Int))]=if most < (bfW rs sg N).length then .ok (.d .none) else .ok (.d (fN rs sg N)):=by
 have key:=aNL M E hm h1 hN N 0 none none none none (by omega) (by show 1<=most;exact h1)
 have hb:=aHK M (z:="") ⟨by show 0<=1000;omega,fun c hc=>nomatch hc⟩
 have hb:eB [.d (bE rs),.d (.str "")]=.ok (.d (aP rs [])):=hb
 have hk:=oH M (z:=[]) ⟨by simp,fun c hc=>by simp at hc⟩
 have hs:cF (aP rs []) []=true:=by unfold cF;rw[hk];rfl
 have hp:Fl.iC [] [(aP rs [],.int 0)]=.ok [(aP rs [],.int 0)]:=by simp[Fl.iC,hs,putM,cI,eK]
 have run:∀ r,aL (bM wyT wyB) wyE (wyρ rs sg most (zsW rs sg 0) (bP (afW rs sg) (bfW rs sg 0) 0) none none none none)=r->cV [.d (bE rs),.d (.int (sg:Int)),.d (.int (most:Int))]=match r with | .bad=>.bad | .ex e=>.ex e | .ok (.rt (.l _))=>.bad | .ok (.rt a)=>.ok a | .ok (.nx _)=>.ok (.d .none) | .ok _=>.bad:=fun r hr=>by
  have hr:aL (bM wyT wyB) wyE [some (.d (bE rs)),some (.d (.int (sg:Int))),some (.d (.int (most:Int))),some (.l [.str ""]),some (.m [(aP rs [],.int 0)]),some (.l []),none,none,none,none]=r:=hr
  unfold cV
  rw[oR]
  simp only[lB,bR,j8,lL,i8,fY,lA,aJL,aJM,aMY,aKQ,nN,v4,oE,R.bind_ok,BG,BR,Nat.reduceAdd,Nat.reduceSub,AW,B0,B9,B7,List.replicate,A1,A2,CF,BA,BH,hb,aG9,hp,Nat.reduceLeDiff,CH]
  rw[bR] at hr
  rw[hr]
  cases r with
  | bad=>rfl
  | ex e=>rfl
  | ok w=>
   cases w with
   | rt a=>cases a<;>rfl
   | _=>rfl
 rcases key with ⟨hbig,q⟩|⟨hsm,u,v,w,x,q⟩
 ·rw[AG hbig,run _ q]
 ·have Z:=iP M N (by omega)
  have hzl:(zsW rs sg N).length=(bfW rs sg N).length:=by rw[<-Z.map,AB]
  rw[AH (by omega)]
  have hcw:=gU (fs:=stN 0) (fe:=eA (bB 2 fE (aA (vV 1) (aA (vV 0) aK)))) (ρ0:=[none,some (.d (bE rs))]) (d:=stD) (g:=fun z=>.str (iY rs z)) (xs:=zsW rs sg N) fun z hz=>by
   refine ⟨_,rfl,?_⟩
   have:=aHG M (z:=⟨z.toArray⟩) (by simpa using (Z.ok z hz).1)
   simp only[List.toList_toArray] at this
   simp[stD,this]
  have hif:=j9 (xs:=(zsW rs sg N).map stD) (by simp;omega)
  have hgl:(bP (afW rs sg) (bfW rs sg N) N).length<=16777216:=by unfold bP;rw[AB,BB];omega
  have hzl2:(zsW rs sg N).length<=16777216:=by omega
  have:wyE (wyρ rs sg most (zsW rs sg N) (bP (afW rs sg) (bfW rs sg N) N) u v w x)=.ok (.rt (.d (fN rs sg N))):=by
   simp[wyE,wyρ,hif,iB,hcw,aHA,hzl2,fN]
  rw[run _ (q.trans this)]
theorem aNM{rs:List Rw}{sg:Nat}(M:Mach rs sg)(h1:rs.length=1)(xs:List PyData)(nd:xs.Nodup)(h:∀ x∈xs,∃ z,bU sg z/\x=aP rs z):xs.length<=16:=by
 classical
 have b0:∀ z,bU sg z->tnB 1 (dQ rs z (0,0)):=fun z S=>h1▸aDX M S (qI M z)
 have b1:∀ z,bU sg z->tnB 1 (begB rs z ((0:Nat):Int)):=fun z S=>h1▸aDX M S (wG (by omega))
 let code:List Nat->Nat:=fun z=>tc 1 (dQ rs z (0,0)) * 4+tc 1 (begB rs z ((0:Nat):Int))
 let f:PyData->Nat:=fun x=>if h:∃ z,bU sg z/\x=aP rs z then code h.choose else 0
 have hf:∀ x∈xs,∃ z,bU sg z/\x=aP rs z/\f x=code z:=fun x hx=>⟨(h x hx).choose,(h x hx).choose_spec.1,(h x hx).choose_spec.2,dif_pos (h x hx)⟩
 refine qY f 16 xs nd (fun x hx=>?_) (fun a ha b hb e=>?_)
 ·obtain ⟨z,S,_,e⟩:=hf x hx
  rw[e]
  have:=zR (b0 z S)
  have:=zR (b1 z S)
  show tc 1 (dQ rs z (0,0)) * 4+tc 1 (begB rs z ((0:Nat):Int)) < 16
  omega
 ·obtain ⟨z,S,e1,e2⟩:=hf a ha
  obtain ⟨z',S',e3,e4⟩:=hf b hb
  rw[e1,e3]
  rw[e2,e4] at e
  have e:tc 1 (dQ rs z (0,0)) * 4+tc 1 (begB rs z ((0:Nat):Int))=tc 1 (dQ rs z' (0,0)) * 4+tc 1 (begB rs z' ((0:Nat):Int)):=e
  have l1:=zR (b1 z S)
  have m1:=zR (b1 z' S')
  have e0:tc 1 (dQ rs z (0,0))=tc 1 (dQ rs z' (0,0)):=by omega
  have e1:tc 1 (begB rs z ((0:Nat):Int))=tc 1 (begB rs z' ((0:Nat):Int)):=by omega
  refine aJW (aHP (b0 z S) (b0 z' S') e0) fun q hq=>?_
  have:q=0:=by omega
  subst this
  exact aHP (b1 z S) (b1 z' S') e1
noncomputable def smT:Sg->R Bool:=(e1 asB (e2 dIs (rV 5) (eC .none)))
noncomputable def smB:Sg->R Fw:=(aL (bW 3 (vD (e2 dSub (rV 3) (eC (.int 1)))))
 (aL (bW 4 (bB 4 eI (aA (vV 0) (aA (vD (e2 cR (rV 1) (eC (.int 2)))) (aA (vV 3) (aA (vV 2) aK))))))
 (bW 5 (bB 3 cV (aA (vV 4) (aA (vV 2) (aA (vD (eC (.int 40))) aK)))))))
theorem aQV:nR=(aL (bW 2 (vD (e2 cR (eC (.int 1)) (e2 dMod (eA (bB 2 bT (aA (vV 0) (aA (vV 1) aK)))) (eC (.int 2))))))
 (aL (bW 3 (vD (e2 cR (eC (.int 1)) (e2 dMod (eA (bB 2 bT (aA (vV 0) (aA (vD (e2 cR (rV 1) (eC (.int 1)))) aK)))) (e2 dIx (eL (dG (aA (eC (.int 5)) (aA (eC (.int 3)) aK)))) (e2 dSub (rV 2) (eC (.int 1))))))))
 (aL (bW 4 (bB 4 eI (aA (vV 0) (aA (vD (e2 cR (rV 1) (eC (.int 2)))) (aA (vV 3) (aA (vV 2) aK))))))
 (aL (bW 5 (bB 3 cV (aA (vV 4) (aA (vV 2) (aA (vD (eC (.int 40))) aK)))))
 (aL (bM smT smB)
 (bO (vD (cY (aA (eV 4) (aA (eV 5) aK)))))))))):=id rfl
structure Sml(rs:List Rw)(sg N:Nat):Prop where
 m:Mach rs sg
 e:EndW rs sg 40 N
 n:N<=40
 few:(bfW rs sg N).length<=40
 s2:sg<=2
 r5:rs.length<=5
theorem ways40{rs:List Rw}{sg:Nat}(M:Mach rs sg)(s2:sg<=2)(r5:rs.length<=5):(cV [.d (bE rs),.d (.int (sg:Int)),.d (.int 40)]=.ok (.d .none)/\rs.length≠1)\/∃ N,cV [.d (bE rs),.d (.int (sg:Int)),.d (.int 40)]=.ok (.d (fN rs sg N))/\Sml rs sg N:=by
 obtain ⟨N,hN,E⟩:=aDZ rs sg 40
 have h:=aQU M E (by decide) (by decide) hN
 have h:cV [.d (bE rs),.d (.int (sg:Int)),.d (.int 40)]=_:=h
 by_cases q:40 < (bfW rs sg N).length
 ·rw[AG q] at h
  refine .inl ⟨h,fun h1=>?_⟩
  have:(bfW rs sg N).length<=16:=aNM M h1 (bfW rs sg N) (rW _ _ _) fun x hx=>rX M (n:=N) (by omega) hx
  omega
 ·rw[AH q] at h
  exact .inr ⟨N,h,M,E,hN,by omega,s2,r5⟩
theorem aNN{ns:List Int}{at' sg:Nat}(s1:1<=sg)(s2:sg<=2):∀ (n:Nat) (rs:List Rw) (y:PyData),1<=n->n<=5->Mach rs sg->rs.length=n->cV [.d (bE rs),.d (.int (sg:Int)),.d (.int 40)]=.ok (.d y)->
  ∃ rs' N,aL (bM smT smB) (bO (vD (cY (aA (eV 4) (aA (eV 5) aK))))) [some (.d (fQ ns)),some (.d (.int (at':Int))),some (.d (.int (sg:Int))),some (.d (.int (n:Int))),some (.d (bE rs)),some (.d y)]=.ok (.rt (.d (.tuple [bE rs',fN rs' sg N])))/\Sml rs' sg N:=by
 intro n
 induction n with
 | zero=>intro rs y h;omega
 | succ n ih=>
  intro rs y h1 h5 M hl hw
  rcases ways40 M s2 (by omega) with ⟨e,hne⟩|⟨N,e,S⟩
  ·rw[e] at hw
   cases hw
   have hT:smT [some (.d (fQ ns)),some (.d (.int (at':Int))),some (.d (.int (sg:Int))),some (.d (.int ((n+1:Nat):Int))),some (.d (bE rs)),some (.d .none)]=.ok true:=by
    simp[smT,iW]
   obtain ⟨rs2,e2,M2,l2⟩:=aHE (ns:=ns) (at':=(at':Int)+2) (n:=n) (sg:=sg) (by omega) (by omega) (by omega) s1 (by omega)
   obtain ⟨y2,hy2⟩:∃ y2,cV [.d (bE rs2),.d (.int (sg:Int)),.d (.int 40)]=.ok (.d y2):=by
    rcases ways40 M2 s2 (by omega) with ⟨e,_⟩|⟨N,e,_⟩
    · exact ⟨_, e⟩
    · exact ⟨_, e⟩
   have hB:smB [some (.d (fQ ns)),some (.d (.int (at':Int))),some (.d (.int (sg:Int))),some (.d (.int ((n+1:Nat):Int))),some (.d (bE rs)),some (.d .none)]=.ok (.nx [some (.d (fQ ns)),some (.d (.int (at':Int))),some (.d (.int (sg:Int))),some (.d (.int (n:Int))),some (.d (bE rs2)),some (.d y2)]):=by
    have hn:((n+1:Nat):Int) - 1=(n:Int):=by omega
    simp only[smB,bR,pB,oE,jZ,jN,lA,A2,A1,R.bind_ok,aP2,hn,BH,BA,nN,i8,fY,v4,rQ,BG,BR,Nat.reduceAdd,CF,e2,hy2]
   obtain ⟨rs',N,e3,S⟩:=ih rs2 y2 (by omega) (by omega) M2 l2 hy2
   refine ⟨rs',N,?_,S⟩
   rw[bR] at e3 ⊢
   rw[gN hT hB]
   exact e3
  ·rw[e] at hw
   cases hw
   refine ⟨rs,N,?_,S⟩
   have hT:smT [some (.d (fQ ns)),some (.d (.int (at':Int))),some (.d (.int (sg:Int))),some (.d (.int ((n+1:Nat):Int))),some (.d (bE rs)),some (.d (fN rs sg N))]=.ok false:=by
    simp[smT,iW,fN]
   rw[bR,eQ hT]
   simp
theorem aNO(ns:List Int)(at':Nat):∃ rs sg N,iD [.d (fQ ns),.d (.int (at':Int))]=.ok (.d (.tuple [bE rs,fN rs sg N]))/\Sml rs sg N:=by
 obtain ⟨v0,hv0⟩:=rT ns (at':Int)
 obtain ⟨v1,hv1⟩:=rT ns ((at':Int)+1)
 have k2:dMod (.int v0) (.int 2)=.ok (.int (v0 % 2)):=dW (by decide)
 obtain ⟨sg,hs,s1,s2⟩:∃ sg:Nat,1+v0 % 2=(sg:Int)/\1<=sg/\sg<=2:=⟨(1+v0 % 2).toNat,by omega,by omega,by omega⟩
 obtain ⟨m,hm,m1,m5⟩:∃ m:Int,dIx (.list [.int 5,.int 3]) (.int ((sg:Int) - 1))=.ok (.int m)/\1<=m/\m<=5:=by
  have:sg=1\/sg=2:=by omega
  rcases this with rfl|rfl
  · exact ⟨5, rfl, by decide, by decide⟩
  · exact ⟨3, rfl, by decide, by decide⟩
 have k3:dMod (.int v1) (.int m)=.ok (.int (v1 % m)):=dW (by omega)
 have g1:=C7 v1 (show m≠0 by omega)
 have g2:=CL v1 (show 0 < m by omega)
 obtain ⟨n,hn,n1,n5⟩:∃ n:Nat,1+v1 % m=(n:Int)/\1<=n/\n<=5:=⟨(1+v1 % m).toNat,by omega,by omega,by omega⟩
 obtain ⟨rs2,e2,M2,l2⟩:=aHE (ns:=ns) (at':=(at':Int)+2) (n:=n) (sg:=sg) (by omega) (by omega) (by omega) s1 (by omega)
 obtain ⟨y2,hy2⟩:∃ y2,cV [.d (bE rs2),.d (.int (sg:Int)),.d (.int 40)]=.ok (.d y2):=by
  rcases ways40 M2 s2 (by omega) with ⟨e,_⟩|⟨N,e,_⟩
  · exact ⟨_, e⟩
  · exact ⟨_, e⟩
 obtain ⟨rs',N,e3,S⟩:=aNN (ns:=ns) (at':=at') s1 s2 n rs2 y2 n1 n5 M2 l2 hy2
 refine ⟨rs',sg,N,?_,S⟩
 unfold iD
 rw[aQV]
 generalize aL (bM smT smB) (bO (vD (cY (aA (eV 4) (aA (eV 5) aK)))))=W at *
 simp[hv0,hv1,k2,hs,hm,k3,hn,e2,hy2,e3]
section
variable{rs:List Rw}{sg N:Nat}
structure Wy(rs:List Rw)(sg N:Nat):Prop where
 m:Mach rs sg
 len:(bfW rs sg N).length=N
 n:N<=200
noncomputable def dO(rs:List Rw)(sg N:Nat):List (List Nat):=(bfW rs sg N).map fun x=>(afW rs sg x).map (nrQ (bfW rs sg N))
noncomputable def dA(rs:List Rw)(sg N:Nat):List Str:=(zsW rs sg N).map (iY rs)
theorem Sml.wy(S:Sml rs sg N):Wy rs sg N:=⟨S.m,S.e.full S.few,by have:=S.n;omega⟩
theorem aHS(W:Wy rs sg N):aB1 rs sg N=rdW (dO rs sg N) (dA rs sg N):=by
 unfold aB1 rdW rdD bP dO dA kE
 rw[D5 (by rw[W.len];exact AK _),B1,B1]
 rfl
theorem aTN(W:Wy rs sg N)(E:EndW rs sg 200 N):fJ [.d (bE rs)]=.ok (.d (rdW (dO rs sg N) (dA rs sg N))):=by
 have h:=aHR W.m E W.n
 rw[AH (by have:=W.len;have:=W.n;omega),aHS W] at h
 exact h
theorem Wy.pos(W:Wy rs sg N):0 < N:=by
 have:=W.len
 cases N with
 | zero=>simp[bfW,bfQ] at this
 | succ n=>omega
theorem Wy.zlen(W:Wy rs sg N):(zsW rs sg N).length=N:=by
 have h:=(iP W.m N (by have:=W.n;omega)).map
 have:=DM List.length h
 rw[AB,W.len] at this
 exact this
theorem Wy.at_(W:Wy rs sg N){i:Nat}(hi:i < N):∃ z,(zsW rs sg N)[i]? = some z/\(bfW rs sg N)[i]? = some (aP rs z)/\bU sg z/\z.length<=N:=by
 have ok:=iP W.m N (by have:=W.n;omega)
 have hl:=W.zlen
 have hz:(zsW rs sg N)[i]? = some (zsW rs sg N)[i]:=AI (by omega)
 refine ⟨_,hz,?_,ok.ok _ (GC _)⟩
 rw[<-ok.map,AJ,hz];rfl
theorem Wy.rows_len(W:Wy rs sg N):(dO rs sg N).length=N:=by unfold dO;rw[AB,W.len]
theorem Wy.rdw(W:Wy rs sg N):Rdw (dO rs sg N) (dA rs sg N) sg:=by
 have s1:=W.m.sg1
 have s3:=W.m.sg3
 have n:=W.n
 have hp:=W.pos
 have hrl:=W.rows_len
 refine ⟨⟨by omega,by omega,by omega,by omega,fun r hr=>?_⟩,?_,fun w hw=>?_⟩
 ·unfold dO at hr
  obtain ⟨x,hx,rfl⟩:=A0.mp hr
  refine ⟨by rw[AB];unfold afW;rw[AB,BU],fun j hj=>?_⟩
  obtain ⟨y,hy,rfl⟩:=A0.mp hj
  have hm:y∈bfW rs sg N:=aQS (by have:=W.len;unfold bfW at this;omega) hx hy
  have:=(AE.mp (aBV hm)).1
  have:=W.len
  omega
 ·unfold dA;rw[AB,W.zlen,hrl]
 ·unfold dA at hw
  obtain ⟨z,hz,rfl⟩:=A0.mp hw
  exact aJN W.m ((iP W.m N (by omega)).ok z hz).1
end
section
variable{rows r1 r2:List (List Nat)}{ws w1 w2:List Str}{sg:Nat}{L:List Nat}{N:Nat}
end
section
variable{rows:List (List Nat)}{ws:List Str}{rs:List Rw}{sg N:Nat}{L:List Nat}
end
end Mc
namespace Fl
open PySem L2 PyProof.Rows
def rY(ρ:Sg)(σ:L2.St)(p:Addr):Prop:=∀ (j:Nat) (a:A),ρ[j]? = some (some a)->a.own=true->σ[j]? ≠ some (some (.ref p))
theorem Ab.off9{c:Ct}{ρ:Sg}{σ:L2.St}{F H:Hp}{p:Addr}{o:HO}(b:Ab c ρ σ F H)(h3:F p=none)(h4:c.H0 p=none)(hs:rY ρ σ p):Ab c ρ σ F (upd H p o) where
 len:=b.len
 fh:=fun a o' z=>by rw[aM (fun w=>by rw[w,h3] at z;cases z)];exact b.fh a o' z
 slot:=fun j a h=>by
  obtain ⟨v,h1,h2⟩:=b.slot j a h
  refine ⟨v,h1,?_⟩
  cases ho:a.own with
  | true=>exact h2.off fun z=>hs j a h ho (by rw[h1,z])
  | false=>
   cases a with
   | l xs=>cases ho
   | m xs=>cases ho
   | d x=>exact h2
   | x e=>exact h2
   | g k n f=>exact h2
   | k S=>exact h2
   | f S=>exact h2
   | o S=>exact h2
 apart:=b.apart
 f0:=b.f0
 h0:=fun a o' z=>by rw[aM (fun w=>by rw[w,h4] at z;cases z)];exact b.h0 a o' z
 n0:=b.n0
 t0:=b.t0
theorem Ab.pub9{c:Ct}{ρ:Sg}{σ:L2.St}{F H:Hp}{p:Addr}{o:HO}(b:Ab c ρ σ F H)(h2:H p=some o)(h3:F p=none)(h4:c.H0 p=none)(hs:rY ρ σ p):Ab c ρ σ (upd F p o) H:=by
 have sf:aI F (upd F p o):=aI.upd h3
 exact {
  len:=b.len
  fh:=fun a o' z=>by
   by_cases w:a=p
   ·subst w;rw[aY] at z;rw[h2];exact z
   ·rw[aM w] at z;exact b.fh a o' z
  slot:=fun j a h=>by
   obtain ⟨w,hw,q2⟩:=b.slot j a h
   refine ⟨w,hw,?_⟩
   have off:∀ r,a.own=true->w=.ref r->F r=none->upd F p o r=none:=fun r oa e f=>by
    rw[aM]
    ·exact f
    ·intro z
     subst z
     exact hs j a h oa (by rw[hw,e])
   cases a with
   | l zs=>obtain ⟨r,ws,e,q1,q2,q3,q4⟩:=q2;exact ⟨r,ws,e,q1,off r rfl e q2,q3,q4.same sf⟩
   | m kvs=>obtain ⟨r,ws,e,q1,q2,q3,q4⟩:=q2;exact ⟨r,ws,e,q1,off r rfl e q2,q3,q4.same sf⟩
   | d x=>exact DatV.same sf q2
   | x e=>exact AF.same (g:=c.g) (K:=c.K) (mg:=c.mg) (a:=.x e) sf q2
   | g k n f=>exact AF.same (g:=c.g) (K:=c.K) (mg:=c.mg) (a:=.g k n f) sf q2
   | k S=>obtain ⟨S,f,cl,doc,pm,cc,ct,h0,h1,h2,h3,h4⟩:=q2;exact ⟨S,f,cl,doc,pm,cc,ct,h0,h1,sf _ _ h2,sf _ _ h3,h4⟩
   | f kvs=>exact AF.same (g:=c.g) (K:=c.K) (mg:=c.mg) (a:=.f kvs) sf q2
   | o e=>exact AF.same (g:=c.g) (K:=c.K) (mg:=c.mg) (a:=.o e) sf q2
  apart:=b.apart
  f0:=fun a o z=>sf a o (b.f0 a o z)
  h0:=b.h0
  n0:=fun a z n=>by
   by_cases w:a=p
   ·subst w;exact .inl h4
   ·rw[aM w] at n;exact b.n0 a z n
  t0:=b.t0}
theorem aB2{α:Type}{l:List α}{i:Nat}{x:α}(h:l[i]? = some x):l.set i x=l:=by
 obtain ⟨hl,e⟩:=AE.mp h
 rw[<-e];exact List.set_getElem_self hl
structure Own9(c:Ct)(F H:Hp)(ρ:Sg)(σ:L2.St)(i:Nat)(p b:Addr)(u:V)(ws:List V):Prop where
 s:σ[i]? = some (some (.ref p))
 ne:p≠b
 hp:H p=some (.lst [u,.ref b])
 hb:H b=some (.lst ws)
 fp:F p=none
 fb:F b=none
 p0:c.H0 p=none
 b0:c.H0 b=none
 np:rY ρ σ p
 nb:rY ρ σ b
theorem Own9.ext{c:Ct}{F H F' H':Hp}{ρ:Sg}{σ:L2.St}{i:Nat}{p b:Addr}{u:V}{ws:List V}(h:Own9 c F H ρ σ i p b u ws)(e:Ext F H F' H'):Own9 c F' H' ρ σ i p b u ws:=
 ⟨h.s,h.ne,e.hh _ _ h.hp,e.hh _ _ h.hb,e.stay h.fp h.hp (fun _ z=>nomatch z),e.stay h.fb h.hb (fun _ z=>nomatch z),h.p0,h.b0,h.np,h.nb⟩
theorem Own9.done{c:Ct}{F H:Hp}{ρ:Sg}{σ:L2.St}{i:Nat}{p b:Addr}{u:V}{ws ws':List V}{d1:PyData}{ys:List PyData}(h:Own9 c F H ρ σ i p b u ws)(ab:Ab c ρ σ F H)(h1:DatV c.K F u d1)(h2:DatVs c.K F ws' ys) :
  ∃ F',aI F F'/\Ab c (ρ.set i (some (.d (.list [d1,.list ys])))) σ F' (upd H b (.lst ws')):=by
 have a1:=(ab.off9 (o:=.lst ws') h.fb h.b0 h.nb).pub9 (p:=b) aY h.fb h.b0 h.nb
 have a2:=a1.pub9 (p:=p) (o:=.lst [u,.ref b]) (by rw[aM h.ne];exact h.hp) (by rw[aM h.ne];exact h.fp) h.p0 h.np
 have s1:aI F (upd F b (.lst ws')):=aI.upd h.fb
 have s2:aI (upd F b (.lst ws')) (upd (upd F b (.lst ws')) p (.lst [u,.ref b])):=aI.upd (by rw[aM h.ne];exact h.fp)
 have a3:=a2.setA (i:=i) (a:=.d (.list [d1,.list ys])) (v:=.ref p) (.lst (SqL.of aY) (.cons ((h1.same s1).same s2) (.cons (.lst (SqL.of (by rw[aM (BN h.ne)];exact aY)) ((h2.same s1).same s2)) .nil)))
 rw[aB2 h.s] at a3
 exact ⟨_,fun a o z=>s2 a o (s1 a o z),a3⟩
end Fl
namespace L2
open PySem PySem.Spec PyProof.Rows
structure ClsM(K:Frag)(C:Addr)(m:Str)(f:Addr):Prop where
 sp:PySem.W.specialIn K (.ref C) "__getattribute__"=some (some (.builtin "type.__getattribute__"))
 rd:PySem.W.readsIn K C (.type "type")=true
 fc:PySem.W.findCls K (.ref C) (.type "type") m=some (.val (.ref f))
 kp:PySem.W.keepIn K (.ref f)=true
def spO(C:Addr)(fs:List Str):Sp:=fun vs H Q _=>∃ x dx us,vs=.ref x::us/\us.length=fs.length/\H x=some (.ins C dx [])/\Q .non (upd H x (.ins C dx (fs.zip us)))
structure MkAt(P:Program)(w:World)(K:Frag)(mg:Str->Option Value)(base:Heap)(k:Nat)(cn:Str)(fs:List Str)(C:Addr):Prop where
 m:mg cn=some (.ref C)
 i:∃ f fd,Mk K C f/\FnOk P w K mg base CX0 k f fd ("self"::fs) (spO C fs)/\iT K fd ("self"::fs) []
end L2
namespace Fl
open PySem L2 PyProof.Rows
section
variable{X:Cx}{c:Ct}{E:XK}{e o:Expr}{es:List Expr}{pos apos:Pos}
theorem qZ{V W:Type}{g:Str}:∀ {fvs:List (Str×V)} {fs:List (Str×W)},fvs.map (·.1)=fs.map (·.1)->fs.lookup g=none->fvs.lookup g=none
 | [],[],_,_=>rfl
 | [],_::_,h,_=>by simp at h
 | _::_,[],h,_=>by simp at h
 | (a,v)::fvs,(b,x)::fs,h,e=>by
  rw[AW,AW] at h
  injection h with h1 h2
  simp only at h1
  subst h1
  rw[BC] at e ⊢
  cases q:(g == a) with
  | true=>rw[q] at e;cases e
  | false=>rw[q] at e;exact qZ h2 e
end
def aFC(ρ:Sg):Bool:=ρ.all fun o=>match o with
 | some a=>!a.own
 | none=>true
theorem wJ{ρ:Sg}{σ:L2.St}{p:Addr}(h:aFC ρ=true):rY ρ σ p:=fun j a hj ho=>by
 have z:=BT.mp h _ (AL hj)
 simp only[ho] at z
 cases z
structure OwnL(c:Ct)(F H:Hp)(σ:L2.St)(i:Nat)(p:Addr)(qs:List Addr)(vss:List (List V)):Prop where
 s:σ[i]? = some (some (.ref p))
 hp:H p=some (.lst (qs.map V.ref))
 fp:F p=none
 p0:c.H0 p=none
 np:p∉qs
 nd:qs.Nodup
 len:vss.length=qs.length
 q:∀ (j:Nat) (q:Addr) (vs:List V),qs[j]? = some q->vss[j]? = some vs->H q=some (.lst vs)/\F q=none/\c.H0 q=none
theorem OwnL.ext{c:Ct}{F H F' H':Hp}{σ:L2.St}{i:Nat}{p:Addr}{qs:List Addr}{vss:List (List V)}(h:OwnL c F H σ i p qs vss)(e:Ext F H F' H'):OwnL c F' H' σ i p qs vss:=
 ⟨h.s,e.hh _ _ h.hp,e.stay h.fp h.hp (fun _ z=>nomatch z),h.p0,h.np,h.nd,h.len,fun j q vs h1 h2=>by
  obtain ⟨a,b,d⟩:=h.q j q vs h1 h2
  exact ⟨e.hh _ _ a,e.stay b a (fun _ z=>nomatch z),d⟩⟩
theorem aD1{c:Ct}{ρ:Sg}{σ:L2.St}{H:Hp}(hn:aFC ρ=true):∀ (qs:List Addr) (vss:List (List V)) {F:Hp},Ab c ρ σ F H->qs.Nodup->vss.length=qs.length->(∀ (j:Nat) (q:Addr) (vs:List V),qs[j]? = some q->vss[j]? = some vs->H q=some (.lst vs)/\F q=none/\c.H0 q=none)->
  ∃ F',aI F F'/\Ab c ρ σ F' H/\(∀ (j:Nat) (q:Addr) (vs:List V),qs[j]? = some q->vss[j]? = some vs->F' q=some (.lst vs))/\∀ a,a∉qs->F' a=F a
 | [],_,F,ab,_,_,_=>⟨F,cK F,ab,fun j q vs h=>by simp at h,fun _ _=>rfl⟩
 | q::qs,[],F,ab,_,hl,_=>by simp at hl
 | q::qs,vs::vss,F,ab,nd,hl,h=>by
  obtain ⟨a,b,d⟩:=h 0 q vs rfl rfl
  have ab1:=ab.pub9 a b d (wJ hn)
  have nq:q∉qs:=(CD.mp nd).1
  obtain ⟨F',s1,ab2,k1,k2⟩:=aD1 hn qs vss ab1 (CD.mp nd).2 (by simpa using hl) (fun j r ws e1 e2=>by
   obtain ⟨x,y,z⟩:=h (j+1) r ws (by simpa using e1) (by simpa using e2)
   exact ⟨x,by rw[aM (fun w=>nq (by rw[<-w];exact AL e1))];exact y,z⟩)
  refine ⟨F',fun x o z=>s1 x o (aI.upd b x o z),ab2,fun j r ws e1 e2=>?_,fun x hx=>?_⟩
  ·cases j with
   | zero=>simp at e1 e2;subst e1 e2;rw[k2 q nq,aY]
   | succ j=>exact k1 j r ws (by simpa using e1) (by simpa using e2)
  ·rw[AS,GF] at hx
   rw[k2 x hx.2,aM hx.1]
theorem aB3{K:Frag}{F F2:Hp}(s:aI F F2):∀ {qs:List Addr} {vss:List (List V)} {xss:List (List PyData)},vss.length=qs.length->xss.length=qs.length->(∀ (j:Nat) (q:Addr) (vs:List V),qs[j]? = some q->vss[j]? = some vs->F2 q=some (.lst vs))->(∀ (j:Nat) vs xs,vss[j]? = some vs->xss[j]? = some xs->DatVs K F vs xs)->DatVs K F2 (qs.map V.ref) (xss.map PyData.list)
 | [],_,[],_,_,_,_=>.nil
 | [],_,_::_,_,h,_,_=>by simp at h
 | q::qs,[],_,h,_,_,_=>by simp at h
 | q::qs,_,[],_,h,_,_=>by simp at h
 | q::qs,vs::vss,xs::xss,h1,h2,h3,h4=>.cons (.lst (SqL.of (h3 0 q vs rfl rfl)) ((h4 0 vs xs rfl rfl).same s)) (aB3 s (by simpa using h1) (by simpa using h2) (fun j r ws e1 e2=>h3 (j+1) r ws (by simpa using e1) (by simpa using e2)) (fun j r ws e1 e2=>h4 (j+1) r ws (by simpa using e1) (by simpa using e2)))
theorem OwnL.done{c:Ct}{F H:Hp}{ρ:Sg}{σ:L2.St}{i:Nat}{p:Addr}{qs:List Addr}{vss:List (List V)}{xss:List (List PyData)}(h:OwnL c F H σ i p qs vss)(ab:Ab c ρ σ F H)(hn:aFC ρ=true)(hx:xss.length=qs.length)(hd:∀ (j:Nat) vs xs,vss[j]? = some vs->xss[j]? = some xs->DatVs c.K F vs xs) :
  ∃ F',aI F F'/\Ab c (ρ.set i (some (.d (.list (xss.map PyData.list))))) σ F' H:=by
 obtain ⟨F1,s1,ab1,k1,k2⟩:=aD1 hn qs vss ab h.nd h.len h.q
 have fp:F1 p=none:=by rw[k2 p h.np];exact h.fp
 have ab2:=ab1.pub9 h.hp fp h.p0 (wJ hn)
 have s2:aI F1 (upd F1 p (.lst (qs.map V.ref))):=aI.upd fp
 have ab3:=ab2.setA (i:=i) (a:=.d (.list (xss.map PyData.list))) (v:=.ref p) (.lst (SqL.of aY) (aB3 (fun a o z=>s2 a o (s1 a o z)) h.len hx (fun j q vs e1 e2=>s2 _ _ (k1 j q vs e1 e2)) hd))
 rw[aB2 h.s] at ab3
 exact ⟨_,fun a o z=>s2 a o (s1 a o z),ab3⟩
end Fl
namespace L2
open PySem PySem.Spec PyProof.Rows
end L2
namespace Fl
open PySem L2 PyProof.Rows
end Fl
namespace Zp
open PySem
structure Jk(s0:Heap)(d it S:Addr)(ar:Array DictEntry)(ep:Nat)(acc:Array Value)(h:Heap):Prop where
 size:acc.size<=ar.size
 told:acc.toList=(ar.toList.take acc.size).map (·.key)
 iter:h.IsKeyIter it d acc.size ar.size ep
 raw:Raw h d ar ep
 keep:∀ c o,c≠it->c≠S->s0.get? c=some o->h.get? c=some o
end Zp
namespace Fl
open PySem L2 PyProof.Rows
def BxK(c:Ct)(E':XK)(σ:L2.St)(D:iS)(F H:Hp):R Unit->Prop
 | .bad=>False
 | .ok _=>∀ F' H',Ext F H F' H'->D.nx σ H'
 | .ex e=>∀ a C F' H',Ext F H F' H'->kU c.K c.mg F' e a C->E' (.ref C) (some a) H'
theorem BxK.ext{c:Ct}{E':XK}{σ:L2.St}{D:iS}{F H F1 H1:Hp}(s:Ext F H F1 H1):∀ {r:R Unit},BxK c E' σ D F H r->BxK c E' σ D F1 H1 r
 | .bad,h=>h
 | .ok _,h=>fun F' H' e=>h F' H' (s.trans e)
 | .ex _,h=>fun a C F' H' e=>h a C F' H' (s.trans e)
def aH2:Sg->R Unit:=fun _=>.ok ()
theorem kF{x:Const}{es:List Expr}{k:Nat}{p:Pos}{env:Env}:starEach (.Constant x k p::es) env=(false,eval (.Constant x k p) env)::starEach es env:=by rfl
end Fl
namespace L2
open PySem PySem.Spec PyProof.Rows
theorem aNP{prog:Program}{w:World}{A:Around}{E:Value->Shared->Prop}{s:Shared}{l:Addr}{items:Array Value}{k:Nat}{x:Int}{u:Tok}{Q:Value->Shared->Prop}
  (hl:s.heap.get? l=some {cls:=.type "list",dict:=none,data:=.seq items k,slots:=#[]})
  (hlo : -(2 ^ 63:Int)<=x) (hhi:x < 2 ^ 63) (hsz:items.size * x.toNat<=2 ^ 24)
  (h:Q (.ref s.heap.objs.size) {s with heap:=s.heap.push {cls:=.type "list",data:=.seq (List.foldl (fun x1 x2=>x1++x2) #[] (List.replicate (if items.isEmpty=true then 0 else x.toNat) items))}}) :
  wpAny (model prog w) A (binaryOp .Mult (.ref l) (.int x u)) Q E s:=
 wpAny_binaryOp_repeat_ref (T:="list") (U:="int") (by decide) ⟨_,hl,rfl⟩ (fun s'=>typeIs_int s' x u) noFill_list_mul F.fills_int_mul F.slot_int_rmul repeat_list F.slot_int_index.lookup
  (E2 F.slot_int_rmul (typeIs_int s x u) F.entry_int_rmul (F.args_int_rmul_2 _ _) (int___rmul___int_list x u l items k)
   ⟨hl,rfl,⟨_,hl,rfl⟩,E2 F.slot_list_mul ⟨_,hl,rfl⟩ F.entry_list_mul (F.args_list_mul_2 _ _)
    (AutoListH.list___mul___list_int_3 l items k x u (by simp[Builtin.List.listFitsIndex];omega) (by omega) (by simp[Builtin.List.listTooLong,sizeLine];omega))
    ⟨hl,h⟩⟩)
def aR8:R2:=fun x y H Q=>∃ p vs i,x=.ref p/\y=.int i/\H p=some (.lst vs)/\vs≠[] /\ -(2 ^ 63:Int)<=i/\i < 2 ^ 63/\vs.length * i.toNat<=16777216/\∀ r,H r=none->Q (.ref r) (upd H r (.lst (List.replicate i.toNat vs).flatten))
theorem aNQ{X:Cx}:OpR X (binaryOp .Mult) aR8:=by
 intro pins s σ H v u x y Q I rx ry h
 obtain ⟨p,vs,i,rfl,rfl,hp,hne,h1,h2,h3,q⟩:=h
 cases rx
 obtain ⟨t,rfl⟩:=ry
 obtain ⟨z,its,n,r,hl⟩:=(show cO X.prog X.w H s.heap p (.lst vs) from I.hok p _ hp)
 have hlen:its.length=vs.length:=r.length.symm
 refine aNP (items:=its.toArray) hl h1 h2 (by rw[BF,hlen];exact h3) ?_
 have hem:its.toArray.isEmpty=false:=by
  cases its with
  | nil=>cases vs with
   | nil=>exact absurd rfl hne
   | cons _ _=>cases hlen
  | cons _ _=>rfl
 have ea:=aC4 its i.toNat []
 rw[B7] at ea
 rw[hem,AH (by decide),show (#[]:Array Value)=([]:List Value).toArray from rfl,ea]
 exact ⟨.ref _,_,I.lnew (t':=s.toks) (Fl.aAU r _) (by rw[aLH];have:sizeLine=16777216:=rfl;rw[E3] at h3;omega),rfl,q _ I.fresh⟩
end L2
namespace Fl
open PySem L2 PyProof.Rows
def aKX(xs:List PyData):PyData->R (List PyData)
 | .int i=>if xs≠[] /\ -(2 ^ 63:Int)<=i/\i < 2 ^ 63/\xs.length * i.toNat<=16777216 then .ok (List.replicate i.toNat xs).flatten else .bad
 | _=>.bad
def aFD(f:Sg->R (List PyData))(g:Sg->R PyData):Sg->R (List PyData):=fun ρ=>(f ρ).bind fun xs=>(g ρ).bind fun y=>aKX xs y
section
variable{X:Cx}{c:Ct}{E:XK}{a b:Expr}{pos:Pos}
theorem aD2{fa:Sg->R (List PyData)}{fb:Sg->R PyData}(ha:PN X c E a fa)(hb:PR X c E b fb):PN X c E (.BinOp a .Mult b pos) (aFD fa fb):=PE.imp (aJ9 aNQ ha hb) fun σ H Q ⟨ρ,F,ab,k⟩=>by
 refine ⟨ρ,F,ab,(Rk.bind k).imp fun xs _ q v F1 H1 s1 r1=>?_⟩
 obtain ⟨p,vs,rfl,e1,e2,e3,e4⟩:=r1
 refine ⟨ρ,F1,ab.ext s1,((Rk.bind q).ext s1).imp fun y _ q u F2 H2 s2 r2=>?_⟩
 cases y with
 | int i=>
  unfold aKX at q
  dsimp only at q
  split at q
  ·rename_i hz
   obtain rfl:=aZ.int_of r2
   refine ⟨p,vs,i,rfl,rfl,s2.hh _ _ e2,fun z=>hz.1 ?_,hz.2.1,hz.2.2.1,by rw[e4.length];exact hz.2.2.2,fun r hr=>?_⟩
   ·have:=e4.length
    rw[z] at this
    exact GM.mp this.symm
   ·exact Rk.ok q (.ref r) F2 _ ((s1.trans s2).trans (Ext.own s2.fh hr)) ⟨r,_,rfl,bZ (s1.trans s2).hh hr,aY,bZ s2.fh hr,yT (e4.same s2.ff) _⟩
  ·exact q.elim
 | _=>exact q.elim
end
end Fl
namespace Mc
open PySem L2 PyProof.Rows Fl
noncomputable def pK:Sg->R Fw:=(aL (eW 5 (dG aK))
 (aL (k6 (iA (rV 0)) (stN 6) (aL (bW 7 (vD (e2 dIx (eL (dG (aA (eC (.str "out")) (aA (eV 0) aK)))) (e1 dInt (e2 dEq (rV 6) (rV 2))))))
 (fH 5 (cY (aA (e2 dIx (eL (dG (aA (eC (.int 0)) (aA (eC (.str "out")) aK)))) (e1 dInt (e2 dGt (rV 6) (eC (.int 0))))) (aA (e1 dTup (eL (aFD (dG (aA (cY (aA (e2 dMod (e2 cR (rV 6) (eC (.int 1))) (rV 0)) (aA (eC (.int 1)) aK))) aK)) (rV 4)))) (aA (eV 7) aK)))))))
 (aL (k6 (iA (rV 1)) (stN 6) (fH 5 (cY (aA (e2 dIx (eL (dG (aA (eC (.str "out")) (aA (eC (.str "by")) aK)))) (e1 dInt (e2 dEq (rV 6) (rV 3)))) (aA (e1 dTup (eL (aFD (dG (aA (cY (aA (e2 cR (rV 0) (e2 dMod (e2 cR (rV 6) (eC (.int 1))) (rV 1))) (aA (e1 dNeg (eC (.int 1))) aK))) aK)) (rV 4)))) (aA (eC (.str "out")) aK))))))
 (bO (vD (e1 dTup (rV 5)))))))
noncomputable def jP:List A->R A:=fnF 8 pK
end Mc
namespace Fl
open PySem L2 PyProof.Rows
theorem aFE(a b:Value):selfAndSome "tuple.index" "index" 1 3 {pos:=[a,b]}=pure (a,[b]):=rfl
theorem zF(l:Addr)(items:Array Value)(n:Nat)(x:Value)(e:Value->Bool)(j:Nat)(hj:j < items.size)(h1:e items[j]=true)(h2:∀ (m:Nat) (hm:m < items.size),m < j->e items[m]=false) :
  Meets (Builtin.«tuple.index» {pos:=[.ref l,x]}) fun A R s=>(∃ o,s.heap.get? l=some o/\o.data=Data.seq items n)/\(∀ y,y∈items->SeqAt.EqAt A.in1 s y x (e y))/\R (.ok (.ret (.int j s.toks))) {heap:=s.heap,gens:=s.gens,drawn:=s.drawn,toks:=s.toks+1,os:=s.os}:=by
 intro prog w A R s ⟨⟨o,ho,hd⟩,he,q⟩
 unfold Builtin.«tuple.index»
 rw[aFE]
 refine AA (AD ?_)
 dsimp only
 refine AA (wpAny_tupleItemsOf ho hd ?_)
 refine AA (AD ?_)
 refine AA (AD ?_)
 refine AA ?_
 rw[Std.Legacy.Range.forIn_eq_forIn_range']
 refine wpAny_forIn_list _ (fun rest b s'=>∃ k,rest=List.range' k (items.size - k)/\k<=j/\b=(none,())/\s'=s) _ ?_ ?_ _ _ ⟨0,?_,CH _,rfl,rfl⟩
 ·rintro k0 rest b s' ⟨k,hk,hkj,rfl,rfl⟩
  have hsz:items.size - k=items.size - (k+1)+1:=by omega
  rw[hsz,List.range'_succ] at hk
  injection hk with e1 e2
  subst e1 e2
  have hlt:k0 < items.size:=by omega
  have hg:items[k0]? = some items[k0]:=Array.getElem?_eq_getElem hlt
  rw[hg]
  dsimp only
  refine AA (he _ (Array.getElem_mem hlt) prog w _ _ ?_)
  by_cases hkj':k0=j
  ·subst hkj'
   rw[h1,AG rfl]
   refine AA ?_
   refine AA (wpAny_mkInt ?_)
   refine AD ?_
   refine AD ?_
   exact AD q
  ·rw[h2 k0 hlt (by omega),AH (by decide)]
   exact AD ⟨k0+1,rfl,by omega,rfl,rfl⟩
 ·rintro b s' ⟨k,hk,hkj,rfl,rfl⟩
  have:=DM List.length hk
  rw[List.length_range'] at this
  simp at this
  omega
 ·simp[Std.Legacy.Range.size]
def uT:PyData->PyData->R PyData
 | .tuple xs,x=>if SeqAt.shaped x=true/\SeqAt.shaped (.tuple xs)=true/\xs.length<=16777216 then (match xs.findIdx? fun y=>PyData.eqv y x with|some j=>.ok (.int j)|none=>.bad) else .bad
 | _,_=>.bad
def aFF:PyData->Bool
 | .tuple _=>true
 | _=>false
def aFG(f g:Sg->R PyData):Sg->R PyData:=fun ρ=>(f ρ).bind fun x=>if aFF x=true then (g ρ).bind fun y=>uT x y else .bad
def rTI(K:Frag):V->List V->Hp->VK->Prop:=fun x vs H Q=>∃ xs d u j,vs=[u]/\DatV K H x (.tuple xs)/\DatV K H u d/\SeqAt.shaped d=true/\SeqAt.shaped (.tuple xs)=true/\xs.length<=16777216/\(xs.findIdx? fun y=>PyData.eqv y d)=some j/\Q (.int j) H
theorem zB{X:Cx}(hu:X.A.units+64 < cLine):MtR X "tuple.index" (rTI X.K):=by
 intro pins s σ H x vs v us Q I rx rv h
 obtain ⟨xs,d,u,j,rfl,hx,hd,s1,s2,hl,hj,q⟩:=h
 obtain ⟨u',rfl,ru⟩:=rv.one
 obtain ⟨as,r1⟩:=DatV.reads I hx rx
 obtain ⟨bs,r2⟩:=DatV.reads I hd ru
 have hs:=p4 s2
 have hm:=nH (b:=d.depth) hs.2
 cases r1 with
 | tuple h1 h2 h3 h4=>
  rename_i a o its n
  have hmap:=SeqAt.readsAll_map _ _ _ hs.1 h4
  have hlen:its.toList.length=xs.length:=by rw[<-hmap,AB]
  have hsz:its.size=xs.length:=by rw[<-hlen,DB]
  rw[EU] at hj
  obtain ⟨hjl,hje,hjn⟩:=hj
  have ev:∀ m (hm:m < its.size),PyData.eqv (SeqAt.readOf s.heap its[m]) d=PyData.eqv (xs[m]'(by omega)) d:=fun m hm=>by
   have:SeqAt.readOf s.heap its[m]=xs[m]'(by omega):=by
    have z:(its.toList.map (SeqAt.readOf s.heap))[m]'(by rw[AB];simpa using hm)=xs[m]'(by omega):=by simp only[hmap]
    rw[GI] at z
    simpa using z
   rw[this]
  refine E2 EK ⟨_,h1,h2⟩ PySem.F.entry_tuple_index (PySem.F.args_tuple_index_2 _ _) (zF a its n u' (fun y=>PyData.eqv (SeqAt.readOf s.heap y) d) j (by omega) (by rw[ev j (by omega)];exact hje) (fun m hm hlt=>by rw[ev m hm];exact Bool.eq_false_iff.mpr (hjn m hlt))) ⟨⟨_,h1,h3⟩,SeqAt.items_eqAt h4 r2 hs.1 (kY s1) (by omega),.int j,H,I.tok _,⟨_,rfl⟩,q⟩
def aQW(K:Frag)(r:V->List V->Hp->VK->Prop)(to:TE)(t:TA):TE:=fun σ H Q=>to σ H fun x H1=>(∃ a xs,x=.ref a/\SqT K H1 a xs)/\t σ H1 fun xs H2=>r x xs H2 Q
theorem aNR{X:Cx}{pins:List (Addr×Obj)}{σ:L2.St}{H:Hp}{s:Shared}{a:Addr}{xs:List V}(I:Inv X pins σ H s)(h:SqT X.K H a xs):s.TypeIs (.ref a) "tuple"/\∀ b,Value.ref a=.ref b->∃ ob,s.heap.get? b=some ob/\ob.dict=none:=by
 have z:∃ o,s.heap.get? a=some o/\(o.cls=.type "tuple"/\o.dict=none):=by
  rcases h with h|⟨o,its,n,hk,hc,_⟩
  ·obtain ⟨_,its,r,o,e,c,_⟩:=h.ok I.hok
   exact ⟨o,e,c⟩
  ·exact ⟨o,I.kIn a o hk,hc⟩
 obtain ⟨o,e,c,d⟩:=z
 exact ⟨⟨o,e,c⟩,fun b q=>by cases q;exact ⟨o,e,d⟩⟩
theorem aHT{X:Cx}{o e:Expr}{es:List Expr}{to:TE}{t:TA}{name:Str}{apos cpos:Pos}{id:String}{r:V->List V->Hp->VK->Prop}(pa:PlainAttrs "tuple")(slot:Slot "tuple" name id)(hty:typeOf (.builtin id)=pure (.type "method_descriptor"))(hm:MtR X id r)(ho:PE X o to)(ha:PA X (e::es) t)
  (hbase:attributeBase o name X.env (eval o X.env)=eval o X.env:=by rfl)
  (hfew:((backTo cpos (starEach (e::es) X.env)).all (fun x=>!x.1) && (backToKw cpos (keywordEach [] X.env)).all (fun x=>x.1.isSome)
   && decide ((e::es).length+([]:List Keyword).length+(if ([]:List Keyword).isEmpty then 0 else 1) < 30))=true:=by rfl)
  (hline:(apos.endLine == cpos.line)=true:=by rfl) (hs:starEach (e::es) X.env=(false,eval e X.env)::starEach es X.env:=by rfl) (hplain:(backTo cpos (starEach es X.env)).any (·.1)=false:=by rfl) :
  PE X (.Call (.Attribute o name apos) (e::es) [] cpos) (aQW X.K r to t):=by
 intro pins s σ H Q I h
 refine ET hbase hfew hline rfl (thn (ho pins s σ H _ I h) fun v s1 zz0=>?_)
 obtain ⟨x,H1,I1,r1,ty,q1⟩:=zz0
 obtain ⟨a,xs,rfl,hq⟩:=ty
 obtain rfl:v=Value.ref a:=r1
 obtain ⟨h1,h2⟩:=aNR I1 hq
 refine ⟨"tuple",id,pa,slot,hty,h1,h2,?_⟩
 have hA:=ha cpos pins s1 σ H1 _ I1 q1
 rw[hs] at hA ⊢
 refine DZ (by show (false || (backTo cpos (starEach es X.env)).any (·.1))=false;rw[hplain]<;>rfl) (EZ ?_)
 exact thn hA fun us s2 ⟨vs,H2,I2,r2,q2⟩=>hm pins s2 σ H2 (.ref a) vs (.ref a) us Q I2 rfl r2 q2
theorem zC{X:Cx}{c:Ct}{E:XK}{e:Expr}{f g:Sg->R PyData}(hK:X.K=c.K)(h:PE X e (aQW X.K (rTI X.K) (tV (bQ c) c E f) (eN (tV (bQ c) c E g) i3))):PD X c E e (aFG f g):=PE.imp h fun σ H Q ⟨ρ,F,ab,k⟩=>by
 refine ⟨ρ,F,ab,(Rk.bind k).imp fun x ex q v F1 H1 s1 r1=>?_⟩
 cases x with
 | tuple xs=>
  have q1:Rk c E F H (g ρ) _:=Rk.bind (f:=fun y=>uT (.tuple xs) y) q
  obtain ⟨p,vs,rfl,h0,h1,h2⟩:=aZ.tup_of s1.fh r1
  refine ⟨⟨p,vs,rfl,by rw[hK];exact h1⟩,ρ,F1,ab.ext s1,(q1.ext s1).imp fun y _ q u F2 H2 s2 r2=>?_⟩
  unfold uT at q
  dsimp only at q
  split at q
  ·rename_i hs
   split at q
   ·rename_i j hj
    exact ⟨xs,y,u,j,rfl,by rw[hK];exact (aZ.ext s2 r1).heap s2.fh,by rw[hK];exact r2.heap s2.fh,hs.1,hs.2.1,hs.2.2,hj,Rk.ok q _ F2 H2 (s1.trans s2) (.int _)⟩
   ·exact q.elim
  ·exact q.elim
 | _=>exact q.elim
def gTu(z:Str)(G:List A->R A):List A->R A:=fun as=>(G as).bind fun a=>match a with | .d d=>.ok (.d (.tuple [.str z,d]))|_=>.bad
section
variable{X:Cx}{c:Ct}{E:XK}
theorem aNS{σ:L2.St}{E1:XK}{z:Str}{e0 e:Expr}{t:TE}{x1}{pos:Pos}(h0:PE (X.flyS σ E1) e0 (tC (.str z)))(h:PCl X σ E1 e t)(hs:starEach [e0,e] X.env=(false,eval e0 X.env)::starEach [e] X.env:=by rfl)(hs1:starEach [e] X.env=(false,eval e X.env)::starEach [] X.env:=by rfl) :
  PCl X σ E1 (.Tuple [e0,e] x1 pos) (aON (eN (tC (.str z)) (eN t i3))):=by
 intro pins s H Q I hq
 have h':PE (X.flyS σ E1) e (fun σ' H Q=>σ'=σ/\t σ H Q):=fun pins s σ' H Q I ⟨q1,q2⟩=>by subst q1;exact h pins s H Q I q2
 exact aFW (aH h0 (aH h' aR hs1) hs) pins s σ H Q I ⟨rfl,hq⟩
theorem aQX{g:Gb}{K:Frag}{mg:Str->Option Value}{n:Nat}{z:Str}{G:List A->R A}{vs:List V}{H:Hp}{Q:VK}{E1:XK}(h:spF g K mg n (gTu z G) vs H Q E1) :
  spF g K mg n G vs H (fun v H1=>[V.str z,v].length<=sizeLine/\∀ p,H1 p=none->Q (.ref p) (upd H1 p (.tup [.str z,v]))) E1:=by
 obtain ⟨F,as,h1,h2,h3,h4,q⟩:=h
 refine ⟨F,as,h1,h2,h3,h4,?_⟩
 unfold gTu at q
 cases hG:G as with
 | bad=>rw[hG] at q;exact q
 | ex e=>rw[hG] at q;exact q
 | ok a=>
  rw[hG] at q
  cases a with
  | d d=>
   intro v F' H' s' r'
   refine ⟨by show 2<=sizeLine;decide,fun p hp=>?_⟩
   have q':∀ v F' H',Ext F H F' H'->AF g K mg F' (.d (.tuple [.str z,d])) v->Q v H':=q
   exact q' _ _ _ (s'.trans (Ext.new s'.fh hp)) (.tup (SqT.of aY) (.cons (.str z) (.cons (DatV.same (aI.upd (bZ s'.fh hp)) r') .nil)))
  | _=>exact q.elim
theorem aNT{i n j:Nat}{nx x y z:Str}{Wc:Addr}{bmW:List Value}{suite:List Stmt}{b0:Stmt}{call e0:Expr}{x1}{np hpos pos epos pos' tpos:Pos}{G:List A->R A}{f:Sg->R (List A)}{cl:List Str}{fs:Sg->R Fw}(hK:X.K=c.K)(hM:X.mg=c.mg)
  (hO:nW X) (hN:X.N.Nodup) (hj:X.N[j]? = some y) (hy:Loc X.env.scope y) (hi:X.N[i]? = some nx) (hk:X.env.scope.names.lookup nx=some .local) (hg:Gl X x) (hm:X.mg x=some (.ref Wc)) (hw:SX.ExcAny X.K Wc bmW) (hcl:m4 X.K X.mg Wc cl)
  (h0:∀ pn σ E',PE ((X.pnw pn).flyS σ E') e0 (tC (.str z)))
  (hc:∀ pn σ E',PCl (X.pnw pn) σ E' call (sH (spF c.g X.K X.mg n G) [] E' (tAv c E f)))
  (hs:∀ e,mB (X.inH e) c E (b0::suite) fs) (hdb:(x == ("__debug__":Str))=false:=by decide) (hsw:swapsWith (.Tuple [e0,call] x1 tpos) (some (.Name y pos')) epos.line X.env=pure false:=by rfl) (hf:X.fn y=true\/X.env.scope.names.lookup y=some .local:=by first|exact .inl rfl|exact .inr rfl)
  (hs1:starEach [e0,call] X.env=(false,eval e0 X.env)::starEach [call] X.env:=by rfl) (hs2:starEach [call] X.env=(false,eval call X.env)::starEach [] X.env:=by rfl) :
  PSf X c E (.Try [.Assign [.Name y pos'] (.Tuple [e0,call] x1 tpos) epos] [.ExceptHandler (some (.Name x np)) (some nx) (b0::suite) hpos] [] [] pos) (aAX i (some j) n (gTu z G) f cl fs):=
 try_read (j:=some j) hK hM hO hN hi hk hg hm hw hdb hcl (fun pins s σ H D E' I h=>aIY (aNS (h0 _ _ _) (hc _ _ _) hs1 hs2) hN hj hy I (by
  obtain ⟨ρ,F,ab,k⟩:=h
  exact ⟨ρ,F,ab,k.imp fun ds _ q vs F' H' s' r'=>aQX (q vs F' H' s' r')⟩) hsw hf) hs
end
end Fl
namespace Mc
open PySem L2 PyProof.Rows Fl
noncomputable def gF:Sg->R Fw:=(aL (sIf (e1 asB (e2 dNin (rV 1) (eC (.tuple [.str "by",.str "out",.str "ever"])))) (xH "NoWord" (aA (eC (.str "neither by, out nor ever")) aK)) sNx)
 (aL (bW 2 (bB 1 fJ (aA (vV 0) aK)))
 (aL (sIf (e1 asB (e2 dNin (rV 1) (e2 dIx (rV 2) (eC (.int 1))))) (bO (vD (eC .none))) sNx)
 (bO (bB 2 k9 (aA (vV 2) (aA (vD (aFG (e2 dIx (rV 2) (eC (.int 1))) (rV 1))) aK)))))))
noncomputable def cP:List A->R A:=fnF 3 gF
noncomputable def gA:Sg->R Fw:=(aL (bW 2 (vD (cY (aA (eC (.str "")) (aA (eC (.str "")) aK)))))
 (aL (aAX 3 (some 2) 2 (gTu "told" cP) (aA (vV 0) (aA (vV 1) aK)) ["TooMany","NoWord"] (bW 2 (vD (cY (aA (eC (.str "refused")) (aA (eL (dG (aA (rL 3 [("TooMany",false),("NoWord",true)]) (aA (rL 3 [("TooMany",true),("NoWord",false)]) (aA (rL 3 [("TooMany",true),("NoWord",true)]) aK))))) aK))))))
 (bO (vV 2))))
noncomputable def cJ:List A->R A:=fnF 4 gA
noncomputable def lfB:Sg->R Fw:=(aL (bW 8 (vD (eC .none)))
 (aL (sIf (e1 asB (e2 dIn (rV 7) (rV 5))) (bW 8 (vD (e2 dIx (rV 3) (aFG (rV 5) (rV 7))))) sNx)
 (aL (sIf (e1 asB (e2 dNe (eA (bB 2 cJ (aA (vV 1) (aA (vV 7) aK)))) (cY (aA (eC (.str "told")) (aA (eV 8) aK))))) (bO (vD (eC (.bool false)))) sNx)
 (sIf (j3 (e1 asB (e2 dIsnt (rV 8) (eC .none))) (e1 asB (e2 dNe (eA (bB 2 fE (aA (vV 1) (aA (vV 8) aK)))) (rV 7)))) (bO (vD (eC (.bool false)))) sNx))))
noncomputable def lfO:Sg->R Fw:=k6 (e1 bV (cY (aA (eC (.str "ever")) (aA (eC (.str "by")) (aA (eC (.str "out")) aK))))) (stN 7) lfB
noncomputable def lfE:Sg->R Fw:=(aL (bW 9 (vD (e2 dIx (eL (dG (aA (eC (.str "")) (aA (eC (.str "By")) (aA (eC (.str "in")) (aA (eC (.str "for ever")) (aA (eC (.str "outs")) (aA (eC (.str "a")) (aA (eC (.str "byout")) aK))))))))) (e2 dMod (eA (bB 2 bT (aA (vV 0) (aA (vD (eC (.int 20))) aK)))) (eC (.int 7))))))
 (aL (bW 10 (bB 5 jP (aA (vD (eC (.int 13))) (aA (vD (eC (.int 17))) (aA (vD (eC (.int 3))) (aA (vD (eC (.int 5))) (aA (vD (eC (.int 1))) aK)))))))
 (aL (sIf (e1 asB (e2 dNe (eA (bB 2 cJ (aA (vV 10) (aA (vV 9) aK)))) (cY (aA (eC (.str "refused")) (aA (eL (dG (aA (eC (.bool true)) (aA (eC (.bool false)) (aA (eC (.bool true)) aK))))) aK))))) (bO (vD (eC (.bool false)))) sNx)
 (aL (sIf (e1 asB (e2 dNe (eA (bB 2 cJ (aA (vV 1) (aA (vV 9) aK)))) (cY (aA (eC (.str "refused")) (aA (eL (dG (aA (eC (.bool true)) (aA (eC (.bool false)) (aA (eC (.bool true)) aK))))) aK))))) (bO (vD (eC (.bool false)))) sNx)
 (bO (vD (e2 dEq (eA (bB 2 cJ (aA (vV 10) (aA (vD (eC (.str "by"))) aK)))) (cY (aA (eC (.str "refused")) (aA (eL (dG (aA (eC (.bool false)) (aA (eC (.bool true)) (aA (eC (.bool true)) aK))))) aK))))))))))
noncomputable def aFH:Sg->R Fw:=(aL (qA (stT [(stN 1),(stN 2)]) (eA (bB 2 iD (aA (vV 0) (aA (vD (eC (.int 0))) aK)))))
 (aL (qA (stT [(stN 3),(stN 4),(stN 5)]) (eV 2))
 (aL (k6 (iA (eC (.int 2))) (stN 6) lfO) lfE)))
noncomputable def aFI:List A->R A:=fnF 11 aFH
def top(i:Nat):Stmt:=PySem.Challenge.pw_striproam_k30_first_strips_by_words.main.body.getD i (.Pass ⟨0,0,0,0⟩)
def gB:ClSt:=clE "first_to.<locals>.<lambda>" (xM (xL ((cQ (top 11)).getD 0 (.Pass ⟨0,0,0,0⟩))) 2)
def gP:Pos:=aI4 (xM (xL ((cQ (top 11)).getD 0 (.Pass ⟨0,0,0,0⟩))) 2)
def eD:ClSt:=clS "one_way.<locals>.after" ((cQ (top 19)).getD 1 (.Pass ⟨0,0,0,0⟩))
def gQ:Pos:=aPQ ((cQ (top 19)).getD 1 (.Pass ⟨0,0,0,0⟩))
def gR:ClSt:=clE "one_way.<locals>.<lambda>" (xM (xL ((cQ (top 19)).getD 2 (.Pass ⟨0,0,0,0⟩))) 2)
def gZ:Pos:=aI4 (xM (xL ((cQ (top 19)).getD 2 (.Pass ⟨0,0,0,0⟩))) 2)
def fS:ClSt:=clS "lead.<locals>.after" ((cQ (top 21)).getD 0 (.Pass ⟨0,0,0,0⟩))
def iZ:Pos:=aPQ ((cQ (top 21)).getD 0 (.Pass ⟨0,0,0,0⟩))
def jD:ClSt:=clE "lead.<locals>.<lambda>" (xM (aPP (xL ((cQ (top 21)).getD 1 (.Pass ⟨0,0,0,0⟩)))) 2)
def jQ:Pos:=aI4 (xM (aPP (xL ((cQ (top 21)).getD 1 (.Pass ⟨0,0,0,0⟩)))) 2)
def qsT:List (Pos×Str):=[(gP,("first_to.<locals>.<lambda>":Str)),(gQ,("one_way.<locals>.after":Str)),(gZ,("one_way.<locals>.<lambda>":Str)),(iZ,("lead.<locals>.after":Str)),(jQ,("lead.<locals>.<lambda>":Str))]
structure Txt(w:World)(K:Frag)(mg:Str->Option Value):Prop where
 b_ValueError:mg "ValueError"=none
 b_bool:mg "bool"=none
 b_enumerate:mg "enumerate"=none
 b_int:mg "int"=none
 b_isinstance:mg "isinstance"=none
 b_len:mg "len"=none
 b_range:mg "range"=none
 b_str:mg "str"=none
 b_tuple:mg "tuple"=none
 b_zip:mg "zip"=none
 g_MOST_BEGINNINGS:∃ t,mg "MOST_BEGINNINGS"=some (.int 200 t)
 g_SIGNS:∃ t,mg "SIGNS"=some (.str "abc" t)
 g_WORDS:∃ a,mg "WORDS"=some (.ref a)/\wY K a [.str "by",.str "out",.str "ever"]
section
variable{P:Program}{w:World}{K:Frag}{mg:Str->Option Value}{base:Heap}{TH:Hp}
theorem tW:FnScope ["machine"] ["machine"] (aN (top 6)):=by constructor<;>first|rfl|decide +kernel
theorem aCG(T:Txt w K mg)(D:DefAt K mg "signs_of" (top 6) ["machine"]):aX P w K mg base TH 1 "signs_of" ["machine"] jL:=
 @dH P w K mg base TH "signs_of" (top 6) ["machine"] ["machine"] 0 qE D tW (fun f cdv A outer s H F E hr=>by
  have nd:=tW.nd
  exact (Fl.aO (Fl.bH (aS (dF rfl (bN cG rfl T.b_len A6 (aH (aB (a9 (bA rfl) aQ (aB (a9 (bA rfl) aQ (aC (pv 0)) (aB aG))) (aB aG))) aR)))))))
theorem tX:FnScope ["machine","number"] ["machine","number"] (aN (top 7)):=by constructor<;>first|rfl|decide +kernel
theorem aCH(T:Txt w K mg)(D:DefAt K mg "cells_of" (top 7) ["machine","number"]):aX P w K mg base TH 1 "cells_of" ["machine","number"] jM:=
 @dH P w K mg base TH "cells_of" (top 7) ["machine","number"] ["machine","number"] 0 qF D tX (fun f cdv A outer s H F E hr=>by
  have nd:=tX.nd
  exact (Fl.aO (Fl.bH (aS (dM (kN (kI (N:=["row","number"]) (js:=[none,some 1]) rfl (.own (.cap rfl (.inl rfl) (.inl rfl) .nil)) (by rfl) (uB rfl (aC (pv 0)))) (by decide) (by decide) (is:=[0]) (fun cl C s0 H0 fp=>⟨_,(bK (i:=0) (show (["row","number"]:List Str).Nodup by decide +kernel) rfl (Or.inl rfl)),(bL 0),Fl.gC,(a9 (bA rfl) aQ (aB (a9 (bA rfl) aQ (aC (pv 0)) (aB aG))) (aC (pv 1)))⟩)))))))
theorem wK:FnScope ["begin","after","done","found","numbers","rows","row","thing"] ["begin","after","done"] (aN (top 9)):=by constructor<;>first|rfl|decide +kernel
theorem aFJ(T:Txt w K mg)(D:DefAt K mg "reached" (top 9) ["begin","after","done"]):aX P w K mg base TH 13 "reached" ["begin","after","done"] gK:=
 @dH P w K mg base TH "reached" (top 9) ["begin","after","done","found","numbers","rows","row","thing"] ["begin","after","done"] 12 rN D wK (fun f cdv A outer s H F E hr=>by
  have nd:=wK.nd
  exact (Fl.aD (fA (L2.aJ (i:=3) nd rfl (Or.inl rfl) (cU (aE (bD (pv 0)) aU))))
   (Fl.aD (aC7 rfl rfl (L2.aJ (i:=4) nd rfl (Or.inl rfl) (aC5 hr.units (aAW (bD (pv 0)) aG aC6))))
   (Fl.aD (fA (L2.aJ (i:=5) nd rfl (Or.inl rfl) (cU aU)))
   (Fl.aD (Fl.dI (L2.dI (dN ⟨rfl,rfl⟩) (PW.pt (Fl.lY (Fl.cS aAM uA (aB (dF rfl (bN cG rfl T.b_len A6 (aH (aC (pv 5)) aR)))) (aB (dF rfl (bN cG rfl T.b_len A6 (aH (aC (pv 3)) aR)))) (cC _)) (Fl.lF (Fl.qR (Fl.kQ (aMA (m:=12) rfl rfl rfl (hr.mono (by decide)) (uF (pv 2) (b8 fun _ _ _ h=>h) (aAZ (aC (pv 3)) (aAZ (aB (dF rfl (bN cG rfl T.b_len A6 (aH (aC (pv 5)) aR)))) aL9)))))))))
   (Fl.aD (fA (L2.aJ (i:=6) nd rfl (Or.inl rfl) (cU aU)))
   (Fl.aD (Fl.dJ (bL 7) (L2.dJ (dN ⟨rfl,rfl⟩) rfl (aIP rfl (aGX (m:=12) rfl rfl rfl (hr.mono (by decide)) (uF (pv 1) (b8 fun _ _ _ h=>h) (aE (a9 (bA rfl) aQ (aC (pv 3)) (aB (dF rfl (bN cG rfl T.b_len A6 (aH (aC (pv 5)) aR))))) aU)))) (bK (i:=7) nd rfl (Or.inl rfl))
   (Fl.aD (Fl.dR (o8 rfl rfl (lG (uE hr.units) (bD (pv 7)) (pv 4) (by with_unfolding_all rfl))) (Fl.aD (Fl.m3 rfl rfl (g9 (dF rfl (bN cG rfl T.b_len A6 (aH (aC (pv 3)) aR))) (oV (pv 4) (bD (pv 7)) (lK hr.units))))
   (Fl.aO (gJ rfl (L2.eF (gY A8 BD BE dS (pv 3) (aH (bD (pv 7)) aR)))))) Fl.cT)
   (Fl.aO (gJ rfl (L2.eF (gY A8 BD BE dS (pv 6) (aH (sR rfl rfl (sQ hr.units (pv 4) (bD (pv 7)) (fun _ _=>rfl))) aR))))))))
   (Fl.aO (gJ rfl (L2.eF (gY A8 BD BE dS (pv 5) (aH (dY rfl (cM cH rfl T.b_tuple A9 (aH (aC (pv 6)) aR))) aR)))))))))
   (Fl.aO (sN 5 (sN 3 (Fl.bH (aS (cN (aE (bD (pv 3)) (aE (bD (pv 5)) aU)))))))))))))
theorem tY:FnScope ["rows","number","came","at","row","sign","there","signs"] ["rows","number"] (aN (top 10)):=by constructor<;>first|rfl|decide +kernel
theorem aCI(T:Txt w K mg)(D:DefAt K mg "strip_to" (top 10) ["rows","number"]):aX P w K mg base TH 1 "strip_to" ["rows","number"] k8:=
 @dH P w K mg base TH "strip_to" (top 10) ["rows","number","came","at","row","sign","there","signs"] ["rows","number"] 0 qG D tY (fun f cdv A outer s H F E hr=>by
  have nd:=tY.nd
  exact (Fl.aD (o7 rfl (L2.aJ (i:=2) nd rfl (Or.inl rfl) o6))
   (Fl.aD (Fl.dJ (kZ rfl (c8 (bL 3) (c8 (bL 4) jI)) rfl) (L2.dJ (dN ⟨rfl,rfl⟩) rfl (aMN rfl (L2.aML rfl T.b_enumerate (aH (bD (pv 0)) aR))) (kS rfl (cZ (bK (i:=3) nd rfl (Or.inl rfl)) (cZ (bK (i:=4) nd rfl (Or.inl rfl)) jE)))
   (Fl.aO (Fl.dJ (kZ rfl (c8 (bL 5) (c8 (bL 6) jI)) rfl) (L2.dJ (dN ⟨rfl,rfl⟩) rfl (aMI rfl (L2.aPS rfl T.b_zip (aH (iI (lE (v:=.str "abc") rfl T.g_SIGNS.choose_spec ⟨_,rfl⟩) fun _=>.str _) (aH (bD (pv 4)) aR)))) (kS rfl (cZ (bK (i:=5) nd rfl (Or.inl rfl)) (cZ (bK (i:=6) nd rfl (Or.inl rfl)) jE)))
   (Fl.aO (aMK rfl rfl (L2.eF (aPI PySem.F.plainAttrs_dict EA PySem.F.type_dict_setdefault (aPU hr.units) (pv 2) (aH (bD (pv 6)) (aH (cN (aE (bD (pv 3)) (aE (bD (pv 5)) aU))) aR)))))))))))
   (Fl.aD (fA (L2.aJ (i:=7) nd rfl (Or.inl rfl) (cU aU)))
   (Fl.aD (Fl.dI (L2.dI (dN ⟨rfl,rfl⟩) (Fl.cS (rB rfl hr.units) nG (aC (pv 1)) (aB aG) (cC _))
   (Fl.aD (gJ rfl (L2.eF (gY A8 BD BE dS (pv 7) (aH (a9 (bA rfl) aQ (aB (sR rfl rfl (sQ hr.units (pv 2) (bD (pv 1)) (fun _ _=>rfl)))) (aB aG)) aR))))
   (Fl.aO (Fl.aJ (L2.aJ (i:=1) nd rfl (Or.inl rfl) (aS (a9 (bA rfl) aQ (aB (sR rfl rfl (sQ hr.units (pv 2) (bD (pv 1)) (fun _ _=>rfl)))) (aB aG)))))))))
   (Fl.aD (aPV (L2.eF (aOU A8 PySem.F.slot_list_reverse PySem.F.type_list_reverse aEF (pv 7))))
   (Fl.aO (Fl.bH (aS (aL2 rfl (gY GR PySem.F.slot_str_join PySem.F.type_str_join aLN (aB bY) (aH (aC (pv 7)) aR)) (by intro ρ x h;cases h;exact ⟨_,rfl⟩)))))))))))
theorem g7:CloScope ["found","at","wanted"] ["found","at"] ["wanted"] gB.scope:=⟨rfl,rfl,rfl,by decide +kernel,rfl,by decide +kernel,by decide +kernel,by decide +kernel,by decide +kernel⟩
theorem tJ:∀ y∈gB.scope.names,y.2=.free->(aN (top 11)).names.lookup y.1=some .cell\/(aN (top 11)).names.lookup y.1=some .free:=by decide +kernel
theorem rZ:(gP,("first_to.<locals>.<lambda>":Str))∈qsT:=(.head _)
theorem tK:∀ p∈qsT,p.1.line=gP.line->p.1.col=gP.col->p.2=("first_to.<locals>.<lambda>":Str):=by decide +kernel
theorem r0(T:Txt w K mg):CloOk P w K mg base TH gB ["wanted"] 12 2 (eM 3 fB):=
 @aA1 P w K mg base TH gB ["found","at","wanted"] ["found","at"] ["wanted"] 11 _ (uG 11 2 (aA (e2 dIx (rV 0) (rV 1)) aK)) rfl g7 (fun _ _ _ _ _=>Mc.bn2 fun _ _=>rfl) (fun f cc cl A outer s H F E E' hr=>by
  have nd:=g7.nd
  exact (aGX (m:=11) rfl rfl rfl (hr.mono (by decide)) (uF (pv 2) (b8 fun _ _ _ h=>h) (aE (a9 (bA rfl) aQ (aC (pv 0)) (aC (pv 1))) aU))))
theorem tZ:FnScope ["begin","after","wanted","search","found","rows"] ["begin","after","wanted"] (aN (top 11)):=by constructor<;>first|rfl|decide +kernel
theorem aCJ(T:Txt w K mg)(D:DefAtT K mg base TH qsT "first_to" (top 11) ["begin","after","wanted"])(c_reached:aX P w K mg base TH 13 "reached" ["begin","after","done"] gK)(c_strip_to:aX P w K mg base TH 1 "strip_to" ["rows","number"] k8):aX P w K mg base TH 14 "first_to" ["begin","after","wanted"] gM:=
 @xK P w K mg base TH "first_to" (top 11) ["begin","after","wanted","search","found","rows"] ["begin","after","wanted"] 13 qsT (fun q=>(fun _=>none) q) mQ D tZ (fun f c0 P0 A outer s H F E hTb hTP hr=>by
  have nd:=tZ.nd
  exact (Fl.aD (Fl.aJ (L2.aJ (i:=3) nd rfl (Or.inl rfl) (aA5 (js:=[2]) rfl rfl rfl rfl rfl rfl rfl (sV ⟨_,rfl,rfl,rfl⟩ aA6) (L2.aAE c_reached (hr.mono (by decide)) rfl (b8 fun _ _ _ h=>h) (iJ (zP (aT (pv 0))) (iJ (zP (aT (pv 1))) (iJ (aA3 (S:=gB) rfl hTP (r0 T ) (fun y hy=>g7.only (y,.free) hy rfl) (fun y hy=>A4 (g7.cap y hy)) rfl (by decide) (L2.aAC rfl hTb rfl rZ tK tJ rfl)) xJ)))))))
   (Fl.aD (Fl.aJ (L2.aJ (i:=4) nd rfl (Or.inl rfl) (aS (a9 (bA rfl) aQ (aC (pv 3)) (aB aG)))))
   (Fl.aD (Fl.aJ (L2.aJ (i:=5) nd rfl (Or.inl rfl) (aS (a9 (bA rfl) aQ (aC (pv 3)) (aB aG)))))
   (Fl.aO (Fl.bH (aS (cN (aE (bD (pv 4)) (aE (aEV (Fl.cS (i5 rfl hr.units) fZ (aB (dF rfl (bN cG rfl T.b_len A6 (aH (aC (pv 5)) aR)))) (aB (dF rfl (bN cG rfl T.b_len A6 (aH (aC (pv 4)) aR)))) (cC _)) kW (dB (cB rfl rfl rfl (b9 c_strip_to (hr.mono (by decide)) rfl (b8 fun _ _ _ h=>h) (aF (aT (pv 5)) (aF (aS (dF rfl (bN cG rfl T.b_len A6 (aH (aC (pv 5)) aR)))) bF)))))) aU))))))))))
end
section
variable{P:Program}{w:World}{K:Frag}{mg:Str->Option Value}{base:Heap}{TH:Hp}
theorem wL:FnScope ["part"] ["part"] (aN (top 14)):=by constructor<;>first|rfl|decide +kernel
theorem aFK(T:Txt w K mg)(D:DefAt K mg "is_word" (top 14) ["part"]):aX P w K mg base TH 1 "is_word" ["part"] fX:=
 @dH P w K mg base TH "is_word" (top 14) ["part"] ["part"] 0 oC D wL (fun f cdv A outer s H F E hr=>by
  have nd:=wL.nd
  exact (Fl.aO (Fl.bH (aS (vS (bN (p7 rfl (sP _)) rfl T.b_isinstance B3 (aH (aC (pv 0)) (aH (oU (v:=.ty "str") rfl T.b_str EC rfl) aR))))))))
theorem nV:FnScope ["machine","lefts"] ["machine"] (aN (top 15)):=by constructor<;>first|rfl|decide +kernel
theorem uU(T:Txt w K mg)(D:DefAt K mg "without_signs" (top 15) ["machine"]):aX P w K mg base TH 1 "without_signs" ["machine"] gL:=
 @dH P w K mg base TH "without_signs" (top 15) ["machine","lefts"] ["machine"] 0 k7 D nV (fun f cdv A outer s H F E hr=>by
  have nd:=nV.nd
  exact (Fl.aD (Fl.aJ (L2.aJ (i:=1) nd rfl (Or.inl rfl) (aS (dY rfl (cM cH rfl T.b_tuple A9 (aH (aB (dM (kN (kI (N:=["row"]) (js:=[none]) rfl (.own .nil) (by rfl) (uB rfl (aC (pv 0)))) (by decide) (by decide) (is:=[0]) (fun cl C s0 H0 fp=>⟨_,(bK (i:=0) (show (["row"]:List Str).Nodup by decide +kernel) rfl (Or.inl rfl)),(bL 0),Fl.gC,(a9 (bA rfl) aQ (aC (pv 0)) (aB aG))⟩)))) aR))))))
   (Fl.aO (Fl.bH (aS (cN (aE (a9 (bA rfl) aQ (aC (pv 1)) (aB aG)) (aE (bD (pv 1)) aU))))))))
theorem wM:FnScope ["backs","cells","room","been","cell"] ["backs","cells","room"] (aN (top 16)):=by constructor<;>first|rfl|decide +kernel
theorem aFL(T:Txt w K mg)(D:DefAt K mg "gone_on" (top 16) ["backs","cells","room"])(c_is_word:aX P w K mg base TH 1 "is_word" ["part"] fX):aX P w K mg base TH 2 "gone_on" ["backs","cells","room"] i6:=
 @dH P w K mg base TH "gone_on" (top 16) ["backs","cells","room","been","cell"] ["backs","cells","room"] 1 rO D wM (fun f cdv A outer s H F E hr=>by
  have nd:=wM.nd
  exact (Fl.aD (o7 rfl (L2.aJ (i:=3) nd rfl (Or.inl rfl) o6))
   (Fl.aD (Fl.dI (L2.dI (dN ⟨rfl,rfl⟩) (Fl.qR (Fl.kQ (dB (cB rfl rfl rfl (b9 c_is_word (hr.mono (by decide)) rfl (b8 fun _ _ _ h=>h) (aF (aT (pv 2)) bF))))))
   (Fl.aD (Fl.dR (o8 rfl rfl (lG (xE hr.units) (bD (pv 2)) (pv 3) (by with_unfolding_all rfl))) (Fl.aO (Fl.bH (aS bY))) Fl.cT)
   (Fl.aD (Fl.m3 rfl rfl (g9 gH (oV (pv 3) (bD (pv 2)) (lK hr.units))))
   (Fl.aD (Fl.aJ (L2.aJ (i:=4) nd rfl (Or.inl rfl) (aS (a9 (bA rfl) aQ (aC (pv 1)) (aC (pv 2))))))
   (Fl.aD (Fl.dR (Fl.cS (i5 rfl hr.units) fZ (aB (a9 (bA rfl) aQ (aC (pv 4)) (aB aG))) (aB aG) (cC _)) (Fl.aO (Fl.bH (aS (a9 (bA rfl) aQ (aC (pv 4)) (aB aG))))) Fl.cT)
   (Fl.aO (Fl.aJ (L2.aJ (i:=2) nd rfl (Or.inl rfl) (aS (a9 (bA rfl) aQ (aC (pv 0)) (aB (a9 (bA rfl) aQ (aC (pv 4)) (aB aG))))))))))))))
   (Fl.aO (Fl.bH (aT (pv 2)))))))
theorem zD:FnScope ["begun","cells","first","backs"] ["begun","cells"] (aN (top 17)):=by constructor<;>first|rfl|decide +kernel
theorem aHU(T:Txt w K mg)(D:DefAt K mg "longer" (top 17) ["begun","cells"])(c_gone_on:aX P w K mg base TH 2 "gone_on" ["backs","cells","room"] i6):aX P w K mg base TH 3 "longer" ["begun","cells"] iK:=
 @dH P w K mg base TH "longer" (top 17) ["begun","cells","first","backs"] ["begun","cells"] 2 uL D zD (fun f cdv A outer s H F E hr=>by
  have nd:=zD.nd
  exact (Fl.aD (Fl.aJ (L2.aJ (i:=2) nd rfl (Or.inl rfl) (cB rfl rfl rfl (b9 c_gone_on (hr.mono (by decide)) rfl (b8 fun _ _ _ h=>h) (aF (aS (a9 (bA rfl) aQ (aC (pv 0)) (aB aG))) (aF (aT (pv 1)) (aF (aS (a9 (bA rfl) aQ (aC (pv 0)) (aB aG))) bF)))))))
   (Fl.aD (Fl.aJ (L2.aJ (i:=3) nd rfl (Or.inl rfl) (aS (dY rfl (cM cH rfl T.b_tuple A9 (aH (aB (dM (kN (kI (N:=["room","begun","cells"]) (js:=[none,some 0,some 1]) rfl (.own (.cap rfl (.inl rfl) (.inl rfl) (.cap rfl (.inl rfl) (.inl rfl) .nil))) (by rfl) (aEW (jJ (gG rfl T.b_range (aH (aB (dF rfl (bN cG rfl T.b_len A6 (aH (aC (pv 1)) aR)))) aR))))) (by decide) (by decide) (is:=[0]) (fun cl C s0 H0 fp=>⟨_,(bK (i:=0) (show (["room","begun","cells"]:List Str).Nodup by decide +kernel) rfl (Or.inl rfl)),(bL 0),Fl.gC,(dB (cB rfl rfl rfl (b9 c_gone_on (hr.mono (by decide)) rfl sI (aF (aS (a9 (bA rfl) aQ (aC (pv 1)) (aB aG))) (aF (aT (pv 2)) (aF (aT (pv 0)) bF))))))⟩)))) aR))))))
   (Fl.aO (Fl.bH (aS (cN (aE (bD (pv 2)) (aE (bD (pv 3)) aU)))))))))
theorem pL:FnScope ["machine","begun","room","been","turn"] ["machine","begun"] (aN (top 18)):=by constructor<;>first|rfl|decide +kernel
theorem xY(T:Txt w K mg)(D:DefAt K mg "word_behind" (top 18) ["machine","begun"])(c_is_word:aX P w K mg base TH 1 "is_word" ["part"] fX):aX P w K mg base TH 2 "word_behind" ["machine","begun"] fO:=
 @dH P w K mg base TH "word_behind" (top 18) ["machine","begun","room","been","turn"] ["machine","begun"] 1 mC D pL (fun f cdv A outer s H F E hr=>by
  have nd:=pL.nd
  exact (Fl.aD (Fl.aJ (L2.aJ (i:=2) nd rfl (Or.inl rfl) (aS (a9 (bA rfl) aQ (aC (pv 1)) (aB aG)))))
   (Fl.aD (o7 rfl (L2.aJ (i:=3) nd rfl (Or.inl rfl) o6))
   (Fl.aD (Fl.dI (L2.dI (dN ⟨rfl,rfl⟩) (Fl.qR (Fl.kQ (dB (cB rfl rfl rfl (b9 c_is_word (hr.mono (by decide)) rfl (b8 fun _ _ _ h=>h) (aF (aT (pv 2)) bF))))))
   (Fl.aD (Fl.dR (o8 rfl rfl (lG (xE hr.units) (bD (pv 2)) (pv 3) (by with_unfolding_all rfl))) (Fl.aO (Fl.bH (aS bY))) Fl.cT)
   (Fl.aD (Fl.m3 rfl rfl (g9 gH (oV (pv 3) (bD (pv 2)) (lK hr.units))))
   (Fl.aD (Fl.aJ (L2.aJ (i:=4) nd rfl (Or.inl rfl) (aS (a9 (bA rfl) aQ (aB (a9 (bA rfl) aQ (aC (pv 0)) (aC (pv 2)))) (aB aG)))))
   (Fl.aO (Fl.aJ (L2.aJ (i:=2) nd rfl (Or.inl rfl) (aS (aEV (Fl.kQ (dB (cB rfl rfl rfl (b9 c_is_word (hr.mono (by decide)) rfl (b8 fun _ _ _ h=>h) (aF (aT (pv 4)) bF))))) (bD (pv 4)) (a9 (bA rfl) aQ (aB (a9 (bA rfl) aQ (aC (pv 1)) (aB aG))) (aC (pv 4)))))))))))))
   (Fl.aO (Fl.bH (aT (pv 2))))))))
end
section
variable{P:Program}{w:World}{K:Frag}{mg:Str->Option Value}{base:Heap}{TH:Hp}
theorem g8:CloScope ["begun","columns"] ["begun"] ["columns"] eD.scope:=⟨rfl,rfl,rfl,by decide +kernel,rfl,by decide +kernel,by decide +kernel,by decide +kernel,by decide +kernel⟩
theorem tL:∀ y∈eD.scope.names,y.2=.free->(aN (top 19)).names.lookup y.1=some .cell\/(aN (top 19)).names.lookup y.1=some .free:=by decide +kernel
theorem r6:(gQ,("one_way.<locals>.after":Str))∈qsT:=(.tail _ (.head _))
theorem tM:∀ p∈qsT,p.1.line=gQ.line->p.1.col=gQ.col->p.2=("one_way.<locals>.after":Str):=by decide +kernel
theorem r9(T:Txt w K mg)(c_longer:aX P w K mg base TH 3 "longer" ["begun","cells"] iK):CloOk P w K mg base TH eD ["columns"] 4 1 (eM 2 dZ):=
 @aGY P w K mg base TH eD ["begun","columns"] ["begun"] ["columns"] 3 _ dZ rfl g8 (fun _ _ _ _ _=>Mc.bn1 fun _=>rfl) (fun f cc cl A outer s H F E E' hr=>by
  have nd:=g8.nd
  exact (Fl.aO (Fl.bH (aS (dM (kN (kI (N:=["cells","begun"]) (js:=[none,some 0]) rfl (.own (.cap rfl (.inl rfl) (.inl rfl) .nil)) (by rfl) (uB rfl (aC (pv 1)))) (by decide) (by decide) (is:=[0]) (fun cl C s0 H0 fp=>⟨_,(bK (i:=0) (show (["cells","begun"]:List Str).Nodup by decide +kernel) rfl (Or.inl rfl)),(bL 0),Fl.gC,(dB (cB rfl rfl rfl (b9 c_longer (hr.mono (by decide)) rfl sI (aF (aT (pv 1)) (aF (aT (pv 0)) bF)))))⟩)))))))
theorem iN:CloScope ["found","at"] ["found","at"] [] gR.scope:=⟨rfl,rfl,rfl,by decide +kernel,rfl,by decide +kernel,by decide +kernel,by decide +kernel,by decide +kernel⟩
theorem uV:∀ y∈gR.scope.names,y.2=.free->(aN (top 19)).names.lookup y.1=some .cell\/(aN (top 19)).names.lookup y.1=some .free:=by decide +kernel
theorem tN:(gZ,("one_way.<locals>.<lambda>":Str))∈qsT:=(.tail _ (.tail _ (.head _)))
theorem uW:∀ p∈qsT,p.1.line=gZ.line->p.1.col=gZ.col->p.2=("one_way.<locals>.<lambda>":Str):=by decide +kernel
theorem tO(T:Txt w K mg):CloOk P w K mg base TH gR [] 1 2 (eM 2 fM):=
 @aA1 P w K mg base TH gR ["found","at"] ["found","at"] [] 0 _ (e2 dGt (e1 dLen (rV 0)) (eC (.int 200))) rfl iN (fun _ _ _ _ _=>Mc.bn2 fun _ _=>rfl) (fun f cc cl A outer s H F E E' hr=>by
  have nd:=iN.nd
  exact (kX jV gT (aB (dF rfl (bN cG rfl T.b_len A6 (aH (aC (pv 0)) aR)))) (aB (iI (lE (v:=.int 200) rfl T.g_MOST_BEGINNINGS.choose_spec ⟨_,rfl⟩) fun _=>.int _)) (cC _)))
theorem wN:FnScope ["machine","columns","after","search","found"] ["machine"] (aN (top 19)):=by constructor<;>first|rfl|decide +kernel
theorem aFM(T:Txt w K mg)(D:DefAtT K mg base TH qsT "one_way" (top 19) ["machine"])(c_signs_of:aX P w K mg base TH 1 "signs_of" ["machine"] jL)(c_cells_of:aX P w K mg base TH 1 "cells_of" ["machine","number"] jM)(c_longer:aX P w K mg base TH 3 "longer" ["begun","cells"] iK)(c_reached:aX P w K mg base TH 13 "reached" ["begin","after","done"] gK)(c_without_signs:aX P w K mg base TH 1 "without_signs" ["machine"] gL)(c_word_behind:aX P w K mg base TH 2 "word_behind" ["machine","begun"] fO){Wp_TooMany Cp_TooMany:Addr}(erp_TooMany:ErrP K mg "TooMany" Wp_TooMany Cp_TooMany):aX P w K mg base TH 14 "one_way" ["machine"] fJ:=
 @xK P w K mg base TH "one_way" (top 19) ["machine","columns","after","search","found"] ["machine"] 13 qsT (fun q=>[(("one_way.<locals>.after":Str),eD)].lookup q) oD D wN (fun f c0 P0 A outer s H F E hTb hTP hr=>by
  have nd:=wN.nd
  exact (Fl.aD (fA (L2.aJ (i:=1) nd rfl (Or.inr rfl) (kN (kI (N:=["number","machine"]) (js:=[none,some 0]) rfl (.own (.cap rfl (.inl rfl) (.inl rfl) .nil)) (by rfl) (aEW (jJ (gG rfl T.b_range (aH (aB (dB (cB rfl rfl rfl (b9 c_signs_of (hr.mono (by decide)) rfl (b8 fun _ _ _ h=>h) (aF (aT (pv 0)) bF))))) aR))))) (by decide) (by decide) (is:=[0]) (fun cl C s0 H0 fp=>⟨_,(bK (i:=0) (show (["number","machine"]:List Str).Nodup by decide +kernel) rfl (Or.inl rfl)),(bL 0),Fl.gC,(dB (cB rfl rfl rfl (b9 c_cells_of (hr.mono (by decide)) rfl sI (aF (aT (pv 1)) (aF (aT (pv 0)) bF)))))⟩))))
   (Fl.aD (aDC (S:=eD) rfl rfl hTP (L2.aGI rfl hTb rfl r6 tM tL rfl rfl rfl nd rfl (Or.inl rfl)))
   (Fl.aD (sN 1 (Fl.aJ (L2.aJ (i:=3) nd rfl (Or.inl rfl) (aA5 (js:=[1]) rfl rfl rfl rfl rfl rfl rfl (sV ⟨_,rfl,rfl,rfl⟩ aA6) (L2.aAE c_reached (hr.mono (by decide)) rfl (b8 fun _ _ _ h=>h) (iJ (zP (cB rfl rfl rfl (b9 c_without_signs (hr.mono (by decide)) rfl (b8 fun _ _ _ h=>h) (aF (aT (pv 0)) bF)))) (iJ (aDE (S:=eD) rfl (r9 T c_longer) (fun y hy=>g8.only (y,.free) hy rfl) (fun y hy=>A4 (g8.cap y hy)) rfl (by decide) (pv 2)) (iJ (aA3 (S:=gR) rfl hTP (tO T ) (fun y hy=>iN.only (y,.free) hy rfl) (fun y hy=>A4 (iN.cap y hy)) rfl (by decide) (L2.aAC rfl hTb rfl tN uW uV rfl)) xJ))))))))
   (Fl.aD (Fl.aJ (L2.aJ (i:=4) nd rfl (Or.inl rfl) (aS (a9 (bA rfl) aQ (aC (pv 3)) (aB aG)))))
   (Fl.aD (Fl.dR (Fl.cS jV gT (aB (dF rfl (bN cG rfl T.b_len A6 (aH (aC (pv 4)) aR)))) (aB (iI (lE (v:=.int 200) rfl T.g_MOST_BEGINNINGS.choose_spec ⟨_,rfl⟩) fun _=>.int _)) (cC _)) (Fl.aO (aGW erp_TooMany.m (L2.n9 rfl erp_TooMany rfl (aH (aPM (aB (iI (lE (v:=.int 200) rfl T.g_MOST_BEGINNINGS.choose_spec ⟨_,rfl⟩) fun _=>.int _))) aR)))) Fl.cT)
   (Fl.aO (Fl.bH (aS (cN (aE (dY rfl (cM cH rfl T.b_tuple A9 (aH (aB (a9 (bA rfl) aQ (aC (pv 3)) (aB aG))) aR))) (aE (dY rfl (cM cH rfl T.b_tuple A9 (aH (aB (dM (kN (kI (N:=["begun","machine"]) (js:=[none,some 0]) rfl (.own (.cap rfl (.inl rfl) (.inl rfl) .nil)) (by rfl) (uB rfl (aC (pv 4)))) (by decide) (by decide) (is:=[0]) (fun cl C s0 H0 fp=>⟨_,(bK (i:=0) (show (["begun","machine"]:List Str).Nodup by decide +kernel) rfl (Or.inl rfl)),(bL 0),Fl.gC,(dB (cB rfl rfl rfl (b9 c_word_behind (hr.mono (by decide)) rfl sI (aF (aT (pv 1)) (aF (aT (pv 0)) bF)))))⟩)))) aR))) aU))))))))))))
theorem jR:CloScope ["here","reader"] ["here"] ["reader"] fS.scope:=⟨rfl,rfl,rfl,by decide +kernel,rfl,by decide +kernel,by decide +kernel,by decide +kernel,by decide +kernel⟩
theorem xZ:∀ y∈fS.scope.names,y.2=.free->(aN (top 21)).names.lookup y.1=some .cell\/(aN (top 21)).names.lookup y.1=some .free:=by decide +kernel
theorem wO:(iZ,("lead.<locals>.after":Str))∈qsT:=(.tail _ (.tail _ (.tail _ (.head _))))
theorem x5:∀ p∈qsT,p.1.line=iZ.line->p.1.col=iZ.col->p.2=("lead.<locals>.after":Str):=by decide +kernel
theorem wP(T:Txt w K mg):CloOk P w K mg base TH fS ["reader"] 1 1 (eM 2 gD):=
 @aGY P w K mg base TH fS ["here","reader"] ["here"] ["reader"] 0 _ gD rfl jR (fun _ _ _ _ _=>Mc.bn1 fun _=>rfl) (fun f cc cl A outer s H F E E' hr=>by
  have nd:=jR.nd
  exact (Fl.aO (Fl.bH (aS (a9 (bA rfl) aQ (aB (a9 (bA rfl) aQ (aC (pv 1)) (aB aG))) (aC (pv 0)))))))
theorem j0:CloScope ["here","room"] ["here"] ["room"] jD.scope:=⟨rfl,rfl,rfl,by decide +kernel,rfl,by decide +kernel,by decide +kernel,by decide +kernel,by decide +kernel⟩
theorem zG:∀ y∈jD.scope.names,y.2=.free->(aN (top 21)).names.lookup y.1=some .cell\/(aN (top 21)).names.lookup y.1=some .free:=by decide +kernel
theorem x6:(jQ,("lead.<locals>.<lambda>":Str))∈qsT:=(.tail _ (.tail _ (.tail _ (.tail _ (.head _)))))
theorem zH:∀ p∈qsT,p.1.line=jQ.line->p.1.col=jQ.col->p.2=("lead.<locals>.<lambda>":Str):=by decide +kernel
theorem x8(T:Txt w K mg):CloOk P w K mg base TH jD ["room"] 1 1 (eM 2 i7):=
 @aA1 P w K mg base TH jD ["here","room"] ["here"] ["room"] 0 _ (e2 dEq (rV 0) (rV 1)) rfl j0 (fun _ _ _ _ _=>Mc.bn1 fun _=>rfl) (fun f cc cl A outer s H F E E' hr=>by
  have nd:=j0.nd
  exact (kX (i5 rfl hr.units) fZ (aC (pv 0)) (aC (pv 1)) (cC _)))
theorem aD3:FnScope ["reader","room","after"] ["reader","room"] (aN (top 21)):=by constructor<;>first|rfl|decide +kernel
theorem aNU(T:Txt w K mg)(D:DefAtT K mg base TH qsT "lead" (top 21) ["reader","room"])(c_first_to:aX P w K mg base TH 14 "first_to" ["begin","after","wanted"] gM):aX P w K mg base TH 15 "lead" ["reader","room"] k9:=
 @xK P w K mg base TH "lead" (top 21) ["reader","room","after"] ["reader","room"] 14 qsT (fun q=>[(("lead.<locals>.after":Str),fS)].lookup q) aBF D aD3 (fun f c0 P0 A outer s H F E hTb hTP hr=>by
  have nd:=aD3.nd
  exact (Fl.aD (aDC (S:=fS) rfl rfl hTP (L2.aGI rfl hTb rfl wO x5 xZ rfl rfl rfl nd rfl (Or.inl rfl)))
   (Fl.aO (Fl.bH (aS (a9 (bA rfl) aQ (aB (dB (aA5 (js:=[0,1]) rfl rfl rfl rfl rfl rfl rfl (sV ⟨_,rfl,rfl,rfl⟩ (sV ⟨_,rfl,rfl,rfl⟩ aA6)) (L2.aAE c_first_to (hr.mono (by decide)) rfl (b8 fun _ _ _ h=>h) (iJ (zP (aS aG)) (iJ (aDE (S:=fS) rfl (wP T ) (fun y hy=>jR.only (y,.free) hy rfl) (fun y hy=>A4 (jR.cap y hy)) rfl (by decide) (pv 2)) (iJ (aA3 (S:=jD) rfl hTP (x8 T ) (fun y hy=>j0.only (y,.free) hy rfl) (fun y hy=>A4 (j0.cap y hy)) rfl (by decide) (L2.aAC rfl hTb rfl x6 zH zG rfl)) xJ))))))) (aB aG)))))))
theorem pM:FnScope ["machine","word","reader"] ["machine","word"] (aN (top 24)):=by constructor<;>first|rfl|decide +kernel
theorem x9(T:Txt w K mg)(D:DefAt K mg "first_strip" (top 24) ["machine","word"])(c_one_way:aX P w K mg base TH 14 "one_way" ["machine"] fJ)(c_lead:aX P w K mg base TH 15 "lead" ["reader","room"] k9){Wp_NoWord Cp_NoWord:Addr}(erp_NoWord:ErrP K mg "NoWord" Wp_NoWord Cp_NoWord):aX P w K mg base TH 16 "first_strip" ["machine","word"] cP:=
 @dH P w K mg base TH "first_strip" (top 24) ["machine","word","reader"] ["machine","word"] 15 gF D pM (fun f cdv A outer s H F E hr=>by
  have nd:=pM.nd
  exact (Fl.aD (Fl.dR (Fl.cS (aCY rfl hr.units) yR (aC (pv 1)) (aB (iI (lE (v:=.ref T.g_WORDS.choose) rfl T.g_WORDS.choose_spec.1 rfl) fun F=>aIW T.g_WORDS.choose_spec.2 (by exact fun F=>.cons (.str _) (.cons (.str _) (.cons (.str _) (.nil)))) F)) (by with_unfolding_all rfl)) (Fl.aO (Fl.n9 erp_NoWord.m (L2.n9 rfl erp_NoWord rfl (aE bY aU)))) Fl.cT)
   (Fl.aD (Fl.aJ (L2.aJ (i:=2) nd rfl (Or.inl rfl) (cB rfl rfl rfl (b9 c_one_way (hr.mono (by decide)) rfl (b8 fun _ _ _ h=>h) (aF (aT (pv 0)) bF)))))
   (Fl.aD (Fl.dR (Fl.cS (aCY rfl hr.units) yR (aC (pv 1)) (aB (a9 (bA rfl) aQ (aC (pv 2)) (aB aG))) (by with_unfolding_all rfl)) (Fl.aO (Fl.bH (aS kW))) Fl.cT)
   (Fl.aO (Fl.bH (cB rfl rfl rfl (b9 c_lead (hr.mono (by decide)) rfl (b8 fun _ _ _ h=>h) (aF (aT (pv 2)) (aF (aS (zC rfl (aHT GJ EK GK (zB hr.units) (aB (a9 (bA rfl) aQ (aC (pv 2)) (aB aG))) (aH (aC (pv 1)) aR)))) bF))))))))))
theorem sA:FnScope ["_law_script","_law_k","_law_cell_here","_law_mixed"] ["_law_script","_law_k"] (aN (top 26)):=by constructor<;>first|rfl|decide +kernel
theorem aB4(T:Txt w K mg)(D:DefAt K mg "_law_cell" (top 26) ["_law_script","_law_k"]):aX P w K mg base TH 1 "_law_cell" ["_law_script","_law_k"] bT:=
 @dH P w K mg base TH "_law_cell" (top 26) ["_law_script","_law_k","_law_cell_here","_law_mixed"] ["_law_script","_law_k"] 0 lV D sA (fun f cdv A outer s H F E hr=>by
  have nd:=sA.nd
  exact (Fl.aD (Fl.aJ (L2.aJ (i:=2) nd rfl (Or.inl rfl) (aS aG)))
   (Fl.aD (Fl.dR (Fl.cS jV gT (aB (dF rfl (bN cG rfl T.b_len A6 (aH (aC (pv 0)) aR)))) (aB aG) (cC _)) (Fl.aO (Fl.aJ (L2.aJ (i:=2) nd rfl (Or.inl rfl) (aS (a9 (bA rfl) aQ (aC (pv 0)) (aB (aV c7 cE (aC (pv 1)) (aB (dF rfl (bN cG rfl T.b_len A6 (aH (aC (pv 0)) aR))))))))))) Fl.cT)
   (Fl.aD (Fl.aJ (L2.aJ (i:=3) nd rfl (Or.inl rfl) (aS (aV c7 cE (aB (aV jH gI (aB (aV (c6 rfl) cD (aB (aV (c6 rfl) cD (aB (aV c7 cE (aC (pv 2)) (aB aG))) (aB (aV jH gI (aB aG) (aC (pv 1)))))) (aB aG))) (aB aG))) (aB aG)))))
   (Fl.aO (Fl.bH (aS (aV (c6 rfl) cD (aB (aV jH gI (aB (aV hZ fG (aC (pv 2)) (aB aG))) (aB aG))) (aB (aV c7 cE (aB (aV (c6 rfl) cD (aB (aV jH gI (aC (pv 3)) (aB aG))) (aB (aV jH gI (aB aG) (aC (pv 1)))))) (aB aG)))))))))))
theorem t4:FnScope ["_law_number","_law_rooms"] ["_law_number","_law_rooms"] (aN (top 27)):=by constructor<;>first|rfl|decide +kernel
theorem aCK(T:Txt w K mg)(D:DefAt K mg "_law_end" (top 27) ["_law_number","_law_rooms"]):aX P w K mg base TH 1 "_law_end" ["_law_number","_law_rooms"] gO:=
 @dH P w K mg base TH "_law_end" (top 27) ["_law_number","_law_rooms"] ["_law_number","_law_rooms"] 0 mT D t4 (fun f cdv A outer s H F E hr=>by
  have nd:=t4.nd
  exact (Fl.aD (Fl.dR (Fl.cS (i5 rfl hr.units) fZ (aB (aV c7 cE (aC (pv 0)) (aB aG))) (aB aG) (cC _)) (Fl.aO (Fl.bH (aS (a9 (bA rfl) aQ (aB (dM (cU (aE bY (aE bY aU))))) (aB (aV c7 cE (aB (aV hZ fG (aC (pv 0)) (aB aG))) (aB aG))))))) Fl.cT)
   (Fl.aO (Fl.bH (aS (aV c7 cE (aB (aV hZ fG (aC (pv 0)) (aB aG))) (aC (pv 1))))))))
end
section
variable{P:Program}{w:World}{K:Frag}{mg:Str->Option Value}{base:Heap}{TH:Hp}
theorem mH:FnScope ["_law_number","_law_rooms","_law_signs","_law_left","_law_cells","_law_k","_law_ends"] ["_law_number","_law_rooms","_law_signs"] (aN (top 28)):=by constructor<;>first|rfl|decide +kernel
theorem tP(T:Txt w K mg)(D:DefAt K mg "_law_digit_row" (top 28) ["_law_number","_law_rooms","_law_signs"]):aX P w K mg base TH 1 "_law_digit_row" ["_law_number","_law_rooms","_law_signs"] fC:=
 @dH P w K mg base TH "_law_digit_row" (top 28) ["_law_number","_law_rooms","_law_signs","_law_left","_law_cells","_law_k","_law_ends"] ["_law_number","_law_rooms","_law_signs"] 0 kA D mH (fun f cdv A outer s H F E hr=>by
  have nd:=mH.nd
  exact (Fl.aD (Fl.aJ (L2.aJ (i:=3) nd rfl (Or.inl rfl) (aS (aV c7 cE (aC (pv 0)) (aB (aV (c6 rfl) cD (aC (pv 1)) (aB aG)))))))
   (Fl.aD (Fl.aJ (L2.aJ (i:=0) nd rfl (Or.inl rfl) (aS (aV hZ fG (aC (pv 0)) (aB (aV (c6 rfl) cD (aC (pv 1)) (aB aG)))))))
   (Fl.aD (fA (L2.aJ (i:=4) nd rfl (Or.inl rfl) (cU aU)))
   (Fl.aD (Fl.dJ (bL 5) (L2.dJ (dN ⟨rfl,rfl⟩) rfl (jJ (gG rfl T.b_range (aH (aC (pv 2)) aR))) (bK (i:=5) nd rfl (Or.inl rfl))
   (Fl.aD (gJ rfl (L2.eF (gY A8 BD BE dS (pv 4) (aH (cN (aE (aV c7 cE (aB (aV hZ fG (aC (pv 0)) (aB aG))) (aC (pv 1))) (aE (aV mY kM (aB aG) (aB (aV jH gI (aB (aV c7 cE (aC (pv 0)) (aB aG))) (aB aG)))) aU))) aR))))
   (Fl.aO (Fl.aJ (L2.aJ (i:=0) nd rfl (Or.inl rfl) (aS (aV hZ fG (aC (pv 0)) (aB (aV jH gI (aB aG) (aC (pv 1))))))))))))
   (Fl.aD (fA (L2.aJ (i:=6) nd rfl (Or.inl rfl) (cU (aE (bD (pv 3)) (aE (aV c7 cE (aC (pv 0)) (aB (aV (c6 rfl) cD (aC (pv 1)) (aB aG)))) aU)))))
   (Fl.aD (aC2 (L2.vF (i:=6) nd rfl (Or.inl rfl) (by rfl) (N:=["_law_end_here","_law_rooms"]) (js:=[none,some 1]) rfl (.own (.cap rfl (.inl rfl) (.inl rfl) .nil)) (by rfl) (uB rfl (aC (pv 6)))) (by decide) (by decide) (is:=[0]) (fun cl C s0 H0 fp=>⟨_,(bK (i:=0) (show (["_law_end_here","_law_rooms"]:List Str).Nodup by decide +kernel) rfl (Or.inl rfl)),(bL 0),Fl.gC,(aEV (Fl.cS aO5 aIN (aC (pv 0)) (aC (pv 1)) (cC _)) (a9 (bA rfl) aQ (aB (dM (cU (aE bY (aE bY aU))))) (aB (aV mY kM (aC (pv 0)) (aC (pv 1))))) (bD (pv 0)))⟩))
   (Fl.aO (Fl.bH (aS (cN (aE (a9 (bA rfl) aQ (aC (pv 6)) (aB aG)) (aE (dY rfl (cM cH rfl T.b_tuple A9 (aH (aC (pv 4)) aR))) (aE (a9 (bA rfl) aQ (aC (pv 6)) (aB aG)) aU))))))))))))))
theorem mI:FnScope ["_law_number","_law_rooms","_law_signs","_law_pieces","_law_k","_law_cells"] ["_law_number","_law_rooms","_law_signs"] (aN (top 29)):=by constructor<;>first|rfl|decide +kernel
theorem tQ(T:Txt w K mg)(D:DefAt K mg "_law_mixed_row" (top 29) ["_law_number","_law_rooms","_law_signs"])(c__law_end:aX P w K mg base TH 1 "_law_end" ["_law_number","_law_rooms"] gO):aX P w K mg base TH 2 "_law_mixed_row" ["_law_number","_law_rooms","_law_signs"] d0:=
 @dH P w K mg base TH "_law_mixed_row" (top 29) ["_law_number","_law_rooms","_law_signs","_law_pieces","_law_k","_law_cells"] ["_law_number","_law_rooms","_law_signs"] 1 kB D mI (fun f cdv A outer s H F E hr=>by
  have nd:=mI.nd
  exact (Fl.aD (fA (L2.aJ (i:=3) nd rfl (Or.inl rfl) (cU aU)))
   (Fl.aD (Fl.dJ (bL 4) (L2.dJ (dN ⟨rfl,rfl⟩) rfl (jJ (gG rfl T.b_range (aH (aB (aV (c6 rfl) cD (aC (pv 2)) (aB aG))) aR))) (bK (i:=4) nd rfl (Or.inl rfl))
   (Fl.aD (Fl.aJ (L2.aJ (i:=0) nd rfl (Or.inl rfl) (aS (aV c7 cE (aB (aV (c6 rfl) cD (aB (aV jH gI (aC (pv 0)) (aB aG))) (aB aG))) (aB aG)))))
   (Fl.aO (gJ rfl (L2.eF (gY A8 BD BE dS (pv 3) (aH (aV hZ fG (aC (pv 0)) (aB aG)) aR))))))))
   (Fl.aD (Fl.aJ (L2.aJ (i:=5) nd rfl (Or.inl rfl) (aS (dY rfl (cM cH rfl T.b_tuple A9 (aH (aB (dM (kN (kI (N:=["_law_piece","_law_rooms"]) (js:=[none,some 1]) rfl (.own (.cap rfl (.inl rfl) (.inl rfl) .nil)) (by rfl) (uB rfl (aB (uC rfl (aC (pv 3)) (aEZ (aB aG)) aEY)))) (by decide) (by decide) (is:=[0]) (fun cl C s0 H0 fp=>⟨_,(bK (i:=0) (show (["_law_piece","_law_rooms"]:List Str).Nodup by decide +kernel) rfl (Or.inl rfl)),(bL 0),Fl.gC,(cN (aE (aV c7 cE (aC (pv 0)) (aC (pv 1))) (aE (aV mY kM (aB aG) (aB (aV jH gI (aB (aV hZ fG (aB (aV c7 cE (aB (aV hZ fG (aC (pv 0)) (aB aG))) (aB aG))) (aB aG))) (aB aG)))) aU)))⟩)))) aR))))))
   (Fl.aO (Fl.bH (aS (cN (aE (dB (cB rfl rfl rfl (b9 c__law_end (hr.mono (by decide)) rfl (b8 fun _ _ _ h=>h) (aF (aS (a9 (bA rfl) aQ (aC (pv 3)) (aB aG))) (aF (aT (pv 1)) bF))))) (aE (bD (pv 5)) (aE (dB (cB rfl rfl rfl (b9 c__law_end (hr.mono (by decide)) rfl (b8 fun _ _ _ h=>h) (aF (aS (a9 (bA rfl) aQ (aC (pv 3)) (aB aG))) (aF (aT (pv 1)) bF))))) aU)))))))))))
theorem oI:FnScope ["_law_script","_law_at","_law_rooms","_law_signs","_law_rows","_law_room","_law_row"] ["_law_script","_law_at","_law_rooms","_law_signs"] (aN (top 30)):=by constructor<;>first|rfl|decide +kernel
theorem wQ(T:Txt w K mg)(D:DefAt K mg "_law_machine" (top 30) ["_law_script","_law_at","_law_rooms","_law_signs"])(c__law_digit_row:aX P w K mg base TH 1 "_law_digit_row" ["_law_number","_law_rooms","_law_signs"] fC)(c__law_mixed_row:aX P w K mg base TH 2 "_law_mixed_row" ["_law_number","_law_rooms","_law_signs"] d0)(c__law_cell:aX P w K mg base TH 1 "_law_cell" ["_law_script","_law_k"] bT):aX P w K mg base TH 3 "_law_machine" ["_law_script","_law_at","_law_rooms","_law_signs"] eI:=
 @dH P w K mg base TH "_law_machine" (top 30) ["_law_script","_law_at","_law_rooms","_law_signs","_law_rows","_law_room","_law_row"] ["_law_script","_law_at","_law_rooms","_law_signs"] 2 lO D oI (fun f cdv A outer s H F E hr=>by
  have nd:=oI.nd
  exact (Fl.aD (fA (L2.aJ (i:=4) nd rfl (Or.inl rfl) (cU aU)))
   (Fl.aD (Fl.dJ (bL 5) (L2.dJ (dN ⟨rfl,rfl⟩) rfl (jJ (gG rfl T.b_range (aH (aC (pv 2)) aR))) (bK (i:=5) nd rfl (Or.inl rfl))
   (Fl.aO (Fl.dR (PW.pt (Fl.lY (Fl.cS aAM uA (aB (aV (c6 rfl) cD (aC (pv 1)) (aC (pv 5)))) (aB (dF rfl (bN cG rfl T.b_len A6 (aH (aC (pv 0)) aR)))) (cC _)) (Fl.lF (Fl.cS (i5 rfl hr.units) fZ (aB (aV c7 cE (aB (a9 (bA rfl) aQ (aC (pv 0)) (aB aG))) (aB aG))) (aB aG) (cC _))))) (Fl.aO (gJ rfl (L2.eF (gY A8 BD BE dS (pv 4) (aH (dB (cB rfl rfl rfl (b9 c__law_digit_row (hr.mono (by decide)) rfl (b8 fun _ _ _ h=>h) (aF (aS (a9 (bA rfl) aQ (aC (pv 0)) (aB (aV (c6 rfl) cD (aC (pv 1)) (aC (pv 5)))))) (aF (aT (pv 2)) (aF (aT (pv 3)) bF)))))) aR))))) (Fl.aD (Fl.aJ (L2.aJ (i:=6) nd rfl (Or.inl rfl) (cB rfl rfl rfl (b9 c__law_mixed_row (hr.mono (by decide)) rfl (b8 fun _ _ _ h=>h) (aF (aS (aV c7 cE (aB (dB (cB rfl rfl rfl (b9 c__law_cell (hr.mono (by decide)) rfl (b8 fun _ _ _ h=>h) (aF (aT (pv 0)) (aF (aS (aV (c6 rfl) cD (aC (pv 1)) (aC (pv 5)))) bF)))))) (aB aG))) (aF (aT (pv 2)) (aF (aT (pv 3)) bF)))))))
   (Fl.aD (Fl.dR (PW.pt (Fl.lY (Fl.cS (i5 rfl hr.units) fZ (aC (pv 5)) (aB aG) (cC _)) (Fl.lY (Fl.kQ (vS (bN (p7 rfl (sP _)) rfl T.b_isinstance B3 (aH (aB (a9 (bA rfl) aQ (aC (pv 6)) (aB aG))) (aH (oU (v:=.ty "str") rfl T.b_str EC rfl) aR))))) (Fl.lF (Fl.cS jV gT (aB (aV c7 cE (aB (aV hZ fG (aB (dB (cB rfl rfl rfl (b9 c__law_cell (hr.mono (by decide)) rfl (b8 fun _ _ _ h=>h) (aF (aT (pv 0)) (aF (aT (pv 1)) bF)))))) (aB aG))) (aB aG))) (aB aG) (cC _)))))) (Fl.aO (Fl.aJ (L2.aJ (i:=6) nd rfl (Or.inl rfl) (aS (aV (c6 rfl) cD (aB (cN (aE (aV c7 cE (aB (aV hZ fG (aB (dB (cB rfl rfl rfl (b9 c__law_cell (hr.mono (by decide)) rfl (b8 fun _ _ _ h=>h) (aF (aT (pv 0)) (aF (aT (pv 1)) bF)))))) (aB aG))) (aC (pv 2))) aU))) (aB (uC rfl (aC (pv 6)) (aEZ (aB aG)) aEY))))))) Fl.cT)
   (Fl.aO (gJ rfl (L2.eF (gY A8 BD BE dS (pv 4) (aH (bD (pv 6)) aR)))))))))))
   (Fl.aO (Fl.bH (aS (dY rfl (cM cH rfl T.b_tuple A9 (aH (aC (pv 4)) aR)))))))))
theorem sB:FnScope ["_law_machine_here","_law_strip_here","_law_stand","_law_place","_law_room","_law_left","_law_cells","_law_right","_law_there","_law_step_here"] ["_law_machine_here","_law_strip_here","_law_stand"] (aN (top 32)):=by constructor<;>first|rfl|decide +kernel
theorem aB5(T:Txt w K mg)(D:DefAt K mg "_law_step" (top 32) ["_law_machine_here","_law_strip_here","_law_stand"]):aX P w K mg base TH 1 "_law_step" ["_law_machine_here","_law_strip_here","_law_stand"] fD:=
 @dH P w K mg base TH "_law_step" (top 32) ["_law_machine_here","_law_strip_here","_law_stand","_law_place","_law_room","_law_left","_law_cells","_law_right","_law_there","_law_step_here"] ["_law_machine_here","_law_strip_here","_law_stand"] 0 oP D sB (fun f cdv A outer s H F E hr=>by
  have nd:=sB.nd
  exact (Fl.aD (nJ (kZ rfl (c8 (bL 3) (c8 (bL 4) jI)) rfl) (g9 (bD (pv 2)) (kS rfl (cZ (bK (i:=3) nd rfl (Or.inl rfl)) (cZ (bK (i:=4) nd rfl (Or.inl rfl)) jE)))))
   (Fl.aD (nJ (kZ rfl (c8 (bL 5) (c8 (bL 6) (c8 (bL 7) jI))) rfl) (g9 (a9 (bA rfl) aQ (aC (pv 0)) (aC (pv 4))) (kS rfl (cZ (bK (i:=5) nd rfl (Or.inl rfl)) (cZ (bK (i:=6) nd rfl (Or.inl rfl)) (cZ (bK (i:=7) nd rfl (Or.inl rfl)) jE))))))
   (Fl.aD (Fl.dR (PW.pt (Fl.aD5 (Fl.cS (i5 rfl hr.units) fZ (aC (pv 3)) (aB aG) (cC _)) (Fl.zS (Fl.cS jV gT (aC (pv 3)) (aB (dF rfl (bN cG rfl T.b_len A6 (aH (aC (pv 1)) aR)))) (cC _))))) (Fl.aD (Fl.aJ (L2.aJ (i:=8) nd rfl (Or.inl rfl) (aS (a9 (bA rfl) aQ (aB (dM (cU (aE (bD (pv 5)) (aE (bD (pv 7)) aU))))) (aB (mZ (cM kH rfl T.b_int CY (aH (aB (kX jV gT (aC (pv 3)) (aB aG) (cC _))) aR))))))))
   (Fl.aD (Fl.dR (Fl.kQ (vS (bN (p7 rfl (sP _)) rfl T.b_isinstance B3 (aH (aC (pv 8)) (aH (oU (v:=.ty "str") rfl T.b_str EC rfl) aR))))) (Fl.aO (Fl.bH (aS kW))) Fl.cT)
   (Fl.aO (Fl.bH (aS (cN (aE (a9 (bA rfl) aQ (aB (dM (cU (aE aG (aE (dF rfl (bN cG rfl T.b_len A6 (aH (aC (pv 1)) aR))) aU))))) (aB (mZ (cM kH rfl T.b_int CY (aH (aB (kX jV gT (aC (pv 3)) (aB aG) (cC _))) aR))))) (aE (bD (pv 8)) aU)))))))) Fl.cT)
   (Fl.aD (nJ (kZ rfl (c8 (bL 8) (c8 (bL 9) jI)) rfl) (g9 (a9 (bA rfl) aQ (aC (pv 6)) (aB (aIU (gY GR PySem.F.slot_str_index PySem.F.type_str_index aID (aB bY) (aH (aB (a9 (bA rfl) aQ (aC (pv 1)) (aB (aV mY kM (aC (pv 3)) (aB aG))))) aR)) (by intro ρ x h;cases h;exact ⟨_,rfl⟩)))) (kS rfl (cZ (bK (i:=8) nd rfl (Or.inl rfl)) (cZ (bK (i:=9) nd rfl (Or.inl rfl)) jE)))))
   (Fl.aO (Fl.bH (aS (cN (aE (aV (c6 rfl) cD (aC (pv 3)) (aC (pv 9))) (aE (bD (pv 8)) aU)))))))))))
end
section
variable{P:Program}{w:World}{K:Frag}{mg:Str->Option Value}{base:Heap}{TH:Hp}
theorem pN:FnScope ["_law_machine_here","_law_strip_here","_law_stands_here","_law_met","_law_after"] ["_law_machine_here","_law_strip_here"] (aN (top 33)):=by constructor<;>first|rfl|decide +kernel
theorem yA(T:Txt w K mg)(D:DefAt K mg "_law_stands" (top 33) ["_law_machine_here","_law_strip_here"])(c__law_step:aX P w K mg base TH 1 "_law_step" ["_law_machine_here","_law_strip_here","_law_stand"] fD):aX P w K mg base TH 2 "_law_stands" ["_law_machine_here","_law_strip_here"] iO:=
 @dH P w K mg base TH "_law_stands" (top 33) ["_law_machine_here","_law_strip_here","_law_stands_here","_law_met","_law_after"] ["_law_machine_here","_law_strip_here"] 1 mD D pN (fun f cdv A outer s H F E hr=>by
  have nd:=pN.nd
  exact (Fl.aD (fA (L2.aJ (i:=2) nd rfl (Or.inl rfl) (cU (aE (cN (aE aG (aE aG aU))) aU))))
   (Fl.aD (o7 rfl (L2.aJ (i:=3) nd rfl (Or.inl rfl) o6))
   (Fl.aD (Fl.dI (L2.dI (dN ⟨rfl,rfl⟩) (o8 rfl rfl (lG (uE hr.units) (a9 (bA rfl) aQ (aC (pv 2)) (aB (vO o5 l7 (aB aG)))) (pv 3) (by with_unfolding_all rfl)))
   (Fl.aD (Fl.m3 rfl rfl (g9 gH (oV (pv 3) (a9 (bA rfl) aQ (aC (pv 2)) (aB (vO o5 l7 (aB aG)))) (lK hr.units))))
   (Fl.aD (Fl.aJ (L2.aJ (i:=4) nd rfl (Or.inl rfl) (cB rfl rfl rfl (b9 c__law_step (hr.mono (by decide)) rfl (b8 fun _ _ _ h=>h) (aF (aT (pv 0)) (aF (aT (pv 1)) (aF (aS (a9 (bA rfl) aQ (aC (pv 2)) (aB (vO o5 l7 (aB aG))))) bF)))))))
   (Fl.aD (Fl.dR (Fl.cS aGP aAN (aC (pv 4)) (aB kW) (cC _)) (Fl.aO (sN 2 (Fl.bH (aT (pv 2))))) Fl.cT)
   (Fl.aO (gJ rfl (L2.eF (gY A8 BD BE dS (pv 2) (aH (bD (pv 4)) aR))))))))))
   (Fl.aO (sN 2 (Fl.bH (aT (pv 2)))))))))
theorem sC:FnScope ["_law_machine_here","_law_strip_here","_law_place","_law_room"] ["_law_machine_here","_law_strip_here"] (aN (top 34)):=by constructor<;>first|rfl|decide +kernel
theorem aB6(T:Txt w K mg)(D:DefAt K mg "_law_says" (top 34) ["_law_machine_here","_law_strip_here"])(c__law_stands:aX P w K mg base TH 2 "_law_stands" ["_law_machine_here","_law_strip_here"] iO)(c__law_step:aX P w K mg base TH 1 "_law_step" ["_law_machine_here","_law_strip_here","_law_stand"] fD):aX P w K mg base TH 3 "_law_says" ["_law_machine_here","_law_strip_here"] fE:=
 @dH P w K mg base TH "_law_says" (top 34) ["_law_machine_here","_law_strip_here","_law_place","_law_room"] ["_law_machine_here","_law_strip_here"] 2 oQ D sC (fun f cdv A outer s H F E hr=>by
  have nd:=sC.nd
  exact (Fl.aD (nJ (kZ rfl (c8 (bL 2) (c8 (bL 3) jI)) rfl) (g9 (a9 (bA rfl) aQ (aB (dB (cB rfl rfl rfl (b9 c__law_stands (hr.mono (by decide)) rfl (b8 fun _ _ _ h=>h) (aF (aT (pv 0)) (aF (aT (pv 1)) bF)))))) (aB (vO o5 l7 (aB aG)))) (kS rfl (cZ (bK (i:=2) nd rfl (Or.inl rfl)) (cZ (bK (i:=3) nd rfl (Or.inl rfl)) jE)))))
   (Fl.aD (Fl.dR (Fl.cS aAO vQ (aB (dB (cB rfl rfl rfl (b9 c__law_step (hr.mono (by decide)) rfl (b8 fun _ _ _ h=>h) (aF (aT (pv 0)) (aF (aT (pv 1)) (aF (aS (cN (aE (bD (pv 2)) (aE (bD (pv 3)) aU)))) bF))))))) (aB kW) (cC _)) (Fl.aO (Fl.bH (aS bY))) Fl.cT)
   (Fl.aO (Fl.bH (aS (a9 (bA rfl) aQ (aB (dM (cU (aE (a9 (bA rfl) aQ (aB (a9 (bA rfl) aQ (aC (pv 0)) (aC (pv 3)))) (aB aG)) (aE (a9 (bA rfl) aQ (aB (a9 (bA rfl) aQ (aC (pv 0)) (aC (pv 3)))) (aB aG)) aU))))) (aB (mZ (cM kH rfl T.b_int CY (aH (aB (kX jV gT (aC (pv 2)) (aB aG) (cC _))) aR)))))))))))
theorem pO:FnScope ["_law_machine_here","_law_strip_here","_law_place","_law_room","_law_met"] ["_law_machine_here","_law_strip_here","_law_place","_law_room"] (aN (top 36)):=by constructor<;>first|rfl|decide +kernel
theorem yB(T:Txt w K mg)(D:DefAt K mg "_law_beyond" (top 36) ["_law_machine_here","_law_strip_here","_law_place","_law_room"])(c__law_step:aX P w K mg base TH 1 "_law_step" ["_law_machine_here","_law_strip_here","_law_stand"] fD):aX P w K mg base TH 2 "_law_beyond" ["_law_machine_here","_law_strip_here","_law_place","_law_room"] fP:=
 @dH P w K mg base TH "_law_beyond" (top 36) ["_law_machine_here","_law_strip_here","_law_place","_law_room","_law_met"] ["_law_machine_here","_law_strip_here","_law_place","_law_room"] 1 mE D pO (fun f cdv A outer s H F E hr=>by
  have nd:=pO.nd
  exact (Fl.aD (o7 rfl (L2.aJ (i:=4) nd rfl (Or.inl rfl) o6))
   (Fl.aD (Fl.dI (L2.dI (dN ⟨rfl,rfl⟩) (Fl.cS aO4 aIM (aC (pv 2)) (aB (dF rfl (bN cG rfl T.b_len A6 (aH (aC (pv 1)) aR)))) (cC _))
   (Fl.aD (Fl.dR (o8 rfl rfl (lG (xE hr.units) (cN (aE (bD (pv 2)) (aE (bD (pv 3)) aU))) (pv 4) (by with_unfolding_all rfl))) (Fl.aO (Fl.bH (aS bY))) Fl.cT)
   (Fl.aD (Fl.m3 rfl rfl (g9 gH (oV (pv 4) (cN (aE (bD (pv 2)) (aE (bD (pv 3)) aU))) (lK hr.units))))
   (Fl.aD (Fl.dR (PW.pt (Fl.lY (Fl.cS (i5 rfl hr.units) fZ (aC (pv 2)) (aB aG) (cC _)) (Fl.lF (Fl.kQ (vS (bN (p7 rfl (sP _)) rfl T.b_isinstance B3 (aH (aB (a9 (bA rfl) aQ (aB (a9 (bA rfl) aQ (aC (pv 0)) (aC (pv 3)))) (aB aG))) (aH (oU (v:=.ty "str") rfl T.b_str EC rfl) aR)))))))) (Fl.aO (Fl.bH (aS (a9 (bA rfl) aQ (aB (a9 (bA rfl) aQ (aC (pv 0)) (aC (pv 3)))) (aB aG))))) Fl.cT)
   (Fl.aO (nJ (kZ rfl (c8 (bL 2) (c8 (bL 3) jI)) rfl) (g9 (dB (cB rfl rfl rfl (b9 c__law_step (hr.mono (by decide)) rfl (b8 fun _ _ _ h=>h) (aF (aT (pv 0)) (aF (aT (pv 1)) (aF (aS (cN (aE (bD (pv 2)) (aE (bD (pv 3)) aU)))) bF)))))) (kS rfl (cZ (bK (i:=2) nd rfl (Or.inl rfl)) (cZ (bK (i:=3) nd rfl (Or.inl rfl)) jE)))))))))))
   (Fl.aO (Fl.bH (aT (pv 3)))))))
theorem mJ:FnScope ["_law_machine_here","_law_strip_here","_law_backs"] ["_law_machine_here","_law_strip_here"] (aN (top 37)):=by constructor<;>first|rfl|decide +kernel
theorem tR(T:Txt w K mg)(D:DefAt K mg "_law_beginning" (top 37) ["_law_machine_here","_law_strip_here"])(c__law_beyond:aX P w K mg base TH 2 "_law_beyond" ["_law_machine_here","_law_strip_here","_law_place","_law_room"] fP):aX P w K mg base TH 3 "_law_beginning" ["_law_machine_here","_law_strip_here"] eB:=
 @dH P w K mg base TH "_law_beginning" (top 37) ["_law_machine_here","_law_strip_here","_law_backs"] ["_law_machine_here","_law_strip_here"] 2 kC D mJ (fun f cdv A outer s H F E hr=>by
  have nd:=mJ.nd
  exact (Fl.aD (aC2 (L2.vF (i:=2) nd rfl (Or.inl rfl) (by rfl) (N:=["_law_room","_law_machine_here","_law_strip_here"]) (js:=[none,some 0,some 1]) rfl (.own (.cap rfl (.inl rfl) (.inl rfl) (.cap rfl (.inl rfl) (.inl rfl) .nil))) (by rfl) (aEW (jJ (gG rfl T.b_range (aH (aB (dF rfl (bN cG rfl T.b_len A6 (aH (aC (pv 0)) aR)))) aR))))) (by decide) (by decide) (is:=[0]) (fun cl C s0 H0 fp=>⟨_,(bK (i:=0) (show (["_law_room","_law_machine_here","_law_strip_here"]:List Str).Nodup by decide +kernel) rfl (Or.inl rfl)),(bL 0),Fl.gC,(dB (cB rfl rfl rfl (b9 c__law_beyond (hr.mono (by decide)) rfl sI (aF (aT (pv 1)) (aF (aT (pv 2)) (aF (aS (dF rfl (bN cG rfl T.b_len A6 (aH (aC (pv 2)) aR)))) (aF (aT (pv 0)) bF)))))))⟩))
   (Fl.aO (Fl.bH (aS (cN (aE (dB (cB rfl rfl rfl (b9 c__law_beyond (hr.mono (by decide)) rfl (b8 fun _ _ _ h=>h) (aF (aT (pv 0)) (aF (aT (pv 1)) (aF (aS aG) (aF (aS aG) bF))))))) (aE (dY rfl (cM cH rfl T.b_tuple A9 (aH (aC (pv 2)) aR))) aU))))))))
end
section
variable{P:Program}{w:World}{K:Frag}{mg:Str->Option Value}{base:Heap}{TH:Hp}
theorem sD:FnScope ["_law_machine_here","_law_signs","_law_most","_law_strips","_law_known","_law_rows","_law_row","_law_sign","_law_strip_here","_law_begun"] ["_law_machine_here","_law_signs","_law_most"] (aN (top 38)):=by constructor<;>first|rfl|decide +kernel
theorem aB7(T:Txt w K mg)(D:DefAt K mg "_law_ways" (top 38) ["_law_machine_here","_law_signs","_law_most"])(c__law_beginning:aX P w K mg base TH 3 "_law_beginning" ["_law_machine_here","_law_strip_here"] eB)(c__law_says:aX P w K mg base TH 3 "_law_says" ["_law_machine_here","_law_strip_here"] fE):aX P w K mg base TH 4 "_law_ways" ["_law_machine_here","_law_signs","_law_most"] cV:=
 @dH P w K mg base TH "_law_ways" (top 38) ["_law_machine_here","_law_signs","_law_most","_law_strips","_law_known","_law_rows","_law_row","_law_sign","_law_strip_here","_law_begun"] ["_law_machine_here","_law_signs","_law_most"] 3 oR D sD (fun f cdv A outer s H F E hr=>by
  have nd:=sD.nd
  exact (Fl.aD (fA (L2.aJ (i:=3) nd rfl (Or.inl rfl) (cU (aE bY aU))))
   (Fl.aD (aC7 rfl rfl (L2.aJ (i:=4) nd rfl (Or.inl rfl) (aC5 hr.units (aAW (dB (cB rfl rfl rfl (b9 c__law_beginning (hr.mono (by decide)) rfl (b8 fun _ _ _ h=>h) (aF (aT (pv 0)) (aF (aS bY) bF))))) aG aC6))))
   (Fl.aD (fA (L2.aJ (i:=5) nd rfl (Or.inl rfl) (cU aU)))
   (Fl.aD (Fl.dI (L2.dI (dN ⟨rfl,rfl⟩) (Fl.cS aAM uA (aB (dF rfl (bN cG rfl T.b_len A6 (aH (aC (pv 5)) aR)))) (aB (dF rfl (bN cG rfl T.b_len A6 (aH (aC (pv 3)) aR)))) (cC _))
   (Fl.aD (fA (L2.aJ (i:=6) nd rfl (Or.inl rfl) (cU aU)))
   (Fl.aD (Fl.dJ (bL 7) (L2.dJ (dN ⟨rfl,rfl⟩) rfl (aIP rfl (uC rfl (aB bY) aEY (aEZ (aC (pv 1))))) (bK (i:=7) nd rfl (Or.inl rfl))
   (Fl.aD (Fl.aJ (L2.aJ (i:=8) nd rfl (Or.inl rfl) (aS (aV (c6 rfl) cD (aB (a9 (bA rfl) aQ (aC (pv 3)) (aB (dF rfl (bN cG rfl T.b_len A6 (aH (aC (pv 5)) aR)))))) (aC (pv 7))))))
   (Fl.aD (Fl.aJ (L2.aJ (i:=9) nd rfl (Or.inl rfl) (cB rfl rfl rfl (b9 c__law_beginning (hr.mono (by decide)) rfl (b8 fun _ _ _ h=>h) (aF (aT (pv 0)) (aF (aT (pv 8)) bF))))))
   (Fl.aD (Fl.dR (o8 rfl rfl (lG (uE hr.units) (bD (pv 9)) (pv 4) (by with_unfolding_all rfl))) (Fl.aD (Fl.m3 rfl rfl (g9 (dF rfl (bN cG rfl T.b_len A6 (aH (aC (pv 3)) aR))) (oV (pv 4) (bD (pv 9)) (lK hr.units))))
   (Fl.aO (gJ rfl (L2.eF (gY A8 BD BE dS (pv 3) (aH (bD (pv 8)) aR)))))) Fl.cT)
   (Fl.aO (gJ rfl (L2.eF (gY A8 BD BE dS (pv 6) (aH (sR rfl rfl (sQ hr.units (pv 4) (bD (pv 9)) (fun _ _=>rfl))) aR))))))))))
   (Fl.aD (gJ rfl (L2.eF (gY A8 BD BE dS (pv 5) (aH (dY rfl (cM cH rfl T.b_tuple A9 (aH (aC (pv 6)) aR))) aR))))
   (Fl.aO (Fl.dR (Fl.cS jV gT (aB (dF rfl (bN cG rfl T.b_len A6 (aH (aC (pv 3)) aR)))) (aC (pv 2)) (cC _)) (Fl.aO (Fl.bH (aS kW))) Fl.cT)))))))
   (Fl.aO (sN 3 (Fl.bH (aS (cN (aE (bD (pv 3)) (aE (dY rfl (cM cH rfl T.b_tuple A9 (aH (aC (pv 5)) aR))) (aE (dY rfl (cM cH rfl T.b_tuple A9 (aH (aB (dM (kN (kI (N:=["_law_strip_here","_law_machine_here"]) (js:=[none,some 0]) rfl (.own (.cap rfl (.inl rfl) (.inl rfl) .nil)) (by rfl) (uB rfl (aC (pv 3)))) (by decide) (by decide) (is:=[0]) (fun cl C s0 H0 fp=>⟨_,(bK (i:=0) (show (["_law_strip_here","_law_machine_here"]:List Str).Nodup by decide +kernel) rfl (Or.inl rfl)),(bL 0),Fl.gC,(dB (cB rfl rfl rfl (b9 c__law_says (hr.mono (by decide)) rfl sI (aF (aT (pv 1)) (aF (aT (pv 0)) bF)))))⟩)))) aR))) aU)))))))))))))
theorem qP:FnScope ["_law_script","_law_at","_law_signs","_law_rooms","_law_machine_here","_law_ways_here"] ["_law_script","_law_at"] (aN (top 39)):=by constructor<;>first|rfl|decide +kernel
theorem zI(T:Txt w K mg)(D:DefAt K mg "_law_small" (top 39) ["_law_script","_law_at"])(c__law_cell:aX P w K mg base TH 1 "_law_cell" ["_law_script","_law_k"] bT)(c__law_machine:aX P w K mg base TH 3 "_law_machine" ["_law_script","_law_at","_law_rooms","_law_signs"] eI)(c__law_ways:aX P w K mg base TH 4 "_law_ways" ["_law_machine_here","_law_signs","_law_most"] cV):aX P w K mg base TH 5 "_law_small" ["_law_script","_law_at"] iD:=
 @dH P w K mg base TH "_law_small" (top 39) ["_law_script","_law_at","_law_signs","_law_rooms","_law_machine_here","_law_ways_here"] ["_law_script","_law_at"] 4 nR D qP (fun f cdv A outer s H F E hr=>by
  have nd:=qP.nd
  exact (Fl.aD (Fl.aJ (L2.aJ (i:=2) nd rfl (Or.inl rfl) (aS (aV (c6 rfl) cD (aB aG) (aB (aV c7 cE (aB (dB (cB rfl rfl rfl (b9 c__law_cell (hr.mono (by decide)) rfl (b8 fun _ _ _ h=>h) (aF (aT (pv 0)) (aF (aT (pv 1)) bF)))))) (aB aG)))))))
   (Fl.aD (Fl.aJ (L2.aJ (i:=3) nd rfl (Or.inl rfl) (aS (aV (c6 rfl) cD (aB aG) (aB (aV c7 cE (aB (dB (cB rfl rfl rfl (b9 c__law_cell (hr.mono (by decide)) rfl (b8 fun _ _ _ h=>h) (aF (aT (pv 0)) (aF (aS (aV (c6 rfl) cD (aC (pv 1)) (aB aG))) bF)))))) (aB (a9 (bA rfl) aQ (aB (dM (cU (aE aG (aE aG aU))))) (aB (aV mY kM (aC (pv 2)) (aB aG)))))))))))
   (Fl.aD (Fl.aJ (L2.aJ (i:=4) nd rfl (Or.inl rfl) (cB rfl rfl rfl (b9 c__law_machine (hr.mono (by decide)) rfl (b8 fun _ _ _ h=>h) (aF (aT (pv 0)) (aF (aS (aV (c6 rfl) cD (aC (pv 1)) (aB aG))) (aF (aT (pv 3)) (aF (aT (pv 2)) bF))))))))
   (Fl.aD (Fl.aJ (L2.aJ (i:=5) nd rfl (Or.inl rfl) (cB rfl rfl rfl (b9 c__law_ways (hr.mono (by decide)) rfl (b8 fun _ _ _ h=>h) (aF (aT (pv 4)) (aF (aT (pv 2)) (aF (aS aG) bF)))))))
   (Fl.aD (Fl.dI (L2.dI (dN ⟨rfl,rfl⟩) (Fl.cS aGP aAN (aC (pv 5)) (aB kW) (cC _))
   (Fl.aD (Fl.aJ (L2.aJ (i:=3) nd rfl (Or.inl rfl) (aS (aV mY kM (aC (pv 3)) (aB aG)))))
   (Fl.aD (Fl.aJ (L2.aJ (i:=4) nd rfl (Or.inl rfl) (cB rfl rfl rfl (b9 c__law_machine (hr.mono (by decide)) rfl (b8 fun _ _ _ h=>h) (aF (aT (pv 0)) (aF (aS (aV (c6 rfl) cD (aC (pv 1)) (aB aG))) (aF (aT (pv 3)) (aF (aT (pv 2)) bF))))))))
   (Fl.aO (Fl.aJ (L2.aJ (i:=5) nd rfl (Or.inl rfl) (cB rfl rfl rfl (b9 c__law_ways (hr.mono (by decide)) rfl (b8 fun _ _ _ h=>h) (aF (aT (pv 4)) (aF (aT (pv 2)) (aF (aS aG) bF))))))))))))
   (Fl.aO (Fl.bH (aS (cN (aE (bD (pv 4)) (aE (bD (pv 5)) aU))))))))))))
theorem oJ:FnScope ["_law_p","_law_q","_law_a","_law_b","_law_signs","_law_rows","_law_k","_law_there"] ["_law_p","_law_q","_law_a","_law_b","_law_signs"] (aN (top 40)):=by constructor<;>first|rfl|decide +kernel
theorem wR(T:Txt w K mg)(D:DefAt K mg "_law_sweeper" (top 40) ["_law_p","_law_q","_law_a","_law_b","_law_signs"]):aX P w K mg base TH 1 "_law_sweeper" ["_law_p","_law_q","_law_a","_law_b","_law_signs"] jP:=
 @dH P w K mg base TH "_law_sweeper" (top 40) ["_law_p","_law_q","_law_a","_law_b","_law_signs","_law_rows","_law_k","_law_there"] ["_law_p","_law_q","_law_a","_law_b","_law_signs"] 0 pK D oJ (fun f cdv A outer s H F E hr=>by
  have nd:=oJ.nd
  exact (Fl.aD (fA (L2.aJ (i:=5) nd rfl (Or.inl rfl) (cU aU)))
   (Fl.aD (Fl.dJ (bL 6) (L2.dJ (dN ⟨rfl,rfl⟩) rfl (jJ (gG rfl T.b_range (aH (aC (pv 0)) aR))) (bK (i:=6) nd rfl (Or.inl rfl))
   (Fl.aD (Fl.aJ (L2.aJ (i:=7) nd rfl (Or.inl rfl) (aS (a9 (bA rfl) aQ (aB (dM (cU (aE bY (aE (bD (pv 0)) aU))))) (aB (mZ (cM kH rfl T.b_int CY (aH (aB (kX (i5 rfl hr.units) fZ (aC (pv 6)) (aC (pv 2)) (cC _))) aR))))))))
   (Fl.aO (gJ rfl (L2.eF (gY A8 BD BE dS (pv 5) (aH (cN (aE (a9 (bA rfl) aQ (aB (dM (cU (aE aG (aE bY aU))))) (aB (mZ (cM kH rfl T.b_int CY (aH (aB (kX jV gT (aC (pv 6)) (aB aG) (cC _))) aR))))) (aE (dY rfl (cM cH rfl T.b_tuple A9 (aH (aB (dM (aD2 (cU (aE (cN (aE (aV c7 cE (aB (aV (c6 rfl) cD (aC (pv 6)) (aB aG))) (aC (pv 0))) (aE aG aU))) aU)) (aC (pv 4))))) aR))) (aE (bD (pv 7)) aU)))) aR))))))))
   (Fl.aD (Fl.dJ (bL 6) (L2.dJ (dN ⟨rfl,rfl⟩) rfl (jJ (gG rfl T.b_range (aH (aC (pv 1)) aR))) (bK (i:=6) nd rfl (Or.inl rfl))
   (Fl.aO (gJ rfl (L2.eF (gY A8 BD BE dS (pv 5) (aH (cN (aE (a9 (bA rfl) aQ (aB (dM (cU (aE bY (aE bY aU))))) (aB (mZ (cM kH rfl T.b_int CY (aH (aB (kX (i5 rfl hr.units) fZ (aC (pv 6)) (aC (pv 3)) (cC _))) aR))))) (aE (dY rfl (cM cH rfl T.b_tuple A9 (aH (aB (dM (aD2 (cU (aE (cN (aE (aV (c6 rfl) cD (aC (pv 0)) (aB (aV c7 cE (aB (aV (c6 rfl) cD (aC (pv 6)) (aB aG))) (aC (pv 1))))) (aE (vO o5 l7 (aB aG)) aU))) aU)) (aC (pv 4))))) aR))) (aE bY aU)))) aR)))))))
   (Fl.aO (Fl.bH (aS (dY rfl (cM cH rfl T.b_tuple A9 (aH (aC (pv 5)) aR))))))))))
theorem qQ:FnScope ["_law_machine_here","_law_word","_law_told","e"] ["_law_machine_here","_law_word"] (aN (top 41)):=by constructor<;>first|rfl|decide +kernel
theorem zJ(T:Txt w K mg)(D:DefAt K mg "_law_asked" (top 41) ["_law_machine_here","_law_word"])(c_first_strip:aX P w K mg base TH 16 "first_strip" ["machine","word"] cP){Wp_NoWord Cp_NoWord:Addr}(erp_NoWord:ErrP K mg "NoWord" Wp_NoWord Cp_NoWord){Wp_TooMany Cp_TooMany:Addr}(erp_TooMany:ErrP K mg "TooMany" Wp_TooMany Cp_TooMany)(U_TooMany_NoWord:UpK K mg ["TooMany","NoWord"])(J_TooMany_ValueError:rJ K mg "TooMany" "ValueError" true)(J_NoWord_ValueError:rJ K mg "NoWord" "ValueError" true)(I_TooMany_TooMany:Is1 K mg "TooMany" "TooMany" true)(I_NoWord_TooMany:Is1 K mg "NoWord" "TooMany" false)(I_TooMany_NoWord:Is1 K mg "TooMany" "NoWord" false)(I_NoWord_NoWord:Is1 K mg "NoWord" "NoWord" true):aX P w K mg base TH 17 "_law_asked" ["_law_machine_here","_law_word"] cJ:=
 @dH P w K mg base TH "_law_asked" (top 41) ["_law_machine_here","_law_word","_law_told","e"] ["_law_machine_here","_law_word"] 16 gA D qQ (fun f cdv A outer s H F E hr=>by
  have nd:=qQ.nd
  exact (Fl.aD (Fl.aJ (L2.aJ (i:=2) nd rfl (Or.inl rfl) (aS (cN (aE bY (aE bY aU))))))
   (Fl.aD (aNT (i:=3) (j:=2) (z:="told") rfl rfl ⟨rfl,rfl⟩ nd rfl (Or.inl rfl) rfl rfl rfl U_TooMany_NoWord.choose_spec.choose_spec.1 U_TooMany_NoWord.choose_spec.choose_spec.2.1 U_TooMany_NoWord.choose_spec.choose_spec.2.2 (fun pn σ E1=>uY) (fun pn σ E1=>aPK c_first_strip (hr.mono (by decide)) rfl (aF (aT (pv 0)) (aF (aT (pv 1)) bF))) (fun e1=>(Fl.aO (Fl.aJ (L2.aJ (i:=2) nd rfl (Or.inl rfl) (aS (cN (aE bY (aE (dM (cU (aE (aG8 rfl (aBC erp_TooMany.c erp_TooMany.m I_TooMany_NoWord (aDI erp_NoWord.c erp_NoWord.m I_NoWord_NoWord)) fun D hD=>bN gS rfl T.b_isinstance B3 (aH (pv 3) (aH (lE (v:=.ref D) rfl hD rfl) aR))) (aE (aG8 rfl (aBC erp_TooMany.c erp_TooMany.m I_TooMany_TooMany (aDI erp_NoWord.c erp_NoWord.m I_NoWord_TooMany)) fun D hD=>bN gS rfl T.b_isinstance B3 (aH (pv 3) (aH (lE (v:=.ref D) rfl hD rfl) aR))) (aE (aG7 rfl rfl (aBD erp_TooMany.c erp_TooMany.m J_TooMany_ValueError (aBD erp_NoWord.c erp_NoWord.m J_NoWord_ValueError aDH)) (bN gS rfl T.b_isinstance B3 (aH (pv 3) (aH (oU (v:=.ty "ValueError") rfl T.b_ValueError aL7 rfl) aR)))) aU))))) aU)))))))))
   (Fl.aO (Fl.bH (aT (pv 2)))))))
theorem aHV:FnScope ["_law_script","_law_machine_here","_law_ways_here","_law_strips","_law_rows","_law_words","_law_turn","_law_word","_law_due","_law_strange","_law_great"] ["_law_script"] (aN (top 42)):=by constructor<;>first|rfl|decide +kernel
theorem aQY(T:Txt w K mg){fL:Addr}{fdL:FuncData}(FL:Fun K "law" "law" (top 42) fL fdL)(c__law_small:aX P w K mg base TH 5 "_law_small" ["_law_script","_law_at"] iD)(c__law_asked:aX P w K mg base TH 17 "_law_asked" ["_law_machine_here","_law_word"] cJ)(c__law_says:aX P w K mg base TH 3 "_law_says" ["_law_machine_here","_law_strip_here"] fE)(c__law_cell:aX P w K mg base TH 1 "_law_cell" ["_law_script","_law_k"] bT)(c__law_sweeper:aX P w K mg base TH 1 "_law_sweeper" ["_law_p","_law_q","_law_a","_law_b","_law_signs"] jP):FnOk P w K mg base (CXe P w) 18 fL fdL ["_law_script"] (spF (gOf P w K mg base TH) K mg 1 aFI):=
 @aPB P w K mg base TH "law" (top 42) ["_law_script","_law_machine_here","_law_ways_here","_law_strips","_law_rows","_law_words","_law_turn","_law_word","_law_due","_law_strange","_law_great"] ["_law_script"] 17 fL fdL aFH FL aHV (fun cdv A outer s H F E hr=>by
  have nd:=aHV.nd
  exact (Fl.aD (nJ (kZ rfl (c8 (bL 1) (c8 (bL 2) jI)) rfl) (g9 (dB (cB rfl rfl rfl (b9 c__law_small (hr.mono (by decide)) rfl (b8 fun _ _ _ h=>h) (aF (aT (pv 0)) (aF (aS aG) bF))))) (kS rfl (cZ (bK (i:=1) nd rfl (Or.inl rfl)) (cZ (bK (i:=2) nd rfl (Or.inl rfl)) jE)))))
   (Fl.aD (nJ (kZ rfl (c8 (bL 3) (c8 (bL 4) (c8 (bL 5) jI))) rfl) (g9 (bD (pv 2)) (kS rfl (cZ (bK (i:=3) nd rfl (Or.inl rfl)) (cZ (bK (i:=4) nd rfl (Or.inl rfl)) (cZ (bK (i:=5) nd rfl (Or.inl rfl)) jE))))))
   (Fl.aD (Fl.dJ (bL 6) (L2.dJ (dN ⟨rfl,rfl⟩) rfl (jJ (gG rfl T.b_range (aH (aB aG) aR))) (bK (i:=6) nd rfl (Or.inl rfl))
   (Fl.aO (Fl.dJ (bL 7) (L2.dJ (dN ⟨rfl,rfl⟩) rfl (aIP rfl (cN (aE bY (aE bY (aE bY aU))))) (bK (i:=7) nd rfl (Or.inl rfl))
   (Fl.aD (Fl.aJ (L2.aJ (i:=8) nd rfl (Or.inl rfl) (aS kW)))
   (Fl.aD (Fl.dR (Fl.cS (aO6 rfl hr.units) aIO (aC (pv 7)) (aC (pv 5)) (by with_unfolding_all rfl)) (Fl.aO (Fl.aJ (L2.aJ (i:=8) nd rfl (Or.inl rfl) (aS (a9 (bA rfl) aQ (aC (pv 3)) (aB (zC rfl (aHT GJ EK GK (zB hr.units) (aC (pv 5)) (aH (aC (pv 7)) aR))))))))) Fl.cT)
   (Fl.aD (Fl.dR (Fl.cS (rB rfl hr.units) nG (aB (dB (cB rfl rfl rfl (b9 c__law_asked (hr.mono (by decide)) rfl (b8 fun _ _ _ h=>h) (aF (aT (pv 1)) (aF (aT (pv 7)) bF)))))) (aB (cN (aE bY (aE (bD (pv 8)) aU)))) (cC _)) (Fl.aO (Fl.bH (aS gH))) Fl.cT)
   (Fl.aO (Fl.dR (PW.pt (Fl.lY (Fl.cS aAO vQ (aC (pv 8)) (aB kW) (cC _)) (Fl.lF (Fl.cS (rB rfl hr.units) nG (aB (dB (cB rfl rfl rfl (b9 c__law_says (hr.mono (by decide)) rfl (b8 fun _ _ _ h=>h) (aF (aT (pv 1)) (aF (aT (pv 8)) bF)))))) (aC (pv 7)) (cC _))))) (Fl.aO (Fl.bH (aS gH))) Fl.cT))))))))))
   (Fl.aD (Fl.aJ (L2.aJ (i:=9) nd rfl (Or.inl rfl) (aS (@a9 _ _ _ _ _ _ _ _ _ (bA rfl) aQ (@aB _ _ _ _ _ (@dM _ _ _ _ _ (@cU _ _ _ _ _ _ (@aE _ _ _ _ _ _ _ bY (@aE _ _ _ _ _ _ _ bY (@aE _ _ _ _ _ _ _ bY (@aE _ _ _ _ _ _ _ bY (@aE _ _ _ _ _ _ _ bY (@aE _ _ _ _ _ _ _ bY (@aE _ _ _ _ _ _ _ bY aU kF) kF) kF) kF) kF) kF) kF)))) (aB (aV c7 cE (aB (dB (cB rfl rfl rfl (b9 c__law_cell (hr.mono (by decide)) rfl (b8 fun _ _ _ h=>h) (aF (aT (pv 0)) (aF (aS aG) bF)))))) (aB aG))) (fun _ _=>rfl)))))
   (Fl.aD (Fl.aJ (L2.aJ (i:=10) nd rfl (Or.inl rfl) (cB rfl rfl rfl (b9 c__law_sweeper (hr.mono (by decide)) rfl (b8 fun _ _ _ h=>h) (aF (aS aG) (aF (aS aG) (aF (aS aG) (aF (aS aG) (aF (aS aG) bF)))))))))
   (Fl.aD (Fl.dR (Fl.cS (rB rfl hr.units) nG (aB (dB (cB rfl rfl rfl (b9 c__law_asked (hr.mono (by decide)) rfl (b8 fun _ _ _ h=>h) (aF (aT (pv 10)) (aF (aT (pv 9)) bF)))))) (aB (cN (aE bY (aE (dM (cU (aE gH (aE gH (aE gH aU))))) aU)))) (cC _)) (Fl.aO (Fl.bH (aS gH))) Fl.cT)
   (Fl.aD (Fl.dR (Fl.cS (rB rfl hr.units) nG (aB (dB (cB rfl rfl rfl (b9 c__law_asked (hr.mono (by decide)) rfl (b8 fun _ _ _ h=>h) (aF (aT (pv 1)) (aF (aT (pv 9)) bF)))))) (aB (cN (aE bY (aE (dM (cU (aE gH (aE gH (aE gH aU))))) aU)))) (cC _)) (Fl.aO (Fl.bH (aS gH))) Fl.cT)
   (Fl.aO (Fl.bH (aS (kX (i5 rfl hr.units) fZ (aB (dB (cB rfl rfl rfl (b9 c__law_asked (hr.mono (by decide)) rfl (b8 fun _ _ _ h=>h) (aF (aT (pv 10)) (aF (aS bY) bF)))))) (aB (cN (aE bY (aE (dM (cU (aE gH (aE gH (aE gH aU))))) aU)))) (cC _)))))))))))))
end
def sw1(k:Nat):Rw:=⟨if k=0 then .n 0 else .w "out",[((((k+1) % 13:Nat):Int),1)],if k=3 then .n 13 else .w "out"⟩
def sw2(k:Nat):Rw:=⟨.w (if k=5 then "by" else "out"),[(((13+(k+1) % 17:Nat):Int),-1)],.w "out"⟩
def swR:List Rw:=(List.range 13).map sw1++(List.range 17).map sw2
theorem aNV:jP [.d (.int 13),.d (.int 17),.d (.int 3),.d (.int 5),.d (.int 1)]=.ok (.d (bE swR)):=by
 with_unfolding_all exact (id rfl)
theorem sE:swR.length=30:=rfl
theorem aQZ{k:Nat}(h:k < 13):aW swR (k:Int)=sw1 k:=by
 unfold aW
 rw[ES,A3,show swR[k]? = some (sw1 k) from ?_]
 ·rfl
 ·unfold swR
  rw[BQ (by rw[AB,BU];exact h),AJ,CI h];rfl
theorem aQ0{k:Nat}(h:k < 17):aW swR ((13+k:Nat):Int)=sw2 k:=by
 unfold aW
 rw[ES,A3,show swR[13+k]? = some (sw2 k) from ?_]
 ·rfl
 ·unfold swR
  rw[B5 (by rw[AB,BU];omega),AB,BU,show 13+k - 13=k by omega,AJ,CI h];rfl
theorem tF:Mach swR 1 where
 len:=by rw[sE];omega
 len2:=by rw[sE];omega
 sg1:=by omega
 sg3:=by omega
 row:=fun r hr=>by
  rw[sE]
  unfold swR at hr
  rcases BJ.mp hr with hr|hr
  ·obtain ⟨k,hk,rfl⟩:=A0.mp hr
   rw[BS] at hk
   refine ⟨⟨?_,?_,fun c hc=>?_⟩,rfl⟩
   ·unfold sw1;dsimp only;split
    · exact ⟨by omega, by omega⟩
    · exact .inr rfl
   ·unfold sw1;dsimp only;split
    · exact ⟨by omega, by omega⟩
    · exact .inr rfl
   ·rw[AQ.mp hc]
    exact ⟨by show (0:Int)<=(((k+1) % 13:Nat):Int);omega,by show (((k+1) % 13:Nat):Int) < _;omega,.inl rfl⟩
  ·obtain ⟨k,hk,rfl⟩:=A0.mp hr
   rw[BS] at hk
   refine ⟨⟨?_,.inr rfl,fun c hc=>?_⟩,rfl⟩
   ·unfold sw2;dsimp only;split
    · exact .inl rfl
    · exact .inr rfl
   ·rw[AQ.mp hc]
    exact ⟨by show (0:Int)<=((13+(k+1) % 17:Nat):Int);omega,by show ((13+(k+1) % 17:Nat):Int) < _;omega,.inr rfl⟩
def az(n:Nat):List Nat:=List.replicate n 97
theorem yC(n:Nat):az n++[97]=az (n+1):=by unfold az;rw[<-List.replicate_succ']
theorem uX{n:Nat}(h:n<=1000):bU 1 (az n):=⟨by unfold az;rw[DJ];exact h,fun c hc=>by rw[List.eq_of_mem_replicate hc];rfl⟩
theorem aR9{bk:Int->Tn}{k:Nat}(h:k < 13):onR swR bk 97 (.n (k:Int))=.n (((k+1) % 13:Nat):Int):=by
 have:eR swR bk 97 (k:Int)=some (.inr (.n (((k+1) % 13:Nat):Int))):=by
  unfold eR;rw[aQZ h];rfl
 show (bS _ _).getD _=_
 rw[fV (.out this)];rfl
theorem aSA{bk:Int->Tn}{k:Nat}{x:Str}(h:k < 17)(hb:bk ((13+(k+1) % 17:Nat):Int)=.w x):onR swR bk 97 (.n ((13+k:Nat):Int))=.w x:=by
 have h1:eR swR bk 97 ((13+k:Nat):Int)=some (.inr (.w x)):=by
  unfold eR;rw[aQ0 h]
  show (if (-1:Int)=1 then _ else match bk ((13+(k+1) % 17:Nat):Int) with | .n r=>some (Sum.inl r) | .w x=>some (.inr (Tn.w x)))=_
  rw[AH (by decide),hb]
 show (bS _ _).getD _=_
 rw[fV (.out h1)];rfl
theorem aSB{k:Nat}(h:k < 30):dC swR (k:Int):=⟨by omega,by rw[sE];omega⟩
theorem aQ1:∀ n,n<=900->dQ swR (az n) (0,0)=.n ((n % 13:Nat):Int):=by
 intro n
 induction n with
 | zero=>
  intro _
  have h:=aQZ (k:=0) (by omega)
  show dQ _ [] (0,0)=_
  rw[sX,show (0:Int)=((0:Nat):Int) from rfl,h];rfl
 | succ n ih=>
  intro hn
  rw[<-yC,y9 tF (uX (by omega)) rfl,ih (by omega),aR9 (Nat.mod_lt _ (by omega)),Nat.mod_add_mod]
theorem aQ2:∀ n,n<=900->∀ {k:Nat},k < 17->begB swR (az n) ((13+k:Nat):Int)=.w (if (k+n) % 17=5 then "by" else "out"):=by
 intro n
 induction n with
 | zero=>
  intro _ k hk
  show dQ _ [] (0,((13+k:Nat):Int))=_
  rw[sX,aQ0 hk,Nat.add_zero,GE hk];rfl
 | succ n ih=>
  intro hn k hk
  rw[<-yC,y8 tF (uX (by omega)) rfl (aSB (by omega))]
  have hm:=Nat.mod_lt (k+1) (show 17 > 0 by omega)
  rw[aSA hk (ih (by omega) hm),show ((k+1) % 17+n) % 17=(k+(n+1)) % 17 by omega]
noncomputable def sb(n:Nat):PyData:=aP swR (az n)
theorem aTO{i j:Int}(h:(Tn.n i).d=(Tn.n j).d):i=j:=gE _ _ h
theorem aSC{n m:Nat}(hn:n<=900)(hm:m<=900)(h:sb n=sb m):n % 13=m % 13/\n % 17=m % 17:=by
 unfold sb aP iE at h
 injection h with h
 injection h with h1 h2
 injection h2 with h2
 injection h2 with h2
 have hb:∀ k:Nat,k < 30->begB swR (az n) (k:Int)=begB swR (az m) (k:Int):=fun k hk=>by
  rw[B1,B1] at h2
  have:=DM (fun l=>l[k]?) h2
  simp only[AJ,sE,CI hk,DW,FW,Function.comp] at this
  generalize begB swR (az n) (k:Int)=x at this
  generalize begB swR (az m) (k:Int)=y at this
  cases x<;>cases y<;>simp[Tn.d] at this ⊢<;>exact this
 refine ⟨?_,?_⟩
 ·rw[aQ1 n hn,aQ1 m hm] at h1
  have:=aTO h1
  omega
 ·have hk:(22 - n % 17) % 17 < 17:=Nat.mod_lt _ (by omega)
  have:=hb (13+(22 - n % 17) % 17) (by omega)
  rw[aQ2 n hn hk,aQ2 m hm hk,AG (by omega)] at this
  by_cases q:((22 - n % 17) % 17+m) % 17=5
  ·omega
  ·rw[AH q] at this
   injection this with this
   exact absurd this (by decide)
theorem aHW{after:PyData->List PyData}{b:Nat->PyData}{m:Nat}(ha:∀ n,n < m->after (b n)=[b (n+1)])(inj:∀ i j,i<=m->j<=m->b i=b j->i=j):∀ n,n<=m->bfQ after (b 0) n=(List.range (n+1)).map b:=by
 intro n
 induction n with
 | zero=>intro _;rfl
 | succ n ih=>
  intro hn
  have ih:=ih (by omega)
  have hg:(bfQ after (b 0) n)[n]? = some (b n):=by
   rw[ih,AJ,CI (by omega)];rfl
  rw[lQ hg,ih,ha n (by omega)]
  show adQ _ (b (n+1))=_
  rw[kP,List.range_succ (n:=n+1),A7]
  ·rfl
  ·intro hm
   obtain ⟨i,hi,e⟩:=A0.mp hm
   rw[BS] at hi
   have:=inj i (n+1) (by omega) (by omega) e
   omega
theorem aJ3{n:Nat}(hn:n<=900):afW swR 1 (sb n)=[sb (n+1)]:=by
 unfold sb
 rw[<-qO tF (uX (by omega)),<-yC]
 rfl
theorem aQ3(n:Nat)(hn:n<=220):(bfW swR 1 n).length=n+1:=by
 have h:=aHW (after:=afW swR 1) (b:=sb) (m:=220) (fun n hn=>aJ3 (by omega)) (fun i j hi hj e=>by have:=aSC (by omega) (by omega) e;omega) n hn
 have h':bfW swR 1 n=(List.range (n+1)).map sb:=h
 rw[h',AB,BU]
theorem aNW:fJ [.d (bE swR)]=.ex ⟨"TooMany",[]⟩:=by
 obtain ⟨N,hN,E⟩:=aDZ swR 1 200
 have hl:=aQ3 N (by omega)
 have hf:=aHR tF E hN
 have:200 < (bfW swR 1 N).length:=by
  rcases E.off with z|z
  · omega
  · exact z
 rw[AG this] at hf
 exact hf
def enu(zs:List (List Nat)):List PZ:=zs.zipIdx.map fun p=>(PyData.int (p.2:Int),p.1)
theorem pP(zs:List (List Nat))(i:Nat):(enu zs)[i]? = (zs[i]?).map fun z=>(PyData.int (i:Int),z):=by
 unfold enu
 rw[AJ,C6]
 cases zs[i]?<;>simp
theorem aJ4(zs:List (List Nat))(z:List Nat):enu (zs++[z])=enu zs++[(PyData.int (zs.length:Int),z)]:=by
 unfold enu
 rw[List.zipIdx_append,A7]
 simp
theorem yD{zs:List (List Nat)}{n:Nat}:PyData.int (n:Int)∈(enu zs).map (·.1)↔n < zs.length:=by
 constructor
 ·intro h
  obtain ⟨p,hp,e⟩:=A0.mp h
  obtain ⟨i,hi⟩:=C8 hp
  rw[pP] at hi
  cases q:zs[i]? with
  | none=>rw[q] at hi;cases hi
  | some z=>
   rw[q] at hi
   cases hi
   have e2:=gE _ _ e
   have:=(AE.mp q).1
   omega
 ·intro h
  have:(enu zs)[n]? = some (PyData.int (n:Int),zs[n]):=by rw[pP,AI h];rfl
  exact A0.mpr ⟨_,AL this,rfl⟩
theorem aSD{fs t:List PyData}{y:PyData}(h:y∈fs):nrQ (fs++t) y < fs.length:=by
 unfold nrQ
 rw[FV,AG h]
 exact ED h
theorem aQ4{fs t:List PyData}{y:PyData}(h:y∉fs):nrQ (fs++y::t) y=fs.length:=by
 unfold nrQ
 rw[FV,AH h,List.idxOf_cons_self,GH]
theorem aB8{rs:List Rw}{z:List Nat}{bf:List PyData}:∀ (ks:List Nat) (zs:List (List Nat)),((ks.map fun k=>z++[97+k]).foldl (adZ rs) zs).map (aP rs) <+: bf->
  (ks.map fun k=>(PyData.int (nrQ bf (aP rs (z++[97+k])):Int),k)).foldl (adP z) (enu zs)=enu ((ks.map fun k=>z++[97+k]).foldl (adZ rs) zs)
 | [],_,_=>rfl
 | k::ks,zs,h=>by
  rw[AW,AW,CS,CS]
  rw[AW,CS] at h
  have h1:(adZ rs zs (z++[97+k])).map (aP rs) <+: bf:=((aB0 rs _ _).map _).trans h
  have e:adP z (enu zs) (PyData.int (nrQ bf (aP rs (z++[97+k])):Int),k)=enu (adZ rs zs (z++[97+k])):=by
   unfold adP
   by_cases q:aP rs (z++[97+k])∈zs.map (aP rs)
   ·have ez:adZ rs zs (z++[97+k])=zs:=AG q
    rw[ez] at h1 ⊢
    obtain ⟨t,rfl⟩:=h1
    have:=aSD (t:=t) q
    rw[AB] at this
    rw[AG (yD.mpr this)]
   ·have ez:adZ rs zs (z++[97+k])=zs++[z++[97+k]]:=AH q
    rw[ez] at h1 ⊢
    obtain ⟨t,rfl⟩:=h1
    rw[A7,AW,B0,EQ,List.singleton_append,aQ4 q,AB]
    rw[AH (fun z=>absurd (yD.mp z) (BM _)),aJ4]
  rw[e]
  exact aB8 ks _ h
section
variable{rs:List Rw}{sg N:Nat}
theorem aHX{α:Type}(g:Nat->α):∀ n,((List.range n).map g).zipIdx=(List.range n).map fun k=>(g k,k):=by
 intro n
 apply List.ext_getElem?
 intro i
 rw[C6,AJ,AJ]
 by_cases h:i < n
 · rw [CI h]; simp
 · rw [EB (by rw [BU]; omega)]; rfl
theorem aQ5(W:Wy rs sg N):∀ m,m<=N->bfP (afR (dO rs sg N)) (.int 0) m=enu (zsW rs sg m):=by
 intro m
 have hN:=W.n
 induction m with
 | zero=>intro _;rfl
 | succ m ih=>
  intro hm
  have ih:=ih (by omega)
  have ok:=iP W.m m (by omega)
  have okN:=iP W.m N (by omega)
  cases q:(zsW rs sg m)[m]? with
  | none=>
   have:(bfP (afR (dO rs sg N)) (.int 0) m)[m]? = none:=by rw[ih,pP,q];rfl
   rw[bfP,this,zsW,q]
   exact ih
  | some z=>
   have hp:(bfP (afR (dO rs sg N)) (.int 0) m)[m]? = some (.int (m:Int),z):=by rw[ih,pP,q];rfl
   have S:=(ok.ok z (AL q)).1
   have hb:(bfW rs sg N)[m]? = some (aP rs z):=by
    have h1:(bfW rs sg m)[m]? = some (aP rs z):=by rw[<-ok.map,AJ,q];rfl
    exact iM (iG (by omega)) h1
   have hr:(dO rs sg N).getD m []=(afW rs sg (aP rs z)).map (nrQ (bfW rs sg N)):=by
    unfold dO
    rw[A3,AJ,hb];rfl
   rw[aBY hp,ih,zsW,q]
   show (afR (dO rs sg N) (.int (m:Int))).zipIdx.foldl (adP z) _=_
   rw[tD,hr,<-qO W.m S]
   unfold dD
   rw[B1,B1,B1,aHX]
   have hz1:zsW rs sg (m+1)=(dD sg z).foldl (adZ rs) (zsW rs sg m):=by rw[zsW,q]
   refine aB8 (List.range sg) (zsW rs sg m) ?_
   have:((dD sg z).foldl (adZ rs) (zsW rs sg m)).map (aP rs) <+: bfW rs sg N:=by
    rw[<-hz1,(iP W.m (m+1) (by omega)).map]
    exact iG hm
   exact this
theorem aJ5(W:Wy rs sg N){ws:List PyData}{j:Nat}{z:List Nat}(hz:(zsW rs sg N)[j]? = some z):k9 [.d (rdD (dO rs sg N) ws),.d (.int (j:Int))]=.ok (.d (stD z)):=by
 have he:uS (dO rs sg N)=enu (zsW rs sg N):=by unfold uS;rw[W.rows_len];exact aQ5 W N (AK _)
 rcases F_leadR (ws:=ws) W.rdw.r j with ⟨i,y,h1,h2⟩|⟨h1,_⟩
 ·rw[he,pP] at h1
  cases q:(zsW rs sg N)[i]? with
  | none=>rw[q] at h1;cases h1
  | some x=>
   rw[q] at h1
   injection h1 with h1
   injection h1 with e1 e2
   have:=gE _ _ e1
   have:i=j:=by omega
   subst this
   rw[hz] at q
   injection q with q
   rw[h2,q,e2]
 ·rw[he] at h1
  exact absurd (yD.mpr (AE.mp hz).1) h1
end
@[simp] theorem aT5(f g:Sg->R PyData)(ρ:Sg):aFG f g ρ=(f ρ).bind fun x=>if aFF x=true then (g ρ).bind fun y=>uT x y else .bad:=id rfl
@[simp] theorem aUQ(xs:List PyData):aFF (.tuple xs)=true:=rfl
@[simp] theorem aUR(z:Str):aFF (.str z)=false:=rfl
def kG(w:Str):Prop:=w="by"\/w="out"\/w="ever"
theorem aKY{ws:List Str}(h:∀ w∈ws,kG w):SeqAt.shaped (.tuple (ws.map .str))=true:=Sh.shaped (n:=1) (sh_tup fun y hy=>by
 obtain ⟨w,hw,rfl⟩:=A0.mp hy
 exact vI 0 (by rcases h w hw with rfl|rfl|rfl<;>decide +kernel)) (by decide)
theorem wS{ws:List Str}(h:∀ w∈ws,kG w){w:Str}(hw:kG w):dIn (.str w) (.tuple (ws.map .str))=.ok (.bool (decide (w∈ws)))/\dNin (.str w) (.tuple (ws.map .str))=.ok (.bool (!decide (w∈ws))):=by
 have e:inD (.str w) (.tuple (ws.map .str))=some (decide (w∈ws)):=by
  show (if SeqAt.shaped (.str w)=true/\SeqAt.shaped (.tuple (ws.map .str))=true then some ((ws.map PyData.str).any fun y=>PyData.eqv y (.str w)) else none)=_
  rw[AG ⟨qJ hw,aKY h⟩]
  congr 1
  rw[Bool.eq_iff_iff,GG,decide_eq_true_eq]
  constructor
  ·rintro ⟨y,hy,e⟩
   obtain ⟨v,hv,rfl⟩:=A0.mp hy
   rw[wF] at e
   rw[<-LawfulBEq.eq_of_beq e];exact hv
  ·intro h
   exact ⟨_,A0.mpr ⟨w,h,rfl⟩,by rw[wF];exact CU w⟩
 unfold dIn dNin
 rw[e]
 exact ⟨rfl,rfl⟩
theorem aNX{ws:List Str}(h:∀ w∈ws,kG w)(hl:ws.length<=1000){w:Str}(hw:kG w)(hm:w∈ws):∃ j,j < ws.length/\ws[j]? = some w/\uT (.tuple (ws.map .str)) (.str w)=.ok (.int (j:Int)):=by
 have e:uT (.tuple (ws.map .str)) (.str w)=match (ws.map PyData.str).findIdx? fun y=>PyData.eqv y (.str w) with|some j=>.ok (.int j)|none=>.bad:=by
  show (if SeqAt.shaped (.str w)=true/\SeqAt.shaped (.tuple (ws.map .str))=true/\(ws.map PyData.str).length<=16777216 then (match (ws.map PyData.str).findIdx? fun y=>PyData.eqv y (.str w) with|some j=>R.ok (PyData.int j)|none=>.bad) else .bad)=_
  rw[AG ⟨qJ hw,aKY h,by rw[AB];omega⟩]
 cases q:(ws.map PyData.str).findIdx? fun y=>PyData.eqv y (.str w) with
 | none=>
  rw[F5] at q
  have:=q (.str w) (A0.mpr ⟨w,hm,rfl⟩)
  rw[wF,CU] at this
  cases this
 | some j=>
  rw[q] at e
  rw[EU] at q
  obtain ⟨h1,h2,_⟩:=q
  rw[AB] at h1
  rw[GI,wF] at h2
  exact ⟨j,h1,by rw[AI h1,LawfulBEq.eq_of_beq h2],e⟩
theorem aKZ{m:PyData}{x:Str}(h:dNin (.str x) (.tuple [.str "by",.str "out",.str "ever"])=.ok (.bool true)):cP [.d m,.d (.str x)]=.ex ⟨"NoWord",[]⟩:=by
 unfold cP gF xH
 simp[h]
theorem aFN{w:Str}(h:kG w):dNin (.str w) (.tuple [.str "by",.str "out",.str "ever"])=.ok (.bool false):=by
 have h2:=(wS (ws:=["by","out","ever"]) (fun w hw=>by simpa[kG] using hw) h).2
 rw[AY (by rcases h with rfl|rfl|rfl<;>simp)] at h2
 exact h2
theorem aNY{m:PyData}{w:Str}(hw:kG w)(h:fJ [.d m]=.ex ⟨"TooMany",[]⟩):cP [.d m,.d (.str w)]=.ex ⟨"TooMany",[]⟩:=by
 unfold cP gF
 simp[aFN hw,h]
theorem aNZ{m rd:PyData}{ws:List Str}{w:Str}(hw:kG w)(hs:∀ w∈ws,kG w)(h:fJ [.d m]=.ok (.d rd))(i1:dIx rd (.int 1)=.ok (.tuple (ws.map .str)))(hm:w∉ws):cP [.d m,.d (.str w)]=.ok (.d .none):=by
 unfold cP gF
 have h2:=(wS hs hw).2
 rw[AZ hm] at h2
 simp[aFN hw,h,i1,h2]
theorem aN0{m rd r:PyData}{ws:List Str}{w:Str}{j:Nat}(hw:kG w)(hs:∀ w∈ws,kG w)(h:fJ [.d m]=.ok (.d rd))(i1:dIx rd (.int 1)=.ok (.tuple (ws.map .str)))(hm:w∈ws)(hj:uT (.tuple (ws.map .str)) (.str w)=.ok (.int (j:Int)))(hl:k9 [.d rd,.d (.int (j:Int))]=.ok (.d r)):cP [.d m,.d (.str w)]=.ok (.d r):=by
 unfold cP gF
 have h2:=(wS hs hw).2
 rw[AY hm] at h2
 simp[aFN hw,h,i1,h2,hj,hl]
def mG(a b:Bool):PyData:=.tuple [.str "refused",.list [.bool a,.bool b,.bool true]]
theorem aK0{m x r:PyData}(h:cP [.d m,.d x]=.ok (.d r)):cJ [.d m,.d x]=.ok (.d (.tuple [.str "told",r])):=by
 unfold cJ gA
 simp[xS,gTu,h,putO]
theorem aSE:(("NoWord":Str) == ("TooMany":Str))=false:=by decide +kernel
theorem aK1{m x:PyData}(h:cP [.d m,.d x]=.ex ⟨"NoWord",[]⟩):cJ [.d m,.d x]=.ok (.d (mG true false)):=by
 unfold cJ gA mG
 simp[xS,gTu,h,putO,rL,aE4,List.lookup,aSE]
theorem aSF{m x:PyData}(h:cP [.d m,.d x]=.ex ⟨"TooMany",[]⟩):cJ [.d m,.d x]=.ok (.d (mG false true)):=by
 unfold cJ gA mG
 simp[xS,gTu,h,putO,rL,aE4,List.lookup]
section
variable{rs:List Rw}{sg N:Nat}
theorem aSG{z:List Nat}(h3:sg<=3)(S:bU sg z)(n:Nat):Sh n (stD z):=vI n (by
 unfold PyData.strOk
 rw[List.all_toArray,BT]
 intro c hc
 have h:=S.2 c hc
 unfold eO at h
 exact AY (by simp at h;omega))
theorem aSH(W:Wy rs sg N)(E:EndW rs sg 200 N){a b d f u i j:Option A}{w:Str}(hw:kG w) :
  ∃ v,lfB [a,some (.d (bE rs)),b,some (.d (.list ((zsW rs sg N).map stD))),d,some (.d (.tuple ((dA rs sg N).map .str))),f,some (.d (.str w)),u,i,j]=.ok (.nx [a,some (.d (bE rs)),b,some (.d (.list ((zsW rs sg N).map stD))),d,some (.d (.tuple ((dA rs sg N).map .str))),f,some (.d (.str w)),v,i,j]):=by
 have Mw:=W.rdw
 have hs:∀ w∈dA rs sg N,kG w:=Mw.ww
 have f1:=aTN W E
 have i1:dIx (rdW (dO rs sg N) (dA rs sg N)) (.int 1)=.ok (.tuple ((dA rs sg N).map .str)):=rfl
 obtain ⟨h1,_⟩:=wS hs hw
 by_cases hm:w∈dA rs sg N
 ·rw[AY hm] at h1
  obtain ⟨k,hk,hkw,hix⟩:=aNX hs (by rw[Mw.wl,W.rows_len];have:=W.n;omega) hw hm
  have hkN:k < N:=by rw[Mw.wl,W.rows_len] at hk;exact hk
  obtain ⟨z,hz,_,S,_⟩:=W.at_ hkN
  have hl:=aJ5 W (ws:=(dA rs sg N).map .str) hz
  have hf:=aK0 (aN0 hw hs f1 i1 hm hix hl)
  have hd:dIx (.list ((zsW rs sg N).map stD)) (.int (k:Int))=.ok (stD z):=lU (hJ (by rw[AJ,hz];rfl))
  have he:dNe (.tuple [.str "told",stD z]) (.tuple [.str "told",stD z])=.ok (.bool false):=aBX (Sh.shaped (n:=1) (sh_tup fun y hy=>by
   rcases AS.mp hy with rfl|hy
   · exact vI 0 (by decide +kernel)
   · rw [AQ.mp hy]; exact aSG W.m.sg3 S 0) (by decide))
  have hww:iY rs z=w:=by
   have:(dA rs sg N)[k]? = some (iY rs z):=by unfold dA;rw[AJ,hz];rfl
   rw[hkw] at this
   injection this with this
   exact this.symm
  have hsy:fE [.d (bE rs),.d (stD z)]=.ok (.d (.str w)):=by
   have:=aHG (z:=⟨z.toArray⟩) W.m (by simpa using S)
   rw[show (⟨z.toArray⟩:Str).cps.toList=z by simp,hww] at this
   exact this
  have hni:dIsnt (stD z) .none=.ok (.bool true):=rfl
  have hnw:=aR3 hw
  refine ⟨some (.d (stD z)),?_⟩
  unfold lfB
  generalize (dA rs sg N).map PyData.str=ws at *
  generalize (zsW rs sg N).map stD=zs at *
  generalize stD z=zz at *
  simp[h1,hix,hd,hf,he,hni,hsy,hnw]
 ·rw[AZ hm] at h1
  have hf:=aK0 (aNZ hw hs f1 i1 hm)
  have he:dNe (.tuple [.str "told",.none]) (.tuple [.str "told",.none])=.ok (.bool false):=aBX (by decide +kernel)
  have hni:dIsnt .none .none=.ok (.bool false):=rfl
  refine ⟨some (.d .none),?_⟩
  unfold lfB
  generalize (dA rs sg N).map PyData.str=ws at *
  generalize (zsW rs sg N).map stD=zs at *
  simp[h1,hf,he,hni]
theorem aN1(v:Int):∃ x:Str,dIx (.list [.str "",.str "By",.str "in",.str "for ever",.str "outs",.str "a",.str "byout"]) (.int (v % 7))=.ok (.str x)/\dNin (.str x) (.tuple [.str "by",.str "out",.str "ever"])=.ok (.bool true):=by
 have h:v % 7=0\/v % 7=1\/v % 7=2\/v % 7=3\/v % 7=4\/v % 7=5\/v % 7=6:=by omega
 have q:∀ x:Str,(SeqAt.shaped (.str x) && SeqAt.shaped (.tuple [.str "by",.str "out",.str "ever"]) && !([PyData.str "by",.str "out",.str "ever"].any fun y=>PyData.eqv y (.str x)))=true->dNin (.str x) (.tuple [.str "by",.str "out",.str "ever"])=.ok (.bool true):=fun x hx=>by
  rw[AU,AU,Bool.not_eq_true'] at hx
  have e:inD (.str x) (.tuple [.str "by",.str "out",.str "ever"])=some false:=by
   show (if SeqAt.shaped (.str x)=true/\SeqAt.shaped (.tuple [.str "by",.str "out",.str "ever"])=true then some ([PyData.str "by",.str "out",.str "ever"].any fun y=>PyData.eqv y (.str x)) else none)=_
   rw[AG hx.1,hx.2]
  unfold dNin
  rw[e];rfl
 rcases h with h|h|h|h|h|h|h<;>rw[h]<;>exact ⟨_,lU rfl,q _ (by decide +kernel)⟩
theorem aJ6:∀ ns:List Int,ns.length<=63->aFI [.d (.list (ns.map .int))]=.ok (.d (.bool true)):=by
 intro ns hns
 rw[show PyData.list (ns.map .int)=fQ ns from rfl]
 obtain ⟨rs,sg,N,es,S⟩:=aNO ns 0
 have es:iD [.d (fQ ns),.d (.int 0)]=_:=es
 have W:=S.wy
 have E:=S.e.up S.few (show 40<=200 by decide)
 have hways:fN rs sg N=.tuple [.list ((zsW rs sg N).map stD),.tuple ((dO rs sg N).map iF),.tuple ((dA rs sg N).map .str)]:=by
  have:=aHS W
  unfold aB1 rdW rdD at this
  unfold fN
  injection this with this
  injection this with h1 h2
  injection h2 with h2
  rw[h1,h2]
 obtain ⟨v,hv⟩:=rT ns 20
 obtain ⟨x,hx,hn⟩:=aN1 v
 have a1:=aK1 (aKZ (m:=bE swR) hn)
 have a2:=aK1 (aKZ (m:=bE rs) hn)
 have a3:=aSF (aNY (w:="by") (.inl rfl) aNW)
 have r1:dNe (mG true false) (mG true false)=.ok (.bool false):=aBX (by decide +kernel)
 have r3:dEq (mG false true) (mG false true)=.ok (.bool true):=aQO (by decide +kernel)
 have hsw:=aNV
 obtain ⟨ρ',q1,v6,v7,v8,q2⟩:=iL (fs:=stN 6) (fb:=lfO) (d:=fun i:Nat=>PyData.int (i:Int)) (xs:=List.range 2) (ρ:=[some (.d (fQ ns)),some (.d (bE rs)),some (.d (fN rs sg N)),some (.d (.list ((zsW rs sg N).map stD))),some (.d (.tuple ((dO rs sg N).map iF))),some (.d (.tuple ((dA rs sg N).map .str))),none,none,none,none,none])
  (fun _ ρ=>∃ v6 v7 v8,ρ=[some (.d (fQ ns)),some (.d (bE rs)),some (.d (fN rs sg N)),some (.d (.list ((zsW rs sg N).map stD))),some (.d (.tuple ((dO rs sg N).map iF))),some (.d (.tuple ((dA rs sg N).map .str))),v6,v7,v8,none,none]) ⟨none,none,none,rfl⟩ fun i k ρ hk zz0=>by
  obtain ⟨v6,v7,v8,e⟩:=zz0
  subst e
  obtain ⟨ρ',q1,v7',v8',q2⟩:=iL (fs:=stN 7) (fb:=lfB) (d:=PyData.str) (xs:=["ever","by","out"]) (ρ:=[some (.d (fQ ns)),some (.d (bE rs)),some (.d (fN rs sg N)),some (.d (.list ((zsW rs sg N).map stD))),some (.d (.tuple ((dO rs sg N).map iF))),some (.d (.tuple ((dA rs sg N).map .str))),some (.d (.int (k:Int))),v7,v8,none,none])
   (fun _ ρ=>∃ v7 v8,ρ=[some (.d (fQ ns)),some (.d (bE rs)),some (.d (fN rs sg N)),some (.d (.list ((zsW rs sg N).map stD))),some (.d (.tuple ((dO rs sg N).map iF))),some (.d (.tuple ((dA rs sg N).map .str))),some (.d (.int (k:Int))),v7,v8,none,none]) ⟨v7,v8,rfl⟩ fun i w ρ hk zz0=>by
   obtain ⟨v7,v8,e⟩:=zz0
   subst e
   have hw:kG w:=by
    have:=AL hk
    simp at this
    rcases this with rfl|rfl|rfl
    · exact .inr (.inr rfl)
    · exact .inl rfl
    · exact .inr (.inl rfl)
   obtain ⟨v,e⟩:=aSH W E (a:=some (.d (fQ ns))) (b:=some (.d (fN rs sg N))) (d:=some (.d (.tuple ((dO rs sg N).map iF)))) (f:=some (.d (.int (k:Int)))) (u:=v8) (i:=none) (j:=none) hw
   exact ⟨_,_,rfl,.inl e,_,_,rfl⟩
  subst q2
  refine ⟨_,_,rfl,.inl ?_,some (.d (.int (k:Int))),v7',v8',rfl⟩
  unfold lfO
  have hd:bV (.tuple [.str "ever",.str "by",.str "out"])=.ok (List.map PyData.str (["ever","by","out"]:List Str)):=qH (by decide)
  generalize fN rs sg N=wd at *
  generalize (zsW rs sg N).map stD=zd at *
  generalize (dO rs sg N).map iF=rd at *
  generalize (dA rs sg N).map PyData.str=sd at *
  generalize List.map PyData.str (["ever","by","out"]:List Str)=tri at *
  simp[hd,q1]
 subst q2
 unfold aFI
 rw[aFH]
 have hw3:∀ (fs:List (PyData->Sg->Option Sg)) (ρ:Sg),stT fs (fN rs sg N) ρ=stL fs [.list ((zsW rs sg N).map stD),.tuple ((dO rs sg N).map iF),.tuple ((dA rs sg N).map .str)] ρ:=fun fs ρ=>by rw[hways];exact aPY _ _ _
 have hr:jW 0 2=.ok ((List.range 2).map fun i:Nat=>.int (i:Int)):=jC (n:=2) (by decide)
 have hm7:dMod (.int v) (.int 7)=.ok (.int (v % 7)):=dW (by decide)
 have tail:lfE [some (.d (fQ ns)),some (.d (bE rs)),some (.d (fN rs sg N)),some (.d (.list ((zsW rs sg N).map stD))),some (.d (.tuple ((dO rs sg N).map iF))),some (.d (.tuple ((dA rs sg N).map .str))),v6,v7,v8,none,none]=.ok (.rt (.d (.bool true))):=by
  unfold lfE
  generalize fN rs sg N=wd at *
  generalize (zsW rs sg N).map stD=zd at *
  generalize (dO rs sg N).map iF=rd at *
  generalize (dA rs sg N).map PyData.str=sd at *
  have r1:dNe (mG true false) (.tuple [.str "refused",.list [.bool true,.bool false,.bool true]])=.ok (.bool false):=r1
  have r3:dEq (mG false true) (.tuple [.str "refused",.list [.bool false,.bool true,.bool true]])=.ok (.bool true):=r3
  generalize mG true false=rr at *
  generalize mG false true=rq at *
  generalize bE swR=sm at *
  simp[hv,hm7,hx,hsw,a1,a2,a3,r1,r3]
 generalize fN rs sg N=wd at *
 generalize (zsW rs sg N).map stD=zd at *
 generalize (dO rs sg N).map iF=rd at *
 generalize (dA rs sg N).map PyData.str=sd at *
 generalize (List.range 2).map (fun i:Nat=>PyData.int (i:Int))=two at *
 simp[es,hw3,hr,q1,tail]
end
theorem aQ6{K:Frag}{a:Addr}{x y z:Str}{t1 t2 t3 n:Nat}{sl:Array (Option Value)}(l:K.lookup a=some ⟨.type "tuple",none,.seq #[.str x t1,.str y t2,.str z t3] n,sl⟩):wY K a [.str x,.str y,.str z]:=
 ⟨_,_,_,l,⟨rfl,rfl⟩,rfl,by show 3<=sizeLine;decide,.cons ⟨_,rfl⟩ (.cons ⟨_,rfl⟩ (.cons ⟨_,rfl⟩ .nil))⟩
section
variable{P:Program}{w:World}{K:Frag}{mg:Str->Option Value}{base:Heap}{TH:Hp}
theorem aN2(T:Txt w K mg)(Erp_TooMany:∃ W C,ErrP K mg "TooMany" W C)(Erp_NoWord:∃ W C,ErrP K mg "NoWord" W C)(U_TooMany_NoWord:UpK K mg ["TooMany","NoWord"])(J_TooMany_ValueError:rJ K mg "TooMany" "ValueError" true)(J_NoWord_ValueError:rJ K mg "NoWord" "ValueError" true)(I_TooMany_TooMany:Is1 K mg "TooMany" "TooMany" true)(I_NoWord_TooMany:Is1 K mg "NoWord" "TooMany" false)(I_TooMany_NoWord:Is1 K mg "TooMany" "NoWord" false)(I_NoWord_NoWord:Is1 K mg "NoWord" "NoWord" true)(D6:DefAt K mg "signs_of" (top 6) ["machine"])(D7:DefAt K mg "cells_of" (top 7) ["machine","number"])(D9:DefAt K mg "reached" (top 9) ["begin","after","done"])(D10:DefAt K mg "strip_to" (top 10) ["rows","number"])(D11:DefAtT K mg base TH qsT "first_to" (top 11) ["begin","after","wanted"])(D14:DefAt K mg "is_word" (top 14) ["part"])(D15:DefAt K mg "without_signs" (top 15) ["machine"])(D16:DefAt K mg "gone_on" (top 16) ["backs","cells","room"])(D17:DefAt K mg "longer" (top 17) ["begun","cells"])(D18:DefAt K mg "word_behind" (top 18) ["machine","begun"])(D19:DefAtT K mg base TH qsT "one_way" (top 19) ["machine"])(D21:DefAtT K mg base TH qsT "lead" (top 21) ["reader","room"])(D24:DefAt K mg "first_strip" (top 24) ["machine","word"])(D26:DefAt K mg "_law_cell" (top 26) ["_law_script","_law_k"])(D27:DefAt K mg "_law_end" (top 27) ["_law_number","_law_rooms"])(D28:DefAt K mg "_law_digit_row" (top 28) ["_law_number","_law_rooms","_law_signs"])(D29:DefAt K mg "_law_mixed_row" (top 29) ["_law_number","_law_rooms","_law_signs"])(D30:DefAt K mg "_law_machine" (top 30) ["_law_script","_law_at","_law_rooms","_law_signs"])(D32:DefAt K mg "_law_step" (top 32) ["_law_machine_here","_law_strip_here","_law_stand"])(D33:DefAt K mg "_law_stands" (top 33) ["_law_machine_here","_law_strip_here"])(D34:DefAt K mg "_law_says" (top 34) ["_law_machine_here","_law_strip_here"])(D36:DefAt K mg "_law_beyond" (top 36) ["_law_machine_here","_law_strip_here","_law_place","_law_room"])(D37:DefAt K mg "_law_beginning" (top 37) ["_law_machine_here","_law_strip_here"])(D38:DefAt K mg "_law_ways" (top 38) ["_law_machine_here","_law_signs","_law_most"])(D39:DefAt K mg "_law_small" (top 39) ["_law_script","_law_at"])(D40:DefAt K mg "_law_sweeper" (top 40) ["_law_p","_law_q","_law_a","_law_b","_law_signs"])(D41:DefAt K mg "_law_asked" (top 41) ["_law_machine_here","_law_word"]){fL:Addr}{fdL:FuncData}(FL:Fun K "law" "law" (top 42) fL fdL):FnOk P w K mg base (CXe P w) 18 fL fdL ["_law_script"] (aE2 K TH):=by
 obtain ⟨Wp_TooMany,Cp_TooMany,erp_TooMany⟩:=Erp_TooMany
 obtain ⟨Wp_NoWord,Cp_NoWord,erp_NoWord⟩:=Erp_NoWord
 have c_signs_of:=@aCG P w K mg base TH T D6
 have c_cells_of:=@aCH P w K mg base TH T D7
 have c_reached:=@aFJ P w K mg base TH T D9
 have c_strip_to:=@aCI P w K mg base TH T D10
 have c_first_to:=@aCJ P w K mg base TH T D11 c_reached c_strip_to
 have c_is_word:=@aFK P w K mg base TH T D14
 have c_without_signs:=@uU P w K mg base TH T D15
 have c_gone_on:=@aFL P w K mg base TH T D16 c_is_word
 have c_longer:=@aHU P w K mg base TH T D17 c_gone_on
 have c_word_behind:=@xY P w K mg base TH T D18 c_is_word
 have c_one_way:=aFM (P:=P) (w:=w) (base:=base) (TH:=TH) T D19 c_signs_of c_cells_of c_longer c_reached c_without_signs c_word_behind erp_TooMany
 have c_lead:=@aNU P w K mg base TH T D21 c_first_to
 have c_first_strip:=x9 (P:=P) (w:=w) (base:=base) (TH:=TH) T D24 c_one_way c_lead erp_NoWord
 have c__law_cell:=@aB4 P w K mg base TH T D26
 have c__law_end:=@aCK P w K mg base TH T D27
 have c__law_digit_row:=@tP P w K mg base TH T D28
 have c__law_mixed_row:=@tQ P w K mg base TH T D29 c__law_end
 have c__law_machine:=@wQ P w K mg base TH T D30 c__law_digit_row c__law_mixed_row c__law_cell
 have c__law_step:=@aB5 P w K mg base TH T D32
 have c__law_stands:=@yA P w K mg base TH T D33 c__law_step
 have c__law_says:=@aB6 P w K mg base TH T D34 c__law_stands c__law_step
 have c__law_beyond:=@yB P w K mg base TH T D36 c__law_step
 have c__law_beginning:=@tR P w K mg base TH T D37 c__law_beyond
 have c__law_ways:=@aB7 P w K mg base TH T D38 c__law_beginning c__law_says
 have c__law_small:=@zI P w K mg base TH T D39 c__law_cell c__law_machine c__law_ways
 have c__law_sweeper:=@wR P w K mg base TH T D40
 have c__law_asked:=zJ (P:=P) (w:=w) (base:=base) (TH:=TH) T D41 c_first_strip erp_NoWord erp_TooMany U_TooMany_NoWord J_TooMany_ValueError J_NoWord_ValueError I_TooMany_TooMany I_NoWord_TooMany I_TooMany_NoWord I_NoWord_NoWord
 exact aPC (aQY (P:=P) (w:=w) (base:=base) (TH:=TH) T FL c__law_small c__law_asked c__law_says c__law_cell c__law_sweeper) aJ6
end
section
variable{w:World}{K:Frag}{h:Heap}{mg:Str->Option Value}
theorem aQ7(X:K.In h)(G:h.Ns mainGlobals mg){t_MOST_BEGINNINGS:Nat}{t_SIGNS:Nat}{a_WORDS:Addr}(z_ValueError:PySem.W.nsIn K mainGlobals "ValueError"=some none)(z_bool:PySem.W.nsIn K mainGlobals "bool"=some none)(z_enumerate:PySem.W.nsIn K mainGlobals "enumerate"=some none)(z_int:PySem.W.nsIn K mainGlobals "int"=some none)(z_isinstance:PySem.W.nsIn K mainGlobals "isinstance"=some none)(z_len:PySem.W.nsIn K mainGlobals "len"=some none)(z_range:PySem.W.nsIn K mainGlobals "range"=some none)(z_str:PySem.W.nsIn K mainGlobals "str"=some none)(z_tuple:PySem.W.nsIn K mainGlobals "tuple"=some none)(z_zip:PySem.W.nsIn K mainGlobals "zip"=some none)(s_MOST_BEGINNINGS:PySem.W.nsIn K mainGlobals "MOST_BEGINNINGS"=some (some (.int 200 t_MOST_BEGINNINGS)))(s_SIGNS:PySem.W.nsIn K mainGlobals "SIGNS"=some (some (.str "abc" t_SIGNS)))(s_WORDS:PySem.W.nsIn K mainGlobals "WORDS"=some (some (.ref a_WORDS)))(m_WORDS:wY K a_WORDS [.str "by",.str "out",.str "ever"]):Txt w K mg:=⟨B8 X G z_ValueError,B8 X G z_bool,B8 X G z_enumerate,B8 X G z_int,B8 X G z_isinstance,B8 X G z_len,B8 X G z_range,B8 X G z_str,B8 X G z_tuple,B8 X G z_zip,⟨t_MOST_BEGINNINGS,CM X G s_MOST_BEGINNINGS⟩,⟨t_SIGNS,CM X G s_SIGNS⟩,⟨a_WORDS,CM X G s_WORDS,m_WORDS⟩⟩
theorem aHY{x:Str}(X:K.In h)(G:h.Ns mainGlobals mg){W C NC:Addr}{bsC subC:List Value}{nmC qC:Str}{abC:Bool}{snC:List Str}{colC:Option Bool}{ddC:Option Addr}{c0 c1 c2 c3 c5:Option Value}{wc:Value}{wd:Option Addr}{cd:ClassData}{wsl:Array (Option Value)}
  (m:PySem.W.nsIn K mainGlobals x=some (some (.ref C)))
  (e1:K.lookup C=some (excClassObj nmC qC C NC bsC (.ref W::SX.jU) true snC subC abC colC ddC c0 c1 c2 c3 c5 "ValueError.__new__"))
  (e2:PySem.W.findIn K (.ref C) "__setattr__"=some (some (.builtin "object.__setattr__"))) (e3:PySem.W.findIn K (.ref C) "__getattribute__"=some (some (.builtin "BaseException.__getattribute__"))) (e4:PySem.W.findIn K (.ref C) "__getattr__"=some none) (e5:PySem.W.findIn K (.ref C) "__class__"=some (some (.builtin "object.__class__")))
  (e6:PySem.W.specialIn K (.builtin "object.__class__") "__get__"=some (some (.builtin "getset_descriptor.__get__"))) (e7:PySem.W.takesIn K (.builtin "object.__class__")=some true) (e8:PySem.W.keepIn K (.ref C)=true)
  (n1:PySem.W.nsOkIn K NC=true) (n2:PySem.W.nsIn K NC "__init__"=some none) (w1:K.lookup W=some ⟨wc,wd,.cls cd,wsl⟩) (w2:PySem.W.nsOkIn K cd.ns=true) (w3:PySem.W.nsIn K cd.ns "__init__"=some none):∃ W C,ErrP K mg x W C:=
 ⟨W,C,aLK e1 e2 e3 e4 e5 e6 e7 e8,CM X G m,⟨_,_,NC,_,_,_,_,_,_,_,_,_,_,_,e1,n1,n2⟩,⟨_,_,cd,_,w1,w2,w3⟩⟩
theorem wU{nm q:Str}{b:Bool}(X:K.In h)(G:h.Ns mainGlobals mg){C D:Addr}(a:PySem.W.nsIn K mainGlobals q=some (some (.ref D)))(m:PySem.W.nsIn K mainGlobals nm=some (some (.ref C)))(k:PySem.W.kitOne K (.ref C) (.ref D)=some b):Is1 K mg nm q b:=⟨D,C,CM X G a,CM X G m,k⟩
theorem aD4{nm:Str}{q:String}{b:Bool}(X:K.In h)(G:h.Ns mainGlobals mg){C:Addr}(m:PySem.W.nsIn K mainGlobals nm=some (some (.ref C)))(k:PySem.W.kitOne K (.ref C) (.type q)=some b):rJ K mg nm q b:=⟨C,CM X G m,k⟩
theorem aK2{nm:Str}(X:K.In h)(G:h.Ns mainGlobals mg){W C NC NW:Addr}{bsC subC bsW subW bmW:List Value}{nmC qC nmW qW:Str}{abC abW hdW:Bool}{snC snW:List Str}{colC colW:Option Bool}{ddC ddW:Option Addr}{c0 c1 c2 c3 c5 w0 w1 w2 w3 w5:Option Value}{nidW:String}
  (a:PySem.W.nsIn K mainGlobals "WayError"=some (some (.ref W))) (l:K.lookup W=some (excClassObj nmW qW W NW bsW bmW hdW snW subW abW colW ddW w0 w1 w2 w3 w5 nidW)) (b:bmW.contains (.type "BaseException")=true)
  (m:PySem.W.nsIn K mainGlobals nm=some (some (.ref C)))
  (e1:K.lookup C=some (excClassObj nmC qC C NC bsC (.ref W::SX.jU) true snC subC abC colC ddC c0 c1 c2 c3 c5 "ValueError.__new__")):UpK K mg [nm]:=
 ⟨W,bmW,CM X G a,aF8 l b,fun n hn=>by
  rw[AQ.mp hn]
  exact ⟨C,_,CM X G m,aF8 e1 (SX.aH9 W).hasBase,by simp⟩⟩
theorem rec_in{q:Program}{x:Str}(h:((recsOf q).any fun d=>d.name == x)=true):∃ d∈recsOf q,d.name=x:=by
 obtain ⟨d,hd,e⟩:=GG.mp h
 exact ⟨d,hd,EJ e⟩
theorem aQ8{fa f:Addr}{oc:Value}{od an:Option Addr}{osl:Array (Option Value)}{kV doc pm cdv ct:Value}(X:K.In h)(G:h.Ns mainGlobals mg)(hmg:mg "law"=some (.ref fa))(a:PySem.W.nsIn K mainGlobals "law"=some (some (.ref f)))(l:K.lookup f=some ⟨oc,od,.func (PySem.W.fnOf "law" "law" (hR (top 42)) (cQ (top 42)) (aN (top 42)) .none kV doc pm an cdv ct),osl⟩)
  (c:PySem.W.codeIn K cdv "law"=true) (k:PySem.W.keepIn K (.ref f)=true):∃ fd,Fun K "law" "law" (top 42) fa fd/\∀ (s:Shared) (u:Value),BindsTo s fd ⟨[u],[]⟩ [("_law_script",u)]:=by
 have e:=hmg.symm.trans (CM X G a)
 cases e
 exact ⟨_,aF2 (st:=top 42) l c k,fun s u=>.of_eq rfl⟩
end
end Mc
open PySem PySem.W PyProof.Rows
set_option maxRecDepth 100000 in
set_option maxHeartbeats 0 in
theorem PySem.Challenge.cw_striproam_k30_first_strips_by_words_holds : PySem.Challenge.rw_striproam_k30_first_strips_by_words.Holds := by
 w_on;o_law;k_head;(case hw=>w_witness2)
 k_fill
 refine Fl.aL3 (l:=PySem.Challenge.rw_striproam_k30_first_strips_by_words) (k:=18) (x:="_law_script") (qs:=Mc.qsT) (xs:=["first_to","one_way","lead"]) ?hx ?hNT rfl rfl ⟨rfl,by decide,by decide⟩ (fun w h Y=>PySem.W.km_in_of Y) ?F
 case hx=>
  intro x hx
  simp only[AS,CA,D4] at hx
  rcases hx with rfl|rfl|rfl<;>exact Mc.rec_in (by decide +kernel)
 case hNT=>
  intro w
  kernel_rfl
 case F=>
  intro w mg fa h KX G hmg
  have D6:L2.DefAt (L2.KOf KX) mg "signs_of" (Mc.top 6) ["machine"]:=by dsimp only[L2.KOf];refine' Mc.b7 KX G ?a ?l ?c ?k ?b;(case a=>k_is);(case l=>k_is);(case c=>k_is);(case k=>k_is);(case b=>exact fun _ _ _ _ _ _=>Mc.bn1 fun _=>rfl)
  have D7:L2.DefAt (L2.KOf KX) mg "cells_of" (Mc.top 7) ["machine","number"]:=by dsimp only[L2.KOf];refine' Mc.b7 KX G ?a ?l ?c ?k ?b;(case a=>k_is);(case l=>k_is);(case c=>k_is);(case k=>k_is);(case b=>exact fun _ _ _ _ _ _=>Mc.bn2 fun _ _=>rfl)
  have D9:L2.DefAt (L2.KOf KX) mg "reached" (Mc.top 9) ["begin","after","done"]:=by dsimp only[L2.KOf];refine' Mc.b7 KX G ?a ?l ?c ?k ?b;(case a=>k_is);(case l=>k_is);(case c=>k_is);(case k=>k_is);(case b=>exact fun _ _ _ _ _ _=>Mc.bn3 fun _ _ _=>rfl)
  have D10:L2.DefAt (L2.KOf KX) mg "strip_to" (Mc.top 10) ["rows","number"]:=by dsimp only[L2.KOf];refine' Mc.b7 KX G ?a ?l ?c ?k ?b;(case a=>k_is);(case l=>k_is);(case c=>k_is);(case k=>k_is);(case b=>exact fun _ _ _ _ _ _=>Mc.bn2 fun _ _=>rfl)
  have D11:L2.DefAt (L2.KOf KX) mg "first_to" (Mc.top 11) ["begin","after","wanted"]:=by dsimp only[L2.KOf];refine' Mc.b7 KX G ?a ?l ?c ?k ?b;(case a=>k_is);(case l=>k_is);(case c=>k_is);(case k=>k_is);(case b=>exact fun _ _ _ _ _ _=>Mc.bn3 fun _ _ _=>rfl)
  have D14:L2.DefAt (L2.KOf KX) mg "is_word" (Mc.top 14) ["part"]:=by dsimp only[L2.KOf];refine' Mc.b7 KX G ?a ?l ?c ?k ?b;(case a=>k_is);(case l=>k_is);(case c=>k_is);(case k=>k_is);(case b=>exact fun _ _ _ _ _ _=>Mc.bn1 fun _=>rfl)
  have D15:L2.DefAt (L2.KOf KX) mg "without_signs" (Mc.top 15) ["machine"]:=by dsimp only[L2.KOf];refine' Mc.b7 KX G ?a ?l ?c ?k ?b;(case a=>k_is);(case l=>k_is);(case c=>k_is);(case k=>k_is);(case b=>exact fun _ _ _ _ _ _=>Mc.bn1 fun _=>rfl)
  have D16:L2.DefAt (L2.KOf KX) mg "gone_on" (Mc.top 16) ["backs","cells","room"]:=by dsimp only[L2.KOf];refine' Mc.b7 KX G ?a ?l ?c ?k ?b;(case a=>k_is);(case l=>k_is);(case c=>k_is);(case k=>k_is);(case b=>exact fun _ _ _ _ _ _=>Mc.bn3 fun _ _ _=>rfl)
  have D17:L2.DefAt (L2.KOf KX) mg "longer" (Mc.top 17) ["begun","cells"]:=by dsimp only[L2.KOf];refine' Mc.b7 KX G ?a ?l ?c ?k ?b;(case a=>k_is);(case l=>k_is);(case c=>k_is);(case k=>k_is);(case b=>exact fun _ _ _ _ _ _=>Mc.bn2 fun _ _=>rfl)
  have D18:L2.DefAt (L2.KOf KX) mg "word_behind" (Mc.top 18) ["machine","begun"]:=by dsimp only[L2.KOf];refine' Mc.b7 KX G ?a ?l ?c ?k ?b;(case a=>k_is);(case l=>k_is);(case c=>k_is);(case k=>k_is);(case b=>exact fun _ _ _ _ _ _=>Mc.bn2 fun _ _=>rfl)
  have D19:L2.DefAt (L2.KOf KX) mg "one_way" (Mc.top 19) ["machine"]:=by dsimp only[L2.KOf];refine' Mc.b7 KX G ?a ?l ?c ?k ?b;(case a=>k_is);(case l=>k_is);(case c=>k_is);(case k=>k_is);(case b=>exact fun _ _ _ _ _ _=>Mc.bn1 fun _=>rfl)
  have D21:L2.DefAt (L2.KOf KX) mg "lead" (Mc.top 21) ["reader","room"]:=by dsimp only[L2.KOf];refine' Mc.b7 KX G ?a ?l ?c ?k ?b;(case a=>k_is);(case l=>k_is);(case c=>k_is);(case k=>k_is);(case b=>exact fun _ _ _ _ _ _=>Mc.bn2 fun _ _=>rfl)
  have D24:L2.DefAt (L2.KOf KX) mg "first_strip" (Mc.top 24) ["machine","word"]:=by dsimp only[L2.KOf];refine' Mc.b7 KX G ?a ?l ?c ?k ?b;(case a=>k_is);(case l=>k_is);(case c=>k_is);(case k=>k_is);(case b=>exact fun _ _ _ _ _ _=>Mc.bn2 fun _ _=>rfl)
  have D26:L2.DefAt (L2.KOf KX) mg "_law_cell" (Mc.top 26) ["_law_script","_law_k"]:=by dsimp only[L2.KOf];refine' Mc.b7 KX G ?a ?l ?c ?k ?b;(case a=>k_is);(case l=>k_is);(case c=>k_is);(case k=>k_is);(case b=>exact fun _ _ _ _ _ _=>Mc.bn2 fun _ _=>rfl)
  have D27:L2.DefAt (L2.KOf KX) mg "_law_end" (Mc.top 27) ["_law_number","_law_rooms"]:=by dsimp only[L2.KOf];refine' Mc.b7 KX G ?a ?l ?c ?k ?b;(case a=>k_is);(case l=>k_is);(case c=>k_is);(case k=>k_is);(case b=>exact fun _ _ _ _ _ _=>Mc.bn2 fun _ _=>rfl)
  have D28:L2.DefAt (L2.KOf KX) mg "_law_digit_row" (Mc.top 28) ["_law_number","_law_rooms","_law_signs"]:=by dsimp only[L2.KOf];refine' Mc.b7 KX G ?a ?l ?c ?k ?b;(case a=>k_is);(case l=>k_is);(case c=>k_is);(case k=>k_is);(case b=>exact fun _ _ _ _ _ _=>Mc.bn3 fun _ _ _=>rfl)
  have D29:L2.DefAt (L2.KOf KX) mg "_law_mixed_row" (Mc.top 29) ["_law_number","_law_rooms","_law_signs"]:=by dsimp only[L2.KOf];refine' Mc.b7 KX G ?a ?l ?c ?k ?b;(case a=>k_is);(case l=>k_is);(case c=>k_is);(case k=>k_is);(case b=>exact fun _ _ _ _ _ _=>Mc.bn3 fun _ _ _=>rfl)
  have D30:L2.DefAt (L2.KOf KX) mg "_law_machine" (Mc.top 30) ["_law_script","_law_at","_law_rooms","_law_signs"]:=by dsimp only[L2.KOf];refine' Mc.b7 KX G ?a ?l ?c ?k ?b;(case a=>k_is);(case l=>k_is);(case c=>k_is);(case k=>k_is);(case b=>exact fun _ _ _ _ _ _=>Mc.bn4 fun _ _ _ _=>rfl)
  have D32:L2.DefAt (L2.KOf KX) mg "_law_step" (Mc.top 32) ["_law_machine_here","_law_strip_here","_law_stand"]:=by dsimp only[L2.KOf];refine' Mc.b7 KX G ?a ?l ?c ?k ?b;(case a=>k_is);(case l=>k_is);(case c=>k_is);(case k=>k_is);(case b=>exact fun _ _ _ _ _ _=>Mc.bn3 fun _ _ _=>rfl)
  have D33:L2.DefAt (L2.KOf KX) mg "_law_stands" (Mc.top 33) ["_law_machine_here","_law_strip_here"]:=by dsimp only[L2.KOf];refine' Mc.b7 KX G ?a ?l ?c ?k ?b;(case a=>k_is);(case l=>k_is);(case c=>k_is);(case k=>k_is);(case b=>exact fun _ _ _ _ _ _=>Mc.bn2 fun _ _=>rfl)
  have D34:L2.DefAt (L2.KOf KX) mg "_law_says" (Mc.top 34) ["_law_machine_here","_law_strip_here"]:=by dsimp only[L2.KOf];refine' Mc.b7 KX G ?a ?l ?c ?k ?b;(case a=>k_is);(case l=>k_is);(case c=>k_is);(case k=>k_is);(case b=>exact fun _ _ _ _ _ _=>Mc.bn2 fun _ _=>rfl)
  have D36:L2.DefAt (L2.KOf KX) mg "_law_beyond" (Mc.top 36) ["_law_machine_here","_law_strip_here","_law_place","_law_room"]:=by dsimp only[L2.KOf];refine' Mc.b7 KX G ?a ?l ?c ?k ?b;(case a=>k_is);(case l=>k_is);(case c=>k_is);(case k=>k_is);(case b=>exact fun _ _ _ _ _ _=>Mc.bn4 fun _ _ _ _=>rfl)
  have D37:L2.DefAt (L2.KOf KX) mg "_law_beginning" (Mc.top 37) ["_law_machine_here","_law_strip_here"]:=by dsimp only[L2.KOf];refine' Mc.b7 KX G ?a ?l ?c ?k ?b;(case a=>k_is);(case l=>k_is);(case c=>k_is);(case k=>k_is);(case b=>exact fun _ _ _ _ _ _=>Mc.bn2 fun _ _=>rfl)
  have D38:L2.DefAt (L2.KOf KX) mg "_law_ways" (Mc.top 38) ["_law_machine_here","_law_signs","_law_most"]:=by dsimp only[L2.KOf];refine' Mc.b7 KX G ?a ?l ?c ?k ?b;(case a=>k_is);(case l=>k_is);(case c=>k_is);(case k=>k_is);(case b=>exact fun _ _ _ _ _ _=>Mc.bn3 fun _ _ _=>rfl)
  have D39:L2.DefAt (L2.KOf KX) mg "_law_small" (Mc.top 39) ["_law_script","_law_at"]:=by dsimp only[L2.KOf];refine' Mc.b7 KX G ?a ?l ?c ?k ?b;(case a=>k_is);(case l=>k_is);(case c=>k_is);(case k=>k_is);(case b=>exact fun _ _ _ _ _ _=>Mc.bn2 fun _ _=>rfl)
  have D40:L2.DefAt (L2.KOf KX) mg "_law_sweeper" (Mc.top 40) ["_law_p","_law_q","_law_a","_law_b","_law_signs"]:=by dsimp only[L2.KOf];refine' Mc.b7 KX G ?a ?l ?c ?k ?b;(case a=>k_is);(case l=>k_is);(case c=>k_is);(case k=>k_is);(case b=>exact fun _ _ _ _ _ _=>Mc.bn5 fun _ _ _ _ _=>rfl)
  have D41:L2.DefAt (L2.KOf KX) mg "_law_asked" (Mc.top 41) ["_law_machine_here","_law_word"]:=by dsimp only[L2.KOf];refine' Mc.b7 KX G ?a ?l ?c ?k ?b;(case a=>k_is);(case l=>k_is);(case c=>k_is);(case k=>k_is);(case b=>exact fun _ _ _ _ _ _=>Mc.bn2 fun _ _=>rfl)
  have T:Mc.Txt w (L2.KOf KX) mg:=by
   dsimp only[L2.KOf]
   refine' Mc.aQ7 KX G ?z_ValueError ?z_bool ?z_enumerate ?z_int ?z_isinstance ?z_len ?z_range ?z_str ?z_tuple ?z_zip ?s_MOST_BEGINNINGS ?s_SIGNS ?s_WORDS (Mc.aQ6 ?m_WORDS)
   (case z_ValueError=>k_is);(case z_bool=>k_is);(case z_enumerate=>k_is);(case z_int=>k_is);(case z_isinstance=>k_is);(case z_len=>k_is);(case z_range=>k_is);(case z_str=>k_is);(case z_tuple=>k_is);(case z_zip=>k_is);(case s_MOST_BEGINNINGS=>k_is);(case s_SIGNS=>k_is);(case s_WORDS=>k_is);(case m_WORDS=>k_is)
  have Ep_TooMany:∃ W C,L2.ErrP (L2.KOf KX) mg "TooMany" W C:=by
   dsimp only[L2.KOf]
   refine' Mc.aHY KX G ?m ?e1 ?e2 ?e3 ?e4 ?e5 ?e6 ?e7 ?e8 ?n1 ?n2 ?w1 ?w2 ?w3
   (case m=>k_is)
   (case e1=>k_is)
   (case e2=>k_is);(case e3=>k_is);(case e4=>k_is);(case e5=>k_is);(case e6=>k_is);(case e7=>k_is);(case e8=>k_is)
   (case n2=>k_is);(case w1=>k_is);(case w3=>k_is)
   (case n1=>refine' L2.sS ?l ?h;(case l=>k_is);(case h=>rfl))
   (case w2=>refine' L2.sS ?l ?h;(case l=>k_is);(case h=>rfl))
  have Ep_NoWord:∃ W C,L2.ErrP (L2.KOf KX) mg "NoWord" W C:=by
   dsimp only[L2.KOf]
   refine' Mc.aHY KX G ?m ?e1 ?e2 ?e3 ?e4 ?e5 ?e6 ?e7 ?e8 ?n1 ?n2 ?w1 ?w2 ?w3
   (case m=>k_is)
   (case e1=>k_is)
   (case e2=>k_is);(case e3=>k_is);(case e4=>k_is);(case e5=>k_is);(case e6=>k_is);(case e7=>k_is);(case e8=>k_is)
   (case n2=>k_is);(case w1=>k_is);(case w3=>k_is)
   (case n1=>refine' L2.sS ?l ?h;(case l=>k_is);(case h=>rfl))
   (case w2=>refine' L2.sS ?l ?h;(case l=>k_is);(case h=>rfl))
  have Up_TooMany:Fl.UpK (L2.KOf KX) mg ["TooMany"]:=by
   dsimp only[L2.KOf]
   refine' Mc.aK2 KX G ?a ?l ?b ?m ?e1
   (case a=>k_is);(case m=>k_is);(case l=>k_is);(case e1=>k_is);(case b=>rfl)
  have Up_NoWord:Fl.UpK (L2.KOf KX) mg ["NoWord"]:=by
   dsimp only[L2.KOf]
   refine' Mc.aK2 KX G ?a ?l ?b ?m ?e1
   (case a=>k_is);(case m=>k_is);(case l=>k_is);(case e1=>k_is);(case b=>rfl)
  have U_TooMany_NoWord:=(Fl.aPW Up_TooMany Up_NoWord)
  have J_TooMany_ValueError:Fl.rJ (L2.KOf KX) mg "TooMany" "ValueError" true:=by
   dsimp only[L2.KOf]
   refine' Mc.aD4 KX G ?m ?k
   (case m=>k_is)
   (case k=>refine' Mc.aF9 (by decide) (by decide) ?c;(case c=>k_is))
  have J_NoWord_ValueError:Fl.rJ (L2.KOf KX) mg "NoWord" "ValueError" true:=by
   dsimp only[L2.KOf]
   refine' Mc.aD4 KX G ?m ?k
   (case m=>k_is)
   (case k=>refine' Mc.aF9 (by decide) (by decide) ?c;(case c=>k_is))
  have I_TooMany_TooMany:Fl.Is1 (L2.KOf KX) mg "TooMany" "TooMany" true:=by
   dsimp only[L2.KOf]
   refine' Mc.wU KX G ?a ?m ?k
   (case a=>k_is);(case m=>k_is)
   (case k=>exact Mc.z7)
  have I_NoWord_TooMany:Fl.Is1 (L2.KOf KX) mg "NoWord" "TooMany" false:=by
   dsimp only[L2.KOf]
   refine' Mc.wU KX G ?a ?m ?k
   (case a=>k_is);(case m=>k_is)
   (case k=>refine' Mc.aCR (by decide) ?a ?b ?c;(case a=>k_is);(case b=>k_is);(case c=>k_is))
  have I_TooMany_NoWord:Fl.Is1 (L2.KOf KX) mg "TooMany" "NoWord" false:=by
   dsimp only[L2.KOf]
   refine' Mc.wU KX G ?a ?m ?k
   (case a=>k_is);(case m=>k_is)
   (case k=>refine' Mc.aCR (by decide) ?a ?b ?c;(case a=>k_is);(case b=>k_is);(case c=>k_is))
  have I_NoWord_NoWord:Fl.Is1 (L2.KOf KX) mg "NoWord" "NoWord" true:=by
   dsimp only[L2.KOf]
   refine' Mc.wU KX G ?a ?m ?k
   (case a=>k_is);(case m=>k_is)
   (case k=>exact Mc.z7)
  have LL:∃ fd,L2.Fun (L2.KOf KX) "law" "law" (Mc.top 42) fa fd/\∀ (s:Shared) (u:Value),BindsTo s fd ⟨[u],[]⟩ [("_law_script",u)]:=by
   dsimp only[L2.KOf]
   refine' Mc.aQ8 KX G hmg ?a4 ?l4 ?c4 ?k4
   (case a4=>k_is);(case l4=>k_is);(case c4=>k_is);(case k4=>k_is)
  obtain ⟨fd,FL,hb⟩:=LL
  exact ⟨fd,hb,fun base TH _ _ TL=>Mc.aN2 T Ep_TooMany Ep_NoWord U_TooMany_NoWord J_TooMany_ValueError J_NoWord_ValueError I_TooMany_TooMany I_NoWord_TooMany I_TooMany_NoWord I_NoWord_NoWord D6 D7 D9 D10 (Fl.aI3 D11 KX TL (by decide)) D14 D15 D16 D17 D18 (Fl.aI3 D19 KX TL (by decide)) (Fl.aI3 D21 KX TL (by decide)) D24 D26 D27 D28 D29 D30 D32 D33 D34 D36 D37 D38 D39 D40 D41 FL⟩
end
