import PyProof.Rows.All
import Wide.All
import OpenK.AllK
import Wide.FinOn
import Lean
import PyProof.EqAt
import PyProof.EqKinds
import PyProof.TupleCall
import PyProof.ExcInit
import PyProof.InstStoreFacts
import PyProof.StrLawsFirst
import PyProof.StrLawsIn
import KE.KLam
import PyProof.ListMulRoad
import PyProof.Rows.ListMul
import PyProof.ZipIter
import PyProof.Draws
import PyProof.ListStr
import PyProof.DictWalks
import PyProof.DictTruth
import PyProof.ListRange
import PyProof.StrLaws
import PyProof.StrLawsIdx
import PyProof.AttrMissHeap
import PyProof.StrBlock2
import PySem.Challenge.RW_striproam_k27_held_together
set_option linter.all false
set_option maxRecDepth 100000
set_option maxHeartbeats 4000000
set_option Elab.async false
set_option linter.all false
set_option maxRecDepth 100000
set_option genSizeOf false
abbrev D9:=PySem.PyData
abbrev V9:=PySem.Value
abbrev S9:=PySem.Shared
abbrev Az:=PySem.Addr
def PySem.W.Fast.tw15679493599333349934:=()
def PySem.W.Fast.tw7282795064116350280:=()
def PySem.W.Fast.tw18351190725584314579:=()
def PySem.W.Fast.tw1568826705558233533:=()
def PySem.W.Fast.tw10899981292203309030:=()
def PySem.W.Fast.tw10253406169571570893:=()
def AB:=@PySem.wpAny_bind
def AC:=@List.length_map
def AD:=@PySem.wpAny_pure
def AE:=@PySem.Heap.get?_push_of_some
def AG:=@List.getElem?_eq_some_iff
def AH:=@List.getElem?_eq_getElem
def AI:=@List.mem_cons_of_mem
def AJ:=@Nat.le_refl
def AK:=@PySem.Heap.lt_size
def AL:=@List.mem_singleton
def AM:=@Bool.and_eq_true
def AN:=@List.getElem?_map
def AQ:=@List.mem_cons_self
def AS:=@List.mem_cons
def AT:=@PySem.Heap.get?_push_size
def AU:=@List.mem_of_getElem?
def AV:=@decide_eq_true
def AW:=@Nat.lt_of_lt_of_le
def AX:=@List.map_cons
def AY:=@List.size_toArray
def AZ:=@decide_eq_false
def A0:=@Bool.false_ne_true
def A1:=@List.all_eq_true
def A2:=@Nat.ne_of_lt
def A3:=@List.mem_map
def A4:=@List.mem_append
def A5:=@List.getD_eq_getElem?_getD
def A6:=@Nat.le_trans
def A7:=@PySem.boot_len
def A8:=@List.map_append
def A9:=@List.getElem?_set_ne
def BA:=@of_decide_eq_true
def BB:=@PySem.mem_of_lookup
def BC:=@List.getElem?_cons_zero
def BD:=@List.length_append
def BE:=@List.lookup_cons
def BF:=@List.not_mem_nil
def BG:=@Nat.lt_irrefl
def BH:=@List.length_range
def BI:=@List.length_cons
def BJ:=@PySem.wpAny_field
def BK:=@List.getElem?_cons_succ
def BL:=@PySem.F.plainAttrs_list
def BM:=@List.getElem?_append_left
def BN:=@PySem.Heap.get?_update_self
def BO:=@Nat.le_add_right
def BP:=@PySem.F.slot_list_append
def BQ:=@PySem.F.type_list_append
def BR:=@List.getElem?_of_mem
def BS:=@List.length_take
def BT:=@PySem.wpAny_callSpecial?_slot
def BU:=@Nat.le_of_lt
def BV:=@List.mem_append_right
def BW:=@Int.emod_lt_of_pos
def BX:=@PySem.wpAny_mono
def BY:=@PySem.Heap.size_push
def BZ:=@Option.some.inj
def B0:=@PySem.wpAny_holding
def B1:=@List.set_cons_zero
def B2:=@List.set_cons_succ
def B3:=@PySem.W.mg_none_of
def B4:=@List.find?_cons
def B5:=@Int.emod_nonneg
def B6:=@PySem.Heap.SameBut.update
def B7:=@PySem.wpAny_call_entry
def B8:=@PyProof.Rows.boot_tuple
def B9:=@List.pairwise_iff_getElem
def CA:=@List.getElem?_set_self
def CB:=@PySem.Heap.get?_update_other
def CC:=@Bool.false_eq_true
def CD:=@PySem.W.kia_one
def CF:=@List.nodup_cons
def CG:=@List.length_set
def CH:=@Bool.or_eq_true
def CI:=@PySem.F.slot_zip_next
def CJ:=@PyProof.Rows.callWith_type1
def CK:=@PySem.wpAny_newObj_type
def CL:=@List.getElem?_append_right
def CM:=@PySem.wpAny_seqItems
def CN:=@List.forIn_cons
def CO:=@List.length_zipIdx
def CP:=@List.length_nil
def CQ:=@List.mem_map_of_mem
def CS:=@Int.toNat_natCast
def CT:=@List.map_map
def CU:=@Nat.zero_le
def CV:=@PySem.wpAny_Call_Name_kw
def CW:=@decide_eq_true_iff
def CY:=@List.mem_append_left
def CZ:=@PySem.wpAny_truthy_bool
def C0:=@or_false
def C3:=@Nat.ne_of_gt
def C4:=@Nat.lt_trans
def C5:=@List.prefix_refl
def C6:=@Nat.not_lt
def C7:=@List.nodup_nil
def C8:=@List.getElem?_zipIdx
def C9:=@PySem.F.slot_dict_keyiterator_next
def DA:=@not_false_eq_true
def DB:=@List.take_add_one
def DC:=@List.append_nil
def DD:=@Array.length_toList
def DE:=@List.map_congr_left
def DF:=@PySem.wpAny_attempt
def DG:=@if_false
def DH:=@List.cons_append
def DI:=@PySem.Obj.data_mapFields
def DJ:=@PySem.wpAny_setField_rec
def DK:=@Classical.byContradiction
def DL:=@beq_false_of_ne
def DM:=@List.length_zip
def DN:=@PySem.wpAny_typeNameOfWhole_keyiter
def DO:=@List.mem_range
def DP:=@PyProof.Rows.boot_isinstance
def DQ:=@List.mem_filterMap
def DR:=@List.map_nil
def DS:=@PySem.wpAny_passesOwn
def DT:=@List.foldl_cons
def DU:=@List.nil_append
def DV:=@PySem.wpAny_standAt
def DW:=@congrArg
def DX:=@Array.getElem?_eq_some_iff
def DY:=@PySem.F.slot_tuple_iterator_next
def DZ:=@List.reverse_cons
def D0:=@List.nodup_append
def D3:=@PySem.eqIsQuiet_byValue
def D4:=@PySem.F.args_zip_next_1
def D8:=@List.foldl_append
def EA:=@PySem.wpAny_setField
def EB:=@beq_self_eq_true
def EC:=@PySem.F.entry_zip_next
def ED:=@PySem.wpAny_typeNameOf_keyiter
def EE:=@List.getElem_map
def EF:=@PyProof.Rows.slot_tuple_getitem
def EG:=@PySem.wpAny_execs_nil
def EH:=@PySem.W.callWith_K
def EI:=@Bool.eq_iff_iff
def EJ:=@List.find?_eq_none
def EK:=@Array.size_push
def EL:=@List.find?_eq_some_iff_getElem
def EM:=@Option.isSome_map
def EN:=@List.length_replicate
def EO:=@PySem.Obj.isFreed_of_fields
def EQ:=@List.forIn_nil
def ER:=@Array.getElem?_toList
def ES:=@PySem.F.slot_dict_setdefault
def ET:=@List.getElem?_eq_none
def EU:=@List.mem_iff_getElem
def EV:=@List.filter_cons
def EW:=@PySem.wpAny_isInstance
def EX:=@PySem.wpAny_rule
def EY:=@PySem.Obj.data_mapDictKeys
def EZ:=@PySem.Around.under_plainId
def E2:=@List.take_length
def E3:=@beq_eq_false_iff_ne
def E4:=@List.filterMap_cons
def E5:=@PySem.F.plain_extend_loop
def E6:=@List.of_mem_zip
def E7:=@Nat.min_le_left
def E8:=@List.getElem?_eq_none_iff
def E9:=@Option.map_some
def FA:=@List.mem_of_find?_eq_some
def FB:=@PySem.codeAny_mono
def FC:=@List.getElem?_take_of_lt
def FD:=@PySem.F.slot_list_getattribute
def FE:=@List.getElem?_replicate
def FG:=@List.length_eq_zero_iff
def FH:=@PySem.wpAny_loadPart_at
def FI:=@PySem.wpAny_pyIter_list
def FJ:=@PySem.wpAny_dictEntries
def FK:=@PySem.Calls.callWith_builtin
def FM:=@Option.map_eq_some_iff
def FN:=@PyProof.Rows.boot_list
def FP:=@Nat.le.dest
def FQ:=@List.take_of_length_le
def FR:=@PySem.Paired.length
def FS:=@List.length_drop
def FT:=@Nat.lt_succ_self
def FU:=@Option.bind_some
def FV:=@PySem.wpAny_pyIter_zip
def FW:=@PySem.Heap.size_update
def FX:=@Array.all_eq_true_iff_forall_mem
def FY:=@LawfulBEq.eq_of_beq
def FZ:=@PyProof.Rows.boot_zip
def F7:=@PySem.wpAny_notOrdered_dict
def F8:=@PySem.builtinLookup_eq_fast
def F9:=@List.take_append_drop
def GA:=@PySem.wpAny_specialOf
def GB:=@List.cons.injEq
def GC:=@PySem.wpAny_updateSeq_pair
def GD:=@PySem.F.args_dict_setdefault_3
def GE:=@PySem.F.args_dict_keyiterator_next_1
def GF:=@PySem.codeAny_builtin
def GG:=@PySem.wpAny_updateSeq
def GH:=@List.mem_of_mem_take
def GI:=@List.reverse_reverse
def GJ:=@Classical.not_forall
def GK:=@PySem.F.entry_dict_setdefault
def GL:=@PySem.F.entry_dict_keyiterator_next
def GM:=@PySem.wpAny_isSubtype_exc
def GN:=@Array.getElem?_push
def GO:=@List.zipIdx_map_fst
def GP:=@PySem.F.args_tuple_iterator_next_1
def GQ:=@PySem.isSubtype_stop
def GR:=@List.foldl_nil
def GS:=@List.getElem_range
def GT:=@PySem.F.entry_tuple_iterator_next
def GU:=@List.idxOf_lt_length_of_mem
def GV:=@List.map_singleton
def GW:=@PySem.Calls.Name_function_global
def GX:=@PySem.F.excAttr_ValueError
def GY:=@Bool.true_and
def GZ:=@PySem.W.mg_of
def G0:=@Bool.not_true
def G1:=@PySem.wpAny_onRaise
def G2:=@PySem.plainId_quiet
def G3:=@Nat.add_mul_mod_self_right
def G4:=@List.all_cons
def G5:=@PySem.W.kitx_list
def G6:=@Nat.lt_succ_of_lt
def G7:=@List.append_assoc
def G8:=@Nat.lt_trichotomy
def G9:=@Option.some.injEq
def HA:=@PySem.wpAny_call
def HB:=@List.drop_eq_getElem_cons
def HC:=@List.getElem?_zip_eq_some
def HD:=@PySem.wpAny_execs_cons
def HE:=@Option.isSome_iff_exists
def HF:=@PySem.F.args_tuple_add_2
def HG:=@PySem.wpAny_typeOf
def HH:=@Option.getD_none
def HI:=@PySem.wpAny_comprehension_free
def HJ:=@List.zipIdx_cons
def HK:=@and_true
def HL:=@List.any_eq_true
def HM:=@Nat.zero_add
def HN:=@Nat.lt_or_ge
def HP:=@PySem.F.entry_tuple_add
def HQ:=@Nat.add_sub_cancel_left
def HR:=@PySem.wpAny_loadPart'
def HS:=@PySem.wpAny_dictEpoch
def HU:=@PySem.typeLookup_type
def HV:=@PySem.sizeLine_eq
def HW:=@PySem.W.cellsFrom_some
def HX:=@PySem.F.slot_tuple_add
def HY:=@PySem.wpAny_Call_method_late
def HZ:=@PySem.wpAny_letGo
def H9:=@Array.getElem?_eq_none
def IA:=@PySem.F.plainAttrs_str
def IB:=@List.length_singleton
def IC:=@PySem.call_meets
def ID:=@Nat.add_comm
def IE:=@decide_false
theorem Mc.bn1{α:Type}{P:List α->Prop}(h:∀ a,P [a]):∀ us:List α,us.length=1->P us
 | [a],_=>h a
theorem Mc.bn2{α:Type}{P:List α->Prop}(h:∀ a b,P [a,b]):∀ us:List α,us.length=2->P us
 | [a,b],_=>h a b
theorem Mc.bn3{α:Type}{P:List α->Prop}(h:∀ a b c,P [a,b,c]):∀ us:List α,us.length=3->P us
 | [a,b,c],_=>h a b c
theorem Mc.bn5{α:Type}{P:List α->Prop}(h:∀ a b c d e,P [a,b,c,d,e]):∀ us:List α,us.length=5->P us
 | [a,b,c,d,e],_=>h a b c d e
open PySem.W (Frag)
noncomputable section
namespace L2
open PySem PySem.Spec PyProof.Rows
abbrev Key:=Sum Int Str
def qA:Key->V9->Bool
 | .inl k,v=>Value.isInt k v
 | .inr x,v=>Value.isStrOf x v
def aQI(w:World):Key->Int
 | .inl k=>hashInt k
 | .inr x=>hashStr w x
theorem keyIs_shape:∀ {k:Key} {v:V9},qA k v=true->(∃ i t,k=Sum.inl i/\v=Value.int i t)\/(∃ x t,k=Sum.inr x/\v=Value.str x t)
 | .inl i,v,h=>by
  obtain ⟨t,e⟩:=Value.isInt_shape (k:=i) (v:=v) h
  exact .inl ⟨i,t,rfl,e⟩
 | .inr x,v,h=>by
  obtain ⟨t,e⟩:=Value.isStrOf_shape (x:=x) (v:=v) h
  exact .inr ⟨x,t,rfl,e⟩
def aDC(i:Int)(t:Tok):qA (.inl i) (.int i t)=true:=by simp[qA,Value.isInt]
def aDD(x:Str)(t:Tok):qA (.inr x) (.str x t)=true:=by simp[qA,Value.isStrOf]
def aL5(a b:Int):decide ((Sum.inl a:Key)=Sum.inl b)=(a == b):=by
 by_cases e:a=b
 .subst e;simp
 .have h:¬ (Sum.inl a:Key)=Sum.inl b:=fun q=>e (Sum.inl.inj q)
  rw[AZ h]
  exact (E3.mpr e).symm
def aL6(a b:Str):decide ((Sum.inr a:Key)=Sum.inr b)=decide (a=b):=by
 by_cases e:a=b
 .subst e;simp
 .have h:¬ (Sum.inr a:Key)=Sum.inr b:=fun q=>e (Sum.inr.inj q)
  rw[AZ h,AZ e]
def aL7(a:Int)(b:Str):decide ((Sum.inl a:Key)=Sum.inr b)=false:=AZ (fun q=>nomatch q)
def aL8(a:Str)(b:Int):decide ((Sum.inr a:Key)=Sum.inl b)=false:=AZ (fun q=>nomatch q)
def dG(prog:Program)(w:World):PySem.KeyKind prog w Key where
 is:=qA
 hash:=aQI w
 inj:=fun v a b ha hb=>by
  rcases keyIs_shape ha with ⟨i,t,rfl,rfl⟩|⟨x,t,rfl,rfl⟩
  .rcases keyIs_shape hb with ⟨j,u,rfl,e⟩|⟨y,u,rfl,e⟩
   · injection e with e1 _; rw [e1]
   · exact nomatch e
  .rcases keyIs_shape hb with ⟨j,u,rfl,e⟩|⟨y,u,rfl,e⟩
   · exact nomatch e
   · injection e with e1 _; rw [e1]
 byValue:=fun k v h=>by
  rcases keyIs_shape h with ⟨i,t,rfl,rfl⟩|⟨x,t,rfl,rfl⟩<;>rfl
 pyHash:=fun hv h=>by
  rcases keyIs_shape hv with ⟨i,t,rfl,rfl⟩|⟨x,t,rfl,rfl⟩
  .exact wpAny_pyHash_int h
  .exact wpAny_pyHash_str h
 eqBool:=fun hu hv h=>by
  rcases keyIs_shape hu with ⟨i,t,rfl,rfl⟩|⟨x,t,rfl,rfl⟩
  .rcases keyIs_shape hv with ⟨j,u,rfl,rfl⟩|⟨y,u,rfl,rfl⟩
   · rw [aL5] at h; exact wpAny_eqBool_int h
   · rw [aL7] at h; exact SeqAt.EqAt.int_str i t y u _ _ _ _ h
  .rcases keyIs_shape hv with ⟨j,u,rfl,rfl⟩|⟨y,u,rfl,rfl⟩
   · rw [aL8] at h; exact SeqAt.EqAt.str_int x t j u _ _ _ _ h
   · rw [aL6] at h; exact wpAny_eqBool_str h
 «strs»:=fun k x t v h=>by
  rcases keyIs_shape h with ⟨i,u,rfl,e⟩|⟨y,u,rfl,e⟩
  .exact nomatch e
  .injection e with e1 _
   subst e1
   cases v<;>rfl
def zY(prog:Program)(w:World)(i:Int)(t:Tok):(dG prog w).is (.inl i) (.int i t)=true:=aDC i t
def zZ(prog:Program)(w:World)(x:Str)(t:Tok):(dG prog w).is (.inr x) (.str x t)=true:=aDD x t
inductive V where
 | non|bl (b:Bool)|int (i:Int)|str (x:Str)|byt (b:Array UInt8)|flt (b:UInt64)|ref (a:Az)|ty (n:String)
 deriving DecidableEq
def aY:V->V9->Prop
 | .non,u=>u=Value.none
 | .bl b,u=>u=Value.bool b
 | .int i,u=>∃ t,u=Value.int i t
 | .str x,u=>∃ t,u=Value.str x t
 | .byt b,u=>∃ t,u=Value.bytes b t
 | .flt b,u=>∃ t,u=Value.float b t
 | .ref a,u=>u=Value.ref a
 | .ty n,u=>u=Value.type n
abbrev bB:List V->List V9->Prop:=Paired aY
def bB.length{xs:List V}{us:List V9}(r:bB xs us):xs.length=us.length:=FR r
theorem bB.get:∀ {xs:List V} {us:List V9} {i:Nat} {x:V},bB xs us->xs[i]? = some x->∃ u,us[i]? = some u/\aY x u
 | _,_,_,_,.nil,e=>by simp at e
 | _,_,0,_,.cons r _,e=>by simp at e;subst e;exact ⟨_,rfl,r⟩
 | _,_,i+1,x,.cons _ t,e=>by
  obtain ⟨u,h1,h2⟩:=bB.get (i:=i) (x:=x) t (by simpa using e)
  exact ⟨u,by simpa using h1,h2⟩
theorem bB.set{x:V}{u:V9}(r:aY x u):∀ {xs:List V} {us:List V9} (i:Nat),bB xs us->bB (xs.set i x) (us.set i u)
 | _,_,_,.nil=>.nil
 | _,_,0,.cons _ t=>.cons r t
 | _,_,i+1,.cons q t=>.cons q (bB.set r i t)
theorem bB.append:∀ {xs ys:List V} {us ws:List V9},bB xs us->bB ys ws->bB (xs++ys) (us++ws)
 | _,_,_,_,.nil,s=>s
 | _,_,_,_,.cons r t,s=>.cons r (bB.append t s)
theorem bB.take:∀ {xs:List V} {us:List V9} (n:Nat),bB xs us->bB (xs.take n) (us.take n)
 | _,_,0,_=>.nil
 | _,_,_+1,.nil=>.nil
 | _,_,n+1,.cons r t=>.cons r (bB.take n t)
theorem bB.drop:∀ {xs:List V} {us:List V9} (n:Nat),bB xs us->bB (xs.drop n) (us.drop n)
 | _,_,0,r=>r
 | _,_,_+1,.nil=>.nil
 | _,_,n+1,.cons _ t=>bB.drop n t
def kS:Option V->Option V9->Prop
 | some v,some u=>aY v u
 | none,none=>True
 | _,_=>False
def KV{κ:Type}:List (κ×V)->List (κ×V9)->Prop:=Paired fun (p:κ×V) (q:κ×V9)=>p.1=q.1/\aY p.2 q.2
def kV:Key->V
 | .inl i=>.int i
 | .inr x=>.str x
inductive HO where
 | lst (xs:List V)
 | tup (xs:List V)
 | dK (kvs:List (Key×V))|dT (kvs:List (List Key×V))
 | set (S:Int->Bool) (n:Nat)
 | ins (C dx:Az) (fs:List (Str×V))
 | own (x:Az)
 | xd (fs:List (Str×V))
 | met (f x:Az)
 | rng (lo hi:Int)
 | frz (o:Obj) (u:HO)
 | tbl (qs:List (Pos×Str))
 | cod (q:Str)
 | ext (φ:Heap->Prop)
abbrev Hp:=Az->Option HO
def upd(H:Hp)(a:Az)(o:HO):Hp:=fun b=>if b=a then some o else H b
def aT{H:Hp}{a:Az}{o:HO}:upd H a o a=some o:=by unfold upd;rw[if_pos rfl]
def aG{H:Hp}{a b:Az}{o:HO}(h:b≠a):upd H a o b=H b:=by unfold upd;rw[if_neg h]
def qB{H:Hp}{a:Az}{o u:HO}:upd (upd H a o) a u=upd H a u:=by
 funext b;unfold upd;split<;>rfl
def bC{H:Hp}{a b:Az}{o:HO}(h:H a=some o)(h':H b=none):a≠b:=by
 intro e;subst e;rw[h] at h';cases h'
section
variable(P:Program)(w:World)
def b8(H:Hp)(h:Heap)(a:Az):HO->Prop
 | .lst xs=>xs.length<=sizeLine/\∃ (its:List V9) (n:Nat),bB xs its/\h.get? a=some {cls:=.type "list",data:=.seq its.toArray n}
 | .tup xs=>xs.length<=sizeLine/\∃ its:List V9,bB xs its/\IsTup h a its.toArray
 | .dK kvs=>kvs.length<=sizeLine/\(a == sysModules)=false/\∃ vs,KV kvs vs/\h.DictOf (dG P w) a vs
 | .dT kvs=>kvs.length<=sizeLine/\(a == sysModules)=false/\∃ xs:List (List Key×Az×V9),
  Paired (fun (p:List Key×V) (q:List Key×Az×V9)=>p.1=q.1/\H q.2.1=some (.tup (p.1.map kV))/\aY p.2 q.2.2) kvs xs /\
  ∃ o es ep,h.get? a=some o/\o.ExactDict/\o.data=.dict es ep/\es.toList=xs.map (entryOfKey (tupleKind (dG P w)))/\(xs.map (·.1)).Nodup
 | .set S n=>h.SetOf (intKind P w) a S n
 | .ins C dx fs=>H dx=some (.own a)/\fs.length<=1000/\dx≠a/\h.get? a=some (PySem.W.instObj C dx) /\
  ∃ mA,h.Ns1 dx mA/\(∀ f,kS (fs.lookup f) (mA f))/\PySem.Within mA (fs.map (·.1))
 | .own _=>∃ o,h.get? a=some o
 | .xd fs=>∃ mA,h.Ns1 a mA/\∀ f,kS (fs.lookup f) (mA f)
 | .rng lo hi=>∃ t u v,h.get? a=some {cls:=.type "range",data:=.fields #[.int lo t,.int hi u,.int 1 v]}
 | .frz o u=>h.get? a=some o/\b8 H h a u
 | .tbl qs=>∃ ps:Array V9,h.get? a=some {cls:=.none,data:=.fields ps}/\TriplesOk ps.toList/\∀ p∈qs,codeAmong p.1 ps.toList=none\/∃ c,codeAmong p.1 ps.toList=some (.ref c)/\H c=some (.cod p.2)
 | .cod q=>h.CodeRec (.ref a) q
 | .met f x=>h.get? a=some (PySem.W.methodObj (.ref f) (.ref x))
 | .ext φ=>φ h/\(∃ o,h.get? a=some o)/\∀ h1 h2:Heap,φ h1->(∀ o,h1.get? a=some o->h2.get? a=some o)->φ h2
def HOk(H:Hp)(h:Heap):Prop:=∀ a o,H a=some o->b8 P w H h a o
end
section
variable{P:Program}{w:World}{H H':Hp}{h h':Heap}{a:Az}{o:HO}
def b8.lt(x:b8 P w H h a o):a < h.objs.size:=by
 cases o with
 | lst xs=>obtain ⟨_,_,_,_,e⟩:=x;exact AK e
 | tup xs=>obtain ⟨_,_,_,p⟩:=x;exact p.lt
 | dK kvs=>obtain ⟨_,_,_,_,o,_,_,e,_⟩:=x;exact AK e
 | dT kvs=>obtain ⟨_,_,_,_,o,_,_,e,_⟩:=x;exact AK e
 | set S n=>obtain ⟨o,_,_,_,e,_⟩:=x;exact AK e
 | ins C dx fs=>obtain ⟨_,_,_,e,_⟩:=x;exact AK e
 | own y=>obtain ⟨_,e⟩:=x;exact AK e
 | xd fs=>obtain ⟨_,⟨_,_,_,e,_⟩,_⟩:=x;exact AK e
 | rng lo hi=>obtain ⟨_,_,_,e⟩:=x;exact AK e
 | frz ob u=>obtain ⟨e,_⟩:=x;exact AK e
 | tbl qs=>obtain ⟨ps,e,_⟩:=x;exact AK e
 | cod q=>obtain ⟨c,o,vs,t,e,b,_⟩:=x;cases e;exact AK b
 | met f y=>exact AK (show h.get? a=some _ from x)
 | ext φ=>obtain ⟨_,⟨_,e⟩,_⟩:=x;exact AK e
theorem Paired.mapP{α β:Type}{F G:α->β->Prop}:∀ {l₁:List α} {l₂:List β},Paired F l₁ l₂->(∀ a b,F a b->G a b)->Paired G l₁ l₂
 | _,_,.nil,_=>.nil
 | _,_,.cons r t,f=>.cons (f _ _ r) (Paired.mapP t f)
def b8.stay(x:b8 P w H h a o)(k:∀ b u,(b=a\/H b=some (.own a))->h.get? b=some u->h'.get? b=some u)
  (j:∀ b,H b=some (.own a)->H' b=some (.own a)) (A:∀ b q,H b=some (.cod q)->H' b=some (.cod q)) (m:∀ b xs,H b=some (.tup xs)->H' b=some (.tup xs)):b8 P w H' h' a o:=by
 induction o with
 | lst xs=>obtain ⟨z,i,n,r,e⟩:=x;exact ⟨z,i,n,r,k _ _ (.inl rfl) e⟩
 | tup xs=>obtain ⟨z,i,r,g,e,c⟩:=x;exact ⟨z,i,r,g,k _ _ (.inl rfl) e,c⟩
 | dK kvs=>obtain ⟨z,y,vs,r,g,es,ep,e,c⟩:=x;exact ⟨z,y,vs,r,g,es,ep,k _ _ (.inl rfl) e,c⟩
 | dT kvs=>
  obtain ⟨z,y,xs,r,g,es,ep,e,c⟩:=x
  exact ⟨z,y,xs,Paired.mapP r fun p q z=>⟨z.1,m _ _ z.2.1,z.2.2⟩,g,es,ep,k _ _ (.inl rfl) e,c⟩
 | set S n=>obtain ⟨g,es,ep,t,e,c⟩:=x;exact ⟨g,es,ep,t,k _ _ (.inl rfl) e,c⟩
 | ins C dx fs=>
  obtain ⟨d,z,ne,e,mA,⟨od,es,ep,e2,c⟩,r⟩:=x
  exact ⟨j _ d,z,ne,k _ _ (.inl rfl) e,mA,⟨od,es,ep,k _ _ (.inr d) e2,c⟩,r⟩
 | own y=>obtain ⟨g,e⟩:=x;exact ⟨g,k _ _ (.inl rfl) e⟩
 | xd fs=>obtain ⟨mA,⟨od,es,ep,e,c⟩,r⟩:=x;exact ⟨mA,⟨od,es,ep,k _ _ (.inl rfl) e,c⟩,r⟩
 | rng lo hi=>obtain ⟨t,u,v,e⟩:=x;exact ⟨t,u,v,k _ _ (.inl rfl) e⟩
 | frz g u ih=>obtain ⟨e,q⟩:=x;exact ⟨k _ _ (.inl rfl) e,ih q⟩
 | tbl qs=>
  obtain ⟨ps,e,t,r⟩:=x
  refine ⟨ps,k _ _ (.inl rfl) e,t,fun p s=>?_⟩
  rcases r p s with z|⟨c,z,l⟩
  · exact .inl z
  · exact .inr ⟨c, z, A _ _ l⟩
 | cod q=>
  obtain ⟨c,o,vs,t,e,j,r⟩:=x
  cases e
  exact ⟨_,o,vs,t,rfl,k _ _ (.inl rfl) j,r⟩
 | met f y=>
  have e:h.get? a=some (PySem.W.methodObj (.ref f) (.ref y)):=x
  show h'.get? a=some (PySem.W.methodObj (.ref f) (.ref y))
  exact k a _ (.inl rfl) e
 | ext φ=>obtain ⟨p,⟨o,e⟩,st⟩:=x;exact ⟨st _ _ p fun o q=>k _ _ (.inl rfl) q,⟨o,k _ _ (.inl rfl) e⟩,st⟩
def HOk.lt(x:HOk P w H h)(e:H a=some o):a < h.objs.size:=(x a o e).lt
def HOk.fresh(x:HOk P w H h)(e:h.objs.size<=a):H a=none:=by
 cases q:H a with
 | none=>rfl
 | some u=>exact absurd (AW (x.lt q) e) (BG _)
def HOk.kept(x:HOk P w H h)(k:∀ b u,h.get? b=some u->h'.get? b=some u):HOk P w H h':=fun a o e=>
 (x a o e).stay (fun b u _ q=>k b u q) (fun _ q=>q) (fun _ _ q=>q) fun _ _ q=>q
def HOk.laid(x:HOk P w H h)(k:∀ b u,h.get? b=some u->h'.get? b=some u)(f:h.objs.size<=a)(new:b8 P w (upd H a o) h' a o):HOk P w (upd H a o) h':=fun b u e=>by
 have d:=x.fresh f
 by_cases hb:b=a
 .subst hb;rw[aT] at e;cases e;exact new
 .rw[aG hb] at e
  exact (x b u e).stay (fun c v _ q=>k c v q) (fun c q=>by rw[aG (bC q d)];exact q) (fun c xs q=>by rw[aG (bC q d)];exact q) fun c xs q=>by rw[aG (bC q d)];exact q
end
def Rd(H:Hp)(a:Az)(u:HO):Prop:=H a=some u\/∃ o,H a=some (.frz o u)
def Rd.ok{P:Program}{w:World}{H:Hp}{h:Heap}{a:Az}{u:HO}(r:Rd H a u)(x:HOk P w H h):b8 P w H h a u:=by
 rcases r with r|⟨o,r⟩
 .exact x a u r
 .obtain ⟨_,q⟩:=x a _ r
  exact q
def Mut:Option HO->Prop
 | some (.lst _)=>True
 | some (.dK _)=>True
 | some (.dT _)=>True
 | some (.set _ _)=>True
 | some (.ins _ _ _)=>True
 | some (.ext _)=>True
 | _=>False
section
variable{P:Program}{w:World}{H:Hp}{h h':Heap}{x e:Az}{o':HO}
def HOk.write(ok:HOk P w H h)(d:Mut (H x))(m:e=x\/H e=some (.own x))(k:∀ b u,b≠e->h.get? b=some u->h'.get? b=some u)(j:∃ u,h'.get? e=some u)
  (new:b8 P w (upd H x o') h' x o'):HOk P w (upd H x o') h':=fun b u q=>by
 have a:∀ c y,H c=some (.own y)->c≠x:=fun c y r z=>by subst z;rw[r] at d;exact d
 have g:∀ c xs,H c=some (.tup xs)->c≠x:=fun c xs r z=>by subst z;rw[r] at d;exact d
 have f:∀ c xs,H c=some (.cod xs)->c≠x:=fun c xs r z=>by subst z;rw[r] at d;exact d
 by_cases hb:b=x
 .subst hb;rw[aT] at q;cases q;exact new
 .rw[aG hb] at q
  by_cases hbe:b=e
  .have l:H b=some (.own x):=by
    rcases m with z|z
    · exact absurd (hbe.trans z) hb
    · rw [hbe]; exact z
   rw[q] at l;cases l
   obtain ⟨v,n⟩:=j
   exact ⟨v,by rw[hbe];exact n⟩
  .refine (ok b u q).stay (fun c v i r=>k c v ?_ r) (fun c r=>by rw[aG (a c b r)];exact r) (fun c xs r=>by rw[aG (f c xs r)];exact r) fun c xs r=>by rw[aG (g c xs r)];exact r
   rcases i with rfl|i
   .exact hbe
   .rintro rfl
    rcases m with z|z
    · exact a c b i z
    · rw [i] at z; cases z; exact hb rfl
end
structure Un(fs ex:List Az)(H H':Hp)(h h':Heap):Prop where
 keep:∀ b o,h.get? b=some o->H b=none->b∉fs->b∉ex->h'.get? b=some o
 slot:∀ b o,h.get? b=some o->H b=none->b∈fs->b∉ex->∃ sl,h'.get? b=some {o with slots:=sl}
 free:∀ b o,h.get? b=some o->H b=none->b∉ex->H' b=none
 there:∀ b o,h.get? b=some o->b∉ex->∃ o',h'.get? b=some o'
 tups:∀ b xs,H b=some (.tup xs)->H' b=some (.tup xs)
 frzs:∀ b o u,H b=some (.frz o u)->H' b=some (.frz o u)
 tbls:∀ b ps,H b=some (.tbl ps)->H' b=some (.tbl ps)
section
variable{fs fs' ex ex':List Az}{H H1 H2:Hp}{h h1 h2 h':Heap}{a x e:Az}{o:HO}
def Un.any(u:Un fs ex H H1 h h1){b:Az}{a:Obj}(q:h.get? b=some a)(n:H b=none)(hx:b∉ex):∃ sl,h1.get? b=some {a with slots:=sl}:=by
 by_cases hb:b∈fs
 · exact u.slot b a q n hb hx
 · exact ⟨a.slots, u.keep b a q n hb hx⟩
def Un.trans(a:Un fs ex H H1 h h1)(b:Un fs ex H1 H2 h1 h2):Un fs ex H H2 h h2 where
 keep:=fun c d q n e hx=>b.keep c d (a.keep c d q n e hx) (a.free c d q n hx) e hx
 slot:=fun c d q n e hx=>by
  obtain ⟨sl,e1⟩:=a.slot c d q n e hx
  obtain ⟨f,e2⟩:=b.slot c _ e1 (a.free c d q n hx) e hx
  exact ⟨f,e2⟩
 free:=fun c d q n hx=>by
  obtain ⟨o',e1⟩:=a.there c d q hx
  exact b.free c o' e1 (a.free c d q n hx) hx
 there:=fun c d q hx=>by
  obtain ⟨o',e1⟩:=a.there c d q hx
  exact b.there c o' e1 hx
 tups:=fun c xs q=>b.tups c xs (a.tups c xs q)
 frzs:=fun c d xs q=>b.frzs c d xs (a.frzs c d xs q)
 tbls:=fun c ps q=>b.tbls c ps (a.tbls c ps q)
def Un.kept(k:∀ b u,h.get? b=some u->h'.get? b=some u):Un fs ex H H h h':=
 ⟨fun b a q _ _ _=>k b a q,fun b a q _ _ _=>⟨a.slots,k b a q⟩,fun _ _ _ n _=>n,fun b a q _=>⟨a,k b a q⟩,fun _ _ q=>q,fun _ _ _ q=>q,fun _ _ q=>q⟩
def Un.refl:Un fs ex H H h h:=Un.kept fun _ _ q=>q
def Un.laid(k:∀ b u,h.get? b=some u->h'.get? b=some u)(d:h.objs.size<=a)(c:H a=none):Un fs ex H (upd H a o) h h' where
 keep:=fun b u q _ _ _=>k b u q
 slot:=fun b u q _ _ _=>⟨u.slots,k b u q⟩
 free:=fun b u q n _=>by rw[aG (A2 (AW (AK q) d))];exact n
 there:=fun b u q _=>⟨u,k b u q⟩
 tups:=fun b xs q=>by rw[aG (bC q c)];exact q
 frzs:=fun b u xs q=>by rw[aG (bC q c)];exact q
 tbls:=fun b ps q=>by rw[aG (bC q c)];exact q
def Un.write(a:Mut (H x))(g:e=x\/H e=some (.own x))(k:∀ b u,b≠e->h.get? b=some u->h'.get? b=some u)(c:∃ u,h'.get? e=some u):Un fs ex H (upd H x o) h h':=by
 have hx:∀ b,H b=none->b≠x:=fun b n z=>by subst z;rw[n] at a;exact a
 have f:∀ b,H b=none->b≠e:=fun b n z=>by
  subst z
  rcases g with r|r
  · exact hx b n r
  · rw [n] at r; cases r
 have d:∀ b u,H b=some u->¬ Mut (some u)->b≠x:=fun b u q nm z=>by subst z;rw[q] at a;exact nm a
 refine ⟨fun b u q n _ _=>k b u (f b n) q,fun b u q n _ _=>⟨u.slots,k b u (f b n) q⟩,fun b u q n _=>by rw[aG (hx b n)];exact n,fun b u q _=>?_,
  fun b xs q=>by rw[aG (d b _ q fun z=>z)];exact q,fun b u xs q=>by rw[aG (d b _ q fun z=>z)];exact q,fun b ps q=>by rw[aG (d b _ q fun z=>z)];exact q⟩
 by_cases hbe:b=e
 .subst hbe;exact c
 .exact ⟨u,k b u hbe q⟩
end
def trk(h:Heap)(H:Hp):List Az:=(List.range h.objs.size).filter fun a=>(H a).isSome
def mS(h:Heap)(H:Hp):Heap:=PySem.W.hideAll h (trk h H)
def aDE(h:Heap)(H:Hp):(mS h H).objs.size=h.objs.size:=PySem.W.hideAll_size _ _
def aF4{h:Heap}{H:Hp}{b:Az}{o:Obj}(e:h.get? b=some o)(n:H b=none):(mS h H).get? b=some o:=
 PySem.W.hideAll_get _ e fun a=>by
  have q:(H b).isSome=true:=(List.mem_filter.mp a).2
  rw[n] at q;simp at q
def aJD{h:Heap}{H:Hp}{b:Az}{o:Obj}(e:(mS h H).get? b=some o):h.get? b=some o/\H b=none:=by
 have a:h.get? b=some o:=PySem.W.of_hideAll (trk h H) e
 refine ⟨a,?_⟩
 cases q:H b with
 | none=>rfl
 | some x=>
  have c:b∈trk h H:=List.mem_filter.mpr ⟨DO.mpr (AK a),by simp[q]⟩
  have z:(mS h H).get? b=none:=PySem.W.hideAll_none (trk h H) c
  rw[z] at e;cases e
def aJE(g h:Heap)(L:Az):List (Az×Obj):=(List.range h.objs.size).filterMap fun a=>if a=L\/(g.get? a).isSome=true then none else (h.get? a).map fun o=>(a,o)
def rest(g h:Heap)(L d:Az):List (Az×Obj):=(aJE g h L).filter fun p=>decide (p.1≠d)
structure Mod(K:Frag)(mg:Str->Option V9)(base:Heap):Prop where
 kin:K.In base
 glob:base.Ns mainGlobals mg
 blt:∃ mb,base.Ns builtinsNs mb/\∀ x:Str,x≠"__name__"->mb x=bootBuiltins x
 nolimit:base.NoLimit
structure Cx where
 prog:Program
 w:World
 K:Frag
 mg:Str->Option V9
 base:Heap
 A:Around
 N:List Str
 s₀:S9
 H₀:Hp
 env:Env
 outer:List Env
 stack:List Env
 ex:List Az
 fn:Str->Bool
 calm:Bool
 pn:List (Az×Obj)
 xe:V9->S9->Prop
def frs(l:List Env):List Az:=l.filterMap (·.frame)
abbrev Cx.fs(X:Cx):List Az:=frs X.outer
def Vis(sc:Scope)(x:Str):Prop:=sc.names.lookup x=some .local\/sc.names.lookup x=some .cell\/sc.names.lookup x=some .free
def Loc(sc:Scope)(x:Str):Prop:=sc.names.lookup x=some .local\/sc.names.lookup x=some .cell
def aQJ(env:Env)(h:Heap)(m:Str->Option V9)(x:Str)(u:V9):Prop:=
 (env.kindOf x=some .local/\m x=some u)\/((env.kindOf x=some .cell\/env.kindOf x=some .free)/\∃ c,env.cells.lookup x=some c/\h.IsCell c (some u))
structure Cx.Ok(X:Cx):Prop where
 mod:Mod X.K X.mg X.base
 kind:X.env.scope.kind=.function
 glob:X.env.globals=mainGlobals
 blt:X.env.builtins=builtinsNs
 above:X.s₀.heap.objs.size<=X.env.locals
 inj:∀ x y c,X.env.cells.lookup x=some c->X.env.cells.lookup y=some c->x=y
 has:∀ x,(X.env.kindOf x=some .cell\/X.env.kindOf x=some .free)->∃ c,X.env.cells.lookup x=some c
 cab:∀ x c,X.fn x=true->X.env.cells.lookup x=some c->X.s₀.heap.objs.size<=c
 hd:X.calm=true->X.A.handled=none
 frames:X.A.frames=some X.stack
 stk:X.stack=X.outer\/(X.stack=X.env::X.outer/\X.env.frame=some X.env.locals)
 exf:∀ b∈X.ex,b≠X.env.locals/\∀ x c,X.env.cells.lookup x=some c->c≠b
 bs:∀ b o,X.base.get? b=some o->X.s₀.heap.get? b=some o/\X.H₀ b=none
 bsz:X.base.objs.size<=X.s₀.heap.objs.size
 noex:∀ b o,X.base.get? b=some o->b∉X.ex
 exfs:∀ b∈X.ex,b∉X.fs
 funs:X.s₀.heap.FunFrames X.base X.outer
 frf:∀ b∈X.fs,X.H₀ b=none
structure Inv(X:Cx)(pins:List (Az×Obj))(σ:List (Option V))(H:Hp)(s:S9):Prop where
 ok:X.Ok
 os:s.os=X.s₀.os
 bare:AllBare s.gens
 base:Un X.fs X.ex X.H₀ H X.s₀.heap s.heap
 loc:∃ m,s.heap.Ns X.env.locals m/\∀ (i:Nat) (x:Str) (v:V),X.N[i]? = some x->σ[i]? = some (some v)->Vis X.env.scope x->∃ u,aY v u/\aQJ X.env s.heap m x u
 cell:∀ x c,X.env.cells.lookup x=some c->∃ v,s.heap.IsCell c v
 free:H X.env.locals=none
 freeC:∀ x c,X.env.cells.lookup x=some c->H c=none
 pin:∀ p∈X.pn++pins,s.heap.get? p.1=some p.2/\H p.1=none/\p.1≠X.env.locals/\p.1∉X.fs/\∀ v,p.2.data≠.cell v
 hok:HOk X.prog X.w H s.heap
 len:σ.length=X.N.length
section
variable{X:Cx}{pins:List (Az×Obj)}{σ:List (Option V)}{H H':Hp}{s:S9}{h':Heap}
def Cx.Ok.nofr(ok:X.Ok){b:Az}{o:Obj}(e:X.base.get? b=some o):b∉X.fs:=fun a=>by
 have:=(ok.funs.mem a).1
 rw[e] at this;cases this
def Inv.bs(I:Inv X pins σ H s):∀ b o,X.base.get? b=some o->s.heap.get? b=some o/\H b=none:=fun b o e=>
 ⟨I.base.keep b o (I.ok.bs b o e).1 (I.ok.bs b o e).2 (I.ok.nofr e) (I.ok.noex b o e),I.base.free b o (I.ok.bs b o e).1 (I.ok.bs b o e).2 (I.ok.noex b o e)⟩
def Inv.bk(I:Inv X pins σ H s):∀ b o,X.base.get? b=some o->s.heap.get? b=some o:=fun b o e=>(I.bs b o e).1
def Inv.mod(I:Inv X pins σ H s):Mod X.K X.mg X.base:=I.ok.mod
def Inv.kIn(I:Inv X pins σ H s):X.K.In s.heap:=I.ok.mod.kin.keeps I.bk
def Inv.lt(I:Inv X pins σ H s):X.env.locals < s.heap.objs.size:=let ⟨_,hn,_⟩:=I.loc;hn.lt
def Inv.sz(I:Inv X pins σ H s):X.s₀.heap.objs.size<=s.heap.objs.size:=A6 I.ok.above (BU I.lt)
def Inv.nofs(I:Inv X pins σ H s){a:Az}(h:s.heap.objs.size<=a):a∉X.fs:=fun b=>by
 obtain ⟨_,o,c,_⟩:=I.ok.funs.mem b
 exact absurd (AW (AK c) (A6 I.sz h)) (BG _)
def Inv.cne(I:Inv X pins σ H s):∀ x c,X.env.cells.lookup x=some c->c≠X.env.locals:=fun x c e z=>by
 obtain ⟨v,o,d,f⟩:=I.cell x c e
 obtain ⟨m,⟨o',es,ep,b,a,_⟩,_⟩:=I.loc
 rw[z,b] at d;cases d;rw[a] at f;cases f
def Inv.funs(I:Inv X pins σ H s):s.heap.FunFrames X.base X.outer:=by
 have all:∀ (l:List Env),(∀ b∈frs l,b∈X.fs)->X.s₀.heap.FunFrames X.base l->s.heap.FunFrames X.base l:=by
  intro l
  induction l with
  | nil=>intro _ _;trivial
  | cons env r ih=>
   intro f h
   obtain ⟨k,⟨L,o,d,j,m,i⟩,g⟩:=h
   have c:L∈X.fs:=f L (by unfold frs;rw[E4,d];exact AQ)
   obtain ⟨sl,e⟩:=I.base.slot L o m (I.ok.frf L c) c fun z=>I.ok.exfs L z c
   exact ⟨k,⟨L,_,d,j,e,i⟩,ih (fun b a=>f b (by unfold frs;rw[E4,d];exact AI _ a)) g⟩
 exact all X.outer (fun _ a=>a) I.ok.funs
def Inv.stack(I:Inv X pins σ H s):s.heap.FunFrames X.base X.stack:=by
 rcases I.ok.stk with e|⟨e,a⟩
 .rw[e];exact I.funs
 .rw[e]
  obtain ⟨m,b,_⟩:=I.loc
  refine .cons (by rw[I.ok.kind];decide) a b ?_ I.funs
  exact Heap.get?_none_of_le (A6 I.ok.bsz I.ok.above)
def Inv.stkSub(I:Inv X pins σ H s):∀ b∈frs X.stack,b∈X.env.locals::X.fs:=fun b a=>by
 rcases I.ok.stk with e|⟨e,c⟩
 .rw[e] at a;exact AI _ a
 .rw[e] at a
  unfold frs at a
  rw[E4,c] at a
  exact a
def Inv.stkFree(I:Inv X pins σ H s):∀ b∈frs X.stack,H b=none:=fun b a=>by
 rcases AS.mp (I.stkSub b a) with e|a
 .rw[e];exact I.free
 .obtain ⟨_,o,c,_⟩:=I.ok.funs.mem a
  exact I.base.free b o c (I.ok.frf b a) fun z=>I.ok.exfs b z a
def Inv.step{g':Array GenState}{t':Nat}{d':Drawn}{ch:List Az}(I:Inv X pins σ H s)
  (g:∀ b∈ch,(b∈X.ex\/X.s₀.heap.objs.size<=b)/\b≠X.env.locals/\(∀ x c,X.env.cells.lookup x=some c->c≠b)/\∀ p∈X.pn++pins,p.1≠b)
  (keep:∀ b o,b≠X.env.locals->b∉X.fs->b∉ch->s.heap.get? b=some o->H b=none->h'.get? b=some o)
  (slot:∀ b o,b≠X.env.locals->b∈X.fs->b∉ch->s.heap.get? b=some o->H b=none->∃ sl,h'.get? b=some {o with slots:=sl}) (free:∀ b o,b∉ch->s.heap.get? b=some o->H b=none->H' b=none)
  (there:∀ b o,b∉ch->s.heap.get? b=some o->∃ o',h'.get? b=some o')
  (tups:∀ b xs,H b=some (.tup xs)->H' b=some (.tup xs)) (frzs:∀ b o u,H b=some (.frz o u)->H' b=some (.frz o u)) (tbls:∀ b ps,H b=some (.tbl ps)->H' b=some (.tbl ps))
  (ns:∀ m,s.heap.Ns X.env.locals m->h'.Ns X.env.locals m) (hok:HOk X.prog X.w H' h') (hg:AllBare g') :
  Inv X pins σ H' {s with heap:=h',gens:=g',drawn:=d',toks:=t'}:=by
 have y:∀ b o,X.s₀.heap.get? b=some o->b≠X.env.locals:=fun b o e=>A2 (AW (AK e) I.ok.above)
 have h:∀ b o,X.s₀.heap.get? b=some o->b∉X.ex->b∉ch:=fun b o e hx j=>by
  rcases (g b j).1 with z|z
  .exact hx z
  .exact absurd (AW (AK e) z) (BG _)
 have f:∀ x c,X.env.cells.lookup x=some c->∀ v,s.heap.IsCell c v->h'.IsCell c v:=fun x c e v A=>by
  obtain ⟨o,t,B⟩:=A
  have a:c∉ch:=fun z=>(g c z).2.2.1 x c e rfl
  by_cases hc:c∈X.fs
  .obtain ⟨sl,q⟩:=slot c o (I.cne x c e) hc a t (I.freeC x c e)
   exact ⟨_,q,B⟩
  .exact ⟨o,keep c o (I.cne x c e) hc a t (I.freeC x c e),B⟩
 refine ⟨I.ok,I.os,hg,⟨fun b o e n j hx=>?_,fun b o e n j hx=>?_,fun b o e n hx=>?_,fun b o e hx=>?_,fun b xs e=>tups b xs (I.base.tups b xs e),fun b o xs e=>frzs b o xs (I.base.frzs b o xs e),fun b ps e=>?_⟩,?_,fun x c e=>?_,?_,fun x c e=>?_,fun p D=>?_,hok,I.len⟩
 .exact keep b o (y b o e) j (h b o e hx) (I.base.keep b o e n j hx) (I.base.free b o e n hx)
 .obtain ⟨sl,e1⟩:=I.base.slot b o e n j hx
  obtain ⟨C,e2⟩:=slot b _ (y b o e) j (h b o e hx) e1 (I.base.free b o e n hx)
  exact ⟨C,e2⟩
 .obtain ⟨o',e1⟩:=I.base.there b o e hx
  exact free b o' (h b o e hx) e1 (I.base.free b o e n hx)
 .obtain ⟨o',e1⟩:=I.base.there b o e hx
  exact there b o' (h b o e hx) e1
 .exact tbls b ps (I.base.tbls b ps e)
 .obtain ⟨m,G,F⟩:=I.loc
  refine ⟨m,ns m G,fun i x v e1 e2 e3=>?_⟩
  obtain ⟨u,r,l⟩:=F i x v e1 e2 e3
  refine ⟨u,r,?_⟩
  rcases l with l|⟨k,c,e,z⟩
  .exact .inl l
  .exact .inr ⟨k,c,e,f x c e _ z⟩
 .obtain ⟨v,z⟩:=I.cell x c e
  exact ⟨v,f x c e v z⟩
 .obtain ⟨m,⟨o,_,_,t,_⟩,_⟩:=I.loc
  exact free _ o (fun z=>(g _ z).2.1 rfl) t I.free
 .obtain ⟨v,o,t,B⟩:=I.cell x c e
  exact free c o (fun z=>(g c z).2.2.1 x c e rfl) t (I.freeC x c e)
 .obtain ⟨e,n,ne,E,d⟩:=I.pin p D
  have a:p.1∉ch:=fun z=>(g p.1 z).2.2.2 p D rfl
  exact ⟨keep p.1 p.2 ne E a e n,free p.1 p.2 a e n,ne,E,d⟩
def Inv.un{t':Nat}(I:Inv X pins σ H s)(u:Un X.fs [] H H' s.heap h')(hok:HOk X.prog X.w H' h'):Inv X pins σ H' {s with heap:=h',toks:=t'}:=by
 obtain ⟨m,⟨o,es,ep,g,r⟩,_⟩:=id I.loc
 obtain ⟨sl,h⟩:=u.any g I.free (by simp)
 exact I.step (g':=s.gens) (d':=s.drawn) (ch:=[]) (fun _ z=>nomatch z) (fun b o _ c _ e n=>u.keep b o e n c (by simp)) (fun b o _ c _ e n=>u.slot b o e n c (by simp)) (fun b o _ e n=>u.free b o e n (by simp)) (fun b o _ e=>u.there b o e (by simp)) u.tups u.frzs u.tbls (fun k i=>by
  obtain ⟨o',d,f,a,j⟩:=i
  rw[g] at a;cases a
  exact ⟨_,d,f,h,j⟩) hok I.bare
def Inv.call{g':Array GenState}{t':Nat}{d':Drawn}{ch:List Az}(I:Inv X pins σ H s)(u:Un (frs X.stack) ch H H' s.heap h')(hok:HOk X.prog X.w H' h')(t:AllBare g')
  (f:∀ b∈ch,(b∈X.ex\/X.s₀.heap.objs.size<=b)/\b≠X.env.locals/\(∀ x c,X.env.cells.lookup x=some c->c≠b)/\∀ p∈X.pn++pins,p.1≠b) :
  Inv X pins σ H' {s with heap:=h',gens:=g',drawn:=d',toks:=t'}:=by
 obtain ⟨m,⟨o,es,ep,j,r⟩,_⟩:=id I.loc
 obtain ⟨sl,g⟩:=u.any j I.free fun z=>(f _ z).2.1 rfl
 exact I.step (ch:=ch) f (fun b o g k a e n=>u.keep b o e n (fun z=>(AS.mp (I.stkSub b z)).elim g k) a) (fun b o _ _ a e n=>u.any e n a) (fun b o a e n=>u.free b o e n a) (fun b o a e=>u.there b o e a) u.tups u.frzs u.tbls (fun v l=>by
  obtain ⟨o',h,i,d,q⟩:=l
  rw[j] at d;cases d
  exact ⟨_,h,i,g,q⟩) hok t
def Inv.turned{t':Nat}{it:Az}(I:Inv X pins σ H s)(k:∀ b o,b≠it->s.heap.get? b=some o->h'.get? b=some o)(h:H it=none)(f:it≠X.env.locals)
  (h1:it∈X.ex\/X.s₀.heap.objs.size<=it) (h2:∀ x c,X.env.cells.lookup x=some c->c≠it) (j:∀ p∈X.pn++pins,p.1≠it):Inv X pins σ H {s with heap:=h',toks:=t'}:=by
 have d:∀ b u,H b=some u->b≠it:=fun b u e z=>by rw[z,h] at e;cases e
 refine I.step (g':=s.gens) (d':=s.drawn) (ch:=[it]) (fun b g=>?_) (fun b o _ _ a e _=>k b o (fun z=>a (by simp[z])) e) (fun b o _ _ a e _=>⟨o.slots,k b o (fun z=>a (by simp[z])) e⟩) (fun _ _ _ _ n=>n)
  (fun b o a e=>⟨o,k b o (fun z=>a (by simp[z])) e⟩) (fun _ _ e=>e) (fun _ _ _ e=>e) (fun _ _ e=>e) (fun m i=>?_) (fun b u e=>?_) I.bare
 .have e:b=it:=by simpa using g
  subst e
  exact ⟨h1,f,h2,j⟩
 .obtain ⟨o,es,ep,l,r⟩:=i
  exact ⟨o,es,ep,k _ o (Ne.symm f) l,r⟩
 .refine (I.hok b u e).stay (fun c v a q=>k c v ?_ q) (fun _ q=>q) (fun _ _ q=>q) fun _ _ q=>q
  rcases a with z|z
  · rw [z]; exact d b u e
  · exact d c _ z
def Inv.tok(I:Inv X pins σ H s)(t:Nat):Inv X pins σ H {s with toks:=t}:=I.un (h':=s.heap) (t':=t) Un.refl I.hok
def Inv.kept{t':Nat}(I:Inv X pins σ H s)(k:∀ b u,s.heap.get? b=some u->h'.get? b=some u):Inv X pins σ H {s with heap:=h',toks:=t'}:=I.un (Un.kept k) (I.hok.kept k)
def Inv.laid{a:Az}{o:HO}{t':Nat}(I:Inv X pins σ H s)(k:∀ b u,s.heap.get? b=some u->h'.get? b=some u)(c:s.heap.objs.size<=a)(new:b8 X.prog X.w (upd H a o) h' a o) :
 Inv X pins σ (upd H a o) {s with heap:=h',toks:=t'}:=I.un (Un.laid k c (I.hok.fresh c)) (I.hok.laid k c new)
def Inv.write{x e:Az}{o:HO}{t':Nat}(I:Inv X pins σ H s)(c:Mut (H x))(d:e=x\/H e=some (.own x))(k:∀ b u,b≠e->s.heap.get? b=some u->h'.get? b=some u)(a:∃ u,h'.get? e=some u)
 (new:b8 X.prog X.w (upd H x o) h' x o):Inv X pins σ (upd H x o) {s with heap:=h',toks:=t'}:=I.un (Un.write c d k a) (I.hok.write c d k a new)
def Inv.pins_of{pins':List (Az×Obj)}(I:Inv X pins σ H s)(h:∀ p∈pins',s.heap.get? p.1=some p.2/\H p.1=none/\p.1≠X.env.locals/\p.1∉X.fs/\∀ v,p.2.data≠.cell v):Inv X pins' σ H s:=
 ⟨I.ok,I.os,I.bare,I.base,I.loc,I.cell,I.free,I.freeC,fun p a=>(A4.mp a).elim (fun z=>I.pin p (CY _ z)) (h p),I.hok,I.len⟩
def xG{N:List Str}(hN:N.Nodup){i j:Nat}{x:Str}(a:N[i]? = some x)(b:N[j]? = some x):i=j:=by
 obtain ⟨h1,e1⟩:=AG.mp a
 obtain ⟨h2,e2⟩:=AG.mp b
 exact (List.getElem_inj hN).mp (e1.trans e2.symm)
def vW{M:Model}{A:Around}{E:V9->S9->Prop}{i:Nat}{x:Str}{v:V}{u:V9}{Q:Unit->S9->Prop}(I:Inv X pins σ H s)(hN:X.N.Nodup)(hi:X.N[i]? = some x)(hx:Loc X.env.scope x)(r:aY v u)
  (h:∀ s',Inv X pins (σ.set i (some v)) H s'->(∃ a,Heap.SameBut a s.heap s'.heap/\(a=X.env.locals\/X.env.cells.lookup x=some a))->Q () s') (hf:X.fn x=true\/X.env.scope.names.lookup x=some .local):wpAny M A (storeName X.env x u) Q E s:=by
 obtain ⟨m,U,hl⟩:=id I.loc
 have K:(X.env.scope.kind == .class || (X.env.scope.kind == .module && X.env.locals != X.env.globals))=false:=by rw[I.ok.kind];rfl
 have B:i < σ.length:=by rw[I.len];exact (AG.mp hi).1
 have cne:=I.cne
 have g:∀ {a:Az} {h':Heap},(∃ o,s.heap.get? a=some o/\H a=none)->Heap.SameBut a s.heap h'->HOk X.prog X.w H h':=fun {a h'} ha f b ob e=>by
  obtain ⟨_,_,t⟩:=ha
  refine (I.hok b ob e).stay (fun c O l q=>(f.2 c ?_).trans q) (fun _ q=>q) (fun _ _ q=>q) fun _ _ q=>q
  rintro rfl
  rcases l with rfl|l
  .rw[t] at e;cases e
  .rw[t] at l;cases l
 rcases hx with hk|hk
 .refine wpAny_storeName_local hk U (fun h' P f=>?_) K
  obtain ⟨oL,_,_,T,_⟩:=id U
  refine h _ ⟨I.ok,I.os,I.bare,⟨fun b o e n C hx=>?_,fun b o e n C hx=>?_,I.base.free,fun b o e hx=>?_,I.base.tups,I.base.frzs,I.base.tbls⟩,⟨_,P,fun j y R e1 e2 e3=>?_⟩,fun y c e=>?_,I.free,I.freeC,fun p Z=>?_,g ⟨oL,T,I.free⟩ f,by simpa using I.len⟩ ⟨_,f,.inl rfl⟩
  .exact (f.2 b (A2 (AW (AK e) I.ok.above))).trans (I.base.keep b o e n C hx)
  .obtain ⟨sl,e1⟩:=I.base.slot b o e n C hx
   exact ⟨sl,(f.2 b (A2 (AW (AK e) I.ok.above))).trans e1⟩
  .obtain ⟨o',e1⟩:=I.base.there b o e hx
   exact ⟨o',(f.2 b (A2 (AW (AK e) I.ok.above))).trans e1⟩
  .by_cases hj:j=i
   .subst hj
    rw[hi] at e1;cases e1
    rw[CA B] at e2
    cases e2
    exact ⟨u,r,.inl ⟨hk,by simp⟩⟩
   .rw[A9 (Ne.symm hj)] at e2
    obtain ⟨W,S,q⟩:=hl j y R e1 e2 e3
    refine ⟨W,S,?_⟩
    rcases q with ⟨k,e⟩|⟨k,c,e,z⟩
    .refine .inl ⟨k,?_⟩
     have:y≠x:=fun e=>hj (xG hN e1 (e▸hi))
     simp[this,e]
    .exact .inr ⟨k,c,e,z.sameBut f (cne y c e)⟩
  .obtain ⟨O,z⟩:=I.cell y c e
   exact ⟨O,z.sameBut f (cne y c e)⟩
  .obtain ⟨e,n,ne,Y,d⟩:=I.pin p Z
   exact ⟨(f.2 p.1 ne).trans e,n,ne,Y,d⟩
 .have D:X.fn x=true:=by
   rcases hf with z|z
   .exact z
   .rw[z] at hk;cases hk
  obtain ⟨c,l⟩:=I.ok.has x (.inl hk)
  obtain ⟨O,z⟩:=I.cell x c l
  refine wpAny_storeName_cell I.ok.kind hk l z (fun h' J f=>?_)
  obtain ⟨oc,F,G⟩:=id z
  refine h {s with heap:=h'} ⟨I.ok,I.os,I.bare,⟨fun b o e n C hx=>?_,fun b o e n C hx=>?_,I.base.free,fun b o e hx=>?_,I.base.tups,I.base.frzs,I.base.tbls⟩,⟨m,U.sameBut f (Ne.symm (cne x c l)),fun j y R e1 e2 e3=>?_⟩,fun y L e=>?_,I.free,I.freeC,fun p Z=>?_,g ⟨oc,F,I.freeC x c l⟩ f,by simpa using I.len⟩ ⟨c,f,.inr l⟩
  .exact (f.2 b (A2 (AW (AK e) (I.ok.cab x c D l)))).trans (I.base.keep b o e n C hx)
  .obtain ⟨sl,e1⟩:=I.base.slot b o e n C hx
   exact ⟨sl,(f.2 b (A2 (AW (AK e) (I.ok.cab x c D l)))).trans e1⟩
  .obtain ⟨o',e1⟩:=I.base.there b o e hx
   exact ⟨o',(f.2 b (A2 (AW (AK e) (I.ok.cab x c D l)))).trans e1⟩
  .by_cases hj:j=i
   .subst hj
    rw[hi] at e1;cases e1
    rw[CA B] at e2
    cases e2
    exact ⟨u,r,.inr ⟨.inl hk,c,l,J⟩⟩
   .rw[A9 (Ne.symm hj)] at e2
    obtain ⟨W,S,q⟩:=hl j y R e1 e2 e3
    refine ⟨W,S,?_⟩
    rcases q with q|⟨k,L,e,z'⟩
    .exact .inl q
    .refine .inr ⟨k,L,e,z'.sameBut f ?_⟩
     rintro rfl
     exact hj (xG hN e1 (I.ok.inj _ _ _ e l▸hi))
  .by_cases hcc:L=c
   .subst hcc;exact ⟨_,J⟩
   .obtain ⟨w2,z2⟩:=I.cell y L e
    exact ⟨w2,z2.sameBut f hcc⟩
  .obtain ⟨e,n,ne,Y,d⟩:=I.pin p Z
   refine ⟨(f.2 p.1 ?_).trans e,n,ne,Y,d⟩
   intro q
   rw[q,F] at e
   have q':oc=p.2:=BZ e
   exact d O (by rw[<-q'];exact G)
def rM{M:Model}{A:Around}{E:V9->S9->Prop}{i:Nat}{x:Str}{v:V}{u:V9}{Q:Unit->S9->Prop}(I:Inv X pins σ H s)(hN:X.N.Nodup)(hi:X.N[i]? = some x)(hx:Loc X.env.scope x)(r:aY v u)
  (h:∀ s',Inv X pins (σ.set i (some v)) H s'->Q () s') (b:X.fn x=true\/X.env.scope.names.lookup x=some .local):wpAny M A (storeName X.env x u) Q E s:=
 vW I hN hi hx r (fun s' a _=>h s' a) b
def Inv.call'{s':S9}{ch:List Az}(I:Inv X pins σ H s)(d:s'.os=s.os)(u:Un (frs X.stack) ch H H' s.heap s'.heap)(hok:HOk X.prog X.w H' s'.heap)(f:AllBare s'.gens)
  (a:∀ b∈ch,(b∈X.ex\/X.s₀.heap.objs.size<=b)/\b≠X.env.locals/\(∀ x c,X.env.cells.lookup x=some c->c≠b)/\∀ p∈X.pn++pins,p.1≠b):Inv X pins σ H' s':=by
 obtain ⟨h',g',d',t',o'⟩:=s'
 have e:o'=s.os:=d
 subst e
 exact I.call (g':=g') (t':=t') (d':=d') u hok f a
end
abbrev XK:=V9->Option Az->Hp->Prop
abbrev St:=List (Option V)
abbrev VK:=V->Hp->Prop
abbrev TE:=St->Hp->VK->Prop
abbrev TT:=St->Hp->(Bool->Hp->Prop)->Prop
abbrev TA:=St->Hp->(List V->Hp->Prop)->Prop
structure jF where
 nx:St->Hp->Prop
 rt:VK
 bk:St->Hp->Prop:=fun _ _=>False
 ct:St->Hp->Prop:=fun _ _=>False
abbrev TS:=jF->St->Hp->Prop
def EP(X:Cx)(pins:List (Az×Obj))(σ:St)(Q:VK)(u:V9)(s':S9):Prop:=∃ v H',Inv X pins σ H' s'/\aY v u/\Q v H'
def TP(X:Cx)(pins:List (Az×Obj))(σ:St)(Q:Bool->Hp->Prop)(b:Bool)(s':S9):Prop:=∃ H',Inv X pins σ H' s'/\Q b H'
def AP(X:Cx)(pins:List (Az×Obj))(σ:St)(Q:List V->Hp->Prop)(us:List V9)(s':S9):Prop:=∃ vs H',Inv X pins σ H' s'/\bB vs us/\Q vs H'
def SP(X:Cx)(pins:List (Az×Obj))(D:jF)(f:Flow)(s':S9):Prop:=
 match f with
 | .next=>∃ σ' H',Inv X pins σ' H' s'/\D.nx σ' H'
 | .brk=>∃ σ' H',Inv X pins σ' H' s'/\D.bk σ' H'
 | .cont=>∃ σ' H',Inv X pins σ' H' s'/\D.ct σ' H'
 | .ret u=>∃ v σ' H',Inv X pins σ' H' s'/\aY v u/\D.rt v H'
def PE(X:Cx)(e:Expr)(t:TE):Prop:=
 ∀ (pins:List (Az×Obj)) (s:S9) (σ:St) (H:Hp) (Q:VK),Inv X pins σ H s->t σ H Q->wpAny (model X.prog X.w) X.A (eval e X.env) (EP X pins σ Q) X.xe s
def PT(X:Cx)(e:Expr)(t:TT):Prop:=
 ∀ (pins:List (Az×Obj)) (s:S9) (σ:St) (H:Hp) (Q:Bool->Hp->Prop),Inv X pins σ H s->t σ H Q->wpAny (model X.prog X.w) X.A (isTrue e X.env (eval e X.env)) (TP X pins σ Q) X.xe s
def PW(X:Cx)(e:Expr)(t:TT):Prop:=
 ∀ (whole:Sem V9) (pins:List (Az×Obj)) (s:S9) (σ:St) (H:Hp) (Q:Bool->Hp->Prop),Inv X pins σ H s->t σ H Q->wpAny (model X.prog X.w) X.A (isTrue e X.env whole) (TP X pins σ Q) X.xe s
def PW.pt{X:Cx}{e:Expr}{t:TT}(h:PW X e t):PT X e t:=h _
def PA(X:Cx)(es:List Expr)(t:TA):Prop:=
 ∀ (pos:Pos) (pins:List (Az×Obj)) (s:S9) (σ:St) (H:Hp) (Q:List V->Hp->Prop),Inv X pins σ H s->t σ H Q->wpAny (model X.prog X.w) X.A (spliced (backTo pos (starEach es X.env))) (AP X pins σ Q) X.xe s
def PS(X:Cx)(st:Stmt)(t:TS):Prop:=
 ∀ (pins:List (Az×Obj)) (s:S9) (σ:St) (H:Hp) (D:jF),Inv X pins σ H s->t D σ H->wpAny (model X.prog X.w) X.A (exec st X.env) (SP X pins D) X.xe s
def PSs(X:Cx)(st:List Stmt)(t:TS):Prop:=
 ∀ (pins:List (Az×Obj)) (s:S9) (σ:St) (H:Hp) (D:jF),Inv X pins σ H s->t D σ H->wpAny (model X.prog X.w) X.A (execs st X.env) (SP X pins D) X.xe s
def thn{α:Type}{t:Sem α}{Q b:α->S9->Prop}{M:Model}{A:Around}{E:V9->S9->Prop}{s:S9}(h:wpAny M A t Q E s)(c:∀ a s,Q a s->b a s):wpAny M A t b E s:=BX h c fun _ _ x=>x
section
variable{X:Cx}
def fN(i:Nat):TE:=fun σ H Q=>∃ v,σ[i]? = some (some v)/\Q v H
def tC(v:V):TE:=fun _ H Q=>Q v H
def aL9{i:Nat}{x:Str}{pos:Pos}(hN:X.N[i]? = some x)(n:Vis X.env.scope x)(d:(x == ("__debug__":Str))=false:=by decide)(hcd:(x == ("__classdict__":Str))=false:=by decide):PE X (.Name x pos) (fN i):=by
 intro pins s σ H Q I h
 obtain ⟨v,e,h⟩:=h
 obtain ⟨m,j,g⟩:=I.loc
 obtain ⟨u,r,l⟩:=g i x v hN e n
 have fin:EP X pins σ Q u s:=⟨v,H,I,r,h⟩
 rcases l with ⟨b,k⟩|⟨b,c,f,a⟩
 .exact wpAny_Name (wpAny_loadName_local I.ok.kind b j k fin) d
 .rcases b with b|b
  · exact wpAny_Name (wpAny_loadName_cell I.ok.kind b f a fin) d
  · exact wpAny_Name (wpAny_loadName_free I.ok.kind b f a fin hcd) d
def xH{i j pos}:PE X (.Constant (.int i) j pos) (tC (.int i)):=fun _ _ _ H _ I h=>wpAny_Constant_int ⟨.int i,H,I.tok _,⟨_,rfl⟩,h⟩
def aO8{b j pos}:PE X (.Constant (.bool b) j pos) (tC (.bl b)):=fun _ _ _ H _ I h=>Constant_bool ⟨.bl b,H,I,rfl,h⟩
def aMA{j pos}:PE X (.Constant .none j pos) (tC .non):=fun _ _ _ H _ I h=>Constant_none ⟨.non,H,I,rfl,h⟩
def aMB{x j pos}:PE X (.Constant (.str x) j pos) (tC (.str x)):=fun _ _ _ H _ I h=>Calls.Constant_str ⟨.str x,H,I.tok _,⟨_,rfl⟩,h⟩
def Gl(X:Cx)(x:Str):Prop:=X.env.kindOf x=some .globalImplicit
def lD{E:V9->S9->Prop}{pins:List (Az×Obj)}{s:S9}{σ:St}{H:Hp}{x:Str}{u:V9}{pos:Pos}{Q:V9->S9->Prop}(I:Inv X pins σ H s)(a:Gl X x)(c:X.mg x=some u)(h:Q u s)
  (b:(x == ("__debug__":Str))=false:=by decide):wpAny (model X.prog X.w) X.A (eval (.Name x pos) X.env) Q E s:=
 GW I.ok.kind a (Calls.loadGlobal_global (by rw[I.ok.glob];exact I.mod.glob.keeps I.bk) c h) b
def jQ{E:V9->S9->Prop}{pins:List (Az×Obj)}{s:S9}{σ:St}{H:Hp}{x:Str}{u:V9}{pos:Pos}{Q:V9->S9->Prop}(I:Inv X pins σ H s)(d:Gl X x)(c:X.mg x=none)(b:bootBuiltins x=some u)(h:Q u s)
  (a:x≠"__name__":=by decide) (hd:(x == ("__debug__":Str))=false:=by decide):wpAny (model X.prog X.w) X.A (eval (.Name x pos) X.env) Q E s:=by
 obtain ⟨e,h1,h2⟩:=I.mod.blt
 exact GW I.ok.kind d (Calls.loadGlobal_builtin (by rw[I.ok.glob];exact I.mod.glob.keeps I.bk) c (by rw[I.ok.blt];exact h1.keeps I.bk) ((h2 x a).trans b) h) hd
def aJF{x:Str}{v:V}{u:V9}{pos:Pos}(a:Gl X x)(c:X.mg x=some u)(r:aY v u)(b:(x == ("__debug__":Str))=false:=by decide):PE X (.Name x pos) (tC v):=
 fun _ _ _ H _ I h=>lD I a c ⟨v,H,I,r,h⟩ b
def qD{x:Str}{v:V}{u:V9}{pos:Pos}(a:Gl X x)(c:X.mg x=none)(d:bootBuiltins x=some u)(r:aY v u)(b:x≠"__name__":=by decide)(hd:(x == ("__debug__":Str))=false:=by decide):PE X (.Name x pos) (tC v):=
 fun _ _ _ H _ I h=>jQ I a c d ⟨v,H,I,r,h⟩ b hd
variable{a b:Expr}{ta tb:TE}{pos:Pos}
def PC(X:Cx)(op:CmpOp)(a b:Expr)(t:TE):Prop:=
 ∀ (pins:List (Az×Obj)) (s:S9) (σ:St) (H:Hp) (Q:VK),Inv X pins σ H s->t σ H Q->
  wpAny (model X.prog X.w) X.A (eval a X.env) (fun v s₁=>wpAny (model X.prog X.w) X.A (eval b X.env) (fun u s₂=>wpAny (model X.prog X.w) X.A (compareOp op v u) (EP X pins σ Q) X.xe s₂) X.xe s₁) X.xe s
def aF5(b:Expr){op:CmpOp}(h:op≠.In)(h2:op≠.NotIn):behindInMarks op b=false:=by
 have e1:(op == CmpOp.In)=false:=by cases op<;>first|rfl|exact absurd rfl h
 have e2:(op == CmpOp.NotIn)=false:=by cases op<;>first|rfl|exact absurd rfl h2
 cases b<;>simp[behindInMarks,e1,e2]
def tB(t:TE):TT:=fun σ H Q=>t σ H fun x H1=>∃ c,x=.bl c/\Q c H1
def cE{op:CmpOp}{t:TE}(h:PC X op a b t)(h1:behindInMarks op b=false:=by first|exact aF5 _ (by decide) (by decide)|rfl):PT X (.Compare a [op] [b] pos) (tB t):=by
 intro pins s σ H Q I hw
 refine wpAny_isTrue_Compare1 (thn (h pins s σ H _ I hw) fun v s1 h1=>thn h1 fun u i h2=>thn h2 fun c j e=>?_) h1
 obtain ⟨x,H1,g,r1,f⟩:=e
 obtain ⟨d,rfl,q⟩:=f
 cases r1
 exact CZ ⟨H1,g,q⟩
def gP{e:Expr}{t:TE}(h:PE X e t)(b:∀ whole,isTrue e X.env whole=(do let v <-whole;standAt e.pos;holding [v] (truthy v)):=by intro _;rfl):PT X e (tB t):=by
 intro pins s σ H Q I hw
 refine isTrue_plain (thn (h pins s σ H _ I hw) fun v s1 a=>?_) (b _)
 obtain ⟨x,H1,f,r1,c⟩:=a
 obtain ⟨d,rfl,q⟩:=c
 cases r1
 exact CZ ⟨H1,f,q⟩
variable{tA tB':TT}{rest:List Expr}
def aMC(t u:TT):TT:=fun σ H Q=>t σ H fun c H1=>if c=true then u σ H1 Q else Q false H1
def tOr(t u:TT):TT:=fun σ H Q=>t σ H fun c H1=>if c=true then Q true H1 else u σ H1 Q
def aQK(t:TT):TT:=fun σ H Q=>t σ H fun c H1=>Q (!c) H1
def lE(b:PT X a tA):PW X (.BoolOp .And [a] pos) tA:=by
 intro d pins s σ H Q I h
 refine isTrue_and (thn (b pins s σ H Q I h) fun c s1 e=>?_)
 cases c with
 | true=>exact isTrue_and_nil e
 | false=>exact e
def jR(b:PT X a tA):PW X (.BoolOp .Or [a] pos) tA:=by
 intro d pins s σ H Q I h
 refine isTrue_or (thn (b pins s σ H Q I h) fun c s1 e=>?_)
 cases c with
 | false=>exact isTrue_or_nil e
 | true=>exact e
def mY(i:PT X a tA)(g:PW X (.BoolOp .And (b::rest) pos) tB'):PW X (.BoolOp .And (a::b::rest) pos) (aMC tA tB'):=by
 intro j pins s σ H Q I h
 refine isTrue_and (thn (i pins s σ H _ I h) fun c s1 d=>?_)
 obtain ⟨H1,f,e⟩:=d
 cases c with
 | true=>exact g j pins s1 σ H1 Q f e
 | false=>exact ⟨H1,f,e⟩
def jS(i:PT X a tA)(g:PW X (.BoolOp .Or (b::rest) pos) tB'):PW X (.BoolOp .Or (a::b::rest) pos) (tOr tA tB'):=by
 intro j pins s σ H Q I h
 refine isTrue_or (thn (i pins s σ H _ I h) fun c s1 d=>?_)
 obtain ⟨H1,f,e⟩:=d
 cases c with
 | true=>exact ⟨H1,f,e⟩
 | false=>exact g j pins s1 σ H1 Q f e
def fY(b:PT X a tA):PT X (.UnaryOp .Not a pos) (aQK tA):=by
 intro pins s σ H Q I h
 exact isTrue_not (b pins s σ H (fun c H1=>Q (!c) H1) I h)
def aO9(ta tb:TE):TE:=fun σ H Q=>ta σ H fun x H1=>∃ c,x=.bl c/\if c=true then tb σ H1 Q else Q (.bl false) H1
def aPA(ta:TE):TE:=fun σ H Q=>ta σ H fun x H1=>∃ c,x=.bl c/\Q (.bl (!c)) H1
def aMD{op}{t:TE}(h:PE X a t):PE X (.BoolOp op [a] pos) t:=fun pins s σ H Q I hw=>BoolOp_one (h pins s σ H Q I hw)
def aME(i:PE X a ta)(g:PE X (.BoolOp .And (b::rest) pos) tb):PE X (.BoolOp .And (a::b::rest) pos) (aO9 ta tb):=by
 intro pins s σ H Q I h
 refine BoolOp_and (thn (i pins s σ H _ I h) fun v s1 e=>?_)
 obtain ⟨x,H1,f,r1,d⟩:=e
 obtain ⟨c,rfl,d⟩:=d
 cases r1
 refine CZ ?_
 cases c with
 | true=>exact g pins s1 σ H1 Q f d
 | false=>exact ⟨.bl false,H1,f,rfl,d⟩
def aMF(e:PE X a ta):PE X (.UnaryOp .Not a pos) (aPA ta):=by
 intro pins s σ H Q I h
 refine UnaryOp_ (thn (e pins s σ H _ I h) fun v s1 b=>?_)
 obtain ⟨x,H1,f,r1,d⟩:=b
 obtain ⟨c,rfl,d⟩:=d
 cases r1
 exact not_of (CZ ⟨.bl (!c),H1,f,rfl,d⟩)
def tIf(t:TT)(ta tb:TE):TE:=fun σ H Q=>t σ H fun c H1=>if c=true then ta σ H1 Q else tb σ H1 Q
def aF6{c:Expr}(k:PT X c tA)(j:PE X a ta)(i:PE X b tb):PE X (.IfExp c a b pos) (tIf tA ta tb):=by
 intro pins s σ H Q I h
 refine wpAny_IfExp (thn (k pins s σ H _ I h) fun d s1 e=>?_)
 obtain ⟨H1,g,f⟩:=e
 cases d with
 | true=>exact j pins s1 σ H1 Q g f
 | false=>exact i pins s1 σ H1 Q g f
end
def SqL(K:Frag)(H:Hp)(a:Az)(xs:List V):Prop:=
 Rd H a (.lst xs) \/
  ∃ (o:Obj) (its:Array V9) (n:Nat),K.lookup a=some o/\o.cls=.type "list"/\o.dict=none/\o.data=.seq its n/\its.size<=sizeLine/\bB xs its.toList
def SqT(K:Frag)(H:Hp)(a:Az)(xs:List V):Prop:=
 Rd H a (.tup xs) \/
  ∃ (o:Obj) (its:Array V9) (n:Nat),K.lookup a=some o/\o.cls=.type "tuple"/\o.data=.seq its n/\its.size<=sizeLine/\bB xs its.toList
def aQL:V9->Option V
 | .none=>some .non
 | .bool b=>some (.bl b)
 | .int i _=>some (.int i)
 | .str x _=>some (.str x)
 | .bytes b _=>some (.byt b)
 | .float b _=>some (.flt b)
 | .ref a=>some (.ref a)
 | .type n=>some (.ty n)
 | _=>none
def aY.abs{x:V}{u:V9}(r:aY x u):aQL u=some x:=by
 cases x with
 | non=>cases r;rfl
 | bl _=>cases r;rfl
 | int _=>obtain ⟨t,rfl⟩:=r;rfl
 | str _=>obtain ⟨t,rfl⟩:=r;rfl
 | byt _=>obtain ⟨t,rfl⟩:=r;rfl
 | flt _=>obtain ⟨t,rfl⟩:=r;rfl
 | ref _=>cases r;rfl
 | ty _=>cases r;rfl
def aY.inj{x y:V}{u:V9}(r:aY x u)(q:aY y u):x=y:=BZ (r.abs.symm.trans q.abs)
theorem bB.inj:∀ {xs ys:List V} {us:List V9},bB xs us->bB ys us->xs=ys
 | _,_,_,.nil,.nil=>rfl
 | _,_,_,.cons r t,.cons r' t'=>by rw[r.inj r',bB.inj t t']
section
variable{X:Cx}{pins:List (Az×Obj)}{σ:St}{H:Hp}{s:S9}{a:Az}{xs ys:List V}
def SqL.of{K:Frag}(h:H a=some (.lst xs)):SqL K H a xs:=.inl (.inl h)
def SqT.of{K:Frag}(h:H a=some (.tup xs)):SqT K H a xs:=.inl (.inl h)
def Inv.list(I:Inv X pins σ H s)(h:SqL X.K H a xs):∃ its:List V9,bB xs its/\PlainL s.heap a its.toArray/\xs.length<=sizeLine:=by
 rcases h with h|⟨o,its,n,b,c,d,f,hz,r⟩
 .obtain ⟨z,its,n,r,e⟩:=h.ok I.hok
  exact ⟨its,r,⟨_,n,e,rfl,rfl,rfl⟩,z⟩
 .refine ⟨its.toList,r,⟨o,n,I.kIn a o b,c,d,by simpa using f⟩,?_⟩
  have e:=r.length
  simp only[DD] at e
  omega
def Inv.tuple(I:Inv X pins σ H s)(h:SqT X.K H a xs):∃ its:List V9,bB xs its/\IsTup s.heap a its.toArray/\xs.length<=sizeLine:=by
 rcases h with h|⟨o,its,n,b,c,d,hz,r⟩
 .obtain ⟨z,its,r,p⟩:=h.ok I.hok
  exact ⟨its,r,p,z⟩
 .refine ⟨its.toList,r,⟨o,I.kIn a o b,c,n,by simpa using d⟩,?_⟩
  have e:=r.length
  simp only[DD] at e
  omega
def Inv.list_inj(I:Inv X pins σ H s)(h:SqL X.K H a xs)(h':SqL X.K H a ys):xs=ys:=by
 obtain ⟨b,r,⟨o,n,e,_,_,d⟩,_⟩:=I.list h
 obtain ⟨its',f,⟨o',g,c,_,_,d'⟩,_⟩:=I.list h'
 rw[e] at c;cases c
 rw[d] at d'
 injection d' with d1 _
 have:b=its':=by simpa using congrArg Array.toList d1
 subst this
 exact r.inj f
def Inv.tuple_inj(I:Inv X pins σ H s)(h:SqT X.K H a xs)(h':SqT X.K H a ys):xs=ys:=by
 obtain ⟨b,r,⟨o,e,_,n,d⟩,_⟩:=I.tuple h
 obtain ⟨its',f,⟨o',c,_,g,d'⟩,_⟩:=I.tuple h'
 rw[e] at c;cases c
 rw[d] at d'
 injection d' with d1 _
 have:b=its':=by simpa using congrArg Array.toList d1
 subst this
 exact r.inj f
end
abbrev Cx.wish(X:Cx)(E:V9->S9->Prop):Cx:={X with xe:=E}
abbrev Cx.nox(X:Cx):Cx:=X.wish fun _ _=>False
def Cx.Ok.wish{X:Cx}(ok:X.Ok)(E:V9->S9->Prop):(X.wish E).Ok:=
 ⟨ok.mod,ok.kind,ok.glob,ok.blt,ok.above,ok.inj,ok.has,ok.cab,ok.hd,ok.frames,ok.stk,ok.exf,ok.bs,ok.bsz,ok.noex,ok.exfs,ok.funs,ok.frf⟩
def Cx.Ok.unwish{X:Cx}{E:V9->S9->Prop}(ok:(X.wish E).Ok):X.Ok:=
 ⟨ok.mod,ok.kind,ok.glob,ok.blt,ok.above,ok.inj,ok.has,ok.cab,ok.hd,ok.frames,ok.stk,ok.exf,ok.bs,ok.bsz,ok.noex,ok.exfs,ok.funs,ok.frf⟩
section
variable{X:Cx}{pins:List (Az×Obj)}{σ:St}{H:Hp}{s:S9}{E:V9->S9->Prop}
def Inv.wish(I:Inv X pins σ H s)(E:V9->S9->Prop):Inv (X.wish E) pins σ H s:=⟨I.ok.wish E,I.os,I.bare,I.base,I.loc,I.cell,I.free,I.freeC,I.pin,I.hok,I.len⟩
def Inv.unwish(I:Inv (X.wish E) pins σ H s):Inv X pins σ H s:=⟨I.ok.unwish,I.os,I.bare,I.base,I.loc,I.cell,I.free,I.freeC,I.pin,I.hok,I.len⟩
def SP.unwish{D:jF}{f:Flow}{s':S9}(h:SP (X.wish E) pins D f s'):SP X pins D f s':=by
 cases f with
 | next=>obtain ⟨a,H',I,q⟩:=h;exact ⟨a,H',I.unwish,q⟩
 | brk=>obtain ⟨a,H',I,q⟩:=h;exact ⟨a,H',I.unwish,q⟩
 | cont=>obtain ⟨a,H',I,q⟩:=h;exact ⟨a,H',I.unwish,q⟩
 | ret u=>obtain ⟨v,a,H',I,r,q⟩:=h;exact ⟨v,a,H',I.unwish,r,q⟩
def PE.nox{e:Expr}{t:TE}(h:PE X.nox e t):PE X e t:=fun pins s σ H Q I hw=>
 BX (h pins s σ H Q (I.wish _) hw) (fun _ _ ⟨v,H',a,r,q⟩=>⟨v,H',a.unwish,r,q⟩) fun _ _ z=>False.elim z
def PT.nox{e:Expr}{t:TT}(h:PT X.nox e t):PT X e t:=fun pins s σ H Q I hw=>
 BX (h pins s σ H Q (I.wish _) hw) (fun _ _ ⟨H',a,q⟩=>⟨H',a.unwish,q⟩) fun _ _ z=>False.elim z
def PSs.nox{st:List Stmt}{t:TS}(h:PSs X.nox st t):PSs X st t:=fun pins s σ H D I hw=>
 BX (h pins s σ H D (I.wish _) hw) (fun _ _ q=>q.unwish) fun _ _ z=>False.elim z
end
section
variable{X:Cx}{st:Stmt}{rest:List Stmt}{t u:TS}{e:Expr}{te:TE}{pos:Pos}
def aPB:TS:=fun D σ H=>D.nx σ H
def aQM(t u:TS):TS:=fun D σ H=>t {D with nx:=u D} σ H
def b9:PSs X [] aPB:=fun _ _ σ H _ I h=>EG ⟨σ,H,I,h⟩
def aF(h1:PS X st t)(h2:PSs X rest u):PSs X (st::rest) (aQM t u):=by
 intro pins s σ H D I h
 refine HD (thn (h1 pins s σ H {D with nx:=u D} I h) fun f s1 q=>?_)
 cases f with
 | next=>
  obtain ⟨a,H',b,q⟩:=q
  exact h2 pins s1 a H' D b q
 | ret v=>exact q
 | brk=>exact q
 | cont=>exact q
def aM(h1:PS X st t):PSs X [st] t:=by
 intro pins s σ H D I h
 refine HD (thn (h1 pins s σ H D I h) fun f s1 q=>?_)
 cases f with
 | next=>exact EG q
 | ret v=>exact q
 | brk=>exact q
 | cont=>exact q
def Inv.quiet{pins:List (Az×Obj)}{σ:St}{H:Hp}{s:S9}(I:Inv X pins σ H s):interactive X.env=false:=by simp[interactive,I.ok.kind]
def sO(te:TE):TS:=fun D σ H=>te σ H fun _ H1=>D.nx σ H1
def eN(a:PE X e te)(b:swapsWith e none pos.line X.env=pure false:=by rfl):PS X (.Expr e pos) (sO te):=by
 intro pins s σ H D I h
 exact wpAny_Expr_any (thn (a pins s σ H _ I h) fun v s1 ⟨x,H1,d,r1,c⟩=>⟨σ,H1,d,c⟩) I.quiet b
def aQN(te:TE):TS:=fun D σ H=>te σ H D.rt
def bL(a:PE X e te):PS X (.Return (some e) pos) (aQN te):=by
 intro pins s σ H D I h
 exact wpAny_Return_some (thn (a pins s σ H _ I h) fun v s1 ⟨x,H1,c,r1,b⟩=>⟨x,σ,H1,c,r1,b⟩)
def aQO(c:TT)(t u:TS):TS:=fun D σ H=>c σ H fun b H1=>if b=true then t D σ H1 else u D σ H1
def cX{c:Expr}{a b:List Stmt}{tc:TT}(k:PT X c tc)(j:PSs X a t)(i:PSs X b u):PS X (.If c a b pos) (aQO tc t u):=by
 intro pins s σ H D I h
 refine wpAny_If (thn (k pins s σ H _ I h) fun d s1 e=>?_)
 obtain ⟨H1,g,f⟩:=e
 cases d with
 | true=>exact j pins s1 σ H1 D g f
 | false=>exact i pins s1 σ H1 D g f
end
abbrev TG:=V->St->Hp->(St->Hp->Prop)->Prop
abbrev TGs:=List V->St->Hp->(St->Hp->Prop)->Prop
def PG(X:Cx)(target:Expr)(t:TG):Prop:=
 ∀ (pins:List (Az×Obj)) (s:S9) (σ:St) (H:Hp) (v:V) (u:V9) (Q:St->Hp->Prop),Inv X pins σ H s->aY v u->t v σ H Q->
  wpAny (model X.prog X.w) X.A (assign target X.env u) (fun _ s'=>∃ σ' H',Inv X pins σ' H' s'/\Q σ' H') X.xe s
def PGs(X:Cx)(ts:List Expr)(t:TGs):Prop:=
 ∀ (pins:List (Az×Obj)) (s:S9) (σ:St) (H:Hp) (vs:List V) (us:List V9) (Q:St->Hp->Prop),Inv X pins σ H s->bB vs us->t vs σ H Q->
  wpAny (model X.prog X.w) X.A (assignInOrder ((assignEach ts X.env).map (·.2)) us) (fun _ s'=>∃ σ' H',Inv X pins σ' H' s'/\Q σ' H') X.xe s
abbrev aBT:=V->V->V->Hp->(Hp->Prop)->Prop
def aF7(X:Cx)(t:aBT):Prop:=
 ∀ (pins:List (Az×Obj)) (s:S9) (σ:St) (H:Hp) (o i v:V) (ov iv u:V9) (Q:Hp->Prop),Inv X pins σ H s->aY o ov->aY i iv->aY v u->t o i v H Q->
  wpAny (model X.prog X.w) X.A (setItem ov iv u) (fun _ s'=>∃ H',Inv X pins σ H' s'/\Q H') X.xe s
section
variable{X:Cx}{pos:Pos}
def h8(i:Nat):TG:=fun v σ H Q=>Q (σ.set i (some v)) H
def bR{i:Nat}{x:Str}(hN:X.N.Nodup)(hi:X.N[i]? = some x)(hx:Loc X.env.scope x)(b:X.fn x=true\/X.env.scope.names.lookup x=some .local:=by first|exact .inl rfl|exact .inr rfl):PG X (.Name x pos) (h8 i):=by
 intro pins s σ H v u Q I r h
 exact wpAny_assign_Name (rM I hN hi hx r (fun s' a=>⟨_,H,a,h⟩) b)
def aF8:TGs:=fun vs σ H Q=>vs=[]/\Q σ H
def aII(t:TG)(u:TGs):TGs:=fun vs σ H Q=>∃ v r,vs=v::r/\t v σ H fun σ' H'=>u r σ' H' Q
def jG:PGs X [] aF8:=by
 intro pins s σ H vs us Q I r h
 obtain ⟨e,h⟩:=h
 subst e
 cases r
 exact assignInOrder_nil ⟨σ,H,I,h⟩
def cZ{e:Expr}{es:List Expr}{t:TG}{u:TGs}(h1:PG X e t)(h2:PGs X es u)
  (c:(assignEach (e::es) X.env).map (·.2)=assign e X.env::(assignEach es X.env).map (·.2):=by rfl):PGs X (e::es) (aII t u):=by
 intro pins s σ H vs us Q I r h
 obtain ⟨v,g,e1,h⟩:=h
 subst e1
 cases r with
 | cons r rr=>
  rw[c]
  refine assignInOrder_cons (thn (h1 pins s σ H _ _ _ I r h) fun _ s1 a=>?_)
  obtain ⟨b,H1,f,d⟩:=a
  exact h2 pins s1 b H1 _ _ Q f rr d
def aMG(K:Frag)(n:Nat)(t:TGs):TG:=fun v σ H Q=>∃ a xs,v=.ref a/\SqT K H a xs/\xs.length=n/\t xs σ H Q
def kL{es:List Expr}{k:Nat}{t:TGs}{n:Nat}(l:X.calm=true)(h:PGs X es t)
  (g:(assignEach es X.env).length=n:=by rfl) (hst:(assignEach es X.env).findIdx? (·.1)=none:=by rfl):PG X (.Tuple es k pos) (aMG X.K n t):=by
 intro pins s σ H v u Q I r hw
 obtain ⟨a,xs,e1,j,d,hw⟩:=hw
 subst e1
 cases r
 obtain ⟨f,c,i,hz⟩:=I.tuple j
 refine assign_Tuple_tuple (I.ok.hd l) i (by simp[g,<-d,c.length]) hst fun h' hx=>?_
 have m:Inv X pins σ H {s with heap:=h'}:=I.kept (t':=s.toks) fun b o e=>hx b o (A2 (AK e)) e
 exact h pins _ σ H xs _ Q m (by simpa using c) hw
def aF9(to ti:TE)(t:aBT):TG:=fun v σ H Q=>to σ H fun o H1=>ti σ H1 fun i H2=>t o i v H2 fun H3=>Q σ H3
def oY{o i:Expr}{to b:TE}{t:aBT}(l:PE X o to)(hi:PE X i b)(g:aF7 X t)
  (e:∀ v,assign (.Subscript o i pos) X.env v=(do
   let ov <-holding [v] (eval o X.env)
   let iv <-holding [v,ov] (eval i X.env)
   standAt pos
   holding [v,ov,iv] (setItem ov iv v)
   release [v,ov,iv] []):=by intro _;rfl):PG X (.Subscript o i pos) (aF9 to b t):=by
 intro pins s σ H v u Q I r h
 rw[e]
 refine AB (B0 (thn (l pins s σ H _ I h) fun ov s1 a=>?_))
 obtain ⟨x,H1,n,r1,m⟩:=a
 refine AB (B0 (thn (hi pins s1 σ H1 _ n m) fun iv f a=>?_))
 obtain ⟨y,H2,j,r2,c⟩:=a
 refine AB (DV (AB (B0 (thn (g pins f σ H2 x y v ov iv u _ j r1 r2 r c) fun _ p a=>?_))))
 obtain ⟨H3,d,k⟩:=a
 exact wpAny_release ⟨σ,H3,d,k⟩
def iR(te:TE)(g:TG):TS:=fun D σ H=>te σ H fun x H1=>g x σ H1 D.nx
def lP{tg e:Expr}{te:TE}{g:TG}(c:PE X e te)(d:PG X tg g)(b:swapsWithSole [tg] e pos.line X.env=pure false:=by rfl)(hw:swappedStores [tg] e X.env=pure none:=by rfl)
  (h1:(assignEach [tg] X.env).map (·.2)=[assign tg X.env]:=by rfl):PS X (.Assign [tg] e pos) (iR te g):=by
 intro pins s σ H D I h
 refine wpAny_Assign_stores (thn (c pins s σ H _ I h) fun v s1 a=>?_) b hw
 obtain ⟨x,H1,i,r1,f⟩:=a
 rw[h1]
 exact thn (d pins s1 σ H1 x v _ i r1 f) fun _ j q=>q
def aI{i:Nat}{x:Str}{e:Expr}{te:TE}{a:Pos}(hN:X.N.Nodup)(hi:X.N[i]? = some x)(hx:Loc X.env.scope x)(f:PE X e te)(c:swapsWith e (some (.Name x a)) pos.line X.env=pure false:=by rfl)(hf:X.fn x=true\/X.env.scope.names.lookup x=some .local:=by exact .inl rfl) :
  PS X (.Assign [.Name x a] e pos) (iR te (h8 i)):=by
 intro pins s σ H D I h
 refine wpAny_Assign_Name (thn (f pins s σ H _ I h) fun v s1 b=>?_) c
 obtain ⟨y,H1,j,r1,g⟩:=b
 exact rM j hN hi hx r1 (fun k d=>⟨_,H1,d,g⟩) hf
end
section
variable{X:Cx}{pos:Pos}
def aDF(c:TT)(tb:TS):TS:=fun D σ H=>∃ W:Nat->St->Hp->Prop,(∃ m,W m σ H)/\∀ m σ H,W m σ H->
 c σ H fun b H1=>if b=true then ∃ N:St->Hp->Prop,(∀ σ' H',N σ' H'->∃ m',m' < m/\W m' σ' H')/\tb {D with nx:=N,ct:=N,bk:=D.nx} σ H1 else D.nx σ H1
def gF{c:Expr}{body:List Stmt}{tc:TT}{tb:TS}(o:PassesOwn (model X.prog X.w) X.A X.env X.xe)(u:PT X c tc)(p:PSs X body tb):PS X (.While c body [] pos) (aDF tc tb):=by
 intro pins s σ H D I h
 obtain ⟨W,⟨r,q⟩,turn⟩:=h
 refine wpAny_While (codeAny_whileLoop (fun n s'=>∃ σ' H',Inv X pins σ' H' s'/\W n σ' H') ?_ r ⟨σ,H,I,q⟩)
 rintro n s1 ⟨σ1,H1,I1,w1⟩
 refine DS o (thn (u pins s1 σ1 H1 _ I1 (turn n σ1 H1 w1)) fun b t g=>?_)
 obtain ⟨H2,m,d⟩:=g
 cases b with
 | true=>
  obtain ⟨N,hN,d⟩:=d
  rw[if_pos rfl]
  refine DS o (thn (p pins t σ1 H2 _ m d) fun f x e=>?_)
  cases f with
  | next=>
   obtain ⟨a,H3,k,i⟩:=e
   obtain ⟨j,l,w3⟩:=hN a H3 i
   exact ⟨j,l,a,H3,k,w3⟩
  | cont=>
   obtain ⟨a,H3,k,i⟩:=e
   obtain ⟨j,l,w3⟩:=hN a H3 i
   exact ⟨j,l,a,H3,k,w3⟩
  | brk=>exact e
  | ret v=>exact e
 | false=>
  rw[if_neg A0]
  exact EG ⟨σ1,H2,m,d⟩
end
structure It where
 go:Nat->Hp->Prop
 yld:Nat->Hp->V->Hp->Prop
 stop:Nat->Hp->Prop
def g8(X:Cx)(pins:List (Az×Obj))(H:Hp)(b:Az):Prop:=
 H b=none/\b≠X.env.locals/\b∉X.fs/\(b∈X.ex\/X.s₀.heap.objs.size<=b)/\(∀ x c,X.env.cells.lookup x=some c->c≠b)/\∀ p∈X.pn++pins,p.1≠b
def Inv.fpOk{X:Cx}{pins:List (Az×Obj)}{σ:St}{H H':Hp}{s:S9}{b:Az}(I:Inv X pins σ H s)(a:s.heap.objs.size<=b)(d:H' b=none):g8 X pins H' b:=by
 refine ⟨d,C3 (AW I.lt a),I.nofs a,.inr (A6 I.sz a),fun x c e z=>?_,fun p f z=>?_⟩
 .obtain ⟨v,q⟩:=I.cell x c e
  exact absurd (AW q.lt (by rw[z];exact a)) (BG _)
 .exact absurd (AW (AK (I.pin p f).1) (by rw[z];exact a)) (BG _)
structure Turn(P:Program)(w:World)(K:Frag)(tg:Expr)(J:It)(fp:List Az)(it:Az)(tn:Nat->Heap->Prop):Prop where
 mem:it∈fp
 obj:∀ i h,tn i h->∀ b∈fp,∃ o,h.get? b=some o/\∀ v,o.data≠.cell v
 keep:∀ i h h',tn i h->(∀ b∈fp,∀ o,h.get? b=some o->h'.get? b=some o)->tn i h'
 item:∀ (X:Cx),X.prog=P->X.w=w->X.K=K->X.calm=true->∀ (i:Nat) (pins:List (Az×Obj)) (s:S9) (σ:St) (H:Hp) (E:V9->S9->Prop),Inv X pins σ H s->(∀ b∈fp,g8 X pins H b)->tn i s.heap->J.go i H->
  wpAny (model P w) X.A (pyNext (.ref it)) (fun r s1=>∃ u,r=some u /\
   wpAny (model P w) X.A (letOwnedTupleGo tg (.ref it) u) (fun _ s2=>∃ x H',Inv X pins σ H' s2/\aY x u/\J.yld i H x H'/\tn (i+1) s2.heap/\∀ b∈fp,H' b=none) E s1) E s
 done:∀ (X:Cx),X.prog=P->X.w=w->X.K=K->X.calm=true->∀ (i:Nat) (pins:List (Az×Obj)) (s:S9) (σ:St) (H:Hp) (E:V9->S9->Prop),Inv X pins σ H s->(∀ b∈fp,g8 X pins H b)->tn i s.heap->J.stop i H->
  wpAny (model P w) X.A (pyNext (.ref it)) (fun r s1=>r=none/\Inv X pins σ H s1) E s
 self:∀ (A:Around) (i:Nat) (s:S9) (Q:V9->S9->Prop) (E:V9->S9->Prop),tn i s.heap->Q (.ref it) s->wpAny (model P w) A (pyIter (.ref it)) Q E s
abbrev TI:=St->Hp->(It->Hp->Prop)->Prop
def PIE(X:Cx)(pins:List (Az×Obj))(σ:St)(tg:Expr)(R:It->Hp->Prop)(itv:V9)(s2:S9):Prop:=
 ∃ (it:Az) (fp:List Az) (tn:Nat->Heap->Prop) (J:It) (H':Hp),itv=.ref it/\Inv X pins σ H' s2/\Turn X.prog X.w X.K tg J fp it tn/\tn 0 s2.heap/\(∀ b∈fp,g8 X pins H' b)/\R J H'
def PI(X:Cx)(tg iter:Expr)(wi:TI):Prop:=
 ∀ (pins:List (Az×Obj)) (s:S9) (σ:St) (H:Hp) (R:It->Hp->Prop),Inv X pins σ H s->wi σ H R->
  wpAny (model X.prog X.w) X.A (eval iter X.env) (fun v s1=>wpAny (model X.prog X.w) X.A (pyIter v) (PIE X pins σ tg R) X.xe s1) X.xe s
def sP {M : Model} {A : Around} {E : V9 -> S9 -> Prop} {s : S9} {tg : Expr} {it : Az} {u : V9} {o : Obj} {n : String} {vs : Array V9} {Q : Unit -> S9 -> Prop} (e : s.heap.get? it = some o) (d : o.cls = .type n) (b : o.data = .fields vs)
    (c : ["enumerate", "zip", "dict_itemiterator", "dict_reverseitemiterator", "odict_iterator", "itertools.zip_longest", "itertools.pairwise"].contains n = false) (a : Q () s) : wpAny M A (letOwnedTupleGo tg (.ref it) u) Q E s := by
  unfold letOwnedTupleGo
  cases tg <;> first
    | exact AD a
    | (cases u <;> first
        | exact AD a
        | (refine AB (wpAny_load e ?_)
           rw [d, b]
           show wpAny M A (if (["enumerate", "zip", "dict_itemiterator", "dict_reverseitemiterator", "odict_iterator", "itertools.zip_longest", "itertools.pairwise"].contains n && vs[0]? == some (rawInt _)) = true then _ else _) Q E s
           rw [if_neg (by intro h; rw [c, Bool.false_and] at h; cases h)]
           exact AD a))
def Itl(K:Frag)(a:Az):It:=
 ⟨fun i H=>∃ xs x,SqL K H a xs/\xs[i]? = some x,fun i H x H'=>H'=H/\∀ xs,SqL K H a xs->xs[i]? = some x,fun i H=>∃ xs,SqL K H a xs/\xs.length<=i⟩
def Itt(K:Frag)(a:Az):It:=
 ⟨fun i H=>∃ xs x,SqT K H a xs/\xs[i]? = some x,fun i H x H'=>H'=H/\∀ xs,SqT K H a xs->xs[i]? = some x,fun i H=>∃ xs,SqT K H a xs/\xs.length<=i⟩
def Itr(lo:Int)(n:Nat):It:=⟨fun i _=>i < n,fun i H x H'=>H'=H/\x=.int (lo+i),fun i _=>n<=i⟩
def aDG{P:Program}{w:World}{K:Frag}{tg:Expr}(a it:Az):Turn P w K tg (Itl K a) [it] it (fun i h=>h.IsListIter it a i) where
 mem:=by simp
 obj:=fun i h st b f=>by
  have e:b=it:=by simpa using f
  subst e
  obtain ⟨o,e,c,d⟩:=st
  exact ⟨o,e,fun v z=>by rw[d] at z;cases z⟩
 keep:=fun i h h' st k=>st.at fun o e=>k it (by simp) o e
 item:=by
  intro X n hw t C i pins s σ H E I j st y
  subst n hw t
  obtain ⟨xs,x,l,hx⟩:=y
  obtain ⟨A,r,p,hz⟩:=I.list l
  obtain ⟨u,L,F⟩:=r.get hx
  obtain ⟨f0,f1,f2,q,m,B⟩:=j it (by simp)
  refine wpAny_pyNext_list_item st p.isList (x:=u) (by simpa using L) fun h' g D=>?_
  have J:Inv X pins σ H {s with heap:=h'}:=I.turned (t':=s.toks) (fun b o f e=>(D.2 b f).trans e) f0 f1 q m B
  obtain ⟨o,e,c,d⟩:=id g
  exact ⟨u,rfl,sP (s:={s with heap:=h'}) e c d (by decide) ⟨x,H,J,F,⟨rfl,fun ys M=>by rw[I.list_inj M l];exact hx⟩,g,fun b f=>(j b f).1⟩⟩
 done:=by
  intro X n hw t C i pins s σ H E I j st y
  subst n hw t
  obtain ⟨xs,l,hx⟩:=y
  obtain ⟨A,r,p,hz⟩:=I.list l
  obtain ⟨f0,f1,f2,q,m,B⟩:=j it (by simp)
  have N:=r.length
  exact wpAny_pyNext_list_end (I.ok.hd C) st p.isList (by simp;omega) fun h' G=>⟨rfl,I.turned (t':=s.toks) (fun b o f e=>G b o f e) f0 f1 q m B⟩
 self:=fun _ _ _ _ _ st h=>wpAny_pyIter_listiter st h
def aBU{P:Program}{w:World}{K:Frag}{tg:Expr}(a it:Az):Turn P w K tg (Itt K a) [it] it (fun i h=>h.IsTupleIter it a i) where
 mem:=by simp
 obj:=fun i h st b f=>by
  have e:b=it:=by simpa using f
  subst e
  obtain ⟨o,e,c,d⟩:=st
  exact ⟨o,e,fun v z=>by rw[d] at z;cases z⟩
 keep:=fun i h h' st k=>st.at fun o e=>k it (by simp) o e
 item:=by
  intro X q hw y C i pins s σ H E I l st A
  subst q hw y
  obtain ⟨xs,x,m,hx⟩:=A
  obtain ⟨g,t,p,hz⟩:=I.tuple m
  obtain ⟨u,L,F⟩:=t.get hx
  obtain ⟨f0,f1,f2,r,n,B⟩:=l it (by simp)
  refine wpAny_pyNext_tuple_item st (show s.heap.IsTuple a g.toArray from p) (x:=u) (by simpa using L) fun h' j D=>?_
  have J:Inv X pins σ H {s with heap:=h'}:=I.turned (t':=s.toks) (fun b o f e=>(D.2 b f).trans e) f0 f1 r n B
  obtain ⟨o,e,c,d⟩:=id j
  exact ⟨u,rfl,sP (s:={s with heap:=h'}) e c d (by decide) ⟨x,H,J,F,⟨rfl,fun ys M=>by rw[I.tuple_inj M m];exact hx⟩,j,fun b f=>(l b f).1⟩⟩
 done:=by
  intro X q hw y C i pins s σ H E I l st A
  subst q hw y
  obtain ⟨xs,m,hx⟩:=A
  obtain ⟨g,t,p,hz⟩:=I.tuple m
  obtain ⟨f0,f1,f2,r,n,B⟩:=l it (by simp)
  have N:=t.length
  exact wpAny_pyNext_tuple_end (I.ok.hd C) st (show s.heap.IsTuple a g.toArray from p) (by simp;omega) fun h' G=>⟨rfl,I.turned (t':=s.toks) (fun b o f e=>G b o f e) f0 f1 r n B⟩
 self:=fun _ _ _ _ _ st h=>wpAny_pyIter_tupleiter st h
def aBV{P:Program}{w:World}{K:Frag}{tg:Expr}(it:Az)(lo:Int)(n:Nat):Turn P w K tg (Itr lo n) [it] it (fun i h=>IsRangeIter h it (lo+(i:Nat) * 1) ((n:Int) - (i:Nat)) 1) where
 mem:=by simp
 obj:=fun i h st b a=>by
  have e:b=it:=by simpa using a
  subst e
  exact ⟨_,st,fun v z=>by
   have x:Data.fields _=Data.cell v:=z
   cases x⟩
 keep:=fun i h h' st k=>k it (by simp) _ st
 item:=by
  intro X g hw m l i pins s σ H E I d st q
  subst g hw m
  obtain ⟨f0,f1,f2,j,f,p⟩:=d it (by simp)
  have W:=Walks.range (prog:=X.prog) (w:=X.w) (I.ok.hd l) it lo 1 n
  refine W.item i s _ _ q st fun v h' tk u c r=>?_
  obtain ⟨t,rfl⟩:=u
  have A:Inv X pins σ H {s with heap:=h',toks:=tk}:=I.turned (fun b o a e=>r b o (by simpa using a) e) f0 f1 j f p
  refine ⟨_,rfl,sP (s:={s with heap:=h',toks:=tk}) (n:="range_iterator") c rfl rfl (by decide) ⟨.int (lo+i),H,A,⟨t,?_⟩,⟨rfl,rfl⟩,c,fun b a=>(d b a).1⟩⟩
  rw[Int.mul_one]
 done:=by
  intro X g hw m l i pins s σ H E I d st q
  subst g hw m
  obtain ⟨f0,f1,f2,j,f,p⟩:=d it (by simp)
  exact wpAny_pyNext_range_end (I.ok.hd l) st (by have:n<=i:=q;omega) fun h' y=>⟨rfl,I.turned (t':=s.toks) (fun b o a e=>y b o a e) f0 f1 j f p⟩
 self:=fun _ _ _ _ _ st h=>wpAny_pyIter_rangeiter st h
section
variable{X:Cx}{tg:Expr}
def aGA{pins:List (Az×Obj)}{σ:St}{H:Hp}{s:S9}{R:It->Hp->Prop}{E:V9->S9->Prop}{lo hi:Int}{t u v:Tok}{tk:Nat}(I:Inv X pins σ H s)(h1 : -(2 ^ 62)<=lo)(h2:lo < 2 ^ 62)(d : -(2 ^ 62)<=hi)(f:hi < 2 ^ 62)
  (q:R (Itr lo (hi - lo).toNat) H):wpAny (model X.prog X.w) X.A (pyIter (.ref s.heap.objs.size)) (PIE X pins σ tg R) E {s with heap:=s.heap.push {cls:=.type "range",data:=.fields #[.int lo t,.int hi u,.int 1 v]},toks:=tk}:=by
 refine wpAny_pyIter_range (IsRange.new ..) (small_one h1 h2 d f) ?_
 have a:Inv X pins σ H {s with heap:=s.heap.push {cls:=.type "range",data:=.fields #[.int lo t,.int hi u,.int 1 v]},toks:=tk}:=I.kept fun b o e=>AE _ e
 refine ⟨(s.heap.push {cls:=.type "range",data:=.fields #[.int lo t,.int hi u,.int 1 v]}).objs.size,[(s.heap.push {cls:=.type "range",data:=.fields #[.int lo t,.int hi u,.int 1 v]}).objs.size],_,_,H,rfl,
  a.kept (t':=tk) fun b o e=>AE _ e,aBV _ lo (hi - lo).toNat,?_,fun b c=>?_,q⟩
 .have e1:lo+((0:Nat):Int) * 1=lo:=by simp
  have e2:(((hi - lo).toNat:Nat):Int) - ((0:Nat):Int)=Builtin.Range.rangeSize lo hi 1:=by rw[rangeSize_one];split<;>omega
  show IsRangeIter _ _ (lo+((0:Nat):Int) * 1) ((((hi - lo).toNat:Nat):Int) - ((0:Nat):Int)) 1
  rw[e1,e2]
  exact AT _ rfl
 .have e:b=(s.heap.push {cls:=.type "range",data:=.fields #[.int lo t,.int hi u,.int 1 v]}).objs.size:=by simpa using c
  subst e
  exact a.fpOk (AJ _) (a.hok.fresh (AJ _))
def aIJ(ta:TA):TI:=fun σ H R=>ta σ H fun vs H1=>∃ j:Int,vs=[.int j] /\ -(2 ^ 62)<=j/\j < 2 ^ 62/\R (Itr 0 j.toNat) H1
def oZ{a:Expr}{ta:TA}{p pos:Pos}(k:Gl X "range")(i:X.mg "range"=none)(f:PA X [a] ta)(g:starEach [a] X.env=[(false,eval a X.env)]:=by rfl):PI X tg (.Call (.Name "range" p) [a] [] pos) (aIJ ta):=by
 intro pins s σ H R I h
 refine Call_ (jQ I k i boot_range (CJ (thn (f pos pins s σ H _ I h) fun us s1 b=>?_) g rfl))
 obtain ⟨vs,H1,l,r1,c⟩:=b
 obtain ⟨j,e,c,d,q⟩:=c
 subst e
 cases r1 with
 | cons r rr=>
  cases rr
  obtain ⟨t,rfl⟩:=r
  exact call_range_1 (aGA l (by omega) (by omega) c d (by simpa using q))
def aMH(wi:TI)(g:TG)(tb:TS):TS:=fun D σ H=>wi σ H fun J H1=>∃ W:Nat->Nat->St->Hp->Prop,(∃ m,W 0 m σ H1)/\∀ i m σ H,W i m σ H->
 (J.stop i H/\D.nx σ H)\/(J.go i H/\∃ N:St->Hp->Prop,(∀ σ' H',N σ' H'->∃ m',m' < m/\W (i+1) m' σ' H')/\∀ x H',J.yld i H x H'->g x σ H' fun σ2 H2=>tb {D with nx:=N,ct:=N,bk:=D.nx} σ2 H2)
def o0(fp:List Az)(h:Heap):List (Az×Obj):=fp.filterMap fun b=>(h.get? b).map fun o=>(b,o)
def jT{fp:List Az}{h:Heap}{b:Az}{o:Obj}(a:b∈fp)(e:h.get? b=some o):(b,o)∈o0 fp h:=DQ.mpr ⟨b,a,by rw[e];rfl⟩
def aDH{fp:List Az}{h:Heap}{p:Az×Obj}(d:p∈o0 fp h):p.1∈fp/\h.get? p.1=some p.2:=by
 obtain ⟨b,a,e⟩:=DQ.mp d
 cases q:h.get? b with
 | none=>rw[q] at e;cases e
 | some o=>
  rw[q] at e
  have c:(b,o)=p:=BZ e
  subst c
  exact ⟨a,q⟩
def Inv.pinned{pins:List (Az×Obj)}{σ:St}{H:Hp}{s:S9}{fp:List Az}(I:Inv X pins σ H s)(f:∀ b∈fp,g8 X pins H b)(h:∀ b∈fp,∃ o,s.heap.get? b=some o/\∀ v,o.data≠.cell v):Inv X (pins++o0 fp s.heap) σ H s:=
 I.pins_of fun p g=>(A4.mp g).elim (fun z=>I.pin p (BV _ z)) fun z=>by
  obtain ⟨a,e⟩:=aDH z
  obtain ⟨f0,f1,f2,_⟩:=f p.1 a
  obtain ⟨o,c,d⟩:=h p.1 a
  rw[e] at c;cases c
  exact ⟨e,f0,f1,f2,d⟩
def Inv.unpinned{pins pl:List (Az×Obj)}{σ:St}{H:Hp}{s:S9}(I:Inv X (pins++pl) σ H s):Inv X pins σ H s:=I.pins_of fun p a=>I.pin p (BV _ (CY _ a))
def cH{p:Expr}{body:List Stmt}{O:TI}{g:TG}{tb:TS}{pos:Pos}(C:PassesOwn (model X.prog X.w) X.A X.env X.xe)(R:X.calm=true)(hi:PI X tg p O)(hg:PG X tg g)(j:PSs X body tb)
  (V:∀ x,foldedSetIterable p X.env x=pure x:=by intro _;rfl):PS X (.For tg p body [] pos) (aMH O g tb):=by
 intro pins s σ H D I h
 refine wpAny_For (thn (hi pins s σ H _ I h) fun v s1 h1=>thn h1 fun aa s2 h2=>?_) V
 obtain ⟨it,fp,P,J,H2,e,I2,T,G,f2,W,⟨m0,w0⟩,turn⟩:=h2
 subst e
 have k:∀ {H':Hp},(∀ b∈fp,H' b=none)->∀ b∈fp,g8 X pins H' b:=fun hn b j=>⟨hn b j,(f2 b j).2⟩
 refine codeAny_forLoop_any (fun n s'=>∃ i σ' H',Inv X pins σ' H' s'/\P i s'.heap/\(∀ b∈fp,H' b=none)/\W i n σ' H') ?_ m0 ⟨0,σ,H2,I2,G,fun b j=>(f2 b j).1,w0⟩
 rintro n S ⟨i,σ3,H3,I3,st3,fr3,w3⟩
 rcases turn i n σ3 H3 w3 with ⟨stop,qn⟩|⟨go,N,hN,step⟩
 .refine DS C (thn (T.done X rfl rfl rfl R i pins S σ3 H3 X.xe I3 (k fr3) st3 stop) fun r s4 c=>?_)
  obtain ⟨F,I4⟩:=c
  subst F
  exact EG ⟨σ3,H3,I4,qn⟩
 .refine DS C (thn (T.item X rfl rfl rfl R i pins S σ3 H3 X.xe I3 (k fr3) st3 go) fun r s4 c=>?_)
  obtain ⟨u,F,U⟩:=c
  subst F
  refine DS C (thn U fun _ Q c=>?_)
  obtain ⟨x,H5,I5,r5,y5,z,L⟩:=c
  have E:=I5.pinned (k L) (T.obj _ _ z)
  refine DS C (thn (hg _ Q σ3 H5 x u _ E r5 (step x H5 y5)) fun _ Z c=>?_)
  obtain ⟨K,H6,I6,q6⟩:=c
  refine DS C (thn (j _ Z K H6 _ I6 q6) fun f M y=>?_)
  have l:∀ {a:St} {q:Hp},Inv X (pins++o0 fp Q.heap) a q M->N a q->∃ m,m < n/\∃ i σ' H',Inv X pins σ' H' M/\P i M.heap/\(∀ b∈fp,H' b=none)/\W i m σ' H':=fun {a q} t B=>by
   obtain ⟨m',Y,w7⟩:=hN a q B
   refine ⟨m',Y,i+1,a,q,t.unpinned,T.keep _ _ _ z fun b j o e=>(t.pin (b,o) (BV _ (BV _ (jT j e)))).1,fun b j=>?_,w7⟩
   obtain ⟨o,e,d⟩:=T.obj _ _ z b j
   exact (t.pin (b,o) (BV _ (BV _ (jT j e)))).2.1
  cases f with
  | next=>obtain ⟨a,q,t,B⟩:=y;exact l t B
  | cont=>obtain ⟨a,q,t,B⟩:=y;exact l t B
  | brk=>obtain ⟨a,q,t,y⟩:=y;exact ⟨a,q,t.unpinned,y⟩
  | ret v=>obtain ⟨x7,a,q,t,r7,y⟩:=y;exact ⟨x7,a,q,t.unpinned,r7,y⟩
end
abbrev R2:=V->V->Hp->VK->Prop
def OpR(X:Cx)(f:V9->V9->Sem V9)(r:R2):Prop:=
 ∀ (pins:List (Az×Obj)) (s:S9) (σ:St) (H:Hp) (x y:V) (v u:V9) (Q:VK),Inv X pins σ H s->aY x v->aY y u->r x y H Q->
  wpAny (model X.prog X.w) X.A (f v u) (EP X pins σ Q) X.xe s
def gG(X:Cx)(f:V9)(r:List V->Hp->VK->Prop):Prop:=
 ∀ (pins:List (Az×Obj)) (s:S9) (σ:St) (H:Hp) (xs:List V) (us:List V9) (Q:VK),Inv X pins σ H s->bB xs us->r xs H Q->
  wpAny (model X.prog X.w) X.A (call f us) (EP X pins σ Q) X.xe s
def tOp(r:R2)(ta tb:TE):TE:=fun σ H Q=>ta σ H fun x H1=>tb σ H1 fun y H2=>r x y H2 Q
def rI(C:Int->Int->Prop)(g:Int->Int->V):R2:=fun x y H Q=>∃ i j,x=.int i/\y=.int j/\C i j/\Q (g i j) H
def rI0(g:Int->Int->V):R2:=fun x y H Q=>∃ i j,x=.int i/\y=.int j/\Q (g i j) H
section
variable{X:Cx}{a b c:Expr}{ta tb tc:TE}{pos:Pos}
def aGB(i:PE X a ta)(e:PE X b tb){pins:List (Az×Obj)}{s:S9}{σ:St}{H:Hp}{R:V->V->Hp->Prop}(I:Inv X pins σ H s)
  (h:ta σ H fun x H1=>tb σ H1 fun y H2=>R x y H2) {Q:V9->S9->Prop} {f:V9->V9->Sem V9}
  (g:∀ v u s2 x y H2,Inv X pins σ H2 s2->aY x v->aY y u->R x y H2->wpAny (model X.prog X.w) X.A (f v u) Q X.xe s2) :
  wpAny (model X.prog X.w) X.A (eval a X.env) (fun v s₁=>wpAny (model X.prog X.w) X.A (eval b X.env) (fun u s₂=>wpAny (model X.prog X.w) X.A (f v u) Q X.xe s₂) X.xe s₁) X.xe s:=by
 refine thn (i pins s σ H _ I h) fun v s1 c=>?_
 obtain ⟨x,H1,l,r1,k⟩:=c
 refine thn (e pins s1 σ H1 _ l k) fun u s2 c=>?_
 obtain ⟨y,H2,j,r2,d⟩:=c
 exact g v u s2 x y H2 j r1 r2 d
def aBW{op:Operator}{r:R2}(j:OpR X (binaryOp op) r)(f:PE X a ta)(d:PE X b tb):PE X (.BinOp a op b pos) (tOp r ta tb):=by
 intro pins s σ H Q I h
 exact wpAny_BinOp (aGB f d I h fun v u g x y H2 i c e q=>j pins g σ H2 x y v u Q i c e q)
def opI{f:V9->V9->Sem V9}{C:Int->Int->Prop}{g:Int->Int->Int}
  (a:∀ (i j:Int) (t u:Tok) (s:S9) (Q:V9->S9->Prop) (E:V9->S9->Prop),C i j->Q (.int (g i j) s.toks) {s with toks:=s.toks+1}->wpAny (model X.prog X.w) X.A (f (.int i t) (.int j u)) Q E s) :
  OpR X f (rI C fun i j=>.int (g i j)):=by
 intro pins s σ H x y v u Q I b d h
 obtain ⟨i,j,rfl,rfl,c,q⟩:=h
 obtain ⟨t,rfl⟩:=b
 obtain ⟨t',rfl⟩:=d
 exact a i j t t' s _ _ c ⟨.int (g i j),H,I.tok _,⟨_,rfl⟩,q⟩
def aMI{f:V9->V9->Sem V9}{g:Int->Int->Int}
  (a:∀ (i j:Int) (t u:Tok) (s:S9) (Q:V9->S9->Prop) (E:V9->S9->Prop),Q (.int (g i j) s.toks) {s with toks:=s.toks+1}->wpAny (model X.prog X.w) X.A (f (.int i t) (.int j u)) Q E s) :
  OpR X f (rI0 fun i j=>.int (g i j)):=by
 intro pins s σ H x y v u Q I b c h
 obtain ⟨i,j,rfl,rfl,q⟩:=h
 obtain ⟨t,rfl⟩:=b
 obtain ⟨t',rfl⟩:=c
 exact a i j t t' s _ _ ⟨.int (g i j),H,I.tok _,⟨_,rfl⟩,q⟩
def aGC{f:V9->V9->Sem V9}{g:Int->Int->Bool}
  (a:∀ (i j:Int) (t u:Tok) (s:S9) (Q:V9->S9->Prop) (E:V9->S9->Prop),Q (.bool (g i j)) s->wpAny (model X.prog X.w) X.A (f (.int i t) (.int j u)) Q E s) :
  OpR X f (rI0 fun i j=>.bl (g i j)):=by
 intro pins s σ H x y v u Q I b c h
 obtain ⟨i,j,rfl,rfl,q⟩:=h
 obtain ⟨t,rfl⟩:=b
 obtain ⟨t',rfl⟩:=c
 exact a i j t t' s _ _ ⟨.bl (g i j),H,I,rfl,q⟩
def aGD(i j:Int):Prop:=(-(2 ^ 64) < i/\i < 2 ^ 64)\/(-(2 ^ 64) < j/\j < 2 ^ 64)
def aGD.ok{i j:Int}(h:aGD i j):IntMulOk i j:=by
 rcases h with ⟨h1,h2⟩|⟨h1,h2⟩
 · exact .of_left (intBits_le_64 h1 h2)
 · exact .of_right (intBits_le_64 h1 h2)
def aMJ:OpR X (binaryOp .Add) (rI0 fun i j=>.int (i+j)):=aMI fun _ _ _ _ _ _ _ q=>add_int q
def aMK:OpR X (binaryOp .Sub) (rI0 fun i j=>.int (i - j)):=aMI fun _ _ _ _ _ _ _ q=>sub_int q
def aML:OpR X (binaryOp .Mult) (rI aGD fun i j=>.int (i * j)):=opI fun _ _ _ _ _ _ _ a q=>mul_int q a.ok
def aMM:OpR X (binaryOp .Mod) (rI (fun _ j=>0 < j) fun i j=>.int (i % j)):=opI fun i j _ _ _ _ _ a q=>by
 have h1:(0:Int) < j:=a
 exact mod_int' (by omega) (by rw[Int.fmod_eq_emod_of_nonneg i (by omega)];exact q)
end
section
variable{X:Cx}{a b c:Expr}{ta tb tc:TE}{pos:Pos}
def xI{pins:List (Az×Obj)}{σ:St}{H:Hp}{s:S9}{Q:VK}{k a:Bool}(I:Inv X pins σ H s)(q:Q (.bl k) H)(e:k=a):EP X pins σ Q (.bool a) s:=by
 subst e
 exact ⟨.bl k,H,I,rfl,q⟩
def aPC:OpR X (compareOp .Lt) (rI0 fun i j=>.bl (decide (i < j))):=aGC fun _ _ _ _ _ _ _ q=>lt_int q
def aPD:OpR X (compareOp .LtE) (rI0 fun i j=>.bl (decide (i<=j))):=aGC fun _ _ _ _ _ _ _ q=>le_int q
def aPE:OpR X (compareOp .Gt) (rI0 fun i j=>.bl (decide (j < i))):=aGC fun _ _ _ _ _ _ _ q=>gt_int q
def aDI:OpR X (compareOp .In) (fun x y H Q=>∃ i j,x=.str i/\y=.str j/\Q (.bl (!(Builtin.Str.occurrences j i 0 j.length 1).isEmpty)) H):=by
 intro pins s σ H x y v u Q I a b h
 obtain ⟨i,j,rfl,rfl,q⟩:=h
 obtain ⟨t,rfl⟩:=a
 obtain ⟨t',rfl⟩:=b
 exact in_str (xI I q rfl)
def aMN:OpR X (compareOp .Is) (fun x y H Q=>y=.non/\Q (.bl (decide (x=.non))) H):=by
 intro pins s σ H x y v u Q I a b h
 obtain ⟨rfl,q⟩:=h
 cases b
 refine is_none_gen (xI I q ?_)
 cases x<;>first
  | (cases a;rfl)
  | (obtain ⟨t,rfl⟩:=a;rfl)
def xJ:OpR X (compareOp .NotIn) (fun x y H Q=>∃ i j,x=.str i/\y=.str j/\Q (.bl (!(!(Builtin.Str.occurrences j i 0 j.length 1).isEmpty))) H):=by
 intro pins s σ H x y v u Q I a b h
 obtain ⟨i,j,rfl,rfl,q⟩:=h
 obtain ⟨t,rfl⟩:=a
 obtain ⟨t',rfl⟩:=b
 exact notIn_str (xI I q rfl)
def bV(b:Expr){op:CmpOp}(h:op≠.In:=by decide)(h2:op≠.NotIn:=by decide):behindInMarks op b=false:=by
 have e1:(op == CmpOp.In)=false:=by cases op<;>first|rfl|exact absurd rfl h
 have e2:(op == CmpOp.NotIn)=false:=by cases op<;>first|rfl|exact absurd rfl h2
 cases b<;>simp[behindInMarks,e1,e2]
def uE{op:CmpOp}{r:R2}(k:OpR X (compareOp op) r)(f:PE X a ta)(d:PE X b tb)(i:behindInMarks op b=false):PE X (.Compare a [op] [b] pos) (tOp r ta tb):=by
 intro pins s σ H Q I h
 exact wpAny_Compare1 (aGB f d I h fun v u g x y H2 j c e q=>k pins g σ H2 x y v u Q j c e q) i
def aBX(t:TE):TT:=fun σ H Q=>t σ H fun x H'=>∃ k,x=.bl k/\Q k H'
def qE{op:CmpOp}{r:R2}(n:OpR X (compareOp op) r)(i:PE X a ta)(f:PE X b tb)(l:behindInMarks op b=false):PT X (.Compare a [op] [b] pos) (aBX (tOp r ta tb)):=by
 intro pins s σ H Q I h
 refine wpAny_isTrue_Compare1 (thn (i pins s σ H _ I h) fun v s1 ⟨x,H1,t,r1,q⟩=>thn (f pins s1 σ H1 _ t q) fun u j ⟨y,H2,m,r2,d⟩=>
  thn (n pins j σ H2 x y v u _ m r1 r2 d) fun c w ⟨z,H3,g,o,k,e,p⟩=>?_) l
 subst e
 cases o
 exact CZ ⟨H3,g,p⟩
def tChain(r r':R2)(ta tb tc:TE):TE:=fun σ H Q=>ta σ H fun x H1=>tb σ H1 fun y H2=>r x y H2 fun z H3=>∃ k,z=.bl k /\
 (if k=true then tc σ H3 fun w' H4=>r' y w' H4 Q else Q (.bl false) H3)
def aGE{op f:CmpOp}{r i:R2}(p:OpR X (compareOp op) r)(g:OpR X (compareOp f) i)(K:PE X a ta)(t:PE X b tb)(D:PE X c tc)
  (m:lastMarks [op,f] [b,c]=false:=by with_unfolding_all rfl):PE X (.Compare a [op,f] [b,c] pos) (tChain r i ta tb tc):=by
 intro pins s σ H Q I h
 refine Compare_chain (thn (K pins s σ H _ I h) fun v s1 ⟨x,H1,B,r1,F⟩=>chain_link (thn (t pins s1 σ H1 _ B F) fun u L ⟨y,H2,A,r2,G⟩=>
  thn (p pins L σ H2 x y v u _ A r1 r2 G) fun d w ⟨z,H3,j,E,k,e,l⟩=>?_)) m
 subst e
 cases E
 refine CZ ?_
 cases k with
 | false=>exact ite_ff ⟨.bl false,H3,j,rfl,l⟩
 | true=>exact ite_tt (chain_last (thn (D pins w σ H3 _ j l) fun M J ⟨o,H4,C,n,q⟩=>g pins J σ H4 y o u M Q C r2 n q))
def nU{op f:CmpOp}{r l:R2}(q:OpR X (compareOp op) r)(g:OpR X (compareOp f) l)(P:PE X a ta)(w:PE X b tb)(E:PE X c tc)
  (n:lastMarks [op,f] [b,c]=false:=by with_unfolding_all rfl):PT X (.Compare a [op,f] [b,c] pos) (aBX (tChain r l ta tb tc)):=by
 intro pins s σ H Q I h
 refine isTrue_chain (thn (P pins s σ H _ I h) fun v s1 ⟨x,H1,B,r1,J⟩=>test_link (thn (w pins s1 σ H1 _ B J) fun u R ⟨y,H2,A,r2,L⟩=>
  thn (q pins R σ H2 x y v u _ A r1 r2 L) fun d T ⟨z,H3,m,F,k,e,j⟩=>?_)) n
 subst e
 cases F
 refine CZ ?_
 cases k with
 | false=>
  obtain ⟨W,G,M⟩:=j
  cases G
  exact ite_ff ⟨H3,m,M⟩
 | true=>
  refine ite_tt (test_last (thn (E pins T σ H3 _ m j) fun S O ⟨p,H4,C,o,t⟩=>thn (g pins O σ H4 y p u S _ C r2 o t) fun d' V i=>?_))
  obtain ⟨U,H5,K,N,k2,e2,D⟩:=i
  subst e2
  cases N
  exact CZ ⟨H5,K,D⟩
def mZ:(sizeLine:Nat) < 2 ^ 63:=by rw[HV];decide
def aBY:OpR X (binaryOp .Add) (fun x y H Q=>∃ i j,x=.str i/\y=.str j/\i.length+j.length<=sizeLine/\Q (.str (i++j)) H):=by
 intro pins s σ H x y v u Q I a b h
 obtain ⟨i,j,rfl,rfl,hz,q⟩:=h
 obtain ⟨t,rfl⟩:=a
 obtain ⟨t',rfl⟩:=b
 exact add_str (fun t' tk=>⟨.str (i++j),H,I.tok _,⟨_,rfl⟩,q⟩) hz
def nV{x:V}{us:List V9}(r:bB [x] us):∃ u,us=[u]/\aY x u:=by
 cases r with
 | cons r1 r2=>cases r2;exact ⟨_,rfl,r1⟩
def qF{x y:V}{us:List V9}(r:bB [x,y] us):∃ u w',us=[u,w']/\aY x u/\aY y w':=by
 cases r with
 | cons r1 r2=>
  cases r2 with
  | cons r3 r4=>cases r4;exact ⟨_,_,rfl,r1,r3⟩
def aDJ(a:X.calm=true):gG X (.builtin "max") (fun xs H Q=>∃ i j,xs=[.int i,.int j]/\Q (.int (if j > i then j else i)) H):=by
 intro pins s σ H xs us Q I r h
 obtain ⟨i,j,rfl,q⟩:=h
 obtain ⟨u,b,rfl,⟨t,rfl⟩,⟨t',rfl⟩⟩:=qF r
 refine max_two_ints (I.ok.hd a) fun h' tk k=>⟨_,H,I.kept k,?_,q⟩
 by_cases hj:j > i
 · rw [if_pos hj, if_pos hj]; exact ⟨_, rfl⟩
 · rw [if_neg hj, if_neg hj]; exact ⟨_, rfl⟩
def aDK(a:X.calm=true):gG X (.builtin "min") (fun xs H Q=>∃ i j,xs=[.int i,.int j]/\Q (.int (if j < i then j else i)) H):=by
 intro pins s σ H xs us Q I r h
 obtain ⟨i,j,rfl,q⟩:=h
 obtain ⟨u,b,rfl,⟨t,rfl⟩,⟨t',rfl⟩⟩:=qF r
 refine min_two_ints (I.ok.hd a) fun h' tk k=>⟨_,H,I.kept k,?_,q⟩
 by_cases hj:j < i
 · rw [if_pos hj, if_pos hj]; exact ⟨_, rfl⟩
 · rw [if_neg hj, if_neg hj]; exact ⟨_, rfl⟩
def aMO(K:Frag)(x:V)(H:Hp)(n:Nat):Prop:=
 match x with
 | .str y=>y.length<=sizeLine/\n=y.length
 | .byt y=>y.size<=sizeLine/\n=y.size
 | .ref p=>(∃ xs,SqL K H p xs/\n=xs.length)\/∃ xs,SqT K H p xs/\n=xs.length
 | _=>False
def bT:gG X (.builtin "len") (fun xs H Q=>∃ x n,xs=[x]/\aMO X.K x H n/\Q (.int n) H):=by
 intro pins s σ H xs us Q I r h
 obtain ⟨x,n,rfl,e,q⟩:=h
 obtain ⟨u,rfl,d⟩:=nV r
 have i:=mZ
 have j:sizeLine=16777216:=HV
 cases x with
 | str y=>
  obtain ⟨t,rfl⟩:=d
  obtain ⟨g,b⟩:y.length<=sizeLine/\n=y.length:=e
  subst b
  exact len_str (by omega) ⟨.int _,H,I.tok _,⟨_,rfl⟩,q⟩
 | byt y=>
  obtain ⟨t,rfl⟩:=d
  obtain ⟨g,b⟩:y.size<=sizeLine/\n=y.size:=e
  subst b
  exact PySem.W.len_bytes (by omega) ⟨.int _,H,I.tok _,⟨_,rfl⟩,q⟩
 | ref p=>
  cases d
  have b:(∃ xs,SqL X.K H p xs/\n=xs.length)\/∃ xs,SqT X.K H p xs/\n=xs.length:=e
  rcases b with ⟨xs,hx,b⟩|⟨xs,hx,b⟩
  .subst b
   obtain ⟨c,f,pl,hz⟩:=I.list hx
   have a:=f.length
   exact Calls.call_len_list pl.isList (by simp only[AY];omega) ⟨.int xs.length,H,I.tok _,⟨_,by simp only[AY];rw[a]⟩,q⟩
  .subst b
   obtain ⟨c,f,pl,hz⟩:=I.tuple hx
   have a:=f.length
   exact len_tuple pl (by simp only[AY];omega) ⟨.int xs.length,H,I.tok _,⟨_,by simp only[AY];rw[a]⟩,q⟩
 | _=>exact (show False from e).elim
end
structure ObjM(h:Heap)(x dx C:Az)(mA:Str->Option V9):Prop where
 obj:h.get? x=some (PySem.W.instObj C dx)
 ns:h.Ns1 dx mA
 ne:dx≠x
def vX{h:Heap}{dx:Az}{mA:Str->Option V9}(n:h.Ns1 dx mA):∃ od,h.get? dx=some od/\∀ name,PySem.W.lookIn name od=some (mA name):=by
 obtain ⟨o,es,ep,j,c,d,_,g⟩:=n
 refine ⟨o,j,fun name=>?_⟩
 have e:=g name
 unfold nsFind findBy at e
 rw[<-Array.find?_toList] at e
 unfold PySem.W.lookIn
 rw[c]
 dsimp only
 split
 .rename_i y q
  rw[q] at e
  exact DW some e
 .rename_i q
  rw[q] at e
  have a:es.toList.any (·.refKey)=false:=by
   rw[List.any_eq_false]
   intro y i
   obtain ⟨z,t,b⟩:=d y (Array.mem_toList_iff.mp i)
   simp[DictEntry.refKey,b]
  have f:¬ es.toList.any (·.refKey)=true:=by rw[a];exact A0
  rw[if_neg f]
  exact DW some e
def ObjM.look{h:Heap}{x dx C:Az}{mA:Str->Option V9}(I:ObjM h x dx C mA):∃ od,PySem.W.InstAt h x (PySem.W.instObj C dx) C (some od)/\∀ name,PySem.W.lookIn name od=some (mA name):=
 let ⟨od,ho,hl⟩:=vX I.ns
 ⟨od,⟨I.obj,rfl,rfl,ho⟩,hl⟩
section
variable{prog:Program}{w:World}{A:Around}{E:V9->S9->Prop}{s:S9}{K:Frag}{x dx C f:Az}{mA:Str->Option V9}{name:Str}{v:V9}
end
def kS.some_of{v:V}{o:Option V9}(r:kS (some v) o):∃ u,o=some u/\aY v u:=by
 cases o with
 | none=>exact (show False from r).elim
 | some u=>exact ⟨u,rfl,r⟩
section
variable{P:Program}{w:World}{H H':Hp}{h h':Heap}{a C dx:Az}{fs fs':List (Str×V)}
def aJG(hok:HOk P w H h)(e:H a=some (.ins C dx fs)):∃ mA,ObjM h a dx C mA/\(∀ f,kS (fs.lookup f) (mA f))/\PySem.Within mA (fs.map (·.1))/\fs.length<=1000/\H dx=some (.own a):=by
 obtain ⟨d,z,ne,b,mA,n,r,q⟩:=(show b8 P w H h a (.ins C dx fs) from hok a _ e)
 exact ⟨mA,⟨b,n,ne⟩,r,q,z,d⟩
end
structure Cls(K:Frag)(C:Az):Prop where
 pg:PySem.W.plainGet K C Str.empty=true
 hd:PySem.W.hasDictIn K C=true
 po:PySem.W.plainOver K C=true
 sa:PySem.W.findIn K (.ref C) "__setattr__"=some (some (.builtin "object.__setattr__"))
def Cls.get{K:Frag}{C:Az}(c:Cls K C)(f:Str):PySem.W.plainGet K C f=true:=c.pg
structure Con(K:Frag)(C:Az)(f:Str)(v:V)(u:V9):Prop where
 at_:PySem.W.findIn K (.ref C) f=some (some u)
 rel:aY v u
 get:PySem.W.specialIn K u "__get__"=some none
 cp:PySem.W.copiedNames.contains f=false
structure Meth(K:Frag)(C:Az)(m:Str)(f:Az):Prop where
 at_:PySem.W.findIn K (.ref C) m=some (some (.ref f))
 fn:PySem.W.isFn K (.ref f)=true
 kp:PySem.W.keepIn K (.ref f)=true
section
variable{X:Cx}{pins:List (Az×Obj)}{σ:St}{H:Hp}{s:S9}{a C dx:Az}{fs:List (Str×V)}{f:Str}{v:V}{A:Around}{E:V9->S9->Prop}
end
section
variable{X:Cx}{pins:List (Az×Obj)}{σ:St}{H:Hp}{s:S9}{A:Around}{E:V9->S9->Prop}{Q:V9->S9->Prop}{c:V9}{b:Bool}
inductive TyOf(K:Frag)(H:Hp):V->V9->Prop where
 | non:TyOf K H .non (.type "NoneType")
 | bl (x:Bool):TyOf K H (.bl x) (.type "bool")
 | int (i:Int):TyOf K H (.int i) (.type "int")
 | str (x:Str):TyOf K H (.str x) (.type "str")
 | flt (x:UInt64):TyOf K H (.flt x) (.type "float")
 | lst {a:Az} {xs:List V} (e:H a=some (.lst xs)):TyOf K H (.ref a) (.type "list")
 | frz {a:Az} {o:Obj} {xs:List V} (e:H a=some (.frz o (.lst xs))):TyOf K H (.ref a) (.type "list")
 | tup {a:Az} {xs:List V} (e:H a=some (.tup xs)):TyOf K H (.ref a) (.type "tuple")
 | dK {a:Az} {kvs:List (Key×V)} (e:H a=some (.dK kvs)):TyOf K H (.ref a) (.type "dict")
 | dT {a:Az} {kvs:List (List Key×V)} (e:H a=some (.dT kvs)):TyOf K H (.ref a) (.type "dict")
 | ins {a C dx:Az} {fs:List (Str×V)} (e:H a=some (.ins C dx fs)) (cl:Cls K C) (ha:PySem.W.findIn K (.ref C) "__class__"=some (some (.builtin "object.__class__")))
  (hn:PySem.W.specialIn K (.builtin "object.__class__") "__get__"=some (some (.builtin "getset_descriptor.__get__"))) (htk:PySem.W.takesIn K (.builtin "object.__class__")=some true)
  (hm:PySem.W.mroIn K C (.type "object")=some true):TyOf K H (.ref a) (.ref C)
def aDL{x:V}{u t:V9}(I:Inv X pins σ H s)(d:aY x u)(ty:TyOf X.K H x t)(e:PySem.W.kitOne X.K t c=some b)(h:∀ tk,Q (.bool b) {s with toks:=tk}) :
  wpAny (model X.prog X.w) A (call (.builtin "isinstance") [u,c]) Q E s:=by
 cases ty with
 | non=>cases (show u=Value.none from d);exact CD PySem.W.kitx_none I.kIn True.intro e (fun z=>nomatch z) h
 | bl y=>cases (show u=Value.bool y from d);exact CD PySem.W.kitx_bool I.kIn True.intro e (fun z=>nomatch z) h
 | int i=>obtain ⟨t,q⟩:=(show ∃ t,u=Value.int i t from d);cases q;exact CD PySem.W.kitx_int I.kIn True.intro e (fun z=>nomatch z) h
 | str y=>obtain ⟨t,q⟩:=(show ∃ t,u=Value.str y t from d);cases q;exact CD PySem.W.kitx_str I.kIn True.intro e (fun z=>nomatch z) h
 | flt y=>obtain ⟨t,q⟩:=(show ∃ t,u=Value.float y t from d);cases q;exact CD PySem.W.kitx_float I.kIn True.intro e (fun z=>nomatch z) h
 | @lst a xs ea=>
  cases (show u=Value.ref a from d)
  obtain ⟨_,_,n,_,h1⟩:=(show b8 X.prog X.w H s.heap a (.lst xs) from I.hok a _ ea)
  exact CD G5 I.kIn ⟨_,h1,rfl⟩ e (fun z=>nomatch z) h
 | @frz a ob xs ea=>
  cases (show u=Value.ref a from d)
  obtain ⟨_,_,_,n,_,h1⟩:=(show b8 X.prog X.w H s.heap a (.frz ob (.lst xs)) from I.hok a _ ea)
  exact CD G5 I.kIn ⟨_,h1,rfl⟩ e (fun z=>nomatch z) h
 | @tup a xs ea=>
  cases (show u=Value.ref a from d)
  obtain ⟨_,_,_,p⟩:=(show b8 X.prog X.w H s.heap a (.tup xs) from I.hok a _ ea)
  obtain ⟨o,h1,h2,_⟩:=p
  exact CD PySem.W.kitx_tuple I.kIn ⟨o,h1,h2⟩ e (fun z=>nomatch z) h
 | @dK a kvs ea=>
  cases (show u=Value.ref a from d)
  obtain ⟨_,_,vs,_,p⟩:=(show b8 X.prog X.w H s.heap a (.dK kvs) from I.hok a _ ea)
  obtain ⟨o,es,ep,h1,h2,_⟩:=p
  exact CD PySem.W.kitx_dict I.kIn ⟨o,h1,h2.1⟩ e (fun z=>nomatch z) h
 | @dT a kvs ea=>
  cases (show u=Value.ref a from d)
  obtain ⟨_,_,xs,_,o,es,ep,h1,h2,_⟩:=(show b8 X.prog X.w H s.heap a (.dT kvs) from I.hok a _ ea)
  exact CD PySem.W.kitx_dict I.kIn ⟨o,h1,h2.1⟩ e (fun z=>nomatch z) h
 | @ins a C dx fs ea cl ha hn htk hm=>
  cases (show u=Value.ref a from d)
  obtain ⟨mA,O,_⟩:=aJG I.hok ea
  obtain ⟨od,J,_⟩:=O.look
  exact CD (PySem.W.kitx_own (cl.get _) cl.hd ha hn htk hm) I.kIn J e (fun z=>nomatch z) h
end
structure Room(k:Nat)(A:Around):Prop where
 hd:A.handled=none
 dp:A.depth+3 * k+5 < recursionLimit
 un:A.units+16 * k+200 < cLine
def Room.mono{j k:Nat}{A:Around}(r:Room k A)(h:j<=k):Room j A:=⟨r.hd,by have:=r.dp;omega,by have:=r.un;omega⟩
def Room.deeper{k:Nat}{A:Around}(r:Room (k+1) A)(env:Env):Room k (A.deeper env):=
 ⟨r.hd,by have:=r.dp;show A.depth+1+3 * k+5 < _;omega,by have:=r.un;show A.units+3+16 * k+200 < _;omega⟩
def Room.depth{k:Nat}{A:Around}(r:Room k A):A.depth < recursionLimit:=by have:=r.dp;omega
def Room.units{k:Nat}{A:Around}(r:Room k A):A.units+64 < cLine:=by have:=r.un;omega
def fO:TA:=fun _ H Q=>Q [] H
def cT(ta:TE)(tr:TA):TA:=fun σ H Q=>ta σ H fun x H1=>tr σ H1 fun xs H2=>Q (x::xs) H2
section
variable{X:Cx}{e:Expr}{es:List Expr}{te:TE}{t:TA}{pos:Pos}
def aQ:PA X [] fO:=fun _ _ _ _ H Q I h=>Calls.spliced_nil ⟨[],H,I,.nil,h⟩
def aJ(d:PE X e te)(b:PA X es t)(f:starEach (e::es) X.env=(false,eval e X.env)::starEach es X.env:=by rfl):PA X (e::es) (cT te t):=by
 intro pos pins s σ H Q I h
 rw[f]
 show wpAny _ _ (spliced ((false,eval e X.env)::backTo pos (starEach es X.env))) _ _ s
 refine Calls.spliced_cons (thn (d pins s σ H _ I h) fun u s1 a=>?_)
 obtain ⟨x,H1,j,r1,i⟩:=a
 exact thn (b pos pins s1 σ H1 _ j i) fun us k ⟨xs,H2,g,r2,c⟩=>⟨x::xs,H2,g,.cons r1 r2,c⟩
def aQP(t:TA):TE:=fun σ H Q=>t σ H fun xs H1=>xs.length<=sizeLine/\∀ p,H1 p=none->Q (.ref p) (upd H1 p (.tup xs))
def aQQ(t:TA):TE:=fun σ H Q=>t σ H fun xs H1=>xs.length<=sizeLine/\∀ p,H1 p=none->Q (.ref p) (upd H1 p (.lst xs))
def aMP{x1}(h:PA X es t):PE X (.Tuple es x1 pos) (aQP t):=by
 intro pins s σ H Q I c
 refine wpAny_Tuple_spliced (thn (h pos pins s σ H _ I c) fun us s1 ⟨xs,H1,a,r,z,q⟩=>⟨by rw[<-r.length];exact z,?_⟩)
 have d:H1 s1.heap.objs.size=none:=a.hok.fresh (AJ _)
 refine ⟨.ref s1.heap.objs.size,upd H1 s1.heap.objs.size (.tup xs),a.laid (t':=s1.toks) (fun b u e=>AE _ e) (AJ _) ?_,rfl,q _ d⟩
 exact ⟨z,us,r,⟨_,AT _ rfl,rfl,_,rfl⟩⟩
def aDM(h:PA X es t):PE X (.List es pos) (aQQ t):=by
 intro pins s σ H Q I c
 refine wpAny_List_spliced (thn (h pos pins s σ H _ I c) fun us s1 ⟨xs,H1,a,r,z,q⟩=>⟨by rw[<-r.length];exact z,?_⟩)
 have d:H1 s1.heap.objs.size=none:=a.hok.fresh (AJ _)
 refine ⟨.ref s1.heap.objs.size,upd H1 s1.heap.objs.size (.lst xs),a.laid (t':=s1.toks) (fun b u e=>AE _ e) (AJ _) ?_,rfl,q _ d⟩
 exact ⟨z,us,0,r,AT _ rfl⟩
end
abbrev Sp:=List V->Hp->VK->XK->Prop
abbrev CXT:=List Env->Hp->S9->XK->V9->S9->Prop
structure Env0(P:Program)(w:World)(K:Frag)(mg:Str->Option V9)(base:Heap)(A:Around)(outer:List Env)(s:S9)(H:Hp):Prop where
 frames:A.frames=some outer
 mod:Mod K mg base
 bs:∀ b o,base.get? b=some o->s.heap.get? b=some o/\H b=none
 bsz:base.objs.size<=s.heap.objs.size
 funs:s.heap.FunFrames base outer
 frf:∀ b∈frs outer,H b=none
 hok:HOk P w H s.heap
 bare:AllBare s.gens
def CE(outer:List Env)(P:Program)(w:World)(H:Hp)(s:S9)(Q:VK)(u:V9)(s':S9):Prop:=
 ∃ v H',s'.os=s.os/\AllBare s'.gens/\Un (frs outer) [] H H' s.heap s'.heap/\HOk P w H' s'.heap/\aY v u/\Q v H'
def CR(CX:CXT)(outer:List Env)(P:Program)(w:World)(H:Hp)(s:S9)(Q:VK)(E:XK)(r:Result)(s':S9):Prop:=
 match r with
 | .ok (.ret u)=>CE outer P w H s Q u s'
 | .ok _=>False
 | .error e=>CX outer H s E e s'
structure FnOk(P:Program)(w:World)(K:Frag)(mg:Str->Option V9)(base:Heap)(CX:CXT)(k:Nat)(f:Az)(fd:FuncData)(ps:List Str)(sp:Sp):Prop where
 len:∀ vs H Q E,sp vs H Q E->vs.length=ps.length
 run:∀ (A:Around) (outer:List Env) (s:S9) (H:Hp) (args:Args) (us:List V9) (vs:List V) (Q:VK) (E:XK),Room k A->Env0 P w K mg base A outer s H->BindsTo s fd args (ps.zip us)->bB vs us->sp vs H Q E->
  codeAny (model P w) A (.call (.ref f) args) (CR CX outer P w H s Q E) s
def FnOk.imp{P:Program}{w:World}{K:Frag}{mg:Str->Option V9}{base:Heap}{CX:CXT}{k:Nat}{f:Az}{fd:FuncData}{ps:List Str}{sp a:Sp}(F:FnOk P w K mg base CX k f fd ps sp)
  (h:∀ vs H Q E,a vs H Q E->sp vs H Q E):FnOk P w K mg base CX k f fd ps a:=
 ⟨fun vs H Q E q=>F.len vs H Q E (h _ _ _ _ q),fun A outer s H args us vs Q E b g c e d=>F.run A outer s H args us vs Q E b g c e (h _ _ _ _ d)⟩
section
variable{X:Cx}{pins:List (Az×Obj)}{σ:St}{H:Hp}{s s':S9}
def Inv.env0(I:Inv X pins σ H s):Env0 X.prog X.w X.K X.mg X.base X.A X.stack s H:=
 ⟨I.ok.frames,I.ok.mod,I.bs,A6 I.ok.bsz I.sz,I.stack,I.stkFree,I.hok,I.bare⟩
def Inv.after{Q:VK}{u:V9}(I:Inv X pins σ H s)(h:CE X.stack X.prog X.w H s Q u s'):EP X pins σ Q u s':=by
 obtain ⟨v,H',os,bare,un,hok,r,q⟩:=h
 obtain ⟨c,g,d,t,a⟩:=s'
 obtain rfl:a=s.os:=os
 exact ⟨v,H',I.call (h':=c) (g':=g) (d':=d) (t':=t) (ch:=[]) un hok bare (fun b z=>absurd z (by simp)),r,q⟩
end
def nW(sp:Sp)(dvs:List V)(E:XK)(t:TA):TE:=fun σ H Q=>t σ H fun vs H1=>sp (vs++dvs) H1 Q E
def iO(K:Frag)(fd:FuncData)(ps:List Str)(ds:List V9):Prop:=
 ∀ (s:S9) (us:List V9),K.In s.heap->(us++ds).length=ps.length->BindsTo s fd ⟨us,[]⟩ (ps.zip (us++ds))
def iO.all{K:Frag}{fd:FuncData}{ps:List Str}(h:∀ us:List V9,us.length=ps.length->bindArgs fd ⟨us,[]⟩=pure (ps.zip us)):iO K fd ps []:=fun s us _ a=>by
 rw[DC] at a ⊢
 exact .of_eq (h us a)
def lQ(CX:CXT)(X:Cx)(E:XK):Prop:=∀ (pins:List (Az×Obj)) (σ:St) (H:Hp) (s:S9) (e:V9) (s':S9),Inv X pins σ H s->CX X.stack H s E e s'->X.xe e s'
section
variable{X:Cx}{CX:CXT}{k:Nat}{f C:Az}{fd:FuncData}{ps:List Str}{sp:Sp}{dvs:List V}{ds:List V9}{E:XK}{x m:Str}{p pos apos:Pos}{e o:Expr}{es:List Expr}{ta:TE}{t:TA}
def aDN{pins:List (Az×Obj)}{σ:St}{H:Hp}{s:S9}{Q:VK}{us:List V9}{vs:List V}(F:FnOk X.prog X.w X.K X.mg X.base CX k f fd ps sp)(b:Room k X.A)(d:iO X.K fd ps ds)(g:bB dvs ds)(hx:lQ CX X E)
  (I:Inv X pins σ H s) (r:bB vs us) (h:sp (vs++dvs) H Q E):wpAny (model X.prog X.w) X.A (call (.ref f) us) (EP X pins σ Q) X.xe s:=by
 have r2:bB (vs++dvs) (us++ds):=r.append g
 have c:(us++ds).length=ps.length:=by rw[<-r2.length];exact F.len _ _ _ _ h
 refine HA (FB (F.run X.A X.stack s H ⟨us,[]⟩ (us++ds) (vs++dvs) Q E b I.env0 (d s us I.kIn c) r2 h) fun r s' a=>?_)
 cases r with
 | error e=>exact hx pins σ H s e s' I a
 | ok fl=>
  cases fl with
  | ret u=>exact I.after a
  | next=>exact False.elim a
  | brk=>exact False.elim a
  | cont=>exact False.elim a
def aJH(F:FnOk X.prog X.w X.K X.mg X.base CX k f fd ps sp)(c:Room k X.A)(m:Gl X x)(l:X.mg x=some (.ref f))(i:PySem.W.keepIn X.K (.ref f)=true)(d:iO X.K fd ps ds)(g:bB dvs ds)(hx:lQ CX X E)
  (j:PA X (e::es) t) (a:(x == ("__debug__":Str))=false:=by decide) (he:starEach (e::es) X.env=(false,eval e X.env)::starEach es X.env:=by rfl) (hpl:(backTo pos (starEach es X.env)).any (·.1)=false:=by rfl) :
  PE X (.Call (.Name x p) (e::es) [] pos) (nW sp dvs E t):=by
 intro pins s σ H Q I h
 refine CV (lD I m l ?_ a)
 refine EH (h₀:=X.base) I.ok.mod.kin i (thn (j pos pins s σ H _ I h) fun us s1 ⟨vs,H1,b,r,q⟩=>⟨b.kIn,?_⟩) he hpl
 exact aDN F c d g hx b r q
structure Mk(K:Frag)(C f:Az):Prop where
 makes:PySem.W.makesIn K C=true
 init:PySem.W.findIn K (.ref C) "__init__"=some (some (.ref f))
 fn:PySem.W.isFn K (.ref f)=true
 kp:PySem.W.keepIn K (.ref C)=true
end
section
variable{X:Cx}{CX:CXT}{k:Nat}{f C:Az}{fd:FuncData}{ps ks:List Str}{sp:Sp}{E:XK}{x m:Str}{p pos apos kpos:Pos}{e o:Expr}{es:List Expr}{kws:List Keyword}{te ta:TE}{t tk:TA}{nm:Option Str}
structure KBinds(K:Frag)(fd:FuncData)(ps ks:List Str)(g:List V9->List V9->List V9)(gV:List V->List V->List V):Prop where
 to:∀ (s:S9) (us ws:List V9),K.In s.heap->(g us ws).length=ps.length->BindsTo s fd ⟨us,ks.zip ws⟩ (ps.zip (g us ws))
 rel:∀ {vs:List V} {us:List V9} {zs:List V} {ws:List V9},bB vs us->bB zs ws->bB (gV vs zs) (g us ws)
variable{g:List V9->List V9->List V9}{gV:List V->List V->List V}
end
structure FnScope(N P:List Str)(sc:Scope):Prop where
 kind:sc.kind=.function
 co:sc.isCoroutine=false
 gen:sc.isGenerator=false
 nd:N.Nodup
 pre:N.take P.length=P
 par:∀ x∈P,sc.names.lookup x=some .local\/sc.names.lookup x=some .cell
 nofree:∀ y∈sc.names,y.2≠.free
theorem vY{a:Str->Option NameKind}{x:Str}:∀ {binds:List (Str×V9)} {m:Str->Option V9},(∀ v,(x,v)∉binds)->bindL a binds m x=m x
 | [],_,_=>rfl
 | (n,v)::r,m,h=>by
  unfold bindL
  rw[vY fun w hw=>h w (AI _ hw)]
  split
  .have:x≠n:=by rintro rfl;exact h v AQ
   simp[this]
  .rfl
theorem vZ{a:Str->Option NameKind}{x:Str}:∀ {binds:List (Str×V9)} {m:Str->Option V9},(∀ v,(x,v)∉binds)->bindC a binds m x=m x
 | [],_,_=>rfl
 | (n,v)::r,m,h=>by
  unfold bindC
  rw[vZ fun w hw=>h w (AI _ hw)]
  split
  .rfl
  .have:x≠n:=by rintro rfl;exact h v AQ
   simp[this]
theorem o3{a:Str->Option NameKind}{x:Str}{v:V9}:∀ {P:List Str} {vs:List V9} {i:Nat} {m:Str->Option V9},P.Nodup->P[i]? = some x->vs[i]? = some v->a x=some .local->
  bindL a (P.zip vs) m x=some v
 | [],_,_,_,_,h,_,_=>by simp at h
 | _::_,[],_,_,_,_,h,_=>by simp at h
 | p::P,w::vs,0,m,nd,h1,h2,hk=>by
  simp at h1 h2;subst h1;subst h2
  show bindL a ((p,w)::P.zip vs) m p=_
  unfold bindL
  rw[vY fun v hv=>(CF.mp nd).1 (E6 hv).1,if_pos hk]
  simp
 | p::P,w::vs,i+1,m,nd,h1,h2,hk=>by
  show bindL a ((p,w)::P.zip vs) m x=_
  unfold bindL
  exact o3 (i:=i) (CF.mp nd).2 (by simpa using h1) (by simpa using h2) hk
theorem o4{a:Str->Option NameKind}{x:Str}{v:V9}:∀ {P:List Str} {vs:List V9} {i:Nat} {m:Str->Option V9},P.Nodup->P[i]? = some x->vs[i]? = some v->a x≠some .local->
  bindC a (P.zip vs) m x=some v
 | [],_,_,_,_,h,_,_=>by simp at h
 | _::_,[],_,_,_,_,h,_=>by simp at h
 | p::P,w::vs,0,m,nd,h1,h2,hk=>by
  simp at h1 h2;subst h1;subst h2
  show bindC a ((p,w)::P.zip vs) m p=_
  unfold bindC
  rw[vZ fun v hv=>(CF.mp nd).1 (E6 hv).1,if_neg hk]
  simp
 | p::P,w::vs,i+1,m,nd,h1,h2,hk=>by
  show bindC a ((p,w)::P.zip vs) m x=_
  unfold bindC
  exact o4 (i:=i) (CF.mp nd).2 (by simpa using h1) (by simpa using h2) hk
def eS(N:List Str)(vs:List V):St:=vs.map some++List.replicate (N.length - vs.length) none
def iS(CX:CXT)(P:Program)(w:World)(K:Frag)(mg:Str->Option V9)(base:Heap)(N:List Str)(qual:Str)(scope:Scope)(f:Az)(cd:V9)(A:Around)(outer:List Env)(s:S9)(H:Hp)(E:XK):Cx where
 prog:=P
 w:=w
 K:=K
 mg:=mg
 base:=base
 A:=A.deeper (envOfC qual scope s.heap.objs.size f cd)
 N:=N
 s₀:=s
 H₀:=H
 env:=envOfC qual scope s.heap.objs.size f cd
 outer:=outer
 stack:=envOfC qual scope s.heap.objs.size f cd::outer
 ex:=[]
 calm:=true
 fn:=fun _=>true
 pn:=[]
 xe:=fun e s'=>wpAny (model P w) (A.deeper (envOfC qual scope s.heap.objs.size f cd)) (leaving (envOfC qual scope s.heap.objs.size f cd) e) (fun _ s''=>CX outer H s E e s'') (fun e' s''=>CX outer H s E e' s'') s'
def lR{a:Scope}{n:Nat}{x:Str}(h:a.names.lookup x=some .cell):∃ c,(cellsFrom n a.names []).lookup x=some c:=by
 have q:=HW a.names n [] (.inl h)
 exact HE.mp q
def aDO{CX:CXT}{P:Program}{w:World}{K:Frag}{mg:Str->Option V9}{base:Heap}{N ps:List Str}{qual:Str}{scope:Scope}{f:Az}{cd:V9}{A:Around}{outer:List Env}{s s1:S9}{H:Hp}{E:XK}{us:List V9}{vs:List V}
  (S:FnScope N ps scope) (B:A.handled=none) (e0:Env0 P w K mg base A outer s H) (F:vs.length=ps.length) (r:bB vs us)
  (x:InCallC s s.heap.objs.size (bindL (envOfC qual scope s.heap.objs.size f cd).kindOf (ps.zip us) fun _=>none) (cellsFrom (s.heap.objs.size+1) scope.names []) (bindC (envOfC qual scope s.heap.objs.size f cd).kindOf (ps.zip us) fun _=>none) s1) :
  Inv (iS CX P w K mg base N qual scope f cd A outer s H E) [] (eS N vs) H s1:=by
 have D:ps.length<=N.length:=by have:=DW List.length S.pre;rw[BS] at this;omega
 obtain ⟨h1,tk,rfl,m⟩:=x.done
 have d:∀ b:Az,b∉(iS CX P w K mg base N qual scope f cd A outer s H E).ex:=fun b z=>absurd (show b∈([]:List Az) from z) (by simp)
 refine ⟨⟨e0.mod,S.kind,rfl,rfl,AJ _,fun y z c h1 h2=>?_,fun y g=>?_,fun y c _ h=>?_,fun _=>B,Around.frames_deeper e0.frames,.inr ⟨rfl,rfl⟩,fun b z=>absurd z (d b),e0.bs,e0.bsz,fun b _ _=>d b,fun b z=>absurd z (d b),e0.funs,e0.frf⟩,
  rfl,e0.bare,Un.kept m,⟨_,x.toInCall.ns,fun i y v h1 h2 G=>?_⟩,fun y c h=>⟨_,x.cell y c h⟩,e0.hok.fresh (AJ _),fun y c h=>?_,fun p l=>absurd (show p∈([]:List (Az×Obj)) from l) (by simp),e0.hok.kept m,?_⟩
 .exact name_of_addr x.apart (BB h1) (BB h2)
 .have g:scope.names.lookup y=some .cell\/scope.names.lookup y=some .free:=g
  rcases g with g|g
  .exact lR g
  .exact absurd rfl (S.nofree _ (BB g))
 .exact BU (x.above y c (BB h))
 .have hi:i < vs.length:=by
   unfold eS at h2
   by_cases hi:i < vs.length
   .exact hi
   .rw[CL (by simpa using hi)] at h2
    rw[FE] at h2
    split at h2<;>cases h2
  have C:vs[i]? = some v:=by
   unfold eS at h2
   rw[BM (by simpa using hi),AN] at h2
   cases e:vs[i]? with
   | none=>rw[e] at h2;cases h2
   | some a=>rw[e] at h2;cases h2;rfl
  obtain ⟨u,o,t⟩:=r.get C
  have l:ps[i]? = some y:=by
   rw[<-S.pre,FC (by omega)];exact h1
  have j:ps.Nodup:=by rw[<-S.pre];exact S.nd.sublist (List.take_sublist _ _)
  refine ⟨u,t,?_⟩
  rcases S.par y (AU l) with k|k
  .exact .inl ⟨k,o3 j l o k⟩
  .obtain ⟨c,e⟩:=lR (n:=s.heap.objs.size+1) k
   refine .inr ⟨.inl k,c,e,?_⟩
   have q:=x.cell y c e
   rw[o4 j l o (by show scope.names.lookup y≠_;rw[k];decide)] at q
   exact q
 .exact e0.hok.fresh (BU (x.above y c (BB h)))
 .unfold eS
  show _=N.length
  rw[BD,AC,EN]
  omega
def aBZ{CX:CXT}{P:Program}{w:World}{K:Frag}{mg:Str->Option V9}{base:Heap}{k:Nat}{f:Az}{name qual:Str}{params:Arguments}{body:List Stmt}{scope:Scope}{C kV doc pm a ct G:V9}{F od:Option Az}
  {B:Array (Option V9)} {N ps:List Str} {sp:Sp} (T:K.lookup f=some ⟨G,od,.func (PySem.W.fnOf name qual params body scope C kV doc pm F a ct),B⟩) (l:PySem.W.codeIn K a qual=true) (S:FnScope N ps scope)
  (len:∀ vs H Q E,sp vs H Q E->vs.length=ps.length)
  (g:∀ (A:Around) (outer:List Env) (s:S9) (H:Hp) (vs:List V) (Q:VK) (E:XK),Room k (A.deeper (envOfC qual scope s.heap.objs.size f a))->sp vs H Q E->
   ∃ t,PSs (iS CX P w K mg base N qual scope f a A outer s H E) body t/\t {nx:=fun _ H'=>Q .non H',rt:=Q} (eS N vs) H) :
  FnOk P w K mg base CX (k+1) f (PySem.W.fnOf name qual params body scope C kV doc pm F a ct) ps sp:=by
 refine ⟨len,fun A outer s H args us vs Q E p e0 M r i=>?_⟩
 have L:=len _ _ _ _ i
 have D:K.In s.heap:=e0.mod.kin.keeps fun b o e=>(e0.bs b o e).1
 have z:s.heap.NoLimit:=e0.mod.nolimit.keeps fun b o e=>(e0.bs b o e).1
 have d:∀ y∈ps.zip us,scope.names.lookup y.1=some .local\/(scope.names.lookup y.1=some .cell/\((cellsFrom (s.heap.objs.size+1) scope.names []).lookup y.1).isSome=true):=fun m R=>by
  obtain ⟨n,v⟩:=m
  rcases S.par n (E6 R).1 with q|q
  .exact .inl q
  .exact .inr ⟨q,HW _ _ _ (.inl q)⟩
 refine codeAny_call_function p.depth (D _ _ T) rfl S.co S.gen rfl (PySem.W.codeRec_of D l) (M _ _ _ _ ?_)
 refine wpAny_newFunctionEnv_cells S.kind d fun env Y s1 x=>?_
 subst Y
 refine ⟨z.keeps x.toInCall.keep,codeAny_func ?_⟩
 obtain ⟨t,U,X⟩:=g A outer s H vs Q E (p.deeper _) i
 have I:Inv (iS CX P w K mg base N qual scope f a A outer s H E) [] (eS N vs) H s1:=aDO S p.hd e0 L r x
 refine BX (U [] s1 (eS N vs) H _ I X) (fun O s' h=>?_) fun e s' h=>h
 have fin:∀ {c:St} {H':Hp} {v:V} {u:V9},Inv (iS CX P w K mg base N qual scope f a A outer s H E) [] c H' s'->aY v u->Q v H'->CE outer P w H s Q u s':=
  fun {c H' v u} J j q=>⟨v,H',J.os,J.bare,J.base,J.hok,j,q⟩
 cases O with
 | ret u=>
  obtain ⟨v,c,H',J,j,q⟩:=h
  exact fin J j q
 | next=>
  obtain ⟨c,H',J,q⟩:=h
  exact fin (v:=V.non) (u:=Value.none) J rfl q
 | brk=>
  obtain ⟨_,_,_,q⟩:=h
  exact False.elim q
 | cont=>
  obtain ⟨_,_,_,q⟩:=h
  exact False.elim q
section
variable{X:Cx}{x:Str}{p pos:Pos}{e:Expr}{es:List Expr}{t:TA}{id T:String}{r:List V->Hp->VK->Prop}
def tCB(r:List V->Hp->VK->Prop)(t:TA):TE:=fun σ H Q=>t σ H fun vs H1=>r vs H1 Q
def bG(f:gG X (.builtin id) r)(g:Gl X x)(c:X.mg x=none)(d:bootBuiltins x=some (.builtin id))(b:PA X (e::es) t)(a:x≠"__name__":=by decide)(hdb:(x == ("__debug__":Str))=false:=by decide)
  (he:starEach (e::es) X.env=(false,eval e X.env)::starEach es X.env:=by rfl) (hpl:(backTo pos (starEach es X.env)).any (·.1)=false:=by rfl):PE X (.Call (.Name x p) (e::es) [] pos) (tCB r t):=by
 intro pins s σ H Q I h
 refine CV (jQ I g c d ?_ a hdb)
 exact PyProof.Rows.callWith_builtin1 (thn (b pos pins s σ H _ I h) fun us s1 ⟨vs,H1,j,r1,i⟩=>f pins s1 σ H1 vs us Q j r1 i) he hpl
def eU(f:gG X (.type T) r)(g:Gl X x)(c:X.mg x=none)(d:bootBuiltins x=some (.type T))(b:PA X (e::es) t)(a:x≠"__name__":=by decide)(hdb:(x == ("__debug__":Str))=false:=by decide)
  (he:starEach (e::es) X.env=(false,eval e X.env)::starEach es X.env:=by rfl) (hpl:(backTo pos (starEach es X.env)).any (·.1)=false:=by rfl):PE X (.Call (.Name x p) (e::es) [] pos) (tCB r t):=by
 intro pins s σ H Q I h
 refine CV (jQ I g c d ?_ a hdb)
 exact CJ (thn (b pos pins s σ H _ I h) fun us s1 ⟨vs,H1,j,r1,i⟩=>f pins s1 σ H1 vs us Q j r1 i) he hpl
end
end L2
namespace HT
open PySem PyProof.Rows
def aGF(A:Around)(s:S9)(a:Int)(t:Tok)(c:Int)(u:Tok):∃ e,SeqAt.EqAt A s (.int a t) (.int c u) e/\(e=true↔a=c):=
 ⟨(a == c),SeqAt.EqAt.int_int a t c u,by simp⟩
section
open PySem.SeqAt
open PySem.AutoSeq1 (wpAny_loadPart')
open PySem.MeetsSeq PySem.MeetsSeq2 PySem.MeetsSeq3
end
section
variable{prog:Program}{w:World}{A:Around}{E:V9->S9->Prop}{s:S9}
def aJI{t b:Az}{vs ws:List V9}{Q:V9->S9->Prop}(o:IsTup s.heap t vs.toArray)(p:IsTup s.heap b ws.toArray)(l:vs≠[])
  (h1:ws=[]->Q (.ref t) s) (h2:ws≠[]->Q (.ref s.heap.objs.size) {s with heap:=s.heap.push {cls:=.type "tuple",data:=.seq (vs++ws).toArray}})
  (hsz:vs.length+ws.length<=sizeLine):wpAny (model prog w) A (binaryOp .Add (.ref t) (.ref b)) Q E s:=by
 obtain ⟨⟨cls,dd,data,sl⟩,h,m,n,k⟩:=id o
 obtain ⟨⟨j,g,i,c⟩,a,d,n2,f⟩:=id p
 simp only at m k d f
 subst m k d f
 have e:vs.toArray++ws.toArray=(vs++ws).toArray:=by simp
 by_cases hw:ws=[]
 .exact concat_meets ⟨_,h,rfl⟩ ⟨_,a,rfl⟩ noFill_tuple_add seq_tuple_add HX HP (HF _ _)
   (tuple_addW1 t b vs.toArray ws.toArray n n2 dd g sl c (by simpa using l) (by simp[hw])) ⟨h,a,h1 hw⟩
 .refine concat_meets ⟨_,h,rfl⟩ ⟨_,a,rfl⟩ noFill_tuple_add seq_tuple_add HX HP (HF _ _)
   (tuple_addW2 t b vs.toArray ws.toArray n n2 dd g sl c (by simpa using l) (by simpa using hw) (by rw[AY,AY];exact hsz)) ⟨h,a,?_⟩
  rw[e]
  exact h2 hw
def sIx(n d:Nat):Option Int->Nat
 | none=>d
 | some v=>if v < 0 then (v+(n:Int)).toNat else min v.toNat n
def xK(n d:Nat):sIx n d none=d:=rfl
def aAD(n d k:Nat):sIx n d (some (k:Int))=min k n:=by
 show (if (k:Int) < 0 then ((k:Int)+(n:Int)).toNat else min (k:Int).toNat n)=min k n
 rw[if_neg (by omega),CS]
def aMQ(n d:Nat)(a:d<=n)(o:Option Int):sIx n d o<=n:=by
 cases o with
 | none=>exact a
 | some v=>
  show (if v < 0 then (v+(n:Int)).toNat else min v.toNat n)<=n
  by_cases hv:v < 0
  · rw [if_pos hv]; omega
  · rw [if_neg hv]; exact Nat.min_le_right _ _
def aAE(v:Int)(n d:Nat):(if v < 0 then max (v+(n:Int)) 0 else min v (n:Int))=((sIx n d (some v):Nat):Int):=by
 show (if v < 0 then max (v+(n:Int)) 0 else min v (n:Int))=(((if v < 0 then (v+(n:Int)).toNat else min v.toNat n):Nat):Int)
 by_cases hv:v < 0
 · simp only [if_pos hv]; omega
 · simp only [if_neg hv]; omega
def aB0(lo hi:Option Int)(n:Nat):Builtin.Slice.sliceAdjust lo hi 1 (n:Int)=(((sIx n 0 lo:Nat):Int),((sIx n n hi:Nat):Int)):=by
 have h1:¬ ((1:Int) < 0):=by omega
 unfold Builtin.Slice.sliceAdjust
 simp only[h1,DG]
 refine Prod.ext ?_ ?_
 .cases lo with
  | none=>rfl
  | some v=>exact aAE v n 0
 .cases hi with
  | none=>rfl
  | some v=>exact aAE v n n
def aB1(i j:Nat):Builtin.Slice.slicePlaces (i:Int) (j:Int) 1=j - i:=by
 unfold Builtin.Slice.slicePlaces
 have h1:(1:Int) > 0:=by omega
 simp only[h1,if_true,Int.ediv_one]
 split<;>omega
def sQ{v:V9}{o:Option Int}{Q:Option Int->S9->Prop}(p:IsPart v o)(h:Q o s):wpAny (model prog w) A (Builtin.Slice.slicePartIndex v) Q E s:=by
 cases p with
 | none=>exact slicePart_none h
 | int i t=>exact slicePart_int h
def rN{sl:Az}{c d:V9}{lo hi:Option Int}{n:Nat}{Q:Int×Int×Nat->S9->Prop}(g:s.heap.IsSliceOf sl c d .none)(pl:IsPart c lo)(e:IsPart d hi)
  (h:Q (((sIx n 0 lo:Nat):Int),1,sIx n n hi - sIx n 0 lo) s):wpAny (model prog w) A (Builtin.Slice.sliceApplied (.ref sl) (pure (n:Int))) Q E s:=by
 obtain ⟨os,a,f,b⟩:=id g
 unfold Builtin.Slice.sliceApplied Builtin.Slice.sliceFields
 refine AB (AB (BJ a b (x:=c) rfl (AB (BJ a b (x:=d) rfl (AB (BJ a b (x:=.none) rfl (AD ?_)))))))
 refine AB (slicePart_none ?_)
 show wpAny _ _ (if ((1:Int) == 0)=true then _ else _) _ _ s
 rw[if_neg (by decide)]
 refine AB (sQ pl (AB (sQ e (AB (AD ?_)))))
 show wpAny _ _ (match Builtin.Slice.sliceAdjust lo hi 1 (n:Int) with|(lo,hi)=>pure (lo,(1:Int),Builtin.Slice.slicePlaces lo hi 1)) _ _ s
 rw[aB0 lo hi n]
 show wpAny _ _ (pure (((sIx n 0 lo:Nat):Int),(1:Int),Builtin.Slice.slicePlaces ((sIx n 0 lo:Nat):Int) ((sIx n n hi:Nat):Int) 1)) _ _ s
 rw[aB1]
 exact AD h
def aGG(xs:Array V9)(i k:Nat):((List.range k).filterMap fun (m:Nat)=>xs[((i:Int)+(m:Int) * 1).toNat]?).toArray=((xs.toList.drop i).take k).toArray:=by
 have e:(fun (m:Nat)=>xs[((i:Int)+(m:Int) * 1).toNat]?)=fun m=>xs[i+m]?:=by
  funext m
  have:((i:Int)+(m:Int) * 1).toNat=i+m:=by omega
  rw[this]
 rw[e]
 have:=pick_run xs i k
 rw[List.filterMap_map] at this
 have e2:((fun x=>xs[x]?)∘fun x=>i+x)=fun m=>xs[i+m]?:=rfl
 rw[e2] at this
 rw[this]
def qV{t sl:Az}{items:Array V9}{g i:V9}{lo hi:Option Int}{Q:V9->S9->Prop}(b:IsTup s.heap t items)(j:s.heap.IsSliceOf sl g i .none)(pl:IsPart g lo)(k:IsPart i hi)
  (hw:¬ (sIx items.size 0 lo=0/\sIx items.size items.size hi=items.size))
  (h:Q (.ref s.heap.objs.size) {s with heap:=s.heap.push {cls:=.type "tuple",data:=.seq ((items.toList.drop (sIx items.size 0 lo)).take (sIx items.size items.size hi - sIx items.size 0 lo)).toArray}})
  (hsz:items.size<=sizeLine):wpAny (model prog w) A (getItem (.ref t) (.ref sl)) Q E s:=by
 have a:sizeOk (.seq ((items.toList.drop (sIx items.size 0 lo)).take (sIx items.size items.size hi - sIx items.size 0 lo)).toArray):=by
  show ((items.toList.drop (sIx items.size 0 lo)).take (sIx items.size items.size hi - sIx items.size 0 lo)).toArray.size<=sizeLine
  rw[AY,BS,FS,DD]
  omega
 have o:sIx items.size items.size hi<=items.size:=aMQ _ _ (AJ _) hi
 obtain ⟨os,d,e,l⟩:=id j
 have c:s.TypeIs (.ref sl) "slice":=⟨os,d,e⟩
 unfold getItem
 try with_reducible refine B0 ?_
 first|refine AB (AD ?_)|skip
 refine AB (wpAny_sequenceKey b.typeIs (by decide) ?_)
 refine AB (BT (name:=Str.ofString "__getitem__") b.typeIs EF
  (B7 EF b.typeIs entry_tuple_getitem ?_ (args_tuple_getitem _ _)))
 show wpAny _ _ (Builtin.Tuple.tupleItemsOf (.ref t) >>= _) _ _ s
 refine AB (tupleItemsOf_ b ?_)
 refine AB (HG c ?_)
 rw[if_pos (by decide)]
 refine AB (rN j pl k ?_)
 have f:¬ ((((sIx items.size 0 lo:Nat):Int) == 0 && (1:Int) == 1 && (sIx items.size items.size hi - sIx items.size 0 lo) == items.size)=true):=by
  intro q
  rw[AM,AM] at q
  have p:((sIx items.size 0 lo:Nat):Int)=0:=FY q.1.1
  have n:sIx items.size items.size hi - sIx items.size 0 lo=items.size:=FY q.2
  exact hw ⟨by omega,by omega⟩
 show wpAny _ _ (if (((sIx items.size 0 lo:Nat):Int) == 0 && (1:Int) == 1 && (sIx items.size items.size hi - sIx items.size 0 lo) == items.size)=true then _ else _) _ _ s
 rw[if_neg f,aGG]
 first
  | exact AB (m:=Builtin.Tuple.tupleExact _) (CK (AD ⟨_,rfl,AD h⟩) a)
  | exact AB (m:=Builtin.Tuple.tupleExact _) (CK (AB (AD (AD ⟨_,rfl,AD h⟩))) a)
  | exact AB (AB (m:=Builtin.Tuple.tupleExact _) (CK (AD (AD ⟨_,rfl,AD h⟩)) a))
  | exact AB (AB (m:=Builtin.Tuple.tupleExact _) (CK (AD ⟨_,rfl,AD h⟩) a))
end
end HT
namespace L2
open PySem PySem.Spec PyProof.Rows
abbrev TO:=St->Hp->(Option Int->Hp->Prop)->Prop
def PO(X:Cx)(e:Option Expr)(t:TO):Prop:=
 ∀ (pins:List (Az×Obj)) (s:S9) (σ:St) (H:Hp) (Q:Option Int->Hp->Prop),Inv X pins σ H s->t σ H Q->
  wpAny (model X.prog X.w) X.A (evalPart e X.env) (fun u s'=>∃ o H',Inv X pins σ H' s'/\IsPart u o/\Q o H') X.xe s
def aJJ:TO:=fun _ H Q=>Q none H
def aPF(t:TE):TO:=fun σ H Q=>t σ H fun x H1=>∃ i,x=.int i/\Q (some i) H1
section
variable{X:Cx}{e:Expr}{te:TE}{lo hi:Option Expr}{tl th:TO}{pos p2:Pos}
def aJK:PO X none aJJ:=by
 intro pins s σ H Q I h
 rw[evalPart_none]
 exact AD ⟨none,H,I,.none,h⟩
def aJL(h:PE X e te):PO X (some e) (aPF te):=by
 intro pins s σ H Q I hw
 rw[evalPart_some]
 refine thn (h pins s σ H _ I hw) fun u s1 a=>?_
 obtain ⟨x,H1,c,r1,b⟩:=a
 obtain ⟨i,rfl,q⟩:=b
 obtain ⟨t,rfl⟩:=r1
 exact ⟨some i,H1,c,.int i t,q⟩
def SlR(X:Cx)(r:V->Option Int->Option Int->Hp->VK->Prop):Prop:=
 ∀ (pins:List (Az×Obj)) (s:S9) (σ:St) (H:Hp) (x:V) (v vl vu:V9) (lo hi:Option Int) (sl:Az) (Q:VK),Inv X pins σ H s->aY x v->s.heap.IsSliceOf sl vl vu .none->IsPart vl lo->IsPart vu hi->r x lo hi H Q->
  ∃ T id,typeLookup (.type T) "__getitem__"=pure (some (.builtin id))/\s.TypeIs v T/\wpAny (model X.prog X.w) X.A (getItem v (.ref sl)) (EP X pins σ Q) X.xe s
def tSl(r:V->Option Int->Option Int->Hp->VK->Prop)(te:TE)(tl th:TO):TE:=fun σ H Q=>te σ H fun x H1=>tl σ H1 fun l H2=>th σ H2 fun u H3=>r x l u H3 Q
def aGH{r:V->Option Int->Option Int->Hp->VK->Prop}(B:SlR X r)(g:PE X e te)(i:PO X lo tl)(y:PO X hi th):PE X (.Subscript e (.Slice lo hi none p2) pos) (tSl r te tl th):=by
 intro pins s σ H Q I h
 refine Subscript_ (thn (g pins s σ H _ I h) fun v s1 c=>?_)
 obtain ⟨x,H1,p,r1,z⟩:=c
 refine wpAny_Slice (thn (i pins s1 σ H1 _ p z) fun f E ⟨l,H2,m,pl,C⟩=>thn (y pins E σ H2 _ m C) fun d a c=>?_)
 obtain ⟨u,H3,k,j,F⟩:=c
 rw[evalPart_none]
 refine AD ?_
 have t:Inv X pins σ H3 {a with heap:=a.heap.push {cls:=.type "slice",data:=.fields #[f,d,.none]}}:=k.kept (t':=a.toks) fun b G q=>AE _ q
 obtain ⟨T,id,n,D,o⟩:=B pins {a with heap:=a.heap.push {cls:=.type "slice",data:=.fields #[f,d,.none]}} σ H3 x v f d l u a.heap.objs.size Q t r1 (Heap.IsSliceOf.new ..) pl j F
 show wpAny (model X.prog X.w) X.A (subscriptTail e (.Slice lo hi none p2) v (.ref a.heap.objs.size)) (EP X pins σ Q) X.xe {a with heap:=a.heap.push {cls:=.type "slice",data:=.fields #[f,d,.none]}}
 exact tail_any (ops:=[.ref a.heap.objs.size,v]) D n o (by with_unfolding_all rfl)
def o5(xs:List V)(lo hi:Option Int):List V:=(xs.drop (HT.sIx xs.length 0 lo)).take (HT.sIx xs.length xs.length hi - HT.sIx xs.length 0 lo)
def rD(xs:List V)(lo hi:Option Int):(o5 xs lo hi).length<=xs.length:=by
 unfold o5
 rw[BS,FS]
 omega
def aQR(K:Frag):V->Option Int->Option Int->Hp->VK->Prop:=fun x lo hi H Q=>∃ a xs,x=.ref a/\SqT K H a xs /\
 ¬ (HT.sIx xs.length 0 lo=0/\HT.sIx xs.length xs.length hi=xs.length)/\∀ p,H p=none->Q (.ref p) (upd H p (.tup (o5 xs lo hi)))
def aMR:SlR X (aQR X.K):=by
 intro pins s σ H x v j k lo hi sl Q I f i pl g h
 obtain ⟨a,xs,rfl,hx,hw,q⟩:=h
 cases f
 obtain ⟨d,r,e,hz⟩:=I.tuple hx
 have c:d.toArray.size=xs.length:=by rw[AY];exact r.length.symm
 refine ⟨"tuple",_,EF.lookup,e.typeIs,?_⟩
 refine HT.qV e i pl g (by rw[c];exact hw) ?_ (by rw[c];exact hz)
 rw[c]
 refine ⟨.ref s.heap.objs.size,_,I.laid (t':=s.toks) (o:=.tup (o5 xs lo hi)) (fun b l q=>AE _ q) (AJ _) ?_,rfl,q _ (I.hok.fresh (AJ _))⟩
 exact ⟨A6 (rD xs lo hi) hz,_,(r.drop (HT.sIx xs.length 0 lo)).take (HT.sIx xs.length xs.length hi - HT.sIx xs.length 0 lo),IsTup.new _ _⟩
def aPG(K:Frag):R2:=fun x y H Q=>∃ a b xs ys,x=.ref a/\y=.ref b/\SqT K H a xs/\SqT K H b ys/\xs≠[]/\xs.length+ys.length<=sizeLine /\
 (ys=[]->Q (.ref a) H)/\(ys≠[]->∀ p,H p=none->Q (.ref p) (upd H p (.tup (xs++ys))))
def bB.nil_iff{xs:List V}{us:List V9}(r:bB xs us):us=[]↔xs=[]:=by
 cases r with
 | nil=>simp
 | cons _ _=>simp
def aJM:OpR X (binaryOp .Add) (aPG X.K):=by
 intro pins s σ H x y v u Q I f i h
 obtain ⟨a,b,xs,ys,rfl,rfl,k,j,hx,hz,l,e⟩:=h
 cases f
 cases i
 obtain ⟨d,r1,g,_⟩:=I.tuple k
 obtain ⟨c,r2,p2,_⟩:=I.tuple j
 refine HT.aJI g p2 (fun z=>hx (r1.nil_iff.mp z)) (fun z=>⟨.ref a,H,I,rfl,l (r2.nil_iff.mp z)⟩) (fun z=>?_) (by rw[<-r1.length,<-r2.length];exact hz)
 refine ⟨.ref s.heap.objs.size,_,I.laid (t':=s.toks) (o:=.tup (xs++ys)) (fun b m q=>AE _ q) (AJ _) ?_,rfl,e (fun w=>z (r2.nil_iff.mpr w)) _ (I.hok.fresh (AJ _))⟩
 exact ⟨by rw[BD];exact hz,_,r1.append r2,IsTup.new _ _⟩
end
def ixN(n:Nat)(i:Int):Option Nat:=if 0<=i then (if i < n then some i.toNat else none) else if -(n:Int)<=i then some (i+n).toNat else none
def atI{α:Type}(xs:List α)(i:Int):Option α:=(ixN xs.length i).bind fun j=>xs[j]?
def aAF{n:Nat}{i:Int}{j:Nat}(h:ixN n i=some j):seqIndex? i n=some j/\j < n /\ -(n:Int)<=i/\i < n:=by
 unfold ixN at h
 by_cases h0:0<=i
 .rw[if_pos h0] at h
  by_cases h1:i < n
  .rw[if_pos h1] at h
   have e:i.toNat=j:=BZ h
   exact ⟨by rw[seqIndex_of h0 h1,e],by omega,by omega,h1⟩
  .rw[if_neg h1] at h;cases h
 .rw[if_neg h0] at h
  by_cases h1 : -(n:Int)<=i
  .rw[if_pos h1] at h
   have e:(i+n).toNat=j:=BZ h
   exact ⟨by rw[seqIndex_neg (by omega) h1,e],by omega,h1,by omega⟩
  .rw[if_neg h1] at h;cases h
def uF{α:Type}{xs:List α}{i:Int}{v:α}(h:atI xs i=some v):∃ j,seqIndex? i xs.length=some j/\xs[j]? = some v/\j < xs.length /\ -(xs.length:Int)<=i/\i < xs.length:=by
 unfold atI at h
 cases e:ixN xs.length i with
 | none=>rw[e] at h;cases h
 | some j=>
  rw[e] at h
  obtain ⟨h1,h2,a,b⟩:=aAF e
  exact ⟨j,h1,h,h2,a,b⟩
def dU{α:Type}{xs:List α}{j:Nat}{v:α}(h:xs[j]? = some v):atI xs (j:Int)=some v:=by
 have a:j < xs.length:=(AG.mp h).1
 have e:ixN xs.length (j:Int)=some j:=by
  unfold ixN
  rw[if_pos (by omega),if_pos (by omega)];simp
 unfold atI;rw[e];exact h
def aAG(b:Expr):Prop:=∀ o i,subscripted b false o i=operate [o,i] (getItem o i)
def IxR(X:Cx)(r:R2):Prop:=
 ∀ (value slice:Expr) (pins:List (Az×Obj)) (s:S9) (σ:St) (H:Hp) (x y:V) (v u:V9) (Q:VK),Inv X pins σ H s->aY x v->aY y u->r x y H Q->
  subscripted slice false v u=operate [v,u] (getItem v u)->wpAny (model X.prog X.w) X.A (subscriptTail value slice v u) (EP X pins σ Q) X.xe s
def MtR(X:Cx)(id:String)(r:V->List V->Hp->VK->Prop):Prop:=
 ∀ (pins:List (Az×Obj)) (s:S9) (σ:St) (H:Hp) (x:V) (xs:List V) (v:V9) (us:List V9) (Q:VK),Inv X pins σ H s->aY x v->bB xs us->r x xs H Q->
  wpAny (model X.prog X.w) X.A (call (.builtin id) (v::us)) (EP X pins σ Q) X.xe s
section
variable{X:Cx}{a b:Expr}{ta tb:TE}{pos:Pos}
def IxR.or{r f:R2}(h:IxR X r)(h':IxR X f):IxR X (fun x y H Q=>r x y H Q\/f x y H Q):=by
 intro a b pins s σ H x y v u Q I c d q e
 rcases q with q|q
 · exact h a b pins s σ H x y v u Q I c d q e
 · exact h' a b pins s σ H x y v u Q I c d q e
def aB2{r:R2}(c:IxR X r)(g:PE X a ta)(e:PE X b tb)(j:aAG b):PE X (.Subscript a b pos) (tOp r ta tb):=by
 intro pins s σ H Q I h
 exact Subscript_ (aGB g e I h fun v u i x y H2 k d f q=>c a b pins i σ H2 x y v u Q k d f q (j _ _))
def aMS(K:Frag):R2:=fun x y H Q=>∃ p xs i v,x=.ref p/\y=.int i/\SqL K H p xs/\atI xs i=some v/\Q v H
def aMT(K:Frag):R2:=fun x y H Q=>∃ p xs i v,x=.ref p/\y=.int i/\SqT K H p xs/\atI xs i=some v/\Q v H
def aMU:R2:=fun x y H Q=>∃ z i c,x=.str z/\y=.int i/\z.length<=sizeLine/\atI z.cps.toList i=some c/\Q (.str ⟨#[c]⟩) H
def aAH:IxR X (aMS X.K):=by
 intro c d pins s σ H x y v u Q I m n h f
 obtain ⟨p,xs,i,z,rfl,rfl,o,B,q⟩:=h
 cases m
 obtain ⟨t,rfl⟩:=n
 obtain ⟨a,r,pl,hz⟩:=I.list o
 obtain ⟨j,h1,h2,D,l,A⟩:=uF B
 obtain ⟨w,g,b⟩:=r.get h2
 have k:=r.length
 have C:=mZ
 have fin:EP X pins σ Q w s:=⟨z,H,I,b,q⟩
 by_cases h0:0<=i
 .have e:i.toNat=j:=by
   rw[seqIndex_of h0 A] at h1
   exact BZ h1
  exact item_listR pl.isList h0 (by omega) (by rw[e];simpa using g) fin f
 .have e:(i+(a.toArray.size:Int)).toNat=j:=by
   rw[seqIndex_neg (by omega) l] at h1
   rw[AY,<-k]
   exact BZ h1
  exact subscriptTail_builtinR (x:=w) pl.isList.typeIs slot_list_getitem.lookup
   (wpAny_getItem_list_neg (Q:=fun r s'=>r=w/\EP X pins σ Q r s') pl.isList (by omega) (by rw[AY]<;>omega) (by omega) (by rw[e];simpa using g) ⟨rfl,fin⟩) f
def aDP:IxR X (aMT X.K):=by
 intro b c pins s σ H x y v u Q I f g h l
 obtain ⟨p,xs,i,z,rfl,rfl,k,n,q⟩:=h
 cases f
 obtain ⟨t,rfl⟩:=g
 obtain ⟨e,r,pl,hz⟩:=I.tuple k
 obtain ⟨j,h1,h2,C,o,B⟩:=uF n
 obtain ⟨w,m,a⟩:=r.get h2
 have d:=r.length
 have A:=mZ
 have fin:EP X pins σ Q w s:=⟨z,H,I,a,q⟩
 exact subscriptTail_builtinR (x:=w) pl.typeIs slot_tuple_getitem.lookup
  (getItem_tuple (j:=j) (Q:=fun r s'=>r=w/\EP X pins σ Q r s') pl (by omega) (by omega) (by rw[AY,<-d];exact h1) (by simpa using m) ⟨rfl,fin⟩) l
def aDQ:IxR X aMU:=by
 intro a b pins s σ H x y v u Q I f g h l
 obtain ⟨z,i,c,rfl,rfl,hz,m,q⟩:=h
 obtain ⟨t,rfl⟩:=f
 obtain ⟨t',rfl⟩:=g
 obtain ⟨j,h1,h2,o,e,k⟩:=uF m
 have d:z.cps.toList.length=z.length:=by simp[Str.length]
 rw[d] at h1 e k
 have n:=mZ
 exact tail_any (typeIs_str s z t) slot_str_getitem.lookup (getItem_str (c:=c) (by
  have e1:decide (i < -(2 ^ 63:Int))=false:=AZ (by omega)
  have e2:decide (i>=2 ^ 63)=false:=AZ (by omega)
  rw[e1,e2,Bool.or_false]) (by rw[h1];simpa using h2) ⟨.str ⟨#[c]⟩,H,I.tok _,⟨_,rfl⟩,q⟩) l
def rIx(K:Frag):R2:=fun x y H Q=>aMS K x y H Q\/aMT K x y H Q\/aMU x y H Q
def aDR:IxR X (rIx X.K):=aAH.or (aDP.or aDQ)
def aB3(a:List V9)(n j:Nat)(u:V9):Obj.mapSeq (·.setIfInBounds j u) {cls:=.type "list",data:=.seq a.toArray n}={cls:=.type "list",data:=.seq (a.set j u).toArray n}:=by
 simp[Obj.mapSeq]
def Inv.lst{pins:List (Az×Obj)}{σ:St}{H:Hp}{s:S9}{p:Az}{xs:List V}(I:Inv X pins σ H s)(h:H p=some (.lst xs)) :
  ∃ (its:List V9) (n:Nat),bB xs its/\s.heap.get? p=some {cls:=.type "list",data:=.seq its.toArray n}/\xs.length<=sizeLine:=by
 obtain ⟨z,its,n,r,e⟩:=I.hok p _ h
 exact ⟨its,n,r,e,z⟩
def Inv.lstUpd{pins:List (Az×Obj)}{σ:St}{H:Hp}{s:S9}{p:Az}{xs ys:List V}{a its':List V9}{n c:Nat}{f:Obj->Obj}(I:Inv X pins σ H s)(h:H p=some (.lst xs))
  (g:s.heap.get? p=some {cls:=.type "list",data:=.seq a.toArray n}) (hf:f {cls:=.type "list",data:=.seq a.toArray n}={cls:=.type "list",data:=.seq its'.toArray c}) (r:bB ys its') (hz:ys.length<=sizeLine) (t:Nat) :
  Inv X pins σ (upd H p (.lst ys)) {s with heap:=s.heap.update p f,toks:=t}:=by
 have e:(s.heap.update p f).get? p=some {cls:=.type "list",data:=.seq its'.toArray c}:=by
  rw[BN f g (by rw[hf]<;>rfl),hf]
 refine I.write (x:=p) (e:=p) (by rw[h];trivial) (.inl rfl) (fun b u d q=>(CB _ _ (Ne.symm d)).trans q) ⟨_,e⟩ ?_
 exact ⟨hz,its',c,r,e⟩
def aIK:V->V->V->Hp->(Hp->Prop)->Prop:=fun o i v H Q=>∃ p xs k j,o=.ref p/\i=.int k/\H p=some (.lst xs)/\ixN xs.length k=some j/\Q (upd H p (.lst (xs.set j v)))
def aGI:aF7 X aIK:=by
 intro pins s σ H o i v B A u Q I x m w h
 obtain ⟨p,xs,k,j,rfl,rfl,g,y,q⟩:=h
 cases x
 obtain ⟨t,rfl⟩:=m
 obtain ⟨a,n,r,d,hz⟩:=I.lst g
 obtain ⟨h1,h2,l,f⟩:=aAF y
 have b:=r.length
 have z:=mZ
 have e:Inv X pins σ (upd H p (.lst (xs.set j v))) {s with heap:=s.heap.update p (Obj.mapSeq (·.setIfInBounds j u))}:=
  I.lstUpd g d (aB3 a n j u) (r.set w j) (by rw[CG];exact hz) s.toks
 by_cases h0:0<=k
 .have c:k.toNat=j:=by
   rw[seqIndex_of h0 f] at h1
   exact BZ h1
  exact PySem.W.ki_setAt d h0 (by omega) (by rw[AY,<-b];exact f) (by rw[c];exact ⟨_,e,q⟩)
 .have c:(k+(a.toArray.size:Int)).toNat=j:=by
   rw[seqIndex_neg (by omega) l] at h1
   rw[AY,<-b]
   exact BZ h1
  exact PySem.W.ki_setBack d (by omega) (by rw[AY,<-b];exact l) (by omega) (by rw[c];exact ⟨_,e,q⟩)
def xL(lo hi:Option Int)(n:Nat):(sliceBounds lo hi none n).1=((HT.sIx n 0 lo:Nat):Int)/\(sliceBounds lo hi none n).2.1=((HT.sIx n n hi:Nat):Int)/\(sliceBounds lo hi none n).2.2=1:=by
 refine ⟨?_,?_,rfl⟩
 .cases lo with
  | none=>simp[sliceBounds,HT.sIx]
  | some i=>
   simp only[sliceBounds,HT.sIx,HH,show (1:Int) > 0 by decide,if_true]
   by_cases h:i < 0
   · simp only [h, if_true] <;> omega
   · simp only [h, DG] <;> omega
 .cases hi with
  | none=>simp[sliceBounds,HT.sIx]
  | some i=>
   simp only[sliceBounds,HT.sIx,HH,show (1:Int) > 0 by decide,if_true]
   by_cases h:i < 0
   · simp only [h, if_true] <;> omega
   · simp only [h, DG] <;> omega
def wV(a:List V9)(lo hi:Option Int):slicePick a.toArray lo hi none=((a.drop (HT.sIx a.length 0 lo)).take (HT.sIx a.length a.length hi - HT.sIx a.length 0 lo)).toArray:=by
 obtain ⟨h1,h2,b⟩:=xL lo hi a.toArray.size
 unfold slicePick
 rw[h1,h2,b]
 simp only[sliceRange_one,pick_run,AY]<;>rfl
def aQS(K:Frag):V->Option Int->Option Int->Hp->VK->Prop:=fun x lo hi H Q=>∃ a xs,x=.ref a/\SqL K H a xs/\∀ p,H p=none->Q (.ref p) (upd H p (.lst (o5 xs lo hi)))
def aJN:SlR X (aQS X.K):=by
 intro pins s σ H x v j k lo hi sl Q I f i pl g h
 obtain ⟨a,xs,rfl,hx,q⟩:=h
 cases f
 obtain ⟨e,r,d,hz⟩:=I.list hx
 have c:=r.length
 refine ⟨"list",_,slot_list_getitem.lookup,d.isList.typeIs,?_⟩
 refine wpAny_getItem_list_slice d.isList i pl g .none (by simp) ?_ (by rw[AY]<;>omega)
 rw[wV,<-c]
 refine ⟨.ref s.heap.objs.size,_,I.laid (t':=s.toks) (o:=.lst (o5 xs lo hi)) (fun b l q=>AE _ q) (AJ _) ?_,rfl,q _ (I.hok.fresh (AJ _))⟩
 exact ⟨A6 (rD xs lo hi) hz,_,0,(r.drop (HT.sIx xs.length 0 lo)).take (HT.sIx xs.length xs.length hi - HT.sIx xs.length 0 lo),AT _ rfl⟩
def xM:gG X (.builtin "len") (fun xs H Q=>∃ p ys,xs=[.ref p]/\(SqL X.K H p ys\/SqT X.K H p ys)/\Q (.int ys.length) H):=by
 intro pins s σ H xs us Q I r h
 obtain ⟨p,ys,rfl,b,q⟩:=h
 obtain ⟨u,rfl,e⟩:=nV r
 cases e
 have f:=mZ
 rcases b with b|b
 .obtain ⟨c,d,pl,hz⟩:=I.list b
  have a:=d.length
  exact Calls.call_len_list pl.isList (by simp only[AY]<;>omega) ⟨.int ys.length,H,I.tok _,⟨s.toks+1,by rw[AY,a]⟩,q⟩
 .obtain ⟨c,d,pl,hz⟩:=I.tuple b
  have a:=d.length
  exact len_tuple pl (by simp only[AY]<;>omega) ⟨.int ys.length,H,I.tok _,⟨s.toks+1,by rw[AY,a]⟩,q⟩
def eQ:gG X (.type "tuple") (fun xs H Q=>∃ p ys,xs=[.ref p]/\((SqL X.K H p ys/\∀ l,H l=none->Q (.ref l) (upd H l (.tup ys)))\/(SqT X.K H p ys/\Q (.ref p) H))):=by
 intro pins s σ H xs us Q I r h
 obtain ⟨p,ys,rfl,h⟩:=h
 obtain ⟨u,rfl,j⟩:=nV r
 cases j
 rcases h with ⟨c,q⟩|⟨c,q⟩
 .obtain ⟨a,d,pl,hz⟩:=I.list c
  have f:=d.length
  refine call_tuple_list pl.isList (fun h' i=>?_) (by simp only[AY]<;>omega)
  have g:Inv X pins σ H {s with heap:=h'}:=I.kept (t':=s.toks) i
  have k:Inv X pins σ (upd H h'.objs.size (.tup ys)) {s with heap:=h'.push {cls:=.type "tuple",data:=.seq a.toArray}}:=
   g.laid (t':=s.toks) (fun b o e=>AE _ e) (AJ _) (show b8 X.prog X.w _ _ _ (.tup ys) from ⟨hz,a,d,IsTup.new _ _⟩)
  exact ⟨.ref h'.objs.size,_,k,rfl,q _ (g.hok.fresh (AJ _))⟩
 .obtain ⟨a,d,pl,hz⟩:=I.tuple c
  exact call_tuple_same pl ⟨.ref p,H,I,rfl,q⟩
def tyV(K:Frag)(T:String)(x:V)(H:Hp):Prop:=match x with
 | .str _=>T="str"
 | .int _=>T="int"
 | .ref p=>(T="list"/\∃ xs,SqL K H p xs)\/(T="tuple"/\∃ o,K.lookup p=some o/\o.cls=.type "tuple"/\o.dict=none) \/
  (T="dict"/\((∃ kvs,H p=some (.dK kvs))\/∃ kvs,H p=some (.dT kvs)))\/(T="set"/\∃ S n,H p=some (.set S n))
 | _=>False
def aDS{pins:List (Az×Obj)}{σ:St}{H:Hp}{s:S9}{T:String}{x:V}{v:V9}(I:Inv X pins σ H s)(r:aY x v)(ty:tyV X.K T x H) :
  s.TypeIs v T/\∀ a,v=.ref a->∃ ob,s.heap.get? a=some ob/\ob.dict=none:=by
 cases x with
 | str z=>
  obtain ⟨t,rfl⟩:=r
  cases (show T="str" from ty)
  exact ⟨typeIs_str s z t,fun _ e=>nomatch e⟩
 | int i=>
  obtain ⟨t,rfl⟩:=r
  cases (show T="int" from ty)
  exact ⟨typeIs_int s i t,fun _ e=>nomatch e⟩
 | ref p=>
  cases r
  rcases ty with ⟨rfl,xs,h⟩|⟨rfl,o,b,j,f⟩|⟨rfl,b⟩|⟨rfl,S,n,b⟩
  .obtain ⟨g,_,pl,_⟩:=I.list h
   refine ⟨pl.isList.typeIs,fun a e=>?_⟩
   cases e
   obtain ⟨o,n,e,c,f,_⟩:=pl
   exact ⟨o,e,f⟩
  .refine ⟨⟨o,I.kIn p o b,j⟩,fun a e=>?_⟩
   cases e
   exact ⟨o,I.kIn _ o b,f⟩
  .have z:∃ o,s.heap.get? p=some o/\o.ExactDict:=by
    rcases b with ⟨d,b⟩|⟨d,b⟩
    .obtain ⟨_,_,_,_,o,_,_,e,ex,_⟩:=I.hok p _ b
     exact ⟨o,e,ex⟩
    .obtain ⟨_,_,_,_,o,_,_,e,ex,_⟩:=I.hok p _ b
     exact ⟨o,e,ex⟩
   obtain ⟨o,e,ex⟩:=z
   refine ⟨⟨o,e,ex.1⟩,fun a e2=>?_⟩
   cases e2
   exact ⟨o,e,ex.2.1⟩
  .obtain ⟨o,_,_,_,e,ex,_⟩:=I.hok p _ b
   refine ⟨⟨o,e,ex.1⟩,fun a e2=>?_⟩
   cases e2
   exact ⟨o,e,ex.2.1⟩
 | _=>exact False.elim ty
def aMV(K:Frag)(T:String)(r:V->List V->Hp->VK->Prop)(to:TE):TE:=fun σ H Q=>to σ H fun x H1=>tyV K T x H1/\r x [] H1 Q
def tBM(K:Frag)(T:String)(r:V->List V->Hp->VK->Prop)(to:TE)(t:TA):TE:=fun σ H Q=>to σ H fun x H1=>tyV K T x H1/\t σ H1 fun xs H2=>r x xs H2 Q
variable{o e:Expr}{es:List Expr}{to:TE}{t:TA}{name:Str}{apos cpos:Pos}{T id:String}{r:V->List V->Hp->VK->Prop}
def aMW(e:PlainAttrs T)(slot:Slot T name id)(c:typeOf (.builtin id)=pure (.type "method_descriptor"))(f:MtR X id r)(g:PE X o to)
  (a:attributeBase o name X.env (eval o X.env)=eval o X.env:=by rfl) (hline:(apos.endLine == cpos.line)=true:=by rfl):PE X (.Call (.Attribute o name apos) [] [] cpos) (aMV X.K T r to):=by
 intro pins s σ H Q I h
 refine wpAny_Call_method0_late a hline (thn (g pins s σ H _ I h) fun v s1 b=>?_)
 obtain ⟨x,H1,d,r1,ty,i⟩:=b
 obtain ⟨h1,h2⟩:=aDS d r1 ty
 exact ⟨T,id,e,slot,c,h1,h2,FK rfl (PySem.evalArgs_none (f pins s1 σ H1 x [] v [] Q d r1 .nil i))⟩
def iP(g:PlainAttrs T)(slot:Slot T name id)(c:typeOf (.builtin id)=pure (.type "method_descriptor"))(m:MtR X id r)(n:PE X o to)(j:PA X (e::es) t)
  (a:attributeBase o name X.env (eval o X.env)=eval o X.env:=by rfl)
  (hfew:((backTo cpos (starEach (e::es) X.env)).all (fun x=>!x.1) && (backToKw cpos (keywordEach [] X.env)).all (fun x=>x.1.isSome)
   && decide ((e::es).length+([]:List Keyword).length+(if ([]:List Keyword).isEmpty then 0 else 1) < 30))=true:=by rfl)
  (hline:(apos.endLine == cpos.line)=true:=by rfl) (hs:starEach (e::es) X.env=(false,eval e X.env)::starEach es X.env:=by rfl) (hplain:(backTo cpos (starEach es X.env)).any (·.1)=false:=by rfl) :
  PE X (.Call (.Attribute o name apos) (e::es) [] cpos) (tBM X.K T r to t):=by
 intro pins s σ H Q I h
 refine HY a hfew hline rfl (thn (n pins s σ H _ I h) fun v s1 b=>?_)
 obtain ⟨x,H1,f,r1,ty,p⟩:=b
 obtain ⟨h1,h2⟩:=aDS f r1 ty
 refine ⟨T,id,g,slot,c,h1,h2,?_⟩
 have d:=j cpos pins s1 σ H1 _ f p
 rw[hs] at d ⊢
 refine FK (by show (false || (backTo cpos (starEach es X.env)).any (·.1))=false;rw[hplain]<;>rfl) (Calls.evalArgs_plain ?_)
 exact thn d fun us k ⟨vs,H2,l,r2,i⟩=>m pins k σ H2 x vs v us Q l r1 r2 i
end
def MtM(X:Cx)(id:String)(r:V->List V->Hp->VK->Prop):Prop:=
 ∀ (pins:List (Az×Obj)) (s:S9) (σ:St) (H:Hp) (x:V) (xs:List V) (v:V9) (us:List V9) (Q:VK),Inv X pins σ H s->aY x v->bB xs us->r x xs H Q->
  wpAny (model X.prog X.w) X.A (call (.builtin id) (v::us)) (EP X pins σ Q) X.xe s
theorem bB.one:∀ {x:V} {us:List V9},bB [x] us->∃ u,us=[u]/\aY x u
 | _,_,.cons r .nil=>⟨_,rfl,r⟩
theorem bB.zero:∀ {us:List V9},bB [] us->us=[]
 | _,.nil=>rfl
theorem bB.eraseIdx:∀ {xs:List V} {us:List V9} (i:Nat),bB xs us->bB (xs.eraseIdx i) (us.eraseIdx i)
 | _,_,_,.nil=>.nil
 | _,_,0,.cons _ t=>t
 | _,_,i+1,.cons r t=>.cons r (bB.eraseIdx i t)
def bB.reverse{xs:List V}{us:List V9}(h:bB xs us):bB xs.reverse us.reverse:=by
 induction h with
 | nil=>exact .nil
 | cons r t ih=>rw[DZ,DZ];exact bB.append ih (.cons r .nil)
section
variable{X:Cx}{pins:List (Az×Obj)}{σ:St}{H:Hp}{s:S9}{l b:Az}{xs ys zs:List V}
def Inv.lset{a its':List V9}{n:Nat}{f:Array V9->Array V9}{t':Nat}(I:Inv X pins σ H s)(b:H l=some (.lst xs))
  (e:s.heap.get? l=some {cls:=.type "list",data:=.seq a.toArray n}) (hf:f a.toArray=its'.toArray) (hv:bB ys its') (hz:ys.length<=sizeLine) :
  Inv X pins σ (upd H l (.lst ys)) {s with heap:=s.heap.update l (Obj.mapSeq f),toks:=t'}:=by
 have q:=PySem.IsL.update e f
 rw[hf] at q
 refine I.write (x:=l) (e:=l) (by rw[b];exact trivial) (.inl rfl) (fun g u c d=>(CB s.heap (Obj.mapSeq f) (Ne.symm c)).trans d) ⟨_,q⟩ ?_
 exact ⟨hz,its',_,hv,q⟩
def Inv.lnew{a:List V9}{t':Nat}(I:Inv X pins σ H s)(b:bB ys a)(hz:ys.length<=sizeLine) :
  Inv X pins σ (upd H s.heap.objs.size (.lst ys)) {s with heap:=s.heap.push {cls:=.type "list",data:=.seq a.toArray},toks:=t'}:=
 I.laid (fun _ _ q=>AE _ q) (AJ _) ⟨hz,a,0,b,AT _ rfl⟩
def Inv.fresh(I:Inv X pins σ H s):H s.heap.objs.size=none:=I.hok.fresh (AJ _)
def Inv.lstM(I:Inv X pins σ H s)(a:H l=some (.lst xs)):xs.length<=sizeLine/\∃ (its:List V9) (n:Nat),bB xs its/\xs.length=its.length/\s.heap.get? l=some {cls:=.type "list",data:=.seq its.toArray n}:=by
 obtain ⟨z,its,n,r,e⟩:=I.hok l _ a
 exact ⟨z,its,n,r,r.length,e⟩
end
section
variable{X:Cx}
def aAI:V->List V->Hp->VK->Prop:=fun x vs H Q=>∃ l xs y,x=.ref l/\vs=[y]/\H l=some (.lst xs)/\xs.length < sizeLine/\Q .non (upd H l (.lst (xs++[y])))
def eH:MtM X "list.append" aAI:=by
 intro pins s σ H x vs v us Q I c d h
 obtain ⟨l,xs,y,rfl,rfl,b,hz,q⟩:=h
 cases c
 obtain ⟨u,rfl,f⟩:=d.one
 obtain ⟨z,a,n,r,g,e⟩:=I.lstM b
 refine IC F.slot_list_append ⟨_,e,rfl⟩ F.entry_list_append (F.args_list_append_2 _ _) (PySem.list_append l a.toArray n u (by rw[AY];omega)) ⟨e,?_⟩
 refine ⟨.non,_,I.lset (its':=a++[u]) b e (by simp) (r.append (.cons f .nil)) ?_,rfl,q⟩
 rw[BD,IB]
 omega
def xN:V->List V->Hp->VK->Prop:=fun x vs H Q=>∃ l xs,x=.ref l/\vs=[]/\H l=some (.lst xs)/\Q .non (upd H l (.lst xs.reverse))
def aB4:MtM X "list.reverse" xN:=by
 intro pins s σ H x vs v us Q I d f h
 obtain ⟨l,xs,rfl,rfl,c,q⟩:=h
 cases d
 have b:=f.zero
 subst b
 obtain ⟨z,a,n,r,g,e⟩:=I.lstM c
 refine IC F.slot_list_reverse ⟨_,e,rfl⟩ F.entry_list_reverse (F.args_list_reverse_1 _) (AutoSeq1.list_reverse_list_0 l a.toArray n (by rw[AY];omega)) ⟨e,?_⟩
 refine ⟨.non,_,I.lset (its':=a.reverse) c e (by simp) r.reverse ?_,rfl,q⟩
 rw[List.length_reverse]
 omega
end
end L2
namespace Att
open PySem PySem.W PySem.Calls PyProof.Rows
def sR{P:Params}{h:Heap}:∀ (ns:List Int) (vs:List V9),WellAll P h vs (ns.map WData.int)->IntsAre vs ns:=by
 intro ns
 induction ns with
 | nil=>
  intro vs w
  rw[DR] at w
  cases w
  exact .nil
 | cons n ns ih=>
  intro vs w
  rw[AX] at w
  cases w with
  | cons a b=>
   cases a
   exact .cons _ _ (ih _ b)
def aDT{l:OpenLaw}{n:Nat}(o:l.most=some n){P:Params}{h:Heap}{args:List WData}{c:List V9}
  (b:l.row.toRowW.claim.pre args=true) (i:WellAll P h c args) :
  ∃ a vs ns,c=[Value.ref a]/\args=[WData.list (ns.map WData.int)]/\h.get? a=some {cls:=.type "list",data:=.seq vs.toArray}/\IntsAre vs ns/\ns.length<=n:=by
 have j:WShape.hasAll [] args [.list .int]=true:=(pre_splitW b).1
 have k:l.pre.holds [] {args:=args}=true:=(pre_splitW b).2
 obtain ⟨d,r,rfl,h1,h2⟩:=hasAllW_cons j
 obtain rfl:=hasAllW_nil h2
 obtain ⟨xs,rfl,p⟩:=hasW_list h1
 obtain ⟨ns,rfl⟩:=items_int p
 have e:ns.length<=n:=by
  unfold OpenLaw.pre at k
  have f:(WTm.not (.lt (.lit (.int (n:Int))) (.len (.arg 0)))).holds [] {args:=[.list (ns.map .int)]}=true:=by
   have f:=(holds_andW k).1
   rw[o] at f
   exact f
  have g:=condW_of f (w_not (w_lt w_lit (w_len_list (w_arg rfl))))
  rw[AC] at g
  refine Nat.le_of_not_lt fun q=>?_
  have m:(n:Int) < ((ns.length:Nat):Int):=by omega
  first
   | (rw[AV m] at g;exact absurd g (by decide))
   | (simp at g;omega)
 cases i with
 | cons w1 w2=>
  cases w2
  cases w1 with
  | list ho hall=>exact ⟨_,_,ns,rfl,rfl,ho,sR ns _ hall,e⟩
def aDU(l:OpenLaw)(args:List WData):l.row.toRowW.claim.post args (.bool true) args=true:=
 postW_of (r:=l.row.toRowW) (X:=(true == true))
  (show WShape.has [] (.bool true) .bool=true by first|rfl|decide|simp[WShape.has,WShape.arms,WShape.armsAll])
  (show (WTm.eq .res (.lit (.bool true))).value [] {args:=args,res:=some (.bool true),after:=args}=some (.bool (true == true)) from w_eq_bool (w_res rfl) w_lit) rfl
def attach_call{l:OpenLaw}{n:Nat}{q:Program}{b:List Str}{u:(Str->Option V9)->Heap->Prop}{t:World->Heap->Prop}{d:DefRec}
  (F:l.most=some n) (j:d.params.defaults=[])
  (call:∀ (w:World) (s₀ s₁:S9) (mg mb:Str->Option V9) (fa:Az) (o:Obj) (pm cd doc:V9) (a:Az) (vs:List V9) (ns:List Int),
   Ground q b [] u w s₀ mg mb s₁.heap->t w s₁.heap->
   s₁.heap.get? fa=some o->o.data=.func (docDef d.name d.params d.body d.scope pm cd doc)->s₁.heap.CodeRec cd d.name->mg d.name=some (.ref fa)->
   s₁.heap.get? a=some {cls:=.type "list",data:=.seq vs.toArray}->IntsAre vs ns->ns.length<=n->s₁.gens = #[]->
   codeAny (model l.prog w) callerA (.call (.ref fa) ⟨[.ref a],[]⟩) (fun r s'=>r=.ok (.ret (.bool true))/\OldK s₁.heap s'.heap/\s'.os=s₁.os/\AllBare s'.gens) s₁) :
  WalkO q b u t l.row.toRowW d [] (fun f vs=>PySem.call f vs):=by
 intro w s₀ s₁ mg mb G Y fa o pm cd doc y kV A C k p i E args v J e s D m B
 obtain rfl:y=.none:=Dflts.none p j
 obtain rfl:kV=.none:=Dflts.noKw p
 obtain ⟨a,vs,ns,rfl,rfl,h,c,g⟩:=aDT F e m
 refine enter_call (FB (call w s₀ s₁ mg mb fa o pm cd doc a vs ns G Y A (fd_plain C) k i h c g E) fun r s' H=>?_)
 obtain ⟨rfl,h2,I,x⟩:=H
 exact ⟨.inl ⟨.bool true,.bool true,[],rfl,fun _=>rfl,.bool true,aDU l _,fun _=>⟨List.Pairwise.nil,fun _ z=>(nomatch z)⟩⟩,h2,I,x⟩
section
variable{prog:Program}{w:World}{A:Around}{E:V9->S9->Prop}{s:S9}{K:Frag}
def aSE(h:Heap)(L d:Az):List (Az×Obj):=(List.range h.objs.size).filterMap fun a=>if a=L\/a=d then none else (h.get? a).map fun o=>(a,o)
end
end Att
namespace L2
open PySem PySem.Spec PyProof.Rows
theorem v0:∀ {vs:List V9} {ns:List Int},IntsAre vs ns->bB (ns.map V.int) vs
 | _,_,.nil=>.nil
 | _,_,.cons n t h=>.cons ⟨t,rfl⟩ (v0 h)
abbrev KOf{K:Frag}{h:Heap}(_:K.In h):Frag:=K
def fZ(s:Stmt):Arguments:=match s with
 | .FunctionDef _ a _ _ _ _ _ _ _ _=>a
 | _=>{posonlyargs:=[],args:=[],vararg:=none,kwonlyargs:=[],kw_defaults:=[],kwarg:=none,defaults:=[]}
def cL(s:Stmt):List Stmt:=match s with
 | .FunctionDef _ _ b _ _ _ _ _ _ _=>b
 | _=>[]
def aL(s:Stmt):Scope:=match s with
 | .FunctionDef _ _ _ _ _ _ sc _ _ _=>sc
 | _=>{kind:=.function,names:=[],isGenerator:=false,isCoroutine:=false}
abbrev CX0:CXT:=fun _ _ _ _ _ _=>False
abbrev E0:XK:=fun _ _ _=>False
structure Fun(K:Frag)(x qual:Str)(st:Stmt)(f:Az)(fd:FuncData):Prop where
 ex:∃ (oc:V9) (od:Option Az) (kV doc pm:V9) (an:Option Az) (cdv ct:V9) (osl:Array (Option V9)),
  fd=PySem.W.fnOf x qual (fZ st) (cL st) (aL st) .none kV doc pm an cdv ct/\K.lookup f=some ⟨oc,od,.func fd,osl⟩/\PySem.W.codeIn K cdv qual=true
 kp:PySem.W.keepIn K (.ref f)=true
section
variable{P:Program}{w:World}{K:Frag}{mg:Str->Option V9}{base:Heap}
def Fun.ok{x qual:Str}{st:Stmt}{f:Az}{fd:FuncData}{N ps:List Str}{k:Nat}{sp:Sp}(F:Fun K x qual st f fd)(S:FnScope N ps (aL st))(len:∀ vs H Q E,sp vs H Q E->vs.length=ps.length)
  (a:∀ (cdv:V9) (A:Around) (outer:List Env) (s:S9) (H:Hp) (vs:List V) (Q:VK) (E:XK),Room k (A.deeper (envOfC qual (aL st) s.heap.objs.size f cdv))->sp vs H Q E->
   ∃ t,PSs (iS CX0 P w K mg base N qual (aL st) f cdv A outer s H E).nox (cL st) t/\t {nx:=fun _ H'=>Q .non H',rt:=Q} (eS N vs) H):FnOk P w K mg base CX0 (k+1) f fd ps sp:=by
 obtain ⟨j,od,kV,doc,pm,i,cdv,ct,g,rfl,e,c⟩:=F.ex
 refine aBZ e c S len fun A outer s H vs Q E d b=>?_
 obtain ⟨t,h,q⟩:=a cdv A outer s H vs Q E d b
 exact ⟨t,h.nox,q⟩
def Fun.binds{x qual:Str}{st:Stmt}{f:Az}{fd:FuncData}{ps:List Str}(F:Fun K x qual st f fd)
  (h:∀ (kV doc pm:V9) (an:Option Az) (cdv ct:V9) (us:List V9),us.length=ps.length->bindArgs (PySem.W.fnOf x qual (fZ st) (cL st) (aL st) .none kV doc pm an cdv ct) ⟨us,[]⟩=pure (ps.zip us)):iO K fd ps []:=by
 obtain ⟨d,od,kV,doc,pm,an,cdv,ct,b,rfl,c,a⟩:=F.ex
 exact .all (h kV doc pm an cdv ct)
def aDV{x qual:Str}{st:Stmt}{f:Az}{e:V9}{od d:Option Az}{b:Array (Option V9)}{kV doc pm a ct:V9}(l:K.lookup f=some ⟨e,od,.func (PySem.W.fnOf x qual (fZ st) (cL st) (aL st) .none kV doc pm d a ct),b⟩)
 (c:PySem.W.codeIn K a qual=true) (k:PySem.W.keepIn K (.ref f)=true):Fun K x qual st f (PySem.W.fnOf x qual (fZ st) (cL st) (aL st) .none kV doc pm d a ct):=⟨⟨e,od,kV,doc,pm,d,a,ct,b,rfl,l,c⟩,k⟩
end
section
variable{X:Cx}
def pv(i:Nat){x:Str}{pos:Pos}(hN:X.N[i]? = some x:=by rfl)(hv:Vis X.env.scope x:=by first|exact Or.inl rfl|exact Or.inr (Or.inl rfl)|exact Or.inr (Or.inr rfl))(hd:(x == ("__debug__":Str))=false:=by decide)
 (hcd:(x == ("__classdict__":Str))=false:=by decide):PE X (.Name x pos) (fN i):=aL9 hN hv hd hcd
end
def rO{A B:Prop}(h:B):if false=true then A else B:=by
 rw[if_neg A0]
 exact h
def rP{A B:Prop}(h:A):if true=true then A else B:=by
 rw[if_pos rfl]
 exact h
def aH(H H':Hp):Prop:=∀ b o,H b=some o->H' b=some o
def aH.trans{H H1 H2:Hp}(a:aH H H1)(b:aH H1 H2):aH H H2:=fun c o h=>b c o (a c o h)
def aH.free{H H':Hp}(e:aH H H'){l:Az}(h:H' l=Option.none):H l=Option.none:=by
 cases q:H l with
 | none=>rfl
 | some o=>
  rw[e l o q] at h
  cases h
def aH.seq{K:Frag}{H H':Hp}{a:Az}{xs:List V}(e:aH H H')(h:SqL K H a xs):SqL K H' a xs:=by
 rcases h with (h|⟨o,h⟩)|h
 · exact .inl (.inl (e _ _ h))
 · exact .inl (.inr ⟨o, e _ _ h⟩)
 · exact .inr h
def aB5{env:Env}:∀ (names:List (Str×NameKind)) (acc:List (Str×Az)),(∀ x∈names,x.2=.free->∃ c,env.cells.lookup x.1=some c)->
  (∀ x c,acc.lookup x=some c->env.cells.lookup x=some c)->
  ∃ cl,(forIn names acc fun x r=>(if (x.2 == NameKind.free)=true then (do let a <-cellOf env x.1;pure (ForInStep.yield ((x.1,a)::r))) else pure (ForInStep.yield r)):Sem (List (Str×Az)))=pure cl /\
   (∀ x c,cl.lookup x=some c->env.cells.lookup x=some c)/\(∀ x∈names,x.2=.free->∃ c,cl.lookup x.1=some c)/\∀ x c,acc.lookup x=some c->∃ c',cl.lookup x=some c':=by
 intro names
 induction names with
 | nil=>intro acc _ h;exact ⟨acc,rfl,h,fun x hx=>absurd hx (by simp),fun x c e=>⟨c,e⟩⟩
 | cons x r ih=>
  intro acc i h
  obtain ⟨n,k⟩:=x
  by_cases hk:k=.free
  .subst hk
   obtain ⟨c,g⟩:=i (n,.free) AQ rfl
   have g:env.cells.lookup n=some c:=g
   obtain ⟨cl,e1,e2,e3,e4⟩:=ih ((n,c)::acc) (fun y f=>i y (AI _ f)) (fun y d e=>by
    rw[BE] at e
    cases q:y == n with
    | true=>rw[q] at e;cases e;have:=FY q;subst this;exact g
    | false=>rw[q] at e;exact h y d e)
   refine ⟨cl,?_,e2,fun y f b=>?_,fun y d e=>?_⟩
   .rw[CN]
    simp only[EB,if_true]
    unfold cellOf
    simp only[g,pure_bind]
    exact e1
   .rcases AS.mp f with z|z
    .subst z
     exact e4 n c (by rw[BE];simp)
    .exact e3 y z b
   .by_cases q:y=n
    .subst q;exact e4 y c (by rw[BE];simp)
    .exact e4 y d (by rw[BE,DL q];exact e)
  .obtain ⟨cl,e1,e2,e3,e4⟩:=ih acc (fun y f=>i y (AI _ f)) h
   refine ⟨cl,?_,e2,fun y f b=>?_,e4⟩
   .rw[CN]
    have:(k == NameKind.free)=false:=by simpa using hk
    simp only[this,CC,DG,pure_bind]
    exact e1
   .rcases AS.mp f with z|z
    .subst z;exact absurd b hk
    .exact e3 y z b
def sS{env:Env}{scope:Scope}(a:∀ x∈scope.names,x.2=.free->∃ c,env.cells.lookup x.1=some c) :
  ∃ cl,closureFor scope env=pure cl/\(∀ x c,cl.lookup x=some c->env.cells.lookup x=some c)/\∀ x∈scope.names,x.2=.free->∃ c,cl.lookup x.1=some c:=by
 obtain ⟨cl,e1,e2,e3,_⟩:=aB5 scope.names [] a (fun x c e=>by simp at e)
 refine ⟨cl,?_,e2,e3⟩
 unfold closureFor
 first
  | exact e1
  | (rw[<-e1];rfl)
  | (simp only[bind_pure];exact e1)
theorem f6{env:Env}:∀ {names:List (Str×NameKind)} {x:Str} {k:NameKind},
  (names.map fun (n,k)=>if (k == NameKind.free && env.scope.kind == .function && env.kindOf n == some .cell) then (n,NameKind.cell) else (n,k)).lookup x=some k->
  k=.cell\/k=.free->(∀ y∈names,y.2≠.cell)->(x,NameKind.free)∈names
 | [],_,_,h,_,_=>by simp at h
 | (n,k0)::r,x,k,h,hk,hc=>by
  have ih:=@f6 env r x k
  rw[AX] at h
  dsimp only at h
  by_cases hx:x=n
  .subst hx
   by_cases hcond:(k0 == NameKind.free && env.scope.kind == .function && env.kindOf x == some .cell)=true
   .have:k0=.free:=by
     simp only[AM] at hcond
     exact FY hcond.1.1
    subst this
    exact AQ
   .rw[if_neg hcond,BE] at h
    simp only[EB] at h
    cases h
    rcases hk with rfl|rfl
    .exact absurd rfl (hc _ AQ)
    .exact AQ
  .have a:(x == n)=false:=DL hx
   refine AI _ (ih ?_ hk fun y b=>hc y (AI _ b))
   split at h
   .rw[BE,a] at h;exact h
   .rw[BE,a] at h;exact h
def f7(X:Cx)(N:List Str)(scope:Scope)(cl:List (Str×Az))(C:Az)(s:S9)(H:Hp)(fp:List Az):Cx where
 prog:=X.prog
 w:=X.w
 K:=X.K
 mg:=X.mg
 base:=X.base
 A:=X.A
 N:=N
 s₀:=s
 H₀:=H
 env:=compEnvC scope cl C X.env
 outer:=X.stack
 stack:=X.stack
 ex:=fp
 calm:=X.calm
 fn:=fun _=>false
 pn:=[]
 xe:=fun _ _=>False
inductive Caps(X:Cx)(scope:Scope):List Str->List (Option Nat)->Prop
 | nil:Caps X scope [] []
 | own {x:Str} {N:List Str} {js:List (Option Nat)} (t:Caps X scope N js):Caps X scope (x::N) (none::js)
 | cap {x:Str} {j:Nat} {N:List Str} {js:List (Option Nat)} (h1:X.N[j]? = some x) (h2:X.env.kindOf x=some .cell\/X.env.kindOf x=some .free)
  (h3:(relabel scope X.env).names.lookup x=some .cell\/(relabel scope X.env).names.lookup x=some .free) (t:Caps X scope N js):Caps X scope (x::N) (some j::js)
def Caps.len{X:Cx}{scope:Scope}{N:List Str}{js:List (Option Nat)}(c:Caps X scope N js):js.length=N.length:=by
 induction c with
 | nil=>rfl
 | own _ ih=>simp[ih]
 | cap _ _ _ _ ih=>simp[ih]
def Caps.get{X:Cx}{scope:Scope}{N:List Str}{js:List (Option Nat)}(c:Caps X scope N js):∀ {i j:Nat} {x:Str},js[i]? = some (some j)->N[i]? = some x->
  X.N[j]? = some x/\(X.env.kindOf x=some .cell\/X.env.kindOf x=some .free)/\((relabel scope X.env).names.lookup x=some .cell\/(relabel scope X.env).names.lookup x=some .free):=by
 induction c with
 | nil=>intro i j x h;simp at h
 | own _ ih=>
  intro i j x h1 h2
  cases i with
  | zero=>simp at h1
  | succ i=>exact ih (by simpa using h1) (by simpa using h2)
 | cap a b d _ ih=>
  intro i j x h1 h2
  cases i with
  | zero=>
   simp at h1 h2
   subst h1 h2
   exact ⟨a,b,d⟩
  | succ i=>exact ih (by simpa using h1) (by simpa using h2)
def j7(js:List (Option Nat))(σ:St):St:=js.map fun o=>o.bind fun j=>(σ[j]?).join
def dL(σ σ':St):Prop:=σ'.length=σ.length/\∀ (i:Nat) v,σ[i]? = some (some v)->σ'[i]? = some (some v)
def dL.refl(σ:St):dL σ σ:=⟨rfl,fun _ _ h=>h⟩
def dL.set{σ:St}{i:Nat}{v:Option V}(h:σ[i]? = some none):dL σ (σ.set i v):=by
 refine ⟨CG,fun j u e=>?_⟩
 by_cases q:i=j
 · subst q; rw [h] at e; cases e
 · rw [A9 q]; exact e
def dL.trans{a b c:St}(h:dL a b)(k:dL b c):dL a c:=⟨k.1.trans h.1,fun i v e=>k.2 i v (h.2 i v e)⟩
section
variable{X:Cx}
def PIf(X:Cx)(ifs:List Expr)(t:TT):Prop:=
 ∀ (pins:List (Az×Obj)) (s:S9) (σ:St) (H:Hp) (Q:Bool->Hp->Prop),Inv X pins σ H s->t σ H Q->
  wpAny (model X.prog X.w) X.A (forIn ifs true fun c r=>if r=true then do let ok <-isTrue c X.env (eval c X.env);pure (ForInStep.yield ok) else pure (ForInStep.yield r)) (TP X pins σ Q) X.xe s
def aQT:TT:=fun _ H Q=>Q true H
def jH:PIf X [] aQT:=by
 intro pins s σ H Q I h
 show wpAny _ _ (pure true) _ _ s
 exact AD ⟨H,I,h⟩
def aJO{c:Expr}{t:TT}(h:PT X c t):PIf X [c] t:=by
 intro pins s σ H Q I a
 rw[CN]
 simp only[if_true]
 refine AB (AB (thn (h pins s σ H Q I a) fun b s1 q=>AD ?_))
 show wpAny _ _ (pure b) _ _ s1
 exact AD q
end
def uG(X:Cx)(N:List Str)(scope:Scope)(js:List (Option Nat))(tg elt:Expr)(ifs:List Expr)(σ:St)(x:V)(H:Hp)(R:Option V->Hp->Prop):Prop:=
 ∀ (cl:List (Str×Az)) (C:Az) (s:S9) (H0:Hp) (fp:List Az),∃ (g:TG) (tt:TT) (te:TE),PG (f7 X N scope cl C s H0 fp) tg g/\PIf (f7 X N scope cl C s H0 fp) ifs tt/\PE (f7 X N scope cl C s H0 fp) elt te /\
  ∀ σ0,dL (j7 js σ) σ0->g x σ0 H fun σ2 H2=>dL (j7 js σ) σ2/\tt σ2 H2 fun b H3=>if b=true then te σ2 H3 fun y H4=>R (some y) H4 else R none H3
def compK(X:Cx)(N:List Str)(scope:Scope)(js:List (Option Nat))(tg elt:Expr)(ifs:List Expr)(σ:St)(Q:VK)(J:It)(H1:Hp):Prop:=∃ (n:Nat) (W:Nat->List V->Hp->Prop),n<=sizeLine/\W 0 [] H1 /\
 ∀ i ys H,W i ys H->ys.length<=i/\((J.stop i H/\∀ p,H p=none->Q (.ref p) (upd H p (.lst ys)))\/(J.go i H/\i < n/\∃ R:Option V->Hp->Prop,(∀ y H2,R (some y) H2->W (i+1) (ys++[y]) H2)/\(∀ H2,R none H2->W (i+1) ys H2) /\
  ∀ x H',J.yld i H x H'->uG X N scope js tg elt ifs σ x H' R))
def sT(X:Cx)(N:List Str)(scope:Scope)(js:List (Option Nat))(tg elt:Expr)(ifs:List Expr)(wi:TI):TE:=fun σ H Q=>wi σ H (compK X N scope js tg elt ifs σ Q)
section
variable{prog:Program}{w:World}{A:Around}{R:Result->S9->Prop}{s:S9}
theorem xO{i a e:Expr}{g:List Expr}{scope:Scope}{pos:Pos}{it j:V9}{env:Env}(I:Nat->S9->Prop)
  (turn:∀ n s,I n s->wpAny (model prog w) A (pyNext it) (fun r s1=>match r with
   | none=>R (.ok .next) s1
   | some v=>wpAny (model prog w) A (letOwnedTupleGo a it v) (fun _ s1'=>wpAny (model prog w) A (assign a env v) (fun _ s2=>
    wpAny (model prog w) A (forIn g true fun c r=>if r=true then do let ok <-isTrue c env (eval c env);pure (ForInStep.yield ok) else pure (ForInStep.yield r)) (fun ok s3=>
     if ok=true then wpAny (model prog w) A (eval i env) (fun x s4=>
      wpAny (model prog w) A (call (.builtin "list.append") [j,x]) (fun _ s5=>∃ m,m < n/\I m s5) (fun _ _=>False) s4) (fun _ _=>False) s3
     else ∃ m,m < n/\I m s3) (fun _ _=>False) s2) (fun _ _=>False) s1') (fun _ _=>False) s1) (fun _ _=>False) s)
  (n:Nat) (h:I n s) :
  codeAny (model prog w) A (.compLoop (.ListComp i [⟨a,e,g,0⟩] scope pos) 0 it j env) R s:=by
 refine codeAny_loop rfl I (fun n s D=>?_) n h
 show wpAny _ A ((compTurn (.ListComp i [⟨a,e,g,0⟩] scope pos) 0 it j env).onRaise (fun x=>do noteFrame x env;theTreesLotGoes x)) _ _ s
 refine wpAny_noted ?_
 rw[compTurn_list]
 have E:∀ {α:Type} {t:Sem α} {Q:α->S9->Prop} {E':V9->S9->Prop} {s:S9},wpAny (model prog w) A t Q (fun _ _=>False) s->wpAny (model prog w) A t Q E' s:=fun h=>BX h (fun _ _ q=>q) fun _ _ f=>f.elim
 refine AB (DV (AB (BX (turn n s D) (fun r u d=>?_) fun _ _ h'=>h'.elim)))
 cases r with
 | none=>exact AD d
 | some v=>
  refine AB (BX d (fun _ s1' p=>?_) fun _ _ f=>f.elim)
  refine AB (BX p (fun _ z l=>AB (BX l (fun ok C b=>?_) fun _ _ h'=>h'.elim)) fun _ _ h'=>h'.elim)
  cases ok with
  | false=>exact AD ⟨rfl,b⟩
  | true=>
   exact AB (AB (BX b (fun x y k=>AB (BX k (fun _ B o=>AD (AD ⟨rfl,o⟩)) fun _ _ h'=>h'.elim)) fun _ _ h'=>h'.elim))
end
def HOk.track{P:Program}{w:World}{H:Hp}{h:Heap}{a:Az}{o:HO}(x:HOk P w H h)(d:H a=none)(new:b8 P w (upd H a o) h a o):HOk P w (upd H a o) h:=fun b u e=>by
 by_cases hb:b=a
 .subst hb;rw[aT] at e;cases e;exact new
 .rw[aG hb] at e
  exact (x b u e).stay (fun c v _ q=>q) (fun c q=>by rw[aG (bC q d)];exact q) (fun c xs q=>by rw[aG (bC q d)];exact q) fun c xs q=>by rw[aG (bC q d)];exact q
section
variable{X:Cx}{pins:List (Az×Obj)}{σ:St}
structure CompEnd(X:Cx)(pins:List (Az×Obj))(σ:St)(D C:Az)(ys:List V)(H':Hp)(s':S9):Prop where
 inv:Inv X pins σ (upd H' D (.lst ys)) s'
 ns:∃ m,s'.heap.Ns C m
 fp:g8 X pins (upd H' D (.lst ys)) C
 nD:H' D=none
def CompEnd.gone{D C:Az}{ys:List V}{H H':Hp}{s':S9}{c:Heap}{a:St}(I:Inv X pins a H s')(fp:g8 X pins H C)(f:Heap.SameBut C s'.heap c):Inv X pins a H {s' with heap:=c}:=
 I.turned (it:=C) (t':=s'.toks) (fun b o d e=>(f.2 b d).trans e) fp.1 fp.2.1 fp.2.2.2.1 fp.2.2.2.2.1 fp.2.2.2.2.2
def xP{prog:Program}{w:World}{A:Around}{E:V9->S9->Prop}{s:S9}{l:Az}{items:Array V9}{a:Nat}{x:V9}{Q:V9->S9->Prop}(e:s.heap.get? l=some {cls:=.type "list",dict:=none,data:=.seq items a})(hz:items.size<=sizeLine)
  (hQ:∀ nn' h',h'.get? l=some {cls:=.type "list",dict:=none,data:=.seq (items.push x) nn'}->Heap.SameBut l s.heap h'->Q .none {s with heap:=h'}) :
  wpAny (model prog w) A (call (.builtin "list.append") [.ref l,x]) Q E s:=by
 refine IC F.slot_list_append ⟨_,e,rfl⟩ F.entry_list_append (F.args_list_append_2 _ _) (PySem.list_append l items a x (by omega)) ⟨e,?_⟩
 exact hQ _ _ (BN _ e rfl) (B6 ..)
def sU{N:List Str}{js:List (Option Nat)}{scope:Scope}{tg ai ad:Expr}{ao:List Expr}{cl:List (Str×Az)}{pos:Pos}{it:Az}{fp:List Az}{tn:Nat->Heap->Prop}{J:It}{B:S9}{H2:Hp}{E:V9->S9->Prop}
  {RR:V9->Az->Result->S9->Prop} {Q:VK} (hc:X.calm=true) (aa:Caps X scope N js) (P:scope.kind=.function) (s:∀ y∈scope.names,y.2≠.cell)
  (f:∀ x c,cl.lookup x=some c->X.env.cells.lookup x=some c) (af:∀ x∈scope.names,x.2=.free->∃ c,cl.lookup x.1=some c)
  (I:Inv X pins σ H2 B) (T:Turn X.prog X.w X.K tg J fp it tn) (be:tn 0 B.heap) (f2:∀ b∈fp,g8 X pins H2 b) (n:Nat) (W:Nat->List V->Hp->Prop) (hn:n<=sizeLine) (w0:W 0 [] H2)
  (turn:∀ i ys H,W i ys H->ys.length<=i/\((J.stop i H/\∀ p,H p=none->Q (.ref p) (upd H p (.lst ys)))\/(J.go i H/\i < n/\∃ R:Option V->Hp->Prop,(∀ y H2,R (some y) H2->W (i+1) (ys++[y]) H2)/\(∀ H2,R none H2->W (i+1) ys H2) /\
   ∀ x H',J.yld i H x H'->uG X N scope js tg ai ao σ x H' R)))
  (bp:∀ D C ys H' s',CompEnd X pins σ D C ys H' s'->Q (.ref D) (upd H' D (.lst ys))->RR (.ref D) C (.ok .next) s') :
  wpAny (model X.prog X.w) X.A (newList []) (fun acc s3=>wpAny (model X.prog X.w) X.A (newFunctionEnv scope X.env.globals cl [] X.env.qual none .none (some X.env)) (fun cenv s4=>
   codeAny (model X.prog X.w) X.A (.compStart (.ListComp ai [⟨tg,ad,ao,0⟩] scope pos) 0 (.ref it) acc {cenv with scope:=relabel scope X.env}) (RR acc cenv.locals) s4) E s3) E B:=by
 refine CK (wpAny_newFunctionEnv s (by intro y hy;simp at hy) (fun G F h=>?_) P)
 dsimp only at F h ⊢
 generalize ah:B.heap.push {cls:=.type "list",dict:=none,data:=.seq ([]:List V9).toArray}=Hh at F h ⊢
 have hC:Hh.objs.size=B.heap.objs.size+1:=by rw[<-ah,BY]
 have Y:B.heap.objs.size≠Hh.objs.size:=by rw[hC];exact A2 (FT _)
 have M:B.heap.objs.size<=Hh.objs.size:=by rw[hC];exact Nat.le_succ _
 have U:∀ b o,B.heap.get? b=some o->G.get? b=some o:=fun b o e=>h.extBut b o (by rw[hC];exact A2 (G6 (AK e))) (AE _ (ah▸AE _ e))
 have ak:G.get? B.heap.objs.size=some {cls:=.type "list",dict:=none,data:=.seq ([]:List V9).toArray}:=h.extBut _ _ Y (AE _ (ah▸AT _ rfl))
 have bg:tn 0 G:=T.keep _ _ _ be fun b a o e=>U b o e
 have ac:∀ b∈fp,b < B.heap.objs.size:=fun b a=>by
  obtain ⟨o,e,_⟩:=T.obj _ _ be b a
  exact AK e
 have az:∀ b∈frs X.stack,b < B.heap.objs.size:=fun b a=>by
  rcases AS.mp (I.stkSub b a) with z|z
  .rw[z];exact I.lt
  .refine Nat.lt_of_not_le fun bv=>I.nofs bv z
 have bc:∀ b∈fp,b≠Hh.objs.size:=fun b a z=>BG _ (AW (ac b a) (z▸M))
 generalize hD:B.heap.objs.size=D at *
 generalize cb:Hh.objs.size=C at *
 let X':=f7 X N scope cl C B H2 fp
 have bh:X'.Ok:=by
  refine ⟨I.ok.mod,P,I.ok.glob,I.ok.blt,by show B.heap.objs.size<=C;rw[hD];exact M,fun x y c e1 e2=>I.ok.inj x y c (f x c e1) (f y c e2),fun x hx=>?_,fun x c z=>absurd (show false=true from z) A0,I.ok.hd,I.ok.frames,.inl rfl,fun b a=>?_,
   I.bs,A6 I.ok.bsz I.sz,fun b o e a=>?_,fun b a z=>?_,I.stack,I.stkFree⟩
  .have hm:(x,NameKind.free)∈scope.names:=by
    rcases hx with z|z
    .exact f6 (env:=X.env) z (.inl rfl) s
    .exact f6 (env:=X.env) z (.inr rfl) s
   exact af _ hm rfl
  .exact ⟨bc b a,fun x c e=>(f2 b a).2.2.2.2.1 x c (f x c e)⟩
  .rcases (f2 b a).2.2.2.1 with z|z
   .exact I.ok.noex b o e z
   .exact absurd (AK (I.ok.bs b o e).1) (C6.mpr z)
  .rcases AS.mp (I.stkSub b z) with q|q
   .exact (f2 b a).2.1 q
   .exact (f2 b a).2.2.1 q
 have ap:(j7 js σ).length=N.length:=by unfold j7;rw[AC,aa.len]
 have freeC:H2 C=none:=I.hok.fresh (by rw[hD];exact M)
 have S:H2 D=none:=I.hok.fresh (by rw[hD];exact AJ _)
 have DnotFs:D∉frs X.stack:=fun z=>BG _ (az D z)
 have DnotFp:D∉fp:=fun z=>BG _ (ac D z)
 have I0:∀ tk,Inv X' [] (j7 js σ) H2 {B with heap:=G,toks:=tk}:=fun tk=>by
  refine ⟨bh,rfl,I.bare,Un.kept U,⟨_,F,fun i x v e1 e2 e3=>?_⟩,fun x c e=>?_,freeC,fun x c e=>I.freeC x c (f x c e),fun p L=>absurd L (by show ¬ p∈([]++[]:List (Az×Obj));simp),I.hok.kept U,ap⟩
  .unfold j7 at e2
   rw[AN] at e2
   cases q:js[i]? with
   | none=>rw[q] at e2;cases e2
   | some o=>
    rw[q] at e2
    cases o with
    | none=>cases e2
    | some j=>
     have Z:(σ[j]?).join=some v:=BZ e2
     obtain ⟨c1,c2,c3⟩:=aa.get q e1
     have e4:σ[j]? = some (some v):=by
      cases z:σ[j]? with
      | none=>rw[z] at Z;cases Z
      | some u=>rw[z] at Z;have:u=some v:=Z;rw[this]
     obtain ⟨m,hm,hl⟩:=I.loc
     have bi:Vis X.env.scope x:=by
      rcases c2 with z|z
      · exact .inr (.inl z)
      · exact .inr (.inr z)
     obtain ⟨u,r,l⟩:=hl j x v c1 e4 bi
     refine ⟨u,r,.inr ⟨c3,?_⟩⟩
     have lc:∃ c,X.env.cells.lookup x=some c/\B.heap.IsCell c (some u):=by
      rcases l with ⟨k,_⟩|⟨_,z⟩
      · rcases c2 with z | z <;> (rw [k] at z; cases z)
      · exact z
     obtain ⟨c,e5,o,ho,hd⟩:=lc
     have bo:(x,NameKind.free)∈scope.names:=by
      rcases c3 with z|z
      · exact f6 (env := X.env) z (.inl rfl) s
      · exact f6 (env := X.env) z (.inr rfl) s
     obtain ⟨c',e6⟩:=af _ bo rfl
     have e7:=f _ _ e6
     rw[e5] at e7;cases e7
     exact ⟨c,e6,o,U c o ho,hd⟩
  .obtain ⟨v,o,ho,hd⟩:=I.cell x c (f x c e)
   exact ⟨v,o,U c o ho,hd⟩
 have ae:∀ {H':Hp} {pl:List (Az×Obj)},(∀ b∈fp,H' b=none)->(∀ b∈fp,∀ p∈pl,p.1≠b)->∀ b∈fp,g8 X' pl H' b:=fun {H' pl} hn hpl b a=>by
  refine ⟨hn b a,bc b a,bh.exfs b a,.inl a,fun x c e=>(f2 b a).2.2.2.2.1 x c (f x c e),fun p L=>hpl b a p ?_⟩
  have bq:p∈[]++pl:=L
  simpa using bq
 let LI:Nat->S9->Prop:=fun k s'=>∃ i ys its nn σ' H',k=n+1 - i/\i<=n/\W i ys H'/\tn i s'.heap/\(∀ b∈fp,H' b=none)/\bB ys its/\dL (j7 js σ) σ' /\
  Inv X' [(D,{cls:=.type "list",dict:=none,data:=.seq its.toArray nn})] σ' H' s'
 have ag:∀ tk,codeAny (model X.prog X.w) X.A (.compLoop (.ListComp ai [⟨tg,ad,ao,0⟩] scope pos) 0 (.ref it) (.ref D) (compEnvC scope cl C X.env)) (RR (.ref D) C) {B with heap:=G,toks:=tk}:=by
  intro tk
  refine xO LI ?_ (n+1) ⟨0,[],[],0,j7 js σ,H2,rfl,CU _,w0,bg,fun b a=>(f2 b a).1,.nil,dL.refl _,?_⟩
  .rintro k s3 ⟨i,ys,its,nn,σ3,H3,rfl,hin,w3,st3,fr3,r3,ks,I3⟩
   obtain ⟨aq,tr⟩:=turn i ys H3 w3
   have ba:=ae (pl:=[(D,{cls:=.type "list",dict:=none,data:=.seq its.toArray nn})]) fr3 (fun b a p L z=>by
    rw[AL.mp L] at z
    exact DnotFp ((show D=b from z)▸a))
   rcases tr with ⟨stop,q⟩|⟨go,bf,RW,bu,br,step⟩
   .refine thn (T.done X' rfl rfl rfl hc i _ s3 σ3 H3 _ I3 ba st3 stop) fun r s4 t=>?_
    obtain ⟨hr,I4⟩:=t
    subst hr
    show RR (.ref D) C (.ok .next) s4
    obtain ⟨pe,pn,p1,p2,p3⟩:=I4.pin (D,{cls:=.type "list",dict:=none,data:=.seq its.toArray nn}) (by show _∈[]++_;simp)
    refine bp D C ys H3 s4 ?_ (q D pn)
    have bd:HOk X.prog X.w (upd H3 D (.lst ys)) s4.heap:=HOk.track I4.hok pn ⟨A6 aq (A6 hin hn),its,nn,r3,pe⟩
    have am:∀ b u,H2 b=some u->b≠D:=fun b u e z=>by rw[z,S] at e;cases e
    have bn:Un (frs X.stack) fp H2 (upd H3 D (.lst ys)) B.heap s4.heap:=by
     have ub:=I4.base
     refine ⟨ub.keep,ub.slot,fun b o e aj hx=>?_,ub.there,fun b xs e=>?_,fun b o u e=>?_,fun b ps e=>?_⟩
     .rw[aG (fun z=>by have:=AK e;rw[hD,z] at this;exact BG _ this)]
      exact ub.free b o e aj hx
     .rw[aG (am b _ e)];exact ub.tups b xs e
     .rw[aG (am b _ e)];exact ub.frzs b o u e
     .rw[aG (am b _ e)];exact ub.tbls b ps e
    refine ⟨I.call' I4.os bn bd I4.bare fun b a=>⟨(f2 b a).2.2.2.1,(f2 b a).2.1,(f2 b a).2.2.2.2.1,(f2 b a).2.2.2.2.2⟩,?_,?_,pn⟩
    .obtain ⟨m,hm,_⟩:=I4.loc
     exact ⟨m,hm⟩
    .refine I.fpOk (by rw[hD];exact M) ?_
     rw[aG (Ne.symm Y)]
     exact I4.free
   .refine thn (T.item X' rfl rfl rfl hc i _ s3 σ3 H3 _ I3 ba st3 go) fun r s4 t=>?_
    obtain ⟨u,hr,h4⟩:=t
    subst hr
    show wpAny _ _ (letOwnedTupleGo tg (.ref it) u) _ _ s4
    refine thn h4 fun _ s5 t=>?_
    obtain ⟨x,H5,I5,r5,y5,al,bx⟩:=t
    obtain ⟨g,tt,te,hg,ht,he,hq⟩:=step x H5 y5 cl C B H2 fp
    have ay:=ae (pl:=[(D,{cls:=.type "list",dict:=none,data:=.seq its.toArray nn})]) bx (fun b a p L z=>by
     rw[AL.mp L] at z
     exact DnotFp ((show D=b from z)▸a))
    have bw:=I5.pinned ay (T.obj _ _ al)
    refine thn (hg _ s5 σ3 H5 x u _ bw r5 (hq σ3 ks)) fun _ s6 t=>?_
    obtain ⟨O,H6,I6,av,q6⟩:=t
    refine thn (ht _ s6 O H6 _ I6 q6) fun b s7 t=>?_
    obtain ⟨H7,I7,q7⟩:=t
    have au:∀ {s':S9} {H':Hp} {σ':St},Inv X' ([(D,{cls:=.type "list",dict:=none,data:=.seq its.toArray nn})]++o0 fp s5.heap) σ' H' s'->tn (i+1) s'.heap/\(∀ b∈fp,H' b=none):=fun {s' H' σ'} I'=>by
     refine ⟨T.keep _ _ _ al fun b a o e=>(I'.pin (b,o) (BV _ (BV _ (jT a e)))).1,fun b a=>?_⟩
     obtain ⟨o,e,d⟩:=T.obj _ _ al b a
     exact (I'.pin (b,o) (BV _ (BV _ (jT a e)))).2.1
    cases b with
    | false=>
     rw[if_neg A0] at q7 ⊢
     obtain ⟨a1,a2⟩:=au I7
     exact ⟨n+1 - (i+1),by omega,i+1,ys,its,nn,O,H7,rfl,bf,br _ q7,a1,a2,r3,av,I7.unpinned⟩
    | true=>
     rw[if_pos rfl] at q7 ⊢
     refine thn (he _ s7 O H7 _ I7 q7) fun yv s8 t=>?_
     obtain ⟨y,H8,I8,r8,q8⟩:=t
     obtain ⟨a1,a2⟩:=au I8
     have I8u:=I8.unpinned
     obtain ⟨pe,pn,p1,p2,p3⟩:=I8u.pin (D,{cls:=.type "list",dict:=none,data:=.seq its.toArray nn}) (by show _∈[]++_;simp)
     have bz:s8.heap.IsList D its.toArray:=PySem.IsL.isList pe
     have bj:its.length<=sizeLine:=by rw[<-r3.length];exact A6 aq (A6 hin hn)
     refine xP pe (by simpa using bj) fun aj h9 e9 ax=>?_
     have I9:Inv X' [] O H8 {s8 with heap:=h9,toks:=s8.toks}:=by
      refine Inv.turned (pins:=[]) (it:=D) (t':=s8.toks) (I8u.pins_of (pins':=[]) fun p L=>absurd L (by simp)) (fun b o a e=>(ax.2 b a).trans e) pn Y (.inr (by show B.heap.objs.size<=D;rw[hD];exact AJ _)) (fun x c e z=>?_) fun p L=>absurd L (by show ¬ p∈([]++[]:List (Az×Obj));simp)
      obtain ⟨v,o,ho,hd⟩:=I.cell x c (f x c e)
      have:=AK ho
      rw[hD,z] at this
      exact BG _ this
     refine ⟨n+1 - (i+1),by omega,i+1,ys++[y],its++[yv],aj,O,H8,rfl,bf,bu _ _ q8,?_,a2,bB.append r3 (.cons r8 .nil),av,?_⟩
     .exact T.keep _ _ _ a1 fun b a o e=>(ax.2 b (fun z=>DnotFp (z▸a))).trans e
     .refine I9.pins_of fun p L=>?_
      obtain rfl:=AL.mp L
      exact ⟨by simpa using e9,pn,p1,p2,by simp⟩
  .refine (I0 tk).pins_of fun p L=>?_
   obtain rfl:=AL.mp L
   exact ⟨ak,S,Y,DnotFs,by simp⟩
 exact codeAny_compStart_list (ag _) (T.self X.A 0 _ _ _ bg (ag _))
def eI(names:List (Str×NameKind))(outer:Str->Option NameKind):Bool:=
 names.all (fun y=>y.2 != .cell) && names.all (fun y=>y.2 != .local || names.lookup y.1 == some .local) && names.all (fun y=>y.2 != .free || outer y.1 == some .cell || outer y.1 == some .free)
def eI.cell{names:List (Str×NameKind)}{outer:Str->Option NameKind}(h:eI names outer=true):∀ y∈names,y.2≠.cell:=fun y a=>by
 unfold eI at h
 simp only[AM,A1] at h
 simpa using h.1.1 y a
theorem eI.names{names:List (Str×NameKind)}{outer:Str->Option NameKind}(h:eI names outer=true):∀ y∈names,y.2=.local->names.lookup y.1=some .local:=fun y a e=>by
 unfold eI at h
 simp only[AM,A1] at h
 have:=h.1.2 y a
 rw[e] at this
 simpa using this
def eI.free{names:List (Str×NameKind)}{outer:Str->Option NameKind}(h:eI names outer=true):∀ y∈names,y.2=.free->outer y.1=some .cell\/outer y.1=some .free:=fun y a e=>by
 unfold eI at h
 simp only[AM,A1] at h
 have:=h.2 y a
 rw[e] at this
 simpa using this
def m6{N:List Str}{js:List (Option Nat)}{scope:Scope}{tg d b:Expr}{e:List Expr}{pos:Pos}{k:TI}(y:X.calm=true)(c:Caps X scope N js)(hok:eI scope.names X.env.kindOf=true)
  (hi:PI X tg b k) (a:scope.kind=.function:=by rfl) (hs:∀ x,foldedSetIterable b X.env x=pure x:=by intro _;rfl) :
  PE X (.ListComp d [⟨tg,b,e,0⟩] scope pos) (sT X N scope js tg d e k):=by
 intro pins s σ H Q I h
 obtain ⟨cl,e1,e2,e3⟩:=sS (env:=X.env) (scope:=scope) fun x hx l=>I.ok.has _ (eI.free hok x hx l)
 rw[eval_ListComp]
 refine HI (use:=none) rfl hs e1 a (eI.names hok) (thn (hi pins s σ H _ I h) fun v s1 h1=>thn h1 fun p B h2=>?_)
 obtain ⟨it,fp,z,J,H2,rfl,r,T,j,f2,n,W,u,t,turn⟩:=h2
 refine sU (RR:=fun f C=>compPost (model X.prog X.w) X.A X.xe none (EP X pins σ Q) f C) (Q:=Q) y c a (eI.cell hok) e2 e3 r T j f2 n W u t turn ?_
 intro D C ys H' s' i q
 obtain ⟨m,o⟩:=i.ns
 exact ⟨m,o,fun h' g=>⟨.ref D,_,CompEnd.gone (D:=D) (ys:=ys) (H':=H') i.inv i.fp g,rfl,q⟩⟩
def sV{i:Nat}{x:Str}{N:List Str}{js:List (Option Nat)}{scope:Scope}{tg f c:Expr}{g:List Expr}{pos b j:Pos}{G:TI}(hN:X.N.Nodup)(F:X.N[i]? = some x)(hx:Loc X.env.scope x)
  (p:swapsWith (.ListComp f [⟨tg,c,g,0⟩] scope pos) (some (.Name x b)) j.line X.env=pure true) (Y:X.calm=true) (k:Caps X scope N js) (hok:eI scope.names X.env.kindOf=true)
  (hi:PI X tg c G) (d:scope.kind=.function:=by rfl) (o:X.fn x=true\/X.env.scope.names.lookup x=some .local:=by exact .inl rfl) (hs:∀ x,foldedSetIterable c X.env x=pure x:=by intro _;rfl) :
  PS X (.Assign [.Name x b] (.ListComp f [⟨tg,c,g,0⟩] scope pos) j) (iR (sT X N scope js tg f g G) (h8 i)):=by
 intro pins s σ H D I h
 obtain ⟨cl,e1,e2,e3⟩:=sS (env:=X.env) (scope:=scope) fun x hx o=>I.ok.has _ (eI.free hok x hx o)
 rw[exec_Assign_Name_used _ _ _ _ p]
 refine AB (DV (AB ?_))
 show wpAny _ X.A (do let _ <-comprehension (.ListComp f [⟨tg,c,g,0⟩] scope pos) scope X.env _ (newList []) false (eval c X.env) (some (assign (.Name x b) X.env))) _ _ s
 refine AB (BX (HI (use:=some (assign (.Name x b) X.env)) (Q:=fun _ s'=>SP X pins D .next s') rfl hs e1 d (eI.names hok)
  (thn (hi pins s σ H _ I h) fun v s1 h1=>thn h1 fun P s2 h2=>?_)) (fun _ s' Z=>AD (AD Z)) fun _ _ e=>e)
 obtain ⟨it,fp,tn,J,H2,rfl,R,T,E,f2,n,W,V,U,turn⟩:=h2
 refine sU (RR:=fun r C=>compPost (model X.prog X.w) X.A X.xe (some (assign (.Name x b) X.env)) (fun _ s'=>SP X pins D .next s') r C) (Q:=fun v H'=>D.nx (σ.set i (some v)) H') Y k d (eI.cell hok) e2 e3 R T E f2 n W V U turn ?_
 intro L C ys H' s' l q
 show wpAny _ X.A (assign (.Name x b) X.env (.ref L)) _ _ s'
 refine wpAny_assign_Name (vW (v:=.ref L) l.inv hN F hx rfl (fun S B K=>?_) o)
 obtain ⟨a,t,ha⟩:=K
 have u:C≠a:=by
  rcases ha with z|z
  · rw [z]; exact l.fp.2.1
  · exact fun O => l.fp.2.2.2.2.1 x a z O.symm
 obtain ⟨m,M⟩:=l.ns
 exact ⟨m,M.sameBut t u,fun h' y=>⟨_,_,CompEnd.gone (D:=L) (ys:=ys) (H':=H') B l.fp y,q⟩⟩
end
def aIL(W:Nat->List V->Hp->Prop)(i:Nat)(ys:List V):Option V->Hp->Prop
 | some y,H=>W (i+1) (ys++[y]) H
 | none,H=>W (i+1) ys H
def aJP{X:Cx}{J:It}{N:List Str}{scope:Scope}{js:List (Option Nat)}{tg b:Expr}{a:List Expr}{σ:St}{Q:VK}{n:Nat}{H1:Hp}(W:Nat->List V->Hp->Prop)(hz:n<=sizeLine)(g:W 0 [] H1)
  (f:∀ i ys H,i<=n->W i ys H->ys.length<=i) (c:∀ i ys H,i < n->W i ys H->J.go i H) (d:∀ ys H,W n ys H->J.stop n H)
  (step:∀ i x ys H H',i < n->W i ys H->J.yld i H x H'->uG X N scope js tg b a σ x H' (aIL W i ys))
  (done:∀ ys H,W n ys H->∀ p,H p=none->Q (.ref p) (upd H p (.lst ys))) :
  compK X N scope js tg b a σ Q J H1:=by
 refine ⟨n,fun i ys H=>i<=n/\W i ys H,hz,⟨CU _,g⟩,?_⟩
 rintro i ys H ⟨hi,w⟩
 refine ⟨f i ys H hi w,?_⟩
 by_cases hlt:i < n
 .exact .inr ⟨c i ys H hlt w,hlt,aIL W i ys,fun y H2 q=>⟨hlt,q⟩,fun H2 q=>⟨hlt,q⟩,fun x H' y=>step i x ys H H' hlt w y⟩
 .have e:i=n:=by omega
  subst e
  exact .inl ⟨d ys H w,done ys H w⟩
mutual
inductive DatV(K:Frag)(H:Hp):V->D9->Prop
 | non:DatV K H .non .none
 | bl (b:Bool):DatV K H (.bl b) (.bool b)
 | int (i:Int):DatV K H (.int i) (.int i)
 | str (x:Str):DatV K H (.str x) (.str x)
 | lst {a:Az} {xs:List V} {ds:List D9}:SqL K H a xs->DatVs K H xs ds->DatV K H (.ref a) (.list ds)
 | tup {a:Az} {xs:List V} {ds:List D9}:SqT K H a xs->DatVs K H xs ds->DatV K H (.ref a) (.tuple ds)
inductive DatVs(K:Frag)(H:Hp):List V->List D9->Prop
 | nil:DatVs K H [] []
 | cons {x:V} {d:D9} {xs:List V} {ds:List D9}:DatV K H x d->DatVs K H xs ds->DatVs K H (x::xs) (d::ds)
end
section
variable{X:Cx}{pins:List (Az×Obj)}{σ:St}{H:Hp}{s:S9}
def DatV.reads(I:Inv X pins σ H s){x:V}{d:D9}{u:V9}(h:DatV X.K H x d)(r:aY x u):∃ as,Reads s.heap u d as:=by
 refine DatV.rec (motive_1:=fun x d _=>∀ u,aY x u->∃ as,Reads s.heap u d as) (motive_2:=fun xs ds _=>∀ us,bB xs us->∃ as,ReadsAll s.heap us ds as) ?_ ?_ ?_ ?_ ?_ ?_ ?_ ?_ h u r
 .intro u r;cases r;exact ⟨_,.none⟩
 .intro b u r;cases r;exact ⟨_,.bool b⟩
 .intro i u r;obtain ⟨t,rfl⟩:=r;exact ⟨_,.int i t⟩
 .intro x u r;obtain ⟨t,rfl⟩:=r;exact ⟨_,.str x t⟩
 .intro a xs ds h _ g u r
  cases r
  obtain ⟨j,f,p,hz⟩:=I.list h
  obtain ⟨o,e,c,n,d⟩:=p.isList
  obtain ⟨as,q⟩:=g _ f
  exact ⟨_,.list e c d (by simpa using q)⟩
 .intro a xs ds h _ g u r
  cases r
  obtain ⟨j,f,p,hz⟩:=I.tuple h
  obtain ⟨o,e,c,n,d⟩:=p
  obtain ⟨as,q⟩:=g _ f
  exact ⟨_,.tuple e c d (by simpa using q)⟩
 .intro us r;cases r;exact ⟨_,.nil⟩
 .intro x d xs ds _ _ i1 i2 us r
  cases r with
  | cons r1 r2=>
   obtain ⟨as,q⟩:=i1 _ r1
   obtain ⟨bs,k⟩:=i2 _ r2
   exact ⟨_,.cons q k⟩
def aMX(i:X.A.units+64 < cLine):OpR X (compareOp .Eq) (fun x y H Q=>∃ d e,DatV X.K H x d/\DatV X.K H y e/\SeqAt.shaped d=true/\SeqAt.shaped e=true/\Q (.bl (PyData.eqv d e)) H):=by
 intro pins s σ H x y u v Q I b c h
 obtain ⟨d,e,hx,g,f,a,q⟩:=h
 obtain ⟨j,r1⟩:=hx.reads I b
 obtain ⟨bs,r2⟩:=g.reads I c
 exact eq_dataH r1 r2 f a i ⟨.bl _,H,I,rfl,q⟩
def aMY(i:X.A.units+64 < cLine):OpR X (compareOp .NotEq) (fun x y H Q=>∃ d e,DatV X.K H x d/\DatV X.K H y e/\SeqAt.shaped d=true/\SeqAt.shaped e=true/\Q (.bl (!PyData.eqv d e)) H):=by
 intro pins s σ H x y u v Q I b c h
 obtain ⟨d,e,hx,g,f,a,q⟩:=h
 obtain ⟨j,r1⟩:=hx.reads I b
 obtain ⟨bs,r2⟩:=g.reads I c
 exact ne_dataH r1 r2 f a i ⟨.bl _,H,I,rfl,q⟩
end
def SqL.same{K:Frag}{H H':Hp}{a:Az}{xs:List V}(e:aH H H')(h:SqL K H a xs):SqL K H' a xs:=aH.seq e h
def SqT.same{K:Frag}{H H':Hp}{a:Az}{xs:List V}(e:aH H H')(h:SqT K H a xs):SqT K H' a xs:=by
 rcases h with (h|⟨o,h⟩)|h
 · exact .inl (.inl (e _ _ h))
 · exact .inl (.inr ⟨o, e _ _ h⟩)
 · exact .inr h
def DatV.same{K:Frag}{H H':Hp}(e:aH H H'){x:V}{d:D9}(h:DatV K H x d):DatV K H' x d:=
 DatV.rec (motive_1:=fun x d _=>DatV K H' x d) (motive_2:=fun xs ds _=>DatVs K H' xs ds) .non .bl .int .str (fun h _ q=>.lst (h.same e) q) (fun h _ q=>.tup (h.same e) q) .nil (fun _ _ p q=>.cons p q) h
def DatVs.same{K:Frag}{H H':Hp}(e:aH H H'){xs:List V}{ds:List D9}(h:DatVs K H xs ds):DatVs K H' xs ds:=
 DatVs.rec (motive_1:=fun x d _=>DatV K H' x d) (motive_2:=fun xs ds _=>DatVs K H' xs ds) .non .bl .int .str (fun h _ q=>.lst (h.same e) q) (fun h _ q=>.tup (h.same e) q) .nil (fun _ _ p q=>.cons p q) h
theorem aH.upd{H:Hp}{a:Az}{o:HO}(h:H a=none):aH H (upd H a o):=fun b u e=>by rw[aG (bC e h)];exact e
theorem DatVs.length{K:Frag}{H:Hp}:∀ {xs:List V} {ds:List D9},DatVs K H xs ds->xs.length=ds.length
 | _,_,.nil=>rfl
 | _,_,.cons _ t=>by simp[DatVs.length t]
theorem DatVs.append{K:Frag}{H:Hp}:∀ {xs ys:List V} {ds es:List D9},DatVs K H xs ds->DatVs K H ys es->DatVs K H (xs++ys) (ds++es)
 | _,_,_,_,.nil,h=>h
 | _,_,_,_,.cons a t,h=>.cons a (DatVs.append t h)
theorem DatVs.get{K:Frag}{H:Hp}:∀ {xs:List V} {ds:List D9} {i:Nat} {x:V},DatVs K H xs ds->xs[i]? = some x->∃ d,ds[i]? = some d/\DatV K H x d
 | _,_,_,_,.nil,e=>by simp at e
 | _,_,0,_,.cons a t,e=>by simp at e;subst e;exact ⟨_,by simp,a⟩
 | _,_,i+1,x,.cons a t,e=>by
  obtain ⟨d,h1,h2⟩:=DatVs.get (i:=i) (x:=x) t (by simpa using e)
  exact ⟨d,by simpa using h1,h2⟩
theorem DatVs.get'{K:Frag}{H:Hp}:∀ {xs:List V} {ds:List D9} {i:Nat} {d:D9},DatVs K H xs ds->ds[i]? = some d->∃ x,xs[i]? = some x/\DatV K H x d
 | _,_,_,_,.nil,e=>by simp at e
 | _,_,0,_,.cons a t,e=>by simp at e;subst e;exact ⟨_,by simp,a⟩
 | _,_,i+1,x,.cons a t,e=>by
  obtain ⟨d,h1,h2⟩:=DatVs.get' (i:=i) (d:=x) t (by simpa using e)
  exact ⟨d,by simpa using h1,h2⟩
theorem DatVs.drop{K:Frag}{H:Hp}:∀ {xs:List V} {ds:List D9} (n:Nat),DatVs K H xs ds->DatVs K H (xs.drop n) (ds.drop n)
 | _,_,0,h=>h
 | _,_,_+1,.nil=>.nil
 | _,_,n+1,.cons _ t=>DatVs.drop n t
theorem DatVs.take{K:Frag}{H:Hp}:∀ {xs:List V} {ds:List D9} (n:Nat),DatVs K H xs ds->DatVs K H (xs.take n) (ds.take n)
 | _,_,0,_=>.nil
 | _,_,_+1,.nil=>.nil
 | _,_,n+1,.cons a t=>.cons a (DatVs.take n t)
end L2
namespace SX
open PySem PySem.W
section
variable{prog:Program}{w:World}{A:Around}{E:V9->S9->Prop}{h:Heap}{g:Array GenState}{d:Drawn}{t:Nat}{os:OsState}{K:Frag}
variable{nm q:Str}{C N:Az}{bs bm bmB:List V9}{hdct:Bool}{sn:List Str}{sub:List V9}{ab:Bool}{col:Option Bool}{dd:Option Az}{k0 k1 k2 k3 k5:Option V9}{B newId initId:String}
structure BmOk(B:String)(bm:List V9):Prop where
 hasB:bm.contains (.type B)=true
 hasBase:bm.contains (.type "BaseException")=true
 noAttr:bm.contains (.type "AttributeError")=false
 noName:bm.contains (.type "NameError")=false
def sW{M:Model}{env:Env}{s:S9}{x:Sem V9}{Q:Flow->S9->Prop}(T:BmOk B bm)(h:A.handled=none)
  (hx:wpAny M A x (fun v s₁=>∃ e od vs,v=.ref e/\s₁.heap.get? C=some (excClassObj nm q C N bs bm hdct sn sub ab col dd k0 k1 k2 k3 k5 newId) /\
   s₁.heap.get? e=some {cls:=.ref C,dict:=od,data:=.fields vs}/\vs[1]? = some .none/\E (.ref e) s₁) E s) :
  wpAny M A (raiseStmt env (some x) none) Q E s:=by
 have b:(Value.ref C::bm).contains (.type "BaseException")=true:=by rw[List.contains_cons,T.hasBase,Bool.or_true]
 unfold raiseStmt
 refine AB (BX hx (fun v s₁ a=>?_) fun _ _ x=>x)
 obtain ⟨e,od,vs,rfl,c,f,h1,i⟩:=a
 obtain ⟨j,g,d,tk,os⟩:=s₁
 repeat (first|with_reducible refine FH f ?_|with_reducible refine FH c ?_|(with_reducible refine GM c ?_;rw[b])|(with_reducible refine BJ f rfl h1 ?_)|wp_step)
 exact wpAny_raiseNew_none h i
end
end SX
namespace SX
open PySem PySem.W PySem.Builtin PySem.Builtin.ObjectAttr
abbrev iT:List V9:=[.type "ValueError",.type "Exception",.type "BaseException",.type "object"]
structure ExcC(K:Frag)(W C:Az):Prop where
 lk:∃ nm q N bs sn sub ab col dd k0 k1 k2 k3 k5,K.lookup C=some (excClassObj nm q C N bs (.ref W::iT) true sn sub ab col dd k0 k1 k2 k3 k5 "ValueError.__new__")
 sa:findIn K (.ref C) "__setattr__"=some (some (.builtin "object.__setattr__"))
 ga:findIn K (.ref C) "__getattribute__"=some (some (.builtin "BaseException.__getattribute__"))
 gh:findIn K (.ref C) "__getattr__"=some none
 cl:findIn K (.ref C) "__class__"=some (some (.builtin "object.__class__"))
 clg:specialIn K (.builtin "object.__class__") "__get__"=some (some (.builtin "getset_descriptor.__get__"))
 clt:takesIn K (.builtin "object.__class__")=some true
 kp:keepIn K (.ref C)=true
def aGJ(W:Az):BmOk "ValueError" (.ref W::iT):=⟨by simp[iT],by simp[iT],by simp[iT],by simp[iT]⟩
def passes(self:V9)(C W:Az):refuseLoop self "__setattr__" (.ref C::.ref W::iT)=pure ():=by
 rw[refuseLoop_ref,refuseLoop_ref]
 exact PySem.F.store_ValueError.passes self
def ExcC.cls{K:Frag}{W C:Az}(c:ExcC K W C):∃ cd:ClassData,clsIn K C=some cd/\cd.hasDict=true/\cd.mro=.ref C::.ref W::iT:=by
 obtain ⟨nm,q,N,bs,sn,sub,ab,col,dd,k0,k1,k2,k3,k5,e⟩:=c.lk
 exact ⟨_,by unfold clsIn;rw[e],rfl,rfl⟩
def ExcC.mro{K:Frag}{W C:Az}(c:ExcC K W C)(b:V9):mroIn K C b=some ((Value.ref C::.ref W::iT).contains b):=by
 obtain ⟨cd,h1,_,a⟩:=c.cls
 unfold mroIn
 rw[h1,FU,a]
 rfl
section
variable{prog:Program}{w:World}{A:Around}{E:V9->S9->Prop}{s:S9}{K:Frag}{W C x:Az}{name:Str}{v:V9}{vs:Array V9}
def aDW{od:Option Az}{o:Option Obj}{Q:Option V9->S9->Prop}(X:K.In s.heap)(c:ExcC K W C)(I:InstAt s.heap x ⟨.ref C,od,.fields vs,#[]⟩ C o)(h:Q (some (.ref C)) {s with toks:=s.toks+1}) :
  wpAny (model prog w) A (getAttr? (.ref x) "__class__") Q E s:=by
 obtain ⟨f,g,d,t,os⟩:=s
 obtain ⟨cd,e,hdct,i⟩:=c.cls
 have b:=I.type (M:=model prog w)
 have l:=looks_findIn (M:=model prog w) X c.ga
 have n:=looks_findIn (M:=model prog w) X c.gh
 have sub:Looks (model prog w) f (isInstance (.ref x) (.type "BaseException")) true:=b.andThen (looks_mroIn X (by rw[c.mro];simp[iT]))
 have k:findObj K C o "__class__"=some (.bind (.builtin "getset_descriptor.__get__") (.builtin "object.__class__")):=by
  unfold findObj
  rw[e,FU,c.cl,FU]
  simp only[c.clg,c.clt,FU]
 have j:=looks_find (M:=model prog w) X I k
 unfold getAttr?
 refine AB (wpAny_mkText ?_)
 unfold getAttrBy?
 refine AB (DF ?_)
 unfold getAttrBy
 refine B0 (AB (b.at (AB (l.at ?_))))
 show wpAny _ _ (getAttrByItsOwn _ _ _ _ _ _) _ _ _
 unfold getAttrByItsOwn
 refine AB ?_
 show wpAny _ _ (typeLookup (.ref C) "__getattr__") _ _ _
 refine n.at (AB (DF (B0 ?_)))
 unfold callGetattribute
 rw[show (false && onTheHeap (Value.builtin "BaseException.__getattribute__"))=false from rfl,if_neg A0]
 unfold boundAndCalled
 rw[GX.ga.bind]
 refine AB (AD ?_)
 have m:builtinKind "BaseException.__getattribute__"=some .slot:=by decide +kernel
 have a:splitId "BaseException.__getattribute__"=some ("BaseException","__getattribute__"):=by decide +kernel
 refine HA (codeAny_call_builtin GX.ga.plain PySem.F.entry_bexc_ga (@check_slot (model prog w) _ _ _ "BaseException.__getattribute__" "BaseException" "__getattribute__" (.ref x) [.str "__class__" t] [] _ m a sub (PySem.F.args_bexc_ga (.ref x) (.str "__class__" t)) ?_))
 refine AB (AD (AB (AD ?_)))
 refine AB (b.at (AB (j.at ?_)))
 show wpAny _ _ (holding [.builtin "object.__class__"] (call (.builtin "getset_descriptor.__get__") [.builtin "object.__class__",.ref x,.ref C]) >>= ret) _ _ _
 refine AB (B0 (HA (class_get (s:=⟨f,g,d,t+1,os⟩) X I (by rw[c.mro];simp[iT]) ?_)))
 refine AD ?_
 show wpAny _ _ (handedOut (.ref C)) _ _ _
 exact AD (AD h)
def aGK{od:Option Az}{o:Option Obj}(c:ExcC K W C):KitX K (.ref x) (.ref C) (fun h=>InstAt h x ⟨.ref C,od,.fields vs,#[]⟩ C o) where
 ty:=fun _ _ _ I=>I.type
 it:=fun _ _ X _=>by
  obtain ⟨nm,q,N,bs,sn,sub,ab,col,dd,k0,k1,k2,k3,k5,e⟩:=c.lk
  intro l j i s' k q
  unfold isType loadHead
  exact AB (wpAny_loadPart (k _ _ (X _ _ e)) (AD q))
 ne:=fun h d dd b n sl X a=>by
  obtain ⟨nm,q,N,bs,sn,sub,ab,col,dd,k0,k1,k2,k3,k5,e⟩:=c.lk
  refine Bool.eq_false_iff.mpr fun q=>?_
  have g:C=d:=Value.ref.inj (beq_iff_eq.mp q)
  subst g
  have z:=(X _ _ e).symm.trans a
  have f:Value.type "type"=Value.type "tuple":=DW Obj.cls (BZ z)
  exact absurd (Value.type.inj f) (by decide)
 ca:=fun X I k=>aDW X c I k
def sX{od:Option Az}{o:Option Obj}{a:V9}{b:Bool}{Q:V9->S9->Prop}(X:K.In s.heap)(c:ExcC K W C)(I:InstAt s.heap x ⟨.ref C,od,.fields vs,#[]⟩ C o)(e:kitOne K (.ref C) a=some b)(h:∀ tk,Q (.bool b) {s with toks:=tk}) :
 wpAny (model prog w) A (call (.builtin "isinstance") [.ref x,a]) Q E s:=kia_one (aGK c) X I e (fun z=>nomatch z) h
end
end SX
namespace SX
open PySem PySem.W
def rQ(h:Heap)(vs:Array V9)(e:Az)(T:Option Az):Prop:=
 match T with
 | none=>vs[1]? = some .none
 | some t=>vs[1]? = some (.ref t)/\t≠e/\∃ oT ts x,h.get? t=some oT/\oT.data=.fields ts/\ts[3]? = some x
section
variable{M:Model}{A:Around}{E:V9->S9->Prop}{s:S9}
structure Noted(FL:List Az)(e:Az)(T:Option Az)(C:Az)(od:Option Az)(h h':Heap)(T':Option Az):Prop where
 keep:∀ b o,b∉FL->b≠e->(∀ t,T=some t->b≠t)->h.get? b=some o->h'.get? b=some o
 slot:∀ b o,b∈FL->h.get? b=some o->∃ sl,h'.get? b=some {o with slots:=sl}
 exc:∃ vs,h'.get? e=some ⟨.ref C,od,.fields vs,#[]⟩/\rQ h' vs e T'
 new:(∃ t,T'=some t/\h.objs.size<=t)\/(T'=T/\T≠none)
 there:∀ t o,T=some t->h.get? t=some o->∃ o',h'.get? t=some o'
def aGL{base:Heap}{env:Env}{outer:List Env}{L e C:Az}{od:Option Az}{vs:Array V9}{T:Option Az}{Q:Unit->S9->Prop}
  (ac:A.frames=some (env::outer)) (X:s.heap.FunFrames base (env::outer)) (hf:env.frame=some L) (H:s.heap.get? e=some ⟨.ref C,od,.fields vs,#[]⟩) (P:rQ s.heap vs e T)
  (h:∀ h' T',T'≠none->Noted ((env::outer).filterMap (·.frame)) e T C od s.heap h' T'->Q () {s with heap:=h'}) :
  wpAny M A (noteFrame (.ref e) env) Q E s:=by
 have N:∀ b∈(env::outer).filterMap (·.frame),∃ o,s.heap.get? b=some o/\∀ vs,o.data≠.fields vs:=fun b f=>(X.mem f).2
 have u:e∉(env::outer).filterMap (·.frame):=fun U=>by
  obtain ⟨o,p,n⟩:=N e U
  rw[H] at p;injection p with p;subst p;exact n vs rfl
 have O:1 < vs.size:=by
  unfold rQ at P
  cases T with
  | none=>exact (DX.mp P).1
  | some t=>exact (DX.mp P.1).1
 have r:∀ (v:Heap) (i:V9) (g:Bool),v.FunFrames base (env::outer)->v.objs.size=s.heap.objs.size->v.get? e=some ⟨.ref C,od,.fields vs,#[]⟩->
   (∀ b o,(∀ t,T=some t->b≠t)->s.heap.get? b=some o->v.get? b=some o)->(∀ t o,T=some t->s.heap.get? t=some o->∃ o',v.get? t=some o'/\t∉(env::outer).filterMap (·.frame)/\t≠e)->
   wpAny M A (do let a <-frameOf env;let pl <-entryPlaceOf L g;let b <-EntryCells.newEntry i a .none (rawInt L) .none pl;setField (.ref e) 1 b) Q E {s with heap:=v}:=by
  intro v i g aa hsz Z kp tp
  refine AB (wpAny_frameOf_fun (s:={s with heap:=v}) ac aa hf fun c d=>?_)
  refine AB (wpAny_entryPlaceOf fun pl K=>?_)
  unfold EntryCells.newEntry newFields
  refine AB (CK ?_ (K.sizeOk5 _ _ _ _ _))
  have m:c.get? e=some ⟨.ref C,od,.fields vs,#[]⟩:=(d.2.1 e u).trans Z
  have l:=AE (h:=c) {cls:=.type "traceback",dict:=none,data:=.fields ([i,.ref L,.none,rawInt L,.none]++(if pl.isEmpty then List.replicate 6 Value.none else pl)).toArray} m
  refine EA l rfl O ?_
  have I:c.objs.size≠e:=C3 (AK m)
  have w:=BN (Obj.mapFields (·.setIfInBounds 1 (Value.ref c.objs.size))) l rfl
  have y:=(CB (c.push {cls:=.type "traceback",dict:=none,data:=.fields ([i,.ref L,.none,rawInt L,.none]++(if pl.isEmpty then List.replicate 6 Value.none else pl)).toArray})
   (Obj.mapFields (·.setIfInBounds 1 (Value.ref c.objs.size))) (Ne.symm I)).trans (AT c rfl)
  have keep:∀ b o,b≠e->c.get? b=some o->
    ((c.push {cls:=.type "traceback",dict:=none,data:=.fields ([i,.ref L,.none,rawInt L,.none]++(if pl.isEmpty then List.replicate 6 Value.none else pl)).toArray}).update e (Obj.mapFields (·.setIfInBounds 1 (Value.ref c.objs.size)))).get? b=some o:=
   fun b o F f=>by
    rw[CB _ _ (Ne.symm F)]
    exact AE _ f
  refine h _ (some c.objs.size) (by simp) ⟨fun b o f F B q=>?_,fun b o f q=>?_,⟨vs.setIfInBounds 1 (.ref c.objs.size),?_,?_⟩,.inl ⟨_,rfl,by rw[d.1,hsz];exact AJ _⟩,fun t o e1 e2=>?_⟩
  .exact keep b o F ((d.2.1 b f).trans (kp b o B q))
  .have B:∀ t,T=some t->b≠t:=fun t e1 z=>by
    obtain ⟨o',R,S,_⟩:=tp t o e1 (z▸q)
    exact S (z▸f)
   obtain ⟨sl,R⟩:=d.2.2 b o (kp b o B q)
   exact ⟨sl,keep b _ (fun z=>u (z▸f)) R⟩
  .exact w
  .refine ⟨by simp[O],I,_,_,rawInt L,y,rfl,by first|(simp;done)|(rcases K with rfl|⟨_,_,_,_,_,_,_,rfl⟩<;>simp)⟩
  .obtain ⟨o',R,S,z3⟩:=tp t o e1 e2
   exact ⟨o',keep t o' z3 ((d.2.1 t S).trans R)⟩
 unfold noteFrame
 simp only[hf]
 cases T with
 | none=>
  refine AB (BJ H rfl P ?_)
  rw[if_neg (by decide)]
  exact r s.heap .none _ X rfl H (fun b o _ q=>q) (fun t o e1=>nomatch e1)
 | some t=>
  obtain ⟨J,D,oT,V,x,G,k,h3⟩:=P
  have W:t∉(env::outer).filterMap (·.frame):=fun U=>by
   obtain ⟨o,p,n⟩:=N t U
   rw[G] at p;injection p with p;subst p;exact n V k
  refine AB (BJ H rfl J ?_)
  rw[if_pos (show (Value.ref t != Value.none)=true from by simp)]
  refine AB (BJ G k h3 ?_)
  by_cases hx:(x == rawInt L)=true
  .rw[if_pos hx]
   refine AD (h s.heap (some t) (by simp) ⟨fun b o _ _ _ q=>q,fun b o _ q=>⟨o.slots,q⟩,⟨vs,H,J,D,oT,V,x,G,k,h3⟩,.inr ⟨rfl,by simp⟩,fun t' o e1 q=>⟨o,q⟩⟩)
  .rw[if_neg hx]
   refine AB (EA G k (DX.mp h3).1 ?_)
   have j:∀ b,b≠t->(s.heap.update t (Obj.mapFields (·.setIfInBounds 3 Value.none))).get? b=s.heap.get? b:=fun b f=>CB _ _ (Ne.symm f)
   have Y:=BN (Obj.mapFields (·.setIfInBounds 3 Value.none)) G (EO (DI k _))
   refine r (s.heap.update t (Obj.mapFields (·.setIfInBounds 3 Value.none))) _ _ (X.of_keeps fun b o f n=>⟨o,(j b fun q=>?_).trans f,rfl⟩) (B6 ..).1 ((j e (Ne.symm D)).trans H) (fun b o f q=>(j b (f t rfl)).trans q) (fun t' o e1 q=>?_)
   .rw[q,G] at f;injection f with f;subst f;exact n V k
   .cases e1
    exact ⟨_,Y,W,D⟩
def aB6{e C t:Az}{od:Option Az}{vs:Array V9}{fr:Option Az}{Q:Unit->S9->Prop}(i:s.heap.get? e=some ⟨.ref C,od,.fields vs,#[]⟩)(f:rQ s.heap vs e (some t))
  (h:∀ h',Heap.SameBut t s.heap h'->rQ h' vs e (some t)->Q () {s with heap:=h'}):wpAny M A (setFlight (.ref e) fr) Q E s:=by
 obtain ⟨b,c,oT,j,x,d,a,g⟩:=f
 unfold setFlight
 refine AB (BJ i rfl b ?_)
 rw[if_pos (show (Value.ref t != Value.none)=true from by simp)]
 have hsz:=(DX.mp g).1
 refine EA d a hsz (h _ (B6 ..) ⟨b,c,_,_,_,BN _ d (EO (DI a _)),DI a _,Array.getElem?_setIfInBounds_self_of_lt hsz⟩)
end
end SX
namespace L2
open PySem PySem.Spec PyProof.Rows
def ExN(e C:Az)(od:Option Az):HO:=.ext fun h=>∃ vs,h.get? e=some ⟨.ref C,od,.fields vs,#[]⟩/\vs[1]? = some .none
def ExO(e C:Az)(od:Option Az):HO:=.ext fun h=>∃ vs,h.get? e=some ⟨.ref C,od,.fields vs,#[]⟩
section
variable{P:Program}{w:World}{H:Hp}{h:Heap}{e C:Az}{od:Option Az}
def aDX{vs:Array V9}(a:h.get? e=some ⟨.ref C,od,.fields vs,#[]⟩):b8 P w H h e (ExO e C od):=
 ⟨⟨vs,a⟩,⟨_,a⟩,fun h1 h2 ⟨vs,a⟩ k=>⟨vs,k _ a⟩⟩
def xQ(ok:HOk P w H h)(q:H e=some (ExO e C od)):∃ vs,h.get? e=some ⟨.ref C,od,.fields vs,#[]⟩:=(ok e _ q).1
end
structure FlyAt(X:Cx)(H:Hp)(h:Heap)(e C:Az)(od:Option Az)(traced:Bool):Prop where
 tr:H e=some (ExO e C od)
 tb:∃ vs T,h.get? e=some ⟨.ref C,od,.fields vs,#[]⟩/\SX.rQ h vs e T/\(∀ t,T=some t->H t=none/\X.s₀.heap.objs.size<=t/\∀ p∈X.pn,p.1≠t)/\(traced=true->T≠none)
def Fly(X:Cx)(E:XK)(ev:V9)(s':S9):Prop:=∃ e C od σ H',ev=.ref e/\Inv X [] σ H' s'/\FlyAt X H' s'.heap e C od false/\E (.ref C) (some e) H'
abbrev Cx.fly(X:Cx)(E:XK):Cx:=X.wish (Fly X E)
def mG(X:Cx):Prop:=X.stack=X.env::X.outer/\X.env.frame=some X.env.locals
section
variable{X:Cx}{σ:St}{H:Hp}{s:S9}{e C:Az}{od:Option Az}{b:Bool}
def xR(I:Inv X [] σ H s){t:Az}{oT:Obj}{f:Array V9}(e:s.heap.get? t=some oT)(d:oT.data=.fields f):t≠X.env.locals/\(∀ x c,X.env.cells.lookup x=some c->c≠t):=by
 refine ⟨fun z=>?_,fun x c q z=>?_⟩
 .obtain ⟨m,⟨o,es,ep,b,a,_⟩,_⟩:=I.loc
  rw[<-z,e] at b;cases b;rw[d] at a;cases a
 .obtain ⟨v,o,b,a⟩:=I.cell x c q
  rw[z,e] at b;cases b;rw[d] at a;cases a
def nX{Q:Unit->S9->Prop}{E':V9->S9->Prop}(S:mG X)(I:Inv X [] σ H s)(f:FlyAt X H s.heap e C od b)(h:∀ s',Inv X [] σ H s'->FlyAt X H s'.heap e C od true->Q () s') :
  wpAny (model X.prog X.w) X.A (noteFrame (.ref e) X.env) Q E' s:=by
 obtain ⟨i,l⟩:=S
 obtain ⟨vs,T,he,K,F,_⟩:=f.tb
 have L:X.A.frames=some (X.env::X.outer):=by rw[<-i];exact I.ok.frames
 have Y:s.heap.FunFrames X.base (X.env::X.outer):=by have:=I.stack;rw[i] at this;exact this
 have B:(X.env::X.outer).filterMap (·.frame)=X.env.locals::X.fs:=by rw[E4,l];rfl
 refine SX.aGL (T:=T) L Y l he K fun h' T' E N=>?_
 rw[B] at N
 have trk:∀ c u,H c=some u->c∉X.env.locals::X.fs:=fun c u q z=>by
  have:=I.stkFree c (by unfold frs;rw[i,B];exact z)
  rw[q] at this;cases this
 have R:∀ c u,H c=some u->∀ t,T=some t->c≠t:=fun c u q t e1 z=>by
  have:=(F t e1).1
  rw[<-z,q] at this;cases this
 have y:HOk X.prog X.w H h':=fun c u q=>by
  by_cases d:c=e
  .subst d
   rw[f.tr] at q;cases q
   obtain ⟨g,a,_⟩:=N.exc
   exact aDX a
  .refine (I.hok c u q).stay (fun J v j a=>N.keep J v ?_ ?_ ?_ a) (fun _ q=>q) (fun _ _ q=>q) fun _ _ q=>q
   .rcases j with z|z
    .rw[z];exact trk c u q
    .exact trk J _ z
   .rcases j with z|z
    .rw[z];exact d
    .intro zz;rw[zz,f.tr] at z;cases z
   .rcases j with z|z
    .rw[z];exact R c u q
    .exact R J _ z
 have I':Inv X [] σ H {s with heap:=h',gens:=s.gens,drawn:=s.drawn,toks:=s.toks}:=by
  refine I.step (ch:=T.toList) (fun c d=>?_) (fun c o h1 h2 D q n=>?_) (fun c o h1 h2 D q n=>N.slot c o (AI _ h2) q) (fun _ _ _ _ n=>n) (fun c o D q=>?_) (fun _ _ q=>q) (fun _ _ _ q=>q) (fun _ _ q=>q) (fun m V=>?_) y I.bare
  .have e1:T=some c:=by cases T<;>simp at d;rw[d]
   obtain ⟨t1,P,U⟩:=F c e1
   rw[e1] at K
   obtain ⟨_,_,oT,ts,x,G,O,_⟩:=K
   obtain ⟨Z,a2⟩:=xR I G O
   exact ⟨.inr P,Z,a2,fun p M=>U p (by simpa using M)⟩
  .refine N.keep c o ?_ ?_ ?_ q
   .intro z
    rcases AS.mp z with z|z
    .exact h1 z
    .exact h2 z
   .intro z;rw[z,f.tr] at n;cases n
   .intro t e1 z;exact D (by rw[e1,z];simp)
  .by_cases d:c=e
   .subst d
    obtain ⟨g,a,_⟩:=N.exc
    exact ⟨_,a⟩
   .by_cases hF:c∈X.env.locals::X.fs
    .obtain ⟨sl,a⟩:=N.slot c o hF q
     exact ⟨_,a⟩
    .exact ⟨o,N.keep c o hF d (fun t e1 z=>D (by rw[e1,z];simp)) q⟩
  .obtain ⟨o,es,ep,W,r⟩:=V
   obtain ⟨sl,a⟩:=N.slot _ o AQ W
   exact ⟨_,es,ep,a,r⟩
 refine h _ I' ⟨f.tr,?_⟩
 obtain ⟨g,a,t'⟩:=N.exc
 refine ⟨g,T',a,t',fun t e1=>?_,fun _=>E⟩
 rcases N.new with ⟨P,e2,k⟩|⟨e2,_⟩
 .rw[e1] at e2;cases e2
  refine ⟨I.hok.fresh k,A6 I.sz k,fun p M z=>?_⟩
  have:=AK (I.pin p (CY _ M)).1
  rw[z] at this
  exact absurd (AW this k) (BG _)
 .exact F t (e2▸e1)
def m7{Q:Unit->S9->Prop}{B:V9->S9->Prop}{fr:Option Az}{A:Around}(I:Inv X [] σ H s)(f:FlyAt X H s.heap e C od true)(h:∀ s',Inv X [] σ H s'->FlyAt X H s'.heap e C od true->Q () s') :
  wpAny (model X.prog X.w) A (setFlight (.ref e) fr) Q B s:=by
 obtain ⟨vs,T,n,l,u,y⟩:=f.tb
 cases T with
 | none=>exact absurd rfl (y rfl)
 | some t=>
  obtain ⟨m,k,j⟩:=u t rfl
  refine SX.aB6 n l fun h' i d=>?_
  obtain ⟨_,c,oT,F,x,a,g,_⟩:=l
  obtain ⟨v,D⟩:=xR I a g
  have z:Inv X [] σ H {s with heap:=h'}:=I.turned (t':=s.toks) (it:=t) (fun b o r q=>(i.2 b r).trans q) m v (.inr k) D fun p E=>j p (by simpa using E)
  exact h _ z ⟨f.tr,vs,some t,(i.2 e (Ne.symm c)).trans n,d,fun t' e1=>by cases e1;exact ⟨m,k,j⟩,fun _=>by simp⟩
def aDY{Q:V9->S9->Prop}{a:V9->S9->Prop}{A:Around}(f:FlyAt X H s.heap e C od true)(h:∀ t,Q (.ref t) s):wpAny (model X.prog X.w) A (field (.ref e) 1) Q a s:=by
 obtain ⟨vs,T,d,b,g,c⟩:=f.tb
 cases T with
 | none=>exact absurd rfl (c rfl)
 | some t=>exact BJ d rfl b.1 (h t)
def c9{E:XK}(g:mG X):PassesOwn (model X.prog X.w) X.A X.env (Fly X E):=by
 rintro j s' ⟨e,C,od,σ,H,rfl,I,f,q⟩
 refine nX g I f fun k i f2=>?_
 unfold cameBackBy
 refine AB (aDY f2 fun t=>?_)
 rw[if_neg (by simp)]
 exact m7 i f2 fun l h d=>⟨e,C,od,σ,H,rfl,h,⟨d.tr,let ⟨vs,T,a,b,c,_⟩:=d.tb;⟨vs,T,a,b,c,fun z=>nomatch z⟩⟩,q⟩
end
def CXe(P:Program)(w:World):CXT:=fun outer H s E ev s'=>∃ e C od H',ev=.ref e/\s'.os=s.os/\AllBare s'.gens/\Un (frs outer) [] H H' s.heap s'.heap/\HOk P w H' s'.heap/\H' e=some (ExO e C od) /\
 (∃ vs T,s'.heap.get? e=some ⟨.ref C,od,.fields vs,#[]⟩/\SX.rQ s'.heap vs e T/\∀ t,T=some t->H' t=none/\s.heap.objs.size<=t)/\E (.ref C) (some e) H'
section
variable{X:Cx}
def bY{E f:XK}(j:∀ c e H,E c e H->f c e H):lQ (CXe X.prog X.w) (X.fly f) E:=by
 rintro pins σ H s m s' I ⟨e,C,od,H',rfl,os,bare,un,hok,he,⟨vs,T,q1,q2,q3⟩,q⟩
 have a:Inv X pins σ H s:=I.unwish
 have l:Inv X [] σ H s:=a.pins_of fun p d=>absurd d (by simp)
 have i:Inv X [] σ H' s':=l.call' os un hok bare (fun b h=>absurd h (by simp))
 refine ⟨e,C,od,σ,H',rfl,i,⟨he,vs,T,q1,q2,fun t e1=>?_,fun z=>nomatch z⟩,j _ _ _ q⟩
 obtain ⟨k,g⟩:=q3 t e1
 refine ⟨k,A6 a.sz g,fun p d z=>?_⟩
 have:=AK (a.pin p (CY _ d)).1
 rw[z] at this
 exact absurd (AW this g) (BG _)
def PSs.unfly{E:XK}{st:List Stmt}{t:TS}(h:PSs (X.fly E) st t)(hx:∀ e s',Fly X E e s'->X.xe e s'):PSs X st t:=fun pins s σ H D I hw=>
 BX (h pins s σ H D (I.wish _) hw) (fun f s' q=>SP.unwish q) hx
end
def v3{P:Program}{w:World}{K:Frag}{mg:Str->Option V9}{base:Heap}{N:List Str}{qual:Str}{scope:Scope}{f:Az}{cd:V9}{A:Around}{outer:List Env}{s:S9}{H:Hp}{E:XK}{i:V9}{s':S9}
  (h:Fly (iS (CXe P w) P w K mg base N qual scope f cd A outer s H E) E i s'):(iS (CXe P w) P w K mg base N qual scope f cd A outer s H E).xe i s':=by
 obtain ⟨e,C,od,σ,H',rfl,I,k,q⟩:=h
 show wpAny (model P w) _ (leaving _ (.ref e)) _ _ s'
 unfold leaving
 have j:mG (iS (CXe P w) P w K mg base N qual scope f cd A outer s H E):=⟨rfl,rfl⟩
 refine AB (nX j I k fun m l f2=>m7 l f2 fun n d g=>?_)
 obtain ⟨vs,T,a,b,c,_⟩:=g.tb
 exact ⟨e,C,od,H',rfl,d.os,d.bare,d.base,d.hok,g.tr,⟨vs,T,a,b,fun t e1=>⟨(c t e1).1,(c t e1).2.1⟩⟩,q⟩
section
variable{P:Program}{w:World}{K:Frag}{mg:Str->Option V9}{base:Heap}
def Fun.okX{x qual:Str}{st:Stmt}{f:Az}{fd:FuncData}{N ps:List Str}{k:Nat}{sp:Sp}(F:Fun K x qual st f fd)(S:FnScope N ps (aL st))(len:∀ vs H Q E,sp vs H Q E->vs.length=ps.length)
  (a:∀ (cdv:V9) (A:Around) (outer:List Env) (s:S9) (H:Hp) (vs:List V) (Q:VK) (E:XK),Room k (A.deeper (envOfC qual (aL st) s.heap.objs.size f cdv))->sp vs H Q E->
   ∃ t,PSs ((iS (CXe P w) P w K mg base N qual (aL st) f cdv A outer s H E).fly E) (cL st) t/\t {nx:=fun _ H'=>Q .non H',rt:=Q} (eS N vs) H):FnOk P w K mg base (CXe P w) (k+1) f fd ps sp:=by
 obtain ⟨j,od,kV,doc,pm,i,cdv,ct,g,rfl,e,c⟩:=F.ex
 refine aBZ e c S len fun A outer s H vs Q E d b=>?_
 obtain ⟨t,h,q⟩:=a cdv A outer s H vs Q E d b
 exact ⟨t,h.unfly fun _ _ z=>v3 z,q⟩
end
inductive TyX(K:Frag)(H:Hp):V->V9->Prop where
 | pl {x:V} {t:V9} (h:TyOf K H x t):TyX K H x t
 | exc {a W C:Az} {d:Az} {fs:List (Str×V)} (c:SX.ExcC K W C) (e:H a=some (ExO a C (some d))) (ed:H d=some (.xd fs)):TyX K H (.ref a) (.ref C)
 | exc0 {a W C:Az} (c:SX.ExcC K W C) (e:H a=some (ExO a C none)):TyX K H (.ref a) (.ref C)
def aB7:V->Option V9
 | .ty n=>some (.type n)
 | .ref a=>some (.ref a)
 | _=>none
def uH{x:V}{u v:V9}(h:aB7 x=some v)(r:aY x u):u=v:=by
 cases x with
 | ty n=>cases h;exact r
 | ref a=>cases h;exact r
 | _=>cases h
def kG{X:Cx}:gG X (.builtin "isinstance") (fun xs H Q=>∃ x c t cv b,xs=[x,c]/\TyX X.K H x t/\aB7 c=some cv/\PySem.W.kitOne X.K t cv=some b/\Q (.bl b) H):=by
 intro pins s σ H xs us Q I r h
 obtain ⟨x,c,t,cv,b,rfl,ty,k,e,q⟩:=h
 obtain ⟨u,v,rfl,g,j⟩:=qF r
 obtain rfl:=uH k j
 cases ty with
 | pl ty=>exact aDL I g ty e fun tk=>⟨.bl b,H,I.tok _,rfl,q⟩
 | @exc a W C d fs cc ea ed=>
  cases (show u=Value.ref a from g)
  obtain ⟨vs,hx⟩:=xQ I.hok ea
  obtain ⟨mA,i,r⟩:=(show b8 X.prog X.w H s.heap d (.xd fs) from I.hok d _ ed)
  obtain ⟨od,f,_⟩:=vX i
  exact SX.sX (o:=some od) I.kIn cc ⟨hx,rfl,rfl,f⟩ e fun tk=>⟨.bl b,H,I.tok _,rfl,q⟩
 | @exc0 a W C cc ea=>
  cases (show u=Value.ref a from g)
  obtain ⟨vs,hx⟩:=xQ I.hok ea
  exact SX.sX (o:=none) I.kIn cc ⟨hx,rfl,rfl,True.intro⟩ e fun tk=>⟨.bl b,H,I.tok _,rfl,q⟩
end L2
namespace SX
open PySem PySem.W
structure ExcAny(K:Frag)(C:Az)(bm:List V9):Prop where
 lk:∃ nm q N bs hd sn sub ab col dd k0 k1 k2 k3 k5 newId,K.lookup C=some (excClassObj nm q C N bs bm hd sn sub ab col dd k0 k1 k2 k3 k5 newId)
 base:bm.contains (.type "BaseException")=true
def ExcC.any{K:Frag}{W C:Az}(c:ExcC K W C):ExcAny K C (.ref W::iT):=by
 obtain ⟨nm,q,N,bs,sn,sub,ab,col,dd,k0,k1,k2,k3,k5,e⟩:=c.lk
 exact ⟨⟨_,_,_,_,_,_,_,_,_,_,_,_,_,_,_,_,e⟩,(aGJ W).hasBase⟩
def z0{M:Model}{A:Around}{E:V9->S9->Prop}{K:Frag}{C W:Az}{a b:List V9}{s:S9}{e:Az}{n:Obj}{Q:Bool->S9->Prop}(X:K.In s.heap)(c:ExcAny K C a)(w:ExcAny K W b)
  (L:s.heap.get? e=some n) (h:n.cls=.ref C) (l:Q ((Value.ref C::a).contains (.ref W)) s):wpAny M A (excMatches (.ref e) (.ref W)) Q E s:=by
 obtain ⟨nm,q,N,bs,O,sn,sub,ab,col,dd,k0,k1,k2,k3,k5,y,r⟩:=c.lk
 obtain ⟨x,R,P,D,u,F,m,J,k,v,z,I,o,G,B,j,H⟩:=w.lk
 have p:=X _ _ r
 have hW:=X _ _ H
 have i:(Value.ref W::b).contains (.type "BaseException")=true:=by rw[List.contains_cons,w.base,Bool.or_true]
 have f:=tc_notTuple
 obtain ⟨S,g,d,t,os⟩:=s
 unfold excMatches
 repeat (first|(with_reducible refine FH L ?_;rw[h])|with_reducible refine FH hW ?_|(with_reducible refine GM hW ?_;rw[i])|with_reducible refine GM p ?_|wp_step)
 cases hb:(Value.ref C::a).contains (.ref W)<;>(rw[hb] at l;wp_walk;exact l)
end SX
namespace L2
open PySem PySem.Spec PyProof.Rows
abbrev Cx.pnw(X:Cx)(pn:List (Az×Obj)):Cx:={X with pn:=pn}
noncomputable abbrev Cx.inH(X:Cx)(e:Az):Cx:={X with A:=X.A.mark (some (.ref e)),calm:=false,xe:=fun _ _=>False}
section
variable{X:Cx}{pins:List (Az×Obj)}{σ:St}{H:Hp}{s:S9}{e:Az}
def Cx.Ok.pnw{X:Cx}(ok:X.Ok)(pn:List (Az×Obj)):(X.pnw pn).Ok:=
 ⟨ok.mod,ok.kind,ok.glob,ok.blt,ok.above,ok.inj,ok.has,ok.cab,ok.hd,ok.frames,ok.stk,ok.exf,ok.bs,ok.bsz,ok.noex,ok.exfs,ok.funs,ok.frf⟩
def Cx.Ok.unpn{X:Cx}{pn:List (Az×Obj)}(ok:(X.pnw pn).Ok):X.Ok:=
 ⟨ok.mod,ok.kind,ok.glob,ok.blt,ok.above,ok.inj,ok.has,ok.cab,ok.hd,ok.frames,ok.stk,ok.exf,ok.bs,ok.bsz,ok.noex,ok.exfs,ok.funs,ok.frf⟩
def Inv.toPn(I:Inv X pins σ H s):Inv (X.pnw (X.pn++pins)) [] σ H s:=
 ⟨I.ok.pnw _,I.os,I.bare,I.base,I.loc,I.cell,I.free,I.freeC,fun p a=>I.pin p (by
  have z:p∈(X.pn++pins)++[]:=a
  rw[DC] at z
  exact z),I.hok,I.len⟩
def Inv.ofPn{pl:List (Az×Obj)}(I:Inv (X.pnw (X.pn++pins)) pl σ H s):Inv X pins σ H s:=
 ⟨I.ok.unpn,I.os,I.bare,I.base,I.loc,I.cell,I.free,I.freeC,fun p a=>I.pin p (CY _ a),I.hok,I.len⟩
def SP.ofPn{pl:List (Az×Obj)}{E:V9->S9->Prop}{D:jF}{f:Flow}{s':S9}(h:SP ((X.pnw (X.pn++pins)).wish E) pl D f s'):SP X pins D f s':=by
 cases f with
 | next=>obtain ⟨a,b,c,d⟩:=h;exact ⟨a,b,c.unwish.ofPn,d⟩
 | brk=>obtain ⟨a,b,c,d⟩:=h;exact ⟨a,b,c.unwish.ofPn,d⟩
 | cont=>obtain ⟨a,b,c,d⟩:=h;exact ⟨a,b,c.unwish.ofPn,d⟩
 | ret u=>obtain ⟨v,a,b,c,d⟩:=h;exact ⟨v,a,b,c.unwish.ofPn,d⟩
def Cx.Ok.inH{X:Cx}(ok:X.Ok)(e:Az):(X.inH e).Ok:=
 ⟨ok.mod,ok.kind,ok.glob,ok.blt,ok.above,ok.inj,ok.has,ok.cab,(fun z=>nomatch z),ok.frames,ok.stk,ok.exf,ok.bs,ok.bsz,ok.noex,ok.exfs,ok.funs,ok.frf⟩
def Inv.inH(I:Inv X pins σ H s)(e:Az):Inv (X.inH e) pins σ H s:=
 ⟨I.ok.inH e,I.os,I.bare,I.base,I.loc,I.cell,I.free,I.freeC,I.pin,I.hok,I.len⟩
def Inv.ofH(ok:X.Ok)(I:Inv (X.inH e) pins σ H s):Inv X pins σ H s:=
 ⟨ok,I.os,I.bare,I.base,I.loc,I.cell,I.free,I.freeC,I.pin,I.hok,I.len⟩
end
section
variable{X:Cx}
def aDZ(B:X.calm=true):gG X (.builtin "all") (fun xs H Q=>∃ (a:Az) (bs:List Bool),xs=[.ref a]/\SqL X.K H a (bs.map V.bl)/\Q (.bl (bs.all id)) H):=by
 intro pins s σ H xs us Q I r h
 obtain ⟨a,bs,rfl,y,q⟩:=h
 obtain ⟨u,rfl,w⟩:=nV r
 cases (show u=Value.ref a from w)
 obtain ⟨c,k,p,hz⟩:=I.list y
 have j:c.length=bs.length:=by rw[<-k.length,AC]
 refine call_all_walk (FI p.isList ?_)
 have ne:a≠s.heap.objs.size:=by
  obtain ⟨o,e,_⟩:=p.isList
  exact A2 (AK e)
 refine ⟨_,_,_,_,_,_,fun i=>bs.getD i true,rfl,Walks.list (show X.A.in1.handled=none from I.ok.hd B) s.heap.objs.size a ne c.toArray,⟨⟨_,AT _ rfl,rfl,rfl⟩,p.isList.at fun o e=>AE _ e⟩,?_,?_⟩
 .intro i v s' D C f t
  have f:c.toArray[i]? = some v:=f
  have hi:c[i]? = some v:=by simpa using f
  have d:i < bs.length:=by rw[<-j];exact (AG.mp hi).1
  have n:(bs.map V.bl)[i]? = some (V.bl bs[i]):=by simp[d]
  obtain ⟨E,l,g⟩:=k.get n
  rw[hi] at l;cases l
  cases (show v=Value.bool bs[i] from g)
  refine CZ ?_
  have e:bs.getD i true=bs[i]:=by rw[A5,AH d];rfl
  rw[<-e];exact t
 .intro h' tk m
  have e:(List.range c.toArray.size).all (fun i=>bs.getD i true)=bs.all id:=by
   rw[AY,j,EI,A1,A1]
   constructor
   .intro h x hx
    obtain ⟨i,hi,rfl⟩:=EU.mp hx
    have:=h i (DO.mpr hi)
    rw[A5,AH hi] at this
    exact this
   .intro h i hi
    have hi:=DO.mp hi
    rw[A5,AH hi]
    exact h _ (List.getElem_mem hi)
  rw[e]
  refine ⟨.bl _,H,?_,rfl,q⟩
  exact I.kept (t':=tk) fun b o e=>m b o (fun z=>by
   have:=AK e
   rw[AL.mp z] at this
   exact BG _ this) (AE _ e)
end
structure Blt(mg:Str->Option V9):Prop where
 b_len:mg "len"=none
 b_isinstance:mg "isinstance"=none
 b_all:mg "all"=none
 b_max:mg "max"=none
 b_min:mg "min"=none
 b_int:mg "int"=none
 b_str:mg "str"=none
 b_bool:mg "bool"=none
 b_tuple:mg "tuple"=none
 b_list:mg "list"=none
 b_range:mg "range"=none
 b_enumerate:mg "enumerate"=none
 b_ValueError:mg "ValueError"=none
structure DefAt(K:Frag)(mg:Str->Option V9)(x:Str)(st:Stmt)(ps:List Str):Prop where
 ex:∃ f fd,Fun K x x st f fd/\iO K fd ps []/\mg x=some (.ref f)
def Calls(P:Program)(w:World)(K:Frag)(mg:Str->Option V9)(base:Heap)(CX:CXT)(k:Nat)(x:Str)(ps:List Str)(sp:Sp):Prop:=
 ∃ f fd,FnOk P w K mg base CX k f fd ps sp/\iO K fd ps []/\mg x=some (.ref f)/\PySem.W.keepIn K (.ref f)=true
section
variable{P:Program}{w:World}{K:Frag}{mg:Str->Option V9}{base:Heap}{x:Str}{st:Stmt}{N ps:List Str}{k:Nat}{sp:Sp}
def DefAt.ok(D:DefAt K mg x st ps)(S:FnScope N ps (aL st))(len:∀ vs H Q E,sp vs H Q E->vs.length=ps.length)
  (a:∀ (f:Az) (cdv:V9) (A:Around) (outer:List Env) (s:S9) (H:Hp) (vs:List V) (Q:VK) (E:XK),Room k (A.deeper (envOfC x (aL st) s.heap.objs.size f cdv))->sp vs H Q E->
   ∃ t,PSs (iS CX0 P w K mg base N x (aL st) f cdv A outer s H E).nox (cL st) t/\t {nx:=fun _ H'=>Q .non H',rt:=Q} (eS N vs) H):Calls P w K mg base CX0 (k+1) x ps sp:=by
 obtain ⟨f,fd,F,b,m⟩:=D.ex
 exact ⟨f,fd,F.ok S len (a f),b,m,F.kp⟩
def DefAt.okX(D:DefAt K mg x st ps)(S:FnScope N ps (aL st))(len:∀ vs H Q E,sp vs H Q E->vs.length=ps.length)
  (a:∀ (f:Az) (cdv:V9) (A:Around) (outer:List Env) (s:S9) (H:Hp) (vs:List V) (Q:VK) (E:XK),Room k (A.deeper (envOfC x (aL st) s.heap.objs.size f cdv))->sp vs H Q E->
   ∃ t,PSs ((iS (CXe P w) P w K mg base N x (aL st) f cdv A outer s H E).fly E) (cL st) t/\t {nx:=fun _ H'=>Q .non H',rt:=Q} (eS N vs) H):Calls P w K mg base (CXe P w) (k+1) x ps sp:=by
 obtain ⟨f,fd,F,b,m⟩:=D.ex
 exact ⟨f,fd,F.okX S len (a f),b,m,F.kp⟩
def Calls.imp{CX:CXT}{a:Sp}(C:Calls P w K mg base CX k x ps sp)(h:∀ vs H Q E,a vs H Q E->sp vs H Q E):Calls P w K mg base CX k x ps a:=by
 obtain ⟨f,fd,F,b,m,c⟩:=C
 exact ⟨f,fd,F.imp h,b,m,c⟩
end
section
variable{X:Cx}{CX:CXT}{k:Nat}{x:Str}{ps:List Str}{sp:Sp}{E:XK}{p pos:Pos}{e:Expr}{es:List Expr}{t:TA}
def cD(C:Calls X.prog X.w X.K X.mg X.base CX k x ps sp)(c:Room k X.A)(h:Gl X x)(hx:lQ CX X E)(g:PA X (e::es) t)(a:(x == ("__debug__":Str))=false:=by decide)
  (he:starEach (e::es) X.env=(false,eval e X.env)::starEach es X.env:=by rfl) (hpl:(backTo pos (starEach es X.env)).any (·.1)=false:=by rfl):PE X (.Call (.Name x p) (e::es) [] pos) (nW sp [] E t):=by
 obtain ⟨f,fd,F,b,m,d⟩:=C
 exact aJH F c h m d b .nil hx g a he hpl
end
def spI(C:Az)(fs:List Str):Sp:=fun vs H Q _=>∃ e xs,vs=.ref e::xs/\xs.length=fs.length/\H e=some (ExN e C none)/\∀ d,H d=none->d≠e->Q .non (upd (upd H e (ExN e C (some d))) d (.xd (fs.zip xs)))
structure ErrAt(P:Program)(w:World)(K:Frag)(mg:Str->Option V9)(base:Heap)(x:Str)(fs:List Str)(W C:Az):Prop where
 c:SX.ExcC K W C
 m:mg x=some (.ref C)
 na:∀ f∈fs,PySem.W.findIn K (.ref C) f=some none
 i:∃ fI fdI,FnOk P w K mg base CX0 1 fI fdI ("self"::fs) (spI C fs)/\PySem.W.findIn K (.ref C) "__init__"=some (some (.ref fI))/\PySem.W.typeIn K (.ref fI)=some (.type "function")/\iO K fdI ("self"::fs) []
def DatV.tup_of{K:Frag}{H:Hp}{v:V}{ds:List D9}(h:DatV K H v (.tuple ds)):∃ a xs,v=.ref a/\SqT K H a xs/\DatVs K H xs ds:=by
 cases h with
 | tup h1 h2=>exact ⟨_,_,rfl,h1,h2⟩
def DatV.lst_of{K:Frag}{H:Hp}{v:V}{ds:List D9}(h:DatV K H v (.list ds)):∃ a xs,v=.ref a/\SqL K H a xs/\DatVs K H xs ds:=by
 cases h with
 | lst h1 h2=>exact ⟨_,_,rfl,h1,h2⟩
def DatV.int_of{K:Frag}{H:Hp}{v:V}{i:Int}(h:DatV K H v (.int i)):v=.int i:=by cases h;rfl
def DatV.str_of{K:Frag}{H:Hp}{v:V}{i:Str}(h:DatV K H v (.str i)):v=.str i:=by cases h;rfl
def DatVs.cons_of{K:Frag}{H:Hp}{xs:List V}{d:D9}{ds:List D9}(h:DatVs K H xs (d::ds)):∃ x t,xs=x::t/\DatV K H x d/\DatVs K H t ds:=by
 cases h with
 | cons h1 h2=>exact ⟨_,_,rfl,h1,h2⟩
def DatVs.nil_of{K:Frag}{H:Hp}{xs:List V}(h:DatVs K H xs []):xs=[]:=by cases h;rfl
def dL.nil:dL [] []:=⟨rfl,fun _ _ h=>by simp at h⟩
def dL.nil_of{σ:St}(h:dL [] σ):σ=[]:=FG.mp h.1
def SqS(K:Frag)(H:Hp)(a:Az)(xs:List V):Prop:=SqL K H a xs\/SqT K H a xs
def PI.or{X:Cx}{tg a:Expr}{w1 w2:TI}(h1:PI X tg a w1)(h2:PI X tg a w2):PI X tg a (fun σ H R=>w1 σ H R\/w2 σ H R):=fun pins s σ H R I h=>h.elim (h1 pins s σ H R I) (h2 pins s σ H R I)
def aQU(K:Frag)(tl:TE):TI:=fun σ H R=>tl σ H fun x H1=>∃ a,x=.ref a/\(((∃ xs,SqL K H1 a xs)/\R (Itl K a) H1)\/((∃ xs,SqT K H1 a xs)/\R (Itt K a) H1))
def aD0{X:Cx}{tg l:Expr}{tl:TE}(j:PE X l tl):PI X tg l (aQU X.K tl):=by
 intro pins s σ H R I h
 refine thn (j pins s σ H _ I h) fun v s1 f=>?_
 obtain ⟨x,H1,c,r1,m⟩:=f
 obtain ⟨a,e,q⟩:=m
 subst e
 cases r1
 rcases q with ⟨⟨xs,i⟩,q⟩|⟨⟨xs,i⟩,q⟩
 .obtain ⟨d,k,p,hz⟩:=c.list i
  refine FI p.isList ?_
  refine ⟨s1.heap.objs.size,[s1.heap.objs.size],_,_,H1,rfl,c.kept (t':=s1.toks) fun b o e=>AE _ e,aDG a _,⟨_,AT _ rfl,rfl,rfl⟩,fun b g=>?_,q⟩
  obtain rfl:=AL.mp g
  exact c.fpOk (AJ _) (c.hok.fresh (AJ _))
 .obtain ⟨d,k,p,hz⟩:=c.tuple i
  refine wpAny_pyIter_tuple (show s1.heap.IsTuple a d.toArray from p) ?_
  refine ⟨s1.heap.objs.size,[s1.heap.objs.size],_,_,H1,rfl,c.kept (t':=s1.toks) fun b o e=>AE _ e,aBU a _,⟨_,AT _ rfl,rfl,rfl⟩,fun b g=>?_,q⟩
  obtain rfl:=AL.mp g
  exact c.fpOk (AJ _) (c.hok.fresh (AJ _))
def aPH(i j:Int):Prop:=0 < j/\j < 2 ^ 64
def aGM{X:Cx}:OpR X (binaryOp .FloorDiv) (rI aPH fun i j=>.int (i / j)):=opI fun i j _ _ _ _ _ a q=>by
 have h1:(0:Int) < j:=a.1
 have h2:j < 2 ^ 64:=a.2
 have b:j.natAbs < 2 ^ 64:=by omega
 have c:j.natAbs.log2 < 64:=(Nat.log2_lt (by omega)).mpr b
 exact floordiv_int (by omega) (by rw[Int.fdiv_eq_ediv_of_nonneg i (by omega)];exact q) (.inl (PyProof.noPylong_of_log2 (by omega)))
def aIM{X:Cx}{P:Program}{w:World}:lQ (CXe P w) X E0:=by
 rintro pins σ H s a s' I ⟨e,C,od,H',rfl,os,bare,un,hok,he,hv,q⟩
 exact q.elim
section
variable{X:Cx}
def aQV:V->Option Int->Option Int->Hp->VK->Prop:=fun x lo hi H Q=>∃ z,x=.str z/\z.length<=sizeLine/\Q (.str (Txt.slice z lo hi)) H
def aAJ{v:V9}{o:Option Int}(h:IsPart v o):∃ l:Option (Int×Tok),partValue l=v/\l.map (·.1)=o:=by
 cases h with
 | none=>exact ⟨none,rfl,rfl⟩
 | int i t=>exact ⟨some (i,t),rfl,rfl⟩
def aMZ:SlR X aQV:=by
 intro pins s σ H x v j k lo hi sl Q I a f pl b h
 obtain ⟨z,rfl,hz,q⟩:=h
 obtain ⟨t,rfl⟩:=a
 obtain ⟨l,rfl,g⟩:=aAJ pl
 obtain ⟨u,rfl,e⟩:=aAJ b
 obtain ⟨o,i,d,c⟩:=f
 refine ⟨"str",_,PyProof.Rows.slot_str_getitem.lookup,rfl,?_⟩
 refine wpAny_getItem_str_slice (l:=l) (u:=u) (st:=none) ⟨o,i,d,c⟩ rfl ?_
 have le:=Txt.slice_le z lo hi
 unfold Txt.slice at q le
 unfold sliceMade slicePicked
 rw[g,e]
 simp only[EB,GY,Option.map_none,HH] at q le ⊢
 by_cases hb:((Builtin.Str.strSliceIndices lo hi 1 z.length).length == z.length)=true
 .rw[if_pos hb] at q ⊢
  exact ⟨.str z,H,I,⟨t,rfl⟩,q⟩
 .rw[if_neg hb] at q le ⊢
  exact ⟨A6 le hz,.str _,H,I.tok _,⟨_,rfl⟩,q⟩
def aD1:V->List V->Hp->VK->Prop:=fun x vs H Q=>∃ z y i rest,x=.str z/\vs=[.str y]/\Builtin.Str.occurrences z y 0 z.length 1=i::rest/\Q (.int i) H
def aGN:MtR X "str.index" aD1:=by
 intro pins s σ H x vs v us Q I a d h
 obtain ⟨z,y,i,rest,rfl,rfl,b,q⟩:=h
 obtain ⟨t,rfl⟩:=a
 obtain ⟨u,rfl,c,rfl⟩:=d.one
 exact call_gives F.slot_str_index rfl F.entry_str_index (F.args_str_index_2 _ _) (gives_str_index z y t c i rest b) ⟨.int i,H,I.tok _,⟨_,rfl⟩,q⟩
end
def xS{X:Cx}:gG X (.builtin "isinstance") (fun xs H Q=>∃ a ys c cv b,xs=[.ref a,c]/\SqT X.K H a ys/\aB7 c=some cv/\PySem.W.kitOne X.K (.type "tuple") cv=some b/\Q (.bl b) H):=by
 intro pins s σ H xs us Q I r h
 obtain ⟨a,ys,c,cv,b,rfl,i,j,e,q⟩:=h
 obtain ⟨u,v,rfl,g,f⟩:=qF r
 obtain rfl:=uH j f
 cases (show u=Value.ref a from g)
 obtain ⟨d,_,⟨o,h1,h2,_⟩,_⟩:=I.tuple i
 exact CD PySem.W.kitx_tuple I.kIn ⟨o,h1,h2⟩ e (fun z=>nomatch z) fun tk=>⟨.bl b,H,I.tok _,rfl,q⟩
structure RoomH(k:Nat)(A:Around):Prop where
 dp:A.depth+3 * k+5 < recursionLimit
 un:A.units+16 * k+200 < cLine
def Room.h{k:Nat}{A:Around}(r:Room k A):RoomH k A:=⟨r.dp,r.un⟩
structure FnOkH(P:Program)(w:World)(K:Frag)(mg:Str->Option V9)(base:Heap)(k:Nat)(f:Az)(fd:FuncData)(ps:List Str)(sp:Sp):Prop where
 len:∀ vs H Q E,sp vs H Q E->vs.length=ps.length
 run:∀ (A:Around) (outer:List Env) (s:S9) (H:Hp) (args:Args) (us:List V9) (vs:List V) (Q:VK),RoomH k A->Env0 P w K mg base A outer s H->BindsTo s fd args (ps.zip us)->bB vs us->sp vs H Q E0->
  codeAny (model P w) A (.call (.ref f) args) (CR CX0 outer P w H s Q E0) s
theorem FnOkH.ok{P:Program}{w:World}{K:Frag}{mg:Str->Option V9}{base:Heap}{k:Nat}{f:Az}{fd:FuncData}{ps:List Str}{sp:Sp}(F:FnOkH P w K mg base k f fd ps sp)(g:∀ vs H Q E,sp vs H Q E->sp vs H Q E0):FnOk P w K mg base CX0 k f fd ps sp:=
 ⟨F.len,fun A outer s H args us vs Q E a i b d c=>FB (F.run A outer s H args us vs Q a.h i b d (g _ _ _ _ c)) fun r s' h=>by
  cases r with
  | error e=>exact h
  | ok fl=>cases fl<;>exact h⟩
end L2
namespace Mc
open PySem L2 PyProof.Rows
inductive Tn where
 | n (i:Int)|w (x:Str)
def Tn.v:Tn->V
 | .n i=>.int i
 | .w x=>.str x
def Tn.d:Tn->D9
 | .n i=>.int i
 | .w x=>.str x
structure Rw where
 l:Tn
 c:List (Int×Int)
 r:Tn
def aPI(c:Int×Int):D9:=.tuple [.int c.1,.int c.2]
inductive CellsAt(K:Frag)(H:Hp):List V->List (Int×Int)->Prop
 | nil:CellsAt K H [] []
 | cons {q:Az} {a b:Int} {xs:List V} {cs:List (Int×Int)} (h:SqS K H q [.int a,.int b]) (t:CellsAt K H xs cs):CellsAt K H (.ref q::xs) ((a,b)::cs)
def aPJ(K:Frag)(H:Hp)(v:V)(r:Rw):Prop:=∃ p b cs,v=.ref p/\SqS K H p [r.l.v,.ref b,r.r.v]/\SqS K H b cs/\CellsAt K H cs r.c
inductive RowsAt(K:Frag)(H:Hp):List V->List Rw->Prop
 | nil:RowsAt K H [] []
 | cons {v:V} {r:Rw} {xs:List V} {rs:List Rw} (h:aPJ K H v r) (t:RowsAt K H xs rs):RowsAt K H (v::xs) (r::rs)
def Tn.ok:Tn->Prop
 | .n _=>True
 | .w x=>PyData.strOk x=true
def Rw.ok(r:Rw):Prop:=r.l.ok/\r.r.ok
theorem uI:∀ {xs:List D9},(∀ x∈xs,x.canLay0=true)->PyData.canLayAll0 xs=true
 | [],_=>by rfl
 | x::t,h=>by
  show (x.canLay0 && PyData.canLayAll0 t)=true
  rw[h x (AQ ..),uI fun y a=>h y (AI _ a)];rfl
theorem o6{n:Nat}:∀ {xs:List D9},(∀ x∈xs,x.depth<=n)->PyData.depthAll xs<=n
 | [],_=>CU _
 | x::t,h=>by
  show max x.depth (PyData.depthAll t)<=n
  exact Nat.max_le.mpr ⟨h x (AQ ..),o6 fun y a=>h y (AI _ a)⟩
def Sh(n:Nat)(d:D9):Prop:=d.canLay0=true/\d.depth<=n
def xT{n:Nat}{xs:List D9}(h:∀ x∈xs,Sh n x):Sh (n+1) (.tuple xs):=⟨uI fun x hx=>(h x hx).1,by
 have:=o6 fun x hx=>(h x hx).2
 show PyData.depthAll xs+1<=n+1
 omega⟩
def sh_lst{n:Nat}{xs:List D9}(h:∀ x∈xs,Sh n x):Sh (n+1) (.list xs):=⟨uI fun x hx=>(h x hx).1,by
 have:=o6 fun x hx=>(h x hx).2
 show PyData.depthAll xs+1<=n+1
 omega⟩
def sY(n:Nat)(i:Int):Sh n (.int i):=⟨rfl,CU _⟩
def o7(n:Nat){x:Str}(h:PyData.strOk x=true):Sh n (.str x):=⟨h,CU _⟩
def Sh.shaped{n:Nat}{d:D9}(h:Sh n d)(a:n<=64):SeqAt.shaped d=true:=by
 show (d.canLay0 && decide (d.depth<=64))=true
 rw[h.1,AV (A6 h.2 a)];rfl
section
variable{K:Frag}{H:Hp}{p q:Az}{xs ys:List V}{o:HO}
inductive NoL:D9->Prop where
 | int (i:Int):NoL (.int i)
 | str (i:Str):NoL (.str i)
 | tup {ds:List D9} (h:∀ d∈ds,NoL d):NoL (.tuple ds)
end
section
variable{K:Frag}{H:Hp}
theorem CellsAt.drop:∀ {xs:List V} {cs:List (Int×Int)} (n:Nat),CellsAt K H xs cs->CellsAt K H (xs.drop n) (cs.drop n)
 | _,_,0,h=>h
 | _,_,_+1,.nil=>.nil
 | _,_,n+1,.cons _ t=>CellsAt.drop n t
theorem CellsAt.take:∀ {xs:List V} {cs:List (Int×Int)} (n:Nat),CellsAt K H xs cs->CellsAt K H (xs.take n) (cs.take n)
 | _,_,0,_=>.nil
 | _,_,_+1,.nil=>.nil
 | _,_,n+1,.cons a t=>.cons a (CellsAt.take n t)
end
section
variable{K:Frag}{h:Heap}{mg:Str->Option V9}
def cM{x:Str}{st:Stmt}{ps:List Str}{f:Az}{i:V9}{od e:Option Az}{g:Array (Option V9)}{kV doc pm d ct:V9}(X:K.In h)(G:h.Ns mainGlobals mg)
  (a:PySem.W.nsIn K mainGlobals x=some (some (.ref f))) (l:K.lookup f=some ⟨i,od,.func (PySem.W.fnOf x x (fZ st) (cL st) (aL st) .none kV doc pm e d ct),g⟩)
  (c:PySem.W.codeIn K d x=true) (k:PySem.W.keepIn K (.ref f)=true)
  (b:∀ (kV doc pm:V9) (e:Option Az) (d ct:V9) (us:List V9),us.length=ps.length->bindArgs (PySem.W.fnOf x x (fZ st) (cL st) (aL st) .none kV doc pm e d ct) ⟨us,[]⟩=pure (ps.zip us)):DefAt K mg x st ps:=by
 have F:=aDV (st:=st) l c k
 exact ⟨f,_,F,F.binds b,GZ X G a⟩
end
section
variable{K:Frag}{h:Heap}{mg:Str->Option V9}
def aJQ{W C N:Az}{bs sub:List V9}{nm q:Str}{ab:Bool}{sn:List Str}{col:Option Bool}{dd:Option Az}{k0 k1 k2 k3 k5:Option V9}(l:K.lookup C=some (excClassObj nm q C N bs (.ref W::SX.iT) true sn sub ab col dd k0 k1 k2 k3 k5 "ValueError.__new__"))
 (f:PySem.W.findIn K (.ref C) "__setattr__"=some (some (.builtin "object.__setattr__"))) (e:PySem.W.findIn K (.ref C) "__getattribute__"=some (some (.builtin "BaseException.__getattribute__"))) (d:PySem.W.findIn K (.ref C) "__getattr__"=some none) (cl:PySem.W.findIn K (.ref C) "__class__"=some (some (.builtin "object.__class__")))
 (a:PySem.W.specialIn K (.builtin "object.__class__") "__get__"=some (some (.builtin "getset_descriptor.__get__"))) (b:PySem.W.takesIn K (.builtin "object.__class__")=some true) (c:PySem.W.keepIn K (.ref C)=true):SX.ExcC K W C:=⟨⟨_,_,_,_,_,_,_,_,_,_,_,_,_,_,l⟩,f,e,d,cl,a,b,c⟩
end
def fA(n c:Nat):Bool:=decide (97<=c/\c < 97+n)
def aJR{n:Nat}(h1:1<=n)(h2:n<=3):(Txt.slice "abc" none (some (n:Int))).cps.toList=[97,98,99].take n:=by
 obtain rfl|rfl|rfl:n=1\/n=2\/n=3:=by omega
 all_goals decide +kernel
def aD2{c:Nat}(h:fA 3 c=true):∃ r,Builtin.Str.occurrences "abc" ⟨#[c]⟩ 0 ("abc":Str).length 1=(c - 97)::r:=by
 have h:=BA h
 refine ⟨[],?_⟩
 obtain rfl|rfl|rfl:c=97\/c=98\/c=99:=by omega
 all_goals decide +kernel
end Mc
namespace L2
open PySem PySem.Spec PyProof.Rows
section
variable{κ:Type}[DecidableEq κ]
def aIN(kvs:List (κ×V))(k:κ):List (κ×V):=kvs.filter fun kv=>decide (kv.1≠k)
def kS.getD{o:Option V}{u:Option V9}{d:V}{d':V9}(r:kS o u)(a:aY d d'):aY (o.getD d) (u.getD d'):=by
 cases o with
 | none=>cases u with
  | none=>exact a
  | some _=>exact (show False from r).elim
 | some _=>cases u with
  | none=>exact (show False from r).elim
  | some _=>exact r
def KV.drop{c:List (κ×V)}{vs:List (κ×V9)}(r:KV c vs)(k:κ):KV (aIN c k) (without vs k):=by
 unfold KV at r ⊢
 unfold aIN without
 induction r with
 | nil=>exact .nil
 | @cons p q ps qs h t ih=>
  obtain ⟨h1,h2⟩:=h
  rw[EV,EV]
  by_cases e:p.1=k
  .have a:¬ decide (p.1≠k)=true:=by simp[e]
   have b:¬ decide (q.1≠k)=true:=by simp[h1.symm.trans e]
   rw[if_neg a,if_neg b];exact ih
  .have d:¬ q.1=k:=fun z=>e (h1.trans z)
   have a:decide (p.1≠k)=true:=by simp[e]
   have b:decide (q.1≠k)=true:=by simp[d]
   rw[if_pos a,if_pos b];exact .cons ⟨h1,h2⟩ ih
def KV.length{a:List (κ×V)}{vs:List (κ×V9)}(r:KV a vs):a.length=vs.length:=FR r
end
def aIO{P:Program}{w:World}{k:Key}{u:V9}(r:aY (kV k) u):(dG P w).is k u=true:=by
 cases k with
 | inl i=>obtain ⟨t,e⟩:=(show ∃ t,u=Value.int i t from r);subst e;exact zY P w i t
 | inr x=>obtain ⟨t,e⟩:=(show ∃ t,u=Value.str x t from r);subst e;exact zZ P w x t
section
variable{X:Cx}{pins:List (Az×Obj)}{σ:St}{H:Hp}{s:S9}{a:Az}{y v:V}{u r:V9}{o:Option V}{A:Around}{E:V9->S9->Prop}
def Inv.big(I:Inv X pins σ H s):sysModules < s.heap.objs.size:=by
 have h:mainGlobals < s.heap.objs.size:=(I.mod.glob.keeps I.bk).lt
 exact C4 (by decide) h
def jI{h':Heap}{t':Nat}{c:HO}(I:Inv X pins σ H s)(g:Mut (H a))(f:Heap.SameBut a s.heap h')(h:∃ q,h'.get? a=some q)(new:b8 X.prog X.w (upd H a c) h' a c) :
  Inv X pins σ (upd H a c) {s with heap:=h',toks:=t'}:=
 I.write (x:=a) (e:=a) g (.inl rfl) (fun b q d z=>(f.2 b d).trans z) h new
end
def aM0(i:Expr):Prop:=∀ ov iv,subscripted i false ov iv=operate [ov,iv] (getItem ov iv)
def aJS{prog:Program}{w:World}{A:Around}{E:V9->S9->Prop}{s:S9}{env:Env}{b a:Expr}{pos:Pos}{T id:String}{Q:V9->S9->Prop}
  (j:typeLookup (.type T) "__getitem__"=pure (some (.builtin id))) (k:aM0 a)
  (h:wpAny (model prog w) A (eval b env) (fun o s₁=>wpAny (model prog w) A (eval a env) (fun i s₂=>s₂.TypeIs o T/\wpAny (model prog w) A (getItem o i) Q E s₂) E s₁) E s) :
  wpAny (model prog w) A (eval (.Subscript b a pos) env) Q E s:=by
 refine Subscript_ (BX h (fun o s₁ f=>BX f (fun i s₂ c=>?_) fun _ _ x=>x) fun _ _ x=>x)
 obtain ⟨g,c⟩:=c
 unfold subscriptTail
 refine AB ?_
 rw[getitemInPython_of_ne g.not_modules]
 refine AB (GA g j ?_)
 have fin:wpAny (model prog w) A (subscripted a false o i) (fun r d=>wpAny (model prog w) A (letTemporaryGo b o r >>= fun _=>pure r) Q E d) E s₂:=by
  rw[k o i]
  exact wpAny_operating (BX c (fun r d e=>AB (wpAny_letTemporaryGo (AD e))) fun _ _ x=>x)
 first
  | exact AD (AB fin)
  | exact AB (AD (AB fin))
  | exact AB fin
structure M1(X:Cx)(o:Expr)(m:Str)(apos:Pos)(e:Expr)(cpos:Pos):Prop where
 base:attributeBase o m X.env (eval o X.env)=eval o X.env
 few:((backTo cpos (starEach [e] X.env)).all (fun x=>!x.1) && (backToKw cpos (keywordEach [] X.env)).all (fun x=>x.1.isSome)
  && decide (([e]:List Expr).length+([]:List Keyword).length+(if ([]:List Keyword).isEmpty then 0 else 1) < 30))=true
 line:(apos.endLine == cpos.line)=true
 trees:backTo cpos (starEach [e] X.env)=[(false,eval e X.env)]
structure M2(X:Cx)(o:Expr)(m:Str)(apos:Pos)(e f:Expr)(cpos:Pos):Prop where
 base:attributeBase o m X.env (eval o X.env)=eval o X.env
 few:((backTo cpos (starEach [e,f] X.env)).all (fun x=>!x.1) && (backToKw cpos (keywordEach [] X.env)).all (fun x=>x.1.isSome)
  && decide (([e,f]:List Expr).length+([]:List Keyword).length+(if ([]:List Keyword).isEmpty then 0 else 1) < 30))=true
 line:(apos.endLine == cpos.line)=true
 trees:backTo cpos (starEach [e,f] X.env)=[(false,eval e X.env),(false,eval f X.env)]
def hu1{A:Around}{k:Nat}(a:Room k A):A.units+1 < cLine:=Nat.lt_of_le_of_lt (Nat.add_le_add_left (by decide:1<=64) _) a.units
def xU(K:Frag)(H:Hp)(ks:List (List Key×Az)):Prop:=∀ p∈ks,SqT K H p.2 (p.1.map kV)
def SqT.ext{K:Frag}{H:Hp}{a q:Az}{φ:Heap->Prop}{o:HO}{xs:List V}(h:SqT K H q xs)(b:H a=some (.ext φ)):SqT K (upd H a o) q xs:=by
 rcases h with (h|⟨u,h⟩)|h
 .refine .inl (.inl ?_)
  rw[aG (fun z=>by rw[z,b] at h;cases h)];exact h
 .refine .inl (.inr ⟨u,?_⟩)
  rw[aG (fun z=>by rw[z,b] at h;cases h)];exact h
 .exact .inr h
def SqL.ext{K:Frag}{H:Hp}{a q:Az}{φ:Heap->Prop}{o:HO}{xs:List V}(h:SqL K H q xs)(b:H a=some (.ext φ)):SqL K (upd H a o) q xs:=by
 rcases h with (h|⟨u,h⟩)|h
 .refine .inl (.inl ?_)
  rw[aG (fun z=>by rw[z,b] at h;cases h)];exact h
 .refine .inl (.inr ⟨u,?_⟩)
  rw[aG (fun z=>by rw[z,b] at h;cases h)];exact h
 .exact .inr h
mutual
theorem DatV.ext{K:Frag}{H:Hp}{a:Az}{φ:Heap->Prop}{o:HO}(ha:H a=some (.ext φ)):∀ {x:V} {d:D9},DatV K H x d->DatV K (upd H a o) x d
 | _,_,.non=>.non
 | _,_,.bl b=>.bl b
 | _,_,.int i=>.int i
 | _,_,.str x=>.str x
 | _,_,.lst h ds=>.lst (h.ext ha) (DatVs.ext ha ds)
 | _,_,.tup h ds=>.tup (h.ext ha) (DatVs.ext ha ds)
theorem DatVs.ext{K:Frag}{H:Hp}{a:Az}{φ:Heap->Prop}{o:HO}(ha:H a=some (.ext φ)):∀ {xs:List V} {ds:List D9},DatVs K H xs ds->DatVs K (upd H a o) xs ds
 | _,_,.nil=>.nil
 | _,_,.cons h t=>.cons (DatV.ext ha h) (DatVs.ext ha t)
end
def xU.ext{K:Frag}{H:Hp}{a:Az}{φ:Heap->Prop}{o:HO}{ks:List (List Key×Az)}(h:xU K H ks)(b:H a=some (.ext φ)):xU K (upd H a o) ks:=fun p c=>SqT.ext (h p c) b
end L2
namespace Mc
open PySem L2 PyProof.Rows
def Tn.good(n:Int):Tn->Prop
 | .n i=>0<=i/\i < n
 | .w x=>x="by"\/x="out"
def aGO(n:Int)(c:Int×Int):Prop:=0<=c.1/\c.1 < n/\(c.2=1\/c.2 = -1)
def Rw.good(n:Int)(r:Rw):Prop:=r.l.good n/\r.r.good n/\∀ c∈r.c,aGO n c
def Tn.good.ok{n:Int}{t:Tn}(h:t.good n):t.ok:=by
 cases t with
 | n i=>trivial
 | w x=>
  rcases h with rfl|rfl
  · exact (show PyData.strOk _ = true by decide +kernel)
  · exact (show PyData.strOk _ = true by decide +kernel)
def Rw.good.ok{n:Int}{r:Rw}(h:r.good n):r.ok:=⟨h.1.ok,h.2.1.ok⟩
structure Mach(rs:List Rw)(sg:Nat):Prop where
 len:1<=rs.length
 len2:rs.length<=1000
 sg1:1<=sg
 sg3:sg<=3
 row:∀ r∈rs,r.good rs.length/\r.c.length=sg
def w4(sg:Nat)(z:List Nat):Prop:=z.length<=1000/\∀ c∈z,fA sg c=true
def k6(rs:List Rw)(q:Int):Rw:=rs.getD q.toNat ⟨.n 0,[],.n 0⟩
def kM(rs:List Rw)(z:List Nat)(st:Int×Int):Tn×Int:=
 if st.1=0 then ((k6 rs st.2).l,1) else if st.1=(z.length:Int)+1 then ((k6 rs st.2).r,-1) else
  (.n ((k6 rs st.2).c.getD (z.getD (st.1.toNat - 1) 97 - 97) (0,0)).1,((k6 rs st.2).c.getD (z.getD (st.1.toNat - 1) 97 - 97) (0,0)).2)
def aB8(rs:List Rw)(z:List Nat)(st:Int×Int):Option (Int×Int):=
 match (kM rs z st).1 with
 | .w _=>none
 | .n q=>some (st.1+(kM rs z st).2,q)
def aIP(rs:List Rw)(z:List Nat)(st:Int×Int):Prop:=0<=st.1/\st.1<=(z.length:Int)+1/\0<=st.2/\st.2 < (rs.length:Int)
theorem v4:∀ (N:Nat) (l:List Nat),l.Nodup->(∀ x∈l,x < N)->l.length<=N
 | 0,l,_,h=>by
  cases l with
  | nil=>exact AJ _
  | cons a t=>exact absurd (h a (by simp)) (by omega)
 | N+1,l,hn,h=>by
  have ih:=v4 N (l.erase N) (hn.erase N) (fun x hx=>by
   have:=(hn.mem_erase_iff).mp hx
   have h2:=h x this.2
   omega)
  have:=List.length_erase (a:=N) (l:=l)
  split at this<;>omega
def aB9(rs:List Rw)(z:List Nat):Nat->List (Int×Int)->Int×Int->List (Int×Int)
 | 0,ps,st=>ps++[st]
 | k+1,ps,st=>if st∈ps then ps++[st] else match aB8 rs z st with
  | none=>ps++[st]
  | some st'=>aB9 rs z k (ps++[st]) st'
def aIQ(rs:List Rw)(z:List Nat):Nat:=(z.length+2) * rs.length
def aPK(rs:List Rw)(z:List Nat):List (Int×Int):=aB9 rs z (aIQ rs z) [] (0,0)
structure Way(rs:List Rw)(z:List Nat)(ps:List (Int×Int))(st:Int×Int)(k:Nat):Prop where
 nd:ps.Nodup
 val:∀ s∈ps++[st],aIP rs z s
 num:ps.length+k=aIQ rs z
 res:aB9 rs z k ps st=aPK rs z
end Mc
namespace L2
open PySem PySem.Spec PyProof.Rows
theorem m8:∀ {ys:List Str} {us:List V9},bB (ys.map V.str) us->StrsAre us ys
 | [],_,.nil=>.nil
 | y::ys,_,.cons r t=>by obtain ⟨t',rfl⟩:=r;exact .cons y t' (m8 t)
def aIR(K:Frag):V->List V->Hp->VK->Prop:=fun x vs H Q=>∃ (sep:Str) (a:Az) (ys:List Str),x=.str sep/\vs=[.ref a]/\SqL K H a (ys.map V.str)/\(ys.map fun y=>y.length).sum+ys.length * sep.length<=16777216/\Q (.str (Txt.join sep ys)) H
def aJT{X:Cx}:MtR X "str.join" (aIR X.K):=by
 intro pins s σ H x vs v us Q I c d h
 obtain ⟨f,a,ys,rfl,rfl,g,hz,q⟩:=h
 obtain ⟨t,rfl⟩:=c
 obtain ⟨u,rfl,e⟩:=d.one
 cases (show u=Value.ref a from e)
 obtain ⟨b,r,pl,_⟩:=I.list g
 exact join_list (items:=b.toArray) pl.isList (by simpa using m8 r) hz fun t' k=>⟨.str _,H,I.tok _,⟨_,rfl⟩,q⟩
end L2
namespace Mc
open PySem L2 PyProof.Rows
def one(c:Nat):Str:=⟨#[c]⟩
def aD3(cs:List Nat):∀ (a:Array Nat),(List.foldl (fun acc p=>acc++("":Str).cps++p.cps) a (cs.map one)).toList=a.toList++cs:=by
 induction cs with
 | nil=>intro a;simp
 | cons c t ih=>
  intro a
  rw[AX,DT,ih]
  have:("":Str).cps = #[]:=rfl
  rw[this]
  simp[one]
def aGP(cs:List Nat):(Txt.join "" (cs.map one)).cps.toList=cs:=by
 unfold Txt.join Builtin.Str.glued
 cases cs with
 | nil=>rfl
 | cons c t=>
  show (List.foldl _ (one c).cps (t.map one)).toList=_
  rw[aD3];rfl
def aJU(cs:List Nat):((cs.map one).map fun y=>y.length).sum=cs.length:=by
 induction cs with
 | nil=>rfl
 | cons c t ih=>rw[AX,AX,List.sum_cons,ih,BI];show 1+_=_;omega
def aJV{x y:Str}(h:x.cps.toList=y.cps.toList):x=y:=by
 cases x;cases y
 simp only[Str.mk.injEq]
 exact Array.toList_inj.mp h
def aJW(cs:List Nat):Txt.join "" (cs.map one)=⟨cs.toArray⟩:=aJV (by rw[aGP])
section
variable{S O:Type}
inductive Ex(st:S->Option (S⊕O)):Nat->S->O->Prop
 | out {s:S} {o:O} (h:st s=some (.inr o)):Ex st 0 s o
 | go {s s':S} {o:O} {n:Nat} (h:st s=some (.inl s')) (t:Ex st n s' o):Ex st (n+1) s o
inductive Rc(st:S->Option (S⊕O)):Nat->S->S->Prop
 | nil {s:S}:Rc st 0 s s
 | cons {s s' s'':S} {n:Nat} (h:st s=some (.inl s')) (t:Rc st n s' s''):Rc st (n+1) s s''
variable{st:S->Option (S⊕O)}
def Rc.ex{k n:Nat}{s s':S}{o:O}(a:Rc st k s s')(b:Ex st n s o):∃ n',n=n'+k/\Ex st n' s' o:=by
 induction a generalizing n with
 | nil=>exact ⟨n,rfl,b⟩
 | cons h t ih=>
  cases b with
  | out h'=>rw[h] at h';cases h'
  | go h' t'=>
   rw[h] at h';cases h'
   obtain ⟨n',e,q⟩:=ih t'
   exact ⟨n',by omega,q⟩
def Res(st:S->Option (S⊕O))(s:S)(r:Option O):Prop:=∀ o,r=some o↔∃ n,Ex st n s o
open Classical in
def aCA(st:S->Option (S⊕O))(s:S):Option O:=if h:∃ o n,Ex st n s o then some h.choose else none
structure Und2(st:S->Option (S⊕O))(s0:S)(ps:List S)(s:S):Prop where
 nd:ps.Nodup
 back:∀ p∈ps,∃ m,Rc st (m+1) p s
 res:∀ r,Res st s r->Res st s0 r
end
abbrev Th:=Option (Int×Int)
structure Tb where
 f:List Th
 a:List Th
def aD4(m:Nat):Th->Prop
 | none=>True
 | some (d,q)=>(d=1\/d = -1)/\0<=q/\q < (m:Int)
structure Tb.good(m:Nat)(t:Tb):Prop where
 lf:t.f.length=m
 la:t.a.length=m
 gf:∀ x∈t.f,aD4 m x
 ga:∀ x∈t.a,aD4 m x
def aS9(k n:Int)(s:Int×Int×Int):Int×Int×Int:=(if s.1 < k then s.1 else if s.1=k then (if s.2.1=1 then k else k+n - 1) else s.1+n - 1,s.2.1,s.2.2)
def aD5{S:Type}(f:S->Nat)(N:Nat)(l:List S)(d:l.Nodup)(c:∀ s∈l,f s < N)(hi:∀ a∈l,∀ b∈l,f a=f b->a=b):l.length<=N:=by
 have h:=v4 N (l.map f) ?_ ?_
 .rw[AC] at h;exact h
 .unfold List.Nodup
  rw[List.pairwise_map]
  exact List.Pairwise.imp_of_mem (fun {a b} ha hb hab e=>hab (hi a ha b hb e)) d
 .intro x hx
  obtain ⟨s,g,rfl⟩:=A3.mp hx
  exact c s g
end Mc
namespace L2
open PySem PySem.Spec PyProof.Rows
def Its(z:Str):It:=⟨fun i _=>i < z.cps.size,fun i H x H'=>H'=H/\∃ c,z.cps[i]? = some c/\x=.str ⟨#[c]⟩,fun i _=>i=z.cps.size⟩
def xV{P:Program}{w:World}{K:Frag}{tg:Expr}(z:Str)(t:Tok)(T:String)(C:∀ A:Around,A.handled=none->∀ it,Walks P w A it [it] [it] z.cps.size (SignAt z) fun i h=>h.IsStrIter it T z t i)
  (a:∀ (A:Around) (it:Az) (i:Nat) (s:S9) (Q E:V9->S9->Prop),s.heap.IsStrIter it T z t i->Q (.ref it) s->wpAny (model P w) A (pyIter (.ref it)) Q E s)
  (u:["enumerate","zip","dict_itemiterator","dict_reverseitemiterator","odict_iterator","itertools.zip_longest","itertools.pairwise"].contains T=false) (it:Az):Turn P w K tg (Its z) [it] it (fun i h=>h.IsStrIter it T z t i) where
 mem:=by simp
 obj:=fun i h st b f=>by
  obtain rfl:b=it:=by simpa using f
  obtain ⟨o,e,c,d⟩:=st
  exact ⟨o,e,fun v z=>by rw[d] at z;cases z⟩
 keep:=fun i h h' st k=>by
  obtain ⟨o,e,c,d⟩:=st
  exact ⟨o,k it (by simp) o e,c,d⟩
 item:=by
  intro X n hw x B i pins s σ H E I l st j
  subst n hw x
  obtain ⟨f0,f1,f2,q,m,y⟩:=l it (by simp)
  refine (C X.A (I.ok.hd B) it).item i s _ E j st fun v h' tk F g p=>?_
  obtain ⟨c,tc,r,rfl⟩:=F
  have G:Inv X pins σ H {s with heap:=h',toks:=tk}:=I.turned (t':=tk) (it:=it) (fun b o f e=>p b o (by simpa using f) e) f0 f1 q m y
  obtain ⟨o,e,D,d⟩:=id g
  exact ⟨_,rfl,sP (s:={s with heap:=h',toks:=tk}) e D d u ⟨.str ⟨#[c]⟩,H,G,⟨_,rfl⟩,⟨rfl,c,r,rfl⟩,g,fun b f=>(l b f).1⟩⟩
 done:=by
  intro X n hw x B i pins s σ H E I l st j
  subst n hw x
  obtain ⟨f0,f1,f2,q,m,y⟩:=l it (by simp)
  have j:i=z.cps.size:=j
  subst j
  exact (C X.A (I.ok.hd B) it).done s _ E st fun h' tk p=>⟨rfl,I.turned (t':=tk) (it:=it) (fun b o f e=>p b o (by simpa using f) e) f0 f1 q m y⟩
 self:=fun A i s Q E st h=>a A it i s Q E st h
def aQW(te:TE):TI:=fun σ H R=>te σ H fun x H1=>∃ z,x=.str z/\R (Its z) H1
def aD6{X:Cx}{tg l:Expr}{tl:TE}(j:PE X l tl):PI X tg l (aQW tl):=by
 intro pins s σ H R I h
 refine thn (j pins s σ H _ I h) fun v s1 c=>?_
 obtain ⟨x,H1,g,r1,m⟩:=c
 obtain ⟨z,e,q⟩:=m
 subst e
 obtain ⟨t,rfl⟩:=r1
 refine wpAny_pyIter_strU ?_
 have a:Inv X pins σ H1 {s1 with heap:=s1.heap.push {cls:=.type (strIterType z),data:=.fields #[.str z t,.int 0 0]}}:=g.kept (t':=s1.toks) fun b o e=>AE _ e
 have st:(s1.heap.push {cls:=.type (strIterType z),data:=.fields #[.str z t,.int 0 0]}).IsStrIter s1.heap.objs.size (strIterType z) z t 0:=⟨_,AT _ rfl,rfl,rfl⟩
 have fin:∀ b∈[s1.heap.objs.size],g8 X pins H1 b:=fun b k=>by
  obtain rfl:=AL.mp k
  exact g.fpOk (AJ _) (g.hok.fresh (AJ _))
 by_cases ha:(z.cps.all fun x=>decide (x < 128))=true
 .have d:strIterType z="str_ascii_iterator":=by unfold strIterType;rw[if_pos ha]
  rw[d] at st a ⊢
  exact ⟨s1.heap.objs.size,[s1.heap.objs.size],_,_,H1,rfl,a,xV z t "str_ascii_iterator" (fun A f it=>Walks.strAscii f it z t) (fun A it i s Q E st h=>wpAny_pyIter_striter_ascii st h) (by decide) _,st,fin,q⟩
 .have d:strIterType z="str_iterator":=by unfold strIterType;rw[if_neg ha]
  rw[d] at st a ⊢
  exact ⟨s1.heap.objs.size,[s1.heap.objs.size],_,_,H1,rfl,a,xV z t "str_iterator" (fun A f it=>Walks.strWide f it z t) (fun A it i s Q E st h=>wpAny_pyIter_striter_wide st h) (by decide) _,st,fin,q⟩
theorem uJ:∀ {xs:List V} {ys:List V9},xs.length=ys.length->(∀ (i:Nat) x y,xs[i]? = some x->ys[i]? = some y->aY x y)->bB xs ys
 | [],[],_,_=>.nil
 | [],_::_,h,_=>by simp at h
 | _::_,[],h,_=>by simp at h
 | x::xs,y::ys,h,f=>.cons (f 0 x y rfl rfl) (uJ (by simpa using h) fun i a b h1 h2=>f (i+1) a b (by simpa using h1) (by simpa using h2))
structure InK(env:Env)(s₀:S9)(m cm:Str->Option V9)(s:S9):Prop where
 ic:InCall s₀ env.locals m s
 cell:∀ n c,env.cells.lookup n=some c->s.heap.IsCell c (cm n)
 inj:∀ n n' c,env.cells.lookup n=some c->env.cells.lookup n'=some c->n=n'
 ne:∀ n c,env.cells.lookup n=some c->c≠env.locals
 up:∀ n c,env.kindOf n=some .cell->env.cells.lookup n=some c->env.locals < c
section
variable{M:Model}{A:Around}{E:V9->S9->Prop}{s₀ s:S9}{m cm:Str->Option V9}{env:Env}
def InK.stL{n:Str}{v:V9}{Q:Unit->S9->Prop}(x:InK env s₀ m cm s)(j:env.scope.kind=.function)(i:env.kindOf n=some .local)
  (h:∀ s',InK env s₀ (fun y=>if y=n then some v else m y) cm s'->Q () s'):wpAny M A (storeName env n v) Q E s:=by
 refine wpAny_storeName_local i x.ic.ns (fun h' d a=>h _ ⟨⟨?_,d,fun b o e=>?_,x.ic.fresh⟩,fun k c g=>?_,x.inj,x.ne,x.up⟩) (by rw[j];rfl)
 .obtain ⟨f,tk,rfl⟩:=x.ic.same
  exact ⟨h',_,rfl⟩
 .exact a.extBut b o (A2 (AW (AK e) x.ic.fresh)) (x.ic.keep b o e)
 .exact (x.cell k c g).sameBut a (x.ne k c g)
def InK.stC{n:Str}{c:Az}{v:V9}{Q:Unit->S9->Prop}(x:InK env s₀ m cm s)(q:env.scope.kind=.function)(j:env.kindOf n=some .cell)
  (f:env.cells.lookup n=some c)
  (h:∀ s',InK env s₀ m (fun y=>if y=n then some v else cm y) s'->Q () s'):wpAny M A (storeName env n v) Q E s:=by
 have g:=x.up n c j f
 refine wpAny_storeName_cell q j f (x.cell n c f) fun h' i d=>h _ ⟨⟨?_,x.ic.ns.sameBut d (A2 g),fun b o e=>?_,x.ic.fresh⟩,fun k p a=>?_,x.inj,x.ne,x.up⟩
 .obtain ⟨l,tk,rfl⟩:=x.ic.same
  exact ⟨h',_,rfl⟩
 .exact d.extBut b o (A2 (C4 (AW (AK e) x.ic.fresh) g)) (x.ic.keep b o e)
 .by_cases hkn:k=n
  .subst hkn
   rw[f] at a;cases a
   simpa using i
  .rw[if_neg hkn]
   exact (x.cell k p a).sameBut d fun e=>hkn (x.inj k n p a (e▸f))
theorem InK.binds(f:Str×V9->PUnit->Sem (ForInStep PUnit))(j:∀ n v u,f (n,v) u=(do storeName env n v;pure (.yield ⟨⟩)))(g:env.scope.kind=.function) :
  ∀ (binds:List (Str×V9)) (m cm:Str->Option V9) (s:S9) (Q:PUnit->S9->Prop),InK env s₀ m cm s->
   (∀ x∈binds,env.kindOf x.1=some .local\/(env.kindOf x.1=some .cell/\(env.cells.lookup x.1).isSome=true))->
   (∀ s',InK env s₀ (bindL env.kindOf binds m) (bindC env.kindOf binds cm) s'->Q ⟨⟩ s')->wpAny M A (forIn binds ⟨⟩ f) Q E s
 | [],m,cm,s,Q,x,_,h=>by rw[EQ];exact AD (h s x)
 | (n,v)::r,m,cm,s,Q,x,hkind,h=>by
  rw[CN,j]
  have hr:∀ y∈r,env.kindOf y.1=some .local\/(env.kindOf y.1=some .cell/\(env.cells.lookup y.1).isSome=true):=fun y l=>hkind y (AI _ l)
  rcases hkind (n,v) AQ with d|⟨d,k⟩
  .refine AB (AB (x.stL g d fun s' i=>AD (InK.binds f j g r _ _ s' Q i hr fun a b=>h a ?_)))
   unfold bindL bindC;rw[if_pos d,if_pos d];exact b
  .obtain ⟨c,k⟩:=HE.mp k
   have e:¬ env.kindOf n=some .local:=by rw[d];decide
   refine AB (AB (x.stC g d k fun s' i=>AD (InK.binds f j g r _ _ s' Q i hr fun a b=>h a ?_)))
   unfold bindL bindC;rw[if_neg e,if_neg e];exact b
end
theorem jJ:∀ (names:List (Str×NameKind)) (n:Nat) (acc:List (Str×Az)),cellsFrom n names acc=cellsFrom n names []++acc
 | [],_,_=>rfl
 | (x,k)::r,n,acc=>by
  unfold cellsFrom
  split
  · rw [jJ r (n + 1) ((x, n) :: acc), jJ r (n + 1) [(x, n)], G7]; rfl
  · exact jJ r n acc
theorem mH:∀ (names:List (Str×NameKind)) (n:Nat) {x:Str} {c:Az},(x,c)∈cellsFrom n names []->(x,NameKind.cell)∈names
 | [],_,_,_,h=>by simp[cellsFrom] at h
 | (y,k)::r,n,x,c,h=>by
  unfold cellsFrom at h
  split at h
  .rename_i hk
   rw[jJ] at h
   rcases A4.mp h with h|h
   .exact AI _ (mH r _ h)
   .have:(x,c)=(y,n):=by simpa using h
    cases this
    rw[FY hk];exact AQ
  .exact AI _ (mH r _ h)
theorem nY{α:Type}{x:Str}:∀ {l l':List (Str×α)},(l++l').lookup x=(l.lookup x).or (l'.lookup x)
 | [],l'=>by simp
 | (y,v)::r,l'=>by
  rw[DH,BE,BE]
  cases x == y with
  | true=>rfl
  | false=>exact nY
def aD7{α:Type}{x:Str}{l:List (Str×α)}(h:∀ v,(x,v)∉l):l.lookup x=none:=by
 cases e:l.lookup x with
 | none=>rfl
 | some v=>exact absurd (BB e) (h v)
def cI(qual:Str)(scope:Scope)(L f:Az)(cd:V9)(cl:List (Str×Az)):Env:=newEnv scope L mainGlobals (cellsFrom (L+1) scope.names cl) (qual++".<locals>.") (some f) cd none builtinsNs
structure ClAt(h:Heap)(scope:Scope)(cl:List (Str×Az))(cm:Str->Option V9):Prop where
 cell:∀ n c,cl.lookup n=some c->h.IsCell c (cm n)
 inj:∀ n n' c,cl.lookup n=some c->cl.lookup n'=some c->n=n'
 off:∀ y∈scope.names,y.2=.cell->cl.lookup y.1=none
section
variable{M:Model}{A:Around}{E:V9->S9->Prop}{s:S9}
def aAK{scope:Scope}{binds:List (Str×V9)}{qual:Str}{f:Az}{cd:V9}{cl:List (Str×Az)}{cm:Str->Option V9}{Q:Env->S9->Prop}
  (t:scope.kind=.function) (C:ClAt s.heap scope cl cm)
  (j:∀ x∈binds,scope.names.lookup x.1=some .local\/scope.names.lookup x.1=some .cell)
  (p:∀ s',InK (cI qual scope s.heap.objs.size f cd cl) s (bindL (cI qual scope s.heap.objs.size f cd cl).kindOf binds fun _=>none) (bindC (cI qual scope s.heap.objs.size f cd cl).kindOf binds fun n=>if (cl.lookup n).isSome then cm n else none) s'->Q (cI qual scope s.heap.objs.size f cd cl) s') :
  wpAny M A (newFunctionEnv scope mainGlobals cl binds (qual++".<locals>.") (some f) cd none builtinsNs) Q E s:=by
 simp only[newFunctionEnv,Option.isSome_none,CC,DG]
 refine AB (wpAny_alloc ?_)
 refine AB (wpAny_layCells _ (fun name kind cells=>by cases hkc:kind == NameKind.cell<;>simp[hkc]) _ _ _ _ ?_)
 have ok:=cellsFrom_ok scope.names (s.heap.push {cls:=.type "frame",data:=.dict #[]}) (s.heap.objs.size+1) [] ⟨fun _ _ u=>(nomatch u),List.Pairwise.nil⟩ (by rw[BY];exact AJ _)
 rw[BY] at ok
 rw[show ({s with heap:=s.heap.push {cls:=.type "frame",data:=.dict #[]}}:S9).heap.objs.size=s.heap.objs.size+1 from BY ..]
 have keep:∀ b o,s.heap.get? b=some o->(pushCells (s.heap.push {cls:=.type "frame",data:=.dict #[]}) scope.names).get? b=some o:=fun b o e=>pushCells_keeps _ _ b o (AE _ e)
 have h:(cI qual scope s.heap.objs.size f cd cl).cells=cellsFrom (s.heap.objs.size+1) scope.names []++cl:=jJ _ _ _
 have i:∀ n c,(cI qual scope s.heap.objs.size f cd cl).cells.lookup n=some c->((cellsFrom (s.heap.objs.size+1) scope.names []).lookup n=some c/\cl.lookup n=none)\/((cellsFrom (s.heap.objs.size+1) scope.names []).lookup n=none/\cl.lookup n=some c):=fun n c e=>by
  rw[h,nY] at e
  cases q:(cellsFrom (s.heap.objs.size+1) scope.names []).lookup n with
  | none=>rw[q] at e;exact .inr ⟨rfl,by simpa using e⟩
  | some d=>
   rw[q] at e
   have l:some d=some c:=by simpa using e
   cases l
   exact .inl ⟨rfl,C.off (n,.cell) (mH _ _ (BB q)) rfl⟩
 have big:∀ n c,(cellsFrom (s.heap.objs.size+1) scope.names []).lookup n=some c->s.heap.objs.size < c:=fun n c e=>(ok.empty n c (BB e)).2
 have a:∀ n c,cl.lookup n=some c->c < s.heap.objs.size:=fun n c e=>(C.cell n c e).lt
 refine AB (InK.binds (s₀:=s) (env:=cI qual scope s.heap.objs.size f cd cl)
  _ (fun _ _ _=>rfl) t binds (fun _=>none) (fun n=>if (cl.lookup n).isSome then cm n else none) _ _
  ⟨⟨⟨_,_,rfl⟩,(Heap.Ns.new s.heap (.type "frame")).keeps (pushCells_keeps _ _),keep,AJ _⟩,fun n c e=>?_,fun n m c e l=>?_,fun n c e=>?_,fun n c v e=>?_⟩
  (fun x hx=>?_) fun s' x=>AD (p s' x))
 .rcases i n c e with ⟨q,g⟩|⟨q,g⟩
  .rw[g];exact (ok.empty n c (BB q)).1
  .rw[g];exact (C.cell n c g).keeps keep
 .rcases i n c e with ⟨q,g⟩|⟨q,g⟩<;>rcases i m c l with ⟨r,k⟩|⟨r,k⟩
  .exact name_of_addr ok.apart (BB q) (BB r)
  .exact absurd (big _ _ q) (C6.mpr (BU (a _ _ k)))
  .exact absurd (big _ _ r) (C6.mpr (BU (a _ _ g)))
  .exact C.inj n m c g k
 .show c≠s.heap.objs.size
  rcases i n c e with ⟨q,g⟩|⟨q,g⟩
  .exact C3 (big _ _ q)
  .exact A2 (a _ _ g)
 .show s.heap.objs.size < c
  rcases i n c e with ⟨q,g⟩|⟨q,g⟩
  .exact big _ _ q
  .rw[C.off (n,.cell) (BB v) rfl] at g;cases g
 .rcases j x hx with q|q
  .exact .inl q
  .refine .inr ⟨q,?_⟩
   obtain ⟨c,e⟩:=lR (n:=s.heap.objs.size+1) q
   rw[h,nY,e];rfl
end
def hid(cs:List Az)(H:Hp):Hp:=fun b=>if b∈cs then none else H b
def shw(cs:List Az)(H H':Hp):Hp:=fun b=>if b∈cs then H b else H' b
def nA{cs:List Az}{H:Hp}{b:Az}(h:b∈cs):hid cs H b=none:=if_pos h
def bQ{cs:List Az}{H:Hp}{b:Az}(h:b∉cs):hid cs H b=H b:=if_neg h
def o8{cs:List Az}{H H':Hp}{b:Az}(h:b∈cs):shw cs H H' b=H b:=if_pos h
def dW{cs:List Az}{H H':Hp}{b:Az}(h:b∉cs):shw cs H H' b=H' b:=if_neg h
def iC{cs:List Az}{H:Hp}{b:Az}(h:H b=none):hid cs H b=none:=by
 by_cases q:b∈cs
 · exact nA q
 · rw [bQ q]; exact h
def nZ{cs:List Az}{H:Hp}{b:Az}{o:HO}(h:hid cs H b=some o):H b=some o/\b∉cs:=by
 by_cases q:b∈cs
 · rw [nA q] at h; cases h
 · rw [bQ q] at h; exact ⟨h, q⟩
def FnO(f:Az)(o:Obj):HO:=.ext fun h=>h.get? f=some o
def dX(c:Az)(o:Obj)(v:V):HO:=.frz o (.ext fun h=>∃ u,aY v u/\h.IsCell c (some u))
section
variable{P:Program}{w:World}{H:Hp}{h:Heap}
def FnO.get{f:Az}{o:Obj}(x:HOk P w H h)(e:H f=some (FnO f o)):h.get? f=some o:=(x f _ e).1
def dX.get{c:Az}{o:Obj}{v:V}(x:HOk P w H h)(e:H c=some (dX c o v)):h.get? c=some o/\∃ u,aY v u/\h.IsCell c (some u):=⟨(x c _ e).1,(x c _ e).2.1⟩
def FnO.ok{f:Az}{o:Obj}(e:h.get? f=some o):b8 P w H h f (FnO f o):=⟨e,⟨o,e⟩,fun h1 h2 q k=>k o q⟩
def dX.ok{c:Az}{o:Obj}{v:V}{u:V9}(r:aY v u)(e:h.get? c=some o)(a:o.data=.cell (some u)):b8 P w H h c (dX c o v):=
 ⟨e,⟨u,r,o,e,a⟩,⟨o,e⟩,fun h1 h2 ⟨u,r,o,b,a⟩ k=>⟨u,r,o,k o b,a⟩⟩
end
def Celd(cs:List Az)(H:Hp):Prop:=∀ c∈cs,∃ o v,H c=some (dX c o v)
def Celd.out{cs:List Az}{H:Hp}(h:Celd cs H){b:Az}{o:HO}(e:H b=some o)(n:∀ o' v,o≠dX b o' v):b∉cs:=fun z=>by
 obtain ⟨o',v,q⟩:=h b z
 rw[q] at e;cases e
 exact n o' v rfl
theorem HOk.hid{P:Program}{w:World}{H:Hp}{h:Heap}{cs:List Az}(x:HOk P w H h)(a:Celd cs H):HOk P w (hid cs H) h:=fun b u e=>by
 obtain ⟨e1,_⟩:=nZ e
 exact (x b u e1).stay (fun _ _ _ q=>q) (fun c q=>by rw[bQ (a.out q fun _ v z=>nomatch z)];exact q) (fun c _ q=>by rw[bQ (a.out q fun _ v z=>nomatch z)];exact q) fun c _ q=>by rw[bQ (a.out q fun _ v z=>nomatch z)];exact q
structure CloScope(N ps fr:List Str)(sc:Scope):Prop where
 kind:sc.kind=.function
 co:sc.isCoroutine=false
 gen:sc.isGenerator=false
 nd:N.Nodup
 pre:N.take (ps++fr).length=ps++fr
 par:∀ x∈ps,sc.names.lookup x=some .local\/sc.names.lookup x=some .cell
 cap:∀ x∈fr,sc.names.lookup x=some .free
 only:∀ y∈sc.names,y.2=.free->y.1∈fr
 off:∀ y∈sc.names,y.2=.cell->y.1∉fr
structure CapAt(H:Hp)(fr:List Str)(cl:List (Str×Az))(vs:List V):Prop where
 len:vs.length=fr.length
 only:∀ n c,cl.lookup n=some c->n∈fr
 inj:∀ n n' c,cl.lookup n=some c->cl.lookup n'=some c->n=n'
 at':∀ (i:Nat) x v,fr[i]? = some x->vs[i]? = some v->∃ c o,cl.lookup x=some c/\H c=some (dX c o v)
def CapAt.get{H:Hp}{fr:List Str}{cl:List (Str×Az)}{vs:List V}(a:CapAt H fr cl vs){n:Str}{c:Az}(e:cl.lookup n=some c):∃ o v,H c=some (dX c o v):=by
 obtain ⟨i,hi,hx⟩:=EU.mp (a.only n c e)
 obtain ⟨d,o,b,q⟩:=a.at' i n (vs[i]'(by rw[a.len];exact hi)) (by rw[AH hi,hx]) (AH _)
 rw[e] at b;cases b
 exact ⟨_,_,q⟩
def a8(fr:List Str)(cl:List (Str×Az)):List Az:=fr.filterMap fun x=>cl.lookup x
def CapAt.celd{H:Hp}{fr:List Str}{cl:List (Str×Az)}{vs:List V}(a:CapAt H fr cl vs):Celd (a8 fr cl) H:=fun c b=>by
 obtain ⟨x,_,e⟩:=DQ.mp b
 exact a.get e
def CapAt.same{H H':Hp}{fr:List Str}{cl:List (Str×Az)}{vs:List V}(a:CapAt H fr cl vs)(s:aH H H'):CapAt H' fr cl vs:=⟨a.len,a.only,a.inj,fun i x v h1 h2=>let ⟨c,o,e,q⟩:=a.at' i x v h1 h2;⟨c,o,e,s _ _ q⟩⟩
def iQ(CX:CXT)(P:Program)(w:World)(K:Frag)(mg:Str->Option V9)(base:Heap)(N fr:List Str)(qual:Str)(scope:Scope)(f:Az)(cd:V9)(cl:List (Str×Az))(A:Around)(outer:List Env)(s:S9)(H:Hp)(E:XK):Cx where
 prog:=P
 w:=w
 K:=K
 mg:=mg
 base:=base
 A:=A.deeper (cI qual scope s.heap.objs.size f cd cl)
 N:=N
 s₀:=s
 H₀:=hid (a8 fr cl) H
 env:=cI qual scope s.heap.objs.size f cd cl
 outer:=outer
 stack:=cI qual scope s.heap.objs.size f cd cl::outer
 ex:=[]
 calm:=true
 fn:=fun x=>(cl.lookup x).isNone
 pn:=[]
 xe:=fun e s'=>wpAny (model P w) (A.deeper (cI qual scope s.heap.objs.size f cd cl)) (leaving (cI qual scope s.heap.objs.size f cd cl) e) (fun _ s''=>CX outer H s E e s'') (fun e' s''=>CX outer H s E e' s'') s'
section
variable{CX:CXT}{P:Program}{w:World}{K:Frag}{mg:Str->Option V9}{base:Heap}{N ps fr:List Str}{qual:Str}{scope:Scope}{f:Az}{cd:V9}{cl:List (Str×Az)}{A:Around}{outer:List Env}{s s1:S9}{H:Hp}{E:XK}{us:List V9}{vs cvs:List V}
def aAL{h:Heap}(hok:HOk P w H h)(C:CapAt H fr cl cvs):∃ cm:Str->Option V9,(∀ n c,cl.lookup n=some c->∃ v u,(∃ o,H c=some (dX c o v))/\aY v u/\cm n=some u/\h.IsCell c (some u)):=by
 have key:∀ n,∃ x:Option V9,∀ c,cl.lookup n=some c->∃ v u,(∃ o,H c=some (dX c o v))/\aY v u/\x=some u/\h.IsCell c (some u):=fun n=>by
  cases e:cl.lookup n with
  | none=>exact ⟨none,fun c z=>nomatch z⟩
  | some c=>
   obtain ⟨o,v,q⟩:=C.get e
   obtain ⟨_,u,r,z⟩:=dX.get hok q
   exact ⟨some u,fun b a=>by cases a;exact ⟨v,u,⟨o,q⟩,r,rfl,z⟩⟩
 exact ⟨fun n=>(key n).choose,fun n c e=>(key n).choose_spec c e⟩
def n4{n:Str}{L:Nat}:(cI qual scope L f cd cl).cells.lookup n=((cellsFrom (L+1) scope.names []).lookup n).or (cl.lookup n):=by
 rw[show (cI qual scope L f cd cl).cells=cellsFrom (L+1) scope.names []++cl from jJ _ _ _,nY]
def qG{n:Str}{c:Az}{L:Nat}(S:CloScope N ps fr scope)(C:CapAt H fr cl cvs)(e:cl.lookup n=some c):(cI qual scope L f cd cl).cells.lookup n=some c:=by
 rw[n4,aD7 fun v a=>S.off (n,.cell) (mH _ _ a) rfl (C.only n c e)]
 simpa using e
def sZ{cm:Str->Option V9}(S:CloScope N ps fr scope)(C:CapAt H fr cl cvs)(W:A.handled=none)(e0:Env0 P w K mg base A outer s H)(J:vs.length=ps.length)(r:bB vs us)
  (X:∀ n c,cl.lookup n=some c->∃ v u,(∃ o,H c=some (dX c o v))/\aY v u/\cm n=some u/\s.heap.IsCell c (some u))
  (x:InK (cI qual scope s.heap.objs.size f cd cl) s (bindL (cI qual scope s.heap.objs.size f cd cl).kindOf (ps.zip us) fun _=>none) (bindC (cI qual scope s.heap.objs.size f cd cl).kindOf (ps.zip us) fun n=>if (cl.lookup n).isSome then cm n else none) s1) :
  Inv (iQ CX P w K mg base N fr qual scope f cd cl A outer s H E) [] (eS N (vs++cvs)) (hid (a8 fr cl) H) s1:=by
 have R:(ps++fr).length<=N.length:=by have:=DW List.length S.pre;rw[BS] at this;omega
 have Y:(vs++cvs).length=(ps++fr).length:=by rw[BD,BD,J,C.len]
 obtain ⟨h1,tk,rfl,G⟩:=x.ic.done
 have g:∀ b:Az,b∉(iQ CX P w K mg base N fr qual scope f cd cl A outer s H E).ex:=fun b z=>absurd (show b∈([]:List Az) from z) (by simp)
 have D:∀ y c,cl.lookup y=none->(cI qual scope s.heap.objs.size f cd cl).cells.lookup y=some c->s.heap.objs.size < c:=fun y c n e=>by
  rw[n4,n] at e
  have m:(cellsFrom (s.heap.objs.size+1) scope.names []).lookup y=some c:=by simpa using e
  have ok:=cellsFrom_ok scope.names (s.heap.push {cls:=.type "frame",data:=.dict #[]}) (s.heap.objs.size+1) [] ⟨fun _ _ Q=>(nomatch Q),List.Pairwise.nil⟩ (by rw[BY];exact AJ _)
  rw[BY] at ok
  exact (ok.empty y c (BB m)).2
 refine ⟨⟨e0.mod,S.kind,rfl,rfl,AJ _,fun y z c h1 h2=>x.inj y z c h1 h2,fun y l=>?_,fun y c F h=>?_,fun _=>W,Around.frames_deeper e0.frames,.inr ⟨rfl,rfl⟩,fun b z=>absurd z (g b),fun b o e=>⟨(e0.bs b o e).1,iC (e0.bs b o e).2⟩,e0.bsz,fun b _ _=>g b,fun b z=>absurd z (g b),e0.funs,fun b U=>iC (e0.frf b U)⟩,
  rfl,e0.bare,Un.kept G,⟨_,x.ic.ns,fun i y v h1 h2 Z=>?_⟩,fun y c h=>⟨_,x.cell y c h⟩,iC (e0.hok.fresh (AJ _)),fun y c h=>?_,fun p d=>absurd (show p∈([]:List (Az×Obj)) from d) (by simp),(e0.hok.hid C.celd).kept G,?_⟩
 .have l:scope.names.lookup y=some .cell\/scope.names.lookup y=some .free:=l
  rcases l with l|l
  .obtain ⟨c,e⟩:=lR (n:=s.heap.objs.size+1) l
   exact ⟨c,by show (cI qual scope s.heap.objs.size f cd cl).cells.lookup y=_;rw[n4,e];rfl⟩
  .obtain ⟨i,hi,hx⟩:=EU.mp (S.only _ (BB l) rfl)
   obtain ⟨c,_,e,_⟩:=C.at' i y (cvs[i]'(by rw[C.len];exact hi)) (by rw[AH hi,hx]) (AH _)
   exact ⟨c,qG S C e⟩
 .have F:(cl.lookup y).isNone=true:=F
  exact BU (D y c (Option.isNone_iff_eq_none.mp F) h)
 .have hi:i < (vs++cvs).length:=by
   unfold eS at h2
   by_cases hi:i < (vs++cvs).length
   .exact hi
   .rw[CL (by simpa using hi)] at h2
    rw[FE] at h2
    split at h2<;>cases h2
  have B:(vs++cvs)[i]? = some v:=by
   unfold eS at h2
   rw[BM (by simpa using hi),AN] at h2
   cases e:(vs++cvs)[i]? with
   | none=>rw[e] at h2;cases h2
   | some a=>rw[e] at h2;cases h2;rfl
  have d:(ps++fr)[i]? = some y:=by
   rw[<-S.pre,FC (by omega)];exact h1
  have I:(ps++fr).Nodup:=by rw[<-S.pre];exact S.nd.sublist (List.take_sublist _ _)
  have t:ps.Nodup:=(D0.mp I).1
  by_cases hip:i < ps.length
  .rw[BM (by omega)] at B
   rw[BM hip] at d
   obtain ⟨u,M,T⟩:=r.get B
   refine ⟨u,T,?_⟩
   rcases S.par y (AU d) with k|k
   .exact .inl ⟨k,o3 t d M k⟩
   .obtain ⟨c,e⟩:=lR (n:=s.heap.objs.size+1) k
    have m:(cI qual scope s.heap.objs.size f cd cl).cells.lookup y=some c:=by rw[n4,e];rfl
    refine .inr ⟨.inl k,c,m,?_⟩
    have q:=x.cell y c m
    rw[o4 t d M (by show scope.names.lookup y≠_;rw[k];decide)] at q
    exact q
  .rw[CL (by omega)] at B
   rw[CL (by omega)] at d
   rw[J] at B
   obtain ⟨c,o,e,q⟩:=C.at' _ y v d B
   obtain ⟨_,V,r2,O⟩:=dX.get e0.hok q
   have m:=qG (qual:=qual) (f:=f) (cd:=cd) (L:=s.heap.objs.size) S C e
   have j:scope.names.lookup y=some .free:=S.cap y (AU d)
   refine ⟨V,r2,.inr ⟨.inr j,c,m,?_⟩⟩
   exact O.keeps G
 .cases e:cl.lookup y with
  | none=>exact iC (e0.hok.fresh (BU (D y c e h)))
  | some c'=>
   have h':=qG (qual:=qual) (f:=f) (cd:=cd) (L:=s.heap.objs.size) S C e
   have h:(cI qual scope s.heap.objs.size f cd cl).cells.lookup y=some c:=h
   rw[h] at h';cases h'
   exact nA (DQ.mpr ⟨y,C.only y c e,e⟩)
 .unfold eS
  show _=N.length
  rw[BD,AC,EN]
  omega
def rR{pins:List (Az×Obj)}{σ:St}{H':Hp}{s':S9}(S:CloScope N ps fr scope)(C:CapAt H fr cl cvs)(e0:Env0 P w K mg base A outer s H)(J:Inv (iQ CX P w K mg base N fr qual scope f cd cl A outer s H E) pins σ H' s') :
  (∀ c∈a8 fr cl,H' c=none)/\Un (frs outer) [] H (shw (a8 fr cl) H H') s.heap s'.heap/\HOk P w (shw (a8 fr cl) H H') s'.heap:=by
 have un:Un (frs outer) [] (hid (a8 fr cl) H) H' s.heap s'.heap:=J.base
 have d:∀ c∈a8 fr cl,H' c=none:=fun c j=>by
  obtain ⟨x,_,e⟩:=DQ.mp j
  exact J.freeC x c (qG S C e)
 have out:∀ b,H b=none->b∉a8 fr cl:=fun b n z=>by
  obtain ⟨o,v,q⟩:=C.celd b z
  rw[n] at q;cases q
 refine ⟨d,⟨fun b o e n h1 h2=>un.keep b o e (iC n) h1 h2,fun b o e n h1 h2=>un.slot b o e (iC n) h1 h2,fun b o e n h2=>by rw[dW (out b n)];exact un.free b o e (iC n) h2,un.there,
  fun b xs q=>?_,fun b o u q=>?_,fun b ps q=>?_⟩,fun b u e=>?_⟩
 .have a:=C.celd.out q fun _ v z=>nomatch z
  rw[dW a];exact un.tups b xs (by rw[bQ a];exact q)
 .by_cases a:b∈a8 fr cl
  .rw[o8 a];exact q
  .rw[dW a];exact un.frzs b o u (by rw[bQ a];exact q)
 .have a:=C.celd.out q fun _ v z=>nomatch z
  rw[dW a];exact un.tbls b ps (by rw[bQ a];exact q)
 .by_cases a:b∈a8 fr cl
  .rw[o8 a] at e
   obtain ⟨o,v,q⟩:=C.celd b a
   rw[q] at e;cases e
   obtain ⟨h,u,r,k,g,i⟩:=dX.get e0.hok q
   rw[h] at g;cases g
   exact dX.ok r (un.keep b o h (nA a) (fun z=>by have:=e0.frf b z;rw[q] at this;cases this) (by simp)) i
  .rw[dW a] at e
   have ne:∀ c o,H' c=some o->c∉a8 fr cl:=fun c o q z=>by rw[d c z] at q;cases q
   exact (J.hok b u e).stay (fun _ _ _ q=>q) (fun c q=>by rw[dW (ne c _ q)];exact q) (fun c _ q=>by rw[dW (ne c _ q)];exact q) fun c _ q=>by rw[dW (ne c _ q)];exact q
end
section
variable{P:Program}{w:World}{K:Frag}{mg:Str->Option V9}{base:Heap}{N ps fr:List Str}{qual:Str}{scope:Scope}{f:Az}{cd:V9}{cl:List (Str×Az)}{A:Around}{outer:List Env}{s:S9}{H:Hp}{E:XK}{cvs:List V}
def s9{j:V9}{s':S9}(S:CloScope N ps fr scope)(C:CapAt H fr cl cvs)(e0:Env0 P w K mg base A outer s H)
  (h:Fly (iQ (CXe P w) P w K mg base N fr qual scope f cd cl A outer s H E) (fun c e H'=>(∀ a∈a8 fr cl,H' a=none)->E c e (shw (a8 fr cl) H H')) j s'):(iQ (CXe P w) P w K mg base N fr qual scope f cd cl A outer s H E).xe j s':=by
 obtain ⟨e,l,od,σ,H',rfl,I,m,q⟩:=h
 show wpAny (model P w) _ (leaving _ (.ref e)) _ _ s'
 unfold leaving
 have k:mG (iQ (CXe P w) P w K mg base N fr qual scope f cd cl A outer s H E):=⟨rfl,rfl⟩
 refine AB (nX k I m fun p n f2=>m7 n f2 fun r i g=>?_)
 obtain ⟨vs,T,a,b,c,_⟩:=g.tb
 obtain ⟨d,un,hok⟩:=rR S C e0 i
 have ne:∀ c o,H' c=some o->c∉a8 fr cl:=fun c o q z=>by rw[d c z] at q;cases q
 refine ⟨e,l,od,_,rfl,i.os,i.bare,un,hok,by rw[dW (ne _ _ g.tr)];exact g.tr,⟨vs,T,a,b,fun t e1=>⟨?_,(c t e1).2.1⟩⟩,q d⟩
 rw[dW]
 .exact (c t e1).1
 .intro z
  obtain ⟨o,v,q⟩:=C.celd t z
  exact absurd (AW (e0.hok.lt q) (c t e1).2.1) (BG _)
end
structure ClSt where
 name:Str
 qual:Str
 params:Arguments
 body:FuncBody
 scope:Scope
def ClSt.fd(S:ClSt)(cl:List (Str×Az))(doc pm:V9)(c:Az)(ct:V9):FuncData:=
 {name:=S.name,qualname:=S.qual,params:=S.params,body:=S.body,scope:=S.scope,globals:=mainGlobals,closure:=cl,defaults:=.none,kwdefaults:=.none,doc:=doc,pyModule:=pm,annotations:=none,code:=.ref c,closureTuple:=ct,builtins:=builtinsNs}
abbrev ClSt.obj(S:ClSt)(cl:List (Str×Az))(doc pm:V9)(c:Az)(ct:V9):Obj:={cls:=.type "function",data:=.func (S.fd cl doc pm c ct)}
section
variable{P:Program}{w:World}{K:Frag}{mg:Str->Option V9}{base:Heap}{N ps fr:List Str}{S:ClSt}{f c:Az}{cl:List (Str×Az)}{A:Around}{outer:List Env}{s:S9}{H:Hp}{E:XK}{Q:VK}{cvs vs:List V}{us:List V9}{args:Args}{doc pm ct:V9}{k:Nat}
def xW(Sc:CloScope N ps fr S.scope):∀ y∈ps.zip us,S.scope.names.lookup y.1=some .local\/S.scope.names.lookup y.1=some .cell:=fun ⟨n,v⟩ a=>Sc.par n (E6 a).1
def aD8{h:Heap}(hok:HOk P w H h)(Sc:CloScope N ps fr S.scope)(C:CapAt H fr cl cvs){cm:Str->Option V9}(a:∀ n c,cl.lookup n=some c->∃ v u,(∃ o,H c=some (dX c o v))/\aY v u/\cm n=some u/\h.IsCell c (some u)):ClAt h S.scope cl cm where
 cell:=fun n c e=>by
  obtain ⟨v,u,_,_,e1,z⟩:=a n c e
  rw[e1];exact z
 inj:=C.inj
 off:=fun y d b=>by
  cases e:cl.lookup y.1 with
  | none=>rfl
  | some c=>exact absurd (C.only _ _ e) (Sc.off y d b)
def aD9{body:List Stmt}(D:S.body=.stmts body)(F:H f=some (FnO f (S.obj cl doc pm c ct)))(R:H c=some (.cod S.qual))(Sc:CloScope N ps fr S.scope)(C:CapAt H fr cl cvs)(l:Room (k+1) A)
  (e0:Env0 P w K mg base A outer s H) (j:BindsTo s (S.fd cl doc pm c ct) args (ps.zip us)) (r:bB vs us) (B:vs.length=ps.length)
  (g:Room k (A.deeper (cI S.qual S.scope s.heap.objs.size f (.ref c) cl))->∃ t,PSs ((iQ (CXe P w) P w K mg base N fr S.qual S.scope f (.ref c) cl A outer s H E).fly fun c e H'=>(∀ a∈a8 fr cl,H' a=none)->E c e (shw (a8 fr cl) H H')) body t /\
   t {nx:=fun _ H'=>(∀ a∈a8 fr cl,H' a=none)->Q .non (shw (a8 fr cl) H H'),rt:=fun v H'=>(∀ a∈a8 fr cl,H' a=none)->Q v (shw (a8 fr cl) H H')} (eS N (vs++cvs)) (hid (a8 fr cl) H)) :
  codeAny (model P w) A (.call (.ref f) args) (CR (CXe P w) outer P w H s Q E) s:=by
 have m:s.heap.NoLimit:=e0.mod.nolimit.keeps fun b o e=>(e0.bs b o e).1
 obtain ⟨cm,i⟩:=aAL e0.hok C
 have p:s.heap.CodeRec (.ref c) S.qual:=e0.hok c _ R
 refine codeAny_call_function l.depth (FnO.get e0.hok F) rfl Sc.co Sc.gen D p (j _ _ _ _ ?_)
 refine aAK (cm:=cm) Sc.kind (aD8 e0.hok Sc C i) (xW Sc) fun s1 x=>?_
 refine ⟨m.keeps x.ic.keep,codeAny_func ?_⟩
 obtain ⟨t,M,O⟩:=g (l.deeper _)
 have I:Inv (iQ (CXe P w) P w K mg base N fr S.qual S.scope f (.ref c) cl A outer s H E) [] (eS N (vs++cvs)) (hid (a8 fr cl) H) s1:=sZ Sc C l.hd e0 B r i x
 have y:=M.unfly fun _ _ z=>s9 Sc C e0 z
 refine BX (y [] s1 _ _ _ I O) (fun G s' h=>?_) fun e s' h=>h
 have fin:∀ {d:St} {H':Hp} {v:V} {u:V9},Inv (iQ (CXe P w) P w K mg base N fr S.qual S.scope f (.ref c) cl A outer s H E) [] d H' s'->aY v u->((∀ a∈a8 fr cl,H' a=none)->Q v (shw (a8 fr cl) H H'))->CE outer P w H s Q u s':=
  fun {d H' v u} J n q=>by
   obtain ⟨L,un,hok⟩:=rR Sc C e0 J
   exact ⟨v,_,J.os,J.bare,un,hok,n,q L⟩
 cases G with
 | ret u=>
  obtain ⟨v,d,H',J,n,q⟩:=h
  exact fin J n q
 | next=>
  obtain ⟨d,H',J,q⟩:=h
  exact fin (v:=V.non) (u:=Value.none) J rfl q
 | brk=>
  obtain ⟨_,_,_,q⟩:=h
  exact False.elim q
 | cont=>
  obtain ⟨_,_,_,q⟩:=h
  exact False.elim q
def aGQ{body:Expr}(y:S.body=.expr body)(z:H f=some (FnO f (S.obj cl doc pm c ct)))(G:H c=some (.cod S.qual))(Sc:CloScope N ps fr S.scope)(C:CapAt H fr cl cvs)(i:Room (k+1) A)
  (e0:Env0 P w K mg base A outer s H) (h:BindsTo s (S.fd cl doc pm c ct) args (ps.zip us)) (r:bB vs us) (n:vs.length=ps.length)
  (d:Room k (A.deeper (cI S.qual S.scope s.heap.objs.size f (.ref c) cl))->∃ t,PE ((iQ (CXe P w) P w K mg base N fr S.qual S.scope f (.ref c) cl A outer s H E).fly fun c e H'=>(∀ a∈a8 fr cl,H' a=none)->E c e (shw (a8 fr cl) H H')) body t /\
   t (eS N (vs++cvs)) (hid (a8 fr cl) H) fun v H'=>(∀ a∈a8 fr cl,H' a=none)->Q v (shw (a8 fr cl) H H')) :
  codeAny (model P w) A (.call (.ref f) args) (CR (CXe P w) outer P w H s Q E) s:=by
 have j:s.heap.NoLimit:=e0.mod.nolimit.keeps fun b o e=>(e0.bs b o e).1
 obtain ⟨cm,g⟩:=aAL e0.hok C
 have l:s.heap.CodeRec (.ref c) S.qual:=e0.hok c _ G
 refine PySem.W.kla_callFunE i.depth (FnO.get e0.hok z) rfl Sc.co Sc.gen y l (h _ _ _ _ ?_)
 refine aAK (cm:=cm) Sc.kind (aD8 e0.hok Sc C g) (xW Sc) fun s1 x=>?_
 refine ⟨j.keeps x.ic.keep,PySem.W.kla_codeExpr ?_⟩
 obtain ⟨t,D,F⟩:=d (i.deeper _)
 have I:Inv (iQ (CXe P w) P w K mg base N fr S.qual S.scope f (.ref c) cl A outer s H E) [] (eS N (vs++cvs)) (hid (a8 fr cl) H) s1:=sZ Sc C i.hd e0 n r g x
 refine BX (D [] s1 _ _ _ (I.wish _) F) (fun u s' m=>?_) fun e s' m=>s9 Sc C e0 m
 obtain ⟨v,H',J,p,q⟩:=m
 obtain ⟨B,un,hok⟩:=rR Sc C e0 J.unwish
 exact ⟨v,_,J.os,J.bare,un,hok,p,q B⟩
end
def aCB{env:Env}:∀ (names:List (Str×NameKind)) (acc:List (Str×Az)),(∀ x∈names,x.2=.free->∃ c,env.cells.lookup x.1=some c)->
  (∀ x c,acc.lookup x=some c->env.cells.lookup x=some c)->
  ∃ cl,(forIn names acc fun x r=>(if (x.2 == NameKind.free)=true then (do let a <-cellOf env x.1;pure (ForInStep.yield ((x.1,a)::r))) else pure (ForInStep.yield r)):Sem (List (Str×Az)))=pure cl /\
   (∀ x c,cl.lookup x=some c->env.cells.lookup x=some c)/\(∀ x∈names,x.2=.free->∃ c,cl.lookup x.1=some c)/\(∀ x c,acc.lookup x=some c->∃ c',cl.lookup x=some c') /\
   (∀ x c,cl.lookup x=some c->(∃ c',acc.lookup x=some c')\/(x,NameKind.free)∈names):=by
 intro names
 induction names with
 | nil=>intro acc _ h;exact ⟨acc,rfl,h,fun x hx=>absurd hx (by simp),fun x c e=>⟨c,e⟩,fun x c e=>.inl ⟨c,e⟩⟩
 | cons x r ih=>
  intro acc i h
  obtain ⟨n,k⟩:=x
  by_cases hk:k=.free
  .subst hk
   obtain ⟨c,g⟩:=i (n,.free) AQ rfl
   have g:env.cells.lookup n=some c:=g
   obtain ⟨cl,e1,e2,e3,e4,e5⟩:=ih ((n,c)::acc) (fun y f=>i y (AI _ f)) (fun y d e=>by
    rw[BE] at e
    cases q:y == n with
    | true=>rw[q] at e;cases e;have:=FY q;subst this;exact g
    | false=>rw[q] at e;exact h y d e)
   refine ⟨cl,?_,e2,fun y f b=>?_,fun y d e=>?_,fun y d e=>?_⟩
   .rw[CN]
    simp only[EB,if_true]
    unfold cellOf
    simp only[g,pure_bind]
    exact e1
   .rcases AS.mp f with z|z
    .subst z
     exact e4 n c (by rw[BE];simp)
    .exact e3 y z b
   .by_cases q:y=n
    .subst q;exact e4 y c (by rw[BE];simp)
    .exact e4 y d (by rw[BE,DL q];exact e)
   .rcases e5 y d e with ⟨c',z⟩|z
    .by_cases q:y=n
     .subst q;exact .inr AQ
     .rw[BE,DL q] at z
      exact .inl ⟨c',z⟩
    .exact .inr (AI _ z)
  .obtain ⟨cl,e1,e2,e3,e4,e5⟩:=ih acc (fun y f=>i y (AI _ f)) h
   refine ⟨cl,?_,e2,fun y f b=>?_,e4,fun y d e=>(e5 y d e).imp id fun z=>AI _ z⟩
   .rw[CN]
    have:(k == NameKind.free)=false:=by simpa using hk
    simp only[this,CC,DG,pure_bind]
    exact e1
   .rcases AS.mp f with z|z
    .subst z;exact absurd b hk
    .exact e3 y z b
structure ClOf(cells:List (Str×Az))(sc:Scope)(cl:List (Str×Az)):Prop where
 of:∀ x c,cl.lookup x=some c->cells.lookup x=some c
 all:∀ x∈sc.names,x.2=.free->∃ c,cl.lookup x.1=some c
 only:∀ x c,cl.lookup x=some c->(x,NameKind.free)∈sc.names
def xX{env:Env}{scope:Scope}(a:∀ x∈scope.names,x.2=.free->∃ c,env.cells.lookup x.1=some c) :
  ∃ cl,closureFor scope env=pure cl/\ClOf env.cells scope cl:=by
 obtain ⟨cl,e1,e2,e3,_,e5⟩:=aCB scope.names [] a (fun x c e=>by simp at e)
 refine ⟨cl,?_,e2,e3,fun x c e=>?_⟩
 .unfold closureFor
  first
   | exact e1
   | (rw[<-e1];rfl)
   | (simp only[bind_pure];exact e1)
 .rcases e5 x c e with ⟨b,z⟩|z
  .simp at z
  .exact z
def aEA{pos:Pos}{r:List V9}(l:List V9)(h:TriplesOk l):codeAmong pos (l++r)=(codeAmong pos l).or (codeAmong pos r):=by
 fun_induction TriplesOk l with
 | case1=>simp[codeAmong]
 | case2 a t b u x rest ih=>
  simp only[DH,codeAmong]
  split
  · rfl
  · exact ih h
 | case3 l h1 h2=>exact h.elim
structure Tb(mg:Str->Option V9)(base:Heap)(c0 P0:Az):Prop where
 hd:PySem.W.CodeHd base c0 P0
 bt:∃ bm ob,mg "__builtins__"=some (.ref bm)/\bm≠builtinsNs/\base.get? bm=some ob/\ob.cls=.type "module"/\ob.dict=some builtinsNs/\ob.data=.plain
section
variable{X:Cx}{pins:List (Az×Obj)}{σ:St}{H:Hp}{s:S9}{c0 P0:Az}{qs:List (Pos×Str)}{pos:Pos}{q:Str}
def aEB{ps:Array V9}{c:Az}{h h':Heap}(t:HOk X.prog X.w H h)(g:H P0=some (.tbl qs))(x:h.get? P0=some (PySem.W.tabObj ps))(l:TriplesOk ps.toList)(f:∀ p∈qs,codeAmong p.1 ps.toList=none\/∃ c,codeAmong p.1 ps.toList=some (.ref c)/\H c=some (.cod p.2))
  (y:∀ p∈qs,p.1.line=pos.line->p.1.col=pos.col->p.2=q) (A:codeAmong pos ps.toList=none) (a:H c=none) (hx:Heap.ExtBut P0 h h') (i:h'.CodeRec (.ref c) q) (j:h'.get? P0=some (PySem.W.tabObj (ps ++ #[rawInt pos.line,rawInt pos.col,.ref c]))) :
  HOk X.prog X.w (upd H c (.cod q)) h':=fun b u e=>by
 have o:P0≠c:=fun z=>by rw[<-z,g] at a;cases a
 by_cases hb:b=c
 .subst hb;rw[aT] at e;cases e;exact i
 .rw[aG hb] at e
  by_cases hbP:b=P0
  .subst hbP
   rw[g] at e;cases e
   refine ⟨_,j,?_,fun p n=>?_⟩
   .rw[Array.toList_append];exact TriplesOk_snoc _ _ _ _ l
   .rw[Array.toList_append,aEA _ l]
    rcases f p n with z|⟨d,z,m⟩
    .rw[z]
     show (codeAmong p.1 [rawInt pos.line,rawInt pos.col,.ref c])=none\/_
     by_cases hq:p.1.line=pos.line/\p.1.col=pos.col
     .refine .inr ⟨c,?_,?_⟩
      .show codeAmong p.1 [rawInt pos.line,rawInt pos.col,.ref c]=_
       rw[<-hq.1,<-hq.2]
       exact codeAmong_snoc [] trivial rfl
      .rw[y p n hq.1 hq.2];exact aT
     .refine .inl ?_
      simp only[codeAmong,rawInt]
      rw[if_neg]
      simp only[AM,beq_iff_eq]
      intro k
      exact hq ⟨by omega,by omega⟩
    .refine .inr ⟨d,by rw[z];rfl,?_⟩
     rw[aG (bC m a)];exact m
  .refine (t b u e).stay (fun d v s r=>hx d v ?_ r) (fun d r=>by rw[aG (bC r a)];exact r) (fun d _ r=>by rw[aG (bC r a)];exact r) fun d _ r=>by rw[aG (bC r a)];exact r
   rcases s with z|z
   .rw[z];exact hbP
   .intro k;rw[k,g] at z;cases z
def Mkd(H:Hp)(q:Str)(c:Az)(H1:Hp):Prop:=(H c=some (.cod q)/\H1=H)\/(H c=none/\H1=upd H c (.cod q))
def aAM {S : ClSt} {M : Model} {A : Around} {E : V9 -> S9 -> Prop} {Q : V9 -> S9 -> Prop} {i : Nat} (I : Inv X pins σ H s) (d : X.env.code = .ref c0) (T : Tb X.mg X.base c0 P0) (O : H P0 = some (.tbl qs)) (hq : (pos, S.qual) ∈ qs)
    (hu : ∀ p ∈ qs, p.1.line = pos.line -> p.1.col = pos.col -> p.2 = S.qual) (v : ∀ x ∈ S.scope.names, x.2 = .free -> ∃ c, X.env.cells.lookup x.1 = some c)
    (h : ∀ f c cl doc pm ct H1 s', Mkd H S.qual c H1 -> H1 f = none -> ClOf X.env.cells S.scope cl -> Inv X pins σ (upd H1 f (FnO f (S.obj cl doc pm c ct))) s' -> Q (.ref f) s') :
    wpAny M A (makeFunction S.name S.qual S.params S.body S.scope X.env [] [] [] pos i) Q E s := by
  obtain ⟨cl, m, F⟩ := xX v
  obtain ⟨ps, g, K, q⟩ := (show b8 X.prog X.w H s.heap P0 (.tbl qs) from I.hok P0 _ O)
  have C : PySem.W.CodeHd s.heap c0 P0 := T.hd.keeps I.bk
  have B : s.heap.Ns mainGlobals X.mg := I.mod.glob.keeps I.bk
  have G : mainGlobals ≠ P0 := fun z => by
    obtain ⟨o, es, ep, e, hd, _⟩ := B
    rw [z, g] at e; cases e; cases hd
  obtain ⟨bm, ob, b1, b2, b3, Z, b5, U⟩ := T.bt
  have k := I.bk _ _ b3
  have R : bm ≠ P0 := fun z => by rw [z, g] at k; cases k; cases Z
  have V : bm ≠ mainGlobals := fun z => by
    obtain ⟨o, es, ep, e, hd, _⟩ := B
    rw [z, e] at k; cases k; rw [hd] at U; cases U
  have N : s.heap.BuiltinsAt X.mg P0 := ⟨bm, ob, b1, b2, V, R, k, Z, b5, U⟩
  rcases q _ hq with y | ⟨c, Y, hc⟩
  · have fin : ∀ (j : Az) (a doc : V9) (h' : Heap) (tk : Tok), Heap.ExtBut P0 s.heap h' -> s.heap.objs.size <= j -> j < h'.objs.size -> h'.CodeRec (.ref j) S.qual -> h'.get? P0 = some (PySem.W.tabObj (ps ++ #[rawInt pos.line, rawInt pos.col, .ref j])) ->
        Q (.ref h'.objs.size) { s with heap := h'.push (S.obj cl doc ((X.mg "__name__").getD .none) j a), toks := tk } := by
      intro j a doc h' tk hx t D J L
      have P : H j = none := I.hok.fresh t
      have r : HOk X.prog X.w (upd H j (.cod S.qual)) h' := aEB I.hok O g K q hu y P hx J L
      have l : (upd H j (.cod S.qual)) h'.objs.size = none := r.fresh (AJ _)
      refine h h'.objs.size j cl doc ((X.mg "__name__").getD .none) a _ _ (.inr ⟨P, rfl⟩) l F ?_
      have ne : ∀ b o, H b = some o -> b ≠ j /\ b ≠ h'.objs.size := fun b o e => ⟨bC e P, fun z => by
        rw [z] at e
        rw [aG (C3 D), e] at l; cases l⟩
      have nP : ∀ b, H b = none -> b ≠ P0 := fun b n z => by rw [z, O] at n; cases n
      refine I.un ⟨fun b o e n _ _ => AE _ (hx b o (nP b n) e), fun b o e n _ _ => ⟨o.slots, AE _ (hx b o (nP b n) e)⟩, fun b o e n _ => ?_, fun b o e _ => ?_, fun b xs e => ?_, fun b o u e => ?_, fun b qs e => ?_⟩ ?_
      · have hb := AK e
        rw [aG (A2 (AW hb (A6 t (BU D)))), aG (A2 (AW hb t))]; exact n
      · by_cases z : b = P0
        · subst z; exact ⟨_, AE _ L⟩
        · exact ⟨o, AE _ (hx b o z e)⟩
      · rw [aG (ne b _ e).2, aG (ne b _ e).1]; exact e
      · rw [aG (ne b _ e).2, aG (ne b _ e).1]; exact e
      · rw [aG (ne b _ e).2, aG (ne b _ e).1]; exact e
      · exact r.laid (fun b u e => AE _ e) (AJ _) (FnO.ok (AT _ rfl))
    obtain ⟨name, qual, params, body, scope⟩ := S
    cases body with
    | stmts body => exact PySem.W.makeFunction_K m I.ok.glob B d C g K y G N fin
    | expr body => exact PySem.W.kla_makeFunction m I.ok.glob B d C g K y G N fun j a h' tk => fin j a .none h' tk
  · have fin : ∀ (a doc : V9) (h' : Heap) (tk : Tok), (∀ b o, s.heap.get? b = some o -> h'.get? b = some o) -> s.heap.objs.size <= h'.objs.size ->
        Q (.ref h'.objs.size) { s with heap := h'.push (S.obj cl doc ((X.mg "__name__").getD .none) c a), toks := tk } := by
      intro a doc h' tk hk hsz
      refine h h'.objs.size c cl doc ((X.mg "__name__").getD .none) a H _ (.inl ⟨hc, rfl⟩) (I.hok.fresh hsz) F ?_
      exact I.laid (fun b u e => AE _ (hk b u e)) hsz (FnO.ok (AT _ rfl))
    obtain ⟨name, qual, params, body, scope⟩ := S
    cases body with
    | stmts body => exact PySem.W.makeFunction_hit m I.ok.glob B d C g K Y N fin
    | expr body => exact PySem.W.kla_makeFunctionHit m I.ok.glob B d C g K Y N fun a h' tk => fin a .none h' tk
def tMk(cells:List (Str×Az))(S:ClSt)(P0:Az)(qs:List (Pos×Str)):TE:=fun σ H Q=>H P0=some (.tbl qs)/\∀ f c cl doc pm ct H1,Mkd H S.qual c H1->H1 f=none->ClOf cells S.scope cl->Q (.ref f) (upd H1 f (FnO f (S.obj cl doc pm c ct)))
def aEC{i:Nat}{x:Str}{params:Arguments}{body:List Stmt}{scope:Scope}(a:X.env.code=.ref c0)(T:Tb X.mg X.base c0 P0)(d:qualnameIn X.env x x=q)(t:(pos,q)∈qs)
  (B:∀ p∈qs,p.1.line=pos.line->p.1.col=pos.col->p.2=q) (b:∀ y∈scope.names,y.2=.free->X.env.kindOf y.1=some .cell\/X.env.kindOf y.1=some .free)
  (k:params.defaults=[]) (j:params.kw_defaults=[]) (u:annTrees params none X.env=[])
  (hN:X.N.Nodup) (hi:X.N[i]? = some x) (hx:Loc X.env.scope x) (o:X.fn x=true\/X.env.scope.names.lookup x=some .local:=by exact .inl rfl) :
  PS X (.FunctionDef x params body [] none [] scope none x pos) (iR (tMk X.env.cells ⟨x,q,params,.stmts body,scope⟩ P0 qs) (h8 i)):=by
 intro pins s σ H D I h
 obtain ⟨m,h⟩:=h
 refine PySem.W.nestDef_K k j u ?_
 rw[d]
 refine aAM (S:=⟨x,q,params,.stmts body,scope⟩) I a T m t B (fun y z g=>I.ok.has _ (b y z g)) fun f c cl doc pm ct H1 s' w r A l=>?_
 exact rM l hN hi hx (v:=.ref f) rfl (fun n e=>⟨_,_,e,h f c cl doc pm ct H1 w r A⟩) o
def aM1{params:Arguments}{body:Expr}{scope:Scope}(a:X.env.code=.ref c0)(T:Tb X.mg X.base c0 P0)(e:X.env.qual++("<lambda>":Str)=q)(l:(pos,q)∈qs)
  (r:∀ p∈qs,p.1.line=pos.line->p.1.col=pos.col->p.2=q) (b:∀ y∈scope.names,y.2=.free->X.env.kindOf y.1=some .cell\/X.env.kindOf y.1=some .free)
  (d:defaultsOf params X.env=([],[])) :
  PE X (.Lambda params body scope pos) (tMk X.env.cells ⟨"<lambda>",q,params,.expr body,scope⟩ P0 qs):=by
 intro pins s σ H Q I h
 obtain ⟨j,h⟩:=h
 refine PySem.W.kla_eval d ?_
 rw[e]
 exact aAM (S:=⟨"<lambda>",q,params,.expr body,scope⟩) I a T j l r (fun y n g=>I.ok.has _ (b y n g)) fun f c cl doc pm ct H1 s' m k o i=>⟨.ref f,_,i,rfl,h f c cl doc pm ct H1 m k o⟩
end
abbrev Cv:=List (Az×Obj×V)
def pub(cv:Cv)(H:Hp):Hp:=fun b=>match cv.lookup b with
 | some p=>some (dX b p.1 p.2)
 | none=>H b
def cW(cv:Cv):List Az:=cv.map (·.1)
def gU{c:Cv}{b:Az}:b∈cW c↔∃ p,c.lookup b=some p:=by
 unfold cW
 induction c with
 | nil=>simp
 | cons a r ih=>
  obtain ⟨x,p⟩:=a
  rw[AX,AS,ih,BE]
  by_cases h:b=x
  .subst h;simp
  .rw[DL h]
   simp[h]
def o9{a:Cv}{H:Hp}{b:Az}{p:Obj×V}(h:a.lookup b=some p):pub a H b=some (dX b p.1 p.2):=by unfold pub;rw[h]
def dY{a:Cv}{H:Hp}{b:Az}(h:b∉cW a):pub a H b=H b:=by
 unfold pub
 cases e:a.lookup b with
 | none=>rfl
 | some p=>exact absurd (gU.mpr ⟨p,e⟩) h
def j8{a:Cv}{H:Hp}(c:∀ b∈cW a,H b=none):aH H (pub a H):=fun b o e=>by
 rw[dY fun z=>by rw[c b z] at e;cases e];exact e
def aIS{P:Program}{w:World}{fs:List Az}{d:Cv}{H H1:Hp}{h h':Heap}(k:∀ b∈cW d,H b=none)(l:HOk P w (pub d H) h)(un:Un fs [] (pub d H) H1 h h')(hk1:HOk P w H1 h') :
  Un fs [] H (hid (cW d) H1) h h'/\HOk P w (hid (cW d) H1) h':=by
 have f:∀ b,b∈cW d->∃ o v,h.get? b=some o/\h'.get? b=some o/\H1 b=some (dX b o v):=fun b a=>by
  obtain ⟨⟨o,v⟩,e⟩:=gU.mp a
  have z:=o9 (H:=H) e
  have g:=un.frzs b o _ z
  exact ⟨o,v,(dX.get l z).1,(dX.get hk1 g).1,g⟩
 have out:∀ b u,H b=some u->b∉cW d:=fun b u e z=>by rw[k b z] at e;cases e
 refine ⟨⟨fun b o e n h1 h2=>?_,fun b o e n h1 h2=>?_,fun b o e n h2=>?_,un.there,fun b xs q=>?_,fun b o u q=>?_,fun b ps q=>?_⟩,fun b u e=>?_⟩
 .by_cases a:b∈cW d
  .obtain ⟨o',v,i,j,_⟩:=f b a
   rw[e] at i;cases i;exact j
  .exact un.keep b o e (by rw[dY a];exact n) h1 h2
 .by_cases a:b∈cW d
  .obtain ⟨o',v,i,j,_⟩:=f b a
   rw[e] at i;cases i;exact ⟨o.slots,j⟩
  .exact un.slot b o e (by rw[dY a];exact n) h1 h2
 .by_cases a:b∈cW d
  .exact nA a
  .rw[bQ a];exact un.free b o e (by rw[dY a];exact n) h2
 .have a:=out b _ q
  rw[bQ a];exact un.tups b xs (by rw[dY a];exact q)
 .have a:=out b _ q
  rw[bQ a];exact un.frzs b o u (by rw[dY a];exact q)
 .have a:=out b _ q
  rw[bQ a];exact un.tbls b ps (by rw[dY a];exact q)
 .obtain ⟨e1,a⟩:=nZ e
  have ne:∀ c o,H1 c=some o->(∀ o' v,o≠dX c o' v)->c∉cW d:=fun c o q n z=>by
   obtain ⟨o',v,_,_,g⟩:=f c z
   rw[q] at g;cases g;exact n o' v rfl
  exact (hk1 b u e1).stay (fun _ _ _ q=>q) (fun c q=>by rw[bQ (ne c _ q fun _ _ z=>nomatch z)];exact q) (fun c _ q=>by rw[bQ (ne c _ q fun _ _ z=>nomatch z)];exact q) fun c _ q=>by rw[bQ (ne c _ q fun _ _ z=>nomatch z)];exact q
structure PubRel(X:Cx)(σ:St)(H:Hp)(js:List Nat)(cv:Cv):Prop where
 at':∀ b o v,cv.lookup b=some (o,v)->∃ x j,j∈js/\X.N[j]? = some x/\X.env.cells.lookup x=some b/\σ[j]? = some (some v)
 all:∀ j∈js,∃ x c o v,X.N[j]? = some x/\X.env.cells.lookup x=some c/\σ[j]? = some (some v)/\cv.lookup c=some (o,v)
 free:∀ b∈cW cv,H b=none
 inj:∀ x y c,X.env.cells.lookup x=some c->X.env.cells.lookup y=some c->x=y
section
variable{X:Cx}{pins:List (Az×Obj)}{σ:St}{H:Hp}{s:S9}
def xY(X:Cx)(σ:St)(j:Nat):Prop:=∃ x v,X.N[j]? = some x/\X.env.kindOf x=some .cell/\X.fn x=true/\σ[j]? = some (some v)
theorem aED(I:Inv X pins σ H s):∀ (js:List Nat),(∀ j∈js,xY X σ j)->∃ cv,PubRel X σ H js cv/\∀ b o v,cv.lookup b=some (o,v)->(∃ u,s.heap.get? b=some o/\o.data=.cell (some u)/\aY v u)/\X.s₀.heap.objs.size<=b/\∃ x,X.env.cells.lookup x=some b
 | [],_=>⟨[],⟨fun b o v e=>by simp at e,fun j hj=>by simp at hj,fun b hb=>by simp[cW] at hb,I.ok.inj⟩,fun b o v e=>by simp at e⟩
 | j::js,hj=>by
  obtain ⟨cv,R,ok⟩:=aED I js fun A h'=>hj A (AI _ h')
  obtain ⟨x,v,hN,f,L,i⟩:=hj j AQ
  obtain ⟨m,T,E⟩:=I.loc
  obtain ⟨u,r,l⟩:=E j x v hN i (.inr (.inl f))
  rcases l with ⟨g,_⟩|⟨_,c,d,o,D,F⟩
  .rw[f] at g;cases g
  .have h:=I.ok.cab x c L d
   by_cases hin:c∈cW cv
   .obtain ⟨⟨o',a⟩,e⟩:=gU.mp hin
    obtain ⟨n,A,N,t,w,C⟩:=R.at' c o' a e
    have p:x=n:=I.ok.inj x n c d w
    subst p
    refine ⟨cv,⟨fun b o v e=>?_,fun k f=>?_,R.free,R.inj⟩,ok⟩
    .obtain ⟨x,j,h1,h2⟩:=R.at' b o v e
     exact ⟨x,j,AI _ h1,h2⟩
    .rcases AS.mp f with z|z
     .subst z
      obtain ⟨S,r2,Q⟩:=E A x a t C (.inr (.inl (by assumption)))
      obtain ⟨⟨M,J,K,P⟩,_⟩:=ok c o' a e
      rw[D] at J;cases J
      rw[F] at K
      have:u=M:=by cases K;rfl
      subst this
      have B:v=a:=aY.inj r P
      subst B
      exact ⟨x,c,_,v,hN,d,i,e⟩
     .exact R.all k z
   .refine ⟨(c,o,v)::cv,⟨fun b o' a e=>?_,fun k f=>?_,fun b hb=>?_,R.inj⟩,fun b o' a e=>?_⟩
    .rw[BE] at e
     by_cases hb:b=c
     .subst hb
      simp only[EB] at e
      cases e
      exact ⟨x,j,AQ,hN,d,i⟩
     .rw[DL hb] at e
      obtain ⟨x,j,h1,h2⟩:=R.at' b o' a e
      exact ⟨x,j,AI _ h1,h2⟩
    .rcases AS.mp f with z|z
     .subst z
      exact ⟨x,c,o,v,hN,d,i,by rw[BE];simp⟩
     .obtain ⟨n,G,o',a,h1,h2,O,q⟩:=R.all k z
      refine ⟨n,G,o',a,h1,h2,O,?_⟩
      rw[BE,DL (show G≠c from fun z=>by rw[z] at q;exact hin (gU.mpr ⟨_,q⟩))];exact q
    .have y:b=c\/b∈cW cv:=by simpa[cW] using hb
     rcases y with z|z
     .subst z;exact I.freeC x b d
     .exact R.free b z
    .rw[BE] at e
     by_cases hb:b=c
     .subst hb
      simp only[EB] at e
      cases e
      exact ⟨⟨u,D,F,r⟩,h,x,d⟩
     .rw[DL hb] at e
      exact ok b o' a e
def aJX(I:Inv X pins σ H s){js:List Nat}{d:Cv}(R:PubRel X σ H js d)(ok:∀ b o v,d.lookup b=some (o,v)->(∃ u,s.heap.get? b=some o/\o.data=.cell (some u)/\aY v u)/\X.s₀.heap.objs.size<=b/\∃ x,X.env.cells.lookup x=some b) :
  Env0 X.prog X.w X.K X.mg X.base X.A X.stack s (pub d H) where
 frames:=I.ok.frames
 mod:=I.ok.mod
 bs:=fun b o e=>⟨(I.bs b o e).1,by
  rw[dY]
  .exact (I.bs b o e).2
  .intro z
   obtain ⟨⟨o',v⟩,q⟩:=gU.mp z
   have h1:=(ok b o' v q).2.1
   have h2:=AK e
   exact absurd (AW h2 (A6 I.ok.bsz h1)) (BG _)⟩
 bsz:=A6 I.ok.bsz I.sz
 funs:=I.stack
 frf:=fun b a=>by
  rw[dY]
  .exact I.stkFree b a
  .intro z
   obtain ⟨⟨o',v⟩,q⟩:=gU.mp z
   obtain ⟨_,h1,x,hx⟩:=ok b o' v q
   rcases AS.mp (I.stkSub b a) with z2|z2
   .exact I.cne x b hx z2
   .obtain ⟨_,o,g,_⟩:=I.ok.funs.mem z2
    exact absurd (AW (AK g) h1) (BG _)
 hok:=fun b u e=>by
  by_cases a:b∈cW d
  .obtain ⟨⟨o,v⟩,q⟩:=gU.mp a
   rw[o9 q] at e;cases e
   obtain ⟨⟨u,h1,h2,f⟩,_⟩:=ok b o v q
   exact dX.ok f h1 h2
  .rw[dY a] at e
   exact (I.hok b u e).stay (fun _ _ _ q=>q) (fun c q=>j8 R.free _ _ q) (fun c _ q=>j8 R.free _ _ q) fun c _ q=>j8 R.free _ _ q
 bare:=I.bare
def aEE(X:Cx)(js:List Nat)(sp:Sp)(E:XK)(t:TA):TE:=fun σ H Q=>t σ H fun vs H1=>(∀ j∈js,xY X σ j)/\∀ cv,PubRel X σ H1 js cv->sp vs (pub cv H1) (fun v H2=>Q v (hid (cW cv) H2)) (fun c e H2=>E c e (hid (cW cv) H2)/\∀ a,e=some a->a∉cW cv)
def aEF{k:Nat}{x:Str}{ps:List Str}{sp:Sp}{E:XK}{p pos:Pos}{e:Expr}{es:List Expr}{t:TA}{js:List Nat}(C:Calls X.prog X.w X.K X.mg X.base (CXe X.prog X.w) k x ps sp)(S:Room k X.A)(N:Gl X x)(hx:lQ (CXe X.prog X.w) X E)(W:PA X (e::es) t)(o:(x == ("__debug__":Str))=false:=by decide)
  (he:starEach (e::es) X.env=(false,eval e X.env)::starEach es X.env:=by rfl) (hpl:(backTo pos (starEach es X.env)).any (·.1)=false:=by rfl):PE X (.Call (.Name x p) (e::es) [] pos) (aEE X js sp E t):=by
 obtain ⟨f,fd,F,b,m,L⟩:=C
 intro pins s σ H Q I h
 refine CV (lD I N m ?_ o)
 refine EH (h₀:=X.base) I.ok.mod.kin L (thn (W pos pins s σ H _ I h) fun us s1 ⟨vs,H1,d,r,n,q⟩=>⟨d.kIn,?_⟩) he hpl
 obtain ⟨y,R,ok⟩:=aED d js n
 have g:=q y R
 have e0:=aJX d R ok
 have J:us.length=ps.length:=by rw[<-r.length];exact F.len _ _ _ _ g
 have z:=b s1 us d.kIn (by simpa using J)
 rw[DC] at z
 refine HA (FB (F.run X.A X.stack s1 _ ⟨us,[]⟩ us vs _ _ S e0 z r g) fun D s' i=>?_)
 cases D with
 | error ev=>
  obtain ⟨e,C,od,H',rfl,os,bare,un,hok,l,⟨j,T,P,U,B⟩,G,O⟩:=i
  obtain ⟨c,a⟩:=aIS R.free e0.hok un hok
  refine hx pins σ H1 s1 (.ref e) s' d ⟨e,C,od,hid (cW y) H',rfl,os,bare,c,a,?_,⟨j,T,P,U,fun t e1=>?_⟩,G⟩
  .rw[bQ (O e rfl)];exact l
  .exact ⟨iC (B t e1).1,(B t e1).2⟩
 | ok fl=>
  cases fl with
  | ret u=>
   obtain ⟨v,H',os,bare,un,hok,M,V⟩:=i
   obtain ⟨c,a⟩:=aIS R.free e0.hok un hok
   exact d.after ⟨v,hid (cW y) H',os,bare,c,a,M,V⟩
  | next=>exact False.elim i
  | brk=>exact False.elim i
  | cont=>exact False.elim i
end
def xZ(Ps:List Az)(qs:List (Pos×Str)):Hp:=fun b=>if b∈Ps then some (.tbl qs) else none
def x4(mg:Str->Option V9)(h base:Heap)(T:Hp)(qs:List (Pos×Str))(xs:List Str):Prop:=
 ∀ x∈xs,∃ c0 P0,T P0=some (.tbl qs)/\Tb mg base c0 P0/\∀ f o fd,mg x=some (.ref f)->h.get? f=some o->o.data=.func fd->fd.code=.ref c0
def aEG{P:Program}{w:World}{K:Frag}{mg mb:Str->Option V9}{CX:CXT}{k:Nat}{fa a:Az}{fd:FuncData}{x:Str}{c:S9}{vs:List V9}{ns:List Int}{qs:List (Pos×Str)}{xs:List Str}{tb:Str->Az×Az}
  (U:∀ x∈xs,PySem.W.CodeHd c.heap (tb x).1 (tb x).2/\c.heap.get? (tb x).2=some (PySem.W.tabObj #[])) (aa:∀ x∈xs,∀ f o fd,mg x=some (.ref f)->c.heap.get? f=some o->o.data=.func fd->fd.code=.ref (tb x).1)
  (ae:∃ bm ob,mg "__builtins__"=some (.ref bm)/\bm≠builtinsNs/\c.heap.get? bm=some ob/\ob.cls=.type "module"/\ob.dict=some builtinsNs/\ob.data=.plain) (hNT:PySem.W.noTabs K=true)
  (KX:K.In c.heap) (O:c.heap.Ns mainGlobals mg) (g:c.heap.Ns builtinsNs mb) (ah:∀ x:Str,x≠"__name__"->mb x=bootBuiltins x) (N:c.heap.NoLimit) (hg:c.gens = #[])
  (S:c.heap.get? a=some {cls:=.type "list",data:=.seq vs.toArray}) (hi:IntsAre vs ns) (hl:ns.length<=sizeLine) (hr:Room k callerA)
  (F:∀ (base:Heap) (T:Hp),K.In base->base.Ns mainGlobals mg->x4 mg c.heap base T qs xs->∃ sp,FnOk P w K mg base CX k fa fd [x] sp/\∀ H:Hp,aH T H->SqL K H a (ns.map V.int)->sp [.ref a] H (fun v _=>v=.bl true) fun _ _ _=>False) (hbind:∀ (s:S9) (u:V9),BindsTo s fd ⟨[u],[]⟩ [(x,u)])
  (hCX:∀ H e s',CX [] H c (fun _ _ _=>False) e s'->False) :
  codeAny (model P w) callerA (.call (.ref fa) ⟨[.ref a],[]⟩) (fun r s'=>r=.ok (.ret (.bool true))/\OldK c.heap s'.heap/\s'.os=c.os/\AllBare s'.gens) c:=by
 have rv:=v0 hi
 have L:=hi.length
 let Ps:List Az:=xs.map fun x=>(tb x).2
 have l:∀ b∈Ps,c.heap.get? b=some (PySem.W.tabObj #[])/\isCodeTable c.heap b:=fun b g=>by
  obtain ⟨y,I,rfl⟩:=A3.mp g
  exact ⟨(U y I).2,((U y I).1.tab (U y I).2).isCodeTable⟩
 have E:a∉Ps:=fun z=>by have:=(l a z).1;rw[S] at this;cases this
 have Y:∀ b∈Ps,K.lookup b=none:=fun b g=>by
  cases e:K.lookup b with
  | none=>rfl
  | some o=>
   have e2:=KX b o e
   rw[(l b g).1] at e2
   cases e2
   have h2:=A1.mp hNT (b,_) (PySem.W.mem_of_lookupK e)
   exact absurd (show false=true from h2) A0
 have D:∀ H:Hp,(∀ b∈Ps,H b=some (.tbl qs))->(∀ b,H b≠none->b=a\/b∈Ps)->(H a=none\/∃ o xs,H a=some (.frz o (.lst xs)))->SqL K H a (ns.map V.int)->HOk P w H c.heap->(H a≠none->K.lookup a=none)->
   codeAny (model P w) callerA (.call (.ref fa) ⟨[.ref a],[]⟩) (fun r s'=>r=.ok (.ret (.bool true))/\OldK c.heap s'.heap/\s'.os=c.os/\AllBare s'.gens) c:=by
  intro H X hA hO hS hok hK
  have i:∀ {b:Az} {o:Obj},c.heap.get? b=some o->H b=none->(mS c.heap H).get? b=some o:=fun e n=>aF4 e n
  have j:∀ {b:Az} {o:Obj},c.heap.get? b=some o->(∀ vs,o.data≠.seq vs)->o≠PySem.W.tabObj #[]->H b=none:=fun {b o} e d d2=>by
   cases q:H b with
   | none=>rfl
   | some u=>
    rcases hA b (by rw[q];simp) with e'|e'
    .subst e'
     rw[S] at e;cases e
     exact absurd rfl (d _)
    .rw[(l b e').1] at e;cases e;exact absurd rfl d2
  have ac:∀ {b:Az} {o:Obj} {es:Array DictEntry} {ep:Nat},c.heap.get? b=some o->o.data=.dict es ep->H b=none:=fun {b o es ep} e d=>j e (fun vs z=>by rw[d] at z;cases z) fun z=>by rw[z] at d;cases d
  have B:∀ {b:Az} {m:Str->Option V9},c.heap.Ns b m->(mS c.heap H).Ns b m:=fun {b m} ⟨o,es,ep,e,d,r⟩=>⟨o,es,ep,i e (ac e d),d,r⟩
  have Q:K.In (mS c.heap H):=fun b o e=>i (KX b o e) (by
   cases q:H b with
   | none=>rfl
   | some u=>
    rcases hA b (by rw[q];simp) with e'|e'
    .subst e'
     rw[hK (by rw[q];simp)] at e;cases e
    .rw[Y b e'] at e;cases e)
  have hM:Mod K mg (mS c.heap H):=⟨Q,B O,⟨mb,B g,ah⟩,let ⟨mc,h1,h2⟩:=N;⟨mc,B h1,h2⟩⟩
  have e0:Env0 P w K mg (mS c.heap H) callerA [] c H:=⟨rfl,hM,fun b o e=>aJD e,Nat.le_of_eq (aDE _ _),trivial,fun b g=>absurd (show b∈([]:List Az) from g) (by simp),hok,.of_eq hg⟩
  have ag:x4 mg c.heap (mS c.heap H) (xZ Ps qs) qs xs:=fun y I=>by
   refine ⟨(tb y).1,(tb y).2,if_pos (A3.mpr ⟨y,I,rfl⟩),⟨?_,?_⟩,aa y I⟩
   .obtain ⟨o,vs,M,tf,G,tg,ad,R,tt,e1,r1,r2,r3⟩:=(U y I).1
    exact ⟨o,vs,M,tf,G,tg,ad,R,tt,i e1 (j e1 (fun vs z=>by rw[r2] at z;cases z) fun z=>by rw[z] at r1;cases r1),r1,r2,r3⟩
   .obtain ⟨bm,ob,b1,b2,b3,Z,b5,b6⟩:=ae
    exact ⟨bm,ob,b1,b2,i b3 (j b3 (fun vs z=>by rw[b6] at z;cases z) fun z=>by rw[z] at Z;cases Z),Z,b5,b6⟩
  have ai:aH (xZ Ps qs) H:=fun b o e=>by
   unfold xZ at e
   split at e
   .rename_i g;cases e;exact X b g
   .cases e
  obtain ⟨sp,FO,af⟩:=F _ _ Q (B O) ag
  refine FB (FO.run callerA [] c H ⟨[.ref a],[]⟩ [.ref a] [.ref a] _ _ hr e0 (hbind c (.ref a)) (.cons rfl .nil) (af H ai hS)) fun r s' h=>?_
  cases r with
  | error e=>exact (hCX H e s' h).elim
  | ok fl=>
   cases fl with
   | next=>exact False.elim h
   | brk=>exact False.elim h
   | cont=>exact False.elim h
   | ret u=>
    obtain ⟨v,H',os,bare,un,A,r',q⟩:=h
    have q':v=.bl true:=q
    subst q'
    obtain rfl:u=Value.bool true:=r'
    have kept:∀ b o,c.heap.get? b=some o->b∉Ps->s'.heap.get? b=some o:=fun b o e g=>by
     cases q:H b with
     | none=>exact un.keep b o e q (by intro z;exact absurd (show b∈([]:List Az) from z) (by simp)) (by simp)
     | some u=>
      rcases hA b (by rw[q];simp) with z|z
      .subst z
       rcases hO with z|⟨ob,xs,z⟩
       .rw[q] at z;cases z
       .have J:=un.frzs b ob _ z
        obtain ⟨e1,_⟩:=hok b _ z
        obtain ⟨e2,_⟩:=A b _ J
        rw[e] at e1;cases e1
        exact e2
      .exact absurd z g
    refine ⟨rfl,⟨fun b o e=>?_,fun b o e=>?_⟩,os,bare⟩
    .by_cases g:b∈Ps
     .obtain ⟨ps,e2,_⟩:=(show b8 P w H' s'.heap b (.tbl qs) from A b _ (un.tbls b _ (X b g)))
      have e1:=(l b g).1
      rw[e] at e1;cases e1
      exact .inr (.inl ⟨(l b g).2,rfl,#[],ps,rfl,by rw[Array.empty_append];exact e2⟩)
     .exact .inl (kept b o e g)
    .by_cases g:b∈Ps
     .obtain ⟨ps,e2,_⟩:=(show b8 P w H' s'.heap b (.tbl qs) from A b _ (un.tbls b _ (X b g)))
      exact ⟨_,e2⟩
     .exact ⟨o,kept b o e g⟩
 have t:∀ (H:Hp) b,b∈Ps->b8 P w H c.heap b (.tbl qs):=fun H b g=>⟨#[],(l b g).1,trivial,fun p _=>.inl rfl⟩
 cases hk:K.lookup a with
 | some o=>
  have e:=KX a o hk
  rw[S] at e
  cases e
  refine D (xZ Ps qs) (fun b g=>if_pos g) (fun b z=>?_) (.inl (if_neg E)) (.inr ⟨_,vs.toArray,_,hk,rfl,rfl,rfl,by rw[AY,L];exact hl,by simpa using rv⟩) (fun b u z=>?_) fun z=>absurd (if_neg E) z
  .by_cases g:b∈Ps
   .exact .inr g
   .exact absurd (if_neg g) z
  .by_cases g:b∈Ps
   .have C:=(if_pos g).symm.trans z
    cases C
    exact t _ b g
   .have C:=(if_neg g).symm.trans z
    cases C
 | none=>
  refine D (fun b=>if b=a then some (.frz {cls:=.type "list",data:=.seq vs.toArray} (.lst (ns.map V.int))) else xZ Ps qs b) (fun b g=>?_) (fun b z=>?_) (.inr ⟨_,_,if_pos rfl⟩) (.inl (.inr ⟨{cls:=.type "list",data:=.seq vs.toArray},if_pos rfl⟩)) (fun b u z=>?_) fun _=>hk
  .rw[if_neg (show ¬ b=a from fun z=>E (by rw[<-z];exact g))];exact if_pos g
  .by_cases g:b=a
   .exact .inl g
   .rw[if_neg g] at z
    by_cases hb2:b∈Ps
    .exact .inr hb2
    .exact absurd (if_neg hb2) z
  .by_cases g:b=a
   .have C:=(if_pos g).symm.trans z
    cases C
    subst g
    exact ⟨S,by rw[AC];exact hl,vs,_,rv,S⟩
   .have C:=(if_neg g).symm.trans z
    by_cases hb2:b∈Ps
    .have J:=(if_pos hb2).symm.trans C
     cases J
     exact t _ b hb2
    .have J:=(if_neg hb2).symm.trans C
     cases J
def aJY{p:Program}{b:List Str}{e:ExcName->Option V9}{mg q:Str->Option V9}{h:Heap}(T:Top p b e mg q h)(xs:List Str)(hx:∀ x∈xs,∃ d∈recsOf p,d.name=x) :
  ∃ tb:Str->Az×Az,(∀ x∈xs,PySem.W.CodeHd h (tb x).1 (tb x).2/\h.get? (tb x).2=some (PySem.W.tabObj #[]))/\∀ x∈xs,∀ f o fd,mg x=some (.ref f)->h.get? f=some o->o.data=.func fd->fd.code=.ref (tb x).1:=by
 have key:∀ x,∃ t:Az×Az,x∈xs->(PySem.W.CodeHd h t.1 t.2/\h.get? t.2=some (PySem.W.tabObj #[]))/\∀ f o fd,mg x=some (.ref f)->h.get? f=some o->o.data=.func fd->fd.code=.ref t.1:=fun x=>by
  by_cases hm:x∈xs
  .obtain ⟨d,j,rfl⟩:=hx x hm
   obtain ⟨a,o,fd,c,k,h1,h2,n,i,l,g⟩:=T.tab d j
   refine ⟨(c,k),fun _=>⟨⟨PySem.W.CodeHd.of l g,g.2⟩,fun f o' m e1 e2 e3=>?_⟩⟩
   rw[h1] at e1;cases e1
   rw[h2] at e2;cases e2
   rw[n] at e3;cases e3
   exact i
  .exact ⟨(0,0),fun z=>absurd z hm⟩
 exact ⟨fun x=>(key x).choose,fun x hx=>((key x).choose_spec hx).1,fun x hx=>((key x).choose_spec hx).2⟩
def walk_ofT{l:PySem.W.OpenLaw}{n k:Nat}{q:Program}{j:List Str}{N:(Str->Option V9)->Heap->Prop}{C:World->Heap->Prop}{d:DefRec}{K:Params->Frag}{CX:World->CXT}{x:Str}{qs:List (Pos×Str)}{xs:List Str}
  (B:∀ x∈xs,∃ d∈recsOf q,d.name=x) (hNT:∀ w:World,PySem.W.noTabs (K w.params)=true)
  (S:l.most=some n) (r:n<=sizeLine) (A:d.params.defaults=[]) (Z:Room k callerA)
  (M:∀ (w:World) (h:Heap),C w h->(K w.params).In h)
  (F:∀ (w:World) (mg:Str->Option V9) (fa:Az) (h:Heap),(K w.params).In h->h.Ns mainGlobals mg->mg d.name=some (.ref fa)->
   ∃ fd:FuncData,(∀ (s:S9) (u:V9),BindsTo s fd ⟨[u],[]⟩ [(x,u)]) /\
    ∀ (base:Heap) (T:Hp),(K w.params).In base->base.Ns mainGlobals mg->x4 mg h base T qs xs->∃ sp,FnOk l.prog w (K w.params) mg base (CX w) k fa fd [x] sp /\
     ∀ (H:Hp) (a:Az) (ns:List Int),ns.length<=n->aH T H->SqL (K w.params) H a (ns.map V.int)->sp [.ref a] H (fun v _=>v=.bl true) fun _ _ _=>False)
  (z:∀ (w:World) (H:Hp) (s:S9) (e:V9) (s':S9),CX w [] H s (fun _ _ _=>False) e s'->False) :
  PySem.W.WalkO q j N C l.row.toRowW d [] (fun f vs=>PySem.call f vs):=by
 refine Att.attach_call S A fun w s₀ m mg mb fa o pm cd doc a vs ns G Y ho hd P t p i c R=>?_
 have D:=M w _ Y
 obtain ⟨fd,L,E⟩:=F w mg fa _ D G.T.g t
 obtain ⟨tb,O,y⟩:=aJY G.T xs B
 refine aEG (qs:=qs) O y G.T.bmain (hNT w) D G.T.g G.T.b G.T.builtins G.T.nolimit R p i (A6 c r) Z (fun base T J Q X=>?_) L fun H e s'=>z w H m e s'
 obtain ⟨sp,U,I⟩:=E base T J Q X
 exact ⟨sp,U,fun H h1 h2=>I H a ns c h1 h2⟩
end L2
namespace Fl
open PySem L2 PyProof.Rows
mutual
def gH:D9->Bool
 | .none=>true
 | .int _=>true
 | .str x=>PyData.strOk x
 | .tuple xs=>fG xs
 | _=>false
def fG:List D9->Bool
 | []=>true
 | x::t=>gH x && fG t
end
mutual
def iA(w:World):D9->Int
 | .none=>reduceHash 0xFCA86420
 | .int i=>hashInt i
 | .str x=>hashStr w x
 | .tuple xs=>reduceHash (Builtin.Tuple.tupleHashOf (lF w xs))
 | _=>0
def lF(w:World):List D9->List Int
 | []=>[]
 | x::t=>iA w x::lF w t
end
mutual
def f8:D9->Nat
 | .tuple xs=>lS xs+1
 | _=>1
def lS:List D9->Nat
 | []=>0
 | x::t=>f8 x+lS t
end
mutual
theorem qH:∀ {d:D9},gH d=true->d.canLay0=true
 | .none,_=>rfl
 | .int _,_=>rfl
 | .str x,h=>h
 | .tuple xs,h=>by
  have h':fG xs=true:=h
  exact x5 h'
theorem x5:∀ {xs:List D9},fG xs=true->PyData.canLayAll0 xs=true
 | [],_=>rfl
 | x::t,h=>by
  have h':(gH x && fG t)=true:=h
  rw[AM] at h'
  show (x.canLay0 && PyData.canLayAll0 t)=true
  rw[qH h'.1,x5 h'.2];rfl
end
mutual
theorem uK:∀ {d e:D9},gH d=true->gH e=true->(PyData.eqv d e=true↔d=e)
 | .none,e,_,he=>by cases e<;>simp[PyData.eqv]<;>cases he
 | .int i,e,_,he=>by cases e<;>simp[PyData.eqv]<;>cases he
 | .str x,e,_,he=>by cases e<;>simp[PyData.eqv]<;>cases he
 | .tuple xs,e,hd,he=>by
  have hd':fG xs=true:=hd
  cases e with
  | tuple ys=>
   have a:fG ys=true:=he
   have:=x6 hd' a
   show PyData.eqvAll xs ys=true↔_
   rw[this]
   exact ⟨fun z=>by rw[z],fun z=>by cases z;rfl⟩
  | _=>simp[PyData.eqv]<;>cases he
theorem x6:∀ {xs ys:List D9},fG xs=true->fG ys=true->(PyData.eqvAll xs ys=true↔xs=ys)
 | [],ys,_,_=>by cases ys<;>simp[PyData.eqvAll]
 | x::t,ys,hx,hy=>by
  have hx':(gH x && fG t)=true:=hx
  rw[AM] at hx'
  cases ys with
  | nil=>simp[PyData.eqvAll]
  | cons y u=>
   have c:(gH y && fG u)=true:=hy
   rw[AM] at c
   rw[PyData.eqvAll,AM,uK hx'.1 c.1,x6 hx'.2 c.2]
   exact ⟨fun ⟨a,b⟩=>by rw[a,b],fun z=>by cases z;exact ⟨rfl,rfl⟩⟩
end
noncomputable instance decPyData:DecidableEq D9:=fun a b=>Classical.propDecidable (a=b)
def aJZ{d e:D9}(a:gH d=true)(b:gH e=true):PyData.eqv d e=decide (d=e):=by
 by_cases h:d=e
 .rw[AV h,(uK a b).mpr h]
 .rw[AZ h]
  cases q:PyData.eqv d e with
  | false=>rfl
  | true=>exact absurd ((uK a b).mp q) h
def aCC(xs:List D9):f8 (.tuple xs)=lS xs+1:=by rw[f8]
def v8(A:Around):A.in1.units=A.units+1:=rfl
def kN(prog:Program)(w:World)(E:V9->S9->Prop)(d:D9):Prop:=∀ (v:V9) (as:List Az) (A:Around) (s:S9) (Q:Int->S9->Prop),gH d=true->Reads s.heap v d as->A.units+d.depth < cLine->Q (iA w d) {s with toks:=s.toks+f8 d}->
 wpAny (model prog w) A (pyHash v) Q E s
def aM2{prog:Program}{w:World}{E:V9->S9->Prop}:∀ (xs:List D9) (ih:∀ x∈xs,kN prog w E x) (vs:List V9) (as:List Az) (A:Around) (s:S9) (b:Array Int) (Q:Array Int->S9->Prop),fG xs=true->ReadsAll s.heap vs xs as->A.units+PyData.depthAll xs < cLine->
  (∀ b',b'.toList=b.toList++lF w xs->Q b' {s with toks:=s.toks+lS xs})->
  wpAny (model prog w) A (forIn vs b fun x r=>do let h <-pyHash x;pure PUnit.unit;pure (ForInStep.yield (r.push h))) Q E s:=by
 intro xs
 induction xs with
 | nil=>
  intro ih vs as A s b Q _ x _ h
  cases x
  exact AD (h b (by simp[lF]))
 | cons k xs ih0=>
  intro ih vs as A s b Q d x f h
  cases x with
  | @cons v vs _ _ as bs x1 x2=>
   have a:(gH k && fG xs)=true:=d
   rw[AM] at a
   have e:A.units+max k.depth (PyData.depthAll xs) < cLine:=f
   rw[CN]
   refine AB (AB (ih k AQ _ _ A s _ a.1 x1 (by omega) ?_))
   refine AB (AD (AD ?_))
   refine ih0 (fun x hx=>ih x (AI _ hx)) _ _ A {s with toks:=s.toks+f8 k} _ Q a.2 x2 (by omega) fun b' c=>?_
   have q:=h b' (by rw[c];simp[lF])
   rw[show lS (k::xs)=f8 k+lS xs by rw[lS],<-Nat.add_assoc] at q
   exact q
def v9(w:World)(i:Int):iA w (.int i)=hashInt i:=by rw[iA]
def wA(w:World)(i:Str):iA w (.str i)=hashStr w i:=by rw[iA]
def aEH(w:World)(xs:List D9):iA w (.tuple xs)=reduceHash (Builtin.Tuple.tupleHashOf (lF w xs)):=by rw[iA]
def aCD(i:Int):f8 (.int i)=1:=by unfold f8;rfl
def aCE(i:Str):f8 (.str i)=1:=by unfold f8;rfl
def aGR{prog:Program}{w:World}{E:V9->S9->Prop}(i:Int):kN prog w E (.int i):=fun v a A s Q _ r _ h=>by
 rw[v9,aCD] at h
 cases r
 exact wpAny_pyHash_int h
def aGS{prog:Program}{w:World}{E:V9->S9->Prop}(i:Str):kN prog w E (.str i):=fun v a A s Q _ r _ h=>by
 rw[wA,aCE] at h
 cases r
 exact wpAny_pyHash_str h
def aGT{prog:Program}{w:World}{E:V9->S9->Prop}(xs:List D9)(e:∀ x∈xs,kN prog w E x):kN prog w E (.tuple xs):=fun v d A s Q g r j h=>by
 rw[aEH,aCC] at h
 cases r with
 | @tuple a o vs n _ d h1 h2 h3 h4=>
  have c:fG xs=true:=g
  have i:A.units+(PyData.depthAll xs+1) < cLine:=j
  refine PySem.W.pyHash_slot (T:="tuple") ⟨o,h1,h2⟩ F.slot_tuple_hash F.entry_tuple_hash (F.args_tuple_hash_1 _) (beq_builtin_none _) (.inr (by omega)) ?_
  show wpAny _ _ (Builtin.Tuple.tupleItemsOf (.ref a) >>= _) _ _ s
  refine AB (wpAny_tupleItemsOf h1 h3 ?_)
  refine AB ?_
  rw[<-Array.forIn_toList]
  refine aM2 xs e vs.toList d A.in1 s #[] _ c h4 (by rw[v8];omega) fun b f=>?_
  show wpAny _ _ (retInt (Builtin.Tuple.tupleHashOf b.toList)) _ _ _
  rw[f]
  exact AB (wpAny_mkInt (AD ⟨_,_,rfl,h⟩))
def aCF(w:World):iA w .none=reduceHash 0xFCA86420:=by rw[iA]
def z7:f8 .none=1:=by unfold f8;rfl
def aGU{prog:Program}{w:World}{E:V9->S9->Prop}:kN prog w E .none:=fun v b A s Q _ r c h=>by
 rw[aCF,z7] at h
 generalize a:reduceHash 0xFCA86420=g at h
 cases r
 refine PySem.W.pyHash_slot (T:="NoneType") rfl F.slot_NoneType_hash F.entry_NoneType_hash (F.args_NoneType_hash_1 _) (beq_builtin_none _) (.inr (by omega)) (AB (AD (AB (wpAny_mkInt (AD ⟨0xFCA86420,_,rfl,?_⟩)))))
 rw[a]
 exact h
def aM3{prog:Program}{w:World}{E:V9->S9->Prop}:∀ (n:Nat) (d:D9),sizeOf d<=n->kN prog w E d:=by
 intro n
 induction n with
 | zero=>intro d h;cases d<;>simp at h
 | succ n ih=>
  intro d h
  cases d with
  | none=>exact aGU
  | int i=>exact aGR i
  | str x=>exact aGS x
  | tuple xs=>
   refine aGT xs fun x hx=>ih x ?_
   have:=List.sizeOf_lt_of_mem hx
   simp only[PyData.tuple.sizeOf_spec] at h
   omega
  | bool b=>exact fun v c A s Q a=>nomatch a
  | list xs=>exact fun v c A s Q a=>nomatch a
  | dict xs=>exact fun v c A s Q a=>nomatch a
def aM4{prog:Program}{w:World}{E:V9->S9->Prop}(d:D9):kN prog w E d:=aM3 (sizeOf d) d (AJ _)
def aJ0{M:Model}{A:Around}{E:V9->S9->Prop}{s:S9}:∀ (n:Nat) (d:D9) (v:V9) (as:List Az) (Q:Bool->S9->Prop),gH d=true->Reads s.heap v d as->d.depth<=n->Q true s->wpAny M A (eqIsQuiet n v) Q E s:=by
 intro n
 induction n with
 | zero=>
  intro d v as Q c r j h
  cases d with
  | none=>cases r;rw[D3 _ rfl];exact AD h
  | int i=>cases r;rw[D3 _ rfl];exact AD h
  | str x=>cases r;rw[D3 _ rfl];exact AD h
  | tuple xs=>
   have g:PyData.depthAll xs+1<=0:=j
   omega
  | bool b=>exact nomatch c
  | list xs=>exact nomatch c
  | dict xs=>exact nomatch c
 | succ n ih=>
  intro d v as Q c r j h
  cases d with
  | none=>cases r;rw[D3 _ rfl];exact AD h
  | int i=>cases r;rw[D3 _ rfl];exact AD h
  | str x=>cases r;rw[D3 _ rfl];exact AD h
  | bool b=>exact nomatch c
  | list xs=>exact nomatch c
  | dict xs=>exact nomatch c
  | tuple xs=>
   cases r with
   | @tuple a o vs m _ as h1 h2 h3 h4=>
    have f:fG xs=true:=c
    have g:PyData.depthAll xs+1<=n+1:=j
    have l:s.TypeIs (.ref a) "tuple":=⟨o,h1,h2⟩
    unfold eqIsQuiet
    refine AB (GA l F.slot_tuple_eq.lookup ?_)
    show wpAny _ _ (isInstance (.ref a) (.type "tuple") >>= _) _ _ s
    refine AB (EW l isSubtype_tuple_tuple ?_)
    simp only[G0,CC,DG]
    refine AB (CM h1 h3 ?_)
    refine AB ?_
    show wpAny _ _ (forIn vs _ _) _ _ s
    rw[<-Array.forIn_toList]
    refine wpAny_forIn_list _ (fun rest r s'=>r.1=none/\s'=s/\∃ ys bs,fG ys=true/\PyData.depthAll ys<=n/\ReadsAll s.heap rest ys bs) _ ?_ ?_ _ _ ⟨rfl,rfl,xs,_,f,by omega,h4⟩
    .rintro v rest r s' ⟨hr,rfl,ys,bs,hy,hdy,ry⟩
     cases ry with
     | @cons _ _ y yt cs ds r1 r2=>
      have e:(gH y && fG yt)=true:=hy
      rw[AM] at e
      have k:max y.depth (PyData.depthAll yt)<=n:=hdy
      refine AB (ih y v _ _ e.1 r1 (by omega) ?_)
      simp only[G0,CC,DG]
      exact AD ⟨rfl,rfl,yt,_,e.2,by omega,r2⟩
    .rintro ⟨r1,r2⟩ s' ⟨hr,rfl,_⟩
     simp only at hr
     subst hr
     exact AD h
def aQX(h:Heap)(d:D9)(a:Az):Prop:=gH d=true/\d.depth<=8/\∃ as,Reads h (.ref a) d as
def aCG{h h':Heap}{a:Az}{o:Obj}{es:Array DictEntry}{ep:Nat}(q:h.get? a=some o)(l:o.data=.dict es ep)(m:Heap.SameBut a h h'){v:V9}{d:D9}{e:List Az}(c:gH d=true)(r:Reads h v d e):Reads h' v d e:=by
 refine Reads.rec (motive_1:=fun v d e _=>gH d=true->Reads h' v d e) (motive_2:=fun vs xs e _=>fG xs=true->ReadsAll h' vs xs e) ?_ ?_ ?_ ?_ ?_ ?_ ?_ ?_ ?_ r c
 .exact fun _=>.none
 .intro b c;cases c
 .exact fun i t _=>.int i t
 .exact fun i t _=>.str i t
 .intro b o' vs n xs e h1 h2 f g j c;cases c
 .intro b o' vs n xs e h1 h2 f g j c
  exact .tuple ((m.2 b (fun z=>by subst z;rw[q] at h1;cases h1;rw[l] at f;cases f)).trans h1) h2 f (j c)
 .intro b o' p n k e bs h1 h2 f g s i1 i2 c;cases c
 .exact fun _=>.nil
 .intro v vs d ds e bs r1 r2 i1 i2 c
  exact .cons (i1 ((AM ..).mp c).1) (i2 ((AM ..).mp c).2)
def iE(prog:Program)(w:World):HeapKind prog w D9 where
 is:=aQX
 hash:=iA w
 draws:=f8
 room:=fun A=>A.units+9 < cLine
 inj:=fun {h a x y} hx hy=>by
  obtain ⟨k1,_,as,r1⟩:=hx
  obtain ⟨k2,_,bs,r2⟩:=hy
  exact PySem.SeqAt.Reads.unique x y _ _ _ (qH k1) r1 r2
 keeps:=fun {h h' k a d o es ep} hx ho hd hs=>by
  obtain ⟨k1,k2,as,r1⟩:=hx
  exact ⟨k1,k2,as,aCG ho hd hs k1 r1⟩
 pyHash:=fun {A E s k a Q} hu hk h=>by
  obtain ⟨k1,k2,as,r1⟩:=hk
  exact aM4 k _ as A s Q k1 r1 (by omega) h
 eqBool:=fun {A E s x y a b Q} hu hx hy h=>by
  obtain ⟨k1,k2,as,r1⟩:=hx
  obtain ⟨l1,l2,bs,r2⟩:=hy
  refine PySem.SeqAt.eqAt_reads x y A s _ _ as bs r1 r2 (qH k1) (qH l1) ?_ prog w E Q ?_
  .have:min x.depth y.depth<=8:=A6 (E7 _ _) k2
   omega
  .rw[aJZ k1 l1];exact h
 quiet:=fun {A E s k a Q} hk h=>by
  obtain ⟨k1,k2,as,r1⟩:=hk
  exact aJ0 8 k _ as Q k1 r1 k2 h
abbrev Ent:=D9×V×V
def n5(w:World)(p:Ent)(en:DictEntry):Prop:=en.hash=iA w p.1/\aY p.2.1 en.key/\aY p.2.2 en.val
def bZ(w:World)(a:Az)(es:List Ent)(ep:Nat):HO:=.ext fun h=>(a == sysModules)=false/\∃ o ar,h.get? a=some o/\o.ExactDict/\o.data=.dict ar ep/\Paired (n5 w) es ar.toList
def f9{P:Program}{w:World}{H:Hp}{h:Heap}{a:Az}{es:List Ent}{ep:Nat}(c:(a == sysModules)=false)(b:∃ o ar,h.get? a=some o/\o.ExactDict/\o.data=.dict ar ep/\Paired (n5 w) es ar.toList):b8 P w H h a (bZ w a es ep):=
 ⟨⟨c,b⟩,let ⟨o,_,e,_⟩:=b;⟨o,e⟩,fun h1 h2 ⟨q,o,es,e,r⟩ d=>⟨q,o,es,d _ e,r⟩⟩
def gI:D9->Bool
 | .tuple xs=>gH (.tuple xs) && decide ((PyData.tuple xs).depth<=8)
 | _=>false
def kT:D9->Bool
 | .int _=>true
 | .str _=>true
 | _=>false
def bJ(k:D9)(ks:List D9):Bool:=(gI k && ks.all gI) || (kT k && ks.all kT)
def aJ1{d:D9}(h:gI d=true):∃ xs,d=.tuple xs/\gH d=true/\d.depth<=8:=by
 cases d with
 | tuple xs=>
  have h':(gH (.tuple xs) && decide ((PyData.tuple xs).depth<=8))=true:=h
  rw[AM] at h'
  exact ⟨xs,rfl,h'.1,BA h'.2⟩
 | _=>cases h
def iB:Key->D9
 | .inl i=>.int i
 | .inr x=>.str x
def aAN{d:D9}(h:kT d=true):∃ k,d=iB k:=by
 cases d with
 | int i=>exact ⟨.inl i,rfl⟩
 | str i=>exact ⟨.inr i,rfl⟩
 | _=>cases h
def wB{a b:Key}(h:iB a=iB b):a=b:=by
 cases a<;>cases b<;>cases h<;>rfl
def aAO{K:Frag}{H:Hp}{v:V}{k:Key}(h:DatV K H v (iB k)):v=kV k:=by
 cases k with
 | inl i=>exact h.int_of
 | inr x=>exact h.str_of
def x8{P:Program}{w:World}(k:Key):iA w (iB k)=(dG P w).hash k:=by
 cases k with
 | inl i=>exact v9 w i
 | inr x=>exact wA w x
def uL:Ent->(D9×Az×V9)->Prop:=fun e x=>e.1=x.1/\e.2.1=.ref x.2.1/\aY e.2.2 x.2.2
def uM:Ent->(Key×V9)->Prop:=fun e x=>e.1=iB x.1/\e.2.1=kV x.1/\aY e.2.2 x.2
theorem aEI{P:Program}{w:World}:∀ {es:List Ent} {ens:List DictEntry},Paired (n5 w) es ens->(∀ e∈es,∃ b,e.2.1=.ref b)->∃ xs,ens=xs.map (entryOfKey (iE P w))/\Paired uL es xs
 | _,_,.nil,_=>⟨[],rfl,.nil⟩
 | e::es,en::ens,.cons h t,hb=>by
  obtain ⟨xs,h1,h2⟩:=aEI (P:=P) t fun e k=>hb e (AI _ k)
  obtain ⟨b,a⟩:=hb e AQ
  obtain ⟨i,g,j⟩:=h
  rw[a] at g
  obtain ⟨hash,key,d⟩:=en
  have c:key=Value.ref b:=g
  have f:hash=iA w e.1:=i
  subst c f
  exact ⟨(e.1,b,d)::xs,by rw[AX,h1];rfl,.cons ⟨rfl,a,j⟩ h2⟩
theorem lT{P:Program}{w:World}:∀ {es:List Ent} {xs:List (D9×Az×V9)},Paired uL es xs->Paired (n5 w) es (xs.map (entryOfKey (iE P w)))
 | _,_,.nil=>.nil
 | _,_,.cons h t=>.cons ⟨by rw[h.1];rfl,by rw[h.2.1];rfl,h.2.2⟩ (lT t)
theorem aEJ{P:Program}{w:World}:∀ {es:List Ent} {ens:List DictEntry},Paired (n5 w) es ens->(∀ e∈es,∃ k,e.1=iB k/\e.2.1=kV k)->∃ xs,Pairs (dG P w) ens xs/\Paired uM es xs/\∀ en∈ens,∃ k,(dG P w).is k en.key=true/\en.hash=(dG P w).hash k
 | _,_,.nil,_=>⟨[],.nil,.nil,fun _ h=>by cases h⟩
 | e::es,en::ens,.cons h t,hb=>by
  obtain ⟨xs,h1,h2,h3⟩:=aEJ (P:=P) t fun e d=>hb e (AI _ d)
  obtain ⟨k,hk1,hk2⟩:=hb e AQ
  obtain ⟨g,c,f⟩:=h
  have hi:(dG P w).is k en.key=true:=aIO (by rw[<-hk2];exact c)
  refine ⟨(k,en.val)::xs,.cons hi rfl h1,.cons ⟨hk1,hk2,f⟩ h2,fun a b=>?_⟩
  rcases AS.mp b with z|z
  · subst z; exact ⟨k, hi, by rw [g, hk1, x8 (P := P)]⟩
  · exact h3 a z
def aJ2{P:Program}{w:World}{k:Key}{v:V9}(h:(dG P w).is k v=true):aY (kV k) v:=by
 rcases keyIs_shape h with ⟨i,t,rfl,rfl⟩|⟨x,t,rfl,rfl⟩
 · exact ⟨t, rfl⟩
 · exact ⟨t, rfl⟩
theorem lU{P:Program}{w:World}:∀ {es:List Ent} {xs:List (Key×V9)} {ens:List DictEntry},Paired uM es xs->Pairs (dG P w) ens xs->(∀ en∈ens,∃ k,(dG P w).is k en.key=true/\en.hash=(dG P w).hash k)->Paired (n5 w) es ens
 | _,_,_,.nil,.nil,_=>.nil
 | _,_,_,.cons h t,.cons p1 p2 ps,hk=>by
  obtain ⟨k,hk1,hk2⟩:=hk _ AQ
  obtain rfl:=(dG P w).inj _ _ _ hk1 p1
  refine .cons ⟨by rw[hk2,h.1,x8 (P:=P)],by rw[h.2.1];exact aJ2 hk1,by rw[p2];exact h.2.2⟩ (lU t ps fun en a=>hk en (AI _ a))
def atE(es:List Ent)(k:D9):Option V:=(es.find? fun e=>decide (e.1=k)).map (·.2.2)
def jU(es:List Ent)(k:D9)(kv v:V):List Ent:=if (atE es k).isSome then es.map (fun e=>if e.1=k then (e.1,e.2.1,v) else e) else es++[(k,kv,v)]
theorem nB{k:D9}:∀ {es:List Ent} {xs:List (D9×Az×V9)},Paired uL es xs->kS (atE es k) ((atKey xs k).map (·.2))
 | _,_,.nil=>trivial
 | e::es,x::xs,.cons h t=>by
  have ih:=nB (k:=k) t
  unfold atE atKey at ih ⊢
  rw[B4,B4,h.1]
  by_cases q:x.1=k
  · rw [AV q]; exact h.2.2
  · rw [AZ q]; exact ih
theorem nC{k:Key}:∀ {es:List Ent} {xs:List (Key×V9)},Paired uM es xs->kS (atE es (iB k)) (valueAt xs k)
 | _,_,.nil=>trivial
 | e::es,x::xs,.cons h t=>by
  have ih:=nC (k:=k) t
  unfold atE valueAt at ih ⊢
  rw[B4,B4,h.1]
  by_cases q:x.1=k
  · rw [AV q, AV (by rw [q])]; exact h.2.2
  · rw [AZ q, AZ (fun z => q (wB z))]; exact ih
def jK{o:Option V}{u:Option V9}(h:kS o u):o.isSome=u.isSome:=by
 cases o<;>cases u<;>first|rfl|exact h.elim
theorem n6{α β:Type}{f:α->β->Prop}{g:α->α}{k:β->β}(hg:∀ a b,f a b->f (g a) (k b)):∀ {xs:List α} {ys:List β},Paired f xs ys->Paired f (xs.map g) (ys.map k)
 | _,_,.nil=>.nil
 | _,_,.cons h t=>.cons (hg _ _ h) (n6 hg t)
theorem n8{α β:Type}{f:α->β->Prop}{a:α}{b:β}(h:f a b):∀ {xs:List α} {ys:List β},Paired f xs ys->Paired f (xs++[a]) (ys++[b])
 | _,_,.nil=>.cons h .nil
 | _,_,.cons q t=>.cons q (n8 h t)
def w5{k:D9}{b:Az}{v:V}{u:V9}{es:List Ent}{xs:List (D9×Az×V9)}(r:aY v u)(h:Paired uL es xs):Paired uL (jU es k (.ref b) v) (storedH xs k b u):=by
 have q:=jK (nB (k:=k) h)
 rw[EM] at q
 unfold jU storedH
 rw[q]
 cases (atKey xs k).isSome with
 | true=>
  rw[if_pos rfl,if_pos rfl]
  refine n6 (fun e x hx=>?_) h
  unfold putAt
  rw[hx.1]
  by_cases z:x.1=k
  · rw [if_pos z, if_pos z]; exact ⟨rfl, hx.2.1, r⟩
  · rw [if_neg z, if_neg z]; exact hx
 | false=>rw[if_neg (by decide),if_neg (by decide)];exact n8 ⟨rfl,rfl,r⟩ h
theorem aIT{k:Key}:∀ {xs:List (Key×V9)},xs.any (fun kv=>decide (kv.1=k))=(valueAt xs k).isSome
 | []=>rfl
 | x::xs=>by
  have ih:=aIT (k:=k) (xs:=xs)
  unfold valueAt at ih ⊢
  rw[List.any_cons,B4]
  by_cases q:x.1=k
  · rw [AV q]; rfl
  · rw [AZ q, Bool.false_or]; exact ih
def w6{k:Key}{v:V}{u:V9}{es:List Ent}{xs:List (Key×V9)}(r:aY v u)(h:Paired uM es xs):Paired uM (jU es (iB k) (kV k) v) (stored xs k u):=by
 have q:=jK (nC (k:=k) h)
 unfold jU stored
 rw[q,aIT]
 cases (valueAt xs k).isSome with
 | true=>
  rw[if_pos rfl,if_pos rfl]
  refine n6 (fun e x hx=>?_) h
  by_cases z:x.1=k
  · rw [if_pos z, if_pos (by rw [hx.1, z])]; exact ⟨by rw [hx.1], hx.2.1, r⟩
  · rw [if_neg z, if_neg (fun y => z (wB (hx.1.symm.trans y)))]; exact hx
 | false=>rw[if_neg (by decide),if_neg (by decide)];exact n8 ⟨rfl,rfl,r⟩ h
section
variable{X:Cx}{pins:List (Az×Obj)}{σ:L2.St}{H:Hp}{s:S9}{a:Az}{es:List Ent}{k:D9}{kv v:V}{ku u:V9}{A:Around}{E:V9->S9->Prop}
structure DicAt(X:Cx)(H:Hp)(a:Az)(es:List Ent)(k:D9)(kv:V):Prop where
 o:∃ ep,H a=some (bZ X.w a es ep)
 ks:∀ e∈es,DatV X.K H e.2.1 e.1
 nd:(es.map (·.1)).Nodup
 dk:DatV X.K H kv k
 one:bJ k (es.map (·.1))=true
theorem tD{α β:Type}{f:α->β->Prop}{y:β}:∀ {xs:List α} {ys:List β},Paired f xs ys->y∈ys->∃ x,x∈xs/\f x y
 | _,_,.nil,h=>by cases h
 | _,_,.cons q t,h=>by
  rcases AS.mp h with z|z
  .subst z;exact ⟨_,AQ,q⟩
  .obtain ⟨x,h1,h2⟩:=tD t z
   exact ⟨x,AI _ h1,h2⟩
theorem n9{α β γ:Type}{f:α->β->Prop}{g:α->γ}{k:β->γ}(h:∀ a b,f a b->g a=k b):∀ {xs:List α} {ys:List β},Paired f xs ys->xs.map g=ys.map k
 | _,_,.nil=>rfl
 | _,_,.cons q t=>by rw[AX,AX,h _ _ q,n9 h t]
theorem wC{α β:Type}{f:α->β}:∀ {xs:List α},(xs.map f).Nodup->xs.Nodup
 | [],_=>C7
 | x::t,h=>by
  rw[AX,CF] at h
  exact CF.mpr ⟨fun z=>h.1 (CQ z),wC h.2⟩
theorem DicAt.cases (D : DicAt X H a es k kv) (I : Inv X pins σ H s) (G : aY kv ku) : (a == sysModules) = false /\
    ((∃ b xs, kv = .ref b /\ ku = .ref b /\ Paired uL es xs /\ (iE X.prog X.w).is s.heap k b /\ s.heap.DictOfH (iE X.prog X.w) a xs) \/
     (∃ kk xs, k = iB kk /\ kv = kV kk /\ Paired uM es xs /\ (dG X.prog X.w).is kk ku = true /\ s.heap.DictOf (dG X.prog X.w) a xs)) := by
  obtain ⟨ep, L⟩ := D.o
  obtain ⟨⟨z, o, ar, h1, h2, J, E⟩, _, _⟩ := (show b8 X.prog X.w H s.heap a (bZ X.w a es ep) from I.hok a _ L)
  refine ⟨z, ?_⟩
  have f := D.one
  unfold bJ at f
  rw [CH, AM, AM, A1, A1] at f
  rcases f with ⟨y, t⟩ | ⟨y, t⟩
  · have key : ∀ (d : D9) (v : V), gI d = true -> DatV X.K H v d -> ∃ i, v = .ref i /\ (iE X.prog X.w).is s.heap d i := fun d v z F => by
      obtain ⟨ws, rfl, N, O⟩ := aJ1 z
      obtain ⟨i, vs, rfl, _, _⟩ := F.tup_of
      obtain ⟨M, r⟩ := F.reads I (u := .ref i) rfl
      exact ⟨i, rfl, N, O, M, r⟩
    obtain ⟨b, rfl, B⟩ := key _ _ y D.dk
    cases (show ku = Value.ref b from G)
    obtain ⟨xs, l, c⟩ := aEI (P := X.prog) E fun e j => by
      obtain ⟨i, e1, _⟩ := key e.1 e.2.1 (t _ (CQ j)) (D.ks e j)
      exact ⟨i, e1⟩
    refine .inl ⟨b, xs, rfl, rfl, c, B, o, ar, ep, h1, h2, J, l, fun x hx => ?_, ?_⟩
    · obtain ⟨e, j, n⟩ := tD c hx
      obtain ⟨i, e1, q⟩ := key e.1 e.2.1 (t _ (CQ j)) (D.ks e j)
      rw [n.2.1] at e1
      cases e1
      rw [<- n.1]; exact q
    · rw [<- n9 (g := fun e : Ent => e.1) (fun a b h => h.1) c]; exact D.nd
  · obtain ⟨kk, rfl⟩ := aAN y
    have p := aAO D.dk
    obtain ⟨xs, l, c, C⟩ := aEJ (P := X.prog) E fun e j => by
      obtain ⟨Q, m⟩ := aAN (t _ (CQ j))
      have q := D.ks e j
      rw [m] at q
      exact ⟨Q, m, aAO q⟩
    refine .inr ⟨kk, xs, rfl, p, c, aIO (by rw [<- p]; exact G), o, ar, ep, h1, h2, J, fun en A => C en (by simpa using A), l, ?_⟩
    have : es.map (·.1) = (xs.map (·.1)).map iB := by rw [CT]; exact n9 (g := fun e : Ent => e.1) (fun a b h => h.1) c
    have nd := D.nd
    rw [this] at nd
    exact wC nd
def kO{A:Around}(a:A.units+64 < cLine):(iE X.prog X.w).room A.in1:=by show A.in1.units+9 < cLine;rw[v8];omega
def aM5{Q:V9->S9->Prop}(g:A.units+64 < cLine)(D:DicAt X H a es k kv)(I:Inv X pins σ H s)(f:aY kv ku)(h:∀ s',Inv X pins σ H s'->Q (.bool (atE es k).isSome) s'):wpAny (model X.prog X.w) A (compareOp .In ku (.ref a)) Q E s:=by
 obtain ⟨d,⟨b,xs,rfl,rfl,hx,c,dd⟩|⟨e,xs,rfl,rfl,hx,c,dd⟩⟩:=D.cases I f
 .refine wpAny_in_heap (kO g) c d dd ?_
  have q:=jK (nB (k:=k) hx)
  rw[EM] at q
  rw[<-q];exact h _ (I.tok _)
 .refine wpAny_in_of c d dd.mapOf ?_
  rw[<-jK (nC (k:=e) hx)];exact h _ (I.tok _)
def aJ3{Q:V9->S9->Prop}(g:A.units+64 < cLine)(D:DicAt X H a es k kv)(I:Inv X pins σ H s)(f:aY kv ku)(h:∀ s',Inv X pins σ H s'->Q (.bool (!(atE es k).isSome)) s'):wpAny (model X.prog X.w) A (compareOp .NotIn ku (.ref a)) Q E s:=by
 obtain ⟨d,⟨b,xs,rfl,rfl,hx,c,dd⟩|⟨e,xs,rfl,rfl,hx,c,dd⟩⟩:=D.cases I f
 .refine wpAny_notIn_heap (kO g) c d dd ?_
  have q:=jK (nB (k:=k) hx)
  rw[EM] at q
  rw[<-q];exact h _ (I.tok _)
 .refine wpAny_notIn_of c d dd.mapOf ?_
  rw[<-jK (nC (k:=e) hx)];exact h _ (I.tok _)
def aJ4{Q:V9->S9->Prop}(l:A.units+64 < cLine)(D:DicAt X H a es k kv)(I:Inv X pins σ H s)(j:aY kv ku)(f:atE es k=some v)(h:∀ w' s',Inv X pins σ H s'->aY v w'->Q w' s'):wpAny (model X.prog X.w) A (getItem (.ref a) ku) Q E s:=by
 obtain ⟨m,⟨b,xs,rfl,rfl,hx,e,dd⟩|⟨g,xs,rfl,rfl,hx,e,dd⟩⟩:=D.cases I j
 .have q:=nB (k:=k) hx
  rw[f] at q
  obtain ⟨w',hw,c⟩:=kS.some_of q
  obtain ⟨p,i,d⟩:=FM.mp hw
  refine wpAny_getItem_heap (kO l) e dd i ?_
  rw[d];exact h w' _ (I.tok _) c
 .have q:=nC (k:=g) hx
  rw[f] at q
  obtain ⟨w',hw,c⟩:=kS.some_of q
  exact wpAny_getItem_of e dd.mapOf hw (h w' _ (I.tok _) c)
def aJ5{Q:Unit->S9->Prop}(y:A.units+64 < cLine)(D:DicAt X H a es k kv)(I:Inv X pins σ H s)(x:aY kv ku)(q:aY v u)(hz:es.length<=sizeLine)(h:∀ ep s',Inv X pins σ (upd H a (bZ X.w a (jU es k kv v) ep)) s'->Q () s') :
  wpAny (model X.prog X.w) A (setItem (.ref a) ku u) Q E s:=by
 obtain ⟨r,⟨b,xs,rfl,rfl,hx,l,dd⟩|⟨z,xs,rfl,rfl,hx,l,dd⟩⟩:=D.cases I x
 .have i:xs.length<=sizeLine:=by rw[<-Paired.length hx];exact hz
  refine wpAny_setItem_heap (hsz:=i) (kO y) l dd fun h' c m=>?_
  obtain ⟨d,ar,ep,e,h2,n,j,_,t⟩:=c
  obtain ⟨f,g⟩:=D.o
  refine h ep _ (jI I (by rw[g];exact True.intro) m ⟨d,e⟩ (f9 r ⟨d,ar,e,h2,n,?_⟩))
  rw[j]
  exact lT (w5 q hx)
 .have i:xs.length<=sizeLine:=by rw[<-Paired.length hx];exact hz
  refine wpAny_setItem_pairs (hsz:=i) l dd fun h' c m=>?_
  obtain ⟨d,ar,ep,e,h2,n,j,t,_⟩:=c
  obtain ⟨f,g⟩:=D.o
  refine h ep _ (jI I (by rw[g];exact True.intro) m ⟨d,e⟩ (f9 r ⟨d,ar,e,h2,n,?_⟩))
  exact lU (w6 q hx) t fun en p=>j en (by simpa using p)
end
structure Er where
 c:Str
 fs:List (Str×D9)
inductive R(α:Type) where
 | bad|ok (a:α)|ex (e:Er)
def R.bind{α β:Type}:R α->(α->R β)->R β
 | .bad,_=>.bad
 | .ok a,f=>f a
 | .ex e,_=>.ex e
@[simp] theorem R.bind_ok{α β:Type}(a:α)(f:α->R β):(R.ok a).bind f=f a:=id rfl
@[simp] theorem R.bind_bad{α β:Type}(f:α->R β):(R.bad:R α).bind f=.bad:=id rfl
@[simp] theorem R.bind_ex{α β:Type}(e:Er)(f:α->R β):(R.ex e:R α).bind f=.ex e:=id rfl
inductive A where
 | d (x:D9)|l (xs:List D9)|m (kvs:List (D9×D9))|x (e:Er)|g (k n:Nat) (f:List D9->R D9)|k (q:Str)|f (kvs:List (D9×D9))
abbrev Sg:=List (Option A)
structure Gb where
 B:Az->Hp->Nat->Nat->(List D9->R D9)->Prop
 T:Hp
 w:World
structure Ct where
 K:Frag
 mg:Str->Option V9
 w:World
 F0:Hp
 H0:Hp
 g:Gb
 cells:List (Str×Az)
 cls:Str->Option ClSt
def x9{w:World}{p:Az}{es:List Ent}{ep:Nat}{q:Str}(h:bZ w p es ep=.cod q):False:=by unfold bZ at h;cases h
def bK(H:Hp):aH H H:=fun _ _ h=>h
def a9{H H':Hp}(s:aH H H'){a:Az}(h:H' a=none):H a=none:=by
 cases e:H a with
 | none=>rfl
 | some o=>rw[s a o e] at h;cases h
def mI(H:Hp)(a:Az):Prop:=H a=none\/∃ q,H a=some (.cod q)
def mI.back{H H1:Hp}{a:Az}(s:aH H H1)(h:mI H1 a):mI H a:=by
 cases e:H a with
 | none=>exact .inl e
 | some o=>
  have e1:=s a o e
  rcases h with z|⟨q,z⟩
  · rw [e1] at z; cases z
  · rw [e1] at z; cases z; exact .inr ⟨q, e⟩
structure Ext(F H F' H':Hp):Prop where
 hh:aH H H'
 ff:aH F F'
 fh:aH F' H'
 nw:∀ a,F a=none->F' a≠none->mI H a
def Ext.refl{F H:Hp}(h:aH F H):Ext F H F H:=⟨bK H,bK F,h,fun a e n=>absurd e n⟩
def Ext.trans{F H c H1 d H2:Hp}(a:Ext F H c H1)(b:Ext c H1 d H2):Ext F H d H2:=
 ⟨fun x o e=>b.hh x o (a.hh x o e),fun x o e=>b.ff x o (a.ff x o e),b.fh,fun x e n=>by
  cases q:c x with
  | none=>exact (b.nw x q n).back a.hh
  | some o=>exact a.nw x e (by rw[q];exact fun z=>nomatch z)⟩
def Ext.stay{F H a H':Hp}(s:Ext F H a H'){p:Az}{o:HO}(c:F p=none)(h2:H p=some o)(b:∀ q,o≠.cod q):a p=none:=by
 cases q:a p with
 | none=>rfl
 | some o=>
  rcases s.nw p c (by rw[q];exact fun z=>nomatch z) with z|⟨d,z⟩
  · rw [z] at h2; cases h2
  · rw [z] at h2; cases h2; exact absurd rfl (b _)
def aGV{F H:Hp}{p:Az}{o:HO}(s:aH F H):aH (upd F p o) (upd H p o):=fun a u e=>by
 by_cases q:a=p
 · subst q; rw [aT] at e ⊢; exact e
 · rw [aG q] at e ⊢; exact s a u e
def Ext.new{F H:Hp}{p:Az}{o:HO}(s:aH F H)(b:H p=none):Ext F H (upd F p o) (upd H p o):=
 ⟨aH.upd b,aH.upd (a9 s b),aGV s,fun a e n=>by
  by_cases q:a=p
  · subst q; exact .inl b
  · rw [aG q] at n; exact absurd e n⟩
def Ext.own{F H:Hp}{p:Az}{o:HO}(s:aH F H)(b:H p=none):Ext F H F (upd H p o):=
 ⟨aH.upd b,bK F,fun a u e=>by
  rw[aG (bC (s a u e) b)];exact s a u e,fun a e n=>absurd e n⟩
def i8(K:Frag)(mg:Str->Option V9)(F:Hp)(e:Er)(a C:Az):Prop:=mg e.c=some (.ref C)/\∃ od,F a=some (ExO a C od)/\((e.fs=[]/\od=none)\/∃ d fvs,od=some d/\F d=some (.xd fvs)/\fvs.map (·.1)=e.fs.map (·.1)/\DatVs K F (fvs.map (·.2)) (e.fs.map (·.2)))
def i8.same{K:Frag}{mg:Str->Option V9}{F b:Hp}{e:Er}{a C:Az}(s:aH F b)(h:i8 K mg F e a C):i8 K mg b e a C:=by
 obtain ⟨m,od,h1,h2⟩:=h
 refine ⟨m,od,s _ _ h1,h2.imp id ?_⟩
 rintro ⟨d,fvs,e1,e2,e3,e4⟩
 exact ⟨d,fvs,e1,s _ _ e2,e3,e4.same s⟩
structure MapRel(K:Frag)(F:Hp)(es:List Ent)(kvs:List (D9×D9)):Prop where
 k1:es.map (·.1)=kvs.map (·.1)
 k2:DatVs K F (es.map (·.2.1)) (kvs.map (·.1))
 vs:DatVs K F (es.map (·.2.2)) (kvs.map (·.2))
 nd:(kvs.map (·.1)).Nodup
def MapRel.same{K:Frag}{F b:Hp}{es:List Ent}{a:List (D9×D9)}(s:aH F b)(h:MapRel K F es a):MapRel K b es a:=⟨h.k1,h.k2.same s,h.vs.same s,h.nd⟩
def AF(g:Gb)(K:Frag)(mg:Str->Option V9)(F:Hp):A->V->Prop
 | .d x,v=>DatV K F v x
 | .x e,v=>∃ a C,v=.ref a/\i8 K mg F e a C
 | .g k n G,v=>∃ f F1,v=.ref f/\aH F1 F/\g.B f F1 k n G
 | .f kvs,v=>∃ p es,v=.ref p/\(∃ ep,F p=some (bZ g.w p es ep))/\MapRel K F es kvs
 | _,_=>False
theorem AF.same{g:Gb}{K:Frag}{mg:Str->Option V9}{F F':Hp}(s:aH F F'):∀ {a:A} {v:V},AF g K mg F a v->AF g K mg F' a v
 | .d x,v,h=>DatV.same s h
 | .x e,v,⟨a,C,h1,h2⟩=>⟨a,C,h1,h2.same s⟩
 | .g k n G,v,⟨f,F1,h1,h2,h3⟩=>⟨f,F1,h1,fun a o z=>s a o (h2 a o z),h3⟩
 | .f kvs,v,⟨p,es,h1,⟨ep,h2⟩,h3⟩=>⟨p,es,h1,⟨ep,s _ _ h2⟩,h3.same s⟩
def A.own:A->Bool
 | .l _=>true
 | .m _=>true
 | _=>false
def AO(c:Ct)(F H:Hp):A->V->Prop
 | .l xs,v=>∃ p vs,v=.ref p/\H p=some (.lst vs)/\F p=none/\c.H0 p=none/\DatVs c.K F vs xs
 | .m kvs,v=>∃ p es,v=.ref p/\(∃ ep,H p=some (bZ c.w p es ep))/\F p=none/\c.H0 p=none/\MapRel c.K F es kvs
 | .k q,v=>∃ S f cl doc pm cc ct,c.cls q=some S/\v=.ref f/\F f=some (FnO f (S.obj cl doc pm cc ct))/\F cc=some (.cod S.qual)/\ClOf c.cells S.scope cl
 | a,v=>AF c.g c.K c.mg F a v
theorem AO.ext{c:Ct}{F H b H':Hp}(s:Ext F H b H'):∀ {a:A} {v:V},AO c F H a v->AO c b H' a v
 | .d x,v,h=>DatV.same s.ff h
 | .x e,v,h=>AF.same (g:=c.g) (K:=c.K) (mg:=c.mg) (a:=.x e) s.ff h
 | .g k n G,v,h=>AF.same (g:=c.g) (K:=c.K) (mg:=c.mg) (a:=.g k n G) s.ff h
 | .f kvs,v,h=>AF.same (g:=c.g) (K:=c.K) (mg:=c.mg) (a:=.f kvs) s.ff h
 | .k q,v,⟨S,f,cl,doc,pm,cc,ct,h0,h1,h2,h3,h4⟩=>⟨S,f,cl,doc,pm,cc,ct,h0,h1,s.ff _ _ h2,s.ff _ _ h3,h4⟩
 | .l xs,v,⟨p,vs,h1,h2,h3,h4,h5⟩=>⟨p,vs,h1,s.hh _ _ h2,s.stay h3 h2 (fun _ z=>nomatch z),h4,h5.same s.ff⟩
 | .m kvs,v,⟨p,vs,h1,⟨ep,h2⟩,h3,h4,h5⟩=>⟨p,vs,h1,⟨ep,s.hh _ _ h2⟩,s.stay h3 h2 (fun _ z=>x9 z),h4,h5.same s.ff⟩
def AO.at{c:Ct}{F H:Hp}{a:A}{v:V}(h:AO c F H a v)(o:a.own=true):∃ p o,v=.ref p/\H p=some o/\F p=none/\c.H0 p=none:=by
 cases a with
 | l xs=>obtain ⟨p,vs,h1,h2,b,i,j⟩:=h;exact ⟨p,_,h1,h2,b,i⟩
 | m xs=>obtain ⟨p,vs,h1,⟨ep,h2⟩,b,i,j⟩:=h;exact ⟨p,_,h1,h2,b,i⟩
 | d x=>cases o
 | x e=>cases o
 | g k n f=>cases o
 | k S=>cases o
 | f S=>cases o
theorem AO.off{c:Ct}{F H:Hp}{p:Az}{o:HO}:∀ {a:A} {v:V},AO c F H a v->v≠.ref p->AO c F (upd H p o) a v
 | .l xs,v,⟨q,vs,h1,h2,h3,h4,h5⟩,n=>⟨q,vs,h1,by rw[aG (fun z=>n (by rw[h1,z]))];exact h2,h3,h4,h5⟩
 | .m xs,v,⟨q,vs,h1,⟨ep,h2⟩,h3,h4,h5⟩,n=>⟨q,vs,h1,⟨ep,by rw[aG (fun z=>n (by rw[h1,z]))];exact h2⟩,h3,h4,h5⟩
 | .d x,v,h,_=>h
 | .x e,v,h,_=>h
 | .g k n G,v,h,_=>h
 | .k S,v,h,_=>h
 | .f S,v,h,_=>h
structure Ab(c:Ct)(ρ:Sg)(σ:L2.St)(F H:Hp):Prop where
 len:ρ.length=σ.length
 fh:aH F H
 slot:∀ (i:Nat) (a:A),ρ[i]? = some (some a)->∃ v,σ[i]? = some (some v)/\AO c F H a v
 apart:∀ (i j:Nat) (a b:A),i≠j->ρ[i]? = some (some a)->ρ[j]? = some (some b)->a.own=true->b.own=true->σ[i]? ≠ σ[j]?
 f0:aH c.F0 F
 h0:aH c.H0 H
 n0:∀ a,c.F0 a=none->F a≠none->mI c.H0 a
 t0:aH c.g.T c.F0
def Ab.all{c:Ct}{ρ:Sg}{σ:L2.St}{F H:Hp}(b:Ab c ρ σ F H):Ext c.F0 c.H0 F H:=⟨b.h0,b.f0,b.fh,b.n0⟩
def Ab.ext{c:Ct}{ρ:Sg}{σ:L2.St}{F H d H':Hp}(b:Ab c ρ σ F H)(e:Ext F H d H'):Ab c ρ σ d H' where
 len:=b.len
 fh:=e.fh
 slot:=fun i a h=>let ⟨v,h1,h2⟩:=b.slot i a h;⟨v,h1,h2.ext e⟩
 apart:=b.apart
 f0:=fun x o h=>e.ff x o (b.f0 x o h)
 h0:=fun x o h=>e.hh x o (b.h0 x o h)
 n0:=fun a h n=>by
  cases q:F a with
  | none=>exact (e.nw a q n).back b.h0
  | some o=>exact b.n0 a h (by rw[q];exact fun z=>nomatch z)
 t0:=b.t0
def XW(c:Ct)(E:XK)(e:Er):Prop:=∀ a C F' H',Ext c.F0 c.H0 F' H'->i8 c.K c.mg F' e a C->E (.ref C) (some a) H'
def Rk{α:Type}(c:Ct)(E:XK)(F H:Hp)(r:R α)(k:α->Prop):Prop:=match r with
 | .bad=>False
 | .ok a=>k a
 | .ex e=>XW c E e
abbrev VR(α:Type):=α->V->Hp->Hp->Hp->Prop
def tV{α:Type}(Rel:VR α)(c:Ct)(E:XK)(f:Sg->R α):TE:=fun σ H Q=>∃ ρ F,Ab c ρ σ F H/\Rk c E F H (f ρ) fun d=>∀ v F' H',Ext F H F' H'->Rel d v H F' H'->Q v H'
def bW(c:Ct):VR D9:=fun d v _ F _=>DatV c.K F v d
def aU(K:Frag)(F H:Hp)(v:V)(d:D9):Prop:=DatV K F v d\/∃ p vs xs,v=.ref p/\d=.list xs/\H p=some (.lst vs)/\DatVs K F vs xs
def aZ(c:Ct):VR D9:=fun d v _ F H=>aU c.K F H v d
def aGW(c:Ct):VR A:=fun a v _ F _=>AF c.g c.K c.mg F a v
def rS(c:Ct):VR (List D9):=fun xs v H F H'=>∃ p vs,v=.ref p/\H p=none/\H' p=some (.lst vs)/\F p=none/\DatVs c.K F vs xs
abbrev PD(X:Cx)(c:Ct)(E:XK)(e:Expr)(f:Sg->R D9):Prop:=PE X e (tV (bW c) c E f)
abbrev PR(X:Cx)(c:Ct)(E:XK)(e:Expr)(f:Sg->R D9):Prop:=PE X e (tV (aZ c) c E f)
abbrev PV(X:Cx)(c:Ct)(E:XK)(e:Expr)(f:Sg->R A):Prop:=PE X e (tV (aGW c) c E f)
abbrev PN(X:Cx)(c:Ct)(E:XK)(e:Expr)(f:Sg->R (List D9)):Prop:=PE X e (tV (rS c) c E f)
def PE.imp{X:Cx}{e:Expr}{t t':TE}(h:PE X e t)(i:∀ σ H Q,t' σ H Q->t σ H Q):PE X e t':=fun pins s σ H Q I q=>h pins s σ H Q I (i σ H Q q)
def PT.imp{X:Cx}{e:Expr}{t t':TT}(h:PT X e t)(i:∀ σ H Q,t' σ H Q->t σ H Q):PT X e t':=fun pins s σ H Q I q=>h pins s σ H Q I (i σ H Q q)
def PS.imp{X:Cx}{e:Stmt}{t t':TS}(h:PS X e t)(i:∀ D σ H,t' D σ H->t D σ H):PS X e t':=fun pins s σ H D I q=>h pins s σ H D I (i D σ H q)
def PSs.imp{X:Cx}{e:List Stmt}{t t':TS}(h:PSs X e t)(i:∀ D σ H,t' D σ H->t D σ H):PSs X e t':=fun pins s σ H D I q=>h pins s σ H D I (i D σ H q)
def aIU{α:Type}(Rel:VR α):Prop:=∀ d v H F H1 F2 H2,Ext F H1 F2 H2->Rel d v H F H1->Rel d v H F2 H2
def aU.ext{K:Frag}{F H a H':Hp}{v:V}{d:D9}(e:Ext F H a H')(h:aU K F H v d):aU K a H' v d:=by
 rcases h with h|⟨p,vs,xs,h1,h2,b,c⟩
 · exact .inl (h.same e.ff)
 · exact .inr ⟨p, vs, xs, h1, h2, e.hh _ _ b, c.same e.ff⟩
def pA(c:Ct):aIU (aZ c):=fun d v H F H1 a H2 e h=>aU.ext e h
def aU.heap{K:Frag}{F H:Hp}{v:V}{d:D9}(s:aH F H)(h:aU K F H v d):DatV K H v d:=by
 rcases h with h|⟨p,vs,xs,h1,h2,a,b⟩
 · exact h.same s
 · subst h1 h2; exact .lst (SqL.of a) (b.same s)
section
variable{X:Cx}{c:Ct}{E:XK}{α β γ:Type}{Ra:VR α}{Rb:VR β}{Rc:VR γ}{σ:L2.St}{H:Hp}{Q:VK}
def Rk.ok{F:Hp}{a:α}{k:α->Prop}(h:Rk c E F H (.ok a) k):k a:=h
def Rk.imp{F:Hp}{r:R α}{k b:α->Prop}(h:Rk c E F H r k)(i:∀ a,r=.ok a->k a->b a):Rk c E F H r b:=by
 cases r with
 | bad=>exact h
 | ok a=>exact i a rfl h
 | ex e=>exact h
def Rk.bind{F:Hp}{r:R α}{f:α->R β}{k:β->Prop}(h:Rk c E F H (r.bind f) k):Rk c E F H r fun a=>Rk c E F H (f a) k:=by
 cases r with
 | bad=>exact h
 | ok a=>exact h
 | ex e=>exact h
def Rk.ext{F b H':Hp}{r:R α}{k:α->Prop}(e:Ext F H b H')(h:Rk c E F H r k):Rk c E b H' r k:=by
 cases r with
 | bad=>exact h
 | ok a=>exact h
 | ex x=>exact h
end
def yA{α:Type}(Rel:VR α):Prop:=∀ d v H H1 F' H',aH H H1->Rel d v H1 F' H'->Rel d v H F' H'
def mJ(c:Ct):yA (bW c):=fun _ _ _ _ _ _ _ h=>h
def aPL(c:Ct):yA (rS c):=fun _ _ _ _ _ _ s h=>by
 obtain ⟨p,vs,h1,h2,a⟩:=h
 exact ⟨p,vs,h1,a9 s h2,a⟩
section
variable{X:Cx}{c:Ct}{E:XK}{α β γ:Type}{Ra:VR α}{Rb:VR β}{Rc:VR γ}
def Op1(c:Ct)(Ra:VR α)(Rb:VR β)(g:α->R β)(r:V->Hp->VK->Prop):Prop:=
 ∀ (H0 F H:Hp) (a:α) (b:β) (v:V) (Q:VK),aH F H->Ra a v H0 F H->g a=.ok b->(∀ w F' H',Ext F H F' H'->Rb b w H F' H'->Q w H')->r v H Q
def Op2(c:Ct)(Ra:VR α)(Rb:VR β)(Rc:VR γ)(g:α->β->R γ)(r:R2):Prop:=
 ∀ (H0 H1 F H:Hp) (a:α) (b:β) (d:γ) (v u:V) (Q:VK),aH F H->Ra a v H0 F H->Rb b u H1 F H->g a b=.ok d->(∀ w F' H',Ext F H F' H'->Rc d w H F' H'->Q w H')->r v u H Q
def tE(g:α->R β):Prop:=∀ a e,g a≠.ex e
def cJ(g:α->β->R γ):Prop:=∀ a b e,g a b≠.ex e
def tV1{f:Sg->R α}{g:α->R β}{r:V->Hp->VK->Prop}(l:Op1 c Ra Rb g r)(k:tE g)(n:yA Rb){σ:L2.St}{H:Hp}{Q:VK}(h:tV Rb c E (fun ρ=>(f ρ).bind g) σ H Q) :
  tV Ra c E f σ H fun v H1=>r v H1 Q:=by
 obtain ⟨ρ,F,ab,h⟩:=h
 refine ⟨ρ,F,ab,(Rk.bind h).imp fun a o q v m H1 e1 i=>?_⟩
 cases eg:g a with
 | bad=>rw[eg] at q;exact q.elim
 | ex e=>exact absurd eg (k a e)
 | ok b=>
  rw[eg] at q
  exact l H m H1 a b v Q e1.fh i eg fun w j H' e2 d=>q w j H' (e1.trans e2) (n _ _ _ _ _ _ e1.hh d)
def tV2{f:Sg->R α}{j:Sg->R β}{g:α->β->R γ}{r:R2}(A:Op2 c Ra Rb Rc g r)(p:cJ g)(n:aIU Ra)(y:yA Rc){σ:L2.St}{H:Hp}{Q:VK}(h:tV Rc c E (fun ρ=>(f ρ).bind fun a=>(j ρ).bind fun b=>g a b) σ H Q) :
  tOp r (tV Ra c E f) (tV Rb c E j) σ H Q:=by
 obtain ⟨ρ,F,ab,h⟩:=h
 refine ⟨ρ,F,ab,(Rk.bind h).imp fun a B q v t H1 e1 k=>?_⟩
 refine ⟨ρ,t,ab.ext e1,((Rk.bind q).ext e1).imp fun b C q u s H2 e2 l=>?_⟩
 cases eg:g a b with
 | bad=>rw[eg] at q;exact q.elim
 | ex e=>exact absurd eg (p a b e)
 | ok d=>
  rw[eg] at q
  exact A H H1 s H2 a b d v u Q e2.fh (n _ _ _ _ _ _ _ e2 k) l eg fun w m H' e3 i=>q w m H' ((e1.trans e2).trans e3) (y _ _ _ _ _ _ (fun x o z=>e2.hh x o (e1.hh x o z)) i)
end
section
variable{K:Frag}{F H:Hp}{v:V}
def DatV.bl_of{b:Bool}(h:DatV K H v (.bool b)):v=.bl b:=by cases h;rfl
def DatV.non_of(h:DatV K H v .none):v=.non:=by cases h;rfl
def aU.int_of{i:Int}(h:aU K F H v (.int i)):v=.int i:=by
 rcases h with h|⟨_,_,_,_,h,_⟩
 · exact h.int_of
 · cases h
def aU.str_of{i:Str}(h:aU K F H v (.str i)):v=.str i:=by
 rcases h with h|⟨_,_,_,_,h,_⟩
 · exact h.str_of
 · cases h
def aU.bl_of{i:Bool}(h:aU K F H v (.bool i)):v=.bl i:=by
 rcases h with h|⟨_,_,_,_,h,_⟩
 · exact DatV.bl_of h
 · cases h
def aU.non_of(h:aU K F H v .none):v=.non:=by
 rcases h with h|⟨_,_,_,_,h,_⟩
 · exact DatV.non_of h
 · cases h
def aU.tup_of{xs:List D9}(s:aH F H)(h:aU K F H v (.tuple xs)):∃ a vs,v=.ref a/\SqT K F a vs/\SqT K H a vs/\DatVs K F vs xs:=by
 rcases h with h|⟨_,_,_,_,h,_⟩
 .obtain ⟨a,vs,h1,h2,b⟩:=h.tup_of
  exact ⟨a,vs,h1,h2,h2.same s,b⟩
 .cases h
def aU.lst_of{xs:List D9}(s:aH F H)(h:aU K F H v (.list xs)):∃ a vs,v=.ref a/\SqL K H a vs/\DatVs K F vs xs:=by
 rcases h with h|⟨p,vs,ys,h1,h2,b,c⟩
 .obtain ⟨a,vs,h1,h2,b⟩:=h.lst_of
  exact ⟨a,vs,h1,h2.same s,b⟩
 .cases h2
  exact ⟨p,vs,h1,SqL.of b,c⟩
def yB{vs:List V}{xs:List D9}{i:Int}{d:D9}(h:DatVs K F vs xs)(e:atI xs i=some d):∃ x,atI vs i=some x/\DatV K F x d:=by
 unfold atI at e ⊢
 rw[h.length]
 cases q:ixN xs.length i with
 | none=>rw[q] at e;cases e
 | some j=>
  rw[q] at e
  exact h.get' (i:=j) e
end
def eV(i:Nat):Sg->R D9:=fun ρ=>match ρ[i]? with
 | some (some (.d x))=>.ok x
 | _=>.bad
def rV(i:Nat):Sg->R D9:=fun ρ=>match ρ[i]? with
 | some (some (.d x))=>.ok x
 | some (some (.l xs))=>.ok (.list xs)
 | _=>.bad
def vV(i:Nat):Sg->R A:=fun ρ=>match ρ[i]? with
 | some (some (.d x))=>.ok (.d x)
 | some (some (.x e))=>.ok (.x e)
 | some (some (.g k n f))=>.ok (.g k n f)
 | some (some (.f kvs))=>.ok (.f kvs)
 | _=>.bad
def eC(d:D9):Sg->R D9:=fun _=>.ok d
section
variable{X:Cx}{c:Ct}{E:XK}{e a b:Expr}
def bI{i:Nat}(h:PE X e (fN i)):PD X c E e (eV i):=PE.imp h fun σ H Q ⟨ρ,F,ab,k⟩=>by
 unfold eV at k
 split at k
 .rename_i x hx
  obtain ⟨v,h1,h2⟩:=ab.slot i _ hx
  exact ⟨v,h1,k v F H (Ext.refl ab.fh) h2⟩
 .exact k.elim
def aC{i:Nat}(h:PE X e (fN i)):PR X c E e (rV i):=PE.imp h fun σ H Q ⟨ρ,F,ab,k⟩=>by
 unfold rV at k
 split at k
 .rename_i x hx
  obtain ⟨v,h1,h2⟩:=ab.slot i _ hx
  exact ⟨v,h1,k v F H (Ext.refl ab.fh) (.inl h2)⟩
 .rename_i x hx
  obtain ⟨v,h1,p,vs,h2,a,f,d,b⟩:=ab.slot i _ hx
  exact ⟨v,h1,k v F H (Ext.refl ab.fh) (.inr ⟨p,vs,x,h2,rfl,a,b⟩)⟩
 .exact k.elim
def aN{i:Nat}(h:PE X e (fN i)):PV X c E e (vV i):=PE.imp h fun σ H Q ⟨ρ,F,ab,k⟩=>by
 unfold vV at k
 split at k
 .rename_i x hx
  obtain ⟨v,h1,h2⟩:=ab.slot i _ hx
  exact ⟨v,h1,k v F H (Ext.refl ab.fh) h2⟩
 .rename_i x hx
  obtain ⟨v,h1,h2⟩:=ab.slot i _ hx
  exact ⟨v,h1,k v F H (Ext.refl ab.fh) h2⟩
 .rename_i d f b hx
  obtain ⟨v,h1,h2⟩:=ab.slot i _ hx
  exact ⟨v,h1,k v F H (Ext.refl ab.fh) h2⟩
 .rename_i a hx
  obtain ⟨v,h1,h2⟩:=ab.slot i _ hx
  exact ⟨v,h1,k v F H (Ext.refl ab.fh) h2⟩
 .exact k.elim
def lV{v:V}{d:D9}(h:PE X e (tC v))(a:∀ F,DatV c.K F v d):PD X c E e (eC d):=PE.imp h fun σ H Q ⟨ρ,F,ab,k⟩=>k v F H (Ext.refl ab.fh) (a F)
def aD{i j pos}:PD X c E (.Constant (.int i) j pos) (eC (.int i)):=lV xH fun _=>.int i
def dM{i j pos}:PD X c E (.Constant (.bool i) j pos) (eC (.bool i)):=lV aO8 fun _=>.bl i
def eJ{i j pos}:PD X c E (.Constant (.str i) j pos) (eC (.str i)):=lV aMB fun _=>.str i
def nE{j pos}:PD X c E (.Constant .none j pos) (eC .none):=lV aMA fun _=>.non
def aA{f:Sg->R D9}(h:PD X c E e f):PR X c E e f:=PE.imp h fun σ H Q ⟨ρ,F,ab,k⟩=>⟨ρ,F,ab,k.imp fun d _ q v a H' s r=>q v a H' s (.inl r)⟩
def vD(f:Sg->R D9):Sg->R A:=fun ρ=>(f ρ).bind fun x=>.ok (.d x)
def aS{f:Sg->R D9}(h:PD X c E e f):PV X c E e (vD f):=PE.imp h fun σ H Q ⟨ρ,F,ab,k⟩=>⟨ρ,F,ab,(Rk.bind k).imp fun d _ q v a H' s r=>Rk.ok q v a H' s r⟩
def getD:A->R D9
 | .d x=>.ok x
 | _=>.bad
def eA(f:Sg->R A):Sg->R D9:=fun ρ=>(f ρ).bind getD
def cY{f:Sg->R A}(h:PV X c E e f):PD X c E e (eA f):=PE.imp h fun σ H Q ⟨ρ,F,ab,k⟩=>⟨ρ,F,ab,(Rk.bind k).imp fun d _ q v a H' s r=>by
 cases d with
 | d x=>exact Rk.ok q v a H' s r
 | _=>exact False.elim q⟩
def eL(f:Sg->R (List D9)):Sg->R D9:=fun ρ=>(f ρ).bind fun xs=>.ok (.list xs)
def fJ{f:Sg->R (List D9)}(h:PN X c E e f):PD X c E e (eL f):=PE.imp h fun σ H Q ⟨ρ,F,ab,k⟩=>⟨ρ,F,ab,(Rk.bind k).imp fun xs _ q v d H' s r=>by
 obtain ⟨p,vs,h1,h2,i,b,g⟩:=r
 subst h1
 refine Rk.ok q (.ref p) (upd d p (.lst vs)) H' ⟨s.hh,fun a o z=>?_,fun a o z=>?_,fun a z n=>?_⟩ (.lst (SqL.of aT) (g.same (aH.upd b)))
 .rw[aG (bC (s.ff a o z) b)];exact s.ff a o z
 .by_cases w:a=p
  · subst w; rw [aT] at z; rw [i]; exact z
  · rw [aG w] at z; exact s.fh a o z
 .by_cases w:a=p
  · subst w; exact .inl h2
  · rw [aG w] at n; exact s.nw a z n⟩
def e1{α β:Type}(g:α->R β)(f:Sg->R α):Sg->R β:=fun ρ=>(f ρ).bind g
def e2{α β γ:Type}(g:α->β->R γ)(f:Sg->R α)(f':Sg->R β):Sg->R γ:=fun ρ=>(f ρ).bind fun x=>(f' ρ).bind fun y=>g x y
def c6:D9->D9->R D9
 | .int i,.int j=>.ok (.int (i+j))
 | .str x,.str y=>if x.length+y.length<=sizeLine then .ok (.str (x++y)) else .bad
 | .tuple xs,.tuple ys=>if xs.isEmpty=false/\xs.length+ys.length<=sizeLine then .ok (.tuple (xs++ys)) else .bad
 | _,_=>.bad
def dSub:D9->D9->R D9
 | .int i,.int j=>.ok (.int (i - j))
 | _,_=>.bad
def dMul:D9->D9->R D9
 | .int i,.int j=>if (-18446744073709551616 < i/\i < 18446744073709551616)\/(-18446744073709551616 < j/\j < 18446744073709551616) then .ok (.int (i * j)) else .bad
 | _,_=>.bad
def dDiv:D9->D9->R D9
 | .int i,.int j=>if 0 < j/\j < 18446744073709551616 then .ok (.int (i / j)) else .bad
 | _,_=>.bad
def dMod:D9->D9->R D9
 | .int i,.int j=>if 0 < j then .ok (.int (i % j)) else .bad
 | _,_=>.bad
def aQY:D9->R D9
 | .int i=>.ok (.int (-i))
 | _=>.bad
def dLt:D9->D9->R D9
 | .int i,.int j=>.ok (.bool (decide (i < j)))
 | _,_=>.bad
def dLe:D9->D9->R D9
 | .int i,.int j=>.ok (.bool (decide (i<=j)))
 | _,_=>.bad
def dGt:D9->D9->R D9
 | .int i,.int j=>.ok (.bool (decide (j < i)))
 | _,_=>.bad
def dGe:D9->D9->R D9
 | .int i,.int j=>.ok (.bool (decide (j<=i)))
 | _,_=>.bad
def dEq(x y:D9):R D9:=if SeqAt.shaped x=true/\SeqAt.shaped y=true then .ok (.bool (PyData.eqv x y)) else .bad
def dNe(x y:D9):R D9:=if SeqAt.shaped x=true/\SeqAt.shaped y=true then .ok (.bool (!PyData.eqv x y)) else .bad
def fU:D9->Bool
 | .none=>true
 | _=>false
def dIs(x y:D9):R D9:=if fU y=true then .ok (.bool (fU x)) else .bad
def aPM(x y:D9):R D9:=if fU y=true then .ok (.bool (!fU x)) else .bad
def inD:D9->D9->Option Bool
 | .str i,.str j=>some (!(Builtin.Str.occurrences j i 0 j.length 1).isEmpty)
 | x,.list xs=>if SeqAt.shaped x=true/\SeqAt.shaped (.list xs)=true then some (xs.any fun y=>PyData.eqv y x) else none
 | x,.tuple xs=>if SeqAt.shaped x=true/\SeqAt.shaped (.tuple xs)=true then some (xs.any fun y=>PyData.eqv y x) else none
 | _,_=>none
def dIn(x y:D9):R D9:=match inD x y with
 | some b=>.ok (.bool b)
 | none=>.bad
def dNin(x y:D9):R D9:=match inD x y with
 | some b=>.ok (.bool (!b))
 | none=>.bad
def dIx:D9->D9->R D9
 | .list xs,.int i=>match atI xs i with
  | some v=>.ok v
  | none=>.bad
 | .tuple xs,.int i=>match atI xs i with
  | some v=>.ok v
  | none=>.bad
 | .str z,.int i=>if z.length<=sizeLine then match atI z.cps.toList i with
  | some u=>.ok (.str ⟨#[u]⟩)
  | none=>.bad else .bad
 | _,_=>.bad
end
section
variable{X:Cx}{c:Ct}{E:XK}{e a b:Expr}{α β γ:Type}{Ra:VR α}{Rb:VR β}{Rc:VR γ}{pos:Pos}
def r2D(Ra:VR α)(Rb:VR β)(Rc:VR γ)(g:α->β->R γ):R2:=fun v u H Q=>∃ H0 H1 F a b d,aH F H/\Ra a v H0 F H/\Rb b u H1 F H/\g a b=.ok d/\∀ w F' H',Ext F H F' H'->Rc d w H F' H'->Q w H'
def r1D(Ra:VR α)(Rb:VR β)(g:α->R β):V->Hp->VK->Prop:=fun v H Q=>∃ H0 F a b,aH F H/\Ra a v H0 F H/\g a=.ok b/\∀ w F' H',Ext F H F' H'->Rb b w H F' H'->Q w H'
def tF{g:α->β->R γ}:Op2 c Ra Rb Rc g (r2D Ra Rb Rc g):=fun e H1 F H a b d v u Q i h j f q=>⟨e,H1,F,a,b,d,i,h,j,f,q⟩
def aCH{g:α->R β}:Op1 c Ra Rb g (r1D Ra Rb g):=fun d F H a b v Q h f e q=>⟨d,F,a,b,h,f,e,q⟩
def aV{op:Operator}{g:D9->D9->R D9}{d fb:Sg->R D9}(j:OpR X (binaryOp op) (r2D (aZ c) (aZ c) (bW c) g))(i:cJ g)(f:PR X c E a d)(e:PR X c E b fb):PD X c E (.BinOp a op b pos) (e2 g d fb):=
 PE.imp (aBW j f e) fun σ H Q h=>tV2 tF i (pA c) (mJ c) h
def lX{op:CmpOp}{g:D9->D9->R D9}{d fb:Sg->R D9}(k:OpR X (compareOp op) (r2D (aZ c) (aZ c) (bW c) g))(i:cJ g)(f:PR X c E a d)(e:PR X c E b fb)(j:behindInMarks op b=false):PD X c E (.Compare a [op] [b] pos) (e2 g d fb):=
 PE.imp (uE k f e j) fun σ H Q h=>tV2 tF i (pA c) (mJ c) h
def aW{g:D9->D9->R D9}{d fb:Sg->R D9}(k:IxR X (r2D (aZ c) (aZ c) (bW c) g))(j:cJ g)(f:PR X c E a d)(e:PR X c E b fb)(i:aAG b:=by exact fun _ _=>rfl):PD X c E (.Subscript a b pos) (e2 g d fb):=
 PE.imp (L2.aB2 k f e i) fun σ H Q h=>tV2 tF j (pA c) (mJ c) h
def cR(D:X.K=c.K):OpR X (binaryOp .Add) (r2D (aZ c) (aZ c) (bW c) c6):=by
 intro pins s σ H v u x y Q I l m h
 obtain ⟨E,H1,F,a,b,d,f,k,o,e,q⟩:=h
 unfold c6 at e
 split at e
 .rename_i i j
  cases e
  obtain rfl:=aU.int_of k
  obtain rfl:=aU.int_of o
  exact aMJ pins s σ H _ _ x y Q I l m ⟨i,j,rfl,rfl,q _ F H (Ext.refl f) (.int _)⟩
 .rename_i i j
  split at e
  .rename_i hz
   cases e
   obtain rfl:=aU.str_of k
   obtain rfl:=aU.str_of o
   exact aBY pins s σ H _ _ x y Q I l m ⟨i,j,rfl,rfl,hz,q _ F H (Ext.refl f) (.str _)⟩
  .cases e
 .rename_i xs ys
  split at e
  .rename_i hz
   cases e
   obtain ⟨A,vs,rfl,B,t,g⟩:=aU.tup_of f k
   obtain ⟨C,us,rfl,fb,r,n⟩:=aU.tup_of f o
   rw[<-D] at t r
   refine aJM pins s σ H _ _ x y Q I l m ⟨A,C,vs,us,rfl,rfl,t,r,?_,by rw[g.length,n.length];exact hz.2,fun z=>?_,fun z p w=>?_⟩
   .intro z;subst z;obtain rfl:xs=[]:=by cases g;rfl
    exact absurd hz.1 (by decide)
   .subst z
    obtain rfl:ys=[]:=by cases n;rfl
    exact q _ F H (Ext.refl f) (by rw[DC];exact .tup B g)
   .exact q _ _ _ (Ext.new f w) (.tup (SqT.of aT) ((g.append n).same (aH.upd (a9 f w))))
  .cases e
 .cases e
def bX:cJ c6:=by
 intro a b e h
 unfold c6 at h
 split at h<;>(try split at h)<;>cases h
def lY{f:V9->V9->Sem V9}{g:D9->D9->R D9}{C:Int->Int->Prop}{k:Int->Int->D9}{kv:Int->Int->V}(t:OpR X f (rI C kv))(p:∀ i j F,DatV c.K F (kv i j) (k i j))
  (z:∀ a b d,g a b=.ok d->∃ i j,a=.int i/\b=.int j/\C i j/\d=k i j):OpR X f (r2D (aZ c) (aZ c) (bW c) g):=by
 intro pins s σ H v u x y Q I m o h
 obtain ⟨A,H1,F,a,b,d,n,l,w,e,q⟩:=h
 obtain ⟨i,j,rfl,rfl,r,rfl⟩:=z a b d e
 obtain rfl:=aU.int_of l
 obtain rfl:=aU.int_of w
 exact t pins s σ H _ _ x y Q I m o ⟨i,j,rfl,rfl,r,q _ F H (Ext.refl n) (p i j F)⟩
def w8{f:V9->V9->Sem V9}{kv:Int->Int->V}(b:OpR X f (rI0 kv)):OpR X f (rI (fun _ _=>True) kv):=fun pins s σ H x y v u Q I a c ⟨i,j,h1,h2,_,q⟩=>b pins s σ H x y v u Q I a c ⟨i,j,h1,h2,q⟩
def aJ6:OpR X (binaryOp .Sub) (r2D (aZ c) (aZ c) (bW c) dSub):=lY (w8 aMK) (fun _ _ _=>.int _) fun a b d h=>by
 unfold dSub at h;split at h
 · cases h; exact ⟨_, _, rfl, rfl, trivial, rfl⟩
 · cases h
def jL:OpR X (binaryOp .Mult) (r2D (aZ c) (aZ c) (bW c) dMul):=lY aML (fun _ _ _=>.int _) fun a b d h=>by
 unfold dMul at h;split at h
 .split at h
  · rename_i e; cases h; exact ⟨_, _, rfl, rfl, e, rfl⟩
  · cases h
 .cases h
def gW:OpR X (binaryOp .FloorDiv) (r2D (aZ c) (aZ c) (bW c) dDiv):=lY aGM (fun _ _ _=>.int _) fun a b d h=>by
 unfold dDiv at h;split at h
 .split at h
  · rename_i e; cases h; exact ⟨_, _, rfl, rfl, e, rfl⟩
  · cases h
 .cases h
def cG:OpR X (binaryOp .Mod) (r2D (aZ c) (aZ c) (bW c) dMod):=lY aMM (fun _ _ _=>.int _) fun a b d h=>by
 unfold dMod at h;split at h
 .split at h
  · rename_i e; cases h; exact ⟨_, _, rfl, rfl, e, rfl⟩
  · cases h
 .cases h
def jV:OpR X (compareOp .Lt) (r2D (aZ c) (aZ c) (bW c) dLt):=lY (w8 aPC) (fun _ _ _=>.bl _) fun a b d h=>by
 unfold dLt at h;split at h
 · cases h; exact ⟨_, _, rfl, rfl, trivial, rfl⟩
 · cases h
def tG:OpR X (compareOp .LtE) (r2D (aZ c) (aZ c) (bW c) dLe):=lY (w8 aPD) (fun _ _ _=>.bl _) fun a b d h=>by
 unfold dLe at h;split at h
 · cases h; exact ⟨_, _, rfl, rfl, trivial, rfl⟩
 · cases h
def aM6:OpR X (compareOp .Gt) (r2D (aZ c) (aZ c) (bW c) dGt):=lY (w8 aPE) (fun _ _ _=>.bl _) fun a b d h=>by
 unfold dGt at h;split at h
 · cases h; exact ⟨_, _, rfl, rfl, trivial, rfl⟩
 · cases h
def aEK:cJ dSub:=by intro a b e h;unfold dSub at h;split at h<;>cases h
def gD:cJ dMul:=by intro a b e h;unfold dMul at h;split at h<;>(try split at h)<;>cases h
def eW:cJ dDiv:=by intro a b e h;unfold dDiv at h;split at h<;>(try split at h)<;>cases h
def bO:cJ dMod:=by intro a b e h;unfold dMod at h;split at h<;>(try split at h)<;>cases h
def gK:cJ dLt:=by intro a b e h;unfold dLt at h;split at h<;>cases h
def oA:cJ dLe:=by intro a b e h;unfold dLe at h;split at h<;>cases h
def aGX:cJ dGt:=by intro a b e h;unfold dGt at h;split at h<;>cases h
def fP:cJ dEq:=by intro a b e h;unfold dEq at h;split at h<;>cases h
def fB:cJ dNe:=by intro a b e h;unfold dNe at h;split at h<;>cases h
def rT:cJ dIs:=by intro a b e h;unfold dIs at h;split at h<;>cases h
def aGY:cJ dIn:=by intro a b e h;unfold dIn at h;split at h<;>cases h
def aEL:cJ dNin:=by intro a b e h;unfold dNin at h;split at h<;>cases h
def aK:cJ dIx:=by
 intro a b e h
 unfold dIx at h
 split at h<;>(try split at h)<;>(try split at h)<;>cases h
def iY(i:X.K=c.K)(m:X.A.units+64 < cLine):OpR X (compareOp .Eq) (r2D (aZ c) (aZ c) (bW c) dEq):=by
 intro pins s σ H v u x y Q I k l h
 obtain ⟨o,H1,F,a,b,d,f,j,n,e,q⟩:=h
 unfold dEq at e
 split at e
 .rename_i g
  cases e
  exact aMX m pins s σ H _ _ x y Q I k l ⟨a,b,by rw[i];exact aU.heap f j,by rw[i];exact aU.heap f n,g.1,g.2,q _ F H (Ext.refl f) (.bl _)⟩
 .cases e
def iF(i:X.K=c.K)(m:X.A.units+64 < cLine):OpR X (compareOp .NotEq) (r2D (aZ c) (aZ c) (bW c) dNe):=by
 intro pins s σ H v u x y Q I k l h
 obtain ⟨o,H1,F,a,b,d,f,j,n,e,q⟩:=h
 unfold dNe at e
 split at e
 .rename_i g
  cases e
  exact aMY m pins s σ H _ _ x y Q I k l ⟨a,b,by rw[i];exact aU.heap f j,by rw[i];exact aU.heap f n,g.1,g.2,q _ F H (Ext.refl f) (.bl _)⟩
 .cases e
def wD{K:Frag}{F H:Hp}{v:V}{d:D9}(h:aU K F H v d):decide (v=.non)=fU d:=by
 rcases h with h|⟨p,vs,xs,h1,h2,_⟩
 · cases h <;> rfl
 · subst h1 h2; rfl
def yC:OpR X (compareOp .Is) (r2D (aZ c) (aZ c) (bW c) dIs):=by
 intro pins s σ H v u x y Q I g j h
 obtain ⟨m,H1,F,a,b,d,i,f,l,e,q⟩:=h
 unfold dIs at e
 split at e
 .rename_i k
  cases e
  have e2:=wD l
  rw[k] at e2
  refine aMN pins s σ H _ _ x y Q I g j ⟨BA e2,q _ F H (Ext.refl i) ?_⟩
  rw[wD f];exact .bl _
 .cases e
def tH{xs:List D9}(h:SeqAt.shaped (.list xs)=true):PyData.canLayAll0 xs=true/\PyData.depthAll xs<=63:=by
 have h':(PyData.canLay0 (.list xs) && decide ((PyData.list xs).depth<=64))=true:=h
 rw[AM] at h'
 have a:PyData.depthAll xs+1<=64:=BA h'.2
 exact ⟨h'.1,by omega⟩
def rE{xs:List D9}(h:SeqAt.shaped (.tuple xs)=true):PyData.canLayAll0 xs=true/\PyData.depthAll xs<=63:=by
 have h':(PyData.canLay0 (.tuple xs) && decide ((PyData.tuple xs).depth<=64))=true:=h
 rw[AM] at h'
 have a:PyData.depthAll xs+1<=64:=BA h'.2
 exact ⟨h'.1,by omega⟩
def k7{d:D9}(h:SeqAt.shaped d=true):d.canLay0=true:=by
 have h':(PyData.canLay0 d && decide (d.depth<=64))=true:=h
 rw[AM] at h'
 exact h'.1
def inD_cases{x y:D9}{b:Bool}(h:inD x y=some b):(∃ i j,x=.str i/\y=.str j/\b = !(Builtin.Str.occurrences j i 0 j.length 1).isEmpty) \/
  (∃ xs,y=.list xs/\SeqAt.shaped x=true/\SeqAt.shaped (.list xs)=true/\b=xs.any fun z=>PyData.eqv z x)\/(∃ xs,y=.tuple xs/\SeqAt.shaped x=true/\SeqAt.shaped (.tuple xs)=true/\b=xs.any fun z=>PyData.eqv z x):=by
 unfold inD at h
 split at h
 .cases h;exact .inl ⟨_,_,rfl,rfl,rfl⟩
 .split at h
  · rename_i a; cases h; exact .inr (.inl ⟨_, rfl, a.1, a.2, rfl⟩)
  · cases h
 .split at h
  · rename_i a; cases h; exact .inr (.inr ⟨_, rfl, a.1, a.2, rfl⟩)
  · cases h
 .cases h
def oB{a b:Nat}(h:a<=63):min a b<=63:=A6 (E7 _ _) h
def aM7(k:X.K=c.K)(z:X.A.units+64 < cLine):OpR X (compareOp .In) (r2D (aZ c) (aZ c) (bW c) dIn):=by
 intro pins s σ H v u x y Q I m n h
 obtain ⟨w,H1,F,a,b,d,e,l,o,g,q⟩:=h
 unfold dIn at g
 split at g
 .rename_i bb r
  cases g
  have fin:EP X pins σ Q (.bool bb) s:=⟨.bl bb,H,I,rfl,q _ F H (Ext.refl e) (.bl _)⟩
  rcases inD_cases r with ⟨i,j,rfl,rfl,rfl⟩|⟨xs,rfl,h1,h2,rfl⟩|⟨xs,rfl,h1,h2,rfl⟩
  .obtain rfl:=aU.str_of l
   obtain rfl:=aU.str_of o
   exact aDI pins s σ H _ _ x y Q I m n ⟨i,j,rfl,rfl,q _ F H (Ext.refl e) (.bl _)⟩
  .obtain ⟨p,r1⟩:=DatV.reads I (by rw[k];exact aU.heap e l) m
   obtain ⟨bs,r2⟩:=DatV.reads I (by rw[k];exact aU.heap e o) n
   have f:=tH h2
   have t:=oB (b:=a.depth) f.2
   exact SeqAt.in_list_reads r2 r1 f.1 (k7 h1) (by omega) fin
  .obtain ⟨p,r1⟩:=DatV.reads I (by rw[k];exact aU.heap e l) m
   obtain ⟨bs,r2⟩:=DatV.reads I (by rw[k];exact aU.heap e o) n
   have f:=rE h2
   have t:=oB (b:=a.depth) f.2
   exact SeqAt.in_tuple_reads r2 r1 f.1 (k7 h1) (by omega) fin
 .cases g
def aJ7(k:X.K=c.K)(z:X.A.units+64 < cLine):OpR X (compareOp .NotIn) (r2D (aZ c) (aZ c) (bW c) dNin):=by
 intro pins s σ H v u x y Q I m n h
 obtain ⟨w,H1,F,a,b,d,e,l,o,g,q⟩:=h
 unfold dNin at g
 split at g
 .rename_i bb r
  cases g
  have fin:EP X pins σ Q (.bool (!bb)) s:=⟨.bl (!bb),H,I,rfl,q _ F H (Ext.refl e) (.bl _)⟩
  rcases inD_cases r with ⟨i,j,rfl,rfl,rfl⟩|⟨xs,rfl,h1,h2,rfl⟩|⟨xs,rfl,h1,h2,rfl⟩
  .obtain rfl:=aU.str_of l
   obtain rfl:=aU.str_of o
   exact xJ pins s σ H _ _ x y Q I m n ⟨i,j,rfl,rfl,q _ F H (Ext.refl e) (.bl _)⟩
  .obtain ⟨p,r1⟩:=DatV.reads I (by rw[k];exact aU.heap e l) m
   obtain ⟨bs,r2⟩:=DatV.reads I (by rw[k];exact aU.heap e o) n
   have f:=tH h2
   have t:=oB (b:=a.depth) f.2
   exact SeqAt.notIn_list_reads r2 r1 f.1 (k7 h1) (by omega) fin
  .obtain ⟨p,r1⟩:=DatV.reads I (by rw[k];exact aU.heap e l) m
   obtain ⟨bs,r2⟩:=DatV.reads I (by rw[k];exact aU.heap e o) n
   have f:=rE h2
   have t:=oB (b:=a.depth) f.2
   exact SeqAt.notIn_tuple_reads r2 r1 f.1 (k7 h1) (by omega) fin
 .cases g
def aX(A:X.K=c.K):IxR X (r2D (aZ c) (aZ c) (bW c) dIx):=by
 intro e f pins s σ H v u x y Q I m n h o
 obtain ⟨B,H1,F,a,b,d,j,k,t,g,q⟩:=h
 unfold dIx at g
 split at g
 .rename_i xs i
  split at g
  .rename_i w hw
   cases g
   obtain ⟨p,vs,rfl,h1,h2⟩:=aU.lst_of j k
   obtain rfl:=aU.int_of t
   obtain ⟨z,r,l⟩:=yB h2 hw
   rw[<-A] at h1
   exact aAH e f pins s σ H _ _ x y Q I m n ⟨p,vs,i,z,rfl,rfl,h1,r,q _ F H (Ext.refl j) l⟩ o
  .cases g
 .rename_i xs i
  split at g
  .rename_i w hw
   cases g
   obtain ⟨p,vs,rfl,_,h1,h2⟩:=aU.tup_of j k
   obtain rfl:=aU.int_of t
   obtain ⟨z,r,l⟩:=yB h2 hw
   rw[<-A] at h1
   exact aDP e f pins s σ H _ _ x y Q I m n ⟨p,vs,i,z,rfl,rfl,h1,r,q _ F H (Ext.refl j) l⟩ o
  .cases g
 .rename_i z i
  split at g
  .rename_i hz
   split at g
   .rename_i w hw
    cases g
    obtain rfl:=aU.str_of k
    obtain rfl:=aU.int_of t
    exact aDQ e f pins s σ H _ _ x y Q I m n ⟨z,i,w,rfl,rfl,hz,hw,q _ F H (Ext.refl j) (.str _)⟩ o
   .cases g
  .cases g
 .cases g
def tTf(c:Ct)(E:XK)(f:Sg->R Bool):TT:=fun σ H Q=>∃ ρ F,Ab c ρ σ F H/\Rk c E F H (f ρ) fun b=>∀ F' H',Ext F H F' H'->Q b H'
abbrev PTf(X:Cx)(c:Ct)(E:XK)(e:Expr)(f:Sg->R Bool):Prop:=PT X e (tTf c E f)
def asB:D9->R Bool
 | .bool b=>.ok b
 | _=>.bad
def qI{f:Sg->R D9}{σ:L2.St}{H:Hp}{Q:Bool->Hp->Prop}(h:tTf c E (e1 asB f) σ H Q):tV (bW c) c E f σ H fun x H'=>∃ k,x=.bl k/\Q k H':=by
 obtain ⟨ρ,F,ab,h⟩:=h
 refine ⟨ρ,F,ab,(Rk.bind h).imp fun d _ q v a H' s r=>?_⟩
 cases d with
 | bool b=>exact ⟨b,DatV.bl_of r,Rk.ok q a H' s⟩
 | _=>exact False.elim q
def cE{op:CmpOp}{g:D9->D9->R D9}{d fb:Sg->R D9}(k:OpR X (compareOp op) (r2D (aZ c) (aZ c) (bW c) g))(i:cJ g)(f:PR X c E a d)(e:PR X c E b fb)(j:behindInMarks op b=false):PTf X c E (.Compare a [op] [b] pos) (e1 asB (e2 g d fb)):=
 PT.imp (qE k f e j) fun σ H Q h=>tV2 tF i (pA c) (mJ c) (qI h)
def gP{f:Sg->R D9}(h:PD X c E e f)(a:∀ whole,isTrue e X.env whole=(do let v <-whole;standAt e.pos;holding [v] (truthy v)):=by intro _;rfl):PTf X c E e (e1 asB f):=
 PT.imp (L2.gP h a) fun σ H Q h=>qI h
def oC(f g:Sg->R Bool):Sg->R Bool:=fun ρ=>(f ρ).bind fun b=>if b=true then g ρ else .ok false
def bOr(f g:Sg->R Bool):Sg->R Bool:=fun ρ=>(f ρ).bind fun b=>if b=true then .ok true else g ρ
def iU(f:Sg->R Bool):Sg->R Bool:=fun ρ=>(f ρ).bind fun b=>.ok (!b)
abbrev PWf(X:Cx)(c:Ct)(E:XK)(e:Expr)(f:Sg->R Bool):Prop:=PW X e (tTf c E f)
def PW.imp{X:Cx}{e:Expr}{t t':TT}(h:PW X e t)(i:∀ σ H Q,t' σ H Q->t σ H Q):PW X e t':=fun a pins s σ H Q I q=>h a pins s σ H Q I (i σ H Q q)
def aQZ{f g:Sg->R Bool}{σ:L2.St}{H:Hp}{Q:Bool->Hp->Prop}(h:tTf c E (oC f g) σ H Q):aMC (tTf c E f) (tTf c E g) σ H Q:=by
 obtain ⟨ρ,F,ab,h⟩:=h
 refine ⟨ρ,F,ab,(Rk.bind h).imp fun b _ q a H' s=>?_⟩
 cases b with
 | true=>exact ⟨ρ,a,ab.ext s,(Rk.ext s q).imp fun d _ z i H2 e=>z i H2 (s.trans e)⟩
 | false=>exact Rk.ok q a H' s
def tor{f g:Sg->R Bool}{σ:L2.St}{H:Hp}{Q:Bool->Hp->Prop}(h:tTf c E (bOr f g) σ H Q):tOr (tTf c E f) (tTf c E g) σ H Q:=by
 obtain ⟨ρ,F,ab,h⟩:=h
 refine ⟨ρ,F,ab,(Rk.bind h).imp fun b _ q a H' s=>?_⟩
 cases b with
 | false=>exact ⟨ρ,a,ab.ext s,(Rk.ext s q).imp fun d _ z i H2 e=>z i H2 (s.trans e)⟩
 | true=>exact Rk.ok q a H' s
def lE{f:Sg->R Bool}(h:PTf X c E a f):PWf X c E (.BoolOp .And [a] pos) f:=L2.lE h
def jR{f:Sg->R Bool}(h:PTf X c E a f):PWf X c E (.BoolOp .Or [a] pos) f:=L2.jR h
def mY{f g:Sg->R Bool}{rest:List Expr}(h:PTf X c E a f)(h2:PWf X c E (.BoolOp .And (b::rest) pos) g):PWf X c E (.BoolOp .And (a::b::rest) pos) (oC f g):=PW.imp (L2.mY h h2) fun _ _ _ q=>aQZ q
def jS{f g:Sg->R Bool}{rest:List Expr}(h:PTf X c E a f)(h2:PWf X c E (.BoolOp .Or (b::rest) pos) g):PWf X c E (.BoolOp .Or (a::b::rest) pos) (bOr f g):=PW.imp (L2.jS h h2) fun _ _ _ q=>tor q
def fY{f:Sg->R Bool}(h:PTf X c E a f):PTf X c E (.UnaryOp .Not a pos) (iU f):=PT.imp (L2.fY h) fun σ H Q ⟨ρ,F,ab,k⟩=>⟨ρ,F,ab,(Rk.bind k).imp fun b _ q d H' s=>Rk.ok q d H' s⟩
def pB(f g:Sg->R D9):Sg->R D9:=fun ρ=>(f ρ).bind fun x=>(asB x).bind fun b=>if b=true then g ρ else .ok (.bool false)
def eOr(f g:Sg->R D9):Sg->R D9:=fun ρ=>(f ρ).bind fun x=>(asB x).bind fun b=>if b=true then .ok (.bool true) else g ρ
def aGZ(f:Sg->R D9):Sg->R D9:=fun ρ=>(f ρ).bind fun x=>(asB x).bind fun b=>.ok (.bool (!b))
def eIf{α:Type}(t:Sg->R Bool)(f g:Sg->R α):Sg->R α:=fun ρ=>(t ρ).bind fun b=>if b=true then f ρ else g ρ
def pC{op}{f:Sg->R D9}(h:PD X c E a f):PD X c E (.BoolOp op [a] pos) f:=aMD h
def nF{f g:Sg->R D9}{rest:List Expr}(h:PD X c E a f)(h2:PD X c E (.BoolOp .And (b::rest) pos) g):PD X c E (.BoolOp .And (a::b::rest) pos) (pB f g):=PE.imp (aME h h2) fun σ H Q e=>by
 obtain ⟨ρ,F,ab,k⟩:=e
 refine ⟨ρ,F,ab,(Rk.bind k).imp fun d _ q v i H' s r=>?_⟩
 cases d with
 | bool b=>
  refine ⟨b,DatV.bl_of r,?_⟩
  cases b with
  | true=>exact rP ⟨ρ,i,ab.ext s,(Rk.ext s q).imp fun d _ z v j H2 l=>z v j H2 (s.trans l)⟩
  | false=>exact rO (Rk.ok q (.bl false) i H' s (.bl false))
 | _=>exact False.elim q
def aM8{f:Sg->R D9}(h:PD X c E a f):PD X c E (.UnaryOp .Not a pos) (aGZ f):=PE.imp (aMF h) fun σ H Q e=>by
 obtain ⟨ρ,F,ab,k⟩:=e
 refine ⟨ρ,F,ab,(Rk.bind k).imp fun d _ q v g H' s r=>?_⟩
 cases d with
 | bool b=>exact ⟨b,DatV.bl_of r,Rk.ok q _ g H' s (.bl _)⟩
 | _=>exact False.elim q
def aPN{t:Sg->R Bool}{f g:Sg->R D9}{q:Expr}(m:PTf X c E q t)(h:PD X c E a f)(h2:PD X c E b g):PD X c E (.IfExp q a b pos) (eIf t f g):=PE.imp (aF6 m h h2) fun σ H Q e=>by
 obtain ⟨ρ,F,ab,k⟩:=e
 refine ⟨ρ,F,ab,(Rk.bind k).imp fun b _ q l H' s=>?_⟩
 cases b with
 | true=>exact rP ⟨ρ,l,ab.ext s,(Rk.ext s q).imp fun d _ z v j H2 i=>z v j H2 (s.trans i)⟩
 | false=>exact rO ⟨ρ,l,ab.ext s,(Rk.ext s q).imp fun d _ z v j H2 i=>z v j H2 (s.trans i)⟩
def eCh(g g':D9->D9->R D9)(fa fb fc:Sg->R D9):Sg->R D9:=fun ρ=>(fa ρ).bind fun x=>(fb ρ).bind fun y=>(g x y).bind fun z=>(asB z).bind fun k=>if k=true then (fc ρ).bind fun w=>g' y w else .ok (.bool false)
def aEM{g g':D9->D9->R D9}(I:cJ g)(f:cJ g'){o fb j:Sg->R D9}{σ:L2.St}{H:Hp}{Q:VK}(h:tV (bW c) c E (eCh g g' o fb j) σ H Q) :
  tChain (r2D (aZ c) (aZ c) (bW c) g) (r2D (aZ c) (aZ c) (bW c) g') (tV (aZ c) c E o) (tV (aZ c) c E fb) (tV (aZ c) c E j) σ H Q:=by
 obtain ⟨ρ,F,ab,h⟩:=h
 refine ⟨ρ,F,ab,(Rk.bind h).imp fun x _ q v C H1 s1 s=>?_⟩
 refine ⟨ρ,C,ab.ext s1,((Rk.bind q).ext s1).imp fun y _ q u t H2 m n=>?_⟩
 cases eg:g x y with
 | bad=>rw[eg] at q;exact q.elim
 | ex e=>exact absurd eg (I x y e)
 | ok z=>
  rw[eg] at q
  refine ⟨H,H1,t,x,y,z,m.fh,aU.ext m s,n,eg,fun w p H3 r b=>?_⟩
  have a:=(s1.trans m).trans r
  cases z with
  | bool k=>
   refine ⟨k,DatV.bl_of b,?_⟩
   cases k with
   | false=>exact rO (Rk.ok q (.bl false) p H3 a (.bl false))
   | true=>
    have D:Rk c E F H ((j ρ).bind fun w=>g' y w) (fun d=>∀ v F' H',Ext F H F' H'->bW c d v H F' H'->Q v H'):=q
    refine rP ⟨ρ,p,ab.ext a,((Rk.bind D).ext a).imp fun w _ q L A H4 l i=>?_⟩
    cases eg2:g' y w with
    | bad=>rw[eg2] at q;exact q.elim
    | ex e=>exact absurd eg2 (f y w e)
    | ok z2=>
     rw[eg2] at q
     exact ⟨H1,H3,A,y,w,z2,l.fh,aU.ext (r.trans l) n,i,eg2,fun K J H5 B G=>Rk.ok q K J H5 ((a.trans l).trans B) G⟩
  | _=>exact False.elim q
def yD{op d:CmpOp}{g g':D9->D9->R D9}{e:Expr}{j fb k:Sg->R D9}(q:OpR X (compareOp op) (r2D (aZ c) (aZ c) (bW c) g))(p:cJ g)(f:OpR X (compareOp d) (r2D (aZ c) (aZ c) (bW c) g'))(i:cJ g')
  (n:PR X c E a j) (l:PR X c E b fb) (m:PR X c E e k) (o:lastMarks [op,d] [b,e]=false:=by with_unfolding_all rfl):PD X c E (.Compare a [op,d] [b,e] pos) (eCh g g' j fb k):=
 PE.imp (aGE q f n l m o) fun σ H Q h=>aEM p i h
def nU{op d:CmpOp}{g g':D9->D9->R D9}{e:Expr}{j fb k:Sg->R D9}(q:OpR X (compareOp op) (r2D (aZ c) (aZ c) (bW c) g))(p:cJ g)(f:OpR X (compareOp d) (r2D (aZ c) (aZ c) (bW c) g'))(i:cJ g')
  (n:PR X c E a j) (l:PR X c E b fb) (m:PR X c E e k) (o:lastMarks [op,d] [b,e]=false:=by with_unfolding_all rfl):PTf X c E (.Compare a [op,d] [b,e] pos) (e1 asB (eCh g g' j fb k)):=
 PT.imp (L2.nU q f n l m o) fun σ H Q h=>aEM p i (qI h)
end
def AFs(g:Gb)(K:Frag)(mg:Str->Option V9)(F:Hp):List A->List V->Prop
 | [],[]=>True
 | a::as,v::vs=>AF g K mg F a v/\AFs g K mg F as vs
 | _,_=>False
theorem AFs.same{g:Gb}{K:Frag}{mg:Str->Option V9}{F F':Hp}(s:aH F F'):∀ {as:List A} {vs:List V},AFs g K mg F as vs->AFs g K mg F' as vs
 | [],[],_=>trivial
 | a::as,v::vs,h=>⟨AF.same s h.1,AFs.same s h.2⟩
theorem AFs.len{g:Gb}{K:Frag}{mg:Str->Option V9}{F:Hp}:∀ {as:List A} {vs:List V},AFs g K mg F as vs->vs.length=as.length
 | [],[],_=>rfl
 | a::as,v::vs,h=>by rw[BI,BI,AFs.len h.2]
def PA.imp{X:Cx}{es:List Expr}{t t':TA}(h:PA X es t)(i:∀ σ H Q,t' σ H Q->t σ H Q):PA X es t':=fun pos pins s σ H Q I q=>h pos pins s σ H Q I (i σ H Q q)
def tAd(c:Ct)(E:XK)(f:Sg->R (List D9)):TA:=fun σ H Q=>∃ ρ F,Ab c ρ σ F H/\Rk c E F H (f ρ) fun ds=>∀ vs F' H',Ext F H F' H'->DatVs c.K F' vs ds->Q vs H'
def tAv(c:Ct)(E:XK)(f:Sg->R (List A)):TA:=fun σ H Q=>∃ ρ F,Ab c ρ σ F H/\Rk c E F H (f ρ) fun ds=>∀ vs F' H',Ext F H F' H'->AFs c.g c.K c.mg F' ds vs->Q vs H'
abbrev PAd(X:Cx)(c:Ct)(E:XK)(es:List Expr)(f:Sg->R (List D9)):Prop:=PA X es (tAd c E f)
abbrev PAv(X:Cx)(c:Ct)(E:XK)(es:List Expr)(f:Sg->R (List A)):Prop:=PA X es (tAv c E f)
def aR{α:Type}:Sg->R (List α):=fun _=>.ok []
def aB{α:Type}(f:Sg->R α)(g:Sg->R (List α)):Sg->R (List α):=fun ρ=>(f ρ).bind fun x=>(g ρ).bind fun xs=>.ok (x::xs)
section
variable{X:Cx}{c:Ct}{E:XK}{e a b:Expr}{es:List Expr}{pos:Pos}
def bE:PAd X c E [] aR:=PA.imp aQ fun σ H Q ⟨ρ,F,ab,k⟩=>Rk.ok k [] F H (Ext.refl ab.fh) .nil
def bH:PAv X c E [] aR:=PA.imp aQ fun σ H Q ⟨ρ,F,ab,k⟩=>Rk.ok k [] F H (Ext.refl ab.fh) trivial
def aO{f:Sg->R D9}{g:Sg->R (List D9)}(h:PD X c E e f)(h2:PAd X c E es g)(d:starEach (e::es) X.env=(false,eval e X.env)::starEach es X.env:=by rfl):PAd X c E (e::es) (aB f g):=PA.imp (aJ h h2 d) fun σ H Q a=>by
 obtain ⟨ρ,F,ab,k⟩:=a
 refine ⟨ρ,F,ab,(Rk.bind k).imp fun x _ q v j H1 s1 r1=>⟨ρ,j,ab.ext s1,((Rk.bind q).ext s1).imp fun xs _ q vs i H2 b r2=>?_⟩⟩
 exact Rk.ok q (v::vs) i H2 (s1.trans b) (.cons (DatV.same b.ff r1) r2)
def aE{f:Sg->R A}{g:Sg->R (List A)}(h:PV X c E e f)(h2:PAv X c E es g)(d:starEach (e::es) X.env=(false,eval e X.env)::starEach es X.env:=by rfl):PAv X c E (e::es) (aB f g):=PA.imp (aJ h h2 d) fun σ H Q a=>by
 obtain ⟨ρ,F,ab,k⟩:=a
 refine ⟨ρ,F,ab,(Rk.bind k).imp fun x _ q v j H1 s1 r1=>⟨ρ,j,ab.ext s1,((Rk.bind q).ext s1).imp fun xs _ q vs i H2 b r2=>?_⟩⟩
 exact Rk.ok q (v::vs) i H2 (s1.trans b) ⟨AF.same b.ff r1,r2⟩
def dZ(f:Sg->R (List D9)):Sg->R D9:=fun ρ=>(f ρ).bind fun xs=>if xs.length<=16777216 then .ok (.tuple xs) else .bad
def fC(f:Sg->R (List D9)):Sg->R (List D9):=fun ρ=>(f ρ).bind fun xs=>if xs.length<=16777216 then .ok xs else .bad
def cV:sizeLine=16777216:=HV
def dH{x1}{f:Sg->R (List D9)}(h:PAd X c E es f):PD X c E (.Tuple es x1 pos) (dZ f):=PE.imp (aMP h) fun σ H Q a=>by
 obtain ⟨ρ,F,ab,k⟩:=a
 refine ⟨ρ,F,ab,(Rk.bind k).imp fun xs _ q vs d H1 s1 r1=>?_⟩
 by_cases hz:xs.length<=16777216
 .rw[if_pos hz] at q
  refine ⟨by rw[r1.length,cV];exact hz,fun p b=>?_⟩
  exact Rk.ok q (.ref p) _ _ (s1.trans (Ext.new s1.fh b)) (.tup (SqT.of aT) (r1.same (aH.upd (a9 s1.fh b))))
 .rw[if_neg hz] at q;exact q.elim
def dR{f:Sg->R (List D9)}(h:PAd X c E es f):PN X c E (.List es pos) (fC f):=PE.imp (aDM h) fun σ H Q b=>by
 obtain ⟨ρ,F,ab,k⟩:=b
 refine ⟨ρ,F,ab,(Rk.bind k).imp fun xs _ q vs d H1 s1 r1=>?_⟩
 by_cases hz:xs.length<=16777216
 .rw[if_pos hz] at q
  refine ⟨by rw[r1.length,cV];exact hz,fun p a=>?_⟩
  exact Rk.ok q (.ref p) _ _ (s1.trans (Ext.own s1.fh a)) ⟨p,vs,rfl,a9 s1.hh a,aT,a9 s1.fh a,r1⟩
 .rw[if_neg hz] at q;exact q.elim
def dLen:D9->R D9
 | .str z=>if z.length<=16777216 then .ok (.int z.length) else .bad
 | .list xs=>.ok (.int xs.length)
 | .tuple xs=>.ok (.int xs.length)
 | _=>.bad
def plain_len:tE dLen:=by intro a e h;unfold dLen at h;split at h<;>(try split at h)<;>cases h
def cQ{j:Sg->R D9}(l:X.K=c.K)(h0:PE X e (tCB (fun xs H Q=>∃ x n,xs=[x]/\aMO X.K x H n/\Q (.int n) H) (cT (tV (aZ c) c E j) fO))):PD X c E e (e1 dLen j):=
 PE.imp h0 fun σ H Q h=>by
  obtain ⟨ρ,F,ab,k⟩:=tV1 (Ra:=aZ c) aCH plain_len (mJ c) h
  refine ⟨ρ,F,ab,k.imp fun d _ q v m H' s r=>?_⟩
  obtain ⟨o,i,a,d',f,g,b,q⟩:=q v m H' s r
  unfold dLen at b
  split at b
  .rename_i z
   split at b
   .rename_i hz
    cases b
    obtain rfl:=aU.str_of g
    exact ⟨_,_,rfl,⟨by rw[cV];exact hz,rfl⟩,q _ i H' (Ext.refl f) (.int _)⟩
   .cases b
  .cases b
   obtain ⟨p,vs,rfl,h1,h2⟩:=aU.lst_of f g
   rw[<-l] at h1
   exact ⟨_,vs.length,rfl,.inl ⟨vs,h1,rfl⟩,q _ i H' (Ext.refl f) (by rw[h2.length];exact .int _)⟩
  .cases b
   obtain ⟨p,vs,rfl,_,h1,h2⟩:=aU.tup_of f g
   rw[<-l] at h1
   exact ⟨_,vs.length,rfl,.inr ⟨vs,h1,rfl⟩,q _ i H' (Ext.refl f) (by rw[h2.length];exact .int _)⟩
  .cases b
def dTup:D9->R D9
 | .list xs=>.ok (.tuple xs)
 | .tuple xs=>.ok (.tuple xs)
 | _=>.bad
def aEN:tE dTup:=by intro a e h;unfold dTup at h;split at h<;>cases h
def i9{j:Sg->R D9}(m:X.K=c.K)(h0:PE X e (tCB (fun xs H Q=>∃ p ys,xs=[.ref p]/\((SqL X.K H p ys/\∀ l,H l=none->Q (.ref l) (upd H l (.tup ys)))\/(SqT X.K H p ys/\Q (.ref p) H))) (cT (tV (aZ c) c E j) fO))):PD X c E e (e1 dTup j):=
 PE.imp h0 fun σ H Q h=>by
  obtain ⟨ρ,F,ab,k⟩:=tV1 (Ra:=aZ c) aCH aEN (mJ c) h
  refine ⟨ρ,F,ab,k.imp fun d _ q v n H' s r=>?_⟩
  obtain ⟨t,o,a,d',f,g,b,q⟩:=q v n H' s r
  unfold dTup at b
  split at b
  .cases b
   obtain ⟨p,vs,rfl,h1,h2⟩:=aU.lst_of f g
   rw[<-m] at h1
   exact ⟨p,vs,rfl,.inl ⟨h1,fun l i=>q _ _ _ (Ext.new f i) (.tup (SqT.of aT) (h2.same (aH.upd (a9 f i))))⟩⟩
  .cases b
   obtain ⟨p,vs,rfl,f1,h1,h2⟩:=aU.tup_of f g
   rw[<-m] at h1
   exact ⟨p,vs,rfl,.inr ⟨h1,q _ o H' (Ext.refl f) (.tup f1 h2)⟩⟩
  .cases b
def aM9:D9->R (List D9)
 | .list xs=>.ok xs
 | .tuple xs=>.ok xs
 | _=>.bad
def aNA:D9->R D9
 | .int i=>.ok (.int i)
 | .bool b=>.ok (.int (if b=true then 1 else 0))
 | _=>.bad
def oD:List D9->Option (List Bool)
 | []=>some []
 | .bool b::t=>(oD t).map (b :: ·)
 | _=>none
def dAll:D9->R D9
 | .list xs=>match oD xs with
  | some bs=>.ok (.bool (bs.all id))
  | none=>.bad
 | _=>.bad
def aEO:tE dAll:=by intro a e h;unfold dAll at h;split at h<;>(try split at h)<;>cases h
theorem yE{K:Frag}{F:Hp}:∀ {vs:List V} {xs:List D9} {bs:List Bool},DatVs K F vs xs->oD xs=some bs->vs=bs.map V.bl
 | _,_,bs,.nil,e=>by cases e;rfl
 | _,_,bs,.cons (d:=d) (ds:=t) h h2,e=>by
  cases d with
  | bool b=>
   unfold oD at e
   cases q:oD t with
   | none=>rw[q] at e;cases e
   | some cs=>
    rw[q] at e
    cases e
    rw[yE h2 q,DatV.bl_of h];rfl
  | _=>cases e
def aNB{g:Sg->R D9}(m:X.K=c.K)(h0:PE X e (tCB (fun xs H Q=>∃ (a:Az) (bs:List Bool),xs=[.ref a]/\SqL X.K H a (bs.map V.bl)/\Q (.bl (bs.all id)) H) (cT (tV (aZ c) c E g) fO))):PD X c E e (e1 dAll g):=
 PE.imp h0 fun σ H Q h=>by
  obtain ⟨ρ,F,ab,k⟩:=tV1 (Ra:=aZ c) aCH aEO (mJ c) h
  refine ⟨ρ,F,ab,k.imp fun d _ q v l H' s r=>?_⟩
  obtain ⟨o,n,a,d',f,i,b,q⟩:=q v l H' s r
  unfold dAll at b
  split at b
  .split at b
   .rename_i bs j
    cases b
    obtain ⟨p,vs,rfl,h1,h2⟩:=aU.lst_of f i
    rw[<-m] at h1
    obtain rfl:=yE h2 j
    exact ⟨p,bs,rfl,h1,q _ n H' (Ext.refl f) (.bl _)⟩
   .cases b
  .cases b
end
inductive Fw where
 | nx (ρ:Sg)|bk (ρ:Sg)|ct (ρ:Sg)|rt (a:A)
def AR(g:Gb)(K:Frag)(mg:Str->Option V9)(H F' H':Hp):A->V->Prop
 | .l xs,v=>∃ p us,v=.ref p/\H p=none/\H' p=some (.lst us)/\F' p=none/\DatVs K F' us xs
 | a,v=>AF g K mg F' a v
def AR.of{g:Gb}{K:Frag}{mg:Str->Option V9}{H b H':Hp}{a:A}{v:V}(h:AF g K mg b a v):AR g K mg H b H' a v:=by
 cases a with
 | l xs=>exact False.elim h
 | _=>exact h
def g9(c:Ct)(F:Hp)(D:jF):Fw->Prop
 | .nx ρ=>∀ σ' F' H',aH F F'->Ab c ρ σ' F' H'->D.nx σ' H'
 | .bk ρ=>∀ σ' F' H',aH F F'->Ab c ρ σ' F' H'->D.bk σ' H'
 | .ct ρ=>∀ σ' F' H',aH F F'->Ab c ρ σ' F' H'->D.ct σ' H'
 | .rt a=>∀ v F' H',Ext c.F0 c.H0 F' H'->AR c.g c.K c.mg c.H0 F' H' a v->D.rt v H'
theorem g9.same{c:Ct}{F F1:Hp}{D:jF}(s:aH F F1):∀ {w:Fw},g9 c F D w->g9 c F1 D w
 | .nx ρ,h=>fun b d H' s' ab=>h b d H' (fun a o z=>s' a o (s a o z)) ab
 | .bk ρ,h=>fun b d H' s' ab=>h b d H' (fun a o z=>s' a o (s a o z)) ab
 | .ct ρ,h=>fun b d H' s' ab=>h b d H' (fun a o z=>s' a o (s a o z)) ab
 | .rt a,h=>h
def tSf(c:Ct)(E:XK)(f:Sg->R Fw):TS:=fun D σ H=>∃ ρ F,Ab c ρ σ F H/\Rk c E F H (f ρ) (g9 c F D)
abbrev PSf(X:Cx)(c:Ct)(E:XK)(st:Stmt)(f:Sg->R Fw):Prop:=PS X st (tSf c E f)
abbrev jW(X:Cx)(c:Ct)(E:XK)(st:List Stmt)(f:Sg->R Fw):Prop:=PSs X st (tSf c E f)
def get_set{α:Type}{l:List α}{i j:Nat}{x y:α}(h:(l.set i x)[j]? = some y):(i=j/\y=x/\i < l.length)\/(i≠j/\l[j]? = some y):=by
 by_cases e:i=j
 .subst e
  by_cases hl:i < l.length
  · rw [CA hl] at h; exact .inl ⟨rfl, (BZ h).symm, hl⟩
  · rw [E8.mpr (by rw [CG]; omega)] at h; cases h
 .rw[A9 e] at h;exact .inr ⟨e,h⟩
def Ab.setF{c:Ct}{ρ:Sg}{σ:L2.St}{F H:Hp}{i:Nat}{a:A}{v:V}(b:Ab c ρ σ F H)(t:AO c F H a v)(r:a.own=true->∀ (j:Nat) (a':A),j≠i->ρ[j]? = some (some a')->a'.own=true->σ[j]? ≠ some (some v)):Ab c (ρ.set i (some a)) (σ.set i (some v)) F H where
 len:=by rw[CG,CG];exact b.len
 fh:=b.fh
 slot:=fun j a' h=>by
  rcases get_set h with ⟨e,q,m⟩|⟨ne,q⟩
  .subst e
   cases q
   exact ⟨v,CA (by rw[<-b.len];exact m),t⟩
  .rw[A9 ne];exact b.slot j a' q
 apart:=fun j k a' s d h1 h2 n o=>by
  rcases get_set h1 with ⟨e,q,m⟩|⟨ne,q⟩
  .subst e
   cases q
   rcases get_set h2 with ⟨p,g,l⟩|⟨f,g⟩
   .exact absurd p d
   .rw[CA (by rw[<-b.len];exact m),A9 f]
    exact (r n k s (Ne.symm d) g o).symm
  .rcases get_set h2 with ⟨p,g,l⟩|⟨f,g⟩
   .subst p
    cases g
    rw[CA (by rw[<-b.len];exact l),A9 ne]
    exact r o j a' d q n
   .rw[A9 ne,A9 f]
    exact b.apart j k a' s d q g n o
 f0:=b.f0
 h0:=b.h0
 n0:=b.n0
 t0:=b.t0
theorem AO.of{c:Ct}{F H:Hp}:∀ {a:A} {v:V},AF c.g c.K c.mg F a v->AO c F H a v
 | .d x,v,h=>h
 | .x e,v,h=>h
 | .g k n G,v,h=>h
 | .f kvs,v,h=>h
theorem AF.notOwn{g:Gb}{K:Frag}{mg:Str->Option V9}{F:Hp}:∀ {a:A} {v:V},AF g K mg F a v->a.own=false
 | .d x,v,h=>rfl
 | .x e,v,h=>rfl
 | .g k n G,v,h=>rfl
 | .f kvs,v,h=>rfl
def Ab.setA{c:Ct}{ρ:Sg}{σ:L2.St}{F H:Hp}{i:Nat}{a:A}{v:V}(b:Ab c ρ σ F H)(d:AF c.g c.K c.mg F a v):Ab c (ρ.set i (some a)) (σ.set i (some v)) F H:=
 b.setF (AO.of d) fun z=>by rw[AF.notOwn d] at z;cases z
def Ab.setN{c:Ct}{ρ:Sg}{σ:L2.St}{F H d H':Hp}{i:Nat}{xs:List D9}{v:V}(b:Ab c ρ σ F H)(e:Ext F H d H')(h:rS c xs v H d H'):Ab c (ρ.set i (some (.l xs))) (σ.set i (some v)) d H':=by
 obtain ⟨p,vs,rfl,h1,h2,m,g⟩:=h
 refine (b.ext e).setF ⟨p,vs,rfl,h2,m,a9 b.h0 h1,g⟩ fun _ j k _ a n=>?_
 obtain ⟨w,hw,q⟩:=b.slot j k a
 rw[hw]
 intro z
 cases z
 obtain ⟨r,o',o,f,_⟩:=q.at n
 cases o
 rw[h1] at f
 cases f
def Ab.putO{c:Ct}{ρ:Sg}{σ:L2.St}{F H:Hp}{i:Nat}{a u:A}{p:Az}{o:HO}(b:Ab c ρ σ F H)(hi:ρ[i]? = some (some a))(C:a.own=true)(G:σ[i]? = some (some (.ref p)))(N:u.own=true)(T:AO c F (upd H p o) u (.ref p)) :
  Ab c (ρ.set i (some u)) σ F (upd H p o):=by
 obtain ⟨v,h1,q⟩:=b.slot i _ hi
 rw[G] at h1
 cases h1
 obtain ⟨U,o',y,h2,R,M⟩:=q.at C
 cases y
 have t:∀ (j:Nat) (a:A) (w:V),j≠i->ρ[j]? = some (some a)->σ[j]? = some (some w)->AO c F H a w->AO c F (upd H p o) a w:=by
  intro j K w O Q hw s
  by_cases own:K.own=true
  .refine s.off fun z=>?_
   subst z
   exact b.apart j i _ _ O Q hi own C (by rw[hw,G])
  .cases K with
   | l zs=>exact absurd rfl own
   | m zs=>exact absurd rfl own
   | d x=>exact s
   | x e=>exact s
   | g k n f=>exact s
   | k S=>exact s
   | f S=>exact s
 exact {
  len:=by rw[CG];exact b.len
  fh:=fun a o z=>by rw[aG (fun w=>by subst w;rw[R] at z;cases z)];exact b.fh a o z
  slot:=fun j a h=>by
   rcases get_set h with ⟨e,q,P⟩|⟨ne,q⟩
   .subst e
    cases q
    exact ⟨_,G,T⟩
   .obtain ⟨w,hw,s⟩:=b.slot j a q
    exact ⟨w,hw,t j a w (Ne.symm ne) q hw s⟩
  apart:=fun j k u I r h1 h2 J L=>by
   rcases get_set h1 with ⟨e,q,P⟩|⟨ne,q⟩
   .subst e
    cases q
    rcases get_set h2 with ⟨y,B,D⟩|⟨E,B⟩
    .exact absurd y r
    .exact b.apart _ k _ I r hi B C L
   .rcases get_set h2 with ⟨y,B,D⟩|⟨E,B⟩
    .subst y
     exact b.apart j _ u _ r q hi J C
    .exact b.apart j k u I r q B J L
  f0:=b.f0
  h0:=fun a o z=>by rw[aG (fun w=>by subst w;rw[M] at z;cases z)];exact b.h0 a o z
  n0:=b.n0
  t0:=b.t0}
def Ab.putL{c:Ct}{ρ:Sg}{σ:L2.St}{F H:Hp}{i:Nat}{xs ys:List D9}{p:Az}{vs:List V}(b:Ab c ρ σ F H)(hi:ρ[i]? = some (some (.l xs)))(a:σ[i]? = some (some (.ref p)))(f:DatVs c.K F vs ys) :
  Ab c (ρ.set i (some (.l ys))) σ F (upd H p (.lst vs)):=by
 obtain ⟨v,h1,h,us,rfl,h2,e,d,g⟩:=b.slot i _ hi
 rw[a] at h1
 cases h1
 exact b.putO hi rfl a rfl ⟨p,vs,rfl,aT,e,d,f⟩
def Ab.putM{c:Ct}{ρ:Sg}{σ:L2.St}{F H:Hp}{i:Nat}{d a:List (D9×D9)}{p:Az}{es:List Ent}{ep:Nat}(b:Ab c ρ σ F H)(hi:ρ[i]? = some (some (.m d)))(e:σ[i]? = some (some (.ref p)))(g:MapRel c.K F es a) :
  Ab c (ρ.set i (some (.m a))) σ F (upd H p (bZ c.w p es ep)):=by
 obtain ⟨v,h1,k,us,rfl,h2,h,f,j⟩:=b.slot i _ hi
 rw[e] at h1
 cases h1
 exact b.putO hi rfl e rfl ⟨p,es,rfl,⟨ep,aT⟩,h,f,g⟩
def Ab.setM{c:Ct}{ρ:Sg}{σ:L2.St}{F H d H':Hp}{i:Nat}{a:List (D9×D9)}{p:Az}{es:List Ent}{ep:Nat}(b:Ab c ρ σ F H)(e:Ext F H d H')(h1:H p=none)(h2:H' p=some (bZ c.w p es ep))(l:d p=none)(h:MapRel c.K d es a):Ab c (ρ.set i (some (.m a))) (σ.set i (some (.ref p))) d H':=by
 refine (b.ext e).setF ⟨p,es,rfl,⟨ep,h2⟩,l,a9 b.h0 h1,h⟩ fun _ j k _ f n=>?_
 obtain ⟨w,hw,q⟩:=b.slot j k f
 rw[hw]
 intro z
 cases z
 obtain ⟨r,o',o,g,_⟩:=q.at n
 cases o
 rw[h1] at g
 cases g
def fz(i:Nat)(ρ:Sg):Sg:=match ρ[i]? with
 | some (some (.l xs))=>ρ.set i (some (.d (.list xs)))
 | _=>ρ
def Ab.publ{c:Ct}{ρ:Sg}{σ:L2.St}{F H:Hp}{i:Nat}{L B:A}{p:Az}{o:HO}(b:Ab c ρ σ F H)(hi:ρ[i]? = some (some L))(M:σ[i]? = some (some (.ref p)))(P:L.own=true)(h2:H p=some o)(I:F p=none)(u:c.H0 p=none)(N:B.own=false)(X:AO c (upd F p o) H B (.ref p)):Ab c (ρ.set i (some B)) σ (upd F p o) H:=by
 have t:aH F (upd F p o):=aH.upd I
 exact {
  len:=by rw[CG];exact b.len
  fh:=fun a o' z=>by
   by_cases w:a=p
   .subst w;rw[aT] at z;rw[h2];exact z
   .rw[aG w] at z;exact b.fh a o' z
  slot:=fun j a h=>by
   rcases get_set h with ⟨e,q,R⟩|⟨ne,q⟩
   .subst e
    cases q
    exact ⟨_,M,X⟩
   .obtain ⟨w,hw,s⟩:=b.slot j a q
    refine ⟨w,hw,?_⟩
    have off:∀ r,a.own=true->w=.ref r->F r=none->upd F p o r=none:=fun r V e f=>by
     rw[aG]
     .exact f
     .intro z
      subst z
      exact b.apart j i _ _ (Ne.symm ne) q hi V P (by rw[hw,M,e])
    cases a with
    | l zs=>obtain ⟨r,ws,e,D,s,J,v⟩:=s;exact ⟨r,ws,e,D,off r rfl e s,J,v.same t⟩
    | m kvs=>obtain ⟨r,ws,e,D,s,J,v⟩:=s;exact ⟨r,ws,e,D,off r rfl e s,J,v.same t⟩
    | d x=>exact DatV.same t s
    | x e=>exact AF.same (g:=c.g) (K:=c.K) (mg:=c.mg) (a:=.x e) t s
    | g k n f=>exact AF.same (g:=c.g) (K:=c.K) (mg:=c.mg) (a:=.g k n f) t s
    | k S=>obtain ⟨S,f,cl,doc,pm,O,ct,h0,h1,h2,I,u⟩:=s;exact ⟨S,f,cl,doc,pm,O,ct,h0,h1,t _ _ h2,t _ _ I,u⟩
    | f kvs=>exact AF.same (g:=c.g) (K:=c.K) (mg:=c.mg) (a:=.f kvs) t s
  apart:=fun j k Q T y h1 h2 C G=>by
   rcases get_set h1 with ⟨e,q,R⟩|⟨ne,q⟩
   .cases q;rw[N] at C;cases C
   .rcases get_set h2 with ⟨Y,E,U⟩|⟨W,E⟩
    .cases E;rw[N] at G;cases G
    .exact b.apart j k Q T y q E C G
  f0:=fun a o z=>t a o (b.f0 a o z)
  h0:=b.h0
  n0:=fun a z n=>by
   by_cases w:a=p
   .subst w;exact .inl u
   .rw[aG w] at n;exact b.n0 a z n
  t0:=b.t0}
def Ab.frz{c:Ct}{ρ:Sg}{σ:L2.St}{F H:Hp}(b:Ab c ρ σ F H)(i:Nat):∃ F',aH F F'/\Ab c (fz i ρ) σ F' H:=by
 unfold fz
 split
 .rename_i xs hi
  obtain ⟨v,e,p,vs,rfl,h2,a,f,d⟩:=b.slot i _ hi
  exact ⟨_,aH.upd a,b.publ hi e rfl h2 a f rfl (.lst (SqL.of aT) (d.same (aH.upd a)))⟩
 .exact ⟨F,bK F,b⟩
def aPO:D9->D9->R D9
 | .int i,.int j=>.ok (.int (i+j))
 | _,_=>.bad
section
variable{X:Cx}{c:Ct}{E:XK}{e a b:Expr}{st:Stmt}{rest:List Stmt}{pos:Pos}
def sFz(i:Nat)(f:Sg->R Fw):Sg->R Fw:=fun ρ=>f (fz i ρ)
def tJ(i:Nat){f:Sg->R Fw}(h:PSf X c E st f):PSf X c E st (sFz i f):=PS.imp h fun D σ H d=>by
 obtain ⟨ρ,F,ab,k⟩:=d
 obtain ⟨g,s,b⟩:=ab.frz i
 refine ⟨fz i ρ,g,b,?_⟩
 have a:Rk c E F H (f (fz i ρ)) (g9 c F D):=k
 cases q:f (fz i ρ) with
 | bad=>rw[q] at a;exact a
 | ok w=>rw[q] at a;exact g9.same s a
 | ex e=>rw[q] at a;exact a
def sNx:Sg->R Fw:=fun ρ=>.ok (.nx ρ)
def aP(f g:Sg->R Fw):Sg->R Fw:=fun ρ=>(f ρ).bind fun w=>match w with
 | .nx ρ'=>g ρ'
 | w=>.ok w
def b9:jW X c E [] sNx:=PSs.imp L2.b9 fun D σ H ⟨ρ,F,ab,k⟩=>Rk.ok k σ F H (bK F) ab
def aM{f:Sg->R Fw}(h:PSf X c E st f):jW X c E [st] f:=L2.aM h
def aF{f g:Sg->R Fw}(h:PSf X c E st f)(h2:jW X c E rest g):jW X c E (st::rest) (aP f g):=PSs.imp (L2.aF h h2) fun D σ H d=>by
 obtain ⟨ρ,F,ab,k⟩:=d
 refine ⟨ρ,F,ab,(Rk.bind k).imp fun w _ q=>?_⟩
 cases w with
 | nx ρ'=>
  intro l j H' s i
  refine ⟨ρ',j,i,?_⟩
  have b:Rk c E F H (g ρ') (g9 c F D):=q
  cases eg:g ρ' with
  | bad=>rw[eg] at b;exact b
  | ok w=>rw[eg] at b;exact g9.same s b
  | ex e=>rw[eg] at b;exact b
 | bk ρ'=>exact q
 | ct ρ'=>exact q
 | rt a=>exact q
def bU(f:Sg->R A):Sg->R Fw:=fun ρ=>(f ρ).bind fun a=>.ok (.rt a)
def bL{f:Sg->R A}(h:PV X c E e f):PSf X c E (.Return (some e) pos) (bU f):=PS.imp (L2.bL h) fun D σ H ⟨ρ,F,ab,k⟩=>
 ⟨ρ,F,ab,(Rk.bind k).imp fun a _ q v b H' s r=>Rk.ok q v b H' (ab.all.trans s) (AR.of r)⟩
def aPP:Sg->R Fw:=fun _=>.ok (.rt (.d .none))
def sIf(t:Sg->R Bool)(f g:Sg->R Fw):Sg->R Fw:=fun ρ=>(t ρ).bind fun b=>if b=true then f ρ else g ρ
def Rk.fw{F a H H1:Hp}{D:jF}{r:R Fw}(s:aH F a)(k:Rk c E F H r (g9 c F D)):Rk c E a H1 r (g9 c a D):=by
 cases r with
 | bad=>exact k
 | ok w=>exact g9.same s k
 | ex e=>exact k
def cX{q:Expr}{h d:List Stmt}{t:Sg->R Bool}{f g:Sg->R Fw}(j:PTf X c E q t)(l:jW X c E h f)(i:jW X c E d g):PSf X c E (.If q h d pos) (sIf t f g):=PS.imp (L2.cX j l i) fun D σ H a=>by
 obtain ⟨ρ,F,ab,k⟩:=a
 refine ⟨ρ,F,ab,(Rk.bind k).imp fun b _ q e H' s=>?_⟩
 cases b with
 | true=>exact rP ⟨ρ,e,ab.ext s,Rk.fw s.ff q⟩
 | false=>exact rO ⟨ρ,e,ab.ext s,Rk.fw s.ff q⟩
def cB(i:Nat)(f:Sg->R A):Sg->R Fw:=fun ρ=>(f ρ).bind fun a=>.ok (.nx (ρ.set i (some a)))
def aI{i:Nat}{f:Sg->R A}(h:PS X st (iR (tV (aGW c) c E f) (h8 i))):PSf X c E st (cB i f):=PS.imp h fun D σ H ⟨ρ,F,ab,k⟩=>
 ⟨ρ,F,ab,(Rk.bind k).imp fun a _ q v b H' s r=>Rk.ok q _ b H' s.ff ((ab.ext s).setA r)⟩
def eF(i:Nat)(f:Sg->R (List D9)):Sg->R Fw:=fun ρ=>(f ρ).bind fun xs=>.ok (.nx (ρ.set i (some (.l xs))))
def eO{i:Nat}{f:Sg->R (List D9)}(h:PS X st (iR (tV (rS c) c E f) (h8 i))):PSf X c E st (eF i f):=PS.imp h fun D σ H ⟨ρ,F,ab,k⟩=>
 ⟨ρ,F,ab,(Rk.bind k).imp fun a _ q v b H' s r=>Rk.ok q _ b H' s.ff (ab.setN s r)⟩
def aIV(f:Sg->R A):Sg->R Fw:=fun ρ=>(f ρ).bind fun _=>.ok (.nx ρ)
def eN{f:Sg->R A}(h:PS X st (sO (tV (aGW c) c E f))):PSf X c E st (aIV f):=PS.imp h fun D σ H ⟨ρ,F,ab,k⟩=>
 ⟨ρ,F,ab,(Rk.bind k).imp fun a _ q v b H' s r=>Rk.ok q _ b H' s.ff (ab.ext s)⟩
def iG(i:Nat)(f:Sg->R D9):Sg->R Fw:=fun ρ=>match ρ[i]? with
 | some (some (.l xs))=>(f ρ).bind fun x=>if xs.length < 16777216 then .ok (.nx (ρ.set i (some (.l (xs++[x]))))) else .bad
 | _=>.bad
def iH{i:Nat}{f:Sg->R D9}(j:X.K=c.K)(h:PS X st (sO (tBM X.K "list" aAI (fN i) (cT (tV (bW c) c E f) fO)))):PSf X c E st (iG i f):=PS.imp h fun D σ H ⟨ρ,F,ab,k⟩=>by
 unfold iG at k
 split at k
 .rename_i xs hi
  obtain ⟨v,b,p,vs,rfl,h2,g,e,a⟩:=ab.slot i _ hi
  refine ⟨_,b,.inl ⟨rfl,vs,SqL.of h2⟩,ρ,F,ab,(Rk.bind k).imp fun x _ q u d H1 s1 r1=>?_⟩
  by_cases hz:xs.length < 16777216
  .rw[if_pos hz] at q
   refine ⟨p,vs,u,rfl,rfl,s1.hh _ _ h2,by rw[a.length,cV];exact hz,?_⟩
   exact Rk.ok q σ d _ s1.ff ((ab.ext s1).putL hi b ((a.same s1.ff).append (.cons r1 .nil)))
  .rw[if_neg hz] at q;exact q.elim
 .exact k.elim
theorem wE{K:Frag}{F:Hp}{x:V}{d:D9}(h:DatV K F x d):∀ {vs:List V} {xs:List D9} (j:Nat),DatVs K F vs xs->DatVs K F (vs.set j x) (xs.set j d)
 | _,_,_,.nil=>.nil
 | _,_,0,.cons _ t=>.cons h t
 | _,_,j+1,.cons q t=>.cons q (wE h j t)
def aQ0(i:Nat)(g:D9->D9->R D9)(f:Sg->R D9):Sg->R Fw:=fun ρ=>(eV i ρ).bind fun x=>(f ρ).bind fun y=>(g x y).bind fun z=>.ok (.nx (ρ.set i (some (.d z))))
end
def Tg(c:Ct)(g:TG)(fs:D9->Sg->Option Sg)(is:List Nat):Prop:=∀ (v:V) (x:D9) (ρ ρ':Sg) (σ:L2.St) (F H:Hp) (Q:L2.St->Hp->Prop),Ab c ρ σ F H->DatV c.K F v x->fs x ρ=some ρ'->
 (∀ σ':L2.St,σ'.length=σ.length->(∀ j:Nat,j∉is->σ'[j]? = σ[j]?)->Ab c ρ' σ' F H->Q σ' H)->g v σ H Q
def stN(i:Nat):D9->Sg->Option Sg:=fun x ρ=>some (ρ.set i (some (.d x)))
def bS{c:Ct}(i:Nat):Tg c (h8 i) (stN i) [i]:=fun v x ρ b σ F H Q ab r e q=>by
 cases e
 exact q _ CG (fun j f=>A9 (by intro z;subst z;exact f (by simp))) (ab.setA (a:=.d x) r)
def stL:List (D9->Sg->Option Sg)->List D9->Sg->Option Sg
 | [],[],ρ=>some ρ
 | f::fs,x::xs,ρ=>(f x ρ).bind (stL fs xs)
 | _,_,_=>none
def Tgs(c:Ct)(g:TGs)(fs:List (D9->Sg->Option Sg))(is:List Nat):Prop:=∀ (vs:List V) (xs:List D9) (ρ ρ':Sg) (σ:L2.St) (F H:Hp) (Q:L2.St->Hp->Prop),Ab c ρ σ F H->DatVs c.K F vs xs->stL fs xs ρ=some ρ'->
 (∀ σ':L2.St,σ'.length=σ.length->(∀ j:Nat,j∉is->σ'[j]? = σ[j]?)->Ab c ρ' σ' F H->Q σ' H)->g vs σ H Q
def jM{c:Ct}:Tgs c aF8 [] []:=fun vs xs ρ a σ F H Q ab r e q=>by
 cases xs with
 | nil=>cases e;exact ⟨by cases r;rfl,q σ rfl (fun _ _=>rfl) ab⟩
 | cons x t=>cases e
def c7{c:Ct}{g:TG}{gs:TGs}{f:D9->Sg->Option Sg}{fs:List (D9->Sg->Option Sg)}{is js:List Nat}(h:Tg c g f is)(h2:Tgs c gs fs js):Tgs c (aII g gs) (f::fs) (is++js):=fun vs xs ρ a σ F H Q ab r e q=>by
 cases r with
 | nil=>cases e
 | cons r1 r2=>
  rename_i x d vs ds
  have b:(f d ρ).bind (stL fs ds)=some a:=e
  cases e1:f d ρ with
  | none=>rw[e1] at b;cases b
  | some ρ1=>
   rw[e1] at b
   refine ⟨_,_,rfl,h _ _ ρ ρ1 σ F H _ ab r1 e1 fun n o k1 i=>h2 _ _ ρ1 a n F H _ i r2 b fun l p k2 k=>q l (p.trans o) (fun j m=>?_) k⟩
   rw[A4,not_or] at m
   exact (k2 j m.2).trans (k1 j m.1)
def stT(fs:List (D9->Sg->Option Sg)):D9->Sg->Option Sg:=fun x ρ=>match x with
 | .tuple xs=>stL fs xs ρ
 | _=>none
theorem aAP:∀ {fs:List (D9->Sg->Option Sg)} {xs:List D9} {ρ ρ':Sg},stL fs xs ρ=some ρ'->xs.length=fs.length
 | [],[],_,_,_=>rfl
 | [],_::_,_,_,h=>by cases h
 | _::_,[],_,_,h=>by cases h
 | f::fs,x::xs,ρ,ρ',h=>by
  have h':(f x ρ).bind (stL fs xs)=some ρ':=h
  cases e:f x ρ with
  | none=>rw[e] at h';cases h'
  | some ρ1=>
   rw[e] at h'
   have:=aAP (fs:=fs) (xs:=xs) h'
   simp[this]
def kP{c:Ct}{gs:TGs}{fs:List (D9->Sg->Option Sg)}{is:List Nat}{n:Nat}{K:Frag}(f:K=c.K)(h:Tgs c gs fs is)(d:fs.length=n):Tg c (aMG K n gs) (stT fs) is:=fun v x ρ b σ F H Q ab r e q=>by
 cases x with
 | tuple xs=>
  obtain ⟨a,vs,rfl,h1,h2⟩:=r.tup_of
  subst f
  exact ⟨a,vs,rfl,h1.same ab.fh,by rw[h2.length,aAP e,d],h vs xs ρ b σ F H Q ab h2 e q⟩
 | _=>cases e
structure Yld(K:Frag)(J:It)(F B:Hp)(xs:List D9):Prop where
 len:xs.length<=sizeLine
 go:∀ (i:Nat) F1 H1,aH F F1->aH F1 H1->aH B H1->i < xs.length->J.go i H1
 yld:∀ (i:Nat) F1 H1 v H2 x,aH F F1->aH F1 H1->aH B H1->J.yld i H1 v H2->xs[i]? = some x->∃ F2,Ext F1 H1 F2 H2/\DatV K F2 v x
 stop:∀ F1 H1,aH F F1->aH F1 H1->aH B H1->J.stop xs.length H1
def tI(c:Ct)(E:XK)(f:Sg->R (List D9)):TI:=fun σ H Rr=>∃ ρ F,Ab c ρ σ F H/\Rk c E F H (f ρ) fun xs=>∀ J B F' H',Ext F H F' H'->aH B H'->Yld c.K J F' B xs->Rr J H'
def tI0(c:Ct)(E:XK)(f:Sg->R (List D9)):TI:=fun σ H Rr=>∃ ρ F,Ab c ρ σ F H/\Rk c E F H (f ρ) fun xs=>∀ J F' H',Ext F H F' H'->Yld c.K J F' (fun _=>none) xs->Rr J H'
def PI.imp{X:Cx}{tg e:Expr}{t t':TI}(h:PI X tg e t)(i:∀ σ H Q,t' σ H Q->t σ H Q):PI X tg e t':=fun pins s σ H Q I q=>h pins s σ H Q I (i σ H Q q)
abbrev PIf(X:Cx)(c:Ct)(E:XK)(tg e:Expr)(f:Sg->R (List D9)):Prop:=PI X tg e (tI c E f)
abbrev PI0(X:Cx)(c:Ct)(E:XK)(tg e:Expr)(f:Sg->R (List D9)):Prop:=PI X tg e (tI0 c E f)
def pD{H:Hp}:aH (fun _=>none) H:=fun _ _ z=>nomatch z
def bA:D9->R (List D9)
 | .list xs=>if xs.length<=16777216 then .ok xs else .bad
 | .tuple xs=>if xs.length<=16777216 then .ok xs else .bad
 | .str z=>if z.cps.toList.length<=16777216 then .ok (z.cps.toList.map fun u=>.str ⟨#[u]⟩) else .bad
 | _=>.bad
def yF{K:Frag}{F B H:Hp}{a:Az}{vs:List V}{xs:List D9}(hz:xs.length<=16777216)(f:∀ H1,aH F H1->aH B H1->SqL K H1 a vs)(c:DatVs K F vs xs):Yld K (Itl K a) F B xs where
 len:=by rw[cV];exact hz
 go:=fun i g H1 h1 h2 b hi=>by
  have q:=f H1 (fun x o z=>h2 x o (h1 x o z)) b
  exact ⟨vs,vs[i]'(by rw[c.length];exact hi),q,by simp⟩
 yld:=fun i g H1 v H2 x h1 h2 b y e=>by
  obtain ⟨rfl,y⟩:=y
  have q:=y vs (f _ (fun x o z=>h2 x o (h1 x o z)) b)
  obtain ⟨d,e2,r⟩:=c.get q
  rw[e] at e2
  cases e2
  exact ⟨g,Ext.refl h2,r.same h1⟩
 stop:=fun g H1 h1 h2 b=>⟨vs,f H1 (fun x o z=>h2 x o (h1 x o z)) b,by rw[c.length];exact AJ _⟩
def aAQ{K:Frag}{F B:Hp}{a:Az}{vs:List V}{xs:List D9}(hz:xs.length<=16777216)(c:SqT K F a vs)(b:DatVs K F vs xs):Yld K (Itt K a) F B xs where
 len:=by rw[cV];exact hz
 go:=fun i f H1 h1 h2 g hi=>by
  have q:=c.same (H':=H1) (fun x o z=>h2 x o (h1 x o z))
  exact ⟨vs,vs[i]'(by rw[b.length];exact hi),q,by simp⟩
 yld:=fun i f H1 v H2 x h1 h2 g y e=>by
  obtain ⟨rfl,y⟩:=y
  have q:=y vs (c.same (fun x o z=>h2 x o (h1 x o z)))
  obtain ⟨d,e2,r⟩:=b.get q
  rw[e] at e2
  cases e2
  exact ⟨f,Ext.refl h2,r.same h1⟩
 stop:=fun f H1 h1 h2 g=>⟨vs,c.same (fun x o z=>h2 x o (h1 x o z)),by rw[b.length];exact AJ _⟩
def aAR{K:Frag}{F B:Hp}{z:Str}(hz:z.cps.toList.length<=16777216):Yld K (Its z) F B (z.cps.toList.map fun u=>.str ⟨#[u]⟩) where
 len:=by rw[cV,AC];exact hz
 go:=fun i a H1 h1 h2 b hi=>by
  rw[AC,DD] at hi
  exact hi
 yld:=fun i a H1 v H2 x h1 h2 b y e=>by
  obtain ⟨rfl,u,c,rfl⟩:=y
  rw[AN,ER,c] at e
  cases e
  exact ⟨a,Ext.refl h2,.str _⟩
 stop:=fun a H1 h1 h2 b=>by
  show (z.cps.toList.map _).length=z.cps.size
  rw[AC,DD]
section
variable{X:Cx}{c:Ct}{E:XK}{tg e a b:Expr}{pos:Pos}
def uN{f:Sg->R D9}(g:X.K=c.K)(h:PD X c E e f):PI0 X c E tg e (e1 bA f):=PI.imp (PI.or (aD0 h) (aD6 h)) fun σ H Q ⟨ρ,F,ab,k⟩=>by
 have a:=Rk.bind k
 cases hf:f ρ with
 | bad=>rw[hf] at a;exact a.elim
 | ex x=>rw[hf] at a;exact .inl ⟨ρ,F,ab,by rw[hf];exact a⟩
 | ok d=>
  rw[hf] at a
  have k2:=Rk.ok a
  unfold bA at k2
  split at k2
  .rename_i xs
   split at k2
   .rename_i hz
    refine .inl ⟨ρ,F,ab,?_⟩
    rw[hf]
    intro v b H' s r
    obtain ⟨p,vs,rfl,h1,h2⟩:=DatV.lst_of r
    refine ⟨p,rfl,.inl ⟨⟨vs,?_⟩,?_⟩⟩
    · rw [g]; exact h1.same s.fh
    · rw [g]; exact Rk.ok k2 _ b H' s (yF (H := H') hz (fun H1 q _ => h1.same q) h2)
   .exact k2.elim
  .rename_i xs
   split at k2
   .rename_i hz
    refine .inl ⟨ρ,F,ab,?_⟩
    rw[hf]
    intro v b H' s r
    obtain ⟨p,vs,rfl,h1,h2⟩:=DatV.tup_of r
    refine ⟨p,rfl,.inr ⟨⟨vs,?_⟩,?_⟩⟩
    · rw [g]; exact h1.same s.fh
    · rw [g]; exact Rk.ok k2 _ b H' s (aAQ hz h1 h2)
   .exact k2.elim
  .rename_i z
   split at k2
   .rename_i hz
    refine .inr ⟨ρ,F,ab,?_⟩
    rw[hf]
    intro v b H' s r
    obtain rfl:=DatV.str_of r
    exact ⟨z,rfl,Rk.ok k2 _ b H' s (aAR hz)⟩
   .exact k2.elim
  .exact k2.elim
def yG{f:Sg->R D9}(g:X.K=c.K)(h:PR X c E e f):PIf X c E tg e (e1 bA f):=PI.imp (PI.or (aD0 h) (aD6 h)) fun σ H Q ⟨ρ,F,ab,k⟩=>by
 have a:=Rk.bind k
 cases hf:f ρ with
 | bad=>rw[hf] at a;exact a.elim
 | ex x=>rw[hf] at a;exact .inl ⟨ρ,F,ab,by rw[hf];exact a⟩
 | ok d=>
  rw[hf] at a
  have k2:=Rk.ok a
  unfold bA at k2
  split at k2
  .rename_i xs
   split at k2
   .rename_i hz
    refine .inl ⟨ρ,F,ab,?_⟩
    rw[hf]
    intro v b H' s r
    obtain ⟨p,vs,rfl,h1,h2⟩:=aU.lst_of s.fh r
    refine ⟨p,rfl,.inl ⟨⟨vs,?_⟩,?_⟩⟩
    · rw [g]; exact h1
    · rw [g]; exact Rk.ok k2 _ H' b H' s (bK _) (yF (H := H') hz (fun H1 _ q => h1.same q) h2)
   .exact k2.elim
  .rename_i xs
   split at k2
   .rename_i hz
    refine .inl ⟨ρ,F,ab,?_⟩
    rw[hf]
    intro v b H' s r
    obtain ⟨p,vs,rfl,h1,_,h2⟩:=aU.tup_of s.fh r
    refine ⟨p,rfl,.inr ⟨⟨vs,?_⟩,?_⟩⟩
    · rw [g]; exact h1.same s.fh
    · rw [g]; exact Rk.ok k2 _ H' b H' s (bK _) (aAQ hz h1 h2)
   .exact k2.elim
  .rename_i z
   split at k2
   .rename_i hz
    refine .inr ⟨ρ,F,ab,?_⟩
    rw[hf]
    intro v b H' s r
    obtain rfl:=aU.str_of r
    exact ⟨z,rfl,Rk.ok k2 _ H' b H' s (bK _) (aAR hz)⟩
   .exact k2.elim
  .exact k2.elim
def lZ(lo:Int)(n:Nat):List D9:=(List.range n).map fun i:Nat=>.int (lo+i)
def kQ(lo hi:Int):R (List D9):=if -4611686018427387904<=lo/\lo < 4611686018427387904 /\ -4611686018427387904<=hi/\hi < 4611686018427387904/\hi - lo<=16777216 then .ok (lZ lo (hi - lo).toNat) else .bad
def lG(f:Sg->R D9):Sg->R (List D9):=fun ρ=>(f ρ).bind fun x=>match x with
 | .int j=>kQ 0 j
 | _=>.bad
def aJ8(f g:Sg->R D9):Sg->R (List D9):=fun ρ=>(f ρ).bind fun x=>(g ρ).bind fun y=>match x,y with
 | .int i,.int j=>kQ i j
 | _,_=>.bad
def aEP{K:Frag}{F B:Hp}{lo:Int}{n:Nat}(hz:n<=16777216):Yld K (Itr lo n) F B (lZ lo n) where
 len:=by unfold lZ;rw[cV,AC,BH];exact hz
 go:=fun i a H1 h1 h2 c hi=>by unfold lZ at hi;rw[AC,BH] at hi;exact hi
 yld:=fun i a H1 v H2 x h1 h2 c y e=>by
  obtain ⟨rfl,rfl⟩:=y
  unfold lZ at e
  rw[AN] at e
  cases q:(List.range n)[i]? with
  | none=>rw[q] at e;cases e
  | some j=>
   rw[q] at e
   cases e
   obtain ⟨d,b⟩:=AG.mp q
   rw[GS] at b
   subst b
   exact ⟨a,Ext.refl h2,.int _⟩
 stop:=fun a H1 h1 h2 c=>by show n<=_;unfold lZ;rw[AC,BH];exact AJ _
def uO{f:Sg->R D9}(h:PI X tg e (aIJ (cT (tV (aZ c) c E f) fO))):PI0 X c E tg e (lG f):=PI.imp h fun σ H Q ⟨ρ,F,ab,k⟩=>by
 refine ⟨ρ,F,ab,(Rk.bind k).imp fun x _ q v b H' s r=>?_⟩
 cases x with
 | int j=>
  have a:Rk c E F H (kQ 0 j) _:=q
  unfold kQ at a
  split at a
  .rename_i hz
   obtain rfl:=aU.int_of r
   refine ⟨j,rfl,by omega,by omega,?_⟩
   have e0:(j - 0).toNat=j.toNat:=by rw[Int.sub_zero]
   rw[<-e0]
   exact Rk.ok a _ b H' s (aEP (by omega))
  .exact a.elim
 | _=>exact q.elim
end
def jA(js:List (Option Nat))(ρ:Sg):Sg:=js.map fun o=>o.bind fun j=>(ρ[j]?).join
def uP{α:Type}{js:List (Option Nat)}{ρ:List (Option α)}{i:Nat}{a:α}(h:(js.map fun o=>o.bind fun j=>(ρ[j]?).join)[i]? = some (some a)):∃ j,js[i]? = some (some j)/\ρ[j]? = some (some a):=by
 rw[AN] at h
 cases e:js[i]? with
 | none=>rw[e] at h;cases h
 | some o=>
  rw[e] at h
  have h':(o.bind fun j=>(ρ[j]?).join)=some a:=BZ h
  cases o with
  | none=>cases h'
  | some j=>
   have h2:(ρ[j]?).join=some a:=h'
   cases e2:ρ[j]? with
   | none=>rw[e2] at h2;cases h2
   | some o2=>rw[e2] at h2;have:o2=some a:=h2;subst this;exact ⟨j,rfl,e2⟩
def uQ{α:Type}{js:List (Option Nat)}{ρ:List (Option α)}{i j:Nat}{a:α}(h:js[i]? = some (some j))(h2:ρ[j]? = some (some a)):(js.map fun o=>o.bind fun j=>(ρ[j]?).join)[i]? = some (some a):=by
 rw[AN,h]
 show some ((ρ[j]?).join)=_
 rw[h2];rfl
def uS(js:List (Option Nat)):Prop:=∀ (i k j:Nat),js[i]? = some (some j)->js[k]? = some (some j)->i=k
def tK{js:List (Option Nat)}(h:js.Pairwise fun a b=>a=none\/a≠b):uS js:=fun i k j h1 h2=>by
 obtain ⟨d,e1⟩:=AG.mp h1
 obtain ⟨c,e2⟩:=AG.mp h2
 rw[B9] at h
 rcases G8 i k with q|q|q
 .rcases h i k d c q with z|z
  · rw [e1] at z; cases z
  · exact absurd (e1.trans e2.symm) z
 .exact q
 .rcases h k i c d q with z|z
  · rw [e2] at z; cases z
  · exact absurd (e2.trans e1.symm) z
def Ab.cap{c:Ct}{ρ:Sg}{σ g:L2.St}{F H:Hp}{js:List (Option Nat)}(b:Ab c ρ σ F H)(u:uS js)(k:dL (j7 js σ) g):Ab c (jA js ρ) g F H where
 len:=by rw[k.1];unfold jA j7;rw[AC,AC]
 fh:=b.fh
 slot:=fun i a h=>by
  obtain ⟨j,h1,h2⟩:=uP h
  obtain ⟨v,l,r⟩:=b.slot j a h2
  exact ⟨v,k.2 i v (uQ h1 l),r⟩
 apart:=fun i q a p n h h' o o'=>by
  obtain ⟨j,h1,h2⟩:=uP h
  obtain ⟨m,d,f⟩:=uP h'
  have t:j≠m:=fun z=>n (u i q j h1 (by rw[d,z]))
  obtain ⟨v,l,_⟩:=b.slot j a h2
  obtain ⟨s,e,_⟩:=b.slot m p f
  rw[k.2 i v (uQ h1 l),k.2 q s (uQ d e),<-l,<-e]
  exact b.apart j m a p t h2 f o o'
 f0:=b.f0
 h0:=b.h0
 n0:=b.n0
 t0:=b.t0
def R.noEx{α:Type}:R α->R α
 | .ex _=>.bad
 | r=>r
@[simp] theorem R.noEx_ok{α:Type}(a:α):(R.ok a).noEx=.ok a:=id rfl
def rU{α:Type}:Option α->R α
 | some a=>.ok a
 | none=>.bad
@[simp] theorem pE{α:Type}(a:α):rU (some a)=.ok a:=id rfl
def compL(fs:D9->Sg->Option Sg)(ft:Sg->R Bool)(fe:Sg->R D9)(ρ0:Sg):List D9->R (List D9)
 | []=>.ok []
 | x::t=>(rU (fs x ρ0)).bind fun ρ1=>(ft ρ1).noEx.bind fun b=>if b=true then (fe ρ1).noEx.bind fun y=>(compL fs ft fe ρ0 t).bind fun ys=>.ok (y::ys) else compL fs ft fe ρ0 t
theorem oE{fs:D9->Sg->Option Sg}{ft:Sg->R Bool}{fe:Sg->R D9}{ρ0:Sg}{e:Er}:∀ {xs:List D9},compL fs ft fe ρ0 xs≠.ex e
 | []=>fun h=>by cases h
 | x::t=>fun h=>by
  unfold compL at h
  cases h1:fs x ρ0 with
  | none=>rw[h1] at h;cases h
  | some ρ1=>
   rw[h1] at h
   have h:((ft ρ1).noEx.bind fun b=>if b=true then (fe ρ1).noEx.bind fun y=>(compL fs ft fe ρ0 t).bind fun ys=>.ok (y::ys) else compL fs ft fe ρ0 t)=.ex e:=h
   cases h2:ft ρ1 with
   | bad=>rw[h2] at h;cases h
   | ex _=>rw[h2] at h;cases h
   | ok b=>
    rw[h2] at h
    have h:(if b=true then (fe ρ1).noEx.bind fun y=>(compL fs ft fe ρ0 t).bind fun ys=>.ok (y::ys) else compL fs ft fe ρ0 t)=.ex e:=h
    cases b with
    | false=>exact oE (xs:=t) h
    | true=>
     have h:((fe ρ1).noEx.bind fun y=>(compL fs ft fe ρ0 t).bind fun ys=>.ok (y::ys))=.ex e:=h
     cases h3:fe ρ1 with
     | bad=>rw[h3] at h;cases h
     | ex _=>rw[h3] at h;cases h
     | ok y=>
      rw[h3] at h
      have h:((compL fs ft fe ρ0 t).bind fun ys=>.ok (y::ys))=.ex e:=h
      cases h4:compL fs ft fe ρ0 t with
      | bad=>rw[h4] at h;cases h
      | ex e'=>exact oE (xs:=t) (e:=e') h4
      | ok ys=>rw[h4] at h;cases h
def aCI{fs:D9->Sg->Option Sg}{ft:Sg->R Bool}{fe:Sg->R D9}{ρ0:Sg}{x:D9}{t ys:List D9}(h:compL fs ft fe ρ0 (x::t)=.ok ys) :
  ∃ ρ1 b,fs x ρ0=some ρ1/\ft ρ1=.ok b/\((b=true/\∃ y zs,fe ρ1=.ok y/\compL fs ft fe ρ0 t=.ok zs/\ys=y::zs)\/(b=false/\compL fs ft fe ρ0 t=.ok ys)):=by
 unfold compL at h
 cases h1:fs x ρ0 with
 | none=>rw[h1] at h;cases h
 | some ρ1=>
  rw[h1] at h
  have h:((ft ρ1).noEx.bind fun b=>if b=true then (fe ρ1).noEx.bind fun y=>(compL fs ft fe ρ0 t).bind fun ys=>.ok (y::ys) else compL fs ft fe ρ0 t)=.ok ys:=h
  cases h2:ft ρ1 with
  | bad=>rw[h2] at h;cases h
  | ex _=>rw[h2] at h;cases h
  | ok b=>
   rw[h2] at h
   have h:(if b=true then (fe ρ1).noEx.bind fun y=>(compL fs ft fe ρ0 t).bind fun ys=>.ok (y::ys) else compL fs ft fe ρ0 t)=.ok ys:=h
   refine ⟨ρ1,b,rfl,h2,?_⟩
   cases b with
   | false=>exact .inr ⟨rfl,h⟩
   | true=>
    refine .inl ⟨rfl,?_⟩
    have h:((fe ρ1).noEx.bind fun y=>(compL fs ft fe ρ0 t).bind fun ys=>.ok (y::ys))=.ok ys:=h
    cases h3:fe ρ1 with
    | bad=>rw[h3] at h;cases h
    | ex _=>rw[h3] at h;cases h
    | ok y=>
     rw[h3] at h
     have h:((compL fs ft fe ρ0 t).bind fun ys=>.ok (y::ys))=.ok ys:=h
     cases h4:compL fs ft fe ρ0 t with
     | bad=>rw[h4] at h;cases h
     | ex e'=>rw[h4] at h;cases h
     | ok zs=>rw[h4] at h;cases h;exact ⟨y,zs,rfl,rfl,rfl⟩
def i4(js:List (Option Nat))(fi:Sg->R (List D9))(fs:D9->Sg->Option Sg)(ft:Sg->R Bool)(fe:Sg->R D9):Sg->R (List D9):=fun ρ=>(fi ρ).bind fun xs=>compL fs ft fe (jA js ρ) xs
def l0:Sg->R Bool:=fun _=>.ok true
section
variable{X:Cx}{c:Ct}{E:XK}{e a b:Expr}{pos:Pos}
def jH:L2.PIf X [] (tTf c E l0):=fun pins s σ H Q I ⟨ρ,F,ab,k⟩=>L2.jH pins s σ H Q I (Rk.ok k F H (Ext.refl ab.fh))
def aG0{js:List (Option Nat)}{is:List Nat}{σ a b:L2.St}(k:dL (j7 js σ) a)(c:b.length=a.length)(h:∀ j:Nat,j∉is->b[j]? = a[j]?)(hi:∀ i∈is,js[i]? = some none):dL (j7 js σ) b:=
 ⟨c.trans k.1,fun i v e=>by
  by_cases q:i∈is
  .unfold j7 at e
   rw[AN,hi i q] at e
   cases e
  .rw[h i q];exact k.2 i v e⟩
def wF{N:List Str}{js:List (Option Nat)}{scope:Scope}{tg r:Expr}{t:List Expr}{V:Sg->R (List D9)}{fs:D9->Sg->Option Sg}{ft:Sg->R Bool}{fe:Sg->R D9}{is:List Nat}(Z:uS js)(hi:∀ i∈is,js[i]? = some none)
  (hb:∀ (cl:List (Str×Az)) (C:Az) (s:S9) (H0:Hp) (fp:List Az),∃ g,PG (f7 X N scope cl C s H0 fp) tg g/\Tg c g fs is/\L2.PIf (f7 X N scope cl C s H0 fp) t (tTf c E0 ft)/\PD (f7 X N scope cl C s H0 fp) c E0 r fe)
  {σ:L2.St} {H:Hp} {Q:VK} (h:tV (rS c) c E (i4 js V fs ft fe) σ H Q):sT X N scope js tg r t (tI c E V) σ H Q:=by
 obtain ⟨ρ,F,ab,k⟩:=h
 refine ⟨ρ,F,ab,(Rk.bind k).imp fun xs _ q J B U H1 s1 A x=>?_⟩
 cases hc:compL fs ft fe (jA js ρ) xs with
 | bad=>rw[hc] at q;exact q.elim
 | ex e=>exact absurd hc oE
 | ok ys=>
  rw[hc] at q
  refine aJP (n:=xs.length) (fun i b H'=>∃ F',Ext U H1 F' H'/\b.length<=i/\∃ zs rest,DatVs c.K F' b zs/\compL fs ft fe (jA js ρ) (xs.drop i)=.ok rest/\zs++rest=ys) x.len ⟨U,Ext.refl s1.fh,AJ _,[],ys,.nil,hc,rfl⟩ ?_ ?_ ?_ ?_ ?_
  .rintro i b H' _ ⟨F',_,h,_⟩;exact h
  .rintro i b H' d ⟨F',e1,_⟩
   exact x.go i F' H' e1.ff e1.fh (fun a o z=>e1.hh a o (A a o z)) d
  .rintro b H' ⟨F',e1,_⟩
   exact x.stop F' H' e1.ff e1.fh (fun a o z=>e1.hh a o (A a o z))
  .rintro i v b Ha Hb d ⟨F',e1,hlen,zs,rest,hd,hr,hz⟩ hy
   obtain ⟨I,e2,W⟩:=x.yld i F' Ha v Hb xs[i] e1.ff e1.fh (fun a o z=>e1.hh a o (A a o z)) hy (AH d)
   have L:xs.drop i=xs[i]::xs.drop (i+1):=HB d
   rw[L] at hr
   obtain ⟨l,bb,Y,ht,j⟩:=aCI hr
   intro cl C s H0 fp
   obtain ⟨g,hg,P,M,he⟩:=hb cl C s H0 fp
   refine ⟨g,_,_,hg,M,he,fun u k0=>?_⟩
   have O:Ab c (jA js ρ) u I Hb:=(ab.ext (s1.trans (e1.trans e2))).cap Z k0
   refine P v xs[i] _ l u I Hb _ O W Y fun σ1 S hk1 m=>⟨aG0 k0 S hk1 hi,l,I,m,?_⟩
   rw[ht]
   intro T H3 e3
   rcases j with ⟨rfl,y,ws,G,f,rfl⟩|⟨rfl,f⟩
   .refine rP ⟨l,T,m.ext e3,?_⟩
    rw[G]
    intro w F4 H4 e4 D
    refine ⟨F4,e1.trans (e2.trans (e3.trans e4)),by rw[BD,IB];omega,zs++[y],ws,(hd.same (e2.trans (e3.trans e4)).ff).append (.cons D .nil),f,by rw[G7];exact hz⟩
   .exact rO ⟨T,e1.trans (e2.trans e3),by omega,zs,rest,hd.same (e2.trans e3).ff,f,hz⟩
  .rintro b H' ⟨F',e1,_,zs,rest,hd,hr,hz⟩ p hp
   rw[List.drop_length] at hr
   cases hr
   rw[DC] at hz
   subst hz
   exact Rk.ok q (.ref p) F' _ (s1.trans (e1.trans (Ext.own e1.fh hp))) ⟨p,b,rfl,a9 (s1.trans e1).hh hp,aT,a9 e1.fh hp,hd⟩
def nG{N:List Str}{js:List (Option Nat)}{scope:Scope}{tg f:Expr}{d:List Expr}{j:Sg->R (List D9)}{fs:D9->Sg->Option Sg}{ft:Sg->R Bool}{fe:Sg->R D9}{is:List Nat}(h:PE X e (sT X N scope js tg f d (tI c E j)))(l:js.Pairwise fun a b=>a=none\/a≠b)(hi:∀ i∈is,js[i]? = some none)
 (k:∀ (cl:List (Str×Az)) (C:Az) (s:S9) (H0:Hp) (fp:List Az),∃ g,PG (f7 X N scope cl C s H0 fp) tg g/\Tg c g fs is/\L2.PIf (f7 X N scope cl C s H0 fp) d (tTf c E0 ft)/\PD (f7 X N scope cl C s H0 fp) c E0 f fe) :
 PN X c E e (i4 js j fs ft fe):=PE.imp h fun σ H Q q=>wF (tK l) hi k q
def aAS{i:Nat}{st:Stmt}{N:List Str}{js:List (Option Nat)}{scope:Scope}{tg e:Expr}{d:List Expr}{f:Sg->R (List D9)}{fs:D9->Sg->Option Sg}{ft:Sg->R Bool}{fe:Sg->R D9}{is:List Nat}(h:PS X st (iR (sT X N scope js tg e d (tI c E f)) (h8 i)))(k:js.Pairwise fun a b=>a=none\/a≠b)(hi:∀ i∈is,js[i]? = some none)
 (j:∀ (cl:List (Str×Az)) (C:Az) (s:S9) (H0:Hp) (fp:List Az),∃ g,PG (f7 X N scope cl C s H0 fp) tg g/\Tg c g fs is/\L2.PIf (f7 X N scope cl C s H0 fp) d (tTf c E0 ft)/\PD (f7 X N scope cl C s H0 fp) c E0 e fe) :
 PSf X c E st (eF i (i4 js f fs ft fe)):=eO (PS.imp h fun D σ H q=>wF (tK k) hi j q)
end
def fH(fs:D9->Sg->Option Sg)(fb:Sg->R Fw):List D9->Sg->R Fw
 | [],ρ=>.ok (.nx ρ)
 | x::t,ρ=>(rU (fs x ρ)).bind fun ρ1=>(fb ρ1).bind fun w=>match w with
  | .nx ρ2=>fH fs fb t ρ2
  | .ct ρ2=>fH fs fb t ρ2
  | .bk ρ2=>.ok (.nx ρ2)
  | .rt a=>.ok (.rt a)
def iI(fi:Sg->R (List D9))(fs:D9->Sg->Option Sg)(fb:Sg->R Fw):Sg->R Fw:=fun ρ=>(fi ρ).bind fun xs=>fH fs fb xs ρ
section
variable{X:Cx}{c:Ct}{E:XK}{e a b:Expr}{pos:Pos}{st:Stmt}
def cH{g:TG}{x:Sg->R (List D9)}{fs:D9->Sg->Option Sg}{is:List Nat}{fb:Sg->R Fw}(G:Tg c g fs is)(h:PS X st (aMH (tI0 c E x) g (tSf c E fb))):PSf X c E st (iI x fs fb):=PS.imp h fun D σ H p=>by
 obtain ⟨ρ,F,ab,k⟩:=p
 refine ⟨ρ,F,ab,(Rk.bind k).imp fun xs _ q J n H1 s1 t=>?_⟩
 refine ⟨fun i m σ H=>m=xs.length - i/\i<=xs.length/\∃ ρ' b,aH n b/\Ab c ρ' σ b H/\Rk c E b H (fH fs fb (xs.drop i) ρ') (g9 c F D),⟨xs.length,by simp,CU _,ρ,n,bK _,ab.ext s1,Rk.ext s1 q⟩,?_⟩
 rintro i m j H2 ⟨rfl,hi,ρ2,F2,s2,ab2,k2⟩
 by_cases hlt:i < xs.length
 .refine .inr ⟨t.go i F2 H2 s2 ab2.fh pD hlt,fun d H'=>∃ ρ' b,aH n b/\Ab c ρ' d b H'/\Rk c E b H' (fH fs fb (xs.drop (i+1)) ρ') (g9 c F D),fun d H' w=>⟨xs.length - (i+1),by omega,rfl,hlt,w⟩,fun v H3 y=>?_⟩
  obtain ⟨l,e3,A⟩:=t.yld i F2 H2 v H3 xs[i] s2 ab2.fh pD y (AH hlt)
  have u:xs.drop i=xs[i]::xs.drop (i+1):=HB hlt
  rw[u] at k2
  unfold fH at k2
  cases h1:fs xs[i] ρ2 with
  | none=>rw[h1] at k2;exact k2.elim
  | some ρ3=>
   rw[h1] at k2
   refine G v xs[i] ρ2 ρ3 j l H3 _ (ab2.ext e3) A h1 fun C _ _ s=>⟨ρ3,l,s,?_⟩
   have k3:Rk c E F2 H2 (fb ρ3) _:=Rk.bind k2
   cases h2:fb ρ3 with
   | bad=>rw[h2] at k3;exact k3.elim
   | ex e=>rw[h2] at k3;exact k3
   | ok w=>
    rw[h2] at k3
    have k4:=Rk.ok k3
    have B:aH F l:=fun a o z=>e3.ff a o (s2 a o (s1.ff a o z))
    cases w with
    | nx ρ4=>exact fun d b H' s' f=>⟨ρ4,b,fun a o z=>s' a o (e3.ff a o (s2 a o z)),f,k4⟩
    | ct ρ4=>exact fun d b H' s' f=>⟨ρ4,b,fun a o z=>s' a o (e3.ff a o (s2 a o z)),f,k4⟩
    | bk ρ4=>exact fun d b H' s' f=>Rk.ok k4 d b H' (fun a o z=>s' a o (B a o z)) f
    | rt a=>exact fun v b H' z r=>Rk.ok k4 v b H' z r
 .have e:i=xs.length:=by omega
  subst e
  rw[List.drop_length] at k2
  exact .inl ⟨t.stop F2 H2 s2 ab2.fh pD,Rk.ok k2 j F2 H2 (fun a o z=>s2 a o (s1.ff a o z)) ab2⟩
end
def cN(t:Sg->R Bool)(b:Sg->R Fw):Nat->Sg->R Fw
 | 0,_=>.bad
 | n+1,ρ=>(t ρ).bind fun k=>if k=true then (b ρ).bind fun w=>match w with
   | .nx ρ'=>cN t b n ρ'
   | .ct ρ'=>cN t b n ρ'
   | .bk ρ'=>.ok (.nx ρ')
   | .rt a=>.ok (.rt a)
  else .ok (.nx ρ)
open Classical in
def cC(t:Sg->R Bool)(b:Sg->R Fw):Sg->R Fw:=fun ρ=>if h:∃ n,cN t b n ρ≠.bad then cN t b h.choose ρ else .bad
def R.bind_mono{α β:Type}{r:R α}{f g:α->R β}(h:r.bind f≠.bad)(b:∀ a,f a≠.bad->g a=f a):r.bind g=r.bind f:=by
 cases r with
 | bad=>rfl
 | ex e=>rfl
 | ok a=>exact b a h
theorem kH{t:Sg->R Bool}{b:Sg->R Fw}:∀ {n m:Nat} {ρ:Sg},n<=m->cN t b n ρ≠.bad->cN t b m ρ=cN t b n ρ
 | 0,_,_,_,h=>absurd rfl h
 | n+1,0,_,hm,_=>absurd hm (by omega)
 | n+1,m+1,ρ,hm,h=>by
  unfold cN at h ⊢
  refine R.bind_mono h fun k hk=>?_
  cases k with
  | false=>rfl
  | true=>
   refine R.bind_mono (r:=b ρ) hk fun w hw=>?_
   cases w with
   | nx ρ'=>exact kH (by omega) hw
   | ct ρ'=>exact kH (by omega) hw
   | bk ρ'=>rfl
   | rt a=>rfl
def pF{t:Sg->R Bool}{b:Sg->R Fw}{ρ:Sg}{n:Nat}(h:cN t b n ρ≠.bad):cC t b ρ=cN t b n ρ:=by
 have hx:∃ n,cN t b n ρ≠.bad:=⟨n,h⟩
 unfold cC
 rw[dif_pos hx]
 have a:=hx.choose_spec
 rcases Nat.le_total n hx.choose with q|q
 · exact kH q h
 · exact (kH q a).symm
theorem wG (t : Sg -> R Bool) (b : Sg -> R Fw) (ρ : Sg) : cC t b ρ = (t ρ).bind fun k => if k = true then (b ρ).bind fun w => match w with
      | .nx ρ' => cC t b ρ'
      | .ct ρ' => cC t b ρ'
      | .bk ρ' => .ok (.nx ρ')
      | .rt a => .ok (.rt a)
    else .ok (.nx ρ) := by
  have key : ∀ n, (∀ k, t ρ = .ok k -> k = true -> ∀ w, b ρ = .ok w -> ∀ ρ', (w = .nx ρ' \/ w = .ct ρ') -> cC t b ρ' = cN t b n ρ') -> cN t b (n + 1) ρ = (t ρ).bind fun k => if k = true then (b ρ).bind fun w => match w with
      | .nx ρ' => cC t b ρ'
      | .ct ρ' => cC t b ρ'
      | .bk ρ' => .ok (.nx ρ')
      | .rt a => .ok (.rt a)
    else .ok (.nx ρ) := by
    intro n h
    unfold cN
    cases d : t ρ with
    | bad => rfl
    | ex e => rfl
    | ok k =>
      cases k with
      | false => rfl
      | true =>
        show ((b ρ).bind _) = ((b ρ).bind _)
        cases f : b ρ with
        | bad => rfl
        | ex e => rfl
        | ok w =>
          cases w with
          | nx ρ' => exact (h true d rfl _ f ρ' (.inl rfl)).symm
          | ct ρ' => exact (h true d rfl _ f ρ' (.inr rfl)).symm
          | bk ρ' => rfl
          | rt a => rfl
  by_cases hx : ∃ n, cN t b n ρ ≠ .bad
  · obtain ⟨n, i⟩ := hx
    cases n with
    | zero => exact absurd rfl i
    | succ n =>
      rw [pF i]
      refine key n fun k d j w f ρ' hw => ?_
      subst j
      refine pF fun z => i ?_
      unfold cN
      rw [d]
      show ((b ρ).bind _) = _
      rw [f]
      rcases hw with rfl | rfl
      · exact z
      · exact z
  · have h0 : cC t b ρ = .bad := by unfold cC; rw [dif_neg hx]
    rw [h0]
    have c : ∀ n, cN t b n ρ = .bad := fun n => DK fun z => hx ⟨n, z⟩
    cases d : t ρ with
    | bad => rfl
    | ex e => have := c 1; unfold cN at this; rw [d] at this; cases this
    | ok k =>
      cases k with
      | false => have := c 1; unfold cN at this; rw [d] at this; cases this
      | true =>
        show R.bad = ((b ρ).bind _)
        cases f : b ρ with
        | bad => rfl
        | ex e => have := c 1; unfold cN at this; rw [d] at this; change ((b ρ).bind _) = _ at this; rw [f] at this; cases this
        | ok w =>
          have g : ∀ ρ', (w = .nx ρ' \/ w = .ct ρ') -> cC t b ρ' = .bad := fun ρ' hw => by
            unfold cC
            rw [dif_neg]
            rintro ⟨n, i⟩
            refine i ?_
            have := c (n + 1)
            unfold cN at this
            rw [d] at this
            change ((b ρ).bind _) = _ at this
            rw [f] at this
            rcases hw with rfl | rfl <;> exact this
          cases w with
          | nx ρ' => exact (g ρ' (.inl rfl)).symm
          | ct ρ' => exact (g ρ' (.inr rfl)).symm
          | bk ρ' => have := c 1; unfold cN at this; rw [d] at this; change ((b ρ).bind _) = _ at this; rw [f] at this; cases this
          | rt a => have := c 1; unfold cN at this; rw [d] at this; change ((b ρ).bind _) = _ at this; rw [f] at this; cases this
section
variable{X:Cx}{c:Ct}{E:XK}{st:Stmt}
def gF{t:Sg->R Bool}{fb:Sg->R Fw}(h:PS X st (aDF (tTf c E t) (tSf c E fb))):PSf X c E st (cC t fb):=PS.imp h fun D σ H l=>by
 obtain ⟨ρ,F,ab,k⟩:=l
 have hx:∃ n,cN t fb n ρ≠.bad:=DK fun z=>by
  have:cC t fb ρ=.bad:=by unfold cC;rw[dif_neg z]
  rw[this] at k
  exact k
 obtain ⟨n,x⟩:=hx
 rw[pF x] at k
 refine ⟨fun m σ H=>∃ ρ' d,aH F d/\Ab c ρ' σ d H/\Rk c E d H (cN t fb m ρ') (g9 c F D),⟨n,ρ,F,bK F,ab,k⟩,?_⟩
 rintro m u H1 ⟨ρ1,F1,s1,ab1,k1⟩
 cases m with
 | zero=>exact k1.elim
 | succ m=>
  unfold cN at k1
  refine ⟨ρ1,F1,ab1,(Rk.bind k1).imp fun b _ q s H2 e2=>?_⟩
  have j:=ab1.ext e2
  cases b with
  | false=>exact rO (Rk.ok q u s H2 (fun a o z=>e2.ff a o (s1 a o z)) j)
  | true=>
   refine rP ⟨fun f H'=>∃ ρ' d,aH F d/\Ab c ρ' f d H'/\Rk c E d H' (cN t fb m ρ') (g9 c F D),fun f H' w=>⟨m,by omega,w⟩,ρ1,s,j,?_⟩
   have i:Rk c E F1 H1 (fb ρ1) _:=Rk.bind (r:=fb ρ1) q
   cases h2:fb ρ1 with
   | bad=>rw[h2] at i;exact i.elim
   | ex e=>rw[h2] at i;exact i
   | ok w=>
    rw[h2] at i
    have k4:=Rk.ok i
    have p:aH F s:=fun a o z=>e2.ff a o (s1 a o z)
    cases w with
    | nx ρ4=>exact fun f d H' s' g=>⟨ρ4,d,fun a o z=>s' a o (p a o z),g,k4⟩
    | ct ρ4=>exact fun f d H' s' g=>⟨ρ4,d,fun a o z=>s' a o (p a o z),g,k4⟩
    | bk ρ4=>exact fun f d H' s' g=>Rk.ok k4 f d H' (fun a o z=>s' a o (p a o z)) g
    | rt a=>exact fun v d H' z r=>Rk.ok k4 v d H' z r
end
def spG(K:Frag)(mg:Str->Option V9)(T F1:Hp)(n:Nat)(G:List D9->R D9):Sp:=fun vs H Q E=>∃ F ds,aH F1 F/\aH T F/\aH F H/\DatVs K F vs ds/\ds.length=n/\match G ds with
 | .bad=>False
 | .ok d=>∀ v F' H',Ext F H F' H'->DatV K F' v d->Q v H'
 | .ex e=>∀ a C F' H',Ext F H F' H'->i8 K mg F' e a C->E (.ref C) (some a) H'
def Beh(P:Program)(w:World)(K:Frag)(mg:Str->Option V9)(base:Heap)(T:Hp)(f:Az)(F1:Hp)(k n:Nat)(G:List D9->R D9):Prop:=
 ∃ fd ps,ps.length=n/\iO K fd ps []/\FnOk P w K mg base (CXe P w) k f fd ps (spG K mg T F1 n G)/\(PySem.W.keepIn K (.ref f)=true\/∃ oc od fd' sl,F1 f=some (FnO f ⟨oc,od,.func fd',sl⟩))
def gOf(P:Program)(w:World)(K:Frag)(mg:Str->Option V9)(base:Heap)(T:Hp):Gb:=⟨Beh P w K mg base T,T,w⟩
def spF(g:Gb)(K:Frag)(mg:Str->Option V9)(n:Nat)(G:List A->R A):Sp:=fun vs H Q E=>∃ F as,aH g.T F/\aH F H/\AFs g K mg F as vs/\as.length=n/\match G as with
 | .bad=>False
 | .ok a=>∀ v F' H',Ext F H F' H'->AF g K mg F' a v->Q v H'
 | .ex e=>∀ a C F' H',Ext F H F' H'->i8 K mg F' e a C->E (.ref C) (some a) H'
def bD(P:Program)(w:World)(K:Frag)(mg:Str->Option V9)(base:Heap)(T:Hp)(k:Nat)(x:Str)(ps:List Str)(G:List A->R A):Prop:=Calls P w K mg base (CXe P w) k x ps (spF (gOf P w K mg base T) K mg ps.length G)
def bM(n:Nat)(G:List A->R A)(f:Sg->R (List A)):Sg->R A:=fun ρ=>(f ρ).bind fun as=>if as.length=n then G as else .bad
def cF{X:Cx}{c:Ct}{E:XK}{e:Expr}{n:Nat}{G:List A->R A}{g:Gb}{K:Frag}{mg:Str->Option V9}{f:Sg->R (List A)}(hG:g=c.g)(j:K=c.K)(hM:mg=c.mg)(h:PE X e (nW (spF g K mg n G) [] E (tAv c E f))):PV X c E e (bM n G f):=PE.imp h fun σ H Q b=>by
 obtain ⟨ρ,F,ab,k⟩:=b
 subst hG j hM
 refine ⟨ρ,F,ab,(Rk.bind k).imp fun d _ q vs l H1 s1 r1=>?_⟩
 by_cases hn:d.length=n
 .rw[if_pos hn] at q
  refine ⟨l,d,fun a o z=>s1.ff a o (ab.f0 a o (ab.t0 a o z)),s1.fh,by rw[DC];exact r1,hn,?_⟩
  cases hg:G d with
  | bad=>rw[hg] at q;exact q
  | ok a=>rw[hg] at q;exact fun v i H' s r=>Rk.ok q v i H' (s1.trans s) r
  | ex e=>rw[hg] at q;exact fun a C i H' s r=>q a C i H' ((ab.all.trans s1).trans s) r
 .rw[if_neg hn] at q;exact q.elim
def fnF(n:Nat)(fb:Sg->R Fw):List A->R A:=fun as=>(fb (as.map some++List.replicate (n - as.length) none)).bind fun w=>match w with
 | .rt (.l _)=>.bad
 | .rt a=>.ok a
 | .nx _=>.ok (.d .none)
 | _=>.bad
theorem AFs.get{g:Gb}{K:Frag}{mg:Str->Option V9}{F:Hp}:∀ {as:List A} {vs:List V} {i:Nat} {a:A},AFs g K mg F as vs->as[i]? = some a->∃ v,vs[i]? = some v/\AF g K mg F a v
 | [],[],_,_,_,h=>by simp at h
 | a::as,v::vs,0,_,h,e=>by simp at e;subst e;exact ⟨v,rfl,h.1⟩
 | a::as,v::vs,i+1,_,h,e=>by
  obtain ⟨w,h1,h2⟩:=AFs.get (i:=i) h.2 (by simpa using e)
  exact ⟨w,by simpa using h1,h2⟩
def pG{α:Type}{c:List α}{n i:Nat}{a:α}(h:(c.map some++List.replicate n none)[i]? = some (some a)):c[i]? = some a:=by
 by_cases hi:i < c.length
 .rw[BM (by rw[AC];exact hi),AN] at h
  cases e:c[i]? with
  | none=>rw[e] at h;cases h
  | some b=>rw[e] at h;cases h;rfl
 .rw[CL (by rw[AC];omega),FE] at h
  split at h
  · cases h
  · cases h
def rW{g:Gb}{c:List (Str×Az)}{cls:Str->Option ClSt}{K:Frag}{mg:Str->Option V9}{w:World}{F H:Hp}{d:List A}{vs:List V}{n:Nat}(f:aH g.T F)(s:aH F H)(h:AFs g K mg F d vs):Ab ⟨K,mg,w,F,H,g,c,cls⟩ (d.map some++List.replicate (n - d.length) none) (vs.map some++List.replicate (n - vs.length) none) F H where
 len:=by rw[BD,BD,AC,AC,EN,EN,h.len]
 fh:=s
 slot:=fun i a e=>by
  obtain ⟨v,h1,h2⟩:=h.get (pG e)
  refine ⟨v,?_,AO.of h2⟩
  have hi:i < vs.length:=(AG.mp h1).1
  rw[BM (by rw[AC];exact hi),AN,h1];rfl
 apart:=fun i j a b _ e1 _ o _=>by
  obtain ⟨v,h1,h2⟩:=h.get (pG e1)
  rw[AF.notOwn h2] at o
  cases o
 f0:=bK F
 h0:=bK H
 n0:=fun a e n=>absurd e n
 t0:=f
theorem qJ{g:Gb}{c:List (Str×Az)}{cls:Str->Option ClSt}{K:Frag}{mg:Str->Option V9}{w:World}{n:Nat}{fb:Sg->R Fw}{vs:List V}{d:List A}{F H:Hp}{Q:VK}{E:XK}(h0:aH g.T F)(h1:aH F H)(h2:AFs g K mg F d vs)(b:match fnF n fb d with
 | .bad=>False
 | .ok a=>∀ v F' H',Ext F H F' H'->AF g K mg F' a v->Q v H'
 | .ex e=>∀ a C F' H',Ext F H F' H'->i8 K mg F' e a C->E (.ref C) (some a) H'):tSf ⟨K,mg,w,F,H,g,c,cls⟩ E fb {nx:=fun _ H'=>Q .non H',rt:=Q} (vs.map some++List.replicate (n - vs.length) none) H:=by
 refine ⟨_,F,rW h0 h1 h2,?_⟩
 unfold fnF at b
 cases e:fb (d.map some++List.replicate (n - d.length) none) with
 | bad=>rw[e] at b;exact b
 | ex x=>rw[e] at b;exact b
 | ok w=>
  rw[e] at b
  cases w with
  | nx ρ'=>exact fun f F' H' s ab=>b .non F' H' ab.all .non
  | rt a=>
   cases a with
   | l xs=>exact b.elim
   | _=>exact b
  | bk ρ'=>exact b.elim
  | ct ρ'=>exact b.elim
section
variable{P:Program}{w:World}{K:Frag}{mg:Str->Option V9}{base:Heap}{T:Hp}{x:Str}{st:Stmt}{N ps:List Str}{k:Nat}
def eK{fb:Sg->R Fw}(D:DefAt K mg x st ps)(S:FnScope N ps (aL st))
  (a:∀ (f:Az) (cdv:V9) (A:Around) (outer:List Env) (s:S9) (H F:Hp) (E:XK),Room k (A.deeper (envOfC x (aL st) s.heap.objs.size f cdv))->
   jW ((iS (CXe P w) P w K mg base N x (aL st) f cdv A outer s H E).fly E) ⟨K,mg,w,F,H,gOf P w K mg base T,(envOfC x (aL st) s.heap.objs.size f cdv).cells,fun _=>none⟩ E (cL st) fb):bD P w K mg base T (k+1) x ps (fnF N.length fb):=by
 refine D.okX S (fun vs H Q E h=>?_) (fun f cdv A outer s H vs Q E c h=>?_)
 .obtain ⟨F,e,_,_,h2,b,_⟩:=h
  rw[h2.len,b]
 .obtain ⟨F,e,h0,h1,h2,b,d⟩:=h
  exact ⟨_,a f cdv A outer s H F E c,qJ h0 h1 h2 d⟩
def bD.imp{G b:List A->R A}(C:bD P w K mg base T k x ps G)(h:∀ as,b as≠.bad->G as=b as):bD P w K mg base T k x ps b:=Calls.imp C fun vs H Q E=>by
 rintro ⟨F,as,h0,h1,h2,h3,h4⟩
 refine ⟨F,as,h0,h1,h2,h3,?_⟩
 cases e:b as with
 | bad=>rw[e] at h4;exact h4.elim
 | ok a=>rw[h as (by rw[e];exact fun z=>nomatch z),e];rw[e] at h4;exact h4
 | ex x=>rw[h as (by rw[e];exact fun z=>nomatch z),e];rw[e] at h4;exact h4
end
def aNC(cn:Str)(fs:List Str)(f:Sg->R (List D9)):Sg->R Fw:=fun ρ=>(f ρ).bind fun xs=>if xs.length=fs.length then .ex ⟨cn,fs.zip xs⟩ else .bad
def tPf(c:Ct)(E:XK)(f:Sg->R (Option Int)):TO:=fun σ H Q=>∃ ρ F,Ab c ρ σ F H/\Rk c E F H (f ρ) fun o=>∀ F' H',Ext F H F' H'->Q o H'
def oNo:Sg->R (Option Int):=fun _=>.ok none
def oSo(f:Sg->R D9):Sg->R (Option Int):=fun ρ=>(f ρ).bind fun x=>match x with
 | .int i=>.ok (some i)
 | _=>.bad
def mT{α:Type}(xs:List α)(lo hi:Option Int):List α:=(xs.drop (HT.sIx xs.length 0 lo)).take (HT.sIx xs.length xs.length hi - HT.sIx xs.length 0 lo)
def dSl:D9->Option Int->Option Int->R D9
 | .list xs,lo,hi=>.ok (.list (mT xs lo hi))
 | .tuple xs,lo,hi=>if ¬ (HT.sIx xs.length 0 lo=0/\HT.sIx xs.length xs.length hi=xs.length) then .ok (.tuple (mT xs lo hi)) else .bad
 | .str z,lo,hi=>if z.length<=16777216 then .ok (.str (Txt.slice z lo hi)) else .bad
 | _,_,_=>.bad
def eSl{α:Type}(g:D9->Option Int->Option Int->R α)(f:Sg->R D9)(lo hi:Sg->R (Option Int)):Sg->R α:=fun ρ=>(f ρ).bind fun x=>(lo ρ).bind fun l=>(hi ρ).bind fun h=>g x l h
def yH{K:Frag}{F:Hp}{vs:List V}{xs:List D9}(h:DatVs K F vs xs)(lo hi:Option Int):DatVs K F (o5 vs lo hi) (mT xs lo hi):=by
 unfold o5 mT
 rw[h.length]
 exact (h.drop _).take _
def PO.imp{X:Cx}{e:Option Expr}{t t':TO}(h:PO X e t)(i:∀ σ H Q,t' σ H Q->t σ H Q):PO X e t':=fun pins s σ H Q I q=>h pins s σ H Q I (i σ H Q q)
section
variable{X:Cx}{c:Ct}{E:XK}{e a b:Expr}{pos p2:Pos}{lo hi:Option Expr}
def aCJ:PO X none (tPf c E oNo):=PO.imp aJK fun σ H Q ⟨ρ,F,ab,k⟩=>Rk.ok k F H (Ext.refl ab.fh)
def aCK{f:Sg->R D9}(h:PR X c E e f):PO X (some e) (tPf c E (oSo f)):=PO.imp (aJL h) fun σ H Q ⟨ρ,F,ab,k⟩=>⟨ρ,F,ab,(Rk.bind k).imp fun x _ q v a H' s r=>by
 cases x with
 | int i=>exact ⟨i,aU.int_of r,Rk.ok q a H' s⟩
 | _=>exact q.elim⟩
def aND(c:Ct){α:Type}(Rb:VR α)(g:D9->Option Int->Option Int->R α):V->Option Int->Option Int->Hp->VK->Prop:=fun v lo hi H Q=>∃ F x d,aH F H/\aU c.K F H v x/\g x lo hi=.ok d/\∀ w F' H',Ext F H F' H'->Rb d w H F' H'->Q w H'
def aPQ(n:X.K=c.K):SlR X (aND c (bW c) dSl):=by
 intro pins s σ H v x g k lo hi sl Q I i m pl j h
 obtain ⟨F,d,w,b,f,a,q⟩:=h
 unfold dSl at a
 split at a
 .cases a
  obtain ⟨p,vs,rfl,h1,h2⟩:=aU.lst_of b f
  rw[<-n] at h1
  exact aJN pins s σ H _ x g k lo hi sl Q I i m pl j ⟨p,vs,rfl,h1,fun l e=>q _ _ _ (Ext.new b e) (.lst (SqL.of aT) ((yH h2 lo hi).same (aH.upd (a9 b e))))⟩
 .rename_i xs _ _
  split at a
  .rename_i hw
   cases a
   obtain ⟨p,vs,rfl,_,h1,h2⟩:=aU.tup_of b f
   rw[<-n] at h1
   exact aMR pins s σ H _ x g k lo hi sl Q I i m pl j ⟨p,vs,rfl,h1,by rw[h2.length];exact hw,fun l e=>q _ _ _ (Ext.new b e) (.tup (SqT.of aT) ((yH h2 lo hi).same (aH.upd (a9 b e))))⟩
  .cases a
 .split at a
  .rename_i hz
   cases a
   obtain rfl:=aU.str_of f
   exact aMZ pins s σ H _ x g k lo hi sl Q I i m pl j ⟨_,rfl,by rw[cV];exact hz,q _ F H (Ext.refl b) (.str _)⟩
  .cases a
 .cases a
def aJ9{α:Type}{Rb:VR α}{g:D9->Option Int->Option Int->R α}(o:∀ x l h e,g x l h≠.ex e)(u:yA Rb){f:Sg->R D9}{j fh:Sg->R (Option Int)}{σ:L2.St}{H:Hp}{Q:VK}(h:tV Rb c E (eSl g f j fh) σ H Q) :
  tSl (aND c Rb g) (tV (aZ c) c E f) (tPf c E j) (tPf c E fh) σ H Q:=by
 obtain ⟨ρ,F,ab,k⟩:=h
 refine ⟨ρ,F,ab,(Rk.bind k).imp fun x _ q v t H1 s1 r1=>⟨ρ,t,ab.ext s1,((Rk.bind q).ext s1).imp fun l _ q p H2 b=>⟨ρ,p,ab.ext (s1.trans b),((Rk.bind q).ext (s1.trans b)).imp fun hh _ q m H3 i=>?_⟩⟩⟩
 cases eg:g x l hh with
 | bad=>rw[eg] at q;exact q.elim
 | ex e=>exact absurd eg (o x l hh e)
 | ok d=>
  rw[eg] at q
  have a:=(s1.trans b).trans i
  exact ⟨m,x,d,i.fh,aU.ext (b.trans i) r1,eg,fun w n H' s r=>Rk.ok q w n H' (a.trans s) (u _ _ _ _ _ _ a.hh r)⟩
def aG1:∀ x l h e,dSl x l h≠.ex e:=by intro x l h e q;unfold dSl at q;split at q<;>(try split at q)<;>cases q
def rX{f:Sg->R D9}{a fh:Sg->R (Option Int)}(g:X.K=c.K)(i:PR X c E e f)(d:PO X lo (tPf c E a))(b:PO X hi (tPf c E fh)):PD X c E (.Subscript e (.Slice lo hi none p2) pos) (eSl dSl f a fh):=
 PE.imp (aGH (aPQ g) i d b) fun σ H Q h=>aJ9 aG1 (mJ c) h
def tyN:D9->String
 | .none=>"NoneType"
 | .bool _=>"bool"
 | .int _=>"int"
 | .str _=>"str"
 | .list _=>"list"
 | .tuple _=>"tuple"
 | .dict _=>"dict"
def jX(t T:String):Bool:=t == T || (T == "int" && t == "bool")
def iV(T:String)(x:D9):R D9:=match x with
 | .dict _=>.bad
 | x=>.ok (.bool (jX (tyN x) T))
structure Kit(K:Frag)(T:String):Prop where
 non:PySem.W.kitOne K (.type "NoneType") (.type T)=some (jX "NoneType" T)
 bl:PySem.W.kitOne K (.type "bool") (.type T)=some (jX "bool" T)
 int:PySem.W.kitOne K (.type "int") (.type T)=some (jX "int" T)
 str:PySem.W.kitOne K (.type "str") (.type T)=some (jX "str" T)
 lst:PySem.W.kitOne K (.type "list") (.type T)=some (jX "list" T)
 tup:PySem.W.kitOne K (.type "tuple") (.type T)=some (jX "tuple" T)
def aKA(K:Frag):Kit K "int":=⟨rfl,rfl,rfl,rfl,rfl,rfl⟩
def aG2(K:Frag):Kit K "list":=⟨rfl,rfl,rfl,rfl,rfl,rfl⟩
def wH(K:Frag):Kit K "tuple":=⟨rfl,rfl,rfl,rfl,rfl,rfl⟩
def aG3{X:Cx}:gG X (.builtin "isinstance") (fun xs H Q=>∃ a ys c cv b,xs=[.ref a,c]/\SqL X.K H a ys/\aB7 c=some cv/\PySem.W.kitOne X.K (.type "list") cv=some b/\Q (.bl b) H):=by
 intro pins s σ H xs us Q I r h
 obtain ⟨a,ys,c,cv,b,rfl,i,j,e,q⟩:=h
 obtain ⟨u,v,rfl,g,f⟩:=qF r
 obtain rfl:=uH j f
 cases (show u=Value.ref a from g)
 obtain ⟨d,_,pl,_⟩:=I.list i
 obtain ⟨o,h1,h2,_⟩:=pl.isList
 exact CD G5 I.kIn ⟨o,h1,h2⟩ e (fun z=>nomatch z) fun tk=>⟨.bl b,H,I.tok _,rfl,q⟩
def aG4(c:Ct)(T:String):List V->Hp->VK->Prop:=fun xs H Q=>∃ F x v d,xs=[v,.ty T]/\aH F H/\aU c.K F H v x/\iV T x=.ok d/\∀ w F' H',Ext F H F' H'->DatV c.K F' w d->Q w H'
def oF(g:X.K=c.K){T:String}(k:Kit X.K T):gG X (.builtin "isinstance") (aG4 c T):=by
 intro pins s σ H xs us Q I r h
 obtain ⟨F,x,v,d,rfl,a,f,e,q⟩:=h
 cases x with
 | dict _=>cases e
 | none=>
  cases e
  obtain rfl:=aU.non_of f
  exact kG pins s σ H _ us Q I r ⟨_,_,_,_,_,rfl,.pl .non,rfl,k.non,q _ F H (Ext.refl a) (.bl _)⟩
 | bool b=>
  cases e
  obtain rfl:=aU.bl_of f
  exact kG pins s σ H _ us Q I r ⟨_,_,_,_,_,rfl,.pl (.bl b),rfl,k.bl,q _ F H (Ext.refl a) (.bl _)⟩
 | int b=>
  cases e
  obtain rfl:=aU.int_of f
  exact kG pins s σ H _ us Q I r ⟨_,_,_,_,_,rfl,.pl (.int b),rfl,k.int,q _ F H (Ext.refl a) (.bl _)⟩
 | str b=>
  cases e
  obtain rfl:=aU.str_of f
  exact kG pins s σ H _ us Q I r ⟨_,_,_,_,_,rfl,.pl (.str b),rfl,k.str,q _ F H (Ext.refl a) (.bl _)⟩
 | tuple xs=>
  cases e
  obtain ⟨p,vs,rfl,_,h1,h2⟩:=aU.tup_of a f
  rw[<-g] at h1
  exact xS pins s σ H _ us Q I r ⟨p,vs,_,_,_,rfl,h1,rfl,k.tup,q _ F H (Ext.refl a) (.bl _)⟩
 | list xs=>
  cases e
  obtain ⟨p,vs,rfl,h1,h2⟩:=aU.lst_of a f
  rw[<-g] at h1
  exact aG3 pins s σ H _ us Q I r ⟨p,vs,_,_,_,rfl,h1,rfl,k.lst,q _ F H (Ext.refl a) (.bl _)⟩
def tL{T:String}{f:Sg->R D9}(h:PE X e (tCB (aG4 c T) (cT (tV (aZ c) c E f) (cT (tC (.ty T)) fO)))):PD X c E e (e1 (iV T) f):=PE.imp h fun σ H Q d=>by
 obtain ⟨ρ,F,ab,k⟩:=d
 refine ⟨ρ,F,ab,(Rk.bind k).imp fun x _ q v b H1 s1 r1=>?_⟩
 show aG4 c T [v,.ty T] H1 Q
 cases x with
 | dict _=>exact q.elim
 | none=>exact ⟨b,_,v,_,rfl,s1.fh,r1,rfl,fun w a H' s r=>Rk.ok q w a H' (s1.trans s) r⟩
 | bool _=>exact ⟨b,_,v,_,rfl,s1.fh,r1,rfl,fun w a H' s r=>Rk.ok q w a H' (s1.trans s) r⟩
 | int _=>exact ⟨b,_,v,_,rfl,s1.fh,r1,rfl,fun w a H' s r=>Rk.ok q w a H' (s1.trans s) r⟩
 | str _=>exact ⟨b,_,v,_,rfl,s1.fh,r1,rfl,fun w a H' s r=>Rk.ok q w a H' (s1.trans s) r⟩
 | list _=>exact ⟨b,_,v,_,rfl,s1.fh,r1,rfl,fun w a H' s r=>Rk.ok q w a H' (s1.trans s) r⟩
 | tuple _=>exact ⟨b,_,v,_,rfl,s1.fh,r1,rfl,fun w a H' s r=>Rk.ok q w a H' (s1.trans s) r⟩
def oG:List D9->Option (List Str)
 | []=>some []
 | .str s::t=>(oG t).map (s :: ·)
 | _=>none
theorem m8{K:Frag}{F:Hp}:∀ {vs:List V} {xs:List D9} {ys:List Str},DatVs K F vs xs->oG xs=some ys->vs=ys.map V.str
 | _,_,ys,.nil,e=>by cases e;rfl
 | _,_,ys,.cons (d:=d) (ds:=t) h h2,e=>by
  cases d with
  | str b=>
   unfold oG at e
   cases q:oG t with
   | none=>rw[q] at e;cases e
   | some cs=>
    rw[q] at e
    cases e
    rw[m8 h2 q,h.str_of];rfl
  | _=>cases e
def aCL:D9->D9->R D9
 | .str sep,.list xs=>match oG xs with
  | some ys=>if (ys.map fun y=>y.length).sum+ys.length * sep.length<=16777216 then .ok (.str (Txt.join sep ys)) else .bad
  | none=>.bad
 | _,_=>.bad
def aKB{f g:Sg->R D9}(l:X.K=c.K)(h:PE X e (tBM X.K "str" (aIR X.K) (tV (aZ c) c E f) (cT (tV (aZ c) c E g) fO)))(i:∀ ρ x,f ρ=.ok x->∃ z,x=.str z):PD X c E e (e2 aCL f g):=PE.imp h fun σ H Q ⟨ρ,F,ab,k⟩=>by
 refine ⟨ρ,F,ab,(Rk.bind k).imp fun x ex q v n H1 s1 r1=>?_⟩
 obtain ⟨z,rfl⟩:=i ρ x ex
 obtain rfl:=aU.str_of r1
 refine ⟨rfl,ρ,n,ab.ext s1,((Rk.bind q).ext s1).imp fun y _ q u j H2 b r2=>?_⟩
 cases y with
 | list xs=>
  have a:Rk c E F H (match oG xs with
   | some ys=>if (ys.map fun y=>y.length).sum+ys.length * z.length<=16777216 then R.ok (PyData.str (Txt.join z ys)) else .bad
   | none=>.bad) (fun d=>∀ v F' H',Ext F H F' H'->bW c d v H F' H'->Q v H'):=q
  split at a
  .rename_i ys m
   split at a
   .rename_i hz
    obtain ⟨p,vs,rfl,h1,h2⟩:=aU.lst_of b.fh r2
    rw[<-l] at h1
    obtain rfl:=m8 h2 m
    exact ⟨z,p,ys,rfl,rfl,h1,hz,Rk.ok a _ j H2 (s1.trans b) (.str _)⟩
   .exact a.elim
  .exact a.elim
 | _=>exact q.elim
def tM:D9->D9->R D9
 | .str z,.str y=>match Builtin.Str.occurrences z y 0 z.length 1 with
  | i::_=>.ok (.int i)
  | []=>.bad
 | _,_=>.bad
def aG5{f g:Sg->R D9}(h:PE X e (tBM X.K "str" aD1 (tV (aZ c) c E f) (cT (tV (aZ c) c E g) fO)))(j:∀ ρ x,f ρ=.ok x->∃ z,x=.str z):PD X c E e (e2 tM f g):=PE.imp h fun σ H Q ⟨ρ,F,ab,k⟩=>by
 refine ⟨ρ,F,ab,(Rk.bind k).imp fun x ex q v n H1 s1 r1=>?_⟩
 obtain ⟨z,rfl⟩:=j ρ x ex
 obtain rfl:=aU.str_of r1
 refine ⟨rfl,ρ,n,ab.ext s1,((Rk.bind q).ext s1).imp fun y _ q u l H2 b r2=>?_⟩
 cases y with
 | str y=>
  have a:Rk c E F H (match Builtin.Str.occurrences z y 0 z.length 1 with
   | i::_=>R.ok (PyData.int i)
   | []=>.bad) (fun d=>∀ v F' H',Ext F H F' H'->bW c d v H F' H'->Q v H'):=q
  split at a
  .rename_i i rest m
   obtain rfl:=aU.str_of r2
   exact ⟨z,y,i,rest,rfl,rfl,m,Rk.ok a _ l H2 (s1.trans b) (.int _)⟩
  .exact a.elim
 | _=>exact q.elim
end
def cK(kvs:List (D9×D9))(k:D9):Option D9:=(kvs.find? fun p=>decide (p.1=k)).map (·.2)
def bP(kvs:List (D9×D9))(k:D9):Bool:=(cK kvs k).isSome
def putM(kvs:List (D9×D9))(k v:D9):List (D9×D9):=if bP kvs k=true then kvs.map (fun p=>if p.1=k then (p.1,v) else p) else kvs++[(k,v)]
theorem uT{K:Frag}{F:Hp}{k:D9}:∀ {es:List Ent} {kvs:List (D9×D9)},es.map (·.1)=kvs.map (·.1)->DatVs K F (es.map (·.2.2)) (kvs.map (·.2))->
  (atE es k=none/\cK kvs k=none)\/∃ v d,atE es k=some v/\cK kvs k=some d/\DatV K F v d
 | [],[],_,_=>.inl ⟨rfl,rfl⟩
 | [],_::_,h,_=>by cases h
 | _::_,[],h,_=>by cases h
 | e::es,p::kvs,h,r=>by
  rw[AX,AX] at h r
  injection h with h1 h2
  obtain ⟨v,t,e1,r1,r2⟩:=r.cons_of
  rw[GB] at e1
  obtain ⟨rfl,rfl⟩:=e1
  have a:=uT (k:=k) h2 r2
  unfold atE cK at a ⊢
  rw[B4,B4,h1]
  by_cases q:p.1=k
  · rw [AV q]; exact .inr ⟨_, _, rfl, rfl, r1⟩
  · rw [AZ q]; exact a
def MapRel.get{K:Frag}{F:Hp}{es:List Ent}{a:List (D9×D9)}(m:MapRel K F es a)(k:D9):(atE es k=none/\cK a k=none)\/∃ v d,atE es k=some v/\cK a k=some d/\DatV K F v d:=uT m.k1 m.vs
def MapRel.has{K:Frag}{F:Hp}{es:List Ent}{c:List (D9×D9)}(m:MapRel K F es c)(k:D9):(atE es k).isSome=bP c k:=by
 unfold bP
 rcases m.get k with ⟨a,b⟩|⟨v,d,a,b,_⟩<;>rw[a,b]<;>rfl
def jB{a:List (D9×D9)}{k:D9}:bP a k=true↔k∈a.map (·.1):=by
 unfold bP cK
 rw[EM]
 induction a with
 | nil=>simp
 | cons p t ih=>
  rw[B4]
  by_cases q:p.1=k
  .rw[AV q];simp[q]
  .rw[AZ q,ih,AX]
   exact ⟨fun z=>AI _ z,fun z=>(AS.mp z).resolve_left (fun w=>q w.symm)⟩
def aEQ{a:List (D9×D9)}{k v:D9}:(putM a k v).map (·.1)=if bP a k=true then a.map (·.1) else a.map (·.1)++[k]:=by
 unfold putM
 cases h:bP a k with
 | true=>
  rw[if_pos rfl,if_pos rfl,CT]
  refine DE fun p _=>?_
  show (if p.1=k then (p.1,v) else p).1=p.1
  split<;>rfl
 | false=>rw[if_neg (by decide),if_neg (by decide),A8];rfl
theorem aAT{K:Frag}{F:Hp}{k d:D9}{v:V}(r:DatV K F v d):∀ {es:List Ent} {kvs:List (D9×D9)},es.map (·.1)=kvs.map (·.1)->DatVs K F (es.map (·.2.1)) (kvs.map (·.1))->DatVs K F (es.map (·.2.2)) (kvs.map (·.2))->
  (es.map fun e=>if e.1=k then (e.1,e.2.1,v) else e).map (·.1)=(kvs.map fun p=>if p.1=k then (p.1,d) else p).map (·.1) /\
  DatVs K F ((es.map fun e=>if e.1=k then (e.1,e.2.1,v) else e).map (·.2.1)) ((kvs.map fun p=>if p.1=k then (p.1,d) else p).map (·.1)) /\
  DatVs K F ((es.map fun e=>if e.1=k then (e.1,e.2.1,v) else e).map (·.2.2)) ((kvs.map fun p=>if p.1=k then (p.1,d) else p).map (·.2))
 | [],[],_,_,_=>⟨rfl,.nil,.nil⟩
 | [],_::_,h,_,_=>by cases h
 | _::_,[],h,_,_=>by cases h
 | e::es,p::kvs,h,rk,rv=>by
  rw[AX,AX] at h rk rv
  injection h with h1 h2
  obtain ⟨_,_,e1,r1,r2⟩:=rk.cons_of
  rw[GB] at e1
  obtain ⟨rfl,rfl⟩:=e1
  obtain ⟨_,_,e1,g,c⟩:=rv.cons_of
  rw[GB] at e1
  obtain ⟨rfl,rfl⟩:=e1
  obtain ⟨f,a,b⟩:=aAT r h2 r2 c
  simp only[AX]
  rw[h1,f]
  by_cases q:p.1=k
  · rw [if_pos q, if_pos q]; exact ⟨rfl, .cons r1 a, .cons r b⟩
  · rw [if_neg q, if_neg q]; exact ⟨by rw [h1], .cons r1 a, .cons g b⟩
def MapRel.put{K:Frag}{F:Hp}{es:List Ent}{c:List (D9×D9)}{k d:D9}{kv v:V}(m:MapRel K F es c)(l:DatV K F kv k)(r:DatV K F v d):MapRel K F (jU es k kv v) (putM c k d):=by
 have f:=m.has k
 have nd:((putM c k d).map (·.1)).Nodup:=by
  rw[aEQ]
  cases h:bP c k with
  | true=>rw[if_pos rfl];exact m.nd
  | false=>
   rw[if_neg (by decide),D0]
   refine ⟨m.nd,by simp,fun a i b e z=>?_⟩
   rw[AL] at e
   subst e z
   rw[jB.mpr i] at h
   cases h
 unfold jU
 rw[f]
 unfold putM at nd ⊢
 cases h:bP c k with
 | true=>
  rw[h,if_pos rfl] at nd
  rw[if_pos rfl,if_pos rfl]
  obtain ⟨j,g,n⟩:=aAT (k:=k) r m.k1 m.k2 m.vs
  exact ⟨j,g,n,nd⟩
 | false=>
  rw[h,if_neg (by decide)] at nd
  rw[if_neg (by decide),if_neg (by decide)]
  refine ⟨by rw[A8,A8,m.k1];rfl,?_,?_,nd⟩
  .rw[A8,A8];exact m.k2.append (.cons l .nil)
  .rw[A8,A8];exact m.vs.append (.cons r .nil)
theorem kR{K:Frag}{F:Hp}:∀ {es:List Ent} {kvs:List (D9×D9)},es.map (·.1)=kvs.map (·.1)->DatVs K F (es.map (·.2.1)) (kvs.map (·.1))->∀ e∈es,DatV K F e.2.1 e.1
 | [],_,_,_,e,he=>by cases he
 | _::_,[],h,_,_,_=>by cases h
 | e0::es,p::kvs,h,rk,e,he=>by
  rw[AX,AX] at h rk
  injection h with h1 h2
  obtain ⟨_,_,e1,r1,r2⟩:=rk.cons_of
  rw[GB] at e1
  obtain ⟨rfl,rfl⟩:=e1
  rcases AS.mp he with z|z
  · subst z; rw [h1]; exact r1
  · exact kR h2 r2 e z
section
variable{X:Cx}{c:Ct}{E:XK}{e a b:Expr}{st:Stmt}{pos:Pos}
def w9{ρ:Sg}{σ:L2.St}{F H:Hp}{i:Nat}{a:List (D9×D9)}{k:D9}{kv:V}(d:X.K=c.K)(hW:X.w=c.w)(ab:Ab c ρ σ F H)(hi:ρ[i]? = some (some (.m a)))(f:DatV c.K F kv k)(g:bJ k (a.map (·.1))=true) :
  ∃ p es,σ[i]? = some (some (.ref p))/\DicAt X H p es k kv/\MapRel c.K F es a:=by
 obtain ⟨v,h,p,es,rfl,⟨ep,h2⟩,n,l,b⟩:=ab.slot i _ hi
 refine ⟨p,es,h,⟨⟨ep,by rw[hW];exact h2⟩,fun e j=>by rw[d];exact (kR b.k1 b.k2 e j).same ab.fh,by rw[b.k1];exact b.nd,by rw[d];exact f.same ab.fh,by rw[b.k1];exact g⟩,b⟩
def aER{ρ:Sg}{σ:L2.St}{F H:Hp}{i:Nat}{a:List (D9×D9)}{k:D9}{kv:V}(d:X.K=c.K)(hW:X.w=c.g.w)(ab:Ab c ρ σ F H)(hi:ρ[i]? = some (some (.f a)))(h:DatV c.K F kv k)(j:bJ k (a.map (·.1))=true) :
  ∃ p es,σ[i]? = some (some (.ref p))/\DicAt X H p es k kv/\MapRel c.K F es a:=by
 obtain ⟨v,l,p,es,rfl,⟨ep,h2⟩,b⟩:=ab.slot i _ hi
 refine ⟨p,es,l,⟨⟨ep,by rw[hW];exact ab.fh _ _ h2⟩,fun e m=>by rw[d];exact (kR b.k1 b.k2 e m).same ab.fh,by rw[b.k1];exact b.nd,by rw[d];exact h.same ab.fh,by rw[b.k1];exact j⟩,b⟩
def aIW(w:World):TE:=fun _ H Q=>∀ p,H p=none->Q (.ref p) (upd H p (bZ w p [] 0))
def uU:PE X (.Dict [] [] pos) (aIW X.w):=fun pins s σ H Q I h=>
 wpAny_Dict_empty ⟨.ref s.heap.objs.size,_,I.laid (a:=s.heap.objs.size) (o:=bZ X.w s.heap.objs.size [] 0) (t':=s.toks) (fun _ _ q=>AE _ q) (AJ _)
  (f9 (E3.mpr (Ne.symm (A2 I.big))) ⟨_,#[],AT _ rfl,⟨rfl,rfl,rfl⟩,rfl,.nil⟩),rfl,h _ (I.hok.fresh (AJ _))⟩
def qK(i:Nat):Sg->R Fw:=fun ρ=>.ok (.nx (ρ.set i (some (.m []))))
def uV{i:Nat}{w:World}(hW:w=c.w)(h:PS X st (iR (aIW w) (h8 i))):PSf X c E st (qK i):=PS.imp h fun D σ H ⟨ρ,F,ab,k⟩=>fun p a=>by
 subst hW
 exact Rk.ok k _ F _ (bK F) (ab.setM (Ext.own ab.fh a) a aT (a9 ab.fh a) ⟨rfl,.nil,.nil,C7⟩)
def j9(neg:Bool)(i:Nat)(f:Sg->R D9):Sg->R D9:=fun ρ=>(f ρ).bind fun k=>match ρ[i]? with
 | some (some (.m kvs))=>if bJ k (kvs.map (·.1))=true then .ok (.bool (if neg=true then !bP kvs k else bP kvs k)) else .bad
 | some (some (.f kvs))=>if bJ k (kvs.map (·.1))=true then .ok (.bool (if neg=true then !bP kvs k else bP kvs k)) else .bad
 | _=>.bad
def yI(X:Cx)(neg:Bool):R2:=fun y x H Q=>∃ p es k,x=.ref p/\DicAt X H p es k y/\Q (.bl (if neg=true then !(atE es k).isSome else (atE es k).isSome)) H
def aAU(c:X.A.units+64 < cLine):OpR X (compareOp .In) (yI X false):=by
 intro pins s σ H y x v u Q I b a h
 obtain ⟨p,es,k,rfl,D,q⟩:=h
 cases (show u=Value.ref p from a)
 exact aM5 c D I b fun s' d=>⟨.bl _,H,d,rfl,q⟩
def rY(c:X.A.units+64 < cLine):OpR X (compareOp .NotIn) (yI X true):=by
 intro pins s σ H y x v u Q I b a h
 obtain ⟨p,es,k,rfl,D,q⟩:=h
 cases (show u=Value.ref p from a)
 exact aJ3 c D I b fun s' d=>⟨.bl _,H,d,rfl,q⟩
def yJ{i:Nat}{a:Bool}{f:Sg->R D9}(n:X.K=c.K)(hW:X.w=c.w)(o:c.w=c.g.w){σ:L2.St}{H:Hp}{Q:VK}(h:tV (bW c) c E (j9 a i f) σ H Q):tOp (yI X a) (tV (bW c) c E f) (fN i) σ H Q:=by
 obtain ⟨ρ,F,ab,k⟩:=h
 refine ⟨ρ,F,ab,(Rk.bind k).imp fun d _ q v l H1 s1 r1=>?_⟩
 split at q
 .rename_i b hi
  split at q
  .rename_i e
   obtain ⟨p,es,j,D,m⟩:=w9 n hW (ab.ext s1) hi r1 e
   refine ⟨_,j,p,es,d,rfl,D,?_⟩
   rw[m.has]
   exact Rk.ok q _ l H1 s1 (.bl _)
  .exact q.elim
 .rename_i b hi
  split at q
  .rename_i e
   obtain ⟨p,es,j,D,m⟩:=aER n (hW.trans o) (ab.ext s1) hi r1 e
   refine ⟨_,j,p,es,d,rfl,D,?_⟩
   rw[m.has]
   exact Rk.ok q _ l H1 s1 (.bl _)
  .exact q.elim
 .exact q.elim
def aES{i:Nat}{a:Bool}{op:CmpOp}{f:Sg->R D9}(d:X.K=c.K)(hW:X.w=c.w)(h:PE X e (tOp (yI X a) (tV (bW c) c E f) (fN i)))(b:c.w=c.g.w:=by rfl):PD X c E e (j9 a i f):=PE.imp h fun σ H Q q=>yJ d hW b q
def yK{i:Nat}{a:Bool}{f:Sg->R D9}(d:X.K=c.K)(hW:X.w=c.w)(h:PT X e (aBX (tOp (yI X a) (tV (bW c) c E f) (fN i))))(b:c.w=c.g.w:=by rfl):PTf X c E e (e1 asB (j9 a i f)):=PT.imp h fun σ H Q q=>yJ d hW b (qI q)
def jY(i:Nat)(f:Sg->R D9):Sg->R D9:=fun ρ=>match ρ[i]? with
 | some (some (.m kvs))=>(f ρ).bind fun k=>if bJ k (kvs.map (·.1))=true then match cK kvs k with
  | some v=>.ok v
  | none=>.bad else .bad
 | some (some (.f kvs))=>(f ρ).bind fun k=>if bJ k (kvs.map (·.1))=true then match cK kvs k with
  | some v=>.ok v
  | none=>.bad else .bad
 | _=>.bad
def aIX(X:Cx)(td ty:TE):TE:=fun σ H Q=>td σ H fun x H1=>ty σ H1 fun y H2=>∃ p es k v,x=.ref p/\DicAt X H2 p es k y/\atE es k=some v/\Q v H2
def lH{o i:Expr}{c ty:TE}(r:X.A.units+64 < cLine)(l:PE X o c)(hi:PE X i ty)(g:aM0 i):PE X (.Subscript o i pos) (aIX X c ty):=by
 intro pins s σ H Q I h
 refine aJS PySem.F.slot_dict_getitem.lookup g (thn (l pins s σ H _ I h) fun u s1 ⟨x,H1,q,f,t⟩=>thn (hi pins s1 σ H1 _ q t) fun C B b=>?_)
 obtain ⟨y,H2,d,m,p,es,k,v,ex,D,j,z⟩:=b
 subst ex
 obtain rfl:u=Value.ref p:=f
 obtain ⟨ep,e⟩:=D.o
 obtain ⟨⟨_,o',ar,h1,h2,_⟩,_,_⟩:=(show b8 X.prog X.w H2 B.heap p (bZ X.w p es ep) from d.hok p _ e)
 exact ⟨⟨o',h1,h2.1⟩,aJ4 r D d m j fun E G n a=>⟨v,H2,n,a,z⟩⟩
def lI{i:Nat}{f:Sg->R D9}(t:X.K=c.K)(hW:X.w=c.w)(h:PE X e (aIX X (fN i) (tV (bW c) c E f)))(x:c.w=c.g.w:=by rfl):PD X c E e (jY i f):=PE.imp h fun σ H Q ⟨ρ,F,ab,k⟩=>by
 unfold jY at k
 split at k
 .rename_i o hi
  obtain ⟨_,j,p,es,rfl,_⟩:=ab.slot i _ hi
  refine ⟨_,j,ρ,F,ab,(Rk.bind k).imp fun d _ q v n H1 s1 r1=>?_⟩
  split at q
  .rename_i r
   obtain ⟨u,b,a,D,m⟩:=w9 t hW (ab.ext s1) hi r1 r
   rw[j] at a
   cases a
   split at q
   .rename_i w hw
    rcases m.get d with ⟨_,z⟩|⟨l,d',h1,h2,s⟩
    .rw[hw] at z;cases z
    .rw[hw] at h2
     cases h2
     exact ⟨p,b,d,l,rfl,D,h1,Rk.ok q l n H1 s1 s⟩
   .exact q.elim
  .exact q.elim
 .rename_i o hi
  obtain ⟨_,j,p,es,rfl,_⟩:=ab.slot i _ hi
  refine ⟨_,j,ρ,F,ab,(Rk.bind k).imp fun d _ q v n H1 s1 r1=>?_⟩
  split at q
  .rename_i r
   obtain ⟨u,b,a,D,m⟩:=aER t (hW.trans x) (ab.ext s1) hi r1 r
   rw[j] at a
   cases a
   split at q
   .rename_i w hw
    rcases m.get d with ⟨_,z⟩|⟨l,d',h1,h2,s⟩
    .rw[hw] at z;cases z
    .rw[hw] at h2
     cases h2
     exact ⟨p,b,d,l,rfl,D,h1,Rk.ok q l n H1 s1 s⟩
   .exact q.elim
  .exact q.elim
 .exact k.elim
def k8(i:Nat)(f g:Sg->R D9):Sg->R Fw:=fun ρ=>(g ρ).bind fun v=>match ρ[i]? with
 | some (some (.m kvs))=>(f ρ).bind fun k=>if bJ k (kvs.map (·.1))=true/\kvs.length<=16777216 then .ok (.nx (ρ.set i (some (.m (putM kvs k v))))) else .bad
 | _=>.bad
def aIY(X:Cx):aBT:=fun o i v H Q=>∃ p es k,o=.ref p/\DicAt X H p es k i/\es.length<=sizeLine/\∀ ep,Q (upd H p (bZ X.w p (jU es k i v) ep))
def oH(f:X.A.units+64 < cLine):aF7 X (aIY X):=by
 intro pins s σ H o i v e g u Q I d b c h
 obtain ⟨p,es,k,rfl,D,hz,q⟩:=h
 cases (show e=Value.ref p from d)
 exact aJ5 f D I b c hz fun ep s' a=>⟨_,a,q ep⟩
def qL{i:Nat}{f g:Sg->R D9}(t:X.K=c.K)(hW:X.w=c.w)(h:PS X st (iR (tV (bW c) c E g) (aF9 (fN i) (tV (bW c) c E f) (aIY X)))):PSf X c E st (k8 i f g):=PS.imp h fun D σ H ⟨ρ,F,ab,k⟩=>by
 refine ⟨ρ,F,ab,(Rk.bind k).imp fun x _ q v z H1 s1 r1=>?_⟩
 split at q
 .rename_i l hi
  have a:=ab.ext s1
  obtain ⟨_,o,p,es,rfl,_⟩:=a.slot i _ hi
  refine ⟨_,o,ρ,z,a,((Rk.bind q).ext s1).imp fun d _ q u s H2 n r2=>?_⟩
  have b:=a.ext n
  split at q
  .rename_i r
   obtain ⟨A,e,j,y,m⟩:=w9 t hW b hi r2 r.1
   rw[o] at j
   cases j
   refine ⟨p,e,d,rfl,y,?_,?_⟩
   .have:e.length=l.length:=by have:=DW List.length m.k1;simpa using this
    rw[this,cV];exact r.2
   .intro ep
    rw[hW]
    exact Rk.ok q σ s _ (s1.trans n).ff (b.putM hi o (m.put r2 (DatV.same n.ff r1)))
  .exact q.elim
 .exact q.elim
end
section
variable{X:Cx}{c:Ct}{E:XK}{e a b:Expr}{st:Stmt}{pos p2:Pos}
def aCM(fs:D9->Sg->Option Sg)(f:Sg->R D9):Sg->R Fw:=fun ρ=>(f ρ).bind fun x=>(rU (fs x ρ)).bind fun ρ'=>.ok (.nx ρ')
def aET{g:TG}{fs:D9->Sg->Option Sg}{is:List Nat}{f:Sg->R D9}(i:Tg c g fs is)(h:PS X st (iR (tV (bW c) c E f) g)):PSf X c E st (aCM fs f):=PS.imp h fun D σ H a=>by
 obtain ⟨ρ,F,ab,k⟩:=a
 refine ⟨ρ,F,ab,(Rk.bind k).imp fun x _ q v e H1 s1 r1=>?_⟩
 cases h1:fs x ρ with
 | none=>rw[h1] at q;exact q.elim
 | some ρ'=>
  rw[h1] at q
  exact i v x ρ ρ' σ e H1 _ (ab.ext s1) r1 h1 fun d _ _ b=>Rk.ok q d e H1 s1.ff b
def aNE:D9->R D9
 | .str z=>if z.length<=16777216 then .ok (.str ⟨z.cps.toList.reverse.toArray⟩) else .bad
 | _=>.bad
def aQ1(f:Sg->R D9)(g:Sg->R (Option Int)):Sg->R D9:=fun ρ=>(f ρ).bind fun x=>(g ρ).bind fun o=>if o=some (-1) then aNE x else .bad
end
def aNF{P:Program}{w:World}{K:Frag}{mg:Str->Option V9}{base:Heap}{T:Hp}{x:Str}{st:Stmt}{N ps:List Str}{k:Nat}{f:Az}{fd:FuncData}{fb:Sg->R Fw}(c:Fun K x x st f fd)(S:FnScope N ps (aL st))
  (a:∀ (cdv:V9) (A:Around) (outer:List Env) (s:S9) (H F:Hp) (E:XK),Room k (A.deeper (envOfC x (aL st) s.heap.objs.size f cdv))->
   jW ((iS (CXe P w) P w K mg base N x (aL st) f cdv A outer s H E).fly E) ⟨K,mg,w,F,H,gOf P w K mg base T,(envOfC x (aL st) s.heap.objs.size f cdv).cells,fun _=>none⟩ E (cL st) fb):FnOk P w K mg base (CXe P w) (k+1) f fd ps (spF (gOf P w K mg base T) K mg ps.length (fnF N.length fb)):=by
 refine c.okX S (fun vs H Q E h=>?_) (fun cdv A outer s H vs Q E d h=>?_)
 .obtain ⟨F,g,_,_,h2,b,_⟩:=h
  rw[h2.len,b]
 .obtain ⟨F,g,h0,h1,h2,b,e⟩:=h
  exact ⟨_,a cdv A outer s H F E d,qJ h0 h1 h2 e⟩
def aCN(K:Frag)(T:Hp):Sp:=fun vs H Q _=>∃ (a:Az) (ns:List Int),vs=[.ref a]/\ns.length<=63/\aH T H/\SqL K H a (ns.map V.int)/\∀ H',Q (.bl true) H'
theorem yL{K:Frag}{H:Hp}:∀ (ns:List Int),DatVs K H (ns.map V.int) (ns.map PyData.int)
 | []=>.nil
 | n::t=>.cons (.int n) (yL t)
def aNG{P:Program}{w:World}{K:Frag}{mg:Str->Option V9}{base:Heap}{T:Hp}{k:Nat}{f:Az}{fd:FuncData}{x:Str}{G:List A->R A}(h:FnOk P w K mg base (CXe P w) k f fd [x] (spF (gOf P w K mg base T) K mg 1 G))
  (b:∀ ns:List Int,ns.length<=63->G [.d (.list (ns.map .int))]=.ok (.d (.bool true))):FnOk P w K mg base (CXe P w) k f fd [x] (aCN K T):=h.imp fun vs H Q E=>by
 rintro ⟨a,ns,rfl,hn,ht,hs,q⟩
 refine ⟨H,[.d (.list (ns.map .int))],ht,bK H,⟨.lst hs (yL ns),trivial⟩,rfl,?_⟩
 rw[b ns hn]
 intro v c H' _ r
 obtain rfl:=DatV.bl_of r
 exact q H'
def aPR(P:Program)(w:World)(H:Hp)(s:S9)(e:V9)(s':S9)(h:CXe P w [] H s (fun _ _ _=>False) e s'):False:=by
 obtain ⟨_,_,_,_,_,_,_,_,_,_,_,q⟩:=h
 exact q
def aKC{l:PySem.W.OpenLaw}{k:Nat}{q:Program}{b:List Str}{y:(Str->Option V9)->Heap->Prop}{j:World->Heap->Prop}{d:DefRec}{K:Params->Frag}{x:Str}{qs:List (Pos×Str)}{xs:List Str}
  (c:∀ x∈xs,∃ d∈recsOf q,d.name=x) (hNT:∀ w:World,PySem.W.noTabs (K w.params)=true)
  (t:l.most=some 63) (i:d.params.defaults=[]) (m:Room k callerA)
  (v:∀ (w:World) (h:Heap),j w h->(K w.params).In h)
  (F:∀ (w:World) (mg:Str->Option V9) (fa:Az) (h:Heap),(K w.params).In h->h.Ns mainGlobals mg->mg d.name=some (.ref fa)->
   ∃ fd:FuncData,(∀ (s:S9) (u:V9),BindsTo s fd ⟨[u],[]⟩ [(x,u)]) /\
    ∀ (base:Heap) (T:Hp),(K w.params).In base->base.Ns mainGlobals mg->x4 mg h base T qs xs->FnOk l.prog w (K w.params) mg base (CXe l.prog w) k fa fd [x] (aCN (K w.params) T)) :
  PySem.W.WalkO q b y j l.row.toRowW d [] (fun f vs=>PySem.call f vs):=
 walk_ofT (K:=K) (CX:=fun w=>CXe l.prog w) (qs:=qs) (xs:=xs) c hNT t (by decide) i m v (fun w mg fa h h1 h2 g=>by
  obtain ⟨fd,r,o⟩:=F w mg fa h h1 h2 g
  exact ⟨fd,r,fun base T h1 h2 g=>⟨_,o base T h1 h2 g,fun H a ns p A n=>⟨a,ns,rfl,p,A,n,fun _=>rfl⟩⟩⟩) fun w H s e s' z=>aPR _ w H s e s' z
variable{X:Cx}{c:Ct}{E:XK}{e:Expr}
def d2(G:Int->Int->Int):D9->D9->R D9
 | .int i,.int j=>.ok (.int (G i j))
 | _,_=>.bad
def d1(G:Int->Int):D9->R D9
 | .int i=>.ok (.int (G i))
 | _=>.bad
def yM(i j:Int):Int:=if j > i then j else i
def yN(i j:Int):Int:=if j < i then j else i
def aEU{G:Int->Int->Int}{f g:Sg->R D9}(h0:PE X e (tCB (fun xs H Q=>∃ i j,xs=[.int i,.int j]/\Q (.int (G i j)) H) (cT (tV (aZ c) c E f) (cT (tV (aZ c) c E g) fO)))):PD X c E e (e2 (d2 G) f g):=PE.imp h0 fun σ H Q a=>by
 obtain ⟨ρ,F,ab,k⟩:=a
 refine ⟨ρ,F,ab,(Rk.bind k).imp fun x ex q v b H1 s1 r1=>?_⟩
 refine ⟨ρ,b,ab.ext s1,((Rk.bind q).ext s1).imp fun y _ q u d H2 h r2=>?_⟩
 cases x with
 | int i=>
  cases y with
  | int j=>
   obtain rfl:=aU.int_of r1
   obtain rfl:=aU.int_of r2
   exact ⟨i,j,rfl,Rk.ok q _ d H2 (s1.trans h) (.int _)⟩
  | _=>exact q.elim
 | _=>exact q.elim
end Fl
namespace L2
open PySem PyProof.Rows
variable{X:Cx}
end L2
namespace Fl
open PySem L2 PyProof.Rows
variable{X:Cx}{c:Ct}{E:XK}{e:Expr}
variable{X:Cx}{c:Ct}{E:XK}{e:Expr}{st:Stmt}
end Fl
namespace L2
open PySem PyProof.Rows
def aKD{prog:Program}{w:World}{A:Around}{E:V9->S9->Prop}{s:S9}{t b:Az}{vs ws:List V9}{Q:V9->S9->Prop}(m:PlainL s.heap t vs.toArray)(o:PlainL s.heap b ws.toArray)
  (h2:Q (.ref s.heap.objs.size) {s with heap:=s.heap.push {cls:=.type "list",data:=.seq (vs++ws).toArray}})
  (hsz:vs.length+ws.length<=sizeLine):wpAny (model prog w) A (binaryOp .Add (.ref t) (.ref b)) Q E s:=by
 obtain ⟨⟨cls,dd,data,sl⟩,n,l,k,_,j⟩:=id m
 obtain ⟨⟨i,h,g,f⟩,n2,d,a,_,c⟩:=id o
 simp only at k j a c
 subst k j a c
 have e:vs.toArray++ws.toArray=(vs++ws).toArray:=by simp
 refine concat_meets ⟨_,l,rfl⟩ ⟨_,d,rfl⟩ noFill_list_add seq_list_add PySem.F.slot_list_add PySem.F.entry_list_add (PySem.F.args_list_add_2 _ _)
   (list_addW t b vs.toArray ws.toArray n n2 dd h sl f (by rw[AY,AY];exact hsz)) ⟨l,d,?_⟩
 rw[e]
 exact h2
end L2
namespace Fl
open PySem L2 PyProof.Rows
section
variable{X:Cx}{c:Ct}{E:XK}{e a b:Expr}{pos:Pos}
def kU:D9->D9->R (List D9)
 | .list xs,.list ys=>if xs.length+ys.length<=sizeLine then .ok (xs++ys) else .bad
 | _,_=>.bad
def aKE(w:X.K=c.K):OpR X (binaryOp .Add) (r2D (aZ c) (aZ c) (rS c) kU):=by
 intro pins s σ H v u x y Q I o t h
 obtain ⟨C,H1,F,a,b,d,g,p,z,e,q⟩:=h
 unfold kU at e
 split at e
 .rename_i xs ys
  split at e
  .rename_i hz
   cases e
   obtain ⟨D,vs,rfl,n,m⟩:=aU.lst_of g p
   obtain ⟨B,us,rfl,k,l⟩:=aU.lst_of g z
   rw[<-w] at n k
   cases o
   cases t
   obtain ⟨A,r1,r,_⟩:=I.list n
   obtain ⟨j,r2,p2,_⟩:=I.list k
   have f:vs.length+us.length<=sizeLine:=by rw[m.length,l.length];exact hz
   have i:=I.fresh
   refine aKD r p2 ?_ (by rw[<-r1.length,<-r2.length];exact f)
   exact ⟨.ref _,_,I.lnew (t':=s.toks) (r1.append r2) (by rw[BD];exact f),rfl,q _ F _ (Ext.own g i) ⟨_,_,rfl,i,aT,a9 g i,m.append l⟩⟩
  .cases e
 .cases e
def aEV:cJ kU:=by
 intro a b e h
 unfold kU at h
 split at h<;>(try split at h)<;>cases h
def yO(g:X.K=c.K){d fb:Sg->R D9}(e:PR X c E a d)(f:PR X c E b fb):PN X c E (.BinOp a .Add b pos) (e2 kU d fb):=
 PE.imp (aBW (aKE g) e f) fun σ H Q h=>tV2 tF aEV (pA c) (aPL c) h
end
def qB{H:Hp}{p:Az}{a b:HO}:upd (upd H p a) p b=upd H p b:=by
 funext x
 by_cases q:x=p
 · subst q; rw [aT, aT]
 · rw [aG q, aG q, aG q]
section
variable{X:Cx}{pins:List (Az×Obj)}{σ:L2.St}{H:Hp}{s:S9}{a:Az}{es:List Ent}{k:D9}{kv v:V}{ku u:V9}{A:Around}{E:V9->S9->Prop}
def aCO{A:Around}(a:A.units+64 < cLine):(iE X.prog X.w).room A:=by show A.units+9 < cLine;omega
def aKF{Q:Unit->S9->Prop}(y:A.units+64 < cLine)(D:DicAt X H a es k kv)(I:Inv X pins σ H s)(x:aY kv ku)(q:aY v u)(hz:es.length<=sizeLine)(h:∀ ep s',Inv X pins σ (upd H a (bZ X.w a (jU es k kv v) ep)) s'->Q () s') :
  wpAny (model X.prog X.w) A (dictSet a ku u) Q E s:=by
 obtain ⟨r,⟨b,xs,rfl,rfl,hx,l,dd⟩|⟨z,xs,rfl,rfl,hx,l,dd⟩⟩:=D.cases I x
 .have i:xs.length<=sizeLine:=by rw[<-Paired.length hx];exact hz
  refine wpAny_dictSet_heap (a:=b) (aCO y) l dd (fun h' c m=>?_) i
  obtain ⟨d,ar,ep,e,h2,n,j,_,t⟩:=c
  obtain ⟨f,g⟩:=D.o
  refine h ep _ (jI I (by rw[g];exact True.intro) m ⟨d,e⟩ (f9 r ⟨d,ar,e,h2,n,?_⟩))
  rw[j]
  exact lT (w5 q hx)
 .have i:xs.length<=sizeLine:=by rw[<-Paired.length hx];exact hz
  refine wpAny_dictSet_pairs l dd (fun h' c m=>?_) i
  obtain ⟨d,ar,ep,e,h2,n,j,t,_⟩:=c
  obtain ⟨f,g⟩:=D.o
  refine h ep _ (jI I (by rw[g];exact True.intro) m ⟨d,e⟩ (f9 r ⟨d,ar,e,h2,n,?_⟩))
  exact lU (w6 q hx) t fun en p=>j en (by simpa using p)
end
abbrev TP:=L2.St->Hp->(List (V×V)->Hp->Prop)->Prop
def aNH(p:V×V)(u:V9×V9):Prop:=aY p.1 u.1/\aY p.2 u.2
def PPr(X:Cx)(keys:List (Option Expr))(vals:List Expr)(t:TP):Prop:=∀ (pos:Pos) (pins:List (Az×Obj)) (s:S9) (σ:L2.St) (H:Hp) (Q:List (V×V)->Hp->Prop),Inv X pins σ H s->t σ H Q->
 wpAny (model X.prog X.w) X.A (evalPairs (pairTrees keys vals X.env pos)) (fun vs s'=>∃ ps H',Inv X pins σ H' s'/\Paired aNH ps vs/\Q ps H') X.xe s
def aPS:TP:=fun _ H Q=>Q [] H
def aNI(tk tv:TE)(t:TP):TP:=fun σ H Q=>tk σ H fun x H1=>tv σ H1 fun y H2=>t σ H2 fun ps H3=>Q ((x,y)::ps) H3
section
variable{X:Cx}{c:Ct}{E:XK}{e a b:Expr}{st:Stmt}{pos:Pos}
def aNJ:PPr X [] [] aPS:=fun pos pins s σ H Q I h=>evalPairs_nil ⟨[],H,I,.nil,h⟩
def aKG{k v:Expr}{ks:List (Option Expr)}{vs:List Expr}{tk b:TE}{t:TP}(f:PE X k tk)(i:PE X v b)(c:PPr X ks vs t):PPr X (some k::ks) (v::vs) (aNI tk b t):=by
 intro pos pins s σ H Q I h
 rw[pairTrees.eq_1]
 refine evalPairs_cons (thn (f pins s σ H _ I h) fun ku s1 a=>?_)
 obtain ⟨x,H1,o,r1,n⟩:=a
 refine AB (thn (i pins s1 σ H1 _ o n) fun p g a=>?_)
 obtain ⟨y,H2,j,r2,d⟩:=a
 refine AB (DV (AD ?_))
 exact thn (c pos pins g σ H2 _ j d) fun vs q ⟨ps,H3,e,m,l⟩=>⟨(x,y)::ps,H3,e,.cons ⟨r1,r2⟩ m,l⟩
def dA:List (D9×D9)->List (D9×D9)->R (List (D9×D9))
 | acc,[]=>.ok acc
 | acc,(k,v)::t=>if bJ k (acc.map (·.1))=true/\acc.length<=16777216 then dA (putM acc k v) t else .bad
def aG6(K:Frag)(F:Hp)(p:V×V)(d:D9×D9):Prop:=DatV K F p.1 d.1/\DatV K F p.2 d.2
def aEW{pins:List (Az×Obj)}{σ:L2.St}{p:Az}{F:Hp}(J:X.A.units+64 < cLine)(b:List (D9×D9)):∀ (ps:List (V×V)) (vs:List (V9×V9)) (acc res:List (D9×D9)) (es:List Ent) (ep:Nat) (H:Hp) (s:S9) (Q:S9->Prop),
  Inv X pins σ H s->aH F H->F p=none->H p=some (bZ X.w p es ep)->MapRel X.K F es acc->Paired (aG6 X.K F) ps b->Paired aNH ps vs->dA acc b=.ok res->
  (∀ es' ep' s',Inv X pins σ (upd H p (bZ X.w p es' ep')) s'->MapRel X.K F es' res->Q s')->wpAny (model X.prog X.w) X.A (storeAll p vs) (fun _ s=>Q s) X.xe s:=by
 induction b with
 | nil=>
  intro ps vs acc res es ep H s Q I f j y m d r e q
  cases d
  cases r
  cases e
  have g:storeAll p []=pure PUnit.unit:=by unfold storeAll;rw[EQ]
  rw[g]
  refine AD (q es ep s ?_ m)
  have:upd H p (bZ X.w p es ep)=H:=by
   funext x
   by_cases z:x=p
   .subst z;rw[aT,y]
   .rw[aG z]
  rw[this];exact I
 | cons kv t ih=>
  obtain ⟨k,v⟩:=kv
  intro ps vs acc res es ep H s Q I f j y m d r e q
  cases d with
  | @cons x _ ps _ d ds=>
   cases r with
   | @cons _ u _ vs r rs=>
    unfold dA at e
    split at e
    .rename_i g
     have D:DicAt X H p es k x.1:=⟨⟨ep,y⟩,fun e L=>(kR m.k1 m.k2 e L).same f,by rw[m.k1];exact m.nd,d.1.same f,by rw[m.k1];exact g.1⟩
     have G:es.length<=sizeLine:=by
      have:es.length=acc.length:=by simpa using congrArg List.length m.k1
      rw[this,cV];exact g.2
     have B:storeAll p (u::vs)=(do dictSet p u.1 u.2;storeAll p vs):=by
      unfold storeAll
      rw[CN]
      simp
     rw[B]
     refine AB (aKF J D I r.1 r.2 G fun h s' C=>?_)
     have E:=m.put d.1 d.2
     have n:aH F (upd H p (bZ X.w p (jU es k x.1 x.2) h)):=fun a o z=>by rw[aG (bC z j)];exact f a o z
     refine ih ps vs _ res _ _ _ s' Q C n j aT E ds rs e fun es' ep' i c l=>?_
     rw[qB] at c
     exact q es' ep' i c l
    .cases e
def aIZ(X:Cx)(tp:TP):TE:=fun σ H Q=>∀ p,H p=none->tp σ (upd H p (bZ X.w p [] 0)) fun ps H2=>∃ (F:Hp) (kvs res:List (D9×D9)),aH F H2/\F p=none/\H2 p=some (bZ X.w p [] 0)/\Paired (aG6 X.K F) ps kvs/\dA [] kvs=.ok res /\
 ∀ es' ep',MapRel X.K F es' res->Q (.ref p) (upd H2 p (bZ X.w p es' ep'))
def aAV{b:List (Option Expr)}{c:List Expr}{k:TP}(y:X.A.units+64 < cLine)(h:PPr X b c k)(h1:(b.all fun x=>x.isSome)=true:=by rfl)(h2:b.length=c.length:=by rfl)(h3:b≠[]:=by exact fun z=>nomatch z)(h4:b.length<=15:=by decide):PE X (.Dict b c pos) (aIZ X k):=by
 intro pins s σ H Q I q
 have C:=I.laid (a:=s.heap.objs.size) (o:=bZ X.w s.heap.objs.size [] 0) (t':=s.toks) (fun _ _ q=>AE {cls:=.type "dict",data:=.dict #[]} q) (AJ _)
  (f9 (E3.mpr (Ne.symm (A2 I.big))) ⟨_,#[],AT _ rfl,⟨rfl,rfl,rfl⟩,rfl,.nil⟩)
 have B:=q _ (I.hok.fresh (AJ _))
 refine wpAny_Dict_any h1 h2 h3 h4 (thn (h pos pins _ σ _ _ C B) fun vs t f=>?_)
 obtain ⟨ps,H2,u,r,F,g,res,n,p,v,d,e,z⟩:=f
 exact aEW y g ps vs [] res [] 0 H2 t _ u n p v ⟨rfl,.nil,.nil,C7⟩ d r e fun i j s' l m=>⟨.ref s.heap.objs.size,_,l,rfl,z i j m⟩
def aNK(c:Ct)(E:XK)(f:Sg->R (List (D9×D9))):TP:=fun σ H Q=>∃ ρ F,Ab c ρ σ F H/\Rk c E F H (f ρ) fun kvs=>∀ ps F' H',Ext F H F' H'->Paired (aG6 c.K F') ps kvs->Q ps H'
abbrev PPf(X:Cx)(c:Ct)(E:XK)(keys:List (Option Expr))(vals:List Expr)(f:Sg->R (List (D9×D9))):Prop:=PPr X keys vals (aNK c E f)
def PPr.imp{X:Cx}{ks:List (Option Expr)}{vs:List Expr}{t t':TP}(h:PPr X ks vs t)(i:∀ σ H Q,t' σ H Q->t σ H Q):PPr X ks vs t':=fun pos pins s σ H Q I q=>h pos pins s σ H Q I (i σ H Q q)
def yP:Sg->R (List (D9×D9)):=fun _=>.ok []
def tN(f g:Sg->R D9)(r:Sg->R (List (D9×D9))):Sg->R (List (D9×D9)):=fun ρ=>(f ρ).bind fun x=>(g ρ).bind fun y=>(r ρ).bind fun t=>.ok ((x,y)::t)
def aAW:PPf X c E [] [] yP:=PPr.imp aNJ fun σ H Q ⟨ρ,F,ab,k⟩=>Rk.ok k [] F H (Ext.refl ab.fh) .nil
def yQ{k v:Expr}{ks:List (Option Expr)}{vs:List Expr}{f g:Sg->R D9}{r:Sg->R (List (D9×D9))}(i:PD X c E k f)(j:PD X c E v g)(h:PPf X c E ks vs r):PPf X c E (some k::ks) (v::vs) (tN f g r):=PPr.imp (aKG i j h) fun σ H Q b=>by
 obtain ⟨ρ,F,ab,k⟩:=b
 refine ⟨ρ,F,ab,(Rk.bind k).imp fun x _ q v n H1 s1 r1=>?_⟩
 refine ⟨ρ,n,ab.ext s1,((Rk.bind q).ext s1).imp fun y _ q u l H2 a r2=>?_⟩
 refine ⟨ρ,l,ab.ext (s1.trans a),((Rk.bind q).ext (s1.trans a)).imp fun t _ q ps e H3 d m=>?_⟩
 exact Rk.ok q _ e H3 ((s1.trans a).trans d) (.cons ⟨DatV.same (a.trans d).ff r1,DatV.same d.ff r2⟩ m)
def tO(i:Nat)(f:Sg->R (List (D9×D9))):Sg->R Fw:=fun ρ=>(f ρ).bind fun kvs=>(dA [] kvs).bind fun res=>.ok (.nx (ρ.set i (some (.m res))))
theorem pH:∀ (kvs acc:List (D9×D9)) (x:Er),dA acc kvs≠.ex x
 | [],acc,x,h=>by cases h
 | (k,v)::t,acc,x,h=>by
  unfold dA at h
  split at h
  · exact pH t _ x h
  · cases h
def aAX{i:Nat}{f:Sg->R (List (D9×D9))}(t:X.K=c.K)(hW:X.w=c.w)(h:PS X st (iR (aIZ X (aNK c E f)) (h8 i))):PSf X c E st (tO i f):=PS.imp h fun D σ H ⟨ρ,F,ab,k⟩=>fun p g=>by
 have e1:=Ext.own (F:=F) (o:=bZ X.w p [] 0) ab.fh g
 refine ⟨ρ,F,ab.ext e1,((Rk.bind k).ext e1).imp fun d _ q ps j H2 b r2=>?_⟩
 have l:j p=none:=b.stay (a9 ab.fh g) aT (fun _ z=>x9 z)
 have h2:H2 p=some (bZ X.w p [] 0):=b.hh _ _ aT
 cases e:dA [] d with
 | bad=>rw[e] at q;exact q.elim
 | ex x=>exact absurd e (pH _ _ _)
 | ok res=>
  rw[e] at q
  refine ⟨j,d,res,b.fh,l,h2,by rw[t];exact r2,e,fun r s m=>?_⟩
  have e3:Ext F H j (upd H2 p (bZ X.w p r s)):=by
   refine ⟨fun a o z=>?_,b.ff,fun a o z=>?_,fun a z n=>?_⟩
   .have ne:a≠p:=bC z g
    rw[aG ne]
    exact b.hh a o (by rw[aG ne];exact z)
   .rw[aG (bC z l)];exact b.fh a o z
   .have:=b.nw a z n
    by_cases w:a=p
    · subst w; exact .inl g
    · unfold mI at this; rw [aG w] at this; exact this
  rw[hW] at e3 ⊢
  rw[t] at m
  exact Rk.ok q _ j _ b.ff (ab.setM e3 g aT l m)
end
end Fl
namespace L2
open PySem PySem.Spec PyProof.Rows
def aNL(X:Cx)(T:String)(r:V->List V->Hp->VK->Prop)(to:TE)(t:TA):TE:=fun σ H Q=>to σ H fun x H1=>(∀ (pins:List (Az×Obj)) (s:S9) (v:V9),Inv X pins σ H1 s->aY x v->s.TypeIs v T/\∀ a,v=.ref a->∃ ob,s.heap.get? a=some ob/\ob.dict=none)/\t σ H1 fun xs H2=>r x xs H2 Q
def aNM{X:Cx}{o e:Expr}{es:List Expr}{to:TE}{t:TA}{name:Str}{apos cpos:Pos}{T id:String}{r:V->List V->Hp->VK->Prop}(g:PlainAttrs T)(slot:Slot T name id)(c:typeOf (.builtin id)=pure (.type "method_descriptor"))(m:MtR X id r)(n:PE X o to)(j:PA X (e::es) t)
  (a:attributeBase o name X.env (eval o X.env)=eval o X.env:=by rfl)
  (hfew:((backTo cpos (starEach (e::es) X.env)).all (fun x=>!x.1) && (backToKw cpos (keywordEach [] X.env)).all (fun x=>x.1.isSome)
   && decide ((e::es).length+([]:List Keyword).length+(if ([]:List Keyword).isEmpty then 0 else 1) < 30))=true:=by rfl)
  (hline:(apos.endLine == cpos.line)=true:=by rfl) (hs:starEach (e::es) X.env=(false,eval e X.env)::starEach es X.env:=by rfl) (hplain:(backTo cpos (starEach es X.env)).any (·.1)=false:=by rfl) :
  PE X (.Call (.Attribute o name apos) (e::es) [] cpos) (aNL X T r to t):=by
 intro pins s σ H Q I h
 refine HY a hfew hline rfl (thn (n pins s σ H _ I h) fun v s1 b=>?_)
 obtain ⟨x,H1,f,r1,ty,p⟩:=b
 obtain ⟨h1,h2⟩:=ty pins s1 v f r1
 refine ⟨T,id,g,slot,c,h1,h2,?_⟩
 have d:=j cpos pins s1 σ H1 _ f p
 rw[hs] at d ⊢
 refine FK (by show (false || (backTo cpos (starEach es X.env)).any (·.1))=false;rw[hplain]<;>rfl) (Calls.evalArgs_plain ?_)
 exact thn d fun us k ⟨vs,H2,l,r2,i⟩=>m pins k σ H2 x vs v us Q l r1 r2 i
end L2
namespace Fl
open PySem L2 PyProof.Rows
section
variable{X:Cx}{c:Ct}{E:XK}{e a b:Expr}{st:Stmt}{pos:Pos}
def aNN(i:Nat)(f g:Sg->R D9):Sg->R D9:=fun ρ=>match ρ[i]? with
 | some (some (.m kvs))=>(f ρ).bind fun k=>(g ρ).bind fun y=>if bJ k (kvs.map (·.1))=true then .ok ((cK kvs k).getD y) else .bad
 | _=>.bad
end
end Fl
namespace L2
open PySem PySem.Spec PyProof.Rows
def uW(X:Cx)(σ0:St)(E:XK)(ev:V9)(s':S9):Prop:=∃ e C od H',ev=.ref e/\Inv X [] σ0 H' s'/\FlyAt X H' s'.heap e C od false/\E (.ref C) (some e) H'
abbrev Cx.flyS(X:Cx)(σ0:St)(E:XK):Cx:=X.wish (uW X σ0 E)
section
variable{X:Cx}
def aPT{E:XK}{σ:St}{pins:List (Az×Obj)}{H:Hp}{s:S9}{f:V9}{s':S9}(I:Inv (X.flyS σ E) pins σ H s)(h:CXe X.prog X.w X.stack H s E f s'):uW X σ E f s':=by
 obtain ⟨e,C,od,H',rfl,os,bare,un,hok,j,⟨vs,T,n,g,m⟩,q⟩:=h
 have a:Inv X pins σ H s:=I.unwish
 have o:Inv X [] σ H s:=a.pins_of fun p c=>absurd c (by simp)
 have k:Inv X [] σ H' s':=o.call' os un hok bare (fun b i=>absurd i (by simp))
 refine ⟨e,C,od,H',rfl,k,⟨j,vs,T,n,g,fun t e1=>?_,fun z=>nomatch z⟩,q⟩
 obtain ⟨l,d⟩:=m t e1
 refine ⟨l,A6 a.sz d,fun p c z=>?_⟩
 have:=AK (a.pin p (CY _ c)).1
 rw[z] at this
 exact absurd (AW this d) (BG _)
def aKH{CX:CXT}{k:Nat}{f:Az}{fd:FuncData}{ps:List Str}{sp:Sp}{E:XK}{pins:List (Az×Obj)}{σ:St}{H:Hp}{s:S9}{Q:VK}{us:List V9}{vs:List V}{W:V9->S9->Prop}(F:FnOk X.prog X.w X.K X.mg X.base CX k f fd ps sp)(c:Room k X.A)(b:iO X.K fd ps [])
  (hx:∀ e s',CX X.stack H s E e s'->W e s') (I:Inv X pins σ H s) (r:bB vs us) (h:sp (vs++[]) H Q E):wpAny (model X.prog X.w) X.A (call (.ref f) us) (EP X pins σ Q) W s:=by
 have r2:bB (vs++[]) (us++[]):=r.append .nil
 have d:(us++[]).length=ps.length:=by rw[<-r2.length];exact F.len _ _ _ _ h
 refine HA (FB (F.run X.A X.stack s H ⟨us,[]⟩ (us++[]) (vs++[]) Q E c I.env0 (b s us I.kIn d) r2 h) fun r s' a=>?_)
 cases r with
 | error e=>exact hx e s' a
 | ok fl=>
  cases fl with
  | ret u=>exact I.after a
  | next=>exact False.elim a
  | brk=>exact False.elim a
  | cont=>exact False.elim a
def PCl(X:Cx)(σ:St)(E:XK)(e:Expr)(t:TE):Prop:=∀ (pins:List (Az×Obj)) (s:S9) (H:Hp) (Q:VK),Inv (X.flyS σ E) pins σ H s->t σ H Q->wpAny (model X.prog X.w) X.A (eval e X.env) (EP (X.flyS σ E) pins σ Q) (uW X σ E) s
def aNO{k:Nat}{x:Str}{ps:List Str}{sp:Sp}{E:XK}{σ:St}{e:Expr}{es:List Expr}{t:TA}{p pos:Pos}(C:Calls X.prog X.w X.K X.mg X.base (CXe X.prog X.w) k x ps sp)(d:Room k X.A)(j:Gl X x)(i:PA (X.flyS σ E) (e::es) t)(a:(x == ("__debug__":Str))=false:=by decide)
  (he:starEach (e::es) X.env=(false,eval e X.env)::starEach es X.env:=by rfl) (hpl:(backTo pos (starEach es X.env)).any (·.1)=false:=by rfl):PCl X σ E (.Call (.Name x p) (e::es) [] pos) (nW sp [] E t):=by
 obtain ⟨f,fd,F,b,m,g⟩:=C
 intro pins s H Q I h
 refine CV (lD (X:=X.flyS σ E) I j m ?_ a)
 refine EH (h₀:=X.base) I.ok.mod.kin g (thn (i pos pins s σ H _ I h) fun us s1 ⟨vs,H1,c,r,q⟩=>⟨c.kIn,?_⟩) he hpl
 exact aKH (X:=X.flyS σ E) F d b (fun e s' z=>aPT c z) c r q
def aEX{e:Expr}{t:TE}{E:XK}{σ:St}{pos:Pos}{pins:List (Az×Obj)}{s:S9}{H:Hp}{D:jF}(g:PCl (X.pnw (X.pn++pins)) σ E e t)(I:Inv X pins σ H s)(h:t σ H fun _ H1=>D.nx σ H1)(d:swapsWith e none pos.line X.env=pure false:=by rfl) :
  wpAny (model X.prog X.w) X.A (execs [.Expr e pos] X.env) (fun f s1=>SP X pins D f s1) (uW (X.pnw (X.pn++pins)) σ E) s:=by
 have c:=I.toPn
 have a:Inv ((X.pnw (X.pn++pins)).flyS σ E) [] σ H s:=c.wish _
 refine HD (thn (Q:=fun f s1=>SP ((X.pnw (X.pn++pins)).flyS σ E) [] D f s1) (wpAny_Expr_any (thn (g [] s H _ a h) fun v s1 ⟨x,H1,c,r1,i⟩=>⟨σ,H1,c,i⟩) a.quiet d) fun f s1 q=>?_)
 have b:=SP.ofPn q
 cases f with
 | next=>exact EG b
 | ret v=>exact b
 | brk=>exact b
 | cont=>exact b
end
end L2
namespace Fl
open PySem L2 PyProof.Rows
def putO(j:Option Nat)(a:A)(ρ:Sg):Sg:=match j with
 | none=>ρ
 | some j=>ρ.set j (some a)
def uX(K:Frag)(mg:Str->Option V9)(Wc:Az)(cl:List Str):Prop:=∀ nm∈cl,∃ C bm,mg nm=some (.ref C)/\SX.ExcAny K C bm/\(Value.ref C::bm).contains (.ref Wc)=true
section
variable{X:Cx}{c:Ct}{E:XK}
end
section
variable{X:Cx}{c:Ct}{E:XK}{e:Expr}{P:Program}{w:World}{base:Heap}
end
end Fl
namespace L2
open PySem PySem.Spec PyProof.Rows
def b8.got{P:Program}{w:World}{H:Hp}{h:Heap}{a:Az}{o:HO}(x:b8 P w H h a o):∃ u,h.get? a=some u:=by
 cases o with
 | lst xs=>obtain ⟨_,_,_,_,e⟩:=x;exact ⟨_,e⟩
 | tup xs=>obtain ⟨_,_,_,⟨o,e,_⟩⟩:=x;exact ⟨_,e⟩
 | dK kvs=>obtain ⟨_,_,_,_,o,_,_,e,_⟩:=x;exact ⟨_,e⟩
 | dT kvs=>obtain ⟨_,_,_,_,o,_,_,e,_⟩:=x;exact ⟨_,e⟩
 | set S n=>obtain ⟨o,_,_,_,e,_⟩:=x;exact ⟨_,e⟩
 | ins C dx fs=>obtain ⟨_,_,_,e,_⟩:=x;exact ⟨_,e⟩
 | own y=>exact x
 | xd fs=>obtain ⟨_,⟨_,_,_,e,_⟩,_⟩:=x;exact ⟨_,e⟩
 | rng lo hi=>obtain ⟨_,_,_,e⟩:=x;exact ⟨_,e⟩
 | frz ob u=>exact ⟨_,x.1⟩
 | tbl ps=>obtain ⟨_,e,_⟩:=x;exact ⟨_,e⟩
 | cod q=>obtain ⟨c,o,vs,t,e,b,_⟩:=x;cases e;exact ⟨_,b⟩
 | met f y=>exact ⟨_,x⟩
 | ext φ=>exact x.2.1
def HOk.free{P:Program}{w:World}{H:Hp}{h:Heap}{a:Az}(x:HOk P w H h)(e:h.get? a=none):H a=none:=by
 cases q:H a with
 | none=>rfl
 | some u=>
  obtain ⟨o,z⟩:=(x a u q).got
  rw[e] at z;cases z
def Inv.laidN{X:Cx}{pins:List (Az×Obj)}{σ:St}{H:Hp}{s:S9}{h':Heap}{a:Az}{o:HO}{t':Nat}(I:Inv X pins σ H s)(k:∀ b u,s.heap.get? b=some u->h'.get? b=some u)(f:s.heap.get? a=none)(new:b8 X.prog X.w (upd H a o) h' a o) :
  Inv X pins σ (upd H a o) {s with heap:=h',toks:=t'}:=by
 have d:H a=none:=I.hok.free f
 refine I.un ⟨fun b u q _ _ _=>k b u q,fun b u q _ _ _=>⟨u.slots,k b u q⟩,fun b u q n _=>?_,fun b u q _=>⟨u,k b u q⟩,fun b xs q=>by rw[aG (bC q d)];exact q,fun b u xs q=>by rw[aG (bC q d)];exact q,fun b ps q=>by rw[aG (bC q d)];exact q⟩ fun b u e=>?_
 .rw[aG (fun z=>by rw[z,f] at q;cases q)];exact n
 .by_cases hb:b=a
  .subst hb;rw[aT] at e;cases e;exact new
  .rw[aG hb] at e
   exact (I.hok b u e).stay (fun c v _ q=>k c v q) (fun c q=>by rw[aG (bC q d)];exact q) (fun c xs q=>by rw[aG (bC q d)];exact q) fun c xs q=>by rw[aG (bC q d)];exact q
structure ErrP(K:Frag)(mg:Str->Option V9)(x:Str)(W C:Az):Prop where
 c:SX.ExcC K W C
 m:mg x=some (.ref C)
 lk:∃ nm q N bs sn sub ab col dd k0 k1 k2 k3 k5,K.lookup C=some (excClassObj nm q C N bs (.ref W::SX.iT) true sn sub ab col dd k0 k1 k2 k3 k5 "ValueError.__new__")/\PySem.W.nsOkIn K N=true/\PySem.W.nsIn K N "__init__"=some none
 lw:∃ c0 dd cd sl,K.lookup W=some ⟨c0,dd,.cls cd,sl⟩/\PySem.W.nsOkIn K cd.ns=true/\PySem.W.nsIn K cd.ns "__init__"=some none
def aAY(C:Az)(E:XK)(ta:TA):TS:=fun _ σ H=>ta σ H fun vs H1=>vs.length<=1000/\∀ e,H1 e=none->E (.ref C) (some e) (upd H1 e (ExO e C none))
def aI0{K:Frag}{h:Heap}{N:Az}{n:Str}(X:K.In h)(a:PySem.W.nsOkIn K N=true)(b:PySem.W.nsIn K N n=some none):∃ m,h.Ns N m/\m n=none:=by
 have:=Heap.Ns.of_isNs (PySem.W.isNs_of_in X a)
 exact ⟨_,this,PySem.W.ns_none_of X this b⟩
section
variable{X:Cx}{E:XK}{W C:Az}{x:Str}{np cpos pos:Pos}{e0:Expr}{rest:List Expr}{ta:TA}
def pI(O:X.calm=true)(j:ErrP X.K X.mg x W C)(P:Gl X x)(T:PA (X.fly E) (e0::rest) ta)(G:(x == ("__debug__":Str))=false:=by decide)
  (he:starEach (e0::rest) X.env=(false,eval e0 X.env)::starEach rest X.env:=by rfl) (hpl:(backTo cpos (starEach rest X.env)).any (·.1)=false:=by rfl) :
  PS (X.fly E) (.Raise (some (.Call (.Name x np) (e0::rest) [] cpos)) none pos) (aAY C E ta):=by
 intro pins s σ H D I h
 obtain ⟨nm,q,N,bs,sn,sub,ab,col,dd,k0,k1,k2,k3,k5,lk,L,u⟩:=j.lk
 obtain ⟨c0,Y,cd,sl,lw,n,l⟩:=j.lw
 have b:wpAny (model X.prog X.w) X.A (eval (.Call (.Name x np) (e0::rest) [] cpos) X.env) (fun v s1=>∃ e od vs,v=.ref e/\s1.heap.get? C=some (excClassObj nm q C N bs (.ref W::SX.iT) true sn sub ab col dd k0 k1 k2 k3 k5 "ValueError.__new__") /\
   s1.heap.get? e=some {cls:=.ref C,dict:=od,data:=.fields vs}/\vs[1]? = some .none/\Fly X E (.ref e) s1) (Fly X E) s:=by
  refine CV (lD (X:=X) I.unwish P j.m ?_ G)
  refine EH (h₀:=X.base) I.ok.mod.kin j.c.kp (thn (T cpos pins s σ H _ I h) fun us s1 ⟨vs,H1,i,r,hz,Q⟩=>⟨i.kIn,?_⟩) he hpl
  have o:Inv X pins σ H1 s1:=i.unwish
  obtain ⟨J,g,d,tk,os⟩:=s1
  have y:us.length<=sizeLine:=by rw[<-r.length,HV];omega
  have kin:X.K.In J:=o.kIn
  obtain ⟨V,hN,B⟩:=aI0 kin L u
  obtain ⟨U,hW,k⟩:=aI0 kin n l
  refine wpAny_call_exc_subT PySem.F.excBase_ValueError (.own (kin _ _ lw) hW k .base) (kin _ _ lk) hN B (fun h' e a=>?_) y
  obtain ⟨t,f,_,_⟩:=a.there
  have M:Inv X pins σ (upd H1 e (ExO e C none)) ⟨h',g,d,tk,os⟩:=o.laidN (t':=tk) a.keeps a.new (aDX f)
  have S:=Q e (o.hok.free a.new)
  have R:Inv X [] σ (upd H1 e (ExO e C none)) ⟨h',g,d,tk,os⟩:=M.pins_of fun p J=>absurd J (by simp)
  exact ⟨e,none,_,rfl,M.kIn _ _ lk,f,rfl,e,C,none,σ,_,rfl,R,⟨aT,_,none,f,rfl,(fun t z=>nomatch z),(fun z=>nomatch z)⟩,S⟩
 show wpAny (model X.prog X.w) X.A (exec (.Raise (some (.Call (.Name x np) (e0::rest) [] cpos)) none pos) X.env) _ (Fly X E) s
 rw[arm_exec_Raise]
 first
  | refine AB (DV (SX.sW (SX.aGJ W) (I.ok.hd O) (AB (BX b (fun v s1 h1=>AB (DV (AD h1))) fun _ _ z=>z))))
  | (simp only[evalOpt,Option.map];refine AB (DV (SX.sW (SX.aGJ W) (I.ok.hd O) (AB (BX b (fun v s1 h1=>AB (DV (AD h1))) fun _ _ z=>z)))))
end
def few(i:Int):Prop:=i=40\/i=60\/i=200\/i=300
section
variable{X:Cx}
def aNP{x:Str}{Wc:Az}{m:List V9}{body c:List Stmt}{y:Stmt}{np i pos:Pos}(J:mG X)
  (S:Gl X x) (L:X.mg x=some (.ref Wc)) (hw:SX.ExcAny X.K Wc m) (r:(x == ("__debug__":Str))=false) {pins:List (Az×Obj)} {s:S9} {σ:St} {H:Hp} {D:jF} {E:XK} (I:Inv X pins σ H s)
  (P:wpAny (model X.prog X.w) X.A (execs body X.env) (fun f s1=>SP X pins D f s1) (uW (X.pnw (X.pn++pins)) σ E) s)
  (N:∀ (C e:Az) (H':Hp),(∃ od,H' e=some (ExO e C od))->E (.ref C) (some e) H'->∃ bm,SX.ExcAny X.K C bm/\(Value.ref C::bm).contains (.ref Wc)=true/\∃ ts,PSs (X.inH e) (y::c) ts/\ts D σ H') :
  wpAny (model X.prog X.w) X.A (exec (.Try body [.ExceptHandler (some (.Name x np)) none (y::c) i] [] [] pos) X.env) (SP X pins D) X.xe s:=by
 refine wpAny_Try_except (BX P (fun f s1 k=>?_) fun Y s1 q=>?_)
 .cases f with
  | next=>exact EG k
  | brk=>exact k
  | cont=>exact k
  | ret u=>exact k
 .obtain ⟨e,C,od,H1,rfl,R,f2,q⟩:=q
  have p:mG (X.pnw (X.pn++pins)):=J
  refine nX (X:=X.pnw (X.pn++pins)) p R f2 fun W Q O=>m7 (X:=X.pnw (X.pn++pins)) Q O fun G B l=>?_
  have d:Inv X pins σ H1 G:=B.ofPn
  obtain ⟨bm,U,j,ts,t,o⟩:=N C e H1 ⟨od,l.tr⟩ q
  refine wpAny_handleBy_cons (codeAny_handlers_test ?_) (by intro z;cases z)
  have M:Inv (X.inH e) pins σ H1 G:=d.inH e
  refine lD (X:=X.inH e) M S L ?_ r
  obtain ⟨vs,hx⟩:=xQ d.hok l.tr
  refine SX.z0 d.kIn U hw hx rfl ?_
  rw[j]
  refine codeAny_handlers_suite ?_
  refine m7 (X:=X.pnw (X.pn++pins)) B l fun F V Z=>?_
  have n:Inv X pins σ H1 F:=V.ofPn
  refine BX (t pins F σ H1 D (n.inH e) o) (fun f s7 b=>?_) fun _ _ z=>z.elim
  cases f with
  | next=>
   obtain ⟨a,g,h,b⟩:=b
   exact ⟨a,g,h.ofH I.ok,b⟩
  | brk=>
   obtain ⟨a,g,h,b⟩:=b
   exact ⟨a,g,h.ofH I.ok,b⟩
  | cont=>
   obtain ⟨a,g,h,b⟩:=b
   exact ⟨a,g,h.ofH I.ok,b⟩
  | ret u=>
   obtain ⟨v,a,g,h,T,b⟩:=b
   exact ⟨v,a,g,h.ofH I.ok,T,b⟩
end
end L2
namespace Fl
open PySem L2 PyProof.Rows
instance (i:Int):Decidable (few i):=by unfold few;infer_instance
def uY(cn:Str)(f:Sg->R (List D9)):Sg->R Fw:=fun ρ=>(f ρ).bind fun xs=>if xs.length<=1000 then .ex ⟨cn,[]⟩ else .bad
section
variable{X:Cx}{c:Ct}{E:XK}{st:Stmt}{cn:Str}{C:Az}
def pI{f:Sg->R (List D9)}(d:c.mg cn=some (.ref C))(h:PS X st (aAY C E (tAd c E f))):PSf X c E st (uY cn f):=PS.imp h fun D σ H a=>by
 obtain ⟨ρ,F,ab,k⟩:=a
 refine ⟨ρ,F,ab,(Rk.bind k).imp fun xs _ q vs g H1 s1 r1=>?_⟩
 by_cases hn:xs.length<=1000
 .rw[if_pos hn] at q
  exact ⟨by rw[r1.length];exact hn,fun e b=>q e C _ _ ((ab.all.trans s1).trans (Ext.new s1.fh b)) ⟨d,none,aT,.inl ⟨rfl,rfl⟩⟩⟩
 .rw[if_neg hn] at q;exact q.elim
def tP(j:Option Nat)(n:Nat)(G:List A->R A)(f:Sg->R (List A))(cl:List Str)(fs:Sg->R Fw):Sg->R Fw:=fun ρ=>match f ρ with
 | .ok as=>if as.length=n then (match G as with
  | .bad=>.bad
  | .ok a=>.ok (.nx (putO j a ρ))
  | .ex e=>if cl.contains e.c=true then fs ρ else .bad) else .bad
 | _=>.bad
def try_read0{n:Nat}{j:Option Nat}{x:Str}{Wc:Az}{r:List V9}{body b:List Stmt}{y:Stmt}{np l pos:Pos}{G:List A->R A}{f:Sg->R (List A)}{cl:List Str}{fs:Sg->R Fw}(t:X.K=c.K)(hM:X.mg=c.mg)
  (B:mG X) (P:Gl X x) (M:X.mg x=some (.ref Wc)) (hw:SX.ExcAny X.K Wc r) (u:(x == ("__debug__":Str))=false)
  (p:uX X.K X.mg Wc cl)
  (N:∀ (pins:List (Az×Obj)) (s:S9) (σ:L2.St) (H:Hp) (D:jF) (E':XK),Inv X pins σ H s->nW (spF c.g X.K X.mg n G) [] E' (tAv c E f) σ H (fun v H1=>D.nx (match j with|none=>σ|some j=>σ.set j (some v)) H1)->wpAny (model X.prog X.w) X.A (execs body X.env) (fun f s1=>SP X pins D f s1) (uW (X.pnw (X.pn++pins)) σ E') s)
  (L:∀ e,jW (X.inH e) c E (y::b) fs):PSf X c E (.Try body [.ExceptHandler (some (.Name x np)) none (y::b) l] [] [] pos) (tP j n G f cl fs):=by
 intro pins s σ H D I h
 obtain ⟨ρ,F,ab,k⟩:=h
 unfold tP at k
 cases hf:f ρ with
 | bad=>rw[hf] at k;exact k.elim
 | ex z=>rw[hf] at k;exact k.elim
 | ok as=>
  rw[hf] at k
  simp only at k
  by_cases hn:as.length=n
  .rw[if_pos hn] at k
   let E':XK:=fun T Q H'=>∃ C a e d,T=.ref C/\Q=some a/\Ext F H d H'/\i8 c.K c.mg d e a C/\G as=.ex e
   refine aNP (E:=E') B P M hw u I (N pins s σ H D E' I ?_) ?_
   .refine ⟨ρ,F,ab,?_⟩
    rw[hf]
    intro vs S H1 s1 r1
    refine ⟨S,as,fun a o z=>s1.ff a o (ab.f0 a o (ab.t0 a o z)),s1.fh,by rw[DC,t,hM];exact r1,hn,?_⟩
    cases hG:G as with
    | bad=>rw[hG] at k;exact k
    | ok a=>
     rw[hG] at k
     intro v d H' s' i
     rw[t,hM] at i
     have m:=(ab.ext (s1.trans s'))
     refine Rk.ok k _ d H' (s1.trans s').ff ?_
     cases j with
     | none=>exact m
     | some j=>exact m.setA i
    | ex e=>
     intro a C d H' s' i
     rw[t,hM] at i
     exact ⟨C,a,e,d,rfl,rfl,s1.trans s',i,hG⟩
   .rintro C e H' ⟨od,_⟩ ⟨C',a,er,d,h1,h2,s',i,hG⟩
    cases h1
    cases h2
    rw[hG] at k
    simp only at k
    by_cases hc:cl.contains er.c=true
    .rw[if_pos hc] at k
     obtain ⟨U,bm,m2,ca,J⟩:=p er.c (by simpa using hc)
     obtain ⟨O,_⟩:=id i
     rw[hM,O] at m2
     cases m2
     exact ⟨bm,ca,J,_,L e,ρ,d,ab.ext s',(k.ext s').imp fun w _ q=>g9.same s'.ff q⟩
    .rw[if_neg hc] at k;exact k.elim
  .rw[if_neg hn] at k;exact k.elim
def aG7{n:Nat}{x:Str}{Wc:Az}{l:List V9}{a:List Stmt}{m:Stmt}{call:Expr}{np d pos b:Pos}{G:List A->R A}{f:Sg->R (List A)}{cl:List Str}{fs:Sg->R Fw}(r:X.K=c.K)(hM:X.mg=c.mg)
  (o:mG X) (u:Gl X x) (q:X.mg x=some (.ref Wc)) (hw:SX.ExcAny X.K Wc l) (i:uX X.K X.mg Wc cl)
  (t:∀ pn σ E',PCl (X.pnw pn) σ E' call (nW (spF c.g X.K X.mg n G) [] E' (tAv c E f)))
  (p:∀ e,jW (X.inH e) c E (m::a) fs) (k:(x == ("__debug__":Str))=false:=by decide) (hsw:swapsWith call none b.line X.env=pure false:=by rfl) :
  PSf X c E (.Try [.Expr call b] [.ExceptHandler (some (.Name x np)) none (m::a) d] [] [] pos) (tP none n G f cl fs):=
 try_read0 (j:=none) r hM o u q hw k i (fun pins s σ H D E' I h=>aEX (t _ _ _) I h hsw) p
def wW{K:Frag}{mg:Str->Option V9}{x:Str}{W C:Az}(a:ErrP K mg x W C):uX K mg C [x]:=fun nm h=>by
 rw[AL.mp h]
 exact ⟨C,_,a.m,a.c.any,by simp⟩
end
end Fl
namespace L2
open PySem
def aNQ(e:DictEntry):Bool:=match e.key with
 | .str _ _=>true
 | _=>false
def aAZ{K:Frag}{N:Az}{cl:V9}{d:Option Az}{es:Array DictEntry}{ep:Nat}{sl:Array (Option V9)}(l:K.lookup N=some ⟨cl,d,.dict es ep,sl⟩)(h:es.toList.all aNQ=true):PySem.W.nsOkIn K N=true:=by
 unfold PySem.W.nsOkIn
 rw[show List.lookup N K=some ⟨cl,d,.dict es ep,sl⟩ from l]
 show es.all _=true
 rw[<-Array.all_toList]
 exact h
end L2
namespace Fl
open PySem L2 PyProof.Rows
end Fl
namespace HT
open PySem PySem.Spec PyProof.Rows L2
end HT
namespace Fl
open PySem L2 PyProof.Rows
def aA0{K:Frag}{F:Hp}{vs:List V}{i:Int}{x:Str}(h:DatVs K F vs [.int i,.str x]):vs=[.int i,.str x]:=by
 obtain ⟨v,t,rfl,h1,h2⟩:=h.cons_of
 obtain ⟨u,t',rfl,a,b⟩:=h2.cons_of
 obtain rfl:=h1.int_of
 obtain rfl:=a.str_of
 cases b
 rfl
def FnK(K:Frag)(H:Hp)(f:Az):Prop:=PySem.W.keepIn K (.ref f)=true\/∃ oc od fd sl,H f=some (FnO f ⟨oc,od,.func fd,sl⟩)
def yR(X:Cx)(i:Nat)(E:XK)(t:TA):TE:=fun σ H Q=>∃ f,σ[i]? = some (some (.ref f))/\FnK X.K H f/\t σ H fun vs H1=>FnK X.K H1 f/\∃ k fd ps sp,Room k X.A/\FnOk X.prog X.w X.K X.mg X.base (CXe X.prog X.w) k f fd ps sp/\iO X.K fd ps []/\sp vs H1 Q E
def rZ{X:Cx}{i:Nat}{x:Str}{E:XK}{p pos:Pos}{e:Expr}{es:List Expr}{t:TA}(C:PE X (.Name x p) (fN i))(hx:lQ (CXe X.prog X.w) X E)(n:PA X (e::es) t)
  (y:starEach (e::es) X.env=(false,eval e X.env)::starEach es X.env:=by rfl) (hpl:(backTo pos (starEach es X.env)).any (·.1)=false:=by rfl):PE X (.Call (.Name x p) (e::es) [] pos) (yR X i E t):=by
 intro pins s σ H Q I h
 obtain ⟨f,B,c,h⟩:=h
 refine CV (thn (C pins s σ H (fun v H'=>v=.ref f/\H'=H) I ⟨_,B,rfl,rfl⟩) fun u m j=>?_)
 obtain ⟨v,d,a,z,e1,e2⟩:=j
 subst e1 e2
 obtain rfl:u=Value.ref f:=z
 have fin:∀ (us:List V9) (s1:S9),AP X pins σ (fun vs H1=>FnK X.K H1 f/\∃ k fd ps sp,Room k X.A/\FnOk X.prog X.w X.K X.mg X.base (CXe X.prog X.w) k f fd ps sp/\iO X.K fd ps []/\sp vs H1 Q E) us s1->
   (∃ H1,Inv X pins σ H1 s1/\FnK X.K H1 f)/\wpAny (model X.prog X.w) X.A (call (.ref f) us) (EP X pins σ Q) X.xe s1:=by
  rintro us s1 ⟨vs,H1,b,r,hk1,k,fd,ps,sp,hr,F,hb,q⟩
  refine ⟨⟨H1,b,hk1⟩,aDN (dvs:=[]) (ds:=[]) F hr hb .nil hx b r ?_⟩
  rw[DC];exact q
 rcases c with c|⟨g,od,fd,sl,c⟩
 .refine EH (h₀:=X.base) a.ok.mod.kin c (thn (n pos pins m σ d _ a h) fun us s1 l=>?_) y hpl
  obtain ⟨⟨H1,b,_⟩,q⟩:=fin us s1 l
  exact ⟨b.kIn,q⟩
 .refine PySem.W.callWith_F ⟨g,od,fd,sl,FnO.get a.hok c⟩ (thn (n pos pins m σ d _ a h) fun us s1 l=>?_) y hpl
  obtain ⟨⟨H1,b,hk1⟩,q⟩:=fin us s1 l
  refine ⟨?_,q⟩
  rcases hk1 with hk1|⟨g,od,fd,sl,hk1⟩
  .cases e:X.K.lookup f with
   | none=>unfold PySem.W.keepIn at hk1;dsimp only at hk1;rw[e] at hk1;cases hk1
   | some o=>
    have e1:=b.kIn f o e
    exfalso
    have e2:=a.kIn f o e
    obtain ⟨o',h1,h2⟩:∃ o',d f=some (FnO f o')/\True:=⟨_,c,trivial⟩
    have e3:=a.bs f o (a.ok.mod.kin f o e)
    rw[e3.2] at h1;cases h1
  .exact ⟨g,od,fd,sl,FnO.get b.hok hk1⟩
def r0(m i:Nat)(f:Sg->R (List D9)):Sg->R D9:=fun ρ=>match ρ[i]? with
 | some (some (.g k n G))=>(f ρ).bind fun ds=>if k<=m/\ds.length=n then G ds else .bad
 | _=>.bad
def aEY{X:Cx}{c:Ct}{E:XK}{e:Expr}{m i:Nat}{T:Hp}{f:Sg->R (List D9)}(hG:c.g=gOf X.prog X.w X.K X.mg X.base T)(p:X.K=c.K)(hM:X.mg=c.mg)(u:Room m X.A)(h:PE X e (yR X i E (tAd c E f))):PD X c E e (r0 m i f):=PE.imp h fun σ H Q ⟨ρ,F,ab,k⟩=>by
 unfold r0 at k
 split at k
 .rename_i j n G hi
  obtain ⟨v,M,O⟩:=ab.slot i _ hi
  obtain ⟨l,P,rfl,s1,B⟩:=(show AF c.g c.K c.mg F (.g j n G) v from O)
  rw[hG] at B
  obtain ⟨fd,ps,L,y,I,J⟩:=(show Beh X.prog X.w X.K X.mg X.base T l P j n G from B)
  have hk1:∀ b H',aH F b->aH b H'->FnK X.K H' l:=fun b H' N D=>J.imp id fun ⟨t,od,fd,sl,e⟩=>⟨t,od,fd,sl,D _ _ (N _ _ (s1 _ _ e))⟩
  refine ⟨l,M,hk1 F H (bK F) ab.fh,ρ,F,ab,(Rk.bind k).imp fun ds _ q vs b H' e1 r=>?_⟩
  refine ⟨hk1 b H' e1.ff e1.fh,?_⟩
  by_cases hn:j<=m/\ds.length=n
  .rw[if_pos hn] at q
   refine ⟨j,fd,ps,_,u.mono hn.1,I,y,b,ds,fun a o z=>e1.ff a o (s1 a o z),fun a o z=>e1.ff a o (ab.f0 a o (ab.t0 a o (by rw[hG];exact z))),e1.fh,by rw[p];exact r,hn.2,?_⟩
   cases hg:G ds with
   | bad=>rw[hg] at q;exact q
   | ok d=>rw[hg] at q;exact fun v s H2 e2 r2=>Rk.ok q v s H2 (e1.trans e2) (by rw[p] at r2;exact r2)
   | ex x=>rw[hg] at q;exact fun a C s H2 e2 r2=>q a C s H2 ((ab.all.trans e1).trans e2) (by rw[p,hM] at r2;exact r2)
  .rw[if_neg hn] at q;exact q.elim
 .exact k.elim
def qM:D9->Bool
 | .none=>true
 | .bool _=>true
 | .int _=>true
 | .str _=>true
 | _=>false
def aG8{K:Frag}{F a:Hp}{v:V}{d:D9}(h:qM d=true)(r:DatV K F v d):DatV K a v d:=by
 cases d with
 | none=>cases r;exact .non
 | bool b=>cases r;exact .bl b
 | int i=>cases r;exact .int i
 | str x=>cases r;exact .str x
 | list xs=>cases h
 | tuple xs=>cases h
 | dict xs=>cases h
def oI(K:Frag)(F H:Hp):List V->List D9->Prop
 | [],[]=>True
 | v::vs,d::ds=>aU K F H v d/\oI K F H vs ds
 | _,_=>False
theorem oI.ext{K:Frag}{F H F' H':Hp}(e:Ext F H F' H'):∀ {vs:List V} {ds:List D9},oI K F H vs ds->oI K F' H' vs ds
 | [],[],_=>trivial
 | v::vs,d::ds,h=>⟨aU.ext e h.1,oI.ext e h.2⟩
def tAr(c:Ct)(E:XK)(f:Sg->R (List D9)):TA:=fun σ H Q=>∃ ρ F,Ab c ρ σ F H/\Rk c E F H (f ρ) fun ds=>∀ vs F' H',Ext F H F' H'->oI c.K F' H' vs ds->Q vs H'
def aKI{X:Cx}{c:Ct}{E:XK}:PA X [] (tAr c E aR):=PA.imp aQ fun σ H Q ⟨ρ,F,ab,k⟩=>Rk.ok k [] F H (Ext.refl ab.fh) trivial
def yS{X:Cx}{c:Ct}{E:XK}{e:Expr}{es:List Expr}{f:Sg->R D9}{g:Sg->R (List D9)}(h:PR X c E e f)(h2:PA X es (tAr c E g))(d:starEach (e::es) X.env=(false,eval e X.env)::starEach es X.env:=by rfl):PA X (e::es) (tAr c E (aB f g)):=PA.imp (aJ h h2 d) fun σ H Q a=>by
 obtain ⟨ρ,F,ab,k⟩:=a
 refine ⟨ρ,F,ab,(Rk.bind k).imp fun x _ q v j H1 s1 r1=>⟨ρ,j,ab.ext s1,((Rk.bind q).ext s1).imp fun xs _ q vs i H2 b r2=>?_⟩⟩
 exact Rk.ok q (v::vs) i H2 (s1.trans b) ⟨aU.ext b r1,r2⟩
theorem aNR{K:Frag}{F H:Hp}(s:aH F H):∀ {vs:List V} {ds:List D9},oI K F H vs ds->∃ FL,aH F FL/\aH FL H/\DatVs K FL vs ds
 | [],[],_=>⟨F,bK F,s,.nil⟩
 | v::vs,d::ds,h=>by
  obtain ⟨FL,a,b,r⟩:=aNR s h.2
  rcases h.1 with q|⟨p,us,xs,rfl,rfl,h1,h2⟩
  .exact ⟨FL,a,b,.cons (q.same a) r⟩
  .refine ⟨fun x=>if x=p then some (.lst us) else FL x,fun x o z=>?_,fun x o z=>?_,?_⟩
   .by_cases hx:x=p
    .subst hx
     have:=s x o z
     rw[h1] at this;cases this
     exact if_pos rfl
    .exact (if_neg hx).trans (a x o z)
   .by_cases hx:x=p
    .subst hx
     have e:=(if_pos rfl).symm.trans z
     rw[h1];exact e
    .exact b x o ((if_neg hx).symm.trans z)
   .have c:aH FL (fun x=>if x=p then some (.lst us) else FL x):=fun x o z=>by
     by_cases hx:x=p
     .subst hx
      have:=b x o z
      rw[h1] at this;cases this
      exact if_pos rfl
     .exact (if_neg hx).trans z
    exact .cons (.lst (SqL.of (if_pos rfl)) (h2.same fun x o z=>c x o (a x o z))) (r.same c)
def tQ(m i:Nat)(f:Sg->R (List D9)):Sg->R D9:=fun ρ=>match ρ[i]? with
 | some (some (.g k n G))=>(f ρ).bind fun ds=>if k<=m/\ds.length=n then (match G ds with | .ok d=>if qM d=true then .ok d else .bad|_=>.bad) else .bad
 | _=>.bad
def aKJ{X:Cx}{c:Ct}{E:XK}{e:Expr}{m i:Nat}{T:Hp}{f:Sg->R (List D9)}(hG:c.g=gOf X.prog X.w X.K X.mg X.base T)(t:X.K=c.K)(hM:X.mg=c.mg)(S:Room m X.A)(h:PE X e (yR X i E (tAr c E f))):PD X c E e (tQ m i f):=PE.imp h fun σ H Q ⟨ρ,F,ab,k⟩=>by
 unfold tQ at k
 split at k
 .rename_i l n G hi
  obtain ⟨v,y,L⟩:=ab.slot i _ hi
  obtain ⟨s,P,rfl,s1,B⟩:=(show AF c.g c.K c.mg F (.g l n G) v from L)
  rw[hG] at B
  obtain ⟨fd,ps,O,I,N,u⟩:=(show Beh X.prog X.w X.K X.mg X.base T s P l n G from B)
  have hk1:∀ j H',aH F j->aH j H'->FnK X.K H' s:=fun j H' J U=>u.imp id fun ⟨D,od,fd,sl,e⟩=>⟨D,od,fd,sl,U _ _ (J _ _ (s1 _ _ e))⟩
  refine ⟨s,y,hk1 F H (bK F) ab.fh,ρ,F,ab,(Rk.bind k).imp fun ds _ q vs j H' e1 r=>?_⟩
  refine ⟨hk1 j H' e1.ff e1.fh,?_⟩
  by_cases hn:l<=m/\ds.length=n
  .rw[if_pos hn] at q
   obtain ⟨M,a,b,C⟩:=aNR e1.fh r
   refine ⟨l,fd,ps,_,S.mono hn.1,N,I,M,ds,fun x o z=>a x o (e1.ff x o (s1 x o z)),fun x o z=>a x o (e1.ff x o (ab.f0 x o (ab.t0 x o (by rw[hG];exact z)))),b,by rw[t];exact C,hn.2,?_⟩
   cases hg:G ds with
   | bad=>rw[hg] at q;exact q
   | ok d=>
    rw[hg] at q
    intro v V H2 e2 r2
    have p:Rk c E F H (if qM d=true then R.ok d else .bad) _:=q
    by_cases hf:qM d=true
    .rw[if_pos hf] at p
     refine Rk.ok p v j H2 (e1.trans ⟨e2.hh,bK j,fun x o z=>e2.hh x o (e1.fh x o z),fun x z n=>absurd z n⟩) (by rw[t] at r2;exact aG8 hf r2)
    .rw[if_neg hf] at p;exact p.elim
   | ex x=>rw[hg] at q;exact q.elim
  .rw[if_neg hn] at q;exact q.elim
 .exact k.elim
def aKK{K:Frag}{F:Hp}{cs:List Az}{a:Az}{xs:List V}(b:Celd cs F)(h:SqL K F a xs):SqL K (hid cs F) a xs:=by
 rcases h with (h|⟨o,h⟩)|h
 · exact .inl (.inl (by rw [bQ (b.out h fun _ v z => nomatch z)]; exact h))
 · exact .inl (.inr ⟨o, by rw [bQ (b.out h fun _ v z => by unfold dX at z; cases z)]; exact h⟩)
 · exact .inr h
def aKL{K:Frag}{F:Hp}{cs:List Az}{a:Az}{xs:List V}(b:Celd cs F)(h:SqT K F a xs):SqT K (hid cs F) a xs:=by
 rcases h with (h|⟨o,h⟩)|h
 · exact .inl (.inl (by rw [bQ (b.out h fun _ v z => nomatch z)]; exact h))
 · exact .inl (.inr ⟨o, by rw [bQ (b.out h fun _ v z => by unfold dX at z; cases z)]; exact h⟩)
 · exact .inr h
mutual
theorem aA1{K:Frag}{F:Hp}{cs:List Az}(hc:Celd cs F):∀ {v:V} {d:D9},DatV K F v d->DatV K (hid cs F) v d
 | _,_,.non=>.non
 | _,_,.bl b=>.bl b
 | _,_,.int i=>.int i
 | _,_,.str x=>.str x
 | _,_,.lst h r=>.lst (aKK hc h) (l5 hc r)
 | _,_,.tup h r=>.tup (aKL hc h) (l5 hc r)
theorem l5{K:Frag}{F:Hp}{cs:List Az}(hc:Celd cs F):∀ {vs:List V} {ds:List D9},DatVs K F vs ds->DatVs K (hid cs F) vs ds
 | _,_,.nil=>.nil
 | _,_,.cons h r=>.cons (aA1 hc h) (l5 hc r)
end
def aKM{e C b:Az}{od:Option Az}{o:Obj}{v:V}(h:ExO e C od=dX b o v):False:=by unfold ExO dX at h;cases h
def aG9{K:Frag}{mg:Str->Option V9}{F:Hp}{e:Er}{a C:Az}{cs:List Az}(b:Celd cs F)(h:i8 K mg F e a C):i8 K mg (hid cs F) e a C/\a∉cs:=by
 obtain ⟨m,od,h1,h2⟩:=h
 have c:=b.out h1 fun _ v z=>aKM z
 refine ⟨⟨m,od,by rw[bQ c];exact h1,h2.imp id ?_⟩,c⟩
 rintro ⟨d,fvs,e1,e2,e3,e4⟩
 exact ⟨d,fvs,e1,by rw[bQ (b.out e2 fun _ v z=>nomatch z)];exact e2,e3,l5 b e4⟩
def yT{a:Cv}{H c:Hp}(s:aH (pub a H) c):Celd (cW a) c:=fun b d=>by
 obtain ⟨p,e⟩:=gU.mp d
 exact ⟨p.1,p.2,s _ _ (o9 e)⟩
def aHA{a:Cv}{F H:Hp}(s:aH F H):aH (pub a F) (pub a H):=fun b o e=>by
 by_cases hb:b∈cW a
 .obtain ⟨p,q⟩:=gU.mp hb
  rw[o9 q] at e ⊢;exact e
 .rw[dY hb] at e ⊢;exact s b o e
def wI{c:Cv}{F H h H2:Hp}(g:∀ b∈cW c,H b=none)(s:aH F H)(e:Ext (pub c F) (pub c H) h H2):Ext F H (hid (cW c) h) (hid (cW c) H2):=by
 have i:∀ b∈cW c,F b=none:=fun b a=>a9 s (g b a)
 have f:∀ b o,H b=some o->b∉cW c:=fun b o q z=>by rw[g b z] at q;cases q
 have d:∀ b o,F b=some o->b∉cW c:=fun b o q z=>by rw[i b z] at q;cases q
 refine ⟨fun b o q=>?_,fun b o q=>?_,fun b o q=>?_,fun b q n=>?_⟩
 .have a:=f b o q
  rw[bQ a];exact e.hh b o (by rw[dY a];exact q)
 .have a:=d b o q
  rw[bQ a];exact e.ff b o (by rw[dY a];exact q)
 .obtain ⟨j,a⟩:=nZ q
  rw[bQ a];exact e.fh b o j
 .by_cases a:b∈cW c
  .exact absurd (nA a) n
  .rw[bQ a] at n
   have:=e.nw b (by rw[dY a];exact q) n
   unfold mI at this ⊢
   rw[dY a] at this;exact this
def dOf:R A->R D9
 | .ok (.d x)=>.ok x
 | .ok _=>.bad
 | .ex e=>.ex e
 | .bad=>.bad
def CloOk(P:Program)(w:World)(K:Frag)(mg:Str->Option V9)(base:Heap)(T:Hp)(S:ClSt)(fr:List Str)(k n:Nat)(Gm:List A->List D9->R D9):Prop:=
 ∀ (F0 F1:Hp) (caps:List A) (cvs:List V) (f:Az) (cl:List (Str×Az)) (doc pm ct:V9) (cc:Az),aH T F0->AFs (gOf P w K mg base T) K mg F0 caps cvs->aH F0 F1->
  F1 f=some (FnO f (S.obj cl doc pm cc ct))->F1 cc=some (.cod S.qual)->CapAt F1 fr cl cvs->(∀ c∈a8 fr cl,F0 c=none)->Beh P w K mg base T f F1 k n (Gm caps)
def aA2{cs:List Az}{F H a H2:Hp}(s:aH F H)(d:Celd cs F)(g:∀ c∈cs,H2 c=none)(e:Ext (hid cs F) (hid cs H) a H2):Ext F H (shw cs F a) (shw cs H H2)/\aH a (shw cs F a):=by
 have f:∀ c∈cs,a c=none:=fun c h=>a9 e.fh (g c h)
 refine ⟨⟨fun b o q=>?_,fun b o q=>?_,fun b o q=>?_,fun b q n=>?_⟩,fun b o q=>?_⟩
 .by_cases hb:b∈cs
  .rw[o8 hb];exact q
  .rw[dW hb];exact e.hh b o (by rw[bQ hb];exact q)
 .by_cases hb:b∈cs
  .rw[o8 hb];exact q
  .rw[dW hb];exact e.ff b o (by rw[bQ hb];exact q)
 .by_cases hb:b∈cs
  .rw[o8 hb] at q ⊢;exact s b o q
  .rw[dW hb] at q ⊢;exact e.fh b o q
 .by_cases hb:b∈cs
  .obtain ⟨o,v,z⟩:=d b hb
   rw[z] at q;cases q
  .rw[dW hb] at n
   have:=e.nw b (by rw[bQ hb];exact q) n
   unfold mI at this ⊢
   rw[bQ hb] at this;exact this
 .rw[dW fun z=>by rw[f b z] at q;cases q];exact q
theorem AFs.data{g:Gb}{K:Frag}{mg:Str->Option V9}{F:Hp}:∀ {vs:List V} {ds:List D9},DatVs K F vs ds->AFs g K mg F (ds.map .d) vs
 | _,_,.nil=>trivial
 | _,_,.cons h r=>⟨h,AFs.data r⟩
theorem AFs.append{g:Gb}{K:Frag}{mg:Str->Option V9}{F:Hp}:∀ {as bs:List A} {vs us:List V},AFs g K mg F as vs->AFs g K mg F bs us->AFs g K mg F (as++bs) (vs++us)
 | [],_,[],_,_,h=>h
 | a::as,bs,v::vs,us,h,h2=>⟨h.1,AFs.append h.2 h2⟩
section
variable{P:Program}{w:World}{K:Frag}{mg:Str->Option V9}{base:Heap}{T:Hp}{S:ClSt}{N ps fr:List Str}{k:Nat}
def wJ{f l F H:Hp}{a:List A}{cvs vs:List V}{ds:List D9}{cl:List (Str×Az)}(h:aH T f)(g:AFs (gOf P w K mg base T) K mg f a cvs)(i:aH f l)(e:aH l F)(k:aH F H)(C:CapAt l fr cl cvs)(j:∀ c∈a8 fr cl,f c=none)(p:DatVs K F vs ds) :
  Celd (a8 fr cl) F/\aH T (hid (a8 fr cl) F)/\aH (hid (a8 fr cl) F) (hid (a8 fr cl) H)/\AFs (gOf P w K mg base T) K mg (hid (a8 fr cl) F) (ds.map .d++a) (vs++cvs):=by
 have m:Celd (a8 fr cl) F:=(C.same e).celd
 have h0:aH f (hid (a8 fr cl) F):=fun b o q=>by
  rw[bQ fun z=>by rw[j b z] at q;cases q];exact e b o (i b o q)
 refine ⟨m,fun b o q=>h0 b o (h b o q),fun b o q=>?_,(AFs.data (l5 m p)).append (g.same h0)⟩
 obtain ⟨r,n⟩:=nZ q
 rw[bQ n];exact k b o r
def hU(n:Nat)(fb:Sg->R Fw):List A->List D9->R D9:=fun caps ds=>dOf (fnF n fb (ds.map .d++caps))
theorem aA3{F H:Hp}{cs:List Az}{Q:VK}{E:XK}{r:R A}(b:aH F H)(j:Celd cs F)(h:match dOf r with
 | .bad=>False
 | .ok d=>∀ v F' H',Ext F H F' H'->DatV K F' v d->Q v H'
 | .ex e=>∀ a C F' H',Ext F H F' H'->i8 K mg F' e a C->E (.ref C) (some a) H'):match (generalizing:=false) r with
 | .bad=>False
 | .ok a=>∀ v F' H',Ext (hid cs F) (hid cs H) F' H'->AF (gOf P w K mg base T) K mg F' a v->(∀ a∈cs,H' a=none)->Q v (shw cs H H')
 | .ex e=>∀ a C F' H',Ext (hid cs F) (hid cs H) F' H'->i8 K mg F' e a C->(∀ a∈cs,H' a=none)->E (.ref C) (some a) (shw cs H H'):=by
 cases r with
 | bad=>exact h
 | ok a=>
  cases a with
  | d x=>
   intro v F' H' e q c
   obtain ⟨e2,i⟩:=aA2 b j c e
   exact h v _ _ e2 (DatV.same i q)
  | l xs=>exact False.elim h
  | m xs=>exact False.elim h
  | x e=>exact False.elim h
  | g k n f=>exact False.elim h
  | k S=>exact False.elim h
  | f S=>exact False.elim h
 | ex x=>
  intro a C F' H' e q c
  obtain ⟨e2,i⟩:=aA2 b j c e
  exact h a C _ _ e2 (q.same i)
def aEZ{body:List Stmt}{fb:Sg->R Fw}(M:S.body=.stmts body)(Sc:CloScope N ps fr S.scope)(D:∀ (cl:List (Str×Az)) (doc pm:V9) (cc:Az) (ct:V9) (us:List V9),us.length=ps.length->bindArgs (S.fd cl doc pm cc ct) ⟨us,[]⟩=pure (ps.zip us))
  (i:∀ (f cc:Az) (cl:List (Str×Az)) (A:Around) (outer:List Env) (s:S9) (H F:Hp) (E E':XK),Room k (A.deeper (cI S.qual S.scope s.heap.objs.size f (.ref cc) cl))->
   jW ((iQ (CXe P w) P w K mg base N fr S.qual S.scope f (.ref cc) cl A outer s H E').fly E) ⟨K,mg,w,F,hid (a8 fr cl) H,gOf P w K mg base T,(cI S.qual S.scope s.heap.objs.size f (.ref cc) cl).cells,fun _=>none⟩ E body fb) :
  CloOk P w K mg base T S fr (k+1) ps.length (hU N.length fb):=by
 intro F0 F1 g cvs f cl doc pm ct cc p l y J G C t
 refine ⟨S.fd cl doc pm cc ct,ps,rfl,.all (D cl doc pm cc ct),⟨fun vs H Q E h=>?_,fun A outer s H args us vs Q E V e0 q L B=>?_⟩,.inr ⟨_,_,_,_,J⟩⟩
 .obtain ⟨F,ds,_,_,_,h1,h2,_⟩:=h
  rw[h1.length,h2]
 .obtain ⟨F,ds,h1,h2,m,I,X,Z⟩:=B
  obtain ⟨U,O,W,Y⟩:=wJ p l y h1 m C t I
  refine aD9 M (m _ _ (h1 _ _ J)) (m _ _ (h1 _ _ G)) Sc (C.same fun b o z=>m b o (h1 b o z)) V e0 q L (by rw[I.length,X]) fun u=>⟨_,i f cc cl A outer s H (hid (a8 fr cl) F) _ E u,?_⟩
  have j:=aA3 (P:=P) (w:=w) (base:=base) (T:=T) (r:=fnF N.length fb (ds.map .d++g)) m U Z
  refine qJ (n:=N.length) (fb:=fb) (Q:=fun v H'=>(∀ a∈a8 fr cl,H' a=none)->Q v (shw (a8 fr cl) H H')) (E:=fun c e H'=>(∀ a∈a8 fr cl,H' a=none)->E c e (shw (a8 fr cl) H H')) O W Y ?_
  cases e:fnF N.length fb (ds.map .d++g) with
  | bad=>rw[e] at j;exact j
  | ok a=>rw[e] at j;exact j
  | ex x=>rw[e] at j;exact j
def aNS{body:Expr}{fe:Sg->R D9}(M:S.body=.expr body)(Sc:CloScope N ps fr S.scope)(D:∀ (cl:List (Str×Az)) (doc pm:V9) (cc:Az) (ct:V9) (us:List V9),us.length=ps.length->bindArgs (S.fd cl doc pm cc ct) ⟨us,[]⟩=pure (ps.zip us))
  (g:∀ (f cc:Az) (cl:List (Str×Az)) (A:Around) (outer:List Env) (s:S9) (H F:Hp) (E E':XK),Room k (A.deeper (cI S.qual S.scope s.heap.objs.size f (.ref cc) cl))->
   PD ((iQ (CXe P w) P w K mg base N fr S.qual S.scope f (.ref cc) cl A outer s H E').fly E) ⟨K,mg,w,F,hid (a8 fr cl) H,gOf P w K mg base T,(cI S.qual S.scope s.heap.objs.size f (.ref cc) cl).cells,fun _=>none⟩ E body fe) :
  CloOk P w K mg base T S fr (k+1) ps.length (hU N.length (bU (vD fe))):=by
 intro F0 F1 c cvs f cl doc pm ct cc m j t J G C p
 refine ⟨S.fd cl doc pm cc ct,ps,rfl,.all (D cl doc pm cc ct),⟨fun vs H Q E h=>?_,fun A outer s H args us vs Q E V e0 n L u=>?_⟩,.inr ⟨_,_,_,_,J⟩⟩
 .obtain ⟨F,ds,_,_,_,h1,h2,_⟩:=h
  rw[h1.length,h2]
 .obtain ⟨F,ds,h1,h2,l,I,X,Z⟩:=u
  obtain ⟨U,O,W,Y⟩:=wJ m j t h1 l C p I
  refine aGQ M (l _ _ (h1 _ _ J)) (l _ _ (h1 _ _ G)) Sc (C.same fun b o z=>l b o (h1 b o z)) V e0 n L (by rw[I.length,X]) fun q=>⟨_,g f cc cl A outer s H (hid (a8 fr cl) F) _ E q,?_⟩
  have i:=aA3 (P:=P) (w:=w) (base:=base) (T:=T) (r:=fnF N.length (bU (vD fe)) (ds.map .d++c)) l U Z
  refine ⟨_,_,rW O W Y,?_⟩
  unfold fnF bU vD at i
  cases e:fe ((ds.map Fl.A.d++c).map some++List.replicate (N.length - (ds.map Fl.A.d++c).length) none) with
  | bad=>rw[e] at i;exact i
  | ok d=>rw[e] at i;exact fun v B H' e1 r1 y=>i v B H' e1 r1 y
  | ex x=>rw[e] at i;exact fun a C B H' e1 r1 y=>i a C B H' e1 r1 y
end
def oJ(c:Ct)(F:Hp)(S:ClSt)(v:V):Prop:=∃ f cl doc pm cc ct,v=.ref f/\F f=some (FnO f (S.obj cl doc pm cc ct))/\F cc=some (.cod S.qual)/\ClOf c.cells S.scope cl
def oJ.same{c:Ct}{F a:Hp}{S:ClSt}{v:V}(s:aH F a):oJ c F S v->oJ c a S v:=by
 rintro ⟨f,cl,doc,pm,cc,ct,h1,h2,h3,h4⟩
 exact ⟨f,cl,doc,pm,cc,ct,h1,s _ _ h2,s _ _ h3,h4⟩
def aA4{c:Ct}{S:ClSt}{P0:Az}{qs:List (Pos×Str)}{cells:List (Str×Az)}{ρ:Sg}{σ:L2.St}{F H:Hp}{Q:VK}(e:cells=c.cells)(m:c.g.T P0=some (.tbl qs))(ab:Ab c ρ σ F H)(h:∀ v F' H',Ext F H F' H'->oJ c F' S v->Q v H'):tMk cells S P0 qs σ H Q:=by
 subst e
 refine ⟨ab.fh _ _ (ab.f0 _ _ (ab.t0 _ _ m)),fun f b cl doc pm ct H1 l k i=>?_⟩
 have e1:∃ d,Ext F H d H1/\d b=some (.cod S.qual):=by
  rcases l with ⟨q,rfl⟩|⟨q,rfl⟩
  .refine ⟨upd F b (.cod S.qual),⟨bK _,fun a o z=>?_,fun a o z=>?_,fun a z n=>?_⟩,aT⟩
   .by_cases w:a=b
    .subst w
     have:=ab.fh a o z
     rw[q] at this;cases this
     exact aT
    .rw[aG w];exact z
   .by_cases w:a=b
    .subst w;rw[aT] at z;rw[q];exact z
    .rw[aG w] at z;exact ab.fh a o z
   .by_cases w:a=b
    .subst w;exact .inr ⟨_,q⟩
    .rw[aG w] at n;exact absurd z n
  .exact ⟨upd F b (.cod S.qual),Ext.new ab.fh q,aT⟩
 obtain ⟨d,e1,j⟩:=e1
 have e2:Ext d H1 (upd d f (FnO f (S.obj cl doc pm b ct))) (upd H1 f (FnO f (S.obj cl doc pm b ct))):=Ext.new e1.fh k
 exact h (.ref f) _ _ (e1.trans e2) ⟨f,cl,doc,pm,b,ct,rfl,aT,e2.ff _ _ j,i⟩
def xA(i:Nat)(q:Str):Sg->R Fw:=fun ρ=>.ok (.nx (ρ.set i (some (.k q))))
def aA5{X:Cx}{c:Ct}{E:XK}{st:Stmt}{i:Nat}{q:Str}{S:ClSt}{P0:Az}{qs:List (Pos×Str)}{cells:List (Str×Az)}(d:cells=c.cells)(j:c.cls q=some S)(m:c.g.T P0=some (.tbl qs))(h:PS X st (iR (tMk cells S P0 qs) (h8 i))):PSf X c E st (xA i q):=PS.imp h fun D σ H b=>by
 obtain ⟨ρ,F,ab,k⟩:=b
 refine aA4 d m ab fun v l H' e n=>?_
 exact Rk.ok k _ l H' e.ff ((ab.ext e).setF (a:=.k q) (let ⟨f,cl,doc,pm,cc,ct,h⟩:=n;⟨S,f,cl,doc,pm,cc,ct,j,h⟩) fun z=>nomatch z)
def qN:Option (Option A)->Option A
 | some (some (.d x))=>some (.d x)
 | some (some (.x e))=>some (.x e)
 | some (some (.g k n G))=>some (.g k n G)
 | _=>none
def gA:List Nat->Sg->Option (List A)
 | [],_=>some []
 | j::js,ρ=>match qN ρ[j]?,gA js ρ with
  | some a,some as=>some (a::as)
  | _,_=>none
def tR{o:Option (Option A)}{a:A}(h:qN o=some a):o=some (some a)/\∀ {c:Ct} {F H:Hp} {v:V},AO c F H a v->AF c.g c.K c.mg F a v:=by
 unfold qN at h
 split at h<;>cases h
 · exact ⟨rfl, fun z => z⟩
 · exact ⟨rfl, fun z => z⟩
 · exact ⟨rfl, fun z => z⟩
theorem aA6{c:Ct}{ρ:Sg}{σ:L2.St}{F H:Hp}(ab:Ab c ρ σ F H):∀ {js:List Nat} {caps:List A},gA js ρ=some caps->∃ cvs,AFs c.g c.K c.mg F caps cvs/\cvs.length=js.length/\∀ (i:Nat) j,js[i]? = some j->∃ v,cvs[i]? = some v/\σ[j]? = some (some v)
 | [],_,h=>by cases h;exact ⟨[],trivial,rfl,fun i j z=>by simp at z⟩
 | j::js,caps,h=>by
  unfold gA at h
  split at h
  .rename_i a as h1 h2
   cases h
   obtain ⟨cvs,r,l,g⟩:=aA6 ab h2
   obtain ⟨p,d⟩:=tR h1
   obtain ⟨v,k,m⟩:=ab.slot j a p
   refine ⟨v::cvs,⟨d m,r⟩,by simp[l],fun i b e=>?_⟩
   cases i with
   | zero=>simp at e;subst e;exact ⟨v,rfl,k⟩
   | succ i=>obtain ⟨o,n,f⟩:=g i b (by simpa using e);exact ⟨o,by simpa using n,f⟩
  .cases h
def yU(X:Cx)(T:Hp)(c:Ct)(js:List Nat)(ρ:Sg)(F:Hp)(a:A)(v:V):Prop:=AF c.g c.K c.mg F a v \/
 ∃ S fr sl k n Gm caps,a=.g k n (Gm caps)/\oJ c F S v/\CloOk X.prog X.w X.K X.mg X.base T S fr k n Gm/\(∀ y,(y,NameKind.free)∈S.scope.names->y∈fr)/\(∀ y∈fr,(y,NameKind.free)∈S.scope.names)/\sl.map (fun j=>X.N[j]?)=fr.map some/\(∀ j∈sl,j∈js)/\gA sl ρ=some caps
def yU.same{X:Cx}{T:Hp}{c:Ct}{js:List Nat}{ρ:Sg}{F d:Hp}{a:A}{v:V}(s:aH F d)(h:yU X T c js ρ F a v):yU X T c js ρ d a v:=by
 rcases h with h|⟨S,fr,sl,k,n,Gm,b,h1,h2,e⟩
 · exact .inl (AF.same s h)
 · exact .inr ⟨S, fr, sl, k, n, Gm, b, h1, h2.same s, e⟩
def aCP(X:Cx)(T:Hp)(c:Ct)(js:List Nat)(ρ:Sg)(F:Hp):List A->List V->Prop
 | [],[]=>True
 | a::as,v::vs=>yU X T c js ρ F a v/\aCP X T c js ρ F as vs
 | _,_=>False
def tK1(X:Cx)(T:Hp)(c:Ct)(js:List Nat)(E:XK)(f:Sg->R A):TE:=fun σ H Q=>∃ ρ F,Ab c ρ σ F H/\Rk c E F H (f ρ) fun a=>∀ v F' H',Ext F H F' H'->yU X T c js ρ F' a v->Q v H'
def tKs(X:Cx)(T:Hp)(c:Ct)(js:List Nat)(E:XK)(f:Sg->R (List A)):TA:=fun σ H Q=>∃ ρ F,Ab c ρ σ F H/\Rk c E F H (f ρ) fun as=>∀ vs F' H',Ext F H F' H'->aCP X T c js ρ F' as vs->Q vs H'
section
variable{X:Cx}{T:Hp}{c:Ct}{js:List Nat}{E:XK}{e:Expr}{es:List Expr}
def aCQ{f:Sg->R A}(h:PV X c E e f):PE X e (tK1 X T c js E f):=PE.imp h fun σ H Q ⟨ρ,F,ab,k⟩=>⟨ρ,F,ab,k.imp fun a _ q v b H' e1 r=>q v b H' e1 (.inl r)⟩
def tS(q:Str)(sl:List Nat)(k n:Nat)(Gm:List A->List D9->R D9)(i:Nat):Sg->R A:=fun ρ=>match ρ[i]?,gA sl ρ with
 | some (some (.k q')),some caps=>if q'=q then .ok (.g k n (Gm caps)) else .bad
 | _,_=>.bad
def aA7{q:Str}{S:ClSt}{fr:List Str}{sl:List Nat}{k n i:Nat}{Gm:List A->List D9->R D9}(g:c.cls q=some S)(M:CloOk X.prog X.w X.K X.mg X.base T S fr k n Gm)(h1:∀ y,(y,NameKind.free)∈S.scope.names->y∈fr)(h2:∀ y∈fr,(y,NameKind.free)∈S.scope.names)
  (p:sl.map (fun j=>X.N[j]?)=fr.map some) (l:∀ j∈sl,j∈js) (h:PE X e (fN i)):PE X e (tK1 X T c js E (tS q sl k n Gm i)):=PE.imp h fun σ H Q ⟨ρ,F,ab,k⟩=>by
 unfold tS at k
 split at k
 .rename_i m a hi r
  by_cases hq:m=q
  .rw[if_pos hq] at k
   subst hq
   obtain ⟨v,o,s,f,cl,doc,pm,d,ct,h0,b⟩:=ab.slot i _ hi
   rw[g] at h0;cases h0
   have b:oJ c F S v:=⟨f,cl,doc,pm,d,ct,b⟩
   exact ⟨v,o,Rk.ok k v F H (Ext.refl ab.fh) (.inr ⟨_,fr,sl,_,_,Gm,a,rfl,b,M,h1,h2,p,l,r⟩)⟩
  .rw[if_neg hq] at k;exact k.elim
 .exact k.elim
def uZ(sl:List Nat)(k n:Nat)(Gm:List A->List D9->R D9):Sg->R A:=fun ρ=>match gA sl ρ with
 | some caps=>.ok (.g k n (Gm caps))
 | none=>.bad
def aNT{S:ClSt}{fr:List Str}{sl:List Nat}{k n:Nat}{Gm:List A->List D9->R D9}{P0:Az}{qs:List (Pos×Str)}{cells:List (Str×Az)}(b:cells=c.cells)(l:c.g.T P0=some (.tbl qs))(M:CloOk X.prog X.w X.K X.mg X.base T S fr k n Gm)(h1:∀ y,(y,NameKind.free)∈S.scope.names->y∈fr)(h2:∀ y∈fr,(y,NameKind.free)∈S.scope.names)
  (m:sl.map (fun j=>X.N[j]?)=fr.map some) (d:∀ j∈sl,j∈js) (h:PE X e (tMk cells S P0 qs)):PE X e (tK1 X T c js E (uZ sl k n Gm)):=PE.imp h fun σ H Q ⟨ρ,F,ab,k⟩=>by
 unfold uZ at k
 split at k
 .rename_i a o
  exact aA4 b l ab fun v f H' e1 i=>Rk.ok k v f H' e1 (.inr ⟨_,fr,sl,_,_,Gm,a,rfl,i,M,h1,h2,m,d,o⟩)
 .exact k.elim
def aA8:PA X [] (tKs X T c js E aR):=PA.imp aQ fun σ H Q ⟨ρ,F,ab,k⟩=>Rk.ok k [] F H (Ext.refl ab.fh) trivial
end
section
variable{X:Cx}{T:Hp}{c:Ct}{js:List Nat}{E:XK}{e:Expr}{es:List Expr}
def kA{f:Sg->R A}{g:Sg->R (List A)}(h:PE X e (tK1 X T c js E f))(h2:PA X es (tKs X T c js E g))(d:starEach (e::es) X.env=(false,eval e X.env)::starEach es X.env:=by rfl):PA X (e::es) (tKs X T c js E (aB f g)):=PA.imp (aJ h h2 d) fun σ H Q a=>by
 obtain ⟨ρ,F,ab,k⟩:=a
 refine ⟨ρ,F,ab,(Rk.bind k).imp fun x _ q v j H1 s1 r1=>⟨ρ,j,ab.ext s1,((Rk.bind q).ext s1).imp fun xs _ q vs i H2 b r2=>?_⟩⟩
 exact Rk.ok q (v::vs) i H2 (s1.trans b) ⟨r1.same b.ff,r2⟩
theorem yV:∀ {js:List Nat} {ρ:Sg} {caps:List A},gA js ρ=some caps->∀ j∈js,∃ a,ρ[j]? = some (some a)
 | [],_,_,_,j,hj=>by simp at hj
 | i::js,ρ,caps,h,j,hj=>by
  unfold gA at h
  split at h
  .rename_i a b h1 h2
   rcases AS.mp hj with z|z
   · subst z; exact ⟨a, (tR h1).1⟩
   · exact yV h2 j z
  .cases h
def aKN{α:Type}{N:List α}{sl:List Nat}{fr:List α}(h:sl.map (fun j=>N[j]?)=fr.map some):sl.length=fr.length/\∀ (i:Nat) x,fr[i]? = some x->∃ j,sl[i]? = some j/\N[j]? = some x:=by
 have a:sl.length=fr.length:=by have:=DW List.length h;simpa using this
 refine ⟨a,fun i x e=>?_⟩
 have hi:i < fr.length:=(AG.mp e).1
 have h2:(sl.map (fun j=>N[j]?))[i]? = (fr.map some)[i]?:=by rw[h]
 rw[AN,AN,e,AH (by omega)] at h2
 exact ⟨sl[i],AH _,BZ h2⟩
def aHB{S:ClSt}{fr:List Str}{sl:List Nat}{k n:Nat}{Gm:List A->List D9->R D9}{d:List A}{ρ:Sg}{σ:L2.St}{F H:Hp}{p:Cv}{v:V}(hG:c.g=gOf X.prog X.w X.K X.mg X.base T)(C:X.K=c.K)(hM:X.mg=c.mg)(m:X.env.cells=c.cells)(ab:Ab c ρ σ F H)(R:PubRel X σ H js p)
  (W:oJ c F S v) (M:CloOk X.prog X.w X.K X.mg X.base T S fr k n Gm) (h1:∀ y,(y,NameKind.free)∈S.scope.names->y∈fr) (h2:∀ y∈fr,(y,NameKind.free)∈S.scope.names)
  (h3:sl.map (fun j=>X.N[j]?)=fr.map some) (O:∀ j∈sl,j∈js) (Z:gA sl ρ=some d):AF c.g c.K c.mg (pub p F) (.g k n (Gm d)) v:=by
 obtain ⟨f,cl,doc,pm,L,ct,rfl,q1,q2,u⟩:=W
 obtain ⟨cvs,r,l,P⟩:=aA6 ab Z
 obtain ⟨G,Y⟩:=aKN h3
 have q:∀ b∈cW p,F b=none:=fun b U=>a9 ab.fh (R.free b U)
 have B:aH F (pub p F):=j8 q
 have key:∀ (i:Nat) x v,fr[i]? = some x->cvs[i]? = some v->∃ a o,cl.lookup x=some a/\p.lookup a=some (o,v):=fun i x v e1 e2=>by
  obtain ⟨j,e3,e4⟩:=Y i x e1
  obtain ⟨v',e5,e6⟩:=P i j e3
  rw[e2] at e5;cases e5
  obtain ⟨x',a,o,v2,e7,e8,J,E⟩:=R.all j (O j (AU e3))
  rw[e4] at e7;cases e7
  rw[e6] at J;cases J
  obtain ⟨I,t⟩:=u.all (x,.free) (h2 x (AU e1)) rfl
  have s:=u.of _ _ t
  rw[<-m] at s
  have h:X.env.cells.lookup x=some I:=s
  rw[e8] at h;cases h
  exact ⟨a,o,t,E⟩
 refine ⟨f,pub p F,rfl,bK _,?_⟩
 rw[hG]
 refine M F (pub p F) d cvs f cl doc pm ct L (fun a o z=>ab.f0 a o (ab.t0 a o (by rw[hG];exact z))) (by rw[C,hM,<-C,<-hM];rw[hG] at r;rw[<-C,<-hM] at r;exact r) B (B _ _ q1) (B _ _ q2) ⟨l.trans G,fun n c e=>h1 n (u.only n c e),fun n Q c e e'=>R.inj n Q c (by rw[m];exact u.of _ _ e) (by rw[m];exact u.of _ _ e'),fun i x v e1 e2=>?_⟩ fun a ha=>?_
 .obtain ⟨a,o,e3,e4⟩:=key i x v e1 e2
  exact ⟨a,o,e3,o9 e4⟩
 .obtain ⟨x,hx,e⟩:=DQ.mp ha
  obtain ⟨i,hi,D⟩:=EU.mp hx
  obtain ⟨I,o,e3,e4⟩:=key i x (cvs[i]'(by rw[l,G];exact hi)) (by rw[AH hi,D]) (AH _)
  rw[e] at e3;cases e3
  exact q a (gU.mpr ⟨_,e4⟩)
theorem wK{ρ:Sg}{σ:L2.St}{F H:Hp}{cv:Cv}(hG:c.g=gOf X.prog X.w X.K X.mg X.base T)(hK:X.K=c.K)(hM:X.mg=c.mg)(hcl:X.env.cells=c.cells)(ab:Ab c ρ σ F H)(R:PubRel X σ H js cv):∀ {as:List A} {vs:List V},aCP X T c js ρ F as vs->AFs c.g c.K c.mg (pub cv F) as vs
 | [],[],_=>trivial
 | a::as,v::vs,h=>by
  refine ⟨?_,wK hG hK hM hcl ab R h.2⟩
  rcases h.1 with q|⟨S,fr,sl,k,n,Gm,d,rfl,o,e,m,p,j,i,l⟩
  · exact AF.same (j8 fun b f => a9 ab.fh (R.free b f)) q
  · exact aHB hG hK hM hcl ab R o e m p j i l
def l6(js:List Nat)(n:Nat)(G:List A->R A)(f:Sg->R (List A)):Sg->R A:=fun ρ=>match gA js ρ with
 | some _=>(f ρ).bind fun as=>if as.length=n then (dOf (G as)).bind fun x=>.ok (.d x) else .bad
 | none=>.bad
def aE0{n:Nat}{G:List A->R A}{g:Gb}{K:Frag}{mg:Str->Option V9}{f:Sg->R (List A)}(hG:c.g=gOf X.prog X.w X.K X.mg X.base T)(P:X.K=c.K)(hM:X.mg=c.mg)(i:X.env.cells=c.cells)(V:g=c.g)(J:K=c.K)(M:mg=c.mg)
  (t:∀ j∈js,∃ x,X.N[j]? = some x/\X.env.kindOf x=some .cell/\X.fn x=true) (h:PE X e (aEE X js (spF g K mg n G) E (tKs X T c js E f))):PV X c E e (l6 js n G f):=PE.imp h fun σ H Q ⟨ρ,F,ab,k⟩=>by
 subst V J M
 unfold l6 at k
 split at k
 .rename_i y W
  refine ⟨ρ,F,ab,(Rk.bind k).imp fun p _ q vs D H1 e1 r1=>⟨fun j B=>?_,fun I R=>?_⟩⟩
  .obtain ⟨x,U,a2,a3⟩:=t j B
   obtain ⟨a,ha⟩:=yV W j B
   obtain ⟨v,L,_⟩:=ab.slot j a ha
   exact ⟨x,v,U,a2,a3,L⟩
  .by_cases hn:p.length=n
   .rw[if_pos hn] at q
    have r:=ab.ext e1
    have u:∀ b∈cW I,D b=none:=fun b s=>a9 e1.fh (R.free b s)
    refine ⟨pub I D,p,fun a o z=>j8 u a o (e1.ff a o (ab.f0 a o (ab.t0 a o z))),aHA e1.fh,wK hG P hM i r R r1,hn,?_⟩
    cases hgg:G p with
    | bad=>rw[hgg] at q;exact q
    | ok a=>
     rw[hgg] at q
     cases a with
     | d x=>
      intro v O H2 e2 r2
      exact Rk.ok q v _ _ (e1.trans (wI R.free e1.fh e2)) (aA1 (yT e2.ff) r2)
     | l xs=>exact False.elim q
     | m xs=>exact False.elim q
     | x xs=>exact False.elim q
     | g k n f=>exact False.elim q
     | k S=>exact False.elim q
     | f S=>exact False.elim q
    | ex x=>
     rw[hgg] at q
     intro a C O H2 e2 r2
     obtain ⟨Y,Z⟩:=aG9 (yT e2.ff) r2
     exact ⟨q a C _ _ ((ab.all.trans e1).trans (wI R.free e1.fh e2)) Y,fun b s=>by cases s;exact Z⟩
   .rw[if_neg hn] at q;exact q.elim
 .exact k.elim
end
section
variable{P:Program}{w:World}{K:Frag}{mg:Str->Option V9}{base:Heap}{T:Hp}
structure DefAtT(K:Frag)(mg:Str->Option V9)(base:Heap)(T:Hp)(qs:List (Pos×Str))(x:Str)(st:Stmt)(ps:List Str):Prop where
 ex:∃ f oc od kV doc pm an c0 ct osl P0,K.lookup f=some ⟨oc,od,.func (PySem.W.fnOf x x (fZ st) (cL st) (aL st) .none kV doc pm an (.ref c0) ct),osl⟩/\PySem.W.codeIn K (.ref c0) x=true/\PySem.W.keepIn K (.ref f)=true /\
  iO K (PySem.W.fnOf x x (fZ st) (cL st) (aL st) .none kV doc pm an (.ref c0) ct) ps []/\mg x=some (.ref f)/\Tb mg base c0 P0/\T P0=some (.tbl qs)
def aNU{h:Heap}{qs:List (Pos×Str)}{xs:List Str}{x:Str}{st:Stmt}{ps:List Str}(D:DefAt K mg x st ps)(l:K.In h)(o:x4 mg h base T qs xs)(hx:x∈xs):DefAtT K mg base T qs x st ps:=by
 obtain ⟨f,fd,F,b,m⟩:=D.ex
 obtain ⟨j,od,kV,doc,pm,i,c,ct,a,rfl,g,d⟩:=F.ex
 obtain ⟨c0,P0,p,n,k⟩:=o x hx
 have e:c=.ref c0:=k f _ _ m (l _ _ g) rfl
 subst e
 exact ⟨f,j,od,kV,doc,pm,i,c0,ct,a,P0,g,d,F.kp,b,m,n,p⟩
def aA9{x:Str}{st:Stmt}{N ps:List Str}{k:Nat}{qs:List (Pos×Str)}{cls:Str->Option ClSt}{fb:Sg->R Fw}(D:DefAtT K mg base T qs x st ps)(S:FnScope N ps (aL st))
  (a:∀ (f c0 P0:Az) (A:Around) (outer:List Env) (s:S9) (H F:Hp) (E:XK),Tb mg base c0 P0->T P0=some (.tbl qs)->Room k (A.deeper (envOfC x (aL st) s.heap.objs.size f (.ref c0)))->
   jW ((iS (CXe P w) P w K mg base N x (aL st) f (.ref c0) A outer s H E).fly E) ⟨K,mg,w,F,H,gOf P w K mg base T,(envOfC x (aL st) s.heap.objs.size f (.ref c0)).cells,cls⟩ E (cL st) fb):bD P w K mg base T (k+1) x ps (fnF N.length fb):=by
 obtain ⟨f,r,od,kV,doc,pm,q,c0,ct,o,P0,e,c,i,b,m,n,p⟩:=D.ex
 refine ⟨f,_,aBZ e c S (fun vs H Q E h=>?_) (fun A outer s H vs Q E g h=>?_),b,m,i⟩
 .obtain ⟨F,l,_,_,h2,d,_⟩:=h
  rw[h2.len,d]
 .obtain ⟨F,l,h0,h1,h2,d,j⟩:=h
  exact ⟨_,(a f c0 P0 A outer s H F E n p g).unfly fun _ _ z=>v3 z,qJ h0 h1 h2 j⟩
end
def aNV:Stmt->Expr
 | .Assign _ e _=>e
 | .Return (some e) _=>e
 | _=>.Constant .none 0 ⟨0,0,0,0⟩
def aNW(e:Expr)(i:Nat):Expr:=match e with
 | .Call _ as _ _=>as.getD i (.Constant .none 0 ⟨0,0,0,0⟩)
 | e=>e
def clS(q:Str):Stmt->ClSt
 | .FunctionDef x a b _ _ _ sc _ _ _=>⟨x,q,a,.stmts b,sc⟩
 | s=>⟨"",q,fZ s,.stmts [],aL s⟩
def clE(q:Str):Expr->ClSt
 | .Lambda a b sc _=>⟨"<lambda>",q,a,.expr b,sc⟩
 | _=>⟨"",q,fZ (.Pass ⟨0,0,0,0⟩),.stmts [],aL (.Pass ⟨0,0,0,0⟩)⟩
def aNX:Stmt->Pos
 | .FunctionDef _ _ _ _ _ _ _ _ _ p=>p
 | _=>⟨0,0,0,0⟩
def aQ2:Expr->Pos
 | .Lambda _ _ _ p=>p
 | _=>⟨0,0,0,0⟩
def aE1{X:Cx}:∀ j∈([]:List Nat),∃ x,X.N[j]? = some x/\X.env.kindOf x=some .cell/\X.fn x=true:=fun j h=>by simp at h
def u0{X:Cx}{i:Nat}{js:List Nat}(h:∃ x,X.N[i]? = some x/\X.env.kindOf x=some .cell/\X.fn x=true)(t:∀ j∈js,∃ x,X.N[j]? = some x/\X.env.kindOf x=some .cell/\X.fn x=true):∀ j∈i::js,∃ x,X.N[j]? = some x/\X.env.kindOf x=some .cell/\X.fn x=true:=fun j a=>by
 rcases AS.mp a with z|z
 · subst z; exact h
 · exact t j z
end Fl
namespace Zp
open PySem
section
variable{prog:Program}{w:World}{A:Around}{E:V9->S9->Prop}{s:S9}
def qW{it t:Az}{i:Nat}{items}{x:V9}{Q:V9->S9->Prop}(a:s.heap.IsTupleIter it t i)
  (g:s.heap.IsTuple t items) (hx:items[i]? = some x) (f:∀ h',h'.IsTupleIter it t (i+1)->Heap.SameBut it s.heap h'->Q x {s with heap:=h'}) :
  wpAny (model prog w) A (Builtin.SmallTypes.nextOf (.ref it)) Q E s:=by
 obtain ⟨o,c,h,b⟩:=id a
 obtain ⟨k,e,_,j,d⟩:=g
 unfold Builtin.SmallTypes.nextOf
 refine AB (BT (name:=Str.ofString "__next__") a.typeIs DY
  (B7 DY a.typeIs GT ?_ (GP _)))
 show wpAny _ _ (field (.ref it) 0 >>= _) _ _ s
 refine AB (BJ c b (x:=.ref t) rfl ?_)
 show wpAny _ _ (if (Value.ref t == Value.none)=true then _ else _) _ _ s
 rw[if_neg (show ¬ ((Value.ref t == Value.none)=true) from A0)]
 show wpAny _ _ (field (.ref it) 1 >>= _) _ _ s
 refine AB (BJ c b (x:=.int i 0) rfl ?_)
 show wpAny _ _ (seqItems? (.ref t) >>= _) _ _ s
 refine AB (CM e d ?_)
 simp only[CS,hx]
 refine AB (EA c b (by simp) (AD ⟨x,rfl,AD (f _ ?_ (B6 ..))⟩))
 exact ⟨_,BN _ c (EO (DI b _)),(Obj.cls_mapFields ..).trans h,by
  rw[DI b];simp[rawInt]⟩
def r9{it t:Az}{i:Nat}{items}{Q:V9->S9->Prop}(h:A.handled=none)
  (b:s.heap.IsTupleIter it t i) (j:s.heap.IsTuple t items) (hx:items[i]? = none)
  (k:∀ h' e,Heap.ExtBut it s.heap h'->(∃ o,h'.get? e=some o/\o.cls=.type "StopIteration")->E (.ref e) {s with heap:=h'}) :
  wpAny (model prog w) A (Builtin.SmallTypes.nextOf (.ref it)) Q E s:=by
 obtain ⟨o,g,n,d⟩:=id b
 obtain ⟨p,f,_,l,c⟩:=j
 unfold Builtin.SmallTypes.nextOf
 refine AB (BT (name:=Str.ofString "__next__") b.typeIs DY
  (B7 DY b.typeIs GT ?_ (GP _)))
 show wpAny _ _ (field (.ref it) 0 >>= _) _ _ s
 refine AB (BJ g d (x:=.ref t) rfl ?_)
 show wpAny _ _ (if (Value.ref t == Value.none)=true then _ else _) _ _ s
 rw[if_neg (show ¬ ((Value.ref t == Value.none)=true) from A0)]
 show wpAny _ _ (field (.ref it) 1 >>= _) _ _ s
 refine AB (BJ g d (x:=.int i 0) rfl ?_)
 show wpAny _ _ (seqItems? (.ref t) >>= _) _ _ s
 refine AB (CM f c ?_)
 simp only[CS,hx]
 refine AB (EX (AB (EA g d (by simp) ?_)))
 show wpAny _ _ (newExc (.type "StopIteration") [] >>= _) _ _ _
 refine AB ?_
 simp only[newExc,newTuple]
 refine AB (CK ?_ (by size_fits))
 refine AB (m:=firstArgMember _ _) (wpAny_of_eq (a:=Value.none) (by first|rfl|(simp only[firstArgMember];rfl)) ?_)
 refine CK ?_ (by size_fits)
 simp only[raiseNew]
 refine AB (wpAny_handled ?_)
 first|rw[show A.in1.handled=none from h]|rw[h]
 refine AB (AD (wpAny_throw ?_))
 exact k _ _ (((B6 ..).extBut.push _).push _) ⟨_,AT _ rfl,rfl⟩
end
def z8{prog:Program}{w:World}{A:Around}(e:A.handled=none)(it l:Az)(c:l≠it)(items:Array V9) :
  Draws prog w A it [it,l] items.size (fun i v=>items[i]? = some v) (fun i h=>h.IsTupleIter it l i/\h.IsTuple l items) where
 live:=fun _ _ st=>let ⟨o,ho,_⟩:=st.1;⟨o,ho⟩
 frame:=fun _ _ _ st d=>⟨let ⟨o,ho,r⟩:=st.1;⟨o,d it (by simp) o ho,r⟩,let ⟨o,ho,r⟩:=st.2;⟨o,d l (by simp) o ho,r⟩⟩
 item:=fun i s Q E hi st f=>by
  refine qW st.1 st.2 (x:=items[i]) (by simp[hi]) fun h' b a=>?_
  exact f _ h' s.toks (by simp[hi]) ⟨b,st.2.extBut a.extBut c⟩ a
 done:=fun s Q E st g=>r9 e st.1 st.2 (by simp) g
structure Apart(z TI TO i1 i2:Az)(f1 f2:List Az):Prop where
 TIz:TI≠z
 TOz:TO≠z
 i1z:i1≠z
 i2z:i2≠z
 TITO:TI≠TO
 TIi1:TI≠i1
 TIi2:TI≠i2
 TOi1:TO≠i1
 TOi2:TO≠i2
 i12:i1≠i2
 z1:z∉f1
 z2:z∉f2
 t1:TO∉f1
 t2:TO∉f2
 i1f2:i1∉f2
 i2f1:i2∉f1
section
variable{prog:Program}{w:World}{A:Around}{E:V9->S9->Prop}{s:S9}
abbrev fD(h:Heap)(z TI TO:Az)(f0 f1:V9):Prop:=h.get? z=some {cls:=.type "zip",dict:=none,data:=.fields #[f0,f1,.bool false,.ref TI,.ref TO],slots:=#[]}
def yW{M:Model}{A:Around}{E:V9->S9->Prop}{s:S9}{a:Az}{Q:Option Obj->S9->Prop}(h:Q (s.heap.get? a) s):wpAny M A (loadIfAlive a) Q E s:=fun Γ p _=>by
 unfold loadIfAlive
 rw[Sem.wp_loadIfAlive]
 exact h
def wL{z TI TO:Az}{f0:V9}{bb:Bool}{Q:Bool->S9->Prop}(hz:fD s.heap z TI TO f0 (.bool bb))(a:f0=.none\/∃ T:Az,f0=rawInt T/\s.heap.get? T=none)(h:Q true s):wpAny (model prog w) A (Builtin.SmallTypes.ownedTupleIsFree (.ref z)) Q E s:=by
 unfold Builtin.SmallTypes.ownedTupleIsFree
 refine AB (BJ hz rfl (x:=f0) rfl ?_)
 rcases a with rfl|⟨T,rfl,b⟩
 .exact AD h
 .show wpAny _ _ (loadIfAlive ((T:Int)).toNat >>= _) _ _ s
  refine AB (yW ?_)
  rw[show ((T:Int)).toNat=T by omega,b]
  exact AD h
def wM{z TI TO i1 i2:Az}{f1 f2:List Az}{n1 n2 i:Nat}{P1 P2:Nat->V9->Prop}{S1 S2:Nat->Heap->Prop}{a b f0:V9}{bb:Bool}{Q:V9->S9->Prop}(D:Apart z TI TO i1 i2 f1 f2)
  (Y:Draws prog w A i1 f1 n1 P1 S1) (Z:Draws prog w A i2 f2 n2 P2 S2)
  (hz:fD s.heap z TI TO f0 (.bool bb)) (ag:f0=.none\/∃ T:Az,f0=rawInt T/\s.heap.get? T=none) (ad:IsPair s.heap TI (.ref i1) (.ref i2)) (ae:IsPair s.heap TO a b) (h1:S1 i s.heap) (h2:S2 i s.heap) (l1:i < n1) (l2:i < n2)
  (hQ:∀ x y h' tk,P1 i x->P2 i y->IsZip h' z TI TO (rawInt s.heap.objs.size)->IsPair h' TO x y->S1 (i+1) h'->S2 (i+1) h'->IsPair h' s.heap.objs.size x y->h'.objs.size=s.heap.objs.size+1->
   (∀ c o,c≠z->c≠TO->c≠i1->c≠i2->s.heap.get? c=some o->h'.get? c=some o)->Q (.ref s.heap.objs.size) {s with heap:=h',toks:=tk}) :
  wpAny (model prog w) A (Builtin.«zip.__next__» ⟨[.ref z],[]⟩) (fun fin s'=>∃ v,fin=.done (.ret v)/\Q v s') E s:=by
 show wpAny _ _ (field (.ref z) 2 >>= _) _ _ _
 refine AB (BJ hz rfl (x:=.bool false) rfl ?_)
 show wpAny _ _ (field (.ref z) 3 >>= _) _ _ _
 refine AB (BJ hz rfl (x:=.ref TI) rfl ?_)
 refine AB (CM ad rfl ?_)
 show wpAny _ _ (Builtin.SmallTypes.ownedTupleIsFree (.ref z) >>= _) _ _ _
 refine AB (wL hz ag ?_)
 simp only[if_true]
 refine AB (EX ?_)
 refine AB (BJ hz rfl (x:=.ref TO) rfl ?_)
 refine AB (DJ hz (by simp) fun N C n=>?_)
 replace C:fD N z TI TO .ellipsis (.bool bb):=C
 refine AB ?_
 simp only[HJ,List.zipIdx_nil,CN,EQ]
 have fr:∀ {f:List Az} {c:Az} {g g':Heap},Heap.SameBut c g g'->c∉f->∀ b∈f,∀ o,g.get? b=some o->g'.get? b=some o:=fun hs hc b hb o e=>hs.extBut _ _ (fun z=>hc (z▸hb)) e
 refine AB (AB (G1 ?_))
 show wpAny _ _ (Builtin.SmallTypes.nextOf (.ref i1) >>= _) _ _ _
 refine AB (Y.item i {s with heap:=N} _ _ l1 (Y.frame _ _ _ h1 (fr n D.z1)) fun x K af px P j=>AD ?_)
 have G:IsPair K TO a b:=j.extBut _ _ D.TOi1 (n.extBut _ _ D.TOz ae)
 refine AB (CM G rfl ?_)
 refine AB (GC G fun J p l=>?_)
 replace p:IsPair J TO x b:=p
 refine AB (HZ (AD ?_))
 refine AB (AB (G1 ?_))
 show wpAny _ _ (Builtin.SmallTypes.nextOf (.ref i2) >>= _) _ _ _
 refine AB (Z.item i {s with heap:=J,toks:=af} _ _ l2 (Z.frame _ _ _ (Z.frame _ _ _ (Z.frame _ _ _ h2 (fr n D.z2)) (fr j D.i1f2)) (fr l D.t2)) fun y H ac py U h=>AD ?_)
 have h:Heap.SameBut i2 J H:=h
 have j:Heap.SameBut i1 N K:=j
 have I:IsPair H TO x b:=h.extBut _ _ D.TOi2 p
 refine AB (CM I rfl ?_)
 refine AB (GC I fun d m k=>?_)
 replace m:IsPair d TO x y:=m
 refine AB (HZ (AD (AD ?_)))
 refine AB (CM m rfl ?_)
 refine AB (wpAny_newTuple ?_)
 have hsz:d.objs.size=s.heap.objs.size:=by rw[k.1];show H.objs.size=_;rw[h.1,l.1];show K.objs.size=_;rw[j.1,n.1]
 have l:Heap.SameBut TO K J:=l
 have k:Heap.SameBut TO H d:=k
 have L:fD d z TI TO .ellipsis (.bool bb):=k.extBut _ _ D.TOz.symm (h.extBut _ _ D.i2z.symm (l.extBut _ _ D.TOz.symm (j.extBut _ _ D.i1z.symm C)))
 have W:∀ c o,c≠z->c≠TO->c≠i1->c≠i2->s.heap.get? c=some o->d.get? c=some o:=fun c o R c2 c3 c4 e=>
  k.extBut _ _ c2 (h.extBut _ _ c4 (l.extBut _ _ c2 (j.extBut _ _ c3 (n.extBut _ _ R e))))
 have S:S1 (i+1) d:=Y.frame _ _ _ (Y.frame _ _ _ (Y.frame _ _ _ P (fr l D.t1)) (fr h D.i2f1)) (fr k D.t1)
 have X:S2 (i+1) d:=Z.frame _ _ _ U (fr k D.t2)
 have O:z < d.objs.size:=AK L
 show wpAny _ _ (Builtin.SmallTypes.ownedTupleHandOut (.ref z) (.ref d.objs.size) >>= _) _ _ _
 refine AB ?_
 unfold Builtin.SmallTypes.ownedTupleHandOut
 have V:fD (d.push {cls:=.type "tuple",data:=.seq #[x,y]}) z TI TO .ellipsis (.bool bb):=AE _ L
 refine AB (DJ V (by simp) fun h₇ F B=>?_)
 replace F:fD h₇ z TI TO (rawInt d.objs.size) (.bool bb):=F
 refine DJ F (by simp) fun t r u=>?_
 replace r:IsZip t z TI TO (rawInt d.objs.size):=r
 have up:∀ c o,c≠z->d.get? c=some o->t.get? c=some o:=fun c o R e=>u.extBut _ _ R (B.extBut _ _ R (AE _ e))
 have M:IsPair t d.objs.size x y:=u.extBut _ _ (C3 O) (B.extBut _ _ (C3 O) (AT _ rfl))
 have aa:t.objs.size=d.objs.size+1:=by rw[u.1,B.1,BY]
 rw[hsz] at r M aa
 refine AD ⟨_,rfl,?_⟩
 show Q (.ref d.objs.size) _
 rw[hsz]
 exact hQ x y t ac px py r (up _ _ D.TOz m) (Y.frame _ _ _ S fun b hb o e=>up b o (fun q=>D.z1 (q▸hb)) e) (Z.frame _ _ _ X fun b hb o e=>up b o (fun q=>D.z2 (q▸hb)) e) M aa fun c o R c2 c3 c4 e=>up c o R (W c o R c2 c3 c4 e)
def yX{z TI TO i1 i2:Az}{f1 f2:List Az}{n1 n2 i:Nat}{P1 P2:Nat->V9->Prop}{S1 S2:Nat->Heap->Prop}{a b f0:V9}{bb:Bool}{Q:Fin->S9->Prop}(D:Apart z TI TO i1 i2 f1 f2)
  (K:Draws prog w A i1 f1 n1 P1 S1) (L:Draws prog w A i2 f2 n2 P2 S2)
  (hz:fD s.heap z TI TO f0 (.bool bb)) (R:f0=.none\/∃ T:Az,f0=rawInt T/\s.heap.get? T=none) (O:IsPair s.heap TI (.ref i1) (.ref i2)) (P:IsPair s.heap TO a b) (h1:S1 i s.heap) (h2:S2 i s.heap) (F:i=n1\/(i < n1/\i=n2))
  (V:∀ h' tk e,(∀ c o,c≠z->c≠TO->c≠i1->c≠i2->s.heap.get? c=some o->h'.get? c=some o)->(∃ o,h'.get? e=some o/\o.cls=.type "StopIteration")->E (.ref e) {s with heap:=h',toks:=tk}) :
  wpAny (model prog w) A (Builtin.«zip.__next__» ⟨[.ref z],[]⟩) Q E s:=by
 show wpAny _ _ (field (.ref z) 2 >>= _) _ _ _
 refine AB (BJ hz rfl (x:=.bool false) rfl ?_)
 show wpAny _ _ (field (.ref z) 3 >>= _) _ _ _
 refine AB (BJ hz rfl (x:=.ref TI) rfl ?_)
 refine AB (CM O rfl ?_)
 show wpAny _ _ (Builtin.SmallTypes.ownedTupleIsFree (.ref z) >>= _) _ _ _
 refine AB (wL hz R ?_)
 simp only[if_true]
 refine AB (EX ?_)
 refine AB (BJ hz rfl (x:=.ref TO) rfl ?_)
 refine AB (DJ hz (by simp) fun r l j=>?_)
 replace l:fD r z TI TO .ellipsis (.bool bb):=l
 refine AB ?_
 simp only[HJ,List.zipIdx_nil,CN,EQ]
 have fr:∀ {f:List Az} {c:Az} {g g':Heap},Heap.SameBut c g g'->c∉f->∀ b∈f,∀ o,g.get? b=some o->g'.get? b=some o:=fun X Z b Y o e=>X.extBut _ _ (fun z=>Z (z▸Y)) e
 refine AB (AB (G1 ?_))
 show wpAny _ _ (Builtin.SmallTypes.nextOf (.ref i1) >>= _) _ _ _
 rcases F with rfl|⟨W,rfl⟩
 .refine AB (K.done {s with heap:=r} _ _ (K.frame _ _ _ h1 (fr j D.z1)) fun n e d S=>?_)
  obtain ⟨U,p,t⟩:=S
  have y:fD n z TI TO .ellipsis (.bool bb):=d _ _ D.i1z.symm l
  have C:e≠z:=fun x=>by subst x;rw[y] at p;cases p;simp at t
  refine DJ y (by simp) fun m _ h=>V m s.toks e (fun c o G _ N _ x=>h.extBut _ _ G (d _ _ N (j.extBut _ _ G x))) ⟨U,h.extBut _ _ C p,t⟩
 .refine AB (K.item i {s with heap:=r} _ _ W (K.frame _ _ _ h1 (fr j D.z1)) fun x n I px M d=>AD ?_)
  have d:Heap.SameBut i1 r n:=d
  have q:IsPair n TO a b:=d.extBut _ _ D.TOi1 (j.extBut _ _ D.TOz P)
  refine AB (CM q rfl ?_)
  refine AB (GC q fun m J h=>?_)
  have h:Heap.SameBut TO n m:=h
  refine AB (HZ (AD ?_))
  refine AB (AB (G1 ?_))
  show wpAny _ _ (Builtin.SmallTypes.nextOf (.ref i2) >>= _) _ _ _
  refine AB (L.done {s with heap:=m,toks:=I} _ _ (L.frame _ _ _ (L.frame _ _ _ (L.frame _ _ _ h2 (fr j D.z2)) (fr d D.i1f2)) (fr h D.t2)) fun B e k S=>?_)
  have k:Heap.ExtBut i2 m B:=k
  obtain ⟨U,p,t⟩:=S
  have u:fD B z TI TO .ellipsis (.bool bb):=k _ _ D.i2z.symm (h.extBut _ _ D.TOz.symm (d.extBut _ _ D.i1z.symm l))
  have C:e≠z:=fun x=>by subst x;rw[u] at p;cases p;simp at t
  refine DJ u (by simp) fun H _ v=>V H I e (fun c o G c2 N c4 x=>v.extBut _ _ G (k _ _ c4 (h.extBut _ _ c2 (d.extBut _ _ N (j.extBut _ _ G x))))) ⟨U,v.extBut _ _ C p,t⟩
def aHC{z TI TO i1 i2:Az}{f1 f2:List Az}{n1 n2 i:Nat}{P1 P2:Nat->V9->Prop}{S1 S2:Nat->Heap->Prop}{a b:V9}{Q:V9->S9->Prop}(D:Apart z TI TO i1 i2 f1 f2)
 (j:Draws prog w A i1 f1 n1 P1 S1) (k:Draws prog w A i2 f2 n2 P2 S2)
 (hz:IsZip s.heap z TI TO .none) (e:IsPair s.heap TI (.ref i1) (.ref i2)) (d:IsPair s.heap TO a b) (h1:S1 i s.heap) (h2:S2 i s.heap) (g:i < n1) (h:i < n2)
 (f:∀ x y h' tk,P1 i x->P2 i y->IsZip h' z TI TO (rawInt s.heap.objs.size)->IsPair h' TO x y->S1 (i+1) h'->S2 (i+1) h'->IsPair h' s.heap.objs.size x y->h'.objs.size=s.heap.objs.size+1->
  (∀ c o,c≠z->c≠TO->c≠i1->c≠i2->s.heap.get? c=some o->h'.get? c=some o)->Q (.ref s.heap.objs.size) {s with heap:=h',toks:=tk}) :
 wpAny (model prog w) A (Builtin.«zip.__next__» ⟨[.ref z],[]⟩) (fun fin s'=>∃ v,fin=.done (.ret v)/\Q v s') E s:=wM D j k hz (.inl rfl) e d h1 h2 g h f
def aKO{z TI TO i1 i2:Az}{f1 f2:List Az}{n1 n2 i:Nat}{P1 P2:Nat->V9->Prop}{S1 S2:Nat->Heap->Prop}{a b:V9}{Q:Fin->S9->Prop}(D:Apart z TI TO i1 i2 f1 f2)
 (j:Draws prog w A i1 f1 n1 P1 S1) (k:Draws prog w A i2 f2 n2 P2 S2)
 (hz:IsZip s.heap z TI TO .none) (g:IsPair s.heap TI (.ref i1) (.ref i2)) (f:IsPair s.heap TO a b) (h1:S1 i s.heap) (h2:S2 i s.heap) (d:i=n1\/(i < n1/\i=n2))
 (h:∀ h' tk e,(∀ c o,c≠z->c≠TO->c≠i1->c≠i2->s.heap.get? c=some o->h'.get? c=some o)->(∃ o,h'.get? e=some o/\o.cls=.type "StopIteration")->E (.ref e) {s with heap:=h',toks:=tk}) :
 wpAny (model prog w) A (Builtin.«zip.__next__» ⟨[.ref z],[]⟩) Q E s:=yX D j k hz (.inl rfl) g f h1 h2 d h
def wN{z TI TO i1 i2:Az}{f1 f2:List Az}{n1 n2 i:Nat}{P1 P2:Nat->V9->Prop}{S1 S2:Nat->Heap->Prop}{a b:V9}{Q:Option V9->S9->Prop}(D:Apart z TI TO i1 i2 f1 f2)
  (q:Draws prog w A.in1 i1 f1 n1 P1 S1) (r:Draws prog w A.in1 i2 f2 n2 P2 S2)
  (hz:IsZip s.heap z TI TO .none) (e:IsPair s.heap TI (.ref i1) (.ref i2)) (d:IsPair s.heap TO a b) (h1:S1 i s.heap) (h2:S2 i s.heap) (h:i < n1) (l:i < n2)
  (g:∀ x y h' tk,P1 i x->P2 i y->IsZip h' z TI TO (rawInt s.heap.objs.size)->IsPair h' TO x y->S1 (i+1) h'->S2 (i+1) h'->IsPair h' s.heap.objs.size x y->h'.objs.size=s.heap.objs.size+1->
   (∀ c o,c≠z->c≠TO->c≠i1->c≠i2->s.heap.get? c=some o->h'.get? c=some o)->Q (some (.ref s.heap.objs.size)) {s with heap:=h',toks:=tk}) :
  wpAny (model prog w) A (pyNext (.ref z)) Q E s:=by
 have f:s.TypeIs (.ref z) "zip":=⟨_,hz,rfl⟩
 unfold pyNext
 exact AB (DF (BT (name:=Str.ofString "__next__") f CI
  (B7 CI f EC
   (aHC D q r hz e d h1 h2 h l fun x y h' tk j p2 p k u a4 n m t=>AD (g x y h' tk j p2 p k u a4 n m t)) (D4 _))))
def yY{z TI TO i1 i2:Az}{f1 f2:List Az}{n1 n2 i:Nat}{P1 P2:Nat->V9->Prop}{S1 S2:Nat->Heap->Prop}{a b:V9}{Q:Option V9->S9->Prop}(D:Apart z TI TO i1 i2 f1 f2)
  (l:Draws prog w A.in1 i1 f1 n1 P1 S1) (n:Draws prog w A.in1 i2 f2 n2 P2 S2)
  (hz:IsZip s.heap z TI TO .none) (g:IsPair s.heap TI (.ref i1) (.ref i2)) (f:IsPair s.heap TO a b) (h1:S1 i s.heap) (h2:S2 i s.heap) (d:i=n1\/(i < n1/\i=n2))
  (j:∀ h' tk,(∀ c o,c≠z->c≠TO->c≠i1->c≠i2->s.heap.get? c=some o->h'.get? c=some o)->Q none {s with heap:=h',toks:=tk}):wpAny (model prog w) A (pyNext (.ref z)) Q E s:=by
 have h:s.TypeIs (.ref z) "zip":=⟨_,hz,rfl⟩
 unfold pyNext
 refine AB (DF (BT (name:=Str.ofString "__next__") h CI
  (B7 CI h EC (aKO D l n hz g f h1 h2 d fun h' tk e k p=>?_) (D4 _))))
 obtain ⟨o,q,m⟩:=p
 refine AB (EW (T:="StopIteration") (b:=true) ⟨o,q,m⟩ GQ ?_)
 exact AD (j _ _ k)
end
def l7(v:V9)(o:Obj)(h:Heap):Prop:=∀ (prog:Program) (w:World) (A:Around) (E:V9->S9->Prop) (s:S9) (Q:V9->S9->Prop),s.heap=h->Q (.ref h.objs.size) {s with heap:=h.push o}->wpAny (model prog w) A (pyIter v) Q E s
noncomputable abbrev H2(h:Heap)(o1 o2:Obj):Heap:=(h.push o1).push o2
noncomputable abbrev H3(h:Heap)(o1 o2:Obj):Heap:=(H2 h o1 o2).push {cls:=.type "tuple",data:=.seq #[.ref h.objs.size,.ref (h.push o1).objs.size]}
noncomputable abbrev H4(h:Heap)(o1 o2:Obj):Heap:=(H3 h o1 o2).push {cls:=.type "tuple",data:=.seq #[.none,.none]}
noncomputable abbrev H5(h:Heap)(o1 o2:Obj):Heap:=(H4 h o1 o2).push {cls:=.type "zip",data:=.fields #[.none,.bool false,.bool false,.ref (H2 h o1 o2).objs.size,.ref (H3 h o1 o2).objs.size]}
def aE2(k f:V9)(a c:Obj) :
  Meets (Builtin.«zip.__new__» ⟨[.type "zip",k,f],[]⟩) (fun _ R s=>l7 k a s.heap/\l7 f c (s.heap.push a) /\
   R (.ok (.ret (.ref (H4 s.heap a c).objs.size))) {s with heap:=H5 s.heap a c}):=
 .of_wp fun prog w A R s h=>by
  obtain ⟨b,g,d,tk,os⟩:=s;obtain ⟨i,e,h⟩:=h
  have l:=sub_zip
  have m:∀ {A:Around} {E:V9->S9->Prop} {Q:V9->S9->Prop},Q (.ref b.objs.size) ⟨b.push a,g,d,tk,os⟩->wpAny (model prog w) A (pyIter k) Q E ⟨b,g,d,tk,os⟩:=fun j=>i prog w _ _ ⟨b,g,d,tk,os⟩ _ rfl j
  have p2:∀ {A:Around} {E:V9->S9->Prop} {Q:V9->S9->Prop},Q (.ref (b.push a).objs.size) ⟨(b.push a).push c,g,d,tk,os⟩->wpAny (model prog w) A (pyIter f) Q E ⟨b.push a,g,d,tk,os⟩:=fun j=>e prog w _ _ ⟨b.push a,g,d,tk,os⟩ _ rfl j
  wp_walk using m,p2
  exact ⟨_,rfl,h⟩
section
variable{prog:Program}{w:World}{A:Around}{E:V9->S9->Prop}{s:S9}
def sA{k e:V9}{a b:Obj}{Q:V9->S9->Prop}(h1:l7 k a s.heap)(h2:l7 e b (s.heap.push a))(f1:a.isFreed=false)(f2:b.isFreed=false)
  (h:∀ h',IsZip h' (s.heap.objs.size+4) (s.heap.objs.size+2) (s.heap.objs.size+3) .none->IsPair h' (s.heap.objs.size+2) (.ref s.heap.objs.size) (.ref (s.heap.objs.size+1))->
   IsPair h' (s.heap.objs.size+3) .none .none->h'.get? s.heap.objs.size=some a->h'.get? (s.heap.objs.size+1)=some b->h'.objs.size=s.heap.objs.size+5->
   (∀ c o,s.heap.get? c=some o->h'.get? c=some o)->Q (.ref (s.heap.objs.size+4)) {s with heap:=h'}) :
  wpAny (model prog w) A (call (.type "zip") [k,e]) Q E s:=by
 refine callType_new F.called_zip (by decide) (F.typeCall_zip_2 _ _) (F.newCall_zip_2 _ _) (fun obj=>F.args_object_init_3 obj _ _) F.entry_zip_new
  (aE2 k e a b) ⟨h1,h2,?_⟩
 have i:(s.heap.push a).objs.size=s.heap.objs.size+1:=BY ..
 have f:(H2 s.heap a b).objs.size=s.heap.objs.size+2:=by rw[BY,i]
 have d:(H3 s.heap a b).objs.size=s.heap.objs.size+3:=by rw[BY,f]
 have g:(H4 s.heap a b).objs.size=s.heap.objs.size+4:=by rw[BY,d]
 have p:(H5 s.heap a b).objs.size=s.heap.objs.size+5:=by rw[BY,g]
 have j:(H5 s.heap a b).get? (H4 s.heap a b).objs.size=some _:=AT _ rfl
 have l:(H5 s.heap a b).get? (H3 s.heap a b).objs.size=some _:=AE _ (AT _ rfl)
 have m:(H5 s.heap a b).get? (H2 s.heap a b).objs.size=some _:=AE _ (AE _ (AT _ rfl))
 have n:(H5 s.heap a b).get? (s.heap.push a).objs.size=some b:=AE _ (AE _ (AE _ (AT _ f2)))
 have q:(H5 s.heap a b).get? s.heap.objs.size=some a:=AE _ (AE _ (AE _ (AE _ (AT _ f1))))
 show _/\_
 rw[f,d,g] at j
 rw[i,f] at m
 rw[d] at l
 rw[i] at n
 rw[g]
 exact ⟨⟨_,j,rfl⟩,h _ j m l q n p fun c o x=>
  AE _ (AE _ (AE _ (AE _ (AE _ x))))⟩
end
end Zp
namespace L2
open PySem PySem.Spec PyProof.Rows
abbrev Col:=Hp->List V->Prop
structure ColOk(P:Program)(w:World)(K:Frag)(C:Col)(it:Az)(tn:Nat->Heap->Prop):Prop where
 obj:∀ i h,tn i h->∃ o,h.get? it=some o/\∀ v,o.data≠.cell v
 keep:∀ i h h',tn i h->(∀ o,h.get? it=some o->h'.get? it=some o)->tn i h'
 one:∀ (X:Cx),X.prog=P->X.w=w->X.K=K->∀ pins s σ H xs ys,Inv X pins σ H s->C H xs->C H ys->xs=ys
 draw:∀ (X:Cx),X.prog=P->X.w=w->X.K=K->∀ (i:Nat) (pins:List (Az×Obj)) (s:S9) (σ:St) (H:Hp) (xs:List V) (A:Around),Inv X pins σ H s->g8 X pins H it->tn i s.heap->C H xs->A.handled=none->
  ∃ fp Pv St,Draws P w A it fp xs.length Pv St/\St i s.heap/\(∀ j h,St j h->tn j h)/\(∀ j v,Pv j v->∃ x,xs[j]? = some x/\aY x v)/\∀ b,g8 X pins H b->b≠it->b∉fp
def aBA{X:Cx}{pins:List (Az×Obj)}{σ:St}{H:Hp}{s:S9}{b a:Az}{o:Obj}(I:Inv X pins σ H s)(d:g8 X pins H b)(e:X.base.get? a=some o):b≠a:=by
 obtain ⟨_,_,_,f,_⟩:=d
 intro z
 rcases f with z2|z2
 .exact I.ok.noex a o e (z▸z2)
 .have c:=AK e
  have g:=I.ok.bsz
  rw[z] at z2
  exact absurd (AW c (A6 g z2)) (BG _)
def aE3{X:Cx}{pins:List (Az×Obj)}{σ:St}{H:Hp}{s:S9}{b a:Az}{xs:List V}(I:Inv X pins σ H s)(c:g8 X pins H b)(h:SqL X.K H a xs):b≠a:=by
 rcases h with (h|⟨o,h⟩)|⟨o,vs,n,h,_⟩
 · intro z; rw [<- z, c.1] at h; cases h
 · intro z; rw [<- z, c.1] at h; cases h
 · exact aBA I c (I.ok.mod.kin _ _ h)
def aE4{X:Cx}{pins:List (Az×Obj)}{σ:St}{H:Hp}{s:S9}{b a:Az}{xs:List V}(I:Inv X pins σ H s)(c:g8 X pins H b)(h:SqT X.K H a xs):b≠a:=by
 rcases h with (h|⟨o,h⟩)|⟨o,vs,n,h,_⟩
 · intro z; rw [<- z, c.1] at h; cases h
 · intro z; rw [<- z, c.1] at h; cases h
 · exact aBA I c (I.ok.mod.kin _ _ h)
def aHD{P:Program}{w:World}{K:Frag}(a it:Az):ColOk P w K (fun H xs=>SqL K H a xs) it (fun i h=>h.IsListIter it a i) where
 obj:=fun i h ⟨o,e,c,d⟩=>⟨o,e,fun v z=>by rw[d] at z;cases z⟩
 keep:=fun i h h' st k=>st.at fun o e=>k o e
 one:=by
  intro X n hw l pins s σ H xs ys I h1 h2
  subst l
  exact I.list_inj h1 h2
 draw:=by
  intro X n hw l i pins s σ H xs A I C st hx x
  subst n hw l
  obtain ⟨f,g,p,hz⟩:=I.list hx
  have m:=aE3 I C hx
  refine ⟨[it,a],(fun i v=>f.toArray[i]? = some v),(fun i h=>h.IsListIter it a i/\h.IsList a f.toArray),by rw[show xs.length=f.toArray.size by rw[g.length];simp];exact Draws.list x it a (Ne.symm m) f.toArray,⟨st,p.isList⟩,fun j h z=>z.1,fun j v e=>?_,fun b y E D=>?_⟩
  .have q:f[j]? = some v:=by simpa using e
   have t:j < xs.length:=by rw[g.length];exact (AG.mp q).1
   obtain ⟨u,r,B⟩:=g.get (AH t)
   rw[q] at r;cases r
   exact ⟨_,AH t,B⟩
  .rcases AS.mp D with z|z
   · exact E z
   · exact aE3 I y hx (by simpa using z)
def aE5{P:Program}{w:World}{K:Frag}(a it:Az):ColOk P w K (fun H xs=>SqT K H a xs) it (fun i h=>h.IsTupleIter it a i) where
 obj:=fun i h ⟨o,e,c,d⟩=>⟨o,e,fun v z=>by rw[d] at z;cases z⟩
 keep:=fun i h h' ⟨o,e,r⟩ k=>⟨o,k o e,r⟩
 one:=by
  intro X n hw l pins s σ H xs ys I h1 h2
  subst l
  exact I.tuple_inj h1 h2
 draw:=by
  intro X n hw l i pins s σ H xs A I D st hx y
  subst n hw l
  obtain ⟨f,g,p,hz⟩:=I.tuple hx
  have m:=aE4 I D hx
  refine ⟨[it,a],(fun i v=>f.toArray[i]? = some v),(fun i h=>h.IsTupleIter it a i/\h.IsTuple a f.toArray),by rw[show xs.length=f.toArray.size by rw[g.length];simp];exact Zp.z8 y it a (Ne.symm m) f.toArray,⟨st,p⟩,fun j h z=>z.1,fun j v e=>?_,fun b B F E=>?_⟩
  .have q:f[j]? = some v:=by simpa using e
   have x:j < xs.length:=by rw[g.length];exact (AG.mp q).1
   obtain ⟨u,t,C⟩:=g.get (AH x)
   rw[q] at t;cases t
   exact ⟨_,AH x,C⟩
  .rcases AS.mp E with z|z
   · exact F z
   · exact aE4 I B hx (by simpa using z)
def sB(z:Str):List V:=z.cps.toList.map fun c=>V.str ⟨#[c]⟩
def aKP{P:Program}{w:World}{K:Frag}(z:Str)(t:Tok)(it:Az):ColOk P w K (fun _ xs=>xs=sB z) it (fun i h=>h.IsStrIter it (strIterType z) z t i) where
 obj:=fun i h ⟨o,e,c,d⟩=>⟨o,e,fun v z=>by rw[d] at z;cases z⟩
 keep:=fun i h h' ⟨o,e,r⟩ k=>⟨o,k o e,r⟩
 one:=fun _ _ _ _ _ _ _ _ _ _ _ h1 h2=>h1.trans h2.symm
 draw:=by
  intro X g hw m i pins s σ H xs A I q st hx a
  subst g hw m hx
  have f:Draws X.prog X.w A it [it] z.cps.size (fun i v=>∃ c u,z.cps[i]? = some c/\v=.str ⟨#[c]⟩ u) (fun i h=>h.IsStrIter it (strIterType z) z t i):=by
   unfold strIterType
   split
   · exact Draws.strAscii a it z t
   · exact Draws.strWide a it z t
  refine ⟨[it],_,_,by rw[show (sB z).length=z.cps.size by unfold sB;simp];exact f,st,fun j h z=>z,?_,fun b p n l=>n (by simpa using l)⟩
  rintro j v ⟨c,u,hc,rfl⟩
  exact ⟨.str ⟨#[c]⟩,by unfold sB;rw[AN,ER,hc];rfl,u,rfl⟩
def Itz(C1 C2:Col):It:=
 ⟨fun i H=>∃ xs ys,C1 H xs/\C2 H ys/\i < xs.length/\i < ys.length,fun i H x H'=>∃ p u v,H p=none/\x=.ref p/\H'=upd H p (.tup [u,v])/\(∀ xs,C1 H xs->xs[i]? = some u)/\∀ ys,C2 H ys->ys[i]? = some v,
  fun i H=>∃ xs ys,C1 H xs/\C2 H ys/\(i=xs.length\/(i < xs.length/\i=ys.length))⟩
def aHE{P:Program}{w:World}{K:Frag}{es:List Expr}{k1}{ae:Pos}{C1 C2:Col}{z TI TO i1 i2:Az}{t1 t2:Nat->Heap->Prop}(O:ColOk P w K C1 i1 t1)(T:ColOk P w K C2 i2 t2)(hd:[z,TI,TO,i1,i2].Nodup) :
  Turn P w K (.Tuple es k1 ae) (Itz C1 C2) [z,TI,TO,i1,i2] z (fun i h=>IsZip h z TI TO .none/\IsPair h TI (.ref i1) (.ref i2)/\(∃ a b,IsPair h TO a b)/\t1 i h/\t2 i h) where
 mem:=by simp
 obj:=fun i h ak c Y=>by
  obtain ⟨s1,C,⟨a,b,M⟩,L,J⟩:=ak
  simp only[AS,BF,C0] at Y
  rcases Y with rfl|rfl|rfl|rfl|rfl
  .exact ⟨_,s1,fun v z=>by have z':Data.fields _=Data.cell v:=z;cases z'⟩
  .exact ⟨_,C,fun v z=>by have z':Data.seq _ _=Data.cell v:=z;cases z'⟩
  .exact ⟨_,M,fun v z=>by have z':Data.seq _ _=Data.cell v:=z;cases z'⟩
  .exact O.obj i h L
  .exact T.obj i h J
 keep:=fun i h h' ⟨s1,C,⟨a,b,M⟩,L,J⟩ k=>⟨k z (by simp) _ s1,k TI (by simp) _ C,⟨a,b,k TO (by simp) _ M⟩,O.keep i h h' L fun o e=>k i1 (by simp) o e,T.keep i h h' J fun o e=>k i2 (by simp) o e⟩
 item:=by
  intro X F hw G Y i pins s σ H E I f st hg
  obtain ⟨s1,C,⟨a,b,M⟩,L,J⟩:=st
  obtain ⟨xs,ys,q1,q2,l1,l2⟩:=hg
  simp only[CF,AS,BF,C0,not_or,C7,HK,DA] at hd
  obtain ⟨⟨d1,d2,W,V⟩,⟨d5,d6,d7⟩,⟨d8,d9⟩,p⟩:=hd
  have t:X.A.in1.handled=none:=I.ok.hd Y
  obtain ⟨f1,P1,S1,D1,a1,a2,a3,a4⟩:=O.draw X F hw G i pins s σ H xs X.A.in1 I (f i1 (by simp)) L q1 t
  obtain ⟨f2,P2,S2,D2,b1,b2,b3,R⟩:=T.draw X F hw G i pins s σ H ys X.A.in1 I (f i2 (by simp)) J q2 t
  have ag:=fun zs (h:C1 H zs)=>O.one X F hw G pins s σ H zs xs I h q1
  have Z:=fun zs (h:C2 H zs)=>T.one X F hw G pins s σ H zs ys I h q2
  subst F hw G
  have D:Zp.Apart z TI TO i1 i2 f1 f2:=⟨Ne.symm d1,Ne.symm d2,Ne.symm W,Ne.symm V,d5,d6,d7,d8,d9,p,a4 z (f z (by simp)) W,R z (f z (by simp)) V,a4 TO (f TO (by simp)) d8,R TO (f TO (by simp)) d9,R i1 (f i1 (by simp)) p,a4 i2 (f i2 (by simp)) (Ne.symm p)⟩
  refine Zp.wN D D1 D2 s1 C M a1 b1 l1 l2 fun x y h' tk px py g1 g2 g3 g4 g5 g6 kp=>?_
  obtain ⟨u,hu,ru⟩:=a3 i x px
  obtain ⟨v,hv,rv⟩:=b3 i y py
  refine ⟨_,rfl,wpAny_letOwnedTupleGo_zip g1 fun h2 se U=>?_⟩
  have ai:s.heap.objs.size≠z:=C3 (AK s1)
  have aj:h2.get? s.heap.objs.size=some {cls:=.type "tuple",data:=.seq #[x,y]}:=(U.2 _ ai).trans g5
  have fT:H s.heap.objs.size=none:=I.hok.fresh (AJ _)
  have g:∀ c o,c∉[z,TI,TO,i1,i2]->s.heap.get? c=some o->h2.get? c=some o:=fun c o d q=>by
   simp only[AS,BF,C0,not_or] at d
   exact (U.2 c d.1).trans (kp c o d.1 d.2.2.1 d.2.2.2.1 d.2.2.2.2 q)
  have B:∀ c l,H c=some l->c∉[z,TI,TO,i1,i2]:=fun c l q j=>by rw[(f c j).1] at q;cases q
  have af:HOk X.prog X.w H h2:=fun c l q=>by
   refine (I.hok c l q).stay (fun c' v' d q'=>g c' v' ?_ q') (fun _ q=>q) (fun _ _ q=>q) fun _ _ q=>q
   rcases d with j|j
   .rw[j];exact B c l q
   .exact B c' _ j
  have aa:HOk X.prog X.w (upd H s.heap.objs.size (.tup [u,v])) h2:=HOk.track af fT ⟨by show 2<=sizeLine;decide,[x,y],.cons ru (.cons rv .nil),⟨_,aj,rfl,_,rfl⟩⟩
  have S:∀ c l,H c=some l->c≠s.heap.objs.size:=fun c l q=>bC q fT
  have I2:Inv X pins σ (upd H s.heap.objs.size (.tup [u,v])) {s with heap:=h2,gens:=s.gens,drawn:=s.drawn,toks:=tk}:=by
   refine I.step (ch:=[z,TI,TO,i1,i2]) (fun c d=>?_) (fun c o _ _ d q _=>g c o d q) (fun c o _ _ d q _=>⟨o.slots,g c o d q⟩)
    (fun c o _ q n=>by rw[aG (A2 (AK q))];exact n) (fun c o d q=>⟨o,g c o d q⟩) (fun c ys q=>by rw[aG (S c _ q)];exact q) (fun c o l q=>by rw[aG (S c _ q)];exact q)
    (fun c ps q=>by rw[aG (S c _ q)];exact q) (fun m hm=>?_) aa I.bare
   .obtain ⟨e0,e1,e2,e3,e4,e5⟩:=f c d
    exact ⟨e3,e1,e4,e5⟩
   .obtain ⟨o,Q,ep,ho,r⟩:=hm
    exact ⟨o,Q,ep,g _ o (fun j=>(f _ j).2.1 rfl) ho,r⟩
  refine ⟨.ref s.heap.objs.size,_,I2,rfl,⟨_,u,v,fT,rfl,rfl,fun zs N=>by rw[ag zs N];exact hu,fun zs N=>by rw[Z zs N];exact hv⟩,⟨se,(U.2 TI (Ne.symm d1)).trans (kp TI _ (Ne.symm d1) d5 d6 d7 C),⟨x,y,(U.2 TO (Ne.symm d2)).trans g2⟩,O.keep _ _ _ (a2 _ _ g3) fun o e=>(U.2 i1 (Ne.symm W)).trans e,T.keep _ _ _ (b2 _ _ g4) fun o e=>(U.2 i2 (Ne.symm V)).trans e⟩,fun c d=>?_⟩
  rw[aG]
  .exact (f c d).1
  .intro j
   have ad:c < s.heap.objs.size:=by
    simp only[AS,BF,C0] at d
    rcases d with rfl|rfl|rfl|rfl|rfl
    · exact AK s1
    · exact AK C
    · exact AK M
    · obtain ⟨o, e, _⟩ := O.obj _ _ L; exact AK e
    · obtain ⟨o, e, _⟩ := T.obj _ _ J; exact AK e
   rw[j] at ad
   exact absurd ad (BG _)
 done:=by
  intro X F hw G Y i pins s σ H E I f st hg
  obtain ⟨s1,C,⟨a,b,M⟩,L,J⟩:=st
  obtain ⟨xs,ys,q1,q2,ac⟩:=hg
  simp only[CF,AS,BF,C0,not_or,C7,HK,DA] at hd
  obtain ⟨⟨d1,d2,W,V⟩,⟨d5,d6,d7⟩,⟨d8,d9⟩,p⟩:=hd
  have t:X.A.in1.handled=none:=I.ok.hd Y
  obtain ⟨f1,P1,S1,D1,a1,a2,a3,a4⟩:=O.draw X F hw G i pins s σ H xs X.A.in1 I (f i1 (by simp)) L q1 t
  obtain ⟨f2,P2,S2,D2,b1,b2,b3,R⟩:=T.draw X F hw G i pins s σ H ys X.A.in1 I (f i2 (by simp)) J q2 t
  subst F hw G
  have D:Zp.Apart z TI TO i1 i2 f1 f2:=⟨Ne.symm d1,Ne.symm d2,Ne.symm W,Ne.symm V,d5,d6,d7,d8,d9,p,a4 z (f z (by simp)) W,R z (f z (by simp)) V,a4 TO (f TO (by simp)) d8,R TO (f TO (by simp)) d9,R i1 (f i1 (by simp)) p,a4 i2 (f i2 (by simp)) (Ne.symm p)⟩
  refine Zp.yY D D1 D2 s1 C M a1 b1 ac fun h' tk kp=>⟨rfl,?_⟩
  have g:∀ c o,c∉[z,TI,TO,i1,i2]->s.heap.get? c=some o->h'.get? c=some o:=fun c o d q=>by
   simp only[AS,BF,C0,not_or] at d
   exact kp c o d.1 d.2.2.1 d.2.2.2.1 d.2.2.2.2 q
  have B:∀ c l,H c=some l->c∉[z,TI,TO,i1,i2]:=fun c l q j=>by rw[(f c j).1] at q;cases q
  have ah:∀ c o,s.heap.get? c=some o->c∈[TI]->h'.get? c=some o:=fun c o e hm=>by
   have:c=TI:=by simpa using hm
   subst this
   exact kp c o (Ne.symm d1) d5 d6 d7 e
  refine I.step (g':=s.gens) (d':=s.drawn) (ch:=[z,TI,TO,i1,i2]) (fun c d=>?_) (fun c o _ _ d q _=>g c o d q) (fun c o _ _ d q _=>⟨o.slots,g c o d q⟩) (fun _ _ _ _ n=>n) (fun c o d q=>⟨o,g c o d q⟩) (fun _ _ q=>q) (fun _ _ _ q=>q) (fun _ _ q=>q) (fun m hm=>?_) (fun c l q=>?_) I.bare
  .obtain ⟨e0,e1,e2,e3,e4,e5⟩:=f c d
   exact ⟨e3,e1,e4,e5⟩
  .obtain ⟨o,Q,ep,ho,r⟩:=hm
   exact ⟨o,Q,ep,g _ o (fun j=>(f _ j).2.1 rfl) ho,r⟩
  .refine (I.hok c l q).stay (fun c' v' d q'=>g c' v' ?_ q') (fun _ q=>q) (fun _ _ q=>q) fun _ _ q=>q
   rcases d with j|j
   .rw[j];exact B c l q
   .exact B c' _ j
 self:=fun _ _ _ _ _ st h=>FV st.1 h
def pJ(K:Frag)(H:Hp)(x:V)(C:Col):Prop:=
 (∃ a xs,x=.ref a/\SqL K H a xs/\C=fun H xs=>SqL K H a xs)\/(∃ a xs,x=.ref a/\SqT K H a xs/\C=fun H xs=>SqT K H a xs)\/∃ z,x=.str z/\C=fun _ xs=>xs=sB z
def jC{X:Cx}{pins:List (Az×Obj)}{σ:St}{H:Hp}{s:S9}{x:V}{u:V9}{C:Col}(I:Inv X pins σ H s)(r:aY x u)(h:pJ X.K H x C) :
  ∃ (o:Obj) (tn:Az->Nat->Heap->Prop),(∀ h':Heap,(∀ b ob,s.heap.get? b=some ob->h'.get? b=some ob)->Zp.l7 u o h')/\o.isFreed=false/\(∀ it,ColOk X.prog X.w X.K C it (tn it))/\∀ it h',h'.get? it=some o->tn it 0 h':=by
 rcases h with ⟨a,xs,rfl,f,rfl⟩|⟨a,xs,rfl,f,rfl⟩|⟨z,rfl,rfl⟩
 .cases r
  obtain ⟨c,g,p,hz⟩:=I.list f
  refine ⟨{cls:=.type "list_iterator",data:=.fields #[.ref a,.int 0 0]},fun it i h=>h.IsListIter it a i,fun h' d prog w A E s' Q e q=>?_,rfl,fun it=>aHD a it,fun it h' e=>⟨_,e,rfl,rfl⟩⟩
  subst e
  refine FI (l:=a) (items:=c.toArray) ?_ q
  obtain ⟨o,e,r⟩:=p.isList
  exact ⟨o,d _ _ e,r⟩
 .cases r
  obtain ⟨c,g,p,hz⟩:=I.tuple f
  refine ⟨{cls:=.type "tuple_iterator",data:=.fields #[.ref a,.int 0 0]},fun it i h=>h.IsTupleIter it a i,fun h' d prog w A E s' Q e q=>?_,rfl,fun it=>aE5 a it,fun it h' e=>⟨_,e,rfl,rfl⟩⟩
  subst e
  refine wpAny_pyIter_tuple (t:=a) (items:=c.toArray) ?_ q
  obtain ⟨o,e,r⟩:=p
  exact ⟨o,d _ _ e,r⟩
 .obtain ⟨t,rfl⟩:=r
  refine ⟨{cls:=.type (strIterType z),data:=.fields #[.str z t,.int 0 0]},fun it i h=>h.IsStrIter it (strIterType z) z t i,fun h' d prog w A E s' Q e q=>?_,rfl,fun it=>aKP z t it,fun it h' e=>⟨_,e,rfl,rfl⟩⟩
  subst e
  exact wpAny_pyIter_strU q
def aCR(K:Frag)(ta:TA):TI:=fun σ H R=>ta σ H fun vs H1=>∃ x y C1 C2,vs=[x,y]/\pJ K H1 x C1/\pJ K H1 y C2/\R (Itz C1 C2) H1
def aNY{X:Cx}{es:List Expr}{k1}{d:Pos}{a b:Expr}{ta:TA}{p pos:Pos}(B:Gl X "zip")(r:X.mg "zip"=none)(L:PA X [a,b] ta)(o:starEach [a,b] X.env=[(false,eval a X.env),(false,eval b X.env)]:=by rfl)(hs2:starEach [b] X.env=[(false,eval b X.env)]:=by rfl) :
  PI X (.Tuple es k1 d) (.Call (.Name "zip" p) [a,b] [] pos) (aCR X.K ta):=by
 intro pins s σ H R I h
 refine Call_ (jQ I B r FZ (CJ (thn (L pos pins s σ H _ I h) fun us s1 ⟨vs,H1,f,r1,E⟩=>?_) (by rw[o,hs2]) (by rw[hs2];rfl)))
 obtain ⟨x,y,W,V,rfl,t,F,q⟩:=E
 cases r1 with
 | cons ru rr=>
  cases rr with
  | cons rv rr=>
   cases rr
   rename_i T _ P
   obtain ⟨S,Y,A,G,N,a4⟩:=jC f ru t
   obtain ⟨U,O,D,C,M,n⟩:=jC f rv F
   refine Zp.sA (A _ fun _ _ e=>e) (D _ fun _ _ e=>AE _ e) G C fun h' i l k m J Q v=>?_
   have w:Inv X pins σ H1 {s1 with heap:=h'}:=f.kept (t':=s1.toks) v
   refine FV i ?_
   refine ⟨s1.heap.objs.size+4,[s1.heap.objs.size+4,s1.heap.objs.size+2,s1.heap.objs.size+3,s1.heap.objs.size,s1.heap.objs.size+1],_,_,H1,rfl,w,aHE (N _) (M _) ?_,⟨i,l,⟨_,_,k⟩,a4 _ _ m,n _ _ J⟩,fun c j=>?_,q⟩
   .simp only[CF,AS,BF,C0,not_or,C7,HK,DA]
    refine ⟨⟨?_,?_,?_,?_⟩,⟨?_,?_,?_⟩,⟨?_,?_⟩,?_⟩<;>(intro z;have u:=DW (fun x:Nat=>x - s1.heap.objs.size) z;simp at u)
   .have g:s1.heap.objs.size<=c:=by
     simp only[AS,BF,C0] at j
     rcases j with rfl|rfl|rfl|rfl|rfl
     · exact BO _ _
     · exact BO _ _
     · exact BO _ _
     · exact AJ _
     · exact BO _ _
    exact f.fpOk g (f.hok.fresh g)
end L2
namespace Fl
open PySem L2 PyProof.Rows
def aCS(p:D9×D9):D9:=.tuple [p.1,p.2]
def jD(x y:D9):R (List D9):=(bA x).bind fun xs=>(bA y).bind fun ys=>.ok ((xs.zip ys).map aCS)
def jZ{d:D9}{xs:List D9}(h:bA d=.ok xs):xs.length<=16777216:=by
 unfold bA at h
 split at h
 .split at h
  · rename_i hz; cases h; exact hz
  · cases h
 .split at h
  · rename_i hz; cases h; exact hz
  · cases h
 .split at h
  · rename_i hz; cases h; rw [AC]; exact hz
  · cases h
 .cases h
def gE{d:D9}{e:Er}:bA d≠.ex e:=by
 intro h
 unfold bA at h
 split at h
 · split at h <;> cases h
 · split at h <;> cases h
 · split at h <;> cases h
 · cases h
theorem sC{K:Frag}{F:Hp}:∀ (cs:List Nat),DatVs K F (cs.map fun c=>V.str ⟨#[c]⟩) (cs.map fun c=>PyData.str ⟨#[c]⟩)
 | []=>.nil
 | c::t=>.cons (.str _) (sC t)
def nH{K:Frag}{F B:Hp}{v:V}{d:D9}{xs:List D9}(s:aH F B)(r:aU K F B v d)(h:bA d=.ok xs):∃ C vs,pJ K B v C/\(∀ H1,aH B H1->C H1 vs)/\DatVs K F vs xs:=by
 unfold bA at h
 split at h
 .split at h
  .cases h
   obtain ⟨p,vs,rfl,h1,h2⟩:=aU.lst_of s r
   exact ⟨_,vs,.inl ⟨p,vs,rfl,h1,rfl⟩,fun H1 q=>h1.same q,h2⟩
  .cases h
 .split at h
  .cases h
   obtain ⟨p,vs,rfl,h1,_,h2⟩:=aU.tup_of s r
   exact ⟨_,vs,.inr (.inl ⟨p,vs,rfl,h1.same s,rfl⟩),fun H1 q=>(h1.same s).same q,h2⟩
  .cases h
 .rename_i z
  split at h
  .cases h
   obtain rfl:=aU.str_of r
   exact ⟨_,sB z,.inr (.inr ⟨z,rfl,rfl⟩),fun _ _=>rfl,sC _⟩
  .cases h
 .cases h
def sD{K:Frag}{F B:Hp}{v:V}{d:D9}{xs:List D9}(s:aH F B)(r:DatV K F v d)(h:bA d=.ok xs):∃ C vs,pJ K B v C/\(∀ H1,aH F H1->C H1 vs)/\DatVs K F vs xs:=by
 unfold bA at h
 split at h
 .split at h
  .cases h
   obtain ⟨p,vs,rfl,h1,h2⟩:=DatV.lst_of r
   exact ⟨_,vs,.inl ⟨p,vs,rfl,h1.same s,rfl⟩,fun H1 q=>h1.same q,h2⟩
  .cases h
 .split at h
  .cases h
   obtain ⟨p,vs,rfl,h1,h2⟩:=DatV.tup_of r
   exact ⟨_,vs,.inr (.inl ⟨p,vs,rfl,h1.same s,rfl⟩),fun H1 q=>h1.same q,h2⟩
  .cases h
 .rename_i z
  split at h
  .cases h
   obtain rfl:=DatV.str_of r
   exact ⟨_,sB z,.inr (.inr ⟨z,rfl,rfl⟩),fun _ _=>rfl,sC _⟩
  .cases h
 .cases h
theorem aBB{α β:Type}:∀ {xs:List α} {ys:List β} {i:Nat} {x:α} {y:β},xs[i]? = some x->ys[i]? = some y->(xs.zip ys)[i]? = some (x,y)
 | [],_,_,_,_,h,_=>by simp at h
 | _::_,[],_,_,_,_,h=>by simp at h
 | x::xs,y::ys,0,_,_,h1,h2=>by simp at h1 h2;subst h1 h2;rfl
 | x::xs,y::ys,i+1,_,_,h1,h2=>by
  show (xs.zip ys)[i]? = _
  exact aBB (by simpa using h1) (by simpa using h2)
def aBC{K:Frag}{F B:Hp}{j g:Col}{us vs:List V}{xs ys:List D9}(hz:xs.length<=16777216)(h1:∀ H1,aH F H1->aH B H1->j H1 us)(h2:∀ H1,aH F H1->aH B H1->g H1 vs)(d1:DatVs K F us xs)(d2:DatVs K F vs ys) :
  Yld K (Itz j g) F B ((xs.zip ys).map aCS) where
 len:=by rw[cV,AC,DM];omega
 go:=fun i k H1 d c a hi=>by
  rw[AC,DM] at hi
  have b:aH F H1:=fun x o z=>c x o (d x o z)
  exact ⟨us,vs,h1 H1 b a,h2 H1 b a,by rw[d1.length];omega,by rw[d2.length];omega⟩
 yld:=fun i k H1 v H2 x d c a y e=>by
  obtain ⟨p,u,w,h,rfl,rfl,m,l⟩:=y
  have b:aH F H1:=fun x o z=>c x o (d x o z)
  obtain ⟨dx,e1,r1⟩:=d1.get (m us (h1 H1 b a))
  obtain ⟨n,e2,r2⟩:=d2.get (l vs (h2 H1 b a))
  rw[AN,aBB e1 e2] at e
  cases e
  have f:=aH.upd (o:=.tup [u,w]) (a9 c h)
  exact ⟨_,Ext.new c h,.tup (SqT.of aT) (.cons ((r1.same d).same f) (.cons ((r2.same d).same f) .nil))⟩
 stop:=fun k H1 d c a=>by
  have b:aH F H1:=fun x o z=>c x o (d x o z)
  refine ⟨us,vs,h1 H1 b a,h2 H1 b a,?_⟩
  rw[AC,DM,d1.length,d2.length]
  omega
section
variable{X:Cx}{c:Ct}{E:XK}{tg e:Expr}
def aKQ{f g:Sg->R D9}(p:X.K=c.K)(h:PI X tg e (aCR X.K (cT (tV (bW c) c E f) (cT (tV (bW c) c E g) fO)))):PI0 X c E tg e (fun ρ=>(f ρ).bind fun x=>(g ρ).bind fun y=>jD x y):=PI.imp h fun σ H Q a=>by
 obtain ⟨ρ,F,ab,k⟩:=a
 refine ⟨ρ,F,ab,(Rk.bind k).imp fun x _ q v u H1 s1 r1=>⟨ρ,u,ab.ext s1,((Rk.bind q).ext s1).imp fun y _ q w d H' s r=>?_⟩⟩
 unfold jD at q
 cases e1:bA x with
 | bad=>rw[e1] at q;exact q.elim
 | ex e=>exact absurd e1 gE
 | ok xs=>
  rw[e1] at q
  cases e2:bA y with
  | bad=>rw[R.bind_ok,e2] at q;exact q.elim
  | ex e=>exact absurd e2 gE
  | ok ys=>
   rw[R.bind_ok,e2] at q
   have b:DatV c.K d v x:=DatV.same s.ff r1
   obtain ⟨t,us,n,j,A⟩:=sD s.fh b e1
   obtain ⟨m,vs,l,i,o⟩:=sD s.fh r e2
   rw[p]
   exact ⟨v,w,t,m,rfl,n,l,Rk.ok q _ d H' (s1.trans s) (aBC (jZ e1) (fun H1 z _=>j H1 z) (fun H1 z _=>i H1 z) A o)⟩
def aKR{f g:Sg->R D9}(p:X.K=c.K)(h:PI X tg e (aCR X.K (cT (tV (aZ c) c E f) (cT (tV (aZ c) c E g) fO)))):PIf X c E tg e (fun ρ=>(f ρ).bind fun x=>(g ρ).bind fun y=>jD x y):=PI.imp h fun σ H Q a=>by
 obtain ⟨ρ,F,ab,k⟩:=a
 refine ⟨ρ,F,ab,(Rk.bind k).imp fun x _ q v u H1 s1 r1=>⟨ρ,u,ab.ext s1,((Rk.bind q).ext s1).imp fun y _ q w d H' s r=>?_⟩⟩
 unfold jD at q
 cases e1:bA x with
 | bad=>rw[e1] at q;exact q.elim
 | ex e=>exact absurd e1 gE
 | ok xs=>
  rw[e1] at q
  cases e2:bA y with
  | bad=>rw[R.bind_ok,e2] at q;exact q.elim
  | ex e=>exact absurd e2 gE
  | ok ys=>
   rw[R.bind_ok,e2] at q
   have b:aU c.K d H' v x:=aU.ext s r1
   obtain ⟨t,us,n,j,A⟩:=nH s.fh b e1
   obtain ⟨m,vs,l,i,o⟩:=nH s.fh r e2
   rw[p]
   exact ⟨v,w,t,m,rfl,n,l,Rk.ok q _ H' d H' (s1.trans s) (bK _) (aBC (jZ e1) (fun H1 _ z=>j H1 z) (fun H1 _ z=>i H1 z) A o)⟩
end
end Fl
namespace L2
open PySem PySem.Spec PyProof.Rows
section
variable{K:Type}[DecidableEq K]{prog:Program}{w:World}{knd:KeyKind prog w K}{A:Around}{E:V9->S9->Prop}{s:S9}
def nI{a:List (K×V9)}{k:K}(h:valueAt a k=none):k∉a.map (·.1):=fun q=>by
 obtain ⟨kv,b,e⟩:=A3.mp q
 unfold valueAt at h
 have h:=Option.map_eq_none_iff.mp h
 rw[EJ] at h
 exact h kv b (AV e)
def aHF{d:Az}{f:List (K×V9)}{k:K}{key y:V9}{Q:V9->S9->Prop}(c:knd.is k key=true)(p:s.heap.DictOf knd d f)
  (h1:∀ v,valueAt f k=some v->Q v {s with toks:=s.toks+1})
  (h2:valueAt f k=none->∀ h',h'.DictOf knd d (f++[(k,y)])->Heap.SameBut d s.heap h'->Q y {s with heap:=h',toks:=s.toks+1})
  (hsz:f.length<=sizeLine):wpAny (model prog w) A (dictSetDefault d key y) Q E s:=by
 have hz:s.heap.DictLe d sizeLine:=fun o es ep h g=>by
  obtain ⟨o',F,D,a,_,b,_,m,_⟩:=p
  rw[h] at a;cases a
  rw[g] at b;cases b
  have e1:=m.length
  have e2:es.toList.length=es.size:=by simp
  omega
 cases e:valueAt f k with
 | some v=>exact wpAny_dictSetDefault_of (hz:=hz) c p.mapOf (fun G C=>h1 G C) fun j=>by rw[e] at j;cases j
 | none=>
  have i:=nI e
  obtain ⟨o,es,ep,h,u,g,t,m,j⟩:=p
  have hi:(es.findIdx? fun e=>knd.is k e.key)=none:=by
   have q:(es.findIdx? fun e=>knd.is k e.key)=f.findIdx? fun kv=>decide (kv.1=k):=by rw[<-m.findIdx k];obtain ⟨l⟩:=es;simp
   rw[q,List.findIdx?_eq_none_iff]
   intro kv n
   exact AZ fun z=>i (A3.mpr ⟨kv,n,z⟩)
  unfold dictSetDefault
  try with_reducible refine B0 ?_
  refine AB (knd.pyHash c (AB (wpAny_dictFind_of (s:={s with toks:=s.toks+1}) c h g t ?_)))
  rw[hi]
  have B:=hz _ _ _ h g
  refine AB (EX (AB (wpAny_updateDictKeys (hz:=B) (s:={s with toks:=s.toks+1}) h g (AD (h2 e _ ⟨_,_,ep+1,BN _ h (Obj.isFreed_of_dict (EY g _)),u.mapDictKeys _,EY g _,t.push c _,?_,?_⟩ (B6 ..))))))
  .have q:=m.append c (knd.hash k) y
   obtain ⟨l⟩:=es
   simpa using q
  .rw[A8,D0]
   refine ⟨j,by simp,fun x hx z r=>?_⟩
   rw[show z=k by simpa using r]
   exact fun q=>i (q▸hx)
end
section
variable{K:Type}[DecidableEq K]{prog:Program}{w:World}{knd:HeapKind prog w K}{A:Around}{E:V9->S9->Prop}{s:S9}
def aKS{d a:Az}{xs:List (K×Az×V9)}{k:K}{y:V9}{Q:V9->S9->Prop}(u:knd.room A)(b:knd.is s.heap k a)(C:s.heap.DictOfH knd d xs)
  (h1:∀ p,atKey xs k=some p->Q p.2 {s with toks:=s.toks+knd.draws k})
  (h2:atKey xs k=none->∀ h',h'.DictOfH knd d (storedH xs k a y)->Heap.SameBut d s.heap h'->Q y {s with heap:=h',toks:=s.toks+knd.draws k})
  (hsz:xs.length<=sizeLine):wpAny (model prog w) A (dictSetDefault d (.ref a) y) Q E s:=by
 obtain ⟨o,es,ep,f,B,c,m,i,r⟩:=C
 unfold dictSetDefault
 try with_reducible refine B0 ?_
 refine AB (knd.pyHash u b (AB (wpAny_dictFind_heap (s:={s with toks:=s.toks+knd.draws k}) u b f c m i r (fun l=>?_) (fun j p v=>?_))))
 .have g:k∉xs.map (·.1):=not_mem_keys_of_get l
  have h:=atKey_none_of_get l
  have h2:=h2 h
  rw[storedH_new h] at h2
  have t:es.size<=sizeLine:=by have e:=size_of_entries m;omega
  refine AB (EX (AB (wpAny_updateDictKeys (hz:=t) (s:={s with toks:=s.toks+knd.draws k}) f c (AD (h2 _ ⟨_,_,ep+1,BN _ f (Obj.isFreed_of_dict (EY c _)),B.mapDictKeys _,EY c _,by simp[m,entryOfKey],fun x hx=>?_,?_⟩ (B6 ..))))))
  .rcases A4.mp hx with hx|hx
   · exact knd.keeps (i x hx) f c (B6 ..)
   · rw [AL.mp hx]; exact knd.keeps b f c (B6 ..)
  .rw[A8,D0]
   refine ⟨r,by simp,fun x hx z n=>?_⟩
   rw[show z=k by simpa using n]
   exact fun q=>g (q▸hx)
 .refine AB (FJ (s:={s with toks:=s.toks+knd.draws k}) f c ?_)
  rw[entry_at m j,v]
  exact AB (EX (AD (h1 p (atKey_of_get r v))))
end
def yZ{prog:Program}{w:World}{d:Az}{key y:V9}(c:(d == sysModules)=false) :
  MeetsIn prog w (Builtin.«dict.setdefault» ⟨[.ref d,key,y],[]⟩) (fun A R s=>s.TypeIs (.ref d) "dict"/\wpAny (model prog w) A.in1 (dictSetDefault d key y) (fun v s'=>R (.ok (.ret v)) s') (fun e s'=>R (.error e) s') s):=
 .of_wp fun A R s a=>by
  obtain ⟨b,h⟩:=a
  unfold Builtin.«dict.setdefault»
  refine AB ?_
  unfold Builtin.Dict.keyAndDefault
  refine AB (F7 b ?_)
  show wpAny _ _ (pure (d,key,some y)) _ _ s
  refine AD ?_
  show wpAny _ _ (if (d == sysModules)=true then _ else (dictSetDefault d key y >>= _)) _ _ s
  rw[if_neg (by rw[c];exact A0)]
  exact AB (BX h (fun v s' q=>AD ⟨v,rfl,q⟩) fun _ _ q=>q)
end L2
namespace Fl
open PySem L2 PyProof.Rows
def aNZ(X:Cx):V->List V->Hp->VK->Prop:=fun x xs H Q=>∃ p es k kv y,x=.ref p/\xs=[kv,y]/\DicAt X H p es k kv/\es.length<=sizeLine/\(∀ v,atE es k=some v->Q v H)/\(atE es k=none->∀ ep,Q y (upd H p (bZ X.w p (jU es k kv y) ep)))
section
variable{X:Cx}{c:Ct}{E:XK}{e a b:Expr}{st:Stmt}{pos:Pos}
def aN0(O:X.A.units+64 < cLine):MtR X "dict.setdefault" (aNZ X):=by
 intro pins s σ H x xs v us Q I M N h
 obtain ⟨p,es,k,kv,y,rfl,rfl,D,hz,J,K⟩:=h
 cases (show v=Value.ref p from M)
 cases N with
 | @cons _ ku _ us r1 t=>
  cases t with
  | @cons _ yu _ us r2 t=>
   cases t
   have c:s.TypeIs (.ref p) "dict":=by
    obtain ⟨ep,g⟩:=D.o
    obtain ⟨⟨_,o,ar,h1,h2,_⟩,_,_⟩:=(show b8 X.prog X.w H s.heap p (bZ X.w p es ep) from I.hok p _ g)
    exact ⟨o,h1,h2.1⟩
   obtain ⟨m,⟨b,xs,rfl,rfl,hx,q,dd⟩|⟨f,xs,rfl,rfl,hx,q,dd⟩⟩:=D.cases I r1
   .have B:xs.length<=sizeLine:=by rw[<-Paired.length hx];exact hz
    have a:=nB (k:=k) hx
    refine call_meetsIn ES c GK (GD _ _ _) (yZ m) ⟨c,aKS (kO O) q dd (fun P F=>?_) (fun F h' d r=>?_) B⟩
    .rw[F] at a
     cases e:atE es k with
     | none=>rw[e] at a;cases a
     | some z=>
      rw[e] at a
      exact ⟨_,H,I.tok _,a,J z e⟩
    .rw[F] at a
     have e:atE es k=none:=by
      cases e:atE es k with
      | none=>rfl
      | some z=>rw[e] at a;cases a
     obtain ⟨i,ar,ep,j,h2,G,n,_,L⟩:=d
     obtain ⟨u,g⟩:=D.o
     refine ⟨y,_,jI I (by rw[g];exact True.intro) r ⟨i,j⟩ (f9 (ep:=ep) m ⟨i,ar,j,h2,G,?_⟩),r2,K e ep⟩
     rw[n]
     exact lT (w5 r2 hx)
   .have B:xs.length<=sizeLine:=by rw[<-Paired.length hx];exact hz
    have a:=nC (k:=f) hx
    refine call_meetsIn ES c GK (GD _ _ _) (yZ m) ⟨c,aHF q dd (fun v l=>?_) (fun l h' d r=>?_) B⟩
    .rw[l] at a
     cases e:atE es (iB f) with
     | none=>rw[e] at a;cases a
     | some z=>
      rw[e] at a
      exact ⟨_,H,I.tok _,a,J z e⟩
    .rw[l] at a
     have e:atE es (iB f)=none:=by
      cases e:atE es (iB f) with
      | none=>rfl
      | some z=>rw[e] at a;cases a
     have pv:=w6 (k:=f) r2 hx
     have C:stored xs f yu=xs++[(f,yu)]:=by
      unfold stored
      rw[if_neg]
      intro z
      obtain ⟨kv,h1,h2⟩:=HL.mp z
      exact nI l (A3.mpr ⟨kv,h1,BA h2⟩)
     rw[C] at pv
     obtain ⟨i,ar,ep,j,h2,G,n,L,_⟩:=d
     obtain ⟨u,g⟩:=D.o
     refine ⟨y,_,jI I (by rw[g];exact True.intro) r ⟨i,j⟩ (f9 (ep:=ep) m ⟨i,ar,j,h2,G,?_⟩),r2,K e ep⟩
     exact lU pv L fun en E=>n en (by simpa using E)
def xB(i:Nat)(f g:Sg->R D9):Sg->R Fw:=fun ρ=>match ρ[i]? with
 | some (some (.m kvs))=>(f ρ).bind fun k=>(g ρ).bind fun y=>if bJ k (kvs.map (·.1))=true/\kvs.length<=16777216 then .ok (.nx (if bP kvs k=true then ρ else ρ.set i (some (.m (putM kvs k y))))) else .bad
 | _=>.bad
def aKT{i:Nat}{f g:Sg->R D9}(N:X.K=c.K)(hW:X.w=c.w)(h:PS X st (sO (aNL X "dict" (aNZ X) (fN i) (cT (tV (bW c) c E f) (cT (tV (bW c) c E g) fO))))):PSf X c E st (xB i f g):=PS.imp h fun D σ H ⟨ρ,F,ab,k⟩=>by
 unfold xB at k
 split at k
 .rename_i b hi
  obtain ⟨_,B,p,es,rfl,⟨ep,G⟩,_⟩:=ab.slot i _ hi
  refine ⟨_,B,fun pins s v I r=>?_,ρ,F,ab,(Rk.bind k).imp fun d _ q v P H1 s1 r1=>?_⟩
  .cases (show v=Value.ref p from r)
   rw[<-hW] at G
   obtain ⟨⟨_,o,ar,h1,h2,_⟩,_,_⟩:=(show b8 X.prog X.w H s.heap p (bZ X.w p es ep) from I.hok p _ G)
   exact ⟨⟨o,h1,h2.1⟩,fun a z=>by cases z;exact ⟨o,h1,h2.2.1⟩⟩
  .refine ⟨ρ,P,ab.ext s1,((Rk.bind q).ext s1).imp fun y _ q u M H2 A r2=>?_⟩
   split at q
   .rename_i J
    have j:=s1.trans A
    have e:=ab.ext j
    obtain ⟨Q,l,n,O,m⟩:=w9 N hW e hi (DatV.same A.ff r1) J.1
    rw[B] at n
    cases n
    have L:=uT (k:=d) m.k1 m.vs
    refine ⟨p,l,d,v,u,rfl,rfl,O,?_,fun z hz=>?_,fun hz=>?_⟩
    .have:l.length=b.length:=by have:=DW List.length m.k1;simpa using this
     rw[this,cV];exact J.2
    .have t:bP b d=true:=by
      rcases L with ⟨C,_⟩|⟨_,_,_,x,_⟩
      · rw [C] at hz; cases hz
      · unfold bP; rw [x]; rfl
     rw[if_pos t] at q
     exact Rk.ok q σ M _ j.ff e
    .have t:¬ bP b d=true:=by
      rcases L with ⟨_,x⟩|⟨_,_,C,_,_⟩
      · unfold bP; rw [x]; intro z; cases z
      · rw [C] at hz; cases hz
     rw[if_neg t] at q
     intro ep
     rw[hW]
     exact Rk.ok q σ M _ j.ff (e.putM hi B (m.put (DatV.same A.ff r1) r2))
   .exact q.elim
 .exact k.elim
end
def aCT(i:Nat):Sg->R Fw:=fun ρ=>match ρ[i]? with
 | some (some (.l xs))=>.ok (.nx (ρ.set i (some (.l xs.reverse))))
 | _=>.bad
theorem wO{K:Frag}{F:Hp}:∀ {vs:List V} {xs:List D9},DatVs K F vs xs->DatVs K F vs.reverse xs.reverse
 | _,_,.nil=>.nil
 | _,_,.cons h t=>by
  rw[DZ,DZ]
  exact (wO t).append (.cons h .nil)
section
variable{X:Cx}{c:Ct}{E:XK}{st:Stmt}
def aN1{i:Nat}(h:PS X st (sO (aMV X.K "list" xN (fN i)))):PSf X c E st (aCT i):=PS.imp h fun D σ H ⟨ρ,F,ab,k⟩=>by
 unfold aCT at k
 split at k
 .rename_i xs hi
  obtain ⟨v,a,p,vs,rfl,h2,e,d,b⟩:=ab.slot i _ hi
  refine ⟨_,a,.inl ⟨rfl,vs,SqL.of h2⟩,p,vs,rfl,rfl,h2,?_⟩
  exact Rk.ok k σ F _ (bK F) (ab.putL hi a (wO b))
 .exact k.elim
end
end Fl
namespace Zp
open PySem
def aE6(v:V9)(o:Obj) :
  Meets (Builtin.«enumerate.__new__» ⟨[.type "enumerate",v],[]⟩) (fun _ R s=>l7 v o s.heap /\
   R (.ok (.ret (.ref (s.heap.push o).objs.size))) {s with heap:=(s.heap.push o).push {cls:=.type "enumerate",data:=.fields #[.none,.bool false,.ref s.heap.objs.size,rawInt 0,.none,.none]}}):=
 .of_wp fun prog w A R s h=>by
  obtain ⟨a,g,d,tk,os⟩:=s;obtain ⟨f,h⟩:=h
  have e:=sub_enumerate
  have b:∀ {A:Around} {E:V9->S9->Prop} {Q:V9->S9->Prop},Q (.ref a.objs.size) ⟨a.push o,g,d,tk,os⟩->wpAny (model prog w) A (pyIter v) Q E ⟨a,g,d,tk,os⟩:=fun i=>f prog w _ _ ⟨a,g,d,tk,os⟩ _ rfl i
  wp_walk
  refine wpAny_stack_any fun st=>AD ?_
  split
  .rename_i c _ _ _ _ _
   cases (c == Value.type "enumerate")<;>(wp_walk using b;exact ⟨_,rfl,h⟩)
  .wp_walk using b
   exact ⟨_,rfl,h⟩
def aHG{prog:Program}{w:World}{A:Around}{E:V9->S9->Prop}{s:S9}{v:V9}{o:Obj}{Q:V9->S9->Prop}(h1:l7 v o s.heap)(f1:o.isFreed=false)
  (h:∀ h',IsEnum h' (s.heap.objs.size+1) s.heap.objs.size 0 .none->h'.get? s.heap.objs.size=some o->h'.objs.size=s.heap.objs.size+2->(∀ b o,s.heap.get? b=some o->h'.get? b=some o)->Q (.ref (s.heap.objs.size+1)) {s with heap:=h'}) :
  wpAny (model prog w) A (call (.type "enumerate") [v]) Q E s:=by
 refine callType_new F.called_enumerate (by decide) (F.typeCall_enumerate_1 _) (F.newCall_enumerate_1 _) (fun obj=>F.args_object_init_2 obj _) F.entry_enumerate_new (aE6 v o) ⟨h1,?_⟩
 have hz:(s.heap.push o).objs.size=s.heap.objs.size+1:=BY ..
 show _/\_
 rw[hz]
 have a:IsEnum ((s.heap.push o).push {cls:=.type "enumerate",data:=.fields #[.none,.bool false,.ref s.heap.objs.size,rawInt 0,.none,.none]}) (s.heap.objs.size+1) s.heap.objs.size 0 .none:=by
  have q:=AT (s.heap.push o) (o:={cls:=.type "enumerate",data:=.fields #[.none,.bool false,.ref s.heap.objs.size,rawInt 0,.none,.none]}) rfl
  rw[hz] at q;exact q
 exact ⟨⟨_,a,rfl⟩,h _ a (AE _ (AT _ f1)) (by rw[BY,hz]) fun b o y=>AE _ (AE _ y)⟩
end Zp
namespace L2
open PySem PySem.Spec PyProof.Rows
def Itn(C:Col):It:=
 ⟨fun i H=>∃ xs,C H xs/\i < xs.length,fun i H x H'=>∃ p v,H p=none/\x=.ref p/\H'=upd H p (.tup [.int i,v])/\∀ xs,C H xs->xs[i]? = some v,fun i H=>∃ xs,C H xs/\i=xs.length⟩
def aE7{P:Program}{w:World}{K:Frag}{es:List Expr}{k1}{L:Pos}{C:Col}{e it:Az}{tn:Nat->Heap->Prop}(c:ColOk P w K C it tn)(B:e≠it) :
  Turn P w K (.Tuple es k1 L) (Itn C) [e,it] e (fun i h=>(∃ old,IsEnum h e it i old)/\tn i h) where
 mem:=by simp
 obj:=fun i h st b d=>by
  obtain ⟨⟨old,s1⟩,t⟩:=st
  rcases AS.mp d with z|z
  .subst z
   exact ⟨_,s1,fun v z=>by have z':Data.fields _=Data.cell v:=z;cases z'⟩
  .obtain rfl:b=it:=by simpa using z
   exact c.obj i h t
 keep:=fun i h h' st k=>by
  obtain ⟨⟨old,s1⟩,t⟩:=st
  exact ⟨⟨old,k e (by simp) _ s1⟩,c.keep i h h' t fun o q=>k it (by simp) o q⟩
 item:=by
  intro X G hw J hc i pins s σ H E I j st Y
  obtain ⟨⟨old,s1⟩,t⟩:=st
  obtain ⟨xs,hx,l⟩:=Y
  have F:X.A.in1.handled=none:=I.ok.hd hc
  obtain ⟨fp,Pv,S,D,U,a2,a3,a4⟩:=c.draw X G hw J i pins s σ H xs X.A.in1 I (j it (by simp)) t hx F
  have one:=fun zs (h:C H zs)=>c.one X G hw J pins s σ H zs xs I h hx
  subst G hw J
  obtain ⟨o2,aa,_⟩:=c.obj _ _ t
  refine wpAny_pyNext_enum_itemD D s1 U l B (a4 e (j e (by simp)) B) fun u h' tk pu so si st ac kp=>?_
  obtain ⟨x,T,ru⟩:=a3 i u pu
  refine ⟨_,rfl,wpAny_letOwnedTupleGo_enum so fun h2 se Q=>?_⟩
  have R:s.heap.objs.size≠e:=C3 (AK s1)
  have W:h2.get? s.heap.objs.size=some {cls:=.type "tuple",data:=.seq #[.int i tk,u]}:=(Q.2 _ R).trans st
  have fT:H s.heap.objs.size=none:=I.hok.fresh (AJ _)
  have f:∀ b o,b∉[e,it]->s.heap.get? b=some o->h2.get? b=some o:=fun b o d q=>by
   simp only[AS,BF,C0,not_or] at d
   exact (Q.2 b d.1).trans (kp b o d.1 d.2 q)
  have N:∀ b p,H b=some p->b∉[e,it]:=fun b p q g=>by rw[(j b g).1] at q;cases q
  have M:HOk X.prog X.w H h2:=fun b p q=>by
   refine (I.hok b p q).stay (fun c' v' a q'=>f c' v' ?_ q') (fun _ q=>q) (fun _ _ q=>q) fun _ _ q=>q
   rcases a with g|g
   .rw[g];exact N b p q
   .exact N c' _ g
  have O:HOk X.prog X.w (upd H s.heap.objs.size (.tup [.int i,x])) h2:=HOk.track M fT ⟨by show 2<=sizeLine;decide,[.int i tk,u],.cons ⟨_,rfl⟩ (.cons ru .nil),⟨_,W,rfl,_,rfl⟩⟩
  have y:∀ b p,H b=some p->b≠s.heap.objs.size:=fun b p q=>bC q fT
  have I2:Inv X pins σ (upd H s.heap.objs.size (.tup [.int i,x])) {s with heap:=h2,gens:=s.gens,drawn:=s.drawn,toks:=tk+1}:=by
   refine I.step (ch:=[e,it]) (fun b d=>?_) (fun b o _ _ a q _=>f b o a q) (fun b o _ _ a q _=>⟨o.slots,f b o a q⟩)
    (fun b o _ q n=>by rw[aG (A2 (AK q))];exact n) (fun b o a q=>⟨o,f b o a q⟩) (fun b ys q=>by rw[aG (y b _ q)];exact q) (fun b o p q=>by rw[aG (y b _ q)];exact q)
    (fun b ps q=>by rw[aG (y b _ q)];exact q) (fun m hm=>?_) O I.bare
   .obtain ⟨e0,e1,e2,e3,e4,e5⟩:=j b d
    exact ⟨e3,e1,e4,e5⟩
   .obtain ⟨o,Z,ep,ho,r⟩:=hm
    exact ⟨o,Z,ep,f _ o (fun g=>(j _ g).2.1 rfl) ho,r⟩
  refine ⟨.ref s.heap.objs.size,_,I2,rfl,⟨_,x,fT,rfl,rfl,fun zs V=>by rw[one zs V];exact T⟩,⟨⟨_,by simpa using se⟩,c.keep _ _ _ (a2 _ _ si) fun o q=>(Q.2 it B.symm).trans q⟩,fun b d=>?_⟩
  rw[aG]
  .exact (j b d).1
  .intro g
   have l:b < s.heap.objs.size:=by
    simp only[AS,BF,C0] at d
    rcases d with rfl|rfl
    · exact AK s1
    · exact AK aa
   rw[g] at l
   exact absurd l (BG _)
 done:=by
  intro X G hw J hc i pins s σ H E I j st Y
  obtain ⟨⟨old,s1⟩,t⟩:=st
  obtain ⟨xs,hx,rfl⟩:=Y
  have F:X.A.in1.handled=none:=I.ok.hd hc
  obtain ⟨fp,Pv,S,D,U,a2,a3,a4⟩:=c.draw X G hw J _ pins s σ H xs X.A.in1 I (j it (by simp)) t hx F
  subst G hw J
  obtain ⟨g0,g1,g2,g3,g4,g5⟩:=j it (by simp)
  exact wpAny_pyNext_enum_endD D s1 U fun h' eb=>⟨rfl,I.turned (t':=s.toks) (fun b o d q=>eb b o d q) g0 g1 g3 g4 g5⟩
 self:=fun _ _ _ _ _ st h=>wpAny_pyIter_enum st.1.choose_spec h
def aCU(K:Frag)(ta:TA):TI:=fun σ H R=>ta σ H fun vs H1=>∃ x C,vs=[x]/\pJ K H1 x C/\R (Itn C) H1
def u4{X:Cx}{es:List Expr}{k1}{d:Pos}{a:Expr}{ta:TA}{p pos:Pos}(v:Gl X "enumerate")(k:X.mg "enumerate"=none)(B:PA X [a] ta)(j:starEach [a] X.env=[(false,eval a X.env)]:=by rfl) :
  PI X (.Tuple es k1 d) (.Call (.Name "enumerate" p) [a] [] pos) (aCU X.K ta):=by
 intro pins s σ H R I h
 refine Call_ (jQ I v k PyProof.Rows.boot_enumerate (CJ (thn (B pos pins s σ H _ I h) fun us s1 f=>?_) j rfl))
 obtain ⟨vs,H1,c,r1,w⟩:=f
 obtain ⟨x,C,rfl,l,q⟩:=w
 obtain ⟨u,rfl,i⟩:=nV r1
 obtain ⟨E,F,t,A,D,a4⟩:=jC c i l
 refine Zp.aHG (t _ fun _ _ e=>e) A fun h' g r y m=>?_
 have o:Inv X pins σ H1 {s1 with heap:=h'}:=c.kept (t':=s1.toks) m
 refine wpAny_pyIter_enum g ?_
 refine ⟨s1.heap.objs.size+1,[s1.heap.objs.size+1,s1.heap.objs.size],_,_,H1,rfl,o,aE7 (D _) (C3 (FT _)),⟨⟨_,g⟩,a4 _ _ r⟩,fun b n=>?_,q⟩
 rcases AS.mp n with z|z
 .subst z
  exact c.fpOk (Nat.le_succ _) (c.hok.fresh (Nat.le_succ _))
 .obtain rfl:b=s1.heap.objs.size:=by simpa using z
  exact c.fpOk (AJ _) (c.hok.fresh (AJ _))
end L2
namespace Fl
open PySem L2 PyProof.Rows
def y0(p:D9×Nat):D9:=.tuple [.int (p.2:Int),p.1]
def j3(x:D9):R (List D9):=(bA x).bind fun xs=>.ok (xs.zipIdx.map y0)
def aBD{K:Frag}{F B:Hp}{C:Col}{us:List V}{xs:List D9}(hz:xs.length<=16777216)(h1:∀ H1,aH F H1->aH B H1->C H1 us)(d1:DatVs K F us xs):Yld K (Itn C) F B (xs.zipIdx.map y0) where
 len:=by rw[cV,AC,CO];exact hz
 go:=fun i g H1 b a d hi=>by
  rw[AC,CO] at hi
  have c:aH F H1:=fun x o z=>a x o (b x o z)
  exact ⟨us,h1 H1 c d,by rw[d1.length];exact hi⟩
 yld:=fun i g H1 v H2 x b a d y e=>by
  obtain ⟨p,u,f,rfl,rfl,h⟩:=y
  have c:aH F H1:=fun x o z=>a x o (b x o z)
  obtain ⟨dx,e1,r1⟩:=d1.get (h us (h1 H1 c d))
  rw[AN,C8,e1] at e
  simp only[E9,HM] at e
  cases e
  have j:=aH.upd (o:=.tup [.int i,u]) (a9 a f)
  exact ⟨_,Ext.new a f,.tup (SqT.of aT) (.cons (.int _) (.cons ((r1.same b).same j) .nil))⟩
 stop:=fun g H1 b a d=>by
  have c:aH F H1:=fun x o z=>a x o (b x o z)
  refine ⟨us,h1 H1 c d,?_⟩
  rw[AC,CO,d1.length]
section
variable{X:Cx}{c:Ct}{E:XK}{tg e:Expr}
def aBE{f:Sg->R D9}(i:X.K=c.K)(h:PI X tg e (aCU X.K (cT (tV (bW c) c E f) fO))):PI0 X c E tg e (e1 j3 f):=PI.imp h fun σ H Q a=>by
 obtain ⟨ρ,F,ab,k⟩:=a
 refine ⟨ρ,F,ab,(Rk.bind k).imp fun x _ q v d H' s r=>?_⟩
 unfold j3 at q
 cases e1:bA x with
 | bad=>rw[e1] at q;exact q.elim
 | ex e=>exact absurd e1 gE
 | ok xs=>
  rw[e1] at q
  obtain ⟨j,us,g,b,l⟩:=sD s.fh r e1
  rw[i]
  exact ⟨v,j,rfl,g,Rk.ok q _ d H' s (aBD (jZ e1) (fun H1 z _=>b H1 z) l)⟩
def aKU{f:Sg->R D9}(i:X.K=c.K)(h:PI X tg e (aCU X.K (cT (tV (aZ c) c E f) fO))):PIf X c E tg e (e1 j3 f):=PI.imp h fun σ H Q a=>by
 obtain ⟨ρ,F,ab,k⟩:=a
 refine ⟨ρ,F,ab,(Rk.bind k).imp fun x _ q v d H' s r=>?_⟩
 unfold j3 at q
 cases e1:bA x with
 | bad=>rw[e1] at q;exact q.elim
 | ex e=>exact absurd e1 gE
 | ok xs=>
  rw[e1] at q
  obtain ⟨j,us,g,b,l⟩:=nH s.fh r e1
  rw[i]
  exact ⟨v,j,rfl,g,Rk.ok q _ H' d H' s (bK _) (aBD (jZ e1) (fun H1 _ z=>b H1 z) l)⟩
end
def fzM(i:Nat)(ρ:Sg):Sg:=match ρ[i]? with
 | some (some (.m kvs))=>ρ.set i (some (.f kvs))
 | _=>ρ
def sE(i:Nat)(f:Sg->R Fw):Sg->R Fw:=fun ρ=>f (fzM i ρ)
def Ab.frzM{c:Ct}{ρ:Sg}{σ:L2.St}{F H:Hp}(hw:c.w=c.g.w)(b:Ab c ρ σ F H)(i:Nat):∃ F',aH F F'/\Ab c (fzM i ρ) σ F' H:=by
 unfold fzM
 split
 .rename_i xs hi
  obtain ⟨v,e,p,es,rfl,⟨ep,h2⟩,a,h,d⟩:=b.slot i _ hi
  exact ⟨_,aH.upd a,b.publ hi e rfl h2 a h rfl (show AF c.g c.K c.mg _ (.f xs) _ from ⟨p,es,rfl,⟨ep,by rw[aT,hw]⟩,d.same (aH.upd a)⟩)⟩
 .exact ⟨F,bK F,b⟩
def aQ3(neg:Bool)(i:Nat)(f:Sg->R D9):Sg->R D9:=fun ρ=>(f ρ).bind fun k=>match ρ[i]? with
 | some (some (.f kvs))=>if bJ k (kvs.map (·.1))=true then .ok (.bool (if neg=true then !bP kvs k else bP kvs k)) else .bad
 | _=>.bad
def aPU(i:Nat)(f:Sg->R D9):Sg->R D9:=fun ρ=>match ρ[i]? with
 | some (some (.f kvs))=>(f ρ).bind fun k=>if bJ k (kvs.map (·.1))=true then (match cK kvs k with
  | some v=>.ok v
  | none=>.bad) else .bad
 | _=>.bad
section
variable{X:Cx}{c:Ct}{E:XK}{e:Expr}{st:Stmt}
def aE8(hw:c.w=c.g.w)(i:Nat){f:Sg->R Fw}(h:PSf X c E st f):PSf X c E st (sE i f):=PS.imp h fun D σ H d=>by
 obtain ⟨ρ,F,ab,k⟩:=d
 obtain ⟨j,s,b⟩:=ab.frzM hw i
 refine ⟨fzM i ρ,j,b,?_⟩
 have a:Rk c E F H (f (fzM i ρ)) (g9 c F D):=k
 cases q:f (fzM i ρ) with
 | bad=>rw[q] at a;exact a
 | ok w=>rw[q] at a;exact g9.same s a
 | ex e=>rw[q] at a;exact a
end
end Fl
namespace Zp
open PySem
def Raw(h:Heap)(d:Az)(ar:Array DictEntry)(ep:Nat):Prop:=∃ o,h.get? d=some o/\o.ExactDict/\o.data=.dict ar ep
section
variable{prog:Program}{w:World}{A:Around}{E:V9->S9->Prop}{s:S9}{d it:Az}{ar:Array DictEntry}{ep i:Nat}
def aHH{Q:V9->S9->Prop}(e:(d == sysModules)=false)(f:Raw s.heap d ar ep)(q:Q (.ref s.heap.objs.size) {s with heap:=s.heap.push {cls:=.type "dict_keyiterator",data:=.fields #[.ref d,.int 0 0,.int ar.size 0,.int ep 0]}}) :
  wpAny (model prog w) A (pyIter (.ref d)) Q E s:=by
 obtain ⟨o,c,g,a⟩:=f
 have b:s.TypeIs (.ref d) "dict":=⟨o,c,g.1⟩
 refine wpAny_pyIter_slot b F.slot_dict_iter (B7 F.slot_dict_iter b F.entry_dict_iter ?_ (F.args_dict_iter_1 _))
 unfold Builtin.«dict.__iter__»
 refine AB ?_
 unfold Builtin.Dict.dictSlotNone
 refine AB (F7 b (AD ?_))
 show wpAny _ _ (Builtin.Dict.showsAll d >>= _) _ _ s
 unfold Builtin.Dict.showsAll
 rw[if_neg (by rw[e];exact A0)]
 refine AB (AD (AB (FJ c a (AB (HS c a ?_)))))
 refine AB (CK (AD ⟨_,rfl,"dict_keyiterator",_,⟨_,AT _ rfl,rfl⟩,C9.lookup,?_⟩))
 simpa[rawInt] using q
def aHI{Q:Option V9->S9->Prop}{en:DictEntry}(a:s.heap.IsKeyIter it d i ar.size ep)(h:Raw s.heap d ar ep)(hx:ar[i]? = some en)
  (q:∀ h',h'.IsKeyIter it d (i+1) ar.size ep->Heap.SameBut it s.heap h'->Q (some en.key) {s with heap:=h'}):wpAny (model prog w) A (pyNext (.ref it)) Q E s:=by
 obtain ⟨o,g,k,f⟩:=id a
 obtain ⟨od,c,j,e⟩:=h
 unfold pyNext
 refine AB (DF (BT (name:=Str.ofString "__next__") a.typeIs C9
  (B7 C9 a.typeIs GL ?_ (GE _))))
 refine AB (AD (AB (AB ?_)))
 first|refine AB (DN a.typeIs (AD ?_))|refine AB (ED a.typeIs (AD ?_))
 refine AB (wpAny_fieldsOf g f ?_)
 simp only[show Builtin.Dict_items.ownsTuple "dict_keyiterator"=false by decide,CC,DG]
 show wpAny _ _ (if (Value.ref d == Value.none)=true then _ else _) _ _ s
 rw[if_neg (show ¬ ((Value.ref d == Value.none)=true) from A0)]
 refine AB (AD (AB (FJ c e ?_)))
 rw[if_neg (by simp)]
 refine AB (AD (AB (HS c e ?_)))
 rw[if_neg (by simp)]
 refine AD ?_
 simp only[show ¬ ((i:Int) < 0) from by omega,DG,CS,hx]
 refine AB ?_
 first|refine AB (DN a.typeIs (AD ?_))|refine AB (ED a.typeIs (AD ?_))
 refine AB (wpAny_isOneOf_keyiter a.typeIs ?_)
 show wpAny _ _ (setField (.ref it) 1 (rawInt ((i:Int)+1)) >>= _) _ _ s
 refine AB (EA g f (by simp) ?_)
 have b:(s.heap.update it (Obj.mapFields (·.setIfInBounds 1 (rawInt ((i:Int)+1))))).IsKeyIter it d (i+1) ar.size ep:=
  ⟨_,BN _ g (EO (DI f _)),(Obj.cls_mapFields ..).trans k,by rw[DI f];simp[rawInt]⟩
 refine AB (B0 (AB (wpAny_isOneOf_keyiter (s:={s with heap:=s.heap.update it (Obj.mapFields (·.setIfInBounds 1 (rawInt ((i:Int)+1))))}) b.typeIs ?_)))
 show wpAny _ _ (pure en.key) _ _ _
 exact AD (AD ⟨_,rfl,AD (q _ b (B6 ..))⟩)
def aKV{Q:Option V9->S9->Prop}(j:A.handled=none)(c:s.heap.IsKeyIter it d i ar.size ep)(k:Raw s.heap d ar ep)(hx:ar.size<=i)
  (q:∀ h',Heap.ExtBut it s.heap h'->Q none {s with heap:=h'}):wpAny (model prog w) A (pyNext (.ref it)) Q E s:=by
 obtain ⟨o,h,n,g⟩:=id c
 obtain ⟨od,e,l,f⟩:=k
 unfold pyNext
 refine AB (DF (BT (name:=Str.ofString "__next__") c.typeIs C9
  (B7 C9 c.typeIs GL ?_ (GE _))))
 refine AB (AD (AB (AB ?_)))
 first|refine AB (DN c.typeIs (AD ?_))|refine AB (ED c.typeIs (AD ?_))
 refine AB (wpAny_fieldsOf h g ?_)
 simp only[show Builtin.Dict_items.ownsTuple "dict_keyiterator"=false by decide,CC,DG]
 show wpAny _ _ (if (Value.ref d == Value.none)=true then _ else _) _ _ s
 rw[if_neg (show ¬ ((Value.ref d == Value.none)=true) from A0)]
 refine AB (AD (AB (FJ e f ?_)))
 rw[if_neg (by simp)]
 refine AB (AD (AB (HS e f ?_)))
 rw[if_neg (by simp)]
 refine AD ?_
 simp only[show ¬ ((i:Int) < 0) from by omega,DG,CS,H9 hx]
 refine AB ?_
 first|refine AB (DN c.typeIs (AD ?_))|refine AB (ED c.typeIs (AD ?_))
 show wpAny _ _ (setField (.ref it) 0 .none >>= _) _ _ s
 refine AB (EA h g (by simp) ?_)
 show wpAny _ _ (newExc (.type "StopIteration") [] >>= _) _ _ _
 refine AB ?_
 simp only[newExc,newTuple]
 refine AB (CK ?_ (by size_fits))
 refine AB (m:=firstArgMember _ _) (wpAny_of_eq (a:=Value.none) (by first|rfl|(simp only[firstArgMember];rfl)) ?_)
 refine CK ?_ (by size_fits)
 simp only[raiseNew]
 refine AB (wpAny_handled ?_)
 rw[show A.in1.handled=none from j]
 refine AB (AD (wpAny_throw ?_))
 refine AB (EW (T:="StopIteration") (b:=true) ⟨_,AT _ rfl,rfl⟩ GQ ?_)
 exact AD (q _ (((B6 ..).extBut.push _).push _))
end
end Zp
namespace Fl
open PySem L2 PyProof.Rows
def Itd(w:World)(d:Az)(es:List Ent)(ep:Nat):It:=
 ⟨fun i H=>H d=some (bZ w d es ep)/\i < es.length,fun i H x H'=>H'=H/\∃ e,es[i]? = some e/\x=e.2.1,fun i H=>H d=some (bZ w d es ep)/\i=es.length⟩
theorem tT{α β:Type}{f:α->β->Prop}:∀ {xs:List α} {ys:List β} {i:Nat} {x:α},Paired f xs ys->xs[i]? = some x->∃ y,ys[i]? = some y/\f x y
 | _,_,_,_,.nil,h=>by simp at h
 | _,_,0,_,.cons q t,h=>by simp at h;subst h;exact ⟨_,rfl,q⟩
 | _,_,i+1,_,.cons q t,h=>by
  obtain ⟨y,h1,h2⟩:=tT (i:=i) t (by simpa using h)
  exact ⟨y,by simpa using h1,h2⟩
def vA{X:Cx}{pins:List (Az×Obj)}{σ:L2.St}{H:Hp}{s:S9}{d:Az}{es:List Ent}{ep:Nat}(I:Inv X pins σ H s)(h:H d=some (bZ X.w d es ep)):(d == sysModules)=false/\∃ ar,Zp.Raw s.heap d ar ep/\Paired (n5 X.w) es ar.toList:=by
 obtain ⟨⟨a,o,ar,h1,h2,b,c⟩,_,_⟩:=(show b8 X.prog X.w H s.heap d (bZ X.w d es ep) from I.hok d _ h)
 exact ⟨a,ar,⟨o,h1,h2,b⟩,c⟩
def aHJ{P:Program}{w:World}{K:Frag}{tg:Expr}(d it:Az)(es:List Ent)(ep:Nat):Turn P w K tg (Itd w d es ep) [it] it (fun i h=>h.IsKeyIter it d i es.length ep) where
 mem:=by simp
 obj:=fun i h st b a=>by
  obtain rfl:b=it:=by simpa using a
  obtain ⟨o,e,c,dd⟩:=st
  exact ⟨o,e,fun v z=>by rw[dd] at z;cases z⟩
 keep:=fun i h h' st k=>st.at fun o e=>k it (by simp) o e
 item:=by
  intro X p hw r y i pins s σ H E I g st t
  subst p hw r
  obtain ⟨n,hi⟩:=t
  obtain ⟨hd,ar,u,l⟩:=vA I n
  have j:es.length=ar.size:=by rw[FR l];simp
  obtain ⟨en,h1,h2,D,F⟩:=tT l (AH hi)
  obtain ⟨f0,f1,f2,q,m,x⟩:=g it (by simp)
  rw[j] at st
  refine Zp.aHI st u (en:=en) (by simpa using h1) fun h' f A=>?_
  have C:Inv X pins σ H {s with heap:=h'}:=I.turned (t':=s.toks) (fun b o a e=>(A.2 b a).trans e) f0 f1 q m x
  obtain ⟨o,e,c,dd⟩:=id f
  rw[<-j] at f
  exact ⟨_,rfl,sP (s:={s with heap:=h'}) e c dd (by decide) ⟨es[i].2.1,H,C,D,⟨rfl,_,AH hi,rfl⟩,f,fun b a=>(g b a).1⟩⟩
 done:=by
  intro X p hw r y i pins s σ H E I g st t
  subst p hw r
  obtain ⟨n,hi⟩:=t
  obtain ⟨hd,ar,u,l⟩:=vA I n
  have j:es.length=ar.size:=by rw[FR l];simp
  obtain ⟨f0,f1,f2,q,m,x⟩:=g it (by simp)
  rw[j] at st
  exact Zp.aKV (I.ok.hd y) st u (by omega) fun h' B=>⟨rfl,I.turned (t':=s.toks) (fun b o a e=>B b o a e) f0 f1 q m x⟩
 self:=fun _ _ _ _ _ st h=>wpAny_pyIter_keyiter st h
def aQ4(X:Cx)(tl:TE):TI:=fun σ H R=>tl σ H fun x H1=>∃ d es ep,x=.ref d/\H1 d=some (bZ X.w d es ep)/\R (Itd X.w d es ep) H1
section
variable{X:Cx}{c:Ct}{E:XK}{tg e:Expr}
def aKW{l:Expr}{tl:TE}(g:PE X l tl):PI X tg l (aQ4 X tl):=by
 intro pins s σ H R I h
 refine thn (g pins s σ H _ I h) fun v s1 c=>?_
 obtain ⟨x,H1,a,r1,n⟩:=c
 obtain ⟨d,es,ep,rfl,f,q⟩:=n
 cases r1
 obtain ⟨k,ar,i,m⟩:=vA a f
 have hsz:ar.size=es.length:=by rw[FR m];simp
 refine Zp.aHH k i ?_
 rw[hsz]
 refine ⟨s1.heap.objs.size,[s1.heap.objs.size],_,_,H1,rfl,a.kept (t':=s1.toks) fun b o e=>AE _ e,aHJ d _ es ep,⟨_,AT _ rfl,rfl,rfl⟩,fun b j=>?_,q⟩
 obtain rfl:b=s1.heap.objs.size:=by simpa using j
 exact a.fpOk (AJ _) (a.hok.fresh (AJ _))
def aCV{K:Frag}{F:Hp}{es:List Ent}{a:List (D9×D9)}(m:MapRel K F es a){i:Nat}{en:Ent}{x:D9}(h:es[i]? = some en)(hx:(a.map (·.1))[i]? = some x):DatV K F en.2.1 x:=by
 obtain ⟨d,h1,h2⟩:=m.k2.get (i:=i) (x:=en.2.1) (by rw[AN,h];rfl)
 rw[hx] at h1
 cases h1
 exact h2
def aKX{K:Frag}{F B:Hp}{w:World}{d:Az}{es:List Ent}{ep:Nat}{a:List (D9×D9)}(hz:a.length<=16777216)(c:F d=some (bZ w d es ep))(m:MapRel K F es a):Yld K (Itd w d es ep) F B (a.map (·.1)):=by
 have g:es.length=a.length:=by simpa using congrArg List.length m.k1
 exact {
  len:=by rw[cV,AC];exact hz
  go:=fun i b H1 h1 h2 f hi=>⟨h2 _ _ (h1 _ _ c),by rw[AC] at hi;omega⟩
  yld:=fun i b H1 v H2 x h1 h2 f y e=>by
   obtain ⟨rfl,en,h,rfl⟩:=y
   exact ⟨b,Ext.refl h2,(aCV m h e).same h1⟩
  stop:=fun b H1 h1 h2 f=>⟨h2 _ _ (h1 _ _ c),by rw[AC];exact g.symm⟩}
def tU(i:Nat):Sg->R (List D9):=fun ρ=>match ρ[i]? with
 | some (some (.f kvs))=>if kvs.length<=16777216 then .ok (kvs.map (·.1)) else .bad
 | _=>.bad
def aBF{i:Nat}(hW:X.w=c.g.w)(h:PE X e (fN i)):PI0 X c E tg e (tU i):=PI.imp (aKW h) fun σ H Q ⟨ρ,F,ab,k⟩=>by
 unfold tU at k
 split at k
 .rename_i a hi
  split at k
  .rename_i hz
   obtain ⟨v,b,p,es,rfl,⟨ep,h2⟩,d⟩:=ab.slot i _ hi
   refine ⟨_,b,p,es,ep,rfl,by rw[hW];exact ab.fh _ _ h2,?_⟩
   rw[hW]
   exact Rk.ok k _ F H (Ext.refl ab.fh) (aKX hz h2 d)
  .exact k.elim
 .exact k.elim
def aPV(i:Nat):Sg->R D9:=fun ρ=>match ρ[i]? with
 | some (some (.m kvs))=>if kvs.length<=16777216 then .ok (.int (kvs.length:Int)) else .bad
 | some (some (.f kvs))=>if kvs.length<=16777216 then .ok (.int (kvs.length:Int)) else .bad
 | _=>.bad
end
end Fl
namespace Zp
open PySem
section
variable{prog:Program}{w:World}{A:Around}{E:V9->S9->Prop}{s:S9}{z TI TO T i1 i2:Az}{f1 f2:List Az}{n1 n2 i:Nat}{P1 P2:Nat->V9->Prop}{S1 S2:Nat->Heap->Prop}{oT:Obj}{bb:Bool}
def aBG{Q:Bool->S9->Prop}(hz:fD s.heap z TI TO (rawInt T) (.bool bb))(c:s.heap.get? T=some oT)
  (h:∀ h',fD h' z TI TO (rawInt T) (.bool true)->Heap.SameBut z s.heap h'->Q false {s with heap:=h'}):wpAny (model prog w) A (Builtin.SmallTypes.ownedTupleIsFree (.ref z)) Q E s:=by
 unfold Builtin.SmallTypes.ownedTupleIsFree
 refine AB (BJ hz rfl (x:=rawInt T) rfl ?_)
 show wpAny _ _ (loadIfAlive ((T:Int)).toNat >>= _) _ _ s
 refine AB (yW ?_)
 rw[show ((T:Int)).toNat=T by omega,c]
 show wpAny _ _ (field (.ref z) 1 >>= _) _ _ s
 refine AB (BJ hz rfl (x:=.bool bb) rfl ?_)
 cases bb with
 | true=>exact AD (h _ hz ⟨rfl,fun _ _=>rfl⟩)
 | false=>
  show wpAny _ _ (setField (.ref z) 1 (.bool true) >>= _) _ _ s
  refine AB (DJ hz (by simp) fun h1 a b=>?_)
  exact AD (h h1 a b)
def aKY{Q:V9->S9->Prop}(hz:fD s.heap z TI TO (rawInt T) (.bool bb))(L:s.heap.get? T=some oT)(D:Apart z TI TO i1 i2 f1 f2)
  (r:Draws prog w A i1 f1 n1 P1 S1) (t:Draws prog w A i2 f2 n2 P2 S2) (C:IsPair s.heap TI (.ref i1) (.ref i2)) (h1:S1 i s.heap) (h2:S2 i s.heap) (G:i < n1) (H:i < n2)
  (M:∀ x y h' tk,P1 i x->P2 i y->fD h' z TI TO (rawInt T) (.bool true)->S1 (i+1) h'->S2 (i+1) h'->IsPair h' s.heap.objs.size x y->h'.objs.size=s.heap.objs.size+1->
   (∀ c o,c≠z->c≠i1->c≠i2->s.heap.get? c=some o->h'.get? c=some o)->Q (.ref s.heap.objs.size) {s with heap:=h',toks:=tk}) :
  wpAny (model prog w) A (Builtin.«zip.__next__» ⟨[.ref z],[]⟩) (fun fin s'=>∃ v,fin=.done (.ret v)/\Q v s') E s:=by
 have fr:∀ {f:List Az} {c:Az} {g g':Heap},Heap.SameBut c g g'->c∉f->∀ b∈f,∀ o,g.get? b=some o->g'.get? b=some o:=fun I P b B o e=>I.extBut _ _ (fun z=>P (z▸B)) e
 show wpAny _ _ (field (.ref z) 2 >>= _) _ _ _
 refine AB (BJ hz rfl (x:=.bool false) rfl ?_)
 show wpAny _ _ (field (.ref z) 3 >>= _) _ _ _
 refine AB (BJ hz rfl (x:=.ref TI) rfl (AB (CM C rfl ?_)))
 show wpAny _ _ (Builtin.SmallTypes.ownedTupleIsFree (.ref z) >>= _) _ _ _
 refine AB (aBG hz L fun l q j=>?_)
 simp only[CC,DG]
 show wpAny _ _ ((forIn #[Value.ref i1,Value.ref i2] _ _) >>= _) _ _ _
 refine AB ?_
 rw[<-Array.forIn_toList]
 simp only[CN,EQ]
 refine AB (AB (B0 ?_))
 show wpAny _ _ (Builtin.SmallTypes.nextOf (.ref i1) >>= _) _ _ _
 refine AB (r.item i {s with heap:=l} _ _ G (r.frame _ _ _ h1 (fr j D.z1)) fun x k F O m a=>AD (AD ?_))
 have a:Heap.SameBut i1 l k:=a
 refine AB (AB (B0 ?_))
 show wpAny _ _ (Builtin.SmallTypes.nextOf (.ref i2) >>= _) _ _ _
 refine AB (t.item i {s with heap:=k,toks:=F} _ _ H (t.frame _ _ _ (t.frame _ _ _ h2 (fr j D.z2)) (fr a D.i1f2)) fun y h u N n d=>AD (AD (AD ?_)))
 have d:Heap.SameBut i2 k h:=d
 have hsz:h.objs.size=s.heap.objs.size:=by rw[d.1,a.1,j.1]
 have p:fD h z TI TO (rawInt T) (.bool true):=d.extBut _ _ D.i2z.symm (a.extBut _ _ D.i1z.symm q)
 refine AB (wpAny_newTuple (hsz:=by show 2<=sizeLine;decide) (AD ⟨_,rfl,?_⟩))
 show Q (.ref h.objs.size) _
 rw[hsz]
 have up:∀ c o,h.get? c=some o->(h.push {cls:=.type "tuple",data:=.seq #[x,y]}).get? c=some o:=fun c o e=>AE _ e
 refine M x y _ u O N (up _ _ p) (r.frame _ _ _ (r.frame _ _ _ m (fr d D.i2f1)) fun b B o e=>up b o e) (t.frame _ _ _ n fun b B o e=>up b o e) ?_ (by rw[BY,hsz]) fun c o J R K e=>up c o (d.extBut _ _ K (a.extBut _ _ R (j.extBut _ _ J e)))
 rw[<-hsz]
 exact AT _ rfl
def aN2{Q:Fin->S9->Prop}(hz:fD s.heap z TI TO (rawInt T) (.bool bb))(J:s.heap.get? T=some oT)(D:Apart z TI TO i1 i2 f1 f2)
  (p:Draws prog w A i1 f1 n1 P1 S1) (y:Draws prog w A i2 f2 n2 P2 S2) (t:IsPair s.heap TI (.ref i1) (.ref i2)) (h1:S1 i s.heap) (h2:S2 i s.heap) (l:i=n1\/(i < n1/\i=n2))
  (C:∀ h' tk e,(∀ c o,c≠z->c≠i1->c≠i2->s.heap.get? c=some o->h'.get? c=some o)->(∃ o,h'.get? e=some o/\o.cls=.type "StopIteration")->E (.ref e) {s with heap:=h',toks:=tk}) :
  wpAny (model prog w) A (Builtin.«zip.__next__» ⟨[.ref z],[]⟩) Q E s:=by
 have fr:∀ {f:List Az} {c:Az} {g g':Heap},Heap.SameBut c g g'->c∉f->∀ b∈f,∀ o,g.get? b=some o->g'.get? b=some o:=fun G K b I o e=>G.extBut _ _ (fun z=>K (z▸I)) e
 show wpAny _ _ (field (.ref z) 2 >>= _) _ _ _
 refine AB (BJ hz rfl (x:=.bool false) rfl ?_)
 show wpAny _ _ (field (.ref z) 3 >>= _) _ _ _
 refine AB (BJ hz rfl (x:=.ref TI) rfl (AB (CM t rfl ?_)))
 show wpAny _ _ (Builtin.SmallTypes.ownedTupleIsFree (.ref z) >>= _) _ _ _
 refine AB (aBG hz J fun j u d=>?_)
 simp only[CC,DG]
 show wpAny _ _ ((forIn #[Value.ref i1,Value.ref i2] _ _) >>= _) _ _ _
 refine AB ?_
 rw[<-Array.forIn_toList]
 simp only[CN,EQ]
 refine AB (AB (B0 ?_))
 show wpAny _ _ (Builtin.SmallTypes.nextOf (.ref i1) >>= _) _ _ _
 rcases l with rfl|⟨F,rfl⟩
 .exact AB (p.done {s with heap:=j} _ _ (p.frame _ _ _ h1 (fr d D.z1)) fun h e a B=>C h s.toks e (fun c o r v _ x=>a _ _ v (d.extBut _ _ r x)) B)
 .refine AB (p.item i {s with heap:=j} _ _ F (p.frame _ _ _ h1 (fr d D.z1)) fun x h n L q a=>AD (AD ?_))
  have a:Heap.SameBut i1 j h:=a
  refine AB (AB (B0 ?_))
  show wpAny _ _ (Builtin.SmallTypes.nextOf (.ref i2) >>= _) _ _ _
  exact AB (y.done {s with heap:=h,toks:=n} _ _ (y.frame _ _ _ (y.frame _ _ _ h2 (fr d D.z2)) (fr a D.i1f2)) fun m e k B=>C m n e (fun c o r v H x=>k _ _ H (a.extBut _ _ v (d.extBut _ _ r x))) B)
end
section
variable{prog:Program}{w:World}{A:Around}{E:V9->S9->Prop}{s:S9}{z TI TO T i1 i2:Az}{f1 f2:List Az}{n1 n2 i:Nat}{P1 P2:Nat->V9->Prop}{S1 S2:Nat->Heap->Prop}{oT:Obj}{bb:Bool}
def aBH{Q:Option V9->S9->Prop}(hz:fD s.heap z TI TO (rawInt T) (.bool bb))(k:s.heap.get? T=some oT)(D:Apart z TI TO i1 i2 f1 f2)
  (m:Draws prog w A.in1 i1 f1 n1 P1 S1) (n:Draws prog w A.in1 i2 f2 n2 P2 S2) (b:IsPair s.heap TI (.ref i1) (.ref i2)) (h1:S1 i s.heap) (h2:S2 i s.heap) (e:i < n1) (g:i < n2)
  (d:∀ x y h' tk,P1 i x->P2 i y->fD h' z TI TO (rawInt T) (.bool true)->S1 (i+1) h'->S2 (i+1) h'->IsPair h' s.heap.objs.size x y->h'.objs.size=s.heap.objs.size+1->
   (∀ c o,c≠z->c≠i1->c≠i2->s.heap.get? c=some o->h'.get? c=some o)->Q (some (.ref s.heap.objs.size)) {s with heap:=h',toks:=tk}):wpAny (model prog w) A (pyNext (.ref z)) Q E s:=by
 have a:s.TypeIs (.ref z) "zip":=⟨_,hz,rfl⟩
 unfold pyNext
 exact AB (DF (BT (name:=Str.ofString "__next__") a CI
  (B7 CI a EC
   (aKY hz k D m n b h1 h2 e g fun x y h' tk f p2 l q a4 j h p=>AD (d x y h' tk f p2 l q a4 j h p)) (D4 _))))
def aE9{Q:Option V9->S9->Prop}(hz:fD s.heap z TI TO (rawInt T) (.bool bb))(j:s.heap.get? T=some oT)(D:Apart z TI TO i1 i2 f1 f2)
  (k:Draws prog w A.in1 i1 f1 n1 P1 S1) (m:Draws prog w A.in1 i2 f2 n2 P2 S2) (f:IsPair s.heap TI (.ref i1) (.ref i2)) (h1:S1 i s.heap) (h2:S2 i s.heap) (d:i=n1\/(i < n1/\i=n2))
  (g:∀ h' tk,(∀ c o,c≠z->c≠i1->c≠i2->s.heap.get? c=some o->h'.get? c=some o)->Q none {s with heap:=h',toks:=tk}):wpAny (model prog w) A (pyNext (.ref z)) Q E s:=by
 have a:s.TypeIs (.ref z) "zip":=⟨_,hz,rfl⟩
 unfold pyNext
 refine AB (DF (BT (name:=Str.ofString "__next__") a CI
  (B7 CI a EC (aN2 hz j D k m f h1 h2 d fun h' tk e h n=>?_) (D4 _))))
 obtain ⟨o,p,l⟩:=n
 refine AB (EW (T:="StopIteration") (b:=true) ⟨o,p,l⟩ GQ ?_)
 exact AD (g _ _ h)
end
abbrev sG(h:Heap)(S:Az)(acc:Array V9)(c:Nat):Prop:=h.get? S=some {cls:=.type "list",dict:=none,data:=.seq acc c,slots:=#[]}
def aHK{prog:Program}{w:World}{A:Around}{R:Result->S9->Prop}{I S:Az}{n:Nat}{res:V9}(J Jf:Array V9->Heap->Prop)(x:n<=sizeLine)
  (size:∀ acc h,J acc h->acc.size<=n)
  (frame:∀ acc h h',J acc h->h'.objs.size=h.objs.size->(∀ b o,b≠S->h.get? b=some o->h'.get? b=some o)->J acc h')
  (item:∀ acc (s:S9) (c:Nat) (Q:Option V9->S9->Prop) (E:V9->S9->Prop),acc.size < n->J acc s.heap->sG s.heap S acc c->(∀ v h' tk,J (acc.push v) h'->sG h' S acc c->Q (some v) {s with heap:=h',toks:=tk})->wpAny (model prog w) A.in1 (pyNext (.ref I)) Q E s)
  (done:∀ acc (s:S9) (c:Nat) (Q:Option V9->S9->Prop) (E:V9->S9->Prop),acc.size=n->J acc s.heap->sG s.heap S acc c->(∀ h' tk,Jf acc h'->sG h' S acc c->Q none {s with heap:=h',toks:=tk})->wpAny (model prog w) A.in1 (pyNext (.ref I)) Q E s) :
  ∀ (k:Nat) (s:S9) (acc:Array V9) (c:Nat),n - acc.size=k->J acc s.heap->sG s.heap S acc c->(∀ h' tk a m,Jf a h'->a.size=n->sG h' S a m->R (.ok (.ret res)) {s with heap:=h',toks:=tk})->
  codeAny (model prog w) A (.builtin "list.extend.loop" ⟨[.ref S,.ref I,res],[]⟩) R s:=by
 intro k
 induction k with
 | zero=>
  intro s acc c r g i l
  have:=size acc _ g
  refine GF F.entry_extend_loop ?_
  rw[EZ E5 _]
  show wpAny _ A.in1 (pyNext (.ref I) >>= _) _ _ s
  exact AB (done acc s c _ _ (by omega) g i fun h' tk f d=>AD (l h' tk acc c f (by omega) d))
 | succ k ih=>
  intro s acc c r g i l
  refine GF F.entry_extend_loop ?_
  rw[EZ E5 _]
  show wpAny _ A.in1 (pyNext (.ref I) >>= _) _ _ s
  refine AB (item acc s c _ _ (by omega) g i fun v h' tk f d=>?_)
  show wpAny _ A.in1 (updateSeq S (·.push v) >>= _) _ _ _
  refine AB (GG d rfl (AD ⟨G2 E5 _,ih _ (acc.push v) _ (by rw[EK];omega) (frame _ _ _ f (FW ..) fun b o p e=>?_) (BN _ d rfl) fun h2 j a m u q t=>l h2 j a m u q t⟩) (by omega) (by show (acc.push v).size<=sizeLine+1;rw[EK];omega))
  exact (CB _ _ (fun h:S=b=>p h.symm)).trans e
def aCW:typeLookup (.type "zip") "__len__"=pure none:=by rw[HU,F8];kernel_rfl
def z9:typeLookup (.type "zip") "__length_hint__"=pure none:=by rw[HU,F8];kernel_rfl
def Je(P1 P2:Nat->V9->Prop)(s0:Heap)(z TO i1 i2 S:Az)(acc:Array V9)(h:Heap):Prop:=(∀ (j k p q:Nat),j < k->acc[j]? = some (.ref p)->acc[k]? = some (.ref q)->p < q)/\(∀ (j:Nat) v,acc[j]? = some v->∃ p x y,v=.ref p/\S < p/\IsPair h p x y/\P1 j x/\P2 j y)/\∀ c o,c≠z->c≠TO->c≠i1->c≠i2->c≠S->s0.get? c=some o->h.get? c=some o
structure Jz(P1 P2:Nat->V9->Prop)(S1 S2:Nat->Heap->Prop)(s0:Heap)(z TI TO i1 i2 S:Az)(n:Nat)(acc:Array V9)(h:Heap):Prop where
 size:acc.size<=n
 inc:∀ (j k p q:Nat),j < k->acc[j]? = some (.ref p)->acc[k]? = some (.ref q)->p < q
 top:∀ (j p:Nat),acc[j]? = some (.ref p)->p < h.objs.size
 told:∀ (j:Nat) v,acc[j]? = some v->∃ p x y,v=.ref p/\S < p/\IsPair h p x y/\P1 j x/\P2 j y
 s1:S1 acc.size h
 s2:S2 acc.size h
 ti:IsPair h TI (.ref i1) (.ref i2)
 keep:∀ c o,c≠z->c≠TO->c≠i1->c≠i2->c≠S->s0.get? c=some o->h.get? c=some o
 big:S < h.objs.size
 st:(acc.size=0/\IsZip h z TI TO .none/\∃ a b,IsPair h TO a b)\/(0 < acc.size/\∃ (T:Az) (bb:Bool) (o:Obj),fD h z TI TO (rawInt T) (.bool bb)/\h.get? T=some o/\S < T)
section
variable{prog:Program}{w:World}{A:Around}{E:V9->S9->Prop}{s:S9}{z TI TO i1 i2:Az}{f1 f2:List Az}{n1 n2:Nat}{P1 P2:Nat->V9->Prop}{S1 S2:Nat->Heap->Prop}
def aHL{a b:V9}{Q:V9->S9->Prop}(hh:A.handled=none)(D:Apart z TI TO i1 i2 f1 f2)(D1:Draws prog w A.in1.in1.in1 i1 f1 n1 P1 S1)(D2:Draws prog w A.in1.in1.in1 i2 f2 n2 P2 S2)
  (hz:IsZip s.heap z TI TO .none) (ac:IsPair s.heap TI (.ref i1) (.ref i2)) (ak:IsPair s.heap TO a b) (h1:S1 0 s.heap) (h2:S2 0 s.heap) (ae:s.heap.objs.size∉f1) (ag:s.heap.objs.size∉f2) (K:i1 < s.heap.objs.size) (G:i2 < s.heap.objs.size) (hn:n1<=sizeLine)
  (hQ:∀ h' tk acc c,(∀ c o,c≠z->c≠TO->c≠i1->c≠i2->s.heap.get? c=some o->h'.get? c=some o)->sG h' s.heap.objs.size acc c->acc.size=min n1 n2->(∀ (j k p q:Nat),j < k->acc[j]? = some (.ref p)->acc[k]? = some (.ref q)->p < q)->
   (∀ (j:Nat) v,acc[j]? = some v->∃ p x y,v=.ref p/\s.heap.objs.size < p/\IsPair h' p x y/\P1 j x/\P2 j y)->Q (.ref s.heap.objs.size) {s with heap:=h',toks:=tk}) :
  wpAny (model prog w) A (call (.type "list") [.ref z]) Q E s:=by
 have C:=AK hz
 have ad:=AK ac
 have t:=AK ak
 refine callType_codes (Q₁:=fun obj M=>obj=.ref s.heap.objs.size/\M={s with heap:=s.heap.push {cls:=.type "list",data:=.seq #[]}}) F.called_list (F.typeCall_list_1 _) F.entry_list_init
  (code_list_new _ ⟨rfl,rfl⟩) fun obj M aa=>?_
 obtain ⟨rfl,rfl⟩:=aa
 have hS:(s.heap.push {cls:=.type "list",data:=.seq #[]}).get? s.heap.objs.size=some {cls:=.type "list",data:=.seq #[]}:=AT _ rfl
 refine ⟨⟨_,hS,rfl⟩,F.args_list_init_2 _ _,?_⟩
 generalize af:s.heap.objs.size=S at *
 show wpAny _ _ (do let old <-Builtin.List.listItems (.ref S);Builtin.List.listUpdate (.ref S) (fun _=>#[]);letGo old.toList.reverse;Builtin.List.listExtendWith (.ref S) (.ref z) .none) _ _ _
 refine AB ?_
 unfold Builtin.List.listItems
 refine AB (CM hS rfl (AD ?_))
 show wpAny _ _ (updateSeq S (fun _=>#[]) >>= fun _=>letGo (#[]:Array V9).toList.reverse >>= fun _=>Builtin.List.listExtendWith (.ref S) (.ref z) .none) _ _ _
 refine AB (GG hS rfl (AB (HZ ?_)))
 have g1:=BN (Obj.mapSeq (fun _=>(#[]:Array V9))) hS rfl
 have g2:∀ c o,c≠S->s.heap.get? c=some o->((s.heap.push {cls:=.type "list",data:=.seq #[]}).update S (Obj.mapSeq (fun _=>(#[]:Array V9)))).get? c=some o:=
  fun c o hc e=>(CB _ _ (Ne.symm hc)).trans (AE _ e)
 have g3:((s.heap.push {cls:=.type "list",data:=.seq #[]}).update S (Obj.mapSeq (fun _=>(#[]:Array V9)))).objs.size=S+1:=by rw[FW,BY,af]
 generalize (s.heap.push {cls:=.type "list",data:=.seq #[]}).update S (Obj.mapSeq (fun _=>(#[]:Array V9)))=hp at *
 have O:z≠S:=A2 C
 have ah:TI≠S:=A2 ad
 have u:TO≠S:=A2 t
 have R:i1≠S:=A2 K
 have P:i2≠S:=A2 G
 have aj:IsZip hp z TI TO .none:=g2 _ _ O hz
 have W:(({s with heap:=hp}:S9)).TypeIs (.ref z) "zip":=⟨_,aj,rfl⟩
 unfold Builtin.List.listExtendWith
 refine AB (HG W ?_)
 have e1:Builtin.List.listSameRef (.ref S) (.ref z)=false:=by simp[Builtin.List.listSameRef,Ne.symm O]
 simp only[e1,show (Value.type "zip" == Value.type "list")=false by decide,show (Value.type "zip" == Value.type "tuple")=false by decide,Bool.or_false,CC,DG]
 refine AB (FV (s:={s with heap:=hp}) aj (AB (B0 ?_)))
 unfold Builtin.List.listLengthHint
 refine AB (GA W aCW ?_)
 show wpAny _ _ (specialOf (Value.ref z) (Str.ofString "__length_hint__") >>= _) _ _ _
 refine AB (GA W z9 (AD ?_))
 rw[if_pos (by rfl)]
 refine AB (EX (AB ?_))
 show wpAny _ _ (updateSeq S (·.push .none) >>= fun _=>updateSeq S (·.pop)) _ _ _
 refine AB (GG g1 rfl ?_)
 have g4:=BN (Obj.mapSeq (·.push Value.none)) g1 rfl
 refine GG g4 rfl ?_
 have g5:=BN (Obj.mapSeq (·.pop)) g4 rfl
 have g6:∀ c o,c≠S->s.heap.get? c=some o->((hp.update S (Obj.mapSeq (·.push Value.none))).update S (Obj.mapSeq (·.pop))).get? c=some o:=
  fun c o hc e=>(CB _ _ (Ne.symm hc)).trans ((CB _ _ (Ne.symm hc)).trans (g2 c o hc e))
 have g7:((hp.update S (Obj.mapSeq (·.push Value.none))).update S (Obj.mapSeq (·.pop))).objs.size=S+1:=by rw[FW,FW,g3]
 generalize (hp.update S (Obj.mapSeq (·.push Value.none))).update S (Obj.mapSeq (·.pop))=hq at *
 have ao:IsZip hq z TI TO .none:=g6 _ _ O hz
 have aq:min n1 n2<=sizeLine:=A6 (E7 _ _) hn
 refine AD ⟨G2 E5 _,aHK (A:=A.in1) (I:=z) (S:=S) (n:=min n1 n2) (Jz P1 P2 S1 S2 s.heap z TI TO i1 i2 S (min n1 n2)) (Je P1 P2 s.heap z TO i1 i2 S) aq (fun acc h J=>J.size) (fun acc h h' J hsz H=>?_) (fun acc s' c Q' E' ai J hL B=>?_) (fun acc s' c Q' E' ap J hL B=>?_) (min n1 n2) _ #[] _ (by simp) ?_ g5 fun h' tk acc c J hsz hL=>?_⟩
 .refine ⟨J.size,J.inc,fun j p e=>by rw[hsz];exact J.top j p e,fun j v e=>?_,D1.frame _ _ _ J.s1 fun b hb o e=>H b o (fun q=>ae (q▸hb)) e,D2.frame _ _ _ J.s2 fun b hb o e=>H b o (fun q=>ag (q▸hb)) e,H _ _ ah J.ti,fun c o i r g c4 L e=>H _ _ L (J.keep c o i r g c4 L e),by rw[hsz];exact J.big,?_⟩
  .obtain ⟨p,x,y,f,d,l,a4⟩:=J.told j v e
   exact ⟨p,x,y,f,d,H _ _ (C3 d) l,a4⟩
  .rcases J.st with ⟨Z,f,a,b,d⟩|⟨Z,T,bb,o,f,d,l⟩
   .exact .inl ⟨Z,H _ _ O f,a,b,H _ _ u d⟩
   .exact .inr ⟨Z,T,bb,o,H _ _ O f,H _ _ (C3 l) d,l⟩
 .have l1:acc.size < n1:=AW ai (E7 _ _)
  have l2:acc.size < n2:=AW ai (Nat.min_le_right _ _)
  have put:∀ (x y:V9) (h':Heap),P1 acc.size x->P2 acc.size y->S1 (acc.size+1) h'->S2 (acc.size+1) h'->IsPair h' s'.heap.objs.size x y->h'.objs.size=s'.heap.objs.size+1->(∀ c o,c≠z->c≠TO->c≠i1->c≠i2->s'.heap.get? c=some o->h'.get? c=some o)->
    (∃ (T:Az) (bb:Bool) (o:Obj),fD h' z TI TO (rawInt T) (.bool bb)/\h'.get? T=some o/\S < T)->IsPair h' TI (.ref i1) (.ref i2)->Jz P1 P2 S1 S2 s.heap z TI TO i1 i2 S (min n1 n2) (acc.push (.ref s'.heap.objs.size)) h':=fun x y h' px py q1 q2 q3 q4 q5 q6 q7=>by
   refine ⟨by rw[EK];omega,fun j k p q au e1 e2=>?_,fun j p e=>?_,fun j v e=>?_,by rw[EK];exact q1,by rw[EK];exact q2,q7,fun c o i r g c4 L e=>q5 c o i r g c4 (J.keep c o i r g c4 L e),by rw[q4];exact G6 J.big,.inr ⟨by rw[EK];omega,q6⟩⟩
   .rw[GN] at e1 e2
    split at e2
    .rename_i ek
     cases e2
     split at e1
     .omega
     .exact J.top j p e1
    .split at e1
     .rename_i ej
      have:k < acc.size:=by
       rcases HN k acc.size with h|h
       · exact h
       · rw [H9 h] at e2; cases e2
      omega
     .exact J.inc j k p q au e1 e2
   .rw[GN] at e
    split at e
    .cases e;rw[q4];exact FT _
    .have:=J.top j p e;rw[q4];exact G6 this
   rw[GN] at e
   split at e
   .rename_i ej
    cases e
    rw[ej]
    exact ⟨_,x,y,rfl,J.big,q3,px,py⟩
   .obtain ⟨p,x',y',f,d,l,a4⟩:=J.told j v e
    have X:p≠z:=fun q=>by subst q;exact absurd C (C6.mpr (BU d))
    have Y:p≠TO:=fun q=>by subst q;exact absurd t (C6.mpr (BU d))
    have U:p≠i1:=fun q=>by subst q;exact absurd K (C6.mpr (BU d))
    have V:p≠i2:=fun q=>by subst q;exact absurd G (C6.mpr (BU d))
    exact ⟨p,x',y',f,d,q5 _ _ X Y U V l,a4⟩
  rcases J.st with ⟨Z,f,a,b,d⟩|⟨Z,T,bb,o,f,d,l⟩
  .refine wN (A:=A.in1.in1) D D1 D2 f J.ti d J.s1 J.s2 l1 l2 fun x y h' tk p1 p2 b1 b2 b3 b4 b5 b6 m=>?_
   exact B _ h' tk (put x y h' p1 p2 b3 b4 b5 b6 m ⟨_,false,_,b1,b5,J.big⟩ (m _ _ D.TIz D.TITO D.TIi1 D.TIi2 J.ti)) (m _ _ (Ne.symm O) (Ne.symm u) (Ne.symm R) (Ne.symm P) hL)
  .refine aBH (A:=A.in1.in1) f d D D1 D2 J.ti J.s1 J.s2 l1 l2 fun x y h' tk p1 p2 b1 b3 b4 b5 b6 m=>?_
   have al:T≠z:=fun q=>by subst q;exact absurd C (C6.mpr (BU l))
   have av:T≠i1:=fun q=>by subst q;exact absurd K (C6.mpr (BU l))
   have am:T≠i2:=fun q=>by subst q;exact absurd G (C6.mpr (BU l))
   exact B _ h' tk (put x y h' p1 p2 b3 b4 b5 b6 (fun c o i r g c4 e=>m c o i g c4 e) ⟨T,true,o,b1,m _ _ al av am d,l⟩ (m _ _ D.TIz D.TIi1 D.TIi2 J.ti)) (m _ _ (Ne.symm O) (Ne.symm R) (Ne.symm P) hL)
 .have N:acc.size=n1\/(acc.size < n1/\acc.size=n2):=by rw[ap];omega
  have put:∀ (h':Heap) (tk:Nat),(∀ c o,c≠z->c≠TO->c≠i1->c≠i2->s'.heap.get? c=some o->h'.get? c=some o)->Q' none {s' with heap:=h',toks:=tk}:=fun h' tk q5=>by
   refine B h' tk ⟨J.inc,fun j v e=>?_,fun c o i r g c4 L e=>q5 c o i r g c4 (J.keep c o i r g c4 L e)⟩ (q5 _ _ (Ne.symm O) (Ne.symm u) (Ne.symm R) (Ne.symm P) hL)
   obtain ⟨p,x',y',f,d,l,a4⟩:=J.told j v e
   have X:p≠z:=fun q=>by subst q;exact absurd C (C6.mpr (BU d))
   have Y:p≠TO:=fun q=>by subst q;exact absurd t (C6.mpr (BU d))
   have U:p≠i1:=fun q=>by subst q;exact absurd K (C6.mpr (BU d))
   have V:p≠i2:=fun q=>by subst q;exact absurd G (C6.mpr (BU d))
   exact ⟨p,x',y',f,d,q5 _ _ X Y U V l,a4⟩
  rcases J.st with ⟨Z,f,a,b,d⟩|⟨Z,T,bb,o,f,d,l⟩
  .exact yY (A:=A.in1.in1) D D1 D2 f J.ti d J.s1 J.s2 N fun h' tk m=>put h' tk m
  .exact aE9 (A:=A.in1.in1) f d D D1 D2 J.ti J.s1 J.s2 N fun h' tk m=>put h' tk fun c o i r g c4 e=>m c o i g c4 e
 .refine ⟨CU _,fun j k p q _ e=>by simp at e,fun j p e=>by simp at e,fun j v e=>by simp at e,D1.frame _ _ _ h1 fun b hb o e=>g6 b o (fun q=>ae (q▸hb)) e,D2.frame _ _ _ h2 fun b hb o e=>g6 b o (fun q=>ag (q▸hb)) e,g6 _ _ ah ac,fun c o i r g c4 L e=>g6 c o L e,by rw[g7];exact FT _,.inl ⟨rfl,ao,a,b,g6 _ _ u ak⟩⟩
 .exact ⟨rfl,hQ h' tk acc c (fun c o i r g c4 e=>J.2.2 c o i r g c4 (fun q=>by subst q;exact absurd (AK e) (by rw[af];exact BG _)) e) hL hsz J.1 J.2.1⟩
end
end Zp
namespace L2
open PySem PySem.Spec PyProof.Rows
structure LZ(H1 H2:Hp)(xs ys:List V)(l:Az)(ps:List Az):Prop where
 same:∀ b o,H1 b=some o->H2 b=some o
 new:H1 l=none
 lst:H2 l=some (.lst (ps.map .ref))
 len:ps.length=min xs.length ys.length
 tup:∀ (j:Nat) p,ps[j]? = some p->H1 p=none/\∃ u v,xs[j]? = some u/\ys[j]? = some v/\H2 p=some (.tup [u,v])
def tLZ(K:Frag)(ta:TA):TE:=fun σ H Q=>ta σ H fun vs H1=>∃ x y C1 C2 xs ys,vs=[x,y]/\pJ K H1 x C1/\pJ K H1 y C2/\C1 H1 xs/\C2 H1 ys/\xs.length<=sizeLine/\∀ l ps H2,LZ H1 H2 xs ys l ps->Q (.ref l) H2
def zH(H:Hp)(S:Az)(ps:List Az)(xs ys:List V):Hp:=fun b=>if b=S then some (.lst (ps.map .ref)) else if b∈ps then (match xs[ps.idxOf b]?,ys[ps.idxOf b]? with
 | some u,some v=>some (.tup [u,v])
 | _,_=>none) else H b
def aFA{ps:List Az}(h:∀ (j k p q:Nat),j < k->ps[j]? = some p->ps[k]? = some q->p < q):ps.Nodup:=B9.mpr fun i j hi b a=>A2 (h i j _ _ a (AH hi) (AH b))
def aCX{b a:Nat}(h:b < a)(k:Nat):b≠a+k:=by omega
def aQ5{b a k:Nat}(h:a+k < b):a<=b:=by omega
def aQ6{b a k:Nat}(h:b < a)(h2:a+k < b):False:=by omega
def gQ:V9->Az
 | .ref a=>a
 | _=>0
def aHM{X:Cx}{a b:Expr}{ta:TA}{p1 p2 pos m:Pos}(hc:X.calm=true)(aj:Gl X "list")(ah:X.mg "list"=none)(ai:Gl X "zip")(aa:X.mg "zip"=none)(ha:PA X [a,b] ta)
  (hs:starEach [a,b] X.env=[(false,eval a X.env),(false,eval b X.env)]:=by rfl) (hs2:starEach [b] X.env=[(false,eval b X.env)]:=by rfl)
  (hs3:starEach [.Call (.Name "zip" p2) [a,b] [] m] X.env=[(false,eval (.Call (.Name "zip" p2) [a,b] [] m) X.env)]:=by rfl) :
  PE X (.Call (.Name "list" p1) [.Call (.Name "zip" p2) [a,b] [] m] [] pos) (tLZ X.K ta):=by
 intro pins s σ H Q I h
 refine CV (jQ I aj ah FN ?_ (by decide) (by decide))
 refine CJ (e:=.Call (.Name "zip" p2) [a,b] [] m) (rest:=[]) ?_ hs3 rfl
 rw[hs3]
 show wpAny _ _ (spliced [(false,eval (.Call (.Name "zip" p2) [a,b] [] m) X.env)]) _ _ s
 refine Calls.spliced_cons ?_
 refine CV (jQ I ai aa FZ (CJ (thn (ha m pins s σ H _ I h) fun us s1 ⟨vs,H1,G,r1,q1⟩=>?_) (by rw[hs,hs2]) (by rw[hs2];rfl)))
 obtain ⟨x,y,C1,C2,xs,ys,rfl,c1,c2,k1,k2,O,q⟩:=q1
 cases r1 with
 | cons ru rr=>
  cases rr with
  | cons rv rr=>
   cases rr
   rename_i u1 _ u2
   obtain ⟨o1,t1,a1,a2,a3,a4⟩:=jC G ru c1
   obtain ⟨o2,t2,b1,b2,b3,b4⟩:=jC G rv c2
   refine Zp.sA (a1 _ fun _ _ e=>e) (b1 _ fun _ _ e=>AE _ e) a2 b2 fun h' z1 z2 z3 z4 z5 z6 kp=>?_
   refine Calls.spliced_nil ?_
   have I2:Inv X pins σ H1 {s1 with heap:=h'}:=G.kept (t':=s1.toks) kp
   have f:∀ c,s1.heap.objs.size<=c->g8 X pins H1 c:=fun c S=>G.fpOk S (G.hok.fresh S)
   have U:X.A.in1.in1.in1.handled=none:=G.ok.hd hc
   obtain ⟨f1,P1,S1,D1,d1,d2,d3,d4⟩:=(a3 s1.heap.objs.size).draw X rfl rfl rfl 0 pins _ σ H1 xs X.A.in1.in1.in1 I2 (f _ (AJ _)) (a4 _ _ z4) k1 U
   obtain ⟨f2,P2,S2,D2,e1,e2,e3,e4⟩:=(b3 (s1.heap.objs.size+1)).draw X rfl rfl rfl 0 pins _ σ H1 ys X.A.in1.in1.in1 I2 (f _ (BO _ _)) (b4 _ _ z5) k2 U
   generalize N:s1.heap.objs.size=l at *
   have ne:∀ i j:Nat,i≠j->l+i≠l+j:=fun i j ad z=>ad (Nat.add_left_cancel z)
   have t:∀ i:Nat,0 < i->l+i≠l:=fun i hi z=>by have:l+i=l+0:=z;have:=Nat.add_left_cancel this;omega
   have D:Zp.Apart (l+4) (l+2) (l+3) l (l+1) f1 f2:=⟨ne _ _ (by decide),ne _ _ (by decide),(t 4 (by decide)).symm,ne _ _ (by decide),ne _ _ (by decide),t 2 (by decide),ne _ _ (by decide),t 3 (by decide),ne _ _ (by decide),(t 1 (by decide)).symm,
    d4 _ (f _ (BO _ _)) (t 4 (by decide)),e4 _ (f _ (BO _ _)) (ne 4 1 (by decide)),d4 _ (f _ (BO _ _)) (t 3 (by decide)),e4 _ (f _ (BO _ _)) (ne 3 1 (by decide)),e4 _ (f _ (AJ _)) (t 1 (by decide)).symm,d4 _ (f _ (BO _ _)) (t 1 (by decide))⟩
   have hsz:({s1 with heap:=h'}:S9).heap.objs.size=l+5:=z6
   refine Zp.aHL (s:={s1 with heap:=h'}) (G.ok.hd hc) D D1 D2 z1 z2 z3 d1 e1 (by rw[hsz];exact d4 _ (f _ (BO _ _)) (t 5 (by decide))) (by rw[hsz];exact e4 _ (f _ (BO _ _)) (ne 5 1 (by decide))) (by rw[hsz];exact Nat.lt_add_of_pos_right (by decide)) (by rw[hsz];exact Nat.add_lt_add_left (by decide) _) O fun h2 tk d c kk hL hn ag C=>?_
   rw[hsz] at hL C ⊢
   have w:∀ (j:Nat) p,(d.toList.map gQ)[j]? = some p->d[j]? = some (.ref p):=fun j p e=>by
    rw[AN,ER] at e
    cases q:d[j]? with
    | none=>rw[q] at e;cases e
    | some v=>
     rw[q] at e
     obtain ⟨p',_,_,rfl,_⟩:=C j v q
     cases e;rfl
   have nd:(d.toList.map gQ).Nodup:=aFA fun j k p q af ep eq=>ag j k p q af (w j p ep) (w k q eq)
   have ak:(d.toList.map gQ).map (fun p=>V.ref p)=(d.toList.map gQ).map V.ref:=rfl
   have pt:∀ (j:Nat) p,(d.toList.map gQ)[j]? = some p->l+5 < p/\∃ u v x y,xs[j]? = some u/\ys[j]? = some v/\aY u x/\aY v y/\IsPair h2 p x y/\zH H1 (l+5) (d.toList.map gQ) xs ys p=some (.tup [u,v]):=fun j p e=>by
    obtain ⟨p',Z,y',e0,B,Y,g3,g4⟩:=C j _ (w j p e)
    cases e0
    obtain ⟨u,R,J⟩:=d3 j Z g3
    obtain ⟨v,T,L⟩:=e3 j y' g4
    refine ⟨B,u,v,Z,y',R,T,J,L,Y,?_⟩
    unfold zH
    rw[if_neg (C3 B),if_pos (AU e)]
    have P:(d.toList.map gQ).idxOf p=j:=by
     obtain ⟨hl,he⟩:=AG.mp e
     rw[<-he];exact nd.idxOf_getElem j hl
    rw[P,R,T]
   have out:∀ b,b < l->zH H1 (l+5) (d.toList.map gQ) xs ys b=H1 b:=fun b W=>by
    unfold zH
    rw[if_neg (aCX W 5),if_neg]
    intro hm
    obtain ⟨j,P⟩:=BR hm
    exact aQ6 W (pt j b P).1
   have ae:∀ b o,H1 b=some o->b < l:=fun b o e=>by
    rcases HN b l with z|z
    .exact z
    .rw[(f b z).1] at e;cases e
   have F:∀ b o,s1.heap.get? b=some o->h2.get? b=some o:=fun b o e=>by
    have E:b < l:=by rw[<-N];exact AK e
    exact kk b o (aCX E 4) (aCX E 3) (A2 E) (aCX E 1) (kp b o e)
   have r:LZ H1 (zH H1 (l+5) (d.toList.map gQ) xs ys) xs ys (l+5) (d.toList.map gQ):=⟨fun b o e=>by rw[out b (ae b o e)];exact e,(f _ (BO _ _)).1,by unfold zH;rw[if_pos rfl],by rw[AC,DD];exact hn,fun j p e=>by
    obtain ⟨B,u,v,_,_,R,T,_,_,_,g⟩:=pt j p e
    exact ⟨(f p (aQ5 B)).1,u,v,R,T,g⟩⟩
   refine ⟨.ref (l+5),_,G.un (t':=tk) ⟨fun b u q _ _ _=>F b u q,fun b u q _ _ _=>⟨u.slots,F b u q⟩,fun b u q n _=>by rw[out b (by rw[<-N];exact AK q)];exact n,fun b u q _=>⟨u,F b u q⟩,fun b zs q=>r.same _ _ q,fun b o u q=>r.same _ _ q,fun b zs q=>r.same _ _ q⟩ fun b u e=>?_,rfl,q _ _ _ r⟩
   by_cases W:b=l+5
   .subst W
    rw[r.lst] at e
    cases e
    refine ⟨by rw[AC,r.len];exact A6 (E7 _ _) O,d.toList,c,?_,by simpa using hL⟩
    refine uJ (by rw[AC,AC]) fun j x y B Y=>?_
    rw[AN] at B
    cases g:(d.toList.map gQ)[j]? with
    | none=>rw[g] at B;cases B
    | some p=>
     rw[g] at B
     cases B
     have:=w j p g
     rw[<-Array.getElem?_toList,Y] at this
     cases this
     rfl
   .by_cases hm:b∈d.toList.map gQ
    .obtain ⟨j,P⟩:=BR hm
     obtain ⟨B,u',v',Z,y',R,T,J,L,Y,g⟩:=pt j b P
     rw[g] at e
     cases e
     exact ⟨by show 2<=sizeLine;decide,[Z,y'],.cons J (.cons L .nil),⟨_,Y,rfl,_,rfl⟩⟩
    .have ac:H1 b=some u:=by unfold zH at e;rw[if_neg W,if_neg hm] at e;exact e
     exact (G.hok b u ac).stay (fun c' v' _ M=>F c' v' M) (fun c' M=>r.same _ _ M) (fun c' zs M=>r.same _ _ M) fun c' zs M=>r.same _ _ M
end L2
namespace Fl
open PySem L2 PyProof.Rows
section
variable{X:Cx}{c:Ct}{E:XK}{e:Expr}
theorem wP{K:Frag}{a:Hp}:∀ {us vs:List V} {xs ys:List D9} {ps:List Az},DatVs K a us xs->DatVs K a vs ys->ps.length=min us.length vs.length->(∀ (j:Nat) p,ps[j]? = some p->∃ u v,us[j]? = some u/\vs[j]? = some v/\a p=some (.tup [u,v]))->DatVs K a (ps.map .ref) ((xs.zip ys).map aCS)
 | [],_,_,_,ps,.nil,_,h,_=>by
  have:ps=[]:=FG.mp (by simpa using h)
  subst this
  exact .nil
 | _::_,[],_,_,ps,.cons _ _,.nil,h,_=>by
  have:ps=[]:=FG.mp (by simpa using h)
  subst this
  exact .nil
 | u::us,v::vs,x::xs,y::ys,ps,.cons r1 t1,.cons r2 t2,h,hp=>by
  cases ps with
  | nil=>simp at h
  | cons p ps=>
   obtain ⟨b,c,e1,e2,e3⟩:=hp 0 p rfl
   simp only[BC,G9] at e1 e2
   subst e1 e2
   exact .cons (.tup (SqT.of e3) (.cons r1 (.cons r2 .nil))) (wP t1 t2 (by simp at h ⊢;omega) fun j q e=>by
    obtain ⟨b,c,f,d,g⟩:=hp (j+1) q (by simpa using e)
    exact ⟨b,c,by simpa using f,by simpa using d,g⟩)
def aHN{f g:Sg->R D9}(I:X.K=c.K)(h:PE X e (tLZ X.K (cT (tV (aZ c) c E f) (cT (tV (aZ c) c E g) fO)))):PN X c E e (e2 jD f g):=PE.imp h fun σ H Q t=>by
 obtain ⟨ρ,F,ab,k⟩:=t
 refine ⟨ρ,F,ab,(Rk.bind k).imp fun x _ q v O H1 s1 r1=>⟨ρ,O,ab.ext s1,((Rk.bind q).ext s1).imp fun y _ q w d H' s r=>?_⟩⟩
 unfold jD at q
 cases e1:bA x with
 | bad=>rw[e1] at q;exact q.elim
 | ex e=>exact absurd e1 gE
 | ok xs=>
  rw[e1] at q
  cases e2:bA y with
  | bad=>rw[R.bind_ok,e2] at q;exact q.elim
  | ex e=>exact absurd e2 gE
  | ok ys=>
   rw[R.bind_ok,e2] at q
   have m:aU c.K d H' v x:=aU.ext s r1
   obtain ⟨V,us,J,P,B⟩:=nH s.fh m e1
   obtain ⟨S,vs,N,M,T⟩:=nH s.fh r e2
   rw[I]
   refine ⟨v,w,V,S,us,vs,rfl,J,N,P H' (bK _),M H' (bK _),by rw[B.length,cV];exact jZ e1,fun l ps H2 L=>?_⟩
   have G:l∉ps:=fun a=>by
    obtain ⟨j,i⟩:=BR a
    obtain ⟨_,A,u,_,_,z⟩:=L.tup j l i
    rw[L.lst] at z;cases z
   have C:∀ b,d b≠none->b∉ps:=fun b D a=>by
    obtain ⟨j,i⟩:=BR a
    exact D (a9 s.fh (L.tup j b i).1)
   have ex:Ext d H' (fun b=>if b∈ps then H2 b else d b) H2:=⟨L.same,fun b o z=>by
     show (if b∈ps then H2 b else d b)=some o
     rw[if_neg (C b (by rw[z];exact fun w=>nomatch w))];exact z,fun b o z=>by
     have z:(if b∈ps then H2 b else d b)=some o:=z
     by_cases a:b∈ps
     .rw[if_pos a] at z;exact z
     .rw[if_neg a] at z;exact L.same b o (s.fh b o z),fun b z n=>by
     have n:(if b∈ps then H2 b else d b)≠none:=n
     by_cases a:b∈ps
     .obtain ⟨j,i⟩:=BR a
      exact .inl (L.tup j b i).1
     .rw[if_neg a] at n;exact absurd z n⟩
   refine Rk.ok q _ _ H2 ((s1.trans s).trans ex) ⟨l,ps.map .ref,rfl,a9 (s1.trans s).hh L.new,L.lst,?_,wP (B.same ex.ff) (T.same ex.ff) L.len fun j p i=>?_⟩
   .show (if l∈ps then H2 l else d l)=none
    rw[if_neg G];exact a9 s.fh L.new
   .obtain ⟨_,A,u,h1,h2,U⟩:=L.tup j p i
    exact ⟨A,u,h1,h2,by show (if p∈ps then H2 p else d p)=_;rw[if_pos (AU i)];exact U⟩
end
end Fl
namespace HT
open PySem PySem.Spec PyProof.Rows L2
def lt2(i j:Int)(x y:Str):Bool:=if i=j then (if x=y then false else decide (x.cps.toList < y.cps.toList)) else decide (i < j)
section
open PySem.SeqAt
open PySem.AutoSeq1 (wpAny_loadPart')
open PySem.MeetsSeq PySem.MeetsSeq2 PySem.MeetsSeq3
def aPW(A:Around)(s:S9)(a:Int)(t:Tok)(c:Int)(u:Tok)(prog:Program)(w:World)(E:V9->S9->Prop)(Q:V9->S9->Prop)(h:Q (.bool (decide (a < c))) s) :
  wpAny (model prog w) A (richCompare .Lt (.int a t) (.int c u)) Q E s:=
 (PyProof.Rows.lt_int h:wpAny (model prog w) A (compareOp .Lt (.int a t) (.int c u)) Q E s)
def aPX(A:Around)(s:S9)(a:Str)(t:Tok)(c:Str)(u:Tok)(prog:Program)(w:World)(E:V9->S9->Prop)(Q:V9->S9->Prop)(h:Q (.bool (decide (a.cps.toList < c.cps.toList))) s) :
  wpAny (model prog w) A (richCompare .Lt (.str a t) (.str c u)) Q E s:=
 (PySem.P.lt_str h:wpAny (model prog w) A (compareOp .Lt (.str a t) (.str c u)) Q E s)
def wX(l b:Az)(n n2:Nat)(dd E:Option Az)(sl C:Array (Option V9))(i j:Int)(x y:Str)(B r z p:Tok) :
  Meets (Builtin.«tuple.__lt__» ⟨[.ref l,.ref b],[]⟩)
   (fun _ R s=>s.heap.get? l=some {cls:=.type "tuple",dict:=dd,data:=.seq #[.int i B,.str x r] n,slots:=sl}/\s.heap.get? b=some {cls:=.type "tuple",dict:=E,data:=.seq #[.int j z,.str y p] n2,slots:=C} /\
    R (.ok (.ret (.bool (lt2 i j x y)))) s):=
 .of_wp fun prog w A R s h=>by
  obtain ⟨t,g,d,tk,os⟩:=s;obtain ⟨F,G,h⟩:=h
  have f2:=AutoSeq1.sub_tuple_tuple
  wp_walk using wpAny_loadPart' F,HR G,wpAny_forIn_list _ (fun rest b s'=>b.1=none/\s'=(⟨t,g,d,tk,os⟩:S9)/\(rest=[((Value.int i B,Value.int j z):V9×V9),(Value.str x r,Value.str y p)]\/(rest=[((Value.str x r,Value.str y p):V9×V9)]/\i=j)\/(rest=[]/\i=j/\x=y))) _
  case turn=>
   rintro ⟨u,v⟩ rest b s' ⟨hb',rfl,c⟩
   rcases c with c|⟨c,a⟩|⟨c,_⟩
   .injection c with h1 h2
    injection h1 with h3 h4
    subst h3 h4 h2
    obtain ⟨e,D,m⟩:=aGF A.in1 ⟨t,g,d,tk,os⟩ i B j z
    refine AB (D prog w _ _ ?_)
    cases e with
    | true=>
     have a:=m.mp rfl
     wp_walk
     exact ⟨rfl,rfl,.inr (.inl ⟨rfl,a⟩)⟩
    | false=>
     have a:¬ i=j:=fun q=>absurd (m.mpr q) A0
     have o:=aPW A.in1 ⟨t,g,d,tk,os⟩ i B j z prog w
     wp_walk using o
     exact ⟨_,rfl,by simpa[lt2,a] using h⟩
   .injection c with h1 h2
    injection h1 with h3 h4
    subst h3 h4 h2
    have D:SeqAt.EqAt A.in1 (⟨t,g,d,tk,os⟩:S9) (.str x r) (.str y p) (x == y):=SeqAt.EqAt.str_str x r y p
    refine AB (D prog w _ _ ?_)
    cases k:(x == y) with
    | true=>
     have f:x=y:=by simpa using k
     wp_walk
     exact ⟨rfl,rfl,.inr (.inr ⟨rfl,a,f⟩)⟩
    | false=>
     have f:¬ x=y:=by simpa using k
     have o:=aPX A.in1 ⟨t,g,d,tk,os⟩ x r y p prog w
     wp_walk using o
     exact ⟨_,rfl,by simpa[lt2,a,f] using h⟩
   .cases c
  case fin=>
   rintro ⟨b1,b2⟩ s' ⟨hb',rfl,c⟩
   simp only at hb'
   subst hb'
   rcases c with c|⟨c,_⟩|⟨_,a,k⟩
   .cases c
   .cases c
   .wp_walk
    exact ⟨_,rfl,by simpa[Builtin.Tuple.tupleCompareSizes,lt2,a,k] using h⟩
  case h=>exact ⟨rfl,rfl,.inl rfl⟩
end
def aCY{prog:Program}{w:World}{A:Around}{E:V9->S9->Prop}{s:S9}{l b:Az}{i j:Int}{x y:Str}{t q o k:Tok}{Q:V9->S9->Prop}(v:IsTup s.heap l #[.int i t,.str x q])(z:IsTup s.heap b #[.int j o,.str y k])
  (B:A.units < cLine) (h:Q (.bool (lt2 i j x y)) s):wpAny (model prog w) A (compareOp .Lt (.ref l) (.ref b)) Q E s:=by
 obtain ⟨⟨cls,dd,data,sl⟩,u,r,n,p⟩:=id v
 obtain ⟨⟨m,g,f,e⟩,d,a,n2,c⟩:=id z
 simp only at r p a c
 subst r p a c
 exact richCompare_meets_room (op:=.Lt) ⟨_,u,rfl⟩ ⟨_,d,rfl⟩ PySem.F.slot_tuple_lt PySem.F.entry_tuple_lt (PySem.F.args_tuple_lt_2 _ _) (wX l b n n2 dd g sl e i j x y t q o k)
  ⟨u,d,show Value.bool (lt2 i j x y)≠Value.notImplemented/\Q (.bool (lt2 i j x y)) s from ⟨(fun x=>nomatch x),h⟩⟩ B
end HT
namespace Fl
open PySem L2 PyProof.Rows
def vB:D9->D9->R D9
 | .tuple [.int i,.str x],.tuple [.int j,.str y]=>.ok (.bool (HT.lt2 i j x y))
 | _,_=>.bad
def aFB:cJ vB:=by
 intro a b e h
 unfold vB at h
 split at h<;>cases h
def aKZ{X:Cx}{c:Ct}(r:X.K=c.K)(P:X.A.units+64 < cLine):OpR X (compareOp .Lt) (r2D (aZ c) (aZ c) (bW c) vB):=by
 intro pins s σ H v u x y Q I m p h
 obtain ⟨M,H1,F,a,b,d,f,n,C,e,q⟩:=h
 unfold vB at e
 split at e
 .rename_i i z j w
  cases e
  obtain ⟨N,vs,rfl,G,l,B⟩:=aU.tup_of f n
  obtain ⟨J,us,rfl,fb,k,t⟩:=aU.tup_of f C
  rw[<-r] at l k
  obtain rfl:=aA0 B
  obtain rfl:=aA0 t
  cases m
  cases p
  obtain ⟨D,r1,o,_⟩:=I.tuple l
  obtain ⟨g,r2,p2,_⟩:=I.tuple k
  cases r1 with
  | cons k1 r1=>cases r1 with
   | cons k2 r1=>cases r1 with
    | nil=>
     cases r2 with
     | cons k3 r2=>cases r2 with
      | cons k4 r2=>cases r2 with
       | nil=>
        obtain ⟨R,rfl⟩:=k1
        obtain ⟨L,rfl⟩:=k2
        obtain ⟨E,rfl⟩:=k3
        obtain ⟨O,rfl⟩:=k4
        exact HT.aCY o p2 (by omega) ⟨.bl _,H,I,rfl,q _ F H (Ext.refl f) (.bl _)⟩
 .cases e
end Fl
namespace L2
open PySem PySem.Spec PyProof.Rows
def y3{X:Cx}:gG X (.type "range") (fun xs H Q=>∃ a b:Int,xs=[.int a,.int b]/\∀ p,H p=none->Q (.ref p) (upd H p (.rng a b))):=by
 intro pins s σ H xs us Q I r h
 obtain ⟨a,b,rfl,q⟩:=h
 obtain ⟨u,v,rfl,⟨t,rfl⟩,⟨c,rfl⟩⟩:=qF r
 refine call_range_2 ?_
 refine ⟨.ref s.heap.objs.size,_,I.laid (o:=.rng a b) (fun b d q=>AE _ q) (AJ _) ⟨_,_,_,AT _ rfl⟩,rfl,q _ (I.hok.fresh (AJ _))⟩
def vC{X:Cx}(C:X.calm=true):gG X (.type "list") (fun xs H Q=>∃ (p:Az) (a b:Int),xs=[.ref p]/\H p=some (.rng a b)/\0<=a/\a<=b/\b<=1000000/\∀ l,H l=none->Q (.ref l) (upd H l (.lst ((List.range (b - a).toNat).map fun i:Nat=>V.int (a+(i:Int)))))):=by
 intro pins s σ H xs us Q I r h
 obtain ⟨p,a,b,rfl,B,h0,f,F,q⟩:=h
 obtain ⟨u,rfl,m⟩:=nV r
 cases (show u=Value.ref p from m)
 obtain ⟨t,u,v,g⟩:=(show b8 X.prog X.w H s.heap p (.rng a b) from I.hok p _ B)
 refine call_list_range (a:=a) (b:=b) (c:=1) (n:=(b - a).toNat) (I.ok.hd C) g (small_one (by omega) (by omega) (by omega) (by omega)) (by rw[rangeSize_one];split<;>omega) (by omega) fun h' tk d c j e it=>?_
 have A:bB ((List.range (b - a).toNat).map fun i:Nat=>V.int (a+(i:Int))) d.toList:=by
  refine uJ (by rw[AC,BH,DD,it.1]) fun i x y h1 h2=>?_
  rw[AN] at h1
  cases e':(List.range (b - a).toNat)[i]? with
  | none=>rw[e'] at h1;cases h1
  | some k=>
   rw[e'] at h1
   cases h1
   have z:k=i:=by
    obtain ⟨E,D⟩:=AG.mp e'
    rw[<-D];simp
   obtain ⟨t',rfl⟩:=it.2 i y (by rw[<-h2,ER])
   refine ⟨t',?_⟩
   rw[z,show a+(i:Int) * 1=a+(i:Int) by omega]
 refine ⟨.ref s.heap.objs.size,_,I.laid (t':=tk) (o:=.lst ((List.range (b - a).toNat).map fun i:Nat=>V.int (a+(i:Int)))) j (AJ _) ⟨by simp only[AC,BH];exact A6 (by omega:(b - a).toNat<=1000000) (by decide),d.toList,c,A,by simpa using e⟩,rfl,q _ (I.hok.fresh (AJ _))⟩
end L2
namespace Fl
open PySem L2 PyProof.Rows
def aCZ:D9->D9->R (List D9)
 | .int a,.int b=>if 0<=a/\a<=b/\b<=1000000 then .ok ((List.range (b - a).toNat).map fun i:Nat=>.int (a+(i:Int))) else .bad
 | _,_=>.bad
section
variable{X:Cx}{c:Ct}{E:XK}{e:Expr}
theorem rF{K:Frag}{F:Hp}(a:Int):∀ (xs:List Nat),DatVs K F (xs.map fun i:Nat=>V.int (a+(i:Int))) (xs.map fun i:Nat=>PyData.int (a+(i:Int)))
 | []=>.nil
 | x::xs=>.cons (.int _) (rF a xs)
def aFC{f g:Sg->R D9}(h:PE X e (tCB (fun xs H Q=>∃ (p:Az) (a b:Int),xs=[.ref p]/\H p=some (.rng a b)/\0<=a/\a<=b/\b<=1000000/\∀ l,H l=none->Q (.ref l) (upd H l (.lst ((List.range (b - a).toNat).map fun i:Nat=>V.int (a+(i:Int))))))
  (cT (tCB (fun xs H Q=>∃ a b:Int,xs=[.int a,.int b]/\∀ p,H p=none->Q (.ref p) (upd H p (.rng a b))) (cT (tV (aZ c) c E f) (cT (tV (aZ c) c E g) fO))) fO))):PN X c E e (e2 aCZ f g):=PE.imp h fun σ H Q ⟨ρ,F,ab,k⟩=>by
 refine ⟨ρ,F,ab,(Rk.bind k).imp fun d t q v w H1 s1 r1=>?_⟩
 refine ⟨ρ,w,ab.ext s1,((Rk.bind q).ext s1).imp fun d2 o j x m H2 s r2=>?_⟩
 clear t o
 unfold aCZ at j
 split at j
 .rename_i a b
  split at j
  .rename_i r
   obtain rfl:=aU.int_of r1
   obtain rfl:=aU.int_of r2
   refine ⟨a,b,rfl,fun p u=>?_⟩
   refine ⟨p,a,b,rfl,aT,r.1,r.2.1,r.2.2,fun l n=>?_⟩
   have e1:Ext m H2 m (upd H2 p (.rng a b)):=Ext.own s.fh u
   have e2:Ext m _ m (upd (upd H2 p (.rng a b)) l (.lst ((List.range (b - a).toNat).map fun i:Nat=>V.int (a+(i:Int))))):=Ext.own e1.fh n
   exact Rk.ok j _ m _ (((s1.trans s).trans e1).trans e2) ⟨l,_,rfl,a9 s1.hh (a9 s.hh (a9 e1.hh n)),aT,a9 e1.fh n,rF a _⟩
  .exact j.elim
 .exact j.elim
end
end Fl
namespace Mc
open PySem L2 PyProof.Rows Fl
def pK:Sg->R Fw:=(aP (eF 3 (fC (aB (eV 0) aR)))
 (aP (tO 4 (tN (eV 0) (eC (.int 0)) yP))
 (aP (eF 5 (fC aR))
 (aP (cC (oC (e1 asB (e2 dLt (e1 dLen (rV 5)) (e1 dLen (rV 3)))) (iU (e1 asB (tQ 12 2 (aB (rV 3) (aB (e1 dLen (rV 5)) aR)))))) (aP (eF 6 (fC aR))
 (aP (iI (e1 bA (r0 12 1 (aB (e2 dIx (rV 3) (e1 dLen (rV 5))) aR))) (stN 7) (aP (sIf (e1 asB (j9 true 4 (eV 7))) (aP (k8 4 (eV 7) (e1 dLen (rV 3)))
 (iG 3 (eV 7))) sNx)
 (iG 6 (jY 4 (eV 7)))))
 (iG 5 (e1 dTup (rV 6))))))
 (sFz 5 (sFz 3 (bU (vD (dZ (aB (eV 3) (aB (eV 5) aR)))))))))))
def jN:List A->R A:=fnF 8 pK
def aFD:Sg->R Fw:=(bU (vD (e1 (iV "str") (rV 0))))
def wQ:List A->R A:=fnF 1 aFD
def aFE:Sg->R Fw:=(aP (qK 3)
 (aP (cC (iU (e1 asB (eA (bM 1 wQ (aB (vV 2) aR))))) (aP (sIf (e1 asB (j9 false 3 (eV 2))) (bU (vD (eC (.str "ever")))) sNx)
 (aP (k8 3 (eV 2) (eC (.bool true)))
 (aP (cB 4 (vD (e2 dIx (rV 1) (rV 2))))
 (aP (sIf (e1 asB (e2 dEq (e2 dIx (rV 4) (eC (.int 1))) (eC (.int 1)))) (bU (vD (e2 dIx (rV 4) (eC (.int 0))))) sNx)
 (cB 2 (vD (e2 dIx (rV 0) (e2 dIx (rV 4) (eC (.int 0)))))))))))
 (bU (vV 2))))
def wR:List A->R A:=fnF 5 aFE
def aHO:Sg->R Fw:=(aP (cB 2 (bM 3 wR (aB (vD (e2 dIx (rV 0) (eC (.int 1)))) (aB (vV 1) (aB (vD (e2 dIx (rV 0) (eC (.int 0)))) aR)))))
 (aP (cB 3 (vD (e1 dTup (eL (i4 [none,some 0,some 1] (lG (e1 dLen (rV 1))) (stN 0) l0 (eA (bM 3 wR (aB (vD (e2 dIx (rV 1) (eC (.int 1)))) (aB (vV 2) (aB (vV 0) aR))))))))))
 (bU (vD (dZ (aB (eV 2) (aB (eV 3) aR)))))))
def aHP:List A->R A:=fnF 4 aHO
def oK:Sg->R Fw:=(bU (vD (e1 dLen (e2 dIx (e2 dIx (rV 0) (eC (.int 0))) (eC (.int 0))))))
def dN:List A->R A:=fnF 1 oK
def stF:Sg->R Fw:=(xB 2 (eV 6) (dZ (aB (eV 3) (aB (eV 5) aR))))
def stO:Sg->R Fw:=(iI (e2 jD (eC (.str "abc")) (eV 4)) (stT [(stN 5),(stN 6)]) stF)
def stQ:Sg->R Bool:=(e1 asB (e2 dNe (rV 1) (eC (.int 0))))
def stW:Sg->R Fw:=(aP (iG 7 (e2 dIx (jY 2 (eV 1)) (eC (.int 1))))
 (cB 1 (vD (e2 dIx (jY 2 (eV 1)) (eC (.int 0))))))
def oM:Sg->R Fw:=(aP (qK 2) (aP (iI (e1 j3 (eV 0)) (stT [(stN 3),(stN 4)]) stO) (aP (eF 7 (fC aR)) (aP (cC stQ stW) (aP (aCT 7) (bU (vD (e2 aCL (eC (.str "")) (rV 7)))))))))
def j4:List A->R A:=fnF 8 oM
def d0:Sg->R Fw:=(bU (vD (r0 11 2 (aB (e2 dIx (rV 0) (rV 1)) aR))))
def k9:Sg->R Fw:=(aP (cB 3 (l6 [2] 3 jN (aB (vV 0) (aB (vV 1) (aB (uZ [2] 12 2 (hU 3 d0)) aR)))))
 (aP (cB 4 (vD (e2 dIx (rV 3) (eC (.int 0)))))
 (aP (cB 5 (vD (e2 dIx (rV 3) (eC (.int 1)))))
 (bU (vD (dZ (aB (eV 4) (aB (eIf (e1 asB (e2 dEq (e1 dLen (rV 5)) (e1 dLen (rV 4)))) (eC .none) (eA (bM 2 j4 (aB (vV 5) (aB (vD (e1 dLen (rV 5))) aR))))) aR))))))))
def eG:List A->R A:=fnF 6 k9
def l8:Sg->R Fw:=(bU (vD (eL (e2 jD (e2 dIx (e2 dIx (rV 0) (eC (.int 0))) (e2 dIx (rV 2) (eC (.int 0)))) (e2 dIx (e2 dIx (rV 1) (eC (.int 0))) (e2 dIx (rV 2) (eC (.int 1))))))))
def eM:List A->R A:=fnF 3 l8
def mU:Sg->R Fw:=(bU (vD (e2 dEq (e2 dIx (e2 dIx (rV 0) (eC (.int 1))) (e2 dIx (rV 2) (eC (.int 0)))) (e2 dIx (e2 dIx (rV 1) (eC (.int 1))) (e2 dIx (rV 2) (eC (.int 1)))))))
def eX:List A->R A:=fnF 3 mU
def eP:Sg->R Fw:=(bU (bM 3 eM (aB (vV 1) (aB (vV 2) (aB (vV 0) aR)))))
def eB:Sg->R Fw:=(bU (vD (aGZ (eA (bM 3 eX (aB (vV 1) (aB (vV 2) (aB (vV 0) aR))))))))
def sH:Sg->R Fw:=(aP (xA 3 "parted.<locals>.after")
 (aP (xA 4 "parted.<locals>.unlike")
 (bU (l6 [0,1] 3 eG (aB (vV 2) (aB (tS "parted.<locals>.after" [0,1] 2 1 (hU 3 eP) 3) (aB (tS "parted.<locals>.unlike" [0,1] 2 1 (hU 3 eB) 4) aR)))))))
def jE:List A->R A:=fnF 5 sH
def pL:Sg->R Fw:=(aP (sIf (e1 asB (e2 dNe (eA (bM 1 dN (aB (vV 0) aR))) (eA (bM 1 dN (aB (vV 1) aR))))) (uY "NotLike" (aB (eC (.str "not as many signs")) aR)) sNx)
 (aP (cB 2 (bM 3 jE (aB (vV 0) (aB (vV 1) (aB (vD (dZ (aB (eC (.int 0)) (aB (eC (.int 0)) aR)))) aR)))))
 (aP (sIf (e1 asB (e2 dIs (e2 dIx (rV 2) (eC (.int 1))) (eC .none))) (bU (vD (dZ (aB (eC (.str "alike")) (aB (e2 dIx (rV 2) (eC (.int 0))) aR))))) sNx)
 (bU (vD (dZ (aB (eC (.str "unlike")) (aB (e2 dIx (rV 2) (eC (.int 1))) aR))))))))
def gR:List A->R A:=fnF 3 pL
def mV:Sg->R Fw:=(bU (vD (pB (eCh dLe dLt (eC (.int 0)) (e2 dIx (rV 2) (eC (.int 0))) (e1 dLen (e2 dIx (rV 0) (eC (.int 0))))) (eCh dLe dLt (eC (.int 0)) (e2 dIx (rV 2) (eC (.int 1))) (e1 dLen (e2 dIx (rV 1) (eC (.int 0))))))))
def iZ:List A->R A:=fnF 3 mV
end Mc
namespace Mc
open PySem L2 PyProof.Rows
def w4.take{sg:Nat}{z:List Nat}(S:w4 sg z)(i:Nat):w4 sg (z.take i):=⟨by rw[BS];have:=S.1;omega,fun c a=>S.2 c (GH a)⟩
end Mc
namespace Fl
open PySem L2 PyProof.Rows
@[simp] theorem i5(d:D9)(ρ:Sg):eC d ρ=.ok d:=id rfl
@[simp] theorem oN{α β:Type}(g:α->R β)(f:Sg->R α)(ρ:Sg):e1 g f ρ=(f ρ).bind g:=id rfl
@[simp] theorem kI{α β γ:Type}(g:α->β->R γ)(f:Sg->R α)(a:Sg->R β)(ρ:Sg):e2 g f a ρ=(f ρ).bind fun x=>(a ρ).bind fun y=>g x y:=id rfl
@[simp] theorem xC(i:Nat)(ρ:Sg):eV i ρ=match ρ[i]? with|some (some (.d x))=>.ok x|_=>.bad:=id rfl
@[simp] theorem kJ(i:Nat)(ρ:Sg):rV i ρ=match ρ[i]? with|some (some (.d x))=>.ok x|some (some (.l xs))=>.ok (.list xs)|_=>.bad:=id rfl
@[simp] theorem qO(i:Nat)(ρ:Sg):vV i ρ=match ρ[i]? with|some (some (.d x))=>.ok (.d x)|some (some (.x e))=>.ok (.x e)|some (some (.g k n f))=>.ok (.g k n f)|some (some (.f kvs))=>.ok (.f kvs)|_=>.bad:=id rfl
@[simp] theorem lA(f:Sg->R D9)(ρ:Sg):vD f ρ=(f ρ).bind fun x=>.ok (.d x):=id rfl
@[simp] theorem nJ(x:D9):getD (.d x)=.ok x:=id rfl
@[simp] theorem qP(f:Sg->R A)(ρ:Sg):eA f ρ=(f ρ).bind getD:=id rfl
@[simp] theorem aC0(f:Sg->R (List D9))(ρ:Sg):eL f ρ=(f ρ).bind fun xs=>.ok (.list xs):=id rfl
@[simp] theorem gB{α:Type}(ρ:Sg):(aR (α:=α)) ρ=.ok []:=id rfl
@[simp] theorem fQ{α:Type}(f:Sg->R α)(g:Sg->R (List α))(ρ:Sg):aB f g ρ=(f ρ).bind fun x=>(g ρ).bind fun xs=>.ok (x::xs):=id rfl
@[simp] theorem aBI(f:Sg->R (List D9))(ρ:Sg):dZ f ρ=(f ρ).bind fun xs=>if xs.length<=16777216 then .ok (.tuple xs) else .bad:=id rfl
@[simp] theorem lJ(f:Sg->R (List D9))(ρ:Sg):fC f ρ=(f ρ).bind fun xs=>if xs.length<=16777216 then .ok xs else .bad:=id rfl
@[simp] theorem kB(n:Nat)(G:List A->R A)(f:Sg->R (List A))(ρ:Sg):bM n G f ρ=(f ρ).bind fun as=>if as.length=n then G as else .bad:=id rfl
@[simp] theorem pM(n:Nat)(fb:Sg->R Fw)(b:List A):fnF n fb b=(fb (b.map some++List.replicate (n - b.length) none)).bind fun w=>match w with | .rt (.l _)=>.bad | .rt a=>.ok a | .nx _=>.ok (.d .none)|_=>.bad:=id rfl
@[simp] theorem tW(ρ:Sg):sNx ρ=.ok (.nx ρ):=id rfl
@[simp] theorem cO(f g:Sg->R Fw)(ρ:Sg):aP f g ρ=(f ρ).bind fun w=>match w with | .nx ρ'=>g ρ'|w=>.ok w:=id rfl
@[simp] theorem aBJ(f:Sg->R A)(ρ:Sg):bU f ρ=(f ρ).bind fun a=>.ok (.rt a):=id rfl
@[simp] theorem aQ7(ρ:Sg):aPP ρ=.ok (.rt (.d .none)):=id rfl
@[simp] theorem pN(t:Sg->R Bool)(f g:Sg->R Fw)(ρ:Sg):sIf t f g ρ=(t ρ).bind fun b=>if b=true then f ρ else g ρ:=id rfl
@[simp] theorem aSF{α:Type}(t:Sg->R Bool)(f g:Sg->R α)(ρ:Sg):eIf t f g ρ=(t ρ).bind fun b=>if b=true then f ρ else g ρ:=id rfl
@[simp] theorem lK(i:Nat)(f:Sg->R A)(ρ:Sg):cB i f ρ=(f ρ).bind fun a=>.ok (.nx (ρ.set i (some a))):=id rfl
@[simp] theorem oO(i:Nat)(f:Sg->R (List D9))(ρ:Sg):eF i f ρ=(f ρ).bind fun xs=>.ok (.nx (ρ.set i (some (.l xs)))):=id rfl
@[simp] theorem aQ8(f:Sg->R A)(ρ:Sg):aIV f ρ=(f ρ).bind fun _=>.ok (.nx ρ):=id rfl
@[simp] theorem aSG(i:Nat)(f:Sg->R Fw)(ρ:Sg):sFz i f ρ=f (fz i ρ):=id rfl
@[simp] theorem aS3(i:Nat)(ρ:Sg):fz i ρ=match ρ[i]? with|some (some (.l xs))=>ρ.set i (some (.d (.list xs)))|_=>ρ:=id rfl
@[simp] theorem aBK(i:Nat)(f:Sg->R D9)(ρ:Sg):iG i f ρ=match ρ[i]? with|some (some (.l xs))=>(f ρ).bind fun x=>if xs.length < 16777216 then .ok (.nx (ρ.set i (some (.l (xs++[x]))))) else .bad|_=>.bad:=id rfl
@[simp] theorem aRV(fs:D9->Sg->Option Sg)(f:Sg->R D9)(ρ:Sg):aCM fs f ρ=(f ρ).bind fun x=>(rU (fs x ρ)).bind fun ρ'=>.ok (.nx ρ'):=id rfl
@[simp] theorem qQ(a:Sg->R (List D9))(fs:D9->Sg->Option Sg)(fb:Sg->R Fw)(ρ:Sg):iI a fs fb ρ=(a ρ).bind fun xs=>fH fs fb xs ρ:=id rfl
@[simp] theorem aQ9(js:List (Option Nat))(a:Sg->R (List D9))(fs:D9->Sg->Option Sg)(ft:Sg->R Bool)(fe:Sg->R D9)(ρ:Sg):i4 js a fs ft fe ρ=(a ρ).bind fun xs=>compL fs ft fe (jA js ρ) xs:=id rfl
@[simp] theorem aQE(cn:Str)(fs:List Str)(f:Sg->R (List D9))(ρ:Sg):aNC cn fs f ρ=(f ρ).bind fun xs=>if xs.length=fs.length then .ex ⟨cn,fs.zip xs⟩ else .bad:=id rfl
@[simp] theorem aSH(i:Nat)(x:D9)(ρ:Sg):stN i x ρ=some (ρ.set i (some (.d x))):=id rfl
@[simp] theorem aSI(fs:List (D9->Sg->Option Sg))(xs:List D9)(ρ:Sg):stT fs (.tuple xs) ρ=stL fs xs ρ:=id rfl
@[simp] theorem aRW(ρ:Sg):stL [] [] ρ=some ρ:=id rfl
@[simp] theorem aRA(f:D9->Sg->Option Sg)(fs:List (D9->Sg->Option Sg))(x:D9)(xs:List D9)(ρ:Sg):stL (f::fs) (x::xs) ρ=(f x ρ).bind (stL fs xs):=id rfl
@[simp] theorem aK0(ρ:Sg):l0 ρ=.ok true:=id rfl
@[simp] theorem pO(b:Bool):asB (.bool b)=.ok b:=id rfl
@[simp] theorem aRX(f:Sg->R Bool)(ρ:Sg):iU f ρ=(f ρ).bind fun b=>.ok (!b):=id rfl
@[simp] theorem aRY(f g:Sg->R Bool)(ρ:Sg):oC f g ρ=(f ρ).bind fun b=>if b=true then g ρ else .ok false:=id rfl
@[simp] theorem aSJ(f g:Sg->R Bool)(ρ:Sg):bOr f g ρ=(f ρ).bind fun b=>if b=true then .ok true else g ρ:=id rfl
@[simp] theorem aRZ(f:Sg->R D9)(ρ:Sg):aGZ f ρ=(f ρ).bind fun x=>(asB x).bind fun b=>.ok (.bool (!b)):=id rfl
@[simp] theorem aK1(f g:Sg->R D9)(ρ:Sg):pB f g ρ=(f ρ).bind fun x=>(asB x).bind fun b=>if b=true then g ρ else .ok (.bool false):=id rfl
@[simp] theorem aSK(f g:Sg->R D9)(ρ:Sg):eOr f g ρ=(f ρ).bind fun x=>(asB x).bind fun b=>if b=true then .ok (.bool true) else g ρ:=id rfl
@[simp] theorem y4(g g':D9->D9->R D9)(b fb a:Sg->R D9)(ρ:Sg):eCh g g' b fb a ρ=(b ρ).bind fun x=>(fb ρ).bind fun y=>(g x y).bind fun z=>(asB z).bind fun k=>if k=true then (a ρ).bind fun w=>g' y w else .ok (.bool false):=id rfl
@[simp] theorem aN3{α:Type}(g:D9->Option Int->Option Int->R α)(f:Sg->R D9)(lo hi:Sg->R (Option Int))(ρ:Sg):eSl g f lo hi ρ=(f ρ).bind fun x=>(lo ρ).bind fun l=>(hi ρ).bind fun h=>g x l h:=id rfl
@[simp] theorem aN4(ρ:Sg):oNo ρ=.ok none:=id rfl
@[simp] theorem aN5(f:Sg->R D9)(ρ:Sg):oSo f ρ=(f ρ).bind fun x=>match x with | .int i=>.ok (some i)|_=>.bad:=id rfl
@[simp] theorem aC1(f:Sg->R D9)(ρ:Sg):lG f ρ=(f ρ).bind fun x=>match x with | .int j=>kQ 0 j|_=>.bad:=id rfl
@[simp] theorem aPY(f g:Sg->R D9)(ρ:Sg):aJ8 f g ρ=(f ρ).bind fun x=>(g ρ).bind fun y=>match x,y with | .int i,.int j=>kQ i j|_,_=>.bad:=id rfl
@[simp] theorem aR0(f:Sg->R D9)(g:Sg->R (Option Int))(ρ:Sg):aQ1 f g ρ=(f ρ).bind fun x=>(g ρ).bind fun o=>if o=some (-1) then aNE x else .bad:=id rfl
@[simp] theorem aR1(i:Nat)(g:D9->D9->R D9)(f:Sg->R D9)(ρ:Sg):aQ0 i g f ρ=(eV i ρ).bind fun x=>(f ρ).bind fun y=>(g x y).bind fun z=>.ok (.nx (ρ.set i (some (.d z)))):=id rfl
@[simp] theorem aHQ(i:Nat)(ρ:Sg):qK i ρ=.ok (.nx (ρ.set i (some (.m [])))):=id rfl
@[simp] theorem qR(a:Bool)(i:Nat)(f:Sg->R D9)(ρ:Sg):j9 a i f ρ=(f ρ).bind fun k=>match ρ[i]? with|some (some (.m kvs))=>if bJ k (kvs.map (·.1))=true then .ok (.bool (if a=true then !bP kvs k else bP kvs k)) else .bad|some (some (.f kvs))=>if bJ k (kvs.map (·.1))=true then .ok (.bool (if a=true then !bP kvs k else bP kvs k)) else .bad|_=>.bad:=id rfl
@[simp] theorem aRB(i:Nat)(f:Sg->R D9)(ρ:Sg):jY i f ρ=match ρ[i]? with|some (some (.m kvs))=>(f ρ).bind fun k=>if bJ k (kvs.map (·.1))=true then (match cK kvs k with|some v=>.ok v|none=>.bad) else .bad|some (some (.f kvs))=>(f ρ).bind fun k=>if bJ k (kvs.map (·.1))=true then (match cK kvs k with|some v=>.ok v|none=>.bad) else .bad|_=>.bad:=id rfl
@[simp] theorem aRC(i:Nat)(f g:Sg->R D9)(ρ:Sg):k8 i f g ρ=(g ρ).bind fun v=>match ρ[i]? with|some (some (.m kvs))=>(f ρ).bind fun k=>if bJ k (kvs.map (·.1))=true/\kvs.length<=16777216 then .ok (.nx (ρ.set i (some (.m (putM kvs k v))))) else .bad|_=>.bad:=id rfl
@[simp] theorem tX(i j:Int):c6 (.int i) (.int j)=.ok (.int (i+j)):=id rfl
@[simp] theorem aFF(i j:Int):dSub (.int i) (.int j)=.ok (.int (i - j)):=id rfl
@[simp] theorem aR2(i j:Int):aPO (.int i) (.int j)=.ok (.int (i+j)):=id rfl
@[simp] theorem aSL(i:Int):aQY (.int i)=.ok (.int (-i)):=id rfl
@[simp] theorem aS4(i j:Int):dLt (.int i) (.int j)=.ok (.bool (decide (i < j))):=id rfl
@[simp] theorem aS5(i j:Int):dLe (.int i) (.int j)=.ok (.bool (decide (i<=j))):=id rfl
@[simp] theorem aS6(i j:Int):dGt (.int i) (.int j)=.ok (.bool (decide (j < i))):=id rfl
@[simp] theorem aS7(i j:Int):dGe (.int i) (.int j)=.ok (.bool (decide (j<=i))):=id rfl
def dB{i j:Int}(h:0 < j):dMod (.int i) (.int j)=.ok (.int (i % j)):=if_pos h
def gS{i j:Int}(h:0 < j)(h2:j < 18446744073709551616):dDiv (.int i) (.int j)=.ok (.int (i / j)):=if_pos ⟨h,h2⟩
def pP{i j:Int}(h : -18446744073709551616 < j)(h2:j < 18446744073709551616):dMul (.int i) (.int j)=.ok (.int (i * j)):=if_pos (.inr ⟨h,h2⟩)
def aFG{i j:Int}(h : -18446744073709551616 < i)(h2:i < 18446744073709551616):dMul (.int i) (.int j)=.ok (.int (i * j)):=if_pos (.inl ⟨h,h2⟩)
@[simp] theorem gC(xs:List D9):dLen (.list xs)=.ok (.int xs.length):=id rfl
@[simp] theorem l9(xs:List D9):dLen (.tuple xs)=.ok (.int xs.length):=id rfl
def y6{z:Str}(h:z.length<=16777216):dLen (.str z)=.ok (.int z.length):=if_pos h
@[simp] theorem aN6(xs:List D9):dTup (.list xs)=.ok (.tuple xs):=id rfl
@[simp] theorem aSM(xs:List D9):dTup (.tuple xs)=.ok (.tuple xs):=id rfl
@[simp] theorem aSN(xs:List D9):aM9 (.list xs)=.ok xs:=id rfl
@[simp] theorem aSO(xs:List D9):aM9 (.tuple xs)=.ok xs:=id rfl
@[simp] theorem aSP(i:Int):aNA (.int i)=.ok (.int i):=id rfl
@[simp] theorem aSQ(b:Bool):aNA (.bool b)=.ok (.int (if b=true then 1 else 0)):=id rfl
@[simp] theorem aS8(x:D9):dIs x .none=.ok (.bool (fU x)):=id rfl
@[simp] theorem aR3(x:D9):aPM x .none=.ok (.bool (!fU x)):=id rfl
@[simp] theorem aR4:fU .none=true:=id rfl
@[simp] theorem aR5(xs:List D9):fU (.tuple xs)=false:=id rfl
@[simp] theorem aR6(i:Int):fU (.int i)=false:=id rfl
@[simp] theorem aR7(i:Str):fU (.str i)=false:=id rfl
def aK2{α:Type}{xs:List α}{i:Int}{v:α}(h0:0<=i)(h:xs[i.toNat]? = some v):atI xs i=some v:=by
 obtain ⟨j,rfl⟩:∃ j:Nat,i=j:=⟨i.toNat,by omega⟩
 exact dU (j:=j) h
def y7{α:Type}(x:α)(t:List α):atI (x::t) 0=some x:=dU (j:=0) rfl
def aBL{α:Type}(x y:α)(t:List α):atI (x::y::t) 1=some y:=dU (j:=1) rfl
def aK3{α:Type}(x y z:α)(t:List α):atI (x::y::z::t) 2=some z:=dU (j:=2) rfl
def mK{xs:List D9}{i:Int}{v:D9}(h:atI xs i=some v):dIx (.tuple xs) (.int i)=.ok v:=by show (match atI xs i with|some v=>R.ok v|none=>.bad)=_;rw[h]
def lB{xs:List D9}{i:Int}{v:D9}(h:atI xs i=some v):dIx (.list xs) (.int i)=.ok v:=by show (match atI xs i with|some v=>R.ok v|none=>.bad)=_;rw[h]
@[simp] theorem aSR(x:D9)(t:List D9):dIx (.tuple (x::t)) (.int 0)=.ok x:=mK (y7 x t)
@[simp] theorem aSS(x y:D9)(t:List D9):dIx (.tuple (x::y::t)) (.int 1)=.ok y:=mK (aBL x y t)
@[simp] theorem aST(x y z:D9)(t:List D9):dIx (.tuple (x::y::z::t)) (.int 2)=.ok z:=mK (aK3 x y z t)
@[simp] theorem aSU(x:D9)(t:List D9):dIx (.list (x::t)) (.int 0)=.ok x:=lB (y7 x t)
@[simp] theorem aSV(x y:D9)(t:List D9):dIx (.list (x::y::t)) (.int 1)=.ok y:=lB (aBL x y t)
def mB{xs:List D9}(h:xs.length<=16777216):bA (.tuple xs)=.ok xs:=if_pos h
def iJ{xs:List D9}(h:xs.length<=16777216):bA (.list xs)=.ok xs:=if_pos h
def y8{z:Str}(h:z.cps.toList.length<=16777216):bA (.str z)=.ok (z.cps.toList.map fun u=>.str ⟨#[u]⟩):=if_pos h
def y9{x y:D9}(hx:SeqAt.shaped x=true)(a:SeqAt.shaped y=true):dEq x y=.ok (.bool (PyData.eqv x y)):=if_pos ⟨hx,a⟩
def pQ{x y:D9}(hx:SeqAt.shaped x=true)(a:SeqAt.shaped y=true):dNe x y=.ok (.bool (!PyData.eqv x y)):=if_pos ⟨hx,a⟩
@[simp] theorem aSW(T:String)(i:Int):iV T (.int i)=.ok (.bool (jX "int" T)):=id rfl
@[simp] theorem aSX(T:String)(i:Str):iV T (.str i)=.ok (.bool (jX "str" T)):=id rfl
@[simp] theorem aSY(T:String)(i:List D9):iV T (.tuple i)=.ok (.bool (jX "tuple" T)):=id rfl
@[simp] theorem aSZ(T:String)(i:List D9):iV T (.list i)=.ok (.bool (jX "list" T)):=id rfl
@[simp] theorem aS0(T:String)(i:Bool):iV T (.bool i)=.ok (.bool (jX "bool" T)):=id rfl
@[simp] theorem aS1(T:String):iV T .none=.ok (.bool (jX "NoneType" T)):=id rfl
def aPZ{z:Str}{lo hi:Option Int}(h:z.length<=16777216):dSl (.str z) lo hi=.ok (.str (Txt.slice z lo hi)):=by
 unfold dSl;exact if_pos h
def aN7{x y:Str}(h:x.length+y.length<=16777216):c6 (.str x) (.str y)=.ok (.str (x++y)):=by
 unfold c6;exact if_pos (by rw[cV];exact h)
theorem kC{α:Type}{fs:D9->Sg->Option Sg}{fe:Sg->R D9}{ρ0:Sg}{d:α->D9}{g:α->D9}:∀ {xs:List α},(∀ x∈xs,∃ ρ1,fs (d x) ρ0=some ρ1/\fe ρ1=.ok (g x))->compL fs l0 fe ρ0 (xs.map d)=.ok (xs.map g)
 | [],_=>rfl
 | x::t,h=>by
  obtain ⟨ρ1,h1,h2⟩:=h x AQ
  rw[AX]
  unfold compL
  rw[h1,kC fun y a=>h y (AI _ a),pE,R.bind_ok,aK0,R.noEx_ok,R.bind_ok,if_pos rfl,h2];rfl
def eD{α:Type}{fs:D9->Sg->Option Sg}{fb:Sg->R Fw}{d:α->D9}{xs:List α}{ρ:Sg}(J:Nat->Sg->Prop)(h0:J 0 ρ)(a:∀ (i:Nat) (x:α) (ρ:Sg),xs[i]? = some x->J i ρ->∃ ρ1 ρ2,fs (d x) ρ=some ρ1/\(fb ρ1=.ok (.nx ρ2)\/fb ρ1=.ok (.ct ρ2))/\J (i+1) ρ2) :
  ∃ ρ',fH fs fb (xs.map d) ρ=.ok (.nx ρ')/\J xs.length ρ':=by
 induction xs generalizing ρ J with
 | nil=>exact ⟨ρ,rfl,h0⟩
 | cons x t ih=>
  obtain ⟨ρ1,ρ2,h1,h2,c⟩:=a 0 x ρ rfl h0
  obtain ⟨ρ',g,b⟩:=ih (ρ:=ρ2) (fun i=>J (i+1)) c (fun i y ρ e f=>a (i+1) y ρ (by simpa using e) f)
  refine ⟨ρ',?_,b⟩
  rw[AX]
  unfold fH
  rw[h1,pE,R.bind_ok]
  rcases h2 with h2|h2<;>rw[h2]<;>exact g
def mL{t:Sg->R Bool}{b:Sg->R Fw}{ρ a:Sg}(h1:t ρ=.ok true)(h2:b ρ=.ok (.nx a)):cC t b ρ=cC t b a:=by
 rw[wG,h1,R.bind_ok,if_pos rfl,h2];rfl
def jO{t:Sg->R Bool}{b:Sg->R Fw}{ρ:Sg}(h1:t ρ=.ok false):cC t b ρ=.ok (.nx ρ):=by
 rw[wG,h1,R.bind_ok,if_neg (by decide)]
def aTA{α:Type}(d:α->D9)(ps:List α):List (D9×D9):=ps.map fun p=>(d p,.bool true)
end Fl
namespace Mc
open PySem L2 PyProof.Rows Fl
theorem Mach.cons{rs:List Rw}{sg:Nat}(M:Mach rs sg):∃ r t,rs=r::t/\r.c.length=sg:=by
 cases rs with
 | nil=>have:=M.len;simp at this
 | cons r t=>exact ⟨r,t,rfl,(M.row r AQ).2⟩
def ck(k:Nat)(r:Rw):Int×Int:=r.c.getD k (0,0)
def pR{n:Nat}(h:n<=16777216):kQ 0 (n:Int)=.ok ((List.range n).map fun i:Nat=>.int (i:Int)):=by
 unfold kQ
 rw[if_pos (by omega)]
 unfold lZ
 simp
def aFH(z y:Str):tM (.str z) (.str y)=match Builtin.Str.occurrences z y 0 z.length 1 with|i::_=>R.ok (PyData.int i)|[]=>.bad:=rfl
def aK4{c:Nat}(h:fA 3 c=true):tM (.str "abc") (.str ⟨#[c]⟩)=.ok (.int ((c - 97:Nat):Int)):=by
 obtain ⟨r,e⟩:=aD2 h
 rw[aFH,e]
def aHR{n c:Nat}(a:n<=3)(h:fA n c=true):fA 3 c=true:=AV (by have:=BA h;omega)
def dO(i:Int):SeqAt.shaped (.int i)=true:=id rfl
def tY(i j:Int):PyData.eqv (.int i) (.int j)=decide (i=j):=by
 rw[PyData.eqv.eq_5]
 by_cases h:i=j
 · simp [h]
 · simp [h]
def i3(i j:Int):dEq (.int i) (.int j)=.ok (.bool (decide (i=j))):=by rw[y9 (dO i) (dO j),tY]
def kK:Sg->R Fw:=(aP (cB 2 (vD (eC (.int 0))))
 (aP (sIf (e1 asB (e2 dGt (e1 dLen (rV 0)) (eC (.int 0)))) (cB 2 (vD (e2 dIx (rV 0) (e2 dMod (rV 1) (e1 dLen (rV 0)))))) sNx)
 (aP (cB 3 (vD (e2 dMod (e2 dMul (e2 c6 (e2 c6 (e2 dMod (rV 2) (eC (.int 2147483647))) (e2 dMul (eC (.int 7919)) (rV 1))) (eC (.int 1))) (eC (.int 48271))) (eC (.int 2147483647)))))
 (bU (vD (e2 c6 (e2 dMul (e2 dDiv (rV 2) (eC (.int 2147483647))) (eC (.int 2147483659))) (e2 dMod (e2 c6 (e2 dMul (rV 3) (eC (.int 69621))) (e2 dMul (eC (.int 104729)) (rV 1))) (eC (.int 2147483659)))))))))
def cP:List A->R A:=fnF 4 kK
def owI:Sg->R Fw:=(aP (sIf (iU (e1 asB (eV 8))) (cB 9 (vD (e2 dDiv (e2 dMod (e2 c6 (e2 dMul (rV 9) (eC (.int 48271))) (eC (.int 7919))) (eC (.int 2147483647))) (eC (.int 64))))) sNx)
 (aP (iG 10 (e2 dMod (rV 9) (rV 2)))
 (cB 9 (vD (e2 dDiv (rV 9) (rV 2))))))
def owR:Sg->R Fw:=(aP (eF 10 (fC aR))
 (aP (iI (lG (rV 3)) (stN 11) owI)
 (aP (iG 6 (e2 dIx (eL (fC (aB (eC (.str "by")) (aB (eC (.str "out")) (aB (eC (.str "ever")) aR))))) (e2 dMod (rV 9) (rV 4))))
 (iG 5 (e1 dTup (rV 10))))))
def owB:Sg->R Fw:=(aP (cB 8 (vD (pB (e2 dLt (e2 c6 (rV 1) (rV 7)) (e1 dLen (rV 0))) (e2 dEq (e2 dMod (e2 dIx (rV 0) (eC (.int 0))) (eC (.int 2))) (eC (.int 1))))))
 (aP (cB 9 (vD (e2 dMod (eA (bM 2 cP (aB (vV 0) (aB (vD (e2 c6 (rV 1) (rV 7))) aR)))) (eC (.int 2147483647)))))
 (aP (sIf (e1 asB (eV 8)) (cB 9 (vD (e2 dIx (rV 0) (e2 c6 (rV 1) (rV 7))))) sNx) owR)))
def kW:Sg->R Fw:=(aP (eF 5 (fC aR)) (aP (eF 6 (fC aR)) (aP (iI (lG (rV 2)) (stN 7) owB) (bU (vD (dZ (aB (e1 dTup (rV 5)) (aB (e1 dTup (rV 6)) aR))))))))
def dD:List A->R A:=fnF 12 kW
def fsT:Sg->R Bool:=(e1 asB (e2 dLt (rV 5) (e1 dLen (rV 4))))
def fsF:Sg->R Fw:=(aP (cB 9 (vD (dZ (aB (e2 dIx (e2 dIx (e2 dIx (rV 0) (eC (.int 0))) (rV 6)) (rV 8)) (aB (e2 dIx (e2 dIx (e2 dIx (rV 1) (eC (.int 0))) (rV 7)) (rV 8)) aR)))))
 (sIf (e1 asB (j9 true 3 (eV 9))) (aP (k8 3 (eV 9) (e2 c6 (jY 3 (dZ (aB (eV 6) (aB (eV 7) aR)))) (e2 dIx (eC (.str "abc")) (rV 8))))
 (iG 4 (eV 9))) sNx))
def fsB:Sg->R Fw:=(aP (aCM (stT [(stN 6),(stN 7)]) (e2 dIx (rV 4) (rV 5)))
 (aP (iI (lG (e1 dLen (e2 dIx (e2 dIx (rV 0) (eC (.int 0))) (rV 6)))) (stN 8) fsF)
 (cB 5 (vD (e2 c6 (rV 5) (eC (.int 1)))))))
def iW:Sg->R Fw:=(aP (tO 3 (tN (eV 2) (eC (.str "")) yP)) (aP (eF 4 (fC (aB (eV 2) aR))) (aP (cB 5 (vD (eC (.int 0)))) (aP (cC fsT fsB) (sE 3 (bU (vV 3)))))))
def eR:List A->R A:=fnF 10 iW
def lpF:Sg->R Fw:=(aP (cB 7 (vD (jY 3 (dZ (aB (eV 5) (aB (eV 6) aR))))))
 (sIf (oC (e1 asB (e2 dNe (e2 dIx (e2 dIx (rV 0) (eC (.int 1))) (rV 5)) (e2 dIx (e2 dIx (rV 1) (eC (.int 1))) (rV 6)))) (bOr (e1 asB (e2 dIs (rV 4) (eC .none))) (e1 asB (e2 vB (dZ (aB (e1 dLen (rV 7)) (aB (eV 7) aR))) (dZ (aB (e1 dLen (rV 4)) (aB (eV 4) aR))))))) (cB 4 (vV 7)) sNx))
def kD:Sg->R Fw:=(aP (cB 3 (bM 3 eR (aB (vV 0) (aB (vV 1) (aB (vV 2) aR))))) (aP (cB 4 (vD (eC .none))) (aP (iI (tU 3) (stT [(stN 5),(stN 6)]) lpF) (bU (vV 4)))))
def eZ:List A->R A:=fnF 8 kD
def lsT:Sg->R Bool:=(oC (e1 asB (e2 dLt (rV 3) (e1 dLen (rV 2)))) (e1 asB (e2 dLt (e1 dLen (e2 dIx (rV 2) (rV 3))) (rV 1))))
def lsF:Sg->R Fw:=(iG 2 (e2 c6 (e2 dIx (rV 2) (rV 3)) (rV 4)))
def lsB:Sg->R Fw:=(aP (iI (e1 bA (eSl dSl (eC (.str "abc")) oNo (oSo (rV 0)))) (stN 4) lsF)
 (cB 3 (vD (e2 c6 (rV 3) (eC (.int 1))))))
def kX:Sg->R Fw:=(aP (eF 2 (fC (aB (eC (.str "")) aR))) (aP (cB 3 (vD (eC (.int 0)))) (aP (cC lsT lsB) (sFz 2 (bU (vV 2))))))
def gT:List A->R A:=fnF 5 kX
def iX(ns:List Int):D9:=.list (ns.map .int)
def lL(ns:List Int):dLen (iX ns)=.ok (.int ns.length):=by unfold iX;rw[gC,AC]
def zA{ns:List Int}{i:Int}(h0:0<=i)(h1:i < ns.length):∃ v,dIx (iX ns) (.int i)=.ok (.int v):=by
 refine ⟨ns[i.toNat]'(by omega),lB (aK2 h0 ?_)⟩
 rw[AN,AH (by omega)];rfl
def mC(ns:List Int)(k:Int):∃ v,cP [.d (iX ns),.d (.int k)]=.ok (.d (.int v)):=by
 by_cases h:(0:Int) < ns.length
 .obtain ⟨v,c⟩:=zA (ns:=ns) (i:=k % (ns.length:Int)) (B5 _ (by omega)) (BW _ h)
  have b:dMod (.int k) (.int (ns.length:Int))=.ok (.int (k % (ns.length:Int))):=dB h
  have a:0 < ns.length:=by omega
  refine ⟨v / 2147483647 * 2147483659+((v % 2147483647+7919 * k+1) * 48271 % 2147483647 * 69621+104729 * k) % 2147483659,?_⟩
  unfold cP kK
  simp[lL,a,b,c,dB,pP,aFG,gS]
 .have a:¬ 0 < ns.length:=by omega
  refine ⟨((7919 * k+1) * 48271 % 2147483647 * 69621+104729 * k) % 2147483659,?_⟩
  unfold cP kK
  simp[lL,a,dB,pP,aFG,gS]
end Mc
namespace Mc
open PySem L2 PyProof.Rows
def aFI(rs:List Rw)(z:List Nat)(s:Int×Int):Option ((Int×Int)⊕Str):=
 match (kM rs z s).1 with
 | .w x=>some (.inr x)
 | .n q=>some (.inl (s.1+(kM rs z s).2,q))
end Mc
namespace Mc
open PySem L2 PyProof.Rows Fl
def lM(z:Str):z.length=z.cps.toList.length:=by simp[Str.length]
def jF(rs:List Rw)(z:List Nat)(s:Int×Int):Prop:=aIP rs z s/\((aB8 rs z s=none/\∃ x,(kM rs z s).1=.w x/\aCA (aFI rs z) (0,0)=some x)\/((∃ s',aB8 rs z s=some s')/\aCA (aFI rs z) (0,0)=none))
def aFJ(x y:Str):PyData.eqv (.str x) (.str y)=(x == y):=by rw[PyData.eqv.eq_6]
end Mc
namespace Mc
open PySem L2 PyProof.Rows
section
variable{S T O Q:Type}
structure Gates(st:S->Option (S⊕O))(sub:S->Option (S⊕Q))(ext:Q->T⊕O)(g:T->S)(ent:T->S⊕O)(Dom:S->Prop)(TV:T->Prop):Prop where
 step:∀ s,Dom s->(∃ s',sub s=some (.inl s')/\st s=some (.inl s')/\Dom s')\/(∃ e t,sub s=some (.inr e)/\ext e=.inl t/\st s=some (.inl (g t))/\TV t)\/∃ e o,sub s=some (.inr e)/\ext e=.inr o/\st s=some (.inr o)
 gate:∀ t,TV t->(∃ s,ent t=.inl s/\st (g t)=some (.inl s)/\Dom s)\/∃ o,ent t=.inr o/\st (g t)=some (.inr o)
variable{st:S->Option (S⊕O)}{sub:S->Option (S⊕Q)}{ext:Q->T⊕O}{g:T->S}{ent:T->S⊕O}{Dom:S->Prop}{TV:T->Prop}
end
def aP0:Str:="ever"
def aP1(rs:List Rw)(z:List Nat)(s:Int×Int):Option ((Int×Int)⊕Tn):=
 match (kM rs z s).1 with
 | .w x=>some (.inr (.w x))
 | .n q=>if s.1+(kM rs z s).2<=(z.length:Int) then some (.inl (s.1+(kM rs z s).2,q)) else some (.inr (.n q))
def aN8(rs:List Rw)(z:List Nat)(s:Int×Int):Tn:=(aCA (aP1 rs z) s).getD (.w aP0)
def aRD(rs:List Rw)(z:List Nat)(q:Int):Tn:=aN8 rs z ((z.length:Int),q)
end Mc
namespace Mc
open PySem L2 PyProof.Rows Fl
def aRE(f:Tn)(bk:List Tn):D9:=.tuple [f.d,.tuple (bk.map Tn.d)]
def aN9(rs:List Rw)(k:Nat):D9:=.list (rs.map fun r=>aPI (ck k r))
def oT:Sg->R Bool:=(iU (e1 asB (eA (bM 1 wQ (aB (vV 2) aR)))))
def aI1(rs:List Rw)(z:List Nat):D9:=aRE (aN8 rs z (0,0)) ((List.range rs.length).map fun q:Nat=>aRD rs z (q:Int))
def zB(i j:Int):dNe (.int i) (.int j)=.ok (.bool (!decide (i=j))):=by rw[pQ (dO i) (dO j),tY]
end Mc
namespace Fl
open PySem L2 PyProof.Rows
@[simp] theorem aHS(i:Nat)(f:Sg->R (List (D9×D9)))(ρ:Sg):tO i f ρ=(f ρ).bind fun kvs=>(dA [] kvs).bind fun res=>.ok (.nx (ρ.set i (some (.m res)))):=id rfl
@[simp] theorem aK5(ρ:Sg):yP ρ=.ok []:=id rfl
@[simp] theorem aHT(f g:Sg->R D9)(r:Sg->R (List (D9×D9)))(ρ:Sg):tN f g r ρ=(f ρ).bind fun x=>(g ρ).bind fun y=>(r ρ).bind fun t=>.ok ((x,y)::t):=id rfl
@[simp] theorem aQF(i:Nat)(f g:Sg->R D9)(ρ:Sg):aNN i f g ρ=match ρ[i]? with|some (some (.m kvs))=>(f ρ).bind fun k=>(g ρ).bind fun y=>if bJ k (kvs.map (·.1))=true then .ok ((cK kvs k).getD y) else .bad|_=>.bad:=id rfl
end Fl
namespace Mc
open PySem L2 PyProof.Rows Fl
def oP{w:Str}(h:w="by"\/w="out"\/w="ever"):SeqAt.shaped (.str w)=true:=by rcases h with rfl|rfl|rfl<;>decide +kernel
def aOA{w v:Str}(h:w="by"\/w="out"\/w="ever")(h':v="by"\/v="out"\/v="ever"):dEq (.str w) (.str v)=.ok (.bool (decide (w=v))):=by
 rw[y9 (oP h) (oP h'),aFJ]
 congr 2
@[simp] theorem aR8(m i:Nat)(f:Sg->R (List D9))(ρ:Sg):r0 m i f ρ=match ρ[i]? with|some (some (.g k n G))=>(f ρ).bind fun ds=>if k<=m/\ds.length=n then G ds else .bad|_=>.bad:=id rfl
@[simp] theorem aRF(m i:Nat)(f:Sg->R (List D9))(ρ:Sg):tQ m i f ρ=match ρ[i]? with|some (some (.g k n G))=>(f ρ).bind fun ds=>if k<=m/\ds.length=n then (match G ds with | .ok d=>if qM d=true then .ok d else .bad|_=>.bad) else .bad|_=>.bad:=id rfl
def hV(fs:List D9):List (D9×D9):=fs.zipIdx.map fun p=>(p.1,.int (p.2:Int))
def sI(fs:List D9):(hV fs).map (·.1)=fs:=by
 unfold hV
 rw[CT]
 show fs.zipIdx.map Prod.fst=fs
 exact GO 0 fs
def aK6(fs:List D9):(hV fs).length=fs.length:=by unfold hV;rw[AC,CO]
def aBM{fs:List D9}{x:D9}:bP (hV fs) x=true↔x∈fs:=by rw[jB,sI]
def zC{fs:List D9}{x:D9}(h:x∉fs):bP (hV fs) x=false:=by
 cases q:bP (hV fs) x with
 | false=>rfl
 | true=>exact absurd (aBM.mp q) h
def aK7{fs:List D9}{x:D9}(h:x∉fs):putM (hV fs) x (.int (fs.length:Int))=hV (fs++[x]):=by
 unfold putM
 rw[zC h,if_neg (by decide)]
 unfold hV
 rw[List.zipIdx_append,A8]
 simp
def aK8{fs:List D9}{x:D9}(h:x∈fs):∃ i:Nat,cK (hV fs) x=some (.int (i:Int))/\fs[i]? = some x:=by
 unfold cK
 cases e:(hV fs).find? fun p=>decide (p.1=x) with
 | none=>
  rw[EJ] at e
  rw[<-sI fs,A3] at h
  obtain ⟨p,a,e2⟩:=h
  exact absurd (AV e2) (e p a)
 | some p=>
  have h1:=List.find?_some e
  have h2:=FA e
  unfold hV at h2
  obtain ⟨⟨y,i⟩,b,rfl⟩:=A3.mp h2
  refine ⟨i,rfl,?_⟩
  have h1:y=x:=BA h1
  rw[<-h1]
  exact List.mk_mem_zipIdx_iff_getElem?.mp b
structure Srch where
 after:D9->List D9
 x0:D9
 good:Nat->D9->Prop
 lim:Nat
 k1:Nat
 k2:Nat
 G:List D9->R D9
 D:List D9->R D9
structure Srch.ok(S:Srch):Prop where
 g0:S.good 0 S.x0
 gs:∀ i x,S.good i x->i<=S.lim->∀ y∈S.after x,S.good (i+1) y
 up:∀ i j x,i<=j->S.good i x->S.good j x
 few:∀ xs:List D9,xs.Nodup->(∀ x∈xs,∃ i,S.good i x)->xs.length<=S.lim
 key:∀ i x,S.good i x->gI x=true
 hk1:S.k1<=12
 hk2:S.k2<=12
 hG:∀ i x,i<=S.lim->S.good i x->S.G [x]=.ok (.list (S.after x))/\(S.after x).length<=16777216
 hD:∀ (fs:List D9) (i:Int),fs.length<=S.lim->S.D [.list fs,.int i]=.ok (.bool false)
 hl:S.lim<=16000000
def rhF:Sg->R Fw:=(aP (sIf (e1 asB (j9 true 4 (eV 7))) (aP (k8 4 (eV 7) (e1 dLen (rV 3)))
 (iG 3 (eV 7))) sNx)
 (iG 6 (jY 4 (eV 7))))
def rhT:Sg->R Bool:=(oC (e1 asB (e2 dLt (e1 dLen (rV 5)) (e1 dLen (rV 3)))) (iU (e1 asB (tQ 12 2 (aB (rV 3) (aB (e1 dLen (rV 5)) aR))))))
def rhB:Sg->R Fw:=(aP (eF 6 (fC aR))
 (aP (iI (e1 bA (r0 12 1 (aB (e2 dIx (rV 3) (e1 dLen (rV 5))) aR))) (stN 7) rhF)
 (iG 5 (e1 dTup (rV 6)))))
def aOB:pK=aP (eF 3 (fC (aB (eV 0) aR))) (aP (tO 4 (tN (eV 0) (eC (.int 0)) yP)) (aP (eF 5 (fC aR)) (aP (cC rhT rhB) (sFz 5 (sFz 3 (bU (vD (dZ (aB (eV 3) (aB (eV 5) aR))))))))) ):=id rfl
def aP2(fs:List D9)(js:List Nat)(ys:List D9):Prop:=js.length=ys.length/\∀ (c:Nat) (y:D9),ys[c]? = some y->∃ j,js[c]? = some j/\fs[j]? = some y
def bF(js:List Nat):D9:=.tuple (js.map fun j:Nat=>.int (j:Int))
structure Fnd(S:Srch)(fs:List D9):Prop where
 nd:fs.Nodup
 gd:∀ (i:Nat) (x:D9),fs[i]? = some x->S.good i x
structure Rchd(S:Srch)(fs:List D9)(gs:List (List Nat)):Prop where
 fnd:Fnd S fs
 len:gs.length=fs.length
 zer:fs[0]? = some S.x0
 row:∀ (i:Nat) (js:List Nat) (x:D9),gs[i]? = some js->fs[i]? = some x->aP2 fs js (S.after x)
def adQ(fs:List D9)(y:D9):List D9:=if y∈fs then fs else fs++[y]
def adA(fs ys:List D9):List D9:=ys.foldl adQ fs
def nrQ(fs:List D9)(y:D9):Nat:=fs.idxOf y
def pS{fs:List D9}{y:D9}(h:y∈fs):adQ fs y=fs:=if_pos h
def nK{fs:List D9}{y:D9}(h:y∉fs):adQ fs y=fs++[y]:=if_neg h
def qS(fs:List D9)(y:D9):fs <+: adQ fs y:=by
 by_cases h:y∈fs
 · rw [pS h]; exact C5 _
 · rw [nK h]; exact List.prefix_append ..
def vE(fs:List D9)(y:D9):y∈adQ fs y:=by
 by_cases h:y∈fs
 · rw [pS h]; exact h
 · rw [nK h]; simp
def aOC{fs:List D9}{y:D9}(h:fs.Nodup):(adQ fs y).Nodup:=by
 by_cases q:y∈fs
 .rw[pS q];exact h
 .rw[nK q,D0]
  exact ⟨h,by simp,fun a c b d=>by rw[AL.mp d];rintro rfl;exact q c⟩
def aHU(fs ys:List D9)(y:D9):adA fs (ys++[y])=adQ (adA fs ys) y:=by unfold adA;rw[D8];rfl
def vF(ys:List D9):∀ fs:List D9,fs <+: adA fs ys:=by
 induction ys with
 | nil=>exact fun fs=>C5 _
 | cons y t ih=>exact fun fs=>(qS fs y).trans (ih _)
def zD(ys:List D9):∀ {fs:List D9},fs.Nodup->(adA fs ys).Nodup:=by
 induction ys with
 | nil=>exact fun h=>h
 | cons y t ih=>exact fun h=>ih (aOC h)
def qT(ys:List D9):∀ {fs:List D9} {y:D9},y∈ys->y∈adA fs ys:=by
 induction ys with
 | nil=>intro fs y h;cases h
 | cons x t ih=>
  intro fs y h
  rcases AS.mp h with rfl|h
  · exact (vF t _).subset (vE fs y)
  · exact ih h
def adA_mem(ys:List D9):∀ {fs:List D9} {y:D9},y∈adA fs ys->y∈fs\/y∈ys:=by
 induction ys with
 | nil=>intro fs y h;exact .inl h
 | cons x t ih=>
  intro fs y h
  rcases ih (fs:=adQ fs x) h with h|h
  .by_cases q:x∈fs
   .rw[pS q] at h;exact .inl h
   .rw[nK q] at h
    rcases A4.mp h with h|h
    · exact .inl h
    · exact .inr (by rw [AL.mp h]; exact AQ)
  .exact .inr (AI _ h)
def vG{fs fs':List D9}{y:D9}(h:fs <+: fs')(a:y∈fs):nrQ fs' y=nrQ fs y:=by
 obtain ⟨t,rfl⟩:=h
 unfold nrQ
 rw[List.idxOf_append,if_pos a]
def aFK{fs:List D9}{y:D9}(a:y∈fs):fs[nrQ fs y]? = some y:=by
 have h:nrQ fs y < fs.length:=GU a
 rw[AH h]
 exact DW some (List.getElem_idxOf h)
def aI2{α:Type}{xs:List α}(h:xs.Nodup){i j:Nat}{x:α}(h1:xs[i]? = some x)(h2:xs[j]? = some x):i=j:=by
 obtain ⟨b,e1⟩:=AG.mp h1
 obtain ⟨a,e2⟩:=AG.mp h2
 rcases G8 i j with q|q|q
 · exact absurd (e1.trans e2.symm) (B9.mp h i j b a q)
 · exact q
 · exact absurd (e2.trans e1.symm) (B9.mp h j i a b q)
def aK9{fs:List D9}{y:D9}(h:fs.Nodup)(a:y∈fs):cK (hV fs) y=some (.int (nrQ fs y:Int)):=by
 obtain ⟨i,h1,h2⟩:=aK8 a
 rw[h1,aI2 h h2 (aFK a)]
structure Sq where
 after:D9->List D9
 x0:D9
 stop:List D9->Nat->Bool
 k1:Nat
 k2:Nat
 G:List D9->R D9
 D:List D9->R D9
def bfQ(after:D9->List D9)(x0:D9):Nat->List D9
 | 0=>[x0]
 | n+1=>match (bfQ after x0 n)[n]? with
  | some x=>adA (bfQ after x0 n) (after x)
  | none=>bfQ after x0 n
def sJ{after:D9->List D9}{x0 x:D9}{n:Nat}(h:(bfQ after x0 n)[n]? = some x):bfQ after x0 (n+1)=adA (bfQ after x0 n) (after x):=by rw[bfQ,h]
def iK(after:D9->List D9)(x0:D9)(n:Nat):bfQ after x0 n <+: bfQ after x0 (n+1):=by
 rw[bfQ]
 split
 · exact vF _ _
 · exact C5 _
def lN{after:D9->List D9}{x0:D9}{m n:Nat}(h:m<=n):bfQ after x0 m <+: bfQ after x0 n:=by
 obtain ⟨k,rfl⟩:=FP h
 clear h
 induction k with
 | zero=>exact C5 _
 | succ k ih=>exact ih.trans (iK after x0 (m+k))
def tZ(after:D9->List D9)(x0:D9)(n:Nat):(bfQ after x0 n).Nodup:=by
 induction n with
 | zero=>simp[bfQ]
 | succ n ih=>
  rw[bfQ]
  split
  · exact zD _ ih
  · exact ih
def zE(after:D9->List D9)(x0:D9)(n:Nat):(bfQ after x0 n)[0]? = some x0:=by
 obtain ⟨t,e⟩:=lN (after:=after) (x0:=x0) (CU n)
 rw[<-e];rfl
def gL{α:Type}{f g:List α}{i:Nat}{x:α}(h:f <+: g)(e:f[i]? = some x):g[i]? = some x:=by
 obtain ⟨t,rfl⟩:=h
 rw[BM (AG.mp e).1]
 exact e
def mM{α:Type}{f g:List α}{i:Nat}{x:α}(h:f <+: g)(hi:i < f.length)(e:g[i]? = some x):f[i]? = some x:=by
 obtain ⟨t,rfl⟩:=h
 rwa [BM hi] at e
def mX(after:D9->List D9)(fs:List D9)(x:D9):D9:=bF ((after x).map (nrQ fs))
def cU(after:D9->List D9)(fs:List D9)(n:Nat):List D9:=(fs.take n).map (mX after fs)
structure Sq.ok(S:Sq)(N:Nat):Prop where
 on:∀ m,m < N->m < (bfQ S.after S.x0 m).length/\S.stop (bfQ S.after S.x0 m) m=false
 off:(bfQ S.after S.x0 N).length<=N\/S.stop (bfQ S.after S.x0 N) N=true
 key:(∀ x∈bfQ S.after S.x0 N,gI x=true)\/(∀ x∈bfQ S.after S.x0 N,kT x=true)
 len:(bfQ S.after S.x0 N).length<=16000000
 hk1:S.k1<=12
 hk2:S.k2<=12
 hG:∀ m x,m < N->(bfQ S.after S.x0 N)[m]? = some x->(∃ d,S.G [x]=.ok d/\bA d=.ok (S.after x))/\(S.after x).length<=1000
 hD:∀ m,m<=N->m < (bfQ S.after S.x0 m).length->S.D [.list (bfQ S.after S.x0 m),.int (m:Int)]=.ok (.bool (S.stop (bfQ S.after S.x0 m) m))
def aI3{B:List D9}(h:(∀ x∈B,gI x=true)\/(∀ x∈B,kT x=true)){y:D9}{fs:List D9}(b:y∈B)(a:∀ x∈fs,x∈B):bJ y ((hV fs).map (·.1))=true:=by
 unfold bJ
 rw[sI,CH,AM,AM,A1,A1]
 exact h.imp (fun h=>⟨h y b,fun x hx=>h x (a x hx)⟩) (fun h=>⟨h y b,fun x hx=>h x (a x hx)⟩)
def rqρ(S:Sq)(fs:List D9)(gs:List D9)(u v:Option A):Sg:=[some (.d S.x0),some (.g S.k1 1 S.G),some (.g S.k2 2 S.D),some (.l fs),some (.m (hV fs)),some (.l gs),u,v]
def aOD{S:Sq}{B fs ys gs:List D9}{v:Option A}(C:(∀ x∈B,gI x=true)\/(∀ x∈B,kT x=true))(M:B.length<=16000000)(w:fs.Nodup)(L:adA fs ys <+: B)(N:ys.length<=1000) :
  ∃ v',fH (stN 7) rhF ys (rqρ S fs gs (some (.l [])) v)=.ok (.nx (rqρ S (adA fs ys) gs (some (.l ((ys.map (nrQ (adA fs ys))).map fun j:Nat=>.int (j:Int)))) v')):=by
 obtain ⟨J,z,v',D⟩:=eD (fs:=stN 7) (fb:=rhF) (d:=id) (xs:=ys) (ρ:=rqρ S fs gs (some (.l [])) v)
  (fun i ρ=>∃ v',ρ=rqρ S (adA fs (ys.take i)) gs (some (.l (((ys.take i).map (nrQ (adA fs (ys.take i)))).map fun j:Nat=>.int (j:Int)))) v') ⟨v,rfl⟩ fun i y ρ hi s=>by
  obtain ⟨v',e⟩:=s
  have E:ys.take (i+1)=ys.take i++[y]:=by rw[DB,hi];rfl
  have I:=(AG.mp hi).1
  have a:adA fs (ys.take (i+1)) <+: B:=by
   refine List.IsPrefix.trans ?_ L
   have:adA fs ys=adA (adA fs (ys.take (i+1))) (ys.drop (i+1)):=by
    unfold adA;rw[<-List.foldl_append,F9]
   rw[this];exact vF _ _
  have G:(adA fs (ys.take i)).Nodup:=zD _ w
  have k:(adA fs (ys.take (i+1))).Nodup:=zD _ w
  have p:∀ x∈ys.take (i+1),x∈adA fs (ys.take (i+1)):=fun x hx=>qT _ hx
  rw[E] at a k p
  rw[E,aHU] at *
  generalize H:adA fs (ys.take i)=F at *
  have h:y∈B:=a.subset (vE F y)
  have o:∀ x∈F,x∈B:=fun x hx=>a.subset ((qS F y).subset hx)
  have g:F.length < 16777216:=by
   have h1:=a.length_le
   have h2:=(qS F y).length_le
   omega
  have s1:=aI3 C h o
  have u:=aI3 C h (fs:=adQ F y) (fun x hx=>a.subset hx)
  have n:=aK9 k (vE F y)
  have m:(hV F).length<=16777216:=by rw[aK6];omega
  have t:∀ x∈ys.take i,x∈F:=fun x hx=>by rw[<-H];exact qT _ hx
  have f:(ys.take i++[y]).map (nrQ (adQ F y))=(ys.take i).map (nrQ F)++[nrQ (adQ F y) y]:=by
   rw[A8,GV]
   congr 1
   exact DE fun x hx=>vG (qS F y) (t x hx)
  have c:(ys.take i).length < 16777216:=by rw[BS];omega
  rw[f]
  refine ⟨rqρ S F gs (some (.l (((ys.take i).map (nrQ F)).map fun j:Nat=>.int (j:Int)))) (some (.d y)),_,by rw[e];simp[rqρ],.inl ?_,some (.d y),rfl⟩
  have r:dLen (.list F)=.ok (.int (F.length:Int)):=gC _
  have b:min i ys.length < 16777216:=by rw[BS] at c;exact c
  by_cases hm:y∈F
  .have q:=aBM.mpr hm
   rw[pS hm] at u n ⊢
   simp[rhF,rqρ,s1,q,n,b]
  .have q:=zC hm
   have K:=aK7 hm
   rw[nK hm] at u n ⊢
   simp[rhF,rqρ,s1,u,q,K,n,r,m,g,b]
 rw[List.map_id] at z
 rw[E2] at D
 exact ⟨v',by rw[z,D]⟩
def Sq.ok.le{S:Sq}{N:Nat}(O:S.ok N){m:Nat}(h:m<=N):bfQ S.after S.x0 m <+: bfQ S.after S.x0 N:=lN h
def aBN{S:Sq}{N m:Nat}(O:S.ok N)(h:m<=N){gs:List D9}(c:gs.length=m){u v:Option A}:rhT (rqρ S (bfQ S.after S.x0 m) gs u v)=.ok (decide (m < N)):=by
 have k2:=O.hk2
 subst c
 by_cases hl:gs.length < (bfQ S.after S.x0 gs.length).length
 .have a:=O.hD _ h hl
  have b:S.stop (bfQ S.after S.x0 gs.length) gs.length = !decide (gs.length < N):=by
   by_cases q:gs.length < N
   .rw[(O.on _ q).2,AV q];rfl
   .have e:gs.length=N:=by omega
    rcases O.off with z|z
    · rw [e] at hl; omega
    · rw [AZ q, e]; exact z
  rw[b] at a
  simp[rhT,rqρ,gC,hl,k2,a,qM]
 .have:¬ gs.length < N:=fun q=>hl (O.on _ q).1
  simp[rhT,rqρ,gC,hl,this]
def aLA{S:Sq}{N m:Nat}(O:S.ok N)(h:m < N){gs:List D9}(f:gs.length=m){u v:Option A}:∃ x u' v',(bfQ S.after S.x0 m)[m]? = some x/\rhB (rqρ S (bfQ S.after S.x0 m) gs u v)=.ok (.nx (rqρ S (bfQ S.after S.x0 (m+1)) (gs++[mX S.after (bfQ S.after S.x0 (m+1)) x]) u' v')):=by
 have a:=(O.on m h).1
 have hx:(bfQ S.after S.x0 m)[m]? = some (bfQ S.after S.x0 m)[m]:=AH a
 generalize (bfQ S.after S.x0 m)[m]=x at hx
 have k1:=O.hk1
 obtain ⟨⟨d,n,i⟩,g⟩:=O.hG m x h (gL (O.le (by omega)) hx)
 have e:=sJ hx
 have k:adA (bfQ S.after S.x0 m) (S.after x) <+: bfQ S.after S.x0 N:=by rw[<-e];exact O.le (by omega)
 obtain ⟨v',q⟩:=aOD (S:=S) (gs:=gs) (v:=v) O.key O.len (tZ S.after S.x0 m) k g
 rw[<-e] at q
 have o:dIx (.list (bfQ S.after S.x0 m)) (.int (m:Int))=.ok x:=lB (dU hx)
 have b:gs.length < 16777216:=by have:=(O.le (show m<=N by omega)).length_le;have:=O.len;omega
 have c:(S.after x).length<=16777216:=by omega
 refine ⟨x,some (.l (((S.after x).map (nrQ (bfQ S.after S.x0 (m+1)))).map fun j:Nat=>.int (j:Int))),v',hx,?_⟩
 subst f
 simp only[rqρ] at q
 simp[rhB,rqρ,gC,o,k1,n,i,q,b,mX,bF,c]
def aLB{S:Sq}{N:Nat}(O:S.ok N):∀ (k m:Nat) (u v:Option A),m+k=N->
  ∃ u' v',cC rhT rhB (rqρ S (bfQ S.after S.x0 m) (cU S.after (bfQ S.after S.x0 m) m) u v)=.ok (.nx (rqρ S (bfQ S.after S.x0 N) (cU S.after (bfQ S.after S.x0 N) N) u' v')):=by
 have c:∀ m,m<=N->(∀ a,a < m->a < (bfQ S.after S.x0 a).length)->m<=(bfQ S.after S.x0 m).length:=fun m d h=>by
  cases m with
  | zero=>omega
  | succ m=>have h1:=h m (by omega);have h2:=(iK S.after S.x0 m).length_le;omega
 intro k
 induction k with
 | zero=>
  intro m u v d
  have d:m=N:=by omega
  subst d
  have g:=c m (by omega) fun a h=>(O.on a h).1
  have f:(cU S.after (bfQ S.after S.x0 m) m).length=m:=by unfold cU;rw[AC,BS];omega
  rw[jO (by rw[aBN O (AJ m) f,AZ (by omega)])]
  exact ⟨u,v,rfl⟩
 | succ k ih=>
  intro m u v d
  have b:m < N:=by omega
  have g:=c m (by omega) fun a h=>(O.on a (by omega)).1
  have f:(cU S.after (bfQ S.after S.x0 m) m).length=m:=by unfold cU;rw[AC,BS];omega
  obtain ⟨x,u',v',hx,q⟩:=aLA O b f (u:=u) (v:=v)
  rw[mL (by rw[aBN O (by omega) f,AV b]) q]
  have e:cU S.after (bfQ S.after S.x0 m) m++[mX S.after (bfQ S.after S.x0 (m+1)) x]=cU S.after (bfQ S.after S.x0 (m+1)) (m+1):=by
   unfold cU
   have o:(bfQ S.after S.x0 (m+1)).take (m+1)=(bfQ S.after S.x0 m).take m++[x]:=by
    obtain ⟨t,r⟩:=iK S.after S.x0 m
    have p:=(AG.mp hx).1
    rw[<-r,List.take_append_of_le_length (by omega),DB,hx];rfl
   rw[o,A8,GV]
   congr 1
   refine DE fun y s=>?_
   unfold mX
   congr 1
   refine DE fun z hz=>?_
   obtain ⟨j,n⟩:=BR s
   have i:j < m:=by
    have:=(AG.mp n).1
    rw[BS] at this;omega
   rw[List.getElem?_take,if_pos i] at n
   refine (vG (iK S.after S.x0 m) ?_).symm
   have l:(bfQ S.after S.x0 j)[j]? = some y:=mM (O.le (by omega)) ((O.on j (by omega)).1) (gL (O.le (by omega)) n)
   have:=qT (fs:=bfQ S.after S.x0 j) _ hz
   rw[<-sJ l] at this
   exact (lN (by omega)).subset this
  rw[e]
  exact ih (m+1) u' v' (by omega)
def aRG{S:Sq}{N:Nat}(O:S.ok N):jN [.d S.x0,.g S.k1 1 S.G,.g S.k2 2 S.D]=.ok (.d (.tuple [.list (bfQ S.after S.x0 N),.list (cU S.after (bfQ S.after S.x0 N) N)])):=by
 obtain ⟨u,v,q⟩:=aLB O N 0 none none (by omega)
 have h0:=AU (zE S.after S.x0 N)
 have a:bJ S.x0 []=true:=by
  unfold bJ
  rw[CH,AM,AM]
  exact O.key.imp (fun h=>⟨h _ h0,rfl⟩) (fun h=>⟨h _ h0,rfl⟩)
 have hi:hV [S.x0]=[(S.x0,.int 0)]:=rfl
 have b:Fl.dA [] [(S.x0,.int 0)]=.ok [(S.x0,.int 0)]:=by simp[Fl.dA,a,putM,bP,cK]
 unfold jN
 rw[aOB]
 simp only[rqρ,bfQ,cU,List.take_zero,hi,DR] at q
 simp[b,q,cU]
end Mc
namespace Fl
open PySem L2 PyProof.Rows
@[simp] theorem aHV(i:Nat)(f g:Sg->R D9)(ρ:Sg):xB i f g ρ=match ρ[i]? with
 | some (some (.m kvs))=>(f ρ).bind fun k=>(g ρ).bind fun y=>if bJ k (kvs.map (·.1))=true/\kvs.length<=16777216 then .ok (.nx (if bP kvs k=true then ρ else ρ.set i (some (.m (putM kvs k y))))) else .bad
 | _=>.bad:=id rfl
@[simp] theorem aLC(i:Nat)(ρ:Sg):aCT i ρ=match ρ[i]? with
 | some (some (.l xs))=>.ok (.nx (ρ.set i (some (.l xs.reverse))))
 | _=>.bad:=id rfl
def sK{x:D9}{xs:List D9}(h:bA x=.ok xs):j3 x=.ok (xs.zipIdx.map y0):=by
 unfold j3;rw[h];rfl
end Fl
namespace Mc
open PySem L2 PyProof.Rows Fl
mutual
def nbD:D9->Bool
 | .bool _=>false
 | .dict _=>false
 | .list xs=>oQ xs
 | .tuple xs=>oQ xs
 | _=>true
def oQ:List D9->Bool
 | []=>true
 | x::t=>nbD x && oQ t
end
theorem aBO:∀ {xs:List D9},(∀ x∈xs,nbD x=true)->oQ xs=true
 | [],_=>rfl
 | x::t,h=>by
  show (nbD x && oQ t)=true
  rw[h x AQ,aBO fun y a=>h y (AI _ a)];rfl
mutual
theorem t5:∀ d:D9,d.canLay0=true->d.eqv d=true
 | .none,_=>by rfl
 | .bool b,_=>by simp[PyData.eqv]
 | .int i,_=>by simp[PyData.eqv]
 | .str x,_=>by simp[PyData.eqv]
 | .list xs,h=>by
  show PyData.eqvAll xs xs=true
  exact vH xs h
 | .tuple xs,h=>by
  show PyData.eqvAll xs xs=true
  exact vH xs h
 | .dict _,h=>by cases h
theorem vH:∀ xs:List D9,PyData.canLayAll0 xs=true->PyData.eqvAll xs xs=true
 | [],_=>by rfl
 | x::t,h=>by
  have h':(x.canLay0 && PyData.canLayAll0 t)=true:=h
  rw[AM] at h'
  show (x.eqv x && PyData.eqvAll t t)=true
  rw[t5 x h'.1,vH t h'.2];rfl
end
mutual
theorem aFL:∀ x y:D9,nbD x=true->nbD y=true->x.eqv y=true->x=y
 | .none,.none,_,_,_=>rfl
 | .int i,.int j,_,_,h=>by simp[PyData.eqv] at h;rw[h]
 | .str i,.str j,_,_,h=>by simp[PyData.eqv] at h;rw[h]
 | .list xs,.list ys,h1,h2,h=>by rw[vI xs ys h1 h2 h]
 | .tuple xs,.tuple ys,h1,h2,h=>by rw[vI xs ys h1 h2 h]
 | .bool _,_,h,_,_=>by cases h
 | .dict _,_,h,_,_=>by cases h
 | _,.bool _,_,h,_=>by cases h
 | _,.dict _,_,h,_=>by cases h
 | .none,.int _,_,_,h=>by simp[PyData.eqv] at h
 | .none,.str _,_,_,h=>by simp[PyData.eqv] at h
 | .none,.list _,_,_,h=>by simp[PyData.eqv] at h
 | .none,.tuple _,_,_,h=>by simp[PyData.eqv] at h
 | .int _,.none,_,_,h=>by simp[PyData.eqv] at h
 | .int _,.str _,_,_,h=>by simp[PyData.eqv] at h
 | .int _,.list _,_,_,h=>by simp[PyData.eqv] at h
 | .int _,.tuple _,_,_,h=>by simp[PyData.eqv] at h
 | .str _,.none,_,_,h=>by simp[PyData.eqv] at h
 | .str _,.int _,_,_,h=>by simp[PyData.eqv] at h
 | .str _,.list _,_,_,h=>by simp[PyData.eqv] at h
 | .str _,.tuple _,_,_,h=>by simp[PyData.eqv] at h
 | .list _,.none,_,_,h=>by simp[PyData.eqv] at h
 | .list _,.int _,_,_,h=>by simp[PyData.eqv] at h
 | .list _,.str _,_,_,h=>by simp[PyData.eqv] at h
 | .list _,.tuple _,_,_,h=>by simp[PyData.eqv] at h
 | .tuple _,.none,_,_,h=>by simp[PyData.eqv] at h
 | .tuple _,.int _,_,_,h=>by simp[PyData.eqv] at h
 | .tuple _,.str _,_,_,h=>by simp[PyData.eqv] at h
 | .tuple _,.list _,_,_,h=>by simp[PyData.eqv] at h
theorem vI:∀ xs ys:List D9,oQ xs=true->oQ ys=true->PyData.eqvAll xs ys=true->xs=ys
 | [],[],_,_,_=>rfl
 | [],_::_,_,_,h=>by simp[PyData.eqvAll] at h
 | _::_,[],_,_,h=>by simp[PyData.eqvAll] at h
 | x::xs,y::ys,h1,h2,h=>by
  have h1':(nbD x && oQ xs)=true:=h1
  have a:(nbD y && oQ ys)=true:=h2
  have h':(x.eqv y && PyData.eqvAll xs ys)=true:=h
  rw[AM] at h1' a h'
  rw[aFL x y h1'.1 a.1 h'.1,vI xs ys h1'.2 a.2 h'.2]
end
def zF{d:D9}(h:SeqAt.shaped d=true):d.canLay0=true:=by
 have h':(d.canLay0 && decide (d.depth<=64))=true:=h
 rw[AM] at h'
 exact h'.1
def aFM{x y:D9}(hx:nbD x=true)(a:nbD y=true)(l:SeqAt.shaped x=true):x.eqv y=decide (x=y):=by
 by_cases h:x=y
 .subst h;rw[t5 x (zF l),AV rfl]
 .rw[AZ h]
  cases q:x.eqv y with
  | false=>rfl
  | true=>exact absurd (aFL x y hx a q) h
structure Cp(d:D9):Prop where
 nb:nbD d=true
 sh:SeqAt.shaped d=true
def aOE{x:D9}(h:SeqAt.shaped x=true):dEq x x=.ok (.bool true):=by rw[y9 h h,t5 x (zF h)]
def mD{x:D9}(h:SeqAt.shaped x=true):dNe x x=.ok (.bool false):=by rw[pQ h h,t5 x (zF h)];rfl
def aRH(rs:List Rw)(x:D9)(k:Nat):D9:=match aHP [.d x,.d (aN9 rs k)] with
 | .ok (.d y)=>y
 | _=>.none
def tc(m:Nat):Tn->Nat
 | .n i=>i.toNat
 | .w x=>if x="by" then m else if x="out" then m+1 else m+2
structure Ctr(rs:List Rw)(sg p q:Nat):Prop where
 len:rs.length=p+1+q
 p1:1<=p
 p5:p<=5
 q1:1<=q
 q5:q<=5
 lef:(k6 rs 0).l=.n 0
 mid:(k6 rs (p:Int)).l=.n ((p:Int)+1)
 a:∀ i:Nat,i < p->∀ k,k < sg->ck k (k6 rs (i:Int))=((((i+(if k=0 then 1 else 0)) % p:Nat):Int),1)
 b:∀ k,k < sg->ck k (k6 rs (p:Int))=((p:Int),-1)
 c:∀ j:Nat,j < q->∀ k,k < sg->ck k (k6 rs ((p+1+j:Nat):Int))=(((p+1+(j+(if k=sg - 1 then 1 else 0)) % q:Nat):Int),1)
def aHW{P:List Nat->Prop}(h0:P [])(a:∀ z c,P z->P (z++[c]))(z:List Nat):P z:=by
 rw[<-List.reverse_reverse z]
 induction z.reverse with
 | nil=>exact h0
 | cons c t ih=>rw[DZ];exact a _ _ ih
end Mc
namespace Mb
open Classical
section
variable{τ:Type}(g:τ->Nat->τ)(t0:τ)(cs:List Nat)
variable{g t0 cs}
end
end Mb
namespace Mc
open PySem L2 PyProof.Rows Fl
def stD(z:List Nat):D9:=.str ⟨z.toArray⟩
def sgT(sg:Nat):Str:=Txt.slice "abc" none (some (sg:Int))
def aBP{sg:Nat}(s1:1<=sg)(a:sg<=3):(sgT sg).cps.toList=[97,98,99].take sg:=aJR s1 a
def aLD{sg:Nat}(s1:1<=sg)(a:sg<=3):(sgT sg).cps.toList.length<=3:=by rw[aBP s1 a,BS];simp;omega
abbrev PZ:=D9×List Nat
def adP(z:List Nat)(l:List PZ)(y:D9×Nat):List PZ:=if y.1∈l.map (·.1) then l else l++[(y.1,z++[97+y.2])]
def bfP(after:D9->List D9)(x0:D9):Nat->List PZ
 | 0=>[(x0,[])]
 | n+1=>match (bfP after x0 n)[n]? with
  | some p=>(after p.1).zipIdx.foldl (adP p.2) (bfP after x0 n)
  | none=>bfP after x0 n
def aLE(z:List Nat)(l:List PZ)(y:D9×Nat):(adP z l y).map (·.1)=adQ (l.map (·.1)) y.1:=by
 unfold adP adQ
 split
 · rfl
 · rw [A8]; rfl
def qU(z:List Nat)(l:List PZ)(y:D9×Nat):l <+: adP z l y:=by
 unfold adP
 split
 · exact C5 _
 · exact List.prefix_append ..
def aHX(z:List Nat)(ys:List (D9×Nat)):∀ l:List PZ,(ys.foldl (adP z) l).map (·.1)=adA (l.map (·.1)) (ys.map (·.1)):=by
 induction ys with
 | nil=>intro l;rfl
 | cons y t ih=>intro l;rw[DT,ih,aLE];rfl
def iL(z:List Nat)(ys:List (D9×Nat)):∀ l:List PZ,l <+: ys.foldl (adP z) l:=by
 induction ys with
 | nil=>exact fun l=>C5 _
 | cons y t ih=>exact fun l=>(qU z l y).trans (ih _)
def dI(after:D9->List D9)(x0:D9)(n:Nat):(bfP after x0 n).map (·.1)=bfQ after x0 n:=by
 induction n with
 | zero=>rfl
 | succ n ih=>
  have e:(bfQ after x0 n)[n]? = ((bfP after x0 n)[n]?).map (·.1):=by rw[<-ih,AN]
  cases q:(bfP after x0 n)[n]? with
  | none=>rw[q] at e;rw[bfP,bfQ,q,e];exact ih
  | some p=>
   rw[q] at e
   rw[bfP,bfQ,q,e]
   simp only[E9]
   rw[aHX,ih]
   congr 1
   exact GO 0 _
def aHY(after:D9->List D9)(x0:D9)(n:Nat):bfP after x0 n <+: bfP after x0 (n+1):=by
 rw[bfP]
 split
 · exact iL _ _ _
 · exact C5 _
def nL{after:D9->List D9}{x0:D9}{m n:Nat}(h:m<=n):bfP after x0 m <+: bfP after x0 n:=by
 obtain ⟨k,rfl⟩:=FP h
 clear h
 induction k with
 | zero=>exact C5 _
 | succ k ih=>exact ih.trans (aHY after x0 (m+k))
def zG(after:D9->List D9)(x0:D9)(n:Nat):(bfP after x0 n)[0]? = some (x0,[]):=by
 obtain ⟨t,e⟩:=nL (after:=after) (x0:=x0) (CU n)
 rw[<-e];rfl
def dQ(after:D9->List D9)(x0:D9)(n:Nat):(bfP after x0 n).length=(bfQ after x0 n).length:=by rw[<-dI,AC]
def mE{after:D9->List D9}{x0:D9}{n:Nat}{p:PZ}(h:(bfP after x0 n)[n]? = some p):bfP after x0 (n+1)=(after p.1).zipIdx.foldl (adP p.2) (bfP after x0 n):=by rw[bfP,h]
def kE{a:List (D9×D9)}{k v b:D9}(h:bP a k=false):cK (putM a k v) b=if b=k then some v else cK a b:=by
 have h':cK a k=none:=by
  unfold bP at h
  cases q:cK a k with
  | none=>rfl
  | some x=>rw[q] at h;cases h
 unfold putM
 rw[h,if_neg (by decide)]
 unfold cK at h' ⊢
 rw[List.find?_append]
 by_cases e:b=k
 .subst e
  have:a.find? (fun p=>decide (p.1=b))=none:=by
   cases q:a.find? (fun p=>decide (p.1=b)) with
   | none=>rfl
   | some x=>rw[q] at h';cases h'
  rw[if_pos rfl,this]
  simp
 .rw[if_neg e]
  cases q:a.find? (fun p=>decide (p.1=b)) with
  | none=>simp[Ne.symm e]
  | some x=>rfl
def aLF{a:List (D9×D9)}{k v:D9}(h:bP a k=false):(putM a k v).length=a.length+1:=by
 unfold putM;rw[h,if_neg (by decide)];simp
def zI{a:List (D9×D9)}{k v:D9}(h:bP a k=false):(putM a k v).map (·.1)=a.map (·.1)++[k]:=by
 unfold putM;rw[h,if_neg (by decide),A8];rfl
structure Came(L:List PZ)(D:List (D9×D9))(m:Nat):Prop where
 got:∀ (j:Nat) (x:D9) (z:List Nat),1<=j->j < m->L[j]? = some (x,z)->∃ (i k:Nat) (x':D9) (z':List Nat),cK D (.int (j:Int))=some (.tuple [.int (i:Int),.str ⟨#[97+k]⟩])/\L[i]? = some (x',z')/\i < j/\z=z'++[97+k]
 new:∀ j:Nat,m<=j->bP D (.int (j:Int))=false
 key:∀ p∈D.map (·.1),kT p=true
def Came.same{L:List PZ}{D:List (D9×D9)}{m:Nat}(C:Came L D m)(j:Int):bJ (.int j) (D.map (·.1))=true:=by
 unfold bJ
 rw[CH,AM,AM]
 exact .inr ⟨rfl,A1.mpr C.key⟩
def t6{i j:Nat}(h:i≠j):(PyData.int (i:Int))≠.int (j:Int):=fun z=>by cases z;exact h rfl
def Came.step{L:List PZ}{D:List (D9×D9)}{m i k j:Nat}{x y:D9}{z:List Nat}(C:Came L D m)(h1:1<=m)(A:m<=L.length)(hi:L[i]? = some (x,z))(w:i < m)(d:j < m\/(j=m/\L[j]? = some (y,z++[97+k]))) :
  Came L (if bP D (.int (j:Int))=true then D else putM D (.int (j:Int)) (.tuple [.int (i:Int),.str ⟨#[97+k]⟩])) (if j < m then m else m+1)/\(if bP D (.int (j:Int))=true then D else putM D (.int (j:Int)) (.tuple [.int (i:Int),.str ⟨#[97+k]⟩])).length<=D.length+1:=by
 refine ⟨?_,?_⟩
 .rcases d with d|⟨rfl,d⟩
  .rw[if_pos d]
   cases q:bP D (.int (j:Int)) with
   | true=>rw[if_pos rfl];exact C
   | false=>
    rw[if_neg (by decide)]
    have hz:j=0:=by
     rcases Nat.eq_zero_or_pos j with z|z
     .exact z
     .obtain ⟨s,o,n,t,g,_⟩:=C.got j _ _ z d (AH (show j < L.length by omega))
      unfold bP at q
      rw[g] at q;cases q
    subst hz
    refine ⟨fun c n t a b e=>?_,fun c f=>?_,fun p l=>?_⟩
    .obtain ⟨s,o,v,u,g,r⟩:=C.got c n t a b e
     exact ⟨s,o,v,u,by rw[kE q,if_neg (t6 (by omega))];exact g,r⟩
    .have:=C.new c f
     unfold bP at this ⊢
     rw[kE q,if_neg (t6 (by omega))];exact this
    .rw[zI q] at l
     rcases A4.mp l with h|h
     .exact C.key p h
     .rw[AL.mp h];rfl
  .have q:=C.new j (AJ _)
   rw[q,if_neg (by decide),if_neg (show ¬ j < j by omega)]
   refine ⟨fun c n t a b e=>?_,fun c f=>?_,fun p l=>?_⟩
   .by_cases hjj:c=j
    .subst hjj
     rw[d] at e
     cases e
     exact ⟨i,k,x,z,by rw[kE q,if_pos rfl],hi,w,rfl⟩
    .obtain ⟨s,o,v,u,g,r⟩:=C.got c n t a (by omega) e
     exact ⟨s,o,v,u,by rw[kE q,if_neg (t6 hjj)];exact g,r⟩
   .have:=C.new c (by omega)
    unfold bP at this ⊢
    rw[kE q,if_neg (t6 (by omega))];exact this
   .rw[zI q] at l
    rcases A4.mp l with h|h
    .exact C.key p h
    .rw[AL.mp h];rfl
 .cases q:bP D (.int (j:Int)) with
  | true=>rw[if_pos rfl];omega
  | false=>rw[if_neg (by decide),aLF q];omega
theorem aLG:∀ {js:List Nat},js.length<=3->jD (.str "abc") (bF js)=.ok (js.zipIdx.map fun p=>.tuple [.str ⟨#[97+p.2]⟩,.int (p.1:Int)])
 | [],_=>rfl
 | [_],_=>rfl
 | [_,_],_=>rfl
 | [_,_,_],_=>rfl
 | _::_::_::_::_,h=>by simp at h
section
variable{after:D9->List D9}{x0:D9}{N:Nat}
def aOF{i:Nat}{x:D9}{z:List Nat}{D:List (D9×D9)}{a b u v w:Option A}(hi:(bfP after x0 i)[i]? = some (x,z))(T:i < N)(h3:(after x).length<=3)(C:Came (bfP after x0 N) D (bfP after x0 i).length)(hD:D.length<=1000000) :
  ∃ D' u' v',fH (stT [(stN 5),(stN 6)]) stF (((after x).map (nrQ (bfQ after x0 N))).zipIdx.map fun p=>.tuple [.str ⟨#[97+p.2]⟩,.int (p.1:Int)]) [a,b,some (.m D),some (.d (.int (i:Int))),w,u,v,none]=.ok (.nx [a,b,some (.m D'),some (.d (.int (i:Int))),w,u',v',none])/\Came (bfP after x0 N) D' (bfP after x0 (i+1)).length/\D'.length<=D.length+3:=by
 have L:=mE hi
 have W:=(AG.mp hi).1
 have l:(bfP after x0 N)[i]? = some (x,z):=gL (nL (by omega)) hi
 obtain ⟨X,Y,D',u',v',Z,o,n⟩:=eD (fs:=stT [(stN 5),(stN 6)]) (fb:=stF) (d:=fun p:Nat×Nat=>PyData.tuple [.str ⟨#[97+p.2]⟩,.int (p.1:Int)]) (xs:=((after x).map (nrQ (bfQ after x0 N))).zipIdx) (ρ:=[a,b,some (.m D),some (.d (.int (i:Int))),w,u,v,none])
  (fun k ρ=>∃ D' u' v',ρ=[a,b,some (.m D'),some (.d (.int (i:Int))),w,u',v',none]/\Came (bfP after x0 N) D' (((after x).zipIdx.take k).foldl (adP z) (bfP after x0 i)).length/\D'.length<=D.length+k) ⟨D,u,v,rfl,C,by omega⟩ fun k p ρ g E=>by
  obtain ⟨D',u',v',e,o,n⟩:=E
  obtain ⟨V,kk⟩:=p
  rw[C8] at g
  obtain ⟨Q,y,hy,t,s⟩:k < (after x).length/\∃ y,(after x)[k]? = some y/\nrQ (bfQ after x0 N) y=V/\k=kk:=by
   cases q:(after x)[k]? with
   | none=>rw[AN,q] at g;cases g
   | some y=>
    rw[AN,q] at g
    simp only[E9,HM,G9,Prod.mk.injEq] at g
    exact ⟨(AG.mp q).1,y,rfl,g.1,g.2⟩
  subst t s
  have hz:(after x).zipIdx[k]? = some (y,k):=by rw[C8,hy];simp
  have ht:(after x).zipIdx.take (k+1)=(after x).zipIdx.take k++[(y,k)]:=by rw[DB,hz];rfl
  have c:((after x).zipIdx.take (k+1)).foldl (adP z) (bfP after x0 i) <+: bfP after x0 N:=by
   refine List.IsPrefix.trans ?_ (nL (show i+1<=N by omega))
   rw[L]
   have:(after x).zipIdx.foldl (adP z) (bfP after x0 i)=((after x).zipIdx.drop (k+1)).foldl (adP z) (((after x).zipIdx.take (k+1)).foldl (adP z) (bfP after x0 i)):=by
    rw[<-List.foldl_append,F9]
   rw[this];exact iL _ _ _
  rw[ht,D8,DT,GR] at c ⊢
  have f:=iL z ((after x).zipIdx.take k) (bfP after x0 i)
  generalize ((after x).zipIdx.take k).foldl (adP z) (bfP after x0 i)=F at *
  have U:(bfP after x0 i).length<=F.length:=f.length_le
  have G:F.length<=(bfP after x0 N).length:=((qU z F (y,k)).trans c).length_le
  have H:(adP z F (y,k)).map (·.1) <+: bfQ after x0 N:=by rw[<-dI];exact c.map _
  have I:F.map (·.1) <+: bfQ after x0 N:=by rw[<-dI];exact ((qU z F (y,k)).trans c).map _
  have J:(nrQ (bfQ after x0 N) y < F.length/\(adP z F (y,k)).length=F.length)\/((nrQ (bfQ after x0 N) y=F.length/\(bfP after x0 N)[nrQ (bfQ after x0 N) y]? = some (y,z++[97+k]))/\(adP z F (y,k)).length=F.length+1):=by
   by_cases hm:y∈F.map (·.1)
   .refine .inl ⟨?_,by unfold adP;rw[if_pos hm]⟩
    rw[vG I hm]
    have:=GU hm
    rw[AC] at this
    exact this
   .have O:adP z F (y,k)=F++[(y,z++[97+k])]:=if_neg hm
    rw[O] at c H
    have K:(bfP after x0 N)[F.length]? = some (y,z++[97+k]):=gL c (by simp)
    have M:nrQ (bfQ after x0 N) y=F.length:=by
     have h1:(bfQ after x0 N)[F.length]? = some y:=by rw[<-dI,AN,K];rfl
     exact aI2 (tZ after x0 N) (aFK (AU h1)) h1
    exact .inr ⟨⟨M,by rw[M];exact K⟩,by rw[O];simp⟩
  obtain ⟨P,l2⟩:=o.step (i:=i) (k:=k) (j:=nrQ (bfQ after x0 N) y) (y:=y) (by omega) G l (by omega) (J.imp (·.1) (·.1))
  have r:(if nrQ (bfQ after x0 N) y < F.length then F.length else F.length+1)=(adP z F (y,k)).length:=by
   rcases J with h|h
   .rw[if_pos h.1,h.2]
   .rw[if_neg (by omega),h.2]
  rw[r] at P
  have S:=o.same (nrQ (bfQ after x0 N) y:Int)
  have B:D'.length<=16777216:=by omega
  refine ⟨[a,b,some (.m D'),some (.d (.int (i:Int))),w,some (.d (.str ⟨#[97+k]⟩)),some (.d (.int (nrQ (bfQ after x0 N) y:Int))),none],_,by rw[e];rfl,.inl ?_,_,some (.d (.str ⟨#[97+k]⟩)),some (.d (.int (nrQ (bfQ after x0 N) y:Int))),rfl,P,by omega⟩
  simp only[stF,aHV,BC,BK,xC,R.bind_ok,aBI,fQ,gB,BI,CP,Nat.reduceAdd,Nat.reduceLeDiff,if_true,S,B,and_self,B1,B2]
  cases q:bP D' (.int (nrQ (bfQ after x0 N) y:Int)) with
  | true=>simp
  | false=>simp
 subst Z
 refine ⟨D',u',v',Y,?_,?_⟩
 .rw[L]
  rwa [FQ (by simp)] at o
 .rw[CO,AC] at n
  omega
def aLH{a:D9}{b:Option A}(k:∀ m,m < N->m < (bfQ after x0 m).length)(P:∀ i x,i < N->(bfQ after x0 N)[i]? = some x->(after x).length<=3)(hN:N<=100000) :
  ∃ D r s u v,fH (stT [(stN 3),(stN 4)]) stO ((cU after (bfQ after x0 N) N).zipIdx.map y0) [some (.d a),b,some (.m []),none,none,none,none,none]=.ok (.nx [some (.d a),b,some (.m D),r,s,u,v,none])/\Came (bfP after x0 N) D (bfP after x0 N).length:=by
 have L:N<=(bfQ after x0 N).length:=by
  cases N with
  | zero=>omega
  | succ n=>have a:=k n (by omega);have b:=(iK after x0 n).length_le;omega
 have t:(cU after (bfQ after x0 N) N).length=N:=by unfold cU;rw[AC,BS];omega
 obtain ⟨G,K,D,r,s,u,v,M,C,_⟩:=eD (fs:=stT [(stN 3),(stN 4)]) (fb:=stO) (d:=y0) (xs:=(cU after (bfQ after x0 N) N).zipIdx) (ρ:=[some (.d a),b,some (.m []),none,none,none,none,none])
  (fun i ρ=>∃ D r s u v,ρ=[some (.d a),b,some (.m D),r,s,u,v,none]/\Came (bfP after x0 N) D (bfP after x0 i).length/\D.length<=3 * i) ⟨[],none,none,none,none,rfl,⟨fun j x z h1 h2 _=>by simp[bfP] at h2;omega,fun j _=>rfl,fun p f=>by simp at f⟩,by simp⟩ fun i p ρ f B=>by
  obtain ⟨D,r,s,u,v,e,C,Q⟩:=B
  obtain ⟨H,S⟩:=p
  rw[C8] at f
  have c:i < N:=by
   rcases HN i N with h|h
   · exact h
   · rw [ET (by omega)] at f; cases f
  have y:=k i c
  obtain ⟨⟨x,z⟩,g⟩:∃ p,(bfP after x0 i)[i]? = some p:=⟨_,AH (show i < (bfP after x0 i).length by rw[dQ];exact y)⟩
  have hx:(bfQ after x0 N)[i]? = some x:=by
   have:=gL (nL (show i<=N by omega)) g
   rw[<-dI,AN,this];rfl
  have l:(cU after (bfQ after x0 N) N)[i]? = some (mX after (bfQ after x0 N) x):=by
   unfold cU
   rw[AN,List.getElem?_take,if_pos c,hx];rfl
  rw[l] at f
  simp only[E9,HM,G9,Prod.mk.injEq] at f
  obtain ⟨rfl,rfl⟩:=f
  have o:=P i x c hx
  obtain ⟨J,I,E,q,F,O⟩:=aOF (N:=N) (a:=some (.d a)) (b:=b) (u:=u) (v:=v) (w:=some (.d (mX after (bfQ after x0 N) x))) g c o C (by omega)
  refine ⟨[some (.d a),b,some (.m D),some (.d (.int (i:Int))),some (.d (mX after (bfQ after x0 N) x)),u,v,none],_,by rw[e];rfl,.inl ?_,J,some (.d (.int (i:Int))),some (.d (mX after (bfQ after x0 N) x)),I,E,rfl,F,by omega⟩
  have hz:jD (.str "abc") (mX after (bfQ after x0 N) x)=_:=aLG (js:=(after x).map (nrQ (bfQ after x0 N))) (by rw[AC];exact o)
  simp only[stO,qQ,kI,i5,xC,BC,BK,R.bind_ok,hz,q]
 subst M
 rw[CO,t] at C
 exact ⟨D,r,s,u,v,K,C⟩
def aLI{L:List PZ}{D:List (D9×D9)}(C:Came L D L.length)(h0:L[0]? = some (x0,[])):∀ (n j:Nat) (x:D9) (z:List Nat) (acc:List D9) (a r s u v:Option A),j<=n->L[j]? = some (x,z)->acc.length+j<=1000000->
  z.length<=j/\cC stQ stW [a,some (.d (.int (j:Int))),some (.m D),r,s,u,v,some (.l acc)]=.ok (.nx [a,some (.d (.int 0)),some (.m D),r,s,u,v,some (.l (acc++z.reverse.map fun c=>.str ⟨#[c]⟩))]):=by
 intro n
 induction n with
 | zero=>
  intro j x z acc a r s u v E b q
  have:j=0:=by omega
  subst this
  rw[h0] at b
  cases b
  refine ⟨by simp,?_⟩
  rw[jO (by simp[stQ,zB])]
  simp
 | succ n ih=>
  intro j x z acc a r s u v E b q
  rcases Nat.eq_zero_or_pos j with hz|hz
  .subst hz
   rw[h0] at b
   cases b
   refine ⟨by simp,?_⟩
   rw[jO (by simp[stQ,zB])]
   simp
  .obtain ⟨i,k,o,B,g,hi,p,rfl⟩:=C.got j x z hz (AG.mp b).1 b
   obtain ⟨F,w1⟩:=ih i o B (acc++[.str ⟨#[97+k]⟩]) a r s u v (by omega) hi (by simp;omega)
   refine ⟨by simp;omega,?_⟩
   have w:=C.same (j:Int)
   have f:¬ (j:Int)=0:=by omega
   have y:stQ [a,some (.d (.int (j:Int))),some (.m D),r,s,u,v,some (.l acc)]=.ok true:=by simp[stQ,zB,f];omega
   have h:dIx (.tuple [.int (i:Int),.str ⟨#[97+k]⟩]) (.int 0)=.ok (.int (i:Int)):=rfl
   have i1:dIx (.tuple [.int (i:Int),.str ⟨#[97+k]⟩]) (.int 1)=.ok (.str ⟨#[97+k]⟩):=rfl
   have e:acc.length < 16777216:=by omega
   have t:stW [a,some (.d (.int (j:Int))),some (.m D),r,s,u,v,some (.l acc)]=.ok (.nx [a,some (.d (.int (i:Int))),some (.m D),r,s,u,v,some (.l (acc++[.str ⟨#[97+k]⟩]))]):=by
    simp[stW,w,g,h,i1,e]
   rw[mL y t,w1]
   simp
def aHZ(z:List Nat)(h:z.length<=1000000):aCL (.str "") (.list (z.map fun c=>.str ⟨#[c]⟩))=.ok (stD z):=by
 have b:oG (z.map fun c=>PyData.str ⟨#[c]⟩)=some (z.map one):=by
  clear h
  induction z with
  | nil=>rfl
  | cons a t ih=>simp only[AX,oG,ih];rfl
 show (match oG (z.map fun c=>PyData.str ⟨#[c]⟩) with|some ys=>if _ then R.ok _ else .bad|none=>.bad)=_
 rw[b]
 simp only
 rw[if_pos (by rw[aJU,AC];show z.length+z.length * 0<=_;omega),aJW];rfl
def aP3(c:∀ m,m < N->m < (bfQ after x0 m).length)(k:∀ i x,i < N->(bfQ after x0 N)[i]? = some x->(after x).length<=3)(hN:N<=100000)(l:(bfQ after x0 N).length<=400000){j:Nat}{x:D9}{z:List Nat}(g:(bfP after x0 N)[j]? = some (x,z)) :
  j4 [.d (.list (cU after (bfQ after x0 N) N)),.d (.int (j:Int))]=.ok (.d (stD z)):=by
 obtain ⟨D,r,s,u,v,q,C⟩:=aLH (a:=.list (cU after (bfQ after x0 N) N)) (b:=some (.d (.int (j:Int)))) c k hN
 have f:=(AG.mp g).1
 rw[dQ] at f
 obtain ⟨hz,w⟩:=aLI C (zG after x0 N) j j x z [] (some (.d (.list (cU after (bfQ after x0 N) N)))) r s u v (AJ _) g (by simp;omega)
 have h:=sK (iJ (xs:=cU after (bfQ after x0 N) N) (by unfold cU;rw[AC,BS];omega))
 have e:=aHZ z (by omega)
 unfold j4
 rw[oM]
 rw[DU] at w
 simp only[pM,cO,aHQ,R.bind_ok,BI,CP,Nat.reduceAdd,Nat.reduceSub,AX,DR,DH,DU,List.replicate,B1,B2,qQ,oN,xC,BC,BK,h,q,oO,lJ,gB,CU,if_true,w,aLC,List.map_reverse,GI,aBJ,lA,kI,i5,kJ,e]
end
section
variable{after:D9->List D9}{x0:D9}
def aH0{n:Nat}(h:(bfQ after x0 n).length<=n):bfP after x0 (n+1)=bfP after x0 n:=by
 have:(bfP after x0 n)[n]? = none:=ET (by rw[dQ];exact h)
 rw[bfP,this]
theorem oR{m:Nat}(h:(bfQ after x0 m).length<=m):∀ k,bfP after x0 (m+k)=bfP after x0 m
 | 0=>rfl
 | k+1=>by
  have ih:=oR h k
  have:(bfQ after x0 (m+k)).length<=m+k:=by rw[<-dQ,ih,dQ];omega
  rw[<-Nat.add_assoc,aH0 this,ih]
def gM{m n:Nat}(h:(bfQ after x0 m).length<=m):bfP after x0 n <+: bfP after x0 m:=by
 rcases Nat.le_total n m with q|q
 .exact nL q
 .obtain ⟨k,rfl⟩:=FP q
  rw[oR h k];exact C5 _
def aFN(n:Nat):((bfP after x0 n).map (·.1)).Nodup:=by rw[dI];exact tZ after x0 n
structure Fto(after:D9->List D9)(x0:D9)(wn:D9->Bool)(k1 k2:Nat)(G Wn:List D9->R D9)(N:Nat):Prop where
 on:∀ m,m < N->m < (bfQ after x0 m).length/\∀ x,(bfQ after x0 m)[m]? = some x->wn x=false
 off:(bfQ after x0 N).length<=N\/∃ x,(bfQ after x0 N)[N]? = some x/\wn x=true
 key:(∀ x∈bfQ after x0 N,gI x=true)\/(∀ x∈bfQ after x0 N,kT x=true)
 len:(bfQ after x0 N).length<=100000
 hN:N<=100000
 hk1:k1<=12
 hk2:k2<=11
 hG:∀ m x,m < N->(bfQ after x0 N)[m]? = some x->(∃ d,G [x]=.ok d/\bA d=.ok (after x))/\(after x).length<=3
 hW:∀ m x,m<=N->(bfQ after x0 N)[m]? = some x->Wn [x]=.ok (.bool (wn x))
def aRI(after:D9->List D9)(x0:D9)(wn:D9->Bool)(k1 k2:Nat)(G Wn:List D9->R D9):Sq where
 after:=after
 x0:=x0
 stop fs m:=match fs[m]? with
  | some x=>wn x
  | none=>false
 k1:=k1
 k2:=12
 G:=G
 D:=hU 3 d0 [.g k2 1 Wn]
def Fto.sq{a:D9->Bool}{k1 k2 N:Nat}{G Wn:List D9->R D9}(O:Fto after x0 a k1 k2 G Wn N):(aRI after x0 a k1 k2 G Wn).ok N where
 on m h:=by
  obtain ⟨h1,h2⟩:=O.on m h
  refine ⟨h1,?_⟩
  show (match (bfQ after x0 m)[m]? with|some x=>a x|none=>false)=false
  cases q:(bfQ after x0 m)[m]? with
  | none=>rfl
  | some x=>exact h2 x q
 off:=O.off.imp id fun b=>by
  obtain ⟨x,h1,h2⟩:=b
  show (match (bfQ after x0 N)[N]? with|some x=>a x|none=>false)=true
  rw[h1];exact h2
 key:=O.key
 len:=by have:=O.len;show (bfQ after x0 N).length<=_;omega
 hk1:=O.hk1
 hk2:=by show 12<=12;omega
 hG m x hm hx:=by
  obtain ⟨h1,h2⟩:=O.hG m x hm hx
  exact ⟨h1,by show (after x).length<=1000;omega⟩
 hD m hm hl:=by
  show hU 3 d0 [.g k2 1 Wn] [.list (bfQ after x0 m),.int (m:Int)]=.ok (.bool (match (bfQ after x0 m)[m]? with|some x=>a x|none=>false))
  have c:m < (bfQ after x0 m).length:=hl
  have hx:(bfQ after x0 m)[m]? = some (bfQ after x0 m)[m]:=AH c
  generalize (bfQ after x0 m)[m]=x at hx
  have hw:=O.hW m x hm (gL (lN hm) hx)
  have k2:=O.hk2
  have d:dIx (.list (bfQ after x0 m)) (.int (m:Int))=.ok x:=lB (dU hx)
  rw[hx]
  unfold hU d0
  simp[d,k2,hw,dOf]
def F_fto{q:D9->Bool}{k1 k2 N:Nat}{G Wn:List D9->R D9}(O:Fto after x0 q k1 k2 G Wn N) :
  ((bfQ after x0 N).length<=N/\eG [.d x0,.g k1 1 G,.g k2 1 Wn]=.ok (.d (.tuple [.list (bfQ after x0 N),.none]))) \/
  ∃ x z,(bfP after x0 N)[N]? = some (x,z)/\q x=true/\eG [.d x0,.g k1 1 G,.g k2 1 Wn]=.ok (.d (.tuple [.list (bfQ after x0 N),stD z])):=by
 have e:=aRG O.sq
 have e:jN [.d x0,.g k1 1 G,.g 12 2 (hU 3 d0 [.g k2 1 Wn])]=.ok (.d (.tuple [.list (bfQ after x0 N),.list (cU after (bfQ after x0 N) N)])):=e
 have r:N<=(bfQ after x0 N).length:=by
  cases N with
  | zero=>omega
  | succ n=>have a:=(O.on n (by omega)).1;have b:=(iK after x0 n).length_le;omega
 have c:(cU after (bfQ after x0 N) N).length=N:=by unfold cU;rw[AC,BS];omega
 have o:dIx (.tuple [.list (bfQ after x0 N),.list (cU after (bfQ after x0 N) N)]) (.int 0)=.ok (.list (bfQ after x0 N)):=rfl
 have i1:dIx (.tuple [.list (bfQ after x0 N),.list (cU after (bfQ after x0 N) N)]) (.int 1)=.ok (.list (cU after (bfQ after x0 N) N)):=rfl
 by_cases hc:(bfQ after x0 N).length<=N
 .refine .inl ⟨hc,?_⟩
  have k:(N:Int)=((bfQ after x0 N).length:Int):=by omega
  unfold eG k9
  simp[l6,uZ,gA,qN,e,o,i1,gC,c,i3,<-k,dOf]
 .obtain ⟨x,hx,hw⟩:=O.off.resolve_left hc
  obtain ⟨⟨f,z⟩,l⟩:∃ p,(bfP after x0 N)[N]? = some p:=⟨_,AH (show N < (bfP after x0 N).length by rw[dQ];omega)⟩
  have j:f=x:=by
   have:(bfQ after x0 N)[N]? = some f:=by rw[<-dI,AN,l];rfl
   rw[hx] at this;cases this;rfl
  subst j
  have s:=aP3 (after:=after) (x0:=x0) (N:=N) (fun m h=>(O.on m h).1) (fun i x hi hx=>(O.hG i x hi hx).2) O.hN (by have:=O.len;omega) l
  have k:¬ (N:Int)=((bfQ after x0 N).length:Int):=by omega
  refine .inr ⟨f,z,l,hw,?_⟩
  unfold eG k9
  simp[l6,uZ,gA,qN,e,o,i1,gC,c,i3,k,s,dOf]
end
def pT{P:Nat->Prop}:∀ K:Nat,P K->∃ n,n<=K/\P n/\∀ m,m < n->¬ P m:=by
 intro K
 induction K using Nat.strongRecOn with
 | _ K ih=>
  intro h
  by_cases q:∃ m,m < K/\P m
  .obtain ⟨m,h1,h2⟩:=q
   obtain ⟨n,a,b,c⟩:=ih m h1 h2
   exact ⟨n,by omega,b,c⟩
  .exact ⟨K,AJ _,h,fun m e d=>q ⟨m,e,d⟩⟩
def rdD(rows:List (List Nat))(ws:List D9):D9:=.tuple [.tuple (rows.map bF),.tuple ws]
structure Rdr(rows:List (List Nat))(sg:Nat):Prop where
 n1:1<=rows.length
 n2:rows.length<=1000
 s1:1<=sg
 s3:sg<=3
 row:∀ r∈rows,r.length=sg/\∀ j∈r,j < rows.length
section
variable{rows:List (List Nat)}{sg:Nat}
def Rdr.at(M:Rdr rows sg){q:Nat}(a:q < rows.length):rows[q]? = some (rows.getD q [])/\(rows.getD q []).length=sg/\∀ j∈rows.getD q [],j < rows.length:=by
 have e:rows[q]? = some (rows.getD q []):=by rw[A5,AH a];rfl
 exact ⟨e,M.row _ (AU e)⟩
def gX{ws:List D9}(M:Rdr rows sg){q:Nat}(a:q < rows.length):dIx (.tuple (rows.map bF)) (.int (q:Int))=.ok (bF (rows.getD q [])):=mK (dU (by rw[AN,(M.at a).1];rfl))
end
def sl(y z:List Nat):Prop:=y.length < z.length\/(y.length=z.length/\List.Lex (· < ·) y z)
theorem aFO:∀ {x y z:List Nat},List.Lex (· < ·) x y->List.Lex (· < ·) y z->List.Lex (· < ·) x z
 | _,_,_,.nil,.cons _=>.nil
 | _,_,_,.nil,.rel _=>.nil
 | _,_,_,.rel h,.rel k=>.rel (C4 h k)
 | _,_,_,.rel h,.cons _=>.rel h
 | _,_,_,.cons _,.rel k=>.rel k
 | _,_,_,.cons h,.cons k=>.cons (aFO h k)
theorem aFP:∀ {z:List Nat},¬ List.Lex (· < ·) z z
 | [],h=>by cases h
 | a::z,h=>by
  cases h with
  | rel h=>exact BG _ h
  | cons h=>exact aFP h
def aOG(z:List Nat){c d:Nat}(h:c < d):List.Lex (· < ·) (z++[c]) (z++[d]):=by
 induction z with
 | nil=>exact .rel h
 | cons a z ih=>exact .cons ih
def aOH{y z:List Nat}(h:List.Lex (· < ·) y z):y.length=z.length->∀ c d:Nat,List.Lex (· < ·) (y++[c]) (z++[d]):=by
 induction h with
 | nil=>intro e;simp at e
 | rel h=>intro _ c d;exact .rel h
 | cons h ih=>intro e c d;exact .cons (ih (by simpa using e) c d)
def t7{x y z:List Nat}(h:sl x y)(k:sl y z):sl x z:=by
 rcases h with h|⟨h1,h2⟩<;>rcases k with k|⟨k1,k2⟩
 · exact .inl (by omega)
 · exact .inl (by omega)
 · exact .inl (by omega)
 · exact .inr ⟨by omega, aFO h2 k2⟩
def aC2{z:List Nat}(h:sl z z):False:=by
 rcases h with h|⟨_,h⟩
 · omega
 · exact aFP h
def xD{y z:List Nat}(h:sl y z)(c d:Nat):sl (y++[c]) (z++[d]):=by
 rcases h with h|⟨h1,h2⟩
 · exact .inl (by simp; omega)
 · exact .inr ⟨by simp; omega, aOH h2 h1 c d⟩
def aP4(z:List Nat){c d:Nat}(h:c < d):sl (z++[c]) (z++[d]):=.inr ⟨by simp,aOG z h⟩
def aP5(z:List Nat)(c:Nat):sl z (z++[c]):=.inl (by simp)
section
variable{after:D9->List D9}{x0:D9}
def vJ{z:List Nat}(ys:List D9):∀ (k:Nat) (F:List PZ),(F.map (·.2)).Pairwise sl->(∀ p∈F,∀ j,k<=j->sl p.2 (z++[97+j]))->
  (((ys.zipIdx k).foldl (adP z) F).map (·.2)).Pairwise sl/\(∀ p∈(ys.zipIdx k).foldl (adP z) F,p∈F\/∃ j,p.2=z++[97+j])/\∀ (j:Nat) y,ys[j]? = some y->∃ zy,(y,zy)∈(ys.zipIdx k).foldl (adP z) F/\(zy=z++[97+(k+j)]\/sl zy (z++[97+(k+j)])):=by
 induction ys with
 | nil=>intro k F h1 h2;exact ⟨h1,fun p d=>.inl d,fun j y e=>by simp at e⟩
 | cons y t ih=>
  intro k F h1 h2
  rw[HJ,DT]
  by_cases hm:y∈F.map (·.1)
  .have i:adP z F (y,k)=F:=if_pos hm
   rw[i]
   obtain ⟨a,b,c⟩:=ih (k+1) F h1 fun p d j o=>h2 p d j (by omega)
   refine ⟨a,b,fun j w e=>?_⟩
   cases j with
   | zero=>
    simp at e
    subst e
    obtain ⟨p,d,rfl⟩:=A3.mp hm
    exact ⟨p.2,(iL z _ F).subset d,.inr (h2 p d _ (by omega))⟩
   | succ j=>
    obtain ⟨zy,g,f⟩:=c j w (by simpa using e)
    exact ⟨zy,g,by rw[show k+(j+1)=k+1+j by omega];exact f⟩
  .have i:adP z F (y,k)=F++[(y,z++[97+k])]:=if_neg hm
   rw[i]
   have m:((F++[(y,z++[97+k])]).map (·.2)).Pairwise sl:=by
    rw[A8,List.pairwise_append]
    refine ⟨h1,by simp,fun u n v l=>?_⟩
    obtain ⟨p,d,rfl⟩:=A3.mp n
    rw[GV,AL] at l
    rw[l];exact h2 p d k (AJ _)
   obtain ⟨a,b,c⟩:=ih (k+1) (F++[(y,z++[97+k])]) m fun p d j o=>by
    rcases A4.mp d with h|h
    .exact h2 p h j (by omega)
    .rw[AL.mp h];exact aP4 z (by omega)
   refine ⟨a,fun p d=>?_,fun j w e=>?_⟩
   .rcases b p d with h|h
    .rcases A4.mp h with h|h
     · exact .inl h
     · exact .inr ⟨k, by rw [AL.mp h]⟩
    .exact .inr h
   .cases j with
    | zero=>
     simp at e
     subst e
     exact ⟨z++[97+k],(iL z _ _).subset (by simp),.inl rfl⟩
    | succ j=>
     obtain ⟨zy,g,f⟩:=c j w (by simpa using e)
     exact ⟨zy,g,by rw[show k+(j+1)=k+1+j by omega];exact f⟩
def t8(n:Nat):((bfP after x0 n).map (·.2)).Pairwise sl/\∀ x z,(bfP after x0 n)[n]? = some (x,z)->∀ p∈bfP after x0 n,∀ j,sl p.2 (z++[97+j]):=by
 induction n with
 | zero=>
  refine ⟨by simp[bfP],fun x z e p c j=>?_⟩
  have e:some (x0,([]:List Nat))=some (x,z):=e
  cases e
  rw[AL.mp c]
  exact aP5 [] _
 | succ n ih=>
  obtain ⟨h1,h2⟩:=ih
  cases q:(bfP after x0 n)[n]? with
  | none=>
   have e:bfP after x0 (n+1)=bfP after x0 n:=by rw[bfP,q]
   rw[e]
   refine ⟨h1,fun x z d=>?_⟩
   have:=E8.mp q
   rw[ET (by omega)] at d
   cases d
  | some p=>
   obtain ⟨x,z⟩:=p
   have e:=mE q
   obtain ⟨a,b,_⟩:=vJ (after x) 0 (bfP after x0 n) h1 fun p c j _=>h2 x z q p c j
   rw[e]
   refine ⟨a,fun t i e1 p c j=>?_⟩
   have hz:sl z i:=by
    have o:((after x).zipIdx.foldl (adP z) (bfP after x0 n))[n]? = some (x,z):=gL (iL z _ _) q
    have g:=(AG.mp o)
    have m:=(AG.mp e1)
    obtain ⟨r,l⟩:=g
    obtain ⟨k,f⟩:=m
    have:=B9.mp a n (n+1) (by rw[AC];exact r) (by rw[AC];exact k) (by omega)
    rw[EE,EE,l,f] at this
    exact this
   rcases b p c with h|⟨s,h⟩
   .exact t7 (h2 x z q p h 0) (xD hz _ _)
   .rw[h];exact xD hz _ _
def fE(after:D9->List D9)(x0:D9)(w:List Nat):D9:=w.foldl (fun x c=>((after x)[c - 97]?).getD .none) x0
def aLJ{N i:Nat}{x:D9}{z:List Nat}(a:(bfQ after x0 N).length<=N)(h:(bfP after x0 N)[i]? = some (x,z)):(bfP after x0 i)[i]? = some (x,z)/\bfP after x0 (i+1) <+: bfP after x0 N:=by
 have hi:i < (bfP after x0 i).length:=by
  rcases HN i (bfP after x0 i).length with q|q
  .exact q
  .have h1:=(gM (n:=N) (show (bfQ after x0 i).length<=i by rw[<-dQ];exact q)).length_le
   have h2:=(AG.mp h).1
   omega
 exact ⟨mM (gM a) hi h,gM a⟩
def aLK{N sg:Nat}(k:(bfQ after x0 N).length<=N)(q:∀ x∈bfQ after x0 N,(after x).length=sg)(w:List Nat):(∀ c∈w,fA sg c=true)->∃ z,(fE after x0 w,z)∈bfP after x0 N/\(z=w\/sl z w):=by
 refine aHW (P:=fun w=>(∀ c∈w,fA sg c=true)->∃ z,(fE after x0 w,z)∈bfP after x0 N/\(z=w\/sl z w)) (fun _=>⟨[],AU (zG after x0 N),.inl rfl⟩) (fun w c r m=>?_) w
 obtain ⟨z,hz,hw⟩:=r fun c k=>m c (CY _ k)
 have s:=BA (m c (by simp))
 obtain ⟨i,hi⟩:=BR hz
 obtain ⟨b,f⟩:=aLJ k hi
 obtain ⟨s1,u⟩:=t8 (after:=after) (x0:=x0) i
 obtain ⟨_,_,g⟩:=vJ (after (fE after x0 w)) 0 (bfP after x0 i) s1 fun p f j _=>u _ z b p f j
 have a:fE after x0 w∈bfQ after x0 N:=by rw[<-dI];exact A3.mpr ⟨_,hz,rfl⟩
 have l:=q _ a
 have o:(after (fE after x0 w))[c - 97]? = some (after (fE after x0 w))[c - 97]:=AH (by omega)
 obtain ⟨t,n,d⟩:=g (c - 97) _ o
 rw[<-mE b] at n
 have v:fE after x0 (w++[c])=(after (fE after x0 w))[c - 97]:=by
  unfold fE
  rw[D8,DT,GR]
  show ((after (fE after x0 w))[c - 97]?).getD .none=_
  rw[o];rfl
 rw[v]
 refine ⟨t,f.subset n,?_⟩
 rw[show 97+(0+(c - 97))=c by omega] at d
 rcases hw with rfl|hw
 .exact d
 .exact .inr (d.elim (fun e=>by rw[e];exact xD hw _ _) fun h=>t7 h (xD hw _ _))
def aLL(n:Nat):∀ p∈bfP after x0 n,fE after x0 p.2=p.1:=by
 induction n with
 | zero=>intro p a;rw[AL.mp a];rfl
 | succ n ih=>
  rw[bfP]
  split
  .rename_i q g
   have b:=ih q (AU g)
   have f:∀ (ys:List (D9×Nat)) (F:List PZ),(∀ y∈ys,(after q.1)[y.2]? = some y.1)->(∀ p∈F,fE after x0 p.2=p.1)->∀ p∈ys.foldl (adP q.2) F,fE after x0 p.2=p.1:=by
    intro ys
    induction ys with
    | nil=>exact fun F _ h=>h
    | cons y t iht=>
     intro F d h
     refine iht _ (fun i h'=>d i (AI _ h')) fun p a=>?_
     unfold adP at a
     split at a
     .exact h p a
     .rcases A4.mp a with z|z
      .exact h p z
      .rw[AL.mp z]
       show fE after x0 (q.2++[97+y.2])=y.1
       unfold fE at b ⊢
       rw[D8,b,DT,GR,show 97+y.2 - 97=y.2 by omega,d y AQ];rfl
   refine f _ _ (fun y d=>?_) ih
   obtain ⟨j,c⟩:=BR d
   rw[C8] at c
   cases e:(after q.1)[j]? with
   | none=>rw[e] at c;cases c
   | some v=>
    rw[e] at c
    cases c
    rw[HM];exact e
  .exact ih
structure FtoC(after:D9->List D9)(x0:D9)(wn:D9->Bool)(k1 k2:Nat)(G Wn:List D9->R D9)(M:Nat):Prop where
 cl:(bfQ after x0 M).length<=M
 hM:M<=100000
 key:(∀ x∈bfQ after x0 M,gI x=true)\/(∀ x∈bfQ after x0 M,kT x=true)
 hk1:k1<=12
 hk2:k2<=11
 hG:∀ x∈bfQ after x0 M,(∃ d,G [x]=.ok d/\bA d=.ok (after x))/\(after x).length<=3
 hW:∀ x∈bfQ after x0 M,Wn [x]=.ok (.bool (wn x))
def F_ftoC{b:D9->Bool}{k1 k2 M:Nat}{G Wn:List D9->R D9}(O:FtoC after x0 b k1 k2 G Wn M) :
  ((∀ p∈bfP after x0 M,b p.1=false)/\eG [.d x0,.g k1 1 G,.g k2 1 Wn]=.ok (.d (.tuple [.list (bfQ after x0 M),.none]))) \/
  ∃ (i:Nat) (x:D9) (z:List Nat) (fs:List D9),(bfP after x0 M)[i]? = some (x,z)/\b x=true/\(∀ (j:Nat) y v,j < i->(bfP after x0 M)[j]? = some (y,v)->b y=false)/\eG [.d x0,.g k1 1 G,.g k2 1 Wn]=.ok (.d (.tuple [.list fs,stD z])):=by
 obtain ⟨N,hN,h2,C⟩:=pT (P:=fun n=>(bfQ after x0 n).length<=n\/∃ x,(bfQ after x0 n)[n]? = some x/\b x=true) M (.inl O.cl)
 have sub:∀ n x,x∈bfQ after x0 n->x∈bfQ after x0 M:=fun n x hx=>by
  rw[<-dI] at hx ⊢
  obtain ⟨p,c,rfl⟩:=A3.mp hx
  exact CQ ((gM O.cl).subset c)
 have t:(bfQ after x0 N).length<=M:=by
  have:=(gM (n:=N) O.cl).length_le
  rw[dQ,dQ] at this
  exact A6 this O.cl
 have hM:=O.hM
 have T:Fto after x0 b k1 k2 G Wn N:={
  on:=fun m B=>by
   have:=C m B
   have w:¬ (bfQ after x0 m).length<=m:=fun z=>this (.inl z)
   refine ⟨by omega,fun x hx=>?_⟩
   cases q:b x with
   | false=>rfl
   | true=>exact absurd (.inr ⟨x,hx,q⟩) this
  off:=h2
  key:=O.key.imp (fun h x hx=>h x (sub N x hx)) (fun h x hx=>h x (sub N x hx))
  len:=by omega
  hN:=by omega
  hk1:=O.hk1
  hk2:=O.hk2
  hG:=fun m x _ hx=>O.hG x (sub N x (AU hx))
  hW:=fun m x _ hx=>O.hW x (sub N x (AU hx))}
 have a:∀ (j:Nat) y v,j < N->(bfP after x0 M)[j]? = some (y,v)->b y=false:=fun j y v f e=>by
  refine (T.on j f).2 y ?_
  have:=(T.on j f).1
  have u:(bfP after x0 j)[j]? = some (y,v):=mM (gM O.cl) (by rw[dQ];exact this) e
  rw[<-dI,AN,u];rfl
 rcases F_fto T with ⟨o,e⟩|⟨x,z,c,hw,e⟩
 .left
  have s:bfP after x0 M=bfP after x0 N:=by
   obtain ⟨k,A⟩:=FP hN
   rw[<-A,oR o k]
  have l:bfQ after x0 N=bfQ after x0 M:=by rw[<-dI,<-dI,s]
  refine ⟨fun p c=>?_,by rw[<-l];exact e⟩
  obtain ⟨j,f⟩:=BR c
  have r:=(AG.mp f).1
  rw[s,dQ] at r
  exact a j p.1 p.2 (by omega) f
 .exact .inr ⟨N,x,z,_,gL (gM O.cl) c,hw,a,e⟩
end
def prN(a b:Nat):D9:=.tuple [.int (a:Int),.int (b:Int)]
def aLM{a b c d:Nat}(h:prN a b=prN c d):a=c/\b=d:=by
 unfold prN at h
 simp at h
 omega
def afP(r1 r2:List (List Nat)):D9->List D9
 | .tuple [.int a,.int b]=>((r1.getD a.toNat []).zip (r2.getD b.toNat [])).map fun p=>prN p.1 p.2
 | _=>[]
def i6(r1 r2:List (List Nat))(a b:Nat):afP r1 r2 (prN a b)=((r1.getD a []).zip (r2.getD b [])).map fun p=>prN p.1 p.2:=by
 show ((r1.getD ((a:Int)).toNat []).zip (r2.getD ((b:Int)).toNat [])).map _=_
 rw[show ((a:Int)).toNat=a by omega,show ((b:Int)).toNat=b by omega]
def wnP(w1 w2:List Str):D9->Bool
 | .tuple [.int a,.int b]=>decide (w1.getD a.toNat ""≠w2.getD b.toNat "")
 | _=>false
def t9(w1 w2:List Str)(a b:Nat):wnP w1 w2 (prN a b)=decide (w1.getD a ""≠w2.getD b ""):=by
 show decide (w1.getD ((a:Int)).toNat ""≠w2.getD ((b:Int)).toNat "")=_
 rw[show ((a:Int)).toNat=a by omega,show ((b:Int)).toNat=b by omega]
def pU(w:Str):Prop:=w="by"\/w="out"\/w="ever"
structure Rdw(rows:List (List Nat))(ws:List Str)(sg:Nat):Prop where
 r:Rdr rows sg
 wl:ws.length=rows.length
 ww:∀ w∈ws,pU w
def rdW(rows:List (List Nat))(ws:List Str):D9:=rdD rows (ws.map .str)
section
variable{r1 r2:List (List Nat)}{w1 w2:List Str}{sg:Nat}
def Rdw.w(M:Rdw r1 w1 sg){q:Nat}(a:q < r1.length):pU (w1.getD q "")/\dIx (.tuple (w1.map .str)) (.int (q:Int))=.ok (.str (w1.getD q "")):=by
 have b:=M.wl
 have e:w1[q]? = some (w1.getD q ""):=by rw[A5,AH (by omega)];rfl
 refine ⟨M.ww _ (AU e),mK (dU ?_)⟩
 rw[AN,e];rfl
def gY(M1:Rdr r1 sg)(M2:Rdr r2 sg){a b:Nat}(g:a < r1.length)(e:b < r2.length){n:Nat}:∀ {x:D9},x∈bfQ (afP r1 r2) (prN a b) n->∃ c d:Nat,c < r1.length/\d < r2.length/\x=prN c d:=by
 induction n with
 | zero=>intro x hx;rw[AL.mp hx];exact ⟨a,b,g,e,rfl⟩
 | succ n ih=>
  intro x hx
  rw[bfQ] at hx
  split at hx
  .rename_i y j
   rcases adA_mem _ hx with h|h
   .exact ih h
   .obtain ⟨c,d,k,f,rfl⟩:=ih (AU j)
    rw[i6] at h
    obtain ⟨p,i,rfl⟩:=A3.mp h
    have:=E6 (a:=p.1) (b:=p.2) i
    exact ⟨p.1,p.2,(M1.at k).2.2 _ this.1,(M2.at f).2.2 _ this.2,rfl⟩
  .exact ih hx
def aLN{n m:Nat}{xs:List D9}(k:xs.Nodup)(h:∀ x∈xs,∃ c d:Nat,c < n/\d < m/\x=prN c d):xs.length<=n * m:=by
 refine aD5 (fun x=>match x with | .tuple [.int a,.int b]=>a.toNat * m+b.toNat|_=>0) (n * m) xs k (fun x hx=>?_) (fun x hx y p e=>?_)
 .obtain ⟨c,d,j,i,rfl⟩:=h x hx
  show ((c:Int)).toNat * m+((d:Int)).toNat < n * m
  rw[show ((c:Int)).toNat=c by omega,show ((d:Int)).toNat=d by omega]
  calc c * m+d < c * m+m:=by omega
   _=(c+1) * m:=by rw[Nat.succ_mul]
   _<=n * m:=Nat.mul_le_mul_right _ j
 .obtain ⟨c,d,j,i,rfl⟩:=h x hx
  obtain ⟨f,d',q,g,rfl⟩:=h y p
  have e:((c:Int)).toNat * m+((d:Int)).toNat=((f:Int)).toNat * m+((d':Int)).toNat:=e
  rw[show ((c:Int)).toNat=c by omega,show ((d:Int)).toNat=d by omega,show ((f:Int)).toNat=f by omega,show ((d':Int)).toNat=d' by omega] at e
  have h1:(c * m+d) % m=d:=by rw[ID,G3,Nat.mod_eq_of_lt i]
  have h2:(f * m+d') % m=d':=by rw[ID,G3,Nat.mod_eq_of_lt g]
  have o:d=d':=by rw[<-h1,e,h2]
  subst o
  have l:c * m=f * m:=by omega
  rw[Nat.eq_of_mul_eq_mul_right (by omega) l]
def jP(M1:Rdr r1 sg)(M2:Rdr r2 sg){a b:Nat}(c:a < r1.length)(d:b < r2.length)(n:Nat):(bfQ (afP r1 r2) (prN a b) n).length<=r1.length * r2.length:=
 aLN (tZ _ _ n) fun x hx=>gY M1 M2 c d hx
def aI4(M1:Rdw r1 w1 sg)(M2:Rdw r2 w2 sg){a b:Nat}(e:a < r1.length)(c:b < r2.length) :
  eM [.d (rdW r1 w1),.d (rdW r2 w2),.d (prN a b)]=.ok (.d (.list (afP r1 r2 (prN a b)))):=by
 have f:dIx (rdW r1 w1) (.int 0)=.ok (.tuple (r1.map bF)):=rfl
 have k:dIx (rdW r2 w2) (.int 0)=.ok (.tuple (r2.map bF)):=rfl
 have i:dIx (prN a b) (.int 0)=.ok (.int (a:Int)):=rfl
 have h:dIx (prN a b) (.int 1)=.ok (.int (b:Int)):=rfl
 have i1:=gX (ws:=w1.map .str) M1.r e
 have g:=gX (ws:=w2.map .str) M2.r c
 have s3:=M1.r.s3
 have l:=(M1.r.at e).2.1
 have m:=(M2.r.at c).2.1
 have d1:bA (bF (r1.getD a []))=.ok ((r1.getD a []).map fun j:Nat=>.int (j:Int)):=mB (by rw[AC];omega)
 have d2:bA (bF (r2.getD b []))=.ok ((r2.getD b []).map fun j:Nat=>.int (j:Int)):=mB (by rw[AC];omega)
 have hz:jD (bF (r1.getD a [])) (bF (r2.getD b []))=.ok (afP r1 r2 (prN a b)):=by
  unfold jD
  rw[d1,d2]
  show R.ok _=R.ok _
  rw[i6,List.zip_map,CT]
  rfl
 unfold eM l8
 simp[-List.getD_eq_getElem?_getD,f,k,i,h,i1,g,hz]
def aI5(M1:Rdw r1 w1 sg)(M2:Rdw r2 w2 sg){a b:Nat}(k:a < r1.length)(g:b < r2.length) :
  eX [.d (rdW r1 w1),.d (rdW r2 w2),.d (prN a b)]=.ok (.d (.bool (!wnP w1 w2 (prN a b)))):=by
 have c:dIx (rdW r1 w1) (.int 1)=.ok (.tuple (w1.map .str)):=rfl
 have m:dIx (rdW r2 w2) (.int 1)=.ok (.tuple (w2.map .str)):=rfl
 have i:dIx (prN a b) (.int 0)=.ok (.int (a:Int)):=rfl
 have f:dIx (prN a b) (.int 1)=.ok (.int (b:Int)):=rfl
 obtain ⟨l,i1⟩:=M1.w k
 obtain ⟨j,e⟩:=M2.w g
 have n:=aOA l j
 have h:(!wnP w1 w2 (prN a b))=decide (w1.getD a ""=w2.getD b ""):=by rw[t9];simp
 rw[h]
 unfold eX mU
 simp[-List.getD_eq_getElem?_getD,c,m,i,f,i1,e,n]
def zO:Option (List Nat)->D9
 | none=>.none
 | some z=>stD z
def fR(r1 r2:List (List Nat))(a b:Nat):List PZ:=bfP (afP r1 r2) (prN a b) (r1.length * r2.length)
def eE(r1 r2:List (List Nat))(w1 w2:List Str)(a b:Nat):Option (List Nat):=((fR r1 r2 a b).find? fun p=>wnP w1 w2 p.1).map (·.2)
end
@[simp] theorem aR9(i:Nat)(f:Sg->R Fw)(ρ:Sg):sE i f ρ=f (fzM i ρ):=id rfl
@[simp] theorem aS2(i:Nat)(ρ:Sg):fzM i ρ=match ρ[i]? with|some (some (.m kvs))=>ρ.set i (some (.f kvs))|_=>ρ:=id rfl
@[simp] theorem aSA(a:Bool)(i:Nat)(f:Sg->R D9)(ρ:Sg):aQ3 a i f ρ=(f ρ).bind fun k=>match ρ[i]? with
 | some (some (.f kvs))=>if bJ k (kvs.map (·.1))=true then .ok (.bool (if a=true then !bP kvs k else bP kvs k)) else .bad
 | _=>.bad:=id rfl
@[simp] theorem aRJ(i:Nat)(f:Sg->R D9)(ρ:Sg):aPU i f ρ=match ρ[i]? with
 | some (some (.f kvs))=>(f ρ).bind fun k=>if bJ k (kvs.map (·.1))=true then (match cK kvs k with
  | some v=>.ok v
  | none=>.bad) else .bad
 | _=>.bad:=id rfl
def psM(l:List PZ):List (D9×D9):=l.map fun p=>(p.1,stD p.2)
def oS(l:List PZ):(psM l).map (·.1)=l.map (·.1):=by unfold psM;rw[CT];rfl
def aBQ{l:List PZ}{x:D9}:bP (psM l) x=true↔x∈l.map (·.1):=by rw[jB,oS]
def zJ{l:List PZ}{x:D9}(h:x∉l.map (·.1)):bP (psM l) x=false:=by
 cases q:bP (psM l) x with
 | false=>rfl
 | true=>exact absurd (aBQ.mp q) h
theorem vK:∀ {l:List PZ} {i:Nat} {x:D9} {z:List Nat},(l.map (·.1)).Nodup->l[i]? = some (x,z)->cK (psM l) x=some (stD z)
 | [],_,_,_,_,h=>by simp at h
 | p::t,0,x,z,_,h=>by
  simp at h
  subst h
  unfold cK psM
  simp
 | p::t,i+1,x,z,nd,h=>by
  have h':t[i]? = some (x,z):=by simpa using h
  rw[AX,CF] at nd
  have b:=vK nd.2 h'
  have a:¬ p.1=x:=fun e=>nd.1 (by rw[e];exact A3.mpr ⟨_,AU h',rfl⟩)
  unfold cK psM at b ⊢
  rw[AX,B4]
  simp only[a,IE]
  exact b
def aLO{l:List PZ}{x:D9}{z:List Nat}(h:x∉l.map (·.1)):putM (psM l) x (stD z)=psM (l++[(x,z)]):=by
 unfold putM
 rw[zJ h,if_neg (by decide)]
 unfold psM
 rw[A8];rfl
def aOI{k:Nat}(h:k < 3):dIx (.str "abc") (.int (k:Int))=.ok (.str ⟨#[97+k]⟩):=by
 rcases (by omega:k=0\/k=1\/k=2) with rfl|rfl|rfl<;>rfl
def aBR{z:List Nat}{c:Nat}(h:z.length < 16777216):c6 (stD z) (.str ⟨#[c]⟩)=.ok (stD (z++[c])):=by
 unfold stD
 rw[aN7 (by show z.toArray.size+1<=16777216;rw[AY];exact h),show (⟨z.toArray⟩:Str)++(⟨#[c]⟩:Str)=⟨(z++[c]).toArray⟩ by
  show (⟨z.toArray ++ #[c]⟩:Str)=_
  simp]
@[simp] theorem aRK(i:Nat)(ρ:Sg):tU i ρ=match ρ[i]? with|some (some (.f kvs))=>if kvs.length<=16777216 then .ok (kvs.map (·.1)) else .bad|_=>.bad:=id rfl
def fsρ(m1 m2 p:D9)(l:List PZ)(n:Nat)(u6 u7 u8 u9:Option A):Sg:=[some (.d m1),some (.d m2),some (.d p),some (.m (psM l)),some (.l (l.map (·.1))),some (.d (.int (n:Int))),u6,u7,u8,u9]
section
variable{r1 r2:List (List Nat)}{w1 w2:List Str}{sg:Nat}
def aOJ{i g a b n:Nat}{p:D9}{z:List Nat}{u8 u9:Option A}(M1:Rdw r1 w1 sg)(M2:Rdw r2 w2 sg)(hN:r1.length * r2.length<=100000)(w:i < r1.length)(v:g < r2.length)
  (Q:(bfP (afP r1 r2) (prN i g) n)[n]? = some (prN a b,z)) (E:a < r1.length) (W:b < r2.length) (hz:∀ p∈bfP (afP r1 r2) (prN i g) n,p.2.length<=n) (hn:n<=100000) :
  ∃ u8' u9',fH (stN 8) fsF ((List.range sg).map fun j:Nat=>PyData.int (j:Int)) (fsρ (rdW r1 w1) (rdW r2 w2) p (bfP (afP r1 r2) (prN i g) n) n (some (.d (.int (a:Int)))) (some (.d (.int (b:Int)))) u8 u9)=.ok (.nx (fsρ (rdW r1 w1) (rdW r2 w2) p (bfP (afP r1 r2) (prN i g) (n+1)) n (some (.d (.int (a:Int)))) (some (.d (.int (b:Int)))) u8' u9')) /\
   ∀ p∈bfP (afP r1 r2) (prN i g) (n+1),p.2.length<=n+1:=by
 have u:=M1.r.at E
 have s:=M2.r.at W
 have s3:=M1.r.s3
 have e1:=mE Q
 have aa:z.length<=n:=hz _ (AU Q)
 have I:∀ p∈bfP (afP r1 r2) (prN i g) (n+1),gI p.1=true:=fun p l=>by
  have:p.1∈bfQ (afP r1 r2) (prN i g) (n+1):=by rw[<-dI];exact CQ l
  obtain ⟨c,d,_,_,e⟩:=gY M1.r M2.r w v this
  rw[e];rfl
 have X:=jP M1.r M2.r w v (n+1)
 have hY:(afP r1 r2 (prN a b)).length=sg:=by rw[i6,AC,DM,u.2.1,s.2.1];omega
 have J:∀ k,k < sg->∃ c d,(r1.getD a [])[k]? = some c/\(r2.getD b [])[k]? = some d/\(afP r1 r2 (prN a b))[k]? = some (prN c d):=fun k D=>by
  refine ⟨_,_,AH (by rw[u.2.1];exact D),AH (by rw[s.2.1];exact D),?_⟩
  rw[i6,AN,AH (by rw[DM,u.2.1,s.2.1];omega),List.getElem_zip];rfl
 have Y:dIx (rdW r1 w1) (.int 0)=.ok (.tuple (r1.map bF)):=rfl
 have U:dIx (rdW r2 w2) (.int 0)=.ok (.tuple (r2.map bF)):=rfl
 have i1:=gX (ws:=w1.map .str) M1.r E
 have V:=gX (ws:=w2.map .str) M2.r W
 obtain ⟨ρ',q1,u8',u9',P,m⟩:=eD (fs:=stN 8) (fb:=fsF) (d:=fun j:Nat=>PyData.int (j:Int)) (xs:=List.range sg) (ρ:=fsρ (rdW r1 w1) (rdW r2 w2) p (bfP (afP r1 r2) (prN i g) n) n (some (.d (.int (a:Int)))) (some (.d (.int (b:Int)))) u8 u9)
  (fun k ρ=>∃ u8' u9',ρ=fsρ (rdW r1 w1) (rdW r2 w2) p (((afP r1 r2 (prN a b)).zipIdx.take k).foldl (adP z) (bfP (afP r1 r2) (prN i g) n)) n (some (.d (.int (a:Int)))) (some (.d (.int (b:Int)))) u8' u9'/\∀ p∈((afP r1 r2 (prN a b)).zipIdx.take k).foldl (adP z) (bfP (afP r1 r2) (prN i g) n),p.2.length<=n+1)
  ⟨u8,u9,by simp,fun p l=>by have:=hz p (by simpa using l);omega⟩
  (fun k f ρ D N=>by
  obtain ⟨v',w',e,m⟩:=N
  obtain ⟨G,rfl⟩:k < sg/\f=k:=by
   have:=AG.mp D
   obtain ⟨h1,h2⟩:=this
   rw[BH] at h1
   rw[GS] at h2
   exact ⟨h1,h2.symm⟩
  obtain ⟨c,d,hc,Z,hy⟩:=J f G
  have R:(afP r1 r2 (prN a b)).zipIdx[f]? = some (prN c d,f):=by rw[C8,hy];simp
  have ht:(afP r1 r2 (prN a b)).zipIdx.take (f+1)=(afP r1 r2 (prN a b)).zipIdx.take f++[(prN c d,f)]:=by rw[DB,R];rfl
  have q:((afP r1 r2 (prN a b)).zipIdx.take (f+1)).foldl (adP z) (bfP (afP r1 r2) (prN i g) n) <+: bfP (afP r1 r2) (prN i g) (n+1):=by
   rw[e1]
   have:(afP r1 r2 (prN a b)).zipIdx.foldl (adP z) (bfP (afP r1 r2) (prN i g) n)=((afP r1 r2 (prN a b)).zipIdx.drop (f+1)).foldl (adP z) (((afP r1 r2 (prN a b)).zipIdx.take (f+1)).foldl (adP z) (bfP (afP r1 r2) (prN i g) n)):=by
    rw[<-List.foldl_append,F9]
   rw[this];exact iL _ _ _
  have L:(((afP r1 r2 (prN a b)).zipIdx.take f).foldl (adP z) (bfP (afP r1 r2) (prN i g) n))[n]? = some (prN a b,z):=gL (iL z _ _) Q
  rw[ht,D8,DT,GR] at q ⊢
  generalize ((afP r1 r2 (prN a b)).zipIdx.take f).foldl (adP z) (bfP (afP r1 r2) (prN i g) n)=F at *
  have H:F <+: bfP (afP r1 r2) (prN i g) (n+1):=(qU z F (prN c d,f)).trans q
  have ac:F.length<=100000:=by have:=H.length_le;rw[dQ] at this;omega
  have M:(F.map (·.1)).Nodup:=by
   have:=aFN (after:=afP r1 r2) (x0:=prN i g) (n+1)
   obtain ⟨t,et⟩:=H
   rw[<-et,A8] at this
   exact (D0.mp this).1
  have o:∀ x y:Int,bJ (.tuple [.int x,.int y]) ((psM F).map (·.1))=true:=fun x y=>by
   unfold bJ
   rw[oS,CH,AM,AM]
   exact .inl ⟨rfl,A1.mpr fun p l=>by
    obtain ⟨pp,K,rfl⟩:=A3.mp l
    exact I pp (H.subset K)⟩
  have hg:cK (psM F) (.tuple [.int (a:Int),.int (b:Int)])=some (stD z):=vK M L
  have E:=aOI (show f < 3 by omega)
  have C:=aBR (z:=z) (c:=97+f) (by omega)
  have S:(psM F).length<=16777216:=by unfold psM;rw[AC];omega
  have B:F.length < 16777216:=by omega
  have T:dIx (bF (r1.getD a [])) (.int (f:Int))=.ok (.int (c:Int)):=mK (dU (by rw[AN,hc];rfl))
  have d1:dIx (bF (r2.getD b [])) (.int (f:Int))=.ok (.int (d:Int)):=mK (dU (by rw[AN,Z];rfl))
  by_cases hm:prN c d∈F.map (·.1)
  .have h1:bP (psM F) (.tuple [.int (c:Int),.int (d:Int)])=true:=aBQ.mpr hm
   have O:adP z F (prN c d,f)=F:=if_pos hm
   rw[O]
   refine ⟨_,fsρ (rdW r1 w1) (rdW r2 w2) p F n (some (.d (.int (a:Int)))) (some (.d (.int (b:Int)))) (some (.d (.int (f:Int)))) (some (.d (prN c d))),by rw[e];rfl,.inl ?_,some (.d (.int (f:Int))),some (.d (prN c d)),rfl,m⟩
   simp[-List.getD_eq_getElem?_getD,fsF,fsρ,prN,o,h1,Y,U,i1,V,T,d1]
  .have h1:bP (psM F) (.tuple [.int (c:Int),.int (d:Int)])=false:=zJ hm
   have h2:putM (psM F) (.tuple [.int (c:Int),.int (d:Int)]) (stD (z++[97+f]))=psM (F++[(prN c d,z++[97+f])]):=aLO (z:=z++[97+f]) hm
   have O:adP z F (prN c d,f)=F++[(prN c d,z++[97+f])]:=if_neg hm
   rw[O]
   refine ⟨_,fsρ (rdW r1 w1) (rdW r2 w2) p (F++[(prN c d,z++[97+f])]) n (some (.d (.int (a:Int)))) (some (.d (.int (b:Int)))) (some (.d (.int (f:Int)))) (some (.d (prN c d))),by rw[e];rfl,.inl ?_,some (.d (.int (f:Int))),some (.d (prN c d)),rfl,fun p l=>?_⟩
   .simp[-List.getD_eq_getElem?_getD,fsF,fsρ,prN,o,h1,h2,hg,E,C,S,B,Y,U,i1,V,T,d1]
   .rcases A4.mp l with h|h
    · exact m p h
    · rw [AL.mp h]; simp; omega)
 rw[BH,FQ (by rw[CO,hY];omega)] at P m
 rw[<-e1] at P m
 exact ⟨u8',u9',by rw[q1,P],m⟩
def aLP{e c:Nat}{p:D9}(M1:Rdw r1 w1 sg)(M2:Rdw r2 w2 sg)(hN:r1.length * r2.length<=100000)(i:e < r1.length)(g:c < r2.length):∀ (k n:Nat) (u6 u7 u8 u9:Option A),n+k=r1.length * r2.length->(∀ p∈bfP (afP r1 r2) (prN e c) n,p.2.length<=n)->
  aP (cC fsT fsB) (sE 3 (bU (vV 3))) (fsρ (rdW r1 w1) (rdW r2 w2) p (bfP (afP r1 r2) (prN e c) n) n u6 u7 u8 u9)=.ok (.rt (.f (psM (fR r1 r2 e c)))):=by
 have fin:∀ (n:Nat) (u6 u7 u8 u9:Option A),n<=r1.length * r2.length->(bfQ (afP r1 r2) (prN e c) n).length<=n->aP (cC fsT fsB) (sE 3 (bU (vV 3))) (fsρ (rdW r1 w1) (rdW r2 w2) p (bfP (afP r1 r2) (prN e c) n) n u6 u7 u8 u9)=.ok (.rt (.f (psM (fR r1 r2 e c)))):=fun n u6 u7 u8 u9 B h=>by
  have G:fR r1 r2 e c=bfP (afP r1 r2) (prN e c) n:=by
   unfold fR
   obtain ⟨k,j⟩:=FP B
   rw[<-j,oR h k]
  have l:fsT (fsρ (rdW r1 w1) (rdW r2 w2) p (bfP (afP r1 r2) (prN e c) n) n u6 u7 u8 u9)=.ok false:=by
   rw[<-dQ] at h
   simp[fsT,fsρ,gC]
   omega
  rw[cO,jO l,G]
  simp[fsρ]
 intro k
 induction k with
 | zero=>intro n u6 u7 u8 u9 j hz;exact fin n u6 u7 u8 u9 (by omega) (by have:=jP M1.r M2.r i g n;omega)
 | succ k ih=>
  intro n u6 u7 u8 u9 j hz
  by_cases h:(bfQ (afP r1 r2) (prN e c) n).length<=n
  .exact fin n u6 u7 u8 u9 (by omega) h
  .obtain ⟨⟨x,z⟩,s⟩:∃ p,(bfP (afP r1 r2) (prN e c) n)[n]? = some p:=⟨_,AH (show n < (bfP (afP r1 r2) (prN e c) n).length by rw[dQ];omega)⟩
   have hx:x∈bfQ (afP r1 r2) (prN e c) n:=by rw[<-dI];exact A3.mpr ⟨_,AU s,rfl⟩
   obtain ⟨a,b,q,w,rfl⟩:=gY M1.r M2.r i g hx
   obtain ⟨u,F,t,o⟩:=aOJ (p:=p) (u8:=u8) (u9:=u9) M1 M2 hN i g s q w hz (by omega)
   have l:fsT (fsρ (rdW r1 w1) (rdW r2 w2) p (bfP (afP r1 r2) (prN e c) n) n u6 u7 u8 u9)=.ok true:=by
    rw[<-dQ] at h
    simp[fsT,fsρ,gC]
    omega
   have y:dIx (rdW r1 w1) (.int 0)=.ok (.tuple (r1.map bF)):=rfl
   have i1:=gX (ws:=w1.map .str) M1.r q
   have E:=M1.r.at q
   have s3:=M1.r.s3
   have v:dLen (bF (r1.getD a []))=.ok (.int (sg:Int)):=by
    unfold bF
    rw[l9,AC,E.2.1]
   have m:=pR (n:=sg) (by omega)
   have C:dIx (.list ((bfP (afP r1 r2) (prN e c) n).map (·.1))) (.int (n:Int))=.ok (.tuple [.int (a:Int),.int (b:Int)]):=lB (dU (by rw[AN,s];rfl))
   have D:fsB (fsρ (rdW r1 w1) (rdW r2 w2) p (bfP (afP r1 r2) (prN e c) n) n u6 u7 u8 u9)=.ok (.nx (fsρ (rdW r1 w1) (rdW r2 w2) p (bfP (afP r1 r2) (prN e c) (n+1)) (n+1) (some (.d (.int (a:Int)))) (some (.d (.int (b:Int)))) u F)):=by
    unfold fsρ at t ⊢
    simp[-List.getD_eq_getElem?_getD,fsB,C,y,i1,v,m,t]
   rw[cO,mL l D,<-cO]
   exact ih (n+1) _ _ _ _ (by omega) o
def aOK(M1:Rdw r1 w1 sg)(M2:Rdw r2 w2 sg)(hN:r1.length * r2.length<=100000){a b:Nat}(g:a < r1.length)(i:b < r2.length) :
  eR [.d (rdW r1 w1),.d (rdW r2 w2),.d (prN a b)]=.ok (.f (psM (fR r1 r2 a b))):=by
 have h:=aLP (p:=prN a b) M1 M2 hN g i (r1.length * r2.length) 0 none none none none (by omega) (by intro p c;rw[AL.mp c];exact AJ _)
 have h:aP (cC fsT fsB) (sE 3 (bU (vV 3))) [some (.d (rdW r1 w1)),some (.d (rdW r2 w2)),some (.d (prN a b)),some (.m [(prN a b,.str "")]),some (.l [prN a b]),some (.d (.int 0)),none,none,none,none]=.ok (.rt (.f (psM (fR r1 r2 a b)))):=h
 have e:gI (prN a b)=true:=rfl
 have c:Fl.dA [] [(prN a b,PyData.str "")]=.ok [(prN a b,PyData.str "")]:=by simp[Fl.dA,bJ,e,putM,bP,cK]
 unfold eR
 rw[iW]
 rw[cO] at h
 simp only[pM,cO,aHS,aHT,aK5,i5,xC,R.bind_ok,c,BI,CP,Nat.reduceAdd,Nat.reduceSub,AX,DR,DH,DU,List.replicate,B1,B2,BC,BK,oO,lJ,fQ,gB,Nat.reduceLeDiff,if_true,lK,lA,h]
def aOL{after:D9->List D9}{x0:D9}(n:Nat):∀ p∈bfP after x0 n,p.2.length<=n:=by
 induction n with
 | zero=>intro p a;rw[AL.mp a];exact AJ _
 | succ n ih=>
  intro p a
  cases q:(bfP after x0 n)[n]? with
  | none=>
   rw[bfP,q] at a
   exact Nat.le_succ_of_le (ih p a)
  | some y=>
   obtain ⟨x,z⟩:=y
   obtain ⟨s1,b⟩:=t8 (after:=after) (x0:=x0) n
   obtain ⟨_,g,_⟩:=vJ (after x) 0 (bfP after x0 n) s1 fun p a j _=>b x z q p a j
   rw[mE q] at a
   rcases g p a with h|⟨j,h⟩
   .exact Nat.le_succ_of_le (ih p h)
   .have:=ih _ (AU q)
    rw[h];simp at this ⊢;exact this
def zK{w v:Str}(h:pU w)(h':pU v):dNe (.str w) (.str v)=.ok (.bool (!decide (w=v))):=by
 rw[pQ (oP h) (oP h'),aFJ]
 congr 3
def aOM{y z:List Nat}(h:sl y z):HT.lt2 (z.length:Int) (y.length:Int) ⟨z.toArray⟩ ⟨y.toArray⟩=false:=by
 unfold HT.lt2
 rcases h with h|⟨h1,h2⟩
 .rw[if_neg (by omega)]
  exact AZ (by omega)
 .rw[if_pos (by omega)]
  split
  .rfl
  .refine AZ fun a=>?_
   have a:z < y:=a
   exact List.lt_asymm a h2
def lpρ(m1 m2 p:D9)(l:List PZ)(f:Option (List Nat))(u5 u6 u7:Option A):Sg:=[some (.d m1),some (.d m2),some (.d p),some (.f (psM l)),some (.d (zO f)),u5,u6,u7]
def aON(M1:Rdw r1 w1 sg)(M2:Rdw r2 w2 sg)(hN:r1.length * r2.length<=100000){a b:Nat}(S:a < r1.length)(J:b < r2.length) :
  eZ [.d (rdW r1 w1),.d (rdW r2 w2),.d (prN a b)]=.ok (.d (zO (eE r1 r2 w1 w2 a b))):=by
 have Y:=jP M1.r M2.r S J (r1.length * r2.length)
 have aa:(fR r1 r2 a b).length<=100000:=by unfold fR;rw[dQ];omega
 have nd:((fR r1 r2 a b).map (·.1)).Nodup:=aFN _
 obtain ⟨m,_⟩:=t8 (after:=afP r1 r2) (x0:=prN a b) (r1.length * r2.length)
 have m:((fR r1 r2 a b).map (·.2)).Pairwise sl:=m
 have l:∀ p∈fR r1 r2 a b,∃ c d,c < r1.length/\d < r2.length/\p.1=prN c d:=fun p T=>by
  have:p.1∈bfQ (afP r1 r2) (prN a b) (r1.length * r2.length):=by rw[<-dI];exact CQ T
  exact gY M1.r M2.r S J this
 have o:∀ p∈fR r1 r2 a b,p.2.length<=100000:=fun p T=>by
  have:=aOL (after:=afP r1 r2) (x0:=prN a b) (r1.length * r2.length) p T
  omega
 have M:dIx (rdW r1 w1) (.int 1)=.ok (.tuple (w1.map .str)):=rfl
 have F:dIx (rdW r2 w2) (.int 1)=.ok (.tuple (w2.map .str)):=rfl
 have g:∀ x y:Int,bJ (.tuple [.int x,.int y]) ((psM (fR r1 r2 a b)).map (·.1))=true:=fun x y=>by
  unfold bJ
  rw[oS,CH,AM,AM]
  exact .inl ⟨rfl,A1.mpr fun p G=>by
   obtain ⟨pp,K,rfl⟩:=A3.mp G
   obtain ⟨c,d,_,_,e⟩:=l pp K
   rw[e];rfl⟩
 have hf:=aOK M1 M2 hN S J
 have Q:eE r1 r2 w1 w2 a b=((fR r1 r2 a b).find? fun p=>wnP w1 w2 p.1).map (·.2):=rfl
 generalize hP:fR r1 r2 a b=P at *
 obtain ⟨O,q1,V,X,u7,W⟩:=eD (fs:=stT [(stN 5),(stN 6)]) (fb:=lpF) (d:=fun p:PZ=>p.1) (xs:=P) (ρ:=lpρ (rdW r1 w1) (rdW r2 w2) (prN a b) P none none none none)
  (fun k ρ=>∃ V X u7,ρ=lpρ (rdW r1 w1) (rdW r2 w2) (prN a b) P (((P.take k).find? fun p=>wnP w1 w2 p.1).map (·.2)) V X u7)
  ⟨none,none,none,by simp⟩
  (fun k p ρ A N=>by
  obtain ⟨v5,v6,v7,e⟩:=N
  subst e
  obtain ⟨x,z⟩:=p
  have s:=AU A
  obtain ⟨c,d,hc,hd,ex⟩:=l _ s
  have ex:x=prN c d:=ex
  subst ex
  have L:cK (psM P) (.tuple [.int (c:Int),.int (d:Int)])=some (stD z):=vK nd A
  obtain ⟨g1,i1⟩:=M1.w hc
  obtain ⟨g2,I⟩:=M2.w hd
  have i:dNe (.str (w1.getD c "")) (.str (w2.getD d ""))=.ok (.bool (wnP w1 w2 (prN c d))):=by
   rw[t9,zK g1 g2]
   by_cases h:w1.getD c ""=w2.getD d ""<;>simp only[h,ne_eq,not_true_eq_false,DA,decide_true,IE,G0,Bool.not_false]
  have ht:P.take (k+1)=P.take k++[(prN c d,z)]:=by rw[DB,A];rfl
  rw[ht,List.find?_append]
  have u:=o _ s
  have u:z.length<=100000:=u
  refine ⟨lpρ (rdW r1 w1) (rdW r2 w2) (prN a b) P (((P.take k).find? fun p=>wnP w1 w2 p.1).map (·.2)) (some (.d (.int (c:Int)))) (some (.d (.int (d:Int)))) v7,_,rfl,.inl ?_,some (.d (.int (c:Int))),some (.d (.int (d:Int))),some (.d (stD z)),rfl⟩
  cases hw:wnP w1 w2 (prN c d) with
  | false=>
   rw[hw] at i
   have e2:(((P.take k).find? fun p=>wnP w1 w2 p.1).or ([(prN c d,z)].find? fun p=>wnP w1 w2 p.1))=((P.take k).find? fun p=>wnP w1 w2 p.1):=by
    rw[B4,hw];simp
   rw[e2]
   simp[-List.getD_eq_getElem?_getD,lpF,lpρ,g,L,M,F,i1,I,i]
  | true=>
   rw[hw] at i
   cases hq:(P.take k).find? fun p=>wnP w1 w2 p.1 with
   | none=>
    have n:dIs (.none) (.none)=.ok (.bool true):=rfl
    simp[-List.getD_eq_getElem?_getD,lpF,lpρ,g,L,M,F,i1,I,i,zO,n,hw]
   | some y=>
    have t:=FA hq
    have v:sl y.2 z:=by
     obtain ⟨j,D⟩:=BR t
     have q:j < k:=by have:=(AG.mp D).1;rw[BS] at this;omega
     have C:P[j]? = some y:=by rw[FC q] at D;exact D
     obtain ⟨lj,ej⟩:=AG.mp C
     obtain ⟨lk,ek⟩:=AG.mp A
     have:=B9.mp m j k (by rw[AC];exact lj) (by rw[AC];exact lk) q
     rw[EE,EE,ej,ek] at this
     exact this
    have ac:=o y (List.take_subset k P t)
    have H:vB (.tuple [.int (z.length:Int),stD z]) (.tuple [.int (y.2.length:Int),stD y.2])=.ok (.bool false):=by
     show R.ok (PyData.bool (HT.lt2 _ _ _ _))=_
     rw[aOM v]
    have Z:dLen (stD z)=.ok (.int (z.length:Int)):=by unfold stD;rw[y6 (by rw[lM];show z.toArray.toList.length<=_;simp;omega),lM]
    have l2:dLen (stD y.2)=.ok (.int (y.2.length:Int)):=by unfold stD;rw[y6 (by rw[lM];show y.2.toArray.toList.length<=_;simp;omega),lM]
    have n:fU (stD y.2)=false:=rfl
    simp[-List.getD_eq_getElem?_getD,lpF,lpρ,g,L,M,F,i1,I,i,zO,n,H,Z,l2])
 rw[E2,<-Q] at W
 have B:(psM P).length<=16777216:=by unfold psM;rw[AC];omega
 have E:(psM P).map (·.1)=P.map (fun p:PZ=>p.1):=oS P
 unfold eZ
 rw[kD]
 have U:fH (stT [(stN 5),(stN 6)]) lpF (P.map fun p:PZ=>p.1) [some (.d (rdW r1 w1)),some (.d (rdW r2 w2)),some (.d (prN a b)),some (.f (psM P)),some (.d .none),none,none,none]=.ok (.nx O):=q1
 simp[hf,B,E,U,W,lpρ]
end
def stN1(rows:List (List Nat))(q c:Nat):Nat:=(rows.getD q []).getD (c - 97) 0
def bN(rows:List (List Nat))(q:Nat)(z:List Nat):Nat:=z.foldl (stN1 rows) q
def Sgs(sg:Nat)(z:List Nat):Prop:=∀ c∈z,fA sg c=true
section
variable{rows r1 r2:List (List Nat)}{ws w1 w2:List Str}{sg:Nat}
def zL{c:Nat}(h:fA sg c=true):97<=c/\c - 97 < sg:=by
 unfold fA at h
 have:=BA h
 omega
def gZ(M:Rdr rows sg){q c:Nat}(b:q < rows.length)(d:fA sg c=true):(rows.getD q [])[c - 97]? = some (stN1 rows q c)/\stN1 rows q c < rows.length:=by
 have a:=M.at b
 have h:=zL d
 have f:c - 97 < (rows.getD q []).length:=by rw[a.2.1];exact h.2
 have e:(rows.getD q [])[c - 97]? = some (stN1 rows q c):=by
  unfold stN1
  generalize rows.getD q []=r at *
  rw[A5,AH f];rfl
 exact ⟨e,a.2.2 _ (AU e)⟩
theorem lO(M:Rdr rows sg):∀ (z:List Nat) {q:Nat},Sgs sg z->q < rows.length->bN rows q z < rows.length
 | [],_,_,h=>h
 | c::t,_,hs,h=>lO M t (fun c a=>hs c (AI _ a)) (gZ M h (hs c AQ)).2
theorem zM(M1:Rdr r1 sg)(M2:Rdr r2 sg):∀ (z:List Nat) {a b:Nat},Sgs sg z->a < r1.length->b < r2.length->fE (afP r1 r2) (prN a b) z=prN (bN r1 a z) (bN r2 b z)
 | [],_,_,_,_,_=>rfl
 | c::t,a,b,hs,ha,hb=>by
  have hc:=hs c AQ
  obtain ⟨e1,f⟩:=gZ M1 ha hc
  obtain ⟨e2,d⟩:=gZ M2 hb hc
  have e:((afP r1 r2 (prN a b))[c - 97]?).getD .none=prN (stN1 r1 a c) (stN1 r2 b c):=by
   rw[i6,AN]
   have:((r1.getD a []).zip (r2.getD b []))[c - 97]? = some (stN1 r1 a c,stN1 r2 b c):=HC.mpr ⟨e1,e2⟩
   rw[this];rfl
  show fE (afP r1 r2) (((afP r1 r2 (prN a b))[c - 97]?).getD .none) t=_
  rw[e]
  exact zM M1 M2 t (fun c hc=>hs c (AI _ hc)) f d
def aLQ{after:D9->List D9}{x0:D9}(n:Nat):(∀ x∈bfQ after x0 n,(after x).length<=sg)->∀ p∈bfP after x0 n,Sgs sg p.2:=by
 induction n with
 | zero=>intro _ p a c e;rw[AL.mp a] at e;simp at e
 | succ n b=>
  intro i
  have b:=b fun x hx=>i x ((iK after x0 n).subset hx)
  rw[bfP]
  split
  .rename_i q j
   have f:=b q (AU j)
   have l:(after q.1).length<=sg:=i _ ((iK after x0 n).subset (by rw[<-dI];exact CQ (AU j)))
   have g:∀ (ys:List (D9×Nat)) (F:List PZ),(∀ y∈ys,y.2 < sg)->(∀ p∈F,Sgs sg p.2)->∀ p∈ys.foldl (adP q.2) F,Sgs sg p.2:=by
    intro ys
    induction ys with
    | nil=>exact fun F _ h=>h
    | cons y t iht=>
     intro F d h
     refine iht _ (fun m h'=>d m (AI _ h')) fun p a=>?_
     unfold adP at a
     split at a
     .exact h p a
     .rcases A4.mp a with z|z
      .exact h p z
      .rw[AL.mp z]
       intro c e
       rcases A4.mp e with k|k
       .exact f c k
       .rw[AL.mp k]
        have:=d y AQ
        unfold fA
        exact AV (by omega)
   refine g _ _ (fun y d=>?_) b
   have:=List.snd_lt_add_of_mem_zipIdx d
   omega
  .exact b
def EqI(rows:List (List Nat))(ws:List Str)(sg i x y:Nat):Prop:=∀ w,Sgs sg w->w.length<=i->ws.getD (bN rows x w) ""=ws.getD (bN rows y w) ""
def EqI.up{i x y:Nat}(h:EqI rows ws sg (i+1) x y):EqI rows ws sg i x y:=fun w a b=>h w a (by omega)
def EqI.sy{i x y:Nat}(h:EqI rows ws sg i x y):EqI rows ws sg i y x:=fun w a b=>(h w a b).symm
def EqI.tr{i x y z:Nat}(h:EqI rows ws sg i x y)(k:EqI rows ws sg i y z):EqI rows ws sg i x z:=fun w a b=>(h w a b).trans (k w a b)
def kY(rows:List (List Nat))(ws:List Str)(sg i x:Nat):Prop:=∀ b,b < x->¬ EqI rows ws sg i x b
def aFQ(i x:Nat):∃ r,r<=x/\EqI rows ws sg i x r/\kY rows ws sg i r:=by
 obtain ⟨r,h1,h2,c⟩:=pT (P:=fun r=>EqI rows ws sg i x r) x (fun w _ _=>rfl)
 exact ⟨r,h1,h2,fun b a h=>c b a (h2.tr h)⟩
def aLR{i:Nat}(h:∀ x,x < rows.length->kY rows ws sg (i+1) x->kY rows ws sg i x){x y:Nat}(hx:x < rows.length)(g:y < rows.length)(e:EqI rows ws sg i x y):EqI rows ws sg (i+1) x y:=by
 obtain ⟨r,r1,r2,f⟩:=aFQ (rows:=rows) (ws:=ws) (sg:=sg) (i+1) x
 obtain ⟨s,s1,a,c⟩:=aFQ (rows:=rows) (ws:=ws) (sg:=sg) (i+1) y
 have b:=h r (by omega) f
 have d:=h s (by omega) c
 have e2:EqI rows ws sg i r s:=(r2.up.sy.tr e).tr a.up
 have:r=s:=by
  rcases G8 r s with q|q|q
  · exact absurd e2.sy (d r q)
  · exact q
  · exact absurd e2 (b s q)
 subst this
 exact r2.tr a.sy
theorem aFR(M:Rdr rows sg){i:Nat}(h:∀ x y,x < rows.length->y < rows.length->EqI rows ws sg i x y->EqI rows ws sg (i+1) x y):∀ (k:Nat) {x y:Nat},x < rows.length->y < rows.length->EqI rows ws sg i x y->EqI rows ws sg (i+k) x y
 | 0,_,_,_,_,e=>e
 | k+1,x,y,hx,hy,e=>fun w hs hl=>by
  cases w with
  | nil=>exact e [] hs (CU _)
  | cons c t=>
   have hc:=hs c AQ
   obtain ⟨_,b⟩:=gZ M hx hc
   obtain ⟨_,a⟩:=gZ M hy hc
   have e1:=h x y hx hy e
   have e2:EqI rows ws sg i (stN1 rows x c) (stN1 rows y c):=fun u f hl=>e1 (c::u) (fun d g=>by
    rcases AS.mp g with q|q
    · rw [q]; exact hc
    · exact f d q) (by simpa using hl)
   exact aFR M h k b a e2 t (fun c hc=>hs c (AI _ hc)) (by simp at hl;omega)
theorem aFS{α:Type}(p q:α->Bool):∀ l:List α,(∀ a∈l,p a=true->q a=true)->(∃ a∈l,p a=false/\q a=true)->l.countP p < l.countP q
 | [],_,⟨a,h,_⟩=>by simp at h
 | x::t,hi,⟨a,h,h1,h2⟩=>by
  rw[List.countP_cons,List.countP_cons]
  have hle:=List.countP_mono_left (l:=t) (p:=p) (q:=q) fun a b=>hi a (AI _ b)
  rcases AS.mp h with q'|q'
  .subst q'
   rw[h1,h2];simp;omega
  .have c:=aFS p q t (fun a b=>hi a (AI _ b)) ⟨a,q',h1,h2⟩
   have:=hi x AQ
   cases hp:p x with
   | false=>
    rw[if_neg A0]
    split<;>omega
   | true=>rw[this hp];simp;omega
open Classical in
def aP6(M:Rdr rows sg){a b:Nat}(k:a < rows.length)(c:b < rows.length){z:List Nat}(hz:Sgs sg z)(o:ws.getD (bN rows a z) ""≠ws.getD (bN rows b z) "") :
  ∃ w,Sgs sg w/\w.length+1<=rows.length/\ws.getD (bN rows a w) ""≠ws.getD (bN rows b w) "":=by
 obtain ⟨L,h1,h2,m⟩:=pT (P:=fun i=>¬ EqI rows ws sg i a b) z.length (fun h=>o (h z hz (AJ _)))
 have up:∀ i,i < L->∃ x,x < rows.length/\¬ kY rows ws sg i x/\kY rows ws sg (i+1) x:=fun i hi=>DK fun d=>by
  have st:∀ x,x < rows.length->kY rows ws sg (i+1) x->kY rows ws sg i x:=fun x hx h=>DK fun h'=>d ⟨x,hx,h',h⟩
  have e:EqI rows ws sg i a b:=DK fun h=>m i hi h
  have:=aFR (ws:=ws) M (fun x y hx n=>aLR st hx n) (L - i) k c e
  rw[show i+(L - i)=L by omega] at this
  exact h2 this
 have f:∀ i,i<=L->i+1<=(List.range rows.length).countP fun x=>decide (kY rows ws sg i x):=by
  intro i
  induction i with
  | zero=>
   intro _
   have:0∈List.range rows.length:=DO.mpr (by omega)
   exact List.countP_pos_iff.mpr ⟨0,this,AV fun b c=>absurd c (Nat.not_lt_zero _)⟩
  | succ i ih=>
   intro hi
   have:=ih (by omega)
   obtain ⟨x,hx,q,g⟩:=up i (by omega)
   have:=aFS (fun x=>decide (kY rows ws sg i x)) (fun x=>decide (kY rows ws sg (i+1) x)) (List.range rows.length) (fun x _ h=>AV fun b c e=>BA h b c e.up) ⟨x,DO.mpr hx,AZ q,AV g⟩
   omega
 have s:=f L (AJ _)
 have j:(List.range rows.length).countP (fun x=>decide (kY rows ws sg L x))<=rows.length:=by
  have:=List.countP_le_length (p:=fun x=>decide (kY rows ws sg L x)) (l:=List.range rows.length)
  rw[BH] at this;exact this
 obtain ⟨w,hw⟩:=GJ.mp h2
 obtain ⟨s1,hw⟩:=GJ.mp hw
 obtain ⟨r,hw⟩:=GJ.mp hw
 exact ⟨w,s1,by omega,hw⟩
end
section
variable{rows:List (List Nat)}{ws:List Str}{sg:Nat}
def EqA(rows:List (List Nat))(ws:List Str)(sg x y:Nat):Prop:=∀ w,Sgs sg w->ws.getD (bN rows x w) ""=ws.getD (bN rows y w) ""
end
section
variable{rows:List (List Nat)}{ws:List Str}{sg:Nat}{L:List Nat}
structure Lk(rows:List (List Nat))(ws:List Str)(sg:Nat)(L:List Nat):Prop where
 len:L.length=rows.length
 at_:∀ x,x < rows.length->L[x]? = some (L.getD x 0)/\L.getD x 0<=x/\EqA rows ws sg x (L.getD x 0)/\∀ b,b < L.getD x 0->¬ EqA rows ws sg (L.getD x 0) b
def afL(rows:List (List Nat))(L:List Nat):D9->List D9
 | .int q=>(rows.getD q.toNat []).map fun j=>.int (L.getD j 0:Int)
 | _=>[]
structure Lst(rows:List (List Nat))(ws:List Str)(L:List Nat)(N:Nat):Prop where
 len:(bfQ (afL rows L) (.int 0) N).length=N
 on:∀ m,m < N->m < (bfQ (afL rows L) (.int 0) m).length
 le:N<=rows.length
end
section
variable{rows:List (List Nat)}{ws:List Str}{sg:Nat}{L:List Nat}{N:Nat}
def aFT{after:D9->List D9}{x0 x y:D9}{n:Nat}(g:(bfQ after x0 n).length<=n)(hx:x∈bfQ after x0 n)(i:y∈after x):y∈bfQ after x0 n:=by
 obtain ⟨m,f⟩:=BR hx
 have b:=(AG.mp f).1
 have a:m < n:=AW b g
 by_cases h:m < (bfQ after x0 m).length
 .have:=mM (lN (BU a)) h f
  have e:=sJ this
  have c:y∈bfQ after x0 (m+1):=by rw[e];exact qT _ i
  exact (lN (show m+1<=n by omega)).subset c
 .exfalso
  have d:∀ k,(bfQ after x0 (m+k))=bfQ after x0 m:=by
   intro k
   induction k with
   | zero=>rfl
   | succ k ih=>
    have:(bfQ after x0 (m+k))[m+k]? = none:=by rw[ih];exact ET (by omega)
    rw[<-Nat.add_assoc,bfQ,this]
    exact ih
  obtain ⟨k,rfl⟩:=FP (BU a)
  rw[d k] at b
  omega
end
end Mc
namespace Zp
open PySem L2
end Zp
namespace Fl
open PySem L2 PyProof.Rows
def aLS(i j:Nat)(f g:Sg->R D9):Sg->R Fw:=fun ρ=>match ρ[i]? with
 | some (some (.l xs))=>match ρ[j]? with
  | some (some (.m kvs))=>(f ρ).bind fun k=>(g ρ).bind fun y=>if bJ k (kvs.map (·.1))=true/\kvs.length<=16777216/\xs.length < 16777216/\i≠j then
   .ok (.nx ((ρ.set j (some (.m (match cK kvs k with|some _=>kvs|none=>putM kvs k y)))).set i (some (.l (xs++[(cK kvs k).getD y]))))) else .bad
  | _=>.bad
 | _=>.bad
@[simp] theorem aP7(i j:Nat)(f g:Sg->R D9)(ρ:Sg):aLS i j f g ρ=match ρ[i]? with
 | some (some (.l xs))=>match ρ[j]? with
  | some (some (.m kvs))=>(f ρ).bind fun k=>(g ρ).bind fun y=>if bJ k (kvs.map (·.1))=true/\kvs.length<=16777216/\xs.length < 16777216/\i≠j then
   .ok (.nx ((ρ.set j (some (.m (match cK kvs k with|some _=>kvs|none=>putM kvs k y)))).set i (some (.l (xs++[(cK kvs k).getD y]))))) else .bad
  | _=>.bad
 | _=>.bad:=id rfl
@[simp] theorem aRL(i:Nat)(ρ:Sg):aPV i ρ=match ρ[i]? with
 | some (some (.m kvs))=>if kvs.length<=16777216 then .ok (.int (kvs.length:Int)) else .bad
 | some (some (.f kvs))=>if kvs.length<=16777216 then .ok (.int (kvs.length:Int)) else .bad
 | _=>.bad:=id rfl
end Fl
namespace Mc
open PySem L2 PyProof.Rows Fl
section
variable{rows:List (List Nat)}{ws:List Str}{sg:Nat}
def kOk(d:D9):Prop:=(∃ i,d=.int i)\/∃ w,pU w/\d=.str w
structure Kd(rows:List (List Nat))(ws:List Str)(sg i:Nat)(κ:Nat->D9):Prop where
 ok:∀ x,x < rows.length->kOk (κ x)
 iff:∀ x y,x < rows.length->y < rows.length->(κ x=κ y↔EqI rows ws sg i x y)
end
def afW(rs:List Rw)(sg:Nat)(x:D9):List D9:=(List.range sg).map (aRH rs x)
def bfW(rs:List Rw)(sg n:Nat):List D9:=bfQ (afW rs sg) (aI1 rs []) n
structure ZsOk(rs:List Rw)(sg n:Nat)(zs:List (List Nat)):Prop where
 map:zs.map (aI1 rs)=bfW rs sg n
 ok:∀ z∈zs,w4 sg z/\z.length<=n
structure EndW(rs:List Rw)(sg most N:Nat):Prop where
 on:∀ m,m < N->m < (bfW rs sg m).length/\(bfW rs sg m).length<=most
 off:(bfW rs sg N).length<=N\/most < (bfW rs sg N).length
def aLT{sg:Nat}(s1:1<=sg)(a:sg<=3):(sgT sg).cps.toList=(List.range sg).map (97 + ·):=by
 rw[aBP s1 a]
 rcases (by omega:sg=1\/sg=2\/sg=3) with rfl|rfl|rfl<;>rfl
structure Sml(rs:List Rw)(sg N:Nat):Prop where
 m:Mach rs sg
 e:EndW rs sg 40 N
 n:N<=40
 few:(bfW rs sg N).length<=40
 s2:sg<=2
 r5:rs.length<=5
section
variable{rs:List Rw}{sg N:Nat}
structure Wy(rs:List Rw)(sg N:Nat):Prop where
 m:Mach rs sg
 len:(bfW rs sg N).length=N
 n:N<=200
end
def aLU{z:List Nat}(h:z.length<=16777216):dLen (stD z)=.ok (.int (z.length:Int)):=by
 unfold stD;rw[y6 (by rw[lM];show z.toArray.toList.length<=_;simp;omega),lM]
def aOO(y z:List Nat):(decide (y.length < z.length) || (decide (y.length=z.length) && decide (y < z)))=true->sl y z:=fun h=>by
 rw[CH,AM] at h
 exact h.imp BA fun h=>⟨BA h.1,BA h.2⟩
def vL:List (List Nat)->Bool
 | []=>true
 | x::t=>t.all (fun z=>(decide (x.length < z.length) || (decide (x.length=z.length) && decide (x < z)))) && vL t
theorem uA:∀ {l:List (List Nat)},vL l=true->l.Pairwise sl
 | [],_=>.nil
 | x::t,h=>by
  rw[vL,AM] at h
  exact .cons (fun y a=>aOO x y (A1.mp h.1 y a)) (uA h.2)
def vM(js:List Nat):List D9:=js.map fun j:Nat=>.int (j:Int)
def aOP{v m:Int}(h1:1<=m)(c:m<=3):∃ w:Str,(w="by"\/w="out"\/w="ever")/\dIx (.list [.str "by",.str "out",.str "ever"]) (.int (v % m))=.ok (.str w):=by
 have a:=B5 v (show m≠0 by omega)
 have b:=BW v (show 0 < m by omega)
 rcases (by omega:v % m=0\/v % m=1\/v % m=2) with h|h|h<;>rw[h]
 · exact ⟨"by", .inl rfl, rfl⟩
 · exact ⟨"out", .inr (.inl rfl), rfl⟩
 · exact ⟨"ever", .inr (.inr rfl), rfl⟩
def aOQ{a b n sg m p q r:Option A}{N SG:Nat}{W:Int}{xs ws:List D9}{dg:Bool}{num:Int}(hN:1<=N)(J:N<=1000)(H:n=some (.d (.int (N:Int))))(D:sg=some (.d (.int (SG:Int))))(E:m=some (.d (.int W)))(w1:1<=W)(w3:W<=3)(O:SG<=3)(hx:xs.length < 16777216)(hw:ws.length < 16777216) :
  ∃ (js:List Nat) (w:Str) (num':Option A) (q' r':Option A),js.length=SG/\(∀ j∈js,j < N)/\(w="by"\/w="out"\/w="ever") /\
   owR [a,b,n,sg,m,some (.l xs),some (.l ws),p,some (.d (.bool dg)),some (.d (.int num)),q,r]=.ok (.nx [a,b,n,sg,m,some (.l (xs++[bF js])),some (.l (ws++[.str w])),p,some (.d (.bool dg)),num',q',r']):=by
 subst H D E
 have c:(0:Int) < (N:Int):=by omega
 have z:=pR (n:=SG) (by omega)
 obtain ⟨I,K,js,v,r',M,o,f⟩:=eD (fs:=stN 11) (fb:=owI) (d:=fun i:Nat=>PyData.int (i:Int)) (xs:=List.range SG) (ρ:=[a,b,some (.d (.int (N:Int))),some (.d (.int (SG:Int))),some (.d (.int W)),some (.l xs),some (.l ws),p,some (.d (.bool dg)),some (.d (.int num)),some (.l []),r])
  (fun i ρ=>∃ (js:List Nat) (v:Int) (r':Option A),ρ=[a,b,some (.d (.int (N:Int))),some (.d (.int (SG:Int))),some (.d (.int W)),some (.l xs),some (.l ws),p,some (.d (.bool dg)),some (.d (.int v)),some (.l (vM js)),r']/\js.length=i/\∀ j∈js,j < N) ⟨[],num,r,rfl,rfl,fun j o=>by simp at o⟩ fun i k ρ C u=>by
  obtain ⟨js,v,r',e,o,f⟩:=u
  have hi:i < SG:=by have:=(AG.mp C).1;simpa using this
  have s:js.length < 16777216:=by omega
  have key:∀ y:Int,∃ j:Nat,(y % (N:Int))=(j:Int)/\j < N:=fun y=>⟨(y % (N:Int)).toNat,by have:=B5 y (show (N:Int)≠0 by omega);omega,by have:=BW y c;omega⟩
  have g:(N:Int) < 18446744073709551616:=by omega
  cases dg with
  | true=>
   obtain ⟨j,e1,e2⟩:=key v
   refine ⟨[a,b,some (.d (.int (N:Int))),some (.d (.int (SG:Int))),some (.d (.int W)),some (.l xs),some (.l ws),p,some (.d (.bool true)),some (.d (.int v)),some (.l (vM js)),some (.d (.int (k:Int)))],_,by rw[e];rfl,.inl ?_,js++[j],v / (N:Int),some (.d (.int (k:Int))),rfl,by simp[o],fun x hx=>?_⟩
   .simp[owI,dB c,gS c g,s,e1,vM]
   .rcases A4.mp hx with h|h
    · exact f x h
    · rw [AL.mp h]; exact e2
  | false=>
   obtain ⟨j,e1,e2⟩:=key ((v * 48271+7919) % 2147483647 / 64)
   have F:dMul (.int v) (.int 48271)=.ok (.int (v * 48271)):=pP (by decide) (by decide)
   have m2:∀ y:Int,dMod (.int y) (.int 2147483647)=.ok (.int (y % 2147483647)):=fun y=>dB (by decide)
   have L:∀ y:Int,dDiv (.int y) (.int 64)=.ok (.int (y / 64)):=fun y=>gS (by decide) (by decide)
   refine ⟨[a,b,some (.d (.int (N:Int))),some (.d (.int (SG:Int))),some (.d (.int W)),some (.l xs),some (.l ws),p,some (.d (.bool false)),some (.d (.int v)),some (.l (vM js)),some (.d (.int (k:Int)))],_,by rw[e];rfl,.inl ?_,js++[j],(v * 48271+7919) % 2147483647 / 64 / (N:Int),some (.d (.int (k:Int))),rfl,by simp[o],fun x hx=>?_⟩
   .simp[owI,F,m2,L,dB c,gS c g,s,e1,vM]
   .rcases A4.mp hx with h|h
    · exact f x h
    · rw [AL.mp h]; exact e2
 subst M
 rw[BH] at o
 obtain ⟨w,B,t⟩:=aOP (v:=v) w1 w3
 have G:dMod (.int v) (.int W)=.ok (.int (v % W)):=dB (by omega)
 refine ⟨js,w,some (.d (.int v)),some (.l (vM js)),r',o,f,B,?_⟩
 simp only[owR,cO,oO,lJ,gB,fQ,R.bind_ok,CP,BI,Nat.reduceAdd,Nat.reduceLeDiff,CU,if_true,B1,B2,qQ,aC1,kJ,BC,BK,z,K,aBK,kI,oN,aC0,i5,G,t,hw,hx,aN6]
 rfl
def aOR{ns:List Int}{at' W:Int}{n sg:Nat}(N:0<=at')(h1:1<=n)(h2:n<=1000)(s1:1<=sg)(K:sg<=3)(w1:1<=W)(w3:W<=3):∃ (rows:List (List Nat)) (ws:List Str),dD [.d (iX ns),.d (.int at'),.d (.int n),.d (.int sg),.d (.int W)]=.ok (.d (rdD rows (ws.map .str)))/\Rdr rows sg/\rows.length=n/\ws.length=n/\∀ w∈ws,w="by"\/w="out"\/w="ever":=by
 have H:=pR (n:=n) (by omega)
 obtain ⟨S,T,rows,ws,u,v,x,y,z,V,m,C,t,hw⟩:=eD (fs:=stN 7) (fb:=owB) (d:=fun i:Nat=>PyData.int (i:Int)) (xs:=List.range n) (ρ:=[some (.d (iX ns)),some (.d (.int at')),some (.d (.int n)),some (.d (.int sg)),some (.d (.int W)),some (.l []),some (.l []),none,none,none,none,none])
  (fun i ρ=>∃ (rows:List (List Nat)) (ws:List Str) (u v x y z:Option A),ρ=[some (.d (iX ns)),some (.d (.int at')),some (.d (.int n)),some (.d (.int sg)),some (.d (.int W)),some (.l (rows.map bF)),some (.l (ws.map .str)),u,v,x,y,z]/\rows.length=i/\ws.length=i/\(∀ r∈rows,r.length=sg/\∀ j∈r,j < n)/\∀ w∈ws,w="by"\/w="out"\/w="ever")
  ⟨[],[],none,none,none,none,none,rfl,rfl,rfl,fun r t=>by simp at t,fun w hw=>by simp at hw⟩ fun i k ρ M G=>by
  obtain ⟨rows,ws,u,v,x,y,z,e,m,C,t,hw⟩:=G
  have hi:i < n:=by have:=(AG.mp M).1;simpa using this
  obtain ⟨c,I⟩:=mC ns (at'+(k:Int))
  have m2:∀ y:Int,dMod (.int y) (.int 2147483647)=.ok (.int (y % 2147483647)):=fun y=>dB (by decide)
  have J:∀ y:Int,dMod (.int y) (.int 2)=.ok (.int (y % 2)):=fun y=>dB (by decide)
  have g:∀ (dg:Bool) (num:Int),∃ f,(owR [some (.d (iX ns)),some (.d (.int at')),some (.d (.int n)),some (.d (.int sg)),some (.d (.int W)),some (.l (rows.map bF)),some (.l (ws.map .str)),some (.d (.int (k:Int))),some (.d (.bool dg)),some (.d (.int num)),y,z]=.ok (.nx f))/\∃ (rows:List (List Nat)) (ws:List Str) (u v x y z:Option A),f=[some (.d (iX ns)),some (.d (.int at')),some (.d (.int n)),some (.d (.int sg)),some (.d (.int W)),some (.l (rows.map bF)),some (.l (ws.map .str)),u,v,x,y,z]/\rows.length=i+1/\ws.length=i+1/\(∀ r∈rows,r.length=sg/\∀ j∈r,j < n)/\∀ w∈ws,w="by"\/w="out"\/w="ever":=fun dg num=>by
   obtain ⟨js,w,O,X,a3,R,P,Y,L⟩:=aOQ (a:=some (.d (iX ns))) (b:=some (.d (.int at'))) (p:=some (.d (.int (k:Int)))) (q:=y) (r:=z) (xs:=rows.map bF) (ws:=ws.map .str) (dg:=dg) (num:=num) (W:=W) (SG:=sg) h1 h2 rfl rfl rfl w1 w3 K (by simp;omega) (by simp;omega)
   refine ⟨_,L,rows++[js],ws++[w],some (.d (.int (k:Int))),some (.d (.bool dg)),O,X,a3,by simp,by simp[m],by simp[C],fun r F=>?_,fun Z E=>?_⟩
   .rcases A4.mp F with h|h
    · exact t r h
    · rw [AL.mp h]; exact ⟨R, P⟩
   .rcases A4.mp E with h|h
    · exact hw Z h
    · rw [AL.mp h]; exact Y
  by_cases c1:at'+(k:Int) < (ns.length:Int)
  .obtain ⟨Q,B⟩:=zA (ns:=ns) (i:=0) (Int.le_refl _) (by omega)
   obtain ⟨U,D⟩:=zA (ns:=ns) (i:=at'+(k:Int)) (by omega) c1
   by_cases c2:Q % 2=1
   .obtain ⟨f,s,o⟩:=g true U
    refine ⟨[some (.d (iX ns)),some (.d (.int at')),some (.d (.int n)),some (.d (.int sg)),some (.d (.int W)),some (.l (rows.map bF)),some (.l (ws.map .str)),some (.d (.int (k:Int))),v,x,y,z],f,by rw[e];rfl,.inl ?_,o⟩
    rw[<-s]
    simp[owB,lL,c1,B,J,c2,i3,I,m2,D]
   .obtain ⟨f,s,o⟩:=g false (c % 2147483647)
    refine ⟨[some (.d (iX ns)),some (.d (.int at')),some (.d (.int n)),some (.d (.int sg)),some (.d (.int W)),some (.l (rows.map bF)),some (.l (ws.map .str)),some (.d (.int (k:Int))),v,x,y,z],f,by rw[e];rfl,.inl ?_,o⟩
    rw[<-s]
    simp[owB,lL,c1,B,J,c2,i3,I,m2]
  .obtain ⟨f,s,o⟩:=g false (c % 2147483647)
   refine ⟨[some (.d (iX ns)),some (.d (.int at')),some (.d (.int n)),some (.d (.int sg)),some (.d (.int W)),some (.l (rows.map bF)),some (.l (ws.map .str)),some (.d (.int (k:Int))),v,x,y,z],f,by rw[e];rfl,.inl ?_,o⟩
   rw[<-s]
   simp[owB,lL,c1,I,m2]
 subst V
 rw[BH] at m C
 refine ⟨rows,ws,?_,⟨by omega,by omega,s1,K,fun r h=>by rw[m];exact t r h⟩,m,C,hw⟩
 unfold dD
 rw[kW]
 simp[H,T,rdD]
section
variable{rows r1 r2:List (List Nat)}{ws w1 w2:List Str}{sg:Nat}{L:List Nat}{N:Nat}
end
section
variable{rows:List (List Nat)}{ws:List Str}{rs:List Rw}{sg N:Nat}{L:List Nat}
end
end Mc
namespace Fl
open PySem L2 PyProof.Rows
def RQ(K:Frag)(H F' H':Hp)(d:D9×List D9)(v:V):Prop:=∃ p b u ws,v=.ref p/\H p=none/\H b=none/\p≠b/\H' p=some (.lst [u,.ref b])/\H' b=some (.lst ws)/\F' p=none/\F' b=none/\DatV K F' u d.1/\DatVs K F' ws d.2
def aC3(c:Ct)(E:XK)(f:Sg->R (D9×List D9)):TS:=fun D σ H=>∃ ρ F,Ab c ρ σ F H/\Rk c E F H (f ρ) fun d=>∀ v F' H',Ext c.F0 c.H0 F' H'->RQ c.K c.H0 F' H' d v->D.rt v H'
def kZ(f:Sg->R Fw)(g:Sg->R (D9×List D9)):Sg->R (D9×List D9):=fun ρ=>(f ρ).bind fun w=>match w with
 | .nx ρ'=>g ρ'
 | _=>.bad
def aC4(i j:Nat):Sg->R (D9×List D9):=fun ρ=>match ρ[i]?,ρ[j]? with
 | some (some (.l xs)),some (some (.l ys))=>if i≠j then .ok (.list xs,ys) else .bad
 | _,_=>.bad
section
variable{X:Cx}{c:Ct}{E:XK}{st:Stmt}{rest:List Stmt}{pos:Pos}
def eY{f:Sg->R Fw}{g:Sg->R (D9×List D9)}(h:PSf X c E st f)(h2:PSs X rest (aC3 c E g)):PSs X (st::rest) (aC3 c E (kZ f g)):=PSs.imp (L2.aF h h2) fun D σ H d=>by
 obtain ⟨ρ,F,ab,k⟩:=d
 refine ⟨ρ,F,ab,(Rk.bind k).imp fun w _ q=>?_⟩
 cases w with
 | nx ρ'=>
  intro l j H' s i
  refine ⟨ρ',j,i,?_⟩
  have b:Rk c E F H (g ρ') _:=q
  cases eg:g ρ' with
  | bad=>rw[eg] at b;exact b
  | ok w=>rw[eg] at b;exact b
  | ex e=>rw[eg] at b;exact b
 | bk ρ'=>exact q.elim
 | ct ρ'=>exact q.elim
 | rt a=>exact q.elim
def aH1{i j:Nat}{es:List Expr}{v:Pos}(h:PA X es (cT (fN i) (cT (fN j) fO))):PSs X [.Return (some (.List es v)) pos] (aC3 c E (aC4 i j)):=PSs.imp (L2.aM (L2.bL (aDM h))) fun D σ H ⟨ρ,F,ab,k⟩=>by
 unfold aC4 at k
 split at k
 .rename_i xs ys hi t
  split at k
  .rename_i ne
   obtain ⟨_,r,a,us,rfl,_⟩:=ab.slot i _ hi
   obtain ⟨_,hw,b,ws,rfl,K,L,G,I⟩:=ab.slot j _ t
   obtain ⟨A,s,e⟩:=ab.frz i
   have w:fz i ρ=ρ.set i (some (.d (.list xs))):=by unfold fz;rw[hi]
   rw[w] at e
   have o:i < ρ.length:=(AG.mp hi).1
   obtain ⟨_,n,C⟩:=e.slot i _ (CA o)
   rw[r] at n
   cases n
   obtain ⟨_,f,J,q,B,u,x,c4,y⟩:=e.slot j (.l ys) (by rw[A9 ne];exact t)
   rw[hw] at f
   cases f
   cases B
   refine ⟨_,r,_,hw,?_⟩
   refine ⟨by rw[cV];exact (by decide:(2:Nat)<=16777216),fun p m=>?_⟩
   have g:p≠b:=fun z=>by rw[z,u] at m;cases m
   exact Rk.ok k (.ref p) A _ (e.all.trans (Ext.own e.fh m)) ⟨p,b,_,q,rfl,a9 e.h0 m,c4,g,aT,by rw[aG (Ne.symm g)];exact u,a9 e.fh m,x,C,y⟩
  .exact k.elim
 .exact k.elim
end
def fnQ(n:Nat)(fb:Sg->R (D9×List D9)):List A->R (D9×List D9):=fun as=>fb (as.map some++List.replicate (n - as.length) none)
def spQ(g:Gb)(K:Frag)(mg:Str->Option V9)(n:Nat)(G:List A->R (D9×List D9)):Sp:=fun vs H Q E=>∃ F as,aH g.T F/\aH F H/\AFs g K mg F as vs/\as.length=n/\match G as with
 | .bad=>False
 | .ok d=>∀ v F' H',Ext F H F' H'->RQ K H F' H' d v->Q v H'
 | .ex e=>∀ a C F' H',Ext F H F' H'->i8 K mg F' e a C->E (.ref C) (some a) H'
def zN(P:Program)(w:World)(K:Frag)(mg:Str->Option V9)(base:Heap)(T:Hp)(k:Nat)(x:Str)(ps:List Str)(G:List A->R (D9×List D9)):Prop:=Calls P w K mg base (CXe P w) k x ps (spQ (gOf P w K mg base T) K mg ps.length G)
def aLV{P:Program}{w:World}{K:Frag}{mg:Str->Option V9}{base:Heap}{T:Hp}{x:Str}{st:Stmt}{N ps:List Str}{k:Nat}{fb:Sg->R (D9×List D9)}(D:DefAt K mg x st ps)(S:FnScope N ps (aL st))
  (b:∀ (f:Az) (cdv:V9) (A:Around) (outer:List Env) (s:S9) (H F:Hp) (E:XK),Room k (A.deeper (envOfC x (aL st) s.heap.objs.size f cdv))->
   PSs ((iS (CXe P w) P w K mg base N x (aL st) f cdv A outer s H E).fly E) (cL st) (aC3 ⟨K,mg,w,F,H,gOf P w K mg base T,(envOfC x (aL st) s.heap.objs.size f cdv).cells,fun _=>none⟩ E fb)):zN P w K mg base T (k+1) x ps (fnQ N.length fb):=by
 refine D.okX S (fun vs H Q E h=>?_) (fun f cdv A outer s H vs Q E g h=>?_)
 .obtain ⟨F,c,_,_,h2,d,_⟩:=h
  rw[h2.len,d]
 .obtain ⟨F,c,h0,h1,h2,d,a⟩:=h
  refine ⟨_,b f cdv A outer s H F E g,_,F,rW h0 h1 h2,?_⟩
  unfold fnQ at a
  cases e:fb (c.map some++List.replicate (N.length - c.length) none) with
  | bad=>rw[e] at a;exact a
  | ex x=>rw[e] at a;exact a
  | ok w=>rw[e] at a;exact a
def mF(ρ:Sg)(σ:L2.St)(p:Az):Prop:=∀ (j:Nat) (a:A),ρ[j]? = some (some a)->a.own=true->σ[j]? ≠ some (some (.ref p))
def Ab.off9{c:Ct}{ρ:Sg}{σ:L2.St}{F H:Hp}{p:Az}{o:HO}(b:Ab c ρ σ F H)(q:F p=none)(r:c.H0 p=none)(i:mF ρ σ p):Ab c ρ σ F (upd H p o) where
 len:=b.len
 fh:=fun a o' z=>by rw[aG (fun w=>by rw[w,q] at z;cases z)];exact b.fh a o' z
 slot:=fun j a h=>by
  obtain ⟨v,h1,h2⟩:=b.slot j a h
  refine ⟨v,h1,?_⟩
  cases ho:a.own with
  | true=>exact h2.off fun z=>i j a h ho (by rw[h1,z])
  | false=>
   cases a with
   | l xs=>cases ho
   | m xs=>cases ho
   | d x=>exact h2
   | x e=>exact h2
   | g k n f=>exact h2
   | k S=>exact h2
   | f S=>exact h2
 apart:=b.apart
 f0:=b.f0
 h0:=fun a o' z=>by rw[aG (fun w=>by rw[w,r] at z;cases z)];exact b.h0 a o' z
 n0:=b.n0
 t0:=b.t0
def Ab.pub9{c:Ct}{ρ:Sg}{σ:L2.St}{F H:Hp}{p:Az}{o:HO}(b:Ab c ρ σ F H)(h2:H p=some o)(t:F p=none)(s:c.H0 p=none)(C:mF ρ σ p):Ab c ρ σ (upd F p o) H:=by
 have q:aH F (upd F p o):=aH.upd t
 exact {
  len:=b.len
  fh:=fun a o' z=>by
   by_cases w:a=p
   .subst w;rw[aT] at z;rw[h2];exact z
   .rw[aG w] at z;exact b.fh a o' z
  slot:=fun j a h=>by
   obtain ⟨w,hw,i⟩:=b.slot j a h
   refine ⟨w,hw,?_⟩
   have off:∀ r,a.own=true->w=.ref r->F r=none->upd F p o r=none:=fun r B e f=>by
    rw[aG]
    .exact f
    .intro z
     subst z
     exact C j a h B (by rw[hw,e])
   cases a with
   | l zs=>obtain ⟨r,ws,e,v,i,u,y⟩:=i;exact ⟨r,ws,e,v,off r rfl e i,u,y.same q⟩
   | m kvs=>obtain ⟨r,ws,e,v,i,u,y⟩:=i;exact ⟨r,ws,e,v,off r rfl e i,u,y.same q⟩
   | d x=>exact DatV.same q i
   | x e=>exact AF.same (g:=c.g) (K:=c.K) (mg:=c.mg) (a:=.x e) q i
   | g k n f=>exact AF.same (g:=c.g) (K:=c.K) (mg:=c.mg) (a:=.g k n f) q i
   | k S=>obtain ⟨S,f,cl,doc,pm,A,ct,h0,h1,h2,t,s⟩:=i;exact ⟨S,f,cl,doc,pm,A,ct,h0,h1,q _ _ h2,q _ _ t,s⟩
   | f kvs=>exact AF.same (g:=c.g) (K:=c.K) (mg:=c.mg) (a:=.f kvs) q i
  apart:=b.apart
  f0:=fun a o z=>q a o (b.f0 a o z)
  h0:=b.h0
  n0:=fun a z n=>by
   by_cases w:a=p
   .subst w;exact .inl s
   .rw[aG w] at n;exact b.n0 a z n
  t0:=b.t0}
def Ab.drop9{c:Ct}{ρ:Sg}{σ:L2.St}{F H:Hp}(b:Ab c ρ σ F H)(i:Nat)(v:V):Ab c (ρ.set i none) (σ.set i (some v)) F H where
 len:=by rw[CG,CG];exact b.len
 fh:=b.fh
 slot:=fun j a h=>by
  rcases get_set h with ⟨e,q,l⟩|⟨ne,q⟩
  .cases q
  .rw[A9 ne];exact b.slot j a q
 apart:=fun j k p o d h1 h2 m n=>by
  rcases get_set h1 with ⟨e,q,l⟩|⟨ne,q⟩
  .cases q
  .rcases get_set h2 with ⟨s,f,r⟩|⟨g,f⟩
   .cases f
   .rw[A9 ne,A9 g]
    exact b.apart j k p o d q f m n
 f0:=b.f0
 h0:=b.h0
 n0:=b.n0
 t0:=b.t0
def aH2{α:Type}{l:List α}{i:Nat}{x:α}(h:l[i]? = some x):l.set i x=l:=by
 obtain ⟨a,e⟩:=AG.mp h
 rw[<-e];exact List.set_getElem_self a
structure Own9(c:Ct)(F H:Hp)(ρ:Sg)(σ:L2.St)(i:Nat)(p b:Az)(u:V)(ws:List V):Prop where
 s:σ[i]? = some (some (.ref p))
 ne:p≠b
 hp:H p=some (.lst [u,.ref b])
 hb:H b=some (.lst ws)
 fp:F p=none
 fb:F b=none
 p0:c.H0 p=none
 b0:c.H0 b=none
 np:mF ρ σ p
 nb:mF ρ σ b
def Own9.ext{c:Ct}{F H a H':Hp}{ρ:Sg}{σ:L2.St}{i:Nat}{p b:Az}{u:V}{ws:List V}(h:Own9 c F H ρ σ i p b u ws)(e:Ext F H a H'):Own9 c a H' ρ σ i p b u ws:=
 ⟨h.s,h.ne,e.hh _ _ h.hp,e.hh _ _ h.hb,e.stay h.fp h.hp (fun _ z=>nomatch z),e.stay h.fb h.hb (fun _ z=>nomatch z),h.p0,h.b0,h.np,h.nb⟩
def Own9.done{c:Ct}{F H:Hp}{ρ:Sg}{σ:L2.St}{i:Nat}{p b:Az}{u:V}{ws e:List V}{d1:D9}{ys:List D9}(h:Own9 c F H ρ σ i p b u ws)(ab:Ab c ρ σ F H)(h1:DatV c.K F u d1)(h2:DatVs c.K F e ys) :
  ∃ F',aH F F'/\Ab c (ρ.set i (some (.d (.list [d1,.list ys])))) σ F' (upd H b (.lst e)):=by
 have k:=(ab.off9 (o:=.lst e) h.fb h.b0 h.nb).pub9 (p:=b) aT h.fb h.b0 h.nb
 have j:=k.pub9 (p:=p) (o:=.lst [u,.ref b]) (by rw[aG h.ne];exact h.hp) (by rw[aG h.ne];exact h.fp) h.p0 h.np
 have s1:aH F (upd F b (.lst e)):=aH.upd h.fb
 have f:aH (upd F b (.lst e)) (upd (upd F b (.lst e)) p (.lst [u,.ref b])):=aH.upd (by rw[aG h.ne];exact h.fp)
 have g:=j.setA (i:=i) (a:=.d (.list [d1,.list ys])) (v:=.ref p) (.lst (SqL.of aT) (.cons ((h1.same s1).same f) (.cons (.lst (SqL.of (by rw[aG (Ne.symm h.ne)];exact aT)) ((h2.same s1).same f)) .nil)))
 rw[aH2 h.s] at g
 exact ⟨_,fun a o z=>f a o (s1 a o z),g⟩
def xE(i j n:Nat)(G:List A->R (D9×List D9))(fa:Sg->R (List A))(t:Sg->R Bool)(lf g2:Sg->R D9):Sg->R Fw:=fun ρ=>(fa ρ).bind fun as=>if as.length=n/\i≠j/\i < ρ.length/\j < ρ.length then (G as).bind fun dy=>(t (ρ.set i none)).bind fun b=>if b=true then (lf (ρ.set i none)).bind fun x=>(dMod x (.int dy.2.length)).bind fun k=>(match k with
  | .int kk=>(g2 ((ρ.set i none).set j (some (.d (.int kk))))).bind fun y=>(match ixN dy.2.length kk with
   | some jx=>.ok (.nx (((ρ.set i none).set j (some (.d (.int kk)))).set i (some (.d (.list [dy.1,.list (dy.2.set jx y)])))))
   | none=>.bad)
  | _=>.bad)
 else .ok (.nx ((ρ.set i none).set i (some (.d (.list [dy.1,.list dy.2]))))) else .bad
section
variable{X:Cx}{c:Ct}{E:XK}{rest:List Stmt}{pos:Pos}
def aH3{ac Y aa:Stmt}{q:Expr}{i j n:Nat}{G:List A->R (D9×List D9)}{g:Gb}{K:Frag}{mg:Str->Option V9}{fa:Sg->R (List A)}{t:Sg->R Bool}{lf g2:Sg->R D9}{fr:Sg->R Fw}{J W:TE}
  (hG:g=c.g) (hK:K=c.K) (hM:mg=c.mg)
  (h1:PS X ac (iR (nW (spQ g K mg n G) [] E (tAv c E fa)) (h8 i))) (hq:PTf X c E q t)
  (h2:PS X Y (iR (tOp (r2D (aZ c) (aZ c) (bW c) dMod) (tV (aZ c) c E lf) J) (h8 j)))
  (h3:PS X aa (iR (tV (bW c) c E g2) (aF9 W (fN j) aIK)))
  (Z:∀ (σ:L2.St) (H:Hp) (Q:VK) (p b:Az) (u:V) (ws:List V),σ[i]? = some (some (.ref p))->H p=some (.lst [u,.ref b])->H b=some (.lst ws)->Q (.int ws.length) H->J σ H Q)
  (ag:∀ (σ:L2.St) (H:Hp) (Q:VK) (p b:Az) (u:V),σ[i]? = some (some (.ref p))->H p=some (.lst [u,.ref b])->Q (.ref b) H->W σ H Q)
  (hr:jW X c E rest fr):jW X c E (ac::.If q [Y,aa] [] pos::rest) (aP (xE i j n G fa t lf g2) fr):=PSs.imp (L2.aF h1 (L2.aF (L2.cX hq (L2.aF h2 (L2.aM h3)) L2.b9) hr)) fun D σ H ak=>by
 obtain ⟨ρ,F,ab,k⟩:=ak
 subst hG hK hM
 refine ⟨ρ,F,ab,(Rk.bind (Rk.bind k)).imp fun as _ q vs F1 H1 s1 r1=>?_⟩
 by_cases hn:as.length=n/\i≠j/\i < ρ.length/\j < ρ.length
 .rw[if_pos hn] at q
  obtain ⟨hn,am,al,ah⟩:=hn
  refine ⟨F1,as,fun a o z=>s1.ff a o (ab.f0 a o (ab.t0 a o z)),s1.fh,by rw[DC];exact r1,hn,?_⟩
  cases hg:G as with
  | bad=>rw[hg] at q;exact q
  | ex e=>rw[hg] at q;exact fun a C F' H' s r=>q a C F' H' ((ab.all.trans s1).trans s) r
  | ok dy=>
   rw[hg,R.bind_ok] at q
   intro v F2 H2 s2 ⟨p,b,u,ws,e1,e2,e3,e4,e5,e6,e7,e8,e9,e10⟩
   subst e1
   have B:=ab.ext s1
   have ad:=(B.ext s2).drop9 i (.ref p)
   have aq:(σ.set i (some (.ref p)))[i]? = some (some (.ref p)):=CA (by rw[<-ab.len];exact al)
   have fresh:∀ r,H1 r=none->mF (ρ.set i none) (σ.set i (some (.ref p))) r:=fun r hr jj a hj ho z=>by
    rcases get_set hj with ⟨e,O,_⟩|⟨ne,O⟩
    .cases O
    .obtain ⟨w,hw,aw⟩:=B.slot jj a O
     obtain ⟨p',o',ew,S,_⟩:=aw.at ho
     rw[A9 ne,hw] at z
     cases z
     cases ew
     rw[hr] at S;cases S
   have O2:Own9 c F2 H2 (ρ.set i none) (σ.set i (some (.ref p))) i p b u ws:=⟨aq,e4,e5,e6,e7,e8,a9 B.h0 e2,a9 B.h0 e3,fresh p e2,fresh b e3⟩
   have au:(ρ.set i none).length=ρ.length:=CG
   have ap:j < (σ.set i (some (.ref p))).length:=by rw[CG,<-ab.len];exact ah
   show tTf c E t (σ.set i (some (.ref p))) H2 _
   generalize ρ.set i none=f at *
   generalize σ.set i (some (.ref p))=l at *
   refine ⟨f,F2,ad,?_⟩
   have af:aH F F2:=fun a o z=>s2.ff a o (s1.ff a o z)
   refine (show Rk c E F2 H2 (t f) _ from Rk.bind q).imp fun bb _ q F3 H3 M=>?_
   have N:=ad.ext M
   have P:=O2.ext M
   cases bb with
   | false=>
    refine rO ?_
    obtain ⟨F',sf,I⟩:=P.done N (e9.same M.ff) (e10.same M.ff)
    have hu:upd H3 b (.lst ws)=H3:=by
     funext a
     by_cases w:a=b
     .subst w;rw[aT,P.hb]
     .rw[aG w]
    rw[hu] at I
    exact ⟨_,F',I,Rk.fw (H:=H) (fun a o z=>sf a o (M.ff a o (af a o z))) q⟩
   | true=>
    refine rP ?_
    refine ⟨f,F3,N,?_⟩
    refine (show Rk c E F3 H3 (lf f) _ from Rk.bind q).imp fun x _ q v F4 H4 L r4=>?_
    refine Z l H4 _ p b u ws P.s (P.ext L).hp (P.ext L).hb ?_
    have T:ws.length=dy.2.length:=e10.length
    cases hk:dMod x (.int dy.2.length) with
    | bad=>rw[hk] at q;exact q.elim
    | ex e=>exact absurd hk (bO _ _ _)
    | ok k=>
     rw[hk,R.bind_ok] at q
     refine ⟨H3,H4,F4,x,.int ws.length,k,L.fh,r4,.inl (.int _),by rw[T];exact hk,fun w F5 H5 s5 r5=>?_⟩
     cases k with
     | int kk=>
      obtain rfl:=DatV.int_of r5
      have ae:=((N.ext L).ext s5).setA (i:=j) (a:=.d (.int kk)) (v:=.int kk) (.int kk)
      have m:=(P.ext L).ext s5
      have ai:Own9 c F5 H5 (f.set j (some (.d (.int kk)))) (l.set j (some (.int kk))) i p b u ws:=by
       have nn:∀ r,mF f l r->mF (f.set j (some (.d (.int kk)))) (l.set j (some (.int kk))) r:=fun r h jj a hj ho z=>by
        rcases get_set hj with ⟨e,O,_⟩|⟨ne,O⟩
        .cases O;cases ho
        .rw[A9 ne] at z
         exact h jj a O ho z
       exact ⟨by rw[A9 (Ne.symm am)];exact m.s,m.ne,m.hp,m.hb,m.fp,m.fb,m.p0,m.b0,nn p m.np,nn b m.nb⟩
      have aj:(l.set j (some (.int kk)))[j]? = some (some (.int kk)):=CA ap
      refine ⟨_,F5,ae,?_⟩
      refine (show Rk c E F5 H5 (g2 (f.set j (some (.d (.int kk))))) _ from Rk.bind q).imp fun y _ q v F6 H6 U r6=>?_
      have O6:=ai.ext U
      refine ag _ H6 _ p b u O6.s O6.hp ?_
      refine ⟨.int kk,aj,?_⟩
      have ao:DatVs c.K F6 ws dy.2:=e10.same fun a o z=>U.ff a o (s5.ff a o (L.ff a o (M.ff a o z)))
      have d9:DatV c.K F6 u dy.1:=e9.same fun a o z=>U.ff a o (s5.ff a o (L.ff a o (M.ff a o z)))
      cases hx:ixN dy.2.length kk with
      | none=>rw[hx] at q;exact q.elim
      | some jx=>
       rw[hx] at q
       refine ⟨b,ws,kk,jx,rfl,rfl,O6.hb,by rw[T];exact hx,?_⟩
       obtain ⟨F',sf,I⟩:=O6.done (ae.ext U) d9 (wE r6 jx ao)
       exact ⟨_,F',I,Rk.fw (H:=H) (fun a o z=>sf a o (U.ff a o (s5.ff a o (L.ff a o (M.ff a o (af a o z)))))) q⟩
     | _=>exact q.elim
 .rw[if_neg hn] at q;exact q.elim
def ix9{K:Frag}{i:Nat}(σ:L2.St)(H:Hp)(Q:VK)(p b:Az)(u:V)(a:σ[i]? = some (some (.ref p)))(c:H p=some (.lst [u,.ref b]))(q:Q (.ref b) H):tOp (rIx K) (fN i) (tC (.int 1)) σ H Q:=
 ⟨_,a,.inl ⟨p,_,1,_,rfl,rfl,SqL.of c,rfl,q⟩⟩
def aRM{K:Frag}{i:Nat}(σ:L2.St)(H:Hp)(Q:VK)(p b:Az)(u:V)(ws:List V)(c:σ[i]? = some (some (.ref p)))(d:H p=some (.lst [u,.ref b]))(a:H b=some (.lst ws))(q:Q (.int ws.length) H) :
  tCB (fun xs H Q=>∃ p ys,xs=[.ref p]/\(SqL K H p ys\/SqT K H p ys)/\Q (.int ys.length) H) (cT (tOp (rIx K) (fN i) (tC (.int 1))) fO) σ H Q:=
 ix9 σ H _ p b u c d ⟨b,ws,rfl,.inl (SqL.of a),q⟩
end
end Fl
namespace Zp
open PySem
def zP:typeLookup (.type "list") "keys"=pure none:=by rw[HU,F8];kernel_rfl
def vN{prog:Program}{w:World}{A:Around}{E:V9->S9->Prop}{s:S9}{a:Az}{xs:Array V9}{k:Nat}{sl:Array (Option V9)}{Q:Option V9->S9->Prop}
  (hx:s.heap.get? a=some {cls:=.type "list",dict:=none,data:=.seq xs k,slots:=sl}) (hA:A.handled=none)
  (h:∀ h' tk,(∀ b o,s.heap.get? b=some o->h'.get? b=some o)->Q none {s with heap:=h',toks:=tk}) :
  wpAny (model prog w) A (getAttr? (.ref a) "keys") Q E s:=by
 obtain ⟨m,g,d,tk,os⟩:=s
 have i:∀ t':Nat,(⟨m,g,d,t',os⟩:S9).TypeIs (.ref a) "list":=fun _=>⟨_,hx,rfl⟩
 have f1:=sub_AttributeError
 have p:=FD.lookup
 have n:=FD.bind (.ref a)
 have r:=am_list_getattr_none
 unfold getAttr? getAttrBy? getAttrBy
 repeat (any_goals (first|assumption|exact i _|((with_reducible show wpAny _ _ (call (Value.builtin "list.__getattribute__") _ _) _ _ _);refine IC FD (i _) am_entry_list_getattribute (F.args_list_getattribute_2 _ _) (meets_getattribute_miss_list a xs k sl "keys" _ zP (by decide +kernel) (by decide)) ⟨hx,hA,fun h' f e c=>?_⟩)|wp_step))
 obtain ⟨t',q,l⟩:=c.there
 have j:(⟨h',g,d,f,os⟩:S9).TypeIs (.ref e) "AttributeError":=⟨_,l,rfl⟩
 show wpAny _ _ (getattributeRaised _ _ _ _ _ _ _) _ _ _
 unfold getattributeRaised
 repeat (any_goals (first|assumption|wp_step))
 exact h _ _ c.keeps
def wS:entryFor table "dict.update.loop"=some Builtin.«dict.update.loop»:=entryFor_of_tree (by kernel_rfl)
def mO:plainId "dict.update.loop"=true:=by decide +kernel
end Zp
namespace Fl
open PySem L2 PyProof.Rows
def oU(p:D9×D9):D9:=.tuple [p.1,p.2]
def aH4{K:Frag}{F:Hp}{v:V}{p:D9×D9}(h:DatV K F v (oU p)):∃ t x y,v=.ref t/\SqT K F t [x,y]/\DatV K F x p.1/\DatV K F y p.2:=by
 unfold oU at h
 cases h with
 | tup hs hd=>
  cases hd with
  | cons h1 t1=>
   cases t1 with
   | cons h2 t2=>
    cases t2
    exact ⟨_,_,_,rfl,hs,h1,h2⟩
section
variable{X:Cx}{pins:List (Az×Obj)}{σ:L2.St}
def aH5{H:Hp}{s:S9}{a:Az}{es:List Ent}{k:D9}{kv v:V}{ku u:V9}{A:Around}{E:V9->S9->Prop}{Q:Unit->S9->Prop}(y:A.units+9 < cLine)(D:DicAt X H a es k kv)(I:Inv X pins σ H s)(x:aY kv ku)(q:aY v u)(hz:es.length<=sizeLine)(h:∀ ep s',Inv X pins σ (upd H a (bZ X.w a (jU es k kv v) ep)) s'->Q () s') :
  wpAny (model X.prog X.w) A (dictSet a ku u) Q E s:=by
 obtain ⟨r,⟨b,xs,rfl,rfl,hx,l,dd⟩|⟨z,xs,rfl,rfl,hx,l,dd⟩⟩:=D.cases I x
 .have i:xs.length<=sizeLine:=by rw[<-Paired.length hx];exact hz
  refine wpAny_dictSet_heap (a:=b) (show (iE X.prog X.w).room A from y) l dd (fun h' c m=>?_) i
  obtain ⟨d,ar,ep,e,h2,n,j,_,t⟩:=c
  obtain ⟨f,g⟩:=D.o
  refine h ep _ (jI I (by rw[g];exact True.intro) m ⟨d,e⟩ (f9 r ⟨d,ar,e,h2,n,?_⟩))
  rw[j]
  exact lT (w5 q hx)
 .have i:xs.length<=sizeLine:=by rw[<-Paired.length hx];exact hz
  refine wpAny_dictSet_pairs l dd (fun h' c m=>?_) i
  obtain ⟨d,ar,ep,e,h2,n,j,t,_⟩:=c
  obtain ⟨f,g⟩:=D.o
  refine h ep _ (jI I (by rw[g];exact True.intro) m ⟨d,e⟩ (f9 r ⟨d,ar,e,h2,n,?_⟩))
  exact lU (w6 q hx) t fun en p=>j en (by simpa using p)
def aH6{p it l:Az}{F:Hp}{ys:List V}{A:Around}{R:Result->S9->Prop}(hA:A.handled=none)(hu:A.units+11 < cLine)(aq:p≠it)(L:l≠it)(T:l≠p)(r:List (D9×D9)):∀ (i:Nat) (acc res:List (D9×D9)) (es:List Ent) (ep:Nat) (H:Hp) (s:S9),
  Inv X pins σ H s->aH F H->F p=none->H p=some (bZ X.w p es ep)->MapRel X.K F es acc->DatVs X.K F (ys.drop i) (r.map oU)->SqL X.K H l ys->g8 X pins H it->s.heap.IsListIter it l i->i<=ys.length->dA acc r=.ok res->
  (∀ es' ep' s',Inv X pins σ (upd H p (bZ X.w p es' ep')) s'->MapRel X.K F es' res->R (.ok (.ret .none)) s')->codeAny (model X.prog X.w) A (.builtin "dict.update.loop" ⟨[.ref p,.ref it,rawInt (i:Int),.none],[]⟩) R s:=by
 induction r with
 | nil=>
  intro i acc res es ep H s I P hf hp m d hl fp B hi e q
  have ax:ys.length<=i:=by
   have:=d.length
   rw[FS] at this
   simp at this;omega
  obtain ⟨k,rv,pl,hz⟩:=I.list hl
  have ag:=rv.length
  have W:=(Walks.list (prog:=X.prog) (w:=X.w) (A:=A.in1) (by exact hA) it l L k.toArray).toS
  refine GF Zp.wS ?_
  rw[EZ Zp.mO _]
  show wpAny _ A.in1 (pyNext (.ref it) >>= _) _ _ s
  have am:i=k.toArray.size:=by simp;omega
  refine AB (W.done s _ _ ⟨by rw[<-am];exact B,pl.isList⟩ fun s' M=>?_)
  obtain ⟨f,g,dd,tk,os⟩:=s'
  obtain ⟨m1,m2,m3,m4,m5⟩:=M
  cases m2;cases m3;cases m4
  obtain ⟨f0,f1,f2,f3,Y,f5⟩:=fp
  have I1:Inv X pins σ H ({s with heap:=f,toks:=tk}:S9):=I.turned (fun b o n e=>m1 b o (by simpa using n) e) f0 f1 f3 Y f5
  cases e
  have ak:upd H p (bZ X.w p es ep)=H:=by
   funext x
   by_cases z:x=p
   .subst z;rw[aT,hp]
   .rw[aG z]
  refine AB (m:=Builtin.Dict.addKeywords p []) (AD (AD ?_))
  exact q es ep _ (by rw[ak];exact I1) m
 | cons kv t ih=>
  intro i acc res es ep H s I P hf hp m d hl fp B hi e q
  obtain ⟨y,j,O,d1,d2⟩:∃ y j,ys.drop i=y::j/\DatV X.K F y (oU kv)/\DatVs X.K F j (t.map oU):=by
   rw[AX] at d
   generalize ys.drop i=zz at d
   cases d with
   | cons a b=>exact ⟨_,_,rfl,a,b⟩
  have hy:ys[i]? = some y:=by
   have:=DW (fun l=>l[0]?) O
   simpa using this
  have ay:=(AG.mp hy).1
  have E:ys.drop (i+1)=j:=by
   have:=DW List.tail O
   rw[List.tail_drop] at this
   exact this
  obtain ⟨k,rv,pl,hz⟩:=I.list hl
  have ag:=rv.length
  obtain ⟨u,hu1,ru⟩:=rv.get hy
  have W:=(Walks.list (prog:=X.prog) (w:=X.w) (A:=A.in1) (by exact hA) it l L k.toArray).toS
  refine GF Zp.wS ?_
  rw[EZ Zp.mO _]
  show wpAny _ A.in1 (pyNext (.ref it) >>= _) _ _ s
  refine AB (W.item i s _ _ (by simp;omega) ⟨B,pl.isList⟩ fun v s' G St M=>?_)
  obtain ⟨f,g,dd,tk,os⟩:=s'
  obtain ⟨m1,m2,m3,m4,m5⟩:=M
  cases m2;cases m3;cases m4
  have G:v=u:=by
   simp only[List.getElem?_toArray] at G
   rw[hu1] at G
   exact (BZ G).symm
  subst G
  obtain ⟨tt,Z,y1,rfl,ah,dk,dv⟩:=aH4 d1
  cases (show v=Value.ref tt from ru)
  have av:=fp
  obtain ⟨f0,f1,f2,f3,Y,f5⟩:=fp
  have I1:Inv X pins σ H ({s with heap:=f,toks:=tk}:S9):=I.turned (fun b o n e=>m1 b o (by simpa using n) e) f0 f1 f3 Y f5
  obtain ⟨C,ad,⟨ot,ho,aa,nn,au⟩,_⟩:=I1.tuple (ah.same P)
  obtain ⟨ku,N,J,rk,ao⟩:∃ ku N,C=[ku,N]/\aY Z ku/\aY y1 N:=by
   cases ad with
   | cons a b=>
    cases b with
    | cons c e=>
     cases e
     exact ⟨_,_,rfl,a,c⟩
  subst J
  have ap:({s with heap:=f,toks:=tk}:S9).TypeIs (.ref tt) "tuple":=⟨ot,ho,aa⟩
  unfold dA at e
  split at e
  .rename_i hs
   have al:∀ b∈[it],∃ o,({s with heap:=f,toks:=tk}:S9).heap.get? b=some o/\∀ v,o.data≠.cell v:=fun b n=>by
    rw[AL.mp n]
    obtain ⟨o,e1,e2,e3⟩:=St.1
    exact ⟨o,e1,fun v z=>by rw[e3] at z;cases z⟩
   have I2:=I1.pinned (fp:=[it]) (fun b n=>by rw[AL.mp n];exact av) al
   have D:DicAt X H p es kv.1 Z:=⟨⟨ep,hp⟩,fun e he=>(kR m.k1 m.k2 e he).same P,by rw[m.k1];exact m.nd,dk.same P,by rw[m.k1];exact hs.1⟩
   have aj:es.length<=sizeLine:=by
    have:es.length=acc.length:=by simpa using congrArg List.length m.k1
    rw[this,cV];exact hs.2
   refine AB (B0 (AB (wpAny_tryCatch ?_)))
   unfold Builtin.Dict.pairItems
   refine AB (HG ap (AB (CM ho au (AD ?_))))
   show wpAny _ _ (holding [ku,N] (dictSet p ku N)) _ _ _
   refine B0 (aH5 (A:=A.in1) (by show A.units+1+9 < cLine;omega) D I2 rk ao aj fun S s2 I3=>?_)
   obtain ⟨o,e1,e2,e3⟩:=St.1
   have U:s2.heap.IsListIter it l (i+1):=⟨o,(I3.pin (it,o) (BV _ (BV _ (jT (AL.mpr rfl) e1)))).1,e2,e3⟩
   refine AD ⟨G2 Zp.mO _,?_⟩
   have m':=m.put dk dv
   have ae:aH F (upd H p (bZ X.w p (jU es kv.1 Z y1) S)):=fun a o z=>by rw[aG (bC z hf)];exact P a o z
   have af:SqL X.K (upd H p (bZ X.w p (jU es kv.1 Z y1) S)) l ys:=by
    rcases hl with (h|⟨o,h⟩)|h
    .exact .inl (.inl (by rw[aG T];exact h))
    .exact .inl (.inr ⟨o,by rw[aG T];exact h⟩)
    .exact .inr h
   refine ih (i+1) _ res _ _ _ s2 I3.unpinned ae hf aT m' (by rw[E];exact d2) af ⟨by rw[aG (Ne.symm aq)];exact f0,f1,f2,f3,Y,f5⟩ U (by omega) e fun es' ep' ai Q ac=>?_
   rw[qB] at Q
   exact q es' ep' ai Q ac
  .cases e
def aFU(X:Cx):List V->Hp->VK->Prop:=fun xs H Q=>∃ l ys F kvs res,xs=[.ref l]/\SqL X.K H l ys/\aH F H/\DatVs X.K F ys (kvs.map oU)/\dA [] kvs=.ok res/\∀ p es' ep',H p=none->MapRel X.K F es' res->Q (.ref p) (upd H p (bZ X.w p es' ep'))
def aC5(hc:X.calm=true)(hu:X.A.units+64 < cLine):gG X (.type "dict") (aFU X):=by
 intro pins s σ H xs us Q I r h
 obtain ⟨l,ys,F,L,res,rfl,U,Y,d,e,q⟩:=h
 obtain ⟨u,rfl,ru⟩:=nV r
 cases (show u=Value.ref l from ru)
 have j:H s.heap.objs.size=none:=I.hok.fresh (AJ _)
 have V:X.A.handled=none:=I.ok.hd hc
 obtain ⟨ad,rv,pl,hz⟩:=I.list U
 have i:l < s.heap.objs.size:=by obtain ⟨o,e,_⟩:=pl.isList;exact AK e
 refine callType_codes (Q₁:=fun obj f=>obj=.ref s.heap.objs.size/\f={s with heap:=s.heap.push {cls:=.type "dict",data:=.dict #[]}}) PySem.F.kt_called_dict (PySem.F.kt_typeCall_dict_1 _) PySem.F.entry_dict_init (kt_code_dict_new _ ⟨rfl,rfl⟩) fun obj f g=>?_
 obtain ⟨rfl,rfl⟩:=g
 have x:(s.heap.push {cls:=.type "dict",data:=.dict #[]}).get? s.heap.objs.size=some {cls:=.type "dict",data:=.dict #[]}:=AT _ rfl
 have t:({s with heap:=s.heap.push {cls:=.type "dict",data:=.dict #[]}}:S9).TypeIs (.ref s.heap.objs.size) "dict":=⟨_,x,rfl⟩
 have W:=I.laid (a:=s.heap.objs.size) (o:=bZ X.w s.heap.objs.size [] 0) (t':=s.toks) (fun _ _ q=>AE {cls:=.type "dict",data:=.dict #[]} q) (AJ _)
  (f9 (E3.mpr (Ne.symm (A2 I.big))) ⟨_,#[],x,⟨rfl,rfl,rfl⟩,rfl,.nil⟩)
 refine ⟨t,PySem.F.args_dict_init_2 _ _,?_⟩
 have n:SqL X.K (upd H s.heap.objs.size (bZ X.w s.heap.objs.size [] 0)) l ys:=by
  rcases U with (h|⟨o,h⟩)|h
  · exact .inl (.inl (by rw [aG (A2 i)]; exact h))
  · exact .inl (.inr ⟨o, by rw [aG (A2 i)]; exact h⟩)
  · exact .inr h
 generalize D:s.heap.objs.size=p at *
 have hsz:(s.heap.push {cls:=.type "dict",data:=.dict #[]}).objs.size=p+1:=by rw[BY,D]
 generalize s.heap.push {cls:=.type "dict",data:=.dict #[]}=hh at *
 obtain ⟨k,ac,O,aa⟩:=W.list n
 unfold Builtin.«dict.__init__» Builtin.Dict.selfAndRest
 refine AB (AB (F7 t (AB (AD (AD ?_)))))
 show wpAny _ _ (Builtin.Dict.updateFrom "dict.__init__" p (.ref l) [] .none) _ _ _
 unfold Builtin.Dict.updateFrom
 obtain ⟨⟨oc,od,T,ae⟩,nl,c,y,P,M⟩:=O
 cases y
 cases P
 cases M
 have C:({s with heap:=hh}:S9).TypeIs (.ref l) "list":=⟨_,c,rfl⟩
 refine AB (HG C ?_)
 show wpAny _ _ (getAttr? (.ref l) "keys" >>= _) _ _ _
 refine AB (Zp.vN (A:=X.A.in1.in1) c V fun h' tk v=>?_)
 have E:Inv X pins σ (upd H p (bZ X.w p [] 0)) ({s with heap:=h',toks:=tk}:S9):=W.kept (t':=tk) v
 have B:h'.IsList l k.toArray:=⟨_,v _ _ c,rfl,_,rfl⟩
 refine AB (EX (AB (FI B ?_)))
 have fz:(upd H p (bZ X.w p [] 0)) h'.objs.size=none:=E.hok.fresh (AJ _)
 have R:p < h'.objs.size:=by
  have:=v _ _ x
  exact AK this
 have G:l < h'.objs.size:=AK (v _ _ c)
 have fp:=E.fpOk (H':=upd H p (bZ X.w p [] 0)) (AJ h'.objs.size) fz
 have I3:Inv X pins σ (upd H p (bZ X.w p [] 0)) ({s with heap:=h'.push {cls:=.type "list_iterator",data:=.fields #[.ref l,.int 0 0]},toks:=tk}:S9):=E.kept (t':=tk) fun b o e=>AE _ e
 have m:F p=none:=a9 Y j
 have J:aH F (upd H p (bZ X.w p [] 0)):=fun a o z=>by rw[aG (bC z m)];exact Y a o z
 refine AD ⟨G2 Zp.mO _,?_⟩
 refine aH6 (A:=X.A.in1) (p:=p) (it:=h'.objs.size) (l:=l) (F:=F) (ys:=ys) V (by show X.A.units+1+11 < cLine;omega) (A2 R) (A2 G) (A2 i) L 0 [] res [] 0 _ _ I3 J m aT ⟨rfl,.nil,.nil,C7⟩ (by rw[List.drop_zero];exact d) n fp ⟨_,AT _ rfl,rfl,rfl⟩ (CU _) e fun N S s' Z m'=>?_
 rw[qB] at Z
 exact ⟨rfl,.ref p,_,Z,rfl,q p N S j m'⟩
end
def kF:List D9->Option (List (D9×D9))
 | []=>some []
 | .tuple [k,v]::t=>(kF t).map fun r=>(k,v)::r
 | _=>none
theorem rG:∀ {ds:List D9} {kvs:List (D9×D9)},kF ds=some kvs->ds=kvs.map oU
 | [],kvs,h=>by cases h;rfl
 | d::t,kvs,h=>by
  unfold kF at h
  split at h
  .rename_i h0;cases h0
  .rename_i k v t' h0
   cases h0
   obtain ⟨r,hr,rfl⟩:=FM.mp h
   rw[AX,rG hr];rfl
  .cases h
def zQ(i:Nat)(f:Sg->R (List D9)):Sg->R Fw:=fun ρ=>(f ρ).bind fun ds=>match kF ds with
 | some kvs=>(dA [] kvs).bind fun res=>.ok (.nx (ρ.set i (some (.m res))))
 | none=>.bad
section
variable{X:Cx}{c:Ct}{E:XK}{st:Stmt}
def aH7{i:Nat}{f:Sg->R (List D9)}(t:X.K=c.K)(hW:X.w=c.w)(h:PS X st (iR (tCB (aFU X) (cT (tV (rS c) c E f) fO)) (h8 i))):PSf X c E st (zQ i f):=PS.imp h fun D σ H ⟨ρ,F,ab,k⟩=>by
 refine ⟨ρ,F,ab,(Rk.bind k).imp fun ds _ q v b H1 s1 r1=>?_⟩
 obtain ⟨l,vs,rfl,z,g,u,s⟩:=r1
 split at q
 .rename_i a j
  rw[rG j] at s
  cases e:dA [] a with
  | bad=>rw[e] at q;exact q.elim
  | ex x=>exact absurd e (pH _ _ _)
  | ok res=>
   rw[e] at q
   refine ⟨l,vs,b,a,res,rfl,SqL.of g,s1.fh,by rw[t];exact s,e,fun p n r o m=>?_⟩
   have y:b p=none:=a9 s1.fh o
   have d:H p=none:=a9 s1.hh o
   have e3:Ext F H b (upd H1 p (bZ X.w p n r)):=s1.trans (Ext.own s1.fh o)
   rw[hW] at e3 ⊢
   rw[t] at m
   exact Rk.ok q _ b _ s1.ff (ab.setM e3 d aT y m)
 .exact q.elim
end
end Fl
namespace Zp
open PySem
structure Jk(s0:Heap)(d it S:Az)(ar:Array DictEntry)(ep:Nat)(acc:Array V9)(h:Heap):Prop where
 size:acc.size<=ar.size
 told:acc.toList=(ar.toList.take acc.size).map (·.key)
 iter:h.IsKeyIter it d acc.size ar.size ep
 raw:Raw h d ar ep
 keep:∀ c o,c≠it->c≠S->s0.get? c=some o->h.get? c=some o
end Zp
namespace Fl
open PySem L2 PyProof.Rows
section
variable{X:Cx}{c:Ct}{E:XK}{e:Expr}
def aP8(f:Sg->R A):Sg->R (List D9):=fun ρ=>(f ρ).bind fun a=>match a with
 | .f kvs=>if kvs.length<=16777216 then .ok (kvs.map (·.1)) else .bad
 | _=>.bad
end
end Fl
namespace Zp
open PySem
section
variable{prog:Program}{w:World}{A:Around}{E:V9->S9->Prop}{s:S9}
def qX{prog:Program}{w:World}{A:Around}{E:V9->S9->Prop}{s:S9}{z TI TO:Az}{f0 f1:V9}{Q:V9->S9->Prop}(hz:fD s.heap z TI TO f0 f1)(h:Q (.ref z) s):wpAny (model prog w) A (pyIter (.ref z)) Q E s:=by
 have a:s.TypeIs (.ref z) "zip":=⟨_,hz,rfl⟩
 refine wpAny_pyIter_slot a F.slot_zip_iter (B7 F.slot_zip_iter a F.entry_zip_iter ?_ (F.args_zip_iter_1 _))
 show wpAny _ _ (ret (.ref z)) _ _ s
 exact AD ⟨_,rfl,"zip",_,a,CI.lookup,h⟩
def ZN(h:Heap)(z TI TO:Az):Prop:=∃ f0 bb,fD h z TI TO f0 (.bool bb)/\(f0=.none\/∃ T:Az,f0=rawInt T)
def aC6{z TI TO i1 i2:Az}{f1 f2:List Az}{n1 n2 i:Nat}{P1 P2:Nat->V9->Prop}{S1 S2:Nat->Heap->Prop}{a b:V9}{Q:Option V9->S9->Prop}(D:Apart z TI TO i1 i2 f1 f2)
  (u:Draws prog w A.in1 i1 f1 n1 P1 S1) (v:Draws prog w A.in1 i2 f2 n2 P2 S2)
  (hz:ZN s.heap z TI TO) (d:IsPair s.heap TI (.ref i1) (.ref i2)) (f:IsPair s.heap TO a b) (h1:S1 i s.heap) (h2:S2 i s.heap) (p:i < n1) (q:i < n2)
  (t:∀ x y h' tk,P1 i x->P2 i y->ZN h' z TI TO->(∃ a b,IsPair h' TO a b)->S1 (i+1) h'->S2 (i+1) h'->IsPair h' s.heap.objs.size x y->h'.objs.size=s.heap.objs.size+1->
   (∀ c o,c≠z->c≠TO->c≠i1->c≠i2->s.heap.get? c=some o->h'.get? c=some o)->Q (some (.ref s.heap.objs.size)) {s with heap:=h',toks:=tk}) :
  wpAny (model prog w) A (pyNext (.ref z)) Q E s:=by
 obtain ⟨f0,bb,hz,B⟩:=hz
 have r:s.TypeIs (.ref z) "zip":=⟨_,hz,rfl⟩
 have free:(f0=.none\/∃ T:Az,f0=rawInt T/\s.heap.get? T=none)->wpAny (model prog w) A (pyNext (.ref z)) Q E s:=fun m=>by
  unfold pyNext
  exact AB (DF (BT (name:=Str.ofString "__next__") r CI
   (B7 CI r EC
    (wM D u v hz m d f h1 h2 p q fun x y h' tk h p2 j G n a4 k l g=>AD (t x y h' tk h p2 ⟨_,false,j,.inr ⟨_,rfl⟩⟩ ⟨_,_,G⟩ n a4 k l g)) (D4 _))))
 rcases B with rfl|⟨T,rfl⟩
 .exact free (.inl rfl)
 .cases hg:s.heap.get? T with
  | none=>exact free (.inr ⟨T,rfl,hg⟩)
  | some oT=>
   refine aBH hz hg D u v d h1 h2 p q fun x y h' tk h p2 j n a4 k l g=>?_
   exact t x y h' tk h p2 ⟨_,true,j,.inr ⟨_,rfl⟩⟩ ⟨a,b,g _ _ D.TOz D.TOi1 D.TOi2 f⟩ n a4 k l fun c o C _ F c4 e=>g c o C F c4 e
def aFV{z TI TO i1 i2:Az}{f1 f2:List Az}{n1 n2 i:Nat}{P1 P2:Nat->V9->Prop}{S1 S2:Nat->Heap->Prop}{a b:V9}{Q:Option V9->S9->Prop}(D:Apart z TI TO i1 i2 f1 f2)
  (m:Draws prog w A.in1 i1 f1 n1 P1 S1) (n:Draws prog w A.in1 i2 f2 n2 P2 S2)
  (hz:ZN s.heap z TI TO) (f:IsPair s.heap TI (.ref i1) (.ref i2)) (g:IsPair s.heap TO a b) (h1:S1 i s.heap) (h2:S2 i s.heap) (d:i=n1\/(i < n1/\i=n2))
  (k:∀ h' tk,(∀ c o,c≠z->c≠TO->c≠i1->c≠i2->s.heap.get? c=some o->h'.get? c=some o)->Q none {s with heap:=h',toks:=tk}):wpAny (model prog w) A (pyNext (.ref z)) Q E s:=by
 obtain ⟨f0,bb,hz,q⟩:=hz
 have l:s.TypeIs (.ref z) "zip":=⟨_,hz,rfl⟩
 have free:(f0=.none\/∃ T:Az,f0=rawInt T/\s.heap.get? T=none)->wpAny (model prog w) A (pyNext (.ref z)) Q E s:=fun j=>by
  unfold pyNext
  refine AB (DF (BT (name:=Str.ofString "__next__") l CI
   (B7 CI l EC (yX D m n hz j f g h1 h2 d fun h' tk e h v=>?_) (D4 _))))
  obtain ⟨o,u,r⟩:=v
  refine AB (EW (T:="StopIteration") (b:=true) ⟨o,u,r⟩ GQ ?_)
  exact AD (k _ _ h)
 rcases q with rfl|⟨T,rfl⟩
 .exact free (.inl rfl)
 .cases hg:s.heap.get? T with
  | none=>exact free (.inr ⟨T,rfl,hg⟩)
  | some oT=>exact aE9 hz hg D m n f h1 h2 d fun h' tk h=>k h' tk fun c o t _ p c4 e=>h c o t p c4 e
end
end Zp
namespace L2
open PySem PySem.Spec PyProof.Rows
def aFW{P:Program}{w:World}{K:Frag}{nm:Str}{ae:Pos}{C1 C2:Col}{z TI TO i1 i2:Az}{t1 t2:Nat->Heap->Prop}(S:ColOk P w K C1 i1 t1)(U:ColOk P w K C2 i2 t2)(hd:[z,TI,TO,i1,i2].Nodup) :
  Turn P w K (.Name nm ae) (Itz C1 C2) [z,TI,TO,i1,i2] z (fun i h=>Zp.ZN h z TI TO/\IsPair h TI (.ref i1) (.ref i2)/\(∃ a b,IsPair h TO a b)/\t1 i h/\t2 i h) where
 mem:=by simp
 obj:=fun i h ak c T=>by
  obtain ⟨s1,C,⟨a,b,M⟩,L,J⟩:=ak
  simp only[AS,BF,C0] at T
  rcases T with rfl|rfl|rfl|rfl|rfl
  .obtain ⟨_,_,s1,_⟩:=s1;exact ⟨_,s1,fun v z=>by have z':Data.fields _=Data.cell v:=z;cases z'⟩
  .exact ⟨_,C,fun v z=>by have z':Data.seq _ _=Data.cell v:=z;cases z'⟩
  .exact ⟨_,M,fun v z=>by have z':Data.seq _ _=Data.cell v:=z;cases z'⟩
  .exact S.obj i h L
  .exact U.obj i h J
 keep:=fun i h h' ⟨s1,C,⟨a,b,M⟩,L,J⟩ k=>⟨(by obtain ⟨a,b,s1,r⟩:=s1;exact ⟨a,b,k z (by simp) _ s1,r⟩),k TI (by simp) _ C,⟨a,b,k TO (by simp) _ M⟩,S.keep i h h' L fun o e=>k i1 (by simp) o e,U.keep i h h' J fun o e=>k i2 (by simp) o e⟩
 item:=by
  intro X F hw G T i pins s σ H E I f st hg
  obtain ⟨s1,C,⟨a,b,M⟩,L,J⟩:=st
  obtain ⟨xs,ys,q1,q2,l1,l2⟩:=hg
  simp only[CF,AS,BF,C0,not_or,C7,HK,DA] at hd
  obtain ⟨⟨d1,d2,d3,d4⟩,⟨d5,d6,d7⟩,⟨d8,Y⟩,p⟩:=hd
  have t:X.A.in1.handled=none:=I.ok.hd T
  obtain ⟨f1,P1,S1,D1,a1,a2,a3,a4⟩:=S.draw X F hw G i pins s σ H xs X.A.in1 I (f i1 (by simp)) L q1 t
  obtain ⟨f2,P2,S2,D2,b1,b2,b3,Q⟩:=U.draw X F hw G i pins s σ H ys X.A.in1 I (f i2 (by simp)) J q2 t
  have ag:=fun zs (h:C1 H zs)=>S.one X F hw G pins s σ H zs xs I h q1
  have V:=fun zs (h:C2 H zs)=>U.one X F hw G pins s σ H zs ys I h q2
  subst F hw G
  have D:Zp.Apart z TI TO i1 i2 f1 f2:=⟨Ne.symm d1,Ne.symm d2,Ne.symm d3,Ne.symm d4,d5,d6,d7,d8,Y,p,a4 z (f z (by simp)) d3,Q z (f z (by simp)) d4,a4 TO (f TO (by simp)) d8,Q TO (f TO (by simp)) Y,Q i1 (f i1 (by simp)) p,a4 i2 (f i2 (by simp)) (Ne.symm p)⟩
  have ai:z < s.heap.objs.size:=by obtain ⟨_,_,s1,_⟩:=s1;exact AK s1
  refine Zp.aC6 D D1 D2 s1 C M a1 b1 l1 l2 fun x y h2 tk px py g1 g2 g3 g4 g5 g6 kp=>?_
  obtain ⟨u,hu,ru⟩:=a3 i x px
  obtain ⟨v,hv,rv⟩:=b3 i y py
  refine ⟨_,rfl,AD ?_⟩
  have aj:h2.get? s.heap.objs.size=some {cls:=.type "tuple",data:=.seq #[x,y]}:=g5
  have fT:H s.heap.objs.size=none:=I.hok.fresh (AJ _)
  have g:∀ c o,c∉[z,TI,TO,i1,i2]->s.heap.get? c=some o->h2.get? c=some o:=fun c o d q=>by
   simp only[AS,BF,C0,not_or] at d
   exact kp c o d.1 d.2.2.1 d.2.2.2.1 d.2.2.2.2 q
  have B:∀ c l,H c=some l->c∉[z,TI,TO,i1,i2]:=fun c l q j=>by rw[(f c j).1] at q;cases q
  have af:HOk X.prog X.w H h2:=fun c l q=>by
   refine (I.hok c l q).stay (fun W v' d q'=>g W v' ?_ q') (fun _ q=>q) (fun _ _ q=>q) fun _ _ q=>q
   rcases d with j|j
   .rw[j];exact B c l q
   .exact B W _ j
  have aa:HOk X.prog X.w (upd H s.heap.objs.size (.tup [u,v])) h2:=HOk.track af fT ⟨by show 2<=sizeLine;decide,[x,y],.cons ru (.cons rv .nil),⟨_,aj,rfl,_,rfl⟩⟩
  have R:∀ c l,H c=some l->c≠s.heap.objs.size:=fun c l q=>bC q fT
  have I2:Inv X pins σ (upd H s.heap.objs.size (.tup [u,v])) {s with heap:=h2,gens:=s.gens,drawn:=s.drawn,toks:=tk}:=by
   refine I.step (ch:=[z,TI,TO,i1,i2]) (fun c d=>?_) (fun c o _ _ d q _=>g c o d q) (fun c o _ _ d q _=>⟨o.slots,g c o d q⟩)
    (fun c o _ q n=>by rw[aG (A2 (AK q))];exact n) (fun c o d q=>⟨o,g c o d q⟩) (fun c ys q=>by rw[aG (R c _ q)];exact q) (fun c o l q=>by rw[aG (R c _ q)];exact q)
    (fun c ps q=>by rw[aG (R c _ q)];exact q) (fun m Z=>?_) aa I.bare
   .obtain ⟨e0,e1,e2,e3,e4,e5⟩:=f c d
    exact ⟨e3,e1,e4,e5⟩
   .obtain ⟨o,O,ep,ho,r⟩:=Z
    exact ⟨o,O,ep,g _ o (fun j=>(f _ j).2.1 rfl) ho,r⟩
  refine ⟨.ref s.heap.objs.size,_,I2,rfl,⟨_,u,v,fT,rfl,rfl,fun zs N=>by rw[ag zs N];exact hu,fun zs N=>by rw[V zs N];exact hv⟩,⟨g1,kp TI _ (Ne.symm d1) d5 d6 d7 C,g2,a2 _ _ g3,b2 _ _ g4⟩,fun c d=>?_⟩
  rw[aG]
  .exact (f c d).1
  .intro j
   have ad:c < s.heap.objs.size:=by
    simp only[AS,BF,C0] at d
    rcases d with rfl|rfl|rfl|rfl|rfl
    · exact ai
    · exact AK C
    · exact AK M
    · obtain ⟨o, e, _⟩ := S.obj _ _ L; exact AK e
    · obtain ⟨o, e, _⟩ := U.obj _ _ J; exact AK e
   rw[j] at ad
   exact absurd ad (BG _)
 done:=by
  intro X F hw G T i pins s σ H E I f st hg
  obtain ⟨s1,C,⟨a,b,M⟩,L,J⟩:=st
  obtain ⟨xs,ys,q1,q2,ac⟩:=hg
  simp only[CF,AS,BF,C0,not_or,C7,HK,DA] at hd
  obtain ⟨⟨d1,d2,d3,d4⟩,⟨d5,d6,d7⟩,⟨d8,Y⟩,p⟩:=hd
  have t:X.A.in1.handled=none:=I.ok.hd T
  obtain ⟨f1,P1,S1,D1,a1,a2,a3,a4⟩:=S.draw X F hw G i pins s σ H xs X.A.in1 I (f i1 (by simp)) L q1 t
  obtain ⟨f2,P2,S2,D2,b1,b2,b3,Q⟩:=U.draw X F hw G i pins s σ H ys X.A.in1 I (f i2 (by simp)) J q2 t
  subst F hw G
  have D:Zp.Apart z TI TO i1 i2 f1 f2:=⟨Ne.symm d1,Ne.symm d2,Ne.symm d3,Ne.symm d4,d5,d6,d7,d8,Y,p,a4 z (f z (by simp)) d3,Q z (f z (by simp)) d4,a4 TO (f TO (by simp)) d8,Q TO (f TO (by simp)) Y,Q i1 (f i1 (by simp)) p,a4 i2 (f i2 (by simp)) (Ne.symm p)⟩
  refine Zp.aFV D D1 D2 s1 C M a1 b1 ac fun h' tk kp=>⟨rfl,?_⟩
  have g:∀ c o,c∉[z,TI,TO,i1,i2]->s.heap.get? c=some o->h'.get? c=some o:=fun c o d q=>by
   simp only[AS,BF,C0,not_or] at d
   exact kp c o d.1 d.2.2.1 d.2.2.2.1 d.2.2.2.2 q
  have B:∀ c l,H c=some l->c∉[z,TI,TO,i1,i2]:=fun c l q j=>by rw[(f c j).1] at q;cases q
  have ah:∀ c o,s.heap.get? c=some o->c∈[TI]->h'.get? c=some o:=fun c o e Z=>by
   have:c=TI:=by simpa using Z
   subst this
   exact kp c o (Ne.symm d1) d5 d6 d7 e
  refine I.step (g':=s.gens) (d':=s.drawn) (ch:=[z,TI,TO,i1,i2]) (fun c d=>?_) (fun c o _ _ d q _=>g c o d q) (fun c o _ _ d q _=>⟨o.slots,g c o d q⟩) (fun _ _ _ _ n=>n) (fun c o d q=>⟨o,g c o d q⟩) (fun _ _ q=>q) (fun _ _ _ q=>q) (fun _ _ q=>q) (fun m Z=>?_) (fun c l q=>?_) I.bare
  .obtain ⟨e0,e1,e2,e3,e4,e5⟩:=f c d
   exact ⟨e3,e1,e4,e5⟩
  .obtain ⟨o,O,ep,ho,r⟩:=Z
   exact ⟨o,O,ep,g _ o (fun j=>(f _ j).2.1 rfl) ho,r⟩
  .refine (I.hok c l q).stay (fun W v' d q'=>g W v' ?_ q') (fun _ q=>q) (fun _ _ q=>q) fun _ _ q=>q
   rcases d with j|j
   .rw[j];exact B c l q
   .exact B W _ j
 self:=fun _ _ _ _ _ st h=>(by obtain ⟨⟨_,_,s1,_⟩,_⟩:=st;exact Zp.qX s1 h)
def aLW{X:Cx}{nm:String}{d:Pos}{a b:Expr}{ta:TA}{p pos:Pos}(B:Gl X "zip")(r:X.mg "zip"=none)(L:PA X [a,b] ta)(o:starEach [a,b] X.env=[(false,eval a X.env),(false,eval b X.env)]:=by rfl)(hs2:starEach [b] X.env=[(false,eval b X.env)]:=by rfl) :
  PI X (.Name nm d) (.Call (.Name "zip" p) [a,b] [] pos) (aCR X.K ta):=by
 intro pins s σ H R I h
 refine Call_ (jQ I B r FZ (CJ (thn (L pos pins s σ H _ I h) fun us s1 ⟨vs,H1,f,r1,E⟩=>?_) (by rw[o,hs2]) (by rw[hs2];rfl)))
 obtain ⟨x,y,W,V,rfl,t,F,q⟩:=E
 cases r1 with
 | cons ru rr=>
  cases rr with
  | cons rv rr=>
   cases rr
   rename_i T _ P
   obtain ⟨S,Y,A,G,N,a4⟩:=jC f ru t
   obtain ⟨U,O,D,C,M,n⟩:=jC f rv F
   refine Zp.sA (A _ fun _ _ e=>e) (D _ fun _ _ e=>AE _ e) G C fun h' i l k m J Q v=>?_
   have w:Inv X pins σ H1 {s1 with heap:=h'}:=f.kept (t':=s1.toks) v
   refine FV i ?_
   refine ⟨s1.heap.objs.size+4,[s1.heap.objs.size+4,s1.heap.objs.size+2,s1.heap.objs.size+3,s1.heap.objs.size,s1.heap.objs.size+1],_,_,H1,rfl,w,aFW (N _) (M _) ?_,⟨⟨_,_,i,.inl rfl⟩,l,⟨_,_,k⟩,a4 _ _ m,n _ _ J⟩,fun c j=>?_,q⟩
   .simp only[CF,AS,BF,C0,not_or,C7,HK,DA]
    refine ⟨⟨?_,?_,?_,?_⟩,⟨?_,?_,?_⟩,⟨?_,?_⟩,?_⟩<;>(intro z;have u:=DW (fun x:Nat=>x - s1.heap.objs.size) z;simp at u)
   .have g:s1.heap.objs.size<=c:=by
     simp only[AS,BF,C0] at j
     rcases j with rfl|rfl|rfl|rfl|rfl
     · exact BO _ _
     · exact BO _ _
     · exact BO _ _
     · exact AJ _
     · exact BO _ _
    exact f.fpOk g (f.hok.fresh g)
end L2
namespace Fl
open PySem L2 PyProof.Rows
section
variable{X:Cx}{c:Ct}{E:XK}{st:Stmt}
def aOS(i:Nat)(f:Sg->R D9):Sg->R Fw:=fun ρ=>match ρ[i]? with
 | some (some (.l xs))=>(f ρ).bind fun x=>match x with
  | .int k=>if 0<=k/\k < xs.length/\k < 2 ^ 63 then .ok (.nx (ρ.set i (some (.l (xs.eraseIdx k.toNat))))) else .bad
  | _=>.bad
 | _=>.bad
def aRN(i:Nat)(f g:Sg->R D9):Sg->R Fw:=fun ρ=>match ρ[i]? with
 | some (some (.l xs))=>(f ρ).bind fun x=>(g ρ).bind fun y=>match x with
  | .int k=>if 0<=k/\k < 2 ^ 63/\xs.length < 16777216 then .ok (.nx (ρ.set i (some (.l (xs.take (min k.toNat xs.length)++y::xs.drop (min k.toNat xs.length)))))) else .bad
  | _=>.bad
 | _=>.bad
end
def BxK(c:Ct)(E':XK)(σ:L2.St)(D:jF)(F H:Hp):R Unit->Prop
 | .bad=>False
 | .ok _=>∀ F' H',Ext F H F' H'->D.nx σ H'
 | .ex e=>∀ a C F' H',Ext F H F' H'->i8 c.K c.mg F' e a C->E' (.ref C) (some a) H'
theorem BxK.ext{c:Ct}{E':XK}{σ:L2.St}{D:jF}{F H F1 H1:Hp}(s:Ext F H F1 H1):∀ {r:R Unit},BxK c E' σ D F H r->BxK c E' σ D F1 H1 r
 | .bad,h=>h
 | .ok _,h=>fun b H' e=>h b H' (s.trans e)
 | .ex _,h=>fun a C b H' e=>h a C b H' (s.trans e)
def aF8:Sg->R Unit:=fun _=>.ok ()
def dIsB:D9->D9->R D9
 | .bool a,.bool b=>.ok (.bool (a == b))
 | _,_=>.bad
def pV:cJ dIsB:=by intro a b e h;unfold dIsB at h;split at h<;>cases h
def vO{X:Cx}{c:Ct}:OpR X (compareOp .Is) (r2D (aZ c) (aZ c) (bW c) dIsB):=by
 intro pins s σ H v u x y Q I g j h
 obtain ⟨l,H1,F,a,b,d,i,f,k,e,q⟩:=h
 unfold dIsB at e
 split at e
 .cases e
  obtain rfl:=aU.bl_of f
  obtain rfl:=aU.bl_of k
  cases g
  cases j
  exact is_bool ⟨.bl _,H,I.tok _,rfl,q _ F H (Ext.refl i) (.bl _)⟩
 .cases e
end Fl
namespace Mc
open PySem L2 PyProof.Rows Fl
def saB:Sg->R Fw:=(aP (sIf (bOr (iU (e1 asB (eA (bM 3 iZ (aB (vV 0) (aB (vV 1) (aB (vV 4) aR))))))) (iU (e1 asB (eA (bM 3 eX (aB (vV 0) (aB (vV 1) (aB (vV 4) aR)))))))) (bU (vD (eC (.bool false)))) sNx)
 (sIf (iU (e1 asB (e1 dAll (eL (i4 [none,some 3] (e1 bA (eA (bM 3 eM (aB (vV 0) (aB (vV 1) (aB (vV 4) aR)))))) (stN 0) l0 (j9 false 1 (eV 0))))))) (bU (vD (eC (.bool false)))) sNx))
def i7:Sg->R Fw:=(aP (sIf (e1 asB (e2 dNe (eA (bM 1 dN (aB (vV 0) aR))) (eA (bM 1 dN (aB (vV 1) aR))))) (bU (vD (eC (.bool false)))) sNx)
 (aP (zQ 3 (i4 [none] (e1 bA (rV 2)) (stN 0) l0 (dZ (aB (eV 0) (aB (eC (.bool true)) aR)))))
 (aP (sIf (e1 asB (j9 true 3 (dZ (aB (eC (.int 0)) (aB (eC (.int 0)) aR))))) (bU (vD (eC (.bool false)))) sNx)
 (aP (sE 3 (iI (tU 3) (stN 4) saB))
 (bU (vD (eC (.bool true))))))))
def cS:List A->R A:=fnF 5 i7
def wdB:Sg->R Fw:=(cB 2 (vD (e2 dIx (e2 dIx (e2 dIx (rV 0) (eC (.int 0))) (rV 2)) (e2 tM (eC (.str "abc")) (rV 3)))))
def j5:Sg->R Fw:=(aP (cB 2 (vD (eC (.int 0)))) (aP (iI (e1 bA (eV 1)) (stN 3) wdB) (bU (vD (e2 dIx (e2 dIx (rV 0) (eC (.int 1))) (rV 2))))))
def c8:List A->R A:=fnF 4 j5
def rgA:Sg->R Fw:=(aP (sIf (bOr (iU (e1 asB (e1 (iV "tuple") (rV 4)))) (e1 asB (e2 dNe (eL (i4 [none] (e1 bA (rV 4)) (stN 0) l0 (e1 (iV "int") (rV 0)))) (eL (fC (aB (eC (.bool true)) (aB (eC (.bool true)) aR))))))) (bU (vD (eC (.bool false)))) sNx)
 (k8 3 (eV 4) (eC (.bool true))))
def rgB:Sg->R Fw:=(aP (sIf (bOr (iU (e1 asB (eCh dLe dLt (eC (.int 0)) (rV 5) (e1 dLen (e2 dIx (rV 0) (eC (.int 0))))))) (bOr (iU (e1 asB (eCh dLe dLt (eC (.int 0)) (rV 6) (e1 dLen (e2 dIx (rV 1) (eC (.int 0))))))) (e1 asB (e2 dNe (e2 dIx (e2 dIx (rV 0) (eC (.int 1))) (rV 5)) (e2 dIx (e2 dIx (rV 1) (eC (.int 1))) (rV 6)))))) (bU (vD (eC (.bool false)))) sNx)
 (sIf (e1 asB (e2 dIn (eC (.bool false)) (eL (i4 [none,some 3] (e2 jD (e2 dIx (e2 dIx (rV 0) (eC (.int 0))) (rV 5)) (e2 dIx (e2 dIx (rV 1) (eC (.int 0))) (rV 6))) (stN 0) l0 (j9 false 1 (eV 0)))))) (bU (vD (eC (.bool false)))) sNx))
def fS:Sg->R Fw:=(aP (sIf (bOr (iU (e1 asB (e1 (iV "list") (rV 2)))) (e1 asB (e2 dNin (dZ (aB (eC (.int 0)) (aB (eC (.int 0)) aR))) (rV 2)))) (bU (vD (eC (.bool false)))) sNx)
 (aP (qK 3)
 (aP (iI (e1 bA (eV 2)) (stN 4) rgA)
 (aP (iI (e1 bA (eV 2)) (stT [(stN 5),(stN 6)]) rgB)
 (bU (vD (eC (.bool true))))))))
def dC:List A->R A:=fnF 7 fS
def rmC:Sg->R D9:=(e2 c6 (rV 1) (e2 dMul (rV 2) (e2 dMod (e2 c6 (e2 c6 (e2 dDiv (rV 3) (eC (.int 7))) (rV 4)) (rV 0)) (eC (.int 2)))))
def rmB:Sg->R Fw:=(aP (eF 12 (i4 [none,none,some 4,some 1,some 9] (e1 j3 (e2 dIx (rV 2) (e2 dMod (rV 9) (rV 4)))) (stT [(stN 0),(stN 1)]) l0 rmC))
 (aP (iG 10 (e1 dTup (eL (i4 [none,some 7] (e1 bA (rV 12)) (stN 0) l0 (jY 1 (eV 0))))))
 (iG 11 (e2 dIx (rV 3) (e2 dMod (rV 9) (rV 4))))))
def hZ:Sg->R (D9×List D9):=(kZ (aCM (stT [(stN 2),(stN 3)]) (eV 0))
 (kZ (cB 4 (vD (e1 dLen (rV 2))))
 (kZ (eF 5 (e2 aCZ (eC (.int 1)) (e2 dMul (eC (.int 2)) (rV 4))))
 (kZ (cB 6 (vD (e2 dMod (rV 1) (e1 dLen (rV 5)))))
 (kZ (eF 5 (e2 kU (eL (e2 kU (eL (fC (aB (eC (.int 0)) aR))) (eSl dSl (rV 5) (oSo (rV 6)) oNo))) (eSl dSl (rV 5) oNo (oSo (rV 6)))))
 (kZ (qK 7)
 (kZ (sFz 5 (iI (e1 j3 (eV 5)) (stT [(stN 8),(stN 9)]) (k8 7 (eV 9) (eV 8))))
 (kZ (eF 10 (fC aR))
 (kZ (eF 11 (fC aR))
 (kZ (sFz 5 (iI (e1 bA (eV 5)) (stN 9) rmB))
 (aC4 10 11)))))))))))
def dS:List A->R (D9×List D9):=fnQ 13 hZ
def iM:Sg->R Fw:=(aP (cB 2 (vD (eC (.bool false))))
 (aP (tP none 2 gR (aB (vV 0) (aB (vV 1) aR)) ["NotLike"] (cB 2 (vD (eC (.bool true)))))
 (bU (vV 2))))
def dJ:List A->R A:=fnF 3 iM
def gN:Sg->R Fw:=(aP (cB 3 (bM 2 gR (aB (vV 0) (aB (vV 1) aR))))
 (aP (sIf (bOr (iU (e1 asB (e1 (iV "tuple") (rV 3)))) (bOr (e1 asB (e2 dNe (e1 dLen (rV 3)) (eC (.int 2)))) (e1 asB (e2 dNe (e2 dIx (eA (bM 2 gR (aB (vV 0) (aB (vV 1) aR)))) (eC (.int 0))) (e2 dIx (rV 3) (eC (.int 0))))))) (bU (vD (eC (.bool false)))) sNx)
 (aP (sIf (e1 asB (e2 dIs (rV 2) (eC .none))) (aP (sIf (bOr (e1 asB (e2 dNe (e2 dIx (rV 3) (eC (.int 0))) (eC (.str "alike")))) (iU (e1 asB (eA (bM 3 dC (aB (vV 0) (aB (vV 1) (aB (vD (e2 dIx (rV 3) (eC (.int 1)))) aR)))))))) (bU (vD (eC (.bool false)))) sNx)
 (bU (vD (e2 dIsB (eA (bM 3 cS (aB (vV 0) (aB (vV 1) (aB (vD (e2 dIx (rV 3) (eC (.int 1)))) aR))))) (eC (.bool true)))))) sNx)
 (bU (vD (pB (e2 dEq (rV 3) (dZ (aB (eC (.str "unlike")) (aB (eV 2) aR)))) (e2 dIsB (eA (bM 3 cS (aB (vV 0) (aB (vV 1) (aB (vD (eL (fC (aB (dZ (aB (eC (.int 0)) (aB (eC (.int 0)) aR))) aR)))) aR))))) (eC (.bool false)))))))))
def dE:List A->R A:=fnF 4 gN
def l7X:Sg->R Fw:=(aP (cB 6 (bM 5 dD (aB (vV 0) (aB (vD (eC (.int 4))) (aB (vV 4) (aB (vD (e2 c6 (eC (.int 1)) (e2 dMod (rV 3) (eC (.int 3))))) (aB (vD (eC (.int 2))) aR)))))))
 (bU (vD (pB (eA (bM 2 dJ (aB (vV 5) (aB (vV 6) aR)))) (pB (eA (bM 2 dJ (aB (vV 6) (aB (vV 5) aR)))) (e2 dIsB (eA (bM 3 cS (aB (vV 5) (aB (vV 6) (aB (vD (eL (fC (aB (dZ (aB (eC (.int 0)) (aB (eC (.int 0)) aR))) aR)))) aR))))) (eC (.bool false))))))))
def l7N:Sg->R Fw:=(xE 7 8 2 dS (aB (vV 5) (aB (vD (e2 dMod (eA (bM 2 cP (aB (vV 0) (aB (vD (eC (.int 3))) aR)))) (eC (.int 2147483647)))) aR)) (e1 asB (e2 dEq (e2 dMod (e2 dDiv (rV 1) (eC (.int 27))) (eC (.int 2))) (eC (.int 1)))) (eA (bM 2 cP (aB (vV 0) (aB (vD (eC (.int 2))) aR)))) (e2 dIx (eL (fC (aB (eC (.str "by")) (aB (eC (.str "out")) (aB (eC (.str "ever")) aR))))) (e2 dMod (eA (bM 2 cP (aB (vV 0) (aB (vD (eC (.int 1))) aR)))) (eC (.int 3)))))
def l7F:Sg->R Fw:=(aP (eF 10 (i4 [none,some 5,some 6] (e1 bA (eA (bM 2 gT (aB (vV 3) (aB (vD (eC (.int 5))) aR))))) (stN 0) (e1 asB (e2 dNe (eA (bM 2 c8 (aB (vV 1) (aB (vV 0) aR)))) (eA (bM 2 c8 (aB (vV 2) (aB (vV 0) aR)))))) (eV 0)))
 (sIf (e1 asB (e2 dNe (e2 dIx (eL (e2 kU (rV 10) (eL (fC (aB (eC .none) aR))))) (eC (.int 0))) (rV 9))) (bU (vD (eC (.bool false)))) sNx))
def l7E:Sg->R Fw:=(bU (vD (pB (eA (bM 3 dE (aB (vV 5) (aB (vV 6) (aB (vV 9) aR))))) (eA (bM 3 dE (aB (vV 6) (aB (vV 5) (aB (vV 9) aR))))))))
def l7D:Sg->R Fw:=(aP (cB 9 (bM 3 eZ (aB (vV 5) (aB (vV 6) (aB (vD (dZ (aB (eC (.int 0)) (aB (eC (.int 0)) aR)))) aR)))))
 (aP (sIf (e1 asB (e2 dEq (rV 2) (eC (.int 0)))) l7F sNx)
 l7E))
def l7C:Sg->R Fw:=(aP (sIf (e1 asB (e2 dEq (rV 2) (eC (.int 1)))) (aP l7N
 (cB 6 (vD (dZ (aB (e1 dTup (e2 dIx (rV 7) (eC (.int 0)))) (aB (e1 dTup (e2 dIx (rV 7) (eC (.int 1)))) aR)))))) sNx)
 l7D)
def l7A:Sg->R Fw:=(aP (sIf (oC (e1 asB (e2 dEq (rV 2) (eC (.int 2)))) (e1 asB (e2 dEq (e2 dMod (e2 dDiv (rV 1) (eC (.int 27))) (eC (.int 3))) (eC (.int 1))))) l7X sNx)
 (aP (cB 6 (bM 5 dD (aB (vV 0) (aB (vD (e2 c6 (eC (.int 4)) (rV 4))) (aB (vD (e2 c6 (eC (.int 1)) (e2 dMod (eA (bM 2 cP (aB (vV 0) (aB (vD (eC (.int 2))) aR)))) (rV 4)))) (aB (vV 3) (aB (vD (e2 c6 (eC (.int 1)) (e2 dMod (e2 dDiv (rV 1) (eC (.int 9))) (eC (.int 3))))) aR)))))))
 l7C))
def aC7:Sg->R Fw:=(aP (cB 1 (bM 2 cP (aB (vV 0) (aB (vD (eC (.int 0))) aR))))
 (aP (cB 2 (vD (e2 dMod (rV 1) (eC (.int 3)))))
 (aP (cB 3 (vD (e2 c6 (eC (.int 1)) (e2 dMod (e2 dDiv (rV 1) (eC (.int 3))) (eC (.int 3))))))
 (aP (cB 4 (vD (e2 (d2 yM) (eC (.int 1)) (e2 (d2 yN) (eC (.int 20)) (e2 dDiv (e2 dSub (e1 dLen (rV 0)) (eC (.int 4))) (eC (.int 2)))))))
 (aP (sIf (e1 asB (e2 dEq (rV 2) (eC (.int 0)))) (cB 4 (vD (e2 c6 (eC (.int 1)) (e2 dMod (eA (bM 2 cP (aB (vV 0) (aB (vD (eC (.int 1))) aR)))) (eC (.int 3)))))) sNx)
 (aP (cB 5 (bM 5 dD (aB (vV 0) (aB (vD (eC (.int 4))) (aB (vV 4) (aB (vV 3) (aB (vD (e2 c6 (eC (.int 1)) (e2 dMod (e2 dDiv (rV 1) (eC (.int 9))) (eC (.int 3))))) aR)))))))
 l7A))))))
def xF:List A->R A:=fnF 11 aC7
def top(i:Nat):Stmt:=PySem.Challenge.pw_striproam_k27_held_together.main.body.getD i (.Pass ⟨0,0,0,0⟩)
def fF:ClSt:=clE "first_to.<locals>.<lambda>" (aNW (aNV ((cL (top 7)).getD 0 (.Pass ⟨0,0,0,0⟩))) 2)
def fK:Pos:=aQ2 (aNW (aNV ((cL (top 7)).getD 0 (.Pass ⟨0,0,0,0⟩))) 2)
def dP:ClSt:=clS "parted.<locals>.after" ((cL (top 13)).getD 0 (.Pass ⟨0,0,0,0⟩))
def fV:Pos:=aNX ((cL (top 13)).getD 0 (.Pass ⟨0,0,0,0⟩))
def dF:ClSt:=clS "parted.<locals>.unlike" ((cL (top 13)).getD 1 (.Pass ⟨0,0,0,0⟩))
def fM:Pos:=aNX ((cL (top 13)).getD 1 (.Pass ⟨0,0,0,0⟩))
def qsT:List (Pos×Str):=[(fK,("first_to.<locals>.<lambda>":Str)),(fV,("parted.<locals>.after":Str)),(fM,("parted.<locals>.unlike":Str))]
structure Txt(w:World)(K:Frag)(mg:Str->Option V9):Prop where
 b_all:mg "all"=none
 b_dict:mg "dict"=none
 b_enumerate:mg "enumerate"=none
 b_int:mg "int"=none
 b_isinstance:mg "isinstance"=none
 b_len:mg "len"=none
 b_list:mg "list"=none
 b_max:mg "max"=none
 b_min:mg "min"=none
 b_range:mg "range"=none
 b_tuple:mg "tuple"=none
 b_zip:mg "zip"=none
 g_SIGNS:∃ t,mg "SIGNS"=some (.str "abc" t)
section
variable{P:Program}{w:World}{K:Frag}{mg:Str->Option V9}{base:Heap}{TH:Hp}
def uB:FnScope ["begin","after","done","found","numbers","rows","row","thing"] ["begin","after","done"] (aL (top 5)):=by constructor<;>first|rfl|decide +kernel
def aC8(T:Txt w K mg)(D:DefAt K mg "reached" (top 5) ["begin","after","done"]):bD P w K mg base TH 13 "reached" ["begin","after","done"] jN:=
 @eK P w K mg base TH "reached" (top 5) ["begin","after","done","found","numbers","rows","row","thing"] ["begin","after","done"] 12 pK D uB (fun f b A outer s H F E a=>by
  have nd:=uB.nd
  exact (Fl.aF (eO (L2.aI (i:=3) nd rfl (Or.inl rfl) (dR (aO (bI (pv 0)) bE))))
   (Fl.aF (aAX rfl rfl (L2.aI (i:=4) nd rfl (Or.inl rfl) (aAV a.units (yQ (bI (pv 0)) aD aAW))))
   (Fl.aF (eO (L2.aI (i:=5) nd rfl (Or.inl rfl) (dR bE)))
   (Fl.aF (Fl.gF (L2.gF (c9 ⟨rfl,rfl⟩) (PW.pt (Fl.mY (Fl.cE jV gK (aA (cQ rfl (bG bT rfl T.b_len A7 (aJ (aC (pv 5)) aQ)))) (aA (cQ rfl (bG bT rfl T.b_len A7 (aJ (aC (pv 3)) aQ)))) (bV _)) (Fl.lE (Fl.fY (Fl.gP (aKJ (m:=12) rfl rfl rfl (a.mono (by decide)) (rZ (pv 2) (bY fun _ _ _ h=>h) (yS (aC (pv 3)) (yS (aA (cQ rfl (bG bT rfl T.b_len A7 (aJ (aC (pv 5)) aQ)))) aKI)))))))))
   (Fl.aF (eO (L2.aI (i:=6) nd rfl (Or.inl rfl) (dR bE)))
   (Fl.aF (Fl.cH (bS 7) (L2.cH (c9 ⟨rfl,rfl⟩) rfl (uN rfl (aEY (m:=12) rfl rfl rfl (a.mono (by decide)) (rZ (pv 1) (bY fun _ _ _ h=>h) (aO (aW (aX rfl) aK (aC (pv 3)) (aA (cQ rfl (bG bT rfl T.b_len A7 (aJ (aC (pv 5)) aQ))))) bE)))) (bR (i:=7) nd rfl (Or.inl rfl))
   (Fl.aF (Fl.cX (yK rfl rfl (qE (rY a.units) (bI (pv 7)) (pv 4) (by with_unfolding_all rfl))) (Fl.aF (Fl.qL rfl rfl (lP (cQ rfl (bG bT rfl T.b_len A7 (aJ (aC (pv 3)) aQ))) (oY (pv 4) (bI (pv 7)) (oH a.units))))
   (Fl.aM (iH rfl (L2.eN (iP BL BP BQ eH (pv 3) (aJ (bI (pv 7)) aQ)))))) Fl.b9)
   (Fl.aM (iH rfl (L2.eN (iP BL BP BQ eH (pv 6) (aJ (lI rfl rfl (lH a.units (pv 4) (bI (pv 7)) (fun _ _=>rfl))) aQ))))))))
   (Fl.aM (iH rfl (L2.eN (iP BL BP BQ eH (pv 5) (aJ (i9 rfl (eU eQ rfl T.b_tuple B8 (aJ (aC (pv 6)) aQ))) aQ)))))))))
   (Fl.aM (tJ 5 (tJ 3 (Fl.bL (aS (dH (aO (bI (pv 3)) (aO (bI (pv 5)) bE)))))))))))))
def rH:FnScope ["rows","number","came","at","row","sign","there","signs"] ["rows","number"] (aL (top 6)):=by constructor<;>first|rfl|decide +kernel
def aAA(T:Txt w K mg)(D:DefAt K mg "strip_to" (top 6) ["rows","number"]):bD P w K mg base TH 1 "strip_to" ["rows","number"] j4:=
 @eK P w K mg base TH "strip_to" (top 6) ["rows","number","came","at","row","sign","there","signs"] ["rows","number"] 0 oM D rH (fun f b A outer s H F E a=>by
  have nd:=rH.nd
  exact (Fl.aF (uV rfl (L2.aI (i:=2) nd rfl (Or.inl rfl) uU))
   (Fl.aF (Fl.cH (kP rfl (c7 (bS 3) (c7 (bS 4) jM)) rfl) (L2.cH (c9 ⟨rfl,rfl⟩) rfl (aBE rfl (L2.u4 rfl T.b_enumerate (aJ (bI (pv 0)) aQ))) (kL rfl (cZ (bR (i:=3) nd rfl (Or.inl rfl)) (cZ (bR (i:=4) nd rfl (Or.inl rfl)) jG)))
   (Fl.aM (Fl.cH (kP rfl (c7 (bS 5) (c7 (bS 6) jM)) rfl) (L2.cH (c9 ⟨rfl,rfl⟩) rfl (aKQ rfl (L2.aNY rfl T.b_zip (aJ (lV (aJF (v:=.str "abc") rfl T.g_SIGNS.choose_spec ⟨_,rfl⟩) fun _=>.str _) (aJ (bI (pv 4)) aQ)))) (kL rfl (cZ (bR (i:=5) nd rfl (Or.inl rfl)) (cZ (bR (i:=6) nd rfl (Or.inl rfl)) jG)))
   (Fl.aM (aKT rfl rfl (L2.eN (aNM PySem.F.plainAttrs_dict ES PySem.F.type_dict_setdefault (aN0 a.units) (pv 2) (aJ (bI (pv 6)) (aJ (dH (aO (bI (pv 3)) (aO (bI (pv 5)) bE))) aQ)))))))))))
   (Fl.aF (eO (L2.aI (i:=7) nd rfl (Or.inl rfl) (dR bE)))
   (Fl.aF (Fl.gF (L2.gF (c9 ⟨rfl,rfl⟩) (Fl.cE (iF rfl a.units) fB (aC (pv 1)) (aA aD) (bV _))
   (Fl.aF (iH rfl (L2.eN (iP BL BP BQ eH (pv 7) (aJ (aW (aX rfl) aK (aA (lI rfl rfl (lH a.units (pv 2) (bI (pv 1)) (fun _ _=>rfl)))) (aA aD)) aQ))))
   (Fl.aM (Fl.aI (L2.aI (i:=1) nd rfl (Or.inl rfl) (aS (aW (aX rfl) aK (aA (lI rfl rfl (lH a.units (pv 2) (bI (pv 1)) (fun _ _=>rfl)))) (aA aD)))))))))
   (Fl.aF (aN1 (L2.eN (aMW BL PySem.F.slot_list_reverse PySem.F.type_list_reverse aB4 (pv 7))))
   (Fl.aM (Fl.bL (aS (aKB rfl (iP IA PySem.F.slot_str_join PySem.F.type_str_join aJT (aA eJ) (aJ (aC (pv 7)) aQ)) (by intro ρ x h;cases h;exact ⟨_,rfl⟩)))))))))))
def fW:CloScope ["found","at","wanted"] ["found","at"] ["wanted"] fF.scope:=⟨rfl,rfl,rfl,by decide +kernel,rfl,by decide +kernel,by decide +kernel,by decide +kernel,by decide +kernel⟩
def qY:∀ y∈fF.scope.names,y.2=.free->(aL (top 7)).names.lookup y.1=some .cell\/(aL (top 7)).names.lookup y.1=some .free:=by decide +kernel
def pW:(fK,("first_to.<locals>.<lambda>":Str))∈qsT:=(.head _)
def qZ:∀ p∈qsT,p.1.line=fK.line->p.1.col=fK.col->p.2=("first_to.<locals>.<lambda>":Str):=by decide +kernel
def pX(T:Txt w K mg):CloOk P w K mg base TH fF ["wanted"] 12 2 (hU 3 d0):=
 @aNS P w K mg base TH fF ["found","at","wanted"] ["found","at"] ["wanted"] 11 _ (r0 11 2 (aB (e2 dIx (rV 0) (rV 1)) aR)) rfl fW (fun _ _ _ _ _=>Mc.bn2 fun _ _=>rfl) (fun f b cl A outer s H F E c a=>by
  have nd:=fW.nd
  exact (aEY (m:=11) rfl rfl rfl (a.mono (by decide)) (rZ (pv 2) (bY fun _ _ _ h=>h) (aO (aW (aX rfl) aK (aC (pv 0)) (aC (pv 1))) bE))))
def rJ:FnScope ["begin","after","wanted","search","found","rows"] ["begin","after","wanted"] (aL (top 7)):=by constructor<;>first|rfl|decide +kernel
def aAB(T:Txt w K mg)(D:DefAtT K mg base TH qsT "first_to" (top 7) ["begin","after","wanted"])(b:bD P w K mg base TH 13 "reached" ["begin","after","done"] jN)(a:bD P w K mg base TH 1 "strip_to" ["rows","number"] j4):bD P w K mg base TH 14 "first_to" ["begin","after","wanted"] eG:=
 @aA9 P w K mg base TH "first_to" (top 7) ["begin","after","wanted","search","found","rows"] ["begin","after","wanted"] 13 qsT (fun q=>(fun _=>none) q) k9 D rJ (fun f c0 P0 A outer s H F E e d c=>by
  have nd:=rJ.nd
  exact (Fl.aF (Fl.aI (L2.aI (i:=3) nd rfl (Or.inl rfl) (aE0 (js:=[2]) rfl rfl rfl rfl rfl rfl rfl (u0 ⟨_,rfl,rfl,rfl⟩ aE1) (L2.aEF b (c.mono (by decide)) rfl (bY fun _ _ _ h=>h) (kA (aCQ (aN (pv 0))) (kA (aCQ (aN (pv 1))) (kA (aNT (S:=fF) rfl d (pX T ) (fun y g=>fW.only (y,.free) g rfl) (fun y g=>BB (fW.cap y g)) rfl (by decide) (L2.aM1 rfl e rfl pW qZ qY rfl)) aA8)))))))
   (Fl.aF (Fl.aI (L2.aI (i:=4) nd rfl (Or.inl rfl) (aS (aW (aX rfl) aK (aC (pv 3)) (aA aD)))))
   (Fl.aF (Fl.aI (L2.aI (i:=5) nd rfl (Or.inl rfl) (aS (aW (aX rfl) aK (aC (pv 3)) (aA aD)))))
   (Fl.aM (Fl.bL (aS (dH (aO (bI (pv 4)) (aO (aPN (Fl.cE (iY rfl c.units) fP (aA (cQ rfl (bG bT rfl T.b_len A7 (aJ (aC (pv 5)) aQ)))) (aA (cQ rfl (bG bT rfl T.b_len A7 (aJ (aC (pv 4)) aQ)))) (bV _)) nE (cY (cF rfl rfl rfl (cD a (c.mono (by decide)) rfl (bY fun _ _ _ h=>h) (aE (aN (pv 5)) (aE (aS (cQ rfl (bG bT rfl T.b_len A7 (aJ (aC (pv 5)) aQ)))) bH)))))) bE))))))))))
def rK:FnScope ["reader"] ["reader"] (aL (top 9)):=by constructor<;>first|rfl|decide +kernel
def aAC(T:Txt w K mg)(D:DefAt K mg "signs_by" (top 9) ["reader"]):bD P w K mg base TH 1 "signs_by" ["reader"] dN:=
 @eK P w K mg base TH "signs_by" (top 9) ["reader"] ["reader"] 0 oK D rK (fun f a A outer s H F E b=>by
  have nd:=rK.nd
  exact (Fl.aM (Fl.bL (aS (cQ rfl (bG bT rfl T.b_len A7 (aJ (aA (aW (aX rfl) aK (aA (aW (aX rfl) aK (aC (pv 0)) (aA aD))) (aA aD))) aQ)))))))
def oV:FnScope ["one","other","pair"] ["one","other","pair"] (aL (top 11)):=by constructor<;>first|rfl|decide +kernel
def wY(T:Txt w K mg)(D:DefAt K mg "after_pair" (top 11) ["one","other","pair"]):bD P w K mg base TH 1 "after_pair" ["one","other","pair"] eM:=
 @eK P w K mg base TH "after_pair" (top 11) ["one","other","pair"] ["one","other","pair"] 0 l8 D oV (fun f a A outer s H F E b=>by
  have nd:=oV.nd
  exact (Fl.aM (Fl.bL (aS (fJ (aHN rfl (L2.aHM rfl rfl T.b_list rfl T.b_zip (aJ (aA (aW (aX rfl) aK (aA (aW (aX rfl) aK (aC (pv 0)) (aA aD))) (aA (aW (aX rfl) aK (aC (pv 2)) (aA aD))))) (aJ (aA (aW (aX rfl) aK (aA (aW (aX rfl) aK (aC (pv 1)) (aA aD))) (aA (aW (aX rfl) aK (aC (pv 2)) (aA aD))))) aQ)))))))))
def pY:FnScope ["one","other","pair"] ["one","other","pair"] (aL (top 12)):=by constructor<;>first|rfl|decide +kernel
def zR(T:Txt w K mg)(D:DefAt K mg "same_word" (top 12) ["one","other","pair"]):bD P w K mg base TH 1 "same_word" ["one","other","pair"] eX:=
 @eK P w K mg base TH "same_word" (top 12) ["one","other","pair"] ["one","other","pair"] 0 mU D pY (fun f b A outer s H F E a=>by
  have nd:=pY.nd
  exact (Fl.aM (Fl.bL (aS (lX (iY rfl a.units) fP (aA (aW (aX rfl) aK (aA (aW (aX rfl) aK (aC (pv 0)) (aA aD))) (aA (aW (aX rfl) aK (aC (pv 2)) (aA aD))))) (aA (aW (aX rfl) aK (aA (aW (aX rfl) aK (aC (pv 1)) (aA aD))) (aA (aW (aX rfl) aK (aC (pv 2)) (aA aD))))) (bV _))))))
end
section
variable{P:Program}{w:World}{K:Frag}{mg:Str->Option V9}{base:Heap}{TH:Hp}
def gO:CloScope ["pair","one","other"] ["pair"] ["one","other"] dP.scope:=⟨rfl,rfl,rfl,by decide +kernel,rfl,by decide +kernel,by decide +kernel,by decide +kernel,by decide +kernel⟩
def sL:∀ y∈dP.scope.names,y.2=.free->(aL (top 13)).names.lookup y.1=some .cell\/(aL (top 13)).names.lookup y.1=some .free:=by decide +kernel
def q9:(fV,("parted.<locals>.after":Str))∈qsT:=(.tail _ (.head _))
def sM:∀ p∈qsT,p.1.line=fV.line->p.1.col=fV.col->p.2=("parted.<locals>.after":Str):=by decide +kernel
def rA(T:Txt w K mg)(a:bD P w K mg base TH 1 "after_pair" ["one","other","pair"] eM):CloOk P w K mg base TH dP ["one","other"] 2 1 (hU 3 eP):=
 @aEZ P w K mg base TH dP ["pair","one","other"] ["pair"] ["one","other"] 1 _ eP rfl gO (fun _ _ _ _ _=>Mc.bn1 fun _=>rfl) (fun f c cl A outer s H F E d b=>by
  have nd:=gO.nd
  exact (Fl.aM (Fl.bL (cF rfl rfl rfl (cD a (b.mono (by decide)) rfl (bY fun _ _ _ h=>h) (aE (aN (pv 1)) (aE (aN (pv 2)) (aE (aN (pv 0)) bH))))))))
def fX:CloScope ["pair","one","other"] ["pair"] ["one","other"] dF.scope:=⟨rfl,rfl,rfl,by decide +kernel,rfl,by decide +kernel,by decide +kernel,by decide +kernel,by decide +kernel⟩
def rB:∀ y∈dF.scope.names,y.2=.free->(aL (top 13)).names.lookup y.1=some .cell\/(aL (top 13)).names.lookup y.1=some .free:=by decide +kernel
def pZ:(fM,("parted.<locals>.unlike":Str))∈qsT:=(.tail _ (.tail _ (.head _)))
def rC:∀ p∈qsT,p.1.line=fM.line->p.1.col=fM.col->p.2=("parted.<locals>.unlike":Str):=by decide +kernel
def p4(T:Txt w K mg)(a:bD P w K mg base TH 1 "same_word" ["one","other","pair"] eX):CloOk P w K mg base TH dF ["one","other"] 2 1 (hU 3 eB):=
 @aEZ P w K mg base TH dF ["pair","one","other"] ["pair"] ["one","other"] 1 _ eB rfl fX (fun _ _ _ _ _=>Mc.bn1 fun _=>rfl) (fun f c cl A outer s H F E d b=>by
  have nd:=fX.nd
  exact (Fl.aM (Fl.bL (aS (aM8 (cY (cF rfl rfl rfl (cD a (b.mono (by decide)) rfl (bY fun _ _ _ h=>h) (aE (aN (pv 1)) (aE (aN (pv 2)) (aE (aN (pv 0)) bH)))))))))))
def wT:FnScope ["one","other","begin","after","unlike"] ["one","other","begin"] (aL (top 13)):=by constructor<;>first|rfl|decide +kernel
def aFX(T:Txt w K mg)(D:DefAtT K mg base TH qsT "parted" (top 13) ["one","other","begin"])(a:bD P w K mg base TH 1 "after_pair" ["one","other","pair"] eM)(b:bD P w K mg base TH 1 "same_word" ["one","other","pair"] eX)(c:bD P w K mg base TH 14 "first_to" ["begin","after","wanted"] eG):bD P w K mg base TH 15 "parted" ["one","other","begin"] jE:=
 @aA9 P w K mg base TH "parted" (top 13) ["one","other","begin","after","unlike"] ["one","other","begin"] 14 qsT (fun q=>[(("parted.<locals>.after":Str),dP),(("parted.<locals>.unlike":Str),dF)].lookup q) sH D wT (fun f c0 P0 A outer s H F E g e i=>by
  have nd:=wT.nd
  exact (Fl.aF (aA5 (S:=dP) rfl rfl e (L2.aEC rfl g rfl q9 sM sL rfl rfl rfl nd rfl (Or.inl rfl)))
   (Fl.aF (aA5 (S:=dF) rfl rfl e (L2.aEC rfl g rfl pZ rC rB rfl rfl rfl nd rfl (Or.inl rfl)))
   (Fl.aM (Fl.bL (aE0 (js:=[0,1]) rfl rfl rfl rfl rfl rfl rfl (u0 ⟨_,rfl,rfl,rfl⟩ (u0 ⟨_,rfl,rfl,rfl⟩ aE1)) (L2.aEF c (i.mono (by decide)) rfl (bY fun _ _ _ h=>h) (kA (aCQ (aN (pv 2))) (kA (aA7 (S:=dP) rfl (rA T a) (fun y d=>gO.only (y,.free) d rfl) (fun y d=>BB (gO.cap y d)) rfl (by decide) (pv 3)) (kA (aA7 (S:=dF) rfl (p4 T b) (fun y d=>fX.only (y,.free) d rfl) (fun y d=>BB (fX.cap y d)) rfl (by decide) (pv 4)) aA8))))))))))
def aBS:FnScope ["one","other","search"] ["one","other"] (aL (top 15)):=by constructor<;>first|rfl|decide +kernel
def aLX(T:Txt w K mg)(D:DefAt K mg "held" (top 15) ["one","other"])(b:bD P w K mg base TH 1 "signs_by" ["reader"] dN)(c:bD P w K mg base TH 15 "parted" ["one","other","begin"] jE){Wp_NotLike Cp_NotLike:Az}(a:ErrP K mg "NotLike" Wp_NotLike Cp_NotLike):bD P w K mg base TH 16 "held" ["one","other"] gR:=
 @eK P w K mg base TH "held" (top 15) ["one","other","search"] ["one","other"] 15 pL D aBS (fun f e A outer s H F E d=>by
  have nd:=aBS.nd
  exact (Fl.aF (Fl.cX (Fl.cE (iF rfl d.units) fB (aA (cY (cF rfl rfl rfl (cD b (d.mono (by decide)) rfl (bY fun _ _ _ h=>h) (aE (aN (pv 0)) bH))))) (aA (cY (cF rfl rfl rfl (cD b (d.mono (by decide)) rfl (bY fun _ _ _ h=>h) (aE (aN (pv 1)) bH))))) (bV _)) (Fl.aM (Fl.pI a.m (L2.pI rfl a rfl (aO eJ bE)))) Fl.b9)
   (Fl.aF (Fl.aI (L2.aI (i:=2) nd rfl (Or.inl rfl) (cF rfl rfl rfl (cD c (d.mono (by decide)) rfl (bY fun _ _ _ h=>h) (aE (aN (pv 0)) (aE (aN (pv 1)) (aE (aS (dH (aO aD (aO aD bE)))) bH)))))))
   (Fl.aF (Fl.cX (Fl.cE yC rT (aA (aW (aX rfl) aK (aC (pv 2)) (aA aD))) (aA nE) (bV _)) (Fl.aM (Fl.bL (aS (dH (aO eJ (aO (aW (aX rfl) aK (aC (pv 2)) (aA aD)) bE)))))) Fl.b9)
   (Fl.aM (Fl.bL (aS (dH (aO eJ (aO (aW (aX rfl) aK (aC (pv 2)) (aA aD)) bE))))))))))
def p6:FnScope ["one","other","pair"] ["one","other","pair"] (aL (top 16)):=by constructor<;>first|rfl|decide +kernel
def zS(T:Txt w K mg)(D:DefAt K mg "are_rooms" (top 16) ["one","other","pair"]):bD P w K mg base TH 1 "are_rooms" ["one","other","pair"] iZ:=
 @eK P w K mg base TH "are_rooms" (top 16) ["one","other","pair"] ["one","other","pair"] 0 mV D p6 (fun f a A outer s H F E b=>by
  have nd:=p6.nd
  exact (Fl.aM (Fl.bL (aS (nF (yD tG oA jV gK (aA aD) (aA (aW (aX rfl) aK (aC (pv 2)) (aA aD))) (aA (cQ rfl (bG bT rfl T.b_len A7 (aJ (aA (aW (aX rfl) aK (aC (pv 0)) (aA aD))) aQ))))) (pC (yD tG oA jV gK (aA aD) (aA (aW (aX rfl) aK (aC (pv 2)) (aA aD))) (aA (cQ rfl (bG bT rfl T.b_len A7 (aJ (aA (aW (aX rfl) aK (aC (pv 1)) (aA aD))) aQ)))))))))))
def nM:FnScope ["one","other","pairs","known","pair"] ["one","other","pairs"] (aL (top 17)):=by constructor<;>first|rfl|decide +kernel
def vP(T:Txt w K mg)(D:DefAt K mg "shows_alike" (top 17) ["one","other","pairs"])(a:bD P w K mg base TH 1 "signs_by" ["reader"] dN)(c:bD P w K mg base TH 1 "same_word" ["one","other","pair"] eX)(d:bD P w K mg base TH 1 "are_rooms" ["one","other","pair"] iZ)(b:bD P w K mg base TH 1 "after_pair" ["one","other","pair"] eM):bD P w K mg base TH 2 "shows_alike" ["one","other","pairs"] cS:=
 @eK P w K mg base TH "shows_alike" (top 17) ["one","other","pairs","known","pair"] ["one","other","pairs"] 1 i7 D nM (fun f k A outer s H F E e=>by
  have nd:=nM.nd
  exact (Fl.aF (Fl.cX (Fl.cE (iF rfl e.units) fB (aA (cY (cF rfl rfl rfl (cD a (e.mono (by decide)) rfl (bY fun _ _ _ h=>h) (aE (aN (pv 0)) bH))))) (aA (cY (cF rfl rfl rfl (cD a (e.mono (by decide)) rfl (bY fun _ _ _ h=>h) (aE (aN (pv 1)) bH))))) (bV _)) (Fl.aM (Fl.bL (aS dM))) Fl.b9)
   (Fl.aF (aH7 rfl rfl (L2.aI (i:=3) nd rfl (Or.inr rfl) (eU (aC5 rfl e.units) rfl T.b_dict PyProof.Rows.boot_dict (aJ (nG (m6 (N:=["pair"]) (js:=[none]) rfl (.own .nil) (by rfl) (yG rfl (aC (pv 2)))) (by decide) (by decide) (is:=[0]) (fun cl C j g fp=>⟨_,(bR (i:=0) (show (["pair"]:List Str).Nodup by decide +kernel) rfl (Or.inl rfl)),(bS 0),Fl.jH,(dH (aO (bI (pv 0)) (aO dM bE)))⟩)) aQ))))
   (Fl.aF (Fl.cX (yK rfl rfl (qE (rY e.units) (dH (aO aD (aO aD bE))) (pv 3) (by with_unfolding_all rfl))) (Fl.aM (Fl.bL (aS dM))) Fl.b9)
   (Fl.aF (aE8 rfl 3 (Fl.cH (bS 4) (L2.cH (c9 ⟨rfl,rfl⟩) rfl (aBF rfl (pv 3)) (bR (i:=4) nd rfl (Or.inl rfl))
   (Fl.aF (Fl.cX (PW.pt (Fl.jS (Fl.fY (Fl.gP (cY (cF rfl rfl rfl (cD d (e.mono (by decide)) rfl (bY fun _ _ _ h=>h) (aE (aN (pv 0)) (aE (aN (pv 1)) (aE (aN (pv 4)) bH)))))))) (Fl.jR (Fl.fY (Fl.gP (cY (cF rfl rfl rfl (cD c (e.mono (by decide)) rfl (bY fun _ _ _ h=>h) (aE (aN (pv 0)) (aE (aN (pv 1)) (aE (aN (pv 4)) bH))))))))))) (Fl.aM (Fl.bL (aS dM))) Fl.b9)
   (Fl.aM (Fl.cX (Fl.fY (Fl.gP (aNB rfl (bG (aDZ rfl) rfl T.b_all PyProof.Rows.boot_all (aJ (aA (fJ (nG (m6 (N:=["there","known"]) (js:=[none,some 3]) rfl (.own (.cap rfl (.inl rfl) (.inl rfl) .nil)) (by rfl) (yG rfl (aA (cY (cF rfl rfl rfl (cD b (e.mono (by decide)) rfl (bY fun _ _ _ h=>h) (aE (aN (pv 0)) (aE (aN (pv 1)) (aE (aN (pv 4)) bH))))))))) (by decide) (by decide) (is:=[0]) (fun cl C j g fp=>⟨_,(bR (i:=0) (show (["there","known"]:List Str).Nodup by decide +kernel) rfl (Or.inl rfl)),(bS 0),Fl.jH,(aES (op:=.In) rfl rfl (uE (aAU e.units) (bI (pv 0)) (pv 1) (by with_unfolding_all rfl)))⟩)))) aQ))))) (Fl.aM (Fl.bL (aS dM))) Fl.b9))))))
   (Fl.aM (Fl.bL (aS dM))))))))
def p7:FnScope ["_law_script","_law_k","_law_cell_here","_law_mixed"] ["_law_script","_law_k"] (aL (top 19)):=by constructor<;>first|rfl|decide +kernel
def zT(T:Txt w K mg)(D:DefAt K mg "_law_cell" (top 19) ["_law_script","_law_k"]):bD P w K mg base TH 1 "_law_cell" ["_law_script","_law_k"] cP:=
 @eK P w K mg base TH "_law_cell" (top 19) ["_law_script","_law_k","_law_cell_here","_law_mixed"] ["_law_script","_law_k"] 0 kK D p7 (fun f a A outer s H F E b=>by
  have nd:=p7.nd
  exact (Fl.aF (Fl.aI (L2.aI (i:=2) nd rfl (Or.inl rfl) (aS aD)))
   (Fl.aF (Fl.cX (Fl.cE aM6 aGX (aA (cQ rfl (bG bT rfl T.b_len A7 (aJ (aC (pv 0)) aQ)))) (aA aD) (bV _)) (Fl.aM (Fl.aI (L2.aI (i:=2) nd rfl (Or.inl rfl) (aS (aW (aX rfl) aK (aC (pv 0)) (aA (aV cG bO (aC (pv 1)) (aA (cQ rfl (bG bT rfl T.b_len A7 (aJ (aC (pv 0)) aQ))))))))))) Fl.b9)
   (Fl.aF (Fl.aI (L2.aI (i:=3) nd rfl (Or.inl rfl) (aS (aV cG bO (aA (aV jL gD (aA (aV (cR rfl) bX (aA (aV (cR rfl) bX (aA (aV cG bO (aC (pv 2)) (aA aD))) (aA (aV jL gD (aA aD) (aC (pv 1)))))) (aA aD))) (aA aD))) (aA aD)))))
   (Fl.aM (Fl.bL (aS (aV (cR rfl) bX (aA (aV jL gD (aA (aV gW eW (aC (pv 2)) (aA aD))) (aA aD))) (aA (aV cG bO (aA (aV (cR rfl) bX (aA (aV jL gD (aC (pv 3)) (aA aD))) (aA (aV jL gD (aA aD) (aC (pv 1)))))) (aA aD)))))))))))
def nN:FnScope ["_law_script","_law_at","_law_rooms","_law_signs","_law_words","_law_rows","_law_told","_law_room","_law_digits","_law_number","_law_row","_law_k"] ["_law_script","_law_at","_law_rooms","_law_signs","_law_words"] (aL (top 20)):=by constructor<;>first|rfl|decide +kernel
def vQ(T:Txt w K mg)(D:DefAt K mg "_law_oneway" (top 20) ["_law_script","_law_at","_law_rooms","_law_signs","_law_words"])(a:bD P w K mg base TH 1 "_law_cell" ["_law_script","_law_k"] cP):bD P w K mg base TH 2 "_law_oneway" ["_law_script","_law_at","_law_rooms","_law_signs","_law_words"] dD:=
 @eK P w K mg base TH "_law_oneway" (top 20) ["_law_script","_law_at","_law_rooms","_law_signs","_law_words","_law_rows","_law_told","_law_room","_law_digits","_law_number","_law_row","_law_k"] ["_law_script","_law_at","_law_rooms","_law_signs","_law_words"] 1 kW D nN (fun f c A outer s H F E b=>by
  have nd:=nN.nd
  exact (Fl.aF (eO (L2.aI (i:=5) nd rfl (Or.inl rfl) (dR bE)))
   (Fl.aF (eO (L2.aI (i:=6) nd rfl (Or.inl rfl) (dR bE)))
   (Fl.aF (Fl.cH (bS 7) (L2.cH (c9 ⟨rfl,rfl⟩) rfl (uO (oZ rfl T.b_range (aJ (aC (pv 2)) aQ))) (bR (i:=7) nd rfl (Or.inl rfl))
   (Fl.aF (Fl.aI (L2.aI (i:=8) nd rfl (Or.inl rfl) (aS (nF (lX jV gK (aA (aV (cR rfl) bX (aC (pv 1)) (aC (pv 7)))) (aA (cQ rfl (bG bT rfl T.b_len A7 (aJ (aC (pv 0)) aQ)))) (bV _)) (pC (lX (iY rfl b.units) fP (aA (aV cG bO (aA (aW (aX rfl) aK (aC (pv 0)) (aA aD))) (aA aD))) (aA aD) (bV _)))))))
   (Fl.aF (Fl.aI (L2.aI (i:=9) nd rfl (Or.inl rfl) (aS (aV cG bO (aA (cY (cF rfl rfl rfl (cD a (b.mono (by decide)) rfl (bY fun _ _ _ h=>h) (aE (aN (pv 0)) (aE (aS (aV (cR rfl) bX (aC (pv 1)) (aC (pv 7)))) bH)))))) (aA aD)))))
   (Fl.aF (Fl.cX (Fl.gP (bI (pv 8))) (Fl.aM (Fl.aI (L2.aI (i:=9) nd rfl (Or.inl rfl) (aS (aW (aX rfl) aK (aC (pv 0)) (aA (aV (cR rfl) bX (aC (pv 1)) (aC (pv 7))))))))) Fl.b9)
   (Fl.aF (eO (L2.aI (i:=10) nd rfl (Or.inl rfl) (dR bE)))
   (Fl.aF (Fl.cH (bS 11) (L2.cH (c9 ⟨rfl,rfl⟩) rfl (uO (oZ rfl T.b_range (aJ (aC (pv 3)) aQ))) (bR (i:=11) nd rfl (Or.inl rfl))
   (Fl.aF (Fl.cX (Fl.fY (Fl.gP (bI (pv 8)))) (Fl.aM (Fl.aI (L2.aI (i:=9) nd rfl (Or.inl rfl) (aS (aV gW eW (aA (aV cG bO (aA (aV (cR rfl) bX (aA (aV jL gD (aC (pv 9)) (aA aD))) (aA aD))) (aA aD))) (aA aD)))))) Fl.b9)
   (Fl.aF (iH rfl (L2.eN (iP BL BP BQ eH (pv 10) (aJ (aV cG bO (aC (pv 9)) (aC (pv 2))) aQ))))
   (Fl.aM (Fl.aI (L2.aI (i:=9) nd rfl (Or.inl rfl) (aS (aV gW eW (aC (pv 9)) (aC (pv 2)))))))))))
   (Fl.aF (iH rfl (L2.eN (iP BL BP BQ eH (pv 6) (aJ (aW (aX rfl) aK (aA (fJ (dR (aO eJ (aO eJ (aO eJ bE)))))) (aA (aV cG bO (aC (pv 9)) (aC (pv 4))))) aQ))))
   (Fl.aM (iH rfl (L2.eN (iP BL BP BQ eH (pv 5) (aJ (i9 rfl (eU eQ rfl T.b_tuple B8 (aJ (aC (pv 10)) aQ))) aQ)))))))))))))
   (Fl.aM (Fl.bL (aS (dH (aO (i9 rfl (eU eQ rfl T.b_tuple B8 (aJ (aC (pv 5)) aQ))) (aO (i9 rfl (eU eQ rfl T.b_tuple B8 (aJ (aC (pv 6)) aQ))) bE))))))))))
end
section
variable{P:Program}{w:World}{K:Frag}{mg:Str->Option V9}{base:Heap}{TH:Hp}
def nO:FnScope ["_law_one","_law_two","_law_pair","_law_strips_here","_law_waiting","_law_at","_law_here","_law_there","_law_k","_law_after"] ["_law_one","_law_two","_law_pair"] (aL (top 21)):=by constructor<;>first|rfl|decide +kernel
def vR(T:Txt w K mg)(D:DefAt K mg "_law_firsts" (top 21) ["_law_one","_law_two","_law_pair"]):bD P w K mg base TH 1 "_law_firsts" ["_law_one","_law_two","_law_pair"] eR:=
 @eK P w K mg base TH "_law_firsts" (top 21) ["_law_one","_law_two","_law_pair","_law_strips_here","_law_waiting","_law_at","_law_here","_law_there","_law_k","_law_after"] ["_law_one","_law_two","_law_pair"] 0 iW D nO (fun f b A outer s H F E a=>by
  have nd:=nO.nd
  exact (Fl.aF (aAX rfl rfl (L2.aI (i:=3) nd rfl (Or.inl rfl) (aAV a.units (yQ (bI (pv 2)) eJ aAW))))
   (Fl.aF (eO (L2.aI (i:=4) nd rfl (Or.inl rfl) (dR (aO (bI (pv 2)) bE))))
   (Fl.aF (Fl.aI (L2.aI (i:=5) nd rfl (Or.inl rfl) (aS aD)))
   (Fl.aF (Fl.gF (L2.gF (c9 ⟨rfl,rfl⟩) (Fl.cE jV gK (aC (pv 5)) (aA (cQ rfl (bG bT rfl T.b_len A7 (aJ (aC (pv 4)) aQ)))) (bV _))
   (Fl.aF (aET (kP rfl (c7 (bS 6) (c7 (bS 7) jM)) rfl) (lP (aW (aX rfl) aK (aC (pv 4)) (aC (pv 5))) (kL rfl (cZ (bR (i:=6) nd rfl (Or.inl rfl)) (cZ (bR (i:=7) nd rfl (Or.inl rfl)) jG)))))
   (Fl.aF (Fl.cH (bS 8) (L2.cH (c9 ⟨rfl,rfl⟩) rfl (uO (oZ rfl T.b_range (aJ (aA (cQ rfl (bG bT rfl T.b_len A7 (aJ (aA (aW (aX rfl) aK (aA (aW (aX rfl) aK (aC (pv 0)) (aA aD))) (aC (pv 6)))) aQ)))) aQ))) (bR (i:=8) nd rfl (Or.inl rfl))
   (Fl.aF (Fl.aI (L2.aI (i:=9) nd rfl (Or.inl rfl) (aS (dH (aO (aW (aX rfl) aK (aA (aW (aX rfl) aK (aA (aW (aX rfl) aK (aC (pv 0)) (aA aD))) (aC (pv 6)))) (aC (pv 8))) (aO (aW (aX rfl) aK (aA (aW (aX rfl) aK (aA (aW (aX rfl) aK (aC (pv 1)) (aA aD))) (aC (pv 7)))) (aC (pv 8))) bE))))))
   (Fl.aM (Fl.cX (yK rfl rfl (qE (rY a.units) (bI (pv 9)) (pv 3) (by with_unfolding_all rfl))) (Fl.aF (Fl.qL rfl rfl (lP (aV (cR rfl) bX (aA (lI rfl rfl (lH a.units (pv 3) (dH (aO (bI (pv 6)) (aO (bI (pv 7)) bE))) (fun _ _=>rfl)))) (aA (aW (aX rfl) aK (aA eJ) (aC (pv 8))))) (oY (pv 3) (bI (pv 9)) (oH a.units))))
   (Fl.aM (iH rfl (L2.eN (iP BL BP BQ eH (pv 4) (aJ (bI (pv 9)) aQ)))))) Fl.b9)))))
   (Fl.aM (Fl.aI (L2.aI (i:=5) nd rfl (Or.inl rfl) (aS (aV (cR rfl) bX (aC (pv 5)) (aA aD))))))))))
   (Fl.aM (aE8 rfl 3 (Fl.bL (aN (pv 3))))))))))
def mP:FnScope ["_law_one","_law_two","_law_pair","_law_strips_here","_law_found","_law_here","_law_there","_law_strip"] ["_law_one","_law_two","_law_pair"] (aL (top 22)):=by constructor<;>first|rfl|decide +kernel
def uC(T:Txt w K mg)(D:DefAt K mg "_law_parting" (top 22) ["_law_one","_law_two","_law_pair"])(a:bD P w K mg base TH 1 "_law_firsts" ["_law_one","_law_two","_law_pair"] eR):bD P w K mg base TH 2 "_law_parting" ["_law_one","_law_two","_law_pair"] eZ:=
 @eK P w K mg base TH "_law_parting" (top 22) ["_law_one","_law_two","_law_pair","_law_strips_here","_law_found","_law_here","_law_there","_law_strip"] ["_law_one","_law_two","_law_pair"] 1 kD D mP (fun f c A outer s H F E b=>by
  have nd:=mP.nd
  exact (Fl.aF (Fl.aI (L2.aI (i:=3) nd rfl (Or.inl rfl) (cF rfl rfl rfl (cD a (b.mono (by decide)) rfl (bY fun _ _ _ h=>h) (aE (aN (pv 0)) (aE (aN (pv 1)) (aE (aN (pv 2)) bH)))))))
   (Fl.aF (Fl.aI (L2.aI (i:=4) nd rfl (Or.inl rfl) (aS nE)))
   (Fl.aF (Fl.cH (kP rfl (c7 (bS 5) (c7 (bS 6) jM)) rfl) (L2.cH (c9 ⟨rfl,rfl⟩) rfl (aBF rfl (pv 3)) (kL rfl (cZ (bR (i:=5) nd rfl (Or.inl rfl)) (cZ (bR (i:=6) nd rfl (Or.inl rfl)) jG)))
   (Fl.aF (Fl.aI (L2.aI (i:=7) nd rfl (Or.inl rfl) (aS (lI rfl rfl (lH b.units (pv 3) (dH (aO (bI (pv 5)) (aO (bI (pv 6)) bE))) (fun _ _=>rfl))))))
   (Fl.aM (Fl.cX (PW.pt (Fl.mY (Fl.cE (iF rfl b.units) fB (aA (aW (aX rfl) aK (aA (aW (aX rfl) aK (aC (pv 0)) (aA aD))) (aC (pv 5)))) (aA (aW (aX rfl) aK (aA (aW (aX rfl) aK (aC (pv 1)) (aA aD))) (aC (pv 6)))) (bV _)) (Fl.lE (PW.pt (Fl.jS (Fl.cE yC rT (aC (pv 4)) (aA nE) (bV _)) (Fl.jR (Fl.cE (aKZ rfl b.units) aFB (aA (dH (aO (cQ rfl (bG bT rfl T.b_len A7 (aJ (aC (pv 7)) aQ))) (aO (bI (pv 7)) bE)))) (aA (dH (aO (cQ rfl (bG bT rfl T.b_len A7 (aJ (aC (pv 4)) aQ))) (aO (bI (pv 4)) bE)))) (bV _)))))))) (Fl.aM (Fl.aI (L2.aI (i:=4) nd rfl (Or.inl rfl) (aN (pv 7))))) Fl.b9)))))
   (Fl.aM (Fl.bL (aN (pv 4))))))))
def nQ:FnScope ["_law_signs","_law_longest","_law_found","_law_at","_law_sign"] ["_law_signs","_law_longest"] (aL (top 23)):=by constructor<;>first|rfl|decide +kernel
def vS(T:Txt w K mg)(D:DefAt K mg "_law_strips" (top 23) ["_law_signs","_law_longest"]):bD P w K mg base TH 1 "_law_strips" ["_law_signs","_law_longest"] gT:=
 @eK P w K mg base TH "_law_strips" (top 23) ["_law_signs","_law_longest","_law_found","_law_at","_law_sign"] ["_law_signs","_law_longest"] 0 kX D nQ (fun f a A outer s H F E b=>by
  have nd:=nQ.nd
  exact (Fl.aF (eO (L2.aI (i:=2) nd rfl (Or.inl rfl) (dR (aO eJ bE))))
   (Fl.aF (Fl.aI (L2.aI (i:=3) nd rfl (Or.inl rfl) (aS aD)))
   (Fl.aF (Fl.gF (L2.gF (c9 ⟨rfl,rfl⟩) (PW.pt (Fl.mY (Fl.cE jV gK (aC (pv 3)) (aA (cQ rfl (bG bT rfl T.b_len A7 (aJ (aC (pv 2)) aQ)))) (bV _)) (Fl.lE (Fl.cE jV gK (aA (cQ rfl (bG bT rfl T.b_len A7 (aJ (aA (aW (aX rfl) aK (aC (pv 2)) (aC (pv 3)))) aQ)))) (aC (pv 1)) (bV _)))))
   (Fl.aF (Fl.cH (bS 4) (L2.cH (c9 ⟨rfl,rfl⟩) rfl (uN rfl (rX rfl (aA eJ) aCJ (aCK (aC (pv 0))))) (bR (i:=4) nd rfl (Or.inl rfl))
   (Fl.aM (iH rfl (L2.eN (iP BL BP BQ eH (pv 2) (aJ (aV (cR rfl) bX (aA (aW (aX rfl) aK (aC (pv 2)) (aC (pv 3)))) (aC (pv 4))) aQ)))))))
   (Fl.aM (Fl.aI (L2.aI (i:=3) nd rfl (Or.inl rfl) (aS (aV (cR rfl) bX (aC (pv 3)) (aA aD)))))))))
   (Fl.aM (tJ 2 (Fl.bL (aN (pv 2)))))))))
def p8:FnScope ["_law_machine","_law_strip","_law_room","_law_sign"] ["_law_machine","_law_strip"] (aL (top 24)):=by constructor<;>first|rfl|decide +kernel
def zU(T:Txt w K mg)(D:DefAt K mg "_law_word" (top 24) ["_law_machine","_law_strip"]):bD P w K mg base TH 1 "_law_word" ["_law_machine","_law_strip"] c8:=
 @eK P w K mg base TH "_law_word" (top 24) ["_law_machine","_law_strip","_law_room","_law_sign"] ["_law_machine","_law_strip"] 0 j5 D p8 (fun f a A outer s H F E b=>by
  have nd:=p8.nd
  exact (Fl.aF (Fl.aI (L2.aI (i:=2) nd rfl (Or.inl rfl) (aS aD)))
   (Fl.aF (Fl.cH (bS 3) (L2.cH (c9 ⟨rfl,rfl⟩) rfl (uN rfl (bI (pv 1))) (bR (i:=3) nd rfl (Or.inl rfl))
   (Fl.aM (Fl.aI (L2.aI (i:=2) nd rfl (Or.inl rfl) (aS (aW (aX rfl) aK (aA (aW (aX rfl) aK (aA (aW (aX rfl) aK (aC (pv 0)) (aA aD))) (aC (pv 2)))) (aA (aG5 (iP IA PySem.F.slot_str_index PySem.F.type_str_index aGN (aA eJ) (aJ (aC (pv 3)) aQ)) (by intro ρ x h;cases h;exact ⟨_,rfl⟩))))))))))
   (Fl.aM (Fl.bL (aS (aW (aX rfl) aK (aA (aW (aX rfl) aK (aC (pv 0)) (aA aD))) (aC (pv 2)))))))))
def j6:FnScope ["_law_one","_law_two","_law_pairs","_law_known","_law_pair","_law_here","_law_there"] ["_law_one","_law_two","_law_pairs"] (aL (top 25)):=by constructor<;>first|rfl|decide +kernel
def oX(T:Txt w K mg)(D:DefAt K mg "_law_pairs_right" (top 25) ["_law_one","_law_two","_law_pairs"]):bD P w K mg base TH 1 "_law_pairs_right" ["_law_one","_law_two","_law_pairs"] dC:=
 @eK P w K mg base TH "_law_pairs_right" (top 25) ["_law_one","_law_two","_law_pairs","_law_known","_law_pair","_law_here","_law_there"] ["_law_one","_law_two","_law_pairs"] 0 fS D j6 (fun f d A outer s H F E a=>by
  have nd:=j6.nd
  exact (Fl.aF (Fl.cX (PW.pt (Fl.jS (Fl.fY (Fl.gP (tL (bG (oF rfl (aG2 _)) rfl T.b_isinstance DP (aJ (aC (pv 2)) (aJ (qD (v:=.ty "list") rfl T.b_list FN rfl) aQ)))))) (Fl.jR (Fl.cE (aJ7 rfl a.units) aEL (aA (dH (aO aD (aO aD bE)))) (aC (pv 2)) (by with_unfolding_all rfl))))) (Fl.aM (Fl.bL (aS dM))) Fl.b9)
   (Fl.aF (uV rfl (L2.aI (i:=3) nd rfl (Or.inr rfl) uU))
   (Fl.aF (Fl.cH (bS 4) (L2.cH (c9 ⟨rfl,rfl⟩) rfl (uN rfl (bI (pv 2))) (bR (i:=4) nd rfl (Or.inl rfl))
   (Fl.aF (Fl.cX (PW.pt (Fl.jS (Fl.fY (Fl.gP (tL (bG (oF rfl (wH _)) rfl T.b_isinstance DP (aJ (aC (pv 4)) (aJ (qD (v:=.ty "tuple") rfl T.b_tuple B8 rfl) aQ)))))) (Fl.jR (Fl.cE (iF rfl a.units) fB (aA (fJ (nG (m6 (N:=["_law_room"]) (js:=[none]) rfl (.own .nil) (by rfl) (yG rfl (aC (pv 4)))) (by decide) (by decide) (is:=[0]) (fun cl C c b fp=>⟨_,(bR (i:=0) (show (["_law_room"]:List Str).Nodup by decide +kernel) rfl (Or.inl rfl)),(bS 0),Fl.jH,(tL (bG (oF rfl (aKA _)) rfl T.b_isinstance DP (aJ (aC (pv 0)) (aJ (qD (v:=.ty "int") rfl T.b_int PyProof.Rows.boot_int rfl) aQ))))⟩)))) (aA (fJ (dR (aO dM (aO dM bE))))) (bV _))))) (Fl.aM (Fl.bL (aS dM))) Fl.b9)
   (Fl.aM (Fl.qL rfl rfl (lP dM (oY (pv 3) (bI (pv 4)) (oH a.units))))))))
   (Fl.aF (Fl.cH (kP rfl (c7 (bS 5) (c7 (bS 6) jM)) rfl) (L2.cH (c9 ⟨rfl,rfl⟩) rfl (uN rfl (bI (pv 2))) (kL rfl (cZ (bR (i:=5) nd rfl (Or.inl rfl)) (cZ (bR (i:=6) nd rfl (Or.inl rfl)) jG)))
   (Fl.aF (Fl.cX (PW.pt (Fl.jS (Fl.fY (Fl.nU tG oA jV gK (aA aD) (aC (pv 5)) (aA (cQ rfl (bG bT rfl T.b_len A7 (aJ (aA (aW (aX rfl) aK (aC (pv 0)) (aA aD))) aQ)))))) (Fl.jS (Fl.fY (Fl.nU tG oA jV gK (aA aD) (aC (pv 6)) (aA (cQ rfl (bG bT rfl T.b_len A7 (aJ (aA (aW (aX rfl) aK (aC (pv 1)) (aA aD))) aQ)))))) (Fl.jR (Fl.cE (iF rfl a.units) fB (aA (aW (aX rfl) aK (aA (aW (aX rfl) aK (aC (pv 0)) (aA aD))) (aC (pv 5)))) (aA (aW (aX rfl) aK (aA (aW (aX rfl) aK (aC (pv 1)) (aA aD))) (aC (pv 6)))) (bV _)))))) (Fl.aM (Fl.bL (aS dM))) Fl.b9)
   (Fl.aM (Fl.cX (Fl.cE (aM7 rfl a.units) aGY (aA dM) (aA (fJ (nG (m6 (N:=["_law_pair","_law_known"]) (js:=[none,some 3]) rfl (.own (.cap rfl (.inl rfl) (.inl rfl) .nil)) (by rfl) (aKR rfl (L2.aLW rfl T.b_zip (aJ (aA (aW (aX rfl) aK (aA (aW (aX rfl) aK (aC (pv 0)) (aA aD))) (aC (pv 5)))) (aJ (aA (aW (aX rfl) aK (aA (aW (aX rfl) aK (aC (pv 1)) (aA aD))) (aC (pv 6)))) aQ))))) (by decide) (by decide) (is:=[0]) (fun cl C c b fp=>⟨_,(bR (i:=0) (show (["_law_pair","_law_known"]:List Str).Nodup by decide +kernel) rfl (Or.inl rfl)),(bS 0),Fl.jH,(aES (op:=.In) rfl rfl (uE (aAU a.units) (bI (pv 0)) (pv 1) (by with_unfolding_all rfl)))⟩)))) (by with_unfolding_all rfl)) (Fl.aM (Fl.bL (aS dM))) Fl.b9)))))
   (Fl.aM (Fl.bL (aS dM))))))))
def nR:FnScope ["_law_machine","_law_cell_here","_law_rows","_law_words","_law_many","_law_order","_law_cut","_law_place","_law_k","_law_room","_law_made","_law_told","_law_row"] ["_law_machine","_law_cell_here"] (aL (top 26)):=by constructor<;>first|rfl|decide +kernel
def vT(T:Txt w K mg)(D:DefAt K mg "_law_remade" (top 26) ["_law_machine","_law_cell_here"]):zN P w K mg base TH 1 "_law_remade" ["_law_machine","_law_cell_here"] dS:=
 @aLV P w K mg base TH "_law_remade" (top 26) ["_law_machine","_law_cell_here","_law_rows","_law_words","_law_many","_law_order","_law_cut","_law_place","_law_k","_law_room","_law_made","_law_told","_law_row"] ["_law_machine","_law_cell_here"] 0 hZ D nR (fun f d A outer s H F E a=>by
  have nd:=nR.nd
  exact (eY (aET (kP rfl (c7 (bS 2) (c7 (bS 3) jM)) rfl) (lP (bI (pv 0)) (kL rfl (cZ (bR (i:=2) nd rfl (Or.inl rfl)) (cZ (bR (i:=3) nd rfl (Or.inl rfl)) jG)))))
   (eY (Fl.aI (L2.aI (i:=4) nd rfl (Or.inr rfl) (aS (cQ rfl (bG bT rfl T.b_len A7 (aJ (aC (pv 2)) aQ))))))
   (eY (eO (L2.aI (i:=5) nd rfl (Or.inl rfl) (aFC (eU (vC rfl) rfl T.b_list FN (aJ (eU y3 rfl T.b_range PyProof.Rows.boot_range (aJ (aA aD) (aJ (aA (aV jL gD (aA aD) (aC (pv 4)))) aQ))) aQ)))))
   (eY (Fl.aI (L2.aI (i:=6) nd rfl (Or.inl rfl) (aS (aV cG bO (aC (pv 1)) (aA (cQ rfl (bG bT rfl T.b_len A7 (aJ (aC (pv 5)) aQ))))))))
   (eY (eO (L2.aI (i:=5) nd rfl (Or.inl rfl) (yO rfl (aA (fJ (yO rfl (aA (fJ (dR (aO aD bE)))) (aA (rX rfl (aC (pv 5)) (aCK (aC (pv 6))) aCJ))))) (aA (rX rfl (aC (pv 5)) aCJ (aCK (aC (pv 6))))))))
   (eY (uV rfl (L2.aI (i:=7) nd rfl (Or.inr rfl) uU))
   (eY (tJ 5 (Fl.cH (kP rfl (c7 (bS 8) (c7 (bS 9) jM)) rfl) (L2.cH (c9 ⟨rfl,rfl⟩) rfl (aBE rfl (L2.u4 rfl T.b_enumerate (aJ (bI (pv 5)) aQ))) (kL rfl (cZ (bR (i:=8) nd rfl (Or.inl rfl)) (cZ (bR (i:=9) nd rfl (Or.inr rfl)) jG)))
   (Fl.aM (Fl.qL rfl rfl (lP (bI (pv 8)) (oY (pv 7) (bI (pv 9)) (oH a.units))))))))
   (eY (eO (L2.aI (i:=10) nd rfl (Or.inl rfl) (dR bE)))
   (eY (eO (L2.aI (i:=11) nd rfl (Or.inl rfl) (dR bE)))
   (eY (tJ 5 (Fl.cH (bS 9) (L2.cH (c9 ⟨rfl,rfl⟩) rfl (uN rfl (bI (pv 5))) (bR (i:=9) nd rfl (Or.inr rfl))
   (Fl.aF (aAS (L2.sV (i:=12) nd rfl (Or.inl rfl) (by rfl) (N:=["_law_k","_law_after","_law_many","_law_cell_here","_law_room"]) (js:=[none,none,some 4,some 1,some 9]) rfl (.own (.own (.cap rfl (.inl rfl) (.inl rfl) (.cap rfl (.inl rfl) (.inl rfl) (.cap rfl (.inl rfl) (.inl rfl) .nil))))) (by rfl) (aKU rfl (L2.u4 rfl T.b_enumerate (aJ (aA (aW (aX rfl) aK (aC (pv 2)) (aA (aV cG bO (aC (pv 9)) (aC (pv 4)))))) aQ)))) (by decide) (by decide) (is:=[0,1]) (fun cl C c b fp=>⟨_,(kL rfl (cZ (bR (i:=0) (show (["_law_k","_law_after","_law_many","_law_cell_here","_law_room"]:List Str).Nodup by decide +kernel) rfl (Or.inl rfl)) (cZ (bR (i:=1) (show (["_law_k","_law_after","_law_many","_law_cell_here","_law_room"]:List Str).Nodup by decide +kernel) rfl (Or.inl rfl)) jG))),(kP rfl (c7 (bS 0) (c7 (bS 1) jM)) rfl),Fl.jH,(aV (cR rfl) bX (aC (pv 1)) (aA (aV jL gD (aC (pv 2)) (aA (aV cG bO (aA (aV (cR rfl) bX (aA (aV (cR rfl) bX (aA (aV gW eW (aC (pv 3)) (aA aD))) (aC (pv 4)))) (aC (pv 0)))) (aA aD))))))⟩))
   (Fl.aF (iH rfl (L2.eN (iP BL BP BQ eH (pv 10) (aJ (i9 rfl (eU eQ rfl T.b_tuple B8 (aJ (aA (fJ (nG (m6 (N:=["_law_after","_law_place"]) (js:=[none,some 7]) rfl (.own (.cap rfl (.inl rfl) (.inl rfl) .nil)) (by rfl) (yG rfl (aC (pv 12)))) (by decide) (by decide) (is:=[0]) (fun cl C c b fp=>⟨_,(bR (i:=0) (show (["_law_after","_law_place"]:List Str).Nodup by decide +kernel) rfl (Or.inl rfl)),(bS 0),Fl.jH,(lI rfl rfl (lH a.units (pv 1) (bI (pv 0)) (fun _ _=>rfl)))⟩)))) aQ))) aQ))))
   (Fl.aM (iH rfl (L2.eN (iP BL BP BQ eH (pv 11) (aJ (aW (aX rfl) aK (aC (pv 3)) (aA (aV cG bO (aC (pv 9)) (aC (pv 4))))) aQ))))))))))
   (aH1 (aJ (pv 10) (aJ (pv 11) aQ))))))))))))))
end
section
variable{P:Program}{w:World}{K:Frag}{mg:Str->Option V9}{base:Heap}{TH:Hp}
def mQ:FnScope ["_law_one","_law_two","_law_refused_here"] ["_law_one","_law_two"] (aL (top 27)):=by constructor<;>first|rfl|decide +kernel
def uD(T:Txt w K mg)(D:DefAt K mg "_law_refused" (top 27) ["_law_one","_law_two"])(b:bD P w K mg base TH 16 "held" ["one","other"] gR){Wp_NotLike Cp_NotLike:Az}(a:ErrP K mg "NotLike" Wp_NotLike Cp_NotLike):bD P w K mg base TH 17 "_law_refused" ["_law_one","_law_two"] dJ:=
 @eK P w K mg base TH "_law_refused" (top 27) ["_law_one","_law_two","_law_refused_here"] ["_law_one","_law_two"] 16 iM D mQ (fun f e A outer s H F E d=>by
  have nd:=mQ.nd
  exact (Fl.aF (Fl.aI (L2.aI (i:=2) nd rfl (Or.inl rfl) (aS dM)))
   (Fl.aF (aG7 rfl rfl ⟨rfl,rfl⟩ rfl a.m a.c.any (wW a) (fun pn σ g=>aNO b (d.mono (by decide)) rfl (aE (aN (pv 0)) (aE (aN (pv 1)) bH))) (fun e1=>(Fl.aM (Fl.aI (L2.aI (i:=2) nd rfl (Or.inl rfl) (aS dM))))))
   (Fl.aM (Fl.bL (aN (pv 2)))))))
def oW:FnScope ["_law_one","_law_two","_law_due","_law_found"] ["_law_one","_law_two","_law_due"] (aL (top 28)):=by constructor<;>first|rfl|decide +kernel
def wZ(T:Txt w K mg)(D:DefAt K mg "_law_right" (top 28) ["_law_one","_law_two","_law_due"])(c:bD P w K mg base TH 16 "held" ["one","other"] gR)(b:bD P w K mg base TH 1 "_law_pairs_right" ["_law_one","_law_two","_law_pairs"] dC)(a:bD P w K mg base TH 2 "shows_alike" ["one","other","pairs"] cS):bD P w K mg base TH 17 "_law_right" ["_law_one","_law_two","_law_due"] dE:=
 @eK P w K mg base TH "_law_right" (top 28) ["_law_one","_law_two","_law_due","_law_found"] ["_law_one","_law_two","_law_due"] 16 gN D oW (fun f e A outer s H F E d=>by
  have nd:=oW.nd
  exact (Fl.aF (Fl.aI (L2.aI (i:=3) nd rfl (Or.inl rfl) (cF rfl rfl rfl (cD c (d.mono (by decide)) rfl (bY fun _ _ _ h=>h) (aE (aN (pv 0)) (aE (aN (pv 1)) bH))))))
   (Fl.aF (Fl.cX (PW.pt (Fl.jS (Fl.fY (Fl.gP (tL (bG (oF rfl (wH _)) rfl T.b_isinstance DP (aJ (aC (pv 3)) (aJ (qD (v:=.ty "tuple") rfl T.b_tuple B8 rfl) aQ)))))) (Fl.jS (Fl.cE (iF rfl d.units) fB (aA (cQ rfl (bG bT rfl T.b_len A7 (aJ (aC (pv 3)) aQ)))) (aA aD) (bV _)) (Fl.jR (Fl.cE (iF rfl d.units) fB (aA (aW (aX rfl) aK (aA (cY (cF rfl rfl rfl (cD c (d.mono (by decide)) rfl (bY fun _ _ _ h=>h) (aE (aN (pv 0)) (aE (aN (pv 1)) bH)))))) (aA aD))) (aA (aW (aX rfl) aK (aC (pv 3)) (aA aD))) (bV _)))))) (Fl.aM (Fl.bL (aS dM))) Fl.b9)
   (Fl.aF (Fl.cX (Fl.cE yC rT (aC (pv 2)) (aA nE) (bV _)) (Fl.aF (Fl.cX (PW.pt (Fl.jS (Fl.cE (iF rfl d.units) fB (aA (aW (aX rfl) aK (aC (pv 3)) (aA aD))) (aA eJ) (bV _)) (Fl.jR (Fl.fY (Fl.gP (cY (cF rfl rfl rfl (cD b (d.mono (by decide)) rfl (bY fun _ _ _ h=>h) (aE (aN (pv 0)) (aE (aN (pv 1)) (aE (aS (aW (aX rfl) aK (aC (pv 3)) (aA aD))) bH))))))))))) (Fl.aM (Fl.bL (aS dM))) Fl.b9)
   (Fl.aM (Fl.bL (aS (lX vO pV (aA (cY (cF rfl rfl rfl (cD a (d.mono (by decide)) rfl (bY fun _ _ _ h=>h) (aE (aN (pv 0)) (aE (aN (pv 1)) (aE (aS (aW (aX rfl) aK (aC (pv 3)) (aA aD))) bH))))))) (aA dM) (bV _)))))) Fl.b9)
   (Fl.aM (Fl.bL (aS (nF (lX (iY rfl d.units) fP (aC (pv 3)) (aA (dH (aO eJ (aO (bI (pv 2)) bE)))) (bV _)) (pC (lX vO pV (aA (cY (cF rfl rfl rfl (cD a (d.mono (by decide)) rfl (bY fun _ _ _ h=>h) (aE (aN (pv 0)) (aE (aN (pv 1)) (aE (aS (fJ (dR (aO (dH (aO aD (aO aD bE))) bE)))) bH))))))) (aA dM) (bV _)))))))))))
def aFY:FnScope ["_law_script","_law_cell_here","_law_kind","_law_signs","_law_rooms","_law_one","_law_two","_law_made","_law_at","_law_due","_law_first"] ["_law_script"] (aL (top 29)):=by constructor<;>first|rfl|decide +kernel
def aOT(T:Txt w K mg){n:Az}{m:FuncData}(o:Fun K "law" "law" (top 29) n m)(a:bD P w K mg base TH 1 "_law_cell" ["_law_script","_law_k"] cP)(b:bD P w K mg base TH 2 "_law_oneway" ["_law_script","_law_at","_law_rooms","_law_signs","_law_words"] dD)(l:bD P w K mg base TH 2 "shows_alike" ["one","other","pairs"] cS)(c:bD P w K mg base TH 17 "_law_refused" ["_law_one","_law_two"] dJ)(j:zN P w K mg base TH 1 "_law_remade" ["_law_machine","_law_cell_here"] dS)(g:bD P w K mg base TH 2 "_law_parting" ["_law_one","_law_two","_law_pair"] eZ)(k:bD P w K mg base TH 1 "_law_strips" ["_law_signs","_law_longest"] gT)(e:bD P w K mg base TH 1 "_law_word" ["_law_machine","_law_strip"] c8)(d:bD P w K mg base TH 17 "_law_right" ["_law_one","_law_two","_law_due"] dE):FnOk P w K mg base (CXe P w) 18 n m ["_law_script"] (spF (gOf P w K mg base TH) K mg 1 xF):=
 @aNF P w K mg base TH "law" (top 29) ["_law_script","_law_cell_here","_law_kind","_law_signs","_law_rooms","_law_one","_law_two","_law_made","_law_at","_law_due","_law_first"] ["_law_script"] 17 n m aC7 o aFY (fun p A outer s H F E f=>by
  have nd:=aFY.nd
  exact (Fl.aF (Fl.aI (L2.aI (i:=1) nd rfl (Or.inl rfl) (cF rfl rfl rfl (cD a (f.mono (by decide)) rfl (bY fun _ _ _ h=>h) (aE (aN (pv 0)) (aE (aS aD) bH))))))
   (Fl.aF (Fl.aI (L2.aI (i:=2) nd rfl (Or.inl rfl) (aS (aV cG bO (aC (pv 1)) (aA aD)))))
   (Fl.aF (Fl.aI (L2.aI (i:=3) nd rfl (Or.inl rfl) (aS (aV (cR rfl) bX (aA aD) (aA (aV cG bO (aA (aV gW eW (aC (pv 1)) (aA aD))) (aA aD)))))))
   (Fl.aF (Fl.aI (L2.aI (i:=4) nd rfl (Or.inl rfl) (aS (aEU (G:=yM) (bG (aDJ rfl) rfl T.b_max PyProof.Rows.boot_max (aJ (aA aD) (aJ (aA (aEU (G:=yN) (bG (aDK rfl) rfl T.b_min PyProof.Rows.boot_min (aJ (aA aD) (aJ (aA (aV gW eW (aA (aV aJ6 aEK (aA (cQ rfl (bG bT rfl T.b_len A7 (aJ (aC (pv 0)) aQ)))) (aA aD))) (aA aD))) aQ))))) aQ)))))))
   (Fl.aF (Fl.cX (Fl.cE (iY rfl f.units) fP (aC (pv 2)) (aA aD) (bV _)) (Fl.aM (Fl.aI (L2.aI (i:=4) nd rfl (Or.inl rfl) (aS (aV (cR rfl) bX (aA aD) (aA (aV cG bO (aA (cY (cF rfl rfl rfl (cD a (f.mono (by decide)) rfl (bY fun _ _ _ h=>h) (aE (aN (pv 0)) (aE (aS aD) bH)))))) (aA aD)))))))) Fl.b9)
   (Fl.aF (Fl.aI (L2.aI (i:=5) nd rfl (Or.inr rfl) (cF rfl rfl rfl (cD b (f.mono (by decide)) rfl (bY fun _ _ _ h=>h) (aE (aN (pv 0)) (aE (aS aD) (aE (aN (pv 4)) (aE (aN (pv 3)) (aE (aS (aV (cR rfl) bX (aA aD) (aA (aV cG bO (aA (aV gW eW (aC (pv 1)) (aA aD))) (aA aD))))) bH)))))))))
   (Fl.aF (Fl.cX (PW.pt (Fl.mY (Fl.cE (iY rfl f.units) fP (aC (pv 2)) (aA aD) (bV _)) (Fl.lE (Fl.cE (iY rfl f.units) fP (aA (aV cG bO (aA (aV gW eW (aC (pv 1)) (aA aD))) (aA aD))) (aA aD) (bV _))))) (Fl.aF (Fl.aI (L2.aI (i:=6) nd rfl (Or.inr rfl) (cF rfl rfl rfl (cD b (f.mono (by decide)) rfl (bY fun _ _ _ h=>h) (aE (aN (pv 0)) (aE (aS aD) (aE (aN (pv 4)) (aE (aS (aV (cR rfl) bX (aA aD) (aA (aV cG bO (aC (pv 3)) (aA aD))))) (aE (aS aD) bH)))))))))
   (Fl.aM (Fl.bL (aS (nF (cY (cF rfl rfl rfl (cD c (f.mono (by decide)) rfl (bY fun _ _ _ h=>h) (aE (aN (pv 5)) (aE (aN (pv 6)) bH))))) (nF (cY (cF rfl rfl rfl (cD c (f.mono (by decide)) rfl (bY fun _ _ _ h=>h) (aE (aN (pv 6)) (aE (aN (pv 5)) bH))))) (pC (lX vO pV (aA (cY (cF rfl rfl rfl (cD l (f.mono (by decide)) rfl (bY fun _ _ _ h=>h) (aE (aN (pv 5)) (aE (aN (pv 6)) (aE (aS (fJ (dR (aO (dH (aO aD (aO aD bE))) bE)))) bH))))))) (aA dM) (bV _))))))))) Fl.b9)
   (Fl.aF (Fl.aI (L2.aI (i:=6) nd rfl (Or.inr rfl) (cF rfl rfl rfl (cD b (f.mono (by decide)) rfl (bY fun _ _ _ h=>h) (aE (aN (pv 0)) (aE (aS (aV (cR rfl) bX (aA aD) (aC (pv 4)))) (aE (aS (aV (cR rfl) bX (aA aD) (aA (aV cG bO (aA (cY (cF rfl rfl rfl (cD a (f.mono (by decide)) rfl (bY fun _ _ _ h=>h) (aE (aN (pv 0)) (aE (aS aD) bH)))))) (aC (pv 4)))))) (aE (aN (pv 3)) (aE (aS (aV (cR rfl) bX (aA aD) (aA (aV cG bO (aA (aV gW eW (aC (pv 1)) (aA aD))) (aA aD))))) bH)))))))))
   (Fl.aF (Fl.cX (Fl.cE (iY rfl f.units) fP (aC (pv 2)) (aA aD) (bV _)) (aH3 rfl rfl rfl (L2.aI (i:=7) nd rfl (Or.inl rfl) (cD j (f.mono (by decide)) rfl (bY fun _ _ _ h=>h) (aE (aN (pv 5)) (aE (aS (aV cG bO (aA (cY (cF rfl rfl rfl (cD a (f.mono (by decide)) rfl (bY fun _ _ _ h=>h) (aE (aN (pv 0)) (aE (aS aD) bH)))))) (aA aD))) bH)))) (Fl.cE (iY rfl f.units) fP (aA (aV cG bO (aA (aV gW eW (aC (pv 1)) (aA aD))) (aA aD))) (aA aD) (bV _))
   (L2.aI (i:=8) nd rfl (Or.inl rfl) (aBW cG (aA (cY (cF rfl rfl rfl (cD a (f.mono (by decide)) rfl (bY fun _ _ _ h=>h) (aE (aN (pv 0)) (aE (aS aD) bH)))))) (bG xM rfl T.b_len A7 (aJ (aB2 aDR (pv 7) xH (fun _ _=>rfl)) aQ))))
   (lP (aW (aX rfl) aK (aA (fJ (dR (aO eJ (aO eJ (aO eJ bE)))))) (aA (aV cG bO (aA (cY (cF rfl rfl rfl (cD a (f.mono (by decide)) rfl (bY fun _ _ _ h=>h) (aE (aN (pv 0)) (aE (aS aD) bH)))))) (aA aD)))) (oY (aB2 aDR (pv 7) xH (fun _ _=>rfl)) (pv 8) aGI)) aRM ix9
   (Fl.aM (Fl.aI (L2.aI (i:=6) nd rfl (Or.inr rfl) (aS (dH (aO (i9 rfl (eU eQ rfl T.b_tuple B8 (aJ (aA (aW (aX rfl) aK (aC (pv 7)) (aA aD))) aQ))) (aO (i9 rfl (eU eQ rfl T.b_tuple B8 (aJ (aA (aW (aX rfl) aK (aC (pv 7)) (aA aD))) aQ))) bE)))))))) Fl.b9)
   (Fl.aF (Fl.aI (L2.aI (i:=9) nd rfl (Or.inl rfl) (cF rfl rfl rfl (cD g (f.mono (by decide)) rfl (bY fun _ _ _ h=>h) (aE (aN (pv 5)) (aE (aN (pv 6)) (aE (aS (dH (aO aD (aO aD bE)))) bH)))))))
   (Fl.aF (Fl.cX (Fl.cE (iY rfl f.units) fP (aC (pv 2)) (aA aD) (bV _)) (Fl.aF (aAS (L2.sV (i:=10) nd rfl (Or.inl rfl) (by rfl) (N:=["_law_strip","_law_one","_law_two"]) (js:=[none,some 5,some 6]) rfl (.own (.cap rfl (.inl rfl) (.inl rfl) (.cap rfl (.inl rfl) (.inl rfl) .nil))) (by rfl) (yG rfl (aA (cY (cF rfl rfl rfl (cD k (f.mono (by decide)) rfl (bY fun _ _ _ h=>h) (aE (aN (pv 3)) (aE (aS aD) bH)))))))) (by decide) (by decide) (is:=[0]) (fun cl C r q fp=>⟨_,(bR (i:=0) (show (["_law_strip","_law_one","_law_two"]:List Str).Nodup by decide +kernel) rfl (Or.inl rfl)),(bS 0),(aJO (Fl.cE (iF rfl f.units) fB (aA (cY (cF rfl rfl rfl (cD e (f.mono (by decide)) rfl aIM (aE (aN (pv 1)) (aE (aN (pv 0)) bH)))))) (aA (cY (cF rfl rfl rfl (cD e (f.mono (by decide)) rfl aIM (aE (aN (pv 2)) (aE (aN (pv 0)) bH)))))) (bV _))),(bI (pv 0))⟩))
   (Fl.aM (Fl.cX (Fl.cE (iF rfl f.units) fB (aA (aW (aX rfl) aK (aA (fJ (yO rfl (aC (pv 10)) (aA (fJ (dR (aO nE bE))))))) (aA aD))) (aC (pv 9)) (bV _)) (Fl.aM (Fl.bL (aS dM))) Fl.b9))) Fl.b9)
   (Fl.aM (Fl.bL (aS (nF (cY (cF rfl rfl rfl (cD d (f.mono (by decide)) rfl (bY fun _ _ _ h=>h) (aE (aN (pv 5)) (aE (aN (pv 6)) (aE (aN (pv 9)) bH)))))) (pC (cY (cF rfl rfl rfl (cD d (f.mono (by decide)) rfl (bY fun _ _ _ h=>h) (aE (aN (pv 6)) (aE (aN (pv 5)) (aE (aN (pv 9)) bH)))))))))))))))))))))))
end
def aH8{fs:D9->Sg->Option Sg}{fb:Sg->R Fw}{x:D9}{xs:List D9}{ρ b:Sg}{a:A}(h1:fs x ρ=some b)(h2:fb b=.ok (.rt a)):fH fs fb (x::xs) ρ=.ok (.rt a):=by
 unfold fH
 rw[h1,show rU (some b)=R.ok b from rfl,R.bind_ok,h2,R.bind_ok]
def aH9{fs:D9->Sg->Option Sg}{fb:Sg->R Fw}{x:D9}{xs:List D9}{ρ a b:Sg}(h1:fs x ρ=some a)(h2:fb a=.ok (.nx b)):fH fs fb (x::xs) ρ=fH fs fb xs b:=by
 conv=>lhs;unfold fH
 rw[h1,show rU (some a)=R.ok a from rfl,R.bind_ok,h2,R.bind_ok]
theorem wU{fs:D9->Sg->Option Sg}{fb:Sg->R Fw}{good:D9->Bool}{J:Sg->Prop}{a:A}:∀ (xs:List D9),(∀ x∈xs,∀ ρ,J ρ->∃ ρ1,fs x ρ=some ρ1/\((good x=true/\∃ ρ2,fb ρ1=.ok (.nx ρ2)/\J ρ2)\/(good x=false/\fb ρ1=.ok (.rt a))))->∀ ρ,J ρ->
  (xs.all good=true/\∃ ρ',fH fs fb xs ρ=.ok (.nx ρ')/\J ρ')\/(xs.all good=false/\fH fs fb xs ρ=.ok (.rt a))
 | [],_,ρ,j=>.inl ⟨rfl,ρ,rfl,j⟩
 | x::t,h,ρ,j=>by
  obtain ⟨ρ1,h1,⟨g,ρ2,h2,j2⟩|⟨g,h2⟩⟩:=h x AQ ρ j
  .rw[aH9 h1 h2,G4,g,GY]
   exact wU t (fun y b=>h y (AI _ b)) ρ2 j2
  .rw[aH8 h1 h2,G4,g]
   exact .inr ⟨rfl,rfl⟩
def prI(p:Int×Int):D9:=.tuple [.int p.1,.int p.2]
def zV(p:Int×Int):SeqAt.shaped (prI p)=true:=Sh.shaped (n:=1) (xT fun x hx=>by
 rcases AS.mp hx with rfl|hx
 · exact sY _ _
 · rw [AL.mp hx]; exact sY _ _) (by decide)
def aOU(ps:List (Int×Int)):Cp (.list (ps.map prI)):=by
 refine ⟨aBO fun x hx=>?_,Sh.shaped (n:=2) (sh_lst fun x hx=>?_) (by decide)⟩
 .obtain ⟨p,_,rfl⟩:=A3.mp hx;rfl
 .obtain ⟨p,_,rfl⟩:=A3.mp hx
  exact xT fun x hx=>by
   rcases AS.mp hx with rfl|hx
   · exact sY _ _
   · rw [AL.mp hx]; exact sY _ _
def aOV(p:Int×Int)(ps:List (Int×Int)):inD (prI p) (.list (ps.map prI))=some (decide (prI p∈ps.map prI)):=by
 show (if SeqAt.shaped (prI p)=true/\SeqAt.shaped (.list (ps.map prI))=true then some ((ps.map prI).any fun z=>PyData.eqv z (prI p)) else none)=_
 rw[if_pos ⟨zV p,(aOU ps).sh⟩]
 congr 1
 rw[EI,HL,CW]
 constructor
 .rintro ⟨x,hx,e⟩
  obtain ⟨q,_,rfl⟩:=A3.mp hx
  rw[aFM rfl rfl (zV _),CW] at e
  rw[<-e];exact hx
 .intro hx
  exact ⟨_,hx,by rw[aFM rfl rfl (zV _)];exact AV rfl⟩
def aIA(p:Int×Int)(ps:List (Int×Int)):dNin (prI p) (.list (ps.map prI))=.ok (.bool (!decide (prI p∈ps.map prI))):=by
 unfold dNin;rw[aOV]
def aFZ(bs:List Bool):dIn (.bool false) (.list (bs.map .bool))=.ok (.bool (!bs.all id)):=by
 have a:SeqAt.shaped (.list (bs.map .bool))=true:=Sh.shaped (n:=1) (sh_lst fun x hx=>by
  obtain ⟨b,_,rfl⟩:=A3.mp hx;exact ⟨rfl,CU _⟩) (by decide)
 have:inD (.bool false) (.list (bs.map .bool))=some (!bs.all id):=by
  show (if SeqAt.shaped (.bool false)=true/\SeqAt.shaped (.list (bs.map .bool))=true then some ((bs.map PyData.bool).any fun z=>PyData.eqv z (.bool false)) else none)=_
  rw[if_pos ⟨by rfl,a⟩]
  congr 1
  rw[List.any_map]
  clear a
  induction bs with
  | nil=>rfl
  | cons b t ih=>
   rw[List.any_cons,G4,ih,Bool.not_and]
   cases b<;>rfl
 unfold dIn;rw[this]
def aF0(bs:List Bool):oD (bs.map .bool)=some bs:=by
 induction bs with
 | nil=>rfl
 | cons b t ih=>rw[AX,oD,ih];rfl
def aIB(bs:List Bool):dAll (.list (bs.map .bool))=.ok (.bool (bs.all id)):=by
 unfold dAll;simp only;rw[aF0]
def p9(a:List (D9×D9))(k v:D9):(∀ x,x∈(putM a k v).map (·.1)↔x∈a.map (·.1)\/x=k)/\(putM a k v).length<=a.length+1:=by
 unfold putM
 split
 .rename_i h
  have c:=jB.mp h
  have b:(a.map fun p=>if p.1=k then (p.1,v) else p).map (·.1)=a.map (·.1):=by
   rw[CT]
   refine DE fun p _=>?_
   show (if p.1=k then (p.1,v) else p).1=p.1
   split<;>rfl
  refine ⟨fun x=>?_,by rw[AC];omega⟩
  rw[b]
  exact ⟨.inl,fun q=>q.elim id fun e=>e▸c⟩
 .refine ⟨fun x=>?_,by rw[BD];exact AJ _⟩
  rw[A8,A4]
  exact ⟨fun q=>q.imp id fun e=>AL.mp e,fun q=>q.imp id fun e=>AL.mpr e⟩
def aLY(ps:List (Int×Int)):∀ (acc:List (D9×D9)),(∀ x∈acc.map (·.1),gI x=true)->acc.length+ps.length<=100000->
  ∃ kvs,Fl.dA acc (ps.map fun p=>(prI p,PyData.bool true))=.ok kvs/\kvs.length<=acc.length+ps.length/\∀ x,x∈kvs.map (·.1)↔x∈acc.map (·.1)\/x∈ps.map prI:=by
 induction ps with
 | nil=>intro acc _ _;exact ⟨acc,rfl,AJ _,fun x=>⟨.inl,fun q=>q.elim id fun h=>by cases h⟩⟩
 | cons p t ih=>
  intro acc a c
  rw[BI] at c
  obtain ⟨k1,k2⟩:=p9 acc (prI p) (.bool true)
  obtain ⟨kvs,e1,e2,e3⟩:=ih (putM acc (prI p) (.bool true)) (fun x hx=>by
   rcases (k1 x).mp hx with q|q
   .exact a x q
   .rw[q];rfl) (by omega)
  refine ⟨kvs,?_,by rw[BI];omega,fun x=>?_⟩
  .have b:bJ (prI p) (acc.map (·.1))=true:=by
    unfold bJ
    rw[CH,AM]
    exact .inl ⟨rfl,A1.mpr a⟩
   rw[AX,Fl.dA,if_pos ⟨b,by omega⟩]
   exact e1
  .rw[e3,k1,AX,AS]
   exact ⟨fun q=>q.elim (fun q=>q.elim .inl fun e=>.inr (.inl e)) fun e=>.inr (.inr e),fun q=>q.elim (fun e=>.inl (.inl e)) fun q=>q.elim (fun e=>.inl (.inr e)) .inr⟩
def aIC(ps:List (Int×Int)):Fl.kF (ps.map fun p=>PyData.tuple [prI p,.bool true])=some (ps.map fun p=>(prI p,PyData.bool true)):=by
 induction ps with
 | nil=>rfl
 | cons p t ih=>rw[AX,Fl.kF,ih];rfl
@[simp] theorem aQG(i:Nat)(f:Sg->R (List D9))(ρ:Sg):zQ i f ρ=(f ρ).bind fun ds=>match Fl.kF ds with|some kvs=>(Fl.dA [] kvs).bind fun res=>.ok (.nx (ρ.set i (some (.m res))))|none=>.bad:=id rfl
@[simp] theorem aRO(f:Sg->R A)(ρ:Sg):aP8 f ρ=(f ρ).bind fun a=>match a with | .f kvs=>if kvs.length<=16777216 then .ok (kvs.map (·.1)) else .bad|_=>.bad:=id rfl
@[simp] theorem aQH(i:Nat)(f:Sg->R D9)(ρ:Sg):aOS i f ρ=match ρ[i]? with|some (some (.l xs))=>(f ρ).bind fun x=>(match x with | .int k=>if 0<=k/\k < xs.length/\k < 2 ^ 63 then .ok (.nx (ρ.set i (some (.l (xs.eraseIdx k.toNat))))) else .bad|_=>.bad)|_=>.bad:=id rfl
@[simp] theorem aSB(i:Nat)(f g:Sg->R D9)(ρ:Sg):aRN i f g ρ=match ρ[i]? with|some (some (.l xs))=>(f ρ).bind fun x=>(g ρ).bind fun y=>(match x with | .int k=>if 0<=k/\k < 2 ^ 63/\xs.length < 16777216 then .ok (.nx (ρ.set i (some (.l (xs.take (min k.toNat xs.length)++y::xs.drop (min k.toNat xs.length)))))) else .bad|_=>.bad)|_=>.bad:=id rfl
section
variable{r1 r2:List (List Nat)}{w1 w2:List Str}{sg:Nat}
def inR(r1 r2:List (List Nat))(a b:Int):Bool:=decide (0<=a/\a < r1.length) && decide (0<=b/\b < r2.length)
def okP(r1 r2:List (List Nat))(w1 w2:List Str)(P:List D9):D9->Bool
 | .tuple [.int a,.int b]=>inR r1 r2 a b && (!wnP w1 w2 (prN a.toNat b.toNat) && (afP r1 r2 (prN a.toNat b.toNat)).all fun x=>decide (x∈P))
 | _=>false
def dCh(x:Int)(n:Nat)(ρ:Sg)(f g h:Sg->R D9)(e1:f ρ=.ok (.int 0))(e2:g ρ=.ok (.int x))(e3:h ρ=.ok (.int (n:Int))):eCh dLe dLt f g h ρ=.ok (.bool (decide (0<=x/\x < n))):=by
 unfold eCh
 by_cases h1:0<=x
 · simp [e1, e2, e3, h1]
 · simp [e1, e2, e3, h1]
def aP9(M1:Rdw r1 w1 sg)(M2:Rdw r2 w2 sg)(p:Int×Int):iZ [.d (rdW r1 w1),.d (rdW r2 w2),.d (prI p)]=.ok (.d (.bool (inR r1 r2 p.1 p.2))):=by
 have b:dIx (rdW r1 w1) (.int 0)=.ok (.tuple (r1.map bF)):=rfl
 have j:dIx (rdW r2 w2) (.int 0)=.ok (.tuple (r2.map bF)):=rfl
 have g:dIx (prI p) (.int 0)=.ok (.int p.1):=rfl
 have f:dIx (prI p) (.int 1)=.ok (.int p.2):=rfl
 have e:dLen (.tuple (r1.map bF))=.ok (.int (r1.length:Int)):=by rw[l9,AC]
 have i:dLen (.tuple (r2.map bF))=.ok (.int (r2.length:Int)):=by rw[l9,AC]
 unfold iZ mV
 have a:=dCh p.1 r1.length [some (.d (rdW r1 w1)),some (.d (rdW r2 w2)),some (.d (prI p))] (eC (.int 0)) (e2 dIx (rV 2) (eC (.int 0))) (e1 dLen (e2 dIx (rV 0) (eC (.int 0)))) rfl (by simp[g]) (by simp[b,e])
 have c:=dCh p.2 r2.length [some (.d (rdW r1 w1)),some (.d (rdW r2 w2)),some (.d (prI p))] (eC (.int 0)) (e2 dIx (rV 2) (eC (.int 1))) (e1 dLen (e2 dIx (rV 1) (eC (.int 0)))) rfl (by simp[f]) (by simp[j,i])
 unfold inR
 by_cases h:0<=p.1/\p.1 < r1.length
 · simp [-y4, a, c, h]
 · simp [-y4, a, h]
def saρ(r1 r2:List (List Nat))(w1 w2:List Str)(P:D9)(kvs:List (D9×D9))(u:Option A):Sg:=[some (.d (rdW r1 w1)),some (.d (rdW r2 w2)),some (.d P),some (.f kvs),u]
def aLZ{a b:Int}(h:inR r1 r2 a b=true):∃ c d:Nat,a=c/\b=d/\c < r1.length/\d < r2.length:=by
 unfold inR at h
 rw[AM,CW,CW] at h
 exact ⟨a.toNat,b.toNat,by omega,by omega,by omega,by omega⟩
def aOW(M1:Rdw r1 w1 sg)(M2:Rdw r2 w2 sg){P:D9}{e:List (D9×D9)}(p:Int×Int)(t:∀ x∈e.map (·.1),gI x=true) :
  saB (saρ r1 r2 w1 w2 P e (some (.d (prI p))))=if okP r1 r2 w1 w2 (e.map (·.1)) (prI p)=true then .ok (.nx (saρ r1 r2 w1 w2 P e (some (.d (prI p))))) else .ok (.rt (.d (.bool false))):=by
 have j:=aP9 M1 M2 p
 obtain ⟨a,b⟩:=p
 have hok:okP r1 r2 w1 w2 (e.map (·.1)) (prI (a,b))=(inR r1 r2 a b && (!wnP w1 w2 (prN a.toNat b.toNat) && (afP r1 r2 (prN a.toNat b.toNat)).all fun x=>decide (x∈e.map (·.1)))):=rfl
 rw[hok]
 cases hr:inR r1 r2 a b with
 | false=>
  rw[show inR r1 r2 (a,b).1 (a,b).2=false from hr] at j
  simp[saB,saρ,j]
 | true=>
  rw[show inR r1 r2 (a,b).1 (a,b).2=true from hr] at j
  obtain ⟨c,d,rfl,rfl,l,n⟩:=aLZ hr
  have k:=aI5 M1 M2 l n
  have y:prI ((c:Int),(d:Int))=prN c d:=rfl
  rw[y] at j ⊢
  rw[CS,CS]
  cases hw:wnP w1 w2 (prN c d) with
  | true=>
   rw[hw] at k
   simp[saB,saρ,j,k]
  | false=>
   rw[hw] at k
   have s:=aI4 M1 M2 l n
   have w:∀ x∈afP r1 r2 (prN c d),∃ q:Int×Int,x=prI q:=fun x hx=>by
    rw[i6] at hx
    obtain ⟨q,_,rfl⟩:=A3.mp hx
    exact ⟨(q.1,q.2),rfl⟩
   have u:(afP r1 r2 (prN c d)).length<=3:=by
    have:=M1.r.s3
    rw[i6,AC,DM,(M1.r.at l).2.1];omega
   have i:=kC (fs:=stN 0) (fe:=j9 false 1 (eV 0)) (ρ0:=[none,some (.f e)]) (d:=fun x:D9=>x) (g:=fun x:D9=>PyData.bool (decide (x∈e.map (·.1)))) (xs:=afP r1 r2 (prN c d)) fun x hx=>⟨_,rfl,by
    obtain ⟨q,rfl⟩:=w x hx
    have v:bJ (prI q) (e.map (·.1))=true:=by
     unfold bJ
     rw[CH,AM]
     exact .inl ⟨rfl,A1.mpr t⟩
    have o:bP e (prI q)=decide (prI q∈e.map (·.1)):=by
     rw[EI,CW];exact jB
    rw[qR]
    show (R.ok (prI q)).bind _=_
    rw[R.bind_ok]
    show (if bJ (prI q) (e.map (·.1))=true then R.ok (PyData.bool (if false=true then _ else bP e (prI q))) else R.bad)=_
    rw[if_pos v,if_neg A0,o]⟩
   rw[List.map_id'] at i
   have h:=aIB ((afP r1 r2 (prN c d)).map fun x=>decide (x∈e.map (·.1)))
   rw[CT,List.all_map] at h
   have h:dAll (.list ((afP r1 r2 (prN c d)).map fun x=>PyData.bool (decide (x∈e.map (·.1)))))=.ok (.bool ((afP r1 r2 (prN c d)).all fun x=>decide (x∈e.map (·.1)))):=h
   have m:bA (.list (afP r1 r2 (prN c d)))=.ok (afP r1 r2 (prN c d)):=iJ (by omega)
   generalize (afP r1 r2 (prN c d)).all (fun x=>decide (x∈e.map (·.1)))=B at h ⊢
   generalize ((afP r1 r2 (prN c d)).map fun x=>PyData.bool (decide (x∈e.map (·.1))))=L at h i
   cases B<;>simp[-qR,saB,saρ,j,k,s,jA,m,i,h]
def aL0{M:Rdw r1 w1 sg}{q:Nat}(a:q < r1.length):dLen (bF (r1.getD q []))=.ok (.int (sg:Int)):=by
 unfold bF
 rw[l9,AC,(M.r.at a).2.1]
def mR(M1:Rdw r1 w1 sg):dN [.d (rdW r1 w1)]=.ok (.d (.int (sg:Int))):=by
 have b:dIx (rdW r1 w1) (.int 0)=.ok (.tuple (r1.map bF)):=rfl
 have i1:=gX (ws:=w1.map .str) M1.r (q:=0) M1.r.n1
 have a:=aL0 (M:=M1) (q:=0) M1.r.n1
 have i1:dIx (.tuple (r1.map bF)) (.int 0)=.ok (bF (r1.getD 0 [])):=i1
 unfold dN oK
 simp[-List.getD_eq_getElem?_getD,b,i1,a]
def aI6(M1:Rdw r1 w1 sg)(M2:Rdw r2 w2 sg){ps:List (Int×Int)}(C:ps.length<=1000) :
  cS [.d (rdW r1 w1),.d (rdW r2 w2),.d (.list (ps.map prI))]=.ok (.d (.bool (decide (prI (0,0)∈ps.map prI) && (ps.map prI).all (okP r1 r2 w1 w2 (ps.map prI))))):=by
 obtain ⟨b,e1,e2,e3⟩:=aLY ps [] (fun x h=>by cases h) (by simp;omega)
 have e3:∀ x,x∈b.map (·.1)↔x∈ps.map prI:=fun x=>(e3 x).trans ⟨fun q=>q.elim (fun h=>by cases h) id,.inr⟩
 have e2:b.length<=1000:=by simp at e2;omega
 have z:∀ x∈b.map (·.1),gI x=true:=fun x hx=>by
  obtain ⟨p,_,rfl⟩:=A3.mp ((e3 x).mp hx);rfl
 have v:bJ (prI (0,0)) (b.map (·.1))=true:=by
  unfold bJ
  rw[CH,AM]
  exact .inl ⟨rfl,A1.mpr z⟩
 have o:bP b (prI (0,0))=decide (prI (0,0)∈ps.map prI):=by
  rw[EI,CW,jB,e3]
 have n:∀ x,okP r1 r2 w1 w2 (b.map (·.1)) x=okP r1 r2 w1 w2 (ps.map prI) x:=fun x=>by
  have:(fun y=>decide (y∈b.map (·.1)))=fun y=>decide (y∈ps.map prI):=funext fun y=>by rw[EI,CW,CW,e3]
  unfold okP
  rw[this]
 have r:(b.map (·.1)).all (okP r1 r2 w1 w2 (b.map (·.1)))=(ps.map prI).all (okP r1 r2 w1 w2 (ps.map prI)):=by
  rw[EI,A1,A1]
  exact ⟨fun h x hx=>by rw[<-n];exact h x ((e3 x).mpr hx),fun h x hx=>by rw[n];exact h x ((e3 x).mp hx)⟩
 have m:dN [.d (rdW r1 w1)]=.ok (.d (.int (sg:Int))):=mR M1
 have i:dN [.d (rdW r2 w2)]=.ok (.d (.int (sg:Int))):=mR M2
 have k:dNe (.int (sg:Int)) (.int (sg:Int))=.ok (.bool false):=mD (dO _)
 have l:bA (.list (ps.map prI))=.ok (ps.map prI):=iJ (by rw[AC];omega)
 have t:=kC (fs:=stN 0) (fe:=dZ (aB (eV 0) (aB (eC (.bool true)) aR))) (ρ0:=[none]) (d:=prI) (g:=fun p=>PyData.tuple [prI p,.bool true]) (xs:=ps) fun p _=>⟨_,rfl,by simp⟩
 have f:=aIC ps
 generalize D:(ps.map fun p=>PyData.tuple [prI p,.bool true])=B at t f
 have c:=wU (fs:=stN 4) (fb:=saB) (good:=okP r1 r2 w1 w2 (b.map (·.1))) (J:=fun ρ=>∃ u,ρ=saρ r1 r2 w1 w2 (.list (ps.map prI)) b u) (a:=.d (.bool false)) (b.map (·.1)) (fun x hx ρ w=>by
  obtain ⟨u,e⟩:=w
  subst e
  obtain ⟨p,_,rfl⟩:=A3.mp ((e3 x).mp hx)
  refine ⟨saρ r1 r2 w1 w2 (.list (ps.map prI)) b (some (.d (prI p))),rfl,?_⟩
  have:=aOW M1 M2 (P:=.list (ps.map prI)) p z
  cases hok:okP r1 r2 w1 w2 (b.map (·.1)) (prI p) with
  | true=>rw[hok,if_pos rfl] at this;exact .inl ⟨rfl,_,this,_,rfl⟩
  | false=>rw[hok,if_neg A0] at this;exact .inr ⟨rfl,this⟩) (saρ r1 r2 w1 w2 (.list (ps.map prI)) b none) ⟨none,rfl⟩
 rw[r] at c
 have j:PyData.tuple [.int 0,.int 0]=prI (0,0):=rfl
 unfold cS
 rw[i7]
 cases hz:decide (prI (0,0)∈ps.map prI) with
 | false=>
  rw[hz] at o
  simp[m,i,k,l,jA,t,f,e1,j,v,o]
 | true=>
  rw[hz] at o
  rcases c with ⟨q,A,s,u,rfl⟩|⟨q,s⟩
  .rw[q]
   unfold saρ at s
   simp[m,i,k,l,jA,t,f,e1,j,v,o,fzM,e2,A6 e2 (show 1000<=16777216 by decide),s]
  .rw[q]
   unfold saρ at s
   simp[m,i,k,l,jA,t,f,e1,j,v,o,fzM,e2,A6 e2 (show 1000<=16777216 by decide),s]
end
section
variable{r1 r2:List (List Nat)}{w1 w2:List Str}{sg:Nat}
def Pd(r1 r2:List (List Nat))(w1 w2:List Str)(a b:Nat)(z:List Nat):Prop:=w1.getD (bN r1 a z) ""≠w2.getD (bN r2 b z) ""
def prt_cases(M1:Rdw r1 w1 sg)(M2:Rdw r2 w2 sg){a b:Nat}(G:a < r1.length)(B:b < r2.length) :
  (eE r1 r2 w1 w2 a b=none/\∀ z,Sgs sg z->¬ Pd r1 r2 w1 w2 a b z)\/∃ z,eE r1 r2 w1 w2 a b=some z/\Sgs sg z/\Pd r1 r2 w1 w2 a b z/\∀ y,Sgs sg y->Pd r1 r2 w1 w2 a b y->z=y\/sl z y:=by
 have v:=jP M1.r M2.r G B (r1.length * r2.length)
 have e:∀ x∈bfQ (afP r1 r2) (prN a b) (r1.length * r2.length),(afP r1 r2 x).length=sg:=fun x hx=>by
  obtain ⟨c,d,L,J,rfl⟩:=gY M1.r M2.r G B hx
  rw[i6,AC,DM,(M1.r.at L).2.1,(M2.r.at J).2.1];omega
 have f:=aLK (after:=afP r1 r2) (x0:=prN a b) v e
 have g:∀ z,Sgs sg z->(wnP w1 w2 (fE (afP r1 r2) (prN a b) z)=true↔Pd r1 r2 w1 w2 a b z):=fun z hz=>by
  rw[zM M1.r M2.r z hz G B,t9,CW];rfl
 obtain ⟨h,_⟩:=t8 (after:=afP r1 r2) (x0:=prN a b) (r1.length * r2.length)
 have h:((fR r1 r2 a b).map (·.2)).Pairwise sl:=h
 unfold eE
 cases hf:(fR r1 r2 a b).find? fun p=>wnP w1 w2 p.1 with
 | none=>
  have C:=EJ.mp hf
  refine .inl ⟨rfl,fun z hz M=>?_⟩
  obtain ⟨N,m,_⟩:=f z hz
  exact C _ m ((g z hz).mpr M)
 | some p=>
  obtain ⟨x,z⟩:=p
  obtain ⟨hw,i,hi,hx,I⟩:=EL.mp hf
  have o:(x,z)∈fR r1 r2 a b:=FA hf
  have s:Sgs sg z:=aLQ (after:=afP r1 r2) (x0:=prN a b) _ (fun x hx=>Nat.le_of_eq (e x hx)) _ o
  have n:fE (afP r1 r2) (prN a b) z=x:=aLL _ _ o
  have hw:wnP w1 w2 x=true:=hw
  rw[<-n] at hw
  refine .inr ⟨z,rfl,s,(g z s).mp hw,fun y H D=>?_⟩
  obtain ⟨w,m,t⟩:=f y H
  obtain ⟨j,l⟩:=BR m
  have l:(fR r1 r2 a b)[j]? = some (fE (afP r1 r2) (prN a b) y,w):=l
  obtain ⟨K,u⟩:=AG.mp l
  have E:i<=j:=Nat.le_of_not_lt fun A=>by
   have:=I j A
   rw[u] at this
   have this:(!wnP w1 w2 (fE (afP r1 r2) (prN a b) y))=true:=this
   rw[(g y H).mpr D] at this
   cases this
  have F:z=w\/sl z w:=by
   rcases Nat.lt_or_eq_of_le E with q|q
   .right
    have:=B9.mp h i j (by rw[AC];exact hi) (by rw[AC];exact K) q
    rw[EE,EE,hx,u] at this
    exact this
   .left
    subst q
    rw[hx] at u
    cases u;rfl
  rcases F with rfl|q
  .exact t
  .rcases t with rfl|k
   .exact .inr q
   .exact .inr (t7 q k)
def aL1(M1:Rdw r1 w1 sg)(M2:Rdw r2 w2 sg){a b:Nat}(d:a < r1.length)(c:b < r2.length):eE r2 r1 w2 w1 b a=eE r1 r2 w1 w2 a b:=by
 rcases prt_cases M1 M2 d c with ⟨e1,h1⟩|⟨z,e1,s1,g,i⟩
 .rcases prt_cases M2 M1 c d with ⟨e2,h2⟩|⟨y,e2,f,p2,h⟩
  .rw[e1,e2]
  .exact absurd (Ne.symm p2) (h1 y f)
 .rcases prt_cases M2 M1 c d with ⟨e2,h2⟩|⟨y,e2,f,p2,h⟩
  .exact absurd (Ne.symm g) (h2 z s1)
  .rw[e1,e2]
   rcases i y f (Ne.symm p2) with e|q
   .rw[e]
   .rcases h z s1 (Ne.symm g) with e|k
    · rw [e]
    · exact (aC2 (t7 q k)).elim
def uR(r1 r2:List (List Nat)):List (List Nat):=r1++r2.map fun r=>r.map (· + r1.length)
def nS:(uR r1 r2).length=r1.length+r2.length:=by unfold uR;rw[BD,AC]
def aRP{q:Nat}(h:q < r1.length):(uR r1 r2).getD q []=r1.getD q []:=by
 unfold uR
 rw[A5,BM h,A5]
def aRQ{q:Nat}(h:q < r2.length):(uR r1 r2).getD (r1.length+q) []=(r2.getD q []).map (· + r1.length):=by
 unfold uR
 rw[A5,CL (by omega),HQ,AN,A5,AH h];rfl
def aQA(M1:Rdr r1 sg)(M2:Rdr r2 sg)(h:r1.length+r2.length<=1000):Rdr (uR r1 r2) sg:=by
 refine ⟨by rw[nS];have:=M1.n1;omega,by rw[nS];exact h,M1.s1,M1.s3,fun r d=>?_⟩
 rw[nS]
 rcases A4.mp d with q|q
 .exact ⟨(M1.row r q).1,fun j b=>by have:=(M1.row r q).2 j b;omega⟩
 .obtain ⟨c,a,rfl⟩:=A3.mp q
  refine ⟨by rw[AC];exact (M2.row c a).1,fun j b=>?_⟩
  obtain ⟨k,e,rfl⟩:=A3.mp b
  have:=(M2.row c a).2 k e
  omega
theorem aF1(M1:Rdr r1 sg):∀ (z:List Nat) {q:Nat},Sgs sg z->q < r1.length->bN (uR r1 r2) q z=bN r1 q z
 | [],_,_,_=>rfl
 | c::t,q,hs,h=>by
  have hc:=hs c AQ
  have e:stN1 (uR r1 r2) q c=stN1 r1 q c:=by unfold stN1;rw[aRP h]
  show bN (uR r1 r2) (stN1 (uR r1 r2) q c) t=bN r1 (stN1 r1 q c) t
  rw[e]
  exact aF1 M1 t (fun c hc=>hs c (AI _ hc)) (gZ M1 h hc).2
theorem aF2(M2:Rdr r2 sg):∀ (z:List Nat) {q:Nat},Sgs sg z->q < r2.length->bN (uR r1 r2) (r1.length+q) z=r1.length+bN r2 q z
 | [],_,_,_=>rfl
 | c::t,q,hs,h=>by
  have hc:=hs c AQ
  have hx:=(gZ M2 h hc)
  have e:stN1 (uR r1 r2) (r1.length+q) c=r1.length+stN1 r2 q c:=by
   unfold stN1
   rw[aRQ h,A5,AN,hx.1,E9,Option.getD_some]
   show stN1 r2 q c+r1.length=_
   unfold stN1
   rw[ID]
  show bN (uR r1 r2) (stN1 (uR r1 r2) (r1.length+q) c) t=r1.length+bN r2 (stN1 r2 q c) t
  rw[e]
  exact aF2 M2 t (fun c hc=>hs c (AI _ hc)) hx.2
def aOX(M1:Rdw r1 w1 sg)(M2:Rdw r2 w2 sg)(h:r1.length+r2.length<=1000){a b:Nat}(f:a < r1.length)(k:b < r2.length){z:List Nat}(hz:Sgs sg z)(l:Pd r1 r2 w1 w2 a b z) :
  ∃ w,Sgs sg w/\w.length+1<=r1.length+r2.length/\Pd r1 r2 w1 w2 a b w:=by
 have d:=M1.wl
 have e:∀ y,Sgs sg y->(w1++w2).getD (bN (uR r1 r2) a y) ""=w1.getD (bN r1 a y) "":=fun y c=>by
  rw[aF1 M1.r y c f,A5,BM (by rw[d];exact lO M1.r y c f),A5]
 have i:∀ y,Sgs sg y->(w1++w2).getD (bN (uR r1 r2) (r1.length+b) y) ""=w2.getD (bN r2 b y) "":=fun y c=>by
  rw[aF2 M2.r y c k,A5,CL (by omega),d,HQ,A5]
 obtain ⟨w,s1,g,j⟩:=aP6 (ws:=w1++w2) (aQA M1.r M2.r h) (a:=a) (b:=r1.length+b) (by rw[nS];omega) (by rw[nS];omega) hz (by rw[e z hz,i z hz];exact l)
 rw[nS] at g
 rw[e w s1,i w s1] at j
 exact ⟨w,s1,g,j⟩
def aID{L:List (List Nat)}{m:Nat}(M1:Rdw r1 w1 sg)(M2:Rdw r2 w2 sg)(h:r1.length+r2.length<=m+1)(B:m<=900){a b:Nat}(r:a < r1.length)(o:b < r2.length)(u:L.Pairwise sl)(s:∀ z∈L,Sgs sg z)(f:∀ z,Sgs sg z->z.length<=m->z∈L) :
  L.find? (fun z=>decide (w1.getD (bN r1 a z) ""≠w2.getD (bN r2 b z) ""))=eE r1 r2 w1 w2 a b:=by
 rcases prt_cases M1 M2 r o with ⟨e1,h1⟩|⟨z,e1,s1,l,j⟩
 .rw[e1]
  exact EJ.mpr fun z hz q=>h1 z (s z hz) (BA (p:=w1.getD (bN r1 a z) ""≠w2.getD (bN r2 b z) "") q)
 .rw[e1]
  have g:z.length<=m:=by
   obtain ⟨w,x,A,y⟩:=aOX M1 M2 (by omega) r o s1 l
   rcases j w x y with e|q
   .rw[e];omega
   .rcases q with q|q<;>omega
  obtain ⟨k,v⟩:=BR (f z s1 g)
  obtain ⟨c,t⟩:=AG.mp v
  refine EL.mpr ⟨AV (p:=w1.getD (bN r1 a z) ""≠w2.getD (bN r2 b z) "") l,k,c,t,fun n d=>?_⟩
  cases hq:decide (w1.getD (bN r1 a (L[n]'(C4 d c))) ""≠w2.getD (bN r2 b (L[n]'(C4 d c))) "") with
  | false=>rfl
  | true=>
   have i:L[n]'(C4 d c)∈L:=List.getElem_mem _
   have h1:=j _ (s _ i) (BA (p:=w1.getD (bN r1 a (L[n]'(C4 d c))) ""≠w2.getD (bN r2 b (L[n]'(C4 d c))) "") hq)
   have h2:=B9.mp u n k (C4 d c) c d
   rw[t] at h2
   rcases h1 with e|q
   .rw[<-e] at h2
    exact (aC2 h2).elim
   .exact (aC2 (t7 q h2)).elim
end
section
variable{r1 r2:List (List Nat)}{w1 w2:List Str}{sg sg2:Nat}
def alP(r1 r2:List (List Nat)):List D9:=bfQ (afP r1 r2) (prN 0 0) (r1.length * r2.length)
def F_prt9(M1:Rdw r1 w1 sg)(M2:Rdw r2 w2 sg)(hN:r1.length * r2.length<=100000) :
  (eE r1 r2 w1 w2 0 0=none/\(∀ x∈alP r1 r2,wnP w1 w2 x=false)/\jE [.d (rdW r1 w1),.d (rdW r2 w2),.d (prN 0 0)]=.ok (.d (.tuple [.list (alP r1 r2),.none])))\/∃ fs z,eE r1 r2 w1 w2 0 0=some z/\jE [.d (rdW r1 w1),.d (rdW r2 w2),.d (prN 0 0)]=.ok (.d (.tuple [.list fs,stD z])):=by
 have b:=M1.r.n1
 have a:=M2.r.n1
 have b:0 < r1.length:=b
 have a:0 < r2.length:=a
 have m:=jP M1.r M2.r b a (r1.length * r2.length)
 have s3:=M1.r.s3
 have O:FtoC (afP r1 r2) (prN 0 0) (wnP w1 w2) 2 2 (hU 3 eP [.d (rdW r1 w1),.d (rdW r2 w2)]) (hU 3 eB [.d (rdW r1 w1),.d (rdW r2 w2)]) (r1.length * r2.length):={
  cl:=m
  hM:=hN
  key:=.inl fun x hx=>by obtain ⟨c,d,_,_,rfl⟩:=gY M1.r M2.r b a hx;rfl
  hk1:=by decide
  hk2:=by decide
  hG:=fun x hx=>by
   obtain ⟨c,d,k,n,rfl⟩:=gY M1.r M2.r b a hx
   have o:(afP r1 r2 (prN c d)).length<=3:=by
    rw[i6,AC,DM,(M1.r.at k).2.1];omega
   refine ⟨⟨.list (afP r1 r2 (prN c d)),?_,iJ (by omega)⟩,o⟩
   have e:=aI4 M1 M2 k n
   unfold hU eP
   simp[e,dOf]
  hW:=fun x hx=>by
   obtain ⟨c,d,k,n,rfl⟩:=gY M1.r M2.r b a hx
   have e:=aI5 M1 M2 k n
   unfold hU eB
   simp[e,dOf]}
 have f:∀ r fs,eG [.d (prN 0 0),.g 2 1 (hU 3 eP [.d (rdW r1 w1),.d (rdW r2 w2)]),.g 2 1 (hU 3 eB [.d (rdW r1 w1),.d (rdW r2 w2)])]=.ok (.d (.tuple [.list fs,r]))->jE [.d (rdW r1 w1),.d (rdW r2 w2),.d (prN 0 0)]=.ok (.d (.tuple [.list fs,r])):=fun r fs e=>by
  unfold jE sH
  simp[xA,l6,tS,uZ,gA,qN,e,dOf]
 rcases F_ftoC O with ⟨h,e⟩|⟨i,x,z,fs,h1,h2,s,e⟩
 .refine .inl ⟨?_,fun x hx=>?_,f _ _ e⟩
  .unfold eE
   rw[EJ.mpr fun p q=>by rw[h p q];exact A0];rfl
  .unfold alP at hx
   rw[<-dI] at hx
   obtain ⟨p,q,rfl⟩:=A3.mp hx
   exact h p q
 .refine .inr ⟨fs,z,?_,f _ _ e⟩
  have:(fR r1 r2 0 0).find? (fun p=>wnP w1 w2 p.1)=some (x,z):=by
   obtain ⟨hi,hx⟩:=AG.mp h1
   refine EL.mpr ⟨h2,i,hi,hx,fun j l=>?_⟩
   have this:wnP w1 w2 ((bfP (afP r1 r2) (prN 0 0) (r1.length * r2.length))[j]'(C4 l hi)).1=false:=s j _ _ l (AH (C4 l hi))
   show (!wnP w1 w2 ((bfP (afP r1 r2) (prN 0 0) (r1.length * r2.length))[j]'(C4 l hi)).1)=true
   rw[this];rfl
  unfold eE
  rw[this];rfl
def F_held9(M1:Rdw r1 w1 sg)(M2:Rdw r2 w2 sg)(hN:r1.length * r2.length<=100000) :
  (eE r1 r2 w1 w2 0 0=none/\(∀ x∈alP r1 r2,wnP w1 w2 x=false)/\gR [.d (rdW r1 w1),.d (rdW r2 w2)]=.ok (.d (.tuple [.str "alike",.list (alP r1 r2)])))\/∃ z,eE r1 r2 w1 w2 0 0=some z/\gR [.d (rdW r1 w1),.d (rdW r2 w2)]=.ok (.d (.tuple [.str "unlike",stD z])):=by
 have f:=mR M1
 have c:=mR M2
 have g:dNe (.int (sg:Int)) (.int (sg:Int))=.ok (.bool false):=mD (dO _)
 have k:PyData.tuple [.int 0,.int 0]=prN 0 0:=rfl
 have j:∀ a b:D9,dIx (.tuple [a,b]) (.int 0)=.ok a:=fun _ _=>rfl
 have i1:∀ a b:D9,dIx (.tuple [a,b]) (.int 1)=.ok b:=fun _ _=>rfl
 have h:fU .none=true:=rfl
 rcases F_prt9 M1 M2 hN with ⟨h1,h2,e⟩|⟨fs,z,h1,e⟩
 .refine .inl ⟨h1,h2,?_⟩
  unfold gR pL
  simp[f,c,g,k,e,j,i1,h]
 .refine .inr ⟨z,h1,?_⟩
  have i:fU (stD z)=false:=rfl
  unfold gR pL
  simp[f,c,g,k,e,j,i1,i]
def aL2(M1:Rdw r1 w1 sg)(M2:Rdw r2 w2 sg2)(h:sg≠sg2):gR [.d (rdW r1 w1),.d (rdW r2 w2)]=.ex ⟨"NotLike",[]⟩:=by
 have a:=mR M1
 have b:=mR M2
 have c:dNe (.int (sg:Int)) (.int (sg2:Int))=.ok (.bool true):=by
  rw[pQ (dO _) (dO _),tY,AZ (by omega)];rfl
 unfold gR pL
 simp[a,b,c,uY]
theorem aIE(j:Option Nat)(n:Nat)(G:List A->R A)(f:Sg->R (List A))(cl:List Str)(fs:Sg->R Fw)(ρ:Sg):tP j n G f cl fs ρ=match f ρ with
 | .ok as=>if as.length=n then (match G as with
  | .bad=>.bad
  | .ok a=>.ok (.nx (putO j a ρ))
  | .ex e=>if cl.contains e.c=true then fs ρ else .bad) else .bad
 | _=>.bad:=id rfl
def aI7(M1:Rdw r1 w1 sg)(M2:Rdw r2 w2 sg2)(h:sg≠sg2):dJ [.d (rdW r1 w1),.d (rdW r2 w2)]=.ok (.d (.bool true)):=by
 have e:=aL2 M1 M2 h
 unfold dJ iM
 simp[aIE,e]
def aOY(M1:Rdw r1 w1 sg)(M2:Rdw r2 w2 sg2)(h:sg≠sg2)(P:D9):cS [.d (rdW r1 w1),.d (rdW r2 w2),.d P]=.ok (.d (.bool false)):=by
 have a:=mR M1
 have b:=mR M2
 have c:dNe (.int (sg:Int)) (.int (sg2:Int))=.ok (.bool true):=by
  rw[pQ (dO _) (dO _),tY,AZ (by omega)];rfl
 unfold cS
 rw[i7]
 simp[a,b,c]
def aI8(M1:Rdw r1 w1 sg)(M2:Rdw r2 w2 sg):∃ ps:List (Int×Int),alP r1 r2=ps.map prI/\ps.length<=r1.length * r2.length/\(∀ p∈ps,∃ c d:Nat,p=((c:Int),(d:Int))/\c < r1.length/\d < r2.length):=by
 have j:0 < r1.length:=M1.r.n1
 have i:0 < r2.length:=M2.r.n1
 have n:∀ x∈alP r1 r2,∃ c d:Nat,c < r1.length/\d < r2.length/\x=prN c d:=fun x hx=>gY M1.r M2.r j i hx
 have k:(alP r1 r2).length<=r1.length * r2.length:=jP M1.r M2.r j i _
 have a:∀ l:List D9,(∀ x∈l,∃ c d:Nat,c < r1.length/\d < r2.length/\x=prN c d)->∃ ps:List (Int×Int),l=ps.map prI/\(∀ p∈ps,∃ c d:Nat,p=((c:Int),(d:Int))/\c < r1.length/\d < r2.length):=by
  intro l
  induction l with
  | nil=>exact fun _=>⟨[],rfl,fun p h=>by cases h⟩
  | cons x t ih=>
   intro h
   obtain ⟨ps,e,b⟩:=ih fun y s=>h y (AI _ s)
   obtain ⟨c,d,o,m,rfl⟩:=h x AQ
   refine ⟨((c:Int),(d:Int))::ps,by rw[AX,e];rfl,fun p g=>?_⟩
   rcases AS.mp g with rfl|q
   · exact ⟨c, d, rfl, o, m⟩
   · exact b p q
 obtain ⟨ps,e,b⟩:=a _ n
 exact ⟨ps,e,by rw[<-List.length_map (f:=prI),<-e];exact k,b⟩
def aC9(M1:Rdw r1 w1 sg)(M2:Rdw r2 w2 sg)(h:∀ x∈alP r1 r2,wnP w1 w2 x=false):prI (0,0)∈alP r1 r2/\(alP r1 r2).all (okP r1 r2 w1 w2 (alP r1 r2))=true:=by
 have b:0 < r1.length:=M1.r.n1
 have a:0 < r2.length:=M2.r.n1
 refine ⟨AU (zE (afP r1 r2) (prN 0 0) _),A1.mpr fun x hx=>?_⟩
 obtain ⟨c,d,g,f,rfl⟩:=gY M1.r M2.r b a hx
 have hw:=h _ hx
 show (inR r1 r2 (c:Int) (d:Int) && (!wnP w1 w2 (prN ((c:Int)).toNat ((d:Int)).toNat) && (afP r1 r2 (prN ((c:Int)).toNat ((d:Int)).toNat)).all fun x=>decide (x∈alP r1 r2)))=true
 rw[CS,CS,hw,show inR r1 r2 (c:Int) (d:Int)=true by unfold inR;rw[AV (by omega),AV (by omega)];rfl]
 show (true && (true && _))=true
 rw[GY,GY]
 exact A1.mpr fun y e=>AV (aFT (jP M1.r M2.r b a _) hx e)
def rgρ(r1 r2:List (List Nat))(w1 w2:List Str)(P:List D9)(kvs:List (D9×D9))(u v w:Option A):Sg:=[some (.d (rdW r1 w1)),some (.d (rdW r2 w2)),some (.d (.list P)),some (.m kvs),u,v,w]
def aOZ{P:List D9}{a:List (D9×D9)}{p:Int×Int}{v w:Option A}(f:∀ x∈a.map (·.1),gI x=true)(j:a.length<=1000) :
  rgA (rgρ r1 r2 w1 w2 P a (some (.d (prI p))) v w)=.ok (.nx (rgρ r1 r2 w1 w2 P (putM a (prI p) (.bool true)) (some (.d (prI p))) v w)):=by
 have g:bJ (prI p) (a.map (·.1))=true:=by
  unfold bJ
  rw[CH,AM]
  exact .inl ⟨rfl,A1.mpr f⟩
 have i:iV "tuple" (prI p)=.ok (.bool true):=rfl
 have h:bA (prI p)=.ok [.int p.1,.int p.2]:=rfl
 have e:compL (stN 0) l0 (e1 (iV "int") (rV 0)) [none] [.int p.1,.int p.2]=.ok [.bool true,.bool true]:=rfl
 have c:dNe (.list [.bool true,.bool true]) (.list [.bool true,.bool true])=.ok (.bool false):=mD (by decide +kernel)
 have b:a.length<=16777216:=by omega
 simp[rgA,rgρ,i,h,e,c,jA,g,b]
def aO0(M1:Rdw r1 w1 sg)(M2:Rdw r2 w2 sg){P:List D9}{a:List (D9×D9)}{c d:Nat}{u:Option A}(n:c < r1.length)(k:d < r2.length)(H:∀ x∈a.map (·.1),gI x=true)(hw:wnP w1 w2 (prN c d)=false)(f:∀ y∈afP r1 r2 (prN c d),y∈a.map (·.1)) :
  rgB (rgρ r1 r2 w1 w2 P a u (some (.d (.int (c:Int)))) (some (.d (.int (d:Int)))))=.ok (.nx (rgρ r1 r2 w1 w2 P a u (some (.d (.int (c:Int)))) (some (.d (.int (d:Int)))))):=by
 have s:dIx (rdW r1 w1) (.int 0)=.ok (.tuple (r1.map bF)):=rfl
 have p:dIx (rdW r2 w2) (.int 0)=.ok (.tuple (r2.map bF)):=rfl
 have i1:dIx (rdW r1 w1) (.int 1)=.ok (.tuple (w1.map .str)):=rfl
 have E:dIx (rdW r2 w2) (.int 1)=.ok (.tuple (w2.map .str)):=rfl
 have t:dLen (.tuple (r1.map bF))=.ok (.int (r1.length:Int)):=by rw[l9,AC]
 have v:dLen (.tuple (r2.map bF))=.ok (.int (r2.length:Int)):=by rw[l9,AC]
 have i:=dCh (c:Int) r1.length (rgρ r1 r2 w1 w2 P a u (some (.d (.int (c:Int)))) (some (.d (.int (d:Int))))) (eC (.int 0)) (rV 5) (e1 dLen (e2 dIx (rV 0) (eC (.int 0)))) rfl (by simp[rgρ]) (by simp[rgρ,s,t])
 have o:=dCh (d:Int) r2.length (rgρ r1 r2 w1 w2 P a u (some (.d (.int (c:Int)))) (some (.d (.int (d:Int))))) (eC (.int 0)) (rV 6) (e1 dLen (e2 dIx (rV 1) (eC (.int 0)))) rfl (by simp[rgρ]) (by simp[rgρ,p,v])
 rw[AV (show (0:Int)<=(c:Int)/\(c:Int) < (r1.length:Int) by omega)] at i
 rw[AV (show (0:Int)<=(d:Int)/\(d:Int) < (r2.length:Int) by omega)] at o
 obtain ⟨G,k1⟩:=M1.w n
 obtain ⟨I,k2⟩:=M2.w k
 have l:dNe (.str (w1.getD c "")) (.str (w2.getD d ""))=.ok (.bool false):=by
  rw[<-hw,t9,zK G I]
  by_cases h:w1.getD c ""=w2.getD d ""<;>simp only[h,ne_eq,not_true_eq_false,DA,decide_true,IE,G0,Bool.not_false]
 have C:=gX (ws:=w1.map .str) M1.r n
 have F:=gX (ws:=w2.map .str) M2.r k
 have s3:=M1.r.s3
 have J:=(M1.r.at n).2.1
 have K:=(M2.r.at k).2.1
 have d1:bA (bF (r1.getD c []))=.ok ((r1.getD c []).map fun j:Nat=>.int (j:Int)):=mB (by rw[AC];omega)
 have d2:bA (bF (r2.getD d []))=.ok ((r2.getD d []).map fun j:Nat=>.int (j:Int)):=mB (by rw[AC];omega)
 have hz:jD (bF (r1.getD c [])) (bF (r2.getD d []))=.ok (afP r1 r2 (prN c d)):=by
  unfold jD
  rw[d1,d2]
  show R.ok _=R.ok _
  rw[i6,List.zip_map,CT]
  rfl
 have B:∀ x∈afP r1 r2 (prN c d),gI x=true:=fun x hx=>by
  rw[i6] at hx
  obtain ⟨q,_,rfl⟩:=A3.mp hx
  rfl
 have e:=kC (fs:=stN 0) (fe:=j9 false 1 (eV 0)) (ρ0:=[none,some (.m a)]) (d:=fun x:D9=>x) (g:=fun _:D9=>PyData.bool true) (xs:=afP r1 r2 (prN c d)) fun x hx=>⟨_,rfl,by
  have z:bJ x (a.map (·.1))=true:=by
   unfold bJ
   rw[CH,AM]
   exact .inl ⟨B x hx,A1.mpr H⟩
  have D:bP a x=true:=jB.mpr (f x hx)
  rw[qR]
  show (R.ok x).bind _=_
  rw[R.bind_ok]
  show (if bJ x (a.map (·.1))=true then R.ok (PyData.bool (if false=true then _ else bP a x)) else R.bad)=_
  rw[if_pos z,if_neg A0,D]⟩
 rw[List.map_id'] at e
 have b:=aFZ ((afP r1 r2 (prN c d)).map fun _=>true)
 rw[CT,show ((afP r1 r2 (prN c d)).map fun _=>true).all id=true from A1.mpr fun x hx=>by
  obtain ⟨_,_,rfl⟩:=A3.mp hx;rfl] at b
 have b:dIn (.bool false) (.list ((afP r1 r2 (prN c d)).map fun _=>PyData.bool true))=.ok (.bool false):=b
 generalize ((afP r1 r2 (prN c d)).map fun _=>PyData.bool true)=L at b e
 unfold rgρ at i o ⊢
 simp[-List.getD_eq_getElem?_getD,-y4,-qR,rgB,i,o,i1,E,k1,k2,l,s,p,C,F,hz,jA,e,b]
def aQB(M1:Rdw r1 w1 sg)(M2:Rdw r2 w2 sg)(hN:r1.length * r2.length<=1000)(h:∀ x∈alP r1 r2,wnP w1 w2 x=false):dC [.d (rdW r1 w1),.d (rdW r2 w2),.d (.list (alP r1 r2))]=.ok (.d (.bool true)):=by
 have F:0 < r1.length:=M1.r.n1
 have A:0 < r2.length:=M2.r.n1
 obtain ⟨ps,e,I,G⟩:=aI8 M1 M2
 obtain ⟨h0,_⟩:=aC9 M1 M2 h
 have v:(alP r1 r2).length<=1000:=by rw[e,AC];omega
 have m:bA (.list (alP r1 r2))=.ok (alP r1 r2):=iJ (by omega)
 have f:dNin (.tuple [.int 0,.int 0]) (.list (alP r1 r2))=.ok (.bool false):=by
  have:=aIA (0,0) ps
  rw[<-e,AV h0] at this
  exact this
 obtain ⟨n,q,a,u,e1,k,w,j⟩:=eD (fs:=stN 4) (fb:=rgA) (d:=prI) (xs:=ps) (ρ:=rgρ r1 r2 w1 w2 (alP r1 r2) [] none none none)
  (fun i ρ=>∃ a u,ρ=rgρ r1 r2 w1 w2 (alP r1 r2) a u none none/\(∀ x∈a.map (fun p:D9×D9=>p.1),gI x=true)/\a.length<=i/\∀ x∈(ps.take i).map prI,x∈a.map (fun p:D9×D9=>p.1)) ⟨[],none,rfl,fun x h=>(by cases h),AJ _,fun x h=>(by cases h)⟩ (fun i p ρ hi b=>by
  obtain ⟨a,u,o,k,w,j⟩:=b
  subst o
  have C:=(AG.mp hi).1
  obtain ⟨k1,k2⟩:=p9 a (prI p) (.bool true)
  refine ⟨_,_,rfl,.inl (aOZ k (by omega)),_,_,rfl,fun x hx=>?_,by omega,fun x hx=>?_⟩
  .rcases (k1 x).mp hx with z|z
   · exact k x z
   · rw [z]; rfl
  .rw[DB,hi,A8,A4] at hx
   refine (k1 x).mpr ?_
   rcases hx with z|z
   · exact .inl (j x z)
   · exact .inr (AL.mp z))
 subst e1
 rw[E2,<-e] at j
 obtain ⟨n,s,l,t,e2⟩:=eD (fs:=stT [(stN 5),(stN 6)]) (fb:=rgB) (d:=prI) (xs:=ps) (ρ:=rgρ r1 r2 w1 w2 (alP r1 r2) a u none none)
  (fun i ρ=>∃ l t,ρ=rgρ r1 r2 w1 w2 (alP r1 r2) a u l t) ⟨none,none,rfl⟩ (fun i p ρ hi b=>by
  obtain ⟨l,t,o⟩:=b
  subst o
  have g:=AU hi
  obtain ⟨c,d,rfl,D,B⟩:=G p g
  have hx:prN c d∈alP r1 r2:=by rw[e];exact A3.mpr ⟨_,g,rfl⟩
  exact ⟨_,_,rfl,.inl (aO0 M1 M2 D B k (h _ hx) fun y H=>j y (aFT (jP M1.r M2.r F A _) hx H)),_,_,rfl⟩)
 subst e2
 rw[<-e] at q s
 have E:jX "list" "list"=true:=by decide
 unfold rgρ at q s
 unfold dC
 rw[fS]
 generalize alP r1 r2=P at *
 simp[E,f,m,q,s]
def vU(a b:Bool):dIsB (.bool a) (.bool b)=.ok (.bool (a == b)):=id rfl
def aI9(M1:Rdw r1 w1 sg)(M2:Rdw r2 w2 sg)(hN:r1.length * r2.length<=1000):dE [.d (rdW r1 w1),.d (rdW r2 w2),.d (zO (eE r1 r2 w1 w2 0 0))]=.ok (.d (.bool true)):=by
 have I:∀ a b:D9,dIx (.tuple [a,b]) (.int 0)=.ok a:=fun _ _=>rfl
 have i1:∀ a b:D9,dIx (.tuple [a,b]) (.int 1)=.ok b:=fun _ _=>rfl
 have k:∀ a b:D9,iV "tuple" (.tuple [a,b])=.ok (.bool true):=fun _ _=>rfl
 have H:∀ a b:D9,dLen (.tuple [a,b])=.ok (.int 2):=fun _ _=>rfl
 have g:dNe (.int 2) (.int 2)=.ok (.bool false):=mD (dO _)
 have m:PyData.tuple [.int 0,.int 0]=prI (0,0):=rfl
 rcases F_held9 M1 M2 (by omega) with ⟨e1,h,e⟩|⟨z,e1,e⟩
 .rw[e1]
  have hz:zO none=.none:=rfl
  have F:dNe (.str "alike") (.str "alike")=.ok (.bool false):=mD (Sh.shaped (o7 0 (by decide +kernel)) (by decide))
  have E:=aQB M1 M2 hN h
  obtain ⟨ps,ep,L,_⟩:=aI8 M1 M2
  have f:=aI6 M1 M2 (ps:=ps) (by omega)
  rw[<-ep,(aC9 M1 M2 h).2,AV (aC9 M1 M2 h).1] at f
  have o:fU .none=true:=rfl
  rw[hz]
  unfold dE gN
  generalize alP r1 r2=P at *
  simp[e,k,H,g,I,i1,F,o,E,f,vU]
 .rw[e1]
  have hz:zO (some z)=stD z:=rfl
  have J:∀ y:List Nat,Sgs sg y->Sh 0 (stD y):=fun y l=>o7 0 (by
   show (⟨y.toArray⟩:Str).cps.all _=true
   rw[FX]
   intro x hx
   have hx:x∈y:=by simpa using hx
   have:=BA (l x hx)
   have:=M1.r.s3
   exact AV (by omega))
  have B:Sgs sg z:=by
   rcases prt_cases M1 M2 M1.r.n1 M2.r.n1 with ⟨q,_⟩|⟨K,q,s,_⟩
   .rw[e1] at q;cases q
   .rw[e1] at q;cases q;exact s
  have D:dNe (.str "unlike") (.str "unlike")=.ok (.bool false):=mD (Sh.shaped (o7 0 (by decide +kernel)) (by decide))
  have C:dEq (.tuple [.str "unlike",stD z]) (.tuple [.str "unlike",stD z])=.ok (.bool true):=aOE (Sh.shaped (n:=1) (xT fun x hx=>by
   rcases AS.mp hx with q|q
   .rw[q];exact o7 0 (by decide +kernel)
   .rw[AL.mp q];exact J z B) (by decide))
  have u:fU (stD z)=false:=rfl
  have f:=aI6 M1 M2 (ps:=[(0,0)]) (by decide)
  have v:okP r1 r2 w1 w2 [prI (0,0)] (prI (0,0))=false:=by
   cases i:okP r1 r2 w1 w2 [prI (0,0)] (prI (0,0)) with
   | false=>rfl
   | true=>
    exfalso
    have i:(inR r1 r2 0 0 && (!wnP w1 w2 (prN 0 0) && (afP r1 r2 (prN 0 0)).all fun x=>decide (x∈[prI (0,0)])))=true:=i
    rw[AM,AM] at i
    have w:∀ y:List Nat,Sgs sg y->fE (afP r1 r2) (prN 0 0) y=prN 0 0:=by
     intro y
     induction y with
     | nil=>intro _;rfl
     | cons c t ih=>
      intro l
      have j:=l c AQ
      have k:=ih fun c j=>l c (AI _ j)
      have hx:((afP r1 r2 (prN 0 0))[c - 97]?).getD .none=prN 0 0:=by
       obtain ⟨e1,O⟩:=gZ M1.r M1.r.n1 j
       obtain ⟨e2,Q⟩:=gZ M2.r M2.r.n1 j
       have:((r1.getD 0 []).zip (r2.getD 0 []))[c - 97]? = some (stN1 r1 0 c,stN1 r2 0 c):=HC.mpr ⟨e1,e2⟩
       have G:(afP r1 r2 (prN 0 0))[c - 97]? = some (prN (stN1 r1 0 c) (stN1 r2 0 c)):=by rw[i6,AN,this];rfl
       have:=A1.mp i.2.2 _ (AU G)
       rw[G,Option.getD_some,AL.mp (BA this)];rfl
      show fE (afP r1 r2) (((afP r1 r2 (prN 0 0))[c - 97]?).getD .none) t=_
      rw[hx];exact k
    rcases prt_cases M1 M2 M1.r.n1 M2.r.n1 with ⟨q,_⟩|⟨K,q,s,p,_⟩
    .rw[e1] at q;cases q
    .rw[e1] at q;cases q
     have:=w z s
     rw[zM M1.r M2.r z s M1.r.n1 M2.r.n1] at this
     obtain ⟨M,N⟩:=aLM this
     have hw:=i.2.1
     rw[t9] at hw
     unfold Pd at p
     rw[M,N] at p
     rw[AV p] at hw
     cases hw
  have f:cS [.d (rdW r1 w1),.d (rdW r2 w2),.d (.list [prI (0,0)])]=.ok (.d (.bool false)):=by
   rw[show [prI (0,0)]=[((0:Int),(0:Int))].map prI from rfl,f]
   show R.ok (A.d (PyData.bool (_ && ([prI (0,0)]).all (okP r1 r2 w1 w2 [prI (0,0)]))))=_
   rw[G4,v,Bool.false_and,Bool.and_false]
  rw[hz]
  unfold dE gN
  simp[e,k,H,g,I,i1,D,u,C,m,f,vU]
end
section
variable{r1 r2:List (List Nat)}{w1 w2:List Str}{sg sg2:Nat}
def sN(n m:Nat):List Nat:=0::(((List.range (n - 1)).map (· + 1)).drop m++((List.range (n - 1)).map (· + 1)).take m)
def aIF{n m:Nat}(h:1<=n):(sN n m).length=n:=by
 unfold sN
 rw[BI,BD,FS,BS,AC,BH]
 omega
def aIG{n m:Nat}(h:1<=n){q:Nat}:q∈sN n m↔q < n:=by
 unfold sN
 rw[AS,A4]
 constructor
 .rintro (e|e|e)
  .omega
  .obtain ⟨j,a,rfl⟩:=A3.mp (List.mem_of_mem_drop e)
   rw[DO] at a;omega
  .obtain ⟨j,a,rfl⟩:=A3.mp (GH e)
   rw[DO] at a;omega
 .intro c
  by_cases q0:q=0
  .exact .inl q0
  .right
   have b:q∈(List.range (n - 1)).map (· + 1):=A3.mpr ⟨q - 1,DO.mpr (by omega),by omega⟩
   rw[<-List.take_append_drop m ((List.range (n - 1)).map (· + 1)),A4] at b
   exact b.symm
def aF3{a:List (D9×D9)}{k v b:D9}:cK (putM a k v) b=if b=k then some v else cK a b:=by
 cases h:bP a k with
 | false=>exact kE h
 | true=>
  unfold putM
  rw[if_pos h]
  unfold bP at h
  unfold cK at *
  induction a with
  | nil=>cases h
  | cons p t ih=>
   rw[AX,B4,B4]
   by_cases e:p.1=k
   .rw[if_pos e]
    by_cases e':b=k
    .subst e'
     rw[if_pos rfl,show decide (p.1=b)=true from AV e];rfl
    .rw[if_neg e',show decide (p.1=b)=false from AZ fun z=>e' (z.symm.trans e)]
     simp only
     by_cases hh:(Option.map (fun x=>x.snd) (List.find? (fun p=>decide (p.fst=k)) t)).isSome=true
     .rw[ih hh,if_neg e']
     .have:∀ q∈t,¬ q.1=k:=fun q c z=>by
       apply hh
       rw[EM,List.find?_isSome]
       exact ⟨q,c,AV z⟩
      rw[show t.map (fun p=>if p.1=k then (p.1,v) else p)=t from by
       rw[DE (g:=id) fun q c=>by rw[if_neg (this q c)];rfl,List.map_id]]
   .rw[if_neg e]
    rw[B4,show decide (p.1=k)=false from AZ e] at h
    simp only at h
    by_cases e2:p.1=b
    .rw[show decide (p.1=b)=true from AV e2]
     rw[if_neg fun z=>e (e2.trans z)]
    .rw[show decide (p.1=b)=false from AZ e2]
     simp only
     exact ih h
def iD(q:Nat):D9:=.int (q:Int)
def pl(kvs:List (D9×D9))(q:Nat):Nat:=match cK kvs (.int (q:Int)) with
 | some (.int k)=>k.toNat
 | _=>0
def aDA{xs ys:List D9}(h:xs.length+ys.length<=16777216):kU (.list xs) (.list ys)=.ok (xs++ys):=if_pos (by rw[cV];exact h)
def aJA{a:List (D9×D9)}(h:∀ x∈a.map (·.1),kT x=true)(i:Int):bJ (.int i) (a.map (·.1))=true:=by
 unfold bJ
 rw[CH,AM,AM]
 exact .inr ⟨rfl,A1.mpr h⟩
@[simp] theorem aSC(f:Sg->R Fw)(g:Sg->R (D9×List D9))(ρ:Sg):kZ f g ρ=(f ρ).bind fun w=>match w with | .nx ρ'=>g ρ'|_=>.bad:=id rfl
@[simp] theorem aSD(i j:Nat)(ρ:Sg):aC4 i j ρ=match ρ[i]?,ρ[j]? with|some (some (.l xs)),some (some (.l ys))=>if i≠j then .ok (.list xs,ys) else .bad|_,_=>.bad:=id rfl
def rmρ(rows:List (List Nat))(ws:List Str)(c m:Int)(O:List D9)(kvs:List (D9×D9))(u8 u9 u10 u11 u12:Option A):Sg:=[some (.d (rdW rows ws)),some (.d (.int c)),some (.d (.tuple (rows.map bF))),some (.d (.tuple (ws.map .str))),some (.d (.int (rows.length:Int))),some (.d (.list O)),some (.d (.int m)),some (.m kvs),u8,u9,u10,u11,u12]
def gJ(n:Nat)(c:Int)(q k j:Nat):Nat:=j+n * ((c / 7+(q:Int)+(k:Int)) % 2).toNat
def aJB{n:Nat}{c:Int}{q k j:Nat}(h:j < n):gJ n c q k j < 2 * n:=by
 unfold gJ
 have h0:=B5 (c / 7+(q:Int)+(k:Int)) (show (2:Int)≠0 by decide)
 have h1:=BW (c / 7+(q:Int)+(k:Int)) (show (0:Int) < 2 by decide)
 have:((c / 7+(q:Int)+(k:Int)) % 2).toNat<=1:=by omega
 have:=Nat.mul_le_mul_left n this
 omega
def aO1(M:Rdw r1 w1 sg)(T:r1.length<=1000){c m:Int}{O:List D9}{a:List (D9×D9)}{u8 u12:Option A}{X Y:List D9}{q:Nat}(kv:∀ x∈a.map (·.1),kT x=true)(e:∀ q,q < 2 * r1.length->cK a (.int (q:Int))=some (.int (pl a q:Int))/\pl a q < 2 * r1.length)(S:X.length<=1000000)(P:Y.length<=1000000) :
  ∃ (r:List Nat) (w:Str) (u:Option A),rmB (rmρ r1 w1 c m O a u8 (some (.d (.int (q:Int)))) (some (.l X)) (some (.l Y)) u12)=.ok (.nx (rmρ r1 w1 c m O a u8 (some (.d (.int (q:Int)))) (some (.l (X++[bF r]))) (some (.l (Y++[.str w]))) u))/\r.length=sg/\(∀ j∈r,j < 2 * r1.length)/\pU w:=by
 have n1:0 < r1.length:=M.r.n1
 have s3:=M.r.s3
 have B:q % r1.length < r1.length:=Nat.mod_lt _ n1
 have E:dMod (.int (q:Int)) (.int (r1.length:Int))=.ok (.int ((q % r1.length:Nat):Int)):=by rw[dB (by omega)];rfl
 have v:=gX (ws:=w1.map .str) M.r B
 have v:dIx (.tuple (r1.map bF)) (.int ((q % r1.length:Nat):Int))=.ok (bF (r1.getD (q % r1.length) [])):=v
 obtain ⟨J,H⟩:=M.w B
 have h:=M.r.at B
 generalize Q:r1.getD (q % r1.length) []=b at *
 have s:bA (bF b)=.ok (b.map iD):=mB (by rw[AC];omega)
 have z:j3 (bF b)=.ok (b.zipIdx.map fun p=>PyData.tuple [.int (p.2:Int),.int (p.1:Int)]):=by
  rw[sK s,List.zipIdx_map,CT];rfl
 have K:=kC (fs:=stT [(stN 0),(stN 1)]) (fe:=rmC) (ρ0:=[none,none,some (.d (.int (r1.length:Int))),some (.d (.int c)),some (.d (.int (q:Int)))]) (d:=fun p:Nat×Nat=>PyData.tuple [.int (p.2:Int),.int (p.1:Int)]) (g:=fun p=>iD (gJ r1.length c q p.2 p.1)) (xs:=b.zipIdx) fun p _=>⟨[some (.d (.int (p.2:Int))),some (.d (.int (p.1:Int))),some (.d (.int (r1.length:Int))),some (.d (.int c)),some (.d (.int (q:Int)))],by simp,by
  have h0:=B5 (c / 7+(q:Int)+(p.2:Int)) (show (2:Int)≠0 by decide)
  have h1:=BW (c / 7+(q:Int)+(p.2:Int)) (show (0:Int) < 2 by decide)
  have d1:dDiv (.int c) (.int 7)=.ok (.int (c / 7)):=gS (by decide) (by decide)
  have d2:∀ x:Int,dMod (.int x) (.int 2)=.ok (.int (x % 2)):=fun x=>dB (by decide)
  have G:dMul (.int (r1.length:Int)) (.int ((c / 7+(q:Int)+(p.2:Int)) % 2))=.ok (.int ((r1.length:Int) * ((c / 7+(q:Int)+(p.2:Int)) % 2))):=pP (by omega) (by omega)
  have N:(p.1:Int)+(r1.length:Int) * ((c / 7+(q:Int)+(p.2:Int)) % 2)=((gJ r1.length c q p.2 p.1:Nat):Int):=by
   unfold gJ
   rw[Int.natCast_add,Int.natCast_mul,Int.toNat_of_nonneg h0]
  simp[rmC,d1,d2,G,N,iD]⟩
 have i:bA (.list (b.zipIdx.map fun p=>iD (gJ r1.length c q p.2 p.1)))=.ok (b.zipIdx.map fun p=>iD (gJ r1.length c q p.2 p.1)):=iJ (by rw[AC,CO];omega)
 have hz:∀ p∈b.zipIdx,p.1 < r1.length:=fun p n=>h.2.2 p.1 (by
  have:=CQ (f:=Prod.fst) n
  rw[GO] at this
  exact this)
 have t:=kC (fs:=stN 0) (fe:=jY 1 (eV 0)) (ρ0:=[none,some (.m a)]) (d:=fun p:Nat×Nat=>iD (gJ r1.length c q p.2 p.1)) (g:=fun p=>iD (pl a (gJ r1.length c q p.2 p.1))) (xs:=b.zipIdx) fun p n=>⟨_,rfl,by
  have I:=(e _ (aJB (c:=c) (q:=q) (k:=p.2) (hz p n))).1
  have D:=aJA kv (gJ r1.length c q p.2 p.1:Int)
  simp[iD,D,I]⟩
 have y:PyData.tuple (b.zipIdx.map fun p=>iD (pl a (gJ r1.length c q p.2 p.1)))=bF (b.zipIdx.map fun p=>pl a (gJ r1.length c q p.2 p.1)):=by
  unfold bF
  rw[CT];rfl
 refine ⟨b.zipIdx.map fun p=>pl a (gJ r1.length c q p.2 p.1),w1.getD (q % r1.length) "",some (.l (b.zipIdx.map fun p=>iD (gJ r1.length c q p.2 p.1))),?_,by rw[AC,CO];exact h.2.1,fun j F=>?_,J⟩
 .rw[<-y]
  have C:X.length < 16777216:=by omega
  have o:Y.length < 16777216:=by omega
  unfold rmρ
  generalize (b.zipIdx.map fun p=>iD (gJ r1.length c q p.2 p.1))=W at *
  generalize (b.zipIdx.map fun p=>iD (pl a (gJ r1.length c q p.2 p.1)))=L at *
  generalize (b.zipIdx.map fun p=>PyData.tuple [.int (p.2:Int),.int (p.1:Int)])=V at *
  generalize bF b=U at *
  generalize w1.getD (q % r1.length) ""=R at *
  simp[-Int.natCast_emod,rmB,E,v,z,jA,K,i,t,C,o,H]
 .obtain ⟨p,n,rfl⟩:=A3.mp F
  exact (e _ (aJB (hz p n))).2
def aQC(M:Rdw r1 w1 sg)(hn:r1.length<=400)(c:Int):∃ r2 w2,dS [.d (rdW r1 w1),.d (.int c)]=.ok (.list (r2.map bF),w2.map .str)/\Rdw r2 w2 sg/\r2.length=2 * r1.length:=by
 have n1:0 < r1.length:=M.r.n1
 obtain ⟨n,en⟩:∃ n,2 * r1.length=n:=⟨_,rfl⟩
 have F:aCZ (.int 1) (.int (n:Int))=.ok (((List.range (n - 1)).map (· + 1)).map iD):=by
  show (if (0:Int)<=1/\(1:Int)<=n/\(n:Int)<=1000000 then R.ok _ else R.bad)=_
  rw[if_pos (by omega),show ((n:Int) - 1).toNat=n - 1 by omega,CT]
  congr 1
  refine DE fun i _=>?_
  show PyData.int _=PyData.int _
  congr 1
  show (1:Int)+(i:Int)=((i+1:Nat):Int)
  omega
 have f:dMul (.int 2) (.int (r1.length:Int))=.ok (.int (n:Int)):=by rw[pP (by omega) (by omega)];congr 2;omega
 have s:dLen (.tuple (r1.map bF))=.ok (.int (r1.length:Int)):=by rw[l9,AC]
 have N:dLen (.list (((List.range (n - 1)).map (· + 1)).map iD))=.ok (.int ((n - 1:Nat):Int)):=by rw[gC];simp
 obtain ⟨m,hm,o⟩:∃ m:Nat,dMod (.int c) (.int ((n - 1:Nat):Int))=.ok (.int (m:Int))/\m<=n - 1:=by
  have h0:=B5 c (show ((n - 1:Nat):Int)≠0 by omega)
  have h1:=BW c (show 0 < ((n - 1:Nat):Int) by omega)
  exact ⟨(c % ((n - 1:Nat):Int)).toNat,by rw[dB (by omega),Int.toNat_of_nonneg h0],by omega⟩
 have G:mT (((List.range (n - 1)).map (· + 1)).map iD) (some (m:Int)) none=(((List.range (n - 1)).map (· + 1)).drop m).map iD:=by
  unfold mT
  rw[HT.aAD,HT.xK,AC,AC,BH,Nat.min_eq_left o,FQ (by simp),List.map_drop]
 have L:mT (((List.range (n - 1)).map (· + 1)).map iD) none (some (m:Int))=(((List.range (n - 1)).map (· + 1)).take m).map iD:=by
  unfold mT
  rw[HT.aAD,HT.xK,AC,AC,BH,Nat.min_eq_left o,List.drop_zero,Nat.sub_zero,List.map_take]
 have G:dSl (.list (((List.range (n - 1)).map (· + 1)).map iD)) (some (m:Int)) none=.ok (.list ((((List.range (n - 1)).map (· + 1)).drop m).map iD)):=by
  show R.ok (PyData.list (mT _ _ _))=_
  rw[G]
 have L:dSl (.list (((List.range (n - 1)).map (· + 1)).map iD)) none (some (m:Int))=.ok (.list ((((List.range (n - 1)).map (· + 1)).take m).map iD)):=by
  show R.ok (PyData.list (mT _ _ _))=_
  rw[L]
 have c1:kU (.list [.int 0]) (.list ((((List.range (n - 1)).map (· + 1)).drop m).map iD))=.ok (.int 0::(((List.range (n - 1)).map (· + 1)).drop m).map iD):=aDA (by simp;omega)
 have c2:kU (.list (.int 0::(((List.range (n - 1)).map (· + 1)).drop m).map iD)) (.list ((((List.range (n - 1)).map (· + 1)).take m).map iD))=.ok ((sN n m).map iD):=by
  rw[aDA (by simp;omega)]
  unfold sN
  rw[AX,A8];rfl
 have B:1<=n:=by omega
 have ol:=aIF (m:=m) B
 have om:=fun q=>aIG (m:=m) B (q:=q)
 generalize sN n m=O at *
 have t:bA (.list (O.map iD))=.ok (O.map iD):=iJ (by rw[AC];omega)
 have Q:j3 (.list (O.map iD))=.ok ((O.zipIdx).map fun p=>PyData.tuple [.int (p.2:Int),.int (p.1:Int)]):=by
  rw[sK t,List.zipIdx_map,CT]
  rfl
 obtain ⟨K,W,a,u,v,rfl,kv,V,D⟩:=eD (fs:=stT [(stN 8),(stN 9)]) (fb:=k8 7 (eV 9) (eV 8)) (d:=fun p:Nat×Nat=>PyData.tuple [.int (p.2:Int),.int (p.1:Int)]) (xs:=O.zipIdx) (ρ:=rmρ r1 w1 c (m:Int) (O.map iD) [] none none none none none)
  (fun i ρ=>∃ a u v,ρ=rmρ r1 w1 c (m:Int) (O.map iD) a u v none none none/\(∀ x∈a.map (fun p:D9×D9=>p.1),kT x=true)/\a.length<=i/\∀ q∈O.take i,∃ k,k < n/\cK a (.int (q:Int))=some (.int (k:Int)))
  ⟨[],none,none,rfl,fun x h=>(by cases h),AJ _,fun q h=>(by cases h)⟩
  (fun i p ρ hi ⟨a,u,v,e,kv,V,D⟩=>by
  subst e
  obtain ⟨q,j⟩:=p
  rw[C8] at hi
  obtain ⟨C,g,e⟩:=FM.mp hi
  injection e with e1 e2
  subst e1
  have e2:i=j:=by omega
  subst e2
  have J:i < O.length:=(AG.mp g).1
  obtain ⟨k1,k2⟩:=p9 a (.int (C:Int)) (.int (i:Int))
  refine ⟨rmρ r1 w1 c (m:Int) (O.map iD) a (some (.d (.int (i:Int)))) (some (.d (.int (C:Int)))) none none none,rmρ r1 w1 c (m:Int) (O.map iD) (putM a (.int (C:Int)) (.int (i:Int))) (some (.d (.int (i:Int)))) (some (.d (.int (C:Int)))) none none none,rfl,.inl ?_,_,_,_,rfl,fun x hx=>?_,by omega,fun y b=>?_⟩
  .have U:=aJA kv (C:Int)
   simp[rmρ,U,A6 V (show i<=16777216 by omega)]
  .rcases (k1 x).mp hx with z|z
   .exact kv x z
   .rw[z];rfl
  .rw[aF3]
   split
   .exact ⟨i,by omega,rfl⟩
   .rename_i H
    rw[DB,g,A4] at b
    rcases b with b|b
    · exact D y b
    · exact absurd (by rw [AL.mp b]) H)
 rw[CO,E2] at D
 have E:∀ q,q < 2 * r1.length->cK a (.int (q:Int))=some (.int (pl a q:Int))/\pl a q < 2 * r1.length:=fun q hq=>by
  obtain ⟨k,U,e⟩:=D q ((om q).mpr (by omega))
  have:pl a q=k:=by unfold pl;rw[e];exact CS _
  rw[this];exact ⟨e,by omega⟩
 obtain ⟨K,Z,r2,w2,u9,u12,rfl,S,T,P,hw⟩:=eD (fs:=stN 9) (fb:=rmB) (d:=iD) (xs:=O) (ρ:=rmρ r1 w1 c (m:Int) (O.map iD) a u v (some (.l [])) (some (.l [])) none)
  (fun i ρ=>∃ (r2:List (List Nat)) (w2:List Str) (u9 u12:Option A),ρ=rmρ r1 w1 c (m:Int) (O.map iD) a u u9 (some (.l (r2.map bF))) (some (.l (w2.map .str))) u12/\r2.length=i/\w2.length=i/\(∀ r∈r2,r.length=sg/\∀ j∈r,j < 2 * r1.length)/\∀ w∈w2,pU w)
  ⟨[],[],v,none,rfl,rfl,rfl,fun r h=>(by cases h),fun r h=>(by cases h)⟩
  (fun i q ρ hi ⟨r2,w2,u9,u12,e,S,T,P,hw⟩=>by
  subst e
  have J:=(AG.mp hi).1
  obtain ⟨r,w,u',e,a1,a2,a3⟩:=aO1 M (by omega) (c:=c) (m:=(m:Int)) (O:=O.map iD) (u8:=u) (u12:=u12) (q:=q) kv E (X:=r2.map bF) (Y:=w2.map .str) (by rw[AC];omega) (by rw[AC];omega)
  refine ⟨_,_,rfl,.inl e,r2++[r],w2++[w],_,_,by rw[A8,A8];rfl,by rw[BD,S];rfl,by rw[BD,T];rfl,fun x hx=>?_,fun x hx=>?_⟩
  .rcases A4.mp hx with z|z
   .exact P x z
   .rw[AL.mp z];exact ⟨a1,a2⟩
  .rcases A4.mp hx with z|z
   .exact hw x z
   .rw[AL.mp z];exact a3)
 refine ⟨r2,w2,?_,⟨⟨by omega,by omega,M.r.s1,M.r.s3,fun r h=>?_⟩,by omega,hw⟩,by omega⟩
 .have I:(stT [(stN 2),(stN 3)]) (rdW r1 w1) [some (.d (rdW r1 w1)),some (.d (.int c)),none,none,none,none,none,none,none,none,none,none,none]=some [some (.d (rdW r1 w1)),some (.d (.int c)),some (.d (.tuple (r1.map bF))),some (.d (.tuple (w1.map .str))),none,none,none,none,none,none,none,none,none]:=rfl
  unfold dS fnQ
  rw[hZ]
  unfold rmρ at W Z
  generalize ((List.range (n - 1)).map (· + 1)).map iD=RR at *
  generalize (((List.range (n - 1)).map (· + 1)).drop m).map iD=RD at *
  generalize (((List.range (n - 1)).map (· + 1)).take m).map iD=RT at *
  generalize (O.zipIdx.map fun p=>PyData.tuple [.int (p.2:Int),.int (p.1:Int)])=OZ at *
  generalize O.map iD=OO at *
  generalize r2.map bF=aa at *
  generalize w2.map PyData.str=ac at *
  simp only[AX,DR,BI,CP,Nat.reduceAdd,Nat.reduceSub,List.replicate,DH,DU]
  simp[I,s,f,F,N,hm,G,L,c1,c2,Q,fz,W,t,Z]
 .have:=P r h
  rw[show r2.length=2 * r1.length by omega]
  exact this
end
def sl5(sg:Nat):Nat->List (List Nat)->Nat->Option (List (List Nat))
 | 0,_,_=>none
 | f+1,F,i=>match F[i]? with
  | some z=>if z.length < 5 then sl5 sg f (F++(List.range sg).map fun k=>z++[97+k]) (i+1) else some F
  | none=>some F
def iN(sg:Nat)(F:List (List Nat))(i:Nat)(u:Option A):Sg:=[some (.d (.int (sg:Int))),some (.d (.int 5)),some (.l (F.map stD)),some (.d (.int (i:Int))),u]
theorem zW{sg:Nat}(s1:1<=sg)(v:sg<=3):∀ (f:Nat) (F:List (List Nat)) (i:Nat) (u:Option A) (G:List (List Nat)),sl5 sg f F i=some G->F.length+3 * f<=1000->(∀ z∈F,z.length<=1000)->
  aP (cC lsT lsB) (sFz 2 (bU (vV 2))) (iN sg F i u)=.ok (.rt (.d (.list (G.map stD))))
 | 0,_,_,_,_,h,_,_=>by cases h
 | f+1,F,i,u,G,h,hl,hF=>by
  have hsl:dSl (.str "abc") none (some (sg:Int))=.ok (.str (sgT sg)):=aPZ (by decide)
  have hi:bA (.str (sgT sg))=.ok ((List.range sg).map fun k:Nat=>.str ⟨#[97+k]⟩):=by
   rw[y8 (by have:=aLD s1 v;omega),aLT s1 v,CT];rfl
  rw[sl5] at h
  cases q:F[i]? with
  | none=>
   rw[q] at h
   cases h
   have H:=E8.mp q
   have a:lsT (iN sg F i u)=.ok false:=by
    have:¬ (i:Int) < (F.length:Int):=by omega
    simp[lsT,iN,gC,this]
   rw[cO,jO a]
   simp[iN]
  | some z=>
   rw[q] at h
   have o:i < F.length:=(AG.mp q).1
   have D:=hF z (AU q)
   have B:dIx (.list (F.map stD)) (.int (i:Int))=.ok (stD z):=lB (dU (by rw[AN,q];rfl))
   have w:=aLU (z:=z) (by omega)
   simp only at h
   split at h
   .rename_i r
    have a:lsT (iN sg F i u)=.ok true:=by
     have n:(i:Int) < (F.length:Int):=by omega
     have s:(z.length:Int) < 5:=by omega
     simp[lsT,iN,gC,n,B,w,s]
    obtain ⟨I,J,b,C⟩:=eD (fs:=stN 4) (fb:=lsF) (d:=fun k:Nat=>PyData.str ⟨#[97+k]⟩) (xs:=List.range sg) (ρ:=iN sg F i u)
     (fun k ρ=>∃ b,ρ=iN sg (F++(List.range k).map fun k=>z++[97+k]) i b) ⟨u,by simp⟩ (fun k x ρ E ⟨b,e⟩=>by
     subst e
     obtain ⟨h1,h2⟩:=AG.mp E
     rw[BH] at h1
     rw[GS] at h2
     subst h2
     have p:dIx (.list ((F++(List.range k).map fun k=>z++[97+k]).map stD)) (.int (i:Int))=.ok (stD z):=lB (dU (by rw[AN,BM o,q];rfl))
     have m:=aBR (z:=z) (c:=97+k) (by omega)
     have t:(F++(List.range k).map fun k=>z++[97+k]).length < 16777216:=by rw[BD,AC,BH];omega
     refine ⟨iN sg (F++(List.range k).map fun k=>z++[97+k]) i (some (.d (.str ⟨#[97+k]⟩))),iN sg (F++(List.range (k+1)).map fun k=>z++[97+k]) i (some (.d (.str ⟨#[97+k]⟩))),rfl,.inl ?_,_,rfl⟩
     have e2:(F++(List.range (k+1)).map fun k=>z++[97+k])=(F++(List.range k).map fun k=>z++[97+k])++[z++[97+k]]:=by
      rw[List.range_succ,A8,G7];rfl
     rw[e2]
     generalize (F++(List.range k).map fun k=>z++[97+k])=M at *
     simp only[lsF,iN,aBK,kI,kJ,BC,BK,R.bind_ok,p,m,AC,t,if_true,A8,AX,DR,B1,B2])
    rw[BH] at C
    subst C
    have K:lsB (iN sg F i u)=.ok (.nx (iN sg (F++(List.range sg).map fun k=>z++[97+k]) (i+1) b)):=by
     have g:fH (stN 4) lsF ((List.range sg).map fun k:Nat=>PyData.str ⟨#[97+k]⟩) [some (.d (.int (sg:Int))),some (.d (.int 5)),some (.l (F.map stD)),some (.d (.int (i:Int))),u]=_:=J
     unfold iN at g ⊢
     simp only[lsB,cO,qQ,oN,aN3,i5,aN4,aN5,kJ,BC,R.bind_ok,hsl,hi,g]
     simp
    rw[cO,mL a K,<-cO]
    refine zW s1 v f _ _ b G h (by rw[BD,AC,BH];omega) fun y L=>?_
    rcases A4.mp L with k|k
    .exact hF y k
    .obtain ⟨j,_,rfl⟩:=A3.mp k
     simp;omega
   .rename_i r
    cases h
    have a:lsT (iN sg F i u)=.ok false:=by
     have n:(i:Int) < (F.length:Int):=by omega
     have s:¬ (z.length:Int) < 5:=by omega
     simp[lsT,iN,gC,n,B,w,s]
    rw[cO,jO a]
    simp[iN]
def aO2{sg:Nat}(s1:1<=sg)(a:sg<=3){G:List (List Nat)}(h:sl5 sg 130 [[]] 0=some G):gT [.d (.int (sg:Int)),.d (.int 5)]=.ok (.d (.list (G.map stD))):=by
 have key:=zW s1 a 130 [[]] 0 none G h (by decide) (fun z hz=>by rw[AL.mp hz];exact CU _)
 have key:aP (cC lsT lsB) (sFz 2 (bU (vV 2))) [some (.d (.int (sg:Int))),some (.d (.int 5)),some (.l [.str ""]),some (.d (.int 0)),none]=.ok (.rt (.d (.list (G.map stD)))):=key
 unfold gT
 rw[kX]
 rw[cO] at key
 simp only[pM,cO,i5,R.bind_ok,BI,CP,Nat.reduceAdd,Nat.reduceSub,AX,DR,DH,DU,List.replicate,B1,B2,oO,lJ,fQ,gB,Nat.reduceLeDiff,if_true,lK,lA,key]
def all5(sg:Nat):List (List Nat):=(sl5 sg 130 [[]] 0).getD []
def aL3{sg:Nat}(s1:1<=sg)(g:sg<=3):sl5 sg 130 [[]] 0=some (all5 sg)/\(all5 sg).Pairwise sl/\(∀ z∈all5 sg,Sgs sg z/\z.length<=5)/\(∀ z,Sgs sg z->z.length<=5->z∈all5 sg)/\(all5 sg).length<=400:=by
 have ex:∀ c,fA sg c=true->∃ k,k < sg/\c=97+k:=fun c h=>⟨c - 97,(zL h).2,by have:=(zL h).1;omega⟩
 have b:∀ z,(z.all (fun c=>fA sg c))=true->Sgs sg z:=fun z h=>A1.mp h
 refine ⟨?_,?_,?_,?_,?_⟩
 .rcases (by omega:sg=1\/sg=2\/sg=3) with rfl|rfl|rfl<;>decide +kernel
 .refine uA ?_
  rcases (by omega:sg=1\/sg=2\/sg=3) with rfl|rfl|rfl<;>decide +kernel
 .intro z hz
  have:((all5 sg).all fun z=>(z.all fun c=>fA sg c) && decide (z.length<=5))=true:=by
   rcases (by omega:sg=1\/sg=2\/sg=3) with rfl|rfl|rfl<;>decide +kernel
  have:=A1.mp this z hz
  rw[AM] at this
  exact ⟨b z this.1,BA this.2⟩
 .intro z hz a
  have h0:([]:List Nat)∈all5 sg:=by rcases (by omega:sg=1\/sg=2\/sg=3) with rfl|rfl|rfl<;>decide +kernel
  have h1:∀ z∈all5 sg,z.length < 5->∀ i < sg,z++[97+i]∈all5 sg:=by rcases (by omega:sg=1\/sg=2\/sg=3) with rfl|rfl|rfl<;>decide +kernel
  have:∀ r:List Nat,Sgs sg r.reverse->r.length<=5->r.reverse∈all5 sg:=by
   intro r
   induction r with
   | nil=>exact fun _ _=>h0
   | cons c t ih=>
    intro d a
    rw[DZ] at d ⊢
    obtain ⟨k,e,rfl⟩:=ex c (d c (by simp))
    exact h1 _ (ih (fun c f=>d c (CY _ f)) (by simp at a;omega)) (by simp at a ⊢;omega) k e
  have:=this z.reverse (by rw[GI];exact hz) (by rw[List.length_reverse];exact a)
  rwa [GI] at this
 .rcases (by omega:sg=1\/sg=2\/sg=3) with rfl|rfl|rfl<;>decide +kernel
section
variable{r1 r2:List (List Nat)}{w1 w2:List Str}{sg:Nat}
def aJC(M:Rdw r1 w1 sg){z:List Nat}(hz:Sgs sg z)(x:z.length<=1000):c8 [.d (rdW r1 w1),.d (stD z)]=.ok (.d (.str (w1.getD (bN r1 0 z) ""))):=by
 have n1:0 < r1.length:=M.r.n1
 have o:dIx (rdW r1 w1) (.int 0)=.ok (.tuple (r1.map bF)):=rfl
 have i1:dIx (rdW r1 w1) (.int 1)=.ok (.tuple (w1.map .str)):=rfl
 obtain ⟨p,h,u,e⟩:=eD (fs:=stN 3) (fb:=wdB) (d:=fun c:Nat=>PyData.str ⟨#[c]⟩) (xs:=z) (ρ:=[some (.d (rdW r1 w1)),some (.d (stD z)),some (.d (.int 0)),none])
  (fun i ρ=>∃ u,ρ=[some (.d (rdW r1 w1)),some (.d (stD z)),some (.d (.int (bN r1 0 (z.take i):Int))),u]) ⟨none,rfl⟩ (fun i c ρ hi f=>by
  obtain ⟨u,e⟩:=f
  subst e
  have a:=hz c (AU hi)
  have l:Sgs sg (z.take i):=fun c a=>hz c (GH a)
  have j:=lO M.r (z.take i) l n1
  have t:bN r1 0 (z.take (i+1))=stN1 r1 (bN r1 0 (z.take i)) c:=by
   rw[DB,hi]
   unfold bN
   rw[D8];rfl
  rw[t]
  generalize bN r1 0 (z.take i)=q at *
  obtain ⟨g,v⟩:=gZ M.r j a
  have m:dIx (.tuple (r1.map bF)) (.int (q:Int))=.ok (bF (r1.getD q [])):=gX (ws:=w1.map .str) M.r j
  have s:dIx (bF (r1.getD q [])) (.int ((c - 97:Nat):Int))=.ok (.int (stN1 r1 q c:Int)):=mK (dU (by rw[AN,g];rfl))
  have k:=aK4 (aHR M.r.s3 a)
  refine ⟨_,[some (.d (rdW r1 w1)),some (.d (stD z)),some (.d (.int (stN1 r1 q c:Int))),some (.d (.str ⟨#[c]⟩))],rfl,.inl ?_,_,rfl⟩
  generalize bF (r1.getD q [])=B at *
  simp[wdB,o,m,k,s])
 subst e
 rw[E2] at h
 have b:bA (stD z)=.ok (z.map fun c:Nat=>PyData.str ⟨#[c]⟩):=y8 (z:=⟨z.toArray⟩) (by simp;omega)
 obtain ⟨_,n⟩:=M.w (lO M.r z hz n1)
 generalize w1.getD (bN r1 0 z) ""=y at *
 unfold c8
 rw[j5]
 generalize stD z=A at *
 simp[b,h,i1,n]
end
section
variable{r1 r2:List (List Nat)}{w1 w2:List Str}{sg:Nat}
theorem zX{α:Type}{fs:D9->Sg->Option Sg}{ft:Sg->R Bool}{fe:Sg->R D9}{ρ0:Sg}{d:α->D9}{g:α->D9}{p:α->Bool}:∀ {xs:List α},(∀ x∈xs,∃ ρ1,fs (d x) ρ0=some ρ1/\ft ρ1=.ok (p x)/\fe ρ1=.ok (g x))->compL fs ft fe ρ0 (xs.map d)=.ok ((xs.filter p).map g)
 | [],_=>rfl
 | x::t,h=>by
  obtain ⟨ρ1,h1,h2,h3⟩:=h x AQ
  rw[AX]
  unfold compL
  rw[h1,zX fun y a=>h y (AI _ a),pE,R.bind_ok,h2,R.noEx_ok,R.bind_ok]
  cases hp:p x with
  | true=>rw[if_pos rfl,h3,EV,if_pos hp];rfl
  | false=>rw[if_neg A0,EV,if_neg (by rw[hp];exact A0)]
def l7ρ(ns:List Int)(v k:Int)(sg n:Nat)(m1:D9)(u6 u7 u8 u9 u10:Option A):Sg:=[some (.d (iX ns)),some (.d (.int v)),some (.d (.int k)),some (.d (.int (sg:Int))),some (.d (.int (n:Int))),some (.d m1),u6,u7,u8,u9,u10]
def aQD(M1:Rdw r1 w1 sg)(M2:Rdw r2 w2 sg):Sh 0 (zO (eE r1 r2 w1 w2 0 0)):=by
 rcases prt_cases M1 M2 M1.r.n1 M2.r.n1 with ⟨q,_⟩|⟨z,q,s,_⟩
 .rw[q];exact ⟨rfl,AJ _⟩
 .rw[q]
  refine o7 0 ?_
  show (⟨z.toArray⟩:Str).cps.all _=true
  rw[FX]
  intro x hx
  have hx:x∈z:=by simpa using hx
  have:=BA (s x hx)
  have:=M1.r.s3
  exact AV (by omega)
def aO3(M1:Rdw r1 w1 sg)(M2:Rdw r2 w2 sg)(hN:r1.length * r2.length<=1000){ns:List Int}{v k:Int}{n:Nat}{u7 u8 u10:Option A} :
  l7E (l7ρ ns v k sg n (rdW r1 w1) (some (.d (rdW r2 w2))) u7 u8 (some (.d (zO (eE r1 r2 w1 w2 0 0)))) u10)=.ok (.rt (.d (.bool true))):=by
 have h1:=aI9 M1 M2 hN
 have h2:=aI9 M2 M1 (by rw[Nat.mul_comm];exact hN)
 rw[aL1 M1 M2 M1.r.n1 M2.r.n1] at h2
 generalize zO (eE r1 r2 w1 w2 0 0)=Z at *
 simp[l7E,l7ρ,h1,h2]
theorem rL(p:List Nat->Bool):∀ L:List (List Nat),(((L.filter p).map stD++[PyData.none])[0]?)=some (zO (L.find? p))
 | []=>rfl
 | x::t=>by
  rw[EV,B4]
  cases hp:p x with
  | true=>rw[if_pos rfl];rfl
  | false=>rw[if_neg A0];exact rL p t
def aRR(M1:Rdw r1 w1 sg)(M2:Rdw r2 w2 sg)(I:r1.length+r2.length<=6){ns:List Int}{v k:Int}{n:Nat}{u7 u8 u10:Option A} :
  ∃ u,l7F (l7ρ ns v k sg n (rdW r1 w1) (some (.d (rdW r2 w2))) u7 u8 (some (.d (zO (eE r1 r2 w1 w2 0 0)))) u10)=.ok (.nx (l7ρ ns v k sg n (rdW r1 w1) (some (.d (rdW r2 w2))) u7 u8 (some (.d (zO (eE r1 r2 w1 w2 0 0)))) u)):=by
 obtain ⟨t,D,i,a4,G⟩:=aL3 M1.r.s1 M1.r.s3
 have q:=aO2 M1.r.s1 M1.r.s3 t
 have h:bA (.list ((all5 sg).map stD))=.ok ((all5 sg).map stD):=iJ (by rw[AC];omega)
 have C:=zX (fs:=stN 0) (ft:=(e1 asB (e2 dNe (eA (bM 2 c8 (aB (vV 1) (aB (vV 0) aR)))) (eA (bM 2 c8 (aB (vV 2) (aB (vV 0) aR))))))) (fe:=eV 0) (ρ0:=[none,some (.d (rdW r1 w1)),some (.d (rdW r2 w2))]) (d:=stD) (g:=stD) (p:=fun z=>decide (w1.getD (bN r1 0 z) ""≠w2.getD (bN r2 0 z) "")) (xs:=all5 sg) fun z hz=>⟨_,rfl,by
  obtain ⟨s,l⟩:=i z hz
  have h1:=aJC M1 s (by omega)
  have h2:=aJC M2 s (by omega)
  obtain ⟨y,_⟩:=M1.w (lO M1.r z s M1.r.n1)
  obtain ⟨F,_⟩:=M2.w (lO M2.r z s M2.r.n1)
  have a:=zK y F
  have H:(!decide (w1.getD (bN r1 0 z) ""=w2.getD (bN r2 0 z) ""))=decide (w1.getD (bN r1 0 z) ""≠w2.getD (bN r2 0 z) ""):=by simp
  rw[H] at a
  generalize decide (w1.getD (bN r1 0 z) ""≠w2.getD (bN r2 0 z) "")=B at *
  generalize w1.getD (bN r1 0 z) ""=K at *
  generalize w2.getD (bN r2 0 z) ""=J at *
  simp[h1,h2,a],by simp⟩
 have o:=aID (L:=all5 sg) (m:=5) M1 M2 I (by decide) M1.r.n1 M2.r.n1 D (fun z hz=>(i z hz).1) a4
 have c:=rL (fun z=>decide (w1.getD (bN r1 0 z) ""≠w2.getD (bN r2 0 z) "")) (all5 sg)
 rw[o] at c
 have E:(((all5 sg).filter fun z=>decide (w1.getD (bN r1 0 z) ""≠w2.getD (bN r2 0 z) "")).map stD).length<=400:=by
  rw[AC]
  exact A6 (List.length_filter_le _ _) G
 generalize ((all5 sg).filter fun z=>decide (w1.getD (bN r1 0 z) ""≠w2.getD (bN r2 0 z) "")).map stD=e at *
 have b:kU (.list e) (.list [.none])=.ok (e++[.none]):=aDA (by simp;omega)
 have f:dIx (.list (e++[.none])) (.int 0)=.ok (zO (eE r1 r2 w1 w2 0 0)):=lB (dU (j:=0) c)
 have x:dNe (zO (eE r1 r2 w1 w2 0 0)) (zO (eE r1 r2 w1 w2 0 0))=.ok (.bool false):=mD (Sh.shaped (aQD M1 M2) (by decide))
 refine ⟨some (.l e),?_⟩
 generalize zO (eE r1 r2 w1 w2 0 0)=Z at *
 generalize (all5 sg).map stD=M at *
 simp[l7F,l7ρ,q,h,jA,C,b,f,x]
def aO4(M1:Rdw r1 w1 sg)(M2:Rdw r2 w2 sg)(hN:r1.length * r2.length<=1000){ns:List Int}{v k:Int}{n:Nat}(g:k=0->r1.length+r2.length<=6){u7 u8:Option A} :
  l7D (l7ρ ns v k sg n (rdW r1 w1) (some (.d (rdW r2 w2))) u7 u8 none none)=.ok (.rt (.d (.bool true))):=by
 have f:=aON M1 M2 (by omega) M1.r.n1 M2.r.n1
 have b:PyData.tuple [.int 0,.int 0]=prN 0 0:=rfl
 have a:cB 9 (bM 3 eZ (aB (vV 5) (aB (vV 6) (aB (vD (dZ (aB (eC (.int 0)) (aB (eC (.int 0)) aR)))) aR)))) (l7ρ ns v k sg n (rdW r1 w1) (some (.d (rdW r2 w2))) u7 u8 none none)=.ok (.nx (l7ρ ns v k sg n (rdW r1 w1) (some (.d (rdW r2 w2))) u7 u8 (some (.d (zO (eE r1 r2 w1 w2 0 0)))) none)):=by
  generalize zO (eE r1 r2 w1 w2 0 0)=Z at *
  simp[l7ρ,b,f]
 unfold l7D
 rw[cO,a,R.bind_ok]
 simp only
 rw[cO]
 have c:(e1 asB (e2 dEq (rV 2) (eC (.int 0)))) (l7ρ ns v k sg n (rdW r1 w1) (some (.d (rdW r2 w2))) u7 u8 (some (.d (zO (eE r1 r2 w1 w2 0 0)))) none)=.ok (decide (k=0)):=by
  have:=i3 k 0
  simp[l7ρ,this]
 rw[pN,c,R.bind_ok]
 by_cases h:k=0
 .rw[AV h,if_pos rfl]
  obtain ⟨u,e⟩:=aRR M1 M2 (g h) (ns:=ns) (v:=v) (k:=k) (n:=n) (u7:=u7) (u8:=u8) (u10:=none)
  rw[e,R.bind_ok]
  exact aO3 M1 M2 hN
 .rw[AZ h,if_neg A0,tW,R.bind_ok]
  exact aO3 M1 M2 hN
def aRS(M1:Rdw r1 w1 sg)(p:r1.length<=400){ns:List Int}{v k:Int}{n:Nat}{m2:D9}:∃ (r2:List (List Nat)) (w2:List Str) (u8:Option A),l7N (l7ρ ns v k sg n (rdW r1 w1) (some (.d m2)) none none none none)=.ok (.nx (l7ρ ns v k sg n (rdW r1 w1) (some (.d m2)) (some (.d (.list [.list (r2.map bF),.list (w2.map .str)]))) u8 none none))/\Rdw r2 w2 sg/\r2.length=2 * r1.length:=by
 obtain ⟨g,m⟩:=mC ns 3
 obtain ⟨a,h2⟩:=mC ns 2
 obtain ⟨b,h1⟩:=mC ns 1
 have j:dMod (.int g) (.int 2147483647)=.ok (.int (g % 2147483647)):=dB (by decide)
 obtain ⟨r2,w2,e,M2,i⟩:=aQC M1 p (g % 2147483647)
 have l:dDiv (.int v) (.int 27)=.ok (.int (v / 27)):=gS (by decide) (by decide)
 have h:dMod (.int (v / 27)) (.int 2)=.ok (.int (v / 27 % 2)):=dB (by decide)
 have f:=i3 (v / 27 % 2) 1
 have wl:=M2.wl
 have n1:0 < r1.length:=M1.r.n1
 by_cases hb:v / 27 % 2=1
 .rw[AV hb] at f
  have h0:=B5 a (show (w2.length:Int)≠0 by omega)
  have o:=BW a (show (0:Int) < (w2.length:Int) by omega)
  have d2:dMod (.int a) (.int (w2.length:Int))=.ok (.int (a % (w2.length:Int))):=dB (by omega)
  have d1:dMod (.int b) (.int 3)=.ok (.int (b % 3)):=dB (by decide)
  obtain ⟨w,hw,s⟩:∃ w,pU w/\dIx (.list [.str "by",.str "out",.str "ever"]) (.int (b % 3))=.ok (.str w):=by
   have:=B5 b (show (3:Int)≠0 by decide)
   have:=BW b (show (0:Int) < 3 by decide)
   rcases (by omega:b % 3=0\/b % 3=1\/b % 3=2) with q|q|q
   · rw [q]; exact ⟨"by", .inl rfl, rfl⟩
   · rw [q]; exact ⟨"out", .inr (.inl rfl), rfl⟩
   · rw [q]; exact ⟨"ever", .inr (.inr rfl), rfl⟩
  have hx:ixN (w2.map PyData.str).length (a % (w2.length:Int))=some (a % (w2.length:Int)).toNat:=by
   rw[AC]
   unfold ixN
   rw[if_pos h0,if_pos o]
  have c:(w2.map PyData.str).set (a % (w2.length:Int)).toNat (.str w)=(w2.set (a % (w2.length:Int)).toNat w).map .str:=by rw[List.map_set]
  refine ⟨r2,w2.set (a % (w2.length:Int)).toNat w,some (.d (.int (a % (w2.length:Int)))),?_,⟨M2.r,by rw[CG];exact wl,fun y t=>?_⟩,i⟩
  .rw[<-c]
   have d2:dMod (.int a) (.int ((w2.map PyData.str).length:Int))=.ok (.int (a % (w2.length:Int))):=by rw[AC];exact d2
   generalize (w2.map PyData.str)=u at *
   generalize (r2.map bF)=R2 at *
   generalize a % (w2.length:Int)=x at *
   simp only[l7N,xE,l7ρ,fQ,gB,qO,lA,oN,kI,qP,kB,i5,kJ,R.bind_ok,nJ,BC,BK,BI,CP,Nat.reduceAdd,if_true,m,j,e,B1,B2,l,h,f,pO,h2,d2,h1,d1,aC0,lJ,Nat.reduceLeDiff,s,hx]
   rfl
  .rcases List.mem_or_eq_of_mem_set t with z|z
   · exact M2.ww y z
   · rw [z]; exact hw
 .rw[AZ hb] at f
  refine ⟨r2,w2,none,?_,M2,i⟩
  generalize (w2.map PyData.str)=u at *
  generalize (r2.map bF)=R2 at *
  simp only[l7N,xE,l7ρ,fQ,gB,qO,lA,oN,kI,qP,kB,i5,kJ,R.bind_ok,nJ,BC,BK,BI,CP,Nat.reduceAdd,if_true,m,j,e,B1,B2,l,h,f,pO]
  rfl
def aRT(M1:Rdw r1 w1 sg)(M2:Rdw r2 w2 sg)(h1:r1.length<=20)(h2:r2.length<=20){ns:List Int}{v k:Int}{n:Nat}(m:k=0->r1.length+r2.length<=6) :
  l7C (l7ρ ns v k sg n (rdW r1 w1) (some (.d (rdW r2 w2))) none none none none)=.ok (.rt (.d (.bool true))):=by
 have i:∀ u7 u8,(e1 asB (e2 dEq (rV 2) (eC (.int 1)))) (l7ρ ns v k sg n (rdW r1 w1) (some (.d (rdW r2 w2))) u7 u8 none none)=.ok (decide (k=1)):=fun u7 u8=>by
  have:=i3 k 1
  simp[l7ρ,this]
 unfold l7C
 rw[cO,pN,i,R.bind_ok]
 by_cases h:k=1
 .rw[AV h,if_pos rfl]
  obtain ⟨c,w3,u8,e,l,g⟩:=aRS M1 (by omega) (ns:=ns) (v:=v) (k:=k) (n:=n) (m2:=rdW r2 w2)
  rw[cO,e,R.bind_ok]
  have f:∀ a b:D9,dIx (.list [a,b]) (.int 0)=.ok a:=fun _ _=>rfl
  have i1:∀ a b:D9,dIx (.list [a,b]) (.int 1)=.ok b:=fun _ _=>rfl
  have j:cB 6 (vD (dZ (aB (e1 dTup (e2 dIx (rV 7) (eC (.int 0)))) (aB (e1 dTup (e2 dIx (rV 7) (eC (.int 1)))) aR)))) (l7ρ ns v k sg n (rdW r1 w1) (some (.d (rdW r2 w2))) (some (.d (.list [.list (c.map bF),.list (w3.map .str)]))) u8 none none)=.ok (.nx (l7ρ ns v k sg n (rdW r1 w1) (some (.d (rdW c w3))) (some (.d (.list [.list (c.map bF),.list (w3.map .str)]))) u8 none none)):=by
   have:rdW c w3=.tuple [.tuple (c.map bF),.tuple (w3.map .str)]:=rfl
   rw[this]
   generalize (w3.map PyData.str)=p at *
   generalize (c.map bF)=o at *
   simp[l7ρ,f,i1]
  simp only
  rw[j,R.bind_ok]
  refine aO4 M1 l ?_ (fun z=>by omega)
  rw[g]
  have:r1.length * (2 * r1.length)<=20 * (2 * 20):=Nat.mul_le_mul h1 (Nat.mul_le_mul_left 2 h1)
  omega
 .rw[AZ h,if_neg A0,tW,R.bind_ok]
  refine aO4 M1 M2 ?_ m
  have:r1.length * r2.length<=20 * 20:=Nat.mul_le_mul h1 h2
  omega
def aDB{ns:List Int}{at' W:Int}{n sg:Nat}(a:0<=at')(h1:1<=n)(h2:n<=1000)(s1:1<=sg)(c:sg<=3)(w1:1<=W)(w3:W<=3):∃ (rows:List (List Nat)) (ws:List Str),dD [.d (iX ns),.d (.int at'),.d (.int (n:Int)),.d (.int (sg:Int)),.d (.int W)]=.ok (.d (rdW rows ws))/\Rdw rows ws sg/\rows.length=n:=by
 obtain ⟨rows,ws,e,R,b,f,hw⟩:=aOR (ns:=ns) a h1 h2 s1 c w1 w3
 exact ⟨rows,ws,e,⟨R,by omega,fun w h=>hw w h⟩,b⟩
def aRU(M1:Rdw r1 w1 sg){ns:List Int}{v k:Int}{n:Nat}(G:r1.length=n)(h2:n<=20)(C:k=0->n<=3) :
  l7A (l7ρ ns v k sg n (rdW r1 w1) none none none none none)=.ok (.rt (.d (.bool true))):=by
 have n1:1<=n:=by have:=M1.r.n1;omega
 have s1:=M1.r.s1
 have s3:=M1.r.s3
 have m:dDiv (.int v) (.int 27)=.ok (.int (v / 27)):=gS (by decide) (by decide)
 have j:dMod (.int (v / 27)) (.int 3)=.ok (.int (v / 27 % 3)):=dB (by decide)
 have x:=i3 (v / 27 % 3) 1
 have b:=i3 k 2
 have B:(oC (e1 asB (e2 dEq (rV 2) (eC (.int 2)))) (e1 asB (e2 dEq (e2 dMod (e2 dDiv (rV 1) (eC (.int 27))) (eC (.int 3))) (eC (.int 1))))) (l7ρ ns v k sg n (rdW r1 w1) none none none none none)=.ok (decide (k=2) && decide (v / 27 % 3=1)):=by
  cases hd:decide (k=2) with
  | true=>rw[hd] at b;simp[l7ρ,b,m,j,x]
  | false=>rw[hd] at b;simp[l7ρ,b]
 unfold l7A
 rw[cO,pN,B,R.bind_ok]
 cases hb:(decide (k=2) && decide (v / 27 % 3=1)) with
 | true=>
  rw[if_pos rfl]
  obtain ⟨sg2,c,s,A,i⟩:∃ sg2:Nat,1+(sg:Int) % 3=(sg2:Int)/\1<=sg2/\sg2<=3/\sg≠sg2:=⟨1+sg % 3,by omega,by omega,by omega,by omega⟩
  have g:dMod (.int (sg:Int)) (.int 3)=.ok (.int ((sg:Int) % 3)):=dB (by decide)
  obtain ⟨r2,w2,e,M2,l⟩:=aDB (ns:=ns) (at':=4) (W:=2) (n:=n) (sg:=sg2) (by decide) n1 (by omega) s A (by decide) (by decide)
  have f1:=aI7 M1 M2 i
  have f2:=aI7 M2 M1 (Ne.symm i)
  have p:=aOY M1 M2 i (.list [.tuple [.int 0,.int 0]])
  have q:l7X (l7ρ ns v k sg n (rdW r1 w1) none none none none none)=.ok (.rt (.d (.bool true))):=by
   unfold l7X l7ρ
   simp only[cO,lK,kB,fQ,gB,qO,lA,i5,kI,kJ,R.bind_ok,nJ,BC,BK,BI,CP,Nat.reduceAdd,if_true,g,tX,c,e,B1,B2,aBJ,aK1,qP,f1,f2,p,pO,aC0,lJ,aBI,Nat.reduceLeDiff,vU]
   rfl
  rw[q];rfl
 | false=>
  rw[if_neg A0,tW,R.bind_ok]
  obtain ⟨a,h⟩:=mC ns 2
  have h0:=B5 a (show (n:Int)≠0 by omega)
  have D:=BW a (show (0:Int) < (n:Int) by omega)
  have d2:dMod (.int a) (.int (n:Int))=.ok (.int (a % (n:Int))):=dB (by omega)
  obtain ⟨n2,f,t,E⟩:∃ n2:Nat,1+a % (n:Int)=(n2:Int)/\1<=n2/\n2<=n:=⟨(1+a % (n:Int)).toNat,by omega,by omega,by omega⟩
  have w:dDiv (.int v) (.int 9)=.ok (.int (v / 9)):=gS (by decide) (by decide)
  have u:dMod (.int (v / 9)) (.int 3)=.ok (.int (v / 9 % 3)):=dB (by decide)
  have F:=B5 (v / 9) (show (3:Int)≠0 by decide)
  have y:=BW (v / 9) (show (0:Int) < 3 by decide)
  obtain ⟨r2,w2,e,M2,l⟩:=aDB (ns:=ns) (at':=4+(n:Int)) (W:=1+v / 9 % 3) (n:=n2) (sg:=sg) (by omega) t (by omega) s1 s3 (by omega) (by omega)
  have o:cB 6 (bM 5 dD (aB (vV 0) (aB (vD (e2 c6 (eC (.int 4)) (rV 4))) (aB (vD (e2 c6 (eC (.int 1)) (e2 dMod (eA (bM 2 cP (aB (vV 0) (aB (vD (eC (.int 2))) aR)))) (rV 4)))) (aB (vV 3) (aB (vD (e2 c6 (eC (.int 1)) (e2 dMod (e2 dDiv (rV 1) (eC (.int 9))) (eC (.int 3))))) aR)))))) (l7ρ ns v k sg n (rdW r1 w1) none none none none none)=.ok (.nx (l7ρ ns v k sg n (rdW r1 w1) (some (.d (rdW r2 w2))) none none none none)):=by
   unfold l7ρ
   simp only[lK,kB,fQ,gB,qO,lA,i5,kI,qP,kJ,R.bind_ok,nJ,BC,BK,BI,CP,Nat.reduceAdd,if_true,h,d2,tX,f,w,u,e,B1,B2]
  simp only
  rw[cO,o,R.bind_ok]
  exact aRT M1 M2 (by omega) (by omega) (fun z=>by have:=C z;omega)
def aIH(ns:List Int)(o:ns.length<=63):xF [.d (.list (ns.map .int))]=.ok (.d (.bool true)):=by
 obtain ⟨v,m⟩:=mC ns 0
 obtain ⟨f,j⟩:=mC ns 1
 have s:∀ y:Int,dMod (.int y) (.int 3)=.ok (.int (y % 3)):=fun y=>dB (by decide)
 have p:dDiv (.int v) (.int 3)=.ok (.int (v / 3)):=gS (by decide) (by decide)
 have q:dDiv (.int v) (.int 9)=.ok (.int (v / 9)):=gS (by decide) (by decide)
 have u:dDiv (.int ((ns.length:Int) - 4)) (.int 2)=.ok (.int (((ns.length:Int) - 4) / 2)):=gS (by decide) (by decide)
 have b:=lL ns
 have k0:=B5 v (show (3:Int)≠0 by decide)
 have k3:=BW v (show (0:Int) < 3 by decide)
 have G:=B5 (v / 3) (show (3:Int)≠0 by decide)
 have J:=BW (v / 3) (show (0:Int) < 3 by decide)
 have I:=B5 (v / 9) (show (3:Int)≠0 by decide)
 have C:=BW (v / 9) (show (0:Int) < 3 by decide)
 have c0:=B5 f (show (3:Int)≠0 by decide)
 have H:=BW f (show (0:Int) < 3 by decide)
 obtain ⟨sg,a,s1,F⟩:∃ sg:Nat,1+v / 3 % 3=(sg:Int)/\1<=sg/\sg<=3:=⟨(1+v / 3 % 3).toNat,by omega,by omega,by omega⟩
 have r:Fl.d2 yN (.int 20) (.int (((ns.length:Int) - 4) / 2))=.ok (.int (min 20 (((ns.length:Int) - 4) / 2))):=by
  have:yN 20 (((ns.length:Int) - 4) / 2)=min 20 (((ns.length:Int) - 4) / 2):=by
   unfold yN
   split<;>omega
  rw[<-this];rfl
 obtain ⟨n0,l,x,D⟩:∃ n0:Nat,max 1 (min 20 (((ns.length:Int) - 4) / 2))=(n0:Int)/\1<=n0/\n0<=20:=⟨(max 1 (min 20 (((ns.length:Int) - 4) / 2))).toNat,by omega,by omega,by omega⟩
 have t:Fl.d2 yM (.int 1) (.int (min 20 (((ns.length:Int) - 4) / 2)))=.ok (.int (n0:Int)):=by
  have:yM 1 (min 20 (((ns.length:Int) - 4) / 2))=(n0:Int):=by
   rw[<-l]
   unfold yM
   split<;>omega
  rw[<-this];rfl
 have g:=i3 (v % 3) 0
 obtain ⟨n,c,B,A,E⟩:∃ n:Nat,(if v % 3=0 then 1+f % 3 else (n0:Int))=(n:Int)/\1<=n/\n<=20/\(v % 3=0->n<=3):=by
  by_cases h:v % 3=0
  .exact ⟨(1+f % 3).toNat,by rw[if_pos h];omega,by omega,by omega,fun _=>by omega⟩
  .exact ⟨n0,by rw[if_neg h],x,D,fun z=>absurd z h⟩
 obtain ⟨r1,w1,e,M1,w⟩:=aDB (ns:=ns) (at':=4) (W:=1+v / 9 % 3) (n:=n) (sg:=sg) (by decide) B (by omega) s1 F (by omega) (by omega)
 have i:=aRU M1 (ns:=ns) (v:=v) (k:=v % 3) w A E
 unfold l7ρ at i
 show xF [.d (iX ns)]=_
 unfold xF
 rw[aC7]
 by_cases h:v % 3=0
 .rw[if_pos h] at c
  rw[AV h] at g
  simp only[pM,cO,lK,kB,fQ,gB,qO,lA,i5,R.bind_ok,nJ,BI,CP,Nat.reduceAdd,AX,DR,DH,DU,List.replicate,Nat.reduceSub,BC,BK,if_true,B1,B2,m,oN,kI,qP,kJ,s,p,q,tX,aFF,a,b,u,r,t,pN,g,pO,j,c,e,i]
 .rw[if_neg h] at c
  have c:n0=n:=by omega
  subst c
  rw[AZ h] at g
  simp only[pM,cO,lK,kB,fQ,gB,qO,lA,i5,R.bind_ok,nJ,BI,CP,Nat.reduceAdd,AX,DR,DH,DU,List.replicate,Nat.reduceSub,BC,BK,if_true,B1,B2,m,oN,kI,qP,kJ,s,p,q,tX,aFF,a,b,u,r,t,pN,g,pO,CC,DG,tW,e,i]
end
section
variable{P:Program}{w:World}{K:Frag}{mg:Str->Option V9}{base:Heap}{TH:Hp}
def aL4(T:Txt w K mg)(Erp_NotLike:∃ W C,ErrP K mg "NotLike" W C)(U:DefAt K mg "reached" (top 5) ["begin","after","done"])(R:DefAt K mg "strip_to" (top 6) ["rows","number"])(V:DefAtT K mg base TH qsT "first_to" (top 7) ["begin","after","wanted"])(X:DefAt K mg "signs_by" (top 9) ["reader"])(A:DefAt K mg "after_pair" (top 11) ["one","other","pair"])(y:DefAt K mg "same_word" (top 12) ["one","other","pair"])(L:DefAtT K mg base TH qsT "parted" (top 13) ["one","other","begin"])(B:DefAt K mg "held" (top 15) ["one","other"])(D:DefAt K mg "are_rooms" (top 16) ["one","other","pair"])(F:DefAt K mg "shows_alike" (top 17) ["one","other","pairs"])(E:DefAt K mg "_law_cell" (top 19) ["_law_script","_law_k"])(I:DefAt K mg "_law_oneway" (top 20) ["_law_script","_law_at","_law_rooms","_law_signs","_law_words"])(x:DefAt K mg "_law_firsts" (top 21) ["_law_one","_law_two","_law_pair"])(N:DefAt K mg "_law_parting" (top 22) ["_law_one","_law_two","_law_pair"])(O:DefAt K mg "_law_strips" (top 23) ["_law_signs","_law_longest"])(z:DefAt K mg "_law_word" (top 24) ["_law_machine","_law_strip"])(J:DefAt K mg "_law_pairs_right" (top 25) ["_law_one","_law_two","_law_pairs"])(M:DefAt K mg "_law_remade" (top 26) ["_law_machine","_law_cell_here"])(G:DefAt K mg "_law_refused" (top 27) ["_law_one","_law_two"])(H:DefAt K mg "_law_right" (top 28) ["_law_one","_law_two","_law_due"]){Q:Az}{v:FuncData}(S:Fun K "law" "law" (top 29) Q v):FnOk P w K mg base (CXe P w) 18 Q v ["_law_script"] (aCN K TH):=by
 obtain ⟨Wp_NotLike,Cp_NotLike,d⟩:=Erp_NotLike
 have s:=@aC8 P w K mg base TH T U
 have q:=@aAA P w K mg base TH T R
 have r:=@aAB P w K mg base TH T V s q
 have g:=@aAC P w K mg base TH T X
 have c:=@wY P w K mg base TH T A
 have e:=@zR P w K mg base TH T y
 have u:=@aFX P w K mg base TH T L c e r
 have t:=aLX (P:=P) (w:=w) (base:=base) (TH:=TH) T B g u d
 have p:=@zS P w K mg base TH T D
 have a:=@vP P w K mg base TH T F g e p c
 have f:=@zT P w K mg base TH T E
 have j:=@vQ P w K mg base TH T I f
 have k:=@vR P w K mg base TH T x
 have i:=@uC P w K mg base TH T N k
 have m:=@vS P w K mg base TH T O
 have o:=@zU P w K mg base TH T z
 have b:=@oX P w K mg base TH T J
 have l:=@vT P w K mg base TH T M
 have h:=uD (P:=P) (w:=w) (base:=base) (TH:=TH) T G t d
 have n:=@wZ P w K mg base TH T H t b a
 exact aNG (aOT (P:=P) (w:=w) (base:=base) (TH:=TH) T S f j a h l i m o n) aIH
end
section
variable{w:World}{K:Frag}{h:Heap}{mg:Str->Option V9}
def aO5(X:K.In h)(G:h.Ns mainGlobals mg){a:Nat}(z_all:PySem.W.nsIn K mainGlobals "all"=some none)(z_dict:PySem.W.nsIn K mainGlobals "dict"=some none)(z_enumerate:PySem.W.nsIn K mainGlobals "enumerate"=some none)(z_int:PySem.W.nsIn K mainGlobals "int"=some none)(z_isinstance:PySem.W.nsIn K mainGlobals "isinstance"=some none)(z_len:PySem.W.nsIn K mainGlobals "len"=some none)(z_list:PySem.W.nsIn K mainGlobals "list"=some none)(z_max:PySem.W.nsIn K mainGlobals "max"=some none)(z_min:PySem.W.nsIn K mainGlobals "min"=some none)(z_range:PySem.W.nsIn K mainGlobals "range"=some none)(z_tuple:PySem.W.nsIn K mainGlobals "tuple"=some none)(z_zip:PySem.W.nsIn K mainGlobals "zip"=some none)(s_SIGNS:PySem.W.nsIn K mainGlobals "SIGNS"=some (some (.str "abc" a))):Txt w K mg:=⟨B3 X G z_all,B3 X G z_dict,B3 X G z_enumerate,B3 X G z_int,B3 X G z_isinstance,B3 X G z_len,B3 X G z_list,B3 X G z_max,B3 X G z_min,B3 X G z_range,B3 X G z_tuple,B3 X G z_zip,⟨a,GZ X G s_SIGNS⟩⟩
def aO6{x:Str}(X:K.In h)(G:h.Ns mainGlobals mg){W C c:Az}{g b:List V9}{f o:Str}{j:Bool}{i:List Str}{a:Option Bool}{e:Option Az}{c0 l k n r:Option V9}{q:V9}{p:Option Az}{cd:ClassData}{d:Array (Option V9)}
  (m:PySem.W.nsIn K mainGlobals x=some (some (.ref C)))
  (e1:K.lookup C=some (excClassObj f o C c g (.ref W::SX.iT) true i b j a e c0 l k n r "ValueError.__new__"))
  (e2:PySem.W.findIn K (.ref C) "__setattr__"=some (some (.builtin "object.__setattr__"))) (e3:PySem.W.findIn K (.ref C) "__getattribute__"=some (some (.builtin "BaseException.__getattribute__"))) (e4:PySem.W.findIn K (.ref C) "__getattr__"=some none) (e5:PySem.W.findIn K (.ref C) "__class__"=some (some (.builtin "object.__class__")))
  (e6:PySem.W.specialIn K (.builtin "object.__class__") "__get__"=some (some (.builtin "getset_descriptor.__get__"))) (e7:PySem.W.takesIn K (.builtin "object.__class__")=some true) (e8:PySem.W.keepIn K (.ref C)=true)
  (n1:PySem.W.nsOkIn K c=true) (n2:PySem.W.nsIn K c "__init__"=some none) (w1:K.lookup W=some ⟨q,p,.cls cd,d⟩) (w2:PySem.W.nsOkIn K cd.ns=true) (w3:PySem.W.nsIn K cd.ns "__init__"=some none):∃ W C,ErrP K mg x W C:=
 ⟨W,C,aJQ e1 e2 e3 e4 e5 e6 e7 e8,GZ X G m,⟨_,_,c,_,_,_,_,_,_,_,_,_,_,_,e1,n1,n2⟩,⟨_,_,cd,_,w1,w2,w3⟩⟩
def rec_in{q:Program}{x:Str}(h:((recsOf q).any fun d=>d.name == x)=true):∃ d∈recsOf q,d.name=x:=by
 obtain ⟨d,a,e⟩:=HL.mp h
 exact ⟨d,a,FY e⟩
def aO7{i f:Az}{m:V9}{od j:Option Az}{g:Array (Option V9)}{kV doc pm b ct:V9}(X:K.In h)(G:h.Ns mainGlobals mg)(d:mg "law"=some (.ref i))(a:PySem.W.nsIn K mainGlobals "law"=some (some (.ref f)))(l:K.lookup f=some ⟨m,od,.func (PySem.W.fnOf "law" "law" (fZ (top 29)) (cL (top 29)) (aL (top 29)) .none kV doc pm j b ct),g⟩)
  (c:PySem.W.codeIn K b "law"=true) (k:PySem.W.keepIn K (.ref f)=true):∃ fd,Fun K "law" "law" (top 29) i fd/\∀ (s:S9) (u:V9),BindsTo s fd ⟨[u],[]⟩ [("_law_script",u)]:=by
 have e:=d.symm.trans (GZ X G a)
 cases e
 exact ⟨_,aDV (st:=top 29) l c k,fun s u=>.of_eq rfl⟩
end
end Mc
open PySem PySem.W PyProof.Rows
set_option maxRecDepth 100000 in
set_option maxHeartbeats 0 in
theorem PySem.Challenge.cw_striproam_k27_held_together_holds : PySem.Challenge.rw_striproam_k27_held_together.Holds := by
 w_on;o_law;k_head;(case hw=>w_witness2)
 k_fill
 refine Fl.aKC (l:=PySem.Challenge.rw_striproam_k27_held_together) (k:=18) (x:="_law_script") (qs:=Mc.qsT) (xs:=["first_to","parted"]) ?hx ?hNT rfl rfl ⟨rfl,by decide,by decide⟩ (fun w h Y=>PySem.W.km_in_of Y) ?F
 case hx=>
  intro x hx
  simp only[AS,BF,C0] at hx
  rcases hx with rfl|rfl<;>exact Mc.rec_in (by decide +kernel)
 case hNT=>
  intro w
  kernel_rfl
 case F=>
  intro w mg H h d G i
  have M:L2.DefAt (L2.KOf d) mg "reached" (Mc.top 5) ["begin","after","done"]:=by dsimp only[L2.KOf];refine' Mc.cM d G ?a ?l ?c ?k ?b;(case a=>k_is);(case l=>k_is);(case c=>k_is);(case k=>k_is);(case b=>exact fun _ _ _ _ _ _=>Mc.bn3 fun _ _ _=>rfl)
  have K:L2.DefAt (L2.KOf d) mg "strip_to" (Mc.top 6) ["rows","number"]:=by dsimp only[L2.KOf];refine' Mc.cM d G ?a ?l ?c ?k ?b;(case a=>k_is);(case l=>k_is);(case c=>k_is);(case k=>k_is);(case b=>exact fun _ _ _ _ _ _=>Mc.bn2 fun _ _=>rfl)
  have N:L2.DefAt (L2.KOf d) mg "first_to" (Mc.top 7) ["begin","after","wanted"]:=by dsimp only[L2.KOf];refine' Mc.cM d G ?a ?l ?c ?k ?b;(case a=>k_is);(case l=>k_is);(case c=>k_is);(case k=>k_is);(case b=>exact fun _ _ _ _ _ _=>Mc.bn3 fun _ _ _=>rfl)
  have O:L2.DefAt (L2.KOf d) mg "signs_by" (Mc.top 9) ["reader"]:=by dsimp only[L2.KOf];refine' Mc.cM d G ?a ?l ?c ?k ?b;(case a=>k_is);(case l=>k_is);(case c=>k_is);(case k=>k_is);(case b=>exact fun _ _ _ _ _ _=>Mc.bn1 fun _=>rfl)
  have j:L2.DefAt (L2.KOf d) mg "after_pair" (Mc.top 11) ["one","other","pair"]:=by dsimp only[L2.KOf];refine' Mc.cM d G ?a ?l ?c ?k ?b;(case a=>k_is);(case l=>k_is);(case c=>k_is);(case k=>k_is);(case b=>exact fun _ _ _ _ _ _=>Mc.bn3 fun _ _ _=>rfl)
  have f:L2.DefAt (L2.KOf d) mg "same_word" (Mc.top 12) ["one","other","pair"]:=by dsimp only[L2.KOf];refine' Mc.cM d G ?a ?l ?c ?k ?b;(case a=>k_is);(case l=>k_is);(case c=>k_is);(case k=>k_is);(case b=>exact fun _ _ _ _ _ _=>Mc.bn3 fun _ _ _=>rfl)
  have z:L2.DefAt (L2.KOf d) mg "parted" (Mc.top 13) ["one","other","begin"]:=by dsimp only[L2.KOf];refine' Mc.cM d G ?a ?l ?c ?k ?b;(case a=>k_is);(case l=>k_is);(case c=>k_is);(case k=>k_is);(case b=>exact fun _ _ _ _ _ _=>Mc.bn3 fun _ _ _=>rfl)
  have n:L2.DefAt (L2.KOf d) mg "held" (Mc.top 15) ["one","other"]:=by dsimp only[L2.KOf];refine' Mc.cM d G ?a ?l ?c ?k ?b;(case a=>k_is);(case l=>k_is);(case c=>k_is);(case k=>k_is);(case b=>exact fun _ _ _ _ _ _=>Mc.bn2 fun _ _=>rfl)
  have o:L2.DefAt (L2.KOf d) mg "are_rooms" (Mc.top 16) ["one","other","pair"]:=by dsimp only[L2.KOf];refine' Mc.cM d G ?a ?l ?c ?k ?b;(case a=>k_is);(case l=>k_is);(case c=>k_is);(case k=>k_is);(case b=>exact fun _ _ _ _ _ _=>Mc.bn3 fun _ _ _=>rfl)
  have q:L2.DefAt (L2.KOf d) mg "shows_alike" (Mc.top 17) ["one","other","pairs"]:=by dsimp only[L2.KOf];refine' Mc.cM d G ?a ?l ?c ?k ?b;(case a=>k_is);(case l=>k_is);(case c=>k_is);(case k=>k_is);(case b=>exact fun _ _ _ _ _ _=>Mc.bn3 fun _ _ _=>rfl)
  have p:L2.DefAt (L2.KOf d) mg "_law_cell" (Mc.top 19) ["_law_script","_law_k"]:=by dsimp only[L2.KOf];refine' Mc.cM d G ?a ?l ?c ?k ?b;(case a=>k_is);(case l=>k_is);(case c=>k_is);(case k=>k_is);(case b=>exact fun _ _ _ _ _ _=>Mc.bn2 fun _ _=>rfl)
  have v:L2.DefAt (L2.KOf d) mg "_law_oneway" (Mc.top 20) ["_law_script","_law_at","_law_rooms","_law_signs","_law_words"]:=by dsimp only[L2.KOf];refine' Mc.cM d G ?a ?l ?c ?k ?b;(case a=>k_is);(case l=>k_is);(case c=>k_is);(case k=>k_is);(case b=>exact fun _ _ _ _ _ _=>Mc.bn5 fun _ _ _ _ _=>rfl)
  have e:L2.DefAt (L2.KOf d) mg "_law_firsts" (Mc.top 21) ["_law_one","_law_two","_law_pair"]:=by dsimp only[L2.KOf];refine' Mc.cM d G ?a ?l ?c ?k ?b;(case a=>k_is);(case l=>k_is);(case c=>k_is);(case k=>k_is);(case b=>exact fun _ _ _ _ _ _=>Mc.bn3 fun _ _ _=>rfl)
  have B:L2.DefAt (L2.KOf d) mg "_law_parting" (Mc.top 22) ["_law_one","_law_two","_law_pair"]:=by dsimp only[L2.KOf];refine' Mc.cM d G ?a ?l ?c ?k ?b;(case a=>k_is);(case l=>k_is);(case c=>k_is);(case k=>k_is);(case b=>exact fun _ _ _ _ _ _=>Mc.bn3 fun _ _ _=>rfl)
  have D:L2.DefAt (L2.KOf d) mg "_law_strips" (Mc.top 23) ["_law_signs","_law_longest"]:=by dsimp only[L2.KOf];refine' Mc.cM d G ?a ?l ?c ?k ?b;(case a=>k_is);(case l=>k_is);(case c=>k_is);(case k=>k_is);(case b=>exact fun _ _ _ _ _ _=>Mc.bn2 fun _ _=>rfl)
  have g:L2.DefAt (L2.KOf d) mg "_law_word" (Mc.top 24) ["_law_machine","_law_strip"]:=by dsimp only[L2.KOf];refine' Mc.cM d G ?a ?l ?c ?k ?b;(case a=>k_is);(case l=>k_is);(case c=>k_is);(case k=>k_is);(case b=>exact fun _ _ _ _ _ _=>Mc.bn2 fun _ _=>rfl)
  have y:L2.DefAt (L2.KOf d) mg "_law_pairs_right" (Mc.top 25) ["_law_one","_law_two","_law_pairs"]:=by dsimp only[L2.KOf];refine' Mc.cM d G ?a ?l ?c ?k ?b;(case a=>k_is);(case l=>k_is);(case c=>k_is);(case k=>k_is);(case b=>exact fun _ _ _ _ _ _=>Mc.bn3 fun _ _ _=>rfl)
  have A:L2.DefAt (L2.KOf d) mg "_law_remade" (Mc.top 26) ["_law_machine","_law_cell_here"]:=by dsimp only[L2.KOf];refine' Mc.cM d G ?a ?l ?c ?k ?b;(case a=>k_is);(case l=>k_is);(case c=>k_is);(case k=>k_is);(case b=>exact fun _ _ _ _ _ _=>Mc.bn2 fun _ _=>rfl)
  have t:L2.DefAt (L2.KOf d) mg "_law_refused" (Mc.top 27) ["_law_one","_law_two"]:=by dsimp only[L2.KOf];refine' Mc.cM d G ?a ?l ?c ?k ?b;(case a=>k_is);(case l=>k_is);(case c=>k_is);(case k=>k_is);(case b=>exact fun _ _ _ _ _ _=>Mc.bn2 fun _ _=>rfl)
  have r:L2.DefAt (L2.KOf d) mg "_law_right" (Mc.top 28) ["_law_one","_law_two","_law_due"]:=by dsimp only[L2.KOf];refine' Mc.cM d G ?a ?l ?c ?k ?b;(case a=>k_is);(case l=>k_is);(case c=>k_is);(case k=>k_is);(case b=>exact fun _ _ _ _ _ _=>Mc.bn3 fun _ _ _=>rfl)
  have T:Mc.Txt w (L2.KOf d) mg:=by
   dsimp only[L2.KOf]
   refine' Mc.aO5 d G ?z_all ?z_dict ?z_enumerate ?z_int ?z_isinstance ?z_len ?z_list ?z_max ?z_min ?z_range ?z_tuple ?z_zip ?s_SIGNS
   (case z_all=>k_is);(case z_dict=>k_is);(case z_enumerate=>k_is);(case z_int=>k_is);(case z_isinstance=>k_is);(case z_len=>k_is);(case z_list=>k_is);(case z_max=>k_is);(case z_min=>k_is);(case z_range=>k_is);(case z_tuple=>k_is);(case z_zip=>k_is);(case s_SIGNS=>k_is)
  have Ep_NotLike:∃ W C,L2.ErrP (L2.KOf d) mg "NotLike" W C:=by
   dsimp only[L2.KOf]
   refine' Mc.aO6 d G ?m ?e1 ?e2 ?e3 ?e4 ?e5 ?e6 ?e7 ?e8 ?n1 ?n2 ?w1 ?w2 ?w3
   (case m=>k_is)
   (case e1=>k_is)
   (case e2=>k_is);(case e3=>k_is);(case e4=>k_is);(case e5=>k_is);(case e6=>k_is);(case e7=>k_is);(case e8=>k_is)
   (case n2=>k_is);(case w1=>k_is);(case w3=>k_is)
   (case n1=>refine' L2.aAZ ?l ?h;(case l=>k_is);(case h=>rfl))
   (case w2=>refine' L2.aAZ ?l ?h;(case l=>k_is);(case h=>rfl))
  have I:∃ fd,L2.Fun (L2.KOf d) "law" "law" (Mc.top 29) H fd/\∀ (s:S9) (u:V9),BindsTo s fd ⟨[u],[]⟩ [("_law_script",u)]:=by
   dsimp only[L2.KOf]
   refine' Mc.aO7 d G i ?a4 ?l4 ?c4 ?k4
   (case a4=>k_is);(case l4=>k_is);(case c4=>k_is);(case k4=>k_is)
  obtain ⟨fd,L,J⟩:=I
  exact ⟨fd,J,fun base TH _ _ E=>Mc.aL4 T Ep_NotLike M K (Fl.aNU N d E (by decide)) O j f (Fl.aNU z d E (by decide)) n o q p v e B D g y A t r L⟩
end
