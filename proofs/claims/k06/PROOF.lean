import PyProof.Rows.All
import Wide.All
import OpenK.AllK
import Wide.FinOn
import Lean
import PyProof.EqAt
import PyProof.EqKinds
import PyProof.TupleCall
import PyProof.ExcInit
import PyProof.InstStoreFacts
import PyProof.StrLawsFirst
import PyProof.StrLawsIn
import KE.KLam
import PyProof.ListMulRoad
import PyProof.Rows.ListMul
import PyProof.ZipIter
import PyProof.Draws
import PyProof.ListStr
import PyProof.DictWalks
import PyProof.DictTruth
import PyProof.ListRange
import PyProof.StrLaws
import PyProof.StrLawsIdx
import PyProof.P3In
import PyProof.AttrMissHeap
import PyProof.StrBlock2
import PyProof.Rows.StrClip
import PySem.Challenge.RW_striproam_k06_endings_and_borders
set_option linter.all false
set_option maxRecDepth 100000
set_option maxHeartbeats 4000000
set_option Elab.async false
set_option linter.all false
set_option maxRecDepth 100000
set_option genSizeOf false
abbrev Dz:=PySem.PyData
abbrev V9:=PySem.Value
abbrev S9:=PySem.Shared
abbrev Az:=PySem.Addr
abbrev P9:=PySem.Program
abbrev W9:=PySem.World
abbrev Hz:=PySem.Heap
abbrev Ez:=PySem.Expr
abbrev U9:=PySem.Around
abbrev O6(α:Type):=Option α
def PySem.W.Fast.tw6513778730971417297:=()
def PySem.W.Fast.tw13041337572012955321:=()
def PySem.W.Fast.tw16487756834848608938:=()
def PySem.W.Fast.tw6478530040532825176:=()
def PySem.W.Fast.tw4738509688035496820:=()
def PySem.W.Fast.tw14149039174830344115:=()
def PySem.W.Fast.tw11597146487714114386:=()
def PySem.W.Fast.tw4976864847348003300:=()
def PySem.W.Fast.tw17137431985225105426:=()
def PySem.W.Fast.tw4550444075016281364:=()
def AA:=@PySem.wpAny_bind
def AB:=@PySem.Heap.get?_push_of_some
def AC:=@PySem.wpAny_pure
def AD:=@List.length_map
def AE:=@if_pos
def AG:=@List.mem_cons
def AH:=@List.getElem?_eq_getElem
def AI:=@if_neg
def AJ:=@List.map_cons
def AK:=@PySem.Heap.lt_size
def AL:=@List.length_cons
def AM:=@Nat.le_refl
def AN:=@List.mem_cons_of_mem
def AQ:=@List.getElem?_cons_succ
def AS:=@List.getElem?_eq_some_iff
def AT:=@List.getElem?_cons_zero
def AU:=@List.length_append
def AV:=@PySem.Heap.get?_push_size
def AW:=@Nat.lt_of_lt_of_le
def AX:=@List.mem_cons_self
def AY:=@List.not_mem_nil
def AZ:=@List.length_nil
def A0:=@List.getElem?_map
def A1:=@List.mem_singleton
def A2:=@List.size_toArray
def A3:=@Bool.and_eq_true
def A4:=@Nat.ne_of_lt
def A5:=@List.set_cons_zero
def A6:=@List.mem_of_getElem?
def A7:=@List.set_cons_succ
def A8:=@List.lookup_cons
def A9:=@List.getD_eq_getElem?_getD
def BA:=@List.cons_append
def BB:=@decide_eq_false
def BC:=@List.nil_append
def BD:=@List.getElem?_set_ne
def BE:=@Nat.le_trans
def BF:=@PySem.mem_of_lookup
def BG:=@Ne.symm
def BH:=@PyProof.Rows.boot_isinstance
def BI:=@Bool.false_eq_true
def BJ:=@List.map_nil
def BK:=@List.getElem?_append_left
def BL:=@List.length_replicate
def BM:=@decide_eq_true
def BN:=@PySem.wpAny_field
def BO:=@Nat.lt_irrefl
def BP:=@if_true
def BQ:=@PySem.boot_len
def BR:=@or_false
def BS:=@PySem.F.plainAttrs_list
def BT:=@Option.some.inj
def BU:=@List.nodup_cons
def BV:=@PySem.Heap.size_push
def BW:=@List.getElem?_set_self
def BX:=@PySem.W.mg_none_of
def BY:=@PySem.wpAny_mono
def BZ:=@List.mem_append_right
def B0:=@List.length_set
def B1:=@PySem.W.mg_of
def B2:=@PySem.wpAny_newObj_type
def B3:=@List.mem_append
def B4:=@PySem.W.kia_one
def B5:=@Array.length_toList
def B6:=@PyProof.Rows.callWith_type1
def B7:=@PyProof.Rows.slot_tuple_getitem
def B8:=@PyProof.Rows.boot_tuple
def B9:=@PySem.wpAny_holding
def CA:=@List.getElem?_append_right
def CB:=@List.map_append
def CC:=@List.length_range
def CD:=@if_false
def CF:=@PySem.F.slot_list_append
def CG:=@PySem.F.type_list_append
def CH:=@List.append_nil
def CI:=@Bool.false_ne_true
def CJ:=@Int.emod_lt_of_pos
def CK:=@List.all_eq_true
def CL:=@Nat.ne_of_gt
def CM:=@Nat.zero_le
def CN:=@List.replicate_succ
def CO:=@beq_false_of_ne
def CP:=@List.drop_eq_getElem_cons
def CQ:=@PySem.Heap.get?_update_self
def CS:=@PySem.wpAny_Call_Name_kw
def CT:=@List.length_drop
def CU:=@List.getElem?_replicate
def CV:=@PySem.wpAny_callSpecial?_slot
def CW:=@of_decide_eq_true
def CY:=@List.forIn_cons
def CZ:=@Int.emod_nonneg
def C0:=@List.mem_map
def C3:=@List.nodup_nil
def C4:=@PySem.wpAny_seqItems
def C5:=@List.find?_cons
def C6:=@List.flatten_cons
def C7:=@PySem.wpAny_loadPart_at
def C8:=@List.nodup_append
def C9:=@beq_self_eq_true
def DA:=@Option.bind_some
def DB:=@PySem.Heap.get?_update_other
def DC:=@List.mem_filterMap
def DD:=@PySem.wpAny_setField_rec
def DE:=@PyProof.Rows.F.plain_set_update_loop
def DF:=@PySem.wpAny_passesOwn
def DG:=@Array.getElem?_eq_some_iff
def DH:=@PySem.F.slot_tuple_iterator_next
def DI:=@PySem.wpAny_truthy_bool
def DJ:=@PySem.eqIsQuiet_byValue
def DK:=@Nat.le_of_lt
def DL:=@Nat.lt_succ_self
def DM:=@PySem.codeAny_mono
def DN:=@PySem.wpAny_call_entry
def DO:=@decide_eq_decide
def DP:=@PySem.F.called_set
def DQ:=@beq_eq_false_iff_ne
def DR:=@List.filterMap_cons
def DS:=@PySem.Heap.SameBut.update
def DT:=@List.mem_map_of_mem
def DU:=@PySem.F.slot_list_index
def DV:=@PySem.wpAny_standAt
def DW:=@PySem.wpAny_call
def DX:=@PySem.W.callWith_K
def DY:=@List.contains_cons
def DZ:=@PySem.Obj.data_mapFields
def D3:=@congrArg
def D4:=@Nat.le_succ
def D5:=@List.map_map
def D6:=@Array.getElem?_toList
def EA:=@PyProof.Rows.boot_int
def EB:=@List.mem_append_left
def EC:=@List.length_take
def ED:=@List.mem_iff_getElem
def EE:=@List.getElem_mem
def EF:=@PySem.wpAny_isInstance
def EG:=@Bool.not_true
def EH:=@PySem.sizeLine_eq
def EI:=@PySem.wpAny_isSubtype_exc
def EJ:=@List.of_mem_zip
def EK:=@List.cons.injEq
def EL:=@PySem.F.args_tuple_add_2
def EM:=@LawfulBEq.eq_of_beq
def EN:=@PyProof.Rows.F.entry_set_update_loop
def EO:=@List.eq_of_mem_replicate
def EQ:=@beq_iff_eq
def ER:=@PySem.wpAny_setField
def ES:=@PySem.F.entry_tuple_add
def ET:=@PySem.F.type_list_index
def EU:=@PySem.wpAny_pyIter_enum
def EV:=@PySem.W.cellsFrom_some
def EW:=@PySem.F.slot_tuple_add
def EX:=@List.take_of_length_le
def EY:=@PySem.F.plainAttrs_str
def EZ:=@PySem.wpAny_execs_cons
def E1:=@Nat.le_add_right
def E2:=@PySem.codeAny_call_function
def E3:=@List.length_singleton
def E4:=@PySem.Obj.isFreed_of_fields
def E5:=@PySem.plainObj_wpAny_Assign_Attribute
def E6:=@PySem.Heap.get?_none_of_le
def E7:=@PySem.wpAny_execs_nil
def E8:=@PyProof.Rows.callWith_builtin1
def E9:=@PySem.codeAny_call_builtin
def FA:=@Nat.mul_comm
def FB:=@PySem.wpAny_updateSeq_pair
def FC:=@PySem.F.slot_zip_next
def FD:=@PySem.wpAny_ite_false
def FF:=@PySem.W.plainGet_of
def FG:=@Array.toList_append
def FH:=@PySem.wpAny_loadPart
def FJ:=@PySem.F.args_tuple_iterator_next_1
def FK:=@Nat.mul_le_mul
def FM:=@PySem.wpAny_of_eq
def FN:=@PyProof.Rows.boot_enumerate
def FP:=@PySem.Code.quiet_builtin
def FQ:=@PySem.wpAny_pyIter_tuple
def FR:=@PySem.F.entry_tuple_iterator_next
def FS:=@PySem.Calls.Name_function_global
def FT:=@PySem.wpAny_newFunctionEnv_cells
def FU:=@PySem.wpAny_letOwnedTupleGo_enum
def FV:=@PySem.wpAny_attempt
def FW:=@PySem.F.excAttr_ValueError
def FX:=@List.any_cons
def FY:=@PySem.wpAny_onRaise
def FZ:=@PySem.W.kitx_list
def F5:=@Int.toNat_natCast
def F7:=@Nat.lt_succ_of_lt
def GA:=@Bool.eq_false_iff
def GB:=@PySem.wpAny_pyIter_list
def GC:=@PySem.StrLaws.subAt_one
def GD:=@List.append_assoc
def GE:=@Option.isSome_map
def GF:=@not_false_eq_true
def GG:=@PySem.call_meets
def GH:=@Option.isNone_iff_eq_none
def GI:=@Classical.byContradiction
def GJ:=@List.mem_or_eq_of_mem_set
def GK:=@PySem.wpAny_lookBehind
def GL:=@PySem.pastItsLine_dict
def GM:=@Option.isSome_iff_exists
def GN:=@List.getElem?_take_of_lt
def GO:=@PySem.noFill_tuple_add
def GP:=@PySem.wpAny_typeOf
def GQ:=@Option.getD_none
def GR:=@PySem.wpAny_comprehension_free
def GS:=@List.drop_length
def GT:=@decide_false
def GU:=@List.length_eq_zero_iff
def GV:=@List.length_zip
def GW:=@PySem.codeAny_builtin
def GX:=@Int.le_refl
def GY:=@List.range_succ_eq_map
def GZ:=@PySem.F.slot_str_index
def G0:=@PySem.F.type_str_index
def G1:=@PyProof.Rows.boot_bool
def G2:=@List.mem_range
def G3:=@PySem.W.methodCall_KW
def G4:=@List.forIn_nil
def G5:=@not_or
def G6:=@PyProof.Rows.boot_min
def G7:=@PyProof.Rows.boot_str
def G8:=@List.getElem?_eq_none
def G9:=@PySem.seq_tuple_add
def HA:=@PySem.evalPart_none
def HB:=@Bool.or_true
theorem Mc.bn1{α:Type}{P:List α->Prop}(h:∀ a,P [a]):∀ us:List α,us.length=1->P us
 | [a],_=>h a
theorem Mc.bn2{α:Type}{P:List α->Prop}(h:∀ a b,P [a,b]):∀ us:List α,us.length=2->P us
 | [a,b],_=>h a b
theorem Mc.bn3{α:Type}{P:List α->Prop}(h:∀ a b c,P [a,b,c]):∀ us:List α,us.length=3->P us
 | [a,b,c],_=>h a b c
theorem Mc.bn4{α:Type}{P:List α->Prop}(h:∀ a b c d,P [a,b,c,d]):∀ us:List α,us.length=4->P us
 | [a,b,c,d],_=>h a b c d
theorem Mc.bn5{α:Type}{P:List α->Prop}(h:∀ a b c d e,P [a,b,c,d,e]):∀ us:List α,us.length=5->P us
 | [a,b,c,d,e],_=>h a b c d e
open PySem.W (Frag)
noncomputable section
namespace L2
open PySem PySem.Spec PyProof.Rows
abbrev Key:=Sum Int Str
noncomputable def i7:Key->V9->Bool
 | .inl k,v=>Value.isInt k v
 | .inr x,v=>Value.isStrOf x v
noncomputable def aPJ(w:W9):Key->Int
 | .inl k=>hashInt k
 | .inr x=>hashStr w x
theorem keyIs_shape:∀ {k:Key} {v:V9},i7 k v=true->(∃ i t,k=Sum.inl i/\v=Value.int i t)\/(∃ x t,k=Sum.inr x/\v=Value.str x t)
 | .inl i,v,h=>by
  obtain ⟨t,e⟩:=Value.isInt_shape (k:=i) (v:=v) h
  exact .inl ⟨i,t,rfl,e⟩
 | .inr x,v,h=>by
  obtain ⟨t,e⟩:=Value.isStrOf_shape (x:=x) (v:=v) h
  exact .inr ⟨x,t,rfl,e⟩
theorem aEH(i:Int)(t:Tok):i7 (.inl i) (.int i t)=true:=by simp[i7,Value.isInt]
theorem aEI(x:Str)(t:Tok):i7 (.inr x) (.str x t)=true:=by simp[i7,Value.isStrOf]
theorem aLX(a b:Int):decide ((Sum.inl a:Key)=Sum.inl b)=(a == b):=by
 by_cases e:a=b
 .subst e;simp
 .have h:¬ (Sum.inl a:Key)=Sum.inl b:=fun q=>e (Sum.inl.inj q)
  rw[BB h]
  exact (DQ.mpr e).symm
theorem aLY(a b:Str):decide ((Sum.inr a:Key)=Sum.inr b)=decide (a=b):=by
 by_cases e:a=b
 .subst e;simp
 .have h:¬ (Sum.inr a:Key)=Sum.inr b:=fun q=>e (Sum.inr.inj q)
  rw[BB h,BB e]
theorem aLZ(a:Int)(b:Str):decide ((Sum.inl a:Key)=Sum.inr b)=false:=BB (fun q=>nomatch q)
theorem aL0(a:Str)(b:Int):decide ((Sum.inr a:Key)=Sum.inl b)=false:=BB (fun q=>nomatch q)
noncomputable def cA(prog:P9)(w:W9):PySem.KeyKind prog w Key where
 is:=i7
 hash:=aPJ w
 inj:=fun v a b ha hb=>by
  rcases keyIs_shape ha with ⟨i,t,rfl,rfl⟩|⟨x,t,rfl,rfl⟩
  .rcases keyIs_shape hb with ⟨j,u,rfl,e⟩|⟨y,u,rfl,e⟩
   · injection e with e1 _; rw [e1]
   · exact nomatch e
  .rcases keyIs_shape hb with ⟨j,u,rfl,e⟩|⟨y,u,rfl,e⟩
   · exact nomatch e
   · injection e with e1 _; rw [e1]
 byValue:=fun k v h=>by
  rcases keyIs_shape h with ⟨i,t,rfl,rfl⟩|⟨x,t,rfl,rfl⟩<;>rfl
 pyHash:=fun hv h=>by
  rcases keyIs_shape hv with ⟨i,t,rfl,rfl⟩|⟨x,t,rfl,rfl⟩
  .exact wpAny_pyHash_int h
  .exact wpAny_pyHash_str h
 eqBool:=fun hu hv h=>by
  rcases keyIs_shape hu with ⟨i,t,rfl,rfl⟩|⟨x,t,rfl,rfl⟩
  .rcases keyIs_shape hv with ⟨j,u,rfl,rfl⟩|⟨y,u,rfl,rfl⟩
   · rw [aLX] at h; exact wpAny_eqBool_int h
   · rw [aLZ] at h; exact SeqAt.EqAt.int_str i t y u _ _ _ _ h
  .rcases keyIs_shape hv with ⟨j,u,rfl,rfl⟩|⟨y,u,rfl,rfl⟩
   · rw [aL0] at h; exact SeqAt.EqAt.str_int x t j u _ _ _ _ h
   · rw [aLY] at h; exact wpAny_eqBool_str h
 «strs»:=fun k x t v h=>by
  rcases keyIs_shape h with ⟨i,u,rfl,e⟩|⟨y,u,rfl,e⟩
  .exact nomatch e
  .injection e with e1 _
   subst e1
   cases v<;>rfl
theorem aA7(prog:P9)(w:W9)(i:Int)(t:Tok):(cA prog w).is (.inl i) (.int i t)=true:=aEH i t
theorem aA8(prog:P9)(w:W9)(x:Str)(t:Tok):(cA prog w).is (.inr x) (.str x t)=true:=aEI x t
inductive V where
 | non|bl (b:Bool)|int (i:Int)|str (x:Str)|byt (b:Array UInt8)|flt (b:UInt64)|ref (a:Az)|ty (n:String)
 deriving DecidableEq
def bB:V->V9->Prop
 | .non,u=>u=Value.none
 | .bl b,u=>u=Value.bool b
 | .int i,u=>∃ t,u=Value.int i t
 | .str x,u=>∃ t,u=Value.str x t
 | .byt b,u=>∃ t,u=Value.bytes b t
 | .flt b,u=>∃ t,u=Value.float b t
 | .ref a,u=>u=Value.ref a
 | .ty n,u=>u=Value.type n
abbrev aZ:List V->List V9->Prop:=Paired bB
theorem aZ.length{xs:List V}{us:List V9}(r:aZ xs us):xs.length=us.length:=Paired.length r
theorem aZ.get:∀ {xs:List V} {us:List V9} {i:Nat} {x:V},aZ xs us->xs[i]? = some x->∃ u,us[i]? = some u/\bB x u
 | _,_,_,_,.nil,e=>by simp at e
 | _,_,0,_,.cons r _,e=>by simp at e;subst e;exact ⟨_,rfl,r⟩
 | _,_,i+1,x,.cons _ t,e=>by
  obtain ⟨u,h1,h2⟩:=aZ.get (i:=i) (x:=x) t (by simpa using e)
  exact ⟨u,by simpa using h1,h2⟩
theorem aZ.set{x:V}{u:V9}(r:bB x u):∀ {xs:List V} {us:List V9} (i:Nat),aZ xs us->aZ (xs.set i x) (us.set i u)
 | _,_,_,.nil=>.nil
 | _,_,0,.cons _ t=>.cons r t
 | _,_,i+1,.cons q t=>.cons q (aZ.set r i t)
theorem aZ.append:∀ {xs ys:List V} {us ws:List V9},aZ xs us->aZ ys ws->aZ (xs++ys) (us++ws)
 | _,_,_,_,.nil,s=>s
 | _,_,_,_,.cons r t,s=>.cons r (aZ.append t s)
theorem aZ.take:∀ {xs:List V} {us:List V9} (n:Nat),aZ xs us->aZ (xs.take n) (us.take n)
 | _,_,0,_=>.nil
 | _,_,_+1,.nil=>.nil
 | _,_,n+1,.cons r t=>.cons r (aZ.take n t)
theorem aZ.drop:∀ {xs:List V} {us:List V9} (n:Nat),aZ xs us->aZ (xs.drop n) (us.drop n)
 | _,_,0,r=>r
 | _,_,_+1,.nil=>.nil
 | _,_,n+1,.cons _ t=>aZ.drop n t
def gM:O6 V->O6 V9->Prop
 | some v,some u=>bB v u
 | none,none=>True
 | _,_=>False
def KV{κ:Type}:List (κ×V)->List (κ×V9)->Prop:=Paired fun (p:κ×V) (q:κ×V9)=>p.1=q.1/\bB p.2 q.2
noncomputable def kV:Key->V
 | .inl i=>.int i
 | .inr x=>.str x
inductive HO where
 | lst (xs:List V)
 | tup (xs:List V)
 | dK (kvs:List (Key×V))|dT (kvs:List (List Key×V))
 | set (S:Int->Bool) (n:Nat)
 | ins (C dx:Az) (fs:List (Str×V))
 | own (x:Az)
 | xd (fs:List (Str×V))
 | met (f x:Az)
 | rng (lo hi:Int)
 | frz (o:Obj) (u:HO)
 | tbl (qs:List (Pos×Str))
 | cod (q:Str)
 | ext (φ:Heap->Prop)
abbrev Hp:=Az->O6 HO
noncomputable def upd(H:Hp)(a:Az)(o:HO):Hp:=fun b=>if b=a then some o else H b
theorem aQ{H:Hp}{a:Az}{o:HO}:upd H a o a=some o:=by unfold upd;rw[AE rfl]
theorem aF{H:Hp}{a b:Az}{o:HO}(h:b≠a):upd H a o b=H b:=by unfold upd;rw[AI h]
theorem iN{H:Hp}{a:Az}{o u:HO}:upd (upd H a o) a u=upd H a u:=by
 funext b;unfold upd;split<;>rfl
theorem bS{H:Hp}{a b:Az}{o:HO}(h:H a=some o)(h':H b=none):a≠b:=by
 intro e;subst e;rw[h] at h';cases h'
def j0(h:Hz)(a:Az)(its:Array V9):Prop:=∃ o,h.get? a=some o/\(o.cls=.type "tuple"/\o.dict=none)/\∃ n,o.data=.seq its n
theorem j0.t{h:Hz}{a:Az}{b:Array V9}:j0 h a b->IsTup h a b:=fun ⟨o,e,c,n,d⟩=>⟨o,e,c.1,n,d⟩
theorem j0.new(h:Hz)(a:Array V9):j0 (h.push {cls:=.type "tuple",data:=.seq a}) h.objs.size a:=⟨_,AV h rfl,⟨rfl,rfl⟩,_,rfl⟩
section
variable(P:P9)(w:W9)
def b9(H:Hp)(h:Hz)(a:Az):HO->Prop
 | .lst xs=>xs.length<=sizeLine/\∃ (its:List V9) (n:Nat),aZ xs its/\h.get? a=some {cls:=.type "list",data:=.seq its.toArray n}
 | .tup xs=>xs.length<=sizeLine/\∃ its:List V9,aZ xs its/\j0 h a its.toArray
 | .dK kvs=>kvs.length<=sizeLine/\(a == sysModules)=false/\∃ vs,KV kvs vs/\h.DictOf (cA P w) a vs
 | .dT kvs=>kvs.length<=sizeLine/\(a == sysModules)=false/\∃ xs:List (List Key×Az×V9),
  Paired (fun (p:List Key×V) (q:List Key×Az×V9)=>p.1=q.1/\H q.2.1=some (.tup (p.1.map kV))/\bB p.2 q.2.2) kvs xs /\
  ∃ o es ep,h.get? a=some o/\o.ExactDict/\o.data=.dict es ep/\es.toList=xs.map (entryOfKey (tupleKind (cA P w)))/\(xs.map (·.1)).Nodup
 | .set S n=>h.SetOf (intKind P w) a S n
 | .ins C dx fs=>H dx=some (.own a)/\fs.length<=1000/\dx≠a/\h.get? a=some (PySem.W.instObj C dx) /\
  ∃ mA,h.Ns1 dx mA/\(∀ f,gM (fs.lookup f) (mA f))/\PySem.Within mA (fs.map (·.1))
 | .own _=>∃ o,h.get? a=some o
 | .xd fs=>∃ mA,h.Ns1 a mA/\∀ f,gM (fs.lookup f) (mA f)
 | .rng lo hi=>∃ t u v,h.get? a=some {cls:=.type "range",data:=.fields #[.int lo t,.int hi u,.int 1 v]}
 | .frz o u=>h.get? a=some o/\b9 H h a u
 | .tbl qs=>∃ ps:Array V9,h.get? a=some {cls:=.none,data:=.fields ps}/\TriplesOk ps.toList/\∀ p∈qs,codeAmong p.1 ps.toList=none\/∃ c,codeAmong p.1 ps.toList=some (.ref c)/\H c=some (.cod p.2)
 | .cod q=>h.CodeRec (.ref a) q
 | .met f x=>h.get? a=some (PySem.W.methodObj (.ref f) (.ref x))
 | .ext φ=>φ h/\(∃ o,h.get? a=some o)/\∀ h1 h2:Hz,φ h1->(∀ o,h1.get? a=some o->h2.get? a=some o)->φ h2
def HOk(H:Hp)(h:Hz):Prop:=∀ a o,H a=some o->b9 P w H h a o
end
section
variable{P:P9}{w:W9}{H H':Hp}{h h':Hz}{a:Az}{o:HO}
theorem b9.lt(x:b9 P w H h a o):a < h.objs.size:=by
 cases o with
 | lst xs=>obtain ⟨_,_,_,_,e⟩:=x;exact AK e
 | tup xs=>obtain ⟨_,_,_,p⟩:=x;exact p.t.lt
 | dK kvs=>obtain ⟨_,_,_,_,o,_,_,e,_⟩:=x;exact AK e
 | dT kvs=>obtain ⟨_,_,_,_,o,_,_,e,_⟩:=x;exact AK e
 | set S n=>obtain ⟨o,_,_,_,e,_⟩:=x;exact AK e
 | ins C dx fs=>obtain ⟨_,_,_,e,_⟩:=x;exact AK e
 | own y=>obtain ⟨_,e⟩:=x;exact AK e
 | xd fs=>obtain ⟨_,⟨_,_,_,e,_⟩,_⟩:=x;exact AK e
 | rng lo hi=>obtain ⟨_,_,_,e⟩:=x;exact AK e
 | frz ob u=>obtain ⟨e,_⟩:=x;exact AK e
 | tbl qs=>obtain ⟨ps,e,_⟩:=x;exact AK e
 | cod q=>obtain ⟨c,o,vs,t,e,b,_⟩:=x;cases e;exact AK b
 | met f y=>exact AK (show h.get? a=some _ from x)
 | ext φ=>obtain ⟨_,⟨_,e⟩,_⟩:=x;exact AK e
theorem Paired.mapP{α β:Type}{F G:α->β->Prop}:∀ {l₁:List α} {l₂:List β},Paired F l₁ l₂->(∀ a b,F a b->G a b)->Paired G l₁ l₂
 | _,_,.nil,_=>.nil
 | _,_,.cons r t,f=>.cons (f _ _ r) (Paired.mapP t f)
theorem b9.stay(x:b9 P w H h a o)(k:∀ b u,(b=a\/H b=some (.own a))->h.get? b=some u->h'.get? b=some u)
  (l:∀ b,H b=some (.own a)->H' b=some (.own a)) (m:∀ b q,H b=some (.cod q)->H' b=some (.cod q)) (ht:∀ b xs,H b=some (.tup xs)->H' b=some (.tup xs)):b9 P w H' h' a o:=by
 induction o with
 | lst xs=>obtain ⟨z,j,n,r,e⟩:=x;exact ⟨z,j,n,r,k _ _ (.inl rfl) e⟩
 | tup xs=>obtain ⟨z,j,r,g,e,c⟩:=x;exact ⟨z,j,r,g,k _ _ (.inl rfl) e,c⟩
 | dK kvs=>obtain ⟨z,y,vs,r,g,es,i,e,c⟩:=x;exact ⟨z,y,vs,r,g,es,i,k _ _ (.inl rfl) e,c⟩
 | dT kvs=>
  obtain ⟨z,y,xs,r,g,es,i,e,c⟩:=x
  exact ⟨z,y,xs,Paired.mapP r fun p q z=>⟨z.1,ht _ _ z.2.1,z.2.2⟩,g,es,i,k _ _ (.inl rfl) e,c⟩
 | set S n=>obtain ⟨g,es,i,t,e,c⟩:=x;exact ⟨g,es,i,t,k _ _ (.inl rfl) e,c⟩
 | ins C dx fs=>
  obtain ⟨d,z,A,e,mA,⟨od,es,i,e2,c⟩,r⟩:=x
  exact ⟨l _ d,z,A,k _ _ (.inl rfl) e,mA,⟨od,es,i,k _ _ (.inr d) e2,c⟩,r⟩
 | own y=>obtain ⟨g,e⟩:=x;exact ⟨g,k _ _ (.inl rfl) e⟩
 | xd fs=>obtain ⟨mA,⟨od,es,i,e,c⟩,r⟩:=x;exact ⟨mA,⟨od,es,i,k _ _ (.inl rfl) e,c⟩,r⟩
 | rng lo hi=>obtain ⟨t,u,v,e⟩:=x;exact ⟨t,u,v,k _ _ (.inl rfl) e⟩
 | frz g u ih=>obtain ⟨e,q⟩:=x;exact ⟨k _ _ (.inl rfl) e,ih q⟩
 | tbl qs=>
  obtain ⟨ps,e,t,r⟩:=x
  refine ⟨ps,k _ _ (.inl rfl) e,t,fun p s=>?_⟩
  rcases r p s with z|⟨c,z,B⟩
  · exact .inl z
  · exact .inr ⟨c, z, m _ _ B⟩
 | cod q=>
  obtain ⟨c,o,vs,t,e,l,r⟩:=x
  cases e
  exact ⟨_,o,vs,t,rfl,k _ _ (.inl rfl) l,r⟩
 | met f y=>
  have e:h.get? a=some (PySem.W.methodObj (.ref f) (.ref y)):=x
  show h'.get? a=some (PySem.W.methodObj (.ref f) (.ref y))
  exact k a _ (.inl rfl) e
 | ext φ=>obtain ⟨p,⟨o,e⟩,st⟩:=x;exact ⟨st _ _ p fun o q=>k _ _ (.inl rfl) q,⟨o,k _ _ (.inl rfl) e⟩,st⟩
theorem HOk.lt(x:HOk P w H h)(e:H a=some o):a < h.objs.size:=(x a o e).lt
theorem HOk.fresh(x:HOk P w H h)(e:h.objs.size<=a):H a=none:=by
 cases q:H a with
 | none=>rfl
 | some u=>exact absurd (AW (x.lt q) e) (BO _)
theorem HOk.kept(x:HOk P w H h)(k:∀ b u,h.get? b=some u->h'.get? b=some u):HOk P w H h':=fun a o e=>
 (x a o e).stay (fun b u _ q=>k b u q) (fun _ q=>q) (fun _ _ q=>q) fun _ _ q=>q
theorem HOk.laid(x:HOk P w H h)(k:∀ b u,h.get? b=some u->h'.get? b=some u)(g:h.objs.size<=a)(new:b9 P w (upd H a o) h' a o):HOk P w (upd H a o) h':=fun b u e=>by
 have d:=x.fresh g
 by_cases f:b=a
 .subst f;rw[aQ] at e;cases e;exact new
 .rw[aF f] at e
  exact (x b u e).stay (fun c v _ q=>k c v q) (fun c q=>by rw[aF (bS q d)];exact q) (fun c xs q=>by rw[aF (bS q d)];exact q) fun c xs q=>by rw[aF (bS q d)];exact q
end
def Rd(H:Hp)(a:Az)(u:HO):Prop:=H a=some u\/∃ o,H a=some (.frz o u)
theorem Rd.ok{P:P9}{w:W9}{H:Hp}{h:Hz}{a:Az}{u:HO}(r:Rd H a u)(x:HOk P w H h):b9 P w H h a u:=by
 rcases r with r|⟨o,r⟩
 .exact x a u r
 .obtain ⟨_,q⟩:=x a _ r
  exact q
def Mut:O6 HO->Prop
 | some (.lst _)=>True
 | some (.dK _)=>True
 | some (.dT _)=>True
 | some (.set _ _)=>True
 | some (.ins _ _ _)=>True
 | some (.ext _)=>True
 | _=>False
section
variable{P:P9}{w:W9}{H:Hp}{h h':Hz}{x e:Az}{o':HO}
theorem HOk.write(ok:HOk P w H h)(f:Mut (H x))(n:e=x\/H e=some (.own x))(k:∀ b u,b≠e->h.get? b=some u->h'.get? b=some u)(m:∃ u,h'.get? e=some u)
  (new:b9 P w (upd H x o') h' x o'):HOk P w (upd H x o') h':=fun b u q=>by
 have d:∀ c y,H c=some (.own y)->c≠x:=fun c y r z=>by subst z;rw[r] at f;exact f
 have i:∀ c xs,H c=some (.tup xs)->c≠x:=fun c xs r z=>by subst z;rw[r] at f;exact f
 have g:∀ c xs,H c=some (.cod xs)->c≠x:=fun c xs r z=>by subst z;rw[r] at f;exact f
 by_cases l:b=x
 .subst l;rw[aQ] at q;cases q;exact new
 .rw[aF l] at q
  by_cases a:b=e
  .have o:H b=some (.own x):=by
    rcases n with z|z
    · exact absurd (a.trans z) l
    · rw [a]; exact z
   rw[q] at o;cases o
   obtain ⟨v,p⟩:=m
   exact ⟨v,by rw[a];exact p⟩
  .refine (ok b u q).stay (fun c v j r=>k c v ?_ r) (fun c r=>by rw[aF (d c b r)];exact r) (fun c xs r=>by rw[aF (g c xs r)];exact r) fun c xs r=>by rw[aF (i c xs r)];exact r
   rcases j with rfl|j
   .exact a
   .rintro rfl
    rcases n with z|z
    · exact d c b j z
    · rw [j] at z; cases z; exact l rfl
end
structure Un(fs ex:List Az)(H H':Hp)(h h':Heap):Prop where
 keep:∀ b o,h.get? b=some o->H b=none->b∉fs->b∉ex->h'.get? b=some o
 slot:∀ b o,h.get? b=some o->H b=none->b∈fs->b∉ex->∃ sl,h'.get? b=some {o with slots:=sl}
 free:∀ b o,h.get? b=some o->H b=none->b∉ex->H' b=none
 there:∀ b o,h.get? b=some o->b∉ex->∃ o',h'.get? b=some o'
 tups:∀ b xs,H b=some (.tup xs)->H' b=some (.tup xs)
 frzs:∀ b o u,H b=some (.frz o u)->H' b=some (.frz o u)
 tbls:∀ b ps,H b=some (.tbl ps)->H' b=some (.tbl ps)
section
variable{fs fs' ex ex':List Az}{H H1 H2:Hp}{h h1 h2 h':Hz}{a x e:Az}{o:HO}
theorem Un.any(u:Un fs ex H H1 h h1){b:Az}{a:Obj}(q:h.get? b=some a)(n:H b=none)(hx:b∉ex):∃ sl,h1.get? b=some {a with slots:=sl}:=by
 by_cases c:b∈fs
 · exact u.slot b a q n c hx
 · exact ⟨a.slots, u.keep b a q n c hx⟩
theorem Un.trans(a:Un fs ex H H1 h h1)(b:Un fs ex H1 H2 h1 h2):Un fs ex H H2 h h2 where
 keep:=fun c d q n f e=>b.keep c d (a.keep c d q n f e) (a.free c d q n e) f e
 slot:=fun c d q n f e=>by
  obtain ⟨i,e1⟩:=a.slot c d q n f e
  obtain ⟨g,e2⟩:=b.slot c _ e1 (a.free c d q n e) f e
  exact ⟨g,e2⟩
 free:=fun c d q n e=>by
  obtain ⟨o',e1⟩:=a.there c d q e
  exact b.free c o' e1 (a.free c d q n e) e
 there:=fun c d q e=>by
  obtain ⟨o',e1⟩:=a.there c d q e
  exact b.there c o' e1 e
 tups:=fun c xs q=>b.tups c xs (a.tups c xs q)
 frzs:=fun c d xs q=>b.frzs c d xs (a.frzs c d xs q)
 tbls:=fun c ps q=>b.tbls c ps (a.tbls c ps q)
theorem Un.kept(k:∀ b u,h.get? b=some u->h'.get? b=some u):Un fs ex H H h h':=
 ⟨fun b a q _ _ _=>k b a q,fun b a q _ _ _=>⟨a.slots,k b a q⟩,fun _ _ _ n _=>n,fun b a q _=>⟨a,k b a q⟩,fun _ _ q=>q,fun _ _ _ q=>q,fun _ _ q=>q⟩
theorem Un.refl:Un fs ex H H h h:=Un.kept fun _ _ q=>q
theorem Un.laid(k:∀ b u,h.get? b=some u->h'.get? b=some u)(c:h.objs.size<=a)(hn:H a=none):Un fs ex H (upd H a o) h h' where
 keep:=fun b u q _ _ _=>k b u q
 slot:=fun b u q _ _ _=>⟨u.slots,k b u q⟩
 free:=fun b u q n _=>by rw[aF (A4 (AW (AK q) c))];exact n
 there:=fun b u q _=>⟨u,k b u q⟩
 tups:=fun b xs q=>by rw[aF (bS q hn)];exact q
 frzs:=fun b u xs q=>by rw[aF (bS q hn)];exact q
 tbls:=fun b ps q=>by rw[aF (bS q hn)];exact q
theorem Un.write(c:Mut (H x))(j:e=x\/H e=some (.own x))(k:∀ b u,b≠e->h.get? b=some u->h'.get? b=some u)(d:∃ u,h'.get? e=some u):Un fs ex H (upd H x o) h h':=by
 have g:∀ b,H b=none->b≠x:=fun b n z=>by subst z;rw[n] at c;exact c
 have i:∀ b,H b=none->b≠e:=fun b n z=>by
  subst z
  rcases j with r|r
  · exact g b n r
  · rw [n] at r; cases r
 have f:∀ b u,H b=some u->¬ Mut (some u)->b≠x:=fun b u q nm z=>by subst z;rw[q] at c;exact nm c
 refine ⟨fun b u q n _ _=>k b u (i b n) q,fun b u q n _ _=>⟨u.slots,k b u (i b n) q⟩,fun b u q n _=>by rw[aF (g b n)];exact n,fun b u q _=>?_,
  fun b xs q=>by rw[aF (f b _ q fun z=>z)];exact q,fun b u xs q=>by rw[aF (f b _ q fun z=>z)];exact q,fun b ps q=>by rw[aF (f b _ q fun z=>z)];exact q⟩
 by_cases a:b=e
 .subst a;exact d
 .exact ⟨u,k b u a q⟩
end
noncomputable def trk(h:Hz)(H:Hp):List Az:=(List.range h.objs.size).filter fun a=>(H a).isSome
def nM(h:Hz)(H:Hp):Hz:=PySem.W.hideAll h (trk h H)
theorem aEJ(h:Hz)(H:Hp):(nM h H).objs.size=h.objs.size:=PySem.W.hideAll_size _ _
theorem aGP{h:Hz}{H:Hp}{b:Az}{o:Obj}(e:h.get? b=some o)(n:H b=none):(nM h H).get? b=some o:=
 PySem.W.hideAll_get _ e fun a=>by
  have q:(H b).isSome=true:=(List.mem_filter.mp a).2
  rw[n] at q;simp at q
theorem aJO{h:Hz}{H:Hp}{b:Az}{o:Obj}(e:(nM h H).get? b=some o):h.get? b=some o/\H b=none:=by
 have a:h.get? b=some o:=PySem.W.of_hideAll (trk h H) e
 refine ⟨a,?_⟩
 cases q:H b with
 | none=>rfl
 | some x=>
  have c:b∈trk h H:=List.mem_filter.mpr ⟨G2.mpr (AK a),by simp[q]⟩
  have z:(nM h H).get? b=none:=PySem.W.hideAll_none (trk h H) c
  rw[z] at e;cases e
def aJP(g h:Hz)(L:Az):List (Az×Obj):=(List.range h.objs.size).filterMap fun a=>if a=L\/(g.get? a).isSome=true then none else (h.get? a).map fun o=>(a,o)
def rest(g h:Hz)(L d:Az):List (Az×Obj):=(aJP g h L).filter fun p=>decide (p.1≠d)
structure Mod(K:Frag)(mg:Str->Option V9)(base:Heap):Prop where
 kin:K.In base
 glob:base.Ns mainGlobals mg
 blt:∃ mb,base.Ns builtinsNs mb/\∀ x:Str,x≠"__name__"->mb x=bootBuiltins x
 nolimit:base.NoLimit
structure Cx where
 prog:Program
 w:World
 K:Frag
 mg:Str->Option V9
 base:Heap
 A:Around
 N:List Str
 s₀:S9
 H₀:Hp
 env:Env
 outer:List Env
 stack:List Env
 ex:List Az
 fn:Str->Bool
 calm:Bool
 pn:List (Az×Obj)
 xe:V9->S9->Prop
noncomputable def frs(l:List Env):List Az:=l.filterMap (·.frame)
abbrev Cx.fs(X:Cx):List Az:=frs X.outer
def Vis(sc:Scope)(x:Str):Prop:=sc.names.lookup x=some .local\/sc.names.lookup x=some .cell\/sc.names.lookup x=some .free
def Loc(sc:Scope)(x:Str):Prop:=sc.names.lookup x=some .local\/sc.names.lookup x=some .cell
def aPK(env:Env)(h:Hz)(m:Str->O6 V9)(x:Str)(u:V9):Prop:=
 (env.kindOf x=some .local/\m x=some u)\/((env.kindOf x=some .cell\/env.kindOf x=some .free)/\∃ c,env.cells.lookup x=some c/\h.IsCell c (some u))
structure Cx.Ok(X:Cx):Prop where
 mod:Mod X.K X.mg X.base
 kind:X.env.scope.kind=.function
 glob:X.env.globals=mainGlobals
 blt:X.env.builtins=builtinsNs
 above:X.s₀.heap.objs.size<=X.env.locals
 inj:∀ x y c,X.env.cells.lookup x=some c->X.env.cells.lookup y=some c->x=y
 has:∀ x,(X.env.kindOf x=some .cell\/X.env.kindOf x=some .free)->∃ c,X.env.cells.lookup x=some c
 cab:∀ x c,X.fn x=true->X.env.cells.lookup x=some c->X.s₀.heap.objs.size<=c
 hd:X.calm=true->X.A.handled=none
 frames:X.A.frames=some X.stack
 stk:X.stack=X.outer\/(X.stack=X.env::X.outer/\X.env.frame=some X.env.locals)
 exf:∀ b∈X.ex,b≠X.env.locals/\∀ x c,X.env.cells.lookup x=some c->c≠b
 bs:∀ b o,X.base.get? b=some o->X.s₀.heap.get? b=some o/\X.H₀ b=none
 bsz:X.base.objs.size<=X.s₀.heap.objs.size
 noex:∀ b o,X.base.get? b=some o->b∉X.ex
 exfs:∀ b∈X.ex,b∉X.fs
 funs:X.s₀.heap.FunFrames X.base X.outer
 frf:∀ b∈X.fs,X.H₀ b=none
structure Inv(X:Cx)(pins:List (Az×Obj))(σ:List (Option V))(H:Hp)(s:S9):Prop where
 ok:X.Ok
 os:s.os=X.s₀.os
 bare:AllBare s.gens
 base:Un X.fs X.ex X.H₀ H X.s₀.heap s.heap
 loc:∃ m,s.heap.Ns X.env.locals m/\∀ (i:Nat) (x:Str) (v:V),X.N[i]? = some x->σ[i]? = some (some v)->Vis X.env.scope x->∃ u,bB v u/\aPK X.env s.heap m x u
 cell:∀ x c,X.env.cells.lookup x=some c->∃ v,s.heap.IsCell c v
 free:H X.env.locals=none
 freeC:∀ x c,X.env.cells.lookup x=some c->H c=none
 pin:∀ p∈X.pn++pins,s.heap.get? p.1=some p.2/\H p.1=none/\p.1≠X.env.locals/\p.1∉X.fs/\∀ v,p.2.data≠.cell v
 hok:HOk X.prog X.w H s.heap
 len:σ.length=X.N.length
section
variable{X:Cx}{pins:List (Az×Obj)}{σ:List (O6 V)}{H H':Hp}{s:S9}{h':Hz}
theorem Cx.Ok.nofr(ok:X.Ok){b:Az}{o:Obj}(e:X.base.get? b=some o):b∉X.fs:=fun a=>by
 have:=(ok.funs.mem a).1
 rw[e] at this;cases this
theorem Inv.bs(I:Inv X pins σ H s):∀ b o,X.base.get? b=some o->s.heap.get? b=some o/\H b=none:=fun b o e=>
 ⟨I.base.keep b o (I.ok.bs b o e).1 (I.ok.bs b o e).2 (I.ok.nofr e) (I.ok.noex b o e),I.base.free b o (I.ok.bs b o e).1 (I.ok.bs b o e).2 (I.ok.noex b o e)⟩
theorem Inv.bk(I:Inv X pins σ H s):∀ b o,X.base.get? b=some o->s.heap.get? b=some o:=fun b o e=>(I.bs b o e).1
theorem Inv.mod(I:Inv X pins σ H s):Mod X.K X.mg X.base:=I.ok.mod
theorem Inv.kIn(I:Inv X pins σ H s):X.K.In s.heap:=I.ok.mod.kin.keeps I.bk
theorem Inv.lt(I:Inv X pins σ H s):X.env.locals < s.heap.objs.size:=let ⟨_,hn,_⟩:=I.loc;hn.lt
theorem Inv.sz(I:Inv X pins σ H s):X.s₀.heap.objs.size<=s.heap.objs.size:=BE I.ok.above (DK I.lt)
theorem Inv.nofs(I:Inv X pins σ H s){a:Az}(h:s.heap.objs.size<=a):a∉X.fs:=fun b=>by
 obtain ⟨_,o,c,_⟩:=I.ok.funs.mem b
 exact absurd (AW (AK c) (BE I.sz h)) (BO _)
theorem Inv.cne(I:Inv X pins σ H s):∀ x c,X.env.cells.lookup x=some c->c≠X.env.locals:=fun x c e z=>by
 obtain ⟨v,o,d,f⟩:=I.cell x c e
 obtain ⟨m,⟨o',es,g,a,b,_⟩,_⟩:=I.loc
 rw[z,a] at d;cases d;rw[b] at f;cases f
theorem Inv.funs(I:Inv X pins σ H s):s.heap.FunFrames X.base X.outer:=by
 have all:∀ (l:List Env),(∀ b∈frs l,b∈X.fs)->X.s₀.heap.FunFrames X.base l->s.heap.FunFrames X.base l:=by
  intro l
  induction l with
  | nil=>intro _ _;trivial
  | cons env r ih=>
   intro f j
   obtain ⟨i,⟨L,o,a,h,m,g⟩,k⟩:=j
   have c:L∈X.fs:=f L (by unfold frs;rw[DR,a];exact AX)
   obtain ⟨n,e⟩:=I.base.slot L o m (I.ok.frf L c) c fun z=>I.ok.exfs L z c
   exact ⟨i,⟨L,_,a,h,e,g⟩,ih (fun b d=>f b (by unfold frs;rw[DR,a];exact AN _ d)) k⟩
 exact all X.outer (fun _ d=>d) I.ok.funs
theorem Inv.stack(I:Inv X pins σ H s):s.heap.FunFrames X.base X.stack:=by
 rcases I.ok.stk with e|⟨e,a⟩
 .rw[e];exact I.funs
 .rw[e]
  obtain ⟨m,b,_⟩:=I.loc
  refine .cons (by rw[I.ok.kind];decide) a b ?_ I.funs
  exact E6 (BE I.ok.bsz I.ok.above)
theorem Inv.stkSub(I:Inv X pins σ H s):∀ b∈frs X.stack,b∈X.env.locals::X.fs:=fun b a=>by
 rcases I.ok.stk with e|⟨e,c⟩
 .rw[e] at a;exact AN _ a
 .rw[e] at a
  unfold frs at a
  rw[DR,c] at a
  exact a
theorem Inv.stkFree(I:Inv X pins σ H s):∀ b∈frs X.stack,H b=none:=fun b a=>by
 rcases AG.mp (I.stkSub b a) with e|a
 .rw[e];exact I.free
 .obtain ⟨_,o,c,_⟩:=I.ok.funs.mem a
  exact I.base.free b o c (I.ok.frf b a) fun z=>I.ok.exfs b z a
theorem Inv.step{g':Array GenState}{t':Nat}{d':Drawn}{ch:List Az}(I:Inv X pins σ H s)
  (f:∀ b∈ch,(b∈X.ex\/X.s₀.heap.objs.size<=b)/\b≠X.env.locals/\(∀ x c,X.env.cells.lookup x=some c->c≠b)/\∀ p∈X.pn++pins,p.1≠b)
  (keep:∀ b o,b≠X.env.locals->b∉X.fs->b∉ch->s.heap.get? b=some o->H b=none->h'.get? b=some o)
  (slot:∀ b o,b≠X.env.locals->b∈X.fs->b∉ch->s.heap.get? b=some o->H b=none->∃ sl,h'.get? b=some {o with slots:=sl}) (free:∀ b o,b∉ch->s.heap.get? b=some o->H b=none->H' b=none)
  (there:∀ b o,b∉ch->s.heap.get? b=some o->∃ o',h'.get? b=some o')
  (tups:∀ b xs,H b=some (.tup xs)->H' b=some (.tup xs)) (frzs:∀ b o u,H b=some (.frz o u)->H' b=some (.frz o u)) (tbls:∀ b ps,H b=some (.tbl ps)->H' b=some (.tbl ps))
  (ns:∀ m,s.heap.Ns X.env.locals m->h'.Ns X.env.locals m) (hok:HOk X.prog X.w H' h') (hg:AllBare g') :
  Inv X pins σ H' {s with heap:=h',gens:=g',drawn:=d',toks:=t'}:=by
 have A:∀ b o,X.s₀.heap.get? b=some o->b≠X.env.locals:=fun b o e=>A4 (AW (AK e) I.ok.above)
 have j:∀ b o,X.s₀.heap.get? b=some o->b∉X.ex->b∉ch:=fun b o e a t=>by
  rcases (f b t).1 with z|z
  .exact a z
  .exact absurd (AW (AK e) z) (BO _)
 have h:∀ x c,X.env.cells.lookup x=some c->∀ v,s.heap.IsCell c v->h'.IsCell c v:=fun x c e v D=>by
  obtain ⟨o,y,B⟩:=D
  have g:c∉ch:=fun z=>(f c z).2.2.1 x c e rfl
  by_cases F:c∈X.fs
  .obtain ⟨sl,q⟩:=slot c o (I.cne x c e) F g y (I.freeC x c e)
   exact ⟨_,q,B⟩
  .exact ⟨o,keep c o (I.cne x c e) F g y (I.freeC x c e),B⟩
 refine ⟨I.ok,I.os,hg,⟨fun b o e n t a=>?_,fun b o e n t a=>?_,fun b o e n a=>?_,fun b o e a=>?_,fun b xs e=>tups b xs (I.base.tups b xs e),fun b o xs e=>frzs b o xs (I.base.frzs b o xs e),fun b ps e=>?_⟩,?_,fun x c e=>?_,?_,fun x c e=>?_,fun p G=>?_,hok,I.len⟩
 .exact keep b o (A b o e) t (j b o e a) (I.base.keep b o e n t a) (I.base.free b o e n a)
 .obtain ⟨sl,e1⟩:=I.base.slot b o e n t a
  obtain ⟨C,e2⟩:=slot b _ (A b o e) t (j b o e a) e1 (I.base.free b o e n a)
  exact ⟨C,e2⟩
 .obtain ⟨o',e1⟩:=I.base.there b o e a
  exact free b o' (j b o e a) e1 (I.base.free b o e n a)
 .obtain ⟨o',e1⟩:=I.base.there b o e a
  exact there b o' (j b o e a) e1
 .exact tbls b ps (I.base.tbls b ps e)
 .obtain ⟨m,K,L⟩:=I.loc
  refine ⟨m,ns m K,fun i x v e1 e2 M=>?_⟩
  obtain ⟨u,r,l⟩:=L i x v e1 e2 M
  refine ⟨u,r,?_⟩
  rcases l with l|⟨k,c,e,z⟩
  .exact .inl l
  .exact .inr ⟨k,c,e,h x c e _ z⟩
 .obtain ⟨v,z⟩:=I.cell x c e
  exact ⟨v,h x c e v z⟩
 .obtain ⟨m,⟨o,_,_,y,_⟩,_⟩:=I.loc
  exact free _ o (fun z=>(f _ z).2.1 rfl) y I.free
 .obtain ⟨v,o,y,B⟩:=I.cell x c e
  exact free c o (fun z=>(f c z).2.2.1 x c e rfl) y (I.freeC x c e)
 .obtain ⟨e,n,E,J,d⟩:=I.pin p G
  have g:p.1∉ch:=fun z=>(f p.1 z).2.2.2 p G rfl
  exact ⟨keep p.1 p.2 E J g e n,free p.1 p.2 g e n,E,J,d⟩
theorem Inv.un{t':Nat}(I:Inv X pins σ H s)(u:Un X.fs [] H H' s.heap h')(hok:HOk X.prog X.w H' h'):Inv X pins σ H' {s with heap:=h',toks:=t'}:=by
 obtain ⟨m,⟨o,es,k,g,r⟩,_⟩:=id I.loc
 obtain ⟨l,i⟩:=u.any g I.free (by simp)
 exact I.step (g':=s.gens) (d':=s.drawn) (ch:=[]) (fun _ z=>nomatch z) (fun b o _ f _ e n=>u.keep b o e n f (by simp)) (fun b o _ f _ e n=>u.slot b o e n f (by simp)) (fun b o _ e n=>u.free b o e n (by simp)) (fun b o _ e=>u.there b o e (by simp)) u.tups u.frzs u.tbls (fun p j=>by
  obtain ⟨o',d,c,a,h⟩:=j
  rw[g] at a;cases a
  exact ⟨_,d,c,i,h⟩) hok I.bare
theorem Inv.call{g':Array GenState}{t':Nat}{d':Drawn}{ch:List Az}(I:Inv X pins σ H s)(u:Un (frs X.stack) ch H H' s.heap h')(hok:HOk X.prog X.w H' h')(l:AllBare g')
  (d:∀ b∈ch,(b∈X.ex\/X.s₀.heap.objs.size<=b)/\b≠X.env.locals/\(∀ x c,X.env.cells.lookup x=some c->c≠b)/\∀ p∈X.pn++pins,p.1≠b) :
  Inv X pins σ H' {s with heap:=h',gens:=g',drawn:=d',toks:=t'}:=by
 obtain ⟨m,⟨o,es,v,j,r⟩,_⟩:=id I.loc
 obtain ⟨y,i⟩:=u.any j I.free fun z=>(d _ z).2.1 rfl
 exact I.step (ch:=ch) d (fun b o i q a e n=>u.keep b o e n (fun z=>(AG.mp (I.stkSub b z)).elim i q) a) (fun b o _ _ a e n=>u.any e n a) (fun b o a e n=>u.free b o e n a) (fun b o a e=>u.there b o e a) u.tups u.frzs u.tbls (fun A t=>by
  obtain ⟨o',h,g,f,k⟩:=t
  rw[j] at f;cases f
  exact ⟨_,h,g,i,k⟩) hok l
theorem Inv.turned{t':Nat}{it:Az}(I:Inv X pins σ H s)(k:∀ b o,b≠it->s.heap.get? b=some o->h'.get? b=some o)(hn:H it=none)(f:it≠X.env.locals)
  (h1:it∈X.ex\/X.s₀.heap.objs.size<=it) (h2:∀ x c,X.env.cells.lookup x=some c->c≠it) (j:∀ p∈X.pn++pins,p.1≠it):Inv X pins σ H {s with heap:=h',toks:=t'}:=by
 have d:∀ b u,H b=some u->b≠it:=fun b u e z=>by rw[z,hn] at e;cases e
 refine I.step (g':=s.gens) (d':=s.drawn) (ch:=[it]) (fun b i=>?_) (fun b o _ _ a e _=>k b o (fun z=>a (by simp[z])) e) (fun b o _ _ a e _=>⟨o.slots,k b o (fun z=>a (by simp[z])) e⟩) (fun _ _ _ _ n=>n)
  (fun b o a e=>⟨o,k b o (fun z=>a (by simp[z])) e⟩) (fun _ _ e=>e) (fun _ _ _ e=>e) (fun _ _ e=>e) (fun m l=>?_) (fun b u e=>?_) I.bare
 .have e:b=it:=by simpa using i
  subst e
  exact ⟨h1,f,h2,j⟩
 .obtain ⟨o,es,g,h,r⟩:=l
  exact ⟨o,es,g,k _ o (BG f) h,r⟩
 .refine (I.hok b u e).stay (fun c v a q=>k c v ?_ q) (fun _ q=>q) (fun _ _ q=>q) fun _ _ q=>q
  rcases a with z|z
  · rw [z]; exact d b u e
  · exact d c _ z
theorem Inv.tok(I:Inv X pins σ H s)(t:Nat):Inv X pins σ H {s with toks:=t}:=I.un (h':=s.heap) (t':=t) Un.refl I.hok
theorem Inv.kept{t':Nat}(I:Inv X pins σ H s)(k:∀ b u,s.heap.get? b=some u->h'.get? b=some u):Inv X pins σ H {s with heap:=h',toks:=t'}:=I.un (Un.kept k) (I.hok.kept k)
theorem Inv.laid{a:Az}{o:HO}{t':Nat}(I:Inv X pins σ H s)(k:∀ b u,s.heap.get? b=some u->h'.get? b=some u)(c:s.heap.objs.size<=a)(new:b9 X.prog X.w (upd H a o) h' a o) :
 Inv X pins σ (upd H a o) {s with heap:=h',toks:=t'}:=I.un (Un.laid k c (I.hok.fresh c)) (I.hok.laid k c new)
theorem Inv.write{x e:Az}{o:HO}{t':Nat}(I:Inv X pins σ H s)(d:Mut (H x))(c:e=x\/H e=some (.own x))(k:∀ b u,b≠e->s.heap.get? b=some u->h'.get? b=some u)(a:∃ u,h'.get? e=some u)
 (new:b9 X.prog X.w (upd H x o) h' x o):Inv X pins σ (upd H x o) {s with heap:=h',toks:=t'}:=I.un (Un.write d c k a) (I.hok.write d c k a new)
theorem Inv.pins_of{pins':List (Az×Obj)}(I:Inv X pins σ H s)(h:∀ p∈pins',s.heap.get? p.1=some p.2/\H p.1=none/\p.1≠X.env.locals/\p.1∉X.fs/\∀ v,p.2.data≠.cell v):Inv X pins' σ H s:=
 ⟨I.ok,I.os,I.bare,I.base,I.loc,I.cell,I.free,I.freeC,fun p a=>(B3.mp a).elim (fun z=>I.pin p (EB _ z)) (h p),I.hok,I.len⟩
theorem x3{N:List Str}(c:N.Nodup){i j:Nat}{x:Str}(a:N[i]? = some x)(b:N[j]? = some x):i=j:=by
 obtain ⟨h1,e1⟩:=AS.mp a
 obtain ⟨h2,e2⟩:=AS.mp b
 exact (List.getElem_inj c).mp (e1.trans e2.symm)
theorem wB{M:Model}{A:U9}{E:V9->S9->Prop}{i:Nat}{x:Str}{v:V}{u:V9}{Q:Unit->S9->Prop}(I:Inv X pins σ H s)(hN:X.N.Nodup)(hi:X.N[i]? = some x)(hx:Loc X.env.scope x)(r:bB v u)
  (h:∀ s',Inv X pins (σ.set i (some v)) H s'->(∃ a,Heap.SameBut a s.heap s'.heap/\(a=X.env.locals\/X.env.cells.lookup x=some a))->Q () s') (hf:X.fn x=true\/X.env.scope.names.lookup x=some .local):wpAny M A (storeName X.env x u) Q E s:=by
 obtain ⟨m,Y,hl⟩:=id I.loc
 have P:(X.env.scope.kind == .class || (X.env.scope.kind == .module && X.env.locals != X.env.globals))=false:=by rw[I.ok.kind];rfl
 have C:i < σ.length:=by rw[I.len];exact (AS.mp hi).1
 have cne:=I.cne
 have g:∀ {a:Az} {h':Hz},(∃ o,s.heap.get? a=some o/\H a=none)->Heap.SameBut a s.heap h'->HOk X.prog X.w H h':=fun {a h'} ha f b ob e=>by
  obtain ⟨_,_,t⟩:=ha
  refine (I.hok b ob e).stay (fun c R l q=>(f.2 c ?_).trans q) (fun _ q=>q) (fun _ _ q=>q) fun _ _ q=>q
  rintro rfl
  rcases l with rfl|l
  .rw[t] at e;cases e
  .rw[t] at l;cases l
 rcases hx with B|B
 .refine wpAny_storeName_local B Y (fun h' aa f=>?_) P
  obtain ⟨oL,_,_,W,_⟩:=id Y
  refine h _ ⟨I.ok,I.os,I.bare,⟨fun b o e n F hx=>?_,fun b o e n F hx=>?_,I.base.free,fun b o e hx=>?_,I.base.tups,I.base.frzs,I.base.tbls⟩,⟨_,aa,fun j y v' e1 e2 Z=>?_⟩,fun y c e=>?_,I.free,I.freeC,fun p hp=>?_,g ⟨oL,W,I.free⟩ f,by simpa using I.len⟩ ⟨_,f,.inl rfl⟩
  .exact (f.2 b (A4 (AW (AK e) I.ok.above))).trans (I.base.keep b o e n F hx)
  .obtain ⟨sl,e1⟩:=I.base.slot b o e n F hx
   exact ⟨sl,(f.2 b (A4 (AW (AK e) I.ok.above))).trans e1⟩
  .obtain ⟨o',e1⟩:=I.base.there b o e hx
   exact ⟨o',(f.2 b (A4 (AW (AK e) I.ok.above))).trans e1⟩
  .by_cases D:j=i
   .subst D
    rw[hi] at e1;cases e1
    rw[BW C] at e2
    cases e2
    exact ⟨u,r,.inl ⟨B,by simp⟩⟩
   .rw[BD (BG D)] at e2
    obtain ⟨u',U,q⟩:=hl j y v' e1 e2 Z
    refine ⟨u',U,?_⟩
    rcases q with ⟨k,e⟩|⟨k,c,e,z⟩
    .refine .inl ⟨k,?_⟩
     have:y≠x:=fun e=>D (x3 hN e1 (e▸hi))
     simp[this,e]
    .exact .inr ⟨k,c,e,z.sameBut f (cne y c e)⟩
  .obtain ⟨R,z⟩:=I.cell y c e
   exact ⟨R,z.sameBut f (cne y c e)⟩
  .obtain ⟨e,n,T,nf,d⟩:=I.pin p hp
   exact ⟨(f.2 p.1 T).trans e,n,T,nf,d⟩
 .have G:X.fn x=true:=by
   rcases hf with z|z
   .exact z
   .rw[z] at B;cases B
  obtain ⟨c,l⟩:=I.ok.has x (.inl B)
  obtain ⟨R,z⟩:=I.cell x c l
  refine wpAny_storeName_cell I.ok.kind B l z (fun h' O f=>?_)
  obtain ⟨oc,K,J⟩:=id z
  refine h {s with heap:=h'} ⟨I.ok,I.os,I.bare,⟨fun b o e n F hx=>?_,fun b o e n F hx=>?_,I.base.free,fun b o e hx=>?_,I.base.tups,I.base.frzs,I.base.tbls⟩,⟨m,Y.sameBut f (BG (cne x c l)),fun j y v' e1 e2 Z=>?_⟩,fun y S e=>?_,I.free,I.freeC,fun p hp=>?_,g ⟨oc,K,I.freeC x c l⟩ f,by simpa using I.len⟩ ⟨c,f,.inr l⟩
  .exact (f.2 b (A4 (AW (AK e) (I.ok.cab x c G l)))).trans (I.base.keep b o e n F hx)
  .obtain ⟨sl,e1⟩:=I.base.slot b o e n F hx
   exact ⟨sl,(f.2 b (A4 (AW (AK e) (I.ok.cab x c G l)))).trans e1⟩
  .obtain ⟨o',e1⟩:=I.base.there b o e hx
   exact ⟨o',(f.2 b (A4 (AW (AK e) (I.ok.cab x c G l)))).trans e1⟩
  .by_cases D:j=i
   .subst D
    rw[hi] at e1;cases e1
    rw[BW C] at e2
    cases e2
    exact ⟨u,r,.inr ⟨.inl B,c,l,O⟩⟩
   .rw[BD (BG D)] at e2
    obtain ⟨u',U,q⟩:=hl j y v' e1 e2 Z
    refine ⟨u',U,?_⟩
    rcases q with q|⟨k,S,e,z'⟩
    .exact .inl q
    .refine .inr ⟨k,S,e,z'.sameBut f ?_⟩
     rintro rfl
     exact D (x3 hN e1 (I.ok.inj _ _ _ e l▸hi))
  .by_cases L:S=c
   .subst L;exact ⟨_,O⟩
   .obtain ⟨w2,z2⟩:=I.cell y S e
    exact ⟨w2,z2.sameBut f L⟩
  .obtain ⟨e,n,T,nf,d⟩:=I.pin p hp
   refine ⟨(f.2 p.1 ?_).trans e,n,T,nf,d⟩
   intro q
   rw[q,K] at e
   have q':oc=p.2:=BT e
   exact d R (by rw[<-q'];exact J)
theorem sH{M:Model}{A:U9}{E:V9->S9->Prop}{i:Nat}{x:Str}{v:V}{u:V9}{Q:Unit->S9->Prop}(I:Inv X pins σ H s)(b:X.N.Nodup)(hi:X.N[i]? = some x)(hx:Loc X.env.scope x)(r:bB v u)
  (h:∀ s',Inv X pins (σ.set i (some v)) H s'->Q () s') (c:X.fn x=true\/X.env.scope.names.lookup x=some .local):wpAny M A (storeName X.env x u) Q E s:=
 wB I b hi hx r (fun s' a _=>h s' a) c
theorem Inv.call'{s':S9}{ch:List Az}(I:Inv X pins σ H s)(f:s'.os=s.os)(u:Un (frs X.stack) ch H H' s.heap s'.heap)(hok:HOk X.prog X.w H' s'.heap)(d:AllBare s'.gens)
  (a:∀ b∈ch,(b∈X.ex\/X.s₀.heap.objs.size<=b)/\b≠X.env.locals/\(∀ x c,X.env.cells.lookup x=some c->c≠b)/\∀ p∈X.pn++pins,p.1≠b):Inv X pins σ H' s':=by
 obtain ⟨h',g',d',t',o'⟩:=s'
 have e:o'=s.os:=f
 subst e
 exact I.call (g':=g') (t':=t') (d':=d') u hok d a
end
abbrev XK:=V9->O6 Az->Hp->Prop
abbrev St:=List (O6 V)
abbrev VK:=V->Hp->Prop
abbrev TE:=St->Hp->VK->Prop
abbrev TT:=St->Hp->(Bool->Hp->Prop)->Prop
abbrev TA:=St->Hp->(List V->Hp->Prop)->Prop
structure kX where
 nx:St->Hp->Prop
 rt:VK
 bk:St->Hp->Prop:=fun _ _=>False
 ct:St->Hp->Prop:=fun _ _=>False
abbrev TS:=kX->St->Hp->Prop
def EP(X:Cx)(pins:List (Az×Obj))(σ:St)(Q:VK)(u:V9)(s':S9):Prop:=∃ v H',Inv X pins σ H' s'/\bB v u/\Q v H'
def TP(X:Cx)(pins:List (Az×Obj))(σ:St)(Q:Bool->Hp->Prop)(b:Bool)(s':S9):Prop:=∃ H',Inv X pins σ H' s'/\Q b H'
def AP(X:Cx)(pins:List (Az×Obj))(σ:St)(Q:List V->Hp->Prop)(us:List V9)(s':S9):Prop:=∃ vs H',Inv X pins σ H' s'/\aZ vs us/\Q vs H'
def SP(X:Cx)(pins:List (Az×Obj))(D:kX)(f:Flow)(s':S9):Prop:=
 match f with
 | .next=>∃ σ' H',Inv X pins σ' H' s'/\D.nx σ' H'
 | .brk=>∃ σ' H',Inv X pins σ' H' s'/\D.bk σ' H'
 | .cont=>∃ σ' H',Inv X pins σ' H' s'/\D.ct σ' H'
 | .ret u=>∃ v σ' H',Inv X pins σ' H' s'/\bB v u/\D.rt v H'
def PE(X:Cx)(e:Ez)(t:TE):Prop:=
 ∀ (pins:List (Az×Obj)) (s:S9) (σ:St) (H:Hp) (Q:VK),Inv X pins σ H s->t σ H Q->wpAny (model X.prog X.w) X.A (eval e X.env) (EP X pins σ Q) X.xe s
def PT(X:Cx)(e:Ez)(t:TT):Prop:=
 ∀ (pins:List (Az×Obj)) (s:S9) (σ:St) (H:Hp) (Q:Bool->Hp->Prop),Inv X pins σ H s->t σ H Q->wpAny (model X.prog X.w) X.A (isTrue e X.env (eval e X.env)) (TP X pins σ Q) X.xe s
def PW(X:Cx)(e:Ez)(t:TT):Prop:=
 ∀ (whole:Sem V9) (pins:List (Az×Obj)) (s:S9) (σ:St) (H:Hp) (Q:Bool->Hp->Prop),Inv X pins σ H s->t σ H Q->wpAny (model X.prog X.w) X.A (isTrue e X.env whole) (TP X pins σ Q) X.xe s
theorem PW.pt{X:Cx}{e:Ez}{t:TT}(h:PW X e t):PT X e t:=h _
def PA(X:Cx)(es:List Ez)(t:TA):Prop:=
 ∀ (pos:Pos) (pins:List (Az×Obj)) (s:S9) (σ:St) (H:Hp) (Q:List V->Hp->Prop),Inv X pins σ H s->t σ H Q->wpAny (model X.prog X.w) X.A (spliced (backTo pos (starEach es X.env))) (AP X pins σ Q) X.xe s
def PS(X:Cx)(st:Stmt)(t:TS):Prop:=
 ∀ (pins:List (Az×Obj)) (s:S9) (σ:St) (H:Hp) (D:kX),Inv X pins σ H s->t D σ H->wpAny (model X.prog X.w) X.A (exec st X.env) (SP X pins D) X.xe s
def PSs(X:Cx)(st:List Stmt)(t:TS):Prop:=
 ∀ (pins:List (Az×Obj)) (s:S9) (σ:St) (H:Hp) (D:kX),Inv X pins σ H s->t D σ H->wpAny (model X.prog X.w) X.A (execs st X.env) (SP X pins D) X.xe s
theorem thn{α:Type}{t:Sem α}{Q b:α->S9->Prop}{M:Model}{A:U9}{E:V9->S9->Prop}{s:S9}(h:wpAny M A t Q E s)(c:∀ a s,Q a s->b a s):wpAny M A t b E s:=BY h c fun _ _ x=>x
section
variable{X:Cx}
def hX(i:Nat):TE:=fun σ H Q=>∃ v,σ[i]? = some (some v)/\Q v H
def tC(v:V):TE:=fun _ H Q=>Q v H
theorem aL1{i:Nat}{x:Str}{pos:Pos}(k:X.N[i]? = some x)(o:Vis X.env.scope x)(f:(x == ("__debug__":Str))=false:=by decide)(hcd:(x == ("__classdict__":Str))=false:=by decide):PE X (.Name x pos) (hX i):=by
 intro pins s σ H Q I h
 obtain ⟨v,e,h⟩:=h
 obtain ⟨m,j,n⟩:=I.loc
 obtain ⟨u,r,l⟩:=n i x v k e o
 have d:EP X pins σ Q u s:=⟨v,H,I,r,h⟩
 rcases l with ⟨b,p⟩|⟨b,c,g,a⟩
 .exact wpAny_Name (wpAny_loadName_local I.ok.kind b j p d) f
 .rcases b with b|b
  · exact wpAny_Name (wpAny_loadName_cell I.ok.kind b g a d) f
  · exact wpAny_Name (wpAny_loadName_free I.ok.kind b g a d hcd) f
theorem aL2{i j pos}:PE X (.Constant (.int i) j pos) (tC (.int i)):=fun _ _ _ H _ I h=>wpAny_Constant_int ⟨.int i,H,I.tok _,⟨_,rfl⟩,h⟩
theorem aOH{b j pos}:PE X (.Constant (.bool b) j pos) (tC (.bl b)):=fun _ _ _ H _ I h=>Constant_bool ⟨.bl b,H,I,rfl,h⟩
theorem aL3{j pos}:PE X (.Constant .none j pos) (tC .non):=fun _ _ _ H _ I h=>Constant_none ⟨.non,H,I,rfl,h⟩
theorem aL4{x j pos}:PE X (.Constant (.str x) j pos) (tC (.str x)):=fun _ _ _ H _ I h=>Calls.Constant_str ⟨.str x,H,I.tok _,⟨_,rfl⟩,h⟩
def Gl(X:Cx)(x:Str):Prop:=X.env.kindOf x=some .globalImplicit
theorem qY{E:V9->S9->Prop}{pins:List (Az×Obj)}{s:S9}{σ:St}{H:Hp}{x:Str}{u:V9}{pos:Pos}{Q:V9->S9->Prop}(I:Inv X pins σ H s)(a:Gl X x)(hm:X.mg x=some u)(h:Q u s)
  (b:(x == ("__debug__":Str))=false:=by decide):wpAny (model X.prog X.w) X.A (eval (.Name x pos) X.env) Q E s:=
 FS I.ok.kind a (Calls.loadGlobal_global (by rw[I.ok.glob];exact I.mod.glob.keeps I.bk) hm h) b
theorem iZ{E:V9->S9->Prop}{pins:List (Az×Obj)}{s:S9}{σ:St}{H:Hp}{x:Str}{u:V9}{pos:Pos}{Q:V9->S9->Prop}(I:Inv X pins σ H s)(a:Gl X x)(hm:X.mg x=none)(b:bootBuiltins x=some u)(h:Q u s)
  (hn:x≠"__name__":=by decide) (hd:(x == ("__debug__":Str))=false:=by decide):wpAny (model X.prog X.w) X.A (eval (.Name x pos) X.env) Q E s:=by
 obtain ⟨c,h1,h2⟩:=I.mod.blt
 exact FS I.ok.kind a (Calls.loadGlobal_builtin (by rw[I.ok.glob];exact I.mod.glob.keeps I.bk) hm (by rw[I.ok.blt];exact h1.keeps I.bk) ((h2 x hn).trans b) h) hd
theorem f6{x:Str}{v:V}{u:V9}{pos:Pos}(a:Gl X x)(hm:X.mg x=some u)(r:bB v u)(b:(x == ("__debug__":Str))=false:=by decide):PE X (.Name x pos) (tC v):=
 fun _ _ _ H _ I h=>qY I a hm ⟨v,H,I,r,h⟩ b
theorem kE{x:Str}{v:V}{u:V9}{pos:Pos}(a:Gl X x)(hm:X.mg x=none)(b:bootBuiltins x=some u)(r:bB v u)(hn:x≠"__name__":=by decide)(hd:(x == ("__debug__":Str))=false:=by decide):PE X (.Name x pos) (tC v):=
 fun _ _ _ H _ I h=>iZ I a hm b ⟨v,H,I,r,h⟩ hn hd
variable{a b:Ez}{ta tb:TE}{pos:Pos}
def PC(X:Cx)(op:CmpOp)(a b:Ez)(t:TE):Prop:=
 ∀ (pins:List (Az×Obj)) (s:S9) (σ:St) (H:Hp) (Q:VK),Inv X pins σ H s->t σ H Q->
  wpAny (model X.prog X.w) X.A (eval a X.env) (fun v s₁=>wpAny (model X.prog X.w) X.A (eval b X.env) (fun u s₂=>wpAny (model X.prog X.w) X.A (compareOp op v u) (EP X pins σ Q) X.xe s₂) X.xe s₁) X.xe s
theorem aGQ(b:Ez){a:CmpOp}(h:a≠.In)(h2:a≠.NotIn):behindInMarks a b=false:=by
 have e1:(a == CmpOp.In)=false:=by cases a<;>first|rfl|exact absurd rfl h
 have e2:(a == CmpOp.NotIn)=false:=by cases a<;>first|rfl|exact absurd rfl h2
 cases b<;>simp[behindInMarks,e1,e2]
def tB(t:TE):TT:=fun σ H Q=>t σ H fun x H1=>∃ c,x=.bl c/\Q c H1
theorem cJ{e:CmpOp}{t:TE}(h:PC X e a b t)(h1:behindInMarks e b=false:=by first|exact aGQ _ (by decide) (by decide)|rfl):PT X (.Compare a [e] [b] pos) (tB t):=by
 intro pins s σ H Q I g
 refine wpAny_isTrue_Compare1 (thn (h pins s σ H _ I g) fun v s1 h1=>thn h1 fun u m h2=>thn h2 fun c l f=>?_) h1
 obtain ⟨x,H1,k,j,i⟩:=f
 obtain ⟨d,rfl,q⟩:=i
 cases j
 exact DI ⟨H1,k,q⟩
theorem fM{e:Ez}{t:TE}(h:PE X e t)(b:∀ whole,isTrue e X.env whole=(do let v <-whole;standAt e.pos;holding [v] (truthy v)):=by intro _;rfl):PT X e (tB t):=by
 intro pins s σ H Q I c
 refine isTrue_plain (thn (h pins s σ H _ I c) fun v s1 a=>?_) (b _)
 obtain ⟨x,H1,i,g,f⟩:=a
 obtain ⟨d,rfl,q⟩:=f
 cases g
 exact DI ⟨H1,i,q⟩
variable{tA tB':TT}{rest:List Ez}
def aL5(t u:TT):TT:=fun σ H Q=>t σ H fun c H1=>if c=true then u σ H1 Q else Q false H1
def tOr(t u:TT):TT:=fun σ H Q=>t σ H fun c H1=>if c=true then Q true H1 else u σ H1 Q
def aPL(t:TT):TT:=fun σ H Q=>t σ H fun c H1=>Q (!c) H1
theorem nV(ha:PT X a tA):PW X (.BoolOp .And [a] pos) tA:=by
 intro b pins s σ H Q I h
 refine isTrue_and (thn (ha pins s σ H Q I h) fun c s1 e=>?_)
 cases c with
 | true=>exact isTrue_and_nil e
 | false=>exact e
theorem j1(ha:PT X a tA):PW X (.BoolOp .Or [a] pos) tA:=by
 intro b pins s σ H Q I h
 refine isTrue_or (thn (ha pins s σ H Q I h) fun c s1 e=>?_)
 cases c with
 | false=>exact isTrue_or_nil e
 | true=>exact e
theorem nW(ha:PT X a tA)(i:PW X (.BoolOp .And (b::rest) pos) tB'):PW X (.BoolOp .And (a::b::rest) pos) (aL5 tA tB'):=by
 intro g pins s σ H Q I h
 refine isTrue_and (thn (ha pins s σ H _ I h) fun c s1 d=>?_)
 obtain ⟨H1,f,e⟩:=d
 cases c with
 | true=>exact i g pins s1 σ H1 Q f e
 | false=>exact ⟨H1,f,e⟩
theorem j2(ha:PT X a tA)(i:PW X (.BoolOp .Or (b::rest) pos) tB'):PW X (.BoolOp .Or (a::b::rest) pos) (tOr tA tB'):=by
 intro g pins s σ H Q I h
 refine isTrue_or (thn (ha pins s σ H _ I h) fun c s1 d=>?_)
 obtain ⟨H1,f,e⟩:=d
 cases c with
 | true=>exact ⟨H1,f,e⟩
 | false=>exact i g pins s1 σ H1 Q f e
theorem hZ(ha:PT X a tA):PT X (.UnaryOp .Not a pos) (aPL tA):=by
 intro pins s σ H Q I h
 exact isTrue_not (ha pins s σ H (fun c H1=>Q (!c) H1) I h)
def aOI(ta tb:TE):TE:=fun σ H Q=>ta σ H fun x H1=>∃ c,x=.bl c/\if c=true then tb σ H1 Q else Q (.bl false) H1
def aOJ(ta:TE):TE:=fun σ H Q=>ta σ H fun x H1=>∃ c,x=.bl c/\Q (.bl (!c)) H1
theorem aL6{op}{t:TE}(h:PE X a t):PE X (.BoolOp op [a] pos) t:=fun pins s σ H Q I b=>BoolOp_one (h pins s σ H Q I b)
theorem aL7(ha:PE X a ta)(g:PE X (.BoolOp .And (b::rest) pos) tb):PE X (.BoolOp .And (a::b::rest) pos) (aOI ta tb):=by
 intro pins s σ H Q I h
 refine BoolOp_and (thn (ha pins s σ H _ I h) fun v s1 e=>?_)
 obtain ⟨x,H1,f,i,d⟩:=e
 obtain ⟨c,rfl,d⟩:=d
 cases i
 refine DI ?_
 cases c with
 | true=>exact g pins s1 σ H1 Q f d
 | false=>exact ⟨.bl false,H1,f,rfl,d⟩
theorem aL8(ha:PE X a ta):PE X (.UnaryOp .Not a pos) (aOJ ta):=by
 intro pins s σ H Q I h
 refine UnaryOp_ (thn (ha pins s σ H _ I h) fun v s1 b=>?_)
 obtain ⟨x,H1,f,e,d⟩:=b
 obtain ⟨c,rfl,d⟩:=d
 cases e
 exact not_of (DI ⟨.bl (!c),H1,f,rfl,d⟩)
def tIf(t:TT)(ta tb:TE):TE:=fun σ H Q=>t σ H fun c H1=>if c=true then ta σ H1 Q else tb σ H1 Q
theorem aGR{c:Ez}(i:PT X c tA)(ha:PE X a ta)(j:PE X b tb):PE X (.IfExp c a b pos) (tIf tA ta tb):=by
 intro pins s σ H Q I h
 refine wpAny_IfExp (thn (i pins s σ H _ I h) fun d s1 e=>?_)
 obtain ⟨H1,g,f⟩:=e
 cases d with
 | true=>exact ha pins s1 σ H1 Q g f
 | false=>exact j pins s1 σ H1 Q g f
end
def SqL(K:Frag)(H:Hp)(a:Az)(xs:List V):Prop:=
 Rd H a (.lst xs) \/
  ∃ (o:Obj) (its:Array V9) (n:Nat),K.lookup a=some o/\o.cls=.type "list"/\o.dict=none/\o.data=.seq its n/\its.size<=sizeLine/\aZ xs its.toList
def SqT(K:Frag)(H:Hp)(a:Az)(xs:List V):Prop:=
 Rd H a (.tup xs) \/
  ∃ (o:Obj) (its:Array V9) (n:Nat),K.lookup a=some o/\(o.cls=.type "tuple"/\o.dict=none)/\o.data=.seq its n/\its.size<=sizeLine/\aZ xs its.toList
noncomputable def aPM:V9->O6 V
 | .none=>some .non
 | .bool b=>some (.bl b)
 | .int i _=>some (.int i)
 | .str x _=>some (.str x)
 | .bytes b _=>some (.byt b)
 | .float b _=>some (.flt b)
 | .ref a=>some (.ref a)
 | .type n=>some (.ty n)
 | _=>none
theorem bB.abs{x:V}{u:V9}(r:bB x u):aPM u=some x:=by
 cases x with
 | non=>cases r;rfl
 | bl _=>cases r;rfl
 | int _=>obtain ⟨t,rfl⟩:=r;rfl
 | str _=>obtain ⟨t,rfl⟩:=r;rfl
 | byt _=>obtain ⟨t,rfl⟩:=r;rfl
 | flt _=>obtain ⟨t,rfl⟩:=r;rfl
 | ref _=>cases r;rfl
 | ty _=>cases r;rfl
theorem bB.inj{x y:V}{u:V9}(r:bB x u)(q:bB y u):x=y:=BT (r.abs.symm.trans q.abs)
theorem aZ.inj:∀ {xs ys:List V} {us:List V9},aZ xs us->aZ ys us->xs=ys
 | _,_,_,.nil,.nil=>rfl
 | _,_,_,.cons r t,.cons r' t'=>by rw[r.inj r',aZ.inj t t']
section
variable{X:Cx}{pins:List (Az×Obj)}{σ:St}{H:Hp}{s:S9}{a:Az}{xs ys:List V}
theorem SqL.of{K:Frag}(h:H a=some (.lst xs)):SqL K H a xs:=.inl (.inl h)
theorem SqT.of{K:Frag}(h:H a=some (.tup xs)):SqT K H a xs:=.inl (.inl h)
theorem Inv.list(I:Inv X pins σ H s)(h:SqL X.K H a xs):∃ its:List V9,aZ xs its/\PlainL s.heap a its.toArray/\xs.length<=sizeLine:=by
 rcases h with h|⟨o,its,n,b,c,f,d,g,r⟩
 .obtain ⟨z,its,n,r,e⟩:=h.ok I.hok
  exact ⟨its,r,⟨_,n,e,rfl,rfl,rfl⟩,z⟩
 .refine ⟨its.toList,r,⟨o,n,I.kIn a o b,c,f,by simpa using d⟩,?_⟩
  have e:=r.length
  simp only[B5] at e
  omega
theorem Inv.tuple(I:Inv X pins σ H s)(h:SqT X.K H a xs):∃ its:List V9,aZ xs its/\IsTup s.heap a its.toArray/\xs.length<=sizeLine:=by
 rcases h with h|⟨o,its,n,b,c,d,f,r⟩
 .obtain ⟨z,its,r,p⟩:=h.ok I.hok
  exact ⟨its,r,p.t,z⟩
 .refine ⟨its.toList,r,⟨o,I.kIn a o b,c.1,n,by simpa using d⟩,?_⟩
  have e:=r.length
  simp only[B5] at e
  omega
theorem Inv.list_inj(I:Inv X pins σ H s)(h:SqL X.K H a xs)(h':SqL X.K H a ys):xs=ys:=by
 obtain ⟨c,r,⟨o,n,e,_,_,d⟩,_⟩:=I.list h
 obtain ⟨b,i,⟨o',j,f,_,_,g⟩,_⟩:=I.list h'
 rw[e] at f;cases f
 rw[d] at g
 injection g with d1 _
 have:c=b:=by simpa using congrArg Array.toList d1
 subst this
 exact r.inj i
theorem Inv.tuple_inj(I:Inv X pins σ H s)(h:SqT X.K H a xs)(h':SqT X.K H a ys):xs=ys:=by
 obtain ⟨c,r,⟨o,e,_,n,d⟩,_⟩:=I.tuple h
 obtain ⟨b,i,⟨o',f,_,j,g⟩,_⟩:=I.tuple h'
 rw[e] at f;cases f
 rw[d] at g
 injection g with d1 _
 have:c=b:=by simpa using congrArg Array.toList d1
 subst this
 exact r.inj i
end
abbrev Cx.wish(X:Cx)(E:V9->S9->Prop):Cx:={X with xe:=E}
abbrev Cx.nox(X:Cx):Cx:=X.wish fun _ _=>False
theorem Cx.Ok.wish{X:Cx}(ok:X.Ok)(E:V9->S9->Prop):(X.wish E).Ok:=
 ⟨ok.mod,ok.kind,ok.glob,ok.blt,ok.above,ok.inj,ok.has,ok.cab,ok.hd,ok.frames,ok.stk,ok.exf,ok.bs,ok.bsz,ok.noex,ok.exfs,ok.funs,ok.frf⟩
theorem Cx.Ok.unwish{X:Cx}{E:V9->S9->Prop}(ok:(X.wish E).Ok):X.Ok:=
 ⟨ok.mod,ok.kind,ok.glob,ok.blt,ok.above,ok.inj,ok.has,ok.cab,ok.hd,ok.frames,ok.stk,ok.exf,ok.bs,ok.bsz,ok.noex,ok.exfs,ok.funs,ok.frf⟩
section
variable{X:Cx}{pins:List (Az×Obj)}{σ:St}{H:Hp}{s:S9}{E:V9->S9->Prop}
theorem Inv.wish(I:Inv X pins σ H s)(E:V9->S9->Prop):Inv (X.wish E) pins σ H s:=⟨I.ok.wish E,I.os,I.bare,I.base,I.loc,I.cell,I.free,I.freeC,I.pin,I.hok,I.len⟩
theorem Inv.unwish(I:Inv (X.wish E) pins σ H s):Inv X pins σ H s:=⟨I.ok.unwish,I.os,I.bare,I.base,I.loc,I.cell,I.free,I.freeC,I.pin,I.hok,I.len⟩
theorem SP.unwish{D:kX}{f:Flow}{s':S9}(h:SP (X.wish E) pins D f s'):SP X pins D f s':=by
 cases f with
 | next=>obtain ⟨a,H',I,q⟩:=h;exact ⟨a,H',I.unwish,q⟩
 | brk=>obtain ⟨a,H',I,q⟩:=h;exact ⟨a,H',I.unwish,q⟩
 | cont=>obtain ⟨a,H',I,q⟩:=h;exact ⟨a,H',I.unwish,q⟩
 | ret u=>obtain ⟨v,a,H',I,r,q⟩:=h;exact ⟨v,a,H',I.unwish,r,q⟩
theorem PE.nox{e:Ez}{t:TE}(h:PE X.nox e t):PE X e t:=fun pins s σ H Q I a=>
 BY (h pins s σ H Q (I.wish _) a) (fun _ _ ⟨v,H',b,r,q⟩=>⟨v,H',b.unwish,r,q⟩) fun _ _ z=>False.elim z
theorem PT.nox{e:Ez}{t:TT}(h:PT X.nox e t):PT X e t:=fun pins s σ H Q I a=>
 BY (h pins s σ H Q (I.wish _) a) (fun _ _ ⟨H',b,q⟩=>⟨H',b.unwish,q⟩) fun _ _ z=>False.elim z
theorem PSs.nox{st:List Stmt}{t:TS}(h:PSs X.nox st t):PSs X st t:=fun pins s σ H D I a=>
 BY (h pins s σ H D (I.wish _) a) (fun _ _ q=>q.unwish) fun _ _ z=>False.elim z
end
section
variable{X:Cx}{st:Stmt}{rest:List Stmt}{t u:TS}{e:Ez}{te:TE}{pos:Pos}
def aOK:TS:=fun D σ H=>D.nx σ H
def aPN(t u:TS):TS:=fun D σ H=>t {D with nx:=u D} σ H
theorem cE:PSs X [] aOK:=fun _ _ σ H _ I h=>E7 ⟨σ,H,I,h⟩
theorem aG(h1:PS X st t)(h2:PSs X rest u):PSs X (st::rest) (aPN t u):=by
 intro pins s σ H D I h
 refine EZ (thn (h1 pins s σ H {D with nx:=u D} I h) fun f s1 q=>?_)
 cases f with
 | next=>
  obtain ⟨a,H',b,q⟩:=q
  exact h2 pins s1 a H' D b q
 | ret v=>exact q
 | brk=>exact q
 | cont=>exact q
theorem aN(h1:PS X st t):PSs X [st] t:=by
 intro pins s σ H D I h
 refine EZ (thn (h1 pins s σ H D I h) fun f s1 q=>?_)
 cases f with
 | next=>exact E7 q
 | ret v=>exact q
 | brk=>exact q
 | cont=>exact q
theorem Inv.quiet{pins:List (Az×Obj)}{σ:St}{H:Hp}{s:S9}(I:Inv X pins σ H s):interactive X.env=false:=by simp[interactive,I.ok.kind]
def xO(te:TE):TS:=fun D σ H=>te σ H fun _ H1=>D.nx σ H1
theorem eR(b:PE X e te)(c:swapsWith e none pos.line X.env=pure false:=by rfl):PS X (.Expr e pos) (xO te):=by
 intro pins s σ H D I h
 exact wpAny_Expr_any (thn (b pins s σ H _ I h) fun v s1 ⟨x,H1,d,f,a⟩=>⟨σ,H1,d,a⟩) I.quiet c
def aPO(te:TE):TS:=fun D σ H=>te σ H D.rt
theorem bA(b:PE X e te):PS X (.Return (some e) pos) (aPO te):=by
 intro pins s σ H D I h
 exact wpAny_Return_some (thn (b pins s σ H _ I h) fun v s1 ⟨x,H1,d,c,a⟩=>⟨x,σ,H1,d,c,a⟩)
def aPP(c:TT)(t u:TS):TS:=fun D σ H=>c σ H fun b H1=>if b=true then t D σ H1 else u D σ H1
theorem dA{c:Ez}{a b:List Stmt}{tc:TT}(i:PT X c tc)(ha:PSs X a t)(j:PSs X b u):PS X (.If c a b pos) (aPP tc t u):=by
 intro pins s σ H D I h
 refine wpAny_If (thn (i pins s σ H _ I h) fun d s1 e=>?_)
 obtain ⟨H1,g,f⟩:=e
 cases d with
 | true=>exact ha pins s1 σ H1 D g f
 | false=>exact j pins s1 σ H1 D g f
end
abbrev TG:=V->St->Hp->(St->Hp->Prop)->Prop
abbrev TGs:=List V->St->Hp->(St->Hp->Prop)->Prop
def PG(X:Cx)(target:Ez)(t:TG):Prop:=
 ∀ (pins:List (Az×Obj)) (s:S9) (σ:St) (H:Hp) (v:V) (u:V9) (Q:St->Hp->Prop),Inv X pins σ H s->bB v u->t v σ H Q->
  wpAny (model X.prog X.w) X.A (assign target X.env u) (fun _ s'=>∃ σ' H',Inv X pins σ' H' s'/\Q σ' H') X.xe s
def PGs(X:Cx)(ts:List Ez)(t:TGs):Prop:=
 ∀ (pins:List (Az×Obj)) (s:S9) (σ:St) (H:Hp) (vs:List V) (us:List V9) (Q:St->Hp->Prop),Inv X pins σ H s->aZ vs us->t vs σ H Q->
  wpAny (model X.prog X.w) X.A (assignInOrder ((assignEach ts X.env).map (·.2)) us) (fun _ s'=>∃ σ' H',Inv X pins σ' H' s'/\Q σ' H') X.xe s
abbrev aCP:=V->V->V->Hp->(Hp->Prop)->Prop
def aGS(X:Cx)(t:aCP):Prop:=
 ∀ (pins:List (Az×Obj)) (s:S9) (σ:St) (H:Hp) (o i v:V) (ov iv u:V9) (Q:Hp->Prop),Inv X pins σ H s->bB o ov->bB i iv->bB v u->t o i v H Q->
  wpAny (model X.prog X.w) X.A (setItem ov iv u) (fun _ s'=>∃ H',Inv X pins σ H' s'/\Q H') X.xe s
section
variable{X:Cx}{pos:Pos}
def i8(i:Nat):TG:=fun v σ H Q=>Q (σ.set i (some v)) H
theorem bT{i:Nat}{x:Str}(b:X.N.Nodup)(hi:X.N[i]? = some x)(hx:Loc X.env.scope x)(c:X.fn x=true\/X.env.scope.names.lookup x=some .local:=by first|exact .inl rfl|exact .inr rfl):PG X (.Name x pos) (i8 i):=by
 intro pins s σ H v u Q I r h
 exact wpAny_assign_Name (sH I b hi hx r (fun s' a=>⟨_,H,a,h⟩) c)
def aGT:TGs:=fun vs σ H Q=>vs=[]/\Q σ H
def aIU(t:TG)(u:TGs):TGs:=fun vs σ H Q=>∃ v r,vs=v::r/\t v σ H fun σ' H'=>u r σ' H' Q
theorem kF:PGs X [] aGT:=by
 intro pins s σ H vs us Q I r h
 obtain ⟨e,h⟩:=h
 subst e
 cases r
 exact assignInOrder_nil ⟨σ,H,I,h⟩
theorem dD{e:Ez}{es:List Ez}{t:TG}{u:TGs}(h1:PG X e t)(h2:PGs X es u)
  (d:(assignEach (e::es) X.env).map (·.2)=assign e X.env::(assignEach es X.env).map (·.2):=by rfl):PGs X (e::es) (aIU t u):=by
 intro pins s σ H vs us Q I r h
 obtain ⟨v,g,e1,h⟩:=h
 subst e1
 cases r with
 | cons r rr=>
  rw[d]
  refine assignInOrder_cons (thn (h1 pins s σ H _ _ _ I r h) fun _ s1 b=>?_)
  obtain ⟨a,H1,f,c⟩:=b
  exact h2 pins s1 a H1 _ _ Q f rr c
def aL9(K:Frag)(n:Nat)(t:TGs):TG:=fun v σ H Q=>∃ a xs,v=.ref a/\SqT K H a xs/\xs.length=n/\t xs σ H Q
theorem l8{es:List Ez}{k:Nat}{t:TGs}{n:Nat}(g:X.calm=true)(h:PGs X es t)
  (hn:(assignEach es X.env).length=n:=by rfl) (hst:(assignEach es X.env).findIdx? (·.1)=none:=by rfl):PG X (.Tuple es k pos) (aL9 X.K n t):=by
 intro pins s σ H v u Q I r c
 obtain ⟨a,xs,e1,m,i,c⟩:=c
 subst e1
 cases r
 obtain ⟨f,d,l,q⟩:=I.tuple m
 refine assign_Tuple_tuple (I.ok.hd g) l (by simp[hn,<-i,d.length]) hst fun h' j=>?_
 have p:Inv X pins σ H {s with heap:=h'}:=I.kept (t':=s.toks) fun b o e=>j b o (A4 (AK e)) e
 exact h pins _ σ H xs _ Q p (by simpa using d) c
def aGU(to ti:TE)(t:aCP):TG:=fun v σ H Q=>to σ H fun o H1=>ti σ H1 fun i H2=>t o i v H2 fun H3=>Q σ H3
theorem x4{o i:Ez}{to b:TE}{t:aCP}(l:PE X o to)(hi:PE X i b)(n:aGS X t)
  (ha:∀ v,assign (.Subscript o i pos) X.env v=(do
   let ov <-holding [v] (eval o X.env)
   let iv <-holding [v,ov] (eval i X.env)
   standAt pos
   holding [v,ov,iv] (setItem ov iv v)
   release [v,ov,iv] []):=by intro _;rfl):PG X (.Subscript o i pos) (aGU to b t):=by
 intro pins s σ H v u Q I r h
 rw[ha]
 refine AA (B9 (thn (l pins s σ H _ I h) fun ov s1 a=>?_))
 obtain ⟨x,H1,p,e,c⟩:=a
 refine AA (B9 (thn (hi pins s1 σ H1 _ p c) fun iv d a=>?_))
 obtain ⟨y,H2,g,k,m⟩:=a
 refine AA (DV (AA (B9 (thn (n pins d σ H2 x y v ov iv u _ g e k r m) fun _ q a=>?_))))
 obtain ⟨H3,f,j⟩:=a
 exact wpAny_release ⟨σ,H3,f,j⟩
def kG(te:TE)(g:TG):TS:=fun D σ H=>te σ H fun x H1=>g x σ H1 D.nx
theorem lJ{tg e:Ez}{te:TE}{g:TG}(b:PE X e te)(d:PG X tg g)(f:swapsWithSole [tg] e pos.line X.env=pure false:=by rfl)(hw:swappedStores [tg] e X.env=pure none:=by rfl)
  (h1:(assignEach [tg] X.env).map (·.2)=[assign tg X.env]:=by rfl):PS X (.Assign [tg] e pos) (kG te g):=by
 intro pins s σ H D I h
 refine wpAny_Assign_stores (thn (b pins s σ H _ I h) fun v s1 a=>?_) f hw
 obtain ⟨x,H1,j,i,c⟩:=a
 rw[h1]
 exact thn (d pins s1 σ H1 x v _ j i c) fun _ k q=>q
theorem aR{i:Nat}{x:Str}{e:Ez}{te:TE}{pos':Pos}(b:X.N.Nodup)(hi:X.N[i]? = some x)(hx:Loc X.env.scope x)(d:PE X e te)(g:swapsWith e (some (.Name x pos')) pos.line X.env=pure false:=by rfl)(hf:X.fn x=true\/X.env.scope.names.lookup x=some .local:=by exact .inl rfl) :
  PS X (.Assign [.Name x pos'] e pos) (kG te (i8 i)):=by
 intro pins s σ H D I h
 refine wpAny_Assign_Name (thn (d pins s σ H _ I h) fun v s1 a=>?_) g
 obtain ⟨y,H1,k,j,f⟩:=a
 exact sH k b hi hx j (fun l c=>⟨_,H1,c,f⟩) hf
end
section
variable{X:Cx}{pos:Pos}
def aEK(c:TT)(tb:TS):TS:=fun D σ H=>∃ W:Nat->St->Hp->Prop,(∃ m,W m σ H)/\∀ m σ H,W m σ H->
 c σ H fun b H1=>if b=true then ∃ N:St->Hp->Prop,(∀ σ' H',N σ' H'->∃ m',m' < m/\W m' σ' H')/\tb {D with nx:=N,ct:=N,bk:=D.nx} σ H1 else D.nx σ H1
theorem l9{c:Ez}{body:List Stmt}{tc:TT}{tb:TS}(q:PassesOwn (model X.prog X.w) X.A X.env X.xe)(y:PT X c tc)(t:PSs X body tb):PS X (.While c body [] pos) (aEK tc tb):=by
 intro pins s σ H D I h
 obtain ⟨W,⟨x,z⟩,d⟩:=h
 refine wpAny_While (codeAny_whileLoop (fun n s'=>∃ σ' H',Inv X pins σ' H' s'/\W n σ' H') ?_ x ⟨σ,H,I,z⟩)
 rintro n s1 ⟨σ1,H1,I1,w1⟩
 refine DF q (thn (y pins s1 σ1 H1 _ I1 (d n σ1 H1 w1)) fun b u l=>?_)
 obtain ⟨H2,r,g⟩:=l
 cases b with
 | true=>
  obtain ⟨N,p,g⟩:=g
  rw[AE rfl]
  refine DF q (thn (t pins u σ1 H2 _ r g) fun f B e=>?_)
  cases f with
  | next=>
   obtain ⟨a,H3,j,k⟩:=e
   obtain ⟨m,o,i⟩:=p a H3 k
   exact ⟨m,o,a,H3,j,i⟩
  | cont=>
   obtain ⟨a,H3,j,k⟩:=e
   obtain ⟨m,o,i⟩:=p a H3 k
   exact ⟨m,o,a,H3,j,i⟩
  | brk=>exact e
  | ret v=>exact e
 | false=>
  rw[AI CI]
  exact E7 ⟨σ1,H2,r,g⟩
end
structure It where
 go:Nat->Hp->Prop
 yld:Nat->Hp->V->Hp->Prop
 stop:Nat->Hp->Prop
def iX(X:Cx)(pins:List (Az×Obj))(H:Hp)(b:Az):Prop:=
 H b=none/\b≠X.env.locals/\b∉X.fs/\(b∈X.ex\/X.s₀.heap.objs.size<=b)/\(∀ x c,X.env.cells.lookup x=some c->c≠b)/\∀ p∈X.pn++pins,p.1≠b
theorem Inv.fpOk{X:Cx}{pins:List (Az×Obj)}{σ:St}{H H':Hp}{s:S9}{b:Az}(I:Inv X pins σ H s)(a:s.heap.objs.size<=b)(hn:H' b=none):iX X pins H' b:=by
 refine ⟨hn,CL (AW I.lt a),I.nofs a,.inr (BE I.sz a),fun x c e z=>?_,fun p d z=>?_⟩
 .obtain ⟨v,q⟩:=I.cell x c e
  exact absurd (AW q.lt (by rw[z];exact a)) (BO _)
 .exact absurd (AW (AK (I.pin p d).1) (by rw[z];exact a)) (BO _)
structure Turn(P:Program)(w:World)(K:Frag)(tg:Expr)(J:It)(fp:List Az)(it:Az)(tn:Nat->Heap->Prop):Prop where
 mem:it∈fp
 obj:∀ i h,tn i h->∀ b∈fp,∃ o,h.get? b=some o/\∀ v,o.data≠.cell v
 keep:∀ i h h',tn i h->(∀ b∈fp,∀ o,h.get? b=some o->h'.get? b=some o)->tn i h'
 item:∀ (X:Cx),X.prog=P->X.w=w->X.K=K->X.calm=true->∀ (i:Nat) (pins:List (Az×Obj)) (s:S9) (σ:St) (H:Hp) (E:V9->S9->Prop),Inv X pins σ H s->(∀ b∈fp,iX X pins H b)->tn i s.heap->J.go i H->
  wpAny (model P w) X.A (pyNext (.ref it)) (fun r s1=>∃ u,r=some u /\
   wpAny (model P w) X.A (letOwnedTupleGo tg (.ref it) u) (fun _ s2=>∃ x H',Inv X pins σ H' s2/\bB x u/\J.yld i H x H'/\tn (i+1) s2.heap/\∀ b∈fp,H' b=none) E s1) E s
 done:∀ (X:Cx),X.prog=P->X.w=w->X.K=K->X.calm=true->∀ (i:Nat) (pins:List (Az×Obj)) (s:S9) (σ:St) (H:Hp) (E:V9->S9->Prop),Inv X pins σ H s->(∀ b∈fp,iX X pins H b)->tn i s.heap->J.stop i H->
  wpAny (model P w) X.A (pyNext (.ref it)) (fun r s1=>r=none/\Inv X pins σ H s1) E s
 self:∀ (A:Around) (i:Nat) (s:S9) (Q:V9->S9->Prop) (E:V9->S9->Prop),tn i s.heap->Q (.ref it) s->wpAny (model P w) A (pyIter (.ref it)) Q E s
abbrev TI:=St->Hp->(It->Hp->Prop)->Prop
def PIE(X:Cx)(pins:List (Az×Obj))(σ:St)(tg:Ez)(R:It->Hp->Prop)(itv:V9)(s2:S9):Prop:=
 ∃ (it:Az) (fp:List Az) (tn:Nat->Hz->Prop) (J:It) (H':Hp),itv=.ref it/\Inv X pins σ H' s2/\Turn X.prog X.w X.K tg J fp it tn/\tn 0 s2.heap/\(∀ b∈fp,iX X pins H' b)/\R J H'
def PI(X:Cx)(tg iter:Ez)(wi:TI):Prop:=
 ∀ (pins:List (Az×Obj)) (s:S9) (σ:St) (H:Hp) (R:It->Hp->Prop),Inv X pins σ H s->wi σ H R->
  wpAny (model X.prog X.w) X.A (eval iter X.env) (fun v s1=>wpAny (model X.prog X.w) X.A (pyIter v) (PIE X pins σ tg R) X.xe s1) X.xe s
theorem xP {M : Model} {A : U9} {E : V9 -> S9 -> Prop} {s : S9} {tg : Ez} {it : Az} {u : V9} {o : Obj} {n : String} {vs : Array V9} {Q : Unit -> S9 -> Prop} (d : s.heap.get? it = some o) (b : o.cls = .type n) (c : o.data = .fields vs)
    (hn : ["enumerate", "zip", "dict_itemiterator", "dict_reverseitemiterator", "odict_iterator", "itertools.zip_longest", "itertools.pairwise"].contains n = false) (a : Q () s) : wpAny M A (letOwnedTupleGo tg (.ref it) u) Q E s := by
  unfold letOwnedTupleGo
  cases tg <;> first
    | exact AC a
    | (cases u <;> first
        | exact AC a
        | (refine AA (wpAny_load d ?_)
           rw [b, c]
           show wpAny M A (if (["enumerate", "zip", "dict_itemiterator", "dict_reverseitemiterator", "odict_iterator", "itertools.zip_longest", "itertools.pairwise"].contains n && vs[0]? == some (rawInt _)) = true then _ else _) Q E s
           rw [AI (by intro h; rw [hn, Bool.false_and] at h; cases h)]
           exact AC a))
def Itl(K:Frag)(a:Az):It:=
 ⟨fun i H=>∃ xs x,SqL K H a xs/\xs[i]? = some x,fun i H x H'=>H'=H/\∀ xs,SqL K H a xs->xs[i]? = some x,fun i H=>∃ xs,SqL K H a xs/\xs.length<=i⟩
def Itt(K:Frag)(a:Az):It:=
 ⟨fun i H=>∃ xs x,SqT K H a xs/\xs[i]? = some x,fun i H x H'=>H'=H/\∀ xs,SqT K H a xs->xs[i]? = some x,fun i H=>∃ xs,SqT K H a xs/\xs.length<=i⟩
noncomputable def Itr(lo:Int)(n:Nat):It:=⟨fun i _=>i < n,fun i H x H'=>H'=H/\x=.int (lo+i),fun i _=>n<=i⟩
theorem aEL{P:P9}{w:W9}{K:Frag}{tg:Ez}(a it:Az):Turn P w K tg (Itl K a) [it] it (fun i h=>h.IsListIter it a i) where
 mem:=by simp
 obj:=fun i h st b f=>by
  have e:b=it:=by simpa using f
  subst e
  obtain ⟨o,e,c,d⟩:=st
  exact ⟨o,e,fun v z=>by rw[d] at z;cases z⟩
 keep:=fun i h h' st k=>st.at fun o e=>k it (by simp) o e
 item:=by
  intro X D q B J i pins s σ H E I j st C
  subst D q B
  obtain ⟨xs,x,l,A⟩:=C
  obtain ⟨m,G,p,R⟩:=I.list l
  obtain ⟨u,L,N⟩:=G.get A
  obtain ⟨r,n,S,F,t,y⟩:=j it (by simp)
  refine wpAny_pyNext_list_item st p.isList (x:=u) (by simpa using L) fun h' g O=>?_
  have T:Inv X pins σ H {s with heap:=h'}:=I.turned (t':=s.toks) (fun b o f e=>(O.2 b f).trans e) r n F t y
  obtain ⟨o,e,c,d⟩:=id g
  exact ⟨u,rfl,xP (s:={s with heap:=h'}) e c d (by decide) ⟨x,H,T,N,⟨rfl,fun ys M=>by rw[I.list_inj M l];exact A⟩,g,fun b f=>(j b f).1⟩⟩
 done:=by
  intro X D q B J i pins s σ H E I j st C
  subst D q B
  obtain ⟨xs,l,A⟩:=C
  obtain ⟨m,G,p,R⟩:=I.list l
  obtain ⟨r,n,S,F,t,y⟩:=j it (by simp)
  have U:=G.length
  exact wpAny_pyNext_list_end (I.ok.hd J) st p.isList (by simp;omega) fun h' Q=>⟨rfl,I.turned (t':=s.toks) (fun b o f e=>Q b o f e) r n F t y⟩
 self:=fun _ _ _ _ _ st h=>wpAny_pyIter_listiter st h
theorem aCQ{P:P9}{w:W9}{K:Frag}{tg:Ez}(a it:Az):Turn P w K tg (Itt K a) [it] it (fun i h=>h.IsTupleIter it a i) where
 mem:=by simp
 obj:=fun i h st b g=>by
  have e:b=it:=by simpa using g
  subst e
  obtain ⟨o,e,c,d⟩:=st
  exact ⟨o,e,fun v z=>by rw[d] at z;cases z⟩
 keep:=fun i h h' st k=>st.at fun o e=>k it (by simp) o e
 item:=by
  intro X D q B J i pins s σ H E I l st C
  subst D q B
  obtain ⟨xs,x,m,A⟩:=C
  obtain ⟨f,G,p,R⟩:=I.tuple m
  obtain ⟨u,L,N⟩:=G.get A
  obtain ⟨r,n,S,F,t,y⟩:=l it (by simp)
  refine wpAny_pyNext_tuple_item st (show s.heap.IsTuple a f.toArray from p) (x:=u) (by simpa using L) fun h' j O=>?_
  have T:Inv X pins σ H {s with heap:=h'}:=I.turned (t':=s.toks) (fun b o g e=>(O.2 b g).trans e) r n F t y
  obtain ⟨o,e,c,d⟩:=id j
  exact ⟨u,rfl,xP (s:={s with heap:=h'}) e c d (by decide) ⟨x,H,T,N,⟨rfl,fun ys M=>by rw[I.tuple_inj M m];exact A⟩,j,fun b g=>(l b g).1⟩⟩
 done:=by
  intro X D q B J i pins s σ H E I l st C
  subst D q B
  obtain ⟨xs,m,A⟩:=C
  obtain ⟨f,G,p,R⟩:=I.tuple m
  obtain ⟨r,n,S,F,t,y⟩:=l it (by simp)
  have U:=G.length
  exact wpAny_pyNext_tuple_end (I.ok.hd J) st (show s.heap.IsTuple a f.toArray from p) (by simp;omega) fun h' Q=>⟨rfl,I.turned (t':=s.toks) (fun b o g e=>Q b o g e) r n F t y⟩
 self:=fun _ _ _ _ _ st h=>wpAny_pyIter_tupleiter st h
theorem aCR{P:P9}{w:W9}{K:Frag}{tg:Ez}(it:Az)(lo:Int)(n:Nat):Turn P w K tg (Itr lo n) [it] it (fun i h=>IsRangeIter h it (lo+(i:Nat) * 1) ((n:Int) - (i:Nat)) 1) where
 mem:=by simp
 obj:=fun i h st b a=>by
  have e:b=it:=by simpa using a
  subst e
  exact ⟨_,st,fun v z=>by
   have B:Data.fields _=Data.cell v:=z
   cases B⟩
 keep:=fun i h h' st k=>k it (by simp) _ st
 item:=by
  intro X q j f r i pins s σ H E I d st p
  subst q j f
  obtain ⟨l,g,y,x,m,u⟩:=d it (by simp)
  have W:=Walks.range (prog:=X.prog) (w:=X.w) (I.ok.hd r) it lo 1 n
  refine W.item i s _ _ p st fun v h' tk C c D=>?_
  obtain ⟨t,rfl⟩:=C
  have F:Inv X pins σ H {s with heap:=h',toks:=tk}:=I.turned (fun b o a e=>D b o (by simpa using a) e) l g x m u
  refine ⟨_,rfl,xP (s:={s with heap:=h',toks:=tk}) (n:="range_iterator") c rfl rfl (by decide) ⟨.int (lo+i),H,F,⟨t,?_⟩,⟨rfl,rfl⟩,c,fun b a=>(d b a).1⟩⟩
  rw[Int.mul_one]
 done:=by
  intro X q j f r i pins s σ H E I d st p
  subst q j f
  obtain ⟨l,g,y,x,m,u⟩:=d it (by simp)
  exact wpAny_pyNext_range_end (I.ok.hd r) st (by have:n<=i:=p;omega) fun h' A=>⟨rfl,I.turned (t':=s.toks) (fun b o a e=>A b o a e) l g x m u⟩
 self:=fun _ _ _ _ _ st h=>wpAny_pyIter_rangeiter st h
section
variable{X:Cx}{tg:Ez}
theorem x5{pins:List (Az×Obj)}{σ:St}{H:Hp}{s:S9}{R:It->Hp->Prop}{E:V9->S9->Prop}{lo hi:Int}{t u v:Tok}{tk:Nat}(I:Inv X pins σ H s)(h1 : -(2 ^ 62)<=lo)(h2:lo < 2 ^ 62)(d : -(2 ^ 62)<=hi)(f:hi < 2 ^ 62)
  (q:R (Itr lo (hi - lo).toNat) H):wpAny (model X.prog X.w) X.A (pyIter (.ref s.heap.objs.size)) (PIE X pins σ tg R) E {s with heap:=s.heap.push {cls:=.type "range",data:=.fields #[.int lo t,.int hi u,.int 1 v]},toks:=tk}:=by
 refine wpAny_pyIter_range (IsRange.new ..) (small_one h1 h2 d f) ?_
 have a:Inv X pins σ H {s with heap:=s.heap.push {cls:=.type "range",data:=.fields #[.int lo t,.int hi u,.int 1 v]},toks:=tk}:=I.kept fun b o e=>AB _ e
 refine ⟨(s.heap.push {cls:=.type "range",data:=.fields #[.int lo t,.int hi u,.int 1 v]}).objs.size,[(s.heap.push {cls:=.type "range",data:=.fields #[.int lo t,.int hi u,.int 1 v]}).objs.size],_,_,H,rfl,
  a.kept (t':=tk) fun b o e=>AB _ e,aCR _ lo (hi - lo).toNat,?_,fun b c=>?_,q⟩
 .have e1:lo+((0:Nat):Int) * 1=lo:=by simp
  have e2:(((hi - lo).toNat:Nat):Int) - ((0:Nat):Int)=Builtin.Range.rangeSize lo hi 1:=by rw[rangeSize_one];split<;>omega
  show IsRangeIter _ _ (lo+((0:Nat):Int) * 1) ((((hi - lo).toNat:Nat):Int) - ((0:Nat):Int)) 1
  rw[e1,e2]
  exact AV _ rfl
 .have e:b=(s.heap.push {cls:=.type "range",data:=.fields #[.int lo t,.int hi u,.int 1 v]}).objs.size:=by simpa using c
  subst e
  exact a.fpOk (AM _) (a.hok.fresh (AM _))
def aIV(ta:TA):TI:=fun σ H R=>ta σ H fun vs H1=>∃ j:Int,vs=[.int j] /\ -(2 ^ 62)<=j/\j < 2 ^ 62/\R (Itr 0 j.toNat) H1
def aIW(ta:TA):TI:=fun σ H R=>ta σ H fun vs H1=>∃ i j:Int,vs=[.int i,.int j]/\(-(2 ^ 62)<=i/\i < 2 ^ 62 /\ -(2 ^ 62)<=j/\j < 2 ^ 62)/\R (Itr i (j - i).toNat) H1
theorem jP{a:Ez}{ta:TA}{p pos:Pos}(d:Gl X "range")(hm:X.mg "range"=none)(ha:PA X [a] ta)(g:starEach [a] X.env=[(false,eval a X.env)]:=by rfl):PI X tg (.Call (.Name "range" p) [a] [] pos) (aIV ta):=by
 intro pins s σ H R I h
 refine Call_ (iZ I d hm boot_range (B6 (thn (ha pos pins s σ H _ I h) fun us s1 c=>?_) g rfl))
 obtain ⟨vs,H1,k,i,b⟩:=c
 obtain ⟨j,e,b,f,q⟩:=b
 subst e
 cases i with
 | cons r rr=>
  cases rr
  obtain ⟨t,rfl⟩:=r
  exact call_range_1 (x5 k (by omega) (by omega) b f (by simpa using q))
theorem aEM{a b:Ez}{ta:TA}{p pos:Pos}(k:Gl X "range")(hm:X.mg "range"=none)(ha:PA X [a,b] ta)(m:starEach [a,b] X.env=[(false,eval a X.env),(false,eval b X.env)]:=by rfl)(hs2:starEach [b] X.env=[(false,eval b X.env)]:=by rfl) :
  PI X tg (.Call (.Name "range" p) [a,b] [] pos) (aIW ta):=by
 intro pins s σ H R I h
 refine Call_ (iZ I k hm boot_range (B6 (thn (ha pos pins s σ H _ I h) fun us s1 d=>?_) (by rw[m,hs2]) (by rw[hs2];rfl)))
 obtain ⟨vs,H1,o,n,c⟩:=d
 obtain ⟨i,j,e,⟨c,l,f,g⟩,q⟩:=c
 subst e
 cases n with
 | cons r rr=>
  cases rr with
  | cons r' rr=>
   cases rr
   obtain ⟨t,rfl⟩:=r
   obtain ⟨u,rfl⟩:=r'
   exact call_range_2 (x5 o c l f g q)
def aGV(wi:TI)(g:TG)(tb:TS):TS:=fun D σ H=>wi σ H fun J H1=>∃ W:Nat->Nat->St->Hp->Prop,(∃ m,W 0 m σ H1)/\∀ i m σ H,W i m σ H->
 (J.stop i H/\D.nx σ H)\/(J.go i H/\∃ N:St->Hp->Prop,(∀ σ' H',N σ' H'->∃ m',m' < m/\W (i+1) m' σ' H')/\∀ x H',J.yld i H x H'->g x σ H' fun σ2 H2=>tb {D with nx:=N,ct:=N,bk:=D.nx} σ2 H2)
noncomputable def pO(fp:List Az)(h:Hz):List (Az×Obj):=fp.filterMap fun b=>(h.get? b).map fun o=>(b,o)
theorem lV{a:List Az}{h:Hz}{b:Az}{o:Obj}(c:b∈a)(e:h.get? b=some o):(b,o)∈pO a h:=DC.mpr ⟨b,c,by rw[e];rfl⟩
theorem aEN{a:List Az}{h:Hz}{p:Az×Obj}(d:p∈pO a h):p.1∈a/\h.get? p.1=some p.2:=by
 obtain ⟨b,f,e⟩:=DC.mp d
 cases q:h.get? b with
 | none=>rw[q] at e;cases e
 | some o=>
  rw[q] at e
  have c:(b,o)=p:=BT e
  subst c
  exact ⟨f,q⟩
theorem Inv.pinned{pins:List (Az×Obj)}{σ:St}{H:Hp}{s:S9}{a:List Az}(I:Inv X pins σ H s)(j:∀ b∈a,iX X pins H b)(k:∀ b∈a,∃ o,s.heap.get? b=some o/\∀ v,o.data≠.cell v):Inv X (pins++pO a s.heap) σ H s:=
 I.pins_of fun p g=>(B3.mp g).elim (fun z=>I.pin p (BZ _ z)) fun z=>by
  obtain ⟨f,e⟩:=aEN z
  obtain ⟨i,h,l,_⟩:=j p.1 f
  obtain ⟨o,c,d⟩:=k p.1 f
  rw[e] at c;cases c
  exact ⟨e,i,h,l,d⟩
theorem Inv.unpinned{pins pl:List (Az×Obj)}{σ:St}{H:Hp}{s:S9}(I:Inv X (pins++pl) σ H s):Inv X pins σ H s:=I.pins_of fun p a=>I.pin p (BZ _ (EB _ a))
theorem dY{l:Ez}{body:List Stmt}{Q:TI}{g:TG}{tb:TS}{pos:Pos}(F:PassesOwn (model X.prog X.w) X.A X.env X.xe)(Y:X.calm=true)(hi:PI X tg l Q)(hg:PG X tg g)(k:PSs X body tb)
  (hs:∀ x,foldedSetIterable l X.env x=pure x:=by intro _;rfl):PS X (.For tg l body [] pos) (aGV Q g tb):=by
 intro pins s σ H D I h
 refine wpAny_For (thn (hi pins s σ H _ I h) fun v s1 h1=>thn h1 fun aa s2 h2=>?_) hs
 obtain ⟨it,B,R,J,H2,e,I2,T,M,V,W,⟨m0,w0⟩,C⟩:=h2
 subst e
 have t:∀ {H':Hp},(∀ b∈B,H' b=none)->∀ b∈B,iX X pins H' b:=fun hn b k=>⟨hn b k,(V b k).2⟩
 refine codeAny_forLoop_any (fun n s'=>∃ i σ' H',Inv X pins σ' H' s'/\R i s'.heap/\(∀ b∈B,H' b=none)/\W i n σ' H') ?_ m0 ⟨0,σ,H2,I2,M,fun b k=>(V b k).1,w0⟩
 rintro n U ⟨i,σ3,H3,I3,st3,fr3,w3⟩
 rcases C i n σ3 H3 w3 with ⟨stop,qn⟩|⟨go,N,hN,step⟩
 .refine DF F (thn (T.done X rfl rfl rfl Y i pins U σ3 H3 X.xe I3 (t fr3) st3 stop) fun r s4 c=>?_)
  obtain ⟨G,I4⟩:=c
  subst G
  exact E7 ⟨σ3,H3,I4,qn⟩
 .refine DF F (thn (T.item X rfl rfl rfl Y i pins U σ3 H3 X.xe I3 (t fr3) st3 go) fun r s4 c=>?_)
  obtain ⟨u,G,h4⟩:=c
  subst G
  refine DF F (thn h4 fun _ S c=>?_)
  obtain ⟨x,H5,I5,r5,y5,z,P⟩:=c
  have L:=I5.pinned (t P) (T.obj _ _ z)
  refine DF F (thn (hg _ S σ3 H5 x u _ L r5 (step x H5 y5)) fun _ s6 c=>?_)
  obtain ⟨O,Z,I6,q6⟩:=c
  refine DF F (thn (k _ s6 O Z _ I6 q6) fun f K y=>?_)
  have p:∀ {a:St} {q:Hp},Inv X (pins++pO B S.heap) a q K->N a q->∃ m,m < n/\∃ i σ' H',Inv X pins σ' H' K/\R i K.heap/\(∀ b∈B,H' b=none)/\W i m σ' H':=fun {a q} j E=>by
   obtain ⟨m',hm,w7⟩:=hN a q E
   refine ⟨m',hm,i+1,a,q,j.unpinned,T.keep _ _ _ z fun b k o e=>(j.pin (b,o) (BZ _ (BZ _ (lV k e)))).1,fun b k=>?_,w7⟩
   obtain ⟨o,e,d⟩:=T.obj _ _ z b k
   exact (j.pin (b,o) (BZ _ (BZ _ (lV k e)))).2.1
  cases f with
  | next=>obtain ⟨a,q,j,E⟩:=y;exact p j E
  | cont=>obtain ⟨a,q,j,E⟩:=y;exact p j E
  | brk=>obtain ⟨a,q,j,y⟩:=y;exact ⟨a,q,j.unpinned,y⟩
  | ret v=>obtain ⟨x7,a,q,j,r7,y⟩:=y;exact ⟨x7,a,q,j.unpinned,r7,y⟩
end
abbrev R2:=V->V->Hp->VK->Prop
def OpR(X:Cx)(f:V9->V9->Sem V9)(r:R2):Prop:=
 ∀ (pins:List (Az×Obj)) (s:S9) (σ:St) (H:Hp) (x y:V) (v u:V9) (Q:VK),Inv X pins σ H s->bB x v->bB y u->r x y H Q->
  wpAny (model X.prog X.w) X.A (f v u) (EP X pins σ Q) X.xe s
def UnR(X:Cx)(f:V9->Sem V9)(r:V->Hp->VK->Prop):Prop:=
 ∀ (pins:List (Az×Obj)) (s:S9) (σ:St) (H:Hp) (x:V) (v:V9) (Q:VK),Inv X pins σ H s->bB x v->r x H Q->
  wpAny (model X.prog X.w) X.A (f v) (EP X pins σ Q) X.xe s
def i9(X:Cx)(f:V9)(r:List V->Hp->VK->Prop):Prop:=
 ∀ (pins:List (Az×Obj)) (s:S9) (σ:St) (H:Hp) (xs:List V) (us:List V9) (Q:VK),Inv X pins σ H s->aZ xs us->r xs H Q->
  wpAny (model X.prog X.w) X.A (call f us) (EP X pins σ Q) X.xe s
def tOp(r:R2)(ta tb:TE):TE:=fun σ H Q=>ta σ H fun x H1=>tb σ H1 fun y H2=>r x y H2 Q
def tUn(r:V->Hp->VK->Prop)(ta:TE):TE:=fun σ H Q=>ta σ H fun x H1=>r x H1 Q
def rI(C:Int->Int->Prop)(g:Int->Int->V):R2:=fun x y H Q=>∃ i j,x=.int i/\y=.int j/\C i j/\Q (g i j) H
def rI0(g:Int->Int->V):R2:=fun x y H Q=>∃ i j,x=.int i/\y=.int j/\Q (g i j) H
def rU(g:Int->V):V->Hp->VK->Prop:=fun x H Q=>∃ i,x=.int i/\Q (g i) H
section
variable{X:Cx}{a b c:Ez}{ta tb tc:TE}{pos:Pos}
theorem aGW(ha:PE X a ta)(e:PE X b tb){pins:List (Az×Obj)}{s:S9}{σ:St}{H:Hp}{R:V->V->Hp->Prop}(I:Inv X pins σ H s)
  (h:ta σ H fun x H1=>tb σ H1 fun y H2=>R x y H2) {Q:V9->S9->Prop} {f:V9->V9->Sem V9}
  (j:∀ v u s2 x y H2,Inv X pins σ H2 s2->bB x v->bB y u->R x y H2->wpAny (model X.prog X.w) X.A (f v u) Q X.xe s2) :
  wpAny (model X.prog X.w) X.A (eval a X.env) (fun v s₁=>wpAny (model X.prog X.w) X.A (eval b X.env) (fun u s₂=>wpAny (model X.prog X.w) X.A (f v u) Q X.xe s₂) X.xe s₁) X.xe s:=by
 refine thn (ha pins s σ H _ I h) fun v s1 c=>?_
 obtain ⟨x,H1,m,l,g⟩:=c
 refine thn (e pins s1 σ H1 _ m g) fun u s2 c=>?_
 obtain ⟨y,H2,d,i,k⟩:=c
 exact j v u s2 x y H2 d l i k
theorem aIX{c:Operator}{r:R2}(g:OpR X (binaryOp c) r)(ha:PE X a ta)(i:PE X b tb):PE X (.BinOp a c b pos) (tOp r ta tb):=by
 intro pins s σ H Q I h
 exact wpAny_BinOp (aGW ha i I h fun v u j x y H2 d f e q=>g pins j σ H2 x y v u Q d f e q)
theorem aOL{b:UnaryOp}{r:V->Hp->VK->Prop}(c:UnR X (unaryOp b) r)(ha:PE X a ta):PE X (.UnaryOp b a pos) (tUn r ta):=by
 intro pins s σ H Q I h
 exact UnaryOp_ (thn (ha pins s σ H _ I h) fun v s1 ⟨x,H1,f,e,d⟩=>c pins s1 σ H1 x v Q f e d)
theorem opI{f:V9->V9->Sem V9}{C:Int->Int->Prop}{g:Int->Int->Int}
  (a:∀ (i j:Int) (t u:Tok) (s:S9) (Q:V9->S9->Prop) (E:V9->S9->Prop),C i j->Q (.int (g i j) s.toks) {s with toks:=s.toks+1}->wpAny (model X.prog X.w) X.A (f (.int i t) (.int j u)) Q E s) :
  OpR X f (rI C fun i j=>.int (g i j)):=by
 intro pins s σ H x y v u Q I d c h
 obtain ⟨i,j,rfl,rfl,b,q⟩:=h
 obtain ⟨t,rfl⟩:=d
 obtain ⟨e,rfl⟩:=c
 exact a i j t e s _ _ b ⟨.int (g i j),H,I.tok _,⟨_,rfl⟩,q⟩
theorem aMA{f:V9->V9->Sem V9}{g:Int->Int->Int}
  (a:∀ (i j:Int) (t u:Tok) (s:S9) (Q:V9->S9->Prop) (E:V9->S9->Prop),Q (.int (g i j) s.toks) {s with toks:=s.toks+1}->wpAny (model X.prog X.w) X.A (f (.int i t) (.int j u)) Q E s) :
  OpR X f (rI0 fun i j=>.int (g i j)):=by
 intro pins s σ H x y v u Q I d b h
 obtain ⟨i,j,rfl,rfl,q⟩:=h
 obtain ⟨t,rfl⟩:=d
 obtain ⟨c,rfl⟩:=b
 exact a i j t c s _ _ ⟨.int (g i j),H,I.tok _,⟨_,rfl⟩,q⟩
theorem aGX{f:V9->V9->Sem V9}{g:Int->Int->Bool}
  (a:∀ (i j:Int) (t u:Tok) (s:S9) (Q:V9->S9->Prop) (E:V9->S9->Prop),Q (.bool (g i j)) s->wpAny (model X.prog X.w) X.A (f (.int i t) (.int j u)) Q E s) :
  OpR X f (rI0 fun i j=>.bl (g i j)):=by
 intro pins s σ H x y v u Q I d b h
 obtain ⟨i,j,rfl,rfl,q⟩:=h
 obtain ⟨t,rfl⟩:=d
 obtain ⟨c,rfl⟩:=b
 exact a i j t c s _ _ ⟨.bl (g i j),H,I,rfl,q⟩
def aGY(i j:Int):Prop:=(-(2 ^ 64) < i/\i < 2 ^ 64)\/(-(2 ^ 64) < j/\j < 2 ^ 64)
theorem aGY.ok{i j:Int}(h:aGY i j):IntMulOk i j:=by
 rcases h with ⟨h1,h2⟩|⟨h1,h2⟩
 · exact .of_left (intBits_le_64 h1 h2)
 · exact .of_right (intBits_le_64 h1 h2)
theorem aMB:OpR X (binaryOp .Add) (rI0 fun i j=>.int (i+j)):=aMA fun _ _ _ _ _ _ _ q=>add_int q
theorem aMC:OpR X (binaryOp .Sub) (rI0 fun i j=>.int (i - j)):=aMA fun _ _ _ _ _ _ _ q=>sub_int q
theorem aMD:OpR X (binaryOp .Mult) (rI aGY fun i j=>.int (i * j)):=opI fun _ _ _ _ _ _ _ a q=>mul_int q a.ok
theorem aME:OpR X (binaryOp .Mod) (rI (fun _ j=>0 < j) fun i j=>.int (i % j)):=opI fun i j _ _ _ _ _ a q=>by
 have h1:(0:Int) < j:=a
 exact mod_int' (by omega) (by rw[Int.fmod_eq_emod_of_nonneg i (by omega)];exact q)
theorem unI{f:V9->Sem V9}{g:Int->Int}
  (a:∀ (i:Int) (t:Tok) (s:S9) (Q:V9->S9->Prop) (E:V9->S9->Prop),Q (.int (g i) s.toks) {s with toks:=s.toks+1}->wpAny (model X.prog X.w) X.A (f (.int i t)) Q E s) :
  UnR X f (rU fun i=>.int (g i)):=by
 intro pins s σ H x v Q I b h
 obtain ⟨i,rfl,q⟩:=h
 obtain ⟨t,rfl⟩:=b
 exact a i t s _ _ ⟨.int (g i),H,I.tok _,⟨_,rfl⟩,q⟩
theorem aMF:UnR X (unaryOp .USub) (rU fun i=>.int (-i)):=unI fun _ _ _ _ _ q=>neg_int q
end
section
variable{X:Cx}{a b c:Ez}{ta tb tc:TE}{pos:Pos}
theorem tG{pins:List (Az×Obj)}{σ:St}{H:Hp}{s:S9}{Q:VK}{k a:Bool}(I:Inv X pins σ H s)(q:Q (.bl k) H)(e:k=a):EP X pins σ Q (.bool a) s:=by
 subst e
 exact ⟨.bl k,H,I,rfl,q⟩
theorem aOM:OpR X (compareOp .Lt) (rI0 fun i j=>.bl (decide (i < j))):=aGX fun _ _ _ _ _ _ _ q=>lt_int q
theorem aON:OpR X (compareOp .Gt) (rI0 fun i j=>.bl (decide (j < i))):=aGX fun _ _ _ _ _ _ _ q=>gt_int q
theorem aOO:OpR X (compareOp .GtE) (rI0 fun i j=>.bl (decide (j<=i))):=aGX fun _ _ _ _ _ _ _ q=>ge_int q
theorem aEO:OpR X (compareOp .In) (fun x y H Q=>∃ i j,x=.str i/\y=.str j/\Q (.bl (!(Builtin.Str.occurrences j i 0 j.length 1).isEmpty)) H):=by
 intro pins s σ H x y v u Q I b a h
 obtain ⟨i,j,rfl,rfl,q⟩:=h
 obtain ⟨t,rfl⟩:=b
 obtain ⟨c,rfl⟩:=a
 exact in_str (tG I q rfl)
theorem aMG:OpR X (compareOp .Is) (fun x y H Q=>y=.non/\Q (.bl (decide (x=.non))) H):=by
 intro pins s σ H x y v u Q I a b h
 obtain ⟨rfl,q⟩:=h
 cases b
 refine is_none_gen (tG I q ?_)
 cases x<;>first
  | (cases a;rfl)
  | (obtain ⟨t,rfl⟩:=a;rfl)
theorem aJQ:OpR X (compareOp .IsNot) (fun x y H Q=>y=.non/\Q (.bl (!decide (x=.non))) H):=by
 intro pins s σ H x y v u Q I a b h
 obtain ⟨rfl,q⟩:=h
 cases b
 refine isnot_none_gen (tG I q ?_)
 cases x<;>first
  | (cases a;rfl)
  | (obtain ⟨t,rfl⟩:=a;rfl)
theorem x6:OpR X (compareOp .NotIn) (fun x y H Q=>∃ i j,x=.str i/\y=.str j/\Q (.bl (!(!(Builtin.Str.occurrences j i 0 j.length 1).isEmpty))) H):=by
 intro pins s σ H x y v u Q I b a h
 obtain ⟨i,j,rfl,rfl,q⟩:=h
 obtain ⟨t,rfl⟩:=b
 obtain ⟨c,rfl⟩:=a
 exact notIn_str (tG I q rfl)
theorem bX(b:Ez){a:CmpOp}(h:a≠.In:=by decide)(h2:a≠.NotIn:=by decide):behindInMarks a b=false:=by
 have e1:(a == CmpOp.In)=false:=by cases a<;>first|rfl|exact absurd rfl h
 have e2:(a == CmpOp.NotIn)=false:=by cases a<;>first|rfl|exact absurd rfl h2
 cases b<;>simp[behindInMarks,e1,e2]
theorem aJR{c:CmpOp}{r:R2}(g:OpR X (compareOp c) r)(ha:PE X a ta)(i:PE X b tb)(hm:behindInMarks c b=false):PE X (.Compare a [c] [b] pos) (tOp r ta tb):=by
 intro pins s σ H Q I h
 exact wpAny_Compare1 (aGW ha i I h fun v u j x y H2 d f e q=>g pins j σ H2 x y v u Q d f e q) hm
def aIY(t:TE):TT:=fun σ H Q=>t σ H fun x H'=>∃ k,x=.bl k/\Q k H'
theorem uV{d:CmpOp}{r:R2}(p:OpR X (compareOp d) r)(ha:PE X a ta)(q:PE X b tb)(hm:behindInMarks d b=false):PT X (.Compare a [d] [b] pos) (aIY (tOp r ta tb)):=by
 intro pins s σ H Q I h
 refine wpAny_isTrue_Compare1 (thn (ha pins s σ H _ I h) fun v s1 ⟨x,H1,w,j,f⟩=>thn (q pins s1 σ H1 _ w f) fun u i ⟨y,H2,m,o,t⟩=>
  thn (p pins i σ H2 x y v u _ m j o t) fun c A ⟨z,H3,l,g,k,e,n⟩=>?_) hm
 subst e
 cases g
 exact DI ⟨H3,l,n⟩
theorem pP:(sizeLine:Nat) < 2 ^ 63:=by rw[EH];decide
theorem aCS:OpR X (binaryOp .Add) (fun x y H Q=>∃ i j,x=.str i/\y=.str j/\i.length+j.length<=sizeLine/\Q (.str (i++j)) H):=by
 intro pins s σ H x y v u Q I d b h
 obtain ⟨i,j,rfl,rfl,a,q⟩:=h
 obtain ⟨t,rfl⟩:=d
 obtain ⟨c,rfl⟩:=b
 exact add_str (fun c tk=>⟨.str (i++j),H,I.tok _,⟨_,rfl⟩,q⟩) a
theorem mX{x:V}{us:List V9}(r:aZ [x] us):∃ u,us=[u]/\bB x u:=by
 cases r with
 | cons r1 r2=>cases r2;exact ⟨_,rfl,r1⟩
theorem tH{x y:V}{us:List V9}(r:aZ [x,y] us):∃ u w',us=[u,w']/\bB x u/\bB y w':=by
 cases r with
 | cons r1 r2=>
  cases r2 with
  | cons r3 r4=>cases r4;exact ⟨_,_,rfl,r1,r3⟩
theorem wC(b:X.calm=true):i9 X (.builtin "min") (fun xs H Q=>∃ i j,xs=[.int i,.int j]/\Q (.int (if j < i then j else i)) H):=by
 intro pins s σ H xs us Q I r h
 obtain ⟨i,j,rfl,q⟩:=h
 obtain ⟨u,c,rfl,⟨t,rfl⟩,⟨d,rfl⟩⟩:=tH r
 refine min_two_ints (I.ok.hd b) fun h' tk k=>⟨_,H,I.kept k,?_,q⟩
 by_cases a:j < i
 · rw [AE a, AE a]; exact ⟨_, rfl⟩
 · rw [AI a, AI a]; exact ⟨_, rfl⟩
theorem pQ:i9 X (.type "int") (fun xs H Q=>(∃ i,xs=[.int i]/\Q (.int i) H)\/∃ k,xs=[.bl k]/\Q (.int (if k then 1 else 0)) H):=by
 intro pins s σ H xs us Q I r h
 rcases h with ⟨i,rfl,q⟩|⟨k,rfl,q⟩
 .obtain ⟨u,rfl,t,rfl⟩:=mX r
  exact call_int_int ⟨.int i,H,I,⟨_,rfl⟩,q⟩
 .obtain ⟨u,rfl,a⟩:=mX r
  cases a
  exact call_int_bool ⟨.int (if k then 1 else 0),H,I.tok _,⟨_,rfl⟩,q⟩
def aMH(K:Frag)(x:V)(H:Hp)(n:Nat):Prop:=
 match x with
 | .str y=>y.length<=sizeLine/\n=y.length
 | .byt y=>y.size<=sizeLine/\n=y.size
 | .ref p=>(∃ xs,SqL K H p xs/\n=xs.length)\/∃ xs,SqT K H p xs/\n=xs.length
 | _=>False
theorem c8:i9 X (.builtin "len") (fun xs H Q=>∃ x n,xs=[x]/\aMH X.K x H n/\Q (.int n) H):=by
 intro pins s σ H xs us Q I r h
 obtain ⟨x,n,rfl,e,q⟩:=h
 obtain ⟨u,rfl,g⟩:=mX r
 have l:=pP
 have m:sizeLine=16777216:=EH
 cases x with
 | str y=>
  obtain ⟨t,rfl⟩:=g
  obtain ⟨k,b⟩:y.length<=sizeLine/\n=y.length:=e
  subst b
  exact len_str (by omega) ⟨.int _,H,I.tok _,⟨_,rfl⟩,q⟩
 | byt y=>
  obtain ⟨t,rfl⟩:=g
  obtain ⟨k,b⟩:y.size<=sizeLine/\n=y.size:=e
  subst b
  exact PySem.W.len_bytes (by omega) ⟨.int _,H,I.tok _,⟨_,rfl⟩,q⟩
 | ref p=>
  cases g
  have b:(∃ xs,SqL X.K H p xs/\n=xs.length)\/∃ xs,SqT X.K H p xs/\n=xs.length:=e
  rcases b with ⟨xs,i,b⟩|⟨xs,i,b⟩
  .subst b
   obtain ⟨c,d,f,j⟩:=I.list i
   have a:=d.length
   exact Calls.call_len_list f.isList (by simp only[A2];omega) ⟨.int xs.length,H,I.tok _,⟨_,by simp only[A2];rw[a]⟩,q⟩
  .subst b
   obtain ⟨c,d,f,j⟩:=I.tuple i
   have a:=d.length
   exact len_tuple f (by simp only[A2];omega) ⟨.int xs.length,H,I.tok _,⟨_,by simp only[A2];rw[a]⟩,q⟩
 | _=>exact (show False from e).elim
end
structure ObjM(h:Heap)(x dx C:Az)(mA:Str->Option V9):Prop where
 obj:h.get? x=some (PySem.W.instObj C dx)
 ns:h.Ns1 dx mA
 ne:dx≠x
theorem pR{h:Hz}{dx:Az}{mA:Str->O6 V9}(n:h.Ns1 dx mA):∃ od,h.get? dx=some od/\∀ name,PySem.W.lookIn name od=some (mA name):=by
 obtain ⟨o,es,k,f,i,c,_,j⟩:=n
 refine ⟨o,f,fun name=>?_⟩
 have e:=j name
 unfold nsFind findBy at e
 rw[<-Array.find?_toList] at e
 unfold PySem.W.lookIn
 rw[i]
 dsimp only
 split
 .rename_i y q
  rw[q] at e
  exact D3 some e
 .rename_i q
  rw[q] at e
  have a:es.toList.any (·.refKey)=false:=by
   rw[List.any_eq_false]
   intro y g
   obtain ⟨z,t,b⟩:=c y (Array.mem_toList_iff.mp g)
   simp[DictEntry.refKey,b]
  have d:¬ es.toList.any (·.refKey)=true:=by rw[a];exact CI
  rw[AI d]
  exact D3 some e
theorem ObjM.look{h:Hz}{x dx C:Az}{mA:Str->O6 V9}(I:ObjM h x dx C mA):∃ od,PySem.W.InstAt h x (PySem.W.instObj C dx) C (some od)/\∀ name,PySem.W.lookIn name od=some (mA name):=
 let ⟨od,ho,hl⟩:=pR I.ns
 ⟨od,⟨I.obj,rfl,rfl,ho⟩,hl⟩
section
variable{prog:P9}{w:W9}{A:U9}{E:V9->S9->Prop}{s:S9}{K:Frag}{x dx C f:Az}{mA:Str->O6 V9}{name:Str}{v:V9}
theorem aJS{a:Bool}{Q:V9->S9->Prop}(X:K.In s.heap)(I:ObjM s.heap x dx C mA)(e:PySem.W.plainGet K C name=true)(c:PySem.W.hasDictIn K C=true)
  (ha:PySem.W.findIn K (.ref C) name=some none) (f:mA name=some v) (b:PySem.W.handedIn v=true) (h:Q v {s with toks:=s.toks+1}) :
  wpAny (model prog w) A (getAttr (.ref x) name a) Q E s:=by
 obtain ⟨od,J,d⟩:=I.look
 exact PySem.W.get_value X J (FF e).1 (PySem.W.findObj_own c ha rfl (by rw[d,f])) b h
theorem aGZ{pl:Sem Bool}{Q:V9×List V9->S9->Prop}(X:K.In s.heap)(I:ObjM s.heap x dx C mA)(a:PySem.W.plainGet K C name=true)
  (b:PySem.W.findIn K (.ref C) name=some (some (.ref f))) (ht:PySem.W.isFn K (.ref f)=true) (d:mA name=none) (h:Q (.ref f,[.ref x]) s) :
  wpAny (model prog w) A (getMethod (.ref x) name pl) Q E s:=by
 obtain ⟨od,J,c⟩:=I.look
 exact PySem.W.method_fn X J (FF a).1 (FF a).2 b (EQ.mp ht) (by show (PySem.W.lookIn name od).map (·.isSome)=some false;rw[c,d];rfl) h
theorem aJT{ns:List Str}{Q:Unit->S9->Prop}(X:K.In s.heap)(I:ObjM s.heap x dx C mA)
  (p:PySem.W.findIn K (.ref C) "__setattr__"=some (some (.builtin "object.__setattr__"))) (n:PySem.W.plainOver K C=true) (ht:PySem.W.takerIn K C name=some none) (j:PySem.W.hasDictIn K C=true)
  (hw:PySem.Within mA ns) (hsz:ns.length<=sizeLine)
  (h:∀ h',ObjM h' x dx C (fun y=>if y=name then some v else mA y)->Heap.SameBut dx s.heap h'->Q () {s with heap:=h',toks:=s.toks+2}) :
  wpAny (model prog w) A (setAttr (.ref x) name v) Q E s:=by
 obtain ⟨od,J,t⟩:=I.look
 refine PySem.W.set_plain X J p (PySem.W.osa_open (s:={s with toks:=s.toks+1}) (r:=none) X J n ht fun b=>?_)
 obtain ⟨cd,l,f⟩:=PySem.W.any_some j
 have o:s.heap.get? x=some ⟨.ref C,some dx,.plain,#[]⟩:=I.obj
 refine AA (AC (AA (AA (FH o (AA (PySem.W.Looks.here (s:={s with toks:=s.toks+1}) (PySem.W.looks_clsIn X l) ?_))))))
 rw[f]
 refine AC (a:=some dx) (AA (AC (AA ?_)))
 refine wpAny_nsSet1 (s:={s with toks:=s.toks+1}) I.ns fun h' d c=>?_
 obtain ⟨q,k,m,i,e,g⟩:=d.count (PySem.Within.cons name v hw)
 refine AA (GK i (by rw[e];exact GL (BE g (by rw[AL];omega))) ?_)
 exact AC (h _ ⟨(c.2 _ (BG I.ne)).trans I.obj,d,I.ne⟩ c)
theorem aG0{R:Result->S9->Prop}{vs:List V9}{b:List (Str×V9)}(X:K.In s.heap)(hm:PySem.W.makesIn K C=true)
  (hi:PySem.W.findIn K (.ref C) "__init__"=some (some (.ref f))) (c:PySem.W.typeIn K (.ref f)=some (.type "function"))
  (h:codeAny (model prog w) (A.under (.builtin "type.__call__" ⟨.ref C::vs,b⟩)) (.call (.ref f) ⟨.ref (s.heap.objs.size+1)::vs,b⟩) (PySem.W.InitBack (s.heap.objs.size+1) R)
   {s with heap:=(s.heap.push PySem.W.emptyDict).push (PySem.W.instObj C s.heap.objs.size)}) :
  codeAny (model prog w) A (.call (.ref C) ⟨vs,b⟩) R s:=by
 obtain ⟨e,g,d,t,os⟩:=s
 exact PySem.W.make_core (PySem.W.makes_of X hm) (PySem.W.looks_findIn X hi) (fun a=>PySem.W.bind_fn X a c) (.inl rfl) h
end
noncomputable def gY(f:Str)(v:V):List (Str×V)->List (Str×V)
 | []=>[(f,v)]
 | (g,x)::r=>if g=f then (g,v)::r else (g,x)::gY f v r
theorem nN(f g:Str)(v:V):∀ fs:List (Str×V),(gY f v fs).lookup g=if g=f then some v else fs.lookup g
 | []=>by
  show List.lookup g [(f,v)]=_
  by_cases h:g=f
  .have hb:(g == f)=true:=EQ.mpr h
   simp only[List.lookup,hb,AE h]
  .have hb:(g == f)=false:=DQ.mpr h
   simp only[List.lookup,hb,AI h]
 | (k,x)::r=>by
  have b:=nN f g v r
  rw[show gY f v ((k,x)::r)=(if k=f then (k,v)::r else (k,x)::gY f v r) from rfl]
  by_cases a:k=f
  .rw[AE a]
   by_cases h:g=k
   .have hb:(g == k)=true:=EQ.mpr h
    simp only[List.lookup,hb,AE (h.trans a)]
   .have hb:(g == k)=false:=DQ.mpr h
    simp only[List.lookup,hb,AI (fun e:g=f=>h (e.trans a.symm))]
  .rw[AI a]
   by_cases h:g=k
   .have hb:(g == k)=true:=EQ.mpr h
    simp only[List.lookup,hb,AI (fun e:g=f=>a (h.symm.trans e))]
   .have hb:(g == k)=false:=DQ.mpr h
    simp only[List.lookup,hb]
    exact b
theorem pS(f:Str)(v:V):∀ fs:List (Str×V),f∈(gY f v fs).map (·.1)/\∀ g,g∈fs.map (·.1)->g∈(gY f v fs).map (·.1)
 | []=>⟨by simp[gY],fun g h=>by simp at h⟩
 | (k,x)::r=>by
  obtain ⟨i1,i2⟩:=pS f v r
  rw[show gY f v ((k,x)::r)=(if k=f then (k,v)::r else (k,x)::gY f v r) from rfl]
  by_cases a:k=f
  .rw[AE a]
   subst a
   exact ⟨by simp,fun g h=>by simpa using h⟩
  .rw[AI a]
   refine ⟨?_,fun g h=>?_⟩
   .rw[AJ]
    exact AN _ i1
   .rw[AJ] at h ⊢
    rcases AG.mp h with e|e
    · exact AG.mpr (.inl e)
    · exact AN _ (i2 g e)
theorem r6(f:Str)(v:V):∀ fs:List (Str×V),(gY f v fs).length<=fs.length+1
 | []=>by simp[gY]
 | (k,x)::r=>by
  have ih:=r6 f v r
  rw[show gY f v ((k,x)::r)=(if k=f then (k,v)::r else (k,x)::gY f v r) from rfl]
  by_cases a:k=f
  · rw [AE a, AL, AL]; omega
  · rw [AI a, AL, AL]; omega
theorem gM.some_of{v:V}{o:O6 V9}(r:gM (some v) o):∃ u,o=some u/\bB v u:=by
 cases o with
 | none=>exact (show False from r).elim
 | some u=>exact ⟨u,rfl,r⟩
theorem gM.none_of{o:O6 V9}(r:gM none o):o=none:=by
 cases o with
 | none=>rfl
 | some u=>exact (show False from r).elim
theorem aEP{v:V}{u:V9}(r:bB v u):PySem.W.handedIn u=true:=by
 cases v with
 | non=>cases (show u=Value.none from r);rfl
 | bl b=>cases (show u=Value.bool b from r);rfl
 | int i=>obtain ⟨t,e⟩:=(show ∃ t,u=Value.int i t from r);cases e;rfl
 | str x=>obtain ⟨t,e⟩:=(show ∃ t,u=Value.str x t from r);cases e;rfl
 | byt b=>obtain ⟨t,e⟩:=(show ∃ t,u=Value.bytes b t from r);cases e;rfl
 | flt b=>obtain ⟨t,e⟩:=(show ∃ t,u=Value.float b t from r);cases e;rfl
 | ref a=>cases (show u=Value.ref a from r);rfl
 | ty n=>cases (show u=Value.type n from r);rfl
section
variable{P:P9}{w:W9}{H H':Hp}{h h':Hz}{a C dx:Az}{fs fs':List (Str×V)}
theorem qZ(hok:HOk P w H h)(e:H a=some (.ins C dx fs)):∃ mA,ObjM h a dx C mA/\(∀ f,gM (fs.lookup f) (mA f))/\PySem.Within mA (fs.map (·.1))/\fs.length<=1000/\H dx=some (.own a):=by
 obtain ⟨d,z,c,b,mA,n,r,q⟩:=(show b9 P w H h a (.ins C dx fs) from hok a _ e)
 exact ⟨mA,⟨b,n,c⟩,r,q,z,d⟩
end
structure Cls(K:Frag)(C:Az):Prop where
 pg:PySem.W.plainGet K C Str.empty=true
 hd:PySem.W.hasDictIn K C=true
 po:PySem.W.plainOver K C=true
 sa:PySem.W.findIn K (.ref C) "__setattr__"=some (some (.builtin "object.__setattr__"))
theorem Cls.get{K:Frag}{C:Az}(c:Cls K C)(f:Str):PySem.W.plainGet K C f=true:=c.pg
def cR(K:Frag)(C:Az)(f:Str):Prop:=PySem.W.findIn K (.ref C) f=some none
theorem cR.taker{K:Frag}{C:Az}{f:Str}(n:cR K C f):PySem.W.takerIn K C f=some none:=by
 unfold PySem.W.takerIn
 rw[show PySem.W.findIn K (.ref C) f=some none from n]
 rfl
structure Con(K:Frag)(C:Az)(f:Str)(v:V)(u:V9):Prop where
 at_:PySem.W.findIn K (.ref C) f=some (some u)
 rel:bB v u
 get:PySem.W.specialIn K u "__get__"=some none
 cp:PySem.W.copiedNames.contains f=false
structure Meth(K:Frag)(C:Az)(m:Str)(f:Az):Prop where
 at_:PySem.W.findIn K (.ref C) m=some (some (.ref f))
 fn:PySem.W.isFn K (.ref f)=true
 kp:PySem.W.keepIn K (.ref f)=true
section
variable{X:Cx}{pins:List (Az×Obj)}{σ:St}{H:Hp}{s:S9}{a C dx:Az}{fs:List (Str×V)}{f:Str}{v:V}{A:U9}{E:V9->S9->Prop}
theorem aCT{b:Bool}{Q:V9->S9->Prop}(I:Inv X pins σ H s)(e:H a=some (.ins C dx fs))(c:Cls X.K C)(n:cR X.K C f)(l:fs.lookup f=some v)
  (h:∀ u s',Inv X pins σ H s'->bB v u->Q u s'):wpAny (model X.prog X.w) A (getAttr (.ref a) f b) Q E s:=by
 obtain ⟨mA,O,r,_,_,_⟩:=qZ I.hok e
 obtain ⟨u,g,d⟩:=gM.some_of (v:=v) (o:=mA f) (by rw[<-l];exact r f)
 exact aJS I.kIn O (c.get f) c.hd n g (aEP d) (h u _ (I.tok _) d)
theorem aCU{m:Str}{g:Az}{pl:Sem Bool}{Q:V9×List V9->S9->Prop}(I:Inv X pins σ H s)(e:H a=some (.ins C dx fs))(c:Cls X.K C)(k:Meth X.K C m g)(l:fs.lookup m=none)
  (h:Q (.ref g,[.ref a]) s):wpAny (model X.prog X.w) A (getMethod (.ref a) m pl) Q E s:=by
 obtain ⟨mA,O,r,_,_,_⟩:=qZ I.hok e
 have b:mA m=none:=gM.none_of (by rw[<-l];exact r m)
 exact aGZ I.kIn O (c.get m) k.at_ k.fn b h
theorem aCV{y:V}{u:V9}{Q:Unit->S9->Prop}(I:Inv X pins σ H s)(e:H a=some (.ins C dx fs))(c:Cls X.K C)(n:cR X.K C f)(v:fs.length < 1000)(m:bB y u)
  (h:∀ s',Inv X pins σ (upd H a (.ins C dx (gY f y fs))) s'->Q () s'):wpAny (model X.prog X.w) A (setAttr (.ref a) f u) Q E s:=by
 obtain ⟨mA,O,r,j,_,i⟩:=qZ I.hok e
 have k:(fs.map (·.1)).length<=sizeLine:=by rw[AD,EH];omega
 refine aJT I.kIn O c.sa c.po n.taker c.hd j k fun h' d t=>h _ ?_
 have hd:∃ o,h'.get? dx=some o:=let ⟨o,_,_,e',_⟩:=d.ns;⟨o,e'⟩
 refine I.write (x:=a) (e:=dx) (by rw[e];exact True.intro) (.inr i) (fun b q l z=>(t.2 b l).trans z) hd ?_
 refine ⟨by rw[aF O.ne];exact i,?_,O.ne,d.obj,_,d.ns,fun g=>?_,fun g p=>?_⟩
 .have:=r6 f y fs;omega
 .show gM ((gY f y fs).lookup g) (if g=f then some u else mA g)
  rw[nN]
  by_cases q:g=f
  .rw[AE q,AE q];exact m
  .rw[AI q,AI q];exact r g
 .by_cases q:g=f
  .rw[q];exact (pS f y fs).1
  .refine (pS f y fs).2 g (j g fun z=>p ?_)
   show (if g=f then some u else mA g)=none
   rw[AI q];exact z
theorem Inv.made(I:Inv X pins σ H s):Inv X pins σ (upd (upd H s.heap.objs.size (.own (s.heap.objs.size+1))) (s.heap.objs.size+1) (.ins C s.heap.objs.size []))
  {s with heap:=(s.heap.push PySem.W.emptyDict).push (PySem.W.instObj C s.heap.objs.size)}:=by
 have e1:(s.heap.push PySem.W.emptyDict).get? s.heap.objs.size=some PySem.W.emptyDict:=AV s.heap rfl
 have e2:((s.heap.push PySem.W.emptyDict).push (PySem.W.instObj C s.heap.objs.size)).get? (s.heap.objs.size+1)=some (PySem.W.instObj C s.heap.objs.size):=by
  have:=AV (s.heap.push PySem.W.emptyDict) (o:=PySem.W.instObj C s.heap.objs.size) rfl
  rwa [BV] at this
 have f:(s.heap.push PySem.W.emptyDict).Ns s.heap.objs.size (fun _=>none):=⟨PySem.W.emptyDict,#[],_,e1,rfl,(fun e d=>absurd d (by simp)),fun _=>rfl⟩
 have h:=I.laid (a:=s.heap.objs.size) (o:=.own (s.heap.objs.size+1)) (h':=s.heap.push PySem.W.emptyDict) (t':=s.toks) (fun b u q=>AB _ q) (AM _) ⟨_,e1⟩
 refine h.laid (a:=s.heap.objs.size+1) (o:=.ins C s.heap.objs.size []) (t':=s.toks) (fun b u q=>AB _ q) (Nat.le_of_eq (BV _ _)) ?_
 have c:s.heap.objs.size≠s.heap.objs.size+1:=A4 (DL _)
 refine ⟨by rw[aF c,aQ],CM _,c,e2,fun _=>none,(Heap.Ns1.of_empty f).at fun o q=>AB _ q,fun _=>True.intro,fun y g=>absurd rfl g⟩
theorem aJU{prog:P9}{w:W9}{env:Env}{e:Ez}{f:Str}{pos:Pos}{s:S9}{Q:V9->S9->Prop}(a:attributeBase e f env (eval e env)=eval e env)
  (h:wpAny (model prog w) A (eval e env) (fun o s₁=>wpAny (model prog w) A (getAttr o f true) Q E s₁) E s):wpAny (model prog w) A (eval (.Attribute e f pos) env) Q E s:=
 Attribute_any_ h (by rw[arm_eval_Attribute,a])
end
def aMI(K:Frag)(ta:TE)(f:Str):TE:=fun σ H Q=>ta σ H fun x H1=>∃ a C dx fs v,x=.ref a/\H1 a=some (.ins C dx fs)/\Cls K C/\cR K C f/\fs.lookup f=some v/\Q v H1
def aPQ(K:Frag)(ta tv:TE)(f:Str):TS:=fun D σ H=>tv σ H fun y H1=>ta σ H1 fun x H2=>∃ a C dx fs,x=.ref a/\H2 a=some (.ins C dx fs)/\Cls K C/\cR K C f/\fs.length < 1000 /\
 D.nx σ (upd H2 a (.ins C dx (gY f y fs)))
section
variable{X:Cx}{o e value:Ez}{f:Str}{pos pos' tpos:Pos}{ta tv:TE}
theorem gR(i:PE X e ta)(k:attributeBase e f X.env (eval e X.env)=eval e X.env):PE X (.Attribute e f pos) (aMI X.K ta f):=by
 intro pins s σ H Q I h
 refine aJU k (thn (i pins s σ H _ I h) fun u s1 b=>?_)
 obtain ⟨x,H1,o,j,a,C,dx,fs,v,ex,d,c,n,l,q⟩:=b
 subst ex
 obtain rfl:u=Value.ref a:=j
 exact aCT o d c n l fun r p g m=>⟨v,H1,g,m,q⟩
theorem nX(ha:PE X o ta)(m:PE X value tv)(r:swapsWith value (some (.Attribute o f pos')) pos.line X.env=pure false):PS X (.Assign [.Attribute o f pos'] value pos) (aPQ X.K ta tv f):=by
 intro pins s σ H D I h
 refine E5 (thn (m pins s σ H _ I h) fun u s1 ⟨y,H1,t,j,q⟩=>thn (ha pins s1 σ H1 _ t q) fun d w b=>?_) r
 obtain ⟨x,H2,i,k,a,C,dx,fs,ex,g,c,n,l,p⟩:=b
 subst ex
 obtain rfl:d=Value.ref a:=k
 exact aCV i g c n l j fun v e=>⟨σ,_,e,p⟩
theorem aA9{pl:Sem Bool}{m:Str}{apos:Pos}{args:List Ez}{pins:List (Az×Obj)}{s:S9}{σ:St}{H:Hp}{Q:V9->S9->Prop}{te:TE}(j:PE X e te)(I:Inv X pins σ H s)
  (h:te σ H fun x H1=>∃ a C dx fs g,x=.ref a/\H1 a=some (.ins C dx fs)/\Cls X.K C/\Meth X.K C m g/\fs.lookup m=none /\
   ∀ s1,Inv X pins σ H1 s1->wpAny (model X.prog X.w) X.A (callWith pos (.ref g) [.ref a] (backTo pos (starEach args X.env)) (backToKw pos (keywordEach [] X.env))) Q X.xe s1)
  (ht:eval (.Call (.Attribute e m apos) args [] pos) X.env=(do
   let ov <-eval e X.env
   standAt apos.atName
   let (f,first) <-holding [ov] (getMethod ov m pl)
   callWith pos f first (backTo pos (starEach args X.env)) (backToKw pos (keywordEach [] X.env)))) :
  wpAny (model X.prog X.w) X.A (eval (.Call (.Attribute e m apos) args [] pos) X.env) Q X.xe s:=by
 refine G3 (pl:=pl) (thn (j pins s σ H _ I h) fun u s1 b=>?_) ht
 obtain ⟨x,H1,d,n,a,C,dx,fs,g,ex,i,c,k,l,q⟩:=b
 subst ex
 obtain rfl:u=Value.ref a:=n
 exact aCU d i c k l (q s1 d)
end
section
variable{X:Cx}{pins:List (Az×Obj)}{σ:St}{H:Hp}{s:S9}{A:U9}{E:V9->S9->Prop}{Q:V9->S9->Prop}{c:V9}{b:Bool}
inductive TyOf(K:Frag)(H:Hp):V->V9->Prop where
 | non:TyOf K H .non (.type "NoneType")
 | bl (x:Bool):TyOf K H (.bl x) (.type "bool")
 | int (i:Int):TyOf K H (.int i) (.type "int")
 | str (x:Str):TyOf K H (.str x) (.type "str")
 | flt (x:UInt64):TyOf K H (.flt x) (.type "float")
 | lst {a:Az} {xs:List V} (e:H a=some (.lst xs)):TyOf K H (.ref a) (.type "list")
 | frz {a:Az} {o:Obj} {xs:List V} (e:H a=some (.frz o (.lst xs))):TyOf K H (.ref a) (.type "list")
 | tup {a:Az} {xs:List V} (e:H a=some (.tup xs)):TyOf K H (.ref a) (.type "tuple")
 | dK {a:Az} {kvs:List (Key×V)} (e:H a=some (.dK kvs)):TyOf K H (.ref a) (.type "dict")
 | dT {a:Az} {kvs:List (List Key×V)} (e:H a=some (.dT kvs)):TyOf K H (.ref a) (.type "dict")
 | ins {a C dx:Az} {fs:List (Str×V)} (e:H a=some (.ins C dx fs)) (cl:Cls K C) (ha:PySem.W.findIn K (.ref C) "__class__"=some (some (.builtin "object.__class__")))
  (hn:PySem.W.specialIn K (.builtin "object.__class__") "__get__"=some (some (.builtin "getset_descriptor.__get__"))) (htk:PySem.W.takesIn K (.builtin "object.__class__")=some true)
  (hm:PySem.W.mroIn K C (.type "object")=some true):TyOf K H (.ref a) (.ref C)
theorem wD{x:V}{u t:V9}(I:Inv X pins σ H s)(d:bB x u)(ty:TyOf X.K H x t)(e:PySem.W.kitOne X.K t c=some b)(h:∀ tk,Q (.bool b) {s with toks:=tk}) :
  wpAny (model X.prog X.w) A (call (.builtin "isinstance") [u,c]) Q E s:=by
 cases ty with
 | non=>cases (show u=Value.none from d);exact B4 PySem.W.kitx_none I.kIn True.intro e (fun z=>nomatch z) h
 | bl y=>cases (show u=Value.bool y from d);exact B4 PySem.W.kitx_bool I.kIn True.intro e (fun z=>nomatch z) h
 | int i=>obtain ⟨t,q⟩:=(show ∃ t,u=Value.int i t from d);cases q;exact B4 PySem.W.kitx_int I.kIn True.intro e (fun z=>nomatch z) h
 | str y=>obtain ⟨t,q⟩:=(show ∃ t,u=Value.str y t from d);cases q;exact B4 PySem.W.kitx_str I.kIn True.intro e (fun z=>nomatch z) h
 | flt y=>obtain ⟨t,q⟩:=(show ∃ t,u=Value.float y t from d);cases q;exact B4 PySem.W.kitx_float I.kIn True.intro e (fun z=>nomatch z) h
 | @lst a xs ea=>
  cases (show u=Value.ref a from d)
  obtain ⟨_,_,n,_,h1⟩:=(show b9 X.prog X.w H s.heap a (.lst xs) from I.hok a _ ea)
  exact B4 FZ I.kIn ⟨_,h1,rfl⟩ e (fun z=>nomatch z) h
 | @frz a ob xs ea=>
  cases (show u=Value.ref a from d)
  obtain ⟨_,_,_,n,_,h1⟩:=(show b9 X.prog X.w H s.heap a (.frz ob (.lst xs)) from I.hok a _ ea)
  exact B4 FZ I.kIn ⟨_,h1,rfl⟩ e (fun z=>nomatch z) h
 | @tup a xs ea=>
  cases (show u=Value.ref a from d)
  obtain ⟨_,_,_,p⟩:=(show b9 X.prog X.w H s.heap a (.tup xs) from I.hok a _ ea)
  obtain ⟨o,h1,h2,_⟩:=p
  exact B4 PySem.W.kitx_tuple I.kIn ⟨o,h1,h2.1⟩ e (fun z=>nomatch z) h
 | @dK a kvs ea=>
  cases (show u=Value.ref a from d)
  obtain ⟨_,_,vs,_,p⟩:=(show b9 X.prog X.w H s.heap a (.dK kvs) from I.hok a _ ea)
  obtain ⟨o,es,f,h1,h2,_⟩:=p
  exact B4 PySem.W.kitx_dict I.kIn ⟨o,h1,h2.1⟩ e (fun z=>nomatch z) h
 | @dT a kvs ea=>
  cases (show u=Value.ref a from d)
  obtain ⟨_,_,xs,_,o,es,f,h1,h2,_⟩:=(show b9 X.prog X.w H s.heap a (.dT kvs) from I.hok a _ ea)
  exact B4 PySem.W.kitx_dict I.kIn ⟨o,h1,h2.1⟩ e (fun z=>nomatch z) h
 | @ins a C dx fs ea cl ha hn htk hm=>
  cases (show u=Value.ref a from d)
  obtain ⟨mA,O,_⟩:=qZ I.hok ea
  obtain ⟨od,J,_⟩:=O.look
  exact B4 (PySem.W.kitx_own (cl.get _) cl.hd ha hn htk hm) I.kIn J e (fun z=>nomatch z) h
end
structure Room(k:Nat)(A:Around):Prop where
 hd:A.handled=none
 dp:A.depth+3 * k+5 < recursionLimit
 un:A.units+16 * k+200 < cLine
theorem Room.mono{j k:Nat}{A:U9}(r:Room k A)(h:j<=k):Room j A:=⟨r.hd,by have:=r.dp;omega,by have:=r.un;omega⟩
theorem Room.deeper{k:Nat}{A:U9}(r:Room (k+1) A)(env:Env):Room k (A.deeper env):=
 ⟨r.hd,by have:=r.dp;show A.depth+1+3 * k+5 < _;omega,by have:=r.un;show A.units+3+16 * k+200 < _;omega⟩
theorem aCW{A:U9}{C:Az}{us:List V9}{a:List (Str×V9)}:(A.under (.builtin "type.__call__" ⟨.ref C::us,a⟩)).depth=A.depth+1:=by
 first|rfl|simp[Around.under,Code.weight,Code.isCreation,Code.isGuard,Code.isCaller,Code.frames,Code.isFrame,guardIds]
theorem aCX{A:U9}{C:Az}{us:List V9}{a:List (Str×V9)}:(A.under (.builtin "type.__call__" ⟨.ref C::us,a⟩)).units=A.units+1:=by
 first|rfl|simp[Around.under,Code.cUnits,Code.frames,Code.isFrame]
theorem Room.make{k:Nat}{A:U9}(r:Room (k+1) A)(C:Az)(us:List V9)(a:List (Str×V9)):Room k (A.under (.builtin "type.__call__" ⟨.ref C::us,a⟩)):=
 ⟨r.hd,by have:=r.dp;rw[aCW];omega,by have:=r.un;rw[aCX];omega⟩
theorem Room.depth{k:Nat}{A:U9}(r:Room k A):A.depth < recursionLimit:=by have:=r.dp;omega
theorem Room.units{k:Nat}{A:U9}(r:Room k A):A.units+64 < cLine:=by have:=r.un;omega
def f7:TA:=fun _ H Q=>Q [] H
def dN(ta:TE)(tr:TA):TA:=fun σ H Q=>ta σ H fun x H1=>tr σ H1 fun xs H2=>Q (x::xs) H2
section
variable{X:Cx}{e:Ez}{es:List Ez}{te:TE}{t:TA}{pos:Pos}
theorem aT:PA X [] f7:=fun _ _ _ _ H Q I h=>Calls.spliced_nil ⟨[],H,I,.nil,h⟩
theorem aK(ha:PE X e te)(d:PA X es t)(i:starEach (e::es) X.env=(false,eval e X.env)::starEach es X.env:=by rfl):PA X (e::es) (dN te t):=by
 intro pos pins s σ H Q I h
 rw[i]
 show wpAny _ _ (spliced ((false,eval e X.env)::backTo pos (starEach es X.env))) _ _ s
 refine Calls.spliced_cons (thn (ha pins s σ H _ I h) fun u s1 a=>?_)
 obtain ⟨x,H1,k,j,c⟩:=a
 exact thn (d pos pins s1 σ H1 _ k c) fun us l ⟨xs,H2,b,f,g⟩=>⟨x::xs,H2,b,.cons j f,g⟩
def aPR(t:TA):TE:=fun σ H Q=>t σ H fun xs H1=>xs.length<=sizeLine/\∀ p,H1 p=none->Q (.ref p) (upd H1 p (.tup xs))
def aMJ(t:TA):TE:=fun σ H Q=>t σ H fun xs H1=>xs.length<=sizeLine/\∀ p,H1 p=none->Q (.ref p) (upd H1 p (.lst xs))
theorem aMK{x1}(h:PA X es t):PE X (.Tuple es x1 pos) (aPR t):=by
 intro pins s σ H Q I d
 refine wpAny_Tuple_spliced (thn (h pos pins s σ H _ I d) fun us s1 ⟨xs,H1,a,r,z,q⟩=>⟨by rw[<-r.length];exact z,?_⟩)
 have c:H1 s1.heap.objs.size=none:=a.hok.fresh (AM _)
 refine ⟨.ref s1.heap.objs.size,upd H1 s1.heap.objs.size (.tup xs),a.laid (t':=s1.toks) (fun b u e=>AB _ e) (AM _) ?_,rfl,q _ c⟩
 exact ⟨z,us,r,⟨_,AV _ rfl,⟨rfl,rfl⟩,_,rfl⟩⟩
theorem aEQ(h:PA X es t):PE X (.List es pos) (aMJ t):=by
 intro pins s σ H Q I d
 refine wpAny_List_spliced (thn (h pos pins s σ H _ I d) fun us s1 ⟨xs,H1,a,r,z,q⟩=>⟨by rw[<-r.length];exact z,?_⟩)
 have c:H1 s1.heap.objs.size=none:=a.hok.fresh (AM _)
 refine ⟨.ref s1.heap.objs.size,upd H1 s1.heap.objs.size (.lst xs),a.laid (t':=s1.toks) (fun b u e=>AB _ e) (AM _) ?_,rfl,q _ c⟩
 exact ⟨z,us,0,r,AV _ rfl⟩
end
abbrev Sp:=List V->Hp->VK->XK->Prop
abbrev CXT:=List Env->Hp->S9->XK->V9->S9->Prop
structure Env0(P:Program)(w:World)(K:Frag)(mg:Str->Option V9)(base:Heap)(A:Around)(outer:List Env)(s:S9)(H:Hp):Prop where
 frames:A.frames=some outer
 mod:Mod K mg base
 bs:∀ b o,base.get? b=some o->s.heap.get? b=some o/\H b=none
 bsz:base.objs.size<=s.heap.objs.size
 funs:s.heap.FunFrames base outer
 frf:∀ b∈frs outer,H b=none
 hok:HOk P w H s.heap
 bare:AllBare s.gens
def CE(outer:List Env)(P:P9)(w:W9)(H:Hp)(s:S9)(Q:VK)(u:V9)(s':S9):Prop:=
 ∃ v H',s'.os=s.os/\AllBare s'.gens/\Un (frs outer) [] H H' s.heap s'.heap/\HOk P w H' s'.heap/\bB v u/\Q v H'
def CR(CX:CXT)(outer:List Env)(P:P9)(w:W9)(H:Hp)(s:S9)(Q:VK)(E:XK)(r:Result)(s':S9):Prop:=
 match r with
 | .ok (.ret u)=>CE outer P w H s Q u s'
 | .ok _=>False
 | .error e=>CX outer H s E e s'
structure FnOk(P:Program)(w:World)(K:Frag)(mg:Str->Option V9)(base:Heap)(CX:CXT)(k:Nat)(f:Az)(fd:FuncData)(ps:List Str)(sp:Sp):Prop where
 len:∀ vs H Q E,sp vs H Q E->vs.length=ps.length
 run:∀ (A:Around) (outer:List Env) (s:S9) (H:Hp) (args:Args) (us:List V9) (vs:List V) (Q:VK) (E:XK),Room k A->Env0 P w K mg base A outer s H->BindsTo s fd args (ps.zip us)->aZ vs us->sp vs H Q E->
  codeAny (model P w) A (.call (.ref f) args) (CR CX outer P w H s Q E) s
theorem FnOk.imp{P:P9}{w:W9}{K:Frag}{mg:Str->O6 V9}{base:Hz}{CX:CXT}{k:Nat}{f:Az}{fd:FuncData}{ps:List Str}{sp a:Sp}(F:FnOk P w K mg base CX k f fd ps sp)
  (h:∀ vs H Q E,a vs H Q E->sp vs H Q E):FnOk P w K mg base CX k f fd ps a:=
 ⟨fun vs H Q E q=>F.len vs H Q E (h _ _ _ _ q),fun A outer s H args us vs Q E c b e d g=>F.run A outer s H args us vs Q E c b e d (h _ _ _ _ g)⟩
theorem Env0.make{P:P9}{w:W9}{K:Frag}{mg:Str->O6 V9}{base:Hz}{A:U9}{outer:List Env}{s:S9}{H:Hp}(e:Env0 P w K mg base A outer s H)(C:Az)(us:List V9)(a:List (Str×V9)) :
 Env0 P w K mg base (A.under (.builtin "type.__call__" ⟨.ref C::us,a⟩)) outer s H:=⟨by first|exact e.frames|(simpa[Around.under,Code.envs,Code.isFrame,pushEnvs] using e.frames),e.mod,e.bs,e.bsz,e.funs,e.frf,e.hok,e.bare⟩
section
variable{X:Cx}{pins:List (Az×Obj)}{σ:St}{H:Hp}{s s':S9}
theorem Inv.env0(I:Inv X pins σ H s):Env0 X.prog X.w X.K X.mg X.base X.A X.stack s H:=
 ⟨I.ok.frames,I.ok.mod,I.bs,BE I.ok.bsz I.sz,I.stack,I.stkFree,I.hok,I.bare⟩
theorem Inv.after{Q:VK}{u:V9}(I:Inv X pins σ H s)(h:CE X.stack X.prog X.w H s Q u s'):EP X pins σ Q u s':=by
 obtain ⟨v,H',os,a,un,e,r,q⟩:=h
 obtain ⟨f,g,d,t,c⟩:=s'
 obtain rfl:c=s.os:=os
 exact ⟨v,H',I.call (h':=f) (g':=g) (d':=d) (t':=t) (ch:=[]) un e a (fun b z=>absurd z (by simp)),r,q⟩
end
def aCY(sp:Sp)(dvs:List V)(E:XK)(t:TA):TE:=fun σ H Q=>t σ H fun vs H1=>sp (vs++dvs) H1 Q E
def aIZ(C:Az)(sp:Sp)(dvs:List V)(E:XK)(t:TA):TE:=fun σ H Q=>t σ H fun vs H1=>∀ x dx,H1 x=none->H1 dx=none->dx≠x->
 sp (.ref x::(vs++dvs)) (upd (upd H1 dx (.own x)) x (.ins C dx [])) (fun v H2=>v=.non/\Q (.ref x) H2) E
def cV(K:Frag)(fd:FuncData)(ps:List Str)(ds:List V9):Prop:=
 ∀ (s:S9) (us:List V9),K.In s.heap->(us++ds).length=ps.length->BindsTo s fd ⟨us,[]⟩ (ps.zip (us++ds))
theorem cV.all{K:Frag}{fd:FuncData}{ps:List Str}(h:∀ us:List V9,us.length=ps.length->bindArgs fd ⟨us,[]⟩=pure (ps.zip us)):cV K fd ps []:=fun s us _ a=>by
 rw[CH] at a ⊢
 exact .of_eq (h us a)
def h8(CX:CXT)(X:Cx)(E:XK):Prop:=∀ (pins:List (Az×Obj)) (σ:St) (H:Hp) (s:S9) (e:V9) (s':S9),Inv X pins σ H s->CX X.stack H s E e s'->X.xe e s'
section
variable{X:Cx}{CX:CXT}{k:Nat}{f C:Az}{fd:FuncData}{ps:List Str}{sp:Sp}{dvs:List V}{ds:List V9}{E:XK}{x m:Str}{p pos apos:Pos}{e o:Ez}{es:List Ez}{ta:TE}{t:TA}
theorem tJ{pins:List (Az×Obj)}{σ:St}{H:Hp}{s:S9}{Q:VK}{us:List V9}{vs:List V}(F:FnOk X.prog X.w X.K X.mg X.base CX k f fd ps sp)(c:Room k X.A)(g:cV X.K fd ps ds)(i:aZ dvs ds)(hx:h8 CX X E)
  (I:Inv X pins σ H s) (r:aZ vs us) (h:sp (vs++dvs) H Q E):wpAny (model X.prog X.w) X.A (call (.ref f) us) (EP X pins σ Q) X.xe s:=by
 have b:aZ (vs++dvs) (us++ds):=r.append i
 have d:(us++ds).length=ps.length:=by rw[<-b.length];exact F.len _ _ _ _ h
 refine DW (DM (F.run X.A X.stack s H ⟨us,[]⟩ (us++ds) (vs++dvs) Q E c I.env0 (g s us I.kIn d) b h) fun r s' a=>?_)
 cases r with
 | error e=>exact hx pins σ H s e s' I a
 | ok fl=>
  cases fl with
  | ret u=>exact I.after a
  | next=>exact False.elim a
  | brk=>exact False.elim a
  | cont=>exact False.elim a
theorem aJV(F:FnOk X.prog X.w X.K X.mg X.base CX k f fd ps sp)(c:Room k X.A)(g:Gl X x)(hm:X.mg x=some (.ref f))(d:PySem.W.keepIn X.K (.ref f)=true)(i:cV X.K fd ps ds)(j:aZ dvs ds)(hx:h8 CX X E)
  (ha:PA X (e::es) t) (a:(x == ("__debug__":Str))=false:=by decide) (he:starEach (e::es) X.env=(false,eval e X.env)::starEach es X.env:=by rfl) (hpl:(backTo pos (starEach es X.env)).any (·.1)=false:=by rfl) :
  PE X (.Call (.Name x p) (e::es) [] pos) (aCY sp dvs E t):=by
 intro pins s σ H Q I h
 refine CS (qY I g hm ?_ a)
 refine DX (h₀:=X.base) I.ok.mod.kin d (thn (ha pos pins s σ H _ I h) fun us s1 ⟨vs,H1,b,r,q⟩=>⟨b.kIn,?_⟩) he hpl
 exact tJ F c i j hx b r q
structure Mk(K:Frag)(C f:Az):Prop where
 makes:PySem.W.makesIn K C=true
 init:PySem.W.findIn K (.ref C) "__init__"=some (some (.ref f))
 fn:PySem.W.isFn K (.ref f)=true
 kp:PySem.W.keepIn K (.ref C)=true
theorem aG1{pins:List (Az×Obj)}{σ:St}{H:Hp}{s:S9}{Q:VK}{us:List V9}{vs:List V}(M:Mk X.K C f)(F:FnOk X.prog X.w X.K X.mg X.base CX k f fd ps sp)(n:Room (k+1) X.A)(o:cV X.K fd ps ds)(g:aZ dvs ds)
  (hx:h8 CX X E) (I:Inv X pins σ H s) (r:aZ vs us)
  (h:∀ x dx,H x=none->H dx=none->dx≠x->sp (.ref x::(vs++dvs)) (upd (upd H dx (.own x)) x (.ins C dx [])) (fun v H2=>v=.non/\Q (.ref x) H2) E) :
  wpAny (model X.prog X.w) X.A (call (.ref C) us) (EP X pins σ Q) X.xe s:=by
 have d:=h (s.heap.objs.size+1) s.heap.objs.size (I.hok.fresh (D4 _)) (I.hok.fresh (AM _)) (A4 (DL _))
 have b:=Inv.made (C:=C) I
 have c:aZ (V.ref (s.heap.objs.size+1)::(vs++dvs)) (Value.ref (s.heap.objs.size+1)::(us++ds)):=.cons rfl (r.append g)
 have j:(Value.ref (s.heap.objs.size+1)::us++ds).length=ps.length:=by
  have e:=c.length
  rw[F.len _ _ _ _ d] at e
  exact e.symm
 refine DW (aG0 (f:=f) I.kIn M.makes M.init (EQ.mp M.fn) (DM (F.run _ X.stack _ _ ⟨Value.ref (s.heap.objs.size+1)::us,[]⟩ (Value.ref (s.heap.objs.size+1)::(us++ds)) _ _ E (n.make C us [])
  (b.env0.make C us []) (o _ (Value.ref (s.heap.objs.size+1)::us) b.kIn j) c d) fun r s' a=>?_))
 cases r with
 | error e=>exact hx pins σ _ _ e s' b a
 | ok fl=>
  cases fl with
  | ret u=>
   obtain ⟨v,H',i,m,p,l⟩:=b.after a
   subst p
   exact ⟨m,⟨V.ref (s.heap.objs.size+1),H',i,rfl,l⟩⟩
  | next=>exact False.elim a
  | brk=>exact False.elim a
  | cont=>exact False.elim a
theorem aJW(M:Mk X.K C f)(F:FnOk X.prog X.w X.K X.mg X.base CX k f fd ps sp)(c:Room (k+1) X.A)(d:Gl X x)(hm:X.mg x=some (.ref C))(g:cV X.K fd ps ds)(i:aZ dvs ds)(hx:h8 CX X E)
  (ha:PA X (e::es) t) (a:(x == ("__debug__":Str))=false:=by decide) (he:starEach (e::es) X.env=(false,eval e X.env)::starEach es X.env:=by rfl) (hpl:(backTo pos (starEach es X.env)).any (·.1)=false:=by rfl) :
  PE X (.Call (.Name x p) (e::es) [] pos) (aIZ C sp dvs E t):=by
 intro pins s σ H Q I h
 refine CS (qY I d hm ?_ a)
 refine DX (h₀:=X.base) I.ok.mod.kin M.kp (thn (ha pos pins s σ H _ I h) fun us s1 ⟨vs,H1,b,r,q⟩=>⟨b.kIn,?_⟩) he hpl
 exact aG1 M F c g i hx b r q
end
section
variable{X:Cx}{CX:CXT}{k:Nat}{f C:Az}{fd:FuncData}{ps ks:List Str}{sp:Sp}{E:XK}{x m:Str}{p pos apos kpos:Pos}{e o:Ez}{es:List Ez}{kws:List Keyword}{te ta:TE}{t tk:TA}{nm:O6 Str}
structure KBinds(K:Frag)(fd:FuncData)(ps ks:List Str)(g:List V9->List V9->List V9)(gV:List V->List V->List V):Prop where
 to:∀ (s:S9) (us ws:List V9),K.In s.heap->(g us ws).length=ps.length->BindsTo s fd ⟨us,ks.zip ws⟩ (ps.zip (g us ws))
 rel:∀ {vs:List V} {us:List V9} {zs:List V} {ws:List V9},aZ vs us->aZ zs ws->aZ (gV vs zs) (g us ws)
variable{g:List V9->List V9->List V9}{gV:List V->List V->List V}
end
structure FnScope(N P:List Str)(sc:Scope):Prop where
 kind:sc.kind=.function
 co:sc.isCoroutine=false
 gen:sc.isGenerator=false
 nd:N.Nodup
 pre:N.take P.length=P
 par:∀ x∈P,sc.names.lookup x=some .local\/sc.names.lookup x=some .cell
 nofree:∀ y∈sc.names,y.2≠.free
theorem wE{a:Str->O6 NameKind}{x:Str}:∀ {binds:List (Str×V9)} {m:Str->O6 V9},(∀ v,(x,v)∉binds)->bindL a binds m x=m x
 | [],_,_=>rfl
 | (n,v)::r,m,h=>by
  unfold bindL
  rw[wE fun w hw=>h w (AN _ hw)]
  split
  .have:x≠n:=by rintro rfl;exact h v AX
   simp[this]
  .rfl
theorem wF{a:Str->O6 NameKind}{x:Str}:∀ {binds:List (Str×V9)} {m:Str->O6 V9},(∀ v,(x,v)∉binds)->bindC a binds m x=m x
 | [],_,_=>rfl
 | (n,v)::r,m,h=>by
  unfold bindC
  rw[wF fun w hw=>h w (AN _ hw)]
  split
  .rfl
  .have:x≠n:=by rintro rfl;exact h v AX
   simp[this]
theorem pT{a:Str->O6 NameKind}{x:Str}{v:V9}:∀ {P:List Str} {vs:List V9} {i:Nat} {m:Str->O6 V9},P.Nodup->P[i]? = some x->vs[i]? = some v->a x=some .local->
  bindL a (P.zip vs) m x=some v
 | [],_,_,_,_,h,_,_=>by simp at h
 | _::_,[],_,_,_,_,h,_=>by simp at h
 | p::P,w::vs,0,m,nd,h1,h2,hk=>by
  simp at h1 h2;subst h1;subst h2
  show bindL a ((p,w)::P.zip vs) m p=_
  unfold bindL
  rw[wE fun v hv=>(BU.mp nd).1 (EJ hv).1,AE hk]
  simp
 | p::P,w::vs,i+1,m,nd,h1,h2,hk=>by
  show bindL a ((p,w)::P.zip vs) m x=_
  unfold bindL
  exact pT (i:=i) (BU.mp nd).2 (by simpa using h1) (by simpa using h2) hk
theorem pU{a:Str->O6 NameKind}{x:Str}{v:V9}:∀ {P:List Str} {vs:List V9} {i:Nat} {m:Str->O6 V9},P.Nodup->P[i]? = some x->vs[i]? = some v->a x≠some .local->
  bindC a (P.zip vs) m x=some v
 | [],_,_,_,_,h,_,_=>by simp at h
 | _::_,[],_,_,_,_,h,_=>by simp at h
 | p::P,w::vs,0,m,nd,h1,h2,hk=>by
  simp at h1 h2;subst h1;subst h2
  show bindC a ((p,w)::P.zip vs) m p=_
  unfold bindC
  rw[wF fun v hv=>(BU.mp nd).1 (EJ hv).1,AI hk]
  simp
 | p::P,w::vs,i+1,m,nd,h1,h2,hk=>by
  show bindC a ((p,w)::P.zip vs) m x=_
  unfold bindC
  exact pU (i:=i) (BU.mp nd).2 (by simpa using h1) (by simpa using h2) hk
noncomputable def start(N:List Str)(vs:List V):St:=vs.map some++List.replicate (N.length - vs.length) none
noncomputable def eW(CX:CXT)(P:P9)(w:W9)(K:Frag)(mg:Str->O6 V9)(base:Hz)(N:List Str)(qual:Str)(scope:Scope)(f:Az)(cd:V9)(A:U9)(outer:List Env)(s:S9)(H:Hp)(E:XK):Cx where
 prog:=P
 w:=w
 K:=K
 mg:=mg
 base:=base
 A:=A.deeper (envOfC qual scope s.heap.objs.size f cd)
 N:=N
 s₀:=s
 H₀:=H
 env:=envOfC qual scope s.heap.objs.size f cd
 outer:=outer
 stack:=envOfC qual scope s.heap.objs.size f cd::outer
 ex:=[]
 calm:=true
 fn:=fun _=>true
 pn:=[]
 xe:=fun e s'=>wpAny (model P w) (A.deeper (envOfC qual scope s.heap.objs.size f cd)) (leaving (envOfC qual scope s.heap.objs.size f cd) e) (fun _ s''=>CX outer H s E e s'') (fun e' s''=>CX outer H s E e' s'') s'
theorem mB{a:Scope}{n:Nat}{x:Str}(h:a.names.lookup x=some .cell):∃ c,(cellsFrom n a.names []).lookup x=some c:=by
 have q:=EV a.names n [] (.inl h)
 exact GM.mp q
theorem wG{CX:CXT}{P:P9}{w:W9}{K:Frag}{mg:Str->O6 V9}{base:Hz}{N ps:List Str}{qual:Str}{scope:Scope}{f:Az}{cd:V9}{A:U9}{outer:List Env}{s s1:S9}{H:Hp}{E:XK}{us:List V9}{vs:List V}
  (S:FnScope N ps scope) (B:A.handled=none) (e0:Env0 P w K mg base A outer s H) (G:vs.length=ps.length) (r:aZ vs us)
  (x:InCallC s s.heap.objs.size (bindL (envOfC qual scope s.heap.objs.size f cd).kindOf (ps.zip us) fun _=>none) (cellsFrom (s.heap.objs.size+1) scope.names []) (bindC (envOfC qual scope s.heap.objs.size f cd).kindOf (ps.zip us) fun _=>none) s1) :
  Inv (eW CX P w K mg base N qual scope f cd A outer s H E) [] (start N vs) H s1:=by
 have C:ps.length<=N.length:=by have:=D3 List.length S.pre;rw[EC] at this;omega
 obtain ⟨h1,tk,rfl,o⟩:=x.done
 have d:∀ b:Az,b∉(eW CX P w K mg base N qual scope f cd A outer s H E).ex:=fun b z=>absurd (show b∈([]:List Az) from z) (by simp)
 refine ⟨⟨e0.mod,S.kind,rfl,rfl,AM _,fun y z c h1 h2=>?_,fun y g=>?_,fun y c _ h=>?_,fun _=>B,Around.frames_deeper e0.frames,.inr ⟨rfl,rfl⟩,fun b z=>absurd z (d b),e0.bs,e0.bsz,fun b _ _=>d b,fun b z=>absurd z (d b),e0.funs,e0.frf⟩,
  rfl,e0.bare,Un.kept o,⟨_,x.toInCall.ns,fun i y v h1 h2 F=>?_⟩,fun y c h=>⟨_,x.cell y c h⟩,e0.hok.fresh (AM _),fun y c h=>?_,fun p l=>absurd (show p∈([]:List (Az×Obj)) from l) (by simp),e0.hok.kept o,?_⟩
 .exact name_of_addr x.apart (BF h1) (BF h2)
 .have g:scope.names.lookup y=some .cell\/scope.names.lookup y=some .free:=g
  rcases g with g|g
  .exact mB g
  .exact absurd rfl (S.nofree _ (BF g))
 .exact DK (x.above y c (BF h))
 .have hi:i < vs.length:=by
   unfold start at h2
   by_cases hi:i < vs.length
   .exact hi
   .rw[CA (by simpa using hi)] at h2
    rw[CU] at h2
    split at h2<;>cases h2
  have t:vs[i]? = some v:=by
   unfold start at h2
   rw[BK (by simpa using hi),A0] at h2
   cases e:vs[i]? with
   | none=>rw[e] at h2;cases h2
   | some a=>rw[e] at h2;cases h2;rfl
  obtain ⟨u,m,D⟩:=r.get t
  have l:ps[i]? = some y:=by
   rw[<-S.pre,GN (by omega)];exact h1
  have j:ps.Nodup:=by rw[<-S.pre];exact S.nd.sublist (List.take_sublist _ _)
  refine ⟨u,D,?_⟩
  rcases S.par y (A6 l) with k|k
  .exact .inl ⟨k,pT j l m k⟩
  .obtain ⟨c,e⟩:=mB (n:=s.heap.objs.size+1) k
   refine .inr ⟨.inl k,c,e,?_⟩
   have q:=x.cell y c e
   rw[pU j l m (by show scope.names.lookup y≠_;rw[k];decide)] at q
   exact q
 .exact e0.hok.fresh (DK (x.above y c (BF h)))
 .unfold start
  show _=N.length
  rw[AU,AD,BL]
  omega
theorem aI0{CX:CXT}{P:P9}{w:W9}{K:Frag}{mg:Str->O6 V9}{base:Hz}{k:Nat}{f:Az}{name qual:Str}{params:Arguments}{body:List Stmt}{scope:Scope}{F kV doc pm a ct Z:V9}{D od:O6 Az}
  {p:Array (O6 V9)} {N ps:List Str} {sp:Sp} (L:K.lookup f=some ⟨Z,od,.func (PySem.W.fnOf name qual params body scope F kV doc pm D a ct),p⟩) (z:PySem.W.codeIn K a qual=true) (S:FnScope N ps scope)
  (len:∀ vs H Q E,sp vs H Q E->vs.length=ps.length)
  (g:∀ (A:U9) (outer:List Env) (s:S9) (H:Hp) (vs:List V) (Q:VK) (E:XK),Room k (A.deeper (envOfC qual scope s.heap.objs.size f a))->sp vs H Q E->
   ∃ t,PSs (eW CX P w K mg base N qual scope f a A outer s H E) body t/\t {nx:=fun _ H'=>Q .non H',rt:=Q} (start N vs) H) :
  FnOk P w K mg base CX (k+1) f (PySem.W.fnOf name qual params body scope F kV doc pm D a ct) ps sp:=by
 refine ⟨len,fun A outer s H args us vs Q E l e0 U r i=>?_⟩
 have T:=len _ _ _ _ i
 have G:K.In s.heap:=e0.mod.kin.keeps fun b o e=>(e0.bs b o e).1
 have m:s.heap.NoLimit:=e0.mod.nolimit.keeps fun b o e=>(e0.bs b o e).1
 have d:∀ y∈ps.zip us,scope.names.lookup y.1=some .local\/(scope.names.lookup y.1=some .cell/\((cellsFrom (s.heap.objs.size+1) scope.names []).lookup y.1).isSome=true):=fun C R=>by
  obtain ⟨n,v⟩:=C
  rcases S.par n (EJ R).1 with q|q
  .exact .inl q
  .exact .inr ⟨q,EV _ _ _ (.inl q)⟩
 refine E2 l.depth (G _ _ L) rfl S.co S.gen rfl (PySem.W.codeRec_of G z) (U _ _ _ _ ?_)
 refine FT S.kind d fun env O s1 x=>?_
 subst O
 refine ⟨m.keeps x.toInCall.keep,codeAny_func ?_⟩
 obtain ⟨t,Y,X⟩:=g A outer s H vs Q E (l.deeper _) i
 have I:Inv (eW CX P w K mg base N qual scope f a A outer s H E) [] (start N vs) H s1:=wG S l.hd e0 T r x
 refine BY (Y [] s1 (start N vs) H _ I X) (fun M s' h=>?_) fun e s' h=>h
 have j:∀ {c:St} {H':Hp} {v:V} {u:V9},Inv (eW CX P w K mg base N qual scope f a A outer s H E) [] c H' s'->bB v u->Q v H'->CE outer P w H s Q u s':=
  fun {c H' v u} J B q=>⟨v,H',J.os,J.bare,J.base,J.hok,B,q⟩
 cases M with
 | ret u=>
  obtain ⟨v,c,H',J,B,q⟩:=h
  exact j J B q
 | next=>
  obtain ⟨c,H',J,q⟩:=h
  exact j (v:=V.non) (u:=Value.none) J rfl q
 | brk=>
  obtain ⟨_,_,_,q⟩:=h
  exact False.elim q
 | cont=>
  obtain ⟨_,_,_,q⟩:=h
  exact False.elim q
section
variable{X:Cx}{x:Str}{p pos:Pos}{e:Ez}{es:List Ez}{t:TA}{id T:String}{r:List V->Hp->VK->Prop}
def tCB(r:List V->Hp->VK->Prop)(t:TA):TE:=fun σ H Q=>t σ H fun vs H1=>r vs H1 Q
theorem bN(a:i9 X (.builtin id) r)(b:Gl X x)(hm:X.mg x=none)(c:bootBuiltins x=some (.builtin id))(ha:PA X (e::es) t)(hn:x≠"__name__":=by decide)(hdb:(x == ("__debug__":Str))=false:=by decide)
  (he:starEach (e::es) X.env=(false,eval e X.env)::starEach es X.env:=by rfl) (hpl:(backTo pos (starEach es X.env)).any (·.1)=false:=by rfl):PE X (.Call (.Name x p) (e::es) [] pos) (tCB r t):=by
 intro pins s σ H Q I h
 refine CS (iZ I b hm c ?_ hn hdb)
 exact E8 (thn (ha pos pins s σ H _ I h) fun us s1 ⟨vs,H1,g,f,d⟩=>a pins s1 σ H1 vs us Q g f d) he hpl
theorem fN(a:i9 X (.type T) r)(b:Gl X x)(hm:X.mg x=none)(c:bootBuiltins x=some (.type T))(ha:PA X (e::es) t)(hn:x≠"__name__":=by decide)(hdb:(x == ("__debug__":Str))=false:=by decide)
  (he:starEach (e::es) X.env=(false,eval e X.env)::starEach es X.env:=by rfl) (hpl:(backTo pos (starEach es X.env)).any (·.1)=false:=by rfl):PE X (.Call (.Name x p) (e::es) [] pos) (tCB r t):=by
 intro pins s σ H Q I h
 refine CS (iZ I b hm c ?_ hn hdb)
 exact B6 (thn (ha pos pins s σ H _ I h) fun us s1 ⟨vs,H1,g,f,d⟩=>a pins s1 σ H1 vs us Q g f d) he hpl
end
end L2
namespace HT
open PySem PyProof.Rows
section
open PySem.SeqAt
open PySem.AutoSeq1 (wpAny_loadPart')
open PySem.MeetsSeq PySem.MeetsSeq2 PySem.MeetsSeq3
end
section
variable{prog:P9}{w:W9}{A:U9}{E:V9->S9->Prop}{s:S9}
theorem aJX{t b:Az}{vs a:List V9}{Q:V9->S9->Prop}(ht:IsTup s.heap t vs.toArray)(u:IsTup s.heap b a.toArray)(r:vs≠[])
  (h1:a=[]->Q (.ref t) s) (h2:a≠[]->Q (.ref s.heap.objs.size) {s with heap:=s.heap.push {cls:=.type "tuple",data:=.seq (vs++a).toArray}})
  (hsz:vs.length+a.length<=sizeLine):wpAny (model prog w) A (binaryOp .Add (.ref t) (.ref b)) Q E s:=by
 obtain ⟨⟨cls,dd,data,p⟩,j,o,n,m⟩:=id ht
 obtain ⟨⟨l,d,k,h⟩,c,g,q,f⟩:=id u
 simp only at o m g f
 subst o m g f
 have e:vs.toArray++a.toArray=(vs++a).toArray:=by simp
 by_cases i:a=[]
 .exact concat_meets ⟨_,j,rfl⟩ ⟨_,c,rfl⟩ GO G9 EW ES (EL _ _)
   (tuple_addW1 t b vs.toArray a.toArray n q dd d p h (by simpa using r) (by simp[i])) ⟨j,c,h1 i⟩
 .refine concat_meets ⟨_,j,rfl⟩ ⟨_,c,rfl⟩ GO G9 EW ES (EL _ _)
   (tuple_addW2 t b vs.toArray a.toArray n q dd d p h (by simpa using r) (by simpa using i) (by rw[A2,A2];exact hsz)) ⟨j,c,?_⟩
  rw[e]
  exact h2 i
noncomputable def sIx(n d:Nat):O6 Int->Nat
 | none=>d
 | some v=>if v < 0 then (v+(n:Int)).toNat else min v.toNat n
theorem x8(n d:Nat):sIx n d none=d:=rfl
theorem aBI(n d k:Nat):sIx n d (some (k:Int))=min k n:=by
 show (if (k:Int) < 0 then ((k:Int)+(n:Int)).toNat else min (k:Int).toNat n)=min k n
 rw[AI (by omega),F5]
theorem aER(n d:Nat)(b:d<=n)(o:O6 Int):sIx n d o<=n:=by
 cases o with
 | none=>exact b
 | some v=>
  show (if v < 0 then (v+(n:Int)).toNat else min v.toNat n)<=n
  by_cases a:v < 0
  · rw [AE a]; omega
  · rw [AI a]; exact Nat.min_le_right _ _
theorem uW(v:Int)(n d:Nat):(if v < 0 then max (v+(n:Int)) 0 else min v (n:Int))=((sIx n d (some v):Nat):Int):=by
 show (if v < 0 then max (v+(n:Int)) 0 else min v (n:Int))=(((if v < 0 then (v+(n:Int)).toNat else min v.toNat n):Nat):Int)
 by_cases a:v < 0
 · simp only [AE a]; omega
 · simp only [AI a]; omega
theorem aCZ(lo hi:O6 Int)(n:Nat):Builtin.Slice.sliceAdjust lo hi 1 (n:Int)=(((sIx n 0 lo:Nat):Int),((sIx n n hi:Nat):Int)):=by
 have h1:¬ ((1:Int) < 0):=by omega
 unfold Builtin.Slice.sliceAdjust
 simp only[h1,CD]
 refine Prod.ext ?_ ?_
 .cases lo with
  | none=>rfl
  | some v=>exact uW v n 0
 .cases hi with
  | none=>rfl
  | some v=>exact uW v n n
theorem aC0(i j:Nat):Builtin.Slice.slicePlaces (i:Int) (j:Int) 1=j - i:=by
 unfold Builtin.Slice.slicePlaces
 have h1:(1:Int) > 0:=by omega
 simp only[h1,BP,Int.ediv_one]
 split<;>omega
theorem oO{v:V9}{o:O6 Int}{Q:O6 Int->S9->Prop}(p:IsPart v o)(h:Q o s):wpAny (model prog w) A (Builtin.Slice.slicePartIndex v) Q E s:=by
 cases p with
 | none=>exact slicePart_none h
 | int i t=>exact slicePart_int h
theorem sI{e:Az}{d c:V9}{lo hi:O6 Int}{n:Nat}{Q:Int×Int×Nat->S9->Prop}(g:s.heap.IsSliceOf e d c .none)(pl:IsPart d lo)(f:IsPart c hi)
  (h:Q (((sIx n 0 lo:Nat):Int),1,sIx n n hi - sIx n 0 lo) s):wpAny (model prog w) A (Builtin.Slice.sliceApplied (.ref e) (pure (n:Int))) Q E s:=by
 obtain ⟨os,a,i,b⟩:=id g
 unfold Builtin.Slice.sliceApplied Builtin.Slice.sliceFields
 refine AA (AA (BN a b (x:=d) rfl (AA (BN a b (x:=c) rfl (AA (BN a b (x:=.none) rfl (AC ?_)))))))
 refine AA (slicePart_none ?_)
 show wpAny _ _ (if ((1:Int) == 0)=true then _ else _) _ _ s
 rw[AI (by decide)]
 refine AA (oO pl (AA (oO f (AA (AC ?_)))))
 show wpAny _ _ (match Builtin.Slice.sliceAdjust lo hi 1 (n:Int) with|(lo,hi)=>pure (lo,(1:Int),Builtin.Slice.slicePlaces lo hi 1)) _ _ s
 rw[aCZ lo hi n]
 show wpAny _ _ (pure (((sIx n 0 lo:Nat):Int),(1:Int),Builtin.Slice.slicePlaces ((sIx n 0 lo:Nat):Int) ((sIx n n hi:Nat):Int) 1)) _ _ s
 rw[aC0]
 exact AC h
theorem aG2(xs:Array V9)(i k:Nat):((List.range k).filterMap fun (m:Nat)=>xs[((i:Int)+(m:Int) * 1).toNat]?).toArray=((xs.toList.drop i).take k).toArray:=by
 have e:(fun (m:Nat)=>xs[((i:Int)+(m:Int) * 1).toNat]?)=fun m=>xs[i+m]?:=by
  funext m
  have:((i:Int)+(m:Int) * 1).toNat=i+m:=by omega
  rw[this]
 rw[e]
 have:=pick_run xs i k
 rw[List.filterMap_map] at this
 have e2:((fun x=>xs[x]?)∘fun x=>i+x)=fun m=>xs[i+m]?:=rfl
 rw[e2] at this
 rw[this]
theorem rP{t e:Az}{items:Array V9}{i g:V9}{lo hi:O6 Int}{Q:V9->S9->Prop}(ht:IsTup s.heap t items)(j:s.heap.IsSliceOf e i g .none)(pl:IsPart i lo)(l:IsPart g hi)
  (hw:¬ (sIx items.size 0 lo=0/\sIx items.size items.size hi=items.size))
  (h:Q (.ref s.heap.objs.size) {s with heap:=s.heap.push {cls:=.type "tuple",data:=.seq ((items.toList.drop (sIx items.size 0 lo)).take (sIx items.size items.size hi - sIx items.size 0 lo)).toArray}})
  (hsz:items.size<=sizeLine):wpAny (model prog w) A (getItem (.ref t) (.ref e)) Q E s:=by
 have a:sizeOk (.seq ((items.toList.drop (sIx items.size 0 lo)).take (sIx items.size items.size hi - sIx items.size 0 lo)).toArray):=by
  show ((items.toList.drop (sIx items.size 0 lo)).take (sIx items.size items.size hi - sIx items.size 0 lo)).toArray.size<=sizeLine
  rw[A2,EC,CT,B5]
  omega
 have o:sIx items.size items.size hi<=items.size:=aER _ _ (AM _) hi
 obtain ⟨os,d,c,k⟩:=id j
 have b:s.TypeIs (.ref e) "slice":=⟨os,d,c⟩
 unfold getItem
 try with_reducible refine B9 ?_
 first|refine AA (AC ?_)|skip
 refine AA (wpAny_sequenceKey ht.typeIs (by decide) ?_)
 refine AA (CV (name:=Str.ofString "__getitem__") ht.typeIs B7
  (DN B7 ht.typeIs entry_tuple_getitem ?_ (args_tuple_getitem _ _)))
 show wpAny _ _ (Builtin.Tuple.tupleItemsOf (.ref t) >>= _) _ _ s
 refine AA (tupleItemsOf_ ht ?_)
 refine AA (GP b ?_)
 rw[AE (by decide)]
 refine AA (sI j pl l ?_)
 have f:¬ ((((sIx items.size 0 lo:Nat):Int) == 0 && (1:Int) == 1 && (sIx items.size items.size hi - sIx items.size 0 lo) == items.size)=true):=by
  intro q
  rw[A3,A3] at q
  have n:((sIx items.size 0 lo:Nat):Int)=0:=EM q.1.1
  have p:sIx items.size items.size hi - sIx items.size 0 lo=items.size:=EM q.2
  exact hw ⟨by omega,by omega⟩
 show wpAny _ _ (if (((sIx items.size 0 lo:Nat):Int) == 0 && (1:Int) == 1 && (sIx items.size items.size hi - sIx items.size 0 lo) == items.size)=true then _ else _) _ _ s
 rw[AI f,aG2]
 first
  | exact AA (m:=Builtin.Tuple.tupleExact _) (B2 (AC ⟨_,rfl,AC h⟩) a)
  | exact AA (m:=Builtin.Tuple.tupleExact _) (B2 (AA (AC (AC ⟨_,rfl,AC h⟩))) a)
  | exact AA (AA (m:=Builtin.Tuple.tupleExact _) (B2 (AC (AC ⟨_,rfl,AC h⟩)) a))
  | exact AA (AA (m:=Builtin.Tuple.tupleExact _) (B2 (AC ⟨_,rfl,AC h⟩) a))
end
end HT
namespace L2
open PySem PySem.Spec PyProof.Rows
abbrev TO:=St->Hp->(O6 Int->Hp->Prop)->Prop
def PO(X:Cx)(e:O6 Ez)(t:TO):Prop:=
 ∀ (pins:List (Az×Obj)) (s:S9) (σ:St) (H:Hp) (Q:O6 Int->Hp->Prop),Inv X pins σ H s->t σ H Q->
  wpAny (model X.prog X.w) X.A (evalPart e X.env) (fun u s'=>∃ o H',Inv X pins σ H' s'/\IsPart u o/\Q o H') X.xe s
def aJY:TO:=fun _ H Q=>Q none H
def aOP(t:TE):TO:=fun σ H Q=>t σ H fun x H1=>∃ i,x=.int i/\Q (some i) H1
section
variable{X:Cx}{e:Ez}{te:TE}{lo hi:O6 Ez}{tl th:TO}{pos p2:Pos}
theorem aJZ:PO X none aJY:=by
 intro pins s σ H Q I h
 rw[HA]
 exact AC ⟨none,H,I,.none,h⟩
theorem aJ0(h:PE X e te):PO X (some e) (aOP te):=by
 intro pins s σ H Q I c
 rw[evalPart_some]
 refine thn (h pins s σ H _ I c) fun u s1 a=>?_
 obtain ⟨x,H1,f,d,b⟩:=a
 obtain ⟨i,rfl,q⟩:=b
 obtain ⟨t,rfl⟩:=d
 exact ⟨some i,H1,f,.int i t,q⟩
def SlR(X:Cx)(r:V->O6 Int->O6 Int->Hp->VK->Prop):Prop:=
 ∀ (pins:List (Az×Obj)) (s:S9) (σ:St) (H:Hp) (x:V) (v vl vu:V9) (lo hi:O6 Int) (sl:Az) (Q:VK),Inv X pins σ H s->bB x v->s.heap.IsSliceOf sl vl vu .none->IsPart vl lo->IsPart vu hi->r x lo hi H Q->
  ∃ T id,typeLookup (.type T) "__getitem__"=pure (some (.builtin id))/\s.TypeIs v T/\wpAny (model X.prog X.w) X.A (getItem v (.ref sl)) (EP X pins σ Q) X.xe s
def tSl(r:V->O6 Int->O6 Int->Hp->VK->Prop)(te:TE)(tl th:TO):TE:=fun σ H Q=>te σ H fun x H1=>tl σ H1 fun l H2=>th σ H2 fun u H3=>r x l u H3 Q
theorem aG3{r:V->O6 Int->O6 Int->Hp->VK->Prop}(E:SlR X r)(g:PE X e te)(t:PO X lo tl)(j:PO X hi th):PE X (.Subscript e (.Slice lo hi none p2) pos) (tSl r te tl th):=by
 intro pins s σ H Q I h
 refine Subscript_ (thn (g pins s σ H _ I h) fun v s1 c=>?_)
 obtain ⟨x,H1,J,n,i⟩:=c
 refine wpAny_Slice (thn (t pins s1 σ H1 _ J i) fun f m ⟨l,H2,y,p,G⟩=>thn (j pins m σ H2 _ y G) fun d a c=>?_)
 obtain ⟨u,H3,o,z,C⟩:=c
 rw[HA]
 refine AC ?_
 have D:Inv X pins σ H3 {a with heap:=a.heap.push {cls:=.type "slice",data:=.fields #[f,d,.none]}}:=o.kept (t':=a.toks) fun b K q=>AB _ q
 obtain ⟨T,id,B,F,k⟩:=E pins {a with heap:=a.heap.push {cls:=.type "slice",data:=.fields #[f,d,.none]}} σ H3 x v f d l u a.heap.objs.size Q D n (Heap.IsSliceOf.new ..) p z C
 show wpAny (model X.prog X.w) X.A (subscriptTail e (.Slice lo hi none p2) v (.ref a.heap.objs.size)) (EP X pins σ Q) X.xe {a with heap:=a.heap.push {cls:=.type "slice",data:=.fields #[f,d,.none]}}
 exact tail_any (ops:=[.ref a.heap.objs.size,v]) F B k (by with_unfolding_all rfl)
noncomputable def pV(xs:List V)(lo hi:O6 Int):List V:=(xs.drop (HT.sIx xs.length 0 lo)).take (HT.sIx xs.length xs.length hi - HT.sIx xs.length 0 lo)
theorem sA(xs:List V)(lo hi:O6 Int):(pV xs lo hi).length<=xs.length:=by
 unfold pV
 rw[EC,CT]
 omega
def aPS(K:Frag):V->O6 Int->O6 Int->Hp->VK->Prop:=fun x lo hi H Q=>∃ a xs,x=.ref a/\SqT K H a xs /\
 ¬ (HT.sIx xs.length 0 lo=0/\HT.sIx xs.length xs.length hi=xs.length)/\∀ p,H p=none->Q (.ref p) (upd H p (.tup (pV xs lo hi)))
theorem aML:SlR X (aPS X.K):=by
 intro pins s σ H x v t n lo hi u Q I k m i j h
 obtain ⟨a,xs,rfl,l,g,q⟩:=h
 cases k
 obtain ⟨d,r,f,e⟩:=I.tuple l
 have c:d.toArray.size=xs.length:=by rw[A2];exact r.length.symm
 refine ⟨"tuple",_,B7.lookup,f.typeIs,?_⟩
 refine HT.rP f m i j (by rw[c];exact g) ?_ (by rw[c];exact e)
 rw[c]
 refine ⟨.ref s.heap.objs.size,_,I.laid (t':=s.toks) (o:=.tup (pV xs lo hi)) (fun b p q=>AB _ q) (AM _) ?_,rfl,q _ (I.hok.fresh (AM _))⟩
 exact ⟨BE (sA xs lo hi) e,_,(r.drop (HT.sIx xs.length 0 lo)).take (HT.sIx xs.length xs.length hi - HT.sIx xs.length 0 lo),j0.new _ _⟩
def aOQ(K:Frag):R2:=fun x y H Q=>∃ a b xs ys,x=.ref a/\y=.ref b/\SqT K H a xs/\SqT K H b ys/\xs≠[]/\xs.length+ys.length<=sizeLine /\
 (ys=[]->Q (.ref a) H)/\(ys≠[]->∀ p,H p=none->Q (.ref p) (upd H p (.tup (xs++ys))))
theorem aZ.nil_iff{xs:List V}{us:List V9}(r:aZ xs us):us=[]↔xs=[]:=by
 cases r with
 | nil=>simp
 | cons _ _=>simp
theorem aBJ:OpR X (binaryOp .Add) (aOQ X.K):=by
 intro pins s σ H x y v u Q I m l h
 obtain ⟨a,b,xs,ys,rfl,rfl,j,p,n,e,i,r⟩:=h
 cases m
 cases l
 obtain ⟨g,d,k,_⟩:=I.tuple j
 obtain ⟨f,c,p2,_⟩:=I.tuple p
 refine HT.aJX k p2 (fun z=>n (d.nil_iff.mp z)) (fun z=>⟨.ref a,H,I,rfl,i (c.nil_iff.mp z)⟩) (fun z=>?_) (by rw[<-d.length,<-c.length];exact e)
 refine ⟨.ref s.heap.objs.size,_,I.laid (t':=s.toks) (o:=.tup (xs++ys)) (fun b t q=>AB _ q) (AM _) ?_,rfl,r (fun w=>z (c.nil_iff.mpr w)) _ (I.hok.fresh (AM _))⟩
 exact ⟨by rw[AU];exact e,_,d.append c,j0.new _ _⟩
end
noncomputable def ixN(n:Nat)(i:Int):O6 Nat:=if 0<=i then (if i < n then some i.toNat else none) else if -(n:Int)<=i then some (i+n).toNat else none
noncomputable def atI{α:Type}(xs:List α)(i:Int):O6 α:=(ixN xs.length i).bind fun j=>xs[j]?
theorem uX{n:Nat}{i:Int}{j:Nat}(h:ixN n i=some j):seqIndex? i n=some j/\j < n /\ -(n:Int)<=i/\i < n:=by
 unfold ixN at h
 by_cases a:0<=i
 .rw[AE a] at h
  by_cases h1:i < n
  .rw[AE h1] at h
   have e:i.toNat=j:=BT h
   exact ⟨by rw[seqIndex_of a h1,e],by omega,by omega,h1⟩
  .rw[AI h1] at h;cases h
 .rw[AI a] at h
  by_cases h1 : -(n:Int)<=i
  .rw[AE h1] at h
   have e:(i+n).toNat=j:=BT h
   exact ⟨by rw[seqIndex_neg (by omega) h1,e],by omega,h1,by omega⟩
  .rw[AI h1] at h;cases h
theorem uY{α:Type}{xs:List α}{i:Int}{v:α}(h:atI xs i=some v):∃ j,seqIndex? i xs.length=some j/\xs[j]? = some v/\j < xs.length /\ -(xs.length:Int)<=i/\i < xs.length:=by
 unfold atI at h
 cases e:ixN xs.length i with
 | none=>rw[e] at h;cases h
 | some j=>
  rw[e] at h
  obtain ⟨h1,h2,a,b⟩:=uX e
  exact ⟨j,h1,h,h2,a,b⟩
theorem iO{α:Type}{xs:List α}{j:Nat}{v:α}(h:xs[j]? = some v):atI xs (j:Int)=some v:=by
 have a:j < xs.length:=(AS.mp h).1
 have e:ixN xs.length (j:Int)=some j:=by
  unfold ixN
  rw[AE (by omega),AE (by omega)];simp
 unfold atI;rw[e];exact h
theorem aG4{α:Type}(xs:List α)(v:α):atI (xs++[v]) (-1)=some v:=by
 have a:(xs++[v]).length=xs.length+1:=by simp
 have e:ixN (xs++[v]).length (-1)=some xs.length:=by
  unfold ixN
  rw[a,AI (by decide),AE (by omega)]
  congr 1
  omega
 unfold atI
 rw[e]
 show (xs++[v])[xs.length]? = some v
 simp
def aBK(b:Ez):Prop:=∀ o i,subscripted b false o i=operate [o,i] (getItem o i)
def IxR(X:Cx)(r:R2):Prop:=
 ∀ (value slice:Ez) (pins:List (Az×Obj)) (s:S9) (σ:St) (H:Hp) (x y:V) (v u:V9) (Q:VK),Inv X pins σ H s->bB x v->bB y u->r x y H Q->
  subscripted slice false v u=operate [v,u] (getItem v u)->wpAny (model X.prog X.w) X.A (subscriptTail value slice v u) (EP X pins σ Q) X.xe s
def MtR(X:Cx)(id:String)(r:V->List V->Hp->VK->Prop):Prop:=
 ∀ (pins:List (Az×Obj)) (s:S9) (σ:St) (H:Hp) (x:V) (xs:List V) (v:V9) (us:List V9) (Q:VK),Inv X pins σ H s->bB x v->aZ xs us->r x xs H Q->
  wpAny (model X.prog X.w) X.A (call (.builtin id) (v::us)) (EP X pins σ Q) X.xe s
section
variable{X:Cx}{a b:Ez}{ta tb:TE}{pos:Pos}
theorem IxR.or{r c:R2}(h:IxR X r)(h':IxR X c):IxR X (fun x y H Q=>r x y H Q\/c x y H Q):=by
 intro value a pins s σ H x y v u Q I d b q e
 rcases q with q|q
 · exact h value a pins s σ H x y v u Q I d b q e
 · exact h' value a pins s σ H x y v u Q I d b q e
theorem aI1{r:R2}(f:IxR X r)(ha:PE X a ta)(g:PE X b tb)(j:aBK b):PE X (.Subscript a b pos) (tOp r ta tb):=by
 intro pins s σ H Q I h
 exact Subscript_ (aGW ha g I h fun v u i x y H2 c e d q=>f a b pins i σ H2 x y v u Q c e d q (j _ _))
def aMM(K:Frag):R2:=fun x y H Q=>∃ p xs i v,x=.ref p/\y=.int i/\SqL K H p xs/\atI xs i=some v/\Q v H
def aMN(K:Frag):R2:=fun x y H Q=>∃ p xs i v,x=.ref p/\y=.int i/\SqT K H p xs/\atI xs i=some v/\Q v H
def aMO:R2:=fun x y H Q=>∃ z i c,x=.str z/\y=.int i/\z.length<=sizeLine/\atI z.cps.toList i=some c/\Q (.str ⟨#[c]⟩) H
theorem aBL:IxR X (aMM X.K):=by
 intro value c pins s σ H x y v u Q I C A h l
 obtain ⟨p,xs,i,z,rfl,rfl,D,m,q⟩:=h
 cases C
 obtain ⟨t,rfl⟩:=A
 obtain ⟨b,r,e,E⟩:=I.list D
 obtain ⟨j,h1,h2,F,B,n⟩:=uY m
 obtain ⟨w,k,d⟩:=r.get h2
 have o:=r.length
 have G:=pP
 have a:EP X pins σ Q w s:=⟨z,H,I,d,q⟩
 by_cases g:0<=i
 .have f:i.toNat=j:=by
   rw[seqIndex_of g n] at h1
   exact BT h1
  exact item_listR e.isList g (by omega) (by rw[f];simpa using k) a l
 .have f:(i+(b.toArray.size:Int)).toNat=j:=by
   rw[seqIndex_neg (by omega) B] at h1
   rw[A2,<-o]
   exact BT h1
  exact subscriptTail_builtinR (x:=w) e.isList.typeIs slot_list_getitem.lookup
   (wpAny_getItem_list_neg (Q:=fun r s'=>r=w/\EP X pins σ Q r s') e.isList (by omega) (by rw[A2]<;>omega) (by omega) (by rw[f];simpa using k) ⟨rfl,a⟩) l
theorem aES:IxR X (aMN X.K):=by
 intro value a pins s σ H x y v u Q I n l h o
 obtain ⟨p,xs,i,z,rfl,rfl,m,f,q⟩:=h
 cases n
 obtain ⟨t,rfl⟩:=l
 obtain ⟨e,r,d,C⟩:=I.tuple m
 obtain ⟨j,h1,h2,D,E,A⟩:=uY f
 obtain ⟨w,g,b⟩:=r.get h2
 have k:=r.length
 have B:=pP
 have c:EP X pins σ Q w s:=⟨z,H,I,b,q⟩
 exact subscriptTail_builtinR (x:=w) d.typeIs slot_tuple_getitem.lookup
  (getItem_tuple (j:=j) (Q:=fun r s'=>r=w/\EP X pins σ Q r s') d (by omega) (by omega) (by rw[A2,<-k];exact h1) (by simpa using g) ⟨rfl,c⟩) o
theorem aET:IxR X aMO:=by
 intro value a pins s σ H x y v u Q I k f h l
 obtain ⟨z,i,c,rfl,rfl,m,b,q⟩:=h
 obtain ⟨t,rfl⟩:=k
 obtain ⟨n,rfl⟩:=f
 obtain ⟨j,h1,h2,o,g,d⟩:=uY b
 have e:z.cps.toList.length=z.length:=by simp[Str.length]
 rw[e] at h1 g d
 have p:=pP
 exact tail_any (typeIs_str s z t) slot_str_getitem.lookup (getItem_str (c:=c) (by
  have e1:decide (i < -(2 ^ 63:Int))=false:=BB (by omega)
  have e2:decide (i>=2 ^ 63)=false:=BB (by omega)
  rw[e1,e2,Bool.or_false]) (by rw[h1];simpa using h2) ⟨.str ⟨#[c]⟩,H,I.tok _,⟨_,rfl⟩,q⟩) l
def rIx(K:Frag):R2:=fun x y H Q=>aMM K x y H Q\/aMN K x y H Q\/aMO x y H Q
theorem aMP:IxR X (rIx X.K):=aBL.or (aES.or aET)
theorem aC1(a:List V9)(n j:Nat)(u:V9):Obj.mapSeq (·.setIfInBounds j u) {cls:=.type "list",data:=.seq a.toArray n}={cls:=.type "list",data:=.seq (a.set j u).toArray n}:=by
 simp[Obj.mapSeq]
theorem Inv.lst{pins:List (Az×Obj)}{σ:St}{H:Hp}{s:S9}{p:Az}{xs:List V}(I:Inv X pins σ H s)(h:H p=some (.lst xs)) :
  ∃ (its:List V9) (n:Nat),aZ xs its/\s.heap.get? p=some {cls:=.type "list",data:=.seq its.toArray n}/\xs.length<=sizeLine:=by
 obtain ⟨z,its,n,r,e⟩:=I.hok p _ h
 exact ⟨its,n,r,e,z⟩
theorem Inv.lstUpd{pins:List (Az×Obj)}{σ:St}{H:Hp}{s:S9}{p:Az}{xs ys:List V}{a its':List V9}{n c:Nat}{f:Obj->Obj}(I:Inv X pins σ H s)(h:H p=some (.lst xs))
  (d:s.heap.get? p=some {cls:=.type "list",data:=.seq a.toArray n}) (hf:f {cls:=.type "list",data:=.seq a.toArray n}={cls:=.type "list",data:=.seq its'.toArray c}) (r:aZ ys its') (hz:ys.length<=sizeLine) (t:Nat) :
  Inv X pins σ (upd H p (.lst ys)) {s with heap:=s.heap.update p f,toks:=t}:=by
 have e:(s.heap.update p f).get? p=some {cls:=.type "list",data:=.seq its'.toArray c}:=by
  rw[CQ f d (by rw[hf]<;>rfl),hf]
 refine I.write (x:=p) (e:=p) (by rw[h];trivial) (.inl rfl) (fun b u g q=>(DB _ _ (BG g)).trans q) ⟨_,e⟩ ?_
 exact ⟨hz,its',c,r,e⟩
def aI2:V->V->V->Hp->(Hp->Prop)->Prop:=fun o i v H Q=>∃ p xs k j,o=.ref p/\i=.int k/\H p=some (.lst xs)/\ixN xs.length k=some j/\Q (upd H p (.lst (xs.set j v)))
theorem aG5:aGS X aI2:=by
 intro pins s σ H o i v B C u Q I y w A h
 obtain ⟨p,xs,k,j,rfl,rfl,l,x,q⟩:=h
 cases y
 obtain ⟨t,rfl⟩:=w
 obtain ⟨a,n,r,d,z⟩:=I.lst l
 obtain ⟨h1,h2,g,m⟩:=uX x
 have c:=r.length
 have D:=pP
 have e:Inv X pins σ (upd H p (.lst (xs.set j v))) {s with heap:=s.heap.update p (Obj.mapSeq (·.setIfInBounds j u))}:=
  I.lstUpd l d (aC1 a n j u) (r.set A j) (by rw[B0];exact z) s.toks
 by_cases f:0<=k
 .have b:k.toNat=j:=by
   rw[seqIndex_of f m] at h1
   exact BT h1
  exact PySem.W.ki_setAt d f (by omega) (by rw[A2,<-c];exact m) (by rw[b];exact ⟨_,e,q⟩)
 .have b:(k+(a.toArray.size:Int)).toNat=j:=by
   rw[seqIndex_neg (by omega) g] at h1
   rw[A2,<-c]
   exact BT h1
  exact PySem.W.ki_setBack d (by omega) (by rw[A2,<-c];exact g) (by omega) (by rw[b];exact ⟨_,e,q⟩)
theorem x9(lo hi:O6 Int)(n:Nat):(sliceBounds lo hi none n).1=((HT.sIx n 0 lo:Nat):Int)/\(sliceBounds lo hi none n).2.1=((HT.sIx n n hi:Nat):Int)/\(sliceBounds lo hi none n).2.2=1:=by
 refine ⟨?_,?_,rfl⟩
 .cases lo with
  | none=>simp[sliceBounds,HT.sIx]
  | some i=>
   simp only[sliceBounds,HT.sIx,GQ,show (1:Int) > 0 by decide,BP]
   by_cases h:i < 0
   · simp only [h, BP] <;> omega
   · simp only [h, CD] <;> omega
 .cases hi with
  | none=>simp[sliceBounds,HT.sIx]
  | some i=>
   simp only[sliceBounds,HT.sIx,GQ,show (1:Int) > 0 by decide,BP]
   by_cases h:i < 0
   · simp only [h, BP] <;> omega
   · simp only [h, CD] <;> omega
theorem xA(a:List V9)(lo hi:O6 Int):slicePick a.toArray lo hi none=((a.drop (HT.sIx a.length 0 lo)).take (HT.sIx a.length a.length hi - HT.sIx a.length 0 lo)).toArray:=by
 obtain ⟨h1,h2,b⟩:=x9 lo hi a.toArray.size
 unfold slicePick
 rw[h1,h2,b]
 simp only[sliceRange_one,pick_run,A2]<;>rfl
def aPT(K:Frag):V->O6 Int->O6 Int->Hp->VK->Prop:=fun x lo hi H Q=>∃ a xs,x=.ref a/\SqL K H a xs/\∀ p,H p=none->Q (.ref p) (upd H p (.lst (pV xs lo hi)))
theorem aJ1:SlR X (aPT X.K):=by
 intro pins s σ H x v p m lo hi t Q I j l g i h
 obtain ⟨a,xs,rfl,k,q⟩:=h
 cases j
 obtain ⟨e,r,d,f⟩:=I.list k
 have c:=r.length
 refine ⟨"list",_,slot_list_getitem.lookup,d.isList.typeIs,?_⟩
 refine wpAny_getItem_list_slice d.isList l g i .none (by simp) ?_ (by rw[A2]<;>omega)
 rw[xA,<-c]
 refine ⟨.ref s.heap.objs.size,_,I.laid (t':=s.toks) (o:=.lst (pV xs lo hi)) (fun b n q=>AB _ q) (AM _) ?_,rfl,q _ (I.hok.fresh (AM _))⟩
 exact ⟨BE (sA xs lo hi) f,_,0,(r.drop (HT.sIx xs.length 0 lo)).take (HT.sIx xs.length xs.length hi - HT.sIx xs.length 0 lo),AV _ rfl⟩
theorem fK:i9 X (.type "tuple") (fun xs H Q=>∃ p ys,xs=[.ref p]/\((SqL X.K H p ys/\∀ l,H l=none->Q (.ref l) (upd H l (.tup ys)))\/(SqT X.K H p ys/\Q (.ref p) H))):=by
 intro pins s σ H xs us Q I r h
 obtain ⟨p,ys,rfl,h⟩:=h
 obtain ⟨u,rfl,n⟩:=mX r
 cases n
 rcases h with ⟨f,q⟩|⟨f,q⟩
 .obtain ⟨a,c,d,g⟩:=I.list f
  have i:=c.length
  refine call_tuple_list d.isList (fun h' k=>?_) (by simp only[A2]<;>omega)
  have j:Inv X pins σ H {s with heap:=h'}:=I.kept (t':=s.toks) k
  have m:Inv X pins σ (upd H h'.objs.size (.tup ys)) {s with heap:=h'.push {cls:=.type "tuple",data:=.seq a.toArray}}:=
   j.laid (t':=s.toks) (fun b o e=>AB _ e) (AM _) (show b9 X.prog X.w _ _ _ (.tup ys) from ⟨g,a,c,j0.new _ _⟩)
  exact ⟨.ref h'.objs.size,_,m,rfl,q _ (j.hok.fresh (AM _))⟩
 .obtain ⟨a,c,d,g⟩:=I.tuple f
  exact call_tuple_same d ⟨.ref p,H,I,rfl,q⟩
def tyV(K:Frag)(T:String)(x:V)(H:Hp):Prop:=match x with
 | .str _=>T="str"
 | .int _=>T="int"
 | .ref p=>(T="list"/\∃ xs,SqL K H p xs)\/(T="tuple"/\∃ o,K.lookup p=some o/\o.cls=.type "tuple"/\o.dict=none) \/
  (T="dict"/\((∃ kvs,H p=some (.dK kvs))\/∃ kvs,H p=some (.dT kvs)))\/(T="set"/\∃ S n,H p=some (.set S n))
 | _=>False
theorem aMQ{pins:List (Az×Obj)}{σ:St}{H:Hp}{s:S9}{T:String}{x:V}{v:V9}(I:Inv X pins σ H s)(r:bB x v)(ty:tyV X.K T x H) :
  s.TypeIs v T/\∀ a,v=.ref a->∃ ob,s.heap.get? a=some ob/\ob.dict=none:=by
 cases x with
 | str z=>
  obtain ⟨t,rfl⟩:=r
  cases (show T="str" from ty)
  exact ⟨typeIs_str s z t,fun _ e=>nomatch e⟩
 | int i=>
  obtain ⟨t,rfl⟩:=r
  cases (show T="int" from ty)
  exact ⟨typeIs_int s i t,fun _ e=>nomatch e⟩
 | ref p=>
  cases r
  rcases ty with ⟨rfl,xs,k⟩|⟨rfl,o,b,h,f⟩|⟨rfl,b⟩|⟨rfl,S,n,b⟩
  .obtain ⟨j,_,g,_⟩:=I.list k
   refine ⟨g.isList.typeIs,fun a e=>?_⟩
   cases e
   obtain ⟨o,n,e,c,f,_⟩:=g
   exact ⟨o,e,f⟩
  .refine ⟨⟨o,I.kIn p o b,h⟩,fun a e=>?_⟩
   cases e
   exact ⟨o,I.kIn _ o b,f⟩
  .have z:∃ o,s.heap.get? p=some o/\o.ExactDict:=by
    rcases b with ⟨d,b⟩|⟨d,b⟩
    .obtain ⟨_,_,_,_,o,_,_,e,ex,_⟩:=I.hok p _ b
     exact ⟨o,e,ex⟩
    .obtain ⟨_,_,_,_,o,_,_,e,ex,_⟩:=I.hok p _ b
     exact ⟨o,e,ex⟩
   obtain ⟨o,e,ex⟩:=z
   refine ⟨⟨o,e,ex.1⟩,fun a e2=>?_⟩
   cases e2
   exact ⟨o,e,ex.2.1⟩
  .obtain ⟨o,_,_,_,e,ex,_⟩:=I.hok p _ b
   refine ⟨⟨o,e,ex.1⟩,fun a e2=>?_⟩
   cases e2
   exact ⟨o,e,ex.2.1⟩
 | _=>exact False.elim ty
def tBM(K:Frag)(T:String)(r:V->List V->Hp->VK->Prop)(to:TE)(t:TA):TE:=fun σ H Q=>to σ H fun x H1=>tyV K T x H1/\t σ H1 fun xs H2=>r x xs H2 Q
variable{o e:Ez}{es:List Ez}{to:TE}{t:TA}{name:Str}{apos cpos:Pos}{T id:String}{r:V->List V->Hp->VK->Prop}
theorem iP(l:PlainAttrs T)(slot:Slot T name id)(b:typeOf (.builtin id)=pure (.type "method_descriptor"))(hm:MtR X id r)(p:PE X o to)(ha:PA X (e::es) t)
  (a:attributeBase o name X.env (eval o X.env)=eval o X.env:=by rfl)
  (hfew:((backTo cpos (starEach (e::es) X.env)).all (fun x=>!x.1) && (backToKw cpos (keywordEach [] X.env)).all (fun x=>x.1.isSome)
   && decide ((e::es).length+([]:List Keyword).length+(if ([]:List Keyword).isEmpty then 0 else 1) < 30))=true:=by rfl)
  (hline:(apos.endLine == cpos.line)=true:=by rfl) (hs:starEach (e::es) X.env=(false,eval e X.env)::starEach es X.env:=by rfl) (hplain:(backTo cpos (starEach es X.env)).any (·.1)=false:=by rfl) :
  PE X (.Call (.Attribute o name apos) (e::es) [] cpos) (tBM X.K T r to t):=by
 intro pins s σ H Q I h
 refine wpAny_Call_method_late a hfew hline rfl (thn (p pins s σ H _ I h) fun v s1 c=>?_)
 obtain ⟨x,H1,g,d,j,i⟩:=c
 obtain ⟨h1,h2⟩:=aMQ g d j
 refine ⟨T,id,l,slot,b,h1,h2,?_⟩
 have f:=ha cpos pins s1 σ H1 _ g i
 rw[hs] at f ⊢
 refine Calls.callWith_builtin (by show (false || (backTo cpos (starEach es X.env)).any (·.1))=false;rw[hplain]<;>rfl) (Calls.evalArgs_plain ?_)
 exact thn f fun us k ⟨vs,H2,m,n,q⟩=>hm pins k σ H2 x vs v us Q m d n q
end
def MtM(X:Cx)(id:String)(r:V->List V->Hp->VK->Prop):Prop:=
 ∀ (pins:List (Az×Obj)) (s:S9) (σ:St) (H:Hp) (x:V) (xs:List V) (v:V9) (us:List V9) (Q:VK),Inv X pins σ H s->bB x v->aZ xs us->r x xs H Q->
  wpAny (model X.prog X.w) X.A (call (.builtin id) (v::us)) (EP X pins σ Q) X.xe s
theorem aZ.one:∀ {x:V} {us:List V9},aZ [x] us->∃ u,us=[u]/\bB x u
 | _,_,.cons r .nil=>⟨_,rfl,r⟩
theorem aZ.reverse{xs:List V}{us:List V9}(h:aZ xs us):aZ xs.reverse us.reverse:=by
 induction h with
 | nil=>exact .nil
 | cons r t ih=>rw[List.reverse_cons,List.reverse_cons];exact aZ.append ih (.cons r .nil)
section
variable{X:Cx}{pins:List (Az×Obj)}{σ:St}{H:Hp}{s:S9}{l b:Az}{xs ys zs:List V}
theorem Inv.lset{a its':List V9}{n:Nat}{f:Array V9->Array V9}{t':Nat}(I:Inv X pins σ H s)(c:H l=some (.lst xs))
  (e:s.heap.get? l=some {cls:=.type "list",data:=.seq a.toArray n}) (hf:f a.toArray=its'.toArray) (hv:aZ ys its') (hz:ys.length<=sizeLine) :
  Inv X pins σ (upd H l (.lst ys)) {s with heap:=s.heap.update l (Obj.mapSeq f),toks:=t'}:=by
 have q:=PySem.IsL.update e f
 rw[hf] at q
 refine I.write (x:=l) (e:=l) (by rw[c];exact trivial) (.inl rfl) (fun g u d b=>(DB s.heap (Obj.mapSeq f) (BG d)).trans b) ⟨_,q⟩ ?_
 exact ⟨hz,its',_,hv,q⟩
theorem Inv.lnew{a:List V9}{t':Nat}(I:Inv X pins σ H s)(c:aZ ys a)(b:ys.length<=sizeLine) :
  Inv X pins σ (upd H s.heap.objs.size (.lst ys)) {s with heap:=s.heap.push {cls:=.type "list",data:=.seq a.toArray},toks:=t'}:=
 I.laid (fun _ _ q=>AB _ q) (AM _) ⟨b,a,0,c,AV _ rfl⟩
theorem Inv.fresh(I:Inv X pins σ H s):H s.heap.objs.size=none:=I.hok.fresh (AM _)
theorem Inv.lstM(I:Inv X pins σ H s)(a:H l=some (.lst xs)):xs.length<=sizeLine/\∃ (its:List V9) (n:Nat),aZ xs its/\xs.length=its.length/\s.heap.get? l=some {cls:=.type "list",data:=.seq its.toArray n}:=by
 obtain ⟨z,its,n,r,e⟩:=I.hok l _ a
 exact ⟨z,its,n,r,r.length,e⟩
end
section
variable{X:Cx}
def uZ:V->List V->Hp->VK->Prop:=fun x vs H Q=>∃ l xs y,x=.ref l/\vs=[y]/\H l=some (.lst xs)/\xs.length < sizeLine/\Q .non (upd H l (.lst (xs++[y])))
theorem iA:MtM X "list.append" uZ:=by
 intro pins s σ H x vs v us Q I d c h
 obtain ⟨l,xs,y,rfl,rfl,b,i,q⟩:=h
 cases d
 obtain ⟨u,rfl,f⟩:=c.one
 obtain ⟨z,a,n,r,g,e⟩:=I.lstM b
 refine GG F.slot_list_append ⟨_,e,rfl⟩ F.entry_list_append (F.args_list_append_2 _ _) (PySem.list_append l a.toArray n u (by rw[A2];omega)) ⟨e,?_⟩
 refine ⟨.non,_,I.lset (its':=a++[u]) b e (by simp) (r.append (.cons f .nil)) ?_,rfl,q⟩
 rw[AU,E3]
 omega
theorem aJ2{α:Type}(xs:List α)(k:Nat):(List.replicate k xs).flatten.length=k * xs.length:=by
 induction k with
 | zero=>simp
 | succ k ih=>rw[CN,C6,AU,ih,Nat.succ_mul,Nat.add_comm]
end
end L2
namespace Att
open PySem PySem.W PySem.Calls PyProof.Rows
theorem tK{P:Params}{h:Hz}:∀ (ns:List Int) (vs:List V9),WellAll P h vs (ns.map WData.int)->IntsAre vs ns:=by
 intro ns
 induction ns with
 | nil=>
  intro vs w
  rw[BJ] at w
  cases w
  exact .nil
 | cons n ns ih=>
  intro vs w
  rw[AJ] at w
  cases w with
  | cons a b=>
   cases a
   exact .cons _ _ (ih _ b)
theorem aEU{l:OpenLaw}{n:Nat}(hn:l.most=some n){P:Params}{h:Hz}{args:List WData}{b:List V9}
  (c:l.row.toRowW.claim.pre args=true) (j:WellAll P h b args) :
  ∃ a vs ns,b=[Value.ref a]/\args=[WData.list (ns.map WData.int)]/\h.get? a=some {cls:=.type "list",data:=.seq vs.toArray}/\IntsAre vs ns/\ns.length<=n:=by
 have i:WShape.hasAll [] args [.list .int]=true:=(pre_splitW c).1
 have k:l.pre.holds [] {args:=args}=true:=(pre_splitW c).2
 obtain ⟨d,r,rfl,h1,h2⟩:=hasAllW_cons i
 obtain rfl:=hasAllW_nil h2
 obtain ⟨xs,rfl,o⟩:=hasW_list h1
 obtain ⟨ns,rfl⟩:=items_int o
 have e:ns.length<=n:=by
  unfold OpenLaw.pre at k
  have g:(WTm.not (.lt (.lit (.int (n:Int))) (.len (.arg 0)))).holds [] {args:=[.list (ns.map .int)]}=true:=by
   have g:=(holds_andW k).1
   rw[hn] at g
   exact g
  have f:=condW_of g (w_not (w_lt w_lit (w_len_list (w_arg rfl))))
  rw[AD] at f
  refine Nat.le_of_not_lt fun q=>?_
  have m:(n:Int) < ((ns.length:Nat):Int):=by omega
  first
   | (rw[BM m] at f;exact absurd f (by decide))
   | (simp at f;omega)
 cases j with
 | cons w1 w2=>
  cases w2
  cases w1 with
  | list ho hall=>exact ⟨_,_,ns,rfl,rfl,ho,tK ns _ hall,e⟩
theorem aEV(l:OpenLaw)(args:List WData):l.row.toRowW.claim.post args (.bool true) args=true:=
 postW_of (r:=l.row.toRowW) (X:=(true == true))
  (show WShape.has [] (.bool true) .bool=true by first|rfl|decide|simp[WShape.has,WShape.arms,WShape.armsAll])
  (show (WTm.eq .res (.lit (.bool true))).value [] {args:=args,res:=some (.bool true),after:=args}=some (.bool (true == true)) from w_eq_bool (w_res rfl) w_lit) rfl
theorem attach_call{l:OpenLaw}{n:Nat}{q:P9}{b:List Str}{t:(Str->O6 V9)->Hz->Prop}{u:W9->Hz->Prop}{d:DefRec}
  (hn:l.most=some n) (i:d.params.defaults=[])
  (call:∀ (w:W9) (s₀ s₁:S9) (mg mb:Str->O6 V9) (fa:Az) (o:Obj) (pm cd doc:V9) (a:Az) (vs:List V9) (ns:List Int),
   Ground q b [] t w s₀ mg mb s₁.heap->u w s₁.heap->
   s₁.heap.get? fa=some o->o.data=.func (docDef d.name d.params d.body d.scope pm cd doc)->s₁.heap.CodeRec cd d.name->mg d.name=some (.ref fa)->
   s₁.heap.get? a=some {cls:=.type "list",data:=.seq vs.toArray}->IntsAre vs ns->ns.length<=n->s₁.gens = #[]->
   codeAny (model l.prog w) callerA (.call (.ref fa) ⟨[.ref a],[]⟩) (fun r s'=>r=.ok (.ret (.bool true))/\OldK s₁.heap s'.heap/\s'.os=s₁.os/\AllBare s'.gens) s₁) :
  WalkO q b t u l.row.toRowW d [] (fun f vs=>PySem.call f vs):=by
 intro w s₀ s₁ mg mb G Y fa o pm cd doc C kV A y j v m D args p I h s z k x
 obtain rfl:C=.none:=Dflts.none v i
 obtain rfl:kV=.none:=Dflts.noKw v
 obtain ⟨a,vs,ns,rfl,rfl,g,c,e⟩:=aEU hn h k
 refine enter_call (DM (call w s₀ s₁ mg mb fa o pm cd doc a vs ns G Y A (fd_plain y) j m g c e D) fun r s' B=>?_)
 obtain ⟨rfl,h2,E,F⟩:=B
 exact ⟨.inl ⟨.bool true,.bool true,[],rfl,fun _=>rfl,.bool true,aEV l _,fun _=>⟨List.Pairwise.nil,fun _ H=>(nomatch H)⟩⟩,h2,E,F⟩
section
variable{prog:P9}{w:W9}{A:U9}{E:V9->S9->Prop}{s:S9}{K:Frag}
noncomputable def aQW(h:Hz)(L d:Az):List (Az×Obj):=(List.range h.objs.size).filterMap fun a=>if a=L\/a=d then none else (h.get? a).map fun o=>(a,o)
end
end Att
namespace L2
open PySem PySem.Spec PyProof.Rows
theorem wH:∀ {vs:List V9} {ns:List Int},IntsAre vs ns->aZ (ns.map V.int) vs
 | _,_,.nil=>.nil
 | _,_,.cons n t h=>.cons ⟨t,rfl⟩ (wH h)
abbrev KOf{K:Frag}{h:Hz}(_:K.In h):Frag:=K
noncomputable def aM(s:Stmt)(j:Nat):Stmt:=match s with
 | .ClassDef _ _ _ body _ _ _ _ _ _ _=>body.getD j (.Pass ⟨0,0,0,0⟩)
 | _=>.Pass ⟨0,0,0,0⟩
noncomputable def cZ(s:Stmt):Arguments:=match s with
 | .FunctionDef _ a _ _ _ _ _ _ _ _=>a
 | _=>{posonlyargs:=[],args:=[],vararg:=none,kwonlyargs:=[],kw_defaults:=[],kwarg:=none,defaults:=[]}
noncomputable def bY(s:Stmt):List Stmt:=match s with
 | .FunctionDef _ _ b _ _ _ _ _ _ _=>b
 | _=>[]
noncomputable def aE(s:Stmt):Scope:=match s with
 | .FunctionDef _ _ _ _ _ _ sc _ _ _=>sc
 | _=>{kind:=.function,names:=[],isGenerator:=false,isCoroutine:=false}
abbrev CX0:CXT:=fun _ _ _ _ _ _=>False
abbrev E0:XK:=fun _ _ _=>False
theorem xQ{X:Cx}:h8 CX0 X E0:=fun _ _ _ _ _ _ _ h=>h.elim
structure Fun(K:Frag)(x qual:Str)(st:Stmt)(f:Az)(fd:FuncData):Prop where
 ex:∃ (oc:V9) (od:Option Az) (kV doc pm:V9) (an:Option Az) (cdv ct:V9) (osl:Array (Option V9)),
  fd=PySem.W.fnOf x qual (cZ st) (bY st) (aE st) .none kV doc pm an cdv ct/\K.lookup f=some ⟨oc,od,.func fd,osl⟩/\PySem.W.codeIn K cdv qual=true
 kp:PySem.W.keepIn K (.ref f)=true
section
variable{P:P9}{w:W9}{K:Frag}{mg:Str->O6 V9}{base:Hz}
theorem Fun.ok{x qual:Str}{st:Stmt}{f:Az}{fd:FuncData}{N ps:List Str}{k:Nat}{sp:Sp}(F:Fun K x qual st f fd)(S:FnScope N ps (aE st))(len:∀ vs H Q E,sp vs H Q E->vs.length=ps.length)
  (a:∀ (cdv:V9) (A:U9) (outer:List Env) (s:S9) (H:Hp) (vs:List V) (Q:VK) (E:XK),Room k (A.deeper (envOfC qual (aE st) s.heap.objs.size f cdv))->sp vs H Q E->
   ∃ t,PSs (eW CX0 P w K mg base N qual (aE st) f cdv A outer s H E).nox (bY st) t/\t {nx:=fun _ H'=>Q .non H',rt:=Q} (start N vs) H):FnOk P w K mg base CX0 (k+1) f fd ps sp:=by
 obtain ⟨i,od,kV,doc,pm,j,cdv,ct,e,rfl,d,b⟩:=F.ex
 refine aI0 d b S len fun A outer s H vs Q E g c=>?_
 obtain ⟨t,h,q⟩:=a cdv A outer s H vs Q E g c
 exact ⟨t,h.nox,q⟩
theorem Fun.binds{x qual:Str}{st:Stmt}{f:Az}{fd:FuncData}{ps:List Str}(F:Fun K x qual st f fd)
  (h:∀ (kV doc pm:V9) (an:O6 Az) (cdv ct:V9) (us:List V9),us.length=ps.length->bindArgs (PySem.W.fnOf x qual (cZ st) (bY st) (aE st) .none kV doc pm an cdv ct) ⟨us,[]⟩=pure (ps.zip us)):cV K fd ps []:=by
 obtain ⟨d,od,kV,doc,pm,an,cdv,ct,b,rfl,c,a⟩:=F.ex
 exact .all (h kV doc pm an cdv ct)
theorem i6{x qual:Str}{st:Stmt}{f:Az}{e:V9}{od d:O6 Az}{b:Array (O6 V9)}{kV doc pm a ct:V9}(l:K.lookup f=some ⟨e,od,.func (PySem.W.fnOf x qual (cZ st) (bY st) (aE st) .none kV doc pm d a ct),b⟩)
 (c:PySem.W.codeIn K a qual=true) (k:PySem.W.keepIn K (.ref f)=true):Fun K x qual st f (PySem.W.fnOf x qual (cZ st) (bY st) (aE st) .none kV doc pm d a ct):=⟨⟨e,od,kV,doc,pm,d,a,ct,b,rfl,l,c⟩,k⟩
end
section
variable{X:Cx}
theorem pv(i:Nat){x:Str}{pos:Pos}(a:X.N[i]? = some x:=by rfl)(hv:Vis X.env.scope x:=by first|exact Or.inl rfl|exact Or.inr (Or.inl rfl)|exact Or.inr (Or.inr rfl))(hd:(x == ("__debug__":Str))=false:=by decide)
 (hcd:(x == ("__classdict__":Str))=false:=by decide):PE X (.Name x pos) (hX i):=aL1 a hv hd hcd
end
theorem yA{A B:Prop}(h:B):if false=true then A else B:=by
 rw[AI CI]
 exact h
theorem yB{A B:Prop}(h:A):if true=true then A else B:=by
 rw[AE rfl]
 exact h
def aJ(H H':Hp):Prop:=∀ b o,H b=some o->H' b=some o
theorem aJ.trans{H H1 H2:Hp}(a:aJ H H1)(b:aJ H1 H2):aJ H H2:=fun c o h=>b c o (a c o h)
theorem aJ.free{H H':Hp}(e:aJ H H'){l:Az}(h:H' l=Option.none):H l=Option.none:=by
 cases q:H l with
 | none=>rfl
 | some o=>
  rw[e l o q] at h
  cases h
theorem aJ.seq{K:Frag}{H H':Hp}{a:Az}{xs:List V}(e:aJ H H')(h:SqL K H a xs):SqL K H' a xs:=by
 rcases h with (h|⟨o,h⟩)|h
 · exact .inl (.inl (e _ _ h))
 · exact .inl (.inr ⟨o, e _ _ h⟩)
 · exact .inr h
theorem aC2{env:Env}:∀ (names:List (Str×NameKind)) (acc:List (Str×Az)),(∀ x∈names,x.2=.free->∃ c,env.cells.lookup x.1=some c)->
  (∀ x c,acc.lookup x=some c->env.cells.lookup x=some c)->
  ∃ cl,(forIn names acc fun x r=>(if (x.2 == NameKind.free)=true then (do let a <-cellOf env x.1;pure (ForInStep.yield ((x.1,a)::r))) else pure (ForInStep.yield r)):Sem (List (Str×Az)))=pure cl /\
   (∀ x c,cl.lookup x=some c->env.cells.lookup x=some c)/\(∀ x∈names,x.2=.free->∃ c,cl.lookup x.1=some c)/\∀ x c,acc.lookup x=some c->∃ c',cl.lookup x=some c':=by
 intro names
 induction names with
 | nil=>intro acc _ h;exact ⟨acc,rfl,h,fun x o=>absurd o (by simp),fun x c e=>⟨c,e⟩⟩
 | cons x r ih=>
  intro acc l h
  obtain ⟨n,k⟩:=x
  by_cases j:k=.free
  .subst j
   obtain ⟨c,i⟩:=l (n,.free) AX rfl
   have i:env.cells.lookup n=some c:=i
   obtain ⟨cl,e1,e2,m,g⟩:=ih ((n,c)::acc) (fun y f=>l y (AN _ f)) (fun y d e=>by
    rw[A8] at e
    cases q:y == n with
    | true=>rw[q] at e;cases e;have:=EM q;subst this;exact i
    | false=>rw[q] at e;exact h y d e)
   refine ⟨cl,?_,e2,fun y f b=>?_,fun y d e=>?_⟩
   .rw[CY]
    simp only[C9,BP]
    unfold cellOf
    simp only[i,pure_bind]
    exact e1
   .rcases AG.mp f with z|z
    .subst z
     exact g n c (by rw[A8];simp)
    .exact m y z b
   .by_cases q:y=n
    .subst q;exact g y c (by rw[A8];simp)
    .exact g y d (by rw[A8,CO q];exact e)
  .obtain ⟨cl,e1,e2,m,g⟩:=ih acc (fun y f=>l y (AN _ f)) h
   refine ⟨cl,?_,e2,fun y f b=>?_,g⟩
   .rw[CY]
    have:(k == NameKind.free)=false:=by simpa using j
    simp only[this,BI,CD,pure_bind]
    exact e1
   .rcases AG.mp f with z|z
    .subst z;exact absurd b j
    .exact m y z b
theorem tL{env:Env}{scope:Scope}(b:∀ x∈scope.names,x.2=.free->∃ c,env.cells.lookup x.1=some c) :
  ∃ cl,closureFor scope env=pure cl/\(∀ x c,cl.lookup x=some c->env.cells.lookup x=some c)/\∀ x∈scope.names,x.2=.free->∃ c,cl.lookup x.1=some c:=by
 obtain ⟨cl,e1,e2,a,_⟩:=aC2 scope.names [] b (fun x c e=>by simp at e)
 refine ⟨cl,?_,e2,a⟩
 unfold closureFor
 first
  | exact e1
  | (rw[<-e1];rfl)
  | (simp only[bind_pure];exact e1)
theorem f8{env:Env}:∀ {names:List (Str×NameKind)} {x:Str} {k:NameKind},
  (names.map fun (n,k)=>if (k == NameKind.free && env.scope.kind == .function && env.kindOf n == some .cell) then (n,NameKind.cell) else (n,k)).lookup x=some k->
  k=.cell\/k=.free->(∀ y∈names,y.2≠.cell)->(x,NameKind.free)∈names
 | [],_,_,h,_,_=>by simp at h
 | (n,k0)::r,x,k,h,hk,hc=>by
  have ih:=@f8 env r x k
  rw[AJ] at h
  dsimp only at h
  by_cases b:x=n
  .subst b
   by_cases a:(k0 == NameKind.free && env.scope.kind == .function && env.kindOf x == some .cell)=true
   .have:k0=.free:=by
     simp only[A3] at a
     exact EM a.1.1
    subst this
    exact AX
   .rw[AI a,A8] at h
    simp only[C9] at h
    cases h
    rcases hk with rfl|rfl
    .exact absurd rfl (hc _ AX)
    .exact AX
  .have c:(x == n)=false:=CO b
   refine AN _ (ih ?_ hk fun y d=>hc y (AN _ d))
   split at h
   .rw[A8,c] at h;exact h
   .rw[A8,c] at h;exact h
noncomputable def eX(X:Cx)(N:List Str)(scope:Scope)(cl:List (Str×Az))(C:Az)(s:S9)(H:Hp)(fp:List Az):Cx where
 prog:=X.prog
 w:=X.w
 K:=X.K
 mg:=X.mg
 base:=X.base
 A:=X.A
 N:=N
 s₀:=s
 H₀:=H
 env:=compEnvC scope cl C X.env
 outer:=X.stack
 stack:=X.stack
 ex:=fp
 calm:=X.calm
 fn:=fun _=>false
 pn:=[]
 xe:=fun _ _=>False
inductive Caps(X:Cx)(scope:Scope):List Str->List (Option Nat)->Prop
 | nil:Caps X scope [] []
 | own {x:Str} {N:List Str} {js:List (Option Nat)} (t:Caps X scope N js):Caps X scope (x::N) (none::js)
 | cap {x:Str} {j:Nat} {N:List Str} {js:List (Option Nat)} (h1:X.N[j]? = some x) (h2:X.env.kindOf x=some .cell\/X.env.kindOf x=some .free)
  (h3:(relabel scope X.env).names.lookup x=some .cell\/(relabel scope X.env).names.lookup x=some .free) (t:Caps X scope N js):Caps X scope (x::N) (some j::js)
theorem Caps.len{X:Cx}{scope:Scope}{N:List Str}{js:List (O6 Nat)}(c:Caps X scope N js):js.length=N.length:=by
 induction c with
 | nil=>rfl
 | own _ ih=>simp[ih]
 | cap _ _ _ _ ih=>simp[ih]
theorem Caps.get{X:Cx}{scope:Scope}{N:List Str}{js:List (O6 Nat)}(c:Caps X scope N js):∀ {i j:Nat} {x:Str},js[i]? = some (some j)->N[i]? = some x->
  X.N[j]? = some x/\(X.env.kindOf x=some .cell\/X.env.kindOf x=some .free)/\((relabel scope X.env).names.lookup x=some .cell\/(relabel scope X.env).names.lookup x=some .free):=by
 induction c with
 | nil=>intro i j x h;simp at h
 | own _ ih=>
  intro i j x h1 h2
  cases i with
  | zero=>simp at h1
  | succ i=>exact ih (by simpa using h1) (by simpa using h2)
 | cap a b d _ ih=>
  intro i j x h1 h2
  cases i with
  | zero=>
   simp at h1 h2
   subst h1 h2
   exact ⟨a,b,d⟩
  | succ i=>exact ih (by simpa using h1) (by simpa using h2)
noncomputable def kH(js:List (O6 Nat))(σ:St):St:=js.map fun o=>o.bind fun j=>(σ[j]?).join
def dP(σ σ':St):Prop:=σ'.length=σ.length/\∀ (i:Nat) v,σ[i]? = some (some v)->σ'[i]? = some (some v)
theorem dP.refl(σ:St):dP σ σ:=⟨rfl,fun _ _ h=>h⟩
theorem dP.set{σ:St}{i:Nat}{v:O6 V}(h:σ[i]? = some none):dP σ (σ.set i v):=by
 refine ⟨B0,fun j u e=>?_⟩
 by_cases q:i=j
 · subst q; rw [h] at e; cases e
 · rw [BD q]; exact e
theorem dP.trans{a b c:St}(h:dP a b)(k:dP b c):dP a c:=⟨k.1.trans h.1,fun i v e=>k.2 i v (h.2 i v e)⟩
section
variable{X:Cx}
def PIf(X:Cx)(ifs:List Ez)(t:TT):Prop:=
 ∀ (pins:List (Az×Obj)) (s:S9) (σ:St) (H:Hp) (Q:Bool->Hp->Prop),Inv X pins σ H s->t σ H Q->
  wpAny (model X.prog X.w) X.A (forIn ifs true fun c r=>if r=true then do let ok <-isTrue c X.env (eval c X.env);pure (ForInStep.yield ok) else pure (ForInStep.yield r)) (TP X pins σ Q) X.xe s
def aMR:TT:=fun _ H Q=>Q true H
theorem jQ:PIf X [] aMR:=by
 intro pins s σ H Q I h
 show wpAny _ _ (pure true) _ _ s
 exact AC ⟨H,I,h⟩
theorem aJ3{c:Ez}{t:TT}(h:PT X c t):PIf X [c] t:=by
 intro pins s σ H Q I a
 rw[CY]
 simp only[BP]
 refine AA (AA (thn (h pins s σ H Q I a) fun b s1 q=>AC ?_))
 show wpAny _ _ (pure b) _ _ s1
 exact AC q
end
def u7(X:Cx)(N:List Str)(scope:Scope)(js:List (O6 Nat))(tg elt:Ez)(ifs:List Ez)(σ:St)(x:V)(H:Hp)(R:O6 V->Hp->Prop):Prop:=
 ∀ (cl:List (Str×Az)) (C:Az) (s:S9) (H0:Hp) (fp:List Az),∃ (g:TG) (tt:TT) (te:TE),PG (eX X N scope cl C s H0 fp) tg g/\PIf (eX X N scope cl C s H0 fp) ifs tt/\PE (eX X N scope cl C s H0 fp) elt te /\
  ∀ σ0,dP (kH js σ) σ0->g x σ0 H fun σ2 H2=>dP (kH js σ) σ2/\tt σ2 H2 fun b H3=>if b=true then te σ2 H3 fun y H4=>R (some y) H4 else R none H3
def compK(X:Cx)(N:List Str)(scope:Scope)(js:List (O6 Nat))(tg elt:Ez)(ifs:List Ez)(σ:St)(Q:VK)(J:It)(H1:Hp):Prop:=∃ (n:Nat) (W:Nat->List V->Hp->Prop),n<=sizeLine/\W 0 [] H1 /\
 ∀ i ys H,W i ys H->ys.length<=i/\((J.stop i H/\∀ p,H p=none->Q (.ref p) (upd H p (.lst ys)))\/(J.go i H/\i < n/\∃ R:O6 V->Hp->Prop,(∀ y H2,R (some y) H2->W (i+1) (ys++[y]) H2)/\(∀ H2,R none H2->W (i+1) ys H2) /\
  ∀ x H',J.yld i H x H'->u7 X N scope js tg elt ifs σ x H' R))
def q0(X:Cx)(N:List Str)(scope:Scope)(js:List (O6 Nat))(tg elt:Ez)(ifs:List Ez)(wi:TI):TE:=fun σ H Q=>wi σ H (compK X N scope js tg elt ifs σ Q)
section
variable{prog:P9}{w:W9}{A:U9}{R:Result->S9->Prop}{s:S9}
theorem yC{i a b:Ez}{g:List Ez}{scope:Scope}{pos:Pos}{it j:V9}{env:Env}(I:Nat->S9->Prop)
  (l:∀ n s,I n s->wpAny (model prog w) A (pyNext it) (fun r s1=>match r with
   | none=>R (.ok .next) s1
   | some v=>wpAny (model prog w) A (letOwnedTupleGo a it v) (fun _ s1'=>wpAny (model prog w) A (assign a env v) (fun _ s2=>
    wpAny (model prog w) A (forIn g true fun c r=>if r=true then do let ok <-isTrue c env (eval c env);pure (ForInStep.yield ok) else pure (ForInStep.yield r)) (fun ok s3=>
     if ok=true then wpAny (model prog w) A (eval i env) (fun x s4=>
      wpAny (model prog w) A (call (.builtin "list.append") [j,x]) (fun _ s5=>∃ m,m < n/\I m s5) (fun _ _=>False) s4) (fun _ _=>False) s3
     else ∃ m,m < n/\I m s3) (fun _ _=>False) s2) (fun _ _=>False) s1') (fun _ _=>False) s1) (fun _ _=>False) s)
  (n:Nat) (h:I n s) :
  codeAny (model prog w) A (.compLoop (.ListComp i [⟨a,b,g,0⟩] scope pos) 0 it j env) R s:=by
 refine codeAny_loop rfl I (fun n s E=>?_) n h
 show wpAny _ A ((compTurn (.ListComp i [⟨a,b,g,0⟩] scope pos) 0 it j env).onRaise (fun x=>do noteFrame x env;theTreesLotGoes x)) _ _ s
 refine wpAny_noted ?_
 rw[compTurn_list]
 have F:∀ {α:Type} {t:Sem α} {Q:α->S9->Prop} {E':V9->S9->Prop} {s:S9},wpAny (model prog w) A t Q (fun _ _=>False) s->wpAny (model prog w) A t Q E' s:=fun h=>BY h (fun _ _ q=>q) fun _ _ f=>f.elim
 refine AA (DV (AA (BY (l n s E) (fun r C e=>?_) fun _ _ h'=>h'.elim)))
 cases r with
 | none=>exact AC e
 | some v=>
  refine AA (BY e (fun _ s1' u=>?_) fun _ _ f=>f.elim)
  refine AA (BY u (fun _ B p=>AA (BY p (fun ok z d=>?_) fun _ _ h'=>h'.elim)) fun _ _ h'=>h'.elim)
  cases ok with
  | false=>exact AC ⟨rfl,d⟩
  | true=>
   exact AA (AA (BY d (fun x D o=>AA (BY o (fun _ y k=>AC (AC ⟨rfl,k⟩)) fun _ _ h'=>h'.elim)) fun _ _ h'=>h'.elim))
end
theorem HOk.track{P:P9}{w:W9}{H:Hp}{h:Hz}{a:Az}{o:HO}(x:HOk P w H h)(hn:H a=none)(new:b9 P w (upd H a o) h a o):HOk P w (upd H a o) h:=fun b u e=>by
 by_cases d:b=a
 .subst d;rw[aQ] at e;cases e;exact new
 .rw[aF d] at e
  exact (x b u e).stay (fun c v _ q=>q) (fun c q=>by rw[aF (bS q hn)];exact q) (fun c xs q=>by rw[aF (bS q hn)];exact q) fun c xs q=>by rw[aF (bS q hn)];exact q
section
variable{X:Cx}{pins:List (Az×Obj)}{σ:St}
structure CompEnd(X:Cx)(pins:List (Az×Obj))(σ:St)(D C:Az)(ys:List V)(H':Hp)(s':S9):Prop where
 inv:Inv X pins σ (upd H' D (.lst ys)) s'
 ns:∃ m,s'.heap.Ns C m
 fp:iX X pins (upd H' D (.lst ys)) C
 nD:H' D=none
theorem CompEnd.gone{D C:Az}{ys:List V}{H H':Hp}{s':S9}{c:Hz}{a:St}(I:Inv X pins a H s')(d:iX X pins H C)(g:Heap.SameBut C s'.heap c):Inv X pins a H {s' with heap:=c}:=
 I.turned (it:=C) (t':=s'.toks) (fun b o f e=>(g.2 b f).trans e) d.1 d.2.1 d.2.2.2.1 d.2.2.2.2.1 d.2.2.2.2.2
theorem yD{prog:P9}{w:W9}{A:U9}{E:V9->S9->Prop}{s:S9}{l:Az}{items:Array V9}{a:Nat}{x:V9}{Q:V9->S9->Prop}(e:s.heap.get? l=some {cls:=.type "list",dict:=none,data:=.seq items a})(hz:items.size<=sizeLine)
  (hQ:∀ nn' h',h'.get? l=some {cls:=.type "list",dict:=none,data:=.seq (items.push x) nn'}->Heap.SameBut l s.heap h'->Q .none {s with heap:=h'}) :
  wpAny (model prog w) A (call (.builtin "list.append") [.ref l,x]) Q E s:=by
 refine GG F.slot_list_append ⟨_,e,rfl⟩ F.entry_list_append (F.args_list_append_2 _ _) (PySem.list_append l items a x (by omega)) ⟨e,?_⟩
 exact hQ _ _ (CQ _ e rfl) (DS ..)
theorem tM{N:List Str}{js:List (O6 Nat)}{scope:Scope}{tg ap ag:Ez}{ao:List Ez}{cl:List (Str×Az)}{pos:Pos}{it:Az}{M:List Az}{tn:Nat->Hz->Prop}{J:It}{B:S9}{H2:Hp}{E:V9->S9->Prop}
  {RR:V9->Az->Result->S9->Prop} {Q:VK} (hc:X.calm=true) (af:Caps X scope N js) (U:scope.kind=.function) (s:∀ y∈scope.names,y.2≠.cell)
  (f:∀ x c,cl.lookup x=some c->X.env.cells.lookup x=some c) (ah:∀ x∈scope.names,x.2=.free->∃ c,cl.lookup x.1=some c)
  (I:Inv X pins σ H2 B) (T:Turn X.prog X.w X.K tg J M it tn) (bh:tn 0 B.heap) (Z:∀ b∈M,iX X pins H2 b) (n:Nat) (W:Nat->List V->Hp->Prop) (hn:n<=sizeLine) (w0:W 0 [] H2)
  (az:∀ i ys H,W i ys H->ys.length<=i/\((J.stop i H/\∀ p,H p=none->Q (.ref p) (upd H p (.lst ys)))\/(J.go i H/\i < n/\∃ R:O6 V->Hp->Prop,(∀ y H2,R (some y) H2->W (i+1) (ys++[y]) H2)/\(∀ H2,R none H2->W (i+1) ys H2) /\
   ∀ x H',J.yld i H x H'->u7 X N scope js tg ap ao σ x H' R)))
  (bp:∀ D C ys H' s',CompEnd X pins σ D C ys H' s'->Q (.ref D) (upd H' D (.lst ys))->RR (.ref D) C (.ok .next) s') :
  wpAny (model X.prog X.w) X.A (newList []) (fun acc s3=>wpAny (model X.prog X.w) X.A (newFunctionEnv scope X.env.globals cl [] X.env.qual none .none (some X.env)) (fun cenv s4=>
   codeAny (model X.prog X.w) X.A (.compStart (.ListComp ap [⟨tg,ag,ao,0⟩] scope pos) 0 (.ref it) acc {cenv with scope:=relabel scope X.env}) (RR acc cenv.locals) s4) E s3) E B:=by
 refine B2 (wpAny_newFunctionEnv s (by intro y hy;simp at hy) (fun G F h=>?_) U)
 dsimp only at F h ⊢
 generalize aq:B.heap.push {cls:=.type "list",dict:=none,data:=.seq ([]:List V9).toArray}=Hh at F h ⊢
 have hC:Hh.objs.size=B.heap.objs.size+1:=by rw[<-aq,BV]
 have aa:B.heap.objs.size≠Hh.objs.size:=by rw[hC];exact A4 (DL _)
 have O:B.heap.objs.size<=Hh.objs.size:=by rw[hC];exact D4 _
 have S:∀ b o,B.heap.get? b=some o->G.get? b=some o:=fun b o e=>h.extBut b o (by rw[hC];exact A4 (F7 (AK e))) (AB _ (aq▸AB _ e))
 have ak:G.get? B.heap.objs.size=some {cls:=.type "list",dict:=none,data:=.seq ([]:List V9).toArray}:=h.extBut _ _ aa (AB _ (aq▸AV _ rfl))
 have av:tn 0 G:=T.keep _ _ _ bh fun b a o e=>S b o e
 have ae:∀ b∈M,b < B.heap.objs.size:=fun b a=>by
  obtain ⟨o,e,_⟩:=T.obj _ _ bh b a
  exact AK e
 have aw:∀ b∈frs X.stack,b < B.heap.objs.size:=fun b a=>by
  rcases AG.mp (I.stkSub b a) with z|z
  .rw[z];exact I.lt
  .refine Nat.lt_of_not_le fun br=>I.nofs br z
 have bg:∀ b∈M,b≠Hh.objs.size:=fun b a z=>BO _ (AW (ae b a) (z▸O))
 generalize hD:B.heap.objs.size=D at *
 generalize ci:Hh.objs.size=C at *
 let X':=eX X N scope cl C B H2 M
 have bn:X'.Ok:=by
  refine ⟨I.ok.mod,U,I.ok.glob,I.ok.blt,by show B.heap.objs.size<=C;rw[hD];exact O,fun x y c e1 e2=>I.ok.inj x y c (f x c e1) (f y c e2),fun x hx=>?_,fun x c z=>absurd (show false=true from z) CI,I.ok.hd,I.ok.frames,.inl rfl,fun b a=>?_,
   I.bs,BE I.ok.bsz I.sz,fun b o e a=>?_,fun b a z=>?_,I.stack,I.stkFree⟩
  .have hm:(x,NameKind.free)∈scope.names:=by
    rcases hx with z|z
    .exact f8 (env:=X.env) z (.inl rfl) s
    .exact f8 (env:=X.env) z (.inr rfl) s
   exact ah _ hm rfl
  .exact ⟨bg b a,fun x c e=>(Z b a).2.2.2.2.1 x c (f x c e)⟩
  .rcases (Z b a).2.2.2.1 with z|z
   .exact I.ok.noex b o e z
   .exact absurd (AK (I.ok.bs b o e).1) (Nat.not_lt.mpr z)
  .rcases AG.mp (I.stkSub b z) with q|q
   .exact (Z b a).2.1 q
   .exact (Z b a).2.2.1 q
 have be:(kH js σ).length=N.length:=by unfold kH;rw[AD,af.len]
 have freeC:H2 C=none:=I.hok.fresh (by rw[hD];exact O)
 have P:H2 D=none:=I.hok.fresh (by rw[hD];exact AM _)
 have DnotFs:D∉frs X.stack:=fun z=>BO _ (aw D z)
 have DnotFp:D∉M:=fun z=>BO _ (ae D z)
 have I0:∀ tk,Inv X' [] (kH js σ) H2 {B with heap:=G,toks:=tk}:=fun tk=>by
  refine ⟨bn,rfl,I.bare,Un.kept S,⟨_,F,fun i x v e1 e2 e3=>?_⟩,fun x c e=>?_,freeC,fun x c e=>I.freeC x c (f x c e),fun p L=>absurd L (by show ¬ p∈([]++[]:List (Az×Obj));simp),I.hok.kept S,be⟩
  .unfold kH at e2
   rw[A0] at e2
   cases q:js[i]? with
   | none=>rw[q] at e2;cases e2
   | some o=>
    rw[q] at e2
    cases o with
    | none=>cases e2
    | some j=>
     have ac:(σ[j]?).join=some v:=BT e2
     obtain ⟨c1,c2,c3⟩:=af.get q e1
     have e4:σ[j]? = some (some v):=by
      cases z:σ[j]? with
      | none=>rw[z] at ac;cases ac
      | some u=>rw[z] at ac;have:u=some v:=ac;rw[this]
     obtain ⟨m,hm,hl⟩:=I.loc
     have cf:Vis X.env.scope x:=by
      rcases c2 with z|z
      · exact .inr (.inl z)
      · exact .inr (.inr z)
     obtain ⟨u,r,l⟩:=hl j x v c1 e4 cf
     refine ⟨u,r,.inr ⟨c3,?_⟩⟩
     have lc:∃ c,X.env.cells.lookup x=some c/\B.heap.IsCell c (some u):=by
      rcases l with ⟨k,_⟩|⟨_,z⟩
      · rcases c2 with z | z <;> (rw [k] at z; cases z)
      · exact z
     obtain ⟨c,e5,o,ho,hd⟩:=lc
     have bu:(x,NameKind.free)∈scope.names:=by
      rcases c3 with z|z
      · exact f8 (env := X.env) z (.inl rfl) s
      · exact f8 (env := X.env) z (.inr rfl) s
     obtain ⟨c',e6⟩:=ah _ bu rfl
     have e7:=f _ _ e6
     rw[e5] at e7;cases e7
     exact ⟨c,e6,o,S c o ho,hd⟩
  .obtain ⟨v,o,ho,hd⟩:=I.cell x c (f x c e)
   exact ⟨v,o,S c o ho,hd⟩
 have ai:∀ {H':Hp} {pl:List (Az×Obj)},(∀ b∈M,H' b=none)->(∀ b∈M,∀ p∈pl,p.1≠b)->∀ b∈M,iX X' pl H' b:=fun {H' pl} hn hpl b a=>by
  refine ⟨hn b a,bg b a,bn.exfs b a,.inl a,fun x c e=>(Z b a).2.2.2.2.1 x c (f x c e),fun p L=>hpl b a p ?_⟩
  have bz:p∈[]++pl:=L
  simpa using bz
 let LI:Nat->S9->Prop:=fun k s'=>∃ i ys its nn σ' H',k=n+1 - i/\i<=n/\W i ys H'/\tn i s'.heap/\(∀ b∈M,H' b=none)/\aZ ys its/\dP (kH js σ) σ' /\
  Inv X' [(D,{cls:=.type "list",dict:=none,data:=.seq its.toArray nn})] σ' H' s'
 have aj:∀ tk,codeAny (model X.prog X.w) X.A (.compLoop (.ListComp ap [⟨tg,ag,ao,0⟩] scope pos) 0 (.ref it) (.ref D) (compEnvC scope cl C X.env)) (RR (.ref D) C) {B with heap:=G,toks:=tk}:=by
  intro tk
  refine yC LI ?_ (n+1) ⟨0,[],[],0,kH js σ,H2,rfl,CM _,w0,av,fun b a=>(Z b a).1,.nil,dP.refl _,?_⟩
  .rintro k s3 ⟨i,ys,its,nn,σ3,H3,rfl,hin,w3,st3,fr3,r3,ks,I3⟩
   obtain ⟨bc,tr⟩:=az i ys H3 w3
   have ba:=ai (pl:=[(D,{cls:=.type "list",dict:=none,data:=.seq its.toArray nn})]) fr3 (fun b a p L z=>by
    rw[A1.mp L] at z
    exact DnotFp ((show D=b from z)▸a))
   rcases tr with ⟨stop,q⟩|⟨go,ay,RW,bo,bx,step⟩
   .refine thn (T.done X' rfl rfl rfl hc i _ s3 σ3 H3 _ I3 ba st3 stop) fun r s4 t=>?_
    obtain ⟨hr,I4⟩:=t
    subst hr
    show RR (.ref D) C (.ok .next) s4
    obtain ⟨pe,pn,p1,p2,p3⟩:=I4.pin (D,{cls:=.type "list",dict:=none,data:=.seq its.toArray nn}) (by show _∈[]++_;simp)
    refine bp D C ys H3 s4 ?_ (q D pn)
    have bi:HOk X.prog X.w (upd H3 D (.lst ys)) s4.heap:=HOk.track I4.hok pn ⟨BE bc (BE hin hn),its,nn,r3,pe⟩
    have am:∀ b u,H2 b=some u->b≠D:=fun b u e z=>by rw[z,P] at e;cases e
    have cb:Un (frs X.stack) M H2 (upd H3 D (.lst ys)) B.heap s4.heap:=by
     have ub:=I4.base
     refine ⟨ub.keep,ub.slot,fun b o e al hx=>?_,ub.there,fun b xs e=>?_,fun b o u e=>?_,fun b ps e=>?_⟩
     .rw[aF (fun z=>by have:=AK e;rw[hD,z] at this;exact BO _ this)]
      exact ub.free b o e al hx
     .rw[aF (am b _ e)];exact ub.tups b xs e
     .rw[aF (am b _ e)];exact ub.frzs b o u e
     .rw[aF (am b _ e)];exact ub.tbls b ps e
    refine ⟨I.call' I4.os cb bi I4.bare fun b a=>⟨(Z b a).2.2.2.1,(Z b a).2.1,(Z b a).2.2.2.2.1,(Z b a).2.2.2.2.2⟩,?_,?_,pn⟩
    .obtain ⟨m,hm,_⟩:=I4.loc
     exact ⟨m,hm⟩
    .refine I.fpOk (by rw[hD];exact O) ?_
     rw[aF (BG aa)]
     exact I4.free
   .refine thn (T.item X' rfl rfl rfl hc i _ s3 σ3 H3 _ I3 ba st3 go) fun r s4 t=>?_
    obtain ⟨u,hr,h4⟩:=t
    subst hr
    show wpAny _ _ (letOwnedTupleGo tg (.ref it) u) _ _ s4
    refine thn h4 fun _ s5 t=>?_
    obtain ⟨x,H5,I5,r5,y5,au,bq⟩:=t
    obtain ⟨g,tt,te,hg,ht,he,hq⟩:=step x H5 y5 cl C B H2 M
    have bf:=ai (pl:=[(D,{cls:=.type "list",dict:=none,data:=.seq its.toArray nn})]) bq (fun b a p L z=>by
     rw[A1.mp L] at z
     exact DnotFp ((show D=b from z)▸a))
    have bv:=I5.pinned bf (T.obj _ _ au)
    refine thn (hg _ s5 σ3 H5 x u _ bv r5 (hq σ3 ks)) fun _ s6 t=>?_
    obtain ⟨Y,H6,I6,ax,q6⟩:=t
    refine thn (ht _ s6 Y H6 _ I6 q6) fun b s7 t=>?_
    obtain ⟨H7,I7,q7⟩:=t
    have bd:∀ {s':S9} {H':Hp} {σ':St},Inv X' ([(D,{cls:=.type "list",dict:=none,data:=.seq its.toArray nn})]++pO M s5.heap) σ' H' s'->tn (i+1) s'.heap/\(∀ b∈M,H' b=none):=fun {s' H' σ'} I'=>by
     refine ⟨T.keep _ _ _ au fun b a o e=>(I'.pin (b,o) (BZ _ (BZ _ (lV a e)))).1,fun b a=>?_⟩
     obtain ⟨o,e,d⟩:=T.obj _ _ au b a
     exact (I'.pin (b,o) (BZ _ (BZ _ (lV a e)))).2.1
    cases b with
    | false=>
     rw[AI CI] at q7 ⊢
     obtain ⟨a1,a2⟩:=bd I7
     exact ⟨n+1 - (i+1),by omega,i+1,ys,its,nn,Y,H7,rfl,ay,bx _ q7,a1,a2,r3,ax,I7.unpinned⟩
    | true=>
     rw[AE rfl] at q7 ⊢
     refine thn (he _ s7 Y H7 _ I7 q7) fun yv s8 t=>?_
     obtain ⟨y,H8,I8,r8,q8⟩:=t
     obtain ⟨a1,a2⟩:=bd I8
     have I8u:=I8.unpinned
     obtain ⟨pe,pn,p1,p2,p3⟩:=I8u.pin (D,{cls:=.type "list",dict:=none,data:=.seq its.toArray nn}) (by show _∈[]++_;simp)
     have cg:s8.heap.IsList D its.toArray:=PySem.IsL.isList pe
     have bw:its.length<=sizeLine:=by rw[<-r3.length];exact BE bc (BE hin hn)
     refine yD pe (by simpa using bw) fun al h9 e9 bj=>?_
     have I9:Inv X' [] Y H8 {s8 with heap:=h9,toks:=s8.toks}:=by
      refine Inv.turned (pins:=[]) (it:=D) (t':=s8.toks) (I8u.pins_of (pins':=[]) fun p L=>absurd L (by simp)) (fun b o a e=>(bj.2 b a).trans e) pn aa (.inr (by show B.heap.objs.size<=D;rw[hD];exact AM _)) (fun x c e z=>?_) fun p L=>absurd L (by show ¬ p∈([]++[]:List (Az×Obj));simp)
      obtain ⟨v,o,ho,hd⟩:=I.cell x c (f x c e)
      have:=AK ho
      rw[hD,z] at this
      exact BO _ this
     refine ⟨n+1 - (i+1),by omega,i+1,ys++[y],its++[yv],al,Y,H8,rfl,ay,bo _ _ q8,?_,a2,aZ.append r3 (.cons r8 .nil),ax,?_⟩
     .exact T.keep _ _ _ a1 fun b a o e=>(bj.2 b (fun z=>DnotFp (z▸a))).trans e
     .refine I9.pins_of fun p L=>?_
      obtain rfl:=A1.mp L
      exact ⟨by simpa using e9,pn,p1,p2,by simp⟩
  .refine (I0 tk).pins_of fun p L=>?_
   obtain rfl:=A1.mp L
   exact ⟨ak,P,aa,DnotFs,by simp⟩
 exact codeAny_compStart_list (aj _) (T.self X.A 0 _ _ _ av (aj _))
noncomputable def eE(names:List (Str×NameKind))(outer:Str->O6 NameKind):Bool:=
 names.all (fun y=>y.2 != .cell) && names.all (fun y=>y.2 != .local || names.lookup y.1 == some .local) && names.all (fun y=>y.2 != .free || outer y.1 == some .cell || outer y.1 == some .free)
theorem eE.cell{names:List (Str×NameKind)}{outer:Str->O6 NameKind}(h:eE names outer=true):∀ y∈names,y.2≠.cell:=fun y a=>by
 unfold eE at h
 simp only[A3,CK] at h
 simpa using h.1.1 y a
theorem eE.names{names:List (Str×NameKind)}{outer:Str->O6 NameKind}(h:eE names outer=true):∀ y∈names,y.2=.local->names.lookup y.1=some .local:=fun y a e=>by
 unfold eE at h
 simp only[A3,CK] at h
 have:=h.1.2 y a
 rw[e] at this
 simpa using this
theorem eE.free{names:List (Str×NameKind)}{outer:Str->O6 NameKind}(h:eE names outer=true):∀ y∈names,y.2=.free->outer y.1=some .cell\/outer y.1=some .free:=fun y a e=>by
 unfold eE at h
 simp only[A3,CK] at h
 have:=h.2 y a
 rw[e] at this
 simpa using this
theorem nY{N:List Str}{js:List (O6 Nat)}{scope:Scope}{tg d a:Ez}{c:List Ez}{pos:Pos}{l:TI}(u:X.calm=true)(f:Caps X scope N js)(hok:eE scope.names X.env.kindOf=true)
  (hi:PI X tg a l) (b:scope.kind=.function:=by rfl) (hs:∀ x,foldedSetIterable a X.env x=pure x:=by intro _;rfl) :
  PE X (.ListComp d [⟨tg,a,c,0⟩] scope pos) (q0 X N scope js tg d c l):=by
 intro pins s σ H Q I h
 obtain ⟨cl,e1,e2,E⟩:=tL (env:=X.env) (scope:=scope) fun x z o=>I.ok.has _ (eE.free hok x z o)
 rw[eval_ListComp]
 refine GR (use:=none) rfl hs e1 b (eE.names hok) (thn (hi pins s σ H _ I h) fun v s1 h1=>thn h1 fun r K h2=>?_)
 obtain ⟨L,fp,G,J,H2,rfl,y,T,j,p,n,W,t,B,e⟩:=h2
 refine tM (RR:=fun k C=>compPost (model X.prog X.w) X.A X.xe none (EP X pins σ Q) k C) (Q:=Q) u f b (eE.cell hok) e2 E y T j p n W t B e ?_
 intro D C ys H' s' g q
 obtain ⟨m,F⟩:=g.ns
 exact ⟨m,F,fun h' i=>⟨.ref D,_,CompEnd.gone (D:=D) (ys:=ys) (H':=H') g.inv g.fp i,rfl,q⟩⟩
theorem tN{i:Nat}{x:Str}{N:List Str}{js:List (O6 Nat)}{scope:Scope}{tg f b:Ez}{d:List Ez}{pos pos' g:Pos}{G:TI}(R:X.N.Nodup)(p:X.N[i]? = some x)(hx:Loc X.env.scope x)
  (F:swapsWith (.ListComp f [⟨tg,b,d,0⟩] scope pos) (some (.Name x pos')) g.line X.env=pure true) (hc:X.calm=true) (l:Caps X scope N js) (hok:eE scope.names X.env.kindOf=true)
  (hi:PI X tg b G) (c:scope.kind=.function:=by rfl) (o:X.fn x=true\/X.env.scope.names.lookup x=some .local:=by exact .inl rfl) (hs:∀ x,foldedSetIterable b X.env x=pure x:=by intro _;rfl) :
  PS X (.Assign [.Name x pos'] (.ListComp f [⟨tg,b,d,0⟩] scope pos) g) (kG (q0 X N scope js tg f d G) (i8 i)):=by
 intro pins s σ H D I h
 obtain ⟨cl,e1,e2,Z⟩:=tL (env:=X.env) (scope:=scope) fun x hx o=>I.ok.has _ (eE.free hok x hx o)
 rw[exec_Assign_Name_used _ _ _ _ F]
 refine AA (DV (AA ?_))
 show wpAny _ X.A (do let _ <-comprehension (.ListComp f [⟨tg,b,d,0⟩] scope pos) scope X.env _ (newList []) false (eval b X.env) (some (assign (.Name x pos') X.env))) _ _ s
 refine AA (BY (GR (use:=some (assign (.Name x pos') X.env)) (Q:=fun _ s'=>SP X pins D .next s') rfl hs e1 c (eE.names hok)
  (thn (hi pins s σ H _ I h) fun v s1 h1=>thn h1 fun M s2 h2=>?_)) (fun _ s' hq=>AC (AC hq)) fun _ _ e=>e)
 obtain ⟨it,fp,tn,J,H2,rfl,S,T,B,f2,n,W,P,V,k⟩:=h2
 refine tM (RR:=fun E C=>compPost (model X.prog X.w) X.A X.xe (some (assign (.Name x pos') X.env)) (fun _ s'=>SP X pins D .next s') E C) (Q:=fun v H'=>D.nx (σ.set i (some v)) H') hc l c (eE.cell hok) e2 Z S T B f2 n W P V k ?_
 intro L C ys H' s' j q
 show wpAny _ X.A (assign (.Name x pos') X.env (.ref L)) _ _ s'
 refine wpAny_assign_Name (wB (v:=.ref L) j.inv R p hx rfl (fun U t K=>?_) o)
 obtain ⟨a,y,O⟩:=K
 have r:C≠a:=by
  rcases O with z|z
  · rw [z]; exact j.fp.2.1
  · exact fun Y => j.fp.2.2.2.2.1 x a z Y.symm
 obtain ⟨m,hm⟩:=j.ns
 exact ⟨m,hm.sameBut y r,fun h' u=>⟨_,_,CompEnd.gone (D:=L) (ys:=ys) (H':=H') t j.fp u,q⟩⟩
end
noncomputable def aI3(W:Nat->List V->Hp->Prop)(i:Nat)(ys:List V):O6 V->Hp->Prop
 | some y,H=>W (i+1) (ys++[y]) H
 | none,H=>W (i+1) ys H
theorem aBM{X:Cx}{J:It}{N:List Str}{scope:Scope}{js:List (O6 Nat)}{tg c:Ez}{b:List Ez}{σ:St}{Q:VK}{n:Nat}{H1:Hp}(W:Nat->List V->Hp->Prop)(h:n<=sizeLine)(j:W 0 [] H1)
  (g:∀ i ys H,i<=n->W i ys H->ys.length<=i) (d:∀ i ys H,i < n->W i ys H->J.go i H) (f:∀ ys H,W n ys H->J.stop n H)
  (step:∀ i x ys H H',i < n->W i ys H->J.yld i H x H'->u7 X N scope js tg c b σ x H' (aI3 W i ys))
  (done:∀ ys H,W n ys H->∀ p,H p=none->Q (.ref p) (upd H p (.lst ys))) :
  compK X N scope js tg c b σ Q J H1:=by
 refine ⟨n,fun i ys H=>i<=n/\W i ys H,h,⟨CM _,j⟩,?_⟩
 rintro i ys H ⟨hi,w⟩
 refine ⟨g i ys H hi w,?_⟩
 by_cases a:i < n
 .exact .inr ⟨d i ys H a w,a,aI3 W i ys,fun y H2 q=>⟨a,q⟩,fun H2 q=>⟨a,q⟩,fun x H' y=>step i x ys H H' a w y⟩
 .have e:i=n:=by omega
  subst e
  exact .inl ⟨f ys H w,done ys H w⟩
mutual
inductive DatV(K:Frag)(H:Hp):V->Dz->Prop
 | non:DatV K H .non .none
 | bl (b:Bool):DatV K H (.bl b) (.bool b)
 | int (i:Int):DatV K H (.int i) (.int i)
 | str (x:Str):DatV K H (.str x) (.str x)
 | lst {a:Az} {xs:List V} {ds:List Dz}:SqL K H a xs->DatVs K H xs ds->DatV K H (.ref a) (.list ds)
 | tup {a:Az} {xs:List V} {ds:List Dz}:SqT K H a xs->DatVs K H xs ds->DatV K H (.ref a) (.tuple ds)
 | pl {a:Az} {ns:List Int}:H a=some (.lst (ns.map V.int))->DatV K H (.ref a) (.dict [(.list (ns.map .int),.none)])
inductive DatVs(K:Frag)(H:Hp):List V->List Dz->Prop
 | nil:DatVs K H [] []
 | cons {x:V} {d:Dz} {xs:List V} {ds:List Dz}:DatV K H x d->DatVs K H xs ds->DatVs K H (x::xs) (d::ds)
end
section
variable{X:Cx}{pins:List (Az×Obj)}{σ:St}{H:Hp}{s:S9}
mutual
theorem DatV.reads(I:Inv X pins σ H s):∀ {x:V} {d:Dz} {u:V9},DatV X.K H x d->d.canLay0=true->bB x u->∃ as,Reads s.heap u d as
 | _,_,_,.non,_,r=>by cases r;exact ⟨_,.none⟩
 | _,_,_,.bl b,_,r=>by cases r;exact ⟨_,.bool b⟩
 | _,_,_,.int i,_,r=>by obtain ⟨t,rfl⟩:=r;exact ⟨_,.int i t⟩
 | _,_,_,.str x,_,r=>by obtain ⟨t,rfl⟩:=r;exact ⟨_,.str x t⟩
 | _,_,_,.pl _,y,_=>by cases y
 | _,_,_,.lst h ds,y,r=>by
  cases r
  obtain ⟨a,f,⟨o,e,c,n,d⟩,g⟩:∃ a:List V9,aZ _ a/\s.heap.IsList _ a.toArray/\_:=by
   obtain ⟨a,f,p,g⟩:=I.list h
   exact ⟨a,f,p.isList,g⟩
  obtain ⟨as,q⟩:=DatVs.reads I ds y f
  exact ⟨_,.list e c d (by simpa using q)⟩
 | _,_,_,.tup h ds,y,r=>by
  cases r
  obtain ⟨a,f,p,g⟩:=I.tuple h
  obtain ⟨o,e,c,n,d⟩:=p
  obtain ⟨as,q⟩:=DatVs.reads I ds y f
  exact ⟨_,.tuple e c d (by simpa using q)⟩
theorem DatVs.reads(I:Inv X pins σ H s):∀ {xs:List V} {ds:List Dz} {us:List V9},DatVs X.K H xs ds->PyData.canLayAll0 ds=true->aZ xs us->∃ as,ReadsAll s.heap us ds as
 | _,_,_,.nil,_,r=>by cases r;exact ⟨_,.nil⟩
 | _,_,_,.cons (d:=d0) (ds:=ds0) h t,y,r=>by
  have a:(d0.canLay0 && PyData.canLayAll0 ds0)=true:=y
  rw[A3] at a
  cases r with
  | cons r1 r2=>
   obtain ⟨as,q⟩:=DatV.reads I h a.1 r1
   obtain ⟨bs,b⟩:=DatVs.reads I t a.2 r2
   exact ⟨_,.cons q b⟩
end
theorem lY{d:Dz}(h:SeqAt.shaped d=true):d.canLay0=true:=by
 have h':(d.canLay0 && decide (d.depth<=64))=true:=h
 rw[A3] at h'
 exact h'.1
theorem aMS(c:X.A.units+64 < cLine):OpR X (compareOp .Eq) (fun x y H Q=>∃ d e,DatV X.K H x d/\DatV X.K H y e/\SeqAt.shaped d=true/\SeqAt.shaped e=true/\Q (.bl (PyData.eqv d e)) H):=by
 intro pins s σ H x y u v Q I j i h
 obtain ⟨d,e,k,f,b,a,q⟩:=h
 obtain ⟨m,g⟩:=k.reads I (lY b) j
 obtain ⟨bs,l⟩:=f.reads I (lY a) i
 exact eq_dataH g l b a c ⟨.bl _,H,I,rfl,q⟩
theorem aMT(c:X.A.units+64 < cLine):OpR X (compareOp .NotEq) (fun x y H Q=>∃ d e,DatV X.K H x d/\DatV X.K H y e/\SeqAt.shaped d=true/\SeqAt.shaped e=true/\Q (.bl (!PyData.eqv d e)) H):=by
 intro pins s σ H x y u v Q I j i h
 obtain ⟨d,e,k,f,b,a,q⟩:=h
 obtain ⟨m,g⟩:=k.reads I (lY b) j
 obtain ⟨bs,l⟩:=f.reads I (lY a) i
 exact ne_dataH g l b a c ⟨.bl _,H,I,rfl,q⟩
end
theorem SqL.same{K:Frag}{H H':Hp}{a:Az}{xs:List V}(e:aJ H H')(h:SqL K H a xs):SqL K H' a xs:=aJ.seq e h
theorem SqT.same{K:Frag}{H H':Hp}{a:Az}{xs:List V}(e:aJ H H')(h:SqT K H a xs):SqT K H' a xs:=by
 rcases h with (h|⟨o,h⟩)|h
 · exact .inl (.inl (e _ _ h))
 · exact .inl (.inr ⟨o, e _ _ h⟩)
 · exact .inr h
theorem DatV.same{K:Frag}{H H':Hp}(e:aJ H H'){x:V}{d:Dz}(h:DatV K H x d):DatV K H' x d:=
 DatV.rec (motive_1:=fun x d _=>DatV K H' x d) (motive_2:=fun xs ds _=>DatVs K H' xs ds) .non .bl .int .str (fun h _ q=>.lst (h.same e) q) (fun h _ q=>.tup (h.same e) q) (fun h=>.pl (e _ _ h)) .nil (fun _ _ p q=>.cons p q) h
theorem DatVs.same{K:Frag}{H H':Hp}(e:aJ H H'){xs:List V}{ds:List Dz}(h:DatVs K H xs ds):DatVs K H' xs ds:=
 DatVs.rec (motive_1:=fun x d _=>DatV K H' x d) (motive_2:=fun xs ds _=>DatVs K H' xs ds) .non .bl .int .str (fun h _ q=>.lst (h.same e) q) (fun h _ q=>.tup (h.same e) q) (fun h=>.pl (e _ _ h)) .nil (fun _ _ p q=>.cons p q) h
theorem aJ.upd{H:Hp}{a:Az}{o:HO}(h:H a=none):aJ H (upd H a o):=fun b u e=>by rw[aF (bS e h)];exact e
theorem DatVs.length{K:Frag}{H:Hp}:∀ {xs:List V} {ds:List Dz},DatVs K H xs ds->xs.length=ds.length
 | _,_,.nil=>rfl
 | _,_,.cons _ t=>by simp[DatVs.length t]
theorem DatVs.append{K:Frag}{H:Hp}:∀ {xs ys:List V} {ds es:List Dz},DatVs K H xs ds->DatVs K H ys es->DatVs K H (xs++ys) (ds++es)
 | _,_,_,_,.nil,h=>h
 | _,_,_,_,.cons a t,h=>.cons a (DatVs.append t h)
theorem DatVs.get{K:Frag}{H:Hp}:∀ {xs:List V} {ds:List Dz} {i:Nat} {x:V},DatVs K H xs ds->xs[i]? = some x->∃ d,ds[i]? = some d/\DatV K H x d
 | _,_,_,_,.nil,e=>by simp at e
 | _,_,0,_,.cons a t,e=>by simp at e;subst e;exact ⟨_,by simp,a⟩
 | _,_,i+1,x,.cons a t,e=>by
  obtain ⟨d,h1,h2⟩:=DatVs.get (i:=i) (x:=x) t (by simpa using e)
  exact ⟨d,by simpa using h1,h2⟩
theorem DatVs.get'{K:Frag}{H:Hp}:∀ {xs:List V} {ds:List Dz} {i:Nat} {d:Dz},DatVs K H xs ds->ds[i]? = some d->∃ x,xs[i]? = some x/\DatV K H x d
 | _,_,_,_,.nil,e=>by simp at e
 | _,_,0,_,.cons a t,e=>by simp at e;subst e;exact ⟨_,by simp,a⟩
 | _,_,i+1,x,.cons a t,e=>by
  obtain ⟨d,h1,h2⟩:=DatVs.get' (i:=i) (d:=x) t (by simpa using e)
  exact ⟨d,by simpa using h1,h2⟩
theorem DatVs.drop{K:Frag}{H:Hp}:∀ {xs:List V} {ds:List Dz} (n:Nat),DatVs K H xs ds->DatVs K H (xs.drop n) (ds.drop n)
 | _,_,0,h=>h
 | _,_,_+1,.nil=>.nil
 | _,_,n+1,.cons _ t=>DatVs.drop n t
theorem DatVs.take{K:Frag}{H:Hp}:∀ {xs:List V} {ds:List Dz} (n:Nat),DatVs K H xs ds->DatVs K H (xs.take n) (ds.take n)
 | _,_,0,_=>.nil
 | _,_,_+1,.nil=>.nil
 | _,_,n+1,.cons a t=>.cons a (DatVs.take n t)
def Ite(K:Frag)(a:Az):It:=
 ⟨fun i H=>∃ xs x,SqL K H a xs/\xs[i]? = some x,fun i H x H'=>∃ p v,H p=none/\x=.ref p/\H'=upd H p (.tup [.int i,v])/\∀ xs,SqL K H a xs->xs[i]? = some v,fun i H=>∃ xs,SqL K H a xs/\xs.length<=i⟩
theorem aEW{P:P9}{w:W9}{K:Frag}{es:List Ez}{k1}{tpos:Pos}(a e it:Az)(D:e≠it):Turn P w K (.Tuple es k1 tpos) (Ite K a) [e,it] e (fun i h=>(∃ old,IsEnum h e it i old)/\h.IsListIter it a i) where
 mem:=by simp
 obj:=fun i h st b j=>by
  obtain ⟨⟨old,s1⟩,o,e2,c,d⟩:=st
  rcases AG.mp j with z|z
  .subst z
   exact ⟨_,s1,fun v z=>by
    have z':Data.fields _=Data.cell v:=z
    cases z'⟩
  .obtain rfl:b=it:=by simpa using z
   exact ⟨o,e2,fun v z=>by rw[d] at z;cases z⟩
 keep:=fun i h h' st k=>by
  obtain ⟨⟨old,s1⟩,y⟩:=st
  exact ⟨⟨old,k e (by simp) _ s1⟩,y.at fun o q=>k it (by simp) o q⟩
 item:=by
  intro X V Z T f i pins s σ H E I M st hg
  subst V Z T
  obtain ⟨⟨old,s1⟩,y⟩:=st
  obtain ⟨xs,x,J,R⟩:=hg
  obtain ⟨N,W,p,hz⟩:=I.list J
  obtain ⟨u,hu,ru⟩:=W.get R
  obtain ⟨Q,f1,f2,f3,f4,f5⟩:=M e (by simp)
  obtain ⟨F,L,g2,g3,Y,g5⟩:=M it (by simp)
  refine wpAny_pyNext_enum_item s1 y p.isList (x:=u) (by simpa using hu) D fun h' so si st ac kp=>?_
  refine ⟨_,rfl,FU so fun h2 se sb=>?_⟩
  have B:s.heap.objs.size≠e:=CL (AK s1)
  have U:h2.get? s.heap.objs.size=some {cls:=.type "tuple",data:=.seq #[.int i s.toks,u]}:=(sb.2 _ B).trans st
  have S:H s.heap.objs.size=none:=I.hok.fresh (AM _)
  have g:∀ b o,b≠e->b≠it->s.heap.get? b=some o->h2.get? b=some o:=fun b o h1 O q=>(sb.2 b h1).trans (kp b o h1 O q)
  have A:HOk X.prog X.w H h2:=fun b C q=>by
   refine (I.hok b C q).stay (fun c v f q'=>g c v ?_ ?_ q') (fun _ q=>q) (fun _ _ q=>q) fun _ _ q=>q
   .rcases f with z|z
    .rw[z];exact fun t=>by rw[t,Q] at q;cases q
    .exact fun t=>by rw[t,Q] at z;cases z
   .rcases f with z|z
    .rw[z];exact fun t=>by rw[t,F] at q;cases q
    .exact fun t=>by rw[t,F] at z;cases z
  have G:HOk X.prog X.w (upd H s.heap.objs.size (.tup [.int i,x])) h2:=HOk.track A S ⟨by show 2<=sizeLine;decide,[.int i s.toks,u],.cons ⟨_,rfl⟩ (.cons ru .nil),⟨_,U,⟨rfl,rfl⟩,_,rfl⟩⟩
  have l:∀ b C,H b=some C->b≠s.heap.objs.size:=fun b C q=>bS q S
  have I2:Inv X pins σ (upd H s.heap.objs.size (.tup [.int i,x])) {s with heap:=h2,gens:=s.gens,drawn:=s.drawn,toks:=s.toks+1}:=by
   refine I.step (ch:=[e,it]) (fun b j=>?_) (fun b o _ _ f q _=>g b o (fun z=>f (by simp[z])) (fun z=>f (by simp[z])) q) (fun b o _ _ f q _=>⟨o.slots,g b o (fun z=>f (by simp[z])) (fun z=>f (by simp[z])) q⟩)
    (fun b o _ q n=>by rw[aF (A4 (AK q))];exact n) (fun b o f q=>⟨o,g b o (fun z=>f (by simp[z])) (fun z=>f (by simp[z])) q⟩) (fun b ys q=>by rw[aF (l b _ q)];exact q) (fun b o C q=>by rw[aF (l b _ q)];exact q)
    (fun b ps q=>by rw[aF (l b _ q)];exact q) (fun m hm=>?_) G I.bare
   .rcases AG.mp j with z|z
    .subst z;exact ⟨f3,f1,f4,f5⟩
    .obtain rfl:b=it:=by simpa using z
     exact ⟨g3,L,Y,g5⟩
   .obtain ⟨o,aa,ep,ho,r⟩:=hm
    exact ⟨o,aa,ep,g _ o (BG f1) (BG L) ho,r⟩
  refine ⟨.ref s.heap.objs.size,_,I2,rfl,⟨_,x,S,rfl,rfl,fun ys hy=>by rw[I.list_inj hy J];exact R⟩,⟨⟨u,by simpa using se⟩,si.at fun o q=>(sb.2 it D.symm).trans q⟩,fun b j=>?_⟩
  rcases AG.mp j with z|z
  .subst z;rw[aF (BG B)];exact Q
  .obtain rfl:b=it:=by simpa using z
   obtain ⟨o,q,_⟩:=y
   rw[aF (A4 (AK q))];exact F
 done:=by
  intro X V Z T f i pins s σ H E I M st hg
  subst V Z T
  obtain ⟨⟨old,s1⟩,y⟩:=st
  obtain ⟨xs,J,R⟩:=hg
  obtain ⟨N,W,p,hz⟩:=I.list J
  obtain ⟨F,L,g2,g3,Y,g5⟩:=M it (by simp)
  have hl:=W.length
  exact wpAny_pyNext_enum_end (I.ok.hd f) s1 y p.isList (by simp;omega) fun h' eb=>⟨rfl,I.turned (t':=s.toks) (fun b o j q=>eb b o j q) F L g3 Y g5⟩
 self:=fun _ _ _ _ _ st h=>EU st.1.choose_spec h
def aI4(K:Frag)(ta:TA):TI:=fun σ H R=>ta σ H fun vs H1=>∃ a,vs=[.ref a]/\(∃ xs,SqL K H1 a xs)/\R (Ite K a) H1
theorem aJ4{X:Cx}{es:List Ez}{k1}{tpos:Pos}{a:Ez}{ta:TA}{p pos:Pos}(m:Gl X "enumerate")(hm:X.mg "enumerate"=none)(ha:PA X [a] ta)(y:starEach [a] X.env=[(false,eval a X.env)]:=by rfl) :
  PI X (.Tuple es k1 tpos) (.Call (.Name "enumerate" p) [a] [] pos) (aI4 X.K ta):=by
 intro pins s σ H R I h
 refine Call_ (iZ I m hm FN (B6 (thn (ha pos pins s σ H _ I h) fun us s1 d=>?_) y rfl))
 obtain ⟨vs,H1,c,o,l⟩:=d
 obtain ⟨j,e,⟨xs,w⟩,q⟩:=l
 subst e
 obtain ⟨u,rfl,n⟩:=mX o
 cases n
 obtain ⟨i,B,r,A⟩:=c.list w
 refine call_enumerate_list r.isList fun h' f v x g=>?_
 have t:Inv X pins σ H1 {s1 with heap:=h'}:=c.kept (t':=s1.toks) g
 refine EU f ?_
 refine ⟨s1.heap.objs.size+1,[s1.heap.objs.size+1,s1.heap.objs.size],_,_,H1,rfl,t,aEW j _ _ (CL (DL _)),⟨⟨_,f⟩,v⟩,fun b k=>?_,q⟩
 rcases AG.mp k with z|z
 .subst z
  exact c.fpOk (D4 _) (c.hok.fresh (D4 _))
 .obtain rfl:b=s1.heap.objs.size:=by simpa using z
  exact c.fpOk (AM _) (c.hok.fresh (AM _))
end L2
namespace SX
open PySem PySem.W
section
variable{prog:P9}{w:W9}{A:U9}{E:V9->S9->Prop}{h:Hz}{g:Array GenState}{d:Drawn}{t:Nat}{os:OsState}{K:Frag}
variable{nm q:Str}{C N:Az}{bs bm bmB:List V9}{hdct:Bool}{sn:List Str}{sub:List V9}{ab:Bool}{col:O6 Bool}{dd:O6 Az}{k0 k1 k2 k3 k5:O6 V9}{B newId initId:String}
structure BmOk(B:String)(bm:List V9):Prop where
 hasB:bm.contains (.type B)=true
 hasBase:bm.contains (.type "BaseException")=true
 noAttr:bm.contains (.type "AttributeError")=false
 noName:bm.contains (.type "NameError")=false
theorem aC3(F:ExcBaseFacts B newId initId bmB)(T:BmOk B bm){M:Model}{rest:List V9}{Q:Unit->S9->Prop}(b:h.get? C=some (excClassObj nm q C N bs bm hdct sn sub ab col dd k0 k1 k2 k3 k5 newId))
  (e:Q () ⟨h,g,d,t,os⟩):wpAny M A (checkBuiltinCall newId ⟨.ref C::rest,[]⟩) Q E ⟨h,g,d,t,os⟩:=by
 have a:(Value.ref C::bm).contains (.type B)=true:=by rw[DY,T.hasB,HB]
 have c:=F.noStar
 simp only[checkBuiltinCall,F.newKind,F.newSplit,F.newRow]
 repeat (first|refine C7 b ?_|(refine EI b ?_;rw[a])|refine wpAny_staticBase_exc b ?_|refine wpAny_madeBy_exc b ?_|simp only[bne_self_eq_false,BI,CD]|wp_step)
 exact e
theorem aG6(F:ExcBaseFacts B newId initId bmB)(T:BmOk B bm){R:Result->S9->Prop}{rest:List V9}(i:h.get? C=some (excClassObj nm q C N bs bm hdct sn sub ab col dd k0 k1 k2 k3 k5 newId))
  (j:R (.ok (.ret (.ref (h.objs.size+1)))) ⟨(h.push {cls:=.type "tuple",data:=.seq rest.toArray}).push
   {cls:=.ref C,data:=.fields #[.ref h.objs.size,.none,.none,.none,.bool false,.none]},g,d,t,os⟩) (hrest:rest.length<=sizeLine) :
  codeAny (model prog w) A (.builtin newId ⟨.ref C::rest,[]⟩) R ⟨h,g,d,t,os⟩:=by
 have f:=F.ends
 have e:(Value.ref C::bm).contains (.type B)=true:=by rw[DY,T.hasB,HB]
 have a:(Value.ref C::bm).contains (.type "AttributeError")=false:=by rw[DY,T.noAttr];rfl
 have c:(Value.ref C::bm).contains (.type "NameError")=false:=by rw[DY,T.noName];rfl
 refine codeAny_builtinAt F.entry ?_
 unfold Builtin.«BaseException.__new__»
 refine wpAt_bind ?_
 show wpAt _ _ _ (stack >>= _) _ _ _
 refine wpAt_bind (wpAt_stack fun p b=>wpAt_of_wpAny ?_)
 wp_walk
 refine wpAt_of_wpAny ?_
 rw[F.owner]
 repeat (first|with_reducible refine wpAny_madeHere_exc F.canon i ?_|with_reducible refine C7 i ?_|(with_reducible refine EI i ?_;first|rw[e]|rw[a]|rw[c])|wp_step)
 show R _ _
 rw[BV]
 exact j
theorem yE(F:ExcBaseFacts B newId initId bmB)(T:BmOk B bm)(X:K.In h){rest:List V9}{fI:Az}{Q:Fin->S9->Prop}
  (j:h.get? C=some (excClassObj nm q C N bs bm hdct sn sub ab col dd k0 k1 k2 k3 k5 newId)) (hi:findIn K (.ref C) "__init__"=some (some (.ref fI))) (p:typeIn K (.ref fI)=some (.type "function"))
  (s:∀ h' e,Heap.MadeExcOf h h' e (.ref C) rest->h.objs.size<=e->
   wpAny (model prog w) A (call (.ref fI) (.ref e::rest)) (fun r s'=>r=.none/\Q (.done (.ret (.ref e))) s') E ⟨h',g,d,t,os⟩) (i:rest.length<=sizeLine) :
  wpAny (model prog w) A (Builtin.«type.__call__» ⟨.ref C::rest,[]⟩) Q E ⟨h,g,d,t,os⟩:=by
 repeat (first|with_reducible refine C7 j ?_|with_reducible refine wpAny_madeBy_exc j ?_|wp_step)
 refine codeAny_call_builtin_code (FP _ F.quiet) (aC3 F T j ?_)
 refine aG6 F T j ?_ i
 show wpAny _ _ _ _ _ _
 have k:∀ b o,h.get? b=some o->((h.push {cls:=.type "tuple",data:=.seq rest.toArray}).push {cls:=.ref C,data:=.fields #[.ref h.objs.size,.none,.none,.none,.bool false,.none]}).get? b=some o:=fun b o e=>AB _ (AB _ e)
 have f:=k _ _ j
 have a:=X.keeps k
 have c:((h.push {cls:=.type "tuple",data:=.seq rest.toArray}).push
   {cls:=.ref C,data:=.fields #[.ref h.objs.size,.none,.none,.none,.bool false,.none]}).get? (h.objs.size+1)=some
   {cls:=.ref C,data:=.fields #[.ref h.objs.size,.none,.none,.none,.bool false,.none]}:=by heap_get
 have l:(Value.ref C::bm).contains (.ref C)=true:=by simp
 unfold isInstance
 repeat (first|with_reducible refine C7 c ?_|(with_reducible refine EI f ?_;rw[l])|wp_step)
 show wpAny _ _ (typeLookup (.ref C) _) _ _ _
 refine (looks_findIn (M:=model prog w) a hi).at ?_
 refine B9 (AA ?_)
 refine (bind_fn (M:=model prog w) a _ p).at ?_
 refine AA (BY (s _ (h.objs.size+1) ⟨k,E6 (D4 _),h.objs.size,c,E6 (AM _),?_⟩ (D4 _)) (fun r s' n=>?_) fun _ _ x=>x)
 .exact AB _ (Heap.get?_push_at rfl rfl)
 .obtain ⟨rfl,m⟩:=n
  wp_walk
  exact m
theorem aG7(F:ExcBaseFacts B newId initId bmB)(T:BmOk B bm)(X:K.In h){rest:List V9}{fI:Az}{Q:V9->S9->Prop}
  (b:h.get? C=some (excClassObj nm q C N bs bm hdct sn sub ab col dd k0 k1 k2 k3 k5 newId)) (hi:findIn K (.ref C) "__init__"=some (some (.ref fI))) (f:typeIn K (.ref fI)=some (.type "function"))
  (i:∀ h' e,Heap.MadeExcOf h h' e (.ref C) rest->h.objs.size<=e->
   wpAny (model prog w) (A.under (.builtin "type.__call__" ⟨.ref C::rest,[]⟩)) (call (.ref fI) (.ref e::rest)) (fun r s'=>r=.none/\Q (.ref e) s') E ⟨h',g,d,t,os⟩) (a:rest.length<=sizeLine) :
  wpAny (model prog w) A (call (.ref C) rest) Q E ⟨h,g,d,t,os⟩:=by
 have l:=tc_lookup
 have m:=tc_bind (.ref C)
 have k:(⟨h,g,d,t,os⟩:S9).TypeIs (.ref C) "type":=⟨_,b,rfl⟩
 refine DW (codeAny_of_tree ?_)
 show wpAny _ _ (callAny (.ref C) _) _ _ _
 repeat (any_goals (first|assumption|with_reducible refine C7 b ?_|wp_step))
 refine ⟨rfl,?_⟩
 refine codeAny_call_builtin_at (FP _ (by decide +kernel)) entry_typeCall (wpAny_check_type_call_sub b (yE F T X b hi f (fun h' e j c=>?_) a))
 exact i h' e j c
theorem tO{M:Model}{env:Env}{s:S9}{x:Sem V9}{Q:Flow->S9->Prop}(T:BmOk B bm)(i:A.handled=none)
  (hx:wpAny M A x (fun v s₁=>∃ e od vs,v=.ref e/\s₁.heap.get? C=some (excClassObj nm q C N bs bm hdct sn sub ab col dd k0 k1 k2 k3 k5 newId) /\
   s₁.heap.get? e=some {cls:=.ref C,dict:=od,data:=.fields vs}/\vs[1]? = some .none/\E (.ref e) s₁) E s) :
  wpAny M A (raiseStmt env (some x) none) Q E s:=by
 have b:(Value.ref C::bm).contains (.type "BaseException")=true:=by rw[DY,T.hasBase,HB]
 unfold raiseStmt
 refine AA (BY hx (fun v s₁ a=>?_) fun _ _ x=>x)
 obtain ⟨e,od,vs,rfl,f,c,h1,h⟩:=a
 obtain ⟨j,g,d,tk,os⟩:=s₁
 repeat (first|with_reducible refine C7 c ?_|with_reducible refine C7 f ?_|(with_reducible refine EI f ?_;rw[b])|(with_reducible refine BN c rfl h1 ?_)|wp_step)
 exact wpAny_raiseNew_none i h
end
end SX
namespace SX
open PySem PySem.W PySem.Builtin PySem.Builtin.ObjectAttr
abbrev iB:List V9:=[.type "ValueError",.type "Exception",.type "BaseException",.type "object"]
structure ExcC(K:Frag)(W C:Az):Prop where
 lk:∃ nm q N bs sn sub ab col dd k0 k1 k2 k3 k5,K.lookup C=some (excClassObj nm q C N bs (.ref W::iB) true sn sub ab col dd k0 k1 k2 k3 k5 "ValueError.__new__")
 sa:findIn K (.ref C) "__setattr__"=some (some (.builtin "object.__setattr__"))
 ga:findIn K (.ref C) "__getattribute__"=some (some (.builtin "BaseException.__getattribute__"))
 gh:findIn K (.ref C) "__getattr__"=some none
 cl:findIn K (.ref C) "__class__"=some (some (.builtin "object.__class__"))
 clg:specialIn K (.builtin "object.__class__") "__get__"=some (some (.builtin "getset_descriptor.__get__"))
 clt:takesIn K (.builtin "object.__class__")=some true
 kp:keepIn K (.ref C)=true
theorem aC4(W:Az):BmOk "ValueError" (.ref W::iB):=⟨by simp[iB],by simp[iB],by simp[iB],by simp[iB]⟩
theorem passes(self:V9)(C W:Az):refuseLoop self "__setattr__" (.ref C::.ref W::iB)=pure ():=by
 rw[refuseLoop_ref,refuseLoop_ref]
 exact PySem.F.store_ValueError.passes self
theorem ExcC.cls{K:Frag}{W C:Az}(c:ExcC K W C):∃ cd:ClassData,clsIn K C=some cd/\cd.hasDict=true/\cd.mro=.ref C::.ref W::iB:=by
 obtain ⟨nm,q,N,bs,sn,sub,ab,col,dd,k0,k1,k2,k3,k5,e⟩:=c.lk
 exact ⟨_,by unfold clsIn;rw[e],rfl,rfl⟩
theorem ExcC.mro{K:Frag}{W C:Az}(c:ExcC K W C)(b:V9):mroIn K C b=some ((Value.ref C::.ref W::iB).contains b):=by
 obtain ⟨cd,h1,_,a⟩:=c.cls
 unfold mroIn
 rw[h1,DA,a]
 rfl
section
variable{prog:P9}{w:W9}{A:U9}{E:V9->S9->Prop}{s:S9}{K:Frag}{W C x:Az}{name:Str}{v:V9}{vs:Array V9}
theorem aBN{od:O6 Az}{o:O6 Obj}{tk:Tok}{R:Result->S9->Prop}(X:K.In s.heap)(c:ExcC K W C)(g:findIn K (.ref C) name=some none)(I:InstAt s.heap x ⟨.ref C,od,.fields vs,#[]⟩ C o)
  (h:wpAny (model prog w) A.in1 (storeInOwnDict (.ref x) (.ref C) (.str name tk) name v false)
   (fun fin s'=>match fin with | .done f=>R (.ok f) s' | .again c'=>c'.quiet=true/\codeAny (model prog w) A c' R s') (fun e s'=>R (.error e) s') s) :
  codeAny (model prog w) A (.call (.builtin "object.__setattr__") ⟨[.ref x,.str name tk,v],[]⟩) R s:=by
 have b:=PySem.F.store_object
 obtain ⟨cd,d,hdct,a⟩:=c.cls
 have sub:Looks (model prog w) s.heap (isInstance (.ref x) (.type "object")) true:=I.type.andThen (looks_mroIn X (by rw[c.mro];simp[iB]))
 refine E9 b.slot.plain b.entry (@check_slot (model prog w) _ _ s "object.__setattr__" "object" "__setattr__" (.ref x) [.str name tk,v] [] _ b.kind b.split sub (b.args (.ref x) (.str name tk) v) ?_)
 have i:Looks (model prog w) s.heap (mroOf (.ref C)) cd.mro:=(looks_clsIn X d).andThen .now
 rw[osa_eq,refuse_eq]
 refine AA (AA (I.type.here (AA (i.here ?_))))
 rw[a,passes]
 exact AC (AA (I.type.here (AA ((looks_findIn X g).here (AA (AC h))))))
theorem aEX{Q:Unit->S9->Prop}(X:K.In s.heap)(c:ExcC K W C)(B:findIn K (.ref C) name=some none)(hx:s.heap.get? x=some ⟨.ref C,none,.fields vs,#[]⟩)
  (h:∀ h' tk',h'.get? x=some ⟨.ref C,some s.heap.objs.size,.fields vs,#[]⟩->h'.Ns1 s.heap.objs.size (fun y=>if y=name then some v else none)->(∀ b o,b≠x->s.heap.get? b=some o->h'.get? b=some o)->Q () {s with heap:=h',toks:=tk'}) :
  wpAny (model prog w) A (setAttr (.ref x) name v) Q E s:=by
 have I:InstAt s.heap x ⟨.ref C,none,.fields vs,#[]⟩ C none:=⟨hx,rfl,rfl,trivial⟩
 refine set_plain X I c.sa (aBN (s:={s with toks:=s.toks+1}) X c B I ?_)
 obtain ⟨cd,G,hdct,r⟩:=c.cls
 obtain ⟨f,g,d,t,os⟩:=s
 have hx:f.get? x=some ⟨.ref C,none,.fields vs,#[]⟩:=hx
 unfold storeInOwnDict
 refine AA (AC ?_)
 show wpAny _ _ (ownDictForStores (.ref x) >>= _) _ _ _
 refine AA ?_
 show wpAny _ _ (instanceDict x true) _ _ _
 unfold instanceDict
 refine AA (FH hx (AA ((looks_clsIn (M:=model prog w) X G).at ?_)))
 rw[hdct]
 have a:(f.push {cls:=.type "dict",data:=.dict #[]}).get? x=some ⟨.ref C,none,.fields vs,#[]⟩:=AB _ hx
 have j:x≠f.objs.size:=A4 (AK hx)
 refine AA (wpAny_alloc' ?_)
 refine AA (wpAny_update' a ?_)
 refine AC ?_
 have m:((f.push {cls:=.type "dict",data:=.dict #[]}).update x fun o=>{cls:=o.cls,dict:=some f.objs.size,data:=o.data,slots:=o.slots}).get? f.objs.size
   = some {cls:=.type "dict",data:=.dict #[]}:=
  (Heap.get?_update_ne _ _ _ _ j.symm).trans (Heap.get?_push_at rfl rfl)
 have q:((f.push {cls:=.type "dict",data:=.dict #[]}).update x fun o=>{cls:=o.cls,dict:=some f.objs.size,data:=o.data,slots:=o.slots}).Ns f.objs.size (fun _=>none):=
  ⟨_,#[],_,m,rfl,fun e D=>absurd D (by simp),fun _=>rfl⟩
 show wpAny _ _ (storeInDict f.objs.size (.str name t) name v) _ _ _
 unfold storeInDict newKeyGuard
 refine AA (AC (AA (wpAny_nsSet1 (Heap.Ns1.of_empty q) fun h' i z=>?_)))
 obtain ⟨J,F,H,p,l,n⟩:=i.count (Within.cons name v Within.nil)
 refine AA (GK p (by rw[l];exact GL (BE n (by rw[AL,AZ,EH];omega))) ?_)
 refine AC (h h' _ ?_ i fun b o k u=>?_)
 .exact (z.2 x j).trans (CQ _ a rfl)
 .exact (z.2 b (A4 (AK u))).trans ((Heap.get?_update_ne _ _ _ _ k).trans (AB _ u))
theorem aG8{Q:Unit->S9->Prop}{dx:Az}{mA:Str->O6 V9}{ns:List Str}(X:K.In s.heap)(c:ExcC K W C)(l:findIn K (.ref C) name=some none)(hx:s.heap.get? x=some ⟨.ref C,some dx,.fields vs,#[]⟩)
  (q:dx≠x) (a:s.heap.Ns1 dx mA) (hw:Within mA ns) (hsz:ns.length<=sizeLine)
  (h:∀ h' tk',h'.Ns1 dx (fun y=>if y=name then some v else mA y)->Heap.SameBut dx s.heap h'->Q () {s with heap:=h',toks:=tk'}) :
  wpAny (model prog w) A (setAttr (.ref x) name v) Q E s:=by
 obtain ⟨od,j,_⟩:=L2.pR a
 have I:InstAt s.heap x ⟨.ref C,some dx,.fields vs,#[]⟩ C (some od):=⟨hx,rfl,rfl,j⟩
 refine set_plain X I c.sa (aBN (s:={s with toks:=s.toks+1}) X c l I ?_)
 obtain ⟨cd,n,hdct,k⟩:=c.cls
 obtain ⟨p,g,d,t,os⟩:=s
 have hx:p.get? x=some ⟨.ref C,some dx,.fields vs,#[]⟩:=hx
 unfold storeInOwnDict
 refine AA (AC ?_)
 show wpAny _ _ (ownDictForStores (.ref x) >>= _) _ _ _
 refine AA ?_
 show wpAny _ _ (instanceDict x true) _ _ _
 unfold instanceDict
 refine AA (FH hx (AA ((looks_clsIn (M:=model prog w) X n).at ?_)))
 rw[hdct]
 refine AC ?_
 show wpAny _ _ (storeInDict dx (.str name t) name v) _ _ _
 unfold storeInDict newKeyGuard
 refine AA (AC (AA (wpAny_nsSet1 a fun h' b r=>?_)))
 obtain ⟨u,m,o,i,e,f⟩:=b.count (Within.cons name v hw)
 refine AA (GK i (by rw[e];exact GL (BE f (by rw[AL];omega))) ?_)
 exact AC (h h' _ b r)
theorem aEY{od:O6 Az}{o:O6 Obj}{Q:O6 V9->S9->Prop}(X:K.In s.heap)(c:ExcC K W C)(I:InstAt s.heap x ⟨.ref C,od,.fields vs,#[]⟩ C o)(h:Q (some (.ref C)) {s with toks:=s.toks+1}) :
  wpAny (model prog w) A (getAttr? (.ref x) "__class__") Q E s:=by
 obtain ⟨i,g,d,t,os⟩:=s
 obtain ⟨cd,e,hdct,f⟩:=c.cls
 have b:=I.type (M:=model prog w)
 have k:=looks_findIn (M:=model prog w) X c.ga
 have m:=looks_findIn (M:=model prog w) X c.gh
 have sub:Looks (model prog w) i (isInstance (.ref x) (.type "BaseException")) true:=b.andThen (looks_mroIn X (by rw[c.mro];simp[iB]))
 have l:findObj K C o "__class__"=some (.bind (.builtin "getset_descriptor.__get__") (.builtin "object.__class__")):=by
  unfold findObj
  rw[e,DA,c.cl,DA]
  simp only[c.clg,c.clt,DA]
 have j:=looks_find (M:=model prog w) X I l
 unfold getAttr?
 refine AA (wpAny_mkText ?_)
 unfold getAttrBy?
 refine AA (FV ?_)
 unfold getAttrBy
 refine B9 (AA (b.at (AA (k.at ?_))))
 show wpAny _ _ (getAttrByItsOwn _ _ _ _ _ _) _ _ _
 unfold getAttrByItsOwn
 refine AA ?_
 show wpAny _ _ (typeLookup (.ref C) "__getattr__") _ _ _
 refine m.at (AA (FV (B9 ?_)))
 unfold callGetattribute
 rw[show (false && onTheHeap (Value.builtin "BaseException.__getattribute__"))=false from rfl,AI CI]
 unfold boundAndCalled
 rw[FW.ga.bind]
 refine AA (AC ?_)
 have n:builtinKind "BaseException.__getattribute__"=some .slot:=by decide +kernel
 have a:splitId "BaseException.__getattribute__"=some ("BaseException","__getattribute__"):=by decide +kernel
 refine DW (E9 FW.ga.plain PySem.F.entry_bexc_ga (@check_slot (model prog w) _ _ _ "BaseException.__getattribute__" "BaseException" "__getattribute__" (.ref x) [.str "__class__" t] [] _ n a sub (PySem.F.args_bexc_ga (.ref x) (.str "__class__" t)) ?_))
 refine AA (AC (AA (AC ?_)))
 refine AA (b.at (AA (j.at ?_)))
 show wpAny _ _ (holding [.builtin "object.__class__"] (call (.builtin "getset_descriptor.__get__") [.builtin "object.__class__",.ref x,.ref C]) >>= ret) _ _ _
 refine AA (B9 (DW (class_get (s:=⟨i,g,d,t+1,os⟩) X I (by rw[c.mro];simp[iB]) ?_)))
 refine AC ?_
 show wpAny _ _ (handedOut (.ref C)) _ _ _
 exact AC (AC h)
theorem aG9{od:O6 Az}{o:O6 Obj}(c:ExcC K W C):KitX K (.ref x) (.ref C) (fun h=>InstAt h x ⟨.ref C,od,.fields vs,#[]⟩ C o) where
 ty:=fun _ _ _ I=>I.type
 it:=fun _ _ X _=>by
  obtain ⟨nm,q,N,bs,sn,sub,ab,col,dd,k0,k1,k2,k3,k5,e⟩:=c.lk
  intro i m l s' k q
  unfold isType loadHead
  exact AA (FH (k _ _ (X _ _ e)) (AC q))
 ne:=fun h f dd d n j X a=>by
  obtain ⟨nm,q,N,bs,sn,sub,ab,col,dd,k0,k1,k2,k3,k5,e⟩:=c.lk
  refine GA.mpr fun q=>?_
  have b:C=f:=Value.ref.inj (EQ.mp q)
  subst b
  have z:=(X _ _ e).symm.trans a
  have g:Value.type "type"=Value.type "tuple":=D3 Obj.cls (BT z)
  exact absurd (Value.type.inj g) (by decide)
 ca:=fun X I k=>aEY X c I k
theorem tP{od:O6 Az}{o:O6 Obj}{a:V9}{b:Bool}{Q:V9->S9->Prop}(X:K.In s.heap)(c:ExcC K W C)(I:InstAt s.heap x ⟨.ref C,od,.fields vs,#[]⟩ C o)(e:kitOne K (.ref C) a=some b)(h:∀ tk,Q (.bool b) {s with toks:=tk}) :
 wpAny (model prog w) A (call (.builtin "isinstance") [.ref x,a]) Q E s:=kia_one (aG9 c) X I e (fun z=>nomatch z) h
end
end SX
namespace SX
open PySem PySem.W
def sJ(h:Hz)(vs:Array V9)(e:Az)(T:O6 Az):Prop:=
 match T with
 | none=>vs[1]? = some .none
 | some t=>vs[1]? = some (.ref t)/\t≠e/\∃ oT ts x,h.get? t=some oT/\oT.data=.fields ts/\ts[3]? = some x
section
variable{M:Model}{A:U9}{E:V9->S9->Prop}{s:S9}
structure Noted(FL:List Az)(e:Az)(T:Option Az)(C:Az)(od:Option Az)(h h':Heap)(T':Option Az):Prop where
 keep:∀ b o,b∉FL->b≠e->(∀ t,T=some t->b≠t)->h.get? b=some o->h'.get? b=some o
 slot:∀ b o,b∈FL->h.get? b=some o->∃ sl,h'.get? b=some {o with slots:=sl}
 exc:∃ vs,h'.get? e=some ⟨.ref C,od,.fields vs,#[]⟩/\sJ h' vs e T'
 new:(∃ t,T'=some t/\h.objs.size<=t)\/(T'=T/\T≠none)
 there:∀ t o,T=some t->h.get? t=some o->∃ o',h'.get? t=some o'
theorem aHA{base:Hz}{env:Env}{outer:List Env}{L e C:Az}{od:O6 Az}{vs:Array V9}{T:O6 Az}{Q:Unit->S9->Prop}
  (ac:A.frames=some (env::outer)) (S:s.heap.FunFrames base (env::outer)) (hf:env.frame=some L) (H:s.heap.get? e=some ⟨.ref C,od,.fields vs,#[]⟩) (ht:sJ s.heap vs e T)
  (h:∀ h' T',T'≠none->Noted ((env::outer).filterMap (·.frame)) e T C od s.heap h' T'->Q () {s with heap:=h'}) :
  wpAny M A (noteFrame (.ref e) env) Q E s:=by
 have O:∀ b∈(env::outer).filterMap (·.frame),∃ o,s.heap.get? b=some o/\∀ vs,o.data≠.fields vs:=fun b f=>(S.mem f).2
 have u:e∉(env::outer).filterMap (·.frame):=fun hm=>by
  obtain ⟨o,r,n⟩:=O e hm
  rw[H] at r;injection r with r;subst r;exact n vs rfl
 have K:1 < vs.size:=by
  unfold sJ at ht
  cases T with
  | none=>exact (DG.mp ht).1
  | some t=>exact (DG.mp ht.1).1
 have make:∀ (w:Hz) (g:V9) (i:Bool),w.FunFrames base (env::outer)->w.objs.size=s.heap.objs.size->w.get? e=some ⟨.ref C,od,.fields vs,#[]⟩->
   (∀ b o,(∀ t,T=some t->b≠t)->s.heap.get? b=some o->w.get? b=some o)->(∀ t o,T=some t->s.heap.get? t=some o->∃ o',w.get? t=some o'/\t∉(env::outer).filterMap (·.frame)/\t≠e)->
   wpAny M A (do let a <-frameOf env;let v <-entryPlaceOf L i;let b <-EntryCells.newEntry g a .none (rawInt L) .none v;setField (.ref e) 1 b) Q E {s with heap:=w}:=by
  intro w g i X U W kp tp
  refine AA (wpAny_frameOf_fun (s:={s with heap:=w}) ac X hf fun c d=>?_)
  refine AA (wpAny_entryPlaceOf fun v N=>?_)
  unfold EntryCells.newEntry newFields
  refine AA (B2 ?_ (N.sizeOk5 _ _ _ _ _))
  have m:c.get? e=some ⟨.ref C,od,.fields vs,#[]⟩:=(d.2.1 e u).trans W
  have p:=AB (h:=c) {cls:=.type "traceback",dict:=none,data:=.fields ([g,.ref L,.none,rawInt L,.none]++(if v.isEmpty then List.replicate 6 Value.none else v)).toArray} m
  refine ER p rfl K ?_
  have P:c.objs.size≠e:=CL (AK m)
  have B:=CQ (Obj.mapFields (·.setIfInBounds 1 (Value.ref c.objs.size))) p rfl
  have F:=(DB (c.push {cls:=.type "traceback",dict:=none,data:=.fields ([g,.ref L,.none,rawInt L,.none]++(if v.isEmpty then List.replicate 6 Value.none else v)).toArray})
   (Obj.mapFields (·.setIfInBounds 1 (Value.ref c.objs.size))) (BG P)).trans (AV c rfl)
  have l:∀ b o,b≠e->c.get? b=some o->
    ((c.push {cls:=.type "traceback",dict:=none,data:=.fields ([g,.ref L,.none,rawInt L,.none]++(if v.isEmpty then List.replicate 6 Value.none else v)).toArray}).update e (Obj.mapFields (·.setIfInBounds 1 (Value.ref c.objs.size)))).get? b=some o:=
   fun b o D f=>by
    rw[DB _ _ (BG D)]
    exact AB _ f
  refine h _ (some c.objs.size) (by simp) ⟨fun b o f D y q=>?_,fun b o f q=>?_,⟨vs.setIfInBounds 1 (.ref c.objs.size),?_,?_⟩,.inl ⟨_,rfl,by rw[d.1,U];exact AM _⟩,fun t o e1 e2=>?_⟩
  .exact l b o D ((d.2.1 b f).trans (kp b o y q))
  .have y:∀ t,T=some t->b≠t:=fun t e1 z=>by
    obtain ⟨o',R,Z,_⟩:=tp t o e1 (z▸q)
    exact Z (z▸f)
   obtain ⟨sl,R⟩:=d.2.2 b o (kp b o y q)
   exact ⟨sl,l b _ (fun z=>u (z▸f)) R⟩
  .exact B
  .refine ⟨by simp[K],P,_,_,rawInt L,F,rfl,by first|(simp;done)|(rcases N with rfl|⟨_,_,_,_,_,_,_,rfl⟩<;>simp)⟩
  .obtain ⟨o',R,Z,z3⟩:=tp t o e1 e2
   exact ⟨o',l t o' z3 ((d.2.1 t Z).trans R)⟩
 unfold noteFrame
 simp only[hf]
 cases T with
 | none=>
  refine AA (BN H rfl ht ?_)
  rw[AI (by decide)]
  exact make s.heap .none _ S rfl H (fun b o _ q=>q) (fun t o e1=>nomatch e1)
 | some t=>
  obtain ⟨J,G,oT,Y,x,I,k,V⟩:=ht
  have aa:t∉(env::outer).filterMap (·.frame):=fun hm=>by
   obtain ⟨o,r,n⟩:=O t hm
   rw[I] at r;injection r with r;subst r;exact n Y k
  refine AA (BN H rfl J ?_)
  rw[AE (show (Value.ref t != Value.none)=true from by simp)]
  refine AA (BN I k V ?_)
  by_cases hx:(x == rawInt L)=true
  .rw[AE hx]
   refine AC (h s.heap (some t) (by simp) ⟨fun b o _ _ _ q=>q,fun b o _ q=>⟨o.slots,q⟩,⟨vs,H,J,G,oT,Y,x,I,k,V⟩,.inr ⟨rfl,by simp⟩,fun t' o e1 q=>⟨o,q⟩⟩)
  .rw[AI hx]
   refine AA (ER I k (DG.mp V).1 ?_)
   have j:∀ b,b≠t->(s.heap.update t (Obj.mapFields (·.setIfInBounds 3 Value.none))).get? b=s.heap.get? b:=fun b f=>DB _ _ (BG f)
   have ae:=CQ (Obj.mapFields (·.setIfInBounds 3 Value.none)) I (E4 (DZ k _))
   refine make (s.heap.update t (Obj.mapFields (·.setIfInBounds 3 Value.none))) _ _ (S.of_keeps fun b o f n=>⟨o,(j b fun q=>?_).trans f,rfl⟩) (DS ..).1 ((j e (BG G)).trans H) (fun b o f q=>(j b (f t rfl)).trans q) (fun t' o e1 q=>?_)
   .rw[q,I] at f;injection f with f;subst f;exact n Y k
   .cases e1
    exact ⟨_,ae,aa,G⟩
theorem aC5{e C t:Az}{od:O6 Az}{vs:Array V9}{fr:O6 Az}{Q:Unit->S9->Prop}(g:s.heap.get? e=some ⟨.ref C,od,.fields vs,#[]⟩)(ht:sJ s.heap vs e (some t))
  (h:∀ h',Heap.SameBut t s.heap h'->sJ h' vs e (some t)->Q () {s with heap:=h'}):wpAny M A (setFlight (.ref e) fr) Q E s:=by
 obtain ⟨b,d,j,k,x,f,a,i⟩:=ht
 unfold setFlight
 refine AA (BN g rfl b ?_)
 rw[AE (show (Value.ref t != Value.none)=true from by simp)]
 have c:=(DG.mp i).1
 refine ER f a c (h _ (DS ..) ⟨b,d,_,_,_,CQ _ f (E4 (DZ a _)),DZ a _,Array.getElem?_setIfInBounds_self_of_lt c⟩)
end
end SX
namespace L2
open PySem PySem.Spec PyProof.Rows
def ExN(e C:Az)(od:O6 Az):HO:=.ext fun h=>∃ vs,h.get? e=some ⟨.ref C,od,.fields vs,#[]⟩/\vs[1]? = some .none
def ExO(e C:Az)(od:O6 Az):HO:=.ext fun h=>∃ vs,h.get? e=some ⟨.ref C,od,.fields vs,#[]⟩
section
variable{P:P9}{w:W9}{H:Hp}{h:Hz}{e C:Az}{od:O6 Az}
theorem aEZ{vs:Array V9}(a:h.get? e=some ⟨.ref C,od,.fields vs,#[]⟩)(b:vs[1]? = some .none):b9 P w H h e (ExN e C od):=
 ⟨⟨vs,a,b⟩,⟨_,a⟩,fun h1 h2 ⟨vs,a,b⟩ k=>⟨vs,k _ a,b⟩⟩
theorem aE0{vs:Array V9}(a:h.get? e=some ⟨.ref C,od,.fields vs,#[]⟩):b9 P w H h e (ExO e C od):=
 ⟨⟨vs,a⟩,⟨_,a⟩,fun h1 h2 ⟨vs,a⟩ k=>⟨vs,k _ a⟩⟩
theorem yF(ok:HOk P w H h)(q:H e=some (ExN e C od)):∃ vs,h.get? e=some ⟨.ref C,od,.fields vs,#[]⟩/\vs[1]? = some .none:=(ok e _ q).1
theorem aE1(ok:HOk P w H h)(q:H e=some (ExO e C od)):∃ vs,h.get? e=some ⟨.ref C,od,.fields vs,#[]⟩:=(ok e _ q).1
end
structure FlyAt(X:Cx)(H:Hp)(h:Heap)(e C:Az)(od:Option Az)(traced:Bool):Prop where
 tr:H e=some (ExO e C od)
 tb:∃ vs T,h.get? e=some ⟨.ref C,od,.fields vs,#[]⟩/\SX.sJ h vs e T/\(∀ t,T=some t->H t=none/\X.s₀.heap.objs.size<=t/\∀ p∈X.pn,p.1≠t)/\(traced=true->T≠none)
def Fly(X:Cx)(E:XK)(ev:V9)(s':S9):Prop:=∃ e C od σ H',ev=.ref e/\Inv X [] σ H' s'/\FlyAt X H' s'.heap e C od false/\E (.ref C) (some e) H'
abbrev Cx.fly(X:Cx)(E:XK):Cx:=X.wish (Fly X E)
def xR(X:Cx):Prop:=X.stack=X.env::X.outer/\X.env.frame=some X.env.locals
section
variable{X:Cx}{σ:St}{H:Hp}{s:S9}{e C:Az}{od:O6 Az}{b:Bool}
theorem yG(I:Inv X [] σ H s){t:Az}{e:Obj}{g:Array V9}(d:s.heap.get? t=some e)(f:e.data=.fields g):t≠X.env.locals/\(∀ x c,X.env.cells.lookup x=some c->c≠t):=by
 refine ⟨fun z=>?_,fun x c q z=>?_⟩
 .obtain ⟨m,⟨o,es,h,b,a,_⟩,_⟩:=I.loc
  rw[<-z,d] at b;cases b;rw[f] at a;cases a
 .obtain ⟨v,o,b,a⟩:=I.cell x c q
  rw[z,d] at b;cases b;rw[f] at a;cases a
theorem sK{Q:Unit->S9->Prop}{E':V9->S9->Prop}(Y:xR X)(I:Inv X [] σ H s)(f:FlyAt X H s.heap e C od b)(h:∀ s',Inv X [] σ H s'->FlyAt X H s'.heap e C od true->Q () s') :
  wpAny (model X.prog X.w) X.A (noteFrame (.ref e) X.env) Q E' s:=by
 obtain ⟨j,B⟩:=Y
 obtain ⟨vs,T,U,O,M,_⟩:=f.tb
 have G:X.A.frames=some (X.env::X.outer):=by rw[<-j];exact I.ok.frames
 have Z:s.heap.FunFrames X.base (X.env::X.outer):=by have:=I.stack;rw[j] at this;exact this
 have y:(X.env::X.outer).filterMap (·.frame)=X.env.locals::X.fs:=by rw[DR,B];rfl
 refine SX.aHA (T:=T) G Z B U O fun h' T' J N=>?_
 rw[y] at N
 have trk:∀ c u,H c=some u->c∉X.env.locals::X.fs:=fun c u q z=>by
  have:=I.stkFree c (by unfold frs;rw[j,y];exact z)
  rw[q] at this;cases this
 have P:∀ c u,H c=some u->∀ t,T=some t->c≠t:=fun c u q t e1 z=>by
  have:=(M t e1).1
  rw[<-z,q] at this;cases this
 have l:HOk X.prog X.w H h':=fun c u q=>by
  by_cases d:c=e
  .subst d
   rw[f.tr] at q;cases q
   obtain ⟨g,a,_⟩:=N.exc
   exact aE0 a
  .refine (I.hok c u q).stay (fun F v i a=>N.keep F v ?_ ?_ ?_ a) (fun _ q=>q) (fun _ _ q=>q) fun _ _ q=>q
   .rcases i with z|z
    .rw[z];exact trk c u q
    .exact trk F _ z
   .rcases i with z|z
    .rw[z];exact d
    .intro zz;rw[zz,f.tr] at z;cases z
   .rcases i with z|z
    .rw[z];exact P c u q
    .exact P F _ z
 have I':Inv X [] σ H {s with heap:=h',gens:=s.gens,drawn:=s.drawn,toks:=s.toks}:=by
  refine I.step (ch:=T.toList) (fun c d=>?_) (fun c o h1 h2 D q n=>?_) (fun c o h1 h2 D q n=>N.slot c o (AN _ h2) q) (fun _ _ _ _ n=>n) (fun c o D q=>?_) (fun _ _ q=>q) (fun _ _ _ q=>q) (fun _ _ q=>q) (fun m hm=>?_) l I.bare
  .have e1:T=some c:=by cases T<;>simp at d;rw[d]
   obtain ⟨t1,R,V⟩:=M c e1
   rw[e1] at O
   obtain ⟨_,_,oT,ts,x,E,K,_⟩:=O
   obtain ⟨a1,a2⟩:=yG I E K
   exact ⟨.inr R,a1,a2,fun p L=>V p (by simpa using L)⟩
  .refine N.keep c o ?_ ?_ ?_ q
   .intro z
    rcases AG.mp z with z|z
    .exact h1 z
    .exact h2 z
   .intro z;rw[z,f.tr] at n;cases n
   .intro t e1 z;exact D (by rw[e1,z];simp)
  .by_cases d:c=e
   .subst d
    obtain ⟨g,a,_⟩:=N.exc
    exact ⟨_,a⟩
   .by_cases S:c∈X.env.locals::X.fs
    .obtain ⟨sl,a⟩:=N.slot c o S q
     exact ⟨_,a⟩
    .exact ⟨o,N.keep c o S d (fun t e1 z=>D (by rw[e1,z];simp)) q⟩
  .obtain ⟨o,es,ep,ho,r⟩:=hm
   obtain ⟨sl,a⟩:=N.slot _ o AX ho
   exact ⟨_,es,ep,a,r⟩
 refine h _ I' ⟨f.tr,?_⟩
 obtain ⟨g,a,W⟩:=N.exc
 refine ⟨g,T',a,W,fun t e1=>?_,fun _=>J⟩
 rcases N.new with ⟨R,e2,k⟩|⟨e2,_⟩
 .rw[e1] at e2;cases e2
  refine ⟨I.hok.fresh k,BE I.sz k,fun p L z=>?_⟩
  have:=AK (I.pin p (EB _ L)).1
  rw[z] at this
  exact absurd (AW this k) (BO _)
 .exact M t (e2▸e1)
theorem u8{Q:Unit->S9->Prop}{z:V9->S9->Prop}{fr:O6 Az}{A:U9}(I:Inv X [] σ H s)(f:FlyAt X H s.heap e C od true)(h:∀ s',Inv X [] σ H s'->FlyAt X H s'.heap e C od true->Q () s') :
  wpAny (model X.prog X.w) A (setFlight (.ref e) fr) Q z s:=by
 obtain ⟨vs,T,i,n,v,r⟩:=f.tb
 cases T with
 | none=>exact absurd rfl (r rfl)
 | some t=>
  obtain ⟨j,m,k⟩:=v t rfl
  refine SX.aC5 i n fun h' l g=>?_
  obtain ⟨_,d,F,G,x,c,a,_⟩:=n
  obtain ⟨D,y⟩:=yG I c a
  have B:Inv X [] σ H {s with heap:=h'}:=I.turned (t':=s.toks) (it:=t) (fun b o E q=>(l.2 b E).trans q) j D (.inr m) y fun p u=>k p (by simpa using u)
  exact h _ B ⟨f.tr,vs,some t,(l.2 e (BG d)).trans i,g,fun t' e1=>by cases e1;exact ⟨j,m,k⟩,fun _=>by simp⟩
theorem aE2{Q:V9->S9->Prop}{a:V9->S9->Prop}{A:U9}(f:FlyAt X H s.heap e C od true)(h:∀ t,Q (.ref t) s):wpAny (model X.prog X.w) A (field (.ref e) 1) Q a s:=by
 obtain ⟨vs,T,c,b,g,d⟩:=f.tb
 cases T with
 | none=>exact absurd rfl (d rfl)
 | some t=>exact BN c rfl b.1 (h t)
theorem f9{E:XK}(j:xR X):PassesOwn (model X.prog X.w) X.A X.env (Fly X E):=by
 rintro m s' ⟨e,C,od,σ,H,rfl,I,f,q⟩
 refine sK j I f fun l h g=>?_
 unfold cameBackBy
 refine AA (aE2 g fun t=>?_)
 rw[AI (by simp)]
 exact u8 h g fun k i d=>⟨e,C,od,σ,H,rfl,i,⟨d.tr,let ⟨vs,T,a,b,c,_⟩:=d.tb;⟨vs,T,a,b,c,fun z=>nomatch z⟩⟩,q⟩
end
def CXe(P:P9)(w:W9):CXT:=fun outer H s E ev s'=>∃ e C od H',ev=.ref e/\s'.os=s.os/\AllBare s'.gens/\Un (frs outer) [] H H' s.heap s'.heap/\HOk P w H' s'.heap/\H' e=some (ExO e C od) /\
 (∃ vs T,s'.heap.get? e=some ⟨.ref C,od,.fields vs,#[]⟩/\SX.sJ s'.heap vs e T/\∀ t,T=some t->H' t=none/\s.heap.objs.size<=t)/\E (.ref C) (some e) H'
section
variable{X:Cx}
theorem bQ{E g:XK}(h:∀ c e H,E c e H->g c e H):h8 (CXe X.prog X.w) (X.fly g) E:=by
 rintro pins σ H s m s' I ⟨e,C,od,H',rfl,os,bare,un,hok,he,⟨vs,T,q1,q2,q3⟩,q⟩
 have d:Inv X pins σ H s:=I.unwish
 have l:Inv X [] σ H s:=d.pins_of fun p a=>absurd a (by simp)
 have i:Inv X [] σ H' s':=l.call' os un hok bare (fun b k=>absurd k (by simp))
 refine ⟨e,C,od,σ,H',rfl,i,⟨he,vs,T,q1,q2,fun t e1=>?_,fun z=>nomatch z⟩,h _ _ _ q⟩
 obtain ⟨j,f⟩:=q3 t e1
 refine ⟨j,BE d.sz f,fun p a z=>?_⟩
 have:=AK (d.pin p (EB _ a)).1
 rw[z] at this
 exact absurd (AW this f) (BO _)
theorem PSs.unfly{E:XK}{st:List Stmt}{t:TS}(h:PSs (X.fly E) st t)(hx:∀ e s',Fly X E e s'->X.xe e s'):PSs X st t:=fun pins s σ H D I a=>
 BY (h pins s σ H D (I.wish _) a) (fun f s' q=>SP.unwish q) hx
end
theorem aE3{P:P9}{w:W9}{K:Frag}{mg:Str->O6 V9}{base:Hz}{N:List Str}{qual:Str}{scope:Scope}{f:Az}{cd:V9}{A:U9}{outer:List Env}{s:S9}{H:Hp}{E:XK}{i:V9}{s':S9}
  (h:Fly (eW (CXe P w) P w K mg base N qual scope f cd A outer s H E) E i s'):(eW (CXe P w) P w K mg base N qual scope f cd A outer s H E).xe i s':=by
 obtain ⟨e,C,od,σ,H',rfl,I,j,q⟩:=h
 show wpAny (model P w) _ (leaving _ (.ref e)) _ _ s'
 unfold leaving
 have m:xR (eW (CXe P w) P w K mg base N qual scope f cd A outer s H E):=⟨rfl,rfl⟩
 refine AA (sK m I j fun o k l=>u8 k l fun n d g=>?_)
 obtain ⟨vs,T,a,b,c,_⟩:=g.tb
 exact ⟨e,C,od,H',rfl,d.os,d.bare,d.base,d.hok,g.tr,⟨vs,T,a,b,fun t e1=>⟨(c t e1).1,(c t e1).2.1⟩⟩,q⟩
section
variable{P:P9}{w:W9}{K:Frag}{mg:Str->O6 V9}{base:Hz}
theorem Fun.okX{x qual:Str}{st:Stmt}{f:Az}{fd:FuncData}{N ps:List Str}{k:Nat}{sp:Sp}(F:Fun K x qual st f fd)(S:FnScope N ps (aE st))(len:∀ vs H Q E,sp vs H Q E->vs.length=ps.length)
  (a:∀ (cdv:V9) (A:U9) (outer:List Env) (s:S9) (H:Hp) (vs:List V) (Q:VK) (E:XK),Room k (A.deeper (envOfC qual (aE st) s.heap.objs.size f cdv))->sp vs H Q E->
   ∃ t,PSs ((eW (CXe P w) P w K mg base N qual (aE st) f cdv A outer s H E).fly E) (bY st) t/\t {nx:=fun _ H'=>Q .non H',rt:=Q} (start N vs) H):FnOk P w K mg base (CXe P w) (k+1) f fd ps sp:=by
 obtain ⟨i,od,kV,doc,pm,j,cdv,ct,e,rfl,d,b⟩:=F.ex
 refine aI0 d b S len fun A outer s H vs Q E g c=>?_
 obtain ⟨t,h,q⟩:=a cdv A outer s H vs Q E g c
 exact ⟨t,h.unfly fun _ _ z=>aE3 z,q⟩
end
theorem Inv.xdw{X:Cx}{pins:List (Az×Obj)}{σ:St}{H:Hp}{s:S9}{h':Hz}{d:Az}{fs fs':List (Str×V)}{t':Nat}(I:Inv X pins σ H s)(a:H d=some (.xd fs))(h:Heap.SameBut d s.heap h')
  (new:b9 X.prog X.w (upd H d (.xd fs')) h' d (.xd fs')):Inv X pins σ (upd H d (.xd fs')) {s with heap:=h',toks:=t'}:=by
 have i:∀ b (u:Obj),H b=none->b≠d:=fun b u e z=>by rw[z,a] at e;cases e
 refine I.un ⟨fun b o q n _ _=>(h.2 b (i b o n)).trans q,fun b o q n k=>?_,fun b o q n _=>by rw[aF (i b o n)];exact n,fun b o q _=>?_,fun b xs q=>?_,fun b o u q=>?_,fun b ps q=>?_⟩ fun b u q=>?_
 .exact fun _=>⟨o.slots,(h.2 b (i b o n)).trans q⟩
 .by_cases z:b=d
  .obtain ⟨o',e⟩:=(show ∃ o',h'.get? d=some o' from let ⟨mA,⟨o,_,_,e,_⟩,_⟩:=new;⟨o,e⟩)
   exact ⟨o',z▸e⟩
  .exact ⟨o,(h.2 b z).trans q⟩
 .rw[aF (fun z=>by rw[z,a] at q;cases q)];exact q
 .rw[aF (fun z=>by rw[z,a] at q;cases q)];exact q
 .rw[aF (fun z=>by rw[z,a] at q;cases q)];exact q
 .by_cases z:b=d
  .subst z;rw[aQ] at q;cases q;exact new
  .rw[aF z] at q
   refine (I.hok b u q).stay (fun c v j r=>(h.2 c ?_).trans r) (fun c r=>?_) (fun c xs r=>?_) fun c xs r=>?_
   .rcases j with g|g
    · rw [g]; exact z
    · intro f; rw [f, a] at g; cases g
   .rw[aF (fun f=>by rw[f,a] at r;cases r)];exact r
   .rw[aF (fun f=>by rw[f,a] at r;cases r)];exact r
   .rw[aF (fun f=>by rw[f,a] at r;cases r)];exact r
def aOR(K:Frag)(ta tv:TE)(f:Str):TS:=fun D σ H=>tv σ H fun y H1=>ta σ H1 fun x H2=>∃ a W C,x=.ref a/\SX.ExcC K W C/\PySem.W.findIn K (.ref C) f=some none /\
 ((H2 a=some (ExN a C none)/\∀ d,H2 d=none->d≠a->D.nx σ (upd (upd H2 a (ExN a C (some d))) d (.xd [(f,y)]))) \/
  (∃ d fs,H2 a=some (ExN a C (some d))/\H2 d=some (.xd fs)/\fs.length < 1000/\D.nx σ (upd H2 d (.xd (gY f y fs)))))
section
variable{X:Cx}{o e value:Ez}{f:Str}{pos pos':Pos}{ta tv:TE}
theorem aE4{fs:List (Str×V)}{mA:Str->O6 V9}(r:∀ f,gM (fs.lookup f) (mA f)):PySem.Within mA (fs.map (·.1)):=fun y a=>by
 cases q:fs.lookup y with
 | none=>exact absurd (gM.none_of (by rw[<-q];exact r y)) a
 | some v=>exact C0.mpr ⟨(y,v),BF q,rfl⟩
theorem aJ5(ha:PE X o ta)(hv:PE X value tv)(hs:swapsWith value (some (.Attribute o f pos')) pos.line X.env=pure false):PS X (.Assign [.Attribute o f pos'] value pos) (aOR X.K ta tv f):=by
 intro pins s σ H D I h
 refine E5 (thn (hv pins s σ H _ I h) fun u s1 ⟨y,H1,I1,T,q⟩=>thn (ha pins s1 σ H1 _ I1 q) fun V m S=>?_) hs
 obtain ⟨x,H2,l,rx,a,W,C,ex,c,n,J⟩:=S
 subst ex
 obtain rfl:V=Value.ref a:=rx
 rcases J with ⟨k,J⟩|⟨d,fs,k,P,hl,J⟩
 .obtain ⟨vs,N,h1⟩:=yF l.hok k
  refine SX.aEX l.kIn c n N fun h' B L t O=>?_
  have fd:H2 m.heap.objs.size=none:=l.hok.fresh (AM _)
  have Q:m.heap.objs.size≠a:=CL (AK N)
  refine ⟨σ,_,?_,J m.heap.objs.size fd Q⟩
  have A:∀ b (u:Obj),H2 b=none->b≠a:=fun b u z Z=>by rw[Z,k] at z;cases z
  have i:∀ b u,H2 b=some u->b≠m.heap.objs.size:=fun b u z=>bS z fd
  have G:HOk X.prog X.w (upd (upd H2 a (ExN a C (some m.heap.objs.size))) m.heap.objs.size (.xd [(f,y)])) h':=fun b u z=>by
   by_cases U:b=m.heap.objs.size
   .subst U;rw[aQ] at z;cases z
    refine ⟨_,t,fun g=>?_⟩
    show gM (List.lookup g [(f,y)]) (if g=f then some u else none)
    rw[A8]
    by_cases R:g=f
    .subst R;rw[AE rfl];simp only[C9];exact T
    .rw[AI R,CO R];exact True.intro
   .rw[aF U] at z
    by_cases E:b=a
    .subst E;rw[aQ] at z;cases z
     exact aEZ L h1
    .rw[aF E] at z
     refine (l.hok b u z).stay (fun p v hc r=>O p v ?_ r) (fun p r=>?_) (fun p xs r=>?_) fun p xs r=>?_
     .rcases hc with M|M
      · rw [M]; exact E
      · intro e; rw [e, k] at M; cases M
     .rw[aF (i p _ r),aF (fun e=>by rw[e,k] at r;cases r)];exact r
     .rw[aF (i p _ r),aF (fun e=>by rw[e,k] at r;cases r)];exact r
     .rw[aF (i p _ r),aF (fun e=>by rw[e,k] at r;cases r)];exact r
  refine l.un (t':=B) ⟨fun b j q n _ _=>O b j (A b j n) q,fun b j q n _ _=>⟨j.slots,O b j (A b j n) q⟩,fun b j q n _=>by rw[aF (A4 (AK q)),aF (A b j n)];exact n,fun b j q _=>?_,fun b xs q=>?_,fun b j u' q=>?_,fun b ps q=>?_⟩ G
  .by_cases z:b=a
   .subst z;exact ⟨_,L⟩
   .exact ⟨j,O b j z q⟩
  .rw[aF (i b _ q),aF (fun e=>by rw[e,k] at q;cases q)];exact q
  .rw[aF (i b _ q),aF (fun e=>by rw[e,k] at q;cases q)];exact q
  .rw[aF (i b _ q),aF (fun e=>by rw[e,k] at q;cases q)];exact q
 .obtain ⟨vs,N,h1⟩:=yF l.hok k
  obtain ⟨mA,t,r⟩:=(show b9 X.prog X.w H2 m.heap d (.xd fs) from l.hok d _ P)
  have Q:d≠a:=fun z=>by rw[z,k] at P;cases P
  refine SX.aG8 (ns:=fs.map (·.1)) l.kIn c n N Q t (aE4 r) (by rw[AD,EH];omega) fun h' B F Y=>?_
  refine ⟨σ,_,l.xdw (t':=B) P Y ⟨_,F,fun g=>?_⟩,J⟩
  show gM ((gY f y fs).lookup g) (if g=f then some u else mA g)
  rw[nN]
  by_cases q:g=f
  .rw[AE q,AE q];exact T
  .rw[AI q,AI q];exact r g
end
inductive TyX(K:Frag)(H:Hp):V->V9->Prop where
 | pl {x:V} {t:V9} (h:TyOf K H x t):TyX K H x t
 | exc {a W C:Az} {d:Az} {fs:List (Str×V)} (c:SX.ExcC K W C) (e:H a=some (ExO a C (some d))) (ed:H d=some (.xd fs)):TyX K H (.ref a) (.ref C)
 | exc0 {a W C:Az} (c:SX.ExcC K W C) (e:H a=some (ExO a C none)):TyX K H (.ref a) (.ref C)
def u9:V->O6 V9
 | .ty n=>some (.type n)
 | .ref a=>some (.ref a)
 | _=>none
theorem q9{x:V}{u v:V9}(h:u9 x=some v)(r:bB x u):u=v:=by
 cases x with
 | ty n=>cases h;exact r
 | ref a=>cases h;exact r
 | _=>cases h
theorem k7{X:Cx}:i9 X (.builtin "isinstance") (fun xs H Q=>∃ x c t cv b,xs=[x,c]/\TyX X.K H x t/\u9 c=some cv/\PySem.W.kitOne X.K t cv=some b/\Q (.bl b) H):=by
 intro pins s σ H xs us Q I r h
 obtain ⟨x,c,t,cv,b,rfl,i,l,e,q⟩:=h
 obtain ⟨u,v,rfl,k,m⟩:=tH r
 obtain rfl:=q9 l m
 cases i with
 | pl i=>exact wD I k i e fun tk=>⟨.bl b,H,I.tok _,rfl,q⟩
 | @exc a W C d fs cc ea ed=>
  cases (show u=Value.ref a from k)
  obtain ⟨vs,g⟩:=aE1 I.hok ea
  obtain ⟨mA,f,r⟩:=(show b9 X.prog X.w H s.heap d (.xd fs) from I.hok d _ ed)
  obtain ⟨od,j,_⟩:=pR f
  exact SX.tP (o:=some od) I.kIn cc ⟨g,rfl,rfl,j⟩ e fun tk=>⟨.bl b,H,I.tok _,rfl,q⟩
 | @exc0 a W C cc ea=>
  cases (show u=Value.ref a from k)
  obtain ⟨vs,g⟩:=aE1 I.hok ea
  exact SX.tP (o:=none) I.kIn cc ⟨g,rfl,rfl,True.intro⟩ e fun tk=>⟨.bl b,H,I.tok _,rfl,q⟩
def yH(C:Az)(spI:Sp)(E:XK)(ta:TA):TS:=fun _ σ H=>ta σ H fun vs H1=>vs.length<=1000/\∀ e,H1 e=none->
 spI (.ref e::vs) (upd H1 e (ExN e C none)) (fun v H2=>v=.non/\∃ od,H2 e=some (ExN e C od)/\E (.ref C) (some e) (upd H2 e (ExO e C od))) E0
section
variable{X:Cx}{E:XK}{W C fI:Az}{fdI:FuncData}{ps:List Str}{spI:Sp}{k:Nat}{x:Str}{np cpos pos:Pos}{e0:Ez}{rest:List Ez}{ta:TA}
theorem sL(S:X.calm=true)(c:SX.ExcC X.K W C)(hg:Gl X x)(hm:X.mg x=some (.ref C))(Q:FnOk X.prog X.w X.K X.mg X.base CX0 k fI fdI ps spI)(hi:PySem.W.findIn X.K (.ref C) "__init__"=some (some (.ref fI)))
  (hf:PySem.W.typeIn X.K (.ref fI)=some (.type "function")) (hb:cV X.K fdI ps []) (hr:Room (k+1) X.A) (ha:PA (X.fly E) (e0::rest) ta) (y:(x == ("__debug__":Str))=false:=by decide)
  (he:starEach (e0::rest) X.env=(false,eval e0 X.env)::starEach rest X.env:=by rfl) (hpl:(backTo cpos (starEach rest X.env)).any (·.1)=false:=by rfl) :
  PS (X.fly E) (.Raise (some (.Call (.Name x np) (e0::rest) [] cpos)) none pos) (yH C spI E ta):=by
 intro pins s σ H D I h
 obtain ⟨nm,q,N,bs,sn,sub,ab,col,dd,k0,k1,k2,k3,k5,lk⟩:=c.lk
 have a:wpAny (model X.prog X.w) X.A (eval (.Call (.Name x np) (e0::rest) [] cpos) X.env) (fun v s1=>∃ e od vs,v=.ref e/\s1.heap.get? C=some (excClassObj nm q C N bs (.ref W::SX.iB) true sn sub ab col dd k0 k1 k2 k3 k5 "ValueError.__new__") /\
   s1.heap.get? e=some {cls:=.ref C,dict:=od,data:=.fields vs}/\vs[1]? = some .none/\Fly X E (.ref e) s1) (Fly X E) s:=by
  refine CS (qY (X:=X) I.unwish hg hm ?_ y)
  refine DX (h₀:=X.base) I.ok.mod.kin c.kp (thn (ha cpos pins s σ H _ I h) fun us s1 ⟨vs,H1,l,r,hz,Z⟩=>⟨l.kIn,?_⟩) he hpl
  have o:Inv X pins σ H1 s1:=l.unwish
  obtain ⟨T,g,d,tk,os⟩:=s1
  have O:us.length<=sizeLine:=by rw[<-r.length,EH];omega
  refine SX.aG7 PySem.F.excBase_ValueError (SX.aC4 W) o.kIn (o.kIn _ _ lk) hi hf (fun h' e j m=>?_) O
  obtain ⟨t,L,_,_⟩:=j.there
  have J:Inv X pins σ (upd H1 e (ExN e C none)) ⟨h',g,d,tk,os⟩:=o.laid (t':=tk) j.keeps m (aEZ L rfl)
  have R:=Z e (o.hok.fresh m)
  have Y:aZ (V.ref e::vs) (Value.ref e::us):=.cons rfl r
  have G:(Value.ref e::us++[]).length=ps.length:=by
   have z:=Y.length
   rw[Q.len _ _ _ _ R] at z
   rw[CH]
   exact z.symm
  have aa:(Value.ref e::us).length=ps.length:=by rw[CH] at G;exact G
  have U:=hb ⟨h',g,d,tk,os⟩ (Value.ref e::us) J.kIn G
  rw[CH] at U
  refine DW (DM (Q.run _ X.stack ⟨h',g,d,tk,os⟩ _ ⟨Value.ref e::us,[]⟩ (Value.ref e::us) (V.ref e::vs) _ E0 (hr.make C us []) (J.env0.make C us []) U Y R) fun M s' i=>?_)
  cases M with
  | error e=>exact False.elim i
  | ok fl=>
   cases fl with
   | next=>exact False.elim i
   | brk=>exact False.elim i
   | cont=>exact False.elim i
   | ret u=>
    obtain ⟨v,H3,B,rv,ev,od,P,q3⟩:=J.after i
    subst ev
    obtain ⟨f,n,h1⟩:=yF B.hok P
    refine ⟨rv,e,od,f,rfl,B.kIn _ _ lk,n,h1,?_⟩
    have I4:Inv X pins σ (upd H3 e (ExO e C od)) {s' with heap:=s'.heap,toks:=s'.toks}:=B.write (x:=e) (e:=e) (by rw[P];exact True.intro) (.inl rfl) (fun b u _ z=>z) ⟨_,n⟩ (aE0 n)
    have I5:Inv X [] σ (upd H3 e (ExO e C od)) s':=(show Inv X pins σ _ s' from I4).pins_of fun p T=>absurd T (by simp)
    exact ⟨e,C,od,σ,_,rfl,I5,⟨aQ,f,none,n,h1,(fun t z=>nomatch z),(fun z=>nomatch z)⟩,q3⟩
 show wpAny (model X.prog X.w) X.A (exec (.Raise (some (.Call (.Name x np) (e0::rest) [] cpos)) none pos) X.env) _ (Fly X E) s
 rw[arm_exec_Raise]
 first
  | refine AA (DV (SX.tO (SX.aC4 W) (I.ok.hd S) (AA (BY a (fun v s1 h1=>AA (DV (AC h1))) fun _ _ z=>z))))
  | (simp only[evalOpt,Option.map];refine AA (DV (SX.tO (SX.aC4 W) (I.ok.hd S) (AA (BY a (fun v s1 h1=>AA (DV (AC h1))) fun _ _ z=>z)))))
end
end L2
namespace SX
open PySem PySem.W
structure ExcAny(K:Frag)(C:Az)(bm:List V9):Prop where
 lk:∃ nm q N bs hd sn sub ab col dd k0 k1 k2 k3 k5 newId,K.lookup C=some (excClassObj nm q C N bs bm hd sn sub ab col dd k0 k1 k2 k3 k5 newId)
 base:bm.contains (.type "BaseException")=true
theorem ExcC.any{K:Frag}{W C:Az}(c:ExcC K W C):ExcAny K C (.ref W::iB):=by
 obtain ⟨nm,q,N,bs,sn,sub,ab,col,dd,k0,k1,k2,k3,k5,e⟩:=c.lk
 exact ⟨⟨_,_,_,_,_,_,_,_,_,_,_,_,_,_,_,_,e⟩,(aC4 W).hasBase⟩
end SX
namespace L2
open PySem PySem.Spec PyProof.Rows
section
variable{X:Cx}
theorem aE5(B:X.calm=true):i9 X (.builtin "all") (fun xs H Q=>∃ (a:Az) (bs:List Bool),xs=[.ref a]/\SqL X.K H a (bs.map V.bl)/\Q (.bl (bs.all id)) H):=by
 intro pins s σ H xs us Q I r h
 obtain ⟨a,bs,rfl,D,q⟩:=h
 obtain ⟨u,rfl,y⟩:=mX r
 cases (show u=Value.ref a from y)
 obtain ⟨c,l,p,E⟩:=I.list D
 have k:c.length=bs.length:=by rw[<-l.length,AD]
 refine call_all_walk (GB p.isList ?_)
 have t:a≠s.heap.objs.size:=by
  obtain ⟨o,e,_⟩:=p.isList
  exact A4 (AK e)
 refine ⟨_,_,_,_,_,_,fun i=>bs.getD i true,rfl,Walks.list (show X.A.in1.handled=none from I.ok.hd B) s.heap.objs.size a t c.toArray,⟨⟨_,AV _ rfl,rfl,rfl⟩,p.isList.at fun o e=>AB _ e⟩,?_,?_⟩
 .intro i v s' G F f w
  have f:c.toArray[i]? = some v:=f
  have hi:c[i]? = some v:=by simpa using f
  have d:i < bs.length:=by rw[<-k];exact (AS.mp hi).1
  have n:(bs.map V.bl)[i]? = some (V.bl bs[i]):=by simp[d]
  obtain ⟨J,j,g⟩:=l.get n
  rw[hi] at j;cases j
  cases (show v=Value.bool bs[i] from g)
  refine DI ?_
  have e:bs.getD i true=bs[i]:=by rw[A9,AH d];rfl
  rw[<-e];exact w
 .intro h' tk m
  have e:(List.range c.toArray.size).all (fun i=>bs.getD i true)=bs.all id:=by
   rw[A2,k,Bool.eq_iff_iff,CK,CK]
   constructor
   .intro h x C
    obtain ⟨i,hi,rfl⟩:=ED.mp C
    have:=h i (G2.mpr hi)
    rw[A9,AH hi] at this
    exact this
   .intro h i hi
    have hi:=G2.mp hi
    rw[A9,AH hi]
    exact h _ (EE hi)
  rw[e]
  refine ⟨.bl _,H,?_,rfl,q⟩
  exact I.kept (t':=tk) fun b o e=>m b o (fun z=>by
   have:=AK e
   rw[A1.mp z] at this
   exact BO _ this) (AB _ e)
end
structure Blt(mg:Str->Option V9):Prop where
 b_len:mg "len"=none
 b_isinstance:mg "isinstance"=none
 b_all:mg "all"=none
 b_max:mg "max"=none
 b_min:mg "min"=none
 b_int:mg "int"=none
 b_str:mg "str"=none
 b_bool:mg "bool"=none
 b_tuple:mg "tuple"=none
 b_list:mg "list"=none
 b_range:mg "range"=none
 b_enumerate:mg "enumerate"=none
 b_ValueError:mg "ValueError"=none
structure DefAt(K:Frag)(mg:Str->Option V9)(x:Str)(st:Stmt)(ps:List Str):Prop where
 ex:∃ f fd,Fun K x x st f fd/\cV K fd ps []/\mg x=some (.ref f)
def Calls(P:P9)(w:W9)(K:Frag)(mg:Str->O6 V9)(base:Hz)(CX:CXT)(k:Nat)(x:Str)(ps:List Str)(sp:Sp):Prop:=
 ∃ f fd,FnOk P w K mg base CX k f fd ps sp/\cV K fd ps []/\mg x=some (.ref f)/\PySem.W.keepIn K (.ref f)=true
section
variable{P:P9}{w:W9}{K:Frag}{mg:Str->O6 V9}{base:Hz}{x:Str}{st:Stmt}{N ps:List Str}{k:Nat}{sp:Sp}
theorem DefAt.ok(D:DefAt K mg x st ps)(S:FnScope N ps (aE st))(len:∀ vs H Q E,sp vs H Q E->vs.length=ps.length)
  (a:∀ (f:Az) (cdv:V9) (A:U9) (outer:List Env) (s:S9) (H:Hp) (vs:List V) (Q:VK) (E:XK),Room k (A.deeper (envOfC x (aE st) s.heap.objs.size f cdv))->sp vs H Q E->
   ∃ t,PSs (eW CX0 P w K mg base N x (aE st) f cdv A outer s H E).nox (bY st) t/\t {nx:=fun _ H'=>Q .non H',rt:=Q} (start N vs) H):Calls P w K mg base CX0 (k+1) x ps sp:=by
 obtain ⟨f,fd,F,b,m⟩:=D.ex
 exact ⟨f,fd,F.ok S len (a f),b,m,F.kp⟩
theorem DefAt.okX(D:DefAt K mg x st ps)(S:FnScope N ps (aE st))(len:∀ vs H Q E,sp vs H Q E->vs.length=ps.length)
  (a:∀ (f:Az) (cdv:V9) (A:U9) (outer:List Env) (s:S9) (H:Hp) (vs:List V) (Q:VK) (E:XK),Room k (A.deeper (envOfC x (aE st) s.heap.objs.size f cdv))->sp vs H Q E->
   ∃ t,PSs ((eW (CXe P w) P w K mg base N x (aE st) f cdv A outer s H E).fly E) (bY st) t/\t {nx:=fun _ H'=>Q .non H',rt:=Q} (start N vs) H):Calls P w K mg base (CXe P w) (k+1) x ps sp:=by
 obtain ⟨f,fd,F,b,m⟩:=D.ex
 exact ⟨f,fd,F.okX S len (a f),b,m,F.kp⟩
theorem Calls.imp{CX:CXT}{a:Sp}(C:Calls P w K mg base CX k x ps sp)(h:∀ vs H Q E,a vs H Q E->sp vs H Q E):Calls P w K mg base CX k x ps a:=by
 obtain ⟨f,fd,F,b,m,c⟩:=C
 exact ⟨f,fd,F.imp h,b,m,c⟩
end
section
variable{X:Cx}{CX:CXT}{k:Nat}{x:Str}{ps:List Str}{sp:Sp}{E:XK}{p pos:Pos}{e:Ez}{es:List Ez}{t:TA}
theorem bU(C:Calls X.prog X.w X.K X.mg X.base CX k x ps sp)(c:Room k X.A)(g:Gl X x)(hx:h8 CX X E)(ha:PA X (e::es) t)(a:(x == ("__debug__":Str))=false:=by decide)
  (he:starEach (e::es) X.env=(false,eval e X.env)::starEach es X.env:=by rfl) (hpl:(backTo pos (starEach es X.env)).any (·.1)=false:=by rfl):PE X (.Call (.Name x p) (e::es) [] pos) (aCY sp [] E t):=by
 obtain ⟨f,fd,F,b,m,d⟩:=C
 exact aJV F c g m d b .nil hx ha a he hpl
end
def spI(C:Az)(fs:List Str):Sp:=fun vs H Q _=>∃ e xs,vs=.ref e::xs/\xs.length=fs.length/\H e=some (ExN e C none)/\∀ d,H d=none->d≠e->Q .non (upd (upd H e (ExN e C (some d))) d (.xd (fs.zip xs)))
structure ErrAt(P:Program)(w:World)(K:Frag)(mg:Str->Option V9)(base:Heap)(x:Str)(fs:List Str)(W C:Az):Prop where
 c:SX.ExcC K W C
 m:mg x=some (.ref C)
 na:∀ f∈fs,PySem.W.findIn K (.ref C) f=some none
 i:∃ fI fdI,FnOk P w K mg base CX0 1 fI fdI ("self"::fs) (spI C fs)/\PySem.W.findIn K (.ref C) "__init__"=some (some (.ref fI))/\PySem.W.typeIn K (.ref fI)=some (.type "function")/\cV K fdI ("self"::fs) []
theorem aHB{H:Hp}{a b:Az}{o u:HO}(h:a≠b):upd (upd H a o) b u=upd (upd H b u) a o:=by
 funext c
 unfold upd
 by_cases h1:c=a
 · subst h1; rw [AI h, AE rfl, AE rfl]
 · rw [AI h1, AI h1]
theorem aE6{X:Cx}{E:XK}{fs:List Str}{W C:Az}{x:Str}{np cpos pos:Pos}{e0:Ez}{rest:List Ez}{ta:TA}(d:X.calm=true)(a:ErrAt X.prog X.w X.K X.mg X.base x fs W C)(h:Gl X x)(f:Room 2 X.A)(ha:PA (X.fly E) (e0::rest) ta)
  (b:(x == ("__debug__":Str))=false:=by decide) (he:starEach (e0::rest) X.env=(false,eval e0 X.env)::starEach rest X.env:=by rfl) (hpl:(backTo cpos (starEach rest X.env)).any (·.1)=false:=by rfl) :
  PS (X.fly E) (.Raise (some (.Call (.Name x np) (e0::rest) [] cpos)) none pos) (yH C (spI C fs) E ta):=by
 obtain ⟨fI,fdI,e,hi,g,j⟩:=a.i
 exact sL d a.c h a.m e hi g j f ha b he hpl
theorem aC6{C:Az}{fs:List Str}{vs:List V}{E:XK}{H1:Hp}(i:vs.length=fs.length)(j:vs.length<=1000)
  (h:∀ e d,H1 e=none->H1 d=none->d≠e->E (.ref C) (some e) (upd (upd H1 e (ExO e C (some d))) d (.xd (fs.zip vs)))) :
  vs.length<=1000/\∀ e,H1 e=none->spI C fs (.ref e::vs) (upd H1 e (ExN e C none)) (fun v H2=>v=.non/\∃ od,H2 e=some (ExN e C od)/\E (.ref C) (some e) (upd H2 e (ExO e C od))) E0:=by
 refine ⟨j,fun e k=>⟨e,vs,rfl,i,aQ,fun d g c=>⟨rfl,some d,?_,?_⟩⟩⟩
 .rw[aF (BG c),aQ]
 .have f:H1 d=none:=by rw[aF c] at g;exact g
  have:=h e d k f c
  rw[iN,aHB (a:=d) (b:=e) c,iN]
  exact this
theorem DatV.tup_of{K:Frag}{H:Hp}{v:V}{ds:List Dz}(h:DatV K H v (.tuple ds)):∃ a xs,v=.ref a/\SqT K H a xs/\DatVs K H xs ds:=by
 cases h with
 | tup h1 h2=>exact ⟨_,_,rfl,h1,h2⟩
theorem DatV.lst_of{K:Frag}{H:Hp}{v:V}{ds:List Dz}(h:DatV K H v (.list ds)):∃ a xs,v=.ref a/\SqL K H a xs/\DatVs K H xs ds:=by
 cases h with
 | lst h1 h2=>exact ⟨_,_,rfl,h1,h2⟩
theorem DatV.int_of{K:Frag}{H:Hp}{v:V}{i:Int}(h:DatV K H v (.int i)):v=.int i:=by cases h;rfl
theorem DatV.str_of{K:Frag}{H:Hp}{v:V}{i:Str}(h:DatV K H v (.str i)):v=.str i:=by cases h;rfl
theorem DatVs.cons_of{K:Frag}{H:Hp}{xs:List V}{d:Dz}{ds:List Dz}(h:DatVs K H xs (d::ds)):∃ x t,xs=x::t/\DatV K H x d/\DatVs K H t ds:=by
 cases h with
 | cons h1 h2=>exact ⟨_,_,rfl,h1,h2⟩
theorem DatVs.nil_of{K:Frag}{H:Hp}{xs:List V}(h:DatVs K H xs []):xs=[]:=by cases h;rfl
theorem dP.nil:dP [] []:=⟨rfl,fun _ _ h=>by simp at h⟩
theorem dP.nil_of{σ:St}(h:dP [] σ):σ=[]:=GU.mp h.1
def SqS(K:Frag)(H:Hp)(a:Az)(xs:List V):Prop:=SqL K H a xs\/SqT K H a xs
theorem SqS.same{K:Frag}{H H':Hp}{a:Az}{xs:List V}(e:aJ H H')(h:SqS K H a xs):SqS K H' a xs:=h.imp (SqL.same e) (SqT.same e)
theorem PI.or{X:Cx}{tg a:Ez}{b c:TI}(h1:PI X tg a b)(h2:PI X tg a c):PI X tg a (fun σ H R=>b σ H R\/c σ H R):=fun pins s σ H R I h=>h.elim (h1 pins s σ H R I) (h2 pins s σ H R I)
def aPU(K:Frag)(tl:TE):TI:=fun σ H R=>tl σ H fun x H1=>∃ a,x=.ref a/\(((∃ xs,SqL K H1 a xs)/\R (Itl K a) H1)\/((∃ xs,SqT K H1 a xs)/\R (Itt K a) H1))
theorem aE7{X:Cx}{tg l:Ez}{tl:TE}(j:PE X l tl):PI X tg l (aPU X.K tl):=by
 intro pins s σ H R I h
 refine thn (j pins s σ H _ I h) fun v s1 f=>?_
 obtain ⟨x,H1,c,r,m⟩:=f
 obtain ⟨a,e,q⟩:=m
 subst e
 cases r
 rcases q with ⟨⟨xs,i⟩,q⟩|⟨⟨xs,i⟩,q⟩
 .obtain ⟨d,n,p,k⟩:=c.list i
  refine GB p.isList ?_
  refine ⟨s1.heap.objs.size,[s1.heap.objs.size],_,_,H1,rfl,c.kept (t':=s1.toks) fun b o e=>AB _ e,aEL a _,⟨_,AV _ rfl,rfl,rfl⟩,fun b g=>?_,q⟩
  obtain rfl:=A1.mp g
  exact c.fpOk (AM _) (c.hok.fresh (AM _))
 .obtain ⟨d,n,p,k⟩:=c.tuple i
  refine FQ (show s1.heap.IsTuple a d.toArray from p) ?_
  refine ⟨s1.heap.objs.size,[s1.heap.objs.size],_,_,H1,rfl,c.kept (t':=s1.toks) fun b o e=>AB _ e,aCQ a _,⟨_,AV _ rfl,rfl,rfl⟩,fun b g=>?_,q⟩
  obtain rfl:=A1.mp g
  exact c.fpOk (AM _) (c.hok.fresh (AM _))
def aOS(i j:Int):Prop:=0 < j/\j < 2 ^ 64
theorem aHC{X:Cx}:OpR X (binaryOp .FloorDiv) (rI aOS fun i j=>.int (i / j)):=opI fun i j _ _ _ _ _ a q=>by
 have h1:(0:Int) < j:=a.1
 have h2:j < 2 ^ 64:=a.2
 have b:j.natAbs < 2 ^ 64:=by omega
 have c:j.natAbs.log2 < 64:=(Nat.log2_lt (by omega)).mpr b
 exact floordiv_int (by omega) (by rw[Int.fdiv_eq_ediv_of_nonneg i (by omega)];exact q) (.inl (PyProof.noPylong_of_log2 (by omega)))
theorem aOT{X:Cx}{P:P9}{w:W9}:h8 (CXe P w) X E0:=by
 rintro pins σ H s a s' I ⟨e,C,od,H',rfl,os,bare,un,hok,he,hv,q⟩
 exact q.elim
section
variable{X:Cx}
def aPV:V->O6 Int->O6 Int->Hp->VK->Prop:=fun x lo hi H Q=>∃ z,x=.str z/\z.length<=sizeLine/\Q (.str (Txt.slice z lo hi)) H
theorem aBO{v:V9}{o:O6 Int}(h:IsPart v o):∃ l:O6 (Int×Tok),partValue l=v/\l.map (·.1)=o:=by
 cases h with
 | none=>exact ⟨none,rfl,rfl⟩
 | int i t=>exact ⟨some (i,t),rfl,rfl⟩
theorem aMU:SlR X aPV:=by
 intro pins s σ H x v r p lo hi w Q I j m f i h
 obtain ⟨z,rfl,c,q⟩:=h
 obtain ⟨t,rfl⟩:=j
 obtain ⟨l,rfl,n⟩:=aBO f
 obtain ⟨u,rfl,d⟩:=aBO i
 obtain ⟨o,k,g,e⟩:=m
 refine ⟨"str",_,PyProof.Rows.slot_str_getitem.lookup,rfl,?_⟩
 refine wpAny_getItem_str_slice (l:=l) (u:=u) (st:=none) ⟨o,k,g,e⟩ rfl ?_
 have a:=Txt.slice_le z lo hi
 unfold Txt.slice at q a
 unfold sliceMade slicePicked
 rw[n,d]
 simp only[C9,Bool.true_and,Option.map_none,GQ] at q a ⊢
 by_cases b:((Builtin.Str.strSliceIndices lo hi 1 z.length).length == z.length)=true
 .rw[AE b] at q ⊢
  exact ⟨.str z,H,I,⟨t,rfl⟩,q⟩
 .rw[AI b] at q a ⊢
  exact ⟨BE a c,.str _,H,I.tok _,⟨_,rfl⟩,q⟩
def aE8:V->List V->Hp->VK->Prop:=fun x vs H Q=>∃ z y i rest,x=.str z/\vs=[.str y]/\Builtin.Str.occurrences z y 0 z.length 1=i::rest/\Q (.int i) H
theorem yI:MtR X "str.index" aE8:=by
 intro pins s σ H x vs v us Q I b a h
 obtain ⟨z,y,i,rest,rfl,rfl,c,q⟩:=h
 obtain ⟨t,rfl⟩:=b
 obtain ⟨u,rfl,d,rfl⟩:=a.one
 exact call_gives F.slot_str_index rfl F.entry_str_index (F.args_str_index_2 _ _) (gives_str_index z y t d i rest c) ⟨.int i,H,I.tok _,⟨_,rfl⟩,q⟩
def Ity(z:Str):It:=
 ⟨fun i _=>i < z.cps.size,fun i H x H'=>∃ p c,H p=none/\x=.ref p/\H'=upd H p (.tup [.int i,.str ⟨#[c]⟩])/\z.cps[i]? = some c,fun i _=>i=z.cps.size⟩
theorem aC7{P:P9}{w:W9}{K:Frag}{es:List Ez}{k1}{tpos:Pos}(z:Str)(t:Tok)(T:String)(hT:∀ A:U9,A.handled=none->∀ it,Draws P w A it [it] z.cps.size (fun i v=>∃ c u,z.cps[i]? = some c/\v=Value.str {cps:=#[c]} u) fun i h=>h.IsStrIter it T z t i)
  (e it:Az) (hei:e≠it):Turn P w K (.Tuple es k1 tpos) (Ity z) [e,it] e (fun i h=>(∃ f,IsEnum h e it i f)/\h.IsStrIter it T z t i) where
 mem:=by simp
 obj:=fun i h st b j=>by
  obtain ⟨⟨f,s1⟩,o,e2,c,d⟩:=st
  rcases AG.mp j with z|z
  .subst z
   exact ⟨_,s1,fun v z=>by
    have z':Data.fields _=Data.cell v:=z
    cases z'⟩
  .obtain rfl:b=it:=by simpa using z
   exact ⟨o,e2,fun v z=>by rw[d] at z;cases z⟩
 keep:=fun i h h' st k=>by
  obtain ⟨⟨f,s1⟩,o,e2,c,d⟩:=st
  exact ⟨⟨f,k e (by simp) _ s1⟩,o,k it (by simp) o e2,c,d⟩
 item:=by
  intro X U Y R a i pins s σ H E I L st D
  subst U Y R
  obtain ⟨⟨f,s1⟩,J⟩:=st
  obtain ⟨N,f1,f2,f3,f4,f5⟩:=L e (by simp)
  obtain ⟨C,G,g2,g3,W,g5⟩:=L it (by simp)
  refine wpAny_pyNext_enum_itemD (hT X.A.in1 (I.ok.hd a) it) s1 J D hei (by simpa using hei) fun u h' tk V so si st ac kp=>?_
  obtain ⟨c,tc,Q,hu⟩:=V
  subst hu
  refine ⟨_,rfl,FU so fun h2 se Z=>?_⟩
  have y:s.heap.objs.size≠e:=CL (AK s1)
  have S:h2.get? s.heap.objs.size=some {cls:=.type "tuple",data:=.seq #[.int i tk,.str ⟨#[c]⟩ tc]}:=(Z.2 _ y).trans st
  have O:H s.heap.objs.size=none:=I.hok.fresh (AM _)
  have g:∀ b o,b≠e->b≠it->s.heap.get? b=some o->h2.get? b=some o:=fun b o h1 M q=>(Z.2 b h1).trans (kp b o h1 M q)
  have x:HOk X.prog X.w H h2:=fun b B q=>by
   refine (I.hok b B q).stay (fun c v a q'=>g c v ?_ ?_ q') (fun _ q=>q) (fun _ _ q=>q) fun _ _ q=>q
   .rcases a with z|z
    .rw[z];exact fun p=>by rw[p,N] at q;cases q
    .exact fun p=>by rw[p,N] at z;cases z
   .rcases a with z|z
    .rw[z];exact fun p=>by rw[p,C] at q;cases q
    .exact fun p=>by rw[p,C] at z;cases z
  have F:HOk X.prog X.w (upd H s.heap.objs.size (.tup [.int i,.str ⟨#[c]⟩])) h2:=HOk.track x O ⟨by show 2<=sizeLine;decide,[.int i tk,.str ⟨#[c]⟩ tc],.cons ⟨_,rfl⟩ (.cons ⟨_,rfl⟩ .nil),⟨_,S,⟨rfl,rfl⟩,_,rfl⟩⟩
  have l:∀ b B,H b=some B->b≠s.heap.objs.size:=fun b B q=>bS q O
  have I2:Inv X pins σ (upd H s.heap.objs.size (.tup [.int i,.str ⟨#[c]⟩])) {s with heap:=h2,gens:=s.gens,drawn:=s.drawn,toks:=tk+1}:=by
   refine I.step (ch:=[e,it]) (fun b j=>?_) (fun b o _ _ a q _=>g b o (fun z=>a (by simp[z])) (fun z=>a (by simp[z])) q) (fun b o _ _ a q _=>⟨o.slots,g b o (fun z=>a (by simp[z])) (fun z=>a (by simp[z])) q⟩)
    (fun b o _ q n=>by rw[aF (A4 (AK q))];exact n) (fun b o a q=>⟨o,g b o (fun z=>a (by simp[z])) (fun z=>a (by simp[z])) q⟩) (fun b ys q=>by rw[aF (l b _ q)];exact q) (fun b o B q=>by rw[aF (l b _ q)];exact q)
    (fun b ps q=>by rw[aF (l b _ q)];exact q) (fun m hm=>?_) F I.bare
   .rcases AG.mp j with z|z
    .subst z;exact ⟨f3,f1,f4,f5⟩
    .obtain rfl:b=it:=by simpa using z
     exact ⟨g3,G,W,g5⟩
   .obtain ⟨o,aa,ep,ho,r⟩:=hm
    exact ⟨o,aa,ep,g _ o (BG f1) (BG G) ho,r⟩
  refine ⟨.ref s.heap.objs.size,_,I2,rfl,⟨_,c,O,rfl,rfl,Q⟩,⟨⟨_,by simpa using se⟩,?_⟩,fun b j=>?_⟩
  .obtain ⟨o,q1,q2,q3⟩:=si
   exact ⟨o,(Z.2 it hei.symm).trans q1,q2,q3⟩
  .rcases AG.mp j with z|z
   .subst z;rw[aF (BG y)];exact N
   .obtain rfl:b=it:=by simpa using z
    obtain ⟨o,q,_⟩:=J
    rw[aF (A4 (AK q))];exact C
 done:=by
  intro X U Y R a i pins s σ H E I L st D
  subst U Y R
  obtain ⟨⟨f,s1⟩,J⟩:=st
  obtain ⟨C,G,g2,g3,W,g5⟩:=L it (by simp)
  have D:i=z.cps.size:=D
  subst D
  exact wpAny_pyNext_enum_endD (hT X.A.in1 (I.ok.hd a) it) s1 J fun h' eb=>⟨rfl,I.turned (t':=s.toks) (fun b o j q=>eb b o j q) C G g3 W g5⟩
 self:=fun _ _ _ _ _ st h=>EU st.1.choose_spec h
def aE9(ta:TA):TI:=fun σ H R=>ta σ H fun vs H1=>∃ z,vs=[.str z]/\R (Ity z) H1
theorem aHD{es:List Ez}{k1}{tpos:Pos}{a:Ez}{ta:TA}{p pos:Pos}(o:Gl X "enumerate")(hm:X.mg "enumerate"=none)(ha:PA X [a] ta)(D:starEach [a] X.env=[(false,eval a X.env)]:=by rfl) :
  PI X (.Tuple es k1 tpos) (.Call (.Name "enumerate" p) [a] [] pos) (aE9 ta):=by
 intro pins s σ H R I h
 refine Call_ (iZ I o hm FN (B6 (thn (ha pos pins s σ H _ I h) fun us s1 g=>?_) D rfl))
 obtain ⟨vs,H1,f,r,n⟩:=g
 obtain ⟨z,e,q⟩:=n
 subst e
 obtain ⟨u,rfl,t,rfl⟩:=mX r
 have y:∀ A:U9,A.handled=none->∀ d,Draws X.prog X.w A d [d] z.cps.size (fun i v=>∃ c u,z.cps[i]? = some c/\v=Value.str {cps:=#[c]} u) fun i h=>h.IsStrIter d (strIterType z) z t i:=fun A k d=>by
  unfold strIterType
  split
  · exact Draws.strAscii k d z t
  · exact Draws.strWide k d z t
 refine call_enumerate_str fun h' j B C l=>?_
 have x:Inv X pins σ H1 {s1 with heap:=h'}:=f.kept (t':=s1.toks) l
 refine EU j ?_
 refine ⟨s1.heap.objs.size+1,[s1.heap.objs.size+1,s1.heap.objs.size],_,_,H1,rfl,x,aC7 z t _ y _ _ (CL (DL _)),⟨⟨_,j⟩,B⟩,fun b m=>?_,q⟩
 rcases AG.mp m with z|z
 .subst z
  exact f.fpOk (D4 _) (f.hok.fresh (D4 _))
 .obtain rfl:b=s1.heap.objs.size:=by simpa using z
  exact f.fpOk (AM _) (f.hok.fresh (AM _))
end
theorem yJ{X:Cx}:i9 X (.builtin "isinstance") (fun xs H Q=>∃ a ys c cv b,xs=[.ref a,c]/\SqT X.K H a ys/\u9 c=some cv/\PySem.W.kitOne X.K (.type "tuple") cv=some b/\Q (.bl b) H):=by
 intro pins s σ H xs us Q I r h
 obtain ⟨a,ys,c,cv,b,rfl,j,d,e,q⟩:=h
 obtain ⟨u,v,rfl,i,g⟩:=tH r
 obtain rfl:=q9 d g
 cases (show u=Value.ref a from i)
 obtain ⟨f,_,⟨o,h1,h2,_⟩,_⟩:=I.tuple j
 exact B4 PySem.W.kitx_tuple I.kIn ⟨o,h1,h2⟩ e (fun z=>nomatch z) fun tk=>⟨.bl b,H,I.tok _,rfl,q⟩
structure RoomH(k:Nat)(A:Around):Prop where
 dp:A.depth+3 * k+5 < recursionLimit
 un:A.units+16 * k+200 < cLine
theorem Room.h{k:Nat}{A:U9}(r:Room k A):RoomH k A:=⟨r.dp,r.un⟩
structure FnOkH(P:Program)(w:World)(K:Frag)(mg:Str->Option V9)(base:Heap)(k:Nat)(f:Az)(fd:FuncData)(ps:List Str)(sp:Sp):Prop where
 len:∀ vs H Q E,sp vs H Q E->vs.length=ps.length
 run:∀ (A:Around) (outer:List Env) (s:S9) (H:Hp) (args:Args) (us:List V9) (vs:List V) (Q:VK),RoomH k A->Env0 P w K mg base A outer s H->BindsTo s fd args (ps.zip us)->aZ vs us->sp vs H Q E0->
  codeAny (model P w) A (.call (.ref f) args) (CR CX0 outer P w H s Q E0) s
theorem FnOkH.ok{P:P9}{w:W9}{K:Frag}{mg:Str->O6 V9}{base:Hz}{k:Nat}{f:Az}{fd:FuncData}{ps:List Str}{sp:Sp}(F:FnOkH P w K mg base k f fd ps sp)(a:∀ vs H Q E,sp vs H Q E->sp vs H Q E0):FnOk P w K mg base CX0 k f fd ps sp:=
 ⟨F.len,fun A outer s H args us vs Q E c b g d i=>DM (F.run A outer s H args us vs Q c.h b g d (a _ _ _ _ i)) fun r s' h=>by
  cases r with
  | error e=>exact h
  | ok fl=>cases fl<;>exact h⟩
end L2
namespace Mc
open PySem L2 PyProof.Rows
inductive Tn where
 | n (i:Int)|w (x:Str)
noncomputable def Tn.v:Tn->V
 | .n i=>.int i
 | .w x=>.str x
noncomputable def Tn.d:Tn->Dz
 | .n i=>.int i
 | .w x=>.str x
structure Rw where
 l:Tn
 c:List (Int×Int)
 r:Tn
def gZ(c:Int×Int):Dz:=.tuple [.int c.1,.int c.2]
def c9(r:Rw):Dz:=.tuple [r.l.d,.tuple (r.c.map gZ),r.r.d]
def bR(rs:List Rw):Dz:=.tuple (rs.map c9)
inductive CellsAt(K:Frag)(H:Hp):List V->List (Int×Int)->Prop
 | nil:CellsAt K H [] []
 | cons {q:Az} {a b:Int} {xs:List V} {cs:List (Int×Int)} (h:SqS K H q [.int a,.int b]) (t:CellsAt K H xs cs):CellsAt K H (.ref q::xs) ((a,b)::cs)
def xS(K:Frag)(H:Hp)(v:V)(r:Rw):Prop:=∃ p b cs,v=.ref p/\SqS K H p [r.l.v,.ref b,r.r.v]/\SqS K H b cs/\CellsAt K H cs r.c
inductive RowsAt(K:Frag)(H:Hp):List V->List Rw->Prop
 | nil:RowsAt K H [] []
 | cons {v:V} {r:Rw} {xs:List V} {rs:List Rw} (h:xS K H v r) (t:RowsAt K H xs rs):RowsAt K H (v::xs) (r::rs)
section
variable{K:Frag}{H H':Hp}
theorem CellsAt.same(e:aJ H H'):∀ {xs:List V} {cs:List (Int×Int)},CellsAt K H xs cs->CellsAt K H' xs cs
 | _,_,.nil=>.nil
 | _,_,.cons h t=>.cons (h.same e) (t.same e)
theorem xS.same(e:aJ H H'){v:V}{r:Rw}(h:xS K H v r):xS K H' v r:=by
 obtain ⟨p,b,d,h1,h2,c,a⟩:=h
 exact ⟨p,b,d,h1,h2.same e,c.same e,a.same e⟩
theorem RowsAt.same(e:aJ H H'):∀ {xs:List V} {rs:List Rw},RowsAt K H xs rs->RowsAt K H' xs rs
 | _,_,.nil=>.nil
 | _,_,.cons h t=>.cons (h.same e) (t.same e)
end
def oP(K:Frag)(a:Az)(xs:List V):Prop:=∃ (o:Obj) (its:Array V9) (n:Nat),K.lookup a=some o/\(o.cls=.type "tuple"/\o.dict=none)/\o.data=.seq its n/\its.size<=sizeLine/\aZ xs its.toList
theorem oP.sq{K:Frag}{a:Az}{xs:List V}(h:oP K a xs)(H:Hp):SqT K H a xs:=.inr h
theorem aJ6(i:Str):(PyData.str i).eqv (.str i)=true:=by rw[PyData.eqv.eq_6];simp
noncomputable def Tn.ok:Tn->Prop
 | .n _=>True
 | .w x=>PyData.strOk x=true
def Rw.ok(r:Rw):Prop:=r.l.ok/\r.r.ok
theorem vA:∀ {xs:List Dz},(∀ x∈xs,x.canLay0=true)->PyData.canLayAll0 xs=true
 | [],_=>by rfl
 | x::t,h=>by
  show (x.canLay0 && PyData.canLayAll0 t)=true
  rw[h x (AX ..),vA fun y a=>h y (AN _ a)];rfl
theorem pW{n:Nat}:∀ {xs:List Dz},(∀ x∈xs,x.depth<=n)->PyData.depthAll xs<=n
 | [],_=>CM _
 | x::t,h=>by
  show max x.depth (PyData.depthAll t)<=n
  exact Nat.max_le.mpr ⟨h x (AX ..),pW fun y a=>h y (AN _ a)⟩
def Sh(n:Nat)(d:Dz):Prop:=d.canLay0=true/\d.depth<=n
theorem yK{n:Nat}{xs:List Dz}(h:∀ x∈xs,Sh n x):Sh (n+1) (.tuple xs):=⟨vA fun x a=>(h x a).1,by
 have:=pW fun x a=>(h x a).2
 show PyData.depthAll xs+1<=n+1
 omega⟩
theorem sh_lst{n:Nat}{xs:List Dz}(h:∀ x∈xs,Sh n x):Sh (n+1) (.list xs):=⟨vA fun x a=>(h x a).1,by
 have:=pW fun x a=>(h x a).2
 show PyData.depthAll xs+1<=n+1
 omega⟩
theorem yL(n:Nat)(i:Int):Sh n (.int i):=⟨rfl,CM _⟩
theorem aMV(n:Nat){x:Str}(h:PyData.strOk x=true):Sh n (.str x):=⟨h,CM _⟩
theorem Sh.shaped{n:Nat}{d:Dz}(h:Sh n d)(hn:n<=64):SeqAt.shaped d=true:=by
 show (d.canLay0 && decide (d.depth<=64))=true
 rw[h.1,BM (BE h.2 hn)];rfl
section
variable{K:Frag}{H:Hp}{p q:Az}{xs ys:List V}{o:HO}
inductive NoL:Dz->Prop where
 | int (i:Int):NoL (.int i)
 | str (i:Str):NoL (.str i)
 | tup {ds:List Dz} (h:∀ d∈ds,NoL d):NoL (.tuple ds)
end
section
variable{K:Frag}{h:Hz}{mg:Str->O6 V9}
theorem b8{x:Str}{st:Stmt}{ps:List Str}{f:Az}{i:V9}{od e:O6 Az}{g:Array (O6 V9)}{kV doc pm d ct:V9}(X:K.In h)(G:h.Ns mainGlobals mg)
  (a:PySem.W.nsIn K mainGlobals x=some (some (.ref f))) (l:K.lookup f=some ⟨i,od,.func (PySem.W.fnOf x x (cZ st) (bY st) (aE st) .none kV doc pm e d ct),g⟩)
  (c:PySem.W.codeIn K d x=true) (k:PySem.W.keepIn K (.ref f)=true)
  (b:∀ (kV doc pm:V9) (e:O6 Az) (d ct:V9) (us:List V9),us.length=ps.length->bindArgs (PySem.W.fnOf x x (cZ st) (bY st) (aE st) .none kV doc pm e d ct) ⟨us,[]⟩=pure (ps.zip us)):DefAt K mg x st ps:=by
 have F:=i6 (st:=st) l c k
 exact ⟨f,_,F,F.binds b,B1 X G a⟩
theorem aMW{a:Az}{x y:Str}{c b n:Nat}{d:Array (O6 V9)}(l:K.lookup a=some ⟨.type "tuple",none,.seq #[.str x c,.str y b] n,d⟩):oP K a [.str x,.str y]:=
 ⟨_,_,_,l,⟨rfl,rfl⟩,rfl,by show 2<=sizeLine;decide,.cons ⟨_,rfl⟩ (.cons ⟨_,rfl⟩ .nil)⟩
theorem aMX{a:Az}{x y:Int}{c b n:Nat}{d:Array (O6 V9)}(l:K.lookup a=some ⟨.type "tuple",none,.seq #[.int x c,.int y b] n,d⟩):oP K a [.int x,.int y]:=
 ⟨_,_,_,l,⟨rfl,rfl⟩,rfl,by show 2<=sizeLine;decide,.cons ⟨_,rfl⟩ (.cons ⟨_,rfl⟩ .nil)⟩
end
section
variable{K:Frag}{h:Hz}{mg:Str->O6 V9}
theorem aJ7{W C N:Az}{bs sub:List V9}{nm q:Str}{ab:Bool}{sn:List Str}{col:O6 Bool}{dd:O6 Az}{k0 k1 k2 k3 k5:O6 V9}(l:K.lookup C=some (excClassObj nm q C N bs (.ref W::SX.iB) true sn sub ab col dd k0 k1 k2 k3 k5 "ValueError.__new__"))
 (f:PySem.W.findIn K (.ref C) "__setattr__"=some (some (.builtin "object.__setattr__"))) (d:PySem.W.findIn K (.ref C) "__getattribute__"=some (some (.builtin "BaseException.__getattribute__"))) (e:PySem.W.findIn K (.ref C) "__getattr__"=some none) (cl:PySem.W.findIn K (.ref C) "__class__"=some (some (.builtin "object.__class__")))
 (b:PySem.W.specialIn K (.builtin "object.__class__") "__get__"=some (some (.builtin "getset_descriptor.__get__"))) (a:PySem.W.takesIn K (.builtin "object.__class__")=some true) (c:PySem.W.keepIn K (.ref C)=true):SX.ExcC K W C:=⟨⟨_,_,_,_,_,_,_,_,_,_,_,_,_,_,l⟩,f,d,e,cl,b,a,c⟩
theorem iQ{t:V9}{C:Az}{cd:ClassData}{b:Bool}(h0:(t == Value.ref C)=false)(h1:PySem.W.clsIn K C=some cd)(h2:PySem.W.typeIn K (.ref C)=some (.type "type"))(a:PySem.W.subIn K t (.ref C)=some b):PySem.W.kitOne K t (.ref C)=some b:=by
 unfold PySem.W.kitOne
 rw[h0,AI (by decide)]
 unfold PySem.W.kitCls
 simp only[h1,h2]
 rw[AE (by rfl)]
 exact a
theorem sM{C:Az}:PySem.W.kitOne K (.ref C) (.ref C)=some true:=by
 unfold PySem.W.kitOne
 rw[AE (by simp)]
end
noncomputable def dQ(n c:Nat):Bool:=decide (97<=c/\c < 97+n)
noncomputable def k8(n:Nat):Nat->List Nat->O6 Nat
 | _,[]=>none
 | i,c::t=>if dQ n c=true then k8 n (i+1) t else some i
theorem tQ(n i c:Nat)(t:List Nat):k8 n i (c::t)=if dQ n c=true then k8 n (i+1) t else some i:=rfl
theorem occ_one(x:Str)(c:Nat):(Builtin.Str.occurrences x ⟨#[c]⟩ 0 x.length 1=[]/\∀ i:Nat,x.cps.toList[i]? ≠ some c)\/∃ (i:Nat) (r:List Nat),Builtin.Str.occurrences x ⟨#[c]⟩ 0 x.length 1=i::r/\x.cps.toList[i]? = some c/\∀ k:Nat,k < i->x.cps.toList[k]? ≠ some c:=by
 rcases StrLaws.occ_head x ⟨#[c]⟩ 1 (AM _) with ⟨h1,h2⟩|⟨i,r,h1,h2,a⟩
 · exact .inl ⟨h1, fun i e => h2 i ((GC x c i).mpr e)⟩
 · exact .inr ⟨i, r, h1, (GC x c i).mp h2, fun k b e => a k b ((GC x c k).mpr e)⟩
theorem aJ8{n:Nat}(h1:1<=n)(h2:n<=3):(Txt.slice "abc" none (some (n:Int))).cps.toList=[97,98,99].take n:=by
 obtain rfl|rfl|rfl:n=1\/n=2\/n=3:=by omega
 all_goals decide +kernel
theorem wI{n c:Nat}(h1:1<=n)(h2:n<=3):dQ n c=true↔∃ i:Nat,(([97,98,99]:List Nat).take n)[i]? = some c:=by
 unfold dQ
 rw[decide_eq_true_iff]
 constructor
 .intro h
  refine ⟨c - 97,?_⟩
  obtain rfl|rfl|rfl:n=1\/n=2\/n=3:=by omega
  .obtain rfl:c=97:=by omega
   rfl
  .obtain rfl|rfl:c=97\/c=98:=by omega
   all_goals rfl
  .obtain rfl|rfl|rfl:c=97\/c=98\/c=99:=by omega
   all_goals rfl
 .rintro ⟨i,e⟩
  obtain ⟨hi,b⟩:=AS.mp e
  have a:=EE hi
  rw[b] at a
  obtain rfl|rfl|rfl:n=1\/n=2\/n=3:=by omega
  all_goals
   simp at a
   omega
theorem aHE{n c:Nat}(h1:1<=n)(h2:n<=3):(!(!(Builtin.Str.occurrences (Txt.slice "abc" none (some (n:Int))) ⟨#[c]⟩ 0 (Txt.slice "abc" none (some (n:Int))).length 1).isEmpty)) = !dQ n c:=by
 have e:=aJ8 h1 h2
 rcases occ_one (Txt.slice "abc" none (some (n:Int))) c with ⟨a,b⟩|⟨i,r,a,b,_⟩
 .rw[a]
  have:dQ n c=false:=GA.mpr fun z=>by
   obtain ⟨i,hi⟩:=(wI h1 h2).mp z
   rw[e] at b
   exact b i hi
  rw[this];rfl
 .rw[a]
  rw[e] at b
  rw[(wI h1 h2).mpr ⟨i,b⟩];rfl
theorem aFA{c:Nat}(h:dQ 3 c=true):∃ r,Builtin.Str.occurrences "abc" ⟨#[c]⟩ 0 ("abc":Str).length 1=(c - 97)::r:=by
 have h:=CW h
 refine ⟨[],?_⟩
 obtain rfl|rfl|rfl:c=97\/c=98\/c=99:=by omega
 all_goals decide +kernel
end Mc
namespace L2
open PySem PySem.Spec PyProof.Rows
section
variable{κ:Type}[DecidableEq κ]
theorem gM.getD{o:O6 V}{u:O6 V9}{d:V}{d':V9}(r:gM o u)(a:bB d d'):bB (o.getD d) (u.getD d'):=by
 cases o with
 | none=>cases u with
  | none=>exact a
  | some _=>exact (show False from r).elim
 | some _=>cases u with
  | none=>exact (show False from r).elim
  | some _=>exact r
theorem KV.any{a:List (κ×V)}{vs:List (κ×V9)}(r:KV a vs)(k:κ):(a.any fun kv=>decide (kv.1=k))=vs.any fun kv=>decide (kv.1=k):=by
 unfold KV at r
 induction r with
 | nil=>rfl
 | cons h t ih=>rw[FX,FX,ih,h.1]
theorem KV.length{a:List (κ×V)}{vs:List (κ×V9)}(r:KV a vs):a.length=vs.length:=Paired.length r
end
theorem aI5{P:P9}{w:W9}{k:Key}{u:V9}(r:bB (kV k) u):(cA P w).is k u=true:=by
 cases k with
 | inl i=>obtain ⟨t,e⟩:=(show ∃ t,u=Value.int i t from r);subst e;exact aA7 P w i t
 | inr x=>obtain ⟨t,e⟩:=(show ∃ t,u=Value.str x t from r);subst e;exact aA8 P w x t
section
variable{X:Cx}{pins:List (Az×Obj)}{σ:St}{H:Hp}{s:S9}{a:Az}{y v:V}{u r:V9}{o:O6 V}{A:U9}{E:V9->S9->Prop}
theorem Inv.big(I:Inv X pins σ H s):sysModules < s.heap.objs.size:=by
 have h:mainGlobals < s.heap.objs.size:=(I.mod.glob.keeps I.bk).lt
 exact Nat.lt_trans (by decide) h
theorem aBP{h':Hz}{t':Nat}{c:HO}(I:Inv X pins σ H s)(d:Mut (H a))(h:Heap.SameBut a s.heap h')(g:∃ q,h'.get? a=some q)(new:b9 X.prog X.w (upd H a c) h' a c) :
  Inv X pins σ (upd H a c) {s with heap:=h',toks:=t'}:=
 I.write (x:=a) (e:=a) d (.inl rfl) (fun b q f z=>(h.2 b f).trans z) g new
end
structure M1(X:Cx)(o:Expr)(m:Str)(apos:Pos)(e:Expr)(cpos:Pos):Prop where
 base:attributeBase o m X.env (eval o X.env)=eval o X.env
 few:((backTo cpos (starEach [e] X.env)).all (fun x=>!x.1) && (backToKw cpos (keywordEach [] X.env)).all (fun x=>x.1.isSome)
  && decide (([e]:List Expr).length+([]:List Keyword).length+(if ([]:List Keyword).isEmpty then 0 else 1) < 30))=true
 line:(apos.endLine == cpos.line)=true
 trees:backTo cpos (starEach [e] X.env)=[(false,eval e X.env)]
structure M2(X:Cx)(o:Expr)(m:Str)(apos:Pos)(e f:Expr)(cpos:Pos):Prop where
 base:attributeBase o m X.env (eval o X.env)=eval o X.env
 few:((backTo cpos (starEach [e,f] X.env)).all (fun x=>!x.1) && (backToKw cpos (keywordEach [] X.env)).all (fun x=>x.1.isSome)
  && decide (([e,f]:List Expr).length+([]:List Keyword).length+(if ([]:List Keyword).isEmpty then 0 else 1) < 30))=true
 line:(apos.endLine == cpos.line)=true
 trees:backTo cpos (starEach [e,f] X.env)=[(false,eval e X.env),(false,eval f X.env)]
def nO(ks:List (List Key×Az))(k:List Key):Bool:=ks.any fun p=>decide (p.1=k)
def yM(K:Frag)(H:Hp)(ks:List (List Key×Az)):Prop:=∀ p∈ks,SqT K H p.2 (p.1.map kV)
theorem yM.same{K:Frag}{H H':Hp}{ks:List (List Key×Az)}(e:aJ H H')(h:yM K H ks):yM K H' ks:=fun p a=>SqT.same e (h p a)
end L2
namespace Mc
open PySem L2 PyProof.Rows
def Tn.good(n:Int):Tn->Prop
 | .n i=>0<=i/\i < n
 | .w x=>x="by"\/x="out"
def sN(n:Int)(c:Int×Int):Prop:=0<=c.1/\c.1 < n/\(c.2=1\/c.2 = -1)
def Rw.good(n:Int)(r:Rw):Prop:=r.l.good n/\r.r.good n/\∀ c∈r.c,sN n c
theorem Tn.good.ok{n:Int}{t:Tn}(h:t.good n):t.ok:=by
 cases t with
 | n i=>trivial
 | w x=>
  rcases h with rfl|rfl
  · exact (show PyData.strOk _ = true by decide +kernel)
  · exact (show PyData.strOk _ = true by decide +kernel)
theorem Rw.good.ok{n:Int}{r:Rw}(h:r.good n):r.ok:=⟨h.1.ok,h.2.1.ok⟩
structure Mach(rs:List Rw)(sg:Nat):Prop where
 len:1<=rs.length
 len2:rs.length<=1000
 sg1:1<=sg
 sg3:sg<=3
 row:∀ r∈rs,r.good rs.length/\r.c.length=sg
def cI(sg:Nat)(z:List Nat):Prop:=z.length<=1000/\∀ c∈z,dQ sg c=true
theorem yN{sg:Nat}:∀ {z:List Nat} {i:Nat},(∀ c∈z,dQ sg c=true)->k8 sg i z=none
 | [],_,_=>rfl
 | c::t,i,h=>by
  rw[tQ,AE (h c (by simp))]
  exact yN fun x a=>h x (by simp[a])
noncomputable def cW(rs:List Rw)(q:Int):Rw:=rs.getD q.toNat ⟨.n 0,[],.n 0⟩
noncomputable def bJ(rs:List Rw)(z:List Nat)(st:Int×Int):Tn×Int:=
 if st.1=0 then ((cW rs st.2).l,1) else if st.1=(z.length:Int)+1 then ((cW rs st.2).r,-1) else
  (.n ((cW rs st.2).c.getD (z.getD (st.1.toNat - 1) 97 - 97) (0,0)).1,((cW rs st.2).c.getD (z.getD (st.1.toNat - 1) 97 - 97) (0,0)).2)
def cD(rs:List Rw)(z:List Nat)(st:Int×Int):O6 (Int×Int):=
 match (bJ rs z st).1 with
 | .w _=>none
 | .n q=>some (st.1+(bJ rs z st).2,q)
def fC(rs:List Rw)(z:List Nat)(st:Int×Int):Prop:=0<=st.1/\st.1<=(z.length:Int)+1/\0<=st.2/\st.2 < (rs.length:Int)
theorem mY{rs:List Rw}{q:Int}(h0:0<=q)(h1:q < rs.length):rs[q.toNat]? = some (cW rs q):=by
 have h:q.toNat < rs.length:=by omega
 unfold cW
 rw[A9,AH h];rfl
theorem vB{rs:List Rw}{sg:Nat}{z:List Nat}{st:Int×Int}(S:cI sg z)(V:fC rs z st)(h0:st.1≠0)(h1:st.1≠(z.length:Int)+1):∃ c,z[st.1.toNat - 1]? = some c/\dQ sg c=true/\z.getD (st.1.toNat - 1) 97=c:=by
 obtain ⟨a,b,_,_⟩:=V
 have d:st.1.toNat - 1 < z.length:=by omega
 refine ⟨z[st.1.toNat - 1],by simp[d],S.2 _ (EE d),by rw[A9,AH d];rfl⟩
theorem mC{rs:List Rw}{sg:Nat}{z:List Nat}{st:Int×Int}(M:Mach rs sg)(S:cI sg z)(V:fC rs z st)(h0:st.1≠0)(h1:st.1≠(z.length:Int)+1) :
  ∃ c,(cW rs st.2).c[z.getD (st.1.toNat - 1) 97 - 97]? = some c/\(cW rs st.2).c.getD (z.getD (st.1.toNat - 1) 97 - 97) (0,0)=c/\sN rs.length c:=by
 obtain ⟨c,_,d,e⟩:=vB S V h0 h1
 rw[e]
 have d:=CW d
 have b:=M.row _ (A6 (mY V.2.2.1 V.2.2.2))
 have a:c - 97 < (cW rs st.2).c.length:=by rw[b.2];omega
 refine ⟨(cW rs st.2).c[c - 97],by simp[a],by rw[A9,AH a];rfl,b.1.2.2 _ (EE a)⟩
theorem tR{rs:List Rw}{sg:Nat}{z:List Nat}{st i:Int×Int}(M:Mach rs sg)(S:cI sg z)(V:fC rs z st)(h:cD rs z st=some i):fC rs z i:=by
 have m:=M.row _ (A6 (mY V.2.2.1 V.2.2.2))
 obtain ⟨a,b,c,d⟩:=id V
 unfold cD bJ at h
 by_cases j:st.1=0
 .simp only[AE j] at h
  have g:=m.1.1
  cases e:(cW rs st.2).l with
  | w x=>rw[e] at h;cases h
  | n q=>
   rw[e] at h g
   cases h
   exact ⟨by show 0<=st.1+1;omega,by show st.1+1<=_;omega,g.1,g.2⟩
 .by_cases h1:st.1=(z.length:Int)+1
  .simp only[AI j,AE h1] at h
   have g:=m.1.2.1
   cases e:(cW rs st.2).r with
   | w x=>rw[e] at h;cases h
   | n q=>
    rw[e] at h g
    cases h
    exact ⟨by show 0<=st.1 + -1;omega,by show st.1 + -1<=_;omega,g.1,g.2⟩
  .obtain ⟨k,_,e,g⟩:=mC M S V j h1
   simp only[AI j,AI h1] at h
   rw[e] at h
   cases h
   obtain ⟨o,p,f⟩:=g
   refine ⟨?_,?_,o,p⟩
   .show 0<=st.1+k.2;rcases f with f|f<;>omega
   .show st.1+k.2<=_;rcases f with f|f<;>omega
theorem wJ:∀ (N:Nat) (l:List Nat),l.Nodup->(∀ x∈l,x < N)->l.length<=N
 | 0,l,_,h=>by
  cases l with
  | nil=>exact AM _
  | cons a t=>exact absurd (h a (by simp)) (by omega)
 | N+1,l,hn,h=>by
  have ih:=wJ N (l.erase N) (hn.erase N) (fun x b=>by
   have:=(hn.mem_erase_iff).mp b
   have h2:=h x this.2
   omega)
  have:=List.length_erase (a:=N) (l:=l)
  split at this<;>omega
theorem aC8{rs:List Rw}{z:List Nat}{l:List (Int×Int)}(hn:l.Nodup)(g:∀ st∈l,fC rs z st):l.length<=(z.length+2) * rs.length:=by
 have h:=wJ ((z.length+2) * rs.length) (l.map fun st=>st.1.toNat * rs.length+st.2.toNat) ?_ ?_
 .rw[AD] at h;exact h
 .unfold List.Nodup
  rw[List.pairwise_map]
  refine List.Pairwise.imp_of_mem (fun {a b} ha hb hab e=>hab ?_) hn
  obtain ⟨o,m,j,k⟩:=g a ha
  obtain ⟨q,p,r,s⟩:=g b hb
  have i:0 < rs.length:=by omega
  have e1:(a.1.toNat * rs.length+a.2.toNat) / rs.length=(b.1.toNat * rs.length+b.2.toNat) / rs.length:=by rw[e]
  have e2:(a.1.toNat * rs.length+a.2.toNat) % rs.length=(b.1.toNat * rs.length+b.2.toNat) % rs.length:=by rw[e]
  have d:a.2.toNat < rs.length:=by omega
  have c:b.2.toNat < rs.length:=by omega
  rw[FA,Nat.mul_add_div i,FA b.1.toNat,Nat.mul_add_div i,Nat.div_eq_of_lt d,Nat.div_eq_of_lt c] at e1
  rw[FA,Nat.mul_add_mod,FA b.1.toNat,Nat.mul_add_mod,Nat.mod_eq_of_lt d,Nat.mod_eq_of_lt c] at e2
  exact Prod.ext (by omega) (by omega)
 .intro x n
  obtain ⟨st,f,rfl⟩:=C0.mp n
  obtain ⟨o,m,j,k⟩:=g st f
  have h1:st.1.toNat+1<=z.length+2:=by omega
  have h2:st.2.toNat < rs.length:=by omega
  calc st.1.toNat * rs.length+st.2.toNat < st.1.toNat * rs.length+rs.length:=by omega
   _=(st.1.toNat+1) * rs.length:=by rw[Nat.add_mul];omega
   _<=(z.length+2) * rs.length:=Nat.mul_le_mul_right _ h1
noncomputable def rA(rs:List Rw)(z:List Nat):Nat->List (Int×Int)->Int×Int->List (Int×Int)
 | 0,ps,st=>ps++[st]
 | k+1,ps,st=>if st∈ps then ps++[st] else match cD rs z st with
  | none=>ps++[st]
  | some st'=>rA rs z k (ps++[st]) st'
def jA(rs:List Rw)(z:List Nat):Nat:=(z.length+2) * rs.length
def eH(rs:List Rw)(z:List Nat):List (Int×Int):=rA rs z (jA rs z) [] (0,0)
structure Way(rs:List Rw)(z:List Nat)(ps:List (Int×Int))(st:Int×Int)(k:Nat):Prop where
 nd:ps.Nodup
 val:∀ s∈ps++[st],fC rs z s
 num:ps.length+k=jA rs z
 res:rA rs z k ps st=eH rs z
theorem Way.start{rs:List Rw}{sg:Nat}{z:List Nat}(M:Mach rs sg):Way rs z [] (0,0) (jA rs z) where
 nd:=C3
 val:=fun s a=>by
  obtain rfl:s=(0,0):=by simpa using a
  have:=M.len
  exact ⟨GX _,by show (0:Int)<=_;omega,GX _,by show (0:Int) < _;omega⟩
 num:=by simp
 res:=rfl
theorem Way.here{rs:List Rw}{z:List Nat}{ps:List (Int×Int)}{st:Int×Int}{k:Nat}(W:Way rs z ps st k):fC rs z st:=W.val st (by simp)
theorem Way.stop{rs:List Rw}{z:List Nat}{ps:List (Int×Int)}{st:Int×Int}{k:Nat}(W:Way rs z ps st k)(h:st∈ps):ps++[st]=eH rs z:=by
 rw[<-W.res]
 cases k with
 | zero=>rfl
 | succ k=>unfold rA;rw[AE h]
theorem Way.more{rs:List Rw}{z:List Nat}{ps:List (Int×Int)}{st:Int×Int}{k:Nat}(W:Way rs z ps st k)(h:st∉ps):∃ j,k=j+1:=by
 have g:(ps++[st]).Nodup:=by
  rw[C8]
  exact ⟨W.nd,by simp,fun a f b d e=>by rw[A1.mp d] at e;exact h (e▸f)⟩
 have:=aC8 g W.val
 rw[AU] at this
 have c:=W.num
 unfold jA at c
 simp only[AL,AZ] at this
 exact ⟨k - 1,by omega⟩
theorem Way.ends{rs:List Rw}{z:List Nat}{ps:List (Int×Int)}{st:Int×Int}{k:Nat}(W:Way rs z ps st k)(h:st∉ps)(e:cD rs z st=none):ps++[st]=eH rs z:=by
 obtain ⟨j,rfl⟩:=W.more h
 rw[<-W.res]
 unfold rA
 rw[AI h,e]
theorem Way.next{rs:List Rw}{sg:Nat}{z:List Nat}{ps:List (Int×Int)}{st c:Int×Int}{k:Nat}(M:Mach rs sg)(S:cI sg z)(W:Way rs z ps st (k+1))(h:st∉ps)(e:cD rs z st=some c):Way rs z (ps++[st]) c k where
 nd:=by
  rw[C8]
  exact ⟨W.nd,by simp,fun a g b d e=>by rw[A1.mp d] at e;exact h (e▸g)⟩
 val:=fun s f=>by
  rcases B3.mp f with q|q
  · exact W.val s q
  · rw [A1.mp q]; exact tR M S W.here e
 num:=by rw[AU];have:=W.num;simp;omega
 res:=by
  rw[<-W.res]
  conv=>rhs;unfold rA
  rw[AI h,e]
end Mc
namespace L2
open PySem PySem.Spec PyProof.Rows
theorem nZ:∀ {ys:List Str} {us:List V9},aZ (ys.map V.str) us->StrsAre us ys
 | [],_,.nil=>.nil
 | y::ys,_,.cons r t=>by obtain ⟨t',rfl⟩:=r;exact .cons y t' (nZ t)
def aI6(K:Frag):V->List V->Hp->VK->Prop:=fun x vs H Q=>∃ (sep:Str) (a:Az) (ys:List Str),x=.str sep/\vs=[.ref a]/\SqL K H a (ys.map V.str)/\(ys.map fun y=>y.length).sum+ys.length * sep.length<=16777216/\Q (.str (Txt.join sep ys)) H
theorem aJ9{X:Cx}:MtR X "str.join" (aI6 X.K):=by
 intro pins s σ H x vs v us Q I f e h
 obtain ⟨j,a,ys,rfl,rfl,i,d,q⟩:=h
 obtain ⟨t,rfl⟩:=f
 obtain ⟨u,rfl,g⟩:=e.one
 cases (show u=Value.ref a from g)
 obtain ⟨b,r,c,_⟩:=I.list i
 exact join_list (items:=b.toArray) c.isList (by simpa using nZ r) d fun l k=>⟨.str _,H,I.tok _,⟨_,rfl⟩,q⟩
end L2
namespace Mc
open PySem L2 PyProof.Rows
noncomputable def one(c:Nat):Str:=⟨#[c]⟩
theorem aFB(b:List Nat):∀ (a:Array Nat),(List.foldl (fun acc p=>acc++("":Str).cps++p.cps) a (b.map one)).toList=a.toList++b:=by
 induction b with
 | nil=>intro a;simp
 | cons c t ih=>
  intro a
  rw[AJ,List.foldl_cons,ih]
  have:("":Str).cps = #[]:=rfl
  rw[this]
  simp[one]
theorem aHF(a:List Nat):(Txt.join "" (a.map one)).cps.toList=a:=by
 unfold Txt.join Builtin.Str.glued
 cases a with
 | nil=>rfl
 | cons c t=>
  show (List.foldl _ (one c).cps (t.map one)).toList=_
  rw[aFB];rfl
theorem aKA(a:List Nat):((a.map one).map fun y=>y.length).sum=a.length:=by
 induction a with
 | nil=>rfl
 | cons c t ih=>rw[AJ,AJ,List.sum_cons,ih,AL];show 1+_=_;omega
theorem aKB{x y:Str}(h:x.cps.toList=y.cps.toList):x=y:=by
 cases x;cases y
 simp only[Str.mk.injEq]
 exact Array.toList_inj.mp h
theorem aKC(a:List Nat):Txt.join "" (a.map one)=⟨a.toArray⟩:=aKB (by rw[aHF])
theorem aKD{k:Int}{sg:Nat}(h1:1<=sg)(d:sg<=3):∃ c,atI ("abc":Str).cps.toList (k % (sg:Int))=some c/\dQ sg c=true:=by
 have b:=CZ k (show (sg:Int)≠0 by omega)
 have h2:=CJ k (show (0:Int) < sg by omega)
 obtain ⟨j,a⟩:∃ j:Nat,k % (sg:Int)=j:=⟨(k % (sg:Int)).toNat,by omega⟩
 rw[a] at b h2 ⊢
 refine ⟨97+j,?_,BM (by omega)⟩
 obtain rfl|rfl|rfl:j=0\/j=1\/j=2:=by omega
 all_goals decide +kernel
section
variable{S O:Type}
inductive Ex(st:S->Option (S⊕O)):Nat->S->O->Prop
 | out {s:S} {o:O} (h:st s=some (.inr o)):Ex st 0 s o
 | go {s s':S} {o:O} {n:Nat} (h:st s=some (.inl s')) (t:Ex st n s' o):Ex st (n+1) s o
inductive Rc(st:S->Option (S⊕O)):Nat->S->S->Prop
 | nil {s:S}:Rc st 0 s s
 | cons {s s' s'':S} {n:Nat} (h:st s=some (.inl s')) (t:Rc st n s' s''):Rc st (n+1) s s''
variable{st:S->O6 (S⊕O)}
theorem Ex.det{n c:Nat}{s:S}{o o':O}(a:Ex st n s o)(b:Ex st c s o'):n=c/\o=o':=by
 induction a generalizing c o' with
 | out h=>
  cases b with
  | out h'=>rw[h] at h';cases h';exact ⟨rfl,rfl⟩
  | go h' t=>rw[h] at h';cases h'
 | go h t ih=>
  cases b with
  | out h'=>rw[h] at h';cases h'
  | go h' t'=>
   rw[h] at h';cases h'
   obtain ⟨e,d⟩:=ih t'
   exact ⟨by omega,d⟩
theorem Rc.ex{k n:Nat}{s s':S}{o:O}(a:Rc st k s s')(b:Ex st n s o):∃ n',n=n'+k/\Ex st n' s' o:=by
 induction a generalizing n with
 | nil=>exact ⟨n,rfl,b⟩
 | cons h t ih=>
  cases b with
  | out h'=>rw[h] at h';cases h'
  | go h' t'=>
   rw[h] at h';cases h'
   obtain ⟨n',e,q⟩:=ih t'
   exact ⟨n',by omega,q⟩
theorem Rc.snoc{k:Nat}{s s' b:S}(a:Rc st k s s')(h:st s'=some (.inl b)):Rc st (k+1) s b:=by
 induction a with
 | nil=>exact .cons h .nil
 | cons h' t ih=>exact .cons h' (ih h)
theorem Rc.round{m n:Nat}{s:S}{o:O}(a:Rc st (m+1) s s):¬ Ex st n s o:=fun b=>by
 obtain ⟨c,e,q⟩:=a.ex b
 have:=(b.det q).1
 omega
def Res(st:S->O6 (S⊕O))(s:S)(r:O6 O):Prop:=∀ o,r=some o↔∃ n,Ex st n s o
theorem Res.det{s:S}{r c:O6 O}(a:Res st s r)(b:Res st s c):r=c:=by
 apply Option.ext
 intro o
 exact (a o).trans (b o).symm
theorem Res.out{s:S}{o:O}(h:st s=some (.inr o)):Res st s (some o):=fun o'=>by
 constructor
 · intro e; cases e; exact ⟨0, .out h⟩
 · rintro ⟨n, q⟩; rw [((Ex.out h).det q).2]
theorem Res.step{s s':S}{r:O6 O}(h:st s=some (.inl s'))(a:Res st s' r):Res st s r:=fun o=>by
 rw[a o]
 constructor
 .rintro ⟨n,q⟩;exact ⟨n+1,.go h q⟩
 .rintro ⟨n,q⟩
  cases q with
  | out h'=>rw[h] at h';cases h'
  | go h' t=>rw[h] at h';cases h';exact ⟨_,t⟩
theorem Res.round{s:S}{m:Nat}(a:Rc st (m+1) s s):Res st s none:=fun o=>by
 constructor
 · intro e; cases e
 · rintro ⟨n, q⟩; exact absurd q a.round
open Classical in
noncomputable def mZ(st:S->O6 (S⊕O))(s:S):O6 O:=if h:∃ o n,Ex st n s o then some h.choose else none
theorem aFC(st:S->O6 (S⊕O))(s:S):Res st s (mZ st s):=fun o=>by
 unfold mZ
 by_cases h:∃ o n,Ex st n s o
 .rw[dif_pos h]
  obtain ⟨n,q⟩:=h.choose_spec
  constructor
  · intro e; cases e; exact ⟨n, q⟩
  · rintro ⟨n', q'⟩; rw [(q.det q').2]
 .rw[dif_neg h]
  constructor
  · intro e; cases e
  · rintro ⟨n, q⟩; exact absurd ⟨o, n, q⟩ h
theorem Res.eq{s:S}{r:O6 O}(a:Res st s r):r=mZ st s:=a.det (aFC st s)
structure Und2(st:S->Option (S⊕O))(s0:S)(ps:List S)(s:S):Prop where
 nd:ps.Nodup
 back:∀ p∈ps,∃ m,Rc st (m+1) p s
 res:∀ r,Res st s r->Res st s0 r
theorem Und2.start{a:S}:Und2 st a [] a:=⟨C3,fun p b=>by simp at b,fun r h=>h⟩
theorem Und2.next{c s s':S}{ps:List S}(U:Und2 st c ps s)(hn:s∉ps)(h:st s=some (.inl s')):Und2 st c (ps++[s]) s' where
 nd:=by
  rw[C8]
  exact ⟨U.nd,by simp,fun a g b f e=>by rw[A1.mp f] at e;exact hn (e▸g)⟩
 back:=fun p d=>by
  rcases B3.mp d with q|q
  · obtain ⟨m, r⟩ := U.back p q; exact ⟨m + 1, r.snoc h⟩
  · rw [A1.mp q]; exact ⟨0, .cons h .nil⟩
 res:=fun r a=>U.res r (a.step h)
theorem Und2.met{a s:S}{ps:List S}(U:Und2 st a ps s)(h:s∈ps):mZ st a=none:=by
 obtain ⟨m,r⟩:=U.back s h
 exact ((U.res _ (Res.round r)).eq).symm
theorem Und2.outs{a s:S}{ps:List S}{o:O}(U:Und2 st a ps s)(h:st s=some (.inr o)):mZ st a=some o:=((U.res _ (Res.out h)).eq).symm
end
abbrev Th:=O6 (Int×Int)
structure Tb where
 f:List Th
 a:List Th
def aFD(m:Nat):Th->Prop
 | none=>True
 | some (d,q)=>(d=1\/d = -1)/\0<=q/\q < (m:Int)
structure Tb.good(m:Nat)(t:Tb):Prop where
 lf:t.f.length=m
 la:t.a.length=m
 gf:∀ x∈t.f,aFD m x
 ga:∀ x∈t.a,aFD m x
end Mc
namespace L2
open PySem PySem.Spec PyProof.Rows
def Its(z:Str):It:=⟨fun i _=>i < z.cps.size,fun i H x H'=>H'=H/\∃ c,z.cps[i]? = some c/\x=.str ⟨#[c]⟩,fun i _=>i=z.cps.size⟩
theorem yO{P:P9}{w:W9}{K:Frag}{tg:Ez}(z:Str)(t:Tok)(T:String)(G:∀ A:U9,A.handled=none->∀ it,Walks P w A it [it] [it] z.cps.size (SignAt z) fun i h=>h.IsStrIter it T z t i)
  (a:∀ (A:U9) (it:Az) (i:Nat) (s:S9) (Q E:V9->S9->Prop),s.heap.IsStrIter it T z t i->Q (.ref it) s->wpAny (model P w) A (pyIter (.ref it)) Q E s)
  (F:["enumerate","zip","dict_itemiterator","dict_reverseitemiterator","odict_iterator","itertools.zip_longest","itertools.pairwise"].contains T=false) (it:Az):Turn P w K tg (Its z) [it] it (fun i h=>h.IsStrIter it T z t i) where
 mem:=by simp
 obj:=fun i h st b f=>by
  obtain rfl:b=it:=by simpa using f
  obtain ⟨o,e,c,d⟩:=st
  exact ⟨o,e,fun v z=>by rw[d] at z;cases z⟩
 keep:=fun i h h' st k=>by
  obtain ⟨o,e,c,d⟩:=st
  exact ⟨o,k it (by simp) o e,c,d⟩
 item:=by
  intro X B n x C i pins s σ H E I l st j
  subst B n x
  obtain ⟨p,m,M,D,q,r⟩:=l it (by simp)
  refine (G X.A (I.ok.hd C) it).item i s _ E j st fun v h' tk J g y=>?_
  obtain ⟨c,tc,u,rfl⟩:=J
  have N:Inv X pins σ H {s with heap:=h',toks:=tk}:=I.turned (t':=tk) (it:=it) (fun b o f e=>y b o (by simpa using f) e) p m D q r
  obtain ⟨o,e,L,d⟩:=id g
  exact ⟨_,rfl,xP (s:={s with heap:=h',toks:=tk}) e L d F ⟨.str ⟨#[c]⟩,H,N,⟨_,rfl⟩,⟨rfl,c,u,rfl⟩,g,fun b f=>(l b f).1⟩⟩
 done:=by
  intro X B n x C i pins s σ H E I l st j
  subst B n x
  obtain ⟨p,m,M,D,q,r⟩:=l it (by simp)
  have j:i=z.cps.size:=j
  subst j
  exact (G X.A (I.ok.hd C) it).done s _ E st fun h' tk y=>⟨rfl,I.turned (t':=tk) (it:=it) (fun b o f e=>y b o (by simpa using f) e) p m D q r⟩
 self:=fun A i s Q E st h=>a A it i s Q E st h
def aPW(te:TE):TI:=fun σ H R=>te σ H fun x H1=>∃ z,x=.str z/\R (Its z) H1
theorem aFE{X:Cx}{tg l:Ez}{tl:TE}(u:PE X l tl):PI X tg l (aPW tl):=by
 intro pins s σ H R I h
 refine thn (u pins s σ H _ I h) fun v s1 j=>?_
 obtain ⟨x,H1,k,r,p⟩:=j
 obtain ⟨z,e,q⟩:=p
 subst e
 obtain ⟨t,rfl⟩:=r
 refine wpAny_pyIter_strU ?_
 have d:Inv X pins σ H1 {s1 with heap:=s1.heap.push {cls:=.type (strIterType z),data:=.fields #[.str z t,.int 0 0]}}:=k.kept (t':=s1.toks) fun b o e=>AB _ e
 have st:(s1.heap.push {cls:=.type (strIterType z),data:=.fields #[.str z t,.int 0 0]}).IsStrIter s1.heap.objs.size (strIterType z) z t 0:=⟨_,AV _ rfl,rfl,rfl⟩
 have c:∀ b∈[s1.heap.objs.size],iX X pins H1 b:=fun b n=>by
  obtain rfl:=A1.mp n
  exact k.fpOk (AM _) (k.hok.fresh (AM _))
 by_cases m:(z.cps.all fun x=>decide (x < 128))=true
 .have f:strIterType z="str_ascii_iterator":=by unfold strIterType;rw[AE m]
  rw[f] at st d ⊢
  exact ⟨s1.heap.objs.size,[s1.heap.objs.size],_,_,H1,rfl,d,yO z t "str_ascii_iterator" (fun A g a=>Walks.strAscii g a z t) (fun A a i s Q E st h=>wpAny_pyIter_striter_ascii st h) (by decide) _,st,c,q⟩
 .have f:strIterType z="str_iterator":=by unfold strIterType;rw[AI m]
  rw[f] at st d ⊢
  exact ⟨s1.heap.objs.size,[s1.heap.objs.size],_,_,H1,rfl,d,yO z t "str_iterator" (fun A g a=>Walks.strWide g a z t) (fun A a i s Q E st h=>wpAny_pyIter_striter_wide st h) (by decide) _,st,c,q⟩
structure InK(env:Env)(s₀:S9)(m cm:Str->Option V9)(s:S9):Prop where
 ic:InCall s₀ env.locals m s
 cell:∀ n c,env.cells.lookup n=some c->s.heap.IsCell c (cm n)
 inj:∀ n n' c,env.cells.lookup n=some c->env.cells.lookup n'=some c->n=n'
 ne:∀ n c,env.cells.lookup n=some c->c≠env.locals
 up:∀ n c,env.kindOf n=some .cell->env.cells.lookup n=some c->env.locals < c
section
variable{M:Model}{A:U9}{E:V9->S9->Prop}{s₀ s:S9}{m cm:Str->O6 V9}{env:Env}
theorem InK.stL{n:Str}{v:V9}{Q:Unit->S9->Prop}(x:InK env s₀ m cm s)(i:env.scope.kind=.function)(j:env.kindOf n=some .local)
  (h:∀ s',InK env s₀ (fun y=>if y=n then some v else m y) cm s'->Q () s'):wpAny M A (storeName env n v) Q E s:=by
 refine wpAny_storeName_local j x.ic.ns (fun h' d a=>h _ ⟨⟨?_,d,fun b o e=>?_,x.ic.fresh⟩,fun k c f=>?_,x.inj,x.ne,x.up⟩) (by rw[i];rfl)
 .obtain ⟨g,tk,rfl⟩:=x.ic.same
  exact ⟨h',_,rfl⟩
 .exact a.extBut b o (A4 (AW (AK e) x.ic.fresh)) (x.ic.keep b o e)
 .exact (x.cell k c f).sameBut a (x.ne k c f)
theorem InK.stC{n:Str}{c:Az}{v:V9}{Q:Unit->S9->Prop}(x:InK env s₀ m cm s)(r:env.scope.kind=.function)(l:env.kindOf n=some .cell)
  (g:env.cells.lookup n=some c)
  (h:∀ s',InK env s₀ m (fun y=>if y=n then some v else cm y) s'->Q () s'):wpAny M A (storeName env n v) Q E s:=by
 have i:=x.up n c l g
 refine wpAny_storeName_cell r l g (x.cell n c g) fun h' j f=>h _ ⟨⟨?_,x.ic.ns.sameBut f (A4 i),fun b o e=>?_,x.ic.fresh⟩,fun k p a=>?_,x.inj,x.ne,x.up⟩
 .obtain ⟨q,tk,rfl⟩:=x.ic.same
  exact ⟨h',_,rfl⟩
 .exact f.extBut b o (A4 (Nat.lt_trans (AW (AK e) x.ic.fresh) i)) (x.ic.keep b o e)
 .by_cases d:k=n
  .subst d
   rw[g] at a;cases a
   simpa using j
  .rw[AI d]
   exact (x.cell k p a).sameBut f fun e=>d (x.inj k n p a (e▸g))
theorem InK.binds(f:Str×V9->PUnit->Sem (ForInStep PUnit))(k:∀ n v u,f (n,v) u=(do storeName env n v;pure (.yield ⟨⟩)))(g:env.scope.kind=.function) :
  ∀ (binds:List (Str×V9)) (m cm:Str->O6 V9) (s:S9) (Q:PUnit->S9->Prop),InK env s₀ m cm s->
   (∀ x∈binds,env.kindOf x.1=some .local\/(env.kindOf x.1=some .cell/\(env.cells.lookup x.1).isSome=true))->
   (∀ s',InK env s₀ (bindL env.kindOf binds m) (bindC env.kindOf binds cm) s'->Q ⟨⟩ s')->wpAny M A (forIn binds ⟨⟩ f) Q E s
 | [],m,cm,s,Q,x,_,h=>by rw[G4];exact AC (h s x)
 | (n,v)::r,m,cm,s,Q,x,hkind,h=>by
  rw[CY,k]
  have hr:∀ y∈r,env.kindOf y.1=some .local\/(env.kindOf y.1=some .cell/\(env.cells.lookup y.1).isSome=true):=fun y l=>hkind y (AN _ l)
  rcases hkind (n,v) AX with d|⟨d,i⟩
  .refine AA (AA (x.stL g d fun s' j=>AC (InK.binds f k g r _ _ s' Q j hr fun a b=>h a ?_)))
   unfold bindL bindC;rw[AE d,AE d];exact b
  .obtain ⟨c,i⟩:=GM.mp i
   have e:¬ env.kindOf n=some .local:=by rw[d];decide
   refine AA (AA (x.stC g d i fun s' j=>AC (InK.binds f k g r _ _ s' Q j hr fun a b=>h a ?_)))
   unfold bindL bindC;rw[AI e,AI e];exact b
end
theorem jR:∀ (names:List (Str×NameKind)) (n:Nat) (acc:List (Str×Az)),cellsFrom n names acc=cellsFrom n names []++acc
 | [],_,_=>rfl
 | (x,k)::r,n,acc=>by
  unfold cellsFrom
  split
  · rw [jR r (n + 1) ((x, n) :: acc), jR r (n + 1) [(x, n)], GD]; rfl
  · exact jR r n acc
theorem m6:∀ (names:List (Str×NameKind)) (n:Nat) {x:Str} {c:Az},(x,c)∈cellsFrom n names []->(x,NameKind.cell)∈names
 | [],_,_,_,h=>by simp[cellsFrom] at h
 | (y,k)::r,n,x,c,h=>by
  unfold cellsFrom at h
  split at h
  .rename_i hk
   rw[jR] at h
   rcases B3.mp h with h|h
   .exact AN _ (m6 r _ h)
   .have:(x,c)=(y,n):=by simpa using h
    cases this
    rw[EM hk];exact AX
  .exact AN _ (m6 r _ h)
theorem oQ{α:Type}{x:Str}:∀ {l l':List (Str×α)},(l++l').lookup x=(l.lookup x).or (l'.lookup x)
 | [],l'=>by simp
 | (y,v)::r,l'=>by
  rw[BA,A8,A8]
  cases x == y with
  | true=>rfl
  | false=>exact oQ
theorem m7{α:Type}{x:Str}{l:List (Str×α)}(h:∀ v,(x,v)∉l):l.lookup x=none:=by
 cases e:l.lookup x with
 | none=>rfl
 | some v=>exact absurd (BF e) (h v)
noncomputable def cS(qual:Str)(scope:Scope)(L f:Az)(cd:V9)(cl:List (Str×Az)):Env:=newEnv scope L mainGlobals (cellsFrom (L+1) scope.names cl) (qual++".<locals>.") (some f) cd none builtinsNs
structure ClAt(h:Heap)(scope:Scope)(cl:List (Str×Az))(cm:Str->Option V9):Prop where
 cell:∀ n c,cl.lookup n=some c->h.IsCell c (cm n)
 inj:∀ n n' c,cl.lookup n=some c->cl.lookup n'=some c->n=n'
 off:∀ y∈scope.names,y.2=.cell->cl.lookup y.1=none
section
variable{M:Model}{A:U9}{E:V9->S9->Prop}{s:S9}
theorem aKE{scope:Scope}{binds:List (Str×V9)}{qual:Str}{f:Az}{cd:V9}{cl:List (Str×Az)}{cm:Str->O6 V9}{Q:Env->S9->Prop}
  (v:scope.kind=.function) (C:ClAt s.heap scope cl cm)
  (k:∀ x∈binds,scope.names.lookup x.1=some .local\/scope.names.lookup x.1=some .cell)
  (u:∀ s',InK (cS qual scope s.heap.objs.size f cd cl) s (bindL (cS qual scope s.heap.objs.size f cd cl).kindOf binds fun _=>none) (bindC (cS qual scope s.heap.objs.size f cd cl).kindOf binds fun n=>if (cl.lookup n).isSome then cm n else none) s'->Q (cS qual scope s.heap.objs.size f cd cl) s') :
  wpAny M A (newFunctionEnv scope mainGlobals cl binds (qual++".<locals>.") (some f) cd none builtinsNs) Q E s:=by
 simp only[newFunctionEnv,Option.isSome_none,BI,CD]
 refine AA (wpAny_alloc ?_)
 refine AA (wpAny_layCells _ (fun name kind cells=>by cases p:kind == NameKind.cell<;>simp[p]) _ _ _ _ ?_)
 have ok:=cellsFrom_ok scope.names (s.heap.push {cls:=.type "frame",data:=.dict #[]}) (s.heap.objs.size+1) [] ⟨fun _ _ z=>(nomatch z),List.Pairwise.nil⟩ (by rw[BV];exact AM _)
 rw[BV] at ok
 rw[show ({s with heap:=s.heap.push {cls:=.type "frame",data:=.dict #[]}}:S9).heap.objs.size=s.heap.objs.size+1 from BV ..]
 have j:∀ b o,s.heap.get? b=some o->(pushCells (s.heap.push {cls:=.type "frame",data:=.dict #[]}) scope.names).get? b=some o:=fun b o e=>pushCells_keeps _ _ b o (AB _ e)
 have h:(cS qual scope s.heap.objs.size f cd cl).cells=cellsFrom (s.heap.objs.size+1) scope.names []++cl:=jR _ _ _
 have i:∀ n c,(cS qual scope s.heap.objs.size f cd cl).cells.lookup n=some c->((cellsFrom (s.heap.objs.size+1) scope.names []).lookup n=some c/\cl.lookup n=none)\/((cellsFrom (s.heap.objs.size+1) scope.names []).lookup n=none/\cl.lookup n=some c):=fun n c e=>by
  rw[h,oQ] at e
  cases q:(cellsFrom (s.heap.objs.size+1) scope.names []).lookup n with
  | none=>rw[q] at e;exact .inr ⟨rfl,by simpa using e⟩
  | some d=>
   rw[q] at e
   have m:some d=some c:=by simpa using e
   cases m
   exact .inl ⟨rfl,C.off (n,.cell) (m6 _ _ (BF q)) rfl⟩
 have big:∀ n c,(cellsFrom (s.heap.objs.size+1) scope.names []).lookup n=some c->s.heap.objs.size < c:=fun n c e=>(ok.empty n c (BF e)).2
 have a:∀ n c,cl.lookup n=some c->c < s.heap.objs.size:=fun n c e=>(C.cell n c e).lt
 refine AA (InK.binds (s₀:=s) (env:=cS qual scope s.heap.objs.size f cd cl)
  _ (fun _ _ _=>rfl) v binds (fun _=>none) (fun n=>if (cl.lookup n).isSome then cm n else none) _ _
  ⟨⟨⟨_,_,rfl⟩,(Heap.Ns.new s.heap (.type "frame")).keeps (pushCells_keeps _ _),j,AM _⟩,fun n c e=>?_,fun n t c e m=>?_,fun n c e=>?_,fun n c w e=>?_⟩
  (fun x y=>?_) fun s' x=>AC (u s' x))
 .rcases i n c e with ⟨q,g⟩|⟨q,g⟩
  .rw[g];exact (ok.empty n c (BF q)).1
  .rw[g];exact (C.cell n c g).keeps j
 .rcases i n c e with ⟨q,g⟩|⟨q,g⟩<;>rcases i t c m with ⟨r,l⟩|⟨r,l⟩
  .exact name_of_addr ok.apart (BF q) (BF r)
  .exact absurd (big _ _ q) (Nat.not_lt.mpr (DK (a _ _ l)))
  .exact absurd (big _ _ r) (Nat.not_lt.mpr (DK (a _ _ g)))
  .exact C.inj n t c g l
 .show c≠s.heap.objs.size
  rcases i n c e with ⟨q,g⟩|⟨q,g⟩
  .exact CL (big _ _ q)
  .exact A4 (a _ _ g)
 .show s.heap.objs.size < c
  rcases i n c e with ⟨q,g⟩|⟨q,g⟩
  .exact big _ _ q
  .rw[C.off (n,.cell) (BF w) rfl] at g;cases g
 .rcases k x y with q|q
  .exact .inl q
  .refine .inr ⟨q,?_⟩
   obtain ⟨c,e⟩:=mB (n:=s.heap.objs.size+1) q
   rw[h,oQ,e];rfl
end
noncomputable def hid(cs:List Az)(H:Hp):Hp:=fun b=>if b∈cs then none else H b
noncomputable def shw(cs:List Az)(H H':Hp):Hp:=fun b=>if b∈cs then H b else H' b
theorem tS{a:List Az}{H:Hp}{b:Az}(h:b∈a):hid a H b=none:=AE h
theorem c6{a:List Az}{H:Hp}{b:Az}(h:b∉a):hid a H b=H b:=AI h
theorem pX{a:List Az}{H H':Hp}{b:Az}(h:b∈a):shw a H H' b=H b:=AE h
theorem dZ{a:List Az}{H H':Hp}{b:Az}(h:b∉a):shw a H H' b=H' b:=AI h
theorem jF{a:List Az}{H:Hp}{b:Az}(h:H b=none):hid a H b=none:=by
 by_cases q:b∈a
 · exact tS q
 · rw [c6 q]; exact h
theorem yP{a:List Az}{H:Hp}{b:Az}{o:HO}(h:hid a H b=some o):H b=some o/\b∉a:=by
 by_cases q:b∈a
 · rw [tS q] at h; cases h
 · rw [c6 q] at h; exact ⟨h, q⟩
def FnO(f:Az)(o:Obj):HO:=.ext fun h=>h.get? f=some o
def fV(c:Az)(o:Obj)(v:V):HO:=.frz o (.ext fun h=>∃ u,bB v u/\h.IsCell c (some u))
section
variable{P:P9}{w:W9}{H:Hp}{h:Hz}
theorem FnO.get{f:Az}{o:Obj}(x:HOk P w H h)(e:H f=some (FnO f o)):h.get? f=some o:=(x f _ e).1
theorem fV.get{c:Az}{o:Obj}{v:V}(x:HOk P w H h)(e:H c=some (fV c o v)):h.get? c=some o/\∃ u,bB v u/\h.IsCell c (some u):=⟨(x c _ e).1,(x c _ e).2.1⟩
theorem FnO.ok{f:Az}{o:Obj}(e:h.get? f=some o):b9 P w H h f (FnO f o):=⟨e,⟨o,e⟩,fun h1 h2 q k=>k o q⟩
theorem fV.ok{c:Az}{o:Obj}{v:V}{u:V9}(r:bB v u)(e:h.get? c=some o)(a:o.data=.cell (some u)):b9 P w H h c (fV c o v):=
 ⟨e,⟨u,r,o,e,a⟩,⟨o,e⟩,fun h1 h2 ⟨u,r,o,b,a⟩ k=>⟨u,r,o,k o b,a⟩⟩
end
def Celd(cs:List Az)(H:Hp):Prop:=∀ c∈cs,∃ o v,H c=some (fV c o v)
theorem Celd.out{a:List Az}{H:Hp}(h:Celd a H){b:Az}{o:HO}(e:H b=some o)(n:∀ o' v,o≠fV b o' v):b∉a:=fun z=>by
 obtain ⟨o',v,q⟩:=h b z
 rw[q] at e;cases e
 exact n o' v rfl
theorem HOk.hid{P:P9}{w:W9}{H:Hp}{h:Hz}{d:List Az}(x:HOk P w H h)(a:Celd d H):HOk P w (hid d H) h:=fun b u e=>by
 obtain ⟨e1,_⟩:=yP e
 exact (x b u e1).stay (fun _ _ _ q=>q) (fun c q=>by rw[c6 (a.out q fun _ v z=>nomatch z)];exact q) (fun c _ q=>by rw[c6 (a.out q fun _ v z=>nomatch z)];exact q) fun c _ q=>by rw[c6 (a.out q fun _ v z=>nomatch z)];exact q
structure CloScope(N ps fr:List Str)(sc:Scope):Prop where
 kind:sc.kind=.function
 co:sc.isCoroutine=false
 gen:sc.isGenerator=false
 nd:N.Nodup
 pre:N.take (ps++fr).length=ps++fr
 par:∀ x∈ps,sc.names.lookup x=some .local\/sc.names.lookup x=some .cell
 cap:∀ x∈fr,sc.names.lookup x=some .free
 only:∀ y∈sc.names,y.2=.free->y.1∈fr
 off:∀ y∈sc.names,y.2=.cell->y.1∉fr
structure CapAt(H:Hp)(fr:List Str)(cl:List (Str×Az))(vs:List V):Prop where
 len:vs.length=fr.length
 only:∀ n c,cl.lookup n=some c->n∈fr
 inj:∀ n n' c,cl.lookup n=some c->cl.lookup n'=some c->n=n'
 at':∀ (i:Nat) x v,fr[i]? = some x->vs[i]? = some v->∃ c o,cl.lookup x=some c/\H c=some (fV c o v)
theorem CapAt.get{H:Hp}{fr:List Str}{cl:List (Str×Az)}{vs:List V}(a:CapAt H fr cl vs){n:Str}{c:Az}(e:cl.lookup n=some c):∃ o v,H c=some (fV c o v):=by
 obtain ⟨i,hi,d⟩:=ED.mp (a.only n c e)
 obtain ⟨f,o,b,q⟩:=a.at' i n (vs[i]'(by rw[a.len];exact hi)) (by rw[AH hi,d]) (AH _)
 rw[e] at b;cases b
 exact ⟨_,_,q⟩
noncomputable def bF(fr:List Str)(cl:List (Str×Az)):List Az:=fr.filterMap fun x=>cl.lookup x
theorem CapAt.celd{H:Hp}{fr:List Str}{cl:List (Str×Az)}{vs:List V}(a:CapAt H fr cl vs):Celd (bF fr cl) H:=fun c b=>by
 obtain ⟨x,_,e⟩:=DC.mp b
 exact a.get e
theorem CapAt.same{H H':Hp}{fr:List Str}{cl:List (Str×Az)}{vs:List V}(a:CapAt H fr cl vs)(s:aJ H H'):CapAt H' fr cl vs:=⟨a.len,a.only,a.inj,fun i x v h1 h2=>let ⟨c,o,e,q⟩:=a.at' i x v h1 h2;⟨c,o,e,s _ _ q⟩⟩
noncomputable def k9(CX:CXT)(P:P9)(w:W9)(K:Frag)(mg:Str->O6 V9)(base:Hz)(N fr:List Str)(qual:Str)(scope:Scope)(f:Az)(cd:V9)(cl:List (Str×Az))(A:U9)(outer:List Env)(s:S9)(H:Hp)(E:XK):Cx where
 prog:=P
 w:=w
 K:=K
 mg:=mg
 base:=base
 A:=A.deeper (cS qual scope s.heap.objs.size f cd cl)
 N:=N
 s₀:=s
 H₀:=hid (bF fr cl) H
 env:=cS qual scope s.heap.objs.size f cd cl
 outer:=outer
 stack:=cS qual scope s.heap.objs.size f cd cl::outer
 ex:=[]
 calm:=true
 fn:=fun x=>(cl.lookup x).isNone
 pn:=[]
 xe:=fun e s'=>wpAny (model P w) (A.deeper (cS qual scope s.heap.objs.size f cd cl)) (leaving (cS qual scope s.heap.objs.size f cd cl) e) (fun _ s''=>CX outer H s E e s'') (fun e' s''=>CX outer H s E e' s'') s'
section
variable{CX:CXT}{P:P9}{w:W9}{K:Frag}{mg:Str->O6 V9}{base:Hz}{N ps fr:List Str}{qual:Str}{scope:Scope}{f:Az}{cd:V9}{cl:List (Str×Az)}{A:U9}{outer:List Env}{s s1:S9}{H:Hp}{E:XK}{us:List V9}{vs cvs:List V}
theorem aKF{h:Hz}(hok:HOk P w H h)(C:CapAt H fr cl cvs):∃ cm:Str->O6 V9,(∀ n c,cl.lookup n=some c->∃ v u,(∃ o,H c=some (fV c o v))/\bB v u/\cm n=some u/\h.IsCell c (some u)):=by
 have a:∀ n,∃ x:O6 V9,∀ c,cl.lookup n=some c->∃ v u,(∃ o,H c=some (fV c o v))/\bB v u/\x=some u/\h.IsCell c (some u):=fun n=>by
  cases e:cl.lookup n with
  | none=>exact ⟨none,fun c z=>nomatch z⟩
  | some c=>
   obtain ⟨o,v,q⟩:=C.get e
   obtain ⟨_,u,r,z⟩:=fV.get hok q
   exact ⟨some u,fun d b=>by cases b;exact ⟨v,u,⟨o,q⟩,r,rfl,z⟩⟩
 exact ⟨fun n=>(a n).choose,fun n c e=>(a n).choose_spec c e⟩
theorem oR{n:Str}{L:Nat}:(cS qual scope L f cd cl).cells.lookup n=((cellsFrom (L+1) scope.names []).lookup n).or (cl.lookup n):=by
 rw[show (cS qual scope L f cd cl).cells=cellsFrom (L+1) scope.names []++cl from jR _ _ _,oQ]
theorem rB{n:Str}{c:Az}{L:Nat}(S:CloScope N ps fr scope)(C:CapAt H fr cl cvs)(e:cl.lookup n=some c):(cS qual scope L f cd cl).cells.lookup n=some c:=by
 rw[oR,m7 fun v a=>S.off (n,.cell) (m6 _ _ a) rfl (C.only n c e)]
 simpa using e
theorem aC9{cm:Str->O6 V9}(S:CloScope N ps fr scope)(C:CapAt H fr cl cvs)(R:A.handled=none)(e0:Env0 P w K mg base A outer s H)(O:vs.length=ps.length)(r:aZ vs us)
  (X:∀ n c,cl.lookup n=some c->∃ v u,(∃ o,H c=some (fV c o v))/\bB v u/\cm n=some u/\s.heap.IsCell c (some u))
  (x:InK (cS qual scope s.heap.objs.size f cd cl) s (bindL (cS qual scope s.heap.objs.size f cd cl).kindOf (ps.zip us) fun _=>none) (bindC (cS qual scope s.heap.objs.size f cd cl).kindOf (ps.zip us) fun n=>if (cl.lookup n).isSome then cm n else none) s1) :
  Inv (k9 CX P w K mg base N fr qual scope f cd cl A outer s H E) [] (start N (vs++cvs)) (hid (bF fr cl) H) s1:=by
 have T:(ps++fr).length<=N.length:=by have:=D3 List.length S.pre;rw[EC] at this;omega
 have V:(vs++cvs).length=(ps++fr).length:=by rw[AU,AU,O,C.len]
 obtain ⟨h1,tk,rfl,I⟩:=x.ic.done
 have g:∀ b:Az,b∉(k9 CX P w K mg base N fr qual scope f cd cl A outer s H E).ex:=fun b z=>absurd (show b∈([]:List Az) from z) (by simp)
 have D:∀ y c,cl.lookup y=none->(cS qual scope s.heap.objs.size f cd cl).cells.lookup y=some c->s.heap.objs.size < c:=fun y c n e=>by
  rw[oR,n] at e
  have m:(cellsFrom (s.heap.objs.size+1) scope.names []).lookup y=some c:=by simpa using e
  have ok:=cellsFrom_ok scope.names (s.heap.push {cls:=.type "frame",data:=.dict #[]}) (s.heap.objs.size+1) [] ⟨fun _ _ hm=>(nomatch hm),List.Pairwise.nil⟩ (by rw[BV];exact AM _)
  rw[BV] at ok
  exact (ok.empty y c (BF m)).2
 refine ⟨⟨e0.mod,S.kind,rfl,rfl,AM _,fun y z c h1 h2=>x.inj y z c h1 h2,fun y j=>?_,fun y c F h=>?_,fun _=>R,Around.frames_deeper e0.frames,.inr ⟨rfl,rfl⟩,fun b z=>absurd z (g b),fun b o e=>⟨(e0.bs b o e).1,jF (e0.bs b o e).2⟩,e0.bsz,fun b _ _=>g b,fun b z=>absurd z (g b),e0.funs,fun b Y=>jF (e0.frf b Y)⟩,
  rfl,e0.bare,Un.kept I,⟨_,x.ic.ns,fun i y v h1 h2 h3=>?_⟩,fun y c h=>⟨_,x.cell y c h⟩,jF (e0.hok.fresh (AM _)),fun y c h=>?_,fun p d=>absurd (show p∈([]:List (Az×Obj)) from d) (by simp),(e0.hok.hid C.celd).kept I,?_⟩
 .have j:scope.names.lookup y=some .cell\/scope.names.lookup y=some .free:=j
  rcases j with j|j
  .obtain ⟨c,e⟩:=mB (n:=s.heap.objs.size+1) j
   exact ⟨c,by show (cS qual scope s.heap.objs.size f cd cl).cells.lookup y=_;rw[oR,e];rfl⟩
  .obtain ⟨i,hi,W⟩:=ED.mp (S.only _ (BF j) rfl)
   obtain ⟨c,_,e,_⟩:=C.at' i y (cvs[i]'(by rw[C.len];exact hi)) (by rw[AH hi,W]) (AH _)
   exact ⟨c,rB S C e⟩
 .have F:(cl.lookup y).isNone=true:=F
  exact DK (D y c (GH.mp F) h)
 .have hi:i < (vs++cvs).length:=by
   unfold start at h2
   by_cases hi:i < (vs++cvs).length
   .exact hi
   .rw[CA (by simpa using hi)] at h2
    rw[CU] at h2
    split at h2<;>cases h2
  have B:(vs++cvs)[i]? = some v:=by
   unfold start at h2
   rw[BK (by simpa using hi),A0] at h2
   cases e:(vs++cvs)[i]? with
   | none=>rw[e] at h2;cases h2
   | some a=>rw[e] at h2;cases h2;rfl
  have d:(ps++fr)[i]? = some y:=by
   rw[<-S.pre,GN (by omega)];exact h1
  have J:(ps++fr).Nodup:=by rw[<-S.pre];exact S.nd.sublist (List.take_sublist _ _)
  have t:ps.Nodup:=(C8.mp J).1
  by_cases G:i < ps.length
  .rw[BK (by omega)] at B
   rw[BK G] at d
   obtain ⟨u,M,Z⟩:=r.get B
   refine ⟨u,Z,?_⟩
   rcases S.par y (A6 d) with k|k
   .exact .inl ⟨k,pT t d M k⟩
   .obtain ⟨c,e⟩:=mB (n:=s.heap.objs.size+1) k
    have m:(cS qual scope s.heap.objs.size f cd cl).cells.lookup y=some c:=by rw[oR,e];rfl
    refine .inr ⟨.inl k,c,m,?_⟩
    have q:=x.cell y c m
    rw[pU t d M (by show scope.names.lookup y≠_;rw[k];decide)] at q
    exact q
  .rw[CA (by omega)] at B
   rw[CA (by omega)] at d
   rw[O] at B
   obtain ⟨c,o,e,q⟩:=C.at' _ y v d B
   obtain ⟨_,U,r2,Q⟩:=fV.get e0.hok q
   have m:=rB (qual:=qual) (f:=f) (cd:=cd) (L:=s.heap.objs.size) S C e
   have l:scope.names.lookup y=some .free:=S.cap y (A6 d)
   refine ⟨U,r2,.inr ⟨.inr l,c,m,?_⟩⟩
   exact Q.keeps I
 .cases e:cl.lookup y with
  | none=>exact jF (e0.hok.fresh (DK (D y c e h)))
  | some c'=>
   have h':=rB (qual:=qual) (f:=f) (cd:=cd) (L:=s.heap.objs.size) S C e
   have h:(cS qual scope s.heap.objs.size f cd cl).cells.lookup y=some c:=h
   rw[h] at h';cases h'
   exact tS (DC.mpr ⟨y,C.only y c e,e⟩)
 .unfold start
  show _=N.length
  rw[AU,AD,BL]
  omega
theorem yQ{pins:List (Az×Obj)}{σ:St}{H':Hp}{s':S9}(S:CloScope N ps fr scope)(C:CapAt H fr cl cvs)(e0:Env0 P w K mg base A outer s H)(J:Inv (k9 CX P w K mg base N fr qual scope f cd cl A outer s H E) pins σ H' s') :
  (∀ c∈bF fr cl,H' c=none)/\Un (frs outer) [] H (shw (bF fr cl) H H') s.heap s'.heap/\HOk P w (shw (bF fr cl) H H') s'.heap:=by
 have un:Un (frs outer) [] (hid (bF fr cl) H) H' s.heap s'.heap:=J.base
 have d:∀ c∈bF fr cl,H' c=none:=fun c j=>by
  obtain ⟨x,_,e⟩:=DC.mp j
  exact J.freeC x c (rB S C e)
 have out:∀ b,H b=none->b∉bF fr cl:=fun b n z=>by
  obtain ⟨o,v,q⟩:=C.celd b z
  rw[n] at q;cases q
 refine ⟨d,⟨fun b o e n h1 h2=>un.keep b o e (jF n) h1 h2,fun b o e n h1 h2=>un.slot b o e (jF n) h1 h2,fun b o e n h2=>by rw[dZ (out b n)];exact un.free b o e (jF n) h2,un.there,
  fun b xs q=>?_,fun b o u q=>?_,fun b ps q=>?_⟩,fun b u e=>?_⟩
 .have a:=C.celd.out q fun _ v z=>nomatch z
  rw[dZ a];exact un.tups b xs (by rw[c6 a];exact q)
 .by_cases a:b∈bF fr cl
  .rw[pX a];exact q
  .rw[dZ a];exact un.frzs b o u (by rw[c6 a];exact q)
 .have a:=C.celd.out q fun _ v z=>nomatch z
  rw[dZ a];exact un.tbls b ps (by rw[c6 a];exact q)
 .by_cases a:b∈bF fr cl
  .rw[pX a] at e
   obtain ⟨o,v,q⟩:=C.celd b a
   rw[q] at e;cases e
   obtain ⟨i,u,r,l,g,k⟩:=fV.get e0.hok q
   rw[i] at g;cases g
   exact fV.ok r (un.keep b o i (tS a) (fun z=>by have:=e0.frf b z;rw[q] at this;cases this) (by simp)) k
  .rw[dZ a] at e
   have h:∀ c o,H' c=some o->c∉bF fr cl:=fun c o q z=>by rw[d c z] at q;cases q
   exact (J.hok b u e).stay (fun _ _ _ q=>q) (fun c q=>by rw[dZ (h c _ q)];exact q) (fun c _ q=>by rw[dZ (h c _ q)];exact q) fun c _ q=>by rw[dZ (h c _ q)];exact q
end
section
variable{P:P9}{w:W9}{K:Frag}{mg:Str->O6 V9}{base:Hz}{N ps fr:List Str}{qual:Str}{scope:Scope}{f:Az}{cd:V9}{cl:List (Str×Az)}{A:U9}{outer:List Env}{s:S9}{H:Hp}{E:XK}{cvs:List V}
theorem aDA{j:V9}{s':S9}(S:CloScope N ps fr scope)(C:CapAt H fr cl cvs)(e0:Env0 P w K mg base A outer s H)
  (h:Fly (k9 (CXe P w) P w K mg base N fr qual scope f cd cl A outer s H E) (fun c e H'=>(∀ a∈bF fr cl,H' a=none)->E c e (shw (bF fr cl) H H')) j s'):(k9 (CXe P w) P w K mg base N fr qual scope f cd cl A outer s H E).xe j s':=by
 obtain ⟨e,p,od,σ,H',rfl,I,k,q⟩:=h
 show wpAny (model P w) _ (leaving _ (.ref e)) _ _ s'
 unfold leaving
 have n:xR (k9 (CXe P w) P w K mg base N fr qual scope f cd cl A outer s H E):=⟨rfl,rfl⟩
 refine AA (sK n I k fun x r m=>u8 r m fun u g i=>?_)
 obtain ⟨vs,T,a,b,c,_⟩:=i.tb
 obtain ⟨d,un,hok⟩:=yQ S C e0 g
 have l:∀ c o,H' c=some o->c∉bF fr cl:=fun c o q z=>by rw[d c z] at q;cases q
 refine ⟨e,p,od,_,rfl,g.os,g.bare,un,hok,by rw[dZ (l _ _ i.tr)];exact i.tr,⟨vs,T,a,b,fun t e1=>⟨?_,(c t e1).2.1⟩⟩,q d⟩
 rw[dZ]
 .exact (c t e1).1
 .intro z
  obtain ⟨o,v,q⟩:=C.celd t z
  exact absurd (AW (e0.hok.lt q) (c t e1).2.1) (BO _)
end
structure ClSt where
 name:Str
 qual:Str
 params:Arguments
 body:FuncBody
 scope:Scope
noncomputable def ClSt.fd(S:ClSt)(cl:List (Str×Az))(doc pm:V9)(c:Az)(ct:V9):FuncData:=
 {name:=S.name,qualname:=S.qual,params:=S.params,body:=S.body,scope:=S.scope,globals:=mainGlobals,closure:=cl,defaults:=.none,kwdefaults:=.none,doc:=doc,pyModule:=pm,annotations:=none,code:=.ref c,closureTuple:=ct,builtins:=builtinsNs}
abbrev ClSt.obj(S:ClSt)(cl:List (Str×Az))(doc pm:V9)(c:Az)(ct:V9):Obj:={cls:=.type "function",data:=.func (S.fd cl doc pm c ct)}
section
variable{P:P9}{w:W9}{K:Frag}{mg:Str->O6 V9}{base:Hz}{N ps fr:List Str}{S:ClSt}{f c:Az}{cl:List (Str×Az)}{A:U9}{outer:List Env}{s:S9}{H:Hp}{E:XK}{Q:VK}{cvs vs:List V}{us:List V9}{args:Args}{doc pm ct:V9}{k:Nat}
theorem aHG(Sc:CloScope N ps fr S.scope):∀ y∈ps.zip us,S.scope.names.lookup y.1=some .local\/S.scope.names.lookup y.1=some .cell:=fun ⟨n,v⟩ a=>Sc.par n (EJ a).1
theorem aMY{h:Hz}(hok:HOk P w H h)(Sc:CloScope N ps fr S.scope)(C:CapAt H fr cl cvs){cm:Str->O6 V9}(a:∀ n c,cl.lookup n=some c->∃ v u,(∃ o,H c=some (fV c o v))/\bB v u/\cm n=some u/\h.IsCell c (some u)):ClAt h S.scope cl cm where
 cell:=fun n c e=>by
  obtain ⟨v,u,_,_,e1,z⟩:=a n c e
  rw[e1];exact z
 inj:=C.inj
 off:=fun y d b=>by
  cases e:cl.lookup y.1 with
  | none=>rfl
  | some c=>exact absurd (C.only _ _ e) (Sc.off y d b)
theorem aFF{body:List Stmt}(R:S.body=.stmts body)(F:H f=some (FnO f (S.obj cl doc pm c ct)))(L:H c=some (.cod S.qual))(Sc:CloScope N ps fr S.scope)(C:CapAt H fr cl cvs)(p:Room (k+1) A)
  (e0:Env0 P w K mg base A outer s H) (l:BindsTo s (S.fd cl doc pm c ct) args (ps.zip us)) (r:aZ vs us) (M:vs.length=ps.length)
  (g:Room k (A.deeper (cS S.qual S.scope s.heap.objs.size f (.ref c) cl))->∃ t,PSs ((k9 (CXe P w) P w K mg base N fr S.qual S.scope f (.ref c) cl A outer s H E).fly fun c e H'=>(∀ a∈bF fr cl,H' a=none)->E c e (shw (bF fr cl) H H')) body t /\
   t {nx:=fun _ H'=>(∀ a∈bF fr cl,H' a=none)->Q .non (shw (bF fr cl) H H'),rt:=fun v H'=>(∀ a∈bF fr cl,H' a=none)->Q v (shw (bF fr cl) H H')} (start N (vs++cvs)) (hid (bF fr cl) H)) :
  codeAny (model P w) A (.call (.ref f) args) (CR (CXe P w) outer P w H s Q E) s:=by
 have y:s.heap.NoLimit:=e0.mod.nolimit.keeps fun b o e=>(e0.bs b o e).1
 obtain ⟨cm,j⟩:=aKF e0.hok C
 have m:s.heap.CodeRec (.ref c) S.qual:=e0.hok c _ L
 refine E2 p.depth (FnO.get e0.hok F) rfl Sc.co Sc.gen R m (l _ _ _ _ ?_)
 refine aKE (cm:=cm) Sc.kind (aMY e0.hok Sc C j) (aHG Sc) fun s1 x=>?_
 refine ⟨y.keeps x.ic.keep,codeAny_func ?_⟩
 obtain ⟨t,O,T⟩:=g (p.deeper _)
 have I:Inv (k9 (CXe P w) P w K mg base N fr S.qual S.scope f (.ref c) cl A outer s H E) [] (start N (vs++cvs)) (hid (bF fr cl) H) s1:=aC9 Sc C p.hd e0 M r j x
 have B:=O.unfly fun _ _ z=>aDA Sc C e0 z
 refine BY (B [] s1 _ _ _ I T) (fun D s' h=>?_) fun e s' h=>h
 have i:∀ {d:St} {H':Hp} {v:V} {u:V9},Inv (k9 (CXe P w) P w K mg base N fr S.qual S.scope f (.ref c) cl A outer s H E) [] d H' s'->bB v u->((∀ a∈bF fr cl,H' a=none)->Q v (shw (bF fr cl) H H'))->CE outer P w H s Q u s':=
  fun {d H' v u} J n q=>by
   obtain ⟨G,un,hok⟩:=yQ Sc C e0 J
   exact ⟨v,_,J.os,J.bare,un,hok,n,q G⟩
 cases D with
 | ret u=>
  obtain ⟨v,d,H',J,n,q⟩:=h
  exact i J n q
 | next=>
  obtain ⟨d,H',J,q⟩:=h
  exact i (v:=V.non) (u:=Value.none) J rfl q
 | brk=>
  obtain ⟨_,_,_,q⟩:=h
  exact False.elim q
 | cont=>
  obtain ⟨_,_,_,q⟩:=h
  exact False.elim q
end
theorem aDB{env:Env}:∀ (names:List (Str×NameKind)) (acc:List (Str×Az)),(∀ x∈names,x.2=.free->∃ c,env.cells.lookup x.1=some c)->
  (∀ x c,acc.lookup x=some c->env.cells.lookup x=some c)->
  ∃ cl,(forIn names acc fun x r=>(if (x.2 == NameKind.free)=true then (do let a <-cellOf env x.1;pure (ForInStep.yield ((x.1,a)::r))) else pure (ForInStep.yield r)):Sem (List (Str×Az)))=pure cl /\
   (∀ x c,cl.lookup x=some c->env.cells.lookup x=some c)/\(∀ x∈names,x.2=.free->∃ c,cl.lookup x.1=some c)/\(∀ x c,acc.lookup x=some c->∃ c',cl.lookup x=some c') /\
   (∀ x c,cl.lookup x=some c->(∃ c',acc.lookup x=some c')\/(x,NameKind.free)∈names):=by
 intro names
 induction names with
 | nil=>intro acc _ h;exact ⟨acc,rfl,h,fun x p=>absurd p (by simp),fun x c e=>⟨c,e⟩,fun x c e=>.inl ⟨c,e⟩⟩
 | cons x r ih=>
  intro acc l h
  obtain ⟨n,k⟩:=x
  by_cases j:k=.free
  .subst j
   obtain ⟨c,i⟩:=l (n,.free) AX rfl
   have i:env.cells.lookup n=some c:=i
   obtain ⟨cl,e1,e2,m,g,o⟩:=ih ((n,c)::acc) (fun y f=>l y (AN _ f)) (fun y d e=>by
    rw[A8] at e
    cases q:y == n with
    | true=>rw[q] at e;cases e;have:=EM q;subst this;exact i
    | false=>rw[q] at e;exact h y d e)
   refine ⟨cl,?_,e2,fun y f b=>?_,fun y d e=>?_,fun y d e=>?_⟩
   .rw[CY]
    simp only[C9,BP]
    unfold cellOf
    simp only[i,pure_bind]
    exact e1
   .rcases AG.mp f with z|z
    .subst z
     exact g n c (by rw[A8];simp)
    .exact m y z b
   .by_cases q:y=n
    .subst q;exact g y c (by rw[A8];simp)
    .exact g y d (by rw[A8,CO q];exact e)
   .rcases o y d e with ⟨c',z⟩|z
    .by_cases q:y=n
     .subst q;exact .inr AX
     .rw[A8,CO q] at z
      exact .inl ⟨c',z⟩
    .exact .inr (AN _ z)
  .obtain ⟨cl,e1,e2,m,g,o⟩:=ih acc (fun y f=>l y (AN _ f)) h
   refine ⟨cl,?_,e2,fun y f b=>?_,g,fun y d e=>(o y d e).imp id fun z=>AN _ z⟩
   .rw[CY]
    have:(k == NameKind.free)=false:=by simpa using j
    simp only[this,BI,CD,pure_bind]
    exact e1
   .rcases AG.mp f with z|z
    .subst z;exact absurd b j
    .exact m y z b
structure ClOf(cells:List (Str×Az))(sc:Scope)(cl:List (Str×Az)):Prop where
 of:∀ x c,cl.lookup x=some c->cells.lookup x=some c
 all:∀ x∈sc.names,x.2=.free->∃ c,cl.lookup x.1=some c
 only:∀ x c,cl.lookup x=some c->(x,NameKind.free)∈sc.names
theorem yR{env:Env}{scope:Scope}(a:∀ x∈scope.names,x.2=.free->∃ c,env.cells.lookup x.1=some c) :
  ∃ cl,closureFor scope env=pure cl/\ClOf env.cells scope cl:=by
 obtain ⟨cl,e1,e2,b,_,d⟩:=aDB scope.names [] a (fun x c e=>by simp at e)
 refine ⟨cl,?_,e2,b,fun x c e=>?_⟩
 .unfold closureFor
  first
   | exact e1
   | (rw[<-e1];rfl)
   | (simp only[bind_pure];exact e1)
 .rcases d x c e with ⟨f,z⟩|z
  .simp at z
  .exact z
theorem aFG{pos:Pos}{r:List V9}(l:List V9)(h:TriplesOk l):codeAmong pos (l++r)=(codeAmong pos l).or (codeAmong pos r):=by
 fun_induction TriplesOk l with
 | case1=>simp[codeAmong]
 | case2 a t b u x rest ih=>
  simp only[BA,codeAmong]
  split
  · rfl
  · exact ih h
 | case3 l h1 h2=>exact h.elim
structure Tb(mg:Str->Option V9)(base:Heap)(c0 P0:Az):Prop where
 hd:PySem.W.CodeHd base c0 P0
 bt:∃ bm ob,mg "__builtins__"=some (.ref bm)/\bm≠builtinsNs/\base.get? bm=some ob/\ob.cls=.type "module"/\ob.dict=some builtinsNs/\ob.data=.plain
section
variable{X:Cx}{pins:List (Az×Obj)}{σ:St}{H:Hp}{s:S9}{c0 P0:Az}{qs:List (Pos×Str)}{pos:Pos}{q:Str}
theorem aFH{ps:Array V9}{c:Az}{h h':Hz}(B:HOk X.prog X.w H h)(j:H P0=some (.tbl qs))(t:h.get? P0=some (PySem.W.tabObj ps))(ht:TriplesOk ps.toList)(a:∀ p∈qs,codeAmong p.1 ps.toList=none\/∃ c,codeAmong p.1 ps.toList=some (.ref c)/\H c=some (.cod p.2))
  (x:∀ p∈qs,p.1.line=pos.line->p.1.col=pos.col->p.2=q) (A:codeAmong pos ps.toList=none) (hn:H c=none) (hx:Heap.ExtBut P0 h h') (i:h'.CodeRec (.ref c) q) (k:h'.get? P0=some (PySem.W.tabObj (ps ++ #[rawInt pos.line,rawInt pos.col,.ref c]))) :
  HOk X.prog X.w (upd H c (.cod q)) h':=fun b u e=>by
 have s:P0≠c:=fun z=>by rw[<-z,j] at hn;cases hn
 by_cases o:b=c
 .subst o;rw[aQ] at e;cases e;exact i
 .rw[aF o] at e
  by_cases f:b=P0
  .subst f
   rw[j] at e;cases e
   refine ⟨_,k,?_,fun p m=>?_⟩
   .rw[FG];exact TriplesOk_snoc _ _ _ _ ht
   .rw[FG,aFG _ ht]
    rcases a p m with z|⟨d,z,n⟩
    .rw[z]
     show (codeAmong p.1 [rawInt pos.line,rawInt pos.col,.ref c])=none\/_
     by_cases g:p.1.line=pos.line/\p.1.col=pos.col
     .refine .inr ⟨c,?_,?_⟩
      .show codeAmong p.1 [rawInt pos.line,rawInt pos.col,.ref c]=_
       rw[<-g.1,<-g.2]
       exact codeAmong_snoc [] trivial rfl
      .rw[x p m g.1 g.2];exact aQ
     .refine .inl ?_
      simp only[codeAmong,rawInt]
      rw[AI]
      simp only[A3,EQ]
      intro l
      exact g ⟨by omega,by omega⟩
    .refine .inr ⟨d,by rw[z];rfl,?_⟩
     rw[aF (bS n hn)];exact n
  .refine (B b u e).stay (fun d v y r=>hx d v ?_ r) (fun d r=>by rw[aF (bS r hn)];exact r) (fun d _ r=>by rw[aF (bS r hn)];exact r) fun d _ r=>by rw[aF (bS r hn)];exact r
   rcases y with z|z
   .rw[z];exact f
   .intro l;rw[l,j] at z;cases z
def Mkd(H:Hp)(q:Str)(c:Az)(H1:Hp):Prop:=(H c=some (.cod q)/\H1=H)\/(H c=none/\H1=upd H c (.cod q))
theorem aKG {S : ClSt} {M : Model} {A : U9} {E : V9 -> S9 -> Prop} {Q : V9 -> S9 -> Prop} {g : Nat} (I : Inv X pins σ H s) (d : X.env.code = .ref c0) (T : Tb X.mg X.base c0 P0) (Y : H P0 = some (.tbl qs)) (hq : (pos, S.qual) ∈ qs)
    (hu : ∀ p ∈ qs, p.1.line = pos.line -> p.1.col = pos.col -> p.2 = S.qual) (v : ∀ x ∈ S.scope.names, x.2 = .free -> ∃ c, X.env.cells.lookup x.1 = some c)
    (h : ∀ f c cl doc pm ct H1 s', Mkd H S.qual c H1 -> H1 f = none -> ClOf X.env.cells S.scope cl -> Inv X pins σ (upd H1 f (FnO f (S.obj cl doc pm c ct))) s' -> Q (.ref f) s') :
    wpAny M A (makeFunction S.name S.qual S.params S.body S.scope X.env [] [] [] pos g) Q E s := by
  obtain ⟨cl, q, J⟩ := yR v
  obtain ⟨ps, i, P, r⟩ := (show b9 X.prog X.w H s.heap P0 (.tbl qs) from I.hok P0 _ Y)
  have C : PySem.W.CodeHd s.heap c0 P0 := T.hd.keeps I.bk
  have F : s.heap.Ns mainGlobals X.mg := I.mod.glob.keeps I.bk
  have O : mainGlobals ≠ P0 := fun z => by
    obtain ⟨o, es, ep, e, hd, _⟩ := F
    rw [z, i] at e; cases e; cases hd
  obtain ⟨bm, ob, b1, b2, b3, b4, b5, V⟩ := T.bt
  have m := I.bk _ _ b3
  have aa : bm ≠ P0 := fun z => by rw [z, i] at m; cases m; cases b4
  have ac : bm ≠ mainGlobals := fun z => by
    obtain ⟨o, es, ep, e, hd, _⟩ := F
    rw [z, e] at m; cases m; rw [hd] at V; cases V
  have R : s.heap.BuiltinsAt X.mg P0 := ⟨bm, ob, b1, b2, ac, aa, m, b4, b5, V⟩
  rcases r _ hq with y | ⟨c, hf, hc⟩
  · have k : ∀ (j : Az) (a doc : V9) (h' : Hz) (tk : Tok), Heap.ExtBut P0 s.heap h' -> s.heap.objs.size <= j -> j < h'.objs.size -> h'.CodeRec (.ref j) S.qual -> h'.get? P0 = some (PySem.W.tabObj (ps ++ #[rawInt pos.line, rawInt pos.col, .ref j])) ->
        Q (.ref h'.objs.size) { s with heap := h'.push (S.obj cl doc ((X.mg "__name__").getD .none) j a), toks := tk } := by
      intro j a doc h' tk U B L G N
      have Z : H j = none := I.hok.fresh B
      have t : HOk X.prog X.w (upd H j (.cod S.qual)) h' := aFH I.hok Y i P r hu y Z U G N
      have l : (upd H j (.cod S.qual)) h'.objs.size = none := t.fresh (AM _)
      refine h h'.objs.size j cl doc ((X.mg "__name__").getD .none) a _ _ (.inr ⟨Z, rfl⟩) l J ?_
      have D : ∀ b o, H b = some o -> b ≠ j /\ b ≠ h'.objs.size := fun b o e => ⟨bS e Z, fun z => by
        rw [z] at e
        rw [aF (CL L), e] at l; cases l⟩
      have nP : ∀ b, H b = none -> b ≠ P0 := fun b n z => by rw [z, Y] at n; cases n
      refine I.un ⟨fun b o e n _ _ => AB _ (U b o (nP b n) e), fun b o e n _ _ => ⟨o.slots, AB _ (U b o (nP b n) e)⟩, fun b o e n _ => ?_, fun b o e _ => ?_, fun b xs e => ?_, fun b o u e => ?_, fun b qs e => ?_⟩ ?_
      · have hb := AK e
        rw [aF (A4 (AW hb (BE B (DK L)))), aF (A4 (AW hb B))]; exact n
      · by_cases z : b = P0
        · subst z; exact ⟨_, AB _ N⟩
        · exact ⟨o, AB _ (U b o z e)⟩
      · rw [aF (D b _ e).2, aF (D b _ e).1]; exact e
      · rw [aF (D b _ e).2, aF (D b _ e).1]; exact e
      · rw [aF (D b _ e).2, aF (D b _ e).1]; exact e
      · exact t.laid (fun b u e => AB _ e) (AM _) (FnO.ok (AV _ rfl))
    obtain ⟨name, qual, params, body, scope⟩ := S
    cases body with
    | stmts body => exact PySem.W.makeFunction_K q I.ok.glob F d C i P y O R k
    | expr body => exact PySem.W.kla_makeFunction q I.ok.glob F d C i P y O R fun j a h' tk => k j a .none h' tk
  · have k : ∀ (a doc : V9) (h' : Hz) (tk : Tok), (∀ b o, s.heap.get? b = some o -> h'.get? b = some o) -> s.heap.objs.size <= h'.objs.size ->
        Q (.ref h'.objs.size) { s with heap := h'.push (S.obj cl doc ((X.mg "__name__").getD .none) c a), toks := tk } := by
      intro a doc h' tk hk K
      refine h h'.objs.size c cl doc ((X.mg "__name__").getD .none) a H _ (.inl ⟨hc, rfl⟩) (I.hok.fresh K) J ?_
      exact I.laid (fun b u e => AB _ (hk b u e)) K (FnO.ok (AV _ rfl))
    obtain ⟨name, qual, params, body, scope⟩ := S
    cases body with
    | stmts body => exact PySem.W.makeFunction_hit q I.ok.glob F d C i P hf R k
    | expr body => exact PySem.W.kla_makeFunctionHit q I.ok.glob F d C i P hf R fun a h' tk => k a .none h' tk
def tMk(cells:List (Str×Az))(S:ClSt)(P0:Az)(qs:List (Pos×Str)):TE:=fun σ H Q=>H P0=some (.tbl qs)/\∀ f c cl doc pm ct H1,Mkd H S.qual c H1->H1 f=none->ClOf cells S.scope cl->Q (.ref f) (upd H1 f (FnO f (S.obj cl doc pm c ct)))
theorem aMZ{i:Nat}{x:Str}{params:Arguments}{body:List Stmt}{scope:Scope}(a:X.env.code=.ref c0)(T:Tb X.mg X.base c0 P0)(k:qualnameIn X.env x x=q)(A:(pos,q)∈qs)
  (l:∀ p∈qs,p.1.line=pos.line->p.1.col=pos.col->p.2=q) (b:∀ y∈scope.names,y.2=.free->X.env.kindOf y.1=some .cell\/X.env.kindOf y.1=some .free)
  (j:params.defaults=[]) (d:params.kw_defaults=[]) (ha:annTrees params none X.env=[])
  (t:X.N.Nodup) (hi:X.N[i]? = some x) (hx:Loc X.env.scope x) (m:X.fn x=true\/X.env.scope.names.lookup x=some .local:=by exact .inl rfl) :
  PS X (.FunctionDef x params body [] none [] scope none x pos) (kG (tMk X.env.cells ⟨x,q,params,.stmts body,scope⟩ P0 qs) (i8 i)):=by
 intro pins s σ H D I h
 obtain ⟨n,h⟩:=h
 refine PySem.W.nestDef_K j d ha ?_
 rw[k]
 refine aKG (S:=⟨x,q,params,.stmts body,scope⟩) I a T n A l (fun y o g=>I.ok.has _ (b y o g)) fun f c cl doc pm ct H1 s' B r u z=>?_
 exact sH z t hi hx (v:=.ref f) rfl (fun w e=>⟨_,_,e,h f c cl doc pm ct H1 B r u⟩) m
end
abbrev Cv:=List (Az×Obj×V)
noncomputable def pub(cv:Cv)(H:Hp):Hp:=fun b=>match cv.lookup b with
 | some p=>some (fV b p.1 p.2)
 | none=>H b
noncomputable def iC(cv:Cv):List Az:=cv.map (·.1)
theorem iR{c:Cv}{b:Az}:b∈iC c↔∃ p,c.lookup b=some p:=by
 unfold iC
 induction c with
 | nil=>simp
 | cons a r ih=>
  obtain ⟨x,p⟩:=a
  rw[AJ,AG,ih,A8]
  by_cases h:b=x
  .subst h;simp
  .rw[CO h]
   simp[h]
theorem yS{a:Cv}{H:Hp}{b:Az}{p:Obj×V}(h:a.lookup b=some p):pub a H b=some (fV b p.1 p.2):=by unfold pub;rw[h]
theorem kI{a:Cv}{H:Hp}{b:Az}(h:b∉iC a):pub a H b=H b:=by
 unfold pub
 cases e:a.lookup b with
 | none=>rfl
 | some p=>exact absurd (iR.mpr ⟨p,e⟩) h
theorem gN{a:Cv}{H:Hp}(c:∀ b∈iC a,H b=none):aJ H (pub a H):=fun b o e=>by
 rw[kI fun z=>by rw[c b z] at e;cases e];exact e
structure PubRel(X:Cx)(σ:St)(H:Hp)(js:List Nat)(cv:Cv):Prop where
 at':∀ b o v,cv.lookup b=some (o,v)->∃ x j,j∈js/\X.N[j]? = some x/\X.env.cells.lookup x=some b/\σ[j]? = some (some v)
 all:∀ j∈js,∃ x c o v,X.N[j]? = some x/\X.env.cells.lookup x=some c/\σ[j]? = some (some v)/\cv.lookup c=some (o,v)
 free:∀ b∈iC cv,H b=none
 inj:∀ x y c,X.env.cells.lookup x=some c->X.env.cells.lookup y=some c->x=y
section
variable{X:Cx}{pins:List (Az×Obj)}{σ:St}{H:Hp}{s:S9}
def yT(X:Cx)(σ:St)(j:Nat):Prop:=∃ x v,X.N[j]? = some x/\X.env.kindOf x=some .cell/\X.fn x=true/\σ[j]? = some (some v)
theorem aFI(I:Inv X pins σ H s):∀ (js:List Nat),(∀ j∈js,yT X σ j)->∃ cv,PubRel X σ H js cv/\∀ b o v,cv.lookup b=some (o,v)->(∃ u,s.heap.get? b=some o/\o.data=.cell (some u)/\bB v u)/\X.s₀.heap.objs.size<=b/\∃ x,X.env.cells.lookup x=some b
 | [],_=>⟨[],⟨fun b o v e=>by simp at e,fun j hj=>by simp at hj,fun b hb=>by simp[iC] at hb,I.ok.inj⟩,fun b o v e=>by simp at e⟩
 | j::js,hj=>by
  obtain ⟨cv,R,ok⟩:=aFI I js fun w h'=>hj w (AN _ h')
  obtain ⟨x,v,p,f,N,q⟩:=hj j AX
  obtain ⟨m,T,J⟩:=I.loc
  obtain ⟨u,r,l⟩:=J j x v p q (.inr (.inl f))
  rcases l with ⟨i,_⟩|⟨_,c,d,o,L,G⟩
  .rw[f] at i;cases i
  .have g:=I.ok.cab x c N d
   by_cases h:c∈iC cv
   .obtain ⟨⟨o',a⟩,e⟩:=iR.mp h
    obtain ⟨n,w,S,t,A,E⟩:=R.at' c o' a e
    have y:x=n:=I.ok.inj x n c d A
    subst y
    refine ⟨cv,⟨fun b o v e=>?_,fun k f=>?_,R.free,R.inj⟩,ok⟩
    .obtain ⟨x,j,h1,h2⟩:=R.at' b o v e
     exact ⟨x,j,AN _ h1,h2⟩
    .rcases AG.mp f with z|z
     .subst z
      obtain ⟨U,W,V⟩:=J w x a t E (.inr (.inl (by assumption)))
      obtain ⟨⟨P,F,M,O⟩,_⟩:=ok c o' a e
      rw[L] at F;cases F
      rw[G] at M
      have:u=P:=by cases M;rfl
      subst this
      have C:v=a:=bB.inj r O
      subst C
      exact ⟨x,c,_,v,p,d,q,e⟩
     .exact R.all k z
   .refine ⟨(c,o,v)::cv,⟨fun b o' a e=>?_,fun k f=>?_,fun b hb=>?_,R.inj⟩,fun b o' a e=>?_⟩
    .rw[A8] at e
     by_cases hb:b=c
     .subst hb
      simp only[C9] at e
      cases e
      exact ⟨x,j,AX,p,d,q⟩
     .rw[CO hb] at e
      obtain ⟨x,j,h1,h2⟩:=R.at' b o' a e
      exact ⟨x,j,AN _ h1,h2⟩
    .rcases AG.mp f with z|z
     .subst z
      exact ⟨x,c,o,v,p,d,q,by rw[A8];simp⟩
     .obtain ⟨n,K,o',a,h1,h2,Q,D⟩:=R.all k z
      refine ⟨n,K,o',a,h1,h2,Q,?_⟩
      rw[A8,CO (show K≠c from fun z=>by rw[z] at D;exact h (iR.mpr ⟨_,D⟩))];exact D
    .have B:b=c\/b∈iC cv:=by simpa[iC] using hb
     rcases B with z|z
     .subst z;exact I.freeC x b d
     .exact R.free b z
    .rw[A8] at e
     by_cases hb:b=c
     .subst hb
      simp only[C9] at e
      cases e
      exact ⟨⟨u,L,G,r⟩,g,x,d⟩
     .rw[CO hb] at e
      exact ok b o' a e
theorem aKH(I:Inv X pins σ H s){js:List Nat}{d:Cv}(R:PubRel X σ H js d)(ok:∀ b o v,d.lookup b=some (o,v)->(∃ u,s.heap.get? b=some o/\o.data=.cell (some u)/\bB v u)/\X.s₀.heap.objs.size<=b/\∃ x,X.env.cells.lookup x=some b) :
  Env0 X.prog X.w X.K X.mg X.base X.A X.stack s (pub d H) where
 frames:=I.ok.frames
 mod:=I.ok.mod
 bs:=fun b o e=>⟨(I.bs b o e).1,by
  rw[kI]
  .exact (I.bs b o e).2
  .intro z
   obtain ⟨⟨o',v⟩,q⟩:=iR.mp z
   have h1:=(ok b o' v q).2.1
   have h2:=AK e
   exact absurd (AW h2 (BE I.ok.bsz h1)) (BO _)⟩
 bsz:=BE I.ok.bsz I.sz
 funs:=I.stack
 frf:=fun b a=>by
  rw[kI]
  .exact I.stkFree b a
  .intro z
   obtain ⟨⟨o',v⟩,q⟩:=iR.mp z
   obtain ⟨_,h1,x,g⟩:=ok b o' v q
   rcases AG.mp (I.stkSub b a) with f|f
   .exact I.cne x b g f
   .obtain ⟨_,o,h,_⟩:=I.ok.funs.mem f
    exact absurd (AW (AK h) h1) (BO _)
 hok:=fun b u e=>by
  by_cases a:b∈iC d
  .obtain ⟨⟨o,v⟩,q⟩:=iR.mp a
   rw[yS q] at e;cases e
   obtain ⟨⟨u,h1,h2,i⟩,_⟩:=ok b o v q
   exact fV.ok i h1 h2
  .rw[kI a] at e
   exact (I.hok b u e).stay (fun _ _ _ q=>q) (fun c q=>gN R.free _ _ q) (fun c _ q=>gN R.free _ _ q) fun c _ q=>gN R.free _ _ q
 bare:=I.bare
end
noncomputable def yU(Ps:List Az)(qs:List (Pos×Str)):Hp:=fun b=>if b∈Ps then some (.tbl qs) else none
def yV(mg:Str->O6 V9)(h base:Hz)(T:Hp)(qs:List (Pos×Str))(xs:List Str):Prop:=
 ∀ x∈xs,∃ c0 P0,T P0=some (.tbl qs)/\Tb mg base c0 P0/\∀ f o fd,mg x=some (.ref f)->h.get? f=some o->o.data=.func fd->fd.code=.ref c0
theorem aFJ{P:P9}{w:W9}{K:Frag}{mg mb:Str->O6 V9}{CX:CXT}{k:Nat}{fa a:Az}{fd:FuncData}{x:Str}{c:S9}{vs:List V9}{ns:List Int}{qs:List (Pos×Str)}{xs:List Str}{tb:Str->Az×Az}
  (Z:∀ x∈xs,PySem.W.CodeHd c.heap (tb x).1 (tb x).2/\c.heap.get? (tb x).2=some (PySem.W.tabObj #[])) (ag:∀ x∈xs,∀ f o fd,mg x=some (.ref f)->c.heap.get? f=some o->o.data=.func fd->fd.code=.ref (tb x).1)
  (ac:∃ bm ob,mg "__builtins__"=some (.ref bm)/\bm≠builtinsNs/\c.heap.get? bm=some ob/\ob.cls=.type "module"/\ob.dict=some builtinsNs/\ob.data=.plain) (hNT:PySem.W.noTabs K=true)
  (KX:K.In c.heap) (Q:c.heap.Ns mainGlobals mg) (g:c.heap.Ns builtinsNs mb) (aj:∀ x:Str,x≠"__name__"->mb x=bootBuiltins x) (M:c.heap.NoLimit) (hg:c.gens = #[])
  (ha:c.heap.get? a=some {cls:=.type "list",data:=.seq vs.toArray}) (hi:IntsAre vs ns) (hl:ns.length<=sizeLine) (hr:Room k callerA)
  (F:∀ (base:Hz) (T:Hp),K.In base->base.Ns mainGlobals mg->yV mg c.heap base T qs xs->∃ sp,FnOk P w K mg base CX k fa fd [x] sp/\∀ H:Hp,aJ T H->SqL K H a (ns.map V.int)->sp [.ref a] H (fun v _=>v=.bl true) fun _ _ _=>False) (hbind:∀ (s:S9) (u:V9),BindsTo s fd ⟨[u],[]⟩ [(x,u)])
  (hCX:∀ H e s',CX [] H c (fun _ _ _=>False) e s'->False) :
  codeAny (model P w) callerA (.call (.ref fa) ⟨[.ref a],[]⟩) (fun r s'=>r=.ok (.ret (.bool true))/\OldK c.heap s'.heap/\s'.os=c.os/\AllBare s'.gens) c:=by
 have rv:=wH hi
 have R:=hi.length
 let Ps:List Az:=xs.map fun x=>(tb x).2
 have l:∀ b∈Ps,c.heap.get? b=some (PySem.W.tabObj #[])/\isCodeTable c.heap b:=fun b g=>by
  obtain ⟨y,J,rfl⟩:=C0.mp g
  exact ⟨(Z y J).2,((Z y J).1.tab (Z y J).2).isCodeTable⟩
 have G:a∉Ps:=fun z=>by have:=(l a z).1;rw[ha] at this;cases this
 have ai:∀ b∈Ps,K.lookup b=none:=fun b g=>by
  cases e:K.lookup b with
  | none=>rfl
  | some o=>
   have e2:=KX b o e
   rw[(l b g).1] at e2
   cases e2
   have h2:=CK.mp hNT (b,_) (PySem.W.mem_of_lookupK e)
   exact absurd (show false=true from h2) CI
 have D:∀ H:Hp,(∀ b∈Ps,H b=some (.tbl qs))->(∀ b,H b≠none->b=a\/b∈Ps)->(H a=none\/∃ o xs,H a=some (.frz o (.lst xs)))->SqL K H a (ns.map V.int)->HOk P w H c.heap->(H a≠none->K.lookup a=none)->
   codeAny (model P w) callerA (.call (.ref fa) ⟨[.ref a],[]⟩) (fun r s'=>r=.ok (.ret (.bool true))/\OldK c.heap s'.heap/\s'.os=c.os/\AllBare s'.gens) c:=by
  intro H hP hA hO hS X hK
  have i:∀ {b:Az} {o:Obj},c.heap.get? b=some o->H b=none->(nM c.heap H).get? b=some o:=fun e n=>aGP e n
  have j:∀ {b:Az} {o:Obj},c.heap.get? b=some o->(∀ vs,o.data≠.seq vs)->o≠PySem.W.tabObj #[]->H b=none:=fun {b o} e d d2=>by
   cases q:H b with
   | none=>rfl
   | some u=>
    rcases hA b (by rw[q];simp) with L|L
    .subst L
     rw[ha] at e;cases e
     exact absurd rfl (d _)
    .rw[(l b L).1] at e;cases e;exact absurd rfl d2
  have aa:∀ {b:Az} {o:Obj} {es:Array DictEntry} {ep:Nat},c.heap.get? b=some o->o.data=.dict es ep->H b=none:=fun {b o es ep} e d=>j e (fun vs z=>by rw[d] at z;cases z) fun z=>by rw[z] at d;cases d
  have C:∀ {b:Az} {m:Str->O6 V9},c.heap.Ns b m->(nM c.heap H).Ns b m:=fun {b m} ⟨o,es,ep,e,d,r⟩=>⟨o,es,ep,i e (aa e d),d,r⟩
  have Y:K.In (nM c.heap H):=fun b o e=>i (KX b o e) (by
   cases q:H b with
   | none=>rfl
   | some u=>
    rcases hA b (by rw[q];simp) with L|L
    .subst L
     rw[hK (by rw[q];simp)] at e;cases e
    .rw[ai b L] at e;cases e)
  have hM:Mod K mg (nM c.heap H):=⟨Y,C Q,⟨mb,C g,aj⟩,let ⟨mc,h1,h2⟩:=M;⟨mc,C h1,h2⟩⟩
  have e0:Env0 P w K mg (nM c.heap H) callerA [] c H:=⟨rfl,hM,fun b o e=>aJO e,Nat.le_of_eq (aEJ _ _),trivial,fun b g=>absurd (show b∈([]:List Az) from g) (by simp),X,.of_eq hg⟩
  have ah:yV mg c.heap (nM c.heap H) (yU Ps qs) qs xs:=fun y J=>by
   refine ⟨(tb y).1,(tb y).2,AE (C0.mpr ⟨y,J,rfl⟩),⟨?_,?_⟩,ag y J⟩
   .obtain ⟨o,vs,N,tf,I,tg,ak,O,tt,e1,r1,r2,r3⟩:=(Z y J).1
    exact ⟨o,vs,N,tf,I,tg,ak,O,tt,i e1 (j e1 (fun vs z=>by rw[r2] at z;cases z) fun z=>by rw[z] at r1;cases r1),r1,r2,r3⟩
   .obtain ⟨bm,ob,b1,b2,b3,b4,b5,b6⟩:=ac
    exact ⟨bm,ob,b1,b2,i b3 (j b3 (fun vs z=>by rw[b6] at z;cases z) fun z=>by rw[z] at b4;cases b4),b4,b5,b6⟩
  have af:aJ (yU Ps qs) H:=fun b o e=>by
   unfold yU at e
   split at e
   .rename_i g;cases e;exact hP b g
   .cases e
  obtain ⟨sp,FO,ae⟩:=F _ _ Y (C Q) ah
  refine DM (FO.run callerA [] c H ⟨[.ref a],[]⟩ [.ref a] [.ref a] _ _ hr e0 (hbind c (.ref a)) (.cons rfl .nil) (ae H af hS)) fun r s' h=>?_
  cases r with
  | error e=>exact (hCX H e s' h).elim
  | ok fl=>
   cases fl with
   | next=>exact False.elim h
   | brk=>exact False.elim h
   | cont=>exact False.elim h
   | ret u=>
    obtain ⟨v,H',os,U,un,A,r',q⟩:=h
    have q':v=.bl true:=q
    subst q'
    obtain rfl:u=Value.bool true:=r'
    have kept:∀ b o,c.heap.get? b=some o->b∉Ps->s'.heap.get? b=some o:=fun b o e g=>by
     cases q:H b with
     | none=>exact un.keep b o e q (by intro z;exact absurd (show b∈([]:List Az) from z) (by simp)) (by simp)
     | some u=>
      rcases hA b (by rw[q];simp) with z|z
      .subst z
       rcases hO with z|⟨ob,xs,z⟩
       .rw[q] at z;cases z
       .have S:=un.frzs b ob _ z
        obtain ⟨e1,_⟩:=X b _ z
        obtain ⟨e2,_⟩:=A b _ S
        rw[e] at e1;cases e1
        exact e2
      .exact absurd z g
    refine ⟨rfl,⟨fun b o e=>?_,fun b o e=>?_⟩,os,U⟩
    .by_cases g:b∈Ps
     .obtain ⟨ps,e2,_⟩:=(show b9 P w H' s'.heap b (.tbl qs) from A b _ (un.tbls b _ (hP b g)))
      have e1:=(l b g).1
      rw[e] at e1;cases e1
      exact .inr (.inl ⟨(l b g).2,rfl,#[],ps,rfl,by rw[Array.empty_append];exact e2⟩)
     .exact .inl (kept b o e g)
    .by_cases g:b∈Ps
     .obtain ⟨ps,e2,_⟩:=(show b9 P w H' s'.heap b (.tbl qs) from A b _ (un.tbls b _ (hP b g)))
      exact ⟨_,e2⟩
     .exact ⟨o,kept b o e g⟩
 have B:∀ (H:Hp) b,b∈Ps->b9 P w H c.heap b (.tbl qs):=fun H b g=>⟨#[],(l b g).1,trivial,fun p _=>.inl rfl⟩
 cases hk:K.lookup a with
 | some o=>
  have e:=KX a o hk
  rw[ha] at e
  cases e
  refine D (yU Ps qs) (fun b g=>AE g) (fun b z=>?_) (.inl (AI G)) (.inr ⟨_,vs.toArray,_,hk,rfl,rfl,rfl,by rw[A2,R];exact hl,by simpa using rv⟩) (fun b u z=>?_) fun z=>absurd (AI G) z
  .by_cases g:b∈Ps
   .exact .inr g
   .exact absurd (AI g) z
  .by_cases g:b∈Ps
   .have E:=(AE g).symm.trans z
    cases E
    exact B _ b g
   .have E:=(AI g).symm.trans z
    cases E
 | none=>
  refine D (fun b=>if b=a then some (.frz {cls:=.type "list",data:=.seq vs.toArray} (.lst (ns.map V.int))) else yU Ps qs b) (fun b g=>?_) (fun b z=>?_) (.inr ⟨_,_,AE rfl⟩) (.inl (.inr ⟨{cls:=.type "list",data:=.seq vs.toArray},AE rfl⟩)) (fun b u z=>?_) fun _=>hk
  .rw[AI (show ¬ b=a from fun z=>G (by rw[<-z];exact g))];exact AE g
  .by_cases g:b=a
   .exact .inl g
   .rw[AI g] at z
    by_cases t:b∈Ps
    .exact .inr t
    .exact absurd (AI t) z
  .by_cases g:b=a
   .have E:=(AE g).symm.trans z
    cases E
    subst g
    exact ⟨ha,by rw[AD];exact hl,vs,_,rv,ha⟩
   .have E:=(AI g).symm.trans z
    by_cases t:b∈Ps
    .have S:=(AE t).symm.trans E
     cases S
     exact B _ b t
    .have S:=(AI t).symm.trans E
     cases S
theorem aKI{p:P9}{e:List Str}{g:ExcName->O6 V9}{mg n:Str->O6 V9}{h:Hz}(T:Top p e g mg n h)(xs:List Str)(hx:∀ x∈xs,∃ d∈recsOf p,d.name=x) :
  ∃ tb:Str->Az×Az,(∀ x∈xs,PySem.W.CodeHd h (tb x).1 (tb x).2/\h.get? (tb x).2=some (PySem.W.tabObj #[]))/\∀ x∈xs,∀ f o fd,mg x=some (.ref f)->h.get? f=some o->o.data=.func fd->fd.code=.ref (tb x).1:=by
 have b:∀ x,∃ t:Az×Az,x∈xs->(PySem.W.CodeHd h t.1 t.2/\h.get? t.2=some (PySem.W.tabObj #[]))/\∀ f o fd,mg x=some (.ref f)->h.get? f=some o->o.data=.func fd->fd.code=.ref t.1:=fun x=>by
  by_cases i:x∈xs
  .obtain ⟨d,s,rfl⟩:=hx x i
   obtain ⟨a,o,fd,c,l,h1,h2,q,u,r,k⟩:=T.tab d s
   refine ⟨(c,l),fun _=>⟨⟨PySem.W.CodeHd.of r k,k.2⟩,fun f o' m e1 e2 j=>?_⟩⟩
   rw[h1] at e1;cases e1
   rw[h2] at e2;cases e2
   rw[q] at j;cases j
   exact u
  .exact ⟨(0,0),fun z=>absurd z i⟩
 exact ⟨fun x=>(b x).choose,fun x hx=>((b x).choose_spec hx).1,fun x hx=>((b x).choose_spec hx).2⟩
theorem walk_ofT{l:PySem.W.OpenLaw}{n k:Nat}{q:P9}{j:List Str}{I:(Str->O6 V9)->Hz->Prop}{C:W9->Hz->Prop}{d:DefRec}{K:Params->Frag}{CX:W9->CXT}{x:Str}{qs:List (Pos×Str)}{xs:List Str}
  (y:∀ x∈xs,∃ d∈recsOf q,d.name=x) (hNT:∀ w:W9,PySem.W.noTabs (K w.params)=true)
  (hn:l.most=some n) (z:n<=sizeLine) (t:d.params.defaults=[]) (J:Room k callerA)
  (E:∀ (w:W9) (h:Hz),C w h->(K w.params).In h)
  (F:∀ (w:W9) (mg:Str->O6 V9) (fa:Az) (h:Hz),(K w.params).In h->h.Ns mainGlobals mg->mg d.name=some (.ref fa)->
   ∃ fd:FuncData,(∀ (s:S9) (u:V9),BindsTo s fd ⟨[u],[]⟩ [(x,u)]) /\
    ∀ (base:Hz) (T:Hp),(K w.params).In base->base.Ns mainGlobals mg->yV mg h base T qs xs->∃ sp,FnOk l.prog w (K w.params) mg base (CX w) k fa fd [x] sp /\
     ∀ (H:Hp) (a:Az) (ns:List Int),ns.length<=n->aJ T H->SqL (K w.params) H a (ns.map V.int)->sp [.ref a] H (fun v _=>v=.bl true) fun _ _ _=>False)
  (r:∀ (w:W9) (H:Hp) (s:S9) (e:V9) (s':S9),CX w [] H s (fun _ _ _=>False) e s'->False) :
  PySem.W.WalkO q j I C l.row.toRowW d [] (fun f vs=>PySem.call f vs):=by
 refine Att.attach_call hn t fun w s₀ p mg mb fa o pm cd doc a vs ns G Y ho Z Q B m i c M=>?_
 have D:=E w _ Y
 obtain ⟨fd,L,U⟩:=F w mg fa _ D G.T.g B
 obtain ⟨tb,O,A⟩:=aKI G.T xs y
 refine aFJ (qs:=qs) O A G.T.bmain (hNT w) D G.T.g G.T.b G.T.builtins G.T.nolimit M m i (BE c z) J (fun base T N S P=>?_) L fun H e s'=>r w H p e s'
 obtain ⟨sp,R,X⟩:=U base T N S P
 exact ⟨sp,R,fun H h1 h2=>X H a ns c h1 h2⟩
end L2
namespace Fl
open PySem L2 PyProof.Rows
mutual
noncomputable def gO:Dz->Bool
 | .none=>true
 | .int _=>true
 | .str x=>PyData.strOk x
 | .tuple xs=>fD xs
 | _=>false
noncomputable def fD:List Dz->Bool
 | []=>true
 | x::t=>gO x && fD t
end
mutual
noncomputable def g9(w:W9):Dz->Int
 | .none=>reduceHash 0xFCA86420
 | .int i=>hashInt i
 | .str x=>hashStr w x
 | .tuple xs=>reduceHash (Builtin.Tuple.tupleHashOf (lZ w xs))
 | _=>0
noncomputable def lZ(w:W9):List Dz->List Int
 | []=>[]
 | x::t=>g9 w x::lZ w t
end
mutual
noncomputable def gA:Dz->Nat
 | .tuple xs=>mD xs+1
 | _=>1
noncomputable def mD:List Dz->Nat
 | []=>0
 | x::t=>gA x+mD t
end
mutual
theorem n4:∀ {d:Dz},gO d=true->d.canLay0=true
 | .none,_=>rfl
 | .int _,_=>rfl
 | .str x,h=>h
 | .tuple xs,h=>by
  have h':fD xs=true:=h
  exact yW h'
theorem yW:∀ {xs:List Dz},fD xs=true->PyData.canLayAll0 xs=true
 | [],_=>rfl
 | x::t,h=>by
  have h':(gO x && fD t)=true:=h
  rw[A3] at h'
  show (x.canLay0 && PyData.canLayAll0 t)=true
  rw[n4 h'.1,yW h'.2];rfl
end
mutual
theorem vC:∀ {d e:Dz},gO d=true->gO e=true->(PyData.eqv d e=true↔d=e)
 | .none,e,_,he=>by cases e<;>simp[PyData.eqv]<;>cases he
 | .int i,e,_,he=>by cases e<;>simp[PyData.eqv]<;>cases he
 | .str x,e,_,he=>by cases e<;>simp[PyData.eqv]<;>cases he
 | .tuple xs,e,hd,he=>by
  have hd':fD xs=true:=hd
  cases e with
  | tuple ys=>
   have a:fD ys=true:=he
   have:=yX hd' a
   show PyData.eqvAll xs ys=true↔_
   rw[this]
   exact ⟨fun z=>by rw[z],fun z=>by cases z;rfl⟩
  | _=>simp[PyData.eqv]<;>cases he
theorem yX:∀ {xs ys:List Dz},fD xs=true->fD ys=true->(PyData.eqvAll xs ys=true↔xs=ys)
 | [],ys,_,_=>by cases ys<;>simp[PyData.eqvAll]
 | x::t,ys,hx,hy=>by
  have hx':(gO x && fD t)=true:=hx
  rw[A3] at hx'
  cases ys with
  | nil=>simp[PyData.eqvAll]
  | cons y u=>
   have c:(gO y && fD u)=true:=hy
   rw[A3] at c
   rw[PyData.eqvAll,A3,vC hx'.1 c.1,yX hx'.2 c.2]
   exact ⟨fun ⟨a,b⟩=>by rw[a,b],fun z=>by cases z;exact ⟨rfl,rfl⟩⟩
end
noncomputable instance decPyData:DecidableEq Dz:=fun a b=>Classical.propDecidable (a=b)
theorem aKJ{d e:Dz}(b:gO d=true)(a:gO e=true):PyData.eqv d e=decide (d=e):=by
 by_cases h:d=e
 .rw[BM h,(vC b a).mpr h]
 .rw[BB h]
  cases q:PyData.eqv d e with
  | false=>rfl
  | true=>exact absurd ((vC b a).mp q) h
theorem aDC(xs:List Dz):gA (.tuple xs)=mD xs+1:=by rw[gA]
theorem wK(A:U9):A.in1.units=A.units+1:=rfl
def lK(prog:P9)(w:W9)(E:V9->S9->Prop)(d:Dz):Prop:=∀ (v:V9) (as:List Az) (A:U9) (s:S9) (Q:Int->S9->Prop),gO d=true->Reads s.heap v d as->A.units+d.depth < cLine->Q (g9 w d) {s with toks:=s.toks+gA d}->
 wpAny (model prog w) A (pyHash v) Q E s
theorem aM0{prog:P9}{w:W9}{E:V9->S9->Prop}:∀ (xs:List Dz) (ih:∀ x∈xs,lK prog w E x) (vs:List V9) (as:List Az) (A:U9) (s:S9) (b:Array Int) (Q:Array Int->S9->Prop),fD xs=true->ReadsAll s.heap vs xs as->A.units+PyData.depthAll xs < cLine->
  (∀ b',b'.toList=b.toList++lZ w xs->Q b' {s with toks:=s.toks+mD xs})->
  wpAny (model prog w) A (forIn vs b fun x r=>do let h <-pyHash x;pure PUnit.unit;pure (ForInStep.yield (r.push h))) Q E s:=by
 intro xs
 induction xs with
 | nil=>
  intro ih vs as A s b Q _ x _ h
  cases x
  exact AC (h b (by simp[lZ]))
 | cons k xs ih0=>
  intro ih vs as A s b Q c x f h
  cases x with
  | @cons v vs _ _ as bs x1 x2=>
   have a:(gO k && fD xs)=true:=c
   rw[A3] at a
   have d:A.units+max k.depth (PyData.depthAll xs) < cLine:=f
   rw[CY]
   refine AA (AA (ih k AX _ _ A s _ a.1 x1 (by omega) ?_))
   refine AA (AC (AC ?_))
   refine ih0 (fun x e=>ih x (AN _ e)) _ _ A {s with toks:=s.toks+gA k} _ Q a.2 x2 (by omega) fun b' g=>?_
   have q:=h b' (by rw[g];simp[lZ])
   rw[show mD (k::xs)=gA k+mD xs by rw[mD],<-Nat.add_assoc] at q
   exact q
theorem wL(w:W9)(i:Int):g9 w (.int i)=hashInt i:=by rw[g9]
theorem wM(w:W9)(i:Str):g9 w (.str i)=hashStr w i:=by rw[g9]
theorem aFK(w:W9)(xs:List Dz):g9 w (.tuple xs)=reduceHash (Builtin.Tuple.tupleHashOf (lZ w xs)):=by rw[g9]
theorem aDD(i:Int):gA (.int i)=1:=by unfold gA;rfl
theorem aDE(i:Str):gA (.str i)=1:=by unfold gA;rfl
theorem aHH{prog:P9}{w:W9}{E:V9->S9->Prop}(i:Int):lK prog w E (.int i):=fun v a A s Q _ r _ h=>by
 rw[wL,aDD] at h
 cases r
 exact wpAny_pyHash_int h
theorem aHI{prog:P9}{w:W9}{E:V9->S9->Prop}(i:Str):lK prog w E (.str i):=fun v a A s Q _ r _ h=>by
 rw[wM,aDE] at h
 cases r
 exact wpAny_pyHash_str h
theorem aHJ{prog:P9}{w:W9}{E:V9->S9->Prop}(xs:List Dz)(f:∀ x∈xs,lK prog w E x):lK prog w E (.tuple xs):=fun v d A s Q e r i h=>by
 rw[aFK,aDC] at h
 cases r with
 | @tuple a o vs n _ d h1 h2 h3 h4=>
  have c:fD xs=true:=e
  have g:A.units+(PyData.depthAll xs+1) < cLine:=i
  refine PySem.W.pyHash_slot (T:="tuple") ⟨o,h1,h2⟩ F.slot_tuple_hash F.entry_tuple_hash (F.args_tuple_hash_1 _) (beq_builtin_none _) (.inr (by omega)) ?_
  show wpAny _ _ (Builtin.Tuple.tupleItemsOf (.ref a) >>= _) _ _ s
  refine AA (wpAny_tupleItemsOf h1 h3 ?_)
  refine AA ?_
  rw[<-Array.forIn_toList]
  refine aM0 xs f vs.toList d A.in1 s #[] _ c h4 (by rw[wK];omega) fun b j=>?_
  show wpAny _ _ (retInt (Builtin.Tuple.tupleHashOf b.toList)) _ _ _
  rw[j]
  exact AA (wpAny_mkInt (AC ⟨_,_,rfl,h⟩))
theorem aDF(w:W9):g9 w .none=reduceHash 0xFCA86420:=by rw[g9]
theorem aBA:gA .none=1:=by unfold gA;rfl
theorem aHK{prog:P9}{w:W9}{E:V9->S9->Prop}:lK prog w E .none:=fun v c A s Q _ r b h=>by
 rw[aDF,aBA] at h
 generalize a:reduceHash 0xFCA86420=g at h
 cases r
 refine PySem.W.pyHash_slot (T:="NoneType") rfl F.slot_NoneType_hash F.entry_NoneType_hash (F.args_NoneType_hash_1 _) (beq_builtin_none _) (.inr (by omega)) (AA (AC (AA (wpAny_mkInt (AC ⟨0xFCA86420,_,rfl,?_⟩)))))
 rw[a]
 exact h
theorem aM1{prog:P9}{w:W9}{E:V9->S9->Prop}:∀ (n:Nat) (d:Dz),sizeOf d<=n->lK prog w E d:=by
 intro n
 induction n with
 | zero=>intro d h;cases d<;>simp at h
 | succ n ih=>
  intro d h
  cases d with
  | none=>exact aHK
  | int i=>exact aHH i
  | str x=>exact aHI x
  | tuple xs=>
   refine aHJ xs fun x e=>ih x ?_
   have:=List.sizeOf_lt_of_mem e
   simp only[PyData.tuple.sizeOf_spec] at h
   omega
  | bool b=>exact fun v c A s Q a=>nomatch a
  | list xs=>exact fun v c A s Q a=>nomatch a
  | dict xs=>exact fun v c A s Q a=>nomatch a
theorem aM2{prog:P9}{w:W9}{E:V9->S9->Prop}(d:Dz):lK prog w E d:=aM1 (sizeOf d) d (AM _)
theorem aKK{M:Model}{A:U9}{E:V9->S9->Prop}{s:S9}:∀ (n:Nat) (d:Dz) (v:V9) (as:List Az) (Q:Bool->S9->Prop),gO d=true->Reads s.heap v d as->d.depth<=n->Q true s->wpAny M A (eqIsQuiet n v) Q E s:=by
 intro n
 induction n with
 | zero=>
  intro d v as Q c r j h
  cases d with
  | none=>cases r;rw[DJ _ rfl];exact AC h
  | int i=>cases r;rw[DJ _ rfl];exact AC h
  | str x=>cases r;rw[DJ _ rfl];exact AC h
  | tuple xs=>
   have f:PyData.depthAll xs+1<=0:=j
   omega
  | bool b=>exact nomatch c
  | list xs=>exact nomatch c
  | dict xs=>exact nomatch c
 | succ n ih=>
  intro d v as Q c r j h
  cases d with
  | none=>cases r;rw[DJ _ rfl];exact AC h
  | int i=>cases r;rw[DJ _ rfl];exact AC h
  | str x=>cases r;rw[DJ _ rfl];exact AC h
  | bool b=>exact nomatch c
  | list xs=>exact nomatch c
  | dict xs=>exact nomatch c
  | tuple xs=>
   cases r with
   | @tuple a o vs m _ as h1 h2 h3 h4=>
    have g:fD xs=true:=c
    have f:PyData.depthAll xs+1<=n+1:=j
    have k:s.TypeIs (.ref a) "tuple":=⟨o,h1,h2⟩
    unfold eqIsQuiet
    refine AA (wpAny_specialOf k F.slot_tuple_eq.lookup ?_)
    show wpAny _ _ (isInstance (.ref a) (.type "tuple") >>= _) _ _ s
    refine AA (EF k isSubtype_tuple_tuple ?_)
    simp only[EG,BI,CD]
    refine AA (C4 h1 h3 ?_)
    refine AA ?_
    show wpAny _ _ (forIn vs _ _) _ _ s
    rw[<-Array.forIn_toList]
    refine wpAny_forIn_list _ (fun rest r s'=>r.1=none/\s'=s/\∃ ys bs,fD ys=true/\PyData.depthAll ys<=n/\ReadsAll s.heap rest ys bs) _ ?_ ?_ _ _ ⟨rfl,rfl,xs,_,g,by omega,h4⟩
    .rintro v rest r s' ⟨hr,rfl,ys,bs,hy,hdy,ry⟩
     cases ry with
     | @cons _ _ y yt cs ds r1 r2=>
      have e:(gO y && fD yt)=true:=hy
      rw[A3] at e
      have l:max y.depth (PyData.depthAll yt)<=n:=hdy
      refine AA (ih y v _ _ e.1 r1 (by omega) ?_)
      simp only[EG,BI,CD]
      exact AC ⟨rfl,rfl,yt,_,e.2,by omega,r2⟩
    .rintro ⟨r1,r2⟩ s' ⟨hr,rfl,_⟩
     simp only at hr
     subst hr
     exact AC h
def aPX(h:Hz)(d:Dz)(a:Az):Prop:=gO d=true/\d.depth<=8/\∃ as,Reads h (.ref a) d as
theorem aDG{h h':Hz}{a:Az}{o:Obj}{es:Array DictEntry}{m:Nat}(s:h.get? a=some o)(p:o.data=.dict es m)(w:Heap.SameBut a h h'){v:V9}{d:Dz}{e:List Az}(c:gO d=true)(r:Reads h v d e):Reads h' v d e:=by
 refine Reads.rec (motive_1:=fun v d e _=>gO d=true->Reads h' v d e) (motive_2:=fun vs xs e _=>fD xs=true->ReadsAll h' vs xs e) ?_ ?_ ?_ ?_ ?_ ?_ ?_ ?_ ?_ r c
 .exact fun _=>.none
 .intro b c;cases c
 .exact fun i t _=>.int i t
 .exact fun i t _=>.str i t
 .intro b o' vs n xs e h1 h2 f l g c;cases c
 .intro b o' vs n xs e h1 h2 f l g c
  exact .tuple ((w.2 b (fun z=>by subst z;rw[s] at h1;cases h1;rw[p] at f;cases f)).trans h1) h2 f (g c)
 .intro b o' q n u e bs h1 h2 f l x k j c;cases c
 .exact fun _=>.nil
 .intro v vs d ds e bs y A k j c
  exact .cons (k ((A3 ..).mp c).1) (j ((A3 ..).mp c).2)
noncomputable def kJ(prog:P9)(w:W9):HeapKind prog w Dz where
 is:=aPX
 hash:=g9 w
 draws:=gA
 room:=fun A=>A.units+9 < cLine
 inj:=fun {h a x y} hx hy=>by
  obtain ⟨k1,_,as,r1⟩:=hx
  obtain ⟨k2,_,bs,r2⟩:=hy
  exact PySem.SeqAt.Reads.unique x y _ _ _ (n4 k1) r1 r2
 keeps:=fun {h h' k a d o es ep} hx ho hd hs=>by
  obtain ⟨k1,k2,as,r1⟩:=hx
  exact ⟨k1,k2,as,aDG ho hd hs k1 r1⟩
 pyHash:=fun {A E s k a Q} hu hk h=>by
  obtain ⟨k1,k2,as,r1⟩:=hk
  exact aM2 k _ as A s Q k1 r1 (by omega) h
 eqBool:=fun {A E s x y a b Q} hu hx hy h=>by
  obtain ⟨k1,k2,as,r1⟩:=hx
  obtain ⟨l1,l2,bs,r2⟩:=hy
  refine PySem.SeqAt.eqAt_reads x y A s _ _ as bs r1 r2 (n4 k1) (n4 l1) ?_ prog w E Q ?_
  .have:min x.depth y.depth<=8:=BE (Nat.min_le_left _ _) k2
   omega
  .rw[aKJ k1 l1];exact h
 quiet:=fun {A E s k a Q} hk h=>by
  obtain ⟨k1,k2,as,r1⟩:=hk
  exact aKK 8 k _ as Q k1 r1 k2 h
abbrev Ent:=Dz×V×V
def rC(w:W9)(p:Ent)(en:DictEntry):Prop:=en.hash=g9 w p.1/\bB p.2.1 en.key/\bB p.2.2 en.val
def kK(w:W9)(a:Az)(es:List Ent)(ep:Nat):HO:=.ext fun h=>(a == sysModules)=false/\∃ o ar,h.get? a=some o/\o.ExactDict/\o.data=.dict ar ep/\Paired (rC w) es ar.toList
theorem vE{P:P9}{w:W9}{H:Hp}{h:Hz}{a:Az}{es:List Ent}{c:Nat}(f:(a == sysModules)=false)(b:∃ o ar,h.get? a=some o/\o.ExactDict/\o.data=.dict ar c/\Paired (rC w) es ar.toList):b9 P w H h a (kK w a es c):=
 ⟨⟨f,b⟩,let ⟨o,_,e,_⟩:=b;⟨o,e⟩,fun h1 h2 ⟨q,o,es,e,r⟩ d=>⟨q,o,es,d _ e,r⟩⟩
noncomputable def vF:Dz->Bool
 | .tuple xs=>gO (.tuple xs) && decide ((PyData.tuple xs).depth<=8)
 | _=>false
noncomputable def aHL:Dz->Bool
 | .int _=>true
 | .str _=>true
 | _=>false
def eD(k:Dz)(ks:List Dz):Bool:=(vF k && ks.all vF) || (aHL k && ks.all aHL)
theorem aKL{d:Dz}(h:vF d=true):∃ xs,d=.tuple xs/\gO d=true/\d.depth<=8:=by
 cases d with
 | tuple xs=>
  have h':(gO (.tuple xs) && decide ((PyData.tuple xs).depth<=8))=true:=h
  rw[A3] at h'
  exact ⟨xs,rfl,h'.1,CW h'.2⟩
 | _=>cases h
def j3:Key->Dz
 | .inl i=>.int i
 | .inr x=>.str x
theorem aBQ{d:Dz}(h:aHL d=true):∃ k,d=j3 k:=by
 cases d with
 | int i=>exact ⟨.inl i,rfl⟩
 | str i=>exact ⟨.inr i,rfl⟩
 | _=>cases h
theorem wN{a b:Key}(h:j3 a=j3 b):a=b:=by
 cases a<;>cases b<;>cases h<;>rfl
theorem aBR{K:Frag}{H:Hp}{v:V}{k:Key}(h:DatV K H v (j3 k)):v=kV k:=by
 cases k with
 | inl i=>exact h.int_of
 | inr x=>exact h.str_of
theorem yY{P:P9}{w:W9}(k:Key):g9 w (j3 k)=(cA P w).hash k:=by
 cases k with
 | inl i=>exact wL w i
 | inr x=>exact wM w x
def vG:Ent->(Dz×Az×V9)->Prop:=fun e x=>e.1=x.1/\e.2.1=.ref x.2.1/\bB e.2.2 x.2.2
def vH:Ent->(Key×V9)->Prop:=fun e x=>e.1=j3 x.1/\e.2.1=kV x.1/\bB e.2.2 x.2
theorem aFL{P:P9}{w:W9}:∀ {es:List Ent} {ens:List DictEntry},Paired (rC w) es ens->(∀ e∈es,∃ b,e.2.1=.ref b)->∃ xs,ens=xs.map (entryOfKey (kJ P w))/\Paired vG es xs
 | _,_,.nil,_=>⟨[],rfl,.nil⟩
 | e::es,en::ens,.cons h t,hb=>by
  obtain ⟨xs,h1,h2⟩:=aFL (P:=P) t fun e k=>hb e (AN _ k)
  obtain ⟨b,a⟩:=hb e AX
  obtain ⟨m,j,l⟩:=h
  rw[a] at j
  obtain ⟨c,d,f⟩:=en
  have g:d=Value.ref b:=j
  have i:c=g9 w e.1:=m
  subst g i
  exact ⟨(e.1,b,f)::xs,by rw[AJ,h1];rfl,.cons ⟨rfl,a,l⟩ h2⟩
theorem yZ{P:P9}{w:W9}:∀ {es:List Ent} {xs:List (Dz×Az×V9)},Paired vG es xs->Paired (rC w) es (xs.map (entryOfKey (kJ P w)))
 | _,_,.nil=>.nil
 | _,_,.cons h t=>.cons ⟨by rw[h.1];rfl,by rw[h.2.1];rfl,h.2.2⟩ (yZ t)
theorem aFM{P:P9}{w:W9}:∀ {es:List Ent} {ens:List DictEntry},Paired (rC w) es ens->(∀ e∈es,∃ k,e.1=j3 k/\e.2.1=kV k)->∃ xs,Pairs (cA P w) ens xs/\Paired vH es xs/\∀ en∈ens,∃ k,(cA P w).is k en.key=true/\en.hash=(cA P w).hash k
 | _,_,.nil,_=>⟨[],.nil,.nil,fun _ h=>by cases h⟩
 | e::es,en::ens,.cons h t,hb=>by
  obtain ⟨xs,h1,h2,h3⟩:=aFM (P:=P) t fun e f=>hb e (AN _ f)
  obtain ⟨k,b,a⟩:=hb e AX
  obtain ⟨g,j,i⟩:=h
  have hi:(cA P w).is k en.key=true:=aI5 (by rw[<-a];exact j)
  refine ⟨(k,en.val)::xs,.cons hi rfl h1,.cons ⟨b,a,i⟩ h2,fun c d=>?_⟩
  rcases AG.mp d with z|z
  · subst z; exact ⟨k, hi, by rw [g, b, yY (P := P)]⟩
  · exact h3 c z
theorem aKM{P:P9}{w:W9}{k:Key}{v:V9}(h:(cA P w).is k v=true):bB (kV k) v:=by
 rcases keyIs_shape h with ⟨i,t,rfl,rfl⟩|⟨x,t,rfl,rfl⟩
 · exact ⟨t, rfl⟩
 · exact ⟨t, rfl⟩
theorem y0{P:P9}{w:W9}:∀ {es:List Ent} {xs:List (Key×V9)} {ens:List DictEntry},Paired vH es xs->Pairs (cA P w) ens xs->(∀ en∈ens,∃ k,(cA P w).is k en.key=true/\en.hash=(cA P w).hash k)->Paired (rC w) es ens
 | _,_,_,.nil,.nil,_=>.nil
 | _,_,_,.cons h t,.cons p1 p2 ps,hk=>by
  obtain ⟨k,hk1,hk2⟩:=hk _ AX
  obtain rfl:=(cA P w).inj _ _ _ hk1 p1
  refine .cons ⟨by rw[hk2,h.1,yY (P:=P)],by rw[h.2.1];exact aKM hk1,by rw[p2];exact h.2.2⟩ (y0 t ps fun en a=>hk en (AN _ a))
noncomputable def atE(es:List Ent)(k:Dz):O6 V:=(es.find? fun e=>decide (e.1=k)).map (·.2.2)
noncomputable def pY(es:List Ent)(k:Dz)(kv v:V):List Ent:=if (atE es k).isSome then es.map (fun e=>if e.1=k then (e.1,e.2.1,v) else e) else es++[(k,kv,v)]
theorem y4{k:Dz}:∀ {es:List Ent} {xs:List (Dz×Az×V9)},Paired vG es xs->gM (atE es k) ((atKey xs k).map (·.2))
 | _,_,.nil=>trivial
 | e::es,x::xs,.cons h t=>by
  have ih:=y4 (k:=k) t
  unfold atE atKey at ih ⊢
  rw[C5,C5,h.1]
  by_cases q:x.1=k
  · rw [BM q]; exact h.2.2
  · rw [BB q]; exact ih
theorem y6{k:Key}:∀ {es:List Ent} {xs:List (Key×V9)},Paired vH es xs->gM (atE es (j3 k)) (valueAt xs k)
 | _,_,.nil=>trivial
 | e::es,x::xs,.cons h t=>by
  have ih:=y6 (k:=k) t
  unfold atE valueAt at ih ⊢
  rw[C5,C5,h.1]
  by_cases q:x.1=k
  · rw [BM q, BM (by rw [q])]; exact h.2.2
  · rw [BB q, BB (fun z => q (wN z))]; exact ih
theorem m8{o:O6 V}{u:O6 V9}(h:gM o u):o.isSome=u.isSome:=by
 cases o<;>cases u<;>first|rfl|exact h.elim
theorem oS{α β:Type}{f:α->β->Prop}{g:α->α}{k:β->β}(hg:∀ a b,f a b->f (g a) (k b)):∀ {xs:List α} {ys:List β},Paired f xs ys->Paired f (xs.map g) (ys.map k)
 | _,_,.nil=>.nil
 | _,_,.cons h t=>.cons (hg _ _ h) (oS hg t)
theorem oU{α β:Type}{f:α->β->Prop}{a:α}{b:β}(h:f a b):∀ {xs:List α} {ys:List β},Paired f xs ys->Paired f (xs++[a]) (ys++[b])
 | _,_,.nil=>.cons h .nil
 | _,_,.cons q t=>.cons q (oU h t)
theorem aOU{k:Dz}{b:Az}{v:V}{u:V9}{es:List Ent}{xs:List (Dz×Az×V9)}(r:bB v u)(h:Paired vG es xs):Paired vG (pY es k (.ref b) v) (storedH xs k b u):=by
 have q:=m8 (y4 (k:=k) h)
 rw[GE] at q
 unfold pY storedH
 rw[q]
 cases (atKey xs k).isSome with
 | true=>
  rw[AE rfl,AE rfl]
  refine oS (fun e x a=>?_) h
  unfold putAt
  rw[a.1]
  by_cases z:x.1=k
  · rw [AE z, AE z]; exact ⟨rfl, a.2.1, r⟩
  · rw [AI z, AI z]; exact a
 | false=>rw[AI (by decide),AI (by decide)];exact oU ⟨rfl,rfl,r⟩ h
theorem aI7{k:Key}:∀ {xs:List (Key×V9)},xs.any (fun kv=>decide (kv.1=k))=(valueAt xs k).isSome
 | []=>rfl
 | x::xs=>by
  have ih:=aI7 (k:=k) (xs:=xs)
  unfold valueAt at ih ⊢
  rw[FX,C5]
  by_cases q:x.1=k
  · rw [BM q]; rfl
  · rw [BB q, Bool.false_or]; exact ih
theorem aOV{k:Key}{v:V}{u:V9}{es:List Ent}{xs:List (Key×V9)}(r:bB v u)(h:Paired vH es xs):Paired vH (pY es (j3 k) (kV k) v) (stored xs k u):=by
 have q:=m8 (y6 (k:=k) h)
 unfold pY stored
 rw[q,aI7]
 cases (valueAt xs k).isSome with
 | true=>
  rw[AE rfl,AE rfl]
  refine oS (fun e x a=>?_) h
  by_cases z:x.1=k
  · rw [AE z, AE (by rw [a.1, z])]; exact ⟨by rw [a.1], a.2.1, r⟩
  · rw [AI z, AI (fun y => z (wN (a.1.symm.trans y)))]; exact a
 | false=>rw[AI (by decide),AI (by decide)];exact oU ⟨rfl,rfl,r⟩ h
section
variable{X:Cx}{pins:List (Az×Obj)}{σ:L2.St}{H:Hp}{s:S9}{a:Az}{es:List Ent}{k:Dz}{kv v:V}{ku u:V9}{A:U9}{E:V9->S9->Prop}
structure DicAt(X:Cx)(H:Hp)(a:Az)(es:List Ent)(k:Dz)(kv:V):Prop where
 o:∃ ep,H a=some (kK X.w a es ep)
 ks:∀ e∈es,DatV X.K H e.2.1 e.1
 nd:(es.map (·.1)).Nodup
 dk:DatV X.K H kv k
 one:eD k (es.map (·.1))=true
theorem tT{α β:Type}{f:α->β->Prop}{y:β}:∀ {xs:List α} {ys:List β},Paired f xs ys->y∈ys->∃ x,x∈xs/\f x y
 | _,_,.nil,h=>by cases h
 | _,_,.cons q t,h=>by
  rcases AG.mp h with z|z
  .subst z;exact ⟨_,AX,q⟩
  .obtain ⟨x,h1,h2⟩:=tT t z
   exact ⟨x,AN _ h1,h2⟩
theorem oV{α β γ:Type}{f:α->β->Prop}{g:α->γ}{k:β->γ}(h:∀ a b,f a b->g a=k b):∀ {xs:List α} {ys:List β},Paired f xs ys->xs.map g=ys.map k
 | _,_,.nil=>rfl
 | _,_,.cons q t=>by rw[AJ,AJ,h _ _ q,oV h t]
theorem wO{α β:Type}{f:α->β}:∀ {xs:List α},(xs.map f).Nodup->xs.Nodup
 | [],_=>C3
 | x::t,h=>by
  rw[AJ,BU] at h
  exact BU.mpr ⟨fun z=>h.1 (DT z),wO h.2⟩
theorem DicAt.cases (D : DicAt X H a es k kv) (I : Inv X pins σ H s) (M : bB kv ku) : (a == sysModules) = false /\
    ((∃ b xs, kv = .ref b /\ ku = .ref b /\ Paired vG es xs /\ (kJ X.prog X.w).is s.heap k b /\ s.heap.DictOfH (kJ X.prog X.w) a xs) \/
     (∃ kk xs, k = j3 kk /\ kv = kV kk /\ Paired vH es xs /\ (cA X.prog X.w).is kk ku = true /\ s.heap.DictOf (cA X.prog X.w) a xs)) := by
  obtain ⟨F, R⟩ := D.o
  obtain ⟨⟨A, o, J, h1, h2, N, O⟩, _, _⟩ := (show b9 X.prog X.w H s.heap a (kK X.w a es F) from I.hok a _ R)
  refine ⟨A, ?_⟩
  have f := D.one
  unfold eD at f
  rw [Bool.or_eq_true, A3, A3, CK, CK] at f
  rcases f with ⟨B, y⟩ | ⟨B, y⟩
  · have l : ∀ (d : Dz) (v : V), vF d = true -> DatV X.K H v d -> ∃ j, v = .ref j /\ (kJ X.prog X.w).is s.heap d j := fun d v A L => by
      obtain ⟨Y, rfl, G, U⟩ := aKL A
      obtain ⟨j, vs, rfl, _, _⟩ := L.tup_of
      obtain ⟨Q, r⟩ := L.reads I (n4 G) (u := .ref j) rfl
      exact ⟨j, rfl, G, U, Q, r⟩
    obtain ⟨b, rfl, E⟩ := l _ _ B D.dk
    cases (show ku = Value.ref b from M)
    obtain ⟨xs, m, c⟩ := aFL (P := X.prog) O fun e i => by
      obtain ⟨j, e1, _⟩ := l e.1 e.2.1 (y _ (DT i)) (D.ks e i)
      exact ⟨j, e1⟩
    refine .inl ⟨b, xs, rfl, rfl, c, E, o, J, F, h1, h2, N, m, fun x T => ?_, ?_⟩
    · obtain ⟨e, i, n⟩ := tT c T
      obtain ⟨j, e1, q⟩ := l e.1 e.2.1 (y _ (DT i)) (D.ks e i)
      rw [n.2.1] at e1
      cases e1
      rw [<- n.1]; exact q
    · rw [<- oV (g := fun e : Ent => e.1) (fun a b h => h.1) c]; exact D.nd
  · obtain ⟨kk, rfl⟩ := aBQ B
    have p := aBR D.dk
    obtain ⟨xs, m, c, z⟩ := aFM (P := X.prog) O fun e i => by
      obtain ⟨S, t⟩ := aBQ (y _ (DT i))
      have q := D.ks e i
      rw [t] at q
      exact ⟨S, t, aBR q⟩
    refine .inr ⟨kk, xs, rfl, p, c, aI5 (by rw [<- p]; exact M), o, J, F, h1, h2, N, fun W C => z W (by simpa using C), m, ?_⟩
    have : es.map (·.1) = (xs.map (·.1)).map j3 := by rw [D5]; exact oV (g := fun e : Ent => e.1) (fun a b h => h.1) c
    have nd := D.nd
    rw [this] at nd
    exact wO nd
theorem wP{A:U9}(a:A.units+64 < cLine):(kJ X.prog X.w).room A.in1:=by show A.in1.units+9 < cLine;rw[wK];omega
theorem aKN{Q:V9->S9->Prop}(f:A.units+64 < cLine)(D:DicAt X H a es k kv)(I:Inv X pins σ H s)(i:bB kv ku)(h:∀ s',Inv X pins σ H s'->Q (.bool (!(atE es k).isSome)) s'):wpAny (model X.prog X.w) A (compareOp .NotIn ku (.ref a)) Q E s:=by
 obtain ⟨e,⟨b,xs,rfl,rfl,d,c,dd⟩|⟨g,xs,rfl,rfl,d,c,dd⟩⟩:=D.cases I i
 .refine wpAny_notIn_heap (wP f) c e dd ?_
  have q:=m8 (y4 (k:=k) d)
  rw[GE] at q
  rw[<-q];exact h _ (I.tok _)
 .refine wpAny_notIn_of c e dd.mapOf ?_
  rw[<-m8 (y6 (k:=g) d)];exact h _ (I.tok _)
theorem aKO{Q:Unit->S9->Prop}(B:A.units+64 < cLine)(D:DicAt X H a es k kv)(I:Inv X pins σ H s)(F:bB kv ku)(z:bB v u)(t:es.length<=sizeLine)(h:∀ ep s',Inv X pins σ (upd H a (kK X.w a (pY es k kv v) ep)) s'->Q () s') :
  wpAny (model X.prog X.w) A (setItem (.ref a) ku u) Q E s:=by
 obtain ⟨y,⟨b,xs,rfl,rfl,e,m,dd⟩|⟨G,xs,rfl,rfl,e,m,dd⟩⟩:=D.cases I F
 .have n:xs.length<=sizeLine:=by rw[<-Paired.length e];exact t
  refine wpAny_setItem_heap (hsz:=n) (wP B) m dd fun h' c r=>?_
  obtain ⟨d,j,ep,f,h2,i,q,_,x⟩:=c
  obtain ⟨g,l⟩:=D.o
  refine h ep _ (aBP I (by rw[l];exact True.intro) r ⟨d,f⟩ (vE y ⟨d,j,f,h2,i,?_⟩))
  rw[q]
  exact yZ (aOU z e)
 .have n:xs.length<=sizeLine:=by rw[<-Paired.length e];exact t
  refine wpAny_setItem_pairs (hsz:=n) m dd fun h' c r=>?_
  obtain ⟨d,j,ep,f,h2,i,q,x,_⟩:=c
  obtain ⟨g,l⟩:=D.o
  refine h ep _ (aBP I (by rw[l];exact True.intro) r ⟨d,f⟩ (vE y ⟨d,j,f,h2,i,?_⟩))
  exact y0 (aOV z e) x fun C p=>q C (by simpa using p)
end
structure Er where
 c:Str
 fs:List (Str×Dz)
inductive R(α:Type) where
 | bad|ok (a:α)|ex (e:Er)
noncomputable def R.bind{α β:Type}:R α->(α->R β)->R β
 | .bad,_=>.bad
 | .ok a,f=>f a
 | .ex e,_=>.ex e
@[simp] theorem R.bind_ok{α β:Type}(a:α)(f:α->R β):(R.ok a).bind f=f a:=id rfl
@[simp] theorem R.bind_bad{α β:Type}(f:α->R β):(R.bad:R α).bind f=.bad:=id rfl
@[simp] theorem R.bind_ex{α β:Type}(e:Er)(f:α->R β):(R.ex e:R α).bind f=.ex e:=id rfl
inductive A where
 | d (x:Dz)|l (xs:List Dz)|m (kvs:List (Dz×Dz))|x (e:Er)|g (k n:Nat) (f:List Dz->R Dz)|k (q:Str)|f (kvs:List (Dz×Dz))|o (e:Er)
abbrev Sg:=List (O6 A)
structure Gb where
 B:Az->Hp->Nat->Nat->(List Dz->R Dz)->Prop
 T:Hp
 w:World
structure Ct where
 K:Frag
 mg:Str->Option V9
 w:World
 F0:Hp
 H0:Hp
 g:Gb
 cells:List (Str×Az)
 cls:Str->Option ClSt
theorem aHM{w:W9}{p:Az}{es:List Ent}{a:Nat}{q:Str}(h:kK w p es a=.cod q):False:=by unfold kK at h;cases h
theorem cB(H:Hp):aJ H H:=fun _ _ h=>h
theorem bK{H H':Hp}(s:aJ H H'){a:Az}(h:H' a=none):H a=none:=by
 cases e:H a with
 | none=>rfl
 | some o=>rw[s a o e] at h;cases h
def rD(H:Hp)(a:Az):Prop:=H a=none\/∃ q,H a=some (.cod q)
theorem rD.back{H H1:Hp}{a:Az}(s:aJ H H1)(h:rD H1 a):rD H a:=by
 cases e:H a with
 | none=>exact .inl e
 | some o=>
  have e1:=s a o e
  rcases h with z|⟨q,z⟩
  · rw [e1] at z; cases z
  · rw [e1] at z; cases z; exact .inr ⟨q, e⟩
structure Ext(F H F' H':Hp):Prop where
 hh:aJ H H'
 ff:aJ F F'
 fh:aJ F' H'
 nw:∀ a,F a=none->F' a≠none->rD H a
theorem Ext.refl{F H:Hp}(h:aJ F H):Ext F H F H:=⟨cB H,cB F,h,fun a e n=>absurd e n⟩
theorem Ext.trans{F H c H1 d H2:Hp}(a:Ext F H c H1)(b:Ext c H1 d H2):Ext F H d H2:=
 ⟨fun x o e=>b.hh x o (a.hh x o e),fun x o e=>b.ff x o (a.ff x o e),b.fh,fun x e n=>by
  cases q:c x with
  | none=>exact (b.nw x q n).back a.hh
  | some o=>exact a.nw x e (by rw[q];exact fun z=>nomatch z)⟩
theorem Ext.stay{F H a H':Hp}(s:Ext F H a H'){p:Az}{o:HO}(c:F p=none)(h2:H p=some o)(b:∀ q,o≠.cod q):a p=none:=by
 cases q:a p with
 | none=>rfl
 | some o=>
  rcases s.nw p c (by rw[q];exact fun z=>nomatch z) with z|⟨d,z⟩
  · rw [z] at h2; cases h2
  · rw [z] at h2; cases h2; exact absurd rfl (b _)
theorem aHN{F H:Hp}{p:Az}{o:HO}(s:aJ F H):aJ (upd F p o) (upd H p o):=fun a u e=>by
 by_cases q:a=p
 · subst q; rw [aQ] at e ⊢; exact e
 · rw [aF q] at e ⊢; exact s a u e
theorem Ext.new{F H:Hp}{p:Az}{o:HO}(s:aJ F H)(b:H p=none):Ext F H (upd F p o) (upd H p o):=
 ⟨aJ.upd b,aJ.upd (bK s b),aHN s,fun a e n=>by
  by_cases q:a=p
  · subst q; exact .inl b
  · rw [aF q] at n; exact absurd e n⟩
theorem Ext.own{F H:Hp}{p:Az}{o:HO}(s:aJ F H)(b:H p=none):Ext F H F (upd H p o):=
 ⟨aJ.upd b,cB F,fun a u e=>by
  rw[aF (bS (s a u e) b)];exact s a u e,fun a e n=>absurd e n⟩
def nQ(K:Frag)(mg:Str->O6 V9)(F:Hp)(e:Er)(a C:Az):Prop:=mg e.c=some (.ref C)/\∃ od,F a=some (ExO a C od)/\((e.fs=[]/\od=none)\/∃ d fvs,od=some d/\F d=some (.xd fvs)/\fvs.map (·.1)=e.fs.map (·.1)/\DatVs K F (fvs.map (·.2)) (e.fs.map (·.2)))
theorem nQ.same{K:Frag}{mg:Str->O6 V9}{F b:Hp}{e:Er}{a C:Az}(s:aJ F b)(h:nQ K mg F e a C):nQ K mg b e a C:=by
 obtain ⟨m,od,h1,h2⟩:=h
 refine ⟨m,od,s _ _ h1,h2.imp id ?_⟩
 rintro ⟨d,fvs,e1,e2,e3,e4⟩
 exact ⟨d,fvs,e1,s _ _ e2,e3,e4.same s⟩
def aDH(K:Frag)(mg:Str->O6 V9)(F:Hp)(e:Er)(a:Az):Prop:=∃ C dx fvs,mg e.c=some (.ref C)/\F a=some (.ins C dx fvs)/\fvs.map (·.1)=e.fs.map (·.1)/\DatVs K F (fvs.map (·.2)) (e.fs.map (·.2))
theorem aDH.same{K:Frag}{mg:Str->O6 V9}{F c:Hp}{e:Er}{a:Az}(s:aJ F c)(h:aDH K mg F e a):aDH K mg c e a:=by
 obtain ⟨C,dx,b,h1,h2,d,f⟩:=h
 exact ⟨C,dx,b,h1,s _ _ h2,d,f.same s⟩
structure MapRel(K:Frag)(F:Hp)(es:List Ent)(kvs:List (Dz×Dz)):Prop where
 k1:es.map (·.1)=kvs.map (·.1)
 k2:DatVs K F (es.map (·.2.1)) (kvs.map (·.1))
 vs:DatVs K F (es.map (·.2.2)) (kvs.map (·.2))
 nd:(kvs.map (·.1)).Nodup
theorem MapRel.same{K:Frag}{F b:Hp}{es:List Ent}{a:List (Dz×Dz)}(s:aJ F b)(h:MapRel K F es a):MapRel K b es a:=⟨h.k1,h.k2.same s,h.vs.same s,h.nd⟩
def AF(g:Gb)(K:Frag)(mg:Str->O6 V9)(F:Hp):A->V->Prop
 | .d x,v=>DatV K F v x
 | .x e,v=>∃ a C,v=.ref a/\nQ K mg F e a C
 | .g k n G,v=>∃ f F1,v=.ref f/\aJ F1 F/\g.B f F1 k n G
 | .f kvs,v=>∃ p es,v=.ref p/\(∃ ep,F p=some (kK g.w p es ep))/\MapRel K F es kvs
 | .o e,v=>∃ a,v=.ref a/\aDH K mg F e a
 | _,_=>False
theorem AF.same{g:Gb}{K:Frag}{mg:Str->O6 V9}{F F':Hp}(s:aJ F F'):∀ {a:A} {v:V},AF g K mg F a v->AF g K mg F' a v
 | .d x,v,h=>DatV.same s h
 | .x e,v,⟨a,C,h1,h2⟩=>⟨a,C,h1,h2.same s⟩
 | .g k n G,v,⟨f,F1,h1,h2,h3⟩=>⟨f,F1,h1,fun a o z=>s a o (h2 a o z),h3⟩
 | .f kvs,v,⟨p,es,h1,⟨ep,h2⟩,h3⟩=>⟨p,es,h1,⟨ep,s _ _ h2⟩,h3.same s⟩
 | .o e,v,⟨a,h1,h2⟩=>⟨a,h1,h2.same s⟩
noncomputable def A.own:A->Bool
 | .l _=>true
 | .m _=>true
 | _=>false
def AO(c:Ct)(F H:Hp):A->V->Prop
 | .l xs,v=>∃ p vs,v=.ref p/\H p=some (.lst vs)/\F p=none/\c.H0 p=none/\DatVs c.K F vs xs
 | .m kvs,v=>∃ p es,v=.ref p/\(∃ ep,H p=some (kK c.w p es ep))/\F p=none/\c.H0 p=none/\MapRel c.K F es kvs
 | .k q,v=>∃ S f cl doc pm cc ct,c.cls q=some S/\v=.ref f/\F f=some (FnO f (S.obj cl doc pm cc ct))/\F cc=some (.cod S.qual)/\ClOf c.cells S.scope cl
 | a,v=>AF c.g c.K c.mg F a v
theorem AO.ext{c:Ct}{F H b H':Hp}(s:Ext F H b H'):∀ {a:A} {v:V},AO c F H a v->AO c b H' a v
 | .d x,v,h=>DatV.same s.ff h
 | .x e,v,h=>AF.same (g:=c.g) (K:=c.K) (mg:=c.mg) (a:=.x e) s.ff h
 | .g k n G,v,h=>AF.same (g:=c.g) (K:=c.K) (mg:=c.mg) (a:=.g k n G) s.ff h
 | .f kvs,v,h=>AF.same (g:=c.g) (K:=c.K) (mg:=c.mg) (a:=.f kvs) s.ff h
 | .o e,v,h=>AF.same (g:=c.g) (K:=c.K) (mg:=c.mg) (a:=.o e) s.ff h
 | .k q,v,⟨S,f,cl,doc,pm,cc,ct,h0,h1,h2,h3,h4⟩=>⟨S,f,cl,doc,pm,cc,ct,h0,h1,s.ff _ _ h2,s.ff _ _ h3,h4⟩
 | .l xs,v,⟨p,vs,h1,h2,h3,h4,h5⟩=>⟨p,vs,h1,s.hh _ _ h2,s.stay h3 h2 (fun _ z=>nomatch z),h4,h5.same s.ff⟩
 | .m kvs,v,⟨p,vs,h1,⟨ep,h2⟩,h3,h4,h5⟩=>⟨p,vs,h1,⟨ep,s.hh _ _ h2⟩,s.stay h3 h2 (fun _ z=>aHM z),h4,h5.same s.ff⟩
theorem AO.at{c:Ct}{F H:Hp}{a:A}{v:V}(h:AO c F H a v)(o:a.own=true):∃ p o,v=.ref p/\H p=some o/\F p=none/\c.H0 p=none:=by
 cases a with
 | l xs=>obtain ⟨p,vs,h1,h2,i,b,j⟩:=h;exact ⟨p,_,h1,h2,i,b⟩
 | m xs=>obtain ⟨p,vs,h1,⟨q,h2⟩,i,b,j⟩:=h;exact ⟨p,_,h1,h2,i,b⟩
 | d x=>cases o
 | x e=>cases o
 | g k n f=>cases o
 | k S=>cases o
 | f S=>cases o
 | o S=>cases o
theorem AO.off{c:Ct}{F H:Hp}{p:Az}{o:HO}:∀ {a:A} {v:V},AO c F H a v->v≠.ref p->AO c F (upd H p o) a v
 | .l xs,v,⟨q,vs,h1,h2,h3,h4,h5⟩,n=>⟨q,vs,h1,by rw[aF (fun z=>n (by rw[h1,z]))];exact h2,h3,h4,h5⟩
 | .m xs,v,⟨q,vs,h1,⟨ep,h2⟩,h3,h4,h5⟩,n=>⟨q,vs,h1,⟨ep,by rw[aF (fun z=>n (by rw[h1,z]))];exact h2⟩,h3,h4,h5⟩
 | .d x,v,h,_=>h
 | .x e,v,h,_=>h
 | .g k n G,v,h,_=>h
 | .k S,v,h,_=>h
 | .f S,v,h,_=>h
 | .o S,v,h,_=>h
structure Ab(c:Ct)(ρ:Sg)(σ:L2.St)(F H:Hp):Prop where
 len:ρ.length=σ.length
 fh:aJ F H
 slot:∀ (i:Nat) (a:A),ρ[i]? = some (some a)->∃ v,σ[i]? = some (some v)/\AO c F H a v
 apart:∀ (i j:Nat) (a b:A),i≠j->ρ[i]? = some (some a)->ρ[j]? = some (some b)->a.own=true->b.own=true->σ[i]? ≠ σ[j]?
 f0:aJ c.F0 F
 h0:aJ c.H0 H
 n0:∀ a,c.F0 a=none->F a≠none->rD c.H0 a
 t0:aJ c.g.T c.F0
theorem Ab.all{c:Ct}{ρ:Sg}{σ:L2.St}{F H:Hp}(b:Ab c ρ σ F H):Ext c.F0 c.H0 F H:=⟨b.h0,b.f0,b.fh,b.n0⟩
theorem Ab.ext{c:Ct}{ρ:Sg}{σ:L2.St}{F H d H':Hp}(b:Ab c ρ σ F H)(e:Ext F H d H'):Ab c ρ σ d H' where
 len:=b.len
 fh:=e.fh
 slot:=fun i a h=>let ⟨v,h1,h2⟩:=b.slot i a h;⟨v,h1,h2.ext e⟩
 apart:=b.apart
 f0:=fun x o h=>e.ff x o (b.f0 x o h)
 h0:=fun x o h=>e.hh x o (b.h0 x o h)
 n0:=fun a h n=>by
  cases q:F a with
  | none=>exact (e.nw a q n).back b.h0
  | some o=>exact b.n0 a h (by rw[q];exact fun z=>nomatch z)
 t0:=b.t0
def XW(c:Ct)(E:XK)(e:Er):Prop:=∀ a C F' H',Ext c.F0 c.H0 F' H'->nQ c.K c.mg F' e a C->E (.ref C) (some a) H'
def Rk{α:Type}(c:Ct)(E:XK)(F H:Hp)(r:R α)(k:α->Prop):Prop:=match r with
 | .bad=>False
 | .ok a=>k a
 | .ex e=>XW c E e
abbrev VR(α:Type):=α->V->Hp->Hp->Hp->Prop
def tV{α:Type}(Rel:VR α)(c:Ct)(E:XK)(f:Sg->R α):TE:=fun σ H Q=>∃ ρ F,Ab c ρ σ F H/\Rk c E F H (f ρ) fun d=>∀ v F' H',Ext F H F' H'->Rel d v H F' H'->Q v H'
def cK(c:Ct):VR Dz:=fun d v _ F _=>DatV c.K F v d
def aW(K:Frag)(F H:Hp)(v:V)(d:Dz):Prop:=DatV K F v d\/∃ p vs xs,v=.ref p/\d=.list xs/\H p=some (.lst vs)/\DatVs K F vs xs
def bD(c:Ct):VR Dz:=fun d v _ F H=>aW c.K F H v d
def aHO(c:Ct):VR A:=fun a v _ F _=>AF c.g c.K c.mg F a v
def aDI(c:Ct):VR (List Dz):=fun xs v H F H'=>∃ p vs,v=.ref p/\H p=none/\H' p=some (.lst vs)/\F p=none/\DatVs c.K F vs xs
abbrev PD(X:Cx)(c:Ct)(E:XK)(e:Ez)(f:Sg->R Dz):Prop:=PE X e (tV (cK c) c E f)
abbrev PR(X:Cx)(c:Ct)(E:XK)(e:Ez)(f:Sg->R Dz):Prop:=PE X e (tV (bD c) c E f)
abbrev PV(X:Cx)(c:Ct)(E:XK)(e:Ez)(f:Sg->R A):Prop:=PE X e (tV (aHO c) c E f)
abbrev PN(X:Cx)(c:Ct)(E:XK)(e:Ez)(f:Sg->R (List Dz)):Prop:=PE X e (tV (aDI c) c E f)
theorem PE.imp{X:Cx}{e:Ez}{t t':TE}(h:PE X e t)(i:∀ σ H Q,t' σ H Q->t σ H Q):PE X e t':=fun pins s σ H Q I q=>h pins s σ H Q I (i σ H Q q)
theorem PT.imp{X:Cx}{e:Ez}{t t':TT}(h:PT X e t)(i:∀ σ H Q,t' σ H Q->t σ H Q):PT X e t':=fun pins s σ H Q I q=>h pins s σ H Q I (i σ H Q q)
theorem PS.imp{X:Cx}{e:Stmt}{t t':TS}(h:PS X e t)(i:∀ D σ H,t' D σ H->t D σ H):PS X e t':=fun pins s σ H D I q=>h pins s σ H D I (i D σ H q)
theorem PSs.imp{X:Cx}{e:List Stmt}{t t':TS}(h:PSs X e t)(i:∀ D σ H,t' D σ H->t D σ H):PSs X e t':=fun pins s σ H D I q=>h pins s σ H D I (i D σ H q)
def aI8{α:Type}(Rel:VR α):Prop:=∀ d v H F H1 F2 H2,Ext F H1 F2 H2->Rel d v H F H1->Rel d v H F2 H2
theorem aW.ext{K:Frag}{F H a H':Hp}{v:V}{d:Dz}(e:Ext F H a H')(h:aW K F H v d):aW K a H' v d:=by
 rcases h with h|⟨p,vs,xs,h1,h2,b,c⟩
 · exact .inl (h.same e.ff)
 · exact .inr ⟨p, vs, xs, h1, h2, e.hh _ _ b, c.same e.ff⟩
theorem tU(c:Ct):aI8 (bD c):=fun d v H F H1 a H2 e h=>aW.ext e h
theorem aW.heap{K:Frag}{F H:Hp}{v:V}{d:Dz}(s:aJ F H)(h:aW K F H v d):DatV K H v d:=by
 rcases h with h|⟨p,vs,xs,h1,h2,a,b⟩
 · exact h.same s
 · subst h1 h2; exact .lst (SqL.of a) (b.same s)
section
variable{X:Cx}{c:Ct}{E:XK}{α β γ:Type}{Ra:VR α}{Rb:VR β}{Rc:VR γ}{σ:L2.St}{H:Hp}{Q:VK}
theorem Rk.ok{F:Hp}{a:α}{k:α->Prop}(h:Rk c E F H (.ok a) k):k a:=h
theorem Rk.imp{F:Hp}{r:R α}{k b:α->Prop}(h:Rk c E F H r k)(i:∀ a,r=.ok a->k a->b a):Rk c E F H r b:=by
 cases r with
 | bad=>exact h
 | ok a=>exact i a rfl h
 | ex e=>exact h
theorem Rk.bind{F:Hp}{r:R α}{f:α->R β}{k:β->Prop}(h:Rk c E F H (r.bind f) k):Rk c E F H r fun a=>Rk c E F H (f a) k:=by
 cases r with
 | bad=>exact h
 | ok a=>exact h
 | ex e=>exact h
theorem Rk.ext{F b H':Hp}{r:R α}{k:α->Prop}(e:Ext F H b H')(h:Rk c E F H r k):Rk c E b H' r k:=by
 cases r with
 | bad=>exact h
 | ok a=>exact h
 | ex x=>exact h
end
def aDJ{α:Type}(Rel:VR α):Prop:=∀ d v H H1 F' H',aJ H H1->Rel d v H1 F' H'->Rel d v H F' H'
theorem j4(c:Ct):aDJ (cK c):=fun _ _ _ _ _ _ _ h=>h
section
variable{X:Cx}{c:Ct}{E:XK}{α β γ:Type}{Ra:VR α}{Rb:VR β}{Rc:VR γ}
def Op1(c:Ct)(Ra:VR α)(Rb:VR β)(g:α->R β)(r:V->Hp->VK->Prop):Prop:=
 ∀ (H0 F H:Hp) (a:α) (b:β) (v:V) (Q:VK),aJ F H->Ra a v H0 F H->g a=.ok b->(∀ w F' H',Ext F H F' H'->Rb b w H F' H'->Q w H')->r v H Q
def Op2(c:Ct)(Ra:VR α)(Rb:VR β)(Rc:VR γ)(g:α->β->R γ)(r:R2):Prop:=
 ∀ (H0 H1 F H:Hp) (a:α) (b:β) (d:γ) (v u:V) (Q:VK),aJ F H->Ra a v H0 F H->Rb b u H1 F H->g a b=.ok d->(∀ w F' H',Ext F H F' H'->Rc d w H F' H'->Q w H')->r v u H Q
def lL(g:α->R β):Prop:=∀ a e,g a≠.ex e
def dC(g:α->β->R γ):Prop:=∀ a b e,g a b≠.ex e
theorem tV1{f:Sg->R α}{g:α->R β}{r:V->Hp->VK->Prop}(n:Op1 c Ra Rb g r)(k:lL g)(o:aDJ Rb){σ:L2.St}{H:Hp}{Q:VK}(h:tV Rb c E (fun ρ=>(f ρ).bind g) σ H Q) :
  tV Ra c E f σ H fun v H1=>r v H1 Q:=by
 obtain ⟨ρ,F,ab,h⟩:=h
 refine ⟨ρ,F,ab,(Rk.bind h).imp fun a p q v l H1 e1 m=>?_⟩
 cases d:g a with
 | bad=>rw[d] at q;exact q.elim
 | ex e=>exact absurd d (k a e)
 | ok b=>
  rw[d] at q
  exact n H l H1 a b v Q e1.fh m d fun w j H' e2 i=>q w j H' (e1.trans e2) (o _ _ _ _ _ _ e1.hh i)
theorem tV2{f:Sg->R α}{k:Sg->R β}{g:α->β->R γ}{r:R2}(B:Op2 c Ra Rb Rc g r)(p:dC g)(C:aI8 Ra)(n:aDJ Rc){σ:L2.St}{H:Hp}{Q:VK}(h:tV Rc c E (fun ρ=>(f ρ).bind fun a=>(k ρ).bind fun b=>g a b) σ H Q) :
  tOp r (tV Ra c E f) (tV Rb c E k) σ H Q:=by
 obtain ⟨ρ,F,ab,h⟩:=h
 refine ⟨ρ,F,ab,(Rk.bind h).imp fun a D q v t H1 e1 y=>?_⟩
 refine ⟨ρ,t,ab.ext e1,((Rk.bind q).ext e1).imp fun b G q u s H2 e2 m=>?_⟩
 cases i:g a b with
 | bad=>rw[i] at q;exact q.elim
 | ex e=>exact absurd i (p a b e)
 | ok d=>
  rw[i] at q
  exact B H H1 s H2 a b d v u Q e2.fh (C _ _ _ _ _ _ _ e2 y) m i fun w l H' A j=>q w l H' ((e1.trans e2).trans A) (n _ _ _ _ _ _ (fun x o z=>e2.hh x o (e1.hh x o z)) j)
end
section
variable{K:Frag}{F H:Hp}{v:V}
theorem DatV.bl_of{b:Bool}(h:DatV K H v (.bool b)):v=.bl b:=by cases h;rfl
theorem DatV.non_of(h:DatV K H v .none):v=.non:=by cases h;rfl
theorem aW.int_of{i:Int}(h:aW K F H v (.int i)):v=.int i:=by
 rcases h with h|⟨_,_,_,_,h,_⟩
 · exact h.int_of
 · cases h
theorem aW.str_of{i:Str}(h:aW K F H v (.str i)):v=.str i:=by
 rcases h with h|⟨_,_,_,_,h,_⟩
 · exact h.str_of
 · cases h
theorem aW.bl_of{i:Bool}(h:aW K F H v (.bool i)):v=.bl i:=by
 rcases h with h|⟨_,_,_,_,h,_⟩
 · exact DatV.bl_of h
 · cases h
theorem aW.non_of(h:aW K F H v .none):v=.non:=by
 rcases h with h|⟨_,_,_,_,h,_⟩
 · exact DatV.non_of h
 · cases h
theorem aW.tup_of{xs:List Dz}(s:aJ F H)(h:aW K F H v (.tuple xs)):∃ a vs,v=.ref a/\SqT K F a vs/\SqT K H a vs/\DatVs K F vs xs:=by
 rcases h with h|⟨_,_,_,_,h,_⟩
 .obtain ⟨a,vs,h1,h2,b⟩:=h.tup_of
  exact ⟨a,vs,h1,h2,h2.same s,b⟩
 .cases h
theorem aW.lst_of{xs:List Dz}(s:aJ F H)(h:aW K F H v (.list xs)):∃ a vs,v=.ref a/\SqL K H a vs/\DatVs K F vs xs:=by
 rcases h with h|⟨p,vs,ys,h1,h2,b,c⟩
 .obtain ⟨a,vs,h1,h2,b⟩:=h.lst_of
  exact ⟨a,vs,h1,h2.same s,b⟩
 .cases h2
  exact ⟨p,vs,h1,SqL.of b,c⟩
theorem y7{vs:List V}{xs:List Dz}{i:Int}{d:Dz}(h:DatVs K F vs xs)(e:atI xs i=some d):∃ x,atI vs i=some x/\DatV K F x d:=by
 unfold atI at e ⊢
 rw[h.length]
 cases q:ixN xs.length i with
 | none=>rw[q] at e;cases e
 | some j=>
  rw[q] at e
  exact h.get' (i:=j) e
end
noncomputable def eV(i:Nat):Sg->R Dz:=fun ρ=>match ρ[i]? with
 | some (some (.d x))=>.ok x
 | _=>.bad
noncomputable def rV(i:Nat):Sg->R Dz:=fun ρ=>match ρ[i]? with
 | some (some (.d x))=>.ok x
 | some (some (.l xs))=>.ok (.list xs)
 | _=>.bad
noncomputable def vV(i:Nat):Sg->R A:=fun ρ=>match ρ[i]? with
 | some (some (.d x))=>.ok (.d x)
 | some (some (.x e))=>.ok (.x e)
 | some (some (.g k n f))=>.ok (.g k n f)
 | some (some (.f kvs))=>.ok (.f kvs)
 | _=>.bad
def eC(d:Dz):Sg->R Dz:=fun _=>.ok d
section
variable{X:Cx}{c:Ct}{E:XK}{e a b:Ez}
theorem cM{i:Nat}(h:PE X e (hX i)):PD X c E e (eV i):=PE.imp h fun σ H Q ⟨ρ,F,ab,k⟩=>by
 unfold eV at k
 split at k
 .rename_i x a
  obtain ⟨v,h1,h2⟩:=ab.slot i _ a
  exact ⟨v,h1,k v F H (Ext.refl ab.fh) h2⟩
 .exact k.elim
theorem aB{i:Nat}(h:PE X e (hX i)):PR X c E e (rV i):=PE.imp h fun σ H Q ⟨ρ,F,ab,k⟩=>by
 unfold rV at k
 split at k
 .rename_i x a
  obtain ⟨v,h1,h2⟩:=ab.slot i _ a
  exact ⟨v,h1,k v F H (Ext.refl ab.fh) (.inl h2)⟩
 .rename_i x a
  obtain ⟨v,h1,p,vs,h2,b,f,g,d⟩:=ab.slot i _ a
  exact ⟨v,h1,k v F H (Ext.refl ab.fh) (.inr ⟨p,vs,x,h2,rfl,b,d⟩)⟩
 .exact k.elim
theorem aV{i:Nat}(h:PE X e (hX i)):PV X c E e (vV i):=PE.imp h fun σ H Q ⟨ρ,F,ab,k⟩=>by
 unfold vV at k
 split at k
 .rename_i x a
  obtain ⟨v,h1,h2⟩:=ab.slot i _ a
  exact ⟨v,h1,k v F H (Ext.refl ab.fh) h2⟩
 .rename_i x a
  obtain ⟨v,h1,h2⟩:=ab.slot i _ a
  exact ⟨v,h1,k v F H (Ext.refl ab.fh) h2⟩
 .rename_i g f d a
  obtain ⟨v,h1,h2⟩:=ab.slot i _ a
  exact ⟨v,h1,k v F H (Ext.refl ab.fh) h2⟩
 .rename_i b a
  obtain ⟨v,h1,h2⟩:=ab.slot i _ a
  exact ⟨v,h1,k v F H (Ext.refl ab.fh) h2⟩
 .exact k.elim
theorem iD{v:V}{d:Dz}(h:PE X e (tC v))(a:∀ F,DatV c.K F v d):PD X c E e (eC d):=PE.imp h fun σ H Q ⟨ρ,F,ab,k⟩=>k v F H (Ext.refl ab.fh) (a F)
theorem aD{i j pos}:PD X c E (.Constant (.int i) j pos) (eC (.int i)):=iD aL2 fun _=>.int i
theorem hJ{i j pos}:PD X c E (.Constant (.bool i) j pos) (eC (.bool i)):=iD aOH fun _=>.bl i
theorem cX{i j pos}:PD X c E (.Constant (.str i) j pos) (eC (.str i)):=iD aL4 fun _=>.str i
theorem y8{j pos}:PD X c E (.Constant .none j pos) (eC .none):=iD aL3 fun _=>.non
theorem aA{f:Sg->R Dz}(h:PD X c E e f):PR X c E e f:=PE.imp h fun σ H Q ⟨ρ,F,ab,k⟩=>⟨ρ,F,ab,k.imp fun d _ q v a H' s r=>q v a H' s (.inl r)⟩
def vD(f:Sg->R Dz):Sg->R A:=fun ρ=>(f ρ).bind fun x=>.ok (.d x)
theorem aS{f:Sg->R Dz}(h:PD X c E e f):PV X c E e (vD f):=PE.imp h fun σ H Q ⟨ρ,F,ab,k⟩=>⟨ρ,F,ab,(Rk.bind k).imp fun d _ q v a H' s r=>Rk.ok q v a H' s r⟩
def getD:A->R Dz
 | .d x=>.ok x
 | _=>.bad
def eA(f:Sg->R A):Sg->R Dz:=fun ρ=>(f ρ).bind getD
theorem cT{f:Sg->R A}(h:PV X c E e f):PD X c E e (eA f):=PE.imp h fun σ H Q ⟨ρ,F,ab,k⟩=>⟨ρ,F,ab,(Rk.bind k).imp fun d _ q v a H' s r=>by
 cases d with
 | d x=>exact Rk.ok q v a H' s r
 | _=>exact False.elim q⟩
def eL(f:Sg->R (List Dz)):Sg->R Dz:=fun ρ=>(f ρ).bind fun xs=>.ok (.list xs)
theorem gB{f:Sg->R (List Dz)}(h:PN X c E e f):PD X c E e (eL f):=PE.imp h fun σ H Q ⟨ρ,F,ab,k⟩=>⟨ρ,F,ab,(Rk.bind k).imp fun xs _ q v d H' s r=>by
 obtain ⟨p,vs,h1,h2,g,b,i⟩:=r
 subst h1
 refine Rk.ok q (.ref p) (upd d p (.lst vs)) H' ⟨s.hh,fun a o z=>?_,fun a o z=>?_,fun a z n=>?_⟩ (.lst (SqL.of aQ) (i.same (aJ.upd b)))
 .rw[aF (bS (s.ff a o z) b)];exact s.ff a o z
 .by_cases w:a=p
  · subst w; rw [aQ] at z; rw [g]; exact z
  · rw [aF w] at z; exact s.fh a o z
 .by_cases w:a=p
  · subst w; exact .inl h2
  · rw [aF w] at n; exact s.nw a z n⟩
def e1{α β:Type}(g:α->R β)(f:Sg->R α):Sg->R β:=fun ρ=>(f ρ).bind g
def e2{α β γ:Type}(g:α->β->R γ)(f:Sg->R α)(f':Sg->R β):Sg->R γ:=fun ρ=>(f ρ).bind fun x=>(f' ρ).bind fun y=>g x y
noncomputable def cG:Dz->Dz->R Dz
 | .int i,.int j=>.ok (.int (i+j))
 | .str x,.str y=>if x.length+y.length<=sizeLine then .ok (.str (x++y)) else .bad
 | .tuple xs,.tuple ys=>if xs.isEmpty=false/\xs.length+ys.length<=sizeLine then .ok (.tuple (xs++ys)) else .bad
 | _,_=>.bad
def dSub:Dz->Dz->R Dz
 | .int i,.int j=>.ok (.int (i - j))
 | _,_=>.bad
noncomputable def dMul:Dz->Dz->R Dz
 | .int i,.int j=>if (-18446744073709551616 < i/\i < 18446744073709551616)\/(-18446744073709551616 < j/\j < 18446744073709551616) then .ok (.int (i * j)) else .bad
 | _,_=>.bad
def dDiv:Dz->Dz->R Dz
 | .int i,.int j=>if 0 < j/\j < 18446744073709551616 then .ok (.int (i / j)) else .bad
 | _,_=>.bad
def dMod:Dz->Dz->R Dz
 | .int i,.int j=>if 0 < j then .ok (.int (i % j)) else .bad
 | _,_=>.bad
def dNeg:Dz->R Dz
 | .int i=>.ok (.int (-i))
 | _=>.bad
def dLt:Dz->Dz->R Dz
 | .int i,.int j=>.ok (.bool (decide (i < j)))
 | _,_=>.bad
def dLe:Dz->Dz->R Dz
 | .int i,.int j=>.ok (.bool (decide (i<=j)))
 | _,_=>.bad
def dGt:Dz->Dz->R Dz
 | .int i,.int j=>.ok (.bool (decide (j < i)))
 | _,_=>.bad
def dGe:Dz->Dz->R Dz
 | .int i,.int j=>.ok (.bool (decide (j<=i)))
 | _,_=>.bad
def dEq(x y:Dz):R Dz:=if SeqAt.shaped x=true/\SeqAt.shaped y=true then .ok (.bool (PyData.eqv x y)) else .bad
def dNe(x y:Dz):R Dz:=if SeqAt.shaped x=true/\SeqAt.shaped y=true then .ok (.bool (!PyData.eqv x y)) else .bad
def jB:Dz->Bool
 | .none=>true
 | _=>false
def dIs(x y:Dz):R Dz:=if jB y=true then .ok (.bool (jB x)) else .bad
def dIsnt(x y:Dz):R Dz:=if jB y=true then .ok (.bool (!jB x)) else .bad
noncomputable def inD:Dz->Dz->O6 Bool
 | .str i,.str j=>some (!(Builtin.Str.occurrences j i 0 j.length 1).isEmpty)
 | x,.list xs=>if SeqAt.shaped x=true/\SeqAt.shaped (.list xs)=true then some (xs.any fun y=>PyData.eqv y x) else none
 | x,.tuple xs=>if SeqAt.shaped x=true/\SeqAt.shaped (.tuple xs)=true then some (xs.any fun y=>PyData.eqv y x) else none
 | _,_=>none
def dIn(x y:Dz):R Dz:=match inD x y with
 | some b=>.ok (.bool b)
 | none=>.bad
def dNin(x y:Dz):R Dz:=match inD x y with
 | some b=>.ok (.bool (!b))
 | none=>.bad
noncomputable def dIx:Dz->Dz->R Dz
 | .list xs,.int i=>match atI xs i with
  | some v=>.ok v
  | none=>.bad
 | .tuple xs,.int i=>match atI xs i with
  | some v=>.ok v
  | none=>.bad
 | .str z,.int i=>if z.length<=sizeLine then match atI z.cps.toList i with
  | some u=>.ok (.str ⟨#[u]⟩)
  | none=>.bad else .bad
 | _,_=>.bad
end
section
variable{X:Cx}{c:Ct}{E:XK}{e a b:Ez}{α β γ:Type}{Ra:VR α}{Rb:VR β}{Rc:VR γ}{pos:Pos}
def r2D(Ra:VR α)(Rb:VR β)(Rc:VR γ)(g:α->β->R γ):R2:=fun v u H Q=>∃ H0 H1 F a b d,aJ F H/\Ra a v H0 F H/\Rb b u H1 F H/\g a b=.ok d/\∀ w F' H',Ext F H F' H'->Rc d w H F' H'->Q w H'
def r1D(Ra:VR α)(Rb:VR β)(g:α->R β):V->Hp->VK->Prop:=fun v H Q=>∃ H0 F a b,aJ F H/\Ra a v H0 F H/\g a=.ok b/\∀ w F' H',Ext F H F' H'->Rb b w H F' H'->Q w H'
theorem xT{g:α->β->R γ}:Op2 c Ra Rb Rc g (r2D Ra Rb Rc g):=fun f H1 F H a b d v u Q h j i e q=>⟨f,H1,F,a,b,d,h,j,i,e,q⟩
theorem rE{g:α->R β}:Op1 c Ra Rb g (r1D Ra Rb g):=fun e F H a b v Q f h d q=>⟨e,F,a,b,f,h,d,q⟩
theorem aP{e:Operator}{g:Dz->Dz->R Dz}{d fb:Sg->R Dz}(i:OpR X (binaryOp e) (r2D (bD c) (bD c) (cK c) g))(f:dC g)(ha:PR X c E a d)(j:PR X c E b fb):PD X c E (.BinOp a e b pos) (e2 g d fb):=
 PE.imp (aIX i ha j) fun σ H Q h=>tV2 xT f (tU c) (j4 c) h
theorem m9{b:UnaryOp}{g:Dz->R Dz}{d:Sg->R Dz}(f:UnR X (unaryOp b) (r1D (bD c) (cK c) g))(e:lL g)(ha:PR X c E a d):PD X c E (.UnaryOp b a pos) (e1 g d):=
 PE.imp (aOL f ha) fun σ H Q h=>tV1 rE e (j4 c) h
theorem lM{d:CmpOp}{g:Dz->Dz->R Dz}{e fb:Sg->R Dz}(i:OpR X (compareOp d) (r2D (bD c) (bD c) (cK c) g))(f:dC g)(ha:PR X c E a e)(j:PR X c E b fb)(hm:behindInMarks d b=false):PD X c E (.Compare a [d] [b] pos) (e2 g e fb):=
 PE.imp (aJR i ha j hm) fun σ H Q h=>tV2 xT f (tU c) (j4 c) h
theorem a8{g:Dz->Dz->R Dz}{d fb:Sg->R Dz}(f:IxR X (r2D (bD c) (bD c) (cK c) g))(e:dC g)(ha:PR X c E a d)(i:PR X c E b fb)(j:aBK b:=by exact fun _ _=>rfl):PD X c E (.Subscript a b pos) (e2 g d fb):=
 PE.imp (L2.aI1 f ha i j) fun σ H Q h=>tV2 xT e (tU c) (j4 c) h
theorem cP(C:X.K=c.K):OpR X (binaryOp .Add) (r2D (bD c) (bD c) (cK c) cG):=by
 intro pins s σ H v u x y Q I r n h
 obtain ⟨G,H1,F,a,b,d,f,m,l,e,q⟩:=h
 unfold cG at e
 split at e
 .rename_i i j
  cases e
  obtain rfl:=aW.int_of m
  obtain rfl:=aW.int_of l
  exact aMB pins s σ H _ _ x y Q I r n ⟨i,j,rfl,rfl,q _ F H (Ext.refl f) (.int _)⟩
 .rename_i i j
  split at e
  .rename_i g
   cases e
   obtain rfl:=aW.str_of m
   obtain rfl:=aW.str_of l
   exact aCS pins s σ H _ _ x y Q I r n ⟨i,j,rfl,rfl,g,q _ F H (Ext.refl f) (.str _)⟩
  .cases e
 .rename_i xs ys
  split at e
  .rename_i g
   cases e
   obtain ⟨D,vs,rfl,B,t,k⟩:=aW.tup_of f m
   obtain ⟨E,us,rfl,J,A,o⟩:=aW.tup_of f l
   rw[<-C] at t A
   refine aBJ pins s σ H _ _ x y Q I r n ⟨D,E,vs,us,rfl,rfl,t,A,?_,by rw[k.length,o.length];exact g.2,fun z=>?_,fun z p w=>?_⟩
   .intro z;subst z;obtain rfl:xs=[]:=by cases k;rfl
    exact absurd g.1 (by decide)
   .subst z
    obtain rfl:ys=[]:=by cases o;rfl
    exact q _ F H (Ext.refl f) (by rw[CH];exact .tup B k)
   .exact q _ _ _ (Ext.new f w) (.tup (SqT.of aQ) ((k.append o).same (aJ.upd (bK f w))))
  .cases e
 .cases e
theorem bW:dC cG:=by
 intro a b e h
 unfold cG at h
 split at h<;>(try split at h)<;>cases h
theorem mF{f:V9->V9->Sem V9}{g:Dz->Dz->R Dz}{C:Int->Int->Prop}{k:Int->Int->Dz}{kv:Int->Int->V}(w:OpR X f (rI C kv))(o:∀ i j F,DatV c.K F (kv i j) (k i j))
  (e:∀ a b d,g a b=.ok d->∃ i j,a=.int i/\b=.int j/\C i j/\d=k i j):OpR X f (r2D (bD c) (bD c) (cK c) g):=by
 intro pins s σ H v u x y Q I t r h
 obtain ⟨A,H1,F,a,b,d,z,m,l,n,q⟩:=h
 obtain ⟨i,j,rfl,rfl,p,rfl⟩:=e a b d n
 obtain rfl:=aW.int_of m
 obtain rfl:=aW.int_of l
 exact w pins s σ H _ _ x y Q I t r ⟨i,j,rfl,rfl,p,q _ F H (Ext.refl z) (o i j F)⟩
theorem xU{f:V9->V9->Sem V9}{kv:Int->Int->V}(a:OpR X f (rI0 kv)):OpR X f (rI (fun _ _=>True) kv):=fun pins s σ H x y v u Q I c b ⟨i,j,h1,h2,_,q⟩=>a pins s σ H x y v u Q I c b ⟨i,j,h1,h2,q⟩
theorem jS:OpR X (binaryOp .Sub) (r2D (bD c) (bD c) (cK c) dSub):=mF (xU aMC) (fun _ _ _=>.int _) fun a b d h=>by
 unfold dSub at h;split at h
 · cases h; exact ⟨_, _, rfl, rfl, trivial, rfl⟩
 · cases h
theorem iS:OpR X (binaryOp .Mult) (r2D (bD c) (bD c) (cK c) dMul):=mF aMD (fun _ _ _=>.int _) fun a b d h=>by
 unfold dMul at h;split at h
 .split at h
  · rename_i e; cases h; exact ⟨_, _, rfl, rfl, e, rfl⟩
  · cases h
 .cases h
theorem eS:OpR X (binaryOp .FloorDiv) (r2D (bD c) (bD c) (cK c) dDiv):=mF aHC (fun _ _ _=>.int _) fun a b d h=>by
 unfold dDiv at h;split at h
 .split at h
  · rename_i e; cases h; exact ⟨_, _, rfl, rfl, e, rfl⟩
  · cases h
 .cases h
theorem cF:OpR X (binaryOp .Mod) (r2D (bD c) (bD c) (cK c) dMod):=mF aME (fun _ _ _=>.int _) fun a b d h=>by
 unfold dMod at h;split at h
 .split at h
  · rename_i e; cases h; exact ⟨_, _, rfl, rfl, e, rfl⟩
  · cases h
 .cases h
theorem tW:OpR X (compareOp .Lt) (r2D (bD c) (bD c) (cK c) dLt):=mF (xU aOM) (fun _ _ _=>.bl _) fun a b d h=>by
 unfold dLt at h;split at h
 · cases h; exact ⟨_, _, rfl, rfl, trivial, rfl⟩
 · cases h
theorem n6:OpR X (compareOp .Gt) (r2D (bD c) (bD c) (cK c) dGt):=mF (xU aON) (fun _ _ _=>.bl _) fun a b d h=>by
 unfold dGt at h;split at h
 · cases h; exact ⟨_, _, rfl, rfl, trivial, rfl⟩
 · cases h
theorem aM3:OpR X (compareOp .GtE) (r2D (bD c) (bD c) (cK c) dGe):=mF (xU aOO) (fun _ _ _=>.bl _) fun a b d h=>by
 unfold dGe at h;split at h
 · cases h; exact ⟨_, _, rfl, rfl, trivial, rfl⟩
 · cases h
theorem gJ:dC dSub:=by intro a b e h;unfold dSub at h;split at h<;>cases h
theorem fO:dC dMul:=by intro a b e h;unfold dMul at h;split at h<;>(try split at h)<;>cases h
theorem dH:dC dDiv:=by intro a b e h;unfold dDiv at h;split at h<;>(try split at h)<;>cases h
theorem bP:dC dMod:=by intro a b e h;unfold dMod at h;split at h<;>(try split at h)<;>cases h
theorem oW:dC dLt:=by intro a b e h;unfold dLt at h;split at h<;>cases h
theorem kL:dC dGt:=by intro a b e h;unfold dGt at h;split at h<;>cases h
theorem aHP:dC dGe:=by intro a b e h;unfold dGe at h;split at h<;>cases h
theorem dR:dC dEq:=by intro a b e h;unfold dEq at h;split at h<;>cases h
theorem kM:dC dNe:=by intro a b e h;unfold dNe at h;split at h<;>cases h
theorem aHQ:dC dIs:=by intro a b e h;unfold dIs at h;split at h<;>cases h
theorem aDK:dC dIsnt:=by intro a b e h;unfold dIsnt at h;split at h<;>cases h
theorem aHR:dC dIn:=by intro a b e h;unfold dIn at h;split at h<;>cases h
theorem aFN:dC dNin:=by intro a b e h;unfold dNin at h;split at h<;>cases h
theorem gK:lL dNeg:=by intro a e h;unfold dNeg at h;split at h<;>cases h
theorem aO:dC dIx:=by
 intro a b e h
 unfold dIx at h
 split at h<;>(try split at h)<;>(try split at h)<;>cases h
theorem jT:UnR X (unaryOp .USub) (r1D (bD c) (cK c) dNeg):=by
 intro pins s σ H v x Q I e h
 obtain ⟨j,F,a,d,f,g,b,q⟩:=h
 unfold dNeg at b
 split at b
 .rename_i i
  cases b
  obtain rfl:=aW.int_of g
  exact aMF pins s σ H _ x Q I e ⟨i,rfl,q _ F H (Ext.refl f) (.int _)⟩
 .cases b
theorem fP(g:X.K=c.K)(l:X.A.units+64 < cLine):OpR X (compareOp .Eq) (r2D (bD c) (bD c) (cK c) dEq):=by
 intro pins s σ H v u x y Q I k j h
 obtain ⟨o,H1,F,a,b,d,f,n,m,e,q⟩:=h
 unfold dEq at e
 split at e
 .rename_i i
  cases e
  exact aMS l pins s σ H _ _ x y Q I k j ⟨a,b,by rw[g];exact aW.heap f n,by rw[g];exact aW.heap f m,i.1,i.2,q _ F H (Ext.refl f) (.bl _)⟩
 .cases e
theorem n8(g:X.K=c.K)(l:X.A.units+64 < cLine):OpR X (compareOp .NotEq) (r2D (bD c) (bD c) (cK c) dNe):=by
 intro pins s σ H v u x y Q I k j h
 obtain ⟨o,H1,F,a,b,d,f,n,m,e,q⟩:=h
 unfold dNe at e
 split at e
 .rename_i i
  cases e
  exact aMT l pins s σ H _ _ x y Q I k j ⟨a,b,by rw[g];exact aW.heap f n,by rw[g];exact aW.heap f m,i.1,i.2,q _ F H (Ext.refl f) (.bl _)⟩
 .cases e
theorem nA{K:Frag}{F H:Hp}{v:V}{d:Dz}(h:aW K F H v d):decide (v=.non)=jB d:=by
 rcases h with h|⟨p,vs,xs,h1,h2,_⟩
 · cases h <;> rfl
 · subst h1 h2; rfl
theorem aM4:OpR X (compareOp .Is) (r2D (bD c) (bD c) (cK c) dIs):=by
 intro pins s σ H v u x y Q I g f h
 obtain ⟨m,H1,F,a,b,d,j,l,k,e,q⟩:=h
 unfold dIs at e
 split at e
 .rename_i i
  cases e
  have e2:=nA k
  rw[i] at e2
  refine aMG pins s σ H _ _ x y Q I g f ⟨CW e2,q _ F H (Ext.refl j) ?_⟩
  rw[nA l];exact .bl _
 .cases e
theorem aHS:OpR X (compareOp .IsNot) (r2D (bD c) (bD c) (cK c) dIsnt):=by
 intro pins s σ H v u x y Q I g f h
 obtain ⟨m,H1,F,a,b,d,j,l,k,e,q⟩:=h
 unfold dIsnt at e
 split at e
 .rename_i i
  cases e
  have e2:=nA k
  rw[i] at e2
  refine aJQ pins s σ H _ _ x y Q I g f ⟨CW e2,q _ F H (Ext.refl j) ?_⟩
  rw[nA l];exact .bl _
 .cases e
theorem oX{xs:List Dz}(h:SeqAt.shaped (.list xs)=true):PyData.canLayAll0 xs=true/\PyData.depthAll xs<=63:=by
 have h':(PyData.canLay0 (.list xs) && decide ((PyData.list xs).depth<=64))=true:=h
 rw[A3] at h'
 have a:PyData.depthAll xs+1<=64:=CW h'.2
 exact ⟨h'.1,by omega⟩
theorem sB{xs:List Dz}(h:SeqAt.shaped (.tuple xs)=true):PyData.canLayAll0 xs=true/\PyData.depthAll xs<=63:=by
 have h':(PyData.canLay0 (.tuple xs) && decide ((PyData.tuple xs).depth<=64))=true:=h
 rw[A3] at h'
 have a:PyData.depthAll xs+1<=64:=CW h'.2
 exact ⟨h'.1,by omega⟩
theorem c7{d:Dz}(h:SeqAt.shaped d=true):d.canLay0=true:=by
 have h':(PyData.canLay0 d && decide (d.depth<=64))=true:=h
 rw[A3] at h'
 exact h'.1
theorem inD_cases{x y:Dz}{b:Bool}(h:inD x y=some b):(∃ i j,x=.str i/\y=.str j/\b = !(Builtin.Str.occurrences j i 0 j.length 1).isEmpty) \/
  (∃ xs,y=.list xs/\SeqAt.shaped x=true/\SeqAt.shaped (.list xs)=true/\b=xs.any fun z=>PyData.eqv z x)\/(∃ xs,y=.tuple xs/\SeqAt.shaped x=true/\SeqAt.shaped (.tuple xs)=true/\b=xs.any fun z=>PyData.eqv z x):=by
 unfold inD at h
 split at h
 .cases h;exact .inl ⟨_,_,rfl,rfl,rfl⟩
 .split at h
  · rename_i a; cases h; exact .inr (.inl ⟨_, rfl, a.1, a.2, rfl⟩)
  · cases h
 .split at h
  · rename_i a; cases h; exact .inr (.inr ⟨_, rfl, a.1, a.2, rfl⟩)
  · cases h
 .cases h
theorem mG{a b:Nat}(h:a<=63):min a b<=63:=BE (Nat.min_le_left _ _) h
theorem aM5(k:X.K=c.K)(E:X.A.units+64 < cLine):OpR X (compareOp .In) (r2D (bD c) (bD c) (cK c) dIn):=by
 intro pins s σ H v u x y Q I r p h
 obtain ⟨D,H1,F,a,b,d,e,n,m,l,q⟩:=h
 unfold dIn at l
 split at l
 .rename_i w B
  cases l
  have f:EP X pins σ Q (.bool w) s:=⟨.bl w,H,I,rfl,q _ F H (Ext.refl e) (.bl _)⟩
  rcases inD_cases B with ⟨i,j,rfl,rfl,rfl⟩|⟨xs,rfl,h1,h2,rfl⟩|⟨xs,rfl,h1,h2,rfl⟩
  .obtain rfl:=aW.str_of n
   obtain rfl:=aW.str_of m
   exact aEO pins s σ H _ _ x y Q I r p ⟨i,j,rfl,rfl,q _ F H (Ext.refl e) (.bl _)⟩
  .obtain ⟨z,o⟩:=DatV.reads I (by rw[k];exact aW.heap e n) (c7 h1) r
   obtain ⟨bs,t⟩:=DatV.reads I (by rw[k];exact aW.heap e m) (c7 h2) p
   have g:=oX h2
   have C:=mG (b:=a.depth) g.2
   exact SeqAt.in_list_reads t o g.1 (c7 h1) (by omega) f
  .obtain ⟨z,o⟩:=DatV.reads I (by rw[k];exact aW.heap e n) (c7 h1) r
   obtain ⟨bs,t⟩:=DatV.reads I (by rw[k];exact aW.heap e m) (c7 h2) p
   have g:=sB h2
   have C:=mG (b:=a.depth) g.2
   exact SeqAt.in_tuple_reads t o g.1 (c7 h1) (by omega) f
 .cases l
theorem aKP(k:X.K=c.K)(D:X.A.units+64 < cLine):OpR X (compareOp .NotIn) (r2D (bD c) (bD c) (cK c) dNin):=by
 intro pins s σ H v u x y Q I r p h
 obtain ⟨C,H1,F,a,b,d,e,n,m,l,q⟩:=h
 unfold dNin at l
 split at l
 .rename_i bb z
  cases l
  have f:EP X pins σ Q (.bool (!bb)) s:=⟨.bl (!bb),H,I,rfl,q _ F H (Ext.refl e) (.bl _)⟩
  rcases inD_cases z with ⟨i,j,rfl,rfl,rfl⟩|⟨xs,rfl,h1,h2,rfl⟩|⟨xs,rfl,h1,h2,rfl⟩
  .obtain rfl:=aW.str_of n
   obtain rfl:=aW.str_of m
   exact x6 pins s σ H _ _ x y Q I r p ⟨i,j,rfl,rfl,q _ F H (Ext.refl e) (.bl _)⟩
  .obtain ⟨w,o⟩:=DatV.reads I (by rw[k];exact aW.heap e n) (c7 h1) r
   obtain ⟨bs,t⟩:=DatV.reads I (by rw[k];exact aW.heap e m) (c7 h2) p
   have g:=oX h2
   have B:=mG (b:=a.depth) g.2
   exact SeqAt.notIn_list_reads t o g.1 (c7 h1) (by omega) f
  .obtain ⟨w,o⟩:=DatV.reads I (by rw[k];exact aW.heap e n) (c7 h1) r
   obtain ⟨bs,t⟩:=DatV.reads I (by rw[k];exact aW.heap e m) (c7 h2) p
   have g:=sB h2
   have B:=mG (b:=a.depth) g.2
   exact SeqAt.notIn_tuple_reads t o g.1 (c7 h1) (by omega) f
 .cases l
theorem a9(A:X.K=c.K):IxR X (r2D (bD c) (bD c) (cK c) dIx):=by
 intro value e pins s σ H v u x y Q I r n h t
 obtain ⟨C,H1,F,a,b,d,j,m,k,f,q⟩:=h
 unfold dIx at f
 split at f
 .rename_i xs i
  split at f
  .rename_i w g
   cases f
   obtain ⟨p,vs,rfl,h1,h2⟩:=aW.lst_of j m
   obtain rfl:=aW.int_of k
   obtain ⟨z,l,o⟩:=y7 h2 g
   rw[<-A] at h1
   exact aBL value e pins s σ H _ _ x y Q I r n ⟨p,vs,i,z,rfl,rfl,h1,l,q _ F H (Ext.refl j) o⟩ t
  .cases f
 .rename_i xs i
  split at f
  .rename_i w g
   cases f
   obtain ⟨p,vs,rfl,_,h1,h2⟩:=aW.tup_of j m
   obtain rfl:=aW.int_of k
   obtain ⟨z,l,o⟩:=y7 h2 g
   rw[<-A] at h1
   exact aES value e pins s σ H _ _ x y Q I r n ⟨p,vs,i,z,rfl,rfl,h1,l,q _ F H (Ext.refl j) o⟩ t
  .cases f
 .rename_i z i
  split at f
  .rename_i B
   split at f
   .rename_i w g
    cases f
    obtain rfl:=aW.str_of m
    obtain rfl:=aW.int_of k
    exact aET value e pins s σ H _ _ x y Q I r n ⟨z,i,w,rfl,rfl,B,g,q _ F H (Ext.refl j) (.str _)⟩ t
   .cases f
  .cases f
 .cases f
def tTf(c:Ct)(E:XK)(f:Sg->R Bool):TT:=fun σ H Q=>∃ ρ F,Ab c ρ σ F H/\Rk c E F H (f ρ) fun b=>∀ F' H',Ext F H F' H'->Q b H'
abbrev PTf(X:Cx)(c:Ct)(E:XK)(e:Ez)(f:Sg->R Bool):Prop:=PT X e (tTf c E f)
def asB:Dz->R Bool
 | .bool b=>.ok b
 | _=>.bad
theorem vI{f:Sg->R Dz}{σ:L2.St}{H:Hp}{Q:Bool->Hp->Prop}(h:tTf c E (e1 asB f) σ H Q):tV (cK c) c E f σ H fun x H'=>∃ k,x=.bl k/\Q k H':=by
 obtain ⟨ρ,F,ab,h⟩:=h
 refine ⟨ρ,F,ab,(Rk.bind h).imp fun d _ q v a H' s r=>?_⟩
 cases d with
 | bool b=>exact ⟨b,DatV.bl_of r,Rk.ok q a H' s⟩
 | _=>exact False.elim q
theorem cJ{d:CmpOp}{g:Dz->Dz->R Dz}{e fb:Sg->R Dz}(i:OpR X (compareOp d) (r2D (bD c) (bD c) (cK c) g))(f:dC g)(ha:PR X c E a e)(j:PR X c E b fb)(hm:behindInMarks d b=false):PTf X c E (.Compare a [d] [b] pos) (e1 asB (e2 g e fb)):=
 PT.imp (uV i ha j hm) fun σ H Q h=>tV2 xT f (tU c) (j4 c) (vI h)
theorem fM{f:Sg->R Dz}(h:PD X c E e f)(a:∀ whole,isTrue e X.env whole=(do let v <-whole;standAt e.pos;holding [v] (truthy v)):=by intro _;rfl):PTf X c E e (e1 asB f):=
 PT.imp (L2.fM h a) fun σ H Q h=>vI h
def lP(f g:Sg->R Bool):Sg->R Bool:=fun ρ=>(f ρ).bind fun b=>if b=true then g ρ else .ok false
def bOr(f g:Sg->R Bool):Sg->R Bool:=fun ρ=>(f ρ).bind fun b=>if b=true then .ok true else g ρ
def mH(f:Sg->R Bool):Sg->R Bool:=fun ρ=>(f ρ).bind fun b=>.ok (!b)
abbrev PWf(X:Cx)(c:Ct)(E:XK)(e:Ez)(f:Sg->R Bool):Prop:=PW X e (tTf c E f)
theorem PW.imp{X:Cx}{e:Ez}{t t':TT}(h:PW X e t)(i:∀ σ H Q,t' σ H Q->t σ H Q):PW X e t':=fun a pins s σ H Q I q=>h a pins s σ H Q I (i σ H Q q)
theorem aPY{f g:Sg->R Bool}{σ:L2.St}{H:Hp}{Q:Bool->Hp->Prop}(h:tTf c E (lP f g) σ H Q):aL5 (tTf c E f) (tTf c E g) σ H Q:=by
 obtain ⟨ρ,F,ab,h⟩:=h
 refine ⟨ρ,F,ab,(Rk.bind h).imp fun b _ q a H' s=>?_⟩
 cases b with
 | true=>exact ⟨ρ,a,ab.ext s,(Rk.ext s q).imp fun d _ z e H2 i=>z e H2 (s.trans i)⟩
 | false=>exact Rk.ok q a H' s
theorem tor{f g:Sg->R Bool}{σ:L2.St}{H:Hp}{Q:Bool->Hp->Prop}(h:tTf c E (bOr f g) σ H Q):tOr (tTf c E f) (tTf c E g) σ H Q:=by
 obtain ⟨ρ,F,ab,h⟩:=h
 refine ⟨ρ,F,ab,(Rk.bind h).imp fun b _ q a H' s=>?_⟩
 cases b with
 | false=>exact ⟨ρ,a,ab.ext s,(Rk.ext s q).imp fun d _ z e H2 i=>z e H2 (s.trans i)⟩
 | true=>exact Rk.ok q a H' s
theorem nV{f:Sg->R Bool}(h:PTf X c E a f):PWf X c E (.BoolOp .And [a] pos) f:=L2.nV h
theorem j1{f:Sg->R Bool}(h:PTf X c E a f):PWf X c E (.BoolOp .Or [a] pos) f:=L2.j1 h
theorem nW{f g:Sg->R Bool}{rest:List Ez}(h:PTf X c E a f)(h2:PWf X c E (.BoolOp .And (b::rest) pos) g):PWf X c E (.BoolOp .And (a::b::rest) pos) (lP f g):=PW.imp (L2.nW h h2) fun _ _ _ q=>aPY q
theorem j2{f g:Sg->R Bool}{rest:List Ez}(h:PTf X c E a f)(h2:PWf X c E (.BoolOp .Or (b::rest) pos) g):PWf X c E (.BoolOp .Or (a::b::rest) pos) (bOr f g):=PW.imp (L2.j2 h h2) fun _ _ _ q=>tor q
theorem hZ{f:Sg->R Bool}(h:PTf X c E a f):PTf X c E (.UnaryOp .Not a pos) (mH f):=PT.imp (L2.hZ h) fun σ H Q ⟨ρ,F,ab,k⟩=>⟨ρ,F,ab,(Rk.bind k).imp fun b _ q d H' s=>Rk.ok q d H' s⟩
noncomputable def vJ(f g:Sg->R Dz):Sg->R Dz:=fun ρ=>(f ρ).bind fun x=>(asB x).bind fun b=>if b=true then g ρ else .ok (.bool false)
def eOr(f g:Sg->R Dz):Sg->R Dz:=fun ρ=>(f ρ).bind fun x=>(asB x).bind fun b=>if b=true then .ok (.bool true) else g ρ
def aHT(f:Sg->R Dz):Sg->R Dz:=fun ρ=>(f ρ).bind fun x=>(asB x).bind fun b=>.ok (.bool (!b))
def eIf{α:Type}(t:Sg->R Bool)(f g:Sg->R α):Sg->R α:=fun ρ=>(t ρ).bind fun b=>if b=true then f ρ else g ρ
theorem tX{op}{f:Sg->R Dz}(h:PD X c E a f):PD X c E (.BoolOp op [a] pos) f:=aL6 h
theorem tY{f g:Sg->R Dz}{rest:List Ez}(h:PD X c E a f)(h2:PD X c E (.BoolOp .And (b::rest) pos) g):PD X c E (.BoolOp .And (a::b::rest) pos) (vJ f g):=PE.imp (aL7 h h2) fun σ H Q e=>by
 obtain ⟨ρ,F,ab,k⟩:=e
 refine ⟨ρ,F,ab,(Rk.bind k).imp fun d _ q v i H' s r=>?_⟩
 cases d with
 | bool b=>
  refine ⟨b,DatV.bl_of r,?_⟩
  cases b with
  | true=>exact yB ⟨ρ,i,ab.ext s,(Rk.ext s q).imp fun d _ z v j H2 l=>z v j H2 (s.trans l)⟩
  | false=>exact yA (Rk.ok q (.bl false) i H' s (.bl false))
 | _=>exact False.elim q
theorem aM6{f:Sg->R Dz}(h:PD X c E a f):PD X c E (.UnaryOp .Not a pos) (aHT f):=PE.imp (aL8 h) fun σ H Q e=>by
 obtain ⟨ρ,F,ab,k⟩:=e
 refine ⟨ρ,F,ab,(Rk.bind k).imp fun d _ q v g H' s r=>?_⟩
 cases d with
 | bool b=>exact ⟨b,DatV.bl_of r,Rk.ok q _ g H' s (.bl _)⟩
 | _=>exact False.elim q
theorem aOW{t:Sg->R Bool}{f g:Sg->R Dz}{q:Ez}(m:PTf X c E q t)(h:PD X c E a f)(h2:PD X c E b g):PD X c E (.IfExp q a b pos) (eIf t f g):=PE.imp (aGR m h h2) fun σ H Q i=>by
 obtain ⟨ρ,F,ab,k⟩:=i
 refine ⟨ρ,F,ab,(Rk.bind k).imp fun b _ q l H' s=>?_⟩
 cases b with
 | true=>exact yB ⟨ρ,l,ab.ext s,(Rk.ext s q).imp fun d _ z v e H2 j=>z v e H2 (s.trans j)⟩
 | false=>exact yA ⟨ρ,l,ab.ext s,(Rk.ext s q).imp fun d _ z v e H2 j=>z v e H2 (s.trans j)⟩
noncomputable def eCh(g g':Dz->Dz->R Dz)(fa fb fc:Sg->R Dz):Sg->R Dz:=fun ρ=>(fa ρ).bind fun x=>(fb ρ).bind fun y=>(g x y).bind fun z=>(asB z).bind fun k=>if k=true then (fc ρ).bind fun w=>g' y w else .ok (.bool false)
end
def AFs(g:Gb)(K:Frag)(mg:Str->O6 V9)(F:Hp):List A->List V->Prop
 | [],[]=>True
 | a::as,v::vs=>AF g K mg F a v/\AFs g K mg F as vs
 | _,_=>False
theorem AFs.same{g:Gb}{K:Frag}{mg:Str->O6 V9}{F F':Hp}(s:aJ F F'):∀ {as:List A} {vs:List V},AFs g K mg F as vs->AFs g K mg F' as vs
 | [],[],_=>trivial
 | a::as,v::vs,h=>⟨AF.same s h.1,AFs.same s h.2⟩
theorem AFs.len{g:Gb}{K:Frag}{mg:Str->O6 V9}{F:Hp}:∀ {as:List A} {vs:List V},AFs g K mg F as vs->vs.length=as.length
 | [],[],_=>rfl
 | a::as,v::vs,h=>by rw[AL,AL,AFs.len h.2]
theorem PA.imp{X:Cx}{es:List Ez}{t t':TA}(h:PA X es t)(i:∀ σ H Q,t' σ H Q->t σ H Q):PA X es t':=fun pos pins s σ H Q I q=>h pos pins s σ H Q I (i σ H Q q)
def tAd(c:Ct)(E:XK)(f:Sg->R (List Dz)):TA:=fun σ H Q=>∃ ρ F,Ab c ρ σ F H/\Rk c E F H (f ρ) fun ds=>∀ vs F' H',Ext F H F' H'->DatVs c.K F' vs ds->Q vs H'
def tAv(c:Ct)(E:XK)(f:Sg->R (List A)):TA:=fun σ H Q=>∃ ρ F,Ab c ρ σ F H/\Rk c E F H (f ρ) fun ds=>∀ vs F' H',Ext F H F' H'->AFs c.g c.K c.mg F' ds vs->Q vs H'
abbrev PAd(X:Cx)(c:Ct)(E:XK)(es:List Ez)(f:Sg->R (List Dz)):Prop:=PA X es (tAd c E f)
abbrev PAv(X:Cx)(c:Ct)(E:XK)(es:List Ez)(f:Sg->R (List A)):Prop:=PA X es (tAv c E f)
noncomputable def aU{α:Type}:Sg->R (List α):=fun _=>.ok []
def aC{α:Type}(f:Sg->R α)(g:Sg->R (List α)):Sg->R (List α):=fun ρ=>(f ρ).bind fun x=>(g ρ).bind fun xs=>.ok (x::xs)
section
variable{X:Cx}{c:Ct}{E:XK}{e a b:Ez}{es:List Ez}{pos:Pos}
theorem bL:PAd X c E [] aU:=PA.imp aT fun σ H Q ⟨ρ,F,ab,k⟩=>Rk.ok k [] F H (Ext.refl ab.fh) .nil
theorem bC:PAv X c E [] aU:=PA.imp aT fun σ H Q ⟨ρ,F,ab,k⟩=>Rk.ok k [] F H (Ext.refl ab.fh) trivial
theorem aL{f:Sg->R Dz}{g:Sg->R (List Dz)}(h:PD X c E e f)(h2:PAd X c E es g)(l:starEach (e::es) X.env=(false,eval e X.env)::starEach es X.env:=by rfl):PAd X c E (e::es) (aC f g):=PA.imp (aK h h2 l) fun σ H Q a=>by
 obtain ⟨ρ,F,ab,k⟩:=a
 refine ⟨ρ,F,ab,(Rk.bind k).imp fun x _ q v i H1 s1 m=>⟨ρ,i,ab.ext s1,((Rk.bind q).ext s1).imp fun xs _ q vs d H2 b j=>?_⟩⟩
 exact Rk.ok q (v::vs) d H2 (s1.trans b) (.cons (DatV.same b.ff m) j)
theorem aH{f:Sg->R A}{g:Sg->R (List A)}(h:PV X c E e f)(h2:PAv X c E es g)(l:starEach (e::es) X.env=(false,eval e X.env)::starEach es X.env:=by rfl):PAv X c E (e::es) (aC f g):=PA.imp (aK h h2 l) fun σ H Q a=>by
 obtain ⟨ρ,F,ab,k⟩:=a
 refine ⟨ρ,F,ab,(Rk.bind k).imp fun x _ q v i H1 s1 m=>⟨ρ,i,ab.ext s1,((Rk.bind q).ext s1).imp fun xs _ q vs d H2 b j=>?_⟩⟩
 exact Rk.ok q (v::vs) d H2 (s1.trans b) ⟨AF.same b.ff m,j⟩
def eY(f:Sg->R (List Dz)):Sg->R Dz:=fun ρ=>(f ρ).bind fun xs=>if xs.length<=16777216 then .ok (.tuple xs) else .bad
def gC(f:Sg->R (List Dz)):Sg->R (List Dz):=fun ρ=>(f ρ).bind fun xs=>if xs.length<=16777216 then .ok xs else .bad
theorem dB:sizeLine=16777216:=EH
theorem eN{x1}{f:Sg->R (List Dz)}(h:PAd X c E es f):PD X c E (.Tuple es x1 pos) (eY f):=PE.imp (aMK h) fun σ H Q b=>by
 obtain ⟨ρ,F,ab,k⟩:=b
 refine ⟨ρ,F,ab,(Rk.bind k).imp fun xs _ q vs g H1 s1 e=>?_⟩
 by_cases a:xs.length<=16777216
 .rw[AE a] at q
  refine ⟨by rw[e.length,dB];exact a,fun p d=>?_⟩
  exact Rk.ok q (.ref p) _ _ (s1.trans (Ext.new s1.fh d)) (.tup (SqT.of aQ) (e.same (aJ.upd (bK s1.fh d))))
 .rw[AI a] at q;exact q.elim
theorem eO{f:Sg->R (List Dz)}(h:PAd X c E es f):PN X c E (.List es pos) (gC f):=PE.imp (aEQ h) fun σ H Q d=>by
 obtain ⟨ρ,F,ab,k⟩:=d
 refine ⟨ρ,F,ab,(Rk.bind k).imp fun xs _ q vs g H1 s1 e=>?_⟩
 by_cases b:xs.length<=16777216
 .rw[AE b] at q
  refine ⟨by rw[e.length,dB];exact b,fun p a=>?_⟩
  exact Rk.ok q (.ref p) _ _ (s1.trans (Ext.own s1.fh a)) ⟨p,vs,rfl,bK s1.hh a,aQ,bK s1.fh a,e⟩
 .rw[AI b] at q;exact q.elim
noncomputable def dLen:Dz->R Dz
 | .str z=>if z.length<=16777216 then .ok (.int z.length) else .bad
 | .list xs=>.ok (.int xs.length)
 | .tuple xs=>.ok (.int xs.length)
 | _=>.bad
theorem plain_len:lL dLen:=by intro a e h;unfold dLen at h;split at h<;>(try split at h)<;>cases h
theorem eP{j:Sg->R Dz}(l:X.K=c.K)(h0:PE X e (tCB (fun xs H Q=>∃ x n,xs=[x]/\aMH X.K x H n/\Q (.int n) H) (dN (tV (bD c) c E j) f7))):PD X c E e (e1 dLen j):=
 PE.imp h0 fun σ H Q h=>by
  obtain ⟨ρ,F,ab,k⟩:=tV1 (Ra:=bD c) rE plain_len (j4 c) h
  refine ⟨ρ,F,ab,k.imp fun d _ q v m H' s r=>?_⟩
  obtain ⟨u,g,a,t,f,i,b,q⟩:=q v m H' s r
  unfold dLen at b
  split at b
  .rename_i z
   split at b
   .rename_i o
    cases b
    obtain rfl:=aW.str_of i
    exact ⟨_,_,rfl,⟨by rw[dB];exact o,rfl⟩,q _ g H' (Ext.refl f) (.int _)⟩
   .cases b
  .cases b
   obtain ⟨p,vs,rfl,h1,h2⟩:=aW.lst_of f i
   rw[<-l] at h1
   exact ⟨_,vs.length,rfl,.inl ⟨vs,h1,rfl⟩,q _ g H' (Ext.refl f) (by rw[h2.length];exact .int _)⟩
  .cases b
   obtain ⟨p,vs,rfl,_,h1,h2⟩:=aW.tup_of f i
   rw[<-l] at h1
   exact ⟨_,vs.length,rfl,.inr ⟨vs,h1,rfl⟩,q _ g H' (Ext.refl f) (by rw[h2.length];exact .int _)⟩
  .cases b
noncomputable def dTup:Dz->R Dz
 | .list xs=>.ok (.tuple xs)
 | .tuple xs=>.ok (.tuple xs)
 | _=>.bad
theorem aFO:lL dTup:=by intro a e h;unfold dTup at h;split at h<;>cases h
theorem kN{g:Sg->R Dz}(i:X.K=c.K)(h0:PE X e (tCB (fun xs H Q=>∃ p ys,xs=[.ref p]/\((SqL X.K H p ys/\∀ l,H l=none->Q (.ref l) (upd H l (.tup ys)))\/(SqT X.K H p ys/\Q (.ref p) H))) (dN (tV (bD c) c E g) f7))):PD X c E e (e1 dTup g):=
 PE.imp h0 fun σ H Q h=>by
  obtain ⟨ρ,F,ab,k⟩:=tV1 (Ra:=bD c) rE aFO (j4 c) h
  refine ⟨ρ,F,ab,k.imp fun d _ q v n H' s r=>?_⟩
  obtain ⟨w,t,a,u,f,j,b,q⟩:=q v n H' s r
  unfold dTup at b
  split at b
  .cases b
   obtain ⟨p,vs,rfl,h1,h2⟩:=aW.lst_of f j
   rw[<-i] at h1
   exact ⟨p,vs,rfl,.inl ⟨h1,fun l m=>q _ _ _ (Ext.new f m) (.tup (SqT.of aQ) (h2.same (aJ.upd (bK f m))))⟩⟩
  .cases b
   obtain ⟨p,vs,rfl,o,h1,h2⟩:=aW.tup_of f j
   rw[<-i] at h1
   exact ⟨p,vs,rfl,.inr ⟨h1,q _ t H' (Ext.refl f) (.tup o h2)⟩⟩
  .cases b
noncomputable def aM7:Dz->R (List Dz)
 | .list xs=>.ok xs
 | .tuple xs=>.ok xs
 | _=>.bad
noncomputable def dInt:Dz->R Dz
 | .int i=>.ok (.int i)
 | .bool b=>.ok (.int (if b=true then 1 else 0))
 | _=>.bad
theorem aFP:lL dInt:=by intro a e h;unfold dInt at h;split at h<;>cases h
theorem vK{g:Sg->R Dz}(h0:PE X e (tCB (fun xs H Q=>(∃ i,xs=[.int i]/\Q (.int i) H)\/∃ k,xs=[.bl k]/\Q (.int (if k then 1 else 0)) H) (dN (tV (bD c) c E g) f7))):PD X c E e (e1 dInt g):=
 PE.imp h0 fun σ H Q h=>by
  obtain ⟨ρ,F,ab,k⟩:=tV1 (Ra:=bD c) rE aFP (j4 c) h
  refine ⟨ρ,F,ab,k.imp fun d _ q v n H' s r=>?_⟩
  obtain ⟨p,j,a,o,l,m,f,q⟩:=q v n H' s r
  unfold dInt at f
  split at f
  .cases f
   obtain rfl:=aW.int_of m
   exact .inl ⟨_,rfl,q _ j H' (Ext.refl l) (.int _)⟩
  .rename_i b
   cases f
   obtain rfl:=aW.bl_of m
   exact .inr ⟨b,rfl,q _ j H' (Ext.refl l) (by cases b<;>exact .int _)⟩
  .cases f
noncomputable def nB:List Dz->O6 (List Bool)
 | []=>some []
 | .bool b::t=>(nB t).map (b :: ·)
 | _=>none
def dAll:Dz->R Dz
 | .list xs=>match nB xs with
  | some bs=>.ok (.bool (bs.all id))
  | none=>.bad
 | _=>.bad
theorem aFQ:lL dAll:=by intro a e h;unfold dAll at h;split at h<;>(try split at h)<;>cases h
theorem y9{K:Frag}{F:Hp}:∀ {vs:List V} {xs:List Dz} {bs:List Bool},DatVs K F vs xs->nB xs=some bs->vs=bs.map V.bl
 | _,_,bs,.nil,e=>by cases e;rfl
 | _,_,bs,.cons (d:=d) (ds:=t) h h2,e=>by
  cases d with
  | bool b=>
   unfold nB at e
   cases q:nB t with
   | none=>rw[q] at e;cases e
   | some cs=>
    rw[q] at e
    cases e
    rw[y9 h2 q,DatV.bl_of h];rfl
  | _=>cases e
theorem aM8{f:Sg->R Dz}(j:X.K=c.K)(h0:PE X e (tCB (fun xs H Q=>∃ (a:Az) (bs:List Bool),xs=[.ref a]/\SqL X.K H a (bs.map V.bl)/\Q (.bl (bs.all id)) H) (dN (tV (bD c) c E f) f7))):PD X c E e (e1 dAll f):=
 PE.imp h0 fun σ H Q h=>by
  obtain ⟨ρ,F,ab,k⟩:=tV1 (Ra:=bD c) rE aFQ (j4 c) h
  refine ⟨ρ,F,ab,k.imp fun d _ q v i H' s r=>?_⟩
  obtain ⟨t,l,a,o,g,n,b,q⟩:=q v i H' s r
  unfold dAll at b
  split at b
  .split at b
   .rename_i bs m
    cases b
    obtain ⟨p,vs,rfl,h1,h2⟩:=aW.lst_of g n
    rw[<-j] at h1
    obtain rfl:=y9 h2 m
    exact ⟨p,bs,rfl,h1,q _ l H' (Ext.refl g) (.bl _)⟩
   .cases b
  .cases b
end
inductive Fw where
 | nx (ρ:Sg)|bk (ρ:Sg)|ct (ρ:Sg)|rt (a:A)
def AR(g:Gb)(K:Frag)(mg:Str->O6 V9)(H F' H':Hp):A->V->Prop
 | .l xs,v=>∃ p us,v=.ref p/\H p=none/\H' p=some (.lst us)/\F' p=none/\DatVs K F' us xs
 | a,v=>AF g K mg F' a v
theorem AR.of{g:Gb}{K:Frag}{mg:Str->O6 V9}{H b H':Hp}{a:A}{v:V}(h:AF g K mg b a v):AR g K mg H b H' a v:=by
 cases a with
 | l xs=>exact False.elim h
 | _=>exact h
def iE(c:Ct)(F:Hp)(D:kX):Fw->Prop
 | .nx ρ=>∀ σ' F' H',aJ F F'->Ab c ρ σ' F' H'->D.nx σ' H'
 | .bk ρ=>∀ σ' F' H',aJ F F'->Ab c ρ σ' F' H'->D.bk σ' H'
 | .ct ρ=>∀ σ' F' H',aJ F F'->Ab c ρ σ' F' H'->D.ct σ' H'
 | .rt a=>∀ v F' H',Ext c.F0 c.H0 F' H'->AR c.g c.K c.mg c.H0 F' H' a v->D.rt v H'
theorem iE.same{c:Ct}{F F1:Hp}{D:kX}(s:aJ F F1):∀ {w:Fw},iE c F D w->iE c F1 D w
 | .nx ρ,h=>fun b d H' s' ab=>h b d H' (fun a o z=>s' a o (s a o z)) ab
 | .bk ρ,h=>fun b d H' s' ab=>h b d H' (fun a o z=>s' a o (s a o z)) ab
 | .ct ρ,h=>fun b d H' s' ab=>h b d H' (fun a o z=>s' a o (s a o z)) ab
 | .rt a,h=>h
def tSf(c:Ct)(E:XK)(f:Sg->R Fw):TS:=fun D σ H=>∃ ρ F,Ab c ρ σ F H/\Rk c E F H (f ρ) (iE c F D)
abbrev PSf(X:Cx)(c:Ct)(E:XK)(st:Stmt)(f:Sg->R Fw):Prop:=PS X st (tSf c E f)
abbrev lQ(X:Cx)(c:Ct)(E:XK)(st:List Stmt)(f:Sg->R Fw):Prop:=PSs X st (tSf c E f)
theorem get_set{α:Type}{l:List α}{i j:Nat}{x y:α}(h:(l.set i x)[j]? = some y):(i=j/\y=x/\i < l.length)\/(i≠j/\l[j]? = some y):=by
 by_cases e:i=j
 .subst e
  by_cases a:i < l.length
  · rw [BW a] at h; exact .inl ⟨rfl, (BT h).symm, a⟩
  · rw [List.getElem?_eq_none_iff.mpr (by rw [B0]; omega)] at h; cases h
 .rw[BD e] at h;exact .inr ⟨e,h⟩
theorem Ab.setF{c:Ct}{ρ:Sg}{σ:L2.St}{F H:Hp}{i:Nat}{a:A}{v:V}(b:Ab c ρ σ F H)(ha:AO c F H a v)(hn:a.own=true->∀ (j:Nat) (a':A),j≠i->ρ[j]? = some (some a')->a'.own=true->σ[j]? ≠ some (some v)):Ab c (ρ.set i (some a)) (σ.set i (some v)) F H where
 len:=by rw[B0,B0];exact b.len
 fh:=b.fh
 slot:=fun j a' h=>by
  rcases get_set h with ⟨e,q,p⟩|⟨m,q⟩
  .subst e
   cases q
   exact ⟨v,BW (by rw[<-b.len];exact p),ha⟩
  .rw[BD m];exact b.slot j a' q
 apart:=fun j k a' s d h1 h2 n r=>by
  rcases get_set h1 with ⟨e,q,p⟩|⟨m,q⟩
  .subst e
   cases q
   rcases get_set h2 with ⟨o,g,l⟩|⟨f,g⟩
   .exact absurd o d
   .rw[BW (by rw[<-b.len];exact p),BD f]
    exact (hn n k s (BG d) g r).symm
  .rcases get_set h2 with ⟨o,g,l⟩|⟨f,g⟩
   .subst o
    cases g
    rw[BW (by rw[<-b.len];exact l),BD m]
    exact hn r j a' d q n
   .rw[BD m,BD f]
    exact b.apart j k a' s d q g n r
 f0:=b.f0
 h0:=b.h0
 n0:=b.n0
 t0:=b.t0
theorem AO.of{c:Ct}{F H:Hp}:∀ {a:A} {v:V},AF c.g c.K c.mg F a v->AO c F H a v
 | .d x,v,h=>h
 | .x e,v,h=>h
 | .g k n G,v,h=>h
 | .f kvs,v,h=>h
 | .o e,v,h=>h
theorem AF.notOwn{g:Gb}{K:Frag}{mg:Str->O6 V9}{F:Hp}:∀ {a:A} {v:V},AF g K mg F a v->a.own=false
 | .d x,v,h=>rfl
 | .x e,v,h=>rfl
 | .g k n G,v,h=>rfl
 | .f kvs,v,h=>rfl
 | .o e,v,h=>rfl
theorem Ab.setA{c:Ct}{ρ:Sg}{σ:L2.St}{F H:Hp}{i:Nat}{a:A}{v:V}(b:Ab c ρ σ F H)(ha:AF c.g c.K c.mg F a v):Ab c (ρ.set i (some a)) (σ.set i (some v)) F H:=
 b.setF (AO.of ha) fun z=>by rw[AF.notOwn ha] at z;cases z
theorem Ab.setN{c:Ct}{ρ:Sg}{σ:L2.St}{F H a H':Hp}{i:Nat}{xs:List Dz}{v:V}(b:Ab c ρ σ F H)(e:Ext F H a H')(h:aDI c xs v H a H'):Ab c (ρ.set i (some (.l xs))) (σ.set i (some v)) a H':=by
 obtain ⟨p,vs,rfl,h1,h2,r,m⟩:=h
 refine (b.ext e).setF ⟨p,vs,rfl,h2,r,bK b.h0 h1,m⟩ fun _ j n _ d o=>?_
 obtain ⟨w,k,q⟩:=b.slot j n d
 rw[k]
 intro z
 cases z
 obtain ⟨s,o',g,f,_⟩:=q.at o
 cases g
 rw[h1] at f
 cases f
theorem Ab.putO{c:Ct}{ρ:Sg}{σ:L2.St}{F H:Hp}{i:Nat}{a u:A}{p:Az}{o:HO}(b:Ab c ρ σ F H)(hi:ρ[i]? = some (some a))(D:a.own=true)(I:σ[i]? = some (some (.ref p)))(T:u.own=true)(O:AO c F (upd H p o) u (.ref p)) :
  Ab c (ρ.set i (some u)) σ F (upd H p o):=by
 obtain ⟨v,h1,q⟩:=b.slot i _ hi
 rw[I] at h1
 cases h1
 obtain ⟨X,o',y,h2,U,W⟩:=q.at D
 cases y
 have t:∀ (j:Nat) (a:A) (w:V),j≠i->ρ[j]? = some (some a)->σ[j]? = some (some w)->AO c F H a w->AO c F (upd H p o) a w:=by
  intro j J w R P C s
  by_cases own:J.own=true
  .refine s.off fun z=>?_
   subst z
   exact b.apart j i _ _ R P hi own D (by rw[C,I])
  .cases J with
   | l zs=>exact absurd rfl own
   | m zs=>exact absurd rfl own
   | d x=>exact s
   | x e=>exact s
   | g k n f=>exact s
   | k S=>exact s
   | f S=>exact s
   | o S=>exact s
 exact {
  len:=by rw[B0];exact b.len
  fh:=fun a o z=>by rw[aF (fun w=>by subst w;rw[U] at z;cases z)];exact b.fh a o z
  slot:=fun j a h=>by
   rcases get_set h with ⟨e,q,Q⟩|⟨K,q⟩
   .subst e
    cases q
    exact ⟨_,I,O⟩
   .obtain ⟨w,C,s⟩:=b.slot j a q
    exact ⟨w,C,t j a w (BG K) q C s⟩
  apart:=fun j k u M r h1 h2 L N=>by
   rcases get_set h1 with ⟨e,q,Q⟩|⟨K,q⟩
   .subst e
    cases q
    rcases get_set h2 with ⟨y,B,E⟩|⟨G,B⟩
    .exact absurd y r
    .exact b.apart _ k _ M r hi B D N
   .rcases get_set h2 with ⟨y,B,E⟩|⟨G,B⟩
    .subst y
     exact b.apart j _ u _ r q hi L D
    .exact b.apart j k u M r q B L N
  f0:=b.f0
  h0:=fun a o z=>by rw[aF (fun w=>by subst w;rw[W] at z;cases z)];exact b.h0 a o z
  n0:=b.n0
  t0:=b.t0}
theorem Ab.putL{c:Ct}{ρ:Sg}{σ:L2.St}{F H:Hp}{i:Nat}{xs ys:List Dz}{p:Az}{vs:List V}(b:Ab c ρ σ F H)(hi:ρ[i]? = some (some (.l xs)))(a:σ[i]? = some (some (.ref p)))(e:DatVs c.K F vs ys) :
  Ab c (ρ.set i (some (.l ys))) σ F (upd H p (.lst vs)):=by
 obtain ⟨v,h1,g,us,rfl,h2,f,d,h⟩:=b.slot i _ hi
 rw[a] at h1
 cases h1
 exact b.putO hi rfl a rfl ⟨p,vs,rfl,aQ,f,d,e⟩
theorem Ab.putM{c:Ct}{ρ:Sg}{σ:L2.St}{F H:Hp}{i:Nat}{d a:List (Dz×Dz)}{p:Az}{es:List Ent}{f:Nat}(b:Ab c ρ σ F H)(hi:ρ[i]? = some (some (.m d)))(e:σ[i]? = some (some (.ref p)))(h:MapRel c.K F es a) :
  Ab c (ρ.set i (some (.m a))) σ F (upd H p (kK c.w p es f)):=by
 obtain ⟨v,h1,k,us,rfl,h2,j,g,l⟩:=b.slot i _ hi
 rw[e] at h1
 cases h1
 exact b.putO hi rfl e rfl ⟨p,es,rfl,⟨f,aQ⟩,j,g,h⟩
theorem Ab.setM{c:Ct}{ρ:Sg}{σ:L2.St}{F H d H':Hp}{i:Nat}{a:List (Dz×Dz)}{p:Az}{es:List Ent}{h:Nat}(b:Ab c ρ σ F H)(e:Ext F H d H')(h1:H p=none)(h2:H' p=some (kK c.w p es h))(s:d p=none)(n:MapRel c.K d es a):Ab c (ρ.set i (some (.m a))) (σ.set i (some (.ref p))) d H':=by
 refine (b.ext e).setF ⟨p,es,rfl,⟨h,h2⟩,s,bK b.h0 h1,n⟩ fun _ j o _ f r=>?_
 obtain ⟨w,l,q⟩:=b.slot j o f
 rw[l]
 intro z
 cases z
 obtain ⟨t,o',k,g,_⟩:=q.at r
 cases k
 rw[h1] at g
 cases g
noncomputable def fz(i:Nat)(ρ:Sg):Sg:=match ρ[i]? with
 | some (some (.l xs))=>ρ.set i (some (.d (.list xs)))
 | _=>ρ
theorem Ab.publ{c:Ct}{ρ:Sg}{σ:L2.St}{F H:Hp}{i:Nat}{P C:A}{p:Az}{o:HO}(b:Ab c ρ σ F H)(hi:ρ[i]? = some (some P))(Q:σ[i]? = some (some (.ref p)))(T:P.own=true)(h2:H p=some o)(E:F p=none)(J:c.H0 p=none)(M:C.own=false)(W:AO c (upd F p o) H C (.ref p)):Ab c (ρ.set i (some C)) σ (upd F p o) H:=by
 have t:aJ F (upd F p o):=aJ.upd E
 exact {
  len:=by rw[B0];exact b.len
  fh:=fun a o' z=>by
   by_cases w:a=p
   .subst w;rw[aQ] at z;rw[h2];exact z
   .rw[aF w] at z;exact b.fh a o' z
  slot:=fun j a h=>by
   rcases get_set h with ⟨e,q,U⟩|⟨O,q⟩
   .subst e
    cases q
    exact ⟨_,Q,W⟩
   .obtain ⟨w,N,s⟩:=b.slot j a q
    refine ⟨w,N,?_⟩
    have off:∀ r,a.own=true->w=.ref r->F r=none->upd F p o r=none:=fun r X e f=>by
     rw[aF]
     .exact f
     .intro z
      subst z
      exact b.apart j i _ _ (BG O) q hi X T (by rw[N,Q,e])
    cases a with
    | l zs=>obtain ⟨r,D,e,u,s,y,B⟩:=s;exact ⟨r,D,e,u,off r rfl e s,y,B.same t⟩
    | m kvs=>obtain ⟨r,D,e,u,s,y,B⟩:=s;exact ⟨r,D,e,u,off r rfl e s,y,B.same t⟩
    | d x=>exact DatV.same t s
    | x e=>exact AF.same (g:=c.g) (K:=c.K) (mg:=c.mg) (a:=.x e) t s
    | g k n f=>exact AF.same (g:=c.g) (K:=c.K) (mg:=c.mg) (a:=.g k n f) t s
    | k S=>obtain ⟨S,f,cl,doc,pm,Y,ct,h0,h1,h2,E,J⟩:=s;exact ⟨S,f,cl,doc,pm,Y,ct,h0,h1,t _ _ h2,t _ _ E,J⟩
    | f kvs=>exact AF.same (g:=c.g) (K:=c.K) (mg:=c.mg) (a:=.f kvs) t s
    | o e=>exact AF.same (g:=c.g) (K:=c.K) (mg:=c.mg) (a:=.o e) t s
  apart:=fun j k a' Z v h1 h2 G L=>by
   rcases get_set h1 with ⟨e,q,U⟩|⟨O,q⟩
   .cases q;rw[M] at G;cases G
   .rcases get_set h2 with ⟨e',I,R⟩|⟨V,I⟩
    .cases I;rw[M] at L;cases L
    .exact b.apart j k a' Z v q I G L
  f0:=fun a o z=>t a o (b.f0 a o z)
  h0:=b.h0
  n0:=fun a z n=>by
   by_cases w:a=p
   .subst w;exact .inl J
   .rw[aF w] at n;exact b.n0 a z n
  t0:=b.t0}
theorem Ab.frz{c:Ct}{ρ:Sg}{σ:L2.St}{F H:Hp}(b:Ab c ρ σ F H)(i:Nat):∃ F',aJ F F'/\Ab c (fz i ρ) σ F' H:=by
 unfold fz
 split
 .rename_i xs hi
  obtain ⟨v,d,p,vs,rfl,h2,a,e,f⟩:=b.slot i _ hi
  exact ⟨_,aJ.upd a,b.publ hi d rfl h2 a e rfl (.lst (SqL.of aQ) (f.same (aJ.upd a)))⟩
 .exact ⟨F,cB F,b⟩
noncomputable def aOX:Dz->Dz->R Dz
 | .int i,.int j=>.ok (.int (i+j))
 | _,_=>.bad
section
variable{X:Cx}{c:Ct}{E:XK}{e a b:Ez}{st:Stmt}{rest:List Stmt}{pos:Pos}
def sFz(i:Nat)(f:Sg->R Fw):Sg->R Fw:=fun ρ=>f (fz i ρ)
theorem xV(i:Nat){f:Sg->R Fw}(h:PSf X c E st f):PSf X c E st (sFz i f):=PS.imp h fun D σ H d=>by
 obtain ⟨ρ,F,ab,k⟩:=d
 obtain ⟨g,s,b⟩:=ab.frz i
 refine ⟨fz i ρ,g,b,?_⟩
 have a:Rk c E F H (f (fz i ρ)) (iE c F D):=k
 cases q:f (fz i ρ) with
 | bad=>rw[q] at a;exact a
 | ok w=>rw[q] at a;exact iE.same s a
 | ex e=>rw[q] at a;exact a
noncomputable def sNx:Sg->R Fw:=fun ρ=>.ok (.nx ρ)
def aX(f g:Sg->R Fw):Sg->R Fw:=fun ρ=>(f ρ).bind fun w=>match w with
 | .nx ρ'=>g ρ'
 | w=>.ok w
theorem cE:lQ X c E [] sNx:=PSs.imp L2.cE fun D σ H ⟨ρ,F,ab,k⟩=>Rk.ok k σ F H (cB F) ab
theorem aN{f:Sg->R Fw}(h:PSf X c E st f):lQ X c E [st] f:=L2.aN h
theorem aG{f g:Sg->R Fw}(h:PSf X c E st f)(h2:lQ X c E rest g):lQ X c E (st::rest) (aX f g):=PSs.imp (L2.aG h h2) fun D σ H j=>by
 obtain ⟨ρ,F,ab,k⟩:=j
 refine ⟨ρ,F,ab,(Rk.bind k).imp fun w _ q=>?_⟩
 cases w with
 | nx ρ'=>
  intro m l H' s i
  refine ⟨ρ',l,i,?_⟩
  have b:Rk c E F H (g ρ') (iE c F D):=q
  cases d:g ρ' with
  | bad=>rw[d] at b;exact b
  | ok w=>rw[d] at b;exact iE.same s b
  | ex e=>rw[d] at b;exact b
 | bk ρ'=>exact q
 | ct ρ'=>exact q
 | rt a=>exact q
def bO(f:Sg->R A):Sg->R Fw:=fun ρ=>(f ρ).bind fun a=>.ok (.rt a)
theorem bA{f:Sg->R A}(h:PV X c E e f):PSf X c E (.Return (some e) pos) (bO f):=PS.imp (L2.bA h) fun D σ H ⟨ρ,F,ab,k⟩=>
 ⟨ρ,F,ab,(Rk.bind k).imp fun a _ q v b H' s r=>Rk.ok q v b H' (ab.all.trans s) (AR.of r)⟩
noncomputable def aOY:Sg->R Fw:=fun _=>.ok (.rt (.d .none))
def sIf(t:Sg->R Bool)(f g:Sg->R Fw):Sg->R Fw:=fun ρ=>(t ρ).bind fun b=>if b=true then f ρ else g ρ
theorem Rk.fw{F a H H1:Hp}{D:kX}{r:R Fw}(s:aJ F a)(k:Rk c E F H r (iE c F D)):Rk c E a H1 r (iE c a D):=by
 cases r with
 | bad=>exact k
 | ok w=>exact iE.same s k
 | ex e=>exact k
theorem dA{q:Ez}{h e:List Stmt}{t:Sg->R Bool}{f g:Sg->R Fw}(j:PTf X c E q t)(ha:lQ X c E h f)(i:lQ X c E e g):PSf X c E (.If q h e pos) (sIf t f g):=PS.imp (L2.dA j ha i) fun D σ H a=>by
 obtain ⟨ρ,F,ab,k⟩:=a
 refine ⟨ρ,F,ab,(Rk.bind k).imp fun b _ q d H' s=>?_⟩
 cases b with
 | true=>exact yB ⟨ρ,d,ab.ext s,Rk.fw s.ff q⟩
 | false=>exact yA ⟨ρ,d,ab.ext s,Rk.fw s.ff q⟩
def cH(i:Nat)(f:Sg->R A):Sg->R Fw:=fun ρ=>(f ρ).bind fun a=>.ok (.nx (ρ.set i (some a)))
theorem aR{i:Nat}{f:Sg->R A}(h:PS X st (kG (tV (aHO c) c E f) (i8 i))):PSf X c E st (cH i f):=PS.imp h fun D σ H ⟨ρ,F,ab,k⟩=>
 ⟨ρ,F,ab,(Rk.bind k).imp fun a _ q v b H' s r=>Rk.ok q _ b H' s.ff ((ab.ext s).setA r)⟩
def jC(i:Nat)(f:Sg->R (List Dz)):Sg->R Fw:=fun ρ=>(f ρ).bind fun xs=>.ok (.nx (ρ.set i (some (.l xs))))
theorem iU{i:Nat}{f:Sg->R (List Dz)}(h:PS X st (kG (tV (aDI c) c E f) (i8 i))):PSf X c E st (jC i f):=PS.imp h fun D σ H ⟨ρ,F,ab,k⟩=>
 ⟨ρ,F,ab,(Rk.bind k).imp fun a _ q v b H' s r=>Rk.ok q _ b H' s.ff (ab.setN s r)⟩
def aDL(f:Sg->R A):Sg->R Fw:=fun ρ=>(f ρ).bind fun _=>.ok (.nx ρ)
theorem eR{f:Sg->R A}(h:PS X st (xO (tV (aHO c) c E f))):PSf X c E st (aDL f):=PS.imp h fun D σ H ⟨ρ,F,ab,k⟩=>
 ⟨ρ,F,ab,(Rk.bind k).imp fun a _ q v b H' s r=>Rk.ok q _ b H' s.ff (ab.ext s)⟩
def jG(i:Nat)(f:Sg->R Dz):Sg->R Fw:=fun ρ=>match ρ[i]? with
 | some (some (.l xs))=>(f ρ).bind fun x=>if xs.length < 16777216 then .ok (.nx (ρ.set i (some (.l (xs++[x]))))) else .bad
 | _=>.bad
theorem n9{i:Nat}{f:Sg->R Dz}(j:X.K=c.K)(h:PS X st (xO (tBM X.K "list" uZ (hX i) (dN (tV (cK c) c E f) f7)))):PSf X c E st (jG i f):=PS.imp h fun D σ H ⟨ρ,F,ab,k⟩=>by
 unfold jG at k
 split at k
 .rename_i xs hi
  obtain ⟨v,b,p,vs,rfl,h2,m,l,d⟩:=ab.slot i _ hi
  refine ⟨_,b,.inl ⟨rfl,vs,SqL.of h2⟩,ρ,F,ab,(Rk.bind k).imp fun x _ q u e H1 s1 g=>?_⟩
  by_cases a:xs.length < 16777216
  .rw[AE a] at q
   refine ⟨p,vs,u,rfl,rfl,s1.hh _ _ h2,by rw[d.length,dB];exact a,?_⟩
   exact Rk.ok q σ e _ s1.ff ((ab.ext s1).putL hi b ((d.same s1.ff).append (.cons g .nil)))
  .rw[AI a] at q;exact q.elim
 .exact k.elim
def aDM(i:Nat)(f g:Sg->R Dz):Sg->R Fw:=fun ρ=>(g ρ).bind fun x=>match ρ[i]? with
 | some (some (.l xs))=>(f ρ).bind fun k=>match k with
  | .int k=>match ixN xs.length k with
   | some j=>.ok (.nx (ρ.set i (some (.l (xs.set j x)))))
   | none=>.bad
  | _=>.bad
 | _=>.bad
theorem wQ{K:Frag}{F:Hp}{x:V}{d:Dz}(h:DatV K F x d):∀ {vs:List V} {xs:List Dz} (j:Nat),DatVs K F vs xs->DatVs K F (vs.set j x) (xs.set j d)
 | _,_,_,.nil=>.nil
 | _,_,0,.cons _ t=>.cons h t
 | _,_,j+1,.cons q t=>.cons q (wQ h j t)
theorem aM9{i:Nat}{f g:Sg->R Dz}(h:PS X st (kG (tV (cK c) c E g) (aGU (hX i) (tV (bD c) c E f) aI2))):PSf X c E st (aDM i f g):=PS.imp h fun D σ H ⟨ρ,F,ab,k⟩=>by
 refine ⟨ρ,F,ab,(Rk.bind k).imp fun x _ q v t H1 s1 o=>?_⟩
 split at q
 .rename_i xs hi
  have a:=ab.ext s1
  obtain ⟨_,n,p,vs,rfl,h2,y,z,m⟩:=a.slot i _ hi
  refine ⟨_,n,ρ,t,a,((Rk.bind q).ext s1).imp fun k _ q u r H2 b w=>?_⟩
  have e:=a.ext b
  cases k with
  | int kk=>
   have d:Rk c E F H (match ixN xs.length kk with|some j=>R.ok (.nx (ρ.set i (some (.l (xs.set j x)))))|none=>.bad) (iE c F D):=q
   clear q
   split at d
   .rename_i j s
    obtain rfl:=aW.int_of w
    refine ⟨p,vs,kk,j,rfl,rfl,b.hh _ _ h2,by rw[m.length];exact s,?_⟩
    exact Rk.ok d σ r _ (s1.trans b).ff (e.putL hi n (wQ (DatV.same b.ff o) j (m.same b.ff)))
   .exact d.elim
  | _=>exact q.elim
 .exact q.elim
def aPZ(i:Nat)(g:Dz->Dz->R Dz)(f:Sg->R Dz):Sg->R Fw:=fun ρ=>(eV i ρ).bind fun x=>(f ρ).bind fun y=>(g x y).bind fun z=>.ok (.nx (ρ.set i (some (.d z))))
end
def Tg(c:Ct)(g:TG)(fs:Dz->Sg->O6 Sg)(is:List Nat):Prop:=∀ (v:V) (x:Dz) (ρ ρ':Sg) (σ:L2.St) (F H:Hp) (Q:L2.St->Hp->Prop),Ab c ρ σ F H->DatV c.K F v x->fs x ρ=some ρ'->
 (∀ σ':L2.St,σ'.length=σ.length->(∀ j:Nat,j∉is->σ'[j]? = σ[j]?)->Ab c ρ' σ' F H->Q σ' H)->g v σ H Q
noncomputable def stN(i:Nat):Dz->Sg->O6 Sg:=fun x ρ=>some (ρ.set i (some (.d x)))
theorem bZ{c:Ct}(i:Nat):Tg c (i8 i) (stN i) [i]:=fun v x ρ b σ F H Q ab r e q=>by
 cases e
 exact q _ B0 (fun j f=>BD (by intro z;subst z;exact f (by simp))) (ab.setA (a:=.d x) r)
noncomputable def stL:List (Dz->Sg->O6 Sg)->List Dz->Sg->O6 Sg
 | [],[],ρ=>some ρ
 | f::fs,x::xs,ρ=>(f x ρ).bind (stL fs xs)
 | _,_,_=>none
def Tgs(c:Ct)(g:TGs)(fs:List (Dz->Sg->O6 Sg))(is:List Nat):Prop:=∀ (vs:List V) (xs:List Dz) (ρ ρ':Sg) (σ:L2.St) (F H:Hp) (Q:L2.St->Hp->Prop),Ab c ρ σ F H->DatVs c.K F vs xs->stL fs xs ρ=some ρ'->
 (∀ σ':L2.St,σ'.length=σ.length->(∀ j:Nat,j∉is->σ'[j]? = σ[j]?)->Ab c ρ' σ' F H->Q σ' H)->g vs σ H Q
theorem kO{c:Ct}:Tgs c aGT [] []:=fun vs xs ρ a σ F H Q ab r e q=>by
 cases xs with
 | nil=>cases e;exact ⟨by cases r;rfl,q σ rfl (fun _ _=>rfl) ab⟩
 | cons x t=>cases e
theorem dE{c:Ct}{g:TG}{o:TGs}{f:Dz->Sg->O6 Sg}{fs:List (Dz->Sg->O6 Sg)}{is js:List Nat}(h:Tg c g f is)(h2:Tgs c o fs js):Tgs c (aIU g o) (f::fs) (is++js):=fun vs xs ρ a σ F H Q ab r e q=>by
 cases r with
 | nil=>cases e
 | cons r1 r2=>
  rename_i x d vs ds
  have b:(f d ρ).bind (stL fs ds)=some a:=e
  cases e1:f d ρ with
  | none=>rw[e1] at b;cases b
  | some ρ1=>
   rw[e1] at b
   refine ⟨_,_,rfl,h _ _ ρ ρ1 σ F H _ ab r1 e1 fun i s k1 l=>h2 _ _ ρ1 a i F H _ l r2 b fun m p k2 k=>q m (p.trans s) (fun j n=>?_) k⟩
   rw[B3,G5] at n
   exact (k2 j n.2).trans (k1 j n.1)
noncomputable def stT(fs:List (Dz->Sg->O6 Sg)):Dz->Sg->O6 Sg:=fun x ρ=>match x with
 | .tuple xs=>stL fs xs ρ
 | _=>none
theorem aBS:∀ {fs:List (Dz->Sg->O6 Sg)} {xs:List Dz} {ρ ρ':Sg},stL fs xs ρ=some ρ'->xs.length=fs.length
 | [],[],_,_,_=>rfl
 | [],_::_,_,_,h=>by cases h
 | _::_,[],_,_,h=>by cases h
 | f::fs,x::xs,ρ,ρ',h=>by
  have h':(f x ρ).bind (stL fs xs)=some ρ':=h
  cases e:f x ρ with
  | none=>rw[e] at h';cases h'
  | some ρ1=>
   rw[e] at h'
   have:=aBS (fs:=fs) (xs:=xs) h'
   simp[this]
theorem mI{c:Ct}{d:TGs}{fs:List (Dz->Sg->O6 Sg)}{is:List Nat}{n:Nat}{K:Frag}(f:K=c.K)(h:Tgs c d fs is)(hn:fs.length=n):Tg c (aL9 K n d) (stT fs) is:=fun v x ρ b σ F H Q ab r e q=>by
 cases x with
 | tuple xs=>
  obtain ⟨a,vs,rfl,h1,h2⟩:=r.tup_of
  subst f
  exact ⟨a,vs,rfl,h1.same ab.fh,by rw[h2.length,aBS e,hn],h vs xs ρ b σ F H Q ab h2 e q⟩
 | _=>cases e
structure Yld(K:Frag)(J:It)(F B:Hp)(xs:List Dz):Prop where
 len:xs.length<=sizeLine
 go:∀ (i:Nat) F1 H1,aJ F F1->aJ F1 H1->aJ B H1->i < xs.length->J.go i H1
 yld:∀ (i:Nat) F1 H1 v H2 x,aJ F F1->aJ F1 H1->aJ B H1->J.yld i H1 v H2->xs[i]? = some x->∃ F2,Ext F1 H1 F2 H2/\DatV K F2 v x
 stop:∀ F1 H1,aJ F F1->aJ F1 H1->aJ B H1->J.stop xs.length H1
def tI(c:Ct)(E:XK)(f:Sg->R (List Dz)):TI:=fun σ H Rr=>∃ ρ F,Ab c ρ σ F H/\Rk c E F H (f ρ) fun xs=>∀ J B F' H',Ext F H F' H'->aJ B H'->Yld c.K J F' B xs->Rr J H'
def tI0(c:Ct)(E:XK)(f:Sg->R (List Dz)):TI:=fun σ H Rr=>∃ ρ F,Ab c ρ σ F H/\Rk c E F H (f ρ) fun xs=>∀ J F' H',Ext F H F' H'->Yld c.K J F' (fun _=>none) xs->Rr J H'
theorem PI.imp{X:Cx}{tg e:Ez}{t t':TI}(h:PI X tg e t)(i:∀ σ H Q,t' σ H Q->t σ H Q):PI X tg e t':=fun pins s σ H Q I q=>h pins s σ H Q I (i σ H Q q)
abbrev PIf(X:Cx)(c:Ct)(E:XK)(tg e:Ez)(f:Sg->R (List Dz)):Prop:=PI X tg e (tI c E f)
abbrev PI0(X:Cx)(c:Ct)(E:XK)(tg e:Ez)(f:Sg->R (List Dz)):Prop:=PI X tg e (tI0 c E f)
theorem aI9{X:Cx}{c:Ct}{E:XK}{tg e:Ez}{f:Sg->R (List Dz)}(h:PI0 X c E tg e f):PIf X c E tg e f:=PI.imp h fun σ H Q ⟨ρ,F,ab,k⟩=>
 ⟨ρ,F,ab,k.imp fun xs _ q J a H' s y=>q J (fun _=>none) a H' s (fun _ _ z=>nomatch z) y⟩
def jU{H:Hp}:aJ (fun _=>none) H:=fun _ _ z=>nomatch z
noncomputable def cC:Dz->R (List Dz)
 | .list xs=>if xs.length<=16777216 then .ok xs else .bad
 | .tuple xs=>if xs.length<=16777216 then .ok xs else .bad
 | .str z=>if z.cps.toList.length<=16777216 then .ok (z.cps.toList.map fun u=>.str ⟨#[u]⟩) else .bad
 | _=>.bad
theorem zA{K:Frag}{F B H:Hp}{a:Az}{vs:List V}{xs:List Dz}(h:xs.length<=16777216)(c:∀ H1,aJ F H1->aJ B H1->SqL K H1 a vs)(g:DatVs K F vs xs):Yld K (Itl K a) F B xs where
 len:=by rw[dB];exact h
 go:=fun i f H1 h1 h2 b hi=>by
  have q:=c H1 (fun x o z=>h2 x o (h1 x o z)) b
  exact ⟨vs,vs[i]'(by rw[g.length];exact hi),q,by simp⟩
 yld:=fun i f H1 v H2 x h1 h2 b y e=>by
  obtain ⟨rfl,y⟩:=y
  have q:=y vs (c _ (fun x o z=>h2 x o (h1 x o z)) b)
  obtain ⟨d,e2,r⟩:=g.get q
  rw[e] at e2
  cases e2
  exact ⟨f,Ext.refl h2,r.same h1⟩
 stop:=fun f H1 h1 h2 b=>⟨vs,c H1 (fun x o z=>h2 x o (h1 x o z)) b,by rw[g.length];exact AM _⟩
theorem aBT{K:Frag}{F B:Hp}{a:Az}{vs:List V}{xs:List Dz}(h:xs.length<=16777216)(b:SqT K F a vs)(f:DatVs K F vs xs):Yld K (Itt K a) F B xs where
 len:=by rw[dB];exact h
 go:=fun i c H1 h1 h2 g hi=>by
  have q:=b.same (H':=H1) (fun x o z=>h2 x o (h1 x o z))
  exact ⟨vs,vs[i]'(by rw[f.length];exact hi),q,by simp⟩
 yld:=fun i c H1 v H2 x h1 h2 g y e=>by
  obtain ⟨rfl,y⟩:=y
  have q:=y vs (b.same (fun x o z=>h2 x o (h1 x o z)))
  obtain ⟨d,e2,r⟩:=f.get q
  rw[e] at e2
  cases e2
  exact ⟨c,Ext.refl h2,r.same h1⟩
 stop:=fun c H1 h1 h2 g=>⟨vs,b.same (fun x o z=>h2 x o (h1 x o z)),by rw[f.length];exact AM _⟩
theorem aBU{K:Frag}{F B:Hp}{z:Str}(d:z.cps.toList.length<=16777216):Yld K (Its z) F B (z.cps.toList.map fun u=>.str ⟨#[u]⟩) where
 len:=by rw[dB,AD];exact d
 go:=fun i a H1 h1 h2 b hi=>by
  rw[AD,B5] at hi
  exact hi
 yld:=fun i a H1 v H2 x h1 h2 b y e=>by
  obtain ⟨rfl,u,c,rfl⟩:=y
  rw[A0,D6,c] at e
  cases e
  exact ⟨a,Ext.refl h2,.str _⟩
 stop:=fun a H1 h1 h2 b=>by
  show (z.cps.toList.map _).length=z.cps.size
  rw[AD,B5]
section
variable{X:Cx}{c:Ct}{E:XK}{tg e a b:Ez}{pos:Pos}
theorem aNA{f:Sg->R Dz}(j:X.K=c.K)(h:PD X c E e f):PI0 X c E tg e (e1 cC f):=PI.imp (PI.or (aE7 h) (aFE h)) fun σ H Q ⟨ρ,F,ab,k⟩=>by
 have b:=Rk.bind k
 cases a:f ρ with
 | bad=>rw[a] at b;exact b.elim
 | ex x=>rw[a] at b;exact .inl ⟨ρ,F,ab,by rw[a];exact b⟩
 | ok d=>
  rw[a] at b
  have k2:=Rk.ok b
  unfold cC at k2
  split at k2
  .rename_i xs
   split at k2
   .rename_i i
    refine .inl ⟨ρ,F,ab,?_⟩
    rw[a]
    intro v g H' s r
    obtain ⟨p,vs,rfl,h1,h2⟩:=DatV.lst_of r
    refine ⟨p,rfl,.inl ⟨⟨vs,?_⟩,?_⟩⟩
    · rw [j]; exact h1.same s.fh
    · rw [j]; exact Rk.ok k2 _ g H' s (zA (H := H') i (fun H1 q _ => h1.same q) h2)
   .exact k2.elim
  .rename_i xs
   split at k2
   .rename_i i
    refine .inl ⟨ρ,F,ab,?_⟩
    rw[a]
    intro v g H' s r
    obtain ⟨p,vs,rfl,h1,h2⟩:=DatV.tup_of r
    refine ⟨p,rfl,.inr ⟨⟨vs,?_⟩,?_⟩⟩
    · rw [j]; exact h1.same s.fh
    · rw [j]; exact Rk.ok k2 _ g H' s (aBT i h1 h2)
   .exact k2.elim
  .rename_i z
   split at k2
   .rename_i i
    refine .inr ⟨ρ,F,ab,?_⟩
    rw[a]
    intro v g H' s r
    obtain rfl:=DatV.str_of r
    exact ⟨z,rfl,Rk.ok k2 _ g H' s (aBU i)⟩
   .exact k2.elim
  .exact k2.elim
theorem zB{f:Sg->R Dz}(j:X.K=c.K)(h:PR X c E e f):PIf X c E tg e (e1 cC f):=PI.imp (PI.or (aE7 h) (aFE h)) fun σ H Q ⟨ρ,F,ab,k⟩=>by
 have b:=Rk.bind k
 cases a:f ρ with
 | bad=>rw[a] at b;exact b.elim
 | ex x=>rw[a] at b;exact .inl ⟨ρ,F,ab,by rw[a];exact b⟩
 | ok d=>
  rw[a] at b
  have k2:=Rk.ok b
  unfold cC at k2
  split at k2
  .rename_i xs
   split at k2
   .rename_i i
    refine .inl ⟨ρ,F,ab,?_⟩
    rw[a]
    intro v g H' s r
    obtain ⟨p,vs,rfl,h1,h2⟩:=aW.lst_of s.fh r
    refine ⟨p,rfl,.inl ⟨⟨vs,?_⟩,?_⟩⟩
    · rw [j]; exact h1
    · rw [j]; exact Rk.ok k2 _ H' g H' s (cB _) (zA (H := H') i (fun H1 _ q => h1.same q) h2)
   .exact k2.elim
  .rename_i xs
   split at k2
   .rename_i i
    refine .inl ⟨ρ,F,ab,?_⟩
    rw[a]
    intro v g H' s r
    obtain ⟨p,vs,rfl,h1,_,h2⟩:=aW.tup_of s.fh r
    refine ⟨p,rfl,.inr ⟨⟨vs,?_⟩,?_⟩⟩
    · rw [j]; exact h1.same s.fh
    · rw [j]; exact Rk.ok k2 _ H' g H' s (cB _) (aBT i h1 h2)
   .exact k2.elim
  .rename_i z
   split at k2
   .rename_i i
    refine .inr ⟨ρ,F,ab,?_⟩
    rw[a]
    intro v g H' s r
    obtain rfl:=aW.str_of r
    exact ⟨z,rfl,Rk.ok k2 _ H' g H' s (cB _) (aBU i)⟩
   .exact k2.elim
  .exact k2.elim
noncomputable def gS(lo:Int)(n:Nat):List Dz:=(List.range n).map fun i:Nat=>.int (lo+i)
def eZ(lo hi:Int):R (List Dz):=if -4611686018427387904<=lo/\lo < 4611686018427387904 /\ -4611686018427387904<=hi/\hi < 4611686018427387904/\hi - lo<=16777216 then .ok (gS lo (hi - lo).toNat) else .bad
def iV(f:Sg->R Dz):Sg->R (List Dz):=fun ρ=>(f ρ).bind fun x=>match x with
 | .int j=>eZ 0 j
 | _=>.bad
def vL(f g:Sg->R Dz):Sg->R (List Dz):=fun ρ=>(f ρ).bind fun x=>(g ρ).bind fun y=>match x,y with
 | .int i,.int j=>eZ i j
 | _,_=>.bad
theorem wR{K:Frag}{F B:Hp}{lo:Int}{n:Nat}(d:n<=16777216):Yld K (Itr lo n) F B (gS lo n) where
 len:=by unfold gS;rw[dB,AD,CC];exact d
 go:=fun i a H1 h1 h2 c hi=>by unfold gS at hi;rw[AD,CC] at hi;exact hi
 yld:=fun i a H1 v H2 x h1 h2 c y e=>by
  obtain ⟨rfl,rfl⟩:=y
  unfold gS at e
  rw[A0] at e
  cases q:(List.range n)[i]? with
  | none=>rw[q] at e;cases e
  | some j=>
   rw[q] at e
   cases e
   obtain ⟨f,b⟩:=AS.mp q
   rw[List.getElem_range] at b
   subst b
   exact ⟨a,Ext.refl h2,.int _⟩
 stop:=fun a H1 h1 h2 c=>by show n<=_;unfold gS;rw[AD,CC];exact AM _
theorem l0{f:Sg->R Dz}(h:PI X tg e (aIV (dN (tV (bD c) c E f) f7))):PI0 X c E tg e (iV f):=PI.imp h fun σ H Q ⟨ρ,F,ab,k⟩=>by
 refine ⟨ρ,F,ab,(Rk.bind k).imp fun x _ q v b H' s r=>?_⟩
 cases x with
 | int j=>
  have a:Rk c E F H (eZ 0 j) _:=q
  unfold eZ at a
  split at a
  .rename_i d
   obtain rfl:=aW.int_of r
   refine ⟨j,rfl,by omega,by omega,?_⟩
   have e0:(j - 0).toNat=j.toNat:=by rw[Int.sub_zero]
   rw[<-e0]
   exact Rk.ok a _ b H' s (wR (by omega))
  .exact a.elim
 | _=>exact q.elim
theorem aKQ{f g:Sg->R Dz}(h:PI X tg e (aIW (dN (tV (bD c) c E f) (dN (tV (bD c) c E g) f7)))):PI0 X c E tg e (vL f g):=PI.imp h fun σ H Q ⟨ρ,F,ab,k⟩=>by
 refine ⟨ρ,F,ab,(Rk.bind k).imp fun x _ q v d H1 s1 l=>⟨ρ,d,ab.ext s1,((Rk.bind q).ext s1).imp fun y _ q w b H' s r=>?_⟩⟩
 cases x with
 | int i=>
  cases y with
  | int j=>
   have a:Rk c E F H (eZ i j) _:=q
   unfold eZ at a
   split at a
   .rename_i m
    obtain rfl:=aW.int_of l
    obtain rfl:=aW.int_of r
    exact ⟨i,j,rfl,⟨by omega,by omega,by omega,by omega⟩,Rk.ok a _ b H' (s1.trans s) (wR (by omega))⟩
   .exact a.elim
  | _=>exact q.elim
 | _=>cases y<;>exact q.elim
end
noncomputable def kP(js:List (O6 Nat))(ρ:Sg):Sg:=js.map fun o=>o.bind fun j=>(ρ[j]?).join
theorem vM{α:Type}{js:List (O6 Nat)}{ρ:List (O6 α)}{i:Nat}{a:α}(h:(js.map fun o=>o.bind fun j=>(ρ[j]?).join)[i]? = some (some a)):∃ j,js[i]? = some (some j)/\ρ[j]? = some (some a):=by
 rw[A0] at h
 cases e:js[i]? with
 | none=>rw[e] at h;cases h
 | some o=>
  rw[e] at h
  have h':(o.bind fun j=>(ρ[j]?).join)=some a:=BT h
  cases o with
  | none=>cases h'
  | some j=>
   have h2:(ρ[j]?).join=some a:=h'
   cases e2:ρ[j]? with
   | none=>rw[e2] at h2;cases h2
   | some o2=>rw[e2] at h2;have:o2=some a:=h2;subst this;exact ⟨j,rfl,e2⟩
theorem vN{α:Type}{js:List (O6 Nat)}{ρ:List (O6 α)}{i j:Nat}{a:α}(h:js[i]? = some (some j))(h2:ρ[j]? = some (some a)):(js.map fun o=>o.bind fun j=>(ρ[j]?).join)[i]? = some (some a):=by
 rw[A0,h]
 show some ((ρ[j]?).join)=_
 rw[h2];rfl
def vP(js:List (O6 Nat)):Prop:=∀ (i k j:Nat),js[i]? = some (some j)->js[k]? = some (some j)->i=k
theorem tZ{js:List (O6 Nat)}(h:js.Pairwise fun a b=>a=none\/a≠b):vP js:=fun i k j h1 h2=>by
 obtain ⟨d,e1⟩:=AS.mp h1
 obtain ⟨c,e2⟩:=AS.mp h2
 rw[List.pairwise_iff_getElem] at h
 rcases Nat.lt_trichotomy i k with q|q|q
 .rcases h i k d c q with z|z
  · rw [e1] at z; cases z
  · exact absurd (e1.trans e2.symm) z
 .exact q
 .rcases h k i c d q with z|z
  · rw [e2] at z; cases z
  · exact absurd (e2.trans e1.symm) z
theorem Ab.cap{c:Ct}{ρ:Sg}{σ f:L2.St}{F H:Hp}{js:List (O6 Nat)}(b:Ab c ρ σ F H)(u:vP js)(k:dP (kH js σ) f):Ab c (kP js ρ) f F H where
 len:=by rw[k.1];unfold kP kH;rw[AD,AD]
 fh:=b.fh
 slot:=fun i a h=>by
  obtain ⟨j,h1,h2⟩:=vM h
  obtain ⟨v,l,t⟩:=b.slot j a h2
  exact ⟨v,k.2 i v (vN h1 l),t⟩
 apart:=fun i q a p n h h' o o'=>by
  obtain ⟨j,h1,h2⟩:=vM h
  obtain ⟨m,g,d⟩:=vM h'
  have s:j≠m:=fun z=>n (u i q j h1 (by rw[g,z]))
  obtain ⟨v,l,_⟩:=b.slot j a h2
  obtain ⟨r,e,_⟩:=b.slot m p d
  rw[k.2 i v (vN h1 l),k.2 q r (vN g e),<-l,<-e]
  exact b.apart j m a p s h2 d o o'
 f0:=b.f0
 h0:=b.h0
 n0:=b.n0
 t0:=b.t0
noncomputable def R.noEx{α:Type}:R α->R α
 | .ex _=>.bad
 | r=>r
@[simp] theorem R.noEx_ok{α:Type}(a:α):(R.ok a).noEx=.ok a:=id rfl
noncomputable def vQ{α:Type}:O6 α->R α
 | some a=>.ok a
 | none=>.bad
@[simp] theorem iF{α:Type}(a:α):vQ (some a)=.ok a:=id rfl
noncomputable def compL(fs:Dz->Sg->O6 Sg)(ft:Sg->R Bool)(fe:Sg->R Dz)(ρ0:Sg):List Dz->R (List Dz)
 | []=>.ok []
 | x::t=>(vQ (fs x ρ0)).bind fun ρ1=>(ft ρ1).noEx.bind fun b=>if b=true then (fe ρ1).noEx.bind fun y=>(compL fs ft fe ρ0 t).bind fun ys=>.ok (y::ys) else compL fs ft fe ρ0 t
theorem oY{fs:Dz->Sg->O6 Sg}{a:Sg->R Bool}{fe:Sg->R Dz}{ρ0:Sg}{e:Er}:∀ {xs:List Dz},compL fs a fe ρ0 xs≠.ex e
 | []=>fun h=>by cases h
 | x::t=>fun h=>by
  unfold compL at h
  cases h1:fs x ρ0 with
  | none=>rw[h1] at h;cases h
  | some ρ1=>
   rw[h1] at h
   have h:((a ρ1).noEx.bind fun b=>if b=true then (fe ρ1).noEx.bind fun y=>(compL fs a fe ρ0 t).bind fun ys=>.ok (y::ys) else compL fs a fe ρ0 t)=.ex e:=h
   cases h2:a ρ1 with
   | bad=>rw[h2] at h;cases h
   | ex _=>rw[h2] at h;cases h
   | ok b=>
    rw[h2] at h
    have h:(if b=true then (fe ρ1).noEx.bind fun y=>(compL fs a fe ρ0 t).bind fun ys=>.ok (y::ys) else compL fs a fe ρ0 t)=.ex e:=h
    cases b with
    | false=>exact oY (xs:=t) h
    | true=>
     have h:((fe ρ1).noEx.bind fun y=>(compL fs a fe ρ0 t).bind fun ys=>.ok (y::ys))=.ex e:=h
     cases c:fe ρ1 with
     | bad=>rw[c] at h;cases h
     | ex _=>rw[c] at h;cases h
     | ok y=>
      rw[c] at h
      have h:((compL fs a fe ρ0 t).bind fun ys=>.ok (y::ys))=.ex e:=h
      cases d:compL fs a fe ρ0 t with
      | bad=>rw[d] at h;cases h
      | ex e'=>exact oY (xs:=t) (e:=e') d
      | ok ys=>rw[d] at h;cases h
theorem aDN{fs:Dz->Sg->O6 Sg}{a:Sg->R Bool}{fe:Sg->R Dz}{ρ0:Sg}{x:Dz}{t ys:List Dz}(h:compL fs a fe ρ0 (x::t)=.ok ys) :
  ∃ ρ1 b,fs x ρ0=some ρ1/\a ρ1=.ok b/\((b=true/\∃ y zs,fe ρ1=.ok y/\compL fs a fe ρ0 t=.ok zs/\ys=y::zs)\/(b=false/\compL fs a fe ρ0 t=.ok ys)):=by
 unfold compL at h
 cases h1:fs x ρ0 with
 | none=>rw[h1] at h;cases h
 | some ρ1=>
  rw[h1] at h
  have h:((a ρ1).noEx.bind fun b=>if b=true then (fe ρ1).noEx.bind fun y=>(compL fs a fe ρ0 t).bind fun ys=>.ok (y::ys) else compL fs a fe ρ0 t)=.ok ys:=h
  cases h2:a ρ1 with
  | bad=>rw[h2] at h;cases h
  | ex _=>rw[h2] at h;cases h
  | ok b=>
   rw[h2] at h
   have h:(if b=true then (fe ρ1).noEx.bind fun y=>(compL fs a fe ρ0 t).bind fun ys=>.ok (y::ys) else compL fs a fe ρ0 t)=.ok ys:=h
   refine ⟨ρ1,b,rfl,h2,?_⟩
   cases b with
   | false=>exact .inr ⟨rfl,h⟩
   | true=>
    refine .inl ⟨rfl,?_⟩
    have h:((fe ρ1).noEx.bind fun y=>(compL fs a fe ρ0 t).bind fun ys=>.ok (y::ys))=.ok ys:=h
    cases c:fe ρ1 with
    | bad=>rw[c] at h;cases h
    | ex _=>rw[c] at h;cases h
    | ok y=>
     rw[c] at h
     have h:((compL fs a fe ρ0 t).bind fun ys=>.ok (y::ys))=.ok ys:=h
     cases d:compL fs a fe ρ0 t with
     | bad=>rw[d] at h;cases h
     | ex e'=>rw[d] at h;cases h
     | ok zs=>rw[d] at h;cases h;exact ⟨y,zs,rfl,rfl,rfl⟩
def j5(js:List (O6 Nat))(fi:Sg->R (List Dz))(fs:Dz->Sg->O6 Sg)(ft:Sg->R Bool)(fe:Sg->R Dz):Sg->R (List Dz):=fun ρ=>(fi ρ).bind fun xs=>compL fs ft fe (kP js ρ) xs
noncomputable def lR:Sg->R Bool:=fun _=>.ok true
section
variable{X:Cx}{c:Ct}{E:XK}{e a b:Ez}{pos:Pos}
theorem jQ:L2.PIf X [] (tTf c E lR):=fun pins s σ H Q I ⟨ρ,F,ab,k⟩=>L2.jQ pins s σ H Q I (Rk.ok k F H (Ext.refl ab.fh))
theorem zC{js:List (O6 Nat)}{is:List Nat}{σ a b:L2.St}(k:dP (kH js σ) a)(c:b.length=a.length)(h:∀ j:Nat,j∉is->b[j]? = a[j]?)(hi:∀ i∈is,js[i]? = some none):dP (kH js σ) b:=
 ⟨c.trans k.1,fun i v e=>by
  by_cases q:i∈is
  .unfold kH at e
   rw[A0,hi i q] at e
   cases e
  .rw[h i q];exact k.2 i v e⟩
theorem wS{N:List Str}{js:List (O6 Nat)}{scope:Scope}{tg r:Ez}{m:List Ez}{fi:Sg->R (List Dz)}{fs:Dz->Sg->O6 Sg}{D:Sg->R Bool}{fe:Sg->R Dz}{is:List Nat}(ho:vP js)(hi:∀ i∈is,js[i]? = some none)
  (hb:∀ (cl:List (Str×Az)) (C:Az) (s:S9) (H0:Hp) (fp:List Az),∃ g,PG (eX X N scope cl C s H0 fp) tg g/\Tg c g fs is/\L2.PIf (eX X N scope cl C s H0 fp) m (tTf c E0 D)/\PD (eX X N scope cl C s H0 fp) c E0 r fe)
  {σ:L2.St} {H:Hp} {Q:VK} (h:tV (aDI c) c E (j5 js fi fs D fe) σ H Q):q0 X N scope js tg r m (tI c E fi) σ H Q:=by
 obtain ⟨ρ,F,ab,k⟩:=h
 refine ⟨ρ,F,ab,(Rk.bind k).imp fun xs _ q J B F1 H1 s1 P A=>?_⟩
 cases G:compL fs D fe (kP js ρ) xs with
 | bad=>rw[G] at q;exact q.elim
 | ex e=>exact absurd G oY
 | ok ys=>
  rw[G] at q
  refine aBM (n:=xs.length) (fun i b H'=>∃ F',Ext F1 H1 F' H'/\b.length<=i/\∃ zs rest,DatVs c.K F' b zs/\compL fs D fe (kP js ρ) (xs.drop i)=.ok rest/\zs++rest=ys) A.len ⟨F1,Ext.refl s1.fh,AM _,[],ys,.nil,G,rfl⟩ ?_ ?_ ?_ ?_ ?_
  .rintro i b H' _ ⟨F',_,h,_⟩;exact h
  .rintro i b H' d ⟨F',e1,_⟩
   exact A.go i F' H' e1.ff e1.fh (fun a o z=>e1.hh a o (P a o z)) d
  .rintro b H' ⟨F',e1,_⟩
   exact A.stop F' H' e1.ff e1.fh (fun a o z=>e1.hh a o (P a o z))
  .rintro i v b Ha Hb d ⟨F',e1,hlen,zs,rest,hd,hr,hz⟩ hy
   obtain ⟨W,e2,rx⟩:=A.yld i F' Ha v Hb xs[i] e1.ff e1.fh (fun a o z=>e1.hh a o (P a o z)) hy (AH d)
   have V:xs.drop i=xs[i]::xs.drop (i+1):=CP d
   rw[V] at hr
   obtain ⟨j,bb,hs,ht,l⟩:=aDN hr
   intro cl C s H0 fp
   obtain ⟨g,hg,S,L,he⟩:=hb cl C s H0 fp
   refine ⟨g,_,_,hg,L,he,fun x k0=>?_⟩
   have O:Ab c (kP js ρ) x W Hb:=(ab.ext (s1.trans (e1.trans e2))).cap ho k0
   refine S v xs[i] _ j x W Hb _ O rx hs fun σ1 T U u=>⟨zC k0 T U hi,j,W,u,?_⟩
   rw[ht]
   intro Y H3 t
   rcases l with ⟨rfl,y,ws,M,f,rfl⟩|⟨rfl,f⟩
   .refine yB ⟨j,Y,u.ext t,?_⟩
    rw[M]
    intro w F4 H4 Z I
    refine ⟨F4,e1.trans (e2.trans (t.trans Z)),by rw[AU,E3];omega,zs++[y],ws,(hd.same (e2.trans (t.trans Z)).ff).append (.cons I .nil),f,by rw[GD];exact hz⟩
   .exact yA ⟨Y,e1.trans (e2.trans t),by omega,zs,rest,hd.same (e2.trans t).ff,f,hz⟩
  .rintro b H' ⟨F',e1,_,zs,rest,hd,hr,hz⟩ p hp
   rw[GS] at hr
   cases hr
   rw[CH] at hz
   subst hz
   exact Rk.ok q (.ref p) F' _ (s1.trans (e1.trans (Ext.own e1.fh hp))) ⟨p,b,rfl,bK (s1.trans e1).hh hp,aQ,bK e1.fh hp,hd⟩
theorem oA{N:List Str}{js:List (O6 Nat)}{scope:Scope}{tg f:Ez}{d:List Ez}{k:Sg->R (List Dz)}{fs:Dz->Sg->O6 Sg}{j:Sg->R Bool}{fe:Sg->R Dz}{is:List Nat}(h:PE X e (q0 X N scope js tg f d (tI c E k)))(l:js.Pairwise fun a b=>a=none\/a≠b)(hi:∀ i∈is,js[i]? = some none)
 (m:∀ (cl:List (Str×Az)) (C:Az) (s:S9) (H0:Hp) (fp:List Az),∃ g,PG (eX X N scope cl C s H0 fp) tg g/\Tg c g fs is/\L2.PIf (eX X N scope cl C s H0 fp) d (tTf c E0 j)/\PD (eX X N scope cl C s H0 fp) c E0 f fe) :
 PN X c E e (j5 js k fs j fe):=PE.imp h fun σ H Q q=>wS (tZ l) hi m q
theorem aKR{i:Nat}{st:Stmt}{N:List Str}{js:List (O6 Nat)}{scope:Scope}{tg e:Ez}{d:List Ez}{j:Sg->R (List Dz)}{fs:Dz->Sg->O6 Sg}{f:Sg->R Bool}{fe:Sg->R Dz}{is:List Nat}(h:PS X st (kG (q0 X N scope js tg e d (tI c E j)) (i8 i)))(k:js.Pairwise fun a b=>a=none\/a≠b)(hi:∀ i∈is,js[i]? = some none)
 (l:∀ (cl:List (Str×Az)) (C:Az) (s:S9) (H0:Hp) (fp:List Az),∃ g,PG (eX X N scope cl C s H0 fp) tg g/\Tg c g fs is/\L2.PIf (eX X N scope cl C s H0 fp) d (tTf c E0 f)/\PD (eX X N scope cl C s H0 fp) c E0 e fe) :
 PSf X c E st (jC i (j5 js j fs f fe)):=iU (PS.imp h fun D σ H q=>wS (tZ k) hi l q)
end
noncomputable def kQ(fs:Dz->Sg->O6 Sg)(fb:Sg->R Fw):List Dz->Sg->R Fw
 | [],ρ=>.ok (.nx ρ)
 | x::t,ρ=>(vQ (fs x ρ)).bind fun ρ1=>(fb ρ1).bind fun w=>match w with
  | .nx ρ2=>kQ fs fb t ρ2
  | .ct ρ2=>kQ fs fb t ρ2
  | .bk ρ2=>.ok (.nx ρ2)
  | .rt a=>.ok (.rt a)
def nR(fi:Sg->R (List Dz))(fs:Dz->Sg->O6 Sg)(fb:Sg->R Fw):Sg->R Fw:=fun ρ=>(fi ρ).bind fun xs=>kQ fs fb xs ρ
section
variable{X:Cx}{c:Ct}{E:XK}{e a b:Ez}{pos:Pos}{st:Stmt}
theorem dY{g:TG}{C:Sg->R (List Dz)}{fs:Dz->Sg->O6 Sg}{is:List Nat}{fb:Sg->R Fw}(K:Tg c g fs is)(h:PS X st (aGV (tI0 c E C) g (tSf c E fb))):PSf X c E st (nR C fs fb):=PS.imp h fun D σ H t=>by
 obtain ⟨ρ,F,ab,k⟩:=t
 refine ⟨ρ,F,ab,(Rk.bind k).imp fun xs _ q J B H1 s1 x=>?_⟩
 refine ⟨fun i m σ H=>m=xs.length - i/\i<=xs.length/\∃ ρ' b,aJ B b/\Ab c ρ' σ b H/\Rk c E b H (kQ fs fb (xs.drop i) ρ') (iE c F D),⟨xs.length,by simp,CM _,ρ,B,cB _,ab.ext s1,Rk.ext s1 q⟩,?_⟩
 rintro i m l H2 ⟨rfl,hi,ρ2,F2,s2,ab2,k2⟩
 by_cases j:i < xs.length
 .refine .inr ⟨x.go i F2 H2 s2 ab2.fh jU j,fun d H'=>∃ ρ' b,aJ B b/\Ab c ρ' d b H'/\Rk c E b H' (kQ fs fb (xs.drop (i+1)) ρ') (iE c F D),fun d H' w=>⟨xs.length - (i+1),by omega,rfl,j,w⟩,fun v H3 y=>?_⟩
  obtain ⟨u,p,L⟩:=x.yld i F2 H2 v H3 xs[i] s2 ab2.fh jU y (AH j)
  have s:xs.drop i=xs[i]::xs.drop (i+1):=CP j
  rw[s] at k2
  unfold kQ at k2
  cases h1:fs xs[i] ρ2 with
  | none=>rw[h1] at k2;exact k2.elim
  | some ρ3=>
   rw[h1] at k2
   refine K v xs[i] ρ2 ρ3 l u H3 _ (ab2.ext p) L h1 fun G _ _ A=>⟨ρ3,u,A,?_⟩
   have k3:Rk c E F2 H2 (fb ρ3) _:=Rk.bind k2
   cases h2:fb ρ3 with
   | bad=>rw[h2] at k3;exact k3.elim
   | ex e=>rw[h2] at k3;exact k3
   | ok w=>
    rw[h2] at k3
    have n:=Rk.ok k3
    have I:aJ F u:=fun a o z=>p.ff a o (s2 a o (s1.ff a o z))
    cases w with
    | nx ρ4=>exact fun d b H' s' f=>⟨ρ4,b,fun a o z=>s' a o (p.ff a o (s2 a o z)),f,n⟩
    | ct ρ4=>exact fun d b H' s' f=>⟨ρ4,b,fun a o z=>s' a o (p.ff a o (s2 a o z)),f,n⟩
    | bk ρ4=>exact fun d b H' s' f=>Rk.ok n d b H' (fun a o z=>s' a o (I a o z)) f
    | rt a=>exact fun v b H' z r=>Rk.ok n v b H' z r
 .have e:i=xs.length:=by omega
  subst e
  rw[GS] at k2
  exact .inl ⟨x.stop F2 H2 s2 ab2.fh jU,Rk.ok k2 l F2 H2 (fun a o z=>s2 a o (s1.ff a o z)) ab2⟩
end
noncomputable def cL(t:Sg->R Bool)(b:Sg->R Fw):Nat->Sg->R Fw
 | 0,_=>.bad
 | n+1,ρ=>(t ρ).bind fun k=>if k=true then (b ρ).bind fun w=>match w with
   | .nx ρ'=>cL t b n ρ'
   | .ct ρ'=>cL t b n ρ'
   | .bk ρ'=>.ok (.nx ρ')
   | .rt a=>.ok (.rt a)
  else .ok (.nx ρ)
open Classical in
noncomputable def cN(t:Sg->R Bool)(b:Sg->R Fw):Sg->R Fw:=fun ρ=>if h:∃ n,cL t b n ρ≠.bad then cL t b h.choose ρ else .bad
theorem R.bind_mono{α β:Type}{r:R α}{f g:α->R β}(h:r.bind f≠.bad)(b:∀ a,f a≠.bad->g a=f a):r.bind g=r.bind f:=by
 cases r with
 | bad=>rfl
 | ex e=>rfl
 | ok a=>exact b a h
theorem lA{t:Sg->R Bool}{b:Sg->R Fw}:∀ {n m:Nat} {ρ:Sg},n<=m->cL t b n ρ≠.bad->cL t b m ρ=cL t b n ρ
 | 0,_,_,_,h=>absurd rfl h
 | n+1,0,_,hm,_=>absurd hm (by omega)
 | n+1,m+1,ρ,hm,h=>by
  unfold cL at h ⊢
  refine R.bind_mono h fun k hk=>?_
  cases k with
  | false=>rfl
  | true=>
   refine R.bind_mono (r:=b ρ) hk fun w c=>?_
   cases w with
   | nx ρ'=>exact lA (by omega) c
   | ct ρ'=>exact lA (by omega) c
   | bk ρ'=>rfl
   | rt a=>rfl
theorem pZ{t:Sg->R Bool}{b:Sg->R Fw}{ρ:Sg}{n:Nat}(h:cL t b n ρ≠.bad):cN t b ρ=cL t b n ρ:=by
 have a:∃ n,cL t b n ρ≠.bad:=⟨n,h⟩
 unfold cN
 rw[dif_pos a]
 have c:=a.choose_spec
 rcases Nat.le_total n a.choose with q|q
 · exact lA q h
 · exact (lA q c).symm
theorem p5 (t : Sg -> R Bool) (b : Sg -> R Fw) (ρ : Sg) : cN t b ρ = (t ρ).bind fun k => if k = true then (b ρ).bind fun w => match w with
      | .nx ρ' => cN t b ρ'
      | .ct ρ' => cN t b ρ'
      | .bk ρ' => .ok (.nx ρ')
      | .rt a => .ok (.rt a)
    else .ok (.nx ρ) := by
  have l : ∀ n, (∀ k, t ρ = .ok k -> k = true -> ∀ w, b ρ = .ok w -> ∀ ρ', (w = .nx ρ' \/ w = .ct ρ') -> cN t b ρ' = cL t b n ρ') -> cL t b (n + 1) ρ = (t ρ).bind fun k => if k = true then (b ρ).bind fun w => match w with
      | .nx ρ' => cN t b ρ'
      | .ct ρ' => cN t b ρ'
      | .bk ρ' => .ok (.nx ρ')
      | .rt a => .ok (.rt a)
    else .ok (.nx ρ) := by
    intro n h
    unfold cL
    cases d : t ρ with
    | bad => rfl
    | ex e => rfl
    | ok k =>
      cases k with
      | false => rfl
      | true =>
        show ((b ρ).bind _) = ((b ρ).bind _)
        cases f : b ρ with
        | bad => rfl
        | ex e => rfl
        | ok w =>
          cases w with
          | nx ρ' => exact (h true d rfl _ f ρ' (.inl rfl)).symm
          | ct ρ' => exact (h true d rfl _ f ρ' (.inr rfl)).symm
          | bk ρ' => rfl
          | rt a => rfl
  by_cases m : ∃ n, cL t b n ρ ≠ .bad
  · obtain ⟨n, i⟩ := m
    cases n with
    | zero => exact absurd rfl i
    | succ n =>
      rw [pZ i]
      refine l n fun k d o w f ρ' j => ?_
      subst o
      refine pZ fun z => i ?_
      unfold cL
      rw [d]
      show ((b ρ).bind _) = _
      rw [f]
      rcases j with rfl | rfl
      · exact z
      · exact z
  · have p : cN t b ρ = .bad := by unfold cN; rw [dif_neg m]
    rw [p]
    have c : ∀ n, cL t b n ρ = .bad := fun n => GI fun z => m ⟨n, z⟩
    cases d : t ρ with
    | bad => rfl
    | ex e => have := c 1; unfold cL at this; rw [d] at this; cases this
    | ok k =>
      cases k with
      | false => have := c 1; unfold cL at this; rw [d] at this; cases this
      | true =>
        show R.bad = ((b ρ).bind _)
        cases f : b ρ with
        | bad => rfl
        | ex e => have := c 1; unfold cL at this; rw [d] at this; change ((b ρ).bind _) = _ at this; rw [f] at this; cases this
        | ok w =>
          have g : ∀ ρ', (w = .nx ρ' \/ w = .ct ρ') -> cN t b ρ' = .bad := fun ρ' j => by
            unfold cN
            rw [dif_neg]
            rintro ⟨n, i⟩
            refine i ?_
            have := c (n + 1)
            unfold cL at this
            rw [d] at this
            change ((b ρ).bind _) = _ at this
            rw [f] at this
            rcases j with rfl | rfl <;> exact this
          cases w with
          | nx ρ' => exact (g ρ' (.inl rfl)).symm
          | ct ρ' => exact (g ρ' (.inr rfl)).symm
          | bk ρ' => have := c 1; unfold cL at this; rw [d] at this; change ((b ρ).bind _) = _ at this; rw [f] at this; cases this
          | rt a => have := c 1; unfold cL at this; rw [d] at this; change ((b ρ).bind _) = _ at this; rw [f] at this; cases this
section
variable{X:Cx}{c:Ct}{E:XK}{st:Stmt}
theorem l9{t:Sg->R Bool}{fb:Sg->R Fw}(h:PS X st (aEK (tTf c E t) (tSf c E fb))):PSf X c E st (cN t fb):=PS.imp h fun D σ H x=>by
 obtain ⟨ρ,F,ab,k⟩:=x
 have A:∃ n,cL t fb n ρ≠.bad:=GI fun z=>by
  have:cN t fb ρ=.bad:=by unfold cN;rw[dif_neg z]
  rw[this] at k
  exact k
 obtain ⟨n,y⟩:=A
 rw[pZ y] at k
 refine ⟨fun m σ H=>∃ ρ' d,aJ F d/\Ab c ρ' σ d H/\Rk c E d H (cL t fb m ρ') (iE c F D),⟨n,ρ,F,cB F,ab,k⟩,?_⟩
 rintro m p H1 ⟨ρ1,F1,s1,ab1,k1⟩
 cases m with
 | zero=>exact k1.elim
 | succ m=>
  unfold cL at k1
  refine ⟨ρ1,F1,ab1,(Rk.bind k1).imp fun b _ q u H2 e2=>?_⟩
  have j:=ab1.ext e2
  cases b with
  | false=>exact yA (Rk.ok q p u H2 (fun a o z=>e2.ff a o (s1 a o z)) j)
  | true=>
   refine yB ⟨fun f H'=>∃ ρ' d,aJ F d/\Ab c ρ' f d H'/\Rk c E d H' (cL t fb m ρ') (iE c F D),fun f H' w=>⟨m,by omega,w⟩,ρ1,u,j,?_⟩
   have i:Rk c E F1 H1 (fb ρ1) _:=Rk.bind (r:=fb ρ1) q
   cases h2:fb ρ1 with
   | bad=>rw[h2] at i;exact i.elim
   | ex e=>rw[h2] at i;exact i
   | ok w=>
    rw[h2] at i
    have l:=Rk.ok i
    have s:aJ F u:=fun a o z=>e2.ff a o (s1 a o z)
    cases w with
    | nx ρ4=>exact fun f d H' s' g=>⟨ρ4,d,fun a o z=>s' a o (s a o z),g,l⟩
    | ct ρ4=>exact fun f d H' s' g=>⟨ρ4,d,fun a o z=>s' a o (s a o z),g,l⟩
    | bk ρ4=>exact fun f d H' s' g=>Rk.ok l f d H' (fun a o z=>s' a o (s a o z)) g
    | rt a=>exact fun v d H' z r=>Rk.ok l v d H' z r
end
def spG(K:Frag)(mg:Str->O6 V9)(T F1:Hp)(n:Nat)(G:List Dz->R Dz):Sp:=fun vs H Q E=>∃ F ds,aJ F1 F/\aJ T F/\aJ F H/\DatVs K F vs ds/\ds.length=n/\match G ds with
 | .bad=>False
 | .ok d=>∀ v F' H',Ext F H F' H'->DatV K F' v d->Q v H'
 | .ex e=>∀ a C F' H',Ext F H F' H'->nQ K mg F' e a C->E (.ref C) (some a) H'
def Beh(P:P9)(w:W9)(K:Frag)(mg:Str->O6 V9)(base:Hz)(T:Hp)(f:Az)(F1:Hp)(k n:Nat)(G:List Dz->R Dz):Prop:=
 ∃ fd ps,ps.length=n/\cV K fd ps []/\FnOk P w K mg base (CXe P w) k f fd ps (spG K mg T F1 n G)/\(PySem.W.keepIn K (.ref f)=true\/∃ oc od fd' sl,F1 f=some (FnO f ⟨oc,od,.func fd',sl⟩))
def gOf(P:P9)(w:W9)(K:Frag)(mg:Str->O6 V9)(base:Hz)(T:Hp):Gb:=⟨Beh P w K mg base T,T,w⟩
def spF(g:Gb)(K:Frag)(mg:Str->O6 V9)(n:Nat)(G:List A->R A):Sp:=fun vs H Q E=>∃ F as,aJ g.T F/\aJ F H/\AFs g K mg F as vs/\as.length=n/\match G as with
 | .bad=>False
 | .ok a=>∀ v F' H',Ext F H F' H'->AF g K mg F' a v->Q v H'
 | .ex e=>∀ a C F' H',Ext F H F' H'->nQ K mg F' e a C->E (.ref C) (some a) H'
def aY(P:P9)(w:W9)(K:Frag)(mg:Str->O6 V9)(base:Hz)(T:Hp)(k:Nat)(x:Str)(ps:List Str)(G:List A->R A):Prop:=Calls P w K mg base (CXe P w) k x ps (spF (gOf P w K mg base T) K mg ps.length G)
def bG(n:Nat)(G:List A->R A)(f:Sg->R (List A)):Sg->R A:=fun ρ=>(f ρ).bind fun as=>if as.length=n then G as else .bad
theorem bV{X:Cx}{c:Ct}{E:XK}{e:Ez}{n:Nat}{G:List A->R A}{g:Gb}{K:Frag}{mg:Str->O6 V9}{f:Sg->R (List A)}(p:g=c.g)(m:K=c.K)(t:mg=c.mg)(h:PE X e (aCY (spF g K mg n G) [] E (tAv c E f))):PV X c E e (bG n G f):=PE.imp h fun σ H Q j=>by
 obtain ⟨ρ,F,ab,k⟩:=j
 subst p m t
 refine ⟨ρ,F,ab,(Rk.bind k).imp fun d _ q vs u H1 s1 w=>?_⟩
 by_cases l:d.length=n
 .rw[AE l] at q
  refine ⟨u,d,fun a o z=>s1.ff a o (ab.f0 a o (ab.t0 a o z)),s1.fh,by rw[CH];exact w,l,?_⟩
  cases i:G d with
  | bad=>rw[i] at q;exact q
  | ok a=>rw[i] at q;exact fun v b H' s r=>Rk.ok q v b H' (s1.trans s) r
  | ex e=>rw[i] at q;exact fun a C b H' s r=>q a C b H' ((ab.all.trans s1).trans s) r
 .rw[AI l] at q;exact q.elim
def fnF(n:Nat)(fb:Sg->R Fw):List A->R A:=fun as=>(fb (as.map some++List.replicate (n - as.length) none)).bind fun w=>match w with
 | .rt (.l _)=>.bad
 | .rt a=>.ok a
 | .nx _=>.ok (.d .none)
 | _=>.bad
theorem AFs.get{g:Gb}{K:Frag}{mg:Str->O6 V9}{F:Hp}:∀ {as:List A} {vs:List V} {i:Nat} {a:A},AFs g K mg F as vs->as[i]? = some a->∃ v,vs[i]? = some v/\AF g K mg F a v
 | [],[],_,_,_,h=>by simp at h
 | a::as,v::vs,0,_,h,e=>by simp at e;subst e;exact ⟨v,rfl,h.1⟩
 | a::as,v::vs,i+1,_,h,e=>by
  obtain ⟨w,h1,h2⟩:=AFs.get (i:=i) h.2 (by simpa using e)
  exact ⟨w,by simpa using h1,h2⟩
theorem p6{α:Type}{c:List α}{n i:Nat}{a:α}(h:(c.map some++List.replicate n none)[i]? = some (some a)):c[i]? = some a:=by
 by_cases hi:i < c.length
 .rw[BK (by rw[AD];exact hi),A0] at h
  cases e:c[i]? with
  | none=>rw[e] at h;cases h
  | some b=>rw[e] at h;cases h;rfl
 .rw[CA (by rw[AD];omega),CU] at h
  split at h
  · cases h
  · cases h
theorem zD{g:Gb}{cells:List (Str×Az)}{cls:Str->O6 ClSt}{K:Frag}{mg:Str->O6 V9}{w:W9}{F H:Hp}{c:List A}{vs:List V}{n:Nat}(d:aJ g.T F)(s:aJ F H)(h:AFs g K mg F c vs):Ab ⟨K,mg,w,F,H,g,cells,cls⟩ (c.map some++List.replicate (n - c.length) none) (vs.map some++List.replicate (n - vs.length) none) F H where
 len:=by rw[AU,AU,AD,AD,BL,BL,h.len]
 fh:=s
 slot:=fun i a e=>by
  obtain ⟨v,h1,h2⟩:=h.get (p6 e)
  refine ⟨v,?_,AO.of h2⟩
  have hi:i < vs.length:=(AS.mp h1).1
  rw[BK (by rw[AD];exact hi),A0,h1];rfl
 apart:=fun i j a b _ e1 _ o _=>by
  obtain ⟨v,h1,h2⟩:=h.get (p6 e1)
  rw[AF.notOwn h2] at o
  cases o
 f0:=cB F
 h0:=cB H
 n0:=fun a e n=>absurd e n
 t0:=d
theorem rF{g:Gb}{cells:List (Str×Az)}{cls:Str->O6 ClSt}{K:Frag}{mg:Str->O6 V9}{w:W9}{n:Nat}{fb:Sg->R Fw}{vs:List V}{c:List A}{F H:Hp}{Q:VK}{E:XK}(h0:aJ g.T F)(h1:aJ F H)(h2:AFs g K mg F c vs)(b:match fnF n fb c with
 | .bad=>False
 | .ok a=>∀ v F' H',Ext F H F' H'->AF g K mg F' a v->Q v H'
 | .ex e=>∀ a C F' H',Ext F H F' H'->nQ K mg F' e a C->E (.ref C) (some a) H'):tSf ⟨K,mg,w,F,H,g,cells,cls⟩ E fb {nx:=fun _ H'=>Q .non H',rt:=Q} (vs.map some++List.replicate (n - vs.length) none) H:=by
 refine ⟨_,F,zD h0 h1 h2,?_⟩
 unfold fnF at b
 cases e:fb (c.map some++List.replicate (n - c.length) none) with
 | bad=>rw[e] at b;exact b
 | ex x=>rw[e] at b;exact b
 | ok w=>
  rw[e] at b
  cases w with
  | nx ρ'=>exact fun d F' H' s ab=>b .non F' H' ab.all .non
  | rt a=>
   cases a with
   | l xs=>exact b.elim
   | _=>exact b
  | bk ρ'=>exact b.elim
  | ct ρ'=>exact b.elim
section
variable{P:P9}{w:W9}{K:Frag}{mg:Str->O6 V9}{base:Hz}{T:Hp}{x:Str}{st:Stmt}{N ps:List Str}{k:Nat}
theorem cY{fb:Sg->R Fw}(D:DefAt K mg x st ps)(S:FnScope N ps (aE st))
  (a:∀ (f:Az) (cdv:V9) (A:U9) (outer:List Env) (s:S9) (H F:Hp) (E:XK),Room k (A.deeper (envOfC x (aE st) s.heap.objs.size f cdv))->
   lQ ((eW (CXe P w) P w K mg base N x (aE st) f cdv A outer s H E).fly E) ⟨K,mg,w,F,H,gOf P w K mg base T,(envOfC x (aE st) s.heap.objs.size f cdv).cells,fun _=>none⟩ E (bY st) fb):aY P w K mg base T (k+1) x ps (fnF N.length fb):=by
 refine D.okX S (fun vs H Q E h=>?_) (fun f cdv A outer s H vs Q E e h=>?_)
 .obtain ⟨F,c,_,_,h2,b,_⟩:=h
  rw[h2.len,b]
 .obtain ⟨F,c,g,h1,h2,b,d⟩:=h
  exact ⟨_,a f cdv A outer s H F E e,rF g h1 h2 d⟩
theorem aY.imp{G b:List A->R A}(C:aY P w K mg base T k x ps G)(h:∀ as,b as≠.bad->G as=b as):aY P w K mg base T k x ps b:=Calls.imp C fun vs H Q E=>by
 rintro ⟨F,as,h0,h1,h2,h3,h4⟩
 refine ⟨F,as,h0,h1,h2,h3,?_⟩
 cases e:b as with
 | bad=>rw[e] at h4;exact h4.elim
 | ok a=>rw[h as (by rw[e];exact fun z=>nomatch z),e];rw[e] at h4;exact h4
 | ex x=>rw[h as (by rw[e];exact fun z=>nomatch z),e];rw[e] at h4;exact h4
end
def t4(cn:Str)(fs:List Str)(f:Sg->R (List Dz)):Sg->R Fw:=fun ρ=>(f ρ).bind fun xs=>if xs.length=fs.length then .ex ⟨cn,fs.zip xs⟩ else .bad
theorem oB{α β:Type}:∀ {xs:List α} {ys:List β},ys.length=xs.length->(xs.zip ys).map (·.1)=xs
 | [],_,_=>by simp
 | x::xs,[],h=>by simp at h
 | x::xs,y::ys,h=>by simp at h;simp[oB h]
theorem oC{α β:Type}:∀ {xs:List α} {ys:List β},ys.length=xs.length->(xs.zip ys).map (·.2)=ys
 | [],[],_=>by simp
 | [],_::_,h=>by simp at h
 | x::xs,[],h=>by simp at h
 | x::xs,y::ys,h=>by simp at h;simp[oC h]
theorem sL{X:Cx}{c:Ct}{E:XK}{st:Stmt}{cn:Str}{C:Az}{fs:List Str}{f:Sg->R (List Dz)}(hm:c.mg cn=some (.ref C))(r:fs.length<=1000)(h:PS X st (yH C (spI C fs) E (tAd c E f))):PSf X c E st (t4 cn fs f):=PS.imp h fun D σ H l=>by
 obtain ⟨ρ,F,ab,k⟩:=l
 refine ⟨ρ,F,ab,(Rk.bind k).imp fun xs _ q vs j H1 s1 n=>?_⟩
 by_cases a:xs.length=fs.length
 .rw[AE a] at q
  have g:vs.length=fs.length:=by rw[n.length,a]
  refine aC6 g (by rw[g];exact r) fun e d o p b=>?_
  have i:Ext j H1 (upd j e (ExO e C (some d))) (upd H1 e (ExO e C (some d))):=Ext.new s1.fh o
  have m:Ext _ _ (upd (upd j e (ExO e C (some d))) d (.xd (fs.zip vs))) (upd (upd H1 e (ExO e C (some d))) d (.xd (fs.zip vs))):=Ext.new i.fh (by rw[aF b];exact p)
  refine q e C _ _ ((ab.all.trans s1).trans (i.trans m)) ⟨hm,some d,?_,.inr ⟨d,fs.zip vs,rfl,aQ,?_,?_⟩⟩
  .rw[aF (BG b),aQ]
  .show _=(fs.zip xs).map (·.1)
   rw[oB g,oB a]
  .show DatVs _ _ _ ((fs.zip xs).map (·.2))
   rw[oC g,oC a]
   exact n.same (i.trans m).ff
 .rw[AI a] at q;exact q.elim
def tPf(c:Ct)(E:XK)(f:Sg->R (O6 Int)):TO:=fun σ H Q=>∃ ρ F,Ab c ρ σ F H/\Rk c E F H (f ρ) fun o=>∀ F' H',Ext F H F' H'->Q o H'
noncomputable def oNo:Sg->R (O6 Int):=fun _=>.ok none
def oSo(f:Sg->R Dz):Sg->R (O6 Int):=fun ρ=>(f ρ).bind fun x=>match x with
 | .int i=>.ok (some i)
 | _=>.bad
noncomputable def mJ{α:Type}(xs:List α)(lo hi:O6 Int):List α:=(xs.drop (HT.sIx xs.length 0 lo)).take (HT.sIx xs.length xs.length hi - HT.sIx xs.length 0 lo)
noncomputable def dSl:Dz->O6 Int->O6 Int->R Dz
 | .list xs,lo,hi=>.ok (.list (mJ xs lo hi))
 | .tuple xs,lo,hi=>if ¬ (HT.sIx xs.length 0 lo=0/\HT.sIx xs.length xs.length hi=xs.length) then .ok (.tuple (mJ xs lo hi)) else .bad
 | .str z,lo,hi=>if z.length<=16777216 then .ok (.str (Txt.slice z lo hi)) else .bad
 | _,_,_=>.bad
def eSl{α:Type}(g:Dz->O6 Int->O6 Int->R α)(f:Sg->R Dz)(lo hi:Sg->R (O6 Int)):Sg->R α:=fun ρ=>(f ρ).bind fun x=>(lo ρ).bind fun l=>(hi ρ).bind fun h=>g x l h
theorem zE{K:Frag}{F:Hp}{vs:List V}{xs:List Dz}(h:DatVs K F vs xs)(lo hi:O6 Int):DatVs K F (pV vs lo hi) (mJ xs lo hi):=by
 unfold pV mJ
 rw[h.length]
 exact (h.drop _).take _
theorem PO.imp{X:Cx}{e:O6 Ez}{t t':TO}(h:PO X e t)(i:∀ σ H Q,t' σ H Q->t σ H Q):PO X e t':=fun pins s σ H Q I q=>h pins s σ H Q I (i σ H Q q)
section
variable{X:Cx}{c:Ct}{E:XK}{e a b:Ez}{pos p2:Pos}{lo hi:O6 Ez}
theorem rG:PO X none (tPf c E oNo):=PO.imp aJZ fun σ H Q ⟨ρ,F,ab,k⟩=>Rk.ok k F H (Ext.refl ab.fh)
theorem lB{f:Sg->R Dz}(h:PR X c E e f):PO X (some e) (tPf c E (oSo f)):=PO.imp (aJ0 h) fun σ H Q ⟨ρ,F,ab,k⟩=>⟨ρ,F,ab,(Rk.bind k).imp fun x _ q v a H' s r=>by
 cases x with
 | int i=>exact ⟨i,aW.int_of r,Rk.ok q a H' s⟩
 | _=>exact q.elim⟩
def aNB(c:Ct){α:Type}(Rb:VR α)(g:Dz->O6 Int->O6 Int->R α):V->O6 Int->O6 Int->Hp->VK->Prop:=fun v lo hi H Q=>∃ F x d,aJ F H/\aW c.K F H v x/\g x lo hi=.ok d/\∀ w F' H',Ext F H F' H'->Rb d w H F' H'->Q w H'
theorem aOZ(r:X.K=c.K):SlR X (aNB c (cK c) dSl):=by
 intro pins s σ H v x g f lo hi k Q I n o j m h
 obtain ⟨F,d,w,b,i,a,q⟩:=h
 unfold dSl at a
 split at a
 .cases a
  obtain ⟨p,vs,rfl,h1,h2⟩:=aW.lst_of b i
  rw[<-r] at h1
  exact aJ1 pins s σ H _ x g f lo hi k Q I n o j m ⟨p,vs,rfl,h1,fun l e=>q _ _ _ (Ext.new b e) (.lst (SqL.of aQ) ((zE h2 lo hi).same (aJ.upd (bK b e))))⟩
 .rename_i xs _ _
  split at a
  .rename_i u
   cases a
   obtain ⟨p,vs,rfl,_,h1,h2⟩:=aW.tup_of b i
   rw[<-r] at h1
   exact aML pins s σ H _ x g f lo hi k Q I n o j m ⟨p,vs,rfl,h1,by rw[h2.length];exact u,fun l e=>q _ _ _ (Ext.new b e) (.tup (SqT.of aQ) ((zE h2 lo hi).same (aJ.upd (bK b e))))⟩
  .cases a
 .split at a
  .rename_i t
   cases a
   obtain rfl:=aW.str_of i
   exact aMU pins s σ H _ x g f lo hi k Q I n o j m ⟨_,rfl,by rw[dB];exact t,q _ F H (Ext.refl b) (.str _)⟩
  .cases a
 .cases a
theorem aKS{α:Type}{Rb:VR α}{g:Dz->O6 Int->O6 Int->R α}(u:∀ x l h e,g x l h≠.ex e)(p:aDJ Rb){f:Sg->R Dz}{m fh:Sg->R (O6 Int)}{σ:L2.St}{H:Hp}{Q:VK}(h:tV Rb c E (eSl g f m fh) σ H Q) :
  tSl (aNB c Rb g) (tV (bD c) c E f) (tPf c E m) (tPf c E fh) σ H Q:=by
 obtain ⟨ρ,F,ab,k⟩:=h
 refine ⟨ρ,F,ab,(Rk.bind k).imp fun x _ q v z H1 s1 t=>⟨ρ,z,ab.ext s1,((Rk.bind q).ext s1).imp fun l _ q y H2 b=>⟨ρ,y,ab.ext (s1.trans b),((Rk.bind q).ext (s1.trans b)).imp fun hh _ q o H3 j=>?_⟩⟩⟩
 cases i:g x l hh with
 | bad=>rw[i] at q;exact q.elim
 | ex e=>exact absurd i (u x l hh e)
 | ok d=>
  rw[i] at q
  have a:=(s1.trans b).trans j
  exact ⟨o,x,d,j.fh,aW.ext (b.trans j) t,i,fun w n H' s r=>Rk.ok q w n H' (a.trans s) (p _ _ _ _ _ _ a.hh r)⟩
theorem aHU:∀ x l h e,dSl x l h≠.ex e:=by intro x l h e q;unfold dSl at q;split at q<;>(try split at q)<;>cases q
theorem oZ{f:Sg->R Dz}{a fh:Sg->R (O6 Int)}(b:X.K=c.K)(i:PR X c E e f)(g:PO X lo (tPf c E a))(d:PO X hi (tPf c E fh)):PD X c E (.Subscript e (.Slice lo hi none p2) pos) (eSl dSl f a fh):=
 PE.imp (aG3 (aOZ b) i g d) fun σ H Q h=>aKS aHU (j4 c) h
noncomputable def tyN:Dz->String
 | .none=>"NoneType"
 | .bool _=>"bool"
 | .int _=>"int"
 | .str _=>"str"
 | .list _=>"list"
 | .tuple _=>"tuple"
 | .dict _=>"dict"
noncomputable def iG(t T:String):Bool:=t == T || (T == "int" && t == "bool")
noncomputable def fW(T:String)(x:Dz):R Dz:=match x with
 | .dict _=>.bad
 | x=>.ok (.bool (iG (tyN x) T))
structure Kit(K:Frag)(T:String):Prop where
 non:PySem.W.kitOne K (.type "NoneType") (.type T)=some (iG "NoneType" T)
 bl:PySem.W.kitOne K (.type "bool") (.type T)=some (iG "bool" T)
 int:PySem.W.kitOne K (.type "int") (.type T)=some (iG "int" T)
 str:PySem.W.kitOne K (.type "str") (.type T)=some (iG "str" T)
 lst:PySem.W.kitOne K (.type "list") (.type T)=some (iG "list" T)
 tup:PySem.W.kitOne K (.type "tuple") (.type T)=some (iG "tuple" T)
theorem aKT(K:Frag):Kit K "int":=⟨rfl,rfl,rfl,rfl,rfl,rfl⟩
theorem zF(K:Frag):Kit K "bool":=⟨rfl,rfl,rfl,rfl,rfl,rfl⟩
theorem aBV(K:Frag):Kit K "str":=⟨rfl,rfl,rfl,rfl,rfl,rfl⟩
theorem wT(K:Frag):Kit K "tuple":=⟨rfl,rfl,rfl,rfl,rfl,rfl⟩
theorem aHV{X:Cx}:i9 X (.builtin "isinstance") (fun xs H Q=>∃ a ys c cv b,xs=[.ref a,c]/\SqL X.K H a ys/\u9 c=some cv/\PySem.W.kitOne X.K (.type "list") cv=some b/\Q (.bl b) H):=by
 intro pins s σ H xs us Q I r h
 obtain ⟨a,ys,c,cv,b,rfl,k,f,e,q⟩:=h
 obtain ⟨u,v,rfl,j,i⟩:=tH r
 obtain rfl:=q9 f i
 cases (show u=Value.ref a from j)
 obtain ⟨g,_,d,_⟩:=I.list k
 obtain ⟨o,h1,h2,_⟩:=d.isList
 exact B4 FZ I.kIn ⟨o,h1,h2⟩ e (fun z=>nomatch z) fun tk=>⟨.bl b,H,I.tok _,rfl,q⟩
def aHW(c:Ct)(T:String):List V->Hp->VK->Prop:=fun xs H Q=>∃ F x v d,xs=[v,.ty T]/\aJ F H/\aW c.K F H v x/\fW T x=.ok d/\∀ w F' H',Ext F H F' H'->DatV c.K F' w d->Q w H'
theorem jH(g:X.K=c.K){T:String}(k:Kit X.K T):i9 X (.builtin "isinstance") (aHW c T):=by
 intro pins s σ H xs us Q I r h
 obtain ⟨F,x,v,d,rfl,a,f,e,q⟩:=h
 cases x with
 | dict _=>cases e
 | none=>
  cases e
  obtain rfl:=aW.non_of f
  exact k7 pins s σ H _ us Q I r ⟨_,_,_,_,_,rfl,.pl .non,rfl,k.non,q _ F H (Ext.refl a) (.bl _)⟩
 | bool b=>
  cases e
  obtain rfl:=aW.bl_of f
  exact k7 pins s σ H _ us Q I r ⟨_,_,_,_,_,rfl,.pl (.bl b),rfl,k.bl,q _ F H (Ext.refl a) (.bl _)⟩
 | int b=>
  cases e
  obtain rfl:=aW.int_of f
  exact k7 pins s σ H _ us Q I r ⟨_,_,_,_,_,rfl,.pl (.int b),rfl,k.int,q _ F H (Ext.refl a) (.bl _)⟩
 | str b=>
  cases e
  obtain rfl:=aW.str_of f
  exact k7 pins s σ H _ us Q I r ⟨_,_,_,_,_,rfl,.pl (.str b),rfl,k.str,q _ F H (Ext.refl a) (.bl _)⟩
 | tuple xs=>
  cases e
  obtain ⟨p,vs,rfl,_,h1,h2⟩:=aW.tup_of a f
  rw[<-g] at h1
  exact yJ pins s σ H _ us Q I r ⟨p,vs,_,_,_,rfl,h1,rfl,k.tup,q _ F H (Ext.refl a) (.bl _)⟩
 | list xs=>
  cases e
  obtain ⟨p,vs,rfl,h1,h2⟩:=aW.lst_of a f
  rw[<-g] at h1
  exact aHV pins s σ H _ us Q I r ⟨p,vs,_,_,_,rfl,h1,rfl,k.lst,q _ F H (Ext.refl a) (.bl _)⟩
theorem mK{T:String}{f:Sg->R Dz}(h:PE X e (tCB (aHW c T) (dN (tV (bD c) c E f) (dN (tC (.ty T)) f7)))):PD X c E e (e1 (fW T) f):=PE.imp h fun σ H Q g=>by
 obtain ⟨ρ,F,ab,k⟩:=g
 refine ⟨ρ,F,ab,(Rk.bind k).imp fun x _ q v b H1 s1 d=>?_⟩
 show aHW c T [v,.ty T] H1 Q
 cases x with
 | dict _=>exact q.elim
 | none=>exact ⟨b,_,v,_,rfl,s1.fh,d,rfl,fun w a H' s r=>Rk.ok q w a H' (s1.trans s) r⟩
 | bool _=>exact ⟨b,_,v,_,rfl,s1.fh,d,rfl,fun w a H' s r=>Rk.ok q w a H' (s1.trans s) r⟩
 | int _=>exact ⟨b,_,v,_,rfl,s1.fh,d,rfl,fun w a H' s r=>Rk.ok q w a H' (s1.trans s) r⟩
 | str _=>exact ⟨b,_,v,_,rfl,s1.fh,d,rfl,fun w a H' s r=>Rk.ok q w a H' (s1.trans s) r⟩
 | list _=>exact ⟨b,_,v,_,rfl,s1.fh,d,rfl,fun w a H' s r=>Rk.ok q w a H' (s1.trans s) r⟩
 | tuple _=>exact ⟨b,_,v,_,rfl,s1.fh,d,rfl,fun w a H' s r=>Rk.ok q w a H' (s1.trans s) r⟩
noncomputable def o0:List Dz->O6 (List Str)
 | []=>some []
 | .str s::t=>(o0 t).map (s :: ·)
 | _=>none
theorem nZ{K:Frag}{F:Hp}:∀ {vs:List V} {xs:List Dz} {ys:List Str},DatVs K F vs xs->o0 xs=some ys->vs=ys.map V.str
 | _,_,ys,.nil,e=>by cases e;rfl
 | _,_,ys,.cons (d:=d) (ds:=t) h h2,e=>by
  cases d with
  | str b=>
   unfold o0 at e
   cases q:o0 t with
   | none=>rw[q] at e;cases e
   | some cs=>
    rw[q] at e
    cases e
    rw[nZ h2 q,h.str_of];rfl
  | _=>cases e
noncomputable def xW:Dz->Dz->R Dz
 | .str sep,.list xs=>match o0 xs with
  | some ys=>if (ys.map fun y=>y.length).sum+ys.length * sep.length<=16777216 then .ok (.str (Txt.join sep ys)) else .bad
  | none=>.bad
 | _,_=>.bad
theorem aKU{f g:Sg->R Dz}(i:X.K=c.K)(h:PE X e (tBM X.K "str" (aI6 X.K) (tV (bD c) c E f) (dN (tV (bD c) c E g) f7)))(r:∀ ρ x,f ρ=.ok x->∃ z,x=.str z):PD X c E e (e2 xW f g):=PE.imp h fun σ H Q ⟨ρ,F,ab,k⟩=>by
 refine ⟨ρ,F,ab,(Rk.bind k).imp fun x ex q v m H1 s1 s=>?_⟩
 obtain ⟨z,rfl⟩:=r ρ x ex
 obtain rfl:=aW.str_of s
 refine ⟨rfl,ρ,m,ab.ext s1,((Rk.bind q).ext s1).imp fun y _ q u l H2 b n=>?_⟩
 cases y with
 | list xs=>
  have a:Rk c E F H (match o0 xs with
   | some ys=>if (ys.map fun y=>y.length).sum+ys.length * z.length<=16777216 then R.ok (PyData.str (Txt.join z ys)) else .bad
   | none=>.bad) (fun d=>∀ v F' H',Ext F H F' H'->cK c d v H F' H'->Q v H'):=q
  split at a
  .rename_i ys o
   split at a
   .rename_i j
    obtain ⟨p,vs,rfl,h1,h2⟩:=aW.lst_of b.fh n
    rw[<-i] at h1
    obtain rfl:=nZ h2 o
    exact ⟨z,p,ys,rfl,rfl,h1,j,Rk.ok a _ l H2 (s1.trans b) (.str _)⟩
   .exact a.elim
  .exact a.elim
 | _=>exact q.elim
noncomputable def p7:Dz->Dz->R Dz
 | .str z,.str y=>match Builtin.Str.occurrences z y 0 z.length 1 with
  | i::_=>.ok (.int i)
  | []=>.bad
 | _,_=>.bad
theorem zG{f g:Sg->R Dz}(h:PE X e (tBM X.K "str" aE8 (tV (bD c) c E f) (dN (tV (bD c) c E g) f7)))(o:∀ ρ x,f ρ=.ok x->∃ z,x=.str z):PD X c E e (e2 p7 f g):=PE.imp h fun σ H Q ⟨ρ,F,ab,k⟩=>by
 refine ⟨ρ,F,ab,(Rk.bind k).imp fun x ex q v j H1 s1 p=>?_⟩
 obtain ⟨z,rfl⟩:=o ρ x ex
 obtain rfl:=aW.str_of p
 refine ⟨rfl,ρ,j,ab.ext s1,((Rk.bind q).ext s1).imp fun y _ q u b H2 n l=>?_⟩
 cases y with
 | str y=>
  have a:Rk c E F H (match Builtin.Str.occurrences z y 0 z.length 1 with
   | i::_=>R.ok (PyData.int i)
   | []=>.bad) (fun d=>∀ v F' H',Ext F H F' H'->cK c d v H F' H'->Q v H'):=q
  split at a
  .rename_i i rest m
   obtain rfl:=aW.str_of l
   exact ⟨z,y,i,rest,rfl,rfl,m,Rk.ok a _ b H2 (s1.trans n) (.int _)⟩
  .exact a.elim
 | _=>exact q.elim
noncomputable def jI:Nat->List Dz->List Dz
 | _,[]=>[]
 | i,x::t=>.tuple [.int i,x]::jI (i+1) t
theorem jJ:∀ (i:Nat) (xs:List Dz),(jI i xs).length=xs.length
 | _,[]=>rfl
 | i,x::t=>by rw[jI,AL,AL,jJ]
theorem sO:∀ (k i:Nat) (xs:List Dz),(jI k xs)[i]? = (xs[i]?).map fun x=>.tuple [.int ((k+i:Nat):Int),x]
 | k,i,[]=>by simp[jI]
 | k,0,x::t=>by simp[jI]
 | k,i+1,x::t=>by rw[jI,AQ,AQ,sO,show k+1+i=k+(i+1) by omega]
noncomputable def xX:Dz->R (List Dz)
 | .list xs=>if xs.length<=16777216 then .ok (jI 0 xs) else .bad
 | .str z=>if z.cps.toList.length<=16777216 then .ok (jI 0 (z.cps.toList.map fun u=>.str ⟨#[u]⟩)) else .bad
 | _=>.bad
theorem aHX{K:Frag}{F B:Hp}{a:Az}{vs:List V}{xs:List Dz}(j:xs.length<=16777216)(c:∀ H1,aJ F H1->aJ B H1->SqL K H1 a vs)(f:DatVs K F vs xs):Yld K (Ite K a) F B (jI 0 xs) where
 len:=by rw[dB,jJ];exact j
 go:=fun i h H1 h1 h2 b hi=>by
  rw[jJ] at hi
  exact ⟨vs,vs[i]'(by rw[f.length];exact hi),c H1 (fun x o z=>h2 x o (h1 x o z)) b,by simp⟩
 yld:=fun i h H1 v H2 x h1 h2 b y e=>by
  obtain ⟨p,w,g,rfl,rfl,y⟩:=y
  have q:=y vs (c _ (fun x o z=>h2 x o (h1 x o z)) b)
  obtain ⟨d,e2,r⟩:=f.get q
  rw[sO,e2] at e
  cases e
  refine ⟨_,Ext.new h2 g,.tup (SqT.of aQ) (.cons ?_ (.cons ((r.same h1).same (aJ.upd (bK h2 g))) .nil))⟩
  rw[Nat.zero_add];exact .int _
 stop:=fun h H1 h1 h2 b=>⟨vs,c H1 (fun x o z=>h2 x o (h1 x o z)) b,by rw[f.length,jJ];exact AM _⟩
theorem aFR{K:Frag}{F B:Hp}{z:Str}(d:z.cps.toList.length<=16777216):Yld K (Ity z) F B (jI 0 (z.cps.toList.map fun u=>.str ⟨#[u]⟩)) where
 len:=by rw[dB,jJ,AD];exact d
 go:=fun i a H1 h1 h2 b hi=>by
  rw[jJ,AD,B5] at hi
  exact hi
 yld:=fun i a H1 v H2 x h1 h2 b y e=>by
  obtain ⟨p,u,c,rfl,rfl,f⟩:=y
  rw[sO,A0,D6,f] at e
  cases e
  refine ⟨_,Ext.new h2 c,.tup (SqT.of aQ) (.cons ?_ (.cons (.str _) .nil))⟩
  rw[Nat.zero_add];exact .int _
 stop:=fun a H1 h1 h2 b=>by
  show (jI 0 _).length=z.cps.size
  rw[jJ,AD,B5]
theorem aNC{tg:Ez}{f:Sg->R Dz}(j:X.K=c.K)(h:PI X tg e (aI4 X.K (dN (tV (cK c) c E f) f7)))(h':PI X tg e (aE9 (dN (tV (cK c) c E f) f7))):PI0 X c E tg e (e1 xX f):=PI.imp (PI.or h h') fun σ H Q ⟨ρ,F,ab,k⟩=>by
 have a:=Rk.bind k
 cases b:f ρ with
 | bad=>rw[b] at a;exact a.elim
 | ex x=>rw[b] at a;exact .inl ⟨ρ,F,ab,by rw[b];exact a⟩
 | ok d=>
  rw[b] at a
  have k2:=Rk.ok a
  unfold xX at k2
  split at k2
  .rename_i xs
   split at k2
   .rename_i i
    refine .inl ⟨ρ,F,ab,?_⟩
    rw[b]
    intro v g H' s r
    obtain ⟨p,vs,rfl,h1,h2⟩:=DatV.lst_of r
    refine ⟨p,rfl,⟨vs,?_⟩,?_⟩
    · rw [j]; exact h1.same s.fh
    · rw [j]; exact Rk.ok k2 _ g H' s (aHX i (fun H1 q _ => h1.same q) h2)
   .exact k2.elim
  .rename_i z
   split at k2
   .rename_i i
    refine .inr ⟨ρ,F,ab,?_⟩
    rw[b]
    intro v g H' s r
    obtain rfl:=DatV.str_of r
    exact ⟨z,rfl,Rk.ok k2 _ g H' s (aFR i)⟩
   .exact k2.elim
  .exact k2.elim
end
noncomputable def kR(kvs:List (Dz×Dz))(k:Dz):O6 Dz:=(kvs.find? fun p=>decide (p.1=k)).map (·.2)
noncomputable def fG(kvs:List (Dz×Dz))(k:Dz):Bool:=(kR kvs k).isSome
noncomputable def putM(kvs:List (Dz×Dz))(k v:Dz):List (Dz×Dz):=if fG kvs k=true then kvs.map (fun p=>if p.1=k then (p.1,v) else p) else kvs++[(k,v)]
theorem aBW{K:Frag}{F:Hp}{k:Dz}:∀ {es:List Ent} {kvs:List (Dz×Dz)},es.map (·.1)=kvs.map (·.1)->DatVs K F (es.map (·.2.2)) (kvs.map (·.2))->
  (atE es k=none/\kR kvs k=none)\/∃ v d,atE es k=some v/\kR kvs k=some d/\DatV K F v d
 | [],[],_,_=>.inl ⟨rfl,rfl⟩
 | [],_::_,h,_=>by cases h
 | _::_,[],h,_=>by cases h
 | e::es,p::kvs,h,r=>by
  rw[AJ,AJ] at h r
  injection h with h1 h2
  obtain ⟨v,t,e1,r1,r2⟩:=r.cons_of
  rw[EK] at e1
  obtain ⟨rfl,rfl⟩:=e1
  have a:=aBW (k:=k) h2 r2
  unfold atE kR at a ⊢
  rw[C5,C5,h1]
  by_cases q:p.1=k
  · rw [BM q]; exact .inr ⟨_, _, rfl, rfl, r1⟩
  · rw [BB q]; exact a
theorem MapRel.get{K:Frag}{F:Hp}{es:List Ent}{a:List (Dz×Dz)}(m:MapRel K F es a)(k:Dz):(atE es k=none/\kR a k=none)\/∃ v d,atE es k=some v/\kR a k=some d/\DatV K F v d:=aBW m.k1 m.vs
theorem MapRel.has{K:Frag}{F:Hp}{es:List Ent}{c:List (Dz×Dz)}(m:MapRel K F es c)(k:Dz):(atE es k).isSome=fG c k:=by
 unfold fG
 rcases m.get k with ⟨a,b⟩|⟨v,d,a,b,_⟩<;>rw[a,b]<;>rfl
theorem zH{a:List (Dz×Dz)}{k:Dz}:fG a k=true↔k∈a.map (·.1):=by
 unfold fG kR
 rw[GE]
 induction a with
 | nil=>simp
 | cons p t ih=>
  rw[C5]
  by_cases q:p.1=k
  .rw[BM q];simp[q]
  .rw[BB q,ih,AJ]
   exact ⟨fun z=>AN _ z,fun z=>(AG.mp z).resolve_left (fun w=>q w.symm)⟩
theorem aFS{a:List (Dz×Dz)}{k v:Dz}:(putM a k v).map (·.1)=if fG a k=true then a.map (·.1) else a.map (·.1)++[k]:=by
 unfold putM
 cases h:fG a k with
 | true=>
  rw[AE rfl,AE rfl,D5]
  refine List.map_congr_left fun p _=>?_
  show (if p.1=k then (p.1,v) else p).1=p.1
  split<;>rfl
 | false=>rw[AI (by decide),AI (by decide),CB];rfl
theorem aBX{K:Frag}{F:Hp}{k d:Dz}{v:V}(r:DatV K F v d):∀ {es:List Ent} {kvs:List (Dz×Dz)},es.map (·.1)=kvs.map (·.1)->DatVs K F (es.map (·.2.1)) (kvs.map (·.1))->DatVs K F (es.map (·.2.2)) (kvs.map (·.2))->
  (es.map fun e=>if e.1=k then (e.1,e.2.1,v) else e).map (·.1)=(kvs.map fun p=>if p.1=k then (p.1,d) else p).map (·.1) /\
  DatVs K F ((es.map fun e=>if e.1=k then (e.1,e.2.1,v) else e).map (·.2.1)) ((kvs.map fun p=>if p.1=k then (p.1,d) else p).map (·.1)) /\
  DatVs K F ((es.map fun e=>if e.1=k then (e.1,e.2.1,v) else e).map (·.2.2)) ((kvs.map fun p=>if p.1=k then (p.1,d) else p).map (·.2))
 | [],[],_,_,_=>⟨rfl,.nil,.nil⟩
 | [],_::_,h,_,_=>by cases h
 | _::_,[],h,_,_=>by cases h
 | e::es,p::kvs,h,rk,rv=>by
  rw[AJ,AJ] at h rk rv
  injection h with h1 h2
  obtain ⟨_,_,e1,r1,r2⟩:=rk.cons_of
  rw[EK] at e1
  obtain ⟨rfl,rfl⟩:=e1
  obtain ⟨_,_,e1,c,g⟩:=rv.cons_of
  rw[EK] at e1
  obtain ⟨rfl,rfl⟩:=e1
  obtain ⟨f,a,b⟩:=aBX r h2 r2 g
  simp only[AJ]
  rw[h1,f]
  by_cases q:p.1=k
  · rw [AE q, AE q]; exact ⟨rfl, .cons r1 a, .cons r b⟩
  · rw [AI q, AI q]; exact ⟨by rw [h1], .cons r1 a, .cons c b⟩
theorem MapRel.put{K:Frag}{F:Hp}{es:List Ent}{c:List (Dz×Dz)}{k d:Dz}{kv v:V}(m:MapRel K F es c)(n:DatV K F kv k)(r:DatV K F v d):MapRel K F (pY es k kv v) (putM c k d):=by
 have f:=m.has k
 have nd:((putM c k d).map (·.1)).Nodup:=by
  rw[aFS]
  cases h:fG c k with
  | true=>rw[AE rfl];exact m.nd
  | false=>
   rw[AI (by decide),C8]
   refine ⟨m.nd,by simp,fun a l b e z=>?_⟩
   rw[A1] at e
   subst e z
   rw[zH.mpr l] at h
   cases h
 unfold pY
 rw[f]
 unfold putM at nd ⊢
 cases h:fG c k with
 | true=>
  rw[h,AE rfl] at nd
  rw[AE rfl,AE rfl]
  obtain ⟨i,g,j⟩:=aBX (k:=k) r m.k1 m.k2 m.vs
  exact ⟨i,g,j,nd⟩
 | false=>
  rw[h,AI (by decide)] at nd
  rw[AI (by decide),AI (by decide)]
  refine ⟨by rw[CB,CB,m.k1];rfl,?_,?_,nd⟩
  .rw[CB,CB];exact m.k2.append (.cons n .nil)
  .rw[CB,CB];exact m.vs.append (.cons r .nil)
theorem p8{K:Frag}{F:Hp}:∀ {es:List Ent} {kvs:List (Dz×Dz)},es.map (·.1)=kvs.map (·.1)->DatVs K F (es.map (·.2.1)) (kvs.map (·.1))->∀ e∈es,DatV K F e.2.1 e.1
 | [],_,_,_,e,he=>by cases he
 | _::_,[],h,_,_,_=>by cases h
 | e0::es,p::kvs,h,rk,e,he=>by
  rw[AJ,AJ] at h rk
  injection h with h1 h2
  obtain ⟨_,_,e1,r1,r2⟩:=rk.cons_of
  rw[EK] at e1
  obtain ⟨rfl,rfl⟩:=e1
  rcases AG.mp he with z|z
  · subst z; rw [h1]; exact r1
  · exact p8 h2 r2 e z
section
variable{X:Cx}{c:Ct}{E:XK}{e a b:Ez}{st:Stmt}{pos:Pos}
theorem aJA{ρ:Sg}{σ:L2.St}{F H:Hp}{i:Nat}{a:List (Dz×Dz)}{k:Dz}{kv:V}(d:X.K=c.K)(l:X.w=c.w)(ab:Ab c ρ σ F H)(hi:ρ[i]? = some (some (.m a)))(f:DatV c.K F kv k)(n:eD k (a.map (·.1))=true) :
  ∃ p es,σ[i]? = some (some (.ref p))/\DicAt X H p es k kv/\MapRel c.K F es a:=by
 obtain ⟨v,g,p,es,rfl,⟨j,h2⟩,q,o,b⟩:=ab.slot i _ hi
 refine ⟨p,es,g,⟨⟨j,by rw[l];exact h2⟩,fun e h=>by rw[d];exact (p8 b.k1 b.k2 e h).same ab.fh,by rw[b.k1];exact b.nd,by rw[d];exact f.same ab.fh,by rw[b.k1];exact n⟩,b⟩
theorem aND{ρ:Sg}{σ:L2.St}{F H:Hp}{i:Nat}{a:List (Dz×Dz)}{k:Dz}{kv:V}(d:X.K=c.K)(n:X.w=c.g.w)(ab:Ab c ρ σ F H)(hi:ρ[i]? = some (some (.f a)))(h:DatV c.K F kv k)(o:eD k (a.map (·.1))=true) :
  ∃ p es,σ[i]? = some (some (.ref p))/\DicAt X H p es k kv/\MapRel c.K F es a:=by
 obtain ⟨v,j,p,es,rfl,⟨m,h2⟩,b⟩:=ab.slot i _ hi
 refine ⟨p,es,j,⟨⟨m,by rw[n];exact ab.fh _ _ h2⟩,fun e l=>by rw[d];exact (p8 b.k1 b.k2 e l).same ab.fh,by rw[b.k1];exact b.nd,by rw[d];exact h.same ab.fh,by rw[b.k1];exact o⟩,b⟩
def aJB(w:W9):TE:=fun _ H Q=>∀ p,H p=none->Q (.ref p) (upd H p (kK w p [] 0))
theorem aBY:PE X (.Dict [] [] pos) (aJB X.w):=fun pins s σ H Q I h=>
 wpAny_Dict_empty ⟨.ref s.heap.objs.size,_,I.laid (a:=s.heap.objs.size) (o:=kK X.w s.heap.objs.size [] 0) (t':=s.toks) (fun _ _ q=>AB _ q) (AM _)
  (vE (DQ.mpr (BG (A4 I.big))) ⟨_,#[],AV _ rfl,⟨rfl,rfl,rfl⟩,rfl,.nil⟩),rfl,h _ (I.hok.fresh (AM _))⟩
noncomputable def xY(i:Nat):Sg->R Fw:=fun ρ=>.ok (.nx (ρ.set i (some (.m []))))
theorem aBZ{i:Nat}{w:W9}(b:w=c.w)(h:PS X st (kG (aJB w) (i8 i))):PSf X c E st (xY i):=PS.imp h fun D σ H ⟨ρ,F,ab,k⟩=>fun p a=>by
 subst b
 exact Rk.ok k _ F _ (cB F) (ab.setM (Ext.own ab.fh a) a aQ (bK ab.fh a) ⟨rfl,.nil,.nil,C3⟩)
noncomputable def zI(neg:Bool)(i:Nat)(f:Sg->R Dz):Sg->R Dz:=fun ρ=>(f ρ).bind fun k=>match ρ[i]? with
 | some (some (.m kvs))=>if eD k (kvs.map (·.1))=true then .ok (.bool (if neg=true then !fG kvs k else fG kvs k)) else .bad
 | some (some (.f kvs))=>if eD k (kvs.map (·.1))=true then .ok (.bool (if neg=true then !fG kvs k else fG kvs k)) else .bad
 | _=>.bad
def aHY(X:Cx)(neg:Bool):R2:=fun y x H Q=>∃ p es k,x=.ref p/\DicAt X H p es k y/\Q (.bl (if neg=true then !(atE es k).isSome else (atE es k).isSome)) H
theorem zJ(a:X.A.units+64 < cLine):OpR X (compareOp .NotIn) (aHY X true):=by
 intro pins s σ H y x v u Q I c d h
 obtain ⟨p,es,k,rfl,D,q⟩:=h
 cases (show u=Value.ref p from d)
 exact aKN a D I c fun s' b=>⟨.bl _,H,b,rfl,q⟩
theorem aHZ{i:Nat}{neg:Bool}{f:Sg->R Dz}(j:X.K=c.K)(n:X.w=c.w)(r:c.w=c.g.w){σ:L2.St}{H:Hp}{Q:VK}(h:tV (cK c) c E (zI neg i f) σ H Q):tOp (aHY X neg) (tV (cK c) c E f) (hX i) σ H Q:=by
 obtain ⟨ρ,F,ab,k⟩:=h
 refine ⟨ρ,F,ab,(Rk.bind k).imp fun d _ q v l H1 s1 o=>?_⟩
 split at q
 .rename_i b hi
  split at q
  .rename_i e
   obtain ⟨p,es,a,D,m⟩:=aJA j n (ab.ext s1) hi o e
   refine ⟨_,a,p,es,d,rfl,D,?_⟩
   rw[m.has]
   exact Rk.ok q _ l H1 s1 (.bl _)
  .exact q.elim
 .rename_i b hi
  split at q
  .rename_i e
   obtain ⟨p,es,a,D,m⟩:=aND j (n.trans r) (ab.ext s1) hi o e
   refine ⟨_,a,p,es,d,rfl,D,?_⟩
   rw[m.has]
   exact Rk.ok q _ l H1 s1 (.bl _)
  .exact q.elim
 .exact q.elim
theorem aFT{i:Nat}{neg:Bool}{f:Sg->R Dz}(a:X.K=c.K)(b:X.w=c.w)(h:PT X e (aIY (tOp (aHY X neg) (tV (cK c) c E f) (hX i))))(d:c.w=c.g.w:=by rfl):PTf X c E e (e1 asB (zI neg i f)):=PT.imp h fun σ H Q q=>aHZ a b d (vI q)
noncomputable def aO0(i:Nat)(f:Sg->R Dz):Sg->R Dz:=fun ρ=>match ρ[i]? with
 | some (some (.m kvs))=>(f ρ).bind fun k=>if eD k (kvs.map (·.1))=true then match kR kvs k with
  | some v=>.ok v
  | none=>.bad else .bad
 | some (some (.f kvs))=>(f ρ).bind fun k=>if eD k (kvs.map (·.1))=true then match kR kvs k with
  | some v=>.ok v
  | none=>.bad else .bad
 | _=>.bad
noncomputable def xZ(i:Nat)(f g:Sg->R Dz):Sg->R Fw:=fun ρ=>(g ρ).bind fun v=>match ρ[i]? with
 | some (some (.m kvs))=>(f ρ).bind fun k=>if eD k (kvs.map (·.1))=true/\kvs.length<=16777216 then .ok (.nx (ρ.set i (some (.m (putM kvs k v))))) else .bad
 | _=>.bad
def aJC(X:Cx):aCP:=fun o i v H Q=>∃ p es k,o=.ref p/\DicAt X H p es k i/\es.length<=sizeLine/\∀ ep,Q (upd H p (kK X.w p (pY es k i v) ep))
theorem zK(g:X.A.units+64 < cLine):aGS X (aJC X):=by
 intro pins s σ H o i v e l u Q I d f c h
 obtain ⟨p,es,k,rfl,D,a,q⟩:=h
 cases (show e=Value.ref p from d)
 exact aKO g D I f c a fun b s' j=>⟨_,j,q b⟩
theorem aB0{i:Nat}{f g:Sg->R Dz}(y:X.K=c.K)(r:X.w=c.w)(h:PS X st (kG (tV (cK c) c E g) (aGU (hX i) (tV (cK c) c E f) (aJC X)))):PSf X c E st (xZ i f g):=PS.imp h fun D σ H ⟨ρ,F,ab,k⟩=>by
 refine ⟨ρ,F,ab,(Rk.bind k).imp fun x _ q v C H1 s1 A=>?_⟩
 split at q
 .rename_i o hi
  have a:=ab.ext s1
  obtain ⟨_,n,p,es,rfl,_⟩:=a.slot i _ hi
  refine ⟨_,n,ρ,C,a,((Rk.bind q).ext s1).imp fun d _ q u B H2 l s=>?_⟩
  have b:=a.ext l
  split at q
  .rename_i t
   obtain ⟨I,e,j,z,m⟩:=aJA y r b hi s t.1
   rw[n] at j
   cases j
   refine ⟨p,e,d,rfl,z,?_,?_⟩
   .have:e.length=o.length:=by have:=D3 List.length m.k1;simpa using this
    rw[this,dB];exact t.2
   .intro G
    rw[r]
    exact Rk.ok q σ B _ (s1.trans l).ff (b.putM hi n (m.put s (DatV.same l.ff A)))
  .exact q.elim
 .exact q.elim
end
theorem zL{K:Frag}{a:Az}{vs:List V}{xs:List Dz}(m:Mc.oP K a vs)(h:∀ F,DatVs K F vs xs)(F:Hp):DatV K F (.ref a) (.tuple xs):=.tup (m.sq F) (h F)
section
variable{X:Cx}{c:Ct}{E:XK}{e a b:Ez}{st:Stmt}{pos p2:Pos}
def sP(fs:Dz->Sg->O6 Sg)(f:Sg->R Dz):Sg->R Fw:=fun ρ=>(f ρ).bind fun x=>(vQ (fs x ρ)).bind fun ρ'=>.ok (.nx ρ')
theorem p9{g:TG}{fs:Dz->Sg->O6 Sg}{is:List Nat}{f:Sg->R Dz}(i:Tg c g fs is)(h:PS X st (kG (tV (cK c) c E f) g)):PSf X c E st (sP fs f):=PS.imp h fun D σ H d=>by
 obtain ⟨ρ,F,ab,k⟩:=d
 refine ⟨ρ,F,ab,(Rk.bind k).imp fun x _ q v e H1 s1 j=>?_⟩
 cases h1:fs x ρ with
 | none=>rw[h1] at q;exact q.elim
 | some ρ'=>
  rw[h1] at q
  exact i v x ρ ρ' σ e H1 _ (ab.ext s1) j h1 fun a _ _ b=>Rk.ok q a e H1 s1.ff b
noncomputable def aNE:Dz->R Dz
 | .str z=>if z.length<=16777216 then .ok (.str ⟨z.cps.toList.reverse.toArray⟩) else .bad
 | _=>.bad
def aP0(f:Sg->R Dz)(g:Sg->R (O6 Int)):Sg->R Dz:=fun ρ=>(f ρ).bind fun x=>(g ρ).bind fun o=>if o=some (-1) then aNE x else .bad
end
theorem aNF{P:P9}{w:W9}{K:Frag}{mg:Str->O6 V9}{base:Hz}{T:Hp}{x:Str}{st:Stmt}{N ps:List Str}{k:Nat}{f:Az}{fd:FuncData}{fb:Sg->R Fw}(g:Fun K x x st f fd)(S:FnScope N ps (aE st))
  (a:∀ (cdv:V9) (A:U9) (outer:List Env) (s:S9) (H F:Hp) (E:XK),Room k (A.deeper (envOfC x (aE st) s.heap.objs.size f cdv))->
   lQ ((eW (CXe P w) P w K mg base N x (aE st) f cdv A outer s H E).fly E) ⟨K,mg,w,F,H,gOf P w K mg base T,(envOfC x (aE st) s.heap.objs.size f cdv).cells,fun _=>none⟩ E (bY st) fb):FnOk P w K mg base (CXe P w) (k+1) f fd ps (spF (gOf P w K mg base T) K mg ps.length (fnF N.length fb)):=by
 refine g.okX S (fun vs H Q E h=>?_) (fun cdv A outer s H vs Q E e h=>?_)
 .obtain ⟨F,c,_,_,h2,b,_⟩:=h
  rw[h2.len,b]
 .obtain ⟨F,c,i,h1,h2,b,d⟩:=h
  exact ⟨_,a cdv A outer s H F E e,rF i h1 h2 d⟩
def aDO(K:Frag)(T:Hp):Sp:=fun vs H Q _=>∃ (a:Az) (ns:List Int),vs=[.ref a]/\ns.length<=63/\aJ T H/\SqL K H a (ns.map V.int)/\∀ H',Q (.bl true) H'
theorem zM{K:Frag}{H:Hp}:∀ (ns:List Int),DatVs K H (ns.map V.int) (ns.map PyData.int)
 | []=>.nil
 | n::t=>.cons (.int n) (zM t)
theorem aNG{P:P9}{w:W9}{K:Frag}{mg:Str->O6 V9}{base:Hz}{T:Hp}{k:Nat}{f:Az}{fd:FuncData}{x:Str}{G:List A->R A}(h:FnOk P w K mg base (CXe P w) k f fd [x] (spF (gOf P w K mg base T) K mg 1 G))
  (b:∀ ns:List Int,ns.length<=63->G [.d (.list (ns.map .int))]=.ok (.d (.bool true))):FnOk P w K mg base (CXe P w) k f fd [x] (aDO K T):=h.imp fun vs H Q E=>by
 rintro ⟨a,ns,rfl,hn,ht,hs,q⟩
 refine ⟨H,[.d (.list (ns.map .int))],ht,cB H,⟨.lst hs (zM ns),trivial⟩,rfl,?_⟩
 rw[b ns hn]
 intro v c H' _ r
 obtain rfl:=DatV.bl_of r
 exact q H'
theorem aO1(P:P9)(w:W9)(H:Hp)(s:S9)(e:V9)(s':S9)(h:CXe P w [] H s (fun _ _ _=>False) e s'):False:=by
 obtain ⟨_,_,_,_,_,_,_,_,_,_,_,q⟩:=h
 exact q
theorem aKV{l:PySem.W.OpenLaw}{k:Nat}{q:P9}{b:List Str}{t:(Str->O6 V9)->Hz->Prop}{j:W9->Hz->Prop}{d:DefRec}{K:Params->Frag}{x:Str}{qs:List (Pos×Str)}{xs:List Str}
  (i:∀ x∈xs,∃ d∈recsOf q,d.name=x) (hNT:∀ w:W9,PySem.W.noTabs (K w.params)=true)
  (hn:l.most=some 63) (c:d.params.defaults=[]) (v:Room k callerA)
  (o:∀ (w:W9) (h:Hz),j w h->(K w.params).In h)
  (F:∀ (w:W9) (mg:Str->O6 V9) (fa:Az) (h:Hz),(K w.params).In h->h.Ns mainGlobals mg->mg d.name=some (.ref fa)->
   ∃ fd:FuncData,(∀ (s:S9) (u:V9),BindsTo s fd ⟨[u],[]⟩ [(x,u)]) /\
    ∀ (base:Hz) (T:Hp),(K w.params).In base->base.Ns mainGlobals mg->yV mg h base T qs xs->FnOk l.prog w (K w.params) mg base (CXe l.prog w) k fa fd [x] (aDO (K w.params) T)) :
  PySem.W.WalkO q b t j l.row.toRowW d [] (fun f vs=>PySem.call f vs):=
 walk_ofT (K:=K) (CX:=fun w=>CXe l.prog w) (qs:=qs) (xs:=xs) i hNT hn (by decide) c v o (fun w mg fa h h1 h2 g=>by
  obtain ⟨fd,y,A⟩:=F w mg fa h h1 h2 g
  exact ⟨fd,y,fun base T h1 h2 g=>⟨_,A base T h1 h2 g,fun H a m p r n=>⟨a,m,rfl,p,r,n,fun _=>rfl⟩⟩⟩) fun w H s e s' z=>aO1 _ w H s e s' z
variable{X:Cx}{c:Ct}{E:XK}{e:Ez}
noncomputable def d2(G:Int->Int->Int):Dz->Dz->R Dz
 | .int i,.int j=>.ok (.int (G i j))
 | _,_=>.bad
noncomputable def d1(G:Int->Int):Dz->R Dz
 | .int i=>.ok (.int (G i))
 | _=>.bad
noncomputable def fH(i j:Int):Int:=if j < i then j else i
theorem aFU{G:Int->Int->Int}{f g:Sg->R Dz}(h0:PE X e (tCB (fun xs H Q=>∃ i j,xs=[.int i,.int j]/\Q (.int (G i j)) H) (dN (tV (bD c) c E f) (dN (tV (bD c) c E g) f7)))):PD X c E e (e2 (d2 G) f g):=PE.imp h0 fun σ H Q a=>by
 obtain ⟨ρ,F,ab,k⟩:=a
 refine ⟨ρ,F,ab,(Rk.bind k).imp fun x ex q v d H1 s1 m=>?_⟩
 refine ⟨ρ,d,ab.ext s1,((Rk.bind q).ext s1).imp fun y _ q u b H2 l h=>?_⟩
 cases x with
 | int i=>
  cases y with
  | int j=>
   obtain rfl:=aW.int_of m
   obtain rfl:=aW.int_of h
   exact ⟨i,j,rfl,Rk.ok q _ b H2 (s1.trans l) (.int _)⟩
  | _=>exact q.elim
 | _=>exact q.elim
end Fl
namespace L2
open PySem PyProof.Rows
variable{X:Cx}
end L2
namespace Fl
open PySem L2 PyProof.Rows
variable{X:Cx}{c:Ct}{E:XK}{e:Ez}
variable{X:Cx}{c:Ct}{E:XK}{e:Ez}{st:Stmt}
end Fl
namespace L2
open PySem PyProof.Rows
theorem aB1(vs:List V9):∀ (n:Nat) (acc:List V9),(List.replicate n vs.toArray).foldl (· ++ ·) acc.toArray=(acc++(List.replicate n vs).flatten).toArray
 | 0,acc=>by simp
 | n+1,acc=>by
  rw[CN,List.foldl_cons,List.append_toArray,aB1 vs n,CN,C6,GD]
end L2
namespace Fl
open PySem L2 PyProof.Rows
section
variable{X:Cx}{c:Ct}{E:XK}{e a b:Ez}{pos:Pos}
theorem zN{vs:List V}{its:List V9}(h:aZ vs its):∀ n:Nat,aZ (List.replicate n vs).flatten (List.replicate n its).flatten
 | 0=>.nil
 | n+1=>by
  rw[CN,C6,CN,C6]
  exact h.append (zN h n)
theorem wU{K:Frag}{F:Hp}{vs:List V}{xs:List Dz}(h:DatVs K F vs xs):∀ n:Nat,DatVs K F (List.replicate n vs).flatten (List.replicate n xs).flatten
 | 0=>.nil
 | n+1=>by
  rw[CN,C6,CN,C6]
  exact h.append (wU h n)
end
theorem iN{H:Hp}{p:Az}{a b:HO}:upd (upd H p a) p b=upd H p b:=by
 funext x
 by_cases q:x=p
 · subst q; rw [aQ, aQ]
 · rw [aF q, aF q, aF q]
abbrev TP:=L2.St->Hp->(List (V×V)->Hp->Prop)->Prop
def aP1(p:V×V)(u:V9×V9):Prop:=bB p.1 u.1/\bB p.2 u.2
def PPr(X:Cx)(keys:List (O6 Ez))(vals:List Ez)(t:TP):Prop:=∀ (pos:Pos) (pins:List (Az×Obj)) (s:S9) (σ:L2.St) (H:Hp) (Q:List (V×V)->Hp->Prop),Inv X pins σ H s->t σ H Q->
 wpAny (model X.prog X.w) X.A (evalPairs (pairTrees keys vals X.env pos)) (fun vs s'=>∃ ps H',Inv X pins σ H' s'/\Paired aP1 ps vs/\Q ps H') X.xe s
section
variable{X:Cx}{c:Ct}{E:XK}{e a b:Ez}{st:Stmt}{pos:Pos}
noncomputable def zO:List (Dz×Dz)->List (Dz×Dz)->R (List (Dz×Dz))
 | acc,[]=>.ok acc
 | acc,(k,v)::t=>if eD k (acc.map (·.1))=true/\acc.length<=16777216 then zO (putM acc k v) t else .bad
theorem PPr.imp{X:Cx}{ks:List (O6 Ez)}{vs:List Ez}{t t':TP}(h:PPr X ks vs t)(i:∀ σ H Q,t' σ H Q->t σ H Q):PPr X ks vs t':=fun pos pins s σ H Q I q=>h pos pins s σ H Q I (i σ H Q q)
noncomputable def aP2:Sg->R (List (Dz×Dz)):=fun _=>.ok []
def aO2(f g:Sg->R Dz)(r:Sg->R (List (Dz×Dz))):Sg->R (List (Dz×Dz)):=fun ρ=>(f ρ).bind fun x=>(g ρ).bind fun y=>(r ρ).bind fun t=>.ok ((x,y)::t)
noncomputable def aO3(i:Nat)(f:Sg->R (List (Dz×Dz))):Sg->R Fw:=fun ρ=>(f ρ).bind fun kvs=>(zO [] kvs).bind fun res=>.ok (.nx (ρ.set i (some (.m res))))
end
section
variable{X:Cx}{c:Ct}{E:XK}{e a b:Ez}{st:Stmt}{pos:Pos}
noncomputable def aNH(i:Nat)(f g:Sg->R Dz):Sg->R Dz:=fun ρ=>match ρ[i]? with
 | some (some (.m kvs))=>(f ρ).bind fun k=>(g ρ).bind fun y=>if eD k (kvs.map (·.1))=true then .ok ((kR kvs k).getD y) else .bad
 | _=>.bad
end
section
variable{X:Cx}{c:Ct}{E:XK}
theorem zP{K:Frag}{F:Hp}{g:Str}{d:Dz}:∀ {fvs:List (Str×V)} {fs:List (Str×Dz)},fvs.map (·.1)=fs.map (·.1)->DatVs K F (fvs.map (·.2)) (fs.map (·.2))->fs.lookup g=some d->∃ v,fvs.lookup g=some v/\DatV K F v d
 | [],[],_,_,h=>by cases h
 | [],_::_,h,_,_=>by cases h
 | _::_,[],h,_,_=>by cases h
 | (a,v)::fvs,(b,x)::fs,h,r,e=>by
  rw[AJ,AJ] at h r
  injection h with h1 h2
  obtain ⟨v',t,e1,r1,r2⟩:=r.cons_of
  rw[EK] at e1
  obtain ⟨rfl,rfl⟩:=e1
  simp only at h1
  subst h1
  rw[A8] at e ⊢
  cases q:(g == a) with
  | true=>rw[q] at e;cases e;exact ⟨v,rfl,r1⟩
  | false=>rw[q] at e;exact zP h2 r2 e
end
section
variable{X:Cx}{c:Ct}{E:XK}{e:Ez}{P:P9}{w:W9}{base:Hz}
end
end Fl
namespace L2
open PySem PySem.Spec PyProof.Rows
theorem b9.got{P:P9}{w:W9}{H:Hp}{h:Hz}{a:Az}{o:HO}(x:b9 P w H h a o):∃ u,h.get? a=some u:=by
 cases o with
 | lst xs=>obtain ⟨_,_,_,_,e⟩:=x;exact ⟨_,e⟩
 | tup xs=>obtain ⟨_,_,_,⟨o,e,_⟩⟩:=x;exact ⟨_,e⟩
 | dK kvs=>obtain ⟨_,_,_,_,o,_,_,e,_⟩:=x;exact ⟨_,e⟩
 | dT kvs=>obtain ⟨_,_,_,_,o,_,_,e,_⟩:=x;exact ⟨_,e⟩
 | set S n=>obtain ⟨o,_,_,_,e,_⟩:=x;exact ⟨_,e⟩
 | ins C dx fs=>obtain ⟨_,_,_,e,_⟩:=x;exact ⟨_,e⟩
 | own y=>exact x
 | xd fs=>obtain ⟨_,⟨_,_,_,e,_⟩,_⟩:=x;exact ⟨_,e⟩
 | rng lo hi=>obtain ⟨_,_,_,e⟩:=x;exact ⟨_,e⟩
 | frz ob u=>exact ⟨_,x.1⟩
 | tbl ps=>obtain ⟨_,e,_⟩:=x;exact ⟨_,e⟩
 | cod q=>obtain ⟨c,o,vs,t,e,b,_⟩:=x;cases e;exact ⟨_,b⟩
 | met f y=>exact ⟨_,x⟩
 | ext φ=>exact x.2.1
theorem HOk.free{P:P9}{w:W9}{H:Hp}{h:Hz}{a:Az}(x:HOk P w H h)(e:h.get? a=none):H a=none:=by
 cases q:H a with
 | none=>rfl
 | some u=>
  obtain ⟨o,z⟩:=(x a u q).got
  rw[e] at z;cases z
structure ErrP(K:Frag)(mg:Str->Option V9)(x:Str)(W C:Az):Prop where
 c:SX.ExcC K W C
 m:mg x=some (.ref C)
 lk:∃ nm q N bs sn sub ab col dd k0 k1 k2 k3 k5,K.lookup C=some (excClassObj nm q C N bs (.ref W::SX.iB) true sn sub ab col dd k0 k1 k2 k3 k5 "ValueError.__new__")/\PySem.W.nsOkIn K N=true/\PySem.W.nsIn K N "__init__"=some none
 lw:∃ c0 dd cd sl,K.lookup W=some ⟨c0,dd,.cls cd,sl⟩/\PySem.W.nsOkIn K cd.ns=true/\PySem.W.nsIn K cd.ns "__init__"=some none
def few(i:Int):Prop:=i=40\/i=60\/i=200\/i=300
end L2
namespace Fl
open PySem L2 PyProof.Rows
instance (i:Int):Decidable (few i):=by unfold few;infer_instance
section
variable{X:Cx}{c:Ct}{E:XK}{st:Stmt}{cn:Str}{C:Az}
end
end Fl
namespace HT
open PySem PySem.Spec PyProof.Rows L2
end HT
namespace Fl
open PySem L2 PyProof.Rows
def FnK(K:Frag)(H:Hp)(f:Az):Prop:=PySem.W.keepIn K (.ref f)=true\/∃ oc od fd sl,H f=some (FnO f ⟨oc,od,.func fd,sl⟩)
theorem FnK.same{K:Frag}{H H':Hp}{f:Az}(s:aJ H H')(h:FnK K H f):FnK K H' f:=h.imp id fun ⟨a,od,fd,b,e⟩=>⟨a,od,fd,b,s _ _ e⟩
def aFV(X:Cx)(i:Nat)(E:XK)(t:TA):TE:=fun σ H Q=>∃ f,σ[i]? = some (some (.ref f))/\FnK X.K H f/\t σ H fun vs H1=>FnK X.K H1 f/\∃ k fd ps sp,Room k X.A/\FnOk X.prog X.w X.K X.mg X.base (CXe X.prog X.w) k f fd ps sp/\cV X.K fd ps []/\sp vs H1 Q E
theorem aH0{X:Cx}{i:Nat}{x:Str}{E:XK}{p pos:Pos}{e:Ez}{es:List Ez}{t:TA}(hn:PE X (.Name x p) (hX i))(hx:h8 (CXe X.prog X.w) X E)(ha:PA X (e::es) t)
  (z:starEach (e::es) X.env=(false,eval e X.env)::starEach es X.env:=by rfl) (hpl:(backTo pos (starEach es X.env)).any (·.1)=false:=by rfl):PE X (.Call (.Name x p) (e::es) [] pos) (aFV X i E t):=by
 intro pins s σ H Q I h
 obtain ⟨f,C,d,h⟩:=h
 refine CS (thn (hn pins s σ H (fun v H'=>v=.ref f/\H'=H) I ⟨_,C,rfl,rfl⟩) fun u B m=>?_)
 obtain ⟨v,j,c,D,e1,e2⟩:=m
 subst e1 e2
 obtain rfl:u=Value.ref f:=D
 have g:∀ (us:List V9) (s1:S9),AP X pins σ (fun vs H1=>FnK X.K H1 f/\∃ k fd ps sp,Room k X.A/\FnOk X.prog X.w X.K X.mg X.base (CXe X.prog X.w) k f fd ps sp/\cV X.K fd ps []/\sp vs H1 Q E) us s1->
   (∃ H1,Inv X pins σ H1 s1/\FnK X.K H1 f)/\wpAny (model X.prog X.w) X.A (call (.ref f) us) (EP X pins σ Q) X.xe s1:=by
  rintro us s1 ⟨vs,H1,b,r,a,k,fd,ps,sp,hr,F,hb,q⟩
  refine ⟨⟨H1,b,a⟩,tJ (dvs:=[]) (ds:=[]) F hr hb .nil hx b r ?_⟩
  rw[CH];exact q
 rcases d with d|⟨y,od,fd,l,d⟩
 .refine DX (h₀:=X.base) c.ok.mod.kin d (thn (ha pos pins B σ j _ c h) fun us s1 n=>?_) z hpl
  obtain ⟨⟨H1,b,_⟩,q⟩:=g us s1 n
  exact ⟨b.kIn,q⟩
 .refine PySem.W.callWith_F ⟨y,od,fd,l,FnO.get c.hok d⟩ (thn (ha pos pins B σ j _ c h) fun us s1 n=>?_) z hpl
  obtain ⟨⟨H1,b,a⟩,q⟩:=g us s1 n
  refine ⟨?_,q⟩
  rcases a with a|⟨y,od,fd,l,a⟩
  .cases e:X.K.lookup f with
   | none=>unfold PySem.W.keepIn at a;dsimp only at a;rw[e] at a;cases a
   | some o=>
    have e1:=b.kIn f o e
    exfalso
    have e2:=c.kIn f o e
    obtain ⟨o',h1,h2⟩:∃ o',j f=some (FnO f o')/\True:=⟨_,d,trivial⟩
    have G:=c.bs f o (c.ok.mod.kin f o e)
    rw[G.2] at h1;cases h1
  .exact ⟨y,od,fd,l,FnO.get b.hok a⟩
def aDP(m i:Nat)(f:Sg->R (List Dz)):Sg->R Dz:=fun ρ=>match ρ[i]? with
 | some (some (.g k n G))=>(f ρ).bind fun ds=>if k<=m/\ds.length=n then G ds else .bad
 | _=>.bad
theorem aNI{X:Cx}{c:Ct}{E:XK}{e:Ez}{m i:Nat}{T:Hp}{f:Sg->R (List Dz)}(I:c.g=gOf X.prog X.w X.K X.mg X.base T)(u:X.K=c.K)(N:X.mg=c.mg)(O:Room m X.A)(h:PE X e (aFV X i E (tAd c E f))):PD X c E e (aDP m i f):=PE.imp h fun σ H Q ⟨ρ,F,ab,k⟩=>by
 unfold aDP at k
 split at k
 .rename_i s n G hi
  obtain ⟨v,S,Z⟩:=ab.slot i _ hi
  obtain ⟨t,Y,rfl,s1,B⟩:=(show AF c.g c.K c.mg F (.g s n G) v from Z)
  rw[I] at B
  obtain ⟨fd,ps,J,U,W,L⟩:=(show Beh X.prog X.w X.K X.mg X.base T t Y s n G from B)
  have j:∀ b H',aJ F b->aJ b H'->FnK X.K H' t:=fun b H' P M=>L.imp id fun ⟨oc,od,fd,V,e⟩=>⟨oc,od,fd,V,M _ _ (P _ _ (s1 _ _ e))⟩
  refine ⟨t,S,j F H (cB F) ab.fh,ρ,F,ab,(Rk.bind k).imp fun ds _ q vs b H' e1 r=>?_⟩
  refine ⟨j b H' e1.ff e1.fh,?_⟩
  by_cases p:s<=m/\ds.length=n
  .rw[AE p] at q
   refine ⟨s,fd,ps,_,O.mono p.1,W,U,b,ds,fun a o z=>e1.ff a o (s1 a o z),fun a o z=>e1.ff a o (ab.f0 a o (ab.t0 a o (by rw[I];exact z))),e1.fh,by rw[u];exact r,p.2,?_⟩
   cases y:G ds with
   | bad=>rw[y] at q;exact q
   | ok d=>rw[y] at q;exact fun v D H2 e2 l=>Rk.ok q v D H2 (e1.trans e2) (by rw[u] at l;exact l)
   | ex x=>rw[y] at q;exact fun a C D H2 e2 l=>q a C D H2 ((ab.all.trans e1).trans e2) (by rw[u,N] at l;exact l)
  .rw[AI p] at q;exact q.elim
 .exact k.elim
def aJD(K:Frag)(F H:Hp):List V->List Dz->Prop
 | [],[]=>True
 | v::vs,d::ds=>aW K F H v d/\aJD K F H vs ds
 | _,_=>False
theorem aP3{K:Frag}{F H:Hp}(s:aJ F H):∀ {vs:List V} {ds:List Dz},aJD K F H vs ds->∃ FL,aJ F FL/\aJ FL H/\DatVs K FL vs ds
 | [],[],_=>⟨F,cB F,s,.nil⟩
 | v::vs,d::ds,h=>by
  obtain ⟨FL,a,b,r⟩:=aP3 s h.2
  rcases h.1 with q|⟨p,us,xs,rfl,rfl,h1,h2⟩
  .exact ⟨FL,a,b,.cons (q.same a) r⟩
  .refine ⟨fun x=>if x=p then some (.lst us) else FL x,fun x o z=>?_,fun x o z=>?_,?_⟩
   .by_cases c:x=p
    .subst c
     have:=s x o z
     rw[h1] at this;cases this
     exact AE rfl
    .exact (AI c).trans (a x o z)
   .by_cases c:x=p
    .subst c
     have f:=(AE rfl).symm.trans z
     rw[h1];exact f
    .exact b x o ((AI c).symm.trans z)
   .have e:aJ FL (fun x=>if x=p then some (.lst us) else FL x):=fun x o z=>by
     by_cases c:x=p
     .subst c
      have:=b x o z
      rw[h1] at this;cases this
      exact AE rfl
     .exact (AI c).trans z
    exact .cons (.lst (SqL.of (AE rfl)) (h2.same fun x o z=>e x o (a x o z))) (r.same e)
theorem aKW{K:Frag}{F:Hp}{c:List Az}{a:Az}{xs:List V}(b:Celd c F)(h:SqL K F a xs):SqL K (hid c F) a xs:=by
 rcases h with (h|⟨o,h⟩)|h
 · exact .inl (.inl (by rw [c6 (b.out h fun _ v z => nomatch z)]; exact h))
 · exact .inl (.inr ⟨o, by rw [c6 (b.out h fun _ v z => by unfold fV at z; cases z)]; exact h⟩)
 · exact .inr h
theorem aKX{K:Frag}{F:Hp}{c:List Az}{a:Az}{xs:List V}(b:Celd c F)(h:SqT K F a xs):SqT K (hid c F) a xs:=by
 rcases h with (h|⟨o,h⟩)|h
 · exact .inl (.inl (by rw [c6 (b.out h fun _ v z => nomatch z)]; exact h))
 · exact .inl (.inr ⟨o, by rw [c6 (b.out h fun _ v z => by unfold fV at z; cases z)]; exact h⟩)
 · exact .inr h
mutual
theorem aKY{K:Frag}{F:Hp}{cs:List Az}(hc:Celd cs F):∀ {v:V} {d:Dz},DatV K F v d->DatV K (hid cs F) v d
 | _,_,.non=>.non
 | _,_,.bl b=>.bl b
 | _,_,.int i=>.int i
 | _,_,.str x=>.str x
 | _,_,.lst h r=>.lst (aKW hc h) (o3 hc r)
 | _,_,.tup h r=>.tup (aKX hc h) (o3 hc r)
 | _,_,.pl h=>.pl (by rw[c6 (hc.out h fun _ v z=>nomatch z)];exact h)
theorem o3{K:Frag}{F:Hp}{cs:List Az}(hc:Celd cs F):∀ {vs:List V} {ds:List Dz},DatVs K F vs ds->DatVs K (hid cs F) vs ds
 | _,_,.nil=>.nil
 | _,_,.cons h r=>.cons (aKY hc h) (o3 hc r)
end
theorem aH1{a:Cv}{F H:Hp}(s:aJ F H):aJ (pub a F) (pub a H):=fun b o e=>by
 by_cases c:b∈iC a
 .obtain ⟨p,q⟩:=iR.mp c
  rw[yS q] at e ⊢;exact e
 .rw[kI c] at e ⊢;exact s b o e
noncomputable def dOf:R A->R Dz
 | .ok (.d x)=>.ok x
 | .ok _=>.bad
 | .ex e=>.ex e
 | .bad=>.bad
def CloOk(P:P9)(w:W9)(K:Frag)(mg:Str->O6 V9)(base:Hz)(T:Hp)(S:ClSt)(fr:List Str)(k n:Nat)(Gm:List A->List Dz->R Dz):Prop:=
 ∀ (F0 F1:Hp) (caps:List A) (cvs:List V) (f:Az) (cl:List (Str×Az)) (doc pm ct:V9) (cc:Az),aJ T F0->AFs (gOf P w K mg base T) K mg F0 caps cvs->aJ F0 F1->
  F1 f=some (FnO f (S.obj cl doc pm cc ct))->F1 cc=some (.cod S.qual)->CapAt F1 fr cl cvs->(∀ c∈bF fr cl,F0 c=none)->Beh P w K mg base T f F1 k n (Gm caps)
theorem aB2{d:List Az}{F H f H2:Hp}(s:aJ F H)(g:Celd d F)(hn:∀ c∈d,H2 c=none)(e:Ext (hid d F) (hid d H) f H2):Ext F H (shw d F f) (shw d H H2)/\aJ f (shw d F f):=by
 have i:∀ c∈d,f c=none:=fun c h=>bK e.fh (hn c h)
 refine ⟨⟨fun b o q=>?_,fun b o q=>?_,fun b o q=>?_,fun b q n=>?_⟩,fun b o q=>?_⟩
 .by_cases a:b∈d
  .rw[pX a];exact q
  .rw[dZ a];exact e.hh b o (by rw[c6 a];exact q)
 .by_cases a:b∈d
  .rw[pX a];exact q
  .rw[dZ a];exact e.ff b o (by rw[c6 a];exact q)
 .by_cases a:b∈d
  .rw[pX a] at q ⊢;exact s b o q
  .rw[dZ a] at q ⊢;exact e.fh b o q
 .by_cases a:b∈d
  .obtain ⟨o,v,z⟩:=g b a
   rw[z] at q;cases q
  .rw[dZ a] at n
   have:=e.nw b (by rw[c6 a];exact q) n
   unfold rD at this ⊢
   rw[c6 a] at this;exact this
 .rw[dZ fun z=>by rw[i b z] at q;cases q];exact q
theorem AFs.data{g:Gb}{K:Frag}{mg:Str->O6 V9}{F:Hp}:∀ {vs:List V} {ds:List Dz},DatVs K F vs ds->AFs g K mg F (ds.map .d) vs
 | _,_,.nil=>trivial
 | _,_,.cons h r=>⟨h,AFs.data r⟩
theorem AFs.append{g:Gb}{K:Frag}{mg:Str->O6 V9}{F:Hp}:∀ {as bs:List A} {vs us:List V},AFs g K mg F as vs->AFs g K mg F bs us->AFs g K mg F (as++bs) (vs++us)
 | [],_,[],_,_,h=>h
 | a::as,bs,v::vs,us,h,h2=>⟨h.1,AFs.append h.2 h2⟩
section
variable{P:P9}{w:W9}{K:Frag}{mg:Str->O6 V9}{base:Hz}{T:Hp}{S:ClSt}{N ps fr:List Str}{k:Nat}
theorem aFW{f i F H:Hp}{a:List A}{cvs vs:List V}{ds:List Dz}{cl:List (Str×Az)}(h:aJ T f)(g:AFs (gOf P w K mg base T) K mg f a cvs)(k:aJ f i)(e:aJ i F)(l:aJ F H)(C:CapAt i fr cl cvs)(j:∀ c∈bF fr cl,f c=none)(s:DatVs K F vs ds) :
  Celd (bF fr cl) F/\aJ T (hid (bF fr cl) F)/\aJ (hid (bF fr cl) F) (hid (bF fr cl) H)/\AFs (gOf P w K mg base T) K mg (hid (bF fr cl) F) (ds.map .d++a) (vs++cvs):=by
 have m:Celd (bF fr cl) F:=(C.same e).celd
 have n:aJ f (hid (bF fr cl) F):=fun b o q=>by
  rw[c6 fun z=>by rw[j b z] at q;cases q];exact e b o (k b o q)
 refine ⟨m,fun b o q=>n b o (h b o q),fun b o q=>?_,(AFs.data (o3 m s)).append (g.same n)⟩
 obtain ⟨r,p⟩:=yP q
 rw[c6 p];exact l b o r
def j6(n:Nat)(fb:Sg->R Fw):List A->List Dz->R Dz:=fun caps ds=>dOf (fnF n fb (ds.map .d++caps))
theorem aKZ{F H:Hp}{b:List Az}{Q:VK}{E:XK}{r:R A}(c:aJ F H)(p:Celd b F)(h:match dOf r with
 | .bad=>False
 | .ok d=>∀ v F' H',Ext F H F' H'->DatV K F' v d->Q v H'
 | .ex e=>∀ a C F' H',Ext F H F' H'->nQ K mg F' e a C->E (.ref C) (some a) H'):match (generalizing:=false) r with
 | .bad=>False
 | .ok a=>∀ v F' H',Ext (hid b F) (hid b H) F' H'->AF (gOf P w K mg base T) K mg F' a v->(∀ a∈b,H' a=none)->Q v (shw b H H')
 | .ex e=>∀ a C F' H',Ext (hid b F) (hid b H) F' H'->nQ K mg F' e a C->(∀ a∈b,H' a=none)->E (.ref C) (some a) (shw b H H'):=by
 cases r with
 | bad=>exact h
 | ok a=>
  cases a with
  | d x=>
   intro v F' H' e q i
   obtain ⟨e2,j⟩:=aB2 c p i e
   exact h v _ _ e2 (DatV.same j q)
  | l xs=>exact False.elim h
  | m xs=>exact False.elim h
  | x e=>exact False.elim h
  | g k n f=>exact False.elim h
  | k S=>exact False.elim h
  | f S=>exact False.elim h
  | o S=>exact False.elim h
 | ex x=>
  intro a C F' H' e q i
  obtain ⟨e2,j⟩:=aB2 c p i e
  exact h a C _ _ e2 (q.same j)
theorem aNJ{body:List Stmt}{fb:Sg->R Fw}(V:S.body=.stmts body)(Sc:CloScope N ps fr S.scope)(p:∀ (cl:List (Str×Az)) (doc pm:V9) (cc:Az) (ct:V9) (us:List V9),us.length=ps.length->bindArgs (S.fd cl doc pm cc ct) ⟨us,[]⟩=pure (ps.zip us))
  (i:∀ (f cc:Az) (cl:List (Str×Az)) (A:U9) (outer:List Env) (s:S9) (H F:Hp) (E E':XK),Room k (A.deeper (cS S.qual S.scope s.heap.objs.size f (.ref cc) cl))->
   lQ ((k9 (CXe P w) P w K mg base N fr S.qual S.scope f (.ref cc) cl A outer s H E').fly E) ⟨K,mg,w,F,hid (bF fr cl) H,gOf P w K mg base T,(cS S.qual S.scope s.heap.objs.size f (.ref cc) cl).cells,fun _=>none⟩ E body fb) :
  CloOk P w K mg base T S fr (k+1) ps.length (j6 N.length fb):=by
 intro F0 F1 g cvs f cl doc pm ct cc t l u I B C D
 refine ⟨S.fd cl doc pm cc ct,ps,rfl,.all (p cl doc pm cc ct),⟨fun vs H Q E h=>?_,fun A outer s H args us vs Q E O e0 G Z y=>?_⟩,.inr ⟨_,_,_,_,I⟩⟩
 .obtain ⟨F,ds,_,_,_,h1,h2,_⟩:=h
  rw[h1.length,h2]
 .obtain ⟨F,ds,h1,h2,m,J,L,W⟩:=y
  obtain ⟨Y,U,M,X⟩:=aFW t l u h1 m C D J
  refine aFF V (m _ _ (h1 _ _ I)) (m _ _ (h1 _ _ B)) Sc (C.same fun b o z=>m b o (h1 b o z)) O e0 G Z (by rw[J.length,L]) fun q=>⟨_,i f cc cl A outer s H (hid (bF fr cl) F) _ E q,?_⟩
  have j:=aKZ (P:=P) (w:=w) (base:=base) (T:=T) (r:=fnF N.length fb (ds.map .d++g)) m Y W
  refine rF (n:=N.length) (fb:=fb) (Q:=fun v H'=>(∀ a∈bF fr cl,H' a=none)->Q v (shw (bF fr cl) H H')) (E:=fun c e H'=>(∀ a∈bF fr cl,H' a=none)->E c e (shw (bF fr cl) H H')) U M X ?_
  cases e:fnF N.length fb (ds.map .d++g) with
  | bad=>rw[e] at j;exact j
  | ok a=>rw[e] at j;exact j
  | ex x=>rw[e] at j;exact j
end
def o4(c:Ct)(F:Hp)(S:ClSt)(v:V):Prop:=∃ f cl doc pm cc ct,v=.ref f/\F f=some (FnO f (S.obj cl doc pm cc ct))/\F cc=some (.cod S.qual)/\ClOf c.cells S.scope cl
theorem o4.same{c:Ct}{F a:Hp}{S:ClSt}{v:V}(s:aJ F a):o4 c F S v->o4 c a S v:=by
 rintro ⟨f,cl,doc,pm,cc,ct,h1,h2,h3,h4⟩
 exact ⟨f,cl,doc,pm,cc,ct,h1,s _ _ h2,s _ _ h3,h4⟩
theorem aK0{c:Ct}{S:ClSt}{P0:Az}{qs:List (Pos×Str)}{cells:List (Str×Az)}{ρ:Sg}{σ:L2.St}{F H:Hp}{Q:VK}(e:cells=c.cells)(l:c.g.T P0=some (.tbl qs))(ab:Ab c ρ σ F H)(h:∀ v F' H',Ext F H F' H'->o4 c F' S v->Q v H'):tMk cells S P0 qs σ H Q:=by
 subst e
 refine ⟨ab.fh _ _ (ab.f0 _ _ (ab.t0 _ _ l)),fun f b cl doc pm ct H1 m k j=>?_⟩
 have e1:∃ d,Ext F H d H1/\d b=some (.cod S.qual):=by
  rcases m with ⟨q,rfl⟩|⟨q,rfl⟩
  .refine ⟨upd F b (.cod S.qual),⟨cB _,fun a o z=>?_,fun a o z=>?_,fun a z n=>?_⟩,aQ⟩
   .by_cases w:a=b
    .subst w
     have:=ab.fh a o z
     rw[q] at this;cases this
     exact aQ
    .rw[aF w];exact z
   .by_cases w:a=b
    .subst w;rw[aQ] at z;rw[q];exact z
    .rw[aF w] at z;exact ab.fh a o z
   .by_cases w:a=b
    .subst w;exact .inr ⟨_,q⟩
    .rw[aF w] at n;exact absurd z n
  .exact ⟨upd F b (.cod S.qual),Ext.new ab.fh q,aQ⟩
 obtain ⟨d,e1,i⟩:=e1
 have e2:Ext d H1 (upd d f (FnO f (S.obj cl doc pm b ct))) (upd H1 f (FnO f (S.obj cl doc pm b ct))):=Ext.new e1.fh k
 exact h (.ref f) _ _ (e1.trans e2) ⟨f,cl,doc,pm,b,ct,rfl,aQ,e2.ff _ _ i,j⟩
noncomputable def aJE(i:Nat)(q:Str):Sg->R Fw:=fun ρ=>.ok (.nx (ρ.set i (some (.k q))))
theorem aK1{X:Cx}{c:Ct}{E:XK}{st:Stmt}{i:Nat}{q:Str}{S:ClSt}{P0:Az}{qs:List (Pos×Str)}{cells:List (Str×Az)}(b:cells=c.cells)(n:c.cls q=some S)(m:c.g.T P0=some (.tbl qs))(h:PS X st (kG (tMk cells S P0 qs) (i8 i))):PSf X c E st (aJE i q):=PS.imp h fun D σ H d=>by
 obtain ⟨ρ,F,ab,k⟩:=d
 refine aK0 b m ab fun v j H' e l=>?_
 exact Rk.ok k _ j H' e.ff ((ab.ext e).setF (a:=.k q) (let ⟨f,cl,doc,pm,cc,ct,h⟩:=l;⟨S,f,cl,doc,pm,cc,ct,n,h⟩) fun z=>nomatch z)
noncomputable def aDQ:O6 (O6 A)->O6 A
 | some (some (.d x))=>some (.d x)
 | some (some (.x e))=>some (.x e)
 | some (some (.g k n G))=>some (.g k n G)
 | _=>none
noncomputable def gT:List Nat->Sg->O6 (List A)
 | [],_=>some []
 | j::js,ρ=>match aDQ ρ[j]?,gT js ρ with
  | some a,some as=>some (a::as)
  | _,_=>none
theorem t5{o:O6 (O6 A)}{a:A}(h:aDQ o=some a):o=some (some a)/\∀ {c:Ct} {F H:Hp} {v:V},AO c F H a v->AF c.g c.K c.mg F a v:=by
 unfold aDQ at h
 split at h<;>cases h
 · exact ⟨rfl, fun z => z⟩
 · exact ⟨rfl, fun z => z⟩
 · exact ⟨rfl, fun z => z⟩
theorem aB3{c:Ct}{ρ:Sg}{σ:L2.St}{F H:Hp}(ab:Ab c ρ σ F H):∀ {js:List Nat} {caps:List A},gT js ρ=some caps->∃ cvs,AFs c.g c.K c.mg F caps cvs/\cvs.length=js.length/\∀ (i:Nat) j,js[i]? = some j->∃ v,cvs[i]? = some v/\σ[j]? = some (some v)
 | [],_,h=>by cases h;exact ⟨[],trivial,rfl,fun i j z=>by simp at z⟩
 | j::js,caps,h=>by
  unfold gT at h
  split at h
  .rename_i a as h1 h2
   cases h
   obtain ⟨cvs,r,l,g⟩:=aB3 ab h2
   obtain ⟨f,o⟩:=t5 h1
   obtain ⟨v,n,k⟩:=ab.slot j a f
   refine ⟨v::cvs,⟨o k,r⟩,by simp[l],fun i d e=>?_⟩
   cases i with
   | zero=>simp at e;subst e;exact ⟨v,rfl,n⟩
   | succ i=>obtain ⟨p,m,b⟩:=g i d (by simpa using e);exact ⟨p,by simpa using m,b⟩
  .cases h
def aH2(X:Cx)(T:Hp)(c:Ct)(js:List Nat)(ρ:Sg)(F:Hp)(a:A)(v:V):Prop:=AF c.g c.K c.mg F a v \/
 ∃ S fr sl k n Gm caps,a=.g k n (Gm caps)/\o4 c F S v/\CloOk X.prog X.w X.K X.mg X.base T S fr k n Gm/\(∀ y,(y,NameKind.free)∈S.scope.names->y∈fr)/\(∀ y∈fr,(y,NameKind.free)∈S.scope.names)/\sl.map (fun j=>X.N[j]?)=fr.map some/\(∀ j∈sl,j∈js)/\gT sl ρ=some caps
theorem aH2.same{X:Cx}{T:Hp}{c:Ct}{js:List Nat}{ρ:Sg}{F d:Hp}{a:A}{v:V}(s:aJ F d)(h:aH2 X T c js ρ F a v):aH2 X T c js ρ d a v:=by
 rcases h with h|⟨S,fr,e,k,n,Gm,b,h1,h2,f⟩
 · exact .inl (AF.same s h)
 · exact .inr ⟨S, fr, e, k, n, Gm, b, h1, h2.same s, f⟩
section
variable{X:Cx}{T:Hp}{c:Ct}{js:List Nat}{E:XK}{e:Ez}{es:List Ez}
theorem zQ:∀ {js:List Nat} {ρ:Sg} {caps:List A},gT js ρ=some caps->∀ j∈js,∃ a,ρ[j]? = some (some a)
 | [],_,_,_,j,hj=>by simp at hj
 | i::js,ρ,caps,h,j,hj=>by
  unfold gT at h
  split at h
  .rename_i a b h1 h2
   rcases AG.mp hj with z|z
   · subst z; exact ⟨a, (t5 h1).1⟩
   · exact zQ h2 j z
  .cases h
theorem aK2{α:Type}{N:List α}{a:List Nat}{fr:List α}(h:a.map (fun j=>N[j]?)=fr.map some):a.length=fr.length/\∀ (i:Nat) x,fr[i]? = some x->∃ j,a[i]? = some j/\N[j]? = some x:=by
 have b:a.length=fr.length:=by have:=D3 List.length h;simpa using this
 refine ⟨b,fun i x e=>?_⟩
 have hi:i < fr.length:=(AS.mp e).1
 have h2:(a.map (fun j=>N[j]?))[i]? = (fr.map some)[i]?:=by rw[h]
 rw[A0,A0,e,AH (by omega)] at h2
 exact ⟨a[i],AH _,BT h2⟩
theorem aH3{S:ClSt}{fr:List Str}{J:List Nat}{k n:Nat}{Gm:List A->List Dz->R Dz}{d:List A}{ρ:Sg}{σ:L2.St}{F H:Hp}{q:Cv}{v:V}(L:c.g=gOf X.prog X.w X.K X.mg X.base T)(I:X.K=c.K)(E:X.mg=c.mg)(p:X.env.cells=c.cells)(ab:Ab c ρ σ F H)(R:PubRel X σ H js q)
  (hA:o4 c F S v) (M:CloOk X.prog X.w X.K X.mg X.base T S fr k n Gm) (h1:∀ y,(y,NameKind.free)∈S.scope.names->y∈fr) (h2:∀ y∈fr,(y,NameKind.free)∈S.scope.names)
  (h3:J.map (fun j=>X.N[j]?)=fr.map some) (h4:∀ j∈J,j∈js) (hc:gT J ρ=some d):AF c.g c.K c.mg (pub q F) (.g k n (Gm d)) v:=by
 obtain ⟨f,cl,doc,pm,cc,ct,rfl,q1,q2,u⟩:=hA
 obtain ⟨cvs,r,l,gt⟩:=aB3 ab hc
 obtain ⟨W,g3⟩:=aK2 h3
 have C:∀ b∈iC q,F b=none:=fun b hb=>bK ab.fh (R.free b hb)
 have P:aJ F (pub q F):=gN C
 have s:∀ (i:Nat) x v,fr[i]? = some x->cvs[i]? = some v->∃ a o,cl.lookup x=some a/\q.lookup a=some (o,v):=fun i x v e1 e2=>by
  obtain ⟨j,m,B⟩:=g3 i x e1
  obtain ⟨v',U,e6⟩:=gt i j m
  rw[e2] at U;cases U
  obtain ⟨x',a,o,v2,Q,e8,Y,O⟩:=R.all j (h4 j (A6 m))
  rw[B] at Q;cases Q
  rw[e6] at Y;cases Y
  obtain ⟨Z,D⟩:=u.all (x,.free) (h2 x (A6 e1)) rfl
  have t:=u.of _ _ D
  rw[<-p] at t
  have h:X.env.cells.lookup x=some Z:=t
  rw[e8] at h;cases h
  exact ⟨a,o,D,O⟩
 refine ⟨f,pub q F,rfl,cB _,?_⟩
 rw[L]
 refine M F (pub q F) d cvs f cl doc pm ct cc (fun a o z=>ab.f0 a o (ab.t0 a o (by rw[L];exact z))) (by rw[I,E,<-I,<-E];rw[L] at r;rw[<-I,<-E] at r;exact r) P (P _ _ q1) (P _ _ q2) ⟨l.trans W,fun n c e=>h1 n (u.only n c e),fun n n' c e e'=>R.inj n n' c (by rw[p];exact u.of _ _ e) (by rw[p];exact u.of _ _ e'),fun i x v e1 e2=>?_⟩ fun a ha=>?_
 .obtain ⟨a,o,m,B⟩:=s i x v e1 e2
  exact ⟨a,o,m,yS B⟩
 .obtain ⟨x,hx,e⟩:=DC.mp ha
  obtain ⟨i,hi,G⟩:=ED.mp hx
  obtain ⟨Z,o,m,B⟩:=s i x (cvs[i]'(by rw[l,W];exact hi)) (by rw[AH hi,G]) (AH _)
  rw[e] at m;cases m
  exact C a (iR.mpr ⟨_,B⟩)
end
section
variable{P:P9}{w:W9}{K:Frag}{mg:Str->O6 V9}{base:Hz}{T:Hp}
structure DefAtT(K:Frag)(mg:Str->Option V9)(base:Heap)(T:Hp)(qs:List (Pos×Str))(x:Str)(st:Stmt)(ps:List Str):Prop where
 ex:∃ f oc od kV doc pm an c0 ct osl P0,K.lookup f=some ⟨oc,od,.func (PySem.W.fnOf x x (cZ st) (bY st) (aE st) .none kV doc pm an (.ref c0) ct),osl⟩/\PySem.W.codeIn K (.ref c0) x=true/\PySem.W.keepIn K (.ref f)=true /\
  cV K (PySem.W.fnOf x x (cZ st) (bY st) (aE st) .none kV doc pm an (.ref c0) ct) ps []/\mg x=some (.ref f)/\Tb mg base c0 P0/\T P0=some (.tbl qs)
theorem aP4{h:Hz}{qs:List (Pos×Str)}{xs:List Str}{x:Str}{st:Stmt}{ps:List Str}(D:DefAt K mg x st ps)(o:K.In h)(k:yV mg h base T qs xs)(hx:x∈xs):DefAtT K mg base T qs x st ps:=by
 obtain ⟨f,fd,F,b,m⟩:=D.ex
 obtain ⟨p,od,kV,doc,pm,n,c,ct,d,rfl,g,a⟩:=F.ex
 obtain ⟨c0,P0,i,l,j⟩:=k x hx
 have e:c=.ref c0:=j f _ _ m (o _ _ g) rfl
 subst e
 exact ⟨f,p,od,kV,doc,pm,n,c0,ct,d,P0,g,a,F.kp,b,m,l,i⟩
end
noncomputable def clS(q:Str):Stmt->ClSt
 | .FunctionDef x a b _ _ _ sc _ _ _=>⟨x,q,a,.stmts b,sc⟩
 | s=>⟨"",q,cZ s,.stmts [],aE s⟩
noncomputable def aP5:Stmt->Pos
 | .FunctionDef _ _ _ _ _ _ _ _ _ p=>p
 | _=>⟨0,0,0,0⟩
end Fl
namespace Zp
open PySem
section
variable{prog:P9}{w:W9}{A:U9}{E:V9->S9->Prop}{s:S9}
theorem rQ{it t:Az}{i:Nat}{items}{x:V9}{Q:V9->S9->Prop}(a:s.heap.IsTupleIter it t i)
  (ht:s.heap.IsTuple t items) (hx:items[i]? = some x) (g:∀ h',h'.IsTupleIter it t (i+1)->Heap.SameBut it s.heap h'->Q x {s with heap:=h'}) :
  wpAny (model prog w) A (Builtin.SmallTypes.nextOf (.ref it)) Q E s:=by
 obtain ⟨o,c,f,b⟩:=id a
 obtain ⟨j,d,_,h,e⟩:=ht
 unfold Builtin.SmallTypes.nextOf
 refine AA (CV (name:=Str.ofString "__next__") a.typeIs DH
  (DN DH a.typeIs FR ?_ (FJ _)))
 show wpAny _ _ (field (.ref it) 0 >>= _) _ _ s
 refine AA (BN c b (x:=.ref t) rfl ?_)
 show wpAny _ _ (if (Value.ref t == Value.none)=true then _ else _) _ _ s
 rw[AI (show ¬ ((Value.ref t == Value.none)=true) from CI)]
 show wpAny _ _ (field (.ref it) 1 >>= _) _ _ s
 refine AA (BN c b (x:=.int i 0) rfl ?_)
 show wpAny _ _ (seqItems? (.ref t) >>= _) _ _ s
 refine AA (C4 d e ?_)
 simp only[F5,hx]
 refine AA (ER c b (by simp) (AC ⟨x,rfl,AC (g _ ?_ (DS ..))⟩))
 exact ⟨_,CQ _ c (E4 (DZ b _)),(Obj.cls_mapFields ..).trans f,by
  rw[DZ b];simp[rawInt]⟩
theorem sQ{it t:Az}{i:Nat}{items}{Q:V9->S9->Prop}(h:A.handled=none)
  (b:s.heap.IsTupleIter it t i) (ht:s.heap.IsTuple t items) (hx:items[i]? = none)
  (j:∀ h' e,Heap.ExtBut it s.heap h'->(∃ o,h'.get? e=some o/\o.cls=.type "StopIteration")->E (.ref e) {s with heap:=h'}) :
  wpAny (model prog w) A (Builtin.SmallTypes.nextOf (.ref it)) Q E s:=by
 obtain ⟨o,f,k,g⟩:=id b
 obtain ⟨n,c,_,l,d⟩:=ht
 unfold Builtin.SmallTypes.nextOf
 refine AA (CV (name:=Str.ofString "__next__") b.typeIs DH
  (DN DH b.typeIs FR ?_ (FJ _)))
 show wpAny _ _ (field (.ref it) 0 >>= _) _ _ s
 refine AA (BN f g (x:=.ref t) rfl ?_)
 show wpAny _ _ (if (Value.ref t == Value.none)=true then _ else _) _ _ s
 rw[AI (show ¬ ((Value.ref t == Value.none)=true) from CI)]
 show wpAny _ _ (field (.ref it) 1 >>= _) _ _ s
 refine AA (BN f g (x:=.int i 0) rfl ?_)
 show wpAny _ _ (seqItems? (.ref t) >>= _) _ _ s
 refine AA (C4 c d ?_)
 simp only[F5,hx]
 refine AA (wpAny_rule (AA (ER f g (by simp) ?_)))
 show wpAny _ _ (newExc (.type "StopIteration") [] >>= _) _ _ _
 refine AA ?_
 simp only[newExc,newTuple]
 refine AA (B2 ?_ (by size_fits))
 refine AA (m:=firstArgMember _ _) (FM (a:=Value.none) (by first|rfl|(simp only[firstArgMember];rfl)) ?_)
 refine B2 ?_ (by size_fits)
 simp only[raiseNew]
 refine AA (wpAny_handled ?_)
 first|rw[show A.in1.handled=none from h]|rw[h]
 refine AA (AC (wpAny_throw ?_))
 exact j _ _ (((DS ..).extBut.push _).push _) ⟨_,AV _ rfl,rfl⟩
end
theorem aBB{prog:P9}{w:W9}{A:U9}(f:A.handled=none)(it l:Az)(c:l≠it)(items:Array V9) :
  Draws prog w A it [it,l] items.size (fun i v=>items[i]? = some v) (fun i h=>h.IsTupleIter it l i/\h.IsTuple l items) where
 live:=fun _ _ st=>let ⟨o,ho,_⟩:=st.1;⟨o,ho⟩
 frame:=fun _ _ _ st d=>⟨let ⟨o,ho,r⟩:=st.1;⟨o,d it (by simp) o ho,r⟩,let ⟨o,ho,r⟩:=st.2;⟨o,d l (by simp) o ho,r⟩⟩
 item:=fun i s Q E hi st g=>by
  refine rQ st.1 st.2 (x:=items[i]) (by simp[hi]) fun h' a b=>?_
  exact g _ h' s.toks (by simp[hi]) ⟨a,st.2.extBut b.extBut c⟩ b
 done:=fun s Q E st e=>sQ f st.1 st.2 (by simp) e
structure Apart(z TI TO i1 i2:Az)(f1 f2:List Az):Prop where
 TIz:TI≠z
 TOz:TO≠z
 i1z:i1≠z
 i2z:i2≠z
 TITO:TI≠TO
 TIi1:TI≠i1
 TIi2:TI≠i2
 TOi1:TO≠i1
 TOi2:TO≠i2
 i12:i1≠i2
 z1:z∉f1
 z2:z∉f2
 t1:TO∉f1
 t2:TO∉f2
 i1f2:i1∉f2
 i2f1:i2∉f1
section
variable{prog:P9}{w:W9}{A:U9}{E:V9->S9->Prop}{s:S9}
abbrev mL(h:Hz)(z TI TO:Az)(f0 f1:V9):Prop:=h.get? z=some {cls:=.type "zip",dict:=none,data:=.fields #[f0,f1,.bool false,.ref TI,.ref TO],slots:=#[]}
theorem aH4{M:Model}{A:U9}{E:V9->S9->Prop}{s:S9}{a:Az}{Q:O6 Obj->S9->Prop}(h:Q (s.heap.get? a) s):wpAny M A (loadIfAlive a) Q E s:=fun Γ p _=>by
 unfold loadIfAlive
 rw[Sem.wp_loadIfAlive]
 exact h
theorem wV{z TI TO:Az}{f0:V9}{d:Bool}{Q:Bool->S9->Prop}(b:mL s.heap z TI TO f0 (.bool d))(a:f0=.none\/∃ T:Az,f0=rawInt T/\s.heap.get? T=none)(h:Q true s):wpAny (model prog w) A (Builtin.SmallTypes.ownedTupleIsFree (.ref z)) Q E s:=by
 unfold Builtin.SmallTypes.ownedTupleIsFree
 refine AA (BN b rfl (x:=f0) rfl ?_)
 rcases a with rfl|⟨T,rfl,c⟩
 .exact AC h
 .show wpAny _ _ (loadIfAlive ((T:Int)).toNat >>= _) _ _ s
  refine AA (aH4 ?_)
  rw[show ((T:Int)).toNat=T by omega,c]
  exact AC h
theorem aFX{z TI TO i1 i2:Az}{f1 f2:List Az}{n1 n2 i:Nat}{P1 P2:Nat->V9->Prop}{S1 S2:Nat->Hz->Prop}{a b f0:V9}{bb:Bool}{Q:V9->S9->Prop}(D:Apart z TI TO i1 i2 f1 f2)
  (D1:Draws prog w A i1 f1 n1 P1 S1) (Y:Draws prog w A i2 f2 n2 P2 S2)
  (hz:mL s.heap z TI TO f0 (.bool bb)) (ai:f0=.none\/∃ T:Az,f0=rawInt T/\s.heap.get? T=none) (ae:IsPair s.heap TI (.ref i1) (.ref i2)) (ac:IsPair s.heap TO a b) (h1:S1 i s.heap) (h2:S2 i s.heap) (l1:i < n1) (l2:i < n2)
  (hQ:∀ x y h' tk,P1 i x->P2 i y->IsZip h' z TI TO (rawInt s.heap.objs.size)->IsPair h' TO x y->S1 (i+1) h'->S2 (i+1) h'->IsPair h' s.heap.objs.size x y->h'.objs.size=s.heap.objs.size+1->
   (∀ c o,c≠z->c≠TO->c≠i1->c≠i2->s.heap.get? c=some o->h'.get? c=some o)->Q (.ref s.heap.objs.size) {s with heap:=h',toks:=tk}) :
  wpAny (model prog w) A (Builtin.«zip.__next__» ⟨[.ref z],[]⟩) (fun af s'=>∃ v,af=.done (.ret v)/\Q v s') E s:=by
 show wpAny _ _ (field (.ref z) 2 >>= _) _ _ _
 refine AA (BN hz rfl (x:=.bool false) rfl ?_)
 show wpAny _ _ (field (.ref z) 3 >>= _) _ _ _
 refine AA (BN hz rfl (x:=.ref TI) rfl ?_)
 refine AA (C4 ae rfl ?_)
 show wpAny _ _ (Builtin.SmallTypes.ownedTupleIsFree (.ref z) >>= _) _ _ _
 refine AA (wV hz ai ?_)
 simp only[BP]
 refine AA (wpAny_rule ?_)
 refine AA (BN hz rfl (x:=.ref TO) rfl ?_)
 refine AA (DD hz (by simp) fun L u n=>?_)
 replace u:mL L z TI TO .ellipsis (.bool bb):=u
 refine AA ?_
 simp only[List.zipIdx_cons,List.zipIdx_nil,CY,G4]
 have fr:∀ {f:List Az} {c:Az} {g g':Hz},Heap.SameBut c g g'->c∉f->∀ b∈f,∀ o,g.get? b=some o->g'.get? b=some o:=fun hs hc b hb o e=>hs.extBut _ _ (fun z=>hc (z▸hb)) e
 refine AA (AA (FY ?_))
 show wpAny _ _ (Builtin.SmallTypes.nextOf (.ref i1) >>= _) _ _ _
 refine AA (D1.item i {s with heap:=L} _ _ l1 (D1.frame _ _ _ h1 (fr n D.z1)) fun x I ag px P k=>AC ?_)
 have J:IsPair I TO a b:=k.extBut _ _ D.TOi1 (n.extBut _ _ D.TOz ac)
 refine AA (C4 J rfl ?_)
 refine AA (FB J fun G p l=>?_)
 replace p:IsPair G TO x b:=p
 refine AA (wpAny_letGo (AC ?_))
 refine AA (AA (FY ?_))
 show wpAny _ _ (Builtin.SmallTypes.nextOf (.ref i2) >>= _) _ _ _
 refine AA (Y.item i {s with heap:=G,toks:=ag} _ _ l2 (Y.frame _ _ _ (Y.frame _ _ _ (Y.frame _ _ _ h2 (fr n D.z2)) (fr k D.i1f2)) (fr l D.t2)) fun y K ah py R h=>AC ?_)
 have h:Heap.SameBut i2 G K:=h
 have k:Heap.SameBut i1 L I:=k
 have H:IsPair K TO x b:=h.extBut _ _ D.TOi2 p
 refine AA (C4 H rfl ?_)
 refine AA (FB H fun d m j=>?_)
 replace m:IsPair d TO x y:=m
 refine AA (wpAny_letGo (AC (AC ?_)))
 refine AA (C4 m rfl ?_)
 refine AA (wpAny_newTuple ?_)
 have aa:d.objs.size=s.heap.objs.size:=by rw[j.1];show K.objs.size=_;rw[h.1,l.1];show I.objs.size=_;rw[k.1,n.1]
 have l:Heap.SameBut TO I G:=l
 have j:Heap.SameBut TO K d:=j
 have M:mL d z TI TO .ellipsis (.bool bb):=j.extBut _ _ D.TOz.symm (h.extBut _ _ D.i2z.symm (l.extBut _ _ D.TOz.symm (k.extBut _ _ D.i1z.symm u)))
 have S:∀ c o,c≠z->c≠TO->c≠i1->c≠i2->s.heap.get? c=some o->d.get? c=some o:=fun c o V c2 c3 c4 e=>
  j.extBut _ _ c2 (h.extBut _ _ c4 (l.extBut _ _ c2 (k.extBut _ _ c3 (n.extBut _ _ V e))))
 have U:S1 (i+1) d:=D1.frame _ _ _ (D1.frame _ _ _ (D1.frame _ _ _ P (fr l D.t1)) (fr h D.i2f1)) (fr j D.t1)
 have W:S2 (i+1) d:=Y.frame _ _ _ R (fr j D.t2)
 have O:z < d.objs.size:=AK M
 show wpAny _ _ (Builtin.SmallTypes.ownedTupleHandOut (.ref z) (.ref d.objs.size) >>= _) _ _ _
 refine AA ?_
 unfold Builtin.SmallTypes.ownedTupleHandOut
 have X:mL (d.push {cls:=.type "tuple",data:=.seq #[x,y]}) z TI TO .ellipsis (.bool bb):=AB _ M
 refine AA (DD X (by simp) fun h₇ F B=>?_)
 replace F:mL h₇ z TI TO (rawInt d.objs.size) (.bool bb):=F
 refine DD F (by simp) fun t r C=>?_
 replace r:IsZip t z TI TO (rawInt d.objs.size):=r
 have up:∀ c o,c≠z->d.get? c=some o->t.get? c=some o:=fun c o V e=>C.extBut _ _ V (B.extBut _ _ V (AB _ e))
 have N:IsPair t d.objs.size x y:=C.extBut _ _ (CL O) (B.extBut _ _ (CL O) (AV _ rfl))
 have Z:t.objs.size=d.objs.size+1:=by rw[C.1,B.1,BV]
 rw[aa] at r N Z
 refine AC ⟨_,rfl,?_⟩
 show Q (.ref d.objs.size) _
 rw[aa]
 exact hQ x y t ah px py r (up _ _ D.TOz m) (D1.frame _ _ _ U fun b hb o e=>up b o (fun q=>D.z1 (q▸hb)) e) (Y.frame _ _ _ W fun b hb o e=>up b o (fun q=>D.z2 (q▸hb)) e) N Z fun c o V c2 c3 c4 e=>up c o V (S c o V c2 c3 c4 e)
theorem aH5{z TI TO i1 i2:Az}{X Z:List Az}{n1 n2 i:Nat}{P1 P2:Nat->V9->Prop}{Y S2:Nat->Hz->Prop}{a b f0:V9}{M:Bool}{Q:Fin->S9->Prop}(D:Apart z TI TO i1 i2 X Z)
  (D1:Draws prog w A i1 X n1 P1 Y) (K:Draws prog w A i2 Z n2 P2 S2)
  (J:mL s.heap z TI TO f0 (.bool M)) (U:f0=.none\/∃ T:Az,f0=rawInt T/\s.heap.get? T=none) (S:IsPair s.heap TI (.ref i1) (.ref i2)) (R:IsPair s.heap TO a b) (h1:Y i s.heap) (h2:S2 i s.heap) (F:i=n1\/(i < n1/\i=n2))
  (W:∀ h' tk e,(∀ c o,c≠z->c≠TO->c≠i1->c≠i2->s.heap.get? c=some o->h'.get? c=some o)->(∃ o,h'.get? e=some o/\o.cls=.type "StopIteration")->E (.ref e) {s with heap:=h',toks:=tk}) :
  wpAny (model prog w) A (Builtin.«zip.__next__» ⟨[.ref z],[]⟩) Q E s:=by
 show wpAny _ _ (field (.ref z) 2 >>= _) _ _ _
 refine AA (BN J rfl (x:=.bool false) rfl ?_)
 show wpAny _ _ (field (.ref z) 3 >>= _) _ _ _
 refine AA (BN J rfl (x:=.ref TI) rfl ?_)
 refine AA (C4 S rfl ?_)
 show wpAny _ _ (Builtin.SmallTypes.ownedTupleIsFree (.ref z) >>= _) _ _ _
 refine AA (wV J U ?_)
 simp only[BP]
 refine AA (wpAny_rule ?_)
 refine AA (BN J rfl (x:=.ref TO) rfl ?_)
 refine AA (DD J (by simp) fun r l j=>?_)
 replace l:mL r z TI TO .ellipsis (.bool M):=l
 refine AA ?_
 simp only[List.zipIdx_cons,List.zipIdx_nil,CY,G4]
 have fr:∀ {f:List Az} {c:Az} {g g':Hz},Heap.SameBut c g g'->c∉f->∀ b∈f,∀ o,g.get? b=some o->g'.get? b=some o:=fun hs hc b hb o e=>hs.extBut _ _ (fun z=>hc (z▸hb)) e
 refine AA (AA (FY ?_))
 show wpAny _ _ (Builtin.SmallTypes.nextOf (.ref i1) >>= _) _ _ _
 rcases F with rfl|⟨l1,rfl⟩
 .refine AA (D1.done {s with heap:=r} _ _ (D1.frame _ _ _ h1 (fr j D.z1)) fun n e d N=>?_)
  obtain ⟨P,p,u⟩:=N
  have y:mL n z TI TO .ellipsis (.bool M):=d _ _ D.i1z.symm l
  have C:e≠z:=fun x=>by subst x;rw[y] at p;cases p;simp at u
  refine DD y (by simp) fun m _ h=>W m s.toks e (fun c o I _ V _ x=>h.extBut _ _ I (d _ _ V (j.extBut _ _ I x))) ⟨P,h.extBut _ _ C p,u⟩
 .refine AA (D1.item i {s with heap:=r} _ _ l1 (D1.frame _ _ _ h1 (fr j D.z1)) fun x n G px O d=>AC ?_)
  have d:Heap.SameBut i1 r n:=d
  have q:IsPair n TO a b:=d.extBut _ _ D.TOi1 (j.extBut _ _ D.TOz R)
  refine AA (C4 q rfl ?_)
  refine AA (FB q fun m L h=>?_)
  have h:Heap.SameBut TO n m:=h
  refine AA (wpAny_letGo (AC ?_))
  refine AA (AA (FY ?_))
  show wpAny _ _ (Builtin.SmallTypes.nextOf (.ref i2) >>= _) _ _ _
  refine AA (K.done {s with heap:=m,toks:=G} _ _ (K.frame _ _ _ (K.frame _ _ _ (K.frame _ _ _ h2 (fr j D.z2)) (fr d D.i1f2)) (fr h D.t2)) fun B e k N=>?_)
  have k:Heap.ExtBut i2 m B:=k
  obtain ⟨P,p,u⟩:=N
  have t:mL B z TI TO .ellipsis (.bool M):=k _ _ D.i2z.symm (h.extBut _ _ D.TOz.symm (d.extBut _ _ D.i1z.symm l))
  have C:e≠z:=fun x=>by subst x;rw[t] at p;cases p;simp at u
  refine DD t (by simp) fun H _ v=>W H G e (fun c o I c2 V c4 x=>v.extBut _ _ I (k _ _ c4 (h.extBut _ _ c2 (d.extBut _ _ V (j.extBut _ _ I x))))) ⟨P,v.extBut _ _ C p,u⟩
theorem aH6{z TI TO i1 i2:Az}{j m:List Az}{n1 n2 i:Nat}{k l:Nat->V9->Prop}{g f:Nat->Hz->Prop}{a b:V9}{Q:V9->S9->Prop}(D:Apart z TI TO i1 i2 j m)
 (D1:Draws prog w A i1 j n1 k g) (t:Draws prog w A i2 m n2 l f)
 (n:IsZip s.heap z TI TO .none) (e:IsPair s.heap TI (.ref i1) (.ref i2)) (d:IsPair s.heap TO a b) (h1:g i s.heap) (h2:f i s.heap) (q:i < n1) (p:i < n2)
 (r:∀ x y h' tk,k i x->l i y->IsZip h' z TI TO (rawInt s.heap.objs.size)->IsPair h' TO x y->g (i+1) h'->f (i+1) h'->IsPair h' s.heap.objs.size x y->h'.objs.size=s.heap.objs.size+1->
  (∀ c o,c≠z->c≠TO->c≠i1->c≠i2->s.heap.get? c=some o->h'.get? c=some o)->Q (.ref s.heap.objs.size) {s with heap:=h',toks:=tk}) :
 wpAny (model prog w) A (Builtin.«zip.__next__» ⟨[.ref z],[]⟩) (fun h s'=>∃ v,h=.done (.ret v)/\Q v s') E s:=aFX D D1 t n (.inl rfl) e d h1 h2 q p r
theorem aK3{z TI TO i1 i2:Az}{h l:List Az}{n1 n2 i:Nat}{p r:Nat->V9->Prop}{k j:Nat->Hz->Prop}{a b:V9}{Q:Fin->S9->Prop}(D:Apart z TI TO i1 i2 h l)
 (D1:Draws prog w A i1 h n1 p k) (q:Draws prog w A i2 l n2 r j)
 (n:IsZip s.heap z TI TO .none) (g:IsPair s.heap TI (.ref i1) (.ref i2)) (f:IsPair s.heap TO a b) (h1:k i s.heap) (h2:j i s.heap) (d:i=n1\/(i < n1/\i=n2))
 (m:∀ h' tk e,(∀ c o,c≠z->c≠TO->c≠i1->c≠i2->s.heap.get? c=some o->h'.get? c=some o)->(∃ o,h'.get? e=some o/\o.cls=.type "StopIteration")->E (.ref e) {s with heap:=h',toks:=tk}) :
 wpAny (model prog w) A (Builtin.«zip.__next__» ⟨[.ref z],[]⟩) Q E s:=aH5 D D1 q n (.inl rfl) g f h1 h2 d m
theorem aFY{z TI TO i1 i2:Az}{j l:List Az}{n1 n2 i:Nat}{n k:Nat->V9->Prop}{g f:Nat->Hz->Prop}{a b:V9}{Q:O6 V9->S9->Prop}(D:Apart z TI TO i1 i2 j l)
  (D1:Draws prog w A.in1 i1 j n1 n g) (B:Draws prog w A.in1 i2 l n2 k f)
  (h:IsZip s.heap z TI TO .none) (e:IsPair s.heap TI (.ref i1) (.ref i2)) (d:IsPair s.heap TO a b) (h1:g i s.heap) (h2:f i s.heap) (t:i < n1) (q:i < n2)
  (r:∀ x y h' tk,n i x->k i y->IsZip h' z TI TO (rawInt s.heap.objs.size)->IsPair h' TO x y->g (i+1) h'->f (i+1) h'->IsPair h' s.heap.objs.size x y->h'.objs.size=s.heap.objs.size+1->
   (∀ c o,c≠z->c≠TO->c≠i1->c≠i2->s.heap.get? c=some o->h'.get? c=some o)->Q (some (.ref s.heap.objs.size)) {s with heap:=h',toks:=tk}) :
  wpAny (model prog w) A (pyNext (.ref z)) Q E s:=by
 have m:s.TypeIs (.ref z) "zip":=⟨_,h,rfl⟩
 unfold pyNext
 exact AA (FV (CV (name:=Str.ofString "__next__") m FC
  (DN FC m F.entry_zip_next
   (aH6 D D1 B h e d h1 h2 t q fun x y h' tk G p2 J I v H u C p=>AC (r x y h' tk G p2 J I v H u C p)) (F.args_zip_next_1 _))))
theorem aH7{z TI TO i1 i2:Az}{j k:List Az}{n1 n2 i:Nat}{x t:Nat->V9->Prop}{n m:Nat->Hz->Prop}{a b:V9}{Q:O6 V9->S9->Prop}(D:Apart z TI TO i1 i2 j k)
  (D1:Draws prog w A.in1 i1 j n1 x n) (r:Draws prog w A.in1 i2 k n2 t m)
  (h:IsZip s.heap z TI TO .none) (g:IsPair s.heap TI (.ref i1) (.ref i2)) (f:IsPair s.heap TO a b) (h1:n i s.heap) (h2:m i s.heap) (d:i=n1\/(i < n1/\i=n2))
  (q:∀ h' tk,(∀ c o,c≠z->c≠TO->c≠i1->c≠i2->s.heap.get? c=some o->h'.get? c=some o)->Q none {s with heap:=h',toks:=tk}):wpAny (model prog w) A (pyNext (.ref z)) Q E s:=by
 have l:s.TypeIs (.ref z) "zip":=⟨_,h,rfl⟩
 unfold pyNext
 refine AA (FV (CV (name:=Str.ofString "__next__") l FC
  (DN FC l F.entry_zip_next (aK3 D D1 r h g f h1 h2 d fun h' tk e u p=>?_) (F.args_zip_next_1 _))))
 obtain ⟨o,y,v⟩:=p
 refine AA (EF (T:="StopIteration") (b:=true) ⟨o,y,v⟩ isSubtype_stop ?_)
 exact AC (q _ _ u)
end
def qA(v:V9)(o:Obj)(h:Hz):Prop:=∀ (prog:P9) (w:W9) (A:U9) (E:V9->S9->Prop) (s:S9) (Q:V9->S9->Prop),s.heap=h->Q (.ref h.objs.size) {s with heap:=h.push o}->wpAny (model prog w) A (pyIter v) Q E s
noncomputable abbrev H2(h:Hz)(o1 o2:Obj):Hz:=(h.push o1).push o2
noncomputable abbrev H3(h:Hz)(o1 o2:Obj):Hz:=(H2 h o1 o2).push {cls:=.type "tuple",data:=.seq #[.ref h.objs.size,.ref (h.push o1).objs.size]}
noncomputable abbrev H4(h:Hz)(o1 o2:Obj):Hz:=(H3 h o1 o2).push {cls:=.type "tuple",data:=.seq #[.none,.none]}
noncomputable abbrev H5(h:Hz)(o1 o2:Obj):Hz:=(H4 h o1 o2).push {cls:=.type "zip",data:=.fields #[.none,.bool false,.bool false,.ref (H2 h o1 o2).objs.size,.ref (H3 h o1 o2).objs.size]}
theorem aFZ(j f:V9)(a c:Obj) :
  Meets (Builtin.«zip.__new__» ⟨[.type "zip",j,f],[]⟩) (fun _ R s=>qA j a s.heap/\qA f c (s.heap.push a) /\
   R (.ok (.ret (.ref (H4 s.heap a c).objs.size))) {s with heap:=H5 s.heap a c}):=
 .of_wp fun prog w A R s h=>by
  obtain ⟨b,g,d,tk,os⟩:=s;obtain ⟨e,i,h⟩:=h
  have l:=sub_zip
  have m:∀ {A:U9} {E:V9->S9->Prop} {Q:V9->S9->Prop},Q (.ref b.objs.size) ⟨b.push a,g,d,tk,os⟩->wpAny (model prog w) A (pyIter j) Q E ⟨b,g,d,tk,os⟩:=fun k=>e prog w _ _ ⟨b,g,d,tk,os⟩ _ rfl k
  have p2:∀ {A:U9} {E:V9->S9->Prop} {Q:V9->S9->Prop},Q (.ref (b.push a).objs.size) ⟨(b.push a).push c,g,d,tk,os⟩->wpAny (model prog w) A (pyIter f) Q E ⟨b.push a,g,d,tk,os⟩:=fun k=>i prog w _ _ ⟨b.push a,g,d,tk,os⟩ _ rfl k
  wp_walk using m,p2
  exact ⟨_,rfl,h⟩
section
variable{prog:P9}{w:W9}{A:U9}{E:V9->S9->Prop}{s:S9}
theorem aH8{k j:V9}{a b:Obj}{Q:V9->S9->Prop}(h1:qA k a s.heap)(h2:qA j b (s.heap.push a))(q:a.isFreed=false)(r:b.isFreed=false)
  (h:∀ h',IsZip h' (s.heap.objs.size+4) (s.heap.objs.size+2) (s.heap.objs.size+3) .none->IsPair h' (s.heap.objs.size+2) (.ref s.heap.objs.size) (.ref (s.heap.objs.size+1))->
   IsPair h' (s.heap.objs.size+3) .none .none->h'.get? s.heap.objs.size=some a->h'.get? (s.heap.objs.size+1)=some b->h'.objs.size=s.heap.objs.size+5->
   (∀ c o,s.heap.get? c=some o->h'.get? c=some o)->Q (.ref (s.heap.objs.size+4)) {s with heap:=h'}) :
  wpAny (model prog w) A (call (.type "zip") [k,j]) Q E s:=by
 refine callType_new F.called_zip (by decide) (F.typeCall_zip_2 _ _) (F.newCall_zip_2 _ _) (fun obj=>F.args_object_init_3 obj _ _) F.entry_zip_new
  (aFZ k j a b) ⟨h1,h2,?_⟩
 have g:(s.heap.push a).objs.size=s.heap.objs.size+1:=BV ..
 have e:(H2 s.heap a b).objs.size=s.heap.objs.size+2:=by rw[BV,g]
 have d:(H3 s.heap a b).objs.size=s.heap.objs.size+3:=by rw[BV,e]
 have f:(H4 s.heap a b).objs.size=s.heap.objs.size+4:=by rw[BV,d]
 have t:(H5 s.heap a b).objs.size=s.heap.objs.size+5:=by rw[BV,f]
 have i:(H5 s.heap a b).get? (H4 s.heap a b).objs.size=some _:=AV _ rfl
 have l:(H5 s.heap a b).get? (H3 s.heap a b).objs.size=some _:=AB _ (AV _ rfl)
 have m:(H5 s.heap a b).get? (H2 s.heap a b).objs.size=some _:=AB _ (AB _ (AV _ rfl))
 have n:(H5 s.heap a b).get? (s.heap.push a).objs.size=some b:=AB _ (AB _ (AB _ (AV _ r)))
 have p:(H5 s.heap a b).get? s.heap.objs.size=some a:=AB _ (AB _ (AB _ (AB _ (AV _ q))))
 show _/\_
 rw[e,d,f] at i
 rw[g,e] at m
 rw[d] at l
 rw[g] at n
 rw[f]
 exact ⟨⟨_,i,rfl⟩,h _ i m l p n t fun c o x=>
  AB _ (AB _ (AB _ (AB _ (AB _ x))))⟩
end
end Zp
namespace L2
open PySem PySem.Spec PyProof.Rows
abbrev Col:=Hp->List V->Prop
structure ColOk(P:Program)(w:World)(K:Frag)(C:Col)(it:Az)(tn:Nat->Heap->Prop):Prop where
 obj:∀ i h,tn i h->∃ o,h.get? it=some o/\∀ v,o.data≠.cell v
 keep:∀ i h h',tn i h->(∀ o,h.get? it=some o->h'.get? it=some o)->tn i h'
 one:∀ (X:Cx),X.prog=P->X.w=w->X.K=K->∀ pins s σ H xs ys,Inv X pins σ H s->C H xs->C H ys->xs=ys
 draw:∀ (X:Cx),X.prog=P->X.w=w->X.K=K->∀ (i:Nat) (pins:List (Az×Obj)) (s:S9) (σ:St) (H:Hp) (xs:List V) (A:Around),Inv X pins σ H s->iX X pins H it->tn i s.heap->C H xs->A.handled=none->
  ∃ fp Pv St,Draws P w A it fp xs.length Pv St/\St i s.heap/\(∀ j h,St j h->tn j h)/\(∀ j v,Pv j v->∃ x,xs[j]? = some x/\bB x v)/\∀ b,iX X pins H b->b≠it->b∉fp
theorem aB4{X:Cx}{pins:List (Az×Obj)}{σ:St}{H:Hp}{s:S9}{b a:Az}{o:Obj}(I:Inv X pins σ H s)(f:iX X pins H b)(e:X.base.get? a=some o):b≠a:=by
 obtain ⟨_,_,_,d,_⟩:=f
 intro z
 rcases d with c|c
 .exact I.ok.noex a o e (z▸c)
 .have g:=AK e
  have h:=I.ok.bsz
  rw[z] at c
  exact absurd (AW g (BE h c)) (BO _)
theorem aF0{X:Cx}{pins:List (Az×Obj)}{σ:St}{H:Hp}{s:S9}{b a:Az}{xs:List V}(I:Inv X pins σ H s)(c:iX X pins H b)(h:SqL X.K H a xs):b≠a:=by
 rcases h with (h|⟨o,h⟩)|⟨o,vs,n,h,_⟩
 · intro z; rw [<- z, c.1] at h; cases h
 · intro z; rw [<- z, c.1] at h; cases h
 · exact aB4 I c (I.ok.mod.kin _ _ h)
theorem aF1{X:Cx}{pins:List (Az×Obj)}{σ:St}{H:Hp}{s:S9}{b a:Az}{xs:List V}(I:Inv X pins σ H s)(c:iX X pins H b)(h:SqT X.K H a xs):b≠a:=by
 rcases h with (h|⟨o,h⟩)|⟨o,vs,n,h,_⟩
 · intro z; rw [<- z, c.1] at h; cases h
 · intro z; rw [<- z, c.1] at h; cases h
 · exact aB4 I c (I.ok.mod.kin _ _ h)
theorem aH9{P:P9}{w:W9}{K:Frag}(a it:Az):ColOk P w K (fun H xs=>SqL K H a xs) it (fun i h=>h.IsListIter it a i) where
 obj:=fun i h ⟨o,e,c,d⟩=>⟨o,e,fun v z=>by rw[d] at z;cases z⟩
 keep:=fun i h h' st k=>st.at fun o e=>k o e
 one:=by
  intro X t q g pins s σ H xs ys I h1 h2
  subst g
  exact I.list_inj h1 h2
 draw:=by
  intro X t q g i pins s σ H xs A I C st n B
  subst t q g
  obtain ⟨f,m,p,J⟩:=I.list n
  have l:=aF0 I C n
  refine ⟨[it,a],(fun i v=>f.toArray[i]? = some v),(fun i h=>h.IsListIter it a i/\h.IsList a f.toArray),by rw[show xs.length=f.toArray.size by rw[m.length];simp];exact Draws.list B it a (BG l) f.toArray,⟨st,p.isList⟩,fun j h z=>z.1,fun j v e=>?_,fun b F E G=>?_⟩
  .have x:f[j]? = some v:=by simpa using e
   have y:j < xs.length:=by rw[m.length];exact (AS.mp x).1
   obtain ⟨u,r,D⟩:=m.get (AH y)
   rw[x] at r;cases r
   exact ⟨_,AH y,D⟩
  .rcases AG.mp G with z|z
   · exact E z
   · exact aF0 I F n (by simpa using z)
theorem aF2{P:P9}{w:W9}{K:Frag}(a it:Az):ColOk P w K (fun H xs=>SqT K H a xs) it (fun i h=>h.IsTupleIter it a i) where
 obj:=fun i h ⟨o,e,c,d⟩=>⟨o,e,fun v z=>by rw[d] at z;cases z⟩
 keep:=fun i h h' ⟨o,e,r⟩ k=>⟨o,k o e,r⟩
 one:=by
  intro X x q g pins s σ H xs ys I h1 h2
  subst g
  exact I.tuple_inj h1 h2
 draw:=by
  intro X x q g i pins s σ H xs A I D st n C
  subst x q g
  obtain ⟨f,m,p,L⟩:=I.tuple n
  have l:=aF1 I D n
  refine ⟨[it,a],(fun i v=>f.toArray[i]? = some v),(fun i h=>h.IsTupleIter it a i/\h.IsTuple a f.toArray),by rw[show xs.length=f.toArray.size by rw[m.length];simp];exact Zp.aBB C it a (BG l) f.toArray,⟨st,p⟩,fun j h z=>z.1,fun j v e=>?_,fun b G F J=>?_⟩
  .have y:f[j]? = some v:=by simpa using e
   have B:j < xs.length:=by rw[m.length];exact (AS.mp y).1
   obtain ⟨u,t,E⟩:=m.get (AH B)
   rw[y] at t;cases t
   exact ⟨_,AH B,E⟩
  .rcases AG.mp J with z|z
   · exact F z
   · exact aF1 I G n (by simpa using z)
noncomputable def vR(z:Str):List V:=z.cps.toList.map fun c=>V.str ⟨#[c]⟩
theorem aK4{P:P9}{w:W9}{K:Frag}(z:Str)(t:Tok)(it:Az):ColOk P w K (fun _ xs=>xs=vR z) it (fun i h=>h.IsStrIter it (strIterType z) z t i) where
 obj:=fun i h ⟨o,e,c,d⟩=>⟨o,e,fun v z=>by rw[d] at z;cases z⟩
 keep:=fun i h h' ⟨o,e,r⟩ k=>⟨o,k o e,r⟩
 one:=fun _ _ _ _ _ _ _ _ _ _ _ h1 h2=>h1.trans h2.symm
 draw:=by
  intro X l g f i pins s σ H xs A I x st m a
  subst l g f m
  have n:Draws X.prog X.w A it [it] z.cps.size (fun i v=>∃ c u,z.cps[i]? = some c/\v=.str ⟨#[c]⟩ u) (fun i h=>h.IsStrIter it (strIterType z) z t i):=by
   unfold strIterType
   split
   · exact Draws.strAscii a it z t
   · exact Draws.strWide a it z t
  refine ⟨[it],_,_,by rw[show (vR z).length=z.cps.size by unfold vR;simp];exact n,st,fun j h z=>z,?_,fun b y p q=>p (by simpa using q)⟩
  rintro j v ⟨c,u,hc,rfl⟩
  exact ⟨.str ⟨#[c]⟩,by unfold vR;rw[A0,D6,hc];rfl,u,rfl⟩
def Itz(C1 C2:Col):It:=
 ⟨fun i H=>∃ xs ys,C1 H xs/\C2 H ys/\i < xs.length/\i < ys.length,fun i H x H'=>∃ p u v,H p=none/\x=.ref p/\H'=upd H p (.tup [u,v])/\(∀ xs,C1 H xs->xs[i]? = some u)/\∀ ys,C2 H ys->ys[i]? = some v,
  fun i H=>∃ xs ys,C1 H xs/\C2 H ys/\(i=xs.length\/(i < xs.length/\i=ys.length))⟩
theorem aIA{P:P9}{w:W9}{K:Frag}{es:List Ez}{k1}{tpos:Pos}{C1 C2:Col}{z TI TO i1 i2:Az}{t1 t2:Nat->Hz->Prop}(T:ColOk P w K C1 i1 t1)(R:ColOk P w K C2 i2 t2)(hd:[z,TI,TO,i1,i2].Nodup) :
  Turn P w K (.Tuple es k1 tpos) (Itz C1 C2) [z,TI,TO,i1,i2] z (fun i h=>IsZip h z TI TO .none/\IsPair h TI (.ref i1) (.ref i2)/\(∃ a b,IsPair h TO a b)/\t1 i h/\t2 i h) where
 mem:=by simp
 obj:=fun i h al c hc=>by
  obtain ⟨s1,F,⟨a,b,N⟩,L,M⟩:=al
  simp only[AG,AY,BR] at hc
  rcases hc with rfl|rfl|rfl|rfl|rfl
  .exact ⟨_,s1,fun v z=>by have z':Data.fields _=Data.cell v:=z;cases z'⟩
  .exact ⟨_,F,fun v z=>by have z':Data.seq _ _=Data.cell v:=z;cases z'⟩
  .exact ⟨_,N,fun v z=>by have z':Data.seq _ _=Data.cell v:=z;cases z'⟩
  .exact T.obj i h L
  .exact R.obj i h M
 keep:=fun i h h' ⟨s1,F,⟨a,b,N⟩,L,M⟩ k=>⟨k z (by simp) _ s1,k TI (by simp) _ F,⟨a,b,k TO (by simp) _ N⟩,T.keep i h h' L fun o e=>k i1 (by simp) o e,R.keep i h h' M fun o e=>k i2 (by simp) o e⟩
 item:=by
  intro X G J C hc i pins s σ H E I f st hg
  obtain ⟨s1,F,⟨a,b,N⟩,L,M⟩:=st
  obtain ⟨xs,ys,q1,q2,l1,l2⟩:=hg
  simp only[BU,AG,AY,BR,G5,C3,and_true,GF] at hd
  obtain ⟨⟨d1,d2,Y,Z⟩,⟨d5,d6,d7⟩,⟨d8,d9⟩,p⟩:=hd
  have t:X.A.in1.handled=none:=I.ok.hd hc
  obtain ⟨f1,P1,S1,D1,a1,a2,a3,O⟩:=T.draw X G J C i pins s σ H xs X.A.in1 I (f i1 (by simp)) L q1 t
  obtain ⟨f2,P2,S2,D2,b1,b2,b3,V⟩:=R.draw X G J C i pins s σ H ys X.A.in1 I (f i2 (by simp)) M q2 t
  have ag:=fun zs (h:C1 H zs)=>T.one X G J C pins s σ H zs xs I h q1
  have ae:=fun zs (h:C2 H zs)=>R.one X G J C pins s σ H zs ys I h q2
  subst G J C
  have D:Zp.Apart z TI TO i1 i2 f1 f2:=⟨BG d1,BG d2,BG Y,BG Z,d5,d6,d7,d8,d9,p,O z (f z (by simp)) Y,V z (f z (by simp)) Z,O TO (f TO (by simp)) d8,V TO (f TO (by simp)) d9,V i1 (f i1 (by simp)) p,O i2 (f i2 (by simp)) (BG p)⟩
  refine Zp.aFY D D1 D2 s1 F N a1 b1 l1 l2 fun x y h' tk px py g1 g2 g3 g4 g5 g6 kp=>?_
  obtain ⟨u,hu,ru⟩:=a3 i x px
  obtain ⟨v,hv,rv⟩:=b3 i y py
  refine ⟨_,rfl,wpAny_letOwnedTupleGo_zip g1 fun h2 se W=>?_⟩
  have ak:s.heap.objs.size≠z:=CL (AK s1)
  have aj:h2.get? s.heap.objs.size=some {cls:=.type "tuple",data:=.seq #[x,y]}:=(W.2 _ ak).trans g5
  have fT:H s.heap.objs.size=none:=I.hok.fresh (AM _)
  have g:∀ c o,c∉[z,TI,TO,i1,i2]->s.heap.get? c=some o->h2.get? c=some o:=fun c o d q=>by
   simp only[AG,AY,BR,G5] at d
   exact (W.2 c d.1).trans (kp c o d.1 d.2.2.1 d.2.2.2.1 d.2.2.2.2 q)
  have B:∀ c l,H c=some l->c∉[z,TI,TO,i1,i2]:=fun c l q j=>by rw[(f c j).1] at q;cases q
  have aa:HOk X.prog X.w H h2:=fun c l q=>by
   refine (I.hok c l q).stay (fun c' v' d q'=>g c' v' ?_ q') (fun _ q=>q) (fun _ _ q=>q) fun _ _ q=>q
   rcases d with j|j
   .rw[j];exact B c l q
   .exact B c' _ j
  have ah:HOk X.prog X.w (upd H s.heap.objs.size (.tup [u,v])) h2:=HOk.track aa fT ⟨by show 2<=sizeLine;decide,[x,y],.cons ru (.cons rv .nil),⟨_,aj,⟨rfl,rfl⟩,_,rfl⟩⟩
  have S:∀ c l,H c=some l->c≠s.heap.objs.size:=fun c l q=>bS q fT
  have I2:Inv X pins σ (upd H s.heap.objs.size (.tup [u,v])) {s with heap:=h2,gens:=s.gens,drawn:=s.drawn,toks:=tk}:=by
   refine I.step (ch:=[z,TI,TO,i1,i2]) (fun c d=>?_) (fun c o _ _ d q _=>g c o d q) (fun c o _ _ d q _=>⟨o.slots,g c o d q⟩)
    (fun c o _ q n=>by rw[aF (A4 (AK q))];exact n) (fun c o d q=>⟨o,g c o d q⟩) (fun c ys q=>by rw[aF (S c _ q)];exact q) (fun c o l q=>by rw[aF (S c _ q)];exact q)
    (fun c ps q=>by rw[aF (S c _ q)];exact q) (fun m hm=>?_) ah I.bare
   .obtain ⟨e0,e1,e2,e3,e4,e5⟩:=f c d
    exact ⟨e3,e1,e4,e5⟩
   .obtain ⟨o,U,ep,ho,r⟩:=hm
    exact ⟨o,U,ep,g _ o (fun j=>(f _ j).2.1 rfl) ho,r⟩
  refine ⟨.ref s.heap.objs.size,_,I2,rfl,⟨_,u,v,fT,rfl,rfl,fun zs Q=>by rw[ag zs Q];exact hu,fun zs Q=>by rw[ae zs Q];exact hv⟩,⟨se,(W.2 TI (BG d1)).trans (kp TI _ (BG d1) d5 d6 d7 F),⟨x,y,(W.2 TO (BG d2)).trans g2⟩,T.keep _ _ _ (a2 _ _ g3) fun o e=>(W.2 i1 (BG Y)).trans e,R.keep _ _ _ (b2 _ _ g4) fun o e=>(W.2 i2 (BG Z)).trans e⟩,fun c d=>?_⟩
  rw[aF]
  .exact (f c d).1
  .intro j
   have ac:c < s.heap.objs.size:=by
    simp only[AG,AY,BR] at d
    rcases d with rfl|rfl|rfl|rfl|rfl
    · exact AK s1
    · exact AK F
    · exact AK N
    · obtain ⟨o, e, _⟩ := T.obj _ _ L; exact AK e
    · obtain ⟨o, e, _⟩ := R.obj _ _ M; exact AK e
   rw[j] at ac
   exact absurd ac (BO _)
 done:=by
  intro X G J C hc i pins s σ H E I f st hg
  obtain ⟨s1,F,⟨a,b,N⟩,L,M⟩:=st
  obtain ⟨xs,ys,q1,q2,af⟩:=hg
  simp only[BU,AG,AY,BR,G5,C3,and_true,GF] at hd
  obtain ⟨⟨d1,d2,Y,Z⟩,⟨d5,d6,d7⟩,⟨d8,d9⟩,p⟩:=hd
  have t:X.A.in1.handled=none:=I.ok.hd hc
  obtain ⟨f1,P1,S1,D1,a1,a2,a3,O⟩:=T.draw X G J C i pins s σ H xs X.A.in1 I (f i1 (by simp)) L q1 t
  obtain ⟨f2,P2,S2,D2,b1,b2,b3,V⟩:=R.draw X G J C i pins s σ H ys X.A.in1 I (f i2 (by simp)) M q2 t
  subst G J C
  have D:Zp.Apart z TI TO i1 i2 f1 f2:=⟨BG d1,BG d2,BG Y,BG Z,d5,d6,d7,d8,d9,p,O z (f z (by simp)) Y,V z (f z (by simp)) Z,O TO (f TO (by simp)) d8,V TO (f TO (by simp)) d9,V i1 (f i1 (by simp)) p,O i2 (f i2 (by simp)) (BG p)⟩
  refine Zp.aH7 D D1 D2 s1 F N a1 b1 af fun h' tk kp=>⟨rfl,?_⟩
  have g:∀ c o,c∉[z,TI,TO,i1,i2]->s.heap.get? c=some o->h'.get? c=some o:=fun c o d q=>by
   simp only[AG,AY,BR,G5] at d
   exact kp c o d.1 d.2.2.1 d.2.2.2.1 d.2.2.2.2 q
  have B:∀ c l,H c=some l->c∉[z,TI,TO,i1,i2]:=fun c l q j=>by rw[(f c j).1] at q;cases q
  have ai:∀ c o,s.heap.get? c=some o->c∈[TI]->h'.get? c=some o:=fun c o e hm=>by
   have:c=TI:=by simpa using hm
   subst this
   exact kp c o (BG d1) d5 d6 d7 e
  refine I.step (g':=s.gens) (d':=s.drawn) (ch:=[z,TI,TO,i1,i2]) (fun c d=>?_) (fun c o _ _ d q _=>g c o d q) (fun c o _ _ d q _=>⟨o.slots,g c o d q⟩) (fun _ _ _ _ n=>n) (fun c o d q=>⟨o,g c o d q⟩) (fun _ _ q=>q) (fun _ _ _ q=>q) (fun _ _ q=>q) (fun m hm=>?_) (fun c l q=>?_) I.bare
  .obtain ⟨e0,e1,e2,e3,e4,e5⟩:=f c d
   exact ⟨e3,e1,e4,e5⟩
  .obtain ⟨o,U,ep,ho,r⟩:=hm
   exact ⟨o,U,ep,g _ o (fun j=>(f _ j).2.1 rfl) ho,r⟩
  .refine (I.hok c l q).stay (fun c' v' d q'=>g c' v' ?_ q') (fun _ q=>q) (fun _ _ q=>q) fun _ _ q=>q
   rcases d with j|j
   .rw[j];exact B c l q
   .exact B c' _ j
 self:=fun _ _ _ _ _ st h=>wpAny_pyIter_zip st.1 h
def aDR(K:Frag)(H:Hp)(x:V)(C:Col):Prop:=
 (∃ a xs,x=.ref a/\SqL K H a xs/\C=fun H xs=>SqL K H a xs)\/(∃ a xs,x=.ref a/\SqT K H a xs/\C=fun H xs=>SqT K H a xs)\/∃ z,x=.str z/\C=fun _ xs=>xs=vR z
theorem zR{X:Cx}{pins:List (Az×Obj)}{σ:St}{H:Hp}{s:S9}{x:V}{u:V9}{C:Col}(I:Inv X pins σ H s)(r:bB x u)(h:aDR X.K H x C) :
  ∃ (o:Obj) (tn:Az->Nat->Hz->Prop),(∀ h':Hz,(∀ b ob,s.heap.get? b=some ob->h'.get? b=some ob)->Zp.qA u o h')/\o.isFreed=false/\(∀ it,ColOk X.prog X.w X.K C it (tn it))/\∀ it h',h'.get? it=some o->tn it 0 h':=by
 rcases h with ⟨a,xs,rfl,f,rfl⟩|⟨a,xs,rfl,f,rfl⟩|⟨z,rfl,rfl⟩
 .cases r
  obtain ⟨c,j,p,g⟩:=I.list f
  refine ⟨{cls:=.type "list_iterator",data:=.fields #[.ref a,.int 0 0]},fun it i h=>h.IsListIter it a i,fun h' d prog w A E s' Q e q=>?_,rfl,fun it=>aH9 a it,fun it h' e=>⟨_,e,rfl,rfl⟩⟩
  subst e
  refine GB (l:=a) (items:=c.toArray) ?_ q
  obtain ⟨o,e,r⟩:=p.isList
  exact ⟨o,d _ _ e,r⟩
 .cases r
  obtain ⟨c,j,p,g⟩:=I.tuple f
  refine ⟨{cls:=.type "tuple_iterator",data:=.fields #[.ref a,.int 0 0]},fun it i h=>h.IsTupleIter it a i,fun h' d prog w A E s' Q e q=>?_,rfl,fun it=>aF2 a it,fun it h' e=>⟨_,e,rfl,rfl⟩⟩
  subst e
  refine FQ (t:=a) (items:=c.toArray) ?_ q
  obtain ⟨o,e,r⟩:=p
  exact ⟨o,d _ _ e,r⟩
 .obtain ⟨t,rfl⟩:=r
  refine ⟨{cls:=.type (strIterType z),data:=.fields #[.str z t,.int 0 0]},fun it i h=>h.IsStrIter it (strIterType z) z t i,fun h' d prog w A E s' Q e q=>?_,rfl,fun it=>aK4 z t it,fun it h' e=>⟨_,e,rfl,rfl⟩⟩
  subst e
  exact wpAny_pyIter_strU q
def aNK(K:Frag)(ta:TA):TI:=fun σ H R=>ta σ H fun vs H1=>∃ x y C1 C2,vs=[x,y]/\aDR K H1 x C1/\aDR K H1 y C2/\R (Itz C1 C2) H1
theorem aNL{X:Cx}{es:List Ez}{k1}{tpos:Pos}{a b:Ez}{ta:TA}{p pos:Pos}(D:Gl X "zip")(hm:X.mg "zip"=none)(ha:PA X [a,b] ta)(M:starEach [a,b] X.env=[(false,eval a X.env),(false,eval b X.env)]:=by rfl)(hs2:starEach [b] X.env=[(false,eval b X.env)]:=by rfl) :
  PI X (.Tuple es k1 tpos) (.Call (.Name "zip" p) [a,b] [] pos) (aNK X.K ta):=by
 intro pins s σ H R I h
 refine Call_ (iZ I D hm PyProof.Rows.boot_zip (B6 (thn (ha pos pins s σ H _ I h) fun us s1 ⟨vs,H1,f,F,k⟩=>?_) (by rw[M,hs2]) (by rw[hs2];rfl)))
 obtain ⟨x,y,S,N,rfl,B,n,q⟩:=k
 cases F with
 | cons ru rr=>
  cases rr with
  | cons rv rr=>
   cases rr
   rename_i T _ P
   obtain ⟨V,U,t,r,E,v⟩:=zR f ru B
   obtain ⟨W,Q,G,C,J,L⟩:=zR f rv n
   refine Zp.aH8 (t _ fun _ _ e=>e) (G _ fun _ _ e=>AB _ e) r C fun h' i l j m w O A=>?_
   have o:Inv X pins σ H1 {s1 with heap:=h'}:=f.kept (t':=s1.toks) A
   refine wpAny_pyIter_zip i ?_
   refine ⟨s1.heap.objs.size+4,[s1.heap.objs.size+4,s1.heap.objs.size+2,s1.heap.objs.size+3,s1.heap.objs.size,s1.heap.objs.size+1],_,_,H1,rfl,o,aIA (E _) (J _) ?_,⟨i,l,⟨_,_,j⟩,v _ _ m,L _ _ w⟩,fun c g=>?_,q⟩
   .simp only[BU,AG,AY,BR,G5,C3,and_true,GF]
    refine ⟨⟨?_,?_,?_,?_⟩,⟨?_,?_,?_⟩,⟨?_,?_⟩,?_⟩<;>(intro z;have u:=D3 (fun x:Nat=>x - s1.heap.objs.size) z;simp at u)
   .have d:s1.heap.objs.size<=c:=by
     simp only[AG,AY,BR] at g
     rcases g with rfl|rfl|rfl|rfl|rfl
     · exact E1 _ _
     · exact E1 _ _
     · exact E1 _ _
     · exact AM _
     · exact E1 _ _
    exact f.fpOk d (f.hok.fresh d)
end L2
namespace Fl
open PySem L2 PyProof.Rows
noncomputable def aDS(p:Dz×Dz):Dz:=.tuple [p.1,p.2]
noncomputable def zS(x y:Dz):R (List Dz):=(cC x).bind fun xs=>(cC y).bind fun ys=>.ok ((xs.zip ys).map aDS)
theorem aDT{d:Dz}{xs:List Dz}(h:cC d=.ok xs):xs.length<=16777216:=by
 unfold cC at h
 split at h
 .split at h
  · rename_i a; cases h; exact a
  · cases h
 .split at h
  · rename_i a; cases h; exact a
  · cases h
 .split at h
  · rename_i a; cases h; rw [AD]; exact a
  · cases h
 .cases h
theorem wW{d:Dz}{e:Er}:cC d≠.ex e:=by
 intro h
 unfold cC at h
 split at h
 · split at h <;> cases h
 · split at h <;> cases h
 · split at h <;> cases h
 · cases h
theorem zT{K:Frag}{F:Hp}:∀ (cs:List Nat),DatVs K F (cs.map fun c=>V.str ⟨#[c]⟩) (cs.map fun c=>PyData.str ⟨#[c]⟩)
 | []=>.nil
 | c::t=>.cons (.str _) (zT t)
theorem zU{K:Frag}{F B:Hp}{v:V}{d:Dz}{xs:List Dz}(s:aJ F B)(r:DatV K F v d)(h:cC d=.ok xs):∃ C vs,aDR K B v C/\(∀ H1,aJ F H1->C H1 vs)/\DatVs K F vs xs:=by
 unfold cC at h
 split at h
 .split at h
  .cases h
   obtain ⟨p,vs,rfl,h1,h2⟩:=DatV.lst_of r
   exact ⟨_,vs,.inl ⟨p,vs,rfl,h1.same s,rfl⟩,fun H1 q=>h1.same q,h2⟩
  .cases h
 .split at h
  .cases h
   obtain ⟨p,vs,rfl,h1,h2⟩:=DatV.tup_of r
   exact ⟨_,vs,.inr (.inl ⟨p,vs,rfl,h1.same s,rfl⟩),fun H1 q=>h1.same q,h2⟩
  .cases h
 .rename_i z
  split at h
  .cases h
   obtain rfl:=DatV.str_of r
   exact ⟨_,vR z,.inr (.inr ⟨z,rfl,rfl⟩),fun _ _=>rfl,zT _⟩
  .cases h
 .cases h
theorem aB5{α β:Type}:∀ {xs:List α} {ys:List β} {i:Nat} {x:α} {y:β},xs[i]? = some x->ys[i]? = some y->(xs.zip ys)[i]? = some (x,y)
 | [],_,_,_,_,h,_=>by simp at h
 | _::_,[],_,_,_,_,h=>by simp at h
 | x::xs,y::ys,0,_,_,h1,h2=>by simp at h1 h2;subst h1 h2;rfl
 | x::xs,y::ys,i+1,_,_,h1,h2=>by
  show (xs.zip ys)[i]? = _
  exact aB5 (by simpa using h1) (by simpa using h2)
theorem aK5{K:Frag}{F B:Hp}{h k:Col}{us vs:List V}{xs ys:List Dz}(s:xs.length<=16777216)(h1:∀ H1,aJ F H1->aJ B H1->h H1 us)(h2:∀ H1,aJ F H1->aJ B H1->k H1 vs)(d1:DatVs K F us xs)(d2:DatVs K F vs ys) :
  Yld K (Itz h k) F B ((xs.zip ys).map aDS) where
 len:=by rw[dB,AD,GV];omega
 go:=fun i g H1 d c a hi=>by
  rw[AD,GV] at hi
  have b:aJ F H1:=fun x o z=>c x o (d x o z)
  exact ⟨us,vs,h1 H1 b a,h2 H1 b a,by rw[d1.length];omega,by rw[d2.length];omega⟩
 yld:=fun i g H1 v H2 x d c a y e=>by
  obtain ⟨p,u,w,f,rfl,rfl,l,n⟩:=y
  have b:aJ F H1:=fun x o z=>c x o (d x o z)
  obtain ⟨dx,e1,m⟩:=d1.get (l us (h1 H1 b a))
  obtain ⟨r,e2,q⟩:=d2.get (n vs (h2 H1 b a))
  rw[A0,aB5 e1 e2] at e
  cases e
  have j:=aJ.upd (o:=.tup [u,w]) (bK c f)
  exact ⟨_,Ext.new c f,.tup (SqT.of aQ) (.cons ((m.same d).same j) (.cons ((q.same d).same j) .nil))⟩
 stop:=fun g H1 d c a=>by
  have b:aJ F H1:=fun x o z=>c x o (d x o z)
  refine ⟨us,vs,h1 H1 b a,h2 H1 b a,?_⟩
  rw[AD,GV,d1.length,d2.length]
  omega
section
variable{X:Cx}{c:Ct}{E:XK}{tg e:Ez}
theorem aK6{f g:Sg->R Dz}(i:X.K=c.K)(h:PI X tg e (aNK X.K (dN (tV (cK c) c E f) (dN (tV (cK c) c E g) f7)))):PI0 X c E tg e (fun ρ=>(f ρ).bind fun x=>(g ρ).bind fun y=>zS x y):=PI.imp h fun σ H Q b=>by
 obtain ⟨ρ,F,ab,k⟩:=b
 refine ⟨ρ,F,ab,(Rk.bind k).imp fun x _ q v p H1 s1 m=>⟨ρ,p,ab.ext s1,((Rk.bind q).ext s1).imp fun y _ q w d H' s r=>?_⟩⟩
 unfold zS at q
 cases e1:cC x with
 | bad=>rw[e1] at q;exact q.elim
 | ex e=>exact absurd e1 wW
 | ok xs=>
  rw[e1] at q
  cases e2:cC y with
  | bad=>rw[R.bind_ok,e2] at q;exact q.elim
  | ex e=>exact absurd e2 wW
  | ok ys=>
   rw[R.bind_ok,e2] at q
   have a:DatV c.K d v x:=DatV.same s.ff m
   obtain ⟨t,us,u,n,l⟩:=zU s.fh a e1
   obtain ⟨B,vs,o,j,A⟩:=zU s.fh r e2
   rw[i]
   exact ⟨v,w,t,B,rfl,u,o,Rk.ok q _ d H' (s1.trans s) (aK5 (aDT e1) (fun H1 z _=>n H1 z) (fun H1 z _=>j H1 z) l A)⟩
end
end Fl
namespace L2
open PySem PySem.Spec PyProof.Rows
end L2
namespace Fl
open PySem L2 PyProof.Rows
section
variable{X:Cx}{c:Ct}{E:XK}{e a b:Ez}{st:Stmt}{pos:Pos}
noncomputable def aO4(i:Nat)(f g:Sg->R Dz):Sg->R Fw:=fun ρ=>match ρ[i]? with
 | some (some (.m kvs))=>(f ρ).bind fun k=>(g ρ).bind fun y=>if eD k (kvs.map (·.1))=true/\kvs.length<=16777216 then .ok (.nx (if fG kvs k=true then ρ else ρ.set i (some (.m (putM kvs k y))))) else .bad
 | _=>.bad
end
def aP6(i:Nat):Sg->R Fw:=fun ρ=>match ρ[i]? with
 | some (some (.l xs))=>.ok (.nx (ρ.set i (some (.l xs.reverse))))
 | _=>.bad
end Fl
namespace Zp
open PySem
end Zp
namespace Fl
open PySem L2 PyProof.Rows
end Fl
namespace Zp
open PySem
def Raw(h:Hz)(d:Az)(ar:Array DictEntry)(ep:Nat):Prop:=∃ o,h.get? d=some o/\o.ExactDict/\o.data=.dict ar ep
end Zp
namespace Fl
open PySem L2 PyProof.Rows
section
variable{X:Cx}{c:Ct}{E:XK}{tg e:Ez}
end
end Fl
namespace Zp
open PySem
structure Jz(P1 P2:Nat->V9->Prop)(S1 S2:Nat->Heap->Prop)(s0:Heap)(z TI TO i1 i2 S:Az)(n:Nat)(acc:Array V9)(h:Heap):Prop where
 size:acc.size<=n
 inc:∀ (j k p q:Nat),j < k->acc[j]? = some (.ref p)->acc[k]? = some (.ref q)->p < q
 top:∀ (j p:Nat),acc[j]? = some (.ref p)->p < h.objs.size
 told:∀ (j:Nat) v,acc[j]? = some v->∃ p x y,v=.ref p/\S < p/\IsPair h p x y/\P1 j x/\P2 j y
 s1:S1 acc.size h
 s2:S2 acc.size h
 ti:IsPair h TI (.ref i1) (.ref i2)
 keep:∀ c o,c≠z->c≠TO->c≠i1->c≠i2->c≠S->s0.get? c=some o->h.get? c=some o
 big:S < h.objs.size
 st:(acc.size=0/\IsZip h z TI TO .none/\∃ a b,IsPair h TO a b)\/(0 < acc.size/\∃ (T:Az) (bb:Bool) (o:Obj),mL h z TI TO (rawInt T) (.bool bb)/\h.get? T=some o/\S < T)
end Zp
namespace L2
open PySem PySem.Spec PyProof.Rows
structure LZ(H1 H2:Hp)(xs ys:List V)(l:Az)(ps:List Az):Prop where
 same:∀ b o,H1 b=some o->H2 b=some o
 new:H1 l=none
 lst:H2 l=some (.lst (ps.map .ref))
 len:ps.length=min xs.length ys.length
 tup:∀ (j:Nat) p,ps[j]? = some p->H1 p=none/\∃ u v,xs[j]? = some u/\ys[j]? = some v/\H2 p=some (.tup [u,v])
end L2
namespace HT
open PySem PySem.Spec PyProof.Rows L2
end HT
namespace Fl
open PySem L2 PyProof.Rows
end Fl
namespace L2
open PySem PySem.Spec PyProof.Rows
end L2
namespace Mc
open PySem L2 PyProof.Rows Fl
noncomputable def o5:Sg->R Fw:=(bO (vD (e1 dLen (e2 dIx (e2 dIx (rV 0) (eC (.int 0))) (eC (.int 1))))))
noncomputable def j7:List A->R A:=fnF 1 o5
noncomputable def mM:Sg->R Fw:=(aX (cH 2 (vD (eSl dSl (eC (.str "abc")) oNo (oSo (rV 0)))))
 (aX (nR (e1 xX (eV 1)) (stT [(stN 3),(stN 4)]) (sIf (e1 asB (e2 dNin (rV 4) (rV 2))) (t4 "NoStrip" ["at"] (aC (eV 3) aU)) sNx))
 (bO (vV 1))))
noncomputable def iH:List A->R A:=fnF 5 mM
noncomputable def qB:Sg->R Fw:=(bO (bG 2 iH (aC (bG 1 j7 (aC (vV 0) aU)) (aC (vV 1) aU))))
noncomputable def jV:List A->R A:=fnF 2 qB
noncomputable def qD:Sg->R Fw:=(aX (cH 3 (vD (e2 dIx (rV 2) (eC (.int 0)))))
 (aX (cH 4 (vD (e2 dIx (rV 0) (e2 dIx (rV 2) (eC (.int 1))))))
 (aX (sIf (e1 asB (e2 dEq (rV 3) (eC (.int 0)))) (bO (vD (eY (aC (e2 dIx (rV 4) (eC (.int 0))) (aC (eC (.int 1)) aU))))) sNx)
 (aX (sIf (e1 asB (e2 dEq (rV 3) (e2 cG (e1 dLen (rV 1)) (eC (.int 1))))) (bO (vD (eY (aC (e2 dIx (rV 4) (eC (.int 2))) (aC (e1 dNeg (eC (.int 1))) aU))))) sNx)
 (bO (vD (e2 dIx (e2 dIx (rV 4) (eC (.int 1))) (e2 p7 (eC (.str "abc")) (e2 dIx (rV 1) (e2 dSub (rV 3) (eC (.int 1))))))))))))
noncomputable def iI:List A->R A:=fnF 5 qD
noncomputable def ptT:Sg->R Bool:=(e1 asB (zI true 4 (eV 2)))
noncomputable def ptB:Sg->R Fw:=(aX (xZ 4 (eV 2) (eC (.bool true)))
 (aX (cH 5 (bG 3 iI (aC (vV 0) (aC (vV 1) (aC (vV 2) aU)))))
 (aX (sIf (e1 asB (e2 dIn (e2 dIx (rV 5) (eC (.int 0))) (eC (.tuple [.str "by",.str "out"])))) (sFz 3 (bO (vV 3))) sNx)
 (aX (cH 2 (vD (eY (aC (e2 cG (e2 dIx (rV 2) (eC (.int 0))) (e2 dIx (rV 5) (eC (.int 1)))) (aC (e2 dIx (rV 5) (eC (.int 0))) aU)))))
 (jG 3 (eV 2))))))
noncomputable def zV:Sg->R Fw:=(aX (aDL (bG 2 jV (aC (vV 0) (aC (vV 1) aU)))) (aX (cH 2 (vD (eC (.tuple [.int 0,.int 0])))) (aX (jC 3 (gC (aC (eV 2) aU))) (aX (xY 4) (aX (cN ptT ptB) (sFz 3 (bO (vV 3))))))))
noncomputable def qE:List A->R A:=fnF 6 zV
end Mc
namespace Mc
open PySem L2 PyProof.Rows
end Mc
namespace Fl
open PySem L2 PyProof.Rows
@[simp] theorem dS(d:Dz)(ρ:Sg):eC d ρ=.ok d:=id rfl
@[simp] theorem eQ{α β:Type}(g:α->R β)(f:Sg->R α)(ρ:Sg):e1 g f ρ=(f ρ).bind g:=id rfl
@[simp] theorem fF{α β γ:Type}(g:α->β->R γ)(f:Sg->R α)(a:Sg->R β)(ρ:Sg):e2 g f a ρ=(f ρ).bind fun x=>(a ρ).bind fun y=>g x y:=id rfl
@[simp] theorem nC(i:Nat)(ρ:Sg):eV i ρ=match ρ[i]? with|some (some (.d x))=>.ok x|_=>.bad:=id rfl
@[simp] theorem eI(i:Nat)(ρ:Sg):rV i ρ=match ρ[i]? with|some (some (.d x))=>.ok x|some (some (.l xs))=>.ok (.list xs)|_=>.bad:=id rfl
@[simp] theorem lC(i:Nat)(ρ:Sg):vV i ρ=match ρ[i]? with|some (some (.d x))=>.ok (.d x)|some (some (.x e))=>.ok (.x e)|some (some (.g k n f))=>.ok (.g k n f)|some (some (.f kvs))=>.ok (.f kvs)|_=>.bad:=id rfl
@[simp] theorem hU(f:Sg->R Dz)(ρ:Sg):vD f ρ=(f ρ).bind fun x=>.ok (.d x):=id rfl
@[simp] theorem mN(x:Dz):getD (.d x)=.ok x:=id rfl
@[simp] theorem o6(f:Sg->R A)(ρ:Sg):eA f ρ=(f ρ).bind getD:=id rfl
@[simp] theorem x0(f:Sg->R (List Dz))(ρ:Sg):eL f ρ=(f ρ).bind fun xs=>.ok (.list xs):=id rfl
@[simp] theorem dI{α:Type}(ρ:Sg):(aU (α:=α)) ρ=.ok []:=id rfl
@[simp] theorem dU{α:Type}(f:Sg->R α)(g:Sg->R (List α))(ρ:Sg):aC f g ρ=(f ρ).bind fun x=>(g ρ).bind fun xs=>.ok (x::xs):=id rfl
@[simp] theorem l5(f:Sg->R (List Dz))(ρ:Sg):eY f ρ=(f ρ).bind fun xs=>if xs.length<=16777216 then .ok (.tuple xs) else .bad:=id rfl
@[simp] theorem jW(f:Sg->R (List Dz))(ρ:Sg):gC f ρ=(f ρ).bind fun xs=>if xs.length<=16777216 then .ok xs else .bad:=id rfl
@[simp] theorem gP(n:Nat)(G:List A->R A)(f:Sg->R (List A))(ρ:Sg):bG n G f ρ=(f ρ).bind fun as=>if as.length=n then G as else .bad:=id rfl
@[simp] theorem dJ(n:Nat)(fb:Sg->R Fw)(b:List A):fnF n fb b=(fb (b.map some++List.replicate (n - b.length) none)).bind fun w=>match w with | .rt (.l _)=>.bad | .rt a=>.ok a | .nx _=>.ok (.d .none)|_=>.bad:=id rfl
@[simp] theorem j8(ρ:Sg):sNx ρ=.ok (.nx ρ):=id rfl
@[simp] theorem b7(f g:Sg->R Fw)(ρ:Sg):aX f g ρ=(f ρ).bind fun w=>match w with | .nx ρ'=>g ρ'|w=>.ok w:=id rfl
@[simp] theorem gD(f:Sg->R A)(ρ:Sg):bO f ρ=(f ρ).bind fun a=>.ok (.rt a):=id rfl
@[simp] theorem aP7(ρ:Sg):aOY ρ=.ok (.rt (.d .none)):=id rfl
@[simp] theorem gE(t:Sg->R Bool)(f g:Sg->R Fw)(ρ:Sg):sIf t f g ρ=(t ρ).bind fun b=>if b=true then f ρ else g ρ:=id rfl
@[simp] theorem aQX{α:Type}(t:Sg->R Bool)(f g:Sg->R α)(ρ:Sg):eIf t f g ρ=(t ρ).bind fun b=>if b=true then f ρ else g ρ:=id rfl
@[simp] theorem gF(i:Nat)(f:Sg->R A)(ρ:Sg):cH i f ρ=(f ρ).bind fun a=>.ok (.nx (ρ.set i (some a))):=id rfl
@[simp] theorem jK(i:Nat)(f:Sg->R (List Dz))(ρ:Sg):jC i f ρ=(f ρ).bind fun xs=>.ok (.nx (ρ.set i (some (.l xs)))):=id rfl
@[simp] theorem aIB(f:Sg->R A)(ρ:Sg):aDL f ρ=(f ρ).bind fun _=>.ok (.nx ρ):=id rfl
@[simp] theorem aQY(i:Nat)(f:Sg->R Fw)(ρ:Sg):sFz i f ρ=f (fz i ρ):=id rfl
@[simp] theorem aRF(i:Nat)(ρ:Sg):fz i ρ=match ρ[i]? with|some (some (.l xs))=>ρ.set i (some (.d (.list xs)))|_=>ρ:=id rfl
@[simp] theorem aQI(i:Nat)(f:Sg->R Dz)(ρ:Sg):jG i f ρ=match ρ[i]? with|some (some (.l xs))=>(f ρ).bind fun x=>if xs.length < 16777216 then .ok (.nx (ρ.set i (some (.l (xs++[x]))))) else .bad|_=>.bad:=id rfl
@[simp] theorem aK7(fs:Dz->Sg->O6 Sg)(f:Sg->R Dz)(ρ:Sg):sP fs f ρ=(f ρ).bind fun x=>(vQ (fs x ρ)).bind fun ρ'=>.ok (.nx ρ'):=id rfl
@[simp] theorem kS(a:Sg->R (List Dz))(fs:Dz->Sg->O6 Sg)(fb:Sg->R Fw)(ρ:Sg):nR a fs fb ρ=(a ρ).bind fun xs=>kQ fs fb xs ρ:=id rfl
@[simp] theorem o7(js:List (O6 Nat))(b:Sg->R (List Dz))(fs:Dz->Sg->O6 Sg)(a:Sg->R Bool)(fe:Sg->R Dz)(ρ:Sg):j5 js b fs a fe ρ=(b ρ).bind fun xs=>compL fs a fe (kP js ρ) xs:=id rfl
@[simp] theorem aPH(cn:Str)(fs:List Str)(f:Sg->R (List Dz))(ρ:Sg):t4 cn fs f ρ=(f ρ).bind fun xs=>if xs.length=fs.length then .ex ⟨cn,fs.zip xs⟩ else .bad:=id rfl
@[simp] theorem oE(i:Nat)(x:Dz)(ρ:Sg):stN i x ρ=some (ρ.set i (some (.d x))):=id rfl
@[simp] theorem aF3(fs:List (Dz->Sg->O6 Sg))(xs:List Dz)(ρ:Sg):stT fs (.tuple xs) ρ=stL fs xs ρ:=id rfl
@[simp] theorem aB6(ρ:Sg):stL [] [] ρ=some ρ:=id rfl
@[simp] theorem zW(f:Dz->Sg->O6 Sg)(fs:List (Dz->Sg->O6 Sg))(x:Dz)(xs:List Dz)(ρ:Sg):stL (f::fs) (x::xs) ρ=(f x ρ).bind (stL fs xs):=id rfl
@[simp] theorem aB7(ρ:Sg):lR ρ=.ok true:=id rfl
@[simp] theorem gG(b:Bool):asB (.bool b)=.ok b:=id rfl
@[simp] theorem rH(f:Sg->R Bool)(ρ:Sg):mH f ρ=(f ρ).bind fun b=>.ok (!b):=id rfl
@[simp] theorem oF(f g:Sg->R Bool)(ρ:Sg):lP f g ρ=(f ρ).bind fun b=>if b=true then g ρ else .ok false:=id rfl
@[simp] theorem t6(f g:Sg->R Bool)(ρ:Sg):bOr f g ρ=(f ρ).bind fun b=>if b=true then .ok true else g ρ:=id rfl
@[simp] theorem aQJ(f:Sg->R Dz)(ρ:Sg):aHT f ρ=(f ρ).bind fun x=>(asB x).bind fun b=>.ok (.bool (!b)):=id rfl
@[simp] theorem aB8(f g:Sg->R Dz)(ρ:Sg):vJ f g ρ=(f ρ).bind fun x=>(asB x).bind fun b=>if b=true then g ρ else .ok (.bool false):=id rfl
@[simp] theorem aQZ(f g:Sg->R Dz)(ρ:Sg):eOr f g ρ=(f ρ).bind fun x=>(asB x).bind fun b=>if b=true then .ok (.bool true) else g ρ:=id rfl
@[simp] theorem aQ0(g g':Dz->Dz->R Dz)(a fb b:Sg->R Dz)(ρ:Sg):eCh g g' a fb b ρ=(a ρ).bind fun x=>(fb ρ).bind fun y=>(g x y).bind fun z=>(asB z).bind fun k=>if k=true then (b ρ).bind fun w=>g' y w else .ok (.bool false):=id rfl
@[simp] theorem aF4{α:Type}(g:Dz->O6 Int->O6 Int->R α)(f:Sg->R Dz)(lo hi:Sg->R (O6 Int))(ρ:Sg):eSl g f lo hi ρ=(f ρ).bind fun x=>(lo ρ).bind fun l=>(hi ρ).bind fun h=>g x l h:=id rfl
@[simp] theorem zX(ρ:Sg):oNo ρ=.ok none:=id rfl
@[simp] theorem zY(f:Sg->R Dz)(ρ:Sg):oSo f ρ=(f ρ).bind fun x=>match x with | .int i=>.ok (some i)|_=>.bad:=id rfl
@[simp] theorem lW(f:Sg->R Dz)(ρ:Sg):iV f ρ=(f ρ).bind fun x=>match x with | .int j=>eZ 0 j|_=>.bad:=id rfl
@[simp] theorem aDU(f g:Sg->R Dz)(ρ:Sg):vL f g ρ=(f ρ).bind fun x=>(g ρ).bind fun y=>match x,y with | .int i,.int j=>eZ i j|_,_=>.bad:=id rfl
@[simp] theorem aQK(f:Sg->R Dz)(g:Sg->R (O6 Int))(ρ:Sg):aP0 f g ρ=(f ρ).bind fun x=>(g ρ).bind fun o=>if o=some (-1) then aNE x else .bad:=id rfl
@[simp] theorem aQL(i:Nat)(g:Dz->Dz->R Dz)(f:Sg->R Dz)(ρ:Sg):aPZ i g f ρ=(eV i ρ).bind fun x=>(f ρ).bind fun y=>(g x y).bind fun z=>.ok (.nx (ρ.set i (some (.d z)))):=id rfl
@[simp] theorem zZ(i:Nat)(ρ:Sg):xY i ρ=.ok (.nx (ρ.set i (some (.m [])))):=id rfl
@[simp] theorem aQM(neg:Bool)(i:Nat)(f:Sg->R Dz)(ρ:Sg):zI neg i f ρ=(f ρ).bind fun k=>match ρ[i]? with|some (some (.m kvs))=>if eD k (kvs.map (·.1))=true then .ok (.bool (if neg=true then !fG kvs k else fG kvs k)) else .bad|some (some (.f kvs))=>if eD k (kvs.map (·.1))=true then .ok (.bool (if neg=true then !fG kvs k else fG kvs k)) else .bad|_=>.bad:=id rfl
@[simp] theorem aP8(i:Nat)(f:Sg->R Dz)(ρ:Sg):aO0 i f ρ=match ρ[i]? with|some (some (.m kvs))=>(f ρ).bind fun k=>if eD k (kvs.map (·.1))=true then (match kR kvs k with|some v=>.ok v|none=>.bad) else .bad|some (some (.f kvs))=>(f ρ).bind fun k=>if eD k (kvs.map (·.1))=true then (match kR kvs k with|some v=>.ok v|none=>.bad) else .bad|_=>.bad:=id rfl
@[simp] theorem aP9(i:Nat)(f g:Sg->R Dz)(ρ:Sg):xZ i f g ρ=(g ρ).bind fun v=>match ρ[i]? with|some (some (.m kvs))=>(f ρ).bind fun k=>if eD k (kvs.map (·.1))=true/\kvs.length<=16777216 then .ok (.nx (ρ.set i (some (.m (putM kvs k v))))) else .bad|_=>.bad:=id rfl
@[simp] theorem oG(i j:Int):cG (.int i) (.int j)=.ok (.int (i+j)):=id rfl
@[simp] theorem z7(i j:Int):dSub (.int i) (.int j)=.ok (.int (i - j)):=id rfl
@[simp] theorem aQN(i j:Int):aOX (.int i) (.int j)=.ok (.int (i+j)):=id rfl
@[simp] theorem qF(i:Int):dNeg (.int i)=.ok (.int (-i)):=id rfl
@[simp] theorem rJ(i j:Int):dLt (.int i) (.int j)=.ok (.bool (decide (i < j))):=id rfl
@[simp] theorem aRG(i j:Int):dLe (.int i) (.int j)=.ok (.bool (decide (i<=j))):=id rfl
@[simp] theorem aRH(i j:Int):dGt (.int i) (.int j)=.ok (.bool (decide (j < i))):=id rfl
@[simp] theorem aRI(i j:Int):dGe (.int i) (.int j)=.ok (.bool (decide (j<=i))):=id rfl
theorem cO{i j:Int}(h:0 < j):dMod (.int i) (.int j)=.ok (.int (i % j)):=AE h
theorem gU{i j:Int}(h:0 < j)(h2:j < 18446744073709551616):dDiv (.int i) (.int j)=.ok (.int (i / j)):=AE ⟨h,h2⟩
theorem qG{i j:Int}(h : -18446744073709551616 < j)(h2:j < 18446744073709551616):dMul (.int i) (.int j)=.ok (.int (i * j)):=AE (.inr ⟨h,h2⟩)
theorem t7{i j:Int}(h : -18446744073709551616 < i)(h2:i < 18446744073709551616):dMul (.int i) (.int j)=.ok (.int (i * j)):=AE (.inl ⟨h,h2⟩)
@[simp] theorem qH(xs:List Dz):dLen (.list xs)=.ok (.int xs.length):=id rfl
@[simp] theorem aF5(xs:List Dz):dLen (.tuple xs)=.ok (.int xs.length):=id rfl
theorem t8{z:Str}(h:z.length<=16777216):dLen (.str z)=.ok (.int z.length):=AE h
@[simp] theorem aNM(xs:List Dz):dTup (.list xs)=.ok (.tuple xs):=id rfl
@[simp] theorem aQ1(xs:List Dz):dTup (.tuple xs)=.ok (.tuple xs):=id rfl
@[simp] theorem aQ2(xs:List Dz):aM7 (.list xs)=.ok xs:=id rfl
@[simp] theorem aQ3(xs:List Dz):aM7 (.tuple xs)=.ok xs:=id rfl
@[simp] theorem aQ4(i:Int):dInt (.int i)=.ok (.int i):=id rfl
@[simp] theorem aQ5(b:Bool):dInt (.bool b)=.ok (.int (if b=true then 1 else 0)):=id rfl
@[simp] theorem aRJ(x:Dz):dIs x .none=.ok (.bool (jB x)):=id rfl
@[simp] theorem aQO(x:Dz):dIsnt x .none=.ok (.bool (!jB x)):=id rfl
@[simp] theorem aQP:jB .none=true:=id rfl
@[simp] theorem aQQ(xs:List Dz):jB (.tuple xs)=false:=id rfl
@[simp] theorem aQR(i:Int):jB (.int i)=false:=id rfl
@[simp] theorem aQS(i:Str):jB (.str i)=false:=id rfl
theorem kT{α:Type}{xs:List α}{i:Int}{v:α}(h0:0<=i)(h:xs[i.toNat]? = some v):atI xs i=some v:=by
 obtain ⟨j,rfl⟩:∃ j:Nat,i=j:=⟨i.toNat,by omega⟩
 exact iO (j:=j) h
theorem z8{α:Type}(x:α)(t:List α):atI (x::t) 0=some x:=iO (j:=0) rfl
theorem aB9{α:Type}(x y:α)(t:List α):atI (x::y::t) 1=some y:=iO (j:=1) rfl
theorem aK8{α:Type}(x y z:α)(t:List α):atI (x::y::z::t) 2=some z:=iO (j:=2) rfl
theorem rK{xs:List Dz}{i:Int}{v:Dz}(h:atI xs i=some v):dIx (.tuple xs) (.int i)=.ok v:=by show (match atI xs i with|some v=>R.ok v|none=>.bad)=_;rw[h]
theorem lD{xs:List Dz}{i:Int}{v:Dz}(h:atI xs i=some v):dIx (.list xs) (.int i)=.ok v:=by show (match atI xs i with|some v=>R.ok v|none=>.bad)=_;rw[h]
theorem aDV{z:Str}{i:Int}{u:Nat}(a:z.length<=16777216)(h:atI z.cps.toList i=some u):dIx (.str z) (.int i)=.ok (.str ⟨#[u]⟩):=by
 show (if z.length<=sizeLine then match atI z.cps.toList i with|some u=>R.ok (PyData.str ⟨#[u]⟩)|none=>.bad else .bad)=_
 rw[dB,AE a,h]
@[simp] theorem aNN(x:Dz)(t:List Dz):dIx (.tuple (x::t)) (.int 0)=.ok x:=rK (z8 x t)
@[simp] theorem aQ6(x y:Dz)(t:List Dz):dIx (.tuple (x::y::t)) (.int 1)=.ok y:=rK (aB9 x y t)
@[simp] theorem aQ7(x y z:Dz)(t:List Dz):dIx (.tuple (x::y::z::t)) (.int 2)=.ok z:=rK (aK8 x y z t)
@[simp] theorem aNO(x:Dz)(t:List Dz):dIx (.list (x::t)) (.int 0)=.ok x:=lD (z8 x t)
@[simp] theorem aNP(x y:Dz)(t:List Dz):dIx (.list (x::y::t)) (.int 1)=.ok y:=lD (aB9 x y t)
theorem z9{xs:List Dz}(h:xs.length<=16777216):cC (.tuple xs)=.ok xs:=AE h
theorem jL{xs:List Dz}(h:xs.length<=16777216):cC (.list xs)=.ok xs:=AE h
theorem qI{x y:Dz}(hx:SeqAt.shaped x=true)(a:SeqAt.shaped y=true):dEq x y=.ok (.bool (PyData.eqv x y)):=AE ⟨hx,a⟩
theorem aAA{x y:Dz}(hx:SeqAt.shaped x=true)(a:SeqAt.shaped y=true):dNe x y=.ok (.bool (!PyData.eqv x y)):=AE ⟨hx,a⟩
@[simp] theorem aQ8(T:String)(i:Int):fW T (.int i)=.ok (.bool (iG "int" T)):=id rfl
@[simp] theorem aQ9(T:String)(i:Str):fW T (.str i)=.ok (.bool (iG "str" T)):=id rfl
@[simp] theorem aRA(T:String)(i:List Dz):fW T (.tuple i)=.ok (.bool (iG "tuple" T)):=id rfl
@[simp] theorem aRB(T:String)(i:List Dz):fW T (.list i)=.ok (.bool (iG "list" T)):=id rfl
@[simp] theorem aRC(T:String)(i:Bool):fW T (.bool i)=.ok (.bool (iG "bool" T)):=id rfl
@[simp] theorem aRD(T:String):fW T .none=.ok (.bool (iG "NoneType" T)):=id rfl
theorem aO5{xs:List Dz}{lo hi:O6 Int}(h:¬ (HT.sIx xs.length 0 lo=0/\HT.sIx xs.length xs.length hi=xs.length)):dSl (.tuple xs) lo hi=.ok (.tuple (mJ xs lo hi)):=by
 unfold dSl;exact AE h
theorem aO6(xs:List Dz)(lo hi:O6 Int):dSl (.list xs) lo hi=.ok (.list (mJ xs lo hi)):=id rfl
theorem aNQ{xs ys:List Dz}(h:xs.isEmpty=false)(h2:xs.length+ys.length<=16777216):cG (.tuple xs) (.tuple ys)=.ok (.tuple (xs++ys)):=by
 unfold cG;exact AE ⟨h,by rw[dB];exact h2⟩
theorem aNR{x y:Str}(h:x.length+y.length<=16777216):cG (.str x) (.str y)=.ok (.str (x++y)):=by
 unfold cG;exact AE (by rw[dB];exact h)
theorem mO{α:Type}{fs:Dz->Sg->O6 Sg}{fe:Sg->R Dz}{ρ0:Sg}{d:α->Dz}{g:α->Dz}:∀ {xs:List α},(∀ x∈xs,∃ ρ1,fs (d x) ρ0=some ρ1/\fe ρ1=.ok (g x))->compL fs lR fe ρ0 (xs.map d)=.ok (xs.map g)
 | [],_=>rfl
 | x::t,h=>by
  obtain ⟨ρ1,h1,h2⟩:=h x AX
  rw[AJ]
  unfold compL
  rw[h1,mO fun y a=>h y (AN _ a),iF,R.bind_ok,aB7,R.noEx_ok,R.bind_ok,AE rfl,h2];rfl
theorem kU{α:Type}{fs:Dz->Sg->O6 Sg}{fb:Sg->R Fw}{d:α->Dz}{xs:List α}{ρ:Sg}(J:Nat->Sg->Prop)(h0:J 0 ρ)(a:∀ (i:Nat) (x:α) (ρ:Sg),xs[i]? = some x->J i ρ->∃ ρ1 ρ2,fs (d x) ρ=some ρ1/\(fb ρ1=.ok (.nx ρ2)\/fb ρ1=.ok (.ct ρ2))/\J (i+1) ρ2) :
  ∃ ρ',kQ fs fb (xs.map d) ρ=.ok (.nx ρ')/\J xs.length ρ':=by
 induction xs generalizing ρ J with
 | nil=>exact ⟨ρ,rfl,h0⟩
 | cons x t ih=>
  obtain ⟨ρ1,ρ2,h1,h2,g⟩:=a 0 x ρ rfl h0
  obtain ⟨ρ',c,f⟩:=ih (ρ:=ρ2) (fun i=>J (i+1)) g (fun i y ρ e b=>a (i+1) y ρ (by simpa using e) b)
  refine ⟨ρ',?_,f⟩
  rw[AJ]
  unfold kQ
  rw[h1,iF,R.bind_ok]
  rcases h2 with h2|h2<;>rw[h2]<;>exact c
theorem wX{t:Sg->R Bool}{b:Sg->R Fw}{ρ a:Sg}(h1:t ρ=.ok true)(h2:b ρ=.ok (.nx a)):cN t b ρ=cN t b a:=by
 rw[p5,h1,R.bind_ok,AE rfl,h2];rfl
theorem wY{t:Sg->R Bool}{b:Sg->R Fw}{ρ:Sg}{a:A}(h1:t ρ=.ok true)(h2:b ρ=.ok (.rt a)):cN t b ρ=.ok (.rt a):=by
 rw[p5,h1,R.bind_ok,AE rfl,h2];rfl
theorem wZ{t:Sg->R Bool}{b:Sg->R Fw}{ρ:Sg}(h1:t ρ=.ok false):cN t b ρ=.ok (.nx ρ):=by
 rw[p5,h1,R.bind_ok,AI (by decide)]
def been{α:Type}(d:α->Dz)(ps:List α):List (Dz×Dz):=ps.map fun p=>(d p,.bool true)
theorem w4{α:Type}(d:α->Dz)(ps:List α):(been d ps).map (·.1)=ps.map d:=by unfold been;rw[D5];rfl
theorem sR{α:Type}{d:α->Dz}(c:∀ a b,d a=d b->a=b){ps:List α}{p:α}:fG (been d ps) (d p)=true↔p∈ps:=by
 rw[zH,w4,C0]
 exact ⟨fun ⟨q,h1,h2⟩=>c q p h2▸h1,fun h=>⟨p,h,rfl⟩⟩
theorem qJ{α:Type}{d:α->Dz}(c:∀ a b,d a=d b->a=b){ps:List α}{p:α}(h:p∉ps):fG (been d ps) (d p)=false:=by
 cases q:fG (been d ps) (d p) with
 | false=>rfl
 | true=>exact absurd ((sR c).mp q) h
theorem o8{α:Type}{d:α->Dz}(c:∀ a b,d a=d b->a=b){ps:List α}{p:α}(h:p∉ps):putM (been d ps) (d p) (.bool true)=been d (ps++[p]):=by
 unfold putM
 rw[qJ c h,AI (by decide)]
 unfold been
 rw[CB];rfl
theorem gL{α:Type}{d:α->Dz}(b:∀ a,vF (d a)=true)(ps:List α)(p:α):eD (d p) ((been d ps).map (·.1))=true:=by
 unfold eD
 rw[w4,b,Bool.true_and,Bool.or_eq_true,CK]
 refine .inl fun x c=>?_
 obtain ⟨q,_,rfl⟩:=C0.mp c
 exact b q
theorem o9{α:Type}(d:α->Dz)(ps:List α):(been d ps).length=ps.length:=by unfold been;rw[AD]
def prD(p:Int×Int):Dz:=.tuple [.int p.1,.int p.2]
theorem iW(a b:Int×Int)(h:prD a=prD b):a=b:=by
 unfold prD at h
 injection h with h
 injection h with h1 h2
 injection h2 with h2 _
 injection h1 with h1
 injection h2 with h2
 exact Prod.ext h1 h2
theorem jX(a:Int×Int):vF (prD a)=true:=rfl
end Fl
namespace Mc
open PySem L2 PyProof.Rows Fl
theorem aK9{r:Rw}{rs:List Rw}:j7 [.d (bR (r::rs))]=.ok (.d (.int r.c.length)):=by
 simp[j7,o5,bR,c9]
theorem aIC{n:Nat}(h1:1<=n)(e:n<=3)(z:Str):∀ (cs:List Nat) (k:Nat) (u3 u4:O6 A),
  kQ (stT [stN 3,stN 4]) (sIf (e1 asB (e2 dNin (rV 4) (rV 2))) (t4 "NoStrip" ["at"] (aC (eV 3) aU)) sNx) (jI k (cs.map fun u=>.str ⟨#[u]⟩)) [some (.d (.int n)),some (.d (.str z)),some (.d (.str (Txt.slice "abc" none (some (n:Int))))),u3,u4] =
  match k8 n k cs with
  | some i=>.ex ⟨"NoStrip",[("at",.int i)]⟩
  | none=>.ok (.nx [some (.d (.int n)),some (.d (.str z)),some (.d (.str (Txt.slice "abc" none (some (n:Int))))),if cs=[] then u3 else some (.d (.int ((k+cs.length - 1:Nat):Int))),if cs=[] then u4 else (cs.getLast?.map fun u=>A.d (.str ⟨#[u]⟩))]):=by
 intro cs
 induction cs with
 | nil=>intro k u3 u4;rfl
 | cons c t ih=>
  intro k u3 u4
  have a:dNin (.str ⟨#[c]⟩) (.str (Txt.slice "abc" none (some (n:Int))))=.ok (.bool (!dQ n c)):=by
   show R.ok (PyData.bool (!_))=_
   rw[aHE h1 e]
  rw[AJ,jI]
  unfold kQ
  rw[tQ]
  cases b:dQ n c with
  | false=>simp[a,b]
  | true=>
   simp[a,b,ih]
   cases k8 n (k+1) t with
   | some i=>rfl
   | none=>
    simp
    cases t with
    | nil=>simp
    | cons c' t'=>simp<;>try omega
theorem aO7{n:Nat}(h1:1<=n)(b:n<=3){z:Str}(a:z.cps.toList.length<=16777216):iH [.d (.int n),.d (.str z)]=match k8 n 0 z.cps.toList with
  | some i=>.ex ⟨"NoStrip",[("at",.int i)]⟩
  | none=>.ok (.d (.str z)):=by
 have c:dSl (.str "abc") none (some (n:Int))=.ok (.str (Txt.slice "abc" none (some (n:Int)))):=by
  show (if ("abc":Str).length<=16777216 then R.ok _ else .bad)=_
  exact AE (by decide)
 have e:xX (.str z)=.ok (jI 0 (z.cps.toList.map fun u=>.str ⟨#[u]⟩)):=by
  show (if z.cps.toList.length<=16777216 then R.ok _ else .bad)=_
  exact AE a
 simp only[iH,mM,dJ,b7,gF,hU,aF4,dS,zX,zY,R.bind_ok,eI,kS,eQ,nC,AJ,BJ,BA,BC,AL,AZ]
 simp only[List.replicate,AT,AQ,c,R.bind_ok,A7,A5,e,aIC h1 b]
 cases k8 n 0 z.cps.toList with
 | some i=>rfl
 | none=>rfl
theorem Mach.cons{rs:List Rw}{sg:Nat}(M:Mach rs sg):∃ r t,rs=r::t/\r.c.length=sg:=by
 cases rs with
 | nil=>have:=M.len;simp at this
 | cons r t=>exact ⟨r,t,rfl,(M.row r AX).2⟩
theorem aNS{rs:List Rw}{sg:Nat}(M:Mach rs sg){z:Str}(b:z.cps.toList.length<=16777216):jV [.d (bR rs),.d (.str z)]=match k8 sg 0 z.cps.toList with
  | some i=>.ex ⟨"NoStrip",[("at",.int i)]⟩
  | none=>.ok (.d (.str z)):=by
 obtain ⟨r,t,rfl,a⟩:=M.cons
 simp[jV,qB,aK9,a,aO7 M.sg1 M.sg3 b]
 cases k8 sg 0 z.cps.toList<;>rfl
theorem aID{rs:List Rw}{sg:Nat}(M:Mach rs sg){z:Str}(S:cI sg z.cps.toList):jV [.d (bR rs),.d (.str z)]=.ok (.d (.str z)):=by
 rw[aNS M (by have:=S.1;omega),yN S.2]
theorem lN{n:Nat}(h:n<=16777216):eZ 0 (n:Int)=.ok ((List.range n).map fun i:Nat=>.int (i:Int)):=by
 unfold eZ
 rw[AE (by omega)]
 unfold gS
 simp
theorem aF6(z y:Str):p7 (.str z) (.str y)=match Builtin.Str.occurrences z y 0 z.length 1 with|i::_=>R.ok (PyData.int i)|[]=>.bad:=rfl
theorem aCA{c:Nat}(h:dQ 3 c=true):p7 (.str "abc") (.str ⟨#[c]⟩)=.ok (.int ((c - 97:Nat):Int)):=by
 obtain ⟨r,e⟩:=aFA h
 rw[aF6,e]
theorem aAB{n c:Nat}(hn:n<=3)(h:dQ n c=true):dQ 3 c=true:=BM (by have:=CW h;omega)
theorem lE(s:Int×Int):SeqAt.shaped (prD s)=true:=id rfl
theorem gQ(i:Int):SeqAt.shaped (.int i)=true:=id rfl
theorem aNT(i j:Int):PyData.eqv (.int i) (.int j)=decide (i=j):=by
 rw[PyData.eqv.eq_5]
 by_cases h:i=j
 · simp [h]
 · simp [h]
theorem dW(i j:Int):dEq (.int i) (.int j)=.ok (.bool (decide (i=j))):=by rw[qI (gQ i) (gQ j),aNT]
noncomputable def lF:Sg->R Fw:=(aX (cH 2 (vD (eC (.int 0))))
 (aX (sIf (e1 asB (e2 dGt (e1 dLen (rV 0)) (eC (.int 0)))) (cH 2 (vD (e2 dIx (rV 0) (e2 dMod (rV 1) (e1 dLen (rV 0)))))) sNx)
 (aX (cH 3 (vD (e2 dMod (e2 dMul (e2 cG (e2 cG (e2 dMod (rV 2) (eC (.int 2147483647))) (e2 dMul (eC (.int 7919)) (rV 1))) (eC (.int 1))) (eC (.int 48271))) (eC (.int 2147483647)))))
 (bO (vD (e2 cG (e2 dMul (e2 dDiv (rV 2) (eC (.int 2147483647))) (eC (.int 2147483659))) (e2 dMod (e2 cG (e2 dMul (rV 3) (eC (.int 69621))) (e2 dMul (eC (.int 104729)) (rV 1))) (eC (.int 2147483659)))))))))
noncomputable def bH:List A->R A:=fnF 4 lF
noncomputable def lX:Sg->R Fw:=(aX (sIf (e1 asB (e2 dEq (e2 dMod (rV 0) (eC (.int 3))) (eC (.int 0)))) (bO (vD (e2 dIx (eL (gC (aC (eC (.str "by")) (aC (eC (.str "out")) aU)))) (e2 dMod (e2 dDiv (rV 0) (eC (.int 3))) (eC (.int 2)))))) sNx)
 (bO (vD (e2 dMod (e2 dDiv (rV 0) (eC (.int 3))) (rV 1)))))
noncomputable def fQ:List A->R A:=fnF 2 lX
noncomputable def jM:Sg->R Fw:=(aX (cH 3 (vD (e2 dMod (rV 0) (e2 cG (rV 1) (eC (.int 2))))))
 (aX (cH 0 (vD (e2 dDiv (rV 0) (e2 cG (rV 1) (eC (.int 2))))))
 (aX (jC 4 (gC aU))
 (aX (nR (iV (rV 2)) (stN 5) (aX (jG 4 (eY (aC (e2 dMod (e2 dDiv (rV 0) (eC (.int 2))) (rV 1)) (aC (e2 dSub (eC (.int 1)) (e2 dMul (e2 dMod (rV 0) (eC (.int 2))) (eC (.int 2)))) aU))))
 (cH 0 (vD (e2 dDiv (rV 0) (e2 dMul (eC (.int 2)) (rV 1)))))))
 (aX (jC 6 (gC (aC (eV 3) (aC (e2 dMod (rV 0) (e2 cG (rV 1) (eC (.int 2)))) aU))))
 (aX (jC 6 (j5 [none,some 1] (e1 cC (rV 6)) (stN 0) lR (eIf (e1 asB (e2 dGe (rV 0) (rV 1))) (e2 dIx (eL (gC (aC (eC (.str "by")) (aC (eC (.str "out")) aU)))) (e2 dSub (rV 0) (rV 1))) (eV 0))))
 (bO (vD (eY (aC (e2 dIx (rV 6) (eC (.int 0))) (aC (e1 dTup (rV 4)) (aC (e2 dIx (rV 6) (eC (.int 1))) aU))))))))))))
noncomputable def eB:List A->R A:=fnF 7 jM
noncomputable def jN:Sg->R Fw:=(aX (jC 3 (gC aU))
 (aX (nR (iV (e2 cG (rV 2) (eC (.int 2)))) (stN 4) (aX (cH 0 (vD (e2 dMod (e2 cG (e2 dMul (rV 0) (eC (.int 48271))) (eC (.int 7919))) (eC (.int 2147483647)))))
 (jG 3 (e2 dDiv (rV 0) (eC (.int 64))))))
 (aX (cH 5 (vD (e1 dTup (eL (j5 [none,some 1] (e1 cC (eSl dSl (rV 3) (oSo (eC (.int 2))) oNo)) (stN 0) lR (eY (aC (e2 dMod (rV 0) (rV 1)) (aC (e2 dSub (eC (.int 1)) (e2 dMul (e2 dDiv (e2 dMod (e2 dDiv (rV 0) (eC (.int 64))) (eC (.int 3))) (eC (.int 2))) (eC (.int 2)))) aU))))))))
 (bO (vD (eY (aC (eA (bG 2 fQ (aC (vD (e2 dIx (rV 3) (eC (.int 0)))) (aC (vV 1) aU)))) (aC (eV 5) (aC (eA (bG 2 fQ (aC (vD (e2 dIx (rV 3) (eC (.int 1)))) (aC (vV 1) aU)))) aU)))))))))
noncomputable def dF:List A->R A:=fnF 6 jN
noncomputable def kW:Sg->R Fw:=(aX (jC 4 (gC aU))
 (aX (nR (iV (rV 2)) (stN 5) (sIf (lP (e1 asB (e2 dLt (e2 cG (rV 1) (rV 5)) (e1 dLen (rV 0)))) (e1 asB (e2 dEq (e2 dMod (e2 dIx (rV 0) (eC (.int 0))) (eC (.int 2))) (eC (.int 1))))) (jG 4 (eA (bG 3 eB (aC (vD (e2 dIx (rV 0) (e2 cG (rV 1) (rV 5)))) (aC (vV 2) (aC (vV 3) aU)))))) (aX (cH 6 (bG 3 dF (aC (vD (e2 dMod (eA (bG 2 bH (aC (vV 0) (aC (vD (e2 cG (rV 1) (rV 5))) aU)))) (eC (.int 2147483647)))) (aC (vV 2) (aC (vV 3) aU)))))
 (aX (sIf (lP (e1 asB (e2 dEq (rV 5) (eC (.int 0)))) (lP (e1 asB (e1 (fW "str") (e2 dIx (rV 6) (eC (.int 0))))) (e1 asB (e2 dGt (e2 dMod (e2 dDiv (eA (bG 2 bH (aC (vV 0) (aC (vV 1) aU)))) (eC (.int 8))) (eC (.int 8))) (eC (.int 0)))))) (cH 6 (vD (e2 cG (eY (aC (e2 dMod (e2 dDiv (eA (bG 2 bH (aC (vV 0) (aC (vV 1) aU)))) (eC (.int 64))) (rV 2)) aU)) (eSl dSl (rV 6) (oSo (eC (.int 1))) oNo)))) sNx)
 (jG 4 (eV 6))))))
 (bO (vD (e1 dTup (rV 4))))))
noncomputable def gH:List A->R A:=fnF 7 kW
noncomputable def iJ:Sg->R Fw:=(aX (sIf (lP (e1 asB (e2 dLt (rV 1) (e1 dLen (rV 0)))) (e1 asB (e2 dEq (e2 dMod (e2 dIx (rV 0) (eC (.int 0))) (eC (.int 2))) (eC (.int 1))))) (aX (cH 4 (vD (e2 dIx (rV 0) (rV 1))))
 (aX (cH 5 (vD (eC (.str ""))))
 (aX (nR (iV (rV 2)) (stN 6) (aX (cH 5 (vD (e2 cG (rV 5) (e2 dIx (eC (.str "abc")) (e2 dMod (rV 4) (rV 3))))))
 (cH 4 (vD (e2 dDiv (rV 4) (rV 3))))))
 (bO (vV 5))))) sNx)
 (bO (vD (e2 xW (eC (.str "")) (eL (j5 [none,some 0,some 1,some 3] (iV (rV 2)) (stN 0) lR (e2 dIx (eC (.str "abc")) (e2 dMod (eA (bG 2 bH (aC (vV 1) (aC (vD (e2 cG (rV 2) (rV 0))) aU)))) (rV 3)))))))))
noncomputable def fA:List A->R A:=fnF 7 iJ
noncomputable def mP:Sg->R Fw:=(bO (vD (vJ (e1 (fW "int") (rV 0)) (aHT (e1 (fW "bool") (rV 0))))))
noncomputable def eF:List A->R A:=fnF 1 mP
noncomputable def mQ:Sg->R Fw:=(aX (cH 1 (vD (e2 cG (eC (.int 1)) (e2 dMod (eA (bG 2 bH (aC (vV 0) (aC (vD (eC (.int 0))) aU)))) (eC (.int 5))))))
 (aX (cH 2 (vD (e2 cG (eC (.int 1)) (e2 dMod (eA (bG 2 bH (aC (vV 0) (aC (vD (eC (.int 1))) aU)))) (eC (.int 3))))))
 (aX (cH 3 (vD (e2 dMod (eA (bG 2 bH (aC (vV 0) (aC (vD (eC (.int 2))) aU)))) (e2 dIx (eL (gC (aC (eC (.int 8)) (aC (eC (.int 8)) (aC (eC (.int 25)) (aC (eC (.int 57)) aU)))))) (e2 dMod (e2 dDiv (eA (bG 2 bH (aC (vV 0) (aC (vD (eC (.int 1))) aU)))) (eC (.int 3))) (eC (.int 4)))))))
 (bO (vD (eY (aC (eA (bG 4 gH (aC (vV 0) (aC (vD (eC (.int 6))) (aC (vV 1) (aC (vV 2) aU)))))) (aC (eA (bG 4 fA (aC (vV 0) (aC (vD (eC (.int 11))) (aC (vV 3) (aC (vV 2) aU)))))) aU))))))))
noncomputable def iK:List A->R A:=fnF 4 mQ
noncomputable def mR:Sg->R Fw:=(bO (vD (vJ (e1 (fW "bool") (rV 0)) (e2 dEq (rV 0) (rV 1)))))
noncomputable def iL:List A->R A:=fnF 2 mR
noncomputable def nS:Sg->R Fw:=(aX (sP (stT [(stN 3),(stN 4)]) (eV 2))
 (aX (sP (stT [(stN 5),(stN 6),(stN 7)]) (e2 dIx (rV 0) (rV 4)))
 (aX (sIf (bOr (e1 asB (e2 dEq (rV 3) (eC (.int 0)))) (e1 asB (e2 dGt (rV 3) (e1 dLen (rV 1))))) (aX (cH 8 (vD (e2 dIx (eL (gC (aC (eV 5) (aC (eV 7) aU)))) (e1 dInt (e2 dGt (rV 3) (eC (.int 0)))))))
 (aX (sIf (e1 asB (e1 (fW "str") (rV 8))) (bO (vD (eC .none))) sNx)
 (bO (vD (eY (aC (e2 dIx (eL (gC (aC (eC (.int 1)) (aC (e1 dLen (rV 1)) aU)))) (e1 dInt (e2 dGt (rV 3) (eC (.int 0))))) (aC (eV 8) aU))))))) sNx)
 (aX (sP (stT [(stN 8),(stN 9)]) (e2 dIx (rV 6) (e2 p7 (eC (.str "abc")) (e2 dIx (rV 1) (e2 dSub (rV 3) (eC (.int 1)))))))
 (bO (vD (eY (aC (e2 cG (rV 3) (rV 9)) (aC (eV 8) aU)))))))))
noncomputable def fX:List A->R A:=fnF 10 nS
noncomputable def sS:Sg->R Bool:=(e1 asB (zI true 3 (e2 dIx (rV 2) (e1 dNeg (eC (.int 1))))))
noncomputable def sT:Sg->R Fw:=(aX (xZ 3 (e2 dIx (rV 2) (e1 dNeg (eC (.int 1)))) (eC (.bool true)))
 (aX (cH 4 (bG 3 fX (aC (vV 0) (aC (vV 1) (aC (vD (e2 dIx (rV 2) (e1 dNeg (eC (.int 1))))) aU)))))
 (aX (sIf (e1 asB (e2 dIs (rV 4) (eC .none))) (sFz 2 (bO (vV 2))) sNx)
 (jG 2 (eV 4)))))
noncomputable def lS:Sg->R Fw:=aX (jC 2 (gC (aC (eY (aC (eC (.int 0)) (aC (eC (.int 0)) aU))) aU))) (aX (xY 3) (aX (cN sS sT) (sFz 2 (bO (vV 2)))))
noncomputable def dX:List A->R A:=fnF 5 lS
noncomputable def nU:Sg->R Fw:=(aX (sP (stT [(stN 2),(stN 3)]) (e2 dIx (eA (bG 2 dX (aC (vV 0) (aC (vV 1) aU)))) (e1 dNeg (eC (.int 1)))))
 (aX (sIf (e1 asB (e2 dIsnt (eA (bG 3 fX (aC (vV 0) (aC (vV 1) (aC (vD (eY (aC (eV 2) (aC (eV 3) aU)))) aU))))) (eC .none))) (bO (vD (eC (.str "ever")))) sNx)
 (bO (vD (e2 dIx (eL (gC (aC (e2 dIx (e2 dIx (rV 0) (rV 3)) (eC (.int 0))) (aC (e2 dIx (e2 dIx (rV 0) (rV 3)) (eC (.int 2))) aU)))) (e1 dInt (e2 dGt (rV 2) (eC (.int 0)))))))))
noncomputable def fY:List A->R A:=fnF 4 nU
def fB(ns:List Int):Dz:=.list (ns.map .int)
theorem jY(ns:List Int):dLen (fB ns)=.ok (.int ns.length):=by unfold fB;rw[qH,AD]
theorem qK{ns:List Int}{i:Int}(h0:0<=i)(h1:i < ns.length):∃ v,dIx (fB ns) (.int i)=.ok (.int v):=by
 refine ⟨ns[i.toNat]'(by omega),lD (kT h0 ?_)⟩
 rw[A0,AH (by omega)];rfl
theorem oH(ns:List Int)(k:Int):∃ v,bH [.d (fB ns),.d (.int k)]=.ok (.d (.int v)):=by
 by_cases h:(0:Int) < ns.length
 .obtain ⟨v,b⟩:=qK (ns:=ns) (i:=k % (ns.length:Int)) (CZ _ (by omega)) (CJ _ h)
  have c:dMod (.int k) (.int (ns.length:Int))=.ok (.int (k % (ns.length:Int))):=cO h
  have a:0 < ns.length:=by omega
  refine ⟨v / 2147483647 * 2147483659+((v % 2147483647+7919 * k+1) * 48271 % 2147483647 * 69621+104729 * k) % 2147483659,?_⟩
  unfold bH lF
  simp[jY,a,c,b,cO,qG,t7,gU]
 .have a:¬ 0 < ns.length:=by omega
  refine ⟨((7919 * k+1) * 48271 % 2147483647 * 69621+104729 * k) % 2147483659,?_⟩
  unfold bH lF
  simp[jY,a,cO,qG,t7,gU]
theorem aNU(x y:Dz)(i:Int):∃ z,dIx (.list [x,y]) (.int (i % 2))=.ok z/\(z=x\/z=y):=by
 rcases Int.emod_two_eq i with h|h
 · rw [h]; exact ⟨x, aNO _ _, .inl rfl⟩
 · rw [h]; exact ⟨y, aNP _ _ _, .inr rfl⟩
theorem aJF(x:Int){n:Int}(hn:0 < n):∃ t:Tn,fQ [.d (.int x),.d (.int n)]=.ok (.d t.d)/\t.good n:=by
 by_cases h:x % 3=0
 .obtain ⟨z,c,a⟩:=aNU (.str "by") (.str "out") (x / 3)
  have b:decide (x % 3=0)=true:=BM h
  have e:fQ [.d (.int x),.d (.int n)]=.ok (.d z):=by
   unfold fQ lX
   simp[cO,gU,dW,b,c]
  rcases a with rfl|rfl
  .exact ⟨.w "by",e,.inl rfl⟩
  .exact ⟨.w "out",e,.inr rfl⟩
 .have b:decide (x % 3=0)=false:=BB h
  refine ⟨.n (x / 3 % n),?_,CZ _ (by omega),CJ _ hn⟩
  unfold fQ lX
  simp[cO,gU,dW,b,hn]
  rfl
theorem aDW{n:Nat}(h:n<=16777216):eZ 0 (n:Int)=.ok ((List.range n).map fun i:Nat=>.int (i:Int)):=lN h
theorem aCB(x:Int){n:Int}{sg:Nat}(hn:0 < n)(E:sg<=1000):∃ r:Rw,dF [.d (.int x),.d (.int n),.d (.int sg)]=.ok (.d (c9 r))/\r.good n/\r.c.length=sg:=by
 have B:eZ 0 ((sg:Int)+2)=.ok ((List.range (sg+2)).map fun i:Nat=>.int (i:Int)):=by
  have:=lN (n:=sg+2) (by omega)
  rw[show (((sg+2:Nat)):Int)=(sg:Int)+2 by omega] at this
  exact this
 obtain ⟨p,u,y,ps,m,b,rfl⟩:=kU (fs:=stN 4) (fb:=aX (cH 0 (vD (e2 dMod (e2 cG (e2 dMul (rV 0) (eC (.int 48271))) (eC (.int 7919))) (eC (.int 2147483647))))) (jG 3 (e2 dDiv (rV 0) (eC (.int 64)))))
  (d:=fun i:Nat=>.int (i:Int)) (xs:=List.range (sg+2)) (ρ:=[some (.d (.int x)),some (.d (.int n)),some (.d (.int sg)),some (.l []),none,none])
  (fun i ρ=>∃ (y:Int) (ps:List Int) (m:O6 A),ps.length=i/\ρ=[some (.d (.int y)),some (.d (.int n)),some (.d (.int sg)),some (.l (ps.map .int)),m,none]) ⟨x,[],none,rfl,rfl⟩
  (fun i k ρ w o=>by
   obtain ⟨y,ps,m,b,rfl⟩:=o
   have hi:i < sg+2:=by have:=(AS.mp w).1;simpa using this
   refine ⟨_,_,rfl,.inl ?_,(y * 48271+7919) % 2147483647,ps++[(y * 48271+7919) % 2147483647 / 64],some (.d (.int k)),by simp[b],rfl⟩
   have z:(ps.map PyData.int).length < 16777216:=by rw[AD,b];omega
   simp[qG,t7,cO,gU,z]
   omega)
 rw[CC] at b
 obtain ⟨e,f,qs,rfl,D⟩:∃ e f qs,ps=e::f::qs/\qs.length=sg:=by
  match ps,b with
  | e::f::qs,b=>exact ⟨e,f,qs,rfl,by simpa using b⟩
 have a:dSl (.list ((e::f::qs).map .int)) (some 2) none=.ok (.list (qs.map .int)):=by
  show R.ok (PyData.list (mJ _ _ _))=_
  unfold mJ HT.sIx
  simp
  rw[EX (by simp)]
 obtain ⟨C,e0,v⟩:=aJF e hn
 obtain ⟨t,j,s⟩:=aJF f hn
 have h:=mO (fs:=stN 0) (fe:=eY (aC (e2 dMod (rV 0) (rV 1)) (aC (e2 dSub (eC (.int 1)) (e2 dMul (e2 dDiv (e2 dMod (e2 dDiv (rV 0) (eC (.int 64))) (eC (.int 3))) (eC (.int 2))) (eC (.int 2)))) aU))) (ρ0:=[none,some (.d (.int n))]) (d:=PyData.int) (g:=fun q=>gZ (q % n,1 - q / 64 % 3 / 2 * 2)) (xs:=qs) fun q _=>⟨_,rfl,by simp[cO,gU,qG,hn,gZ]⟩
 have hi:cC (.list (qs.map .int))=.ok (qs.map .int):=jL (by rw[AD];omega)
 refine ⟨⟨C,qs.map fun q=>(q % n,1 - q / 64 % 3 / 2 * 2),t⟩,?_,⟨v,s,fun c h=>?_⟩,by simpa using D⟩
 .unfold dF jN
  simp only[dJ,AJ,BJ,BA,BC,AL,AZ,List.replicate,b7,jK,jW,dI,R.bind_ok]
  simp[B]
  rw[u]
  simp at a hi h
  simp[a,hi,kP,h,e0,j,c9]
 .obtain ⟨q,_,rfl⟩:=C0.mp h
  refine ⟨CZ _ (by omega),CJ _ hn,?_⟩
  simp only
  omega
theorem aLA(x:Int){n:Int}{sg:Nat}(hn:0 < n)(M:n<=1000)(P:sg<=1000):∃ r:Rw,eB [.d (.int x),.d (.int n),.d (.int sg)]=.ok (.d (c9 r))/\r.good n/\r.c.length=sg:=by
 have E:=lN (n:=sg) (by omega)
 have f:(0:Int) < n+2:=by omega
 have C:n+2 < 18446744073709551616:=by omega
 have s:(0:Int) < 2 * n:=by omega
 have m:2 * n < 18446744073709551616:=by omega
 obtain ⟨K,H,y,g,v,p,u,rfl⟩:=kU (fs:=stN 5) (fb:=aX (jG 4 (eY (aC (e2 dMod (e2 dDiv (rV 0) (eC (.int 2))) (rV 1)) (aC (e2 dSub (eC (.int 1)) (e2 dMul (e2 dMod (rV 0) (eC (.int 2))) (eC (.int 2)))) aU)))) (cH 0 (vD (e2 dDiv (rV 0) (e2 dMul (eC (.int 2)) (rV 1))))))
  (d:=fun i:Nat=>.int (i:Int)) (xs:=List.range sg) (ρ:=[some (.d (.int (x / (n+2)))),some (.d (.int n)),some (.d (.int sg)),some (.d (.int (x % (n+2)))),some (.l []),none,none])
  (fun i ρ=>∃ (y:Int) (g:List (Int×Int)) (v:O6 A),g.length=i/\(∀ c∈g,sN n c)/\ρ=[some (.d (.int y)),some (.d (.int n)),some (.d (.int sg)),some (.d (.int (x % (n+2)))),some (.l (g.map gZ)),v,none]) ⟨x / (n+2),[],none,rfl,fun c o=>by simp at o,rfl⟩
  (fun i k ρ J D=>by
   obtain ⟨y,g,v,p,u,rfl⟩:=D
   have hi:i < sg:=by have:=(AS.mp J).1;simpa using this
   have O:(g.map gZ).length < 16777216:=by rw[AD,p];omega
   refine ⟨_,_,rfl,.inl ?_,y / (2 * n),g++[(y / 2 % n,1 - y % 2 * 2)],some (.d (.int k)),by simp[p],fun c o=>?_,rfl⟩
   .have q:g.length < 16777216:=by omega
    simp[qG,t7,cO,gU,hn,s,m,gZ,q]
   .rcases B3.mp o with z|z
    .exact u c z
    .rw[A1.mp z]
     refine ⟨CZ _ (by omega),CJ _ hn,?_⟩
     simp only;omega)
 rw[CC] at p
 have j:∀ e:Int,0<=e->e < n+2->∃ t:Tn,(eIf (e1 asB (e2 dGe (rV 0) (rV 1))) (e2 dIx (eL (gC (aC (eC (.str "by")) (aC (eC (.str "out")) aU)))) (e2 dSub (rV 0) (rV 1))) (eV 0)) [some (.d (.int e)),some (.d (.int n))]=.ok t.d/\t.good n:=fun e N h1=>by
  by_cases h:n<=e
  .obtain rfl|rfl:e=n\/e=n+1:=by omega
   .exact ⟨.w "by",by simp[Tn.d],.inl rfl⟩
   .exact ⟨.w "out",by simp[Tn.d,show n+1 - n=1 by omega,show n<=n+1 by omega],.inr rfl⟩
  .exact ⟨.n e,by simp[Tn.d,h],N,by omega⟩
 obtain ⟨F,e0,I⟩:=j (x % (n+2)) (CZ _ (by omega)) (CJ _ f)
 obtain ⟨G,B,L⟩:=j (y % (n+2)) (CZ _ (by omega)) (CJ _ f)
 have o:compL (stN 0) lR (eIf (e1 asB (e2 dGe (rV 0) (rV 1))) (e2 dIx (eL (gC (aC (eC (.str "by")) (aC (eC (.str "out")) aU)))) (e2 dSub (rV 0) (rV 1))) (eV 0)) [none,some (.d (.int n))] [.int (x % (n+2)),.int (y % (n+2))]=.ok [F.d,G.d]:=by
  simp only[compL,oE,A5,iF,R.bind_ok,aB7,R.noEx_ok,BP,e0,B]
 have hi:∀ a b:Dz,cC (.list [a,b])=.ok [a,b]:=fun a b=>jL (by simp)
 refine ⟨⟨F,g,G⟩,?_,⟨I,L,u⟩,p⟩
 unfold eB jM
 simp only[dJ,AJ,BJ,BA,BC,AL,AZ,List.replicate,b7,gF,hU,fF,eI,dS,AT,AQ,R.bind_ok,oG,cO f,gU f C,A5,A7,jK,jW,dI,kS,lW,E]
 simp only[CM,BP,R.bind_ok,A5,A7,AT,AQ,E,H]
 simp only[dU,nC,dI,fF,eI,dS,AT,AQ,R.bind_ok,oG,cO f,o7,eQ,A5,A7]
 simp[hi,kP,o,c9,cO f]
theorem aNV{ns:List Int}{at':Int}{n sg:Nat}(U:0<=at')(h1:1<=n)(h2:n<=1000)(s1:1<=sg)(V:sg<=3):∃ rs:List Rw,gH [.d (fB ns),.d (.int at'),.d (.int n),.d (.int sg)]=.ok (.d (bR rs))/\Mach rs sg/\rs.length=n:=by
 have a:=lN (n:=n) (by omega)
 have B:(0:Int) < (n:Int):=by omega
 obtain ⟨T,W,rs,j,s,w,K,rfl⟩:=kU (fs:=stN 5) (fb:=(sIf (lP (e1 asB (e2 dLt (e2 cG (rV 1) (rV 5)) (e1 dLen (rV 0)))) (e1 asB (e2 dEq (e2 dMod (e2 dIx (rV 0) (eC (.int 0))) (eC (.int 2))) (eC (.int 1))))) (jG 4 (eA (bG 3 eB (aC (vD (e2 dIx (rV 0) (e2 cG (rV 1) (rV 5)))) (aC (vV 2) (aC (vV 3) aU)))))) (aX (cH 6 (bG 3 dF (aC (vD (e2 dMod (eA (bG 2 bH (aC (vV 0) (aC (vD (e2 cG (rV 1) (rV 5))) aU)))) (eC (.int 2147483647)))) (aC (vV 2) (aC (vV 3) aU)))))
 (aX (sIf (lP (e1 asB (e2 dEq (rV 5) (eC (.int 0)))) (lP (e1 asB (e1 (fW "str") (e2 dIx (rV 6) (eC (.int 0))))) (e1 asB (e2 dGt (e2 dMod (e2 dDiv (eA (bG 2 bH (aC (vV 0) (aC (vV 1) aU)))) (eC (.int 8))) (eC (.int 8))) (eC (.int 0)))))) (cH 6 (vD (e2 cG (eY (aC (e2 dMod (e2 dDiv (eA (bG 2 bH (aC (vV 0) (aC (vV 1) aU)))) (eC (.int 64))) (rV 2)) aU)) (eSl dSl (rV 6) (oSo (eC (.int 1))) oNo)))) sNx)
 (jG 4 (eV 6))))))
  (d:=fun i:Nat=>.int (i:Int)) (xs:=List.range n) (ρ:=[some (.d (fB ns)),some (.d (.int at')),some (.d (.int n)),some (.d (.int sg)),some (.l []),none,none])
  (fun i ρ=>∃ (rs:List Rw) (j s:O6 A),rs.length=i/\(∀ r∈rs,r.good n/\r.c.length=sg)/\ρ=[some (.d (fB ns)),some (.d (.int at')),some (.d (.int n)),some (.d (.int sg)),some (.l (rs.map c9)),j,s]) ⟨[],none,none,rfl,fun c hc=>by simp at hc,rfl⟩
  (fun i k ρ Y L=>by
   obtain ⟨rs,j,s,w,K,rfl⟩:=L
   have hi:i < n:=by have:=(AS.mp Y).1;simpa using this
   have y:rs.length < 16777216:=by omega
   have snoc:∀ r:Rw,r.good n/\r.c.length=sg->∀ x∈rs++[r],x.good n/\x.c.length=sg:=fun r a x S=>by
    rcases B3.mp S with z|z
    .exact K x z
    .rw[A1.mp z];exact a
   obtain ⟨v,hv⟩:=oH ns (at'+k)
   obtain ⟨r,a,g⟩:=aCB (v % 2147483647) (n:=(n:Int)) (sg:=sg) B (by omega)
   obtain ⟨p,m⟩:=oH ns at'
   have H:∀ r:Rw,dSl (c9 r) (some 1) none=.ok (.tuple [.tuple (r.c.map gZ),r.r.d]):=fun r=>by
    unfold c9
    rw[aO5 (by unfold HT.sIx;simp)]
    unfold mJ HT.sIx
    simp
   have put:∀ (j s:O6 A) (r:Rw),(jG 4 (eV 6)) [some (.d (fB ns)),some (.d (.int at')),some (.d (.int n)),some (.d (.int sg)),some (.l (rs.map c9)),j,some (.d (c9 r))]=.ok (.nx [some (.d (fB ns)),some (.d (.int at')),some (.d (.int n)),some (.d (.int sg)),some (.l ((rs++[r]).map c9)),j,some (.d (c9 r))]):=fun j s r=>by simp[y]
   have o:∀ u,u=[some (.d (fB ns)),some (.d (.int at')),some (.d (.int n)),some (.d (.int sg)),some (.l (rs.map c9)),some (.d (.int k)),s]->∃ f:Rw,(f.good n/\f.c.length=sg)/\∃ e,(aX (cH 6 (bG 3 dF (aC (vD (e2 dMod (eA (bG 2 bH (aC (vV 0) (aC (vD (e2 cG (rV 1) (rV 5))) aU)))) (eC (.int 2147483647)))) (aC (vV 2) (aC (vV 3) aU)))))
     (aX (sIf (lP (e1 asB (e2 dEq (rV 5) (eC (.int 0)))) (lP (e1 asB (e1 (fW "str") (e2 dIx (rV 6) (eC (.int 0))))) (e1 asB (e2 dGt (e2 dMod (e2 dDiv (eA (bG 2 bH (aC (vV 0) (aC (vV 1) aU)))) (eC (.int 8))) (eC (.int 8))) (eC (.int 0)))))) (cH 6 (vD (e2 cG (eY (aC (e2 dMod (e2 dDiv (eA (bG 2 bH (aC (vV 0) (aC (vV 1) aU)))) (eC (.int 64))) (rV 2)) aU)) (eSl dSl (rV 6) (oSo (eC (.int 1))) oNo)))) sNx)
     (jG 4 (eV 6)))) u=.ok (.nx [some (.d (fB ns)),some (.d (.int at')),some (.d (.int n)),some (.d (.int sg)),some (.l ((rs++[f]).map c9)),some (.d (.int k)),e]):=by
    rintro u rfl
    by_cases t:k=0
    case neg=>
     exact ⟨r,g,some (.d (c9 r)),by simp[hv,cO,a,t,dW,y]⟩
    subst t
    obtain ⟨r,a,g⟩:=aCB (p % 2147483647) (n:=(n:Int)) (sg:=sg) B (by omega)
    have h:dIx (c9 r) (.int 0)=.ok r.l.d:=aNN _ _
    have I:∃ b,fW "str" r.l.d=.ok (.bool b):=by cases r.l<;>exact ⟨_,rfl⟩
    obtain ⟨b,F⟩:=I
    have C:cG (.tuple [.int (p / 64 % (n:Int))]) (.tuple [.tuple (r.c.map gZ),r.r.d])=.ok (c9 ⟨.n (p / 64 % (n:Int)),r.c,r.r⟩):=by
     rw[aNQ rfl (by simp)];rfl
    have q:(⟨.n (p / 64 % (n:Int)),r.c,r.r⟩:Rw).good n/\r.c.length=sg:=⟨⟨⟨CZ _ (by omega),CJ _ B⟩,g.1.2.1,g.1.2.2⟩,g.2⟩
    cases D:b with
    | false=>
     subst D
     exact ⟨r,g,some (.d (c9 r)),by simp[m,cO,a,dW,h,F,y]⟩
    | true=>
     subst D
     by_cases N:0 < p / 8 % 8
     .refine ⟨⟨.n (p / 64 % (n:Int)),r.c,r.r⟩,q,some (.d (c9 ⟨.n (p / 64 % (n:Int)),r.c,r.r⟩)),?_⟩
      simp[m,cO,cO B,a,dW,h,F,y,gU,N,H,C]
     .exact ⟨r,g,some (.d (c9 r)),by simp[m,cO,a,dW,h,F,y,gU,N]⟩
   obtain ⟨f,P,e,Q⟩:=o _ rfl
   by_cases t:at'+(k:Int) < (ns.length:Int)
   .obtain ⟨Z,E⟩:=qK (ns:=ns) (i:=0) (GX _) (by omega)
    by_cases M:Z % 2=1
    .obtain ⟨w1,J⟩:=qK (ns:=ns) (i:=at'+k) (by omega) t
     obtain ⟨O,G,X⟩:=aLA w1 (n:=(n:Int)) (sg:=sg) B (by omega) (by omega)
     refine ⟨_,_,rfl,.inl ?_,rs++[O],some (.d (.int k)),s,by simp[w],snoc O X,rfl⟩
     simp[jY,t,E,cO,M,dW,J,G,y]
    .refine ⟨_,_,rfl,.inl ?_,rs++[f],some (.d (.int k)),e,by simp[w],snoc f P,rfl⟩
     rw[<-Q]
     simp only[oE,A7,A5]
     rw[gE]
     simp only[oF,eQ,fF,eI,dS,AT,AQ,R.bind_ok,oG,jY,rJ,gG,t,decide_true,BP,E,cO (show (0:Int) < 2 by decide),dW,M,GT,BI,CD]
   .refine ⟨_,_,rfl,.inl ?_,rs++[f],some (.d (.int k)),e,by simp[w],snoc f P,rfl⟩
    rw[<-Q]
    simp only[oE,A7,A5]
    rw[gE]
    simp only[oF,eQ,fF,eI,dS,AT,AQ,R.bind_ok,oG,jY,rJ,gG,t,GT,BI,CD])
 rw[CC] at w
 refine ⟨rs,?_,⟨by omega,by omega,s1,V,fun r a=>by rw[w];exact K r a⟩,w⟩
 unfold gH kW
 simp only[dJ,AJ,BJ,BA,BC,AL,AZ,List.replicate,b7,jK,jW,dI,R.bind_ok,CM,BP,A5,A7,kS,lW,eI,AT,AQ,a,W]
 simp[bR]
theorem sC(x y:Str):(x++y).cps.toList=x.cps.toList++y.cps.toList:=by
 show (x.cps++y.cps).toList=_
 rw[FG]
theorem aLB{ns:List Int}{at':Int}{m sg:Nat}(E:0<=at')(hm:m<=1000)(s1:1<=sg)(O:sg<=3):∃ z:Str,fA [.d (fB ns),.d (.int at'),.d (.int m),.d (.int sg)]=.ok (.d (.str z))/\cI sg z.cps.toList/\z.cps.toList.length=m:=by
 have K:=lN (n:=m) (by omega)
 have B:(0:Int) < (sg:Int):=by omega
 have j:∀ y:Int,∃ c,dIx (.str "abc") (.int (y % (sg:Int)))=.ok (.str ⟨#[c]⟩)/\dQ sg c=true:=fun y=>by
  obtain ⟨c,h1,h2⟩:=aKD (k:=y) s1 O
  exact ⟨c,aDV (by decide) h1,h2⟩
 have F:∃ z:Str,(bO (vD (e2 xW (eC (.str "")) (eL (j5 [none,some 0,some 1,some 3] (iV (rV 2)) (stN 0) lR (e2 dIx (eC (.str "abc")) (e2 dMod (eA (bG 2 bH (aC (vV 1) (aC (vD (e2 cG (rV 2) (rV 0))) aU)))) (rV 3)))))))) [some (.d (fB ns)),some (.d (.int at')),some (.d (.int m)),some (.d (.int sg)),none,none,none]=.ok (.rt (.d (.str z)))/\cI sg z.cps.toList/\z.cps.toList.length=m:=by
  have b:∀ i:Nat,∃ c,(e2 dIx (eC (.str "abc")) (e2 dMod (eA (bG 2 bH (aC (vV 1) (aC (vD (e2 cG (rV 2) (rV 0))) aU)))) (rV 3))) [some (.d (.int i)),some (.d (fB ns)),some (.d (.int at')),some (.d (.int sg))]=.ok (.str ⟨#[c]⟩)/\dQ sg c=true:=fun i=>by
   obtain ⟨v,T⟩:=oH ns (at'+i)
   obtain ⟨c,h1,h2⟩:=j v
   exact ⟨c,by simp[T,cO B,h1],h2⟩
  have r:=Classical.skolem.mp b
  obtain ⟨f,p⟩:=r
  have h1:=mO (fs:=stN 0) (fe:=e2 dIx (eC (.str "abc")) (e2 dMod (eA (bG 2 bH (aC (vV 1) (aC (vD (e2 cG (rV 2) (rV 0))) aU)))) (rV 3))) (ρ0:=[none,some (.d (fB ns)),some (.d (.int at')),some (.d (.int sg))]) (d:=fun i:Nat=>.int (i:Int)) (g:=fun i:Nat=>.str ⟨#[f i]⟩) (xs:=List.range m) fun i _=>⟨_,rfl,(p i).1⟩
  have G:o0 ((List.range m).map fun i:Nat=>PyData.str ⟨#[f i]⟩)=some (((List.range m).map f).map one):=by
   rw[D5]
   generalize List.range m=l
   induction l with
   | nil=>rfl
   | cons a t ih=>simp only[AJ,o0,ih];rfl
  have Q:xW (.str "") (.list ((List.range m).map fun i:Nat=>.str ⟨#[f i]⟩))=.ok (.str ⟨((List.range m).map f).toArray⟩):=by
   show (match o0 ((List.range m).map fun i:Nat=>PyData.str ⟨#[f i]⟩) with|some ys=>if _ then R.ok _ else .bad|none=>.bad)=_
   rw[G]
   simp only
   rw[AE (by rw[aKA,AD,AD,CC];show m+m * 0<=_;omega),aKC]
  refine ⟨⟨((List.range m).map f).toArray⟩,?_,⟨by simp;omega,fun c b=>?_⟩,by simp⟩
  .simp[K,kP,h1,Q]
  .simp at b
   obtain ⟨i,_,rfl⟩:=b
   exact (p i).2
 obtain ⟨I,e,N,L⟩:=F
 by_cases s:at' < (ns.length:Int)
 .obtain ⟨S,o⟩:=qK (ns:=ns) (i:=0) (GX _) (by omega)
  by_cases J:S % 2=1
  .obtain ⟨M,w⟩:=qK (ns:=ns) (i:=at') E s
   obtain ⟨U,p,y,z,C,u,D,rfl⟩:=kU (fs:=stN 6) (fb:=aX (cH 5 (vD (e2 cG (rV 5) (e2 dIx (eC (.str "abc")) (e2 dMod (rV 4) (rV 3)))))) (cH 4 (vD (e2 dDiv (rV 4) (rV 3)))))
    (d:=fun i:Nat=>.int (i:Int)) (xs:=List.range m) (ρ:=[some (.d (fB ns)),some (.d (.int at')),some (.d (.int m)),some (.d (.int sg)),some (.d (.int M)),some (.d (.str "")),none])
    (fun i ρ=>∃ (y:Int) (z:Str) (C:O6 A),z.cps.toList.length=i/\(∀ c∈z.cps.toList,dQ sg c=true)/\ρ=[some (.d (fB ns)),some (.d (.int at')),some (.d (.int m)),some (.d (.int sg)),some (.d (.int y)),some (.d (.str z)),C]) ⟨M,"",none,rfl,fun c b=>(nomatch (show c∈([]:List Nat) from b)),rfl⟩
    (fun i k ρ P H=>by
     obtain ⟨y,z,C,u,D,rfl⟩:=H
     have hi:i < m:=by have:=(AS.mp P).1;simpa using this
     obtain ⟨c,h1,h2⟩:=j y
     have h:cG (.str z) (.str ⟨#[c]⟩)=.ok (.str (z++⟨#[c]⟩)):=aNR (by
      have:z.length=z.cps.toList.length:=by simp[Str.length]
      show z.length+1<=_
      omega)
     refine ⟨_,_,rfl,.inl ?_,y / sg,z++⟨#[c]⟩,some (.d (.int k)),by rw[sC,AU,u];rfl,fun x r=>?_,rfl⟩
     .simp[cO B,h1,h,gU B (show (sg:Int) < 18446744073709551616 by omega)]
     .rw[sC] at r
      rcases B3.mp r with q|q
      .exact D x q
      .have:x=c:=by simpa using q
       rw[this];exact h2)
   rw[CC] at u
   refine ⟨z,?_,⟨by omega,D⟩,u⟩
   unfold fA iJ
   simp only[dJ,AJ,BJ,BA,BC,AL,AZ,List.replicate,b7,gE,oF,eQ,fF,eI,dS,AT,AQ,R.bind_ok,jY,rJ,gG,s,decide_true,BP,o,cO (show (0:Int) < 2 by decide),dW,J,gF,hU,w,A5,A7,kS,lW,K,p,gD,lC]
  .refine ⟨I,?_,N,L⟩
   unfold fA iJ
   simp only[dJ,AJ,BJ,BA,BC,AL,AZ,List.replicate]
   rw[b7,gE]
   simp only[oF,eQ,fF,eI,dS,AT,AQ,R.bind_ok,jY,rJ,gG,s,decide_true,BP,o,cO (show (0:Int) < 2 by decide),dW,J,GT,BI,CD,j8]
   rw[e];rfl
 .refine ⟨I,?_,N,L⟩
  unfold fA iJ
  simp only[dJ,AJ,BJ,BA,BC,AL,AZ,List.replicate]
  rw[b7,gE]
  simp only[oF,eQ,fF,eI,dS,AT,AQ,R.bind_ok,jY,rJ,gG,s,GT,BI,CD,j8]
  rw[e];rfl
theorem aLC(i:Int):eF [.d (.int i)]=.ok (.d (.bool true)):=by
 have h1:iG "int" "int"=true:=by decide
 have h2:iG "int" "bool"=false:=by decide
 simp[eF,mP,h1,h2]
end Mc
namespace Mc
open PySem L2 PyProof.Rows
def lO(rs:List Rw)(z:List Nat)(s:Int×Int):O6 ((Int×Int)⊕Str):=
 match (bJ rs z s).1 with
 | .w x=>some (.inr x)
 | .n q=>some (.inl (s.1+(bJ rs z s).2,q))
theorem walk_step{rs:List Rw}{z:List Nat}{s:Int×Int}:(∃ x,cD rs z s=none/\(bJ rs z s).1=.w x/\lO rs z s=some (.inr x))\/∃ s',cD rs z s=some s'/\lO rs z s=some (.inl s'):=by
 unfold cD lO
 cases (bJ rs z s).1 with
 | w x=>exact .inl ⟨x,rfl,rfl,rfl⟩
 | n q=>exact .inr ⟨_,rfl,rfl⟩
end Mc
namespace Mc
open PySem L2 PyProof.Rows Fl
theorem aF7:iG "int" "str"=false:=by decide
theorem aF8:iG "str" "str"=true:=by decide
theorem aAC{rs:List Rw}{q:Int}(h0:0<=q)(h1:q < (rs.length:Int)):dIx (bR rs) (.int q)=.ok (c9 (cW rs q)):=rK (kT h0 (by rw[A0,mY h0 h1];rfl))
def mS:O6 (Int×Int)->Dz
 | none=>.none
 | some s=>prD s
theorem jZ(z:Str):z.length=z.cps.toList.length:=by simp[Str.length]
theorem aAD{rs:List Rw}{sg:Nat}{z:Str}(M:Mach rs sg)(S:cI sg z.cps.toList){s:Int×Int}(V:fC rs z.cps.toList s):fX [.d (bR rs),.d (.str z),.d (prD s)]=.ok (.d (mS (cD rs z.cps.toList s))):=by
 obtain ⟨p,q⟩:=s
 have i:=aAC V.2.2.1 V.2.2.2
 have m:z.length<=16777216:=by rw[jZ];have:=S.1;omega
 have g:=t8 m
 rw[jZ] at g
 generalize B:z.cps.toList=h at *
 unfold fX nS
 by_cases f:p=0
 .subst f
  have a:cD rs h (0,q)=match (cW rs q).l with | .w _=>none | .n q'=>some (0+1,q'):=by
   unfold cD bJ;simp only[BP]<;>(cases (cW rs q).l<;>rfl)
  cases e:(cW rs q).l with
  | w x=>
   rw[e] at a
   rw[a]
   simp[prD,i,g,c9,dW,e,Tn.d,aF8,mS]
  | n q'=>
   rw[e] at a
   rw[a]
   simp[prD,i,g,c9,dW,e,Tn.d,aF7,mS]
 .by_cases h1:p=(h.length:Int)+1
  .have a:cD rs h (p,q)=match (cW rs q).r with | .w _=>none | .n q'=>some (p + -1,q'):=by
    unfold cD bJ;simp only[AI f,AE h1]<;>(cases (cW rs q).r<;>rfl)
   have u:(0:Int) < p:=by omega
   have b:(h.length:Int) < p:=by omega
   cases e:(cW rs q).r with
   | w x=>
    rw[e] at a
    rw[a]
    simp[prD,i,g,c9,dW,e,Tn.d,aF8,mS,f,b,u]
   | n q'=>
    rw[e] at a
    rw[a]
    simp[prD,i,g,c9,dW,e,Tn.d,aF7,mS,f,b,u]
    omega
  .obtain ⟨c,k,y,t⟩:=vB S V f h1
   obtain ⟨j,v,o,F⟩:=mC M S V f h1
   have E:=V.1
   have A:=V.2.1
   simp only at E A k t v o
   have a:cD rs h (p,q)=some (p+j.2,j.1):=by
    unfold cD bJ;simp only[AI f,AI h1,o]
   have b:¬ (h.length:Int) < p:=by omega
   have D:dIx (.str z) (.int (p - 1))=.ok (.str ⟨#[c]⟩):=aDV m (kT (by omega) (by rw[B,<-k];congr 1;omega))
   have id:=aCA (aAB M.sg3 y)
   have C:dIx (.tuple ((cW rs q).c.map gZ)) (.int ((c - 97:Nat):Int))=.ok (gZ j):=rK (iO (by rw[A0,<-t,v];rfl))
   rw[a]
   simp[prD,i,g,c9,dW,mS,f,b,D,id,C,gZ]
theorem iM(xs:List Dz)(x:Dz):dIx (.list (xs++[x])) (.int (-1))=.ok x:=lD (L2.aG4 xs x)
def stρ(rs:List Rw)(z:Str)(ps:List (Int×Int))(s:Int×Int)(u:O6 A):Sg:=[some (.d (bR rs)),some (.d (.str z)),some (.l (ps.map prD++[prD s])),some (.m (been prD ps)),u]
theorem aNW{rs:List Rw}{z:Str}{ps:List (Int×Int)}{s:Int×Int}{u:O6 A}(h:s∈ps):sS (stρ rs z ps s u)=.ok false:=by
 have h1:=gL jX ps s
 have h2:=(sR iW).mpr h
 simp[sS,stρ,iM,h1,h2]
theorem aCC{rs:List Rw}{z:Str}{ps:List (Int×Int)}{s:Int×Int}{u:O6 A}(h:s∉ps):sS (stρ rs z ps s u)=.ok true:=by
 have h1:=gL jX ps s
 have h2:=qJ iW h
 simp[sS,stρ,iM,h1,h2]
theorem aF9(s:Int×Int):jB (prD s)=false:=id rfl
theorem aLD{rs:List Rw}{sg:Nat}{z:Str}(M:Mach rs sg)(S:cI sg z.cps.toList){ps:List (Int×Int)}{s:Int×Int}{u:O6 A}(V:fC rs z.cps.toList s)(h:s∉ps)(c:ps.length<=2000000)(e:cD rs z.cps.toList s=none):sT (stρ rs z ps s u)=.ok (.rt (.d (.list ((ps++[s]).map prD)))):=by
 have h1:=gL jX ps s
 have a:=o8 iW h
 have b:(been prD ps).length<=16777216:=by rw[o9];omega
 have f:=aAD M S V
 rw[e] at f
 simp[sT,stρ,iM,h1,a,b,f,mS]
theorem aNX{rs:List Rw}{sg:Nat}{z:Str}(M:Mach rs sg)(S:cI sg z.cps.toList){ps:List (Int×Int)}{s s':Int×Int}{u:O6 A}(V:fC rs z.cps.toList s)(h:s∉ps)(g:ps.length<=2000000)(e:cD rs z.cps.toList s=some s'):sT (stρ rs z ps s u)=.ok (.nx (stρ rs z (ps++[s]) s' (some (.d (prD s'))))):=by
 have h1:=gL jX ps s
 have a:=o8 iW h
 have c:(been prD ps).length<=16777216:=by rw[o9];omega
 have f:=aAD M S V
 rw[e] at f
 have b:ps.length+1 < 16777216:=by omega
 simp[sT,stρ,iM,h1,a,c,f,mS,aF9,b]
def kX(rs:List Rw)(z:List Nat)(s:Int×Int):Prop:=fC rs z s/\((cD rs z s=none/\∃ x,(bJ rs z s).1=.w x/\mZ (lO rs z) (0,0)=some x)\/((∃ s',cD rs z s=some s')/\mZ (lO rs z) (0,0)=none))
theorem aBC{rs:List Rw}{sg:Nat}{z:Str}(M:Mach rs sg)(S:cI sg z.cps.toList):∀ (k:Nat) (ps:List (Int×Int)) (s:Int×Int) (u:O6 A),Way rs z.cps.toList ps s k->Und2 (lO rs z.cps.toList) (0,0) ps s->
  aX (cN sS sT) (sFz 2 (bO (vV 2))) (stρ rs z ps s u)=.ok (.rt (.d (.list ((eH rs z.cps.toList).map prD))))/\∃ ps' s',eH rs z.cps.toList=ps'++[s']/\kX rs z.cps.toList s':=by
 have i:jA rs z.cps.toList<=1002 * 1000:=FK (by have:=S.1;omega) M.len2
 have b:∀ (k:Nat) (ps:List (Int×Int)) (s:Int×Int) (u:O6 A),Way rs z.cps.toList ps s k->Und2 (lO rs z.cps.toList) (0,0) ps s->s∈ps->aX (cN sS sT) (sFz 2 (bO (vV 2))) (stρ rs z ps s u)=.ok (.rt (.d (.list ((eH rs z.cps.toList).map prD))))/\∃ ps' s',eH rs z.cps.toList=ps'++[s']/\kX rs z.cps.toList s':=by
  intro k ps s u W U a
  refine ⟨?_,ps,s,(W.stop a).symm,W.here,.inr ⟨?_,U.met a⟩⟩
  .rw[b7,wZ (aNW a),<-W.stop a]
   simp[stρ]
  .obtain ⟨m,r⟩:=U.back s a
   cases r with
   | cons h t=>
    rcases walk_step (rs:=rs) (z:=z.cps.toList) (s:=s) with ⟨x,_,_,e⟩|⟨s',e,_⟩
    · rw [e] at h; cases h
    · exact ⟨s', e⟩
 intro k
 induction k with
 | zero=>
  intro ps s u W U
  by_cases a:s∈ps
  .exact b 0 ps s u W U a
  .obtain ⟨j,g⟩:=W.more a;omega
 | succ k ih=>
  intro ps s u W U
  by_cases a:s∈ps
  .exact b _ ps s u W U a
  .have f:ps.length<=2000000:=by have:=W.num;omega
   rcases walk_step (rs:=rs) (z:=z.cps.toList) (s:=s) with ⟨x,e,e2,c⟩|⟨s',e,c⟩
   .refine ⟨?_,ps,s,(W.ends a e).symm,W.here,.inl ⟨e,x,e2,U.outs c⟩⟩
    rw[b7,wY (aCC a) (aLD M S W.here a f e),<-W.ends a e];rfl
   .have:=ih (ps++[s]) s' (some (.d (prD s'))) (W.next M S a e) (U.next a c)
    rw[b7] at this ⊢
    rw[wX (aCC a) (aNX M S W.here a f e)]
    exact this
theorem sU{rs:List Rw}{sg:Nat}{z:Str}(M:Mach rs sg)(S:cI sg z.cps.toList):dX [.d (bR rs),.d (.str z)]=.ok (.d (.list ((eH rs z.cps.toList).map prD)))/\∃ ps' s',eH rs z.cps.toList=ps'++[s']/\kX rs z.cps.toList s':=by
 have h:=aBC M S (jA rs z.cps.toList) [] (0,0) none (Way.start M) Und2.start
 refine ⟨?_,h.2⟩
 unfold dX
 rw[lS]
 simp only[dJ,b7,jK,jW,dU,l5,dS,dI,R.bind_ok,AL,AZ,Nat.reduceAdd,Nat.reduceLeDiff,BP,AJ,BJ,BA,BC,List.replicate,A5,A7,zZ]
 have e:=h.1
 rw[b7] at e
 simp only[stρ,BJ,BC,been,prD] at e
 rw[e];rfl
noncomputable def cU(rs:List Rw)(z:List Nat):Str:=(mZ (lO rs z) (0,0)).getD "ever"
theorem aGA{rs:List Rw}{sg:Nat}{z:Str}(M:Mach rs sg)(S:cI sg z.cps.toList):fY [.d (bR rs),.d (.str z)]=.ok (.d (.str (cU rs z.cps.toList))):=by
 obtain ⟨h,ps,s,e,V,q⟩:=sU M S
 have f:=aAD M S V
 rw[e,CB,AJ,BJ] at h
 have g:=aAC V.2.2.1 V.2.2.2
 unfold fY nU cU
 obtain ⟨p,r⟩:=s
 rcases q with ⟨j,x,a,i⟩|⟨⟨s',j⟩,i⟩
 .rw[j] at f
  rw[i]
  have c:(if 0 < p then (cW rs r).r else (cW rs r).l)=.w x:=by
   unfold bJ at a
   simp only at a
   by_cases k:p=0
   .rw[AE k] at a;rw[AI (by omega)];exact a
   .rw[AI k] at a
    have m:=V.1
    simp only at m
    rw[AE (by omega)]
    by_cases h1:p=(z.cps.toList.length:Int)+1
    · rw [AE h1] at a; exact a
    · rw [AI h1] at a; cases a
  simp only[prD] at f g h
  by_cases b:0 < p
  .rw[AE b] at c
   simp[h,iM,prD,f,mS,g,c9,b,c,Tn.d]
  .rw[AI b] at c
   simp[h,iM,prD,f,mS,g,c9,b,c,Tn.d]
 .rw[j] at f
  rw[i]
  simp only[prD] at f g h
  simp[h,iM,prD,f,mS]
theorem aAE{x:Dz}(hx:SeqAt.shaped x=true)(h:∀ i,x≠.str i\/True):inD x (.tuple [.str "by",.str "out"])=some (PyData.eqv (.str "by") x || (PyData.eqv (.str "out") x || false)):=by
 have a:SeqAt.shaped (.tuple [.str "by",.str "out"])=true:=by decide +kernel
 cases x<;>simp[inD,hx,a]
theorem aGB(x:Str)(q:Int):PyData.eqv (.str x) (.int q)=false:=by simp[PyData.eqv]
theorem aAF(x y:Str):PyData.eqv (.str x) (.str y)=(x == y):=by rw[PyData.eqv.eq_6]
theorem aDX(q:Int):dIn (.int q) (.tuple [.str "by",.str "out"])=.ok (.bool false):=by
 unfold dIn
 rw[aAE rfl fun _=>.inr trivial,aGB,aGB];rfl
theorem aDY{x:Str}(h:x="by"\/x="out"):dIn (.str x) (.tuple [.str "by",.str "out"])=.ok (.bool true):=by
 have h2:SeqAt.shaped (.str x)=true:=by rcases h with rfl|rfl<;>decide +kernel
 unfold dIn
 rw[aAE h2 fun _=>.inr trivial,aAF,aAF]
 rcases h with rfl|rfl<;>rfl
end Mc
namespace Fl
open PySem L2 PyProof.Rows
@[simp] theorem aQA(i:Nat)(f:Sg->R (List (Dz×Dz)))(ρ:Sg):aO3 i f ρ=(f ρ).bind fun kvs=>(zO [] kvs).bind fun res=>.ok (.nx (ρ.set i (some (.m res)))):=id rfl
@[simp] theorem aQT(ρ:Sg):aP2 ρ=.ok []:=id rfl
@[simp] theorem aQB(f g:Sg->R Dz)(r:Sg->R (List (Dz×Dz)))(ρ:Sg):aO2 f g r ρ=(f ρ).bind fun x=>(g ρ).bind fun y=>(r ρ).bind fun t=>.ok ((x,y)::t):=id rfl
@[simp] theorem aPI(i:Nat)(f g:Sg->R Dz)(ρ:Sg):aNH i f g ρ=match ρ[i]? with|some (some (.m kvs))=>(f ρ).bind fun k=>(g ρ).bind fun y=>if eD k (kvs.map (·.1))=true then .ok ((kR kvs k).getD y) else .bad|_=>.bad:=id rfl
end Fl
namespace Mc
open PySem L2 PyProof.Rows Fl
theorem kY{w:Str}(h:w="by"\/w="out"\/w="ever"):SeqAt.shaped (.str w)=true:=by rcases h with rfl|rfl|rfl<;>decide +kernel
theorem aJG{w:Str}(h:w="by"\/w="out"\/w="ever"):dNe (.str w) (.str w)=.ok (.bool false):=by
 rw[aAA (kY h) (kY h),aJ6];rfl
theorem qL{w v:Str}(h:w="by"\/w="out"\/w="ever")(h':v="by"\/v="out"\/v="ever"):dEq (.str w) (.str v)=.ok (.bool (decide (w=v))):=by
 rw[qI (kY h) (kY h'),aAF]
 congr 2
end Mc
namespace Fl
open PySem L2 PyProof.Rows
def qM(ρ:Sg)(σ:L2.St)(p:Az):Prop:=∀ (j:Nat) (a:A),ρ[j]? = some (some a)->a.own=true->σ[j]? ≠ some (some (.ref p))
theorem Ab.off9{c:Ct}{ρ:Sg}{σ:L2.St}{F H:Hp}{p:Az}{o:HO}(b:Ab c ρ σ F H)(r:F p=none)(q:c.H0 p=none)(s:qM ρ σ p):Ab c ρ σ F (upd H p o) where
 len:=b.len
 fh:=fun a o' z=>by rw[aF (fun w=>by rw[w,r] at z;cases z)];exact b.fh a o' z
 slot:=fun j a h=>by
  obtain ⟨v,h1,h2⟩:=b.slot j a h
  refine ⟨v,h1,?_⟩
  cases i:a.own with
  | true=>exact h2.off fun z=>s j a h i (by rw[h1,z])
  | false=>
   cases a with
   | l xs=>cases i
   | m xs=>cases i
   | d x=>exact h2
   | x e=>exact h2
   | g k n f=>exact h2
   | k S=>exact h2
   | f S=>exact h2
   | o S=>exact h2
 apart:=b.apart
 f0:=b.f0
 h0:=fun a o' z=>by rw[aF (fun w=>by rw[w,q] at z;cases z)];exact b.h0 a o' z
 n0:=b.n0
 t0:=b.t0
theorem Ab.pub9{c:Ct}{ρ:Sg}{σ:L2.St}{F H:Hp}{p:Az}{o:HO}(b:Ab c ρ σ F H)(h2:H p=some o)(u:F p=none)(A:c.H0 p=none)(E:qM ρ σ p):Ab c ρ σ (upd F p o) H:=by
 have q:aJ F (upd F p o):=aJ.upd u
 exact {
  len:=b.len
  fh:=fun a o' z=>by
   by_cases w:a=p
   .subst w;rw[aQ] at z;rw[h2];exact z
   .rw[aF w] at z;exact b.fh a o' z
  slot:=fun j a h=>by
   obtain ⟨w,B,i⟩:=b.slot j a h
   refine ⟨w,B,?_⟩
   have off:∀ r,a.own=true->w=.ref r->F r=none->upd F p o r=none:=fun r C e f=>by
    rw[aF]
    .exact f
    .intro z
     subst z
     exact E j a h C (by rw[B,e])
   cases a with
   | l zs=>obtain ⟨r,t,e,s,i,v,y⟩:=i;exact ⟨r,t,e,s,off r rfl e i,v,y.same q⟩
   | m kvs=>obtain ⟨r,t,e,s,i,v,y⟩:=i;exact ⟨r,t,e,s,off r rfl e i,v,y.same q⟩
   | d x=>exact DatV.same q i
   | x e=>exact AF.same (g:=c.g) (K:=c.K) (mg:=c.mg) (a:=.x e) q i
   | g k n f=>exact AF.same (g:=c.g) (K:=c.K) (mg:=c.mg) (a:=.g k n f) q i
   | k S=>obtain ⟨S,f,cl,doc,pm,D,ct,h0,h1,h2,u,A⟩:=i;exact ⟨S,f,cl,doc,pm,D,ct,h0,h1,q _ _ h2,q _ _ u,A⟩
   | f kvs=>exact AF.same (g:=c.g) (K:=c.K) (mg:=c.mg) (a:=.f kvs) q i
   | o e=>exact AF.same (g:=c.g) (K:=c.K) (mg:=c.mg) (a:=.o e) q i
  apart:=b.apart
  f0:=fun a o z=>q a o (b.f0 a o z)
  h0:=b.h0
  n0:=fun a z n=>by
   by_cases w:a=p
   .subst w;exact .inl A
   .rw[aF w] at n;exact b.n0 a z n
  t0:=b.t0}
theorem Ab.drop9{c:Ct}{ρ:Sg}{σ:L2.St}{F H:Hp}(b:Ab c ρ σ F H)(i:Nat)(v:V):Ab c (ρ.set i none) (σ.set i (some v)) F H where
 len:=by rw[B0,B0];exact b.len
 fh:=b.fh
 slot:=fun j a h=>by
  rcases get_set h with ⟨e,q,o⟩|⟨d,q⟩
  .cases q
  .rw[BD d];exact b.slot j a q
 apart:=fun j k r p f h1 h2 n s=>by
  rcases get_set h1 with ⟨e,q,o⟩|⟨d,q⟩
  .cases q
  .rcases get_set h2 with ⟨t,g,m⟩|⟨l,g⟩
   .cases g
   .rw[BD d,BD l]
    exact b.apart j k r p f q g n s
 f0:=b.f0
 h0:=b.h0
 n0:=b.n0
 t0:=b.t0
theorem aAG{α:Type}{l:List α}{i:Nat}{x:α}(h:l[i]? = some x):l.set i x=l:=by
 obtain ⟨a,e⟩:=AS.mp h
 rw[<-e];exact List.set_getElem_self a
structure Own9(c:Ct)(F H:Hp)(ρ:Sg)(σ:L2.St)(i:Nat)(p b:Az)(u:V)(ws:List V):Prop where
 s:σ[i]? = some (some (.ref p))
 ne:p≠b
 hp:H p=some (.lst [u,.ref b])
 hb:H b=some (.lst ws)
 fp:F p=none
 fb:F b=none
 p0:c.H0 p=none
 b0:c.H0 b=none
 np:qM ρ σ p
 nb:qM ρ σ b
theorem Own9.done{c:Ct}{F H:Hp}{ρ:Sg}{σ:L2.St}{i:Nat}{p b:Az}{u:V}{l e:List V}{d1:Dz}{ys:List Dz}(h:Own9 c F H ρ σ i p b u l)(ab:Ab c ρ σ F H)(h1:DatV c.K F u d1)(h2:DatVs c.K F e ys) :
  ∃ F',aJ F F'/\Ab c (ρ.set i (some (.d (.list [d1,.list ys])))) σ F' (upd H b (.lst e)):=by
 have k:=(ab.off9 (o:=.lst e) h.fb h.b0 h.nb).pub9 (p:=b) aQ h.fb h.b0 h.nb
 have j:=k.pub9 (p:=p) (o:=.lst [u,.ref b]) (by rw[aF h.ne];exact h.hp) (by rw[aF h.ne];exact h.fp) h.p0 h.np
 have s1:aJ F (upd F b (.lst e)):=aJ.upd h.fb
 have f:aJ (upd F b (.lst e)) (upd (upd F b (.lst e)) p (.lst [u,.ref b])):=aJ.upd (by rw[aF h.ne];exact h.fp)
 have g:=j.setA (i:=i) (a:=.d (.list [d1,.list ys])) (v:=.ref p) (.lst (SqL.of aQ) (.cons ((h1.same s1).same f) (.cons (.lst (SqL.of (by rw[aF (BG h.ne)];exact aQ)) ((h2.same s1).same f)) .nil)))
 rw[aAG h.s] at g
 exact ⟨_,fun a o z=>f a o (s1 a o z),g⟩
end Fl
namespace L2
open PySem PySem.Spec PyProof.Rows
def tCM(C:Az)(sp:Sp)(dvs:List V)(E:XK)(ta:TE)(t:TA):TE:=fun σ H Q=>ta σ H fun x H1=>x=.ref C/\t σ H1 fun vs H2=>sp (vs++dvs) H2 Q E
structure ClsM(K:Frag)(C:Az)(m:Str)(f:Az):Prop where
 sp:PySem.W.specialIn K (.ref C) "__getattribute__"=some (some (.builtin "type.__getattribute__"))
 rd:PySem.W.readsIn K C (.type "type")=true
 fc:PySem.W.findCls K (.ref C) (.type "type") m=some (.val (.ref f))
 kp:PySem.W.keepIn K (.ref f)=true
section
variable{X:Cx}{CX:CXT}{k:Nat}{f C:Az}{fd:FuncData}{ps:List Str}{sp:Sp}{dvs:List V}{ds:List V9}{E:XK}{m:Str}{pos apos:Pos}{e o:Ez}{es:List Ez}{ta:TE}{t:TA}
theorem vS{pl:Sem Bool}(i:PE X o ta)(cm:ClsM X.K C m f)(F:FnOk X.prog X.w X.K X.mg X.base CX k f fd ps sp)(l:Room k X.A)(p:cV X.K fd ps ds)(v:aZ dvs ds)(hx:h8 CX X E)(ha:PA X (e::es) t)
  (b:starEach (e::es) X.env=(false,eval e X.env)::starEach es X.env:=by rfl) (hpl:(backTo pos (starEach es X.env)).any (·.1)=false:=by rfl)
  (ht:eval (.Call (.Attribute o m apos) (e::es) [] pos) X.env=(do
   let ov <-eval o X.env
   standAt apos.atName
   let (f,first) <-holding [ov] (getMethod ov m pl)
   callWith pos f first (backTo pos (starEach (e::es) X.env)) (backToKw pos (keywordEach [] X.env))):=by rfl) :
  PE X (.Call (.Attribute o m apos) (e::es) [] pos) (tCM C sp dvs E ta t):=by
 intro pins s σ H Q I h
 refine G3 (pl:=pl) (thn (i pins s σ H _ I h) fun u s1 a=>?_) ht
 obtain ⟨x,H1,d,j,ex,q⟩:=a
 subst ex
 obtain rfl:u=Value.ref C:=j
 refine PySem.W.method_cls d.kIn cm.sp (PySem.W.cls_value d.kIn cm.rd cm.fc rfl ?_)
 have c:=d.tok (s1.toks+1)
 refine DX (first:=[]) (h₀:=X.base) I.ok.mod.kin cm.kp (thn (ha pos pins _ σ H1 _ c q) fun us y ⟨vs,H2,g,r,n⟩=>⟨g.kIn,?_⟩) b hpl
 exact tJ (us:=us) (vs:=vs) F l p v hx g r n
end
def spB(K:Frag)(fs:List Str):Sp:=fun vs H Q _=>∃ x C dx us,vs=.ref x::us/\us.length=fs.length/\H x=some (.ins C dx [])/\Cls K C/\(∀ f∈fs,cR K C f)/\Q .non (upd H x (.ins C dx (fs.zip us)))
def spO(C:Az)(fs:List Str):Sp:=fun vs H Q _=>∃ x dx us,vs=.ref x::us/\us.length=fs.length/\H x=some (.ins C dx [])/\Q .non (upd H x (.ins C dx (fs.zip us)))
structure MkAt(P:Program)(w:World)(K:Frag)(mg:Str->Option V9)(base:Heap)(k:Nat)(cn:Str)(fs:List Str)(C:Az):Prop where
 m:mg cn=some (.ref C)
 i:∃ f fd,Mk K C f/\FnOk P w K mg base CX0 k f fd ("self"::fs) (spO C fs)/\cV K fd ("self"::fs) []
end L2
namespace Fl
open PySem L2 PyProof.Rows
def vO(i:Nat):Sg->R A:=fun ρ=>match ρ[i]? with
 | some (some (.o e))=>.ok (.o e)
 | _=>.bad
theorem vT{X:Cx}{c:Ct}{E:XK}{e:Ez}{i:Nat}(h:PE X e (hX i)):PV X c E e (vO i):=PE.imp h fun σ H Q ⟨ρ,F,ab,k⟩=>by
 unfold vO at k
 split at k
 .rename_i x a
  obtain ⟨v,h1,h2⟩:=ab.slot i _ a
  exact ⟨v,h1,k v F H (Ext.refl ab.fh) h2⟩
 .exact k.elim
def vU(cn:Str)(fs:List Str)(f:Sg->R (List Dz)):Sg->R A:=fun ρ=>(f ρ).bind fun xs=>if xs.length=fs.length then .ok (.o ⟨cn,fs.zip xs⟩) else .bad
section
variable{X:Cx}{c:Ct}{E:XK}{e o:Ez}{es:List Ez}{pos apos:Pos}
theorem aLE{cn:Str}{fs:List Str}{C:Az}{o:XK}{f:Sg->R (List Dz)}(hm:c.mg cn=some (.ref C))(h:PE X e (aIZ C (spO C fs) [] o (tAd c E f))):PV X c E e (vU cn fs f):=PE.imp h fun σ H Q j=>by
 obtain ⟨ρ,F,ab,k⟩:=j
 refine ⟨ρ,F,ab,(Rk.bind k).imp fun xs _ q vs g H1 s1 n x dx p b d=>?_⟩
 by_cases a:xs.length=fs.length
 .rw[AE a] at q
  have i:vs.length=fs.length:=by rw[n.length,a]
  refine ⟨x,dx,vs,by rw[CH],i,aQ,rfl,?_⟩
  rw[iN]
  have l:Ext g H1 (upd g dx (.own x)) (upd H1 dx (.own x)):=Ext.new s1.fh b
  have m:Ext _ _ (upd (upd g dx (.own x)) x (.ins C dx (fs.zip vs))) (upd (upd H1 dx (.own x)) x (.ins C dx (fs.zip vs))):=Ext.new l.fh (by rw[aF (BG d)];exact p)
  exact Rk.ok q (.ref x) _ _ (s1.trans (l.trans m)) ⟨x,rfl,C,dx,fs.zip vs,hm,aQ,(by show _=(fs.zip xs).map (·.1);rw[oB i,oB a]),(by show DatVs _ _ _ ((fs.zip xs).map (·.2));rw[oC i,oC a];exact n.same (l.trans m).ff)⟩
 .rw[AI a] at q;exact q.elim
theorem aAH{k:Nat}{cn:Str}{fs:List Str}{C:Az}{p:Pos}{f:Sg->R (List Dz)}(j:X.mg=c.mg)(M:MkAt X.prog X.w X.K X.mg X.base k cn fs C)(d:Room (k+1) X.A)(g:Gl X cn)(ha:PAd X c E (e::es) f)(a:(cn == ("__debug__":Str))=false:=by decide)(he:starEach (e::es) X.env=(false,eval e X.env)::starEach es X.env:=by rfl)(hpl:(backTo pos (starEach es X.env)).any (·.1)=false:=by rfl):PV X c E (.Call (.Name cn p) (e::es) [] pos) (vU cn fs f):=by
 obtain ⟨fI,fd,h,ok,b⟩:=M.i
 exact aLE (by rw[<-j];exact M.m) (aJW h ok d g M.m b .nil xQ ha a he hpl)
def eOF(i:Nat)(cs:List Str)(g:Str):Sg->R Dz:=fun ρ=>match ρ[i]? with
 | some (some (.o e))=>if cs.contains e.c=true then (match e.fs.lookup g with|some d=>.ok d|none=>.bad) else .bad
 | _=>.bad
def iY(K:Frag)(mg:Str->O6 V9)(cs:List Str)(g:Str):Prop:=∀ nm∈cs,∃ C,mg nm=some (.ref C)/\Cls K C/\cR K C g
theorem gW{i:Nat}{l:List Str}{g:Str}{e:Ez}(z:X.K=c.K)(w:X.mg=c.mg)(r:iY X.K X.mg l g)(h:PE X e (aMI X.K (hX i) g)):PD X c E e (eOF i l g):=PE.imp h fun σ H Q ⟨ρ,F,ab,k⟩=>by
 unfold eOF at k
 split at k
 .rename_i s hi
  split at k
  .rename_i b
   split at k
   .rename_i d p
    obtain ⟨v,x,a,rfl,C,dx,f,m,h1,h2,o⟩:=ab.slot i _ hi
    obtain ⟨A,j,t,n⟩:=r s.c (by simpa using b)
    rw[w,m] at j
    cases j
    obtain ⟨u,y,q⟩:=zP h2 o p
    exact ⟨_,x,a,C,dx,f,u,rfl,ab.fh _ _ h1,t,n,y,Rk.ok k u F H (Ext.refl ab.fh) q⟩
   .exact k.elim
  .exact k.elim
 .exact k.elim
def qN(P:P9)(w:W9)(K:Frag)(mg:Str->O6 V9)(base:Hz)(T:Hp)(k:Nat)(cn m:Str)(G:List A->R A):Prop:=
 ∃ C f fd,mg cn=some (.ref C)/\Cls K C/\Meth K C m f/\FnOk P w K mg base (CXe P w) k f fd ["self"] (spF (gOf P w K mg base T) K mg 1 G)/\cV K fd ["self"] []
theorem m7{V W:Type}{g:Str}:∀ {fvs:List (Str×V)} {fs:List (Str×W)},fvs.map (·.1)=fs.map (·.1)->fs.lookup g=none->fvs.lookup g=none
 | [],[],_,_=>rfl
 | [],_::_,h,_=>by simp at h
 | _::_,[],h,_=>by simp at h
 | (a,v)::fvs,(b,x)::fs,h,e=>by
  rw[AJ,AJ] at h
  injection h with h1 h2
  simp only at h1
  subst h1
  rw[A8] at e ⊢
  cases q:(g == a) with
  | true=>rw[q] at e;cases e
  | false=>rw[q] at e;exact m7 h2 e
theorem sD{α:Type}{k:Str}{v:α}:∀ {l:List (Str×α)},l.lookup k=some v->(k,v)∈l
 | [],h=>by cases h
 | (a,x)::t,h=>by
  rw[A8] at h
  cases q:(k == a) with
  | true=>rw[q] at h;cases h;rw[EM q];exact .head _
  | false=>rw[q] at h;exact .tail _ (sD h)
def vMt(f:Sg->R A)(m:Str)(tb:List (Str×(List A->R A))):Sg->R A:=fun ρ=>(f ρ).bind fun a=>match a with
 | .o e=>if (e.fs.lookup m).isNone=true then (match tb.lookup e.c with|some G=>G [.o e]|none=>.bad) else .bad
 | _=>.bad
theorem aDZ{k:Nat}{m:Str}{T:Hp}{tb:List (Str×(List A->R A))}{f:Sg->R A}{pl:Sem Bool}(y:c.g=gOf X.prog X.w X.K X.mg X.base T)(q:X.K=c.K)(n:X.mg=c.mg)(h:∀ p∈tb,qN X.prog X.w X.K X.mg X.base T k p.1 m p.2)(O:Room k X.A)(hx:h8 (CXe X.prog X.w) X E)(P:PV X c E o f)
  (ht:eval (.Call (.Attribute o m apos) [] [] pos) X.env=(do
   let ov <-eval o X.env
   standAt apos.atName
   let (f,first) <-holding [ov] (getMethod ov m pl)
   callWith pos f first (backTo pos (starEach [] X.env)) (backToKw pos (keywordEach [] X.env))):=by rfl):PV X c E (.Call (.Attribute o m apos) [] [] pos) (vMt f m tb):=by
 intro pins s σ H Q I ⟨ρ,F,ab,k⟩
 refine aA9 P I ⟨ρ,F,ab,(Rk.bind k).imp fun a _ k v N H1 s1 L=>?_⟩ ht
 cases a with
 | o er=>
  dsimp only at k
  split at k
  .rename_i d
   split at k
   .rename_i G M
    obtain ⟨a,rfl,C,dx,i,B,h1,h2,J⟩:=L
    obtain ⟨S,f,fd,D,cl,u,ok,b⟩:=(show qN X.prog X.w X.K X.mg X.base T _ er.c m G from h _ (sD M))
    rw[n] at D
    have t:c.mg er.c=some (.ref S):=D
    rw[B] at t
    cases t
    refine ⟨a,C,dx,i,f,rfl,s1.fh _ _ h1,cl,u,m7 h2 (GH.mp d),fun U x=>?_⟩
    refine PySem.W.callWith_K0 (first:=[.ref a]) x.kIn u.kp (tJ (us:=[.ref a]) (vs:=[.ref a]) ok O b .nil hx x (.cons rfl .nil) ?_)
    refine ⟨N,[.o er],by rw[<-y];exact fun a o z=>s1.ff a o (ab.f0 a o (ab.t0 a o z)),s1.fh,⟨⟨a,rfl,?_⟩,trivial⟩,rfl,?_⟩
    .rw[q,n];exact ⟨C,dx,i,B,h1,h2,J⟩
    .rw[<-y,q,n]
     cases l:G [.o er] with
     | bad=>rw[l] at k;exact k
     | ok a=>rw[l] at k;exact fun v j H' s r=>Rk.ok k v j H' (s1.trans s) r
     | ex e=>rw[l] at k;exact fun a C j H' s r=>k a C j H' ((ab.all.trans s1).trans s) r
   .exact k.elim
  .exact k.elim
 | _=>exact k.elim
end
theorem l7{P:P9}{w:W9}{K:Frag}{mg:Str->O6 V9}{base:Hz}{T:Hp}{x q:Str}{st:Stmt}{N ps:List Str}{k:Nat}{f:Az}{fd:FuncData}{fb:Sg->R Fw}(g:Fun K x q st f fd)(S:FnScope N ps (aE st))
  (a:∀ (cdv:V9) (A:U9) (outer:List Env) (s:S9) (H F:Hp) (E:XK),Room k (A.deeper (envOfC q (aE st) s.heap.objs.size f cdv))->
   lQ ((eW (CXe P w) P w K mg base N q (aE st) f cdv A outer s H E).fly E) ⟨K,mg,w,F,H,gOf P w K mg base T,(envOfC q (aE st) s.heap.objs.size f cdv).cells,fun _=>none⟩ E (bY st) fb):FnOk P w K mg base (CXe P w) (k+1) f fd ps (spF (gOf P w K mg base T) K mg ps.length (fnF N.length fb)):=by
 refine g.okX S (fun vs H Q E h=>?_) (fun cdv A outer s H vs Q E e h=>?_)
 .obtain ⟨F,c,_,_,h2,b,_⟩:=h
  rw[h2.len,b]
 .obtain ⟨F,c,i,h1,h2,b,d⟩:=h
  exact ⟨_,a cdv A outer s H F E e,rF i h1 h2 d⟩
def rLI(K:Frag):V->List V->Hp->VK->Prop:=fun x vs H Q=>∃ xs d u j,vs=[u]/\DatV K H x (.list xs)/\DatV K H u d/\SeqAt.shaped d=true/\SeqAt.shaped (.list xs)=true/\xs.length<=16777216/\(xs.findIdx? fun y=>PyData.eqv y d)=some j/\Q (.int j) H
theorem qO{X:Cx}(T:X.A.units+64 < cLine):MtR X "list.index" (rLI X.K):=by
 intro pins s σ H x vs v us Q I P O h
 obtain ⟨xs,d,u,j,rfl,E,D,s1,w,U,r,q⟩:=h
 obtain ⟨G,rfl,C⟩:=O.one
 obtain ⟨S,L⟩:=DatV.reads I E (lY w) P
 obtain ⟨bs,R⟩:=DatV.reads I D (lY s1) C
 have l:=oX w
 have g:=mG (b:=d.depth) l.2
 cases L with
 | list h1 h2 h3 h4=>
  rename_i a o c n N
  have e:=SeqAt.readsAll_map _ _ _ l.1 h4
  obtain ⟨V,od,W,M⟩:=o
  dsimp only at h2 h3
  subst h2 h3
  have f:c.toList.length=xs.length:=by rw[<-e,AD]
  have J:c.size=xs.length:=by rw[<-f,B5]
  rw[List.findIdx?_eq_some_iff_getElem] at r
  obtain ⟨B,i,k⟩:=r
  have t:∀ m (g:m < c.size),PyData.eqv (SeqAt.readOf s.heap c[m]) d=PyData.eqv (xs[m]'(by omega)) d:=fun m g=>by
   have:SeqAt.readOf s.heap c[m]=xs[m]'(by omega):=by
    have z:(c.toList.map (SeqAt.readOf s.heap))[m]'(by rw[AD];simpa using g)=xs[m]'(by omega):=by simp only[e]
    rw[List.getElem_map] at z
    simpa using z
   rw[this]
  refine GG DU ⟨_,h1,rfl⟩ PySem.F.entry_list_index (PySem.F.args_list_index_2 _ _) (SeqAt.list_indexAt a c n od M G (fun y=>PyData.eqv (SeqAt.readOf s.heap y) d) j (by omega) (by omega) (by rw[t j (by omega)];exact i) (fun m g p=>by rw[t m g];exact GA.mpr (k m p))) ⟨h1,SeqAt.items_eqAt h4 R l.1 (c7 s1) (by omega),.int j,H,I.tok _,⟨_,rfl⟩,q⟩
def mT:Dz->Dz->R Dz
 | .list xs,x=>if SeqAt.shaped x=true/\SeqAt.shaped (.list xs)=true/\xs.length<=16777216 then (match xs.findIdx? fun y=>PyData.eqv y x with|some j=>.ok (.int j)|none=>.bad) else .bad
 | _,_=>.bad
def isL:Dz->Bool
 | .list _=>true
 | _=>false
def aAI(f g:Sg->R Dz):Sg->R Dz:=fun ρ=>(f ρ).bind fun x=>if isL x=true then (g ρ).bind fun y=>mT x y else .bad
theorem qP{X:Cx}{c:Ct}{E:XK}{e:Ez}{f g:Sg->R Dz}(b:X.K=c.K)(h:PE X e (tBM X.K "list" (rLI X.K) (tV (bD c) c E f) (dN (tV (bD c) c E g) f7))):PD X c E e (aAI f g):=PE.imp h fun σ H Q ⟨ρ,F,ab,k⟩=>by
 refine ⟨ρ,F,ab,(Rk.bind k).imp fun x ex q v o H1 s1 i=>?_⟩
 cases x with
 | list xs=>
  have n:Rk c E F H (g ρ) _:=Rk.bind (f:=fun y=>mT (.list xs) y) q
  obtain ⟨p,vs,rfl,h1,h2⟩:=aW.lst_of s1.fh i
  refine ⟨.inl ⟨rfl,vs,by rw[b];exact h1⟩,ρ,o,ab.ext s1,(n.ext s1).imp fun y _ q u l H2 a r=>?_⟩
  unfold mT at q
  dsimp only at q
  split at q
  .rename_i d
   split at q
   .rename_i j m
    exact ⟨xs,y,u,j,rfl,by rw[b];exact (aW.ext a i).heap a.fh,by rw[b];exact r.heap a.fh,d.1,d.2.1,d.2.2,m,Rk.ok q _ l H2 (s1.trans a) (.int _)⟩
   .exact q.elim
  .exact q.elim
 | _=>exact q.elim
def jD(ρ:Sg):Bool:=ρ.all fun o=>match o with
 | some a=>!a.own
 | none=>true
theorem pA{ρ:Sg}{σ:L2.St}{p:Az}(h:jD ρ=true):qM ρ σ p:=fun j a b c=>by
 have z:=CK.mp h _ (A6 b)
 simp only[c] at z
 cases z
structure OwnL(c:Ct)(F H:Hp)(σ:L2.St)(i:Nat)(p:Az)(qs:List Az)(vss:List (List V)):Prop where
 s:σ[i]? = some (some (.ref p))
 hp:H p=some (.lst (qs.map V.ref))
 fp:F p=none
 p0:c.H0 p=none
 np:p∉qs
 nd:qs.Nodup
 len:vss.length=qs.length
 q:∀ (j:Nat) (q:Az) (vs:List V),qs[j]? = some q->vss[j]? = some vs->H q=some (.lst vs)/\F q=none/\c.H0 q=none
theorem OwnL.ext{c:Ct}{F H g H':Hp}{σ:L2.St}{i:Nat}{p:Az}{qs:List Az}{f:List (List V)}(h:OwnL c F H σ i p qs f)(e:Ext F H g H'):OwnL c g H' σ i p qs f:=
 ⟨h.s,e.hh _ _ h.hp,e.stay h.fp h.hp (fun _ z=>nomatch z),h.p0,h.np,h.nd,h.len,fun j q vs h1 h2=>by
  obtain ⟨a,b,d⟩:=h.q j q vs h1 h2
  exact ⟨e.hh _ _ a,e.stay b a (fun _ z=>nomatch z),d⟩⟩
theorem OwnL.put{c:Ct}{F H:Hp}{σ:L2.St}{i:Nat}{p:Az}{qs:List Az}{f:List (List V)}(h:OwnL c F H σ i p qs f){j:Nat}{q:Az}{vs us:List V}(h1:qs[j]? = some q)(h2:f[j]? = some vs):OwnL c F (upd H q (.lst us)) σ i p qs (f.set j us):=by
 have o:q∈qs:=A6 h1
 refine ⟨h.s,?_,h.fp,h.p0,h.np,h.nd,by rw[B0];exact h.len,fun k r m e1 e2=>?_⟩
 .rw[aF (fun z=>h.np (by rw[z];exact o))];exact h.hp
 .rcases get_set e2 with ⟨e,z,_⟩|⟨l,z⟩
  .subst e z
   rw[h1] at e1
   cases e1
   obtain ⟨_,b,d⟩:=h.q _ _ _ h1 h2
   exact ⟨aQ,b,d⟩
  .obtain ⟨a,b,d⟩:=h.q k r m e1 z
   refine ⟨?_,b,d⟩
   rw[aF]
   .exact a
   .intro w
    subst w
    obtain ⟨u,g⟩:=AS.mp h1
    obtain ⟨t,n⟩:=AS.mp e1
    exact l ((List.getElem_inj h.nd).mp (g.trans n.symm))
theorem aCD{c:Ct}{ρ:Sg}{σ:L2.St}{H:Hp}(hn:jD ρ=true):∀ (qs:List Az) (vss:List (List V)) {F:Hp},Ab c ρ σ F H->qs.Nodup->vss.length=qs.length->(∀ (j:Nat) (q:Az) (vs:List V),qs[j]? = some q->vss[j]? = some vs->H q=some (.lst vs)/\F q=none/\c.H0 q=none)->
  ∃ F',aJ F F'/\Ab c ρ σ F' H/\(∀ (j:Nat) (q:Az) (vs:List V),qs[j]? = some q->vss[j]? = some vs->F' q=some (.lst vs))/\∀ a,a∉qs->F' a=F a
 | [],_,F,ab,_,_,_=>⟨F,cB F,ab,fun j q vs h=>by simp at h,fun _ _=>rfl⟩
 | q::qs,[],F,ab,_,hl,_=>by simp at hl
 | q::qs,vs::vss,F,ab,nd,hl,h=>by
  obtain ⟨a,b,d⟩:=h 0 q vs rfl rfl
  have f:=ab.pub9 a b d (pA hn)
  have k:q∉qs:=(BU.mp nd).1
  obtain ⟨F',s1,e,k1,k2⟩:=aCD hn qs vss f (BU.mp nd).2 (by simpa using hl) (fun j r i e1 e2=>by
   obtain ⟨x,y,z⟩:=h (j+1) r i (by simpa using e1) (by simpa using e2)
   exact ⟨x,by rw[aF (fun w=>k (by rw[<-w];exact A6 e1))];exact y,z⟩)
  refine ⟨F',fun x o z=>s1 x o (aJ.upd b x o z),e,fun j r i e1 e2=>?_,fun x g=>?_⟩
  .cases j with
   | zero=>simp at e1 e2;subst e1 e2;rw[k2 q k,aQ]
   | succ j=>exact k1 j r i (by simpa using e1) (by simpa using e2)
  .rw[AG,G5] at g
   rw[k2 x g.2,aF g.1]
theorem aAJ{K:Frag}{F F2:Hp}(s:aJ F F2):∀ {qs:List Az} {vss:List (List V)} {xss:List (List Dz)},vss.length=qs.length->xss.length=qs.length->(∀ (j:Nat) (q:Az) (vs:List V),qs[j]? = some q->vss[j]? = some vs->F2 q=some (.lst vs))->(∀ (j:Nat) vs xs,vss[j]? = some vs->xss[j]? = some xs->DatVs K F vs xs)->DatVs K F2 (qs.map V.ref) (xss.map PyData.list)
 | [],_,[],_,_,_,_=>.nil
 | [],_,_::_,_,h,_,_=>by simp at h
 | q::qs,[],_,h,_,_,_=>by simp at h
 | q::qs,_,[],_,h,_,_=>by simp at h
 | q::qs,vs::vss,xs::xss,h1,h2,h3,h4=>.cons (.lst (SqL.of (h3 0 q vs rfl rfl)) ((h4 0 vs xs rfl rfl).same s)) (aAJ s (by simpa using h1) (by simpa using h2) (fun j r a e1 e2=>h3 (j+1) r a (by simpa using e1) (by simpa using e2)) (fun j r a e1 e2=>h4 (j+1) r a (by simpa using e1) (by simpa using e2)))
theorem OwnL.done{c:Ct}{F H:Hp}{ρ:Sg}{σ:L2.St}{i:Nat}{p:Az}{qs:List Az}{e:List (List V)}{b:List (List Dz)}(h:OwnL c F H σ i p qs e)(ab:Ab c ρ σ F H)(hn:jD ρ=true)(hx:b.length=qs.length)(n:∀ (j:Nat) vs xs,e[j]? = some vs->b[j]? = some xs->DatVs c.K F vs xs) :
  ∃ F',aJ F F'/\Ab c (ρ.set i (some (.d (.list (b.map PyData.list))))) σ F' H:=by
 obtain ⟨l,s1,k,k1,k2⟩:=aCD hn qs e ab h.nd h.len h.q
 have fp:l p=none:=by rw[k2 p h.np];exact h.fp
 have g:=k.pub9 h.hp fp h.p0 (pA hn)
 have m:aJ l (upd l p (.lst (qs.map V.ref))):=aJ.upd fp
 have f:=g.setA (i:=i) (a:=.d (.list (b.map PyData.list))) (v:=.ref p) (.lst (SqL.of aQ) (aAJ (fun a o z=>m a o (s1 a o z)) h.len hx (fun j q vs e1 e2=>m _ _ (k1 j q vs e1 e2)) n))
 rw[aAG h.s] at f
 exact ⟨_,fun a o z=>m a o (s1 a o z),f⟩
def nE(fs:Dz->Sg->O6 Sg)(fk fe:Sg->R Dz):List Dz->List (List Dz)->Sg->R (List (List Dz)×Sg)
 | [],xss,ρ=>.ok (xss,ρ)
 | y::t,xss,ρ=>(vQ (fs y ρ)).bind fun ρ1=>if jD ρ1=true then (fk ρ1).bind fun k=>(match k with
  | .int kk=>(match ixN xss.length kk with
   | some j=>(fe ρ1).bind fun x=>if (xss.getD j []).length < 16777216 then nE fs fk fe t (xss.set j (xss.getD j []++[x])) ρ1 else .bad
   | none=>.bad)
  | _=>.bad) else .bad
def aD0(i:Nat)(fi1 fi2:Sg->R (List Dz))(fs:Dz->Sg->O6 Sg)(fk fe:Sg->R Dz):Sg->R Fw:=fun ρ=>(fi1 ρ).bind fun xs=>if i < ρ.length/\jD (ρ.set i none)=true then (fi2 (ρ.set i none)).bind fun ys=>(nE fs fk fe ys (List.replicate xs.length []) (ρ.set i none)).bind fun r=>.ok (.nx (r.2.set i (some (.d (.list (r.1.map PyData.list)))))) else .bad
theorem aO8{c:Ct}{E:XK}{F H d H1 b H2:Hp}{α β:Type}{r:R α}{f:α->R β}{k:β->Prop}(h:Rk c E F H r fun a=>Rk c E d H1 (f a) k):Rk c E b H2 (r.bind f) k:=by
 cases r with
 | bad=>exact h
 | ok a=>exact h
 | ex e=>exact h
def aJH(i:Nat)(r:List (List Dz)×Sg):R Fw:=.ok (.nx (r.2.set i (some (.d (.list (r.1.map PyData.list))))))
def aJI(c:Ct)(E:XK)(F H:Hp)(D:kX)(fr:Sg->R Fw)(w:Fw):Prop:=Rk c E F H (match w with | .nx ρ'=>fr ρ'|w=>.ok w) (iE c F D)
section
variable{X:Cx}{c:Ct}{E:XK}{rest:List Stmt}{pos:Pos}
theorem aIE{Z ag:Stmt}{i:Nat}{N:List Str}{js:List (O6 Nat)}{scope:Scope}{tg ah:Ez}{aa M:Sg->R (List Dz)}{fs:Dz->Sg->O6 Sg}{is:List Nat}{g:TG}{fk fe:Sg->R Dz}{fr:Sg->R Fw}
  (h1:PS X Z (kG (q0 X N scope js tg ah [] (tI c E aa)) (i8 i))) (hj:js[0]? = some none)
  (hb:∀ (cl:List (Str×Az)) (C:Az) (s:S9) (H0:Hp) (fp:List Az),PG (eX X N scope cl C s H0 fp) tg (i8 0)/\PE (eX X N scope cl C s H0 fp) ah (aMJ f7))
  (hg:Tg c g fs is) (hi:i∉is)
  (h2:PS X ag (aGV (tI0 c E M) g (xO (tBM X.K "list" uZ (tOp (rIx X.K) (hX i) (tV (bD c) c E fk)) (dN (tV (cK c) c E fe) f7)))))
  (P:lQ X c E rest fr):lQ X c E (Z::ag::rest) (aX (aD0 i aa M fs fk fe) fr):=PSs.imp (L2.aG h1 (L2.aG h2 P)) fun D σ H ⟨ρ,F,ab,k⟩=>by
 have k1:=Rk.bind (Rk.bind k)
 refine ⟨ρ,F,ab,k1.imp fun xs _ q J B F1 H1 s1 sb yl=>?_⟩
 by_cases hn:i < ρ.length/\jD (ρ.set i none)=true
 .rw[AE hn] at q
  obtain ⟨ap,aw⟩:=hn
  refine aBM (n:=xs.length) (fun m t H'=>∃ F' qs,Ext F1 H1 F' H'/\t=qs.map V.ref/\qs.length=m/\qs.Nodup/\∀ r∈qs,H1 r=none/\H' r=some (.lst [])/\F' r=none) yl.len ⟨F1,[],Ext.refl s1.fh,rfl,rfl,C3,fun r P=>by simp at P⟩ ?_ ?_ ?_ ?_ ?_
  .rintro m t H' _ ⟨F',qs,_,rfl,h,_⟩;rw[AD,h];exact AM _
  .rintro m t H' d ⟨F',qs,e1,_⟩
   exact yl.go m F' H' e1.ff e1.fh (fun a o z=>e1.hh a o (sb a o z)) d
  .rintro t H' ⟨F',qs,e1,_⟩
   exact yl.stop F' H' e1.ff e1.fh (fun a o z=>e1.hh a o (sb a o z))
  .rintro m v t Ha Hb d ⟨F',qs,e1,rfl,hlen,nd,hq⟩ hy
   obtain ⟨I,e2,rx⟩:=yl.yld m F' Ha v Hb xs[m] e1.ff e1.fh (fun a o z=>e1.hh a o (sb a o z)) hy (AH d)
   intro cl C s H0 fp
   obtain ⟨au,aj⟩:=hb cl C s H0 fp
   refine ⟨_,_,_,au,L2.jQ,aj,fun σ0 k0=>⟨zC (is:=[0]) k0 B0 (fun j hj=>BD (fun z=>hj (by simp[z]))) (fun j hj=>by rw[A1.mp hj];assumption),?_⟩⟩
   dsimp only[aMR]
   rw[AE rfl]
   refine ⟨CM _,fun r P=>?_⟩
   have e3:Ext I Hb I (upd Hb r (.lst [])):=Ext.own e2.fh P
   refine ⟨I,qs++[r],e1.trans (e2.trans e3),by rw[CB];rfl,by rw[AU,hlen];rfl,?_,fun x W=>?_⟩
   .rw[C8]
    refine ⟨nd,by simp,fun a ha b hb z=>?_⟩
    rw[A1] at hb
    subst hb z
    have:=e2.hh _ _ (hq a ha).2.1
    rw[P] at this
    cases this
   .rcases B3.mp W with z|z
    .obtain ⟨Y,y2,y3⟩:=hq x z
     have ai:=e2.trans e3
     exact ⟨Y,ai.hh _ _ y2,ai.stay y3 y2 (fun _ z=>nomatch z)⟩
    .rw[A1.mp z]
     exact ⟨bK (e1.trans e2).hh P,aQ,bK e2.fh P⟩
  .rintro t H2 ⟨I,qs,e1,rfl,hlen,nd,hq⟩ p hp
   have e2:Ext I H2 I (upd H2 p (.lst (qs.map V.ref))):=Ext.own e1.fh hp
   have ao:p∉qs:=fun z=>by have:=(hq p z).2.1;rw[hp] at this;cases this
   have al:i < σ.length:=by rw[<-ab.len];exact ap
   have ae:Ab c (ρ.set i none) (σ.set i (some (.ref p))) I (upd H2 p (.lst (qs.map V.ref))):=((ab.ext s1).ext (e1.trans e2)).drop9 i (.ref p)
   have O2:OwnL c I (upd H2 p (.lst (qs.map V.ref))) (σ.set i (some (.ref p))) i p qs (List.replicate xs.length []):=by
    refine ⟨BW al,aQ,bK e1.fh hp,bK (ab.ext s1).h0 (bK e1.hh hp),ao,nd,by rw[BL,hlen],fun j r vs h1 h2=>?_⟩
    obtain ⟨Y,y2,y3⟩:=hq r (A6 h1)
    rw[CU] at h2
    split at h2
    .cases h2
     exact ⟨e2.hh _ _ y2,y3,bK (ab.ext s1).h0 Y⟩
    .cases h2
   have sF:aJ F I:=fun a o z=>e1.ff a o (s1.ff a o z)
   show tI0 c E M (σ.set i (some (.ref p))) (upd H2 p (.lst (qs.map V.ref))) _
   generalize ρ.set i none=U at *
   generalize σ.set i (some (.ref p))=σ1 at *
   generalize upd H2 p (.lst (qs.map V.ref))=H3 at *
   refine ⟨U,I,ae,?_⟩
   refine (show Rk c E I H3 (M U) _ from Rk.bind q).imp fun ys _ q J F4 H4 s4 S=>?_
   refine ⟨fun m n O H'=>n=ys.length - m/\m<=ys.length/\∃ ρ' F' vss xss,aJ F4 F'/\Ab c ρ' O F' H'/\OwnL c F' H' O i p qs vss/\xss.length=qs.length/\jD ρ'=true/\(∀ (j:Nat) vs xs,vss[j]? = some vs->xss[j]? = some xs->DatVs c.K F' vs xs)/\Rk c E F' H' ((nE fs fk fe (ys.drop m) xss ρ').bind (aJH i)) (aJI c E F H D fr),⟨ys.length,by simp,CM _,U,F4,List.replicate xs.length [],List.replicate xs.length [],cB _,ae.ext s4,O2.ext s4,by rw[BL,hlen],aw,fun j vs xs h1 h2=>?_,q⟩,?_⟩
   .rw[CU] at h1 h2
    split at h1
    .rename_i hl
     rw[AE hl] at h2
     cases h1;cases h2;exact .nil
    .cases h1
   .rintro m n O H' ⟨rfl,hm,ρ',F',vss,xss,s5,ab5,O5,hxs,hno5,hd5,k5⟩
    by_cases d:m < ys.length
    .refine .inr ⟨S.go m F' H' s5 ab5.fh jU d,fun A L=>∃ ρ' F' vss xss,aJ F4 F'/\Ab c ρ' A F' L/\OwnL c F' L A i p qs vss/\xss.length=qs.length/\jD ρ'=true/\(∀ (j:Nat) vs xs,vss[j]? = some vs->xss[j]? = some xs->DatVs c.K F' vs xs)/\Rk c E F' L ((nE fs fk fe (ys.drop (m+1)) xss ρ').bind (aJH i)) (aJI c E F H D fr),fun A L w=>⟨ys.length - (m+1),by omega,rfl,d,w⟩,fun v H6 y=>?_⟩
     obtain ⟨F6,e6,rv⟩:=S.yld m F' H' v H6 ys[m] s5 ab5.fh jU y (AH d)
     have ak:ys.drop m=ys[m]::ys.drop (m+1):=CP d
     rw[ak] at k5
     unfold nE at k5
     cases hf:fs ys[m] ρ' with
     | none=>rw[hf] at k5;exact k5.elim
     | some ρ7=>
      rw[hf,iF,R.bind_ok] at k5
      refine hg v ys[m] ρ' ρ7 O F6 H6 _ (ab5.ext e6) rv hf fun σ7 ax am Q=>?_
      have O7:OwnL c F6 H6 σ7 i p qs vss:=by
       have z:=O5.ext e6
       exact ⟨by rw[am i hi];exact z.s,z.hp,z.fp,z.p0,z.np,z.nd,z.len,z.q⟩
      by_cases f:jD ρ7=true
      .rw[AE f] at k5
       refine ⟨.ref p,O7.s,ρ7,F6,Q,?_⟩
       refine (show Rk c E F6 H6 (fk ρ7) _ from Rk.bind (Rk.bind k5)).imp fun kd _ k5 u F8 H8 e8 r8=>?_
       cases kd with
       | int kk=>
        dsimp only at k5
        obtain rfl:=aW.int_of r8
        have O8:=O7.ext e8
        cases W:ixN xss.length kk with
        | none=>rw[W] at k5;exact k5.elim
        | some j=>
         rw[W] at k5
         have ac:j < xss.length:=(uX W).2.1
         have af:j < qs.length:=by omega
         have av:j < vss.length:=by rw[O8.len];exact af
         have eq:qs[j]? = some qs[j]:=AH af
         have ev:vss[j]? = some vss[j]:=AH av
         have ex:xss[j]? = some xss[j]:=AH ac
         obtain ⟨Y,y2,y3⟩:=O8.q j _ _ eq ev
         refine .inl ⟨p,qs.map V.ref,kk,V.ref qs[j],rfl,rfl,SqL.of O8.hp,?_,?_⟩
         .unfold atI
          rw[AD,<-hxs,W]
          show (qs.map V.ref)[j]? = _
          rw[A0,eq];rfl
         .refine ⟨.inl ⟨rfl,_,SqL.of Y⟩,ρ7,F8,Q.ext e8,?_⟩
          refine (show Rk c E F8 H8 (fe ρ7) _ from Rk.bind k5).imp fun x _ k5 u F9 H9 e9 r9=>?_
          have O9:=O8.ext e9
          have T:=(Q.ext e8).ext e9
          obtain ⟨z1,z2,z3⟩:=O9.q j _ _ eq ev
          have aq:xss.getD j []=xss[j]:=by rw[A9,ex];rfl
          rw[aq] at k5
          by_cases hz:xss[j].length < 16777216
          .rw[AE hz] at k5
           have G:Ext F' H' F9 H9:=e6.trans (e8.trans e9)
           have dj:DatVs c.K F9 vss[j] xss[j]:=(hd5 j _ _ ev ex).same G.ff
           refine ⟨qs[j],vss[j],u,rfl,rfl,z1,by rw[dj.length,dB];exact hz,?_⟩
           refine ⟨ρ7,F9,vss.set j (vss[j]++[u]),xss.set j (xss[j]++[x]),fun a o z=>G.ff a o (s5 a o z),T.off9 z2 z3 (pA f),O9.put eq ev,by rw[B0];exact hxs,f,fun l vs xs e1 e2=>?_,?_⟩
           .rcases get_set e1 with ⟨e,w,_⟩|⟨ne,w⟩
            .subst e w
             rw[BW ac] at e2
             cases e2
             exact dj.append (.cons r9 .nil)
            .rw[BD ne] at e2
             exact (hd5 l vs xs w e2).same G.ff
           .exact aO8 k5
          .rw[AI hz] at k5;exact k5.elim
       | _=>exact k5.elim
      .rw[AI f] at k5;exact k5.elim
    .have e:m=ys.length:=by omega
     subst e
     rw[GS] at k5
     refine .inl ⟨S.stop F' H' s5 ab5.fh jU,?_⟩
     obtain ⟨F9,s9,T⟩:=O5.done ab5 hno5 hxs hd5
     refine ⟨_,F9,T,?_⟩
     exact Rk.fw (H:=H) (fun a o z=>s9 a o (s5 a o (s4.ff a o (sF a o z)))) k5
 .rw[AI hn] at q;exact q.elim
end
end Fl
namespace L2
open PySem PySem.Spec PyProof.Rows
end L2
namespace Fl
open PySem L2 PyProof.Rows
def aQC(g g' g'':Dz->Dz->R Dz)(fa fb fc fd:Sg->R Dz):Sg->R Dz:=fun ρ=>(fa ρ).bind fun x=>(fb ρ).bind fun y=>(g x y).bind fun z=>(asB z).bind fun k=>if k=true then (eCh g' g'' (fun _=>.ok y) fc fd ρ) else .ok (.bool false)
end Fl
namespace Zp
open PySem L2
def eM{κ:Type}[DecidableEq κ]:List κ->List κ->List κ
 | acc,[]=>acc
 | acc,k::ks=>eM (if k∈acc then acc else acc++[k]) ks
theorem aAK{κ:Type}[DecidableEq κ]:∀ (ks:List κ) (acc:List κ) (k:κ),eM acc (ks++[k])=if k∈eM acc ks then eM acc ks else eM acc ks++[k]
 | [],_,_=>rfl
 | x::ks,acc,k=>aAK ks _ k
theorem sV{κ:Type}[DecidableEq κ]:∀ (ks:List κ) (acc:List κ) (k:κ),k∈eM acc ks↔k∈acc\/k∈ks
 | [],acc,k=>by simp[eM]
 | x::ks,acc,k=>by
  rw[eM,sV ks]
  by_cases h:x∈acc
  .rw[AE h]
   constructor
   .rintro (a|a)
    .exact .inl a
    .exact .inr (.tail _ a)
   .rintro (a|a)
    .exact .inl a
    .cases a with
     | head=>exact .inl h
     | tail _ a=>exact .inr a
  .rw[AI h]
   simp only[B3,AG,AY,BR,or_assoc]
theorem sW{κ:Type}[DecidableEq κ]:∀ (ks:List κ) (acc:List κ),(eM acc ks).length<=acc.length+ks.length
 | [],acc=>by simp[eM]
 | x::ks,acc=>by
  rw[eM]
  have:=sW ks (if x∈acc then acc else acc++[x])
  by_cases h:x∈acc
  · rw [AE h] at this ⊢; simp only [AL]; omega
  · rw [AI h] at this ⊢; simp only [AL, AU, AZ] at this ⊢; omega
theorem aD1{k:Key}{v:V9}(h:i7 k v=true):v.scannable=true:=by
 rcases keyIs_shape h with ⟨i,t,rfl,rfl⟩|⟨x,t,rfl,rfl⟩<;>rfl
theorem aBD{prog:P9}{w:W9}{h:Hz}{a:Az}{S b:Key->Bool}{n c:Nat}(x:Heap.SetOf (cA prog w) h a S n)(e:∀ k,S k=b k)(d:n=c):Heap.SetOf (cA prog w) h a b c:=by
 have:S=b:=funext e
 subst this;subst d;exact x
def nO{κ:Type}[DecidableEq κ](ks:List κ)(k:κ):Bool:=ks.any fun x=>decide (x=k)
theorem aAL{κ:Type}[DecidableEq κ](ks:List κ)(k:κ):nO ks k=true↔k∈ks:=by
 unfold nO
 rw[List.any_eq_true]
 constructor
 .rintro ⟨x,h,e⟩
  rw[<-of_decide_eq_true e];exact h
 .intro h
  exact ⟨k,h,BM rfl⟩
theorem aIF{κ:Type}[DecidableEq κ](ks:List κ)(x k:κ):nO (ks++[x]) k=(nO ks k || decide (k=x)):=by
 unfold nO
 rw[List.any_append]
 simp only[FX,List.any_nil,Bool.or_false]
 congr 1
 exact DO.mpr eq_comm
theorem aAM{prog:P9}{w:W9}{A:U9}{E:V9->S9->Prop}{s:S9}{l:V9}{Q:V9->S9->Prop}
  (h:∀ led,wpAny (model prog w) A.in1.in1 (Builtin.«set.__init__» {pos:=[.ref s.heap.objs.size,l]}) (fun j s'=>match j with
   | .done f=>wants (fun r a=>r=Value.none/\Q (.ref s.heap.objs.size) a) E (Except.ok f) s'
   | .again c'=>c'.quiet=true/\codeAny (model prog w) A.in1 c' (wants (fun r a=>r=Value.none/\Q (.ref s.heap.objs.size) a) E) s') (fun e s'=>E e s')
   {s with heap:=s.heap.push {cls:=.type "set",data:=.set #[] 0 (SetTable.fresh 0 0 led)}}) :
  wpAny (model prog w) A (call (.type "set") [l]) Q E s:=by
 obtain ⟨c,tl,g⟩:=DP.mro
 refine DW (codeAny_of_tree (AC ⟨FP {pos:=Value.type "set"::[l]} (by kernel_rfl),GW F.entry_type_call ?_⟩))
 rw[Around.under_plain (weight_type_call_type "set" [l] []) rfl]
 unfold Builtin.«type.__call__»
 refine FD DP.notType (FD DP.canCreate ?_)
 refine AA (FM (F.typeCall_set_1 l) (AA (FM g (FD rfl (AA (FM DP.made (AA (AC (AA (B9 ?_))))))))))
 refine DW (DM (code_set_new_1 (E:=E) (Q₁:=fun obj b=>obj=.ref s.heap.objs.size/\∃ led,b={s with heap:=s.heap.push {cls:=.type "set",data:=.set #[] 0 (SetTable.fresh 0 0 led)}}) l fun led=>⟨rfl,led,rfl⟩) fun r b d=>?_)
 cases r with
 | error e=>exact d
 | ok f=>
  cases f with
  | ret v=>
   obtain ⟨rfl,led,rfl⟩:=d
   have k:(s.heap.push {cls:=.type "set",data:=.set #[] 0 (SetTable.fresh 0 0 led)}).get? s.heap.objs.size=some {cls:=.type "set",data:=.set #[] 0 (SetTable.fresh 0 0 led)}:=AV _ rfl
   have i:({s with heap:=s.heap.push {cls:=.type "set",data:=.set #[] 0 (SetTable.fresh 0 0 led)}}:S9).TypeIs (.ref s.heap.objs.size) "set":=⟨_,k,rfl⟩
   refine AA (EF i DP.sub (FD rfl (AA (B9 ?_))))
   refine AA (wpAny_specialOf i DP.init.lookup (B9 (AA (FM (DP.init.bind _) (AA (DW (DM (E9 (R:=wants (fun r a=>r=Value.none/\Q (.ref s.heap.objs.size) a) E) DP.init.plain F.entry_set_init (check_set_init_1 i (h led))) fun r a d=>?_)))))))
   cases r with
   | error e=>exact d
   | ok f=>
    cases f with
    | ret v=>
     obtain ⟨rfl,m⟩:=d
     exact AC (AC m)
    | _=>exact d.elim
  | _=>exact d.elim
end Zp
namespace Fl
open PySem L2 PyProof.Rows
end Fl
namespace Zp
open PySem
structure Jk(s0:Heap)(d it S:Az)(ar:Array DictEntry)(ep:Nat)(acc:Array V9)(h:Heap):Prop where
 size:acc.size<=ar.size
 told:acc.toList=(ar.toList.take acc.size).map (·.key)
 iter:h.IsKeyIter it d acc.size ar.size ep
 raw:Raw h d ar ep
 keep:∀ c o,c≠it->c≠S->s0.get? c=some o->h.get? c=some o
end Zp
namespace Fl
open PySem L2 PyProof.Rows
def aGT:Sg->R Unit:=fun _=>.ok ()
def aQD:Dz->Dz->R Dz
 | .bool a,.bool b=>.ok (.bool (a == b))
 | _,_=>.bad
end Fl
namespace L2
open PySem PySem.Spec PyProof.Rows
theorem aLF{prog:P9}{w:W9}{A:U9}{E:V9->S9->Prop}{s:S9}{l:Az}{items:Array V9}{k:Nat}{x:Int}{u:Tok}{Q:V9->S9->Prop}
  (a:s.heap.get? l=some {cls:=.type "list",dict:=none,data:=.seq items k,slots:=#[]})
  (hlo : -(2 ^ 63:Int)<=x) (hhi:x < 2 ^ 63) (hsz:items.size * x.toNat<=2 ^ 24)
  (h:Q (.ref s.heap.objs.size) {s with heap:=s.heap.push {cls:=.type "list",data:=.seq (List.foldl (fun b c=>b++c) #[] (List.replicate (if items.isEmpty=true then 0 else x.toNat) items))}}) :
  wpAny (model prog w) A (binaryOp .Mult (.ref l) (.int x u)) Q E s:=
 wpAny_binaryOp_repeat_ref (T:="list") (U:="int") (by decide) ⟨_,a,rfl⟩ (fun s'=>typeIs_int s' x u) noFill_list_mul F.fills_int_mul F.slot_int_rmul repeat_list F.slot_int_index.lookup
  (GG F.slot_int_rmul (typeIs_int s x u) F.entry_int_rmul (F.args_int_rmul_2 _ _) (int___rmul___int_list x u l items k)
   ⟨a,rfl,⟨_,a,rfl⟩,GG F.slot_list_mul ⟨_,a,rfl⟩ F.entry_list_mul (F.args_list_mul_2 _ _)
    (AutoListH.list___mul___list_int_3 l items k x u (by simp[Builtin.List.listFitsIndex];omega) (by omega) (by simp[Builtin.List.listTooLong,sizeLine];omega))
    ⟨a,h⟩⟩)
def aO9:R2:=fun x y H Q=>∃ p vs i,x=.ref p/\y=.int i/\H p=some (.lst vs)/\vs≠[] /\ -(2 ^ 63:Int)<=i/\i < 2 ^ 63/\vs.length * i.toNat<=16777216/\∀ r,H r=none->Q (.ref r) (upd H r (.lst (List.replicate i.toNat vs).flatten))
theorem aLG{X:Cx}:OpR X (binaryOp .Mult) aO9:=by
 intro pins s σ H v u x y Q I l k h
 obtain ⟨p,vs,i,rfl,rfl,j,d,h1,h2,e,q⟩:=h
 cases l
 obtain ⟨t,rfl⟩:=k
 obtain ⟨z,a,n,r,g⟩:=(show b9 X.prog X.w H s.heap p (.lst vs) from I.hok p _ j)
 have b:a.length=vs.length:=r.length.symm
 refine aLF (items:=a.toArray) g h1 h2 (by rw[A2,b];exact e) ?_
 have c:a.toArray.isEmpty=false:=by
  cases a with
  | nil=>cases vs with
   | nil=>exact absurd rfl d
   | cons _ _=>cases b
  | cons _ _=>rfl
 have f:=aB1 a i.toNat []
 rw[BC] at f
 rw[c,AI (by decide),show (#[]:Array V9)=([]:List V9).toArray from rfl,f]
 exact ⟨.ref _,_,I.lnew (t':=s.toks) (Fl.zN r _) (by rw[aJ2];have:sizeLine=16777216:=rfl;rw[FA] at e;omega),rfl,q _ I.fresh⟩
end L2
namespace Fl
open PySem L2 PyProof.Rows
def t9(xs:List Dz):Dz->R (List Dz)
 | .int i=>if xs≠[] /\ -(2 ^ 63:Int)<=i/\i < 2 ^ 63/\xs.length * i.toNat<=16777216 then .ok (List.replicate i.toNat xs).flatten else .bad
 | _=>.bad
def aD2(f:Sg->R (List Dz))(g:Sg->R Dz):Sg->R (List Dz):=fun ρ=>(f ρ).bind fun xs=>(g ρ).bind fun y=>t9 xs y
section
variable{X:Cx}{c:Ct}{E:XK}{a b:Ez}{pos:Pos}
theorem aLH{h:Sg->R (List Dz)}{fb:Sg->R Dz}(ha:PN X c E a h)(o:PR X c E b fb):PN X c E (.BinOp a .Mult b pos) (aD2 h fb):=PE.imp (aIX aLG ha o) fun σ H Q ⟨ρ,F,ab,k⟩=>by
 refine ⟨ρ,F,ab,(Rk.bind k).imp fun xs _ q v m H1 s1 j=>?_⟩
 obtain ⟨p,vs,rfl,e1,e2,s,g⟩:=j
 refine ⟨ρ,m,ab.ext s1,((Rk.bind q).ext s1).imp fun y _ q u l H2 d n=>?_⟩
 cases y with
 | int i=>
  unfold t9 at q
  dsimp only at q
  split at q
  .rename_i e
   obtain rfl:=aW.int_of n
   refine ⟨p,vs,i,rfl,rfl,d.hh _ _ e2,fun z=>e.1 ?_,e.2.1,e.2.2.1,by rw[g.length];exact e.2.2.2,fun r f=>?_⟩
   .have:=g.length
    rw[z] at this
    exact GU.mp this.symm
   .exact Rk.ok q (.ref r) l _ ((s1.trans d).trans (Ext.own d.fh f)) ⟨r,_,rfl,bK (s1.trans d).hh f,aQ,bK d.fh f,wU (g.same d.ff) _⟩
  .exact q.elim
 | _=>exact q.elim
end
def pB:Dz->Dz->R Dz
 | .tuple xs,.tuple ys=>if xs.length+ys.length<=sizeLine then .ok (.tuple (xs++ys)) else .bad
 | _,_=>.bad
theorem aD3:dC pB:=by
 intro a b e h
 unfold pB at h
 split at h<;>(try split at h)<;>cases h
theorem aIG{X:Cx}{c:Ct}(R:X.K=c.K):OpR X (binaryOp .Add) (r2D (bD c) (bD c) (cK c) pB):=by
 intro pins s σ H v u x y Q I E J h
 obtain ⟨H0,H1,F,a,b,d,e,U,T,f,q⟩:=h
 unfold pB at f
 split at f
 .rename_i xs ys
  split at f
  .rename_i S
   cases f
   obtain ⟨G,vs,rfl,Y,r,l⟩:=aW.tup_of e U
   obtain ⟨w,us,rfl,fb,o,k⟩:=aW.tup_of e T
   rw[<-R] at r o
   by_cases L:vs=[]
   .subst L
    obtain rfl:xs=[]:=by cases l;rfl
    cases E
    cases J
    obtain ⟨P,Z,p1,_⟩:=I.tuple r
    obtain ⟨M,r2,p2,_⟩:=I.tuple o
    cases Z
    obtain ⟨⟨cls,dd,data,V⟩,D,N,n,C⟩:=id p1
    obtain ⟨⟨B,m,t,A⟩,j,g,W,i⟩:=id p2
    simp only at N C g i
    subst N C g i
    exact concat_meets ⟨_,D,rfl⟩ ⟨_,j,rfl⟩ GO G9 EW ES (EL _ _)
     (tuple_addW0 G w _ _ n W dd m V A rfl) ⟨D,j,.ref w,H,I,rfl,q _ F H (Ext.refl e) (.tup fb k)⟩
   .refine aBJ pins s σ H _ _ x y Q I E J ⟨G,w,vs,us,rfl,rfl,r,o,L,by rw[l.length,k.length];exact S,fun z=>?_,fun z p O=>?_⟩
    .subst z
     obtain rfl:ys=[]:=by cases k;rfl
     exact q _ F H (Ext.refl e) (by rw[CH];exact .tup Y l)
    .exact q _ _ _ (Ext.new e O) (.tup (SqT.of aQ) ((l.append k).same (aJ.upd (bK e O))))
  .cases f
 .cases f
def aNY:Dz->Dz->R Dz
 | .bool a,.bool b=>.ok (.bool (a != b))
 | _,_=>.bad
end Fl
namespace Mc
open PySem L2 PyProof.Rows Fl
noncomputable def qQ:Sg->R Fw:=(bO (vD (eC (.str "by"))))
noncomputable def eG:List A->R A:=fnF 1 qQ
noncomputable def pG:Sg->R Fw:=(bO (vD (eC (.bool true))))
noncomputable def gX:List A->R A:=fnF 1 pG
noncomputable def oI:Sg->R Fw:=(bO (vD (eC (.str "out"))))
noncomputable def dL:List A->R A:=fnF 1 oI
noncomputable def nF:Sg->R Fw:=(bO (vD (eC (.bool true))))
noncomputable def fR:List A->R A:=fnF 1 nF
noncomputable def oJ:Sg->R Fw:=(bO (vD (eC (.str "ever"))))
noncomputable def dM:List A->R A:=fnF 1 oJ
noncomputable def nG:Sg->R Fw:=(bO (vD (eC (.bool false))))
noncomputable def fS:List A->R A:=fnF 1 nG
noncomputable def mU:Sg->R Fw:=(aX (aD0 2 (iV (e2 cG (e1 dLen (rV 1)) (eC (.int 1)))) (e2 zS (eV 0) (eSl dSl (rV 0) (oSo (eC (.int 1))) oNo)) (stT [(stN 3),(stN 4)]) (e2 (d2 fH) (e2 dIx (rV 3) (eC (.int 0))) (e2 dIx (rV 4) (eC (.int 0)))) (e2 dIx (rV 4) (eC (.int 1))))
 (bO (vD (e1 dTup (eL (j5 [none] (e1 cC (rV 2)) (stN 0) lR (e1 dTup (rV 0))))))))
noncomputable def gI:List A->R A:=fnF 5 mU
noncomputable def aAN:Sg->R Fw:=(aX (cH 2 (bG 2 qE (aC (vV 0) (aC (vV 1) aU))))
 (aX (cH 3 (vD (e2 dIx (rV 2) (e1 dNeg (eC (.int 1))))))
 (aX (cH 4 (vD (e2 dIx (eA (bG 3 iI (aC (vV 0) (aC (vV 1) (aC (vV 3) aU))))) (eC (.int 0)))))
 (aX (sIf (e1 asB (e2 dEq (rV 4) (eC (.str "by")))) (bO (vU "LetBy" ["place","room","borders"] (aC (e2 dIx (rV 3) (eC (.int 0))) (aC (e2 dIx (rV 3) (eC (.int 1))) (aC (eA (bG 2 gI (aC (vV 2) (aC (vV 1) aU)))) aU))))) sNx)
 (aX (sIf (e1 asB (e2 dEq (rV 4) (eC (.str "out")))) (bO (vU "ShutOut" ["place","room","borders"] (aC (e2 dIx (rV 3) (eC (.int 0))) (aC (e2 dIx (rV 3) (eC (.int 1))) (aC (eA (bG 2 gI (aC (vV 2) (aC (vV 1) aU)))) aU))))) sNx)
 (bO (vU "ForEver" ["place","room","first","again"] (aC (e2 dIx (rV 3) (eC (.int 0))) (aC (e2 dIx (rV 3) (eC (.int 1))) (aC (aAI (rV 2) (rV 3)) (aC (e2 dSub (e1 dLen (rV 2)) (eC (.int 1))) aU)))))))))))
noncomputable def j9:List A->R A:=fnF 5 aAN
noncomputable def kZ:Sg->R Fw:=(aX (jC 2 (aD2 (gC (aC (eY aU) aU)) (rV 1)))
 (aX (nR (vL (eC (.int 1)) (e1 dLen (rV 0))) (stN 3) (aX (cH 4 (vD (e2 (d2 fH) (e2 dIx (e2 dIx (rV 0) (e2 dSub (rV 3) (eC (.int 1)))) (eC (.int 0))) (e2 dIx (e2 dIx (rV 0) (rV 3)) (eC (.int 0))))))
 (aDM 2 (rV 4) (e2 pB (e2 dIx (rV 2) (rV 4)) (eY (aC (e2 dIx (e2 dIx (rV 0) (rV 3)) (eC (.int 1))) aU))))))
 (bO (vD (e1 dTup (rV 2))))))
noncomputable def eU:List A->R A:=fnF 5 kZ
end Mc
namespace HT
open PySem PySem.Spec PyProof.Rows
def alt{α:Type}:List α->List α
 | []=>[]
 | [x]=>[x]
 | x::_::t=>x::alt t
theorem oK{α:Type}:∀ l:List α,(alt l).length<=l.length
 | []=>AM _
 | [_]=>AM _
 | x::y::t=>by
  have:=oK t
  show (alt t).length+1<=t.length+1+1
  omega
theorem aAO{α:Type}:∀ l:List α,(List.range ((l.length+1) / 2)).filterMap (fun m=>l[2 * m]?)=alt l
 | []=>by simp[alt]
 | [x]=>by simp[alt,List.range_succ]
 | x::y::t=>by
  have ih:=aAO t
  rw[show (x::y::t).length=t.length+2 from rfl,show (t.length+2+1) / 2=(t.length+1) / 2+1 by omega,GY,DR]
  show x::_=_
  unfold alt
  rw[<-ih,List.filterMap_map]
  rfl
section
variable{prog:P9}{w:W9}{A:U9}{E:V9->S9->Prop}{s:S9}
theorem aIH(xs:Array V9)(i:Nat):((List.range ((xs.size - i+1) / 2)).filterMap fun (m:Nat)=>xs[((i:Int)+(m:Int) * 2).toNat]?).toArray=(alt (xs.toList.drop i)).toArray:=by
 congr 1
 rw[<-aAO,CT,B5]
 refine D3 (fun f=>List.filterMap f _) (funext fun m=>?_)
 rw[show ((i:Int)+(m:Int) * 2).toNat=i+2 * m by omega,List.getElem?_drop,D6]
theorem aD4(lo:O6 Int)(n:Nat):Builtin.Slice.sliceAdjust lo none 2 (n:Int)=(((sIx n 0 lo:Nat):Int),(n:Int)):=by
 have h1:¬ ((2:Int) < 0):=by omega
 unfold Builtin.Slice.sliceAdjust
 simp only[h1,CD]
 refine Prod.ext ?_ rfl
 cases lo with
 | none=>rfl
 | some v=>exact uW v n 0
theorem aD5(i j:Nat)(h:i<=j):Builtin.Slice.slicePlaces (i:Int) (j:Int) 2=(j - i+1) / 2:=by
 unfold Builtin.Slice.slicePlaces
 have h1:(2:Int) > 0:=by omega
 simp only[h1,BP]
 split<;>omega
theorem sX{d:Az}{c:V9}{u:Tok}{lo:O6 Int}{n:Nat}{Q:Int×Int×Nat->S9->Prop}(e:s.heap.IsSliceOf d c .none (.int 2 u))(pl:IsPart c lo)
  (h:Q (((sIx n 0 lo:Nat):Int),2,(n - sIx n 0 lo+1) / 2) s):wpAny (model prog w) A (Builtin.Slice.sliceApplied (.ref d) (pure (n:Int))) Q E s:=by
 obtain ⟨os,a,f,b⟩:=id e
 unfold Builtin.Slice.sliceApplied Builtin.Slice.sliceFields
 refine AA (AA (BN a b (x:=c) rfl (AA (BN a b (x:=.none) rfl (AA (BN a b (x:=.int 2 u) rfl (AC ?_)))))))
 refine AA (slicePart_int ?_)
 show wpAny _ _ (if ((2:Int) == 0)=true then _ else _) _ _ s
 rw[AI (by decide)]
 refine AA (oO pl (AA (slicePart_none (AA (AC ?_)))))
 show wpAny _ _ (match Builtin.Slice.sliceAdjust lo none 2 (n:Int) with|(lo,hi)=>pure (lo,(2:Int),Builtin.Slice.slicePlaces lo hi 2)) _ _ s
 rw[aD4 lo n]
 show wpAny _ _ (pure (((sIx n 0 lo:Nat):Int),(2:Int),Builtin.Slice.slicePlaces ((sIx n 0 lo:Nat):Int) (n:Int) 2)) _ _ s
 rw[aD5 _ _ (aER _ _ (CM _) lo)]
 exact AC h
theorem rR{t c:Az}{items:Array V9}{g:V9}{u:Tok}{lo:O6 Int}{Q:V9->S9->Prop}(ht:IsTup s.heap t items)(i:s.heap.IsSliceOf c g .none (.int 2 u))(pl:IsPart g lo)
  (h:Q (.ref s.heap.objs.size) {s with heap:=s.heap.push {cls:=.type "tuple",data:=.seq (alt (items.toList.drop (sIx items.size 0 lo))).toArray}})
  (hsz:items.size<=sizeLine):wpAny (model prog w) A (getItem (.ref t) (.ref c)) Q E s:=by
 have a:sizeOk (.seq (alt (items.toList.drop (sIx items.size 0 lo))).toArray):=by
  show (alt (items.toList.drop (sIx items.size 0 lo))).toArray.size<=sizeLine
  have:=oK (items.toList.drop (sIx items.size 0 lo))
  have h2:items.toList.length=items.size:=B5 ..
  rw[CT,h2] at this
  rw[A2]
  omega
 obtain ⟨os,b,f,j⟩:=id i
 have d:s.TypeIs (.ref c) "slice":=⟨os,b,f⟩
 unfold getItem
 try with_reducible refine B9 ?_
 first|refine AA (AC ?_)|skip
 refine AA (wpAny_sequenceKey ht.typeIs (by decide) ?_)
 refine AA (CV (name:=Str.ofString "__getitem__") ht.typeIs B7
  (DN B7 ht.typeIs entry_tuple_getitem ?_ (args_tuple_getitem _ _)))
 show wpAny _ _ (Builtin.Tuple.tupleItemsOf (.ref t) >>= _) _ _ s
 refine AA (tupleItemsOf_ ht ?_)
 refine AA (GP d ?_)
 rw[AE (by decide)]
 refine AA (sX i pl ?_)
 have e:¬ ((((sIx items.size 0 lo:Nat):Int) == 0 && (2:Int) == 1 && ((items.size - sIx items.size 0 lo+1) / 2) == items.size)=true):=by
  rw[show ((2:Int) == 1)=false from rfl,Bool.and_false,Bool.false_and];decide
 show wpAny _ _ (if (((sIx items.size 0 lo:Nat):Int) == 0 && (2:Int) == 1 && ((items.size - sIx items.size 0 lo+1) / 2) == items.size)=true then _ else _) _ _ s
 rw[AI e,aIH]
 first
  | exact AA (m:=Builtin.Tuple.tupleExact _) (B2 (AC ⟨_,rfl,AC h⟩) a)
  | exact AA (m:=Builtin.Tuple.tupleExact _) (B2 (AA (AC (AC ⟨_,rfl,AC h⟩))) a)
  | exact AA (AA (m:=Builtin.Tuple.tupleExact _) (B2 (AC (AC ⟨_,rfl,AC h⟩)) a))
  | exact AA (AA (m:=Builtin.Tuple.tupleExact _) (B2 (AC ⟨_,rfl,AC h⟩) a))
end
end HT
namespace L2
open PySem PySem.Spec PyProof.Rows
section
variable{X:Cx}{e:Ez}{te:TE}{lo:O6 Ez}{tl:TO}{pos p2:Pos}
def aNZ(K:Frag)(te:TE)(tl tp:TO):TE:=fun σ H Q=>te σ H fun x H1=>tl σ H1 fun l H2=>tp σ H2 fun o H3=>o=some 2/\∃ a xs,x=.ref a/\SqT K H3 a xs/\∀ p,H3 p=none->Q (.ref p) (upd H3 p (.tup (HT.alt (xs.drop (HT.sIx xs.length 0 l)))))
theorem aAP:∀ {xs:List V} {us:List V9},aZ xs us->aZ (HT.alt xs) (HT.alt us)
 | _,_,.nil=>.nil
 | _,_,.cons h .nil=>.cons h .nil
 | _,_,.cons h (.cons _ t)=>.cons h (aAP t)
theorem uA{k:Ez}{m:TO}(w:PE X e te)(C:PO X lo tl)(N:PO X (some k) m):PE X (.Subscript e (.Slice lo none (some k) p2) pos) (aNZ X.K te tl m):=by
 intro pins s σ H Q I h
 refine Subscript_ (thn (w pins s σ H _ I h) fun v s1 c=>?_)
 obtain ⟨x,H1,P,M,y⟩:=c
 refine wpAny_Slice (thn (C pins s1 σ H1 _ P y) fun z L c=>?_)
 obtain ⟨l,H2,D,B,G⟩:=c
 rw[HA]
 refine AC (thn (N pins L σ H2 _ D G) fun vs f c=>?_)
 obtain ⟨o,H3,A,O,E⟩:=c
 obtain ⟨rfl,a,xs,rfl,F,q⟩:=E
 cases M
 obtain ⟨u,rfl⟩:∃ u,vs=.int 2 u:=by cases O with|int i t=>exact ⟨t,rfl⟩
 have j:Inv X pins σ H3 {f with heap:=f.heap.push {cls:=.type "slice",data:=.fields #[z,.none,.int 2 u]}}:=A.kept (t':=f.toks) fun b p q=>AB _ q
 obtain ⟨g,r,n,J⟩:=j.tuple F
 have d:g.toArray.size=xs.length:=by rw[A2];exact r.length.symm
 refine tail_any (ops:=[.ref a,.ref f.heap.objs.size]) n.typeIs B7.lookup ?_ (by with_unfolding_all rfl)
 refine HT.rR n (Heap.IsSliceOf.new ..) B ?_ (by rw[d];exact J)
 rw[d]
 refine ⟨.ref _,_,j.laid (t':=f.toks) (o:=.tup (HT.alt (xs.drop (HT.sIx xs.length 0 l)))) (fun b p q=>AB _ q) (AM _) ?_,rfl,q _ (j.hok.fresh (AM _))⟩
 refine ⟨BE (HT.oK _) (by rw[CT];omega),_,aAP (r.drop (HT.sIx xs.length 0 l)),j0.new _ _⟩
end
end L2
namespace Fl
open PySem L2 PyProof.Rows
def sY(lo:O6 Int):Dz->R Dz
 | .tuple xs=>.ok (.tuple (HT.alt (xs.drop (HT.sIx xs.length 0 lo))))
 | _=>.bad
def vW(f:Sg->R Dz)(fl fp:Sg->R (O6 Int)):Sg->R Dz:=fun ρ=>(f ρ).bind fun x=>(fl ρ).bind fun l=>(fp ρ).bind fun o=>if o=some 2 then sY l x else .bad
theorem aCE{K:Frag}{F:Hp}:∀ {vs:List V} {xs:List Dz},DatVs K F vs xs->DatVs K F (HT.alt vs) (HT.alt xs)
 | _,_,.nil=>.nil
 | _,_,.cons h .nil=>.cons h .nil
 | _,_,.cons h (.cons _ t)=>.cons h (aCE t)
theorem uB{X:Cx}{c:Ct}{E:XK}{e:Ez}{f:Sg->R Dz}{j n:Sg->R (O6 Int)}(s:X.K=c.K)(h:PE X e (aNZ X.K (tV (bD c) c E f) (tPf c E j) (tPf c E n))):PD X c E e (vW f j n):=PE.imp h fun σ H Q i=>by
 obtain ⟨ρ,F,ab,k⟩:=i
 refine ⟨ρ,F,ab,(Rk.bind k).imp fun x _ q v w H1 s1 t=>⟨ρ,w,ab.ext s1,((Rk.bind q).ext s1).imp fun l _ q u H2 d=>⟨ρ,u,(ab.ext s1).ext d,((Rk.bind q).ext d).imp fun o _ q y H3 m=>?_⟩⟩⟩
 by_cases g:o=some 2
 .rw[AE g] at q
  unfold sY at q
  split at q
  .have b:=(s1.trans d).trans m
   obtain ⟨p,vs,rfl,_,h1,h2⟩:=aW.tup_of b.fh (aW.ext m (aW.ext d t))
   rw[<-s] at h1
   refine ⟨g,p,vs,rfl,h1,fun a r=>Rk.ok q _ _ _ (b.trans (Ext.new b.fh r)) ?_⟩
   rw[h2.length]
   exact .tup (SqT.of aQ) ((aCE (h2.drop _)).same (aJ.upd (bK b.fh r)))
  .exact q.elim
 .rw[AI g] at q;exact q.elim
theorem pC{X:Cx}:i9 X (.builtin "isinstance") (fun xs H Q=>∃ x c t cv b,xs=[x,c]/\TyOf X.K H x t/\u9 c=some cv/\PySem.W.kitOne X.K t cv=some b/\Q (.bl b) H):=by
 intro pins s σ H xs us Q I r h
 obtain ⟨x,c,t,cv,b,rfl,d,a,e,q⟩:=h
 obtain ⟨u,v,rfl,f,g⟩:=tH r
 obtain rfl:=q9 a g
 exact wD I f d e fun tk=>⟨.bl b,H,I.tok _,rfl,q⟩
def sZ(i:Nat)(tb:List (Str×Bool)):Sg->R Dz:=fun ρ=>match ρ[i]? with
 | some (some (.o e))=>(match tb.lookup e.c with
  | some b=>.ok (.bool b)
  | none=>.bad)
 | _=>.bad
structure OTy(K:Frag)(C:Az):Prop where
 cl:Cls K C
 ha:PySem.W.findIn K (.ref C) "__class__"=some (some (.builtin "object.__class__"))
 hn:PySem.W.specialIn K (.builtin "object.__class__") "__get__"=some (some (.builtin "getset_descriptor.__get__"))
 ht:PySem.W.takesIn K (.builtin "object.__class__")=some true
 hm:PySem.W.mroIn K C (.type "object")=some true
def kA(K:Frag)(mg:Str->O6 V9)(q nm:Str)(b:Bool):Prop:=∃ D C,mg q=some (.ref D)/\mg nm=some (.ref C)/\OTy K C/\PySem.W.kitOne K (.ref C) (.ref D)=some b
def IsO(K:Frag)(mg:Str->O6 V9)(q:Str)(tb:List (Str×Bool)):Prop:=∀ p∈tb,kA K mg q p.1 p.2
theorem uC{X:Cx}{c:Ct}{E:XK}{e:Ez}{i:Nat}{tb:List (Str×Bool)}{q:Str}{D:Az}(n:X.mg=c.mg)(is:IsO X.K X.mg q tb)(s:X.mg q=some (.ref D))
  (h:PE X e (tCB (fun xs H Q=>∃ x c t cv b,xs=[x,c]/\TyOf X.K H x t/\u9 c=some cv/\PySem.W.kitOne X.K t cv=some b/\Q (.bl b) H) (dN (hX i) (dN (tC (.ref D)) f7)))):PD X c E e (sZ i tb):=PE.imp h fun σ H Q ⟨ρ,F,ab,k⟩=>by
 unfold sZ at k
 split at k
 .rename_i l hi
  split at k
  .rename_i b w
   obtain ⟨y,C,h1,h2,d,p⟩:=is _ (BF w)
   rw[s] at h1;cases h1
   obtain ⟨v,u,r⟩:=ab.slot i _ hi
   obtain ⟨a,rfl,z,dx,m,j,f,_⟩:=(show AF c.g c.K c.mg F (.o l) v from r)
   rw[n,j] at h2;cases h2
   exact ⟨_,u,_,_,_,_,b,rfl,.ins (ab.fh _ _ f) d.cl d.ha d.hn d.ht d.hm,rfl,p,Rk.ok k _ F H (Ext.refl ab.fh) (.bl b)⟩
  .exact k.elim
 .exact k.elim
end Fl
namespace L2
open PySem PySem.Spec PyProof.Rows
theorem aN0{fs ex:List Az}{a:Cv}{d H1:Hp}{h h':Hz}(un:Un fs ex d H1 h h')(c:∀ b∈iC a,H1 b=none)(hn:∀ b∈iC a,h.objs.size<=b):Un fs ex d (pub a H1) h h':=
 ⟨un.keep,un.slot,fun b o e n h2=>by
  rw[kI fun z=>absurd (AW (AK e) (hn b z)) (BO _)];exact un.free b o e n h2,un.there,fun b xs q=>gN c _ _ (un.tups b xs q),fun b o u q=>gN c _ _ (un.frzs b o u q),fun b ps q=>gN c _ _ (un.tbls b ps q)⟩
theorem aN1{CX:CXT}{P:P9}{w:W9}{K:Frag}{mg:Str->O6 V9}{base:Hz}{k:Nat}{f:Az}{name qual:Str}{params:Arguments}{st:Stmt}{e:Ez}{p:Pos}{scope:Scope}{Y kV doc pm a ct oc:V9}{X od:O6 Az}
  {L:Array (O6 V9)} {N ps:List Str} {sp:Sp} {i:Nat} {js:List Nat} (lk:K.lookup f=some ⟨oc,od,.func (PySem.W.fnOf name qual params [st,.Return (some e) p] scope Y kV doc pm X a ct),L⟩) (T:PySem.W.codeIn K a qual=true) (S:FnScope N ps scope)
  (len:∀ vs H Q E,sp vs H Q E->vs.length=ps.length)
  (h:∀ (A:U9) (outer:List Env) (s:S9) (H:Hp) (vs:List V) (Q:VK) (E:XK),Room k (A.deeper (envOfC qual scope s.heap.objs.size f a))->sp vs H Q E->
   PE (eW CX P w K mg base N qual scope f a A outer s H E) e (hX i)/\∃ t,PS (eW CX P w K mg base N qual scope f a A outer s H E) st t/\t {nx:=fun c H1=>∃ v,c[i]? = some (some v)/\(∀ j∈js,yT (eW CX P w K mg base N qual scope f a A outer s H E) c j)/\∀ B,PubRel (eW CX P w K mg base N qual scope f a A outer s H E) c H1 js B->Q v (pub B H1),rt:=fun _ _=>False} (start N vs) H) :
  FnOk P w K mg base CX (k+1) f (PySem.W.fnOf name qual params [st,.Return (some e) p] scope Y kV doc pm X a ct) ps sp:=by
 refine ⟨len,fun A outer s H args us vs Q E F e0 J r m=>?_⟩
 have hl:=len _ _ _ _ m
 have Z:K.In s.heap:=e0.mod.kin.keeps fun b o e=>(e0.bs b o e).1
 have G:s.heap.NoLimit:=e0.mod.nolimit.keeps fun b o e=>(e0.bs b o e).1
 have g:∀ y∈ps.zip us,scope.names.lookup y.1=some .local\/(scope.names.lookup y.1=some .cell/\((cellsFrom (s.heap.objs.size+1) scope.names []).lookup y.1).isSome=true):=fun U hy=>by
  obtain ⟨n,v⟩:=U
  rcases S.par n (EJ hy).1 with q|q
  .exact .inl q
  .exact .inr ⟨q,EV _ _ _ (.inl q)⟩
 refine E2 F.depth (Z _ _ lk) rfl S.co S.gen rfl (PySem.W.codeRec_of Z T) (J _ _ _ _ ?_)
 refine FT S.kind g fun env C s1 x=>?_
 subst C
 refine ⟨G.keeps x.toInCall.keep,codeAny_func ?_⟩
 obtain ⟨C,t,ht,hq⟩:=h A outer s H vs Q E (F.deeper _) m
 have I:Inv (eW CX P w K mg base N qual scope f a A outer s H E) [] (start N vs) H s1:=wG S F.hd e0 hl r x
 refine EZ (BY (ht [] s1 (start N vs) H _ I hq) (fun fl s' d=>?_) fun e s' d=>d)
 cases fl with
 | next=>
  obtain ⟨c,H1,I1,v,hv,M,q⟩:=d
  refine EZ (wpAny_Return_some (BY (C [] s' c H1 (fun O H'=>O=v/\H'=H1) I1 ⟨v,hv,rfl,rfl⟩) (fun u s2 d=>?_) fun e s' d=>d))
  obtain ⟨O,H',l,rv,e1,e2⟩:=d
  subst e1 e2
  obtain ⟨B,R,ok⟩:=aFI l js M
  have D:=aKH l R ok
  refine ⟨O,pub B H',l.os,l.bare,aN0 l.base R.free fun b J=>?_,D.hok,rv,q B R⟩
  obtain ⟨⟨o,v⟩,z⟩:=iR.mp J
  exact (ok b o v z).2.1
 | ret u=>
  obtain ⟨_,_,_,_,_,q⟩:=d
  exact False.elim q
 | brk=>
  obtain ⟨_,_,_,q⟩:=d
  exact False.elim q
 | cont=>
  obtain ⟨_,_,_,q⟩:=d
  exact False.elim q
end L2
namespace Fl
open PySem L2 PyProof.Rows
theorem aLI{a:Cv}{f g F H:Hp}(d:∀ b∈iC a,H b=none)(e:Ext f g F H):Ext f g (pub a F) (pub a H):=by
 have h:∀ b∈iC a,F b=none:=fun b c=>bK e.fh (d b c)
 refine ⟨fun b o q=>gN d _ _ (e.hh b o q),fun b o q=>gN h _ _ (e.ff b o q),aH1 e.fh,fun b q n=>?_⟩
 by_cases c:b∈iC a
 · exact .inl (bK e.hh (d b c))
 · rw [kI c] at n; exact e.nw b q n
def fnK(m:Nat)(sl:List Nat)(k n:Nat)(Gm:List A->List Dz->R Dz):List A->R A:=fun as=>match gT sl (as.map some++List.replicate (m - as.length) none) with
 | some caps=>.ok (.g k n (Gm caps))
 | none=>.bad
section
variable{P:P9}{w:W9}{K:Frag}{mg:Str->O6 V9}{base:Hz}{T:Hp}
theorem aLJ{x:Str}{st d1:Stmt}{e:Ez}{p:Pos}{N ps:List Str}{k k' n i:Nat}{q:Str}{qs:List (Pos×Str)}{cls:Str->O6 ClSt}{G:ClSt}{fr:List Str}{l:List Nat}{Gm:List A->List Dz->R Dz}(D:DefAtT K mg base T qs x st ps)(S:FnScope N ps (aE st))(hb:bY st=[d1,.Return (some e) p])
  (hS:cls q=some G) (M:CloOk P w K mg base T G fr k' n Gm) (h1:∀ y,(y,NameKind.free)∈G.scope.names->y∈fr) (h2:∀ y∈fr,(y,NameKind.free)∈G.scope.names) (J:l.map (fun j=>N[j]?)=fr.map some) (hi:∀ j∈l,j≠i) (O:i < N.length) (ac:ps.length<=i)
  (Y:∀ j∈l,∃ y,N[j]? = some y/\(aE st).names.lookup y=some .cell)
  (g:∀ (f c0 P0:Az) (A:U9) (outer:List Env) (s:S9) (H F:Hp) (E:XK),Tb mg base c0 P0->T P0=some (.tbl qs)->Room k (A.deeper (envOfC x (aE st) s.heap.objs.size f (.ref c0)))->
   PE (eW (CXe P w) P w K mg base N x (aE st) f (.ref c0) A outer s H E) e (hX i)/\PSf (eW (CXe P w) P w K mg base N x (aE st) f (.ref c0) A outer s H E) ⟨K,mg,w,F,H,gOf P w K mg base T,(envOfC x (aE st) s.heap.objs.size f (.ref c0)).cells,cls⟩ E d1 (aJE i q)):aY P w K mg base T (k+1) x ps (fnK N.length l k' n Gm):=by
 obtain ⟨f,oc,od,kV,doc,pm,an,c0,ct,af,P0,lk,aa,kp,b,m,t2,t1⟩:=D.ex
 rw[hb] at lk b
 refine ⟨f,_,aN1 (i:=i) (js:=l) lk aa S (fun vs H Q E h=>?_) (fun A outer s H vs Q E hr h=>?_),b,m,kp⟩
 .obtain ⟨F,c,_,_,h2,J,_⟩:=h
  rw[h2.len,J]
 .obtain ⟨F,c,g0,g1,g2,g3,B⟩:=h
  obtain ⟨he,hd⟩:=g f c0 P0 A outer s H F E t2 t1 hr
  refine ⟨he,_,hd,?_⟩
  have ae:vs.length=c.length:=g2.len
  have ab:=zD (cells:=(envOfC x (aE st) s.heap.objs.size f (.ref c0)).cells) (cls:=cls) (w:=w) (n:=N.length) g0 g1 g2
  refine ⟨_,F,ab,?_⟩
  unfold fnK at B
  cases Z:gT l (c.map some++List.replicate (N.length - c.length) none) with
  | none=>rw[Z] at B;exact B.elim
  | some caps=>
   rw[Z] at B
   intro σ' F' H' s' d
   have r:(c.map some++List.replicate (N.length - c.length) (none:O6 Fl.A)).length=N.length:=by rw[AU,AD,BL,g3];omega
   have hk:((c.map some++List.replicate (N.length - c.length) none).set i (some (.k q)))[i]? = some (some (Fl.A.k q)):=BW (by rw[r];exact O)
   obtain ⟨v,V,hA⟩:=d.slot i _ hk
   have C:∀ js:List Nat,(∀ j∈js,j≠i)->gT js ((c.map some++List.replicate (N.length - c.length) none).set i (some (.k q)))=gT js (c.map some++List.replicate (N.length - c.length) none):=fun js o=>by
    induction js with
    | nil=>rfl
    | cons j js ih=>
     unfold gT
     rw[BD (BG (o j AX)),ih fun j h=>o j (AN _ h)]
   have t:=(C l hi).trans Z
   refine ⟨v,V,fun j o=>?_,fun cv R=>?_⟩
   .obtain ⟨y,a1,a2⟩:=Y j o
    obtain ⟨a,ha⟩:=zQ t j o
    obtain ⟨v,V,_⟩:=d.slot j a ha
    exact ⟨y,v,a1,a2,rfl,V⟩
   .obtain ⟨S',f1,cl,u,W,cc,L,I,z⟩:=hA
    have I:cls q=some S':=I
    rw[hS] at I;cases I
    have U:o4 ⟨K,mg,w,F,H,gOf P w K mg base T,(envOfC x (aE st) s.heap.objs.size f (.ref c0)).cells,cls⟩ F' G v:=⟨f1,cl,u,W,cc,L,z⟩
    refine B v (pub cv F') (pub cv H') (aLI R.free d.all) ?_
    exact aH3 (X:=eW (CXe P w) P w K mg base N x (aE st) f (.ref c0) A outer s H E) rfl rfl rfl rfl d R U M h1 h2 J (fun j o=>o) t
end
end Fl
namespace L2
open PySem PySem.Spec PyProof.Rows
def aAQ:V->O6 Key
 | .int i=>some (.inl i)
 | .str z=>some (.inr z)
 | _=>none
theorem aLK{v:V}{k:Key}{u:V9}(h:aAQ v=some k)(r:bB v u):i7 k u=true:=by
 cases v<;>simp only[aAQ] at h<;>cases h
 · obtain ⟨t, rfl⟩ := r; simp [i7, Value.isInt]
 · obtain ⟨t, rfl⟩ := r; simp [i7, Value.isStrOf]
end L2
namespace Fl
open PySem L2 PyProof.Rows
def aJJ:Dz->O6 Key
 | .int i=>some (.inl i)
 | .str z=>some (.inr z)
 | _=>none
def rL:List Dz->O6 (List Key)
 | []=>some []
 | d::ds=>match aJJ d,rL ds with
  | some k,some ks=>some (k::ks)
  | _,_=>none
theorem w5{K:Frag}{F:Hp}:∀ {xs:List Dz} {vs:List V} {ks:List Key},DatVs K F vs xs->rL xs=some ks->vs.map aAQ=ks.map some
 | [],vs,ks,r,h=>by cases r;cases h;rfl
 | d::ds,vs,ks,r,h=>by
  cases r with
  | cons r1 r2=>
   unfold rL at h
   split at h
   .rename_i k a h1 h2
    cases h
    rw[AJ,AJ,w5 r2 h2]
    congr 1
    cases r1<;>simp only[aJJ] at h1<;>cases h1<;>rfl
   .cases h
end Fl
namespace Zp
open PySem L2
theorem aGC{prog:P9}{w:W9}{A:U9}{R:Result->S9->Prop}{I S l:Az}{items:Array V9}{ks:List Key}(Q:A.handled=none)(V:l≠I)(f:S≠I)(K:S≠l)
  (U:∀ (i:Nat) v,items[i]? = some v->∃ k,ks[i]? = some k/\i7 k v=true) (hs:items.size=ks.length) (Z:items.size+1 < scanBound) :
  ∀ (k i:Nat) (s:S9),items.size - i=k->i<=items.size->s.heap.IsTupleIter I l i->s.heap.IsTuple l items->Heap.SetOf (cA prog w) s.heap S (nO (ks.take i)) (eM [] (ks.take i)).length->
   (∀ h' tk,(∀ b o,b≠I->b≠S->s.heap.get? b=some o->h'.get? b=some o)->Heap.SetOf (cA prog w) h' S (nO ks) (eM [] ks).length->R (.ok (.ret .none)) {s with heap:=h',toks:=tk})->
   codeAny (model prog w) A (.builtin "set.update.loop" ⟨[.ref S,.ref I],[]⟩) R s:=by
 have W:=(Walks.tuple (prog:=prog) (w:=w) (A:=A.in1) (by exact Q) I l V items).toS
 intro k
 induction k with
 | zero=>
  intro i s D hi a y n E
  have:i=items.size:=by omega
  subst this
  refine GW EN ?_
  rw[Around.under_plainId DE _]
  show wpAny _ A.in1 (pyNext (.ref I) >>= _) _ _ s
  refine AA (W.done s _ _ ⟨a,y⟩ fun s' M=>AC ?_)
  obtain ⟨G,g,d,tk,os⟩:=s'
  obtain ⟨j,z,p,L,T⟩:=M
  cases z;cases p;cases L
  refine E G tk (fun b o h1 _ e=>j b o (by simpa using h1) e) ?_
  obtain ⟨o,es,C,t,e,r⟩:=n
  rw[EX (by omega)] at r
  exact ⟨o,es,C,t,j _ _ (by simpa using f) e,r⟩
 | succ k ih=>
  intro i s D hi a y n E
  refine GW EN ?_
  rw[Around.under_plainId DE _]
  show wpAny _ A.in1 (pyNext (.ref I) >>= _) _ _ s
  refine AA (W.item i s _ _ (by omega) ⟨a,y⟩ fun v s' X St M=>?_)
  obtain ⟨G,g,d,tk,os⟩:=s'
  obtain ⟨j,z,p,L,T⟩:=M
  cases z;cases p;cases L
  obtain ⟨O,e1,e2⟩:=U i v X
  have H:Heap.SetOf (cA prog w) G S (nO (ks.take i)) (eM [] (ks.take i)).length:=by
   obtain ⟨o,es,C,t,e,r⟩:=n
   exact ⟨o,es,C,t,j _ _ (by simpa using f) e,r⟩
  show wpAny _ A.in1 (holding [v] (setAdd S v) >>= _) _ _ _
  refine AA (B9 ?_)
  unfold setAdd
  refine B9 (AA ((cA prog w).pyHash e2 ?_))
  have h:(eM [] (ks.take i)).length+1 < scanBound:=by
   have h1:=sW (ks.take i) []
   rw[EC] at h1
   simp only[AZ] at h1
   omega
  refine wpAny_setAddHashed_of (knd:=cA prog w) e2 (aD1 e2) H h fun h' u st=>?_
  refine AC ⟨plainId_quiet DE _,?_⟩
  have N:ks.take (i+1)=ks.take i++[O]:=by rw[List.take_add_one,e1];rfl
  refine ih (i+1) _ (by omega) (by omega) ?_ ?_ ?_ ?_
  .obtain ⟨c,F,r⟩:=St.1
   exact ⟨c,u.extBut _ _ (fun q=>f q.symm) F,r⟩
  .obtain ⟨c,F,r⟩:=St.2
   exact ⟨c,u.extBut _ _ (fun q=>K q.symm) F,r⟩
  .refine aBD st (fun Y=>?_) ?_
   .rw[N,aIF]
   .rw[N,aAK]
    by_cases m:O∈eM [] (ks.take i)
    · rw [AE m, AE ((aAL _ _).mpr (((sV _ _ _).mp m).resolve_left (fun q => nomatch q)))]
    · rw [AI m, AI (fun q => m ((sV _ _ _).mpr (.inr ((aAL _ _).mp q)))), AU]; rfl
  .intro h2 x J B
   exact E h2 x (fun b o h1 P e=>J b o h1 P (u.extBut _ _ P (j b o (by simpa using h1) e))) B
theorem aGD{prog:P9}{w:W9}{A:U9}{E:V9->S9->Prop}{s:S9}{l:Az}{items:Array V9}{ks:List Key}{Q:V9->S9->Prop}(z:A.handled=none)(t:s.heap.IsTuple l items)
  (D:∀ (i:Nat) v,items[i]? = some v->∃ k,ks[i]? = some k/\i7 k v=true) (N:items.size=ks.length) (K:items.size+1 < scanBound)
  (B:∀ h' tk,(∀ b o,s.heap.get? b=some o->h'.get? b=some o)->Heap.SetOf (cA prog w) h' s.heap.objs.size (nO ks) (eM [] ks).length->Q (.ref s.heap.objs.size) {s with heap:=h',toks:=tk}) :
  wpAny (model prog w) A (call (.type "set") [.ref l]) Q E s:=by
 have f:l < s.heap.objs.size:=by obtain ⟨c,M,_⟩:=t;exact AK M
 refine aAM fun a=>?_
 have q:(s.heap.push {cls:=.type "set",data:=.set #[] 0 (SetTable.fresh 0 0 a)}).get? s.heap.objs.size=some {cls:=.type "set",data:=.set #[] 0 (SetTable.fresh 0 0 a)}:=AV _ rfl
 have H:=t
 obtain ⟨L,G,g,c,y⟩:=t
 generalize j:s.heap.objs.size=S at *
 have J:S≠l:=CL f
 have h:=AB {cls:=.type "set",data:=.set #[] 0 (SetTable.fresh 0 0 a)} G
 have r:({s with heap:=s.heap.push {cls:=.type "set",data:=.set #[] 0 (SetTable.fresh 0 0 a)}}:S9).TypeIs (.ref S) "set":=⟨_,q,rfl⟩
 have d:({s with heap:=s.heap.push {cls:=.type "set",data:=.set #[] 0 (SetTable.fresh 0 0 a)}}:S9).TypeIs (.ref l) "tuple":=⟨_,h,g⟩
 unfold Builtin.«set.__init__»
 refine AA (AC (AA ?_))
 unfold typeNameOfCut shownTypeOf
 refine AA (AA (GP r ?_))
 refine AC ?_
 refine AC (AA (AC (AA (AC (AA ?_)))))
 unfold setUsed setState
 refine AA (AA (wpAny_load q (AC (AC ?_))))
 show wpAny _ _ (Builtin.Frozenset.updateFrom "set.__init__" S (.ref l) >>= _) _ _ _
 refine AA ?_
 unfold Builtin.Frozenset.updateFrom Builtin.Frozenset.isAnySet
 refine AA ?_
 refine AA (EF d F.sub_tuple_set ?_)
 refine EF d F.sub_tuple_frozenset ?_
 refine AA (GP d ?_)
 have m:(s.heap.push {cls:=.type "set",data:=.set #[] 0 (SetTable.fresh 0 0 a)}).IsTuple l items:=⟨L,h,g,c,y⟩
 show wpAny _ _ (pyIter (.ref l) >>= _) _ _ _
 have p:(s.heap.push {cls:=.type "set",data:=.set #[] 0 (SetTable.fresh 0 0 a)}).objs.size=S+1:=by rw[BV,j]
 refine AA (FQ m (AA (wpAny_runValue ?_)))
 show codeAny _ _ (.builtin "set.update.loop" ⟨[.ref S,.ref (s.heap.push _).objs.size],[]⟩) _ _
 have C:∀ b o,s.heap.get? b=some o->(s.heap.push {cls:=.type "set",data:=.set #[] 0 (SetTable.fresh 0 0 a)}).get? b=some o:=fun b o e=>AB _ e
 generalize s.heap.push {cls:=.type "set",data:=.set #[] 0 (SetTable.fresh 0 0 a)}=O at *
 rw[p]
 refine aGC (I:=S+1) (S:=S) (l:=l) (items:=items) (ks:=ks) (A:=A.in1.in1) z (A4 (F7 f)) (A4 (DL S)) J D N K items.size 0 _ (by omega) (by omega) ?_ ?_ ?_ ?_
 .refine ⟨{cls:=.type "tuple_iterator",data:=.fields #[.ref l,.int 0 0]},?_,rfl,rfl⟩
  rw[<-p]
  exact AV _ rfl
 .exact m.push _
 .letI:BEq Key:=instBEqOfDecidableEq
  haveI:LawfulBEq Key:=inferInstance
  refine (PyProof.Rows.setObjOf_fresh (knd:=cA prog w) a).setOf (AB _ q) (by decide)
 .intro h' tk x u
  refine AC (AC ⟨rfl,B h' tk (fun b o e=>?_) u⟩)
  have n:b < S:=j▸AK e
  exact x b o (A4 (F7 n)) (A4 n) (AB _ (C b o e))
end Zp
namespace L2
open PySem PySem.Spec PyProof.Rows
theorem aCF{X:Cx}{a:Ez}{ta:TA}{p1 p2 pos b:Pos}(S:X.calm=true)(r:Gl X "len")(m:X.mg "len"=none)(j:Gl X "set")(n:X.mg "set"=none)(ha:PA X [a] ta)
  (W:starEach [a] X.env=[(false,eval a X.env)]:=by rfl)
  (hs3:starEach [.Call (.Name "set" p2) [a] [] b] X.env=[(false,eval (.Call (.Name "set" p2) [a] [] b) X.env)]:=by rfl) :
  PE X (.Call (.Name "len" p1) [.Call (.Name "set" p2) [a] [] b] [] pos) (tCB (fun xs H Q=>∃ p ys ks,xs=[.ref p]/\SqT X.K H p ys/\ys.map aAQ=ks.map some/\ys.length < 4000/\Q (.int ((Zp.eM [] ks).length:Nat)) H) ta):=by
 intro pins s σ H Q I h
 refine CS (iZ I r m BQ ?_ (by decide) (by decide))
 refine E8 (e:=.Call (.Name "set" p2) [a] [] b) (rest:=[]) ?_ hs3 rfl
 rw[hs3]
 show wpAny _ _ (spliced [(false,eval (.Call (.Name "set" p2) [a] [] b) X.env)]) _ _ s
 refine Calls.spliced_cons ?_
 refine CS (iZ I j n PyProof.Rows.boot_set (B6 (thn (ha b pins s σ H _ I h) fun us s1 w=>?_) (by rw[W];rfl) (by rfl)))
 obtain ⟨vs,H1,x,R,E⟩:=w
 obtain ⟨p,ys,ks,rfl,L,A,Z,q⟩:=E
 obtain ⟨u,rfl,T⟩:=mX R
 cases T
 obtain ⟨d,y,G,hz⟩:=x.tuple L
 have B:=y.length
 have U:ys.length=ks.length:=by simpa using congrArg List.length A
 refine Zp.aGD (ks:=ks) (items:=d.toArray) (x.ok.hd S) G (fun i v g=>?_) (by simp only[A2];omega) (by simp only[A2,scanBound];omega) fun h' tk O st=>?_
 .rw[List.getElem?_toArray] at g
  have hi:i < d.length:=(AS.mp g).1
  have z:ys[i]? = some ys[i]:=AH (by omega)
  have c:=D3 (fun l=>l[i]?) A
  simp only[A0,z,Option.map_some] at c
  cases f:ks[i]? with
  | none=>rw[f] at c;cases c
  | some k=>
   rw[f] at c
   obtain ⟨u2,e2,V⟩:=y.get z
   rw[g] at e2
   cases e2
   exact ⟨k,rfl,aLK (BT c) V⟩
 refine Calls.spliced_nil ?_
 obtain ⟨o,es,ep,t,P,J,F,Y,g5,g6,N,C⟩:=st
 have D:=Zp.sW ks []
 have M:(Zp.eM [] ks).length < 4000:=by simp only[AZ] at D;omega
 refine call_len_set (s:={s1 with heap:=h',toks:=tk}) P J F N (by rw[C];omega) ?_
 rw[C]
 exact ⟨.int ((Zp.eM [] ks).length:Nat),H1,(x.kept (t':=tk) O).tok _,⟨_,rfl⟩,q⟩
end L2
namespace Fl
open PySem L2 PyProof.Rows
def dSetT:Dz->R Dz
 | .tuple xs=>match rL xs with
  | some ks=>if xs.length < 4000 then .ok (.int ((Zp.eM [] ks).length:Nat)) else .bad
  | none=>.bad
 | _=>.bad
theorem aD6:lL dSetT:=by intro a e h;unfold dSetT at h;split at h<;>(try split at h)<;>(try split at h)<;>cases h
section
variable{X:Cx}{c:Ct}{E:XK}{e:Ez}
theorem aCG{g:Sg->R Dz}(l:X.K=c.K)(h0:PE X e (tCB (fun xs H Q=>∃ p ys ks,xs=[.ref p]/\SqT X.K H p ys/\ys.map aAQ=ks.map some/\ys.length < 4000/\Q (.int ((Zp.eM [] ks).length:Nat)) H) (dN (tV (bD c) c E g) f7))):PD X c E e (e1 dSetT g):=
 PE.imp h0 fun σ H Q h=>by
  obtain ⟨ρ,F,ab,k⟩:=tV1 (Ra:=bD c) rE aD6 (j4 c) h
  refine ⟨ρ,F,ab,k.imp fun d _ q v j H' s r=>?_⟩
  obtain ⟨o,u,a,n,i,m,b,q⟩:=q v j H' s r
  unfold dSetT at b
  split at b
  .split at b
   .rename_i ks f
    split at b
    .rename_i t
     cases b
     obtain ⟨p,vs,rfl,_,h1,h2⟩:=aW.tup_of i m
     rw[<-l] at h1
     have:=h2.length
     exact ⟨p,vs,ks,rfl,h1,w5 h2 f,by omega,q _ _ _ (Ext.refl i) (.int _)⟩
    .cases b
   .cases b
  .cases b
end
end Fl
namespace Mc
open PySem L2 PyProof.Rows Fl
noncomputable def bM:Sg->R Fw:=(bO (vMt (bG 2 j9 (aC (vV 1) (aC (vV 0) aU))) "says" [("LetBy",eG),("ShutOut",dL),("ForEver",dM)]))
noncomputable def rM:List A->R A:=fnK 2 [0] 7 1 (j6 2 bM)
noncomputable def kB:Sg->R Fw:=(aX (sIf (mH (e1 asB (sZ 0 [("LetBy",true),("ShutOut",true),("ForEver",true)]))) (bO (vD (eC (.str "none")))) sNx)
 (aX (jC 1 (gC (aC (sZ 0 [("LetBy",true),("ShutOut",false),("ForEver",false)]) (aC (sZ 0 [("LetBy",false),("ShutOut",true),("ForEver",false)]) (aC (sZ 0 [("LetBy",false),("ShutOut",false),("ForEver",true)]) aU)))))
 (aX (sIf (e1 asB (e2 dNe (e1 dLen (eL (j5 [none] (e1 cC (rV 1)) (stN 0) (e1 asB (eV 0)) (eV 0)))) (eC (.int 1)))) (bO (vD (eC (.str "none")))) sNx)
 (bO (vD (e2 dIx (eL (gC (aC (eC (.str "by")) (aC (eC (.str "out")) (aC (eC (.str "ever")) aU))))) (aAI (rV 1) (eC (.bool true)))))))))
noncomputable def eJ:List A->R A:=fnF 2 kB
noncomputable def coB:Sg->R Fw:=(sIf (bOr (e1 asB (e2 dLt (e1 dSetT (vW (rV 1) oNo (oSo (eC (.int 2))))) (e1 dLen (vW (rV 1) oNo (oSo (eC (.int 2))))))) (e1 asB (e2 dLt (e1 dSetT (vW (rV 1) (oSo (eC (.int 1))) (oSo (eC (.int 2))))) (e1 dLen (vW (rV 1) (oSo (eC (.int 1))) (oSo (eC (.int 2)))))))) (bO (vD (eC (.bool false)))) sNx)
noncomputable def fJ:Sg->R Fw:=(aX (nR (e1 cC (eV 0)) (stN 1) coB) (bO (vD (eC (.bool true)))))
noncomputable def cQ:List A->R A:=fnF 2 fJ
noncomputable def hV:Sg->R Fw:=(aX (cH 3 (bG 2 dX (aC (vV 1) (aC (vV 2) aU))))
 (aX (cH 4 (bG 2 fY (aC (vV 1) (aC (vV 2) aU))))
 (aX (sIf (bOr (e1 asB (e2 dNe (eA (bG 1 eJ (aC (vO 0) aU))) (rV 4))) (bOr (e1 asB (e2 dNe (eA (vMt (vO 0) "says" [("LetBy",eG),("ShutOut",dL),("ForEver",dM)])) (rV 4))) (mH (e1 asB (eA (bG 2 iL (aC (vMt (vO 0) "stops" [("LetBy",gX),("ShutOut",fR),("ForEver",fS)]) (aC (vD (e2 dNe (rV 4) (eC (.str "ever")))) aU)))))))) (bO (vD (eC (.bool false)))) sNx)
 (aX (sIf (bOr (mH (e1 asB (eA (bG 1 eF (aC (vD (eOF 0 ["LetBy","ShutOut","ForEver"] "place")) aU))))) (bOr (mH (e1 asB (eA (bG 1 eF (aC (vD (eOF 0 ["LetBy","ShutOut","ForEver"] "room")) aU))))) (e1 asB (e2 dNe (eY (aC (eOF 0 ["LetBy","ShutOut","ForEver"] "place") (aC (eOF 0 ["LetBy","ShutOut","ForEver"] "room") aU))) (e2 dIx (rV 3) (e1 dNeg (eC (.int 1)))))))) (bO (vD (eC (.bool false)))) sNx)
 (aX (sIf (e1 asB (e2 dEq (rV 4) (eC (.str "ever")))) (aX (sIf (bOr (mH (e1 asB (eA (bG 1 eF (aC (vD (eOF 0 ["ForEver"] "first")) aU))))) (mH (e1 asB (eA (bG 1 eF (aC (vD (eOF 0 ["ForEver"] "again")) aU)))))) (bO (vD (eC (.bool false)))) sNx)
 (bO (vD (vJ (e2 dEq (eOF 0 ["ForEver"] "first") (aAI (rV 3) (e2 dIx (rV 3) (e1 dNeg (eC (.int 1)))))) (e2 dEq (eOF 0 ["ForEver"] "again") (e2 dSub (e1 dLen (rV 3)) (eC (.int 1)))))))) sNx)
 (aX (sIf (bOr (mH (e1 asB (e1 (fW "tuple") (eOF 0 ["LetBy","ShutOut"] "borders")))) (mH (e1 asB (e1 dAll (eL (j5 [none] (e1 cC (eOF 0 ["LetBy","ShutOut"] "borders")) (stN 0) lR (e1 (fW "tuple") (rV 0)))))))) (bO (vD (eC (.bool false)))) sNx)
 (bO (vD (vJ (e2 dEq (eOF 0 ["LetBy","ShutOut"] "borders") (eA (bG 2 eU (aC (vV 3) (aC (vD (e2 cG (e1 dLen (rV 2)) (eC (.int 1)))) aU))))) (eA (bG 1 cQ (aC (vD (eOF 0 ["LetBy","ShutOut"] "borders")) aU))))))))))))
noncomputable def eK:List A->R A:=fnF 5 hV
noncomputable def l6:Sg->R Fw:=(sIf (bOr (mH (e1 asB (eA (bG 3 eK (aC (bG 2 j9 (aC (vV 1) (aC (vV 4) aU))) (aC (vV 1) (aC (vV 4) aU))))))) (e1 asB (e2 dNe (aDP 12 3 (aC (eV 4) aU)) (eA (bG 2 fY (aC (vV 1) (aC (vV 4) aU))))))) (bO (vD (eC (.bool false)))) sNx)
noncomputable def aD7:Sg->R Fw:=(aX (sP (stT [(stN 1),(stN 2)]) (eA (bG 1 iK (aC (vV 0) aU))))
 (aX (cH 3 (bG 1 rM (aC (vV 1) aU)))
 (aX (nR (e1 cC (eL (gC (aC (eV 2) (aC (eC (.str "")) (aC (eV 2) aU)))))) (stN 4) l6)
 (bO (vD (eC (.bool true)))))))
noncomputable def aD8:List A->R A:=fnF 5 aD7
def top(i:Nat):Stmt:=PySem.Challenge.pw_striproam_k06_endings_and_borders.main.body.getD i (.Pass ⟨0,0,0,0⟩)
def dG:ClSt:=clS "sayer.<locals>.word_of" ((bY (top 20)).getD 0 (.Pass ⟨0,0,0,0⟩))
def fU:Pos:=aP5 ((bY (top 20)).getD 0 (.Pass ⟨0,0,0,0⟩))
def qsT:List (Pos×Str):=[(fU,("sayer.<locals>.word_of":Str))]
structure Txt(w:World)(K:Frag)(mg:Str->Option V9):Prop where
 b_all:mg "all"=none
 b_bool:mg "bool"=none
 b_enumerate:mg "enumerate"=none
 b_int:mg "int"=none
 b_isinstance:mg "isinstance"=none
 b_len:mg "len"=none
 b_min:mg "min"=none
 b_range:mg "range"=none
 b_set:mg "set"=none
 b_str:mg "str"=none
 b_tuple:mg "tuple"=none
 b_zip:mg "zip"=none
 g_BEGIN:∃ a,mg "BEGIN"=some (.ref a)/\oP K a [.int 0,.int 0]
 g_SIGNS:∃ t,mg "SIGNS"=some (.str "abc" t)
 g_STOPS:∃ a,mg "STOPS"=some (.ref a)/\oP K a [.str "by",.str "out"]
section
variable{P:P9}{w:W9}{K:Frag}{mg:Str->O6 V9}{base:Hz}{TH:Hp}
theorem pH:FnScope ["self"] ["self"] (aE (aM (top 13) 1)):=by constructor<;>first|rfl|decide +kernel
theorem vX(T:Txt w K mg){f:Az}{fd:FuncData}(b:Fun K "says" "LetBy.says" (aM (top 13) 1) f fd):FnOk P w K mg base (CXe P w) 1 f fd ["self"] (spF (gOf P w K mg base TH) K mg 1 eG):=
 @l7 P w K mg base TH "says" "LetBy.says" (aM (top 13) 1) ["self"] ["self"] 0 f fd qQ b pH (fun a A outer s H F E c=>by
  have nd:=pH.nd
  exact (Fl.aN (Fl.bA (aS cX))))
theorem oM:FnScope ["self"] ["self"] (aE (aM (top 13) 2)):=by constructor<;>first|rfl|decide +kernel
theorem uD(T:Txt w K mg){f:Az}{fd:FuncData}(b:Fun K "stops" "LetBy.stops" (aM (top 13) 2) f fd):FnOk P w K mg base (CXe P w) 1 f fd ["self"] (spF (gOf P w K mg base TH) K mg 1 gX):=
 @l7 P w K mg base TH "stops" "LetBy.stops" (aM (top 13) 2) ["self"] ["self"] 0 f fd pG b oM (fun a A outer s H F E c=>by
  have nd:=oM.nd
  exact (Fl.aN (Fl.bA (aS hJ))))
theorem nH:FnScope ["self"] ["self"] (aE (aM (top 14) 1)):=by constructor<;>first|rfl|decide +kernel
theorem tD(T:Txt w K mg){f:Az}{fd:FuncData}(b:Fun K "says" "ShutOut.says" (aM (top 14) 1) f fd):FnOk P w K mg base (CXe P w) 1 f fd ["self"] (spF (gOf P w K mg base TH) K mg 1 dL):=
 @l7 P w K mg base TH "says" "ShutOut.says" (aM (top 14) 1) ["self"] ["self"] 0 f fd oI b nH (fun a A outer s H F E c=>by
  have nd:=nH.nd
  exact (Fl.aN (Fl.bA (aS cX))))
theorem mV:FnScope ["self"] ["self"] (aE (aM (top 14) 2)):=by constructor<;>first|rfl|decide +kernel
theorem rS(T:Txt w K mg){f:Az}{fd:FuncData}(b:Fun K "stops" "ShutOut.stops" (aM (top 14) 2) f fd):FnOk P w K mg base (CXe P w) 1 f fd ["self"] (spF (gOf P w K mg base TH) K mg 1 fR):=
 @l7 P w K mg base TH "stops" "ShutOut.stops" (aM (top 14) 2) ["self"] ["self"] 0 f fd nF b mV (fun a A outer s H F E c=>by
  have nd:=mV.nd
  exact (Fl.aN (Fl.bA (aS hJ))))
theorem nI:FnScope ["self"] ["self"] (aE (aM (top 15) 1)):=by constructor<;>first|rfl|decide +kernel
theorem tE(T:Txt w K mg){f:Az}{fd:FuncData}(b:Fun K "says" "ForEver.says" (aM (top 15) 1) f fd):FnOk P w K mg base (CXe P w) 1 f fd ["self"] (spF (gOf P w K mg base TH) K mg 1 dM):=
 @l7 P w K mg base TH "says" "ForEver.says" (aM (top 15) 1) ["self"] ["self"] 0 f fd oJ b nI (fun a A outer s H F E c=>by
  have nd:=nI.nd
  exact (Fl.aN (Fl.bA (aS cX))))
end
section
variable{P:P9}{w:W9}{K:Frag}{mg:Str->O6 V9}{base:Hz}{TH:Hp}
theorem mW:FnScope ["self"] ["self"] (aE (aM (top 15) 2)):=by constructor<;>first|rfl|decide +kernel
theorem rT(T:Txt w K mg){f:Az}{fd:FuncData}(b:Fun K "stops" "ForEver.stops" (aM (top 15) 2) f fd):FnOk P w K mg base (CXe P w) 1 f fd ["self"] (spF (gOf P w K mg base TH) K mg 1 fS):=
 @l7 P w K mg base TH "stops" "ForEver.stops" (aM (top 15) 2) ["self"] ["self"] 0 f fd nG b mW (fun a A outer s H F E c=>by
  have nd:=mW.nd
  exact (Fl.aN (Fl.bA (aS hJ))))
theorem sE:FnScope ["machine"] ["machine"] (aE (top 7)):=by constructor<;>first|rfl|decide +kernel
theorem aBE(T:Txt w K mg)(D:DefAt K mg "signs_of" (top 7) ["machine"]):aY P w K mg base TH 1 "signs_of" ["machine"] j7:=
 @cY P w K mg base TH "signs_of" (top 7) ["machine"] ["machine"] 0 o5 D sE (fun f a A outer s H F E b=>by
  have nd:=sE.nd
  exact (Fl.aN (Fl.bA (aS (eP rfl (bN c8 rfl T.b_len BQ (aK (aA (a8 (a9 rfl) aO (aA (a8 (a9 rfl) aO (aB (pv 0)) (aA aD))) (aA aD))) aT)))))))
theorem pI:FnScope ["signs","strip","known","at","sign"] ["signs","strip"] (aE (top 8)):=by constructor<;>first|rfl|decide +kernel
theorem xB(T:Txt w K mg)(D:DefAt K mg "checked_by" (top 8) ["signs","strip"]){W_NoStrip C_NoStrip:Az}(a:ErrAt P w K mg base "NoStrip" ["at"] W_NoStrip C_NoStrip):aY P w K mg base TH 3 "checked_by" ["signs","strip"] iH:=
 @cY P w K mg base TH "checked_by" (top 8) ["signs","strip","known","at","sign"] ["signs","strip"] 2 mM D pI (fun f c A outer s H F E b=>by
  have nd:=pI.nd
  exact (Fl.aG (Fl.aR (L2.aR (i:=2) nd rfl (Or.inl rfl) (aS (oZ rfl (aA (iD (f6 (v:=.str "abc") rfl T.g_SIGNS.choose_spec ⟨_,rfl⟩) fun _=>.str _)) rG (lB (aB (pv 0)))))))
   (Fl.aG (Fl.dY (mI rfl (dE (bZ 3) (dE (bZ 4) kO)) rfl) (L2.dY (f9 ⟨rfl,rfl⟩) rfl (aNC rfl (aJ4 rfl T.b_enumerate (aK (cM (pv 1)) aT)) (aHD rfl T.b_enumerate (aK (cM (pv 1)) aT))) (l8 rfl (dD (bT (i:=3) nd rfl (Or.inl rfl)) (dD (bT (i:=4) nd rfl (Or.inl rfl)) kF)))
   (Fl.aN (Fl.dA (Fl.cJ (aKP rfl b.units) aFN (aB (pv 4)) (aB (pv 2)) (by with_unfolding_all rfl)) (Fl.aN (Fl.sL a.m (by decide) (aE6 rfl a rfl (b.mono (by decide)) (aL (cM (pv 3)) bL)))) Fl.cE))))
   (Fl.aN (Fl.bA (aV (pv 1)))))))
theorem uE:FnScope ["machine","strip"] ["machine","strip"] (aE (top 9)):=by constructor<;>first|rfl|decide +kernel
theorem aD9(T:Txt w K mg)(D:DefAt K mg "checked" (top 9) ["machine","strip"])(a:aY P w K mg base TH 3 "checked_by" ["signs","strip"] iH)(b:aY P w K mg base TH 1 "signs_of" ["machine"] j7):aY P w K mg base TH 4 "checked" ["machine","strip"] jV:=
 @cY P w K mg base TH "checked" (top 9) ["machine","strip"] ["machine","strip"] 3 qB D uE (fun f d A outer s H F E c=>by
  have nd:=uE.nd
  exact (Fl.aN (Fl.bA (bV rfl rfl rfl (bU a (c.mono (by decide)) rfl (bQ fun _ _ _ h=>h) (aH (bV rfl rfl rfl (bU b (c.mono (by decide)) rfl (bQ fun _ _ _ h=>h) (aH (aV (pv 0)) bC))) (aH (aV (pv 1)) bC)))))))
end
section
variable{P:P9}{w:W9}{K:Frag}{mg:Str->O6 V9}{base:Hz}{TH:Hp}
theorem uF:FnScope ["machine","strip","stand","place","row"] ["machine","strip","stand"] (aE (top 16)):=by constructor<;>first|rfl|decide +kernel
theorem aEA(T:Txt w K mg)(D:DefAt K mg "cell_at" (top 16) ["machine","strip","stand"]):aY P w K mg base TH 1 "cell_at" ["machine","strip","stand"] iI:=
 @cY P w K mg base TH "cell_at" (top 16) ["machine","strip","stand","place","row"] ["machine","strip","stand"] 0 qD D uF (fun f b A outer s H F E a=>by
  have nd:=uF.nd
  exact (Fl.aG (Fl.aR (L2.aR (i:=3) nd rfl (Or.inl rfl) (aS (a8 (a9 rfl) aO (aB (pv 2)) (aA aD)))))
   (Fl.aG (Fl.aR (L2.aR (i:=4) nd rfl (Or.inl rfl) (aS (a8 (a9 rfl) aO (aB (pv 0)) (aA (a8 (a9 rfl) aO (aB (pv 2)) (aA aD)))))))
   (Fl.aG (Fl.dA (Fl.cJ (fP rfl a.units) dR (aB (pv 3)) (aA aD) (bX _)) (Fl.aN (Fl.bA (aS (eN (aL (a8 (a9 rfl) aO (aB (pv 4)) (aA aD)) (aL aD bL)))))) Fl.cE)
   (Fl.aG (Fl.dA (Fl.cJ (fP rfl a.units) dR (aB (pv 3)) (aA (aP (cP rfl) bW (aA (eP rfl (bN c8 rfl T.b_len BQ (aK (aB (pv 1)) aT)))) (aA aD))) (bX _)) (Fl.aN (Fl.bA (aS (eN (aL (a8 (a9 rfl) aO (aB (pv 4)) (aA aD)) (aL (m9 jT gK (aA aD)) bL)))))) Fl.cE)
   (Fl.aN (Fl.bA (aS (a8 (a9 rfl) aO (aA (a8 (a9 rfl) aO (aB (pv 4)) (aA aD))) (aA (zG (iP EY GZ G0 yI (aA (iD (f6 (v:=.str "abc") rfl T.g_SIGNS.choose_spec ⟨_,rfl⟩) fun _=>.str _)) (aK (aA (a8 (a9 rfl) aO (aB (pv 1)) (aA (aP jS gJ (aB (pv 3)) (aA aD))))) aT)) (by intro ρ x h;cases h;exact ⟨_,rfl⟩))))))))))))
theorem aCH:FnScope ["machine","strip","stand","stands","been","cell"] ["machine","strip"] (aE (top 17)):=by constructor<;>first|rfl|decide +kernel
theorem aLL(T:Txt w K mg)(D:DefAt K mg "path" (top 17) ["machine","strip"])(a:aY P w K mg base TH 4 "checked" ["machine","strip"] jV)(b:aY P w K mg base TH 1 "cell_at" ["machine","strip","stand"] iI):aY P w K mg base TH 5 "path" ["machine","strip"] qE:=
 @cY P w K mg base TH "path" (top 17) ["machine","strip","stand","stands","been","cell"] ["machine","strip"] 4 zV D aCH (fun f d A outer s H F E c=>by
  have nd:=aCH.nd
  exact (Fl.aG (Fl.eR (L2.eR (bV rfl rfl rfl (bU a (c.mono (by decide)) rfl (bQ fun _ _ _ h=>h) (aH (aV (pv 0)) (aH (aV (pv 1)) bC))))))
   (Fl.aG (Fl.aR (L2.aR (i:=2) nd rfl (Or.inl rfl) (aS (iD (f6 (v:=.ref T.g_BEGIN.choose) rfl T.g_BEGIN.choose_spec.1 rfl) fun F=>zL T.g_BEGIN.choose_spec.2 (by exact fun F=>.cons (.int _) (.cons (.int _) (.nil))) F))))
   (Fl.aG (iU (L2.aR (i:=3) nd rfl (Or.inl rfl) (eO (aL (cM (pv 2)) bL))))
   (Fl.aG (aBZ rfl (L2.aR (i:=4) nd rfl (Or.inl rfl) aBY))
   (Fl.aG (Fl.l9 (L2.l9 (f9 ⟨rfl,rfl⟩) (aFT rfl rfl (uV (zJ c.units) (cM (pv 2)) (pv 4) (by with_unfolding_all rfl)))
   (Fl.aG (Fl.aB0 rfl rfl (lJ hJ (x4 (pv 4) (cM (pv 2)) (zK c.units))))
   (Fl.aG (Fl.aR (L2.aR (i:=5) nd rfl (Or.inl rfl) (bV rfl rfl rfl (bU b (c.mono (by decide)) rfl (bQ fun _ _ _ h=>h) (aH (aV (pv 0)) (aH (aV (pv 1)) (aH (aV (pv 2)) bC)))))))
   (Fl.aG (Fl.dA (Fl.cJ (aM5 rfl c.units) aHR (aA (a8 (a9 rfl) aO (aB (pv 5)) (aA aD))) (aA (iD (f6 (v:=.ref T.g_STOPS.choose) rfl T.g_STOPS.choose_spec.1 rfl) fun F=>zL T.g_STOPS.choose_spec.2 (by exact fun F=>.cons (.str _) (.cons (.str _) (.nil))) F)) (by with_unfolding_all rfl)) (Fl.aN (xV 3 (Fl.bA (aV (pv 3))))) Fl.cE)
   (Fl.aG (Fl.aR (L2.aR (i:=2) nd rfl (Or.inl rfl) (aS (eN (aL (aP (cP rfl) bW (aA (a8 (a9 rfl) aO (aB (pv 2)) (aA aD))) (aA (a8 (a9 rfl) aO (aB (pv 5)) (aA aD)))) (aL (a8 (a9 rfl) aO (aB (pv 5)) (aA aD)) bL))))))
   (Fl.aN (n9 rfl (L2.eR (iP BS CF CG iA (pv 3) (aK (cM (pv 2)) aT)))))))))))
   (Fl.aN (xV 3 (Fl.bA (aV (pv 3)))))))))))
theorem pJ:FnScope ["stands","strip","crossings","here","there"] ["stands","strip"] (aE (top 18)):=by constructor<;>first|rfl|decide +kernel
theorem xC(T:Txt w K mg)(D:DefAt K mg "borders_of" (top 18) ["stands","strip"]):aY P w K mg base TH 1 "borders_of" ["stands","strip"] gI:=
 @cY P w K mg base TH "borders_of" (top 18) ["stands","strip","crossings","here","there"] ["stands","strip"] 0 mU D pJ (fun f b A outer s H F E e=>by
  have nd:=pJ.nd
  exact (aIE (is:=[3,4]) (L2.tN (i:=2) nd rfl (Or.inl rfl) (by rfl) (N:=["border"]) (js:=[none]) rfl (.own .nil) (by rfl) (aI9 (l0 (jP rfl T.b_range (aK (aA (aP (cP rfl) bW (aA (eP rfl (bN c8 rfl T.b_len BQ (aK (aB (pv 1)) aT)))) (aA aD))) aT))))) rfl (fun cl C d a c=>⟨bT (i:=0) (show (["border"]:List Str).Nodup by decide +kernel) rfl (Or.inl rfl),aEQ aT⟩) (mI rfl (dE (bZ 3) (dE (bZ 4) kO)) rfl) (by decide)
   (L2.dY (f9 ⟨rfl,rfl⟩) rfl (aK6 rfl (L2.aNL rfl T.b_zip (aK (cM (pv 0)) (aK (oZ rfl (aB (pv 0)) (lB (aA aD)) rG) aT)))) (l8 rfl (dD (bT (i:=3) nd rfl (Or.inl rfl)) (dD (bT (i:=4) nd rfl (Or.inl rfl)) kF))) (L2.aN (L2.eR (iP BS CF CG iA (aI1 aMP (pv 2) (aA (aFU (G:=fH) (bN (wC rfl) rfl T.b_min G6 (aK (aA (a8 (a9 rfl) aO (aB (pv 3)) (aA aD))) (aK (aA (a8 (a9 rfl) aO (aB (pv 4)) (aA aD))) aT))))) (fun _ _=>rfl)) (aK (a8 (a9 rfl) aO (aB (pv 4)) (aA aD)) aT)))))
   (Fl.aN (Fl.bA (aS (kN rfl (fN fK rfl T.b_tuple B8 (aK (aA (gB (oA (nY (N:=["rooms"]) (js:=[none]) rfl (.own .nil) (by rfl) (zB rfl (aB (pv 2)))) (by decide) (by decide) (is:=[0]) (fun cl C d a c=>⟨_,(bT (i:=0) (show (["rooms"]:List Str).Nodup by decide +kernel) rfl (Or.inl rfl)),(bZ 0),Fl.jQ,(kN rfl (fN fK rfl T.b_tuple B8 (aK (aB (pv 0)) aT)))⟩)))) aT))))))))
theorem aCI:FnScope ["machine","strip","stands","last","word"] ["machine","strip"] (aE (top 19)):=by constructor<;>first|rfl|decide +kernel
theorem aLM(T:Txt w K mg)(D:DefAt K mg "walk" (top 19) ["machine","strip"])(j:aY P w K mg base TH 5 "path" ["machine","strip"] qE)(d:aY P w K mg base TH 1 "cell_at" ["machine","strip","stand"] iI)(a:aY P w K mg base TH 1 "borders_of" ["stands","strip"] gI){Co_LetBy:Az}(e:MkAt P w K mg base 2 "LetBy" ["place","room","borders"] Co_LetBy){Co_ShutOut:Az}(c:MkAt P w K mg base 2 "ShutOut" ["place","room","borders"] Co_ShutOut){Co_ForEver:Az}(b:MkAt P w K mg base 2 "ForEver" ["place","room","first","again"] Co_ForEver):aY P w K mg base TH 6 "walk" ["machine","strip"] j9:=
 @cY P w K mg base TH "walk" (top 19) ["machine","strip","stands","last","word"] ["machine","strip"] 5 aAN D aCI (fun f k A outer s H F E g=>by
  have nd:=aCI.nd
  exact (Fl.aG (Fl.aR (L2.aR (i:=2) nd rfl (Or.inl rfl) (bV rfl rfl rfl (bU j (g.mono (by decide)) rfl (bQ fun _ _ _ h=>h) (aH (aV (pv 0)) (aH (aV (pv 1)) bC))))))
   (Fl.aG (Fl.aR (L2.aR (i:=3) nd rfl (Or.inl rfl) (aS (a8 (a9 rfl) aO (aB (pv 2)) (aA (m9 jT gK (aA aD)))))))
   (Fl.aG (Fl.aR (L2.aR (i:=4) nd rfl (Or.inl rfl) (aS (a8 (a9 rfl) aO (aA (cT (bV rfl rfl rfl (bU d (g.mono (by decide)) rfl (bQ fun _ _ _ h=>h) (aH (aV (pv 0)) (aH (aV (pv 1)) (aH (aV (pv 3)) bC))))))) (aA aD)))))
   (Fl.aG (Fl.dA (Fl.cJ (fP rfl g.units) dR (aB (pv 4)) (aA cX) (bX _)) (Fl.aN (Fl.bA (aAH rfl e (g.mono (by decide)) rfl (aL (a8 (a9 rfl) aO (aB (pv 3)) (aA aD)) (aL (a8 (a9 rfl) aO (aB (pv 3)) (aA aD)) (aL (cT (bV rfl rfl rfl (bU a (g.mono (by decide)) rfl (bQ fun _ _ _ h=>h) (aH (aV (pv 2)) (aH (aV (pv 1)) bC))))) bL)))))) Fl.cE)
   (Fl.aG (Fl.dA (Fl.cJ (fP rfl g.units) dR (aB (pv 4)) (aA cX) (bX _)) (Fl.aN (Fl.bA (aAH rfl c (g.mono (by decide)) rfl (aL (a8 (a9 rfl) aO (aB (pv 3)) (aA aD)) (aL (a8 (a9 rfl) aO (aB (pv 3)) (aA aD)) (aL (cT (bV rfl rfl rfl (bU a (g.mono (by decide)) rfl (bQ fun _ _ _ h=>h) (aH (aV (pv 2)) (aH (aV (pv 1)) bC))))) bL)))))) Fl.cE)
   (Fl.aN (Fl.bA (aAH rfl b (g.mono (by decide)) rfl (aL (a8 (a9 rfl) aO (aB (pv 3)) (aA aD)) (aL (a8 (a9 rfl) aO (aB (pv 3)) (aA aD)) (aL (qP rfl (iP BS DU ET (qO g.units) (aB (pv 2)) (aK (aB (pv 3)) aT))) (aL (aP jS gJ (aA (eP rfl (bN c8 rfl T.b_len BQ (aK (aB (pv 2)) aT)))) (aA aD)) bL)))))))))))))
theorem fZ:CloScope ["strip","machine"] ["strip"] ["machine"] dG.scope:=⟨rfl,rfl,rfl,by decide +kernel,rfl,by decide +kernel,by decide +kernel,by decide +kernel,by decide +kernel⟩
theorem rW:∀ y∈dG.scope.names,y.2=.free->(aE (top 20)).names.lookup y.1=some .cell\/(aE (top 20)).names.lookup y.1=some .free:=by decide +kernel
theorem qR:(fU,("sayer.<locals>.word_of":Str))∈qsT:=(.head _)
theorem rX:∀ p∈qsT,p.1.line=fU.line->p.1.col=fU.col->p.2=("sayer.<locals>.word_of":Str):=by decide +kernel
theorem qS(T:Txt w K mg)(a:aY P w K mg base TH 6 "walk" ["machine","strip"] j9)(mt_says:∀ p∈[(("LetBy":Str),eG),(("ShutOut":Str),dL),(("ForEver":Str),dM)],qN P w K mg base TH 1 p.1 "says" p.2):CloOk P w K mg base TH dG ["machine"] 7 1 (j6 2 bM):=
 @aNJ P w K mg base TH dG ["strip","machine"] ["strip"] ["machine"] 6 _ bM rfl fZ (fun _ _ _ _ _=>Mc.bn1 fun _=>rfl) (fun f c cl A outer s H F E d b=>by
  have nd:=fZ.nd
  exact (Fl.aN (Fl.bA (aDZ rfl rfl rfl mt_says (b.mono (by decide)) (bQ fun _ _ _ h=>h) (bV rfl rfl rfl (bU a (b.mono (by decide)) rfl (bQ fun _ _ _ h=>h) (aH (aV (pv 1)) (aH (aV (pv 0)) bC))))))))
theorem aAR:FnScope ["machine","word_of"] ["machine"] (aE (top 20)):=by constructor<;>first|rfl|decide +kernel
theorem aII(T:Txt w K mg)(D:DefAtT K mg base TH qsT "sayer" (top 20) ["machine"])(a:aY P w K mg base TH 6 "walk" ["machine","strip"] j9)(mt_says:∀ p∈[(("LetBy":Str),eG),(("ShutOut":Str),dL),(("ForEver":Str),dM)],qN P w K mg base TH 1 p.1 "says" p.2):aY P w K mg base TH 1 "sayer" ["machine"] rM:=
 @aLJ P w K mg base TH "sayer" (top 20) _ _ _ ["machine","word_of"] ["machine"] 0 7 1 1 "sayer.<locals>.word_of" qsT (fun q=>[(("sayer.<locals>.word_of":Str),dG)].lookup q) dG ["machine"] [0] (j6 2 bM) D aAR rfl rfl (qS T a mt_says) (fun y d=>fZ.only (y,.free) d rfl) (fun y d=>BF (fZ.cap y d)) rfl (by decide) (by decide) (by decide) (by decide +kernel) (fun f c0 P0 A outer s H F E c b e=>by
  have nd:=aAR.nd
  exact ⟨pv 1,(aK1 (S:=dG) rfl rfl b (L2.aMZ rfl c rfl qR rX rW rfl rfl rfl nd rfl (Or.inl rfl)))⟩)
end
section
variable{P:P9}{w:W9}{K:Frag}{mg:Str->O6 V9}{base:Hz}{TH:Hp}
theorem pK:FnScope ["_law_found","_law_due"] ["_law_found","_law_due"] (aE (top 22)):=by constructor<;>first|rfl|decide +kernel
theorem xD(T:Txt w K mg)(D:DefAt K mg "_law_truth" (top 22) ["_law_found","_law_due"]):aY P w K mg base TH 1 "_law_truth" ["_law_found","_law_due"] iL:=
 @cY P w K mg base TH "_law_truth" (top 22) ["_law_found","_law_due"] ["_law_found","_law_due"] 0 mR D pK (fun f a A outer s H F E b=>by
  have nd:=pK.nd
  exact (Fl.aN (Fl.bA (aS (tY (mK (bN (jH rfl (zF _)) rfl T.b_isinstance BH (aK (aB (pv 0)) (aK (kE (v:=.ty "bool") rfl T.b_bool G1 rfl) aT)))) (tX (lM (fP rfl b.units) dR (aB (pv 0)) (aB (pv 1)) (bX _))))))))
theorem qT:FnScope ["_law_script","_law_k","_law_cell_here","_law_mixed"] ["_law_script","_law_k"] (aE (top 23)):=by constructor<;>first|rfl|decide +kernel
theorem aAS(T:Txt w K mg)(D:DefAt K mg "_law_cell" (top 23) ["_law_script","_law_k"]):aY P w K mg base TH 1 "_law_cell" ["_law_script","_law_k"] bH:=
 @cY P w K mg base TH "_law_cell" (top 23) ["_law_script","_law_k","_law_cell_here","_law_mixed"] ["_law_script","_law_k"] 0 lF D qT (fun f a A outer s H F E b=>by
  have nd:=qT.nd
  exact (Fl.aG (Fl.aR (L2.aR (i:=2) nd rfl (Or.inl rfl) (aS aD)))
   (Fl.aG (Fl.dA (Fl.cJ n6 kL (aA (eP rfl (bN c8 rfl T.b_len BQ (aK (aB (pv 0)) aT)))) (aA aD) (bX _)) (Fl.aN (Fl.aR (L2.aR (i:=2) nd rfl (Or.inl rfl) (aS (a8 (a9 rfl) aO (aB (pv 0)) (aA (aP cF bP (aB (pv 1)) (aA (eP rfl (bN c8 rfl T.b_len BQ (aK (aB (pv 0)) aT))))))))))) Fl.cE)
   (Fl.aG (Fl.aR (L2.aR (i:=3) nd rfl (Or.inl rfl) (aS (aP cF bP (aA (aP iS fO (aA (aP (cP rfl) bW (aA (aP (cP rfl) bW (aA (aP cF bP (aB (pv 2)) (aA aD))) (aA (aP iS fO (aA aD) (aB (pv 1)))))) (aA aD))) (aA aD))) (aA aD)))))
   (Fl.aN (Fl.bA (aS (aP (cP rfl) bW (aA (aP iS fO (aA (aP eS dH (aB (pv 2)) (aA aD))) (aA aD))) (aA (aP cF bP (aA (aP (cP rfl) bW (aA (aP iS fO (aB (pv 3)) (aA aD))) (aA (aP iS fO (aA aD) (aB (pv 1)))))) (aA aD)))))))))))
theorem sG:FnScope ["_law_number","_law_rooms"] ["_law_number","_law_rooms"] (aE (top 24)):=by constructor<;>first|rfl|decide +kernel
theorem aBF(T:Txt w K mg)(D:DefAt K mg "_law_end" (top 24) ["_law_number","_law_rooms"]):aY P w K mg base TH 1 "_law_end" ["_law_number","_law_rooms"] fQ:=
 @cY P w K mg base TH "_law_end" (top 24) ["_law_number","_law_rooms"] ["_law_number","_law_rooms"] 0 lX D sG (fun f a A outer s H F E b=>by
  have nd:=sG.nd
  exact (Fl.aG (Fl.dA (Fl.cJ (fP rfl b.units) dR (aA (aP cF bP (aB (pv 0)) (aA aD))) (aA aD) (bX _)) (Fl.aN (Fl.bA (aS (a8 (a9 rfl) aO (aA (gB (eO (aL cX (aL cX bL))))) (aA (aP cF bP (aA (aP eS dH (aB (pv 0)) (aA aD))) (aA aD))))))) Fl.cE)
   (Fl.aN (Fl.bA (aS (aP cF bP (aA (aP eS dH (aB (pv 0)) (aA aD))) (aB (pv 1))))))))
theorem lT:FnScope ["_law_number","_law_rooms","_law_signs","_law_left","_law_cells","_law_k","_law_ends"] ["_law_number","_law_rooms","_law_signs"] (aE (top 25)):=by constructor<;>first|rfl|decide +kernel
theorem rY(T:Txt w K mg)(D:DefAt K mg "_law_digit_row" (top 25) ["_law_number","_law_rooms","_law_signs"]):aY P w K mg base TH 1 "_law_digit_row" ["_law_number","_law_rooms","_law_signs"] eB:=
 @cY P w K mg base TH "_law_digit_row" (top 25) ["_law_number","_law_rooms","_law_signs","_law_left","_law_cells","_law_k","_law_ends"] ["_law_number","_law_rooms","_law_signs"] 0 jM D lT (fun f a A outer s H F E c=>by
  have nd:=lT.nd
  exact (Fl.aG (Fl.aR (L2.aR (i:=3) nd rfl (Or.inl rfl) (aS (aP cF bP (aB (pv 0)) (aA (aP (cP rfl) bW (aB (pv 1)) (aA aD)))))))
   (Fl.aG (Fl.aR (L2.aR (i:=0) nd rfl (Or.inl rfl) (aS (aP eS dH (aB (pv 0)) (aA (aP (cP rfl) bW (aB (pv 1)) (aA aD)))))))
   (Fl.aG (iU (L2.aR (i:=4) nd rfl (Or.inl rfl) (eO bL)))
   (Fl.aG (Fl.dY (bZ 5) (L2.dY (f9 ⟨rfl,rfl⟩) rfl (l0 (jP rfl T.b_range (aK (aB (pv 2)) aT))) (bT (i:=5) nd rfl (Or.inl rfl))
   (Fl.aG (n9 rfl (L2.eR (iP BS CF CG iA (pv 4) (aK (eN (aL (aP cF bP (aA (aP eS dH (aB (pv 0)) (aA aD))) (aB (pv 1))) (aL (aP jS gJ (aA aD) (aA (aP iS fO (aA (aP cF bP (aB (pv 0)) (aA aD))) (aA aD)))) bL))) aT))))
   (Fl.aN (Fl.aR (L2.aR (i:=0) nd rfl (Or.inl rfl) (aS (aP eS dH (aB (pv 0)) (aA (aP iS fO (aA aD) (aB (pv 1))))))))))))
   (Fl.aG (iU (L2.aR (i:=6) nd rfl (Or.inl rfl) (eO (aL (cM (pv 3)) (aL (aP cF bP (aB (pv 0)) (aA (aP (cP rfl) bW (aB (pv 1)) (aA aD)))) bL)))))
   (Fl.aG (aKR (L2.tN (i:=6) nd rfl (Or.inl rfl) (by rfl) (N:=["_law_end_here","_law_rooms"]) (js:=[none,some 1]) rfl (.own (.cap rfl (.inl rfl) (.inl rfl) .nil)) (by rfl) (zB rfl (aB (pv 6)))) (by decide) (by decide) (is:=[0]) (fun cl C e b d=>⟨_,(bT (i:=0) (show (["_law_end_here","_law_rooms"]:List Str).Nodup by decide +kernel) rfl (Or.inl rfl)),(bZ 0),Fl.jQ,(aOW (Fl.cJ aM3 aHP (aB (pv 0)) (aB (pv 1)) (bX _)) (a8 (a9 rfl) aO (aA (gB (eO (aL cX (aL cX bL))))) (aA (aP jS gJ (aB (pv 0)) (aB (pv 1))))) (cM (pv 0)))⟩))
   (Fl.aN (Fl.bA (aS (eN (aL (a8 (a9 rfl) aO (aB (pv 6)) (aA aD)) (aL (kN rfl (fN fK rfl T.b_tuple B8 (aK (aB (pv 4)) aT))) (aL (a8 (a9 rfl) aO (aB (pv 6)) (aA aD)) bL))))))))))))))
theorem lU:FnScope ["_law_number","_law_rooms","_law_signs","_law_pieces","_law_k","_law_cells"] ["_law_number","_law_rooms","_law_signs"] (aE (top 26)):=by constructor<;>first|rfl|decide +kernel
theorem rZ(T:Txt w K mg)(D:DefAt K mg "_law_mixed_row" (top 26) ["_law_number","_law_rooms","_law_signs"])(a:aY P w K mg base TH 1 "_law_end" ["_law_number","_law_rooms"] fQ):aY P w K mg base TH 2 "_law_mixed_row" ["_law_number","_law_rooms","_law_signs"] dF:=
 @cY P w K mg base TH "_law_mixed_row" (top 26) ["_law_number","_law_rooms","_law_signs","_law_pieces","_law_k","_law_cells"] ["_law_number","_law_rooms","_law_signs"] 1 jN D lU (fun f c A outer s H F E b=>by
  have nd:=lU.nd
  exact (Fl.aG (iU (L2.aR (i:=3) nd rfl (Or.inl rfl) (eO bL)))
   (Fl.aG (Fl.dY (bZ 4) (L2.dY (f9 ⟨rfl,rfl⟩) rfl (l0 (jP rfl T.b_range (aK (aA (aP (cP rfl) bW (aB (pv 2)) (aA aD))) aT))) (bT (i:=4) nd rfl (Or.inl rfl))
   (Fl.aG (Fl.aR (L2.aR (i:=0) nd rfl (Or.inl rfl) (aS (aP cF bP (aA (aP (cP rfl) bW (aA (aP iS fO (aB (pv 0)) (aA aD))) (aA aD))) (aA aD)))))
   (Fl.aN (n9 rfl (L2.eR (iP BS CF CG iA (pv 3) (aK (aP eS dH (aB (pv 0)) (aA aD)) aT))))))))
   (Fl.aG (Fl.aR (L2.aR (i:=5) nd rfl (Or.inl rfl) (aS (kN rfl (fN fK rfl T.b_tuple B8 (aK (aA (gB (oA (nY (N:=["_law_piece","_law_rooms"]) (js:=[none,some 1]) rfl (.own (.cap rfl (.inl rfl) (.inl rfl) .nil)) (by rfl) (zB rfl (aA (oZ rfl (aB (pv 3)) (lB (aA aD)) rG)))) (by decide) (by decide) (is:=[0]) (fun cl C g d e=>⟨_,(bT (i:=0) (show (["_law_piece","_law_rooms"]:List Str).Nodup by decide +kernel) rfl (Or.inl rfl)),(bZ 0),Fl.jQ,(eN (aL (aP cF bP (aB (pv 0)) (aB (pv 1))) (aL (aP jS gJ (aA aD) (aA (aP iS fO (aA (aP eS dH (aA (aP cF bP (aA (aP eS dH (aB (pv 0)) (aA aD))) (aA aD))) (aA aD))) (aA aD)))) bL)))⟩)))) aT))))))
   (Fl.aN (Fl.bA (aS (eN (aL (cT (bV rfl rfl rfl (bU a (b.mono (by decide)) rfl (bQ fun _ _ _ h=>h) (aH (aS (a8 (a9 rfl) aO (aB (pv 3)) (aA aD))) (aH (aV (pv 1)) bC))))) (aL (cM (pv 5)) (aL (cT (bV rfl rfl rfl (bU a (b.mono (by decide)) rfl (bQ fun _ _ _ h=>h) (aH (aS (a8 (a9 rfl) aO (aB (pv 3)) (aA aD))) (aH (aV (pv 1)) bC))))) bL)))))))))))
end
section
variable{P:P9}{w:W9}{K:Frag}{mg:Str->O6 V9}{base:Hz}{TH:Hp}
theorem nJ:FnScope ["_law_script","_law_at","_law_rooms","_law_signs","_law_rows","_law_room","_law_row"] ["_law_script","_law_at","_law_rooms","_law_signs"] (aE (top 27)):=by constructor<;>first|rfl|decide +kernel
theorem uG(T:Txt w K mg)(D:DefAt K mg "_law_machine" (top 27) ["_law_script","_law_at","_law_rooms","_law_signs"])(c:aY P w K mg base TH 1 "_law_digit_row" ["_law_number","_law_rooms","_law_signs"] eB)(b:aY P w K mg base TH 2 "_law_mixed_row" ["_law_number","_law_rooms","_law_signs"] dF)(a:aY P w K mg base TH 1 "_law_cell" ["_law_script","_law_k"] bH):aY P w K mg base TH 3 "_law_machine" ["_law_script","_law_at","_law_rooms","_law_signs"] gH:=
 @cY P w K mg base TH "_law_machine" (top 27) ["_law_script","_law_at","_law_rooms","_law_signs","_law_rows","_law_room","_law_row"] ["_law_script","_law_at","_law_rooms","_law_signs"] 2 kW D nJ (fun f e A outer s H F E d=>by
  have nd:=nJ.nd
  exact (Fl.aG (iU (L2.aR (i:=4) nd rfl (Or.inl rfl) (eO bL)))
   (Fl.aG (Fl.dY (bZ 5) (L2.dY (f9 ⟨rfl,rfl⟩) rfl (l0 (jP rfl T.b_range (aK (aB (pv 2)) aT))) (bT (i:=5) nd rfl (Or.inl rfl))
   (Fl.aN (Fl.dA (PW.pt (Fl.nW (Fl.cJ tW oW (aA (aP (cP rfl) bW (aB (pv 1)) (aB (pv 5)))) (aA (eP rfl (bN c8 rfl T.b_len BQ (aK (aB (pv 0)) aT)))) (bX _)) (Fl.nV (Fl.cJ (fP rfl d.units) dR (aA (aP cF bP (aA (a8 (a9 rfl) aO (aB (pv 0)) (aA aD))) (aA aD))) (aA aD) (bX _))))) (Fl.aN (n9 rfl (L2.eR (iP BS CF CG iA (pv 4) (aK (cT (bV rfl rfl rfl (bU c (d.mono (by decide)) rfl (bQ fun _ _ _ h=>h) (aH (aS (a8 (a9 rfl) aO (aB (pv 0)) (aA (aP (cP rfl) bW (aB (pv 1)) (aB (pv 5)))))) (aH (aV (pv 2)) (aH (aV (pv 3)) bC)))))) aT))))) (Fl.aG (Fl.aR (L2.aR (i:=6) nd rfl (Or.inl rfl) (bV rfl rfl rfl (bU b (d.mono (by decide)) rfl (bQ fun _ _ _ h=>h) (aH (aS (aP cF bP (aA (cT (bV rfl rfl rfl (bU a (d.mono (by decide)) rfl (bQ fun _ _ _ h=>h) (aH (aV (pv 0)) (aH (aS (aP (cP rfl) bW (aB (pv 1)) (aB (pv 5)))) bC)))))) (aA aD))) (aH (aV (pv 2)) (aH (aV (pv 3)) bC)))))))
   (Fl.aG (Fl.dA (PW.pt (Fl.nW (Fl.cJ (fP rfl d.units) dR (aB (pv 5)) (aA aD) (bX _)) (Fl.nW (Fl.fM (mK (bN (jH rfl (aBV _)) rfl T.b_isinstance BH (aK (aA (a8 (a9 rfl) aO (aB (pv 6)) (aA aD))) (aK (kE (v:=.ty "str") rfl T.b_str G7 rfl) aT))))) (Fl.nV (Fl.cJ n6 kL (aA (aP cF bP (aA (aP eS dH (aA (cT (bV rfl rfl rfl (bU a (d.mono (by decide)) rfl (bQ fun _ _ _ h=>h) (aH (aV (pv 0)) (aH (aV (pv 1)) bC)))))) (aA aD))) (aA aD))) (aA aD) (bX _)))))) (Fl.aN (Fl.aR (L2.aR (i:=6) nd rfl (Or.inl rfl) (aS (aP (cP rfl) bW (aA (eN (aL (aP cF bP (aA (aP eS dH (aA (cT (bV rfl rfl rfl (bU a (d.mono (by decide)) rfl (bQ fun _ _ _ h=>h) (aH (aV (pv 0)) (aH (aV (pv 1)) bC)))))) (aA aD))) (aB (pv 2))) bL))) (aA (oZ rfl (aB (pv 6)) (lB (aA aD)) rG))))))) Fl.cE)
   (Fl.aN (n9 rfl (L2.eR (iP BS CF CG iA (pv 4) (aK (cM (pv 6)) aT)))))))))))
   (Fl.aN (Fl.bA (aS (kN rfl (fN fK rfl T.b_tuple B8 (aK (aB (pv 4)) aT)))))))))
theorem pL:FnScope ["_law_script","_law_at","_law_size","_law_signs","_law_number","_law_strip_here","_law_k"] ["_law_script","_law_at","_law_size","_law_signs"] (aE (top 28)):=by constructor<;>first|rfl|decide +kernel
theorem xE(T:Txt w K mg)(D:DefAt K mg "_law_strip" (top 28) ["_law_script","_law_at","_law_size","_law_signs"])(a:aY P w K mg base TH 1 "_law_cell" ["_law_script","_law_k"] bH):aY P w K mg base TH 2 "_law_strip" ["_law_script","_law_at","_law_size","_law_signs"] fA:=
 @cY P w K mg base TH "_law_strip" (top 28) ["_law_script","_law_at","_law_size","_law_signs","_law_number","_law_strip_here","_law_k"] ["_law_script","_law_at","_law_size","_law_signs"] 1 iJ D pL (fun f c A outer s H F E b=>by
  have nd:=pL.nd
  exact (Fl.aG (Fl.dA (PW.pt (Fl.nW (Fl.cJ tW oW (aB (pv 1)) (aA (eP rfl (bN c8 rfl T.b_len BQ (aK (aB (pv 0)) aT)))) (bX _)) (Fl.nV (Fl.cJ (fP rfl b.units) dR (aA (aP cF bP (aA (a8 (a9 rfl) aO (aB (pv 0)) (aA aD))) (aA aD))) (aA aD) (bX _))))) (Fl.aG (Fl.aR (L2.aR (i:=4) nd rfl (Or.inl rfl) (aS (a8 (a9 rfl) aO (aB (pv 0)) (aB (pv 1))))))
   (Fl.aG (Fl.aR (L2.aR (i:=5) nd rfl (Or.inl rfl) (aS cX)))
   (Fl.aG (Fl.dY (bZ 6) (L2.dY (f9 ⟨rfl,rfl⟩) rfl (l0 (jP rfl T.b_range (aK (aB (pv 2)) aT))) (bT (i:=6) nd rfl (Or.inl rfl))
   (Fl.aG (Fl.aR (L2.aR (i:=5) nd rfl (Or.inl rfl) (aS (aP (cP rfl) bW (aB (pv 5)) (aA (a8 (a9 rfl) aO (aA cX) (aA (aP cF bP (aB (pv 4)) (aB (pv 3))))))))))
   (Fl.aN (Fl.aR (L2.aR (i:=4) nd rfl (Or.inl rfl) (aS (aP eS dH (aB (pv 4)) (aB (pv 3))))))))))
   (Fl.aN (Fl.bA (aV (pv 5))))))) Fl.cE)
   (Fl.aN (Fl.bA (aS (aKU rfl (iP EY PySem.F.slot_str_join PySem.F.type_str_join aJ9 (aA cX) (aK (aA (gB (oA (nY (N:=["_law_k","_law_script","_law_at","_law_signs"]) (js:=[none,some 0,some 1,some 3]) rfl (.own (.cap rfl (.inl rfl) (.inl rfl) (.cap rfl (.inl rfl) (.inl rfl) (.cap rfl (.inl rfl) (.inl rfl) .nil)))) (by rfl) (aI9 (l0 (jP rfl T.b_range (aK (aB (pv 2)) aT))))) (by decide) (by decide) (is:=[0]) (fun cl C g d e=>⟨_,(bT (i:=0) (show (["_law_k","_law_script","_law_at","_law_signs"]:List Str).Nodup by decide +kernel) rfl (Or.inl rfl)),(bZ 0),Fl.jQ,(a8 (a9 rfl) aO (aA cX) (aA (aP cF bP (aA (cT (bV rfl rfl rfl (bU a (b.mono (by decide)) rfl aOT (aH (aV (pv 1)) (aH (aS (aP (cP rfl) bW (aB (pv 2)) (aB (pv 0)))) bC)))))) (aB (pv 3)))))⟩)))) aT)) (by intro ρ x h;cases h;exact ⟨_,rfl⟩)))))))
theorem qU:FnScope ["_law_machine_here","_law_strip_here","_law_stand","_law_place","_law_room","_law_left","_law_cells","_law_right","_law_there","_law_step_here"] ["_law_machine_here","_law_strip_here","_law_stand"] (aE (top 29)):=by constructor<;>first|rfl|decide +kernel
theorem aAT(T:Txt w K mg)(D:DefAt K mg "_law_step" (top 29) ["_law_machine_here","_law_strip_here","_law_stand"]):aY P w K mg base TH 1 "_law_step" ["_law_machine_here","_law_strip_here","_law_stand"] fX:=
 @cY P w K mg base TH "_law_step" (top 29) ["_law_machine_here","_law_strip_here","_law_stand","_law_place","_law_room","_law_left","_law_cells","_law_right","_law_there","_law_step_here"] ["_law_machine_here","_law_strip_here","_law_stand"] 0 nS D qU (fun f a A outer s H F E b=>by
  have nd:=qU.nd
  exact (Fl.aG (p9 (mI rfl (dE (bZ 3) (dE (bZ 4) kO)) rfl) (lJ (cM (pv 2)) (l8 rfl (dD (bT (i:=3) nd rfl (Or.inl rfl)) (dD (bT (i:=4) nd rfl (Or.inl rfl)) kF)))))
   (Fl.aG (p9 (mI rfl (dE (bZ 5) (dE (bZ 6) (dE (bZ 7) kO))) rfl) (lJ (a8 (a9 rfl) aO (aB (pv 0)) (aB (pv 4))) (l8 rfl (dD (bT (i:=5) nd rfl (Or.inl rfl)) (dD (bT (i:=6) nd rfl (Or.inl rfl)) (dD (bT (i:=7) nd rfl (Or.inl rfl)) kF))))))
   (Fl.aG (Fl.dA (PW.pt (Fl.j2 (Fl.cJ (fP rfl b.units) dR (aB (pv 3)) (aA aD) (bX _)) (Fl.j1 (Fl.cJ n6 kL (aB (pv 3)) (aA (eP rfl (bN c8 rfl T.b_len BQ (aK (aB (pv 1)) aT)))) (bX _))))) (Fl.aG (Fl.aR (L2.aR (i:=8) nd rfl (Or.inl rfl) (aS (a8 (a9 rfl) aO (aA (gB (eO (aL (cM (pv 5)) (aL (cM (pv 7)) bL))))) (aA (vK (fN pQ rfl T.b_int EA (aK (aA (lM n6 kL (aB (pv 3)) (aA aD) (bX _))) aT))))))))
   (Fl.aG (Fl.dA (Fl.fM (mK (bN (jH rfl (aBV _)) rfl T.b_isinstance BH (aK (aB (pv 8)) (aK (kE (v:=.ty "str") rfl T.b_str G7 rfl) aT))))) (Fl.aN (Fl.bA (aS y8))) Fl.cE)
   (Fl.aN (Fl.bA (aS (eN (aL (a8 (a9 rfl) aO (aA (gB (eO (aL aD (aL (eP rfl (bN c8 rfl T.b_len BQ (aK (aB (pv 1)) aT))) bL))))) (aA (vK (fN pQ rfl T.b_int EA (aK (aA (lM n6 kL (aB (pv 3)) (aA aD) (bX _))) aT))))) (aL (cM (pv 8)) bL)))))))) Fl.cE)
   (Fl.aG (p9 (mI rfl (dE (bZ 8) (dE (bZ 9) kO)) rfl) (lJ (a8 (a9 rfl) aO (aB (pv 6)) (aA (zG (iP EY GZ G0 yI (aA cX) (aK (aA (a8 (a9 rfl) aO (aB (pv 1)) (aA (aP jS gJ (aB (pv 3)) (aA aD))))) aT)) (by intro ρ x h;cases h;exact ⟨_,rfl⟩)))) (l8 rfl (dD (bT (i:=8) nd rfl (Or.inl rfl)) (dD (bT (i:=9) nd rfl (Or.inl rfl)) kF)))))
   (Fl.aN (Fl.bA (aS (eN (aL (aP (cP rfl) bW (aB (pv 3)) (aB (pv 9))) (aL (cM (pv 8)) bL)))))))))))
theorem oN:FnScope ["_law_machine_here","_law_strip_here","_law_stands_here","_law_met","_law_after"] ["_law_machine_here","_law_strip_here"] (aE (top 30)):=by constructor<;>first|rfl|decide +kernel
theorem vY(T:Txt w K mg)(D:DefAt K mg "_law_stands" (top 30) ["_law_machine_here","_law_strip_here"])(a:aY P w K mg base TH 1 "_law_step" ["_law_machine_here","_law_strip_here","_law_stand"] fX):aY P w K mg base TH 2 "_law_stands" ["_law_machine_here","_law_strip_here"] dX:=
 @cY P w K mg base TH "_law_stands" (top 30) ["_law_machine_here","_law_strip_here","_law_stands_here","_law_met","_law_after"] ["_law_machine_here","_law_strip_here"] 1 lS D oN (fun f c A outer s H F E b=>by
  have nd:=oN.nd
  exact (Fl.aG (iU (L2.aR (i:=2) nd rfl (Or.inl rfl) (eO (aL (eN (aL aD (aL aD bL))) bL))))
   (Fl.aG (aBZ rfl (L2.aR (i:=3) nd rfl (Or.inl rfl) aBY))
   (Fl.aG (Fl.l9 (L2.l9 (f9 ⟨rfl,rfl⟩) (aFT rfl rfl (uV (zJ b.units) (a8 (a9 rfl) aO (aB (pv 2)) (aA (m9 jT gK (aA aD)))) (pv 3) (by with_unfolding_all rfl)))
   (Fl.aG (Fl.aB0 rfl rfl (lJ hJ (x4 (pv 3) (a8 (a9 rfl) aO (aB (pv 2)) (aA (m9 jT gK (aA aD)))) (zK b.units))))
   (Fl.aG (Fl.aR (L2.aR (i:=4) nd rfl (Or.inl rfl) (bV rfl rfl rfl (bU a (b.mono (by decide)) rfl (bQ fun _ _ _ h=>h) (aH (aV (pv 0)) (aH (aV (pv 1)) (aH (aS (a8 (a9 rfl) aO (aB (pv 2)) (aA (m9 jT gK (aA aD))))) bC)))))))
   (Fl.aG (Fl.dA (Fl.cJ aM4 aHQ (aB (pv 4)) (aA y8) (bX _)) (Fl.aN (xV 2 (Fl.bA (aV (pv 2))))) Fl.cE)
   (Fl.aN (n9 rfl (L2.eR (iP BS CF CG iA (pv 2) (aK (cM (pv 4)) aT))))))))))
   (Fl.aN (xV 2 (Fl.bA (aV (pv 2)))))))))
theorem qV:FnScope ["_law_machine_here","_law_strip_here","_law_place","_law_room"] ["_law_machine_here","_law_strip_here"] (aE (top 31)):=by constructor<;>first|rfl|decide +kernel
theorem aAU(T:Txt w K mg)(D:DefAt K mg "_law_says" (top 31) ["_law_machine_here","_law_strip_here"])(a:aY P w K mg base TH 2 "_law_stands" ["_law_machine_here","_law_strip_here"] dX)(b:aY P w K mg base TH 1 "_law_step" ["_law_machine_here","_law_strip_here","_law_stand"] fX):aY P w K mg base TH 3 "_law_says" ["_law_machine_here","_law_strip_here"] fY:=
 @cY P w K mg base TH "_law_says" (top 31) ["_law_machine_here","_law_strip_here","_law_place","_law_room"] ["_law_machine_here","_law_strip_here"] 2 nU D qV (fun f d A outer s H F E c=>by
  have nd:=qV.nd
  exact (Fl.aG (p9 (mI rfl (dE (bZ 2) (dE (bZ 3) kO)) rfl) (lJ (a8 (a9 rfl) aO (aA (cT (bV rfl rfl rfl (bU a (c.mono (by decide)) rfl (bQ fun _ _ _ h=>h) (aH (aV (pv 0)) (aH (aV (pv 1)) bC)))))) (aA (m9 jT gK (aA aD)))) (l8 rfl (dD (bT (i:=2) nd rfl (Or.inl rfl)) (dD (bT (i:=3) nd rfl (Or.inl rfl)) kF)))))
   (Fl.aG (Fl.dA (Fl.cJ aHS aDK (aA (cT (bV rfl rfl rfl (bU b (c.mono (by decide)) rfl (bQ fun _ _ _ h=>h) (aH (aV (pv 0)) (aH (aV (pv 1)) (aH (aS (eN (aL (cM (pv 2)) (aL (cM (pv 3)) bL)))) bC))))))) (aA y8) (bX _)) (Fl.aN (Fl.bA (aS cX))) Fl.cE)
   (Fl.aN (Fl.bA (aS (a8 (a9 rfl) aO (aA (gB (eO (aL (a8 (a9 rfl) aO (aA (a8 (a9 rfl) aO (aB (pv 0)) (aB (pv 3)))) (aA aD)) (aL (a8 (a9 rfl) aO (aA (a8 (a9 rfl) aO (aB (pv 0)) (aB (pv 3)))) (aA aD)) bL))))) (aA (vK (fN pQ rfl T.b_int EA (aK (aA (lM n6 kL (aB (pv 2)) (aA aD) (bX _))) aT)))))))))))
end
section
variable{P:P9}{w:W9}{K:Frag}{mg:Str->O6 V9}{base:Hz}{TH:Hp}
theorem pM:FnScope ["_law_found"] ["_law_found"] (aE (top 32)):=by constructor<;>first|rfl|decide +kernel
theorem xF(T:Txt w K mg)(D:DefAt K mg "_law_whole" (top 32) ["_law_found"]):aY P w K mg base TH 1 "_law_whole" ["_law_found"] eF:=
 @cY P w K mg base TH "_law_whole" (top 32) ["_law_found"] ["_law_found"] 0 mP D pM (fun f a A outer s H F E b=>by
  have nd:=pM.nd
  exact (Fl.aN (Fl.bA (aS (tY (mK (bN (jH rfl (aKT _)) rfl T.b_isinstance BH (aK (aB (pv 0)) (aK (kE (v:=.ty "int") rfl T.b_int EA rfl) aT)))) (tX (aM6 (mK (bN (jH rfl (zF _)) rfl T.b_isinstance BH (aK (aB (pv 0)) (aK (kE (v:=.ty "bool") rfl T.b_bool G1 rfl) aT)))))))))))
theorem nK:FnScope ["_law_stands_here","_law_many","_law_borders_here","_law_k","_law_at"] ["_law_stands_here","_law_many"] (aE (top 33)):=by constructor<;>first|rfl|decide +kernel
theorem uH(T:Txt w K mg)(D:DefAt K mg "_law_borders" (top 33) ["_law_stands_here","_law_many"]):aY P w K mg base TH 1 "_law_borders" ["_law_stands_here","_law_many"] eU:=
 @cY P w K mg base TH "_law_borders" (top 33) ["_law_stands_here","_law_many","_law_borders_here","_law_k","_law_at"] ["_law_stands_here","_law_many"] 0 kZ D nK (fun f a A outer s H F E b=>by
  have nd:=nK.nd
  exact (Fl.aG (iU (L2.aR (i:=2) nd rfl (Or.inl rfl) (aLH (eO (aL (eN bL) bL)) (aB (pv 1)))))
   (Fl.aG (Fl.dY (bZ 3) (L2.dY (f9 ⟨rfl,rfl⟩) rfl (aKQ (aEM rfl T.b_range (aK (aA aD) (aK (aA (eP rfl (bN c8 rfl T.b_len BQ (aK (aB (pv 0)) aT)))) aT)))) (bT (i:=3) nd rfl (Or.inl rfl))
   (Fl.aG (Fl.aR (L2.aR (i:=4) nd rfl (Or.inl rfl) (aS (aFU (G:=fH) (bN (wC rfl) rfl T.b_min G6 (aK (aA (a8 (a9 rfl) aO (aA (a8 (a9 rfl) aO (aB (pv 0)) (aA (aP jS gJ (aB (pv 3)) (aA aD))))) (aA aD))) (aK (aA (a8 (a9 rfl) aO (aA (a8 (a9 rfl) aO (aB (pv 0)) (aB (pv 3)))) (aA aD))) aT)))))))
   (Fl.aN (aM9 (lJ (aP (aIG rfl) aD3 (aA (a8 (a9 rfl) aO (aB (pv 2)) (aB (pv 4)))) (aA (eN (aL (a8 (a9 rfl) aO (aA (a8 (a9 rfl) aO (aB (pv 0)) (aB (pv 3)))) (aA aD)) bL)))) (x4 (pv 2) (aB (pv 4)) aG5)))))))
   (Fl.aN (Fl.bA (aS (kN rfl (fN fK rfl T.b_tuple B8 (aK (aB (pv 2)) aT)))))))))
theorem pN:FnScope ["_law_script","_law_rooms","_law_signs","_law_size"] ["_law_script"] (aE (top 34)):=by constructor<;>first|rfl|decide +kernel
theorem xG(T:Txt w K mg)(D:DefAt K mg "_law_drawn" (top 34) ["_law_script"])(a:aY P w K mg base TH 1 "_law_cell" ["_law_script","_law_k"] bH)(c:aY P w K mg base TH 2 "_law_strip" ["_law_script","_law_at","_law_size","_law_signs"] fA)(b:aY P w K mg base TH 3 "_law_machine" ["_law_script","_law_at","_law_rooms","_law_signs"] gH):aY P w K mg base TH 4 "_law_drawn" ["_law_script"] iK:=
 @cY P w K mg base TH "_law_drawn" (top 34) ["_law_script","_law_rooms","_law_signs","_law_size"] ["_law_script"] 3 mQ D pN (fun f e A outer s H F E d=>by
  have nd:=pN.nd
  exact (Fl.aG (Fl.aR (L2.aR (i:=1) nd rfl (Or.inl rfl) (aS (aP (cP rfl) bW (aA aD) (aA (aP cF bP (aA (cT (bV rfl rfl rfl (bU a (d.mono (by decide)) rfl (bQ fun _ _ _ h=>h) (aH (aV (pv 0)) (aH (aS aD) bC)))))) (aA aD)))))))
   (Fl.aG (Fl.aR (L2.aR (i:=2) nd rfl (Or.inl rfl) (aS (aP (cP rfl) bW (aA aD) (aA (aP cF bP (aA (cT (bV rfl rfl rfl (bU a (d.mono (by decide)) rfl (bQ fun _ _ _ h=>h) (aH (aV (pv 0)) (aH (aS aD) bC)))))) (aA aD)))))))
   (Fl.aG (Fl.aR (L2.aR (i:=3) nd rfl (Or.inl rfl) (aS (aP cF bP (aA (cT (bV rfl rfl rfl (bU a (d.mono (by decide)) rfl (bQ fun _ _ _ h=>h) (aH (aV (pv 0)) (aH (aS aD) bC)))))) (aA (a8 (a9 rfl) aO (aA (gB (eO (aL aD (aL aD (aL aD (aL aD bL))))))) (aA (aP cF bP (aA (aP eS dH (aA (cT (bV rfl rfl rfl (bU a (d.mono (by decide)) rfl (bQ fun _ _ _ h=>h) (aH (aV (pv 0)) (aH (aS aD) bC)))))) (aA aD))) (aA aD)))))))))
   (Fl.aN (Fl.bA (aS (eN (aL (cT (bV rfl rfl rfl (bU b (d.mono (by decide)) rfl (bQ fun _ _ _ h=>h) (aH (aV (pv 0)) (aH (aS aD) (aH (aV (pv 1)) (aH (aV (pv 2)) bC))))))) (aL (cT (bV rfl rfl rfl (bU c (d.mono (by decide)) rfl (bQ fun _ _ _ h=>h) (aH (aV (pv 0)) (aH (aS aD) (aH (aV (pv 3)) (aH (aV (pv 2)) bC))))))) bL))))))))))
theorem qW:FnScope ["_law_found","_law_kinds"] ["_law_found"] (aE (top 35)):=by constructor<;>first|rfl|decide +kernel
theorem aAV(T:Txt w K mg)(D:DefAt K mg "_law_kind" (top 35) ["_law_found"])(c:∃ D,mg "Ending"=some (.ref D)/\IsO K mg "Ending" [("LetBy",true),("ShutOut",true),("ForEver",true)])(b:∃ D,mg "ForEver"=some (.ref D)/\IsO K mg "ForEver" [("LetBy",false),("ShutOut",false),("ForEver",true)])(a:∃ D,mg "ShutOut"=some (.ref D)/\IsO K mg "ShutOut" [("LetBy",false),("ShutOut",true),("ForEver",false)])(d:∃ D,mg "LetBy"=some (.ref D)/\IsO K mg "LetBy" [("LetBy",true),("ShutOut",false),("ForEver",false)]):aY P w K mg base TH 1 "_law_kind" ["_law_found"] eJ:=
 @cY P w K mg base TH "_law_kind" (top 35) ["_law_found","_law_kinds"] ["_law_found"] 0 kB D qW (fun f g A outer s H F E e=>by
  have nd:=qW.nd
  exact (Fl.aG (Fl.dA (Fl.hZ (Fl.fM (uC rfl c.choose_spec.2 c.choose_spec.1 (bN pC rfl T.b_isinstance BH (aK (pv 0) (aK (f6 (v:=.ref c.choose) rfl c.choose_spec.1 rfl) aT)))))) (Fl.aN (Fl.bA (aS cX))) Fl.cE)
   (Fl.aG (iU (L2.aR (i:=1) nd rfl (Or.inl rfl) (eO (aL (uC rfl d.choose_spec.2 d.choose_spec.1 (bN pC rfl T.b_isinstance BH (aK (pv 0) (aK (f6 (v:=.ref d.choose) rfl d.choose_spec.1 rfl) aT)))) (aL (uC rfl a.choose_spec.2 a.choose_spec.1 (bN pC rfl T.b_isinstance BH (aK (pv 0) (aK (f6 (v:=.ref a.choose) rfl a.choose_spec.1 rfl) aT)))) (aL (uC rfl b.choose_spec.2 b.choose_spec.1 (bN pC rfl T.b_isinstance BH (aK (pv 0) (aK (f6 (v:=.ref b.choose) rfl b.choose_spec.1 rfl) aT)))) bL))))))
   (Fl.aG (Fl.dA (Fl.cJ (n8 rfl e.units) kM (aA (eP rfl (bN c8 rfl T.b_len BQ (aK (aA (gB (oA (nY (N:=["_law_kind_here"]) (js:=[none]) rfl (.own .nil) (by rfl) (zB rfl (aB (pv 1)))) (by decide) (by decide) (is:=[0]) (fun cl C k h j=>⟨_,(bT (i:=0) (show (["_law_kind_here"]:List Str).Nodup by decide +kernel) rfl (Or.inl rfl)),(bZ 0),(aJ3 (Fl.fM (cM (pv 0)))),(cM (pv 0))⟩)))) aT)))) (aA aD) (bX _)) (Fl.aN (Fl.bA (aS cX))) Fl.cE)
   (Fl.aN (Fl.bA (aS (a8 (a9 rfl) aO (aA (gB (eO (aL cX (aL cX (aL cX bL)))))) (aA (qP rfl (iP BS DU ET (qO e.units) (aB (pv 1)) (aK (aA hJ) aT))))))))))))
theorem kC:FnScope ["_law_borders_here","_law_border"] ["_law_borders_here"] (aE (top 36)):=by constructor<;>first|rfl|decide +kernel
theorem pD(T:Txt w K mg)(D:DefAt K mg "_law_crossed_once" (top 36) ["_law_borders_here"]):aY P w K mg base TH 1 "_law_crossed_once" ["_law_borders_here"] cQ:=
 @cY P w K mg base TH "_law_crossed_once" (top 36) ["_law_borders_here","_law_border"] ["_law_borders_here"] 0 fJ D kC (fun f a A outer s H F E b=>by
  have nd:=kC.nd
  exact (Fl.aG (Fl.dY (bZ 1) (L2.dY (f9 ⟨rfl,rfl⟩) rfl (aNA rfl (cM (pv 0))) (bT (i:=1) nd rfl (Or.inl rfl))
   (Fl.aN (Fl.dA (PW.pt (Fl.j2 (Fl.cJ tW oW (aA (aCG rfl (L2.aCF rfl rfl T.b_len rfl T.b_set (aK (aA (uB rfl (uA (aB (pv 1)) rG (lB (aA aD))))) aT)))) (aA (eP rfl (bN c8 rfl T.b_len BQ (aK (aA (uB rfl (uA (aB (pv 1)) rG (lB (aA aD))))) aT)))) (bX _)) (Fl.j1 (Fl.cJ tW oW (aA (aCG rfl (L2.aCF rfl rfl T.b_len rfl T.b_set (aK (aA (uB rfl (uA (aB (pv 1)) (lB (aA aD)) (lB (aA aD))))) aT)))) (aA (eP rfl (bN c8 rfl T.b_len BQ (aK (aA (uB rfl (uA (aB (pv 1)) (lB (aA aD)) (lB (aA aD))))) aT)))) (bX _))))) (Fl.aN (Fl.bA (aS hJ))) Fl.cE))))
   (Fl.aN (Fl.bA (aS hJ)))))
end
section
variable{P:P9}{w:W9}{K:Frag}{mg:Str->O6 V9}{base:Hz}{TH:Hp}
theorem qX:FnScope ["_law_found","_law_machine_here","_law_strip_here","_law_stands_here","_law_word"] ["_law_found","_law_machine_here","_law_strip_here"] (aE (top 37)):=by constructor<;>first|rfl|decide +kernel
theorem aAW(T:Txt w K mg)(D:DefAt K mg "_law_told" (top 37) ["_law_found","_law_machine_here","_law_strip_here"])(e:aY P w K mg base TH 2 "_law_stands" ["_law_machine_here","_law_strip_here"] dX)(o:aY P w K mg base TH 3 "_law_says" ["_law_machine_here","_law_strip_here"] fY)(g:aY P w K mg base TH 1 "_law_truth" ["_law_found","_law_due"] iL)(n:aY P w K mg base TH 1 "_law_kind" ["_law_found"] eJ)(a:aY P w K mg base TH 1 "_law_whole" ["_law_found"] eF)(c:aY P w K mg base TH 1 "_law_crossed_once" ["_law_borders_here"] cQ)(d:aY P w K mg base TH 1 "_law_borders" ["_law_stands_here","_law_many"] eU)(q:iY K mg ["LetBy","ShutOut","ForEver"] "room")(k:iY K mg ["LetBy","ShutOut","ForEver"] "place")(l:iY K mg ["ForEver"] "again")(m:iY K mg ["ForEver"] "first")(b:iY K mg ["LetBy","ShutOut"] "borders")(mt_stops:∀ p∈[(("LetBy":Str),gX),(("ShutOut":Str),fR),(("ForEver":Str),fS)],qN P w K mg base TH 1 p.1 "stops" p.2)(mt_says:∀ p∈[(("LetBy":Str),eG),(("ShutOut":Str),dL),(("ForEver":Str),dM)],qN P w K mg base TH 1 p.1 "says" p.2):aY P w K mg base TH 4 "_law_told" ["_law_found","_law_machine_here","_law_strip_here"] eK:=
 @cY P w K mg base TH "_law_told" (top 37) ["_law_found","_law_machine_here","_law_strip_here","_law_stands_here","_law_word"] ["_law_found","_law_machine_here","_law_strip_here"] 3 hV D qX (fun f r A outer s H F E j=>by
  have nd:=qX.nd
  exact (Fl.aG (Fl.aR (L2.aR (i:=3) nd rfl (Or.inl rfl) (bV rfl rfl rfl (bU e (j.mono (by decide)) rfl (bQ fun _ _ _ h=>h) (aH (aV (pv 1)) (aH (aV (pv 2)) bC))))))
   (Fl.aG (Fl.aR (L2.aR (i:=4) nd rfl (Or.inl rfl) (bV rfl rfl rfl (bU o (j.mono (by decide)) rfl (bQ fun _ _ _ h=>h) (aH (aV (pv 1)) (aH (aV (pv 2)) bC))))))
   (Fl.aG (Fl.dA (PW.pt (Fl.j2 (Fl.cJ (n8 rfl j.units) kM (aA (cT (bV rfl rfl rfl (bU n (j.mono (by decide)) rfl (bQ fun _ _ _ h=>h) (aH (vT (pv 0)) bC))))) (aB (pv 4)) (bX _)) (Fl.j2 (Fl.cJ (n8 rfl j.units) kM (aA (cT (aDZ rfl rfl rfl mt_says (j.mono (by decide)) (bQ fun _ _ _ h=>h) (vT (pv 0))))) (aB (pv 4)) (bX _)) (Fl.j1 (Fl.hZ (Fl.fM (cT (bV rfl rfl rfl (bU g (j.mono (by decide)) rfl (bQ fun _ _ _ h=>h) (aH (aDZ rfl rfl rfl mt_stops (j.mono (by decide)) (bQ fun _ _ _ h=>h) (vT (pv 0))) (aH (aS (lM (n8 rfl j.units) kM (aB (pv 4)) (aA cX) (bX _))) bC))))))))))) (Fl.aN (Fl.bA (aS hJ))) Fl.cE)
   (Fl.aG (Fl.dA (PW.pt (Fl.j2 (Fl.hZ (Fl.fM (cT (bV rfl rfl rfl (bU a (j.mono (by decide)) rfl (bQ fun _ _ _ h=>h) (aH (aS (gW rfl rfl k (gR (pv 0) rfl))) bC)))))) (Fl.j2 (Fl.hZ (Fl.fM (cT (bV rfl rfl rfl (bU a (j.mono (by decide)) rfl (bQ fun _ _ _ h=>h) (aH (aS (gW rfl rfl q (gR (pv 0) rfl))) bC)))))) (Fl.j1 (Fl.cJ (n8 rfl j.units) kM (aA (eN (aL (gW rfl rfl k (gR (pv 0) rfl)) (aL (gW rfl rfl q (gR (pv 0) rfl)) bL)))) (aA (a8 (a9 rfl) aO (aB (pv 3)) (aA (m9 jT gK (aA aD))))) (bX _)))))) (Fl.aN (Fl.bA (aS hJ))) Fl.cE)
   (Fl.aG (Fl.dA (Fl.cJ (fP rfl j.units) dR (aB (pv 4)) (aA cX) (bX _)) (Fl.aG (Fl.dA (PW.pt (Fl.j2 (Fl.hZ (Fl.fM (cT (bV rfl rfl rfl (bU a (j.mono (by decide)) rfl (bQ fun _ _ _ h=>h) (aH (aS (gW rfl rfl m (gR (pv 0) rfl))) bC)))))) (Fl.j1 (Fl.hZ (Fl.fM (cT (bV rfl rfl rfl (bU a (j.mono (by decide)) rfl (bQ fun _ _ _ h=>h) (aH (aS (gW rfl rfl l (gR (pv 0) rfl))) bC))))))))) (Fl.aN (Fl.bA (aS hJ))) Fl.cE)
   (Fl.aN (Fl.bA (aS (tY (lM (fP rfl j.units) dR (aA (gW rfl rfl m (gR (pv 0) rfl))) (aA (qP rfl (iP BS DU ET (qO j.units) (aB (pv 3)) (aK (aA (a8 (a9 rfl) aO (aB (pv 3)) (aA (m9 jT gK (aA aD))))) aT)))) (bX _)) (tX (lM (fP rfl j.units) dR (aA (gW rfl rfl l (gR (pv 0) rfl))) (aA (aP jS gJ (aA (eP rfl (bN c8 rfl T.b_len BQ (aK (aB (pv 3)) aT)))) (aA aD))) (bX _)))))))) Fl.cE)
   (Fl.aG (Fl.dA (PW.pt (Fl.j2 (Fl.hZ (Fl.fM (mK (bN (jH rfl (wT _)) rfl T.b_isinstance BH (aK (aA (gW rfl rfl b (gR (pv 0) rfl))) (aK (kE (v:=.ty "tuple") rfl T.b_tuple B8 rfl) aT)))))) (Fl.j1 (Fl.hZ (Fl.fM (aM8 rfl (bN (aE5 rfl) rfl T.b_all PyProof.Rows.boot_all (aK (aA (gB (oA (nY (N:=["_law_border"]) (js:=[none]) rfl (.own .nil) (by rfl) (zB rfl (aA (gW rfl rfl b (gR (pv 0) rfl))))) (by decide) (by decide) (is:=[0]) (fun cl C x t u=>⟨_,(bT (i:=0) (show (["_law_border"]:List Str).Nodup by decide +kernel) rfl (Or.inl rfl)),(bZ 0),Fl.jQ,(mK (bN (jH rfl (wT _)) rfl T.b_isinstance BH (aK (aB (pv 0)) (aK (kE (v:=.ty "tuple") rfl T.b_tuple B8 rfl) aT))))⟩)))) aT)))))))) (Fl.aN (Fl.bA (aS hJ))) Fl.cE)
   (Fl.aN (Fl.bA (aS (tY (lM (fP rfl j.units) dR (aA (gW rfl rfl b (gR (pv 0) rfl))) (aA (cT (bV rfl rfl rfl (bU d (j.mono (by decide)) rfl (bQ fun _ _ _ h=>h) (aH (aV (pv 3)) (aH (aS (aP (cP rfl) bW (aA (eP rfl (bN c8 rfl T.b_len BQ (aK (aB (pv 2)) aT)))) (aA aD))) bC)))))) (bX _)) (tX (cT (bV rfl rfl rfl (bU c (j.mono (by decide)) rfl (bQ fun _ _ _ h=>h) (aH (aS (gW rfl rfl b (gR (pv 0) rfl))) bC))))))))))))))))
theorem aGE:FnScope ["_law_script","_law_machine_here","_law_strip_here","_law_says_here","_law_one"] ["_law_script"] (aE (top 38)):=by constructor<;>first|rfl|decide +kernel
theorem aN2(T:Txt w K mg){j:Az}{g:FuncData}(l:Fun K "law" "law" (top 38) j g)(a:aY P w K mg base TH 4 "_law_drawn" ["_law_script"] iK)(d:aY P w K mg base TH 1 "sayer" ["machine"] rM)(b:aY P w K mg base TH 3 "_law_says" ["_law_machine_here","_law_strip_here"] fY)(c:aY P w K mg base TH 4 "_law_told" ["_law_found","_law_machine_here","_law_strip_here"] eK)(e:aY P w K mg base TH 6 "walk" ["machine","strip"] j9):FnOk P w K mg base (CXe P w) 13 j g ["_law_script"] (spF (gOf P w K mg base TH) K mg 1 aD8):=
 @aNF P w K mg base TH "law" (top 38) ["_law_script","_law_machine_here","_law_strip_here","_law_says_here","_law_one"] ["_law_script"] 12 j g aD7 l aGE (fun k A outer s H F E f=>by
  have nd:=aGE.nd
  exact (Fl.aG (p9 (mI rfl (dE (bZ 1) (dE (bZ 2) kO)) rfl) (lJ (cT (bV rfl rfl rfl (bU a (f.mono (by decide)) rfl (bQ fun _ _ _ h=>h) (aH (aV (pv 0)) bC)))) (l8 rfl (dD (bT (i:=1) nd rfl (Or.inl rfl)) (dD (bT (i:=2) nd rfl (Or.inl rfl)) kF)))))
   (Fl.aG (Fl.aR (L2.aR (i:=3) nd rfl (Or.inl rfl) (bV rfl rfl rfl (bU d (f.mono (by decide)) rfl (bQ fun _ _ _ h=>h) (aH (aV (pv 1)) bC)))))
   (Fl.aG (Fl.dY (bZ 4) (L2.dY (f9 ⟨rfl,rfl⟩) rfl (aNA rfl (gB (eO (aL (cM (pv 2)) (aL cX (aL (cM (pv 2)) bL)))))) (bT (i:=4) nd rfl (Or.inl rfl))
   (Fl.aN (Fl.dA (PW.pt (Fl.j2 (Fl.hZ (Fl.fM (cT (bV rfl rfl rfl (bU c (f.mono (by decide)) rfl (bQ fun _ _ _ h=>h) (aH (bV rfl rfl rfl (bU e (f.mono (by decide)) rfl (bQ fun _ _ _ h=>h) (aH (aV (pv 1)) (aH (aV (pv 4)) bC)))) (aH (aV (pv 1)) (aH (aV (pv 4)) bC)))))))) (Fl.j1 (Fl.cJ (n8 rfl f.units) kM (aA (aNI (m:=12) rfl rfl rfl (f.mono (by decide)) (aH0 (pv 3) (bQ fun _ _ _ h=>h) (aL (cM (pv 4)) bL)))) (aA (cT (bV rfl rfl rfl (bU b (f.mono (by decide)) rfl (bQ fun _ _ _ h=>h) (aH (aV (pv 1)) (aH (aV (pv 4)) bC)))))) (bX _))))) (Fl.aN (Fl.bA (aS hJ))) Fl.cE))))
   (Fl.aN (Fl.bA (aS hJ)))))))
end
end Mc
namespace Fl
open PySem L2 PyProof.Rows
@[simp] theorem aQE(i:Nat)(f g:Sg->R Dz)(ρ:Sg):aO4 i f g ρ=match ρ[i]? with
 | some (some (.m kvs))=>(f ρ).bind fun k=>(g ρ).bind fun y=>if eD k (kvs.map (·.1))=true/\kvs.length<=16777216 then .ok (.nx (if fG kvs k=true then ρ else ρ.set i (some (.m (putM kvs k y))))) else .bad
 | _=>.bad:=id rfl
@[simp] theorem aQU(i:Nat)(ρ:Sg):aP6 i ρ=match ρ[i]? with
 | some (some (.l xs))=>.ok (.nx (ρ.set i (some (.l xs.reverse))))
 | _=>.bad:=id rfl
end Fl
namespace Mc
open PySem L2 PyProof.Rows Fl
mutual
def nbD:Dz->Bool
 | .bool _=>false
 | .dict _=>false
 | .list xs=>pE xs
 | .tuple xs=>pE xs
 | _=>true
def pE:List Dz->Bool
 | []=>true
 | x::t=>nbD x && pE t
end
theorem vZ:∀ {xs:List Dz},(∀ x∈xs,nbD x=true)->pE xs=true
 | [],_=>rfl
 | x::t,h=>by
  show (nbD x && pE t)=true
  rw[h x AX,vZ fun y a=>h y (AN _ a)];rfl
mutual
theorem uI:∀ d:Dz,d.canLay0=true->d.eqv d=true
 | .none,_=>by rfl
 | .bool b,_=>by simp[PyData.eqv]
 | .int i,_=>by simp[PyData.eqv]
 | .str x,_=>by simp[PyData.eqv]
 | .list xs,h=>by
  show PyData.eqvAll xs xs=true
  exact v3 xs h
 | .tuple xs,h=>by
  show PyData.eqvAll xs xs=true
  exact v3 xs h
 | .dict _,h=>by cases h
theorem v3:∀ xs:List Dz,PyData.canLayAll0 xs=true->PyData.eqvAll xs xs=true
 | [],_=>by rfl
 | x::t,h=>by
  have h':(x.canLay0 && PyData.canLayAll0 t)=true:=h
  rw[A3] at h'
  show (x.eqv x && PyData.eqvAll t t)=true
  rw[uI x h'.1,v3 t h'.2];rfl
end
mutual
theorem aGF:∀ x y:Dz,nbD x=true->nbD y=true->x.eqv y=true->x=y
 | .none,.none,_,_,_=>rfl
 | .int i,.int j,_,_,h=>by simp[PyData.eqv] at h;rw[h]
 | .str i,.str j,_,_,h=>by simp[PyData.eqv] at h;rw[h]
 | .list xs,.list ys,h1,h2,h=>by rw[v4 xs ys h1 h2 h]
 | .tuple xs,.tuple ys,h1,h2,h=>by rw[v4 xs ys h1 h2 h]
 | .bool _,_,h,_,_=>by cases h
 | .dict _,_,h,_,_=>by cases h
 | _,.bool _,_,h,_=>by cases h
 | _,.dict _,_,h,_=>by cases h
 | .none,.int _,_,_,h=>by simp[PyData.eqv] at h
 | .none,.str _,_,_,h=>by simp[PyData.eqv] at h
 | .none,.list _,_,_,h=>by simp[PyData.eqv] at h
 | .none,.tuple _,_,_,h=>by simp[PyData.eqv] at h
 | .int _,.none,_,_,h=>by simp[PyData.eqv] at h
 | .int _,.str _,_,_,h=>by simp[PyData.eqv] at h
 | .int _,.list _,_,_,h=>by simp[PyData.eqv] at h
 | .int _,.tuple _,_,_,h=>by simp[PyData.eqv] at h
 | .str _,.none,_,_,h=>by simp[PyData.eqv] at h
 | .str _,.int _,_,_,h=>by simp[PyData.eqv] at h
 | .str _,.list _,_,_,h=>by simp[PyData.eqv] at h
 | .str _,.tuple _,_,_,h=>by simp[PyData.eqv] at h
 | .list _,.none,_,_,h=>by simp[PyData.eqv] at h
 | .list _,.int _,_,_,h=>by simp[PyData.eqv] at h
 | .list _,.str _,_,_,h=>by simp[PyData.eqv] at h
 | .list _,.tuple _,_,_,h=>by simp[PyData.eqv] at h
 | .tuple _,.none,_,_,h=>by simp[PyData.eqv] at h
 | .tuple _,.int _,_,_,h=>by simp[PyData.eqv] at h
 | .tuple _,.str _,_,_,h=>by simp[PyData.eqv] at h
 | .tuple _,.list _,_,_,h=>by simp[PyData.eqv] at h
theorem v4:∀ xs ys:List Dz,pE xs=true->pE ys=true->PyData.eqvAll xs ys=true->xs=ys
 | [],[],_,_,_=>rfl
 | [],_::_,_,_,h=>by simp[PyData.eqvAll] at h
 | _::_,[],_,_,h=>by simp[PyData.eqvAll] at h
 | x::xs,y::ys,h1,h2,h=>by
  have h1':(nbD x && pE xs)=true:=h1
  have a:(nbD y && pE ys)=true:=h2
  have h':(x.eqv y && PyData.eqvAll xs ys)=true:=h
  rw[A3] at h1' a h'
  rw[aGF x y h1'.1 a.1 h'.1,v4 xs ys h1'.2 a.2 h'.2]
end
theorem aAX{d:Dz}(h:SeqAt.shaped d=true):d.canLay0=true:=by
 have h':(d.canLay0 && decide (d.depth<=64))=true:=h
 rw[A3] at h'
 exact h'.1
theorem aGG{x y:Dz}(hx:nbD x=true)(a:nbD y=true)(l:SeqAt.shaped x=true):x.eqv y=decide (x=y):=by
 by_cases h:x=y
 .subst h;rw[uI x (aAX l),BM rfl]
 .rw[BB h]
  cases q:x.eqv y with
  | false=>rfl
  | true=>exact absurd (aGF x y hx a q) h
structure Cp(d:Dz):Prop where
 nb:nbD d=true
 sh:SeqAt.shaped d=true
theorem aN3{x y:Dz}(hx:Cp x)(a:Cp y):dNe x y=.ok (.bool (!decide (x=y))):=by rw[aAA hx.sh a.sh,aGG hx.nb a.nb hx.sh]
theorem uJ{x:Dz}(h:SeqAt.shaped x=true):dEq x x=.ok (.bool true):=by rw[qI h h,uI x (aAX h)]
theorem aGH{x:Dz}(h:SeqAt.shaped x=true):dNe x x=.ok (.bool false):=by rw[aAA h h,uI x (aAX h)];rfl
end Mc
namespace Fl
open PySem L2 PyProof.Rows
@[simp] theorem aJK(i:Nat)(ρ:Sg):vO i ρ=match ρ[i]? with|some (some (.o e))=>.ok (.o e)|_=>.bad:=id rfl
@[simp] theorem v5(cn:Str)(fs:List Str)(f:Sg->R (List Dz))(ρ:Sg):vU cn fs f ρ=(f ρ).bind fun xs=>if xs.length=fs.length then .ok (.o ⟨cn,fs.zip xs⟩) else .bad:=id rfl
@[simp] theorem aGI(f:Sg->R A)(m:Str)(tb:List (Str×(List A->R A)))(ρ:Sg):vMt f m tb ρ=(f ρ).bind fun a=>match a with
 | .o e=>if (e.fs.lookup m).isNone=true then (match tb.lookup e.c with|some G=>G [.o e]|none=>.bad) else .bad
 | _=>.bad:=id rfl
@[simp] theorem aGJ(i:Nat)(a:List Str)(g:Str)(ρ:Sg):eOF i a g ρ=match ρ[i]? with
 | some (some (.o e))=>if a.contains e.c=true then (match e.fs.lookup g with|some d=>.ok d|none=>.bad) else .bad
 | _=>.bad:=id rfl
@[simp] theorem v6(f g:Sg->R Dz)(ρ:Sg):aAI f g ρ=(f ρ).bind fun x=>if isL x=true then (g ρ).bind fun y=>mT x y else .bad:=id rfl
@[simp] theorem aEB(xs:List Dz):isL (.list xs)=true:=id rfl
@[simp] theorem aQV(g g' a:Dz->Dz->R Dz)(b fb c fd:Sg->R Dz)(ρ:Sg):aQC g g' a b fb c fd ρ=(b ρ).bind fun x=>(fb ρ).bind fun y=>(g x y).bind fun z=>(asB z).bind fun k=>if k=true then (c ρ).bind fun w=>(g' y w).bind fun z=>(asB z).bind fun k=>if k=true then (fd ρ).bind fun u=>a w u else .ok (.bool false) else .ok (.bool false):=id rfl
@[simp] theorem aQF(a b:Bool):aNY (.bool a) (.bool b)=.ok (.bool (a != b)):=id rfl
@[simp] theorem aRE(a b:Bool):aQD (.bool a) (.bool b)=.ok (.bool (a == b)):=id rfl
@[simp] theorem aIJ(f:Sg->R (List Dz))(g:Sg->R Dz)(ρ:Sg):aD2 f g ρ=(f ρ).bind fun xs=>(g ρ).bind fun y=>t9 xs y:=id rfl
@[simp] theorem aIK(i:Nat)(b a:Sg->R (List Dz))(fs:Dz->Sg->O6 Sg)(c fe:Sg->R Dz)(ρ:Sg):aD0 i b a fs c fe ρ=(b ρ).bind fun xs=>if i < ρ.length/\jD (ρ.set i none)=true then (a (ρ.set i none)).bind fun ys=>(nE fs c fe ys (List.replicate xs.length []) (ρ.set i none)).bind fun r=>.ok (.nx (r.2.set i (some (.d (.list (r.1.map PyData.list)))))) else .bad:=id rfl
theorem aGK{n:Nat}{i:Int}(h0:0<=i)(h1:i < n):ixN n i=some i.toNat:=by unfold ixN;rw[AE h0,AE h1]
end Fl
namespace Mc
open PySem L2 PyProof.Rows Fl
structure PathOk(rs:List Rw)(z:List Nat)(ps:List (Int×Int))(s:Int×Int):Prop where
 nd:ps.Nodup
 val:∀ x∈ps++[s],fC rs z x
 st0:(ps++[s])[0]? = some (0,0)
 step:∀ (k:Nat) a b,(ps++[s])[k]? = some a->(ps++[s])[k+1]? = some b->cD rs z a=some b
 fin:(s∉ps/\cD rs z s=none)\/(s∈ps/\∃ s',cD rs z s=some s')
 few:ps.length<=jA rs z
theorem aIL{rs:List Rw}{sg:Nat}{z:List Nat}(M:Mach rs sg)(S:cI sg z):∀ (k:Nat) (ps:List (Int×Int)) (s:Int×Int),Way rs z ps s k->(ps++[s])[0]? = some (0,0)->(∀ (k:Nat) a b,(ps++[s])[k]? = some a->(ps++[s])[k+1]? = some b->cD rs z a=some b)->∃ ps' s',eH rs z=ps'++[s']/\PathOk rs z ps' s':=by
 have f:∀ (k:Nat) (ps:List (Int×Int)) (s:Int×Int),Way rs z ps s k->(ps++[s])[0]? = some (0,0)->(∀ (k:Nat) a b,(ps++[s])[k]? = some a->(ps++[s])[k+1]? = some b->cD rs z a=some b)->s∈ps->∃ ps' s',eH rs z=ps'++[s']/\PathOk rs z ps' s':=by
  intro k ps s W d h1 c
  refine ⟨ps,s,(W.stop c).symm,W.nd,W.val,d,h1,.inr ⟨c,?_⟩,by have:=W.num;omega⟩
  obtain ⟨j,l⟩:=List.getElem?_of_mem c
  have h:j < ps.length:=(AS.mp l).1
  have e1:(ps++[s])[j]? = some s:=by rw[BK h];exact l
  have e2:∃ b,(ps++[s])[j+1]? = some b:=⟨_,AH (by rw[AU];simp;omega)⟩
  obtain ⟨b,e2⟩:=e2
  exact ⟨b,h1 j s b e1 e2⟩
 intro k
 induction k with
 | zero=>
  intro ps s W d h1
  by_cases c:s∈ps
  .exact f 0 ps s W d h1 c
  .obtain ⟨j,l⟩:=W.more c;omega
 | succ k ih=>
  intro ps s W d h1
  by_cases c:s∈ps
  .exact f _ ps s W d h1 c
  .cases e:cD rs z s with
   | none=>exact ⟨ps,s,(W.ends c e).symm,W.nd,W.val,d,h1,.inl ⟨c,e⟩,by have:=W.num;omega⟩
   | some s'=>
    refine ih (ps++[s]) s' (W.next M S c e) (by rw[BK (by simp)];exact d) fun k a b e1 e2=>?_
    by_cases i:k+1 < (ps++[s]).length
    .rw[BK i] at e2
     rw[BK (by omega)] at e1
     exact h1 k a b e1 e2
    .have g:k+1 < (ps++[s]++[s']).length:=(AS.mp e2).1
     rw[AU,AU] at g
     rw[AU] at i
     simp only[AL,AZ] at i g
     have m:k=ps.length:=by omega
     subst m
     have o:(ps++[s]++[s'])[ps.length]? = some s:=by rw[BK (by simp),CA (AM _)];simp
     have n:(ps++[s]++[s'])[ps.length+1]? = some s':=by rw[CA (by simp)];simp
     rw[o] at e1;rw[n] at e2
     cases e1;cases e2
     exact e
theorem aLN{rs:List Rw}{sg:Nat}{z:List Nat}(M:Mach rs sg)(S:cI sg z):∃ ps s,eH rs z=ps++[s]/\PathOk rs z ps s:=
 aIL M S (jA rs z) [] (0,0) (Way.start M) rfl fun k a b e1 e2=>by
  have:=(AS.mp e2).1
  simp at this
section
variable{rs:List Rw}{sg:Nat}{z:Str}
theorem aEC(M:Mach rs sg)(S:cI sg z.cps.toList){s:Int×Int}(V:fC rs z.cps.toList s):iI [.d (bR rs),.d (.str z),.d (prD s)]=.ok (.d (.tuple [(bJ rs z.cps.toList s).1.d,.int (bJ rs z.cps.toList s).2])):=by
 obtain ⟨p,q⟩:=s
 have e:=aAC V.2.2.1 V.2.2.2
 have m:z.length<=16777216:=by rw[jZ];have:=S.1;omega
 have g:=t8 m
 rw[jZ] at g
 generalize y:z.cps.toList=b at *
 have h:dIx (prD (p,q)) (.int 0)=.ok (.int p):=rfl
 have j:dIx (prD (p,q)) (.int 1)=.ok (.int q):=rfl
 have x:∀ r:Rw,dIx (c9 r) (.int 0)=.ok r.l.d:=fun r=>rfl
 have B:∀ r:Rw,dIx (c9 r) (.int 1)=.ok (.tuple (r.c.map gZ)):=fun r=>rfl
 have D:∀ r:Rw,dIx (c9 r) (.int 2)=.ok r.r.d:=fun r=>rfl
 have e:dIx (bR rs) (.int q)=.ok (c9 (cW rs q)):=e
 unfold iI qD
 by_cases a:p=0
 .subst a
  have f:bJ rs b (0,q)=((cW rs q).l,1):=by unfold bJ;rw[AE rfl]
  rw[f]
  simp[h,j,e,x,dW]
 .by_cases h1:p=(b.length:Int)+1
  .have f:bJ rs b (p,q)=((cW rs q).r,-1):=by unfold bJ;rw[AI a,AE h1]
   rw[f]
   have C:¬ ((b.length:Int)+1=0):=by omega
   have e0:dEq (.int p) (.int 0)=.ok (.bool false):=by rw[dW,BB a]
   have e1:dEq (.int p) (.int ((b.length:Int)+1))=.ok (.bool true):=by rw[dW,BM h1]
   simp[h,j,e,D,e0,e1,g]
  .obtain ⟨c,k,v,t⟩:=vB S V a h1
   obtain ⟨i,u,o,G⟩:=mC M S V a h1
   have F:=V.1
   have w:=V.2.1
   simp only at F w k t u o
   have f:bJ rs b (p,q)=(.n i.1,i.2):=by unfold bJ;rw[AI a,AI h1];simp only[o]
   rw[f]
   have E:dIx (.str z) (.int (p - 1))=.ok (.str ⟨#[c]⟩):=aDV m (kT (by omega) (by rw[y,<-k];congr 1;omega))
   have id:=aCA (aAB M.sg3 v)
   have A:dIx (.tuple ((cW rs q).c.map gZ)) (.int ((c - 97:Nat):Int))=.ok (gZ i):=rK (iO (by rw[A0,<-t,u];rfl))
   simp[h,j,e,B,dW,a,g,h1,E,id,A]
   rfl
theorem cat_w(M:Mach rs sg){a:List Nat}{s:Int×Int}{x:Str}(V:fC rs a s)(h:(bJ rs a s).1=.w x):x="by"\/x="out":=by
 have b:=A6 (mY V.2.2.1 V.2.2.2)
 have g:=(M.row _ b).1
 unfold bJ at h
 split at h
 .have h:(cW rs s.2).l=.w x:=h
  have:=g.1;rw[h] at this;exact this
 .split at h
  .have h:(cW rs s.2).r=.w x:=h
   have:=g.2.1;rw[h] at this;exact this
  .cases h
def ptρ(rs:List Rw)(z:Str)(ps:List (Int×Int))(s:Int×Int)(u:O6 A):Sg:=[some (.d (bR rs)),some (.d (.str z)),some (.d (prD s)),some (.l (ps.map prD++[prD s])),some (.m (been prD ps)),u]
theorem aN4{ps:List (Int×Int)}{s:Int×Int}{u:O6 A}(h:s∈ps):ptT (ptρ rs z ps s u)=.ok false:=by
 have h1:=gL jX ps s
 have h2:=(sR iW).mpr h
 simp[ptT,ptρ,h1,h2]
theorem aCJ{ps:List (Int×Int)}{s:Int×Int}{u:O6 A}(h:s∉ps):ptT (ptρ rs z ps s u)=.ok true:=by
 have h1:=gL jX ps s
 have h2:=qJ iW h
 simp[ptT,ptρ,h1,h2]
theorem aLO(M:Mach rs sg)(S:cI sg z.cps.toList){ps:List (Int×Int)}{s:Int×Int}{u:O6 A}{x:Str}(V:fC rs z.cps.toList s)(h:s∉ps)(g:ps.length<=2000000)(e:(bJ rs z.cps.toList s).1=.w x):ptB (ptρ rs z ps s u)=.ok (.rt (.d (.list ((ps++[s]).map prD)))):=by
 have h1:=gL jX ps s
 have b:=o8 iW h
 have a:(been prD ps).length<=16777216:=by rw[o9];omega
 have f:=aEC M S V
 rw[e] at f
 have c:=aDY (cat_w M V e)
 simp[ptB,ptρ,h1,b,a,f,Tn.d,c]
theorem aN5(M:Mach rs sg)(S:cI sg z.cps.toList){ps:List (Int×Int)}{s:Int×Int}{u:O6 A}{q:Int}(V:fC rs z.cps.toList s)(h:s∉ps)(k:ps.length<=2000000)(e:(bJ rs z.cps.toList s).1=.n q) :
  ∃ u',ptB (ptρ rs z ps s u)=.ok (.nx (ptρ rs z (ps++[s]) (s.1+(bJ rs z.cps.toList s).2,q) u')):=by
 have h1:=gL jX ps s
 have c:=o8 iW h
 have b:(been prD ps).length<=16777216:=by rw[o9];omega
 have f:=aEC M S V
 rw[e] at f
 generalize (bJ rs z.cps.toList s).2=t at *
 have j:=aDX q
 have g:ps.length+1 < 16777216:=by omega
 have a:dIx (prD s) (.int 0)=.ok (.int s.1):=rfl
 have p2:∀ i:Int,prD (i,q)=.tuple [.int i,.int q]:=fun i=>rfl
 exact ⟨some (.d (.tuple [.int q,.int t])),by simp[ptB,ptρ,h1,c,b,f,Tn.d,j,a,p2,g]⟩
theorem aLP(M:Mach rs sg)(S:cI sg z.cps.toList):∀ (k:Nat) (ps:List (Int×Int)) (s:Int×Int) (u:O6 A),Way rs z.cps.toList ps s k->
  aX (cN ptT ptB) (sFz 3 (bO (vV 3))) (ptρ rs z ps s u)=.ok (.rt (.d (.list ((eH rs z.cps.toList).map prD)))):=by
 have l:jA rs z.cps.toList<=1002 * 1000:=FK (by have:=S.1;omega) M.len2
 have b:∀ (k:Nat) (ps:List (Int×Int)) (s:Int×Int) (u:O6 A),Way rs z.cps.toList ps s k->s∈ps->aX (cN ptT ptB) (sFz 3 (bO (vV 3))) (ptρ rs z ps s u)=.ok (.rt (.d (.list ((eH rs z.cps.toList).map prD)))):=by
  intro k ps s u W a
  rw[b7,wZ (aN4 a),<-W.stop a]
  simp[ptρ]
 intro k
 induction k with
 | zero=>
  intro ps s u W
  by_cases a:s∈ps
  .exact b 0 ps s u W a
  .obtain ⟨j,i⟩:=W.more a;omega
 | succ k ih=>
  intro ps s u W
  by_cases a:s∈ps
  .exact b _ ps s u W a
  .have f:ps.length<=2000000:=by have:=W.num;omega
   cases c:(bJ rs z.cps.toList s).1 with
   | w x=>
    have e:cD rs z.cps.toList s=none:=by unfold cD;rw[c]
    rw[b7,wY (aCJ a) (aLO M S W.here a f c),<-W.ends a e];rfl
   | n q=>
    have e:cD rs z.cps.toList s=some (s.1+(bJ rs z.cps.toList s).2,q):=by unfold cD;rw[c]
    obtain ⟨h,g⟩:=aN5 M S (u:=u) W.here a f c
    have:=ih (ps++[s]) _ h (W.next M S a e)
    rw[b7] at this ⊢
    rw[wX (aCJ a) g]
    exact this
theorem aLQ(M:Mach rs sg)(S:cI sg z.cps.toList):qE [.d (bR rs),.d (.str z)]=.ok (.d (.list ((eH rs z.cps.toList).map prD))):=by
 have h:=aLP M S (jA rs z.cps.toList) [] (0,0) none (Way.start M)
 have a:=aID M S
 have h:aX (cN ptT ptB) (sFz 3 (bO (vV 3))) [some (.d (bR rs)),some (.d (.str z)),some (.d (.tuple [.int 0,.int 0])),some (.l [.tuple [.int 0,.int 0]]),some (.m []),none]=.ok (.rt (.d (.list ((eH rs z.cps.toList).map prD)))):=h
 unfold qE
 rw[zV]
 rw[b7] at h
 simp only[dJ,b7,aIB,gP,lC,a,zZ,jK,jW,dU,l5,dS,nC,dI,R.bind_ok,AL,AZ,Nat.reduceAdd,Nat.reduceSub,Nat.reduceLeDiff,BP,AJ,BJ,BA,BC,List.replicate,A5,A7,AT,AQ,gF,hU,h]
end
theorem aIM(i:Nat)(f g:Sg->R Dz)(ρ:Sg):aDM i f g ρ=(g ρ).bind fun x=>match ρ[i]? with
 | some (some (.l xs))=>(f ρ).bind fun k=>match k with
  | .int k=>match ixN xs.length k with
   | some j=>.ok (.nx (ρ.set i (some (.l (xs.set j x)))))
   | none=>.bad
  | _=>.bad
 | _=>.bad:=id rfl
def brd(a b:Int×Int):Nat:=(fH a.1 b.1).toNat
def jO(xss:List (List Dz))(a b:Int×Int):List (List Dz):=xss.set (brd a b) (xss.getD (brd a b) []++[.int b.2])
def bdL:List (Int×Int)->List (List Dz)->List (List Dz)
 | a::b::t,xss=>bdL (b::t) (jO xss a b)
 | _,xss=>xss
def Adj(n:Nat)(l:List (Int×Int)):Prop:=∀ (k:Nat) a b,l[k]? = some a->l[k+1]? = some b->0<=fH a.1 b.1/\fH a.1 b.1 < n
theorem Adj.tail{n:Nat}{a:Int×Int}{l:List (Int×Int)}(h:Adj n (a::l)):Adj n l:=fun k x y e1 e2=>h (k+1) x y (by simpa using e1) (by simpa using e2)
theorem pF(c:List (List Dz))(a b:Int×Int):(jO c a b).length=c.length:=by unfold jO;rw[B0]
theorem rN:∀ (l:List (Int×Int)) (xss:List (List Dz)),(bdL l xss).length=xss.length
 | [],_=>rfl
 | [_],_=>rfl
 | a::b::t,xss=>by unfold bdL;rw[rN (b::t),pF]
def Few(m:Nat)(xss:List (List Dz)):Prop:=∀ r∈xss,r.length+m<=16777000
theorem aAY{m:Nat}{a:List (List Dz)}(h:Few m a)(j:Nat)(hm:m<=16777000):(a.getD j []).length+m<=16777000:=by
 rw[A9]
 cases e:a[j]? with
 | none=>simpa using hm
 | some r=>exact h r (A6 e)
theorem aAZ{m:Nat}{c:List (List Dz)}{a b:Int×Int}(h:Few (m+1) c)(hm:m+1<=16777000):Few m (jO c a b):=fun r d=>by
 unfold jO at d
 rcases GJ d with q|q
 .have:=h r q;omega
 .have:=aAY h (brd a b) hm
  rw[q,AU,E3];omega
section
variable{D0 D1:Dz}
theorem w6:∀ (l:List (Int×Int)) (xss:List (List Dz)) (u3 u4:O6 A),Adj xss.length l->Few l.length xss->l.length<=16777000->
  ∃ u3' u4',nE (stT [(stN 3),(stN 4)]) (e2 (d2 fH) (e2 dIx (rV 3) (eC (.int 0))) (e2 dIx (rV 4) (eC (.int 0)))) (e2 dIx (rV 4) (eC (.int 1))) ((l.zip (l.drop 1)).map fun p=>.tuple [prD p.1,prD p.2]) xss [some (.d D0),some (.d D1),none,u3,u4]=.ok (bdL l xss,[some (.d D0),some (.d D1),none,u3',u4'])
 | [],xss,u3,u4,_,_,_=>⟨u3,u4,rfl⟩
 | [a],xss,u3,u4,_,_,_=>⟨u3,u4,rfl⟩
 | a::b::t,xss,u3,u4,h,hf,hl=>by
  obtain ⟨h0,h1⟩:=h 0 a b rfl rfl
  obtain ⟨u3',u4',q⟩:=w6 (b::t) (jO xss a b) (some (.d (prD a))) (some (.d (prD b))) (by rw[pF];exact h.tail) (aAZ hf hl) (by simp at hl ⊢;omega)
  refine ⟨u3',u4',?_⟩
  have e:((a::b::t).zip ((a::b::t).drop 1)).map (fun p=>PyData.tuple [prD p.1,prD p.2])=.tuple [prD a,prD b]::(((b::t).zip ((b::t).drop 1)).map fun p=>PyData.tuple [prD p.1,prD p.2]):=rfl
  rw[e]
  unfold nE bdL
  have m:=aAY hf (brd a b) hl
  have g:∀ s:Int×Int,dIx (prD s) (.int 0)=.ok (.int s.1):=fun s=>rfl
  have f:∀ s:Int×Int,dIx (prD s) (.int 1)=.ok (.int s.2):=fun s=>rfl
  have o:∀ i j:Int,d2 fH (.int i) (.int j)=.ok (.int (fH i j)):=fun i j=>rfl
  have k:=aGK h0 h1
  have c:jD [some (A.d D0),some (.d D1),none,some (.d (prD a)),some (.d (prD b))]=true:=rfl
  simp only[aF3,zW,oE,aB6,DA,A7,A5,iF,R.bind_ok,c,BP,fF,eI,dS,AQ,AT,g,f,o,k]
  have n:brd a b=(fH a.1 b.1).toNat:=rfl
  rw[<-n,AE (by simp only[AL] at m;omega)]
  exact q
end
theorem aGL(l:List (Int×Int)):(((l.map prD).zip ((l.map prD).drop 1)).map Fl.aDS)=(l.zip (l.drop 1)).map fun p=>PyData.tuple [prD p.1,prD p.2]:=by
 rw[<-List.map_drop,List.zip_map,D5];rfl
theorem aQG(xs:List Dz)(h:xs≠[]):mJ xs (some 1) none=xs.drop 1:=by
 have h1:1<=xs.length:=by cases xs with|nil=>exact absurd rfl h|cons _ _=>simp
 have e:HT.sIx xs.length 0 (some 1)=1:=by
  have:=HT.aBI xs.length 0 1
  rw[show ((1:Nat):Int)=1 from rfl] at this
  rw[this];omega
 unfold mJ
 rw[HT.x8,e,EX (by rw[CT];omega)]
def bordsD(xss:List (List Dz)):Dz:=.tuple (xss.map PyData.tuple)
theorem aN6{z:Str}{l:List (Int×Int)}(u:z.cps.toList.length<=1000)(hn:l≠[])(v:l.length<=16000000)(ha:Adj (z.cps.toList.length+1) l) :
  gI [.d (.list (l.map prD)),.d (.str z)]=.ok (.d (bordsD (bdL l (List.replicate (z.cps.toList.length+1) [])))):=by
 have b:=t8 (z:=z) (by rw[jZ];omega)
 rw[jZ] at b
 have g:eZ 0 ((z.cps.toList.length:Int)+1)=.ok ((List.range (z.cps.toList.length+1)).map fun i:Nat=>.int (i:Int)):=by
  have:=aDW (n:=z.cps.toList.length+1) (by omega)
  rw[<-this];congr 1
 obtain ⟨t,s,q⟩:=w6 (D0:=.list (l.map prD)) (D1:=.str z) l (List.replicate (z.cps.toList.length+1) []) none none (by rw[BL];exact ha) (fun r g=>by rw[EO g];simp;omega) (by omega)
 have e:zS (.list (l.map prD)) (.list ((l.map prD).drop 1))=.ok ((l.zip (l.drop 1)).map fun p=>PyData.tuple [prD p.1,prD p.2]):=by
  unfold zS
  rw[jL (by rw[AD];omega),R.bind_ok,jL (by rw[CT,AD];omega),R.bind_ok,aGL]
 have h:dSl (.list (l.map prD)) (some 1) none=.ok (.list ((l.map prD).drop 1)):=by rw[aO6,aQG _ (by simpa using hn)]
 generalize m:bdL l (List.replicate (z.cps.toList.length+1) [])=a at *
 have k:a.length=z.cps.toList.length+1:=by rw[<-m,rN,BL]
 have f:cC (.list (a.map PyData.list))=.ok (a.map PyData.list):=jL (by rw[AD,k];omega)
 have o:compL (stN 0) lR (e1 dTup (rV 0)) (kP [none] [some (.d (.list (l.map prD))),some (.d (.str z)),some (.d (.list (a.map PyData.list))),t,s]) (a.map PyData.list)=.ok (a.map PyData.tuple):=mO fun x w=>⟨_,rfl,rfl⟩
 unfold gI mU
 have j:jD [some (A.d (.list (l.map prD))),some (.d (.str z)),none,none,none]=true:=rfl
 have c:List.replicate 3 (none:O6 A)=[none,none,none]:=rfl
 simp only[dJ,b7,aIK,lW,fF,eQ,eI,nC,dS,AJ,BJ,AL,AZ,Nat.reduceAdd,Nat.reduceSub,c,BA,BC,AQ,AT,b,R.bind_ok,oG,g,A7,A5,j,and_true,Nat.reduceLT,BP,aF4,zY,zX,h,e,AD,CC,q,gD,hU,x0,o7,f,o,aNM]
 rfl
theorem aIN{rs:List Rw}{sg:Nat}{z:List Nat}{a b:Int×Int}(M:Mach rs sg)(S:cI sg z)(V:fC rs z a)(h:cD rs z a=some b):0<=fH a.1 b.1/\fH a.1 b.1 < ((z.length+1:Nat):Int):=by
 have W:=tR M S V h
 have l:b.1=a.1+1\/b.1=a.1 - 1:=by
  unfold cD at h
  cases e:(bJ rs z a).1 with
  | w x=>rw[e] at h;cases h
  | n q=>
   rw[e] at h
   cases h
   have d:(bJ rs z a).2=1\/(bJ rs z a).2 = -1:=by
    by_cases c:a.1=0
    .left;unfold bJ;rw[AE c]
    .by_cases h1:a.1=(z.length:Int)+1
     .right;unfold bJ;rw[AI c,AE h1]
     .obtain ⟨i,m,f,g⟩:=mC M S V c h1
      unfold bJ
      rw[AI c,AI h1]
      simp only[f]
      exact g.2.2
   rcases d with d|d<;>rw[d]
   .left;rfl
   .right;show a.1 + -1=a.1 - 1;omega
 obtain ⟨p,o,_,_⟩:=V
 obtain ⟨j,k,_,_⟩:=W
 unfold fH
 split<;>omega
theorem PathOk.adj{rs:List Rw}{sg:Nat}{z:List Nat}{ps:List (Int×Int)}{s:Int×Int}(M:Mach rs sg)(S:cI sg z)(P:PathOk rs z ps s):Adj (z.length+1) (ps++[s]):=fun k a b e1 e2=>
 aIN M S (P.val a (A6 e1)) (P.step k a b e1 e2)
theorem aCK{l:List (Int×Int)}{n:Nat}(D:l.length<=16000000)(ha:Adj n l):∀ (m k:Nat) (xss:List (List Dz)) (u4:O6 A) (u3:O6 A),k+1+m=l.length->xss.length=n->Few (l.length - k) xss->
  ∃ u3' u4',kQ (stN 3) (aX (cH 4 (vD (e2 (d2 fH) (e2 dIx (e2 dIx (rV 0) (e2 dSub (rV 3) (eC (.int 1)))) (eC (.int 0))) (e2 dIx (e2 dIx (rV 0) (rV 3)) (eC (.int 0))))))
   (aDM 2 (rV 4) (e2 pB (e2 dIx (rV 2) (rV 4)) (eY (aC (e2 dIx (e2 dIx (rV 0) (rV 3)) (eC (.int 1))) aU))))) (gS ((k:Int)+1) m) [some (.d (.list (l.map prD))),some (.d (.int n)),some (.l (xss.map PyData.tuple)),u3,u4]=.ok (.nx [some (.d (.list (l.map prD))),some (.d (.int n)),some (.l ((bdL (l.drop k) xss).map PyData.tuple)),u3',u4'])
 | 0,k,xss,u4,u3,hk,hx,hf=>by
  have e:(l.drop k).length=1:=by rw[CT];omega
  obtain ⟨a,f⟩:=List.length_eq_one_iff.mp e
  rw[f]
  exact ⟨u3,u4,rfl⟩
 | m+1,k,xss,u4,u3,hk,hx,hf=>by
  have h1:k < l.length:=by omega
  have h2:k+1 < l.length:=by omega
  have f:l[k]? = some l[k]:=AH h1
  have t:l[k+1]? = some l[k+1]:=AH h2
  obtain ⟨r,F⟩:=ha k _ _ f t
  have y:l.drop k=l[k]::l[k+1]::l.drop (k+2):=by rw[CP h1,CP h2]
  have p:l.drop (k+1)=l[k+1]::l.drop (k+2):=CP h2
  generalize l[k]=a at *
  generalize l[k+1]=b at *
  have g:Few (l.length - (k+1)+1) xss:=by rw[show l.length - (k+1)+1=l.length - k by omega];exact hf
  obtain ⟨u3',u4',q⟩:=aCK D ha m (k+1) (jO xss a b) (some (.d (.int (fH a.1 b.1)))) (some (.d (.int ((k:Int)+1)))) (by omega) (by rw[pF];exact hx) (aAZ g (by omega))
  refine ⟨u3',u4',?_⟩
  have C:gS ((k:Int)+1) (m+1)=.int ((k:Int)+1)::gS (((k+1:Nat):Int)+1) m:=by
   unfold gS
   rw[GY,AJ,D5]
   have e0:(k:Int)+1+((0:Nat):Int)=(k:Int)+1:=by omega
   rw[e0]
   refine D3 (List.cons _) (List.map_congr_left fun i _=>?_)
   show PyData.int ((k:Int)+1+((i+1:Nat):Int))=PyData.int (((k+1:Nat):Int)+1+(i:Int))
   have e1:(k:Int)+1+((i+1:Nat):Int)=((k+1:Nat):Int)+1+(i:Int):=by omega
   rw[e1]
  have eL:(bdL (l.drop k) xss)=bdL (l.drop (k+1)) (jO xss a b):=by rw[y,p];rfl
  rw[C,eL]
  have v:∀ s:Int×Int,dIx (prD s) (.int 0)=.ok (.int s.1):=fun s=>rfl
  have z:∀ s:Int×Int,dIx (prD s) (.int 1)=.ok (.int s.2):=fun s=>rfl
  have dd:∀ i j:Int,d2 fH (.int i) (.int j)=.ok (.int (fH i j)):=fun i j=>rfl
  have B:dIx (.list (l.map prD)) (.int ((k:Int)+1))=.ok (prD b):=lD (kT (by omega) (by rw[A0,show ((k:Int)+1).toNat=k+1 by omega,t];rfl))
  have x:dIx (.list (l.map prD)) (.int ((k:Int)+1 - 1))=.ok (prD a):=lD (kT (by omega) (by rw[A0,show ((k:Int)+1 - 1).toNat=k by omega,f];rfl))
  have u:brd a b < xss.length:=by unfold brd;omega
  have ex:xss[brd a b]? = some xss[brd a b]:=AH u
  have h:xss.getD (brd a b) []=xss[brd a b]:=by rw[A9,ex];rfl
  have w:dIx (.list (xss.map PyData.tuple)) (.int (fH a.1 b.1))=.ok (.tuple xss[brd a b]):=lD (kT r (by rw[A0];show (xss[brd a b]?).map _=_;rw[ex];rfl))
  have G:=hf _ (EE u)
  have E:pB (.tuple xss[brd a b]) (.tuple [.int b.2])=.ok (.tuple (xss[brd a b]++[.int b.2])):=AE (by rw[dB];simp only[AL,AZ];omega)
  have o:ixN (xss.map PyData.tuple).length (fH a.1 b.1)=some (brd a b):=by rw[AD,hx];exact aGK r F
  have c:(xss.map PyData.tuple).set (brd a b) (.tuple (xss[brd a b]++[.int b.2]))=(jO xss a b).map PyData.tuple:=by unfold jO;rw[h,List.map_set]
  unfold kQ
  simp only[oE,A7,A5,iF,R.bind_ok,b7,gF,hU,fF,eI,dS,AQ,AT,z7,x,B,v,z,dd,aIM,w,l5,dU,dI,AL,AZ,Nat.reduceAdd,Nat.reduceLeDiff,BP,E,o,c]
  exact q
theorem aA0{α:Type}(x:α):∀ n:Nat,(List.replicate n [x]).flatten=List.replicate n x
 | 0=>rfl
 | n+1=>by rw[CN,C6,aA0 x n];rfl
theorem aLR{l:List (Int×Int)}{n:Nat}(hn:n<=2000)(b:l≠[])(e:l.length<=16000000)(ha:Adj n l) :
  eU [.d (.list (l.map prD)),.d (.int n)]=.ok (.d (bordsD (bdL l (List.replicate n [])))):=by
 have h1:1<=l.length:=by cases l with|nil=>exact absurd rfl b|cons _ _=>simp
 obtain ⟨h,g,q⟩:=aCK e ha (l.length - 1) 0 (List.replicate n []) none none (by omega) (by rw[BL]) (fun r c=>by rw[EO c];simp;omega)
 rw[List.drop_zero] at q
 have f:t9 [PyData.tuple []] (.int (n:Int))=.ok ((List.replicate n ([]:List Dz)).map PyData.tuple):=by
  unfold t9
  dsimp only
  rw[AE ⟨by simp,by omega,by omega,by simp only[AL,AZ];omega⟩]
  rw[show ((n:Int).toNat)=n by omega,aA0,List.map_replicate]
 have c:eZ 1 (l.length:Int)=.ok (gS ((0:Nat)+1:Int) (l.length - 1)):=by
  unfold eZ
  rw[AE ⟨by omega,by omega,by omega,by omega,by omega⟩]
  have e1:((l.length:Int) - 1).toNat=l.length - 1:=by omega
  rw[e1];rfl
 have a:List.replicate 3 (none:O6 A)=[none,none,none]:=rfl
 unfold eU kZ
 simp only[dJ,b7,jK,aIJ,jW,dU,dI,l5,R.bind_ok,AZ,AL,Nat.reduceAdd,Nat.reduceSub,Nat.reduceLeDiff,CM,BP,AJ,BJ,a,BA,BC,eI,nC,dS,AQ,AT,f,A7,A5,kS,aDU,eQ,qH,AD,c]
 rw[q]
 rfl
noncomputable def dO(rs:List Rw)(z:List Nat)(ps:List (Int×Int))(s:Int×Int):Er:=
 if cU rs z="by" then ⟨"LetBy",[("place",.int s.1),("room",.int s.2),("borders",bordsD (bdL (ps++[s]) (List.replicate (z.length+1) [])))]⟩
 else if cU rs z="out" then ⟨"ShutOut",[("place",.int s.1),("room",.int s.2),("borders",bordsD (bdL (ps++[s]) (List.replicate (z.length+1) [])))]⟩
 else ⟨"ForEver",[("place",.int s.1),("room",.int s.2),("first",.int (ps.idxOf s)),("again",.int ps.length)]⟩
inductive EndW(rs:List Rw)(z:List Nat)(ps:List (Int×Int))(s:Int×Int):Prop
 | b (h:cU rs z="by") (n:s∉ps) (e:cD rs z s=none) (c:(bJ rs z s).1=.w "by")
 | o (h:cU rs z="out") (n:s∉ps) (e:cD rs z s=none) (c:(bJ rs z s).1=.w "out")
 | e (h:cU rs z="ever") (n:s∈ps) (q:Int) (c:(bJ rs z s).1=.n q)
theorem aJL{rs:List Rw}{sg:Nat}{z:Str}(M:Mach rs sg)(S:cI sg z.cps.toList):∃ ps s,eH rs z.cps.toList=ps++[s]/\PathOk rs z.cps.toList ps s/\EndW rs z.cps.toList ps s:=by
 obtain ⟨ps,s,e,P⟩:=aLN M S
 obtain ⟨_,k,s',g,V,q⟩:=sU M S
 rw[e] at g
 obtain ⟨rfl,h2⟩:=List.append_inj' g rfl
 cases h2
 refine ⟨ps,s,e,P,?_⟩
 rcases q with ⟨a,x,f,d⟩|⟨⟨s',a⟩,d⟩
 .have i:s∉ps:=by
   rcases P.fin with ⟨h,_⟩|⟨_,s',h⟩
   · exact h
   · rw [a] at h; cases h
  have c:cU rs z.cps.toList=x:=by unfold cU;rw[d];rfl
  rcases cat_w M V f with rfl|rfl
  .exact .b c i a f
  .exact .o c i a f
 .have l:s∈ps:=by
   rcases P.fin with ⟨_,h⟩|⟨h,_⟩
   · rw [a] at h; cases h
   · exact h
  have c:cU rs z.cps.toList="ever":=by unfold cU;rw[d];rfl
  cases j:(bJ rs z.cps.toList s).1 with
  | w x=>unfold cD at a;rw[j] at a;cases a
  | n q=>exact .e c l q j
theorem w8(l:List (Int×Int))(s:Int×Int):dIx (.list ((l++[s]).map prD)) (.int (-1))=.ok (prD s):=by
 rw[CB,AJ,BJ];exact iM _ _
theorem aA1{rs:List Rw}{sg:Nat}{z:List Nat}{ps:List (Int×Int)}{s:Int×Int}(M:Mach rs sg)(S:cI sg z)(P:PathOk rs z ps s):ps.length<=1002000:=by
 have a:jA rs z<=1002 * 1000:=FK (by have:=S.1;omega) M.len2
 have:=P.few
 omega
theorem aPA(s:Int×Int):Sh 1 (prD s):=yK fun y a=>by
 rcases AG.mp a with q|q
 · rw [q]; exact yL _ _
 · rw [A1.mp q]; exact yL _ _
theorem uK{l:List (Int×Int)}:SeqAt.shaped (.list (l.map prD))=true:=Sh.shaped (n:=2) (sh_lst fun x a=>by
 obtain ⟨s,_,rfl⟩:=C0.mp a
 exact aPA s) (by decide)
theorem aJM(s:Int×Int):nbD (prD s)=true:=rfl
theorem aN7{a b:Int×Int}:prD a=prD b↔a=b:=⟨fun h=>iW _ _ h,fun h=>by rw[h]⟩
theorem aN8(a b:Int×Int):PyData.eqv (prD a) (prD b)=decide (a=b):=by
 rw[aGG (aJM a) (aJM b) (lE a)]
 exact DO.mpr aN7
theorem v7(s:Int×Int):∀ (l t:List (Int×Int)),s∈l->((l++t).map prD).findIdx? (fun y=>PyData.eqv y (prD s))=some (l.idxOf s)
 | [],_,h=>by cases h
 | a::l,t,h=>by
  rw[BA,AJ,List.findIdx?_cons,aN8]
  by_cases e:a=s
  .subst e
   rw[BM rfl,AE rfl,List.idxOf_cons_self]
  .rw[BB e,AI (by decide),v7 s l t (by
    rcases AG.mp h with z|z
    · exact absurd z.symm e
    · exact z), List.idxOf_cons, CO e]
   rfl
section
variable{rs:List Rw}{sg:Nat}{z:Str}
theorem aCL(M:Mach rs sg)(S:cI sg z.cps.toList){ps:List (Int×Int)}{s:Int×Int}(C:eH rs z.cps.toList=ps++[s])(P:PathOk rs z.cps.toList ps s)(W:EndW rs z.cps.toList ps s):j9 [.d (bR rs),.d (.str z)]=.ok (.o (dO rs z.cps.toList ps s)):=by
 have m:=aLQ M S
 rw[C] at m
 have y:=aA1 M S P
 have V:fC rs z.cps.toList s:=P.val s (by simp)
 have g:=aEC M S V
 have B:=aN6 (z:=z) (l:=ps++[s]) S.1 (by simp) (by rw[AU];simp;omega) (P.adj M S)
 have r:=w8 ps s
 have p:dIx (prD s) (.int 0)=.ok (.int s.1):=rfl
 have t:dIx (prD s) (.int 1)=.ok (.int s.2):=rfl
 have f:List.replicate 3 (none:O6 A)=[none,none,none]:=rfl
 have u:∀ (a:Dz) (i:Int),dIx (.tuple [a,.int i]) (.int 0)=.ok a:=fun a i=>rfl
 unfold j9 aAN
 cases W with
 | b h n e c=>
  rw[c] at g
  have k:dEq (Tn.w "by").d (.str "by")=.ok (.bool true):=qL (.inl rfl) (.inl rfl)
  have j:dO rs z.cps.toList ps s=⟨"LetBy",[("place",.int s.1),("room",.int s.2),("borders",bordsD (bdL (ps++[s]) (List.replicate (z.cps.toList.length+1) [])))]⟩:=by unfold dO;rw[AE h]
  simp only[dJ,b7,gF,gP,dU,dI,lC,R.bind_ok,AJ,BJ,AL,AZ,Nat.reduceAdd,Nat.reduceSub,f,BA,BC,AT,AQ,BP,m,A5,A7,hU,fF,eQ,eI,dS,qF,r,o6,g,mN,u,gE,k,gG,gD,v5,p,t,B,j]
  rfl
 | o h n e c=>
  rw[c] at g
  have k:dEq (Tn.w "out").d (.str "by")=.ok (.bool false):=qL (.inr (.inl rfl)) (.inl rfl)
  have x:dEq (Tn.w "out").d (.str "out")=.ok (.bool true):=qL (.inr (.inl rfl)) (.inr (.inl rfl))
  have j:dO rs z.cps.toList ps s=⟨"ShutOut",[("place",.int s.1),("room",.int s.2),("borders",bordsD (bdL (ps++[s]) (List.replicate (z.cps.toList.length+1) [])))]⟩:=by unfold dO;rw[AI (by rw[h];decide),AE h]
  simp only[dJ,b7,gF,gP,dU,dI,lC,R.bind_ok,AJ,BJ,AL,AZ,Nat.reduceAdd,Nat.reduceSub,f,BA,BC,AT,AQ,BP,m,A5,A7,hU,fF,eQ,eI,dS,qF,r,o6,g,mN,u,gE,k,x,BI,CD,j8,gG,gD,v5,p,t,B,j]
  rfl
 | e h n q c=>
  rw[c] at g
  have k:dEq (Tn.n q).d (.str "by")=.ok (.bool false):=by show dEq (.int q) (.str "by")=_;rw[qI (gQ q) (kY (.inl rfl))];rfl
  have x:dEq (Tn.n q).d (.str "out")=.ok (.bool false):=by show dEq (.int q) (.str "out")=_;rw[qI (gQ q) (kY (.inr (.inl rfl)))];rfl
  have j:dO rs z.cps.toList ps s=⟨"ForEver",[("place",.int s.1),("room",.int s.2),("first",.int (ps.idxOf s)),("again",.int ps.length)]⟩:=by unfold dO;rw[AI (by rw[h];decide),AI (by rw[h];decide)]
  have D:mT (.list ((ps++[s]).map prD)) (prD s)=.ok (.int (ps.idxOf s)):=by
   unfold mT
   dsimp only
   rw[AE ⟨lE s,uK,by rw[AD,AU];simp;omega⟩,v7 s ps [s] n]
  have v:((ps.length+1:Nat):Int) - 1=ps.length:=by omega
  simp only[dJ,b7,gF,gP,dU,dI,lC,R.bind_ok,AJ,BJ,AL,AZ,Nat.reduceAdd,Nat.reduceSub,f,BA,BC,AT,AQ,BP,m,A5,A7,hU,fF,eQ,eI,dS,qF,r,o6,g,mN,u,gE,k,x,gG,BI,CD,j8,gD,v5,p,t,v6,aEB,D,qH,AD,AU,z7,v,j]
  rfl
end
def itM(rs:List Rw)(z:List Nat):Nat->O6 (Int×Int)
 | 0=>some (0,0)
 | n+1=>(itM rs z n).bind (cD rs z)
def aN9(ps:List (Int×Int))(s:Int×Int):Er:=⟨"ForEver",[("place",.int s.1),("room",.int s.2),("first",.int (ps.idxOf s)),("again",.int ps.length)]⟩
section
variable{rs:List Rw}{sg:Nat}{z:List Nat}{ps:List (Int×Int)}{s:Int×Int}
theorem uL(h:cU rs z="by"):dO rs z ps s=⟨"LetBy",[("place",.int s.1),("room",.int s.2),("borders",bordsD (bdL (ps++[s]) (List.replicate (z.length+1) [])))]⟩:=by unfold dO;rw[AE h]
theorem uM(h:cU rs z="out"):dO rs z ps s=⟨"ShutOut",[("place",.int s.1),("room",.int s.2),("borders",bordsD (bdL (ps++[s]) (List.replicate (z.length+1) [])))]⟩:=by unfold dO;rw[AI (by rw[h];decide),AE h]
theorem uN(h:cU rs z="ever"):dO rs z ps s=aN9 ps s:=by unfold dO;rw[AI (by rw[h];decide),AI (by rw[h];decide)];rfl
theorem mt_says(W:EndW rs z ps s){f:Sg->R A}{ρ:Sg}(h:f ρ=.ok (.o (dO rs z ps s))):vMt f "says" [("LetBy",eG),("ShutOut",dL),("ForEver",dM)] ρ=.ok (.d (.str (cU rs z))):=by
 rw[aGI,h]
 cases W with
 | b w n e c=>rw[uL w,w];rfl
 | o w n e c=>rw[uM w,w];rfl
 | e w n q c=>rw[uN w,w];rfl
theorem mt_stops(W:EndW rs z ps s){f:Sg->R A}{ρ:Sg}(h:f ρ=.ok (.o (dO rs z ps s))):vMt f "stops" [("LetBy",gX),("ShutOut",fR),("ForEver",fS)] ρ=.ok (.d (.bool (decide (s∉ps)))):=by
 rw[aGI,h]
 cases W with
 | b w n e c=>rw[uL w,BM n];rfl
 | o w n e c=>rw[uM w,BM n];rfl
 | e w n q c=>rw[uN w,BB (by simpa using n)];rfl
theorem aGM(W:EndW rs z ps s){i:Nat}{ρ:Sg}(h:ρ[i]? = some (some (.o (dO rs z ps s)))):eOF i ["LetBy","ShutOut","ForEver"] "place" ρ=.ok (.int s.1)/\eOF i ["LetBy","ShutOut","ForEver"] "room" ρ=.ok (.int s.2):=by
 rw[aGJ,aGJ,h]
 cases W with
 | b w n e c=>rw[uL w];exact ⟨rfl,rfl⟩
 | o w n e c=>rw[uM w];exact ⟨rfl,rfl⟩
 | e w n q c=>rw[uN w];exact ⟨rfl,rfl⟩
def uO(r:List Dz):Prop:=∀ x∈r,∃ i:Int,x=.int i
theorem aGN{c:List (List Dz)}{a b:Int×Int}(h:∀ r∈c,uO r):∀ r∈jO c a b,uO r:=fun r d=>by
 unfold jO at d
 rcases GJ d with q|q
 .exact h r q
 .subst q
  intro x f
  rcases B3.mp f with y|y
  .rw[A9] at y
   cases e:c[brd a b]? with
   | none=>rw[e] at y;simp at y
   | some r=>rw[e] at y;exact h r (A6 e) x y
  .exact ⟨b.2,A1.mp y⟩
theorem aA2:∀ (l:List (Int×Int)) (xss:List (List Dz)),(∀ r∈xss,uO r)->∀ r∈bdL l xss,uO r
 | [],_,h=>h
 | [_],_,h=>h
 | a::b::t,xss,h=>by unfold bdL;exact aA2 (b::t) _ (aGN h)
theorem aIO{a:List (List Dz)}(h:∀ r∈a,uO r):nbD (bordsD a)=true/\Sh 2 (bordsD a):=by
 refine ⟨vZ fun x b=>?_,yK fun x b=>?_⟩
 .obtain ⟨r,c,rfl⟩:=C0.mp b
  exact vZ fun y d=>by obtain ⟨i,rfl⟩:=h r c y d;rfl
 .obtain ⟨r,c,rfl⟩:=C0.mp b
  exact yK fun y d=>by obtain ⟨i,rfl⟩:=h r c y d;exact yL _ _
theorem aPB(l:List (Int×Int))(n:Nat):nbD (bordsD (bdL l (List.replicate n [])))=true/\Sh 2 (bordsD (bdL l (List.replicate n []))):=
 aIO (aA2 l _ fun r b=>by rw[EO b];intro x a;cases a)
theorem word_of(W:EndW rs z ps s):cU rs z="by"\/cU rs z="out"\/cU rs z="ever":=by
 cases W with
 | b w n e c=>exact .inl w
 | o w n e c=>exact .inr (.inl w)
 | e w n q c=>exact .inr (.inr w)
theorem aOA{w:Str}(h:w="by"\/w="out"\/w="ever")(n:Nat):Sh n (.str w):=aMV n (by rcases h with rfl|rfl|rfl<;>decide +kernel)
end
section
variable{rs:List Rw}{sg:Nat}{z:Str}{ps:List (Int×Int)}{s:Int×Int}
def AtN(rs:List Rw)(z:List Nat)(p r n:Int):Prop:=itM rs z n.toNat=some (p,r)
instance (rs:List Rw) (z:List Nat) (p r n:Int):Decidable (AtN rs z p r n):=inferInstanceAs (Decidable (_=_))
def aPC(rs:List Rw)(z:List Nat)(p r f a:Int):Prop:=(0<=f/\f < a/\a<=(rs.length:Int) * ((z.length:Int)+2))/\AtN rs z p r f/\AtN rs z p r a
instance (rs:List Rw) (z:List Nat) (p r f a:Int):Decidable (aPC rs z p r f a):=inferInstanceAs (Decidable (_/\_))
end
section
variable{rs:List Rw}{sg:Nat}{z:Str}{ps:List (Int×Int)}{s:Int×Int}
theorem aED(M:Mach rs sg)(S:cI sg z.cps.toList)(a:eH rs z.cps.toList=ps++[s]):dX [.d (bR rs),.d (.str z)]=.ok (.d (.list ((ps++[s]).map prD))):=by rw[<-a];exact (sU M S).1
theorem aQH(M:Mach rs sg)(S:cI sg z.cps.toList)(P:PathOk rs z.cps.toList ps s):eU [.d (.list ((ps++[s]).map prD)),.d (.int ((z.cps.toList.length:Int)+1))]=.ok (.d (bordsD (bdL (ps++[s]) (List.replicate (z.cps.toList.length+1) [])))):=by
 have a:=aA1 M S P
 have h:=aLR (l:=ps++[s]) (n:=z.cps.toList.length+1) (by have:=S.1;omega) (by simp) (by rw[AU];simp;omega) (P.adj M S)
 rw[show ((z.cps.toList.length+1:Nat):Int)=(z.cps.toList.length:Int)+1 by omega] at h
 exact h
theorem aA3(W:EndW rs z.cps.toList ps s):(decide (cU rs z.cps.toList="ever"))=decide (s∈ps):=by
 cases W with
 | b w n e c=>rw[w,BB n];decide
 | o w n e c=>rw[w,BB n];decide
 | e w n q c=>rw[w,BM n];decide
end
theorem aPD(b:Bool):iL [.d (.bool b),.d (.bool b)]=.ok (.d (.bool true)):=by
 have h:dEq (.bool b) (.bool b)=.ok (.bool true):=uJ (by cases b<;>rfl)
 have t:fW "bool" (.bool b)=.ok (.bool true):=rfl
 unfold iL mR
 simp[h,t]
end Mc
namespace Fl
open PySem L2 PyProof.Rows
theorem aLS(i:Nat)(tb:List (Str×Bool))(ρ:Sg):sZ i tb ρ=match ρ[i]? with
 | some (some (.o e))=>(match tb.lookup e.c with
  | some b=>.ok (.bool b)
  | none=>.bad)
 | _=>.bad:=id rfl
theorem aLT(f:Sg->R Dz)(a b:Sg->R (O6 Int))(ρ:Sg):vW f a b ρ=(f ρ).bind fun x=>(a ρ).bind fun l=>(b ρ).bind fun o=>if o=some 2 then sY l x else .bad:=id rfl
theorem aLU(m i:Nat)(f:Sg->R (List Dz))(ρ:Sg):aDP m i f ρ=match ρ[i]? with
 | some (some (.g k n G))=>(f ρ).bind fun ds=>if k<=m/\ds.length=n then G ds else .bad
 | _=>.bad:=id rfl
end Fl
namespace Mc
open PySem L2 PyProof.Rows Fl
def crL(c:Nat):List (Int×Int)->List Int
 | a::b::t=>(if brd a b=c then [b.2] else [])++crL c (b::t)
 | _=>[]
theorem aJN(c:Nat):∀ (l:List (Int×Int)) (xss:List (List Dz)),c < xss.length->(bdL l xss).getD c []=xss.getD c []++(crL c l).map PyData.int
 | [],xss,_=>by simp[bdL,crL]
 | [a],xss,_=>by simp[bdL,crL]
 | a::b::t,xss,h=>by
  have ih:=aJN c (b::t) (jO xss a b) (by rw[pF];exact h)
  show (bdL (b::t) (jO xss a b)).getD c []=_
  rw[ih]
  show _=_++((if brd a b=c then [b.2] else [])++crL c (b::t)).map PyData.int
  rw[CB,<-List.append_assoc]
  congr 1
  unfold jO
  by_cases e:brd a b=c
  .subst e
   rw[AE rfl,A9,BW h];rfl
  .rw[AI e,BJ,CH,A9,BD e,<-List.getD_eq_getElem?_getD]
def Nbr(l:List (Int×Int)):Prop:=∀ (k:Nat) a b,l[k]? = some a->l[k+1]? = some b->0<=a.1/\0<=b.1/\(b.1=a.1+1\/b.1=a.1 - 1)
theorem Nbr.tail{a:Int×Int}{l:List (Int×Int)}(h:Nbr (a::l)):Nbr l:=fun k x y e1 e2=>h (k+1) x y (by simpa using e1) (by simpa using e2)
theorem v8{α β:Type}(f:α->β):∀ l:List α,HT.alt (l.map f)=(HT.alt l).map f
 | []=>by simp[HT.alt]
 | [x]=>by simp[HT.alt]
 | x::y::t=>by
  have:=v8 f t
  simp only[AJ] at this ⊢
  unfold HT.alt
  rw[this];rfl
theorem aA4{α:Type}(x:α)(l:List α):HT.alt (x::l)=x::HT.alt (l.drop 1):=by
 cases l with
 | nil=>simp[HT.alt]
 | cons y t=>simp[HT.alt]
theorem aCM(c:Nat):∀ (l:List (Int×Int)) (a:Int×Int),Nbr (a::l)->
  (a.1<=c->((HT.alt (crL c (a::l))).map fun r=>(((c+1:Nat):Int),r)).Sublist l/\((HT.alt ((crL c (a::l)).drop 1)).map fun r=>((c:Int),r)).Sublist l) /\
  (¬ a.1<=c->((HT.alt (crL c (a::l))).map fun r=>((c:Int),r)).Sublist l/\((HT.alt ((crL c (a::l)).drop 1)).map fun r=>(((c+1:Nat):Int),r)).Sublist l)
 | [],a,_=>by simp[crL,HT.alt]
 | b::t,a,h=>by
  obtain ⟨h0,h1,h2⟩:=h 0 a b rfl rfl
  obtain ⟨k,m⟩:=aCM c t b h.tail
  have j:brd a b=(fH a.1 b.1).toNat:=rfl
  unfold fH at j
  have n:crL c (a::b::t)=(if brd a b=c then [b.2] else [])++crL c (b::t):=rfl
  rw[n]
  refine ⟨fun o=>?_,fun o=>?_⟩
  .by_cases e:brd a b=c
   .have d:b.1=c+1:=by rw[j] at e;split at e<;>omega
    obtain ⟨f,i⟩:=m (by omega)
    have g:(((c+1:Nat):Int),b.2)=b:=by rw[show ((c+1:Nat):Int)=b.1 by omega]
    rw[AE e]
    show ((HT.alt (b.2::crL c (b::t))).map _).Sublist (b::t)/\((HT.alt (crL c (b::t))).map _).Sublist (b::t)
    rw[aA4,AJ,g]
    exact ⟨i.cons₂ b,f.cons b⟩
   .have d:b.1<=c:=by rw[j] at e;split at e<;>omega
    obtain ⟨f,i⟩:=k d
    rw[AI e,BC]
    exact ⟨f.cons b,i.cons b⟩
  .by_cases e:brd a b=c
   .have d:b.1=c:=by rw[j] at e;split at e<;>omega
    obtain ⟨f,i⟩:=k (by omega)
    have g:((c:Int),b.2)=b:=by rw[<-d]
    rw[AE e]
    show ((HT.alt (b.2::crL c (b::t))).map _).Sublist (b::t)/\((HT.alt (crL c (b::t))).map _).Sublist (b::t)
    rw[aA4,AJ,g]
    exact ⟨i.cons₂ b,f.cons b⟩
   .have d:¬ b.1<=c:=by rw[j] at e;split at e<;>omega
    obtain ⟨f,i⟩:=m d
    rw[AI e,BC]
    exact ⟨f.cons b,i.cons b⟩
theorem aA5{α β:Type}{f:α->β}:∀ {l:List α},(l.map f).Nodup->l.Nodup
 | [],_=>C3
 | x::t,h=>by
  rw[AJ,BU] at h
  exact BU.mpr ⟨fun a=>h.1 (DT a),aA5 h.2⟩
theorem aPE{c:Nat}{l:List (Int×Int)}(h:Nbr ((0,0)::l))(nd:l.Nodup):(HT.alt (crL c ((0,0)::l))).Nodup/\(HT.alt ((crL c ((0,0)::l)).drop 1)).Nodup:=by
 obtain ⟨a,b⟩:=(aCM c l (0,0) h).1 (by show (0:Int)<=c;omega)
 exact ⟨aA5 (a.nodup nd),aA5 (b.nodup nd)⟩
theorem aCN{κ:Type}[DecidableEq κ]:∀ (ks acc:List κ),ks.Nodup->(∀ k∈ks,k∉acc)->(Zp.eM acc ks).length=acc.length+ks.length
 | [],acc,_,_=>by simp[Zp.eM]
 | k::ks,acc,h,ha=>by
  rw[BU] at h
  rw[Zp.eM,AI (ha k AX),aCN ks _ h.2 fun x a=>?_]
  .simp;omega
  .rw[B3,A1]
   rintro (q|q)
   · exact ha x (AN _ a) q
   · exact h.1 (q ▸ a)
theorem aA6:∀ l:List Int,rL (l.map PyData.int)=some (l.map Sum.inl)
 | []=>rfl
 | i::t=>by
  rw[AJ,AJ]
  unfold rL
  rw[aA6 t];rfl
theorem aGO{l:List Int}(h:l.Nodup)(c:l.length < 4000):dSetT (.tuple (l.map PyData.int))=.ok (.int (l.length:Int)):=by
 unfold dSetT
 simp only[aA6,AD]
 rw[AE c,aCN _ _ (List.pairwise_map.mpr (h.imp fun a e=>a (Sum.inl.inj e))) (fun k _ b=>by cases b),AD]
 simp
theorem aOB{D:Dz}{l:List Int}(h1:(HT.alt l).Nodup)(h2:(HT.alt (l.drop 1)).Nodup)(g:l.length < 4000):coB [some (.d D),some (.d (.tuple (l.map PyData.int)))]=.ok (.nx [some (.d D),some (.d (.tuple (l.map PyData.int)))]):=by
 have h:=HT.oK l
 have b:=HT.oK (l.drop 1)
 rw[CT] at b
 have c:sY none (.tuple (l.map PyData.int))=.ok (.tuple ((HT.alt l).map PyData.int)):=by
  unfold sY
  simp only
  rw[HT.x8,List.drop_zero,v8]
 have a:sY (some 1) (.tuple (l.map PyData.int))=.ok (.tuple ((HT.alt (l.drop 1)).map PyData.int)):=by
  unfold sY
  simp only
  have e:=HT.aBI (l.map PyData.int).length 0 1
  rw[show ((1:Nat):Int)=1 from rfl,AD] at e
  rw[AD,e,<-List.map_drop,v8]
  cases l with
  | nil=>rfl
  | cons x t=>rw[Nat.min_eq_left (by simp)]
 have s1:=aGO h1 (by omega)
 have f:=aGO h2 (by omega)
 have k1:dLen (.tuple ((HT.alt l).map PyData.int))=.ok (.int ((HT.alt l).length:Int)):=by rw[aF5,AD]
 have k2:dLen (.tuple ((HT.alt (l.drop 1)).map PyData.int))=.ok (.int ((HT.alt (l.drop 1)).length:Int)):=by rw[aF5,AD]
 have d1:∀ n:Nat,decide ((n:Int) < (n:Int))=false:=fun n=>BB (by omega)
 simp only[coB,gE,t6,eQ,fF,aLT,eI,zX,zY,dS,c,a,s1,f,k1,k2,rJ,d1,gG,R.bind_ok,BP,BI,CD,j8,AT,AQ]
theorem aOC{B:List (List Int)}(h:∀ l∈B,(HT.alt l).Nodup/\(HT.alt (l.drop 1)).Nodup/\l.length < 4000)(k:B.length<=16777216):cQ [.d (bordsD (B.map fun l=>l.map PyData.int))]=.ok (.d (.bool true)):=by
 have hi:cC (bordsD (B.map fun l=>l.map PyData.int))=.ok (B.map fun l=>.tuple (l.map PyData.int)):=by
  unfold bordsD
  rw[z9 (by rw[AD,AD];exact k),D5];rfl
 obtain ⟨g,q,u,rfl⟩:=kU (fs:=stN 1) (fb:=coB) (d:=fun l:List Int=>PyData.tuple (l.map PyData.int)) (xs:=B) (ρ:=[some (.d (bordsD (B.map fun l=>l.map PyData.int))),none])
  (fun _ ρ=>∃ u,ρ=[some (.d (bordsD (B.map fun l=>l.map PyData.int))),u]) ⟨none,rfl⟩ fun i l ρ j f=>by
  obtain ⟨u,e⟩:=f
  subst e
  obtain ⟨a,b,c⟩:=h l (A6 j)
  exact ⟨_,_,rfl,.inl (aOB a b c),_,rfl⟩
 unfold cQ
 rw[fJ]
 generalize bordsD (B.map fun l=>l.map PyData.int)=D at *
 simp only[dJ,b7,kS,eQ,nC,hi,q,gD,hU,dS,R.bind_ok,AJ,BJ,AL,AZ,Nat.reduceAdd,Nat.reduceSub,List.replicate,BA,BC,AT,AQ]
section
variable{rs:List Rw}{sg:Nat}{z:Str}{ps:List (Int×Int)}{s:Int×Int}
theorem aEE{c:Str}{fs:List (Str×Dz)}{a e b:Bool}{w:Str}
  (k0:([("LetBy",true),("ShutOut",true),("ForEver",true)]:List (Str×Bool)).lookup c=some true) (k1:([("LetBy",true),("ShutOut",false),("ForEver",false)]:List (Str×Bool)).lookup c=some a) (k2:([("LetBy",false),("ShutOut",true),("ForEver",false)]:List (Str×Bool)).lookup c=some e) (k3:([("LetBy",false),("ShutOut",false),("ForEver",true)]:List (Str×Bool)).lookup c=some b)
  (h:compL (stN 0) (e1 asB (eV 0)) (eV 0) [none] [.bool a,.bool e,.bool b]=.ok [.bool true]) (hx:∃ i:Nat,mT (.list [.bool a,.bool e,.bool b]) (.bool true)=.ok (.int (i:Int))/\dIx (.list [.str "by",.str "out",.str "ever"]) (.int (i:Int))=.ok (.str w)) :
  eJ [.o ⟨c,fs⟩]=.ok (.d (.str w)):=by
 obtain ⟨i,j,k⟩:=hx
 have f:cC (.list [.bool a,.bool e,.bool b])=.ok [.bool a,.bool e,.bool b]:=jL (by show 3<=_;decide)
 have g:dNe (.int ((1:Nat):Int)) (.int 1)=.ok (.bool false):=aGH (gQ _)
 simp only[eJ,kB,dJ,b7,gE,rH,eQ,fF,aLS,k0,k1,k2,k3,gG,j8,jK,jW,dU,dI,x0,o7,eI,dS,f,kP,h,qH,g,gD,hU,v6,aEB,j,k,R.bind_ok,EG,BI,CD,BP,AJ,BJ,Option.bind_none,AL,AZ,Nat.reduceAdd,Nat.reduceSub,Nat.reduceLeDiff,List.replicate,BA,BC,A5,A7,AT,AQ]
theorem aIP(b c d:Bool){i:Nat}(h:([.bool b,.bool c,.bool d]:List Dz).findIdx? (fun y=>PyData.eqv y (.bool true))=some i):mT (.list [.bool b,.bool c,.bool d]) (.bool true)=.ok (.int (i:Int)):=by
 unfold mT
 dsimp only
 rw[AE ⟨rfl,Sh.shaped (n:=1) (sh_lst fun x a=>by
  simp only[AG,AY,BR] at a
  rcases a with q|q|q<;>rw[q]<;>exact ⟨rfl,CM _⟩) (by decide),by show 3<=_;decide⟩,h]
theorem aOD{a:List Nat}(W:EndW rs a ps s):eJ [.o (dO rs a ps s)]=.ok (.d (.str (cU rs a))):=by
 cases W with
 | b w n e c=>rw[uL w,w];exact aEE rfl rfl rfl rfl rfl ⟨0,aIP _ _ _ rfl,lD (iO (j:=0) rfl)⟩
 | o w n e c=>rw[uM w,w];exact aEE rfl rfl rfl rfl rfl ⟨1,aIP _ _ _ rfl,lD (iO (j:=1) rfl)⟩
 | e w n q c=>rw[uN w,w];exact aEE rfl rfl rfl rfl rfl ⟨2,aIP _ _ _ rfl,lD (iO (j:=2) rfl)⟩
theorem aIQ(M:Mach rs sg)(S:cI sg z.cps.toList)(P:PathOk rs z.cps.toList ps s):Nbr (ps++[s]):=fun k a b e1 e2=>by
 have V:=P.val a (A6 e1)
 have f:=P.val b (A6 e2)
 have h:=P.step k a b e1 e2
 refine ⟨V.1,f.1,?_⟩
 unfold cD at h
 cases e:(bJ rs z.cps.toList a).1 with
 | w x=>rw[e] at h;cases h
 | n q=>
  rw[e] at h
  cases h
  have d:(bJ rs z.cps.toList a).2=1\/(bJ rs z.cps.toList a).2 = -1:=by
   by_cases c:a.1=0
   .left;unfold bJ;rw[AE c]
   .by_cases h1:a.1=(z.cps.toList.length:Int)+1
    .right;unfold bJ;rw[AI c,AE h1]
    .obtain ⟨l,j,g,i⟩:=mC M S V c h1
     unfold bJ
     rw[AI c,AI h1]
     simp only[g]
     exact i.2.2
  rcases d with d|d<;>rw[d]
  .left;rfl
  .right;show a.1 + -1=a.1 - 1;omega
theorem aCO(c:Nat):∀ l:List (Int×Int),(crL c l).length<=l.length
 | []=>by simp[crL]
 | [a]=>by simp[crL]
 | a::b::t=>by
  have:=aCO c (b::t)
  unfold crL
  rw[AU]
  have:(if brd a b=c then [b.2] else []).length<=1:=by split<;>simp
  simp at *
  omega
theorem aPF(l:List (Int×Int))(n:Nat):bdL l (List.replicate n [])=((List.range n).map fun c=>crL c l).map fun r=>r.map PyData.int:=by
 have a:(bdL l (List.replicate n [])).length=n:=by rw[rN,BL]
 refine List.ext_getElem? fun c=>?_
 by_cases h:c < n
 .have h2:=aJN c l (List.replicate n []) (by rw[BL];exact h)
  rw[A9,AH (by omega),Option.getD_some] at h2
  rw[AH (by omega),h2,A0,A0,List.getElem?_range h,A9,CU,AE h]
  rfl
 .rw[G8 (by omega),G8 (by simp;omega)]
theorem aLV(M:Mach rs sg)(S:cI sg z.cps.toList)(P:PathOk rs z.cps.toList ps s)(n:s∉ps)(u:ps.length < 3000):cQ [.d (bordsD (bdL (ps++[s]) (List.replicate (z.cps.toList.length+1) [])))]=.ok (.d (.bool true)):=by
 have j:=aIQ M S P
 have nd:(ps++[s]).Nodup:=by
  rw[C8]
  exact ⟨P.nd,by simp,fun a q b k e=>n (by rw[A1] at k;rw[<-k,<-e];exact q)⟩
 have i:=P.st0
 obtain ⟨t,p⟩:∃ t,ps++[s]=(0,0)::t:=by
  cases h:ps++[s] with
  | nil=>simp at h
  | cons a t=>rw[h] at i;simp at i;exact ⟨t,by rw[i]⟩
 rw[aPF]
 refine aOC (fun l g=>?_) (by have:=S.1;rw[AD,CC];omega)
 obtain ⟨c,r,rfl⟩:=C0.mp g
 have f:=aCO c (ps++[s])
 rw[AU] at f
 rw[p] at j nd f ⊢
 rw[BU] at nd
 obtain ⟨o,m⟩:=aPE (c:=c) j nd.2
 exact ⟨o,m,by simp at f ⊢;omega⟩
theorem w9{α:Type}(f:α->Bool):∀ xs:List α,nB (xs.map fun x=>PyData.bool (f x))=some (xs.map f)
 | []=>rfl
 | x::t=>by
  show (nB (t.map fun x=>PyData.bool (f x))).map (f x :: ·)=_
  rw[w9 f t];rfl
theorem aIR{α:Type}(f:α->Bool)(xs:List α):dAll (.list (xs.map fun x=>PyData.bool (f x)))=.ok (.bool (xs.all f)):=by
 show (match nB (xs.map fun x=>PyData.bool (f x)) with|some bs=>R.ok (PyData.bool (bs.all id))|none=>.bad)=_
 rw[w9]
 simp[List.all_map]
theorem aOE(M:Mach rs sg)(S:cI sg z.cps.toList)(hp:eH rs z.cps.toList=ps++[s])(P:PathOk rs z.cps.toList ps s)(W:EndW rs z.cps.toList ps s)(F:ps.length < 3000) :
  eK [.o (dO rs z.cps.toList ps s),.d (bR rs),.d (.str z)]=.ok (.d (.bool true)):=by
 have J:=aED M S hp
 have X:=aGA M S
 have Z:=aOD W
 have k:=word_of W
 have T:=fun (f:Sg->R A) (ρ:Sg)=>mt_says W (f:=f) (ρ:=ρ)
 have N:=fun (f:Sg->R A) (ρ:Sg)=>mt_stops W (f:=f) (ρ:=ρ)
 have I:=fun (i:Nat) (ρ:Sg)=>aGM W (i:=i) (ρ:=ρ)
 have K:=w8 ps s
 have Y:=aJG k
 have O:dNe (.tuple [.int s.1,.int s.2]) (prD s)=.ok (.bool false):=aGH (lE s)
 have L:dNe (.str (cU rs z.cps.toList)) (.str "ever")=.ok (.bool (decide (s∉ps))):=by
  rw[aN3 ⟨rfl,Sh.shaped (aOA k 1) (by decide)⟩ ⟨rfl,Sh.shaped (aOA (.inr (.inr rfl)) 1) (by decide)⟩]
  congr 2
  rw[<-decide_not]
  refine DO.mpr ?_
  have:PyData.str (cU rs z.cps.toList)=.str "ever"↔s∈ps:=by
   rw[PyData.str.injEq]
   have:=aA3 W
   exact DO.mp this
  exact not_congr this
 have U:=aPD (decide (s∉ps))
 have fw:=aLC
 have Q:∀ a b j g,vO 0 [some (A.o (dO rs z.cps.toList ps s)),some (.d a),some (.d b),j,g]=.ok (.o (dO rs z.cps.toList ps s)):=fun _ _ _ _=>rfl
 have k2:=fun a b j g=>T _ _ (Q a b j g)
 have k3:=fun a b j g=>N _ _ (Q a b j g)
 have V:=fun (a b:Dz) (j g:O6 A)=>(I 0 [some (A.o (dO rs z.cps.toList ps s)),some (.d a),some (.d b),j,g] rfl).1
 have k5:=fun (a b:Dz) (j g:O6 A)=>(I 0 [some (A.o (dO rs z.cps.toList ps s)),some (.d a),some (.d b),j,g] rfl).2
 clear T N I
 by_cases n:s∈ps
 .have m:cU rs z.cps.toList="ever":=(DO.mp (aA3 W)).mpr n
  have p:dO rs z.cps.toList ps s=aN9 ps s:=uN m
  have u:dEq (.str (cU rs z.cps.toList)) (.str "ever")=.ok (.bool true):=by rw[m];exact qL (.inr (.inr rfl)) (.inr (.inr rfl))
  have D:∀ a b j g,eOF 0 ["ForEver"] "first" [some (A.o (dO rs z.cps.toList ps s)),some (.d a),some (.d b),j,g]=.ok (.int (ps.idxOf s)):=fun _ _ _ _=>by rw[p];rfl
  have q2:∀ a b j g,eOF 0 ["ForEver"] "again" [some (A.o (dO rs z.cps.toList ps s)),some (.d a),some (.d b),j,g]=.ok (.int ps.length):=fun _ _ _ _=>by rw[p];rfl
  have hx:mT (.list ((ps++[s]).map prD)) (prD s)=.ok (.int (ps.idxOf s)):=by
   unfold mT
   dsimp only
   rw[AE ⟨lE s,uK,by rw[AD,AU];simp;omega⟩,v7 s ps [s] n]
  have e1:dEq (.int (ps.idxOf s:Int)) (.int (ps.idxOf s:Int))=.ok (.bool true):=uJ (gQ _)
  have e2:dEq (.int (ps.length:Int)) (.int (ps.length:Int))=.ok (.bool true):=uJ (gQ _)
  have C:(((ps++[s]).map prD).length:Int) - 1=(ps.length:Int):=by rw[AD,AU];simp
  clear p
  generalize dO rs z.cps.toList ps s=E at *
  generalize bR rs=md at *
  generalize (ps++[s]).map prD=PL at *
  generalize cU rs z.cps.toList=ww at *
  unfold eK hV
  simp only[dJ,b7,gF,gP,dU,dI,lC,aJK,J,X,Z,gE,t6,rH,eQ,fF,o6,eI,dS,hU,mN,Y,gG,k2,k3,V,k5,L,U,fw,l5,qF,K,O,j8,u,D,q2,aB8,v6,aEB,hx,e1,qH,z7,C,e2,gD,R.bind_ok,BP,EG,BI,CD,AJ,BJ,AL,AZ,Nat.reduceAdd,Nat.reduceSub,Nat.reduceLeDiff,List.replicate,BA,BC,A5,A7,AT,AQ]
 .have m:¬ cU rs z.cps.toList="ever":=fun h=>n ((DO.mp (aA3 W)).mp h)
  have u:dEq (.str (cU rs z.cps.toList)) (.str "ever")=.ok (.bool false):=by rw[qL k (.inr (.inr rfl)),BB m]
  have D:∀ a b j g,eOF 0 ["LetBy","ShutOut"] "borders" [some (A.o (dO rs z.cps.toList ps s)),some (.d a),some (.d b),j,g]=.ok (bordsD (bdL (ps++[s]) (List.replicate (z.cps.toList.length+1) []))):=fun _ _ _ _=>by
   cases W with
   | b w n e c=>rw[uL w];rfl
   | o w n e c=>rw[uM w];rfl
   | e w n' q c=>exact absurd n' n
  have v:=aQH M S P
  have y:=aLV M S P n F
  have hz:z.length<=16777216:=by rw[jZ];have:=S.1;omega
  have l:=t8 hz
  rw[jZ] at l
  have cp:=aPB (ps++[s]) (z.cps.toList.length+1)
  have eb:=uJ (Sh.shaped cp.2 (by decide))
  have iT:fW "tuple" (bordsD (bdL (ps++[s]) (List.replicate (z.cps.toList.length+1) [])))=.ok (.bool true):=rfl
  have t:(bdL (ps++[s]) (List.replicate (z.cps.toList.length+1) [])).length=z.cps.toList.length+1:=by rw[rN,BL]
  have G:cC (bordsD (bdL (ps++[s]) (List.replicate (z.cps.toList.length+1) [])))=.ok ((bdL (ps++[s]) (List.replicate (z.cps.toList.length+1) [])).map PyData.tuple):=z9 (by rw[AD,t];have:=S.1;omega)
  have r:compL (stN 0) lR (e1 (fW "tuple") (rV 0)) [none] ((bdL (ps++[s]) (List.replicate (z.cps.toList.length+1) [])).map PyData.tuple)=.ok ((bdL (ps++[s]) (List.replicate (z.cps.toList.length+1) [])).map fun _=>.bool true):=mO fun x _=>⟨_,rfl,rfl⟩
  have H:∀ B:List (List Dz),dAll (.list (B.map fun _=>.bool true))=.ok (.bool true):=fun B=>by rw[aIR (fun _=>true) B];simp
  generalize bdL (ps++[s]) (List.replicate (z.cps.toList.length+1) [])=B at *
  generalize dO rs z.cps.toList ps s=E at *
  generalize bR rs=md at *
  generalize (ps++[s]).map prD=PL at *
  generalize cU rs z.cps.toList=ww at *
  unfold eK hV
  simp only[dJ,b7,gF,gP,dU,dI,lC,aJK,J,X,Z,gE,t6,rH,eQ,fF,o6,eI,dS,hU,mN,Y,gG,k2,k3,V,k5,L,U,fw,l5,qF,K,O,j8,u,D,iT,x0,o7,G,kP,r,H,aB8,l,oG,v,eb,y,gD,R.bind_ok,BP,EG,BI,CD,Option.bind_none,AJ,BJ,AL,AZ,Nat.reduceAdd,Nat.reduceSub,Nat.reduceLeDiff,List.replicate,BA,BC,A5,A7,AT,AQ]
end
section
variable{rs:List Rw}{sg:Nat}{z:Str}
theorem aPG(M:Mach rs sg)(S:cI sg z.cps.toList):j6 2 bM [.d (bR rs)] [.str z]=.ok (.str (cU rs z.cps.toList)):=by
 obtain ⟨ps,s,b,P,W⟩:=aJL M S
 have c:=aCL M S b P W
 have m:=fun (f:Sg->R A) (ρ:Sg)=>mt_says W (f:=f) (ρ:=ρ)
 have e:fnF 2 bM ([PyData.str z].map A.d++[.d (bR rs)])=.ok (.d (.str (cU rs z.cps.toList))):=by
  have a:bG 2 j9 (aC (vV 1) (aC (vV 0) aU)) [some (A.d (.str z)),some (.d (bR rs))]=.ok (.o (dO rs z.cps.toList ps s)):=by
   simp only[gP,dU,dI,lC,c,R.bind_ok,BP,AL,AZ,Nat.reduceAdd,AT,AQ]
  have h:=m _ _ a
  unfold bM
  rw[dJ]
  have g:([PyData.str z].map A.d++[A.d (bR rs)]).map some++List.replicate (2 - ([PyData.str z].map A.d++[A.d (bR rs)]).length) none=[some (A.d (.str z)),some (.d (bR rs))]:=rfl
  rw[g,gD,h]
  rfl
 unfold j6
 rw[e];rfl
theorem aEF(M:Mach rs sg)(S:cI sg z.cps.toList)(k:rs.length<=5)(l:z.cps.toList.length<=57){D0 c:Dz}:l6 [some (.d D0),some (.d (bR rs)),some (.d c),some (.g 7 1 (j6 2 bM [.d (bR rs)])),some (.d (.str z))]=.ok (.nx [some (.d D0),some (.d (bR rs)),some (.d c),some (.g 7 1 (j6 2 bM [.d (bR rs)])),some (.d (.str z))]):=by
 obtain ⟨ps,s,b,P,W⟩:=aJL M S
 have f:=aCL M S b P W
 have a:ps.length < 3000:=by
  have:=P.few
  unfold jA at this
  have h2:(z.cps.toList.length+2) * rs.length<=59 * 5:=FK (by omega) k
  omega
 have j:=aOE M S b P W a
 have h:=aPG M S
 have i:=aGA M S
 have e:=aJG (word_of W)
 generalize j6 2 bM [.d (bR rs)]=G at *
 generalize dO rs z.cps.toList ps s=E at *
 generalize bR rs=m at *
 simp only[l6,gE,t6,rH,eQ,fF,o6,gP,dU,dI,lC,nC,f,j,mN,gG,aLU,h,and_self,i,e,j8,R.bind_ok,BP,EG,BI,CD,AL,AZ,Nat.reduceAdd,Nat.reduceLeDiff,AT,AQ]
end
theorem aIS{ns:List Int}:∃ (rs:List Rw) (z:Str) (sg:Nat),iK [.d (fB ns)]=.ok (.d (.tuple [bR rs,.str z]))/\Mach rs sg/\cI sg z.cps.toList/\rs.length<=5/\z.cps.toList.length<=57:=by
 obtain ⟨j,c⟩:=oH ns 0
 obtain ⟨a,e⟩:=oH ns 1
 obtain ⟨b,f⟩:=oH ns 2
 have k5:∀ y:Int,dMod (.int y) (.int 5)=.ok (.int (y % 5)):=fun y=>cO (by decide)
 have k3:∀ y:Int,dMod (.int y) (.int 3)=.ok (.int (y % 3)):=fun y=>cO (by decide)
 have s:∀ y:Int,dMod (.int y) (.int 4)=.ok (.int (y % 4)):=fun y=>cO (by decide)
 have u:∀ y:Int,dDiv (.int y) (.int 3)=.ok (.int (y / 3)):=fun y=>gU (by decide) (by decide)
 obtain ⟨n,q,t,w⟩:∃ n:Nat,1+j % 5=(n:Int)/\1<=n/\n<=5:=⟨(1+j % 5).toNat,by omega,by omega,by omega⟩
 obtain ⟨sg,v,s1,g⟩:∃ sg:Nat,1+a % 3=(sg:Int)/\1<=sg/\sg<=3:=⟨(1+a % 3).toNat,by omega,by omega,by omega⟩
 obtain ⟨k,r,i,A⟩:∃ k:Int,dIx (.list [.int 8,.int 8,.int 25,.int 57]) (.int (a / 3 % 4))=.ok (.int k)/\0 < k/\k<=57:=by
  rcases (by omega:a / 3 % 4=0\/a / 3 % 4=1\/a / 3 % 4=2\/a / 3 % 4=3) with h|h|h|h<;>rw[h]
  · exact ⟨8, rfl, by decide, by decide⟩
  · exact ⟨8, rfl, by decide, by decide⟩
  · exact ⟨25, rfl, by decide, by decide⟩
  · exact ⟨57, rfl, by decide, by decide⟩
 have l:dMod (.int b) (.int k)=.ok (.int (b % k)):=cO i
 obtain ⟨m,o,B⟩:∃ m:Nat,b % k=(m:Int)/\m<=57:=by
  have h1:=CZ b (show k≠0 by omega)
  have h2:=CJ b i
  exact ⟨(b % k).toNat,by omega,by omega⟩
 rw[o] at l
 obtain ⟨rs,e1,M,x⟩:=aNV (ns:=ns) (at':=6) (n:=n) (sg:=sg) (by decide) t (by omega) s1 g
 obtain ⟨z,e2,S,p⟩:=aLB (ns:=ns) (at':=11) (m:=m) (sg:=sg) (by decide) (by omega) s1 g
 refine ⟨rs,z,sg,?_,M,S,by omega,by omega⟩
 unfold iK mQ
 simp[c,e,f,k5,k3,s,u,q,v,r,l,e1,e2]
theorem aIT:∀ ns:List Int,ns.length<=63->aD8 [.d (.list (ns.map .int))]=.ok (.d (.bool true)):=by
 intro ns m
 rw[show PyData.list (ns.map .int)=fB ns from rfl]
 obtain ⟨rs,z,sg,p,M,S,b,a⟩:=aIS (ns:=ns)
 have n:cI sg ("":Str).cps.toList:=⟨by decide,fun c r=>(nomatch (show c∈([]:List Nat) from r))⟩
 have f:rM [.d (bR rs)]=.ok (.g 7 1 (j6 2 bM [.d (bR rs)])):=rfl
 have h:cC (.list [.str z,.str "",.str z])=.ok [.str z,.str "",.str z]:=jL (by show 3<=_;decide)
 obtain ⟨l,q,u,rfl⟩:=kU (fs:=stN 4) (fb:=l6) (d:=PyData.str) (xs:=[z,"",z]) (ρ:=[some (.d (fB ns)),some (.d (bR rs)),some (.d (.str z)),some (.g 7 1 (j6 2 bM [.d (bR rs)])),none])
  (fun _ ρ=>∃ u,ρ=[some (.d (fB ns)),some (.d (bR rs)),some (.d (.str z)),some (.g 7 1 (j6 2 bM [.d (bR rs)])),u]) ⟨none,rfl⟩ fun i y ρ o j=>by
  obtain ⟨u,e⟩:=j
  subst e
  have k:=A6 o
  simp only[AG,AY,BR] at k
  refine ⟨_,[some (.d (fB ns)),some (.d (bR rs)),some (.d (.str z)),some (.g 7 1 (j6 2 bM [.d (bR rs)])),some (.d (.str y))],rfl,.inl ?_,some (.d (.str y)),rfl⟩
  rcases k with rfl|rfl|rfl
  · exact aEF M S b a
  · exact aEF M n b (by decide)
  · exact aEF M S b a
 rw[show ([z,"",z]:List Str).map PyData.str=[.str z,.str "",.str z] from rfl] at q
 unfold aD8
 rw[aD7]
 generalize j6 2 bM [.d (bR rs)]=G at *
 generalize bR rs=s at *
 generalize fB ns=t at *
 simp only[dJ,b7,aK7,aF3,zW,aB6,oE,iF,o6,gP,dU,dI,lC,p,mN,gF,f,kS,eQ,x0,jW,nC,dS,h,q,gD,hU,R.bind_ok,BP,DA,AJ,BJ,AL,AZ,Nat.reduceAdd,Nat.reduceSub,Nat.reduceLeDiff,List.replicate,BA,BC,A5,A7,AT,AQ]
end Mc
namespace L2
open PySem PySem.Spec PyProof.Rows
theorem tF{K:Frag}{C:Az}(a:PySem.W.nsIn K cStatics "thirdparty.any"=some none)(b:PySem.W.typeIn K (.ref C)=some (.type "type"))(c:PySem.W.findIn K (.type "type") "__getattribute__"=some (some (.builtin "type.__getattribute__")))(d:PySem.W.subIn K (.type "type") (.type "type")=some true):PySem.W.readsIn K C (.type "type")=true:=by
 unfold PySem.W.readsIn
 rw[a,b,c,d]
 rfl
theorem aEG{K:Frag}{C f:Az}{g:V9}(a:PySem.W.findIn K (.type "type") "__init__"=some (some (.builtin "type.__init__")))(b:PySem.W.specialIn K (.builtin "type.__init__") "__get__"=some (some g))(c:PySem.W.takesIn K (.builtin "type.__init__")=some false)
  (d:PySem.W.findIn K (.ref C) "__init__"=some (some (.ref f))) (e:PySem.W.typeIn K (.ref f)=some (.type "function")):PySem.W.findCls K (.ref C) (.type "type") "__init__"=some (.val (.ref f)):=by
 unfold PySem.W.findCls
 rw[a]
 simp only[DA,b,c,d]
 rw[AI (by intro z;cases z),e]
 rfl
end L2
namespace Mc
open PySem L2 PyProof.Rows Fl
section
variable{P:P9}{w:W9}{K:Frag}{mg:Str->O6 V9}{base:Hz}{TH:Hp}
theorem uP:FnScope ["self","at"] ["self","at"] (aE (aM (top 3) 0)):=by constructor<;>first|rfl|decide +kernel
theorem uQ{f W C:Az}{fd:FuncData}(F:Fun K "__init__" "NoStrip.__init__" (aM (top 3) 0) f fd)(c:SX.ExcC K W C)(n1:PySem.W.findIn K (.ref C) "at"=some none) :
  FnOk P w K mg base CX0 1 f fd ["self","at"] (spI C ["at"]):=by
 refine F.ok uP (fun vs H Q E h=>?_) (fun i A outer s H vs Q E k h=>?_)
 .obtain ⟨e,xs,rfl,a,_⟩:=h
  rw[AL,a];rfl
 .obtain ⟨e,xs,rfl,a,g,q⟩:=h
  obtain ⟨x,rfl⟩:∃ x,xs=[x]:=Mc.bn1 (P:=fun xs=>∃ x,xs=[x]) (fun x=>⟨x,rfl⟩) xs a
  refine ⟨_,L2.aN (aJ5 (pv 0) (pv 1) rfl),?_⟩
  refine ⟨_,rfl,_,rfl,e,W,C,rfl,c,n1,.inl ⟨g,fun d j b=>?_⟩⟩
  exact q d j b
def kD (K : Frag) (mg : Str -> O6 V9) : Prop := ∃ W C, SX.ExcC K W C /\ mg "NoStrip" = some (.ref C) /\ PySem.W.findIn K (.ref C) "at" = some none /\
      ∃ fI fdI, Fun K "__init__" "NoStrip.__init__" (aM (top 3) 0) fI fdI /\ cV K fdI ["self", "at"] [] /\ PySem.W.findIn K (.ref C) "__init__" = some (some (.ref fI)) /\ PySem.W.typeIn K (.ref fI) = some (.type "function")
theorem v9(h:kD K mg):∃ W C,ErrAt P w K mg base "NoStrip" ["at"] W C:=by
 obtain ⟨W,C,a,m,b,fI,fdI,d,c,e,tI⟩:=h
 have I:=uQ (P:=P) (w:=w) (mg:=mg) (base:=base) d a b
 exact ⟨W,C,a,m,fun f g=>by rw[A1.mp g];exact b,fI,fdI,I,e,tI,c⟩
theorem wA:FnScope ["self","place","room"] ["self","place","room"] (aE (aM (top 12) 0)):=by constructor<;>first|rfl|decide +kernel
theorem k6{f:Az}{fd:FuncData}(F:Fun K "__init__" "Ending.__init__" (aM (top 12) 0) f fd):FnOk P w K mg base CX0 1 f fd ["self","place","room"] (spB K ["place","room"]):=by
 refine F.ok wA (fun vs H Q E h=>?_) (fun e A outer s H vs Q E i h=>?_)
 .obtain ⟨x,C,dx,us,rfl,c,_⟩:=h
  rw[AL,c];rfl
 .obtain ⟨x,C,dx,us,rfl,c,g,cl,d,q⟩:=h
  obtain ⟨b,a,rfl⟩:∃ b a,us=[b,a]:=match us,c with|[b,a],_=>⟨b,a,rfl⟩
  refine ⟨_,L2.aG (nX (pv 0) (pv 1) rfl) (L2.aN (nX (pv 0) (pv 2) rfl)),?_⟩
  refine ⟨_,rfl,_,rfl,x,C,dx,_,rfl,g,cl,d _ (by decide),(show (0:Nat) < 1000 by decide),?_⟩
  refine ⟨_,rfl,_,rfl,x,C,dx,_,rfl,aQ,cl,d _ (by decide),(show (1:Nat) < 1000 by decide),?_⟩
  rw[L2.iN];exact q
theorem xH:FnScope ["self","place","room","borders"] ["self","place","room","borders"] (aE (aM (top 13) 0)):=by constructor<;>first|rfl|decide +kernel
theorem xI{f C CE i:Az}{fd b:FuncData}(F:Fun K "__init__" "LetBy.__init__" (aM (top 13) 0) f fd)(k:FnOk P w K mg base CX0 1 i b ["self","place","room"] (spB K ["place","room"]))(m:cV K b ["self","place","room"] [])(cm:ClsM K CE "__init__" i)(l:mg "Ending"=some (.ref CE))(cl:Cls K C)(g:∀ f∈(["place","room","borders"]:List Str),cR K C f):FnOk P w K mg base CX0 2 f fd ["self","place","room","borders"] (spO C ["place","room","borders"]):=by
 refine F.ok xH (fun vs H Q E h=>?_) (fun n A outer s H vs Q E o h=>?_)
 .obtain ⟨x,dx,us,rfl,e,_⟩:=h
  rw[AL,e];rfl
 .obtain ⟨x,dx,us,rfl,e,p,q⟩:=h
  obtain ⟨a,c,d,rfl⟩:∃ a c d,us=[a,c,d]:=match us,e with|[a,c,d],_=>⟨a,c,d,rfl⟩
  refine ⟨_,L2.aG (L2.eR (vS (f6 (v:=.ref CE) rfl l rfl) cm k o m .nil xQ (aK (pv 0) (aK (pv 1) (aK (pv 2) aT))))) (L2.aN (nX (pv 0) (pv 3) rfl)),?_⟩
  refine ⟨rfl,_,rfl,_,rfl,_,rfl,x,C,dx,[a,c],rfl,rfl,p,cl,fun f j=>g f (by simp only[AG,AY,BR] at j ⊢;rcases j with h|h<;>simp[h]),?_⟩
  refine ⟨_,rfl,_,rfl,x,C,dx,_,rfl,aQ,cl,g _ (by decide),(show (2:Nat) < 1000 by decide),?_⟩
  rw[L2.iN];exact q
def nL(K:Frag)(mg:Str->O6 V9):Prop:=∃ CE fE fdE C fI fdI,mg "Ending"=some (.ref CE)/\ClsM K CE "__init__" fE/\Fun K "__init__" "Ending.__init__" (aM (top 12) 0) fE fdE/\cV K fdE ["self","place","room"] []/\mg "LetBy"=some (.ref C)/\Cls K C/\(∀ f∈(["place","room","borders"]:List Str),cR K C f)/\Mk K C fI/\Fun K "__init__" "LetBy.__init__" (aM (top 13) 0) fI fdI/\cV K fdI ["self","place","room","borders"] []
theorem aBG(h:nL K mg):∃ C,MkAt P w K mg base 2 "LetBy" ["place","room","borders"] C:=by
 obtain ⟨CE,j,f,C,fI,fdI,g,cm,b,d,i,cl,a,M,e,c⟩:=h
 exact ⟨C,i,fI,fdI,M,xI e (k6 b) d cm g cl a,c⟩
theorem uR:FnScope ["self","place","room","borders"] ["self","place","room","borders"] (aE (aM (top 14) 0)):=by constructor<;>first|rfl|decide +kernel
theorem uS{f C CE i:Az}{fd b:FuncData}(F:Fun K "__init__" "ShutOut.__init__" (aM (top 14) 0) f fd)(k:FnOk P w K mg base CX0 1 i b ["self","place","room"] (spB K ["place","room"]))(m:cV K b ["self","place","room"] [])(cm:ClsM K CE "__init__" i)(l:mg "Ending"=some (.ref CE))(cl:Cls K C)(g:∀ f∈(["place","room","borders"]:List Str),cR K C f):FnOk P w K mg base CX0 2 f fd ["self","place","room","borders"] (spO C ["place","room","borders"]):=by
 refine F.ok uR (fun vs H Q E h=>?_) (fun n A outer s H vs Q E o h=>?_)
 .obtain ⟨x,dx,us,rfl,e,_⟩:=h
  rw[AL,e];rfl
 .obtain ⟨x,dx,us,rfl,e,p,q⟩:=h
  obtain ⟨a,c,d,rfl⟩:∃ a c d,us=[a,c,d]:=match us,e with|[a,c,d],_=>⟨a,c,d,rfl⟩
  refine ⟨_,L2.aG (L2.eR (vS (f6 (v:=.ref CE) rfl l rfl) cm k o m .nil xQ (aK (pv 0) (aK (pv 1) (aK (pv 2) aT))))) (L2.aN (nX (pv 0) (pv 3) rfl)),?_⟩
  refine ⟨rfl,_,rfl,_,rfl,_,rfl,x,C,dx,[a,c],rfl,rfl,p,cl,fun f j=>g f (by simp only[AG,AY,BR] at j ⊢;rcases j with h|h<;>simp[h]),?_⟩
  refine ⟨_,rfl,_,rfl,x,C,dx,_,rfl,aQ,cl,g _ (by decide),(show (2:Nat) < 1000 by decide),?_⟩
  rw[L2.iN];exact q
def lG(K:Frag)(mg:Str->O6 V9):Prop:=∃ CE fE fdE C fI fdI,mg "Ending"=some (.ref CE)/\ClsM K CE "__init__" fE/\Fun K "__init__" "Ending.__init__" (aM (top 12) 0) fE fdE/\cV K fdE ["self","place","room"] []/\mg "ShutOut"=some (.ref C)/\Cls K C/\(∀ f∈(["place","room","borders"]:List Str),cR K C f)/\Mk K C fI/\Fun K "__init__" "ShutOut.__init__" (aM (top 14) 0) fI fdI/\cV K fdI ["self","place","room","borders"] []
theorem xJ(h:lG K mg):∃ C,MkAt P w K mg base 2 "ShutOut" ["place","room","borders"] C:=by
 obtain ⟨CE,j,f,C,fI,fdI,g,cm,b,d,i,cl,a,M,e,c⟩:=h
 exact ⟨C,i,fI,fdI,M,uS e (k6 b) d cm g cl a,c⟩
theorem uT:FnScope ["self","place","room","first","again"] ["self","place","room","first","again"] (aE (aM (top 15) 0)):=by constructor<;>first|rfl|decide +kernel
theorem uU{f C CE j:Az}{fd b:FuncData}(F:Fun K "__init__" "ForEver.__init__" (aM (top 15) 0) f fd)(l:FnOk P w K mg base CX0 1 j b ["self","place","room"] (spB K ["place","room"]))(n:cV K b ["self","place","room"] [])(cm:ClsM K CE "__init__" j)(m:mg "Ending"=some (.ref CE))(cl:Cls K C)(g:∀ f∈(["place","room","first","again"]:List Str),cR K C f):FnOk P w K mg base CX0 2 f fd ["self","place","room","first","again"] (spO C ["place","room","first","again"]):=by
 refine F.ok uT (fun vs H Q E h=>?_) (fun o A outer s H vs Q E p h=>?_)
 .obtain ⟨x,dx,us,rfl,i,_⟩:=h
  rw[AL,i];rfl
 .obtain ⟨x,dx,us,rfl,i,r,q⟩:=h
  obtain ⟨a,c,d,e,rfl⟩:∃ a c d e,us=[a,c,d,e]:=match us,i with|[a,c,d,e],_=>⟨a,c,d,e,rfl⟩
  refine ⟨_,L2.aG (L2.eR (vS (f6 (v:=.ref CE) rfl m rfl) cm l p n .nil xQ (aK (pv 0) (aK (pv 1) (aK (pv 2) aT))))) (L2.aG (nX (pv 0) (pv 3) rfl) (L2.aN (nX (pv 0) (pv 4) rfl))),?_⟩
  refine ⟨rfl,_,rfl,_,rfl,_,rfl,x,C,dx,[a,c],rfl,rfl,r,cl,fun f k=>g f (by simp only[AG,AY,BR] at k ⊢;rcases k with h|h<;>simp[h]),?_⟩
  refine ⟨_,rfl,_,rfl,x,C,dx,_,rfl,aQ,cl,g _ (by decide),(show (2:Nat) < 1000 by decide),?_⟩
  refine ⟨_,rfl,_,rfl,x,C,dx,_,rfl,aQ,cl,g _ (by decide),(show (3:Nat) < 1000 by decide),?_⟩
  rw[L2.iN,L2.iN];exact q
def lH(K:Frag)(mg:Str->O6 V9):Prop:=∃ CE fE fdE C fI fdI,mg "Ending"=some (.ref CE)/\ClsM K CE "__init__" fE/\Fun K "__init__" "Ending.__init__" (aM (top 12) 0) fE fdE/\cV K fdE ["self","place","room"] []/\mg "ForEver"=some (.ref C)/\Cls K C/\(∀ f∈(["place","room","first","again"]:List Str),cR K C f)/\Mk K C fI/\Fun K "__init__" "ForEver.__init__" (aM (top 15) 0) fI fdI/\cV K fdI ["self","place","room","first","again"] []
theorem xK(h:lH K mg):∃ C,MkAt P w K mg base 2 "ForEver" ["place","room","first","again"] C:=by
 obtain ⟨CE,j,f,C,fI,fdI,g,cm,b,d,i,cl,a,M,e,c⟩:=h
 exact ⟨C,i,fI,fdI,M,uU e (k6 b) d cm g cl a,c⟩
def MtK(K:Frag)(mg:Str->O6 V9)(c m q:Str)(st:Stmt):Prop:=∃ C f fd,mg c=some (.ref C)/\Cls K C/\Meth K C m f/\Fun K m q st f fd/\cV K fd ["self"] []
theorem aLW(T:Txt w K mg)(Er_NoStrip:kD K mg)(Ob_LetBy:nL K mg)(Ob_ShutOut:lG K mg)(Ob_ForEver:lH K mg)(O:iY K mg ["LetBy","ShutOut","ForEver"] "room")(I:iY K mg ["LetBy","ShutOut","ForEver"] "place")(M:iY K mg ["ForEver"] "again")(N:iY K mg ["ForEver"] "first")(v:iY K mg ["LetBy","ShutOut"] "borders")(Mt_LetBy_says:MtK K mg "LetBy" "says" "LetBy.says" (aM (top 13) 1))(Mt_ShutOut_says:MtK K mg "ShutOut" "says" "ShutOut.says" (aM (top 14) 1))(Mt_ForEver_says:MtK K mg "ForEver" "says" "ForEver.says" (aM (top 15) 1))(Mt_LetBy_stops:MtK K mg "LetBy" "stops" "LetBy.stops" (aM (top 13) 2))(Mt_ShutOut_stops:MtK K mg "ShutOut" "stops" "ShutOut.stops" (aM (top 14) 2))(Mt_ForEver_stops:MtK K mg "ForEver" "stops" "ForEver.stops" (aM (top 15) 2))(G:∃ D,mg "Ending"=some (.ref D)/\IsO K mg "Ending" [("LetBy",true),("ShutOut",true),("ForEver",true)])(y:∃ D,mg "ForEver"=some (.ref D)/\IsO K mg "ForEver" [("LetBy",false),("ShutOut",false),("ForEver",true)])(z:∃ D,mg "ShutOut"=some (.ref D)/\IsO K mg "ShutOut" [("LetBy",false),("ShutOut",true),("ForEver",false)])(J:∃ D,mg "LetBy"=some (.ref D)/\IsO K mg "LetBy" [("LetBy",true),("ShutOut",false),("ForEver",false)])(D7:DefAt K mg "signs_of" (top 7) ["machine"])(D8:DefAt K mg "checked_by" (top 8) ["signs","strip"])(D9:DefAt K mg "checked" (top 9) ["machine","strip"])(af:DefAt K mg "cell_at" (top 16) ["machine","strip","stand"])(aj:DefAt K mg "path" (top 17) ["machine","strip"])(ao:DefAt K mg "borders_of" (top 18) ["stands","strip"])(ay:DefAt K mg "walk" (top 19) ["machine","strip"])(ae:DefAtT K mg base TH qsT "sayer" (top 20) ["machine"])(ax:DefAt K mg "_law_truth" (top 22) ["_law_found","_law_due"])(au:DefAt K mg "_law_cell" (top 23) ["_law_script","_law_k"])(ai:DefAt K mg "_law_end" (top 24) ["_law_number","_law_rooms"])(am:DefAt K mg "_law_digit_row" (top 25) ["_law_number","_law_rooms","_law_signs"])(aq:DefAt K mg "_law_mixed_row" (top 26) ["_law_number","_law_rooms","_law_signs"])(Y:DefAt K mg "_law_machine" (top 27) ["_law_script","_law_at","_law_rooms","_law_signs"])(ak:DefAt K mg "_law_strip" (top 28) ["_law_script","_law_at","_law_size","_law_signs"])(ag:DefAt K mg "_law_step" (top 29) ["_law_machine_here","_law_strip_here","_law_stand"])(ap:DefAt K mg "_law_stands" (top 30) ["_law_machine_here","_law_strip_here"])(av:DefAt K mg "_law_says" (top 31) ["_law_machine_here","_law_strip_here"])(ac:DefAt K mg "_law_whole" (top 32) ["_law_found"])(aa:DefAt K mg "_law_borders" (top 33) ["_law_stands_here","_law_many"])(ah:DefAt K mg "_law_drawn" (top 34) ["_law_script"])(al:DefAt K mg "_law_kind" (top 35) ["_law_found"])(Z:DefAt K mg "_law_crossed_once" (top 36) ["_law_borders_here"])(aw:DefAt K mg "_law_told" (top 37) ["_law_found","_law_machine_here","_law_strip_here"]){fL:Az}{W:FuncData}(FL:Fun K "law" "law" (top 38) fL W):FnOk P w K mg base (CXe P w) 13 fL W ["_law_script"] (aDO K TH):=by
 obtain ⟨W_NoStrip,C_NoStrip,x⟩:=v9 (P:=P) (w:=w) (base:=base) Er_NoStrip
 obtain ⟨Co_LetBy,L⟩:=aBG (P:=P) (w:=w) (base:=base) Ob_LetBy
 obtain ⟨Co_ShutOut,E⟩:=xJ (P:=P) (w:=w) (base:=base) Ob_ShutOut
 obtain ⟨Co_ForEver,u⟩:=xK (P:=P) (w:=w) (base:=base) Ob_ForEver
 have mt_says:∀ p∈[(("LetBy":Str),eG),(("ShutOut":Str),dL),(("ForEver":Str),dM)],qN P w K mg base TH 1 p.1 "says" p.2:=by
  intro p X
  simp only[AG,AY,BR] at X
  rcases X with rfl|rfl|rfl
  .obtain ⟨C,f,fd,h1,h2,Q,S,U⟩:=Mt_LetBy_says
   exact ⟨C,f,fd,h1,h2,Q,vX T S ,U⟩
  .obtain ⟨C,f,fd,h1,h2,Q,S,U⟩:=Mt_ShutOut_says
   exact ⟨C,f,fd,h1,h2,Q,tD T S ,U⟩
  .obtain ⟨C,f,fd,h1,h2,Q,S,U⟩:=Mt_ForEver_says
   exact ⟨C,f,fd,h1,h2,Q,tE T S ,U⟩
 have mt_stops:∀ p∈[(("LetBy":Str),gX),(("ShutOut":Str),fR),(("ForEver":Str),fS)],qN P w K mg base TH 1 p.1 "stops" p.2:=by
  intro p X
  simp only[AG,AY,BR] at X
  rcases X with rfl|rfl|rfl
  .obtain ⟨C,f,fd,h1,h2,Q,S,U⟩:=Mt_LetBy_stops
   exact ⟨C,f,fd,h1,h2,Q,uD T S ,U⟩
  .obtain ⟨C,f,fd,h1,h2,Q,S,U⟩:=Mt_ShutOut_stops
   exact ⟨C,f,fd,h1,h2,Q,rS T S ,U⟩
  .obtain ⟨C,f,fd,h1,h2,Q,S,U⟩:=Mt_ForEver_stops
   exact ⟨C,f,fd,h1,h2,Q,rT T S ,U⟩
 have A:=@aBE P w K mg base TH T D7
 have r:=xB (P:=P) (w:=w) (base:=base) (TH:=TH) T D8 x
 have F:=@aD9 P w K mg base TH T D9 r A
 have k:=@aEA P w K mg base TH T af
 have V:=@aLL P w K mg base TH T aj F k
 have l:=@xC P w K mg base TH T ao
 have H:=aLM (P:=P) (w:=w) (base:=base) (TH:=TH) T ay V k l L E u
 have R:=@aII P w K mg base TH T ae H mt_says
 have m:=@xD P w K mg base TH T ax
 have a:=@aAS P w K mg base TH T au
 have B:=@aBF P w K mg base TH T ai
 have h:=@rY P w K mg base TH T am
 have g:=@rZ P w K mg base TH T aq B
 have i:=@uG P w K mg base TH T Y h g a
 have o:=@xE P w K mg base TH T ak a
 have d:=@aAT P w K mg base TH T ag
 have b:=@vY P w K mg base TH T ap d
 have e:=@aAU P w K mg base TH T av b d
 have q:=@xF P w K mg base TH T ac
 have j:=@uH P w K mg base TH T aa
 have n:=@xG P w K mg base TH T ah a o i
 have t:=@aAV P w K mg base TH T al G y z J
 have c:=@pD P w K mg base TH T Z
 have s:=@aAW P w K mg base TH T aw b e m t q c j O I M N v mt_stops mt_says
 exact aNG (aN2 (P:=P) (w:=w) (base:=base) (TH:=TH) T FL n R e s H) aIT
end
section
variable{w:W9}{K:Frag}{h:Hz}{mg:Str->O6 V9}
theorem aOF(X:K.In h)(G:h.Ns mainGlobals mg){a:Az}{c:Nat}{b:Az}(z_all:PySem.W.nsIn K mainGlobals "all"=some none)(z_bool:PySem.W.nsIn K mainGlobals "bool"=some none)(z_enumerate:PySem.W.nsIn K mainGlobals "enumerate"=some none)(z_int:PySem.W.nsIn K mainGlobals "int"=some none)(z_isinstance:PySem.W.nsIn K mainGlobals "isinstance"=some none)(z_len:PySem.W.nsIn K mainGlobals "len"=some none)(z_min:PySem.W.nsIn K mainGlobals "min"=some none)(z_range:PySem.W.nsIn K mainGlobals "range"=some none)(z_set:PySem.W.nsIn K mainGlobals "set"=some none)(z_str:PySem.W.nsIn K mainGlobals "str"=some none)(z_tuple:PySem.W.nsIn K mainGlobals "tuple"=some none)(z_zip:PySem.W.nsIn K mainGlobals "zip"=some none)(s_BEGIN:PySem.W.nsIn K mainGlobals "BEGIN"=some (some (.ref a)))(m_BEGIN:oP K a [.int 0,.int 0])(s_SIGNS:PySem.W.nsIn K mainGlobals "SIGNS"=some (some (.str "abc" c)))(s_STOPS:PySem.W.nsIn K mainGlobals "STOPS"=some (some (.ref b)))(m_STOPS:oP K b [.str "by",.str "out"]):Txt w K mg:=⟨BX X G z_all,BX X G z_bool,BX X G z_enumerate,BX X G z_int,BX X G z_isinstance,BX X G z_len,BX X G z_min,BX X G z_range,BX X G z_set,BX X G z_str,BX X G z_tuple,BX X G z_zip,⟨a,B1 X G s_BEGIN,m_BEGIN⟩,⟨c,B1 X G s_SIGNS⟩,⟨b,B1 X G s_STOPS,m_STOPS⟩⟩
theorem xL(X:K.In h)(G:h.Ns mainGlobals mg){W C fI r:Az}{e b:List V9}{f o:Str}{j:Bool}{g:List Str}{a:O6 Bool}{d:O6 Az}{c0 l p n q:O6 V9}
  {s:V9} {od t:O6 Az} {i:Array (O6 V9)} {kV doc pm c ct:V9}
  (m:PySem.W.nsIn K mainGlobals "NoStrip"=some (some (.ref C)))
  (e1:K.lookup C=some (excClassObj f o C r e (.ref W::SX.iB) true g b j a d c0 l p n q "ValueError.__new__"))
  (e2:PySem.W.findIn K (.ref C) "__setattr__"=some (some (.builtin "object.__setattr__"))) (e3:PySem.W.findIn K (.ref C) "__getattribute__"=some (some (.builtin "BaseException.__getattribute__"))) (e4:PySem.W.findIn K (.ref C) "__getattr__"=some none) (e5:PySem.W.findIn K (.ref C) "__class__"=some (some (.builtin "object.__class__")))
  (e6:PySem.W.specialIn K (.builtin "object.__class__") "__get__"=some (some (.builtin "getset_descriptor.__get__"))) (e7:PySem.W.takesIn K (.builtin "object.__class__")=some true) (e8:PySem.W.keepIn K (.ref C)=true)
  (p1:PySem.W.findIn K (.ref C) "at"=some none)
  (i1:PySem.W.findIn K (.ref C) "__init__"=some (some (.ref fI))) (i2:K.lookup fI=some ⟨s,od,.func (PySem.W.fnOf "__init__" "NoStrip.__init__" (cZ (aM (top 3) 0)) (bY (aM (top 3) 0)) (aE (aM (top 3) 0)) .none kV doc pm t c ct),i⟩) (i3:PySem.W.codeIn K c "NoStrip.__init__"=true) (i4:PySem.W.keepIn K (.ref fI)=true) (i5:PySem.W.typeIn K (.ref fI)=some (.type "function")):kD K mg:=by
 have k:=i6 (st:=aM (top 3) 0) i2 i3 i4
 exact ⟨W,C,aJ7 e1 e2 e3 e4 e5 e6 e7 e8,B1 X G m,p1,fI,_,k,k.binds (ps:=["self","at"]) (fun _ _ _ _ _ _=>Mc.bn2 fun _ _=>rfl),i1,i5⟩
theorem aBH(X:K.In h)(G:h.Ns mainGlobals mg){CE C:Az}{g:V9}{b:Az}{q:V9}{t r:O6 Az}{k:Array (O6 V9)}{l i v a n:V9}{d:Az}{w:V9}{o p:O6 Az}{j:Array (O6 V9)}{m e u c s:V9}(m1:PySem.W.nsIn K mainGlobals "Ending"=some (some (.ref CE)))(s1:PySem.W.specialIn K (.ref CE) "__getattribute__"=some (some (.builtin "type.__getattribute__")))
  (r1:PySem.W.nsIn K cStatics "thirdparty.any"=some none) (r2:PySem.W.typeIn K (.ref CE)=some (.type "type")) (r3:PySem.W.findIn K (.type "type") "__getattribute__"=some (some (.builtin "type.__getattribute__"))) (r4:PySem.W.subIn K (.type "type") (.type "type")=some true)
  (q1:PySem.W.findIn K (.type "type") "__init__"=some (some (.builtin "type.__init__"))) (q2:PySem.W.specialIn K (.builtin "type.__init__") "__get__"=some (some g)) (q3:PySem.W.takesIn K (.builtin "type.__init__")=some false) (q4:PySem.W.findIn K (.ref CE) "__init__"=some (some (.ref b))) (q5:PySem.W.typeIn K (.ref b)=some (.type "function"))
  (e_l:K.lookup b=some ⟨q,t,.func (PySem.W.fnOf "__init__" "Ending.__init__" (cZ (aM (top 12) 0)) (bY (aM (top 12) 0)) (aE (aM (top 12) 0)) .none l i v r a n),k⟩) (e_c:PySem.W.codeIn K a "Ending.__init__"=true) (e_k:PySem.W.keepIn K (.ref b)=true)
  (m2:PySem.W.nsIn K mainGlobals "LetBy"=some (some (.ref C))) (p1:PySem.W.plainGet K C Str.empty=true) (p2:PySem.W.hasDictIn K C=true) (p3:PySem.W.plainOver K C=true) (p4:PySem.W.findIn K (.ref C) "__setattr__"=some (some (.builtin "object.__setattr__")))
  (n0:PySem.W.findIn K (.ref C) "place"=some none) (n1:PySem.W.findIn K (.ref C) "room"=some none) (n2:PySem.W.findIn K (.ref C) "borders"=some none) (k1:PySem.W.makesIn K C=true) (k2:PySem.W.findIn K (.ref C) "__init__"=some (some (.ref d))) (k3:PySem.W.isFn K (.ref d)=true) (k4:PySem.W.keepIn K (.ref C)=true)
  (i_l:K.lookup d=some ⟨w,o,.func (PySem.W.fnOf "__init__" "LetBy.__init__" (cZ (aM (top 13) 0)) (bY (aM (top 13) 0)) (aE (aM (top 13) 0)) .none m e u p c s),j⟩) (i_c:PySem.W.codeIn K c "LetBy.__init__"=true) (i_k:PySem.W.keepIn K (.ref d)=true):nL K mg:=by
 have x:=i6 (st:=(aM (top 12) 0)) e_l e_c e_k
 have z:=i6 (st:=(aM (top 13) 0)) i_l i_c i_k
 exact ⟨CE,b,_,C,d,_,B1 X G m1,⟨s1,tF r1 r2 r3 r4,aEG q1 q2 q3 q4 q5,e_k⟩,x,x.binds (ps:=["self","place","room"]) (fun _ _ _ _ _ _=>Mc.bn3 fun _ _ _=>rfl),B1 X G m2,⟨p1,p2,p3,p4⟩,fun f y=>by
  simp only[AG,AY,BR] at y
  rcases y with rfl|rfl|rfl
  · exact n0
  · exact n1
  · exact n2, ⟨k1, k2, k3, k4⟩, z, z.binds (ps := ["self", "place", "room", "borders"]) (fun _ _ _ _ _ _ => Mc.bn4 fun _ _ _ _ => rfl)⟩
theorem xM(X:K.In h)(G:h.Ns mainGlobals mg){CE C:Az}{g:V9}{b:Az}{q:V9}{t r:O6 Az}{k:Array (O6 V9)}{l i v a n:V9}{d:Az}{w:V9}{o p:O6 Az}{j:Array (O6 V9)}{m e u c s:V9}(m1:PySem.W.nsIn K mainGlobals "Ending"=some (some (.ref CE)))(s1:PySem.W.specialIn K (.ref CE) "__getattribute__"=some (some (.builtin "type.__getattribute__")))
  (r1:PySem.W.nsIn K cStatics "thirdparty.any"=some none) (r2:PySem.W.typeIn K (.ref CE)=some (.type "type")) (r3:PySem.W.findIn K (.type "type") "__getattribute__"=some (some (.builtin "type.__getattribute__"))) (r4:PySem.W.subIn K (.type "type") (.type "type")=some true)
  (q1:PySem.W.findIn K (.type "type") "__init__"=some (some (.builtin "type.__init__"))) (q2:PySem.W.specialIn K (.builtin "type.__init__") "__get__"=some (some g)) (q3:PySem.W.takesIn K (.builtin "type.__init__")=some false) (q4:PySem.W.findIn K (.ref CE) "__init__"=some (some (.ref b))) (q5:PySem.W.typeIn K (.ref b)=some (.type "function"))
  (e_l:K.lookup b=some ⟨q,t,.func (PySem.W.fnOf "__init__" "Ending.__init__" (cZ (aM (top 12) 0)) (bY (aM (top 12) 0)) (aE (aM (top 12) 0)) .none l i v r a n),k⟩) (e_c:PySem.W.codeIn K a "Ending.__init__"=true) (e_k:PySem.W.keepIn K (.ref b)=true)
  (m2:PySem.W.nsIn K mainGlobals "ShutOut"=some (some (.ref C))) (p1:PySem.W.plainGet K C Str.empty=true) (p2:PySem.W.hasDictIn K C=true) (p3:PySem.W.plainOver K C=true) (p4:PySem.W.findIn K (.ref C) "__setattr__"=some (some (.builtin "object.__setattr__")))
  (n0:PySem.W.findIn K (.ref C) "place"=some none) (n1:PySem.W.findIn K (.ref C) "room"=some none) (n2:PySem.W.findIn K (.ref C) "borders"=some none) (k1:PySem.W.makesIn K C=true) (k2:PySem.W.findIn K (.ref C) "__init__"=some (some (.ref d))) (k3:PySem.W.isFn K (.ref d)=true) (k4:PySem.W.keepIn K (.ref C)=true)
  (i_l:K.lookup d=some ⟨w,o,.func (PySem.W.fnOf "__init__" "ShutOut.__init__" (cZ (aM (top 14) 0)) (bY (aM (top 14) 0)) (aE (aM (top 14) 0)) .none m e u p c s),j⟩) (i_c:PySem.W.codeIn K c "ShutOut.__init__"=true) (i_k:PySem.W.keepIn K (.ref d)=true):lG K mg:=by
 have x:=i6 (st:=(aM (top 12) 0)) e_l e_c e_k
 have z:=i6 (st:=(aM (top 14) 0)) i_l i_c i_k
 exact ⟨CE,b,_,C,d,_,B1 X G m1,⟨s1,tF r1 r2 r3 r4,aEG q1 q2 q3 q4 q5,e_k⟩,x,x.binds (ps:=["self","place","room"]) (fun _ _ _ _ _ _=>Mc.bn3 fun _ _ _=>rfl),B1 X G m2,⟨p1,p2,p3,p4⟩,fun f y=>by
  simp only[AG,AY,BR] at y
  rcases y with rfl|rfl|rfl
  · exact n0
  · exact n1
  · exact n2, ⟨k1, k2, k3, k4⟩, z, z.binds (ps := ["self", "place", "room", "borders"]) (fun _ _ _ _ _ _ => Mc.bn4 fun _ _ _ _ => rfl)⟩
theorem xN(X:K.In h)(G:h.Ns mainGlobals mg){CE C:Az}{g:V9}{b:Az}{q:V9}{t r:O6 Az}{k:Array (O6 V9)}{l i v a n:V9}{d:Az}{w:V9}{o p:O6 Az}{j:Array (O6 V9)}{m e u c s:V9}(m1:PySem.W.nsIn K mainGlobals "Ending"=some (some (.ref CE)))(s1:PySem.W.specialIn K (.ref CE) "__getattribute__"=some (some (.builtin "type.__getattribute__")))
  (r1:PySem.W.nsIn K cStatics "thirdparty.any"=some none) (r2:PySem.W.typeIn K (.ref CE)=some (.type "type")) (r3:PySem.W.findIn K (.type "type") "__getattribute__"=some (some (.builtin "type.__getattribute__"))) (r4:PySem.W.subIn K (.type "type") (.type "type")=some true)
  (q1:PySem.W.findIn K (.type "type") "__init__"=some (some (.builtin "type.__init__"))) (q2:PySem.W.specialIn K (.builtin "type.__init__") "__get__"=some (some g)) (q3:PySem.W.takesIn K (.builtin "type.__init__")=some false) (q4:PySem.W.findIn K (.ref CE) "__init__"=some (some (.ref b))) (q5:PySem.W.typeIn K (.ref b)=some (.type "function"))
  (e_l:K.lookup b=some ⟨q,t,.func (PySem.W.fnOf "__init__" "Ending.__init__" (cZ (aM (top 12) 0)) (bY (aM (top 12) 0)) (aE (aM (top 12) 0)) .none l i v r a n),k⟩) (e_c:PySem.W.codeIn K a "Ending.__init__"=true) (e_k:PySem.W.keepIn K (.ref b)=true)
  (m2:PySem.W.nsIn K mainGlobals "ForEver"=some (some (.ref C))) (p1:PySem.W.plainGet K C Str.empty=true) (p2:PySem.W.hasDictIn K C=true) (p3:PySem.W.plainOver K C=true) (p4:PySem.W.findIn K (.ref C) "__setattr__"=some (some (.builtin "object.__setattr__")))
  (n0:PySem.W.findIn K (.ref C) "place"=some none) (n1:PySem.W.findIn K (.ref C) "room"=some none) (n2:PySem.W.findIn K (.ref C) "first"=some none) (n3:PySem.W.findIn K (.ref C) "again"=some none) (k1:PySem.W.makesIn K C=true) (k2:PySem.W.findIn K (.ref C) "__init__"=some (some (.ref d))) (k3:PySem.W.isFn K (.ref d)=true) (k4:PySem.W.keepIn K (.ref C)=true)
  (i_l:K.lookup d=some ⟨w,o,.func (PySem.W.fnOf "__init__" "ForEver.__init__" (cZ (aM (top 15) 0)) (bY (aM (top 15) 0)) (aE (aM (top 15) 0)) .none m e u p c s),j⟩) (i_c:PySem.W.codeIn K c "ForEver.__init__"=true) (i_k:PySem.W.keepIn K (.ref d)=true):lH K mg:=by
 have x:=i6 (st:=(aM (top 12) 0)) e_l e_c e_k
 have z:=i6 (st:=(aM (top 15) 0)) i_l i_c i_k
 exact ⟨CE,b,_,C,d,_,B1 X G m1,⟨s1,tF r1 r2 r3 r4,aEG q1 q2 q3 q4 q5,e_k⟩,x,x.binds (ps:=["self","place","room"]) (fun _ _ _ _ _ _=>Mc.bn3 fun _ _ _=>rfl),B1 X G m2,⟨p1,p2,p3,p4⟩,fun f y=>by
  simp only[AG,AY,BR] at y
  rcases y with rfl|rfl|rfl|rfl
  · exact n0
  · exact n1
  · exact n2
  · exact n3, ⟨k1, k2, k3, k4⟩, z, z.binds (ps := ["self", "place", "room", "first", "again"]) (fun _ _ _ _ _ _ => Mc.bn5 fun _ _ _ _ _ => rfl)⟩
theorem rO{c m q:Str}{st:Stmt}(X:K.In h)(G:h.Ns mainGlobals mg){C:Az}{a:Az}{k:V9}{i n:O6 Az}{e:Array (O6 V9)}{j f l d g:V9}(m2:PySem.W.nsIn K mainGlobals c=some (some (.ref C)))(p1:PySem.W.plainGet K C Str.empty=true)(p2:PySem.W.hasDictIn K C=true)(p3:PySem.W.plainOver K C=true)(p4:PySem.W.findIn K (.ref C) "__setattr__"=some (some (.builtin "object.__setattr__")))
  (k2:PySem.W.findIn K (.ref C) m=some (some (.ref a))) (k3:PySem.W.isFn K (.ref a)=true) (m_l:K.lookup a=some ⟨k,i,.func (PySem.W.fnOf m q (cZ st) (bY st) (aE st) .none j f l n d g),e⟩) (m_c:PySem.W.codeIn K d q=true) (m_k:PySem.W.keepIn K (.ref a)=true)
  (b:∀ (kV doc pm:V9) (an:O6 Az) (cdv ct:V9) (us:List V9),us.length=1->bindArgs (PySem.W.fnOf m q (cZ st) (bY st) (aE st) .none kV doc pm an cdv ct) ⟨us,[]⟩=pure ((["self"]:List Str).zip us)):MtK K mg c m q st:=by
 have o:=i6 (st:=st) m_l m_c m_k
 exact ⟨C,a,_,B1 X G m2,⟨p1,p2,p3,p4⟩,⟨k2,k3,m_k⟩,o,o.binds (ps:=["self"]) b⟩
theorem jE{q nm:Str}{b:Bool}(X:K.In h)(G:h.Ns mainGlobals mg){D C:Az}(m1:PySem.W.nsIn K mainGlobals q=some (some (.ref D)))(m2:PySem.W.nsIn K mainGlobals nm=some (some (.ref C)))(p1:PySem.W.plainGet K C Str.empty=true)(p2:PySem.W.hasDictIn K C=true)(p3:PySem.W.plainOver K C=true)(p4:PySem.W.findIn K (.ref C) "__setattr__"=some (some (.builtin "object.__setattr__")))
 (ha:PySem.W.findIn K (.ref C) "__class__"=some (some (.builtin "object.__class__"))) (hn:PySem.W.specialIn K (.builtin "object.__class__") "__get__"=some (some (.builtin "getset_descriptor.__get__"))) (ht:PySem.W.takesIn K (.builtin "object.__class__")=some true) (hm:PySem.W.mroIn K C (.type "object")=some true) (k:PySem.W.kitOne K (.ref C) (.ref D)=some b):kA K mg q nm b:=⟨D,C,B1 X G m1,B1 X G m2,⟨⟨p1,p2,p3,p4⟩,ha,hn,ht,hm⟩,k⟩
theorem lI{c x:Str}(X:K.In h)(G:h.Ns mainGlobals mg){C:Az}(m2:PySem.W.nsIn K mainGlobals c=some (some (.ref C)))(p1:PySem.W.plainGet K C Str.empty=true)(p2:PySem.W.hasDictIn K C=true)(p3:PySem.W.plainOver K C=true)(p4:PySem.W.findIn K (.ref C) "__setattr__"=some (some (.builtin "object.__setattr__")))(n:PySem.W.findIn K (.ref C) x=some none):∃ C,mg c=some (.ref C)/\Cls K C/\cR K C x:=⟨C,B1 X G m2,⟨p1,p2,p3,p4⟩,n⟩
theorem rec_in{q:P9}{x:Str}(h:((recsOf q).any fun d=>d.name == x)=true):∃ d∈recsOf q,d.name=x:=by
 obtain ⟨d,a,e⟩:=List.any_eq_true.mp h
 exact ⟨d,a,EM e⟩
theorem aOG{i f:Az}{j:V9}{od m:O6 Az}{g:Array (O6 V9)}{kV doc pm b ct:V9}(X:K.In h)(G:h.Ns mainGlobals mg)(d:mg "law"=some (.ref i))(a:PySem.W.nsIn K mainGlobals "law"=some (some (.ref f)))(l:K.lookup f=some ⟨j,od,.func (PySem.W.fnOf "law" "law" (cZ (top 38)) (bY (top 38)) (aE (top 38)) .none kV doc pm m b ct),g⟩)
  (c:PySem.W.codeIn K b "law"=true) (k:PySem.W.keepIn K (.ref f)=true):∃ fd,Fun K "law" "law" (top 38) i fd/\∀ (s:S9) (u:V9),BindsTo s fd ⟨[u],[]⟩ [("_law_script",u)]:=by
 have e:=d.symm.trans (B1 X G a)
 cases e
 exact ⟨_,i6 (st:=top 38) l c k,fun s u=>.of_eq rfl⟩
end
end Mc
open PySem PySem.W PyProof.Rows
set_option maxRecDepth 100000 in
set_option maxHeartbeats 0 in
theorem PySem.Challenge.cw_striproam_k06_endings_and_borders_holds : PySem.Challenge.rw_striproam_k06_endings_and_borders.Holds := by
 w_on;o_law;k_head;(case hw=>w_witness2)
 k_fill
 refine Fl.aKV (l:=PySem.Challenge.rw_striproam_k06_endings_and_borders) (k:=13) (x:="_law_script") (qs:=Mc.qsT) (xs:=["sayer"]) ?hx ?hNT rfl rfl ⟨rfl,by decide,by decide⟩ (fun w h Y=>PySem.W.km_in_of Y) ?F
 case hx=>
  intro x hx
  simp only[AG,AY,BR] at hx
  rcases hx with rfl<;>exact Mc.rec_in (by decide +kernel)
 case hNT=>
  intro w
  kernel_rfl
 case F=>
  intro w mg fa h d G aa
  have D7:L2.DefAt (L2.KOf d) mg "signs_of" (Mc.top 7) ["machine"]:=by dsimp only[L2.KOf];refine' Mc.b8 d G ?a ?l ?c ?k ?b;(case a=>k_is);(case l=>k_is);(case c=>k_is);(case k=>k_is);(case b=>exact fun _ _ _ _ _ _=>Mc.bn1 fun _=>rfl)
  have D8:L2.DefAt (L2.KOf d) mg "checked_by" (Mc.top 8) ["signs","strip"]:=by dsimp only[L2.KOf];refine' Mc.b8 d G ?a ?l ?c ?k ?b;(case a=>k_is);(case l=>k_is);(case c=>k_is);(case k=>k_is);(case b=>exact fun _ _ _ _ _ _=>Mc.bn2 fun _ _=>rfl)
  have D9:L2.DefAt (L2.KOf d) mg "checked" (Mc.top 9) ["machine","strip"]:=by dsimp only[L2.KOf];refine' Mc.b8 d G ?a ?l ?c ?k ?b;(case a=>k_is);(case l=>k_is);(case c=>k_is);(case k=>k_is);(case b=>exact fun _ _ _ _ _ _=>Mc.bn2 fun _ _=>rfl)
  have H:L2.DefAt (L2.KOf d) mg "cell_at" (Mc.top 16) ["machine","strip","stand"]:=by dsimp only[L2.KOf];refine' Mc.b8 d G ?a ?l ?c ?k ?b;(case a=>k_is);(case l=>k_is);(case c=>k_is);(case k=>k_is);(case b=>exact fun _ _ _ _ _ _=>Mc.bn3 fun _ _ _=>rfl)
  have L:L2.DefAt (L2.KOf d) mg "path" (Mc.top 17) ["machine","strip"]:=by dsimp only[L2.KOf];refine' Mc.b8 d G ?a ?l ?c ?k ?b;(case a=>k_is);(case l=>k_is);(case c=>k_is);(case k=>k_is);(case b=>exact fun _ _ _ _ _ _=>Mc.bn2 fun _ _=>rfl)
  have P:L2.DefAt (L2.KOf d) mg "borders_of" (Mc.top 18) ["stands","strip"]:=by dsimp only[L2.KOf];refine' Mc.b8 d G ?a ?l ?c ?k ?b;(case a=>k_is);(case l=>k_is);(case c=>k_is);(case k=>k_is);(case b=>exact fun _ _ _ _ _ _=>Mc.bn2 fun _ _=>rfl)
  have Z:L2.DefAt (L2.KOf d) mg "walk" (Mc.top 19) ["machine","strip"]:=by dsimp only[L2.KOf];refine' Mc.b8 d G ?a ?l ?c ?k ?b;(case a=>k_is);(case l=>k_is);(case c=>k_is);(case k=>k_is);(case b=>exact fun _ _ _ _ _ _=>Mc.bn2 fun _ _=>rfl)
  have E:L2.DefAt (L2.KOf d) mg "sayer" (Mc.top 20) ["machine"]:=by dsimp only[L2.KOf];refine' Mc.b8 d G ?a ?l ?c ?k ?b;(case a=>k_is);(case l=>k_is);(case c=>k_is);(case k=>k_is);(case b=>exact fun _ _ _ _ _ _=>Mc.bn1 fun _=>rfl)
  have X:L2.DefAt (L2.KOf d) mg "_law_truth" (Mc.top 22) ["_law_found","_law_due"]:=by dsimp only[L2.KOf];refine' Mc.b8 d G ?a ?l ?c ?k ?b;(case a=>k_is);(case l=>k_is);(case c=>k_is);(case k=>k_is);(case b=>exact fun _ _ _ _ _ _=>Mc.bn2 fun _ _=>rfl)
  have S:L2.DefAt (L2.KOf d) mg "_law_cell" (Mc.top 23) ["_law_script","_law_k"]:=by dsimp only[L2.KOf];refine' Mc.b8 d G ?a ?l ?c ?k ?b;(case a=>k_is);(case l=>k_is);(case c=>k_is);(case k=>k_is);(case b=>exact fun _ _ _ _ _ _=>Mc.bn2 fun _ _=>rfl)
  have K:L2.DefAt (L2.KOf d) mg "_law_end" (Mc.top 24) ["_law_number","_law_rooms"]:=by dsimp only[L2.KOf];refine' Mc.b8 d G ?a ?l ?c ?k ?b;(case a=>k_is);(case l=>k_is);(case c=>k_is);(case k=>k_is);(case b=>exact fun _ _ _ _ _ _=>Mc.bn2 fun _ _=>rfl)
  have O:L2.DefAt (L2.KOf d) mg "_law_digit_row" (Mc.top 25) ["_law_number","_law_rooms","_law_signs"]:=by dsimp only[L2.KOf];refine' Mc.b8 d G ?a ?l ?c ?k ?b;(case a=>k_is);(case l=>k_is);(case c=>k_is);(case k=>k_is);(case b=>exact fun _ _ _ _ _ _=>Mc.bn3 fun _ _ _=>rfl)
  have R:L2.DefAt (L2.KOf d) mg "_law_mixed_row" (Mc.top 26) ["_law_number","_law_rooms","_law_signs"]:=by dsimp only[L2.KOf];refine' Mc.b8 d G ?a ?l ?c ?k ?b;(case a=>k_is);(case l=>k_is);(case c=>k_is);(case k=>k_is);(case b=>exact fun _ _ _ _ _ _=>Mc.bn3 fun _ _ _=>rfl)
  have z:L2.DefAt (L2.KOf d) mg "_law_machine" (Mc.top 27) ["_law_script","_law_at","_law_rooms","_law_signs"]:=by dsimp only[L2.KOf];refine' Mc.b8 d G ?a ?l ?c ?k ?b;(case a=>k_is);(case l=>k_is);(case c=>k_is);(case k=>k_is);(case b=>exact fun _ _ _ _ _ _=>Mc.bn4 fun _ _ _ _=>rfl)
  have M:L2.DefAt (L2.KOf d) mg "_law_strip" (Mc.top 28) ["_law_script","_law_at","_law_size","_law_signs"]:=by dsimp only[L2.KOf];refine' Mc.b8 d G ?a ?l ?c ?k ?b;(case a=>k_is);(case l=>k_is);(case c=>k_is);(case k=>k_is);(case b=>exact fun _ _ _ _ _ _=>Mc.bn4 fun _ _ _ _=>rfl)
  have I:L2.DefAt (L2.KOf d) mg "_law_step" (Mc.top 29) ["_law_machine_here","_law_strip_here","_law_stand"]:=by dsimp only[L2.KOf];refine' Mc.b8 d G ?a ?l ?c ?k ?b;(case a=>k_is);(case l=>k_is);(case c=>k_is);(case k=>k_is);(case b=>exact fun _ _ _ _ _ _=>Mc.bn3 fun _ _ _=>rfl)
  have Q:L2.DefAt (L2.KOf d) mg "_law_stands" (Mc.top 30) ["_law_machine_here","_law_strip_here"]:=by dsimp only[L2.KOf];refine' Mc.b8 d G ?a ?l ?c ?k ?b;(case a=>k_is);(case l=>k_is);(case c=>k_is);(case k=>k_is);(case b=>exact fun _ _ _ _ _ _=>Mc.bn2 fun _ _=>rfl)
  have V:L2.DefAt (L2.KOf d) mg "_law_says" (Mc.top 31) ["_law_machine_here","_law_strip_here"]:=by dsimp only[L2.KOf];refine' Mc.b8 d G ?a ?l ?c ?k ?b;(case a=>k_is);(case l=>k_is);(case c=>k_is);(case k=>k_is);(case b=>exact fun _ _ _ _ _ _=>Mc.bn2 fun _ _=>rfl)
  have B:L2.DefAt (L2.KOf d) mg "_law_whole" (Mc.top 32) ["_law_found"]:=by dsimp only[L2.KOf];refine' Mc.b8 d G ?a ?l ?c ?k ?b;(case a=>k_is);(case l=>k_is);(case c=>k_is);(case k=>k_is);(case b=>exact fun _ _ _ _ _ _=>Mc.bn1 fun _=>rfl)
  have A:L2.DefAt (L2.KOf d) mg "_law_borders" (Mc.top 33) ["_law_stands_here","_law_many"]:=by dsimp only[L2.KOf];refine' Mc.b8 d G ?a ?l ?c ?k ?b;(case a=>k_is);(case l=>k_is);(case c=>k_is);(case k=>k_is);(case b=>exact fun _ _ _ _ _ _=>Mc.bn2 fun _ _=>rfl)
  have J:L2.DefAt (L2.KOf d) mg "_law_drawn" (Mc.top 34) ["_law_script"]:=by dsimp only[L2.KOf];refine' Mc.b8 d G ?a ?l ?c ?k ?b;(case a=>k_is);(case l=>k_is);(case c=>k_is);(case k=>k_is);(case b=>exact fun _ _ _ _ _ _=>Mc.bn1 fun _=>rfl)
  have N:L2.DefAt (L2.KOf d) mg "_law_kind" (Mc.top 35) ["_law_found"]:=by dsimp only[L2.KOf];refine' Mc.b8 d G ?a ?l ?c ?k ?b;(case a=>k_is);(case l=>k_is);(case c=>k_is);(case k=>k_is);(case b=>exact fun _ _ _ _ _ _=>Mc.bn1 fun _=>rfl)
  have y:L2.DefAt (L2.KOf d) mg "_law_crossed_once" (Mc.top 36) ["_law_borders_here"]:=by dsimp only[L2.KOf];refine' Mc.b8 d G ?a ?l ?c ?k ?b;(case a=>k_is);(case l=>k_is);(case c=>k_is);(case k=>k_is);(case b=>exact fun _ _ _ _ _ _=>Mc.bn1 fun _=>rfl)
  have U:L2.DefAt (L2.KOf d) mg "_law_told" (Mc.top 37) ["_law_found","_law_machine_here","_law_strip_here"]:=by dsimp only[L2.KOf];refine' Mc.b8 d G ?a ?l ?c ?k ?b;(case a=>k_is);(case l=>k_is);(case c=>k_is);(case k=>k_is);(case b=>exact fun _ _ _ _ _ _=>Mc.bn3 fun _ _ _=>rfl)
  have T:Mc.Txt w (L2.KOf d) mg:=by
   dsimp only[L2.KOf]
   refine' Mc.aOF d G ?z_all ?z_bool ?z_enumerate ?z_int ?z_isinstance ?z_len ?z_min ?z_range ?z_set ?z_str ?z_tuple ?z_zip ?s_BEGIN (Mc.aMX ?m_BEGIN) ?s_SIGNS ?s_STOPS (Mc.aMW ?m_STOPS)
   (case z_all=>k_is);(case z_bool=>k_is);(case z_enumerate=>k_is);(case z_int=>k_is);(case z_isinstance=>k_is);(case z_len=>k_is);(case z_min=>k_is);(case z_range=>k_is);(case z_set=>k_is);(case z_str=>k_is);(case z_tuple=>k_is);(case z_zip=>k_is);(case s_BEGIN=>k_is);(case m_BEGIN=>k_is);(case s_SIGNS=>k_is);(case s_STOPS=>k_is);(case m_STOPS=>k_is)
  have E_NoStrip:Mc.kD (L2.KOf d) mg:=by
   dsimp only[L2.KOf]
   refine' Mc.xL d G ?m ?e1 ?e2 ?e3 ?e4 ?e5 ?e6 ?e7 ?e8 ?p1 ?i1 ?i2 ?i3 ?i4 ?i5
   (case m=>k_is)
   (case e1=>k_is)
   (case e2=>k_is);(case e3=>k_is);(case e4=>k_is);(case e5=>k_is);(case e6=>k_is);(case e7=>k_is);(case e8=>k_is)
   (case p1=>k_is);(case i1=>k_is);(case i2=>k_is);(case i3=>k_is);(case i4=>k_is);(case i5=>k_is)
  have Ob_LetBy:Mc.nL (L2.KOf d) mg:=by
   dsimp only[L2.KOf]
   refine' Mc.aBH d G ?m1 ?s1 ?r1 ?r2 ?r3 ?r4 ?q1 ?q2 ?q3 ?q4 ?q5 ?e_l ?e_c ?e_k ?m2 ?p1 ?p2 ?p3 ?p4 ?n0 ?n1 ?n2 ?k1 ?k2 ?k3 ?k4 ?i_l ?i_c ?i_k
   (case m1=>k_is);(case m2=>k_is);(case q4=>k_is);(case k2=>k_is);(case e_l=>k_is);(case i_l=>k_is);(case s1=>k_is);(case r1=>k_is);(case r2=>k_is);(case r3=>k_is);(case r4=>k_is);(case q1=>k_is);(case q2=>k_is);(case q3=>k_is);(case q5=>k_is);(case e_c=>k_is);(case e_k=>k_is);(case p1=>k_is);(case p2=>k_is);(case p3=>k_is);(case p4=>k_is);(case n0=>k_is);(case n1=>k_is);(case n2=>k_is);(case k1=>k_is);(case k3=>k_is);(case k4=>k_is);(case i_c=>k_is);(case i_k=>k_is)
  have Ob_ShutOut:Mc.lG (L2.KOf d) mg:=by
   dsimp only[L2.KOf]
   refine' Mc.xM d G ?m1 ?s1 ?r1 ?r2 ?r3 ?r4 ?q1 ?q2 ?q3 ?q4 ?q5 ?e_l ?e_c ?e_k ?m2 ?p1 ?p2 ?p3 ?p4 ?n0 ?n1 ?n2 ?k1 ?k2 ?k3 ?k4 ?i_l ?i_c ?i_k
   (case m1=>k_is);(case m2=>k_is);(case q4=>k_is);(case k2=>k_is);(case e_l=>k_is);(case i_l=>k_is);(case s1=>k_is);(case r1=>k_is);(case r2=>k_is);(case r3=>k_is);(case r4=>k_is);(case q1=>k_is);(case q2=>k_is);(case q3=>k_is);(case q5=>k_is);(case e_c=>k_is);(case e_k=>k_is);(case p1=>k_is);(case p2=>k_is);(case p3=>k_is);(case p4=>k_is);(case n0=>k_is);(case n1=>k_is);(case n2=>k_is);(case k1=>k_is);(case k3=>k_is);(case k4=>k_is);(case i_c=>k_is);(case i_k=>k_is)
  have Ob_ForEver:Mc.lH (L2.KOf d) mg:=by
   dsimp only[L2.KOf]
   refine' Mc.xN d G ?m1 ?s1 ?r1 ?r2 ?r3 ?r4 ?q1 ?q2 ?q3 ?q4 ?q5 ?e_l ?e_c ?e_k ?m2 ?p1 ?p2 ?p3 ?p4 ?n0 ?n1 ?n2 ?n3 ?k1 ?k2 ?k3 ?k4 ?i_l ?i_c ?i_k
   (case m1=>k_is);(case m2=>k_is);(case q4=>k_is);(case k2=>k_is);(case e_l=>k_is);(case i_l=>k_is);(case s1=>k_is);(case r1=>k_is);(case r2=>k_is);(case r3=>k_is);(case r4=>k_is);(case q1=>k_is);(case q2=>k_is);(case q3=>k_is);(case q5=>k_is);(case e_c=>k_is);(case e_k=>k_is);(case p1=>k_is);(case p2=>k_is);(case p3=>k_is);(case p4=>k_is);(case n0=>k_is);(case n1=>k_is);(case n2=>k_is);(case n3=>k_is);(case k1=>k_is);(case k3=>k_is);(case k4=>k_is);(case i_c=>k_is);(case i_k=>k_is)
  have Fo_LetBy_room:∃ C,mg "LetBy"=some (.ref C)/\L2.Cls (L2.KOf d) C/\L2.cR (L2.KOf d) C "room":=by
   dsimp only[L2.KOf]
   refine' Mc.lI d G ?m2 ?p1 ?p2 ?p3 ?p4 ?n
   (case m2=>k_is);(case p1=>k_is);(case p2=>k_is);(case p3=>k_is);(case p4=>k_is);(case n=>k_is)
  have Fo_ShutOut_room:∃ C,mg "ShutOut"=some (.ref C)/\L2.Cls (L2.KOf d) C/\L2.cR (L2.KOf d) C "room":=by
   dsimp only[L2.KOf]
   refine' Mc.lI d G ?m2 ?p1 ?p2 ?p3 ?p4 ?n
   (case m2=>k_is);(case p1=>k_is);(case p2=>k_is);(case p3=>k_is);(case p4=>k_is);(case n=>k_is)
  have Fo_ForEver_room:∃ C,mg "ForEver"=some (.ref C)/\L2.Cls (L2.KOf d) C/\L2.cR (L2.KOf d) C "room":=by
   dsimp only[L2.KOf]
   refine' Mc.lI d G ?m2 ?p1 ?p2 ?p3 ?p4 ?n
   (case m2=>k_is);(case p1=>k_is);(case p2=>k_is);(case p3=>k_is);(case p4=>k_is);(case n=>k_is)
  have t:Fl.iY (L2.KOf d) mg ["LetBy","ShutOut","ForEver"] "room":=by
   intro nm hn
   simp only[AG,AY,BR] at hn
   rcases hn with rfl|rfl|rfl
   · exact Fo_LetBy_room
   · exact Fo_ShutOut_room
   · exact Fo_ForEver_room
  have Fo_LetBy_place:∃ C,mg "LetBy"=some (.ref C)/\L2.Cls (L2.KOf d) C/\L2.cR (L2.KOf d) C "place":=by
   dsimp only[L2.KOf]
   refine' Mc.lI d G ?m2 ?p1 ?p2 ?p3 ?p4 ?n
   (case m2=>k_is);(case p1=>k_is);(case p2=>k_is);(case p3=>k_is);(case p4=>k_is);(case n=>k_is)
  have Fo_ShutOut_place:∃ C,mg "ShutOut"=some (.ref C)/\L2.Cls (L2.KOf d) C/\L2.cR (L2.KOf d) C "place":=by
   dsimp only[L2.KOf]
   refine' Mc.lI d G ?m2 ?p1 ?p2 ?p3 ?p4 ?n
   (case m2=>k_is);(case p1=>k_is);(case p2=>k_is);(case p3=>k_is);(case p4=>k_is);(case n=>k_is)
  have Fo_ForEver_place:∃ C,mg "ForEver"=some (.ref C)/\L2.Cls (L2.KOf d) C/\L2.cR (L2.KOf d) C "place":=by
   dsimp only[L2.KOf]
   refine' Mc.lI d G ?m2 ?p1 ?p2 ?p3 ?p4 ?n
   (case m2=>k_is);(case p1=>k_is);(case p2=>k_is);(case p3=>k_is);(case p4=>k_is);(case n=>k_is)
  have j:Fl.iY (L2.KOf d) mg ["LetBy","ShutOut","ForEver"] "place":=by
   intro nm hn
   simp only[AG,AY,BR] at hn
   rcases hn with rfl|rfl|rfl
   · exact Fo_LetBy_place
   · exact Fo_ShutOut_place
   · exact Fo_ForEver_place
  have Fo_ForEver_again:∃ C,mg "ForEver"=some (.ref C)/\L2.Cls (L2.KOf d) C/\L2.cR (L2.KOf d) C "again":=by
   dsimp only[L2.KOf]
   refine' Mc.lI d G ?m2 ?p1 ?p2 ?p3 ?p4 ?n
   (case m2=>k_is);(case p1=>k_is);(case p2=>k_is);(case p3=>k_is);(case p4=>k_is);(case n=>k_is)
  have q:Fl.iY (L2.KOf d) mg ["ForEver"] "again":=by
   intro nm hn
   simp only[AG,AY,BR] at hn
   rcases hn with rfl
   · exact Fo_ForEver_again
  have Fo_ForEver_first:∃ C,mg "ForEver"=some (.ref C)/\L2.Cls (L2.KOf d) C/\L2.cR (L2.KOf d) C "first":=by
   dsimp only[L2.KOf]
   refine' Mc.lI d G ?m2 ?p1 ?p2 ?p3 ?p4 ?n
   (case m2=>k_is);(case p1=>k_is);(case p2=>k_is);(case p3=>k_is);(case p4=>k_is);(case n=>k_is)
  have r:Fl.iY (L2.KOf d) mg ["ForEver"] "first":=by
   intro nm hn
   simp only[AG,AY,BR] at hn
   rcases hn with rfl
   · exact Fo_ForEver_first
  have Fo_LetBy_borders:∃ C,mg "LetBy"=some (.ref C)/\L2.Cls (L2.KOf d) C/\L2.cR (L2.KOf d) C "borders":=by
   dsimp only[L2.KOf]
   refine' Mc.lI d G ?m2 ?p1 ?p2 ?p3 ?p4 ?n
   (case m2=>k_is);(case p1=>k_is);(case p2=>k_is);(case p3=>k_is);(case p4=>k_is);(case n=>k_is)
  have Fo_ShutOut_borders:∃ C,mg "ShutOut"=some (.ref C)/\L2.Cls (L2.KOf d) C/\L2.cR (L2.KOf d) C "borders":=by
   dsimp only[L2.KOf]
   refine' Mc.lI d G ?m2 ?p1 ?p2 ?p3 ?p4 ?n
   (case m2=>k_is);(case p1=>k_is);(case p2=>k_is);(case p3=>k_is);(case p4=>k_is);(case n=>k_is)
  have e:Fl.iY (L2.KOf d) mg ["LetBy","ShutOut"] "borders":=by
   intro nm hn
   simp only[AG,AY,BR] at hn
   rcases hn with rfl|rfl
   · exact Fo_LetBy_borders
   · exact Fo_ShutOut_borders
  have Mt_LetBy_says:Mc.MtK (L2.KOf d) mg "LetBy" "says" "LetBy.says" (L2.aM (Mc.top 13) 1):=by
   dsimp only[L2.KOf]
   refine' Mc.rO d G ?m2 ?p1 ?p2 ?p3 ?p4 ?k2 ?k3 ?m_l ?m_c ?m_k ?b
   (case m2=>k_is);(case k2=>k_is);(case m_l=>k_is);(case p1=>k_is);(case p2=>k_is);(case p3=>k_is);(case p4=>k_is);(case k3=>k_is);(case m_c=>k_is);(case m_k=>k_is);(case b=>exact fun _ _ _ _ _ _=>Mc.bn1 fun _=>rfl)
  have Mt_ShutOut_says:Mc.MtK (L2.KOf d) mg "ShutOut" "says" "ShutOut.says" (L2.aM (Mc.top 14) 1):=by
   dsimp only[L2.KOf]
   refine' Mc.rO d G ?m2 ?p1 ?p2 ?p3 ?p4 ?k2 ?k3 ?m_l ?m_c ?m_k ?b
   (case m2=>k_is);(case k2=>k_is);(case m_l=>k_is);(case p1=>k_is);(case p2=>k_is);(case p3=>k_is);(case p4=>k_is);(case k3=>k_is);(case m_c=>k_is);(case m_k=>k_is);(case b=>exact fun _ _ _ _ _ _=>Mc.bn1 fun _=>rfl)
  have Mt_ForEver_says:Mc.MtK (L2.KOf d) mg "ForEver" "says" "ForEver.says" (L2.aM (Mc.top 15) 1):=by
   dsimp only[L2.KOf]
   refine' Mc.rO d G ?m2 ?p1 ?p2 ?p3 ?p4 ?k2 ?k3 ?m_l ?m_c ?m_k ?b
   (case m2=>k_is);(case k2=>k_is);(case m_l=>k_is);(case p1=>k_is);(case p2=>k_is);(case p3=>k_is);(case p4=>k_is);(case k3=>k_is);(case m_c=>k_is);(case m_k=>k_is);(case b=>exact fun _ _ _ _ _ _=>Mc.bn1 fun _=>rfl)
  have Mt_LetBy_stops:Mc.MtK (L2.KOf d) mg "LetBy" "stops" "LetBy.stops" (L2.aM (Mc.top 13) 2):=by
   dsimp only[L2.KOf]
   refine' Mc.rO d G ?m2 ?p1 ?p2 ?p3 ?p4 ?k2 ?k3 ?m_l ?m_c ?m_k ?b
   (case m2=>k_is);(case k2=>k_is);(case m_l=>k_is);(case p1=>k_is);(case p2=>k_is);(case p3=>k_is);(case p4=>k_is);(case k3=>k_is);(case m_c=>k_is);(case m_k=>k_is);(case b=>exact fun _ _ _ _ _ _=>Mc.bn1 fun _=>rfl)
  have Mt_ShutOut_stops:Mc.MtK (L2.KOf d) mg "ShutOut" "stops" "ShutOut.stops" (L2.aM (Mc.top 14) 2):=by
   dsimp only[L2.KOf]
   refine' Mc.rO d G ?m2 ?p1 ?p2 ?p3 ?p4 ?k2 ?k3 ?m_l ?m_c ?m_k ?b
   (case m2=>k_is);(case k2=>k_is);(case m_l=>k_is);(case p1=>k_is);(case p2=>k_is);(case p3=>k_is);(case p4=>k_is);(case k3=>k_is);(case m_c=>k_is);(case m_k=>k_is);(case b=>exact fun _ _ _ _ _ _=>Mc.bn1 fun _=>rfl)
  have Mt_ForEver_stops:Mc.MtK (L2.KOf d) mg "ForEver" "stops" "ForEver.stops" (L2.aM (Mc.top 15) 2):=by
   dsimp only[L2.KOf]
   refine' Mc.rO d G ?m2 ?p1 ?p2 ?p3 ?p4 ?k2 ?k3 ?m_l ?m_c ?m_k ?b
   (case m2=>k_is);(case k2=>k_is);(case m_l=>k_is);(case p1=>k_is);(case p2=>k_is);(case p3=>k_is);(case p4=>k_is);(case k3=>k_is);(case m_c=>k_is);(case m_k=>k_is);(case b=>exact fun _ _ _ _ _ _=>Mc.bn1 fun _=>rfl)
  have Io_Ending_LetBy:Fl.kA (L2.KOf d) mg "Ending" "LetBy" true:=by
   dsimp only[L2.KOf]
   refine' Mc.jE d G ?m1 ?m2 ?p1 ?p2 ?p3 ?p4 ?ha ?hn ?ht ?hm ?k
   (case m1=>k_is);(case m2=>k_is);(case p1=>k_is);(case p2=>k_is);(case p3=>k_is);(case p4=>k_is);(case ha=>k_is);(case hn=>k_is);(case ht=>k_is);(case hm=>k_is)
   (case k=>refine' Mc.iQ (by decide) ?a ?b ?c;(case a=>k_is);(case b=>k_is);(case c=>k_is))
  have Io_Ending_ShutOut:Fl.kA (L2.KOf d) mg "Ending" "ShutOut" true:=by
   dsimp only[L2.KOf]
   refine' Mc.jE d G ?m1 ?m2 ?p1 ?p2 ?p3 ?p4 ?ha ?hn ?ht ?hm ?k
   (case m1=>k_is);(case m2=>k_is);(case p1=>k_is);(case p2=>k_is);(case p3=>k_is);(case p4=>k_is);(case ha=>k_is);(case hn=>k_is);(case ht=>k_is);(case hm=>k_is)
   (case k=>refine' Mc.iQ (by decide) ?a ?b ?c;(case a=>k_is);(case b=>k_is);(case c=>k_is))
  have Io_Ending_ForEver:Fl.kA (L2.KOf d) mg "Ending" "ForEver" true:=by
   dsimp only[L2.KOf]
   refine' Mc.jE d G ?m1 ?m2 ?p1 ?p2 ?p3 ?p4 ?ha ?hn ?ht ?hm ?k
   (case m1=>k_is);(case m2=>k_is);(case p1=>k_is);(case p2=>k_is);(case p3=>k_is);(case p4=>k_is);(case ha=>k_is);(case hn=>k_is);(case ht=>k_is);(case hm=>k_is)
   (case k=>refine' Mc.iQ (by decide) ?a ?b ?c;(case a=>k_is);(case b=>k_is);(case c=>k_is))
  have i:∃ D,mg "Ending"=some (.ref D)/\Fl.IsO (L2.KOf d) mg "Ending" [("LetBy",true),("ShutOut",true),("ForEver",true)]:=by
   obtain ⟨D,C,h1,h2⟩:=id Io_Ending_LetBy
   refine ⟨D,h1,fun p v=>?_⟩
   simp only[AG,AY,BR] at v
   rcases v with rfl|rfl|rfl
   · exact Io_Ending_LetBy
   · exact Io_Ending_ShutOut
   · exact Io_Ending_ForEver
  have Io_ForEver_LetBy:Fl.kA (L2.KOf d) mg "ForEver" "LetBy" false:=by
   dsimp only[L2.KOf]
   refine' Mc.jE d G ?m1 ?m2 ?p1 ?p2 ?p3 ?p4 ?ha ?hn ?ht ?hm ?k
   (case m1=>k_is);(case m2=>k_is);(case p1=>k_is);(case p2=>k_is);(case p3=>k_is);(case p4=>k_is);(case ha=>k_is);(case hn=>k_is);(case ht=>k_is);(case hm=>k_is)
   (case k=>refine' Mc.iQ (by decide) ?a ?b ?c;(case a=>k_is);(case b=>k_is);(case c=>k_is))
  have Io_ForEver_ShutOut:Fl.kA (L2.KOf d) mg "ForEver" "ShutOut" false:=by
   dsimp only[L2.KOf]
   refine' Mc.jE d G ?m1 ?m2 ?p1 ?p2 ?p3 ?p4 ?ha ?hn ?ht ?hm ?k
   (case m1=>k_is);(case m2=>k_is);(case p1=>k_is);(case p2=>k_is);(case p3=>k_is);(case p4=>k_is);(case ha=>k_is);(case hn=>k_is);(case ht=>k_is);(case hm=>k_is)
   (case k=>refine' Mc.iQ (by decide) ?a ?b ?c;(case a=>k_is);(case b=>k_is);(case c=>k_is))
  have Io_ForEver_ForEver:Fl.kA (L2.KOf d) mg "ForEver" "ForEver" true:=by
   dsimp only[L2.KOf]
   refine' Mc.jE d G ?m1 ?m2 ?p1 ?p2 ?p3 ?p4 ?ha ?hn ?ht ?hm ?k
   (case m1=>k_is);(case m2=>k_is);(case p1=>k_is);(case p2=>k_is);(case p3=>k_is);(case p4=>k_is);(case ha=>k_is);(case hn=>k_is);(case ht=>k_is);(case hm=>k_is)
   (case k=>exact Mc.sM)
  have f:∃ D,mg "ForEver"=some (.ref D)/\Fl.IsO (L2.KOf d) mg "ForEver" [("LetBy",false),("ShutOut",false),("ForEver",true)]:=by
   obtain ⟨D,C,h1,h2⟩:=id Io_ForEver_LetBy
   refine ⟨D,h1,fun p v=>?_⟩
   simp only[AG,AY,BR] at v
   rcases v with rfl|rfl|rfl
   · exact Io_ForEver_LetBy
   · exact Io_ForEver_ShutOut
   · exact Io_ForEver_ForEver
  have Io_ShutOut_LetBy:Fl.kA (L2.KOf d) mg "ShutOut" "LetBy" false:=by
   dsimp only[L2.KOf]
   refine' Mc.jE d G ?m1 ?m2 ?p1 ?p2 ?p3 ?p4 ?ha ?hn ?ht ?hm ?k
   (case m1=>k_is);(case m2=>k_is);(case p1=>k_is);(case p2=>k_is);(case p3=>k_is);(case p4=>k_is);(case ha=>k_is);(case hn=>k_is);(case ht=>k_is);(case hm=>k_is)
   (case k=>refine' Mc.iQ (by decide) ?a ?b ?c;(case a=>k_is);(case b=>k_is);(case c=>k_is))
  have Io_ShutOut_ShutOut:Fl.kA (L2.KOf d) mg "ShutOut" "ShutOut" true:=by
   dsimp only[L2.KOf]
   refine' Mc.jE d G ?m1 ?m2 ?p1 ?p2 ?p3 ?p4 ?ha ?hn ?ht ?hm ?k
   (case m1=>k_is);(case m2=>k_is);(case p1=>k_is);(case p2=>k_is);(case p3=>k_is);(case p4=>k_is);(case ha=>k_is);(case hn=>k_is);(case ht=>k_is);(case hm=>k_is)
   (case k=>exact Mc.sM)
  have Io_ShutOut_ForEver:Fl.kA (L2.KOf d) mg "ShutOut" "ForEver" false:=by
   dsimp only[L2.KOf]
   refine' Mc.jE d G ?m1 ?m2 ?p1 ?p2 ?p3 ?p4 ?ha ?hn ?ht ?hm ?k
   (case m1=>k_is);(case m2=>k_is);(case p1=>k_is);(case p2=>k_is);(case p3=>k_is);(case p4=>k_is);(case ha=>k_is);(case hn=>k_is);(case ht=>k_is);(case hm=>k_is)
   (case k=>refine' Mc.iQ (by decide) ?a ?b ?c;(case a=>k_is);(case b=>k_is);(case c=>k_is))
  have g:∃ D,mg "ShutOut"=some (.ref D)/\Fl.IsO (L2.KOf d) mg "ShutOut" [("LetBy",false),("ShutOut",true),("ForEver",false)]:=by
   obtain ⟨D,C,h1,h2⟩:=id Io_ShutOut_LetBy
   refine ⟨D,h1,fun p v=>?_⟩
   simp only[AG,AY,BR] at v
   rcases v with rfl|rfl|rfl
   · exact Io_ShutOut_LetBy
   · exact Io_ShutOut_ShutOut
   · exact Io_ShutOut_ForEver
  have Io_LetBy_LetBy:Fl.kA (L2.KOf d) mg "LetBy" "LetBy" true:=by
   dsimp only[L2.KOf]
   refine' Mc.jE d G ?m1 ?m2 ?p1 ?p2 ?p3 ?p4 ?ha ?hn ?ht ?hm ?k
   (case m1=>k_is);(case m2=>k_is);(case p1=>k_is);(case p2=>k_is);(case p3=>k_is);(case p4=>k_is);(case ha=>k_is);(case hn=>k_is);(case ht=>k_is);(case hm=>k_is)
   (case k=>exact Mc.sM)
  have Io_LetBy_ShutOut:Fl.kA (L2.KOf d) mg "LetBy" "ShutOut" false:=by
   dsimp only[L2.KOf]
   refine' Mc.jE d G ?m1 ?m2 ?p1 ?p2 ?p3 ?p4 ?ha ?hn ?ht ?hm ?k
   (case m1=>k_is);(case m2=>k_is);(case p1=>k_is);(case p2=>k_is);(case p3=>k_is);(case p4=>k_is);(case ha=>k_is);(case hn=>k_is);(case ht=>k_is);(case hm=>k_is)
   (case k=>refine' Mc.iQ (by decide) ?a ?b ?c;(case a=>k_is);(case b=>k_is);(case c=>k_is))
  have Io_LetBy_ForEver:Fl.kA (L2.KOf d) mg "LetBy" "ForEver" false:=by
   dsimp only[L2.KOf]
   refine' Mc.jE d G ?m1 ?m2 ?p1 ?p2 ?p3 ?p4 ?ha ?hn ?ht ?hm ?k
   (case m1=>k_is);(case m2=>k_is);(case p1=>k_is);(case p2=>k_is);(case p3=>k_is);(case p4=>k_is);(case ha=>k_is);(case hn=>k_is);(case ht=>k_is);(case hm=>k_is)
   (case k=>refine' Mc.iQ (by decide) ?a ?b ?c;(case a=>k_is);(case b=>k_is);(case c=>k_is))
  have o:∃ D,mg "LetBy"=some (.ref D)/\Fl.IsO (L2.KOf d) mg "LetBy" [("LetBy",true),("ShutOut",false),("ForEver",false)]:=by
   obtain ⟨D,C,h1,h2⟩:=id Io_LetBy_LetBy
   refine ⟨D,h1,fun p v=>?_⟩
   simp only[AG,AY,BR] at v
   rcases v with rfl|rfl|rfl
   · exact Io_LetBy_LetBy
   · exact Io_LetBy_ShutOut
   · exact Io_LetBy_ForEver
  have LL:∃ fd,L2.Fun (L2.KOf d) "law" "law" (Mc.top 38) fa fd/\∀ (s:S9) (u:V9),BindsTo s fd ⟨[u],[]⟩ [("_law_script",u)]:=by
   dsimp only[L2.KOf]
   refine' Mc.aOG d G aa ?a4 ?l4 ?c4 ?k4
   (case a4=>k_is);(case l4=>k_is);(case c4=>k_is);(case k4=>k_is)
  obtain ⟨fd,FL,hb⟩:=LL
  exact ⟨fd,hb,fun base TH _ _ TL=>Mc.aLW T E_NoStrip Ob_LetBy Ob_ShutOut Ob_ForEver t j q r e Mt_LetBy_says Mt_ShutOut_says Mt_ForEver_says Mt_LetBy_stops Mt_ShutOut_stops Mt_ForEver_stops i f g o D7 D8 D9 H L P Z (Fl.aP4 E d TL (by decide)) X S K O R z M I Q V B A J N y U FL⟩
end
