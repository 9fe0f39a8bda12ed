import PyProof.Rows.All
import Wide.All
import OpenK.AllK
import Wide.FinOn
import Lean
import PyProof.EqAt
import PyProof.EqKinds
import PyProof.TupleCall
import PyProof.ExcInit
import PyProof.InstStoreFacts
import PyProof.StrLawsFirst
import PyProof.StrLawsIn
import KE.KLam
import PyProof.ListMulRoad
import PyProof.Rows.ListMul
import PyProof.ZipIter
import PyProof.Draws
import PyProof.ListStr
import PyProof.DictWalks
import PyProof.DictTruth
import PyProof.ListRange
import PyProof.StrLaws
import PyProof.StrLawsIdx
import PyProof.AttrMissHeap
import PyProof.StrBlock2
import PyProof.P3In
import PyProof.SumWalkG
import PySem.Challenge.RW_striproam_k37_whole_known_rounds
set_option linter.all false
set_option maxRecDepth 100000
set_option maxHeartbeats 4000000
set_option Elab.async false
set_option linter.all false
set_option maxRecDepth 100000
set_option genSizeOf false
abbrev Dz:=PySem.PyData
abbrev V9:=PySem.Value
abbrev S9:=PySem.Shared
abbrev Az:=PySem.Addr
abbrev P9:=PySem.Program
abbrev W9:=PySem.World
abbrev H9:=PySem.Heap
abbrev E1:=PySem.Expr
abbrev U9:=PySem.Around
abbrev O9(α:Type):=Option α
def PySem.W.Fast.tw15381851566372372346:=()
def PySem.W.Fast.tw8123049085894657568:=()
def PySem.W.Fast.tw1492767756978823548:=()
def PySem.W.Fast.tw13161665894749622111:=()
def PySem.W.Fast.tw11589604023397171389:=()
def PySem.W.Fast.tw8186425166024779896:=()
def PySem.W.Fast.tw3913621018764219291:=()
def PySem.W.Fast.tw4418273160848373694:=()
def PySem.W.Fast.tw15287446332764524909:=()
def PySem.W.Fast.tw3902718938664173053:=()
def AA:=@PySem.wpAny_bind
def AB:=@List.length_map
def AC:=@if_neg
def AD:=@if_pos
def AE:=@PySem.wpAny_pure
def AG:=@Nat.le_refl
def AH:=@List.getElem?_map
def AI:=@PySem.Heap.get?_push_of_some
def AJ:=@List.getElem?_eq_getElem
def AK:=@List.length_append
def AL:=@List.map_cons
def AM:=@List.getElem?_eq_some_iff
def AN:=@List.mem_cons_of_mem
def AQ:=@PySem.Heap.lt_size
def AS:=@List.getD_eq_getElem?_getD
def AT:=@List.getElem?_cons_succ
def AU:=@List.length_range
def AV:=@Bool.and_eq_true
def AW:=@List.mem_of_getElem?
def AX:=@List.getElem?_cons_zero
def AY:=@List.length_cons
def AZ:=@decide_eq_true
def A0:=@List.mem_cons_self
def A1:=@decide_eq_false
def A2:=@List.mem_cons
def A3:=@Nat.lt_of_lt_of_le
def A4:=@List.mem_singleton
def A5:=@List.mem_map
def A6:=@List.set_cons_zero
def A7:=@List.length_singleton
def A8:=@List.set_cons_succ
def A9:=@List.length_nil
def BA:=@PySem.Heap.get?_push_size
def BB:=@Nat.ne_of_lt
def BC:=@List.lookup_cons
def BD:=@List.getElem?_range
def BE:=@List.map_append
def BF:=@Bool.false_eq_true
def BG:=@List.size_toArray
def BH:=@PySem.mem_of_lookup
def BI:=@Nat.le_trans
def BJ:=@List.map_nil
def BK:=@List.getElem?_append_left
def BL:=@PyProof.Rows.boot_tuple
def BM:=@List.length_take
def BN:=@List.getElem?_set_ne
def BO:=@PySem.wpAny_mono
def BP:=@decide_eq_true_iff
def BQ:=@List.nil_append
def BR:=@List.mem_range
def BS:=@List.getElem?_append_right
def BT:=@List.cons_append
def BU:=@Option.some.inj
def BV:=@of_decide_eq_true
def BW:=@List.mem_append
def BX:=@List.map_map
def BY:=@PySem.boot_len
def BZ:=@Ne.symm
def B0:=@PySem.F.slot_list_append
def B1:=@PySem.F.type_list_append
def B2:=@List.mem_append_right
def B3:=@PySem.Heap.get?_update_self
def B4:=@PyProof.Rows.boot_int
def B5:=@Nat.lt_irrefl
def B6:=@PySem.F.plainAttrs_list
def B7:=@Bool.false_ne_true
def B8:=@PySem.W.kia_one
def B9:=@List.replicate_succ
def CC:=@List.length_replicate
def CD:=@Int.toNat_natCast
def CF:=@if_false
def CG:=@if_true
def CH:=@List.append_nil
def CI:=@PySem.W.mg_none_of
def CJ:=@PySem.Heap.get?_update_other
def CK:=@Array.length_toList
def CL:=@List.map_congr_left
def CM:=@Nat.mod_lt
def CN:=@PySem.wpAny_holding
def CO:=@Nat.zero_le
def CP:=@List.mem_append_left
def CQ:=@List.length_drop
def CS:=@List.all_eq_true
def CT:=@Option.bind_some
def CU:=@PySem.wpAny_standAt
def CV:=@List.getElem?_set_self
def CW:=@PySem.wpAny_newObj_type
def CY:=@PySem.wpAny_loadPart_at
def CZ:=@PySem.wpAny_Call_Name_kw
def C0:=@List.eq_of_mem_replicate
def C4:=@PySem.W.mg_of
def C5:=@PySem.F.slot_dict_keyiterator_next
def C6:=@PyProof.Rows.boot_isinstance
def C7:=@beq_false_of_ne
def C8:=@List.length_set
def C9:=@List.getElem?_eq_none
def DA:=@Nat.le_of_lt
def DB:=@List.find?_cons
def DC:=@List.flatten_cons
def DD:=@PySem.wpAny_typeNameOfWhole_keyiter
def DE:=@beq_eq_false_iff_ne
def DF:=@PySem.wpAny_isSubtype_exc
def DG:=@congrArg
def DH:=@beq_self_eq_true
def DI:=@PySem.Heap.size_push
def DJ:=@List.take_length
def DK:=@List.take_of_length_le
def DL:=@Nat.ne_of_gt
def DM:=@PyProof.Rows.callWith_type1
def DN:=@List.mem_filterMap
def DO:=@PySem.W.callWith_K
def DP:=@List.contains_cons
def DQ:=@Nat.zero_add
def DR:=@PySem.wpAny_passesOwn
def DS:=@List.forIn_cons
def DT:=@Bool.or_eq_true
def DU:=@PySem.F.excAttr_ValueError
def DV:=@Array.getElem?_eq_some_iff
def DW:=@PySem.wpAny_truthy_bool
def DX:=@PySem.eqIsQuiet_byValue
def DY:=@List.foldl_append
def DZ:=@Nat.add_mul_mod_self_left
def D0:=@PySem.wpAny_field
def D1:=@PySem.wpAny_typeNameOf_keyiter
def D2:=@Nat.mul_comm
def D4:=@Option.bind_none
def D5:=@Option.join_some
def EA:=@List.filterMap_cons
def EB:=@PySem.Heap.SameBut.update
def EC:=@PyProof.Rows.slot_tuple_getitem
def ED:=@List.getElem?_replicate
def EE:=@PySem.wpAny_callSpecial?_slot
def EF:=@List.length_eq_zero_iff
def EG:=@PySem.wpAny_execs_nil
def EH:=@List.nodup_cons
def EI:=@PySem.Obj.data_mapFields
def EJ:=@List.getElem?_drop
def EK:=@Nat.le_succ
def EL:=@List.nodup_append
def EM:=@List.append_assoc
def EN:=@PySem.codeAny_mono
def EO:=@Array.getElem?_toList
def EQ:=@PySem.wpAny_call
def ER:=@List.drop_length
def ES:=@decide_eq_decide
def ET:=@PySem.sizeLine_eq
def EU:=@List.mem_map_of_mem
def EV:=@PySem.F.plain_extend_loop
def EW:=@List.foldl_cons
def EX:=@List.pairwise_iff_getElem
def EY:=@Classical.byContradiction
def EZ:=@List.cons.injEq
def E2:=@Array.size_push
def E3:=@Nat.min_eq_left
def E4:=@PySem.wpAny_setField
def E5:=@List.nodup_nil
def E6:=@Nat.gcd_pos_of_pos_left
def E7:=@PySem.wpAny_pyIter_enum
def E8:=@Option.isSome_map
def E9:=@PySem.wpAny_dictEntries
def FA:=@List.take_add_one
def FB:=@Int.le_refl
def FC:=@Nat.mul_pos
def FD:=@PySem.wpAny_attempt
def FE:=@PySem.wpAny_call_entry
def FF:=@List.getElem_mem
def FG:=@List.prefix_refl
def FH:=@LawfulBEq.eq_of_beq
def FJ:=@PySem.Obj.isFreed_of_fields
def FK:=@PySem.Heap.get?_none_of_le
def FM:=@List.of_mem_zip
def FN:=@PySem.codeAny_call_builtin
def FP:=@List.mem_iff_getElem
def FQ:=@PySem.F.args_dict_keyiterator_next_1
def FR:=@PySem.wpAny_updateSeq
def FS:=@List.range_succ
def FT:=@List.mem_of_mem_take
def FU:=@Nat.mod_add_div
def FV:=@PySem.F.entry_dict_keyiterator_next
def FW:=@Array.toList_append
def FX:=@PyProof.Rows.boot_enumerate
def FY:=@Int.emod_lt_of_pos
def FZ:=@List.getElem_range
def F5:=@PySem.Paired.length
def F6:=@PySem.Calls.Name_function_global
def F7:=@PySem.wpAny_letOwnedTupleGo_enum
def F8:=@PySem.F.excBase_ValueError
def F9:=@Bool.not_true
def GA:=@Nat.mul_assoc
def GB:=@PySem.W.kitx_list
def GC:=@List.reverse_cons
def GD:=@PySem.StrLaws.subAt_one
def GE:=@Nat.lt_trichotomy
def GF:=@beq_iff_eq
def GG:=@List.drop_eq_getElem_cons
def GH:=@PySem.wpAny_execs_cons
def GI:=@Option.isSome_iff_exists
def GJ:=@List.getElem?_take_of_lt
def GK:=@PySem.F.args_tuple_add_2
def GL:=@Option.getD_none
def GM:=@Nat.lt_succ_self
def GN:=@PySem.wpAny_comprehension_free
def GO:=@Bool.or_true
def GP:=@PySem.wpAny_isInstance
def GQ:=@Nat.add_zero
def GR:=@Nat.zero_mul
def GS:=@PySem.F.entry_tuple_add
def GT:=@Nat.le_mul_of_pos_right
def GU:=@Nat.mul_div_cancel_left
def GV:=@PySem.wpAny_specialOf
def GW:=@Int.emod_nonneg
def GX:=@PySem.wpAny_dictEpoch
def GY:=@Option.map_some
def GZ:=@PySem.W.cellsFrom_some
def G0:=@PySem.F.slot_tuple_add
def G1:=@PySem.F.plainAttrs_str
def G2:=@Nat.le_mul_of_pos_left
def G3:=@PySem.wpAny_loadPart
def G4:=@PySem.F.entry_bexc_ga
def G5:=@List.take_succ
def G6:=@PyProof.Rows.boot_str
def G7:=@List.mem_iff_getElem?
def G8:=@PySem.call_meets
def G9:=@Nat.not_lt
def HA:=@Nat.add_assoc
theorem Mc.bn1{α:Type}{P:List α->Prop}(h:∀ a,P [a]):∀ us:List α,us.length=1->P us
 | [a],_=>h a
theorem Mc.bn2{α:Type}{P:List α->Prop}(h:∀ a b,P [a,b]):∀ us:List α,us.length=2->P us
 | [a,b],_=>h a b
theorem Mc.bn3{α:Type}{P:List α->Prop}(h:∀ a b c,P [a,b,c]):∀ us:List α,us.length=3->P us
 | [a,b,c],_=>h a b c
theorem Mc.bn4{α:Type}{P:List α->Prop}(h:∀ a b c d,P [a,b,c,d]):∀ us:List α,us.length=4->P us
 | [a,b,c,d],_=>h a b c d
theorem Mc.bn5{α:Type}{P:List α->Prop}(h:∀ a b c d e,P [a,b,c,d,e]):∀ us:List α,us.length=5->P us
 | [a,b,c,d,e],_=>h a b c d e
open PySem.W (Frag)
noncomputable section
namespace L2
open PySem PySem.Spec PyProof.Rows
abbrev Key:=Sum Int Str
noncomputable def r0:Key->V9->Bool
 | .inl k,v=>Value.isInt k v
 | .inr x,v=>Value.isStrOf x v
noncomputable def aUP(w:W9):Key->Int
 | .inl k=>hashInt k
 | .inr x=>hashStr w x
theorem keyIs_shape:∀ {k:Key} {v:V9},r0 k v=true->(∃ i t,k=Sum.inl i/\v=Value.int i t)\/(∃ x t,k=Sum.inr x/\v=Value.str x t)
 | .inl i,v,h=>by
  obtain ⟨t,e⟩:=Value.isInt_shape (k:=i) (v:=v) h
  exact .inl ⟨i,t,rfl,e⟩
 | .inr x,v,h=>by
  obtain ⟨t,e⟩:=Value.isStrOf_shape (x:=x) (v:=v) h
  exact .inr ⟨x,t,rfl,e⟩
theorem aGH(i:Int)(t:Tok):r0 (.inl i) (.int i t)=true:=by simp[r0,Value.isInt]
theorem aGI(x:Str)(t:Tok):r0 (.inr x) (.str x t)=true:=by simp[r0,Value.isStrOf]
theorem aPG(a b:Int):decide ((Sum.inl a:Key)=Sum.inl b)=(a == b):=by
 by_cases e:a=b
 .subst e;simp
 .have h:¬ (Sum.inl a:Key)=Sum.inl b:=fun q=>e (Sum.inl.inj q)
  rw[A1 h]
  exact (DE.mpr e).symm
theorem aPH(a b:Str):decide ((Sum.inr a:Key)=Sum.inr b)=decide (a=b):=by
 by_cases e:a=b
 .subst e;simp
 .have h:¬ (Sum.inr a:Key)=Sum.inr b:=fun q=>e (Sum.inr.inj q)
  rw[A1 h,A1 e]
theorem aPI(a:Int)(b:Str):decide ((Sum.inl a:Key)=Sum.inr b)=false:=A1 (fun q=>nomatch q)
theorem aPJ(a:Str)(b:Int):decide ((Sum.inr a:Key)=Sum.inl b)=false:=A1 (fun q=>nomatch q)
noncomputable def d5(prog:P9)(w:W9):PySem.KeyKind prog w Key where
 is:=r0
 hash:=aUP w
 inj:=fun v a b ha hb=>by
  rcases keyIs_shape ha with ⟨i,t,rfl,rfl⟩|⟨x,t,rfl,rfl⟩
  .rcases keyIs_shape hb with ⟨j,u,rfl,e⟩|⟨y,u,rfl,e⟩
   · injection e with e1 _; rw [e1]
   · exact nomatch e
  .rcases keyIs_shape hb with ⟨j,u,rfl,e⟩|⟨y,u,rfl,e⟩
   · exact nomatch e
   · injection e with e1 _; rw [e1]
 byValue:=fun k v h=>by
  rcases keyIs_shape h with ⟨i,t,rfl,rfl⟩|⟨x,t,rfl,rfl⟩<;>rfl
 pyHash:=fun hv h=>by
  rcases keyIs_shape hv with ⟨i,t,rfl,rfl⟩|⟨x,t,rfl,rfl⟩
  .exact wpAny_pyHash_int h
  .exact wpAny_pyHash_str h
 eqBool:=fun hu hv h=>by
  rcases keyIs_shape hu with ⟨i,t,rfl,rfl⟩|⟨x,t,rfl,rfl⟩
  .rcases keyIs_shape hv with ⟨j,u,rfl,rfl⟩|⟨y,u,rfl,rfl⟩
   · rw [aPG] at h; exact wpAny_eqBool_int h
   · rw [aPI] at h; exact SeqAt.EqAt.int_str i t y u _ _ _ _ h
  .rcases keyIs_shape hv with ⟨j,u,rfl,rfl⟩|⟨y,u,rfl,rfl⟩
   · rw [aPJ] at h; exact SeqAt.EqAt.str_int x t j u _ _ _ _ h
   · rw [aPH] at h; exact wpAny_eqBool_str h
 «strs»:=fun k x t v h=>by
  rcases keyIs_shape h with ⟨i,u,rfl,e⟩|⟨y,u,rfl,e⟩
  .exact nomatch e
  .injection e with e1 _
   subst e1
   cases v<;>rfl
theorem aCN(prog:P9)(w:W9)(i:Int)(t:Tok):(d5 prog w).is (.inl i) (.int i t)=true:=aGH i t
theorem aCO(prog:P9)(w:W9)(x:Str)(t:Tok):(d5 prog w).is (.inr x) (.str x t)=true:=aGI x t
inductive V where
 | non|bl (b:Bool)|int (i:Int)|str (x:Str)|byt (b:Array UInt8)|flt (b:UInt64)|ref (a:Az)|ty (n:String)
 deriving DecidableEq
def bE:V->V9->Prop
 | .non,u=>u=Value.none
 | .bl b,u=>u=Value.bool b
 | .int i,u=>∃ t,u=Value.int i t
 | .str x,u=>∃ t,u=Value.str x t
 | .byt b,u=>∃ t,u=Value.bytes b t
 | .flt b,u=>∃ t,u=Value.float b t
 | .ref a,u=>u=Value.ref a
 | .ty n,u=>u=Value.type n
abbrev bJ:List V->List V9->Prop:=Paired bE
theorem bJ.length{xs:List V}{us:List V9}(r:bJ xs us):xs.length=us.length:=F5 r
theorem bJ.get:∀ {xs:List V} {us:List V9} {i:Nat} {x:V},bJ xs us->xs[i]? = some x->∃ u,us[i]? = some u/\bE x u
 | _,_,_,_,.nil,e=>by simp at e
 | _,_,0,_,.cons r _,e=>by simp at e;subst e;exact ⟨_,rfl,r⟩
 | _,_,i+1,x,.cons _ t,e=>by
  obtain ⟨u,h1,h2⟩:=bJ.get (i:=i) (x:=x) t (by simpa using e)
  exact ⟨u,by simpa using h1,h2⟩
theorem bJ.set{x:V}{u:V9}(r:bE x u):∀ {xs:List V} {us:List V9} (i:Nat),bJ xs us->bJ (xs.set i x) (us.set i u)
 | _,_,_,.nil=>.nil
 | _,_,0,.cons _ t=>.cons r t
 | _,_,i+1,.cons q t=>.cons q (bJ.set r i t)
theorem bJ.append:∀ {xs ys:List V} {us ws:List V9},bJ xs us->bJ ys ws->bJ (xs++ys) (us++ws)
 | _,_,_,_,.nil,s=>s
 | _,_,_,_,.cons r t,s=>.cons r (bJ.append t s)
theorem bJ.take:∀ {xs:List V} {us:List V9} (n:Nat),bJ xs us->bJ (xs.take n) (us.take n)
 | _,_,0,_=>.nil
 | _,_,_+1,.nil=>.nil
 | _,_,n+1,.cons r t=>.cons r (bJ.take n t)
theorem bJ.drop:∀ {xs:List V} {us:List V9} (n:Nat),bJ xs us->bJ (xs.drop n) (us.drop n)
 | _,_,0,r=>r
 | _,_,_+1,.nil=>.nil
 | _,_,n+1,.cons _ t=>bJ.drop n t
def hU:O9 V->O9 V9->Prop
 | some v,some u=>bE v u
 | none,none=>True
 | _,_=>False
def KV{κ:Type}:List (κ×V)->List (κ×V9)->Prop:=Paired fun (p:κ×V) (q:κ×V9)=>p.1=q.1/\bE p.2 q.2
noncomputable def kV:Key->V
 | .inl i=>.int i
 | .inr x=>.str x
inductive HO where
 | lst (xs:List V)
 | tup (xs:List V)
 | dK (kvs:List (Key×V))|dT (kvs:List (List Key×V))
 | set (S:Int->Bool) (n:Nat)
 | ins (C dx:Az) (fs:List (Str×V))
 | own (x:Az)
 | xd (fs:List (Str×V))
 | met (f x:Az)
 | rng (lo hi:Int)
 | frz (o:Obj) (u:HO)
 | tbl (qs:List (Pos×Str))
 | cod (q:Str)
 | ext (φ:Heap->Prop)
abbrev Hp:=Az->O9 HO
noncomputable def upd(H:Hp)(a:Az)(o:HO):Hp:=fun b=>if b=a then some o else H b
theorem aX{H:Hp}{a:Az}{o:HO}:upd H a o a=some o:=by unfold upd;rw[AD rfl]
theorem aJ{H:Hp}{a b:Az}{o:HO}(h:b≠a):upd H a o b=H b:=by unfold upd;rw[AC h]
theorem r6{H:Hp}{a:Az}{o u:HO}:upd (upd H a o) a u=upd H a u:=by
 funext b;unfold upd;split<;>rfl
theorem bL{H:Hp}{a b:Az}{o:HO}(h:H a=some o)(h':H b=none):a≠b:=by
 intro e;subst e;rw[h] at h';cases h'
def lO(h:H9)(a:Az)(its:Array V9):Prop:=∃ o,h.get? a=some o/\(o.cls=.type "tuple"/\o.dict=none)/\∃ n,o.data=.seq its n
theorem lO.t{h:H9}{a:Az}{b:Array V9}:lO h a b->IsTup h a b:=fun ⟨o,e,c,n,d⟩=>⟨o,e,c.1,n,d⟩
theorem lO.new(h:H9)(a:Array V9):lO (h.push {cls:=.type "tuple",data:=.seq a}) h.objs.size a:=⟨_,BA h rfl,⟨rfl,rfl⟩,_,rfl⟩
section
variable(P:P9)(w:W9)
def cF(H:Hp)(h:H9)(a:Az):HO->Prop
 | .lst xs=>xs.length<=sizeLine/\∃ (its:List V9) (n:Nat),bJ xs its/\h.get? a=some {cls:=.type "list",data:=.seq its.toArray n}
 | .tup xs=>xs.length<=sizeLine/\∃ its:List V9,bJ xs its/\lO h a its.toArray
 | .dK kvs=>kvs.length<=sizeLine/\(a == sysModules)=false/\∃ vs,KV kvs vs/\h.DictOf (d5 P w) a vs
 | .dT kvs=>kvs.length<=sizeLine/\(a == sysModules)=false/\∃ xs:List (List Key×Az×V9),
  Paired (fun (p:List Key×V) (q:List Key×Az×V9)=>p.1=q.1/\H q.2.1=some (.tup (p.1.map kV))/\bE p.2 q.2.2) kvs xs /\
  ∃ o es ep,h.get? a=some o/\o.ExactDict/\o.data=.dict es ep/\es.toList=xs.map (entryOfKey (tupleKind (d5 P w)))/\(xs.map (·.1)).Nodup
 | .set S n=>h.SetOf (intKind P w) a S n
 | .ins C dx fs=>H dx=some (.own a)/\fs.length<=1000/\dx≠a/\h.get? a=some (PySem.W.instObj C dx) /\
  ∃ mA,h.Ns1 dx mA/\(∀ f,hU (fs.lookup f) (mA f))/\PySem.Within mA (fs.map (·.1))
 | .own _=>∃ o,h.get? a=some o
 | .xd fs=>∃ mA,h.Ns1 a mA/\∀ f,hU (fs.lookup f) (mA f)
 | .rng lo hi=>∃ t u v,h.get? a=some {cls:=.type "range",data:=.fields #[.int lo t,.int hi u,.int 1 v]}
 | .frz o u=>h.get? a=some o/\cF H h a u
 | .tbl qs=>∃ ps:Array V9,h.get? a=some {cls:=.none,data:=.fields ps}/\TriplesOk ps.toList/\∀ p∈qs,codeAmong p.1 ps.toList=none\/∃ c,codeAmong p.1 ps.toList=some (.ref c)/\H c=some (.cod p.2)
 | .cod q=>h.CodeRec (.ref a) q
 | .met f x=>h.get? a=some (PySem.W.methodObj (.ref f) (.ref x))
 | .ext φ=>φ h/\(∃ o,h.get? a=some o)/\∀ h1 h2:H9,φ h1->(∀ o,h1.get? a=some o->h2.get? a=some o)->φ h2
def HOk(H:Hp)(h:H9):Prop:=∀ a o,H a=some o->cF P w H h a o
end
section
variable{P:P9}{w:W9}{H H':Hp}{h h':H9}{a:Az}{o:HO}
theorem cF.lt(x:cF P w H h a o):a < h.objs.size:=by
 cases o with
 | lst xs=>obtain ⟨_,_,_,_,e⟩:=x;exact AQ e
 | tup xs=>obtain ⟨_,_,_,p⟩:=x;exact p.t.lt
 | dK kvs=>obtain ⟨_,_,_,_,o,_,_,e,_⟩:=x;exact AQ e
 | dT kvs=>obtain ⟨_,_,_,_,o,_,_,e,_⟩:=x;exact AQ e
 | set S n=>obtain ⟨o,_,_,_,e,_⟩:=x;exact AQ e
 | ins C dx fs=>obtain ⟨_,_,_,e,_⟩:=x;exact AQ e
 | own y=>obtain ⟨_,e⟩:=x;exact AQ e
 | xd fs=>obtain ⟨_,⟨_,_,_,e,_⟩,_⟩:=x;exact AQ e
 | rng lo hi=>obtain ⟨_,_,_,e⟩:=x;exact AQ e
 | frz ob u=>obtain ⟨e,_⟩:=x;exact AQ e
 | tbl qs=>obtain ⟨ps,e,_⟩:=x;exact AQ e
 | cod q=>obtain ⟨c,o,vs,t,e,b,_⟩:=x;cases e;exact AQ b
 | met f y=>exact AQ (show h.get? a=some _ from x)
 | ext φ=>obtain ⟨_,⟨_,e⟩,_⟩:=x;exact AQ e
theorem Paired.mapP{α β:Type}{F G:α->β->Prop}:∀ {l₁:List α} {l₂:List β},Paired F l₁ l₂->(∀ a b,F a b->G a b)->Paired G l₁ l₂
 | _,_,.nil,_=>.nil
 | _,_,.cons r t,f=>.cons (f _ _ r) (Paired.mapP t f)
theorem cF.stay(x:cF P w H h a o)(k:∀ b u,(b=a\/H b=some (.own a))->h.get? b=some u->h'.get? b=some u)
  (j:∀ b,H b=some (.own a)->H' b=some (.own a)) (s:∀ b q,H b=some (.cod q)->H' b=some (.cod q)) (m:∀ b xs,H b=some (.tup xs)->H' b=some (.tup xs)):cF P w H' h' a o:=by
 induction o with
 | lst xs=>obtain ⟨z,i,n,r,e⟩:=x;exact ⟨z,i,n,r,k _ _ (.inl rfl) e⟩
 | tup xs=>obtain ⟨z,i,r,g,e,c⟩:=x;exact ⟨z,i,r,g,k _ _ (.inl rfl) e,c⟩
 | dK kvs=>obtain ⟨z,y,vs,r,g,es,ep,e,c⟩:=x;exact ⟨z,y,vs,r,g,es,ep,k _ _ (.inl rfl) e,c⟩
 | dT kvs=>
  obtain ⟨z,y,xs,r,g,es,ep,e,c⟩:=x
  exact ⟨z,y,xs,Paired.mapP r fun p q z=>⟨z.1,m _ _ z.2.1,z.2.2⟩,g,es,ep,k _ _ (.inl rfl) e,c⟩
 | set S n=>obtain ⟨g,es,ep,t,e,c⟩:=x;exact ⟨g,es,ep,t,k _ _ (.inl rfl) e,c⟩
 | ins C dx fs=>
  obtain ⟨d,z,B,e,mA,⟨od,es,ep,e2,c⟩,r⟩:=x
  exact ⟨j _ d,z,B,k _ _ (.inl rfl) e,mA,⟨od,es,ep,k _ _ (.inr d) e2,c⟩,r⟩
 | own y=>obtain ⟨g,e⟩:=x;exact ⟨g,k _ _ (.inl rfl) e⟩
 | xd fs=>obtain ⟨mA,⟨od,es,ep,e,c⟩,r⟩:=x;exact ⟨mA,⟨od,es,ep,k _ _ (.inl rfl) e,c⟩,r⟩
 | rng lo hi=>obtain ⟨t,u,v,e⟩:=x;exact ⟨t,u,v,k _ _ (.inl rfl) e⟩
 | frz g u ih=>obtain ⟨e,q⟩:=x;exact ⟨k _ _ (.inl rfl) e,ih q⟩
 | tbl qs=>
  obtain ⟨ps,e,t,r⟩:=x
  refine ⟨ps,k _ _ (.inl rfl) e,t,fun p A=>?_⟩
  rcases r p A with z|⟨c,z,l⟩
  · exact .inl z
  · exact .inr ⟨c, z, s _ _ l⟩
 | cod q=>
  obtain ⟨c,o,vs,t,e,j,r⟩:=x
  cases e
  exact ⟨_,o,vs,t,rfl,k _ _ (.inl rfl) j,r⟩
 | met f y=>
  have e:h.get? a=some (PySem.W.methodObj (.ref f) (.ref y)):=x
  show h'.get? a=some (PySem.W.methodObj (.ref f) (.ref y))
  exact k a _ (.inl rfl) e
 | ext φ=>obtain ⟨p,⟨o,e⟩,st⟩:=x;exact ⟨st _ _ p fun o q=>k _ _ (.inl rfl) q,⟨o,k _ _ (.inl rfl) e⟩,st⟩
theorem HOk.lt(x:HOk P w H h)(e:H a=some o):a < h.objs.size:=(x a o e).lt
theorem HOk.fresh(x:HOk P w H h)(e:h.objs.size<=a):H a=none:=by
 cases q:H a with
 | none=>rfl
 | some u=>exact absurd (A3 (x.lt q) e) (B5 _)
theorem HOk.kept(x:HOk P w H h)(k:∀ b u,h.get? b=some u->h'.get? b=some u):HOk P w H h':=fun a o e=>
 (x a o e).stay (fun b u _ q=>k b u q) (fun _ q=>q) (fun _ _ q=>q) fun _ _ q=>q
theorem HOk.laid(x:HOk P w H h)(k:∀ b u,h.get? b=some u->h'.get? b=some u)(g:h.objs.size<=a)(new:cF P w (upd H a o) h' a o):HOk P w (upd H a o) h':=fun b u e=>by
 have d:=x.fresh g
 by_cases f:b=a
 .subst f;rw[aX] at e;cases e;exact new
 .rw[aJ f] at e
  exact (x b u e).stay (fun c v _ q=>k c v q) (fun c q=>by rw[aJ (bL q d)];exact q) (fun c xs q=>by rw[aJ (bL q d)];exact q) fun c xs q=>by rw[aJ (bL q d)];exact q
end
def Rd(H:Hp)(a:Az)(u:HO):Prop:=H a=some u\/∃ o,H a=some (.frz o u)
theorem Rd.ok{P:P9}{w:W9}{H:Hp}{h:H9}{a:Az}{u:HO}(r:Rd H a u)(x:HOk P w H h):cF P w H h a u:=by
 rcases r with r|⟨o,r⟩
 .exact x a u r
 .obtain ⟨_,q⟩:=x a _ r
  exact q
def Mut:O9 HO->Prop
 | some (.lst _)=>True
 | some (.dK _)=>True
 | some (.dT _)=>True
 | some (.set _ _)=>True
 | some (.ins _ _ _)=>True
 | some (.ext _)=>True
 | _=>False
section
variable{P:P9}{w:W9}{H:Hp}{h h':H9}{x e:Az}{o':HO}
theorem HOk.write(ok:HOk P w H h)(f:Mut (H x))(o:e=x\/H e=some (.own x))(k:∀ b u,b≠e->h.get? b=some u->h'.get? b=some u)(m:∃ u,h'.get? e=some u)
  (new:cF P w (upd H x o') h' x o'):HOk P w (upd H x o') h':=fun b u q=>by
 have d:∀ c y,H c=some (.own y)->c≠x:=fun c y r z=>by subst z;rw[r] at f;exact f
 have i:∀ c xs,H c=some (.tup xs)->c≠x:=fun c xs r z=>by subst z;rw[r] at f;exact f
 have g:∀ c xs,H c=some (.cod xs)->c≠x:=fun c xs r z=>by subst z;rw[r] at f;exact f
 by_cases j:b=x
 .subst j;rw[aX] at q;cases q;exact new
 .rw[aJ j] at q
  by_cases a:b=e
  .have n:H b=some (.own x):=by
    rcases o with z|z
    · exact absurd (a.trans z) j
    · rw [a]; exact z
   rw[q] at n;cases n
   obtain ⟨v,p⟩:=m
   exact ⟨v,by rw[a];exact p⟩
  .refine (ok b u q).stay (fun c v l r=>k c v ?_ r) (fun c r=>by rw[aJ (d c b r)];exact r) (fun c xs r=>by rw[aJ (g c xs r)];exact r) fun c xs r=>by rw[aJ (i c xs r)];exact r
   rcases l with rfl|l
   .exact a
   .rintro rfl
    rcases o with z|z
    · exact d c b l z
    · rw [l] at z; cases z; exact j rfl
end
structure Un(fs ex:List Az)(H H':Hp)(h h':Heap):Prop where
 keep:∀ b o,h.get? b=some o->H b=none->b∉fs->b∉ex->h'.get? b=some o
 slot:∀ b o,h.get? b=some o->H b=none->b∈fs->b∉ex->∃ sl,h'.get? b=some {o with slots:=sl}
 free:∀ b o,h.get? b=some o->H b=none->b∉ex->H' b=none
 there:∀ b o,h.get? b=some o->b∉ex->∃ o',h'.get? b=some o'
 tups:∀ b xs,H b=some (.tup xs)->H' b=some (.tup xs)
 frzs:∀ b o u,H b=some (.frz o u)->H' b=some (.frz o u)
 tbls:∀ b ps,H b=some (.tbl ps)->H' b=some (.tbl ps)
section
variable{fs fs' ex ex':List Az}{H H1 H2:Hp}{h h1 h2 h':H9}{a x e:Az}{o:HO}
theorem Un.any(u:Un fs ex H H1 h h1){b:Az}{a:Obj}(q:h.get? b=some a)(n:H b=none)(hx:b∉ex):∃ sl,h1.get? b=some {a with slots:=sl}:=by
 by_cases c:b∈fs
 · exact u.slot b a q n c hx
 · exact ⟨a.slots, u.keep b a q n c hx⟩
theorem Un.trans(a:Un fs ex H H1 h h1)(b:Un fs ex H1 H2 h1 h2):Un fs ex H H2 h h2 where
 keep:=fun c e q n f d=>b.keep c e (a.keep c e q n f d) (a.free c e q n d) f d
 slot:=fun c e q n f d=>by
  obtain ⟨sl,e1⟩:=a.slot c e q n f d
  obtain ⟨g,e2⟩:=b.slot c _ e1 (a.free c e q n d) f d
  exact ⟨g,e2⟩
 free:=fun c e q n d=>by
  obtain ⟨o',e1⟩:=a.there c e q d
  exact b.free c o' e1 (a.free c e q n d) d
 there:=fun c e q d=>by
  obtain ⟨o',e1⟩:=a.there c e q d
  exact b.there c o' e1 d
 tups:=fun c xs q=>b.tups c xs (a.tups c xs q)
 frzs:=fun c e xs q=>b.frzs c e xs (a.frzs c e xs q)
 tbls:=fun c ps q=>b.tbls c ps (a.tbls c ps q)
theorem Un.kept(k:∀ b u,h.get? b=some u->h'.get? b=some u):Un fs ex H H h h':=
 ⟨fun b a q _ _ _=>k b a q,fun b a q _ _ _=>⟨a.slots,k b a q⟩,fun _ _ _ n _=>n,fun b a q _=>⟨a,k b a q⟩,fun _ _ q=>q,fun _ _ _ q=>q,fun _ _ q=>q⟩
theorem Un.refl:Un fs ex H H h h:=Un.kept fun _ _ q=>q
theorem Un.laid(k:∀ b u,h.get? b=some u->h'.get? b=some u)(d:h.objs.size<=a)(c:H a=none):Un fs ex H (upd H a o) h h' where
 keep:=fun b u q _ _ _=>k b u q
 slot:=fun b u q _ _ _=>⟨u.slots,k b u q⟩
 free:=fun b u q n _=>by rw[aJ (BB (A3 (AQ q) d))];exact n
 there:=fun b u q _=>⟨u,k b u q⟩
 tups:=fun b xs q=>by rw[aJ (bL q c)];exact q
 frzs:=fun b u xs q=>by rw[aJ (bL q c)];exact q
 tbls:=fun b ps q=>by rw[aJ (bL q c)];exact q
theorem Un.write(c:Mut (H x))(j:e=x\/H e=some (.own x))(k:∀ b u,b≠e->h.get? b=some u->h'.get? b=some u)(d:∃ u,h'.get? e=some u):Un fs ex H (upd H x o) h h':=by
 have g:∀ b,H b=none->b≠x:=fun b n z=>by subst z;rw[n] at c;exact c
 have i:∀ b,H b=none->b≠e:=fun b n z=>by
  subst z
  rcases j with r|r
  · exact g b n r
  · rw [n] at r; cases r
 have f:∀ b u,H b=some u->¬ Mut (some u)->b≠x:=fun b u q nm z=>by subst z;rw[q] at c;exact nm c
 refine ⟨fun b u q n _ _=>k b u (i b n) q,fun b u q n _ _=>⟨u.slots,k b u (i b n) q⟩,fun b u q n _=>by rw[aJ (g b n)];exact n,fun b u q _=>?_,
  fun b xs q=>by rw[aJ (f b _ q fun z=>z)];exact q,fun b u xs q=>by rw[aJ (f b _ q fun z=>z)];exact q,fun b ps q=>by rw[aJ (f b _ q fun z=>z)];exact q⟩
 by_cases a:b=e
 .subst a;exact d
 .exact ⟨u,k b u a q⟩
end
noncomputable def trk(h:H9)(H:Hp):List Az:=(List.range h.objs.size).filter fun a=>(H a).isSome
def nV(h:H9)(H:Hp):H9:=PySem.W.hideAll h (trk h H)
theorem aGJ(h:H9)(H:Hp):(nV h H).objs.size=h.objs.size:=PySem.W.hideAll_size _ _
theorem aI7{h:H9}{H:Hp}{b:Az}{o:Obj}(e:h.get? b=some o)(n:H b=none):(nV h H).get? b=some o:=
 PySem.W.hideAll_get _ e fun a=>by
  have q:(H b).isSome=true:=(List.mem_filter.mp a).2
  rw[n] at q;simp at q
theorem aMC{h:H9}{H:Hp}{b:Az}{o:Obj}(e:(nV h H).get? b=some o):h.get? b=some o/\H b=none:=by
 have a:h.get? b=some o:=PySem.W.of_hideAll (trk h H) e
 refine ⟨a,?_⟩
 cases q:H b with
 | none=>rfl
 | some x=>
  have c:b∈trk h H:=List.mem_filter.mpr ⟨BR.mpr (AQ a),by simp[q]⟩
  have z:(nV h H).get? b=none:=PySem.W.hideAll_none (trk h H) c
  rw[z] at e;cases e
def aMD(g h:H9)(L:Az):List (Az×Obj):=(List.range h.objs.size).filterMap fun a=>if a=L\/(g.get? a).isSome=true then none else (h.get? a).map fun o=>(a,o)
def rest(g h:H9)(L d:Az):List (Az×Obj):=(aMD g h L).filter fun p=>decide (p.1≠d)
structure Mod(K:Frag)(mg:Str->Option V9)(base:Heap):Prop where
 kin:K.In base
 glob:base.Ns mainGlobals mg
 blt:∃ mb,base.Ns builtinsNs mb/\∀ x:Str,x≠"__name__"->mb x=bootBuiltins x
 nolimit:base.NoLimit
structure Cx where
 prog:Program
 w:World
 K:Frag
 mg:Str->Option V9
 base:Heap
 A:Around
 N:List Str
 s₀:S9
 H₀:Hp
 env:Env
 outer:List Env
 stack:List Env
 ex:List Az
 fn:Str->Bool
 calm:Bool
 pn:List (Az×Obj)
 xe:V9->S9->Prop
noncomputable def frs(l:List Env):List Az:=l.filterMap (·.frame)
abbrev Cx.fs(X:Cx):List Az:=frs X.outer
def Vis(sc:Scope)(x:Str):Prop:=sc.names.lookup x=some .local\/sc.names.lookup x=some .cell\/sc.names.lookup x=some .free
def Loc(sc:Scope)(x:Str):Prop:=sc.names.lookup x=some .local\/sc.names.lookup x=some .cell
def aUQ(env:Env)(h:H9)(m:Str->O9 V9)(x:Str)(u:V9):Prop:=
 (env.kindOf x=some .local/\m x=some u)\/((env.kindOf x=some .cell\/env.kindOf x=some .free)/\∃ c,env.cells.lookup x=some c/\h.IsCell c (some u))
structure Cx.Ok(X:Cx):Prop where
 mod:Mod X.K X.mg X.base
 kind:X.env.scope.kind=.function
 glob:X.env.globals=mainGlobals
 blt:X.env.builtins=builtinsNs
 above:X.s₀.heap.objs.size<=X.env.locals
 inj:∀ x y c,X.env.cells.lookup x=some c->X.env.cells.lookup y=some c->x=y
 has:∀ x,(X.env.kindOf x=some .cell\/X.env.kindOf x=some .free)->∃ c,X.env.cells.lookup x=some c
 cab:∀ x c,X.fn x=true->X.env.cells.lookup x=some c->X.s₀.heap.objs.size<=c
 hd:X.calm=true->X.A.handled=none
 frames:X.A.frames=some X.stack
 stk:X.stack=X.outer\/(X.stack=X.env::X.outer/\X.env.frame=some X.env.locals)
 exf:∀ b∈X.ex,b≠X.env.locals/\∀ x c,X.env.cells.lookup x=some c->c≠b
 bs:∀ b o,X.base.get? b=some o->X.s₀.heap.get? b=some o/\X.H₀ b=none
 bsz:X.base.objs.size<=X.s₀.heap.objs.size
 noex:∀ b o,X.base.get? b=some o->b∉X.ex
 exfs:∀ b∈X.ex,b∉X.fs
 funs:X.s₀.heap.FunFrames X.base X.outer
 frf:∀ b∈X.fs,X.H₀ b=none
structure Inv(X:Cx)(pins:List (Az×Obj))(σ:List (Option V))(H:Hp)(s:S9):Prop where
 ok:X.Ok
 os:s.os=X.s₀.os
 bare:AllBare s.gens
 base:Un X.fs X.ex X.H₀ H X.s₀.heap s.heap
 loc:∃ m,s.heap.Ns X.env.locals m/\∀ (i:Nat) (x:Str) (v:V),X.N[i]? = some x->σ[i]? = some (some v)->Vis X.env.scope x->∃ u,bE v u/\aUQ X.env s.heap m x u
 cell:∀ x c,X.env.cells.lookup x=some c->∃ v,s.heap.IsCell c v
 free:H X.env.locals=none
 freeC:∀ x c,X.env.cells.lookup x=some c->H c=none
 pin:∀ p∈X.pn++pins,s.heap.get? p.1=some p.2/\H p.1=none/\p.1≠X.env.locals/\p.1∉X.fs/\∀ v,p.2.data≠.cell v
 hok:HOk X.prog X.w H s.heap
 len:σ.length=X.N.length
section
variable{X:Cx}{pins:List (Az×Obj)}{σ:List (O9 V)}{H H':Hp}{s:S9}{h':H9}
theorem Cx.Ok.nofr(ok:X.Ok){b:Az}{o:Obj}(e:X.base.get? b=some o):b∉X.fs:=fun a=>by
 have:=(ok.funs.mem a).1
 rw[e] at this;cases this
theorem Inv.bs(I:Inv X pins σ H s):∀ b o,X.base.get? b=some o->s.heap.get? b=some o/\H b=none:=fun b o e=>
 ⟨I.base.keep b o (I.ok.bs b o e).1 (I.ok.bs b o e).2 (I.ok.nofr e) (I.ok.noex b o e),I.base.free b o (I.ok.bs b o e).1 (I.ok.bs b o e).2 (I.ok.noex b o e)⟩
theorem Inv.bk(I:Inv X pins σ H s):∀ b o,X.base.get? b=some o->s.heap.get? b=some o:=fun b o e=>(I.bs b o e).1
theorem Inv.mod(I:Inv X pins σ H s):Mod X.K X.mg X.base:=I.ok.mod
theorem Inv.kIn(I:Inv X pins σ H s):X.K.In s.heap:=I.ok.mod.kin.keeps I.bk
theorem Inv.lt(I:Inv X pins σ H s):X.env.locals < s.heap.objs.size:=let ⟨_,hn,_⟩:=I.loc;hn.lt
theorem Inv.sz(I:Inv X pins σ H s):X.s₀.heap.objs.size<=s.heap.objs.size:=BI I.ok.above (DA I.lt)
theorem Inv.nofs(I:Inv X pins σ H s){a:Az}(h:s.heap.objs.size<=a):a∉X.fs:=fun b=>by
 obtain ⟨_,o,c,_⟩:=I.ok.funs.mem b
 exact absurd (A3 (AQ c) (BI I.sz h)) (B5 _)
theorem Inv.cne(I:Inv X pins σ H s):∀ x c,X.env.cells.lookup x=some c->c≠X.env.locals:=fun x c e z=>by
 obtain ⟨v,o,d,f⟩:=I.cell x c e
 obtain ⟨m,⟨o',es,ep,b,a,_⟩,_⟩:=I.loc
 rw[z,b] at d;cases d;rw[a] at f;cases f
theorem Inv.funs(I:Inv X pins σ H s):s.heap.FunFrames X.base X.outer:=by
 have all:∀ (l:List Env),(∀ b∈frs l,b∈X.fs)->X.s₀.heap.FunFrames X.base l->s.heap.FunFrames X.base l:=by
  intro l
  induction l with
  | nil=>intro _ _;trivial
  | cons env r ih=>
   intro f g
   obtain ⟨i,⟨L,o,d,k,h,m⟩,j⟩:=g
   have a:L∈X.fs:=f L (by unfold frs;rw[EA,d];exact A0)
   obtain ⟨sl,e⟩:=I.base.slot L o h (I.ok.frf L a) a fun z=>I.ok.exfs L z a
   exact ⟨i,⟨L,_,d,k,e,m⟩,ih (fun b c=>f b (by unfold frs;rw[EA,d];exact AN _ c)) j⟩
 exact all X.outer (fun _ c=>c) I.ok.funs
theorem Inv.stack(I:Inv X pins σ H s):s.heap.FunFrames X.base X.stack:=by
 rcases I.ok.stk with e|⟨e,b⟩
 .rw[e];exact I.funs
 .rw[e]
  obtain ⟨m,a,_⟩:=I.loc
  refine .cons (by rw[I.ok.kind];decide) b a ?_ I.funs
  exact FK (BI I.ok.bsz I.ok.above)
theorem Inv.stkSub(I:Inv X pins σ H s):∀ b∈frs X.stack,b∈X.env.locals::X.fs:=fun b a=>by
 rcases I.ok.stk with e|⟨e,c⟩
 .rw[e] at a;exact AN _ a
 .rw[e] at a
  unfold frs at a
  rw[EA,c] at a
  exact a
theorem Inv.stkFree(I:Inv X pins σ H s):∀ b∈frs X.stack,H b=none:=fun b a=>by
 rcases A2.mp (I.stkSub b a) with e|a
 .rw[e];exact I.free
 .obtain ⟨_,o,c,_⟩:=I.ok.funs.mem a
  exact I.base.free b o c (I.ok.frf b a) fun z=>I.ok.exfs b z a
theorem Inv.step{g':Array GenState}{t':Nat}{d':Drawn}{ch:List Az}(I:Inv X pins σ H s)
  (g:∀ b∈ch,(b∈X.ex\/X.s₀.heap.objs.size<=b)/\b≠X.env.locals/\(∀ x c,X.env.cells.lookup x=some c->c≠b)/\∀ p∈X.pn++pins,p.1≠b)
  (keep:∀ b o,b≠X.env.locals->b∉X.fs->b∉ch->s.heap.get? b=some o->H b=none->h'.get? b=some o)
  (slot:∀ b o,b≠X.env.locals->b∈X.fs->b∉ch->s.heap.get? b=some o->H b=none->∃ sl,h'.get? b=some {o with slots:=sl}) (free:∀ b o,b∉ch->s.heap.get? b=some o->H b=none->H' b=none)
  (there:∀ b o,b∉ch->s.heap.get? b=some o->∃ o',h'.get? b=some o')
  (tups:∀ b xs,H b=some (.tup xs)->H' b=some (.tup xs)) (frzs:∀ b o u,H b=some (.frz o u)->H' b=some (.frz o u)) (tbls:∀ b ps,H b=some (.tbl ps)->H' b=some (.tbl ps))
  (ns:∀ m,s.heap.Ns X.env.locals m->h'.Ns X.env.locals m) (hok:HOk X.prog X.w H' h') (hg:AllBare g') :
  Inv X pins σ H' {s with heap:=h',gens:=g',drawn:=d',toks:=t'}:=by
 have A:∀ b o,X.s₀.heap.get? b=some o->b≠X.env.locals:=fun b o e=>BB (A3 (AQ e) I.ok.above)
 have j:∀ b o,X.s₀.heap.get? b=some o->b∉X.ex->b∉ch:=fun b o e a t=>by
  rcases (g b t).1 with z|z
  .exact a z
  .exact absurd (A3 (AQ e) z) (B5 _)
 have f:∀ x c,X.env.cells.lookup x=some c->∀ v,s.heap.IsCell c v->h'.IsCell c v:=fun x c e v C=>by
  obtain ⟨o,y,D⟩:=C
  have h:c∉ch:=fun z=>(g c z).2.2.1 x c e rfl
  by_cases G:c∈X.fs
  .obtain ⟨sl,q⟩:=slot c o (I.cne x c e) G h y (I.freeC x c e)
   exact ⟨_,q,D⟩
  .exact ⟨o,keep c o (I.cne x c e) G h y (I.freeC x c e),D⟩
 refine ⟨I.ok,I.os,hg,⟨fun b o e n t a=>?_,fun b o e n t a=>?_,fun b o e n a=>?_,fun b o e a=>?_,fun b xs e=>tups b xs (I.base.tups b xs e),fun b o xs e=>frzs b o xs (I.base.frzs b o xs e),fun b ps e=>?_⟩,?_,fun x c e=>?_,?_,fun x c e=>?_,fun p J=>?_,hok,I.len⟩
 .exact keep b o (A b o e) t (j b o e a) (I.base.keep b o e n t a) (I.base.free b o e n a)
 .obtain ⟨sl,e1⟩:=I.base.slot b o e n t a
  obtain ⟨B,e2⟩:=slot b _ (A b o e) t (j b o e a) e1 (I.base.free b o e n a)
  exact ⟨B,e2⟩
 .obtain ⟨o',e1⟩:=I.base.there b o e a
  exact free b o' (j b o e a) e1 (I.base.free b o e n a)
 .obtain ⟨o',e1⟩:=I.base.there b o e a
  exact there b o' (j b o e a) e1
 .exact tbls b ps (I.base.tbls b ps e)
 .obtain ⟨m,M,L⟩:=I.loc
  refine ⟨m,ns m M,fun i x v e1 e2 K=>?_⟩
  obtain ⟨u,r,l⟩:=L i x v e1 e2 K
  refine ⟨u,r,?_⟩
  rcases l with l|⟨k,c,e,z⟩
  .exact .inl l
  .exact .inr ⟨k,c,e,f x c e _ z⟩
 .obtain ⟨v,z⟩:=I.cell x c e
  exact ⟨v,f x c e v z⟩
 .obtain ⟨m,⟨o,_,_,y,_⟩,_⟩:=I.loc
  exact free _ o (fun z=>(g _ z).2.1 rfl) y I.free
 .obtain ⟨v,o,y,D⟩:=I.cell x c e
  exact free c o (fun z=>(g c z).2.2.1 x c e rfl) y (I.freeC x c e)
 .obtain ⟨e,n,E,F,d⟩:=I.pin p J
  have h:p.1∉ch:=fun z=>(g p.1 z).2.2.2 p J rfl
  exact ⟨keep p.1 p.2 E F h e n,free p.1 p.2 h e n,E,F,d⟩
theorem Inv.un{t':Nat}(I:Inv X pins σ H s)(u:Un X.fs [] H H' s.heap h')(hok:HOk X.prog X.w H' h'):Inv X pins σ H' {s with heap:=h',toks:=t'}:=by
 obtain ⟨m,⟨o,es,ep,g,r⟩,_⟩:=id I.loc
 obtain ⟨sl,h⟩:=u.any g I.free (by simp)
 exact I.step (g':=s.gens) (d':=s.drawn) (ch:=[]) (fun _ z=>nomatch z) (fun b o _ d _ e n=>u.keep b o e n d (by simp)) (fun b o _ d _ e n=>u.slot b o e n d (by simp)) (fun b o _ e n=>u.free b o e n (by simp)) (fun b o _ e=>u.there b o e (by simp)) u.tups u.frzs u.tbls (fun k j=>by
  obtain ⟨o',f,c,a,i⟩:=j
  rw[g] at a;cases a
  exact ⟨_,f,c,h,i⟩) hok I.bare
theorem Inv.call{g':Array GenState}{t':Nat}{d':Drawn}{ch:List Az}(I:Inv X pins σ H s)(u:Un (frs X.stack) ch H H' s.heap h')(hok:HOk X.prog X.w H' h')(q:AllBare g')
  (d:∀ b∈ch,(b∈X.ex\/X.s₀.heap.objs.size<=b)/\b≠X.env.locals/\(∀ x c,X.env.cells.lookup x=some c->c≠b)/\∀ p∈X.pn++pins,p.1≠b) :
  Inv X pins σ H' {s with heap:=h',gens:=g',drawn:=d',toks:=t'}:=by
 obtain ⟨m,⟨o,es,ep,j,r⟩,_⟩:=id I.loc
 obtain ⟨sl,h⟩:=u.any j I.free fun z=>(d _ z).2.1 rfl
 exact I.step (ch:=ch) d (fun b o h l a e n=>u.keep b o e n (fun z=>(A2.mp (I.stkSub b z)).elim h l) a) (fun b o _ _ a e n=>u.any e n a) (fun b o a e n=>u.free b o e n a) (fun b o a e=>u.there b o e a) u.tups u.frzs u.tbls (fun v t=>by
  obtain ⟨o',i,g,f,k⟩:=t
  rw[j] at f;cases f
  exact ⟨_,i,g,h,k⟩) hok q
theorem Inv.turned{t':Nat}{it:Az}(I:Inv X pins σ H s)(k:∀ b o,b≠it->s.heap.get? b=some o->h'.get? b=some o)(i:H it=none)(f:it≠X.env.locals)
  (h1:it∈X.ex\/X.s₀.heap.objs.size<=it) (h2:∀ x c,X.env.cells.lookup x=some c->c≠it) (g:∀ p∈X.pn++pins,p.1≠it):Inv X pins σ H {s with heap:=h',toks:=t'}:=by
 have d:∀ b u,H b=some u->b≠it:=fun b u e z=>by rw[z,i] at e;cases e
 refine I.step (g':=s.gens) (d':=s.drawn) (ch:=[it]) (fun b j=>?_) (fun b o _ _ a e _=>k b o (fun z=>a (by simp[z])) e) (fun b o _ _ a e _=>⟨o.slots,k b o (fun z=>a (by simp[z])) e⟩) (fun _ _ _ _ n=>n)
  (fun b o a e=>⟨o,k b o (fun z=>a (by simp[z])) e⟩) (fun _ _ e=>e) (fun _ _ _ e=>e) (fun _ _ e=>e) (fun m l=>?_) (fun b u e=>?_) I.bare
 .have e:b=it:=by simpa using j
  subst e
  exact ⟨h1,f,h2,g⟩
 .obtain ⟨o,es,ep,h,r⟩:=l
  exact ⟨o,es,ep,k _ o (BZ f) h,r⟩
 .refine (I.hok b u e).stay (fun c v a q=>k c v ?_ q) (fun _ q=>q) (fun _ _ q=>q) fun _ _ q=>q
  rcases a with z|z
  · rw [z]; exact d b u e
  · exact d c _ z
theorem Inv.tok(I:Inv X pins σ H s)(t:Nat):Inv X pins σ H {s with toks:=t}:=I.un (h':=s.heap) (t':=t) Un.refl I.hok
theorem Inv.kept{t':Nat}(I:Inv X pins σ H s)(k:∀ b u,s.heap.get? b=some u->h'.get? b=some u):Inv X pins σ H {s with heap:=h',toks:=t'}:=I.un (Un.kept k) (I.hok.kept k)
theorem Inv.laid{a:Az}{o:HO}{t':Nat}(I:Inv X pins σ H s)(k:∀ b u,s.heap.get? b=some u->h'.get? b=some u)(c:s.heap.objs.size<=a)(new:cF X.prog X.w (upd H a o) h' a o) :
 Inv X pins σ (upd H a o) {s with heap:=h',toks:=t'}:=I.un (Un.laid k c (I.hok.fresh c)) (I.hok.laid k c new)
theorem Inv.write{x e:Az}{o:HO}{t':Nat}(I:Inv X pins σ H s)(c:Mut (H x))(d:e=x\/H e=some (.own x))(k:∀ b u,b≠e->s.heap.get? b=some u->h'.get? b=some u)(a:∃ u,h'.get? e=some u)
 (new:cF X.prog X.w (upd H x o) h' x o):Inv X pins σ (upd H x o) {s with heap:=h',toks:=t'}:=I.un (Un.write c d k a) (I.hok.write c d k a new)
theorem Inv.pins_of{pins':List (Az×Obj)}(I:Inv X pins σ H s)(h:∀ p∈pins',s.heap.get? p.1=some p.2/\H p.1=none/\p.1≠X.env.locals/\p.1∉X.fs/\∀ v,p.2.data≠.cell v):Inv X pins' σ H s:=
 ⟨I.ok,I.os,I.bare,I.base,I.loc,I.cell,I.free,I.freeC,fun p a=>(BW.mp a).elim (fun z=>I.pin p (CP _ z)) (h p),I.hok,I.len⟩
theorem tP{N:List Str}(c:N.Nodup){i j:Nat}{x:Str}(a:N[i]? = some x)(b:N[j]? = some x):i=j:=by
 obtain ⟨h1,e1⟩:=AM.mp a
 obtain ⟨h2,e2⟩:=AM.mp b
 exact (List.getElem_inj c).mp (e1.trans e2.symm)
theorem yX{M:Model}{A:U9}{E:V9->S9->Prop}{i:Nat}{x:Str}{v:V}{u:V9}{Q:Unit->S9->Prop}(I:Inv X pins σ H s)(hN:X.N.Nodup)(hi:X.N[i]? = some x)(hx:Loc X.env.scope x)(r:bE v u)
  (h:∀ s',Inv X pins (σ.set i (some v)) H s'->(∃ a,Heap.SameBut a s.heap s'.heap/\(a=X.env.locals\/X.env.cells.lookup x=some a))->Q () s') (hf:X.fn x=true\/X.env.scope.names.lookup x=some .local):wpAny M A (storeName X.env x u) Q E s:=by
 obtain ⟨m,hn,hl⟩:=id I.loc
 have O:(X.env.scope.kind == .class || (X.env.scope.kind == .module && X.env.locals != X.env.globals))=false:=by rw[I.ok.kind];rfl
 have B:i < σ.length:=by rw[I.len];exact (AM.mp hi).1
 have cne:=I.cne
 have g:∀ {a:Az} {h':H9},(∃ o,s.heap.get? a=some o/\H a=none)->Heap.SameBut a s.heap h'->HOk X.prog X.w H h':=fun {a h'} ha f b ob e=>by
  obtain ⟨_,_,t⟩:=ha
  refine (I.hok b ob e).stay (fun c T l q=>(f.2 c ?_).trans q) (fun _ q=>q) (fun _ _ q=>q) fun _ _ q=>q
  rintro rfl
  rcases l with rfl|l
  .rw[t] at e;cases e
  .rw[t] at l;cases l
 rcases hx with C|C
 .refine wpAny_storeName_local C hn (fun h' ac f=>?_) O
  obtain ⟨oL,_,_,aa,_⟩:=id hn
  refine h _ ⟨I.ok,I.os,I.bare,⟨fun b o e n D hx=>?_,fun b o e n D hx=>?_,I.base.free,fun b o e hx=>?_,I.base.tups,I.base.frzs,I.base.tbls⟩,⟨_,ac,fun j y U e1 e2 W=>?_⟩,fun y c e=>?_,I.free,I.freeC,fun p hp=>?_,g ⟨oL,aa,I.free⟩ f,by simpa using I.len⟩ ⟨_,f,.inl rfl⟩
  .exact (f.2 b (BB (A3 (AQ e) I.ok.above))).trans (I.base.keep b o e n D hx)
  .obtain ⟨sl,e1⟩:=I.base.slot b o e n D hx
   exact ⟨sl,(f.2 b (BB (A3 (AQ e) I.ok.above))).trans e1⟩
  .obtain ⟨o',e1⟩:=I.base.there b o e hx
   exact ⟨o',(f.2 b (BB (A3 (AQ e) I.ok.above))).trans e1⟩
  .by_cases F:j=i
   .subst F
    rw[hi] at e1;cases e1
    rw[CV B] at e2
    cases e2
    exact ⟨u,r,.inl ⟨C,by simp⟩⟩
   .rw[BN (BZ F)] at e2
    obtain ⟨u',Y,q⟩:=hl j y U e1 e2 W
    refine ⟨u',Y,?_⟩
    rcases q with ⟨k,e⟩|⟨k,c,e,z⟩
    .refine .inl ⟨k,?_⟩
     have:y≠x:=fun e=>F (tP hN e1 (e▸hi))
     simp[this,e]
    .exact .inr ⟨k,c,e,z.sameBut f (cne y c e)⟩
  .obtain ⟨T,z⟩:=I.cell y c e
   exact ⟨T,z.sameBut f (cne y c e)⟩
  .obtain ⟨e,n,S,Z,d⟩:=I.pin p hp
   exact ⟨(f.2 p.1 S).trans e,n,S,Z,d⟩
 .have G:X.fn x=true:=by
   rcases hf with z|z
   .exact z
   .rw[z] at C;cases C
  obtain ⟨c,l⟩:=I.ok.has x (.inl C)
  obtain ⟨T,z⟩:=I.cell x c l
  refine wpAny_storeName_cell I.ok.kind C l z (fun h' J f=>?_)
  obtain ⟨oc,L,K⟩:=id z
  refine h {s with heap:=h'} ⟨I.ok,I.os,I.bare,⟨fun b o e n D hx=>?_,fun b o e n D hx=>?_,I.base.free,fun b o e hx=>?_,I.base.tups,I.base.frzs,I.base.tbls⟩,⟨m,hn.sameBut f (BZ (cne x c l)),fun j y U e1 e2 W=>?_⟩,fun y R e=>?_,I.free,I.freeC,fun p hp=>?_,g ⟨oc,L,I.freeC x c l⟩ f,by simpa using I.len⟩ ⟨c,f,.inr l⟩
  .exact (f.2 b (BB (A3 (AQ e) (I.ok.cab x c G l)))).trans (I.base.keep b o e n D hx)
  .obtain ⟨sl,e1⟩:=I.base.slot b o e n D hx
   exact ⟨sl,(f.2 b (BB (A3 (AQ e) (I.ok.cab x c G l)))).trans e1⟩
  .obtain ⟨o',e1⟩:=I.base.there b o e hx
   exact ⟨o',(f.2 b (BB (A3 (AQ e) (I.ok.cab x c G l)))).trans e1⟩
  .by_cases F:j=i
   .subst F
    rw[hi] at e1;cases e1
    rw[CV B] at e2
    cases e2
    exact ⟨u,r,.inr ⟨.inl C,c,l,J⟩⟩
   .rw[BN (BZ F)] at e2
    obtain ⟨u',Y,q⟩:=hl j y U e1 e2 W
    refine ⟨u',Y,?_⟩
    rcases q with q|⟨k,R,e,z'⟩
    .exact .inl q
    .refine .inr ⟨k,R,e,z'.sameBut f ?_⟩
     rintro rfl
     exact F (tP hN e1 (I.ok.inj _ _ _ e l▸hi))
  .by_cases P:R=c
   .subst P;exact ⟨_,J⟩
   .obtain ⟨w2,z2⟩:=I.cell y R e
    exact ⟨w2,z2.sameBut f P⟩
  .obtain ⟨e,n,S,Z,d⟩:=I.pin p hp
   refine ⟨(f.2 p.1 ?_).trans e,n,S,Z,d⟩
   intro q
   rw[q,L] at e
   have q':oc=p.2:=BU e
   exact d T (by rw[<-q'];exact K)
theorem mO{M:Model}{A:U9}{E:V9->S9->Prop}{i:Nat}{x:Str}{v:V}{u:V9}{Q:Unit->S9->Prop}(I:Inv X pins σ H s)(c:X.N.Nodup)(hi:X.N[i]? = some x)(hx:Loc X.env.scope x)(r:bE v u)
  (h:∀ s',Inv X pins (σ.set i (some v)) H s'->Q () s') (b:X.fn x=true\/X.env.scope.names.lookup x=some .local):wpAny M A (storeName X.env x u) Q E s:=
 yX I c hi hx r (fun s' a _=>h s' a) b
theorem Inv.call'{s':S9}{ch:List Az}(I:Inv X pins σ H s)(d:s'.os=s.os)(u:Un (frs X.stack) ch H H' s.heap s'.heap)(hok:HOk X.prog X.w H' s'.heap)(f:AllBare s'.gens)
  (a:∀ b∈ch,(b∈X.ex\/X.s₀.heap.objs.size<=b)/\b≠X.env.locals/\(∀ x c,X.env.cells.lookup x=some c->c≠b)/\∀ p∈X.pn++pins,p.1≠b):Inv X pins σ H' s':=by
 obtain ⟨h',g',d',t',o'⟩:=s'
 have e:o'=s.os:=d
 subst e
 exact I.call (g':=g') (t':=t') (d':=d') u hok f a
end
abbrev XK:=V9->O9 Az->Hp->Prop
abbrev St:=List (O9 V)
abbrev VK:=V->Hp->Prop
abbrev TE:=St->Hp->VK->Prop
abbrev TT:=St->Hp->(Bool->Hp->Prop)->Prop
abbrev TA:=St->Hp->(List V->Hp->Prop)->Prop
structure lZ where
 nx:St->Hp->Prop
 rt:VK
 bk:St->Hp->Prop:=fun _ _=>False
 ct:St->Hp->Prop:=fun _ _=>False
abbrev TS:=lZ->St->Hp->Prop
def EP(X:Cx)(pins:List (Az×Obj))(σ:St)(Q:VK)(u:V9)(s':S9):Prop:=∃ v H',Inv X pins σ H' s'/\bE v u/\Q v H'
def TP(X:Cx)(pins:List (Az×Obj))(σ:St)(Q:Bool->Hp->Prop)(b:Bool)(s':S9):Prop:=∃ H',Inv X pins σ H' s'/\Q b H'
def AP(X:Cx)(pins:List (Az×Obj))(σ:St)(Q:List V->Hp->Prop)(us:List V9)(s':S9):Prop:=∃ vs H',Inv X pins σ H' s'/\bJ vs us/\Q vs H'
def SP(X:Cx)(pins:List (Az×Obj))(D:lZ)(f:Flow)(s':S9):Prop:=
 match f with
 | .next=>∃ σ' H',Inv X pins σ' H' s'/\D.nx σ' H'
 | .brk=>∃ σ' H',Inv X pins σ' H' s'/\D.bk σ' H'
 | .cont=>∃ σ' H',Inv X pins σ' H' s'/\D.ct σ' H'
 | .ret u=>∃ v σ' H',Inv X pins σ' H' s'/\bE v u/\D.rt v H'
def PE(X:Cx)(e:E1)(t:TE):Prop:=
 ∀ (pins:List (Az×Obj)) (s:S9) (σ:St) (H:Hp) (Q:VK),Inv X pins σ H s->t σ H Q->wpAny (model X.prog X.w) X.A (eval e X.env) (EP X pins σ Q) X.xe s
def PT(X:Cx)(e:E1)(t:TT):Prop:=
 ∀ (pins:List (Az×Obj)) (s:S9) (σ:St) (H:Hp) (Q:Bool->Hp->Prop),Inv X pins σ H s->t σ H Q->wpAny (model X.prog X.w) X.A (isTrue e X.env (eval e X.env)) (TP X pins σ Q) X.xe s
def PW(X:Cx)(e:E1)(t:TT):Prop:=
 ∀ (whole:Sem V9) (pins:List (Az×Obj)) (s:S9) (σ:St) (H:Hp) (Q:Bool->Hp->Prop),Inv X pins σ H s->t σ H Q->wpAny (model X.prog X.w) X.A (isTrue e X.env whole) (TP X pins σ Q) X.xe s
theorem PW.pt{X:Cx}{e:E1}{t:TT}(h:PW X e t):PT X e t:=h _
def PA(X:Cx)(es:List E1)(t:TA):Prop:=
 ∀ (pos:Pos) (pins:List (Az×Obj)) (s:S9) (σ:St) (H:Hp) (Q:List V->Hp->Prop),Inv X pins σ H s->t σ H Q->wpAny (model X.prog X.w) X.A (spliced (backTo pos (starEach es X.env))) (AP X pins σ Q) X.xe s
def PS(X:Cx)(st:Stmt)(t:TS):Prop:=
 ∀ (pins:List (Az×Obj)) (s:S9) (σ:St) (H:Hp) (D:lZ),Inv X pins σ H s->t D σ H->wpAny (model X.prog X.w) X.A (exec st X.env) (SP X pins D) X.xe s
def PSs(X:Cx)(st:List Stmt)(t:TS):Prop:=
 ∀ (pins:List (Az×Obj)) (s:S9) (σ:St) (H:Hp) (D:lZ),Inv X pins σ H s->t D σ H->wpAny (model X.prog X.w) X.A (execs st X.env) (SP X pins D) X.xe s
theorem thn{α:Type}{t:Sem α}{Q b:α->S9->Prop}{M:Model}{A:U9}{E:V9->S9->Prop}{s:S9}(h:wpAny M A t Q E s)(c:∀ a s,Q a s->b a s):wpAny M A t b E s:=BO h c fun _ _ x=>x
section
variable{X:Cx}
def jK(i:Nat):TE:=fun σ H Q=>∃ v,σ[i]? = some (some v)/\Q v H
def tC(v:V):TE:=fun _ H Q=>Q v H
theorem aPK{i:Nat}{x:Str}{pos:Pos}(p:X.N[i]? = some x)(n:Vis X.env.scope x)(f:(x == ("__debug__":Str))=false:=by decide)(hcd:(x == ("__classdict__":Str))=false:=by decide):PE X (.Name x pos) (jK i):=by
 intro pins s σ H Q I h
 obtain ⟨v,e,h⟩:=h
 obtain ⟨m,k,j⟩:=I.loc
 obtain ⟨u,r,l⟩:=j i x v p e n
 have d:EP X pins σ Q u s:=⟨v,H,I,r,h⟩
 rcases l with ⟨b,o⟩|⟨b,c,g,a⟩
 .exact wpAny_Name (wpAny_loadName_local I.ok.kind b k o d) f
 .rcases b with b|b
  · exact wpAny_Name (wpAny_loadName_cell I.ok.kind b g a d) f
  · exact wpAny_Name (wpAny_loadName_free I.ok.kind b g a d hcd) f
theorem aPL{i j pos}:PE X (.Constant (.int i) j pos) (tC (.int i)):=fun _ _ _ H _ I h=>wpAny_Constant_int ⟨.int i,H,I.tok _,⟨_,rfl⟩,h⟩
theorem aSS{b j pos}:PE X (.Constant (.bool b) j pos) (tC (.bl b)):=fun _ _ _ H _ I h=>Constant_bool ⟨.bl b,H,I,rfl,h⟩
theorem aAK{x j pos}:PE X (.Constant (.str x) j pos) (tC (.str x)):=fun _ _ _ H _ I h=>Calls.Constant_str ⟨.str x,H,I.tok _,⟨_,rfl⟩,h⟩
def Gl(X:Cx)(x:Str):Prop:=X.env.kindOf x=some .globalImplicit
theorem j6{E:V9->S9->Prop}{pins:List (Az×Obj)}{s:S9}{σ:St}{H:Hp}{x:Str}{u:V9}{pos:Pos}{Q:V9->S9->Prop}(I:Inv X pins σ H s)(b:Gl X x)(a:X.mg x=some u)(h:Q u s)
  (c:(x == ("__debug__":Str))=false:=by decide):wpAny (model X.prog X.w) X.A (eval (.Name x pos) X.env) Q E s:=
 F6 I.ok.kind b (Calls.loadGlobal_global (by rw[I.ok.glob];exact I.mod.glob.keeps I.bk) a h) c
theorem n6{E:V9->S9->Prop}{pins:List (Az×Obj)}{s:S9}{σ:St}{H:Hp}{x:Str}{u:V9}{pos:Pos}{Q:V9->S9->Prop}(I:Inv X pins σ H s)(a:Gl X x)(c:X.mg x=none)(b:bootBuiltins x=some u)(h:Q u s)
  (d:x≠"__name__":=by decide) (hd:(x == ("__debug__":Str))=false:=by decide):wpAny (model X.prog X.w) X.A (eval (.Name x pos) X.env) Q E s:=by
 obtain ⟨e,h1,h2⟩:=I.mod.blt
 exact F6 I.ok.kind a (Calls.loadGlobal_builtin (by rw[I.ok.glob];exact I.mod.glob.keeps I.bk) c (by rw[I.ok.blt];exact h1.keeps I.bk) ((h2 x d).trans b) h) hd
theorem mH{x:Str}{v:V}{u:V9}{pos:Pos}(b:Gl X x)(a:X.mg x=some u)(r:bE v u)(c:(x == ("__debug__":Str))=false:=by decide):PE X (.Name x pos) (tC v):=
 fun _ _ _ H _ I h=>j6 I b a ⟨v,H,I,r,h⟩ c
theorem r9{x:Str}{v:V}{u:V9}{pos:Pos}(a:Gl X x)(d:X.mg x=none)(c:bootBuiltins x=some u)(r:bE v u)(b:x≠"__name__":=by decide)(hd:(x == ("__debug__":Str))=false:=by decide):PE X (.Name x pos) (tC v):=
 fun _ _ _ H _ I h=>n6 I a d c ⟨v,H,I,r,h⟩ b hd
variable{a b:E1}{ta tb:TE}{pos:Pos}
def PC(X:Cx)(op:CmpOp)(a b:E1)(t:TE):Prop:=
 ∀ (pins:List (Az×Obj)) (s:S9) (σ:St) (H:Hp) (Q:VK),Inv X pins σ H s->t σ H Q->
  wpAny (model X.prog X.w) X.A (eval a X.env) (fun v s₁=>wpAny (model X.prog X.w) X.A (eval b X.env) (fun u s₂=>wpAny (model X.prog X.w) X.A (compareOp op v u) (EP X pins σ Q) X.xe s₂) X.xe s₁) X.xe s
theorem aI8(b:E1){a:CmpOp}(h:a≠.In)(h2:a≠.NotIn):behindInMarks a b=false:=by
 have e1:(a == CmpOp.In)=false:=by cases a<;>first|rfl|exact absurd rfl h
 have e2:(a == CmpOp.NotIn)=false:=by cases a<;>first|rfl|exact absurd rfl h2
 cases b<;>simp[behindInMarks,e1,e2]
def tB(t:TE):TT:=fun σ H Q=>t σ H fun x H1=>∃ c,x=.bl c/\Q c H1
theorem dS{f:CmpOp}{t:TE}(h:PC X f a b t)(h1:behindInMarks f b=false:=by first|exact aI8 _ (by decide) (by decide)|rfl):PT X (.Compare a [f] [b] pos) (tB t):=by
 intro pins s σ H Q I g
 refine wpAny_isTrue_Compare1 (thn (h pins s σ H _ I g) fun v s1 h1=>thn h1 fun u l h2=>thn h2 fun c k e=>?_) h1
 obtain ⟨x,H1,j,r1,i⟩:=e
 obtain ⟨d,rfl,q⟩:=i
 cases r1
 exact DW ⟨H1,j,q⟩
theorem jQ{e:E1}{t:TE}(h:PE X e t)(b:∀ whole,isTrue e X.env whole=(do let v <-whole;standAt e.pos;holding [v] (truthy v)):=by intro _;rfl):PT X e (tB t):=by
 intro pins s σ H Q I c
 refine isTrue_plain (thn (h pins s σ H _ I c) fun v s1 a=>?_) (b _)
 obtain ⟨x,H1,g,r1,f⟩:=a
 obtain ⟨d,rfl,q⟩:=f
 cases r1
 exact DW ⟨H1,g,q⟩
variable{tA tB':TT}{rest:List E1}
def aPM(t u:TT):TT:=fun σ H Q=>t σ H fun c H1=>if c=true then u σ H1 Q else Q false H1
def tOr(t u:TT):TT:=fun σ H Q=>t σ H fun c H1=>if c=true then Q true H1 else u σ H1 Q
def aUR(t:TT):TT:=fun σ H Q=>t σ H fun c H1=>Q (!c) H1
theorem mI(b:PT X a tA):PW X (.BoolOp .And [a] pos) tA:=by
 intro d pins s σ H Q I h
 refine isTrue_and (thn (b pins s σ H Q I h) fun c s1 e=>?_)
 cases c with
 | true=>exact isTrue_and_nil e
 | false=>exact e
theorem uP(b:PT X a tA):PW X (.BoolOp .Or [a] pos) tA:=by
 intro d pins s σ H Q I h
 refine isTrue_or (thn (b pins s σ H Q I h) fun c s1 e=>?_)
 cases c with
 | false=>exact isTrue_or_nil e
 | true=>exact e
theorem n8(j:PT X a tA)(i:PW X (.BoolOp .And (b::rest) pos) tB'):PW X (.BoolOp .And (a::b::rest) pos) (aPM tA tB'):=by
 intro g pins s σ H Q I h
 refine isTrue_and (thn (j pins s σ H _ I h) fun c s1 d=>?_)
 obtain ⟨H1,f,e⟩:=d
 cases c with
 | true=>exact i g pins s1 σ H1 Q f e
 | false=>exact ⟨H1,f,e⟩
theorem uQ(j:PT X a tA)(i:PW X (.BoolOp .Or (b::rest) pos) tB'):PW X (.BoolOp .Or (a::b::rest) pos) (tOr tA tB'):=by
 intro g pins s σ H Q I h
 refine isTrue_or (thn (j pins s σ H _ I h) fun c s1 d=>?_)
 obtain ⟨H1,f,e⟩:=d
 cases c with
 | true=>exact ⟨H1,f,e⟩
 | false=>exact i g pins s1 σ H1 Q f e
theorem lP(b:PT X a tA):PT X (.UnaryOp .Not a pos) (aUR tA):=by
 intro pins s σ H Q I h
 exact isTrue_not (b pins s σ H (fun c H1=>Q (!c) H1) I h)
def aST(ta tb:TE):TE:=fun σ H Q=>ta σ H fun x H1=>∃ c,x=.bl c/\if c=true then tb σ H1 Q else Q (.bl false) H1
def aUS(ta tb:TE):TE:=fun σ H Q=>ta σ H fun x H1=>∃ c,x=.bl c/\if c=true then Q (.bl true) H1 else tb σ H1 Q
def aSU(ta:TE):TE:=fun σ H Q=>ta σ H fun x H1=>∃ c,x=.bl c/\Q (.bl (!c)) H1
theorem aPN{op}{t:TE}(h:PE X a t):PE X (.BoolOp op [a] pos) t:=fun pins s σ H Q I b=>BoolOp_one (h pins s σ H Q I b)
theorem aPO(i:PE X a ta)(g:PE X (.BoolOp .And (b::rest) pos) tb):PE X (.BoolOp .And (a::b::rest) pos) (aST ta tb):=by
 intro pins s σ H Q I h
 refine BoolOp_and (thn (i pins s σ H _ I h) fun v s1 e=>?_)
 obtain ⟨x,H1,f,r1,d⟩:=e
 obtain ⟨c,rfl,d⟩:=d
 cases r1
 refine DW ?_
 cases c with
 | true=>exact g pins s1 σ H1 Q f d
 | false=>exact ⟨.bl false,H1,f,rfl,d⟩
theorem aSV(i:PE X a ta)(g:PE X (.BoolOp .Or (b::rest) pos) tb):PE X (.BoolOp .Or (a::b::rest) pos) (aUS ta tb):=by
 intro pins s σ H Q I h
 refine BoolOp_or (thn (i pins s σ H _ I h) fun v s1 e=>?_)
 obtain ⟨x,H1,f,r1,d⟩:=e
 obtain ⟨c,rfl,d⟩:=d
 cases r1
 refine DW ?_
 cases c with
 | false=>exact g pins s1 σ H1 Q f d
 | true=>exact ⟨.bl true,H1,f,rfl,d⟩
theorem aPP(e:PE X a ta):PE X (.UnaryOp .Not a pos) (aSU ta):=by
 intro pins s σ H Q I h
 refine UnaryOp_ (thn (e pins s σ H _ I h) fun v s1 b=>?_)
 obtain ⟨x,H1,f,r1,d⟩:=b
 obtain ⟨c,rfl,d⟩:=d
 cases r1
 exact not_of (DW ⟨.bl (!c),H1,f,rfl,d⟩)
def tIf(t:TT)(ta tb:TE):TE:=fun σ H Q=>t σ H fun c H1=>if c=true then ta σ H1 Q else tb σ H1 Q
theorem aI9{c:E1}(j:PT X c tA)(k:PE X a ta)(i:PE X b tb):PE X (.IfExp c a b pos) (tIf tA ta tb):=by
 intro pins s σ H Q I h
 refine wpAny_IfExp (thn (j pins s σ H _ I h) fun d s1 e=>?_)
 obtain ⟨H1,g,f⟩:=e
 cases d with
 | true=>exact k pins s1 σ H1 Q g f
 | false=>exact i pins s1 σ H1 Q g f
end
def SqL(K:Frag)(H:Hp)(a:Az)(xs:List V):Prop:=
 Rd H a (.lst xs) \/
  ∃ (o:Obj) (its:Array V9) (n:Nat),K.lookup a=some o/\o.cls=.type "list"/\o.dict=none/\o.data=.seq its n/\its.size<=sizeLine/\bJ xs its.toList
def SqT(K:Frag)(H:Hp)(a:Az)(xs:List V):Prop:=
 Rd H a (.tup xs) \/
  ∃ (o:Obj) (its:Array V9) (n:Nat),K.lookup a=some o/\(o.cls=.type "tuple"/\o.dict=none)/\o.data=.seq its n/\its.size<=sizeLine/\bJ xs its.toList
noncomputable def aUT:V9->O9 V
 | .none=>some .non
 | .bool b=>some (.bl b)
 | .int i _=>some (.int i)
 | .str x _=>some (.str x)
 | .bytes b _=>some (.byt b)
 | .float b _=>some (.flt b)
 | .ref a=>some (.ref a)
 | .type n=>some (.ty n)
 | _=>none
theorem bE.abs{x:V}{u:V9}(r:bE x u):aUT u=some x:=by
 cases x with
 | non=>cases r;rfl
 | bl _=>cases r;rfl
 | int _=>obtain ⟨t,rfl⟩:=r;rfl
 | str _=>obtain ⟨t,rfl⟩:=r;rfl
 | byt _=>obtain ⟨t,rfl⟩:=r;rfl
 | flt _=>obtain ⟨t,rfl⟩:=r;rfl
 | ref _=>cases r;rfl
 | ty _=>cases r;rfl
theorem bE.inj{x y:V}{u:V9}(r:bE x u)(q:bE y u):x=y:=BU (r.abs.symm.trans q.abs)
theorem bJ.inj:∀ {xs ys:List V} {us:List V9},bJ xs us->bJ ys us->xs=ys
 | _,_,_,.nil,.nil=>rfl
 | _,_,_,.cons r t,.cons r' t'=>by rw[r.inj r',bJ.inj t t']
section
variable{X:Cx}{pins:List (Az×Obj)}{σ:St}{H:Hp}{s:S9}{a:Az}{xs ys:List V}
theorem SqL.of{K:Frag}(h:H a=some (.lst xs)):SqL K H a xs:=.inl (.inl h)
theorem SqT.of{K:Frag}(h:H a=some (.tup xs)):SqT K H a xs:=.inl (.inl h)
theorem Inv.list(I:Inv X pins σ H s)(h:SqL X.K H a xs):∃ its:List V9,bJ xs its/\PlainL s.heap a its.toArray/\xs.length<=sizeLine:=by
 rcases h with h|⟨o,its,n,c,d,f,b,g,r⟩
 .obtain ⟨z,its,n,r,e⟩:=h.ok I.hok
  exact ⟨its,r,⟨_,n,e,rfl,rfl,rfl⟩,z⟩
 .refine ⟨its.toList,r,⟨o,n,I.kIn a o c,d,f,by simpa using b⟩,?_⟩
  have e:=r.length
  simp only[CK] at e
  omega
theorem Inv.tuple(I:Inv X pins σ H s)(h:SqT X.K H a xs):∃ its:List V9,bJ xs its/\IsTup s.heap a its.toArray/\xs.length<=sizeLine:=by
 rcases h with h|⟨o,its,n,c,d,b,f,r⟩
 .obtain ⟨z,its,r,p⟩:=h.ok I.hok
  exact ⟨its,r,p.t,z⟩
 .refine ⟨its.toList,r,⟨o,I.kIn a o c,d.1,n,by simpa using b⟩,?_⟩
  have e:=r.length
  simp only[CK] at e
  omega
theorem Inv.list_inj(I:Inv X pins σ H s)(h:SqL X.K H a xs)(h':SqL X.K H a ys):xs=ys:=by
 obtain ⟨c,r,⟨o,n,e,_,_,d⟩,_⟩:=I.list h
 obtain ⟨b,i,⟨o',j,g,_,_,f⟩,_⟩:=I.list h'
 rw[e] at g;cases g
 rw[d] at f
 injection f with d1 _
 have:c=b:=by simpa using congrArg Array.toList d1
 subst this
 exact r.inj i
theorem Inv.tuple_inj(I:Inv X pins σ H s)(h:SqT X.K H a xs)(h':SqT X.K H a ys):xs=ys:=by
 obtain ⟨c,r,⟨o,e,_,n,d⟩,_⟩:=I.tuple h
 obtain ⟨b,i,⟨o',g,_,j,f⟩,_⟩:=I.tuple h'
 rw[e] at g;cases g
 rw[d] at f
 injection f with d1 _
 have:c=b:=by simpa using congrArg Array.toList d1
 subst this
 exact r.inj i
end
abbrev Cx.wish(X:Cx)(E:V9->S9->Prop):Cx:={X with xe:=E}
abbrev Cx.nox(X:Cx):Cx:=X.wish fun _ _=>False
theorem Cx.Ok.wish{X:Cx}(ok:X.Ok)(E:V9->S9->Prop):(X.wish E).Ok:=
 ⟨ok.mod,ok.kind,ok.glob,ok.blt,ok.above,ok.inj,ok.has,ok.cab,ok.hd,ok.frames,ok.stk,ok.exf,ok.bs,ok.bsz,ok.noex,ok.exfs,ok.funs,ok.frf⟩
theorem Cx.Ok.unwish{X:Cx}{E:V9->S9->Prop}(ok:(X.wish E).Ok):X.Ok:=
 ⟨ok.mod,ok.kind,ok.glob,ok.blt,ok.above,ok.inj,ok.has,ok.cab,ok.hd,ok.frames,ok.stk,ok.exf,ok.bs,ok.bsz,ok.noex,ok.exfs,ok.funs,ok.frf⟩
section
variable{X:Cx}{pins:List (Az×Obj)}{σ:St}{H:Hp}{s:S9}{E:V9->S9->Prop}
theorem Inv.wish(I:Inv X pins σ H s)(E:V9->S9->Prop):Inv (X.wish E) pins σ H s:=⟨I.ok.wish E,I.os,I.bare,I.base,I.loc,I.cell,I.free,I.freeC,I.pin,I.hok,I.len⟩
theorem Inv.unwish(I:Inv (X.wish E) pins σ H s):Inv X pins σ H s:=⟨I.ok.unwish,I.os,I.bare,I.base,I.loc,I.cell,I.free,I.freeC,I.pin,I.hok,I.len⟩
theorem SP.unwish{D:lZ}{f:Flow}{s':S9}(h:SP (X.wish E) pins D f s'):SP X pins D f s':=by
 cases f with
 | next=>obtain ⟨a,H',I,q⟩:=h;exact ⟨a,H',I.unwish,q⟩
 | brk=>obtain ⟨a,H',I,q⟩:=h;exact ⟨a,H',I.unwish,q⟩
 | cont=>obtain ⟨a,H',I,q⟩:=h;exact ⟨a,H',I.unwish,q⟩
 | ret u=>obtain ⟨v,a,H',I,r,q⟩:=h;exact ⟨v,a,H',I.unwish,r,q⟩
theorem PE.nox{e:E1}{t:TE}(h:PE X.nox e t):PE X e t:=fun pins s σ H Q I b=>
 BO (h pins s σ H Q (I.wish _) b) (fun _ _ ⟨v,H',a,r,q⟩=>⟨v,H',a.unwish,r,q⟩) fun _ _ z=>False.elim z
theorem PT.nox{e:E1}{t:TT}(h:PT X.nox e t):PT X e t:=fun pins s σ H Q I b=>
 BO (h pins s σ H Q (I.wish _) b) (fun _ _ ⟨H',a,q⟩=>⟨H',a.unwish,q⟩) fun _ _ z=>False.elim z
theorem PSs.nox{st:List Stmt}{t:TS}(h:PSs X.nox st t):PSs X st t:=fun pins s σ H D I a=>
 BO (h pins s σ H D (I.wish _) a) (fun _ _ q=>q.unwish) fun _ _ z=>False.elim z
end
section
variable{X:Cx}{st:Stmt}{rest:List Stmt}{t u:TS}{e:E1}{te:TE}{pos:Pos}
def aSW:TS:=fun D σ H=>D.nx σ H
def aPQ(t u:TS):TS:=fun D σ H=>t {D with nx:=u D} σ H
theorem dJ:PSs X [] aSW:=fun _ _ σ H _ I h=>EG ⟨σ,H,I,h⟩
theorem aG(h1:PS X st t)(h2:PSs X rest u):PSs X (st::rest) (aPQ t u):=by
 intro pins s σ H D I h
 refine GH (thn (h1 pins s σ H {D with nx:=u D} I h) fun f s1 q=>?_)
 cases f with
 | next=>
  obtain ⟨a,H',b,q⟩:=q
  exact h2 pins s1 a H' D b q
 | ret v=>exact q
 | brk=>exact q
 | cont=>exact q
theorem aR(h1:PS X st t):PSs X [st] t:=by
 intro pins s σ H D I h
 refine GH (thn (h1 pins s σ H D I h) fun f s1 q=>?_)
 cases f with
 | next=>exact EG q
 | ret v=>exact q
 | brk=>exact q
 | cont=>exact q
theorem Inv.quiet{pins:List (Az×Obj)}{σ:St}{H:Hp}{s:S9}(I:Inv X pins σ H s):interactive X.env=false:=by simp[interactive,I.ok.kind]
def aEH(te:TE):TS:=fun D σ H=>te σ H fun _ H1=>D.nx σ H1
theorem f9(a:PE X e te)(b:swapsWith e none pos.line X.env=pure false:=by rfl):PS X (.Expr e pos) (aEH te):=by
 intro pins s σ H D I h
 exact wpAny_Expr_any (thn (a pins s σ H _ I h) fun v s1 ⟨x,H1,d,r1,c⟩=>⟨σ,H1,d,c⟩) I.quiet b
def aPR(te:TE):TS:=fun D σ H=>te σ H D.rt
theorem bY(a:PE X e te):PS X (.Return (some e) pos) (aPR te):=by
 intro pins s σ H D I h
 exact wpAny_Return_some (thn (a pins s σ H _ I h) fun v s1 ⟨x,H1,c,r1,b⟩=>⟨x,σ,H1,c,r1,b⟩)
def aUU(c:TT)(t u:TS):TS:=fun D σ H=>c σ H fun b H1=>if b=true then t D σ H1 else u D σ H1
theorem fH{c:E1}{a b:List Stmt}{tc:TT}(j:PT X c tc)(k:PSs X a t)(i:PSs X b u):PS X (.If c a b pos) (aUU tc t u):=by
 intro pins s σ H D I h
 refine wpAny_If (thn (j pins s σ H _ I h) fun d s1 e=>?_)
 obtain ⟨H1,g,f⟩:=e
 cases d with
 | true=>exact k pins s1 σ H1 D g f
 | false=>exact i pins s1 σ H1 D g f
end
abbrev TG:=V->St->Hp->(St->Hp->Prop)->Prop
abbrev TGs:=List V->St->Hp->(St->Hp->Prop)->Prop
def PG(X:Cx)(target:E1)(t:TG):Prop:=
 ∀ (pins:List (Az×Obj)) (s:S9) (σ:St) (H:Hp) (v:V) (u:V9) (Q:St->Hp->Prop),Inv X pins σ H s->bE v u->t v σ H Q->
  wpAny (model X.prog X.w) X.A (assign target X.env u) (fun _ s'=>∃ σ' H',Inv X pins σ' H' s'/\Q σ' H') X.xe s
def PGs(X:Cx)(ts:List E1)(t:TGs):Prop:=
 ∀ (pins:List (Az×Obj)) (s:S9) (σ:St) (H:Hp) (vs:List V) (us:List V9) (Q:St->Hp->Prop),Inv X pins σ H s->bJ vs us->t vs σ H Q->
  wpAny (model X.prog X.w) X.A (assignInOrder ((assignEach ts X.env).map (·.2)) us) (fun _ s'=>∃ σ' H',Inv X pins σ' H' s'/\Q σ' H') X.xe s
abbrev aEI:=V->V->V->Hp->(Hp->Prop)->Prop
def aPS(X:Cx)(t:aEI):Prop:=
 ∀ (pins:List (Az×Obj)) (s:S9) (σ:St) (H:Hp) (o i v:V) (ov iv u:V9) (Q:Hp->Prop),Inv X pins σ H s->bE o ov->bE i iv->bE v u->t o i v H Q->
  wpAny (model X.prog X.w) X.A (setItem ov iv u) (fun _ s'=>∃ H',Inv X pins σ H' s'/\Q H') X.xe s
abbrev TIp:=V->V->Hp->VK->Prop
def PIp(X:Cx)(op:Operator)(t:TIp):Prop:=
 ∀ (pins:List (Az×Obj)) (s:S9) (σ:St) (H:Hp) (x y:V) (v u:V9) (Q:VK),Inv X pins σ H s->bE x v->bE y u->t x y H Q->
  wpAny (model X.prog X.w) X.A (inplaceOp op v u) (EP X pins σ Q) X.xe s
section
variable{X:Cx}{pos:Pos}
def kE(i:Nat):TG:=fun v σ H Q=>Q (σ.set i (some v)) H
theorem bN{i:Nat}{x:Str}(c:X.N.Nodup)(hi:X.N[i]? = some x)(hx:Loc X.env.scope x)(b:X.fn x=true\/X.env.scope.names.lookup x=some .local:=by first|exact .inl rfl|exact .inr rfl):PG X (.Name x pos) (kE i):=by
 intro pins s σ H v u Q I r h
 exact wpAny_assign_Name (mO I c hi hx r (fun s' a=>⟨_,H,a,h⟩) b)
def aJA:TGs:=fun vs σ H Q=>vs=[]/\Q σ H
def aLJ(t:TG)(u:TGs):TGs:=fun vs σ H Q=>∃ v r,vs=v::r/\t v σ H fun σ' H'=>u r σ' H' Q
theorem kU:PGs X [] aJA:=by
 intro pins s σ H vs us Q I r h
 obtain ⟨e,h⟩:=h
 subst e
 cases r
 exact assignInOrder_nil ⟨σ,H,I,h⟩
theorem dC{e:E1}{es:List E1}{t:TG}{u:TGs}(h1:PG X e t)(h2:PGs X es u)
  (f:(assignEach (e::es) X.env).map (·.2)=assign e X.env::(assignEach es X.env).map (·.2):=by rfl):PGs X (e::es) (aLJ t u):=by
 intro pins s σ H vs us Q I r h
 obtain ⟨v,g,e1,h⟩:=h
 subst e1
 cases r with
 | cons r rr=>
  rw[f]
  refine assignInOrder_cons (thn (h1 pins s σ H _ _ _ I r h) fun _ s1 a=>?_)
  obtain ⟨b,H1,d,c⟩:=a
  exact h2 pins s1 b H1 _ _ Q d rr c
def aPT(K:Frag)(n:Nat)(t:TGs):TG:=fun v σ H Q=>∃ a xs,v=.ref a/\SqT K H a xs/\xs.length=n/\t xs σ H Q
theorem mP{es:List E1}{k:Nat}{t:TGs}{n:Nat}(q:X.calm=true)(h:PGs X es t)
  (l:(assignEach es X.env).length=n:=by rfl) (hst:(assignEach es X.env).findIdx? (·.1)=none:=by rfl):PG X (.Tuple es k pos) (aPT X.K n t):=by
 intro pins s σ H v u Q I r c
 obtain ⟨a,xs,e1,f,g,c⟩:=c
 subst e1
 cases r
 obtain ⟨i,d,p,w⟩:=I.tuple f
 refine assign_Tuple_tuple (I.ok.hd q) p (by simp[l,<-g,d.length]) hst fun h' j=>?_
 have m:Inv X pins σ H {s with heap:=h'}:=I.kept (t':=s.toks) fun b o e=>j b o (BB (AQ e)) e
 exact h pins _ σ H xs _ Q m (by simpa using d) c
def aPU(to ti:TE)(t:aEI):TG:=fun v σ H Q=>to σ H fun o H1=>ti σ H1 fun i H2=>t o i v H2 fun H3=>Q σ H3
theorem uR{o i:E1}{to b:TE}{t:aEI}(c:PE X o to)(hi:PE X i b)(k:aPS X t)
  (m:∀ v,assign (.Subscript o i pos) X.env v=(do
   let ov <-holding [v] (eval o X.env)
   let iv <-holding [v,ov] (eval i X.env)
   standAt pos
   holding [v,ov,iv] (setItem ov iv v)
   release [v,ov,iv] []):=by intro _;rfl):PG X (.Subscript o i pos) (aPU to b t):=by
 intro pins s σ H v u Q I r h
 rw[m]
 refine AA (CN (thn (c pins s σ H _ I h) fun ov s1 a=>?_))
 obtain ⟨x,H1,j,r1,g⟩:=a
 refine AA (CN (thn (hi pins s1 σ H1 _ j g) fun iv f a=>?_))
 obtain ⟨y,H2,l,r2,d⟩:=a
 refine AA (CU (AA (CN (thn (k pins f σ H2 x y v ov iv u _ l r1 r2 r d) fun _ p a=>?_))))
 obtain ⟨H3,n,e⟩:=a
 exact wpAny_release ⟨σ,H3,n,e⟩
def lT(te:TE)(g:TG):TS:=fun D σ H=>te σ H fun x H1=>g x σ H1 D.nx
theorem mQ{tg e:E1}{te:TE}{g:TG}(c:PE X e te)(i:PG X tg g)(b:swapsWithSole [tg] e pos.line X.env=pure false:=by rfl)(hw:swappedStores [tg] e X.env=pure none:=by rfl)
  (h1:(assignEach [tg] X.env).map (·.2)=[assign tg X.env]:=by rfl):PS X (.Assign [tg] e pos) (lT te g):=by
 intro pins s σ H D I h
 refine wpAny_Assign_stores (thn (c pins s σ H _ I h) fun v s1 a=>?_) b hw
 obtain ⟨x,H1,f,r1,d⟩:=a
 rw[h1]
 exact thn (i pins s1 σ H1 x v _ f r1 d) fun _ j q=>q
theorem aH{i:Nat}{x:Str}{e:E1}{te:TE}{pos':Pos}(j:X.N.Nodup)(hi:X.N[i]? = some x)(hx:Loc X.env.scope x)(c:PE X e te)(b:swapsWith e (some (.Name x pos')) pos.line X.env=pure false:=by rfl)(hf:X.fn x=true\/X.env.scope.names.lookup x=some .local:=by exact .inl rfl) :
  PS X (.Assign [.Name x pos'] e pos) (lT te (kE i)):=by
 intro pins s σ H D I h
 refine wpAny_Assign_Name (thn (c pins s σ H _ I h) fun v s1 a=>?_) b
 obtain ⟨y,H1,f,r1,d⟩:=a
 exact mO f j hi hx r1 (fun k g=>⟨_,H1,g,d⟩) hf
def aPV(i:Nat)(te:TE)(ti:TIp):TS:=fun D σ H=>∃ x,σ[i]? = some (some x)/\te σ H fun y H1=>ti x y H1 fun z H2=>D.nx (σ.set i (some z)) H2
theorem qF{i:Nat}{x:Str}{e:E1}{te:TE}{j:Operator}{p:TIp}{pos':Pos}(M:X.N.Nodup)(hi:X.N[i]? = some x)(hx:Loc X.env.scope x)(B:PE X e te)(J:PIp X j p)(t:X.fn x=true\/X.env.scope.names.lookup x=some .local:=by first|exact .inl rfl|exact .inr rfl) :
  PS X (.AugAssign (.Name x pos') j e pos) (aPV i te p):=by
 intro pins s σ H D I h
 obtain ⟨v,e1,h⟩:=h
 obtain ⟨m,O,G⟩:=I.loc
 have n:Vis X.env.scope x:=by rcases hx with k|k;exact .inl k;exact .inr (.inl k)
 obtain ⟨u,r,l⟩:=G i x v hi e1 n
 refine wpAny_AugAssign_Name ?_
 have o:wpAny (model X.prog X.w) X.A (eval e X.env) (fun w g=>wpAny (model X.prog X.w) X.A (inplaceOp j u w) (fun r f=>wpAny (model X.prog X.w) X.A (storeName X.env x r) (fun _=>SP X pins D .next) X.xe f) X.xe g) X.xe s:=by
  refine thn (B pins s σ H _ I h) fun w s1 b=>?_
  obtain ⟨y,H1,E,r1,C⟩:=b
  refine thn (J pins s1 σ H1 v y u w _ E r r1 C) fun z S b=>?_
  obtain ⟨R,H2,F,r2,q⟩:=b
  exact mO F M hi hx r2 (fun Q P=>⟨_,H2,P,q⟩) t
 rcases l with ⟨a,L⟩|⟨a,c,K,d⟩
 .exact wpAny_loadName_local I.ok.kind a O L o
 .rcases a with a|a
  .exact wpAny_loadName_cell I.ok.kind a K d o
  .rcases hx with k|k
   .have:X.env.scope.names.lookup x=some .free:=a
    rw[k] at this;cases this
   .have:X.env.scope.names.lookup x=some .free:=a
    rw[k] at this;cases this
def ipI(f:Int->Int->Int):TIp:=fun x y H Q=>∃ i j,x=.int i/\y=.int j/\Q (.int (f i j)) H
theorem aPW:PIp X .Add (ipI fun i j=>i+j):=by
 intro pins s σ H x y v u Q I r1 r2 h
 obtain ⟨i,j,e1,e2,q⟩:=h
 subst e1;subst e2
 obtain ⟨t,rfl⟩:=r1
 obtain ⟨a,rfl⟩:=r2
 exact iadd_int ⟨.int _,H,I.tok _,⟨_,rfl⟩,q⟩
theorem aPX:PIp X .Sub (ipI fun i j=>i - j):=by
 intro pins s σ H x y v u Q I r1 r2 h
 obtain ⟨i,j,e1,e2,q⟩:=h
 subst e1;subst e2
 obtain ⟨t,rfl⟩:=r1
 obtain ⟨a,rfl⟩:=r2
 exact isub_int ⟨.int _,H,I.tok _,⟨_,rfl⟩,q⟩
end
section
variable{X:Cx}{pos:Pos}
def aGK(c:TT)(tb:TS):TS:=fun D σ H=>∃ W:Nat->St->Hp->Prop,(∃ m,W m σ H)/\∀ m σ H,W m σ H->
 c σ H fun b H1=>if b=true then ∃ N:St->Hp->Prop,(∀ σ' H',N σ' H'->∃ m',m' < m/\W m' σ' H')/\tb {D with nx:=N,ct:=N,bk:=D.nx} σ H1 else D.nx σ H1
theorem dX{c:E1}{body:List Stmt}{tc:TT}{tb:TS}(r:PassesOwn (model X.prog X.w) X.A X.env X.xe)(x:PT X c tc)(u:PSs X body tb):PS X (.While c body [] pos) (aGK tc tb):=by
 intro pins s σ H D I h
 obtain ⟨W,⟨t,z⟩,d⟩:=h
 refine wpAny_While (codeAny_whileLoop (fun n s'=>∃ σ' H',Inv X pins σ' H' s'/\W n σ' H') ?_ t ⟨σ,H,I,z⟩)
 rintro n s1 ⟨σ1,H1,I1,w1⟩
 refine DR r (thn (x pins s1 σ1 H1 _ I1 (d n σ1 H1 w1)) fun b y l=>?_)
 obtain ⟨H2,q,e⟩:=l
 cases b with
 | true=>
  obtain ⟨N,p,e⟩:=e
  rw[AD rfl]
  refine DR r (thn (u pins y σ1 H2 _ q e) fun f B g=>?_)
  cases f with
  | next=>
   obtain ⟨a,H3,o,m⟩:=g
   obtain ⟨i,k,j⟩:=p a H3 m
   exact ⟨i,k,a,H3,o,j⟩
  | cont=>
   obtain ⟨a,H3,o,m⟩:=g
   obtain ⟨i,k,j⟩:=p a H3 m
   exact ⟨i,k,a,H3,o,j⟩
  | brk=>exact g
  | ret v=>exact g
 | false=>
  rw[AC B7]
  exact EG ⟨σ1,H2,q,e⟩
end
structure It where
 go:Nat->Hp->Prop
 yld:Nat->Hp->V->Hp->Prop
 stop:Nat->Hp->Prop
def kW(X:Cx)(pins:List (Az×Obj))(H:Hp)(b:Az):Prop:=
 H b=none/\b≠X.env.locals/\b∉X.fs/\(b∈X.ex\/X.s₀.heap.objs.size<=b)/\(∀ x c,X.env.cells.lookup x=some c->c≠b)/\∀ p∈X.pn++pins,p.1≠b
theorem Inv.fpOk{X:Cx}{pins:List (Az×Obj)}{σ:St}{H H':Hp}{s:S9}{b:Az}(I:Inv X pins σ H s)(a:s.heap.objs.size<=b)(d:H' b=none):kW X pins H' b:=by
 refine ⟨d,DL (A3 I.lt a),I.nofs a,.inr (BI I.sz a),fun x c e z=>?_,fun p f z=>?_⟩
 .obtain ⟨v,q⟩:=I.cell x c e
  exact absurd (A3 q.lt (by rw[z];exact a)) (B5 _)
 .exact absurd (A3 (AQ (I.pin p f).1) (by rw[z];exact a)) (B5 _)
structure Turn(P:Program)(w:World)(K:Frag)(tg:Expr)(J:It)(fp:List Az)(it:Az)(tn:Nat->Heap->Prop):Prop where
 mem:it∈fp
 obj:∀ i h,tn i h->∀ b∈fp,∃ o,h.get? b=some o/\∀ v,o.data≠.cell v
 keep:∀ i h h',tn i h->(∀ b∈fp,∀ o,h.get? b=some o->h'.get? b=some o)->tn i h'
 item:∀ (X:Cx),X.prog=P->X.w=w->X.K=K->X.calm=true->∀ (i:Nat) (pins:List (Az×Obj)) (s:S9) (σ:St) (H:Hp) (E:V9->S9->Prop),Inv X pins σ H s->(∀ b∈fp,kW X pins H b)->tn i s.heap->J.go i H->
  wpAny (model P w) X.A (pyNext (.ref it)) (fun r s1=>∃ u,r=some u /\
   wpAny (model P w) X.A (letOwnedTupleGo tg (.ref it) u) (fun _ s2=>∃ x H',Inv X pins σ H' s2/\bE x u/\J.yld i H x H'/\tn (i+1) s2.heap/\∀ b∈fp,H' b=none) E s1) E s
 done:∀ (X:Cx),X.prog=P->X.w=w->X.K=K->X.calm=true->∀ (i:Nat) (pins:List (Az×Obj)) (s:S9) (σ:St) (H:Hp) (E:V9->S9->Prop),Inv X pins σ H s->(∀ b∈fp,kW X pins H b)->tn i s.heap->J.stop i H->
  wpAny (model P w) X.A (pyNext (.ref it)) (fun r s1=>r=none/\Inv X pins σ H s1) E s
 self:∀ (A:Around) (i:Nat) (s:S9) (Q:V9->S9->Prop) (E:V9->S9->Prop),tn i s.heap->Q (.ref it) s->wpAny (model P w) A (pyIter (.ref it)) Q E s
abbrev TI:=St->Hp->(It->Hp->Prop)->Prop
def PIE(X:Cx)(pins:List (Az×Obj))(σ:St)(tg:E1)(R:It->Hp->Prop)(itv:V9)(s2:S9):Prop:=
 ∃ (it:Az) (fp:List Az) (tn:Nat->H9->Prop) (J:It) (H':Hp),itv=.ref it/\Inv X pins σ H' s2/\Turn X.prog X.w X.K tg J fp it tn/\tn 0 s2.heap/\(∀ b∈fp,kW X pins H' b)/\R J H'
def PI(X:Cx)(tg iter:E1)(wi:TI):Prop:=
 ∀ (pins:List (Az×Obj)) (s:S9) (σ:St) (H:Hp) (R:It->Hp->Prop),Inv X pins σ H s->wi σ H R->
  wpAny (model X.prog X.w) X.A (eval iter X.env) (fun v s1=>wpAny (model X.prog X.w) X.A (pyIter v) (PIE X pins σ tg R) X.xe s1) X.xe s
theorem z5 {M : Model} {A : U9} {E : V9 -> S9 -> Prop} {s : S9} {tg : E1} {it : Az} {u : V9} {o : Obj} {n : String} {vs : Array V9} {Q : Unit -> S9 -> Prop} (b : s.heap.get? it = some o) (c : o.cls = .type n) (e : o.data = .fields vs)
    (d : ["enumerate", "zip", "dict_itemiterator", "dict_reverseitemiterator", "odict_iterator", "itertools.zip_longest", "itertools.pairwise"].contains n = false) (a : Q () s) : wpAny M A (letOwnedTupleGo tg (.ref it) u) Q E s := by
  unfold letOwnedTupleGo
  cases tg <;> first
    | exact AE a
    | (cases u <;> first
        | exact AE a
        | (refine AA (wpAny_load b ?_)
           rw [c, e]
           show wpAny M A (if (["enumerate", "zip", "dict_itemiterator", "dict_reverseitemiterator", "odict_iterator", "itertools.zip_longest", "itertools.pairwise"].contains n && vs[0]? == some (rawInt _)) = true then _ else _) Q E s
           rw [AC (by intro h; rw [d, Bool.false_and] at h; cases h)]
           exact AE a))
def Itl(K:Frag)(a:Az):It:=
 ⟨fun i H=>∃ xs x,SqL K H a xs/\xs[i]? = some x,fun i H x H'=>H'=H/\∀ xs,SqL K H a xs->xs[i]? = some x,fun i H=>∃ xs,SqL K H a xs/\xs.length<=i⟩
def Itt(K:Frag)(a:Az):It:=
 ⟨fun i H=>∃ xs x,SqT K H a xs/\xs[i]? = some x,fun i H x H'=>H'=H/\∀ xs,SqT K H a xs->xs[i]? = some x,fun i H=>∃ xs,SqT K H a xs/\xs.length<=i⟩
noncomputable def Itr(lo:Int)(n:Nat):It:=⟨fun i _=>i < n,fun i H x H'=>H'=H/\x=.int (lo+i),fun i _=>n<=i⟩
theorem aGL{P:P9}{w:W9}{K:Frag}{tg:E1}(a it:Az):Turn P w K tg (Itl K a) [it] it (fun i h=>h.IsListIter it a i) where
 mem:=by simp
 obj:=fun i h st b f=>by
  have e:b=it:=by simpa using f
  subst e
  obtain ⟨o,e,c,d⟩:=st
  exact ⟨o,e,fun v z=>by rw[d] at z;cases z⟩
 keep:=fun i h h' st k=>st.at fun o e=>k it (by simp) o e
 item:=by
  intro X n t G J i pins s σ H E I j st C
  subst n t G
  obtain ⟨xs,x,l,D⟩:=C
  obtain ⟨r,A,p,Q⟩:=I.list l
  obtain ⟨u,T,O⟩:=A.get D
  obtain ⟨y,m,L,B,q,F⟩:=j it (by simp)
  refine wpAny_pyNext_list_item st p.isList (x:=u) (by simpa using T) fun h' g S=>?_
  have N:Inv X pins σ H {s with heap:=h'}:=I.turned (t':=s.toks) (fun b o f e=>(S.2 b f).trans e) y m B q F
  obtain ⟨o,e,c,d⟩:=id g
  exact ⟨u,rfl,z5 (s:={s with heap:=h'}) e c d (by decide) ⟨x,H,N,O,⟨rfl,fun ys R=>by rw[I.list_inj R l];exact D⟩,g,fun b f=>(j b f).1⟩⟩
 done:=by
  intro X n t G J i pins s σ H E I j st C
  subst n t G
  obtain ⟨xs,l,D⟩:=C
  obtain ⟨r,A,p,Q⟩:=I.list l
  obtain ⟨y,m,L,B,q,F⟩:=j it (by simp)
  have U:=A.length
  exact wpAny_pyNext_list_end (I.ok.hd J) st p.isList (by simp;omega) fun h' M=>⟨rfl,I.turned (t':=s.toks) (fun b o f e=>M b o f e) y m B q F⟩
 self:=fun _ _ _ _ _ st h=>wpAny_pyIter_listiter st h
theorem aEJ{P:P9}{w:W9}{K:Frag}{tg:E1}(a it:Az):Turn P w K tg (Itt K a) [it] it (fun i h=>h.IsTupleIter it a i) where
 mem:=by simp
 obj:=fun i h st b f=>by
  have e:b=it:=by simpa using f
  subst e
  obtain ⟨o,e,c,d⟩:=st
  exact ⟨o,e,fun v z=>by rw[d] at z;cases z⟩
 keep:=fun i h h' st k=>st.at fun o e=>k it (by simp) o e
 item:=by
  intro X q t G J i pins s σ H E I l st C
  subst q t G
  obtain ⟨xs,x,m,D⟩:=C
  obtain ⟨g,A,p,Q⟩:=I.tuple m
  obtain ⟨u,T,O⟩:=A.get D
  obtain ⟨y,n,L,B,r,F⟩:=l it (by simp)
  refine wpAny_pyNext_tuple_item st (show s.heap.IsTuple a g.toArray from p) (x:=u) (by simpa using T) fun h' j S=>?_
  have N:Inv X pins σ H {s with heap:=h'}:=I.turned (t':=s.toks) (fun b o f e=>(S.2 b f).trans e) y n B r F
  obtain ⟨o,e,c,d⟩:=id j
  exact ⟨u,rfl,z5 (s:={s with heap:=h'}) e c d (by decide) ⟨x,H,N,O,⟨rfl,fun ys R=>by rw[I.tuple_inj R m];exact D⟩,j,fun b f=>(l b f).1⟩⟩
 done:=by
  intro X q t G J i pins s σ H E I l st C
  subst q t G
  obtain ⟨xs,m,D⟩:=C
  obtain ⟨g,A,p,Q⟩:=I.tuple m
  obtain ⟨y,n,L,B,r,F⟩:=l it (by simp)
  have U:=A.length
  exact wpAny_pyNext_tuple_end (I.ok.hd J) st (show s.heap.IsTuple a g.toArray from p) (by simp;omega) fun h' M=>⟨rfl,I.turned (t':=s.toks) (fun b o f e=>M b o f e) y n B r F⟩
 self:=fun _ _ _ _ _ st h=>wpAny_pyIter_tupleiter st h
theorem aEK{P:P9}{w:W9}{K:Frag}{tg:E1}(it:Az)(lo:Int)(n:Nat):Turn P w K tg (Itr lo n) [it] it (fun i h=>IsRangeIter h it (lo+(i:Nat) * 1) ((n:Int) - (i:Nat)) 1) where
 mem:=by simp
 obj:=fun i h st b a=>by
  have e:b=it:=by simpa using a
  subst e
  exact ⟨_,st,fun v z=>by
   have C:Data.fields _=Data.cell v:=z
   cases C⟩
 keep:=fun i h h' st k=>k it (by simp) _ st
 item:=by
  intro X j q u l i pins s σ H E I d st g
  subst j q u
  obtain ⟨r,f,y,x,m,p⟩:=d it (by simp)
  have W:=Walks.range (prog:=X.prog) (w:=X.w) (I.ok.hd l) it lo 1 n
  refine W.item i s _ _ g st fun v h' tk B c A=>?_
  obtain ⟨t,rfl⟩:=B
  have F:Inv X pins σ H {s with heap:=h',toks:=tk}:=I.turned (fun b o a e=>A b o (by simpa using a) e) r f x m p
  refine ⟨_,rfl,z5 (s:={s with heap:=h',toks:=tk}) (n:="range_iterator") c rfl rfl (by decide) ⟨.int (lo+i),H,F,⟨t,?_⟩,⟨rfl,rfl⟩,c,fun b a=>(d b a).1⟩⟩
  rw[Int.mul_one]
 done:=by
  intro X j q u l i pins s σ H E I d st g
  subst j q u
  obtain ⟨r,f,y,x,m,p⟩:=d it (by simp)
  exact wpAny_pyNext_range_end (I.ok.hd l) st (by have:n<=i:=g;omega) fun h' D=>⟨rfl,I.turned (t':=s.toks) (fun b o a e=>D b o a e) r f x m p⟩
 self:=fun _ _ _ _ _ st h=>wpAny_pyIter_rangeiter st h
section
variable{X:Cx}{tg:E1}
theorem aJB{pins:List (Az×Obj)}{σ:St}{H:Hp}{s:S9}{R:It->Hp->Prop}{E:V9->S9->Prop}{lo hi:Int}{t u v:Tok}{tk:Nat}(I:Inv X pins σ H s)(h1 : -(2 ^ 62)<=lo)(h2:lo < 2 ^ 62)(f : -(2 ^ 62)<=hi)(d:hi < 2 ^ 62)
  (q:R (Itr lo (hi - lo).toNat) H):wpAny (model X.prog X.w) X.A (pyIter (.ref s.heap.objs.size)) (PIE X pins σ tg R) E {s with heap:=s.heap.push {cls:=.type "range",data:=.fields #[.int lo t,.int hi u,.int 1 v]},toks:=tk}:=by
 refine wpAny_pyIter_range (IsRange.new ..) (small_one h1 h2 f d) ?_
 have a:Inv X pins σ H {s with heap:=s.heap.push {cls:=.type "range",data:=.fields #[.int lo t,.int hi u,.int 1 v]},toks:=tk}:=I.kept fun b o e=>AI _ e
 refine ⟨(s.heap.push {cls:=.type "range",data:=.fields #[.int lo t,.int hi u,.int 1 v]}).objs.size,[(s.heap.push {cls:=.type "range",data:=.fields #[.int lo t,.int hi u,.int 1 v]}).objs.size],_,_,H,rfl,
  a.kept (t':=tk) fun b o e=>AI _ e,aEK _ lo (hi - lo).toNat,?_,fun b c=>?_,q⟩
 .have e1:lo+((0:Nat):Int) * 1=lo:=by simp
  have e2:(((hi - lo).toNat:Nat):Int) - ((0:Nat):Int)=Builtin.Range.rangeSize lo hi 1:=by rw[rangeSize_one];split<;>omega
  show IsRangeIter _ _ (lo+((0:Nat):Int) * 1) ((((hi - lo).toNat:Nat):Int) - ((0:Nat):Int)) 1
  rw[e1,e2]
  exact BA _ rfl
 .have e:b=(s.heap.push {cls:=.type "range",data:=.fields #[.int lo t,.int hi u,.int 1 v]}).objs.size:=by simpa using c
  subst e
  exact a.fpOk (AG _) (a.hok.fresh (AG _))
def aLK(ta:TA):TI:=fun σ H R=>ta σ H fun vs H1=>∃ j:Int,vs=[.int j] /\ -(2 ^ 62)<=j/\j < 2 ^ 62/\R (Itr 0 j.toNat) H1
theorem fQ{a:E1}{ta:TA}{p pos:Pos}(g:Gl X "range")(k:X.mg "range"=none)(l:PA X [a] ta)(i:starEach [a] X.env=[(false,eval a X.env)]:=by rfl):PI X tg (.Call (.Name "range" p) [a] [] pos) (aLK ta):=by
 intro pins s σ H R I h
 refine Call_ (n6 I g k boot_range (DM (thn (l pos pins s σ H _ I h) fun us s1 b=>?_) i rfl))
 obtain ⟨vs,H1,d,r1,c⟩:=b
 obtain ⟨j,e,c,f,q⟩:=c
 subst e
 cases r1 with
 | cons r rr=>
  cases rr
  obtain ⟨t,rfl⟩:=r
  exact call_range_1 (aJB d (by omega) (by omega) c f (by simpa using q))
def aPY(wi:TI)(g:TG)(tb:TS):TS:=fun D σ H=>wi σ H fun J H1=>∃ W:Nat->Nat->St->Hp->Prop,(∃ m,W 0 m σ H1)/\∀ i m σ H,W i m σ H->
 (J.stop i H/\D.nx σ H)\/(J.go i H/\∃ N:St->Hp->Prop,(∀ σ' H',N σ' H'->∃ m',m' < m/\W (i+1) m' σ' H')/\∀ x H',J.yld i H x H'->g x σ H' fun σ2 H2=>tb {D with nx:=N,ct:=N,bk:=D.nx} σ2 H2)
noncomputable def qG(fp:List Az)(h:H9):List (Az×Obj):=fp.filterMap fun b=>(h.get? b).map fun o=>(b,o)
theorem l7{a:List Az}{h:H9}{b:Az}{o:Obj}(c:b∈a)(e:h.get? b=some o):(b,o)∈qG a h:=DN.mpr ⟨b,c,by rw[e];rfl⟩
theorem aGM{a:List Az}{h:H9}{p:Az×Obj}(f:p∈qG a h):p.1∈a/\h.get? p.1=some p.2:=by
 obtain ⟨b,c,e⟩:=DN.mp f
 cases q:h.get? b with
 | none=>rw[q] at e;cases e
 | some o=>
  rw[q] at e
  have d:(b,o)=p:=BU e
  subst d
  exact ⟨c,q⟩
theorem Inv.pinned{pins:List (Az×Obj)}{σ:St}{H:Hp}{s:S9}{a:List Az}(I:Inv X pins σ H s)(g:∀ b∈a,kW X pins H b)(h:∀ b∈a,∃ o,s.heap.get? b=some o/\∀ v,o.data≠.cell v):Inv X (pins++qG a s.heap) σ H s:=
 I.pins_of fun p l=>(BW.mp l).elim (fun z=>I.pin p (B2 _ z)) fun z=>by
  obtain ⟨f,e⟩:=aGM z
  obtain ⟨k,i,j,_⟩:=g p.1 f
  obtain ⟨o,c,d⟩:=h p.1 f
  rw[e] at c;cases c
  exact ⟨e,k,i,j,d⟩
theorem Inv.unpinned{pins pl:List (Az×Obj)}{σ:St}{H:Hp}{s:S9}(I:Inv X (pins++pl) σ H s):Inv X pins σ H s:=I.pins_of fun p a=>I.pin p (B2 _ (CP _ a))
theorem dA{j:E1}{body:List Stmt}{Y:TI}{g:TG}{tb:TS}{pos:Pos}(G:PassesOwn (model X.prog X.w) X.A X.env X.xe)(V:X.calm=true)(hi:PI X tg j Y)(hg:PG X tg g)(t:PSs X body tb)
  (hs:∀ x,foldedSetIterable j X.env x=pure x:=by intro _;rfl):PS X (.For tg j body [] pos) (aPY Y g tb):=by
 intro pins s σ H D I h
 refine wpAny_For (thn (hi pins s σ H _ I h) fun v s1 h1=>thn h1 fun aa s2 h2=>?_) hs
 obtain ⟨it,E,Z,J,H2,e,I2,T,K,U,W,⟨m0,w0⟩,C⟩:=h2
 subst e
 have l:∀ {H':Hp},(∀ b∈E,H' b=none)->∀ b∈E,kW X pins H' b:=fun hn b t=>⟨hn b t,(U b t).2⟩
 refine codeAny_forLoop_any (fun n s'=>∃ i σ' H',Inv X pins σ' H' s'/\Z i s'.heap/\(∀ b∈E,H' b=none)/\W i n σ' H') ?_ m0 ⟨0,σ,H2,I2,K,fun b t=>(U b t).1,w0⟩
 rintro n R ⟨i,σ3,H3,I3,st3,fr3,w3⟩
 rcases C i n σ3 H3 w3 with ⟨F,qn⟩|⟨go,N,hN,step⟩
 .refine DR G (thn (T.done X rfl rfl rfl V i pins R σ3 H3 X.xe I3 (l fr3) st3 F) fun r s4 c=>?_)
  obtain ⟨Q,I4⟩:=c
  subst Q
  exact EG ⟨σ3,H3,I4,qn⟩
 .refine DR G (thn (T.item X rfl rfl rfl V i pins R σ3 H3 X.xe I3 (l fr3) st3 go) fun r s4 c=>?_)
  obtain ⟨u,Q,h4⟩:=c
  subst Q
  refine DR G (thn h4 fun _ S c=>?_)
  obtain ⟨x,H5,I5,r5,y5,z,O⟩:=c
  have M:=I5.pinned (l O) (T.obj _ _ z)
  refine DR G (thn (hg _ S σ3 H5 x u _ M r5 (step x H5 y5)) fun _ s6 c=>?_)
  obtain ⟨P,H6,I6,q6⟩:=c
  refine DR G (thn (t _ s6 P H6 _ I6 q6) fun f L y=>?_)
  have q:∀ {a:St} {k:Hp},Inv X (pins++qG E S.heap) a k L->N a k->∃ m,m < n/\∃ i σ' H',Inv X pins σ' H' L/\Z i L.heap/\(∀ b∈E,H' b=none)/\W i m σ' H':=fun {a k} p B=>by
   obtain ⟨m',hm,w7⟩:=hN a k B
   refine ⟨m',hm,i+1,a,k,p.unpinned,T.keep _ _ _ z fun b t o e=>(p.pin (b,o) (B2 _ (B2 _ (l7 t e)))).1,fun b t=>?_,w7⟩
   obtain ⟨o,e,d⟩:=T.obj _ _ z b t
   exact (p.pin (b,o) (B2 _ (B2 _ (l7 t e)))).2.1
  cases f with
  | next=>obtain ⟨a,k,p,B⟩:=y;exact q p B
  | cont=>obtain ⟨a,k,p,B⟩:=y;exact q p B
  | brk=>obtain ⟨a,k,p,y⟩:=y;exact ⟨a,k,p.unpinned,y⟩
  | ret v=>obtain ⟨x7,a,k,p,r7,y⟩:=y;exact ⟨x7,a,k,p.unpinned,r7,y⟩
end
abbrev R2:=V->V->Hp->VK->Prop
def OpR(X:Cx)(f:V9->V9->Sem V9)(r:R2):Prop:=
 ∀ (pins:List (Az×Obj)) (s:S9) (σ:St) (H:Hp) (x y:V) (v u:V9) (Q:VK),Inv X pins σ H s->bE x v->bE y u->r x y H Q->
  wpAny (model X.prog X.w) X.A (f v u) (EP X pins σ Q) X.xe s
def UnR(X:Cx)(f:V9->Sem V9)(r:V->Hp->VK->Prop):Prop:=
 ∀ (pins:List (Az×Obj)) (s:S9) (σ:St) (H:Hp) (x:V) (v:V9) (Q:VK),Inv X pins σ H s->bE x v->r x H Q->
  wpAny (model X.prog X.w) X.A (f v) (EP X pins σ Q) X.xe s
def jV(X:Cx)(f:V9)(r:List V->Hp->VK->Prop):Prop:=
 ∀ (pins:List (Az×Obj)) (s:S9) (σ:St) (H:Hp) (xs:List V) (us:List V9) (Q:VK),Inv X pins σ H s->bJ xs us->r xs H Q->
  wpAny (model X.prog X.w) X.A (call f us) (EP X pins σ Q) X.xe s
def tOp(r:R2)(ta tb:TE):TE:=fun σ H Q=>ta σ H fun x H1=>tb σ H1 fun y H2=>r x y H2 Q
def tUn(r:V->Hp->VK->Prop)(ta:TE):TE:=fun σ H Q=>ta σ H fun x H1=>r x H1 Q
def rI(C:Int->Int->Prop)(g:Int->Int->V):R2:=fun x y H Q=>∃ i j,x=.int i/\y=.int j/\C i j/\Q (g i j) H
def rI0(g:Int->Int->V):R2:=fun x y H Q=>∃ i j,x=.int i/\y=.int j/\Q (g i j) H
def rU(g:Int->V):V->Hp->VK->Prop:=fun x H Q=>∃ i,x=.int i/\Q (g i) H
section
variable{X:Cx}{a b c:E1}{ta tb tc:TE}{pos:Pos}
theorem aJC(k:PE X a ta)(i:PE X b tb){pins:List (Az×Obj)}{s:S9}{σ:St}{H:Hp}{R:V->V->Hp->Prop}(I:Inv X pins σ H s)
  (h:ta σ H fun x H1=>tb σ H1 fun y H2=>R x y H2) {Q:V9->S9->Prop} {f:V9->V9->Sem V9}
  (d:∀ v u s2 x y H2,Inv X pins σ H2 s2->bE x v->bE y u->R x y H2->wpAny (model X.prog X.w) X.A (f v u) Q X.xe s2) :
  wpAny (model X.prog X.w) X.A (eval a X.env) (fun v s₁=>wpAny (model X.prog X.w) X.A (eval b X.env) (fun u s₂=>wpAny (model X.prog X.w) X.A (f v u) Q X.xe s₂) X.xe s₁) X.xe s:=by
 refine thn (k pins s σ H _ I h) fun v s1 c=>?_
 obtain ⟨x,H1,g,r1,e⟩:=c
 refine thn (i pins s1 σ H1 _ g e) fun u s2 c=>?_
 obtain ⟨y,H2,l,r2,j⟩:=c
 exact d v u s2 x y H2 l r1 r2 j
theorem aEL{c:Operator}{r:R2}(e:OpR X (binaryOp c) r)(j:PE X a ta)(g:PE X b tb):PE X (.BinOp a c b pos) (tOp r ta tb):=by
 intro pins s σ H Q I h
 exact wpAny_BinOp (aJC j g I h fun v u i x y H2 k f d q=>e pins i σ H2 x y v u Q k f d q)
theorem aSX{b:UnaryOp}{r:V->Hp->VK->Prop}(c:UnR X (unaryOp b) r)(d:PE X a ta):PE X (.UnaryOp b a pos) (tUn r ta):=by
 intro pins s σ H Q I h
 exact UnaryOp_ (thn (d pins s σ H _ I h) fun v s1 ⟨x,H1,f,r1,e⟩=>c pins s1 σ H1 x v Q f r1 e)
theorem opI{f:V9->V9->Sem V9}{C:Int->Int->Prop}{g:Int->Int->Int}
  (a:∀ (i j:Int) (t u:Tok) (s:S9) (Q:V9->S9->Prop) (E:V9->S9->Prop),C i j->Q (.int (g i j) s.toks) {s with toks:=s.toks+1}->wpAny (model X.prog X.w) X.A (f (.int i t) (.int j u)) Q E s) :
  OpR X f (rI C fun i j=>.int (g i j)):=by
 intro pins s σ H x y v u Q I c b h
 obtain ⟨i,j,rfl,rfl,e,q⟩:=h
 obtain ⟨t,rfl⟩:=c
 obtain ⟨d,rfl⟩:=b
 exact a i j t d s _ _ e ⟨.int (g i j),H,I.tok _,⟨_,rfl⟩,q⟩
theorem aPZ{f:V9->V9->Sem V9}{g:Int->Int->Int}
  (a:∀ (i j:Int) (t u:Tok) (s:S9) (Q:V9->S9->Prop) (E:V9->S9->Prop),Q (.int (g i j) s.toks) {s with toks:=s.toks+1}->wpAny (model X.prog X.w) X.A (f (.int i t) (.int j u)) Q E s) :
  OpR X f (rI0 fun i j=>.int (g i j)):=by
 intro pins s σ H x y v u Q I c b h
 obtain ⟨i,j,rfl,rfl,q⟩:=h
 obtain ⟨t,rfl⟩:=c
 obtain ⟨d,rfl⟩:=b
 exact a i j t d s _ _ ⟨.int (g i j),H,I.tok _,⟨_,rfl⟩,q⟩
theorem aP0{f:V9->V9->Sem V9}{g:Int->Int->Bool}
  (a:∀ (i j:Int) (t u:Tok) (s:S9) (Q:V9->S9->Prop) (E:V9->S9->Prop),Q (.bool (g i j)) s->wpAny (model X.prog X.w) X.A (f (.int i t) (.int j u)) Q E s) :
  OpR X f (rI0 fun i j=>.bl (g i j)):=by
 intro pins s σ H x y v u Q I c b h
 obtain ⟨i,j,rfl,rfl,q⟩:=h
 obtain ⟨t,rfl⟩:=c
 obtain ⟨d,rfl⟩:=b
 exact a i j t d s _ _ ⟨.bl (g i j),H,I,rfl,q⟩
def aJD(i j:Int):Prop:=(-(2 ^ 64) < i/\i < 2 ^ 64)\/(-(2 ^ 64) < j/\j < 2 ^ 64)
theorem aJD.ok{i j:Int}(h:aJD i j):IntMulOk i j:=by
 rcases h with ⟨h1,h2⟩|⟨h1,h2⟩
 · exact .of_left (intBits_le_64 h1 h2)
 · exact .of_right (intBits_le_64 h1 h2)
theorem aP1:OpR X (binaryOp .Add) (rI0 fun i j=>.int (i+j)):=aPZ fun _ _ _ _ _ _ _ q=>add_int q
theorem aP2:OpR X (binaryOp .Sub) (rI0 fun i j=>.int (i - j)):=aPZ fun _ _ _ _ _ _ _ q=>sub_int q
theorem aP3:OpR X (binaryOp .Mult) (rI aJD fun i j=>.int (i * j)):=opI fun _ _ _ _ _ _ _ a q=>mul_int q a.ok
theorem aP4:OpR X (binaryOp .Mod) (rI (fun _ j=>0 < j) fun i j=>.int (i % j)):=opI fun i j _ _ _ _ _ a q=>by
 have h1:(0:Int) < j:=a
 exact mod_int' (by omega) (by rw[Int.fmod_eq_emod_of_nonneg i (by omega)];exact q)
theorem unI{f:V9->Sem V9}{g:Int->Int}
  (a:∀ (i:Int) (t:Tok) (s:S9) (Q:V9->S9->Prop) (E:V9->S9->Prop),Q (.int (g i) s.toks) {s with toks:=s.toks+1}->wpAny (model X.prog X.w) X.A (f (.int i t)) Q E s) :
  UnR X f (rU fun i=>.int (g i)):=by
 intro pins s σ H x v Q I b h
 obtain ⟨i,rfl,q⟩:=h
 obtain ⟨t,rfl⟩:=b
 exact a i t s _ _ ⟨.int (g i),H,I.tok _,⟨_,rfl⟩,q⟩
theorem aP5:UnR X (unaryOp .USub) (rU fun i=>.int (-i)):=unI fun _ _ _ _ _ q=>neg_int q
end
section
variable{X:Cx}{a b c:E1}{ta tb tc:TE}{pos:Pos}
theorem aP6{pins:List (Az×Obj)}{σ:St}{H:Hp}{s:S9}{Q:VK}{k a:Bool}(I:Inv X pins σ H s)(q:Q (.bl k) H)(e:k=a):EP X pins σ Q (.bool a) s:=by
 subst e
 exact ⟨.bl k,H,I,rfl,q⟩
theorem aSY:OpR X (compareOp .Lt) (rI0 fun i j=>.bl (decide (i < j))):=aP0 fun _ _ _ _ _ _ _ q=>lt_int q
theorem aSZ:OpR X (compareOp .Gt) (rI0 fun i j=>.bl (decide (j < i))):=aP0 fun _ _ _ _ _ _ _ q=>gt_int q
theorem aAL:OpR X (compareOp .NotIn) (fun x y H Q=>∃ i j,x=.str i/\y=.str j/\Q (.bl (!(!(Builtin.Str.occurrences j i 0 j.length 1).isEmpty))) H):=by
 intro pins s σ H x y v u Q I b a h
 obtain ⟨i,j,rfl,rfl,q⟩:=h
 obtain ⟨t,rfl⟩:=b
 obtain ⟨c,rfl⟩:=a
 exact notIn_str (aP6 I q rfl)
theorem cL(b:E1){a:CmpOp}(h:a≠.In:=by decide)(h2:a≠.NotIn:=by decide):behindInMarks a b=false:=by
 have e1:(a == CmpOp.In)=false:=by cases a<;>first|rfl|exact absurd rfl h
 have e2:(a == CmpOp.NotIn)=false:=by cases a<;>first|rfl|exact absurd rfl h2
 cases b<;>simp[behindInMarks,e1,e2]
theorem aME{c:CmpOp}{r:R2}(e:OpR X (compareOp c) r)(j:PE X a ta)(g:PE X b tb)(k:behindInMarks c b=false):PE X (.Compare a [c] [b] pos) (tOp r ta tb):=by
 intro pins s σ H Q I h
 exact wpAny_Compare1 (aJC j g I h fun v u i x y H2 l f d q=>e pins i σ H2 x y v u Q l f d q) k
def aLL(t:TE):TT:=fun σ H Q=>t σ H fun x H'=>∃ k,x=.bl k/\Q k H'
theorem n9{d:CmpOp}{r:R2}(f:OpR X (compareOp d) r)(q:PE X a ta)(i:PE X b tb)(n:behindInMarks d b=false):PT X (.Compare a [d] [b] pos) (aLL (tOp r ta tb)):=by
 intro pins s σ H Q I h
 refine wpAny_isTrue_Compare1 (thn (q pins s σ H _ I h) fun v s1 ⟨x,H1,p,r1,o⟩=>thn (i pins s1 σ H1 _ p o) fun u m ⟨y,H2,t,r2,j⟩=>
  thn (f pins m σ H2 x y v u _ t r1 r2 j) fun c A ⟨z,H3,w,g,k,e,l⟩=>?_) n
 subst e
 cases g
 exact DW ⟨H3,w,l⟩
theorem uS:(sizeLine:Nat) < 2 ^ 63:=by rw[ET];decide
theorem aEM:OpR X (binaryOp .Add) (fun x y H Q=>∃ i j,x=.str i/\y=.str j/\i.length+j.length<=sizeLine/\Q (.str (i++j)) H):=by
 intro pins s σ H x y v u Q I c b h
 obtain ⟨i,j,rfl,rfl,a,q⟩:=h
 obtain ⟨t,rfl⟩:=c
 obtain ⟨d,rfl⟩:=b
 exact add_str (fun d tk=>⟨.str (i++j),H,I.tok _,⟨_,rfl⟩,q⟩) a
theorem nB{x:V}{us:List V9}(r:bJ [x] us):∃ u,us=[u]/\bE x u:=by
 cases r with
 | cons r1 r2=>cases r2;exact ⟨_,rfl,r1⟩
theorem z6{x y:V}{us:List V9}(r:bJ [x,y] us):∃ u w',us=[u,w']/\bE x u/\bE y w':=by
 cases r with
 | cons r1 r2=>
  cases r2 with
  | cons r3 r4=>cases r4;exact ⟨_,_,rfl,r1,r3⟩
theorem aGN(b:X.calm=true):jV X (.builtin "min") (fun xs H Q=>∃ i j,xs=[.int i,.int j]/\Q (.int (if j < i then j else i)) H):=by
 intro pins s σ H xs us Q I r h
 obtain ⟨i,j,rfl,q⟩:=h
 obtain ⟨u,c,rfl,⟨t,rfl⟩,⟨d,rfl⟩⟩:=z6 r
 refine min_two_ints (I.ok.hd b) fun h' tk k=>⟨_,H,I.kept k,?_,q⟩
 by_cases a:j < i
 · rw [AD a, AD a]; exact ⟨_, rfl⟩
 · rw [AC a, AC a]; exact ⟨_, rfl⟩
theorem gD:jV X (.type "int") (fun xs H Q=>(∃ i,xs=[.int i]/\Q (.int i) H)\/∃ k,xs=[.bl k]/\Q (.int (if k then 1 else 0)) H):=by
 intro pins s σ H xs us Q I r h
 rcases h with ⟨i,rfl,q⟩|⟨k,rfl,q⟩
 .obtain ⟨u,rfl,t,rfl⟩:=nB r
  exact call_int_int ⟨.int i,H,I,⟨_,rfl⟩,q⟩
 .obtain ⟨u,rfl,r1⟩:=nB r
  cases r1
  exact call_int_bool ⟨.int (if k then 1 else 0),H,I.tok _,⟨_,rfl⟩,q⟩
def aP7(K:Frag)(x:V)(H:Hp)(n:Nat):Prop:=
 match x with
 | .str y=>y.length<=sizeLine/\n=y.length
 | .byt y=>y.size<=sizeLine/\n=y.size
 | .ref p=>(∃ xs,SqL K H p xs/\n=xs.length)\/∃ xs,SqT K H p xs/\n=xs.length
 | _=>False
theorem dY:jV X (.builtin "len") (fun xs H Q=>∃ x n,xs=[x]/\aP7 X.K x H n/\Q (.int n) H):=by
 intro pins s σ H xs us Q I r h
 obtain ⟨x,n,rfl,e,q⟩:=h
 obtain ⟨u,rfl,d⟩:=nB r
 have l:=uS
 have m:sizeLine=16777216:=ET
 cases x with
 | str y=>
  obtain ⟨t,rfl⟩:=d
  obtain ⟨k,b⟩:y.length<=sizeLine/\n=y.length:=e
  subst b
  exact len_str (by omega) ⟨.int _,H,I.tok _,⟨_,rfl⟩,q⟩
 | byt y=>
  obtain ⟨t,rfl⟩:=d
  obtain ⟨k,b⟩:y.size<=sizeLine/\n=y.size:=e
  subst b
  exact PySem.W.len_bytes (by omega) ⟨.int _,H,I.tok _,⟨_,rfl⟩,q⟩
 | ref p=>
  cases d
  have b:(∃ xs,SqL X.K H p xs/\n=xs.length)\/∃ xs,SqT X.K H p xs/\n=xs.length:=e
  rcases b with ⟨xs,g,b⟩|⟨xs,g,b⟩
  .subst b
   obtain ⟨i,c,f,j⟩:=I.list g
   have a:=c.length
   exact Calls.call_len_list f.isList (by simp only[BG];omega) ⟨.int xs.length,H,I.tok _,⟨_,by simp only[BG];rw[a]⟩,q⟩
  .subst b
   obtain ⟨i,c,f,j⟩:=I.tuple g
   have a:=c.length
   exact len_tuple f (by simp only[BG];omega) ⟨.int xs.length,H,I.tok _,⟨_,by simp only[BG];rw[a]⟩,q⟩
 | _=>exact (show False from e).elim
end
structure ObjM(h:Heap)(x dx C:Az)(mA:Str->Option V9):Prop where
 obj:h.get? x=some (PySem.W.instObj C dx)
 ns:h.Ns1 dx mA
 ne:dx≠x
theorem nC{h:H9}{dx:Az}{mA:Str->O9 V9}(n:h.Ns1 dx mA):∃ od,h.get? dx=some od/\∀ name,PySem.W.lookIn name od=some (mA name):=by
 obtain ⟨o,es,ep,d,j,g,_,i⟩:=n
 refine ⟨o,d,fun name=>?_⟩
 have e:=i name
 unfold nsFind findBy at e
 rw[<-Array.find?_toList] at e
 unfold PySem.W.lookIn
 rw[j]
 dsimp only
 split
 .rename_i y q
  rw[q] at e
  exact DG some e
 .rename_i q
  rw[q] at e
  have a:es.toList.any (·.refKey)=false:=by
   rw[List.any_eq_false]
   intro y f
   obtain ⟨z,t,b⟩:=g y (Array.mem_toList_iff.mp f)
   simp[DictEntry.refKey,b]
  have c:¬ es.toList.any (·.refKey)=true:=by rw[a];exact B7
  rw[AC c]
  exact DG some e
theorem ObjM.look{h:H9}{x dx C:Az}{mA:Str->O9 V9}(I:ObjM h x dx C mA):∃ od,PySem.W.InstAt h x (PySem.W.instObj C dx) C (some od)/\∀ name,PySem.W.lookIn name od=some (mA name):=
 let ⟨od,ho,hl⟩:=nC I.ns
 ⟨od,⟨I.obj,rfl,rfl,ho⟩,hl⟩
section
variable{prog:P9}{w:W9}{A:U9}{E:V9->S9->Prop}{s:S9}{K:Frag}{x dx C f:Az}{mA:Str->O9 V9}{name:Str}{v:V9}
end
noncomputable def w6(f:Str)(v:V):List (Str×V)->List (Str×V)
 | []=>[(f,v)]
 | (g,x)::r=>if g=f then (g,v)::r else (g,x)::w6 f v r
theorem tG(f g:Str)(v:V):∀ fs:List (Str×V),(w6 f v fs).lookup g=if g=f then some v else fs.lookup g
 | []=>by
  show List.lookup g [(f,v)]=_
  by_cases h:g=f
  .have hb:(g == f)=true:=GF.mpr h
   simp only[List.lookup,hb,AD h]
  .have hb:(g == f)=false:=DE.mpr h
   simp only[List.lookup,hb,AC h]
 | (k,x)::r=>by
  have b:=tG f g v r
  rw[show w6 f v ((k,x)::r)=(if k=f then (k,v)::r else (k,x)::w6 f v r) from rfl]
  by_cases a:k=f
  .rw[AD a]
   by_cases h:g=k
   .have hb:(g == k)=true:=GF.mpr h
    simp only[List.lookup,hb,AD (h.trans a)]
   .have hb:(g == k)=false:=DE.mpr h
    simp only[List.lookup,hb,AC (fun e:g=f=>h (e.trans a.symm))]
  .rw[AC a]
   by_cases h:g=k
   .have hb:(g == k)=true:=GF.mpr h
    simp only[List.lookup,hb,AC (fun e:g=f=>a (h.symm.trans e))]
   .have hb:(g == k)=false:=DE.mpr h
    simp only[List.lookup,hb]
    exact b
theorem hU.some_of{v:V}{o:O9 V9}(r:hU (some v) o):∃ u,o=some u/\bE v u:=by
 cases o with
 | none=>exact (show False from r).elim
 | some u=>exact ⟨u,rfl,r⟩
theorem hU.none_of{o:O9 V9}(r:hU none o):o=none:=by
 cases o with
 | none=>rfl
 | some u=>exact (show False from r).elim
theorem aGO{v:V}{u:V9}(r:bE v u):PySem.W.handedIn u=true:=by
 cases v with
 | non=>cases (show u=Value.none from r);rfl
 | bl b=>cases (show u=Value.bool b from r);rfl
 | int i=>obtain ⟨t,e⟩:=(show ∃ t,u=Value.int i t from r);cases e;rfl
 | str x=>obtain ⟨t,e⟩:=(show ∃ t,u=Value.str x t from r);cases e;rfl
 | byt b=>obtain ⟨t,e⟩:=(show ∃ t,u=Value.bytes b t from r);cases e;rfl
 | flt b=>obtain ⟨t,e⟩:=(show ∃ t,u=Value.float b t from r);cases e;rfl
 | ref a=>cases (show u=Value.ref a from r);rfl
 | ty n=>cases (show u=Value.type n from r);rfl
section
variable{P:P9}{w:W9}{H H':Hp}{h h':H9}{a C dx:Az}{fs fs':List (Str×V)}
theorem aMF(hok:HOk P w H h)(e:H a=some (.ins C dx fs)):∃ mA,ObjM h a dx C mA/\(∀ f,hU (fs.lookup f) (mA f))/\PySem.Within mA (fs.map (·.1))/\fs.length<=1000/\H dx=some (.own a):=by
 obtain ⟨d,z,b,c,mA,n,r,q⟩:=(show cF P w H h a (.ins C dx fs) from hok a _ e)
 exact ⟨mA,⟨c,n,b⟩,r,q,z,d⟩
end
structure Cls(K:Frag)(C:Az):Prop where
 pg:PySem.W.plainGet K C Str.empty=true
 hd:PySem.W.hasDictIn K C=true
 po:PySem.W.plainOver K C=true
 sa:PySem.W.findIn K (.ref C) "__setattr__"=some (some (.builtin "object.__setattr__"))
theorem Cls.get{K:Frag}{C:Az}(c:Cls K C)(f:Str):PySem.W.plainGet K C f=true:=c.pg
structure Con(K:Frag)(C:Az)(f:Str)(v:V)(u:V9):Prop where
 at_:PySem.W.findIn K (.ref C) f=some (some u)
 rel:bE v u
 get:PySem.W.specialIn K u "__get__"=some none
 cp:PySem.W.copiedNames.contains f=false
structure Meth(K:Frag)(C:Az)(m:Str)(f:Az):Prop where
 at_:PySem.W.findIn K (.ref C) m=some (some (.ref f))
 fn:PySem.W.isFn K (.ref f)=true
 kp:PySem.W.keepIn K (.ref f)=true
section
variable{X:Cx}{pins:List (Az×Obj)}{σ:St}{H:Hp}{s:S9}{a C dx:Az}{fs:List (Str×V)}{f:Str}{v:V}{A:U9}{E:V9->S9->Prop}
theorem aMG{prog:P9}{w:W9}{env:Env}{e:E1}{f:Str}{pos:Pos}{s:S9}{Q:V9->S9->Prop}(a:attributeBase e f env (eval e env)=eval e env)
  (h:wpAny (model prog w) A (eval e env) (fun o s₁=>wpAny (model prog w) A (getAttr o f true) Q E s₁) E s):wpAny (model prog w) A (eval (.Attribute e f pos) env) Q E s:=
 Attribute_any_ h (by rw[arm_eval_Attribute,a])
end
section
variable{X:Cx}{pins:List (Az×Obj)}{σ:St}{H:Hp}{s:S9}{A:U9}{E:V9->S9->Prop}{Q:V9->S9->Prop}{c:V9}{b:Bool}
inductive TyOf(K:Frag)(H:Hp):V->V9->Prop where
 | non:TyOf K H .non (.type "NoneType")
 | bl (x:Bool):TyOf K H (.bl x) (.type "bool")
 | int (i:Int):TyOf K H (.int i) (.type "int")
 | str (x:Str):TyOf K H (.str x) (.type "str")
 | flt (x:UInt64):TyOf K H (.flt x) (.type "float")
 | lst {a:Az} {xs:List V} (e:H a=some (.lst xs)):TyOf K H (.ref a) (.type "list")
 | frz {a:Az} {o:Obj} {xs:List V} (e:H a=some (.frz o (.lst xs))):TyOf K H (.ref a) (.type "list")
 | tup {a:Az} {xs:List V} (e:H a=some (.tup xs)):TyOf K H (.ref a) (.type "tuple")
 | dK {a:Az} {kvs:List (Key×V)} (e:H a=some (.dK kvs)):TyOf K H (.ref a) (.type "dict")
 | dT {a:Az} {kvs:List (List Key×V)} (e:H a=some (.dT kvs)):TyOf K H (.ref a) (.type "dict")
 | ins {a C dx:Az} {fs:List (Str×V)} (e:H a=some (.ins C dx fs)) (cl:Cls K C) (ha:PySem.W.findIn K (.ref C) "__class__"=some (some (.builtin "object.__class__")))
  (hn:PySem.W.specialIn K (.builtin "object.__class__") "__get__"=some (some (.builtin "getset_descriptor.__get__"))) (htk:PySem.W.takesIn K (.builtin "object.__class__")=some true)
  (hm:PySem.W.mroIn K C (.type "object")=some true):TyOf K H (.ref a) (.ref C)
theorem aGP{x:V}{u t:V9}(I:Inv X pins σ H s)(d:bE x u)(ty:TyOf X.K H x t)(e:PySem.W.kitOne X.K t c=some b)(h:∀ tk,Q (.bool b) {s with toks:=tk}) :
  wpAny (model X.prog X.w) A (call (.builtin "isinstance") [u,c]) Q E s:=by
 cases ty with
 | non=>cases (show u=Value.none from d);exact B8 PySem.W.kitx_none I.kIn True.intro e (fun z=>nomatch z) h
 | bl y=>cases (show u=Value.bool y from d);exact B8 PySem.W.kitx_bool I.kIn True.intro e (fun z=>nomatch z) h
 | int i=>obtain ⟨t,q⟩:=(show ∃ t,u=Value.int i t from d);cases q;exact B8 PySem.W.kitx_int I.kIn True.intro e (fun z=>nomatch z) h
 | str y=>obtain ⟨t,q⟩:=(show ∃ t,u=Value.str y t from d);cases q;exact B8 PySem.W.kitx_str I.kIn True.intro e (fun z=>nomatch z) h
 | flt y=>obtain ⟨t,q⟩:=(show ∃ t,u=Value.float y t from d);cases q;exact B8 PySem.W.kitx_float I.kIn True.intro e (fun z=>nomatch z) h
 | @lst a xs ea=>
  cases (show u=Value.ref a from d)
  obtain ⟨_,_,n,_,h1⟩:=(show cF X.prog X.w H s.heap a (.lst xs) from I.hok a _ ea)
  exact B8 GB I.kIn ⟨_,h1,rfl⟩ e (fun z=>nomatch z) h
 | @frz a ob xs ea=>
  cases (show u=Value.ref a from d)
  obtain ⟨_,_,_,n,_,h1⟩:=(show cF X.prog X.w H s.heap a (.frz ob (.lst xs)) from I.hok a _ ea)
  exact B8 GB I.kIn ⟨_,h1,rfl⟩ e (fun z=>nomatch z) h
 | @tup a xs ea=>
  cases (show u=Value.ref a from d)
  obtain ⟨_,_,_,p⟩:=(show cF X.prog X.w H s.heap a (.tup xs) from I.hok a _ ea)
  obtain ⟨o,h1,h2,_⟩:=p
  exact B8 PySem.W.kitx_tuple I.kIn ⟨o,h1,h2.1⟩ e (fun z=>nomatch z) h
 | @dK a kvs ea=>
  cases (show u=Value.ref a from d)
  obtain ⟨_,_,vs,_,p⟩:=(show cF X.prog X.w H s.heap a (.dK kvs) from I.hok a _ ea)
  obtain ⟨o,es,ep,h1,h2,_⟩:=p
  exact B8 PySem.W.kitx_dict I.kIn ⟨o,h1,h2.1⟩ e (fun z=>nomatch z) h
 | @dT a kvs ea=>
  cases (show u=Value.ref a from d)
  obtain ⟨_,_,xs,_,o,es,ep,h1,h2,_⟩:=(show cF X.prog X.w H s.heap a (.dT kvs) from I.hok a _ ea)
  exact B8 PySem.W.kitx_dict I.kIn ⟨o,h1,h2.1⟩ e (fun z=>nomatch z) h
 | @ins a C dx fs ea cl ha hn htk hm=>
  cases (show u=Value.ref a from d)
  obtain ⟨mA,O,_⟩:=aMF I.hok ea
  obtain ⟨od,J,_⟩:=O.look
  exact B8 (PySem.W.kitx_own (cl.get _) cl.hd ha hn htk hm) I.kIn J e (fun z=>nomatch z) h
end
structure Room(k:Nat)(A:Around):Prop where
 hd:A.handled=none
 dp:A.depth+3 * k+5 < recursionLimit
 un:A.units+16 * k+200 < cLine
theorem Room.mono{j k:Nat}{A:U9}(r:Room k A)(h:j<=k):Room j A:=⟨r.hd,by have:=r.dp;omega,by have:=r.un;omega⟩
theorem Room.deeper{k:Nat}{A:U9}(r:Room (k+1) A)(env:Env):Room k (A.deeper env):=
 ⟨r.hd,by have:=r.dp;show A.depth+1+3 * k+5 < _;omega,by have:=r.un;show A.units+3+16 * k+200 < _;omega⟩
theorem aEN{A:U9}{C:Az}{us:List V9}{a:List (Str×V9)}:(A.under (.builtin "type.__call__" ⟨.ref C::us,a⟩)).depth=A.depth+1:=by
 first|rfl|simp[Around.under,Code.weight,Code.isCreation,Code.isGuard,Code.isCaller,Code.frames,Code.isFrame,guardIds]
theorem aEO{A:U9}{C:Az}{us:List V9}{a:List (Str×V9)}:(A.under (.builtin "type.__call__" ⟨.ref C::us,a⟩)).units=A.units+1:=by
 first|rfl|simp[Around.under,Code.cUnits,Code.frames,Code.isFrame]
theorem Room.make{k:Nat}{A:U9}(r:Room (k+1) A)(C:Az)(us:List V9)(a:List (Str×V9)):Room k (A.under (.builtin "type.__call__" ⟨.ref C::us,a⟩)):=
 ⟨r.hd,by have:=r.dp;rw[aEN];omega,by have:=r.un;rw[aEO];omega⟩
theorem Room.depth{k:Nat}{A:U9}(r:Room k A):A.depth < recursionLimit:=by have:=r.dp;omega
theorem Room.units{k:Nat}{A:U9}(r:Room k A):A.units+64 < cLine:=by have:=r.un;omega
def jL:TA:=fun _ H Q=>Q [] H
def fJ(ta:TE)(tr:TA):TA:=fun σ H Q=>ta σ H fun x H1=>tr σ H1 fun xs H2=>Q (x::xs) H2
section
variable{X:Cx}{e:E1}{es:List E1}{te:TE}{t:TA}{pos:Pos}
theorem aU:PA X [] jL:=fun _ _ _ _ H Q I h=>Calls.spliced_nil ⟨[],H,I,.nil,h⟩
theorem aM(i:PE X e te)(j:PA X es t)(f:starEach (e::es) X.env=(false,eval e X.env)::starEach es X.env:=by rfl):PA X (e::es) (fJ te t):=by
 intro pos pins s σ H Q I h
 rw[f]
 show wpAny _ _ (spliced ((false,eval e X.env)::backTo pos (starEach es X.env))) _ _ s
 refine Calls.spliced_cons (thn (i pins s σ H _ I h) fun u s1 a=>?_)
 obtain ⟨x,H1,c,r1,b⟩:=a
 exact thn (j pos pins s1 σ H1 _ c b) fun us k ⟨xs,H2,g,r2,d⟩=>⟨x::xs,H2,g,.cons r1 r2,d⟩
def aUV(t:TA):TE:=fun σ H Q=>t σ H fun xs H1=>xs.length<=sizeLine/\∀ p,H1 p=none->Q (.ref p) (upd H1 p (.tup xs))
def aUW(t:TA):TE:=fun σ H Q=>t σ H fun xs H1=>xs.length<=sizeLine/\∀ p,H1 p=none->Q (.ref p) (upd H1 p (.lst xs))
theorem aP8{x1}(h:PA X es t):PE X (.Tuple es x1 pos) (aUV t):=by
 intro pins s σ H Q I c
 refine wpAny_Tuple_spliced (thn (h pos pins s σ H _ I c) fun us s1 ⟨xs,H1,a,r,z,q⟩=>⟨by rw[<-r.length];exact z,?_⟩)
 have d:H1 s1.heap.objs.size=none:=a.hok.fresh (AG _)
 refine ⟨.ref s1.heap.objs.size,upd H1 s1.heap.objs.size (.tup xs),a.laid (t':=s1.toks) (fun b u e=>AI _ e) (AG _) ?_,rfl,q _ d⟩
 exact ⟨z,us,r,⟨_,BA _ rfl,⟨rfl,rfl⟩,_,rfl⟩⟩
theorem aP9(h:PA X es t):PE X (.List es pos) (aUW t):=by
 intro pins s σ H Q I c
 refine wpAny_List_spliced (thn (h pos pins s σ H _ I c) fun us s1 ⟨xs,H1,a,r,z,q⟩=>⟨by rw[<-r.length];exact z,?_⟩)
 have d:H1 s1.heap.objs.size=none:=a.hok.fresh (AG _)
 refine ⟨.ref s1.heap.objs.size,upd H1 s1.heap.objs.size (.lst xs),a.laid (t':=s1.toks) (fun b u e=>AI _ e) (AG _) ?_,rfl,q _ d⟩
 exact ⟨z,us,0,r,BA _ rfl⟩
end
abbrev Sp:=List V->Hp->VK->XK->Prop
abbrev CXT:=List Env->Hp->S9->XK->V9->S9->Prop
structure Env0(P:Program)(w:World)(K:Frag)(mg:Str->Option V9)(base:Heap)(A:Around)(outer:List Env)(s:S9)(H:Hp):Prop where
 frames:A.frames=some outer
 mod:Mod K mg base
 bs:∀ b o,base.get? b=some o->s.heap.get? b=some o/\H b=none
 bsz:base.objs.size<=s.heap.objs.size
 funs:s.heap.FunFrames base outer
 frf:∀ b∈frs outer,H b=none
 hok:HOk P w H s.heap
 bare:AllBare s.gens
def CE(outer:List Env)(P:P9)(w:W9)(H:Hp)(s:S9)(Q:VK)(u:V9)(s':S9):Prop:=
 ∃ v H',s'.os=s.os/\AllBare s'.gens/\Un (frs outer) [] H H' s.heap s'.heap/\HOk P w H' s'.heap/\bE v u/\Q v H'
def CR(CX:CXT)(outer:List Env)(P:P9)(w:W9)(H:Hp)(s:S9)(Q:VK)(E:XK)(r:Result)(s':S9):Prop:=
 match r with
 | .ok (.ret u)=>CE outer P w H s Q u s'
 | .ok _=>False
 | .error e=>CX outer H s E e s'
structure FnOk(P:Program)(w:World)(K:Frag)(mg:Str->Option V9)(base:Heap)(CX:CXT)(k:Nat)(f:Az)(fd:FuncData)(ps:List Str)(sp:Sp):Prop where
 len:∀ vs H Q E,sp vs H Q E->vs.length=ps.length
 run:∀ (A:Around) (outer:List Env) (s:S9) (H:Hp) (args:Args) (us:List V9) (vs:List V) (Q:VK) (E:XK),Room k A->Env0 P w K mg base A outer s H->BindsTo s fd args (ps.zip us)->bJ vs us->sp vs H Q E->
  codeAny (model P w) A (.call (.ref f) args) (CR CX outer P w H s Q E) s
theorem FnOk.imp{P:P9}{w:W9}{K:Frag}{mg:Str->O9 V9}{base:H9}{CX:CXT}{k:Nat}{f:Az}{fd:FuncData}{ps:List Str}{sp a:Sp}(F:FnOk P w K mg base CX k f fd ps sp)
  (h:∀ vs H Q E,a vs H Q E->sp vs H Q E):FnOk P w K mg base CX k f fd ps a:=
 ⟨fun vs H Q E q=>F.len vs H Q E (h _ _ _ _ q),fun A outer s H args us vs Q E g b c d e=>F.run A outer s H args us vs Q E g b c d (h _ _ _ _ e)⟩
theorem Env0.make{P:P9}{w:W9}{K:Frag}{mg:Str->O9 V9}{base:H9}{A:U9}{outer:List Env}{s:S9}{H:Hp}(e:Env0 P w K mg base A outer s H)(C:Az)(us:List V9)(a:List (Str×V9)) :
 Env0 P w K mg base (A.under (.builtin "type.__call__" ⟨.ref C::us,a⟩)) outer s H:=⟨by first|exact e.frames|(simpa[Around.under,Code.envs,Code.isFrame,pushEnvs] using e.frames),e.mod,e.bs,e.bsz,e.funs,e.frf,e.hok,e.bare⟩
section
variable{X:Cx}{pins:List (Az×Obj)}{σ:St}{H:Hp}{s s':S9}
theorem Inv.env0(I:Inv X pins σ H s):Env0 X.prog X.w X.K X.mg X.base X.A X.stack s H:=
 ⟨I.ok.frames,I.ok.mod,I.bs,BI I.ok.bsz I.sz,I.stack,I.stkFree,I.hok,I.bare⟩
theorem Inv.after{Q:VK}{u:V9}(I:Inv X pins σ H s)(h:CE X.stack X.prog X.w H s Q u s'):EP X pins σ Q u s':=by
 obtain ⟨v,H',os,a,un,c,r,q⟩:=h
 obtain ⟨f,g,d,t,e⟩:=s'
 obtain rfl:e=s.os:=os
 exact ⟨v,H',I.call (h':=f) (g':=g) (d':=d) (t':=t) (ch:=[]) un c a (fun b z=>absurd z (by simp)),r,q⟩
end
def uT(sp:Sp)(dvs:List V)(E:XK)(t:TA):TE:=fun σ H Q=>t σ H fun vs H1=>sp (vs++dvs) H1 Q E
def fA(K:Frag)(fd:FuncData)(ps:List Str)(ds:List V9):Prop:=
 ∀ (s:S9) (us:List V9),K.In s.heap->(us++ds).length=ps.length->BindsTo s fd ⟨us,[]⟩ (ps.zip (us++ds))
theorem fA.all{K:Frag}{fd:FuncData}{ps:List Str}(h:∀ us:List V9,us.length=ps.length->bindArgs fd ⟨us,[]⟩=pure (ps.zip us)):fA K fd ps []:=fun s us _ a=>by
 rw[CH] at a ⊢
 exact .of_eq (h us a)
def mR(CX:CXT)(X:Cx)(E:XK):Prop:=∀ (pins:List (Az×Obj)) (σ:St) (H:Hp) (s:S9) (e:V9) (s':S9),Inv X pins σ H s->CX X.stack H s E e s'->X.xe e s'
section
variable{X:Cx}{CX:CXT}{k:Nat}{f C:Az}{fd:FuncData}{ps:List Str}{sp:Sp}{dvs:List V}{ds:List V9}{E:XK}{x m:Str}{p pos apos:Pos}{e o:E1}{es:List E1}{ta:TE}{t:TA}
theorem aGQ{pins:List (Az×Obj)}{σ:St}{H:Hp}{s:S9}{Q:VK}{us:List V9}{vs:List V}(F:FnOk X.prog X.w X.K X.mg X.base CX k f fd ps sp)(g:Room k X.A)(c:fA X.K fd ps ds)(d:bJ dvs ds)(hx:mR CX X E)
  (I:Inv X pins σ H s) (r:bJ vs us) (h:sp (vs++dvs) H Q E):wpAny (model X.prog X.w) X.A (call (.ref f) us) (EP X pins σ Q) X.xe s:=by
 have r2:bJ (vs++dvs) (us++ds):=r.append d
 have b:(us++ds).length=ps.length:=by rw[<-r2.length];exact F.len _ _ _ _ h
 refine EQ (EN (F.run X.A X.stack s H ⟨us,[]⟩ (us++ds) (vs++dvs) Q E g I.env0 (c s us I.kIn b) r2 h) fun r s' a=>?_)
 cases r with
 | error e=>exact hx pins σ H s e s' I a
 | ok fl=>
  cases fl with
  | ret u=>exact I.after a
  | next=>exact False.elim a
  | brk=>exact False.elim a
  | cont=>exact False.elim a
theorem aMH(F:FnOk X.prog X.w X.K X.mg X.base CX k f fd ps sp)(m:Room k X.A)(d:Gl X x)(j:X.mg x=some (.ref f))(g:PySem.W.keepIn X.K (.ref f)=true)(c:fA X.K fd ps ds)(l:bJ dvs ds)(hx:mR CX X E)
  (i:PA X (e::es) t) (a:(x == ("__debug__":Str))=false:=by decide) (he:starEach (e::es) X.env=(false,eval e X.env)::starEach es X.env:=by rfl) (hpl:(backTo pos (starEach es X.env)).any (·.1)=false:=by rfl) :
  PE X (.Call (.Name x p) (e::es) [] pos) (uT sp dvs E t):=by
 intro pins s σ H Q I h
 refine CZ (j6 I d j ?_ a)
 refine DO (h₀:=X.base) I.ok.mod.kin g (thn (i pos pins s σ H _ I h) fun us s1 ⟨vs,H1,b,r,q⟩=>⟨b.kIn,?_⟩) he hpl
 exact aGQ F m c l hx b r q
structure Mk(K:Frag)(C f:Az):Prop where
 makes:PySem.W.makesIn K C=true
 init:PySem.W.findIn K (.ref C) "__init__"=some (some (.ref f))
 fn:PySem.W.isFn K (.ref f)=true
 kp:PySem.W.keepIn K (.ref C)=true
end
section
variable{X:Cx}{CX:CXT}{k:Nat}{f C:Az}{fd:FuncData}{ps ks:List Str}{sp:Sp}{E:XK}{x m:Str}{p pos apos kpos:Pos}{e o:E1}{es:List E1}{kws:List Keyword}{te ta:TE}{t tk:TA}{nm:O9 Str}
structure KBinds(K:Frag)(fd:FuncData)(ps ks:List Str)(g:List V9->List V9->List V9)(gV:List V->List V->List V):Prop where
 to:∀ (s:S9) (us ws:List V9),K.In s.heap->(g us ws).length=ps.length->BindsTo s fd ⟨us,ks.zip ws⟩ (ps.zip (g us ws))
 rel:∀ {vs:List V} {us:List V9} {zs:List V} {ws:List V9},bJ vs us->bJ zs ws->bJ (gV vs zs) (g us ws)
variable{g:List V9->List V9->List V9}{gV:List V->List V->List V}
end
structure FnScope(N P:List Str)(sc:Scope):Prop where
 kind:sc.kind=.function
 co:sc.isCoroutine=false
 gen:sc.isGenerator=false
 nd:N.Nodup
 pre:N.take P.length=P
 par:∀ x∈P,sc.names.lookup x=some .local\/sc.names.lookup x=some .cell
 nofree:∀ y∈sc.names,y.2≠.free
theorem yY{a:Str->O9 NameKind}{x:Str}:∀ {binds:List (Str×V9)} {m:Str->O9 V9},(∀ v,(x,v)∉binds)->bindL a binds m x=m x
 | [],_,_=>rfl
 | (n,v)::r,m,h=>by
  unfold bindL
  rw[yY fun w hw=>h w (AN _ hw)]
  split
  .have:x≠n:=by rintro rfl;exact h v A0
   simp[this]
  .rfl
theorem yZ{a:Str->O9 NameKind}{x:Str}:∀ {binds:List (Str×V9)} {m:Str->O9 V9},(∀ v,(x,v)∉binds)->bindC a binds m x=m x
 | [],_,_=>rfl
 | (n,v)::r,m,h=>by
  unfold bindC
  rw[yZ fun w hw=>h w (AN _ hw)]
  split
  .rfl
  .have:x≠n:=by rintro rfl;exact h v A0
   simp[this]
theorem qH{a:Str->O9 NameKind}{x:Str}{v:V9}:∀ {P:List Str} {vs:List V9} {i:Nat} {m:Str->O9 V9},P.Nodup->P[i]? = some x->vs[i]? = some v->a x=some .local->
  bindL a (P.zip vs) m x=some v
 | [],_,_,_,_,h,_,_=>by simp at h
 | _::_,[],_,_,_,_,h,_=>by simp at h
 | p::P,w::vs,0,m,nd,h1,h2,hk=>by
  simp at h1 h2;subst h1;subst h2
  show bindL a ((p,w)::P.zip vs) m p=_
  unfold bindL
  rw[yY fun v hv=>(EH.mp nd).1 (FM hv).1,AD hk]
  simp
 | p::P,w::vs,i+1,m,nd,h1,h2,hk=>by
  show bindL a ((p,w)::P.zip vs) m x=_
  unfold bindL
  exact qH (i:=i) (EH.mp nd).2 (by simpa using h1) (by simpa using h2) hk
theorem qI{a:Str->O9 NameKind}{x:Str}{v:V9}:∀ {P:List Str} {vs:List V9} {i:Nat} {m:Str->O9 V9},P.Nodup->P[i]? = some x->vs[i]? = some v->a x≠some .local->
  bindC a (P.zip vs) m x=some v
 | [],_,_,_,_,h,_,_=>by simp at h
 | _::_,[],_,_,_,_,h,_=>by simp at h
 | p::P,w::vs,0,m,nd,h1,h2,hk=>by
  simp at h1 h2;subst h1;subst h2
  show bindC a ((p,w)::P.zip vs) m p=_
  unfold bindC
  rw[yZ fun v hv=>(EH.mp nd).1 (FM hv).1,AC hk]
  simp
 | p::P,w::vs,i+1,m,nd,h1,h2,hk=>by
  show bindC a ((p,w)::P.zip vs) m x=_
  unfold bindC
  exact qI (i:=i) (EH.mp nd).2 (by simpa using h1) (by simpa using h2) hk
noncomputable def start(N:List Str)(vs:List V):St:=vs.map some++List.replicate (N.length - vs.length) none
noncomputable def iS(CX:CXT)(P:P9)(w:W9)(K:Frag)(mg:Str->O9 V9)(base:H9)(N:List Str)(qual:Str)(scope:Scope)(f:Az)(cd:V9)(A:U9)(outer:List Env)(s:S9)(H:Hp)(E:XK):Cx where
 prog:=P
 w:=w
 K:=K
 mg:=mg
 base:=base
 A:=A.deeper (envOfC qual scope s.heap.objs.size f cd)
 N:=N
 s₀:=s
 H₀:=H
 env:=envOfC qual scope s.heap.objs.size f cd
 outer:=outer
 stack:=envOfC qual scope s.heap.objs.size f cd::outer
 ex:=[]
 calm:=true
 fn:=fun _=>true
 pn:=[]
 xe:=fun e s'=>wpAny (model P w) (A.deeper (envOfC qual scope s.heap.objs.size f cd)) (leaving (envOfC qual scope s.heap.objs.size f cd) e) (fun _ s''=>CX outer H s E e s'') (fun e' s''=>CX outer H s E e' s'') s'
theorem mS{a:Scope}{n:Nat}{x:Str}(h:a.names.lookup x=some .cell):∃ c,(cellsFrom n a.names []).lookup x=some c:=by
 have q:=GZ a.names n [] (.inl h)
 exact GI.mp q
theorem aGR{CX:CXT}{P:P9}{w:W9}{K:Frag}{mg:Str->O9 V9}{base:H9}{N ps:List Str}{qual:Str}{scope:Scope}{f:Az}{cd:V9}{A:U9}{outer:List Env}{s s1:S9}{H:Hp}{E:XK}{us:List V9}{vs:List V}
  (S:FnScope N ps scope) (D:A.handled=none) (e0:Env0 P w K mg base A outer s H) (F:vs.length=ps.length) (r:bJ vs us)
  (x:InCallC s s.heap.objs.size (bindL (envOfC qual scope s.heap.objs.size f cd).kindOf (ps.zip us) fun _=>none) (cellsFrom (s.heap.objs.size+1) scope.names []) (bindC (envOfC qual scope s.heap.objs.size f cd).kindOf (ps.zip us) fun _=>none) s1) :
  Inv (iS CX P w K mg base N qual scope f cd A outer s H E) [] (start N vs) H s1:=by
 have t:ps.length<=N.length:=by have:=DG List.length S.pre;rw[BM] at this;omega
 obtain ⟨h1,tk,rfl,m⟩:=x.done
 have d:∀ b:Az,b∉(iS CX P w K mg base N qual scope f cd A outer s H E).ex:=fun b z=>absurd (show b∈([]:List Az) from z) (by simp)
 refine ⟨⟨e0.mod,S.kind,rfl,rfl,AG _,fun y z c h1 h2=>?_,fun y g=>?_,fun y c _ h=>?_,fun _=>D,Around.frames_deeper e0.frames,.inr ⟨rfl,rfl⟩,fun b z=>absurd z (d b),e0.bs,e0.bsz,fun b _ _=>d b,fun b z=>absurd z (d b),e0.funs,e0.frf⟩,
  rfl,e0.bare,Un.kept m,⟨_,x.toInCall.ns,fun i y v h1 h2 G=>?_⟩,fun y c h=>⟨_,x.cell y c h⟩,e0.hok.fresh (AG _),fun y c h=>?_,fun p l=>absurd (show p∈([]:List (Az×Obj)) from l) (by simp),e0.hok.kept m,?_⟩
 .exact name_of_addr x.apart (BH h1) (BH h2)
 .have g:scope.names.lookup y=some .cell\/scope.names.lookup y=some .free:=g
  rcases g with g|g
  .exact mS g
  .exact absurd rfl (S.nofree _ (BH g))
 .exact DA (x.above y c (BH h))
 .have hi:i < vs.length:=by
   unfold start at h2
   by_cases hi:i < vs.length
   .exact hi
   .rw[BS (by simpa using hi)] at h2
    rw[ED] at h2
    split at h2<;>cases h2
  have C:vs[i]? = some v:=by
   unfold start at h2
   rw[BK (by simpa using hi),AH] at h2
   cases e:vs[i]? with
   | none=>rw[e] at h2;cases h2
   | some a=>rw[e] at h2;cases h2;rfl
  obtain ⟨u,o,B⟩:=r.get C
  have l:ps[i]? = some y:=by
   rw[<-S.pre,GJ (by omega)];exact h1
  have j:ps.Nodup:=by rw[<-S.pre];exact S.nd.sublist (List.take_sublist _ _)
  refine ⟨u,B,?_⟩
  rcases S.par y (AW l) with k|k
  .exact .inl ⟨k,qH j l o k⟩
  .obtain ⟨c,e⟩:=mS (n:=s.heap.objs.size+1) k
   refine .inr ⟨.inl k,c,e,?_⟩
   have q:=x.cell y c e
   rw[qI j l o (by show scope.names.lookup y≠_;rw[k];decide)] at q
   exact q
 .exact e0.hok.fresh (DA (x.above y c (BH h)))
 .unfold start
  show _=N.length
  rw[AK,AB,CC]
  omega
theorem z7{CX:CXT}{P:P9}{w:W9}{K:Frag}{mg:Str->O9 V9}{base:H9}{k:Nat}{f:Az}{name qual:Str}{params:Arguments}{body:List Stmt}{scope:Scope}{F kV doc pm a ct M:V9}{D od:O9 Az}
  {C:Array (O9 V9)} {N ps:List Str} {sp:Sp} (Z:K.lookup f=some ⟨M,od,.func (PySem.W.fnOf name qual params body scope F kV doc pm D a ct),C⟩) (z:PySem.W.codeIn K a qual=true) (S:FnScope N ps scope)
  (len:∀ vs H Q E,sp vs H Q E->vs.length=ps.length)
  (d:∀ (A:U9) (outer:List Env) (s:S9) (H:Hp) (vs:List V) (Q:VK) (E:XK),Room k (A.deeper (envOfC qual scope s.heap.objs.size f a))->sp vs H Q E->
   ∃ t,PSs (iS CX P w K mg base N qual scope f a A outer s H E) body t/\t {nx:=fun _ H'=>Q .non H',rt:=Q} (start N vs) H) :
  FnOk P w K mg base CX (k+1) f (PySem.W.fnOf name qual params body scope F kV doc pm D a ct) ps sp:=by
 refine ⟨len,fun A outer s H args us vs Q E B e0 L r i=>?_⟩
 have U:=len _ _ _ _ i
 have G:K.In s.heap:=e0.mod.kin.keeps fun b o e=>(e0.bs b o e).1
 have l:s.heap.NoLimit:=e0.mod.nolimit.keeps fun b o e=>(e0.bs b o e).1
 have g:∀ y∈ps.zip us,scope.names.lookup y.1=some .local\/(scope.names.lookup y.1=some .cell/\((cellsFrom (s.heap.objs.size+1) scope.names []).lookup y.1).isSome=true):=fun m Y=>by
  obtain ⟨n,v⟩:=m
  rcases S.par n (FM Y).1 with q|q
  .exact .inl q
  .exact .inr ⟨q,GZ _ _ _ (.inl q)⟩
 refine codeAny_call_function B.depth (G _ _ Z) rfl S.co S.gen rfl (PySem.W.codeRec_of G z) (L _ _ _ _ ?_)
 refine wpAny_newFunctionEnv_cells S.kind g fun env O s1 x=>?_
 subst O
 refine ⟨l.keeps x.toInCall.keep,codeAny_func ?_⟩
 obtain ⟨t,X,T⟩:=d A outer s H vs Q E (B.deeper _) i
 have I:Inv (iS CX P w K mg base N qual scope f a A outer s H E) [] (start N vs) H s1:=aGR S B.hd e0 U r x
 refine BO (X [] s1 (start N vs) H _ I T) (fun R s' h=>?_) fun e s' h=>h
 have j:∀ {c:St} {H':Hp} {v:V} {u:V9},Inv (iS CX P w K mg base N qual scope f a A outer s H E) [] c H' s'->bE v u->Q v H'->CE outer P w H s Q u s':=
  fun {c H' v u} J p q=>⟨v,H',J.os,J.bare,J.base,J.hok,p,q⟩
 cases R with
 | ret u=>
  obtain ⟨v,c,H',J,p,q⟩:=h
  exact j J p q
 | next=>
  obtain ⟨c,H',J,q⟩:=h
  exact j (v:=V.non) (u:=Value.none) J rfl q
 | brk=>
  obtain ⟨_,_,_,q⟩:=h
  exact False.elim q
 | cont=>
  obtain ⟨_,_,_,q⟩:=h
  exact False.elim q
section
variable{X:Cx}{x:Str}{p pos:Pos}{e:E1}{es:List E1}{t:TA}{id T:String}{r:List V->Hp->VK->Prop}
def tCB(r:List V->Hp->VK->Prop)(t:TA):TE:=fun σ H Q=>t σ H fun vs H1=>r vs H1 Q
theorem cP(g:jV X (.builtin id) r)(d:Gl X x)(i:X.mg x=none)(f:bootBuiltins x=some (.builtin id))(j:PA X (e::es) t)(a:x≠"__name__":=by decide)(hdb:(x == ("__debug__":Str))=false:=by decide)
  (he:starEach (e::es) X.env=(false,eval e X.env)::starEach es X.env:=by rfl) (hpl:(backTo pos (starEach es X.env)).any (·.1)=false:=by rfl):PE X (.Call (.Name x p) (e::es) [] pos) (tCB r t):=by
 intro pins s σ H Q I h
 refine CZ (n6 I d i f ?_ a hdb)
 exact PyProof.Rows.callWith_builtin1 (thn (j pos pins s σ H _ I h) fun us s1 ⟨vs,H1,c,r1,b⟩=>g pins s1 σ H1 vs us Q c r1 b) he hpl
theorem cC(g:jV X (.type T) r)(d:Gl X x)(i:X.mg x=none)(f:bootBuiltins x=some (.type T))(j:PA X (e::es) t)(a:x≠"__name__":=by decide)(hdb:(x == ("__debug__":Str))=false:=by decide)
  (he:starEach (e::es) X.env=(false,eval e X.env)::starEach es X.env:=by rfl) (hpl:(backTo pos (starEach es X.env)).any (·.1)=false:=by rfl):PE X (.Call (.Name x p) (e::es) [] pos) (tCB r t):=by
 intro pins s σ H Q I h
 refine CZ (n6 I d i f ?_ a hdb)
 exact DM (thn (j pos pins s σ H _ I h) fun us s1 ⟨vs,H1,c,r1,b⟩=>g pins s1 σ H1 vs us Q c r1 b) he hpl
end
end L2
namespace HT
open PySem PyProof.Rows
section
open PySem.SeqAt
open PySem.AutoSeq1 (wpAny_loadPart')
open PySem.MeetsSeq PySem.MeetsSeq2 PySem.MeetsSeq3
end
section
variable{prog:P9}{w:W9}{A:U9}{E:V9->S9->Prop}{s:S9}
theorem aMI{t b:Az}{vs ws:List V9}{Q:V9->S9->Prop}(q:IsTup s.heap t vs.toArray)(p:IsTup s.heap b ws.toArray)(l:vs≠[])
  (h1:ws=[]->Q (.ref t) s) (h2:ws≠[]->Q (.ref s.heap.objs.size) {s with heap:=s.heap.push {cls:=.type "tuple",data:=.seq (vs++ws).toArray}})
  (hsz:vs.length+ws.length<=sizeLine):wpAny (model prog w) A (binaryOp .Add (.ref t) (.ref b)) Q E s:=by
 obtain ⟨⟨cls,dd,data,sl⟩,h,m,n,o⟩:=id q
 obtain ⟨⟨k,f,j,g⟩,a,c,n2,d⟩:=id p
 simp only at m o c d
 subst m o c d
 have e:vs.toArray++ws.toArray=(vs++ws).toArray:=by simp
 by_cases i:ws=[]
 .exact concat_meets ⟨_,h,rfl⟩ ⟨_,a,rfl⟩ noFill_tuple_add seq_tuple_add G0 GS (GK _ _)
   (tuple_addW1 t b vs.toArray ws.toArray n n2 dd f sl g (by simpa using l) (by simp[i])) ⟨h,a,h1 i⟩
 .refine concat_meets ⟨_,h,rfl⟩ ⟨_,a,rfl⟩ noFill_tuple_add seq_tuple_add G0 GS (GK _ _)
   (tuple_addW2 t b vs.toArray ws.toArray n n2 dd f sl g (by simpa using l) (by simpa using i) (by rw[BG,BG];exact hsz)) ⟨h,a,?_⟩
  rw[e]
  exact h2 i
noncomputable def sIx(n d:Nat):O9 Int->Nat
 | none=>d
 | some v=>if v < 0 then (v+(n:Int)).toNat else min v.toNat n
theorem aAM(n d:Nat):sIx n d none=d:=rfl
theorem aCV(n d k:Nat):sIx n d (some (k:Int))=min k n:=by
 show (if (k:Int) < 0 then ((k:Int)+(n:Int)).toNat else min (k:Int).toNat n)=min k n
 rw[AC (by omega),CD]
theorem aQA(n d:Nat)(b:d<=n)(o:O9 Int):sIx n d o<=n:=by
 cases o with
 | none=>exact b
 | some v=>
  show (if v < 0 then (v+(n:Int)).toNat else min v.toNat n)<=n
  by_cases a:v < 0
  · rw [AD a]; omega
  · rw [AC a]; exact Nat.min_le_right _ _
theorem aCW(v:Int)(n d:Nat):(if v < 0 then max (v+(n:Int)) 0 else min v (n:Int))=((sIx n d (some v):Nat):Int):=by
 show (if v < 0 then max (v+(n:Int)) 0 else min v (n:Int))=(((if v < 0 then (v+(n:Int)).toNat else min v.toNat n):Nat):Int)
 by_cases a:v < 0
 · simp only [AD a]; omega
 · simp only [AC a]; omega
theorem aEP(lo hi:O9 Int)(n:Nat):Builtin.Slice.sliceAdjust lo hi 1 (n:Int)=(((sIx n 0 lo:Nat):Int),((sIx n n hi:Nat):Int)):=by
 have h1:¬ ((1:Int) < 0):=by omega
 unfold Builtin.Slice.sliceAdjust
 simp only[h1,CF]
 refine Prod.ext ?_ ?_
 .cases lo with
  | none=>rfl
  | some v=>exact aCW v n 0
 .cases hi with
  | none=>rfl
  | some v=>exact aCW v n n
theorem aEQ(i j:Nat):Builtin.Slice.slicePlaces (i:Int) (j:Int) 1=j - i:=by
 unfold Builtin.Slice.slicePlaces
 have h1:(1:Int) > 0:=by omega
 simp only[h1,CG,Int.ediv_one]
 split<;>omega
theorem uU{v:V9}{o:O9 Int}{Q:O9 Int->S9->Prop}(p:IsPart v o)(h:Q o s):wpAny (model prog w) A (Builtin.Slice.slicePartIndex v) Q E s:=by
 cases p with
 | none=>exact slicePart_none h
 | int i t=>exact slicePart_int h
theorem tQ{sl:Az}{d c:V9}{lo hi:O9 Int}{n:Nat}{Q:Int×Int×Nat->S9->Prop}(g:s.heap.IsSliceOf sl d c .none)(pl:IsPart d lo)(f:IsPart c hi)
  (h:Q (((sIx n 0 lo:Nat):Int),1,sIx n n hi - sIx n 0 lo) s):wpAny (model prog w) A (Builtin.Slice.sliceApplied (.ref sl) (pure (n:Int))) Q E s:=by
 obtain ⟨os,a,e,b⟩:=id g
 unfold Builtin.Slice.sliceApplied Builtin.Slice.sliceFields
 refine AA (AA (D0 a b (x:=d) rfl (AA (D0 a b (x:=c) rfl (AA (D0 a b (x:=.none) rfl (AE ?_)))))))
 refine AA (slicePart_none ?_)
 show wpAny _ _ (if ((1:Int) == 0)=true then _ else _) _ _ s
 rw[AC (by decide)]
 refine AA (uU pl (AA (uU f (AA (AE ?_)))))
 show wpAny _ _ (match Builtin.Slice.sliceAdjust lo hi 1 (n:Int) with|(lo,hi)=>pure (lo,(1:Int),Builtin.Slice.slicePlaces lo hi 1)) _ _ s
 rw[aEP lo hi n]
 show wpAny _ _ (pure (((sIx n 0 lo:Nat):Int),(1:Int),Builtin.Slice.slicePlaces ((sIx n 0 lo:Nat):Int) ((sIx n n hi:Nat):Int) 1)) _ _ s
 rw[aEQ]
 exact AE h
theorem aJE(xs:Array V9)(i k:Nat):((List.range k).filterMap fun (m:Nat)=>xs[((i:Int)+(m:Int) * 1).toNat]?).toArray=((xs.toList.drop i).take k).toArray:=by
 have e:(fun (m:Nat)=>xs[((i:Int)+(m:Int) * 1).toNat]?)=fun m=>xs[i+m]?:=by
  funext m
  have:((i:Int)+(m:Int) * 1).toNat=i+m:=by omega
  rw[this]
 rw[e]
 have:=pick_run xs i k
 rw[List.filterMap_map] at this
 have e2:((fun x=>xs[x]?)∘fun x=>i+x)=fun m=>xs[i+m]?:=rfl
 rw[e2] at this
 rw[this]
theorem sZ{t sl:Az}{items:Array V9}{i g:V9}{lo hi:O9 Int}{Q:V9->S9->Prop}(b:IsTup s.heap t items)(j:s.heap.IsSliceOf sl i g .none)(pl:IsPart i lo)(l:IsPart g hi)
  (hw:¬ (sIx items.size 0 lo=0/\sIx items.size items.size hi=items.size))
  (h:Q (.ref s.heap.objs.size) {s with heap:=s.heap.push {cls:=.type "tuple",data:=.seq ((items.toList.drop (sIx items.size 0 lo)).take (sIx items.size items.size hi - sIx items.size 0 lo)).toArray}})
  (hsz:items.size<=sizeLine):wpAny (model prog w) A (getItem (.ref t) (.ref sl)) Q E s:=by
 have a:sizeOk (.seq ((items.toList.drop (sIx items.size 0 lo)).take (sIx items.size items.size hi - sIx items.size 0 lo)).toArray):=by
  show ((items.toList.drop (sIx items.size 0 lo)).take (sIx items.size items.size hi - sIx items.size 0 lo)).toArray.size<=sizeLine
  rw[BG,BM,CQ,CK]
  omega
 have o:sIx items.size items.size hi<=items.size:=aQA _ _ (AG _) hi
 obtain ⟨os,c,f,k⟩:=id j
 have e:s.TypeIs (.ref sl) "slice":=⟨os,c,f⟩
 unfold getItem
 try with_reducible refine CN ?_
 first|refine AA (AE ?_)|skip
 refine AA (wpAny_sequenceKey b.typeIs (by decide) ?_)
 refine AA (EE (name:=Str.ofString "__getitem__") b.typeIs EC
  (FE EC b.typeIs entry_tuple_getitem ?_ (args_tuple_getitem _ _)))
 show wpAny _ _ (Builtin.Tuple.tupleItemsOf (.ref t) >>= _) _ _ s
 refine AA (tupleItemsOf_ b ?_)
 refine AA (wpAny_typeOf e ?_)
 rw[AD (by decide)]
 refine AA (tQ j pl l ?_)
 have d:¬ ((((sIx items.size 0 lo:Nat):Int) == 0 && (1:Int) == 1 && (sIx items.size items.size hi - sIx items.size 0 lo) == items.size)=true):=by
  intro q
  rw[AV,AV] at q
  have p:((sIx items.size 0 lo:Nat):Int)=0:=FH q.1.1
  have n:sIx items.size items.size hi - sIx items.size 0 lo=items.size:=FH q.2
  exact hw ⟨by omega,by omega⟩
 show wpAny _ _ (if (((sIx items.size 0 lo:Nat):Int) == 0 && (1:Int) == 1 && (sIx items.size items.size hi - sIx items.size 0 lo) == items.size)=true then _ else _) _ _ s
 rw[AC d,aJE]
 first
  | exact AA (m:=Builtin.Tuple.tupleExact _) (CW (AE ⟨_,rfl,AE h⟩) a)
  | exact AA (m:=Builtin.Tuple.tupleExact _) (CW (AA (AE (AE ⟨_,rfl,AE h⟩))) a)
  | exact AA (AA (m:=Builtin.Tuple.tupleExact _) (CW (AE (AE ⟨_,rfl,AE h⟩)) a))
  | exact AA (AA (m:=Builtin.Tuple.tupleExact _) (CW (AE ⟨_,rfl,AE h⟩) a))
end
end HT
namespace L2
open PySem PySem.Spec PyProof.Rows
abbrev TO:=St->Hp->(O9 Int->Hp->Prop)->Prop
def PO(X:Cx)(e:O9 E1)(t:TO):Prop:=
 ∀ (pins:List (Az×Obj)) (s:S9) (σ:St) (H:Hp) (Q:O9 Int->Hp->Prop),Inv X pins σ H s->t σ H Q->
  wpAny (model X.prog X.w) X.A (evalPart e X.env) (fun u s'=>∃ o H',Inv X pins σ H' s'/\IsPart u o/\Q o H') X.xe s
def aMJ:TO:=fun _ H Q=>Q none H
def aS0(t:TE):TO:=fun σ H Q=>t σ H fun x H1=>∃ i,x=.int i/\Q (some i) H1
section
variable{X:Cx}{e:E1}{te:TE}{lo hi:O9 E1}{tl th:TO}{pos p2:Pos}
theorem aMK:PO X none aMJ:=by
 intro pins s σ H Q I h
 rw[evalPart_none]
 exact AE ⟨none,H,I,.none,h⟩
theorem aML(h:PE X e te):PO X (some e) (aS0 te):=by
 intro pins s σ H Q I b
 rw[evalPart_some]
 refine thn (h pins s σ H _ I b) fun u s1 a=>?_
 obtain ⟨x,H1,d,r1,c⟩:=a
 obtain ⟨i,rfl,q⟩:=c
 obtain ⟨t,rfl⟩:=r1
 exact ⟨some i,H1,d,.int i t,q⟩
def SlR(X:Cx)(r:V->O9 Int->O9 Int->Hp->VK->Prop):Prop:=
 ∀ (pins:List (Az×Obj)) (s:S9) (σ:St) (H:Hp) (x:V) (v vl vu:V9) (lo hi:O9 Int) (sl:Az) (Q:VK),Inv X pins σ H s->bE x v->s.heap.IsSliceOf sl vl vu .none->IsPart vl lo->IsPart vu hi->r x lo hi H Q->
  ∃ T id,typeLookup (.type T) "__getitem__"=pure (some (.builtin id))/\s.TypeIs v T/\wpAny (model X.prog X.w) X.A (getItem v (.ref sl)) (EP X pins σ Q) X.xe s
def tSl(r:V->O9 Int->O9 Int->Hp->VK->Prop)(te:TE)(tl th:TO):TE:=fun σ H Q=>te σ H fun x H1=>tl σ H1 fun l H2=>th σ H2 fun u H3=>r x l u H3 Q
theorem aJF{r:V->O9 Int->O9 Int->Hp->VK->Prop}(D:SlR X r)(k:PE X e te)(t:PO X lo tl)(F:PO X hi th):PE X (.Subscript e (.Slice lo hi none p2) pos) (tSl r te tl th):=by
 intro pins s σ H Q I h
 refine Subscript_ (thn (k pins s σ H _ I h) fun v s1 c=>?_)
 obtain ⟨x,H1,n,r1,m⟩:=c
 refine wpAny_Slice (thn (t pins s1 σ H1 _ n m) fun d C ⟨l,H2,o,j,i⟩=>thn (F pins C σ H2 _ o i) fun f a c=>?_)
 obtain ⟨u,H3,G,E,B⟩:=c
 rw[evalPart_none]
 refine AE ?_
 have g:Inv X pins σ H3 {a with heap:=a.heap.push {cls:=.type "slice",data:=.fields #[d,f,.none]}}:=G.kept (t':=a.toks) fun b J q=>AI _ q
 obtain ⟨T,id,p,z,y⟩:=D pins {a with heap:=a.heap.push {cls:=.type "slice",data:=.fields #[d,f,.none]}} σ H3 x v d f l u a.heap.objs.size Q g r1 (Heap.IsSliceOf.new ..) j E B
 show wpAny (model X.prog X.w) X.A (subscriptTail e (.Slice lo hi none p2) v (.ref a.heap.objs.size)) (EP X pins σ Q) X.xe {a with heap:=a.heap.push {cls:=.type "slice",data:=.fields #[d,f,.none]}}
 exact tail_any (ops:=[.ref a.heap.objs.size,v]) z p y (by with_unfolding_all rfl)
noncomputable def qJ(xs:List V)(lo hi:O9 Int):List V:=(xs.drop (HT.sIx xs.length 0 lo)).take (HT.sIx xs.length xs.length hi - HT.sIx xs.length 0 lo)
theorem tH(xs:List V)(lo hi:O9 Int):(qJ xs lo hi).length<=xs.length:=by
 unfold qJ
 rw[BM,CQ]
 omega
def aUX(K:Frag):V->O9 Int->O9 Int->Hp->VK->Prop:=fun x lo hi H Q=>∃ a xs,x=.ref a/\SqT K H a xs /\
 ¬ (HT.sIx xs.length 0 lo=0/\HT.sIx xs.length xs.length hi=xs.length)/\∀ p,H p=none->Q (.ref p) (upd H p (.tup (qJ xs lo hi)))
theorem aQB:SlR X (aUX X.K):=by
 intro pins s σ H x v t p lo hi sl Q I g m i l h
 obtain ⟨a,xs,rfl,j,k,q⟩:=h
 cases g
 obtain ⟨d,r,f,e⟩:=I.tuple j
 have c:d.toArray.size=xs.length:=by rw[BG];exact r.length.symm
 refine ⟨"tuple",_,EC.lookup,f.typeIs,?_⟩
 refine HT.sZ f m i l (by rw[c];exact k) ?_ (by rw[c];exact e)
 rw[c]
 refine ⟨.ref s.heap.objs.size,_,I.laid (t':=s.toks) (o:=.tup (qJ xs lo hi)) (fun b n q=>AI _ q) (AG _) ?_,rfl,q _ (I.hok.fresh (AG _))⟩
 exact ⟨BI (tH xs lo hi) e,_,(r.drop (HT.sIx xs.length 0 lo)).take (HT.sIx xs.length xs.length hi - HT.sIx xs.length 0 lo),lO.new _ _⟩
def aS1(K:Frag):R2:=fun x y H Q=>∃ a b xs ys,x=.ref a/\y=.ref b/\SqT K H a xs/\SqT K H b ys/\xs≠[]/\xs.length+ys.length<=sizeLine /\
 (ys=[]->Q (.ref a) H)/\(ys≠[]->∀ p,H p=none->Q (.ref p) (upd H p (.tup (xs++ys))))
theorem bJ.nil_iff{xs:List V}{us:List V9}(r:bJ xs us):us=[]↔xs=[]:=by
 cases r with
 | nil=>simp
 | cons _ _=>simp
theorem aMM:OpR X (binaryOp .Add) (aS1 X.K):=by
 intro pins s σ H x y v u Q I f e h
 obtain ⟨a,b,xs,ys,rfl,rfl,n,g,j,c,l,i⟩:=h
 cases f
 cases e
 obtain ⟨k,r1,m,_⟩:=I.tuple n
 obtain ⟨d,r2,p2,_⟩:=I.tuple g
 refine HT.aMI m p2 (fun z=>j (r1.nil_iff.mp z)) (fun z=>⟨.ref a,H,I,rfl,l (r2.nil_iff.mp z)⟩) (fun z=>?_) (by rw[<-r1.length,<-r2.length];exact c)
 refine ⟨.ref s.heap.objs.size,_,I.laid (t':=s.toks) (o:=.tup (xs++ys)) (fun b p q=>AI _ q) (AG _) ?_,rfl,i (fun w=>z (r2.nil_iff.mpr w)) _ (I.hok.fresh (AG _))⟩
 exact ⟨by rw[AK];exact c,_,r1.append r2,lO.new _ _⟩
end
noncomputable def ixN(n:Nat)(i:Int):O9 Nat:=if 0<=i then (if i < n then some i.toNat else none) else if -(n:Int)<=i then some (i+n).toNat else none
noncomputable def atI{α:Type}(xs:List α)(i:Int):O9 α:=(ixN xs.length i).bind fun j=>xs[j]?
theorem aMN{n:Nat}{i:Int}{j:Nat}(h:ixN n i=some j):seqIndex? i n=some j/\j < n /\ -(n:Int)<=i/\i < n:=by
 unfold ixN at h
 by_cases a:0<=i
 .rw[AD a] at h
  by_cases h1:i < n
  .rw[AD h1] at h
   have e:i.toNat=j:=BU h
   exact ⟨by rw[seqIndex_of a h1,e],by omega,by omega,h1⟩
  .rw[AC h1] at h;cases h
 .rw[AC a] at h
  by_cases h1 : -(n:Int)<=i
  .rw[AD h1] at h
   have e:(i+n).toNat=j:=BU h
   exact ⟨by rw[seqIndex_neg (by omega) h1,e],by omega,h1,by omega⟩
  .rw[AC h1] at h;cases h
theorem w8{α:Type}{xs:List α}{i:Int}{v:α}(h:atI xs i=some v):∃ j,seqIndex? i xs.length=some j/\xs[j]? = some v/\j < xs.length /\ -(xs.length:Int)<=i/\i < xs.length:=by
 unfold atI at h
 cases e:ixN xs.length i with
 | none=>rw[e] at h;cases h
 | some j=>
  rw[e] at h
  obtain ⟨h1,h2,a,b⟩:=aMN e
  exact ⟨j,h1,h,h2,a,b⟩
theorem eK{α:Type}{xs:List α}{j:Nat}{v:α}(h:xs[j]? = some v):atI xs (j:Int)=some v:=by
 have a:j < xs.length:=(AM.mp h).1
 have e:ixN xs.length (j:Int)=some j:=by
  unfold ixN
  rw[AD (by omega),AD (by omega)];simp
 unfold atI;rw[e];exact h
def aCX(b:E1):Prop:=∀ o i,subscripted b false o i=operate [o,i] (getItem o i)
def IxR(X:Cx)(r:R2):Prop:=
 ∀ (value slice:E1) (pins:List (Az×Obj)) (s:S9) (σ:St) (H:Hp) (x y:V) (v u:V9) (Q:VK),Inv X pins σ H s->bE x v->bE y u->r x y H Q->
  subscripted slice false v u=operate [v,u] (getItem v u)->wpAny (model X.prog X.w) X.A (subscriptTail value slice v u) (EP X pins σ Q) X.xe s
def MtR(X:Cx)(id:String)(r:V->List V->Hp->VK->Prop):Prop:=
 ∀ (pins:List (Az×Obj)) (s:S9) (σ:St) (H:Hp) (x:V) (xs:List V) (v:V9) (us:List V9) (Q:VK),Inv X pins σ H s->bE x v->bJ xs us->r x xs H Q->
  wpAny (model X.prog X.w) X.A (call (.builtin id) (v::us)) (EP X pins σ Q) X.xe s
section
variable{X:Cx}{a b:E1}{ta tb:TE}{pos:Pos}
theorem aS2{r:R2}(k:IxR X r)(i:PE X a ta)(f:PE X b tb)(c:aCX b):PE X (.Subscript a b pos) (tOp r ta tb):=by
 intro pins s σ H Q I h
 exact Subscript_ (aJC i f I h fun v u g x y H2 j e d q=>k a b pins g σ H2 x y v u Q j e d q (c _ _))
def aUY(K:Frag):R2:=fun x y H Q=>∃ p xs i v,x=.ref p/\y=.int i/\SqL K H p xs/\atI xs i=some v/\Q v H
def aUZ(K:Frag):R2:=fun x y H Q=>∃ p xs i v,x=.ref p/\y=.int i/\SqT K H p xs/\atI xs i=some v/\Q v H
def aU0:R2:=fun x y H Q=>∃ z i c,x=.str z/\y=.int i/\z.length<=sizeLine/\atI z.cps.toList i=some c/\Q (.str ⟨#[c]⟩) H
theorem aMO:IxR X (aUY X.K):=by
 intro value c pins s σ H x y v u Q I C A h l
 obtain ⟨p,xs,i,z,rfl,rfl,m,D,q⟩:=h
 cases C
 obtain ⟨t,rfl⟩:=A
 obtain ⟨e,r,b,E⟩:=I.list m
 obtain ⟨j,h1,h2,F,o,B⟩:=w8 D
 obtain ⟨w,k,f⟩:=r.get h2
 have n:=r.length
 have G:=uS
 have a:EP X pins σ Q w s:=⟨z,H,I,f,q⟩
 by_cases g:0<=i
 .have d:i.toNat=j:=by
   rw[seqIndex_of g B] at h1
   exact BU h1
  exact item_listR b.isList g (by omega) (by rw[d];simpa using k) a l
 .have d:(i+(e.toArray.size:Int)).toNat=j:=by
   rw[seqIndex_neg (by omega) o] at h1
   rw[BG,<-n]
   exact BU h1
  exact subscriptTail_builtinR (x:=w) b.isList.typeIs slot_list_getitem.lookup
   (wpAny_getItem_list_neg (Q:=fun r s'=>r=w/\EP X pins σ Q r s') b.isList (by omega) (by rw[BG]<;>omega) (by omega) (by rw[d];simpa using k) ⟨rfl,a⟩) l
theorem aQC:IxR X (aUZ X.K):=by
 intro value a pins s σ H x y v u Q I k g h o
 obtain ⟨p,xs,i,z,rfl,rfl,e,m,q⟩:=h
 cases k
 obtain ⟨t,rfl⟩:=g
 obtain ⟨l,r,d,C⟩:=I.tuple e
 obtain ⟨j,h1,h2,D,A,B⟩:=w8 m
 obtain ⟨w,n,c⟩:=r.get h2
 have f:=r.length
 have E:=uS
 have b:EP X pins σ Q w s:=⟨z,H,I,c,q⟩
 exact subscriptTail_builtinR (x:=w) d.typeIs slot_tuple_getitem.lookup
  (getItem_tuple (j:=j) (Q:=fun r s'=>r=w/\EP X pins σ Q r s') d (by omega) (by omega) (by rw[BG,<-f];exact h1) (by simpa using n) ⟨rfl,b⟩) o
theorem aQD:IxR X aU0:=by
 intro value a pins s σ H x y v u Q I g e h l
 obtain ⟨z,i,c,rfl,rfl,n,k,q⟩:=h
 obtain ⟨t,rfl⟩:=g
 obtain ⟨m,rfl⟩:=e
 obtain ⟨j,h1,h2,o,d,f⟩:=w8 k
 have b:z.cps.toList.length=z.length:=by simp[Str.length]
 rw[b] at h1 d f
 have p:=uS
 exact tail_any (typeIs_str s z t) slot_str_getitem.lookup (getItem_str (c:=c) (by
  have e1:decide (i < -(2 ^ 63:Int))=false:=A1 (by omega)
  have e2:decide (i>=2 ^ 63)=false:=A1 (by omega)
  rw[e1,e2,Bool.or_false]) (by rw[h1];simpa using h2) ⟨.str ⟨#[c]⟩,H,I.tok _,⟨_,rfl⟩,q⟩) l
theorem aAN(lo hi:O9 Int)(n:Nat):(sliceBounds lo hi none n).1=((HT.sIx n 0 lo:Nat):Int)/\(sliceBounds lo hi none n).2.1=((HT.sIx n n hi:Nat):Int)/\(sliceBounds lo hi none n).2.2=1:=by
 refine ⟨?_,?_,rfl⟩
 .cases lo with
  | none=>simp[sliceBounds,HT.sIx]
  | some i=>
   simp only[sliceBounds,HT.sIx,GL,show (1:Int) > 0 by decide,CG]
   by_cases h:i < 0
   · simp only [h, CG] <;> omega
   · simp only [h, CF] <;> omega
 .cases hi with
  | none=>simp[sliceBounds,HT.sIx]
  | some i=>
   simp only[sliceBounds,HT.sIx,GL,show (1:Int) > 0 by decide,CG]
   by_cases h:i < 0
   · simp only [h, CG] <;> omega
   · simp only [h, CF] <;> omega
theorem zW(a:List V9)(lo hi:O9 Int):slicePick a.toArray lo hi none=((a.drop (HT.sIx a.length 0 lo)).take (HT.sIx a.length a.length hi - HT.sIx a.length 0 lo)).toArray:=by
 obtain ⟨h1,h2,b⟩:=aAN lo hi a.toArray.size
 unfold slicePick
 rw[h1,h2,b]
 simp only[sliceRange_one,pick_run,BG]<;>rfl
def aU1(K:Frag):V->O9 Int->O9 Int->Hp->VK->Prop:=fun x lo hi H Q=>∃ a xs,x=.ref a/\SqL K H a xs/\∀ p,H p=none->Q (.ref p) (upd H p (.lst (qJ xs lo hi)))
theorem aMP:SlR X (aU1 X.K):=by
 intro pins s σ H x v p n lo hi sl Q I e l g k h
 obtain ⟨a,xs,rfl,i,q⟩:=h
 cases e
 obtain ⟨j,r,d,f⟩:=I.list i
 have c:=r.length
 refine ⟨"list",_,slot_list_getitem.lookup,d.isList.typeIs,?_⟩
 refine wpAny_getItem_list_slice d.isList l g k .none (by simp) ?_ (by rw[BG]<;>omega)
 rw[zW,<-c]
 refine ⟨.ref s.heap.objs.size,_,I.laid (t':=s.toks) (o:=.lst (qJ xs lo hi)) (fun b m q=>AI _ q) (AG _) ?_,rfl,q _ (I.hok.fresh (AG _))⟩
 exact ⟨BI (tH xs lo hi) f,_,0,(r.drop (HT.sIx xs.length 0 lo)).take (HT.sIx xs.length xs.length hi - HT.sIx xs.length 0 lo),BA _ rfl⟩
theorem cR:jV X (.type "tuple") (fun xs H Q=>∃ p ys,xs=[.ref p]/\((SqL X.K H p ys/\∀ l,H l=none->Q (.ref l) (upd H l (.tup ys)))\/(SqT X.K H p ys/\Q (.ref p) H))):=by
 intro pins s σ H xs us Q I r h
 obtain ⟨p,ys,rfl,h⟩:=h
 obtain ⟨u,rfl,m⟩:=nB r
 cases m
 rcases h with ⟨c,q⟩|⟨c,q⟩
 .obtain ⟨a,d,f,g⟩:=I.list c
  have j:=d.length
  refine call_tuple_list f.isList (fun h' k=>?_) (by simp only[BG]<;>omega)
  have i:Inv X pins σ H {s with heap:=h'}:=I.kept (t':=s.toks) k
  have n:Inv X pins σ (upd H h'.objs.size (.tup ys)) {s with heap:=h'.push {cls:=.type "tuple",data:=.seq a.toArray}}:=
   i.laid (t':=s.toks) (fun b o e=>AI _ e) (AG _) (show cF X.prog X.w _ _ _ (.tup ys) from ⟨g,a,d,lO.new _ _⟩)
  exact ⟨.ref h'.objs.size,_,n,rfl,q _ (i.hok.fresh (AG _))⟩
 .obtain ⟨a,d,f,g⟩:=I.tuple c
  exact call_tuple_same f ⟨.ref p,H,I,rfl,q⟩
def tyV(K:Frag)(T:String)(x:V)(H:Hp):Prop:=match x with
 | .str _=>T="str"
 | .int _=>T="int"
 | .ref p=>(T="list"/\∃ xs,SqL K H p xs)\/(T="tuple"/\∃ o,K.lookup p=some o/\o.cls=.type "tuple"/\o.dict=none) \/
  (T="dict"/\((∃ kvs,H p=some (.dK kvs))\/∃ kvs,H p=some (.dT kvs)))\/(T="set"/\∃ S n,H p=some (.set S n))
 | _=>False
theorem aQE{pins:List (Az×Obj)}{σ:St}{H:Hp}{s:S9}{T:String}{x:V}{v:V9}(I:Inv X pins σ H s)(r:bE x v)(ty:tyV X.K T x H) :
  s.TypeIs v T/\∀ a,v=.ref a->∃ ob,s.heap.get? a=some ob/\ob.dict=none:=by
 cases x with
 | str z=>
  obtain ⟨t,rfl⟩:=r
  cases (show T="str" from ty)
  exact ⟨typeIs_str s z t,fun _ e=>nomatch e⟩
 | int i=>
  obtain ⟨t,rfl⟩:=r
  cases (show T="int" from ty)
  exact ⟨typeIs_int s i t,fun _ e=>nomatch e⟩
 | ref p=>
  cases r
  rcases ty with ⟨rfl,xs,h⟩|⟨rfl,o,b,k,d⟩|⟨rfl,b⟩|⟨rfl,S,n,b⟩
  .obtain ⟨j,_,g,_⟩:=I.list h
   refine ⟨g.isList.typeIs,fun a e=>?_⟩
   cases e
   obtain ⟨o,n,e,c,d,_⟩:=g
   exact ⟨o,e,d⟩
  .refine ⟨⟨o,I.kIn p o b,k⟩,fun a e=>?_⟩
   cases e
   exact ⟨o,I.kIn _ o b,d⟩
  .have z:∃ o,s.heap.get? p=some o/\o.ExactDict:=by
    rcases b with ⟨f,b⟩|⟨f,b⟩
    .obtain ⟨_,_,_,_,o,_,_,e,ex,_⟩:=I.hok p _ b
     exact ⟨o,e,ex⟩
    .obtain ⟨_,_,_,_,o,_,_,e,ex,_⟩:=I.hok p _ b
     exact ⟨o,e,ex⟩
   obtain ⟨o,e,ex⟩:=z
   refine ⟨⟨o,e,ex.1⟩,fun a e2=>?_⟩
   cases e2
   exact ⟨o,e,ex.2.1⟩
  .obtain ⟨o,_,_,_,e,ex,_⟩:=I.hok p _ b
   refine ⟨⟨o,e,ex.1⟩,fun a e2=>?_⟩
   cases e2
   exact ⟨o,e,ex.2.1⟩
 | _=>exact False.elim ty
def tBM(K:Frag)(T:String)(r:V->List V->Hp->VK->Prop)(to:TE)(t:TA):TE:=fun σ H Q=>to σ H fun x H1=>tyV K T x H1/\t σ H1 fun xs H2=>r x xs H2 Q
variable{o e:E1}{es:List E1}{to:TE}{t:TA}{name:Str}{apos cpos:Pos}{T id:String}{r:V->List V->Hp->VK->Prop}
theorem kF(m:PlainAttrs T)(slot:Slot T name id)(b:typeOf (.builtin id)=pure (.type "method_descriptor"))(l:MtR X id r)(g:PE X o to)(p:PA X (e::es) t)
  (a:attributeBase o name X.env (eval o X.env)=eval o X.env:=by rfl)
  (hfew:((backTo cpos (starEach (e::es) X.env)).all (fun x=>!x.1) && (backToKw cpos (keywordEach [] X.env)).all (fun x=>x.1.isSome)
   && decide ((e::es).length+([]:List Keyword).length+(if ([]:List Keyword).isEmpty then 0 else 1) < 30))=true:=by rfl)
  (hline:(apos.endLine == cpos.line)=true:=by rfl) (hs:starEach (e::es) X.env=(false,eval e X.env)::starEach es X.env:=by rfl) (hplain:(backTo cpos (starEach es X.env)).any (·.1)=false:=by rfl) :
  PE X (.Call (.Attribute o name apos) (e::es) [] cpos) (tBM X.K T r to t):=by
 intro pins s σ H Q I h
 refine wpAny_Call_method_late a hfew hline rfl (thn (g pins s σ H _ I h) fun v s1 c=>?_)
 obtain ⟨x,H1,d,r1,j,n⟩:=c
 obtain ⟨h1,h2⟩:=aQE d r1 j
 refine ⟨T,id,m,slot,b,h1,h2,?_⟩
 have f:=p cpos pins s1 σ H1 _ d n
 rw[hs] at f ⊢
 refine Calls.callWith_builtin (by show (false || (backTo cpos (starEach es X.env)).any (·.1))=false;rw[hplain]<;>rfl) (Calls.evalArgs_plain ?_)
 exact thn f fun us k ⟨vs,H2,q,r2,i⟩=>l pins k σ H2 x vs v us Q q r1 r2 i
end
def MtM(X:Cx)(id:String)(r:V->List V->Hp->VK->Prop):Prop:=
 ∀ (pins:List (Az×Obj)) (s:S9) (σ:St) (H:Hp) (x:V) (xs:List V) (v:V9) (us:List V9) (Q:VK),Inv X pins σ H s->bE x v->bJ xs us->r x xs H Q->
  wpAny (model X.prog X.w) X.A (call (.builtin id) (v::us)) (EP X pins σ Q) X.xe s
theorem bJ.one:∀ {x:V} {us:List V9},bJ [x] us->∃ u,us=[u]/\bE x u
 | _,_,.cons r .nil=>⟨_,rfl,r⟩
theorem bJ.reverse{xs:List V}{us:List V9}(h:bJ xs us):bJ xs.reverse us.reverse:=by
 induction h with
 | nil=>exact .nil
 | cons r t ih=>rw[GC,GC];exact bJ.append ih (.cons r .nil)
section
variable{X:Cx}{pins:List (Az×Obj)}{σ:St}{H:Hp}{s:S9}{l b:Az}{xs ys zs:List V}
theorem Inv.lset{a its':List V9}{n:Nat}{f:Array V9->Array V9}{t':Nat}(I:Inv X pins σ H s)(d:H l=some (.lst xs))
  (e:s.heap.get? l=some {cls:=.type "list",data:=.seq a.toArray n}) (hf:f a.toArray=its'.toArray) (hv:bJ ys its') (hz:ys.length<=sizeLine) :
  Inv X pins σ (upd H l (.lst ys)) {s with heap:=s.heap.update l (Obj.mapSeq f),toks:=t'}:=by
 have q:=PySem.IsL.update e f
 rw[hf] at q
 refine I.write (x:=l) (e:=l) (by rw[d];exact trivial) (.inl rfl) (fun g u b c=>(CJ s.heap (Obj.mapSeq f) (BZ b)).trans c) ⟨_,q⟩ ?_
 exact ⟨hz,its',_,hv,q⟩
theorem Inv.lnew{a:List V9}{t':Nat}(I:Inv X pins σ H s)(c:bJ ys a)(b:ys.length<=sizeLine) :
  Inv X pins σ (upd H s.heap.objs.size (.lst ys)) {s with heap:=s.heap.push {cls:=.type "list",data:=.seq a.toArray},toks:=t'}:=
 I.laid (fun _ _ q=>AI _ q) (AG _) ⟨b,a,0,c,BA _ rfl⟩
theorem Inv.fresh(I:Inv X pins σ H s):H s.heap.objs.size=none:=I.hok.fresh (AG _)
theorem Inv.lstM(I:Inv X pins σ H s)(a:H l=some (.lst xs)):xs.length<=sizeLine/\∃ (its:List V9) (n:Nat),bJ xs its/\xs.length=its.length/\s.heap.get? l=some {cls:=.type "list",data:=.seq its.toArray n}:=by
 obtain ⟨z,its,n,r,e⟩:=I.hok l _ a
 exact ⟨z,its,n,r,r.length,e⟩
end
section
variable{X:Cx}
def aCY:V->List V->Hp->VK->Prop:=fun x vs H Q=>∃ l xs y,x=.ref l/\vs=[y]/\H l=some (.lst xs)/\xs.length < sizeLine/\Q .non (upd H l (.lst (xs++[y])))
theorem gE:MtM X "list.append" aCY:=by
 intro pins s σ H x vs v us Q I d f h
 obtain ⟨l,xs,y,rfl,rfl,b,i,q⟩:=h
 cases d
 obtain ⟨u,rfl,c⟩:=f.one
 obtain ⟨z,a,n,r,g,e⟩:=I.lstM b
 refine G8 F.slot_list_append ⟨_,e,rfl⟩ F.entry_list_append (F.args_list_append_2 _ _) (PySem.list_append l a.toArray n u (by rw[BG];omega)) ⟨e,?_⟩
 refine ⟨.non,_,I.lset (its':=a++[u]) b e (by simp) (r.append (.cons c .nil)) ?_,rfl,q⟩
 rw[AK,A7]
 omega
theorem aMQ{α:Type}(xs:List α)(k:Nat):(List.replicate k xs).flatten.length=k * xs.length:=by
 induction k with
 | zero=>simp
 | succ k ih=>rw[B9,DC,AK,ih,Nat.succ_mul,Nat.add_comm]
end
end L2
namespace Att
open PySem PySem.W PySem.Calls PyProof.Rows
theorem uV{P:Params}{h:H9}:∀ (ns:List Int) (vs:List V9),WellAll P h vs (ns.map WData.int)->IntsAre vs ns:=by
 intro ns
 induction ns with
 | nil=>
  intro vs w
  rw[BJ] at w
  cases w
  exact .nil
 | cons n ns ih=>
  intro vs w
  rw[AL] at w
  cases w with
  | cons a b=>
   cases a
   exact .cons _ _ (ih _ b)
theorem aGS{l:OpenLaw}{n:Nat}(p:l.most=some n){P:Params}{h:H9}{args:List WData}{c:List V9}
  (b:l.row.toRowW.claim.pre args=true) (i:WellAll P h c args) :
  ∃ a vs ns,c=[Value.ref a]/\args=[WData.list (ns.map WData.int)]/\h.get? a=some {cls:=.type "list",data:=.seq vs.toArray}/\IntsAre vs ns/\ns.length<=n:=by
 have j:WShape.hasAll [] args [.list .int]=true:=(pre_splitW b).1
 have k:l.pre.holds [] {args:=args}=true:=(pre_splitW b).2
 obtain ⟨d,r,rfl,h1,h2⟩:=hasAllW_cons j
 obtain rfl:=hasAllW_nil h2
 obtain ⟨xs,rfl,m⟩:=hasW_list h1
 obtain ⟨ns,rfl⟩:=items_int m
 have e:ns.length<=n:=by
  unfold OpenLaw.pre at k
  have f:(WTm.not (.lt (.lit (.int (n:Int))) (.len (.arg 0)))).holds [] {args:=[.list (ns.map .int)]}=true:=by
   have f:=(holds_andW k).1
   rw[p] at f
   exact f
  have g:=condW_of f (w_not (w_lt w_lit (w_len_list (w_arg rfl))))
  rw[AB] at g
  refine Nat.le_of_not_lt fun q=>?_
  have o:(n:Int) < ((ns.length:Nat):Int):=by omega
  first
   | (rw[AZ o] at g;exact absurd g (by decide))
   | (simp at g;omega)
 cases i with
 | cons w1 w2=>
  cases w2
  cases w1 with
  | list ho hall=>exact ⟨_,_,ns,rfl,rfl,ho,uV ns _ hall,e⟩
theorem aGT(l:OpenLaw)(args:List WData):l.row.toRowW.claim.post args (.bool true) args=true:=
 postW_of (r:=l.row.toRowW) (X:=(true == true))
  (show WShape.has [] (.bool true) .bool=true by first|rfl|decide|simp[WShape.has,WShape.arms,WShape.armsAll])
  (show (WTm.eq .res (.lit (.bool true))).value [] {args:=args,res:=some (.bool true),after:=args}=some (.bool (true == true)) from w_eq_bool (w_res rfl) w_lit) rfl
theorem attach_call{l:OpenLaw}{n:Nat}{q:P9}{b:List Str}{t:(Str->O9 V9)->H9->Prop}{v:W9->H9->Prop}{d:DefRec}
  (I:l.most=some n) (m:d.params.defaults=[])
  (call:∀ (w:W9) (s₀ s₁:S9) (mg mb:Str->O9 V9) (fa:Az) (o:Obj) (pm cd doc:V9) (a:Az) (vs:List V9) (ns:List Int),
   Ground q b [] t w s₀ mg mb s₁.heap->v w s₁.heap->
   s₁.heap.get? fa=some o->o.data=.func (docDef d.name d.params d.body d.scope pm cd doc)->s₁.heap.CodeRec cd d.name->mg d.name=some (.ref fa)->
   s₁.heap.get? a=some {cls:=.type "list",data:=.seq vs.toArray}->IntsAre vs ns->ns.length<=n->s₁.gens = #[]->
   codeAny (model l.prog w) callerA (.call (.ref fa) ⟨[.ref a],[]⟩) (fun r s'=>r=.ok (.ret (.bool true))/\OldK s₁.heap s'.heap/\s'.os=s₁.os/\AllBare s'.gens) s₁) :
  WalkO q b t v l.row.toRowW d [] (fun f vs=>PySem.call f vs):=by
 intro w s₀ s₁ mg mb G Y fa o pm cd doc y kV C A j p i E args s J h u z k D
 obtain rfl:y=.none:=Dflts.none p m
 obtain rfl:kV=.none:=Dflts.noKw p
 obtain ⟨a,vs,ns,rfl,rfl,g,c,e⟩:=aGS I h k
 refine enter_call (EN (call w s₀ s₁ mg mb fa o pm cd doc a vs ns G Y C (fd_plain A) j i g c e E) fun r s' B=>?_)
 obtain ⟨rfl,h2,F,x⟩:=B
 exact ⟨.inl ⟨.bool true,.bool true,[],rfl,fun _=>rfl,.bool true,aGT l _,fun _=>⟨List.Pairwise.nil,fun _ H=>(nomatch H)⟩⟩,h2,F,x⟩
section
variable{prog:P9}{w:W9}{A:U9}{E:V9->S9->Prop}{s:S9}{K:Frag}
noncomputable def aWW(h:H9)(L d:Az):List (Az×Obj):=(List.range h.objs.size).filterMap fun a=>if a=L\/a=d then none else (h.get? a).map fun o=>(a,o)
end
end Att
namespace L2
open PySem PySem.Spec PyProof.Rows
theorem y6:∀ {vs:List V9} {ns:List Int},IntsAre vs ns->bJ (ns.map V.int) vs
 | _,_,.nil=>.nil
 | _,_,.cons n t h=>.cons ⟨t,rfl⟩ (y6 h)
abbrev KOf{K:Frag}{h:H9}(_:K.In h):Frag:=K
noncomputable def kX(s:Stmt)(j:Nat):Stmt:=match s with
 | .ClassDef _ _ _ body _ _ _ _ _ _ _=>body.getD j (.Pass ⟨0,0,0,0⟩)
 | _=>.Pass ⟨0,0,0,0⟩
noncomputable def dR(s:Stmt):Arguments:=match s with
 | .FunctionDef _ a _ _ _ _ _ _ _ _=>a
 | _=>{posonlyargs:=[],args:=[],vararg:=none,kwonlyargs:=[],kw_defaults:=[],kwarg:=none,defaults:=[]}
noncomputable def cG(s:Stmt):List Stmt:=match s with
 | .FunctionDef _ _ b _ _ _ _ _ _ _=>b
 | _=>[]
noncomputable def aK(s:Stmt):Scope:=match s with
 | .FunctionDef _ _ _ _ _ _ sc _ _ _=>sc
 | _=>{kind:=.function,names:=[],isGenerator:=false,isCoroutine:=false}
abbrev CX0:CXT:=fun _ _ _ _ _ _=>False
abbrev E0:XK:=fun _ _ _=>False
structure Fun(K:Frag)(x qual:Str)(st:Stmt)(f:Az)(fd:FuncData):Prop where
 ex:∃ (oc:V9) (od:Option Az) (kV doc pm:V9) (an:Option Az) (cdv ct:V9) (osl:Array (Option V9)),
  fd=PySem.W.fnOf x qual (dR st) (cG st) (aK st) .none kV doc pm an cdv ct/\K.lookup f=some ⟨oc,od,.func fd,osl⟩/\PySem.W.codeIn K cdv qual=true
 kp:PySem.W.keepIn K (.ref f)=true
section
variable{P:P9}{w:W9}{K:Frag}{mg:Str->O9 V9}{base:H9}
theorem Fun.ok{x qual:Str}{st:Stmt}{f:Az}{fd:FuncData}{N ps:List Str}{k:Nat}{sp:Sp}(F:Fun K x qual st f fd)(S:FnScope N ps (aK st))(len:∀ vs H Q E,sp vs H Q E->vs.length=ps.length)
  (a:∀ (cdv:V9) (A:U9) (outer:List Env) (s:S9) (H:Hp) (vs:List V) (Q:VK) (E:XK),Room k (A.deeper (envOfC qual (aK st) s.heap.objs.size f cdv))->sp vs H Q E->
   ∃ t,PSs (iS CX0 P w K mg base N qual (aK st) f cdv A outer s H E).nox (cG st) t/\t {nx:=fun _ H'=>Q .non H',rt:=Q} (start N vs) H):FnOk P w K mg base CX0 (k+1) f fd ps sp:=by
 obtain ⟨i,od,kV,doc,pm,j,cdv,ct,d,rfl,e,c⟩:=F.ex
 refine z7 e c S len fun A outer s H vs Q E g b=>?_
 obtain ⟨t,h,q⟩:=a cdv A outer s H vs Q E g b
 exact ⟨t,h.nox,q⟩
theorem Fun.binds{x qual:Str}{st:Stmt}{f:Az}{fd:FuncData}{ps:List Str}(F:Fun K x qual st f fd)
  (h:∀ (kV doc pm:V9) (an:O9 Az) (cdv ct:V9) (us:List V9),us.length=ps.length->bindArgs (PySem.W.fnOf x qual (dR st) (cG st) (aK st) .none kV doc pm an cdv ct) ⟨us,[]⟩=pure (ps.zip us)):fA K fd ps []:=by
 obtain ⟨c,od,kV,doc,pm,an,cdv,ct,a,rfl,d,b⟩:=F.ex
 exact .all (h kV doc pm an cdv ct)
theorem aAO{x qual:Str}{st:Stmt}{f:Az}{e:V9}{od d:O9 Az}{b:Array (O9 V9)}{kV doc pm a ct:V9}(l:K.lookup f=some ⟨e,od,.func (PySem.W.fnOf x qual (dR st) (cG st) (aK st) .none kV doc pm d a ct),b⟩)
 (c:PySem.W.codeIn K a qual=true) (k:PySem.W.keepIn K (.ref f)=true):Fun K x qual st f (PySem.W.fnOf x qual (dR st) (cG st) (aK st) .none kV doc pm d a ct):=⟨⟨e,od,kV,doc,pm,d,a,ct,b,rfl,l,c⟩,k⟩
end
section
variable{X:Cx}
theorem pv(i:Nat){x:Str}{pos:Pos}(a:X.N[i]? = some x:=by rfl)(hv:Vis X.env.scope x:=by first|exact Or.inl rfl|exact Or.inr (Or.inl rfl)|exact Or.inr (Or.inr rfl))(hd:(x == ("__debug__":Str))=false:=by decide)
 (hcd:(x == ("__classdict__":Str))=false:=by decide):PE X (.Name x pos) (jK i):=aPK a hv hd hcd
end
theorem w9{A B:Prop}(h:B):if false=true then A else B:=by
 rw[AC B7]
 exact h
theorem xA{A B:Prop}(h:A):if true=true then A else B:=by
 rw[AD rfl]
 exact h
def aN(H H':Hp):Prop:=∀ b o,H b=some o->H' b=some o
theorem aN.trans{H H1 H2:Hp}(a:aN H H1)(b:aN H1 H2):aN H H2:=fun c o h=>b c o (a c o h)
theorem aN.free{H H':Hp}(e:aN H H'){l:Az}(h:H' l=Option.none):H l=Option.none:=by
 cases q:H l with
 | none=>rfl
 | some o=>
  rw[e l o q] at h
  cases h
theorem aN.seq{K:Frag}{H H':Hp}{a:Az}{xs:List V}(e:aN H H')(h:SqL K H a xs):SqL K H' a xs:=by
 rcases h with (h|⟨o,h⟩)|h
 · exact .inl (.inl (e _ _ h))
 · exact .inl (.inr ⟨o, e _ _ h⟩)
 · exact .inr h
theorem aER{env:Env}:∀ (names:List (Str×NameKind)) (acc:List (Str×Az)),(∀ x∈names,x.2=.free->∃ c,env.cells.lookup x.1=some c)->
  (∀ x c,acc.lookup x=some c->env.cells.lookup x=some c)->
  ∃ cl,(forIn names acc fun x r=>(if (x.2 == NameKind.free)=true then (do let a <-cellOf env x.1;pure (ForInStep.yield ((x.1,a)::r))) else pure (ForInStep.yield r)):Sem (List (Str×Az)))=pure cl /\
   (∀ x c,cl.lookup x=some c->env.cells.lookup x=some c)/\(∀ x∈names,x.2=.free->∃ c,cl.lookup x.1=some c)/\∀ x c,acc.lookup x=some c->∃ c',cl.lookup x=some c':=by
 intro names
 induction names with
 | nil=>intro acc _ h;exact ⟨acc,rfl,h,fun x o=>absurd o (by simp),fun x c e=>⟨c,e⟩⟩
 | cons x r ih=>
  intro acc j h
  obtain ⟨n,k⟩:=x
  by_cases m:k=.free
  .subst m
   obtain ⟨c,i⟩:=j (n,.free) A0 rfl
   have i:env.cells.lookup n=some c:=i
   obtain ⟨cl,e1,e2,l,g⟩:=ih ((n,c)::acc) (fun y f=>j y (AN _ f)) (fun y d e=>by
    rw[BC] at e
    cases q:y == n with
    | true=>rw[q] at e;cases e;have:=FH q;subst this;exact i
    | false=>rw[q] at e;exact h y d e)
   refine ⟨cl,?_,e2,fun y f b=>?_,fun y d e=>?_⟩
   .rw[DS]
    simp only[DH,CG]
    unfold cellOf
    simp only[i,pure_bind]
    exact e1
   .rcases A2.mp f with z|z
    .subst z
     exact g n c (by rw[BC];simp)
    .exact l y z b
   .by_cases q:y=n
    .subst q;exact g y c (by rw[BC];simp)
    .exact g y d (by rw[BC,C7 q];exact e)
  .obtain ⟨cl,e1,e2,l,g⟩:=ih acc (fun y f=>j y (AN _ f)) h
   refine ⟨cl,?_,e2,fun y f b=>?_,g⟩
   .rw[DS]
    have:(k == NameKind.free)=false:=by simpa using m
    simp only[this,BF,CF,pure_bind]
    exact e1
   .rcases A2.mp f with z|z
    .subst z;exact absurd b m
    .exact l y z b
theorem uW{env:Env}{scope:Scope}(a:∀ x∈scope.names,x.2=.free->∃ c,env.cells.lookup x.1=some c) :
  ∃ cl,closureFor scope env=pure cl/\(∀ x c,cl.lookup x=some c->env.cells.lookup x=some c)/\∀ x∈scope.names,x.2=.free->∃ c,cl.lookup x.1=some c:=by
 obtain ⟨cl,e1,e2,b,_⟩:=aER scope.names [] a (fun x c e=>by simp at e)
 refine ⟨cl,?_,e2,b⟩
 unfold closureFor
 first
  | exact e1
  | (rw[<-e1];rfl)
  | (simp only[bind_pure];exact e1)
theorem gW{env:Env}:∀ {names:List (Str×NameKind)} {x:Str} {k:NameKind},
  (names.map fun (n,k)=>if (k == NameKind.free && env.scope.kind == .function && env.kindOf n == some .cell) then (n,NameKind.cell) else (n,k)).lookup x=some k->
  k=.cell\/k=.free->(∀ y∈names,y.2≠.cell)->(x,NameKind.free)∈names
 | [],_,_,h,_,_=>by simp at h
 | (n,k0)::r,x,k,h,hk,hc=>by
  have ih:=@gW env r x k
  rw[AL] at h
  dsimp only at h
  by_cases c:x=n
  .subst c
   by_cases a:(k0 == NameKind.free && env.scope.kind == .function && env.kindOf x == some .cell)=true
   .have:k0=.free:=by
     simp only[AV] at a
     exact FH a.1.1
    subst this
    exact A0
   .rw[AC a,BC] at h
    simp only[DH] at h
    cases h
    rcases hk with rfl|rfl
    .exact absurd rfl (hc _ A0)
    .exact A0
  .have b:(x == n)=false:=C7 c
   refine AN _ (ih ?_ hk fun y d=>hc y (AN _ d))
   split at h
   .rw[BC,b] at h;exact h
   .rw[BC,b] at h;exact h
noncomputable def gX(X:Cx)(N:List Str)(scope:Scope)(cl:List (Str×Az))(C:Az)(s:S9)(H:Hp)(fp:List Az):Cx where
 prog:=X.prog
 w:=X.w
 K:=X.K
 mg:=X.mg
 base:=X.base
 A:=X.A
 N:=N
 s₀:=s
 H₀:=H
 env:=compEnvC scope cl C X.env
 outer:=X.stack
 stack:=X.stack
 ex:=fp
 calm:=X.calm
 fn:=fun _=>false
 pn:=[]
 xe:=fun _ _=>False
inductive Caps(X:Cx)(scope:Scope):List Str->List (Option Nat)->Prop
 | nil:Caps X scope [] []
 | own {x:Str} {N:List Str} {js:List (Option Nat)} (t:Caps X scope N js):Caps X scope (x::N) (none::js)
 | cap {x:Str} {j:Nat} {N:List Str} {js:List (Option Nat)} (h1:X.N[j]? = some x) (h2:X.env.kindOf x=some .cell\/X.env.kindOf x=some .free)
  (h3:(relabel scope X.env).names.lookup x=some .cell\/(relabel scope X.env).names.lookup x=some .free) (t:Caps X scope N js):Caps X scope (x::N) (some j::js)
theorem Caps.len{X:Cx}{scope:Scope}{N:List Str}{js:List (O9 Nat)}(c:Caps X scope N js):js.length=N.length:=by
 induction c with
 | nil=>rfl
 | own _ ih=>simp[ih]
 | cap _ _ _ _ ih=>simp[ih]
theorem Caps.get{X:Cx}{scope:Scope}{N:List Str}{js:List (O9 Nat)}(c:Caps X scope N js):∀ {i j:Nat} {x:Str},js[i]? = some (some j)->N[i]? = some x->
  X.N[j]? = some x/\(X.env.kindOf x=some .cell\/X.env.kindOf x=some .free)/\((relabel scope X.env).names.lookup x=some .cell\/(relabel scope X.env).names.lookup x=some .free):=by
 induction c with
 | nil=>intro i j x h;simp at h
 | own _ ih=>
  intro i j x h1 h2
  cases i with
  | zero=>simp at h1
  | succ i=>exact ih (by simpa using h1) (by simpa using h2)
 | cap a b d _ ih=>
  intro i j x h1 h2
  cases i with
  | zero=>
   simp at h1 h2
   subst h1 h2
   exact ⟨a,b,d⟩
  | succ i=>exact ih (by simpa using h1) (by simpa using h2)
noncomputable def kY(js:List (O9 Nat))(σ:St):St:=js.map fun o=>o.bind fun j=>(σ[j]?).join
def dP(σ σ':St):Prop:=σ'.length=σ.length/\∀ (i:Nat) v,σ[i]? = some (some v)->σ'[i]? = some (some v)
theorem dP.refl(σ:St):dP σ σ:=⟨rfl,fun _ _ h=>h⟩
theorem dP.set{σ:St}{i:Nat}{v:O9 V}(h:σ[i]? = some none):dP σ (σ.set i v):=by
 refine ⟨C8,fun j u e=>?_⟩
 by_cases q:i=j
 · subst q; rw [h] at e; cases e
 · rw [BN q]; exact e
theorem dP.trans{a b c:St}(h:dP a b)(k:dP b c):dP a c:=⟨k.1.trans h.1,fun i v e=>k.2 i v (h.2 i v e)⟩
section
variable{X:Cx}
def PIf(X:Cx)(ifs:List E1)(t:TT):Prop:=
 ∀ (pins:List (Az×Obj)) (s:S9) (σ:St) (H:Hp) (Q:Bool->Hp->Prop),Inv X pins σ H s->t σ H Q->
  wpAny (model X.prog X.w) X.A (forIn ifs true fun c r=>if r=true then do let ok <-isTrue c X.env (eval c X.env);pure (ForInStep.yield ok) else pure (ForInStep.yield r)) (TP X pins σ Q) X.xe s
def aU2:TT:=fun _ H Q=>Q true H
theorem eM:PIf X [] aU2:=by
 intro pins s σ H Q I h
 show wpAny _ _ (pure true) _ _ s
 exact AE ⟨H,I,h⟩
end
def xB(X:Cx)(N:List Str)(scope:Scope)(js:List (O9 Nat))(tg elt:E1)(ifs:List E1)(σ:St)(x:V)(H:Hp)(R:O9 V->Hp->Prop):Prop:=
 ∀ (cl:List (Str×Az)) (C:Az) (s:S9) (H0:Hp) (fp:List Az),∃ (g:TG) (tt:TT) (te:TE),PG (gX X N scope cl C s H0 fp) tg g/\PIf (gX X N scope cl C s H0 fp) ifs tt/\PE (gX X N scope cl C s H0 fp) elt te /\
  ∀ σ0,dP (kY js σ) σ0->g x σ0 H fun σ2 H2=>dP (kY js σ) σ2/\tt σ2 H2 fun b H3=>if b=true then te σ2 H3 fun y H4=>R (some y) H4 else R none H3
def compK(X:Cx)(N:List Str)(scope:Scope)(js:List (O9 Nat))(tg elt:E1)(ifs:List E1)(σ:St)(Q:VK)(J:It)(H1:Hp):Prop:=∃ (n:Nat) (W:Nat->List V->Hp->Prop),n<=sizeLine/\W 0 [] H1 /\
 ∀ i ys H,W i ys H->ys.length<=i/\((J.stop i H/\∀ p,H p=none->Q (.ref p) (upd H p (.lst ys)))\/(J.go i H/\i < n/\∃ R:O9 V->Hp->Prop,(∀ y H2,R (some y) H2->W (i+1) (ys++[y]) H2)/\(∀ H2,R none H2->W (i+1) ys H2) /\
  ∀ x H',J.yld i H x H'->xB X N scope js tg elt ifs σ x H' R))
def uX(X:Cx)(N:List Str)(scope:Scope)(js:List (O9 Nat))(tg elt:E1)(ifs:List E1)(wi:TI):TE:=fun σ H Q=>wi σ H (compK X N scope js tg elt ifs σ Q)
section
variable{prog:P9}{w:W9}{A:U9}{R:Result->S9->Prop}{s:S9}
theorem aAP{i a b:E1}{g:List E1}{scope:Scope}{pos:Pos}{it j:V9}{env:Env}(I:Nat->S9->Prop)
  (p:∀ n s,I n s->wpAny (model prog w) A (pyNext it) (fun r s1=>match r with
   | none=>R (.ok .next) s1
   | some v=>wpAny (model prog w) A (letOwnedTupleGo a it v) (fun _ s1'=>wpAny (model prog w) A (assign a env v) (fun _ s2=>
    wpAny (model prog w) A (forIn g true fun c r=>if r=true then do let ok <-isTrue c env (eval c env);pure (ForInStep.yield ok) else pure (ForInStep.yield r)) (fun ok s3=>
     if ok=true then wpAny (model prog w) A (eval i env) (fun x s4=>
      wpAny (model prog w) A (call (.builtin "list.append") [j,x]) (fun _ s5=>∃ m,m < n/\I m s5) (fun _ _=>False) s4) (fun _ _=>False) s3
     else ∃ m,m < n/\I m s3) (fun _ _=>False) s2) (fun _ _=>False) s1') (fun _ _=>False) s1) (fun _ _=>False) s)
  (n:Nat) (h:I n s) :
  codeAny (model prog w) A (.compLoop (.ListComp i [⟨a,b,g,0⟩] scope pos) 0 it j env) R s:=by
 refine codeAny_loop rfl I (fun n s E=>?_) n h
 show wpAny _ A ((compTurn (.ListComp i [⟨a,b,g,0⟩] scope pos) 0 it j env).onRaise (fun x=>do noteFrame x env;theTreesLotGoes x)) _ _ s
 refine wpAny_noted ?_
 rw[compTurn_list]
 have F:∀ {α:Type} {t:Sem α} {Q:α->S9->Prop} {E':V9->S9->Prop} {s:S9},wpAny (model prog w) A t Q (fun _ _=>False) s->wpAny (model prog w) A t Q E' s:=fun h=>BO h (fun _ _ q=>q) fun _ _ f=>f.elim
 refine AA (CU (AA (BO (p n s E) (fun r y d=>?_) fun _ _ h'=>h'.elim)))
 cases r with
 | none=>exact AE d
 | some v=>
  refine AA (BO d (fun _ s1' u=>?_) fun _ _ f=>f.elim)
  refine AA (BO u (fun _ C k=>AA (BO k (fun ok D e=>?_) fun _ _ h'=>h'.elim)) fun _ _ h'=>h'.elim)
  cases ok with
  | false=>exact AE ⟨rfl,e⟩
  | true=>
   exact AA (AA (BO e (fun x z l=>AA (BO l (fun _ B o=>AE (AE ⟨rfl,o⟩)) fun _ _ h'=>h'.elim)) fun _ _ h'=>h'.elim))
end
theorem HOk.track{P:P9}{w:W9}{H:Hp}{h:H9}{a:Az}{o:HO}(x:HOk P w H h)(d:H a=none)(new:cF P w (upd H a o) h a o):HOk P w (upd H a o) h:=fun b u e=>by
 by_cases f:b=a
 .subst f;rw[aX] at e;cases e;exact new
 .rw[aJ f] at e
  exact (x b u e).stay (fun c v _ q=>q) (fun c q=>by rw[aJ (bL q d)];exact q) (fun c xs q=>by rw[aJ (bL q d)];exact q) fun c xs q=>by rw[aJ (bL q d)];exact q
section
variable{X:Cx}{pins:List (Az×Obj)}{σ:St}
structure CompEnd(X:Cx)(pins:List (Az×Obj))(σ:St)(D C:Az)(ys:List V)(H':Hp)(s':S9):Prop where
 inv:Inv X pins σ (upd H' D (.lst ys)) s'
 ns:∃ m,s'.heap.Ns C m
 fp:kW X pins (upd H' D (.lst ys)) C
 nD:H' D=none
theorem CompEnd.gone{D C:Az}{ys:List V}{H H':Hp}{s':S9}{c:H9}{a:St}(I:Inv X pins a H s')(d:kW X pins H C)(g:Heap.SameBut C s'.heap c):Inv X pins a H {s' with heap:=c}:=
 I.turned (it:=C) (t':=s'.toks) (fun b o f e=>(g.2 b f).trans e) d.1 d.2.1 d.2.2.2.1 d.2.2.2.2.1 d.2.2.2.2.2
theorem aAQ{prog:P9}{w:W9}{A:U9}{E:V9->S9->Prop}{s:S9}{l:Az}{items:Array V9}{nn:Nat}{x:V9}{Q:V9->S9->Prop}(e:s.heap.get? l=some {cls:=.type "list",dict:=none,data:=.seq items nn})(hz:items.size<=sizeLine)
  (hQ:∀ nn' h',h'.get? l=some {cls:=.type "list",dict:=none,data:=.seq (items.push x) nn'}->Heap.SameBut l s.heap h'->Q .none {s with heap:=h'}) :
  wpAny (model prog w) A (call (.builtin "list.append") [.ref l,x]) Q E s:=by
 refine G8 F.slot_list_append ⟨_,e,rfl⟩ F.entry_list_append (F.args_list_append_2 _ _) (PySem.list_append l items nn x (by omega)) ⟨e,?_⟩
 exact hQ _ _ (B3 _ e rfl) (EB ..)
theorem uY{N:List Str}{js:List (O9 Nat)}{scope:Scope}{tg ao ae:E1}{aj:List E1}{cl:List (Str×Az)}{pos:Pos}{it:Az}{M:List Az}{tn:Nat->H9->Prop}{J:It}{B:S9}{H2:Hp}{E:V9->S9->Prop}
  {RR:V9->Az->Result->S9->Prop} {Q:VK} (hc:X.calm=true) (ah:Caps X scope N js) (S:scope.kind=.function) (t:∀ y∈scope.names,y.2≠.cell)
  (f:∀ x c,cl.lookup x=some c->X.env.cells.lookup x=some c) (ad:∀ x∈scope.names,x.2=.free->∃ c,cl.lookup x.1=some c)
  (I:Inv X pins σ H2 B) (T:Turn X.prog X.w X.K tg J M it tn) (bc:tn 0 B.heap) (Z:∀ b∈M,kW X pins H2 b) (n:Nat) (W:Nat->List V->Hp->Prop) (hn:n<=sizeLine) (w0:W 0 [] H2)
  (av:∀ i ys H,W i ys H->ys.length<=i/\((J.stop i H/\∀ p,H p=none->Q (.ref p) (upd H p (.lst ys)))\/(J.go i H/\i < n/\∃ R:O9 V->Hp->Prop,(∀ y H2,R (some y) H2->W (i+1) (ys++[y]) H2)/\(∀ H2,R none H2->W (i+1) ys H2) /\
   ∀ x H',J.yld i H x H'->xB X N scope js tg ao aj σ x H' R)))
  (cb:∀ D C ys H' s',CompEnd X pins σ D C ys H' s'->Q (.ref D) (upd H' D (.lst ys))->RR (.ref D) C (.ok .next) s') :
  wpAny (model X.prog X.w) X.A (newList []) (fun acc s3=>wpAny (model X.prog X.w) X.A (newFunctionEnv scope X.env.globals cl [] X.env.qual none .none (some X.env)) (fun cenv s4=>
   codeAny (model X.prog X.w) X.A (.compStart (.ListComp ao [⟨tg,ae,aj,0⟩] scope pos) 0 (.ref it) acc {cenv with scope:=relabel scope X.env}) (RR acc cenv.locals) s4) E s3) E B:=by
 refine CW (wpAny_newFunctionEnv t (by intro y hy;simp at hy) (fun G F h=>?_) S)
 dsimp only at F h ⊢
 generalize aq:B.heap.push {cls:=.type "list",dict:=none,data:=.seq ([]:List V9).toArray}=Hh at F h ⊢
 have hC:Hh.objs.size=B.heap.objs.size+1:=by rw[<-aq,DI]
 have ac:B.heap.objs.size≠Hh.objs.size:=by rw[hC];exact BB (GM _)
 have O:B.heap.objs.size<=Hh.objs.size:=by rw[hC];exact EK _
 have U:∀ b o,B.heap.get? b=some o->G.get? b=some o:=fun b o e=>h.extBut b o (by rw[hC];exact BB (Nat.lt_succ_of_lt (AQ e))) (AI _ (aq▸AI _ e))
 have ap:G.get? B.heap.objs.size=some {cls:=.type "list",dict:=none,data:=.seq ([]:List V9).toArray}:=h.extBut _ _ ac (AI _ (aq▸BA _ rfl))
 have bg:tn 0 G:=T.keep _ _ _ bc fun b a o e=>U b o e
 have ag:∀ b∈M,b < B.heap.objs.size:=fun b a=>by
  obtain ⟨o,e,_⟩:=T.obj _ _ bc b a
  exact AQ e
 have au:∀ b∈frs X.stack,b < B.heap.objs.size:=fun b a=>by
  rcases A2.mp (I.stkSub b a) with z|z
  .rw[z];exact I.lt
  .refine Nat.lt_of_not_le fun bu=>I.nofs bu z
 have bd:∀ b∈M,b≠Hh.objs.size:=fun b a z=>B5 _ (A3 (ag b a) (z▸O))
 generalize hD:B.heap.objs.size=D at *
 generalize ci:Hh.objs.size=C at *
 let X':=gX X N scope cl C B H2 M
 have bi:X'.Ok:=by
  refine ⟨I.ok.mod,S,I.ok.glob,I.ok.blt,by show B.heap.objs.size<=C;rw[hD];exact O,fun x y c e1 e2=>I.ok.inj x y c (f x c e1) (f y c e2),fun x hx=>?_,fun x c z=>absurd (show false=true from z) B7,I.ok.hd,I.ok.frames,.inl rfl,fun b a=>?_,
   I.bs,BI I.ok.bsz I.sz,fun b o e a=>?_,fun b a z=>?_,I.stack,I.stkFree⟩
  .have hm:(x,NameKind.free)∈scope.names:=by
    rcases hx with z|z
    .exact gW (env:=X.env) z (.inl rfl) t
    .exact gW (env:=X.env) z (.inr rfl) t
   exact ad _ hm rfl
  .exact ⟨bd b a,fun x c e=>(Z b a).2.2.2.2.1 x c (f x c e)⟩
  .rcases (Z b a).2.2.2.1 with z|z
   .exact I.ok.noex b o e z
   .exact absurd (AQ (I.ok.bs b o e).1) (G9.mpr z)
  .rcases A2.mp (I.stkSub b z) with q|q
   .exact (Z b a).2.1 q
   .exact (Z b a).2.2.1 q
 have aw:(kY js σ).length=N.length:=by unfold kY;rw[AB,ah.len]
 have freeC:H2 C=none:=I.hok.fresh (by rw[hD];exact O)
 have P:H2 D=none:=I.hok.fresh (by rw[hD];exact AG _)
 have DnotFs:D∉frs X.stack:=fun z=>B5 _ (au D z)
 have DnotFp:D∉M:=fun z=>B5 _ (ag D z)
 have I0:∀ tk,Inv X' [] (kY js σ) H2 {B with heap:=G,toks:=tk}:=fun tk=>by
  refine ⟨bi,rfl,I.bare,Un.kept U,⟨_,F,fun i x v e1 e2 e3=>?_⟩,fun x c e=>?_,freeC,fun x c e=>I.freeC x c (f x c e),fun p L=>absurd L (by show ¬ p∈([]++[]:List (Az×Obj));simp),I.hok.kept U,aw⟩
  .unfold kY at e2
   rw[AH] at e2
   cases q:js[i]? with
   | none=>rw[q] at e2;cases e2
   | some o=>
    rw[q] at e2
    cases o with
    | none=>cases e2
    | some j=>
     have aa:(σ[j]?).join=some v:=BU e2
     obtain ⟨c1,c2,c3⟩:=ah.get q e1
     have e4:σ[j]? = some (some v):=by
      cases z:σ[j]? with
      | none=>rw[z] at aa;cases aa
      | some u=>rw[z] at aa;have:u=some v:=aa;rw[this]
     obtain ⟨m,hm,hl⟩:=I.loc
     have bq:Vis X.env.scope x:=by
      rcases c2 with z|z
      · exact .inr (.inl z)
      · exact .inr (.inr z)
     obtain ⟨u,r,l⟩:=hl j x v c1 e4 bq
     refine ⟨u,r,.inr ⟨c3,?_⟩⟩
     have lc:∃ c,X.env.cells.lookup x=some c/\B.heap.IsCell c (some u):=by
      rcases l with ⟨k,_⟩|⟨_,z⟩
      · rcases c2 with z | z <;> (rw [k] at z; cases z)
      · exact z
     obtain ⟨c,e5,o,ho,hd⟩:=lc
     have bz:(x,NameKind.free)∈scope.names:=by
      rcases c3 with z|z
      · exact gW (env := X.env) z (.inl rfl) t
      · exact gW (env := X.env) z (.inr rfl) t
     obtain ⟨c',e6⟩:=ad _ bz rfl
     have e7:=f _ _ e6
     rw[e5] at e7;cases e7
     exact ⟨c,e6,o,U c o ho,hd⟩
  .obtain ⟨v,o,ho,hd⟩:=I.cell x c (f x c e)
   exact ⟨v,o,U c o ho,hd⟩
 have af:∀ {H':Hp} {pl:List (Az×Obj)},(∀ b∈M,H' b=none)->(∀ b∈M,∀ p∈pl,p.1≠b)->∀ b∈M,kW X' pl H' b:=fun {H' pl} hn hpl b a=>by
  refine ⟨hn b a,bd b a,bi.exfs b a,.inl a,fun x c e=>(Z b a).2.2.2.2.1 x c (f x c e),fun p L=>hpl b a p ?_⟩
  have br:p∈[]++pl:=L
  simpa using br
 let LI:Nat->S9->Prop:=fun k s'=>∃ i ys its nn σ' H',k=n+1 - i/\i<=n/\W i ys H'/\tn i s'.heap/\(∀ b∈M,H' b=none)/\bJ ys its/\dP (kY js σ) σ' /\
  Inv X' [(D,{cls:=.type "list",dict:=none,data:=.seq its.toArray nn})] σ' H' s'
 have ai:∀ tk,codeAny (model X.prog X.w) X.A (.compLoop (.ListComp ao [⟨tg,ae,aj,0⟩] scope pos) 0 (.ref it) (.ref D) (compEnvC scope cl C X.env)) (RR (.ref D) C) {B with heap:=G,toks:=tk}:=by
  intro tk
  refine aAP LI ?_ (n+1) ⟨0,[],[],0,kY js σ,H2,rfl,CO _,w0,bg,fun b a=>(Z b a).1,.nil,dP.refl _,?_⟩
  .rintro k s3 ⟨i,ys,its,nn,σ3,H3,rfl,hin,w3,st3,fr3,r3,ks,I3⟩
   obtain ⟨bj,tr⟩:=av i ys H3 w3
   have be:=af (pl:=[(D,{cls:=.type "list",dict:=none,data:=.seq its.toArray nn})]) fr3 (fun b a p L z=>by
    rw[A4.mp L] at z
    exact DnotFp ((show D=b from z)▸a))
   rcases tr with ⟨stop,q⟩|⟨go,bf,RW,bp,bx,step⟩
   .refine thn (T.done X' rfl rfl rfl hc i _ s3 σ3 H3 _ I3 be st3 stop) fun r s4 s=>?_
    obtain ⟨hr,I4⟩:=s
    subst hr
    show RR (.ref D) C (.ok .next) s4
    obtain ⟨pe,pn,p1,p2,p3⟩:=I4.pin (D,{cls:=.type "list",dict:=none,data:=.seq its.toArray nn}) (by show _∈[]++_;simp)
    refine cb D C ys H3 s4 ?_ (q D pn)
    have ax:HOk X.prog X.w (upd H3 D (.lst ys)) s4.heap:=HOk.track I4.hok pn ⟨BI bj (BI hin hn),its,nn,r3,pe⟩
    have al:∀ b u,H2 b=some u->b≠D:=fun b u e z=>by rw[z,P] at e;cases e
    have bn:Un (frs X.stack) M H2 (upd H3 D (.lst ys)) B.heap s4.heap:=by
     have ub:=I4.base
     refine ⟨ub.keep,ub.slot,fun b o e ak hx=>?_,ub.there,fun b xs e=>?_,fun b o u e=>?_,fun b ps e=>?_⟩
     .rw[aJ (fun z=>by have:=AQ e;rw[hD,z] at this;exact B5 _ this)]
      exact ub.free b o e ak hx
     .rw[aJ (al b _ e)];exact ub.tups b xs e
     .rw[aJ (al b _ e)];exact ub.frzs b o u e
     .rw[aJ (al b _ e)];exact ub.tbls b ps e
    refine ⟨I.call' I4.os bn ax I4.bare fun b a=>⟨(Z b a).2.2.2.1,(Z b a).2.1,(Z b a).2.2.2.2.1,(Z b a).2.2.2.2.2⟩,?_,?_,pn⟩
    .obtain ⟨m,hm,_⟩:=I4.loc
     exact ⟨m,hm⟩
    .refine I.fpOk (by rw[hD];exact O) ?_
     rw[aJ (BZ ac)]
     exact I4.free
   .refine thn (T.item X' rfl rfl rfl hc i _ s3 σ3 H3 _ I3 be st3 go) fun r s4 s=>?_
    obtain ⟨u,hr,h4⟩:=s
    subst hr
    show wpAny _ _ (letOwnedTupleGo tg (.ref it) u) _ _ s4
    refine thn h4 fun _ s5 s=>?_
    obtain ⟨x,H5,I5,r5,y5,am,bw⟩:=s
    obtain ⟨g,tt,te,hg,ht,he,hq⟩:=step x H5 y5 cl C B H2 M
    have ba:=af (pl:=[(D,{cls:=.type "list",dict:=none,data:=.seq its.toArray nn})]) bw (fun b a p L z=>by
     rw[A4.mp L] at z
     exact DnotFp ((show D=b from z)▸a))
    have bo:=I5.pinned ba (T.obj _ _ am)
    refine thn (hg _ s5 σ3 H5 x u _ bo r5 (hq σ3 ks)) fun _ s6 s=>?_
    obtain ⟨Y,H6,I6,ay,q6⟩:=s
    refine thn (ht _ s6 Y H6 _ I6 q6) fun b s7 s=>?_
    obtain ⟨H7,I7,q7⟩:=s
    have stK:∀ {s':S9} {H':Hp} {σ':St},Inv X' ([(D,{cls:=.type "list",dict:=none,data:=.seq its.toArray nn})]++qG M s5.heap) σ' H' s'->tn (i+1) s'.heap/\(∀ b∈M,H' b=none):=fun {s' H' σ'} I'=>by
     refine ⟨T.keep _ _ _ am fun b a o e=>(I'.pin (b,o) (B2 _ (B2 _ (l7 a e)))).1,fun b a=>?_⟩
     obtain ⟨o,e,d⟩:=T.obj _ _ am b a
     exact (I'.pin (b,o) (B2 _ (B2 _ (l7 a e)))).2.1
    cases b with
    | false=>
     rw[AC B7] at q7 ⊢
     obtain ⟨a1,a2⟩:=stK I7
     exact ⟨n+1 - (i+1),by omega,i+1,ys,its,nn,Y,H7,rfl,bf,bx _ q7,a1,a2,r3,ay,I7.unpinned⟩
    | true=>
     rw[AD rfl] at q7 ⊢
     refine thn (he _ s7 Y H7 _ I7 q7) fun yv s8 s=>?_
     obtain ⟨y,H8,I8,r8,q8⟩:=s
     obtain ⟨a1,a2⟩:=stK I8
     have I8u:=I8.unpinned
     obtain ⟨pe,pn,p1,p2,p3⟩:=I8u.pin (D,{cls:=.type "list",dict:=none,data:=.seq its.toArray nn}) (by show _∈[]++_;simp)
     have cf:s8.heap.IsList D its.toArray:=PySem.IsL.isList pe
     have bv:its.length<=sizeLine:=by rw[<-r3.length];exact BI bj (BI hin hn)
     refine aAQ pe (by simpa using bv) fun ak h9 e9 az=>?_
     have I9:Inv X' [] Y H8 {s8 with heap:=h9,toks:=s8.toks}:=by
      refine Inv.turned (pins:=[]) (it:=D) (t':=s8.toks) (I8u.pins_of (pins':=[]) fun p L=>absurd L (by simp)) (fun b o a e=>(az.2 b a).trans e) pn ac (.inr (by show B.heap.objs.size<=D;rw[hD];exact AG _)) (fun x c e z=>?_) fun p L=>absurd L (by show ¬ p∈([]++[]:List (Az×Obj));simp)
      obtain ⟨v,o,ho,hd⟩:=I.cell x c (f x c e)
      have:=AQ ho
      rw[hD,z] at this
      exact B5 _ this
     refine ⟨n+1 - (i+1),by omega,i+1,ys++[y],its++[yv],ak,Y,H8,rfl,bf,bp _ _ q8,?_,a2,bJ.append r3 (.cons r8 .nil),ay,?_⟩
     .exact T.keep _ _ _ a1 fun b a o e=>(az.2 b (fun z=>DnotFp (z▸a))).trans e
     .refine I9.pins_of fun p L=>?_
      obtain rfl:=A4.mp L
      exact ⟨by simpa using e9,pn,p1,p2,by simp⟩
  .refine (I0 tk).pins_of fun p L=>?_
   obtain rfl:=A4.mp L
   exact ⟨ap,P,ac,DnotFs,by simp⟩
 exact codeAny_compStart_list (ai _) (T.self X.A 0 _ _ _ bg (ai _))
noncomputable def eW(names:List (Str×NameKind))(outer:Str->O9 NameKind):Bool:=
 names.all (fun y=>y.2 != .cell) && names.all (fun y=>y.2 != .local || names.lookup y.1 == some .local) && names.all (fun y=>y.2 != .free || outer y.1 == some .cell || outer y.1 == some .free)
theorem eW.cell{names:List (Str×NameKind)}{outer:Str->O9 NameKind}(h:eW names outer=true):∀ y∈names,y.2≠.cell:=fun y a=>by
 unfold eW at h
 simp only[AV,CS] at h
 simpa using h.1.1 y a
theorem eW.names{names:List (Str×NameKind)}{outer:Str->O9 NameKind}(h:eW names outer=true):∀ y∈names,y.2=.local->names.lookup y.1=some .local:=fun y a e=>by
 unfold eW at h
 simp only[AV,CS] at h
 have:=h.1.2 y a
 rw[e] at this
 simpa using this
theorem eW.free{names:List (Str×NameKind)}{outer:Str->O9 NameKind}(h:eW names outer=true):∀ y∈names,y.2=.free->outer y.1=some .cell\/outer y.1=some .free:=fun y a e=>by
 unfold eW at h
 simp only[AV,CS] at h
 have:=h.2 y a
 rw[e] at this
 simpa using this
theorem j7{N:List Str}{js:List (O9 Nat)}{scope:Scope}{tg d a:E1}{c:List E1}{pos:Pos}{l:TI}(p:X.calm=true)(e:Caps X scope N js)(hok:eW scope.names X.env.kindOf=true)
  (hi:PI X tg a l) (b:scope.kind=.function:=by rfl) (hs:∀ x,foldedSetIterable a X.env x=pure x:=by intro _;rfl) :
  PE X (.ListComp d [⟨tg,a,c,0⟩] scope pos) (uX X N scope js tg d c l):=by
 intro pins s σ H Q I h
 obtain ⟨cl,e1,e2,E⟩:=uW (env:=X.env) (scope:=scope) fun x u y=>I.ok.has _ (eW.free hok x u y)
 rw[eval_ListComp]
 refine GN (use:=none) rfl hs e1 b (eW.names hok) (thn (hi pins s σ H _ I h) fun v s1 h1=>thn h1 fun r G h2=>?_)
 obtain ⟨it,fp,K,J,H2,rfl,F,T,i,o,n,W,B,z,f⟩:=h2
 refine uY (RR:=fun k C=>compPost (model X.prog X.w) X.A X.xe none (EP X pins σ Q) k C) (Q:=Q) p e b (eW.cell hok) e2 E F T i o n W B z f ?_
 intro D C ys H' s' g q
 obtain ⟨m,t⟩:=g.ns
 exact ⟨m,t,fun h' j=>⟨.ref D,_,CompEnd.gone (D:=D) (ys:=ys) (H':=H') g.inv g.fp j,rfl,q⟩⟩
theorem kG{i:Nat}{x:Str}{N:List Str}{js:List (O9 Nat)}{scope:Scope}{tg f b:E1}{d:List E1}{pos pos' g:Pos}{G:TI}(hN:X.N.Nodup)(p:X.N[i]? = some x)(hx:Loc X.env.scope x)
  (t:swapsWith (.ListComp f [⟨tg,b,d,0⟩] scope pos) (some (.Name x pos')) g.line X.env=pure true) (V:X.calm=true) (l:Caps X scope N js) (hok:eW scope.names X.env.kindOf=true)
  (hi:PI X tg b G) (c:scope.kind=.function:=by rfl) (r:X.fn x=true\/X.env.scope.names.lookup x=some .local:=by exact .inl rfl) (hs:∀ x,foldedSetIterable b X.env x=pure x:=by intro _;rfl) :
  PS X (.Assign [.Name x pos'] (.ListComp f [⟨tg,b,d,0⟩] scope pos) g) (lT (uX X N scope js tg f d G) (kE i)):=by
 intro pins s σ H D I h
 obtain ⟨cl,e1,e2,R⟩:=uW (env:=X.env) (scope:=scope) fun x hx r=>I.ok.has _ (eW.free hok x hx r)
 rw[exec_Assign_Name_used _ _ _ _ t]
 refine AA (CU (AA ?_))
 show wpAny _ X.A (do let _ <-comprehension (.ListComp f [⟨tg,b,d,0⟩] scope pos) scope X.env _ (newList []) false (eval b X.env) (some (assign (.Name x pos') X.env))) _ _ s
 refine AA (BO (GN (use:=some (assign (.Name x pos') X.env)) (Q:=fun _ s'=>SP X pins D .next s') rfl hs e1 c (eW.names hok)
  (thn (hi pins s σ H _ I h) fun v s1 h1=>thn h1 fun Y s2 h2=>?_)) (fun _ s' U=>AE (AE U)) fun _ _ e=>e)
 obtain ⟨it,fp,tn,J,H2,rfl,S,T,o,K,n,W,hn,O,j⟩:=h2
 refine uY (RR:=fun F C=>compPost (model X.prog X.w) X.A X.xe (some (assign (.Name x pos') X.env)) (fun _ s'=>SP X pins D .next s') F C) (Q:=fun v H'=>D.nx (σ.set i (some v)) H') V l c (eW.cell hok) e2 R S T o K n W hn O j ?_
 intro L C ys H' s' k q
 show wpAny _ X.A (assign (.Name x pos') X.env (.ref L)) _ _ s'
 refine wpAny_assign_Name (yX (v:=.ref L) k.inv hN p hx rfl (fun P u sb=>?_) r)
 obtain ⟨a,B,ha⟩:=sb
 have y:C≠a:=by
  rcases ha with z|z
  · rw [z]; exact k.fp.2.1
  · exact fun M => k.fp.2.2.2.2.1 x a z M.symm
 obtain ⟨m,Z⟩:=k.ns
 exact ⟨m,Z.sameBut B y,fun h' E=>⟨_,_,CompEnd.gone (D:=L) (ys:=ys) (H':=H') u k.fp E,q⟩⟩
end
noncomputable def aLM(W:Nat->List V->Hp->Prop)(i:Nat)(ys:List V):O9 V->Hp->Prop
 | some y,H=>W (i+1) (ys++[y]) H
 | none,H=>W (i+1) ys H
theorem aMR{X:Cx}{J:It}{N:List Str}{scope:Scope}{js:List (O9 Nat)}{tg b:E1}{c:List E1}{σ:St}{Q:VK}{n:Nat}{H1:Hp}(W:Nat->List V->Hp->Prop)(j:n<=sizeLine)(h:W 0 [] H1)
  (g:∀ i ys H,i<=n->W i ys H->ys.length<=i) (d:∀ i ys H,i < n->W i ys H->J.go i H) (f:∀ ys H,W n ys H->J.stop n H)
  (step:∀ i x ys H H',i < n->W i ys H->J.yld i H x H'->xB X N scope js tg b c σ x H' (aLM W i ys))
  (done:∀ ys H,W n ys H->∀ p,H p=none->Q (.ref p) (upd H p (.lst ys))) :
  compK X N scope js tg b c σ Q J H1:=by
 refine ⟨n,fun i ys H=>i<=n/\W i ys H,j,⟨CO _,h⟩,?_⟩
 rintro i ys H ⟨hi,w⟩
 refine ⟨g i ys H hi w,?_⟩
 by_cases a:i < n
 .exact .inr ⟨d i ys H a w,a,aLM W i ys,fun y H2 q=>⟨a,q⟩,fun H2 q=>⟨a,q⟩,fun x H' y=>step i x ys H H' a w y⟩
 .have e:i=n:=by omega
  subst e
  exact .inl ⟨f ys H w,done ys H w⟩
mutual
inductive DatV(K:Frag)(H:Hp):V->Dz->Prop
 | non:DatV K H .non .none
 | bl (b:Bool):DatV K H (.bl b) (.bool b)
 | int (i:Int):DatV K H (.int i) (.int i)
 | str (x:Str):DatV K H (.str x) (.str x)
 | lst {a:Az} {xs:List V} {ds:List Dz}:SqL K H a xs->DatVs K H xs ds->DatV K H (.ref a) (.list ds)
 | tup {a:Az} {xs:List V} {ds:List Dz}:SqT K H a xs->DatVs K H xs ds->DatV K H (.ref a) (.tuple ds)
 | pl {a:Az} {ns:List Int}:H a=some (.lst (ns.map V.int))->DatV K H (.ref a) (.dict [(.list (ns.map .int),.none)])
inductive DatVs(K:Frag)(H:Hp):List V->List Dz->Prop
 | nil:DatVs K H [] []
 | cons {x:V} {d:Dz} {xs:List V} {ds:List Dz}:DatV K H x d->DatVs K H xs ds->DatVs K H (x::xs) (d::ds)
end
section
variable{X:Cx}{pins:List (Az×Obj)}{σ:St}{H:Hp}{s:S9}
mutual
theorem DatV.reads(I:Inv X pins σ H s):∀ {x:V} {d:Dz} {u:V9},DatV X.K H x d->d.canLay0=true->bE x u->∃ as,Reads s.heap u d as
 | _,_,_,.non,_,r=>by cases r;exact ⟨_,.none⟩
 | _,_,_,.bl b,_,r=>by cases r;exact ⟨_,.bool b⟩
 | _,_,_,.int i,_,r=>by obtain ⟨t,rfl⟩:=r;exact ⟨_,.int i t⟩
 | _,_,_,.str x,_,r=>by obtain ⟨t,rfl⟩:=r;exact ⟨_,.str x t⟩
 | _,_,_,.pl _,y,_=>by cases y
 | _,_,_,.lst h ds,y,r=>by
  cases r
  obtain ⟨a,f,⟨o,e,c,n,d⟩,g⟩:∃ a:List V9,bJ _ a/\s.heap.IsList _ a.toArray/\_:=by
   obtain ⟨a,f,p,g⟩:=I.list h
   exact ⟨a,f,p.isList,g⟩
  obtain ⟨as,q⟩:=DatVs.reads I ds y f
  exact ⟨_,.list e c d (by simpa using q)⟩
 | _,_,_,.tup h ds,y,r=>by
  cases r
  obtain ⟨a,f,p,g⟩:=I.tuple h
  obtain ⟨o,e,c,n,d⟩:=p
  obtain ⟨as,q⟩:=DatVs.reads I ds y f
  exact ⟨_,.tuple e c d (by simpa using q)⟩
theorem DatVs.reads(I:Inv X pins σ H s):∀ {xs:List V} {ds:List Dz} {us:List V9},DatVs X.K H xs ds->PyData.canLayAll0 ds=true->bJ xs us->∃ as,ReadsAll s.heap us ds as
 | _,_,_,.nil,_,r=>by cases r;exact ⟨_,.nil⟩
 | _,_,_,.cons (d:=d0) (ds:=ds0) h t,y,r=>by
  have a:(d0.canLay0 && PyData.canLayAll0 ds0)=true:=y
  rw[AV] at a
  cases r with
  | cons r1 r2=>
   obtain ⟨as,q⟩:=DatV.reads I h a.1 r1
   obtain ⟨bs,b⟩:=DatVs.reads I t a.2 r2
   exact ⟨_,.cons q b⟩
end
theorem sA{d:Dz}(h:SeqAt.shaped d=true):d.canLay0=true:=by
 have h':(d.canLay0 && decide (d.depth<=64))=true:=h
 rw[AV] at h'
 exact h'.1
theorem aQF(j:X.A.units+64 < cLine):OpR X (compareOp .Eq) (fun x y H Q=>∃ d e,DatV X.K H x d/\DatV X.K H y e/\SeqAt.shaped d=true/\SeqAt.shaped e=true/\Q (.bl (PyData.eqv d e)) H):=by
 intro pins s σ H x y u v Q I i f h
 obtain ⟨d,e,c,g,a,b,q⟩:=h
 obtain ⟨k,r1⟩:=c.reads I (sA a) i
 obtain ⟨bs,r2⟩:=g.reads I (sA b) f
 exact eq_dataH r1 r2 a b j ⟨.bl _,H,I,rfl,q⟩
theorem aQG(j:X.A.units+64 < cLine):OpR X (compareOp .NotEq) (fun x y H Q=>∃ d e,DatV X.K H x d/\DatV X.K H y e/\SeqAt.shaped d=true/\SeqAt.shaped e=true/\Q (.bl (!PyData.eqv d e)) H):=by
 intro pins s σ H x y u v Q I i f h
 obtain ⟨d,e,c,g,a,b,q⟩:=h
 obtain ⟨k,r1⟩:=c.reads I (sA a) i
 obtain ⟨bs,r2⟩:=g.reads I (sA b) f
 exact ne_dataH r1 r2 a b j ⟨.bl _,H,I,rfl,q⟩
end
theorem SqL.same{K:Frag}{H H':Hp}{a:Az}{xs:List V}(e:aN H H')(h:SqL K H a xs):SqL K H' a xs:=aN.seq e h
theorem SqT.same{K:Frag}{H H':Hp}{a:Az}{xs:List V}(e:aN H H')(h:SqT K H a xs):SqT K H' a xs:=by
 rcases h with (h|⟨o,h⟩)|h
 · exact .inl (.inl (e _ _ h))
 · exact .inl (.inr ⟨o, e _ _ h⟩)
 · exact .inr h
theorem DatV.same{K:Frag}{H H':Hp}(e:aN H H'){x:V}{d:Dz}(h:DatV K H x d):DatV K H' x d:=
 DatV.rec (motive_1:=fun x d _=>DatV K H' x d) (motive_2:=fun xs ds _=>DatVs K H' xs ds) .non .bl .int .str (fun h _ q=>.lst (h.same e) q) (fun h _ q=>.tup (h.same e) q) (fun h=>.pl (e _ _ h)) .nil (fun _ _ p q=>.cons p q) h
theorem DatVs.same{K:Frag}{H H':Hp}(e:aN H H'){xs:List V}{ds:List Dz}(h:DatVs K H xs ds):DatVs K H' xs ds:=
 DatVs.rec (motive_1:=fun x d _=>DatV K H' x d) (motive_2:=fun xs ds _=>DatVs K H' xs ds) .non .bl .int .str (fun h _ q=>.lst (h.same e) q) (fun h _ q=>.tup (h.same e) q) (fun h=>.pl (e _ _ h)) .nil (fun _ _ p q=>.cons p q) h
theorem aN.upd{H:Hp}{a:Az}{o:HO}(h:H a=none):aN H (upd H a o):=fun b u e=>by rw[aJ (bL e h)];exact e
theorem DatVs.length{K:Frag}{H:Hp}:∀ {xs:List V} {ds:List Dz},DatVs K H xs ds->xs.length=ds.length
 | _,_,.nil=>rfl
 | _,_,.cons _ t=>by simp[DatVs.length t]
theorem DatVs.append{K:Frag}{H:Hp}:∀ {xs ys:List V} {ds es:List Dz},DatVs K H xs ds->DatVs K H ys es->DatVs K H (xs++ys) (ds++es)
 | _,_,_,_,.nil,h=>h
 | _,_,_,_,.cons a t,h=>.cons a (DatVs.append t h)
theorem DatVs.get{K:Frag}{H:Hp}:∀ {xs:List V} {ds:List Dz} {i:Nat} {x:V},DatVs K H xs ds->xs[i]? = some x->∃ d,ds[i]? = some d/\DatV K H x d
 | _,_,_,_,.nil,e=>by simp at e
 | _,_,0,_,.cons a t,e=>by simp at e;subst e;exact ⟨_,by simp,a⟩
 | _,_,i+1,x,.cons a t,e=>by
  obtain ⟨d,h1,h2⟩:=DatVs.get (i:=i) (x:=x) t (by simpa using e)
  exact ⟨d,by simpa using h1,h2⟩
theorem DatVs.get'{K:Frag}{H:Hp}:∀ {xs:List V} {ds:List Dz} {i:Nat} {d:Dz},DatVs K H xs ds->ds[i]? = some d->∃ x,xs[i]? = some x/\DatV K H x d
 | _,_,_,_,.nil,e=>by simp at e
 | _,_,0,_,.cons a t,e=>by simp at e;subst e;exact ⟨_,by simp,a⟩
 | _,_,i+1,x,.cons a t,e=>by
  obtain ⟨d,h1,h2⟩:=DatVs.get' (i:=i) (d:=x) t (by simpa using e)
  exact ⟨d,by simpa using h1,h2⟩
theorem DatVs.drop{K:Frag}{H:Hp}:∀ {xs:List V} {ds:List Dz} (n:Nat),DatVs K H xs ds->DatVs K H (xs.drop n) (ds.drop n)
 | _,_,0,h=>h
 | _,_,_+1,.nil=>.nil
 | _,_,n+1,.cons _ t=>DatVs.drop n t
theorem DatVs.take{K:Frag}{H:Hp}:∀ {xs:List V} {ds:List Dz} (n:Nat),DatVs K H xs ds->DatVs K H (xs.take n) (ds.take n)
 | _,_,0,_=>.nil
 | _,_,_+1,.nil=>.nil
 | _,_,n+1,.cons a t=>.cons a (DatVs.take n t)
def Ite(K:Frag)(a:Az):It:=
 ⟨fun i H=>∃ xs x,SqL K H a xs/\xs[i]? = some x,fun i H x H'=>∃ p v,H p=none/\x=.ref p/\H'=upd H p (.tup [.int i,v])/\∀ xs,SqL K H a xs->xs[i]? = some v,fun i H=>∃ xs,SqL K H a xs/\xs.length<=i⟩
theorem aGU{P:P9}{w:W9}{K:Frag}{es:List E1}{k1}{J:Pos}(a e it:Az)(F:e≠it):Turn P w K (.Tuple es k1 J) (Ite K a) [e,it] e (fun i h=>(∃ old,IsEnum h e it i old)/\h.IsListIter it a i) where
 mem:=by simp
 obj:=fun i h st b j=>by
  obtain ⟨⟨old,s1⟩,o,e2,c,d⟩:=st
  rcases A2.mp j with z|z
  .subst z
   exact ⟨_,s1,fun v z=>by
    have z':Data.fields _=Data.cell v:=z
    cases z'⟩
  .obtain rfl:b=it:=by simpa using z
   exact ⟨o,e2,fun v z=>by rw[d] at z;cases z⟩
 keep:=fun i h h' st k=>by
  obtain ⟨⟨old,s1⟩,y⟩:=st
  exact ⟨⟨old,k e (by simp) _ s1⟩,y.at fun o q=>k it (by simp) o q⟩
 item:=by
  intro X Q U hK f i pins s σ H E I L st hg
  subst Q U hK
  obtain ⟨⟨old,s1⟩,y⟩:=st
  obtain ⟨xs,x,N,hx⟩:=hg
  obtain ⟨T,Z,p,hz⟩:=I.list N
  obtain ⟨u,hu,ru⟩:=Z.get hx
  obtain ⟨W,f1,f2,f3,f4,f5⟩:=L e (by simp)
  obtain ⟨D,M,g2,S,O,g5⟩:=L it (by simp)
  refine wpAny_pyNext_enum_item s1 y p.isList (x:=u) (by simpa using hu) F fun h' so si st ac kp=>?_
  refine ⟨_,rfl,F7 so fun h2 se sb=>?_⟩
  have C:s.heap.objs.size≠e:=DL (AQ s1)
  have aa:h2.get? s.heap.objs.size=some {cls:=.type "tuple",data:=.seq #[.int i s.toks,u]}:=(sb.2 _ C).trans st
  have V:H s.heap.objs.size=none:=I.hok.fresh (AG _)
  have g:∀ b o,b≠e->b≠it->s.heap.get? b=some o->h2.get? b=some o:=fun b o h1 R q=>(sb.2 b h1).trans (kp b o h1 R q)
  have B:HOk X.prog X.w H h2:=fun b A q=>by
   refine (I.hok b A q).stay (fun c v f q'=>g c v ?_ ?_ q') (fun _ q=>q) (fun _ _ q=>q) fun _ _ q=>q
   .rcases f with z|z
    .rw[z];exact fun t=>by rw[t,W] at q;cases q
    .exact fun t=>by rw[t,W] at z;cases z
   .rcases f with z|z
    .rw[z];exact fun t=>by rw[t,D] at q;cases q
    .exact fun t=>by rw[t,D] at z;cases z
  have G:HOk X.prog X.w (upd H s.heap.objs.size (.tup [.int i,x])) h2:=HOk.track B V ⟨by show 2<=sizeLine;decide,[.int i s.toks,u],.cons ⟨_,rfl⟩ (.cons ru .nil),⟨_,aa,⟨rfl,rfl⟩,_,rfl⟩⟩
  have l:∀ b A,H b=some A->b≠s.heap.objs.size:=fun b A q=>bL q V
  have I2:Inv X pins σ (upd H s.heap.objs.size (.tup [.int i,x])) {s with heap:=h2,gens:=s.gens,drawn:=s.drawn,toks:=s.toks+1}:=by
   refine I.step (ch:=[e,it]) (fun b j=>?_) (fun b o _ _ f q _=>g b o (fun z=>f (by simp[z])) (fun z=>f (by simp[z])) q) (fun b o _ _ f q _=>⟨o.slots,g b o (fun z=>f (by simp[z])) (fun z=>f (by simp[z])) q⟩)
    (fun b o _ q n=>by rw[aJ (BB (AQ q))];exact n) (fun b o f q=>⟨o,g b o (fun z=>f (by simp[z])) (fun z=>f (by simp[z])) q⟩) (fun b ys q=>by rw[aJ (l b _ q)];exact q) (fun b o A q=>by rw[aJ (l b _ q)];exact q)
    (fun b ps q=>by rw[aJ (l b _ q)];exact q) (fun m hm=>?_) G I.bare
   .rcases A2.mp j with z|z
    .subst z;exact ⟨f3,f1,f4,f5⟩
    .obtain rfl:b=it:=by simpa using z
     exact ⟨S,M,O,g5⟩
   .obtain ⟨o,Y,ep,ho,r⟩:=hm
    exact ⟨o,Y,ep,g _ o (BZ f1) (BZ M) ho,r⟩
  refine ⟨.ref s.heap.objs.size,_,I2,rfl,⟨_,x,V,rfl,rfl,fun ys hy=>by rw[I.list_inj hy N];exact hx⟩,⟨⟨u,by simpa using se⟩,si.at fun o q=>(sb.2 it F.symm).trans q⟩,fun b j=>?_⟩
  rcases A2.mp j with z|z
  .subst z;rw[aJ (BZ C)];exact W
  .obtain rfl:b=it:=by simpa using z
   obtain ⟨o,q,_⟩:=y
   rw[aJ (BB (AQ q))];exact D
 done:=by
  intro X Q U hK f i pins s σ H E I L st hg
  subst Q U hK
  obtain ⟨⟨old,s1⟩,y⟩:=st
  obtain ⟨xs,N,hx⟩:=hg
  obtain ⟨T,Z,p,hz⟩:=I.list N
  obtain ⟨D,M,g2,S,O,g5⟩:=L it (by simp)
  have hl:=Z.length
  exact wpAny_pyNext_enum_end (I.ok.hd f) s1 y p.isList (by simp;omega) fun h' eb=>⟨rfl,I.turned (t':=s.toks) (fun b o j q=>eb b o j q) D M S O g5⟩
 self:=fun _ _ _ _ _ st h=>E7 st.1.choose_spec h
def aLN(K:Frag)(ta:TA):TI:=fun σ H R=>ta σ H fun vs H1=>∃ a,vs=[.ref a]/\(∃ xs,SqL K H1 a xs)/\R (Ite K a) H1
theorem aMS{X:Cx}{es:List E1}{k1}{d:Pos}{a:E1}{ta:TA}{p pos:Pos}(o:Gl X "enumerate")(t:X.mg "enumerate"=none)(B:PA X [a] ta)(y:starEach [a] X.env=[(false,eval a X.env)]:=by rfl) :
  PI X (.Tuple es k1 d) (.Call (.Name "enumerate" p) [a] [] pos) (aLN X.K ta):=by
 intro pins s σ H R I h
 refine Call_ (n6 I o t FX (DM (thn (B pos pins s σ H _ I h) fun us s1 f=>?_) y rfl))
 obtain ⟨vs,H1,c,r1,w⟩:=f
 obtain ⟨j,e,⟨xs,i⟩,q⟩:=w
 subst e
 obtain ⟨u,rfl,l⟩:=nB r1
 cases l
 obtain ⟨v,D,r,C⟩:=c.list i
 refine call_enumerate_list r.isList fun h' g x n k=>?_
 have A:Inv X pins σ H1 {s1 with heap:=h'}:=c.kept (t':=s1.toks) k
 refine E7 g ?_
 refine ⟨s1.heap.objs.size+1,[s1.heap.objs.size+1,s1.heap.objs.size],_,_,H1,rfl,A,aGU j _ _ (DL (GM _)),⟨⟨_,g⟩,x⟩,fun b m=>?_,q⟩
 rcases A2.mp m with z|z
 .subst z
  exact c.fpOk (EK _) (c.hok.fresh (EK _))
 .obtain rfl:b=s1.heap.objs.size:=by simpa using z
  exact c.fpOk (AG _) (c.hok.fresh (AG _))
end L2
namespace SX
open PySem PySem.W
section
variable{prog:P9}{w:W9}{A:U9}{E:V9->S9->Prop}{h:H9}{g:Array GenState}{d:Drawn}{t:Nat}{os:OsState}{K:Frag}
variable{nm q:Str}{C N:Az}{bs bm bmB:List V9}{hdct:Bool}{sn:List Str}{sub:List V9}{ab:Bool}{col:O9 Bool}{dd:O9 Az}{k0 k1 k2 k3 k5:O9 V9}{B newId initId:String}
structure BmOk(B:String)(bm:List V9):Prop where
 hasB:bm.contains (.type B)=true
 hasBase:bm.contains (.type "BaseException")=true
 noAttr:bm.contains (.type "AttributeError")=false
 noName:bm.contains (.type "NameError")=false
theorem aES(F:ExcBaseFacts B newId initId bmB)(T:BmOk B bm){M:Model}{rest:List V9}{Q:Unit->S9->Prop}(b:h.get? C=some (excClassObj nm q C N bs bm hdct sn sub ab col dd k0 k1 k2 k3 k5 newId))
  (e:Q () ⟨h,g,d,t,os⟩):wpAny M A (checkBuiltinCall newId ⟨.ref C::rest,[]⟩) Q E ⟨h,g,d,t,os⟩:=by
 have a:(Value.ref C::bm).contains (.type B)=true:=by rw[DP,T.hasB,GO]
 have c:=F.noStar
 simp only[checkBuiltinCall,F.newKind,F.newSplit,F.newRow]
 repeat (first|refine CY b ?_|(refine DF b ?_;rw[a])|refine wpAny_staticBase_exc b ?_|refine wpAny_madeBy_exc b ?_|simp only[bne_self_eq_false,BF,CF]|wp_step)
 exact e
theorem aJG(F:ExcBaseFacts B newId initId bmB)(T:BmOk B bm){R:Result->S9->Prop}{rest:List V9}(i:h.get? C=some (excClassObj nm q C N bs bm hdct sn sub ab col dd k0 k1 k2 k3 k5 newId))
  (j:R (.ok (.ret (.ref (h.objs.size+1)))) ⟨(h.push {cls:=.type "tuple",data:=.seq rest.toArray}).push
   {cls:=.ref C,data:=.fields #[.ref h.objs.size,.none,.none,.none,.bool false,.none]},g,d,t,os⟩) (hrest:rest.length<=sizeLine) :
  codeAny (model prog w) A (.builtin newId ⟨.ref C::rest,[]⟩) R ⟨h,g,d,t,os⟩:=by
 have a:=F.ends
 have f:(Value.ref C::bm).contains (.type B)=true:=by rw[DP,T.hasB,GO]
 have c:(Value.ref C::bm).contains (.type "AttributeError")=false:=by rw[DP,T.noAttr];rfl
 have b:(Value.ref C::bm).contains (.type "NameError")=false:=by rw[DP,T.noName];rfl
 refine codeAny_builtinAt F.entry ?_
 unfold Builtin.«BaseException.__new__»
 refine wpAt_bind ?_
 show wpAt _ _ _ (stack >>= _) _ _ _
 refine wpAt_bind (wpAt_stack fun p e=>wpAt_of_wpAny ?_)
 wp_walk
 refine wpAt_of_wpAny ?_
 rw[F.owner]
 repeat (first|with_reducible refine wpAny_madeHere_exc F.canon i ?_|with_reducible refine CY i ?_|(with_reducible refine DF i ?_;first|rw[f]|rw[c]|rw[b])|wp_step)
 show R _ _
 rw[DI]
 exact j
theorem aAR(F:ExcBaseFacts B newId initId bmB)(T:BmOk B bm)(X:K.In h){rest:List V9}{fI:Az}{Q:Fin->S9->Prop}
  (j:h.get? C=some (excClassObj nm q C N bs bm hdct sn sub ab col dd k0 k1 k2 k3 k5 newId)) (hi:findIn K (.ref C) "__init__"=some (some (.ref fI))) (n:typeIn K (.ref fI)=some (.type "function"))
  (m:∀ h' e,Heap.MadeExcOf h h' e (.ref C) rest->h.objs.size<=e->
   wpAny (model prog w) A (call (.ref fI) (.ref e::rest)) (fun r s'=>r=.none/\Q (.done (.ret (.ref e))) s') E ⟨h',g,d,t,os⟩) (f:rest.length<=sizeLine) :
  wpAny (model prog w) A (Builtin.«type.__call__» ⟨.ref C::rest,[]⟩) Q E ⟨h,g,d,t,os⟩:=by
 repeat (first|with_reducible refine CY j ?_|with_reducible refine wpAny_madeBy_exc j ?_|wp_step)
 refine codeAny_call_builtin_code (Code.quiet_builtin _ F.quiet) (aES F T j ?_)
 refine aJG F T j ?_ f
 show wpAny _ _ _ _ _ _
 have k:∀ b o,h.get? b=some o->((h.push {cls:=.type "tuple",data:=.seq rest.toArray}).push {cls:=.ref C,data:=.fields #[.ref h.objs.size,.none,.none,.none,.bool false,.none]}).get? b=some o:=fun b o e=>AI _ (AI _ e)
 have i:=k _ _ j
 have a:=X.keeps k
 have c:((h.push {cls:=.type "tuple",data:=.seq rest.toArray}).push
   {cls:=.ref C,data:=.fields #[.ref h.objs.size,.none,.none,.none,.bool false,.none]}).get? (h.objs.size+1)=some
   {cls:=.ref C,data:=.fields #[.ref h.objs.size,.none,.none,.none,.bool false,.none]}:=by heap_get
 have l:(Value.ref C::bm).contains (.ref C)=true:=by simp
 unfold isInstance
 repeat (first|with_reducible refine CY c ?_|(with_reducible refine DF i ?_;rw[l])|wp_step)
 show wpAny _ _ (typeLookup (.ref C) _) _ _ _
 refine (looks_findIn (M:=model prog w) a hi).at ?_
 refine CN (AA ?_)
 refine (bind_fn (M:=model prog w) a _ n).at ?_
 refine AA (BO (m _ (h.objs.size+1) ⟨k,FK (EK _),h.objs.size,c,FK (AG _),?_⟩ (EK _)) (fun r s' s=>?_) fun _ _ x=>x)
 .exact AI _ (Heap.get?_push_at rfl rfl)
 .obtain ⟨rfl,p⟩:=s
  wp_walk
  exact p
theorem aJH(F:ExcBaseFacts B newId initId bmB)(T:BmOk B bm)(X:K.In h){rest:List V9}{fI:Az}{Q:V9->S9->Prop}
  (b:h.get? C=some (excClassObj nm q C N bs bm hdct sn sub ab col dd k0 k1 k2 k3 k5 newId)) (hi:findIn K (.ref C) "__init__"=some (some (.ref fI))) (i:typeIn K (.ref fI)=some (.type "function"))
  (f:∀ h' e,Heap.MadeExcOf h h' e (.ref C) rest->h.objs.size<=e->
   wpAny (model prog w) (A.under (.builtin "type.__call__" ⟨.ref C::rest,[]⟩)) (call (.ref fI) (.ref e::rest)) (fun r s'=>r=.none/\Q (.ref e) s') E ⟨h',g,d,t,os⟩) (a:rest.length<=sizeLine) :
  wpAny (model prog w) A (call (.ref C) rest) Q E ⟨h,g,d,t,os⟩:=by
 have l:=tc_lookup
 have m:=tc_bind (.ref C)
 have k:(⟨h,g,d,t,os⟩:S9).TypeIs (.ref C) "type":=⟨_,b,rfl⟩
 refine EQ (codeAny_of_tree ?_)
 show wpAny _ _ (callAny (.ref C) _) _ _ _
 repeat (any_goals (first|assumption|with_reducible refine CY b ?_|wp_step))
 refine ⟨rfl,?_⟩
 refine codeAny_call_builtin_at (Code.quiet_builtin _ (by decide +kernel)) entry_typeCall (wpAny_check_type_call_sub b (aAR F T X b hi i (fun h' e j c=>?_) a))
 exact f h' e j c
theorem l8{M:Model}{env:Env}{s:S9}{x:Sem V9}{Q:Flow->S9->Prop}(T:BmOk B bm)(i:A.handled=none)
  (hx:wpAny M A x (fun v s₁=>∃ e od vs,v=.ref e/\s₁.heap.get? C=some (excClassObj nm q C N bs bm hdct sn sub ab col dd k0 k1 k2 k3 k5 newId) /\
   s₁.heap.get? e=some {cls:=.ref C,dict:=od,data:=.fields vs}/\vs[1]? = some .none/\E (.ref e) s₁) E s) :
  wpAny M A (raiseStmt env (some x) none) Q E s:=by
 have b:(Value.ref C::bm).contains (.type "BaseException")=true:=by rw[DP,T.hasBase,GO]
 unfold raiseStmt
 refine AA (BO hx (fun v s₁ a=>?_) fun _ _ x=>x)
 obtain ⟨e,od,vs,rfl,f,c,h1,h⟩:=a
 obtain ⟨j,g,d,tk,os⟩:=s₁
 repeat (first|with_reducible refine CY c ?_|with_reducible refine CY f ?_|(with_reducible refine DF f ?_;rw[b])|(with_reducible refine D0 c rfl h1 ?_)|wp_step)
 exact wpAny_raiseNew_none i h
end
end SX
namespace SX
open PySem PySem.W PySem.Builtin PySem.Builtin.ObjectAttr
abbrev f8:List V9:=[.type "ValueError",.type "Exception",.type "BaseException",.type "object"]
structure ExcC(K:Frag)(W C:Az):Prop where
 lk:∃ nm q N bs sn sub ab col dd k0 k1 k2 k3 k5,K.lookup C=some (excClassObj nm q C N bs (.ref W::f8) true sn sub ab col dd k0 k1 k2 k3 k5 "ValueError.__new__")
 sa:findIn K (.ref C) "__setattr__"=some (some (.builtin "object.__setattr__"))
 ga:findIn K (.ref C) "__getattribute__"=some (some (.builtin "BaseException.__getattribute__"))
 gh:findIn K (.ref C) "__getattr__"=some none
 cl:findIn K (.ref C) "__class__"=some (some (.builtin "object.__class__"))
 clg:specialIn K (.builtin "object.__class__") "__get__"=some (some (.builtin "getset_descriptor.__get__"))
 clt:takesIn K (.builtin "object.__class__")=some true
 kp:keepIn K (.ref C)=true
theorem xC(W:Az):BmOk "ValueError" (.ref W::f8):=⟨by simp[f8],by simp[f8],by simp[f8],by simp[f8]⟩
theorem passes(self:V9)(C W:Az):refuseLoop self "__setattr__" (.ref C::.ref W::f8)=pure ():=by
 rw[refuseLoop_ref,refuseLoop_ref]
 exact PySem.F.store_ValueError.passes self
theorem ExcC.cls{K:Frag}{W C:Az}(c:ExcC K W C):∃ cd:ClassData,clsIn K C=some cd/\cd.hasDict=true/\cd.mro=.ref C::.ref W::f8:=by
 obtain ⟨nm,q,N,bs,sn,sub,ab,col,dd,k0,k1,k2,k3,k5,e⟩:=c.lk
 exact ⟨_,by unfold clsIn;rw[e],rfl,rfl⟩
theorem ExcC.mro{K:Frag}{W C:Az}(c:ExcC K W C)(b:V9):mroIn K C b=some ((Value.ref C::.ref W::f8).contains b):=by
 obtain ⟨cd,h1,_,a⟩:=c.cls
 unfold mroIn
 rw[h1,CT,a]
 rfl
section
variable{prog:P9}{w:W9}{A:U9}{E:V9->S9->Prop}{s:S9}{K:Frag}{W C x:Az}{name:Str}{v:V9}{vs:Array V9}
theorem aCZ{od:O9 Az}{o:O9 Obj}{tk:Tok}{R:Result->S9->Prop}(X:K.In s.heap)(c:ExcC K W C)(i:findIn K (.ref C) name=some none)(I:InstAt s.heap x ⟨.ref C,od,.fields vs,#[]⟩ C o)
  (h:wpAny (model prog w) A.in1 (storeInOwnDict (.ref x) (.ref C) (.str name tk) name v false)
   (fun fin s'=>match fin with | .done f=>R (.ok f) s' | .again c'=>c'.quiet=true/\codeAny (model prog w) A c' R s') (fun e s'=>R (.error e) s') s) :
  codeAny (model prog w) A (.call (.builtin "object.__setattr__") ⟨[.ref x,.str name tk,v],[]⟩) R s:=by
 have a:=PySem.F.store_object
 obtain ⟨cd,d,hdct,b⟩:=c.cls
 have sub:Looks (model prog w) s.heap (isInstance (.ref x) (.type "object")) true:=I.type.andThen (looks_mroIn X (by rw[c.mro];simp[f8]))
 refine FN a.slot.plain a.entry (@check_slot (model prog w) _ _ s "object.__setattr__" "object" "__setattr__" (.ref x) [.str name tk,v] [] _ a.kind a.split sub (a.args (.ref x) (.str name tk) v) ?_)
 have g:Looks (model prog w) s.heap (mroOf (.ref C)) cd.mro:=(looks_clsIn X d).andThen .now
 rw[osa_eq,refuse_eq]
 refine AA (AA (I.type.here (AA (g.here ?_))))
 rw[b,passes]
 exact AE (AA (I.type.here (AA ((looks_findIn X i).here (AA (AE h))))))
theorem aGV{Q:Unit->S9->Prop}(X:K.In s.heap)(c:ExcC K W C)(H:findIn K (.ref C) name=some none)(hx:s.heap.get? x=some ⟨.ref C,none,.fields vs,#[]⟩)
  (h:∀ h' tk',h'.get? x=some ⟨.ref C,some s.heap.objs.size,.fields vs,#[]⟩->h'.Ns1 s.heap.objs.size (fun y=>if y=name then some v else none)->(∀ b o,b≠x->s.heap.get? b=some o->h'.get? b=some o)->Q () {s with heap:=h',toks:=tk'}) :
  wpAny (model prog w) A (setAttr (.ref x) name v) Q E s:=by
 have I:InstAt s.heap x ⟨.ref C,none,.fields vs,#[]⟩ C none:=⟨hx,rfl,rfl,trivial⟩
 refine set_plain X I c.sa (aCZ (s:={s with toks:=s.toks+1}) X c H I ?_)
 obtain ⟨cd,F,hdct,u⟩:=c.cls
 obtain ⟨f,g,d,t,os⟩:=s
 have hx:f.get? x=some ⟨.ref C,none,.fields vs,#[]⟩:=hx
 unfold storeInOwnDict
 refine AA (AE ?_)
 show wpAny _ _ (ownDictForStores (.ref x) >>= _) _ _ _
 refine AA ?_
 show wpAny _ _ (instanceDict x true) _ _ _
 unfold instanceDict
 refine AA (G3 hx (AA ((looks_clsIn (M:=model prog w) X F).at ?_)))
 rw[hdct]
 have a:(f.push {cls:=.type "dict",data:=.dict #[]}).get? x=some ⟨.ref C,none,.fields vs,#[]⟩:=AI _ hx
 have j:x≠f.objs.size:=BB (AQ hx)
 refine AA (wpAny_alloc' ?_)
 refine AA (wpAny_update' a ?_)
 refine AE ?_
 have p:((f.push {cls:=.type "dict",data:=.dict #[]}).update x fun o=>{cls:=o.cls,dict:=some f.objs.size,data:=o.data,slots:=o.slots}).get? f.objs.size
   = some {cls:=.type "dict",data:=.dict #[]}:=
  (Heap.get?_update_ne _ _ _ _ j.symm).trans (Heap.get?_push_at rfl rfl)
 have l:((f.push {cls:=.type "dict",data:=.dict #[]}).update x fun o=>{cls:=o.cls,dict:=some f.objs.size,data:=o.data,slots:=o.slots}).Ns f.objs.size (fun _=>none):=
  ⟨_,#[],_,p,rfl,fun e G=>absurd G (by simp),fun _=>rfl⟩
 show wpAny _ _ (storeInDict f.objs.size (.str name t) name v) _ _ _
 unfold storeInDict newKeyGuard
 refine AA (AE (AA (wpAny_nsSet1 (Heap.Ns1.of_empty l) fun h' i z=>?_)))
 obtain ⟨J,D,B,q,m,k⟩:=i.count (Within.cons name v Within.nil)
 refine AA (wpAny_lookBehind q (by rw[m];exact pastItsLine_dict (BI k (by rw[AY,A9,ET];omega))) ?_)
 refine AE (h h' _ ?_ i fun b o n r=>?_)
 .exact (z.2 x j).trans (B3 _ a rfl)
 .exact (z.2 b (BB (AQ r))).trans ((Heap.get?_update_ne _ _ _ _ n).trans (AI _ r))
theorem aJI{Q:Unit->S9->Prop}{dx:Az}{mA:Str->O9 V9}{ns:List Str}(X:K.In s.heap)(c:ExcC K W C)(r:findIn K (.ref C) name=some none)(hx:s.heap.get? x=some ⟨.ref C,some dx,.fields vs,#[]⟩)
  (o:dx≠x) (b:s.heap.Ns1 dx mA) (hw:Within mA ns) (hsz:ns.length<=sizeLine)
  (h:∀ h' tk',h'.Ns1 dx (fun y=>if y=name then some v else mA y)->Heap.SameBut dx s.heap h'->Q () {s with heap:=h',toks:=tk'}) :
  wpAny (model prog w) A (setAttr (.ref x) name v) Q E s:=by
 obtain ⟨od,f,_⟩:=L2.nC b
 have I:InstAt s.heap x ⟨.ref C,some dx,.fields vs,#[]⟩ C (some od):=⟨hx,rfl,rfl,f⟩
 refine set_plain X I c.sa (aCZ (s:={s with toks:=s.toks+1}) X c r I ?_)
 obtain ⟨cd,n,hdct,k⟩:=c.cls
 obtain ⟨q,g,d,t,os⟩:=s
 have hx:q.get? x=some ⟨.ref C,some dx,.fields vs,#[]⟩:=hx
 unfold storeInOwnDict
 refine AA (AE ?_)
 show wpAny _ _ (ownDictForStores (.ref x) >>= _) _ _ _
 refine AA ?_
 show wpAny _ _ (instanceDict x true) _ _ _
 unfold instanceDict
 refine AA (G3 hx (AA ((looks_clsIn (M:=model prog w) X n).at ?_)))
 rw[hdct]
 refine AE ?_
 show wpAny _ _ (storeInDict dx (.str name t) name v) _ _ _
 unfold storeInDict newKeyGuard
 refine AA (AE (AA (wpAny_nsSet1 b fun h' a p=>?_)))
 obtain ⟨u,m,l,j,i,e⟩:=a.count (Within.cons name v hw)
 refine AA (wpAny_lookBehind j (by rw[i];exact pastItsLine_dict (BI e (by rw[AY];omega))) ?_)
 exact AE (h h' _ a p)
theorem aGW{od:O9 Az}{o:O9 Obj}{tk:Tok}{r:V9}{Q:Fin->S9->Prop}(X:K.In s.heap)(I:InstAt s.heap x ⟨.ref C,od,.fields vs,#[]⟩ C o)(b:findObj K C o name=some (.value r))(a:Q (.done (.ret r)) s) :
  wpAny (model prog w) A (Builtin.«object.__getattribute__» ⟨[.ref x,.str name tk],[]⟩) Q E s:=by
 obtain ⟨f,g,d,t,os⟩:=s
 have e:=I.type (M:=model prog w)
 have c:=looks_find (M:=model prog w) X I b
 refine AA (AE (AA (AE ?_)))
 exact AA (e.at (AA (c.at (AE a))))
theorem aQH{od:O9 Az}{o:O9 Obj}{tk:Tok}{r:V9}{e a:Bool}{Q:V9->S9->Prop}(X:K.In s.heap)(c:ExcC K W C)(I:InstAt s.heap x ⟨.ref C,od,.fields vs,#[]⟩ C o)(l:findObj K C o name=some (.value r))(m:handedIn r=true)(i:Q r s) :
  wpAny (model prog w) A (getAttrBy (.ref x) (.str name tk) e a) Q E s:=by
 obtain ⟨p,g,d,t,os⟩:=s
 have h:=I.type (M:=model prog w)
 have n:=looks_findIn (M:=model prog w) X c.ga
 have j:=looks_findIn (M:=model prog w) X c.gh
 have sub:Looks (model prog w) p (isInstance (.ref x) (.type "BaseException")) true:=h.andThen (looks_mroIn X (by rw[c.mro];simp[f8]))
 unfold getAttrBy
 refine CN (AA (h.at (AA (n.at ?_))))
 show wpAny _ _ (getAttrByItsOwn _ _ _ _ _ _) _ _ _
 unfold getAttrByItsOwn
 refine AA ?_
 show wpAny _ _ (typeLookup (.ref C) "__getattr__") _ _ _
 refine j.at (AA (FD (CN ?_)))
 have f:(a && onTheHeap (Value.builtin "BaseException.__getattribute__"))=false:=by cases a<;>rfl
 unfold callGetattribute
 rw[f,AC B7]
 unfold boundAndCalled
 rw[DU.ga.bind]
 refine AA (AE ?_)
 have k:builtinKind "BaseException.__getattribute__"=some .slot:=by decide +kernel
 have b:splitId "BaseException.__getattribute__"=some ("BaseException","__getattribute__"):=by decide +kernel
 refine EQ (FN DU.ga.plain G4 (@check_slot (model prog w) _ _ _ "BaseException.__getattribute__" "BaseException" "__getattribute__" (.ref x) [.str name tk] [] _ k b sub (PySem.F.args_bexc_ga (.ref x) (.str name tk)) ?_))
 refine aGW X I l ?_
 show wpAny _ _ (handedOut r) _ _ _
 rw[handedOut_of m]
 exact AE i
theorem aMT{od:O9 Az}{o:O9 Obj}{r:V9}{a:Bool}{Q:V9->S9->Prop}(X:K.In s.heap)(c:ExcC K W C)(I:InstAt s.heap x ⟨.ref C,od,.fields vs,#[]⟩ C o)(e:findObj K C o name=some (.value r))(d:handedIn r=true)(b:Q r {s with toks:=s.toks+1}) :
  wpAny (model prog w) A (getAttr (.ref x) name a) Q E s:=by
 unfold getAttr
 exact AA (wpAny_mkText (aQH (s:={s with toks:=s.toks+1}) X c I e d b))
theorem aGX{od:O9 Az}{o:O9 Obj}{Q:O9 V9->S9->Prop}(X:K.In s.heap)(c:ExcC K W C)(I:InstAt s.heap x ⟨.ref C,od,.fields vs,#[]⟩ C o)(h:Q (some (.ref C)) {s with toks:=s.toks+1}) :
  wpAny (model prog w) A (getAttr? (.ref x) "__class__") Q E s:=by
 obtain ⟨i,g,d,t,os⟩:=s
 obtain ⟨cd,e,hdct,f⟩:=c.cls
 have b:=I.type (M:=model prog w)
 have m:=looks_findIn (M:=model prog w) X c.ga
 have j:=looks_findIn (M:=model prog w) X c.gh
 have sub:Looks (model prog w) i (isInstance (.ref x) (.type "BaseException")) true:=b.andThen (looks_mroIn X (by rw[c.mro];simp[f8]))
 have l:findObj K C o "__class__"=some (.bind (.builtin "getset_descriptor.__get__") (.builtin "object.__class__")):=by
  unfold findObj
  rw[e,CT,c.cl,CT]
  simp only[c.clg,c.clt,CT]
 have n:=looks_find (M:=model prog w) X I l
 unfold getAttr?
 refine AA (wpAny_mkText ?_)
 unfold getAttrBy?
 refine AA (FD ?_)
 unfold getAttrBy
 refine CN (AA (b.at (AA (m.at ?_))))
 show wpAny _ _ (getAttrByItsOwn _ _ _ _ _ _) _ _ _
 unfold getAttrByItsOwn
 refine AA ?_
 show wpAny _ _ (typeLookup (.ref C) "__getattr__") _ _ _
 refine j.at (AA (FD (CN ?_)))
 unfold callGetattribute
 rw[show (false && onTheHeap (Value.builtin "BaseException.__getattribute__"))=false from rfl,AC B7]
 unfold boundAndCalled
 rw[DU.ga.bind]
 refine AA (AE ?_)
 have k:builtinKind "BaseException.__getattribute__"=some .slot:=by decide +kernel
 have a:splitId "BaseException.__getattribute__"=some ("BaseException","__getattribute__"):=by decide +kernel
 refine EQ (FN DU.ga.plain G4 (@check_slot (model prog w) _ _ _ "BaseException.__getattribute__" "BaseException" "__getattribute__" (.ref x) [.str "__class__" t] [] _ k a sub (PySem.F.args_bexc_ga (.ref x) (.str "__class__" t)) ?_))
 refine AA (AE (AA (AE ?_)))
 refine AA (b.at (AA (n.at ?_)))
 show wpAny _ _ (holding [.builtin "object.__class__"] (call (.builtin "getset_descriptor.__get__") [.builtin "object.__class__",.ref x,.ref C]) >>= ret) _ _ _
 refine AA (CN (EQ (class_get (s:=⟨i,g,d,t+1,os⟩) X I (by rw[c.mro];simp[f8]) ?_)))
 refine AE ?_
 show wpAny _ _ (handedOut (.ref C)) _ _ _
 exact AE (AE h)
theorem aJJ{od:O9 Az}{o:O9 Obj}(c:ExcC K W C):KitX K (.ref x) (.ref C) (fun h=>InstAt h x ⟨.ref C,od,.fields vs,#[]⟩ C o) where
 ty:=fun _ _ _ I=>I.type
 it:=fun _ _ X _=>by
  obtain ⟨nm,q,N,bs,sn,sub,ab,col,dd,k0,k1,k2,k3,k5,e⟩:=c.lk
  intro j i l s' k q
  unfold isType loadHead
  exact AA (G3 (k _ _ (X _ _ e)) (AE q))
 ne:=fun h f dd b n sl X a=>by
  obtain ⟨nm,q,N,bs,sn,sub,ab,col,dd,k0,k1,k2,k3,k5,e⟩:=c.lk
  refine Bool.eq_false_iff.mpr fun q=>?_
  have d:C=f:=Value.ref.inj (GF.mp q)
  subst d
  have z:=(X _ _ e).symm.trans a
  have g:Value.type "type"=Value.type "tuple":=DG Obj.cls (BU z)
  exact absurd (Value.type.inj g) (by decide)
 ca:=fun X I k=>aGX X c I k
theorem uZ{od:O9 Az}{o:O9 Obj}{a:V9}{b:Bool}{Q:V9->S9->Prop}(X:K.In s.heap)(c:ExcC K W C)(I:InstAt s.heap x ⟨.ref C,od,.fields vs,#[]⟩ C o)(e:kitOne K (.ref C) a=some b)(h:∀ tk,Q (.bool b) {s with toks:=tk}) :
 wpAny (model prog w) A (call (.builtin "isinstance") [.ref x,a]) Q E s:=kia_one (aJJ c) X I e (fun z=>nomatch z) h
end
end SX
namespace SX
open PySem PySem.W
def tR(h:H9)(vs:Array V9)(e:Az)(T:O9 Az):Prop:=
 match T with
 | none=>vs[1]? = some .none
 | some t=>vs[1]? = some (.ref t)/\t≠e/\∃ oT ts x,h.get? t=some oT/\oT.data=.fields ts/\ts[3]? = some x
section
variable{M:Model}{A:U9}{E:V9->S9->Prop}{s:S9}
structure Noted(FL:List Az)(e:Az)(T:Option Az)(C:Az)(od:Option Az)(h h':Heap)(T':Option Az):Prop where
 keep:∀ b o,b∉FL->b≠e->(∀ t,T=some t->b≠t)->h.get? b=some o->h'.get? b=some o
 slot:∀ b o,b∈FL->h.get? b=some o->∃ sl,h'.get? b=some {o with slots:=sl}
 exc:∃ vs,h'.get? e=some ⟨.ref C,od,.fields vs,#[]⟩/\tR h' vs e T'
 new:(∃ t,T'=some t/\h.objs.size<=t)\/(T'=T/\T≠none)
 there:∀ t o,T=some t->h.get? t=some o->∃ o',h'.get? t=some o'
theorem aJK{base:H9}{env:Env}{outer:List Env}{L e C:Az}{od:O9 Az}{vs:Array V9}{T:O9 Az}{Q:Unit->S9->Prop}
  (Z:A.frames=some (env::outer)) (U:s.heap.FunFrames base (env::outer)) (hf:env.frame=some L) (H:s.heap.get? e=some ⟨.ref C,od,.fields vs,#[]⟩) (P:tR s.heap vs e T)
  (h:∀ h' T',T'≠none->Noted ((env::outer).filterMap (·.frame)) e T C od s.heap h' T'->Q () {s with heap:=h'}) :
  wpAny M A (noteFrame (.ref e) env) Q E s:=by
 have O:∀ b∈(env::outer).filterMap (·.frame),∃ o,s.heap.get? b=some o/\∀ vs,o.data≠.fields vs:=fun b f=>(U.mem f).2
 have v:e∉(env::outer).filterMap (·.frame):=fun hm=>by
  obtain ⟨o,r,p⟩:=O e hm
  rw[H] at r;injection r with r;subst r;exact p vs rfl
 have J:1 < vs.size:=by
  unfold tR at P
  cases T with
  | none=>exact (DV.mp P).1
  | some t=>exact (DV.mp P.1).1
 have make:∀ (w:H9) (i:V9) (g:Bool),w.FunFrames base (env::outer)->w.objs.size=s.heap.objs.size->w.get? e=some ⟨.ref C,od,.fields vs,#[]⟩->
   (∀ b o,(∀ t,T=some t->b≠t)->s.heap.get? b=some o->w.get? b=some o)->(∀ t o,T=some t->s.heap.get? t=some o->∃ o',w.get? t=some o'/\t∉(env::outer).filterMap (·.frame)/\t≠e)->
   wpAny M A (do let a <-frameOf env;let u <-entryPlaceOf L g;let b <-EntryCells.newEntry i a .none (rawInt L) .none u;setField (.ref e) 1 b) Q E {s with heap:=w}:=by
  intro w i g aa ac W kp tp
  refine AA (wpAny_frameOf_fun (s:={s with heap:=w}) Z aa hf fun c d=>?_)
  refine AA (wpAny_entryPlaceOf fun u R=>?_)
  unfold EntryCells.newEntry newFields
  refine AA (CW ?_ (R.sizeOk5 _ _ _ _ _))
  have m:c.get? e=some ⟨.ref C,od,.fields vs,#[]⟩:=(d.2.1 e v).trans W
  have n:=AI (h:=c) {cls:=.type "traceback",dict:=none,data:=.fields ([i,.ref L,.none,rawInt L,.none]++(if u.isEmpty then List.replicate 6 Value.none else u)).toArray} m
  refine E4 n rfl J ?_
  have K:c.objs.size≠e:=DL (AQ m)
  have B:=B3 (Obj.mapFields (·.setIfInBounds 1 (Value.ref c.objs.size))) n rfl
  have y:=(CJ (c.push {cls:=.type "traceback",dict:=none,data:=.fields ([i,.ref L,.none,rawInt L,.none]++(if u.isEmpty then List.replicate 6 Value.none else u)).toArray})
   (Obj.mapFields (·.setIfInBounds 1 (Value.ref c.objs.size))) (BZ K)).trans (BA c rfl)
  have l:∀ b o,b≠e->c.get? b=some o->
    ((c.push {cls:=.type "traceback",dict:=none,data:=.fields ([i,.ref L,.none,rawInt L,.none]++(if u.isEmpty then List.replicate 6 Value.none else u)).toArray}).update e (Obj.mapFields (·.setIfInBounds 1 (Value.ref c.objs.size)))).get? b=some o:=
   fun b o D f=>by
    rw[CJ _ _ (BZ D)]
    exact AI _ f
  refine h _ (some c.objs.size) (by simp) ⟨fun b o f D G q=>?_,fun b o f q=>?_,⟨vs.setIfInBounds 1 (.ref c.objs.size),?_,?_⟩,.inl ⟨_,rfl,by rw[d.1,ac];exact AG _⟩,fun t o e1 e2=>?_⟩
  .exact l b o D ((d.2.1 b f).trans (kp b o G q))
  .have G:∀ t,T=some t->b≠t:=fun t e1 z=>by
    obtain ⟨o',S,z2,_⟩:=tp t o e1 (z▸q)
    exact z2 (z▸f)
   obtain ⟨sl,S⟩:=d.2.2 b o (kp b o G q)
   exact ⟨sl,l b _ (fun z=>v (z▸f)) S⟩
  .exact B
  .refine ⟨by simp[J],K,_,_,rawInt L,y,rfl,by first|(simp;done)|(rcases R with rfl|⟨_,_,_,_,_,_,_,rfl⟩<;>simp)⟩
  .obtain ⟨o',S,z2,z3⟩:=tp t o e1 e2
   exact ⟨o',l t o' z3 ((d.2.1 t z2).trans S)⟩
 unfold noteFrame
 simp only[hf]
 cases T with
 | none=>
  refine AA (D0 H rfl P ?_)
  rw[AC (by decide)]
  exact make s.heap .none _ U rfl H (fun b o _ q=>q) (fun t o e1=>nomatch e1)
 | some t=>
  obtain ⟨N,F,oT,V,x,I,k,h3⟩:=P
  have Y:t∉(env::outer).filterMap (·.frame):=fun hm=>by
   obtain ⟨o,r,p⟩:=O t hm
   rw[I] at r;injection r with r;subst r;exact p V k
  refine AA (D0 H rfl N ?_)
  rw[AD (show (Value.ref t != Value.none)=true from by simp)]
  refine AA (D0 I k h3 ?_)
  by_cases hx:(x == rawInt L)=true
  .rw[AD hx]
   refine AE (h s.heap (some t) (by simp) ⟨fun b o _ _ _ q=>q,fun b o _ q=>⟨o.slots,q⟩,⟨vs,H,N,F,oT,V,x,I,k,h3⟩,.inr ⟨rfl,by simp⟩,fun t' o e1 q=>⟨o,q⟩⟩)
  .rw[AC hx]
   refine AA (E4 I k (DV.mp h3).1 ?_)
   have j:∀ b,b≠t->(s.heap.update t (Obj.mapFields (·.setIfInBounds 3 Value.none))).get? b=s.heap.get? b:=fun b f=>CJ _ _ (BZ f)
   have X:=B3 (Obj.mapFields (·.setIfInBounds 3 Value.none)) I (FJ (EI k _))
   refine make (s.heap.update t (Obj.mapFields (·.setIfInBounds 3 Value.none))) _ _ (U.of_keeps fun b o f p=>⟨o,(j b fun q=>?_).trans f,rfl⟩) (EB ..).1 ((j e (BZ F)).trans H) (fun b o f q=>(j b (f t rfl)).trans q) (fun t' o e1 q=>?_)
   .rw[q,I] at f;injection f with f;subst f;exact p V k
   .cases e1
    exact ⟨_,X,Y,F⟩
theorem aET{e C t:Az}{od:O9 Az}{vs:Array V9}{fr:O9 Az}{Q:Unit->S9->Prop}(g:s.heap.get? e=some ⟨.ref C,od,.fields vs,#[]⟩)(i:tR s.heap vs e (some t))
  (h:∀ h',Heap.SameBut t s.heap h'->tR h' vs e (some t)->Q () {s with heap:=h'}):wpAny M A (setFlight (.ref e) fr) Q E s:=by
 obtain ⟨b,d,oT,k,x,f,a,j⟩:=i
 unfold setFlight
 refine AA (D0 g rfl b ?_)
 rw[AD (show (Value.ref t != Value.none)=true from by simp)]
 have c:=(DV.mp j).1
 refine E4 f a c (h _ (EB ..) ⟨b,d,_,_,_,B3 _ f (FJ (EI a _)),EI a _,Array.getElem?_setIfInBounds_self_of_lt c⟩)
end
end SX
namespace L2
open PySem PySem.Spec PyProof.Rows
def ExN(e C:Az)(od:O9 Az):HO:=.ext fun h=>∃ vs,h.get? e=some ⟨.ref C,od,.fields vs,#[]⟩/\vs[1]? = some .none
def ExO(e C:Az)(od:O9 Az):HO:=.ext fun h=>∃ vs,h.get? e=some ⟨.ref C,od,.fields vs,#[]⟩
section
variable{P:P9}{w:W9}{H:Hp}{h:H9}{e C:Az}{od:O9 Az}
theorem aGY{vs:Array V9}(a:h.get? e=some ⟨.ref C,od,.fields vs,#[]⟩)(b:vs[1]? = some .none):cF P w H h e (ExN e C od):=
 ⟨⟨vs,a,b⟩,⟨_,a⟩,fun h1 h2 ⟨vs,a,b⟩ k=>⟨vs,k _ a,b⟩⟩
theorem aAS{vs:Array V9}(a:h.get? e=some ⟨.ref C,od,.fields vs,#[]⟩):cF P w H h e (ExO e C od):=
 ⟨⟨vs,a⟩,⟨_,a⟩,fun h1 h2 ⟨vs,a⟩ k=>⟨vs,k _ a⟩⟩
theorem aAT(ok:HOk P w H h)(q:H e=some (ExN e C od)):∃ vs,h.get? e=some ⟨.ref C,od,.fields vs,#[]⟩/\vs[1]? = some .none:=(ok e _ q).1
theorem u0(ok:HOk P w H h)(q:H e=some (ExO e C od)):∃ vs,h.get? e=some ⟨.ref C,od,.fields vs,#[]⟩:=(ok e _ q).1
end
structure FlyAt(X:Cx)(H:Hp)(h:Heap)(e C:Az)(od:Option Az)(traced:Bool):Prop where
 tr:H e=some (ExO e C od)
 tb:∃ vs T,h.get? e=some ⟨.ref C,od,.fields vs,#[]⟩/\SX.tR h vs e T/\(∀ t,T=some t->H t=none/\X.s₀.heap.objs.size<=t/\∀ p∈X.pn,p.1≠t)/\(traced=true->T≠none)
def Fly(X:Cx)(E:XK)(ev:V9)(s':S9):Prop:=∃ e C od σ H',ev=.ref e/\Inv X [] σ H' s'/\FlyAt X H' s'.heap e C od false/\E (.ref C) (some e) H'
abbrev Cx.fly(X:Cx)(E:XK):Cx:=X.wish (Fly X E)
def o6(X:Cx):Prop:=X.stack=X.env::X.outer/\X.env.frame=some X.env.locals
section
variable{X:Cx}{σ:St}{H:Hp}{s:S9}{e C:Az}{od:O9 Az}{b:Bool}
theorem aAU(I:Inv X [] σ H s){t:Az}{oT:Obj}{f:Array V9}(d:s.heap.get? t=some oT)(e:oT.data=.fields f):t≠X.env.locals/\(∀ x c,X.env.cells.lookup x=some c->c≠t):=by
 refine ⟨fun z=>?_,fun x c q z=>?_⟩
 .obtain ⟨m,⟨o,es,ep,b,a,_⟩,_⟩:=I.loc
  rw[<-z,d] at b;cases b;rw[e] at a;cases a
 .obtain ⟨v,o,b,a⟩:=I.cell x c q
  rw[z,d] at b;cases b;rw[e] at a;cases a
theorem o7{Q:Unit->S9->Prop}{E':V9->S9->Prop}(hO:o6 X)(I:Inv X [] σ H s)(f:FlyAt X H s.heap e C od b)(h:∀ s',Inv X [] σ H s'->FlyAt X H s'.heap e C od true->Q () s') :
  wpAny (model X.prog X.w) X.A (noteFrame (.ref e) X.env) Q E' s:=by
 obtain ⟨k,l⟩:=hO
 obtain ⟨vs,T,Z,K,J,_⟩:=f.tb
 have G:X.A.frames=some (X.env::X.outer):=by rw[<-k];exact I.ok.frames
 have hl:s.heap.FunFrames X.base (X.env::X.outer):=by have:=I.stack;rw[k] at this;exact this
 have B:(X.env::X.outer).filterMap (·.frame)=X.env.locals::X.fs:=by rw[EA,l];rfl
 refine SX.aJK (T:=T) G hl l Z K fun h' T' L N=>?_
 rw[B] at N
 have trk:∀ c u,H c=some u->c∉X.env.locals::X.fs:=fun c u q z=>by
  have:=I.stkFree c (by unfold frs;rw[k,B];exact z)
  rw[q] at this;cases this
 have S:∀ c u,H c=some u->∀ t,T=some t->c≠t:=fun c u q t e1 z=>by
  have:=(J t e1).1
  rw[<-z,q] at this;cases this
 have y:HOk X.prog X.w H h':=fun c u q=>by
  by_cases d:c=e
  .subst d
   rw[f.tr] at q;cases q
   obtain ⟨g,a,_⟩:=N.exc
   exact aAS a
  .refine (I.hok c u q).stay (fun E v j a=>N.keep E v ?_ ?_ ?_ a) (fun _ q=>q) (fun _ _ q=>q) fun _ _ q=>q
   .rcases j with z|z
    .rw[z];exact trk c u q
    .exact trk E _ z
   .rcases j with z|z
    .rw[z];exact d
    .intro zz;rw[zz,f.tr] at z;cases z
   .rcases j with z|z
    .rw[z];exact S c u q
    .exact S E _ z
 have V:Inv X [] σ H {s with heap:=h',gens:=s.gens,drawn:=s.drawn,toks:=s.toks}:=by
  refine I.step (ch:=T.toList) (fun c d=>?_) (fun c o h1 h2 D q n=>?_) (fun c o h1 h2 D q n=>N.slot c o (AN _ h2) q) (fun _ _ _ _ n=>n) (fun c o D q=>?_) (fun _ _ q=>q) (fun _ _ _ q=>q) (fun _ _ q=>q) (fun m hm=>?_) y I.bare
  .have e1:T=some c:=by cases T<;>simp at d;rw[d]
   obtain ⟨t1,R,t3⟩:=J c e1
   rw[e1] at K
   obtain ⟨_,_,oT,ts,x,F,M,_⟩:=K
   obtain ⟨W,U⟩:=aAU I F M
   exact ⟨.inr R,W,U,fun p O=>t3 p (by simpa using O)⟩
  .refine N.keep c o ?_ ?_ ?_ q
   .intro z
    rcases A2.mp z with z|z
    .exact h1 z
    .exact h2 z
   .intro z;rw[z,f.tr] at n;cases n
   .intro t e1 z;exact D (by rw[e1,z];simp)
  .by_cases d:c=e
   .subst d
    obtain ⟨g,a,_⟩:=N.exc
    exact ⟨_,a⟩
   .by_cases P:c∈X.env.locals::X.fs
    .obtain ⟨sl,a⟩:=N.slot c o P q
     exact ⟨_,a⟩
    .exact ⟨o,N.keep c o P d (fun t e1 z=>D (by rw[e1,z];simp)) q⟩
  .obtain ⟨o,es,ep,ho,r⟩:=hm
   obtain ⟨sl,a⟩:=N.slot _ o A0 ho
   exact ⟨_,es,ep,a,r⟩
 refine h _ V ⟨f.tr,?_⟩
 obtain ⟨g,a,Y⟩:=N.exc
 refine ⟨g,T',a,Y,fun t e1=>?_,fun _=>L⟩
 rcases N.new with ⟨R,e2,i⟩|⟨e2,_⟩
 .rw[e1] at e2;cases e2
  refine ⟨I.hok.fresh i,BI I.sz i,fun p O z=>?_⟩
  have:=AQ (I.pin p (CP _ O)).1
  rw[z] at this
  exact absurd (A3 this i) (B5 _)
 .exact J t (e2▸e1)
theorem oA{Q:Unit->S9->Prop}{D:V9->S9->Prop}{fr:O9 Az}{A:U9}(I:Inv X [] σ H s)(f:FlyAt X H s.heap e C od true)(h:∀ s',Inv X [] σ H s'->FlyAt X H s'.heap e C od true->Q () s') :
  wpAny (model X.prog X.w) A (setFlight (.ref e) fr) Q D s:=by
 obtain ⟨vs,T,l,i,r,B⟩:=f.tb
 cases T with
 | none=>exact absurd rfl (B rfl)
 | some t=>
  obtain ⟨k,j,m⟩:=r t rfl
  refine SX.aET l i fun h' n d=>?_
  obtain ⟨_,g,oT,F,x,a,c,_⟩:=i
  obtain ⟨z,u⟩:=aAU I a c
  have v:Inv X [] σ H {s with heap:=h'}:=I.turned (t':=s.toks) (it:=t) (fun b o y q=>(n.2 b y).trans q) k z (.inr j) u fun p E=>m p (by simpa using E)
  exact h _ v ⟨f.tr,vs,some t,(n.2 e (BZ g)).trans l,d,fun t' e1=>by cases e1;exact ⟨k,j,m⟩,fun _=>by simp⟩
theorem aGZ{Q:V9->S9->Prop}{d:V9->S9->Prop}{A:U9}(f:FlyAt X H s.heap e C od true)(h:∀ t,Q (.ref t) s):wpAny (model X.prog X.w) A (field (.ref e) 1) Q d s:=by
 obtain ⟨vs,T,a,c,g,b⟩:=f.tb
 cases T with
 | none=>exact absurd rfl (b rfl)
 | some t=>exact D0 a rfl c.1 (h t)
theorem dL{E:XK}(h:o6 X):PassesOwn (model X.prog X.w) X.A X.env (Fly X E):=by
 rintro l s' ⟨e,C,od,σ,H,rfl,I,f,q⟩
 refine o7 h I f fun m i d=>?_
 unfold cameBackBy
 refine AA (aGZ d fun t=>?_)
 rw[AC (by simp)]
 exact oA i d fun k j g=>⟨e,C,od,σ,H,rfl,j,⟨g.tr,let ⟨vs,T,a,b,c,_⟩:=g.tb;⟨vs,T,a,b,c,fun z=>nomatch z⟩⟩,q⟩
end
def CXe(P:P9)(w:W9):CXT:=fun outer H s E ev s'=>∃ e C od H',ev=.ref e/\s'.os=s.os/\AllBare s'.gens/\Un (frs outer) [] H H' s.heap s'.heap/\HOk P w H' s'.heap/\H' e=some (ExO e C od) /\
 (∃ vs T,s'.heap.get? e=some ⟨.ref C,od,.fields vs,#[]⟩/\SX.tR s'.heap vs e T/\∀ t,T=some t->H' t=none/\s.heap.objs.size<=t)/\E (.ref C) (some e) H'
section
variable{X:Cx}
theorem cE{E g:XK}(h:∀ c e H,E c e H->g c e H):mR (CXe X.prog X.w) (X.fly g) E:=by
 rintro pins σ H s m s' I ⟨e,C,od,H',rfl,os,bare,un,hok,he,⟨vs,T,q1,q2,q3⟩,q⟩
 have d:Inv X pins σ H s:=I.unwish
 have i:Inv X [] σ H s:=d.pins_of fun p a=>absurd a (by simp)
 have k:Inv X [] σ H' s':=i.call' os un hok bare (fun b j=>absurd j (by simp))
 refine ⟨e,C,od,σ,H',rfl,k,⟨he,vs,T,q1,q2,fun t e1=>?_,fun z=>nomatch z⟩,h _ _ _ q⟩
 obtain ⟨l,f⟩:=q3 t e1
 refine ⟨l,BI d.sz f,fun p a z=>?_⟩
 have:=AQ (d.pin p (CP _ a)).1
 rw[z] at this
 exact absurd (A3 this f) (B5 _)
theorem PSs.unfly{E:XK}{st:List Stmt}{t:TS}(h:PSs (X.fly E) st t)(hx:∀ e s',Fly X E e s'->X.xe e s'):PSs X st t:=fun pins s σ H D I a=>
 BO (h pins s σ H D (I.wish _) a) (fun f s' q=>SP.unwish q) hx
end
theorem qK{P:P9}{w:W9}{K:Frag}{mg:Str->O9 V9}{base:H9}{N:List Str}{qual:Str}{scope:Scope}{f:Az}{cd:V9}{A:U9}{outer:List Env}{s:S9}{H:Hp}{E:XK}{g:V9}{s':S9}
  (h:Fly (iS (CXe P w) P w K mg base N qual scope f cd A outer s H E) E g s'):(iS (CXe P w) P w K mg base N qual scope f cd A outer s H E).xe g s':=by
 obtain ⟨e,C,od,σ,H',rfl,I,l,q⟩:=h
 show wpAny (model P w) _ (leaving _ (.ref e)) _ _ s'
 unfold leaving
 have j:o6 (iS (CXe P w) P w K mg base N qual scope f cd A outer s H E):=⟨rfl,rfl⟩
 refine AA (o7 j I l fun o m k=>oA m k fun n d i=>?_)
 obtain ⟨vs,T,a,b,c,_⟩:=i.tb
 exact ⟨e,C,od,H',rfl,d.os,d.bare,d.base,d.hok,i.tr,⟨vs,T,a,b,fun t e1=>⟨(c t e1).1,(c t e1).2.1⟩⟩,q⟩
section
variable{P:P9}{w:W9}{K:Frag}{mg:Str->O9 V9}{base:H9}
theorem Fun.okX{x qual:Str}{st:Stmt}{f:Az}{fd:FuncData}{N ps:List Str}{k:Nat}{sp:Sp}(F:Fun K x qual st f fd)(S:FnScope N ps (aK st))(len:∀ vs H Q E,sp vs H Q E->vs.length=ps.length)
  (a:∀ (cdv:V9) (A:U9) (outer:List Env) (s:S9) (H:Hp) (vs:List V) (Q:VK) (E:XK),Room k (A.deeper (envOfC qual (aK st) s.heap.objs.size f cdv))->sp vs H Q E->
   ∃ t,PSs ((iS (CXe P w) P w K mg base N qual (aK st) f cdv A outer s H E).fly E) (cG st) t/\t {nx:=fun _ H'=>Q .non H',rt:=Q} (start N vs) H):FnOk P w K mg base (CXe P w) (k+1) f fd ps sp:=by
 obtain ⟨i,od,kV,doc,pm,j,cdv,ct,d,rfl,e,c⟩:=F.ex
 refine z7 e c S len fun A outer s H vs Q E g b=>?_
 obtain ⟨t,h,q⟩:=a cdv A outer s H vs Q E g b
 exact ⟨t,h.unfly fun _ _ z=>qK z,q⟩
end
theorem Inv.xdw{X:Cx}{pins:List (Az×Obj)}{σ:St}{H:Hp}{s:S9}{h':H9}{d:Az}{fs fs':List (Str×V)}{t':Nat}(I:Inv X pins σ H s)(a:H d=some (.xd fs))(h:Heap.SameBut d s.heap h')
  (new:cF X.prog X.w (upd H d (.xd fs')) h' d (.xd fs')):Inv X pins σ (upd H d (.xd fs')) {s with heap:=h',toks:=t'}:=by
 have i:∀ b (u:Obj),H b=none->b≠d:=fun b u e z=>by rw[z,a] at e;cases e
 refine I.un ⟨fun b o q n _ _=>(h.2 b (i b o n)).trans q,fun b o q n k=>?_,fun b o q n _=>by rw[aJ (i b o n)];exact n,fun b o q _=>?_,fun b xs q=>?_,fun b o u q=>?_,fun b ps q=>?_⟩ fun b u q=>?_
 .exact fun _=>⟨o.slots,(h.2 b (i b o n)).trans q⟩
 .by_cases z:b=d
  .obtain ⟨o',e⟩:=(show ∃ o',h'.get? d=some o' from let ⟨mA,⟨o,_,_,e,_⟩,_⟩:=new;⟨o,e⟩)
   exact ⟨o',z▸e⟩
  .exact ⟨o,(h.2 b z).trans q⟩
 .rw[aJ (fun z=>by rw[z,a] at q;cases q)];exact q
 .rw[aJ (fun z=>by rw[z,a] at q;cases q)];exact q
 .rw[aJ (fun z=>by rw[z,a] at q;cases q)];exact q
 .by_cases z:b=d
  .subst z;rw[aX] at q;cases q;exact new
  .rw[aJ z] at q
   refine (I.hok b u q).stay (fun c v j r=>(h.2 c ?_).trans r) (fun c r=>?_) (fun c xs r=>?_) fun c xs r=>?_
   .rcases j with g|g
    · rw [g]; exact z
    · intro f; rw [f, a] at g; cases g
   .rw[aJ (fun f=>by rw[f,a] at r;cases r)];exact r
   .rw[aJ (fun f=>by rw[f,a] at r;cases r)];exact r
   .rw[aJ (fun f=>by rw[f,a] at r;cases r)];exact r
def aS3(K:Frag)(ta tv:TE)(f:Str):TS:=fun D σ H=>tv σ H fun y H1=>ta σ H1 fun x H2=>∃ a W C,x=.ref a/\SX.ExcC K W C/\PySem.W.findIn K (.ref C) f=some none /\
 ((H2 a=some (ExN a C none)/\∀ d,H2 d=none->d≠a->D.nx σ (upd (upd H2 a (ExN a C (some d))) d (.xd [(f,y)]))) \/
  (∃ d fs,H2 a=some (ExN a C (some d))/\H2 d=some (.xd fs)/\fs.length < 1000/\D.nx σ (upd H2 d (.xd (w6 f y fs)))))
section
variable{X:Cx}{o e value:E1}{f:Str}{pos pos':Pos}{ta tv:TE}
theorem aG0{fs:List (Str×V)}{mA:Str->O9 V9}(r:∀ f,hU (fs.lookup f) (mA f)):PySem.Within mA (fs.map (·.1)):=fun y a=>by
 cases q:fs.lookup y with
 | none=>exact absurd (hU.none_of (by rw[<-q];exact r y)) a
 | some v=>exact A5.mpr ⟨(y,v),BH q,rfl⟩
theorem aMU(ha:PE X o ta)(V:PE X value tv)(hs:swapsWith value (some (.Attribute o f pos')) pos.line X.env=pure false):PS X (.Assign [.Attribute o f pos'] value pos) (aS3 X.K ta tv f):=by
 intro pins s σ H D I h
 refine plainObj_wpAny_Assign_Attribute (thn (V pins s σ H _ I h) fun u s1 ⟨y,H1,Z,T,q⟩=>thn (ha pins s1 σ H1 _ Z q) fun Y m R=>?_) hs
 obtain ⟨x,H2,l,rx,a,W,C,ex,c,n,F⟩:=R
 subst ex
 obtain rfl:Y=Value.ref a:=rx
 rcases F with ⟨j,F⟩|⟨d,fs,j,P,hl,F⟩
 .obtain ⟨vs,N,h1⟩:=aAT l.hok j
  refine SX.aGV l.kIn c n N fun h' p G E M=>?_
  have fd:H2 m.heap.objs.size=none:=l.hok.fresh (AG _)
  have Q:m.heap.objs.size≠a:=DL (AQ N)
  refine ⟨σ,_,?_,F m.heap.objs.size fd Q⟩
  have A:∀ b (u:Obj),H2 b=none->b≠a:=fun b u z zz=>by rw[zz,j] at z;cases z
  have e:∀ b u,H2 b=some u->b≠m.heap.objs.size:=fun b u z=>bL z fd
  have L:HOk X.prog X.w (upd (upd H2 a (ExN a C (some m.heap.objs.size))) m.heap.objs.size (.xd [(f,y)])) h':=fun b u z=>by
   by_cases U:b=m.heap.objs.size
   .subst U;rw[aX] at z;cases z
    refine ⟨_,E,fun g=>?_⟩
    show hU (List.lookup g [(f,y)]) (if g=f then some u else none)
    rw[BC]
    by_cases S:g=f
    .subst S;rw[AD rfl];simp only[DH];exact T
    .rw[AC S,C7 S];exact True.intro
   .rw[aJ U] at z
    by_cases B:b=a
    .subst B;rw[aX] at z;cases z
     exact aGY G h1
    .rw[aJ B] at z
     refine (l.hok b u z).stay (fun t v hc r=>M t v ?_ r) (fun t r=>?_) (fun t xs r=>?_) fun t xs r=>?_
     .rcases hc with O|O
      · rw [O]; exact B
      · intro i; rw [i, j] at O; cases O
     .rw[aJ (e t _ r),aJ (fun i=>by rw[i,j] at r;cases r)];exact r
     .rw[aJ (e t _ r),aJ (fun i=>by rw[i,j] at r;cases r)];exact r
     .rw[aJ (e t _ r),aJ (fun i=>by rw[i,j] at r;cases r)];exact r
  refine l.un (t':=p) ⟨fun b k q n _ _=>M b k (A b k n) q,fun b k q n _ _=>⟨k.slots,M b k (A b k n) q⟩,fun b k q n _=>by rw[aJ (BB (AQ q)),aJ (A b k n)];exact n,fun b k q _=>?_,fun b xs q=>?_,fun b k u' q=>?_,fun b ps q=>?_⟩ L
  .by_cases z:b=a
   .subst z;exact ⟨_,G⟩
   .exact ⟨k,M b k z q⟩
  .rw[aJ (e b _ q),aJ (fun i=>by rw[i,j] at q;cases q)];exact q
  .rw[aJ (e b _ q),aJ (fun i=>by rw[i,j] at q;cases q)];exact q
  .rw[aJ (e b _ q),aJ (fun i=>by rw[i,j] at q;cases q)];exact q
 .obtain ⟨vs,N,h1⟩:=aAT l.hok j
  obtain ⟨mA,E,r⟩:=(show cF X.prog X.w H2 m.heap d (.xd fs) from l.hok d _ P)
  have Q:d≠a:=fun z=>by rw[z,j] at P;cases P
  refine SX.aJI (ns:=fs.map (·.1)) l.kIn c n N Q E (aG0 r) (by rw[AB,ET];omega) fun h' p J sb=>?_
  refine ⟨σ,_,l.xdw (t':=p) P sb ⟨_,J,fun g=>?_⟩,F⟩
  show hU ((w6 f y fs).lookup g) (if g=f then some u else mA g)
  rw[tG]
  by_cases q:g=f
  .rw[AD q,AD q];exact T
  .rw[AC q,AC q];exact r g
def aLO(K:Frag)(ta:TE)(f:Str):TE:=fun σ H Q=>ta σ H fun x H1=>∃ a W C d fs v,x=.ref a/\SX.ExcC K W C/\PySem.W.findIn K (.ref C) f=some none/\H1 a=some (ExO a C (some d))/\H1 d=some (.xd fs)/\fs.lookup f=some v/\Q v H1
theorem aMV(E:PE X e ta)(B:attributeBase e f X.env (eval e X.env)=eval e X.env):PE X (.Attribute e f pos) (aLO X.K ta f):=by
 intro pins s σ H Q I h
 refine aMG B (thn (E pins s σ H _ I h) fun u s1 p=>?_)
 obtain ⟨x,H1,g,A,a,W,C,d,fs,v,ex,c,n,z,F,l,q⟩:=p
 subst ex
 obtain rfl:u=Value.ref a:=A
 obtain ⟨vs,D⟩:=u0 g.hok z
 obtain ⟨mA,y,r⟩:=(show cF X.prog X.w H1 s1.heap d (.xd fs) from g.hok d _ F)
 obtain ⟨od,i,t⟩:=nC y
 obtain ⟨G,j,b⟩:=hU.some_of (by rw[<-l];exact r f)
 obtain ⟨cd,m,k,_⟩:=c.cls
 refine SX.aMT (o:=some od) g.kIn c ⟨D,rfl,rfl,i⟩ (PySem.W.findObj_own (attr:=none) (by unfold PySem.W.hasDictIn;rw[m];exact k) n rfl (by rw[t,j])) (aGO b) ?_
 exact ⟨v,H1,g.tok _,b,q⟩
end
inductive TyX(K:Frag)(H:Hp):V->V9->Prop where
 | pl {x:V} {t:V9} (h:TyOf K H x t):TyX K H x t
 | exc {a W C:Az} {d:Az} {fs:List (Str×V)} (c:SX.ExcC K W C) (e:H a=some (ExO a C (some d))) (ed:H d=some (.xd fs)):TyX K H (.ref a) (.ref C)
 | exc0 {a W C:Az} (c:SX.ExcC K W C) (e:H a=some (ExO a C none)):TyX K H (.ref a) (.ref C)
def aAV:V->O9 V9
 | .ty n=>some (.type n)
 | .ref a=>some (.ref a)
 | _=>none
theorem xD{x:V}{u v:V9}(h:aAV x=some v)(r:bE x u):u=v:=by
 cases x with
 | ty n=>cases h;exact r
 | ref a=>cases h;exact r
 | _=>cases h
theorem jR{X:Cx}:jV X (.builtin "isinstance") (fun xs H Q=>∃ x c t cv b,xs=[x,c]/\TyX X.K H x t/\aAV c=some cv/\PySem.W.kitOne X.K t cv=some b/\Q (.bl b) H):=by
 intro pins s σ H xs us Q I r h
 obtain ⟨x,c,t,cv,b,rfl,j,l,e,q⟩:=h
 obtain ⟨u,v,rfl,i,m⟩:=z6 r
 obtain rfl:=xD l m
 cases j with
 | pl j=>exact aGP I i j e fun tk=>⟨.bl b,H,I.tok _,rfl,q⟩
 | @exc a W C d fs cc ea ed=>
  cases (show u=Value.ref a from i)
  obtain ⟨vs,f⟩:=u0 I.hok ea
  obtain ⟨mA,k,r⟩:=(show cF X.prog X.w H s.heap d (.xd fs) from I.hok d _ ed)
  obtain ⟨od,g,_⟩:=nC k
  exact SX.uZ (o:=some od) I.kIn cc ⟨f,rfl,rfl,g⟩ e fun tk=>⟨.bl b,H,I.tok _,rfl,q⟩
 | @exc0 a W C cc ea=>
  cases (show u=Value.ref a from i)
  obtain ⟨vs,f⟩:=u0 I.hok ea
  exact SX.uZ (o:=none) I.kIn cc ⟨f,rfl,rfl,True.intro⟩ e fun tk=>⟨.bl b,H,I.tok _,rfl,q⟩
def aAW(C:Az)(spI:Sp)(E:XK)(ta:TA):TS:=fun _ σ H=>ta σ H fun vs H1=>vs.length<=1000/\∀ e,H1 e=none->
 spI (.ref e::vs) (upd H1 e (ExN e C none)) (fun v H2=>v=.non/\∃ od,H2 e=some (ExN e C od)/\E (.ref C) (some e) (upd H2 e (ExO e C od))) E0
section
variable{X:Cx}{E:XK}{W C fI:Az}{fdI:FuncData}{ps:List Str}{spI:Sp}{k:Nat}{x:Str}{np cpos pos:Pos}{e0:E1}{rest:List E1}{ta:TA}
theorem tS(S:X.calm=true)(c:SX.ExcC X.K W C)(hg:Gl X x)(hm:X.mg x=some (.ref C))(R:FnOk X.prog X.w X.K X.mg X.base CX0 k fI fdI ps spI)(hi:PySem.W.findIn X.K (.ref C) "__init__"=some (some (.ref fI)))
  (hf:PySem.W.typeIn X.K (.ref fI)=some (.type "function")) (U:fA X.K fdI ps []) (hr:Room (k+1) X.A) (ha:PA (X.fly E) (e0::rest) ta) (L:(x == ("__debug__":Str))=false:=by decide)
  (he:starEach (e0::rest) X.env=(false,eval e0 X.env)::starEach rest X.env:=by rfl) (hpl:(backTo cpos (starEach rest X.env)).any (·.1)=false:=by rfl) :
  PS (X.fly E) (.Raise (some (.Call (.Name x np) (e0::rest) [] cpos)) none pos) (aAW C spI E ta):=by
 intro pins s σ H D I h
 obtain ⟨nm,q,N,bs,sn,sub,ab,col,dd,k0,k1,k2,k3,k5,lk⟩:=c.lk
 have a:wpAny (model X.prog X.w) X.A (eval (.Call (.Name x np) (e0::rest) [] cpos) X.env) (fun v s1=>∃ e od vs,v=.ref e/\s1.heap.get? C=some (excClassObj nm q C N bs (.ref W::SX.f8) true sn sub ab col dd k0 k1 k2 k3 k5 "ValueError.__new__") /\
   s1.heap.get? e=some {cls:=.ref C,dict:=od,data:=.fields vs}/\vs[1]? = some .none/\Fly X E (.ref e) s1) (Fly X E) s:=by
  refine CZ (j6 (X:=X) I.unwish hg hm ?_ L)
  refine DO (h₀:=X.base) I.ok.mod.kin c.kp (thn (ha cpos pins s σ H _ I h) fun us s1 ⟨vs,H1,m,r,hz,q1⟩=>⟨m.kIn,?_⟩) he hpl
  have n:Inv X pins σ H1 s1:=m.unwish
  obtain ⟨Q,g,d,tk,os⟩:=s1
  have y:us.length<=sizeLine:=by rw[<-r.length,ET];omega
  refine SX.aJH F8 (SX.xC W) n.kIn (n.kIn _ _ lk) hi hf (fun h' e j i=>?_) y
  obtain ⟨t,F,_,_⟩:=j.there
  have G:Inv X pins σ (upd H1 e (ExN e C none)) ⟨h',g,d,tk,os⟩:=n.laid (t':=tk) j.keeps i (aGY F rfl)
  have P:=q1 e (n.hok.fresh i)
  have r2:bJ (V.ref e::vs) (Value.ref e::us):=.cons rfl r
  have J:(Value.ref e::us++[]).length=ps.length:=by
   have z:=r2.length
   rw[R.len _ _ _ _ P] at z
   rw[CH]
   exact z.symm
  have aa:(Value.ref e::us).length=ps.length:=by rw[CH] at J;exact J
  have T:=U ⟨h',g,d,tk,os⟩ (Value.ref e::us) G.kIn J
  rw[CH] at T
  refine EQ (EN (R.run _ X.stack ⟨h',g,d,tk,os⟩ _ ⟨Value.ref e::us,[]⟩ (Value.ref e::us) (V.ref e::vs) _ E0 (hr.make C us []) (G.env0.make C us []) T r2 P) fun B s' l=>?_)
  cases B with
  | error e=>exact False.elim l
  | ok fl=>
   cases fl with
   | next=>exact False.elim l
   | brk=>exact False.elim l
   | cont=>exact False.elim l
   | ret u=>
    obtain ⟨v,H3,M,rv,ev,od,O,q3⟩:=G.after l
    subst ev
    obtain ⟨f,o,h1⟩:=aAT M.hok O
    refine ⟨rv,e,od,f,rfl,M.kIn _ _ lk,o,h1,?_⟩
    have Y:Inv X pins σ (upd H3 e (ExO e C od)) {s' with heap:=s'.heap,toks:=s'.toks}:=M.write (x:=e) (e:=e) (by rw[O];exact True.intro) (.inl rfl) (fun b u _ z=>z) ⟨_,o⟩ (aAS o)
    have Z:Inv X [] σ (upd H3 e (ExO e C od)) s':=(show Inv X pins σ _ s' from Y).pins_of fun p Q=>absurd Q (by simp)
    exact ⟨e,C,od,σ,_,rfl,Z,⟨aX,f,none,o,h1,(fun t z=>nomatch z),(fun z=>nomatch z)⟩,q3⟩
 show wpAny (model X.prog X.w) X.A (exec (.Raise (some (.Call (.Name x np) (e0::rest) [] cpos)) none pos) X.env) _ (Fly X E) s
 rw[arm_exec_Raise]
 first
  | refine AA (CU (SX.l8 (SX.xC W) (I.ok.hd S) (AA (BO a (fun v s1 h1=>AA (CU (AE h1))) fun _ _ z=>z))))
  | (simp only[evalOpt,Option.map];refine AA (CU (SX.l8 (SX.xC W) (I.ok.hd S) (AA (BO a (fun v s1 h1=>AA (CU (AE h1))) fun _ _ z=>z)))))
end
end L2
namespace SX
open PySem PySem.W
structure ExcAny(K:Frag)(C:Az)(bm:List V9):Prop where
 lk:∃ nm q N bs hd sn sub ab col dd k0 k1 k2 k3 k5 newId,K.lookup C=some (excClassObj nm q C N bs bm hd sn sub ab col dd k0 k1 k2 k3 k5 newId)
 base:bm.contains (.type "BaseException")=true
theorem ExcC.any{K:Frag}{W C:Az}(c:ExcC K W C):ExcAny K C (.ref W::f8):=by
 obtain ⟨nm,q,N,bs,sn,sub,ab,col,dd,k0,k1,k2,k3,k5,e⟩:=c.lk
 exact ⟨⟨_,_,_,_,_,_,_,_,_,_,_,_,_,_,_,_,e⟩,(xC W).hasBase⟩
theorem tJ{M:Model}{A:U9}{E:V9->S9->Prop}{K:Frag}{C W:Az}{a b:List V9}{s:S9}{e:Az}{o:Obj}{Q:Bool->S9->Prop}(X:K.In s.heap)(c:ExcAny K C a)(w:ExcAny K W b)
  (y:s.heap.get? e=some o) (h:o.cls=.ref C) (k:Q ((Value.ref C::a).contains (.ref W)) s):wpAny M A (excMatches (.ref e) (.ref W)) Q E s:=by
 obtain ⟨nm,q,N,bs,T,sn,sub,ab,col,dd,k0,k1,k2,k3,k5,H,F⟩:=c.lk
 obtain ⟨O,R,S,I,J,L,l,r,m,z,B,G,x,v,D,j,P⟩:=w.lk
 have u:=X _ _ F
 have n:=X _ _ P
 have i:(Value.ref W::b).contains (.type "BaseException")=true:=by rw[DP,w.base,GO]
 have f:=tc_notTuple
 obtain ⟨U,g,d,t,os⟩:=s
 unfold excMatches
 repeat (first|(with_reducible refine CY y ?_;rw[h])|with_reducible refine CY n ?_|(with_reducible refine DF n ?_;rw[i])|with_reducible refine DF u ?_|wp_step)
 cases p:(Value.ref C::a).contains (.ref W)<;>(rw[p] at k;wp_walk;exact k)
end SX
namespace L2
open PySem PySem.Spec PyProof.Rows
abbrev Cx.pnw(X:Cx)(pn:List (Az×Obj)):Cx:={X with pn:=pn}
noncomputable abbrev Cx.inH(X:Cx)(e:Az):Cx:={X with A:=X.A.mark (some (.ref e)),calm:=false,xe:=fun _ _=>False}
section
variable{X:Cx}{pins:List (Az×Obj)}{σ:St}{H:Hp}{s:S9}{e:Az}
theorem Cx.Ok.pnw{X:Cx}(ok:X.Ok)(pn:List (Az×Obj)):(X.pnw pn).Ok:=
 ⟨ok.mod,ok.kind,ok.glob,ok.blt,ok.above,ok.inj,ok.has,ok.cab,ok.hd,ok.frames,ok.stk,ok.exf,ok.bs,ok.bsz,ok.noex,ok.exfs,ok.funs,ok.frf⟩
theorem Cx.Ok.unpn{X:Cx}{pn:List (Az×Obj)}(ok:(X.pnw pn).Ok):X.Ok:=
 ⟨ok.mod,ok.kind,ok.glob,ok.blt,ok.above,ok.inj,ok.has,ok.cab,ok.hd,ok.frames,ok.stk,ok.exf,ok.bs,ok.bsz,ok.noex,ok.exfs,ok.funs,ok.frf⟩
theorem Inv.toPn(I:Inv X pins σ H s):Inv (X.pnw (X.pn++pins)) [] σ H s:=
 ⟨I.ok.pnw _,I.os,I.bare,I.base,I.loc,I.cell,I.free,I.freeC,fun p a=>I.pin p (by
  have z:p∈(X.pn++pins)++[]:=a
  rw[CH] at z
  exact z),I.hok,I.len⟩
theorem Inv.ofPn{pl:List (Az×Obj)}(I:Inv (X.pnw (X.pn++pins)) pl σ H s):Inv X pins σ H s:=
 ⟨I.ok.unpn,I.os,I.bare,I.base,I.loc,I.cell,I.free,I.freeC,fun p a=>I.pin p (CP _ a),I.hok,I.len⟩
theorem SP.ofPn{pl:List (Az×Obj)}{E:V9->S9->Prop}{D:lZ}{f:Flow}{s':S9}(h:SP ((X.pnw (X.pn++pins)).wish E) pl D f s'):SP X pins D f s':=by
 cases f with
 | next=>obtain ⟨a,b,c,d⟩:=h;exact ⟨a,b,c.unwish.ofPn,d⟩
 | brk=>obtain ⟨a,b,c,d⟩:=h;exact ⟨a,b,c.unwish.ofPn,d⟩
 | cont=>obtain ⟨a,b,c,d⟩:=h;exact ⟨a,b,c.unwish.ofPn,d⟩
 | ret u=>obtain ⟨v,a,b,c,d⟩:=h;exact ⟨v,a,b,c.unwish.ofPn,d⟩
theorem Cx.Ok.inH{X:Cx}(ok:X.Ok)(e:Az):(X.inH e).Ok:=
 ⟨ok.mod,ok.kind,ok.glob,ok.blt,ok.above,ok.inj,ok.has,ok.cab,(fun z=>nomatch z),ok.frames,ok.stk,ok.exf,ok.bs,ok.bsz,ok.noex,ok.exfs,ok.funs,ok.frf⟩
theorem Inv.inH(I:Inv X pins σ H s)(e:Az):Inv (X.inH e) pins σ H s:=
 ⟨I.ok.inH e,I.os,I.bare,I.base,I.loc,I.cell,I.free,I.freeC,I.pin,I.hok,I.len⟩
theorem Inv.ofH(ok:X.Ok)(I:Inv (X.inH e) pins σ H s):Inv X pins σ H s:=
 ⟨ok,I.os,I.bare,I.base,I.loc,I.cell,I.free,I.freeC,I.pin,I.hok,I.len⟩
theorem nE{i:Nat}{n:Str}{u:Pos}{Q:Unit->S9->Prop}{M:Model}{A:U9}{K:V9->S9->Prop}(I:Inv X pins σ H s)(T:X.N.Nodup)(hi:X.N[i]? = some n)(S:X.env.kindOf n=some .local)
  (h:∀ s',Inv X pins (σ.set i none) H s'->Q () s'):wpAny M A (do bindName X.env n .none;unbindBehindTheSuite X.env n u) Q K s:=by
 obtain ⟨m,E,L⟩:=id I.loc
 have t:(X.env.scope.kind == .class || (X.env.scope.kind == .module && X.env.locals != X.env.globals))=false:=by rw[I.ok.kind];rfl
 refine wpAny_nameGoes_keeps S E t fun h' v B f=>h _ ?_
 obtain ⟨W,_,_,R,_⟩:=id E
 have a:∀ b o,X.s₀.heap.get? b=some o->b≠X.env.locals:=fun b o e=>BB (A3 (AQ e) I.ok.above)
 refine ⟨I.ok,I.os,I.bare,⟨fun b o e n w r=>(f.2 b (a b o e)).trans (I.base.keep b o e n w r),fun b o e n w r=>?_,I.base.free,fun b o e r=>?_,I.base.tups,I.base.frzs,I.base.tbls⟩,⟨_,B,fun j y G e1 e2 J=>?_⟩,fun y c e=>?_,I.free,I.freeC,fun p V=>?_,fun b F e=>?_,by simpa using I.len⟩
 .obtain ⟨sl,e1⟩:=I.base.slot b o e n w r
  exact ⟨sl,(f.2 b (a b o e)).trans e1⟩
 .obtain ⟨o',e1⟩:=I.base.there b o e r
  exact ⟨o',(f.2 b (a b o e)).trans e1⟩
 .by_cases x:j=i
  .subst x
   have l:j < σ.length:=by rw[I.len];exact (AM.mp hi).1
   rw[CV l] at e2;cases e2
  .rw[BN (BZ x)] at e2
   obtain ⟨U,O,q⟩:=L j y G e1 e2 J
   refine ⟨U,O,?_⟩
   rcases q with ⟨k,e⟩|⟨k,c,e,z⟩
   .refine .inl ⟨k,?_⟩
    have:y≠n:=fun e=>x (tP T e1 (e▸hi))
    simp[this,e]
   .exact .inr ⟨k,c,e,z.sameBut f (I.cne y c e)⟩
 .obtain ⟨D,z⟩:=I.cell y c e
  exact ⟨D,z.sameBut f (I.cne y c e)⟩
 .obtain ⟨e,n,C,P,d⟩:=I.pin p V
  exact ⟨(f.2 p.1 C).trans e,n,C,P,d⟩
 .refine (I.hok b F e).stay (fun c D g q=>(f.2 c ?_).trans q) (fun _ q=>q) (fun _ _ q=>q) fun _ _ q=>q
  rintro rfl
  rcases g with g|g
  .rw[<-g,I.free] at e;cases e
  .rw[I.free] at g;cases g
end
structure Blt(mg:Str->Option V9):Prop where
 b_len:mg "len"=none
 b_isinstance:mg "isinstance"=none
 b_all:mg "all"=none
 b_max:mg "max"=none
 b_min:mg "min"=none
 b_int:mg "int"=none
 b_str:mg "str"=none
 b_bool:mg "bool"=none
 b_tuple:mg "tuple"=none
 b_list:mg "list"=none
 b_range:mg "range"=none
 b_enumerate:mg "enumerate"=none
 b_ValueError:mg "ValueError"=none
structure DefAt(K:Frag)(mg:Str->Option V9)(x:Str)(st:Stmt)(ps:List Str):Prop where
 ex:∃ f fd,Fun K x x st f fd/\fA K fd ps []/\mg x=some (.ref f)
def Calls(P:P9)(w:W9)(K:Frag)(mg:Str->O9 V9)(base:H9)(CX:CXT)(k:Nat)(x:Str)(ps:List Str)(sp:Sp):Prop:=
 ∃ f fd,FnOk P w K mg base CX k f fd ps sp/\fA K fd ps []/\mg x=some (.ref f)/\PySem.W.keepIn K (.ref f)=true
section
variable{P:P9}{w:W9}{K:Frag}{mg:Str->O9 V9}{base:H9}{x:Str}{st:Stmt}{N ps:List Str}{k:Nat}{sp:Sp}
theorem DefAt.ok(D:DefAt K mg x st ps)(S:FnScope N ps (aK st))(len:∀ vs H Q E,sp vs H Q E->vs.length=ps.length)
  (a:∀ (f:Az) (cdv:V9) (A:U9) (outer:List Env) (s:S9) (H:Hp) (vs:List V) (Q:VK) (E:XK),Room k (A.deeper (envOfC x (aK st) s.heap.objs.size f cdv))->sp vs H Q E->
   ∃ t,PSs (iS CX0 P w K mg base N x (aK st) f cdv A outer s H E).nox (cG st) t/\t {nx:=fun _ H'=>Q .non H',rt:=Q} (start N vs) H):Calls P w K mg base CX0 (k+1) x ps sp:=by
 obtain ⟨f,fd,F,b,m⟩:=D.ex
 exact ⟨f,fd,F.ok S len (a f),b,m,F.kp⟩
theorem DefAt.okX(D:DefAt K mg x st ps)(S:FnScope N ps (aK st))(len:∀ vs H Q E,sp vs H Q E->vs.length=ps.length)
  (a:∀ (f:Az) (cdv:V9) (A:U9) (outer:List Env) (s:S9) (H:Hp) (vs:List V) (Q:VK) (E:XK),Room k (A.deeper (envOfC x (aK st) s.heap.objs.size f cdv))->sp vs H Q E->
   ∃ t,PSs ((iS (CXe P w) P w K mg base N x (aK st) f cdv A outer s H E).fly E) (cG st) t/\t {nx:=fun _ H'=>Q .non H',rt:=Q} (start N vs) H):Calls P w K mg base (CXe P w) (k+1) x ps sp:=by
 obtain ⟨f,fd,F,b,m⟩:=D.ex
 exact ⟨f,fd,F.okX S len (a f),b,m,F.kp⟩
theorem Calls.imp{CX:CXT}{a:Sp}(C:Calls P w K mg base CX k x ps sp)(h:∀ vs H Q E,a vs H Q E->sp vs H Q E):Calls P w K mg base CX k x ps a:=by
 obtain ⟨f,fd,F,b,m,c⟩:=C
 exact ⟨f,fd,F.imp h,b,m,c⟩
end
section
variable{X:Cx}{CX:CXT}{k:Nat}{x:Str}{ps:List Str}{sp:Sp}{E:XK}{p pos:Pos}{e:E1}{es:List E1}{t:TA}
theorem bW(C:Calls X.prog X.w X.K X.mg X.base CX k x ps sp)(h:Room k X.A)(c:Gl X x)(hx:mR CX X E)(g:PA X (e::es) t)(a:(x == ("__debug__":Str))=false:=by decide)
  (he:starEach (e::es) X.env=(false,eval e X.env)::starEach es X.env:=by rfl) (hpl:(backTo pos (starEach es X.env)).any (·.1)=false:=by rfl):PE X (.Call (.Name x p) (e::es) [] pos) (uT sp [] E t):=by
 obtain ⟨f,fd,F,b,m,d⟩:=C
 exact aMH F h c m d b .nil hx g a he hpl
end
def spI(C:Az)(fs:List Str):Sp:=fun vs H Q _=>∃ e xs,vs=.ref e::xs/\xs.length=fs.length/\H e=some (ExN e C none)/\∀ d,H d=none->d≠e->Q .non (upd (upd H e (ExN e C (some d))) d (.xd (fs.zip xs)))
structure ErrAt(P:Program)(w:World)(K:Frag)(mg:Str->Option V9)(base:Heap)(x:Str)(fs:List Str)(W C:Az):Prop where
 c:SX.ExcC K W C
 m:mg x=some (.ref C)
 na:∀ f∈fs,PySem.W.findIn K (.ref C) f=some none
 i:∃ fI fdI,FnOk P w K mg base CX0 1 fI fdI ("self"::fs) (spI C fs)/\PySem.W.findIn K (.ref C) "__init__"=some (some (.ref fI))/\PySem.W.typeIn K (.ref fI)=some (.type "function")/\fA K fdI ("self"::fs) []
theorem aJL{H:Hp}{a b:Az}{o u:HO}(h:a≠b):upd (upd H a o) b u=upd (upd H b u) a o:=by
 funext c
 unfold upd
 by_cases h1:c=a
 · subst h1; rw [AC h, AD rfl, AD rfl]
 · rw [AC h1, AC h1]
theorem aG1{X:Cx}{E:XK}{fs:List Str}{W C:Az}{x:Str}{np cpos pos:Pos}{e0:E1}{rest:List E1}{ta:TA}(h:X.calm=true)(b:ErrAt X.prog X.w X.K X.mg X.base x fs W C)(f:Gl X x)(k:Room 2 X.A)(j:PA (X.fly E) (e0::rest) ta)
  (a:(x == ("__debug__":Str))=false:=by decide) (he:starEach (e0::rest) X.env=(false,eval e0 X.env)::starEach rest X.env:=by rfl) (hpl:(backTo cpos (starEach rest X.env)).any (·.1)=false:=by rfl) :
  PS (X.fly E) (.Raise (some (.Call (.Name x np) (e0::rest) [] cpos)) none pos) (aAW C (spI C fs) E ta):=by
 obtain ⟨fI,fdI,g,hi,d,e⟩:=b.i
 exact tS h b.c f b.m g hi d e k j a he hpl
theorem aEU{C:Az}{fs:List Str}{vs:List V}{E:XK}{H1:Hp}(i:vs.length=fs.length)(k:vs.length<=1000)
  (h:∀ e d,H1 e=none->H1 d=none->d≠e->E (.ref C) (some e) (upd (upd H1 e (ExO e C (some d))) d (.xd (fs.zip vs)))) :
  vs.length<=1000/\∀ e,H1 e=none->spI C fs (.ref e::vs) (upd H1 e (ExN e C none)) (fun v H2=>v=.non/\∃ od,H2 e=some (ExN e C od)/\E (.ref C) (some e) (upd H2 e (ExO e C od))) E0:=by
 refine ⟨k,fun e j=>⟨e,vs,rfl,i,aX,fun d g c=>⟨rfl,some d,?_,?_⟩⟩⟩
 .rw[aJ (BZ c),aX]
 .have f:H1 d=none:=by rw[aJ c] at g;exact g
  have:=h e d j f c
  rw[r6,aJL (a:=d) (b:=e) c,r6]
  exact this
theorem DatV.tup_of{K:Frag}{H:Hp}{v:V}{ds:List Dz}(h:DatV K H v (.tuple ds)):∃ a xs,v=.ref a/\SqT K H a xs/\DatVs K H xs ds:=by
 cases h with
 | tup h1 h2=>exact ⟨_,_,rfl,h1,h2⟩
theorem DatV.lst_of{K:Frag}{H:Hp}{v:V}{ds:List Dz}(h:DatV K H v (.list ds)):∃ a xs,v=.ref a/\SqL K H a xs/\DatVs K H xs ds:=by
 cases h with
 | lst h1 h2=>exact ⟨_,_,rfl,h1,h2⟩
theorem DatV.int_of{K:Frag}{H:Hp}{v:V}{i:Int}(h:DatV K H v (.int i)):v=.int i:=by cases h;rfl
theorem DatV.str_of{K:Frag}{H:Hp}{v:V}{i:Str}(h:DatV K H v (.str i)):v=.str i:=by cases h;rfl
theorem DatVs.cons_of{K:Frag}{H:Hp}{xs:List V}{d:Dz}{ds:List Dz}(h:DatVs K H xs (d::ds)):∃ x t,xs=x::t/\DatV K H x d/\DatVs K H t ds:=by
 cases h with
 | cons h1 h2=>exact ⟨_,_,rfl,h1,h2⟩
theorem DatVs.nil_of{K:Frag}{H:Hp}{xs:List V}(h:DatVs K H xs []):xs=[]:=by cases h;rfl
theorem dP.nil:dP [] []:=⟨rfl,fun _ _ h=>by simp at h⟩
theorem dP.own{τ ρ:St}{u:O9 V}(h:dP τ ρ):dP (none::τ) (u::ρ):=⟨by simp[h.1],fun i v e=>by
 cases i with
 | zero=>simp at e
 | succ i=>simpa using h.2 i v (by simpa using e)⟩
theorem dP.nil_of{σ:St}(h:dP [] σ):σ=[]:=EF.mp h.1
def SqS(K:Frag)(H:Hp)(a:Az)(xs:List V):Prop:=SqL K H a xs\/SqT K H a xs
theorem PI.or{X:Cx}{tg a:E1}{w1 w2:TI}(h1:PI X tg a w1)(h2:PI X tg a w2):PI X tg a (fun σ H R=>w1 σ H R\/w2 σ H R):=fun pins s σ H R I h=>h.elim (h1 pins s σ H R I) (h2 pins s σ H R I)
def aU3(K:Frag)(tl:TE):TI:=fun σ H R=>tl σ H fun x H1=>∃ a,x=.ref a/\(((∃ xs,SqL K H1 a xs)/\R (Itl K a) H1)\/((∃ xs,SqT K H1 a xs)/\R (Itt K a) H1))
theorem aG2{X:Cx}{tg l:E1}{tl:TE}(j:PE X l tl):PI X tg l (aU3 X.K tl):=by
 intro pins s σ H R I h
 refine thn (j pins s σ H _ I h) fun v s1 g=>?_
 obtain ⟨x,H1,c,r1,k⟩:=g
 obtain ⟨a,e,q⟩:=k
 subst e
 cases r1
 rcases q with ⟨⟨xs,f⟩,q⟩|⟨⟨xs,f⟩,q⟩
 .obtain ⟨d,n,p,m⟩:=c.list f
  refine wpAny_pyIter_list p.isList ?_
  refine ⟨s1.heap.objs.size,[s1.heap.objs.size],_,_,H1,rfl,c.kept (t':=s1.toks) fun b o e=>AI _ e,aGL a _,⟨_,BA _ rfl,rfl,rfl⟩,fun b i=>?_,q⟩
  obtain rfl:=A4.mp i
  exact c.fpOk (AG _) (c.hok.fresh (AG _))
 .obtain ⟨d,n,p,m⟩:=c.tuple f
  refine wpAny_pyIter_tuple (show s1.heap.IsTuple a d.toArray from p) ?_
  refine ⟨s1.heap.objs.size,[s1.heap.objs.size],_,_,H1,rfl,c.kept (t':=s1.toks) fun b o e=>AI _ e,aEJ a _,⟨_,BA _ rfl,rfl,rfl⟩,fun b i=>?_,q⟩
  obtain rfl:=A4.mp i
  exact c.fpOk (AG _) (c.hok.fresh (AG _))
def aS4(i j:Int):Prop:=0 < j/\j < 2 ^ 64
theorem aJM{X:Cx}:OpR X (binaryOp .FloorDiv) (rI aS4 fun i j=>.int (i / j)):=opI fun i j _ _ _ _ _ a q=>by
 have h1:(0:Int) < j:=a.1
 have h2:j < 2 ^ 64:=a.2
 have b:j.natAbs < 2 ^ 64:=by omega
 have c:j.natAbs.log2 < 64:=(Nat.log2_lt (by omega)).mpr b
 exact floordiv_int (by omega) (by rw[Int.fdiv_eq_ediv_of_nonneg i (by omega)];exact q) (.inl (PyProof.noPylong_of_log2 (by omega)))
theorem o8{X:Cx}{P:P9}{w:W9}:mR (CXe P w) X E0:=by
 rintro pins σ H s a s' I ⟨e,C,od,H',rfl,os,bare,un,hok,he,hv,q⟩
 exact q.elim
section
variable{X:Cx}
def aU4:V->O9 Int->O9 Int->Hp->VK->Prop:=fun x lo hi H Q=>∃ z,x=.str z/\z.length<=sizeLine/\Q (.str (Txt.slice z lo hi)) H
theorem aC0{v:V9}{o:O9 Int}(h:IsPart v o):∃ l:O9 (Int×Tok),partValue l=v/\l.map (·.1)=o:=by
 cases h with
 | none=>exact ⟨none,rfl,rfl⟩
 | int i t=>exact ⟨some (i,t),rfl,rfl⟩
theorem aQI:SlR X aU4:=by
 intro pins s σ H x v p n lo hi sl Q I c j e i h
 obtain ⟨z,rfl,d,q⟩:=h
 obtain ⟨t,rfl⟩:=c
 obtain ⟨l,rfl,g⟩:=aC0 e
 obtain ⟨u,rfl,k⟩:=aC0 i
 obtain ⟨o,b,f,m⟩:=j
 refine ⟨"str",_,PyProof.Rows.slot_str_getitem.lookup,rfl,?_⟩
 refine wpAny_getItem_str_slice (l:=l) (u:=u) (st:=none) ⟨o,b,f,m⟩ rfl ?_
 have le:=Txt.slice_le z lo hi
 unfold Txt.slice at q le
 unfold sliceMade slicePicked
 rw[g,k]
 simp only[DH,Bool.true_and,Option.map_none,GL] at q le ⊢
 by_cases a:((Builtin.Str.strSliceIndices lo hi 1 z.length).length == z.length)=true
 .rw[AD a] at q ⊢
  exact ⟨.str z,H,I,⟨t,rfl⟩,q⟩
 .rw[AC a] at q le ⊢
  exact ⟨BI le d,.str _,H,I.tok _,⟨_,rfl⟩,q⟩
def aG3:V->List V->Hp->VK->Prop:=fun x vs H Q=>∃ z y i rest,x=.str z/\vs=[.str y]/\Builtin.Str.occurrences z y 0 z.length 1=i::rest/\Q (.int i) H
theorem aJN:MtR X "str.index" aG3:=by
 intro pins s σ H x vs v us Q I b d h
 obtain ⟨z,y,i,rest,rfl,rfl,a,q⟩:=h
 obtain ⟨t,rfl⟩:=b
 obtain ⟨u,rfl,c,rfl⟩:=d.one
 exact call_gives F.slot_str_index rfl F.entry_str_index (F.args_str_index_2 _ _) (gives_str_index z y t c i rest a) ⟨.int i,H,I.tok _,⟨_,rfl⟩,q⟩
def Ity(z:Str):It:=
 ⟨fun i _=>i < z.cps.size,fun i H x H'=>∃ p c,H p=none/\x=.ref p/\H'=upd H p (.tup [.int i,.str ⟨#[c]⟩])/\z.cps[i]? = some c,fun i _=>i=z.cps.size⟩
theorem aEV{P:P9}{w:W9}{K:Frag}{es:List E1}{k1}{F:Pos}(z:Str)(t:Tok)(T:String)(hT:∀ A:U9,A.handled=none->∀ it,Draws P w A it [it] z.cps.size (fun i v=>∃ c u,z.cps[i]? = some c/\v=Value.str {cps:=#[c]} u) fun i h=>h.IsStrIter it T z t i)
  (e it:Az) (hei:e≠it):Turn P w K (.Tuple es k1 F) (Ity z) [e,it] e (fun i h=>(∃ f,IsEnum h e it i f)/\h.IsStrIter it T z t i) where
 mem:=by simp
 obj:=fun i h st b j=>by
  obtain ⟨⟨f,s1⟩,o,e2,c,d⟩:=st
  rcases A2.mp j with z|z
  .subst z
   exact ⟨_,s1,fun v z=>by
    have z':Data.fields _=Data.cell v:=z
    cases z'⟩
  .obtain rfl:b=it:=by simpa using z
   exact ⟨o,e2,fun v z=>by rw[d] at z;cases z⟩
 keep:=fun i h h' st k=>by
  obtain ⟨⟨f,s1⟩,o,e2,c,d⟩:=st
  exact ⟨⟨f,k e (by simp) _ s1⟩,o,k it (by simp) o e2,c,d⟩
 item:=by
  intro X O U hK a i pins s σ H E I J st G
  subst O U hK
  obtain ⟨⟨f,s1⟩,L⟩:=st
  obtain ⟨W,f1,f2,f3,f4,f5⟩:=J e (by simp)
  obtain ⟨C,M,g2,S,N,g5⟩:=J it (by simp)
  refine wpAny_pyNext_enum_itemD (hT X.A.in1 (I.ok.hd a) it) s1 L G hei (by simpa using hei) fun u h' tk Q so si st ac kp=>?_
  obtain ⟨c,tc,aa,hu⟩:=Q
  subst hu
  refine ⟨_,rfl,F7 so fun h2 se sb=>?_⟩
  have B:s.heap.objs.size≠e:=DL (AQ s1)
  have Z:h2.get? s.heap.objs.size=some {cls:=.type "tuple",data:=.seq #[.int i tk,.str ⟨#[c]⟩ tc]}:=(sb.2 _ B).trans st
  have V:H s.heap.objs.size=none:=I.hok.fresh (AG _)
  have g:∀ b o,b≠e->b≠it->s.heap.get? b=some o->h2.get? b=some o:=fun b o h1 R q=>(sb.2 b h1).trans (kp b o h1 R q)
  have y:HOk X.prog X.w H h2:=fun b x q=>by
   refine (I.hok b x q).stay (fun c v a q'=>g c v ?_ ?_ q') (fun _ q=>q) (fun _ _ q=>q) fun _ _ q=>q
   .rcases a with z|z
    .rw[z];exact fun p=>by rw[p,W] at q;cases q
    .exact fun p=>by rw[p,W] at z;cases z
   .rcases a with z|z
    .rw[z];exact fun p=>by rw[p,C] at q;cases q
    .exact fun p=>by rw[p,C] at z;cases z
  have D:HOk X.prog X.w (upd H s.heap.objs.size (.tup [.int i,.str ⟨#[c]⟩])) h2:=HOk.track y V ⟨by show 2<=sizeLine;decide,[.int i tk,.str ⟨#[c]⟩ tc],.cons ⟨_,rfl⟩ (.cons ⟨_,rfl⟩ .nil),⟨_,Z,⟨rfl,rfl⟩,_,rfl⟩⟩
  have l:∀ b x,H b=some x->b≠s.heap.objs.size:=fun b x q=>bL q V
  have I2:Inv X pins σ (upd H s.heap.objs.size (.tup [.int i,.str ⟨#[c]⟩])) {s with heap:=h2,gens:=s.gens,drawn:=s.drawn,toks:=tk+1}:=by
   refine I.step (ch:=[e,it]) (fun b j=>?_) (fun b o _ _ a q _=>g b o (fun z=>a (by simp[z])) (fun z=>a (by simp[z])) q) (fun b o _ _ a q _=>⟨o.slots,g b o (fun z=>a (by simp[z])) (fun z=>a (by simp[z])) q⟩)
    (fun b o _ q n=>by rw[aJ (BB (AQ q))];exact n) (fun b o a q=>⟨o,g b o (fun z=>a (by simp[z])) (fun z=>a (by simp[z])) q⟩) (fun b ys q=>by rw[aJ (l b _ q)];exact q) (fun b o x q=>by rw[aJ (l b _ q)];exact q)
    (fun b ps q=>by rw[aJ (l b _ q)];exact q) (fun m hm=>?_) D I.bare
   .rcases A2.mp j with z|z
    .subst z;exact ⟨f3,f1,f4,f5⟩
    .obtain rfl:b=it:=by simpa using z
     exact ⟨S,M,N,g5⟩
   .obtain ⟨o,Y,ep,ho,r⟩:=hm
    exact ⟨o,Y,ep,g _ o (BZ f1) (BZ M) ho,r⟩
  refine ⟨.ref s.heap.objs.size,_,I2,rfl,⟨_,c,V,rfl,rfl,aa⟩,⟨⟨_,by simpa using se⟩,?_⟩,fun b j=>?_⟩
  .obtain ⟨o,q1,q2,q3⟩:=si
   exact ⟨o,(sb.2 it hei.symm).trans q1,q2,q3⟩
  .rcases A2.mp j with z|z
   .subst z;rw[aJ (BZ B)];exact W
   .obtain rfl:b=it:=by simpa using z
    obtain ⟨o,q,_⟩:=L
    rw[aJ (BB (AQ q))];exact C
 done:=by
  intro X O U hK a i pins s σ H E I J st G
  subst O U hK
  obtain ⟨⟨f,s1⟩,L⟩:=st
  obtain ⟨C,M,g2,S,N,g5⟩:=J it (by simp)
  have G:i=z.cps.size:=G
  subst G
  exact wpAny_pyNext_enum_endD (hT X.A.in1 (I.ok.hd a) it) s1 L fun h' eb=>⟨rfl,I.turned (t':=s.toks) (fun b o j q=>eb b o j q) C M S N g5⟩
 self:=fun _ _ _ _ _ st h=>E7 st.1.choose_spec h
def aG4(ta:TA):TI:=fun σ H R=>ta σ H fun vs H1=>∃ z,vs=[.str z]/\R (Ity z) H1
theorem aJO{es:List E1}{k1}{d:Pos}{a:E1}{ta:TA}{p pos:Pos}(r:Gl X "enumerate")(x:X.mg "enumerate"=none)(E:PA X [a] ta)(C:starEach [a] X.env=[(false,eval a X.env)]:=by rfl) :
  PI X (.Tuple es k1 d) (.Call (.Name "enumerate" p) [a] [] pos) (aG4 ta):=by
 intro pins s σ H R I h
 refine Call_ (n6 I r x FX (DM (thn (E pos pins s σ H _ I h) fun us s1 g=>?_) C rfl))
 obtain ⟨vs,H1,f,r1,y⟩:=g
 obtain ⟨z,e,q⟩:=y
 subst e
 obtain ⟨u,rfl,t,rfl⟩:=nB r1
 have l:∀ A:U9,A.handled=none->∀ it,Draws X.prog X.w A it [it] z.cps.size (fun i v=>∃ c u,z.cps[i]? = some c/\v=Value.str {cps:=#[c]} u) fun i h=>h.IsStrIter it (strIterType z) z t i:=fun A j it=>by
  unfold strIterType
  split
  · exact Draws.strAscii j it z t
  · exact Draws.strWide j it z t
 refine call_enumerate_str fun h' k B o m=>?_
 have D:Inv X pins σ H1 {s1 with heap:=h'}:=f.kept (t':=s1.toks) m
 refine E7 k ?_
 refine ⟨s1.heap.objs.size+1,[s1.heap.objs.size+1,s1.heap.objs.size],_,_,H1,rfl,D,aEV z t _ l _ _ (DL (GM _)),⟨⟨_,k⟩,B⟩,fun b n=>?_,q⟩
 rcases A2.mp n with z|z
 .subst z
  exact f.fpOk (EK _) (f.hok.fresh (EK _))
 .obtain rfl:b=s1.heap.objs.size:=by simpa using z
  exact f.fpOk (AG _) (f.hok.fresh (AG _))
end
theorem aAX{X:Cx}:jV X (.builtin "isinstance") (fun xs H Q=>∃ a ys c cv b,xs=[.ref a,c]/\SqT X.K H a ys/\aAV c=some cv/\PySem.W.kitOne X.K (.type "tuple") cv=some b/\Q (.bl b) H):=by
 intro pins s σ H xs us Q I r h
 obtain ⟨a,ys,c,cv,b,rfl,j,g,e,q⟩:=h
 obtain ⟨u,v,rfl,f,i⟩:=z6 r
 obtain rfl:=xD g i
 cases (show u=Value.ref a from f)
 obtain ⟨d,_,⟨o,h1,h2,_⟩,_⟩:=I.tuple j
 exact B8 PySem.W.kitx_tuple I.kIn ⟨o,h1,h2⟩ e (fun z=>nomatch z) fun tk=>⟨.bl b,H,I.tok _,rfl,q⟩
structure RoomH(k:Nat)(A:Around):Prop where
 dp:A.depth+3 * k+5 < recursionLimit
 un:A.units+16 * k+200 < cLine
theorem Room.h{k:Nat}{A:U9}(r:Room k A):RoomH k A:=⟨r.dp,r.un⟩
structure FnOkH(P:Program)(w:World)(K:Frag)(mg:Str->Option V9)(base:Heap)(k:Nat)(f:Az)(fd:FuncData)(ps:List Str)(sp:Sp):Prop where
 len:∀ vs H Q E,sp vs H Q E->vs.length=ps.length
 run:∀ (A:Around) (outer:List Env) (s:S9) (H:Hp) (args:Args) (us:List V9) (vs:List V) (Q:VK),RoomH k A->Env0 P w K mg base A outer s H->BindsTo s fd args (ps.zip us)->bJ vs us->sp vs H Q E0->
  codeAny (model P w) A (.call (.ref f) args) (CR CX0 outer P w H s Q E0) s
theorem FnOkH.ok{P:P9}{w:W9}{K:Frag}{mg:Str->O9 V9}{base:H9}{k:Nat}{f:Az}{fd:FuncData}{ps:List Str}{sp:Sp}(F:FnOkH P w K mg base k f fd ps sp)(b:∀ vs H Q E,sp vs H Q E->sp vs H Q E0):FnOk P w K mg base CX0 k f fd ps sp:=
 ⟨F.len,fun A outer s H args us vs Q E i a c d g=>EN (F.run A outer s H args us vs Q i.h a c d (b _ _ _ _ g)) fun r s' h=>by
  cases r with
  | error e=>exact h
  | ok fl=>cases fl<;>exact h⟩
end L2
namespace Mc
open PySem L2 PyProof.Rows
inductive Tn where
 | n (i:Int)|w (x:Str)
noncomputable def Tn.v:Tn->V
 | .n i=>.int i
 | .w x=>.str x
noncomputable def Tn.d:Tn->Dz
 | .n i=>.int i
 | .w x=>.str x
structure Rw where
 l:Tn
 c:List (Int×Int)
 r:Tn
def dM(c:Int×Int):Dz:=.tuple [.int c.1,.int c.2]
def rowD(r:Rw):Dz:=.tuple [r.l.d,.tuple (r.c.map dM),r.r.d]
def aY(rs:List Rw):Dz:=.tuple (rs.map rowD)
inductive CellsAt(K:Frag)(H:Hp):List V->List (Int×Int)->Prop
 | nil:CellsAt K H [] []
 | cons {q:Az} {a b:Int} {xs:List V} {cs:List (Int×Int)} (h:SqS K H q [.int a,.int b]) (t:CellsAt K H xs cs):CellsAt K H (.ref q::xs) ((a,b)::cs)
def aS5(K:Frag)(H:Hp)(v:V)(r:Rw):Prop:=∃ p b cs,v=.ref p/\SqS K H p [r.l.v,.ref b,r.r.v]/\SqS K H b cs/\CellsAt K H cs r.c
inductive RowsAt(K:Frag)(H:Hp):List V->List Rw->Prop
 | nil:RowsAt K H [] []
 | cons {v:V} {r:Rw} {xs:List V} {rs:List Rw} (h:aS5 K H v r) (t:RowsAt K H xs rs):RowsAt K H (v::xs) (r::rs)
noncomputable def Tn.ok:Tn->Prop
 | .n _=>True
 | .w x=>PyData.strOk x=true
def Rw.ok(r:Rw):Prop:=r.l.ok/\r.r.ok
theorem xE:∀ {xs:List Dz},(∀ x∈xs,x.canLay0=true)->PyData.canLayAll0 xs=true
 | [],_=>by rfl
 | x::t,h=>by
  show (x.canLay0 && PyData.canLayAll0 t)=true
  rw[h x (A0 ..),xE fun y a=>h y (AN _ a)];rfl
theorem qL{n:Nat}:∀ {xs:List Dz},(∀ x∈xs,x.depth<=n)->PyData.depthAll xs<=n
 | [],_=>CO _
 | x::t,h=>by
  show max x.depth (PyData.depthAll t)<=n
  exact Nat.max_le.mpr ⟨h x (A0 ..),qL fun y a=>h y (AN _ a)⟩
def Sh(n:Nat)(d:Dz):Prop:=d.canLay0=true/\d.depth<=n
theorem qM{n:Nat}{xs:List Dz}(h:∀ x∈xs,Sh n x):Sh (n+1) (.tuple xs):=⟨xE fun x a=>(h x a).1,by
 have:=qL fun x a=>(h x a).2
 show PyData.depthAll xs+1<=n+1
 omega⟩
theorem sh_lst{n:Nat}{xs:List Dz}(h:∀ x∈xs,Sh n x):Sh (n+1) (.list xs):=⟨xE fun x a=>(h x a).1,by
 have:=qL fun x a=>(h x a).2
 show PyData.depthAll xs+1<=n+1
 omega⟩
theorem qN(n:Nat)(i:Int):Sh n (.int i):=⟨rfl,CO _⟩
theorem oC(n:Nat){x:Str}(h:PyData.strOk x=true):Sh n (.str x):=⟨h,CO _⟩
theorem aLP(n:Nat){t:Tn}(h:t.ok):Sh n t.d:=by
 cases t with
 | n i=>exact qN n i
 | w x=>exact oC n h
theorem Sh.shaped{n:Nat}{d:Dz}(h:Sh n d)(a:n<=64):SeqAt.shaped d=true:=by
 show (d.canLay0 && decide (d.depth<=64))=true
 rw[h.1,AZ (BI h.2 a)];rfl
section
variable{K:Frag}{H:Hp}{p q:Az}{xs ys:List V}{o:HO}
inductive NoL:Dz->Prop where
 | int (i:Int):NoL (.int i)
 | str (i:Str):NoL (.str i)
 | tup {ds:List Dz} (h:∀ d∈ds,NoL d):NoL (.tuple ds)
end
section
variable{K:Frag}{H:Hp}
theorem cells_of:∀ {xs:List V} {cs:List (Int×Int)},DatVs K H xs (cs.map dM)->CellsAt K H xs cs
 | xs,[],h=>by obtain rfl:=h.nil_of;exact .nil
 | xs,c::cs,h=>by
  obtain ⟨x,t,rfl,h1,h2⟩:=h.cons_of
  obtain ⟨a,ys,rfl,i,b⟩:=h1.tup_of
  obtain ⟨j,t0,rfl,f,g⟩:=b.cons_of
  obtain ⟨k,l,rfl,e,d⟩:=g.cons_of
  obtain rfl:=d.nil_of
  obtain rfl:=f.int_of
  obtain rfl:=e.int_of
  exact .cons (.inr i) (cells_of h2)
end
section
variable{K:Frag}{h:H9}{mg:Str->O9 V9}
theorem cH{x:Str}{st:Stmt}{ps:List Str}{f:Az}{i:V9}{od e:O9 Az}{g:Array (O9 V9)}{kV doc pm d ct:V9}(X:K.In h)(G:h.Ns mainGlobals mg)
  (a:PySem.W.nsIn K mainGlobals x=some (some (.ref f))) (l:K.lookup f=some ⟨i,od,.func (PySem.W.fnOf x x (dR st) (cG st) (aK st) .none kV doc pm e d ct),g⟩)
  (c:PySem.W.codeIn K d x=true) (k:PySem.W.keepIn K (.ref f)=true)
  (b:∀ (kV doc pm:V9) (e:O9 Az) (d ct:V9) (us:List V9),us.length=ps.length->bindArgs (PySem.W.fnOf x x (dR st) (cG st) (aK st) .none kV doc pm e d ct) ⟨us,[]⟩=pure (ps.zip us)):DefAt K mg x st ps:=by
 have F:=aAO (st:=st) l c k
 exact ⟨f,_,F,F.binds b,C4 X G a⟩
end
section
variable{K:Frag}{h:H9}{mg:Str->O9 V9}
theorem xF{W C N:Az}{bs sub:List V9}{nm q:Str}{ab:Bool}{sn:List Str}{col:O9 Bool}{dd:O9 Az}{k0 k1 k2 k3 k5:O9 V9}(l:K.lookup C=some (excClassObj nm q C N bs (.ref W::SX.f8) true sn sub ab col dd k0 k1 k2 k3 k5 "ValueError.__new__"))
 (c:PySem.W.findIn K (.ref C) "__setattr__"=some (some (.builtin "object.__setattr__"))) (f:PySem.W.findIn K (.ref C) "__getattribute__"=some (some (.builtin "BaseException.__getattribute__"))) (d:PySem.W.findIn K (.ref C) "__getattr__"=some none) (cl:PySem.W.findIn K (.ref C) "__class__"=some (some (.builtin "object.__class__")))
 (b:PySem.W.specialIn K (.builtin "object.__class__") "__get__"=some (some (.builtin "getset_descriptor.__get__"))) (a:PySem.W.takesIn K (.builtin "object.__class__")=some true) (e:PySem.W.keepIn K (.ref C)=true):SX.ExcC K W C:=⟨⟨_,_,_,_,_,_,_,_,_,_,_,_,_,_,l⟩,c,f,d,cl,b,a,e⟩
theorem aMW{t:V9}{C:Az}{cd:ClassData}{b:Bool}(h0:(t == Value.ref C)=false)(h1:PySem.W.clsIn K C=some cd)(h2:PySem.W.typeIn K (.ref C)=some (.type "type"))(a:PySem.W.subIn K t (.ref C)=some b):PySem.W.kitOne K t (.ref C)=some b:=by
 unfold PySem.W.kitOne
 rw[h0,AC (by decide)]
 unfold PySem.W.kitCls
 simp only[h1,h2]
 rw[AD (by rfl)]
 exact a
end
noncomputable def bR(n c:Nat):Bool:=decide (97<=c/\c < 97+n)
noncomputable def f6(n:Nat):Nat->List Nat->O9 Nat
 | _,[]=>none
 | i,c::t=>if bR n c=true then f6 n (i+1) t else some i
theorem l9(n i c:Nat)(t:List Nat):f6 n i (c::t)=if bR n c=true then f6 n (i+1) t else some i:=rfl
theorem occ_one(x:Str)(c:Nat):(Builtin.Str.occurrences x ⟨#[c]⟩ 0 x.length 1=[]/\∀ i:Nat,x.cps.toList[i]? ≠ some c)\/∃ (i:Nat) (r:List Nat),Builtin.Str.occurrences x ⟨#[c]⟩ 0 x.length 1=i::r/\x.cps.toList[i]? = some c/\∀ k:Nat,k < i->x.cps.toList[k]? ≠ some c:=by
 rcases StrLaws.occ_head x ⟨#[c]⟩ 1 (AG _) with ⟨h1,h2⟩|⟨i,r,h1,h2,a⟩
 · exact .inl ⟨h1, fun i e => h2 i ((GD x c i).mpr e)⟩
 · exact .inr ⟨i, r, h1, (GD x c i).mp h2, fun k b e => a k b ((GD x c k).mpr e)⟩
theorem aMX{n:Nat}(h1:1<=n)(h2:n<=3):(Txt.slice "abc" none (some (n:Int))).cps.toList=[97,98,99].take n:=by
 obtain rfl|rfl|rfl:n=1\/n=2\/n=3:=by omega
 all_goals decide +kernel
theorem y7{n c:Nat}(h1:1<=n)(h2:n<=3):bR n c=true↔∃ i:Nat,(([97,98,99]:List Nat).take n)[i]? = some c:=by
 unfold bR
 rw[BP]
 constructor
 .intro h
  refine ⟨c - 97,?_⟩
  obtain rfl|rfl|rfl:n=1\/n=2\/n=3:=by omega
  .obtain rfl:c=97:=by omega
   rfl
  .obtain rfl|rfl:c=97\/c=98:=by omega
   all_goals rfl
  .obtain rfl|rfl|rfl:c=97\/c=98\/c=99:=by omega
   all_goals rfl
 .rintro ⟨i,e⟩
  obtain ⟨hi,b⟩:=AM.mp e
  have a:=FF hi
  rw[b] at a
  obtain rfl|rfl|rfl:n=1\/n=2\/n=3:=by omega
  all_goals
   simp at a
   omega
theorem aJP{n c:Nat}(h1:1<=n)(h2:n<=3):(!(!(Builtin.Str.occurrences (Txt.slice "abc" none (some (n:Int))) ⟨#[c]⟩ 0 (Txt.slice "abc" none (some (n:Int))).length 1).isEmpty)) = !bR n c:=by
 have e:=aMX h1 h2
 rcases occ_one (Txt.slice "abc" none (some (n:Int))) c with ⟨a,b⟩|⟨i,r,a,b,_⟩
 .rw[a]
  have:bR n c=false:=Bool.eq_false_iff.mpr fun z=>by
   obtain ⟨i,hi⟩:=(y7 h1 h2).mp z
   rw[e] at b
   exact b i hi
  rw[this];rfl
 .rw[a]
  rw[e] at b
  rw[(y7 h1 h2).mpr ⟨i,b⟩];rfl
theorem aG5{c:Nat}(h:bR 3 c=true):∃ r,Builtin.Str.occurrences "abc" ⟨#[c]⟩ 0 ("abc":Str).length 1=(c - 97)::r:=by
 have h:=BV h
 refine ⟨[],?_⟩
 obtain rfl|rfl|rfl:c=97\/c=98\/c=99:=by omega
 all_goals decide +kernel
end Mc
namespace L2
open PySem PySem.Spec PyProof.Rows
section
variable{κ:Type}[DecidableEq κ]
theorem hU.getD{o:O9 V}{u:O9 V9}{d:V}{d':V9}(r:hU o u)(a:bE d d'):bE (o.getD d) (u.getD d'):=by
 cases o with
 | none=>cases u with
  | none=>exact a
  | some _=>exact (show False from r).elim
 | some _=>cases u with
  | none=>exact (show False from r).elim
  | some _=>exact r
theorem KV.length{a:List (κ×V)}{vs:List (κ×V9)}(r:KV a vs):a.length=vs.length:=F5 r
end
theorem aLQ{P:P9}{w:W9}{k:Key}{u:V9}(r:bE (kV k) u):(d5 P w).is k u=true:=by
 cases k with
 | inl i=>obtain ⟨t,e⟩:=(show ∃ t,u=Value.int i t from r);subst e;exact aCN P w i t
 | inr x=>obtain ⟨t,e⟩:=(show ∃ t,u=Value.str x t from r);subst e;exact aCO P w x t
section
variable{X:Cx}{pins:List (Az×Obj)}{σ:St}{H:Hp}{s:S9}{a:Az}{y v:V}{u r:V9}{o:O9 V}{A:U9}{E:V9->S9->Prop}
theorem Inv.big(I:Inv X pins σ H s):sysModules < s.heap.objs.size:=by
 have h:mainGlobals < s.heap.objs.size:=(I.mod.glob.keeps I.bk).lt
 exact Nat.lt_trans (by decide) h
theorem sB{h':H9}{t':Nat}{c:HO}(I:Inv X pins σ H s)(h:Mut (H a))(g:Heap.SameBut a s.heap h')(f:∃ q,h'.get? a=some q)(new:cF X.prog X.w (upd H a c) h' a c) :
  Inv X pins σ (upd H a c) {s with heap:=h',toks:=t'}:=
 I.write (x:=a) (e:=a) h (.inl rfl) (fun b q d z=>(g.2 b d).trans z) f new
end
def aQJ(i:E1):Prop:=∀ ov iv,subscripted i false ov iv=operate [ov,iv] (getItem ov iv)
theorem aMY{prog:P9}{w:W9}{A:U9}{E:V9->S9->Prop}{s:S9}{env:Env}{value a:E1}{pos:Pos}{T id:String}{Q:V9->S9->Prop}
  (j:typeLookup (.type T) "__getitem__"=pure (some (.builtin id))) (k:aQJ a)
  (h:wpAny (model prog w) A (eval value env) (fun o s₁=>wpAny (model prog w) A (eval a env) (fun i s₂=>s₂.TypeIs o T/\wpAny (model prog w) A (getItem o i) Q E s₂) E s₁) E s) :
  wpAny (model prog w) A (eval (.Subscript value a pos) env) Q E s:=by
 refine Subscript_ (BO h (fun o s₁ e=>BO e (fun i s₂ b=>?_) fun _ _ x=>x) fun _ _ x=>x)
 obtain ⟨g,b⟩:=b
 unfold subscriptTail
 refine AA ?_
 rw[getitemInPython_of_ne g.not_modules]
 refine AA (GV g j ?_)
 have d:wpAny (model prog w) A (subscripted a false o i) (fun r c=>wpAny (model prog w) A (letTemporaryGo value o r >>= fun _=>pure r) Q E c) E s₂:=by
  rw[k o i]
  exact wpAny_operating (BO b (fun r c f=>AA (wpAny_letTemporaryGo (AE f))) fun _ _ x=>x)
 first
  | exact AE (AA d)
  | exact AA (AE (AA d))
  | exact AA d
structure M1(X:Cx)(o:Expr)(m:Str)(apos:Pos)(e:Expr)(cpos:Pos):Prop where
 base:attributeBase o m X.env (eval o X.env)=eval o X.env
 few:((backTo cpos (starEach [e] X.env)).all (fun x=>!x.1) && (backToKw cpos (keywordEach [] X.env)).all (fun x=>x.1.isSome)
  && decide (([e]:List Expr).length+([]:List Keyword).length+(if ([]:List Keyword).isEmpty then 0 else 1) < 30))=true
 line:(apos.endLine == cpos.line)=true
 trees:backTo cpos (starEach [e] X.env)=[(false,eval e X.env)]
structure M2(X:Cx)(o:Expr)(m:Str)(apos:Pos)(e f:Expr)(cpos:Pos):Prop where
 base:attributeBase o m X.env (eval o X.env)=eval o X.env
 few:((backTo cpos (starEach [e,f] X.env)).all (fun x=>!x.1) && (backToKw cpos (keywordEach [] X.env)).all (fun x=>x.1.isSome)
  && decide (([e,f]:List Expr).length+([]:List Keyword).length+(if ([]:List Keyword).isEmpty then 0 else 1) < 30))=true
 line:(apos.endLine == cpos.line)=true
 trees:backTo cpos (starEach [e,f] X.env)=[(false,eval e X.env),(false,eval f X.env)]
end L2
namespace Mc
open PySem L2 PyProof.Rows
def Tn.good(n:Int):Tn->Prop
 | .n i=>0<=i/\i < n
 | .w x=>x="by"\/x="out"
def o9(n:Int)(c:Int×Int):Prop:=0<=c.1/\c.1 < n/\(c.2=1\/c.2 = -1)
def Rw.good(n:Int)(r:Rw):Prop:=r.l.good n/\r.r.good n/\∀ c∈r.c,o9 n c
theorem Tn.good.ok{n:Int}{t:Tn}(h:t.good n):t.ok:=by
 cases t with
 | n i=>trivial
 | w x=>
  rcases h with rfl|rfl
  · exact (show PyData.strOk _ = true by decide +kernel)
  · exact (show PyData.strOk _ = true by decide +kernel)
theorem Rw.good.ok{n:Int}{r:Rw}(h:r.good n):r.ok:=⟨h.1.ok,h.2.1.ok⟩
structure Mach(rs:List Rw)(sg:Nat):Prop where
 len:1<=rs.length
 len2:rs.length<=1000
 sg1:1<=sg
 sg3:sg<=3
 row:∀ r∈rs,r.good rs.length/\r.c.length=sg
def bD(sg:Nat)(z:List Nat):Prop:=z.length<=1000/\∀ c∈z,bR sg c=true
theorem aAY{sg:Nat}:∀ {z:List Nat} {i:Nat},(∀ c∈z,bR sg c=true)->f6 sg i z=none
 | [],_,_=>rfl
 | c::t,i,h=>by
  rw[l9,AD (h c (by simp))]
  exact aAY fun x a=>h x (by simp[a])
noncomputable def aP(rs:List Rw)(q:Int):Rw:=rs.getD q.toNat ⟨.n 0,[],.n 0⟩
noncomputable def cK(rs:List Rw)(z:List Nat)(st:Int×Int):Tn×Int:=
 if st.1=0 then ((aP rs st.2).l,1) else if st.1=(z.length:Int)+1 then ((aP rs st.2).r,-1) else
  (.n ((aP rs st.2).c.getD (z.getD (st.1.toNat - 1) 97 - 97) (0,0)).1,((aP rs st.2).c.getD (z.getD (st.1.toNat - 1) 97 - 97) (0,0)).2)
def mB(rs:List Rw)(z:List Nat)(st:Int×Int):O9 (Int×Int):=
 match (cK rs z st).1 with
 | .w _=>none
 | .n q=>some (st.1+(cK rs z st).2,q)
def mC(rs:List Rw)(z:List Nat)(st:Int×Int):Prop:=0<=st.1/\st.1<=(z.length:Int)+1/\0<=st.2/\st.2 < (rs.length:Int)
theorem eF{rs:List Rw}{q:Int}(h0:0<=q)(h1:q < rs.length):rs[q.toNat]? = some (aP rs q):=by
 have h:q.toNat < rs.length:=by omega
 unfold aP
 rw[AS,AJ h];rfl
theorem aMZ{rs:List Rw}{sg:Nat}{z:List Nat}{st:Int×Int}(S:bD sg z)(V:mC rs z st)(h0:st.1≠0)(h1:st.1≠(z.length:Int)+1):∃ c,z[st.1.toNat - 1]? = some c/\bR sg c=true/\z.getD (st.1.toNat - 1) 97=c:=by
 obtain ⟨a,b,_,_⟩:=V
 have d:st.1.toNat - 1 < z.length:=by omega
 refine ⟨z[st.1.toNat - 1],by simp[d],S.2 _ (FF d),by rw[AS,AJ d];rfl⟩
theorem aJQ{rs:List Rw}{sg:Nat}{z:List Nat}{st:Int×Int}(M:Mach rs sg)(S:bD sg z)(V:mC rs z st)(h0:st.1≠0)(h1:st.1≠(z.length:Int)+1) :
  ∃ c,(aP rs st.2).c[z.getD (st.1.toNat - 1) 97 - 97]? = some c/\(aP rs st.2).c.getD (z.getD (st.1.toNat - 1) 97 - 97) (0,0)=c/\o9 rs.length c:=by
 obtain ⟨c,_,b,e⟩:=aMZ S V h0 h1
 rw[e]
 have b:=BV b
 have d:=M.row _ (AW (eF V.2.2.1 V.2.2.2))
 have a:c - 97 < (aP rs st.2).c.length:=by rw[d.2];omega
 refine ⟨(aP rs st.2).c[c - 97],by simp[a],by rw[AS,AJ a];rfl,d.1.2.2 _ (FF a)⟩
theorem aEW{rs:List Rw}{sg:Nat}{z:List Nat}{st st':Int×Int}(M:Mach rs sg)(S:bD sg z)(V:mC rs z st)(h:mB rs z st=some st'):mC rs z st':=by
 have k:=M.row _ (AW (eF V.2.2.1 V.2.2.2))
 obtain ⟨a,b,c,d⟩:=id V
 unfold mB cK at h
 by_cases i:st.1=0
 .simp only[AD i] at h
  have g:=k.1.1
  cases e:(aP rs st.2).l with
  | w x=>rw[e] at h;cases h
  | n q=>
   rw[e] at h g
   cases h
   exact ⟨by show 0<=st.1+1;omega,by show st.1+1<=_;omega,g.1,g.2⟩
 .by_cases h1:st.1=(z.length:Int)+1
  .simp only[AC i,AD h1] at h
   have g:=k.1.2.1
   cases e:(aP rs st.2).r with
   | w x=>rw[e] at h;cases h
   | n q=>
    rw[e] at h g
    cases h
    exact ⟨by show 0<=st.1 + -1;omega,by show st.1 + -1<=_;omega,g.1,g.2⟩
  .obtain ⟨j,_,e,g⟩:=aJQ M S V i h1
   simp only[AC i,AC h1] at h
   rw[e] at h
   cases h
   obtain ⟨m,o,f⟩:=g
   refine ⟨?_,?_,m,o⟩
   .show 0<=st.1+j.2;rcases f with f|f<;>omega
   .show st.1+j.2<=_;rcases f with f|f<;>omega
theorem y8:∀ (N:Nat) (l:List Nat),l.Nodup->(∀ x∈l,x < N)->l.length<=N
 | 0,l,_,h=>by
  cases l with
  | nil=>exact AG _
  | cons a t=>exact absurd (h a (by simp)) (by omega)
 | N+1,l,hn,h=>by
  have ih:=y8 N (l.erase N) (hn.erase N) (fun x b=>by
   have:=(hn.mem_erase_iff).mp b
   have h2:=h x this.2
   omega)
  have:=List.length_erase (a:=N) (l:=l)
  split at this<;>omega
noncomputable def aEX(rs:List Rw)(z:List Nat):Nat->List (Int×Int)->Int×Int->List (Int×Int)
 | 0,ps,st=>ps++[st]
 | k+1,ps,st=>if st∈ps then ps++[st] else match mB rs z st with
  | none=>ps++[st]
  | some st'=>aEX rs z k (ps++[st]) st'
def aEY(rs:List Rw)(z:List Nat):Nat:=(z.length+2) * rs.length
def aS6(rs:List Rw)(z:List Nat):List (Int×Int):=aEX rs z (aEY rs z) [] (0,0)
structure Way(rs:List Rw)(z:List Nat)(ps:List (Int×Int))(st:Int×Int)(k:Nat):Prop where
 nd:ps.Nodup
 val:∀ s∈ps++[st],mC rs z s
 num:ps.length+k=aEY rs z
 res:aEX rs z k ps st=aS6 rs z
end Mc
namespace L2
open PySem PySem.Spec PyProof.Rows
theorem oE:∀ {ys:List Str} {us:List V9},bJ (ys.map V.str) us->StrsAre us ys
 | [],_,.nil=>.nil
 | y::ys,_,.cons r t=>by obtain ⟨t',rfl⟩:=r;exact .cons y t' (oE t)
def aLR(K:Frag):V->List V->Hp->VK->Prop:=fun x vs H Q=>∃ (sep:Str) (a:Az) (ys:List Str),x=.str sep/\vs=[.ref a]/\SqL K H a (ys.map V.str)/\(ys.map fun y=>y.length).sum+ys.length * sep.length<=16777216/\Q (.str (Txt.join sep ys)) H
theorem aM0{X:Cx}:MtR X "str.join" (aLR X.K):=by
 intro pins s σ H x vs v us Q I d j h
 obtain ⟨g,a,ys,rfl,rfl,i,e,q⟩:=h
 obtain ⟨t,rfl⟩:=d
 obtain ⟨u,rfl,c⟩:=j.one
 cases (show u=Value.ref a from c)
 obtain ⟨b,r,f,_⟩:=I.list i
 exact join_list (items:=b.toArray) f.isList (by simpa using oE r) e fun l k=>⟨.str _,H,I.tok _,⟨_,rfl⟩,q⟩
end L2
namespace Mc
open PySem L2 PyProof.Rows
noncomputable def one(c:Nat):Str:=⟨#[c]⟩
theorem aG6(cs:List Nat):∀ (a:Array Nat),(List.foldl (fun acc p=>acc++("":Str).cps++p.cps) a (cs.map one)).toList=a.toList++cs:=by
 induction cs with
 | nil=>intro a;simp
 | cons c t ih=>
  intro a
  rw[AL,EW,ih]
  have:("":Str).cps = #[]:=rfl
  rw[this]
  simp[one]
theorem aJR(cs:List Nat):(Txt.join "" (cs.map one)).cps.toList=cs:=by
 unfold Txt.join Builtin.Str.glued
 cases cs with
 | nil=>rfl
 | cons c t=>
  show (List.foldl _ (one c).cps (t.map one)).toList=_
  rw[aG6];rfl
theorem aM1(cs:List Nat):((cs.map one).map fun y=>y.length).sum=cs.length:=by
 induction cs with
 | nil=>rfl
 | cons c t ih=>rw[AL,AL,List.sum_cons,ih,AY];show 1+_=_;omega
theorem aC1{x y:Str}(h:x.cps.toList=y.cps.toList):x=y:=by
 cases x;cases y
 simp only[Str.mk.injEq]
 exact Array.toList_inj.mp h
theorem aM2(cs:List Nat):Txt.join "" (cs.map one)=⟨cs.toArray⟩:=aC1 (by rw[aJR])
theorem aM3{k:Int}{sg:Nat}(h1:1<=sg)(d:sg<=3):∃ c,atI ("abc":Str).cps.toList (k % (sg:Int))=some c/\bR sg c=true:=by
 have b:=GW k (show (sg:Int)≠0 by omega)
 have h2:=FY k (show (0:Int) < sg by omega)
 obtain ⟨j,a⟩:∃ j:Nat,k % (sg:Int)=j:=⟨(k % (sg:Int)).toNat,by omega⟩
 rw[a] at b h2 ⊢
 refine ⟨97+j,?_,AZ (by omega)⟩
 obtain rfl|rfl|rfl:j=0\/j=1\/j=2:=by omega
 all_goals decide +kernel
section
variable{S O:Type}
inductive Ex(st:S->Option (S⊕O)):Nat->S->O->Prop
 | out {s:S} {o:O} (h:st s=some (.inr o)):Ex st 0 s o
 | go {s s':S} {o:O} {n:Nat} (h:st s=some (.inl s')) (t:Ex st n s' o):Ex st (n+1) s o
inductive Rc(st:S->Option (S⊕O)):Nat->S->S->Prop
 | nil {s:S}:Rc st 0 s s
 | cons {s s' s'':S} {n:Nat} (h:st s=some (.inl s')) (t:Rc st n s' s''):Rc st (n+1) s s''
variable{st:S->O9 (S⊕O)}
theorem Ex.det{n c:Nat}{s:S}{o o':O}(a:Ex st n s o)(b:Ex st c s o'):n=c/\o=o':=by
 induction a generalizing c o' with
 | out h=>
  cases b with
  | out h'=>rw[h] at h';cases h';exact ⟨rfl,rfl⟩
  | go h' t=>rw[h] at h';cases h'
 | go h t ih=>
  cases b with
  | out h'=>rw[h] at h';cases h'
  | go h' t'=>
   rw[h] at h';cases h'
   obtain ⟨e,d⟩:=ih t'
   exact ⟨by omega,d⟩
theorem Rc.ex{k n:Nat}{s s':S}{o:O}(a:Rc st k s s')(b:Ex st n s o):∃ n',n=n'+k/\Ex st n' s' o:=by
 induction a generalizing n with
 | nil=>exact ⟨n,rfl,b⟩
 | cons h t ih=>
  cases b with
  | out h'=>rw[h] at h';cases h'
  | go h' t'=>
   rw[h] at h';cases h'
   obtain ⟨n',e,q⟩:=ih t'
   exact ⟨n',by omega,q⟩
theorem Rc.to{k n:Nat}{s s':S}{o:O}(a:Rc st k s s')(b:Ex st n s' o):Ex st (n+k) s o:=by
 induction a with
 | nil=>exact b
 | cons h t ih=>exact .go h (ih b)
theorem Rc.snoc{k:Nat}{s s' b:S}(a:Rc st k s s')(h:st s'=some (.inl b)):Rc st (k+1) s b:=by
 induction a with
 | nil=>exact .cons h .nil
 | cons h' t ih=>exact .cons h' (ih h)
theorem Rc.round{m n:Nat}{s:S}{o:O}(a:Rc st (m+1) s s):¬ Ex st n s o:=fun b=>by
 obtain ⟨c,e,q⟩:=a.ex b
 have:=(b.det q).1
 omega
def Res(st:S->O9 (S⊕O))(s:S)(r:O9 O):Prop:=∀ o,r=some o↔∃ n,Ex st n s o
theorem Res.det{s:S}{r c:O9 O}(a:Res st s r)(b:Res st s c):r=c:=by
 apply Option.ext
 intro o
 exact (a o).trans (b o).symm
theorem Res.out{s:S}{o:O}(h:st s=some (.inr o)):Res st s (some o):=fun o'=>by
 constructor
 · intro e; cases e; exact ⟨0, .out h⟩
 · rintro ⟨n, q⟩; rw [((Ex.out h).det q).2]
theorem Res.step{s s':S}{r:O9 O}(h:st s=some (.inl s'))(a:Res st s' r):Res st s r:=fun o=>by
 rw[a o]
 constructor
 .rintro ⟨n,q⟩;exact ⟨n+1,.go h q⟩
 .rintro ⟨n,q⟩
  cases q with
  | out h'=>rw[h] at h';cases h'
  | go h' t=>rw[h] at h';cases h';exact ⟨_,t⟩
theorem Res.round{s:S}{m:Nat}(a:Rc st (m+1) s s):Res st s none:=fun o=>by
 constructor
 · intro e; cases e
 · rintro ⟨n, q⟩; exact absurd q a.round
open Classical in
noncomputable def bS(st:S->O9 (S⊕O))(s:S):O9 O:=if h:∃ o n,Ex st n s o then some h.choose else none
theorem j8(st:S->O9 (S⊕O))(s:S):Res st s (bS st s):=fun o=>by
 unfold bS
 by_cases h:∃ o n,Ex st n s o
 .rw[dif_pos h]
  obtain ⟨n,q⟩:=h.choose_spec
  constructor
  · intro e; cases e; exact ⟨n, q⟩
  · rintro ⟨n', q'⟩; rw [(q.det q').2]
 .rw[dif_neg h]
  constructor
  · intro e; cases e
  · rintro ⟨n, q⟩; exact absurd ⟨o, n, q⟩ h
theorem Res.eq{s:S}{r:O9 O}(a:Res st s r):r=bS st s:=a.det (j8 st s)
theorem tK{a:Type}{st':a->O9 (a⊕O)}{s:S}{s':a}(h:∀ o,(∃ n,Ex st n s o)↔∃ n,Ex st' n s' o):bS st s=bS st' s':=
 Option.ext fun o=>((j8 st s) o).trans ((h o).trans ((j8 st' s') o).symm)
structure Und2(st:S->Option (S⊕O))(s0:S)(ps:List S)(s:S):Prop where
 nd:ps.Nodup
 back:∀ p∈ps,∃ m,Rc st (m+1) p s
 res:∀ r,Res st s r->Res st s0 r
theorem Und2.start{a:S}:Und2 st a [] a:=⟨E5,fun p b=>by simp at b,fun r h=>h⟩
theorem Und2.next{c s s':S}{ps:List S}(U:Und2 st c ps s)(i:s∉ps)(h:st s=some (.inl s')):Und2 st c (ps++[s]) s' where
 nd:=by
  rw[EL]
  exact ⟨U.nd,by simp,fun a g b d e=>by rw[A4.mp d] at e;exact i (e▸g)⟩
 back:=fun p f=>by
  rcases BW.mp f with q|q
  · obtain ⟨m, r⟩ := U.back p q; exact ⟨m + 1, r.snoc h⟩
  · rw [A4.mp q]; exact ⟨0, .cons h .nil⟩
 res:=fun r a=>U.res r (a.step h)
theorem Und2.met{a s:S}{ps:List S}(U:Und2 st a ps s)(h:s∈ps):bS st a=none:=by
 obtain ⟨m,r⟩:=U.back s h
 exact ((U.res _ (Res.round r)).eq).symm
theorem Und2.outs{a s:S}{ps:List S}{o:O}(U:Und2 st a ps s)(h:st s=some (.inr o)):bS st a=some o:=((U.res _ (Res.out h)).eq).symm
end
abbrev Th:=O9 (Int×Int)
structure Tb where
 f:List Th
 a:List Th
def aG7(m:Nat):Th->Prop
 | none=>True
 | some (d,q)=>(d=1\/d = -1)/\0<=q/\q < (m:Int)
structure Tb.good(m:Nat)(t:Tb):Prop where
 lf:t.f.length=m
 la:t.a.length=m
 gf:∀ x∈t.f,aG7 m x
 ga:∀ x∈t.a,aG7 m x
def aXK(k n:Int)(s:Int×Int×Int):Int×Int×Int:=(if s.1 < k then s.1 else if s.1=k then (if s.2.1=1 then k else k+n - 1) else s.1+n - 1,s.2.1,s.2.2)
theorem qO{S:Type}(f:S->Nat)(N:Nat)(l:List S)(i:l.Nodup)(d:∀ s∈l,f s < N)(hi:∀ a∈l,∀ b∈l,f a=f b->a=b):l.length<=N:=by
 have h:=y8 N (l.map f) ?_ ?_
 .rw[AB] at h;exact h
 .unfold List.Nodup
  rw[List.pairwise_map]
  exact List.Pairwise.imp_of_mem (fun {a b} ha hb hab e=>hab (hi a ha b hb e)) i
 .intro x c
  obtain ⟨s,g,rfl⟩:=A5.mp c
  exact d s g
theorem aAZ{S O:Type}{st:S->O9 (S⊕O)}{s s':S}(h:st s=some (.inl s')):bS st s=bS st s':=(((j8 st s').step h).eq).symm
theorem gF{S O:Type}{st:S->O9 (S⊕O)}{s:S}{o:O}(h:st s=some (.inr o)):bS st s=some o:=((Res.out h).eq).symm
end Mc
namespace L2
open PySem PySem.Spec PyProof.Rows
def Its(z:Str):It:=⟨fun i _=>i < z.cps.size,fun i H x H'=>H'=H/\∃ c,z.cps[i]? = some c/\x=.str ⟨#[c]⟩,fun i _=>i=z.cps.size⟩
theorem aA0{P:P9}{w:W9}{K:Frag}{tg:E1}(z:Str)(t:Tok)(T:String)(G:∀ A:U9,A.handled=none->∀ it,Walks P w A it [it] [it] z.cps.size (SignAt z) fun i h=>h.IsStrIter it T z t i)
  (f:∀ (A:U9) (it:Az) (i:Nat) (s:S9) (Q E:V9->S9->Prop),s.heap.IsStrIter it T z t i->Q (.ref it) s->wpAny (model P w) A (pyIter (.ref it)) Q E s)
  (D:["enumerate","zip","dict_itemiterator","dict_reverseitemiterator","odict_iterator","itertools.zip_longest","itertools.pairwise"].contains T=false) (it:Az):Turn P w K tg (Its z) [it] it (fun i h=>h.IsStrIter it T z t i) where
 mem:=by simp
 obj:=fun i h st b a=>by
  obtain rfl:b=it:=by simpa using a
  obtain ⟨o,e,c,d⟩:=st
  exact ⟨o,e,fun v z=>by rw[d] at z;cases z⟩
 keep:=fun i h h' st k=>by
  obtain ⟨o,e,c,d⟩:=st
  exact ⟨o,k it (by simp) o e,c,d⟩
 item:=by
  intro X p r F y i pins s σ H E I l st j
  subst p r F
  obtain ⟨u,n,L,x,q,B⟩:=l it (by simp)
  refine (G X.A (I.ok.hd y) it).item i s _ E j st fun v h' tk M g m=>?_
  obtain ⟨c,tc,C,rfl⟩:=M
  have N:Inv X pins σ H {s with heap:=h',toks:=tk}:=I.turned (t':=tk) (it:=it) (fun b o a e=>m b o (by simpa using a) e) u n x q B
  obtain ⟨o,e,J,d⟩:=id g
  exact ⟨_,rfl,z5 (s:={s with heap:=h',toks:=tk}) e J d D ⟨.str ⟨#[c]⟩,H,N,⟨_,rfl⟩,⟨rfl,c,C,rfl⟩,g,fun b a=>(l b a).1⟩⟩
 done:=by
  intro X p r F y i pins s σ H E I l st j
  subst p r F
  obtain ⟨u,n,L,x,q,B⟩:=l it (by simp)
  have j:i=z.cps.size:=j
  subst j
  exact (G X.A (I.ok.hd y) it).done s _ E st fun h' tk m=>⟨rfl,I.turned (t':=tk) (it:=it) (fun b o a e=>m b o (by simpa using a) e) u n x q B⟩
 self:=fun A i s Q E st h=>f A it i s Q E st h
def aU5(te:TE):TI:=fun σ H R=>te σ H fun x H1=>∃ z,x=.str z/\R (Its z) H1
theorem aG8{X:Cx}{tg l:E1}{tl:TE}(m:PE X l tl):PI X tg l (aU5 tl):=by
 intro pins s σ H R I h
 refine thn (m pins s σ H _ I h) fun v s1 f=>?_
 obtain ⟨x,H1,g,r1,p⟩:=f
 obtain ⟨z,e,q⟩:=p
 subst e
 obtain ⟨t,rfl⟩:=r1
 refine wpAny_pyIter_strU ?_
 have c:Inv X pins σ H1 {s1 with heap:=s1.heap.push {cls:=.type (strIterType z),data:=.fields #[.str z t,.int 0 0]}}:=g.kept (t':=s1.toks) fun b o e=>AI _ e
 have st:(s1.heap.push {cls:=.type (strIterType z),data:=.fields #[.str z t,.int 0 0]}).IsStrIter s1.heap.objs.size (strIterType z) z t 0:=⟨_,BA _ rfl,rfl,rfl⟩
 have a:∀ b∈[s1.heap.objs.size],kW X pins H1 b:=fun b n=>by
  obtain rfl:=A4.mp n
  exact g.fpOk (AG _) (g.hok.fresh (AG _))
 by_cases k:(z.cps.all fun x=>decide (x < 128))=true
 .have d:strIterType z="str_ascii_iterator":=by unfold strIterType;rw[AD k]
  rw[d] at st c ⊢
  exact ⟨s1.heap.objs.size,[s1.heap.objs.size],_,_,H1,rfl,c,aA0 z t "str_ascii_iterator" (fun A j it=>Walks.strAscii j it z t) (fun A it i s Q E st h=>wpAny_pyIter_striter_ascii st h) (by decide) _,st,a,q⟩
 .have d:strIterType z="str_iterator":=by unfold strIterType;rw[AC k]
  rw[d] at st c ⊢
  exact ⟨s1.heap.objs.size,[s1.heap.objs.size],_,_,H1,rfl,c,aA0 z t "str_iterator" (fun A j it=>Walks.strWide j it z t) (fun A it i s Q E st h=>wpAny_pyIter_striter_wide st h) (by decide) _,st,a,q⟩
theorem aC2:∀ {xs:List V} {ys:List V9},xs.length=ys.length->(∀ (i:Nat) x y,xs[i]? = some x->ys[i]? = some y->bE x y)->bJ xs ys
 | [],[],_,_=>.nil
 | [],_::_,h,_=>by simp at h
 | _::_,[],h,_=>by simp at h
 | x::xs,y::ys,h,f=>.cons (f 0 x y rfl rfl) (aC2 (by simpa using h) fun i a b h1 h2=>f (i+1) a b (by simpa using h1) (by simpa using h2))
structure InK(env:Env)(s₀:S9)(m cm:Str->Option V9)(s:S9):Prop where
 ic:InCall s₀ env.locals m s
 cell:∀ n c,env.cells.lookup n=some c->s.heap.IsCell c (cm n)
 inj:∀ n n' c,env.cells.lookup n=some c->env.cells.lookup n'=some c->n=n'
 ne:∀ n c,env.cells.lookup n=some c->c≠env.locals
 up:∀ n c,env.kindOf n=some .cell->env.cells.lookup n=some c->env.locals < c
section
variable{M:Model}{A:U9}{E:V9->S9->Prop}{s₀ s:S9}{m cm:Str->O9 V9}{env:Env}
theorem InK.stL{n:Str}{v:V9}{Q:Unit->S9->Prop}(x:InK env s₀ m cm s)(j:env.scope.kind=.function)(i:env.kindOf n=some .local)
  (h:∀ s',InK env s₀ (fun y=>if y=n then some v else m y) cm s'->Q () s'):wpAny M A (storeName env n v) Q E s:=by
 refine wpAny_storeName_local i x.ic.ns (fun h' d a=>h _ ⟨⟨?_,d,fun b o e=>?_,x.ic.fresh⟩,fun k c g=>?_,x.inj,x.ne,x.up⟩) (by rw[j];rfl)
 .obtain ⟨f,tk,rfl⟩:=x.ic.same
  exact ⟨h',_,rfl⟩
 .exact a.extBut b o (BB (A3 (AQ e) x.ic.fresh)) (x.ic.keep b o e)
 .exact (x.cell k c g).sameBut a (x.ne k c g)
theorem InK.stC{n:Str}{c:Az}{v:V9}{Q:Unit->S9->Prop}(x:InK env s₀ m cm s)(r:env.scope.kind=.function)(l:env.kindOf n=some .cell)
  (i:env.cells.lookup n=some c)
  (h:∀ s',InK env s₀ m (fun y=>if y=n then some v else cm y) s'->Q () s'):wpAny M A (storeName env n v) Q E s:=by
 have g:=x.up n c l i
 refine wpAny_storeName_cell r l i (x.cell n c i) fun h' j d=>h _ ⟨⟨?_,x.ic.ns.sameBut d (BB g),fun b o e=>?_,x.ic.fresh⟩,fun k q a=>?_,x.inj,x.ne,x.up⟩
 .obtain ⟨p,tk,rfl⟩:=x.ic.same
  exact ⟨h',_,rfl⟩
 .exact d.extBut b o (BB (Nat.lt_trans (A3 (AQ e) x.ic.fresh) g)) (x.ic.keep b o e)
 .by_cases f:k=n
  .subst f
   rw[i] at a;cases a
   simpa using j
  .rw[AC f]
   exact (x.cell k q a).sameBut d fun e=>f (x.inj k n q a (e▸i))
theorem InK.binds(f:Str×V9->PUnit->Sem (ForInStep PUnit))(i:∀ n v u,f (n,v) u=(do storeName env n v;pure (.yield ⟨⟩)))(g:env.scope.kind=.function) :
  ∀ (binds:List (Str×V9)) (m cm:Str->O9 V9) (s:S9) (Q:PUnit->S9->Prop),InK env s₀ m cm s->
   (∀ x∈binds,env.kindOf x.1=some .local\/(env.kindOf x.1=some .cell/\(env.cells.lookup x.1).isSome=true))->
   (∀ s',InK env s₀ (bindL env.kindOf binds m) (bindC env.kindOf binds cm) s'->Q ⟨⟩ s')->wpAny M A (forIn binds ⟨⟩ f) Q E s
 | [],m,cm,s,Q,x,_,h=>by rw[List.forIn_nil];exact AE (h s x)
 | (n,v)::r,m,cm,s,Q,x,hkind,h=>by
  rw[DS,i]
  have hr:∀ y∈r,env.kindOf y.1=some .local\/(env.kindOf y.1=some .cell/\(env.cells.lookup y.1).isSome=true):=fun y l=>hkind y (AN _ l)
  rcases hkind (n,v) A0 with d|⟨d,j⟩
  .refine AA (AA (x.stL g d fun s' k=>AE (InK.binds f i g r _ _ s' Q k hr fun b a=>h b ?_)))
   unfold bindL bindC;rw[AD d,AD d];exact a
  .obtain ⟨c,j⟩:=GI.mp j
   have e:¬ env.kindOf n=some .local:=by rw[d];decide
   refine AA (AA (x.stC g d j fun s' k=>AE (InK.binds f i g r _ _ s' Q k hr fun b a=>h b ?_)))
   unfold bindL bindC;rw[AC e,AC e];exact a
end
theorem j9:∀ (names:List (Str×NameKind)) (n:Nat) (acc:List (Str×Az)),cellsFrom n names acc=cellsFrom n names []++acc
 | [],_,_=>rfl
 | (x,k)::r,n,acc=>by
  unfold cellsFrom
  split
  · rw [j9 r (n + 1) ((x, n) :: acc), j9 r (n + 1) [(x, n)], EM]; rfl
  · exact j9 r n acc
theorem nF:∀ (names:List (Str×NameKind)) (n:Nat) {x:Str} {c:Az},(x,c)∈cellsFrom n names []->(x,NameKind.cell)∈names
 | [],_,_,_,h=>by simp[cellsFrom] at h
 | (y,k)::r,n,x,c,h=>by
  unfold cellsFrom at h
  split at h
  .rename_i hk
   rw[j9] at h
   rcases BW.mp h with h|h
   .exact AN _ (nF r _ h)
   .have:(x,c)=(y,n):=by simpa using h
    cases this
    rw[FH hk];exact A0
  .exact AN _ (nF r _ h)
theorem pA{α:Type}{x:Str}:∀ {l l':List (Str×α)},(l++l').lookup x=(l.lookup x).or (l'.lookup x)
 | [],l'=>by simp
 | (y,v)::r,l'=>by
  rw[BT,BC,BC]
  cases x == y with
  | true=>rfl
  | false=>exact pA
theorem qP{α:Type}{x:Str}{l:List (Str×α)}(h:∀ v,(x,v)∉l):l.lookup x=none:=by
 cases e:l.lookup x with
 | none=>rfl
 | some v=>exact absurd (BH e) (h v)
noncomputable def cU(qual:Str)(scope:Scope)(L f:Az)(cd:V9)(cl:List (Str×Az)):Env:=newEnv scope L mainGlobals (cellsFrom (L+1) scope.names cl) (qual++".<locals>.") (some f) cd none builtinsNs
structure ClAt(h:Heap)(scope:Scope)(cl:List (Str×Az))(cm:Str->Option V9):Prop where
 cell:∀ n c,cl.lookup n=some c->h.IsCell c (cm n)
 inj:∀ n n' c,cl.lookup n=some c->cl.lookup n'=some c->n=n'
 off:∀ y∈scope.names,y.2=.cell->cl.lookup y.1=none
section
variable{M:Model}{A:U9}{E:V9->S9->Prop}{s:S9}
theorem aC3{scope:Scope}{binds:List (Str×V9)}{qual:Str}{f:Az}{cd:V9}{cl:List (Str×Az)}{cm:Str->O9 V9}{Q:Env->S9->Prop}
  (u:scope.kind=.function) (C:ClAt s.heap scope cl cm)
  (k:∀ x∈binds,scope.names.lookup x.1=some .local\/scope.names.lookup x.1=some .cell)
  (z:∀ s',InK (cU qual scope s.heap.objs.size f cd cl) s (bindL (cU qual scope s.heap.objs.size f cd cl).kindOf binds fun _=>none) (bindC (cU qual scope s.heap.objs.size f cd cl).kindOf binds fun n=>if (cl.lookup n).isSome then cm n else none) s'->Q (cU qual scope s.heap.objs.size f cd cl) s') :
  wpAny M A (newFunctionEnv scope mainGlobals cl binds (qual++".<locals>.") (some f) cd none builtinsNs) Q E s:=by
 simp only[newFunctionEnv,Option.isSome_none,BF,CF]
 refine AA (wpAny_alloc ?_)
 refine AA (wpAny_layCells _ (fun name kind cells=>by cases m:kind == NameKind.cell<;>simp[m]) _ _ _ _ ?_)
 have ok:=cellsFrom_ok scope.names (s.heap.push {cls:=.type "frame",data:=.dict #[]}) (s.heap.objs.size+1) [] ⟨fun _ _ w=>(nomatch w),List.Pairwise.nil⟩ (by rw[DI];exact AG _)
 rw[DI] at ok
 rw[show ({s with heap:=s.heap.push {cls:=.type "frame",data:=.dict #[]}}:S9).heap.objs.size=s.heap.objs.size+1 from DI ..]
 have j:∀ b o,s.heap.get? b=some o->(pushCells (s.heap.push {cls:=.type "frame",data:=.dict #[]}) scope.names).get? b=some o:=fun b o e=>pushCells_keeps _ _ b o (AI _ e)
 have h:(cU qual scope s.heap.objs.size f cd cl).cells=cellsFrom (s.heap.objs.size+1) scope.names []++cl:=j9 _ _ _
 have i:∀ n c,(cU qual scope s.heap.objs.size f cd cl).cells.lookup n=some c->((cellsFrom (s.heap.objs.size+1) scope.names []).lookup n=some c/\cl.lookup n=none)\/((cellsFrom (s.heap.objs.size+1) scope.names []).lookup n=none/\cl.lookup n=some c):=fun n c e=>by
  rw[h,pA] at e
  cases q:(cellsFrom (s.heap.objs.size+1) scope.names []).lookup n with
  | none=>rw[q] at e;exact .inr ⟨rfl,by simpa using e⟩
  | some d=>
   rw[q] at e
   have p:some d=some c:=by simpa using e
   cases p
   exact .inl ⟨rfl,C.off (n,.cell) (nF _ _ (BH q)) rfl⟩
 have big:∀ n c,(cellsFrom (s.heap.objs.size+1) scope.names []).lookup n=some c->s.heap.objs.size < c:=fun n c e=>(ok.empty n c (BH e)).2
 have g:∀ n c,cl.lookup n=some c->c < s.heap.objs.size:=fun n c e=>(C.cell n c e).lt
 refine AA (InK.binds (s₀:=s) (env:=cU qual scope s.heap.objs.size f cd cl)
  _ (fun _ _ _=>rfl) u binds (fun _=>none) (fun n=>if (cl.lookup n).isSome then cm n else none) _ _
  ⟨⟨⟨_,_,rfl⟩,(Heap.Ns.new s.heap (.type "frame")).keeps (pushCells_keeps _ _),j,AG _⟩,fun n c e=>?_,fun n t c e p=>?_,fun n c e=>?_,fun n c v e=>?_⟩
  (fun x y=>?_) fun s' x=>AE (z s' x))
 .rcases i n c e with ⟨q,a⟩|⟨q,a⟩
  .rw[a];exact (ok.empty n c (BH q)).1
  .rw[a];exact (C.cell n c a).keeps j
 .rcases i n c e with ⟨q,a⟩|⟨q,a⟩<;>rcases i t c p with ⟨r,l⟩|⟨r,l⟩
  .exact name_of_addr ok.apart (BH q) (BH r)
  .exact absurd (big _ _ q) (G9.mpr (DA (g _ _ l)))
  .exact absurd (big _ _ r) (G9.mpr (DA (g _ _ a)))
  .exact C.inj n t c a l
 .show c≠s.heap.objs.size
  rcases i n c e with ⟨q,a⟩|⟨q,a⟩
  .exact DL (big _ _ q)
  .exact BB (g _ _ a)
 .show s.heap.objs.size < c
  rcases i n c e with ⟨q,a⟩|⟨q,a⟩
  .exact big _ _ q
  .rw[C.off (n,.cell) (BH v) rfl] at a;cases a
 .rcases k x y with q|q
  .exact .inl q
  .refine .inr ⟨q,?_⟩
   obtain ⟨c,e⟩:=mS (n:=s.heap.objs.size+1) q
   rw[h,pA,e];rfl
end
noncomputable def hid(cs:List Az)(H:Hp):Hp:=fun b=>if b∈cs then none else H b
noncomputable def shw(cs:List Az)(H H':Hp):Hp:=fun b=>if b∈cs then H b else H' b
theorem oF{cs:List Az}{H:Hp}{b:Az}(h:b∈cs):hid cs H b=none:=AD h
theorem bV{cs:List Az}{H:Hp}{b:Az}(h:b∉cs):hid cs H b=H b:=AC h
theorem qQ{cs:List Az}{H H':Hp}{b:Az}(h:b∈cs):shw cs H H' b=H b:=AD h
theorem eN{cs:List Az}{H H':Hp}{b:Az}(h:b∉cs):shw cs H H' b=H' b:=AC h
theorem iT{cs:List Az}{H:Hp}{b:Az}(h:H b=none):hid cs H b=none:=by
 by_cases q:b∈cs
 · exact oF q
 · rw [bV q]; exact h
theorem pB{cs:List Az}{H:Hp}{b:Az}{o:HO}(h:hid cs H b=some o):H b=some o/\b∉cs:=by
 by_cases q:b∈cs
 · rw [oF q] at h; cases h
 · rw [bV q] at h; exact ⟨h, q⟩
def FnO(f:Az)(o:Obj):HO:=.ext fun h=>h.get? f=some o
def eO(c:Az)(o:Obj)(v:V):HO:=.frz o (.ext fun h=>∃ u,bE v u/\h.IsCell c (some u))
section
variable{P:P9}{w:W9}{H:Hp}{h:H9}
theorem FnO.get{f:Az}{o:Obj}(x:HOk P w H h)(e:H f=some (FnO f o)):h.get? f=some o:=(x f _ e).1
theorem eO.get{c:Az}{o:Obj}{v:V}(x:HOk P w H h)(e:H c=some (eO c o v)):h.get? c=some o/\∃ u,bE v u/\h.IsCell c (some u):=⟨(x c _ e).1,(x c _ e).2.1⟩
theorem FnO.ok{f:Az}{o:Obj}(e:h.get? f=some o):cF P w H h f (FnO f o):=⟨e,⟨o,e⟩,fun h1 h2 q k=>k o q⟩
theorem eO.ok{c:Az}{o:Obj}{v:V}{u:V9}(r:bE v u)(e:h.get? c=some o)(a:o.data=.cell (some u)):cF P w H h c (eO c o v):=
 ⟨e,⟨u,r,o,e,a⟩,⟨o,e⟩,fun h1 h2 ⟨u,r,o,b,a⟩ k=>⟨u,r,o,k o b,a⟩⟩
end
def Celd(cs:List Az)(H:Hp):Prop:=∀ c∈cs,∃ o v,H c=some (eO c o v)
theorem Celd.out{cs:List Az}{H:Hp}(h:Celd cs H){b:Az}{o:HO}(e:H b=some o)(n:∀ o' v,o≠eO b o' v):b∉cs:=fun z=>by
 obtain ⟨o',v,q⟩:=h b z
 rw[q] at e;cases e
 exact n o' v rfl
theorem HOk.hid{P:P9}{w:W9}{H:Hp}{h:H9}{cs:List Az}(x:HOk P w H h)(a:Celd cs H):HOk P w (hid cs H) h:=fun b u e=>by
 obtain ⟨e1,_⟩:=pB e
 exact (x b u e1).stay (fun _ _ _ q=>q) (fun c q=>by rw[bV (a.out q fun _ v z=>nomatch z)];exact q) (fun c _ q=>by rw[bV (a.out q fun _ v z=>nomatch z)];exact q) fun c _ q=>by rw[bV (a.out q fun _ v z=>nomatch z)];exact q
structure CloScope(N ps fr:List Str)(sc:Scope):Prop where
 kind:sc.kind=.function
 co:sc.isCoroutine=false
 gen:sc.isGenerator=false
 nd:N.Nodup
 pre:N.take (ps++fr).length=ps++fr
 par:∀ x∈ps,sc.names.lookup x=some .local\/sc.names.lookup x=some .cell
 cap:∀ x∈fr,sc.names.lookup x=some .free
 only:∀ y∈sc.names,y.2=.free->y.1∈fr
 off:∀ y∈sc.names,y.2=.cell->y.1∉fr
structure CapAt(H:Hp)(fr:List Str)(cl:List (Str×Az))(vs:List V):Prop where
 len:vs.length=fr.length
 only:∀ n c,cl.lookup n=some c->n∈fr
 inj:∀ n n' c,cl.lookup n=some c->cl.lookup n'=some c->n=n'
 at':∀ (i:Nat) x v,fr[i]? = some x->vs[i]? = some v->∃ c o,cl.lookup x=some c/\H c=some (eO c o v)
theorem CapAt.get{H:Hp}{fr:List Str}{cl:List (Str×Az)}{vs:List V}(a:CapAt H fr cl vs){n:Str}{c:Az}(e:cl.lookup n=some c):∃ o v,H c=some (eO c o v):=by
 obtain ⟨i,hi,d⟩:=FP.mp (a.only n c e)
 obtain ⟨f,o,b,q⟩:=a.at' i n (vs[i]'(by rw[a.len];exact hi)) (by rw[AJ hi,d]) (AJ _)
 rw[e] at b;cases b
 exact ⟨_,_,q⟩
noncomputable def bA(fr:List Str)(cl:List (Str×Az)):List Az:=fr.filterMap fun x=>cl.lookup x
theorem CapAt.celd{H:Hp}{fr:List Str}{cl:List (Str×Az)}{vs:List V}(a:CapAt H fr cl vs):Celd (bA fr cl) H:=fun c b=>by
 obtain ⟨x,_,e⟩:=DN.mp b
 exact a.get e
theorem CapAt.same{H H':Hp}{fr:List Str}{cl:List (Str×Az)}{vs:List V}(a:CapAt H fr cl vs)(s:aN H H'):CapAt H' fr cl vs:=⟨a.len,a.only,a.inj,fun i x v h1 h2=>let ⟨c,o,e,q⟩:=a.at' i x v h1 h2;⟨c,o,e,s _ _ q⟩⟩
noncomputable def jB(CX:CXT)(P:P9)(w:W9)(K:Frag)(mg:Str->O9 V9)(base:H9)(N fr:List Str)(qual:Str)(scope:Scope)(f:Az)(cd:V9)(cl:List (Str×Az))(A:U9)(outer:List Env)(s:S9)(H:Hp)(E:XK):Cx where
 prog:=P
 w:=w
 K:=K
 mg:=mg
 base:=base
 A:=A.deeper (cU qual scope s.heap.objs.size f cd cl)
 N:=N
 s₀:=s
 H₀:=hid (bA fr cl) H
 env:=cU qual scope s.heap.objs.size f cd cl
 outer:=outer
 stack:=cU qual scope s.heap.objs.size f cd cl::outer
 ex:=[]
 calm:=true
 fn:=fun x=>(cl.lookup x).isNone
 pn:=[]
 xe:=fun e s'=>wpAny (model P w) (A.deeper (cU qual scope s.heap.objs.size f cd cl)) (leaving (cU qual scope s.heap.objs.size f cd cl) e) (fun _ s''=>CX outer H s E e s'') (fun e' s''=>CX outer H s E e' s'') s'
section
variable{CX:CXT}{P:P9}{w:W9}{K:Frag}{mg:Str->O9 V9}{base:H9}{N ps fr:List Str}{qual:Str}{scope:Scope}{f:Az}{cd:V9}{cl:List (Str×Az)}{A:U9}{outer:List Env}{s s1:S9}{H:Hp}{E:XK}{us:List V9}{vs cvs:List V}
theorem aC4{h:H9}(hok:HOk P w H h)(C:CapAt H fr cl cvs):∃ cm:Str->O9 V9,(∀ n c,cl.lookup n=some c->∃ v u,(∃ o,H c=some (eO c o v))/\bE v u/\cm n=some u/\h.IsCell c (some u)):=by
 have a:∀ n,∃ x:O9 V9,∀ c,cl.lookup n=some c->∃ v u,(∃ o,H c=some (eO c o v))/\bE v u/\x=some u/\h.IsCell c (some u):=fun n=>by
  cases e:cl.lookup n with
  | none=>exact ⟨none,fun c z=>nomatch z⟩
  | some c=>
   obtain ⟨o,v,q⟩:=C.get e
   obtain ⟨_,u,r,z⟩:=eO.get hok q
   exact ⟨some u,fun d b=>by cases b;exact ⟨v,u,⟨o,q⟩,r,rfl,z⟩⟩
 exact ⟨fun n=>(a n).choose,fun n c e=>(a n).choose_spec c e⟩
theorem pC{n:Str}{L:Nat}:(cU qual scope L f cd cl).cells.lookup n=((cellsFrom (L+1) scope.names []).lookup n).or (cl.lookup n):=by
 rw[show (cU qual scope L f cd cl).cells=cellsFrom (L+1) scope.names []++cl from j9 _ _ _,pA]
theorem sC{n:Str}{c:Az}{L:Nat}(S:CloScope N ps fr scope)(C:CapAt H fr cl cvs)(e:cl.lookup n=some c):(cU qual scope L f cd cl).cells.lookup n=some c:=by
 rw[pC,qP fun v a=>S.off (n,.cell) (nF _ _ a) rfl (C.only n c e)]
 simpa using e
theorem u9{cm:Str->O9 V9}(S:CloScope N ps fr scope)(C:CapAt H fr cl cvs)(V:A.handled=none)(e0:Env0 P w K mg base A outer s H)(M:vs.length=ps.length)(r:bJ vs us)
  (T:∀ n c,cl.lookup n=some c->∃ v u,(∃ o,H c=some (eO c o v))/\bE v u/\cm n=some u/\s.heap.IsCell c (some u))
  (x:InK (cU qual scope s.heap.objs.size f cd cl) s (bindL (cU qual scope s.heap.objs.size f cd cl).kindOf (ps.zip us) fun _=>none) (bindC (cU qual scope s.heap.objs.size f cd cl).kindOf (ps.zip us) fun n=>if (cl.lookup n).isSome then cm n else none) s1) :
  Inv (jB CX P w K mg base N fr qual scope f cd cl A outer s H E) [] (start N (vs++cvs)) (hid (bA fr cl) H) s1:=by
 have Z:(ps++fr).length<=N.length:=by have:=DG List.length S.pre;rw[BM] at this;omega
 have Q:(vs++cvs).length=(ps++fr).length:=by rw[AK,AK,M,C.len]
 obtain ⟨h1,tk,rfl,J⟩:=x.ic.done
 have j:∀ b:Az,b∉(jB CX P w K mg base N fr qual scope f cd cl A outer s H E).ex:=fun b z=>absurd (show b∈([]:List Az) from z) (by simp)
 have t:∀ y c,cl.lookup y=none->(cU qual scope s.heap.objs.size f cd cl).cells.lookup y=some c->s.heap.objs.size < c:=fun y c n e=>by
  rw[pC,n] at e
  have m:(cellsFrom (s.heap.objs.size+1) scope.names []).lookup y=some c:=by simpa using e
  have ok:=cellsFrom_ok scope.names (s.heap.push {cls:=.type "frame",data:=.dict #[]}) (s.heap.objs.size+1) [] ⟨fun _ _ W=>(nomatch W),List.Pairwise.nil⟩ (by rw[DI];exact AG _)
  rw[DI] at ok
  exact (ok.empty y c (BH m)).2
 refine ⟨⟨e0.mod,S.kind,rfl,rfl,AG _,fun y z c h1 h2=>x.inj y z c h1 h2,fun y l=>?_,fun y c G h=>?_,fun _=>V,Around.frames_deeper e0.frames,.inr ⟨rfl,rfl⟩,fun b z=>absurd z (j b),fun b o e=>⟨(e0.bs b o e).1,iT (e0.bs b o e).2⟩,e0.bsz,fun b _ _=>j b,fun b z=>absurd z (j b),e0.funs,fun b R=>iT (e0.frf b R)⟩,
  rfl,e0.bare,Un.kept J,⟨_,x.ic.ns,fun i y v h1 h2 h3=>?_⟩,fun y c h=>⟨_,x.cell y c h⟩,iT (e0.hok.fresh (AG _)),fun y c h=>?_,fun p d=>absurd (show p∈([]:List (Az×Obj)) from d) (by simp),(e0.hok.hid C.celd).kept J,?_⟩
 .have l:scope.names.lookup y=some .cell\/scope.names.lookup y=some .free:=l
  rcases l with l|l
  .obtain ⟨c,e⟩:=mS (n:=s.heap.objs.size+1) l
   exact ⟨c,by show (cU qual scope s.heap.objs.size f cd cl).cells.lookup y=_;rw[pC,e];rfl⟩
  .obtain ⟨i,hi,X⟩:=FP.mp (S.only _ (BH l) rfl)
   obtain ⟨c,_,e,_⟩:=C.at' i y (cvs[i]'(by rw[C.len];exact hi)) (by rw[AJ hi,X]) (AJ _)
   exact ⟨c,sC S C e⟩
 .have G:(cl.lookup y).isNone=true:=G
  exact DA (t y c (Option.isNone_iff_eq_none.mp G) h)
 .have hi:i < (vs++cvs).length:=by
   unfold start at h2
   by_cases hi:i < (vs++cvs).length
   .exact hi
   .rw[BS (by simpa using hi)] at h2
    rw[ED] at h2
    split at h2<;>cases h2
  have D:(vs++cvs)[i]? = some v:=by
   unfold start at h2
   rw[BK (by simpa using hi),AH] at h2
   cases e:(vs++cvs)[i]? with
   | none=>rw[e] at h2;cases h2
   | some a=>rw[e] at h2;cases h2;rfl
  have d:(ps++fr)[i]? = some y:=by
   rw[<-S.pre,GJ (by omega)];exact h1
  have F:(ps++fr).Nodup:=by rw[<-S.pre];exact S.nd.sublist (List.take_sublist _ _)
  have B:ps.Nodup:=(EL.mp F).1
  by_cases I:i < ps.length
  .rw[BK (by omega)] at D
   rw[BK I] at d
   obtain ⟨u,O,U⟩:=r.get D
   refine ⟨u,U,?_⟩
   rcases S.par y (AW d) with k|k
   .exact .inl ⟨k,qH B d O k⟩
   .obtain ⟨c,e⟩:=mS (n:=s.heap.objs.size+1) k
    have m:(cU qual scope s.heap.objs.size f cd cl).cells.lookup y=some c:=by rw[pC,e];rfl
    refine .inr ⟨.inl k,c,m,?_⟩
    have q:=x.cell y c m
    rw[qI B d O (by show scope.names.lookup y≠_;rw[k];decide)] at q
    exact q
  .rw[BS (by omega)] at D
   rw[BS (by omega)] at d
   rw[M] at D
   obtain ⟨c,o,e,q⟩:=C.at' _ y v d D
   obtain ⟨_,u2,r2,Y⟩:=eO.get e0.hok q
   have m:=sC (qual:=qual) (f:=f) (cd:=cd) (L:=s.heap.objs.size) S C e
   have g:scope.names.lookup y=some .free:=S.cap y (AW d)
   refine ⟨u2,r2,.inr ⟨.inr g,c,m,?_⟩⟩
   exact Y.keeps J
 .cases e:cl.lookup y with
  | none=>exact iT (e0.hok.fresh (DA (t y c e h)))
  | some c'=>
   have h':=sC (qual:=qual) (f:=f) (cd:=cd) (L:=s.heap.objs.size) S C e
   have h:(cU qual scope s.heap.objs.size f cd cl).cells.lookup y=some c:=h
   rw[h] at h';cases h'
   exact oF (DN.mpr ⟨y,C.only y c e,e⟩)
 .unfold start
  show _=N.length
  rw[AK,AB,CC]
  omega
theorem tT{pins:List (Az×Obj)}{σ:St}{H':Hp}{s':S9}(S:CloScope N ps fr scope)(C:CapAt H fr cl cvs)(e0:Env0 P w K mg base A outer s H)(J:Inv (jB CX P w K mg base N fr qual scope f cd cl A outer s H E) pins σ H' s') :
  (∀ c∈bA fr cl,H' c=none)/\Un (frs outer) [] H (shw (bA fr cl) H H') s.heap s'.heap/\HOk P w (shw (bA fr cl) H H') s'.heap:=by
 have un:Un (frs outer) [] (hid (bA fr cl) H) H' s.heap s'.heap:=J.base
 have d:∀ c∈bA fr cl,H' c=none:=fun c j=>by
  obtain ⟨x,_,e⟩:=DN.mp j
  exact J.freeC x c (sC S C e)
 have out:∀ b,H b=none->b∉bA fr cl:=fun b n z=>by
  obtain ⟨o,v,q⟩:=C.celd b z
  rw[n] at q;cases q
 refine ⟨d,⟨fun b o e n h1 h2=>un.keep b o e (iT n) h1 h2,fun b o e n h1 h2=>un.slot b o e (iT n) h1 h2,fun b o e n h2=>by rw[eN (out b n)];exact un.free b o e (iT n) h2,un.there,
  fun b xs q=>?_,fun b o u q=>?_,fun b ps q=>?_⟩,fun b u e=>?_⟩
 .have a:=C.celd.out q fun _ v z=>nomatch z
  rw[eN a];exact un.tups b xs (by rw[bV a];exact q)
 .by_cases a:b∈bA fr cl
  .rw[qQ a];exact q
  .rw[eN a];exact un.frzs b o u (by rw[bV a];exact q)
 .have a:=C.celd.out q fun _ v z=>nomatch z
  rw[eN a];exact un.tbls b ps (by rw[bV a];exact q)
 .by_cases a:b∈bA fr cl
  .rw[qQ a] at e
   obtain ⟨o,v,q⟩:=C.celd b a
   rw[q] at e;cases e
   obtain ⟨i,u,r,l,g,k⟩:=eO.get e0.hok q
   rw[i] at g;cases g
   exact eO.ok r (un.keep b o i (oF a) (fun z=>by have:=e0.frf b z;rw[q] at this;cases this) (by simp)) k
  .rw[eN a] at e
   have h:∀ c o,H' c=some o->c∉bA fr cl:=fun c o q z=>by rw[d c z] at q;cases q
   exact (J.hok b u e).stay (fun _ _ _ q=>q) (fun c q=>by rw[eN (h c _ q)];exact q) (fun c _ q=>by rw[eN (h c _ q)];exact q) fun c _ q=>by rw[eN (h c _ q)];exact q
end
section
variable{P:P9}{w:W9}{K:Frag}{mg:Str->O9 V9}{base:H9}{N ps fr:List Str}{qual:Str}{scope:Scope}{f:Az}{cd:V9}{cl:List (Str×Az)}{A:U9}{outer:List Env}{s:S9}{H:Hp}{E:XK}{cvs:List V}
theorem vA{j:V9}{s':S9}(S:CloScope N ps fr scope)(C:CapAt H fr cl cvs)(e0:Env0 P w K mg base A outer s H)
  (h:Fly (jB (CXe P w) P w K mg base N fr qual scope f cd cl A outer s H E) (fun c e H'=>(∀ a∈bA fr cl,H' a=none)->E c e (shw (bA fr cl) H H')) j s'):(jB (CXe P w) P w K mg base N fr qual scope f cd cl A outer s H E).xe j s':=by
 obtain ⟨e,n,od,σ,H',rfl,I,p,q⟩:=h
 show wpAny (model P w) _ (leaving _ (.ref e)) _ _ s'
 unfold leaving
 have k:o6 (jB (CXe P w) P w K mg base N fr qual scope f cd cl A outer s H E):=⟨rfl,rfl⟩
 refine AA (o7 k I p fun x r l=>oA r l fun u i g=>?_)
 obtain ⟨vs,T,a,b,c,_⟩:=g.tb
 obtain ⟨d,un,hok⟩:=tT S C e0 i
 have m:∀ c o,H' c=some o->c∉bA fr cl:=fun c o q z=>by rw[d c z] at q;cases q
 refine ⟨e,n,od,_,rfl,i.os,i.bare,un,hok,by rw[eN (m _ _ g.tr)];exact g.tr,⟨vs,T,a,b,fun t e1=>⟨?_,(c t e1).2.1⟩⟩,q d⟩
 rw[eN]
 .exact (c t e1).1
 .intro z
  obtain ⟨o,v,q⟩:=C.celd t z
  exact absurd (A3 (e0.hok.lt q) (c t e1).2.1) (B5 _)
end
structure ClSt where
 name:Str
 qual:Str
 params:Arguments
 body:FuncBody
 scope:Scope
noncomputable def ClSt.fd(S:ClSt)(cl:List (Str×Az))(doc pm:V9)(c:Az)(ct:V9):FuncData:=
 {name:=S.name,qualname:=S.qual,params:=S.params,body:=S.body,scope:=S.scope,globals:=mainGlobals,closure:=cl,defaults:=.none,kwdefaults:=.none,doc:=doc,pyModule:=pm,annotations:=none,code:=.ref c,closureTuple:=ct,builtins:=builtinsNs}
abbrev ClSt.obj(S:ClSt)(cl:List (Str×Az))(doc pm:V9)(c:Az)(ct:V9):Obj:={cls:=.type "function",data:=.func (S.fd cl doc pm c ct)}
section
variable{P:P9}{w:W9}{K:Frag}{mg:Str->O9 V9}{base:H9}{N ps fr:List Str}{S:ClSt}{f c:Az}{cl:List (Str×Az)}{A:U9}{outer:List Env}{s:S9}{H:Hp}{E:XK}{Q:VK}{cvs vs:List V}{us:List V9}{args:Args}{doc pm ct:V9}{k:Nat}
theorem aA1(Sc:CloScope N ps fr S.scope):∀ y∈ps.zip us,S.scope.names.lookup y.1=some .local\/S.scope.names.lookup y.1=some .cell:=fun ⟨n,v⟩ a=>Sc.par n (FM a).1
theorem aG9{h:H9}(hok:HOk P w H h)(Sc:CloScope N ps fr S.scope)(C:CapAt H fr cl cvs){cm:Str->O9 V9}(a:∀ n c,cl.lookup n=some c->∃ v u,(∃ o,H c=some (eO c o v))/\bE v u/\cm n=some u/\h.IsCell c (some u)):ClAt h S.scope cl cm where
 cell:=fun n c e=>by
  obtain ⟨v,u,_,_,e1,z⟩:=a n c e
  rw[e1];exact z
 inj:=C.inj
 off:=fun y b d=>by
  cases e:cl.lookup y.1 with
  | none=>rfl
  | some c=>exact absurd (C.only _ _ e) (Sc.off y b d)
theorem aHA{body:List Stmt}(G:S.body=.stmts body)(O:H f=some (FnO f (S.obj cl doc pm c ct)))(M:H c=some (.cod S.qual))(Sc:CloScope N ps fr S.scope)(C:CapAt H fr cl cvs)(m:Room (k+1) A)
  (e0:Env0 P w K mg base A outer s H) (p:BindsTo s (S.fd cl doc pm c ct) args (ps.zip us)) (r:bJ vs us) (F:vs.length=ps.length)
  (g:Room k (A.deeper (cU S.qual S.scope s.heap.objs.size f (.ref c) cl))->∃ t,PSs ((jB (CXe P w) P w K mg base N fr S.qual S.scope f (.ref c) cl A outer s H E).fly fun c e H'=>(∀ a∈bA fr cl,H' a=none)->E c e (shw (bA fr cl) H H')) body t /\
   t {nx:=fun _ H'=>(∀ a∈bA fr cl,H' a=none)->Q .non (shw (bA fr cl) H H'),rt:=fun v H'=>(∀ a∈bA fr cl,H' a=none)->Q v (shw (bA fr cl) H H')} (start N (vs++cvs)) (hid (bA fr cl) H)) :
  codeAny (model P w) A (.call (.ref f) args) (CR (CXe P w) outer P w H s Q E) s:=by
 have l:s.heap.NoLimit:=e0.mod.nolimit.keeps fun b o e=>(e0.bs b o e).1
 obtain ⟨cm,i⟩:=aC4 e0.hok C
 have n:s.heap.CodeRec (.ref c) S.qual:=e0.hok c _ M
 refine codeAny_call_function m.depth (FnO.get e0.hok O) rfl Sc.co Sc.gen G n (p _ _ _ _ ?_)
 refine aC3 (cm:=cm) Sc.kind (aG9 e0.hok Sc C i) (aA1 Sc) fun s1 x=>?_
 refine ⟨l.keeps x.ic.keep,codeAny_func ?_⟩
 obtain ⟨t,L,D⟩:=g (m.deeper _)
 have I:Inv (jB (CXe P w) P w K mg base N fr S.qual S.scope f (.ref c) cl A outer s H E) [] (start N (vs++cvs)) (hid (bA fr cl) H) s1:=u9 Sc C m.hd e0 F r i x
 have y:=L.unfly fun _ _ z=>vA Sc C e0 z
 refine BO (y [] s1 _ _ _ I D) (fun T s' h=>?_) fun e s' h=>h
 have j:∀ {d:St} {H':Hp} {v:V} {u:V9},Inv (jB (CXe P w) P w K mg base N fr S.qual S.scope f (.ref c) cl A outer s H E) [] d H' s'->bE v u->((∀ a∈bA fr cl,H' a=none)->Q v (shw (bA fr cl) H H'))->CE outer P w H s Q u s':=
  fun {d H' v u} J B q=>by
   obtain ⟨R,un,hok⟩:=tT Sc C e0 J
   exact ⟨v,_,J.os,J.bare,un,hok,B,q R⟩
 cases T with
 | ret u=>
  obtain ⟨v,d,H',J,B,q⟩:=h
  exact j J B q
 | next=>
  obtain ⟨d,H',J,q⟩:=h
  exact j (v:=V.non) (u:=Value.none) J rfl q
 | brk=>
  obtain ⟨_,_,_,q⟩:=h
  exact False.elim q
 | cont=>
  obtain ⟨_,_,_,q⟩:=h
  exact False.elim q
theorem aJS{body:E1}(y:S.body=.expr body)(D:H f=some (FnO f (S.obj cl doc pm c ct)))(B:H c=some (.cod S.qual))(Sc:CloScope N ps fr S.scope)(C:CapAt H fr cl cvs)(i:Room (k+1) A)
  (e0:Env0 P w K mg base A outer s H) (l:BindsTo s (S.fd cl doc pm c ct) args (ps.zip us)) (r:bJ vs us) (p:vs.length=ps.length)
  (d:Room k (A.deeper (cU S.qual S.scope s.heap.objs.size f (.ref c) cl))->∃ t,PE ((jB (CXe P w) P w K mg base N fr S.qual S.scope f (.ref c) cl A outer s H E).fly fun c e H'=>(∀ a∈bA fr cl,H' a=none)->E c e (shw (bA fr cl) H H')) body t /\
   t (start N (vs++cvs)) (hid (bA fr cl) H) fun v H'=>(∀ a∈bA fr cl,H' a=none)->Q v (shw (bA fr cl) H H')) :
  codeAny (model P w) A (.call (.ref f) args) (CR (CXe P w) outer P w H s Q E) s:=by
 have h:s.heap.NoLimit:=e0.mod.nolimit.keeps fun b o e=>(e0.bs b o e).1
 obtain ⟨cm,g⟩:=aC4 e0.hok C
 have j:s.heap.CodeRec (.ref c) S.qual:=e0.hok c _ B
 refine PySem.W.kla_callFunE i.depth (FnO.get e0.hok D) rfl Sc.co Sc.gen y j (l _ _ _ _ ?_)
 refine aC3 (cm:=cm) Sc.kind (aG9 e0.hok Sc C g) (aA1 Sc) fun s1 x=>?_
 refine ⟨h.keeps x.ic.keep,PySem.W.kla_codeExpr ?_⟩
 obtain ⟨t,z,n⟩:=d (i.deeper _)
 have I:Inv (jB (CXe P w) P w K mg base N fr S.qual S.scope f (.ref c) cl A outer s H E) [] (start N (vs++cvs)) (hid (bA fr cl) H) s1:=u9 Sc C i.hd e0 p r g x
 refine BO (z [] s1 _ _ _ (I.wish _) n) (fun u s' m=>?_) fun e s' m=>vA Sc C e0 m
 obtain ⟨v,H',J,G,q⟩:=m
 obtain ⟨F,un,hok⟩:=tT Sc C e0 J.unwish
 exact ⟨v,_,J.os,J.bare,un,hok,G,q F⟩
end
theorem aEZ{env:Env}:∀ (names:List (Str×NameKind)) (acc:List (Str×Az)),(∀ x∈names,x.2=.free->∃ c,env.cells.lookup x.1=some c)->
  (∀ x c,acc.lookup x=some c->env.cells.lookup x=some c)->
  ∃ cl,(forIn names acc fun x r=>(if (x.2 == NameKind.free)=true then (do let a <-cellOf env x.1;pure (ForInStep.yield ((x.1,a)::r))) else pure (ForInStep.yield r)):Sem (List (Str×Az)))=pure cl /\
   (∀ x c,cl.lookup x=some c->env.cells.lookup x=some c)/\(∀ x∈names,x.2=.free->∃ c,cl.lookup x.1=some c)/\(∀ x c,acc.lookup x=some c->∃ c',cl.lookup x=some c') /\
   (∀ x c,cl.lookup x=some c->(∃ c',acc.lookup x=some c')\/(x,NameKind.free)∈names):=by
 intro names
 induction names with
 | nil=>intro acc _ h;exact ⟨acc,rfl,h,fun x p=>absurd p (by simp),fun x c e=>⟨c,e⟩,fun x c e=>.inl ⟨c,e⟩⟩
 | cons x r ih=>
  intro acc j h
  obtain ⟨n,k⟩:=x
  by_cases o:k=.free
  .subst o
   obtain ⟨c,i⟩:=j (n,.free) A0 rfl
   have i:env.cells.lookup n=some c:=i
   obtain ⟨cl,e1,e2,l,g,m⟩:=ih ((n,c)::acc) (fun y f=>j y (AN _ f)) (fun y d e=>by
    rw[BC] at e
    cases q:y == n with
    | true=>rw[q] at e;cases e;have:=FH q;subst this;exact i
    | false=>rw[q] at e;exact h y d e)
   refine ⟨cl,?_,e2,fun y f b=>?_,fun y d e=>?_,fun y d e=>?_⟩
   .rw[DS]
    simp only[DH,CG]
    unfold cellOf
    simp only[i,pure_bind]
    exact e1
   .rcases A2.mp f with z|z
    .subst z
     exact g n c (by rw[BC];simp)
    .exact l y z b
   .by_cases q:y=n
    .subst q;exact g y c (by rw[BC];simp)
    .exact g y d (by rw[BC,C7 q];exact e)
   .rcases m y d e with ⟨c',z⟩|z
    .by_cases q:y=n
     .subst q;exact .inr A0
     .rw[BC,C7 q] at z
      exact .inl ⟨c',z⟩
    .exact .inr (AN _ z)
  .obtain ⟨cl,e1,e2,l,g,m⟩:=ih acc (fun y f=>j y (AN _ f)) h
   refine ⟨cl,?_,e2,fun y f b=>?_,g,fun y d e=>(m y d e).imp id fun z=>AN _ z⟩
   .rw[DS]
    have:(k == NameKind.free)=false:=by simpa using o
    simp only[this,BF,CF,pure_bind]
    exact e1
   .rcases A2.mp f with z|z
    .subst z;exact absurd b o
    .exact l y z b
structure ClOf(cells:List (Str×Az))(sc:Scope)(cl:List (Str×Az)):Prop where
 of:∀ x c,cl.lookup x=some c->cells.lookup x=some c
 all:∀ x∈sc.names,x.2=.free->∃ c,cl.lookup x.1=some c
 only:∀ x c,cl.lookup x=some c->(x,NameKind.free)∈sc.names
theorem aA2{env:Env}{scope:Scope}(a:∀ x∈scope.names,x.2=.free->∃ c,env.cells.lookup x.1=some c) :
  ∃ cl,closureFor scope env=pure cl/\ClOf env.cells scope cl:=by
 obtain ⟨cl,e1,e2,d,_,b⟩:=aEZ scope.names [] a (fun x c e=>by simp at e)
 refine ⟨cl,?_,e2,d,fun x c e=>?_⟩
 .unfold closureFor
  first
   | exact e1
   | (rw[<-e1];rfl)
   | (simp only[bind_pure];exact e1)
 .rcases b x c e with ⟨f,z⟩|z
  .simp at z
  .exact z
theorem aHB{pos:Pos}{r:List V9}(l:List V9)(h:TriplesOk l):codeAmong pos (l++r)=(codeAmong pos l).or (codeAmong pos r):=by
 fun_induction TriplesOk l with
 | case1=>simp[codeAmong]
 | case2 a t b u x rest ih=>
  simp only[BT,codeAmong]
  split
  · rfl
  · exact ih h
 | case3 l h1 h2=>exact h.elim
structure Tb(mg:Str->Option V9)(base:Heap)(c0 P0:Az):Prop where
 hd:PySem.W.CodeHd base c0 P0
 bt:∃ bm ob,mg "__builtins__"=some (.ref bm)/\bm≠builtinsNs/\base.get? bm=some ob/\ob.cls=.type "module"/\ob.dict=some builtinsNs/\ob.data=.plain
section
variable{X:Cx}{pins:List (Az×Obj)}{σ:St}{H:Hp}{s:S9}{c0 P0:Az}{qs:List (Pos×Str)}{pos:Pos}{q:Str}
theorem aHC{ps:Array V9}{c:Az}{h h':H9}(A:HOk X.prog X.w H h)(k:H P0=some (.tbl qs))(x:h.get? P0=some (PySem.W.tabObj ps))(o:TriplesOk ps.toList)(i:∀ p∈qs,codeAmong p.1 ps.toList=none\/∃ c,codeAmong p.1 ps.toList=some (.ref c)/\H c=some (.cod p.2))
  (C:∀ p∈qs,p.1.line=pos.line->p.1.col=pos.col->p.2=q) (B:codeAmong pos ps.toList=none) (a:H c=none) (hx:Heap.ExtBut P0 h h') (l:h'.CodeRec (.ref c) q) (j:h'.get? P0=some (PySem.W.tabObj (ps ++ #[rawInt pos.line,rawInt pos.col,.ref c]))) :
  HOk X.prog X.w (upd H c (.cod q)) h':=fun b u e=>by
 have y:P0≠c:=fun z=>by rw[<-z,k] at a;cases a
 by_cases n:b=c
 .subst n;rw[aX] at e;cases e;exact l
 .rw[aJ n] at e
  by_cases g:b=P0
  .subst g
   rw[k] at e;cases e
   refine ⟨_,j,?_,fun p t=>?_⟩
   .rw[FW];exact TriplesOk_snoc _ _ _ _ o
   .rw[FW,aHB _ o]
    rcases i p t with z|⟨d,z,m⟩
    .rw[z]
     show (codeAmong p.1 [rawInt pos.line,rawInt pos.col,.ref c])=none\/_
     by_cases f:p.1.line=pos.line/\p.1.col=pos.col
     .refine .inr ⟨c,?_,?_⟩
      .show codeAmong p.1 [rawInt pos.line,rawInt pos.col,.ref c]=_
       rw[<-f.1,<-f.2]
       exact codeAmong_snoc [] trivial rfl
      .rw[C p t f.1 f.2];exact aX
     .refine .inl ?_
      simp only[codeAmong,rawInt]
      rw[AC]
      simp only[AV,GF]
      intro s
      exact f ⟨by omega,by omega⟩
    .refine .inr ⟨d,by rw[z];rfl,?_⟩
     rw[aJ (bL m a)];exact m
  .refine (A b u e).stay (fun d v D r=>hx d v ?_ r) (fun d r=>by rw[aJ (bL r a)];exact r) (fun d _ r=>by rw[aJ (bL r a)];exact r) fun d _ r=>by rw[aJ (bL r a)];exact r
   rcases D with z|z
   .rw[z];exact g
   .intro s;rw[s,k] at z;cases z
def Mkd(H:Hp)(q:Str)(c:Az)(H1:Hp):Prop:=(H c=some (.cod q)/\H1=H)\/(H c=none/\H1=upd H c (.cod q))
theorem aC5 {S : ClSt} {M : Model} {A : U9} {E : V9 -> S9 -> Prop} {Q : V9 -> S9 -> Prop} {i : Nat} (I : Inv X pins σ H s) (d : X.env.code = .ref c0) (T : Tb X.mg X.base c0 P0) (Y : H P0 = some (.tbl qs)) (hq : (pos, S.qual) ∈ qs)
    (hu : ∀ p ∈ qs, p.1.line = pos.line -> p.1.col = pos.col -> p.2 = S.qual) (y : ∀ x ∈ S.scope.names, x.2 = .free -> ∃ c, X.env.cells.lookup x.1 = some c)
    (h : ∀ f c cl doc pm ct H1 s', Mkd H S.qual c H1 -> H1 f = none -> ClOf X.env.cells S.scope cl -> Inv X pins σ (upd H1 f (FnO f (S.obj cl doc pm c ct))) s' -> Q (.ref f) s') :
    wpAny M A (makeFunction S.name S.qual S.params S.body S.scope X.env [] [] [] pos i) Q E s := by
  obtain ⟨cl, q, K⟩ := aA2 y
  obtain ⟨ps, g, N, t⟩ := (show cF X.prog X.w H s.heap P0 (.tbl qs) from I.hok P0 _ Y)
  have C : PySem.W.CodeHd s.heap c0 P0 := T.hd.keeps I.bk
  have F : s.heap.Ns mainGlobals X.mg := I.mod.glob.keeps I.bk
  have G : mainGlobals ≠ P0 := fun z => by
    obtain ⟨o, es, ep, e, hd, _⟩ := F
    rw [z, g] at e; cases e; cases hd
  obtain ⟨bm, ob, b1, b2, b3, b4, b5, Z⟩ := T.bt
  have k := I.bk _ _ b3
  have V : bm ≠ P0 := fun z => by rw [z, g] at k; cases k; cases b4
  have aa : bm ≠ mainGlobals := fun z => by
    obtain ⟨o, es, ep, e, hd, _⟩ := F
    rw [z, e] at k; cases k; rw [hd] at Z; cases Z
  have R : s.heap.BuiltinsAt X.mg P0 := ⟨bm, ob, b1, b2, aa, V, k, b4, b5, Z⟩
  rcases t _ hq with B | ⟨c, hf, hc⟩
  · have m : ∀ (j : Az) (a doc : V9) (h' : H9) (tk : Tok), Heap.ExtBut P0 s.heap h' -> s.heap.objs.size <= j -> j < h'.objs.size -> h'.CodeRec (.ref j) S.qual -> h'.get? P0 = some (PySem.W.tabObj (ps ++ #[rawInt pos.line, rawInt pos.col, .ref j])) ->
        Q (.ref h'.objs.size) { s with heap := h'.push (S.obj cl doc ((X.mg "__name__").getD .none) j a), toks := tk } := by
      intro j a doc h' tk U v L O J
      have hn : H j = none := I.hok.fresh v
      have r : HOk X.prog X.w (upd H j (.cod S.qual)) h' := aHC I.hok Y g N t hu B hn U O J
      have l : (upd H j (.cod S.qual)) h'.objs.size = none := r.fresh (AG _)
      refine h h'.objs.size j cl doc ((X.mg "__name__").getD .none) a _ _ (.inr ⟨hn, rfl⟩) l K ?_
      have D : ∀ b o, H b = some o -> b ≠ j /\ b ≠ h'.objs.size := fun b o e => ⟨bL e hn, fun z => by
        rw [z] at e
        rw [aJ (DL L), e] at l; cases l⟩
      have nP : ∀ b, H b = none -> b ≠ P0 := fun b n z => by rw [z, Y] at n; cases n
      refine I.un ⟨fun b o e n _ _ => AI _ (U b o (nP b n) e), fun b o e n _ _ => ⟨o.slots, AI _ (U b o (nP b n) e)⟩, fun b o e n _ => ?_, fun b o e _ => ?_, fun b xs e => ?_, fun b o u e => ?_, fun b qs e => ?_⟩ ?_
      · have hb := AQ e
        rw [aJ (BB (A3 hb (BI v (DA L)))), aJ (BB (A3 hb v))]; exact n
      · by_cases z : b = P0
        · subst z; exact ⟨_, AI _ J⟩
        · exact ⟨o, AI _ (U b o z e)⟩
      · rw [aJ (D b _ e).2, aJ (D b _ e).1]; exact e
      · rw [aJ (D b _ e).2, aJ (D b _ e).1]; exact e
      · rw [aJ (D b _ e).2, aJ (D b _ e).1]; exact e
      · exact r.laid (fun b u e => AI _ e) (AG _) (FnO.ok (BA _ rfl))
    obtain ⟨name, qual, params, body, scope⟩ := S
    cases body with
    | stmts body => exact PySem.W.makeFunction_K q I.ok.glob F d C g N B G R m
    | expr body => exact PySem.W.kla_makeFunction q I.ok.glob F d C g N B G R fun j a h' tk => m j a .none h' tk
  · have m : ∀ (a doc : V9) (h' : H9) (tk : Tok), (∀ b o, s.heap.get? b = some o -> h'.get? b = some o) -> s.heap.objs.size <= h'.objs.size ->
        Q (.ref h'.objs.size) { s with heap := h'.push (S.obj cl doc ((X.mg "__name__").getD .none) c a), toks := tk } := by
      intro a doc h' tk hk P
      refine h h'.objs.size c cl doc ((X.mg "__name__").getD .none) a H _ (.inl ⟨hc, rfl⟩) (I.hok.fresh P) K ?_
      exact I.laid (fun b u e => AI _ (hk b u e)) P (FnO.ok (BA _ rfl))
    obtain ⟨name, qual, params, body, scope⟩ := S
    cases body with
    | stmts body => exact PySem.W.makeFunction_hit q I.ok.glob F d C g N hf R m
    | expr body => exact PySem.W.kla_makeFunctionHit q I.ok.glob F d C g N hf R fun a h' tk => m a .none h' tk
def tMk(cells:List (Str×Az))(S:ClSt)(P0:Az)(qs:List (Pos×Str)):TE:=fun σ H Q=>H P0=some (.tbl qs)/\∀ f c cl doc pm ct H1,Mkd H S.qual c H1->H1 f=none->ClOf cells S.scope cl->Q (.ref f) (upd H1 f (FnO f (S.obj cl doc pm c ct)))
theorem aQK{i:Nat}{x:Str}{params:Arguments}{body:List Stmt}{scope:Scope}(b:X.env.code=.ref c0)(T:Tb X.mg X.base c0 P0)(d:qualnameIn X.env x x=q)(l:(pos,q)∈qs)
  (B:∀ p∈qs,p.1.line=pos.line->p.1.col=pos.col->p.2=q) (a:∀ y∈scope.names,y.2=.free->X.env.kindOf y.1=some .cell\/X.env.kindOf y.1=some .free)
  (g:params.defaults=[]) (e:params.kw_defaults=[]) (C:annTrees params none X.env=[])
  (t:X.N.Nodup) (hi:X.N[i]? = some x) (hx:Loc X.env.scope x) (u:X.fn x=true\/X.env.scope.names.lookup x=some .local:=by exact .inl rfl) :
  PS X (.FunctionDef x params body [] none [] scope none x pos) (lT (tMk X.env.cells ⟨x,q,params,.stmts body,scope⟩ P0 qs) (kE i)):=by
 intro pins s σ H D I h
 obtain ⟨n,h⟩:=h
 refine PySem.W.nestDef_K g e C ?_
 rw[d]
 refine aC5 (S:=⟨x,q,params,.stmts body,scope⟩) I b T n l B (fun y w j=>I.ok.has _ (a y w j)) fun f c cl doc pm ct H1 s' r z o m=>?_
 exact mO m t hi hx (v:=.ref f) rfl (fun A k=>⟨_,_,k,h f c cl doc pm ct H1 r z o⟩) u
theorem aQL{params:Arguments}{body:E1}{scope:Scope}(b:X.env.code=.ref c0)(T:Tb X.mg X.base c0 P0)(e:X.env.qual++("<lambda>":Str)=q)(i:(pos,q)∈qs)
  (r:∀ p∈qs,p.1.line=pos.line->p.1.col=pos.col->p.2=q) (a:∀ y∈scope.names,y.2=.free->X.env.kindOf y.1=some .cell\/X.env.kindOf y.1=some .free)
  (d:defaultsOf params X.env=([],[])) :
  PE X (.Lambda params body scope pos) (tMk X.env.cells ⟨"<lambda>",q,params,.expr body,scope⟩ P0 qs):=by
 intro pins s σ H Q I h
 obtain ⟨k,h⟩:=h
 refine PySem.W.kla_eval d ?_
 rw[e]
 exact aC5 (S:=⟨"<lambda>",q,params,.expr body,scope⟩) I b T k i r (fun y n g=>I.ok.has _ (a y n g)) fun f c cl doc pm ct H1 s' m o l j=>⟨.ref f,_,j,rfl,h f c cl doc pm ct H1 m o l⟩
end
abbrev Cv:=List (Az×Obj×V)
noncomputable def pub(cv:Cv)(H:Hp):Hp:=fun b=>match cv.lookup b with
 | some p=>some (eO b p.1 p.2)
 | none=>H b
noncomputable def dH(cv:Cv):List Az:=cv.map (·.1)
theorem iK{c:Cv}{b:Az}:b∈dH c↔∃ p,c.lookup b=some p:=by
 unfold dH
 induction c with
 | nil=>simp
 | cons a r ih=>
  obtain ⟨x,p⟩:=a
  rw[AL,A2,ih,BC]
  by_cases h:b=x
  .subst h;simp
  .rw[C7 h]
   simp[h]
theorem qR{a:Cv}{H:Hp}{b:Az}{p:Obj×V}(h:a.lookup b=some p):pub a H b=some (eO b p.1 p.2):=by unfold pub;rw[h]
theorem eP{a:Cv}{H:Hp}{b:Az}(h:b∉dH a):pub a H b=H b:=by
 unfold pub
 cases e:a.lookup b with
 | none=>rfl
 | some p=>exact absurd (iK.mpr ⟨p,e⟩) h
theorem kZ{a:Cv}{H:Hp}(c:∀ b∈dH a,H b=none):aN H (pub a H):=fun b o e=>by
 rw[eP fun z=>by rw[c b z] at e;cases e];exact e
theorem aLS{P:P9}{w:W9}{fs:List Az}{d:Cv}{H H1:Hp}{h h':H9}(l:∀ b∈dH d,H b=none)(k:HOk P w (pub d H) h)(un:Un fs [] (pub d H) H1 h h')(hk1:HOk P w H1 h') :
  Un fs [] H (hid (dH d) H1) h h'/\HOk P w (hid (dH d) H1) h':=by
 have inn:∀ b,b∈dH d->∃ o v,h.get? b=some o/\h'.get? b=some o/\H1 b=some (eO b o v):=fun b a=>by
  obtain ⟨⟨o,v⟩,e⟩:=iK.mp a
  have z:=qR (H:=H) e
  have f:=un.frzs b o _ z
  exact ⟨o,v,(eO.get k z).1,(eO.get hk1 f).1,f⟩
 have out:∀ b u,H b=some u->b∉dH d:=fun b u e z=>by rw[l b z] at e;cases e
 refine ⟨⟨fun b o e n h1 h2=>?_,fun b o e n h1 h2=>?_,fun b o e n h2=>?_,un.there,fun b xs q=>?_,fun b o u q=>?_,fun b ps q=>?_⟩,fun b u e=>?_⟩
 .by_cases a:b∈dH d
  .obtain ⟨o',v,g,j,_⟩:=inn b a
   rw[e] at g;cases g;exact j
  .exact un.keep b o e (by rw[eP a];exact n) h1 h2
 .by_cases a:b∈dH d
  .obtain ⟨o',v,g,j,_⟩:=inn b a
   rw[e] at g;cases g;exact ⟨o.slots,j⟩
  .exact un.slot b o e (by rw[eP a];exact n) h1 h2
 .by_cases a:b∈dH d
  .exact oF a
  .rw[bV a];exact un.free b o e (by rw[eP a];exact n) h2
 .have a:=out b _ q
  rw[bV a];exact un.tups b xs (by rw[eP a];exact q)
 .have a:=out b _ q
  rw[bV a];exact un.frzs b o u (by rw[eP a];exact q)
 .have a:=out b _ q
  rw[bV a];exact un.tbls b ps (by rw[eP a];exact q)
 .obtain ⟨e1,a⟩:=pB e
  have i:∀ c o,H1 c=some o->(∀ o' v,o≠eO c o' v)->c∉dH d:=fun c o q n z=>by
   obtain ⟨o',v,_,_,f⟩:=inn c z
   rw[q] at f;cases f;exact n o' v rfl
  exact (hk1 b u e1).stay (fun _ _ _ q=>q) (fun c q=>by rw[bV (i c _ q fun _ _ z=>nomatch z)];exact q) (fun c _ q=>by rw[bV (i c _ q fun _ _ z=>nomatch z)];exact q) fun c _ q=>by rw[bV (i c _ q fun _ _ z=>nomatch z)];exact q
structure PubRel(X:Cx)(σ:St)(H:Hp)(js:List Nat)(cv:Cv):Prop where
 at':∀ b o v,cv.lookup b=some (o,v)->∃ x j,j∈js/\X.N[j]? = some x/\X.env.cells.lookup x=some b/\σ[j]? = some (some v)
 all:∀ j∈js,∃ x c o v,X.N[j]? = some x/\X.env.cells.lookup x=some c/\σ[j]? = some (some v)/\cv.lookup c=some (o,v)
 free:∀ b∈dH cv,H b=none
 inj:∀ x y c,X.env.cells.lookup x=some c->X.env.cells.lookup y=some c->x=y
section
variable{X:Cx}{pins:List (Az×Obj)}{σ:St}{H:Hp}{s:S9}
def aA3(X:Cx)(σ:St)(j:Nat):Prop:=∃ x v,X.N[j]? = some x/\X.env.kindOf x=some .cell/\X.fn x=true/\σ[j]? = some (some v)
theorem aHD(I:Inv X pins σ H s):∀ (js:List Nat),(∀ j∈js,aA3 X σ j)->∃ cv,PubRel X σ H js cv/\∀ b o v,cv.lookup b=some (o,v)->(∃ u,s.heap.get? b=some o/\o.data=.cell (some u)/\bE v u)/\X.s₀.heap.objs.size<=b/\∃ x,X.env.cells.lookup x=some b
 | [],_=>⟨[],⟨fun b o v e=>by simp at e,fun j hj=>by simp at hj,fun b hb=>by simp[dH] at hb,I.ok.inj⟩,fun b o v e=>by simp at e⟩
 | j::js,hj=>by
  obtain ⟨cv,R,ok⟩:=aHD I js fun B h'=>hj B (AN _ h')
  obtain ⟨x,v,q,f,P,n⟩:=hj j A0
  obtain ⟨m,U,L⟩:=I.loc
  obtain ⟨u,r,l⟩:=L j x v q n (.inr (.inl f))
  rcases l with ⟨i,_⟩|⟨_,c,d,o,M,K⟩
  .rw[f] at i;cases i
  .have h:=I.ok.cab x c P d
   by_cases g:c∈dH cv
   .obtain ⟨⟨o',a⟩,e⟩:=iK.mp g
    obtain ⟨p,B,N,y,w,C⟩:=R.at' c o' a e
    have E:x=p:=I.ok.inj x p c d w
    subst E
    refine ⟨cv,⟨fun b o v e=>?_,fun k f=>?_,R.free,R.inj⟩,ok⟩
    .obtain ⟨x,j,h1,h2⟩:=R.at' b o v e
     exact ⟨x,j,AN _ h1,h2⟩
    .rcases A2.mp f with z|z
     .subst z
      obtain ⟨V,r2,T⟩:=L B x a y C (.inr (.inl (by assumption)))
      obtain ⟨⟨O,J,F,Q⟩,_⟩:=ok c o' a e
      rw[M] at J;cases J
      rw[K] at F
      have:u=O:=by cases F;rfl
      subst this
      have A:v=a:=bE.inj r Q
      subst A
      exact ⟨x,c,_,v,q,d,n,e⟩
     .exact R.all k z
   .refine ⟨(c,o,v)::cv,⟨fun b o' a e=>?_,fun k f=>?_,fun b hb=>?_,R.inj⟩,fun b o' a e=>?_⟩
    .rw[BC] at e
     by_cases hb:b=c
     .subst hb
      simp only[DH] at e
      cases e
      exact ⟨x,j,A0,q,d,n⟩
     .rw[C7 hb] at e
      obtain ⟨x,j,h1,h2⟩:=R.at' b o' a e
      exact ⟨x,j,AN _ h1,h2⟩
    .rcases A2.mp f with z|z
     .subst z
      exact ⟨x,c,o,v,q,d,n,by rw[BC];simp⟩
     .obtain ⟨p,G,o',a,h1,h2,S,t⟩:=R.all k z
      refine ⟨p,G,o',a,h1,h2,S,?_⟩
      rw[BC,C7 (show G≠c from fun z=>by rw[z] at t;exact g (iK.mpr ⟨_,t⟩))];exact t
    .have D:b=c\/b∈dH cv:=by simpa[dH] using hb
     rcases D with z|z
     .subst z;exact I.freeC x b d
     .exact R.free b z
    .rw[BC] at e
     by_cases hb:b=c
     .subst hb
      simp only[DH] at e
      cases e
      exact ⟨⟨u,M,K,r⟩,h,x,d⟩
     .rw[C7 hb] at e
      exact ok b o' a e
theorem aM4(I:Inv X pins σ H s){js:List Nat}{d:Cv}(R:PubRel X σ H js d)(ok:∀ b o v,d.lookup b=some (o,v)->(∃ u,s.heap.get? b=some o/\o.data=.cell (some u)/\bE v u)/\X.s₀.heap.objs.size<=b/\∃ x,X.env.cells.lookup x=some b) :
  Env0 X.prog X.w X.K X.mg X.base X.A X.stack s (pub d H) where
 frames:=I.ok.frames
 mod:=I.ok.mod
 bs:=fun b o e=>⟨(I.bs b o e).1,by
  rw[eP]
  .exact (I.bs b o e).2
  .intro z
   obtain ⟨⟨o',v⟩,q⟩:=iK.mp z
   have h1:=(ok b o' v q).2.1
   have h2:=AQ e
   exact absurd (A3 h2 (BI I.ok.bsz h1)) (B5 _)⟩
 bsz:=BI I.ok.bsz I.sz
 funs:=I.stack
 frf:=fun b a=>by
  rw[eP]
  .exact I.stkFree b a
  .intro z
   obtain ⟨⟨o',v⟩,q⟩:=iK.mp z
   obtain ⟨_,h1,x,g⟩:=ok b o' v q
   rcases A2.mp (I.stkSub b a) with f|f
   .exact I.cne x b g f
   .obtain ⟨_,o,h,_⟩:=I.ok.funs.mem f
    exact absurd (A3 (AQ h) h1) (B5 _)
 hok:=fun b u e=>by
  by_cases a:b∈dH d
  .obtain ⟨⟨o,v⟩,q⟩:=iK.mp a
   rw[qR q] at e;cases e
   obtain ⟨⟨u,h1,h2,i⟩,_⟩:=ok b o v q
   exact eO.ok i h1 h2
  .rw[eP a] at e
   exact (I.hok b u e).stay (fun _ _ _ q=>q) (fun c q=>kZ R.free _ _ q) (fun c _ q=>kZ R.free _ _ q) fun c _ q=>kZ R.free _ _ q
 bare:=I.bare
def aHE(X:Cx)(js:List Nat)(sp:Sp)(E:XK)(t:TA):TE:=fun σ H Q=>t σ H fun vs H1=>(∀ j∈js,aA3 X σ j)/\∀ cv,PubRel X σ H1 js cv->sp vs (pub cv H1) (fun v H2=>Q v (hid (dH cv) H2)) (fun c e H2=>E c e (hid (dH cv) H2)/\∀ a,e=some a->a∉dH cv)
theorem aQM{k:Nat}{x:Str}{ps:List Str}{sp:Sp}{E:XK}{p pos:Pos}{e:E1}{es:List E1}{t:TA}{js:List Nat}(C:Calls X.prog X.w X.K X.mg X.base (CXe X.prog X.w) k x ps sp)(W:Room k X.A)(V:Gl X x)(hx:mR (CXe X.prog X.w) X E)(Y:PA X (e::es) t)(z:(x == ("__debug__":Str))=false:=by decide)
  (he:starEach (e::es) X.env=(false,eval e X.env)::starEach es X.env:=by rfl) (hpl:(backTo pos (starEach es X.env)).any (·.1)=false:=by rfl):PE X (.Call (.Name x p) (e::es) [] pos) (aHE X js sp E t):=by
 obtain ⟨f,fd,F,b,m,G⟩:=C
 intro pins s σ H Q I h
 refine CZ (j6 I V m ?_ z)
 refine DO (h₀:=X.base) I.ok.mod.kin G (thn (Y pos pins s σ H _ I h) fun us s1 ⟨vs,H1,g,r,y,q⟩=>⟨g.kIn,?_⟩) he hpl
 obtain ⟨o,R,ok⟩:=aHD g js y
 have i:=q o R
 have e0:=aM4 g R ok
 have P:us.length=ps.length:=by rw[<-r.length];exact F.len _ _ _ _ i
 have B:=b s1 us g.kIn (by simpa using P)
 rw[CH] at B
 refine EQ (EN (F.run X.A X.stack s1 _ ⟨us,[]⟩ us vs _ _ W e0 B r i) fun U s' j=>?_)
 cases U with
 | error ev=>
  obtain ⟨e,C,od,H',rfl,os,c,un,hok,n,⟨l,T,N,L,D⟩,M,S⟩:=j
  obtain ⟨d,a⟩:=aLS R.free e0.hok un hok
  refine hx pins σ H1 s1 (.ref e) s' g ⟨e,C,od,hid (dH o) H',rfl,os,c,d,a,?_,⟨l,T,N,L,fun t e1=>?_⟩,M⟩
  .rw[bV (S e rfl)];exact n
  .exact ⟨iT (D t e1).1,(D t e1).2⟩
 | ok fl=>
  cases fl with
  | ret u=>
   obtain ⟨v,H',os,c,un,hok,O,J⟩:=j
   obtain ⟨d,a⟩:=aLS R.free e0.hok un hok
   exact g.after ⟨v,hid (dH o) H',os,c,d,a,O,J⟩
  | next=>exact False.elim j
  | brk=>exact False.elim j
  | cont=>exact False.elim j
end
noncomputable def aA4(Ps:List Az)(qs:List (Pos×Str)):Hp:=fun b=>if b∈Ps then some (.tbl qs) else none
def aA5(mg:Str->O9 V9)(h base:H9)(T:Hp)(qs:List (Pos×Str))(xs:List Str):Prop:=
 ∀ x∈xs,∃ c0 P0,T P0=some (.tbl qs)/\Tb mg base c0 P0/\∀ f o fd,mg x=some (.ref f)->h.get? f=some o->o.data=.func fd->fd.code=.ref c0
theorem aHF{P:P9}{w:W9}{K:Frag}{mg mb:Str->O9 V9}{CX:CXT}{k:Nat}{fa a:Az}{fd:FuncData}{x:Str}{c:S9}{vs:List V9}{ns:List Int}{qs:List (Pos×Str)}{xs:List Str}{tb:Str->Az×Az}
  (hT:∀ x∈xs,PySem.W.CodeHd c.heap (tb x).1 (tb x).2/\c.heap.get? (tb x).2=some (PySem.W.tabObj #[])) (ah:∀ x∈xs,∀ f o fd,mg x=some (.ref f)->c.heap.get? f=some o->o.data=.func fd->fd.code=.ref (tb x).1)
  (ai:∃ bm ob,mg "__builtins__"=some (.ref bm)/\bm≠builtinsNs/\c.heap.get? bm=some ob/\ob.cls=.type "module"/\ob.dict=some builtinsNs/\ob.data=.plain) (hNT:PySem.W.noTabs K=true)
  (KX:K.In c.heap) (U:c.heap.Ns mainGlobals mg) (g:c.heap.Ns builtinsNs mb) (aa:∀ x:Str,x≠"__name__"->mb x=bootBuiltins x) (N:c.heap.NoLimit) (hg:c.gens = #[])
  (Z:c.heap.get? a=some {cls:=.type "list",data:=.seq vs.toArray}) (hi:IntsAre vs ns) (hl:ns.length<=sizeLine) (hr:Room k callerA)
  (F:∀ (base:H9) (T:Hp),K.In base->base.Ns mainGlobals mg->aA5 mg c.heap base T qs xs->∃ sp,FnOk P w K mg base CX k fa fd [x] sp/\∀ H:Hp,aN T H->SqL K H a (ns.map V.int)->sp [.ref a] H (fun v _=>v=.bl true) fun _ _ _=>False) (hbind:∀ (s:S9) (u:V9),BindsTo s fd ⟨[u],[]⟩ [(x,u)])
  (hCX:∀ H e s',CX [] H c (fun _ _ _=>False) e s'->False) :
  codeAny (model P w) callerA (.call (.ref fa) ⟨[.ref a],[]⟩) (fun r s'=>r=.ok (.ret (.bool true))/\OldK c.heap s'.heap/\s'.os=c.os/\AllBare s'.gens) c:=by
 have rv:=y6 hi
 have X:=hi.length
 let Ps:List Az:=xs.map fun x=>(tb x).2
 have t:∀ b∈Ps,c.heap.get? b=some (PySem.W.tabObj #[])/\isCodeTable c.heap b:=fun b g=>by
  obtain ⟨y,J,rfl⟩:=A5.mp g
  exact ⟨(hT y J).2,((hT y J).1.tab (hT y J).2).isCodeTable⟩
 have G:a∉Ps:=fun z=>by have:=(t a z).1;rw[Z] at this;cases this
 have af:∀ b∈Ps,K.lookup b=none:=fun b g=>by
  cases e:K.lookup b with
  | none=>rfl
  | some o=>
   have e2:=KX b o e
   rw[(t b g).1] at e2
   cases e2
   have h2:=CS.mp hNT (b,_) (PySem.W.mem_of_lookupK e)
   exact absurd (show false=true from h2) B7
 have D:∀ H:Hp,(∀ b∈Ps,H b=some (.tbl qs))->(∀ b,H b≠none->b=a\/b∈Ps)->(H a=none\/∃ o xs,H a=some (.frz o (.lst xs)))->SqL K H a (ns.map V.int)->HOk P w H c.heap->(H a≠none->K.lookup a=none)->
   codeAny (model P w) callerA (.call (.ref fa) ⟨[.ref a],[]⟩) (fun r s'=>r=.ok (.ret (.bool true))/\OldK c.heap s'.heap/\s'.os=c.os/\AllBare s'.gens) c:=by
  intro H hP hA hO hS R hK
  have i:∀ {b:Az} {o:Obj},c.heap.get? b=some o->H b=none->(nV c.heap H).get? b=some o:=fun e n=>aI7 e n
  have j:∀ {b:Az} {o:Obj},c.heap.get? b=some o->(∀ vs,o.data≠.seq vs)->o≠PySem.W.tabObj #[]->H b=none:=fun {b o} e d d2=>by
   cases q:H b with
   | none=>rfl
   | some u=>
    rcases hA b (by rw[q];simp) with L|L
    .subst L
     rw[Z] at e;cases e
     exact absurd rfl (d _)
    .rw[(t b L).1] at e;cases e;exact absurd rfl d2
  have aj:∀ {b:Az} {o:Obj} {es:Array DictEntry} {ep:Nat},c.heap.get? b=some o->o.data=.dict es ep->H b=none:=fun {b o es ep} e d=>j e (fun vs z=>by rw[d] at z;cases z) fun z=>by rw[z] at d;cases d
  have C:∀ {b:Az} {m:Str->O9 V9},c.heap.Ns b m->(nV c.heap H).Ns b m:=fun {b m} ⟨o,es,ep,e,d,r⟩=>⟨o,es,ep,i e (aj e d),d,r⟩
  have M:K.In (nV c.heap H):=fun b o e=>i (KX b o e) (by
   cases q:H b with
   | none=>rfl
   | some u=>
    rcases hA b (by rw[q];simp) with L|L
    .subst L
     rw[hK (by rw[q];simp)] at e;cases e
    .rw[af b L] at e;cases e)
  have hM:Mod K mg (nV c.heap H):=⟨M,C U,⟨mb,C g,aa⟩,let ⟨mc,h1,h2⟩:=N;⟨mc,C h1,h2⟩⟩
  have e0:Env0 P w K mg (nV c.heap H) callerA [] c H:=⟨rfl,hM,fun b o e=>aMC e,Nat.le_of_eq (aGJ _ _),trivial,fun b g=>absurd (show b∈([]:List Az) from g) (by simp),R,.of_eq hg⟩
  have ag:aA5 mg c.heap (nV c.heap H) (aA4 Ps qs) qs xs:=fun y J=>by
   refine ⟨(tb y).1,(tb y).2,AD (A5.mpr ⟨y,J,rfl⟩),⟨?_,?_⟩,ah y J⟩
   .obtain ⟨o,vs,S,tf,I,tg,ae,O,tt,e1,r1,r2,r3⟩:=(hT y J).1
    exact ⟨o,vs,S,tf,I,tg,ae,O,tt,i e1 (j e1 (fun vs z=>by rw[r2] at z;cases z) fun z=>by rw[z] at r1;cases r1),r1,r2,r3⟩
   .obtain ⟨bm,ob,b1,b2,b3,b4,b5,b6⟩:=ai
    exact ⟨bm,ob,b1,b2,i b3 (j b3 (fun vs z=>by rw[b6] at z;cases z) fun z=>by rw[z] at b4;cases b4),b4,b5,b6⟩
  have ac:aN (aA4 Ps qs) H:=fun b o e=>by
   unfold aA4 at e
   split at e
   .rename_i g;cases e;exact hP b g
   .cases e
  obtain ⟨sp,FO,ad⟩:=F _ _ M (C U) ag
  refine EN (FO.run callerA [] c H ⟨[.ref a],[]⟩ [.ref a] [.ref a] _ _ hr e0 (hbind c (.ref a)) (.cons rfl .nil) (ad H ac hS)) fun r s' h=>?_
  cases r with
  | error e=>exact (hCX H e s' h).elim
  | ok fl=>
   cases fl with
   | next=>exact False.elim h
   | brk=>exact False.elim h
   | cont=>exact False.elim h
   | ret u=>
    obtain ⟨v,H',os,Q,un,A,r',q⟩:=h
    have q':v=.bl true:=q
    subst q'
    obtain rfl:u=Value.bool true:=r'
    have kept:∀ b o,c.heap.get? b=some o->b∉Ps->s'.heap.get? b=some o:=fun b o e g=>by
     cases q:H b with
     | none=>exact un.keep b o e q (by intro z;exact absurd (show b∈([]:List Az) from z) (by simp)) (by simp)
     | some u=>
      rcases hA b (by rw[q];simp) with z|z
      .subst z
       rcases hO with z|⟨ob,xs,z⟩
       .rw[q] at z;cases z
       .have Y:=un.frzs b ob _ z
        obtain ⟨e1,_⟩:=R b _ z
        obtain ⟨e2,_⟩:=A b _ Y
        rw[e] at e1;cases e1
        exact e2
      .exact absurd z g
    refine ⟨rfl,⟨fun b o e=>?_,fun b o e=>?_⟩,os,Q⟩
    .by_cases g:b∈Ps
     .obtain ⟨ps,e2,_⟩:=(show cF P w H' s'.heap b (.tbl qs) from A b _ (un.tbls b _ (hP b g)))
      have e1:=(t b g).1
      rw[e] at e1;cases e1
      exact .inr (.inl ⟨(t b g).2,rfl,#[],ps,rfl,by rw[Array.empty_append];exact e2⟩)
     .exact .inl (kept b o e g)
    .by_cases g:b∈Ps
     .obtain ⟨ps,e2,_⟩:=(show cF P w H' s'.heap b (.tbl qs) from A b _ (un.tbls b _ (hP b g)))
      exact ⟨_,e2⟩
     .exact ⟨o,kept b o e g⟩
 have B:∀ (H:Hp) b,b∈Ps->cF P w H c.heap b (.tbl qs):=fun H b g=>⟨#[],(t b g).1,trivial,fun p _=>.inl rfl⟩
 cases hk:K.lookup a with
 | some o=>
  have e:=KX a o hk
  rw[Z] at e
  cases e
  refine D (aA4 Ps qs) (fun b g=>AD g) (fun b z=>?_) (.inl (AC G)) (.inr ⟨_,vs.toArray,_,hk,rfl,rfl,rfl,by rw[BG,X];exact hl,by simpa using rv⟩) (fun b u z=>?_) fun z=>absurd (AC G) z
  .by_cases g:b∈Ps
   .exact .inr g
   .exact absurd (AC g) z
  .by_cases g:b∈Ps
   .have E:=(AD g).symm.trans z
    cases E
    exact B _ b g
   .have E:=(AC g).symm.trans z
    cases E
 | none=>
  refine D (fun b=>if b=a then some (.frz {cls:=.type "list",data:=.seq vs.toArray} (.lst (ns.map V.int))) else aA4 Ps qs b) (fun b g=>?_) (fun b z=>?_) (.inr ⟨_,_,AD rfl⟩) (.inl (.inr ⟨{cls:=.type "list",data:=.seq vs.toArray},AD rfl⟩)) (fun b u z=>?_) fun _=>hk
  .rw[AC (show ¬ b=a from fun z=>G (by rw[<-z];exact g))];exact AD g
  .by_cases g:b=a
   .exact .inl g
   .rw[AC g] at z
    by_cases l:b∈Ps
    .exact .inr l
    .exact absurd (AC l) z
  .by_cases g:b=a
   .have E:=(AD g).symm.trans z
    cases E
    subst g
    exact ⟨Z,by rw[AB];exact hl,vs,_,rv,Z⟩
   .have E:=(AC g).symm.trans z
    by_cases l:b∈Ps
    .have Y:=(AD l).symm.trans E
     cases Y
     exact B _ b l
    .have Y:=(AC l).symm.trans E
     cases Y
theorem aM5{p:P9}{e:List Str}{g:ExcName->O9 V9}{mg l:Str->O9 V9}{h:H9}(T:Top p e g mg l h)(xs:List Str)(hx:∀ x∈xs,∃ d∈recsOf p,d.name=x) :
  ∃ tb:Str->Az×Az,(∀ x∈xs,PySem.W.CodeHd h (tb x).1 (tb x).2/\h.get? (tb x).2=some (PySem.W.tabObj #[]))/\∀ x∈xs,∀ f o fd,mg x=some (.ref f)->h.get? f=some o->o.data=.func fd->fd.code=.ref (tb x).1:=by
 have b:∀ x,∃ t:Az×Az,x∈xs->(PySem.W.CodeHd h t.1 t.2/\h.get? t.2=some (PySem.W.tabObj #[]))/\∀ f o fd,mg x=some (.ref f)->h.get? f=some o->o.data=.func fd->fd.code=.ref t.1:=fun x=>by
  by_cases i:x∈xs
  .obtain ⟨d,u,rfl⟩:=hx x i
   obtain ⟨a,o,fd,c,q,h1,h2,r,m,n,j⟩:=T.tab d u
   refine ⟨(c,q),fun _=>⟨⟨PySem.W.CodeHd.of n j,j.2⟩,fun f o' s e1 e2 k=>?_⟩⟩
   rw[h1] at e1;cases e1
   rw[h2] at e2;cases e2
   rw[r] at k;cases k
   exact m
  .exact ⟨(0,0),fun z=>absurd z i⟩
 exact ⟨fun x=>(b x).choose,fun x hx=>((b x).choose_spec hx).1,fun x hx=>((b x).choose_spec hx).2⟩
theorem walk_ofT{l:PySem.W.OpenLaw}{n k:Nat}{q:P9}{j:List Str}{Q:(Str->O9 V9)->H9->Prop}{D:W9->H9->Prop}{d:DefRec}{K:Params->Frag}{CX:W9->CXT}{x:Str}{qs:List (Pos×Str)}{xs:List Str}
  (A:∀ x∈xs,∃ d∈recsOf q,d.name=x) (hNT:∀ w:W9,PySem.W.noTabs (K w.params)=true)
  (X:l.most=some n) (B:n<=sizeLine) (y:d.params.defaults=[]) (P:Room k callerA)
  (E:∀ (w:W9) (h:H9),D w h->(K w.params).In h)
  (F:∀ (w:W9) (mg:Str->O9 V9) (fa:Az) (h:H9),(K w.params).In h->h.Ns mainGlobals mg->mg d.name=some (.ref fa)->
   ∃ fd:FuncData,(∀ (s:S9) (u:V9),BindsTo s fd ⟨[u],[]⟩ [(x,u)]) /\
    ∀ (base:H9) (T:Hp),(K w.params).In base->base.Ns mainGlobals mg->aA5 mg h base T qs xs->∃ sp,FnOk l.prog w (K w.params) mg base (CX w) k fa fd [x] sp /\
     ∀ (H:Hp) (a:Az) (ns:List Int),ns.length<=n->aN T H->SqL (K w.params) H a (ns.map V.int)->sp [.ref a] H (fun v _=>v=.bl true) fun _ _ _=>False)
  (z:∀ (w:W9) (H:Hp) (s:S9) (e:V9) (s':S9),CX w [] H s (fun _ _ _=>False) e s'->False) :
  PySem.W.WalkO q j Q D l.row.toRowW d [] (fun f vs=>PySem.call f vs):=by
 refine Att.attach_call X y fun w s₀ m mg mb fa o pm cd doc a vs ns G Y ho hd O t p i c N=>?_
 have C:=E w _ Y
 obtain ⟨fd,I,J⟩:=F w mg fa _ C G.T.g t
 obtain ⟨tb,L,r⟩:=aM5 G.T xs A
 refine aHF (qs:=qs) L r G.T.bmain (hNT w) C G.T.g G.T.b G.T.builtins G.T.nolimit N p i (BI c B) P (fun base T R M S=>?_) I fun H e s'=>z w H m e s'
 obtain ⟨sp,U,Z⟩:=J base T R M S
 exact ⟨sp,U,fun H h1 h2=>Z H a ns c h1 h2⟩
end L2
namespace Fl
open PySem L2 PyProof.Rows
mutual
noncomputable def fK:Dz->Bool
 | .none=>true
 | .int _=>true
 | .str x=>PyData.strOk x
 | .tuple xs=>eH xs
 | _=>false
noncomputable def eH:List Dz->Bool
 | []=>true
 | x::t=>fK x && eH t
end
mutual
noncomputable def iQ(w:W9):Dz->Int
 | .none=>reduceHash 0xFCA86420
 | .int i=>hashInt i
 | .str x=>hashStr w x
 | .tuple xs=>reduceHash (Builtin.Tuple.tupleHashOf (mJ w xs))
 | _=>0
noncomputable def mJ(w:W9):List Dz->List Int
 | []=>[]
 | x::t=>iQ w x::mJ w t
end
mutual
noncomputable def gY:Dz->Nat
 | .tuple xs=>mT xs+1
 | _=>1
noncomputable def mT:List Dz->Nat
 | []=>0
 | x::t=>gY x+mT t
end
mutual
theorem oG:∀ {d:Dz},fK d=true->d.canLay0=true
 | .none,_=>rfl
 | .int _,_=>rfl
 | .str x,h=>h
 | .tuple xs,h=>by
  have h':eH xs=true:=h
  exact aA6 h'
theorem aA6:∀ {xs:List Dz},eH xs=true->PyData.canLayAll0 xs=true
 | [],_=>rfl
 | x::t,h=>by
  have h':(fK x && eH t)=true:=h
  rw[AV] at h'
  show (x.canLay0 && PyData.canLayAll0 t)=true
  rw[oG h'.1,aA6 h'.2];rfl
end
mutual
theorem xG:∀ {d e:Dz},fK d=true->fK e=true->(PyData.eqv d e=true↔d=e)
 | .none,e,_,he=>by cases e<;>simp[PyData.eqv]<;>cases he
 | .int i,e,_,he=>by cases e<;>simp[PyData.eqv]<;>cases he
 | .str x,e,_,he=>by cases e<;>simp[PyData.eqv]<;>cases he
 | .tuple xs,e,hd,he=>by
  have hd':eH xs=true:=hd
  cases e with
  | tuple ys=>
   have a:eH ys=true:=he
   have:=aA7 hd' a
   show PyData.eqvAll xs ys=true↔_
   rw[this]
   exact ⟨fun z=>by rw[z],fun z=>by cases z;rfl⟩
  | _=>simp[PyData.eqv]<;>cases he
theorem aA7:∀ {xs ys:List Dz},eH xs=true->eH ys=true->(PyData.eqvAll xs ys=true↔xs=ys)
 | [],ys,_,_=>by cases ys<;>simp[PyData.eqvAll]
 | x::t,ys,hx,hy=>by
  have hx':(fK x && eH t)=true:=hx
  rw[AV] at hx'
  cases ys with
  | nil=>simp[PyData.eqvAll]
  | cons y u=>
   have c:(fK y && eH u)=true:=hy
   rw[AV] at c
   rw[PyData.eqvAll,AV,xG hx'.1 c.1,aA7 hx'.2 c.2]
   exact ⟨fun ⟨a,b⟩=>by rw[a,b],fun z=>by cases z;exact ⟨rfl,rfl⟩⟩
end
noncomputable instance decPyData:DecidableEq Dz:=fun a b=>Classical.propDecidable (a=b)
theorem aM6{d e:Dz}(a:fK d=true)(b:fK e=true):PyData.eqv d e=decide (d=e):=by
 by_cases h:d=e
 .rw[AZ h,(xG a b).mpr h]
 .rw[A1 h]
  cases q:PyData.eqv d e with
  | false=>rfl
  | true=>exact absurd ((xG a b).mp q) h
theorem aE0(xs:List Dz):gY (.tuple xs)=mT xs+1:=by rw[gY]
theorem y9(A:U9):A.in1.units=A.units+1:=rfl
def lQ(prog:P9)(w:W9)(E:V9->S9->Prop)(d:Dz):Prop:=∀ (v:V9) (as:List Az) (A:U9) (s:S9) (Q:Int->S9->Prop),fK d=true->Reads s.heap v d as->A.units+d.depth < cLine->Q (iQ w d) {s with toks:=s.toks+gY d}->
 wpAny (model prog w) A (pyHash v) Q E s
theorem aQN{prog:P9}{w:W9}{E:V9->S9->Prop}:∀ (xs:List Dz) (ih:∀ x∈xs,lQ prog w E x) (vs:List V9) (as:List Az) (A:U9) (s:S9) (b:Array Int) (Q:Array Int->S9->Prop),eH xs=true->ReadsAll s.heap vs xs as->A.units+PyData.depthAll xs < cLine->
  (∀ b',b'.toList=b.toList++mJ w xs->Q b' {s with toks:=s.toks+mT xs})->
  wpAny (model prog w) A (forIn vs b fun x r=>do let h <-pyHash x;pure PUnit.unit;pure (ForInStep.yield (r.push h))) Q E s:=by
 intro xs
 induction xs with
 | nil=>
  intro ih vs as A s b Q _ x _ h
  cases x
  exact AE (h b (by simp[mJ]))
 | cons k xs ih0=>
  intro ih vs as A s b Q f x g h
  cases x with
  | @cons v vs _ _ as bs x1 x2=>
   have a:(fK k && eH xs)=true:=f
   rw[AV] at a
   have d:A.units+max k.depth (PyData.depthAll xs) < cLine:=g
   rw[DS]
   refine AA (AA (ih k A0 _ _ A s _ a.1 x1 (by omega) ?_))
   refine AA (AE (AE ?_))
   refine ih0 (fun x c=>ih x (AN _ c)) _ _ A {s with toks:=s.toks+gY k} _ Q a.2 x2 (by omega) fun b' e=>?_
   have q:=h b' (by rw[e];simp[mJ])
   rw[show mT (k::xs)=gY k+mT xs by rw[mT],<-Nat.add_assoc] at q
   exact q
theorem zA(w:W9)(i:Int):iQ w (.int i)=hashInt i:=by rw[iQ]
theorem zB(w:W9)(i:Str):iQ w (.str i)=hashStr w i:=by rw[iQ]
theorem aHG(w:W9)(xs:List Dz):iQ w (.tuple xs)=reduceHash (Builtin.Tuple.tupleHashOf (mJ w xs)):=by rw[iQ]
theorem aE1(i:Int):gY (.int i)=1:=by unfold gY;rfl
theorem aE2(i:Str):gY (.str i)=1:=by unfold gY;rfl
theorem aJT{prog:P9}{w:W9}{E:V9->S9->Prop}(i:Int):lQ prog w E (.int i):=fun v a A s Q _ r _ h=>by
 rw[zA,aE1] at h
 cases r
 exact wpAny_pyHash_int h
theorem aJU{prog:P9}{w:W9}{E:V9->S9->Prop}(i:Str):lQ prog w E (.str i):=fun v a A s Q _ r _ h=>by
 rw[zB,aE2] at h
 cases r
 exact wpAny_pyHash_str h
theorem aJV{prog:P9}{w:W9}{E:V9->S9->Prop}(xs:List Dz)(g:∀ x∈xs,lQ prog w E x):lQ prog w E (.tuple xs):=fun v d A s Q i r j h=>by
 rw[aHG,aE0] at h
 cases r with
 | @tuple a o vs n _ d h1 h2 h3 h4=>
  have c:eH xs=true:=i
  have e:A.units+(PyData.depthAll xs+1) < cLine:=j
  refine PySem.W.pyHash_slot (T:="tuple") ⟨o,h1,h2⟩ F.slot_tuple_hash F.entry_tuple_hash (F.args_tuple_hash_1 _) (beq_builtin_none _) (.inr (by omega)) ?_
  show wpAny _ _ (Builtin.Tuple.tupleItemsOf (.ref a) >>= _) _ _ s
  refine AA (wpAny_tupleItemsOf h1 h3 ?_)
  refine AA ?_
  rw[<-Array.forIn_toList]
  refine aQN xs g vs.toList d A.in1 s #[] _ c h4 (by rw[y9];omega) fun b f=>?_
  show wpAny _ _ (retInt (Builtin.Tuple.tupleHashOf b.toList)) _ _ _
  rw[f]
  exact AA (wpAny_mkInt (AE ⟨_,_,rfl,h⟩))
theorem aE3(w:W9):iQ w .none=reduceHash 0xFCA86420:=by rw[iQ]
theorem aCP:gY .none=1:=by unfold gY;rfl
theorem aJW{prog:P9}{w:W9}{E:V9->S9->Prop}:lQ prog w E .none:=fun v c A s Q _ r b h=>by
 rw[aE3,aCP] at h
 generalize a:reduceHash 0xFCA86420=g at h
 cases r
 refine PySem.W.pyHash_slot (T:="NoneType") rfl F.slot_NoneType_hash F.entry_NoneType_hash (F.args_NoneType_hash_1 _) (beq_builtin_none _) (.inr (by omega)) (AA (AE (AA (wpAny_mkInt (AE ⟨0xFCA86420,_,rfl,?_⟩)))))
 rw[a]
 exact h
theorem aQO{prog:P9}{w:W9}{E:V9->S9->Prop}:∀ (n:Nat) (d:Dz),sizeOf d<=n->lQ prog w E d:=by
 intro n
 induction n with
 | zero=>intro d h;cases d<;>simp at h
 | succ n ih=>
  intro d h
  cases d with
  | none=>exact aJW
  | int i=>exact aJT i
  | str x=>exact aJU x
  | tuple xs=>
   refine aJV xs fun x e=>ih x ?_
   have:=List.sizeOf_lt_of_mem e
   simp only[PyData.tuple.sizeOf_spec] at h
   omega
  | bool b=>exact fun v c A s Q a=>nomatch a
  | list xs=>exact fun v c A s Q a=>nomatch a
  | dict xs=>exact fun v c A s Q a=>nomatch a
theorem aQP{prog:P9}{w:W9}{E:V9->S9->Prop}(d:Dz):lQ prog w E d:=aQO (sizeOf d) d (AG _)
theorem aM7{M:Model}{A:U9}{E:V9->S9->Prop}{s:S9}:∀ (n:Nat) (d:Dz) (v:V9) (as:List Az) (Q:Bool->S9->Prop),fK d=true->Reads s.heap v d as->d.depth<=n->Q true s->wpAny M A (eqIsQuiet n v) Q E s:=by
 intro n
 induction n with
 | zero=>
  intro d v as Q c r j h
  cases d with
  | none=>cases r;rw[DX _ rfl];exact AE h
  | int i=>cases r;rw[DX _ rfl];exact AE h
  | str x=>cases r;rw[DX _ rfl];exact AE h
  | tuple xs=>
   have f:PyData.depthAll xs+1<=0:=j
   omega
  | bool b=>exact nomatch c
  | list xs=>exact nomatch c
  | dict xs=>exact nomatch c
 | succ n ih=>
  intro d v as Q c r j h
  cases d with
  | none=>cases r;rw[DX _ rfl];exact AE h
  | int i=>cases r;rw[DX _ rfl];exact AE h
  | str x=>cases r;rw[DX _ rfl];exact AE h
  | bool b=>exact nomatch c
  | list xs=>exact nomatch c
  | dict xs=>exact nomatch c
  | tuple xs=>
   cases r with
   | @tuple a o vs m _ as h1 h2 h3 h4=>
    have g:eH xs=true:=c
    have f:PyData.depthAll xs+1<=n+1:=j
    have k:s.TypeIs (.ref a) "tuple":=⟨o,h1,h2⟩
    unfold eqIsQuiet
    refine AA (GV k F.slot_tuple_eq.lookup ?_)
    show wpAny _ _ (isInstance (.ref a) (.type "tuple") >>= _) _ _ s
    refine AA (GP k isSubtype_tuple_tuple ?_)
    simp only[F9,BF,CF]
    refine AA (wpAny_seqItems h1 h3 ?_)
    refine AA ?_
    show wpAny _ _ (forIn vs _ _) _ _ s
    rw[<-Array.forIn_toList]
    refine wpAny_forIn_list _ (fun rest r s'=>r.1=none/\s'=s/\∃ ys bs,eH ys=true/\PyData.depthAll ys<=n/\ReadsAll s.heap rest ys bs) _ ?_ ?_ _ _ ⟨rfl,rfl,xs,_,g,by omega,h4⟩
    .rintro v rest r s' ⟨hr,rfl,ys,bs,hy,hdy,ry⟩
     cases ry with
     | @cons _ _ y yt cs ds r1 r2=>
      have e:(fK y && eH yt)=true:=hy
      rw[AV] at e
      have l:max y.depth (PyData.depthAll yt)<=n:=hdy
      refine AA (ih y v _ _ e.1 r1 (by omega) ?_)
      simp only[F9,BF,CF]
      exact AE ⟨rfl,rfl,yt,_,e.2,by omega,r2⟩
    .rintro ⟨r1,r2⟩ s' ⟨hr,rfl,_⟩
     simp only at hr
     subst hr
     exact AE h
def aU6(h:H9)(d:Dz)(a:Az):Prop:=fK d=true/\d.depth<=8/\∃ as,Reads h (.ref a) d as
theorem aE4{h h':H9}{a:Az}{o:Obj}{es:Array DictEntry}{ep:Nat}(m:h.get? a=some o)(u:o.data=.dict es ep)(s:Heap.SameBut a h h'){v:V9}{d:Dz}{e:List Az}(c:fK d=true)(r:Reads h v d e):Reads h' v d e:=by
 refine Reads.rec (motive_1:=fun v d e _=>fK d=true->Reads h' v d e) (motive_2:=fun vs xs e _=>eH xs=true->ReadsAll h' vs xs e) ?_ ?_ ?_ ?_ ?_ ?_ ?_ ?_ ?_ r c
 .exact fun _=>.none
 .intro b c;cases c
 .exact fun i t _=>.int i t
 .exact fun i t _=>.str i t
 .intro b o' vs n xs e h1 h2 f g k c;cases c
 .intro b o' vs n xs e h1 h2 f g k c
  exact .tuple ((s.2 b (fun z=>by subst z;rw[m] at h1;cases h1;rw[u] at f;cases f)).trans h1) h2 f (k c)
 .intro b o' q n p e bs h1 h2 f g w j l c;cases c
 .exact fun _=>.nil
 .intro v vs d ds e bs r1 r2 j l c
  exact .cons (j ((AV ..).mp c).1) (l ((AV ..).mp c).2)
noncomputable def jW(prog:P9)(w:W9):HeapKind prog w Dz where
 is:=aU6
 hash:=iQ w
 draws:=gY
 room:=fun A=>A.units+9 < cLine
 inj:=fun {h a x y} hx hy=>by
  obtain ⟨k1,_,as,r1⟩:=hx
  obtain ⟨k2,_,bs,r2⟩:=hy
  exact PySem.SeqAt.Reads.unique x y _ _ _ (oG k1) r1 r2
 keeps:=fun {h h' k a d o es ep} hx ho hd hs=>by
  obtain ⟨k1,k2,as,r1⟩:=hx
  exact ⟨k1,k2,as,aE4 ho hd hs k1 r1⟩
 pyHash:=fun {A E s k a Q} hu hk h=>by
  obtain ⟨k1,k2,as,r1⟩:=hk
  exact aQP k _ as A s Q k1 r1 (by omega) h
 eqBool:=fun {A E s x y a b Q} hu hx hy h=>by
  obtain ⟨k1,k2,as,r1⟩:=hx
  obtain ⟨l1,l2,bs,r2⟩:=hy
  refine PySem.SeqAt.eqAt_reads x y A s _ _ as bs r1 r2 (oG k1) (oG l1) ?_ prog w E Q ?_
  .have:min x.depth y.depth<=8:=BI (Nat.min_le_left _ _) k2
   omega
  .rw[aM6 k1 l1];exact h
 quiet:=fun {A E s k a Q} hk h=>by
  obtain ⟨k1,k2,as,r1⟩:=hk
  exact aM7 8 k _ as Q k1 r1 k2 h
abbrev Ent:=Dz×V×V
def pD(w:W9)(p:Ent)(en:DictEntry):Prop:=en.hash=iQ w p.1/\bE p.2.1 en.key/\bE p.2.2 en.val
def dU(w:W9)(a:Az)(es:List Ent)(ep:Nat):HO:=.ext fun h=>(a == sysModules)=false/\∃ o ar,h.get? a=some o/\o.ExactDict/\o.data=.dict ar ep/\Paired (pD w) es ar.toList
theorem mK{P:P9}{w:W9}{H:Hp}{h:H9}{a:Az}{es:List Ent}{ep:Nat}(d:(a == sysModules)=false)(b:∃ o ar,h.get? a=some o/\o.ExactDict/\o.data=.dict ar ep/\Paired (pD w) es ar.toList):cF P w H h a (dU w a es ep):=
 ⟨⟨d,b⟩,let ⟨o,_,e,_⟩:=b;⟨o,e⟩,fun h1 h2 ⟨q,o,es,e,r⟩ c=>⟨q,o,es,c _ e,r⟩⟩
noncomputable def lU:Dz->Bool
 | .tuple xs=>fK (.tuple xs) && decide ((PyData.tuple xs).depth<=8)
 | _=>false
noncomputable def nW:Dz->Bool
 | .int _=>true
 | .str _=>true
 | _=>false
def cV(k:Dz)(ks:List Dz):Bool:=(lU k && ks.all lU) || (nW k && ks.all nW)
theorem aM8{d:Dz}(h:lU d=true):∃ xs,d=.tuple xs/\fK d=true/\d.depth<=8:=by
 cases d with
 | tuple xs=>
  have h':(fK (.tuple xs) && decide ((PyData.tuple xs).depth<=8))=true:=h
  rw[AV] at h'
  exact ⟨xs,rfl,h'.1,BV h'.2⟩
 | _=>cases h
def kH:Key->Dz
 | .inl i=>.int i
 | .inr x=>.str x
theorem aC6{d:Dz}(h:nW d=true):∃ k,d=kH k:=by
 cases d with
 | int i=>exact ⟨.inl i,rfl⟩
 | str i=>exact ⟨.inr i,rfl⟩
 | _=>cases h
theorem zC{a b:Key}(h:kH a=kH b):a=b:=by
 cases a<;>cases b<;>cases h<;>rfl
theorem aC7{K:Frag}{H:Hp}{v:V}{k:Key}(h:DatV K H v (kH k)):v=kV k:=by
 cases k with
 | inl i=>exact h.int_of
 | inr x=>exact h.str_of
theorem aA8{P:P9}{w:W9}(k:Key):iQ w (kH k)=(d5 P w).hash k:=by
 cases k with
 | inl i=>exact zA w i
 | inr x=>exact zB w x
def xH:Ent->(Dz×Az×V9)->Prop:=fun e x=>e.1=x.1/\e.2.1=.ref x.2.1/\bE e.2.2 x.2.2
def xI:Ent->(Key×V9)->Prop:=fun e x=>e.1=kH x.1/\e.2.1=kV x.1/\bE e.2.2 x.2
theorem aHH{P:P9}{w:W9}:∀ {es:List Ent} {ens:List DictEntry},Paired (pD w) es ens->(∀ e∈es,∃ b,e.2.1=.ref b)->∃ xs,ens=xs.map (entryOfKey (jW P w))/\Paired xH es xs
 | _,_,.nil,_=>⟨[],rfl,.nil⟩
 | e::es,en::ens,.cons h t,hb=>by
  obtain ⟨xs,h1,h2⟩:=aHH (P:=P) t fun e k=>hb e (AN _ k)
  obtain ⟨b,c⟩:=hb e A0
  obtain ⟨l,j,m⟩:=h
  rw[c] at j
  obtain ⟨a,f,d⟩:=en
  have i:f=Value.ref b:=j
  have g:a=iQ w e.1:=l
  subst i g
  exact ⟨(e.1,b,d)::xs,by rw[AL,h1];rfl,.cons ⟨rfl,c,m⟩ h2⟩
theorem tU{P:P9}{w:W9}:∀ {es:List Ent} {xs:List (Dz×Az×V9)},Paired xH es xs->Paired (pD w) es (xs.map (entryOfKey (jW P w)))
 | _,_,.nil=>.nil
 | _,_,.cons h t=>.cons ⟨by rw[h.1];rfl,by rw[h.2.1];rfl,h.2.2⟩ (tU t)
theorem aHI{P:P9}{w:W9}:∀ {es:List Ent} {ens:List DictEntry},Paired (pD w) es ens->(∀ e∈es,∃ k,e.1=kH k/\e.2.1=kV k)->∃ xs,Pairs (d5 P w) ens xs/\Paired xI es xs/\∀ en∈ens,∃ k,(d5 P w).is k en.key=true/\en.hash=(d5 P w).hash k
 | _,_,.nil,_=>⟨[],.nil,.nil,fun _ h=>by cases h⟩
 | e::es,en::ens,.cons h t,hb=>by
  obtain ⟨xs,h1,h2,h3⟩:=aHI (P:=P) t fun e f=>hb e (AN _ f)
  obtain ⟨k,a,b⟩:=hb e A0
  obtain ⟨g,i,j⟩:=h
  have hi:(d5 P w).is k en.key=true:=aLQ (by rw[<-b];exact i)
  refine ⟨(k,en.val)::xs,.cons hi rfl h1,.cons ⟨a,b,j⟩ h2,fun d c=>?_⟩
  rcases A2.mp c with z|z
  · subst z; exact ⟨k, hi, by rw [g, a, aA8 (P := P)]⟩
  · exact h3 d z
theorem aM9{P:P9}{w:W9}{k:Key}{v:V9}(h:(d5 P w).is k v=true):bE (kV k) v:=by
 rcases keyIs_shape h with ⟨i,t,rfl,rfl⟩|⟨x,t,rfl,rfl⟩
 · exact ⟨t, rfl⟩
 · exact ⟨t, rfl⟩
theorem tW{P:P9}{w:W9}:∀ {es:List Ent} {xs:List (Key×V9)} {ens:List DictEntry},Paired xI es xs->Pairs (d5 P w) ens xs->(∀ en∈ens,∃ k,(d5 P w).is k en.key=true/\en.hash=(d5 P w).hash k)->Paired (pD w) es ens
 | _,_,_,.nil,.nil,_=>.nil
 | _,_,_,.cons h t,.cons p1 p2 ps,hk=>by
  obtain ⟨k,hk1,hk2⟩:=hk _ A0
  obtain rfl:=(d5 P w).inj _ _ _ hk1 p1
  refine .cons ⟨by rw[hk2,h.1,aA8 (P:=P)],by rw[h.2.1];exact aM9 hk1,by rw[p2];exact h.2.2⟩ (tW t ps fun en a=>hk en (AN _ a))
noncomputable def atE(es:List Ent)(k:Dz):O9 V:=(es.find? fun e=>decide (e.1=k)).map (·.2.2)
noncomputable def nX(es:List Ent)(k:Dz)(kv v:V):List Ent:=if (atE es k).isSome then es.map (fun e=>if e.1=k then (e.1,e.2.1,v) else e) else es++[(k,kv,v)]
theorem qS{k:Dz}:∀ {es:List Ent} {xs:List (Dz×Az×V9)},Paired xH es xs->hU (atE es k) ((atKey xs k).map (·.2))
 | _,_,.nil=>trivial
 | e::es,x::xs,.cons h t=>by
  have ih:=qS (k:=k) t
  unfold atE atKey at ih ⊢
  rw[DB,DB,h.1]
  by_cases q:x.1=k
  · rw [AZ q]; exact h.2.2
  · rw [A1 q]; exact ih
theorem qT{k:Key}:∀ {es:List Ent} {xs:List (Key×V9)},Paired xI es xs->hU (atE es (kH k)) (valueAt xs k)
 | _,_,.nil=>trivial
 | e::es,x::xs,.cons h t=>by
  have ih:=qT (k:=k) t
  unfold atE valueAt at ih ⊢
  rw[DB,DB,h.1]
  by_cases q:x.1=k
  · rw [AZ q, AZ (by rw [q])]; exact h.2.2
  · rw [A1 q, A1 (fun z => q (zC z))]; exact ih
theorem kA{o:O9 V}{u:O9 V9}(h:hU o u):o.isSome=u.isSome:=by
 cases o<;>cases u<;>first|rfl|exact h.elim
theorem pE{α β:Type}{f:α->β->Prop}{g:α->α}{k:β->β}(hg:∀ a b,f a b->f (g a) (k b)):∀ {xs:List α} {ys:List β},Paired f xs ys->Paired f (xs.map g) (ys.map k)
 | _,_,.nil=>.nil
 | _,_,.cons h t=>.cons (hg _ _ h) (pE hg t)
theorem pF{α β:Type}{f:α->β->Prop}{a:α}{b:β}(h:f a b):∀ {xs:List α} {ys:List β},Paired f xs ys->Paired f (xs++[a]) (ys++[b])
 | _,_,.nil=>.cons h .nil
 | _,_,.cons q t=>.cons q (pF h t)
theorem aLT{k:Dz}{b:Az}{v:V}{u:V9}{es:List Ent}{xs:List (Dz×Az×V9)}(r:bE v u)(h:Paired xH es xs):Paired xH (nX es k (.ref b) v) (storedH xs k b u):=by
 have q:=kA (qS (k:=k) h)
 rw[E8] at q
 unfold nX storedH
 rw[q]
 cases (atKey xs k).isSome with
 | true=>
  rw[AD rfl,AD rfl]
  refine pE (fun e x a=>?_) h
  unfold putAt
  rw[a.1]
  by_cases z:x.1=k
  · rw [AD z, AD z]; exact ⟨rfl, a.2.1, r⟩
  · rw [AC z, AC z]; exact a
 | false=>rw[AC (by decide),AC (by decide)];exact pF ⟨rfl,rfl,r⟩ h
theorem aLU{k:Key}:∀ {xs:List (Key×V9)},xs.any (fun kv=>decide (kv.1=k))=(valueAt xs k).isSome
 | []=>rfl
 | x::xs=>by
  have ih:=aLU (k:=k) (xs:=xs)
  unfold valueAt at ih ⊢
  rw[List.any_cons,DB]
  by_cases q:x.1=k
  · rw [AZ q]; rfl
  · rw [A1 q, Bool.false_or]; exact ih
theorem aLV{k:Key}{v:V}{u:V9}{es:List Ent}{xs:List (Key×V9)}(r:bE v u)(h:Paired xI es xs):Paired xI (nX es (kH k) (kV k) v) (stored xs k u):=by
 have q:=kA (qT (k:=k) h)
 unfold nX stored
 rw[q,aLU]
 cases (valueAt xs k).isSome with
 | true=>
  rw[AD rfl,AD rfl]
  refine pE (fun e x a=>?_) h
  by_cases z:x.1=k
  · rw [AD z, AD (by rw [a.1, z])]; exact ⟨by rw [a.1], a.2.1, r⟩
  · rw [AC z, AC (fun y => z (zC (a.1.symm.trans y)))]; exact a
 | false=>rw[AC (by decide),AC (by decide)];exact pF ⟨rfl,rfl,r⟩ h
section
variable{X:Cx}{pins:List (Az×Obj)}{σ:L2.St}{H:Hp}{s:S9}{a:Az}{es:List Ent}{k:Dz}{kv v:V}{ku u:V9}{A:U9}{E:V9->S9->Prop}
structure DicAt(X:Cx)(H:Hp)(a:Az)(es:List Ent)(k:Dz)(kv:V):Prop where
 o:∃ ep,H a=some (dU X.w a es ep)
 ks:∀ e∈es,DatV X.K H e.2.1 e.1
 nd:(es.map (·.1)).Nodup
 dk:DatV X.K H kv k
 one:cV k (es.map (·.1))=true
theorem vB{α β:Type}{f:α->β->Prop}{y:β}:∀ {xs:List α} {ys:List β},Paired f xs ys->y∈ys->∃ x,x∈xs/\f x y
 | _,_,.nil,h=>by cases h
 | _,_,.cons q t,h=>by
  rcases A2.mp h with z|z
  .subst z;exact ⟨_,A0,q⟩
  .obtain ⟨x,h1,h2⟩:=vB t z
   exact ⟨x,AN _ h1,h2⟩
theorem pG{α β γ:Type}{f:α->β->Prop}{g:α->γ}{k:β->γ}(h:∀ a b,f a b->g a=k b):∀ {xs:List α} {ys:List β},Paired f xs ys->xs.map g=ys.map k
 | _,_,.nil=>rfl
 | _,_,.cons q t=>by rw[AL,AL,h _ _ q,pG h t]
theorem zD{α β:Type}{f:α->β}:∀ {xs:List α},(xs.map f).Nodup->xs.Nodup
 | [],_=>E5
 | x::t,h=>by
  rw[AL,EH] at h
  exact EH.mpr ⟨fun z=>h.1 (EU z),zD h.2⟩
theorem DicAt.cases (D : DicAt X H a es k kv) (I : Inv X pins σ H s) (M : bE kv ku) : (a == sysModules) = false /\
    ((∃ b xs, kv = .ref b /\ ku = .ref b /\ Paired xH es xs /\ (jW X.prog X.w).is s.heap k b /\ s.heap.DictOfH (jW X.prog X.w) a xs) \/
     (∃ kk xs, k = kH kk /\ kv = kV kk /\ Paired xI es xs /\ (d5 X.prog X.w).is kk ku = true /\ s.heap.DictOf (d5 X.prog X.w) a xs)) := by
  obtain ⟨ep, O⟩ := D.o
  obtain ⟨⟨B, o, ar, h1, h2, L, F⟩, _, _⟩ := (show cF X.prog X.w H s.heap a (dU X.w a es ep) from I.hok a _ O)
  refine ⟨B, ?_⟩
  have f := D.one
  unfold cV at f
  rw [DT, AV, AV, CS, CS] at f
  rcases f with ⟨C, y⟩ | ⟨C, y⟩
  · have m : ∀ (d : Dz) (v : V), lU d = true -> DatV X.K H v d -> ∃ j, v = .ref j /\ (jW X.prog X.w).is s.heap d j := fun d v B G => by
      obtain ⟨ws, rfl, J, N⟩ := aM8 B
      obtain ⟨j, vs, rfl, _, _⟩ := G.tup_of
      obtain ⟨T, r⟩ := G.reads I (oG J) (u := .ref j) rfl
      exact ⟨j, rfl, J, N, T, r⟩
    obtain ⟨b, rfl, E⟩ := m _ _ C D.dk
    cases (show ku = Value.ref b from M)
    obtain ⟨xs, l, c⟩ := aHH (P := X.prog) F fun e i => by
      obtain ⟨j, e1, _⟩ := m e.1 e.2.1 (y _ (EU i)) (D.ks e i)
      exact ⟨j, e1⟩
    refine .inl ⟨b, xs, rfl, rfl, c, E, o, ar, ep, h1, h2, L, l, fun x R => ?_, ?_⟩
    · obtain ⟨e, i, p⟩ := vB c R
      obtain ⟨j, e1, q⟩ := m e.1 e.2.1 (y _ (EU i)) (D.ks e i)
      rw [p.2.1] at e1
      cases e1
      rw [<- p.1]; exact q
    · rw [<- pG (g := fun e : Ent => e.1) (fun a b h => h.1) c]; exact D.nd
  · obtain ⟨kk, rfl⟩ := aC6 C
    have n := aC7 D.dk
    obtain ⟨xs, l, c, A⟩ := aHI (P := X.prog) F fun e i => by
      obtain ⟨S, t⟩ := aC6 (y _ (EU i))
      have q := D.ks e i
      rw [t] at q
      exact ⟨S, t, aC7 q⟩
    refine .inr ⟨kk, xs, rfl, n, c, aLQ (by rw [<- n]; exact M), o, ar, ep, h1, h2, L, fun Q z => A Q (by simpa using z), l, ?_⟩
    have : es.map (·.1) = (xs.map (·.1)).map kH := by rw [BX]; exact pG (g := fun e : Ent => e.1) (fun a b h => h.1) c
    have nd := D.nd
    rw [this] at nd
    exact zD nd
theorem nG{A:U9}(a:A.units+64 < cLine):(jW X.prog X.w).room A.in1:=by show A.in1.units+9 < cLine;rw[y9];omega
theorem aQQ{Q:V9->S9->Prop}(i:A.units+64 < cLine)(D:DicAt X H a es k kv)(I:Inv X pins σ H s)(f:bE kv ku)(h:∀ s',Inv X pins σ H s'->Q (.bool (atE es k).isSome) s'):wpAny (model X.prog X.w) A (compareOp .In ku (.ref a)) Q E s:=by
 obtain ⟨e,⟨b,xs,rfl,rfl,c,d,dd⟩|⟨g,xs,rfl,rfl,c,d,dd⟩⟩:=D.cases I f
 .refine wpAny_in_heap (nG i) d e dd ?_
  have q:=kA (qS (k:=k) c)
  rw[E8] at q
  rw[<-q];exact h _ (I.tok _)
 .refine wpAny_in_of d e dd.mapOf ?_
  rw[<-kA (qT (k:=g) c)];exact h _ (I.tok _)
theorem aNA{Q:V9->S9->Prop}(i:A.units+64 < cLine)(D:DicAt X H a es k kv)(I:Inv X pins σ H s)(f:bE kv ku)(h:∀ s',Inv X pins σ H s'->Q (.bool (!(atE es k).isSome)) s'):wpAny (model X.prog X.w) A (compareOp .NotIn ku (.ref a)) Q E s:=by
 obtain ⟨e,⟨b,xs,rfl,rfl,c,d,dd⟩|⟨g,xs,rfl,rfl,c,d,dd⟩⟩:=D.cases I f
 .refine wpAny_notIn_heap (nG i) d e dd ?_
  have q:=kA (qS (k:=k) c)
  rw[E8] at q
  rw[<-q];exact h _ (I.tok _)
 .refine wpAny_notIn_of d e dd.mapOf ?_
  rw[<-kA (qT (k:=g) c)];exact h _ (I.tok _)
theorem aNB{Q:V9->S9->Prop}(m:A.units+64 < cLine)(D:DicAt X H a es k kv)(I:Inv X pins σ H s)(j:bE kv ku)(i:atE es k=some v)(h:∀ w' s',Inv X pins σ H s'->bE v w'->Q w' s'):wpAny (model X.prog X.w) A (getItem (.ref a) ku) Q E s:=by
 obtain ⟨o,⟨b,xs,rfl,rfl,d,g,dd⟩|⟨l,xs,rfl,rfl,d,g,dd⟩⟩:=D.cases I j
 .have q:=qS (k:=k) d
  rw[i] at q
  obtain ⟨w',e,c⟩:=hU.some_of q
  obtain ⟨p,n,f⟩:=Option.map_eq_some_iff.mp e
  refine wpAny_getItem_heap (nG m) g dd n ?_
  rw[f];exact h w' _ (I.tok _) c
 .have q:=qT (k:=l) d
  rw[i] at q
  obtain ⟨w',e,c⟩:=hU.some_of q
  exact wpAny_getItem_of g dd.mapOf e (h w' _ (I.tok _) c)
theorem aNC{Q:Unit->S9->Prop}(C:A.units+64 < cLine)(D:DicAt X H a es k kv)(I:Inv X pins σ H s)(B:bE kv ku)(x:bE v u)(t:es.length<=sizeLine)(h:∀ ep s',Inv X pins σ (upd H a (dU X.w a (nX es k kv v) ep)) s'->Q () s') :
  wpAny (model X.prog X.w) A (setItem (.ref a) ku u) Q E s:=by
 obtain ⟨y,⟨b,xs,rfl,rfl,f,m,dd⟩|⟨F,xs,rfl,rfl,f,m,dd⟩⟩:=D.cases I B
 .have g:xs.length<=sizeLine:=by rw[<-Paired.length f];exact t
  refine wpAny_setItem_heap (hsz:=g) (nG C) m dd fun h' c q=>?_
  obtain ⟨e,ar,ep,d,h2,n,j,_,r⟩:=c
  obtain ⟨p,i⟩:=D.o
  refine h ep _ (sB I (by rw[i];exact True.intro) q ⟨e,d⟩ (mK y ⟨e,ar,d,h2,n,?_⟩))
  rw[j]
  exact tU (aLT x f)
 .have g:xs.length<=sizeLine:=by rw[<-Paired.length f];exact t
  refine wpAny_setItem_pairs (hsz:=g) m dd fun h' c q=>?_
  obtain ⟨e,ar,ep,d,h2,n,j,r,_⟩:=c
  obtain ⟨p,i⟩:=D.o
  refine h ep _ (sB I (by rw[i];exact True.intro) q ⟨e,d⟩ (mK y ⟨e,ar,d,h2,n,?_⟩))
  exact tW (aLV x f) r fun z l=>j z (by simpa using l)
end
structure Er where
 c:Str
 fs:List (Str×Dz)
inductive R(α:Type) where
 | bad|ok (a:α)|ex (e:Er)
noncomputable def R.bind{α β:Type}:R α->(α->R β)->R β
 | .bad,_=>.bad
 | .ok a,f=>f a
 | .ex e,_=>.ex e
@[simp] theorem R.bind_ok{α β:Type}(a:α)(f:α->R β):(R.ok a).bind f=f a:=id rfl
@[simp] theorem R.bind_bad{α β:Type}(f:α->R β):(R.bad:R α).bind f=.bad:=id rfl
@[simp] theorem R.bind_ex{α β:Type}(e:Er)(f:α->R β):(R.ex e:R α).bind f=.ex e:=id rfl
inductive A where
 | d (x:Dz)|l (xs:List Dz)|m (kvs:List (Dz×Dz))|x (e:Er)|g (k n:Nat) (f:List Dz->R Dz)|k (q:Str)|f (kvs:List (Dz×Dz))|o (e:Er)
abbrev Sg:=List (O9 A)
structure Gb where
 B:Az->Hp->Nat->Nat->(List Dz->R Dz)->Prop
 T:Hp
 w:World
structure Ct where
 K:Frag
 mg:Str->Option V9
 w:World
 F0:Hp
 H0:Hp
 g:Gb
 cells:List (Str×Az)
 cls:Str->Option ClSt
theorem aA9{w:W9}{p:Az}{es:List Ent}{ep:Nat}{q:Str}(h:dU w p es ep=.cod q):False:=by unfold dU at h;cases h
theorem cM(H:Hp):aN H H:=fun _ _ h=>h
theorem bZ{H H':Hp}(s:aN H H'){a:Az}(h:H' a=none):H a=none:=by
 cases e:H a with
 | none=>rfl
 | some o=>rw[s a o e] at h;cases h
def mD(H:Hp)(a:Az):Prop:=H a=none\/∃ q,H a=some (.cod q)
theorem mD.back{H H1:Hp}{a:Az}(s:aN H H1)(h:mD H1 a):mD H a:=by
 cases e:H a with
 | none=>exact .inl e
 | some o=>
  have e1:=s a o e
  rcases h with z|⟨q,z⟩
  · rw [e1] at z; cases z
  · rw [e1] at z; cases z; exact .inr ⟨q, e⟩
structure Ext(F H F' H':Hp):Prop where
 hh:aN H H'
 ff:aN F F'
 fh:aN F' H'
 nw:∀ a,F a=none->F' a≠none->mD H a
theorem Ext.refl{F H:Hp}(h:aN F H):Ext F H F H:=⟨cM H,cM F,h,fun a e n=>absurd e n⟩
theorem Ext.trans{F H c H1 d H2:Hp}(a:Ext F H c H1)(b:Ext c H1 d H2):Ext F H d H2:=
 ⟨fun x o e=>b.hh x o (a.hh x o e),fun x o e=>b.ff x o (a.ff x o e),b.fh,fun x e n=>by
  cases q:c x with
  | none=>exact (b.nw x q n).back a.hh
  | some o=>exact a.nw x e (by rw[q];exact fun z=>nomatch z)⟩
theorem Ext.stay{F H b H':Hp}(s:Ext F H b H'){p:Az}{o:HO}(c:F p=none)(h2:H p=some o)(a:∀ q,o≠.cod q):b p=none:=by
 cases q:b p with
 | none=>rfl
 | some o=>
  rcases s.nw p c (by rw[q];exact fun z=>nomatch z) with z|⟨d,z⟩
  · rw [z] at h2; cases h2
  · rw [z] at h2; cases h2; exact absurd rfl (a _)
theorem aJX{F H:Hp}{p:Az}{o:HO}(s:aN F H):aN (upd F p o) (upd H p o):=fun a u e=>by
 by_cases q:a=p
 · subst q; rw [aX] at e ⊢; exact e
 · rw [aJ q] at e ⊢; exact s a u e
theorem Ext.new{F H:Hp}{p:Az}{o:HO}(s:aN F H)(b:H p=none):Ext F H (upd F p o) (upd H p o):=
 ⟨aN.upd b,aN.upd (bZ s b),aJX s,fun a e n=>by
  by_cases q:a=p
  · subst q; exact .inl b
  · rw [aJ q] at n; exact absurd e n⟩
theorem Ext.own{F H:Hp}{p:Az}{o:HO}(s:aN F H)(b:H p=none):Ext F H F (upd H p o):=
 ⟨aN.upd b,cM F,fun a u e=>by
  rw[aJ (bL (s a u e) b)];exact s a u e,fun a e n=>absurd e n⟩
def k6(K:Frag)(mg:Str->O9 V9)(F:Hp)(e:Er)(a C:Az):Prop:=mg e.c=some (.ref C)/\∃ od,F a=some (ExO a C od)/\((e.fs=[]/\od=none)\/∃ d fvs,od=some d/\F d=some (.xd fvs)/\fvs.map (·.1)=e.fs.map (·.1)/\DatVs K F (fvs.map (·.2)) (e.fs.map (·.2)))
theorem k6.same{K:Frag}{mg:Str->O9 V9}{F b:Hp}{e:Er}{a C:Az}(s:aN F b)(h:k6 K mg F e a C):k6 K mg b e a C:=by
 obtain ⟨m,od,h1,h2⟩:=h
 refine ⟨m,od,s _ _ h1,h2.imp id ?_⟩
 rintro ⟨d,fvs,e1,e2,e3,e4⟩
 exact ⟨d,fvs,e1,s _ _ e2,e3,e4.same s⟩
def aE5(K:Frag)(mg:Str->O9 V9)(F:Hp)(e:Er)(a:Az):Prop:=∃ C dx fvs,mg e.c=some (.ref C)/\F a=some (.ins C dx fvs)/\fvs.map (·.1)=e.fs.map (·.1)/\DatVs K F (fvs.map (·.2)) (e.fs.map (·.2))
theorem aE5.same{K:Frag}{mg:Str->O9 V9}{F c:Hp}{e:Er}{a:Az}(s:aN F c)(h:aE5 K mg F e a):aE5 K mg c e a:=by
 obtain ⟨C,dx,b,h1,h2,f,d⟩:=h
 exact ⟨C,dx,b,h1,s _ _ h2,f,d.same s⟩
structure MapRel(K:Frag)(F:Hp)(es:List Ent)(kvs:List (Dz×Dz)):Prop where
 k1:es.map (·.1)=kvs.map (·.1)
 k2:DatVs K F (es.map (·.2.1)) (kvs.map (·.1))
 vs:DatVs K F (es.map (·.2.2)) (kvs.map (·.2))
 nd:(kvs.map (·.1)).Nodup
theorem MapRel.same{K:Frag}{F b:Hp}{es:List Ent}{a:List (Dz×Dz)}(s:aN F b)(h:MapRel K F es a):MapRel K b es a:=⟨h.k1,h.k2.same s,h.vs.same s,h.nd⟩
def AF(g:Gb)(K:Frag)(mg:Str->O9 V9)(F:Hp):A->V->Prop
 | .d x,v=>DatV K F v x
 | .x e,v=>∃ a C,v=.ref a/\k6 K mg F e a C
 | .g k n G,v=>∃ f F1,v=.ref f/\aN F1 F/\g.B f F1 k n G
 | .f kvs,v=>∃ p es,v=.ref p/\(∃ ep,F p=some (dU g.w p es ep))/\MapRel K F es kvs
 | .o e,v=>∃ a,v=.ref a/\aE5 K mg F e a
 | _,_=>False
theorem AF.same{g:Gb}{K:Frag}{mg:Str->O9 V9}{F F':Hp}(s:aN F F'):∀ {a:A} {v:V},AF g K mg F a v->AF g K mg F' a v
 | .d x,v,h=>DatV.same s h
 | .x e,v,⟨a,C,h1,h2⟩=>⟨a,C,h1,h2.same s⟩
 | .g k n G,v,⟨f,F1,h1,h2,h3⟩=>⟨f,F1,h1,fun a o z=>s a o (h2 a o z),h3⟩
 | .f kvs,v,⟨p,es,h1,⟨ep,h2⟩,h3⟩=>⟨p,es,h1,⟨ep,s _ _ h2⟩,h3.same s⟩
 | .o e,v,⟨a,h1,h2⟩=>⟨a,h1,h2.same s⟩
noncomputable def A.own:A->Bool
 | .l _=>true
 | .m _=>true
 | _=>false
def AO(c:Ct)(F H:Hp):A->V->Prop
 | .l xs,v=>∃ p vs,v=.ref p/\H p=some (.lst vs)/\F p=none/\c.H0 p=none/\DatVs c.K F vs xs
 | .m kvs,v=>∃ p es,v=.ref p/\(∃ ep,H p=some (dU c.w p es ep))/\F p=none/\c.H0 p=none/\MapRel c.K F es kvs
 | .k q,v=>∃ S f cl doc pm cc ct,c.cls q=some S/\v=.ref f/\F f=some (FnO f (S.obj cl doc pm cc ct))/\F cc=some (.cod S.qual)/\ClOf c.cells S.scope cl
 | a,v=>AF c.g c.K c.mg F a v
theorem AO.ext{c:Ct}{F H b H':Hp}(s:Ext F H b H'):∀ {a:A} {v:V},AO c F H a v->AO c b H' a v
 | .d x,v,h=>DatV.same s.ff h
 | .x e,v,h=>AF.same (g:=c.g) (K:=c.K) (mg:=c.mg) (a:=.x e) s.ff h
 | .g k n G,v,h=>AF.same (g:=c.g) (K:=c.K) (mg:=c.mg) (a:=.g k n G) s.ff h
 | .f kvs,v,h=>AF.same (g:=c.g) (K:=c.K) (mg:=c.mg) (a:=.f kvs) s.ff h
 | .o e,v,h=>AF.same (g:=c.g) (K:=c.K) (mg:=c.mg) (a:=.o e) s.ff h
 | .k q,v,⟨S,f,cl,doc,pm,cc,ct,h0,h1,h2,h3,h4⟩=>⟨S,f,cl,doc,pm,cc,ct,h0,h1,s.ff _ _ h2,s.ff _ _ h3,h4⟩
 | .l xs,v,⟨p,vs,h1,h2,h3,h4,h5⟩=>⟨p,vs,h1,s.hh _ _ h2,s.stay h3 h2 (fun _ z=>nomatch z),h4,h5.same s.ff⟩
 | .m kvs,v,⟨p,vs,h1,⟨ep,h2⟩,h3,h4,h5⟩=>⟨p,vs,h1,⟨ep,s.hh _ _ h2⟩,s.stay h3 h2 (fun _ z=>aA9 z),h4,h5.same s.ff⟩
theorem AO.at{c:Ct}{F H:Hp}{a:A}{v:V}(h:AO c F H a v)(o:a.own=true):∃ p o,v=.ref p/\H p=some o/\F p=none/\c.H0 p=none:=by
 cases a with
 | l xs=>obtain ⟨p,vs,h1,h2,i,b,j⟩:=h;exact ⟨p,_,h1,h2,i,b⟩
 | m xs=>obtain ⟨p,vs,h1,⟨ep,h2⟩,i,b,j⟩:=h;exact ⟨p,_,h1,h2,i,b⟩
 | d x=>cases o
 | x e=>cases o
 | g k n f=>cases o
 | k S=>cases o
 | f S=>cases o
 | o S=>cases o
theorem AO.off{c:Ct}{F H:Hp}{p:Az}{o:HO}:∀ {a:A} {v:V},AO c F H a v->v≠.ref p->AO c F (upd H p o) a v
 | .l xs,v,⟨q,vs,h1,h2,h3,h4,h5⟩,n=>⟨q,vs,h1,by rw[aJ (fun z=>n (by rw[h1,z]))];exact h2,h3,h4,h5⟩
 | .m xs,v,⟨q,vs,h1,⟨ep,h2⟩,h3,h4,h5⟩,n=>⟨q,vs,h1,⟨ep,by rw[aJ (fun z=>n (by rw[h1,z]))];exact h2⟩,h3,h4,h5⟩
 | .d x,v,h,_=>h
 | .x e,v,h,_=>h
 | .g k n G,v,h,_=>h
 | .k S,v,h,_=>h
 | .f S,v,h,_=>h
 | .o S,v,h,_=>h
structure Ab(c:Ct)(ρ:Sg)(σ:L2.St)(F H:Hp):Prop where
 len:ρ.length=σ.length
 fh:aN F H
 slot:∀ (i:Nat) (a:A),ρ[i]? = some (some a)->∃ v,σ[i]? = some (some v)/\AO c F H a v
 apart:∀ (i j:Nat) (a b:A),i≠j->ρ[i]? = some (some a)->ρ[j]? = some (some b)->a.own=true->b.own=true->σ[i]? ≠ σ[j]?
 f0:aN c.F0 F
 h0:aN c.H0 H
 n0:∀ a,c.F0 a=none->F a≠none->mD c.H0 a
 t0:aN c.g.T c.F0
theorem Ab.all{c:Ct}{ρ:Sg}{σ:L2.St}{F H:Hp}(b:Ab c ρ σ F H):Ext c.F0 c.H0 F H:=⟨b.h0,b.f0,b.fh,b.n0⟩
theorem Ab.ext{c:Ct}{ρ:Sg}{σ:L2.St}{F H d H':Hp}(b:Ab c ρ σ F H)(e:Ext F H d H'):Ab c ρ σ d H' where
 len:=b.len
 fh:=e.fh
 slot:=fun i a h=>let ⟨v,h1,h2⟩:=b.slot i a h;⟨v,h1,h2.ext e⟩
 apart:=b.apart
 f0:=fun x o h=>e.ff x o (b.f0 x o h)
 h0:=fun x o h=>e.hh x o (b.h0 x o h)
 n0:=fun a h n=>by
  cases q:F a with
  | none=>exact (e.nw a q n).back b.h0
  | some o=>exact b.n0 a h (by rw[q];exact fun z=>nomatch z)
 t0:=b.t0
def XW(c:Ct)(E:XK)(e:Er):Prop:=∀ a C F' H',Ext c.F0 c.H0 F' H'->k6 c.K c.mg F' e a C->E (.ref C) (some a) H'
def Rk{α:Type}(c:Ct)(E:XK)(F H:Hp)(r:R α)(k:α->Prop):Prop:=match r with
 | .bad=>False
 | .ok a=>k a
 | .ex e=>XW c E e
abbrev VR(α:Type):=α->V->Hp->Hp->Hp->Prop
def tV{α:Type}(Rel:VR α)(c:Ct)(E:XK)(f:Sg->R α):TE:=fun σ H Q=>∃ ρ F,Ab c ρ σ F H/\Rk c E F H (f ρ) fun d=>∀ v F' H',Ext F H F' H'->Rel d v H F' H'->Q v H'
def dN(c:Ct):VR Dz:=fun d v _ F _=>DatV c.K F v d
def bF(K:Frag)(F H:Hp)(v:V)(d:Dz):Prop:=DatV K F v d\/∃ p vs xs,v=.ref p/\d=.list xs/\H p=some (.lst vs)/\DatVs K F vs xs
def b9(c:Ct):VR Dz:=fun d v _ F H=>bF c.K F H v d
def aJY(c:Ct):VR A:=fun a v _ F _=>AF c.g c.K c.mg F a v
def xJ(c:Ct):VR (List Dz):=fun xs v H F H'=>∃ p vs,v=.ref p/\H p=none/\H' p=some (.lst vs)/\F p=none/\DatVs c.K F vs xs
abbrev PD(X:Cx)(c:Ct)(E:XK)(e:E1)(f:Sg->R Dz):Prop:=PE X e (tV (dN c) c E f)
abbrev PR(X:Cx)(c:Ct)(E:XK)(e:E1)(f:Sg->R Dz):Prop:=PE X e (tV (b9 c) c E f)
abbrev PV(X:Cx)(c:Ct)(E:XK)(e:E1)(f:Sg->R A):Prop:=PE X e (tV (aJY c) c E f)
abbrev PN(X:Cx)(c:Ct)(E:XK)(e:E1)(f:Sg->R (List Dz)):Prop:=PE X e (tV (xJ c) c E f)
theorem PE.imp{X:Cx}{e:E1}{t t':TE}(h:PE X e t)(i:∀ σ H Q,t' σ H Q->t σ H Q):PE X e t':=fun pins s σ H Q I q=>h pins s σ H Q I (i σ H Q q)
theorem PT.imp{X:Cx}{e:E1}{t t':TT}(h:PT X e t)(i:∀ σ H Q,t' σ H Q->t σ H Q):PT X e t':=fun pins s σ H Q I q=>h pins s σ H Q I (i σ H Q q)
theorem PS.imp{X:Cx}{e:Stmt}{t t':TS}(h:PS X e t)(i:∀ D σ H,t' D σ H->t D σ H):PS X e t':=fun pins s σ H D I q=>h pins s σ H D I (i D σ H q)
theorem PSs.imp{X:Cx}{e:List Stmt}{t t':TS}(h:PSs X e t)(i:∀ D σ H,t' D σ H->t D σ H):PSs X e t':=fun pins s σ H D I q=>h pins s σ H D I (i D σ H q)
def aLW{α:Type}(Rel:VR α):Prop:=∀ d v H F H1 F2 H2,Ext F H1 F2 H2->Rel d v H F H1->Rel d v H F2 H2
theorem bF.ext{K:Frag}{F H a H':Hp}{v:V}{d:Dz}(e:Ext F H a H')(h:bF K F H v d):bF K a H' v d:=by
 rcases h with h|⟨p,vs,xs,h1,h2,c,b⟩
 · exact .inl (h.same e.ff)
 · exact .inr ⟨p, vs, xs, h1, h2, e.hh _ _ c, b.same e.ff⟩
theorem qU(c:Ct):aLW (b9 c):=fun d v H F H1 a H2 e h=>bF.ext e h
theorem bF.heap{K:Frag}{F H:Hp}{v:V}{d:Dz}(s:aN F H)(h:bF K F H v d):DatV K H v d:=by
 rcases h with h|⟨p,vs,xs,h1,h2,a,b⟩
 · exact h.same s
 · subst h1 h2; exact .lst (SqL.of a) (b.same s)
section
variable{X:Cx}{c:Ct}{E:XK}{α β γ:Type}{Ra:VR α}{Rb:VR β}{Rc:VR γ}{σ:L2.St}{H:Hp}{Q:VK}
theorem Rk.ok{F:Hp}{a:α}{k:α->Prop}(h:Rk c E F H (.ok a) k):k a:=h
theorem Rk.imp{F:Hp}{r:R α}{k b:α->Prop}(h:Rk c E F H r k)(i:∀ a,r=.ok a->k a->b a):Rk c E F H r b:=by
 cases r with
 | bad=>exact h
 | ok a=>exact i a rfl h
 | ex e=>exact h
theorem Rk.bind{F:Hp}{r:R α}{f:α->R β}{k:β->Prop}(h:Rk c E F H (r.bind f) k):Rk c E F H r fun a=>Rk c E F H (f a) k:=by
 cases r with
 | bad=>exact h
 | ok a=>exact h
 | ex e=>exact h
theorem Rk.ext{F b H':Hp}{r:R α}{k:α->Prop}(e:Ext F H b H')(h:Rk c E F H r k):Rk c E b H' r k:=by
 cases r with
 | bad=>exact h
 | ok a=>exact h
 | ex x=>exact h
end
def aBA{α:Type}(Rel:VR α):Prop:=∀ d v H H1 F' H',aN H H1->Rel d v H1 F' H'->Rel d v H F' H'
theorem mE(c:Ct):aBA (dN c):=fun _ _ _ _ _ _ _ h=>h
theorem aS7(c:Ct):aBA (xJ c):=fun _ _ _ _ _ _ s h=>by
 obtain ⟨p,vs,h1,h2,a⟩:=h
 exact ⟨p,vs,h1,bZ s h2,a⟩
section
variable{X:Cx}{c:Ct}{E:XK}{α β γ:Type}{Ra:VR α}{Rb:VR β}{Rc:VR γ}
def Op1(c:Ct)(Ra:VR α)(Rb:VR β)(g:α->R β)(r:V->Hp->VK->Prop):Prop:=
 ∀ (H0 F H:Hp) (a:α) (b:β) (v:V) (Q:VK),aN F H->Ra a v H0 F H->g a=.ok b->(∀ w F' H',Ext F H F' H'->Rb b w H F' H'->Q w H')->r v H Q
def Op2(c:Ct)(Ra:VR α)(Rb:VR β)(Rc:VR γ)(g:α->β->R γ)(r:R2):Prop:=
 ∀ (H0 H1 F H:Hp) (a:α) (b:β) (d:γ) (v u:V) (Q:VK),aN F H->Ra a v H0 F H->Rb b u H1 F H->g a b=.ok d->(∀ w F' H',Ext F H F' H'->Rc d w H F' H'->Q w H')->r v u H Q
def oH(g:α->R β):Prop:=∀ a e,g a≠.ex e
def eX(g:α->β->R γ):Prop:=∀ a b e,g a b≠.ex e
theorem tV1{f:Sg->R α}{g:α->R β}{r:V->Hp->VK->Prop}(l:Op1 c Ra Rb g r)(n:oH g)(k:aBA Rb){σ:L2.St}{H:Hp}{Q:VK}(h:tV Rb c E (fun ρ=>(f ρ).bind g) σ H Q) :
  tV Ra c E f σ H fun v H1=>r v H1 Q:=by
 obtain ⟨ρ,F,ab,h⟩:=h
 refine ⟨ρ,F,ab,(Rk.bind h).imp fun a p q v j H1 e1 m=>?_⟩
 cases d:g a with
 | bad=>rw[d] at q;exact q.elim
 | ex e=>exact absurd d (n a e)
 | ok b=>
  rw[d] at q
  exact l H j H1 a b v Q e1.fh m d fun w o H' e2 i=>q w o H' (e1.trans e2) (k _ _ _ _ _ _ e1.hh i)
theorem tV2{f:Sg->R α}{k:Sg->R β}{g:α->β->R γ}{r:R2}(l:Op2 c Ra Rb Rc g r)(C:eX g)(n:aLW Ra)(t:aBA Rc){σ:L2.St}{H:Hp}{Q:VK}(h:tV Rc c E (fun ρ=>(f ρ).bind fun a=>(k ρ).bind fun b=>g a b) σ H Q) :
  tOp r (tV Ra c E f) (tV Rb c E k) σ H Q:=by
 obtain ⟨ρ,F,ab,h⟩:=h
 refine ⟨ρ,F,ab,(Rk.bind h).imp fun a D q v s H1 e1 B=>?_⟩
 refine ⟨ρ,s,ab.ext e1,((Rk.bind q).ext e1).imp fun b G q u y H2 e2 m=>?_⟩
 cases i:g a b with
 | bad=>rw[i] at q;exact q.elim
 | ex e=>exact absurd i (C a b e)
 | ok d=>
  rw[i] at q
  exact l H H1 y H2 a b d v u Q e2.fh (n _ _ _ _ _ _ _ e2 B) m i fun w p H' A j=>q w p H' ((e1.trans e2).trans A) (t _ _ _ _ _ _ (fun x o z=>e2.hh x o (e1.hh x o z)) j)
end
section
variable{K:Frag}{F H:Hp}{v:V}
theorem DatV.bl_of{b:Bool}(h:DatV K H v (.bool b)):v=.bl b:=by cases h;rfl
theorem DatV.non_of(h:DatV K H v .none):v=.non:=by cases h;rfl
theorem bF.int_of{i:Int}(h:bF K F H v (.int i)):v=.int i:=by
 rcases h with h|⟨_,_,_,_,h,_⟩
 · exact h.int_of
 · cases h
theorem bF.str_of{i:Str}(h:bF K F H v (.str i)):v=.str i:=by
 rcases h with h|⟨_,_,_,_,h,_⟩
 · exact h.str_of
 · cases h
theorem bF.bl_of{i:Bool}(h:bF K F H v (.bool i)):v=.bl i:=by
 rcases h with h|⟨_,_,_,_,h,_⟩
 · exact DatV.bl_of h
 · cases h
theorem bF.non_of(h:bF K F H v .none):v=.non:=by
 rcases h with h|⟨_,_,_,_,h,_⟩
 · exact DatV.non_of h
 · cases h
theorem bF.tup_of{xs:List Dz}(s:aN F H)(h:bF K F H v (.tuple xs)):∃ a vs,v=.ref a/\SqT K F a vs/\SqT K H a vs/\DatVs K F vs xs:=by
 rcases h with h|⟨_,_,_,_,h,_⟩
 .obtain ⟨a,vs,h1,h2,b⟩:=h.tup_of
  exact ⟨a,vs,h1,h2,h2.same s,b⟩
 .cases h
theorem bF.lst_of{xs:List Dz}(s:aN F H)(h:bF K F H v (.list xs)):∃ a vs,v=.ref a/\SqL K H a vs/\DatVs K F vs xs:=by
 rcases h with h|⟨p,vs,ys,h1,h2,b,c⟩
 .obtain ⟨a,vs,h1,h2,b⟩:=h.lst_of
  exact ⟨a,vs,h1,h2.same s,b⟩
 .cases h2
  exact ⟨p,vs,h1,SqL.of b,c⟩
theorem aBB{vs:List V}{xs:List Dz}{i:Int}{d:Dz}(h:DatVs K F vs xs)(e:atI xs i=some d):∃ x,atI vs i=some x/\DatV K F x d:=by
 unfold atI at e ⊢
 rw[h.length]
 cases q:ixN xs.length i with
 | none=>rw[q] at e;cases e
 | some j=>
  rw[q] at e
  exact h.get' (i:=j) e
end
noncomputable def eV(i:Nat):Sg->R Dz:=fun ρ=>match ρ[i]? with
 | some (some (.d x))=>.ok x
 | _=>.bad
noncomputable def rV(i:Nat):Sg->R Dz:=fun ρ=>match ρ[i]? with
 | some (some (.d x))=>.ok x
 | some (some (.l xs))=>.ok (.list xs)
 | _=>.bad
noncomputable def vV(i:Nat):Sg->R A:=fun ρ=>match ρ[i]? with
 | some (some (.d x))=>.ok (.d x)
 | some (some (.x e))=>.ok (.x e)
 | some (some (.g k n f))=>.ok (.g k n f)
 | some (some (.f kvs))=>.ok (.f kvs)
 | _=>.bad
def eC(d:Dz):Sg->R Dz:=fun _=>.ok d
section
variable{X:Cx}{c:Ct}{E:XK}{e a b:E1}
theorem bG{i:Nat}(h:PE X e (jK i)):PD X c E e (eV i):=PE.imp h fun σ H Q ⟨ρ,F,ab,k⟩=>by
 unfold eV at k
 split at k
 .rename_i x a
  obtain ⟨v,h1,h2⟩:=ab.slot i _ a
  exact ⟨v,h1,k v F H (Ext.refl ab.fh) h2⟩
 .exact k.elim
theorem aC{i:Nat}(h:PE X e (jK i)):PR X c E e (rV i):=PE.imp h fun σ H Q ⟨ρ,F,ab,k⟩=>by
 unfold rV at k
 split at k
 .rename_i x a
  obtain ⟨v,h1,h2⟩:=ab.slot i _ a
  exact ⟨v,h1,k v F H (Ext.refl ab.fh) (.inl h2)⟩
 .rename_i x a
  obtain ⟨v,h1,p,vs,h2,d,f,g,b⟩:=ab.slot i _ a
  exact ⟨v,h1,k v F H (Ext.refl ab.fh) (.inr ⟨p,vs,x,h2,rfl,d,b⟩)⟩
 .exact k.elim
theorem aT{i:Nat}(h:PE X e (jK i)):PV X c E e (vV i):=PE.imp h fun σ H Q ⟨ρ,F,ab,k⟩=>by
 unfold vV at k
 split at k
 .rename_i x a
  obtain ⟨v,h1,h2⟩:=ab.slot i _ a
  exact ⟨v,h1,k v F H (Ext.refl ab.fh) h2⟩
 .rename_i x a
  obtain ⟨v,h1,h2⟩:=ab.slot i _ a
  exact ⟨v,h1,k v F H (Ext.refl ab.fh) h2⟩
 .rename_i d nn f a
  obtain ⟨v,h1,h2⟩:=ab.slot i _ a
  exact ⟨v,h1,k v F H (Ext.refl ab.fh) h2⟩
 .rename_i b a
  obtain ⟨v,h1,h2⟩:=ab.slot i _ a
  exact ⟨v,h1,k v F H (Ext.refl ab.fh) h2⟩
 .exact k.elim
theorem iU{v:V}{d:Dz}(h:PE X e (tC v))(a:∀ F,DatV c.K F v d):PD X c E e (eC d):=PE.imp h fun σ H Q ⟨ρ,F,ab,k⟩=>k v F H (Ext.refl ab.fh) (a F)
theorem aF{i j pos}:PD X c E (.Constant (.int i) j pos) (eC (.int i)):=iU aPL fun _=>.int i
theorem pH{i j pos}:PD X c E (.Constant (.bool i) j pos) (eC (.bool i)):=iU aSS fun _=>.bl i
theorem cO{i j pos}:PD X c E (.Constant (.str i) j pos) (eC (.str i)):=iU aAK fun _=>.str i
theorem aB{f:Sg->R Dz}(h:PD X c E e f):PR X c E e f:=PE.imp h fun σ H Q ⟨ρ,F,ab,k⟩=>⟨ρ,F,ab,k.imp fun d _ q v a H' s r=>q v a H' s (.inl r)⟩
def vD(f:Sg->R Dz):Sg->R A:=fun ρ=>(f ρ).bind fun x=>.ok (.d x)
theorem aQ{f:Sg->R Dz}(h:PD X c E e f):PV X c E e (vD f):=PE.imp h fun σ H Q ⟨ρ,F,ab,k⟩=>⟨ρ,F,ab,(Rk.bind k).imp fun d _ q v a H' s r=>Rk.ok q v a H' s r⟩
def getD:A->R Dz
 | .d x=>.ok x
 | _=>.bad
def eA(f:Sg->R A):Sg->R Dz:=fun ρ=>(f ρ).bind getD
theorem dB{f:Sg->R A}(h:PV X c E e f):PD X c E e (eA f):=PE.imp h fun σ H Q ⟨ρ,F,ab,k⟩=>⟨ρ,F,ab,(Rk.bind k).imp fun d _ q v a H' s r=>by
 cases d with
 | d x=>exact Rk.ok q v a H' s r
 | _=>exact False.elim q⟩
def eL(f:Sg->R (List Dz)):Sg->R Dz:=fun ρ=>(f ρ).bind fun xs=>.ok (.list xs)
theorem cY{f:Sg->R (List Dz)}(h:PN X c E e f):PD X c E e (eL f):=PE.imp h fun σ H Q ⟨ρ,F,ab,k⟩=>⟨ρ,F,ab,(Rk.bind k).imp fun xs _ q v i H' s r=>by
 obtain ⟨p,vs,h1,h2,g,b,d⟩:=r
 subst h1
 refine Rk.ok q (.ref p) (upd i p (.lst vs)) H' ⟨s.hh,fun a o z=>?_,fun a o z=>?_,fun a z n=>?_⟩ (.lst (SqL.of aX) (d.same (aN.upd b)))
 .rw[aJ (bL (s.ff a o z) b)];exact s.ff a o z
 .by_cases w:a=p
  · subst w; rw [aX] at z; rw [g]; exact z
  · rw [aJ w] at z; exact s.fh a o z
 .by_cases w:a=p
  · subst w; exact .inl h2
  · rw [aJ w] at n; exact s.nw a z n⟩
def e1{α β:Type}(g:α->R β)(f:Sg->R α):Sg->R β:=fun ρ=>(f ρ).bind g
def e2{α β γ:Type}(g:α->β->R γ)(f:Sg->R α)(f':Sg->R β):Sg->R γ:=fun ρ=>(f ρ).bind fun x=>(f' ρ).bind fun y=>g x y
noncomputable def cQ:Dz->Dz->R Dz
 | .int i,.int j=>.ok (.int (i+j))
 | .str x,.str y=>if x.length+y.length<=sizeLine then .ok (.str (x++y)) else .bad
 | .tuple xs,.tuple ys=>if xs.isEmpty=false/\xs.length+ys.length<=sizeLine then .ok (.tuple (xs++ys)) else .bad
 | _,_=>.bad
def dSub:Dz->Dz->R Dz
 | .int i,.int j=>.ok (.int (i - j))
 | _,_=>.bad
noncomputable def dMul:Dz->Dz->R Dz
 | .int i,.int j=>if (-18446744073709551616 < i/\i < 18446744073709551616)\/(-18446744073709551616 < j/\j < 18446744073709551616) then .ok (.int (i * j)) else .bad
 | _,_=>.bad
def dDiv:Dz->Dz->R Dz
 | .int i,.int j=>if 0 < j/\j < 18446744073709551616 then .ok (.int (i / j)) else .bad
 | _,_=>.bad
def dMod:Dz->Dz->R Dz
 | .int i,.int j=>if 0 < j then .ok (.int (i % j)) else .bad
 | _,_=>.bad
def dNeg:Dz->R Dz
 | .int i=>.ok (.int (-i))
 | _=>.bad
def dLt:Dz->Dz->R Dz
 | .int i,.int j=>.ok (.bool (decide (i < j)))
 | _,_=>.bad
def dLe:Dz->Dz->R Dz
 | .int i,.int j=>.ok (.bool (decide (i<=j)))
 | _,_=>.bad
def dGt:Dz->Dz->R Dz
 | .int i,.int j=>.ok (.bool (decide (j < i)))
 | _,_=>.bad
def dGe:Dz->Dz->R Dz
 | .int i,.int j=>.ok (.bool (decide (j<=i)))
 | _,_=>.bad
def dEq(x y:Dz):R Dz:=if SeqAt.shaped x=true/\SeqAt.shaped y=true then .ok (.bool (PyData.eqv x y)) else .bad
def dNe(x y:Dz):R Dz:=if SeqAt.shaped x=true/\SeqAt.shaped y=true then .ok (.bool (!PyData.eqv x y)) else .bad
def lJ:Dz->Bool
 | .none=>true
 | _=>false
def dIs(x y:Dz):R Dz:=if lJ y=true then .ok (.bool (lJ x)) else .bad
def aS8(x y:Dz):R Dz:=if lJ y=true then .ok (.bool (!lJ x)) else .bad
noncomputable def inD:Dz->Dz->O9 Bool
 | .str i,.str j=>some (!(Builtin.Str.occurrences j i 0 j.length 1).isEmpty)
 | x,.list xs=>if SeqAt.shaped x=true/\SeqAt.shaped (.list xs)=true then some (xs.any fun y=>PyData.eqv y x) else none
 | x,.tuple xs=>if SeqAt.shaped x=true/\SeqAt.shaped (.tuple xs)=true then some (xs.any fun y=>PyData.eqv y x) else none
 | _,_=>none
def dNin(x y:Dz):R Dz:=match inD x y with
 | some b=>.ok (.bool (!b))
 | none=>.bad
noncomputable def dIx:Dz->Dz->R Dz
 | .list xs,.int i=>match atI xs i with
  | some v=>.ok v
  | none=>.bad
 | .tuple xs,.int i=>match atI xs i with
  | some v=>.ok v
  | none=>.bad
 | .str z,.int i=>if z.length<=sizeLine then match atI z.cps.toList i with
  | some u=>.ok (.str ⟨#[u]⟩)
  | none=>.bad else .bad
 | _,_=>.bad
end
section
variable{X:Cx}{c:Ct}{E:XK}{e a b:E1}{α β γ:Type}{Ra:VR α}{Rb:VR β}{Rc:VR γ}{pos:Pos}
def r2D(Ra:VR α)(Rb:VR β)(Rc:VR γ)(g:α->β->R γ):R2:=fun v u H Q=>∃ H0 H1 F a b d,aN F H/\Ra a v H0 F H/\Rb b u H1 F H/\g a b=.ok d/\∀ w F' H',Ext F H F' H'->Rc d w H F' H'->Q w H'
def r1D(Ra:VR α)(Rb:VR β)(g:α->R β):V->Hp->VK->Prop:=fun v H Q=>∃ H0 F a b,aN F H/\Ra a v H0 F H/\g a=.ok b/\∀ w F' H',Ext F H F' H'->Rb b w H F' H'->Q w H'
theorem vC{g:α->β->R γ}:Op2 c Ra Rb Rc g (r2D Ra Rb Rc g):=fun e H1 F H a b d v u Q j f i h q=>⟨e,H1,F,a,b,d,j,f,i,h,q⟩
theorem z8{g:α->R β}:Op1 c Ra Rb g (r1D Ra Rb g):=fun d F H a b v Q h e f q=>⟨d,F,a,b,h,e,f,q⟩
theorem aW{e:Operator}{g:Dz->Dz->R Dz}{d fb:Sg->R Dz}(i:OpR X (binaryOp e) (r2D (b9 c) (b9 c) (dN c) g))(k:eX g)(j:PR X c E a d)(f:PR X c E b fb):PD X c E (.BinOp a e b pos) (e2 g d fb):=
 PE.imp (aEL i j f) fun σ H Q h=>tV2 vC k (qU c) (mE c) h
theorem aLX{d:UnaryOp}{g:Dz->R Dz}{b:Sg->R Dz}(e:UnR X (unaryOp d) (r1D (b9 c) (dN c) g))(i:oH g)(f:PR X c E a b):PD X c E (.UnaryOp d a pos) (e1 g b):=
 PE.imp (aSX e f) fun σ H Q h=>tV1 z8 i (mE c) h
theorem gG{d:CmpOp}{g:Dz->Dz->R Dz}{e fb:Sg->R Dz}(i:OpR X (compareOp d) (r2D (b9 c) (b9 c) (dN c) g))(l:eX g)(j:PR X c E a e)(f:PR X c E b fb)(k:behindInMarks d b=false):PD X c E (.Compare a [d] [b] pos) (e2 g e fb):=
 PE.imp (aME i j f k) fun σ H Q h=>tV2 vC l (qU c) (mE c) h
theorem aZ{g:Dz->Dz->R Dz}{d fb:Sg->R Dz}(f:IxR X (r2D (b9 c) (b9 c) (dN c) g))(j:eX g)(k:PR X c E a d)(e:PR X c E b fb)(i:aCX b:=by exact fun _ _=>rfl):PD X c E (.Subscript a b pos) (e2 g d fb):=
 PE.imp (L2.aS2 f k e i) fun σ H Q h=>tV2 vC j (qU c) (mE c) h
theorem cN(E:X.K=c.K):OpR X (binaryOp .Add) (r2D (b9 c) (b9 c) (dN c) cQ):=by
 intro pins s σ H v u x y Q I n m h
 obtain ⟨J,H1,F,a,b,d,f,l,r,e,q⟩:=h
 unfold cQ at e
 split at e
 .rename_i i j
  cases e
  obtain rfl:=bF.int_of l
  obtain rfl:=bF.int_of r
  exact aP1 pins s σ H _ _ x y Q I n m ⟨i,j,rfl,rfl,q _ F H (Ext.refl f) (.int _)⟩
 .rename_i i j
  split at e
  .rename_i g
   cases e
   obtain rfl:=bF.str_of l
   obtain rfl:=bF.str_of r
   exact aEM pins s σ H _ _ x y Q I n m ⟨i,j,rfl,rfl,g,q _ F H (Ext.refl f) (.str _)⟩
  .cases e
 .rename_i xs ys
  split at e
  .rename_i g
   cases e
   obtain ⟨D,vs,rfl,C,w,k⟩:=bF.tup_of f l
   obtain ⟨B,us,rfl,G,t,o⟩:=bF.tup_of f r
   rw[<-E] at w t
   refine aMM pins s σ H _ _ x y Q I n m ⟨D,B,vs,us,rfl,rfl,w,t,?_,by rw[k.length,o.length];exact g.2,fun z=>?_,fun z p A=>?_⟩
   .intro z;subst z;obtain rfl:xs=[]:=by cases k;rfl
    exact absurd g.1 (by decide)
   .subst z
    obtain rfl:ys=[]:=by cases o;rfl
    exact q _ F H (Ext.refl f) (by rw[CH];exact .tup C k)
   .exact q _ _ _ (Ext.new f A) (.tup (SqT.of aX) ((k.append o).same (aN.upd (bZ f A))))
  .cases e
 .cases e
theorem bT:eX cQ:=by
 intro a b e h
 unfold cQ at h
 split at h<;>(try split at h)<;>cases h
theorem oI{f:V9->V9->Sem V9}{g:Dz->Dz->R Dz}{C:Int->Int->Prop}{k:Int->Int->Dz}{kv:Int->Int->V}(m:OpR X f (rI C kv))(p:∀ i j F,DatV c.K F (kv i j) (k i j))
  (o:∀ a b d,g a b=.ok d->∃ i j,a=.int i/\b=.int j/\C i j/\d=k i j):OpR X f (r2D (b9 c) (b9 c) (dN c) g):=by
 intro pins s σ H v u x y Q I n l h
 obtain ⟨A,H1,F,a,b,d,t,e,z,w,q⟩:=h
 obtain ⟨i,j,rfl,rfl,r,rfl⟩:=o a b d w
 obtain rfl:=bF.int_of e
 obtain rfl:=bF.int_of z
 exact m pins s σ H _ _ x y Q I n l ⟨i,j,rfl,rfl,r,q _ F H (Ext.refl t) (p i j F)⟩
theorem aE6{f:V9->V9->Sem V9}{kv:Int->Int->V}(b:OpR X f (rI0 kv)):OpR X f (rI (fun _ _=>True) kv):=fun pins s σ H x y v u Q I c a ⟨i,j,h1,h2,_,q⟩=>b pins s σ H x y v u Q I c a ⟨i,j,h1,h2,q⟩
theorem aC8:OpR X (binaryOp .Sub) (r2D (b9 c) (b9 c) (dN c) dSub):=oI (aE6 aP2) (fun _ _ _=>.int _) fun a b d h=>by
 unfold dSub at h;split at h
 · cases h; exact ⟨_, _, rfl, rfl, trivial, rfl⟩
 · cases h
theorem gZ:OpR X (binaryOp .Mult) (r2D (b9 c) (b9 c) (dN c) dMul):=oI aP3 (fun _ _ _=>.int _) fun a b d h=>by
 unfold dMul at h;split at h
 .split at h
  · rename_i e; cases h; exact ⟨_, _, rfl, rfl, e, rfl⟩
  · cases h
 .cases h
theorem xK:OpR X (binaryOp .FloorDiv) (r2D (b9 c) (b9 c) (dN c) dDiv):=oI aJM (fun _ _ _=>.int _) fun a b d h=>by
 unfold dDiv at h;split at h
 .split at h
  · rename_i e; cases h; exact ⟨_, _, rfl, rfl, e, rfl⟩
  · cases h
 .cases h
theorem cT:OpR X (binaryOp .Mod) (r2D (b9 c) (b9 c) (dN c) dMod):=oI aP4 (fun _ _ _=>.int _) fun a b d h=>by
 unfold dMod at h;split at h
 .split at h
  · rename_i e; cases h; exact ⟨_, _, rfl, rfl, e, rfl⟩
  · cases h
 .cases h
theorem vE:OpR X (compareOp .Lt) (r2D (b9 c) (b9 c) (dN c) dLt):=oI (aE6 aSY) (fun _ _ _=>.bl _) fun a b d h=>by
 unfold dLt at h;split at h
 · cases h; exact ⟨_, _, rfl, rfl, trivial, rfl⟩
 · cases h
theorem kI:OpR X (compareOp .Gt) (r2D (b9 c) (b9 c) (dN c) dGt):=oI (aE6 aSZ) (fun _ _ _=>.bl _) fun a b d h=>by
 unfold dGt at h;split at h
 · cases h; exact ⟨_, _, rfl, rfl, trivial, rfl⟩
 · cases h
theorem zE:eX dSub:=by intro a b e h;unfold dSub at h;split at h<;>cases h
theorem eY:eX dMul:=by intro a b e h;unfold dMul at h;split at h<;>(try split at h)<;>cases h
theorem qV:eX dDiv:=by intro a b e h;unfold dDiv at h;split at h<;>(try split at h)<;>cases h
theorem b8:eX dMod:=by intro a b e h;unfold dMod at h;split at h<;>(try split at h)<;>cases h
theorem pI:eX dLt:=by intro a b e h;unfold dLt at h;split at h<;>cases h
theorem hV:eX dGt:=by intro a b e h;unfold dGt at h;split at h<;>cases h
theorem d9:eX dEq:=by intro a b e h;unfold dEq at h;split at h<;>cases h
theorem pJ:eX dNe:=by intro a b e h;unfold dNe at h;split at h<;>cases h
theorem qW:eX dNin:=by intro a b e h;unfold dNin at h;split at h<;>cases h
theorem zF:oH dNeg:=by intro a e h;unfold dNeg at h;split at h<;>cases h
theorem aL:eX dIx:=by
 intro a b e h
 unfold dIx at h
 split at h<;>(try split at h)<;>(try split at h)<;>cases h
theorem aC9:UnR X (unaryOp .USub) (r1D (b9 c) (dN c) dNeg):=by
 intro pins s σ H v x Q I f h
 obtain ⟨j,F,a,d,g,e,b,q⟩:=h
 unfold dNeg at b
 split at b
 .rename_i i
  cases b
  obtain rfl:=bF.int_of e
  exact aP5 pins s σ H _ x Q I f ⟨i,rfl,q _ F H (Ext.refl g) (.int _)⟩
 .cases b
theorem gH(i:X.K=c.K)(m:X.A.units+64 < cLine):OpR X (compareOp .Eq) (r2D (b9 c) (b9 c) (dN c) dEq):=by
 intro pins s σ H v u x y Q I l k h
 obtain ⟨o,H1,F,a,b,d,f,j,n,e,q⟩:=h
 unfold dEq at e
 split at e
 .rename_i g
  cases e
  exact aQF m pins s σ H _ _ x y Q I l k ⟨a,b,by rw[i];exact bF.heap f j,by rw[i];exact bF.heap f n,g.1,g.2,q _ F H (Ext.refl f) (.bl _)⟩
 .cases e
theorem vF(i:X.K=c.K)(m:X.A.units+64 < cLine):OpR X (compareOp .NotEq) (r2D (b9 c) (b9 c) (dN c) dNe):=by
 intro pins s σ H v u x y Q I l k h
 obtain ⟨o,H1,F,a,b,d,f,j,n,e,q⟩:=h
 unfold dNe at e
 split at e
 .rename_i g
  cases e
  exact aQG m pins s σ H _ _ x y Q I l k ⟨a,b,by rw[i];exact bF.heap f j,by rw[i];exact bF.heap f n,g.1,g.2,q _ F H (Ext.refl f) (.bl _)⟩
 .cases e
theorem aE7{xs:List Dz}(h:SeqAt.shaped (.list xs)=true):PyData.canLayAll0 xs=true/\PyData.depthAll xs<=63:=by
 have h':(PyData.canLay0 (.list xs) && decide ((PyData.list xs).depth<=64))=true:=h
 rw[AV] at h'
 have a:PyData.depthAll xs+1<=64:=BV h'.2
 exact ⟨h'.1,by omega⟩
theorem aCQ{xs:List Dz}(h:SeqAt.shaped (.tuple xs)=true):PyData.canLayAll0 xs=true/\PyData.depthAll xs<=63:=by
 have h':(PyData.canLay0 (.tuple xs) && decide ((PyData.tuple xs).depth<=64))=true:=h
 rw[AV] at h'
 have a:PyData.depthAll xs+1<=64:=BV h'.2
 exact ⟨h'.1,by omega⟩
theorem jC{d:Dz}(h:SeqAt.shaped d=true):d.canLay0=true:=by
 have h':(PyData.canLay0 d && decide (d.depth<=64))=true:=h
 rw[AV] at h'
 exact h'.1
theorem inD_cases{x y:Dz}{b:Bool}(h:inD x y=some b):(∃ i j,x=.str i/\y=.str j/\b = !(Builtin.Str.occurrences j i 0 j.length 1).isEmpty) \/
  (∃ xs,y=.list xs/\SeqAt.shaped x=true/\SeqAt.shaped (.list xs)=true/\b=xs.any fun z=>PyData.eqv z x)\/(∃ xs,y=.tuple xs/\SeqAt.shaped x=true/\SeqAt.shaped (.tuple xs)=true/\b=xs.any fun z=>PyData.eqv z x):=by
 unfold inD at h
 split at h
 .cases h;exact .inl ⟨_,_,rfl,rfl,rfl⟩
 .split at h
  · rename_i a; cases h; exact .inr (.inl ⟨_, rfl, a.1, a.2, rfl⟩)
  · cases h
 .split at h
  · rename_i a; cases h; exact .inr (.inr ⟨_, rfl, a.1, a.2, rfl⟩)
  · cases h
 .cases h
theorem aBC{a b:Nat}(h:a<=63):min a b<=63:=BI (Nat.min_le_left _ _) h
theorem xL(l:X.K=c.K)(z:X.A.units+64 < cLine):OpR X (compareOp .NotIn) (r2D (b9 c) (b9 c) (dN c) dNin):=by
 intro pins s σ H v u x y Q I o n h
 obtain ⟨B,H1,F,a,b,d,e,m,p,k,q⟩:=h
 unfold dNin at k
 split at k
 .rename_i bb r
  cases k
  have f:EP X pins σ Q (.bool (!bb)) s:=⟨.bl (!bb),H,I,rfl,q _ F H (Ext.refl e) (.bl _)⟩
  rcases inD_cases r with ⟨i,j,rfl,rfl,rfl⟩|⟨xs,rfl,h1,h2,rfl⟩|⟨xs,rfl,h1,h2,rfl⟩
  .obtain rfl:=bF.str_of m
   obtain rfl:=bF.str_of p
   exact aAL pins s σ H _ _ x y Q I o n ⟨i,j,rfl,rfl,q _ F H (Ext.refl e) (.bl _)⟩
  .obtain ⟨w,r1⟩:=DatV.reads I (by rw[l];exact bF.heap e m) (jC h1) o
   obtain ⟨bs,r2⟩:=DatV.reads I (by rw[l];exact bF.heap e p) (jC h2) n
   have g:=aE7 h2
   have t:=aBC (b:=a.depth) g.2
   exact SeqAt.notIn_list_reads r2 r1 g.1 (jC h1) (by omega) f
  .obtain ⟨w,r1⟩:=DatV.reads I (by rw[l];exact bF.heap e m) (jC h1) o
   obtain ⟨bs,r2⟩:=DatV.reads I (by rw[l];exact bF.heap e p) (jC h2) n
   have g:=aCQ h2
   have t:=aBC (b:=a.depth) g.2
   exact SeqAt.notIn_tuple_reads r2 r1 g.1 (jC h1) (by omega) f
 .cases k
theorem a7(A:X.K=c.K):IxR X (r2D (b9 c) (b9 c) (dN c) dIx):=by
 intro value e pins s σ H v u x y Q I n m h r
 obtain ⟨C,H1,F,a,b,d,g,l,t,f,q⟩:=h
 unfold dIx at f
 split at f
 .rename_i xs i
  split at f
  .rename_i w j
   cases f
   obtain ⟨p,vs,rfl,h1,h2⟩:=bF.lst_of g l
   obtain rfl:=bF.int_of t
   obtain ⟨z,o,k⟩:=aBB h2 j
   rw[<-A] at h1
   exact aMO value e pins s σ H _ _ x y Q I n m ⟨p,vs,i,z,rfl,rfl,h1,o,q _ F H (Ext.refl g) k⟩ r
  .cases f
 .rename_i xs i
  split at f
  .rename_i w j
   cases f
   obtain ⟨p,vs,rfl,_,h1,h2⟩:=bF.tup_of g l
   obtain rfl:=bF.int_of t
   obtain ⟨z,o,k⟩:=aBB h2 j
   rw[<-A] at h1
   exact aQC value e pins s σ H _ _ x y Q I n m ⟨p,vs,i,z,rfl,rfl,h1,o,q _ F H (Ext.refl g) k⟩ r
  .cases f
 .rename_i z i
  split at f
  .rename_i B
   split at f
   .rename_i w j
    cases f
    obtain rfl:=bF.str_of l
    obtain rfl:=bF.int_of t
    exact aQD value e pins s σ H _ _ x y Q I n m ⟨z,i,w,rfl,rfl,B,j,q _ F H (Ext.refl g) (.str _)⟩ r
   .cases f
  .cases f
 .cases f
def tTf(c:Ct)(E:XK)(f:Sg->R Bool):TT:=fun σ H Q=>∃ ρ F,Ab c ρ σ F H/\Rk c E F H (f ρ) fun b=>∀ F' H',Ext F H F' H'->Q b H'
abbrev PTf(X:Cx)(c:Ct)(E:XK)(e:E1)(f:Sg->R Bool):Prop:=PT X e (tTf c E f)
def asB:Dz->R Bool
 | .bool b=>.ok b
 | _=>.bad
theorem xM{f:Sg->R Dz}{σ:L2.St}{H:Hp}{Q:Bool->Hp->Prop}(h:tTf c E (e1 asB f) σ H Q):tV (dN c) c E f σ H fun x H'=>∃ k,x=.bl k/\Q k H':=by
 obtain ⟨ρ,F,ab,h⟩:=h
 refine ⟨ρ,F,ab,(Rk.bind h).imp fun d _ q v a H' s r=>?_⟩
 cases d with
 | bool b=>exact ⟨b,DatV.bl_of r,Rk.ok q a H' s⟩
 | _=>exact False.elim q
theorem dS{d:CmpOp}{g:Dz->Dz->R Dz}{e fb:Sg->R Dz}(i:OpR X (compareOp d) (r2D (b9 c) (b9 c) (dN c) g))(l:eX g)(j:PR X c E a e)(f:PR X c E b fb)(k:behindInMarks d b=false):PTf X c E (.Compare a [d] [b] pos) (e1 asB (e2 g e fb)):=
 PT.imp (n9 i j f k) fun σ H Q h=>tV2 vC l (qU c) (mE c) (xM h)
theorem jQ{f:Sg->R Dz}(h:PD X c E e f)(a:∀ whole,isTrue e X.env whole=(do let v <-whole;standAt e.pos;holding [v] (truthy v)):=by intro _;rfl):PTf X c E e (e1 asB f):=
 PT.imp (L2.jQ h a) fun σ H Q h=>xM h
def qX(f g:Sg->R Bool):Sg->R Bool:=fun ρ=>(f ρ).bind fun b=>if b=true then g ρ else .ok false
def bOr(f g:Sg->R Bool):Sg->R Bool:=fun ρ=>(f ρ).bind fun b=>if b=true then .ok true else g ρ
def pK(f:Sg->R Bool):Sg->R Bool:=fun ρ=>(f ρ).bind fun b=>.ok (!b)
abbrev PWf(X:Cx)(c:Ct)(E:XK)(e:E1)(f:Sg->R Bool):Prop:=PW X e (tTf c E f)
theorem PW.imp{X:Cx}{e:E1}{t t':TT}(h:PW X e t)(i:∀ σ H Q,t' σ H Q->t σ H Q):PW X e t':=fun a pins s σ H Q I q=>h a pins s σ H Q I (i σ H Q q)
theorem aU7{f g:Sg->R Bool}{σ:L2.St}{H:Hp}{Q:Bool->Hp->Prop}(h:tTf c E (qX f g) σ H Q):aPM (tTf c E f) (tTf c E g) σ H Q:=by
 obtain ⟨ρ,F,ab,h⟩:=h
 refine ⟨ρ,F,ab,(Rk.bind h).imp fun b _ q a H' s=>?_⟩
 cases b with
 | true=>exact ⟨ρ,a,ab.ext s,(Rk.ext s q).imp fun d _ z i H2 e=>z i H2 (s.trans e)⟩
 | false=>exact Rk.ok q a H' s
theorem tor{f g:Sg->R Bool}{σ:L2.St}{H:Hp}{Q:Bool->Hp->Prop}(h:tTf c E (bOr f g) σ H Q):tOr (tTf c E f) (tTf c E g) σ H Q:=by
 obtain ⟨ρ,F,ab,h⟩:=h
 refine ⟨ρ,F,ab,(Rk.bind h).imp fun b _ q a H' s=>?_⟩
 cases b with
 | false=>exact ⟨ρ,a,ab.ext s,(Rk.ext s q).imp fun d _ z i H2 e=>z i H2 (s.trans e)⟩
 | true=>exact Rk.ok q a H' s
theorem mI{f:Sg->R Bool}(h:PTf X c E a f):PWf X c E (.BoolOp .And [a] pos) f:=L2.mI h
theorem uP{f:Sg->R Bool}(h:PTf X c E a f):PWf X c E (.BoolOp .Or [a] pos) f:=L2.uP h
theorem n8{f g:Sg->R Bool}{rest:List E1}(h:PTf X c E a f)(h2:PWf X c E (.BoolOp .And (b::rest) pos) g):PWf X c E (.BoolOp .And (a::b::rest) pos) (qX f g):=PW.imp (L2.n8 h h2) fun _ _ _ q=>aU7 q
theorem uQ{f g:Sg->R Bool}{rest:List E1}(h:PTf X c E a f)(h2:PWf X c E (.BoolOp .Or (b::rest) pos) g):PWf X c E (.BoolOp .Or (a::b::rest) pos) (bOr f g):=PW.imp (L2.uQ h h2) fun _ _ _ q=>tor q
theorem lP{f:Sg->R Bool}(h:PTf X c E a f):PTf X c E (.UnaryOp .Not a pos) (pK f):=PT.imp (L2.lP h) fun σ H Q ⟨ρ,F,ab,k⟩=>⟨ρ,F,ab,(Rk.bind k).imp fun b _ q d H' s=>Rk.ok q d H' s⟩
noncomputable def tX(f g:Sg->R Dz):Sg->R Dz:=fun ρ=>(f ρ).bind fun x=>(asB x).bind fun b=>if b=true then g ρ else .ok (.bool false)
def eOr(f g:Sg->R Dz):Sg->R Dz:=fun ρ=>(f ρ).bind fun x=>(asB x).bind fun b=>if b=true then .ok (.bool true) else g ρ
def aJZ(f:Sg->R Dz):Sg->R Dz:=fun ρ=>(f ρ).bind fun x=>(asB x).bind fun b=>.ok (.bool (!b))
def eIf{α:Type}(t:Sg->R Bool)(f g:Sg->R α):Sg->R α:=fun ρ=>(t ρ).bind fun b=>if b=true then f ρ else g ρ
theorem vG{op}{f:Sg->R Dz}(h:PD X c E a f):PD X c E (.BoolOp op [a] pos) f:=aPN h
theorem aBD{f g:Sg->R Dz}{rest:List E1}(h:PD X c E a f)(h2:PD X c E (.BoolOp .And (b::rest) pos) g):PD X c E (.BoolOp .And (a::b::rest) pos) (tX f g):=PE.imp (aPO h h2) fun σ H Q e=>by
 obtain ⟨ρ,F,ab,k⟩:=e
 refine ⟨ρ,F,ab,(Rk.bind k).imp fun d _ q v i H' s r=>?_⟩
 cases d with
 | bool b=>
  refine ⟨b,DatV.bl_of r,?_⟩
  cases b with
  | true=>exact xA ⟨ρ,i,ab.ext s,(Rk.ext s q).imp fun d _ z v j H2 l=>z v j H2 (s.trans l)⟩
  | false=>exact w9 (Rk.ok q (.bl false) i H' s (.bl false))
 | _=>exact False.elim q
theorem aS9{f g:Sg->R Dz}{rest:List E1}(h:PD X c E a f)(h2:PD X c E (.BoolOp .Or (b::rest) pos) g):PD X c E (.BoolOp .Or (a::b::rest) pos) (eOr f g):=PE.imp (aSV h h2) fun σ H Q e=>by
 obtain ⟨ρ,F,ab,k⟩:=e
 refine ⟨ρ,F,ab,(Rk.bind k).imp fun d _ q v i H' s r=>?_⟩
 cases d with
 | bool b=>
  refine ⟨b,DatV.bl_of r,?_⟩
  cases b with
  | false=>exact w9 ⟨ρ,i,ab.ext s,(Rk.ext s q).imp fun d _ z v j H2 l=>z v j H2 (s.trans l)⟩
  | true=>exact xA (Rk.ok q (.bl true) i H' s (.bl true))
 | _=>exact False.elim q
theorem aQR{f:Sg->R Dz}(h:PD X c E a f):PD X c E (.UnaryOp .Not a pos) (aJZ f):=PE.imp (aPP h) fun σ H Q e=>by
 obtain ⟨ρ,F,ab,k⟩:=e
 refine ⟨ρ,F,ab,(Rk.bind k).imp fun d _ q v g H' s r=>?_⟩
 cases d with
 | bool b=>exact ⟨b,DatV.bl_of r,Rk.ok q _ g H' s (.bl _)⟩
 | _=>exact False.elim q
theorem aTA{t:Sg->R Bool}{f g:Sg->R Dz}{q:E1}(m:PTf X c E q t)(h:PD X c E a f)(h2:PD X c E b g):PD X c E (.IfExp q a b pos) (eIf t f g):=PE.imp (aI9 m h h2) fun σ H Q e=>by
 obtain ⟨ρ,F,ab,k⟩:=e
 refine ⟨ρ,F,ab,(Rk.bind k).imp fun b _ q l H' s=>?_⟩
 cases b with
 | true=>exact xA ⟨ρ,l,ab.ext s,(Rk.ext s q).imp fun d _ z v i H2 j=>z v i H2 (s.trans j)⟩
 | false=>exact w9 ⟨ρ,l,ab.ext s,(Rk.ext s q).imp fun d _ z v i H2 j=>z v i H2 (s.trans j)⟩
noncomputable def eCh(g g':Dz->Dz->R Dz)(fa fb fc:Sg->R Dz):Sg->R Dz:=fun ρ=>(fa ρ).bind fun x=>(fb ρ).bind fun y=>(g x y).bind fun z=>(asB z).bind fun k=>if k=true then (fc ρ).bind fun w=>g' y w else .ok (.bool false)
end
def AFs(g:Gb)(K:Frag)(mg:Str->O9 V9)(F:Hp):List A->List V->Prop
 | [],[]=>True
 | a::as,v::vs=>AF g K mg F a v/\AFs g K mg F as vs
 | _,_=>False
theorem AFs.same{g:Gb}{K:Frag}{mg:Str->O9 V9}{F F':Hp}(s:aN F F'):∀ {as:List A} {vs:List V},AFs g K mg F as vs->AFs g K mg F' as vs
 | [],[],_=>trivial
 | a::as,v::vs,h=>⟨AF.same s h.1,AFs.same s h.2⟩
theorem AFs.len{g:Gb}{K:Frag}{mg:Str->O9 V9}{F:Hp}:∀ {as:List A} {vs:List V},AFs g K mg F as vs->vs.length=as.length
 | [],[],_=>rfl
 | a::as,v::vs,h=>by rw[AY,AY,AFs.len h.2]
theorem PA.imp{X:Cx}{es:List E1}{t t':TA}(h:PA X es t)(i:∀ σ H Q,t' σ H Q->t σ H Q):PA X es t':=fun pos pins s σ H Q I q=>h pos pins s σ H Q I (i σ H Q q)
def tAd(c:Ct)(E:XK)(f:Sg->R (List Dz)):TA:=fun σ H Q=>∃ ρ F,Ab c ρ σ F H/\Rk c E F H (f ρ) fun ds=>∀ vs F' H',Ext F H F' H'->DatVs c.K F' vs ds->Q vs H'
def tAv(c:Ct)(E:XK)(f:Sg->R (List A)):TA:=fun σ H Q=>∃ ρ F,Ab c ρ σ F H/\Rk c E F H (f ρ) fun ds=>∀ vs F' H',Ext F H F' H'->AFs c.g c.K c.mg F' ds vs->Q vs H'
abbrev PAd(X:Cx)(c:Ct)(E:XK)(es:List E1)(f:Sg->R (List Dz)):Prop:=PA X es (tAd c E f)
abbrev PAv(X:Cx)(c:Ct)(E:XK)(es:List E1)(f:Sg->R (List A)):Prop:=PA X es (tAv c E f)
noncomputable def aO{α:Type}:Sg->R (List α):=fun _=>.ok []
def aA{α:Type}(f:Sg->R α)(g:Sg->R (List α)):Sg->R (List α):=fun ρ=>(f ρ).bind fun x=>(g ρ).bind fun xs=>.ok (x::xs)
section
variable{X:Cx}{c:Ct}{E:XK}{e a b:E1}{es:List E1}{pos:Pos}
theorem aV:PAd X c E [] aO:=PA.imp aU fun σ H Q ⟨ρ,F,ab,k⟩=>Rk.ok k [] F H (Ext.refl ab.fh) .nil
theorem bC:PAv X c E [] aO:=PA.imp aU fun σ H Q ⟨ρ,F,ab,k⟩=>Rk.ok k [] F H (Ext.refl ab.fh) trivial
theorem aD{f:Sg->R Dz}{g:Sg->R (List Dz)}(h:PD X c E e f)(h2:PAd X c E es g)(i:starEach (e::es) X.env=(false,eval e X.env)::starEach es X.env:=by rfl):PAd X c E (e::es) (aA f g):=PA.imp (aM h h2 i) fun σ H Q a=>by
 obtain ⟨ρ,F,ab,k⟩:=a
 refine ⟨ρ,F,ab,(Rk.bind k).imp fun x _ q v d H1 s1 r1=>⟨ρ,d,ab.ext s1,((Rk.bind q).ext s1).imp fun xs _ q vs j H2 b r2=>?_⟩⟩
 exact Rk.ok q (v::vs) j H2 (s1.trans b) (.cons (DatV.same b.ff r1) r2)
theorem aE{f:Sg->R A}{g:Sg->R (List A)}(h:PV X c E e f)(h2:PAv X c E es g)(i:starEach (e::es) X.env=(false,eval e X.env)::starEach es X.env:=by rfl):PAv X c E (e::es) (aA f g):=PA.imp (aM h h2 i) fun σ H Q a=>by
 obtain ⟨ρ,F,ab,k⟩:=a
 refine ⟨ρ,F,ab,(Rk.bind k).imp fun x _ q v d H1 s1 r1=>⟨ρ,d,ab.ext s1,((Rk.bind q).ext s1).imp fun xs _ q vs j H2 b r2=>?_⟩⟩
 exact Rk.ok q (v::vs) j H2 (s1.trans b) ⟨AF.same b.ff r1,r2⟩
def cW(f:Sg->R (List Dz)):Sg->R Dz:=fun ρ=>(f ρ).bind fun xs=>if xs.length<=16777216 then .ok (.tuple xs) else .bad
def eB(f:Sg->R (List Dz)):Sg->R (List Dz):=fun ρ=>(f ρ).bind fun xs=>if xs.length<=16777216 then .ok xs else .bad
theorem dO:sizeLine=16777216:=ET
theorem cB{x1}{f:Sg->R (List Dz)}(h:PAd X c E es f):PD X c E (.Tuple es x1 pos) (cW f):=PE.imp (aP8 h) fun σ H Q a=>by
 obtain ⟨ρ,F,ab,k⟩:=a
 refine ⟨ρ,F,ab,(Rk.bind k).imp fun xs _ q vs e H1 s1 r1=>?_⟩
 by_cases b:xs.length<=16777216
 .rw[AD b] at q
  refine ⟨by rw[r1.length,dO];exact b,fun p d=>?_⟩
  exact Rk.ok q (.ref p) _ _ (s1.trans (Ext.new s1.fh d)) (.tup (SqT.of aX) (r1.same (aN.upd (bZ s1.fh d))))
 .rw[AC b] at q;exact q.elim
theorem dE{f:Sg->R (List Dz)}(h:PAd X c E es f):PN X c E (.List es pos) (eB f):=PE.imp (aP9 h) fun σ H Q a=>by
 obtain ⟨ρ,F,ab,k⟩:=a
 refine ⟨ρ,F,ab,(Rk.bind k).imp fun xs _ q vs e H1 s1 r1=>?_⟩
 by_cases b:xs.length<=16777216
 .rw[AD b] at q
  refine ⟨by rw[r1.length,dO];exact b,fun p d=>?_⟩
  exact Rk.ok q (.ref p) _ _ (s1.trans (Ext.own s1.fh d)) ⟨p,vs,rfl,bZ s1.hh d,aX,bZ s1.fh d,r1⟩
 .rw[AC b] at q;exact q.elim
noncomputable def dLen:Dz->R Dz
 | .str z=>if z.length<=16777216 then .ok (.int z.length) else .bad
 | .list xs=>.ok (.int xs.length)
 | .tuple xs=>.ok (.int xs.length)
 | _=>.bad
theorem plain_len:oH dLen:=by intro a e h;unfold dLen at h;split at h<;>(try split at h)<;>cases h
theorem fW{j:Sg->R Dz}(l:X.K=c.K)(h0:PE X e (tCB (fun xs H Q=>∃ x n,xs=[x]/\aP7 X.K x H n/\Q (.int n) H) (fJ (tV (b9 c) c E j) jL))):PD X c E e (e1 dLen j):=
 PE.imp h0 fun σ H Q h=>by
  obtain ⟨ρ,F,ab,k⟩:=tV1 (Ra:=b9 c) z8 plain_len (mE c) h
  refine ⟨ρ,F,ab,k.imp fun d _ q v o H' s r=>?_⟩
  obtain ⟨t,g,a,u,f,i,b,q⟩:=q v o H' s r
  unfold dLen at b
  split at b
  .rename_i z
   split at b
   .rename_i m
    cases b
    obtain rfl:=bF.str_of i
    exact ⟨_,_,rfl,⟨by rw[dO];exact m,rfl⟩,q _ g H' (Ext.refl f) (.int _)⟩
   .cases b
  .cases b
   obtain ⟨p,vs,rfl,h1,h2⟩:=bF.lst_of f i
   rw[<-l] at h1
   exact ⟨_,vs.length,rfl,.inl ⟨vs,h1,rfl⟩,q _ g H' (Ext.refl f) (by rw[h2.length];exact .int _)⟩
  .cases b
   obtain ⟨p,vs,rfl,_,h1,h2⟩:=bF.tup_of f i
   rw[<-l] at h1
   exact ⟨_,vs.length,rfl,.inr ⟨vs,h1,rfl⟩,q _ g H' (Ext.refl f) (by rw[h2.length];exact .int _)⟩
  .cases b
noncomputable def dTup:Dz->R Dz
 | .list xs=>.ok (.tuple xs)
 | .tuple xs=>.ok (.tuple xs)
 | _=>.bad
theorem aHJ:oH dTup:=by intro a e h;unfold dTup at h;split at h<;>cases h
theorem eQ{j:Sg->R Dz}(m:X.K=c.K)(h0:PE X e (tCB (fun xs H Q=>∃ p ys,xs=[.ref p]/\((SqL X.K H p ys/\∀ l,H l=none->Q (.ref l) (upd H l (.tup ys)))\/(SqT X.K H p ys/\Q (.ref p) H))) (fJ (tV (b9 c) c E j) jL))):PD X c E e (e1 dTup j):=
 PE.imp h0 fun σ H Q h=>by
  obtain ⟨ρ,F,ab,k⟩:=tV1 (Ra:=b9 c) z8 aHJ (mE c) h
  refine ⟨ρ,F,ab,k.imp fun d _ q v o H' s r=>?_⟩
  obtain ⟨w,t,a,u,b,i,f,q⟩:=q v o H' s r
  unfold dTup at f
  split at f
  .cases f
   obtain ⟨p,vs,rfl,h1,h2⟩:=bF.lst_of b i
   rw[<-m] at h1
   exact ⟨p,vs,rfl,.inl ⟨h1,fun l g=>q _ _ _ (Ext.new b g) (.tup (SqT.of aX) (h2.same (aN.upd (bZ b g))))⟩⟩
  .cases f
   obtain ⟨p,vs,rfl,n,h1,h2⟩:=bF.tup_of b i
   rw[<-m] at h1
   exact ⟨p,vs,rfl,.inr ⟨h1,q _ t H' (Ext.refl b) (.tup n h2)⟩⟩
  .cases f
noncomputable def aQS:Dz->R (List Dz)
 | .list xs=>.ok xs
 | .tuple xs=>.ok xs
 | _=>.bad
noncomputable def dInt:Dz->R Dz
 | .int i=>.ok (.int i)
 | .bool b=>.ok (.int (if b=true then 1 else 0))
 | _=>.bad
theorem aHK:oH dInt:=by intro a e h;unfold dInt at h;split at h<;>cases h
theorem jD{j:Sg->R Dz}(h0:PE X e (tCB (fun xs H Q=>(∃ i,xs=[.int i]/\Q (.int i) H)\/∃ k,xs=[.bl k]/\Q (.int (if k then 1 else 0)) H) (fJ (tV (b9 c) c E j) jL))):PD X c E e (e1 dInt j):=
 PE.imp h0 fun σ H Q h=>by
  obtain ⟨ρ,F,ab,k⟩:=tV1 (Ra:=b9 c) z8 aHK (mE c) h
  refine ⟨ρ,F,ab,k.imp fun d _ q v n H' s r=>?_⟩
  obtain ⟨o,g,a,p,m,l,f,q⟩:=q v n H' s r
  unfold dInt at f
  split at f
  .cases f
   obtain rfl:=bF.int_of l
   exact .inl ⟨_,rfl,q _ g H' (Ext.refl m) (.int _)⟩
  .rename_i b
   cases f
   obtain rfl:=bF.bl_of l
   exact .inr ⟨b,rfl,q _ g H' (Ext.refl m) (by cases b<;>exact .int _)⟩
  .cases f
noncomputable def aTB:List Dz->O9 (List Bool)
 | []=>some []
 | .bool b::t=>(aTB t).map (b :: ·)
 | _=>none
end
inductive Fw where
 | nx (ρ:Sg)|bk (ρ:Sg)|ct (ρ:Sg)|rt (a:A)
def AR(g:Gb)(K:Frag)(mg:Str->O9 V9)(H F' H':Hp):A->V->Prop
 | .l xs,v=>∃ p us,v=.ref p/\H p=none/\H' p=some (.lst us)/\F' p=none/\DatVs K F' us xs
 | a,v=>AF g K mg F' a v
theorem AR.of{g:Gb}{K:Frag}{mg:Str->O9 V9}{H b H':Hp}{a:A}{v:V}(h:AF g K mg b a v):AR g K mg H b H' a v:=by
 cases a with
 | l xs=>exact False.elim h
 | _=>exact h
def jM(c:Ct)(F:Hp)(D:lZ):Fw->Prop
 | .nx ρ=>∀ σ' F' H',aN F F'->Ab c ρ σ' F' H'->D.nx σ' H'
 | .bk ρ=>∀ σ' F' H',aN F F'->Ab c ρ σ' F' H'->D.bk σ' H'
 | .ct ρ=>∀ σ' F' H',aN F F'->Ab c ρ σ' F' H'->D.ct σ' H'
 | .rt a=>∀ v F' H',Ext c.F0 c.H0 F' H'->AR c.g c.K c.mg c.H0 F' H' a v->D.rt v H'
theorem jM.same{c:Ct}{F F1:Hp}{D:lZ}(s:aN F F1):∀ {w:Fw},jM c F D w->jM c F1 D w
 | .nx ρ,h=>fun b d H' s' ab=>h b d H' (fun a o z=>s' a o (s a o z)) ab
 | .bk ρ,h=>fun b d H' s' ab=>h b d H' (fun a o z=>s' a o (s a o z)) ab
 | .ct ρ,h=>fun b d H' s' ab=>h b d H' (fun a o z=>s' a o (s a o z)) ab
 | .rt a,h=>h
def tSf(c:Ct)(E:XK)(f:Sg->R Fw):TS:=fun D σ H=>∃ ρ F,Ab c ρ σ F H/\Rk c E F H (f ρ) (jM c F D)
abbrev PSf(X:Cx)(c:Ct)(E:XK)(st:Stmt)(f:Sg->R Fw):Prop:=PS X st (tSf c E f)
abbrev kJ(X:Cx)(c:Ct)(E:XK)(st:List Stmt)(f:Sg->R Fw):Prop:=PSs X st (tSf c E f)
theorem get_set{α:Type}{l:List α}{i j:Nat}{x y:α}(h:(l.set i x)[j]? = some y):(i=j/\y=x/\i < l.length)\/(i≠j/\l[j]? = some y):=by
 by_cases e:i=j
 .subst e
  by_cases a:i < l.length
  · rw [CV a] at h; exact .inl ⟨rfl, (BU h).symm, a⟩
  · rw [List.getElem?_eq_none_iff.mpr (by rw [C8]; omega)] at h; cases h
 .rw[BN e] at h;exact .inr ⟨e,h⟩
theorem Ab.setF{c:Ct}{ρ:Sg}{σ:L2.St}{F H:Hp}{i:Nat}{a:A}{v:V}(b:Ab c ρ σ F H)(u:AO c F H a v)(t:a.own=true->∀ (j:Nat) (a':A),j≠i->ρ[j]? = some (some a')->a'.own=true->σ[j]? ≠ some (some v)):Ab c (ρ.set i (some a)) (σ.set i (some v)) F H where
 len:=by rw[C8,C8];exact b.len
 fh:=b.fh
 slot:=fun j a' h=>by
  rcases get_set h with ⟨e,q,n⟩|⟨m,q⟩
  .subst e
   cases q
   exact ⟨v,CV (by rw[<-b.len];exact n),u⟩
  .rw[BN m];exact b.slot j a' q
 apart:=fun j k a' s d h1 h2 o p=>by
  rcases get_set h1 with ⟨e,q,n⟩|⟨m,q⟩
  .subst e
   cases q
   rcases get_set h2 with ⟨r,g,l⟩|⟨f,g⟩
   .exact absurd r d
   .rw[CV (by rw[<-b.len];exact n),BN f]
    exact (t o k s (BZ d) g p).symm
  .rcases get_set h2 with ⟨r,g,l⟩|⟨f,g⟩
   .subst r
    cases g
    rw[CV (by rw[<-b.len];exact l),BN m]
    exact t p j a' d q o
   .rw[BN m,BN f]
    exact b.apart j k a' s d q g o p
 f0:=b.f0
 h0:=b.h0
 n0:=b.n0
 t0:=b.t0
theorem AO.of{c:Ct}{F H:Hp}:∀ {a:A} {v:V},AF c.g c.K c.mg F a v->AO c F H a v
 | .d x,v,h=>h
 | .x e,v,h=>h
 | .g k n G,v,h=>h
 | .f kvs,v,h=>h
 | .o e,v,h=>h
theorem AF.notOwn{g:Gb}{K:Frag}{mg:Str->O9 V9}{F:Hp}:∀ {a:A} {v:V},AF g K mg F a v->a.own=false
 | .d x,v,h=>rfl
 | .x e,v,h=>rfl
 | .g k n G,v,h=>rfl
 | .f kvs,v,h=>rfl
 | .o e,v,h=>rfl
theorem Ab.setA{c:Ct}{ρ:Sg}{σ:L2.St}{F H:Hp}{i:Nat}{a:A}{v:V}(b:Ab c ρ σ F H)(d:AF c.g c.K c.mg F a v):Ab c (ρ.set i (some a)) (σ.set i (some v)) F H:=
 b.setF (AO.of d) fun z=>by rw[AF.notOwn d] at z;cases z
theorem Ab.setN{c:Ct}{ρ:Sg}{σ:L2.St}{F H d H':Hp}{i:Nat}{xs:List Dz}{v:V}(b:Ab c ρ σ F H)(e:Ext F H d H')(h:xJ c xs v H d H'):Ab c (ρ.set i (some (.l xs))) (σ.set i (some v)) d H':=by
 obtain ⟨p,vs,rfl,h1,h2,r,k⟩:=h
 refine (b.ext e).setF ⟨p,vs,rfl,h2,r,bZ b.h0 h1,k⟩ fun _ j g _ a n=>?_
 obtain ⟨w,m,q⟩:=b.slot j g a
 rw[m]
 intro z
 cases z
 obtain ⟨s,o',o,f,_⟩:=q.at n
 cases o
 rw[h1] at f
 cases f
theorem Ab.putO{c:Ct}{ρ:Sg}{σ:L2.St}{F H:Hp}{i:Nat}{a u:A}{p:Az}{o:HO}(b:Ab c ρ σ F H)(hi:ρ[i]? = some (some a))(D:a.own=true)(I:σ[i]? = some (some (.ref p)))(Q:u.own=true)(U:AO c F (upd H p o) u (.ref p)) :
  Ab c (ρ.set i (some u)) σ F (upd H p o):=by
 obtain ⟨v,h1,q⟩:=b.slot i _ hi
 rw[I] at h1
 cases h1
 obtain ⟨X,o',B,h2,T,O⟩:=q.at D
 cases B
 have t:∀ (j:Nat) (a:A) (w:V),j≠i->ρ[j]? = some (some a)->σ[j]? = some (some w)->AO c F H a w->AO c F (upd H p o) a w:=by
  intro j J w P W C r
  by_cases own:J.own=true
  .refine r.off fun z=>?_
   subst z
   exact b.apart j i _ _ P W hi own D (by rw[C,I])
  .cases J with
   | l zs=>exact absurd rfl own
   | m zs=>exact absurd rfl own
   | d x=>exact r
   | x e=>exact r
   | g k n f=>exact r
   | k S=>exact r
   | f S=>exact r
   | o S=>exact r
 exact {
  len:=by rw[C8];exact b.len
  fh:=fun a o z=>by rw[aJ (fun w=>by subst w;rw[T] at z;cases z)];exact b.fh a o z
  slot:=fun j a h=>by
   rcases get_set h with ⟨e,q,R⟩|⟨K,q⟩
   .subst e
    cases q
    exact ⟨_,I,U⟩
   .obtain ⟨w,C,r⟩:=b.slot j a q
    exact ⟨w,C,t j a w (BZ K) q C r⟩
  apart:=fun j k u M s h1 h2 L N=>by
   rcases get_set h1 with ⟨e,q,R⟩|⟨K,q⟩
   .subst e
    cases q
    rcases get_set h2 with ⟨B,y,G⟩|⟨E,y⟩
    .exact absurd B s
    .exact b.apart _ k _ M s hi y D N
   .rcases get_set h2 with ⟨B,y,G⟩|⟨E,y⟩
    .subst B
     exact b.apart j _ u _ s q hi L D
    .exact b.apart j k u M s q y L N
  f0:=b.f0
  h0:=fun a o z=>by rw[aJ (fun w=>by subst w;rw[O] at z;cases z)];exact b.h0 a o z
  n0:=b.n0
  t0:=b.t0}
theorem Ab.putL{c:Ct}{ρ:Sg}{σ:L2.St}{F H:Hp}{i:Nat}{xs ys:List Dz}{p:Az}{vs:List V}(b:Ab c ρ σ F H)(hi:ρ[i]? = some (some (.l xs)))(a:σ[i]? = some (some (.ref p)))(e:DatVs c.K F vs ys) :
  Ab c (ρ.set i (some (.l ys))) σ F (upd H p (.lst vs)):=by
 obtain ⟨v,h1,h,us,rfl,h2,f,d,g⟩:=b.slot i _ hi
 rw[a] at h1
 cases h1
 exact b.putO hi rfl a rfl ⟨p,vs,rfl,aX,f,d,e⟩
theorem Ab.putM{c:Ct}{ρ:Sg}{σ:L2.St}{F H:Hp}{i:Nat}{d a:List (Dz×Dz)}{p:Az}{es:List Ent}{ep:Nat}(b:Ab c ρ σ F H)(hi:ρ[i]? = some (some (.m d)))(e:σ[i]? = some (some (.ref p)))(g:MapRel c.K F es a) :
  Ab c (ρ.set i (some (.m a))) σ F (upd H p (dU c.w p es ep)):=by
 obtain ⟨v,h1,k,us,rfl,h2,h,f,j⟩:=b.slot i _ hi
 rw[e] at h1
 cases h1
 exact b.putO hi rfl e rfl ⟨p,es,rfl,⟨ep,aX⟩,h,f,g⟩
theorem Ab.setM{c:Ct}{ρ:Sg}{σ:L2.St}{F H d H':Hp}{i:Nat}{a:List (Dz×Dz)}{p:Az}{es:List Ent}{ep:Nat}(b:Ab c ρ σ F H)(e:Ext F H d H')(h1:H p=none)(h2:H' p=some (dU c.w p es ep))(r:d p=none)(k:MapRel c.K d es a):Ab c (ρ.set i (some (.m a))) (σ.set i (some (.ref p))) d H':=by
 refine (b.ext e).setF ⟨p,es,rfl,⟨ep,h2⟩,r,bZ b.h0 h1,k⟩ fun _ j h _ f n=>?_
 obtain ⟨w,l,q⟩:=b.slot j h f
 rw[l]
 intro z
 cases z
 obtain ⟨s,o',o,g,_⟩:=q.at n
 cases o
 rw[h1] at g
 cases g
noncomputable def fz(i:Nat)(ρ:Sg):Sg:=match ρ[i]? with
 | some (some (.l xs))=>ρ.set i (some (.d (.list xs)))
 | _=>ρ
theorem Ab.publ{c:Ct}{ρ:Sg}{σ:L2.St}{F H:Hp}{i:Nat}{a0 a1:A}{p:Az}{o:HO}(b:Ab c ρ σ F H)(hi:ρ[i]? = some (some a0))(N:σ[i]? = some (some (.ref p)))(Q:a0.own=true)(h2:H p=some o)(G:F p=none)(v:c.H0 p=none)(M:a1.own=false)(V:AO c (upd F p o) H a1 (.ref p)):Ab c (ρ.set i (some a1)) σ (upd F p o) H:=by
 have t:aN F (upd F p o):=aN.upd G
 exact {
  len:=by rw[C8];exact b.len
  fh:=fun a o' z=>by
   by_cases w:a=p
   .subst w;rw[aX] at z;rw[h2];exact z
   .rw[aJ w] at z;exact b.fh a o' z
  slot:=fun j a h=>by
   rcases get_set h with ⟨e,q,R⟩|⟨J,q⟩
   .subst e
    cases q
    exact ⟨_,N,V⟩
   .obtain ⟨w,L,s⟩:=b.slot j a q
    refine ⟨w,L,?_⟩
    have off:∀ r,a.own=true->w=.ref r->F r=none->upd F p o r=none:=fun r W e f=>by
     rw[aJ]
     .exact f
     .intro z
      subst z
      exact b.apart j i _ _ (BZ J) q hi W Q (by rw[L,N,e])
    cases a with
    | l zs=>obtain ⟨r,ws,e,C,s,E,B⟩:=s;exact ⟨r,ws,e,C,off r rfl e s,E,B.same t⟩
    | m kvs=>obtain ⟨r,ws,e,C,s,E,B⟩:=s;exact ⟨r,ws,e,C,off r rfl e s,E,B.same t⟩
    | d x=>exact DatV.same t s
    | x e=>exact AF.same (g:=c.g) (K:=c.K) (mg:=c.mg) (a:=.x e) t s
    | g k n f=>exact AF.same (g:=c.g) (K:=c.K) (mg:=c.mg) (a:=.g k n f) t s
    | k S=>obtain ⟨S,f,cl,doc,pm,P,ct,h0,h1,h2,G,v⟩:=s;exact ⟨S,f,cl,doc,pm,P,ct,h0,h1,t _ _ h2,t _ _ G,v⟩
    | f kvs=>exact AF.same (g:=c.g) (K:=c.K) (mg:=c.mg) (a:=.f kvs) t s
    | o e=>exact AF.same (g:=c.g) (K:=c.K) (mg:=c.mg) (a:=.o e) t s
  apart:=fun j k U T y h1 h2 D I=>by
   rcases get_set h1 with ⟨e,q,R⟩|⟨J,q⟩
   .cases q;rw[M] at D;cases D
   .rcases get_set h2 with ⟨Y,u,X⟩|⟨O,u⟩
    .cases u;rw[M] at I;cases I
    .exact b.apart j k U T y q u D I
  f0:=fun a o z=>t a o (b.f0 a o z)
  h0:=b.h0
  n0:=fun a z n=>by
   by_cases w:a=p
   .subst w;exact .inl v
   .rw[aJ w] at n;exact b.n0 a z n
  t0:=b.t0}
theorem Ab.frz{c:Ct}{ρ:Sg}{σ:L2.St}{F H:Hp}(b:Ab c ρ σ F H)(i:Nat):∃ F',aN F F'/\Ab c (fz i ρ) σ F' H:=by
 unfold fz
 split
 .rename_i xs hi
  obtain ⟨v,f,p,vs,rfl,h2,a,d,e⟩:=b.slot i _ hi
  exact ⟨_,aN.upd a,b.publ hi f rfl h2 a d rfl (.lst (SqL.of aX) (e.same (aN.upd a)))⟩
 .exact ⟨F,cM F,b⟩
noncomputable def sD:Dz->Dz->R Dz
 | .int i,.int j=>.ok (.int (i+j))
 | _,_=>.bad
section
variable{X:Cx}{c:Ct}{E:XK}{e a b:E1}{st:Stmt}{rest:List Stmt}{pos:Pos}
def sFz(i:Nat)(f:Sg->R Fw):Sg->R Fw:=fun ρ=>f (fz i ρ)
theorem nH(i:Nat){f:Sg->R Fw}(h:PSf X c E st f):PSf X c E st (sFz i f):=PS.imp h fun D σ H b=>by
 obtain ⟨ρ,F,ab,k⟩:=b
 obtain ⟨g,s,d⟩:=ab.frz i
 refine ⟨fz i ρ,g,d,?_⟩
 have a:Rk c E F H (f (fz i ρ)) (jM c F D):=k
 cases q:f (fz i ρ) with
 | bad=>rw[q] at a;exact a
 | ok w=>rw[q] at a;exact jM.same s a
 | ex e=>rw[q] at a;exact a
noncomputable def sNx:Sg->R Fw:=fun ρ=>.ok (.nx ρ)
def aS(f g:Sg->R Fw):Sg->R Fw:=fun ρ=>(f ρ).bind fun w=>match w with
 | .nx ρ'=>g ρ'
 | w=>.ok w
theorem dJ:kJ X c E [] sNx:=PSs.imp L2.dJ fun D σ H ⟨ρ,F,ab,k⟩=>Rk.ok k σ F H (cM F) ab
theorem aR{f:Sg->R Fw}(h:PSf X c E st f):kJ X c E [st] f:=L2.aR h
theorem aG{f g:Sg->R Fw}(h:PSf X c E st f)(h2:kJ X c E rest g):kJ X c E (st::rest) (aS f g):=PSs.imp (L2.aG h h2) fun D σ H d=>by
 obtain ⟨ρ,F,ab,k⟩:=d
 refine ⟨ρ,F,ab,(Rk.bind k).imp fun w _ q=>?_⟩
 cases w with
 | nx ρ'=>
  intro l m H' s j
  refine ⟨ρ',m,j,?_⟩
  have b:Rk c E F H (g ρ') (jM c F D):=q
  cases i:g ρ' with
  | bad=>rw[i] at b;exact b
  | ok w=>rw[i] at b;exact jM.same s b
  | ex e=>rw[i] at b;exact b
 | bk ρ'=>exact q
 | ct ρ'=>exact q
 | rt a=>exact q
def cI(f:Sg->R A):Sg->R Fw:=fun ρ=>(f ρ).bind fun a=>.ok (.rt a)
theorem bY{f:Sg->R A}(h:PV X c E e f):PSf X c E (.Return (some e) pos) (cI f):=PS.imp (L2.bY h) fun D σ H ⟨ρ,F,ab,k⟩=>
 ⟨ρ,F,ab,(Rk.bind k).imp fun a _ q v b H' s r=>Rk.ok q v b H' (ab.all.trans s) (AR.of r)⟩
noncomputable def aTC:Sg->R Fw:=fun _=>.ok (.rt (.d .none))
def sIf(t:Sg->R Bool)(f g:Sg->R Fw):Sg->R Fw:=fun ρ=>(t ρ).bind fun b=>if b=true then f ρ else g ρ
theorem Rk.fw{F a H H1:Hp}{D:lZ}{r:R Fw}(s:aN F a)(k:Rk c E F H r (jM c F D)):Rk c E a H1 r (jM c a D):=by
 cases r with
 | bad=>exact k
 | ok w=>exact jM.same s k
 | ex e=>exact k
theorem fH{q:E1}{d e:List Stmt}{t:Sg->R Bool}{f g:Sg->R Fw}(i:PTf X c E q t)(l:kJ X c E d f)(j:kJ X c E e g):PSf X c E (.If q d e pos) (sIf t f g):=PS.imp (L2.fH i l j) fun D σ H a=>by
 obtain ⟨ρ,F,ab,k⟩:=a
 refine ⟨ρ,F,ab,(Rk.bind k).imp fun b _ q h H' s=>?_⟩
 cases b with
 | true=>exact xA ⟨ρ,h,ab.ext s,Rk.fw s.ff q⟩
 | false=>exact w9 ⟨ρ,h,ab.ext s,Rk.fw s.ff q⟩
def bU(i:Nat)(f:Sg->R A):Sg->R Fw:=fun ρ=>(f ρ).bind fun a=>.ok (.nx (ρ.set i (some a)))
theorem aH{i:Nat}{f:Sg->R A}(h:PS X st (lT (tV (aJY c) c E f) (kE i))):PSf X c E st (bU i f):=PS.imp h fun D σ H ⟨ρ,F,ab,k⟩=>
 ⟨ρ,F,ab,(Rk.bind k).imp fun a _ q v b H' s r=>Rk.ok q _ b H' s.ff ((ab.ext s).setA r)⟩
def fB(i:Nat)(f:Sg->R (List Dz)):Sg->R Fw:=fun ρ=>(f ρ).bind fun xs=>.ok (.nx (ρ.set i (some (.l xs))))
theorem iL{i:Nat}{f:Sg->R (List Dz)}(h:PS X st (lT (tV (xJ c) c E f) (kE i))):PSf X c E st (fB i f):=PS.imp h fun D σ H ⟨ρ,F,ab,k⟩=>
 ⟨ρ,F,ab,(Rk.bind k).imp fun a _ q v b H' s r=>Rk.ok q _ b H' s.ff (ab.setN s r)⟩
def aE8(f:Sg->R A):Sg->R Fw:=fun ρ=>(f ρ).bind fun _=>.ok (.nx ρ)
theorem f9{f:Sg->R A}(h:PS X st (aEH (tV (aJY c) c E f))):PSf X c E st (aE8 f):=PS.imp h fun D σ H ⟨ρ,F,ab,k⟩=>
 ⟨ρ,F,ab,(Rk.bind k).imp fun a _ q v b H' s r=>Rk.ok q _ b H' s.ff (ab.ext s)⟩
def jX(i:Nat)(f:Sg->R Dz):Sg->R Fw:=fun ρ=>match ρ[i]? with
 | some (some (.l xs))=>(f ρ).bind fun x=>if xs.length < 16777216 then .ok (.nx (ρ.set i (some (.l (xs++[x]))))) else .bad
 | _=>.bad
theorem kK{i:Nat}{f:Sg->R Dz}(l:X.K=c.K)(h:PS X st (aEH (tBM X.K "list" aCY (jK i) (fJ (tV (dN c) c E f) jL)))):PSf X c E st (jX i f):=PS.imp h fun D σ H ⟨ρ,F,ab,k⟩=>by
 unfold jX at k
 split at k
 .rename_i xs hi
  obtain ⟨v,d,p,vs,rfl,h2,j,g,b⟩:=ab.slot i _ hi
  refine ⟨_,d,.inl ⟨rfl,vs,SqL.of h2⟩,ρ,F,ab,(Rk.bind k).imp fun x _ q u e H1 s1 r1=>?_⟩
  by_cases a:xs.length < 16777216
  .rw[AD a] at q
   refine ⟨p,vs,u,rfl,rfl,s1.hh _ _ h2,by rw[b.length,dO];exact a,?_⟩
   exact Rk.ok q σ e _ s1.ff ((ab.ext s1).putL hi d ((b.same s1.ff).append (.cons r1 .nil)))
  .rw[AC a] at q;exact q.elim
 .exact k.elim
def aE9(i:Nat)(g:Dz->Dz->R Dz)(f:Sg->R Dz):Sg->R Fw:=fun ρ=>(eV i ρ).bind fun x=>(f ρ).bind fun y=>(g x y).bind fun z=>.ok (.nx (ρ.set i (some (.d z))))
theorem qF{i:Nat}{k:Int->Int->Int}{g:Dz->Dz->R Dz}{f:Sg->R Dz}(o:∀ x y,(∃ i j,x=.int i/\y=.int j/\g x y=.ok (.int (k i j)))\/g x y=.bad)(h:PS X st (aPV i (tV (b9 c) c E f) (ipI k))):PSf X c E st (aE9 i g f):=PS.imp h fun D σ H ⟨ρ,F,ab,k⟩=>by
 have b:=Rk.bind k
 unfold eV at b
 split at b
 .rename_i x p
  obtain ⟨v,h1,h2⟩:=ab.slot i _ p
  refine ⟨v,h1,ρ,F,ab,(Rk.bind b).imp fun y _ q u l H1 s1 r1=>?_⟩
  rcases o x y with ⟨m,n,rfl,rfl,e⟩|e
  .rw[e] at q
   obtain rfl:=DatV.int_of h2
   obtain rfl:=bF.int_of r1
   exact ⟨m,n,rfl,rfl,Rk.ok q _ l H1 s1.ff ((ab.ext s1).setA (a:=.d _) (.int _))⟩
  .rw[e] at q;exact q.elim
 .exact b.elim
theorem aND(x y:Dz):(∃ i j,x=.int i/\y=.int j/\sD x y=.ok (.int (i+j)))\/sD x y=.bad:=by
 unfold sD
 split
 · exact .inl ⟨_, _, rfl, rfl, rfl⟩
 · exact .inr rfl
theorem aNE(x y:Dz):(∃ i j,x=.int i/\y=.int j/\dSub x y=.ok (.int (i - j)))\/dSub x y=.bad:=by
 unfold dSub
 split
 · exact .inl ⟨_, _, rfl, rfl, rfl⟩
 · exact .inr rfl
end
def Tg(c:Ct)(g:TG)(fs:Dz->Sg->O9 Sg)(is:List Nat):Prop:=∀ (v:V) (x:Dz) (ρ ρ':Sg) (σ:L2.St) (F H:Hp) (Q:L2.St->Hp->Prop),Ab c ρ σ F H->DatV c.K F v x->fs x ρ=some ρ'->
 (∀ σ':L2.St,σ'.length=σ.length->(∀ j:Nat,j∉is->σ'[j]? = σ[j]?)->Ab c ρ' σ' F H->Q σ' H)->g v σ H Q
noncomputable def stN(i:Nat):Dz->Sg->O9 Sg:=fun x ρ=>some (ρ.set i (some (.d x)))
theorem bO{c:Ct}(i:Nat):Tg c (kE i) (stN i) [i]:=fun v x ρ f σ F H Q ab r e q=>by
 cases e
 exact q _ C8 (fun j b=>BN (by intro z;subst z;exact b (by simp))) (ab.setA (a:=.d x) r)
noncomputable def stL:List (Dz->Sg->O9 Sg)->List Dz->Sg->O9 Sg
 | [],[],ρ=>some ρ
 | f::fs,x::xs,ρ=>(f x ρ).bind (stL fs xs)
 | _,_,_=>none
def Tgs(c:Ct)(g:TGs)(fs:List (Dz->Sg->O9 Sg))(is:List Nat):Prop:=∀ (vs:List V) (xs:List Dz) (ρ ρ':Sg) (σ:L2.St) (F H:Hp) (Q:L2.St->Hp->Prop),Ab c ρ σ F H->DatVs c.K F vs xs->stL fs xs ρ=some ρ'->
 (∀ σ':L2.St,σ'.length=σ.length->(∀ j:Nat,j∉is->σ'[j]? = σ[j]?)->Ab c ρ' σ' F H->Q σ' H)->g vs σ H Q
theorem k7{c:Ct}:Tgs c aJA [] []:=fun vs xs ρ a σ F H Q ab r e q=>by
 cases xs with
 | nil=>cases e;exact ⟨by cases r;rfl,q σ rfl (fun _ _=>rfl) ab⟩
 | cons x t=>cases e
theorem dD{c:Ct}{g:TG}{gs:TGs}{f:Dz->Sg->O9 Sg}{fs:List (Dz->Sg->O9 Sg)}{is js:List Nat}(h:Tg c g f is)(h2:Tgs c gs fs js):Tgs c (aLJ g gs) (f::fs) (is++js):=fun vs xs ρ a σ F H Q ab r e q=>by
 cases r with
 | nil=>cases e
 | cons r1 r2=>
  rename_i x d vs ds
  have b:(f d ρ).bind (stL fs ds)=some a:=e
  cases e1:f d ρ with
  | none=>rw[e1] at b;cases b
  | some ρ1=>
   rw[e1] at b
   refine ⟨_,_,rfl,h _ _ ρ ρ1 σ F H _ ab r1 e1 fun n o k1 m=>h2 _ _ ρ1 a n F H _ m r2 b fun l p k2 i=>q l (p.trans o) (fun j k=>?_) i⟩
   rw[BW,not_or] at k
   exact (k2 j k.2).trans (k1 j k.1)
noncomputable def stT(fs:List (Dz->Sg->O9 Sg)):Dz->Sg->O9 Sg:=fun x ρ=>match x with
 | .tuple xs=>stL fs xs ρ
 | _=>none
theorem aDA:∀ {fs:List (Dz->Sg->O9 Sg)} {xs:List Dz} {ρ ρ':Sg},stL fs xs ρ=some ρ'->xs.length=fs.length
 | [],[],_,_,_=>rfl
 | [],_::_,_,_,h=>by cases h
 | _::_,[],_,_,h=>by cases h
 | f::fs,x::xs,ρ,ρ',h=>by
  have h':(f x ρ).bind (stL fs xs)=some ρ':=h
  cases e:f x ρ with
  | none=>rw[e] at h';cases h'
  | some ρ1=>
   rw[e] at h'
   have:=aDA (fs:=fs) (xs:=xs) h'
   simp[this]
theorem mU{c:Ct}{gs:TGs}{fs:List (Dz->Sg->O9 Sg)}{is:List Nat}{n:Nat}{K:Frag}(f:K=c.K)(h:Tgs c gs fs is)(d:fs.length=n):Tg c (aPT K n gs) (stT fs) is:=fun v x ρ b σ F H Q ab r e q=>by
 cases x with
 | tuple xs=>
  obtain ⟨a,vs,rfl,h1,h2⟩:=r.tup_of
  subst f
  exact ⟨a,vs,rfl,h1.same ab.fh,by rw[h2.length,aDA e,d],h vs xs ρ b σ F H Q ab h2 e q⟩
 | _=>cases e
structure Yld(K:Frag)(J:It)(F B:Hp)(xs:List Dz):Prop where
 len:xs.length<=sizeLine
 go:∀ (i:Nat) F1 H1,aN F F1->aN F1 H1->aN B H1->i < xs.length->J.go i H1
 yld:∀ (i:Nat) F1 H1 v H2 x,aN F F1->aN F1 H1->aN B H1->J.yld i H1 v H2->xs[i]? = some x->∃ F2,Ext F1 H1 F2 H2/\DatV K F2 v x
 stop:∀ F1 H1,aN F F1->aN F1 H1->aN B H1->J.stop xs.length H1
def tI(c:Ct)(E:XK)(f:Sg->R (List Dz)):TI:=fun σ H Rr=>∃ ρ F,Ab c ρ σ F H/\Rk c E F H (f ρ) fun xs=>∀ J B F' H',Ext F H F' H'->aN B H'->Yld c.K J F' B xs->Rr J H'
def tI0(c:Ct)(E:XK)(f:Sg->R (List Dz)):TI:=fun σ H Rr=>∃ ρ F,Ab c ρ σ F H/\Rk c E F H (f ρ) fun xs=>∀ J F' H',Ext F H F' H'->Yld c.K J F' (fun _=>none) xs->Rr J H'
theorem PI.imp{X:Cx}{tg e:E1}{t t':TI}(h:PI X tg e t)(i:∀ σ H Q,t' σ H Q->t σ H Q):PI X tg e t':=fun pins s σ H Q I q=>h pins s σ H Q I (i σ H Q q)
abbrev PIf(X:Cx)(c:Ct)(E:XK)(tg e:E1)(f:Sg->R (List Dz)):Prop:=PI X tg e (tI c E f)
abbrev PI0(X:Cx)(c:Ct)(E:XK)(tg e:E1)(f:Sg->R (List Dz)):Prop:=PI X tg e (tI0 c E f)
theorem vH{X:Cx}{c:Ct}{E:XK}{tg e:E1}{f:Sg->R (List Dz)}(h:PI0 X c E tg e f):PIf X c E tg e f:=PI.imp h fun σ H Q ⟨ρ,F,ab,k⟩=>
 ⟨ρ,F,ab,k.imp fun xs _ q J a H' s y=>q J (fun _=>none) a H' s (fun _ _ z=>nomatch z) y⟩
def qY{H:Hp}:aN (fun _=>none) H:=fun _ _ z=>nomatch z
noncomputable def cD:Dz->R (List Dz)
 | .list xs=>if xs.length<=16777216 then .ok xs else .bad
 | .tuple xs=>if xs.length<=16777216 then .ok xs else .bad
 | .str z=>if z.cps.toList.length<=16777216 then .ok (z.cps.toList.map fun u=>.str ⟨#[u]⟩) else .bad
 | _=>.bad
theorem aBE{K:Frag}{F B H:Hp}{a:Az}{vs:List V}{xs:List Dz}(h:xs.length<=16777216)(f:∀ H1,aN F H1->aN B H1->SqL K H1 a vs)(g:DatVs K F vs xs):Yld K (Itl K a) F B xs where
 len:=by rw[dO];exact h
 go:=fun i c H1 h1 h2 b hi=>by
  have q:=f H1 (fun x o z=>h2 x o (h1 x o z)) b
  exact ⟨vs,vs[i]'(by rw[g.length];exact hi),q,by simp⟩
 yld:=fun i c H1 v H2 x h1 h2 b y e=>by
  obtain ⟨rfl,y⟩:=y
  have q:=y vs (f _ (fun x o z=>h2 x o (h1 x o z)) b)
  obtain ⟨d,e2,r⟩:=g.get q
  rw[e] at e2
  cases e2
  exact ⟨c,Ext.refl h2,r.same h1⟩
 stop:=fun c H1 h1 h2 b=>⟨vs,f H1 (fun x o z=>h2 x o (h1 x o z)) b,by rw[g.length];exact AG _⟩
theorem aDB{K:Frag}{F B:Hp}{a:Az}{vs:List V}{xs:List Dz}(h:xs.length<=16777216)(c:SqT K F a vs)(f:DatVs K F vs xs):Yld K (Itt K a) F B xs where
 len:=by rw[dO];exact h
 go:=fun i b H1 h1 h2 g hi=>by
  have q:=c.same (H':=H1) (fun x o z=>h2 x o (h1 x o z))
  exact ⟨vs,vs[i]'(by rw[f.length];exact hi),q,by simp⟩
 yld:=fun i b H1 v H2 x h1 h2 g y e=>by
  obtain ⟨rfl,y⟩:=y
  have q:=y vs (c.same (fun x o z=>h2 x o (h1 x o z)))
  obtain ⟨d,e2,r⟩:=f.get q
  rw[e] at e2
  cases e2
  exact ⟨b,Ext.refl h2,r.same h1⟩
 stop:=fun b H1 h1 h2 g=>⟨vs,c.same (fun x o z=>h2 x o (h1 x o z)),by rw[f.length];exact AG _⟩
theorem aDC{K:Frag}{F B:Hp}{z:Str}(c:z.cps.toList.length<=16777216):Yld K (Its z) F B (z.cps.toList.map fun u=>.str ⟨#[u]⟩) where
 len:=by rw[dO,AB];exact c
 go:=fun i a H1 h1 h2 b hi=>by
  rw[AB,CK] at hi
  exact hi
 yld:=fun i a H1 v H2 x h1 h2 b y e=>by
  obtain ⟨rfl,u,d,rfl⟩:=y
  rw[AH,EO,d] at e
  cases e
  exact ⟨a,Ext.refl h2,.str _⟩
 stop:=fun a H1 h1 h2 b=>by
  show (z.cps.toList.map _).length=z.cps.size
  rw[AB,CK]
section
variable{X:Cx}{c:Ct}{E:XK}{tg e a b:E1}{pos:Pos}
theorem xN{f:Sg->R Dz}(j:X.K=c.K)(h:PD X c E e f):PI0 X c E tg e (e1 cD f):=PI.imp (PI.or (aG2 h) (aG8 h)) fun σ H Q ⟨ρ,F,ab,k⟩=>by
 have b:=Rk.bind k
 cases a:f ρ with
 | bad=>rw[a] at b;exact b.elim
 | ex x=>rw[a] at b;exact .inl ⟨ρ,F,ab,by rw[a];exact b⟩
 | ok d=>
  rw[a] at b
  have k2:=Rk.ok b
  unfold cD at k2
  split at k2
  .rename_i xs
   split at k2
   .rename_i g
    refine .inl ⟨ρ,F,ab,?_⟩
    rw[a]
    intro v i H' s r
    obtain ⟨p,vs,rfl,h1,h2⟩:=DatV.lst_of r
    refine ⟨p,rfl,.inl ⟨⟨vs,?_⟩,?_⟩⟩
    · rw [j]; exact h1.same s.fh
    · rw [j]; exact Rk.ok k2 _ i H' s (aBE (H := H') g (fun H1 q _ => h1.same q) h2)
   .exact k2.elim
  .rename_i xs
   split at k2
   .rename_i g
    refine .inl ⟨ρ,F,ab,?_⟩
    rw[a]
    intro v i H' s r
    obtain ⟨p,vs,rfl,h1,h2⟩:=DatV.tup_of r
    refine ⟨p,rfl,.inr ⟨⟨vs,?_⟩,?_⟩⟩
    · rw [j]; exact h1.same s.fh
    · rw [j]; exact Rk.ok k2 _ i H' s (aDB g h1 h2)
   .exact k2.elim
  .rename_i z
   split at k2
   .rename_i g
    refine .inr ⟨ρ,F,ab,?_⟩
    rw[a]
    intro v i H' s r
    obtain rfl:=DatV.str_of r
    exact ⟨z,rfl,Rk.ok k2 _ i H' s (aDC g)⟩
   .exact k2.elim
  .exact k2.elim
theorem qZ{f:Sg->R Dz}(j:X.K=c.K)(h:PR X c E e f):PIf X c E tg e (e1 cD f):=PI.imp (PI.or (aG2 h) (aG8 h)) fun σ H Q ⟨ρ,F,ab,k⟩=>by
 have b:=Rk.bind k
 cases a:f ρ with
 | bad=>rw[a] at b;exact b.elim
 | ex x=>rw[a] at b;exact .inl ⟨ρ,F,ab,by rw[a];exact b⟩
 | ok d=>
  rw[a] at b
  have k2:=Rk.ok b
  unfold cD at k2
  split at k2
  .rename_i xs
   split at k2
   .rename_i g
    refine .inl ⟨ρ,F,ab,?_⟩
    rw[a]
    intro v i H' s r
    obtain ⟨p,vs,rfl,h1,h2⟩:=bF.lst_of s.fh r
    refine ⟨p,rfl,.inl ⟨⟨vs,?_⟩,?_⟩⟩
    · rw [j]; exact h1
    · rw [j]; exact Rk.ok k2 _ H' i H' s (cM _) (aBE (H := H') g (fun H1 _ q => h1.same q) h2)
   .exact k2.elim
  .rename_i xs
   split at k2
   .rename_i g
    refine .inl ⟨ρ,F,ab,?_⟩
    rw[a]
    intro v i H' s r
    obtain ⟨p,vs,rfl,h1,_,h2⟩:=bF.tup_of s.fh r
    refine ⟨p,rfl,.inr ⟨⟨vs,?_⟩,?_⟩⟩
    · rw [j]; exact h1.same s.fh
    · rw [j]; exact Rk.ok k2 _ H' i H' s (cM _) (aDB g h1 h2)
   .exact k2.elim
  .rename_i z
   split at k2
   .rename_i g
    refine .inr ⟨ρ,F,ab,?_⟩
    rw[a]
    intro v i H' s r
    obtain rfl:=bF.str_of r
    exact ⟨z,rfl,Rk.ok k2 _ H' i H' s (cM _) (aDC g)⟩
   .exact k2.elim
  .exact k2.elim
noncomputable def mV(lo:Int)(n:Nat):List Dz:=(List.range n).map fun i:Nat=>.int (lo+i)
def kL(lo hi:Int):R (List Dz):=if -4611686018427387904<=lo/\lo < 4611686018427387904 /\ -4611686018427387904<=hi/\hi < 4611686018427387904/\hi - lo<=16777216 then .ok (mV lo (hi - lo).toNat) else .bad
def fU(f:Sg->R Dz):Sg->R (List Dz):=fun ρ=>(f ρ).bind fun x=>match x with
 | .int j=>kL 0 j
 | _=>.bad
def aNF(f g:Sg->R Dz):Sg->R (List Dz):=fun ρ=>(f ρ).bind fun x=>(g ρ).bind fun y=>match x,y with
 | .int i,.int j=>kL i j
 | _,_=>.bad
theorem aHL{K:Frag}{F B:Hp}{lo:Int}{n:Nat}(d:n<=16777216):Yld K (Itr lo n) F B (mV lo n) where
 len:=by unfold mV;rw[dO,AB,AU];exact d
 go:=fun i a H1 h1 h2 c hi=>by unfold mV at hi;rw[AB,AU] at hi;exact hi
 yld:=fun i a H1 v H2 x h1 h2 c y e=>by
  obtain ⟨rfl,rfl⟩:=y
  unfold mV at e
  rw[AH] at e
  cases q:(List.range n)[i]? with
  | none=>rw[q] at e;cases e
  | some j=>
   rw[q] at e
   cases e
   obtain ⟨f,b⟩:=AM.mp q
   rw[FZ] at b
   subst b
   exact ⟨a,Ext.refl h2,.int _⟩
 stop:=fun a H1 h1 h2 c=>by show n<=_;unfold mV;rw[AB,AU];exact AG _
theorem iM{f:Sg->R Dz}(h:PI X tg e (aLK (fJ (tV (b9 c) c E f) jL))):PI0 X c E tg e (fU f):=PI.imp h fun σ H Q ⟨ρ,F,ab,k⟩=>by
 refine ⟨ρ,F,ab,(Rk.bind k).imp fun x _ q v b H' s r=>?_⟩
 cases x with
 | int j=>
  have a:Rk c E F H (kL 0 j) _:=q
  unfold kL at a
  split at a
  .rename_i d
   obtain rfl:=bF.int_of r
   refine ⟨j,rfl,by omega,by omega,?_⟩
   have e0:(j - 0).toNat=j.toNat:=by rw[Int.sub_zero]
   rw[<-e0]
   exact Rk.ok a _ b H' s (aHL (by omega))
  .exact a.elim
 | _=>exact q.elim
end
noncomputable def cJ(js:List (O9 Nat))(ρ:Sg):Sg:=js.map fun o=>o.bind fun j=>(ρ[j]?).join
theorem xO{α:Type}{js:List (O9 Nat)}{ρ:List (O9 α)}{i:Nat}{a:α}(h:(js.map fun o=>o.bind fun j=>(ρ[j]?).join)[i]? = some (some a)):∃ j,js[i]? = some (some j)/\ρ[j]? = some (some a):=by
 rw[AH] at h
 cases e:js[i]? with
 | none=>rw[e] at h;cases h
 | some o=>
  rw[e] at h
  have h':(o.bind fun j=>(ρ[j]?).join)=some a:=BU h
  cases o with
  | none=>cases h'
  | some j=>
   have h2:(ρ[j]?).join=some a:=h'
   cases e2:ρ[j]? with
   | none=>rw[e2] at h2;cases h2
   | some o2=>rw[e2] at h2;have:o2=some a:=h2;subst this;exact ⟨j,rfl,e2⟩
theorem xP{α:Type}{js:List (O9 Nat)}{ρ:List (O9 α)}{i j:Nat}{a:α}(h:js[i]? = some (some j))(h2:ρ[j]? = some (some a)):(js.map fun o=>o.bind fun j=>(ρ[j]?).join)[i]? = some (some a):=by
 rw[AH,h]
 show some ((ρ[j]?).join)=_
 rw[h2];rfl
def xQ(js:List (O9 Nat)):Prop:=∀ (i k j:Nat),js[i]? = some (some j)->js[k]? = some (some j)->i=k
theorem vI{js:List (O9 Nat)}(h:js.Pairwise fun a b=>a=none\/a≠b):xQ js:=fun i k j h1 h2=>by
 obtain ⟨d,e1⟩:=AM.mp h1
 obtain ⟨c,e2⟩:=AM.mp h2
 rw[EX] at h
 rcases GE i k with q|q|q
 .rcases h i k d c q with z|z
  · rw [e1] at z; cases z
  · exact absurd (e1.trans e2.symm) z
 .exact q
 .rcases h k i c d q with z|z
  · rw [e2] at z; cases z
  · exact absurd (e2.trans e1.symm) z
theorem Ab.cap{c:Ct}{ρ:Sg}{σ f:L2.St}{F H:Hp}{js:List (O9 Nat)}(b:Ab c ρ σ F H)(s:xQ js)(k:dP (kY js σ) f):Ab c (cJ js ρ) f F H where
 len:=by rw[k.1];unfold cJ kY;rw[AB,AB]
 fh:=b.fh
 slot:=fun i a h=>by
  obtain ⟨j,h1,h2⟩:=xO h
  obtain ⟨v,l,r⟩:=b.slot j a h2
  exact ⟨v,k.2 i v (xP h1 l),r⟩
 apart:=fun i q a p m h h' o o'=>by
  obtain ⟨j,h1,h2⟩:=xO h
  obtain ⟨n,e,d⟩:=xO h'
  have t:j≠n:=fun z=>m (s i q j h1 (by rw[e,z]))
  obtain ⟨v,l,_⟩:=b.slot j a h2
  obtain ⟨u,g,_⟩:=b.slot n p d
  rw[k.2 i v (xP h1 l),k.2 q u (xP e g),<-l,<-g]
  exact b.apart j n a p t h2 d o o'
 f0:=b.f0
 h0:=b.h0
 n0:=b.n0
 t0:=b.t0
noncomputable def R.noEx{α:Type}:R α->R α
 | .ex _=>.bad
 | r=>r
@[simp] theorem R.noEx_ok{α:Type}(a:α):(R.ok a).noEx=.ok a:=id rfl
noncomputable def nY{α:Type}:O9 α->R α
 | some a=>.ok a
 | none=>.bad
@[simp] theorem zG{α:Type}(a:α):nY (some a)=.ok a:=id rfl
noncomputable def compL(fs:Dz->Sg->O9 Sg)(ft:Sg->R Bool)(fe:Sg->R Dz)(ρ0:Sg):List Dz->R (List Dz)
 | []=>.ok []
 | x::t=>(nY (fs x ρ0)).bind fun ρ1=>(ft ρ1).noEx.bind fun b=>if b=true then (fe ρ1).noEx.bind fun y=>(compL fs ft fe ρ0 t).bind fun ys=>.ok (y::ys) else compL fs ft fe ρ0 t
theorem pL{fs:Dz->Sg->O9 Sg}{a:Sg->R Bool}{fe:Sg->R Dz}{ρ0:Sg}{e:Er}:∀ {xs:List Dz},compL fs a fe ρ0 xs≠.ex e
 | []=>fun h=>by cases h
 | x::t=>fun h=>by
  unfold compL at h
  cases h1:fs x ρ0 with
  | none=>rw[h1] at h;cases h
  | some ρ1=>
   rw[h1] at h
   have h:((a ρ1).noEx.bind fun b=>if b=true then (fe ρ1).noEx.bind fun y=>(compL fs a fe ρ0 t).bind fun ys=>.ok (y::ys) else compL fs a fe ρ0 t)=.ex e:=h
   cases h2:a ρ1 with
   | bad=>rw[h2] at h;cases h
   | ex _=>rw[h2] at h;cases h
   | ok b=>
    rw[h2] at h
    have h:(if b=true then (fe ρ1).noEx.bind fun y=>(compL fs a fe ρ0 t).bind fun ys=>.ok (y::ys) else compL fs a fe ρ0 t)=.ex e:=h
    cases b with
    | false=>exact pL (xs:=t) h
    | true=>
     have h:((fe ρ1).noEx.bind fun y=>(compL fs a fe ρ0 t).bind fun ys=>.ok (y::ys))=.ex e:=h
     cases d:fe ρ1 with
     | bad=>rw[d] at h;cases h
     | ex _=>rw[d] at h;cases h
     | ok y=>
      rw[d] at h
      have h:((compL fs a fe ρ0 t).bind fun ys=>.ok (y::ys))=.ex e:=h
      cases c:compL fs a fe ρ0 t with
      | bad=>rw[c] at h;cases h
      | ex e'=>exact pL (xs:=t) (e:=e') c
      | ok ys=>rw[c] at h;cases h
theorem aFA{fs:Dz->Sg->O9 Sg}{a:Sg->R Bool}{fe:Sg->R Dz}{ρ0:Sg}{x:Dz}{t ys:List Dz}(h:compL fs a fe ρ0 (x::t)=.ok ys) :
  ∃ ρ1 b,fs x ρ0=some ρ1/\a ρ1=.ok b/\((b=true/\∃ y zs,fe ρ1=.ok y/\compL fs a fe ρ0 t=.ok zs/\ys=y::zs)\/(b=false/\compL fs a fe ρ0 t=.ok ys)):=by
 unfold compL at h
 cases h1:fs x ρ0 with
 | none=>rw[h1] at h;cases h
 | some ρ1=>
  rw[h1] at h
  have h:((a ρ1).noEx.bind fun b=>if b=true then (fe ρ1).noEx.bind fun y=>(compL fs a fe ρ0 t).bind fun ys=>.ok (y::ys) else compL fs a fe ρ0 t)=.ok ys:=h
  cases h2:a ρ1 with
  | bad=>rw[h2] at h;cases h
  | ex _=>rw[h2] at h;cases h
  | ok b=>
   rw[h2] at h
   have h:(if b=true then (fe ρ1).noEx.bind fun y=>(compL fs a fe ρ0 t).bind fun ys=>.ok (y::ys) else compL fs a fe ρ0 t)=.ok ys:=h
   refine ⟨ρ1,b,rfl,h2,?_⟩
   cases b with
   | false=>exact .inr ⟨rfl,h⟩
   | true=>
    refine .inl ⟨rfl,?_⟩
    have h:((fe ρ1).noEx.bind fun y=>(compL fs a fe ρ0 t).bind fun ys=>.ok (y::ys))=.ok ys:=h
    cases d:fe ρ1 with
    | bad=>rw[d] at h;cases h
    | ex _=>rw[d] at h;cases h
    | ok y=>
     rw[d] at h
     have h:((compL fs a fe ρ0 t).bind fun ys=>.ok (y::ys))=.ok ys:=h
     cases c:compL fs a fe ρ0 t with
     | bad=>rw[c] at h;cases h
     | ex e'=>rw[c] at h;cases h
     | ok zs=>rw[c] at h;cases h;exact ⟨y,zs,rfl,rfl,rfl⟩
def f7(js:List (O9 Nat))(fi:Sg->R (List Dz))(fs:Dz->Sg->O9 Sg)(ft:Sg->R Bool)(fe:Sg->R Dz):Sg->R (List Dz):=fun ρ=>(fi ρ).bind fun xs=>compL fs ft fe (cJ js ρ) xs
noncomputable def fX:Sg->R Bool:=fun _=>.ok true
section
variable{X:Cx}{c:Ct}{E:XK}{e a b:E1}{pos:Pos}
theorem eM:L2.PIf X [] (tTf c E fX):=fun pins s σ H Q I ⟨ρ,F,ab,k⟩=>L2.eM pins s σ H Q I (Rk.ok k F H (Ext.refl ab.fh))
theorem aJ0{js:List (O9 Nat)}{is:List Nat}{σ a b:L2.St}(k:dP (kY js σ) a)(c:b.length=a.length)(h:∀ j:Nat,j∉is->b[j]? = a[j]?)(hi:∀ i∈is,js[i]? = some none):dP (kY js σ) b:=
 ⟨c.trans k.1,fun i v e=>by
  by_cases q:i∈is
  .unfold kY at e
   rw[AH,hi i q] at e
   cases e
  .rw[h i q];exact k.2 i v e⟩
theorem zH{N:List Str}{js:List (O9 Nat)}{scope:Scope}{tg x:E1}{m:List E1}{Z:Sg->R (List Dz)}{fs:Dz->Sg->O9 Sg}{A:Sg->R Bool}{fe:Sg->R Dz}{is:List Nat}(ho:xQ js)(hi:∀ i∈is,js[i]? = some none)
  (hb:∀ (cl:List (Str×Az)) (C:Az) (s:S9) (H0:Hp) (fp:List Az),∃ g,PG (gX X N scope cl C s H0 fp) tg g/\Tg c g fs is/\L2.PIf (gX X N scope cl C s H0 fp) m (tTf c E0 A)/\PD (gX X N scope cl C s H0 fp) c E0 x fe)
  {σ:L2.St} {H:Hp} {Q:VK} (h:tV (xJ c) c E (f7 js Z fs A fe) σ H Q):uX X N scope js tg x m (tI c E Z) σ H Q:=by
 obtain ⟨ρ,F,ab,k⟩:=h
 refine ⟨ρ,F,ab,(Rk.bind k).imp fun xs _ q J B F1 H1 s1 W G=>?_⟩
 cases D:compL fs A fe (cJ js ρ) xs with
 | bad=>rw[D] at q;exact q.elim
 | ex e=>exact absurd D pL
 | ok ys=>
  rw[D] at q
  refine aMR (n:=xs.length) (fun i b H'=>∃ F',Ext F1 H1 F' H'/\b.length<=i/\∃ zs rest,DatVs c.K F' b zs/\compL fs A fe (cJ js ρ) (xs.drop i)=.ok rest/\zs++rest=ys) G.len ⟨F1,Ext.refl s1.fh,AG _,[],ys,.nil,D,rfl⟩ ?_ ?_ ?_ ?_ ?_
  .rintro i b H' _ ⟨F',_,h,_⟩;exact h
  .rintro i b H' d ⟨F',e1,_⟩
   exact G.go i F' H' e1.ff e1.fh (fun a o z=>e1.hh a o (W a o z)) d
  .rintro b H' ⟨F',e1,_⟩
   exact G.stop F' H' e1.ff e1.fh (fun a o z=>e1.hh a o (W a o z))
  .rintro i v b Ha Hb d ⟨F',e1,hlen,zs,rest,hd,hr,hz⟩ hy
   obtain ⟨O,e2,rx⟩:=G.yld i F' Ha v Hb xs[i] e1.ff e1.fh (fun a o z=>e1.hh a o (W a o z)) hy (AJ d)
   have U:xs.drop i=xs[i]::xs.drop (i+1):=GG d
   rw[U] at hr
   obtain ⟨j,bb,hs,ht,l⟩:=aFA hr
   intro cl C s H0 fp
   obtain ⟨g,hg,M,T,he⟩:=hb cl C s H0 fp
   refine ⟨g,_,_,hg,T,he,fun t k0=>?_⟩
   have P:Ab c (cJ js ρ) t O Hb:=(ab.ext (s1.trans (e1.trans e2))).cap ho k0
   refine M v xs[i] _ j t O Hb _ P rx hs fun σ1 L I r=>⟨aJ0 k0 L I hi,j,O,r,?_⟩
   rw[ht]
   intro Y H3 u
   rcases l with ⟨rfl,y,ws,V,f,rfl⟩|⟨rfl,f⟩
   .refine xA ⟨j,Y,r.ext u,?_⟩
    rw[V]
    intro w F4 H4 e4 S
    refine ⟨F4,e1.trans (e2.trans (u.trans e4)),by rw[AK,A7];omega,zs++[y],ws,(hd.same (e2.trans (u.trans e4)).ff).append (.cons S .nil),f,by rw[EM];exact hz⟩
   .exact w9 ⟨Y,e1.trans (e2.trans u),by omega,zs,rest,hd.same (e2.trans u).ff,f,hz⟩
  .rintro b H' ⟨F',e1,_,zs,rest,hd,hr,hz⟩ p hp
   rw[ER] at hr
   cases hr
   rw[CH] at hz
   subst hz
   exact Rk.ok q (.ref p) F' _ (s1.trans (e1.trans (Ext.own e1.fh hp))) ⟨p,b,rfl,bZ (s1.trans e1).hh hp,aX,bZ e1.fh hp,hd⟩
theorem kB{N:List Str}{js:List (O9 Nat)}{scope:Scope}{tg d:E1}{f:List E1}{j:Sg->R (List Dz)}{fs:Dz->Sg->O9 Sg}{k:Sg->R Bool}{fe:Sg->R Dz}{is:List Nat}(h:PE X e (uX X N scope js tg d f (tI c E j)))(m:js.Pairwise fun a b=>a=none\/a≠b)(hi:∀ i∈is,js[i]? = some none)
 (l:∀ (cl:List (Str×Az)) (C:Az) (s:S9) (H0:Hp) (fp:List Az),∃ g,PG (gX X N scope cl C s H0 fp) tg g/\Tg c g fs is/\L2.PIf (gX X N scope cl C s H0 fp) f (tTf c E0 k)/\PD (gX X N scope cl C s H0 fp) c E0 d fe) :
 PN X c E e (f7 js j fs k fe):=PE.imp h fun σ H Q q=>zH (vI m) hi l q
theorem oJ{i:Nat}{st:Stmt}{N:List Str}{js:List (O9 Nat)}{scope:Scope}{tg d:E1}{e:List E1}{f:Sg->R (List Dz)}{fs:Dz->Sg->O9 Sg}{j:Sg->R Bool}{fe:Sg->R Dz}{is:List Nat}(h:PS X st (lT (uX X N scope js tg d e (tI c E f)) (kE i)))(l:js.Pairwise fun a b=>a=none\/a≠b)(hi:∀ i∈is,js[i]? = some none)
 (k:∀ (cl:List (Str×Az)) (C:Az) (s:S9) (H0:Hp) (fp:List Az),∃ g,PG (gX X N scope cl C s H0 fp) tg g/\Tg c g fs is/\L2.PIf (gX X N scope cl C s H0 fp) e (tTf c E0 j)/\PD (gX X N scope cl C s H0 fp) c E0 d fe) :
 PSf X c E st (fB i (f7 js f fs j fe)):=iL (PS.imp h fun D σ H q=>zH (vI l) hi k q)
end
noncomputable def jN(fs:Dz->Sg->O9 Sg)(fb:Sg->R Fw):List Dz->Sg->R Fw
 | [],ρ=>.ok (.nx ρ)
 | x::t,ρ=>(nY (fs x ρ)).bind fun ρ1=>(fb ρ1).bind fun w=>match w with
  | .nx ρ2=>jN fs fb t ρ2
  | .ct ρ2=>jN fs fb t ρ2
  | .bk ρ2=>.ok (.nx ρ2)
  | .rt a=>.ok (.rt a)
def jY(fi:Sg->R (List Dz))(fs:Dz->Sg->O9 Sg)(fb:Sg->R Fw):Sg->R Fw:=fun ρ=>(fi ρ).bind fun xs=>jN fs fb xs ρ
section
variable{X:Cx}{c:Ct}{E:XK}{e a b:E1}{pos:Pos}{st:Stmt}
theorem dA{g:TG}{C:Sg->R (List Dz)}{fs:Dz->Sg->O9 Sg}{is:List Nat}{fb:Sg->R Fw}(I:Tg c g fs is)(h:PS X st (aPY (tI0 c E C) g (tSf c E fb))):PSf X c E st (jY C fs fb):=PS.imp h fun D σ H B=>by
 obtain ⟨ρ,F,ab,k⟩:=B
 refine ⟨ρ,F,ab,(Rk.bind k).imp fun xs _ q J x H1 s1 A=>?_⟩
 refine ⟨fun i m σ H=>m=xs.length - i/\i<=xs.length/\∃ ρ' b,aN x b/\Ab c ρ' σ b H/\Rk c E b H (jN fs fb (xs.drop i) ρ') (jM c F D),⟨xs.length,by simp,CO _,ρ,x,cM _,ab.ext s1,Rk.ext s1 q⟩,?_⟩
 rintro i m l H2 ⟨rfl,hi,ρ2,F2,s2,ab2,k2⟩
 by_cases j:i < xs.length
 .refine .inr ⟨A.go i F2 H2 s2 ab2.fh qY j,fun d H'=>∃ ρ' b,aN x b/\Ab c ρ' d b H'/\Rk c E b H' (jN fs fb (xs.drop (i+1)) ρ') (jM c F D),fun d H' w=>⟨xs.length - (i+1),by omega,rfl,j,w⟩,fun v H3 y=>?_⟩
  obtain ⟨s,p,L⟩:=A.yld i F2 H2 v H3 xs[i] s2 ab2.fh qY y (AJ j)
  have t:xs.drop i=xs[i]::xs.drop (i+1):=GG j
  rw[t] at k2
  unfold jN at k2
  cases h1:fs xs[i] ρ2 with
  | none=>rw[h1] at k2;exact k2.elim
  | some ρ3=>
   rw[h1] at k2
   refine I v xs[i] ρ2 ρ3 l s H3 _ (ab2.ext p) L h1 fun G _ _ u=>⟨ρ3,s,u,?_⟩
   have k3:Rk c E F2 H2 (fb ρ3) _:=Rk.bind k2
   cases h2:fb ρ3 with
   | bad=>rw[h2] at k3;exact k3.elim
   | ex e=>rw[h2] at k3;exact k3
   | ok w=>
    rw[h2] at k3
    have n:=Rk.ok k3
    have K:aN F s:=fun a o z=>p.ff a o (s2 a o (s1.ff a o z))
    cases w with
    | nx ρ4=>exact fun d b H' s' f=>⟨ρ4,b,fun a o z=>s' a o (p.ff a o (s2 a o z)),f,n⟩
    | ct ρ4=>exact fun d b H' s' f=>⟨ρ4,b,fun a o z=>s' a o (p.ff a o (s2 a o z)),f,n⟩
    | bk ρ4=>exact fun d b H' s' f=>Rk.ok n d b H' (fun a o z=>s' a o (K a o z)) f
    | rt a=>exact fun v b H' z r=>Rk.ok n v b H' z r
 .have e:i=xs.length:=by omega
  subst e
  rw[ER] at k2
  exact .inl ⟨A.stop F2 H2 s2 ab2.fh qY,Rk.ok k2 l F2 H2 (fun a o z=>s2 a o (s1.ff a o z)) ab2⟩
end
noncomputable def cX(t:Sg->R Bool)(b:Sg->R Fw):Nat->Sg->R Fw
 | 0,_=>.bad
 | n+1,ρ=>(t ρ).bind fun k=>if k=true then (b ρ).bind fun w=>match w with
   | .nx ρ'=>cX t b n ρ'
   | .ct ρ'=>cX t b n ρ'
   | .bk ρ'=>.ok (.nx ρ')
   | .rt a=>.ok (.rt a)
  else .ok (.nx ρ)
open Classical in
noncomputable def b7(t:Sg->R Bool)(b:Sg->R Fw):Sg->R Fw:=fun ρ=>if h:∃ n,cX t b n ρ≠.bad then cX t b h.choose ρ else .bad
theorem R.bind_mono{α β:Type}{r:R α}{f g:α->R β}(h:r.bind f≠.bad)(b:∀ a,f a≠.bad->g a=f a):r.bind g=r.bind f:=by
 cases r with
 | bad=>rfl
 | ex e=>rfl
 | ok a=>exact b a h
theorem lK{t:Sg->R Bool}{b:Sg->R Fw}:∀ {n m:Nat} {ρ:Sg},n<=m->cX t b n ρ≠.bad->cX t b m ρ=cX t b n ρ
 | 0,_,_,_,h=>absurd rfl h
 | n+1,0,_,hm,_=>absurd hm (by omega)
 | n+1,m+1,ρ,hm,h=>by
  unfold cX at h ⊢
  refine R.bind_mono h fun k hk=>?_
  cases k with
  | false=>rfl
  | true=>
   refine R.bind_mono (r:=b ρ) hk fun w c=>?_
   cases w with
   | nx ρ'=>exact lK (by omega) c
   | ct ρ'=>exact lK (by omega) c
   | bk ρ'=>rfl
   | rt a=>rfl
theorem q9{t:Sg->R Bool}{b:Sg->R Fw}{ρ:Sg}{n:Nat}(h:cX t b n ρ≠.bad):b7 t b ρ=cX t b n ρ:=by
 have a:∃ n,cX t b n ρ≠.bad:=⟨n,h⟩
 unfold b7
 rw[dif_pos a]
 have c:=a.choose_spec
 rcases Nat.le_total n a.choose with q|q
 · exact lK q h
 · exact (lK q c).symm
theorem rA (t : Sg -> R Bool) (b : Sg -> R Fw) (ρ : Sg) : b7 t b ρ = (t ρ).bind fun k => if k = true then (b ρ).bind fun w => match w with
      | .nx ρ' => b7 t b ρ'
      | .ct ρ' => b7 t b ρ'
      | .bk ρ' => .ok (.nx ρ')
      | .rt a => .ok (.rt a)
    else .ok (.nx ρ) := by
  have l : ∀ n, (∀ k, t ρ = .ok k -> k = true -> ∀ w, b ρ = .ok w -> ∀ ρ', (w = .nx ρ' \/ w = .ct ρ') -> b7 t b ρ' = cX t b n ρ') -> cX t b (n + 1) ρ = (t ρ).bind fun k => if k = true then (b ρ).bind fun w => match w with
      | .nx ρ' => b7 t b ρ'
      | .ct ρ' => b7 t b ρ'
      | .bk ρ' => .ok (.nx ρ')
      | .rt a => .ok (.rt a)
    else .ok (.nx ρ) := by
    intro n h
    unfold cX
    cases d : t ρ with
    | bad => rfl
    | ex e => rfl
    | ok k =>
      cases k with
      | false => rfl
      | true =>
        show ((b ρ).bind _) = ((b ρ).bind _)
        cases f : b ρ with
        | bad => rfl
        | ex e => rfl
        | ok w =>
          cases w with
          | nx ρ' => exact (h true d rfl _ f ρ' (.inl rfl)).symm
          | ct ρ' => exact (h true d rfl _ f ρ' (.inr rfl)).symm
          | bk ρ' => rfl
          | rt a => rfl
  by_cases j : ∃ n, cX t b n ρ ≠ .bad
  · obtain ⟨n, i⟩ := j
    cases n with
    | zero => exact absurd rfl i
    | succ n =>
      rw [q9 i]
      refine l n fun k d o w f ρ' m => ?_
      subst o
      refine q9 fun z => i ?_
      unfold cX
      rw [d]
      show ((b ρ).bind _) = _
      rw [f]
      rcases m with rfl | rfl
      · exact z
      · exact z
  · have p : b7 t b ρ = .bad := by unfold b7; rw [dif_neg j]
    rw [p]
    have c : ∀ n, cX t b n ρ = .bad := fun n => EY fun z => j ⟨n, z⟩
    cases d : t ρ with
    | bad => rfl
    | ex e => have := c 1; unfold cX at this; rw [d] at this; cases this
    | ok k =>
      cases k with
      | false => have := c 1; unfold cX at this; rw [d] at this; cases this
      | true =>
        show R.bad = ((b ρ).bind _)
        cases f : b ρ with
        | bad => rfl
        | ex e => have := c 1; unfold cX at this; rw [d] at this; change ((b ρ).bind _) = _ at this; rw [f] at this; cases this
        | ok w =>
          have g : ∀ ρ', (w = .nx ρ' \/ w = .ct ρ') -> b7 t b ρ' = .bad := fun ρ' m => by
            unfold b7
            rw [dif_neg]
            rintro ⟨n, i⟩
            refine i ?_
            have := c (n + 1)
            unfold cX at this
            rw [d] at this
            change ((b ρ).bind _) = _ at this
            rw [f] at this
            rcases m with rfl | rfl <;> exact this
          cases w with
          | nx ρ' => exact (g ρ' (.inl rfl)).symm
          | ct ρ' => exact (g ρ' (.inr rfl)).symm
          | bk ρ' => have := c 1; unfold cX at this; rw [d] at this; change ((b ρ).bind _) = _ at this; rw [f] at this; cases this
          | rt a => have := c 1; unfold cX at this; rw [d] at this; change ((b ρ).bind _) = _ at this; rw [f] at this; cases this
section
variable{X:Cx}{c:Ct}{E:XK}{st:Stmt}
theorem dX{t:Sg->R Bool}{fb:Sg->R Fw}(h:PS X st (aGK (tTf c E t) (tSf c E fb))):PSf X c E st (b7 t fb):=PS.imp h fun D σ H s=>by
 obtain ⟨ρ,F,ab,k⟩:=s
 have y:∃ n,cX t fb n ρ≠.bad:=EY fun z=>by
  have:b7 t fb ρ=.bad:=by unfold b7;rw[dif_neg z]
  rw[this] at k
  exact k
 obtain ⟨n,A⟩:=y
 rw[q9 A] at k
 refine ⟨fun m σ H=>∃ ρ' d,aN F d/\Ab c ρ' σ d H/\Rk c E d H (cX t fb m ρ') (jM c F D),⟨n,ρ,F,cM F,ab,k⟩,?_⟩
 rintro m p H1 ⟨ρ1,F1,s1,ab1,k1⟩
 cases m with
 | zero=>exact k1.elim
 | succ m=>
  unfold cX at k1
  refine ⟨ρ1,F1,ab1,(Rk.bind k1).imp fun b _ q u H2 e2=>?_⟩
  have j:=ab1.ext e2
  cases b with
  | false=>exact w9 (Rk.ok q p u H2 (fun a o z=>e2.ff a o (s1 a o z)) j)
  | true=>
   refine xA ⟨fun f H'=>∃ ρ' d,aN F d/\Ab c ρ' f d H'/\Rk c E d H' (cX t fb m ρ') (jM c F D),fun f H' w=>⟨m,by omega,w⟩,ρ1,u,j,?_⟩
   have i:Rk c E F1 H1 (fb ρ1) _:=Rk.bind (r:=fb ρ1) q
   cases h2:fb ρ1 with
   | bad=>rw[h2] at i;exact i.elim
   | ex e=>rw[h2] at i;exact i
   | ok w=>
    rw[h2] at i
    have l:=Rk.ok i
    have x:aN F u:=fun a o z=>e2.ff a o (s1 a o z)
    cases w with
    | nx ρ4=>exact fun f d H' s' g=>⟨ρ4,d,fun a o z=>s' a o (x a o z),g,l⟩
    | ct ρ4=>exact fun f d H' s' g=>⟨ρ4,d,fun a o z=>s' a o (x a o z),g,l⟩
    | bk ρ4=>exact fun f d H' s' g=>Rk.ok l f d H' (fun a o z=>s' a o (x a o z)) g
    | rt a=>exact fun v d H' z r=>Rk.ok l v d H' z r
end
def spG(K:Frag)(mg:Str->O9 V9)(T F1:Hp)(n:Nat)(G:List Dz->R Dz):Sp:=fun vs H Q E=>∃ F ds,aN F1 F/\aN T F/\aN F H/\DatVs K F vs ds/\ds.length=n/\match G ds with
 | .bad=>False
 | .ok d=>∀ v F' H',Ext F H F' H'->DatV K F' v d->Q v H'
 | .ex e=>∀ a C F' H',Ext F H F' H'->k6 K mg F' e a C->E (.ref C) (some a) H'
def Beh(P:P9)(w:W9)(K:Frag)(mg:Str->O9 V9)(base:H9)(T:Hp)(f:Az)(F1:Hp)(k n:Nat)(G:List Dz->R Dz):Prop:=
 ∃ fd ps,ps.length=n/\fA K fd ps []/\FnOk P w K mg base (CXe P w) k f fd ps (spG K mg T F1 n G)/\(PySem.W.keepIn K (.ref f)=true\/∃ oc od fd' sl,F1 f=some (FnO f ⟨oc,od,.func fd',sl⟩))
def gOf(P:P9)(w:W9)(K:Frag)(mg:Str->O9 V9)(base:H9)(T:Hp):Gb:=⟨Beh P w K mg base T,T,w⟩
def spF(g:Gb)(K:Frag)(mg:Str->O9 V9)(n:Nat)(G:List A->R A):Sp:=fun vs H Q E=>∃ F as,aN g.T F/\aN F H/\AFs g K mg F as vs/\as.length=n/\match G as with
 | .bad=>False
 | .ok a=>∀ v F' H',Ext F H F' H'->AF g K mg F' a v->Q v H'
 | .ex e=>∀ a C F' H',Ext F H F' H'->k6 K mg F' e a C->E (.ref C) (some a) H'
def a8(P:P9)(w:W9)(K:Frag)(mg:Str->O9 V9)(base:H9)(T:Hp)(k:Nat)(x:Str)(ps:List Str)(G:List A->R A):Prop:=Calls P w K mg base (CXe P w) k x ps (spF (gOf P w K mg base T) K mg ps.length G)
def bM(n:Nat)(G:List A->R A)(f:Sg->R (List A)):Sg->R A:=fun ρ=>(f ρ).bind fun as=>if as.length=n then G as else .bad
theorem bX{X:Cx}{c:Ct}{E:XK}{e:E1}{n:Nat}{G:List A->R A}{g:Gb}{K:Frag}{mg:Str->O9 V9}{f:Sg->R (List A)}(p:g=c.g)(t:K=c.K)(u:mg=c.mg)(h:PE X e (uT (spF g K mg n G) [] E (tAv c E f))):PV X c E e (bM n G f):=PE.imp h fun σ H Q b=>by
 obtain ⟨ρ,F,ab,k⟩:=b
 subst p t u
 refine ⟨ρ,F,ab,(Rk.bind k).imp fun d _ q vs m H1 s1 r1=>?_⟩
 by_cases i:d.length=n
 .rw[AD i] at q
  refine ⟨m,d,fun a o z=>s1.ff a o (ab.f0 a o (ab.t0 a o z)),s1.fh,by rw[CH];exact r1,i,?_⟩
  cases j:G d with
  | bad=>rw[j] at q;exact q
  | ok a=>rw[j] at q;exact fun v l H' s r=>Rk.ok q v l H' (s1.trans s) r
  | ex e=>rw[j] at q;exact fun a C l H' s r=>q a C l H' ((ab.all.trans s1).trans s) r
 .rw[AC i] at q;exact q.elim
def fnF(n:Nat)(fb:Sg->R Fw):List A->R A:=fun as=>(fb (as.map some++List.replicate (n - as.length) none)).bind fun w=>match w with
 | .rt (.l _)=>.bad
 | .rt a=>.ok a
 | .nx _=>.ok (.d .none)
 | _=>.bad
theorem AFs.get{g:Gb}{K:Frag}{mg:Str->O9 V9}{F:Hp}:∀ {as:List A} {vs:List V} {i:Nat} {a:A},AFs g K mg F as vs->as[i]? = some a->∃ v,vs[i]? = some v/\AF g K mg F a v
 | [],[],_,_,_,h=>by simp at h
 | a::as,v::vs,0,_,h,e=>by simp at e;subst e;exact ⟨v,rfl,h.1⟩
 | a::as,v::vs,i+1,_,h,e=>by
  obtain ⟨w,h1,h2⟩:=AFs.get (i:=i) h.2 (by simpa using e)
  exact ⟨w,by simpa using h1,h2⟩
theorem rB{α:Type}{c:List α}{n i:Nat}{a:α}(h:(c.map some++List.replicate n none)[i]? = some (some a)):c[i]? = some a:=by
 by_cases hi:i < c.length
 .rw[BK (by rw[AB];exact hi),AH] at h
  cases e:c[i]? with
  | none=>rw[e] at h;cases h
  | some b=>rw[e] at h;cases h;rfl
 .rw[BS (by rw[AB];omega),ED] at h
  split at h
  · cases h
  · cases h
theorem aBF{g:Gb}{c:List (Str×Az)}{cls:Str->O9 ClSt}{K:Frag}{mg:Str->O9 V9}{w:W9}{F H:Hp}{d:List A}{vs:List V}{n:Nat}(f:aN g.T F)(s:aN F H)(h:AFs g K mg F d vs):Ab ⟨K,mg,w,F,H,g,c,cls⟩ (d.map some++List.replicate (n - d.length) none) (vs.map some++List.replicate (n - vs.length) none) F H where
 len:=by rw[AK,AK,AB,AB,CC,CC,h.len]
 fh:=s
 slot:=fun i a e=>by
  obtain ⟨v,h1,h2⟩:=h.get (rB e)
  refine ⟨v,?_,AO.of h2⟩
  have hi:i < vs.length:=(AM.mp h1).1
  rw[BK (by rw[AB];exact hi),AH,h1];rfl
 apart:=fun i j a b _ e1 _ o _=>by
  obtain ⟨v,h1,h2⟩:=h.get (rB e1)
  rw[AF.notOwn h2] at o
  cases o
 f0:=cM F
 h0:=cM H
 n0:=fun a e n=>absurd e n
 t0:=f
theorem oK{g:Gb}{c:List (Str×Az)}{cls:Str->O9 ClSt}{K:Frag}{mg:Str->O9 V9}{w:W9}{n:Nat}{fb:Sg->R Fw}{vs:List V}{d:List A}{F H:Hp}{Q:VK}{E:XK}(h0:aN g.T F)(h1:aN F H)(h2:AFs g K mg F d vs)(b:match fnF n fb d with
 | .bad=>False
 | .ok a=>∀ v F' H',Ext F H F' H'->AF g K mg F' a v->Q v H'
 | .ex e=>∀ a C F' H',Ext F H F' H'->k6 K mg F' e a C->E (.ref C) (some a) H'):tSf ⟨K,mg,w,F,H,g,c,cls⟩ E fb {nx:=fun _ H'=>Q .non H',rt:=Q} (vs.map some++List.replicate (n - vs.length) none) H:=by
 refine ⟨_,F,aBF h0 h1 h2,?_⟩
 unfold fnF at b
 cases e:fb (d.map some++List.replicate (n - d.length) none) with
 | bad=>rw[e] at b;exact b
 | ex x=>rw[e] at b;exact b
 | ok w=>
  rw[e] at b
  cases w with
  | nx ρ'=>exact fun f F' H' s ab=>b .non F' H' ab.all .non
  | rt a=>
   cases a with
   | l xs=>exact b.elim
   | _=>exact b
  | bk ρ'=>exact b.elim
  | ct ρ'=>exact b.elim
section
variable{P:P9}{w:W9}{K:Frag}{mg:Str->O9 V9}{base:H9}{T:Hp}{x:Str}{st:Stmt}{N ps:List Str}{k:Nat}
theorem dF{fb:Sg->R Fw}(D:DefAt K mg x st ps)(S:FnScope N ps (aK st))
  (a:∀ (f:Az) (cdv:V9) (A:U9) (outer:List Env) (s:S9) (H F:Hp) (E:XK),Room k (A.deeper (envOfC x (aK st) s.heap.objs.size f cdv))->
   kJ ((iS (CXe P w) P w K mg base N x (aK st) f cdv A outer s H E).fly E) ⟨K,mg,w,F,H,gOf P w K mg base T,(envOfC x (aK st) s.heap.objs.size f cdv).cells,fun _=>none⟩ E (cG st) fb):a8 P w K mg base T (k+1) x ps (fnF N.length fb):=by
 refine D.okX S (fun vs H Q E h=>?_) (fun f cdv A outer s H vs Q E g h=>?_)
 .obtain ⟨F,d,_,_,h2,b,_⟩:=h
  rw[h2.len,b]
 .obtain ⟨F,d,e,h1,h2,b,c⟩:=h
  exact ⟨_,a f cdv A outer s H F E g,oK e h1 h2 c⟩
theorem a8.imp{G b:List A->R A}(C:a8 P w K mg base T k x ps G)(h:∀ as,b as≠.bad->G as=b as):a8 P w K mg base T k x ps b:=Calls.imp C fun vs H Q E=>by
 rintro ⟨F,as,h0,h1,h2,h3,h4⟩
 refine ⟨F,as,h0,h1,h2,h3,?_⟩
 cases e:b as with
 | bad=>rw[e] at h4;exact h4.elim
 | ok a=>rw[h as (by rw[e];exact fun z=>nomatch z),e];rw[e] at h4;exact h4
 | ex x=>rw[h as (by rw[e];exact fun z=>nomatch z),e];rw[e] at h4;exact h4
end
def vJ(cn:Str)(fs:List Str)(f:Sg->R (List Dz)):Sg->R Fw:=fun ρ=>(f ρ).bind fun xs=>if xs.length=fs.length then .ex ⟨cn,fs.zip xs⟩ else .bad
theorem xR{α β:Type}:∀ {xs:List α} {ys:List β},ys.length=xs.length->(xs.zip ys).map (·.1)=xs
 | [],_,_=>by simp
 | x::xs,[],h=>by simp at h
 | x::xs,y::ys,h=>by simp at h;simp[xR h]
theorem xS{α β:Type}:∀ {xs:List α} {ys:List β},ys.length=xs.length->(xs.zip ys).map (·.2)=ys
 | [],[],_=>by simp
 | [],_::_,h=>by simp at h
 | x::xs,[],h=>by simp at h
 | x::xs,y::ys,h=>by simp at h;simp[xS h]
theorem tS{X:Cx}{c:Ct}{E:XK}{st:Stmt}{cn:Str}{C:Az}{fs:List Str}{f:Sg->R (List Dz)}(o:c.mg cn=some (.ref C))(n:fs.length<=1000)(h:PS X st (aAW C (spI C fs) E (tAd c E f))):PSf X c E st (vJ cn fs f):=PS.imp h fun D σ H l=>by
 obtain ⟨ρ,F,ab,k⟩:=l
 refine ⟨ρ,F,ab,(Rk.bind k).imp fun xs _ q vs j H1 s1 r1=>?_⟩
 by_cases b:xs.length=fs.length
 .rw[AD b] at q
  have g:vs.length=fs.length:=by rw[r1.length,b]
  refine aEU g (by rw[g];exact n) fun e d p r a=>?_
  have i:Ext j H1 (upd j e (ExO e C (some d))) (upd H1 e (ExO e C (some d))):=Ext.new s1.fh p
  have m:Ext _ _ (upd (upd j e (ExO e C (some d))) d (.xd (fs.zip vs))) (upd (upd H1 e (ExO e C (some d))) d (.xd (fs.zip vs))):=Ext.new i.fh (by rw[aJ a];exact r)
  refine q e C _ _ ((ab.all.trans s1).trans (i.trans m)) ⟨o,some d,?_,.inr ⟨d,fs.zip vs,rfl,aX,?_,?_⟩⟩
  .rw[aJ (BZ a),aX]
  .show _=(fs.zip xs).map (·.1)
   rw[xR g,xR b]
  .show DatVs _ _ _ ((fs.zip xs).map (·.2))
   rw[xS g,xS b]
   exact r1.same (i.trans m).ff
 .rw[AC b] at q;exact q.elim
def tPf(c:Ct)(E:XK)(f:Sg->R (O9 Int)):TO:=fun σ H Q=>∃ ρ F,Ab c ρ σ F H/\Rk c E F H (f ρ) fun o=>∀ F' H',Ext F H F' H'->Q o H'
noncomputable def oNo:Sg->R (O9 Int):=fun _=>.ok none
def oSo(f:Sg->R Dz):Sg->R (O9 Int):=fun ρ=>(f ρ).bind fun x=>match x with
 | .int i=>.ok (some i)
 | _=>.bad
noncomputable def pM{α:Type}(xs:List α)(lo hi:O9 Int):List α:=(xs.drop (HT.sIx xs.length 0 lo)).take (HT.sIx xs.length xs.length hi - HT.sIx xs.length 0 lo)
noncomputable def dSl:Dz->O9 Int->O9 Int->R Dz
 | .list xs,lo,hi=>.ok (.list (pM xs lo hi))
 | .tuple xs,lo,hi=>if ¬ (HT.sIx xs.length 0 lo=0/\HT.sIx xs.length xs.length hi=xs.length) then .ok (.tuple (pM xs lo hi)) else .bad
 | .str z,lo,hi=>if z.length<=16777216 then .ok (.str (Txt.slice z lo hi)) else .bad
 | _,_,_=>.bad
def eSl{α:Type}(g:Dz->O9 Int->O9 Int->R α)(f:Sg->R Dz)(lo hi:Sg->R (O9 Int)):Sg->R α:=fun ρ=>(f ρ).bind fun x=>(lo ρ).bind fun l=>(hi ρ).bind fun h=>g x l h
theorem aBG{K:Frag}{F:Hp}{vs:List V}{xs:List Dz}(h:DatVs K F vs xs)(lo hi:O9 Int):DatVs K F (qJ vs lo hi) (pM xs lo hi):=by
 unfold qJ pM
 rw[h.length]
 exact (h.drop _).take _
theorem PO.imp{X:Cx}{e:O9 E1}{t t':TO}(h:PO X e t)(i:∀ σ H Q,t' σ H Q->t σ H Q):PO X e t':=fun pins s σ H Q I q=>h pins s σ H Q I (i σ H Q q)
section
variable{X:Cx}{c:Ct}{E:XK}{e a b:E1}{pos p2:Pos}{lo hi:O9 E1}
theorem lL:PO X none (tPf c E oNo):=PO.imp aMK fun σ H Q ⟨ρ,F,ab,k⟩=>Rk.ok k F H (Ext.refl ab.fh)
theorem lM{f:Sg->R Dz}(h:PR X c E e f):PO X (some e) (tPf c E (oSo f)):=PO.imp (aML h) fun σ H Q ⟨ρ,F,ab,k⟩=>⟨ρ,F,ab,(Rk.bind k).imp fun x _ q v a H' s r=>by
 cases x with
 | int i=>exact ⟨i,bF.int_of r,Rk.ok q a H' s⟩
 | _=>exact q.elim⟩
def aQT(c:Ct){α:Type}(Rb:VR α)(g:Dz->O9 Int->O9 Int->R α):V->O9 Int->O9 Int->Hp->VK->Prop:=fun v lo hi H Q=>∃ F x d,aN F H/\bF c.K F H v x/\g x lo hi=.ok d/\∀ w F' H',Ext F H F' H'->Rb d w H F' H'->Q w H'
theorem aTD(o:X.K=c.K):SlR X (aQT c (dN c) dSl):=by
 intro pins s σ H v x k i lo hi sl Q I g n j m h
 obtain ⟨F,d,w,b,f,a,q⟩:=h
 unfold dSl at a
 split at a
 .cases a
  obtain ⟨p,vs,rfl,h1,h2⟩:=bF.lst_of b f
  rw[<-o] at h1
  exact aMP pins s σ H _ x k i lo hi sl Q I g n j m ⟨p,vs,rfl,h1,fun l e=>q _ _ _ (Ext.new b e) (.lst (SqL.of aX) ((aBG h2 lo hi).same (aN.upd (bZ b e))))⟩
 .rename_i xs _ _
  split at a
  .rename_i t
   cases a
   obtain ⟨p,vs,rfl,_,h1,h2⟩:=bF.tup_of b f
   rw[<-o] at h1
   exact aQB pins s σ H _ x k i lo hi sl Q I g n j m ⟨p,vs,rfl,h1,by rw[h2.length];exact t,fun l e=>q _ _ _ (Ext.new b e) (.tup (SqT.of aX) ((aBG h2 lo hi).same (aN.upd (bZ b e))))⟩
  .cases a
 .split at a
  .rename_i r
   cases a
   obtain rfl:=bF.str_of f
   exact aQI pins s σ H _ x k i lo hi sl Q I g n j m ⟨_,rfl,by rw[dO];exact r,q _ F H (Ext.refl b) (.str _)⟩
  .cases a
 .cases a
theorem aNG{α:Type}{Rb:VR α}{g:Dz->O9 Int->O9 Int->R α}(y:∀ x l h e,g x l h≠.ex e)(t:aBA Rb){f:Sg->R Dz}{m fh:Sg->R (O9 Int)}{σ:L2.St}{H:Hp}{Q:VK}(h:tV Rb c E (eSl g f m fh) σ H Q) :
  tSl (aQT c Rb g) (tV (b9 c) c E f) (tPf c E m) (tPf c E fh) σ H Q:=by
 obtain ⟨ρ,F,ab,k⟩:=h
 refine ⟨ρ,F,ab,(Rk.bind k).imp fun x _ q v p H1 s1 r1=>⟨ρ,p,ab.ext s1,((Rk.bind q).ext s1).imp fun l _ q u H2 b=>⟨ρ,u,ab.ext (s1.trans b),((Rk.bind q).ext (s1.trans b)).imp fun hh _ q n H3 j=>?_⟩⟩⟩
 cases i:g x l hh with
 | bad=>rw[i] at q;exact q.elim
 | ex e=>exact absurd i (y x l hh e)
 | ok d=>
  rw[i] at q
  have a:=(s1.trans b).trans j
  exact ⟨n,x,d,j.fh,bF.ext (b.trans j) r1,i,fun w o H' s r=>Rk.ok q w o H' (a.trans s) (t _ _ _ _ _ _ a.hh r)⟩
theorem aJ1:∀ x l h e,dSl x l h≠.ex e:=by intro x l h e q;unfold dSl at q;split at q<;>(try split at q)<;>cases q
theorem gQ{f:Sg->R Dz}{a fh:Sg->R (O9 Int)}(i:X.K=c.K)(d:PR X c E e f)(b:PO X lo (tPf c E a))(g:PO X hi (tPf c E fh)):PD X c E (.Subscript e (.Slice lo hi none p2) pos) (eSl dSl f a fh):=
 PE.imp (aJF (aTD i) d b g) fun σ H Q h=>aNG aJ1 (mE c) h
noncomputable def tyN:Dz->String
 | .none=>"NoneType"
 | .bool _=>"bool"
 | .int _=>"int"
 | .str _=>"str"
 | .list _=>"list"
 | .tuple _=>"tuple"
 | .dict _=>"dict"
noncomputable def iV(t T:String):Bool:=t == T || (T == "int" && t == "bool")
noncomputable def lV(T:String)(x:Dz):R Dz:=match x with
 | .dict _=>.bad
 | x=>.ok (.bool (iV (tyN x) T))
structure Kit(K:Frag)(T:String):Prop where
 non:PySem.W.kitOne K (.type "NoneType") (.type T)=some (iV "NoneType" T)
 bl:PySem.W.kitOne K (.type "bool") (.type T)=some (iV "bool" T)
 int:PySem.W.kitOne K (.type "int") (.type T)=some (iV "int" T)
 str:PySem.W.kitOne K (.type "str") (.type T)=some (iV "str" T)
 lst:PySem.W.kitOne K (.type "list") (.type T)=some (iV "list" T)
 tup:PySem.W.kitOne K (.type "tuple") (.type T)=some (iV "tuple" T)
theorem aNH(K:Frag):Kit K "int":=⟨rfl,rfl,rfl,rfl,rfl,rfl⟩
theorem aJ2(K:Frag):Kit K "bool":=⟨rfl,rfl,rfl,rfl,rfl,rfl⟩
theorem aDD(K:Frag):Kit K "str":=⟨rfl,rfl,rfl,rfl,rfl,rfl⟩
theorem aJ3{X:Cx}:jV X (.builtin "isinstance") (fun xs H Q=>∃ a ys c cv b,xs=[.ref a,c]/\SqL X.K H a ys/\aAV c=some cv/\PySem.W.kitOne X.K (.type "list") cv=some b/\Q (.bl b) H):=by
 intro pins s σ H xs us Q I r h
 obtain ⟨a,ys,c,cv,b,rfl,k,i,e,q⟩:=h
 obtain ⟨u,v,rfl,f,j⟩:=z6 r
 obtain rfl:=xD i j
 cases (show u=Value.ref a from f)
 obtain ⟨d,_,g,_⟩:=I.list k
 obtain ⟨o,h1,h2,_⟩:=g.isList
 exact B8 GB I.kIn ⟨o,h1,h2⟩ e (fun z=>nomatch z) fun tk=>⟨.bl b,H,I.tok _,rfl,q⟩
def aJ4(c:Ct)(T:String):List V->Hp->VK->Prop:=fun xs H Q=>∃ F x v d,xs=[v,.ty T]/\aN F H/\bF c.K F H v x/\lV T x=.ok d/\∀ w F' H',Ext F H F' H'->DatV c.K F' w d->Q w H'
theorem pN(g:X.K=c.K){T:String}(k:Kit X.K T):jV X (.builtin "isinstance") (aJ4 c T):=by
 intro pins s σ H xs us Q I r h
 obtain ⟨F,x,v,d,rfl,a,f,e,q⟩:=h
 cases x with
 | dict _=>cases e
 | none=>
  cases e
  obtain rfl:=bF.non_of f
  exact jR pins s σ H _ us Q I r ⟨_,_,_,_,_,rfl,.pl .non,rfl,k.non,q _ F H (Ext.refl a) (.bl _)⟩
 | bool b=>
  cases e
  obtain rfl:=bF.bl_of f
  exact jR pins s σ H _ us Q I r ⟨_,_,_,_,_,rfl,.pl (.bl b),rfl,k.bl,q _ F H (Ext.refl a) (.bl _)⟩
 | int b=>
  cases e
  obtain rfl:=bF.int_of f
  exact jR pins s σ H _ us Q I r ⟨_,_,_,_,_,rfl,.pl (.int b),rfl,k.int,q _ F H (Ext.refl a) (.bl _)⟩
 | str b=>
  cases e
  obtain rfl:=bF.str_of f
  exact jR pins s σ H _ us Q I r ⟨_,_,_,_,_,rfl,.pl (.str b),rfl,k.str,q _ F H (Ext.refl a) (.bl _)⟩
 | tuple xs=>
  cases e
  obtain ⟨p,vs,rfl,_,h1,h2⟩:=bF.tup_of a f
  rw[<-g] at h1
  exact aAX pins s σ H _ us Q I r ⟨p,vs,_,_,_,rfl,h1,rfl,k.tup,q _ F H (Ext.refl a) (.bl _)⟩
 | list xs=>
  cases e
  obtain ⟨p,vs,rfl,h1,h2⟩:=bF.lst_of a f
  rw[<-g] at h1
  exact aJ3 pins s σ H _ us Q I r ⟨p,vs,_,_,_,rfl,h1,rfl,k.lst,q _ F H (Ext.refl a) (.bl _)⟩
theorem vK{T:String}{f:Sg->R Dz}(h:PE X e (tCB (aJ4 c T) (fJ (tV (b9 c) c E f) (fJ (tC (.ty T)) jL)))):PD X c E e (e1 (lV T) f):=PE.imp h fun σ H Q d=>by
 obtain ⟨ρ,F,ab,k⟩:=d
 refine ⟨ρ,F,ab,(Rk.bind k).imp fun x _ q v b H1 s1 r1=>?_⟩
 show aJ4 c T [v,.ty T] H1 Q
 cases x with
 | dict _=>exact q.elim
 | none=>exact ⟨b,_,v,_,rfl,s1.fh,r1,rfl,fun w a H' s r=>Rk.ok q w a H' (s1.trans s) r⟩
 | bool _=>exact ⟨b,_,v,_,rfl,s1.fh,r1,rfl,fun w a H' s r=>Rk.ok q w a H' (s1.trans s) r⟩
 | int _=>exact ⟨b,_,v,_,rfl,s1.fh,r1,rfl,fun w a H' s r=>Rk.ok q w a H' (s1.trans s) r⟩
 | str _=>exact ⟨b,_,v,_,rfl,s1.fh,r1,rfl,fun w a H' s r=>Rk.ok q w a H' (s1.trans s) r⟩
 | list _=>exact ⟨b,_,v,_,rfl,s1.fh,r1,rfl,fun w a H' s r=>Rk.ok q w a H' (s1.trans s) r⟩
 | tuple _=>exact ⟨b,_,v,_,rfl,s1.fh,r1,rfl,fun w a H' s r=>Rk.ok q w a H' (s1.trans s) r⟩
noncomputable def pO:List Dz->O9 (List Str)
 | []=>some []
 | .str s::t=>(pO t).map (s :: ·)
 | _=>none
theorem oE{K:Frag}{F:Hp}:∀ {vs:List V} {xs:List Dz} {ys:List Str},DatVs K F vs xs->pO xs=some ys->vs=ys.map V.str
 | _,_,ys,.nil,e=>by cases e;rfl
 | _,_,ys,.cons (d:=d) (ds:=t) h h2,e=>by
  cases d with
  | str b=>
   unfold pO at e
   cases q:pO t with
   | none=>rw[q] at e;cases e
   | some cs=>
    rw[q] at e
    cases e
    rw[oE h2 q,h.str_of];rfl
  | _=>cases e
noncomputable def z9:Dz->Dz->R Dz
 | .str sep,.list xs=>match pO xs with
  | some ys=>if (ys.map fun y=>y.length).sum+ys.length * sep.length<=16777216 then .ok (.str (Txt.join sep ys)) else .bad
  | none=>.bad
 | _,_=>.bad
theorem aNI{f g:Sg->R Dz}(o:X.K=c.K)(h:PE X e (tBM X.K "str" (aLR X.K) (tV (b9 c) c E f) (fJ (tV (b9 c) c E g) jL)))(j:∀ ρ x,f ρ=.ok x->∃ z,x=.str z):PD X c E e (e2 z9 f g):=PE.imp h fun σ H Q ⟨ρ,F,ab,k⟩=>by
 refine ⟨ρ,F,ab,(Rk.bind k).imp fun x ex q v i H1 s1 r1=>?_⟩
 obtain ⟨z,rfl⟩:=j ρ x ex
 obtain rfl:=bF.str_of r1
 refine ⟨rfl,ρ,i,ab.ext s1,((Rk.bind q).ext s1).imp fun y _ q u l H2 b r2=>?_⟩
 cases y with
 | list xs=>
  have a:Rk c E F H (match pO xs with
   | some ys=>if (ys.map fun y=>y.length).sum+ys.length * z.length<=16777216 then R.ok (PyData.str (Txt.join z ys)) else .bad
   | none=>.bad) (fun d=>∀ v F' H',Ext F H F' H'->dN c d v H F' H'->Q v H'):=q
  split at a
  .rename_i ys m
   split at a
   .rename_i n
    obtain ⟨p,vs,rfl,h1,h2⟩:=bF.lst_of b.fh r2
    rw[<-o] at h1
    obtain rfl:=oE h2 m
    exact ⟨z,p,ys,rfl,rfl,h1,n,Rk.ok a _ l H2 (s1.trans b) (.str _)⟩
   .exact a.elim
  .exact a.elim
 | _=>exact q.elim
noncomputable def rC:Dz->Dz->R Dz
 | .str z,.str y=>match Builtin.Str.occurrences z y 0 z.length 1 with
  | i::_=>.ok (.int i)
  | []=>.bad
 | _,_=>.bad
theorem aJ5{f g:Sg->R Dz}(h:PE X e (tBM X.K "str" aG3 (tV (b9 c) c E f) (fJ (tV (b9 c) c E g) jL)))(j:∀ ρ x,f ρ=.ok x->∃ z,x=.str z):PD X c E e (e2 rC f g):=PE.imp h fun σ H Q ⟨ρ,F,ab,k⟩=>by
 refine ⟨ρ,F,ab,(Rk.bind k).imp fun x ex q v b H1 s1 r1=>?_⟩
 obtain ⟨z,rfl⟩:=j ρ x ex
 obtain rfl:=bF.str_of r1
 refine ⟨rfl,ρ,b,ab.ext s1,((Rk.bind q).ext s1).imp fun y _ q u m H2 n r2=>?_⟩
 cases y with
 | str y=>
  have a:Rk c E F H (match Builtin.Str.occurrences z y 0 z.length 1 with
   | i::_=>R.ok (PyData.int i)
   | []=>.bad) (fun d=>∀ v F' H',Ext F H F' H'->dN c d v H F' H'->Q v H'):=q
  split at a
  .rename_i i rest l
   obtain rfl:=bF.str_of r2
   exact ⟨z,y,i,rest,rfl,rfl,l,Rk.ok a _ m H2 (s1.trans n) (.int _)⟩
  .exact a.elim
 | _=>exact q.elim
noncomputable def jZ:Nat->List Dz->List Dz
 | _,[]=>[]
 | i,x::t=>.tuple [.int i,x]::jZ (i+1) t
theorem j4:∀ (i:Nat) (xs:List Dz),(jZ i xs).length=xs.length
 | _,[]=>rfl
 | i,x::t=>by rw[jZ,AY,AY,j4]
theorem tY:∀ (k i:Nat) (xs:List Dz),(jZ k xs)[i]? = (xs[i]?).map fun x=>.tuple [.int ((k+i:Nat):Int),x]
 | k,i,[]=>by simp[jZ]
 | k,0,x::t=>by simp[jZ]
 | k,i+1,x::t=>by rw[jZ,AT,AT,tY,show k+1+i=k+(i+1) by omega]
noncomputable def aAA:Dz->R (List Dz)
 | .list xs=>if xs.length<=16777216 then .ok (jZ 0 xs) else .bad
 | .str z=>if z.cps.toList.length<=16777216 then .ok (jZ 0 (z.cps.toList.map fun u=>.str ⟨#[u]⟩)) else .bad
 | _=>.bad
theorem aJ6{K:Frag}{F B:Hp}{a:Az}{vs:List V}{xs:List Dz}(j:xs.length<=16777216)(c:∀ H1,aN F H1->aN B H1->SqL K H1 a vs)(f:DatVs K F vs xs):Yld K (Ite K a) F B (jZ 0 xs) where
 len:=by rw[dO,j4];exact j
 go:=fun i g H1 h1 h2 b hi=>by
  rw[j4] at hi
  exact ⟨vs,vs[i]'(by rw[f.length];exact hi),c H1 (fun x o z=>h2 x o (h1 x o z)) b,by simp⟩
 yld:=fun i g H1 v H2 x h1 h2 b y e=>by
  obtain ⟨p,w,h,rfl,rfl,y⟩:=y
  have q:=y vs (c _ (fun x o z=>h2 x o (h1 x o z)) b)
  obtain ⟨d,e2,r⟩:=f.get q
  rw[tY,e2] at e
  cases e
  refine ⟨_,Ext.new h2 h,.tup (SqT.of aX) (.cons ?_ (.cons ((r.same h1).same (aN.upd (bZ h2 h))) .nil))⟩
  rw[DQ];exact .int _
 stop:=fun g H1 h1 h2 b=>⟨vs,c H1 (fun x o z=>h2 x o (h1 x o z)) b,by rw[f.length,j4];exact AG _⟩
theorem aHM{K:Frag}{F B:Hp}{z:Str}(c:z.cps.toList.length<=16777216):Yld K (Ity z) F B (jZ 0 (z.cps.toList.map fun u=>.str ⟨#[u]⟩)) where
 len:=by rw[dO,j4,AB];exact c
 go:=fun i a H1 h1 h2 b hi=>by
  rw[j4,AB,CK] at hi
  exact hi
 yld:=fun i a H1 v H2 x h1 h2 b y e=>by
  obtain ⟨p,u,f,rfl,rfl,d⟩:=y
  rw[tY,AH,EO,d] at e
  cases e
  refine ⟨_,Ext.new h2 f,.tup (SqT.of aX) (.cons ?_ (.cons (.str _) .nil))⟩
  rw[DQ];exact .int _
 stop:=fun a H1 h1 h2 b=>by
  show (jZ 0 _).length=z.cps.size
  rw[j4,AB,CK]
theorem aQU{tg:E1}{f:Sg->R Dz}(j:X.K=c.K)(h:PI X tg e (aLN X.K (fJ (tV (dN c) c E f) jL)))(h':PI X tg e (aG4 (fJ (tV (dN c) c E f) jL))):PI0 X c E tg e (e1 aAA f):=PI.imp (PI.or h h') fun σ H Q ⟨ρ,F,ab,k⟩=>by
 have a:=Rk.bind k
 cases b:f ρ with
 | bad=>rw[b] at a;exact a.elim
 | ex x=>rw[b] at a;exact .inl ⟨ρ,F,ab,by rw[b];exact a⟩
 | ok d=>
  rw[b] at a
  have k2:=Rk.ok a
  unfold aAA at k2
  split at k2
  .rename_i xs
   split at k2
   .rename_i g
    refine .inl ⟨ρ,F,ab,?_⟩
    rw[b]
    intro v i H' s r
    obtain ⟨p,vs,rfl,h1,h2⟩:=DatV.lst_of r
    refine ⟨p,rfl,⟨vs,?_⟩,?_⟩
    · rw [j]; exact h1.same s.fh
    · rw [j]; exact Rk.ok k2 _ i H' s (aJ6 g (fun H1 q _ => h1.same q) h2)
   .exact k2.elim
  .rename_i z
   split at k2
   .rename_i g
    refine .inr ⟨ρ,F,ab,?_⟩
    rw[b]
    intro v i H' s r
    obtain rfl:=DatV.str_of r
    exact ⟨z,rfl,Rk.ok k2 _ i H' s (aHM g)⟩
   .exact k2.elim
  .exact k2.elim
end
noncomputable def fM(kvs:List (Dz×Dz))(k:Dz):O9 Dz:=(kvs.find? fun p=>decide (p.1=k)).map (·.2)
noncomputable def dZ(kvs:List (Dz×Dz))(k:Dz):Bool:=(fM kvs k).isSome
noncomputable def putM(kvs:List (Dz×Dz))(k v:Dz):List (Dz×Dz):=if dZ kvs k=true then kvs.map (fun p=>if p.1=k then (p.1,v) else p) else kvs++[(k,v)]
theorem aDE{K:Frag}{F:Hp}{k:Dz}:∀ {es:List Ent} {kvs:List (Dz×Dz)},es.map (·.1)=kvs.map (·.1)->DatVs K F (es.map (·.2.2)) (kvs.map (·.2))->
  (atE es k=none/\fM kvs k=none)\/∃ v d,atE es k=some v/\fM kvs k=some d/\DatV K F v d
 | [],[],_,_=>.inl ⟨rfl,rfl⟩
 | [],_::_,h,_=>by cases h
 | _::_,[],h,_=>by cases h
 | e::es,p::kvs,h,r=>by
  rw[AL,AL] at h r
  injection h with h1 h2
  obtain ⟨v,t,e1,r1,r2⟩:=r.cons_of
  rw[EZ] at e1
  obtain ⟨rfl,rfl⟩:=e1
  have a:=aDE (k:=k) h2 r2
  unfold atE fM at a ⊢
  rw[DB,DB,h1]
  by_cases q:p.1=k
  · rw [AZ q]; exact .inr ⟨_, _, rfl, rfl, r1⟩
  · rw [A1 q]; exact a
theorem MapRel.get{K:Frag}{F:Hp}{es:List Ent}{a:List (Dz×Dz)}(m:MapRel K F es a)(k:Dz):(atE es k=none/\fM a k=none)\/∃ v d,atE es k=some v/\fM a k=some d/\DatV K F v d:=aDE m.k1 m.vs
theorem MapRel.has{K:Frag}{F:Hp}{es:List Ent}{c:List (Dz×Dz)}(m:MapRel K F es c)(k:Dz):(atE es k).isSome=dZ c k:=by
 unfold dZ
 rcases m.get k with ⟨a,b⟩|⟨v,d,a,b,_⟩<;>rw[a,b]<;>rfl
theorem tZ{a:List (Dz×Dz)}{k:Dz}:dZ a k=true↔k∈a.map (·.1):=by
 unfold dZ fM
 rw[E8]
 induction a with
 | nil=>simp
 | cons p t ih=>
  rw[DB]
  by_cases q:p.1=k
  .rw[AZ q];simp[q]
  .rw[A1 q,ih,AL]
   exact ⟨fun z=>AN _ z,fun z=>(A2.mp z).resolve_left (fun w=>q w.symm)⟩
theorem aHN{a:List (Dz×Dz)}{k v:Dz}:(putM a k v).map (·.1)=if dZ a k=true then a.map (·.1) else a.map (·.1)++[k]:=by
 unfold putM
 cases h:dZ a k with
 | true=>
  rw[AD rfl,AD rfl,BX]
  refine CL fun p _=>?_
  show (if p.1=k then (p.1,v) else p).1=p.1
  split<;>rfl
 | false=>rw[AC (by decide),AC (by decide),BE];rfl
theorem aDF{K:Frag}{F:Hp}{k d:Dz}{v:V}(r:DatV K F v d):∀ {es:List Ent} {kvs:List (Dz×Dz)},es.map (·.1)=kvs.map (·.1)->DatVs K F (es.map (·.2.1)) (kvs.map (·.1))->DatVs K F (es.map (·.2.2)) (kvs.map (·.2))->
  (es.map fun e=>if e.1=k then (e.1,e.2.1,v) else e).map (·.1)=(kvs.map fun p=>if p.1=k then (p.1,d) else p).map (·.1) /\
  DatVs K F ((es.map fun e=>if e.1=k then (e.1,e.2.1,v) else e).map (·.2.1)) ((kvs.map fun p=>if p.1=k then (p.1,d) else p).map (·.1)) /\
  DatVs K F ((es.map fun e=>if e.1=k then (e.1,e.2.1,v) else e).map (·.2.2)) ((kvs.map fun p=>if p.1=k then (p.1,d) else p).map (·.2))
 | [],[],_,_,_=>⟨rfl,.nil,.nil⟩
 | [],_::_,h,_,_=>by cases h
 | _::_,[],h,_,_=>by cases h
 | e::es,p::kvs,h,rk,rv=>by
  rw[AL,AL] at h rk rv
  injection h with h1 h2
  obtain ⟨_,_,e1,r1,r2⟩:=rk.cons_of
  rw[EZ] at e1
  obtain ⟨rfl,rfl⟩:=e1
  obtain ⟨_,_,e1,g,f⟩:=rv.cons_of
  rw[EZ] at e1
  obtain ⟨rfl,rfl⟩:=e1
  obtain ⟨c,b,a⟩:=aDF r h2 r2 f
  simp only[AL]
  rw[h1,c]
  by_cases q:p.1=k
  · rw [AD q, AD q]; exact ⟨rfl, .cons r1 b, .cons r a⟩
  · rw [AC q, AC q]; exact ⟨by rw [h1], .cons r1 b, .cons g a⟩
theorem MapRel.put{K:Frag}{F:Hp}{es:List Ent}{c:List (Dz×Dz)}{k d:Dz}{kv v:V}(m:MapRel K F es c)(g:DatV K F kv k)(r:DatV K F v d):MapRel K F (nX es k kv v) (putM c k d):=by
 have i:=m.has k
 have nd:((putM c k d).map (·.1)).Nodup:=by
  rw[aHN]
  cases h:dZ c k with
  | true=>rw[AD rfl];exact m.nd
  | false=>
   rw[AC (by decide),EL]
   refine ⟨m.nd,by simp,fun a n b e z=>?_⟩
   rw[A4] at e
   subst e z
   rw[tZ.mpr n] at h
   cases h
 unfold nX
 rw[i]
 unfold putM at nd ⊢
 cases h:dZ c k with
 | true=>
  rw[h,AD rfl] at nd
  rw[AD rfl,AD rfl]
  obtain ⟨l,j,f⟩:=aDF (k:=k) r m.k1 m.k2 m.vs
  exact ⟨l,j,f,nd⟩
 | false=>
  rw[h,AC (by decide)] at nd
  rw[AC (by decide),AC (by decide)]
  refine ⟨by rw[BE,BE,m.k1];rfl,?_,?_,nd⟩
  .rw[BE,BE];exact m.k2.append (.cons g .nil)
  .rw[BE,BE];exact m.vs.append (.cons r .nil)
theorem nI{K:Frag}{F:Hp}:∀ {es:List Ent} {kvs:List (Dz×Dz)},es.map (·.1)=kvs.map (·.1)->DatVs K F (es.map (·.2.1)) (kvs.map (·.1))->∀ e∈es,DatV K F e.2.1 e.1
 | [],_,_,_,e,he=>by cases he
 | _::_,[],h,_,_,_=>by cases h
 | e0::es,p::kvs,h,rk,e,he=>by
  rw[AL,AL] at h rk
  injection h with h1 h2
  obtain ⟨_,_,e1,r1,r2⟩:=rk.cons_of
  rw[EZ] at e1
  obtain ⟨rfl,rfl⟩:=e1
  rcases A2.mp he with z|z
  · subst z; rw [h1]; exact r1
  · exact nI h2 r2 e z
section
variable{X:Cx}{c:Ct}{E:XK}{e a b:E1}{st:Stmt}{pos:Pos}
theorem aFB{ρ:Sg}{σ:L2.St}{F H:Hp}{i:Nat}{a:List (Dz×Dz)}{k:Dz}{kv:V}(d:X.K=c.K)(h:X.w=c.w)(ab:Ab c ρ σ F H)(hi:ρ[i]? = some (some (.m a)))(j:DatV c.K F kv k)(f:cV k (a.map (·.1))=true) :
  ∃ p es,σ[i]? = some (some (.ref p))/\DicAt X H p es k kv/\MapRel c.K F es a:=by
 obtain ⟨v,l,p,es,rfl,⟨ep,h2⟩,o,n,b⟩:=ab.slot i _ hi
 refine ⟨p,es,l,⟨⟨ep,by rw[h];exact h2⟩,fun e g=>by rw[d];exact (nI b.k1 b.k2 e g).same ab.fh,by rw[b.k1];exact b.nd,by rw[d];exact j.same ab.fh,by rw[b.k1];exact f⟩,b⟩
theorem aHO{ρ:Sg}{σ:L2.St}{F H:Hp}{i:Nat}{a:List (Dz×Dz)}{k:Dz}{kv:V}(d:X.K=c.K)(j:X.w=c.g.w)(ab:Ab c ρ σ F H)(hi:ρ[i]? = some (some (.f a)))(l:DatV c.K F kv k)(m:cV k (a.map (·.1))=true) :
  ∃ p es,σ[i]? = some (some (.ref p))/\DicAt X H p es k kv/\MapRel c.K F es a:=by
 obtain ⟨v,n,p,es,rfl,⟨ep,h2⟩,b⟩:=ab.slot i _ hi
 refine ⟨p,es,n,⟨⟨ep,by rw[j];exact ab.fh _ _ h2⟩,fun e h=>by rw[d];exact (nI b.k1 b.k2 e h).same ab.fh,by rw[b.k1];exact b.nd,by rw[d];exact l.same ab.fh,by rw[b.k1];exact m⟩,b⟩
def aLY(w:W9):TE:=fun _ H Q=>∀ p,H p=none->Q (.ref p) (upd H p (dU w p [] 0))
theorem xT:PE X (.Dict [] [] pos) (aLY X.w):=fun pins s σ H Q I h=>
 wpAny_Dict_empty ⟨.ref s.heap.objs.size,_,I.laid (a:=s.heap.objs.size) (o:=dU X.w s.heap.objs.size [] 0) (t':=s.toks) (fun _ _ q=>AI _ q) (AG _)
  (mK (DE.mpr (BZ (BB I.big))) ⟨_,#[],BA _ rfl,⟨rfl,rfl,rfl⟩,rfl,.nil⟩),rfl,h _ (I.hok.fresh (AG _))⟩
noncomputable def vL(i:Nat):Sg->R Fw:=fun ρ=>.ok (.nx (ρ.set i (some (.m []))))
theorem xU{i:Nat}{w:W9}(b:w=c.w)(h:PS X st (lT (aLY w) (kE i))):PSf X c E st (vL i):=PS.imp h fun D σ H ⟨ρ,F,ab,k⟩=>fun p a=>by
 subst b
 exact Rk.ok k _ F _ (cM F) (ab.setM (Ext.own ab.fh a) a aX (bZ ab.fh a) ⟨rfl,.nil,.nil,E5⟩)
noncomputable def rD(neg:Bool)(i:Nat)(f:Sg->R Dz):Sg->R Dz:=fun ρ=>(f ρ).bind fun k=>match ρ[i]? with
 | some (some (.m kvs))=>if cV k (kvs.map (·.1))=true then .ok (.bool (if neg=true then !dZ kvs k else dZ kvs k)) else .bad
 | some (some (.f kvs))=>if cV k (kvs.map (·.1))=true then .ok (.bool (if neg=true then !dZ kvs k else dZ kvs k)) else .bad
 | _=>.bad
def aFC(X:Cx)(neg:Bool):R2:=fun y x H Q=>∃ p es k,x=.ref p/\DicAt X H p es k y/\Q (.bl (if neg=true then !(atE es k).isSome else (atE es k).isSome)) H
theorem aDG(c:X.A.units+64 < cLine):OpR X (compareOp .In) (aFC X false):=by
 intro pins s σ H y x v u Q I b d h
 obtain ⟨p,es,k,rfl,D,q⟩:=h
 cases (show u=Value.ref p from d)
 exact aQQ c D I b fun s' a=>⟨.bl _,H,a,rfl,q⟩
theorem aBH(c:X.A.units+64 < cLine):OpR X (compareOp .NotIn) (aFC X true):=by
 intro pins s σ H y x v u Q I b d h
 obtain ⟨p,es,k,rfl,D,q⟩:=h
 cases (show u=Value.ref p from d)
 exact aNA c D I b fun s' a=>⟨.bl _,H,a,rfl,q⟩
theorem aJ7{i:Nat}{a:Bool}{f:Sg->R Dz}(o:X.K=c.K)(n:X.w=c.w)(r:c.w=c.g.w){σ:L2.St}{H:Hp}{Q:VK}(h:tV (dN c) c E (rD a i f) σ H Q):tOp (aFC X a) (tV (dN c) c E f) (jK i) σ H Q:=by
 obtain ⟨ρ,F,ab,k⟩:=h
 refine ⟨ρ,F,ab,(Rk.bind k).imp fun d _ q v l H1 s1 r1=>?_⟩
 split at q
 .rename_i j hi
  split at q
  .rename_i b
   obtain ⟨p,es,e,D,m⟩:=aFB o n (ab.ext s1) hi r1 b
   refine ⟨_,e,p,es,d,rfl,D,?_⟩
   rw[m.has]
   exact Rk.ok q _ l H1 s1 (.bl _)
  .exact q.elim
 .rename_i j hi
  split at q
  .rename_i b
   obtain ⟨p,es,e,D,m⟩:=aHO o (n.trans r) (ab.ext s1) hi r1 b
   refine ⟨_,e,p,es,d,rfl,D,?_⟩
   rw[m.has]
   exact Rk.ok q _ l H1 s1 (.bl _)
  .exact q.elim
 .exact q.elim
theorem vM{i:Nat}{a:Bool}{f:Sg->R Dz}(j:X.K=c.K)(d:X.w=c.w)(h:PT X e (aLL (tOp (aFC X a) (tV (dN c) c E f) (jK i))))(b:c.w=c.g.w:=by rfl):PTf X c E e (e1 asB (rD a i f)):=PT.imp h fun σ H Q q=>aJ7 j d b (xM q)
noncomputable def sE(i:Nat)(f:Sg->R Dz):Sg->R Dz:=fun ρ=>match ρ[i]? with
 | some (some (.m kvs))=>(f ρ).bind fun k=>if cV k (kvs.map (·.1))=true then match fM kvs k with
  | some v=>.ok v
  | none=>.bad else .bad
 | some (some (.f kvs))=>(f ρ).bind fun k=>if cV k (kvs.map (·.1))=true then match fM kvs k with
  | some v=>.ok v
  | none=>.bad else .bad
 | _=>.bad
def aLZ(X:Cx)(td ty:TE):TE:=fun σ H Q=>td σ H fun x H1=>ty σ H1 fun y H2=>∃ p es k v,x=.ref p/\DicAt X H2 p es k y/\atE es k=some v/\Q v H2
theorem aDH{o i:E1}{c ty:TE}(t:X.A.units+64 < cLine)(g:PE X o c)(hi:PE X i ty)(z:aQJ i):PE X (.Subscript o i pos) (aLZ X c ty):=by
 intro pins s σ H Q I h
 refine aMY PySem.F.slot_dict_getitem.lookup z (thn (g pins s σ H _ I h) fun u s1 ⟨x,H1,r,j,q⟩=>thn (hi pins s1 σ H1 _ r q) fun E n a=>?_)
 obtain ⟨y,H2,d,f,p,es,k,v,ex,D,m,l⟩:=a
 subst ex
 obtain rfl:u=Value.ref p:=j
 obtain ⟨ep,e⟩:=D.o
 obtain ⟨⟨_,o',ar,h1,h2,_⟩,_,_⟩:=(show cF X.prog X.w H2 n.heap p (dU X.w p es ep) from d.hok p _ e)
 exact ⟨⟨o',h1,h2.1⟩,aNB t D d f m fun G C B b=>⟨v,H2,B,b,l⟩⟩
theorem aDI{i:Nat}{f:Sg->R Dz}(x:X.K=c.K)(u:X.w=c.w)(h:PE X e (aLZ X (jK i) (tV (dN c) c E f)))(y:c.w=c.g.w:=by rfl):PD X c E e (sE i f):=PE.imp h fun σ H Q ⟨ρ,F,ab,k⟩=>by
 unfold sE at k
 split at k
 .rename_i r hi
  obtain ⟨_,n,p,es,rfl,_⟩:=ab.slot i _ hi
  refine ⟨_,n,ρ,F,ab,(Rk.bind k).imp fun d _ q v s H1 s1 r1=>?_⟩
  split at q
  .rename_i t
   obtain ⟨A,b,a,D,m⟩:=aFB x u (ab.ext s1) hi r1 t
   rw[n] at a
   cases a
   split at q
   .rename_i w j
    rcases m.get d with ⟨_,z⟩|⟨l,B,h1,h2,o⟩
    .rw[j] at z;cases z
    .rw[j] at h2
     cases h2
     exact ⟨p,b,d,l,rfl,D,h1,Rk.ok q l s H1 s1 o⟩
   .exact q.elim
  .exact q.elim
 .rename_i r hi
  obtain ⟨_,n,p,es,rfl,_⟩:=ab.slot i _ hi
  refine ⟨_,n,ρ,F,ab,(Rk.bind k).imp fun d _ q v s H1 s1 r1=>?_⟩
  split at q
  .rename_i t
   obtain ⟨A,b,a,D,m⟩:=aHO x (u.trans y) (ab.ext s1) hi r1 t
   rw[n] at a
   cases a
   split at q
   .rename_i w j
    rcases m.get d with ⟨_,z⟩|⟨l,B,h1,h2,o⟩
    .rw[j] at z;cases z
    .rw[j] at h2
     cases h2
     exact ⟨p,b,d,l,rfl,D,h1,Rk.ok q l s H1 s1 o⟩
   .exact q.elim
  .exact q.elim
 .exact k.elim
noncomputable def pP(i:Nat)(f g:Sg->R Dz):Sg->R Fw:=fun ρ=>(g ρ).bind fun v=>match ρ[i]? with
 | some (some (.m kvs))=>(f ρ).bind fun k=>if cV k (kvs.map (·.1))=true/\kvs.length<=16777216 then .ok (.nx (ρ.set i (some (.m (putM kvs k v))))) else .bad
 | _=>.bad
def aL0(X:Cx):aEI:=fun o i v H Q=>∃ p es k,o=.ref p/\DicAt X H p es k i/\es.length<=sizeLine/\∀ ep,Q (upd H p (dU X.w p (nX es k i v) ep))
theorem pQ(f:X.A.units+64 < cLine):aPS X (aL0 X):=by
 intro pins s σ H o i v b j u Q I g a d h
 obtain ⟨p,es,k,rfl,D,e,q⟩:=h
 cases (show b=Value.ref p from g)
 exact aNC f D I a d e fun ep s' c=>⟨_,c,q ep⟩
theorem sG{i:Nat}{f g:Sg->R Dz}(A:X.K=c.K)(r:X.w=c.w)(h:PS X st (lT (tV (dN c) c E g) (aPU (jK i) (tV (dN c) c E f) (aL0 X)))):PSf X c E st (pP i f g):=PS.imp h fun D σ H ⟨ρ,F,ab,k⟩=>by
 refine ⟨ρ,F,ab,(Rk.bind k).imp fun x _ q v t H1 s1 r1=>?_⟩
 split at q
 .rename_i n hi
  have a:=ab.ext s1
  obtain ⟨_,o,p,es,rfl,_⟩:=a.slot i _ hi
  refine ⟨_,o,ρ,t,a,((Rk.bind q).ext s1).imp fun d _ q u z H2 l r2=>?_⟩
  have b:=a.ext l
  split at q
  .rename_i s
   obtain ⟨B,e,j,y,m⟩:=aFB A r b hi r2 s.1
   rw[o] at j
   cases j
   refine ⟨p,e,d,rfl,y,?_,?_⟩
   .have:e.length=n.length:=by have:=DG List.length m.k1;simpa using this
    rw[this,dO];exact s.2
   .intro ep
    rw[r]
    exact Rk.ok q σ z _ (s1.trans l).ff (b.putM hi o (m.put r2 (DatV.same l.ff r1)))
  .exact q.elim
 .exact q.elim
end
section
variable{X:Cx}{c:Ct}{E:XK}{e a b:E1}{st:Stmt}{pos p2:Pos}
def aBI(fs:Dz->Sg->O9 Sg)(f:Sg->R Dz):Sg->R Fw:=fun ρ=>(f ρ).bind fun x=>(nY (fs x ρ)).bind fun ρ'=>.ok (.nx ρ')
theorem aBJ{g:TG}{fs:Dz->Sg->O9 Sg}{is:List Nat}{f:Sg->R Dz}(i:Tg c g fs is)(h:PS X st (lT (tV (dN c) c E f) g)):PSf X c E st (aBI fs f):=PS.imp h fun D σ H a=>by
 obtain ⟨ρ,F,ab,k⟩:=a
 refine ⟨ρ,F,ab,(Rk.bind k).imp fun x _ q v e H1 s1 r1=>?_⟩
 cases h1:fs x ρ with
 | none=>rw[h1] at q;exact q.elim
 | some ρ'=>
  rw[h1] at q
  exact i v x ρ ρ' σ e H1 _ (ab.ext s1) r1 h1 fun b _ _ d=>Rk.ok q b e H1 s1.ff d
noncomputable def aQV:Dz->R Dz
 | .str z=>if z.length<=16777216 then .ok (.str ⟨z.cps.toList.reverse.toArray⟩) else .bad
 | _=>.bad
def aU8(f:Sg->R Dz)(g:Sg->R (O9 Int)):Sg->R Dz:=fun ρ=>(f ρ).bind fun x=>(g ρ).bind fun o=>if o=some (-1) then aQV x else .bad
end
theorem aQW{P:P9}{w:W9}{K:Frag}{mg:Str->O9 V9}{base:H9}{T:Hp}{x:Str}{st:Stmt}{N ps:List Str}{k:Nat}{f:Az}{fd:FuncData}{fb:Sg->R Fw}(e:Fun K x x st f fd)(S:FnScope N ps (aK st))
  (a:∀ (cdv:V9) (A:U9) (outer:List Env) (s:S9) (H F:Hp) (E:XK),Room k (A.deeper (envOfC x (aK st) s.heap.objs.size f cdv))->
   kJ ((iS (CXe P w) P w K mg base N x (aK st) f cdv A outer s H E).fly E) ⟨K,mg,w,F,H,gOf P w K mg base T,(envOfC x (aK st) s.heap.objs.size f cdv).cells,fun _=>none⟩ E (cG st) fb):FnOk P w K mg base (CXe P w) (k+1) f fd ps (spF (gOf P w K mg base T) K mg ps.length (fnF N.length fb)):=by
 refine e.okX S (fun vs H Q E h=>?_) (fun cdv A outer s H vs Q E i h=>?_)
 .obtain ⟨F,d,_,_,h2,b,_⟩:=h
  rw[h2.len,b]
 .obtain ⟨F,d,g,h1,h2,b,c⟩:=h
  exact ⟨_,a cdv A outer s H F E i,oK g h1 h2 c⟩
def aFD(K:Frag)(T:Hp):Sp:=fun vs H Q _=>∃ (a:Az) (ns:List Int),vs=[.ref a]/\ns.length<=63/\aN T H/\SqL K H a (ns.map V.int)/\∀ H',Q (.bl true) H'
theorem aBK{K:Frag}{H:Hp}:∀ (ns:List Int),DatVs K H (ns.map V.int) (ns.map PyData.int)
 | []=>.nil
 | n::t=>.cons (.int n) (aBK t)
theorem aQX{P:P9}{w:W9}{K:Frag}{mg:Str->O9 V9}{base:H9}{T:Hp}{k:Nat}{f:Az}{fd:FuncData}{x:Str}{G:List A->R A}(h:FnOk P w K mg base (CXe P w) k f fd [x] (spF (gOf P w K mg base T) K mg 1 G))
  (b:∀ ns:List Int,ns.length<=63->G [.d (.list (ns.map .int))]=.ok (.d (.bool true))):FnOk P w K mg base (CXe P w) k f fd [x] (aFD K T):=h.imp fun vs H Q E=>by
 rintro ⟨a,ns,rfl,hn,ht,hs,q⟩
 refine ⟨H,[.d (.list (ns.map .int))],ht,cM H,⟨.lst hs (aBK ns),trivial⟩,rfl,?_⟩
 rw[b ns hn]
 intro v c H' _ r
 obtain rfl:=DatV.bl_of r
 exact q H'
theorem aTE(P:P9)(w:W9)(H:Hp)(s:S9)(e:V9)(s':S9)(h:CXe P w [] H s (fun _ _ _=>False) e s'):False:=by
 obtain ⟨_,_,_,_,_,_,_,_,_,_,_,q⟩:=h
 exact q
theorem aNJ{l:PySem.W.OpenLaw}{k:Nat}{q:P9}{b:List Str}{t:(Str->O9 V9)->H9->Prop}{j:W9->H9->Prop}{d:DefRec}{K:Params->Frag}{x:Str}{qs:List (Pos×Str)}{xs:List Str}
  (i:∀ x∈xs,∃ d∈recsOf q,d.name=x) (hNT:∀ w:W9,PySem.W.noTabs (K w.params)=true)
  (A:l.most=some 63) (g:d.params.defaults=[]) (r:Room k callerA)
  (o:∀ (w:W9) (h:H9),j w h->(K w.params).In h)
  (F:∀ (w:W9) (mg:Str->O9 V9) (fa:Az) (h:H9),(K w.params).In h->h.Ns mainGlobals mg->mg d.name=some (.ref fa)->
   ∃ fd:FuncData,(∀ (s:S9) (u:V9),BindsTo s fd ⟨[u],[]⟩ [(x,u)]) /\
    ∀ (base:H9) (T:Hp),(K w.params).In base->base.Ns mainGlobals mg->aA5 mg h base T qs xs->FnOk l.prog w (K w.params) mg base (CXe l.prog w) k fa fd [x] (aFD (K w.params) T)) :
  PySem.W.WalkO q b t j l.row.toRowW d [] (fun f vs=>PySem.call f vs):=
 walk_ofT (K:=K) (CX:=fun w=>CXe l.prog w) (qs:=qs) (xs:=xs) i hNT A (by decide) g r o (fun w mg fa h h1 h2 c=>by
  obtain ⟨fd,p,y⟩:=F w mg fa h h1 h2 c
  exact ⟨fd,p,fun base T h1 h2 c=>⟨_,y base T h1 h2 c,fun H a ns n m v=>⟨a,ns,rfl,n,m,v,fun _=>rfl⟩⟩⟩) fun w H s e s' z=>aTE _ w H s e s' z
variable{X:Cx}{c:Ct}{E:XK}{e:E1}
noncomputable def d2(G:Int->Int->Int):Dz->Dz->R Dz
 | .int i,.int j=>.ok (.int (G i j))
 | _,_=>.bad
noncomputable def d1(G:Int->Int):Dz->R Dz
 | .int i=>.ok (.int (G i))
 | _=>.bad
noncomputable def aBL(i j:Int):Int:=if j < i then j else i
theorem aQY{G:Int->Int->Int}{f g:Sg->R Dz}(h0:PE X e (tCB (fun xs H Q=>∃ i j,xs=[.int i,.int j]/\Q (.int (G i j)) H) (fJ (tV (b9 c) c E f) (fJ (tV (b9 c) c E g) jL)))):PD X c E e (e2 (d2 G) f g):=PE.imp h0 fun σ H Q a=>by
 obtain ⟨ρ,F,ab,k⟩:=a
 refine ⟨ρ,F,ab,(Rk.bind k).imp fun x ex q v b H1 s1 r1=>?_⟩
 refine ⟨ρ,b,ab.ext s1,((Rk.bind q).ext s1).imp fun y _ q u d H2 h r2=>?_⟩
 cases x with
 | int i=>
  cases y with
  | int j=>
   obtain rfl:=bF.int_of r1
   obtain rfl:=bF.int_of r2
   exact ⟨i,j,rfl,Rk.ok q _ d H2 (s1.trans h) (.int _)⟩
  | _=>exact q.elim
 | _=>exact q.elim
end Fl
namespace L2
open PySem PyProof.Rows
variable{X:Cx}
end L2
namespace Fl
open PySem L2 PyProof.Rows
variable{X:Cx}{c:Ct}{E:XK}{e:E1}
variable{X:Cx}{c:Ct}{E:XK}{e:E1}{st:Stmt}
end Fl
namespace L2
open PySem PyProof.Rows
theorem aNK{prog:P9}{w:W9}{A:U9}{E:V9->S9->Prop}{s:S9}{t b:Az}{vs ws:List V9}{Q:V9->S9->Prop}(o:PlainL s.heap t vs.toArray)(m:PlainL s.heap b ws.toArray)
  (h2:Q (.ref s.heap.objs.size) {s with heap:=s.heap.push {cls:=.type "list",data:=.seq (vs++ws).toArray}})
  (hsz:vs.length+ws.length<=sizeLine):wpAny (model prog w) A (binaryOp .Add (.ref t) (.ref b)) Q E s:=by
 obtain ⟨⟨cls,dd,data,sl⟩,n,i,k,_,l⟩:=id o
 obtain ⟨⟨j,f,g,h⟩,n2,d,a,_,c⟩:=id m
 simp only at k l a c
 subst k l a c
 have e:vs.toArray++ws.toArray=(vs++ws).toArray:=by simp
 refine concat_meets ⟨_,i,rfl⟩ ⟨_,d,rfl⟩ noFill_list_add seq_list_add PySem.F.slot_list_add PySem.F.entry_list_add (PySem.F.args_list_add_2 _ _)
   (list_addW t b vs.toArray ws.toArray n n2 dd f sl h (by rw[BG,BG];exact hsz)) ⟨i,d,?_⟩
 rw[e]
 exact h2
theorem aDJ(vs:List V9):∀ (n:Nat) (acc:List V9),(List.replicate n vs.toArray).foldl (· ++ ·) acc.toArray=(acc++(List.replicate n vs).flatten).toArray
 | 0,acc=>by simp
 | n+1,acc=>by
  rw[B9,EW,List.append_toArray,aDJ vs n,B9,DC,EM]
end L2
namespace Fl
open PySem L2 PyProof.Rows
section
variable{X:Cx}{c:Ct}{E:XK}{e a b:E1}{pos:Pos}
theorem aBM{vs:List V}{its:List V9}(h:bJ vs its):∀ n:Nat,bJ (List.replicate n vs).flatten (List.replicate n its).flatten
 | 0=>.nil
 | n+1=>by
  rw[B9,DC,B9,DC]
  exact h.append (aBM h n)
theorem zI{K:Frag}{F:Hp}{vs:List V}{xs:List Dz}(h:DatVs K F vs xs):∀ n:Nat,DatVs K F (List.replicate n vs).flatten (List.replicate n xs).flatten
 | 0=>.nil
 | n+1=>by
  rw[B9,DC,B9,DC]
  exact h.append (zI h n)
noncomputable def nZ:Dz->Dz->R (List Dz)
 | .list xs,.list ys=>if xs.length+ys.length<=sizeLine then .ok (xs++ys) else .bad
 | _,_=>.bad
theorem aNL(A:X.K=c.K):OpR X (binaryOp .Add) (r2D (b9 c) (b9 c) (xJ c) nZ):=by
 intro pins s σ H v u x y Q I w p h
 obtain ⟨D,H1,F,a,b,d,g,o,B,e,q⟩:=h
 unfold nZ at e
 split at e
 .rename_i xs ys
  split at e
  .rename_i z
   cases e
   obtain ⟨E,vs,rfl,n,k⟩:=bF.lst_of g o
   obtain ⟨C,us,rfl,j,m⟩:=bF.lst_of g B
   rw[<-A] at n j
   cases w
   cases p
   obtain ⟨r,r1,t,_⟩:=I.list n
   obtain ⟨l,r2,p2,_⟩:=I.list j
   have f:vs.length+us.length<=sizeLine:=by rw[k.length,m.length];exact z
   have i:=I.fresh
   refine aNK t p2 ?_ (by rw[<-r1.length,<-r2.length];exact f)
   exact ⟨.ref _,_,I.lnew (t':=s.toks) (r1.append r2) (by rw[AK];exact f),rfl,q _ F _ (Ext.own g i) ⟨_,_,rfl,i,aX,bZ g i,k.append m⟩⟩
  .cases e
 .cases e
theorem aHP:eX nZ:=by
 intro a b e h
 unfold nZ at h
 split at h<;>(try split at h)<;>cases h
theorem aHQ(f:X.K=c.K){d fb:Sg->R Dz}(g:PR X c E a d)(e:PR X c E b fb):PN X c E (.BinOp a .Add b pos) (e2 nZ d fb):=
 PE.imp (aEL (aNL f) g e) fun σ H Q h=>tV2 vC aHP (qU c) (aS7 c) h
end
theorem r6{H:Hp}{p:Az}{a b:HO}:upd (upd H p a) p b=upd H p b:=by
 funext x
 by_cases q:x=p
 · subst q; rw [aX, aX]
 · rw [aJ q, aJ q, aJ q]
section
variable{X:Cx}{pins:List (Az×Obj)}{σ:L2.St}{H:Hp}{s:S9}{a:Az}{es:List Ent}{k:Dz}{kv v:V}{ku u:V9}{A:U9}{E:V9->S9->Prop}
theorem aFE{A:U9}(a:A.units+64 < cLine):(jW X.prog X.w).room A:=by show A.units+9 < cLine;omega
theorem aNM{Q:Unit->S9->Prop}(C:A.units+64 < cLine)(D:DicAt X H a es k kv)(I:Inv X pins σ H s)(B:bE kv ku)(x:bE v u)(t:es.length<=sizeLine)(h:∀ ep s',Inv X pins σ (upd H a (dU X.w a (nX es k kv v) ep)) s'->Q () s') :
  wpAny (model X.prog X.w) A (dictSet a ku u) Q E s:=by
 obtain ⟨y,⟨b,xs,rfl,rfl,f,m,dd⟩|⟨F,xs,rfl,rfl,f,m,dd⟩⟩:=D.cases I B
 .have g:xs.length<=sizeLine:=by rw[<-Paired.length f];exact t
  refine wpAny_dictSet_heap (a:=b) (aFE C) m dd (fun h' c q=>?_) g
  obtain ⟨e,ar,ep,d,h2,n,j,_,r⟩:=c
  obtain ⟨p,i⟩:=D.o
  refine h ep _ (sB I (by rw[i];exact True.intro) q ⟨e,d⟩ (mK y ⟨e,ar,d,h2,n,?_⟩))
  rw[j]
  exact tU (aLT x f)
 .have g:xs.length<=sizeLine:=by rw[<-Paired.length f];exact t
  refine wpAny_dictSet_pairs m dd (fun h' c q=>?_) g
  obtain ⟨e,ar,ep,d,h2,n,j,r,_⟩:=c
  obtain ⟨p,i⟩:=D.o
  refine h ep _ (sB I (by rw[i];exact True.intro) q ⟨e,d⟩ (mK y ⟨e,ar,d,h2,n,?_⟩))
  exact tW (aLV x f) r fun z l=>j z (by simpa using l)
end
abbrev TP:=L2.St->Hp->(List (V×V)->Hp->Prop)->Prop
def aQZ(p:V×V)(u:V9×V9):Prop:=bE p.1 u.1/\bE p.2 u.2
def PPr(X:Cx)(keys:List (O9 E1))(vals:List E1)(t:TP):Prop:=∀ (pos:Pos) (pins:List (Az×Obj)) (s:S9) (σ:L2.St) (H:Hp) (Q:List (V×V)->Hp->Prop),Inv X pins σ H s->t σ H Q->
 wpAny (model X.prog X.w) X.A (evalPairs (pairTrees keys vals X.env pos)) (fun vs s'=>∃ ps H',Inv X pins σ H' s'/\Paired aQZ ps vs/\Q ps H') X.xe s
def aTF:TP:=fun _ H Q=>Q [] H
def aQ0(tk tv:TE)(t:TP):TP:=fun σ H Q=>tk σ H fun x H1=>tv σ H1 fun y H2=>t σ H2 fun ps H3=>Q ((x,y)::ps) H3
section
variable{X:Cx}{c:Ct}{E:XK}{e a b:E1}{st:Stmt}{pos:Pos}
theorem aQ1:PPr X [] [] aTF:=fun pos pins s σ H Q I h=>evalPairs_nil ⟨[],H,I,.nil,h⟩
theorem aNN{k v:E1}{ks:List (O9 E1)}{vs:List E1}{tk tv:TE}{t:TP}(e:PE X k tk)(d:PE X v tv)(i:PPr X ks vs t):PPr X (some k::ks) (v::vs) (aQ0 tk tv t):=by
 intro pos pins s σ H Q I h
 rw[pairTrees.eq_1]
 refine evalPairs_cons (thn (e pins s σ H _ I h) fun ku s1 a=>?_)
 obtain ⟨x,H1,l,r1,j⟩:=a
 refine AA (thn (d pins s1 σ H1 _ l j) fun p g a=>?_)
 obtain ⟨y,H2,m,r2,c⟩:=a
 refine AA (CU (AE ?_))
 exact thn (i pos pins g σ H2 _ m c) fun vs o ⟨ps,H3,n,b,f⟩=>⟨(x,y)::ps,H3,n,.cons ⟨r1,r2⟩ b,f⟩
noncomputable def iW:List (Dz×Dz)->List (Dz×Dz)->R (List (Dz×Dz))
 | acc,[]=>.ok acc
 | acc,(k,v)::t=>if cV k (acc.map (·.1))=true/\acc.length<=16777216 then iW (putM acc k v) t else .bad
def aJ8(K:Frag)(F:Hp)(p:V×V)(d:Dz×Dz):Prop:=DatV K F p.1 d.1/\DatV K F p.2 d.2
theorem aHR{pins:List (Az×Obj)}{σ:L2.St}{p:Az}{F:Hp}(L:X.A.units+64 < cLine)(b:List (Dz×Dz)):∀ (ps:List (V×V)) (vs:List (V9×V9)) (acc res:List (Dz×Dz)) (es:List Ent) (ep:Nat) (H:Hp) (s:S9) (Q:S9->Prop),
  Inv X pins σ H s->aN F H->F p=none->H p=some (dU X.w p es ep)->MapRel X.K F es acc->Paired (aJ8 X.K F) ps b->Paired aQZ ps vs->iW acc b=.ok res->
  (∀ es' ep' s',Inv X pins σ (upd H p (dU X.w p es' ep')) s'->MapRel X.K F es' res->Q s')->wpAny (model X.prog X.w) X.A (storeAll p vs) (fun _ s=>Q s) X.xe s:=by
 induction b with
 | nil=>
  intro ps vs acc res es ep H s Q I f i B m d r e q
  cases d
  cases r
  cases e
  have g:storeAll p []=pure PUnit.unit:=by unfold storeAll;rw[List.forIn_nil]
  rw[g]
  refine AE (q es ep s ?_ m)
  have:upd H p (dU X.w p es ep)=H:=by
   funext x
   by_cases z:x=p
   .subst z;rw[aX,B]
   .rw[aJ z]
  rw[this];exact I
 | cons kv t ih=>
  obtain ⟨k,v⟩:=kv
  intro ps vs acc res es ep H s Q I f i B m d r e q
  cases d with
  | @cons x _ ps _ d ds=>
   cases r with
   | @cons _ u _ vs r rs=>
    unfold iW at e
    split at e
    .rename_i g
     have D:DicAt X H p es k x.1:=⟨⟨ep,B⟩,fun e J=>(nI m.k1 m.k2 e J).same f,by rw[m.k1];exact m.nd,d.1.same f,by rw[m.k1];exact g.1⟩
     have C:es.length<=sizeLine:=by
      have:es.length=acc.length:=by simpa using congrArg List.length m.k1
      rw[this,dO];exact g.2
     have n:storeAll p (u::vs)=(do dictSet p u.1 u.2;storeAll p vs):=by
      unfold storeAll
      rw[DS]
      simp
     rw[n]
     refine AA (aNM L D I r.1 r.2 C fun j s' G=>?_)
     have E:=m.put d.1 d.2
     have y:aN F (upd H p (dU X.w p (nX es k x.1 x.2) j)):=fun a o z=>by rw[aJ (bL z i)];exact f a o z
     refine ih ps vs _ res _ _ _ s' Q G y i aX E ds rs e fun es' ep' l c h=>?_
     rw[r6] at c
     exact q es' ep' l c h
    .cases e
def aL1(X:Cx)(tp:TP):TE:=fun σ H Q=>∀ p,H p=none->tp σ (upd H p (dU X.w p [] 0)) fun ps H2=>∃ (F:Hp) (kvs res:List (Dz×Dz)),aN F H2/\F p=none/\H2 p=some (dU X.w p [] 0)/\Paired (aJ8 X.K F) ps kvs/\iW [] kvs=.ok res /\
 ∀ es' ep',MapRel X.K F es' res->Q (.ref p) (upd H2 p (dU X.w p es' ep'))
theorem aNO{b:List (O9 E1)}{c:List E1}{l:TP}(B:X.A.units+64 < cLine)(h:PPr X b c l)(h1:(b.all fun x=>x.isSome)=true:=by rfl)(h2:b.length=c.length:=by rfl)(h3:b≠[]:=by exact fun z=>nomatch z)(h4:b.length<=15:=by decide):PE X (.Dict b c pos) (aL1 X l):=by
 intro pins s σ H Q I q
 have y:=I.laid (a:=s.heap.objs.size) (o:=dU X.w s.heap.objs.size [] 0) (t':=s.toks) (fun _ _ q=>AI {cls:=.type "dict",data:=.dict #[]} q) (AG _)
  (mK (DE.mpr (BZ (BB I.big))) ⟨_,#[],BA _ rfl,⟨rfl,rfl,rfl⟩,rfl,.nil⟩)
 have v:=q _ (I.hok.fresh (AG _))
 refine wpAny_Dict_any h1 h2 h3 h4 (thn (h pos pins _ σ _ _ y v) fun vs p j=>?_)
 obtain ⟨ps,H2,C,r,F,i,g,t,u,D,d,e,z⟩:=j
 exact aHR B i ps vs [] g [] 0 H2 p _ C t u D ⟨rfl,.nil,.nil,E5⟩ d r e fun k f s' n m=>⟨.ref s.heap.objs.size,_,n,rfl,z k f m⟩
def aQ2(c:Ct)(E:XK)(f:Sg->R (List (Dz×Dz))):TP:=fun σ H Q=>∃ ρ F,Ab c ρ σ F H/\Rk c E F H (f ρ) fun kvs=>∀ ps F' H',Ext F H F' H'->Paired (aJ8 c.K F') ps kvs->Q ps H'
abbrev PPf(X:Cx)(c:Ct)(E:XK)(keys:List (O9 E1))(vals:List E1)(f:Sg->R (List (Dz×Dz))):Prop:=PPr X keys vals (aQ2 c E f)
theorem PPr.imp{X:Cx}{ks:List (O9 E1)}{vs:List E1}{t t':TP}(h:PPr X ks vs t)(i:∀ σ H Q,t' σ H Q->t σ H Q):PPr X ks vs t':=fun pos pins s σ H Q I q=>h pos pins s σ H Q I (i σ H Q q)
noncomputable def aFF:Sg->R (List (Dz×Dz)):=fun _=>.ok []
def aAB(f g:Sg->R Dz)(r:Sg->R (List (Dz×Dz))):Sg->R (List (Dz×Dz)):=fun ρ=>(f ρ).bind fun x=>(g ρ).bind fun y=>(r ρ).bind fun t=>.ok ((x,y)::t)
theorem aNP:PPf X c E [] [] aFF:=PPr.imp aQ1 fun σ H Q ⟨ρ,F,ab,k⟩=>Rk.ok k [] F H (Ext.refl ab.fh) .nil
theorem aJ9{k v:E1}{ks:List (O9 E1)}{vs:List E1}{f g:Sg->R Dz}{r:Sg->R (List (Dz×Dz))}(m:PD X c E k f)(l:PD X c E v g)(n:PPf X c E ks vs r):PPf X c E (some k::ks) (v::vs) (aAB f g r):=PPr.imp (aNN m l n) fun σ H Q d=>by
 obtain ⟨ρ,F,ab,k⟩:=d
 refine ⟨ρ,F,ab,(Rk.bind k).imp fun x _ q v e H1 s1 r1=>?_⟩
 refine ⟨ρ,e,ab.ext s1,((Rk.bind q).ext s1).imp fun y _ q u i H2 a r2=>?_⟩
 refine ⟨ρ,i,ab.ext (s1.trans a),((Rk.bind q).ext (s1.trans a)).imp fun t _ q ps h H3 b j=>?_⟩
 exact Rk.ok q _ h H3 ((s1.trans a).trans b) (.cons ⟨DatV.same (a.trans b).ff r1,DatV.same b.ff r2⟩ j)
noncomputable def aAC(i:Nat)(f:Sg->R (List (Dz×Dz))):Sg->R Fw:=fun ρ=>(f ρ).bind fun kvs=>(iW [] kvs).bind fun res=>.ok (.nx (ρ.set i (some (.m res))))
theorem zJ:∀ (kvs acc:List (Dz×Dz)) (x:Er),iW acc kvs≠.ex x
 | [],acc,x,h=>by cases h
 | (k,v)::t,acc,x,h=>by
  unfold iW at h
  split at h
  · exact zJ t _ x h
  · cases h
theorem aNQ{i:Nat}{f:Sg->R (List (Dz×Dz))}(u:X.K=c.K)(y:X.w=c.w)(h:PS X st (lT (aL1 X (aQ2 c E f)) (kE i))):PSf X c E st (aAC i f):=PS.imp h fun D σ H ⟨ρ,F,ab,k⟩=>fun p d=>by
 have e1:=Ext.own (F:=F) (o:=dU X.w p [] 0) ab.fh d
 refine ⟨ρ,F,ab.ext e1,((Rk.bind k).ext e1).imp fun g _ q ps j H2 b r2=>?_⟩
 have l:j p=none:=b.stay (bZ ab.fh d) aX (fun _ z=>aA9 z)
 have h2:H2 p=some (dU X.w p [] 0):=b.hh _ _ aX
 cases e:iW [] g with
 | bad=>rw[e] at q;exact q.elim
 | ex x=>exact absurd e (zJ _ _ _)
 | ok res=>
  rw[e] at q
  refine ⟨j,g,res,b.fh,l,h2,by rw[u];exact r2,e,fun s r m=>?_⟩
  have t:Ext F H j (upd H2 p (dU X.w p s r)):=by
   refine ⟨fun a o z=>?_,b.ff,fun a o z=>?_,fun a z n=>?_⟩
   .have v:a≠p:=bL z d
    rw[aJ v]
    exact b.hh a o (by rw[aJ v];exact z)
   .rw[aJ (bL z l)];exact b.fh a o z
   .have:=b.nw a z n
    by_cases w:a=p
    · subst w; exact .inl d
    · unfold mD at this; rw [aJ w] at this; exact this
  rw[y] at t ⊢
  rw[u] at m
  exact Rk.ok q _ j _ b.ff (ab.setM t d aX l m)
end
section
variable{X:Cx}{c:Ct}{E:XK}{e a b:E1}{st:Stmt}{pos:Pos}
noncomputable def aQ3(i:Nat)(f g:Sg->R Dz):Sg->R Dz:=fun ρ=>match ρ[i]? with
 | some (some (.m kvs))=>(f ρ).bind fun k=>(g ρ).bind fun y=>if cV k (kvs.map (·.1))=true then .ok ((fM kvs k).getD y) else .bad
 | _=>.bad
end
end Fl
namespace L2
open PySem PySem.Spec PyProof.Rows
def aBN(X:Cx)(σ0:St)(E:XK)(ev:V9)(s':S9):Prop:=∃ e C od H',ev=.ref e/\Inv X [] σ0 H' s'/\FlyAt X H' s'.heap e C od false/\E (.ref C) (some e) H'
abbrev Cx.flyS(X:Cx)(σ0:St)(E:XK):Cx:=X.wish (aBN X σ0 E)
section
variable{X:Cx}
theorem aTG{E:XK}{σ:St}{pins:List (Az×Obj)}{H:Hp}{s:S9}{i:V9}{s':S9}(I:Inv (X.flyS σ E) pins σ H s)(h:CXe X.prog X.w X.stack H s E i s'):aBN X σ E i s':=by
 obtain ⟨e,C,od,H',rfl,os,a,un,c,n,⟨vs,T,o,k,m⟩,q⟩:=h
 have d:Inv X pins σ H s:=I.unwish
 have r:Inv X [] σ H s:=d.pins_of fun p f=>absurd f (by simp)
 have u:Inv X [] σ H' s':=r.call' os un c a (fun b j=>absurd j (by simp))
 refine ⟨e,C,od,H',rfl,u,⟨n,vs,T,o,k,fun t e1=>?_,fun z=>nomatch z⟩,q⟩
 obtain ⟨l,g⟩:=m t e1
 refine ⟨l,BI d.sz g,fun p f z=>?_⟩
 have:=AQ (d.pin p (CP _ f)).1
 rw[z] at this
 exact absurd (A3 this g) (B5 _)
theorem aNR{CX:CXT}{k:Nat}{f:Az}{fd:FuncData}{ps:List Str}{sp:Sp}{E:XK}{pins:List (Az×Obj)}{σ:St}{H:Hp}{s:S9}{Q:VK}{us:List V9}{vs:List V}{W:V9->S9->Prop}(F:FnOk X.prog X.w X.K X.mg X.base CX k f fd ps sp)(d:Room k X.A)(c:fA X.K fd ps [])
  (hx:∀ e s',CX X.stack H s E e s'->W e s') (I:Inv X pins σ H s) (r:bJ vs us) (h:sp (vs++[]) H Q E):wpAny (model X.prog X.w) X.A (call (.ref f) us) (EP X pins σ Q) W s:=by
 have r2:bJ (vs++[]) (us++[]):=r.append .nil
 have b:(us++[]).length=ps.length:=by rw[<-r2.length];exact F.len _ _ _ _ h
 refine EQ (EN (F.run X.A X.stack s H ⟨us,[]⟩ (us++[]) (vs++[]) Q E d I.env0 (c s us I.kIn b) r2 h) fun r s' a=>?_)
 cases r with
 | error e=>exact hx e s' a
 | ok fl=>
  cases fl with
  | ret u=>exact I.after a
  | next=>exact False.elim a
  | brk=>exact False.elim a
  | cont=>exact False.elim a
def PCl(X:Cx)(σ:St)(E:XK)(e:E1)(t:TE):Prop:=∀ (pins:List (Az×Obj)) (s:S9) (H:Hp) (Q:VK),Inv (X.flyS σ E) pins σ H s->t σ H Q->wpAny (model X.prog X.w) X.A (eval e X.env) (EP (X.flyS σ E) pins σ Q) (aBN X σ E) s
theorem aQ4{k:Nat}{x:Str}{ps:List Str}{sp:Sp}{E:XK}{σ:St}{e:E1}{es:List E1}{t:TA}{p pos:Pos}(C:Calls X.prog X.w X.K X.mg X.base (CXe X.prog X.w) k x ps sp)(i:Room k X.A)(d:Gl X x)(j:PA (X.flyS σ E) (e::es) t)(a:(x == ("__debug__":Str))=false:=by decide)
  (he:starEach (e::es) X.env=(false,eval e X.env)::starEach es X.env:=by rfl) (hpl:(backTo pos (starEach es X.env)).any (·.1)=false:=by rfl):PCl X σ E (.Call (.Name x p) (e::es) [] pos) (uT sp [] E t):=by
 obtain ⟨f,fd,F,b,m,g⟩:=C
 intro pins s H Q I h
 refine CZ (j6 (X:=X.flyS σ E) I d m ?_ a)
 refine DO (h₀:=X.base) I.ok.mod.kin g (thn (j pos pins s σ H _ I h) fun us s1 ⟨vs,H1,c,r,q⟩=>⟨c.kIn,?_⟩) he hpl
 exact aNR (X:=X.flyS σ E) F i b (fun e s' z=>aTG c z) c r q
theorem aHS{e:E1}{t:TE}{E:XK}{σ:St}{pos:Pos}{pins:List (Az×Obj)}{s:S9}{H:Hp}{D:lZ}(i:PCl (X.pnw (X.pn++pins)) σ E e t)(I:Inv X pins σ H s)(h:t σ H fun _ H1=>D.nx σ H1)(d:swapsWith e none pos.line X.env=pure false:=by rfl) :
  wpAny (model X.prog X.w) X.A (execs [.Expr e pos] X.env) (fun f s1=>SP X pins D f s1) (aBN (X.pnw (X.pn++pins)) σ E) s:=by
 have c:=I.toPn
 have a:Inv ((X.pnw (X.pn++pins)).flyS σ E) [] σ H s:=c.wish _
 refine GH (thn (Q:=fun f s1=>SP ((X.pnw (X.pn++pins)).flyS σ E) [] D f s1) (wpAny_Expr_any (thn (i [] s H _ a h) fun v s1 ⟨x,H1,c,r1,g⟩=>⟨σ,H1,c,g⟩) a.quiet d) fun f s1 q=>?_)
 have b:=SP.ofPn q
 cases f with
 | next=>exact EG b
 | ret v=>exact b
 | brk=>exact b
 | cont=>exact b
end
end L2
namespace Fl
open PySem L2 PyProof.Rows
theorem Ab.off'{c:Ct}{ρ:Sg}{σ:L2.St}{F H:Hp}(b:Ab c ρ σ F H)(i:Nat):Ab c (ρ.set i none) (σ.set i none) F H where
 len:=by rw[C8,C8];exact b.len
 fh:=b.fh
 slot:=fun j a h=>by
  rcases get_set h with ⟨e,q,m⟩|⟨g,q⟩
  .cases q
  .obtain ⟨v,h1,h2⟩:=b.slot j a q
   exact ⟨v,by rw[BN g];exact h1,h2⟩
 apart:=fun j k a o l h1 h2 n r=>by
  rcases get_set h1 with ⟨e,q,m⟩|⟨g,q⟩
  .cases q
  .rcases get_set h2 with ⟨s,f,p⟩|⟨d,f⟩
   .cases f
   .rw[BN g,BN d]
    exact b.apart j k a o l q f n r
 f0:=b.f0
 h0:=b.h0
 n0:=b.n0
 t0:=b.t0
noncomputable def xV(i:Nat):Fw->Fw
 | .nx ρ=>.nx (ρ.set i none)
 | .bk ρ=>.bk (ρ.set i none)
 | .ct ρ=>.ct (ρ.set i none)
 | .rt a=>.rt a
def aDK(K:Frag)(mg:Str->O9 V9)(Wc:Az)(cl:List Str):Prop:=∀ nm∈cl,∃ C bm,mg nm=some (.ref C)/\SX.ExcAny K C bm/\(Value.ref C::bm).contains (.ref Wc)=true
section
variable{X:Cx}{c:Ct}{E:XK}
noncomputable def eXF(i:Nat)(cs:List Str)(g:Str):Sg->R Dz:=fun ρ=>match ρ[i]? with
 | some (some (.x e))=>if cs.contains e.c=true then (match e.fs.lookup g with|some d=>.ok d|none=>.bad) else .bad
 | _=>.bad
def aQ5(K:Frag)(mg:Str->O9 V9)(cs:List Str)(g:Str):Prop:=∀ nm∈cs,∃ W C,mg nm=some (.ref C)/\SX.ExcC K W C/\PySem.W.findIn K (.ref C) g=some none
theorem aBO{K:Frag}{F:Hp}{g:Str}{d:Dz}:∀ {fvs:List (Str×V)} {fs:List (Str×Dz)},fvs.map (·.1)=fs.map (·.1)->DatVs K F (fvs.map (·.2)) (fs.map (·.2))->fs.lookup g=some d->∃ v,fvs.lookup g=some v/\DatV K F v d
 | [],[],_,_,h=>by cases h
 | [],_::_,h,_,_=>by cases h
 | _::_,[],h,_,_=>by cases h
 | (a,v)::fvs,(b,x)::fs,h,r,e=>by
  rw[AL,AL] at h r
  injection h with h1 h2
  obtain ⟨v',t,e1,r1,r2⟩:=r.cons_of
  rw[EZ] at e1
  obtain ⟨rfl,rfl⟩:=e1
  simp only at h1
  subst h1
  rw[BC] at e ⊢
  cases q:(g == a) with
  | true=>rw[q] at e;cases e;exact ⟨v,rfl,r1⟩
  | false=>rw[q] at e;exact aBO h2 r2 e
theorem aTH{i:Nat}{cs:List Str}{g:Str}{e:E1}(A:X.K=c.K)(s:X.mg=c.mg)(r:aQ5 X.K X.mg cs g)(h:PE X e (aLO X.K (jK i) g)):PD X c E e (eXF i cs g):=PE.imp h fun σ H Q ⟨ρ,F,ab,k⟩=>by
 unfold eXF at k
 split at k
 .rename_i t hi
  split at k
  .rename_i b
   split at k
   .rename_i d j
    obtain ⟨v,q,a,C,rfl,m,od,h1,h2⟩:=ab.slot i _ hi
    obtain ⟨W,z,l,o,p⟩:=r t.c (by simpa using b)
    rw[s,m] at l
    cases l
    rcases h2 with h2|⟨dd,f,e1,e2,w,n⟩
    .rw[h2.1] at j;cases j
    .subst e1
     obtain ⟨u,x,y⟩:=aBO w n j
     exact ⟨_,q,a,W,C,dd,f,u,rfl,o,p,ab.fh _ _ h1,ab.fh _ _ e2,x,Rk.ok k u F H (Ext.refl ab.fh) y⟩
   .exact k.elim
  .exact k.elim
 .exact k.elim
end
section
variable{P:P9}{w:W9}{K:Frag}{mg:Str->O9 V9}{base:H9}
theorem aBP{x:Str}{fs:List Str}{W C:Az}(a:ErrAt P w K mg base x fs W C):aDK K mg C [x]:=fun nm h=>by
 rw[A4.mp h]
 exact ⟨C,_,a.m,a.c.any,by simp⟩
theorem aHT{x:Str}{fs:List Str}{W C:Az}(a:ErrAt P w K mg base x fs W C){g:Str}(h:g∈fs):aQ5 K mg [x] g:=fun nm b=>by
 rw[A4.mp b]
 exact ⟨W,C,a.m,a.c,a.na g h⟩
end
def Is1(K:Frag)(mg:Str->O9 V9)(nm q:Str)(b:Bool):Prop:=∃ D C,mg q=some (.ref D)/\mg nm=some (.ref C)/\PySem.W.kitOne K (.ref C) (.ref D)=some b
section
variable{X:Cx}{c:Ct}{E:XK}{e:E1}{P:P9}{w:W9}{base:H9}
end
end Fl
namespace L2
open PySem PySem.Spec PyProof.Rows
theorem cF.got{P:P9}{w:W9}{H:Hp}{h:H9}{a:Az}{o:HO}(x:cF P w H h a o):∃ u,h.get? a=some u:=by
 cases o with
 | lst xs=>obtain ⟨_,_,_,_,e⟩:=x;exact ⟨_,e⟩
 | tup xs=>obtain ⟨_,_,_,⟨o,e,_⟩⟩:=x;exact ⟨_,e⟩
 | dK kvs=>obtain ⟨_,_,_,_,o,_,_,e,_⟩:=x;exact ⟨_,e⟩
 | dT kvs=>obtain ⟨_,_,_,_,o,_,_,e,_⟩:=x;exact ⟨_,e⟩
 | set S n=>obtain ⟨o,_,_,_,e,_⟩:=x;exact ⟨_,e⟩
 | ins C dx fs=>obtain ⟨_,_,_,e,_⟩:=x;exact ⟨_,e⟩
 | own y=>exact x
 | xd fs=>obtain ⟨_,⟨_,_,_,e,_⟩,_⟩:=x;exact ⟨_,e⟩
 | rng lo hi=>obtain ⟨_,_,_,e⟩:=x;exact ⟨_,e⟩
 | frz ob u=>exact ⟨_,x.1⟩
 | tbl ps=>obtain ⟨_,e,_⟩:=x;exact ⟨_,e⟩
 | cod q=>obtain ⟨c,o,vs,t,e,b,_⟩:=x;cases e;exact ⟨_,b⟩
 | met f y=>exact ⟨_,x⟩
 | ext φ=>exact x.2.1
theorem HOk.free{P:P9}{w:W9}{H:Hp}{h:H9}{a:Az}(x:HOk P w H h)(e:h.get? a=none):H a=none:=by
 cases q:H a with
 | none=>rfl
 | some u=>
  obtain ⟨o,z⟩:=(x a u q).got
  rw[e] at z;cases z
theorem Inv.laidN{X:Cx}{pins:List (Az×Obj)}{σ:St}{H:Hp}{s:S9}{h':H9}{a:Az}{o:HO}{t':Nat}(I:Inv X pins σ H s)(k:∀ b u,s.heap.get? b=some u->h'.get? b=some u)(g:s.heap.get? a=none)(new:cF X.prog X.w (upd H a o) h' a o) :
  Inv X pins σ (upd H a o) {s with heap:=h',toks:=t'}:=by
 have d:H a=none:=I.hok.free g
 refine I.un ⟨fun b u q _ _ _=>k b u q,fun b u q _ _ _=>⟨u.slots,k b u q⟩,fun b u q n _=>?_,fun b u q _=>⟨u,k b u q⟩,fun b xs q=>by rw[aJ (bL q d)];exact q,fun b u xs q=>by rw[aJ (bL q d)];exact q,fun b ps q=>by rw[aJ (bL q d)];exact q⟩ fun b u e=>?_
 .rw[aJ (fun z=>by rw[z,g] at q;cases q)];exact n
 .by_cases f:b=a
  .subst f;rw[aX] at e;cases e;exact new
  .rw[aJ f] at e
   exact (I.hok b u e).stay (fun c v _ q=>k c v q) (fun c q=>by rw[aJ (bL q d)];exact q) (fun c xs q=>by rw[aJ (bL q d)];exact q) fun c xs q=>by rw[aJ (bL q d)];exact q
structure ErrP(K:Frag)(mg:Str->Option V9)(x:Str)(W C:Az):Prop where
 c:SX.ExcC K W C
 m:mg x=some (.ref C)
 lk:∃ nm q N bs sn sub ab col dd k0 k1 k2 k3 k5,K.lookup C=some (excClassObj nm q C N bs (.ref W::SX.f8) true sn sub ab col dd k0 k1 k2 k3 k5 "ValueError.__new__")/\PySem.W.nsOkIn K N=true/\PySem.W.nsIn K N "__init__"=some none
 lw:∃ c0 dd cd sl,K.lookup W=some ⟨c0,dd,.cls cd,sl⟩/\PySem.W.nsOkIn K cd.ns=true/\PySem.W.nsIn K cd.ns "__init__"=some none
def xW(C:Az)(E:XK)(ta:TA):TS:=fun _ σ H=>ta σ H fun vs H1=>vs.length<=1000/\∀ e,H1 e=none->E (.ref C) (some e) (upd H1 e (ExO e C none))
theorem aL2{K:Frag}{h:H9}{N:Az}{n:Str}(X:K.In h)(a:PySem.W.nsOkIn K N=true)(b:PySem.W.nsIn K N n=some none):∃ m,h.Ns N m/\m n=none:=by
 have:=Heap.Ns.of_isNs (PySem.W.isNs_of_in X a)
 exact ⟨_,this,PySem.W.ns_none_of X this b⟩
section
variable{X:Cx}{E:XK}{W C:Az}{x:Str}{np cpos pos:Pos}{e0:E1}{rest:List E1}{ta:TA}
theorem zK(M:X.calm=true)(j:ErrP X.K X.mg x W C)(R:Gl X x)(U:PA (X.fly E) (e0::rest) ta)(B:(x == ("__debug__":Str))=false:=by decide)
  (he:starEach (e0::rest) X.env=(false,eval e0 X.env)::starEach rest X.env:=by rfl) (hpl:(backTo cpos (starEach rest X.env)).any (·.1)=false:=by rfl) :
  PS (X.fly E) (.Raise (some (.Call (.Name x np) (e0::rest) [] cpos)) none pos) (xW C E ta):=by
 intro pins s σ H D I h
 obtain ⟨nm,q,N,bs,sn,sub,ab,col,dd,k0,k1,k2,k3,k5,lk,F,k⟩:=j.lk
 obtain ⟨c0,dw,cd,sl,lw,o,n⟩:=j.lw
 have b:wpAny (model X.prog X.w) X.A (eval (.Call (.Name x np) (e0::rest) [] cpos) X.env) (fun v s1=>∃ e od vs,v=.ref e/\s1.heap.get? C=some (excClassObj nm q C N bs (.ref W::SX.f8) true sn sub ab col dd k0 k1 k2 k3 k5 "ValueError.__new__") /\
   s1.heap.get? e=some {cls:=.ref C,dict:=od,data:=.fields vs}/\vs[1]? = some .none/\Fly X E (.ref e) s1) (Fly X E) s:=by
  refine CZ (j6 (X:=X) I.unwish R j.m ?_ B)
  refine DO (h₀:=X.base) I.ok.mod.kin j.c.kp (thn (U cpos pins s σ H _ I h) fun us s1 ⟨vs,H1,i,r,Z,Q⟩=>⟨i.kIn,?_⟩) he hpl
  have u:Inv X pins σ H1 s1:=i.unwish
  obtain ⟨J,g,d,tk,os⟩:=s1
  have l:us.length<=sizeLine:=by rw[<-r.length,ET];omega
  have kin:X.K.In J:=u.kIn
  obtain ⟨Y,T,G⟩:=aL2 kin F k
  obtain ⟨V,S,y⟩:=aL2 kin o n
  refine wpAny_call_exc_subT F8 (.own (kin _ _ lw) S y .base) (kin _ _ lk) T G (fun h' e a=>?_) l
  obtain ⟨t,f,_,_⟩:=a.there
  have L:Inv X pins σ (upd H1 e (ExO e C none)) ⟨h',g,d,tk,os⟩:=u.laidN (t':=tk) a.keeps a.new (aAS f)
  have O:=Q e (u.hok.free a.new)
  have P:Inv X [] σ (upd H1 e (ExO e C none)) ⟨h',g,d,tk,os⟩:=L.pins_of fun p J=>absurd J (by simp)
  exact ⟨e,none,_,rfl,L.kIn _ _ lk,f,rfl,e,C,none,σ,_,rfl,P,⟨aX,_,none,f,rfl,(fun t z=>nomatch z),(fun z=>nomatch z)⟩,O⟩
 show wpAny (model X.prog X.w) X.A (exec (.Raise (some (.Call (.Name x np) (e0::rest) [] cpos)) none pos) X.env) _ (Fly X E) s
 rw[arm_exec_Raise]
 first
  | refine AA (CU (SX.l8 (SX.xC W) (I.ok.hd M) (AA (BO b (fun v s1 h1=>AA (CU (AE h1))) fun _ _ z=>z))))
  | (simp only[evalOpt,Option.map];refine AA (CU (SX.l8 (SX.xC W) (I.ok.hd M) (AA (BO b (fun v s1 h1=>AA (CU (AE h1))) fun _ _ z=>z)))))
end
def few(i:Int):Prop:=i=40\/i=60\/i=200\/i=300
theorem aNS{i:Int}(h:few i):(Str.ofString (toString i)).length<=10/\i.natAbs.log2 < 1920:=by
 rcases h with rfl|rfl|rfl|rfl<;>decide +kernel
theorem jE(x y:Str):(x++y).length=x.length+y.length:=by
 show (x.cps++y.cps).size=x.cps.size+y.cps.size
 simp
def aQ6(ta:TE):TE:=fun σ H Q=>ta σ H fun x H1=>∃ i:Int,x=.int i/\few i/\∀ z:Str,Q (.str z) H1
theorem aQ7{X:Cx}{v:E1}{ta:TE}{a b:Str}{k1 k2:Nat}{p1 p2 f pos:Pos}(l:PE X v ta)(B:a.length<=1000:=by decide)(hb:b.length<=1000:=by decide) :
  PE X (.JoinedStr [.Constant (.str a) k1 p1,.FormattedValue v (-1) none p2,.Constant (.str b) k2 f] pos) (aQ6 ta):=by
 intro pins s σ H Q I h
 have k:sizeLine=16777216:=rfl
 have d:(Str.empty).length=0:=rfl
 refine wpAny_JoinedStr (Joins_cons (thn (aAK (X:=X) pins s σ H (fun y H1=>y=.str a/\H1=H) I ⟨rfl,rfl⟩) fun u s1 c=>?_))
 obtain ⟨y,H1,o,r1,e1,e2⟩:=c
 subst e1 e2
 obtain ⟨r,rfl⟩:=r1
 refine ⟨a,r,rfl,by rw[jE,d];omega,Joins_cons (wpAny_FormattedValue_plain (thn (l pins s1 σ _ _ o h) fun u A c=>?_))⟩
 obtain ⟨y,H2,p,r2,i,e,m,q⟩:=c
 subst e
 obtain ⟨z,rfl⟩:=r2
 obtain ⟨x,g⟩:=aNS m
 refine wpAny_formatField_int g ⟨_,_,rfl,by rw[jE,jE,d];omega,Joins_cons (thn (aAK (X:=X) pins _ σ H2 (fun y H1=>y=.str b/\H1=H2) (p.tok _) ⟨rfl,rfl⟩) fun u w c=>?_)⟩
 obtain ⟨y,H3,t,j,e1,e2⟩:=c
 subst e1 e2
 obtain ⟨n,rfl⟩:=j
 refine ⟨b,n,rfl,by rw[jE,jE,jE,d];omega,Joins_nil ⟨by rw[jE,jE,jE,d];omega,?_⟩⟩
 exact ⟨.str _,_,t.tok _,⟨_,rfl⟩,q _⟩
end L2
namespace Fl
open PySem L2 PyProof.Rows
instance (i:Int):Decidable (few i):=by unfold few;infer_instance
def aNT(cn:Str)(f:Sg->R (List Dz)):Sg->R Fw:=fun ρ=>(f ρ).bind fun xs=>if xs.length<=1000 then .ex ⟨cn,[]⟩ else .bad
def xX(cn:Str)(g:Sg->R Dz):Sg->R Fw:=fun ρ=>(g ρ).bind fun x=>match x with
 | .int i=>if few i then .ex ⟨cn,[]⟩ else .bad
 | _=>.bad
section
variable{X:Cx}{c:Ct}{E:XK}{st:Stmt}{cn:Str}{C:Az}
theorem zK{f:Sg->R (List Dz)}(g:c.mg cn=some (.ref C))(h:PS X st (xW C E (tAd c E f))):PSf X c E st (aNT cn f):=PS.imp h fun D σ H a=>by
 obtain ⟨ρ,F,ab,k⟩:=a
 refine ⟨ρ,F,ab,(Rk.bind k).imp fun xs _ q vs i H1 s1 r1=>?_⟩
 by_cases b:xs.length<=1000
 .rw[AD b] at q
  exact ⟨by rw[r1.length];exact b,fun e d=>q e C _ _ ((ab.all.trans s1).trans (Ext.new s1.fh d)) ⟨g,none,aX,.inl ⟨rfl,rfl⟩⟩⟩
 .rw[AC b] at q;exact q.elim
theorem aHU{g:Sg->R Dz}(f:c.mg cn=some (.ref C))(h:PS X st (xW C E (fJ (aQ6 (tV (b9 c) c E g)) jL))):PSf X c E st (xX cn g):=PS.imp h fun D σ H ⟨ρ,F,ab,k⟩=>by
 refine ⟨ρ,F,ab,(Rk.bind k).imp fun x a q v j H1 s1 r1=>?_⟩
 clear a
 split at q
 .rename_i i
  split at q
  .rename_i b
   obtain rfl:=bF.int_of r1
   exact ⟨i,rfl,b,fun z=>⟨by show 1<=1000;decide,fun e d=>q e C _ _ ((ab.all.trans s1).trans (Ext.new s1.fh d)) ⟨f,none,aX,.inl ⟨rfl,rfl⟩⟩⟩⟩
  .exact q.elim
 .exact q.elim
def vN(i:Nat)(nm:Str)(b:Bool):Sg->R Dz:=fun ρ=>match ρ[i]? with
 | some (some (.x e))=>if e.c=nm/\e.fs.isEmpty=true then .ok (.bool b) else .bad
 | _=>.bad
theorem aU9{i:Nat}{ρ:Sg}{σ:L2.St}{F H:Hp}{b:Er}{nm:Str}{W C:Az}(j:X.mg=c.mg)(e:SX.ExcC X.K W C)(g:X.mg nm=some (.ref C))(ab:Ab c ρ σ F H)(hi:ρ[i]? = some (some (.x b)))(h:b.c=nm) :
  ∃ a,σ[i]? = some (some (.ref a))/\TyX X.K H (.ref a) (.ref C):=by
 obtain ⟨v,d,a,n,rfl,m,od,h1,h2⟩:=ab.slot i _ hi
 rw[h,<-j,g] at m
 cases m
 rcases h2 with ⟨_,rfl⟩|⟨dd,f,e1,e2,l,k⟩
 .exact ⟨a,d,.exc0 e (ab.fh _ _ h1)⟩
 .subst e1
  exact ⟨a,d,.exc e (ab.fh _ _ h1) (ab.fh _ _ e2)⟩
theorem aNU{i:Nat}{nm q:Str}{W C:Az}{b:Bool}{e:E1}(l:X.mg=c.mg)(d:ErrP X.K X.mg nm W C)(is:Is1 X.K X.mg nm q b)
  (h:PE X e (tCB (fun xs H Q=>∃ x c t cv b,xs=[x,c]/\TyX X.K H x t/\aAV c=some cv/\PySem.W.kitOne X.K t cv=some b/\Q (.bl b) H) (fJ (jK i) (fJ (tC (.ref is.choose)) jL)))):PD X c E e (vN i nm b):=PE.imp h fun σ H Q ⟨ρ,F,ab,k⟩=>by
 unfold vN at k
 split at k
 .rename_i n hi
  split at k
  .rename_i j
   obtain ⟨a,h1,h2⟩:=aU9 l d.c d.m ab hi j.1
   obtain ⟨o,_,f,g⟩:=is.choose_spec
   rw[d.m] at f
   cases f
   exact ⟨_,h1,_,_,_,_,b,rfl,h2,rfl,g,Rk.ok k _ F H (Ext.refl ab.fh) (.bl b)⟩
  .exact k.elim
 .exact k.elim
end
end Fl
namespace L2
open PySem
noncomputable def aQ8(e:DictEntry):Bool:=match e.key with
 | .str _ _=>true
 | _=>false
theorem aDL{K:Frag}{N:Az}{cl:V9}{d:O9 Az}{es:Array DictEntry}{ep:Nat}{sl:Array (O9 V9)}(l:K.lookup N=some ⟨cl,d,.dict es ep,sl⟩)(h:es.toList.all aQ8=true):PySem.W.nsOkIn K N=true:=by
 unfold PySem.W.nsOkIn
 rw[show List.lookup N K=some ⟨cl,d,.dict es ep,sl⟩ from l]
 show es.all _=true
 rw[<-Array.all_toList]
 exact h
end L2
namespace Fl
open PySem L2 PyProof.Rows
end Fl
namespace HT
open PySem PySem.Spec PyProof.Rows L2
end HT
namespace Fl
open PySem L2 PyProof.Rows
def FnK(K:Frag)(H:Hp)(f:Az):Prop:=PySem.W.keepIn K (.ref f)=true\/∃ oc od fd sl,H f=some (FnO f ⟨oc,od,.func fd,sl⟩)
def aBQ(X:Cx)(i:Nat)(E:XK)(t:TA):TE:=fun σ H Q=>∃ f,σ[i]? = some (some (.ref f))/\FnK X.K H f/\t σ H fun vs H1=>FnK X.K H1 f/\∃ k fd ps sp,Room k X.A/\FnOk X.prog X.w X.K X.mg X.base (CXe X.prog X.w) k f fd ps sp/\fA X.K fd ps []/\sp vs H1 Q E
theorem aBR{X:Cx}{i:Nat}{x:Str}{E:XK}{p pos:Pos}{e:E1}{es:List E1}{t:TA}(D:PE X (.Name x p) (jK i))(hx:mR (CXe X.prog X.w) X E)(B:PA X (e::es) t)
  (z:starEach (e::es) X.env=(false,eval e X.env)::starEach es X.env:=by rfl) (hpl:(backTo pos (starEach es X.env)).any (·.1)=false:=by rfl):PE X (.Call (.Name x p) (e::es) [] pos) (aBQ X i E t):=by
 intro pins s σ H Q I h
 obtain ⟨f,C,d,h⟩:=h
 refine CZ (thn (D pins s σ H (fun v H'=>v=.ref f/\H'=H) I ⟨_,C,rfl,rfl⟩) fun u y m=>?_)
 obtain ⟨v,n,c,J,e1,e2⟩:=m
 subst e1 e2
 obtain rfl:u=Value.ref f:=J
 have g:∀ (us:List V9) (s1:S9),AP X pins σ (fun vs H1=>FnK X.K H1 f/\∃ k fd ps sp,Room k X.A/\FnOk X.prog X.w X.K X.mg X.base (CXe X.prog X.w) k f fd ps sp/\fA X.K fd ps []/\sp vs H1 Q E) us s1->
   (∃ H1,Inv X pins σ H1 s1/\FnK X.K H1 f)/\wpAny (model X.prog X.w) X.A (call (.ref f) us) (EP X pins σ Q) X.xe s1:=by
  rintro us s1 ⟨vs,H1,b,r,a,k,fd,ps,sp,hr,F,hb,q⟩
  refine ⟨⟨H1,b,a⟩,aGQ (dvs:=[]) (ds:=[]) F hr hb .nil hx b r ?_⟩
  rw[CH];exact q
 rcases d with d|⟨l,od,fd,sl,d⟩
 .refine DO (h₀:=X.base) c.ok.mod.kin d (thn (B pos pins y σ n _ c h) fun us s1 j=>?_) z hpl
  obtain ⟨⟨H1,b,_⟩,q⟩:=g us s1 j
  exact ⟨b.kIn,q⟩
 .refine PySem.W.callWith_F ⟨l,od,fd,sl,FnO.get c.hok d⟩ (thn (B pos pins y σ n _ c h) fun us s1 j=>?_) z hpl
  obtain ⟨⟨H1,b,a⟩,q⟩:=g us s1 j
  refine ⟨?_,q⟩
  rcases a with a|⟨l,od,fd,sl,a⟩
  .cases e:X.K.lookup f with
   | none=>unfold PySem.W.keepIn at a;dsimp only at a;rw[e] at a;cases a
   | some o=>
    have e1:=b.kIn f o e
    exfalso
    have e2:=c.kIn f o e
    obtain ⟨o',h1,h2⟩:∃ o',n f=some (FnO f o')/\True:=⟨_,d,trivial⟩
    have G:=c.bs f o (c.ok.mod.kin f o e)
    rw[G.2] at h1;cases h1
  .exact ⟨l,od,fd,sl,FnO.get b.hok a⟩
def aBS(m i:Nat)(f:Sg->R (List Dz)):Sg->R Dz:=fun ρ=>match ρ[i]? with
 | some (some (.g k n G))=>(f ρ).bind fun ds=>if k<=m/\ds.length=n then G ds else .bad
 | _=>.bad
theorem aQ9{X:Cx}{c:Ct}{E:XK}{e:E1}{m i:Nat}{T:Hp}{f:Sg->R (List Dz)}(D:c.g=gOf X.prog X.w X.K X.mg X.base T)(y:X.K=c.K)(S:X.mg=c.mg)(P:Room m X.A)(h:PE X e (aBQ X i E (tAd c E f))):PD X c E e (aBS m i f):=PE.imp h fun σ H Q ⟨ρ,F,ab,k⟩=>by
 unfold aBS at k
 split at k
 .rename_i p n G hi
  obtain ⟨v,N,Y⟩:=ab.slot i _ hi
  obtain ⟨t,U,rfl,s1,B⟩:=(show AF c.g c.K c.mg F (.g p n G) v from Y)
  rw[D] at B
  obtain ⟨fd,ps,I,L,W,O⟩:=(show Beh X.prog X.w X.K X.mg X.base T t U p n G from B)
  have j:∀ b H',aN F b->aN b H'->FnK X.K H' t:=fun b H' M J=>O.imp id fun ⟨V,od,fd,sl,e⟩=>⟨V,od,fd,sl,J _ _ (M _ _ (s1 _ _ e))⟩
  refine ⟨t,N,j F H (cM F) ab.fh,ρ,F,ab,(Rk.bind k).imp fun ds _ q vs b H' e1 r=>?_⟩
  refine ⟨j b H' e1.ff e1.fh,?_⟩
  by_cases l:p<=m/\ds.length=n
  .rw[AD l] at q
   refine ⟨p,fd,ps,_,P.mono l.1,W,L,b,ds,fun a o z=>e1.ff a o (s1 a o z),fun a o z=>e1.ff a o (ab.f0 a o (ab.t0 a o (by rw[D];exact z))),e1.fh,by rw[y];exact r,l.2,?_⟩
   cases s:G ds with
   | bad=>rw[s] at q;exact q
   | ok d=>rw[s] at q;exact fun v u H2 e2 r2=>Rk.ok q v u H2 (e1.trans e2) (by rw[y] at r2;exact r2)
   | ex x=>rw[s] at q;exact fun a C u H2 e2 r2=>q a C u H2 ((ab.all.trans e1).trans e2) (by rw[y,S] at r2;exact r2)
  .rw[AC l] at q;exact q.elim
 .exact k.elim
noncomputable def sH:Dz->Bool
 | .none=>true
 | .bool _=>true
 | .int _=>true
 | .str _=>true
 | _=>false
theorem aKA{K:Frag}{F a:Hp}{v:V}{d:Dz}(h:sH d=true)(r:DatV K F v d):DatV K a v d:=by
 cases d with
 | none=>cases r;exact .non
 | bool b=>cases r;exact .bl b
 | int i=>cases r;exact .int i
 | str x=>cases r;exact .str x
 | list xs=>cases h
 | tuple xs=>cases h
 | dict xs=>cases h
def pR(K:Frag)(F H:Hp):List V->List Dz->Prop
 | [],[]=>True
 | v::vs,d::ds=>bF K F H v d/\pR K F H vs ds
 | _,_=>False
theorem pR.ext{K:Frag}{F H F' H':Hp}(e:Ext F H F' H'):∀ {vs:List V} {ds:List Dz},pR K F H vs ds->pR K F' H' vs ds
 | [],[],_=>trivial
 | v::vs,d::ds,h=>⟨bF.ext e h.1,pR.ext e h.2⟩
def tAr(c:Ct)(E:XK)(f:Sg->R (List Dz)):TA:=fun σ H Q=>∃ ρ F,Ab c ρ σ F H/\Rk c E F H (f ρ) fun ds=>∀ vs F' H',Ext F H F' H'->pR c.K F' H' vs ds->Q vs H'
theorem aNV{X:Cx}{c:Ct}{E:XK}:PA X [] (tAr c E aO):=PA.imp aU fun σ H Q ⟨ρ,F,ab,k⟩=>Rk.ok k [] F H (Ext.refl ab.fh) trivial
theorem aBT{X:Cx}{c:Ct}{E:XK}{e:E1}{es:List E1}{f:Sg->R Dz}{g:Sg->R (List Dz)}(h:PR X c E e f)(h2:PA X es (tAr c E g))(i:starEach (e::es) X.env=(false,eval e X.env)::starEach es X.env:=by rfl):PA X (e::es) (tAr c E (aA f g)):=PA.imp (aM h h2 i) fun σ H Q a=>by
 obtain ⟨ρ,F,ab,k⟩:=a
 refine ⟨ρ,F,ab,(Rk.bind k).imp fun x _ q v d H1 s1 r1=>⟨ρ,d,ab.ext s1,((Rk.bind q).ext s1).imp fun xs _ q vs j H2 b r2=>?_⟩⟩
 exact Rk.ok q (v::vs) j H2 (s1.trans b) ⟨bF.ext b r1,r2⟩
theorem aRA{K:Frag}{F H:Hp}(s:aN F H):∀ {vs:List V} {ds:List Dz},pR K F H vs ds->∃ FL,aN F FL/\aN FL H/\DatVs K FL vs ds
 | [],[],_=>⟨F,cM F,s,.nil⟩
 | v::vs,d::ds,h=>by
  obtain ⟨FL,a,b,r⟩:=aRA s h.2
  rcases h.1 with q|⟨p,us,xs,rfl,rfl,h1,h2⟩
  .exact ⟨FL,a,b,.cons (q.same a) r⟩
  .refine ⟨fun x=>if x=p then some (.lst us) else FL x,fun x o z=>?_,fun x o z=>?_,?_⟩
   .by_cases c:x=p
    .subst c
     have:=s x o z
     rw[h1] at this;cases this
     exact AD rfl
    .exact (AC c).trans (a x o z)
   .by_cases c:x=p
    .subst c
     have f:=(AD rfl).symm.trans z
     rw[h1];exact f
    .exact b x o ((AC c).symm.trans z)
   .have e:aN FL (fun x=>if x=p then some (.lst us) else FL x):=fun x o z=>by
     by_cases c:x=p
     .subst c
      have:=b x o z
      rw[h1] at this;cases this
      exact AD rfl
     .exact (AC c).trans z
    exact .cons (.lst (SqL.of (AD rfl)) (h2.same fun x o z=>e x o (a x o z))) (r.same e)
def vP(m i:Nat)(f:Sg->R (List Dz)):Sg->R Dz:=fun ρ=>match ρ[i]? with
 | some (some (.g k n G))=>(f ρ).bind fun ds=>if k<=m/\ds.length=n then (match G ds with | .ok d=>if sH d=true then .ok d else .bad|_=>.bad) else .bad
 | _=>.bad
theorem aNW{X:Cx}{c:Ct}{E:XK}{e:E1}{m i:Nat}{T:Hp}{f:Sg->R (List Dz)}(D:c.g=gOf X.prog X.w X.K X.mg X.base T)(I:X.K=c.K)(hM:X.mg=c.mg)(V:Room m X.A)(h:PE X e (aBQ X i E (tAr c E f))):PD X c E e (vP m i f):=PE.imp h fun σ H Q ⟨ρ,F,ab,k⟩=>by
 unfold vP at k
 split at k
 .rename_i s n G hi
  obtain ⟨v,N,hA⟩:=ab.slot i _ hi
  obtain ⟨C,W,rfl,s1,B⟩:=(show AF c.g c.K c.mg F (.g s n G) v from hA)
  rw[D] at B
  obtain ⟨fd,ps,P,L,Y,U⟩:=(show Beh X.prog X.w X.K X.mg X.base T C W s n G from B)
  have l:∀ j H',aN F j->aN j H'->FnK X.K H' C:=fun j H' M J=>U.imp id fun ⟨O,od,fd,sl,e⟩=>⟨O,od,fd,sl,J _ _ (M _ _ (s1 _ _ e))⟩
  refine ⟨C,N,l F H (cM F) ab.fh,ρ,F,ab,(Rk.bind k).imp fun ds _ q vs j H' e1 r=>?_⟩
  refine ⟨l j H' e1.ff e1.fh,?_⟩
  by_cases t:s<=m/\ds.length=n
  .rw[AD t] at q
   obtain ⟨Z,a,b,S⟩:=aRA e1.fh r
   refine ⟨s,fd,ps,_,V.mono t.1,Y,L,Z,ds,fun x o z=>a x o (e1.ff x o (s1 x o z)),fun x o z=>a x o (e1.ff x o (ab.f0 x o (ab.t0 x o (by rw[D];exact z)))),b,by rw[I];exact S,t.2,?_⟩
   cases y:G ds with
   | bad=>rw[y] at q;exact q
   | ok d=>
    rw[y] at q
    intro v F2 H2 e2 r2
    have p:Rk c E F H (if sH d=true then R.ok d else .bad) _:=q
    by_cases u:sH d=true
    .rw[AD u] at p
     refine Rk.ok p v j H2 (e1.trans ⟨e2.hh,cM j,fun x o z=>e2.hh x o (e1.fh x o z),fun x z n=>absurd z n⟩) (by rw[I] at r2;exact aKA u r2)
    .rw[AC u] at p;exact p.elim
   | ex x=>rw[y] at q;exact q.elim
  .rw[AC t] at q;exact q.elim
 .exact k.elim
theorem aNX{K:Frag}{F:Hp}{cs:List Az}{a:Az}{xs:List V}(b:Celd cs F)(h:SqL K F a xs):SqL K (hid cs F) a xs:=by
 rcases h with (h|⟨o,h⟩)|h
 · exact .inl (.inl (by rw [bV (b.out h fun _ v z => nomatch z)]; exact h))
 · exact .inl (.inr ⟨o, by rw [bV (b.out h fun _ v z => by unfold eO at z; cases z)]; exact h⟩)
 · exact .inr h
theorem aNY{K:Frag}{F:Hp}{cs:List Az}{a:Az}{xs:List V}(b:Celd cs F)(h:SqT K F a xs):SqT K (hid cs F) a xs:=by
 rcases h with (h|⟨o,h⟩)|h
 · exact .inl (.inl (by rw [bV (b.out h fun _ v z => nomatch z)]; exact h))
 · exact .inl (.inr ⟨o, by rw [bV (b.out h fun _ v z => by unfold eO at z; cases z)]; exact h⟩)
 · exact .inr h
mutual
theorem aDM{K:Frag}{F:Hp}{cs:List Az}(hc:Celd cs F):∀ {v:V} {d:Dz},DatV K F v d->DatV K (hid cs F) v d
 | _,_,.non=>.non
 | _,_,.bl b=>.bl b
 | _,_,.int i=>.int i
 | _,_,.str x=>.str x
 | _,_,.lst h r=>.lst (aNX hc h) (mX hc r)
 | _,_,.tup h r=>.tup (aNY hc h) (mX hc r)
 | _,_,.pl h=>.pl (by rw[bV (hc.out h fun _ v z=>nomatch z)];exact h)
theorem mX{K:Frag}{F:Hp}{cs:List Az}(hc:Celd cs F):∀ {vs:List V} {ds:List Dz},DatVs K F vs ds->DatVs K (hid cs F) vs ds
 | _,_,.nil=>.nil
 | _,_,.cons h r=>.cons (aDM hc h) (mX hc r)
end
theorem aNZ{e C b:Az}{od:O9 Az}{o:Obj}{v:V}(h:ExO e C od=eO b o v):False:=by unfold ExO eO at h;cases h
theorem aKB{K:Frag}{mg:Str->O9 V9}{F:Hp}{e:Er}{a C:Az}{cs:List Az}(b:Celd cs F)(h:k6 K mg F e a C):k6 K mg (hid cs F) e a C/\a∉cs:=by
 obtain ⟨m,od,h1,h2⟩:=h
 have c:=b.out h1 fun _ v z=>aNZ z
 refine ⟨⟨m,od,by rw[bV c];exact h1,h2.imp id ?_⟩,c⟩
 rintro ⟨d,fvs,e1,e2,e3,e4⟩
 exact ⟨d,fvs,e1,by rw[bV (b.out e2 fun _ v z=>nomatch z)];exact e2,e3,mX b e4⟩
theorem aBU{c:Cv}{H a:Hp}(s:aN (pub c H) a):Celd (dH c) a:=fun b d=>by
 obtain ⟨p,e⟩:=iK.mp d
 exact ⟨p.1,p.2,s _ _ (qR e)⟩
theorem aKC{a:Cv}{F H:Hp}(s:aN F H):aN (pub a F) (pub a H):=fun b o e=>by
 by_cases c:b∈dH a
 .obtain ⟨p,q⟩:=iK.mp c
  rw[qR q] at e ⊢;exact e
 .rw[eP c] at e ⊢;exact s b o e
theorem zL{c:Cv}{F H f H2:Hp}(g:∀ b∈dH c,H b=none)(s:aN F H)(e:Ext (pub c F) (pub c H) f H2):Ext F H (hid (dH c) f) (hid (dH c) H2):=by
 have h:∀ b∈dH c,F b=none:=fun b a=>bZ s (g b a)
 have outH:∀ b o,H b=some o->b∉dH c:=fun b o q z=>by rw[g b z] at q;cases q
 have d:∀ b o,F b=some o->b∉dH c:=fun b o q z=>by rw[h b z] at q;cases q
 refine ⟨fun b o q=>?_,fun b o q=>?_,fun b o q=>?_,fun b q n=>?_⟩
 .have a:=outH b o q
  rw[bV a];exact e.hh b o (by rw[eP a];exact q)
 .have a:=d b o q
  rw[bV a];exact e.ff b o (by rw[eP a];exact q)
 .obtain ⟨i,a⟩:=pB q
  rw[bV a];exact e.fh b o i
 .by_cases a:b∈dH c
  .exact absurd (oF a) n
  .rw[bV a] at n
   have:=e.nw b (by rw[eP a];exact q) n
   unfold mD at this ⊢
   rw[eP a] at this;exact this
noncomputable def dOf:R A->R Dz
 | .ok (.d x)=>.ok x
 | .ok _=>.bad
 | .ex e=>.ex e
 | .bad=>.bad
def CloOk(P:P9)(w:W9)(K:Frag)(mg:Str->O9 V9)(base:H9)(T:Hp)(S:ClSt)(fr:List Str)(k n:Nat)(Gm:List A->List Dz->R Dz):Prop:=
 ∀ (F0 F1:Hp) (caps:List A) (cvs:List V) (f:Az) (cl:List (Str×Az)) (doc pm ct:V9) (cc:Az),aN T F0->AFs (gOf P w K mg base T) K mg F0 caps cvs->aN F0 F1->
  F1 f=some (FnO f (S.obj cl doc pm cc ct))->F1 cc=some (.cod S.qual)->CapAt F1 fr cl cvs->(∀ c∈bA fr cl,F0 c=none)->Beh P w K mg base T f F1 k n (Gm caps)
theorem aDN{cs:List Az}{F H d H2:Hp}(s:aN F H)(f:Celd cs F)(i:∀ c∈cs,H2 c=none)(e:Ext (hid cs F) (hid cs H) d H2):Ext F H (shw cs F d) (shw cs H H2)/\aN d (shw cs F d):=by
 have g:∀ c∈cs,d c=none:=fun c h=>bZ e.fh (i c h)
 refine ⟨⟨fun b o q=>?_,fun b o q=>?_,fun b o q=>?_,fun b q n=>?_⟩,fun b o q=>?_⟩
 .by_cases a:b∈cs
  .rw[qQ a];exact q
  .rw[eN a];exact e.hh b o (by rw[bV a];exact q)
 .by_cases a:b∈cs
  .rw[qQ a];exact q
  .rw[eN a];exact e.ff b o (by rw[bV a];exact q)
 .by_cases a:b∈cs
  .rw[qQ a] at q ⊢;exact s b o q
  .rw[eN a] at q ⊢;exact e.fh b o q
 .by_cases a:b∈cs
  .obtain ⟨o,v,z⟩:=f b a
   rw[z] at q;cases q
  .rw[eN a] at n
   have:=e.nw b (by rw[bV a];exact q) n
   unfold mD at this ⊢
   rw[bV a] at this;exact this
 .rw[eN fun z=>by rw[g b z] at q;cases q];exact q
theorem AFs.data{g:Gb}{K:Frag}{mg:Str->O9 V9}{F:Hp}:∀ {vs:List V} {ds:List Dz},DatVs K F vs ds->AFs g K mg F (ds.map .d) vs
 | _,_,.nil=>trivial
 | _,_,.cons h r=>⟨h,AFs.data r⟩
theorem AFs.append{g:Gb}{K:Frag}{mg:Str->O9 V9}{F:Hp}:∀ {as bs:List A} {vs us:List V},AFs g K mg F as vs->AFs g K mg F bs us->AFs g K mg F (as++bs) (vs++us)
 | [],_,[],_,_,h=>h
 | a::as,bs,v::vs,us,h,h2=>⟨h.1,AFs.append h.2 h2⟩
section
variable{P:P9}{w:W9}{K:Frag}{mg:Str->O9 V9}{base:H9}{T:Hp}{S:ClSt}{N ps fr:List Str}{k:Nat}
theorem zM{f h F H:Hp}{a:List A}{cvs vs:List V}{ds:List Dz}{cl:List (Str×Az)}(j:aN T f)(e:AFs (gOf P w K mg base T) K mg f a cvs)(k:aN f h)(g:aN h F)(l:aN F H)(C:CapAt h fr cl cvs)(i:∀ c∈bA fr cl,f c=none)(s:DatVs K F vs ds) :
  Celd (bA fr cl) F/\aN T (hid (bA fr cl) F)/\aN (hid (bA fr cl) F) (hid (bA fr cl) H)/\AFs (gOf P w K mg base T) K mg (hid (bA fr cl) F) (ds.map .d++a) (vs++cvs):=by
 have n:Celd (bA fr cl) F:=(C.same g).celd
 have m:aN f (hid (bA fr cl) F):=fun b o q=>by
  rw[bV fun z=>by rw[i b z] at q;cases q];exact g b o (k b o q)
 refine ⟨n,fun b o q=>m b o (j b o q),fun b o q=>?_,(AFs.data (mX n s)).append (e.same m)⟩
 obtain ⟨p,r⟩:=pB q
 rw[bV r];exact l b o p
def kM(n:Nat)(fb:Sg->R Fw):List A->List Dz->R Dz:=fun caps ds=>dOf (fnF n fb (ds.map .d++caps))
theorem aDO{F H:Hp}{cs:List Az}{Q:VK}{E:XK}{r:R A}(b:aN F H)(j:Celd cs F)(h:match dOf r with
 | .bad=>False
 | .ok d=>∀ v F' H',Ext F H F' H'->DatV K F' v d->Q v H'
 | .ex e=>∀ a C F' H',Ext F H F' H'->k6 K mg F' e a C->E (.ref C) (some a) H'):match (generalizing:=false) r with
 | .bad=>False
 | .ok a=>∀ v F' H',Ext (hid cs F) (hid cs H) F' H'->AF (gOf P w K mg base T) K mg F' a v->(∀ a∈cs,H' a=none)->Q v (shw cs H H')
 | .ex e=>∀ a C F' H',Ext (hid cs F) (hid cs H) F' H'->k6 K mg F' e a C->(∀ a∈cs,H' a=none)->E (.ref C) (some a) (shw cs H H'):=by
 cases r with
 | bad=>exact h
 | ok a=>
  cases a with
  | d x=>
   intro v F' H' e q i
   obtain ⟨e2,c⟩:=aDN b j i e
   exact h v _ _ e2 (DatV.same c q)
  | l xs=>exact False.elim h
  | m xs=>exact False.elim h
  | x e=>exact False.elim h
  | g k n f=>exact False.elim h
  | k S=>exact False.elim h
  | f S=>exact False.elim h
  | o S=>exact False.elim h
 | ex x=>
  intro a C F' H' e q i
  obtain ⟨e2,c⟩:=aDN b j i e
  exact h a C _ _ e2 (q.same c)
theorem aRB{body:List Stmt}{fb:Sg->R Fw}(U:S.body=.stmts body)(Sc:CloScope N ps fr S.scope)(q:∀ (cl:List (Str×Az)) (doc pm:V9) (cc:Az) (ct:V9) (us:List V9),us.length=ps.length->bindArgs (S.fd cl doc pm cc ct) ⟨us,[]⟩=pure (ps.zip us))
  (i:∀ (f cc:Az) (cl:List (Str×Az)) (A:U9) (outer:List Env) (s:S9) (H F:Hp) (E E':XK),Room k (A.deeper (cU S.qual S.scope s.heap.objs.size f (.ref cc) cl))->
   kJ ((jB (CXe P w) P w K mg base N fr S.qual S.scope f (.ref cc) cl A outer s H E').fly E) ⟨K,mg,w,F,hid (bA fr cl) H,gOf P w K mg base T,(cU S.qual S.scope s.heap.objs.size f (.ref cc) cl).cells,fun _=>none⟩ E body fb) :
  CloOk P w K mg base T S fr (k+1) ps.length (kM N.length fb):=by
 intro F0 F1 g cvs f cl doc pm ct cc y l D J B C G
 refine ⟨S.fd cl doc pm cc ct,ps,rfl,.all (q cl doc pm cc ct),⟨fun vs H Q E h=>?_,fun A outer s H args us vs Q E Y e0 p W u=>?_⟩,.inr ⟨_,_,_,_,J⟩⟩
 .obtain ⟨F,ds,_,_,_,h1,h2,_⟩:=h
  rw[h1.length,h2]
 .obtain ⟨F,ds,h1,h2,m,I,M,Z⟩:=u
  obtain ⟨X,V,O,L⟩:=zM y l D h1 m C G I
  refine aHA U (m _ _ (h1 _ _ J)) (m _ _ (h1 _ _ B)) Sc (C.same fun b o z=>m b o (h1 b o z)) Y e0 p W (by rw[I.length,M]) fun t=>⟨_,i f cc cl A outer s H (hid (bA fr cl) F) _ E t,?_⟩
  have j:=aDO (P:=P) (w:=w) (base:=base) (T:=T) (r:=fnF N.length fb (ds.map .d++g)) m X Z
  refine oK (n:=N.length) (fb:=fb) (Q:=fun v H'=>(∀ a∈bA fr cl,H' a=none)->Q v (shw (bA fr cl) H H')) (E:=fun c e H'=>(∀ a∈bA fr cl,H' a=none)->E c e (shw (bA fr cl) H H')) V O L ?_
  cases e:fnF N.length fb (ds.map .d++g) with
  | bad=>rw[e] at j;exact j
  | ok a=>rw[e] at j;exact j
  | ex x=>rw[e] at j;exact j
theorem aRC{body:E1}{fe:Sg->R Dz}(U:S.body=.expr body)(Sc:CloScope N ps fr S.scope)(n:∀ (cl:List (Str×Az)) (doc pm:V9) (cc:Az) (ct:V9) (us:List V9),us.length=ps.length->bindArgs (S.fd cl doc pm cc ct) ⟨us,[]⟩=pure (ps.zip us))
  (i:∀ (f cc:Az) (cl:List (Str×Az)) (A:U9) (outer:List Env) (s:S9) (H F:Hp) (E E':XK),Room k (A.deeper (cU S.qual S.scope s.heap.objs.size f (.ref cc) cl))->
   PD ((jB (CXe P w) P w K mg base N fr S.qual S.scope f (.ref cc) cl A outer s H E').fly E) ⟨K,mg,w,F,hid (bA fr cl) H,gOf P w K mg base T,(cU S.qual S.scope s.heap.objs.size f (.ref cc) cl).cells,fun _=>none⟩ E body fe) :
  CloOk P w K mg base T S fr (k+1) ps.length (kM N.length (cI (vD fe))):=by
 intro F0 F1 c cvs f cl doc pm ct cc u j D J B C G
 refine ⟨S.fd cl doc pm cc ct,ps,rfl,.all (n cl doc pm cc ct),⟨fun vs H Q E h=>?_,fun A outer s H args us vs Q E Y e0 m W q=>?_⟩,.inr ⟨_,_,_,_,J⟩⟩
 .obtain ⟨F,ds,_,_,_,h1,h2,_⟩:=h
  rw[h1.length,h2]
 .obtain ⟨F,ds,h1,h2,l,I,M,Z⟩:=q
  obtain ⟨X,V,O,L⟩:=zM u j D h1 l C G I
  refine aJS U (l _ _ (h1 _ _ J)) (l _ _ (h1 _ _ B)) Sc (C.same fun b o z=>l b o (h1 b o z)) Y e0 m W (by rw[I.length,M]) fun p=>⟨_,i f cc cl A outer s H (hid (bA fr cl) F) _ E p,?_⟩
  have g:=aDO (P:=P) (w:=w) (base:=base) (T:=T) (r:=fnF N.length (cI (vD fe)) (ds.map .d++c)) l X Z
  refine ⟨_,_,aBF V O L,?_⟩
  unfold fnF cI vD at g
  cases e:fe ((ds.map Fl.A.d++c).map some++List.replicate (N.length - (ds.map Fl.A.d++c).length) none) with
  | bad=>rw[e] at g;exact g
  | ok d=>rw[e] at g;exact fun v t H' e1 r1 y=>g v t H' e1 r1 y
  | ex x=>rw[e] at g;exact fun a C t H' e1 r1 y=>g a C t H' e1 r1 y
end
def pS(c:Ct)(F:Hp)(S:ClSt)(v:V):Prop:=∃ f cl doc pm cc ct,v=.ref f/\F f=some (FnO f (S.obj cl doc pm cc ct))/\F cc=some (.cod S.qual)/\ClOf c.cells S.scope cl
theorem pS.same{c:Ct}{F a:Hp}{S:ClSt}{v:V}(s:aN F a):pS c F S v->pS c a S v:=by
 rintro ⟨f,cl,doc,pm,cc,ct,h1,h2,h3,h4⟩
 exact ⟨f,cl,doc,pm,cc,ct,h1,s _ _ h2,s _ _ h3,h4⟩
theorem aDP{c:Ct}{S:ClSt}{P0:Az}{qs:List (Pos×Str)}{cells:List (Str×Az)}{ρ:Sg}{σ:L2.St}{F H:Hp}{Q:VK}(j:cells=c.cells)(k:c.g.T P0=some (.tbl qs))(ab:Ab c ρ σ F H)(h:∀ v F' H',Ext F H F' H'->pS c F' S v->Q v H'):tMk cells S P0 qs σ H Q:=by
 subst j
 refine ⟨ab.fh _ _ (ab.f0 _ _ (ab.t0 _ _ k)),fun f b cl doc pm ct H1 m l e=>?_⟩
 have e1:∃ d,Ext F H d H1/\d b=some (.cod S.qual):=by
  rcases m with ⟨q,rfl⟩|⟨q,rfl⟩
  .refine ⟨upd F b (.cod S.qual),⟨cM _,fun a o z=>?_,fun a o z=>?_,fun a z n=>?_⟩,aX⟩
   .by_cases w:a=b
    .subst w
     have:=ab.fh a o z
     rw[q] at this;cases this
     exact aX
    .rw[aJ w];exact z
   .by_cases w:a=b
    .subst w;rw[aX] at z;rw[q];exact z
    .rw[aJ w] at z;exact ab.fh a o z
   .by_cases w:a=b
    .subst w;exact .inr ⟨_,q⟩
    .rw[aJ w] at n;exact absurd z n
  .exact ⟨upd F b (.cod S.qual),Ext.new ab.fh q,aX⟩
 obtain ⟨d,e1,i⟩:=e1
 have e2:Ext d H1 (upd d f (FnO f (S.obj cl doc pm b ct))) (upd H1 f (FnO f (S.obj cl doc pm b ct))):=Ext.new e1.fh l
 exact h (.ref f) _ _ (e1.trans e2) ⟨f,cl,doc,pm,b,ct,rfl,aX,e2.ff _ _ i,e⟩
noncomputable def aAD(i:Nat)(q:Str):Sg->R Fw:=fun ρ=>.ok (.nx (ρ.set i (some (.k q))))
theorem aN0{X:Cx}{c:Ct}{E:XK}{st:Stmt}{i:Nat}{q:Str}{S:ClSt}{P0:Az}{qs:List (Pos×Str)}{cells:List (Str×Az)}(d:cells=c.cells)(l:c.cls q=some S)(j:c.g.T P0=some (.tbl qs))(h:PS X st (lT (tMk cells S P0 qs) (kE i))):PSf X c E st (aAD i q):=PS.imp h fun D σ H b=>by
 obtain ⟨ρ,F,ab,k⟩:=b
 refine aDP d j ab fun v n H' e m=>?_
 exact Rk.ok k _ n H' e.ff ((ab.ext e).setF (a:=.k q) (let ⟨f,cl,doc,pm,cc,ct,h⟩:=m;⟨S,f,cl,doc,pm,cc,ct,l,h⟩) fun z=>nomatch z)
noncomputable def vQ:O9 (O9 A)->O9 A
 | some (some (.d x))=>some (.d x)
 | some (some (.x e))=>some (.x e)
 | some (some (.g k n G))=>some (.g k n G)
 | _=>none
noncomputable def iG:List Nat->Sg->O9 (List A)
 | [],_=>some []
 | j::js,ρ=>match vQ ρ[j]?,iG js ρ with
  | some a,some as=>some (a::as)
  | _,_=>none
theorem vR{o:O9 (O9 A)}{a:A}(h:vQ o=some a):o=some (some a)/\∀ {c:Ct} {F H:Hp} {v:V},AO c F H a v->AF c.g c.K c.mg F a v:=by
 unfold vQ at h
 split at h<;>cases h
 · exact ⟨rfl, fun z => z⟩
 · exact ⟨rfl, fun z => z⟩
 · exact ⟨rfl, fun z => z⟩
theorem aDQ{c:Ct}{ρ:Sg}{σ:L2.St}{F H:Hp}(ab:Ab c ρ σ F H):∀ {js:List Nat} {caps:List A},iG js ρ=some caps->∃ cvs,AFs c.g c.K c.mg F caps cvs/\cvs.length=js.length/\∀ (i:Nat) j,js[i]? = some j->∃ v,cvs[i]? = some v/\σ[j]? = some (some v)
 | [],_,h=>by cases h;exact ⟨[],trivial,rfl,fun i j z=>by simp at z⟩
 | j::js,caps,h=>by
  unfold iG at h
  split at h
  .rename_i a as h1 h2
   cases h
   obtain ⟨cvs,r,l,g⟩:=aDQ ab h2
   obtain ⟨d,m⟩:=vR h1
   obtain ⟨v,o,n⟩:=ab.slot j a d
   refine ⟨v::cvs,⟨m n,r⟩,by simp[l],fun i p e=>?_⟩
   cases i with
   | zero=>simp at e;subst e;exact ⟨v,rfl,o⟩
   | succ i=>obtain ⟨b,k,f⟩:=g i p (by simpa using e);exact ⟨b,by simpa using k,f⟩
  .cases h
def aBV(X:Cx)(T:Hp)(c:Ct)(js:List Nat)(ρ:Sg)(F:Hp)(a:A)(v:V):Prop:=AF c.g c.K c.mg F a v \/
 ∃ S fr sl k n Gm caps,a=.g k n (Gm caps)/\pS c F S v/\CloOk X.prog X.w X.K X.mg X.base T S fr k n Gm/\(∀ y,(y,NameKind.free)∈S.scope.names->y∈fr)/\(∀ y∈fr,(y,NameKind.free)∈S.scope.names)/\sl.map (fun j=>X.N[j]?)=fr.map some/\(∀ j∈sl,j∈js)/\iG sl ρ=some caps
theorem aBV.same{X:Cx}{T:Hp}{c:Ct}{js:List Nat}{ρ:Sg}{F d:Hp}{a:A}{v:V}(s:aN F d)(h:aBV X T c js ρ F a v):aBV X T c js ρ d a v:=by
 rcases h with h|⟨S,fr,sl,k,n,Gm,b,h1,h2,e⟩
 · exact .inl (AF.same s h)
 · exact .inr ⟨S, fr, sl, k, n, Gm, b, h1, h2.same s, e⟩
def aFG(X:Cx)(T:Hp)(c:Ct)(js:List Nat)(ρ:Sg)(F:Hp):List A->List V->Prop
 | [],[]=>True
 | a::as,v::vs=>aBV X T c js ρ F a v/\aFG X T c js ρ F as vs
 | _,_=>False
def tK1(X:Cx)(T:Hp)(c:Ct)(js:List Nat)(E:XK)(f:Sg->R A):TE:=fun σ H Q=>∃ ρ F,Ab c ρ σ F H/\Rk c E F H (f ρ) fun a=>∀ v F' H',Ext F H F' H'->aBV X T c js ρ F' a v->Q v H'
def tKs(X:Cx)(T:Hp)(c:Ct)(js:List Nat)(E:XK)(f:Sg->R (List A)):TA:=fun σ H Q=>∃ ρ F,Ab c ρ σ F H/\Rk c E F H (f ρ) fun as=>∀ vs F' H',Ext F H F' H'->aFG X T c js ρ F' as vs->Q vs H'
section
variable{X:Cx}{T:Hp}{c:Ct}{js:List Nat}{E:XK}{e:E1}{es:List E1}
theorem aTI{f:Sg->R A}(h:PV X c E e f):PE X e (tK1 X T c js E f):=PE.imp h fun σ H Q ⟨ρ,F,ab,k⟩=>⟨ρ,F,ab,k.imp fun a _ q v b H' e1 r=>q v b H' e1 (.inl r)⟩
def vS(q:Str)(sl:List Nat)(k n:Nat)(Gm:List A->List Dz->R Dz)(i:Nat):Sg->R A:=fun ρ=>match ρ[i]?,iG sl ρ with
 | some (some (.k q')),some caps=>if q'=q then .ok (.g k n (Gm caps)) else .bad
 | _,_=>.bad
theorem aN1{q:Str}{S:ClSt}{fr:List Str}{sl:List Nat}{k n i:Nat}{Gm:List A->List Dz->R Dz}(t:c.cls q=some S)(M:CloOk X.prog X.w X.K X.mg X.base T S fr k n Gm)(h1:∀ y,(y,NameKind.free)∈S.scope.names->y∈fr)(h2:∀ y∈fr,(y,NameKind.free)∈S.scope.names)
  (r:sl.map (fun j=>X.N[j]?)=fr.map some) (m:∀ j∈sl,j∈js) (h:PE X e (jK i)):PE X e (tK1 X T c js E (vS q sl k n Gm i)):=PE.imp h fun σ H Q ⟨ρ,F,ab,k⟩=>by
 unfold vS at k
 split at k
 .rename_i l a hi s
  by_cases b:l=q
  .rw[AD b] at k
   subst b
   obtain ⟨v,p,u,f,cl,doc,pm,o,ct,g,d⟩:=ab.slot i _ hi
   rw[t] at g;cases g
   have d:pS c F S v:=⟨f,cl,doc,pm,o,ct,d⟩
   exact ⟨v,p,Rk.ok k v F H (Ext.refl ab.fh) (.inr ⟨_,fr,sl,_,_,Gm,a,rfl,d,M,h1,h2,r,m,s⟩)⟩
  .rw[AC b] at k;exact k.elim
 .exact k.elim
def aBW(sl:List Nat)(k n:Nat)(Gm:List A->List Dz->R Dz):Sg->R A:=fun ρ=>match iG sl ρ with
 | some caps=>.ok (.g k n (Gm caps))
 | none=>.bad
theorem aRD{S:ClSt}{fr:List Str}{sl:List Nat}{k n:Nat}{Gm:List A->List Dz->R Dz}{P0:Az}{qs:List (Pos×Str)}{cells:List (Str×Az)}(b:cells=c.cells)(d:c.g.T P0=some (.tbl qs))(M:CloOk X.prog X.w X.K X.mg X.base T S fr k n Gm)(h1:∀ y,(y,NameKind.free)∈S.scope.names->y∈fr)(h2:∀ y∈fr,(y,NameKind.free)∈S.scope.names)
  (f:sl.map (fun j=>X.N[j]?)=fr.map some) (i:∀ j∈sl,j∈js) (h:PE X e (tMk cells S P0 qs)):PE X e (tK1 X T c js E (aBW sl k n Gm)):=PE.imp h fun σ H Q ⟨ρ,F,ab,k⟩=>by
 unfold aBW at k
 split at k
 .rename_i a m
  exact aDP b d ab fun v o H' e1 l=>Rk.ok k v o H' e1 (.inr ⟨_,fr,sl,_,_,Gm,a,rfl,l,M,h1,h2,f,i,m⟩)
 .exact k.elim
theorem aN2:PA X [] (tKs X T c js E aO):=PA.imp aU fun σ H Q ⟨ρ,F,ab,k⟩=>Rk.ok k [] F H (Ext.refl ab.fh) trivial
end
section
variable{X:Cx}{T:Hp}{c:Ct}{js:List Nat}{E:XK}{e:E1}{es:List E1}
theorem t5{f:Sg->R A}{g:Sg->R (List A)}(h:PE X e (tK1 X T c js E f))(h2:PA X es (tKs X T c js E g))(i:starEach (e::es) X.env=(false,eval e X.env)::starEach es X.env:=by rfl):PA X (e::es) (tKs X T c js E (aA f g)):=PA.imp (aM h h2 i) fun σ H Q a=>by
 obtain ⟨ρ,F,ab,k⟩:=a
 refine ⟨ρ,F,ab,(Rk.bind k).imp fun x _ q v d H1 s1 r1=>⟨ρ,d,ab.ext s1,((Rk.bind q).ext s1).imp fun xs _ q vs j H2 b r2=>?_⟩⟩
 exact Rk.ok q (v::vs) j H2 (s1.trans b) ⟨r1.same b.ff,r2⟩
theorem aBX:∀ {js:List Nat} {ρ:Sg} {caps:List A},iG js ρ=some caps->∀ j∈js,∃ a,ρ[j]? = some (some a)
 | [],_,_,_,j,hj=>by simp at hj
 | i::js,ρ,caps,h,j,hj=>by
  unfold iG at h
  split at h
  .rename_i a b h1 h2
   rcases A2.mp hj with z|z
   · subst z; exact ⟨a, (vR h1).1⟩
   · exact aBX h2 j z
  .cases h
theorem aN3{α:Type}{N:List α}{sl:List Nat}{fr:List α}(h:sl.map (fun j=>N[j]?)=fr.map some):sl.length=fr.length/\∀ (i:Nat) x,fr[i]? = some x->∃ j,sl[i]? = some j/\N[j]? = some x:=by
 have a:sl.length=fr.length:=by have:=DG List.length h;simpa using this
 refine ⟨a,fun i x e=>?_⟩
 have hi:i < fr.length:=(AM.mp e).1
 have h2:(sl.map (fun j=>N[j]?))[i]? = (fr.map some)[i]?:=by rw[h]
 rw[AH,AH,e,AJ (by omega)] at h2
 exact ⟨sl[i],AJ _,BU h2⟩
theorem aKD{S:ClSt}{fr:List Str}{sl:List Nat}{k n:Nat}{Gm:List A->List Dz->R Dz}{d:List A}{ρ:Sg}{σ:L2.St}{F H:Hp}{q:Cv}{v:V}(J:c.g=gOf X.prog X.w X.K X.mg X.base T)(O:X.K=c.K)(I:X.mg=c.mg)(p:X.env.cells=c.cells)(ab:Ab c ρ σ F H)(R:PubRel X σ H js q)
  (hA:pS c F S v) (M:CloOk X.prog X.w X.K X.mg X.base T S fr k n Gm) (h1:∀ y,(y,NameKind.free)∈S.scope.names->y∈fr) (h2:∀ y∈fr,(y,NameKind.free)∈S.scope.names)
  (h3:sl.map (fun j=>X.N[j]?)=fr.map some) (Z:∀ j∈sl,j∈js) (hc:iG sl ρ=some d):AF c.g c.K c.mg (pub q F) (.g k n (Gm d)) v:=by
 obtain ⟨f,cl,doc,pm,cc,ct,rfl,q1,q2,C⟩:=hA
 obtain ⟨cvs,r,l,gt⟩:=aDQ ab hc
 obtain ⟨P,g3⟩:=aN3 h3
 have s:∀ b∈dH q,F b=none:=fun b hb=>bZ ab.fh (R.free b hb)
 have L:aN F (pub q F):=kZ s
 have D:∀ (i:Nat) x v,fr[i]? = some x->cvs[i]? = some v->∃ a o,cl.lookup x=some a/\q.lookup a=some (o,v):=fun i x v e1 e2=>by
  obtain ⟨j,m,u⟩:=g3 i x e1
  obtain ⟨v',W,e6⟩:=gt i j m
  rw[e2] at W;cases W
  obtain ⟨x',a,o,v2,U,e8,Y,E⟩:=R.all j (Z j (AW m))
  rw[u] at U;cases U
  rw[e6] at Y;cases Y
  obtain ⟨Q,B⟩:=C.all (x,.free) (h2 x (AW e1)) rfl
  have t:=C.of _ _ B
  rw[<-p] at t
  have h:X.env.cells.lookup x=some Q:=t
  rw[e8] at h;cases h
  exact ⟨a,o,B,E⟩
 refine ⟨f,pub q F,rfl,cM _,?_⟩
 rw[J]
 refine M F (pub q F) d cvs f cl doc pm ct cc (fun a o z=>ab.f0 a o (ab.t0 a o (by rw[J];exact z))) (by rw[O,I,<-O,<-I];rw[J] at r;rw[<-O,<-I] at r;exact r) L (L _ _ q1) (L _ _ q2) ⟨l.trans P,fun n c e=>h1 n (C.only n c e),fun n n' c e e'=>R.inj n n' c (by rw[p];exact C.of _ _ e) (by rw[p];exact C.of _ _ e'),fun i x v e1 e2=>?_⟩ fun a ha=>?_
 .obtain ⟨a,o,m,u⟩:=D i x v e1 e2
  exact ⟨a,o,m,qR u⟩
 .obtain ⟨x,hx,e⟩:=DN.mp ha
  obtain ⟨i,hi,G⟩:=FP.mp hx
  obtain ⟨Q,o,m,u⟩:=D i x (cvs[i]'(by rw[l,P];exact hi)) (by rw[AJ hi,G]) (AJ _)
  rw[e] at m;cases m
  exact s a (iK.mpr ⟨_,u⟩)
theorem zN{ρ:Sg}{σ:L2.St}{F H:Hp}{cv:Cv}(hG:c.g=gOf X.prog X.w X.K X.mg X.base T)(hK:X.K=c.K)(hM:X.mg=c.mg)(hcl:X.env.cells=c.cells)(ab:Ab c ρ σ F H)(R:PubRel X σ H js cv):∀ {as:List A} {vs:List V},aFG X T c js ρ F as vs->AFs c.g c.K c.mg (pub cv F) as vs
 | [],[],_=>trivial
 | a::as,v::vs,h=>by
  refine ⟨?_,zN hG hK hM hcl ab R h.2⟩
  rcases h.1 with q|⟨S,fr,sl,k,n,Gm,d,rfl,f,l,m,o,e,p,i⟩
  · exact AF.same (kZ fun b j => bZ ab.fh (R.free b j)) q
  · exact aKD hG hK hM hcl ab R f l m o e p i
def rE(js:List Nat)(n:Nat)(G:List A->R A)(f:Sg->R (List A)):Sg->R A:=fun ρ=>match iG js ρ with
 | some _=>(f ρ).bind fun as=>if as.length=n then (dOf (G as)).bind fun x=>.ok (.d x) else .bad
 | none=>.bad
theorem aRE{n:Nat}{G:List A->R A}{g:Gb}{K:Frag}{mg:Str->O9 V9}{f:Sg->R (List A)}(hG:c.g=gOf X.prog X.w X.K X.mg X.base T)(hK:X.K=c.K)(hM:X.mg=c.mg)(t:X.env.cells=c.cells)(Z:g=c.g)(hk:K=c.K)(hm:mg=c.mg)
  (u:∀ j∈js,∃ x,X.N[j]? = some x/\X.env.kindOf x=some .cell/\X.fn x=true) (h:PE X e (aHE X js (spF g K mg n G) E (tKs X T c js E f))):PV X c E e (rE js n G f):=PE.imp h fun σ H Q ⟨ρ,F,ab,k⟩=>by
 subst Z hk hm
 unfold rE at k
 split at k
 .rename_i J hc
  refine ⟨ρ,F,ab,(Rk.bind k).imp fun y _ q vs L H1 e1 r1=>⟨fun j D=>?_,fun I R=>?_⟩⟩
  .obtain ⟨x,P,O,M⟩:=u j D
   obtain ⟨a,ha⟩:=aBX hc j D
   obtain ⟨v,V,_⟩:=ab.slot j a ha
   exact ⟨x,v,P,O,M,V⟩
  .by_cases B:y.length=n
   .rw[AD B] at q
    have s:=ab.ext e1
    have p:∀ b∈dH I,L b=none:=fun b r=>bZ e1.fh (R.free b r)
    refine ⟨pub I L,y,fun a o z=>kZ p a o (e1.ff a o (ab.f0 a o (ab.t0 a o z))),aKC e1.fh,zN hG hK hM t s R r1,B,?_⟩
    cases i:G y with
    | bad=>rw[i] at q;exact q
    | ok a=>
     rw[i] at q
     cases a with
     | d x=>
      intro v W H2 e2 r2
      exact Rk.ok q v _ _ (e1.trans (zL R.free e1.fh e2)) (aDM (aBU e2.ff) r2)
     | l xs=>exact False.elim q
     | m xs=>exact False.elim q
     | x xs=>exact False.elim q
     | g k n f=>exact False.elim q
     | k S=>exact False.elim q
     | f S=>exact False.elim q
     | o S=>exact False.elim q
    | ex x=>
     rw[i] at q
     intro a C W H2 e2 r2
     obtain ⟨Y,U⟩:=aKB (aBU e2.ff) r2
     exact ⟨q a C _ _ ((ab.all.trans e1).trans (zL R.free e1.fh e2)) Y,fun b r=>by cases r;exact U⟩
   .rw[AC B] at q;exact q.elim
 .exact k.elim
end
section
variable{P:P9}{w:W9}{K:Frag}{mg:Str->O9 V9}{base:H9}{T:Hp}
structure DefAtT(K:Frag)(mg:Str->Option V9)(base:Heap)(T:Hp)(qs:List (Pos×Str))(x:Str)(st:Stmt)(ps:List Str):Prop where
 ex:∃ f oc od kV doc pm an c0 ct osl P0,K.lookup f=some ⟨oc,od,.func (PySem.W.fnOf x x (dR st) (cG st) (aK st) .none kV doc pm an (.ref c0) ct),osl⟩/\PySem.W.codeIn K (.ref c0) x=true/\PySem.W.keepIn K (.ref f)=true /\
  fA K (PySem.W.fnOf x x (dR st) (cG st) (aK st) .none kV doc pm an (.ref c0) ct) ps []/\mg x=some (.ref f)/\Tb mg base c0 P0/\T P0=some (.tbl qs)
theorem aVA{h:H9}{qs:List (Pos×Str)}{xs:List Str}{x:Str}{st:Stmt}{ps:List Str}(D:DefAt K mg x st ps)(i:K.In h)(n:aA5 mg h base T qs xs)(hx:x∈xs):DefAtT K mg base T qs x st ps:=by
 obtain ⟨f,fd,F,b,m⟩:=D.ex
 obtain ⟨l,od,kV,doc,pm,j,c,ct,d,rfl,g,a⟩:=F.ex
 obtain ⟨c0,P0,p,k,o⟩:=n x hx
 have e:c=.ref c0:=o f _ _ m (i _ _ g) rfl
 subst e
 exact ⟨f,l,od,kV,doc,pm,j,c0,ct,d,P0,g,a,F.kp,b,m,k,p⟩
theorem aN4{x:Str}{st:Stmt}{N ps:List Str}{k:Nat}{qs:List (Pos×Str)}{cls:Str->O9 ClSt}{fb:Sg->R Fw}(D:DefAtT K mg base T qs x st ps)(S:FnScope N ps (aK st))
  (a:∀ (f c0 P0:Az) (A:U9) (outer:List Env) (s:S9) (H F:Hp) (E:XK),Tb mg base c0 P0->T P0=some (.tbl qs)->Room k (A.deeper (envOfC x (aK st) s.heap.objs.size f (.ref c0)))->
   kJ ((iS (CXe P w) P w K mg base N x (aK st) f (.ref c0) A outer s H E).fly E) ⟨K,mg,w,F,H,gOf P w K mg base T,(envOfC x (aK st) s.heap.objs.size f (.ref c0)).cells,cls⟩ E (cG st) fb):a8 P w K mg base T (k+1) x ps (fnF N.length fb):=by
 obtain ⟨f,t,od,kV,doc,pm,r,c0,ct,n,P0,p,c,e,b,m,i,q⟩:=D.ex
 refine ⟨f,_,z7 p c S (fun vs H Q E h=>?_) (fun A outer s H vs Q E j h=>?_),b,m,e⟩
 .obtain ⟨F,l,_,_,h2,d,_⟩:=h
  rw[h2.len,d]
 .obtain ⟨F,l,o,h1,h2,d,g⟩:=h
  exact ⟨_,(a f c0 P0 A outer s H F E i q j).unfly fun _ _ z=>qK z,oK o h1 h2 g⟩
end
noncomputable def aRF:Stmt->E1
 | .Assign _ e _=>e
 | .Return (some e) _=>e
 | _=>.Constant .none 0 ⟨0,0,0,0⟩
noncomputable def aRG(e:E1)(i:Nat):E1:=match e with
 | .Call _ as _ _=>as.getD i (.Constant .none 0 ⟨0,0,0,0⟩)
 | e=>e
noncomputable def clS(q:Str):Stmt->ClSt
 | .FunctionDef x a b _ _ _ sc _ _ _=>⟨x,q,a,.stmts b,sc⟩
 | s=>⟨"",q,dR s,.stmts [],aK s⟩
noncomputable def clE(q:Str):E1->ClSt
 | .Lambda a b sc _=>⟨"<lambda>",q,a,.expr b,sc⟩
 | _=>⟨"",q,dR (.Pass ⟨0,0,0,0⟩),.stmts [],aK (.Pass ⟨0,0,0,0⟩)⟩
noncomputable def aVB:Stmt->Pos
 | .FunctionDef _ _ _ _ _ _ _ _ _ p=>p
 | _=>⟨0,0,0,0⟩
noncomputable def aVC:E1->Pos
 | .Lambda _ _ _ p=>p
 | _=>⟨0,0,0,0⟩
theorem aRH{X:Cx}:∀ j∈([]:List Nat),∃ x,X.N[j]? = some x/\X.env.kindOf x=some .cell/\X.fn x=true:=fun j h=>by simp at h
theorem aN5{X:Cx}{i:Nat}{js:List Nat}(h:∃ x,X.N[i]? = some x/\X.env.kindOf x=some .cell/\X.fn x=true)(t:∀ j∈js,∃ x,X.N[j]? = some x/\X.env.kindOf x=some .cell/\X.fn x=true):∀ j∈i::js,∃ x,X.N[j]? = some x/\X.env.kindOf x=some .cell/\X.fn x=true:=fun j a=>by
 rcases A2.mp a with z|z
 · subst z; exact h
 · exact t j z
end Fl
namespace Zp
open PySem
structure Apart(z TI TO i1 i2:Az)(f1 f2:List Az):Prop where
 TIz:TI≠z
 TOz:TO≠z
 i1z:i1≠z
 i2z:i2≠z
 TITO:TI≠TO
 TIi1:TI≠i1
 TIi2:TI≠i2
 TOi1:TO≠i1
 TOi2:TO≠i2
 i12:i1≠i2
 z1:z∉f1
 z2:z∉f2
 t1:TO∉f1
 t2:TO∉f2
 i1f2:i1∉f2
 i2f1:i2∉f1
section
variable{prog:P9}{w:W9}{A:U9}{E:V9->S9->Prop}{s:S9}
abbrev aVD(h:H9)(z TI TO:Az)(f0 f1:V9):Prop:=h.get? z=some {cls:=.type "zip",dict:=none,data:=.fields #[f0,f1,.bool false,.ref TI,.ref TO],slots:=#[]}
end
noncomputable abbrev H2(h:H9)(o1 o2:Obj):H9:=(h.push o1).push o2
noncomputable abbrev H3(h:H9)(o1 o2:Obj):H9:=(H2 h o1 o2).push {cls:=.type "tuple",data:=.seq #[.ref h.objs.size,.ref (h.push o1).objs.size]}
noncomputable abbrev H4(h:H9)(o1 o2:Obj):H9:=(H3 h o1 o2).push {cls:=.type "tuple",data:=.seq #[.none,.none]}
noncomputable abbrev H5(h:H9)(o1 o2:Obj):H9:=(H4 h o1 o2).push {cls:=.type "zip",data:=.fields #[.none,.bool false,.bool false,.ref (H2 h o1 o2).objs.size,.ref (H3 h o1 o2).objs.size]}
end Zp
namespace L2
open PySem PySem.Spec PyProof.Rows
abbrev Col:=Hp->List V->Prop
structure ColOk(P:Program)(w:World)(K:Frag)(C:Col)(it:Az)(tn:Nat->Heap->Prop):Prop where
 obj:∀ i h,tn i h->∃ o,h.get? it=some o/\∀ v,o.data≠.cell v
 keep:∀ i h h',tn i h->(∀ o,h.get? it=some o->h'.get? it=some o)->tn i h'
 one:∀ (X:Cx),X.prog=P->X.w=w->X.K=K->∀ pins s σ H xs ys,Inv X pins σ H s->C H xs->C H ys->xs=ys
 draw:∀ (X:Cx),X.prog=P->X.w=w->X.K=K->∀ (i:Nat) (pins:List (Az×Obj)) (s:S9) (σ:St) (H:Hp) (xs:List V) (A:Around),Inv X pins σ H s->kW X pins H it->tn i s.heap->C H xs->A.handled=none->
  ∃ fp Pv St,Draws P w A it fp xs.length Pv St/\St i s.heap/\(∀ j h,St j h->tn j h)/\(∀ j v,Pv j v->∃ x,xs[j]? = some x/\bE x v)/\∀ b,kW X pins H b->b≠it->b∉fp
end L2
namespace Fl
open PySem L2 PyProof.Rows
section
variable{X:Cx}{c:Ct}{E:XK}{e a b:E1}{st:Stmt}{pos:Pos}
noncomputable def aTJ(i:Nat)(f g:Sg->R Dz):Sg->R Fw:=fun ρ=>match ρ[i]? with
 | some (some (.m kvs))=>(f ρ).bind fun k=>(g ρ).bind fun y=>if cV k (kvs.map (·.1))=true/\kvs.length<=16777216 then .ok (.nx (if dZ kvs k=true then ρ else ρ.set i (some (.m (putM kvs k y))))) else .bad
 | _=>.bad
end
def aVE(i:Nat):Sg->R Fw:=fun ρ=>match ρ[i]? with
 | some (some (.l xs))=>.ok (.nx (ρ.set i (some (.l xs.reverse))))
 | _=>.bad
end Fl
namespace Zp
open PySem
end Zp
namespace Fl
open PySem L2 PyProof.Rows
noncomputable def fzM(i:Nat)(ρ:Sg):Sg:=match ρ[i]? with
 | some (some (.m kvs))=>ρ.set i (some (.f kvs))
 | _=>ρ
def aVF(i:Nat)(f:Sg->R Fw):Sg->R Fw:=fun ρ=>f (fzM i ρ)
noncomputable def aVG(neg:Bool)(i:Nat)(f:Sg->R Dz):Sg->R Dz:=fun ρ=>(f ρ).bind fun k=>match ρ[i]? with
 | some (some (.f kvs))=>if cV k (kvs.map (·.1))=true then .ok (.bool (if neg=true then !dZ kvs k else dZ kvs k)) else .bad
 | _=>.bad
noncomputable def aTK(i:Nat)(f:Sg->R Dz):Sg->R Dz:=fun ρ=>match ρ[i]? with
 | some (some (.f kvs))=>(f ρ).bind fun k=>if cV k (kvs.map (·.1))=true then (match fM kvs k with
  | some v=>.ok v
  | none=>.bad) else .bad
 | _=>.bad
end Fl
namespace Zp
open PySem
def Raw(h:H9)(d:Az)(ar:Array DictEntry)(ep:Nat):Prop:=∃ o,h.get? d=some o/\o.ExactDict/\o.data=.dict ar ep
section
variable{prog:P9}{w:W9}{A:U9}{E:V9->S9->Prop}{s:S9}{d it:Az}{ar:Array DictEntry}{ep i:Nat}
theorem aKE{Q:V9->S9->Prop}(g:(d == sysModules)=false)(f:Raw s.heap d ar ep)(q:Q (.ref s.heap.objs.size) {s with heap:=s.heap.push {cls:=.type "dict_keyiterator",data:=.fields #[.ref d,.int 0 0,.int ar.size 0,.int ep 0]}}) :
  wpAny (model prog w) A (pyIter (.ref d)) Q E s:=by
 obtain ⟨o,c,e,a⟩:=f
 have b:s.TypeIs (.ref d) "dict":=⟨o,c,e.1⟩
 refine wpAny_pyIter_slot b F.slot_dict_iter (FE F.slot_dict_iter b F.entry_dict_iter ?_ (F.args_dict_iter_1 _))
 unfold Builtin.«dict.__iter__»
 refine AA ?_
 unfold Builtin.Dict.dictSlotNone
 refine AA (wpAny_notOrdered_dict b (AE ?_))
 show wpAny _ _ (Builtin.Dict.showsAll d >>= _) _ _ s
 unfold Builtin.Dict.showsAll
 rw[AC (by rw[g];exact B7)]
 refine AA (AE (AA (E9 c a (AA (GX c a ?_)))))
 refine AA (CW (AE ⟨_,rfl,"dict_keyiterator",_,⟨_,BA _ rfl,rfl⟩,C5.lookup,?_⟩))
 simpa[rawInt] using q
theorem aKF{Q:O9 V9->S9->Prop}{g:DictEntry}(a:s.heap.IsKeyIter it d i ar.size ep)(l:Raw s.heap d ar ep)(hx:ar[i]? = some g)
  (q:∀ h',h'.IsKeyIter it d (i+1) ar.size ep->Heap.SameBut it s.heap h'->Q (some g.key) {s with heap:=h'}):wpAny (model prog w) A (pyNext (.ref it)) Q E s:=by
 obtain ⟨o,h,k,f⟩:=id a
 obtain ⟨od,c,j,e⟩:=l
 unfold pyNext
 refine AA (FD (EE (name:=Str.ofString "__next__") a.typeIs C5
  (FE C5 a.typeIs FV ?_ (FQ _))))
 refine AA (AE (AA (AA ?_)))
 first|refine AA (DD a.typeIs (AE ?_))|refine AA (D1 a.typeIs (AE ?_))
 refine AA (wpAny_fieldsOf h f ?_)
 simp only[show Builtin.Dict_items.ownsTuple "dict_keyiterator"=false by decide,BF,CF]
 show wpAny _ _ (if (Value.ref d == Value.none)=true then _ else _) _ _ s
 rw[AC (show ¬ ((Value.ref d == Value.none)=true) from B7)]
 refine AA (AE (AA (E9 c e ?_)))
 rw[AC (by simp)]
 refine AA (AE (AA (GX c e ?_)))
 rw[AC (by simp)]
 refine AE ?_
 simp only[show ¬ ((i:Int) < 0) from by omega,CF,CD,hx]
 refine AA ?_
 first|refine AA (DD a.typeIs (AE ?_))|refine AA (D1 a.typeIs (AE ?_))
 refine AA (wpAny_isOneOf_keyiter a.typeIs ?_)
 show wpAny _ _ (setField (.ref it) 1 (rawInt ((i:Int)+1)) >>= _) _ _ s
 refine AA (E4 h f (by simp) ?_)
 have b:(s.heap.update it (Obj.mapFields (·.setIfInBounds 1 (rawInt ((i:Int)+1))))).IsKeyIter it d (i+1) ar.size ep:=
  ⟨_,B3 _ h (FJ (EI f _)),(Obj.cls_mapFields ..).trans k,by rw[EI f];simp[rawInt]⟩
 refine AA (CN (AA (wpAny_isOneOf_keyiter (s:={s with heap:=s.heap.update it (Obj.mapFields (·.setIfInBounds 1 (rawInt ((i:Int)+1))))}) b.typeIs ?_)))
 show wpAny _ _ (pure g.key) _ _ _
 exact AE (AE ⟨_,rfl,AE (q _ b (EB ..))⟩)
theorem aN6{Q:O9 V9->S9->Prop}(j:A.handled=none)(c:s.heap.IsKeyIter it d i ar.size ep)(l:Raw s.heap d ar ep)(hx:ar.size<=i)
  (q:∀ h',Heap.ExtBut it s.heap h'->Q none {s with heap:=h'}):wpAny (model prog w) A (pyNext (.ref it)) Q E s:=by
 obtain ⟨o,g,n,h⟩:=id c
 obtain ⟨od,e,k,f⟩:=l
 unfold pyNext
 refine AA (FD (EE (name:=Str.ofString "__next__") c.typeIs C5
  (FE C5 c.typeIs FV ?_ (FQ _))))
 refine AA (AE (AA (AA ?_)))
 first|refine AA (DD c.typeIs (AE ?_))|refine AA (D1 c.typeIs (AE ?_))
 refine AA (wpAny_fieldsOf g h ?_)
 simp only[show Builtin.Dict_items.ownsTuple "dict_keyiterator"=false by decide,BF,CF]
 show wpAny _ _ (if (Value.ref d == Value.none)=true then _ else _) _ _ s
 rw[AC (show ¬ ((Value.ref d == Value.none)=true) from B7)]
 refine AA (AE (AA (E9 e f ?_)))
 rw[AC (by simp)]
 refine AA (AE (AA (GX e f ?_)))
 rw[AC (by simp)]
 refine AE ?_
 simp only[show ¬ ((i:Int) < 0) from by omega,CF,CD,Array.getElem?_eq_none hx]
 refine AA ?_
 first|refine AA (DD c.typeIs (AE ?_))|refine AA (D1 c.typeIs (AE ?_))
 show wpAny _ _ (setField (.ref it) 0 .none >>= _) _ _ s
 refine AA (E4 g h (by simp) ?_)
 show wpAny _ _ (newExc (.type "StopIteration") [] >>= _) _ _ _
 refine AA ?_
 simp only[newExc,newTuple]
 refine AA (CW ?_ (by size_fits))
 refine AA (m:=firstArgMember _ _) (wpAny_of_eq (a:=Value.none) (by first|rfl|(simp only[firstArgMember];rfl)) ?_)
 refine CW ?_ (by size_fits)
 simp only[raiseNew]
 refine AA (wpAny_handled ?_)
 rw[show A.in1.handled=none from j]
 refine AA (AE (wpAny_throw ?_))
 refine AA (GP (T:="StopIteration") (b:=true) ⟨_,BA _ rfl,rfl⟩ isSubtype_stop ?_)
 exact AE (q _ (((EB ..).extBut.push _).push _))
end
end Zp
namespace Fl
open PySem L2 PyProof.Rows
theorem vT{α β:Type}{f:α->β->Prop}:∀ {xs:List α} {ys:List β} {i:Nat} {x:α},Paired f xs ys->xs[i]? = some x->∃ y,ys[i]? = some y/\f x y
 | _,_,_,_,.nil,h=>by simp at h
 | _,_,0,_,.cons q t,h=>by simp at h;subst h;exact ⟨_,rfl,q⟩
 | _,_,i+1,_,.cons q t,h=>by
  obtain ⟨y,h1,h2⟩:=vT (i:=i) t (by simpa using h)
  exact ⟨y,by simpa using h1,h2⟩
theorem aDR{X:Cx}{pins:List (Az×Obj)}{σ:L2.St}{H:Hp}{s:S9}{d:Az}{es:List Ent}{ep:Nat}(I:Inv X pins σ H s)(h:H d=some (dU X.w d es ep)):(d == sysModules)=false/\∃ ar,Zp.Raw s.heap d ar ep/\Paired (pD X.w) es ar.toList:=by
 obtain ⟨⟨c,o,ar,h1,h2,b,a⟩,_,_⟩:=(show cF X.prog X.w H s.heap d (dU X.w d es ep) from I.hok d _ h)
 exact ⟨c,ar,⟨o,h1,h2,b⟩,a⟩
section
variable{X:Cx}{c:Ct}{E:XK}{tg e:E1}
noncomputable def aTL(i:Nat):Sg->R (List Dz):=fun ρ=>match ρ[i]? with
 | some (some (.f kvs))=>if kvs.length<=16777216 then .ok (kvs.map (·.1)) else .bad
 | _=>.bad
def vU(i:Nat):Sg->R Dz:=fun ρ=>match ρ[i]? with
 | some (some (.m kvs))=>if kvs.length<=16777216 then .ok (.int (kvs.length:Int)) else .bad
 | some (some (.f kvs))=>if kvs.length<=16777216 then .ok (.int (kvs.length:Int)) else .bad
 | _=>.bad
end
end Fl
namespace Zp
open PySem
abbrev t6(h:H9)(S:Az)(acc:Array V9)(c:Nat):Prop:=h.get? S=some {cls:=.type "list",dict:=none,data:=.seq acc c,slots:=#[]}
theorem aKG{prog:P9}{w:W9}{A:U9}{R:Result->S9->Prop}{I S:Az}{n:Nat}{res:V9}(J Jf:Array V9->H9->Prop)(y:n<=sizeLine)
  (size:∀ acc h,J acc h->acc.size<=n)
  (g:∀ acc h h',J acc h->h'.objs.size=h.objs.size->(∀ b o,b≠S->h.get? b=some o->h'.get? b=some o)->J acc h')
  (item:∀ acc (s:S9) (c:Nat) (Q:O9 V9->S9->Prop) (E:V9->S9->Prop),acc.size < n->J acc s.heap->t6 s.heap S acc c->(∀ v h' tk,J (acc.push v) h'->t6 h' S acc c->Q (some v) {s with heap:=h',toks:=tk})->wpAny (model prog w) A.in1 (pyNext (.ref I)) Q E s)
  (done:∀ acc (s:S9) (c:Nat) (Q:O9 V9->S9->Prop) (E:V9->S9->Prop),acc.size=n->J acc s.heap->t6 s.heap S acc c->(∀ h' tk,Jf acc h'->t6 h' S acc c->Q none {s with heap:=h',toks:=tk})->wpAny (model prog w) A.in1 (pyNext (.ref I)) Q E s) :
  ∀ (k:Nat) (s:S9) (acc:Array V9) (c:Nat),n - acc.size=k->J acc s.heap->t6 s.heap S acc c->(∀ h' tk a l,Jf a h'->a.size=n->t6 h' S a l->R (.ok (.ret res)) {s with heap:=h',toks:=tk})->
  codeAny (model prog w) A (.builtin "list.extend.loop" ⟨[.ref S,.ref I,res],[]⟩) R s:=by
 intro k
 induction k with
 | zero=>
  intro s acc c x i m j
  have:=size acc _ i
  refine codeAny_builtin F.entry_extend_loop ?_
  rw[Around.under_plainId EV _]
  show wpAny _ A.in1 (pyNext (.ref I) >>= _) _ _ s
  exact AA (done acc s c _ _ (by omega) i m fun h' tk f d=>AE (j h' tk acc c f (by omega) d))
 | succ k ih=>
  intro s acc c x i m j
  refine codeAny_builtin F.entry_extend_loop ?_
  rw[Around.under_plainId EV _]
  show wpAny _ A.in1 (pyNext (.ref I) >>= _) _ _ s
  refine AA (item acc s c _ _ (by omega) i m fun v h' tk f d=>?_)
  show wpAny _ A.in1 (updateSeq S (·.push v) >>= _) _ _ _
  refine AA (FR d rfl (AE ⟨plainId_quiet EV _,ih _ (acc.push v) _ (by rw[E2];omega) (g _ _ _ f (Heap.size_update ..) fun b o t e=>?_) (B3 _ d rfl) fun h2 p a l u r q=>j h2 p a l u r q⟩) (by omega) (by show (acc.push v).size<=sizeLine+1;rw[E2];omega))
  exact (CJ _ _ (fun h:S=b=>t h.symm)).trans e
structure Jz(P1 P2:Nat->V9->Prop)(S1 S2:Nat->Heap->Prop)(s0:Heap)(z TI TO i1 i2 S:Az)(n:Nat)(acc:Array V9)(h:Heap):Prop where
 size:acc.size<=n
 inc:∀ (j k p q:Nat),j < k->acc[j]? = some (.ref p)->acc[k]? = some (.ref q)->p < q
 top:∀ (j p:Nat),acc[j]? = some (.ref p)->p < h.objs.size
 told:∀ (j:Nat) v,acc[j]? = some v->∃ p x y,v=.ref p/\S < p/\IsPair h p x y/\P1 j x/\P2 j y
 s1:S1 acc.size h
 s2:S2 acc.size h
 ti:IsPair h TI (.ref i1) (.ref i2)
 keep:∀ c o,c≠z->c≠TO->c≠i1->c≠i2->c≠S->s0.get? c=some o->h.get? c=some o
 big:S < h.objs.size
 st:(acc.size=0/\IsZip h z TI TO .none/\∃ a b,IsPair h TO a b)\/(0 < acc.size/\∃ (T:Az) (bb:Bool) (o:Obj),aVD h z TI TO (rawInt T) (.bool bb)/\h.get? T=some o/\S < T)
end Zp
namespace L2
open PySem PySem.Spec PyProof.Rows
structure LZ(H1 H2:Hp)(xs ys:List V)(l:Az)(ps:List Az):Prop where
 same:∀ b o,H1 b=some o->H2 b=some o
 new:H1 l=none
 lst:H2 l=some (.lst (ps.map .ref))
 len:ps.length=min xs.length ys.length
 tup:∀ (j:Nat) p,ps[j]? = some p->H1 p=none/\∃ u v,xs[j]? = some u/\ys[j]? = some v/\H2 p=some (.tup [u,v])
end L2
namespace HT
open PySem PySem.Spec PyProof.Rows L2
end HT
namespace Fl
open PySem L2 PyProof.Rows
end Fl
namespace L2
open PySem PySem.Spec PyProof.Rows
end L2
namespace Zp
open PySem PySem.Spec PyProof.Rows
section
variable{prog:P9}{w:W9}{A:U9}{E:V9->S9->Prop}{s:S9}{d:Az}{ar:Array DictEntry}{ep:Nat}
theorem zX(f:(d == sysModules)=false) :
  MeetsIn prog w (Builtin.«dict.__len__» ⟨[.ref d],[]⟩) (fun _ R s=>∃ ar ep,Raw s.heap d ar ep/\R (.ok (.ret (.int ar.size s.toks))) {s with toks:=s.toks+1}):=
 .of_wp fun A R s b=>by
  obtain ⟨ar,ep,e,h⟩:=b
  obtain ⟨o,c,g,a⟩:=e
  show wpAny _ _ (dictSize d >>= _) _ _ s
  unfold dictSize
  refine AA (AA (E9 c a (AE ?_)))
  show wpAny _ _ (Builtin.Dict.pendingCount d >>= _) _ _ s
  refine AA (wpAny_pendingCount_other f ?_)
  refine wpAny_ret_mkInt ?_
  rw[GQ];exact h
theorem aN7{Q:V9->S9->Prop}(i:(d == sysModules)=false)(c:Raw s.heap d ar ep)(e:(ar.size:Int) < 2 ^ 63)
  (h:∀ t t',Q (.int ar.size t) {s with toks:=t'}):wpAny (model prog w) A (call (.builtin "len") [.ref d]) Q E s:=by
 have a:s.TypeIs (.ref d) "dict":=by
  obtain ⟨o,f,g,b⟩:=id c
  exact ⟨o,f,g.1⟩
 refine Calls.call_function_entry kind_len plain_len entry_len (args_len1 _) ?_
 unfold Builtin.«len»
 refine AA (m:=oneArg "len" _) (AE ?_)
 refine AA (m:=callSpecial? (.ref d) (Str.ofString "__len__")) (EE (name:=Str.ofString "__len__") a F.slot_dict_len
  (call_meetsIn F.slot_dict_len a F.entry_dict_len (F.args_dict_len_1 _) (zX i) ⟨ar,ep,c,?_⟩))
 show wpAny _ _ _ _ _ {s with toks:=s.toks+1}
 refine AA (CN (AE ?_))
 refine AA (wpAny_letGo ?_)
 show wpAny _ _ (if ((ar.size:Nat):Int) < 0 then _ else _) _ _ _
 rw[AC (by omega)]
 show wpAny _ _ (if ((ar.size:Nat):Int)>=2 ^ 63 then _ else _) _ _ _
 rw[AC (by omega)]
 exact AA (wpAny_mkInt (AE ⟨_,rfl,h _ _⟩))
end
end Zp
namespace Fl
open PySem L2 PyProof.Rows
section
variable{X:Cx}{c:Ct}{E:XK}{e:E1}
theorem aHV:jV X (.builtin "len") (fun xs H Q=>∃ d es ep,xs=[.ref d]/\H d=some (dU X.w d es ep)/\es.length<=16777216/\Q (.int (es.length:Int)) H):=by
 intro pins s σ H xs us Q I r h
 obtain ⟨d,es,ep,rfl,b,i,q⟩:=h
 obtain ⟨u,rfl,c⟩:=nB r
 cases (show u=Value.ref d from c)
 obtain ⟨f,ar,g,e⟩:=aDR I b
 have a:ar.size=es.length:=by rw[F5 e];simp
 refine Zp.aN7 f g (by rw[a];omega) fun t j=>?_
 rw[a]
 exact ⟨.int (es.length:Int),H,I.tok _,⟨t,rfl⟩,q⟩
theorem aN8{i:Nat}(n:X.w=c.g.w)(j:X.w=c.w)(h:PE X e (tCB (fun xs H Q=>∃ d es ep,xs=[.ref d]/\H d=some (dU X.w d es ep)/\es.length<=16777216/\Q (.int (es.length:Int)) H) (fJ (jK i) jL))):PD X c E e (vU i):=PE.imp h fun σ H Q ⟨ρ,F,ab,k⟩=>by
 unfold vU at k
 split at k
 .rename_i a hi
  split at k
  .rename_i m
   obtain ⟨v,l,p,es,rfl,⟨ep,h2⟩,q,o,f⟩:=ab.slot i _ hi
   have b:es.length=a.length:=by simpa using congrArg List.length f.k1
   refine ⟨_,l,p,es,ep,rfl,by rw[j];exact h2,by omega,?_⟩
   rw[b]
   exact Rk.ok k _ F H (Ext.refl ab.fh) (.int _)
  .exact k.elim
 .rename_i a hi
  split at k
  .rename_i m
   obtain ⟨v,l,p,es,rfl,⟨ep,h2⟩,f⟩:=ab.slot i _ hi
   have b:es.length=a.length:=by simpa using congrArg List.length f.k1
   refine ⟨_,l,p,es,ep,rfl,by rw[n];exact ab.fh _ _ h2,by omega,?_⟩
   rw[b]
   exact Rk.ok k _ F H (Ext.refl ab.fh) (.int _)
  .exact k.elim
 .exact k.elim
end
end Fl
namespace Mc
open PySem L2 PyProof.Rows Fl
noncomputable def pT:Sg->R Fw:=(cI (vD (e1 dLen (e2 dIx (e2 dIx (rV 0) (eC (.int 0))) (eC (.int 1))))))
noncomputable def gI:List A->R A:=fnF 1 pT
noncomputable def pU:Sg->R Fw:=(cI (vD (eL (f7 [none,some 1] (e1 cD (rV 0)) (stN 0) fX (e2 dIx (e2 dIx (rV 0) (eC (.int 1))) (rV 1))))))
noncomputable def jF:List A->R A:=fnF 2 pU
noncomputable def mY:Sg->R Fw:=(aS (bU 2 (vD (eSl dSl (eC (.str "abc")) oNo (oSo (rV 0)))))
 (aS (jY (e1 aAA (eV 1)) (stT [(stN 3),(stN 4)]) (sIf (e1 asB (e2 dNin (rV 4) (rV 2))) (vJ "NoStrip" ["at"] (aA (eV 3) aO)) sNx))
 (cI (vV 1))))
noncomputable def iX:List A->R A:=fnF 5 mY
noncomputable def rF:Sg->R Fw:=(cI (bM 2 iX (aA (bM 1 gI (aA (vV 0) aO)) (aA (vV 1) aO))))
noncomputable def gJ:List A->R A:=fnF 2 rF
noncomputable def rG:Sg->R Fw:=(aS (fB 3 (eB (aA (eV 0) aO)))
 (aS (aAC 4 (aAB (eV 0) (eC (.int 0)) aFF))
 (aS (fB 5 (eB aO))
 (aS (b7 (qX (e1 asB (e2 dLt (e1 dLen (rV 5)) (e1 dLen (rV 3)))) (pK (e1 asB (vP 12 2 (aA (rV 3) (aA (e1 dLen (rV 5)) aO)))))) (aS (fB 6 (eB aO))
 (aS (jY (e1 cD (aBS 12 1 (aA (e2 dIx (rV 3) (e1 dLen (rV 5))) aO))) (stN 7) (aS (sIf (e1 asB (rD true 4 (eV 7))) (aS (pP 4 (eV 7) (e1 dLen (rV 3)))
 (jX 3 (eV 7))) sNx)
 (jX 6 (sE 4 (eV 7)))))
 (jX 5 (e1 dTup (rV 6))))))
 (sFz 5 (sFz 3 (cI (vD (cW (aA (eV 3) (aA (eV 5) aO)))))))))))
noncomputable def kC:List A->R A:=fnF 8 rG
noncomputable def nJ:Sg->R Fw:=(cI (vD (e1 (lV "str") (rV 0))))
noncomputable def fR:List A->R A:=fnF 1 nJ
noncomputable def kN:Sg->R Fw:=(aS (bU 1 (vD (e1 dTup (eL (f7 [none] (e1 cD (rV 0)) (stN 0) fX (e2 dIx (rV 0) (eC (.int 0))))))))
 (cI (vD (cW (aA (e2 dIx (rV 1) (eC (.int 0))) (aA (eV 1) aO))))))
noncomputable def gK:List A->R A:=fnF 2 kN
noncomputable def oT:Sg->R Bool:=(pK (e1 asB (eA (bM 1 fR (aA (vV 2) aO)))))
noncomputable def oB:Sg->R Fw:=(aS (sIf (e1 asB (rD false 3 (eV 2))) (cI (vD (eC (.str "ever")))) sNx)
 (aS (pP 3 (eV 2) (eC (.bool true)))
 (aS (bU 4 (vD (e2 dIx (rV 1) (rV 2))))
 (aS (sIf (e1 asB (e2 dEq (e2 dIx (rV 4) (eC (.int 1))) (eC (.int 1)))) (cI (vD (e2 dIx (rV 4) (eC (.int 0))))) sNx)
 (bU 2 (vD (e2 dIx (rV 0) (e2 dIx (rV 4) (eC (.int 0))))))))))
noncomputable def rH:Sg->R Fw:=aS (vL 3) (aS (b7 oT oB) (cI (vV 2)))
noncomputable def iY:List A->R A:=fnF 5 rH
noncomputable def t7:Sg->R Fw:=(aS (bU 2 (bM 3 iY (aA (vD (e2 dIx (rV 0) (eC (.int 1)))) (aA (vV 1) (aA (vD (e2 dIx (rV 0) (eC (.int 0)))) aO)))))
 (aS (bU 3 (vD (e1 dTup (eL (f7 [none,some 0,some 1] (fU (e1 dLen (rV 1))) (stN 0) fX (eA (bM 3 iY (aA (vD (e2 dIx (rV 1) (eC (.int 1)))) (aA (vV 2) (aA (vV 0) aO))))))))))
 (cI (vD (cW (aA (eV 2) (aA (eV 3) aO)))))))
noncomputable def hX:List A->R A:=fnF 4 t7
noncomputable def wT:Sg->R Bool:=(pK (e1 asB (eA (bM 1 fR (aA (vV 2) aO)))))
noncomputable def wB:Sg->R Fw:=(aS (sIf (e1 asB (rD false 3 (eV 2))) (cI (vD (eC (.str "ever")))) sNx)
 (aS (pP 3 (eV 2) (eC (.bool true)))
 (aS (bU 4 (vD (e2 dIx (e2 dIx (rV 0) (rV 2)) (eC (.int 2)))))
 (bU 2 (vD (eIf (e1 asB (eA (bM 1 fR (aA (vV 4) aO)))) (eV 4) (e2 dIx (e2 dIx (rV 1) (eC (.int 1))) (rV 4))))))))
noncomputable def lX:Sg->R Fw:=aS (bU 2 (vD (e2 dIx (rV 1) (eC (.int 0))))) (aS (vL 3) (aS (b7 wT wB) (cI (vV 2))))
noncomputable def eG:List A->R A:=fnF 5 lX
noncomputable def d3:Sg->R Fw:=(cI (vD (eL (f7 [none,some 0] (e1 cD (rV 1)) (stN 0) fX (eA (bM 2 hX (aA (vV 1) (aA (vV 0) aO))))))))
noncomputable def fC:Sg->R Fw:=(cI (vD (e2 dGt (e1 dLen (rV 0)) (eC (.int 200)))))
noncomputable def nK:Sg->R Fw:=(aS (fB 1 (f7 [none,some 0] (fU (eA (bM 1 gI (aA (vV 0) aO)))) (stN 0) fX (eA (bM 2 jF (aA (vV 1) (aA (vV 0) aO))))))
 (aS (aAD 2 "one_way.<locals>.after")
 (aS (sFz 1 (bU 3 (rE [1] 3 kC (aA (bM 1 gK (aA (vV 0) aO)) (aA (vS "one_way.<locals>.after" [1] 4 1 (kM 2 d3) 2) (aA (aBW [] 1 2 (kM 2 fC)) aO))))))
 (aS (bU 4 (vD (e2 dIx (rV 3) (eC (.int 0)))))
 (aS (sIf (e1 asB (e2 dGt (e1 dLen (rV 4)) (eC (.int 200)))) (xX "TooMany" (eC (.int 200))) sNx)
 (cI (vD (cW (aA (e1 dTup (e2 dIx (rV 3) (eC (.int 1)))) (aA (e1 dTup (eL (f7 [none,some 0] (e1 cD (rV 4)) (stN 0) fX (eA (bM 2 eG (aA (vV 1) (aA (vV 0) aO))))))) aO))))))))))
noncomputable def fS:List A->R A:=fnF 5 nK
noncomputable def n4:Sg->R Fw:=(aS (jY (e1 cD (eV 2)) (stN 3) (bU 1 (vD (e2 dIx (e2 dIx (e2 dIx (rV 0) (eC (.int 0))) (rV 1)) (e2 rC (eC (.str "abc")) (rV 3))))))
 (cI (vV 1)))
noncomputable def eS:List A->R A:=fnF 4 n4
end Mc
namespace Mc
open PySem L2 PyProof.Rows
theorem oM{rs:List Rw}{sg:Nat}{r:Rw}{k:Nat}(M:Mach rs sg)(b:r∈rs)(d:k < sg):r.c[k]? = some (r.c.getD k (0,0))/\o9 rs.length (r.c.getD k (0,0)):=by
 have h:=M.row r b
 have a:k < r.c.length:=by rw[h.2];exact d
 have e:r.c[k]? = some (r.c.getD k (0,0)):=by rw[AS,AJ a];rfl
 exact ⟨e,h.1.2.2 _ (AW e)⟩
theorem vW(l:List Nat)(a:Nat):∀ n:Nat,a+n<=l.length->((List.range n).map fun k=>a+k).filterMap (fun i=>l[i]?)=(l.drop a).take n
 | 0,_=>rfl
 | n+1,h=>by
  rw[FS,BE,List.filterMap_append,vW l a n (by omega),FA,EJ]
  have hl:a+n < l.length:=by omega
  rw[AJ hl]
  show _++List.filterMap (fun i=>l[i]?) [a+n]=_
  rw[EA,AJ hl];rfl
theorem zO{z:Str}{a b:Nat}(h1:a<=b)(h2:b<=z.cps.toList.length):Txt.slice z (some (a:Int)) (some (b:Int))=⟨((z.cps.toList.drop a).take (b - a)).toArray⟩:=by
 have f:z.length=z.cps.toList.length:=by rw[CK];rfl
 unfold Txt.slice
 rw[StrLaws.strSliceIndices_plain h1 (by rw[f];exact h2)]
 have e:((List.range (b - a)).map fun k=>a+k).filterMap (fun i=>z.cps[i]?)=(z.cps.toList.drop a).take (b - a):=by
  rw[<-vW z.cps.toList a (b - a) (by omega)]
  congr 1
  funext i
  rw[EO]
 rw[e]
 by_cases d:(1 == 1 && (((List.range (b - a)).map fun k=>a+k).length == z.length))=true
 .have j:b - a=z.length:=by
   rw[AV] at d
   simpa using d.2
  have h:a=0:=by omega
  have g:b=z.cps.toList.length:=by omega
  have e2:(z.cps.toList.drop a).take (b - a)=z.cps.toList:=by rw[h,g,List.drop_zero,Nat.sub_zero,DK (AG _)]
  rw[e2]
  split
  .exact aC1 (by simp)
  .rfl
 .split
  .rename_i c
   exact absurd c d
  .rfl
theorem aFH{z:Str}{i:Nat}(h:i<=z.cps.toList.length):Txt.slice z none (some (i:Int))=⟨(z.cps.toList.take i).toArray⟩:=by
 have e:Txt.slice z none (some (i:Int))=Txt.slice z (some ((0:Nat):Int)) (some (i:Int)):=by unfold Txt.slice;rw[StrLaws.sliceIdx_none_lo];rfl
 rw[e,zO (CO _) h];simp
theorem aFI{z:Str}{i:Nat}(h:i<=z.cps.toList.length):Txt.slice z (some (i:Int)) none=⟨(z.cps.toList.drop i).toArray⟩:=by
 have a:z.length=z.cps.toList.length:=by rw[CK];rfl
 have e:Txt.slice z (some (i:Int)) none=Txt.slice z (some (i:Int)) (some ((z.cps.toList.length:Nat):Int)):=by unfold Txt.slice;rw[StrLaws.sliceIdx_none_hi,a]
 rw[e,zO h (AG _),DK (by simp)]
theorem aDS{sg:Nat}:∀ {x y:List Nat} {c i:Nat},(∀ d∈x,bR sg d=true)->bR sg c=false->f6 sg i (x++c::y)=some (i+x.length)
 | [],y,c,i,_,hc=>by
  show f6 sg i (c::y)=_
  rw[l9,AC (by rw[hc];decide)];rfl
 | d::x,y,c,i,hx,hc=>by
  show f6 sg i (d::(x++c::y))=_
  rw[l9,AD (hx d (by simp)),aDS (fun e a=>hx e (by simp[a])) hc]
  simp;omega
end Mc
namespace Fl
open PySem L2 PyProof.Rows
@[simp] theorem fN(d:Dz)(ρ:Sg):eC d ρ=.ok d:=id rfl
@[simp] theorem eU{α β:Type}(g:α->R β)(f:Sg->R α)(ρ:Sg):e1 g f ρ=(f ρ).bind g:=id rfl
@[simp] theorem fO{α β γ:Type}(g:α->β->R γ)(f:Sg->R α)(a:Sg->R β)(ρ:Sg):e2 g f a ρ=(f ρ).bind fun x=>(a ρ).bind fun y=>g x y:=id rfl
@[simp] theorem mF(i:Nat)(ρ:Sg):eV i ρ=match ρ[i]? with|some (some (.d x))=>.ok x|_=>.bad:=id rfl
@[simp] theorem eI(i:Nat)(ρ:Sg):rV i ρ=match ρ[i]? with|some (some (.d x))=>.ok x|some (some (.l xs))=>.ok (.list xs)|_=>.bad:=id rfl
@[simp] theorem nL(i:Nat)(ρ:Sg):vV i ρ=match ρ[i]? with|some (some (.d x))=>.ok (.d x)|some (some (.x e))=>.ok (.x e)|some (some (.g k n f))=>.ok (.g k n f)|some (some (.f kvs))=>.ok (.f kvs)|_=>.bad:=id rfl
@[simp] theorem iR(f:Sg->R Dz)(ρ:Sg):vD f ρ=(f ρ).bind fun x=>.ok (.d x):=id rfl
@[simp] theorem oN(x:Dz):getD (.d x)=.ok x:=id rfl
@[simp] theorem vX(f:Sg->R A)(ρ:Sg):eA f ρ=(f ρ).bind getD:=id rfl
@[simp] theorem pV(f:Sg->R (List Dz))(ρ:Sg):eL f ρ=(f ρ).bind fun xs=>.ok (.list xs):=id rfl
@[simp] theorem eR{α:Type}(ρ:Sg):(aO (α:=α)) ρ=.ok []:=id rfl
@[simp] theorem fF{α:Type}(f:Sg->R α)(g:Sg->R (List α))(ρ:Sg):aA f g ρ=(f ρ).bind fun x=>(g ρ).bind fun xs=>.ok (x::xs):=id rfl
@[simp] theorem kD(f:Sg->R (List Dz))(ρ:Sg):cW f ρ=(f ρ).bind fun xs=>if xs.length<=16777216 then .ok (.tuple xs) else .bad:=id rfl
@[simp] theorem jG(f:Sg->R (List Dz))(ρ:Sg):eB f ρ=(f ρ).bind fun xs=>if xs.length<=16777216 then .ok xs else .bad:=id rfl
@[simp] theorem k8(n:Nat)(G:List A->R A)(f:Sg->R (List A))(ρ:Sg):bM n G f ρ=(f ρ).bind fun as=>if as.length=n then G as else .bad:=id rfl
@[simp] theorem eJ(n:Nat)(fb:Sg->R Fw)(b:List A):fnF n fb b=(fb (b.map some++List.replicate (n - b.length) none)).bind fun w=>match w with | .rt (.l _)=>.bad | .rt a=>.ok a | .nx _=>.ok (.d .none)|_=>.bad:=id rfl
@[simp] theorem aHW(ρ:Sg):sNx ρ=.ok (.nx ρ):=id rfl
@[simp] theorem bK(f g:Sg->R Fw)(ρ:Sg):aS f g ρ=(f ρ).bind fun w=>match w with | .nx ρ'=>g ρ'|w=>.ok w:=id rfl
@[simp] theorem k9(f:Sg->R A)(ρ:Sg):cI f ρ=(f ρ).bind fun a=>.ok (.rt a):=id rfl
@[simp] theorem aVH(ρ:Sg):aTC ρ=.ok (.rt (.d .none)):=id rfl
@[simp] theorem vY(t:Sg->R Bool)(f g:Sg->R Fw)(ρ:Sg):sIf t f g ρ=(t ρ).bind fun b=>if b=true then f ρ else g ρ:=id rfl
@[simp] theorem aWX{α:Type}(t:Sg->R Bool)(f g:Sg->R α)(ρ:Sg):eIf t f g ρ=(t ρ).bind fun b=>if b=true then f ρ else g ρ:=id rfl
@[simp] theorem gA(i:Nat)(f:Sg->R A)(ρ:Sg):bU i f ρ=(f ρ).bind fun a=>.ok (.nx (ρ.set i (some a))):=id rfl
@[simp] theorem hZ(i:Nat)(f:Sg->R (List Dz))(ρ:Sg):fB i f ρ=(f ρ).bind fun xs=>.ok (.nx (ρ.set i (some (.l xs)))):=id rfl
@[simp] theorem aVI(f:Sg->R A)(ρ:Sg):aE8 f ρ=(f ρ).bind fun _=>.ok (.nx ρ):=id rfl
@[simp] theorem aHX(i:Nat)(f:Sg->R Fw)(ρ:Sg):sFz i f ρ=f (fz i ρ):=id rfl
@[simp] theorem aL3(i:Nat)(ρ:Sg):fz i ρ=match ρ[i]? with|some (some (.l xs))=>ρ.set i (some (.d (.list xs)))|_=>ρ:=id rfl
@[simp] theorem mL(i:Nat)(f:Sg->R Dz)(ρ:Sg):jX i f ρ=match ρ[i]? with|some (some (.l xs))=>(f ρ).bind fun x=>if xs.length < 16777216 then .ok (.nx (ρ.set i (some (.l (xs++[x]))))) else .bad|_=>.bad:=id rfl
@[simp] theorem aN9(fs:Dz->Sg->O9 Sg)(f:Sg->R Dz)(ρ:Sg):aBI fs f ρ=(f ρ).bind fun x=>(nY (fs x ρ)).bind fun ρ'=>.ok (.nx ρ'):=id rfl
@[simp] theorem gB(a:Sg->R (List Dz))(fs:Dz->Sg->O9 Sg)(fb:Sg->R Fw)(ρ:Sg):jY a fs fb ρ=(a ρ).bind fun xs=>jN fs fb xs ρ:=id rfl
@[simp] theorem lA(js:List (O9 Nat))(a:Sg->R (List Dz))(fs:Dz->Sg->O9 Sg)(b:Sg->R Bool)(fe:Sg->R Dz)(ρ:Sg):f7 js a fs b fe ρ=(a ρ).bind fun xs=>compL fs b fe (cJ js ρ) xs:=id rfl
@[simp] theorem aUL(cn:Str)(fs:List Str)(f:Sg->R (List Dz))(ρ:Sg):vJ cn fs f ρ=(f ρ).bind fun xs=>if xs.length=fs.length then .ex ⟨cn,fs.zip xs⟩ else .bad:=id rfl
@[simp] theorem aRI(i:Nat)(x:Dz)(ρ:Sg):stN i x ρ=some (ρ.set i (some (.d x))):=id rfl
@[simp] theorem aRJ(fs:List (Dz->Sg->O9 Sg))(xs:List Dz)(ρ:Sg):stT fs (.tuple xs) ρ=stL fs xs ρ:=id rfl
@[simp] theorem aOA(ρ:Sg):stL [] [] ρ=some ρ:=id rfl
@[simp] theorem aKH(f:Dz->Sg->O9 Sg)(fs:List (Dz->Sg->O9 Sg))(x:Dz)(xs:List Dz)(ρ:Sg):stL (f::fs) (x::xs) ρ=(f x ρ).bind (stL fs xs):=id rfl
@[simp] theorem aOB(ρ:Sg):fX ρ=.ok true:=id rfl
@[simp] theorem mZ(b:Bool):asB (.bool b)=.ok b:=id rfl
@[simp] theorem aOC(f:Sg->R Bool)(ρ:Sg):pK f ρ=(f ρ).bind fun b=>.ok (!b):=id rfl
@[simp] theorem oO(f g:Sg->R Bool)(ρ:Sg):qX f g ρ=(f ρ).bind fun b=>if b=true then g ρ else .ok false:=id rfl
@[simp] theorem aWY(f g:Sg->R Bool)(ρ:Sg):bOr f g ρ=(f ρ).bind fun b=>if b=true then .ok true else g ρ:=id rfl
@[simp] theorem aWE(f:Sg->R Dz)(ρ:Sg):aJZ f ρ=(f ρ).bind fun x=>(asB x).bind fun b=>.ok (.bool (!b)):=id rfl
@[simp] theorem aDT(f g:Sg->R Dz)(ρ:Sg):tX f g ρ=(f ρ).bind fun x=>(asB x).bind fun b=>if b=true then g ρ else .ok (.bool false):=id rfl
@[simp] theorem aRK(f g:Sg->R Dz)(ρ:Sg):eOr f g ρ=(f ρ).bind fun x=>(asB x).bind fun b=>if b=true then .ok (.bool true) else g ρ:=id rfl
@[simp] theorem aWZ(g g':Dz->Dz->R Dz)(a fb b:Sg->R Dz)(ρ:Sg):eCh g g' a fb b ρ=(a ρ).bind fun x=>(fb ρ).bind fun y=>(g x y).bind fun z=>(asB z).bind fun k=>if k=true then (b ρ).bind fun w=>g' y w else .ok (.bool false):=id rfl
@[simp] theorem aHY{α:Type}(g:Dz->O9 Int->O9 Int->R α)(f:Sg->R Dz)(lo hi:Sg->R (O9 Int))(ρ:Sg):eSl g f lo hi ρ=(f ρ).bind fun x=>(lo ρ).bind fun l=>(hi ρ).bind fun h=>g x l h:=id rfl
@[simp] theorem aHZ(ρ:Sg):oNo ρ=.ok none:=id rfl
@[simp] theorem aH0(f:Sg->R Dz)(ρ:Sg):oSo f ρ=(f ρ).bind fun x=>match x with | .int i=>.ok (some i)|_=>.bad:=id rfl
@[simp] theorem jH(f:Sg->R Dz)(ρ:Sg):fU f ρ=(f ρ).bind fun x=>match x with | .int j=>kL 0 j|_=>.bad:=id rfl
@[simp] theorem aTM(f g:Sg->R Dz)(ρ:Sg):aNF f g ρ=(f ρ).bind fun x=>(g ρ).bind fun y=>match x,y with | .int i,.int j=>kL i j|_,_=>.bad:=id rfl
@[simp] theorem aWF(f:Sg->R Dz)(g:Sg->R (O9 Int))(ρ:Sg):aU8 f g ρ=(f ρ).bind fun x=>(g ρ).bind fun o=>if o=some (-1) then aQV x else .bad:=id rfl
@[simp] theorem aWG(i:Nat)(g:Dz->Dz->R Dz)(f:Sg->R Dz)(ρ:Sg):aE9 i g f ρ=(eV i ρ).bind fun x=>(f ρ).bind fun y=>(g x y).bind fun z=>.ok (.nx (ρ.set i (some (.d z)))):=id rfl
@[simp] theorem t8(i:Nat)(ρ:Sg):vL i ρ=.ok (.nx (ρ.set i (some (.m [])))):=id rfl
@[simp] theorem aWH(a:Bool)(i:Nat)(f:Sg->R Dz)(ρ:Sg):rD a i f ρ=(f ρ).bind fun k=>match ρ[i]? with|some (some (.m kvs))=>if cV k (kvs.map (·.1))=true then .ok (.bool (if a=true then !dZ kvs k else dZ kvs k)) else .bad|some (some (.f kvs))=>if cV k (kvs.map (·.1))=true then .ok (.bool (if a=true then !dZ kvs k else dZ kvs k)) else .bad|_=>.bad:=id rfl
@[simp] theorem aVJ(i:Nat)(f:Sg->R Dz)(ρ:Sg):sE i f ρ=match ρ[i]? with|some (some (.m kvs))=>(f ρ).bind fun k=>if cV k (kvs.map (·.1))=true then (match fM kvs k with|some v=>.ok v|none=>.bad) else .bad|some (some (.f kvs))=>(f ρ).bind fun k=>if cV k (kvs.map (·.1))=true then (match fM kvs k with|some v=>.ok v|none=>.bad) else .bad|_=>.bad:=id rfl
@[simp] theorem aVK(i:Nat)(f g:Sg->R Dz)(ρ:Sg):pP i f g ρ=(g ρ).bind fun v=>match ρ[i]? with|some (some (.m kvs))=>(f ρ).bind fun k=>if cV k (kvs.map (·.1))=true/\kvs.length<=16777216 then .ok (.nx (ρ.set i (some (.m (putM kvs k v))))) else .bad|_=>.bad:=id rfl
@[simp] theorem kO(i j:Int):cQ (.int i) (.int j)=.ok (.int (i+j)):=id rfl
@[simp] theorem aRL(i j:Int):dSub (.int i) (.int j)=.ok (.int (i - j)):=id rfl
@[simp] theorem aWI(i j:Int):sD (.int i) (.int j)=.ok (.int (i+j)):=id rfl
@[simp] theorem aH1(i:Int):dNeg (.int i)=.ok (.int (-i)):=id rfl
@[simp] theorem vZ(i j:Int):dLt (.int i) (.int j)=.ok (.bool (decide (i < j))):=id rfl
@[simp] theorem aXF(i j:Int):dLe (.int i) (.int j)=.ok (.bool (decide (i<=j))):=id rfl
@[simp] theorem aFJ(i j:Int):dGt (.int i) (.int j)=.ok (.bool (decide (j < i))):=id rfl
@[simp] theorem aXG(i j:Int):dGe (.int i) (.int j)=.ok (.bool (decide (j<=i))):=id rfl
theorem dI{i j:Int}(h:0 < j):dMod (.int i) (.int j)=.ok (.int (i % j)):=AD h
theorem v8{i j:Int}(h:0 < j)(h2:j < 18446744073709551616):dDiv (.int i) (.int j)=.ok (.int (i / j)):=AD ⟨h,h2⟩
theorem aH2{i j:Int}(h : -18446744073709551616 < j)(h2:j < 18446744073709551616):dMul (.int i) (.int j)=.ok (.int (i * j)):=AD (.inr ⟨h,h2⟩)
theorem kP{i j:Int}(h : -18446744073709551616 < i)(h2:i < 18446744073709551616):dMul (.int i) (.int j)=.ok (.int (i * j)):=AD (.inl ⟨h,h2⟩)
@[simp] theorem jS(xs:List Dz):dLen (.list xs)=.ok (.int xs.length):=id rfl
@[simp] theorem aH3(xs:List Dz):dLen (.tuple xs)=.ok (.int xs.length):=id rfl
@[simp] theorem m3(xs:List Dz):dTup (.list xs)=.ok (.tuple xs):=id rfl
@[simp] theorem aW0(xs:List Dz):dTup (.tuple xs)=.ok (.tuple xs):=id rfl
@[simp] theorem aW1(xs:List Dz):aQS (.list xs)=.ok xs:=id rfl
@[simp] theorem aW2(xs:List Dz):aQS (.tuple xs)=.ok xs:=id rfl
@[simp] theorem aW3(i:Int):dInt (.int i)=.ok (.int i):=id rfl
@[simp] theorem rJ(b:Bool):dInt (.bool b)=.ok (.int (if b=true then 1 else 0)):=id rfl
@[simp] theorem aXH(x:Dz):dIs x .none=.ok (.bool (lJ x)):=id rfl
@[simp] theorem aWJ(x:Dz):aS8 x .none=.ok (.bool (!lJ x)):=id rfl
@[simp] theorem aWK:lJ .none=true:=id rfl
@[simp] theorem aWL(xs:List Dz):lJ (.tuple xs)=false:=id rfl
@[simp] theorem aWM(i:Int):lJ (.int i)=false:=id rfl
@[simp] theorem aWN(i:Str):lJ (.str i)=false:=id rfl
theorem sI{α:Type}{xs:List α}{i:Int}{v:α}(h0:0<=i)(h:xs[i.toNat]? = some v):atI xs i=some v:=by
 obtain ⟨j,rfl⟩:∃ j:Nat,i=j:=⟨i.toNat,by omega⟩
 exact eK (j:=j) h
theorem aBY{α:Type}(x:α)(t:List α):atI (x::t) 0=some x:=eK (j:=0) rfl
theorem aDU{α:Type}(x y:α)(t:List α):atI (x::y::t) 1=some y:=eK (j:=1) rfl
theorem aOD{α:Type}(x y z:α)(t:List α):atI (x::y::z::t) 2=some z:=eK (j:=2) rfl
theorem mG{xs:List Dz}{i:Int}{v:Dz}(h:atI xs i=some v):dIx (.tuple xs) (.int i)=.ok v:=by show (match atI xs i with|some v=>R.ok v|none=>.bad)=_;rw[h]
theorem eD{xs:List Dz}{i:Int}{v:Dz}(h:atI xs i=some v):dIx (.list xs) (.int i)=.ok v:=by show (match atI xs i with|some v=>R.ok v|none=>.bad)=_;rw[h]
theorem aAE{z:Str}{i:Int}{u:Nat}(a:z.length<=16777216)(h:atI z.cps.toList i=some u):dIx (.str z) (.int i)=.ok (.str ⟨#[u]⟩):=by
 show (if z.length<=sizeLine then match atI z.cps.toList i with|some u=>R.ok (PyData.str ⟨#[u]⟩)|none=>.bad else .bad)=_
 rw[dO,AD a,h]
@[simp] theorem rK(x:Dz)(t:List Dz):dIx (.tuple (x::t)) (.int 0)=.ok x:=mG (aBY x t)
@[simp] theorem aBZ(x y:Dz)(t:List Dz):dIx (.tuple (x::y::t)) (.int 1)=.ok y:=mG (aDU x y t)
@[simp] theorem aW4(x y z:Dz)(t:List Dz):dIx (.tuple (x::y::z::t)) (.int 2)=.ok z:=mG (aOD x y z t)
@[simp] theorem rL(x:Dz)(t:List Dz):dIx (.list (x::t)) (.int 0)=.ok x:=eD (aBY x t)
@[simp] theorem lR(x y:Dz)(t:List Dz):dIx (.list (x::y::t)) (.int 1)=.ok y:=eD (aDU x y t)
theorem j5{xs:List Dz}(h:xs.length<=16777216):cD (.tuple xs)=.ok xs:=AD h
theorem lB{xs:List Dz}(h:xs.length<=16777216):cD (.list xs)=.ok xs:=AD h
theorem aKI{z:Str}(h:z.cps.toList.length<=16777216):cD (.str z)=.ok (z.cps.toList.map fun u=>.str ⟨#[u]⟩):=AD h
theorem rM{x y:Dz}(hx:SeqAt.shaped x=true)(a:SeqAt.shaped y=true):dEq x y=.ok (.bool (PyData.eqv x y)):=AD ⟨hx,a⟩
theorem aH4{x y:Dz}(hx:SeqAt.shaped x=true)(a:SeqAt.shaped y=true):dNe x y=.ok (.bool (!PyData.eqv x y)):=AD ⟨hx,a⟩
@[simp] theorem aW5(T:String)(i:Int):lV T (.int i)=.ok (.bool (iV "int" T)):=id rfl
@[simp] theorem aW6(T:String)(i:Str):lV T (.str i)=.ok (.bool (iV "str" T)):=id rfl
@[simp] theorem aW7(T:String)(i:List Dz):lV T (.tuple i)=.ok (.bool (iV "tuple" T)):=id rfl
@[simp] theorem aW8(T:String)(i:List Dz):lV T (.list i)=.ok (.bool (iV "list" T)):=id rfl
@[simp] theorem aW9(T:String)(i:Bool):lV T (.bool i)=.ok (.bool (iV "bool" T)):=id rfl
@[simp] theorem aXA(T:String):lV T .none=.ok (.bool (iV "NoneType" T)):=id rfl
theorem sJ(xs:List Dz)(lo hi:O9 Int):dSl (.list xs) lo hi=.ok (.list (pM xs lo hi)):=id rfl
theorem aL4{z:Str}{lo hi:O9 Int}(h:z.length<=16777216):dSl (.str z) lo hi=.ok (.str (Txt.slice z lo hi)):=by
 unfold dSl;exact AD h
theorem aH5{x y:Str}(h:x.length+y.length<=16777216):cQ (.str x) (.str y)=.ok (.str (x++y)):=by
 unfold cQ;exact AD (by rw[dO];exact h)
theorem compL_of{α:Type}{fs:Dz->Sg->O9 Sg}{fe:Sg->R Dz}{ρ0:Sg}{d:α->Dz}{g:α->Dz}:∀ {xs:List α},(∀ x∈xs,∃ ρ1,fs (d x) ρ0=some ρ1/\fe ρ1=.ok (g x))->compL fs fX fe ρ0 (xs.map d)=.ok (xs.map g)
 | [],_=>rfl
 | x::t,h=>by
  obtain ⟨ρ1,h1,h2⟩:=h x A0
  rw[AL]
  unfold compL
  rw[h1,compL_of fun y a=>h y (AN _ a),zG,R.bind_ok,aOB,R.noEx_ok,R.bind_ok,AD rfl,h2];rfl
theorem gR{α:Type}{fs:Dz->Sg->O9 Sg}{fb:Sg->R Fw}{d:α->Dz}{xs:List α}{ρ:Sg}(J:Nat->Sg->Prop)(h0:J 0 ρ)(a:∀ (i:Nat) (x:α) (ρ:Sg),xs[i]? = some x->J i ρ->∃ ρ1 ρ2,fs (d x) ρ=some ρ1/\(fb ρ1=.ok (.nx ρ2)\/fb ρ1=.ok (.ct ρ2))/\J (i+1) ρ2) :
  ∃ ρ',jN fs fb (xs.map d) ρ=.ok (.nx ρ')/\J xs.length ρ':=by
 induction xs generalizing ρ J with
 | nil=>exact ⟨ρ,rfl,h0⟩
 | cons x t ih=>
  obtain ⟨ρ1,ρ2,h1,h2,c⟩:=a 0 x ρ rfl h0
  obtain ⟨ρ',f,g⟩:=ih (ρ:=ρ2) (fun i=>J (i+1)) c (fun i y ρ e b=>a (i+1) y ρ (by simpa using e) b)
  refine ⟨ρ',?_,g⟩
  rw[AL]
  unfold jN
  rw[h1,zG,R.bind_ok]
  rcases h2 with h2|h2<;>rw[h2]<;>exact f
theorem g9{t:Sg->R Bool}{b:Sg->R Fw}{ρ ρ':Sg}(h1:t ρ=.ok true)(h2:b ρ=.ok (.nx ρ')):b7 t b ρ=b7 t b ρ':=by
 rw[rA,h1,R.bind_ok,AD rfl,h2];rfl
theorem rN{t:Sg->R Bool}{b:Sg->R Fw}{ρ:Sg}{a:A}(h1:t ρ=.ok true)(h2:b ρ=.ok (.rt a)):b7 t b ρ=.ok (.rt a):=by
 rw[rA,h1,R.bind_ok,AD rfl,h2];rfl
theorem d6{t:Sg->R Bool}{b:Sg->R Fw}{ρ:Sg}(h1:t ρ=.ok false):b7 t b ρ=.ok (.nx ρ):=by
 rw[rA,h1,R.bind_ok,AC (by decide)]
def been{α:Type}(d:α->Dz)(ps:List α):List (Dz×Dz):=ps.map fun p=>(d p,.bool true)
theorem zP{α:Type}(d:α->Dz)(ps:List α):(been d ps).map (·.1)=ps.map d:=by unfold been;rw[BX];rfl
theorem t9{α:Type}{d:α->Dz}(c:∀ a b,d a=d b->a=b){ps:List α}{p:α}:dZ (been d ps) (d p)=true↔p∈ps:=by
 rw[tZ,zP,A5]
 exact ⟨fun ⟨q,h1,h2⟩=>c q p h2▸h1,fun h=>⟨p,h,rfl⟩⟩
theorem lS{α:Type}{d:α->Dz}(c:∀ a b,d a=d b->a=b){ps:List α}{p:α}(h:p∉ps):dZ (been d ps) (d p)=false:=by
 cases q:dZ (been d ps) (d p) with
 | false=>rfl
 | true=>exact absurd ((t9 c).mp q) h
theorem uA{α:Type}{d:α->Dz}(c:∀ a b,d a=d b->a=b){ps:List α}{p:α}(h:p∉ps):putM (been d ps) (d p) (.bool true)=been d (ps++[p]):=by
 unfold putM
 rw[lS c h,AC (by decide)]
 unfold been
 rw[BE];rfl
theorem pW{α:Type}(d:α->Dz)(ps:List α):(been d ps).length=ps.length:=by unfold been;rw[AB]
end Fl
namespace Mc
open PySem L2 PyProof.Rows Fl
theorem aDV{r:Rw}{rs:List Rw}:gI [.d (aY (r::rs))]=.ok (.d (.int r.c.length)):=by
 simp[gI,pT,aY,rowD]
theorem aKJ{n:Nat}(h1:1<=n)(e:n<=3)(z:Str):∀ (cs:List Nat) (k:Nat) (u3 u4:O9 A),
  jN (stT [stN 3,stN 4]) (sIf (e1 asB (e2 dNin (rV 4) (rV 2))) (vJ "NoStrip" ["at"] (aA (eV 3) aO)) sNx) (jZ k (cs.map fun u=>.str ⟨#[u]⟩)) [some (.d (.int n)),some (.d (.str z)),some (.d (.str (Txt.slice "abc" none (some (n:Int))))),u3,u4] =
  match f6 n k cs with
  | some i=>.ex ⟨"NoStrip",[("at",.int i)]⟩
  | none=>.ok (.nx [some (.d (.int n)),some (.d (.str z)),some (.d (.str (Txt.slice "abc" none (some (n:Int))))),if cs=[] then u3 else some (.d (.int ((k+cs.length - 1:Nat):Int))),if cs=[] then u4 else (cs.getLast?.map fun u=>A.d (.str ⟨#[u]⟩))]):=by
 intro cs
 induction cs with
 | nil=>intro k u3 u4;rfl
 | cons c t ih=>
  intro k u3 u4
  have a:dNin (.str ⟨#[c]⟩) (.str (Txt.slice "abc" none (some (n:Int))))=.ok (.bool (!bR n c)):=by
   show R.ok (PyData.bool (!_))=_
   rw[aJP h1 e]
  rw[AL,jZ]
  unfold jN
  rw[l9]
  cases b:bR n c with
  | false=>simp[a,b]
  | true=>
   simp[a,b,ih]
   cases f6 n (k+1) t with
   | some i=>rfl
   | none=>
    simp
    cases t with
    | nil=>simp
    | cons c' t'=>simp<;>try omega
theorem aTN{n:Nat}(h1:1<=n)(c:n<=3){z:Str}(b:z.cps.toList.length<=16777216):iX [.d (.int n),.d (.str z)]=match f6 n 0 z.cps.toList with
  | some i=>.ex ⟨"NoStrip",[("at",.int i)]⟩
  | none=>.ok (.d (.str z)):=by
 have a:dSl (.str "abc") none (some (n:Int))=.ok (.str (Txt.slice "abc" none (some (n:Int)))):=by
  show (if ("abc":Str).length<=16777216 then R.ok _ else .bad)=_
  exact AD (by decide)
 have e:aAA (.str z)=.ok (jZ 0 (z.cps.toList.map fun u=>.str ⟨#[u]⟩)):=by
  show (if z.cps.toList.length<=16777216 then R.ok _ else .bad)=_
  exact AD b
 simp only[iX,mY,eJ,bK,gA,iR,aHY,fN,aHZ,aH0,R.bind_ok,eI,gB,eU,mF,AL,BJ,BT,BQ,AY,A9]
 simp only[List.replicate,AX,AT,a,R.bind_ok,A8,A6,e,aKJ h1 c]
 cases f6 n 0 z.cps.toList with
 | some i=>rfl
 | none=>rfl
theorem Mach.cons{rs:List Rw}{sg:Nat}(M:Mach rs sg):∃ r t,rs=r::t/\r.c.length=sg:=by
 cases rs with
 | nil=>have:=M.len;simp at this
 | cons r t=>exact ⟨r,t,rfl,(M.row r A0).2⟩
theorem aH6{rs:List Rw}{sg:Nat}(M:Mach rs sg){z:Str}(a:z.cps.toList.length<=16777216):gJ [.d (aY rs),.d (.str z)]=match f6 sg 0 z.cps.toList with
  | some i=>.ex ⟨"NoStrip",[("at",.int i)]⟩
  | none=>.ok (.d (.str z)):=by
 obtain ⟨r,t,rfl,b⟩:=M.cons
 simp[gJ,rF,aDV,b,aTN M.sg1 M.sg3 a]
 cases f6 sg 0 z.cps.toList<;>rfl
theorem aB0{rs:List Rw}{sg:Nat}(M:Mach rs sg){z:Str}(S:bD sg z.cps.toList):gJ [.d (aY rs),.d (.str z)]=.ok (.d (.str z)):=by
 rw[aH6 M (by have:=S.1;omega),aAY S.2]
def ck(k:Nat)(r:Rw):Int×Int:=r.c.getD k (0,0)
theorem aOE{rs:List Rw}{sg k:Nat}(M:Mach rs sg)(b:k < sg):jF [.d (aY rs),.d (.int k)]=.ok (.d (.list (rs.map fun r=>dM (ck k r)))):=by
 have h:=compL_of (fs:=stN 0) (fe:=e2 dIx (e2 dIx (rV 0) (eC (.int 1))) (rV 1)) (ρ0:=[none,some (.d (.int k))]) (d:=rowD) (g:=fun r=>dM (ck k r)) (xs:=rs) fun r f=>by
  refine ⟨_,rfl,?_⟩
  have e:dIx (.tuple (r.c.map dM)) (.int (k:Int))=.ok (dM (ck k r)):=mG (eK (j:=k) (by rw[AH,(oM M f b).1];rfl))
  simp[rowD,e]
 have a:(rs.map rowD).length<=16777216:=by have:=M.len2;rw[AB];omega
 simp[jF,pU,aY,j5 a,cJ,h]
theorem nM{n:Nat}(h:n<=16777216):kL 0 (n:Int)=.ok ((List.range n).map fun i:Nat=>.int (i:Int)):=by
 unfold kL
 rw[AD (by omega)]
 unfold mV
 simp
theorem aH7(z y:Str):rC (.str z) (.str y)=match Builtin.Str.occurrences z y 0 z.length 1 with|i::_=>R.ok (PyData.int i)|[]=>.bad:=rfl
theorem aOF{c:Nat}(h:bR 3 c=true):rC (.str "abc") (.str ⟨#[c]⟩)=.ok (.int ((c - 97:Nat):Int)):=by
 obtain ⟨r,e⟩:=aG5 h
 rw[aH7,e]
theorem aKK{n c:Nat}(a:n<=3)(h:bR n c=true):bR 3 c=true:=AZ (by have:=BV h;omega)
theorem pX(i:Int):SeqAt.shaped (.int i)=true:=id rfl
theorem aRM(i j:Int):PyData.eqv (.int i) (.int j)=decide (i=j):=by
 rw[PyData.eqv.eq_5]
 by_cases h:i=j
 · simp [h]
 · simp [h]
theorem iZ(i j:Int):dEq (.int i) (.int j)=.ok (.bool (decide (i=j))):=by rw[rM (pX i) (pX j),aRM]
noncomputable def lN:Sg->R Fw:=(aS (bU 2 (vD (eC (.int 0))))
 (aS (sIf (e1 asB (e2 dGt (e1 dLen (rV 0)) (eC (.int 0)))) (bU 2 (vD (e2 dIx (rV 0) (e2 dMod (rV 1) (e1 dLen (rV 0)))))) sNx)
 (aS (bU 3 (vD (e2 dMod (e2 dMul (e2 cQ (e2 cQ (e2 dMod (rV 2) (eC (.int 2147483647))) (e2 dMul (eC (.int 7919)) (rV 1))) (eC (.int 1))) (eC (.int 48271))) (eC (.int 2147483647)))))
 (cI (vD (e2 cQ (e2 dMul (e2 dDiv (rV 2) (eC (.int 2147483647))) (eC (.int 2147483659))) (e2 dMod (e2 cQ (e2 dMul (rV 3) (eC (.int 69621))) (e2 dMul (eC (.int 104729)) (rV 1))) (eC (.int 2147483659)))))))))
noncomputable def bB:List A->R A:=fnF 4 lN
noncomputable def i6:Sg->R Fw:=(aS (sIf (qX (e1 asB (e2 dLt (rV 1) (e1 dLen (rV 0)))) (e1 asB (e2 dEq (e2 dMod (e2 dIx (rV 0) (eC (.int 0))) (eC (.int 2))) (eC (.int 1))))) (aS (bU 4 (vD (e2 dIx (rV 0) (rV 1))))
 (aS (bU 5 (vD (eC (.str ""))))
 (aS (jY (fU (rV 2)) (stN 6) (aS (bU 5 (vD (e2 cQ (rV 5) (e2 dIx (eC (.str "abc")) (e2 dMod (rV 4) (rV 3))))))
 (bU 4 (vD (e2 dDiv (rV 4) (rV 3))))))
 (cI (vV 5))))) sNx)
 (cI (vD (e2 z9 (eC (.str "")) (eL (f7 [none,some 0,some 1,some 3] (fU (rV 2)) (stN 0) fX (e2 dIx (eC (.str "abc")) (e2 dMod (eA (bM 2 bB (aA (vV 1) (aA (vD (e2 cQ (rV 2) (rV 0))) aO)))) (rV 3)))))))))
noncomputable def cS:List A->R A:=fnF 7 i6
noncomputable def m4:Sg->R Fw:=(cI (vD (tX (e1 (lV "int") (rV 0)) (aJZ (e1 (lV "bool") (rV 0))))))
noncomputable def g7:List A->R A:=fnF 1 m4
noncomputable def lY:Sg->R Fw:=(aS (b7 (e1 asB (e2 dGt (rV 1) (eC (.int 0)))) (aS (bU 2 (vD (e2 dMod (rV 0) (rV 1))))
 (aS (bU 0 (vV 1))
 (bU 1 (vV 2)))))
 (cI (vV 0)))
noncomputable def gC:List A->R A:=fnF 3 lY
noncomputable def nN:Sg->R Fw:=(aS (sIf (e1 asB (e1 (lV "str") (rV 0))) (cI (vV 0)) sNx)
 (cI (vD (e2 cQ (rV 0) (rV 1)))))
noncomputable def i7:List A->R A:=fnF 2 nN
end Mc
namespace Zp
open PySem L2
end Zp
namespace Fl
open PySem L2 PyProof.Rows
end Fl
namespace Zp
open PySem
structure Jk(s0:Heap)(d it S:Az)(ar:Array DictEntry)(ep:Nat)(acc:Array V9)(h:Heap):Prop where
 size:acc.size<=ar.size
 told:acc.toList=(ar.toList.take acc.size).map (·.key)
 iter:h.IsKeyIter it d acc.size ar.size ep
 raw:Raw h d ar ep
 keep:∀ c o,c≠it->c≠S->s0.get? c=some o->h.get? c=some o
theorem aKL:typeLookup (.type "dict") "__len__"=pure (some (.builtin "dict.__len__")):=by rw[typeLookup_type,builtinLookup_eq_fast];kernel_rfl
theorem aH8{prog:P9}{w:W9}{A:U9}{E:V9->S9->Prop}{s:S9}{d:Az}{ar:Array DictEntry}{ep:Nat}{Q:V9->S9->Prop}(hh:A.handled=none)(hd:(d == sysModules)=false)(hm:Raw s.heap d ar ep)(hn:ar.size<=sizeLine)
  (hQ:∀ h' tk acc c,(∀ b o,s.heap.get? b=some o->h'.get? b=some o)->t6 h' s.heap.objs.size acc c->acc.toList=ar.toList.map (·.key)->Q (.ref s.heap.objs.size) {s with heap:=h',toks:=tk}) :
  wpAny (model prog w) A (call (.type "list") [.ref d]) Q E s:=by
 have v:d < s.heap.objs.size:=by obtain ⟨o,a,_⟩:=hm;exact AQ a
 refine callType_codes (Q₁:=fun obj p=>obj=.ref s.heap.objs.size/\p={s with heap:=s.heap.push {cls:=.type "list",data:=.seq #[]}}) F.called_list (F.typeCall_list_1 _) F.entry_list_init
  (code_list_new _ ⟨rfl,rfl⟩) fun obj p u=>?_
 obtain ⟨rfl,rfl⟩:=u
 have M:(s.heap.push {cls:=.type "list",data:=.seq #[]}).get? s.heap.objs.size=some {cls:=.type "list",data:=.seq #[]}:=BA _ rfl
 refine ⟨⟨_,M,rfl⟩,F.args_list_init_2 _ _,?_⟩
 generalize C:s.heap.objs.size=S at *
 show wpAny _ _ (do let old <-Builtin.List.listItems (.ref S);Builtin.List.listUpdate (.ref S) (fun _=>#[]);letGo old.toList.reverse;Builtin.List.listExtendWith (.ref S) (.ref d) .none) _ _ _
 refine AA ?_
 unfold Builtin.List.listItems
 refine AA (wpAny_seqItems M rfl (AE ?_))
 show wpAny _ _ (updateSeq S (fun _=>#[]) >>= fun _=>letGo (#[]:Array V9).toList.reverse >>= fun _=>Builtin.List.listExtendWith (.ref S) (.ref d) .none) _ _ _
 refine AA (FR M rfl (AA (wpAny_letGo ?_)))
 have g1:=B3 (Obj.mapSeq (fun _=>(#[]:Array V9))) M rfl
 have g2:∀ c o,c≠S->s.heap.get? c=some o->((s.heap.push {cls:=.type "list",data:=.seq #[]}).update S (Obj.mapSeq (fun _=>(#[]:Array V9)))).get? c=some o:=
  fun c o m e=>(CJ _ _ (BZ m)).trans (AI _ e)
 have g3:((s.heap.push {cls:=.type "list",data:=.seq #[]}).update S (Obj.mapSeq (fun _=>(#[]:Array V9)))).objs.size=S+1:=by rw[Heap.size_update,DI,C]
 generalize (s.heap.push {cls:=.type "list",data:=.seq #[]}).update S (Obj.mapSeq (fun _=>(#[]:Array V9)))=k at *
 have L:d≠S:=BB v
 have y:Raw k d ar ep:=by obtain ⟨o,a,r⟩:=hm;exact ⟨o,g2 _ _ L a,r⟩
 have O:(({s with heap:=k}:S9)).TypeIs (.ref d) "dict":=by obtain ⟨o,a,m,_⟩:=y;exact ⟨o,a,m.1⟩
 unfold Builtin.List.listExtendWith
 refine AA (wpAny_typeOf O ?_)
 have e1:Builtin.List.listSameRef (.ref S) (.ref d)=false:=by simp[Builtin.List.listSameRef,BZ L]
 simp only[e1,show (Value.type "dict" == Value.type "list")=false by decide,show (Value.type "dict" == Value.type "tuple")=false by decide,Bool.or_false,BF,CF]
 refine AA (aKE (s:={s with heap:=k}) hd y (AA (CN ?_)))
 have l:(k.push {cls:=.type "dict_keyiterator",data:=.fields #[.ref d,.int 0 0,.int ar.size 0,.int ep 0]}).IsKeyIter k.objs.size d 0 ar.size ep:=⟨_,BA _ rfl,rfl,rfl⟩
 have x:∀ c o,k.get? c=some o->(k.push {cls:=.type "dict_keyiterator",data:=.fields #[.ref d,.int 0 0,.int ar.size 0,.int ep 0]}).get? c=some o:=fun c o e=>AI _ e
 rw[g3] at l
 show wpAny _ _ (Builtin.List.listLengthHint (.ref d)) _ _ ({s with heap:=k.push {cls:=.type "dict_keyiterator",data:=.fields #[.ref d,.int 0 0,.int ar.size 0,.int ep 0]}}:S9)
 generalize k.push {cls:=.type "dict_keyiterator",data:=.fields #[.ref d,.int 0 0,.int ar.size 0,.int ep 0]}=G at *
 have D:Raw G d ar ep:=by obtain ⟨o,a,r⟩:=y;exact ⟨o,x _ _ a,r⟩
 have g:(({s with heap:=G}:S9)).TypeIs (.ref d) "dict":=by obtain ⟨o,a,m,_⟩:=D;exact ⟨o,a,m.1⟩
 unfold Builtin.List.listLengthHint
 refine AA (GV g aKL ?_)
 have T:splitId "dict.__len__"=some ("dict","__len__"):=by decide +kernel
 simp only[T]
 refine AA (GP (b:=true) g isSubtype_dict_dict ?_)
 simp only[F9,BF,CF]
 rw[AD (by decide +kernel)]
 refine AA (wpAny_typeOf g (AE ?_))
 simp only[Bool.false_or]
 rw[AD (by decide +kernel)]
 have B:=x _ _ g1
 rw[g3]
 refine AA (wpAny_rule (AA ?_))
 show wpAny _ _ (updateSeq S (·.push .none) >>= fun _=>updateSeq S (·.pop)) _ _ _
 refine AA (FR B rfl ?_)
 have Z:=B3 (Obj.mapSeq (·.push Value.none)) B rfl
 refine FR Z rfl ?_
 have g5:=B3 (Obj.mapSeq (·.pop)) Z rfl
 have N:∀ c o,c≠S->G.get? c=some o->((G.update S (Obj.mapSeq (·.push Value.none))).update S (Obj.mapSeq (·.pop))).get? c=some o:=
  fun c o m e=>(CJ _ _ (BZ m)).trans ((CJ _ _ (BZ m)).trans e)
 generalize (G.update S (Obj.mapSeq (·.push Value.none))).update S (Obj.mapSeq (·.pop))=hr at *
 have j:S+1≠S:=Nat.succ_ne_self S
 refine AE ⟨plainId_quiet EV _,aKG (A:=A.in1) (I:=S+1) (S:=S) (n:=ar.size) (Jk s.heap d (S+1) S ar ep) (fun acc h=>acc.toList=ar.toList.map (·.key)/\∀ c o,c≠S+1->c≠S->s.heap.get? c=some o->h.get? c=some o) hn (fun acc h J=>J.size) (fun acc h h' J Y U=>?_) (fun acc s' c Q' E' R J H t=>?_) (fun acc s' c Q' E' W J H t=>?_) ar.size _ #[] _ (by simp) ?_ g5 fun h' tk acc c J Y H=>?_⟩
 .obtain ⟨o,a,r⟩:=J.iter
  obtain ⟨K,f,r2⟩:=J.raw
  exact ⟨J.size,J.told,⟨o,U _ _ j a,r⟩,⟨K,U _ _ L f,r2⟩,fun c o q i e=>U _ _ i (J.keep c o q i e)⟩
 .have hx:ar[acc.size]? = some ar[acc.size]:=Array.getElem?_eq_getElem R
  refine aKF J.iter J.raw hx fun h2 st X=>?_
  have P:d≠S+1:=fun z=>by rw[z] at v;exact absurd v (G9.mpr (EK S))
  refine t _ h2 s'.toks ⟨by rw[E2];omega,?_,by rw[E2];exact st,?_,fun c o q i e=>X.extBut _ _ q (J.keep c o q i e)⟩ (X.extBut _ _ (BZ j) H)
  .rw[Array.toList_push,J.told,E2,FA,BE]
   congr 1
   rw[EO,hx];rfl
  .obtain ⟨K,f,r2⟩:=J.raw
   exact ⟨K,X.extBut _ _ P f,r2⟩
 .refine aN6 (A:=A.in1.in1) hh J.iter J.raw (by omega) fun h2 eb=>?_
  refine t h2 s'.toks ⟨?_,fun c o q i e=>eb c o q (J.keep c o q i e)⟩ (eb _ _ (BZ j) H)
  have:=J.told
  rw[W,DK (by simp)] at this
  exact this
 .obtain ⟨o,a,r⟩:=l
  obtain ⟨K,f,r2⟩:=D
  exact ⟨CO _,by simp,⟨o,N _ _ j a,r⟩,⟨K,N _ _ L f,r2⟩,fun c o q i e=>N _ _ i (x _ _ (g2 _ _ i e))⟩
 .refine ⟨rfl,hQ h' tk acc c (fun b o e=>?_) H J.1⟩
  have V:=AQ e
  rw[C] at V
  exact J.2 b o (BB (Nat.lt_succ_of_lt V)) (BB V) e
end Zp
namespace Fl
open PySem L2 PyProof.Rows
section
variable{X:Cx}{c:Ct}{E:XK}{e:E1}
theorem aFK(p:X.calm=true):jV X (.type "list") (fun xs H Q=>∃ d es ep,xs=[.ref d]/\H d=some (dU X.w d es ep)/\es.length<=16777216/\∀ l,H l=none->Q (.ref l) (upd H l (.lst (es.map (·.2.1))))):=by
 intro pins s σ H xs us Q I r h
 obtain ⟨d,es,ep,rfl,g,e,q⟩:=h
 obtain ⟨u,rfl,n⟩:=nB r
 cases (show u=Value.ref d from n)
 obtain ⟨hd,ar,t,f⟩:=aDR I g
 have b:es.length=ar.size:=by rw[F5 f];simp
 refine Zp.aH8 (I.ok.hd p) hd t (by rw[<-b,dO];exact e) fun h' tk c k j m a=>?_
 refine ⟨.ref s.heap.objs.size,_,I.laid (t':=tk) (o:=.lst (es.map (·.2.1))) j (AG _) ⟨by rw[AB,dO];exact e,c.toList,k,?_,by simpa using m⟩,rfl,q _ (I.hok.fresh (AG _))⟩
 rw[a]
 refine aC2 (by simp[b]) fun i x y h1 h2=>?_
 rw[AH] at h1 h2
 cases e1:es[i]? with
 | none=>rw[e1] at h1;cases h1
 | some en=>
  obtain ⟨A,z,C,v,B⟩:=vT f e1
  rw[e1] at h1
  rw[z] at h2
  cases h1
  cases h2
  exact v
end
end Fl
namespace Zp
open PySem
end Zp
namespace Fl
open PySem L2 PyProof.Rows
def aH9(ρ:Sg)(σ:L2.St)(p:Az):Prop:=∀ (j:Nat) (a:A),ρ[j]? = some (some a)->a.own=true->σ[j]? ≠ some (some (.ref p))
structure Own9(c:Ct)(F H:Hp)(ρ:Sg)(σ:L2.St)(i:Nat)(p b:Az)(u:V)(ws:List V):Prop where
 s:σ[i]? = some (some (.ref p))
 ne:p≠b
 hp:H p=some (.lst [u,.ref b])
 hb:H b=some (.lst ws)
 fp:F p=none
 fb:F b=none
 p0:c.H0 p=none
 b0:c.H0 b=none
 np:aH9 ρ σ p
 nb:aH9 ρ σ b
def outH(F:Hp)(q:Az):Hp:=fun a=>if a=q then none else F a
structure ExtM(F H:Hp)(p:Az)(F' H':Hp):Prop where
 ff:aN F F'
 hh:aN (outH H p) H'
 fh:aN F' H'
 nw:∀ a,F a=none->F' a≠none->mD (outH H p) a
section
variable{X:Cx}{c:Ct}{E:XK}{st:Stmt}
end
end Fl
namespace L2
open PySem PySem.Spec PyProof.Rows
section
variable{X:Cx}
end
end L2
namespace Fl
open PySem L2 PyProof.Rows
section
variable{X:Cx}{c:Ct}{E:XK}{e:E1}{st:Stmt}{rest:List Stmt}{pos:Pos}
def RP(g:Gb)(K:Frag)(mg:Str->O9 V9)(H F' H':Hp)(d:A×Dz)(v:V):Prop:=∃ t u w,v=.ref t/\SqT K H' t [u,w]/\AR g K mg H F' H' d.1 u/\DatV K F' w d.2
end
section
variable{X:Cx}{c:Ct}{E:XK}{e:E1}{st:Stmt}
noncomputable def v9(i:Nat):Sg->R (List Dz):=fun ρ=>match ρ[i]? with
 | some (some (.m kvs))=>if kvs.length<=16777216 then .ok (kvs.map (·.1)) else .bad
 | _=>.bad
theorem aKM{i:Nat}(f:X.w=c.w)(h:PE X e (tCB (fun xs H Q=>∃ d es ep,xs=[.ref d]/\H d=some (dU X.w d es ep)/\es.length<=16777216/\∀ l,H l=none->Q (.ref l) (upd H l (.lst (es.map (·.2.1))))) (fJ (jK i) jL))):PN X c E e (v9 i):=PE.imp h fun σ H Q ⟨ρ,F,ab,k⟩=>by
 unfold v9 at k
 split at k
 .rename_i b hi
  split at k
  .rename_i o
   obtain ⟨v,g,p,es,rfl,⟨ep,h2⟩,q,n,m⟩:=ab.slot i _ hi
   have j:es.length=b.length:=by simpa using congrArg List.length m.k1
   refine ⟨_,g,p,es,ep,rfl,by rw[f];exact h2,by omega,fun l a=>?_⟩
   exact Rk.ok k _ F _ (Ext.own ab.fh a) ⟨l,_,rfl,a,aX,bZ ab.fh a,m.k2⟩
  .exact k.elim
 .exact k.elim
end
end Fl
namespace Mc
open PySem L2 PyProof.Rows Fl
noncomputable def rpT:Sg->R Bool:=(e1 asB (rD true 3 (eV 1)))
noncomputable def rpB:Sg->R Fw:=(aS (pP 3 (eV 1) (vU 3))
 (bU 1 (bM 3 eS (aA (vV 0) (aA (vV 1) (aA (vV 2) aO))))))
noncomputable def rpR:Sg->R Fw:=(cI (vD (cW (aA (eL (v9 3)) (aA (sE 3 (eV 1)) aO)))))
noncomputable def lD:Sg->R Fw:=(aS (vL 3) (aS (b7 rpT rpB) rpR))
noncomputable def g8:List A->R A:=fnF 4 lD
noncomputable def lrT:Sg->R Bool:=(e1 asB (e2 dNe (eL (e2 nZ (eSl dSl (rV 0) (oSo (rV 1)) oNo) (eSl dSl (rV 0) oNo (oSo (rV 1))))) (rV 0)))
noncomputable def lrB:Sg->R Fw:=(aE9 1 sD (eC (.int 1)))
noncomputable def kQ:Sg->R Fw:=(aS (bU 1 (vD (eC (.int 1)))) (aS (b7 lrT lrB) (cI (vV 1))))
noncomputable def gL:List A->R A:=fnF 2 kQ
noncomputable def crC:Sg->R Fw:=(aE8 (bM 2 gJ (aA (vV 0) (aA (vV 4) aO))))
noncomputable def crT:Sg->R Bool:=(qX (e1 asB (e2 dGt (rV 8) (eC (.int 0)))) (e1 asB (e2 dEq (e2 dIx (rV 7) (e2 dSub (rV 8) (eC (.int 1)))) (e2 dIx (rV 7) (e2 cQ (e2 dSub (rV 8) (eC (.int 1))) (rV 9))))))
noncomputable def crB:Sg->R Fw:=(aE9 8 dSub (eC (.int 1)))
noncomputable def crR:Sg->R Fw:=(cI (vD (cW (aA (eV 8) (aA (eV 9) (aA (eSl dSl (rV 7) oNo (oSo (e2 cQ (rV 8) (rV 9)))) aO))))))
noncomputable def fD:Sg->R Fw:=(aS (jY (e1 cD (cW (aA (eV 1) (aA (eV 2) (aA (eV 3) aO))))) (stN 4) crC)
 (aS (bU 5 (bM 1 fS (aA (vV 0) aO)))
 (aS (bU 6 (bM 3 g8 (aA (vV 5) (aA (bM 3 eS (aA (vV 5) (aA (vD (eC (.int 0))) (aA (vV 1) aO)))) (aA (vV 2) aO)))))
 (aS (fB 7 (f7 [none,some 5,some 3] (e1 cD (e2 dIx (rV 6) (eC (.int 0)))) (stN 0) fX (e2 dIx (e2 dIx (rV 1) (eC (.int 1))) (eA (bM 3 eS (aA (vV 1) (aA (vV 0) (aA (vV 2) aO))))))))
 (aS (bU 8 (vD (e2 dIx (rV 6) (eC (.int 1)))))
 (aS (bU 9 (bM 1 gL (aA (vD (eSl dSl (rV 7) (oSo (rV 8)) oNo)) aO)))
 (aS (b7 crT crB) crR)))))))
noncomputable def bP:List A->R A:=fnF 10 fD
def bH(ns:List Int):Dz:=.list (ns.map .int)
theorem oP(ns:List Int):dLen (bH ns)=.ok (.int ns.length):=by unfold bH;rw[jS,AB]
theorem aB1{ns:List Int}{i:Int}(h0:0<=i)(h1:i < ns.length):∃ v,dIx (bH ns) (.int i)=.ok (.int v):=by
 refine ⟨ns[i.toNat]'(by omega),eD (sI h0 ?_)⟩
 rw[AH,AJ (by omega)];rfl
theorem i8(ns:List Int)(k:Int):∃ v,bB [.d (bH ns),.d (.int k)]=.ok (.d (.int v)):=by
 by_cases h:(0:Int) < ns.length
 .obtain ⟨v,b⟩:=aB1 (ns:=ns) (i:=k % (ns.length:Int)) (GW _ (by omega)) (FY _ h)
  have c:dMod (.int k) (.int (ns.length:Int))=.ok (.int (k % (ns.length:Int))):=dI h
  have a:0 < ns.length:=by omega
  refine ⟨v / 2147483647 * 2147483659+((v % 2147483647+7919 * k+1) * 48271 % 2147483647 * 69621+104729 * k) % 2147483659,?_⟩
  unfold bB lN
  simp[oP,a,c,b,dI,aH2,kP,v8]
 .have a:¬ 0 < ns.length:=by omega
  refine ⟨((7919 * k+1) * 48271 % 2147483647 * 69621+104729 * k) % 2147483659,?_⟩
  unfold bB lN
  simp[oP,a,dI,aH2,kP,v8]
theorem jI{n:Nat}(h:n<=16777216):kL 0 (n:Int)=.ok ((List.range n).map fun i:Nat=>.int (i:Int)):=nM h
theorem tL(x y:Str):(x++y).cps.toList=x.cps.toList++y.cps.toList:=by
 show (x.cps++y.cps).toList=_
 rw[FW]
theorem xY{ns:List Int}{at':Int}{m sg:Nat}(E:0<=at')(U:m<=1000)(s1:1<=sg)(N:sg<=3):∃ z:Str,cS [.d (bH ns),.d (.int at'),.d (.int m),.d (.int sg)]=.ok (.d (.str z))/\bD sg z.cps.toList/\z.cps.toList.length=m:=by
 have K:=nM (n:=m) (by omega)
 have G:(0:Int) < (sg:Int):=by omega
 have j:∀ y:Int,∃ c,dIx (.str "abc") (.int (y % (sg:Int)))=.ok (.str ⟨#[c]⟩)/\bR sg c=true:=fun y=>by
  obtain ⟨c,h1,h2⟩:=aM3 (k:=y) s1 N
  exact ⟨c,aAE (by decide) h1,h2⟩
 have B:∃ z:Str,(cI (vD (e2 z9 (eC (.str "")) (eL (f7 [none,some 0,some 1,some 3] (fU (rV 2)) (stN 0) fX (e2 dIx (eC (.str "abc")) (e2 dMod (eA (bM 2 bB (aA (vV 1) (aA (vD (e2 cQ (rV 2) (rV 0))) aO)))) (rV 3)))))))) [some (.d (bH ns)),some (.d (.int at')),some (.d (.int m)),some (.d (.int sg)),none,none,none]=.ok (.rt (.d (.str z)))/\bD sg z.cps.toList/\z.cps.toList.length=m:=by
  have b:∀ i:Nat,∃ c,(e2 dIx (eC (.str "abc")) (e2 dMod (eA (bM 2 bB (aA (vV 1) (aA (vD (e2 cQ (rV 2) (rV 0))) aO)))) (rV 3))) [some (.d (.int i)),some (.d (bH ns)),some (.d (.int at')),some (.d (.int sg))]=.ok (.str ⟨#[c]⟩)/\bR sg c=true:=fun i=>by
   obtain ⟨v,O⟩:=i8 ns (at'+i)
   obtain ⟨c,h1,h2⟩:=j v
   exact ⟨c,by simp[O,dI G,h1],h2⟩
  have s:=Classical.skolem.mp b
  obtain ⟨f,p⟩:=s
  have h1:=compL_of (fs:=stN 0) (fe:=e2 dIx (eC (.str "abc")) (e2 dMod (eA (bM 2 bB (aA (vV 1) (aA (vD (e2 cQ (rV 2) (rV 0))) aO)))) (rV 3))) (ρ0:=[none,some (.d (bH ns)),some (.d (.int at')),some (.d (.int sg))]) (d:=fun i:Nat=>.int (i:Int)) (g:=fun i:Nat=>.str ⟨#[f i]⟩) (xs:=List.range m) fun i _=>⟨_,rfl,(p i).1⟩
  have H:pO ((List.range m).map fun i:Nat=>PyData.str ⟨#[f i]⟩)=some (((List.range m).map f).map one):=by
   rw[BX]
   generalize List.range m=l
   induction l with
   | nil=>rfl
   | cons a t ih=>simp only[AL,pO,ih];rfl
  have P:z9 (.str "") (.list ((List.range m).map fun i:Nat=>.str ⟨#[f i]⟩))=.ok (.str ⟨((List.range m).map f).toArray⟩):=by
   show (match pO ((List.range m).map fun i:Nat=>PyData.str ⟨#[f i]⟩) with|some ys=>if _ then R.ok _ else .bad|none=>.bad)=_
   rw[H]
   simp only
   rw[AD (by rw[aM1,AB,AB,AU];show m+m * 0<=_;omega),aM2]
  refine ⟨⟨((List.range m).map f).toArray⟩,?_,⟨by simp;omega,fun c b=>?_⟩,by simp⟩
  .simp[K,cJ,h1,P]
  .simp at b
   obtain ⟨i,_,rfl⟩:=b
   exact (p i).2
 obtain ⟨L,o,M,J⟩:=B
 by_cases r:at' < (ns.length:Int)
 .obtain ⟨Q,e⟩:=aB1 (ns:=ns) (i:=0) (FB _) (by omega)
  by_cases I:Q % 2=1
  .obtain ⟨w1,w⟩:=aB1 (ns:=ns) (i:=at') E r
   obtain ⟨T,p,y,z,D,u,F,rfl⟩:=gR (fs:=stN 6) (fb:=aS (bU 5 (vD (e2 cQ (rV 5) (e2 dIx (eC (.str "abc")) (e2 dMod (rV 4) (rV 3)))))) (bU 4 (vD (e2 dDiv (rV 4) (rV 3)))))
    (d:=fun i:Nat=>.int (i:Int)) (xs:=List.range m) (ρ:=[some (.d (bH ns)),some (.d (.int at')),some (.d (.int m)),some (.d (.int sg)),some (.d (.int w1)),some (.d (.str "")),none])
    (fun i ρ=>∃ (y:Int) (z:Str) (D:O9 A),z.cps.toList.length=i/\(∀ c∈z.cps.toList,bR sg c=true)/\ρ=[some (.d (bH ns)),some (.d (.int at')),some (.d (.int m)),some (.d (.int sg)),some (.d (.int y)),some (.d (.str z)),D]) ⟨w1,"",none,rfl,fun c b=>(nomatch (show c∈([]:List Nat) from b)),rfl⟩
    (fun i k ρ S C=>by
     obtain ⟨y,z,D,u,F,rfl⟩:=C
     have hi:i < m:=by have:=(AM.mp S).1;simpa using this
     obtain ⟨c,h1,h2⟩:=j y
     have h:cQ (.str z) (.str ⟨#[c]⟩)=.ok (.str (z++⟨#[c]⟩)):=aH5 (by
      have:z.length=z.cps.toList.length:=by simp[Str.length]
      show z.length+1<=_
      omega)
     refine ⟨_,_,rfl,.inl ?_,y / sg,z++⟨#[c]⟩,some (.d (.int k)),by rw[tL,AK,u];rfl,fun x s=>?_,rfl⟩
     .simp[dI G,h1,h,v8 G (show (sg:Int) < 18446744073709551616 by omega)]
     .rw[tL] at s
      rcases BW.mp s with q|q
      .exact F x q
      .have:x=c:=by simpa using q
       rw[this];exact h2)
   rw[AU] at u
   refine ⟨z,?_,⟨by omega,F⟩,u⟩
   unfold cS i6
   simp only[eJ,AL,BJ,BT,BQ,AY,A9,List.replicate,bK,vY,oO,eU,fO,eI,fN,AX,AT,R.bind_ok,oP,vZ,mZ,r,decide_true,CG,e,dI (show (0:Int) < 2 by decide),iZ,I,gA,iR,w,A6,A8,gB,jH,K,p,k9,nL]
  .refine ⟨L,?_,M,J⟩
   unfold cS i6
   simp only[eJ,AL,BJ,BT,BQ,AY,A9,List.replicate]
   rw[bK,vY]
   simp only[oO,eU,fO,eI,fN,AX,AT,R.bind_ok,oP,vZ,mZ,r,decide_true,CG,e,dI (show (0:Int) < 2 by decide),iZ,I,decide_false,BF,CF,aHW]
   rw[o];rfl
 .refine ⟨L,?_,M,J⟩
  unfold cS i6
  simp only[eJ,AL,BJ,BT,BQ,AY,A9,List.replicate]
  rw[bK,vY]
  simp only[oO,eU,fO,eI,fN,AX,AT,R.bind_ok,oP,vZ,mZ,r,decide_false,BF,CF,aHW]
  rw[o];rfl
theorem aOG(i:Int):g7 [.d (.int i)]=.ok (.d (.bool true)):=by
 have h1:iV "int" "int"=true:=by decide
 have h2:iV "int" "bool"=false:=by decide
 simp[g7,m4,h1,h2]
end Mc
namespace Mc
open PySem L2 PyProof.Rows
def jT(rs:List Rw)(z:List Nat)(s:Int×Int):O9 ((Int×Int)⊕Str):=
 match (cK rs z s).1 with
 | .w x=>some (.inr x)
 | .n q=>some (.inl (s.1+(cK rs z s).2,q))
end Mc
namespace Mc
open PySem L2 PyProof.Rows Fl
theorem aIA:iV "int" "str"=false:=by decide
theorem aIB:iV "str" "str"=true:=by decide
theorem aIC{rs:List Rw}{q:Int}(h0:0<=q)(h1:q < (rs.length:Int)):dIx (aY rs) (.int q)=.ok (rowD (aP rs q)):=mG (sI h0 (by rw[AH,eF h0 h1];rfl))
theorem aOH(z:Str):z.length=z.cps.toList.length:=by simp[Str.length]
def lZ(rs:List Rw)(z:List Nat)(s:Int×Int):Prop:=mC rs z s/\((mB rs z s=none/\∃ x,(cK rs z s).1=.w x/\bS (jT rs z) (0,0)=some x)\/((∃ s',mB rs z s=some s')/\bS (jT rs z) (0,0)=none))
noncomputable def iA(rs:List Rw)(z:List Nat):Str:=(bS (jT rs z) (0,0)).getD "ever"
theorem aRN(x y:Str):PyData.eqv (.str x) (.str y)=(x == y):=by rw[PyData.eqv.eq_6]
end Mc
namespace Mc
open PySem L2 PyProof.Rows
section
variable{S T O Q:Type}
structure Gates(st:S->Option (S⊕O))(sub:S->Option (S⊕Q))(ext:Q->T⊕O)(g:T->S)(ent:T->S⊕O)(Dom:S->Prop)(TV:T->Prop):Prop where
 step:∀ s,Dom s->(∃ s',sub s=some (.inl s')/\st s=some (.inl s')/\Dom s')\/(∃ e t,sub s=some (.inr e)/\ext e=.inl t/\st s=some (.inl (g t))/\TV t)\/∃ e o,sub s=some (.inr e)/\ext e=.inr o/\st s=some (.inr o)
 gate:∀ t,TV t->(∃ s,ent t=.inl s/\st (g t)=some (.inl s)/\Dom s)\/∃ o,ent t=.inr o/\st (g t)=some (.inr o)
noncomputable def gst(sub:S->O9 (S⊕Q))(ext:Q->T⊕O)(ent:T->S⊕O)(ev:O)(t:T):O9 (T⊕O):=match ent t with
 | .inr o=>some (.inr o)
 | .inl s=>match bS sub s with
  | none=>some (.inr ev)
  | some e=>some (ext e)
variable{st:S->O9 (S⊕O)}{sub:S->O9 (S⊕Q)}{ext:Q->T⊕O}{g:T->S}{ent:T->S⊕O}{Dom:S->Prop}{TV:T->Prop}
theorem iB{st:S->O9 (S⊕O)}{s:S}{o:O}{n:Nat}(h:Ex st n s o):bS st s=some o:=((j8 st s) o).mpr ⟨n,h⟩
theorem gS{st:S->O9 (S⊕O)}{s:S}{o:O}(h:bS st s=some o):∃ n,Ex st n s o:=((j8 st s) o).mp h
theorem Gates.in1(G:Gates st sub ext g ent Dom TV){k:Nat}{s:S}{e:Q}(d:Dom s)(h:Ex sub k s e):(∀ t,ext e=.inl t->Rc st (k+1) s (g t)/\TV t)/\∀ o,ext e=.inr o->Ex st k s o:=by
 induction h with
 | out h=>
  rcases G.step _ d with ⟨s',a,_⟩|⟨i,t,a,b,c,tv⟩|⟨i,o,a,b,c⟩
  .rw[h] at a;cases a
  .rw[h] at a;cases a
   exact ⟨fun f z=>by rw[b] at z;cases z;exact ⟨.cons c .nil,tv⟩,fun o z=>by rw[b] at z;cases z⟩
  .rw[h] at a;cases a
   exact ⟨fun f z=>(by rw[b] at z;cases z),fun o' z=>by rw[b] at z;cases z;exact .out c⟩
 | go h t ih=>
  rcases G.step _ d with ⟨s',a,b,c⟩|⟨i,t,a,b,c,tv⟩|⟨i,o,a,b,c⟩
  .rw[h] at a;cases a
   obtain ⟨j,l⟩:=ih c
   exact ⟨fun f z=>⟨.cons b (j f z).1,(j f z).2⟩,fun o z=>.go b (l o z)⟩
  .rw[h] at a;cases a
  .rw[h] at a;cases a
theorem Gates.in2(G:Gates st sub ext g ent Dom TV){n:Nat}{s:S}{o:O}(d:Dom s)(h:Ex st n s o):∃ k e,Ex sub k s e/\((∃ t n',ext e=.inl t/\TV t/\n' < n/\Ex st n' (g t) o)\/ext e=.inr o):=by
 induction h with
 | out h=>
  rcases G.step _ d with ⟨s',a,b,_⟩|⟨f,t,a,b,c,tv⟩|⟨f,o',a,b,c⟩
  .rw[h] at b;cases b
  .rw[h] at c;cases c
  .rw[h] at c;cases c
   exact ⟨0,f,.out a,.inr b⟩
 | go h t ih=>
  rcases G.step _ d with ⟨s',a,b,c⟩|⟨f,i,a,b,c,tv⟩|⟨f,o',a,b,c⟩
  .rw[h] at b;cases b
   obtain ⟨k,e,q,r⟩:=ih c
   refine ⟨k+1,e,.go a q,r.imp ?_ id⟩
   rintro ⟨t,n',x1,x2,x3,x4⟩
   exact ⟨t,n',x1,x2,by omega,x4⟩
  .rw[h] at c;cases c
   exact ⟨0,f,.out a,.inl ⟨i,_,b,tv,by omega,t⟩⟩
  .rw[h] at c;cases c
theorem Gates.fwd(G:Gates st sub ext g ent Dom TV)(i:O):∀ (n:Nat) {t:T} {o:O},TV t->Ex st n (g t) o->∃ m,Ex (gst sub ext ent i) m t o:=by
 intro n
 induction n using Nat.strongRecOn with
 | ind n ih=>
  intro t o tv h
  rcases G.gate t tv with ⟨s,a,b,c⟩|⟨o',a,b⟩
  .cases h with
   | out h=>rw[b] at h;cases h
   | go h q=>
    rw[b] at h;cases h
    obtain ⟨k,e,x,y⟩:=G.in2 c q
    have d:=iB x
    rcases y with ⟨u,l,r,j,v,f⟩|y
    .obtain ⟨m,p⟩:=ih l (by omega) j f
     exact ⟨m+1,.go (by unfold gst;rw[a];simp only;rw[d];simp only;rw[r]) p⟩
    .exact ⟨0,.out (by unfold gst;rw[a];simp only;rw[d];simp only;rw[y])⟩
  .cases h with
   | out h=>rw[b] at h;cases h;exact ⟨0,.out (by unfold gst;rw[a])⟩
   | go h q=>rw[b] at h;cases h
theorem Gates.bwd(G:Gates st sub ext g ent Dom TV){f:O}{m:Nat}{t:T}{o:O}(h:Ex (gst sub ext ent f) m t o)(tv:TV t):o=f\/∃ n,Ex st n (g t) o:=by
 induction h with
 | @out t o h=>
  rcases G.gate t tv with ⟨s,a,b,c⟩|⟨o',a,b⟩
  .unfold gst at h
   rw[a] at h
   simp only at h
   cases e:bS sub s with
   | none=>rw[e] at h;cases h;exact .inl rfl
   | some x=>
    rw[e] at h
    have h':ext x=.inr o:=BU h
    obtain ⟨k,d⟩:=gS e
    exact .inr ⟨k+1,.go b ((G.in1 c d).2 o h')⟩
  .unfold gst at h
   rw[a] at h
   cases h
   exact .inr ⟨0,.out b⟩
 | @go t t' o n h q ih=>
  rcases G.gate t tv with ⟨s,a,b,c⟩|⟨o',a,b⟩
  .unfold gst at h
   rw[a] at h
   simp only at h
   cases e:bS sub s with
   | none=>rw[e] at h;cases h
   | some x=>
    rw[e] at h
    have h':ext x=.inl t':=BU h
    obtain ⟨k,d⟩:=gS e
    obtain ⟨r1,r2⟩:=(G.in1 c d).1 t' h'
    rcases ih r2 with z|⟨i,z⟩
    · exact .inl z
    · exact .inr ⟨i + (k + 1) + 1, .go b (r1.to z)⟩
  .unfold gst at h
   rw[a] at h
   cases h
theorem Gates.eq(G:Gates st sub ext g ent Dom TV)(a:O){t:T}(tv:TV t):(bS st (g t)).getD a=(bS (gst sub ext ent a) t).getD a:=by
 cases e:bS st (g t) with
 | some o=>
  obtain ⟨n,h⟩:=gS e
  obtain ⟨m,b⟩:=G.fwd a n tv h
  rw[iB b]
 | none=>
  cases e2:bS (gst sub ext ent a) t with
  | none=>rfl
  | some o=>
   obtain ⟨m,b⟩:=gS e2
   rcases G.bwd b tv with z|⟨n,z⟩
   · rw [z]; rfl
   · rw [iB z] at e; cases e
theorem Gates.inn(G:Gates st sub ext g ent Dom TV)(a:O){s:S}(d:Dom s):(bS st s).getD a=match bS sub s with
  | none=>a
  | some e=>match ext e with
   | .inr o=>o
   | .inl t=>(bS (gst sub ext ent a) t).getD a:=by
 cases e:bS sub s with
 | none=>
  cases e2:bS st s with
  | none=>rfl
  | some o=>
   obtain ⟨n,h⟩:=gS e2
   obtain ⟨k,x,b,_⟩:=G.in2 d h
   rw[iB b] at e;cases e
 | some x=>
  obtain ⟨k,j⟩:=gS e
  obtain ⟨c,i⟩:=G.in1 d j
  simp only
  cases q:ext x with
  | inr o=>simp only;rw[iB (i o q)];rfl
  | inl t=>
   simp only
   obtain ⟨r1,r2⟩:=c t q
   rw[<-G.eq a r2]
   cases e2:bS st (g t) with
   | some o=>
    obtain ⟨n,h⟩:=gS e2
    rw[iB (r1.to h)]
   | none=>
    cases f:bS st s with
    | none=>rfl
    | some o=>
     obtain ⟨n,h⟩:=gS f
     obtain ⟨l,_,z⟩:=r1.ex h
     rw[iB z] at e2;cases e2
end
def dW:Str:="ever"
def dG(rs:List Rw)(z:List Nat)(s:Int×Int):O9 ((Int×Int)⊕Tn):=
 match (cK rs z s).1 with
 | .w x=>some (.inr (.w x))
 | .n q=>if s.1+(cK rs z s).2<=(z.length:Int) then some (.inl (s.1+(cK rs z s).2,q)) else some (.inr (.n q))
def pY(rs:List Rw)(z:List Nat)(s:Int×Int):Prop:=0<=s.1/\s.1<=(z.length:Int)/\0<=s.2/\s.2 < (rs.length:Int)
def c8(rs:List Rw)(q:Int):Prop:=0<=q/\q < (rs.length:Int)
theorem pY.valid{rs:List Rw}{z:List Nat}{s:Int×Int}(h:pY rs z s):mC rs z s:=⟨h.1,by have:=h.2.1;omega,h.2.2⟩
noncomputable def fP(rs:List Rw)(z:List Nat)(s:Int×Int):Tn:=(bS (dG rs z) s).getD (.w dW)
noncomputable def begB(rs:List Rw)(z:List Nat)(q:Int):Tn:=fP rs z ((z.length:Int),q)
theorem aID{rs:List Rw}{z:List Nat}{c:Nat}{s:Int×Int}(h0:0<=s.1)(h:s.1<=(z.length:Int)):cK rs (z++[c]) s=cK rs z s:=by
 unfold cK
 by_cases h1:s.1=0
 .rw[AD h1,AD h1]
 .rw[AC h1,AC h1,AC (by rw[AK,A7];omega),AC (by omega)]
  have e:(z++[c]).getD (s.1.toNat - 1) 97=z.getD (s.1.toNat - 1) 97:=by
   rw[AS,AS,BK (by omega)]
  rw[e]
theorem beg_cell{rs:List Rw}{sg:Nat}{z:List Nat}{s:Int×Int}(M:Mach rs sg)(S:bD sg z)(V:pY rs z s):(∃ x,(cK rs z s).1=.w x/\s.1=0)\/∃ q,(cK rs z s).1=.n q/\c8 rs q/\0<=s.1+(cK rs z s).2/\s.1+(cK rs z s).2<=(z.length:Int)+1:=by
 cases e:(cK rs z s).1 with
 | w x=>
  refine .inl ⟨x,rfl,?_⟩
  by_cases b:s.1=0
  .exact b
  .unfold cK at e
   rw[AC b,AC (by have:=V.2.1;omega)] at e
   cases e
 | n q=>
  have a:mC rs z (s.1+(cK rs z s).2,q):=aEW M S V.valid (by unfold mB;rw[e])
  exact .inr ⟨q,rfl,⟨a.2.2.1,a.2.2.2⟩,a.1,a.2.1⟩
def aRO(e:Tn):Int⊕Tn:=match e with
 | .n q=>.inl q
 | .w x=>.inr (.w x)
def aRP(e:Tn):Int⊕Str:=match e with
 | .n q=>.inl q
 | .w x=>.inr x
def aB2(rs:List Rw)(z:List Nat)(c:Nat)(q:Int):(Int×Int)⊕Tn:=
 if ((aP rs q).c.getD (c - 97) (0,0)).2=1 then .inr (.n ((aP rs q).c.getD (c - 97) (0,0)).1) else .inl ((z.length:Int),((aP rs q).c.getD (c - 97) (0,0)).1)
theorem zQ{rs:List Rw}{z:List Nat}{c:Nat}{q:Int}:cK rs (z++[c]) ((z.length:Int)+1,q)=(.n ((aP rs q).c.getD (c - 97) (0,0)).1,((aP rs q).c.getD (c - 97) (0,0)).2):=by
 unfold cK
 have e:(z++[c]).getD (((z.length:Int)+1).toNat - 1) 97=c:=by
  rw[show ((z.length:Int)+1).toNat - 1=z.length by omega,AS,BS (AG _)];simp
 rw[AC (show ¬ (z.length:Int)+1=0 by omega),AC (by simp only[AK,A7];omega)]
 simp only
 rw[e]
theorem zR{rs:List Rw}{sg:Nat}{z:List Nat}{c:Nat}(M:Mach rs sg)(S:bD sg z)(i:bR sg c=true):Gates (dG rs (z++[c])) (dG rs z) aRO (fun q=>((z.length:Int)+1,q)) (aB2 rs z c) (pY rs z) (c8 rs) where
 step:=fun s V=>by
  have f:=aID (rs:=rs) (c:=c) V.1 V.2.1
  have b:((z++[c]).length:Int)=(z.length:Int)+1:=by rw[AK,A7];omega
  rcases beg_cell M S V with ⟨x,e,m⟩|⟨q,e,d,h1,h2⟩
  .refine .inr (.inr ⟨.w x,.w x,?_,rfl,?_⟩)
   .unfold dG;rw[e]
   .unfold dG;rw[f,e]
  .by_cases g:s.1+(cK rs z s).2<=(z.length:Int)
   .refine .inl ⟨(s.1+(cK rs z s).2,q),?_,?_,h1,g,d⟩
    · unfold dG; rw [e]; simp only; rw [AD g]
    · unfold dG; rw [f, e]; simp only; rw [AD (by rw [b]; omega)]
   .refine .inr (.inl ⟨.n q,q,?_,rfl,?_,d⟩)
    · unfold dG; rw [e]; simp only; rw [AC g]
    · unfold dG; rw [f, e]; simp only; rw [AD (by rw [b]; omega), show s.1 + (cK rs z s).2 = (z.length : Int) + 1 by omega]
 gate:=fun q d=>by
  have b:((z++[c]).length:Int)=(z.length:Int)+1:=by rw[AK,A7];omega
  have j:=AW (eF d.1 d.2)
  obtain ⟨_,l⟩:=oM M j (show c - 97 < sg by have:=BV i;omega)
  obtain ⟨k,h,a⟩:=l
  rcases a with a|a
  .refine .inr ⟨.n _,by unfold aB2;rw[AD a],?_⟩
   unfold dG;rw[zQ];simp only;rw[AC (by rw[b,a];omega)]
  .refine .inl ⟨((z.length:Int),((aP rs q).c.getD (c - 97) (0,0)).1),by unfold aB2;rw[AC (by rw[a];decide)],?_,?_⟩
   .unfold dG;rw[zQ];simp only;rw[AD (by rw[b,a];omega),a,show (z.length:Int)+1 + -1=z.length by omega]
   .exact ⟨by show (0:Int)<=z.length;omega,FB _,k,h⟩
def d8(rs:List Rw)(bk:Int->Tn)(c:Nat)(q:Int):O9 (Int⊕Tn):=
 if ((aP rs q).c.getD (c - 97) (0,0)).2=1 then some (.inr (.n ((aP rs q).c.getD (c - 97) (0,0)).1)) else match bk ((aP rs q).c.getD (c - 97) (0,0)).1 with
  | .n r=>some (.inl r)
  | .w x=>some (.inr (.w x))
noncomputable def onR(rs:List Rw)(bk:Int->Tn)(c:Nat)(t:Tn):Tn:=match t with
 | .w x=>.w x
 | .n q=>(bS (d8 rs bk c) q).getD (.w dW)
theorem aIE{rs:List Rw}{z:List Nat}{c:Nat}:gst (dG rs z) aRO (aB2 rs z c) (.w dW)=d8 rs (begB rs z) c:=by
 funext q
 unfold gst aB2 d8 begB fP
 by_cases h:((aP rs q).c.getD (c - 97) (0,0)).2=1
 .rw[AD h,AD h]
 .rw[AC h,AC h]
  simp only
  cases bS (dG rs z) ((z.length:Int),((aP rs q).c.getD (c - 97) (0,0)).1) with
  | none=>rfl
  | some e=>cases e<;>rfl
theorem rO{rs:List Rw}{sg:Nat}{z:List Nat}{c:Nat}(M:Mach rs sg)(S:bD sg z)(a:bR sg c=true){q:Int}(b:c8 rs q):begB rs (z++[c]) q=onR rs (begB rs z) c (.n q):=by
 have h:=(zR M S a).eq (.w dW) b
 rw[aIE] at h
 unfold begB fP onR
 rw[show ((z++[c]).length:Int)=(z.length:Int)+1 by rw[AK,A7];omega]
 exact h
theorem uB{rs:List Rw}{sg:Nat}(M:Mach rs sg)(z:List Nat):pY rs z (0,0):=⟨FB _,by show (0:Int)<=z.length;omega,FB _,by have:=M.len;show (0:Int) < rs.length;omega⟩
theorem zS{rs:List Rw}{sg:Nat}{z:List Nat}{c:Nat}(M:Mach rs sg)(S:bD sg z)(a:bR sg c=true):fP rs (z++[c]) (0,0)=onR rs (begB rs z) c (fP rs z (0,0)):=by
 have h:=(zR M S a).inn (.w dW) (uB M z)
 rw[aIE] at h
 unfold fP
 rw[h]
 cases bS (dG rs z) (0,0) with
 | none=>rfl
 | some e=>cases e<;>rfl
def c9(rs:List Rw)(bk:Int->Tn)(q:Int):O9 (Int⊕Str):=match (aP rs q).r with
 | .w x=>some (.inr x)
 | .n q'=>match bk q' with
  | .n r=>some (.inl r)
  | .w x=>some (.inr x)
noncomputable def wbR(rs:List Rw)(bk:Int->Tn)(t:Tn):Str:=match t with
 | .w x=>x
 | .n q=>(bS (c9 rs bk) q).getD dW
def aB3(rs:List Rw)(z:List Nat)(q:Int):(Int×Int)⊕Str:=match (aP rs q).r with
 | .w x=>.inr x
 | .n q'=>.inl ((z.length:Int),q')
theorem zT{rs:List Rw}{z:List Nat}{q:Int}:cK rs z ((z.length:Int)+1,q)=((aP rs q).r,-1):=by
 unfold cK
 rw[AC (show ¬ (z.length:Int)+1=0 by omega),AD rfl]
theorem aFL{rs:List Rw}{sg:Nat}{z:List Nat}(M:Mach rs sg)(S:bD sg z):Gates (jT rs z) (dG rs z) aRP (fun q=>((z.length:Int)+1,q)) (aB3 rs z) (pY rs z) (c8 rs) where
 step:=fun s V=>by
  rcases beg_cell M S V with ⟨x,e,f⟩|⟨q,e,a,h1,h2⟩
  .refine .inr (.inr ⟨.w x,x,?_,rfl,?_⟩)
   .unfold dG;rw[e]
   .unfold jT;rw[e]
  .by_cases c:s.1+(cK rs z s).2<=(z.length:Int)
   .refine .inl ⟨(s.1+(cK rs z s).2,q),?_,?_,h1,c,a⟩
    · unfold dG; rw [e]; simp only; rw [AD c]
    · unfold jT; rw [e]
   .refine .inr (.inl ⟨.n q,q,?_,rfl,?_,a⟩)
    · unfold dG; rw [e]; simp only; rw [AC c]
    · unfold jT; rw [e]; simp only; rw [show s.1 + (cK rs z s).2 = (z.length : Int) + 1 by omega]
 gate:=fun q a=>by
  have d:=AW (eF a.1 a.2)
  have b:=(M.row _ d).1.2.1
  cases e:(aP rs q).r with
  | w x=>exact .inr ⟨x,by unfold aB3;rw[e],by unfold jT;rw[zT];simp only;rw[e]⟩
  | n q'=>
   rw[e] at b
   refine .inl ⟨((z.length:Int),q'),by unfold aB3;rw[e],?_,⟨by show (0:Int)<=z.length;omega,FB _,b.1,b.2⟩⟩
   unfold jT;rw[zT];simp only;rw[e];simp only;rw[show (z.length:Int)+1 + -1=z.length by omega]
theorem aRQ{rs:List Rw}{z:List Nat}:gst (dG rs z) aRP (aB3 rs z) dW=c9 rs (begB rs z):=by
 funext q
 unfold gst aB3 c9 begB fP
 cases (aP rs q).r with
 | w x=>rfl
 | n q'=>
  simp only
  cases bS (dG rs z) ((z.length:Int),q') with
  | none=>rfl
  | some e=>cases e<;>rfl
theorem uC{rs:List Rw}{sg:Nat}{z:List Nat}(M:Mach rs sg)(S:bD sg z):(bS (jT rs z) (0,0)).getD dW=wbR rs (begB rs z) (fP rs z (0,0)):=by
 have h:=(aFL M S).inn dW (uB M z)
 rw[aRQ] at h
 rw[h]
 unfold fP wbR
 cases bS (dG rs z) (0,0) with
 | none=>rfl
 | some e=>cases e<;>rfl
theorem sK{rs:List Rw}{q:Int}:fP rs [] (0,q)=(aP rs q).l:=by
 have a:cK rs [] (0,q)=((aP rs q).l,1):=by unfold cK;rw[AD rfl]
 unfold fP
 cases e:(aP rs q).l with
 | w x=>rw[gF (o:=.w x) (by unfold dG;rw[a,e])];rfl
 | n q'=>
  rw[gF (o:=.n q') (by unfold dG;rw[a,e];simp only;rw[AC (by decide)])];rfl
end Mc
namespace Mc
open PySem L2 PyProof.Rows Fl
def iC(f:Tn)(bk:List Tn):Dz:=.tuple [f.d,.tuple (bk.map Tn.d)]
def bkF(bk:List Tn)(q:Int):Tn:=bk.getD q.toNat (.w dW)
def tnV(m:Nat):Tn->Prop
 | .n i=>0<=i/\i < (m:Int)
 | .w _=>True
theorem iN(a b:Int)(h:PyData.int a=PyData.int b):a=b:=by injection h
theorem jJ(ps:List Int)(q:Int):cV (.int q) ((been PyData.int ps).map (·.1))=true:=by
 unfold cV
 rw[zP,DT]
 refine .inr ?_
 rw[show nW (.int q)=true from rfl,Bool.true_and,CS]
 intro x a
 obtain ⟨i,_,rfl⟩:=A5.mp a
 rfl
theorem xZ(i:Int):fR [.d (.int i)]=.ok (.d (.bool false)):=by
 unfold fR nJ
 simp[aIA]
theorem yA(x:Str):fR [.d (.str x)]=.ok (.d (.bool true)):=by
 unfold fR nJ
 simp[aIB]
def fY(rs:List Rw)(k:Nat):Dz:=.list (rs.map fun r=>dM (ck k r))
theorem aB4{rs:List Rw}{k:Nat}{q:Int}(h0:0<=q)(h1:q < (rs.length:Int)):dIx (fY rs k) (.int q)=.ok (dM (ck k (aP rs q))):=eD (sI h0 (by rw[AH,eF h0 h1];rfl))
theorem aL5{bk:List Tn}{q:Int}(h0:0<=q)(h1:q < (bk.length:Int)):dIx (.tuple (bk.map Tn.d)) (.int q)=.ok (bkF bk q).d:=by
 refine mG (sI h0 ?_)
 have a:q.toNat < bk.length:=by omega
 rw[AH,AJ a]
 unfold bkF
 rw[AS,AJ a];rfl
theorem sL{m:Nat}{bk:List Tn}(a:∀ t∈bk,tnV m t)(q:Int):tnV m (bkF bk q):=by
 unfold bkF
 rw[AS]
 cases e:bk[q.toNat]? with
 | none=>exact trivial
 | some t=>exact a t (AW e)
noncomputable def oρ(rs:List Rw)(bk:List Tn)(k:Nat)(t:Tn)(ps:List Int)(u:O9 A):Sg:=[some (.d (.tuple (bk.map Tn.d))),some (.d (fY rs k)),some (.d t.d),some (.m (been PyData.int ps)),u]
theorem aRR{rs:List Rw}{bk:List Tn}{k:Nat}{x:Str}{ps:List Int}{u:O9 A}:oT (oρ rs bk k (.w x) ps u)=.ok false:=by
 simp[oT,oρ,Tn.d,yA]
theorem aKN{rs:List Rw}{bk:List Tn}{k:Nat}{q:Int}{ps:List Int}{u:O9 A}:oT (oρ rs bk k (.n q) ps u)=.ok true:=by
 simp[oT,oρ,Tn.d,xZ]
theorem aRS{rs:List Rw}{bk:List Tn}{k:Nat}{q:Int}{ps:List Int}{u:O9 A}(h:q∈ps):oB (oρ rs bk k (.n q) ps u)=.ok (.rt (.d (.str "ever"))):=by
 have h1:=jJ ps q
 have h2:=(t9 iN).mpr h
 simp[oB,oρ,Tn.d,h1,h2]
theorem aRT{rs:List Rw}{bk:List Tn}{k:Nat}{q:Int}{ps:List Int}{u:O9 A}(h:q∉ps)(a:c8 rs q)(b:ps.length<=16777216)(e:(ck k (aP rs q)).2=1):oB (oρ rs bk k (.n q) ps u)=.ok (.rt (.d (.int (ck k (aP rs q)).1))):=by
 have h1:=jJ ps q
 have h2:=lS iN h
 have c:(been PyData.int ps).length<=16777216:=by rw[pW];exact b
 have hi:=aB4 (k:=k) a.1 a.2
 simp[oB,oρ,Tn.d,h1,h2,c,hi,dM,iZ,e]
theorem aTO{rs:List Rw}{bk:List Tn}{k:Nat}{q:Int}{ps:List Int}{u:O9 A}(h:q∉ps)(a:c8 rs q)(i:ps.length<=16777216)(g:(ck k (aP rs q)).2≠1)(h0:0<=(ck k (aP rs q)).1)(b:(ck k (aP rs q)).1 < (bk.length:Int)):oB (oρ rs bk k (.n q) ps u)=.ok (.nx (oρ rs bk k (bkF bk (ck k (aP rs q)).1) (ps++[q]) (some (.d (dM (ck k (aP rs q))))))):=by
 have h1:=jJ ps q
 have h2:=lS iN h
 have c:=uA iN h
 have e:(been PyData.int ps).length<=16777216:=by rw[pW];exact i
 have hi:=aB4 (k:=k) a.1 a.2
 have f:=aL5 h0 b
 simp[oB,oρ,Tn.d,h1,h2,c,e,hi,dM,iZ,g,f]
theorem sM{m:Nat}{l:List Int}(f:l.Nodup)(c:∀ q∈l,0<=q/\q < (m:Int)):l.length<=m:=
 qO (fun q:Int=>q.toNat) m l f (fun q d=>by have:=c q d;show q.toNat < m;omega) (fun a h b g e=>by
  have h1:=c a h
  have h2:=c b g
  have i:a.toNat=b.toNat:=e
  omega)
theorem oQ{rs:List Rw}{bk:Int->Tn}{c:Nat}{q:Int}:d8 rs bk c q=if (ck (c - 97) (aP rs q)).2=1 then some (.inr (.n (ck (c - 97) (aP rs q)).1)) else match bk (ck (c - 97) (aP rs q)).1 with
 | .n r=>some (.inl r)
 | .w x=>some (.inr (.w x)):=id rfl
theorem aOI{rs:List Rw}{sg c:Nat}{bk:List Tn}(M:Mach rs sg)(m:bR sg c=true)(j:bk.length=rs.length)(l:∀ t∈bk,tnV rs.length t){h:Int}:∀ (n:Nat) (ps:List Int) (q:Int) (u:O9 A),Und2 (d8 rs (bkF bk) c) h ps q->(∀ p∈ps,c8 rs p)->c8 rs q->rs.length+1<=ps.length+n->
  aS (b7 oT oB) (cI (vV 2)) (oρ rs bk (c - 97) (.n q) ps u)=.ok (.rt (.d ((bS (d8 rs (bkF bk) c) h).getD (.w dW)).d)):=by
 intro n
 induction n with
 | zero=>
  intro ps q u U pv a v
  have:=sM U.nd pv
  omega
 | succ n ih=>
  intro ps q u U pv a v
  rw[bK]
  by_cases b:q∈ps
  .rw[rN aKN (aRS b),U.met b];rfl
  .have y:ps.length<=rs.length:=sM U.nd pv
   have f:ps.length<=16777216:=by have:=M.len2;omega
   have o:=AW (eF a.1 a.2)
   obtain ⟨_,g⟩:=oM M o (show c - 97 < sg by have:=BV m;omega)
   have g:o9 rs.length (ck (c - 97) (aP rs q)):=g
   obtain ⟨s,k,B⟩:=g
   by_cases h1:(ck (c - 97) (aP rs q)).2=1
   .have st:d8 rs (bkF bk) c q=some (.inr (.n (ck (c - 97) (aP rs q)).1)):=by unfold d8;exact AD h1
    rw[rN aKN (aRT b a f h1),U.outs st];rfl
   .rw[g9 aKN (aTO b a f h1 s (by rw[j];exact k))]
    have i:=sL l (ck (c - 97) (aP rs q)).1
    cases e:bkF bk (ck (c - 97) (aP rs q)).1 with
    | w x=>
     have st:d8 rs (bkF bk) c q=some (.inr (.w x)):=by rw[oQ,AC h1,e]
     rw[d6 aRR,U.outs st]
     simp[oρ,Tn.d]
    | n r=>
     rw[e] at i
     have st:d8 rs (bkF bk) c q=some (.inl r):=by rw[oQ,AC h1,e]
     have:=ih (ps++[q]) r (some (.d (dM (ck (c - 97) (aP rs q))))) (U.next b st) (fun p f=>by
      rcases BW.mp f with z|z
      · exact pv p z
      · rw [A4.mp z]; exact a) i (by rw [AK, A7]; omega)
     rw[bK] at this
     exact this
theorem aRU{rs:List Rw}{sg c:Nat}{bk:List Tn}(M:Mach rs sg)(g:bR sg c=true)(b:bk.length=rs.length)(f:∀ t∈bk,tnV rs.length t){t:Tn}(e:tnV rs.length t):iY [.d (.tuple (bk.map Tn.d)),.d (fY rs (c - 97)),.d t.d]=.ok (.d (onR rs (bkF bk) c t).d):=by
 have a:aS (b7 oT oB) (cI (vV 2)) (oρ rs bk (c - 97) t [] none)=.ok (.rt (.d (onR rs (bkF bk) c t).d)):=by
  cases t with
  | w x=>
   rw[bK,d6 aRR]
   simp[oρ,Tn.d,onR]
  | n q=>exact aOI M g b f (rs.length+1) [] q none Und2.start (fun p h=>by simp at h) e (by simp)
 unfold iY
 rw[rH]
 simp only[eJ,bK,t8,R.bind_ok,AY,A9,Nat.reduceAdd,AL,BJ,BT,BQ,List.replicate,A6,A8]
 rw[bK] at a
 simp only[oρ,been,BJ] at a
 rw[a];rfl
theorem aTP{rs:List Rw}{sg c:Nat}{bk:List Tn}(M:Mach rs sg)(f:bR sg c=true)(a:bk.length=rs.length)(b:∀ t∈bk,tnV rs.length t){t:Tn}(l:tnV rs.length t) :
  hX [.d (iC t bk),.d (fY rs (c - 97))]=.ok (.d (iC (onR rs (bkF bk) c t) ((List.range rs.length).map fun q:Nat=>onR rs (bkF bk) c (.n (q:Int))))):=by
 have h:=compL_of (fs:=stN 0) (fe:=eA (bM 3 iY (aA (vD (e2 dIx (rV 1) (eC (.int 1)))) (aA (vV 2) (aA (vV 0) aO))))) (ρ0:=[none,some (.d (iC t bk)),some (.d (fY rs (c - 97)))]) (d:=fun i:Nat=>.int (i:Int)) (g:=fun i:Nat=>(onR rs (bkF bk) c (.n (i:Int))).d) (xs:=List.range rs.length) fun i hi=>by
  refine ⟨_,rfl,?_⟩
  have:=aRU M f a b (t:=.n (i:Int)) ⟨by omega,by have:=BR.mp hi;omega⟩
  have e:(Tn.n (i:Int)).d=.int i:=rfl
  rw[e] at this
  simp[iC,this]
 have m:=nM (n:=rs.length) (by have:=M.len2;omega)
 have j:dLen (fY rs (c - 97))=.ok (.int rs.length):=by unfold fY;rw[jS,AB]
 have h1:=aRU M f a b l
 have k:dIx (iC t bk) (.int 0)=.ok t.d:=rK _ _
 have h2:dIx (iC t bk) (.int 1)=.ok (.tuple (bk.map Tn.d)):=aBZ _ _ _
 unfold hX t7
 simp[k,h2,h1,j,m,cJ,h]
 unfold iC
 rw[BX];rfl
noncomputable def a9(rs:List Rw)(z:List Nat):Dz:=iC (fP rs z (0,0)) ((List.range rs.length).map fun q:Nat=>begB rs z (q:Int))
theorem lE{rs:List Rw}{sg:Nat}{z:List Nat}(M:Mach rs sg)(S:bD sg z){s:Int×Int}(V:pY rs z s):tnV rs.length (fP rs z s):=by
 unfold fP
 cases e:bS (dG rs z) s with
 | none=>exact trivial
 | some t=>
  obtain ⟨n,h⟩:=gS e
  show tnV rs.length t
  clear e
  induction h with
  | @out s o h=>
   unfold dG at h
   rcases beg_cell M S V with ⟨x,e,c⟩|⟨q,e,a,h1,h2⟩
   .rw[e] at h;cases h;exact trivial
   .rw[e] at h
    simp only at h
    split at h
    · cases h
    · cases h; exact a
  | @go s s' o n h t ih=>
   refine ih ?_
   unfold dG at h
   rcases beg_cell M S V with ⟨x,e,c⟩|⟨q,e,a,h1,h2⟩
   .rw[e] at h;cases h
   .rw[e] at h
    simp only at h
    split at h
    · rename_i b; cases h; exact ⟨h1, b, a⟩
    · cases h
theorem aFM{rs:List Rw}{z:List Nat}{q:Nat}(h:q < rs.length):pY rs z ((z.length:Int),(q:Int)):=⟨by show (0:Int)<=z.length;omega,FB _,by show (0:Int)<=q;omega,by show (q:Int) < rs.length;omega⟩
theorem yB{rs:List Rw}{z:List Nat}{q:Int}(a:c8 rs q):bkF ((List.range rs.length).map fun q:Nat=>begB rs z (q:Int)) q=begB rs z q:=by
 have b:q.toNat < rs.length:=by have:=a.1;have:=a.2;omega
 unfold bkF
 rw[AS,AH,BD b]
 show begB rs z ((q.toNat:Nat):Int)=_
 rw[show ((q.toNat:Nat):Int)=q by have:=a.1;omega]
theorem aB5{rs:List Rw}{sg c:Nat}(M:Mach rs sg)(k:bR sg c=true){bk a:Int->Tn}(h:∀ q,c8 rs q->bk q=a q)(v:∀ q,c8 rs q->tnV rs.length (bk q)){t:Tn}(j:tnV rs.length t):onR rs bk c t=onR rs a c t:=by
 cases t with
 | w x=>rfl
 | n q=>
  have st:∀ q,c8 rs q->d8 rs bk c q=d8 rs a c q:=fun q b=>by
   unfold d8
   have g:=AW (eF b.1 b.2)
   obtain ⟨_,f⟩:=oM M g (show c - 97 < sg by have:=BV k;omega)
   rw[h _ ⟨f.1,f.2.1⟩]
  have nx:∀ q d,c8 rs q->d8 rs bk c q=some (.inl d)->c8 rs d:=fun q d b e=>by
   unfold d8 at e
   have g:=AW (eF b.1 b.2)
   obtain ⟨_,f⟩:=oM M g (show c - 97 < sg by have:=BV k;omega)
   have m:=v _ ⟨f.1,f.2.1⟩
   split at e
   .cases e
   .split at e
    · rename_i r y; cases e; rw [y] at m; exact m
    · cases e
  have u:∀ n q o,c8 rs q->Ex (d8 rs bk c) n q o->Ex (d8 rs a c) n q o:=by
   intro n q o b i
   induction i with
   | @out q o e=>exact .out (by rw[<-st q b];exact e)
   | @go q d o n e t ih=>exact .go (by rw[<-st q b];exact e) (ih (nx q d b e))
  have p:∀ n q o,c8 rs q->Ex (d8 rs a c) n q o->Ex (d8 rs bk c) n q o:=by
   intro n q o b i
   induction i with
   | @out q o e=>exact .out (by rw[st q b];exact e)
   | @go q d o n e t ih=>
    have l:d8 rs bk c q=some (.inl d):=by rw[st q b];exact e
    exact .go l (ih (nx q d b l))
  show (bS (d8 rs bk c) q).getD (.w dW)=(bS (d8 rs a c) q).getD (.w dW)
  rw[tK (st:=d8 rs bk c) (st':=d8 rs a c) (s:=q) (s':=q) fun o=>⟨fun ⟨n,x⟩=>⟨n,u n q o j x⟩,fun ⟨n,x⟩=>⟨n,p n q o j x⟩⟩]
theorem aB6{rs:List Rw}{sg:Nat}{z:List Nat}{c:Nat}(M:Mach rs sg)(S:bD sg z)(b:bR sg c=true):hX [.d (a9 rs z),.d (fY rs (c - 97))]=.ok (.d (a9 rs (z++[c]))):=by
 have h:((List.range rs.length).map fun q:Nat=>begB rs z (q:Int)).length=rs.length:=by simp
 have g:∀ t∈(List.range rs.length).map fun q:Nat=>begB rs z (q:Int),tnV rs.length t:=fun t i=>by
  obtain ⟨q,e,rfl⟩:=A5.mp i
  exact lE M S (aFM (BR.mp e))
 have f:∀ q,c8 rs q->tnV rs.length (bkF ((List.range rs.length).map fun q:Nat=>begB rs z (q:Int)) q):=fun q a=>sL g q
 unfold a9
 rw[aTP M b h g (lE M S (uB M z))]
 rw[aB5 M b (fun q a=>yB a) f (lE M S (uB M z)),zS M S b]
 have j:((List.range rs.length).map fun q:Nat=>onR rs (bkF ((List.range rs.length).map fun q:Nat=>begB rs z (q:Int))) c (.n (q:Int)))=(List.range rs.length).map fun q:Nat=>begB rs (z++[c]) (q:Int):=?_
 .rw[j]
 refine CL fun q e=>?_
 have a:c8 rs (q:Int):=⟨by omega,by have:=BR.mp e;omega⟩
 rw[aB5 M b (fun q a=>yB a) f (t:=.n (q:Int)) a,rO M S b a]
theorem aFN{rs:List Rw}{sg:Nat}(M:Mach rs sg):cD (aY rs)=.ok (rs.map rowD):=j5 (by have:=M.len2;rw[AB];omega)
theorem aKO{α:Type}(rs:List Rw)(f:Rw->α):rs.map f=(List.range rs.length).map fun q:Nat=>f (aP rs (q:Int)):=by
 apply List.ext_getElem
 .simp
 .intro i h1 h2
  have hi:i < rs.length:=by simpa using h1
  simp only[List.getElem_map,FZ]
  congr 1
  unfold aP
  rw[AS,show ((i:Int)).toNat=i by omega,AJ hi];rfl
theorem aTQ{rs:List Rw}{sg:Nat}(M:Mach rs sg):gK [.d (aY rs)]=.ok (.d (a9 rs [])):=by
 have h:=compL_of (fs:=stN 0) (fe:=e2 dIx (rV 0) (eC (.int 0))) (ρ0:=[none]) (d:=rowD) (g:=fun r:Rw=>r.l.d) (xs:=rs) fun r _=>⟨_,rfl,by simp[rowD]⟩
 have e1:a9 rs []=.tuple [(aP rs 0).l.d,.tuple (rs.map fun r=>r.l.d)]:=by
  unfold a9 iC
  rw[sK,aKO rs,BX]
  congr 4
  refine CL fun q _=>?_
  show (fP rs [] (((([]:List Nat).length:Nat):Int),(q:Int))).d=_
  rw[show ((([]:List Nat).length:Nat):Int)=0 by rfl,sK]
 obtain ⟨r,t,a,_⟩:=M.cons
 have b:dIx (.tuple (rs.map fun r=>r.l.d)) (.int 0)=.ok (aP rs 0).l.d:=by
  subst a
  exact rK _ _
 rw[e1]
 unfold gK kN
 simp[aFN M,cJ,h,b]
theorem aRV{rs:List Rw}{sg:Nat}(M:Mach rs sg)(ρ0:Sg)(h:cJ [none,some 0] ρ0=[none,some (.d (aY rs))]) :
  compL (stN 0) fX (eA (bM 2 jF (aA (vV 1) (aA (vV 0) aO)))) (cJ [none,some 0] ρ0) ((List.range sg).map fun i:Nat=>.int (i:Int))=.ok ((List.range sg).map (fY rs)):=by
 rw[h]
 refine compL_of fun k a=>⟨_,rfl,?_⟩
 have:=aOE M (BR.mp a)
 simp[this]
 rfl
def lF(k:Int):Tn->Tn
 | .n q=>.n (q+k)
 | .w x=>.w x
def yC(k:Int)(c:Int×Int):Int×Int:=(c.1+k,c.2)
def movR(k:Int)(r:Rw):Rw:=⟨lF k r.l,r.c.map (yC k),lF k r.r⟩
def m5(w:Str)(b:Tn):Tn->Tn
 | .w x=>if x=w then b else .w x
 | .n q=>.n q
def lG(w:Str)(b h:Tn)(r:Rw):Rw:=⟨m5 w b r.l,r.c,m5 w h r.r⟩
theorem wA{n k m:Int}{t:Tn}(b:0<=k)(h:t.good n)(a:n+k<=m):(lF k t).good m:=by
 cases t with
 | n q=>exact ⟨by have:=h.1;show 0<=q+k;omega,by have:=h.2;show q+k < m;omega⟩
 | w x=>exact h
end Mc
namespace Fl
open PySem L2 PyProof.Rows
@[simp] theorem aVL(i:Nat)(f:Sg->R (List (Dz×Dz)))(ρ:Sg):aAC i f ρ=(f ρ).bind fun kvs=>(iW [] kvs).bind fun res=>.ok (.nx (ρ.set i (some (.m res)))):=id rfl
@[simp] theorem aWO(ρ:Sg):aFF ρ=.ok []:=id rfl
@[simp] theorem aVM(f g:Sg->R Dz)(r:Sg->R (List (Dz×Dz)))(ρ:Sg):aAB f g r ρ=(f ρ).bind fun x=>(g ρ).bind fun y=>(r ρ).bind fun t=>.ok ((x,y)::t):=id rfl
@[simp] theorem aUM(i:Nat)(f g:Sg->R Dz)(ρ:Sg):aQ3 i f g ρ=match ρ[i]? with|some (some (.m kvs))=>(f ρ).bind fun k=>(g ρ).bind fun y=>if cV k (kvs.map (·.1))=true then .ok ((fM kvs k).getD y) else .bad|_=>.bad:=id rfl
end Fl
namespace Mc
open PySem L2 PyProof.Rows Fl
def isW(w:Str):Tn->Bool
 | .w x=>decide (x=w)
 | .n _=>false
theorem aIF{n:Int}{t:Tn}{w:Str}(hw:w="by"\/w="out")(h:t.good n):dEq t.d (.str w)=.ok (.bool (isW w t)):=by
 have a:SeqAt.shaped (.str w)=true:=by rcases hw with rfl|rfl<;>decide +kernel
 cases t with
 | n q=>
  show dEq (.int q) (.str w)=_
  rw[rM (pX q) a]
  simp[PyData.eqv,isW]
 | w x=>
  have b:SeqAt.shaped (.str x)=true:=by rcases h with rfl|rfl<;>decide +kernel
  show dEq (.str x) (.str w)=_
  rw[rM b a,aRN]
  show R.ok (PyData.bool (x == w))=R.ok (PyData.bool (decide (x=w)))
  congr 2
end Mc
namespace Fl
open PySem L2 PyProof.Rows
theorem aRW(i:Nat)(cs:List Str)(g:Str)(ρ:Sg):eXF i cs g ρ=match ρ[i]? with
 | some (some (.x e))=>if cs.contains e.c=true then (match e.fs.lookup g with|some d=>.ok d|none=>.bad) else .bad
 | _=>.bad:=id rfl
theorem aDW(i:Nat)(ρ:Sg):xV i (.nx ρ)=.nx (ρ.set i none):=id rfl
end Fl
namespace Mc
open PySem L2 PyProof.Rows Fl
@[simp] theorem aWP(m i:Nat)(f:Sg->R (List Dz))(ρ:Sg):aBS m i f ρ=match ρ[i]? with|some (some (.g k n G))=>(f ρ).bind fun ds=>if k<=m/\ds.length=n then G ds else .bad|_=>.bad:=id rfl
@[simp] theorem aVN(m i:Nat)(f:Sg->R (List Dz))(ρ:Sg):vP m i f ρ=match ρ[i]? with|some (some (.g k n G))=>(f ρ).bind fun ds=>if k<=m/\ds.length=n then (match G ds with | .ok d=>if sH d=true then .ok d else .bad|_=>.bad) else .bad|_=>.bad:=id rfl
def eZ(fs:List Dz):List (Dz×Dz):=fs.zipIdx.map fun p=>(p.1,.int (p.2:Int))
theorem m7(fs:List Dz):(eZ fs).map (·.1)=fs:=by
 unfold eZ
 rw[BX]
 show fs.zipIdx.map Prod.fst=fs
 exact List.zipIdx_map_fst 0 fs
theorem aDX(fs:List Dz):(eZ fs).length=fs.length:=by unfold eZ;rw[AB,List.length_zipIdx]
theorem yD{fs:List Dz}{x:Dz}:dZ (eZ fs) x=true↔x∈fs:=by rw[tZ,m7]
theorem uD{fs:List Dz}{x:Dz}(h:x∉fs):dZ (eZ fs) x=false:=by
 cases q:dZ (eZ fs) x with
 | false=>rfl
 | true=>exact absurd (yD.mp q) h
theorem aDY{fs:List Dz}{x:Dz}(h:x∉fs):putM (eZ fs) x (.int (fs.length:Int))=eZ (fs++[x]):=by
 unfold putM
 rw[uD h,AC (by decide)]
 unfold eZ
 rw[List.zipIdx_append,BE]
 simp
theorem aDZ{fs:List Dz}{x:Dz}(h:x∈fs):∃ i:Nat,fM (eZ fs) x=some (.int (i:Int))/\fs[i]? = some x:=by
 unfold fM
 cases e:(eZ fs).find? fun p=>decide (p.1=x) with
 | none=>
  rw[List.find?_eq_none] at e
  rw[<-m7 fs,A5] at h
  obtain ⟨p,b,e2⟩:=h
  exact absurd (AZ e2) (e p b)
 | some p=>
  have h1:=List.find?_some e
  have h2:=List.mem_of_find?_eq_some e
  unfold eZ at h2
  obtain ⟨⟨y,i⟩,a,rfl⟩:=A5.mp h2
  refine ⟨i,rfl,?_⟩
  have h1:y=x:=BV h1
  rw[<-h1]
  exact List.mk_mem_zipIdx_iff_getElem?.mp a
structure Srch where
 after:Dz->List Dz
 x0:Dz
 good:Nat->Dz->Prop
 lim:Nat
 k1:Nat
 k2:Nat
 G:List Dz->R Dz
 D:List Dz->R Dz
structure Srch.ok(S:Srch):Prop where
 g0:S.good 0 S.x0
 gs:∀ i x,S.good i x->i<=S.lim->∀ y∈S.after x,S.good (i+1) y
 up:∀ i j x,i<=j->S.good i x->S.good j x
 few:∀ xs:List Dz,xs.Nodup->(∀ x∈xs,∃ i,S.good i x)->xs.length<=S.lim
 key:∀ i x,S.good i x->lU x=true
 hk1:S.k1<=12
 hk2:S.k2<=12
 hG:∀ i x,i<=S.lim->S.good i x->S.G [x]=.ok (.list (S.after x))/\(S.after x).length<=16777216
 hD:∀ (fs:List Dz) (i:Int),fs.length<=S.lim->S.D [.list fs,.int i]=.ok (.bool false)
 hl:S.lim<=16000000
noncomputable def rhF:Sg->R Fw:=(aS (sIf (e1 asB (rD true 4 (eV 7))) (aS (pP 4 (eV 7) (e1 dLen (rV 3)))
 (jX 3 (eV 7))) sNx)
 (jX 6 (sE 4 (eV 7))))
noncomputable def rhT:Sg->R Bool:=(qX (e1 asB (e2 dLt (e1 dLen (rV 5)) (e1 dLen (rV 3)))) (pK (e1 asB (vP 12 2 (aA (rV 3) (aA (e1 dLen (rV 5)) aO))))))
noncomputable def rhB:Sg->R Fw:=(aS (fB 6 (eB aO))
 (aS (jY (e1 cD (aBS 12 1 (aA (e2 dIx (rV 3) (e1 dLen (rV 5))) aO))) (stN 7) rhF)
 (jX 5 (e1 dTup (rV 6)))))
theorem aRX:rG=aS (fB 3 (eB (aA (eV 0) aO))) (aS (aAC 4 (aAB (eV 0) (eC (.int 0)) aFF)) (aS (fB 5 (eB aO)) (aS (b7 rhT rhB) (sFz 5 (sFz 3 (cI (vD (cW (aA (eV 3) (aA (eV 5) aO))))))))) ):=id rfl
def aTR(fs:List Dz)(js:List Nat)(ys:List Dz):Prop:=js.length=ys.length/\∀ (c:Nat) (y:Dz),ys[c]? = some y->∃ j,js[c]? = some j/\fs[j]? = some y
def uE(js:List Nat):Dz:=.tuple (js.map fun j:Nat=>.int (j:Int))
structure Fnd(S:Srch)(fs:List Dz):Prop where
 nd:fs.Nodup
 gd:∀ (i:Nat) (x:Dz),fs[i]? = some x->S.good i x
structure Rchd(S:Srch)(fs:List Dz)(gs:List (List Nat)):Prop where
 fnd:Fnd S fs
 len:gs.length=fs.length
 zer:fs[0]? = some S.x0
 row:∀ (i:Nat) (js:List Nat) (x:Dz),gs[i]? = some js->fs[i]? = some x->aTR fs js (S.after x)
noncomputable def adQ(fs:List Dz)(y:Dz):List Dz:=if y∈fs then fs else fs++[y]
noncomputable def adA(fs ys:List Dz):List Dz:=ys.foldl adQ fs
noncomputable def nrQ(fs:List Dz)(y:Dz):Nat:=fs.idxOf y
theorem oR{fs:List Dz}{y:Dz}(h:y∈fs):adQ fs y=fs:=AD h
theorem mM{fs:List Dz}{y:Dz}(h:y∉fs):adQ fs y=fs++[y]:=AC h
theorem sN(fs:List Dz)(y:Dz):fs <+: adQ fs y:=by
 by_cases h:y∈fs
 · rw [oR h]; exact FG _
 · rw [mM h]; exact List.prefix_append ..
theorem yE(fs:List Dz)(y:Dz):y∈adQ fs y:=by
 by_cases h:y∈fs
 · rw [oR h]; exact h
 · rw [mM h]; simp
theorem aRY{fs:List Dz}{y:Dz}(h:fs.Nodup):(adQ fs y).Nodup:=by
 by_cases q:y∈fs
 .rw[oR q];exact h
 .rw[mM q,EL]
  exact ⟨h,by simp,fun a d b c=>by rw[A4.mp c];rintro rfl;exact q d⟩
theorem aOJ(fs:List Dz)(y:Dz):(adQ fs y).length<=fs.length+1:=by
 by_cases q:y∈fs
 · rw [oR q]; omega
 · rw [mM q]; simp
theorem aKP(fs ys:List Dz)(y:Dz):adA fs (ys++[y])=adQ (adA fs ys) y:=by unfold adA;rw[DY];rfl
theorem yF(ys:List Dz):∀ fs:List Dz,fs <+: adA fs ys:=by
 induction ys with
 | nil=>exact fun fs=>FG _
 | cons y t ih=>exact fun fs=>(sN fs y).trans (ih _)
theorem aB7(ys:List Dz):∀ {fs:List Dz},fs.Nodup->(adA fs ys).Nodup:=by
 induction ys with
 | nil=>exact fun h=>h
 | cons y t ih=>exact fun h=>ih (aRY h)
theorem sO(ys:List Dz):∀ {fs:List Dz} {y:Dz},y∈ys->y∈adA fs ys:=by
 induction ys with
 | nil=>intro fs y h;cases h
 | cons x t ih=>
  intro fs y h
  rcases A2.mp h with rfl|h
  · exact (yF t _).subset (yE fs y)
  · exact ih h
theorem aOK(ys:List Dz):∀ fs:List Dz,(adA fs ys).length<=fs.length+ys.length:=by
 induction ys with
 | nil=>intro fs;exact AG _
 | cons x t ih=>
  intro fs
  have h1:=ih (adQ fs x)
  have h2:=aOJ fs x
  show (adA (adQ fs x) t).length<=fs.length+(t.length+1)
  omega
theorem aD0{fs fs':List Dz}{y:Dz}(h:fs <+: fs')(a:y∈fs):nrQ fs' y=nrQ fs y:=by
 obtain ⟨t,rfl⟩:=h
 unfold nrQ
 rw[List.idxOf_append,AD a]
theorem aB8{fs:List Dz}{y:Dz}(a:y∈fs):fs[nrQ fs y]? = some y:=by
 have h:nrQ fs y < fs.length:=List.idxOf_lt_length_of_mem a
 rw[AJ h]
 exact DG some (List.getElem_idxOf h)
theorem aTS{α:Type}{xs:List α}(h:xs.Nodup){i j:Nat}{x:α}(h1:xs[i]? = some x)(h2:xs[j]? = some x):i=j:=by
 obtain ⟨b,e1⟩:=AM.mp h1
 obtain ⟨a,e2⟩:=AM.mp h2
 rcases GE i j with q|q|q
 · exact absurd (e1.trans e2.symm) (EX.mp h i j b a q)
 · exact q
 · exact absurd (e2.trans e1.symm) (EX.mp h j i a b q)
theorem aOL{fs:List Dz}{y:Dz}(h:fs.Nodup)(a:y∈fs):fM (eZ fs) y=some (.int (nrQ fs y:Int)):=by
 obtain ⟨i,h1,h2⟩:=aDZ a
 rw[h1,aTS h h2 (aB8 a)]
structure Sq where
 after:Dz->List Dz
 x0:Dz
 stop:List Dz->Nat->Bool
 k1:Nat
 k2:Nat
 G:List Dz->R Dz
 D:List Dz->R Dz
noncomputable def bfQ(after:Dz->List Dz)(x0:Dz):Nat->List Dz
 | 0=>[x0]
 | n+1=>match (bfQ after x0 n)[n]? with
  | some x=>adA (bfQ after x0 n) (after x)
  | none=>bfQ after x0 n
theorem m8{after:Dz->List Dz}{x0 x:Dz}{n:Nat}(h:(bfQ after x0 n)[n]? = some x):bfQ after x0 (n+1)=adA (bfQ after x0 n) (after x):=by rw[bfQ,h]
theorem m9(after:Dz->List Dz)(x0:Dz)(n:Nat):bfQ after x0 n <+: bfQ after x0 (n+1):=by
 rw[bfQ]
 split
 · exact yF _ _
 · exact FG _
theorem oS{after:Dz->List Dz}{x0:Dz}{m n:Nat}(h:m<=n):bfQ after x0 m <+: bfQ after x0 n:=by
 obtain ⟨k,rfl⟩:=Nat.le.dest h
 clear h
 induction k with
 | zero=>exact FG _
 | succ k ih=>exact ih.trans (m9 after x0 (m+k))
theorem aIG(after:Dz->List Dz)(x0:Dz)(n:Nat):(bfQ after x0 n).Nodup:=by
 induction n with
 | zero=>simp[bfQ]
 | succ n ih=>
  rw[bfQ]
  split
  · exact aB7 _ ih
  · exact ih
theorem aB9(after:Dz->List Dz)(x0:Dz)(n:Nat):(bfQ after x0 n)[0]? = some x0:=by
 obtain ⟨t,e⟩:=oS (after:=after) (x0:=x0) (CO n)
 rw[<-e];rfl
theorem aCA{α:Type}{f g:List α}{i:Nat}{x:α}(h:f <+: g)(e:f[i]? = some x):g[i]? = some x:=by
 obtain ⟨t,rfl⟩:=h
 rw[BK (AM.mp e).1]
 exact e
theorem zU{α:Type}{f g:List α}{i:Nat}{x:α}(h:f <+: g)(hi:i < f.length)(e:g[i]? = some x):f[i]? = some x:=by
 obtain ⟨t,rfl⟩:=h
 rwa [BK hi] at e
noncomputable def yG(after:Dz->List Dz)(fs:List Dz)(x:Dz):Dz:=uE ((after x).map (nrQ fs))
noncomputable def gM(after:Dz->List Dz)(fs:List Dz)(n:Nat):List Dz:=(fs.take n).map (yG after fs)
structure Sq.ok(S:Sq)(N:Nat):Prop where
 on:∀ m,m < N->m < (bfQ S.after S.x0 m).length/\S.stop (bfQ S.after S.x0 m) m=false
 off:(bfQ S.after S.x0 N).length<=N\/S.stop (bfQ S.after S.x0 N) N=true
 key:(∀ x∈bfQ S.after S.x0 N,lU x=true)\/(∀ x∈bfQ S.after S.x0 N,nW x=true)
 len:(bfQ S.after S.x0 N).length<=16000000
 hk1:S.k1<=12
 hk2:S.k2<=12
 hG:∀ m x,m < N->(bfQ S.after S.x0 N)[m]? = some x->(∃ d,S.G [x]=.ok d/\cD d=.ok (S.after x))/\(S.after x).length<=1000
 hD:∀ m,m<=N->m < (bfQ S.after S.x0 m).length->S.D [.list (bfQ S.after S.x0 m),.int (m:Int)]=.ok (.bool (S.stop (bfQ S.after S.x0 m) m))
theorem aL6{B:List Dz}(h:(∀ x∈B,lU x=true)\/(∀ x∈B,nW x=true)){y:Dz}{fs:List Dz}(b:y∈B)(c:∀ x∈fs,x∈B):cV y ((eZ fs).map (·.1))=true:=by
 unfold cV
 rw[m7,DT,AV,AV,CS,CS]
 exact h.imp (fun h=>⟨h y b,fun x a=>h x (c x a)⟩) (fun h=>⟨h y b,fun x a=>h x (c x a)⟩)
noncomputable def rqρ(S:Sq)(fs:List Dz)(gs:List Dz)(u v:O9 A):Sg:=[some (.d S.x0),some (.g S.k1 1 S.G),some (.g S.k2 2 S.D),some (.l fs),some (.m (eZ fs)),some (.l gs),u,v]
theorem aRZ{S:Sq}{B fs ys gs:List Dz}{v:O9 A}(E:(∀ x∈B,lU x=true)\/(∀ x∈B,nW x=true))(N:B.length<=16000000)(nd:fs.Nodup)(M:adA fs ys <+: B)(O:ys.length<=1000) :
  ∃ v',jN (stN 7) rhF ys (rqρ S fs gs (some (.l [])) v)=.ok (.nx (rqρ S (adA fs ys) gs (some (.l ((ys.map (nrQ (adA fs ys))).map fun j:Nat=>.int (j:Int)))) v')):=by
 obtain ⟨L,D,v',C⟩:=gR (fs:=stN 7) (fb:=rhF) (d:=id) (xs:=ys) (ρ:=rqρ S fs gs (some (.l [])) v)
  (fun i ρ=>∃ v',ρ=rqρ S (adA fs (ys.take i)) gs (some (.l (((ys.take i).map (nrQ (adA fs (ys.take i)))).map fun j:Nat=>.int (j:Int)))) v') ⟨v,rfl⟩ fun i y ρ hi t=>by
  obtain ⟨v',e⟩:=t
  have G:ys.take (i+1)=ys.take i++[y]:=by rw[FA,hi];rfl
  have K:=(AM.mp hi).1
  have a:adA fs (ys.take (i+1)) <+: B:=by
   refine List.IsPrefix.trans ?_ M
   have:adA fs ys=adA (adA fs (ys.take (i+1))) (ys.drop (i+1)):=by
    unfold adA;rw[<-List.foldl_append,List.take_append_drop]
   rw[this];exact yF _ _
  have J:(adA fs (ys.take i)).Nodup:=aB7 _ nd
  have g:(adA fs (ys.take (i+1))).Nodup:=aB7 _ nd
  have s:∀ x∈ys.take (i+1),x∈adA fs (ys.take (i+1)):=fun x b=>sO _ b
  rw[G] at a g s
  rw[G,aKP] at *
  generalize I:adA fs (ys.take i)=F at *
  have f:y∈B:=a.subset (yE F y)
  have q:∀ x∈F,x∈B:=fun x b=>a.subset ((sN F y).subset b)
  have k:F.length < 16777216:=by
   have h1:=a.length_le
   have h2:=(sN F y).length_le
   omega
  have s1:=aL6 E f q
  have z:=aL6 E f (fs:=adQ F y) (fun x b=>a.subset b)
  have p:=aOL g (yE F y)
  have o:(eZ F).length<=16777216:=by rw[aDX];omega
  have u:∀ x∈ys.take i,x∈F:=fun x b=>by rw[<-I];exact sO _ b
  have h:(ys.take i++[y]).map (nrQ (adQ F y))=(ys.take i).map (nrQ F)++[nrQ (adQ F y) y]:=by
   rw[BE,List.map_singleton]
   congr 1
   exact CL fun x b=>aD0 (sN F y) (u x b)
  have m:(ys.take i).length < 16777216:=by rw[BM];omega
  rw[h]
  refine ⟨rqρ S F gs (some (.l (((ys.take i).map (nrQ F)).map fun j:Nat=>.int (j:Int)))) (some (.d y)),_,by rw[e];simp[rqρ],.inl ?_,some (.d y),rfl⟩
  have w:dLen (.list F)=.ok (.int (F.length:Int)):=jS _
  have c:min i ys.length < 16777216:=by rw[BM] at m;exact m
  by_cases n:y∈F
  .have r:=yD.mpr n
   rw[oR n] at z p ⊢
   simp[rhF,rqρ,s1,r,p,c]
  .have r:=uD n
   have H:=aDY n
   rw[mM n] at z p ⊢
   simp[rhF,rqρ,s1,z,r,H,p,w,o,k,c]
 rw[List.map_id] at D
 rw[DJ] at C
 exact ⟨v',by rw[D,C]⟩
theorem Sq.ok.le{S:Sq}{N:Nat}(O:S.ok N){m:Nat}(h:m<=N):bfQ S.after S.x0 m <+: bfQ S.after S.x0 N:=oS h
theorem aD1{S:Sq}{N m:Nat}(O:S.ok N)(h:m<=N){gs:List Dz}(c:gs.length=m){u v:O9 A}:rhT (rqρ S (bfQ S.after S.x0 m) gs u v)=.ok (decide (m < N)):=by
 have k2:=O.hk2
 subst c
 by_cases a:gs.length < (bfQ S.after S.x0 gs.length).length
 .have b:=O.hD _ h a
  have d:S.stop (bfQ S.after S.x0 gs.length) gs.length = !decide (gs.length < N):=by
   by_cases q:gs.length < N
   .rw[(O.on _ q).2,AZ q];rfl
   .have e:gs.length=N:=by omega
    rcases O.off with z|z
    · rw [e] at a; omega
    · rw [A1 q, e]; exact z
  rw[d] at b
  simp[rhT,rqρ,jS,a,k2,b,sH]
 .have:¬ gs.length < N:=fun q=>a (O.on _ q).1
  simp[rhT,rqρ,jS,a,this]
theorem aOM{S:Sq}{N m:Nat}(O:S.ok N)(h:m < N){gs:List Dz}(n:gs.length=m){u v:O9 A}:∃ x u' v',(bfQ S.after S.x0 m)[m]? = some x/\rhB (rqρ S (bfQ S.after S.x0 m) gs u v)=.ok (.nx (rqρ S (bfQ S.after S.x0 (m+1)) (gs++[yG S.after (bfQ S.after S.x0 (m+1)) x]) u' v')):=by
 have c:=(O.on m h).1
 have a:(bfQ S.after S.x0 m)[m]? = some (bfQ S.after S.x0 m)[m]:=AJ c
 generalize (bfQ S.after S.x0 m)[m]=x at a
 have k1:=O.hk1
 obtain ⟨⟨d,i,k⟩,g⟩:=O.hG m x h (aCA (O.le (by omega)) a)
 have e:=m8 a
 have p:adA (bfQ S.after S.x0 m) (S.after x) <+: bfQ S.after S.x0 N:=by rw[<-e];exact O.le (by omega)
 obtain ⟨v',q⟩:=aRZ (S:=S) (gs:=gs) (v:=v) O.key O.len (aIG S.after S.x0 m) p g
 rw[<-e] at q
 have o:dIx (.list (bfQ S.after S.x0 m)) (.int (m:Int))=.ok x:=eD (eK a)
 have f:gs.length < 16777216:=by have:=(O.le (show m<=N by omega)).length_le;have:=O.len;omega
 have b:(S.after x).length<=16777216:=by omega
 refine ⟨x,some (.l (((S.after x).map (nrQ (bfQ S.after S.x0 (m+1)))).map fun j:Nat=>.int (j:Int))),v',a,?_⟩
 subst n
 simp only[rqρ] at q
 simp[rhB,rqρ,jS,o,k1,i,k,q,f,yG,uE,b]
theorem aON{S:Sq}{N:Nat}(O:S.ok N):∀ (k m:Nat) (u v:O9 A),m+k=N->
  ∃ u' v',b7 rhT rhB (rqρ S (bfQ S.after S.x0 m) (gM S.after (bfQ S.after S.x0 m) m) u v)=.ok (.nx (rqρ S (bfQ S.after S.x0 N) (gM S.after (bfQ S.after S.x0 N) N) u' v')):=by
 have b:∀ m,m<=N->(∀ a,a < m->a < (bfQ S.after S.x0 a).length)->m<=(bfQ S.after S.x0 m).length:=fun m f h=>by
  cases m with
  | zero=>omega
  | succ m=>have h1:=h m (by omega);have h2:=(m9 S.after S.x0 m).length_le;omega
 intro k
 induction k with
 | zero=>
  intro m u v f
  have f:m=N:=by omega
  subst f
  have i:=b m (by omega) fun a h=>(O.on a h).1
  have d:(gM S.after (bfQ S.after S.x0 m) m).length=m:=by unfold gM;rw[AB,BM];omega
  rw[d6 (by rw[aD1 O (AG m) d,A1 (by omega)])]
  exact ⟨u,v,rfl⟩
 | succ k ih=>
  intro m u v f
  have c:m < N:=by omega
  have i:=b m (by omega) fun a h=>(O.on a (by omega)).1
  have d:(gM S.after (bfQ S.after S.x0 m) m).length=m:=by unfold gM;rw[AB,BM];omega
  obtain ⟨x,u',v',o,q⟩:=aOM O c d (u:=u) (v:=v)
  rw[g9 (by rw[aD1 O (by omega) d,AZ c]) q]
  have e:gM S.after (bfQ S.after S.x0 m) m++[yG S.after (bfQ S.after S.x0 (m+1)) x]=gM S.after (bfQ S.after S.x0 (m+1)) (m+1):=by
   unfold gM
   have p:(bfQ S.after S.x0 (m+1)).take (m+1)=(bfQ S.after S.x0 m).take m++[x]:=by
    obtain ⟨t,r⟩:=m9 S.after S.x0 m
    have B:=(AM.mp o).1
    rw[<-r,List.take_append_of_le_length (by omega),FA,o];rfl
   rw[p,BE,List.map_singleton]
   congr 1
   refine CL fun y w=>?_
   unfold yG
   congr 1
   refine CL fun z s=>?_
   obtain ⟨j,l⟩:=List.getElem?_of_mem w
   have n:j < m:=by
    have:=(AM.mp l).1
    rw[BM] at this;omega
   rw[List.getElem?_take,AD n] at l
   refine (aD0 (m9 S.after S.x0 m) ?_).symm
   have g:(bfQ S.after S.x0 j)[j]? = some y:=zU (O.le (by omega)) ((O.on j (by omega)).1) (aCA (O.le (by omega)) l)
   have:=sO (fs:=bfQ S.after S.x0 j) _ s
   rw[<-m8 g] at this
   exact (oS (by omega)).subset this
  rw[e]
  exact ih (m+1) u' v' (by omega)
theorem aVO{S:Sq}{N:Nat}(O:S.ok N):kC [.d S.x0,.g S.k1 1 S.G,.g S.k2 2 S.D]=.ok (.d (.tuple [.list (bfQ S.after S.x0 N),.list (gM S.after (bfQ S.after S.x0 N) N)])):=by
 obtain ⟨u,v,q⟩:=aON O N 0 none none (by omega)
 have a:=AW (aB9 S.after S.x0 N)
 have b:cV S.x0 []=true:=by
  unfold cV
  rw[DT,AV,AV]
  exact O.key.imp (fun h=>⟨h _ a,rfl⟩) (fun h=>⟨h _ a,rfl⟩)
 have hi:eZ [S.x0]=[(S.x0,.int 0)]:=rfl
 have c:Fl.iW [] [(S.x0,.int 0)]=.ok [(S.x0,.int 0)]:=by simp[Fl.iW,b,putM,dZ,fM]
 unfold kC
 rw[aRX]
 simp only[rqρ,bfQ,gM,List.take_zero,hi,BJ] at q
 simp[c,q,gM]
end Mc
namespace Fl
open PySem L2 PyProof.Rows
@[simp] theorem aVP(i:Nat)(f g:Sg->R Dz)(ρ:Sg):aTJ i f g ρ=match ρ[i]? with
 | some (some (.m kvs))=>(f ρ).bind fun k=>(g ρ).bind fun y=>if cV k (kvs.map (·.1))=true/\kvs.length<=16777216 then .ok (.nx (if dZ kvs k=true then ρ else ρ.set i (some (.m (putM kvs k y))))) else .bad
 | _=>.bad:=id rfl
@[simp] theorem aWQ(i:Nat)(ρ:Sg):aVE i ρ=match ρ[i]? with
 | some (some (.l xs))=>.ok (.nx (ρ.set i (some (.l xs.reverse))))
 | _=>.bad:=id rfl
end Fl
namespace Mc
open PySem L2 PyProof.Rows Fl
mutual
def nbD:Dz->Bool
 | .bool _=>false
 | .dict _=>false
 | .list xs=>n5 xs
 | .tuple xs=>n5 xs
 | _=>true
def n5:List Dz->Bool
 | []=>true
 | x::t=>nbD x && n5 t
end
theorem aD2:∀ {xs:List Dz},(∀ x∈xs,nbD x=true)->n5 xs=true
 | [],_=>rfl
 | x::t,h=>by
  show (nbD x && n5 t)=true
  rw[h x A0,aD2 fun y a=>h y (AN _ a)];rfl
mutual
theorem wC:∀ d:Dz,d.canLay0=true->d.eqv d=true
 | .none,_=>by rfl
 | .bool b,_=>by simp[PyData.eqv]
 | .int i,_=>by simp[PyData.eqv]
 | .str x,_=>by simp[PyData.eqv]
 | .list xs,h=>by
  show PyData.eqvAll xs xs=true
  exact yH xs h
 | .tuple xs,h=>by
  show PyData.eqvAll xs xs=true
  exact yH xs h
 | .dict _,h=>by cases h
theorem yH:∀ xs:List Dz,PyData.canLayAll0 xs=true->PyData.eqvAll xs xs=true
 | [],_=>by rfl
 | x::t,h=>by
  have h':(x.canLay0 && PyData.canLayAll0 t)=true:=h
  rw[AV] at h'
  show (x.eqv x && PyData.eqvAll t t)=true
  rw[wC x h'.1,yH t h'.2];rfl
end
mutual
theorem aIH:∀ x y:Dz,nbD x=true->nbD y=true->x.eqv y=true->x=y
 | .none,.none,_,_,_=>rfl
 | .int i,.int j,_,_,h=>by simp[PyData.eqv] at h;rw[h]
 | .str i,.str j,_,_,h=>by simp[PyData.eqv] at h;rw[h]
 | .list xs,.list ys,h1,h2,h=>by rw[yI xs ys h1 h2 h]
 | .tuple xs,.tuple ys,h1,h2,h=>by rw[yI xs ys h1 h2 h]
 | .bool _,_,h,_,_=>by cases h
 | .dict _,_,h,_,_=>by cases h
 | _,.bool _,_,h,_=>by cases h
 | _,.dict _,_,h,_=>by cases h
 | .none,.int _,_,_,h=>by simp[PyData.eqv] at h
 | .none,.str _,_,_,h=>by simp[PyData.eqv] at h
 | .none,.list _,_,_,h=>by simp[PyData.eqv] at h
 | .none,.tuple _,_,_,h=>by simp[PyData.eqv] at h
 | .int _,.none,_,_,h=>by simp[PyData.eqv] at h
 | .int _,.str _,_,_,h=>by simp[PyData.eqv] at h
 | .int _,.list _,_,_,h=>by simp[PyData.eqv] at h
 | .int _,.tuple _,_,_,h=>by simp[PyData.eqv] at h
 | .str _,.none,_,_,h=>by simp[PyData.eqv] at h
 | .str _,.int _,_,_,h=>by simp[PyData.eqv] at h
 | .str _,.list _,_,_,h=>by simp[PyData.eqv] at h
 | .str _,.tuple _,_,_,h=>by simp[PyData.eqv] at h
 | .list _,.none,_,_,h=>by simp[PyData.eqv] at h
 | .list _,.int _,_,_,h=>by simp[PyData.eqv] at h
 | .list _,.str _,_,_,h=>by simp[PyData.eqv] at h
 | .list _,.tuple _,_,_,h=>by simp[PyData.eqv] at h
 | .tuple _,.none,_,_,h=>by simp[PyData.eqv] at h
 | .tuple _,.int _,_,_,h=>by simp[PyData.eqv] at h
 | .tuple _,.str _,_,_,h=>by simp[PyData.eqv] at h
 | .tuple _,.list _,_,_,h=>by simp[PyData.eqv] at h
theorem yI:∀ xs ys:List Dz,n5 xs=true->n5 ys=true->PyData.eqvAll xs ys=true->xs=ys
 | [],[],_,_,_=>rfl
 | [],_::_,_,_,h=>by simp[PyData.eqvAll] at h
 | _::_,[],_,_,h=>by simp[PyData.eqvAll] at h
 | x::xs,y::ys,h1,h2,h=>by
  have h1':(nbD x && n5 xs)=true:=h1
  have a:(nbD y && n5 ys)=true:=h2
  have h':(x.eqv y && PyData.eqvAll xs ys)=true:=h
  rw[AV] at h1' a h'
  rw[aIH x y h1'.1 a.1 h'.1,yI xs ys h1'.2 a.2 h'.2]
end
theorem aCB{d:Dz}(h:SeqAt.shaped d=true):d.canLay0=true:=by
 have h':(d.canLay0 && decide (d.depth<=64))=true:=h
 rw[AV] at h'
 exact h'.1
theorem aII{x y:Dz}(hx:nbD x=true)(a:nbD y=true)(l:SeqAt.shaped x=true):x.eqv y=decide (x=y):=by
 by_cases h:x=y
 .subst h;rw[wC x (aCB l),AZ rfl]
 .rw[A1 h]
  cases q:x.eqv y with
  | false=>rfl
  | true=>exact absurd (aIH x y hx a q) h
structure Cp(d:Dz):Prop where
 nb:nbD d=true
 sh:SeqAt.shaped d=true
theorem aR0{x y:Dz}(hx:Cp x)(a:Cp y):dEq x y=.ok (.bool (decide (x=y))):=by rw[rM hx.sh a.sh,aII hx.nb a.nb hx.sh]
theorem aR1{x y:Dz}(hx:Cp x)(a:Cp y):dNe x y=.ok (.bool (!decide (x=y))):=by rw[aH4 hx.sh a.sh,aII hx.nb a.nb hx.sh]
theorem aR2{x:Dz}(h:SeqAt.shaped x=true):dEq x x=.ok (.bool true):=by rw[rM h h,wC x (aCB h)]
theorem aIJ{x:Dz}(h:SeqAt.shaped x=true):dNe x x=.ok (.bool false):=by rw[aH4 h h,wC x (aCB h)];rfl
noncomputable def wρ(rs:List Rw)(f:Tn)(bk:List Tn)(t:Tn)(ps:List Int)(u:O9 A):Sg:=[some (.d (aY rs)),some (.d (iC f bk)),some (.d t.d),some (.m (been PyData.int ps)),u]
theorem aKQ{rs:List Rw}{f:Tn}{bk:List Tn}{x:Str}{ps:List Int}{u:O9 A}:wT (wρ rs f bk (.w x) ps u)=.ok false:=by
 simp[wT,wρ,Tn.d,yA]
theorem aKR{rs:List Rw}{f:Tn}{bk:List Tn}{q:Int}{ps:List Int}{u:O9 A}:wT (wρ rs f bk (.n q) ps u)=.ok true:=by
 simp[wT,wρ,Tn.d,xZ]
theorem aR3{rs:List Rw}{f:Tn}{bk:List Tn}{q:Int}{ps:List Int}{u:O9 A}(h:q∈ps):wB (wρ rs f bk (.n q) ps u)=.ok (.rt (.d (.str "ever"))):=by
 have h1:=jJ ps q
 have h2:=(t9 iN).mpr h
 simp[wB,wρ,Tn.d,h1,h2]
theorem aVQ{rs:List Rw}{f:Tn}{bk:List Tn}{q:Int}{ps:List Int}{u:O9 A}{x:Str}(h:q∉ps)(a:c8 rs q)(g:ps.length<=16777216)(e:(aP rs q).r=.w x):wB (wρ rs f bk (.n q) ps u)=.ok (.nx (wρ rs f bk (.w x) (ps++[q]) (some (.d (.str x))))):=by
 have h1:=jJ ps q
 have h2:=lS iN h
 have c:=uA iN h
 have b:(been PyData.int ps).length<=16777216:=by rw[pW];exact g
 have i:=aIC a.1 a.2
 simp[wB,wρ,Tn.d,h1,h2,c,b,i,rowD,e,yA]
theorem aVR{rs:List Rw}{f:Tn}{bk:List Tn}{q a:Int}{ps:List Int}{u:O9 A}(h:q∉ps)(b:c8 rs q)(g:ps.length<=16777216)(e:(aP rs q).r=.n a)(h0:0<=a)(c:a < (bk.length:Int)):wB (wρ rs f bk (.n q) ps u)=.ok (.nx (wρ rs f bk (bkF bk a) (ps++[q]) (some (.d (.int a))))):=by
 have h1:=jJ ps q
 have h2:=lS iN h
 have k:=uA iN h
 have i:(been PyData.int ps).length<=16777216:=by rw[pW];exact g
 have l:=aIC b.1 b.2
 have j:=aL5 h0 c
 simp[wB,wρ,Tn.d,h1,h2,k,i,l,rowD,e,xZ,iC,j]
theorem pZ{rs:List Rw}{sg:Nat}(M:Mach rs sg){q a:Int}(b:c8 rs q)(e:(aP rs q).r=.n a):0<=a/\a < (rs.length:Int):=by
 have c:=AW (eF b.1 b.2)
 have:=(M.row _ c).1.2.1
 rw[e] at this
 exact this
theorem aOO{rs:List Rw}{sg:Nat}{f:Tn}{bk:List Tn}(M:Mach rs sg)(i:bk.length=rs.length)(k:∀ t∈bk,tnV rs.length t){g:Int}:∀ (n:Nat) (ps:List Int) (q:Int) (u:O9 A),Und2 (c9 rs (bkF bk)) g ps q->(∀ p∈ps,c8 rs p)->c8 rs q->rs.length+1<=ps.length+n->
  aS (b7 wT wB) (cI (vV 2)) (wρ rs f bk (.n q) ps u)=.ok (.rt (.d (.str ((bS (c9 rs (bkF bk)) g).getD dW)))):=by
 intro n
 induction n with
 | zero=>
  intro ps q u U pv a m
  have:=sM U.nd pv
  omega
 | succ n ih=>
  intro ps q u U pv a m
  rw[bK]
  by_cases b:q∈ps
  .rw[rN aKR (aR3 b),U.met b];rfl
  .have o:ps.length<=rs.length:=sM U.nd pv
   have c:ps.length<=16777216:=by have:=M.len2;omega
   cases e:(aP rs q).r with
   | w x=>
    have st:c9 rs (bkF bk) q=some (.inr x):=by unfold c9;rw[e]
    rw[g9 aKR (aVQ b a c e),d6 aKQ,U.outs st]
    simp[wρ,Tn.d]
   | n q'=>
    obtain ⟨l,j⟩:=pZ M a e
    rw[g9 aKR (aVR b a c e l (by rw[i];exact j))]
    have h:=sL k q'
    cases e2:bkF bk q' with
    | w x=>
     have st:c9 rs (bkF bk) q=some (.inr x):=by unfold c9;rw[e];simp only;rw[e2]
     rw[d6 aKQ,U.outs st]
     simp[wρ,Tn.d]
    | n r=>
     rw[e2] at h
     have st:c9 rs (bkF bk) q=some (.inl r):=by unfold c9;rw[e];simp only;rw[e2]
     have:=ih (ps++[q]) r (some (.d (.int q'))) (U.next b st) (fun p c=>by
      rcases BW.mp c with z|z
      · exact pv p z
      · rw [A4.mp z]; exact a) h (by rw [AK, A7]; omega)
     rw[bK] at this
     exact this
theorem aTT{rs:List Rw}{sg:Nat}{f:Tn}{bk:List Tn}(M:Mach rs sg)(b:bk.length=rs.length)(e:∀ t∈bk,tnV rs.length t)(c:tnV rs.length f):eG [.d (aY rs),.d (iC f bk)]=.ok (.d (.str (wbR rs (bkF bk) f))):=by
 have g:dIx (iC f bk) (.int 0)=.ok f.d:=rfl
 have a:aS (b7 wT wB) (cI (vV 2)) (wρ rs f bk f [] none)=.ok (.rt (.d (.str (wbR rs (bkF bk) f)))):=by
  cases f with
  | w x=>
   rw[bK,d6 aKQ]
   simp[wρ,Tn.d,wbR]
  | n q=>exact aOO M b e (rs.length+1) [] q none Und2.start (fun p h=>by simp at h) c (by simp)
 unfold eG
 rw[lX]
 rw[bK] at a
 simp only[wρ,been,BJ] at a
 simp only[eJ,bK,t8,gA,iR,fO,eI,fN,AX,AT,g,R.bind_ok,AY,A9,Nat.reduceAdd,AL,BJ,BT,BQ,List.replicate,A6,A8,a]
theorem aKS{rs:List Rw}{sg:Nat}(M:Mach rs sg){bk a:Int->Tn}(h:∀ q,c8 rs q->bk q=a q)(m:∀ q,c8 rs q->tnV rs.length (bk q)){t:Tn}(g:tnV rs.length t):wbR rs bk t=wbR rs a t:=by
 cases t with
 | w x=>rfl
 | n q=>
  have st:∀ q,c8 rs q->c9 rs bk q=c9 rs a q:=fun q b=>by
   unfold c9
   cases e:(aP rs q).r with
   | w x=>rfl
   | n c=>simp only;rw[h c (pZ M b e)]
  have nx:∀ q c,c8 rs q->c9 rs bk q=some (.inl c)->c8 rs c:=fun q c b e=>by
   unfold c9 at e
   cases e2:(aP rs q).r with
   | w x=>rw[e2] at e;cases e
   | n r=>
    rw[e2] at e
    simp only at e
    have i:=m _ (pZ M b e2)
    split at e
    · rename_i p j; cases e; rw [j] at i; exact i
    · cases e
  have l:∀ n q o,c8 rs q->Ex (c9 rs bk) n q o->Ex (c9 rs a) n q o:=by
   intro n q o b d
   induction d with
   | @out q o e=>exact .out (by rw[<-st q b];exact e)
   | @go q c o n e t ih=>exact .go (by rw[<-st q b];exact e) (ih (nx q c b e))
  have k:∀ n q o,c8 rs q->Ex (c9 rs a) n q o->Ex (c9 rs bk) n q o:=by
   intro n q o b d
   induction d with
   | @out q o e=>exact .out (by rw[st q b];exact e)
   | @go q c o n e t ih=>
    have f:c9 rs bk q=some (.inl c):=by rw[st q b];exact e
    exact .go f (ih (nx q c b f))
  show (bS (c9 rs bk) q).getD dW=(bS (c9 rs a) q).getD dW
  rw[tK (st:=c9 rs bk) (st':=c9 rs a) (s:=q) (s':=q) fun o=>⟨fun ⟨n,x⟩=>⟨n,l n q o g x⟩,fun ⟨n,x⟩=>⟨n,k n q o g x⟩⟩]
theorem aR4{rs:List Rw}{sg:Nat}{z:List Nat}(M:Mach rs sg)(S:bD sg z):eG [.d (aY rs),.d (a9 rs z)]=.ok (.d (.str (iA rs z))):=by
 have e:((List.range rs.length).map fun q:Nat=>begB rs z (q:Int)).length=rs.length:=by simp
 have a:∀ t∈(List.range rs.length).map fun q:Nat=>begB rs z (q:Int),tnV rs.length t:=fun t f=>by
  obtain ⟨q,c,rfl⟩:=A5.mp f
  exact lE M S (aFM (BR.mp c))
 unfold a9
 rw[aTT M e a (lE M S (uB M z)),aKS M (fun q b=>yB b) (fun q b=>sL a q) (lE M S (uB M z)),<-uC M S]
 rfl
theorem aIK{rs:List Rw}{sg:Nat}{z:List Nat}(M:Mach rs sg)(S:bD sg z){s:Int×Int}(V:pY rs z s):(fP rs z s).ok:=by
 have a:(Tn.w dW).ok:=by show PyData.strOk dW=true;decide +kernel
 unfold fP
 cases e:bS (dG rs z) s with
 | none=>exact a
 | some t=>
  obtain ⟨n,h⟩:=gS e
  show t.ok
  clear e
  induction h with
  | @out s o h=>
   unfold dG at h
   rcases beg_cell M S V with ⟨x,e,b⟩|⟨q,e,c,h1,h2⟩
   .rw[e] at h
    cases h
    have f:=AW (eF V.2.2.1 V.2.2.2)
    have:=((M.row _ f).1.ok).1
    unfold cK at e
    rw[AD b] at e
    simp only at e
    rw[e] at this
    exact this
   .rw[e] at h
    simp only at h
    split at h
    · cases h
    · cases h; exact trivial
  | @go s s' o n h t ih=>
   refine ih ?_
   unfold dG at h
   rcases beg_cell M S V with ⟨x,e,b⟩|⟨q,e,c,h1,h2⟩
   .rw[e] at h;cases h
   .rw[e] at h
    simp only at h
    split at h
    · rename_i d; cases h; exact ⟨h1, d, c⟩
    · cases h
theorem aOP{rs:List Rw}{sg:Nat}{z:List Nat}(M:Mach rs sg)(S:bD sg z):(fP rs z (0,0)).ok/\∀ t∈(List.range rs.length).map fun q:Nat=>begB rs z (q:Int),t.ok:=⟨aIK M S (uB M z),fun t b=>by
 obtain ⟨q,a,rfl⟩:=A5.mp b
 exact aIK M S (aFM (BR.mp a))⟩
theorem uF:∀ {xs:List Dz},(∀ x∈xs,fK x=true)->eH xs=true
 | [],_=>rfl
 | x::t,h=>by
  show (fK x && eH t)=true
  rw[h x (A0 ..),uF fun y a=>h y (AN _ a)];rfl
theorem aIL{t:Tn}(h:t.ok):fK t.d=true:=by
 cases t with
 | n i=>rfl
 | w x=>exact h
theorem aOQ{f:Tn}{bk:List Tn}(g:f.ok)(e:∀ t∈bk,t.ok):lU (iC f bk)=true:=by
 have h1:fK (iC f bk)=true:=by
  show eH [f.d,.tuple (bk.map Tn.d)]=true
  refine uF fun x a=>?_
  rcases A2.mp a with z|a
  .rw[z];exact aIL g
  .rw[A4.mp a]
   show eH (bk.map Tn.d)=true
   refine uF fun x a=>?_
   obtain ⟨c,b,rfl⟩:=A5.mp a
   exact aIL (e c b)
 have h2:Sh 3 (iC f bk):=by
  refine qM fun x a=>?_
  rcases A2.mp a with z|a
  .rw[z];exact aLP _ g
  .rw[A4.mp a]
   refine qM fun x a=>?_
   obtain ⟨c,b,rfl⟩:=A5.mp a
   exact aLP _ (e c b)
 show (fK (iC f bk) && decide ((iC f bk).depth<=8))=true
 rw[h1,AZ (BI h2.2 (by decide))];rfl
noncomputable def aCC(rs:List Rw)(x:Dz)(k:Nat):Dz:=match hX [.d x,.d (fY rs k)] with
 | .ok (.d y)=>y
 | _=>.none
theorem yJ{rs:List Rw}{sg k:Nat}{z:List Nat}(M:Mach rs sg)(S:bD sg z)(a:k < sg):aCC rs (a9 rs z) k=a9 rs (z++[97+k]):=by
 have:=aB6 M S (c:=97+k) (by unfold bR;exact AZ (by omega))
 rw[show 97+k - 97=k by omega] at this
 unfold aCC
 rw[this]
def aKT(rs:List Rw)(sg:Nat):Prop:=∀ xs:List Dz,xs.Nodup->(∀ x∈xs,∃ z,bD sg z/\x=a9 rs z)->xs.length<=200
theorem wD{sg k:Nat}{z:List Nat}(S:bD sg z)(d:k < sg)(b:z.length < 1000):bD sg (z++[97+k]):=⟨by simp;omega,fun c a=>by
 rcases BW.mp a with h|h
 · exact S.2 c h
 · rw [A4.mp h]; unfold bR; exact AZ (by omega)⟩
noncomputable def aIM(rs:List Rw)(x:Dz):Dz:=match eG [.d (aY rs),.d x] with
 | .ok (.d y)=>y
 | _=>.none
theorem wE{rs:List Rw}{sg:Nat}{z:List Nat}(M:Mach rs sg)(S:bD sg z):aIM rs (a9 rs z)=.str (iA rs z):=by
 unfold aIM
 rw[aR4 M S]
theorem aR5{rs:List Rw}{sg:Nat}(code:List Nat->Nat)(g:∀ z,bD sg z->code z < 200)(hi:∀ z z',bD sg z->bD sg z'->code z=code z'->a9 rs z=a9 rs z'):aKT rs sg:=fun xs k h=>by
 classical
 let f:Dz->Nat:=fun x=>if h:∃ z,bD sg z/\x=a9 rs z then code h.choose else 0
 have d:∀ x∈xs,∃ z,bD sg z/\x=a9 rs z/\f x=code z:=fun x c=>⟨(h x c).choose,(h x c).choose_spec.1,(h x c).choose_spec.2,dif_pos (h x c)⟩
 refine qO f 200 xs k (fun x c=>?_) (fun a n b m e=>?_)
 .obtain ⟨z,S,_,e⟩:=d x c
  rw[e];exact g z S
 .obtain ⟨z,S,e1,e2⟩:=d a n
  obtain ⟨z',j,l,i⟩:=d b m
  rw[e1,l]
  exact hi z z' S j (by rw[<-e2,<-i];exact e)
def tc(m:Nat):Tn->Nat
 | .n i=>i.toNat
 | .w x=>if x="by" then m else if x="out" then m+1 else m+2
theorem aKU{rs:List Rw}{z a:List Nat}(h1:fP rs z (0,0)=fP rs a (0,0))(h2:∀ q:Nat,q < rs.length->begB rs z (q:Int)=begB rs a (q:Int)):a9 rs z=a9 rs a:=by
 unfold a9
 rw[h1,CL fun q b=>h2 q (BR.mp b)]
theorem aKV{rs:List Rw}{bk:Int->Tn}{c:Nat}{q:Int}(h:(ck (c - 97) (aP rs q)).2=1):onR rs bk c (.n q)=.n (ck (c - 97) (aP rs q)).1:=by
 have:d8 rs bk c q=some (.inr (.n (ck (c - 97) (aP rs q)).1)):=by rw[oQ,AD h]
 show (bS (d8 rs bk c) q).getD (.w dW)=_
 rw[gF this];rfl
structure Ctr(rs:List Rw)(sg p q:Nat):Prop where
 len:rs.length=p+1+q
 p1:1<=p
 p5:p<=5
 q1:1<=q
 q5:q<=5
 lef:(aP rs 0).l=.n 0
 mid:(aP rs (p:Int)).l=.n ((p:Int)+1)
 a:∀ i:Nat,i < p->∀ k,k < sg->ck k (aP rs (i:Int))=((((i+(if k=0 then 1 else 0)) % p:Nat):Int),1)
 b:∀ k,k < sg->ck k (aP rs (p:Int))=((p:Int),-1)
 c:∀ j:Nat,j < q->∀ k,k < sg->ck k (aP rs ((p+1+j:Nat):Int))=(((p+1+(j+(if k=sg - 1 then 1 else 0)) % q:Nat):Int),1)
theorem uG{P:List Nat->Prop}(h0:P [])(a:∀ z c,P z->P (z++[c]))(z:List Nat):P z:=by
 rw[<-List.reverse_reverse z]
 induction z.reverse with
 | nil=>exact h0
 | cons c t ih=>rw[GC];exact a _ _ ih
theorem p4{sg c:Nat}{z:List Nat}(S:bD sg (z++[c])):bD sg z/\bR sg c=true:=⟨⟨by have:=S.1;simp at this;omega,fun c a=>S.2 c (CP _ a)⟩,S.2 c (by simp)⟩
end Mc
namespace Mb
open Classical
section
variable{τ:Type}(g:τ->Nat->τ)(t0:τ)(cs:List Nat)
variable{g t0 cs}
end
end Mb
namespace Mc
open PySem L2 PyProof.Rows Fl
def stD(z:List Nat):Dz:=.str ⟨z.toArray⟩
abbrev PZ:=Dz×List Nat
structure Came(L:List PZ)(D:List (Dz×Dz))(m:Nat):Prop where
 got:∀ (j:Nat) (x:Dz) (z:List Nat),1<=j->j < m->L[j]? = some (x,z)->∃ (i k:Nat) (x':Dz) (z':List Nat),fM D (.int (j:Int))=some (.tuple [.int (i:Int),.str ⟨#[97+k]⟩])/\L[i]? = some (x',z')/\i < j/\z=z'++[97+k]
 new:∀ j:Nat,m<=j->dZ D (.int (j:Int))=false
 key:∀ p∈D.map (·.1),nW p=true
section
variable{after:Dz->List Dz}{x0:Dz}
structure Fto(after:Dz->List Dz)(x0:Dz)(wn:Dz->Bool)(k1 k2:Nat)(G Wn:List Dz->R Dz)(N:Nat):Prop where
 on:∀ m,m < N->m < (bfQ after x0 m).length/\∀ x,(bfQ after x0 m)[m]? = some x->wn x=false
 off:(bfQ after x0 N).length<=N\/∃ x,(bfQ after x0 N)[N]? = some x/\wn x=true
 key:(∀ x∈bfQ after x0 N,lU x=true)\/(∀ x∈bfQ after x0 N,nW x=true)
 len:(bfQ after x0 N).length<=100000
 hN:N<=100000
 hk1:k1<=12
 hk2:k2<=11
 hG:∀ m x,m < N->(bfQ after x0 N)[m]? = some x->(∃ d,G [x]=.ok d/\cD d=.ok (after x))/\(after x).length<=3
 hW:∀ m x,m<=N->(bfQ after x0 N)[m]? = some x->Wn [x]=.ok (.bool (wn x))
end
def rdD(rows:List (List Nat))(ws:List Dz):Dz:=.tuple [.tuple (rows.map uE),.tuple ws]
structure Rdr(rows:List (List Nat))(sg:Nat):Prop where
 n1:1<=rows.length
 n2:rows.length<=1000
 s1:1<=sg
 s3:sg<=3
 row:∀ r∈rows,r.length=sg/\∀ j∈r,j < rows.length
section
variable{rows:List (List Nat)}{sg:Nat}
theorem Rdr.at(M:Rdr rows sg){q:Nat}(a:q < rows.length):rows[q]? = some (rows.getD q [])/\(rows.getD q []).length=sg/\∀ j∈rows.getD q [],j < rows.length:=by
 have e:rows[q]? = some (rows.getD q []):=by rw[AS,AJ a];rfl
 exact ⟨e,M.row _ (AW e)⟩
theorem aOR:∀ {n:Nat} {xs:List Dz},xs.Nodup->(∀ x∈xs,∃ q:Nat,q < n/\x=.int (q:Int))->xs.length<=n:=by
 intro n xs f h
 refine qO (fun x=>match x with | .int q=>q.toNat|_=>0) n xs f (fun x d=>?_) (fun a i b g e=>?_)
 .obtain ⟨q,c,rfl⟩:=h x d
  show ((q:Int)).toNat < n
  omega
 .obtain ⟨q,c,rfl⟩:=h a i
  obtain ⟨r,k,rfl⟩:=h b g
  have j:((q:Int)).toNat=((r:Int)).toNat:=e
  rw[show q=r by omega]
end
def sl(y z:List Nat):Prop:=y.length < z.length\/(y.length=z.length/\List.Lex (· < ·) y z)
section
variable{after:Dz->List Dz}{x0:Dz}
structure FtoC(after:Dz->List Dz)(x0:Dz)(wn:Dz->Bool)(k1 k2:Nat)(G Wn:List Dz->R Dz)(M:Nat):Prop where
 cl:(bfQ after x0 M).length<=M
 hM:M<=100000
 key:(∀ x∈bfQ after x0 M,lU x=true)\/(∀ x∈bfQ after x0 M,nW x=true)
 hk1:k1<=12
 hk2:k2<=11
 hG:∀ x∈bfQ after x0 M,(∃ d,G [x]=.ok d/\cD d=.ok (after x))/\(after x).length<=3
 hW:∀ x∈bfQ after x0 M,Wn [x]=.ok (.bool (wn x))
end
def l5(w:Str):Prop:=w="by"\/w="out"\/w="ever"
structure Rdw(rows:List (List Nat))(ws:List Str)(sg:Nat):Prop where
 r:Rdr rows sg
 wl:ws.length=rows.length
 ww:∀ w∈ws,l5 w
noncomputable def rdW(rows:List (List Nat))(ws:List Str):Dz:=rdD rows (ws.map .str)
section
variable{r1 r2:List (List Nat)}{w1 w2:List Str}{sg:Nat}
theorem Rdw.w(M:Rdw r1 w1 sg){q:Nat}(a:q < r1.length):l5 (w1.getD q "")/\dIx (.tuple (w1.map .str)) (.int (q:Int))=.ok (.str (w1.getD q "")):=by
 have b:=M.wl
 have e:w1[q]? = some (w1.getD q ""):=by rw[AS,AJ (by omega)];rfl
 refine ⟨M.ww _ (AW e),mG (eK ?_)⟩
 rw[AH,e];rfl
end
@[simp] theorem aWR(i:Nat)(f:Sg->R Fw)(ρ:Sg):aVF i f ρ=f (fzM i ρ):=id rfl
@[simp] theorem aXB(i:Nat)(ρ:Sg):fzM i ρ=match ρ[i]? with|some (some (.m kvs))=>ρ.set i (some (.f kvs))|_=>ρ:=id rfl
@[simp] theorem aWS(a:Bool)(i:Nat)(f:Sg->R Dz)(ρ:Sg):aVG a i f ρ=(f ρ).bind fun k=>match ρ[i]? with
 | some (some (.f kvs))=>if cV k (kvs.map (·.1))=true then .ok (.bool (if a=true then !dZ kvs k else dZ kvs k)) else .bad
 | _=>.bad:=id rfl
@[simp] theorem aVS(i:Nat)(f:Sg->R Dz)(ρ:Sg):aTK i f ρ=match ρ[i]? with
 | some (some (.f kvs))=>(f ρ).bind fun k=>if cV k (kvs.map (·.1))=true then (match fM kvs k with
  | some v=>.ok v
  | none=>.bad) else .bad
 | _=>.bad:=id rfl
@[simp] theorem aVT(i:Nat)(ρ:Sg):aTL i ρ=match ρ[i]? with|some (some (.f kvs))=>if kvs.length<=16777216 then .ok (kvs.map (·.1)) else .bad|_=>.bad:=id rfl
section
variable{r1 r2:List (List Nat)}{w1 w2:List Str}{sg:Nat}
end
def l6(rows:List (List Nat))(q c:Nat):Nat:=(rows.getD q []).getD (c - 97) 0
def runN(rows:List (List Nat))(q:Nat)(z:List Nat):Nat:=z.foldl (l6 rows) q
def Sgs(sg:Nat)(z:List Nat):Prop:=∀ c∈z,bR sg c=true
section
variable{rows r1 r2:List (List Nat)}{ws w1 w2:List Str}{sg:Nat}
theorem aIN{c:Nat}(h:bR sg c=true):97<=c/\c - 97 < sg:=by
 unfold bR at h
 have:=BV h
 omega
theorem aD3(M:Rdr rows sg){q c:Nat}(b:q < rows.length)(f:bR sg c=true):(rows.getD q [])[c - 97]? = some (l6 rows q c)/\l6 rows q c < rows.length:=by
 have a:=M.at b
 have h:=aIN f
 have d:c - 97 < (rows.getD q []).length:=by rw[a.2.1];exact h.2
 have e:(rows.getD q [])[c - 97]? = some (l6 rows q c):=by
  unfold l6
  generalize rows.getD q []=r at *
  rw[AS,AJ d];rfl
 exact ⟨e,a.2.2 _ (AW e)⟩
theorem oU(M:Rdr rows sg):∀ (z:List Nat) {q:Nat},Sgs sg z->q < rows.length->runN rows q z < rows.length
 | [],_,_,h=>h
 | c::t,_,hs,h=>oU M t (fun c a=>hs c (AN _ a)) (aD3 M h (hs c A0)).2
def EqI(rows:List (List Nat))(ws:List Str)(sg i x y:Nat):Prop:=∀ w,Sgs sg w->w.length<=i->ws.getD (runN rows x w) ""=ws.getD (runN rows y w) ""
end
section
variable{rows:List (List Nat)}{ws:List Str}{sg:Nat}
def EqA(rows:List (List Nat))(ws:List Str)(sg x y:Nat):Prop:=∀ w,Sgs sg w->ws.getD (runN rows x w) ""=ws.getD (runN rows y w) ""
end
section
variable{rows:List (List Nat)}{ws:List Str}{sg:Nat}{L:List Nat}
structure Lk(rows:List (List Nat))(ws:List Str)(sg:Nat)(L:List Nat):Prop where
 len:L.length=rows.length
 at_:∀ x,x < rows.length->L[x]? = some (L.getD x 0)/\L.getD x 0<=x/\EqA rows ws sg x (L.getD x 0)/\∀ b,b < L.getD x 0->¬ EqA rows ws sg (L.getD x 0) b
noncomputable def afL(rows:List (List Nat))(L:List Nat):Dz->List Dz
 | .int q=>(rows.getD q.toNat []).map fun j=>.int (L.getD j 0:Int)
 | _=>[]
structure Lst(rows:List (List Nat))(ws:List Str)(L:List Nat)(N:Nat):Prop where
 len:(bfQ (afL rows L) (.int 0) N).length=N
 on:∀ m,m < N->m < (bfQ (afL rows L) (.int 0) m).length
 le:N<=rows.length
end
section
variable{rows:List (List Nat)}{ws:List Str}{sg:Nat}{L:List Nat}{N:Nat}
theorem aIO{after:Dz->List Dz}{x0 x y:Dz}{n:Nat}(g:(bfQ after x0 n).length<=n)(hx:x∈bfQ after x0 n)(i:y∈after x):y∈bfQ after x0 n:=by
 obtain ⟨m,f⟩:=List.getElem?_of_mem hx
 have b:=(AM.mp f).1
 have a:m < n:=A3 b g
 by_cases h:m < (bfQ after x0 m).length
 .have:=zU (oS (DA a)) h f
  have e:=m8 this
  have c:y∈bfQ after x0 (m+1):=by rw[e];exact sO _ i
  exact (oS (show m+1<=n by omega)).subset c
 .exfalso
  have d:∀ k,(bfQ after x0 (m+k))=bfQ after x0 m:=by
   intro k
   induction k with
   | zero=>rfl
   | succ k ih=>
    have:(bfQ after x0 (m+k))[m+k]? = none:=by rw[ih];exact C9 (by omega)
    rw[<-Nat.add_assoc,bfQ,this]
    exact ih
  obtain ⟨k,rfl⟩:=Nat.le.dest (DA a)
  rw[d k] at b
  omega
end
end Mc
namespace Fl
open PySem L2 PyProof.Rows
noncomputable def aOS(i j:Nat)(f g:Sg->R Dz):Sg->R Fw:=fun ρ=>match ρ[i]? with
 | some (some (.l xs))=>match ρ[j]? with
  | some (some (.m kvs))=>(f ρ).bind fun k=>(g ρ).bind fun y=>if cV k (kvs.map (·.1))=true/\kvs.length<=16777216/\xs.length < 16777216/\i≠j then
   .ok (.nx ((ρ.set j (some (.m (match fM kvs k with|some _=>kvs|none=>putM kvs k y)))).set i (some (.l (xs++[(fM kvs k).getD y]))))) else .bad
  | _=>.bad
 | _=>.bad
@[simp] theorem aTU(i j:Nat)(f g:Sg->R Dz)(ρ:Sg):aOS i j f g ρ=match ρ[i]? with
 | some (some (.l xs))=>match ρ[j]? with
  | some (some (.m kvs))=>(f ρ).bind fun k=>(g ρ).bind fun y=>if cV k (kvs.map (·.1))=true/\kvs.length<=16777216/\xs.length < 16777216/\i≠j then
   .ok (.nx ((ρ.set j (some (.m (match fM kvs k with|some _=>kvs|none=>putM kvs k y)))).set i (some (.l (xs++[(fM kvs k).getD y]))))) else .bad
  | _=>.bad
 | _=>.bad:=id rfl
@[simp] theorem aVU(i:Nat)(ρ:Sg):vU i ρ=match ρ[i]? with
 | some (some (.m kvs))=>if kvs.length<=16777216 then .ok (.int (kvs.length:Int)) else .bad
 | some (some (.f kvs))=>if kvs.length<=16777216 then .ok (.int (kvs.length:Int)) else .bad
 | _=>.bad:=id rfl
end Fl
namespace Mc
open PySem L2 PyProof.Rows Fl
section
variable{rows:List (List Nat)}{ws:List Str}{sg:Nat}
def kOk(d:Dz):Prop:=(∃ i,d=.int i)\/∃ w,l5 w/\d=.str w
structure Kd(rows:List (List Nat))(ws:List Str)(sg i:Nat)(κ:Nat->Dz):Prop where
 ok:∀ x,x < rows.length->kOk (κ x)
 iff:∀ x y,x < rows.length->y < rows.length->(κ x=κ y↔EqI rows ws sg i x y)
end
noncomputable def afW(rs:List Rw)(sg:Nat)(x:Dz):List Dz:=(List.range sg).map (aCC rs x)
noncomputable def bfW(rs:List Rw)(sg n:Nat):List Dz:=bfQ (afW rs sg) (a9 rs []) n
noncomputable def adZ(rs:List Rw)(zs:List (List Nat))(z:List Nat):List (List Nat):=if a9 rs z∈zs.map (a9 rs) then zs else zs++[z]
def sP(sg:Nat)(z:List Nat):List (List Nat):=(List.range sg).map fun k=>z++[97+k]
noncomputable def zsW(rs:List Rw)(sg:Nat):Nat->List (List Nat)
 | 0=>[[]]
 | n+1=>match (zsW rs sg n)[n]? with
  | some z=>(sP sg z).foldl (adZ rs) (zsW rs sg n)
  | none=>zsW rs sg n
theorem aOT(rs:List Rw)(zs:List (List Nat))(z:List Nat):(adZ rs zs z).map (a9 rs)=adQ (zs.map (a9 rs)) (a9 rs z):=by
 unfold adZ adQ
 split
 · rfl
 · rw [BE]; rfl
theorem aKW(rs:List Rw)(l:List (List Nat)):∀ zs:List (List Nat),(l.foldl (adZ rs) zs).map (a9 rs)=adA (zs.map (a9 rs)) (l.map (a9 rs)):=by
 induction l with
 | nil=>intro zs;rfl
 | cons z t ih=>intro zs;rw[EW,ih,aOT];rfl
theorem adZ_mem{rs:List Rw}{zs:List (List Nat)}{z x:List Nat}(h:x∈adZ rs zs z):x∈zs\/x=z:=by
 unfold adZ at h
 split at h
 .exact .inl h
 .rcases BW.mp h with h|h
  · exact .inl h
  · exact .inr (A4.mp h)
theorem adZs_mem{rs:List Rw}{x:List Nat}(l:List (List Nat)):∀ {zs:List (List Nat)},x∈l.foldl (adZ rs) zs->x∈zs\/x∈l:=by
 induction l with
 | nil=>intro zs h;exact .inl h
 | cons z t ih=>
  intro zs h
  rcases ih (zs:=adZ rs zs z) h with h|h
  .rcases adZ_mem h with h|h
   · exact .inl h
   · exact .inr (by rw [h]; exact A0)
  .exact .inr (AN _ h)
theorem aCD{rs:List Rw}{sg:Nat}{z:List Nat}(M:Mach rs sg)(S:bD sg z):(sP sg z).map (a9 rs)=afW rs sg (a9 rs z):=by
 unfold sP afW
 rw[BX]
 exact CL fun k a=>(yJ M S (BR.mp a)).symm
structure ZsOk(rs:List Rw)(sg n:Nat)(zs:List (List Nat)):Prop where
 map:zs.map (a9 rs)=bfW rs sg n
 ok:∀ z∈zs,bD sg z/\z.length<=n
theorem aOU{sg n:Nat}{z x:List Nat}(S:bD sg z)(b:z.length<=n)(c:n < 900)(h:x∈sP sg z):bD sg x/\x.length<=n+1:=by
 obtain ⟨k,a,rfl⟩:=A5.mp h
 exact ⟨wD S (BR.mp a) (by omega),by simp;omega⟩
theorem rP{rs:List Rw}{sg:Nat}(M:Mach rs sg):∀ n,n<=900->ZsOk rs sg n (zsW rs sg n):=by
 intro n
 induction n with
 | zero=>exact fun _=>⟨rfl,fun z a=>by rw[A4.mp a];exact ⟨⟨by simp,fun c d=>by simp at d⟩,by simp⟩⟩
 | succ n ih=>
  intro f
  obtain ⟨h1,h2⟩:=ih (by omega)
  unfold bfW at h1
  have e:(bfQ (afW rs sg) (a9 rs []) n)[n]? = ((zsW rs sg n)[n]?).map (a9 rs):=by rw[<-h1,AH]
  cases q:(zsW rs sg n)[n]? with
  | none=>
   rw[q] at e
   refine ⟨?_,fun z a=>?_⟩
   .unfold bfW
    rw[zsW,bfQ,q,e];exact h1
   .rw[zsW,q] at a
    have:=h2 z a
    exact ⟨this.1,by omega⟩
  | some z=>
   rw[q] at e
   have a:=h2 z (AW q)
   refine ⟨?_,fun x b=>?_⟩
   .unfold bfW
    rw[zsW,bfQ,q,e]
    simp only[GY]
    rw[aKW,h1,aCD M a.1]
   .rw[zsW,q] at b
    rcases adZs_mem _ b with b|b
    .have:=h2 x b
     exact ⟨this.1,by omega⟩
    .exact aOU a.1 a.2 (by omega) b
structure EndW(rs:List Rw)(sg most N:Nat):Prop where
 on:∀ m,m < N->m < (bfW rs sg m).length/\(bfW rs sg m).length<=most
 off:(bfW rs sg N).length<=N\/most < (bfW rs sg N).length
theorem aKX{P:Nat->Prop}:∀ K:Nat,P K->∃ n,n<=K/\P n/\∀ m,m < n->¬ P m:=by
 intro K
 induction K using Nat.strongRecOn with
 | _ K ih=>
  intro h
  by_cases q:∃ m,m < K/\P m
  .obtain ⟨m,h1,h2⟩:=q
   obtain ⟨n,a,b,c⟩:=ih m h1 h2
   exact ⟨n,by omega,b,c⟩
  .exact ⟨K,AG _,h,fun m d e=>q ⟨m,d,e⟩⟩
theorem aD4(rs:List Rw)(sg a:Nat):∃ N,N<=a/\EndW rs sg a N:=by
 obtain ⟨n,h1,h2,b⟩:=aKX (P:=fun n=>(bfW rs sg n).length<=n\/a < (bfW rs sg n).length) a (by omega)
 exact ⟨n,h1,fun m c=>by have:=b m c;omega,h2⟩
theorem EndW.full{rs:List Rw}{sg a N:Nat}(E:EndW rs sg a N)(h:(bfW rs sg N).length<=a):(bfW rs sg N).length=N:=by
 rcases E.off with q|q
 .cases N with
  | zero=>have:(bfW rs sg 0).length=1:=rfl;omega
  | succ n=>
   have h1:=(E.on n (by omega)).1
   have h2:(bfW rs sg n).length<=(bfW rs sg (n+1)).length:=(m9 _ _ n).length_le
   omega
 .omega
noncomputable def aVV(rs:List Rw)(sg:Nat):Sq where
 after:=afW rs sg
 x0:=a9 rs []
 stop fs _:=decide (200 < fs.length)
 k1:=4
 k2:=1
 G:=kM 2 d3 [.d (.list ((List.range sg).map (fY rs)))]
 D:=kM 2 fC []
theorem rQ{rs:List Rw}{sg n:Nat}(M:Mach rs sg)(a:n<=900){x:Dz}(h:x∈bfW rs sg n):∃ z,bD sg z/\x=a9 rs z:=by
 obtain ⟨h1,h2⟩:=rP M n a
 rw[<-h1] at h
 obtain ⟨z,b,rfl⟩:=A5.mp h
 exact ⟨z,(h2 z b).1,rfl⟩
theorem aIP{rs:List Rw}{sg:Nat}{z:List Nat}(M:Mach rs sg)(S:bD sg z):lU (a9 rs z)=true:=by
 obtain ⟨a,b⟩:=aOP M S
 exact aOQ a b
theorem aD5{rs:List Rw}{sg a N:Nat}(M:Mach rs sg)(E:EndW rs sg a N)(e:1<=a):(bfW rs sg N).length<=a+3:=by
 cases N with
 | zero=>show 1<=a+3;omega
 | succ n=>
  obtain ⟨h1,h2⟩:=E.on n (by omega)
  have b:(bfQ (afW rs sg) (a9 rs []) n)[n]? = some (bfQ (afW rs sg) (a9 rs []) n)[n]:=AJ h1
  have c:=aOK (afW rs sg (bfQ (afW rs sg) (a9 rs []) n)[n]) (bfQ (afW rs sg) (a9 rs []) n)
  rw[<-m8 b] at c
  have d:(afW rs sg (bfQ (afW rs sg) (a9 rs []) n)[n]).length=sg:=by unfold afW;simp
  have:=M.sg3
  unfold bfW at h2 ⊢
  omega
theorem aOV{rs:List Rw}{sg N:Nat}(M:Mach rs sg)(E:EndW rs sg 200 N)(j:N<=200):(aVV rs sg).ok N where
 on m h:=⟨(E.on m h).1,A1 (by have:=(E.on m h).2;unfold bfW at this;show ¬ 200 < (bfQ (afW rs sg) (a9 rs []) m).length;omega)⟩
 off:=E.off.imp id fun h=>AZ h
 key:=.inl fun x a=>by
  obtain ⟨z,S,rfl⟩:=rQ M (by omega) (show x∈bfW rs sg N from a)
  exact aIP M S
 len:=by have:=aD5 M E (by omega);show (bfW rs sg N).length<=_;omega
 hk1:=by show 4<=12;decide
 hk2:=by show 1<=12;decide
 hG m x hm a:=by
  obtain ⟨z,S,rfl⟩:=rQ M (show N<=900 by omega) (AW a)
  have f:=compL_of (fs:=stN 0) (fe:=eA (bM 2 hX (aA (vV 1) (aA (vV 0) aO)))) (ρ0:=[none,some (.d (a9 rs z))]) (d:=fY rs) (g:=aCC rs (a9 rs z)) (xs:=List.range sg) fun k b=>by
   refine ⟨_,rfl,?_⟩
   have b:=BR.mp b
   have:=aB6 M S (c:=97+k) (by unfold bR;exact AZ (by omega))
   rw[show 97+k - 97=k by omega,<-yJ M S b] at this
   simp[this]
  have hi:=lB (xs:=(List.range sg).map (fY rs)) (by have:=M.sg3;simp;omega)
  have e:(afW rs sg (a9 rs z)).length=sg:=by unfold afW;simp
  have i:=M.sg3
  refine ⟨⟨.list (afW rs sg (a9 rs z)),?_,lB (by omega)⟩,by show (afW rs sg (a9 rs z)).length<=_;omega⟩
  show kM 2 d3 [.d (.list ((List.range sg).map (fY rs)))] [a9 rs z]=_
  unfold kM d3
  simp[hi,cJ,f,dOf]
  rfl
 hD m hm e:=by
  show kM 2 fC [] [.list (bfW rs sg m),.int (m:Int)]=.ok (.bool (decide (200 < (bfW rs sg m).length)))
  unfold kM fC
  simp[jS,dOf]
  omega
noncomputable def aFO(rs:List Rw)(sg N:Nat):Dz:=.tuple [.tuple (gM (afW rs sg) (bfW rs sg N) N),.tuple ((zsW rs sg N).map fun z=>.str (iA rs z))]
theorem aIQ{rs:List Rw}{sg N:Nat}(M:Mach rs sg)(E:EndW rs sg 200 N)(x:N<=200):fS [.d (aY rs)]=if 200 < (bfW rs sg N).length then .ex ⟨"TooMany",[]⟩ else .ok (.d (aFO rs sg N)):=by
 have O:=aOV M E x
 have e:=aVO O
 obtain ⟨r,t,j,w⟩:=M.cons
 have c:gI [.d (aY rs)]=.ok (.d (.int sg)):=by rw[j,aDV,w]
 have b:=nM (n:=sg) (by have:=M.sg3;omega)
 have l:=aRV M [some (.d (aY rs)),none,none,none,none] rfl
 rw[show cJ [none,some 0] [some (.d (aY rs)),none,none,none,none]=[none,some (.d (aY rs))] from rfl] at l
 have p:=aTQ M
 have Z:=rP M N (by omega)
 have a:=compL_of (fs:=stN 0) (fe:=eA (bM 2 eG (aA (vV 1) (aA (vV 0) aO)))) (ρ0:=[none,some (.d (aY rs))]) (d:=a9 rs) (g:=fun z=>.str (iA rs z)) (xs:=zsW rs sg N) fun z u=>by
  refine ⟨_,rfl,?_⟩
  have:=aR4 M (Z.ok z u).1
  simp[this]
 rw[Z.map] at a
 have s:=aD5 M E (by omega)
 have k:=lB (xs:=bfW rs sg N) (by omega)
 have e:kC [.d (a9 rs []),.g 4 1 (kM 2 d3 [.d (.list ((List.range sg).map (fY rs)))]),.g 1 2 (kM 2 fC [])]=.ok (.d (.tuple [.list (bfW rs sg N),.list (gM (afW rs sg) (bfW rs sg N) N)])):=e
 generalize f:gM (afW rs sg) (bfW rs sg N) N=i at e
 have v:i.length<=16777216:=by rw[<-f];unfold gM;rw[AB,BM];omega
 have q:dIx (.tuple [.list (bfW rs sg N),.list i]) (.int 0)=.ok (.list (bfW rs sg N)):=rfl
 have o:dIx (.tuple [.list (bfW rs sg N),.list i]) (.int 1)=.ok (.list i):=rfl
 have y:(zsW rs sg N).length<=16777216:=by
  have:((zsW rs sg N).map (a9 rs)).length<=16777216:=by rw[Z.map];omega
  rwa [AB] at this
 by_cases h:200 < (bfW rs sg N).length
 .have m:(200:Int) < ((bfW rs sg N).length:Int):=by omega
  rw[AD h]
  unfold fS nK
  simp[c,b,l,p,aAD,rE,vS,aBW,iG,vQ,e,dOf,q,o,jS,m,xX,few,cJ]
 .have m:¬ (200:Int) < ((bfW rs sg N).length:Int):=by omega
  rw[AC h]
  unfold fS nK aFO
  rw[f]
  simp[c,b,l,p,aAD,rE,vS,aBW,iG,vQ,e,dOf,q,o,jS,m,k,cJ,a]
structure Sml(rs:List Rw)(sg N:Nat):Prop where
 m:Mach rs sg
 e:EndW rs sg 40 N
 n:N<=40
 few:(bfW rs sg N).length<=40
 s2:sg<=2
 r5:rs.length<=5
section
variable{rs:List Rw}{sg N:Nat}
structure Wy(rs:List Rw)(sg N:Nat):Prop where
 m:Mach rs sg
 len:(bfW rs sg N).length=N
 n:N<=200
noncomputable def iD(rs:List Rw)(sg N:Nat):List (List Nat):=(bfW rs sg N).map fun x=>(afW rs sg x).map (nrQ (bfW rs sg N))
noncomputable def jU(rs:List Rw)(sg N:Nat):List Str:=(zsW rs sg N).map (iA rs)
theorem aR6(W:Wy rs sg N):aFO rs sg N=rdW (iD rs sg N) (jU rs sg N):=by
 unfold aFO rdW rdD gM iD jU yG
 rw[DK (by rw[W.len];exact AG _),BX,BX]
 rfl
theorem aVW(W:Wy rs sg N)(E:EndW rs sg 200 N):fS [.d (aY rs)]=.ok (.d (rdW (iD rs sg N) (jU rs sg N))):=by
 have h:=aIQ W.m E W.n
 rw[AC (by have:=W.len;have:=W.n;omega),aR6 W] at h
 exact h
theorem Wy.pos(W:Wy rs sg N):0 < N:=by
 have:=W.len
 cases N with
 | zero=>simp[bfW,bfQ] at this
 | succ n=>omega
theorem Wy.zlen(W:Wy rs sg N):(zsW rs sg N).length=N:=by
 have h:=(rP W.m N (by have:=W.n;omega)).map
 have:=DG List.length h
 rw[AB,W.len] at this
 exact this
theorem Wy.at_(W:Wy rs sg N){i:Nat}(hi:i < N):∃ z,(zsW rs sg N)[i]? = some z/\(bfW rs sg N)[i]? = some (a9 rs z)/\bD sg z/\z.length<=N:=by
 have ok:=rP W.m N (by have:=W.n;omega)
 have b:=W.zlen
 have a:(zsW rs sg N)[i]? = some (zsW rs sg N)[i]:=AJ (by omega)
 refine ⟨_,a,?_,ok.ok _ (FF _)⟩
 rw[<-ok.map,AH,a];rfl
theorem Wy.rows_len(W:Wy rs sg N):(iD rs sg N).length=N:=by unfold iD;rw[AB,W.len]
theorem Wy.on(W:Wy rs sg N){i c:Nat}{z:List Nat}(hi:(bfW rs sg N)[i]? = some (a9 rs z))(S:bD sg z)(h:z.length < 1000)(f:bR sg c=true) :
  l6 (iD rs sg N) i c < N/\(bfW rs sg N)[l6 (iD rs sg N) i c]? = some (a9 rs (z++[c])):=by
 obtain ⟨j,d⟩:=aIN f
 have a:=yJ W.m S (k:=c - 97) d
 rw[show 97+(c - 97)=c by omega] at a
 have g:a9 rs (z++[c])∈bfW rs sg N:=aIO (by have:=W.len;unfold bfW at this;omega) (AW hi) (by
  unfold afW
  exact A5.mpr ⟨c - 97,BR.mpr d,a⟩)
 have e:l6 (iD rs sg N) i c=nrQ (bfW rs sg N) (a9 rs (z++[c])):=by
  unfold l6 iD
  rw[AS (l:=List.map _ _),AH,hi]
  show ((afW rs sg (a9 rs z)).map (nrQ (bfW rs sg N))).getD (c - 97) 0=_
  unfold afW
  rw[AS,AH,AH,BD d]
  show nrQ (bfW rs sg N) (aCC rs (a9 rs z) (c - 97))=_
  rw[a]
 have b:=aB8 g
 rw[e]
 exact ⟨by have:=(AM.mp b).1;have:=W.len;omega,b⟩
theorem aCR(M:Mach rs sg){z b:List Nat}(S:bD sg z)(c:bD sg b)(h:a9 rs z=a9 rs b):iA rs z=iA rs b:=by
 have a:=wE M S
 rw[h,wE M c] at a
 injection a with a
 exact a.symm
theorem Wy.word(W:Wy rs sg N){i:Nat}{z:List Nat}(hi:(bfW rs sg N)[i]? = some (a9 rs z))(S:bD sg z):(jU rs sg N).getD i ""=iA rs z:=by
 have a:=(AM.mp hi).1
 rw[W.len] at a
 obtain ⟨c,h1,h2,b,_⟩:=W.at_ a
 rw[hi] at h2
 unfold jU
 rw[AS,AH,h1]
 exact aCR W.m b S (BU h2).symm
end
section
variable{rows:List (List Nat)}{ws:List Str}{sg:Nat}
theorem aFP(M:Rdr rows sg){wd:List Dz}{q:Nat}(s:q < rows.length){z:List Nat}(j:Sgs sg z)(C:z.length<=1000):eS [.d (rdD rows wd),.d (.int (q:Int)),.d (stD z)]=.ok (.d (.int (runN rows q z:Int))):=by
 have b:cD (stD z)=.ok (z.map fun u:Nat=>PyData.str ⟨#[u]⟩):=by
  have:=aKI (z:=⟨z.toArray⟩) (by simpa using (by omega:z.length<=16777216))
  simpa[stD] using this
 obtain ⟨A,h,u,rfl⟩:=gR (fs:=stN 3) (fb:=(bU 1 (vD (e2 dIx (e2 dIx (e2 dIx (rV 0) (eC (.int 0))) (rV 1)) (e2 rC (eC (.str "abc")) (rV 3)))))) (d:=fun u:Nat=>PyData.str ⟨#[u]⟩) (xs:=z) (ρ:=[some (.d (rdD rows wd)),some (.d (.int (q:Int))),some (.d (stD z)),none])
  (fun i ρ=>∃ u,ρ=[some (.d (rdD rows wd)),some (.d (.int (runN rows q (z.take i):Int))),some (.d (stD z)),u]) ⟨none,rfl⟩ fun i c ρ k g=>by
  obtain ⟨u,e⟩:=g
  have f:=AW k
  have l:=j c f
  have a:runN rows q (z.take i) < rows.length:=oU M _ (fun x y=>j x (FT y)) s
  obtain ⟨o,B⟩:=aD3 M a l
  obtain ⟨n,_⟩:=M.at a
  have v:z.take (i+1)=z.take i++[c]:=by rw[G5,k];rfl
  have p:runN rows q (z.take (i+1))=l6 rows (runN rows q (z.take i)) c:=by unfold runN;rw[v,DY];rfl
  have r:dIx (rdD rows wd) (.int 0)=.ok (.tuple (rows.map uE)):=rfl
  have m:dIx (.tuple (rows.map uE)) (.int (runN rows q (z.take i):Int))=.ok (uE (rows.getD (runN rows q (z.take i)) [])):=mG (eK (by rw[AH,n];rfl))
  have w:dIx (uE (rows.getD (runN rows q (z.take i)) [])) (.int ((c - 97:Nat):Int))=.ok (.int (l6 rows (runN rows q (z.take i)) c:Int)):=mG (eK (by rw[AH,o];rfl))
  have id:=aOF (aKK M.s3 l)
  refine ⟨[some (.d (rdD rows wd)),some (.d (.int (runN rows q (z.take i):Int))),some (.d (stD z)),some (.d (.str ⟨#[c]⟩))],_,by rw[e];rfl,.inl ?_,some (.d (.str ⟨#[c]⟩)),rfl⟩
  rw[p]
  generalize rows.getD (runN rows q (z.take i)) []=t at *
  simp[r,m,w,id]
 rw[DJ] at h
 unfold eS n4
 simp[b,h]
def itR(rows:List (List Nat))(q:Nat)(z:List Nat):Nat->Nat
 | 0=>q
 | k+1=>runN rows (itR rows q z k) z
theorem wF(M:Rdr rows sg){q:Nat}(hq:q < rows.length){z:List Nat}(hz:Sgs sg z):∀ k,itR rows q z k < rows.length
 | 0=>hq
 | k+1=>oU M z hz (wF M hq hz k)
theorem aD6(rows:List (List Nat))(q:Nat)(z:List Nat):∀ k,itR rows q z k=runN rows q (List.replicate k z).flatten
 | 0=>rfl
 | k+1=>by
  rw[itR,aD6 rows q z k,List.replicate_succ',List.flatten_concat]
  unfold runN
  rw[DY]
theorem aOW{q:Nat}{z:List Nat}{s m:Nat}(h:itR rows q z m=itR rows q z s)(a:s<=m):∀ k,s<=k->itR rows q z (k+(m - s))=itR rows q z k:=by
 intro k c
 induction k with
 | zero=>
  have:s=0:=by omega
  subst this
  simpa using h
 | succ k ih=>
  by_cases b:s<=k
  .rw[show k+1+(m - s)=(k+(m - s))+1 by omega,itR,itR,ih b]
  .have:s=k+1:=by omega
   subst this
   rw[show k+1+(m - (k+1))=m by omega]
   exact h
noncomputable def psN(rows:List (List Nat))(q:Nat)(z:List Nat)(m:Nat):List Dz:=(List.range m).map fun k=>.int (itR rows q z k:Int)
noncomputable def rpρ(rows:List (List Nat))(wd:List Dz)(q:Nat)(z:List Nat)(m:Nat):Sg:=[some (.d (rdD rows wd)),some (.d (.int (itR rows q z m:Int))),some (.d (stD z)),some (.m (eZ (psN rows q z m)))]
@[simp] theorem aUN(i:Nat)(ρ:Sg):vU i ρ=match ρ[i]? with
 | some (some (.m kvs))=>if kvs.length<=16777216 then .ok (.int (kvs.length:Int)) else .bad
 | some (some (.f kvs))=>if kvs.length<=16777216 then .ok (.int (kvs.length:Int)) else .bad
 | _=>.bad:=id rfl
@[simp] theorem aUO(i:Nat)(ρ:Sg):v9 i ρ=match ρ[i]? with
 | some (some (.m kvs))=>if kvs.length<=16777216 then .ok (kvs.map (·.1)) else .bad
 | _=>.bad:=id rfl
theorem aR7{q:Nat}{z:List Nat}{m:Nat}:∀ x∈psN rows q z m,∃ i:Int,x=.int i:=fun x a=>by
 obtain ⟨k,_,rfl⟩:=A5.mp a
 exact ⟨_,rfl⟩
theorem aIR{fs:List Dz}{i:Int}(h:∀ y∈fs,∃ j:Int,y=.int j):cV (.int i) ((eZ fs).map (·.1))=true:=by
 rw[m7]
 unfold cV
 rw[DT,AV,AV]
 exact .inr ⟨rfl,CS.mpr fun y a=>by obtain ⟨j,rfl⟩:=h y a;rfl⟩
theorem aOX(M:Rdr rows sg){wd:List Dz}{q:Nat}(B:q < rows.length){z:List Nat}(y:Sgs sg z)(G:z.length<=1000):∀ (n m:Nat),(psN rows q z m).Nodup->rows.length+1<=m+n->
  ∃ m' s,s < m'/\m'<=rows.length/\itR rows q z m'=itR rows q z s/\aS (b7 rpT rpB) rpR (rpρ rows wd q z m)=.ok (.rt (.d (.tuple [.list (psN rows q z m'),.int (s:Int)]))):=by
 have few:∀ m,(psN rows q z m).Nodup->m<=rows.length:=fun m j=>by
  have:=aOR (n:=rows.length) j fun x K=>by
   obtain ⟨k,_,rfl⟩:=A5.mp K
   exact ⟨itR rows q z k,wF M B y k,rfl⟩
  simpa[psN] using this
 intro n
 induction n with
 | zero=>
  intro m j J
  have:=few m j
  omega
 | succ n ih=>
  intro m j J
  have v:=few m j
  have N:=M.n2
  have r:(psN rows q z m).length=m:=by unfold psN;rw[AB,AU]
  have c:=aIR (fs:=psN rows q z m) (i:=(itR rows q z m:Int)) aR7
  have o:(eZ (psN rows q z m)).length=m:=by rw[aDX,r]
  by_cases g:PyData.int (itR rows q z m:Int)∈psN rows q z m
  .obtain ⟨s,L,t⟩:=aDZ g
   have D:s < m:=by have:=(AM.mp t).1;omega
   have es:itR rows q z m=itR rows q z s:=by
    unfold psN at t
    rw[AH,BD D] at t
    have:=BU t
    injection this with this
    omega
   refine ⟨m,s,D,v,es,?_⟩
   have u:rpT (rpρ rows wd q z m)=.ok false:=by
    have:=yD.mpr g
    generalize l:eZ (psN rows q z m)=I at *
    simp[rpT,rpρ,l,c,this]
   have C:=m7 (psN rows q z m)
   have h:m<=16777216:=by omega
   rw[bK,d6 u]
   unfold rpρ
   generalize l:eZ (psN rows q z m)=I at *
   generalize psN rows q z m=P at *
   rw[C] at c
   simp[rpR,o,h,C,c,L]
  .have u:rpT (rpρ rows wd q z m)=.ok true:=by
    have:=uD g
    generalize l:eZ (psN rows q z m)=I at *
    simp[rpT,rpρ,l,c,this]
   have f:=aDY g
   rw[r] at f
   have p:psN rows q z m++[.int (itR rows q z m:Int)]=psN rows q z (m+1):=by unfold psN;rw[FS,BE];rfl
   rw[p] at f
   have w:=aFP M (wd:=wd) (wF M B y m) y G
   have h:m<=16777216:=by omega
   have F:rpB (rpρ rows wd q z m)=.ok (.nx (rpρ rows wd q z (m+1))):=by
    show _=R.ok (Fw.nx [some (.d (rdD rows wd)),some (.d (.int (runN rows (itR rows q z m) z:Int))),some (.d (stD z)),some (.m (eZ (psN rows q z (m+1))))])
    rw[<-f]
    generalize l:eZ (psN rows q z m)=I at *
    simp[rpB,rpρ,l,o,h,c,w]
   obtain ⟨m',s,h1,h2,H,A⟩:=ih (m+1) (by
    rw[<-p]
    exact EL.mpr ⟨j,by simp,fun a O b E e=>by rw[A4.mp E] at e;subst e;exact g O⟩) (by omega)
   refine ⟨m',s,h1,h2,H,?_⟩
   rw[bK] at A ⊢
   rw[g9 u F]
   exact A
theorem aOY(M:Rdr rows sg){wd:List Dz}{q:Nat}(b:q < rows.length){z:List Nat}(f:Sgs sg z)(c:z.length<=1000) :
  ∃ m s,s < m/\m<=rows.length/\itR rows q z m=itR rows q z s/\g8 [.d (rdD rows wd),.d (.int (q:Int)),.d (stD z)]=.ok (.d (.tuple [.list (psN rows q z m),.int (s:Int)])):=by
 obtain ⟨m,s,h1,h2,g,a⟩:=aOX M (wd:=wd) b f c (rows.length+1) 0 (by unfold psN;exact E5) (by omega)
 refine ⟨m,s,h1,h2,g,?_⟩
 unfold g8
 rw[lD]
 simp only[eJ,bK,t8,R.bind_ok,AL,BJ,BT,BQ,AY,A9,List.replicate,Nat.reduceAdd,Nat.reduceSub,A6,A8]
 rw[bK] at a
 have e:rpρ rows wd q z 0=[some (.d (rdD rows wd)),some (.d (.int (q:Int))),some (.d (stD z)),some (.m [])]:=rfl
 rw[e] at a
 rw[a];rfl
end
structure Canon(W:Nat->Str)(st l:Nat):Prop where
 l1:1<=l
 per:∀ k,st<=k->W (k+l)=W k
 least:∀ l',1<=l'->(∃ t,∀ k,t<=k->W (k+l')=W k)->l<=l'
 first:st=0\/W (st - 1)≠W (st - 1+l)
theorem Canon.uniq{W:Nat->Str}{s l s' a:Nat}(h:Canon W s l)(h':Canon W s' a):s=s'/\l=a:=by
 have e:l=a:=Nat.le_antisymm (h.least a h'.l1 ⟨s',h'.per⟩) (h'.least l h.l1 ⟨s,h.per⟩)
 subst e
 refine ⟨?_,rfl⟩
 rcases GE s s' with q|q|q
 .rcases h'.first with z|z
  · omega
  · exact absurd (h.per (s' - 1) (by omega)).symm z
 .exact q
 .rcases h.first with z|z
  · omega
  · exact absurd (h'.per (s - 1) (by omega)).symm z
section
variable{W:Nat->Str}{s p:Nat}
theorem oV(hp:∀ k,s<=k->W (k+p)=W k):∀ (n k:Nat),s<=k->W (k+n * p)=W k
 | 0,k,_=>by rw[GR];rfl
 | n+1,k,hk=>by
  rw[show k+(n+1) * p=(k+n * p)+p by rw[Nat.add_mul];omega,hp _ (by omega),oV hp n k hk]
theorem aOZ(a:∀ k,s<=k->W (k+p)=W k)(p1:1<=p){l:Nat}(h:∀ i,i < p->W (s+i+l)=W (s+i)):∀ k,s<=k->W (k+l)=W k:=fun k c=>by
 have e:k=s+(k - s) % p+(k - s) / p * p:=by
  have:=FU (k - s) p
  rw[D2] at this
  omega
 have h1:=oV a ((k - s) / p) (s+(k - s) % p) (by omega)
 have h2:=oV a ((k - s) / p) (s+(k - s) % p+l) (by omega)
 have b:=h ((k - s) % p) (CM _ p1)
 rw[show s+(k - s) % p+l+(k - s) / p * p=k+l by omega] at h2
 rw[<-e] at h1
 rw[h2,b,h1]
theorem aKY(a:∀ k,s<=k->W (k+p)=W k)(p1:1<=p){l:Nat}(h:∃ t,∀ k,t<=k->W (k+l)=W k):∀ k,s<=k->W (k+l)=W k:=fun k c=>by
 obtain ⟨t,b⟩:=h
 have h1:=oV a t k c
 have h2:=oV a t (k+l) (by omega)
 have d:=b (k+t * p) (by have:=GT t p1;omega)
 rw[show k+l+t * p=k+t * p+l by omega] at h2
 rw[<-h2,d,h1]
noncomputable def pieceW(W:Nat->Str)(s p:Nat):List Str:=(List.range p).map fun i=>W (s+i)
theorem aR8(c:∀ k,s<=k->W (k+p)=W k){l:Nat}(d:l<=p):(pieceW W s p).drop l++(pieceW W s p).take l=(List.range p).map fun i=>W (s+i+l):=by
 have a:(pieceW W s p).length=p:=by unfold pieceW;rw[AB,AU]
 have b:∀ i,i < p->(pieceW W s p)[i]? = some (W (s+i)):=fun i hi=>by unfold pieceW;rw[AH,BD hi];rfl
 refine List.ext_getElem? fun i=>?_
 by_cases hi:i < p
 .rw[AH,BD hi]
  show _=some (W (s+i+l))
  by_cases h:i < p - l
  .rw[BK (by rw[CQ,a];exact h),EJ,b _ (by omega)]
   congr 2
   omega
  .rw[BS (by rw[CQ,a];omega),CQ,a,List.getElem?_take,AD (by omega),b _ (by omega)]
   have:=c (s+(i - (p - l))) (by omega)
   rw[show s+(i - (p - l))+p=s+i+l by omega] at this
   rw[this]
 .rw[C9 (by rw[AK,CQ,BM,a];omega),C9 (by rw[AB,AU];omega)]
theorem aD7(b:∀ k,s<=k->W (k+p)=W k){l:Nat}(a:l<=p):(pieceW W s p).drop l++(pieceW W s p).take l=pieceW W s p↔∀ i,i < p->W (s+i+l)=W (s+i):=by
 rw[aR8 b a]
 constructor
 .intro h i hi
  have:=DG (·[i]?) h
  simp only[pieceW,AH,BD hi,GY] at this
  exact BU this
 .intro h
  unfold pieceW
  refine CL fun i hi=>h i (BR.mp hi)
end
theorem aCE{L:List Str}(h:∀ w∈L,l5 w):Cp (.list (L.map .str)):=by
 have ok:∀ w,l5 w->PyData.strOk w=true:=fun w b=>by
  rcases b with rfl|rfl|rfl<;>decide +kernel
 refine ⟨?_,Sh.shaped (n:=2) (sh_lst fun x a=>?_) (by decide)⟩
 .show n5 (L.map .str)=true
  exact aD2 fun x a=>by
   obtain ⟨w,_,rfl⟩:=A5.mp a
   rfl
 .obtain ⟨w,b,rfl⟩:=A5.mp a
  exact oC _ (ok w (h w b))
theorem str_map_inj{A B:List Str}:A.map PyData.str=B.map PyData.str↔A=B:=by
 refine ⟨fun h=>?_,fun h=>by rw[h]⟩
 induction A generalizing B with
 | nil=>cases B with|nil=>rfl|cons=>cases h
 | cons a t ih=>
  cases B with
  | nil=>cases h
  | cons b u=>
   rw[AL,AL] at h
   injection h with h1 h2
   injection h1 with h1
   rw[h1,ih h2]
theorem uH(xs:List Dz){l:Nat}(h:l<=xs.length):pM xs (some (l:Int)) none=xs.drop l:=by
 unfold pM
 rw[HT.aCV,HT.aAM,E3 h,DK (by rw[CQ];omega)]
theorem aCF(xs:List Dz){l:Nat}(h:l<=xs.length):pM xs none (some (l:Int))=xs.take l:=by
 unfold pM
 rw[HT.aCV,HT.aAM,E3 h,List.drop_zero,Nat.sub_zero]
theorem aO0{L:List Str}(hw:∀ w∈L,l5 w)(C:L.length<=1000):∀ (n l:Nat),1<=l->l<=L.length->L.length<=l+n->(∀ l',1<=l'->l' < l->L.drop l'++L.take l'≠L)->
  ∃ l',1<=l'/\l'<=L.length/\L.drop l'++L.take l'=L/\(∀ l'',1<=l''->l'' < l'->L.drop l''++L.take l''≠L)/\aS (b7 lrT lrB) (cI (vV 1)) [some (.d (.list (L.map .str))),some (.d (.int (l:Int)))]=.ok (.rt (.d (.int (l':Int)))):=by
 have f:∀ l,l<=L.length->lrT [some (.d (.list (L.map .str))),some (.d (.int (l:Int)))]=.ok (!decide (L.drop l++L.take l=L)):=fun l h=>by
  have u:=uH (L.map PyData.str) (l:=l) (by rw[AB];exact h)
  have s:=aCF (L.map PyData.str) (l:=l) (by rw[AB];exact h)
  have s1:dSl (.list (L.map .str)) (some (l:Int)) none=.ok (.list ((L.drop l).map .str)):=by rw[sJ,u,List.map_drop]
  have v:dSl (.list (L.map .str)) none (some (l:Int))=.ok (.list ((L.take l).map .str)):=by rw[sJ,s,List.map_take]
  have j:nZ (.list ((L.drop l).map .str)) (.list ((L.take l).map .str))=.ok ((L.drop l++L.take l).map .str):=by
   show (if _<=sizeLine then R.ok _ else .bad)=_
   rw[AD (by rw[AB,AB,CQ,BM,dO];omega),BE]
  have c:∀ w∈L.drop l++L.take l,l5 w:=fun w y=>by
   rcases BW.mp y with q|q
   .exact hw w (List.mem_of_mem_drop q)
   .exact hw w (FT q)
  have t:dNe (.list ((L.drop l++L.take l).map .str)) (.list (L.map .str))=.ok (.bool (!decide (L.drop l++L.take l=L))):=by
   rw[aR1 (aCE c) (aCE hw)]
   congr 3
   refine ES.mpr ?_
   constructor
   .intro e;injection e with e;exact str_map_inj.mp e
   .intro e;rw[e]
  generalize (L.drop l++L.take l).map PyData.str=D at *
  generalize (L.drop l).map PyData.str=A at *
  generalize (L.take l).map PyData.str=F at *
  generalize L.map PyData.str=B at *
  simp[lrT,s1,v,j,t]
 intro n
 induction n with
 | zero=>
  intro l h1 h2 x b
  have e:l=L.length:=by omega
  subst e
  refine ⟨L.length,h1,AG _,by rw[ER,DJ,BQ],b,?_⟩
  have:=f L.length (AG _)
  rw[ER,DJ,BQ,AZ rfl] at this
  rw[bK,d6 this]
  simp
 | succ n ih=>
  intro l h1 h2 x b
  by_cases a:L.drop l++L.take l=L
  .refine ⟨l,h1,h2,a,b,?_⟩
   have:=f l h2
   rw[AZ a] at this
   rw[bK,d6 this]
   simp
  .have p:l≠L.length:=by
    rintro rfl
    exact a (by rw[ER,DJ,BQ])
   obtain ⟨l',o,m,i,z,g⟩:=ih (l+1) (by omega) (by omega) (by omega) fun l'' k E=>by
    by_cases e:l''=l
    · subst e; exact a
    · exact b l'' k (by omega)
   refine ⟨l',o,m,i,z,?_⟩
   have:=f l h2
   rw[A1 a] at this
   have r:lrB [some (.d (.list (L.map .str))),some (.d (.int (l:Int)))]=.ok (.nx [some (.d (.list (L.map .str))),some (.d (.int ((l+1:Nat):Int)))]):=by simp[lrB,sD]
   rw[bK] at g ⊢
   rw[g9 this r]
   exact g
theorem aKZ{L:List Str}(hw:∀ w∈L,l5 w)(b:L.length<=1000)(h1:1<=L.length):∃ l,1<=l/\l<=L.length/\L.drop l++L.take l=L/\(∀ l',1<=l'->l' < l->L.drop l'++L.take l'≠L)/\gL [.d (.list (L.map .str))]=.ok (.d (.int (l:Int))):=by
 obtain ⟨l,g,f,c,e,a⟩:=aO0 hw b L.length 1 (AG _) h1 (by omega) (fun l' i h=>by omega)
 refine ⟨l,g,f,c,e,?_⟩
 unfold gL
 rw[kQ]
 rw[bK] at a
 simp only[Int.natCast_one] at a
 simp only[eJ,bK,gA,iR,fN,R.bind_ok,AL,BJ,BT,BQ,AY,A9,List.replicate,Nat.reduceAdd,Nat.reduceSub,A6,A8]
 rw[a];rfl
noncomputable def cw(rows:List (List Nat))(ws:List Str)(a g b:List Nat)(k:Nat):Str:=ws.getD (runN rows (itR rows (runN rows 0 a) g k) b) ""
noncomputable def wdL(W:Nat->Str)(m:Nat):List Dz:=(List.range m).map fun k=>.str (W k)
theorem aIS{W:Nat->Str}{m k:Nat}(h:k < m):dIx (.list (wdL W m)) (.int (k:Int))=.ok (.str (W k)):=eD (eK (by unfold wdL;rw[AH,BD h];rfl))
theorem yK(W:Nat->Str)(m:Nat):(wdL W m).length=m:=by unfold wdL;rw[AB,AU]
theorem aL7{w:Str}(h:l5 w):Cp (.str w):=by
 refine ⟨rfl,Sh.shaped (n:=1) (oC _ ?_) (by decide)⟩
 rcases h with rfl|rfl|rfl<;>decide +kernel
theorem aO1{W:Nat->Str}(hw:∀ k,l5 (W k)){m l:Nat}(y:m<=1000)(z:1<=l){a0 a1 a2 a3 a4 a5 a6:O9 A}:∀ (st:Nat),st+l<=m->(∀ k,st<=k->W (k+l)=W k)->
  ∃ st',st'<=st/\(∀ k,st'<=k->W (k+l)=W k)/\(st'=0\/W (st' - 1)≠W (st' - 1+l)) /\
   aS (b7 crT crB) crR [a0,a1,a2,a3,a4,a5,a6,some (.l (wdL W m)),some (.d (.int (st:Int))),some (.d (.int (l:Int)))]=.ok (.rt (.d (.tuple [.int (st':Int),.int (l:Int),.list (wdL W (st'+l))]))):=by
 have b:∀ st,st+l<=m->crR [a0,a1,a2,a3,a4,a5,a6,some (.l (wdL W m)),some (.d (.int (st:Int))),some (.d (.int (l:Int)))]=.ok (.rt (.d (.tuple [.int (st:Int),.int (l:Int),.list (wdL W (st+l))]))):=fun st h=>by
  have c:=aCF (wdL W m) (l:=st+l) (by rw[yK];exact h)
  have s1:dSl (.list (wdL W m)) none (some ((st:Int)+(l:Int)))=.ok (.list (wdL W (st+l))):=by
   rw[sJ,show ((st:Int)+(l:Int))=((st+l:Nat):Int) by omega,c]
   unfold wdL
   rw[<-List.map_take,List.take_range,E3 h]
  generalize wdL W m=n at *
  generalize wdL W (st+l)=w at *
  simp[crR,s1]
 intro st
 induction st with
 | zero=>
  intro h i
  refine ⟨0,AG _,i,.inl rfl,?_⟩
  have a:crT [a0,a1,a2,a3,a4,a5,a6,some (.l (wdL W m)),some (.d (.int ((0:Nat):Int))),some (.d (.int (l:Int)))]=.ok false:=by simp[crT]
  rw[bK,d6 a]
  exact b 0 h
 | succ st ih=>
  intro h i
  have p:=aIS (W:=W) (m:=m) (k:=st) (by omega)
  have s:=aIS (W:=W) (m:=m) (k:=st+l) (by omega)
  have q:=aR0 (aL7 (hw st)) (aL7 (hw (st+l)))
  have e1:((st+1:Nat):Int) - 1=(st:Int):=by omega
  have e2:((st:Int)+(l:Int))=((st+l:Nat):Int):=by omega
  have a:crT [a0,a1,a2,a3,a4,a5,a6,some (.l (wdL W m)),some (.d (.int ((st+1:Nat):Int))),some (.d (.int (l:Int)))]=.ok (decide (W st=W (st+l))):=by
   have g:(0:Int) < ((st+1:Nat):Int):=by omega
   have o:dEq (.str (W st)) (.str (W (st+l)))=.ok (.bool (decide (W st=W (st+l)))):=by
    rw[q]
    congr 2
    refine ES.mpr ⟨fun e=>by injection e,fun e=>by rw[e]⟩
   generalize wdL W m=n at *
   unfold crT
   simp only[oO,eU,fO,eI,fN,AX,AT,R.bind_ok,aFJ,AZ g,mZ,CG,aRL,e1,p,kO,e2,s,o]
  by_cases f:W st=W (st+l)
  .obtain ⟨st',v,t,r,j⟩:=ih (by omega) fun k x=>by
    by_cases e:k=st
    · subst e; exact f.symm
    · exact i k (by omega)
   refine ⟨st',by omega,t,r,?_⟩
   rw[AZ f] at a
   have u:crB [a0,a1,a2,a3,a4,a5,a6,some (.l (wdL W m)),some (.d (.int ((st+1:Nat):Int))),some (.d (.int (l:Int)))]=.ok (.nx [a0,a1,a2,a3,a4,a5,a6,some (.l (wdL W m)),some (.d (.int (st:Int))),some (.d (.int (l:Int)))]):=by
    generalize wdL W m=n at *
    simp[crB,e1]
   rw[bK] at j ⊢
   rw[g9 a u]
   exact j
  .refine ⟨st+1,AG _,i,.inr (by rw[Nat.add_sub_cancel];exact f),?_⟩
   rw[A1 f] at a
   rw[bK,d6 a]
   exact b (st+1) h
theorem aVX{rs:List Rw}{rows:List (List Nat)}{ws:List Str}{sg:Nat}(M:Mach rs sg)(Z:fS [.d (aY rs)]=.ok (.d (rdW rows ws)))(Rr:Rdw rows ws sg){a g b:List Nat}(Sa:bD sg a)(Sg:bD sg g)(Sb:bD sg b) :
  ∃ st l,Canon (cw rows ws a g b) st l/\st+l<=rows.length/\bP [.d (aY rs),.d (stD a),.d (stD g),.d (stD b)]=.ok (.d (.tuple [.int (st:Int),.int (l:Int),.list (wdL (cw rows ws a g b) (st+l))])):=by
 have n1:=Rr.r.n1
 have n2:=Rr.r.n2
 have u:runN rows 0 a < rows.length:=oU Rr.r a Sa.2 n1
 have j:=aFP Rr.r (wd:=ws.map .str) (q:=0) n1 Sa.2 Sa.1
 obtain ⟨m,s,aa,Y,G,o⟩:=aOY Rr.r (wd:=ws.map .str) u Sg.2 Sg.1
 have p:∀ k,itR rows (runN rows 0 a) g k < rows.length:=wF Rr.r u Sg.2
 have h:∀ k,runN rows (itR rows (runN rows 0 a) g k) b < rows.length:=fun k=>oU Rr.r b Sb.2 (p k)
 have t:∀ k,l5 (cw rows ws a g b k):=fun k=>(Rr.w (h k)).1
 have c:∀ k,s<=k->cw rows ws a g b (k+(m - s))=cw rows ws a g b k:=fun k hk=>by
  unfold cw
  rw[aOW G (by omega) k hk]
 have B:∀ z:List Nat,bD sg z->gJ [.d (aY rs),.d (stD z)]=.ok (.d (stD z)):=fun z S=>by
  have:=aB0 M (z:=⟨z.toArray⟩) (by simpa using S)
  simpa[stD] using this
 obtain ⟨ρ',J,y,rfl⟩:=gR (fs:=stN 4) (fb:=crC) (d:=stD) (xs:=[a,g,b]) (ρ:=[some (.d (aY rs)),some (.d (stD a)),some (.d (stD g)),some (.d (stD b)),none,none,none,none,none,none])
  (fun i ρ=>∃ y,ρ=[some (.d (aY rs)),some (.d (stD a)),some (.d (stD g)),some (.d (stD b)),y,none,none,none,none,none]) ⟨none,rfl⟩ fun i z ρ hz C=>by
  obtain ⟨y,e⟩:=C
  have f:=AW hz
  have S:bD sg z:=by
   rcases A2.mp f with rfl|f
   .exact Sa
   rcases A2.mp f with rfl|f
   .exact Sg
   .rw[A4.mp f];exact Sb
  have:=B z S
  refine ⟨_,_,by rw[e];rfl,.inl (show crC [some (.d (aY rs)),some (.d (stD a)),some (.d (stD g)),some (.d (stD b)),some (.d (stD z)),none,none,none,none,none]=.ok (.nx [some (.d (aY rs)),some (.d (stD a)),some (.d (stD g)),some (.d (stD b)),some (.d (stD z)),none,none,none,none,none]) from ?_),some (.d (stD z)),rfl⟩
  generalize stD z=sz at *
  simp[crC,this]
 have D:(psN rows (runN rows 0 a) g m).length=m:=by unfold psN;rw[AB,AU]
 have I:cD (.list (psN rows (runN rows 0 a) g m))=.ok (psN rows (runN rows 0 a) g m):=lB (by rw[D];omega)
 have H:compL (stN 0) fX (e2 dIx (e2 dIx (rV 1) (eC (.int 1))) (eA (bM 3 eS (aA (vV 1) (aA (vV 0) (aA (vV 2) aO)))))) [none,some (.d (rdW rows ws)),some (.d (stD b))] (psN rows (runN rows 0 a) g m)=.ok (wdL (cw rows ws a g b) m):=compL_of (d:=fun k=>.int (itR rows (runN rows 0 a) g k:Int)) (g:=fun k=>.str (cw rows ws a g b k)) (xs:=List.range m) fun k _=>⟨_,rfl,by
  have Q:=aFP Rr.r (wd:=ws.map .str) (p k) Sb.2 Sb.1
  have hx:=(Rr.w (h k)).2
  have i1:dIx (rdW rows ws) (.int 1)=.ok (.tuple (ws.map .str)):=rfl
  rw[show rdD rows (ws.map .str)=rdW rows ws from rfl] at Q
  unfold cw
  generalize stD b=sb at *
  generalize rdW rows ws=rd at *
  generalize ws.getD (runN rows (itR rows (runN rows 0 a) g k) b) ""=wk at *
  simp[i1,Q,hx]⟩
 have n:(pieceW (cw rows ws a g b) s (m - s)).length=m - s:=by unfold pieceW;rw[AB,AU]
 obtain ⟨l,O,K,V,l4,F⟩:=aKZ (L:=pieceW (cw rows ws a g b) s (m - s)) (fun w P=>by
  unfold pieceW at P
  obtain ⟨i,_,rfl⟩:=A5.mp P
  exact t _) (by rw[n];omega) (by rw[n];omega)
 rw[n] at K
 have v:=aOZ c (by omega) ((aD7 c K).mp V)
 obtain ⟨st,b1,b2,T,N⟩:=aO1 (W:=cw rows ws a g b) t (m:=m) (l:=l) (by omega) O (a0:=some (.d (aY rs))) (a1:=some (.d (stD a))) (a2:=some (.d (stD g))) (a3:=some (.d (stD b))) (a4:=y) (a5:=some (.d (rdW rows ws))) (a6:=some (.d (.tuple [.list (psN rows (runN rows 0 a) g m),.int (s:Int)]))) s (by omega) v
 refine ⟨st,l,⟨O,b2,fun A h1 h2=>?_,T⟩,by omega,?_⟩
 .rcases Nat.lt_or_ge A l with q|q
  .exact absurd ((aD7 c (by omega)).mpr fun i _=>by
    have:=aKY c (by omega) h2 (s+i) (by omega)
    rw[show s+i+A=(s+i)+A from rfl];exact this) (l4 A h1 q)
  .exact q
 .have x:dSl (.list (wdL (cw rows ws a g b) m)) (some (s:Int)) none=.ok (.list ((pieceW (cw rows ws a g b) s (m - s)).map .str)):=by
   rw[sJ,uH _ (by rw[yK];omega)]
   congr 2
   refine List.ext_getElem? fun i=>?_
   unfold wdL pieceW
   rw[EJ,AH,AH,AH]
   by_cases hi:i < m - s
   .rw[BD (by omega),BD hi];rfl
   .rw[C9 (by rw[AU];omega),C9 (by rw[AU];omega)];rfl
  have j0:dIx (.tuple [.list (psN rows (runN rows 0 a) g m),.int (s:Int)]) (.int 0)=.ok (.list (psN rows (runN rows 0 a) g m)):=rfl
  have X:dIx (.tuple [.list (psN rows (runN rows 0 a) g m),.int (s:Int)]) (.int 1)=.ok (.int (s:Int)):=rfl
  have E:cD (.tuple [stD a,stD g,stD b])=.ok ([a,g,b].map stD):=rfl
  rw[show rdD rows (ws.map .str)=rdW rows ws from rfl] at j o
  unfold bP
  rw[fD]
  rw[bK] at N
  generalize ad:psN rows (runN rows 0 a) g m=PS at *
  generalize U:(pieceW (cw rows ws a g b) s (m - s)).map PyData.str=PW at *
  generalize ac:wdL (cw rows ws a g b) m=WL at *
  simp only[Int.natCast_zero] at j
  simp only[eJ,bK,gB,eU,fO,kD,mF,fN,vX,fF,eR,nL,iR,eI,k8,gA,hZ,lA,aHY,aHZ,aH0,R.bind_ok,AY,A9,Nat.reduceAdd,Nat.reduceSub,Nat.reduceLeDiff,CG,AL,BJ,BT,BQ,List.replicate,AX,AT,A6,A8,E]
  simp only[AL,BJ] at J
  simp only[J,R.bind_ok,Z,oN,j,o,AX,AT,A6,A8,AY,A9,Nat.reduceAdd,CG,j0,X,I,cJ,AL,BJ,D4,CT,D5,H,x,F,N]
end Mc
namespace L2
open PySem PySem.Spec PyProof.Rows
structure DefAtD(K:Frag)(mg:Str->Option V9)(x:Str)(st:Stmt)(ps:List Str)(dvs:List V):Prop where
 ex:∃ f oc od dV kV doc pm an cdv ct osl ds,K.lookup f=some ⟨oc,od,.func (PySem.W.fnOf x x (dR st) (cG st) (aK st) dV kV doc pm an cdv ct),osl⟩/\PySem.W.codeIn K cdv x=true/\PySem.W.keepIn K (.ref f)=true /\
  fA K (PySem.W.fnOf x x (dR st) (cG st) (aK st) dV kV doc pm an cdv ct) ps []/\fA K (PySem.W.fnOf x x (dR st) (cG st) (aK st) dV kV doc pm an cdv ct) ps ds/\bJ dvs ds/\mg x=some (.ref f)
def wG(P:P9)(w:W9)(K:Frag)(mg:Str->O9 V9)(base:H9)(CX:CXT)(k:Nat)(x:Str)(ps:List Str)(dvs:List V)(sp:Sp):Prop:=
 ∃ f fd ds,FnOk P w K mg base CX k f fd ps sp/\fA K fd ps []/\fA K fd ps ds/\bJ dvs ds/\mg x=some (.ref f)/\PySem.W.keepIn K (.ref f)=true
section
variable{P:P9}{w:W9}{K:Frag}{mg:Str->O9 V9}{base:H9}{x:Str}{st:Stmt}{N ps:List Str}{k:Nat}{sp:Sp}{dvs:List V}
theorem wG.calls{CX:CXT}(C:wG P w K mg base CX k x ps dvs sp):Calls P w K mg base CX k x ps sp:=by
 obtain ⟨f,fd,ds,F,b,_,_,m,a⟩:=C
 exact ⟨f,fd,F,b,m,a⟩
theorem DefAtD.okX(D:DefAtD K mg x st ps dvs)(S:FnScope N ps (aK st))(len:∀ vs H Q E,sp vs H Q E->vs.length=ps.length)
  (a:∀ (f:Az) (cdv:V9) (A:U9) (outer:List Env) (s:S9) (H:Hp) (vs:List V) (Q:VK) (E:XK),Room k (A.deeper (envOfC x (aK st) s.heap.objs.size f cdv))->sp vs H Q E->
   ∃ t,PSs ((iS (CXe P w) P w K mg base N x (aK st) f cdv A outer s H E).fly E) (cG st) t/\t {nx:=fun _ H'=>Q .non H',rt:=Q} (start N vs) H):wG P w K mg base (CXe P w) (k+1) x ps dvs sp:=by
 obtain ⟨f,o,od,p,kV,doc,pm,n,cdv,ct,i,ds,l,b,d,e,j,v,m⟩:=D.ex
 refine ⟨f,_,ds,z7 l b S len fun A outer s H vs Q E g c=>?_,e,j,v,m,d⟩
 obtain ⟨t,h,q⟩:=a f cdv A outer s H vs Q E g c
 exact ⟨t,h.unfly fun _ _ z=>qK z,q⟩
end
end L2
namespace Fl
open PySem L2 PyProof.Rows
abbrev D3:=Dz×Dz×List Dz
def aPQ(f:Sg->R Fw)(g:Sg->R D3):Sg->R D3:=fun ρ=>(f ρ).bind fun w=>match w with
 | .nx ρ'=>g ρ'
 | _=>.bad
def aPR(f g:Sg->R Dz)(h:Sg->R (List Dz)):Sg->R D3:=fun ρ=>(f ρ).bind fun x=>(g ρ).bind fun y=>(h ρ).bind fun z=>.ok (x,y,z)
def sQ(P:P9)(w:W9)(K:Frag)(mg:Str->O9 V9)(base:H9)(T:Hp)(k:Nat)(x:Str)(ps:List Str)(dvs:List V)(G:List A->R A):Prop:=wG P w K mg base (CXe P w) k x ps dvs (spF (gOf P w K mg base T) K mg ps.length G)
theorem aK0{P:P9}{w:W9}{K:Frag}{mg:Str->O9 V9}{base:H9}{T:Hp}{x:Str}{st:Stmt}{N ps:List Str}{dvs:List V}{k:Nat}{fb:Sg->R Fw}(D:DefAtD K mg x st ps dvs)(S:FnScope N ps (aK st))
  (a:∀ (f:Az) (cdv:V9) (A:U9) (outer:List Env) (s:S9) (H F:Hp) (E:XK),Room k (A.deeper (envOfC x (aK st) s.heap.objs.size f cdv))->
   kJ ((iS (CXe P w) P w K mg base N x (aK st) f cdv A outer s H E).fly E) ⟨K,mg,w,F,H,gOf P w K mg base T,(envOfC x (aK st) s.heap.objs.size f cdv).cells,fun _=>none⟩ E (cG st) fb):sQ P w K mg base T (k+1) x ps dvs (fnF N.length fb):=by
 refine D.okX S (fun vs H Q E h=>?_) (fun f cdv A outer s H vs Q E g h=>?_)
 .obtain ⟨F,d,_,_,h2,b,_⟩:=h
  rw[h2.len,b]
 .obtain ⟨F,d,e,h1,h2,b,c⟩:=h
  exact ⟨_,a f cdv A outer s H F E g,oK e h1 h2 c⟩
def aFQ(ρ:Sg):Bool:=ρ.all fun o=>match o with
 | some a=>!a.own
 | none=>true
structure OwnL(c:Ct)(F H:Hp)(σ:L2.St)(i:Nat)(p:Az)(qs:List Az)(vss:List (List V)):Prop where
 s:σ[i]? = some (some (.ref p))
 hp:H p=some (.lst (qs.map V.ref))
 fp:F p=none
 p0:c.H0 p=none
 np:p∉qs
 nd:qs.Nodup
 len:vss.length=qs.length
 q:∀ (j:Nat) (q:Az) (vs:List V),qs[j]? = some q->vss[j]? = some vs->H q=some (.lst vs)/\F q=none/\c.H0 q=none
def aFR(fs:Dz->Sg->O9 Sg)(fk fe:Sg->R Dz):List Dz->List (List Dz)->Sg->R (List (List Dz)×Sg)
 | [],xss,ρ=>.ok (xss,ρ)
 | y::t,xss,ρ=>(nY (fs y ρ)).bind fun ρ1=>if aFQ ρ1=true then (fk ρ1).bind fun k=>(match k with
  | .int kk=>(match ixN xss.length kk with
   | some j=>(fe ρ1).bind fun x=>if (xss.getD j []).length < 16777216 then aFR fs fk fe t (xss.set j (xss.getD j []++[x])) ρ1 else .bad
   | none=>.bad)
  | _=>.bad) else .bad
def aTV(i:Nat)(fi1 fi2:Sg->R (List Dz))(fs:Dz->Sg->O9 Sg)(fk fe:Sg->R Dz):Sg->R Fw:=fun ρ=>(fi1 ρ).bind fun xs=>if i < ρ.length/\aFQ (ρ.set i none)=true then (fi2 (ρ.set i none)).bind fun ys=>(aFR fs fk fe ys (List.replicate xs.length []) (ρ.set i none)).bind fun r=>.ok (.nx (r.2.set i (some (.d (.list (r.1.map PyData.list)))))) else .bad
end Fl
namespace L2
open PySem PySem.Spec PyProof.Rows
section
variable{X:Cx}
theorem aR9 {i : Nat} {n M P : Str} {Q W2 : Az} {U aj : List V9} {body p o : List Stmt} {T b2 : Stmt} {Y S J F pos : Pos} (hO : o6 X) (G : X.N.Nodup) (hi : X.N[i]? = some n) (B : X.env.scope.names.lookup n = some .local)
    (Z : Gl X M) (al : X.mg M = some (.ref Q)) (af : SX.ExcAny X.K Q U) (aa : (M == ("__debug__" : Str)) = false)
    (ak : Gl X P) (ag : X.mg P = some (.ref W2)) (ai : SX.ExcAny X.K W2 aj) (ad : (P == ("__debug__" : Str)) = false) {pins : List (Az × Obj)} {s : S9} {σ : St} {H : Hp} {D : lZ} {E : XK} (I : Inv X pins σ H s)
    (hb : wpAny (model X.prog X.w) X.A (execs body X.env) (fun f s1 => SP X pins D f s1) (aBN (X.pnw (X.pn ++ pins)) σ E) s)
    (hh : ∀ (C e : Az) (H' : Hp), (∃ od, H' e = some (ExO e C od)) -> E (.ref C) (some e) H' -> ∃ bm, SX.ExcAny X.K C bm /\
      (((Value.ref C :: bm).contains (.ref Q) = true /\ ∃ ts, PSs (X.inH e) (T :: p) ts /\ ts { nx := fun a H2 => D.nx (a.set i none) H2, rt := D.rt, bk := fun a H2 => D.bk (a.set i none) H2, ct := fun a H2 => D.ct (a.set i none) H2 } (σ.set i (some (.ref e))) H') \/
       ((Value.ref C :: bm).contains (.ref Q) = false /\ (Value.ref C :: bm).contains (.ref W2) = true /\ ∃ ts, PSs (X.inH e) (b2 :: o) ts /\ ts { nx := fun a H2 => D.nx (a.set i none) H2, rt := D.rt, bk := fun a H2 => D.bk (a.set i none) H2, ct := fun a H2 => D.ct (a.set i none) H2 } (σ.set i (some (.ref e))) H'))) :
    wpAny (model X.prog X.w) X.A (exec (.Try body [.ExceptHandler (some (.Name M Y)) (some n) (T :: p) J, .ExceptHandler (some (.Name P S)) (some n) (b2 :: o) F] [] [] pos) X.env) (SP X pins D) X.xe s := by
  refine wpAny_Try_except (BO hb (fun f s1 O => ?_) fun ev s1 q => ?_)
  · cases f with
    | next => exact EG O
    | brk => exact O
    | cont => exact O
    | ret u => exact O
  · obtain ⟨e, C, od, H1, rfl, I2, f2, q⟩ := q
    have ac : o6 (X.pnw (X.pn ++ pins)) := hO
    refine o7 (X := X.pnw (X.pn ++ pins)) ac I2 f2 fun s3 I3 f3 => oA (X := X.pnw (X.pn ++ pins)) I3 f3 fun R I4 V => ?_
    have k : Inv X pins σ H1 R := I4.ofPn
    obtain ⟨bm, cA, ah⟩ := hh C e H1 ⟨od, V.tr⟩ q
    have IH : Inv (X.inH e) pins σ H1 R := k.inH e
    obtain ⟨vs, hx⟩ := u0 k.hok V.tr
    have go : ∀ (b0 : Stmt) (b : List Stmt) (c : Pos) (ts : TS), PSs (X.inH e) (b0 :: b) ts -> ts { nx := fun a H2 => D.nx (a.set i none) H2, rt := D.rt, bk := fun a H2 => D.bk (a.set i none) H2, ct := fun a H2 => D.ct (a.set i none) H2 } (σ.set i (some (.ref e))) H1 ->
        codeAny (model X.prog X.w) (X.A.mark (some (.ref e))) (Code.handlers (.ref e) [.ExceptHandler none (some n) (b0 :: b) c] X.env) (fun r l => match r with
          | .ok f => wpAny (model X.prog X.w) X.A (do bindName X.env n .none; unbindBehindTheSuite X.env n c) (fun _ L => SP X pins D f L) X.xe l
          | .error x => cameBackBy (model X.prog X.w) X.A X.env X.xe x l) R := fun b0 b c ts h j => by
      refine codeAny_handlers_suite_as ?_
      refine oA (X := X.pnw (X.pn ++ pins)) I4 V fun s5 I5 f5 => ?_
      have W : Inv X pins σ H1 s5 := I5.ofPn
      refine mO (X := X.inH e) (v := .ref e) (W.inH e) G hi (.inl B) rfl (fun s6 I6 => ?_) (.inr B)
      refine BO (h pins s6 _ H1 _ I6 j) (fun f s7 d => ?_) fun _ _ z => z.elim
      show wpAny _ _ (do bindName X.env n .none; unbindBehindTheSuite X.env n c) _ _ s7
      cases f with
      | next =>
        obtain ⟨y, H7, t, d⟩ := d
        exact nE (t.ofH I.ok) G hi B fun s8 m => ⟨_, _, m, d⟩
      | brk =>
        obtain ⟨y, H7, t, d⟩ := d
        exact nE (t.ofH I.ok) G hi B fun s8 m => ⟨_, _, m, d⟩
      | cont =>
        obtain ⟨y, H7, t, d⟩ := d
        exact nE (t.ofH I.ok) G hi B fun s8 m => ⟨_, _, m, d⟩
      | ret u =>
        obtain ⟨v, y, H7, t, r7, d⟩ := d
        exact nE (t.ofH I.ok) G hi B fun s8 m => ⟨v, _, _, m, r7, d⟩
    refine wpAny_handleBy_cons (codeAny_handlers_test ?_) (by intro z; cases z)
    refine j6 (X := X.inH e) IH Z al ?_ aa
    refine SX.tJ k.kIn cA af hx rfl ?_
    rcases ah with ⟨g, ts, h, j⟩ | ⟨ae, g, ts, h, j⟩
    · rw [g]
      exact go T p J ts h j
    · rw [ae]
      show wpAny _ _ (handleBy (.ref e) X.env _) _ _ R
      refine wpAny_handleBy_cons (codeAny_handlers_test ?_) (by intro z; cases z)
      refine j6 (X := X.inH e) IH ak ag ?_ ad
      refine SX.tJ k.kIn cA ai hx rfl ?_
      rw [g]
      exact go b2 o F ts h j
end
end L2
namespace Fl
open PySem L2 PyProof.Rows
def aAF(i n:Nat)(G:List A->R A)(f:Sg->R (List A))(cl1 cl2:List Str)(fs1 fs2:Sg->R Fw):Sg->R Fw:=fun ρ=>match f ρ with
 | .ok as=>if as.length=n then (match G as with
  | .bad=>.bad
  | .ok _=>.ok (.nx ρ)
  | .ex e=>if cl1.contains e.c=true then (fs1 (ρ.set i (some (.x e)))).bind fun w=>.ok (xV i w) else if cl2.contains e.c=true then (fs2 (ρ.set i (some (.x e)))).bind fun w=>.ok (xV i w) else .bad) else .bad
 | _=>.bad
def NoM(K:Frag)(mg:Str->O9 V9)(x y:Str):Prop:=∃ C C' bm,mg x=some (.ref C)/\mg y=some (.ref C')/\SX.ExcAny K C bm/\(Value.ref C::bm).contains (.ref C')=false/\(Value.ref C::bm).contains (.ref C)=true
section
variable{X:Cx}{c:Ct}{E:XK}
theorem aK1{i n:Nat}{nx M m:Str}{W1 W2:Az}{ad ao:List V9}{L J:List Stmt}{b1 b2:Stmt}{call:E1}{ae aa aj ac pos j:Pos}{G:List A->R A}{f:Sg->R (List A)}{t:List Str}{V T:Sg->R Fw}(hK:X.K=c.K)(Z:X.mg=c.mg)
  (hO:o6 X) (hN:X.N.Nodup) (hi:X.N[i]? = some nx) (hk:X.env.scope.names.lookup nx=some .local)
  (ag:Gl X M) (W:X.mg M=some (.ref W1)) (ak:SX.ExcAny X.K W1 ad) (Q:aDK X.K X.mg W1 t)
  (ap:Gl X m) (P:X.mg m=some (.ref W2)) (am:SX.ExcAny X.K W2 ao) (al:NoM X.K X.mg m M)
  (hc:∀ pn σ E',PCl (X.pnw pn) σ E' call (uT (spF c.g X.K X.mg n G) [] E' (tAv c E f)))
  (ah:∀ e,kJ (X.inH e) c E (b1::L) V) (af:∀ e,kJ (X.inH e) c E (b2::J) T) (ai:(M == ("__debug__":Str))=false:=by decide) (hd2:(m == ("__debug__":Str))=false:=by decide) (hsw:swapsWith call none j.line X.env=pure false:=by rfl) :
  PSf X c E (.Try [.Expr call j] [.ExceptHandler (some (.Name M ae)) (some nx) (b1::L) aj,.ExceptHandler (some (.Name m aa)) (some nx) (b2::J) ac] [] [] pos) (aAF i n G f t [m] V T):=by
 intro pins s σ H D I h
 obtain ⟨ρ,F,ab,k⟩:=h
 unfold aAF at k
 cases Y:f ρ with
 | bad=>rw[Y] at k;exact k.elim
 | ex z=>rw[Y] at k;exact k.elim
 | ok as=>
  rw[Y] at k
  simp only at k
  by_cases hn:as.length=n
  .rw[AD hn] at k
   let E':XK:=fun cv oa H'=>∃ C a e l,cv=.ref C/\oa=some a/\Ext F H l H'/\k6 c.K c.mg l e a C/\G as=.ex e
   refine aR9 (E:=E') hO hN hi hk ag W ak ai ap P am hd2 I (aHS (hc _ _ _) I ?_ hsw) ?_
   .refine ⟨ρ,F,ab,?_⟩
    rw[Y]
    intro vs F1 H1 s1 r1
    refine ⟨F1,as,fun a o z=>s1.ff a o (ab.f0 a o (ab.t0 a o z)),s1.fh,by rw[CH,hK,Z];exact r1,hn,?_⟩
    cases U:G as with
    | bad=>rw[U] at k;exact k
    | ok a=>
     rw[U] at k
     intro v l H' s' B
     exact Rk.ok k _ l H' (s1.trans s').ff (ab.ext (s1.trans s'))
    | ex e=>
     intro a C l H' s' B
     rw[hK,Z] at B
     exact ⟨C,a,e,l,rfl,rfl,s1.trans s',B,U⟩
   .rintro C e H' ⟨od,_⟩ ⟨C',a,er,l,h1,h2,s',B,U⟩
    cases h1
    cases h2
    rw[U] at k
    simp only at k
    obtain ⟨m1,_⟩:=id B
    have O:∀ {sts:List Stmt} {fs:Sg->R Fw},(∀ e,kJ (X.inH e) c E sts fs)->Rk c E F H ((fs (ρ.set i (some (.x er)))).bind fun w=>.ok (xV i w)) (jM c F D)->∃ ts,PSs (X.inH e) sts ts/\ts {nx:=fun b H2=>D.nx (b.set i none) H2,rt:=D.rt,bk:=fun b H2=>D.bk (b.set i none) H2,ct:=fun b H2=>D.ct (b.set i none) H2} (σ.set i (some (.ref e))) H':=fun hs k=>by
     refine ⟨_,hs e,ρ.set i (some (.x er)),l,(ab.ext s').setA ⟨e,C,rfl,B⟩,?_⟩
     have k':=(Rk.bind k).ext s'
     refine k'.imp fun w _ q=>?_
     cases w with
     | nx ρ2=>exact fun b u H2 r d=>Rk.ok q _ u H2 (fun a o z=>r a o (s'.ff a o z)) (d.off' i)
     | bk ρ2=>exact fun b u H2 r d=>Rk.ok q _ u H2 (fun a o z=>r a o (s'.ff a o z)) (d.off' i)
     | ct ρ2=>exact fun b u H2 r d=>Rk.ok q _ u H2 (fun a o z=>r a o (s'.ff a o z)) (d.off' i)
     | rt a=>exact fun v u H2 r r2=>Rk.ok q v u H2 r r2
    by_cases y:t.contains er.c=true
    .rw[AD y] at k
     obtain ⟨C2,bm,m2,ca,co⟩:=Q er.c (by simpa using y)
     rw[Z,m1] at m2
     cases m2
     exact ⟨bm,ca,.inl ⟨co,O ah k⟩⟩
    .rw[AC y] at k
     by_cases p:[m].contains er.c=true
     .rw[AD p] at k
      have e2:er.c=m:=by simpa using p
      obtain ⟨C2,C3,bm,q1,q2,ca,q3,q4⟩:=al
      rw[W] at q2
      cases q2
      have S:=q1
      rw[P] at S
      cases S
      rw[Z,<-e2,m1] at q1
      cases q1
      exact ⟨bm,ca,.inr ⟨q3,q4,O af k⟩⟩
     .rw[AC p] at k;exact k.elim
  .rw[AC hn] at k;exact k.elim
end
def aJA:Sg->R Unit:=fun _=>.ok ()
theorem i9{a es:List E1}{k:Nat}{p:Pos}{env:Env}:starEach (.Tuple a k p::es) env=(false,eval (.Tuple a k p) env)::starEach es env:=by rfl
def aVY:Dz->Dz->R Dz
 | .bool a,.bool b=>.ok (.bool (a == b))
 | _,_=>.bad
end Fl
namespace L2
open PySem PySem.Spec PyProof.Rows
structure ClsM(K:Frag)(C:Az)(m:Str)(f:Az):Prop where
 sp:PySem.W.specialIn K (.ref C) "__getattribute__"=some (some (.builtin "type.__getattribute__"))
 rd:PySem.W.readsIn K C (.type "type")=true
 fc:PySem.W.findCls K (.ref C) (.type "type") m=some (.val (.ref f))
 kp:PySem.W.keepIn K (.ref f)=true
def spO(C:Az)(fs:List Str):Sp:=fun vs H Q _=>∃ x dx us,vs=.ref x::us/\us.length=fs.length/\H x=some (.ins C dx [])/\Q .non (upd H x (.ins C dx (fs.zip us)))
structure MkAt(P:Program)(w:World)(K:Frag)(mg:Str->Option V9)(base:Heap)(k:Nat)(cn:Str)(fs:List Str)(C:Az):Prop where
 m:mg cn=some (.ref C)
 i:∃ f fd,Mk K C f/\FnOk P w K mg base CX0 k f fd ("self"::fs) (spO C fs)/\fA K fd ("self"::fs) []
end L2
namespace Fl
open PySem L2 PyProof.Rows
def vO(i:Nat):Sg->R A:=fun ρ=>match ρ[i]? with
 | some (some (.o e))=>.ok (.o e)
 | _=>.bad
def aVZ(cn:Str)(fs:List Str)(f:Sg->R (List Dz)):Sg->R A:=fun ρ=>(f ρ).bind fun xs=>if xs.length=fs.length then .ok (.o ⟨cn,fs.zip xs⟩) else .bad
section
variable{X:Cx}{c:Ct}{E:XK}{e o:E1}{es:List E1}{pos apos:Pos}
def eOF(i:Nat)(cs:List Str)(g:Str):Sg->R Dz:=fun ρ=>match ρ[i]? with
 | some (some (.o e))=>if cs.contains e.c=true then (match e.fs.lookup g with|some d=>.ok d|none=>.bad) else .bad
 | _=>.bad
theorem qP{V W:Type}{g:Str}:∀ {fvs:List (Str×V)} {fs:List (Str×W)},fvs.map (·.1)=fs.map (·.1)->fs.lookup g=none->fvs.lookup g=none
 | [],[],_,_=>rfl
 | [],_::_,h,_=>by simp at h
 | _::_,[],h,_=>by simp at h
 | (a,v)::fvs,(b,x)::fs,h,e=>by
  rw[AL,AL] at h
  injection h with h1 h2
  simp only at h1
  subst h1
  rw[BC] at e ⊢
  cases q:(g == a) with
  | true=>rw[q] at e;cases e
  | false=>rw[q] at e;exact qP h2 e
def vMt(f:Sg->R A)(m:Str)(tb:List (Str×(List A->R A))):Sg->R A:=fun ρ=>(f ρ).bind fun a=>match a with
 | .o e=>if (e.fs.lookup m).isNone=true then (match tb.lookup e.c with|some G=>G [.o e]|none=>.bad) else .bad
 | _=>.bad
end
def aSA:Dz->Dz->R Dz
 | .list xs,x=>if SeqAt.shaped x=true/\SeqAt.shaped (.list xs)=true/\xs.length<=16777216 then (match xs.findIdx? fun y=>PyData.eqv y x with|some j=>.ok (.int j)|none=>.bad) else .bad
 | _,_=>.bad
def isL:Dz->Bool
 | .list _=>true
 | _=>false
def aV0(f g:Sg->R Dz):Sg->R Dz:=fun ρ=>(f ρ).bind fun x=>if isL x=true then (g ρ).bind fun y=>aSA x y else .bad
end Fl
namespace L2
open PySem PySem.Spec PyProof.Rows
end L2
namespace Fl
open PySem L2 PyProof.Rows
def aV1(g g' g'':Dz->Dz->R Dz)(fa fb fc fd:Sg->R Dz):Sg->R Dz:=fun ρ=>(fa ρ).bind fun x=>(fb ρ).bind fun y=>(g x y).bind fun z=>(asB z).bind fun k=>if k=true then (eCh g' g'' (fun _=>.ok y) fc fd ρ) else .ok (.bool false)
end Fl
namespace L2
open PySem PySem.Spec PyProof.Rows
theorem aO2{prog:P9}{w:W9}{A:U9}{E:V9->S9->Prop}{s:S9}{l:Az}{items:Array V9}{k:Nat}{x:Int}{u:Tok}{Q:V9->S9->Prop}
  (a:s.heap.get? l=some {cls:=.type "list",dict:=none,data:=.seq items k,slots:=#[]})
  (hlo : -(2 ^ 63:Int)<=x) (hhi:x < 2 ^ 63) (hsz:items.size * x.toNat<=2 ^ 24)
  (h:Q (.ref s.heap.objs.size) {s with heap:=s.heap.push {cls:=.type "list",data:=.seq (List.foldl (fun c b=>c++b) #[] (List.replicate (if items.isEmpty=true then 0 else x.toNat) items))}}) :
  wpAny (model prog w) A (binaryOp .Mult (.ref l) (.int x u)) Q E s:=
 wpAny_binaryOp_repeat_ref (T:="list") (U:="int") (by decide) ⟨_,a,rfl⟩ (fun s'=>typeIs_int s' x u) noFill_list_mul F.fills_int_mul F.slot_int_rmul repeat_list F.slot_int_index.lookup
  (G8 F.slot_int_rmul (typeIs_int s x u) F.entry_int_rmul (F.args_int_rmul_2 _ _) (int___rmul___int_list x u l items k)
   ⟨a,rfl,⟨_,a,rfl⟩,G8 F.slot_list_mul ⟨_,a,rfl⟩ F.entry_list_mul (F.args_list_mul_2 _ _)
    (AutoListH.list___mul___list_int_3 l items k x u (by simp[Builtin.List.listFitsIndex];omega) (by omega) (by simp[Builtin.List.listTooLong,sizeLine];omega))
    ⟨a,h⟩⟩)
def aTW:R2:=fun x y H Q=>∃ p vs i,x=.ref p/\y=.int i/\H p=some (.lst vs)/\vs≠[] /\ -(2 ^ 63:Int)<=i/\i < 2 ^ 63/\vs.length * i.toNat<=16777216/\∀ r,H r=none->Q (.ref r) (upd H r (.lst (List.replicate i.toNat vs).flatten))
theorem aO3{X:Cx}:OpR X (binaryOp .Mult) aTW:=by
 intro pins s σ H v u x y Q I k j h
 obtain ⟨p,vs,i,rfl,rfl,l,d,h1,h2,f,q⟩:=h
 cases k
 obtain ⟨t,rfl⟩:=j
 obtain ⟨z,a,n,r,g⟩:=(show cF X.prog X.w H s.heap p (.lst vs) from I.hok p _ l)
 have b:a.length=vs.length:=r.length.symm
 refine aO2 (items:=a.toArray) g h1 h2 (by rw[BG,b];exact f) ?_
 have c:a.toArray.isEmpty=false:=by
  cases a with
  | nil=>cases vs with
   | nil=>exact absurd rfl d
   | cons _ _=>cases b
  | cons _ _=>rfl
 have e:=aDJ a i.toNat []
 rw[BQ] at e
 rw[c,AC (by decide),show (#[]:Array V9)=([]:List V9).toArray from rfl,e]
 exact ⟨.ref _,_,I.lnew (t':=s.toks) (Fl.aBM r _) (by rw[aMQ];have:sizeLine=16777216:=rfl;rw[D2] at f;omega),rfl,q _ I.fresh⟩
end L2
namespace Fl
open PySem L2 PyProof.Rows
def wH(xs:List Dz):Dz->R (List Dz)
 | .int i=>if xs≠[] /\ -(2 ^ 63:Int)<=i/\i < 2 ^ 63/\xs.length * i.toNat<=16777216 then .ok (List.replicate i.toNat xs).flatten else .bad
 | _=>.bad
def sR(f:Sg->R (List Dz))(g:Sg->R Dz):Sg->R (List Dz):=fun ρ=>(f ρ).bind fun xs=>(g ρ).bind fun y=>wH xs y
section
variable{X:Cx}{c:Ct}{E:XK}{a b:E1}{pos:Pos}
theorem sS{h:Sg->R (List Dz)}{fb:Sg->R Dz}(n:PN X c E a h)(m:PR X c E b fb):PN X c E (.BinOp a .Mult b pos) (sR h fb):=PE.imp (aEL aO3 n m) fun σ H Q ⟨ρ,F,ab,k⟩=>by
 refine ⟨ρ,F,ab,(Rk.bind k).imp fun xs _ q v j H1 s1 r1=>?_⟩
 obtain ⟨p,vs,rfl,e1,e2,o,f⟩:=r1
 refine ⟨ρ,j,ab.ext s1,((Rk.bind q).ext s1).imp fun y _ q u l H2 d r2=>?_⟩
 cases y with
 | int i=>
  unfold wH at q
  dsimp only at q
  split at q
  .rename_i e
   obtain rfl:=bF.int_of r2
   refine ⟨p,vs,i,rfl,rfl,d.hh _ _ e2,fun z=>e.1 ?_,e.2.1,e.2.2.1,by rw[f.length];exact e.2.2.2,fun r g=>?_⟩
   .have:=f.length
    rw[z] at this
    exact EF.mp this.symm
   .exact Rk.ok q (.ref r) l _ ((s1.trans d).trans (Ext.own d.fh g)) ⟨r,_,rfl,bZ (s1.trans d).hh g,aX,bZ d.fh g,zI (f.same d.ff) _⟩
  .exact q.elim
 | _=>exact q.elim
end
def aSB:Dz->Dz->R Dz
 | .bool a,.bool b=>.ok (.bool (a != b))
 | _,_=>.bad
end Fl
namespace Mc
open PySem L2 PyProof.Rows Fl
noncomputable def aK2:Sg->R Fw:=(aS (bU 7 (vD (e2 dIx (eL (eB (aA (eC (.str "out")) (aA (eV 0) aO)))) (e1 dInt (e2 dEq (rV 6) (rV 2))))))
 (jX 5 (cW (aA (e2 dIx (eL (eB (aA (eC (.int 0)) (aA (eC (.str "out")) aO)))) (e1 dInt (e2 dGt (rV 6) (eC (.int 0))))) (aA (e1 dTup (eL (sR (eB (aA (cW (aA (e2 dMod (e2 cQ (rV 6) (eC (.int 1))) (rV 0)) (aA (eC (.int 1)) aO))) aO)) (rV 4)))) (aA (eV 7) aO))))))
noncomputable def aK3:Sg->R Fw:=(jX 5 (cW (aA (e2 dIx (eL (eB (aA (eC (.str "out")) (aA (eC (.str "by")) aO)))) (e1 dInt (e2 dEq (rV 6) (rV 3)))) (aA (e1 dTup (eL (sR (eB (aA (cW (aA (e2 cQ (rV 0) (e2 dMod (e2 cQ (rV 6) (eC (.int 1))) (rV 1))) (aA (e1 dNeg (eC (.int 1))) aO))) aO)) (rV 4)))) (aA (eC (.str "out")) aO)))))
noncomputable def lH:Sg->R Fw:=(aS (fB 5 (eB aO)) (aS (jY (fU (rV 0)) (stN 6) aK2) (aS (jY (fU (rV 1)) (stN 6) aK3) (cI (vD (e1 dTup (rV 5)))))))
noncomputable def d7:List A->R A:=fnF 8 lH
section
variable{rows r1 r2:List (List Nat)}{ws w1 w2:List Str}{sg:Nat}{L:List Nat}{N:Nat}
end
section
variable{rows:List (List Nat)}{ws:List Str}{rs:List Rw}{sg N:Nat}{L:List Nat}
theorem aTX(M:Mach rs sg)(B:aKT rs sg):∃ N,Wy rs sg N/\EndW rs sg 200 N:=by
 obtain ⟨N,c,E⟩:=aD4 rs sg 200
 have b:(bfW rs sg N).length<=200:=B _ (aIG _ _ _) fun x a=>rQ M (n:=N) (by omega) a
 exact ⟨N,⟨M,E.full b,c⟩,E⟩
end
end Mc
namespace Mc
open PySem L2 PyProof.Rows
section
variable{K:Frag}{h:H9}{mg:Str->O9 V9}
theorem aIT{x:Str}{st:Stmt}{ps:List Str}{f Td:Az}{o:V9}{od g:O9 Az}{i sl:Array (O9 V9)}{kV doc pm e ct:V9}{z:Str}{t n:Nat}(X:K.In h)(G:h.Ns mainGlobals mg)
  (a:PySem.W.nsIn K mainGlobals x=some (some (.ref f))) (l:K.lookup f=some ⟨o,od,.func (PySem.W.fnOf x x (dR st) (cG st) (aK st) (.ref Td) kV doc pm g e ct),i⟩)
  (d:K.lookup Td=some ⟨.type "tuple",none,.seq #[.str z t] n,sl⟩)
  (c:PySem.W.codeIn K e x=true) (k:PySem.W.keepIn K (.ref f)=true)
  (b:∀ (Td:Az) (kV doc pm:V9) (g:O9 Az) (e ct u:V9) (us:List V9),us.length=ps.length->∃ q,bindArgs (PySem.W.fnOf x x (dR st) (cG st) (aK st) (.ref Td) kV doc pm g e ct) ⟨us,[]⟩=seqItems? (.ref Td) >>= q/\q (some #[u])=pure (ps.zip us))
  (b2:∀ (Td:Az) (kV doc pm:V9) (g:O9 Az) (e ct u:V9) (us:List V9),us.length+1=ps.length->∃ q,bindArgs (PySem.W.fnOf x x (dR st) (cG st) (aK st) (.ref Td) kV doc pm g e ct) ⟨us,[]⟩=seqItems? (.ref Td) >>= q/\q (some #[u])=pure (ps.zip (us++[u]))):DefAtD K mg x st ps [.str z]:=by
 refine ⟨f,o,od,.ref Td,kV,doc,pm,g,e,ct,i,[.str z t],l,c,k,fun s us m j=>?_,fun s us m j=>?_,.cons ⟨_,rfl⟩ .nil,C4 X G a⟩
 .rw[CH] at j ⊢
  obtain ⟨q,e1,e2⟩:=b Td kV doc pm g e ct (.str z t) us j
  exact PySem.W.binds_K m rfl d rfl e1 e2
 obtain ⟨q,e1,e2⟩:=b2 Td kV doc pm g e ct (.str z t) us (by simpa using j)
 exact PySem.W.binds_K m rfl d rfl e1 e2
end
end Mc
namespace Mc
open PySem L2 PyProof.Rows Fl
noncomputable def raF:Sg->R Fw:=(jX 2 (cW (aA (eA (bM 2 i7 (aA (vV 3) (aA (vV 1) aO)))) (aA (e1 dTup (eL (f7 [none,none,some 1] (e1 cD (rV 4)) (stT [(stN 0),(stN 1)]) fX (cW (aA (e2 cQ (rV 0) (rV 2)) (aA (eV 1) aO)))))) (aA (eA (bM 2 i7 (aA (vV 5) (aA (vV 1) aO)))) aO)))))
noncomputable def jO:Sg->R Fw:=(aS (fB 2 (eB aO)) (aS (jY (e1 cD (eV 0)) (stT [(stN 3),(stN 4),(stN 5)]) raF) (sFz 2 (cI (vV 2)))))
noncomputable def fG:List A->R A:=fnF 6 jO
noncomputable def jnF:Sg->R Fw:=(jX 5 (cW (aA (e2 dIx (eL (eB (aA (eV 6) (aA (e2 dIx (e2 dIx (rV 4) (eC (.int 0))) (eC (.int 0))) aO)))) (e1 dInt (e2 dEq (rV 6) (rV 2)))) (aA (eV 7) (aA (e2 dIx (eL (eB (aA (eV 8) (aA (eV 3) aO)))) (e1 dInt (e2 dEq (rV 8) (rV 2)))) aO)))))
noncomputable def jP:Sg->R Fw:=(aS (bU 3 (vD (e1 dLen (rV 0))))
 (aS (bU 4 (bM 2 fG (aA (vV 1) (aA (vD (e2 cQ (rV 3) (eC (.int 1)))) aO))))
 (aS (fB 5 (eB aO))
 (aS (jY (e1 cD (eV 0)) (stT [(stN 6),(stN 7),(stN 8)]) jnF)
 (aS (jX 5 (cW (aA (e2 dIx (e2 dIx (rV 4) (eC (.int 0))) (eC (.int 0))) (aA (e1 dTup (eL (sR (eB (aA (cW (aA (eV 3) (aA (e1 dNeg (eC (.int 1))) aO))) aO)) (e1 dLen (e2 dIx (e2 dIx (rV 0) (eC (.int 0))) (eC (.int 1))))))) (aA (eC (.str "out")) aO)))))
 (cI (vD (e1 dTup (eL (e2 nZ (rV 5) (rV 4)))))))))))
noncomputable def eE:List A->R A:=fnF 9 jP
noncomputable def aFS:Sg->R Fw:=(aS (bU 4 (vD (e1 dTup (eL (sR (eB (aA (cW (aA (e2 (d2 aBL) (e2 cQ (rV 3) (eC (.int 1))) (rV 0)) (aA (eC (.int 1)) aO))) aO)) (rV 1))))))
 (jX 2 (cW (aA (e2 dIx (eL (eB (aA (eC (.int 0)) (aA (eC (.str "out")) aO)))) (e1 dInt (e2 dGt (rV 3) (eC (.int 0))))) (aA (eV 4) (aA (e2 dIx (eL (eB (aA (eC (.str "by")) (aA (eC (.str "out")) aO)))) (e1 dInt (e2 dEq (rV 3) (rV 0)))) aO))))))
noncomputable def kR:Sg->R Fw:=(aS (fB 2 (eB aO)) (aS (jY (fU (e2 cQ (rV 0) (eC (.int 1)))) (stN 3) aFS) (cI (vD (e1 dTup (rV 2))))))
noncomputable def fE:List A->R A:=fnF 5 kR
noncomputable def duE:Sg->R Dz:=(e2 dIx (eL (eB (aA (eC (.str "out")) (aA (eC (.str "by")) aO)))) (e1 dInt (eOr (tX (e2 dEq (e2 dMod (rV 0) (rV 1)) (rV 2)) (e2 dEq (e2 dMod (rV 0) (rV 3)) (rV 4))) (e2 dLt (rV 0) (rV 5)))))
noncomputable def duF:Sg->R Fw:=(sIf (qX (e1 asB (e2 dLt (e2 dIx (rV 0) (rV 10)) (rV 1))) (pK (e1 asB (e2 dIx (rV 2) (rV 10))))) (bU 9 (vD (e2 cQ (rV 10) (eC (.int 1))))) sNx)
noncomputable def lI:Sg->R Fw:=(aS (aBI (stT [(stN 4),(stN 5),(stN 6),(stN 7)]) (eV 3))
 (aS (fB 8 (f7 [none,some 4,some 6,some 5,some 7,some 1] (e1 cD (rV 0)) (stN 0) fX duE))
 (aS (bU 9 (vD (eC (.int 0))))
 (aS (jY (fU (e1 dLen (rV 0))) (stN 10) duF)
 (sFz 8 (cI (vD (cW (aA (eV 9) (aA (eV 8) aO))))))))))
noncomputable def fV:List A->R A:=fnF 11 lI
noncomputable def gN:Sg->R Fw:=(aS (bU 2 (vD (cW (aA (eC (.str "")) (aA (eC (.int 0)) aO)))))
 (aS (aAF 3 4 bP (aA (vV 0) (aA (vD (e2 dIx (rV 1) (eC (.int 0)))) (aA (vD (e2 dIx (rV 1) (eC (.int 1)))) (aA (vD (e2 dIx (rV 1) (eC (.int 2)))) aO)))) ["NoStrip"] ["TooMany"] (bU 2 (vD (cW (aA (eC (.str "strip")) (aA (eXF 3 ["NoStrip"] "at") aO))))) (bU 2 (vD (cW (aA (eC (.str "many")) (aA (e1 dInt (vN 3 "TooMany" true)) aO))))))
 (cI (vV 2))))
noncomputable def bQ:List A->R A:=fnF 4 gN
noncomputable def aK4:Sg->R Fw:=(bU 1 (vD (e2 cQ (eC (.int 1)) (e2 dMod (eA (bM 2 bB (aA (vV 0) (aA (vD (eC (.int 0))) aO)))) (eC (.int 3))))))
noncomputable def aK5:Sg->R Fw:=(aBI (stT [(stN 2),(stN 3)]) (e2 dIx (eL (eB (aA (cW (aA (eC (.int 2)) (aA (eC (.int 3)) aO))) (aA (cW (aA (eC (.int 3)) (aA (eC (.int 4)) aO))) (aA (cW (aA (eC (.int 5)) (aA (eC (.int 7)) aO))) (aA (cW (aA (eC (.int 1)) (aA (eC (.int 6)) aO))) (aA (cW (aA (eC (.int 4)) (aA (eC (.int 5)) aO))) (aA (cW (aA (eC (.int 3)) (aA (eC (.int 1)) aO))) (aA (cW (aA (eC (.int 1)) (aA (eC (.int 1)) aO))) (aA (cW (aA (eC (.int 8)) (aA (eC (.int 3)) aO))) aO)))))))))) (e2 dMod (eA (bM 2 bB (aA (vV 0) (aA (vD (eC (.int 1))) aO)))) (eC (.int 8)))))
noncomputable def aK6:Sg->R Fw:=(bU 4 (vD (e2 dMod (eA (bM 2 bB (aA (vV 0) (aA (vD (eC (.int 2))) aO)))) (rV 2))))
noncomputable def aK7:Sg->R Fw:=(bU 5 (vD (e2 dMod (eA (bM 2 bB (aA (vV 0) (aA (vD (eC (.int 3))) aO)))) (rV 3))))
noncomputable def aK8:Sg->R Fw:=(bU 6 (bM 5 d7 (aA (vV 2) (aA (vV 3) (aA (vV 4) (aA (vV 5) (aA (vV 1) aO)))))))
noncomputable def aK9:Sg->R Fw:=(bU 7 (vD (e2 dMod (eA (bM 2 bB (aA (vV 0) (aA (vD (eC (.int 4))) aO)))) (eC (.int 14)))))
noncomputable def aFT:Sg->R Fw:=(sIf (e1 asB (e2 dGt (rV 7) (eC (.int 6)))) (bU 7 (vD (eC (.int 0)))) sNx)
noncomputable def yL:Sg->R Fw:=(sIf (e1 asB (e2 dGt (rV 7) (eC (.int 0)))) (bU 6 (bM 3 eE (aA (bM 2 fE (aA (vV 7) (aA (vV 1) aO))) (aA (vV 6) (aA (vD (eC (.str "out"))) aO))))) sNx)
noncomputable def aLA:Sg->R Fw:=(fB 8 (eB (aA (e2 dMod (eA (bM 2 bB (aA (vV 0) (aA (vD (eC (.int 5))) aO)))) (eC (.int 41))) (aA (e2 dMod (eA (bM 2 bB (aA (vV 0) (aA (vD (eC (.int 6))) aO)))) (eC (.int 13))) (aA (e2 dMod (eA (bM 2 bB (aA (vV 0) (aA (vD (eC (.int 7))) aO)))) (eC (.int 41))) aO)))))
noncomputable def aLB:Sg->R Fw:=(fB 9 (f7 [none,some 0,some 8,some 1] (fU (eC (.int 3))) (stN 0) fX (eA (bM 4 cS (aA (vV 1) (aA (vD (e2 cQ (eC (.int 8)) (e2 dMul (eC (.int 12)) (rV 0)))) (aA (vD (e2 dIx (rV 2) (rV 0))) (aA (vV 3) aO))))))))
noncomputable def aFU:Sg->R Fw:=(fB 10 (f7 [none,some 8] (fU (e2 cQ (e2 dMul (e2 dMul (eC (.int 2)) (rV 2)) (rV 3)) (eC (.int 8)))) (stN 0) fX (e2 cQ (e2 cQ (e2 dIx (rV 1) (eC (.int 0))) (e2 dIx (rV 1) (eC (.int 2)))) (e2 dMul (e2 dIx (rV 1) (eC (.int 1))) (rV 0)))))
noncomputable def aFV:Sg->R Fw:=(fB 11 (f7 [none,some 2,some 4,some 3,some 5] (e1 cD (rV 10)) (stN 0) fX (tX (e2 dEq (e2 dMod (rV 0) (rV 1)) (rV 2)) (e2 dEq (e2 dMod (rV 0) (rV 3)) (rV 4)))))
noncomputable def aFW:Sg->R Fw:=(sFz 11 (sFz 10 (aBI (stT [(stN 12),(stN 13)]) (eA (bM 4 fV (aA (vV 10) (aA (vV 7) (aA (vV 11) (aA (vD (cW (aA (eV 2) (aA (eV 3) (aA (eV 4) (aA (eV 5) aO)))))) aO)))))))))
noncomputable def aFX:Sg->R Fw:=(bU 14 (vD (e2 dDiv (e2 dMul (rV 2) (rV 3)) (eA (bM 2 gC (aA (vD (e2 dMul (rV 2) (rV 3))) (aA (vD (e2 dIx (rV 8) (eC (.int 1)))) aO)))))))
noncomputable def aFY:Sg->R Fw:=(sIf (bOr (e1 asB (e2 dNin (eC (.bool true)) (eSl dSl (rV 11) (oSo (rV 12)) oNo))) (e1 asB (e2 dNin (eC (.bool false)) (eSl dSl (rV 11) (oSo (rV 12)) oNo)))) (bU 14 (vD (eC (.int 1)))) sNx)
noncomputable def aAG:Sg->R Fw:=(sIf (e1 asB (e2 dEq (e2 dIx (rV 8) (eC (.int 1))) (eC (.int 0)))) (bU 12 (vD (eC (.int 0)))) sNx)
noncomputable def aFZ:Sg->R Fw:=(bU 15 (bM 4 bP (aA (vV 6) (aA (vD (e2 dIx (rV 9) (eC (.int 0)))) (aA (vD (e2 dIx (rV 9) (eC (.int 1)))) (aA (vD (e2 dIx (rV 9) (eC (.int 2)))) aO))))))
noncomputable def aF0:Sg->R Fw:=(sIf (bOr (e1 asB (e2 dNe (rV 15) (cW (aA (eV 12) (aA (eV 14) (aA (eSl dSl (rV 13) oNo (oSo (e2 cQ (rV 12) (rV 14)))) aO)))))) (bOr (pK (e1 asB (eA (bM 1 g7 (aA (vD (e2 dIx (rV 15) (eC (.int 0)))) aO))))) (pK (e1 asB (eA (bM 1 g7 (aA (vD (e2 dIx (rV 15) (eC (.int 1)))) aO))))))) (cI (vD (eC (.bool false)))) sNx)
noncomputable def aF1:Sg->R Fw:=(bU 16 (vD (e2 dMod (eA (bM 2 bB (aA (vV 0) (aA (vD (eC (.int 44))) aO)))) (e2 cQ (e2 dIx (rV 8) (eC (.int 1))) (eC (.int 1))))))
noncomputable def aF2:Sg->R Fw:=(bU 17 (vD (e2 cQ (e2 cQ (eSl dSl (e2 dIx (rV 9) (eC (.int 1))) oNo (oSo (rV 16))) (e2 dIx (eL (eB (aA (e2 dIx (eC (.str "abcd")) (rV 1)) (aA (eC (.str "A")) (aA (eC (.str " ")) aO))))) (e2 dMod (eA (bM 2 bB (aA (vV 0) (aA (vD (eC (.int 45))) aO)))) (eC (.int 3))))) (eSl dSl (e2 dIx (rV 9) (eC (.int 1))) (oSo (rV 16)) oNo))))
noncomputable def aF3:Sg->R Fw:=(bU 18 (bM 5 d7 (aA (vD (eC (.int 13))) (aA (vD (eC (.int 17))) (aA (vD (eC (.int 3))) (aA (vD (eC (.int 5))) (aA (vV 1) aO)))))))
noncomputable def aF4:Sg->R Fw:=(jY (e1 cD (cW (aA (eV 6) (aA (eV 18) aO)))) (stN 19) (aS (sIf (e1 asB (e2 dNe (eA (bM 2 bQ (aA (vV 19) (aA (vD (eL (eB (aA (e2 dIx (rV 9) (eC (.int 0))) (aA (eV 17) (aA (eC (.str "x")) aO)))))) aO)))) (cW (aA (eC (.str "strip")) (aA (eV 16) aO))))) (cI (vD (eC (.bool false)))) sNx) (sIf (e1 asB (e2 dNe (eA (bM 2 bQ (aA (vV 19) (aA (vD (eL (eB (aA (eC (.str "-")) (aA (eV 17) (aA (eC (.str "")) aO)))))) aO)))) (cW (aA (eC (.str "strip")) (aA (eC (.int 0)) aO))))) (cI (vD (eC (.bool false)))) sNx)))
noncomputable def aF5:Sg->R Fw:=(sFz 9 (cI (vD (e2 dEq (eA (bM 2 bQ (aA (vV 18) (aA (vV 9) aO)))) (cW (aA (eC (.str "many")) (aA (eC (.int 1)) aO)))))))
noncomputable def wI:Sg->R Fw:=aS aK4 (aS aK5 (aS aK6 (aS aK7 (aS aK8 (aS aK9 (aS aFT (aS yL (aS aLA (aS aLB (aS aFU (aS aFV (aS aFW (aS aFX (aS aFY (aS aAG (aS aFZ (aS aF0 (aS aF1 (aS aF2 (aS aF3 (aS aF4 (aF5))))))))))))))))))))))
noncomputable def aF6:List A->R A:=fnF 20 wI
def top(i:Nat):Stmt:=PySem.Challenge.pw_striproam_k37_whole_known_rounds.main.body.getD i (.Pass ⟨0,0,0,0⟩)
def d4:ClSt:=clS "one_way.<locals>.after" ((cG (top 19)).getD 1 (.Pass ⟨0,0,0,0⟩))
def gO:Pos:=aVB ((cG (top 19)).getD 1 (.Pass ⟨0,0,0,0⟩))
def gP:ClSt:=clE "one_way.<locals>.<lambda>" (aRG (aRF ((cG (top 19)).getD 2 (.Pass ⟨0,0,0,0⟩))) 2)
def gT:Pos:=aVC (aRG (aRF ((cG (top 19)).getD 2 (.Pass ⟨0,0,0,0⟩))) 2)
def qsT:List (Pos×Str):=[(gO,("one_way.<locals>.after":Str)),(gT,("one_way.<locals>.<lambda>":Str))]
structure Txt(w:World)(K:Frag)(mg:Str->Option V9):Prop where
 b_bool:mg "bool"=none
 b_enumerate:mg "enumerate"=none
 b_int:mg "int"=none
 b_isinstance:mg "isinstance"=none
 b_len:mg "len"=none
 b_list:mg "list"=none
 b_min:mg "min"=none
 b_range:mg "range"=none
 b_str:mg "str"=none
 b_tuple:mg "tuple"=none
 g_MOST_BEGINNINGS:∃ t,mg "MOST_BEGINNINGS"=some (.int 200 t)
 g_SIGNS:∃ t,mg "SIGNS"=some (.str "abc" t)
section
variable{P:P9}{w:W9}{K:Frag}{mg:Str->O9 V9}{base:H9}{TH:Hp}
theorem tM:FnScope ["machine"] ["machine"] (aK (top 6)):=by constructor<;>first|rfl|decide +kernel
theorem aCS(T:Txt w K mg)(D:DefAt K mg "signs_of" (top 6) ["machine"]):a8 P w K mg base TH 1 "signs_of" ["machine"] gI:=
 @dF P w K mg base TH "signs_of" (top 6) ["machine"] ["machine"] 0 pT D tM (fun f a A outer s H F E b=>by
  have nd:=tM.nd
  exact (Fl.aR (Fl.bY (aQ (fW rfl (cP dY rfl T.b_len BY (aM (aB (aZ (a7 rfl) aL (aB (aZ (a7 rfl) aL (aC (pv 0)) (aB aF))) (aB aF))) aU)))))))
theorem tN:FnScope ["machine","number"] ["machine","number"] (aK (top 7)):=by constructor<;>first|rfl|decide +kernel
theorem aCT(T:Txt w K mg)(D:DefAt K mg "cells_of" (top 7) ["machine","number"]):a8 P w K mg base TH 1 "cells_of" ["machine","number"] jF:=
 @dF P w K mg base TH "cells_of" (top 7) ["machine","number"] ["machine","number"] 0 pU D tN (fun f a A outer s H F E d=>by
  have nd:=tN.nd
  exact (Fl.aR (Fl.bY (aQ (cY (kB (j7 (N:=["row","number"]) (js:=[none,some 1]) rfl (.own (.cap rfl (.inl rfl) (.inl rfl) .nil)) (by rfl) (qZ rfl (aC (pv 0)))) (by decide) (by decide) (is:=[0]) (fun cl C c e b=>⟨_,(bN (i:=0) (show (["row","number"]:List Str).Nodup by decide +kernel) rfl (Or.inl rfl)),(bO 0),Fl.eM,(aZ (a7 rfl) aL (aB (aZ (a7 rfl) aL (aC (pv 0)) (aB aF))) (aC (pv 1)))⟩)))))))
theorem qB:FnScope ["signs","strip","known","at","sign"] ["signs","strip"] (aK (top 8)):=by constructor<;>first|rfl|decide +kernel
theorem zY(T:Txt w K mg)(D:DefAt K mg "checked_by" (top 8) ["signs","strip"]){W_NoStrip C_NoStrip:Az}(a:ErrAt P w K mg base "NoStrip" ["at"] W_NoStrip C_NoStrip):a8 P w K mg base TH 3 "checked_by" ["signs","strip"] iX:=
 @dF P w K mg base TH "checked_by" (top 8) ["signs","strip","known","at","sign"] ["signs","strip"] 2 mY D qB (fun f c A outer s H F E b=>by
  have nd:=qB.nd
  exact (Fl.aG (Fl.aH (L2.aH (i:=2) nd rfl (Or.inl rfl) (aQ (gQ rfl (aB (iU (mH (v:=.str "abc") rfl T.g_SIGNS.choose_spec ⟨_,rfl⟩) fun _=>.str _)) lL (lM (aC (pv 0)))))))
   (Fl.aG (Fl.dA (mU rfl (dD (bO 3) (dD (bO 4) k7)) rfl) (L2.dA (dL ⟨rfl,rfl⟩) rfl (aQU rfl (aMS rfl T.b_enumerate (aM (bG (pv 1)) aU)) (aJO rfl T.b_enumerate (aM (bG (pv 1)) aU))) (mP rfl (dC (bN (i:=3) nd rfl (Or.inl rfl)) (dC (bN (i:=4) nd rfl (Or.inl rfl)) kU)))
   (Fl.aR (Fl.fH (Fl.dS (xL rfl b.units) qW (aC (pv 4)) (aC (pv 2)) (by with_unfolding_all rfl)) (Fl.aR (Fl.tS a.m (by decide) (aG1 rfl a rfl (b.mono (by decide)) (aD (bG (pv 3)) aV)))) Fl.dJ))))
   (Fl.aR (Fl.bY (aT (pv 1)))))))
theorem wJ:FnScope ["machine","strip"] ["machine","strip"] (aK (top 9)):=by constructor<;>first|rfl|decide +kernel
theorem aF7(T:Txt w K mg)(D:DefAt K mg "checked" (top 9) ["machine","strip"])(a:a8 P w K mg base TH 3 "checked_by" ["signs","strip"] iX)(b:a8 P w K mg base TH 1 "signs_of" ["machine"] gI):a8 P w K mg base TH 4 "checked" ["machine","strip"] gJ:=
 @dF P w K mg base TH "checked" (top 9) ["machine","strip"] ["machine","strip"] 3 rF D wJ (fun f d A outer s H F E c=>by
  have nd:=wJ.nd
  exact (Fl.aR (Fl.bY (bX rfl rfl rfl (bW a (c.mono (by decide)) rfl (cE fun _ _ _ h=>h) (aE (bX rfl rfl rfl (bW b (c.mono (by decide)) rfl (cE fun _ _ _ h=>h) (aE (aT (pv 0)) bC))) (aE (aT (pv 1)) bC)))))))
theorem wL:FnScope ["begin","after","done","found","numbers","rows","row","thing"] ["begin","after","done"] (aK (top 11)):=by constructor<;>first|rfl|decide +kernel
theorem aF8(T:Txt w K mg)(D:DefAt K mg "reached" (top 11) ["begin","after","done"]):a8 P w K mg base TH 13 "reached" ["begin","after","done"] kC:=
 @dF P w K mg base TH "reached" (top 11) ["begin","after","done","found","numbers","rows","row","thing"] ["begin","after","done"] 12 rG D wL (fun f b A outer s H F E a=>by
  have nd:=wL.nd
  exact (Fl.aG (iL (L2.aH (i:=3) nd rfl (Or.inl rfl) (dE (aD (bG (pv 0)) aV))))
   (Fl.aG (aNQ rfl rfl (L2.aH (i:=4) nd rfl (Or.inl rfl) (aNO a.units (aJ9 (bG (pv 0)) aF aNP))))
   (Fl.aG (iL (L2.aH (i:=5) nd rfl (Or.inl rfl) (dE aV)))
   (Fl.aG (Fl.dX (L2.dX (dL ⟨rfl,rfl⟩) (PW.pt (Fl.n8 (Fl.dS vE pI (aB (fW rfl (cP dY rfl T.b_len BY (aM (aC (pv 5)) aU)))) (aB (fW rfl (cP dY rfl T.b_len BY (aM (aC (pv 3)) aU)))) (cL _)) (Fl.mI (Fl.lP (Fl.jQ (aNW (m:=12) rfl rfl rfl (a.mono (by decide)) (aBR (pv 2) (cE fun _ _ _ h=>h) (aBT (aC (pv 3)) (aBT (aB (fW rfl (cP dY rfl T.b_len BY (aM (aC (pv 5)) aU)))) aNV)))))))))
   (Fl.aG (iL (L2.aH (i:=6) nd rfl (Or.inl rfl) (dE aV)))
   (Fl.aG (Fl.dA (bO 7) (L2.dA (dL ⟨rfl,rfl⟩) rfl (xN rfl (aQ9 (m:=12) rfl rfl rfl (a.mono (by decide)) (aBR (pv 1) (cE fun _ _ _ h=>h) (aD (aZ (a7 rfl) aL (aC (pv 3)) (aB (fW rfl (cP dY rfl T.b_len BY (aM (aC (pv 5)) aU))))) aV)))) (bN (i:=7) nd rfl (Or.inl rfl))
   (Fl.aG (Fl.fH (vM rfl rfl (n9 (aBH a.units) (bG (pv 7)) (pv 4) (by with_unfolding_all rfl))) (Fl.aG (Fl.sG rfl rfl (mQ (fW rfl (cP dY rfl T.b_len BY (aM (aC (pv 3)) aU))) (uR (pv 4) (bG (pv 7)) (pQ a.units))))
   (Fl.aR (kK rfl (L2.f9 (kF B6 B0 B1 gE (pv 3) (aM (bG (pv 7)) aU)))))) Fl.dJ)
   (Fl.aR (kK rfl (L2.f9 (kF B6 B0 B1 gE (pv 6) (aM (aDI rfl rfl (aDH a.units (pv 4) (bG (pv 7)) (fun _ _=>rfl))) aU))))))))
   (Fl.aR (kK rfl (L2.f9 (kF B6 B0 B1 gE (pv 5) (aM (eQ rfl (cC cR rfl T.b_tuple BL (aM (aC (pv 6)) aU))) aU)))))))))
   (Fl.aR (nH 5 (nH 3 (Fl.bY (aQ (cB (aD (bG (pv 3)) (aD (bG (pv 5)) aV)))))))))))))
end
section
variable{P:P9}{w:W9}{K:Frag}{mg:Str->O9 V9}{base:H9}{TH:Hp}
theorem wM:FnScope ["part"] ["part"] (aK (top 14)):=by constructor<;>first|rfl|decide +kernel
theorem aF9(T:Txt w K mg)(D:DefAt K mg "is_word" (top 14) ["part"]):a8 P w K mg base TH 1 "is_word" ["part"] fR:=
 @dF P w K mg base TH "is_word" (top 14) ["part"] ["part"] 0 nJ D wM (fun f a A outer s H F E b=>by
  have nd:=wM.nd
  exact (Fl.aR (Fl.bY (aQ (vK (cP (pN rfl (aDD _)) rfl T.b_isinstance C6 (aM (aC (pv 0)) (aM (r9 (v:=.ty "str") rfl T.b_str G6 rfl) aU))))))))
theorem nA:FnScope ["machine","lefts"] ["machine"] (aK (top 15)):=by constructor<;>first|rfl|decide +kernel
theorem uI(T:Txt w K mg)(D:DefAt K mg "without_signs" (top 15) ["machine"]):a8 P w K mg base TH 1 "without_signs" ["machine"] gK:=
 @dF P w K mg base TH "without_signs" (top 15) ["machine","lefts"] ["machine"] 0 kN D nA (fun f a A outer s H F E d=>by
  have nd:=nA.nd
  exact (Fl.aG (Fl.aH (L2.aH (i:=1) nd rfl (Or.inl rfl) (aQ (eQ rfl (cC cR rfl T.b_tuple BL (aM (aB (cY (kB (j7 (N:=["row"]) (js:=[none]) rfl (.own .nil) (by rfl) (qZ rfl (aC (pv 0)))) (by decide) (by decide) (is:=[0]) (fun cl C c e b=>⟨_,(bN (i:=0) (show (["row"]:List Str).Nodup by decide +kernel) rfl (Or.inl rfl)),(bO 0),Fl.eM,(aZ (a7 rfl) aL (aC (pv 0)) (aB aF))⟩)))) aU))))))
   (Fl.aR (Fl.bY (aQ (cB (aD (aZ (a7 rfl) aL (aC (pv 1)) (aB aF)) (aD (bG (pv 1)) aV))))))))
theorem wN:FnScope ["backs","cells","room","been","cell"] ["backs","cells","room"] (aK (top 16)):=by constructor<;>first|rfl|decide +kernel
theorem aGA(T:Txt w K mg)(D:DefAt K mg "gone_on" (top 16) ["backs","cells","room"])(a:a8 P w K mg base TH 1 "is_word" ["part"] fR):a8 P w K mg base TH 2 "gone_on" ["backs","cells","room"] iY:=
 @dF P w K mg base TH "gone_on" (top 16) ["backs","cells","room","been","cell"] ["backs","cells","room"] 1 rH D wN (fun f c A outer s H F E b=>by
  have nd:=wN.nd
  exact (Fl.aG (xU rfl (L2.aH (i:=3) nd rfl (Or.inl rfl) xT))
   (Fl.aG (Fl.dX (L2.dX (dL ⟨rfl,rfl⟩) (Fl.lP (Fl.jQ (dB (bX rfl rfl rfl (bW a (b.mono (by decide)) rfl (cE fun _ _ _ h=>h) (aE (aT (pv 2)) bC))))))
   (Fl.aG (Fl.fH (vM rfl rfl (n9 (aDG b.units) (bG (pv 2)) (pv 3) (by with_unfolding_all rfl))) (Fl.aR (Fl.bY (aQ cO))) Fl.dJ)
   (Fl.aG (Fl.sG rfl rfl (mQ pH (uR (pv 3) (bG (pv 2)) (pQ b.units))))
   (Fl.aG (Fl.aH (L2.aH (i:=4) nd rfl (Or.inl rfl) (aQ (aZ (a7 rfl) aL (aC (pv 1)) (aC (pv 2))))))
   (Fl.aG (Fl.fH (Fl.dS (gH rfl b.units) d9 (aB (aZ (a7 rfl) aL (aC (pv 4)) (aB aF))) (aB aF) (cL _)) (Fl.aR (Fl.bY (aQ (aZ (a7 rfl) aL (aC (pv 4)) (aB aF))))) Fl.dJ)
   (Fl.aR (Fl.aH (L2.aH (i:=2) nd rfl (Or.inl rfl) (aQ (aZ (a7 rfl) aL (aC (pv 0)) (aB (aZ (a7 rfl) aL (aC (pv 4)) (aB aF))))))))))))))
   (Fl.aR (Fl.bY (aT (pv 2)))))))
theorem zV:FnScope ["begun","cells","first","backs"] ["begun","cells"] (aK (top 17)):=by constructor<;>first|rfl|decide +kernel
theorem aIU(T:Txt w K mg)(D:DefAt K mg "longer" (top 17) ["begun","cells"])(a:a8 P w K mg base TH 2 "gone_on" ["backs","cells","room"] iY):a8 P w K mg base TH 3 "longer" ["begun","cells"] hX:=
 @dF P w K mg base TH "longer" (top 17) ["begun","cells","first","backs"] ["begun","cells"] 2 t7 D zV (fun f c A outer s H F E b=>by
  have nd:=zV.nd
  exact (Fl.aG (Fl.aH (L2.aH (i:=2) nd rfl (Or.inl rfl) (bX rfl rfl rfl (bW a (b.mono (by decide)) rfl (cE fun _ _ _ h=>h) (aE (aQ (aZ (a7 rfl) aL (aC (pv 0)) (aB aF))) (aE (aT (pv 1)) (aE (aQ (aZ (a7 rfl) aL (aC (pv 0)) (aB aF))) bC)))))))
   (Fl.aG (Fl.aH (L2.aH (i:=3) nd rfl (Or.inl rfl) (aQ (eQ rfl (cC cR rfl T.b_tuple BL (aM (aB (cY (kB (j7 (N:=["room","begun","cells"]) (js:=[none,some 0,some 1]) rfl (.own (.cap rfl (.inl rfl) (.inl rfl) (.cap rfl (.inl rfl) (.inl rfl) .nil))) (by rfl) (vH (iM (fQ rfl T.b_range (aM (aB (fW rfl (cP dY rfl T.b_len BY (aM (aC (pv 1)) aU)))) aU))))) (by decide) (by decide) (is:=[0]) (fun cl C e g d=>⟨_,(bN (i:=0) (show (["room","begun","cells"]:List Str).Nodup by decide +kernel) rfl (Or.inl rfl)),(bO 0),Fl.eM,(dB (bX rfl rfl rfl (bW a (b.mono (by decide)) rfl o8 (aE (aQ (aZ (a7 rfl) aL (aC (pv 1)) (aB aF))) (aE (aT (pv 2)) (aE (aT (pv 0)) bC))))))⟩)))) aU))))))
   (Fl.aR (Fl.bY (aQ (cB (aD (bG (pv 2)) (aD (bG (pv 3)) aV)))))))))
theorem oW:FnScope ["machine","begun","room","been","turn"] ["machine","begun"] (aK (top 18)):=by constructor<;>first|rfl|decide +kernel
theorem yM(T:Txt w K mg)(D:DefAt K mg "word_behind" (top 18) ["machine","begun"])(a:a8 P w K mg base TH 1 "is_word" ["part"] fR):a8 P w K mg base TH 2 "word_behind" ["machine","begun"] eG:=
 @dF P w K mg base TH "word_behind" (top 18) ["machine","begun","room","been","turn"] ["machine","begun"] 1 lX D oW (fun f c A outer s H F E b=>by
  have nd:=oW.nd
  exact (Fl.aG (Fl.aH (L2.aH (i:=2) nd rfl (Or.inl rfl) (aQ (aZ (a7 rfl) aL (aC (pv 1)) (aB aF)))))
   (Fl.aG (xU rfl (L2.aH (i:=3) nd rfl (Or.inl rfl) xT))
   (Fl.aG (Fl.dX (L2.dX (dL ⟨rfl,rfl⟩) (Fl.lP (Fl.jQ (dB (bX rfl rfl rfl (bW a (b.mono (by decide)) rfl (cE fun _ _ _ h=>h) (aE (aT (pv 2)) bC))))))
   (Fl.aG (Fl.fH (vM rfl rfl (n9 (aDG b.units) (bG (pv 2)) (pv 3) (by with_unfolding_all rfl))) (Fl.aR (Fl.bY (aQ cO))) Fl.dJ)
   (Fl.aG (Fl.sG rfl rfl (mQ pH (uR (pv 3) (bG (pv 2)) (pQ b.units))))
   (Fl.aG (Fl.aH (L2.aH (i:=4) nd rfl (Or.inl rfl) (aQ (aZ (a7 rfl) aL (aB (aZ (a7 rfl) aL (aC (pv 0)) (aC (pv 2)))) (aB aF)))))
   (Fl.aR (Fl.aH (L2.aH (i:=2) nd rfl (Or.inl rfl) (aQ (aTA (Fl.jQ (dB (bX rfl rfl rfl (bW a (b.mono (by decide)) rfl (cE fun _ _ _ h=>h) (aE (aT (pv 4)) bC))))) (bG (pv 4)) (aZ (a7 rfl) aL (aB (aZ (a7 rfl) aL (aC (pv 1)) (aB aF))) (aC (pv 4)))))))))))))
   (Fl.aR (Fl.bY (aT (pv 2))))))))
end
section
variable{P:P9}{w:W9}{K:Frag}{mg:Str->O9 V9}{base:H9}{TH:Hp}
theorem gU:CloScope ["begun","columns"] ["begun"] ["columns"] d4.scope:=⟨rfl,rfl,rfl,by decide +kernel,rfl,by decide +kernel,by decide +kernel,by decide +kernel,by decide +kernel⟩
theorem s9:∀ y∈d4.scope.names,y.2=.free->(aK (top 19)).names.lookup y.1=some .cell\/(aK (top 19)).names.lookup y.1=some .free:=by decide +kernel
theorem rR:(gO,("one_way.<locals>.after":Str))∈qsT:=(.head _)
theorem tD:∀ p∈qsT,p.1.line=gO.line->p.1.col=gO.col->p.2=("one_way.<locals>.after":Str):=by decide +kernel
theorem rS(T:Txt w K mg)(a:a8 P w K mg base TH 3 "longer" ["begun","cells"] hX):CloOk P w K mg base TH d4 ["columns"] 4 1 (kM 2 d3):=
 @aRB P w K mg base TH d4 ["begun","columns"] ["begun"] ["columns"] 3 _ d3 rfl gU (fun _ _ _ _ _=>Mc.bn1 fun _=>rfl) (fun f d cl A outer s H F E g b=>by
  have nd:=gU.nd
  exact (Fl.aR (Fl.bY (aQ (cY (kB (j7 (N:=["cells","begun"]) (js:=[none,some 0]) rfl (.own (.cap rfl (.inl rfl) (.inl rfl) .nil)) (by rfl) (qZ rfl (aC (pv 1)))) (by decide) (by decide) (is:=[0]) (fun cl C e h c=>⟨_,(bN (i:=0) (show (["cells","begun"]:List Str).Nodup by decide +kernel) rfl (Or.inl rfl)),(bO 0),Fl.eM,(dB (bX rfl rfl rfl (bW a (b.mono (by decide)) rfl o8 (aE (aT (pv 1)) (aE (aT (pv 0)) bC)))))⟩)))))))
theorem iE:CloScope ["found","at"] ["found","at"] [] gP.scope:=⟨rfl,rfl,rfl,by decide +kernel,rfl,by decide +kernel,by decide +kernel,by decide +kernel,by decide +kernel⟩
theorem uJ:∀ y∈gP.scope.names,y.2=.free->(aK (top 19)).names.lookup y.1=some .cell\/(aK (top 19)).names.lookup y.1=some .free:=by decide +kernel
theorem tE:(gT,("one_way.<locals>.<lambda>":Str))∈qsT:=(.tail _ (.head _))
theorem uK:∀ p∈qsT,p.1.line=gT.line->p.1.col=gT.col->p.2=("one_way.<locals>.<lambda>":Str):=by decide +kernel
theorem tF(T:Txt w K mg):CloOk P w K mg base TH gP [] 1 2 (kM 2 fC):=
 @aRC P w K mg base TH gP ["found","at"] ["found","at"] [] 0 _ (e2 dGt (e1 dLen (rV 0)) (eC (.int 200))) rfl iE (fun _ _ _ _ _=>Mc.bn2 fun _ _=>rfl) (fun f b cl A outer s H F E a c=>by
  have nd:=iE.nd
  exact (gG kI hV (aB (fW rfl (cP dY rfl T.b_len BY (aM (aC (pv 0)) aU)))) (aB (iU (mH (v:=.int 200) rfl T.g_MOST_BEGINNINGS.choose_spec ⟨_,rfl⟩) fun _=>.int _)) (cL _)))
theorem wO:FnScope ["machine","columns","after","search","found"] ["machine"] (aK (top 19)):=by constructor<;>first|rfl|decide +kernel
theorem aGB(T:Txt w K mg)(D:DefAtT K mg base TH qsT "one_way" (top 19) ["machine"])(e:a8 P w K mg base TH 1 "signs_of" ["machine"] gI)(d:a8 P w K mg base TH 1 "cells_of" ["machine","number"] jF)(j:a8 P w K mg base TH 3 "longer" ["begun","cells"] hX)(g:a8 P w K mg base TH 13 "reached" ["begin","after","done"] kC)(b:a8 P w K mg base TH 1 "without_signs" ["machine"] gK)(c:a8 P w K mg base TH 2 "word_behind" ["machine","begun"] eG){Wp_TooMany Cp_TooMany:Az}(a:ErrP K mg "TooMany" Wp_TooMany Cp_TooMany):a8 P w K mg base TH 14 "one_way" ["machine"] fS:=
 @aN4 P w K mg base TH "one_way" (top 19) ["machine","columns","after","search","found"] ["machine"] 13 qsT (fun q=>[(("one_way.<locals>.after":Str),d4)].lookup q) nK D wO (fun f c0 P0 A outer s H F E l n o=>by
  have nd:=wO.nd
  exact (Fl.aG (iL (L2.aH (i:=1) nd rfl (Or.inr rfl) (kB (j7 (N:=["number","machine"]) (js:=[none,some 0]) rfl (.own (.cap rfl (.inl rfl) (.inl rfl) .nil)) (by rfl) (vH (iM (fQ rfl T.b_range (aM (aB (dB (bX rfl rfl rfl (bW e (o.mono (by decide)) rfl (cE fun _ _ _ h=>h) (aE (aT (pv 0)) bC))))) aU))))) (by decide) (by decide) (is:=[0]) (fun cl C r t p=>⟨_,(bN (i:=0) (show (["number","machine"]:List Str).Nodup by decide +kernel) rfl (Or.inl rfl)),(bO 0),Fl.eM,(dB (bX rfl rfl rfl (bW d (o.mono (by decide)) rfl o8 (aE (aT (pv 1)) (aE (aT (pv 0)) bC)))))⟩))))
   (Fl.aG (aN0 (S:=d4) rfl rfl n (L2.aQK rfl l rfl rR tD s9 rfl rfl rfl nd rfl (Or.inl rfl)))
   (Fl.aG (nH 1 (Fl.aH (L2.aH (i:=3) nd rfl (Or.inl rfl) (aRE (js:=[1]) rfl rfl rfl rfl rfl rfl rfl (aN5 ⟨_,rfl,rfl,rfl⟩ aRH) (L2.aQM g (o.mono (by decide)) rfl (cE fun _ _ _ h=>h) (t5 (aTI (bX rfl rfl rfl (bW b (o.mono (by decide)) rfl (cE fun _ _ _ h=>h) (aE (aT (pv 0)) bC)))) (t5 (aN1 (S:=d4) rfl (rS T j) (fun y k=>gU.only (y,.free) k rfl) (fun y k=>BH (gU.cap y k)) rfl (by decide) (pv 2)) (t5 (aRD (S:=gP) rfl n (tF T ) (fun y k=>iE.only (y,.free) k rfl) (fun y k=>BH (iE.cap y k)) rfl (by decide) (L2.aQL rfl l rfl tE uK uJ rfl)) aN2))))))))
   (Fl.aG (Fl.aH (L2.aH (i:=4) nd rfl (Or.inl rfl) (aQ (aZ (a7 rfl) aL (aC (pv 3)) (aB aF)))))
   (Fl.aG (Fl.fH (Fl.dS kI hV (aB (fW rfl (cP dY rfl T.b_len BY (aM (aC (pv 4)) aU)))) (aB (iU (mH (v:=.int 200) rfl T.g_MOST_BEGINNINGS.choose_spec ⟨_,rfl⟩) fun _=>.int _)) (cL _)) (Fl.aR (aHU a.m (L2.zK rfl a rfl (aM (aQ7 (aB (iU (mH (v:=.int 200) rfl T.g_MOST_BEGINNINGS.choose_spec ⟨_,rfl⟩) fun _=>.int _))) aU)))) Fl.dJ)
   (Fl.aR (Fl.bY (aQ (cB (aD (eQ rfl (cC cR rfl T.b_tuple BL (aM (aB (aZ (a7 rfl) aL (aC (pv 3)) (aB aF))) aU))) (aD (eQ rfl (cC cR rfl T.b_tuple BL (aM (aB (cY (kB (j7 (N:=["begun","machine"]) (js:=[none,some 0]) rfl (.own (.cap rfl (.inl rfl) (.inl rfl) .nil)) (by rfl) (qZ rfl (aC (pv 4)))) (by decide) (by decide) (is:=[0]) (fun cl C r t p=>⟨_,(bN (i:=0) (show (["begun","machine"]:List Str).Nodup by decide +kernel) rfl (Or.inl rfl)),(bO 0),Fl.eM,(dB (bX rfl rfl rfl (bW c (o.mono (by decide)) rfl o8 (aE (aT (pv 1)) (aE (aT (pv 0)) bC)))))⟩)))) aU))) aV))))))))))))
theorem rT:FnScope ["reader","room","strip","sign"] ["reader","room","strip"] (aK (top 20)):=by constructor<;>first|rfl|decide +kernel
theorem aCG(T:Txt w K mg)(D:DefAt K mg "room_from" (top 20) ["reader","room","strip"]):a8 P w K mg base TH 1 "room_from" ["reader","room","strip"] eS:=
 @dF P w K mg base TH "room_from" (top 20) ["reader","room","strip","sign"] ["reader","room","strip"] 0 n4 D rT (fun f a A outer s H F E b=>by
  have nd:=rT.nd
  exact (Fl.aG (Fl.dA (bO 3) (L2.dA (dL ⟨rfl,rfl⟩) rfl (xN rfl (bG (pv 2))) (bN (i:=3) nd rfl (Or.inl rfl))
   (Fl.aR (Fl.aH (L2.aH (i:=1) nd rfl (Or.inl rfl) (aQ (aZ (a7 rfl) aL (aB (aZ (a7 rfl) aL (aB (aZ (a7 rfl) aL (aC (pv 0)) (aB aF))) (aC (pv 1)))) (aB (aJ5 (kF G1 PySem.F.slot_str_index PySem.F.type_str_index aJN (aB (iU (mH (v:=.str "abc") rfl T.g_SIGNS.choose_spec ⟨_,rfl⟩) fun _=>.str _)) (aM (aC (pv 3)) aU)) (by intro ρ x h;cases h;exact ⟨_,rfl⟩))))))))))
   (Fl.aR (Fl.bY (aT (pv 1))))))
theorem nO:FnScope ["reader","room","piece","numbers"] ["reader","room","piece"] (aK (top 22)):=by constructor<;>first|rfl|decide +kernel
theorem wP(T:Txt w K mg)(D:DefAt K mg "rooms_passed" (top 22) ["reader","room","piece"])(a:a8 P w K mg base TH 1 "room_from" ["reader","room","strip"] eS):a8 P w K mg base TH 2 "rooms_passed" ["reader","room","piece"] g8:=
 @dF P w K mg base TH "rooms_passed" (top 22) ["reader","room","piece","numbers"] ["reader","room","piece"] 1 lD D nO (fun f c A outer s H F E b=>by
  have nd:=nO.nd
  exact (Fl.aG (xU rfl (L2.aH (i:=3) nd rfl (Or.inl rfl) xT))
   (Fl.aG (Fl.dX (L2.dX (dL ⟨rfl,rfl⟩) (vM rfl rfl (n9 (aBH b.units) (bG (pv 1)) (pv 3) (by with_unfolding_all rfl)))
   (Fl.aG (Fl.sG rfl rfl (mQ (aN8 rfl rfl (cP aHV rfl T.b_len BY (aM (pv 3) aU))) (uR (pv 3) (bG (pv 1)) (pQ b.units))))
   (Fl.aR (Fl.aH (L2.aH (i:=1) nd rfl (Or.inl rfl) (bX rfl rfl rfl (bW a (b.mono (by decide)) rfl (cE fun _ _ _ h=>h) (aE (aT (pv 0)) (aE (aT (pv 1)) (aE (aT (pv 2)) bC)))))))))))
   (Fl.aR (Fl.bY (aQ (cB (aD (cY (aKM rfl (cC (aFK rfl) rfl T.b_list PyProof.Rows.boot_list (aM (pv 3) aU)))) (aD (aDI rfl rfl (aDH b.units (pv 3) (bG (pv 1)) (fun _ _=>rfl))) aV)))))))))
theorem oX:FnScope ["words","length"] ["words"] (aK (top 23)):=by constructor<;>first|rfl|decide +kernel
theorem yN(T:Txt w K mg)(D:DefAt K mg "least_round" (top 23) ["words"]):a8 P w K mg base TH 1 "least_round" ["words"] gL:=
 @dF P w K mg base TH "least_round" (top 23) ["words","length"] ["words"] 0 kQ D oX (fun f a A outer s H F E b=>by
  have nd:=oX.nd
  exact (Fl.aG (Fl.aH (L2.aH (i:=1) nd rfl (Or.inl rfl) (aQ aF)))
   (Fl.aG (Fl.dX (L2.dX (dL ⟨rfl,rfl⟩) (Fl.dS (vF rfl b.units) pJ (aB (cY (aHQ rfl (aB (gQ rfl (aC (pv 0)) (lM (aC (pv 1))) lL)) (aB (gQ rfl (aC (pv 0)) lL (lM (aC (pv 1)))))))) (aC (pv 0)) (cL _))
   (Fl.aR (Fl.qF aND (L2.qF (i:=1) nd rfl (Or.inl rfl) (aB aF) aPW)))))
   (Fl.aR (Fl.bY (aT (pv 1)))))))
theorem oY:FnScope ["machine","ahead","again","behind","strip","reader","passed","words","start","length"] ["machine","ahead","again","behind"] (aK (top 24)):=by constructor<;>first|rfl|decide +kernel
theorem yO(T:Txt w K mg)(D:DefAtD K mg "comes_round" (top 24) ["machine","ahead","again","behind"] [.str ""])(d:a8 P w K mg base TH 4 "checked" ["machine","strip"] gJ)(e:a8 P w K mg base TH 14 "one_way" ["machine"] fS)(b:a8 P w K mg base TH 2 "rooms_passed" ["reader","room","piece"] g8)(a:a8 P w K mg base TH 1 "room_from" ["reader","room","strip"] eS)(c:a8 P w K mg base TH 1 "least_round" ["words"] gL):sQ P w K mg base TH 15 "comes_round" ["machine","ahead","again","behind"] [.str ""] bP:=
 @aK0 P w K mg base TH "comes_round" (top 24) ["machine","ahead","again","behind","strip","reader","passed","words","start","length"] ["machine","ahead","again","behind"] [.str ""] 14 fD D oY (fun f j A outer s H F E g=>by
  have nd:=oY.nd
  exact (Fl.aG (Fl.dA (bO 4) (L2.dA (dL ⟨rfl,rfl⟩) rfl (xN rfl (cB (aD (bG (pv 1)) (aD (bG (pv 2)) (aD (bG (pv 3)) aV))))) (bN (i:=4) nd rfl (Or.inl rfl))
   (Fl.aR (Fl.f9 (L2.f9 (bX rfl rfl rfl (bW d (g.mono (by decide)) rfl (cE fun _ _ _ h=>h) (aE (aT (pv 0)) (aE (aT (pv 4)) bC)))))))))
   (Fl.aG (Fl.aH (L2.aH (i:=5) nd rfl (Or.inr rfl) (bX rfl rfl rfl (bW e (g.mono (by decide)) rfl (cE fun _ _ _ h=>h) (aE (aT (pv 0)) bC)))))
   (Fl.aG (Fl.aH (L2.aH (i:=6) nd rfl (Or.inl rfl) (bX rfl rfl rfl (bW b (g.mono (by decide)) rfl (cE fun _ _ _ h=>h) (aE (aT (pv 5)) (aE (bX rfl rfl rfl (bW a (g.mono (by decide)) rfl (cE fun _ _ _ h=>h) (aE (aT (pv 5)) (aE (aQ aF) (aE (aT (pv 1)) bC))))) (aE (aT (pv 2)) bC)))))))
   (Fl.aG (oJ (L2.kG (i:=7) nd rfl (Or.inl rfl) (by rfl) (N:=["room","reader","behind"]) (js:=[none,some 5,some 3]) rfl (.own (.cap rfl (.inl rfl) (.inl rfl) (.cap rfl (.inl rfl) (.inl rfl) .nil))) (by rfl) (qZ rfl (aB (aZ (a7 rfl) aL (aC (pv 6)) (aB aF))))) (by decide) (by decide) (is:=[0]) (fun cl C l m k=>⟨_,(bN (i:=0) (show (["room","reader","behind"]:List Str).Nodup by decide +kernel) rfl (Or.inl rfl)),(bO 0),Fl.eM,(aZ (a7 rfl) aL (aB (aZ (a7 rfl) aL (aC (pv 1)) (aB aF))) (aB (dB (bX rfl rfl rfl (bW a (g.mono (by decide)) rfl o8 (aE (aT (pv 1)) (aE (aT (pv 0)) (aE (aT (pv 2)) bC))))))))⟩))
   (Fl.aG (Fl.aH (L2.aH (i:=8) nd rfl (Or.inl rfl) (aQ (aZ (a7 rfl) aL (aC (pv 6)) (aB aF)))))
   (Fl.aG (Fl.aH (L2.aH (i:=9) nd rfl (Or.inl rfl) (bX rfl rfl rfl (bW c (g.mono (by decide)) rfl (cE fun _ _ _ h=>h) (aE (aQ (gQ rfl (aC (pv 7)) (lM (aC (pv 8))) lL)) bC)))))
   (Fl.aG (Fl.dX (L2.dX (dL ⟨rfl,rfl⟩) (PW.pt (Fl.n8 (Fl.dS kI hV (aC (pv 8)) (aB aF) (cL _)) (Fl.mI (Fl.dS (gH rfl g.units) d9 (aB (aZ (a7 rfl) aL (aC (pv 7)) (aB (aW aC8 zE (aC (pv 8)) (aB aF))))) (aB (aZ (a7 rfl) aL (aC (pv 7)) (aB (aW (cN rfl) bT (aB (aW aC8 zE (aC (pv 8)) (aB aF))) (aC (pv 9)))))) (cL _)))))
   (Fl.aR (Fl.qF aNE (L2.qF (i:=8) nd rfl (Or.inl rfl) (aB aF) aPX)))))
   (Fl.aR (Fl.bY (aQ (cB (aD (bG (pv 8)) (aD (bG (pv 9)) (aD (gQ rfl (aC (pv 7)) lL (lM (aB (aW (cN rfl) bT (aC (pv 8)) (aC (pv 9)))))) aV)))))))))))))))
end
section
variable{P:P9}{w:W9}{K:Frag}{mg:Str->O9 V9}{base:H9}{TH:Hp}
theorem rW:FnScope ["_law_script","_law_k","_law_cell_here","_law_mixed"] ["_law_script","_law_k"] (aK (top 26)):=by constructor<;>first|rfl|decide +kernel
theorem aCH(T:Txt w K mg)(D:DefAt K mg "_law_cell" (top 26) ["_law_script","_law_k"]):a8 P w K mg base TH 1 "_law_cell" ["_law_script","_law_k"] bB:=
 @dF P w K mg base TH "_law_cell" (top 26) ["_law_script","_law_k","_law_cell_here","_law_mixed"] ["_law_script","_law_k"] 0 lN D rW (fun f a A outer s H F E b=>by
  have nd:=rW.nd
  exact (Fl.aG (Fl.aH (L2.aH (i:=2) nd rfl (Or.inl rfl) (aQ aF)))
   (Fl.aG (Fl.fH (Fl.dS kI hV (aB (fW rfl (cP dY rfl T.b_len BY (aM (aC (pv 0)) aU)))) (aB aF) (cL _)) (Fl.aR (Fl.aH (L2.aH (i:=2) nd rfl (Or.inl rfl) (aQ (aZ (a7 rfl) aL (aC (pv 0)) (aB (aW cT b8 (aC (pv 1)) (aB (fW rfl (cP dY rfl T.b_len BY (aM (aC (pv 0)) aU))))))))))) Fl.dJ)
   (Fl.aG (Fl.aH (L2.aH (i:=3) nd rfl (Or.inl rfl) (aQ (aW cT b8 (aB (aW gZ eY (aB (aW (cN rfl) bT (aB (aW (cN rfl) bT (aB (aW cT b8 (aC (pv 2)) (aB aF))) (aB (aW gZ eY (aB aF) (aC (pv 1)))))) (aB aF))) (aB aF))) (aB aF)))))
   (Fl.aR (Fl.bY (aQ (aW (cN rfl) bT (aB (aW gZ eY (aB (aW xK qV (aC (pv 2)) (aB aF))) (aB aF))) (aB (aW cT b8 (aB (aW (cN rfl) bT (aB (aW gZ eY (aC (pv 3)) (aB aF))) (aB (aW gZ eY (aB aF) (aC (pv 1)))))) (aB aF)))))))))))
theorem qD:FnScope ["_law_script","_law_at","_law_size","_law_signs","_law_number","_law_strip_here","_law_k"] ["_law_script","_law_at","_law_size","_law_signs"] (aK (top 27)):=by constructor<;>first|rfl|decide +kernel
theorem zZ(T:Txt w K mg)(D:DefAt K mg "_law_strip" (top 27) ["_law_script","_law_at","_law_size","_law_signs"])(a:a8 P w K mg base TH 1 "_law_cell" ["_law_script","_law_k"] bB):a8 P w K mg base TH 2 "_law_strip" ["_law_script","_law_at","_law_size","_law_signs"] cS:=
 @dF P w K mg base TH "_law_strip" (top 27) ["_law_script","_law_at","_law_size","_law_signs","_law_number","_law_strip_here","_law_k"] ["_law_script","_law_at","_law_size","_law_signs"] 1 i6 D qD (fun f c A outer s H F E b=>by
  have nd:=qD.nd
  exact (Fl.aG (Fl.fH (PW.pt (Fl.n8 (Fl.dS vE pI (aC (pv 1)) (aB (fW rfl (cP dY rfl T.b_len BY (aM (aC (pv 0)) aU)))) (cL _)) (Fl.mI (Fl.dS (gH rfl b.units) d9 (aB (aW cT b8 (aB (aZ (a7 rfl) aL (aC (pv 0)) (aB aF))) (aB aF))) (aB aF) (cL _))))) (Fl.aG (Fl.aH (L2.aH (i:=4) nd rfl (Or.inl rfl) (aQ (aZ (a7 rfl) aL (aC (pv 0)) (aC (pv 1))))))
   (Fl.aG (Fl.aH (L2.aH (i:=5) nd rfl (Or.inl rfl) (aQ cO)))
   (Fl.aG (Fl.dA (bO 6) (L2.dA (dL ⟨rfl,rfl⟩) rfl (iM (fQ rfl T.b_range (aM (aC (pv 2)) aU))) (bN (i:=6) nd rfl (Or.inl rfl))
   (Fl.aG (Fl.aH (L2.aH (i:=5) nd rfl (Or.inl rfl) (aQ (aW (cN rfl) bT (aC (pv 5)) (aB (aZ (a7 rfl) aL (aB cO) (aB (aW cT b8 (aC (pv 4)) (aC (pv 3))))))))))
   (Fl.aR (Fl.aH (L2.aH (i:=4) nd rfl (Or.inl rfl) (aQ (aW xK qV (aC (pv 4)) (aC (pv 3))))))))))
   (Fl.aR (Fl.bY (aT (pv 5))))))) Fl.dJ)
   (Fl.aR (Fl.bY (aQ (aNI rfl (kF G1 PySem.F.slot_str_join PySem.F.type_str_join aM0 (aB cO) (aM (aB (cY (kB (j7 (N:=["_law_k","_law_script","_law_at","_law_signs"]) (js:=[none,some 0,some 1,some 3]) rfl (.own (.cap rfl (.inl rfl) (.inl rfl) (.cap rfl (.inl rfl) (.inl rfl) (.cap rfl (.inl rfl) (.inl rfl) .nil)))) (by rfl) (vH (iM (fQ rfl T.b_range (aM (aC (pv 2)) aU))))) (by decide) (by decide) (is:=[0]) (fun cl C e g d=>⟨_,(bN (i:=0) (show (["_law_k","_law_script","_law_at","_law_signs"]:List Str).Nodup by decide +kernel) rfl (Or.inl rfl)),(bO 0),Fl.eM,(aZ (a7 rfl) aL (aB cO) (aB (aW cT b8 (aB (dB (bX rfl rfl rfl (bW a (b.mono (by decide)) rfl o8 (aE (aT (pv 1)) (aE (aQ (aW (cN rfl) bT (aC (pv 2)) (aC (pv 0)))) bC)))))) (aC (pv 3)))))⟩)))) aU)) (by intro ρ x h;cases h;exact ⟨_,rfl⟩)))))))
theorem qE:FnScope ["_law_found"] ["_law_found"] (aK (top 28)):=by constructor<;>first|rfl|decide +kernel
theorem z0(T:Txt w K mg)(D:DefAt K mg "_law_whole" (top 28) ["_law_found"]):a8 P w K mg base TH 1 "_law_whole" ["_law_found"] g7:=
 @dF P w K mg base TH "_law_whole" (top 28) ["_law_found"] ["_law_found"] 0 m4 D qE (fun f a A outer s H F E b=>by
  have nd:=qE.nd
  exact (Fl.aR (Fl.bY (aQ (aBD (vK (cP (pN rfl (aNH _)) rfl T.b_isinstance C6 (aM (aC (pv 0)) (aM (r9 (v:=.ty "int") rfl T.b_int B4 rfl) aU)))) (vG (aQR (vK (cP (pN rfl (aJ2 _)) rfl T.b_isinstance C6 (aM (aC (pv 0)) (aM (r9 (v:=.ty "bool") rfl T.b_bool PyProof.Rows.boot_bool rfl) aU)))))))))))
theorem nQ:FnScope ["_law_p","_law_q","_law_a","_law_b","_law_signs","_law_rows","_law_k","_law_there"] ["_law_p","_law_q","_law_a","_law_b","_law_signs"] (aK (top 29)):=by constructor<;>first|rfl|decide +kernel
theorem wQ(T:Txt w K mg)(D:DefAt K mg "_law_sweeper" (top 29) ["_law_p","_law_q","_law_a","_law_b","_law_signs"]):a8 P w K mg base TH 1 "_law_sweeper" ["_law_p","_law_q","_law_a","_law_b","_law_signs"] d7:=
 @dF P w K mg base TH "_law_sweeper" (top 29) ["_law_p","_law_q","_law_a","_law_b","_law_signs","_law_rows","_law_k","_law_there"] ["_law_p","_law_q","_law_a","_law_b","_law_signs"] 0 lH D nQ (fun f b A outer s H F E a=>by
  have nd:=nQ.nd
  exact (Fl.aG (iL (L2.aH (i:=5) nd rfl (Or.inl rfl) (dE aV)))
   (Fl.aG (Fl.dA (bO 6) (L2.dA (dL ⟨rfl,rfl⟩) rfl (iM (fQ rfl T.b_range (aM (aC (pv 0)) aU))) (bN (i:=6) nd rfl (Or.inl rfl))
   (Fl.aG (Fl.aH (L2.aH (i:=7) nd rfl (Or.inl rfl) (aQ (aZ (a7 rfl) aL (aB (cY (dE (aD cO (aD (bG (pv 0)) aV))))) (aB (jD (cC gD rfl T.b_int B4 (aM (aB (gG (gH rfl a.units) d9 (aC (pv 6)) (aC (pv 2)) (cL _))) aU))))))))
   (Fl.aR (kK rfl (L2.f9 (kF B6 B0 B1 gE (pv 5) (aM (cB (aD (aZ (a7 rfl) aL (aB (cY (dE (aD aF (aD cO aV))))) (aB (jD (cC gD rfl T.b_int B4 (aM (aB (gG kI hV (aC (pv 6)) (aB aF) (cL _))) aU))))) (aD (eQ rfl (cC cR rfl T.b_tuple BL (aM (aB (cY (sS (dE (aD (cB (aD (aW cT b8 (aB (aW (cN rfl) bT (aC (pv 6)) (aB aF))) (aC (pv 0))) (aD aF aV))) aV)) (aC (pv 4))))) aU))) (aD (bG (pv 7)) aV)))) aU))))))))
   (Fl.aG (Fl.dA (bO 6) (L2.dA (dL ⟨rfl,rfl⟩) rfl (iM (fQ rfl T.b_range (aM (aC (pv 1)) aU))) (bN (i:=6) nd rfl (Or.inl rfl))
   (Fl.aR (kK rfl (L2.f9 (kF B6 B0 B1 gE (pv 5) (aM (cB (aD (aZ (a7 rfl) aL (aB (cY (dE (aD cO (aD cO aV))))) (aB (jD (cC gD rfl T.b_int B4 (aM (aB (gG (gH rfl a.units) d9 (aC (pv 6)) (aC (pv 3)) (cL _))) aU))))) (aD (eQ rfl (cC cR rfl T.b_tuple BL (aM (aB (cY (sS (dE (aD (cB (aD (aW (cN rfl) bT (aC (pv 0)) (aB (aW cT b8 (aB (aW (cN rfl) bT (aC (pv 6)) (aB aF))) (aC (pv 1))))) (aD (aLX aC9 zF (aB aF)) aV))) aV)) (aC (pv 4))))) aU))) (aD cO aV)))) aU)))))))
   (Fl.aR (Fl.bY (aQ (eQ rfl (cC cR rfl T.b_tuple BL (aM (aC (pv 5)) aU))))))))))
theorem wR:FnScope ["_law_end","_law_by"] ["_law_end","_law_by"] (aK (top 30)):=by constructor<;>first|rfl|decide +kernel
theorem aGC(T:Txt w K mg)(D:DefAt K mg "_law_up" (top 30) ["_law_end","_law_by"]):a8 P w K mg base TH 1 "_law_up" ["_law_end","_law_by"] i7:=
 @dF P w K mg base TH "_law_up" (top 30) ["_law_end","_law_by"] ["_law_end","_law_by"] 0 nN D wR (fun f a A outer s H F E b=>by
  have nd:=wR.nd
  exact (Fl.aG (Fl.fH (Fl.jQ (vK (cP (pN rfl (aDD _)) rfl T.b_isinstance C6 (aM (aC (pv 0)) (aM (r9 (v:=.ty "str") rfl T.b_str G6 rfl) aU))))) (Fl.aR (Fl.bY (aT (pv 0)))) Fl.dJ)
   (Fl.aR (Fl.bY (aQ (aW (cN rfl) bT (aC (pv 0)) (aC (pv 1))))))))
end
section
variable{P:P9}{w:W9}{K:Frag}{mg:Str->O9 V9}{base:H9}{TH:Hp}
theorem oZ:FnScope ["_law_machine","_law_by","_law_rows","_law_left","_law_cells","_law_right"] ["_law_machine","_law_by"] (aK (top 31)):=by constructor<;>first|rfl|decide +kernel
theorem yP(T:Txt w K mg)(D:DefAt K mg "_law_raised" (top 31) ["_law_machine","_law_by"])(a:a8 P w K mg base TH 1 "_law_up" ["_law_end","_law_by"] i7):a8 P w K mg base TH 2 "_law_raised" ["_law_machine","_law_by"] fG:=
 @dF P w K mg base TH "_law_raised" (top 31) ["_law_machine","_law_by","_law_rows","_law_left","_law_cells","_law_right"] ["_law_machine","_law_by"] 1 jO D oZ (fun f c A outer s H F E b=>by
  have nd:=oZ.nd
  exact (Fl.aG (iL (L2.aH (i:=2) nd rfl (Or.inl rfl) (dE aV)))
   (Fl.aG (Fl.dA (mU rfl (dD (bO 3) (dD (bO 4) (dD (bO 5) k7))) rfl) (L2.dA (dL ⟨rfl,rfl⟩) rfl (xN rfl (bG (pv 0))) (mP rfl (dC (bN (i:=3) nd rfl (Or.inl rfl)) (dC (bN (i:=4) nd rfl (Or.inl rfl)) (dC (bN (i:=5) nd rfl (Or.inl rfl)) kU))))
   (Fl.aR (kK rfl (L2.f9 (kF B6 B0 B1 gE (pv 2) (aM (cB (aD (dB (bX rfl rfl rfl (bW a (b.mono (by decide)) rfl (cE fun _ _ _ h=>h) (aE (aT (pv 3)) (aE (aT (pv 1)) bC))))) (aD (eQ rfl (cC cR rfl T.b_tuple BL (aM (aB (cY (kB (j7 (N:=["_law_there","_law_step","_law_by"]) (js:=[none,none,some 1]) rfl (.own (.own (.cap rfl (.inl rfl) (.inl rfl) .nil))) (by rfl) (qZ rfl (aC (pv 4)))) (by decide) (by decide) (is:=[0,1]) (fun cl C e g d=>⟨_,(mP rfl (dC (bN (i:=0) (show (["_law_there","_law_step","_law_by"]:List Str).Nodup by decide +kernel) rfl (Or.inl rfl)) (dC (bN (i:=1) (show (["_law_there","_law_step","_law_by"]:List Str).Nodup by decide +kernel) rfl (Or.inl rfl)) kU))),(mU rfl (dD (bO 0) (dD (bO 1) k7)) rfl),Fl.eM,(cB (aD (aW (cN rfl) bT (aC (pv 0)) (aC (pv 2))) (aD (bG (pv 1)) aV)))⟩)))) aU))) (aD (dB (bX rfl rfl rfl (bW a (b.mono (by decide)) rfl (cE fun _ _ _ h=>h) (aE (aT (pv 5)) (aE (aT (pv 1)) bC))))) aV)))) aU)))))))
   (Fl.aR (nH 2 (Fl.bY (aT (pv 2))))))))
theorem o0:FnScope ["_law_one","_law_two","_law_word","_law_back","_law_rest","_law_rows","_law_left","_law_cells","_law_right"] ["_law_one","_law_two","_law_word"] (aK (top 32)):=by constructor<;>first|rfl|decide +kernel
theorem yQ(T:Txt w K mg)(D:DefAt K mg "_law_joined" (top 32) ["_law_one","_law_two","_law_word"])(a:a8 P w K mg base TH 2 "_law_raised" ["_law_machine","_law_by"] fG):a8 P w K mg base TH 3 "_law_joined" ["_law_one","_law_two","_law_word"] eE:=
 @dF P w K mg base TH "_law_joined" (top 32) ["_law_one","_law_two","_law_word","_law_back","_law_rest","_law_rows","_law_left","_law_cells","_law_right"] ["_law_one","_law_two","_law_word"] 2 jP D o0 (fun f c A outer s H F E b=>by
  have nd:=o0.nd
  exact (Fl.aG (Fl.aH (L2.aH (i:=3) nd rfl (Or.inl rfl) (aQ (fW rfl (cP dY rfl T.b_len BY (aM (aC (pv 0)) aU))))))
   (Fl.aG (Fl.aH (L2.aH (i:=4) nd rfl (Or.inl rfl) (bX rfl rfl rfl (bW a (b.mono (by decide)) rfl (cE fun _ _ _ h=>h) (aE (aT (pv 1)) (aE (aQ (aW (cN rfl) bT (aC (pv 3)) (aB aF))) bC))))))
   (Fl.aG (iL (L2.aH (i:=5) nd rfl (Or.inl rfl) (dE aV)))
   (Fl.aG (Fl.dA (mU rfl (dD (bO 6) (dD (bO 7) (dD (bO 8) k7))) rfl) (L2.dA (dL ⟨rfl,rfl⟩) rfl (xN rfl (bG (pv 0))) (mP rfl (dC (bN (i:=6) nd rfl (Or.inl rfl)) (dC (bN (i:=7) nd rfl (Or.inl rfl)) (dC (bN (i:=8) nd rfl (Or.inl rfl)) kU))))
   (Fl.aR (kK rfl (L2.f9 (kF B6 B0 B1 gE (pv 5) (aM (cB (aD (aZ (a7 rfl) aL (aB (cY (dE (aD (bG (pv 6)) (aD (aZ (a7 rfl) aL (aB (aZ (a7 rfl) aL (aC (pv 4)) (aB aF))) (aB aF)) aV))))) (aB (jD (cC gD rfl T.b_int B4 (aM (aB (gG (gH rfl b.units) d9 (aC (pv 6)) (aC (pv 2)) (cL _))) aU))))) (aD (bG (pv 7)) (aD (aZ (a7 rfl) aL (aB (cY (dE (aD (bG (pv 8)) (aD (bG (pv 3)) aV))))) (aB (jD (cC gD rfl T.b_int B4 (aM (aB (gG (gH rfl b.units) d9 (aC (pv 8)) (aC (pv 2)) (cL _))) aU))))) aV)))) aU)))))))
   (Fl.aG (kK rfl (L2.f9 (kF B6 B0 B1 gE (pv 5) (aM (cB (aD (aZ (a7 rfl) aL (aB (aZ (a7 rfl) aL (aC (pv 4)) (aB aF))) (aB aF)) (aD (eQ rfl (cC cR rfl T.b_tuple BL (aM (aB (cY (sS (dE (aD (cB (aD (bG (pv 3)) (aD (aLX aC9 zF (aB aF)) aV))) aV)) (aB (fW rfl (cP dY rfl T.b_len BY (aM (aB (aZ (a7 rfl) aL (aB (aZ (a7 rfl) aL (aC (pv 0)) (aB aF))) (aB aF))) aU))))))) aU))) (aD cO aV)))) aU))))
   (Fl.aR (Fl.bY (aQ (eQ rfl (cC cR rfl T.b_tuple BL (aM (aB (cY (aHQ rfl (aC (pv 5)) (aC (pv 4))))) aU))))))))))))
theorem o3:FnScope ["_law_one","_law_two","_law_rest"] ["_law_one","_law_two"] (aK (top 33)):=by constructor<;>first|rfl|decide +kernel
theorem yR(T:Txt w K mg)(D:DefAt K mg "_law_shared" (top 33) ["_law_one","_law_two"]):a8 P w K mg base TH 1 "_law_shared" ["_law_one","_law_two"] gC:=
 @dF P w K mg base TH "_law_shared" (top 33) ["_law_one","_law_two","_law_rest"] ["_law_one","_law_two"] 0 lY D o3 (fun f a A outer s H F E b=>by
  have nd:=o3.nd
  exact (Fl.aG (Fl.dX (L2.dX (dL ⟨rfl,rfl⟩) (Fl.dS kI hV (aC (pv 1)) (aB aF) (cL _))
   (Fl.aG (Fl.aH (L2.aH (i:=2) nd rfl (Or.inl rfl) (aQ (aW cT b8 (aC (pv 0)) (aC (pv 1))))))
   (Fl.aG (Fl.aH (L2.aH (i:=0) nd rfl (Or.inl rfl) (aT (pv 1))))
   (Fl.aR (Fl.aH (L2.aH (i:=1) nd rfl (Or.inl rfl) (aT (pv 2)))))))))
   (Fl.aR (Fl.bY (aT (pv 0))))))
theorem rX:FnScope ["_law_many","_law_signs","_law_rows","_law_room","_law_cells"] ["_law_many","_law_signs"] (aK (top 34)):=by constructor<;>first|rfl|decide +kernel
theorem aCI(T:Txt w K mg)(D:DefAt K mg "_law_less" (top 34) ["_law_many","_law_signs"]):a8 P w K mg base TH 1 "_law_less" ["_law_many","_law_signs"] fE:=
 @dF P w K mg base TH "_law_less" (top 34) ["_law_many","_law_signs","_law_rows","_law_room","_law_cells"] ["_law_many","_law_signs"] 0 kR D rX (fun f a A outer s H F E b=>by
  have nd:=rX.nd
  exact (Fl.aG (iL (L2.aH (i:=2) nd rfl (Or.inl rfl) (dE aV)))
   (Fl.aG (Fl.dA (bO 3) (L2.dA (dL ⟨rfl,rfl⟩) rfl (iM (fQ rfl T.b_range (aM (aB (aW (cN rfl) bT (aC (pv 0)) (aB aF))) aU))) (bN (i:=3) nd rfl (Or.inl rfl))
   (Fl.aG (Fl.aH (L2.aH (i:=4) nd rfl (Or.inl rfl) (aQ (eQ rfl (cC cR rfl T.b_tuple BL (aM (aB (cY (sS (dE (aD (cB (aD (aQY (G:=aBL) (cP (aGN rfl) rfl T.b_min PyProof.Rows.boot_min (aM (aB (aW (cN rfl) bT (aC (pv 3)) (aB aF))) (aM (aC (pv 0)) aU)))) (aD aF aV))) aV)) (aC (pv 1))))) aU))))))
   (Fl.aR (kK rfl (L2.f9 (kF B6 B0 B1 gE (pv 2) (aM (cB (aD (aZ (a7 rfl) aL (aB (cY (dE (aD aF (aD cO aV))))) (aB (jD (cC gD rfl T.b_int B4 (aM (aB (gG kI hV (aC (pv 3)) (aB aF) (cL _))) aU))))) (aD (bG (pv 4)) (aD (aZ (a7 rfl) aL (aB (cY (dE (aD cO (aD cO aV))))) (aB (jD (cC gD rfl T.b_int B4 (aM (aB (gG (gH rfl b.units) d9 (aC (pv 3)) (aC (pv 0)) (cL _))) aU))))) aV)))) aU))))))))
   (Fl.aR (Fl.bY (aQ (eQ rfl (cC cR rfl T.b_tuple BL (aM (aC (pv 2)) aU)))))))))
theorem tO:FnScope ["_law_numbers","_law_least_many","_law_by","_law_rests","_law_p","_law_q","_law_a","_law_b","_law_words","_law_start","_law_k"] ["_law_numbers","_law_least_many","_law_by","_law_rests"] (aK (top 35)):=by constructor<;>first|rfl|decide +kernel
theorem aCU(T:Txt w K mg)(D:DefAt K mg "_law_due" (top 35) ["_law_numbers","_law_least_many","_law_by","_law_rests"]):a8 P w K mg base TH 1 "_law_due" ["_law_numbers","_law_least_many","_law_by","_law_rests"] fV:=
 @dF P w K mg base TH "_law_due" (top 35) ["_law_numbers","_law_least_many","_law_by","_law_rests","_law_p","_law_q","_law_a","_law_b","_law_words","_law_start","_law_k"] ["_law_numbers","_law_least_many","_law_by","_law_rests"] 0 lI D tO (fun f b A outer s H F E a=>by
  have nd:=tO.nd
  exact (Fl.aG (aBJ (mU rfl (dD (bO 4) (dD (bO 5) (dD (bO 6) (dD (bO 7) k7)))) rfl) (mQ (bG (pv 3)) (mP rfl (dC (bN (i:=4) nd rfl (Or.inr rfl)) (dC (bN (i:=5) nd rfl (Or.inr rfl)) (dC (bN (i:=6) nd rfl (Or.inr rfl)) (dC (bN (i:=7) nd rfl (Or.inr rfl)) kU)))))))
   (Fl.aG (oJ (L2.kG (i:=8) nd rfl (Or.inl rfl) (by rfl) (N:=["_law_number","_law_p","_law_a","_law_q","_law_b","_law_least_many"]) (js:=[none,some 4,some 6,some 5,some 7,some 1]) rfl (.own (.cap rfl (.inl rfl) (.inl rfl) (.cap rfl (.inl rfl) (.inl rfl) (.cap rfl (.inl rfl) (.inl rfl) (.cap rfl (.inl rfl) (.inl rfl) (.cap rfl (.inl rfl) (.inl rfl) .nil)))))) (by rfl) (qZ rfl (aC (pv 0)))) (by decide) (by decide) (is:=[0]) (fun cl C d e c=>⟨_,(bN (i:=0) (show (["_law_number","_law_p","_law_a","_law_q","_law_b","_law_least_many"]:List Str).Nodup by decide +kernel) rfl (Or.inl rfl)),(bO 0),Fl.eM,(aZ (a7 rfl) aL (aB (cY (dE (aD cO (aD cO aV))))) (aB (jD (cC gD rfl T.b_int B4 (aM (aB (aS9 (aBD (gG (gH rfl a.units) d9 (aB (aW cT b8 (aC (pv 0)) (aC (pv 1)))) (aC (pv 2)) (cL _)) (vG (gG (gH rfl a.units) d9 (aB (aW cT b8 (aC (pv 0)) (aC (pv 3)))) (aC (pv 4)) (cL _)))) (vG (gG vE pI (aC (pv 0)) (aC (pv 5)) (cL _))))) aU)))))⟩))
   (Fl.aG (Fl.aH (L2.aH (i:=9) nd rfl (Or.inl rfl) (aQ aF)))
   (Fl.aG (Fl.dA (bO 10) (L2.dA (dL ⟨rfl,rfl⟩) rfl (iM (fQ rfl T.b_range (aM (aB (fW rfl (cP dY rfl T.b_len BY (aM (aC (pv 0)) aU)))) aU))) (bN (i:=10) nd rfl (Or.inl rfl))
   (Fl.aR (Fl.fH (PW.pt (Fl.n8 (Fl.dS vE pI (aB (aZ (a7 rfl) aL (aC (pv 0)) (aC (pv 10)))) (aC (pv 1)) (cL _)) (Fl.mI (Fl.lP (Fl.jQ (aZ (a7 rfl) aL (aC (pv 2)) (aC (pv 10)))))))) (Fl.aR (Fl.aH (L2.aH (i:=9) nd rfl (Or.inl rfl) (aQ (aW (cN rfl) bT (aC (pv 10)) (aB aF)))))) Fl.dJ))))
   (Fl.aR (nH 8 (Fl.bY (aQ (cB (aD (bG (pv 9)) (aD (bG (pv 8)) aV))))))))))))
end
section
variable{P:P9}{w:W9}{K:Frag}{mg:Str->O9 V9}{base:H9}{TH:Hp}
theorem nR:FnScope ["_law_machine","_law_strips","_law_told","e"] ["_law_machine","_law_strips"] (aK (top 36)):=by constructor<;>first|rfl|decide +kernel
theorem wS(T:Txt w K mg)(D:DefAt K mg "_law_refused" (top 36) ["_law_machine","_law_strips"])(d:sQ P w K mg base TH 15 "comes_round" ["machine","ahead","again","behind"] [.str ""] bP){W_NoStrip C_NoStrip:Az}(a:ErrAt P w K mg base "NoStrip" ["at"] W_NoStrip C_NoStrip){Wp_TooMany Cp_TooMany:Az}(b:ErrP K mg "TooMany" Wp_TooMany Cp_TooMany)(N_TooMany_NoStrip:NoM K mg "TooMany" "NoStrip")(I_TooMany_WayError:Is1 K mg "TooMany" "WayError" true):a8 P w K mg base TH 16 "_law_refused" ["_law_machine","_law_strips"] bQ:=
 @dF P w K mg base TH "_law_refused" (top 36) ["_law_machine","_law_strips","_law_told","e"] ["_law_machine","_law_strips"] 15 gN D nR (fun f e A outer s H F E g=>by
  have nd:=nR.nd
  exact (Fl.aG (Fl.aH (L2.aH (i:=2) nd rfl (Or.inl rfl) (aQ (cB (aD cO (aD aF aV))))))
   (Fl.aG (aK1 (i:=3) rfl rfl ⟨rfl,rfl⟩ nd rfl rfl rfl a.m a.c.any (aBP a) rfl b.m b.c.any N_TooMany_NoStrip (fun j σ h=>aQ4 d.calls (g.mono (by decide)) rfl (aE (aT (pv 0)) (aE (aQ (aZ (a7 rfl) aL (aC (pv 1)) (aB aF))) (aE (aQ (aZ (a7 rfl) aL (aC (pv 1)) (aB aF))) (aE (aQ (aZ (a7 rfl) aL (aC (pv 1)) (aB aF))) bC))))) (fun e1=>(Fl.aR (Fl.aH (L2.aH (i:=2) nd rfl (Or.inl rfl) (aQ (cB (aD cO (aD (aTH rfl rfl (aHT a (by decide)) (aMV (pv 3) rfl)) aV)))))))) (fun e1=>(Fl.aR (Fl.aH (L2.aH (i:=2) nd rfl (Or.inl rfl) (aQ (cB (aD cO (aD (jD (cC gD rfl T.b_int B4 (aM (aB (aNU rfl b I_TooMany_WayError (cP jR rfl T.b_isinstance C6 (aM (pv 3) (aM (mH (v:=.ref I_TooMany_WayError.choose) rfl I_TooMany_WayError.choose_spec.choose_spec.1 rfl) aU))))) aU))) aV)))))))))
   (Fl.aR (Fl.bY (aT (pv 2)))))))
theorem aIV:FnScope ["_law_script","_law_signs","_law_p","_law_q","_law_a","_law_b","_law_machine","_law_least_many","_law_sizes","_law_pieces","_law_numbers","_law_by","_law_start","_law_words","_law_length","_law_found","_law_at","_law_bad","_law_great","_law_one"] ["_law_script"] (aK (top 37)):=by constructor<;>first|rfl|decide +kernel
theorem aSC(T:Txt w K mg){o:Az}{n:FuncData}(u:Fun K "law" "law" (top 37) o n)(a:a8 P w K mg base TH 1 "_law_cell" ["_law_script","_law_k"] bB)(c:a8 P w K mg base TH 1 "_law_sweeper" ["_law_p","_law_q","_law_a","_law_b","_law_signs"] d7)(f:a8 P w K mg base TH 3 "_law_joined" ["_law_one","_law_two","_law_word"] eE)(l:a8 P w K mg base TH 1 "_law_less" ["_law_many","_law_signs"] fE)(k:a8 P w K mg base TH 2 "_law_strip" ["_law_script","_law_at","_law_size","_law_signs"] cS)(m:a8 P w K mg base TH 1 "_law_due" ["_law_numbers","_law_least_many","_law_by","_law_rests"] fV)(j:a8 P w K mg base TH 1 "_law_shared" ["_law_one","_law_two"] gC)(g:sQ P w K mg base TH 15 "comes_round" ["machine","ahead","again","behind"] [.str ""] bP)(d:a8 P w K mg base TH 1 "_law_whole" ["_law_found"] g7)(b:a8 P w K mg base TH 16 "_law_refused" ["_law_machine","_law_strips"] bQ):FnOk P w K mg base (CXe P w) 17 o n ["_law_script"] (spF (gOf P w K mg base TH) K mg 1 aF6):=
 @aQW P w K mg base TH "law" (top 37) ["_law_script","_law_signs","_law_p","_law_q","_law_a","_law_b","_law_machine","_law_least_many","_law_sizes","_law_pieces","_law_numbers","_law_by","_law_start","_law_words","_law_length","_law_found","_law_at","_law_bad","_law_great","_law_one"] ["_law_script"] 16 o n wI u aIV (fun t A outer s H F E e=>by
  have nd:=aIV.nd
  exact (@Fl.aG _ _ _ _ _ _ _ (Fl.aH (L2.aH (i:=1) nd rfl (Or.inr rfl) (aQ (aW (cN rfl) bT (aB aF) (aB (aW cT b8 (aB (dB (bX rfl rfl rfl (bW a (e.mono (by decide)) rfl (cE fun _ _ _ h=>h) (aE (aT (pv 0)) (aE (aQ aF) bC)))))) (aB aF)))))))
   (@Fl.aG _ _ _ _ _ _ _ (@Fl.aBJ _ _ _ _ _ _ _ _ (mU rfl (dD (bO 2) (dD (bO 3) k7)) rfl) (@L2.mQ _ _ _ _ _ _ (@aZ _ _ _ _ _ _ _ _ _ (a7 rfl) aL (@aB _ _ _ _ _ (@cY _ _ _ _ _ (@dE _ _ _ _ _ _ (@aD _ _ _ _ _ _ _ (cB (aD aF (aD aF aV))) (@aD _ _ _ _ _ _ _ (cB (aD aF (aD aF aV))) (@aD _ _ _ _ _ _ _ (cB (aD aF (aD aF aV))) (@aD _ _ _ _ _ _ _ (cB (aD aF (aD aF aV))) (@aD _ _ _ _ _ _ _ (cB (aD aF (aD aF aV))) (@aD _ _ _ _ _ _ _ (cB (aD aF (aD aF aV))) (@aD _ _ _ _ _ _ _ (cB (aD aF (aD aF aV))) (@aD _ _ _ _ _ _ _ (cB (aD aF (aD aF aV))) aV i9) i9) i9) i9) i9) i9) i9) i9)))) (aB (aW cT b8 (aB (dB (bX rfl rfl rfl (bW a (e.mono (by decide)) rfl (cE fun _ _ _ h=>h) (aE (aT (pv 0)) (aE (aQ aF) bC)))))) (aB aF))) (fun _ _=>rfl)) (mP rfl (dC (bN (i:=2) nd rfl (Or.inr rfl)) (dC (bN (i:=3) nd rfl (Or.inr rfl)) kU))) rfl rfl rfl))
   (Fl.aG (Fl.aH (L2.aH (i:=4) nd rfl (Or.inr rfl) (aQ (aW cT b8 (aB (dB (bX rfl rfl rfl (bW a (e.mono (by decide)) rfl (cE fun _ _ _ h=>h) (aE (aT (pv 0)) (aE (aQ aF) bC)))))) (aC (pv 2))))))
   (Fl.aG (Fl.aH (L2.aH (i:=5) nd rfl (Or.inr rfl) (aQ (aW cT b8 (aB (dB (bX rfl rfl rfl (bW a (e.mono (by decide)) rfl (cE fun _ _ _ h=>h) (aE (aT (pv 0)) (aE (aQ aF) bC)))))) (aC (pv 3))))))
   (Fl.aG (Fl.aH (L2.aH (i:=6) nd rfl (Or.inl rfl) (bX rfl rfl rfl (bW c (e.mono (by decide)) rfl (cE fun _ _ _ h=>h) (aE (aT (pv 2)) (aE (aT (pv 3)) (aE (aT (pv 4)) (aE (aT (pv 5)) (aE (aT (pv 1)) bC)))))))))
   (Fl.aG (Fl.aH (L2.aH (i:=7) nd rfl (Or.inl rfl) (aQ (aW cT b8 (aB (dB (bX rfl rfl rfl (bW a (e.mono (by decide)) rfl (cE fun _ _ _ h=>h) (aE (aT (pv 0)) (aE (aQ aF) bC)))))) (aB aF)))))
   (Fl.aG (Fl.fH (Fl.dS kI hV (aC (pv 7)) (aB aF) (cL _)) (Fl.aR (Fl.aH (L2.aH (i:=7) nd rfl (Or.inl rfl) (aQ aF)))) Fl.dJ)
   (Fl.aG (Fl.fH (Fl.dS kI hV (aC (pv 7)) (aB aF) (cL _)) (Fl.aR (Fl.aH (L2.aH (i:=6) nd rfl (Or.inl rfl) (bX rfl rfl rfl (bW f (e.mono (by decide)) rfl (cE fun _ _ _ h=>h) (aE (bX rfl rfl rfl (bW l (e.mono (by decide)) rfl (cE fun _ _ _ h=>h) (aE (aT (pv 7)) (aE (aT (pv 1)) bC)))) (aE (aT (pv 6)) (aE (aQ cO) bC)))))))) Fl.dJ)
   (Fl.aG (iL (L2.aH (i:=8) nd rfl (Or.inr rfl) (dE (aD (aW cT b8 (aB (dB (bX rfl rfl rfl (bW a (e.mono (by decide)) rfl (cE fun _ _ _ h=>h) (aE (aT (pv 0)) (aE (aQ aF) bC)))))) (aB aF)) (aD (aW cT b8 (aB (dB (bX rfl rfl rfl (bW a (e.mono (by decide)) rfl (cE fun _ _ _ h=>h) (aE (aT (pv 0)) (aE (aQ aF) bC)))))) (aB aF)) (aD (aW cT b8 (aB (dB (bX rfl rfl rfl (bW a (e.mono (by decide)) rfl (cE fun _ _ _ h=>h) (aE (aT (pv 0)) (aE (aQ aF) bC)))))) (aB aF)) aV))))))
   (Fl.aG (oJ (L2.kG (i:=9) nd rfl (Or.inl rfl) (by rfl) (N:=["_law_k","_law_script","_law_sizes","_law_signs"]) (js:=[none,some 0,some 8,some 1]) rfl (.own (.cap rfl (.inl rfl) (.inl rfl) (.cap rfl (.inl rfl) (.inl rfl) (.cap rfl (.inl rfl) (.inl rfl) .nil)))) (by rfl) (vH (iM (fQ rfl T.b_range (aM (aB aF) aU))))) (by decide) (by decide) (is:=[0]) (fun cl C q r p=>⟨_,(bN (i:=0) (show (["_law_k","_law_script","_law_sizes","_law_signs"]:List Str).Nodup by decide +kernel) rfl (Or.inl rfl)),(bO 0),Fl.eM,(dB (bX rfl rfl rfl (bW k (e.mono (by decide)) rfl o8 (aE (aT (pv 1)) (aE (aQ (aW (cN rfl) bT (aB aF) (aB (aW gZ eY (aB aF) (aC (pv 0)))))) (aE (aQ (aZ (a7 rfl) aL (aC (pv 2)) (aC (pv 0)))) (aE (aT (pv 3)) bC)))))))⟩))
   (Fl.aG (oJ (L2.kG (i:=10) nd rfl (Or.inl rfl) (by rfl) (N:=["_law_k","_law_sizes"]) (js:=[none,some 8]) rfl (.own (.cap rfl (.inl rfl) (.inl rfl) .nil)) (by rfl) (vH (iM (fQ rfl T.b_range (aM (aB (aW (cN rfl) bT (aB (aW gZ eY (aB (aW gZ eY (aB aF) (aC (pv 2)))) (aC (pv 3)))) (aB aF))) aU))))) (by decide) (by decide) (is:=[0]) (fun cl C q r p=>⟨_,(bN (i:=0) (show (["_law_k","_law_sizes"]:List Str).Nodup by decide +kernel) rfl (Or.inl rfl)),(bO 0),Fl.eM,(aW (cN rfl) bT (aB (aW (cN rfl) bT (aB (aZ (a7 rfl) aL (aC (pv 1)) (aB aF))) (aB (aZ (a7 rfl) aL (aC (pv 1)) (aB aF))))) (aB (aW gZ eY (aB (aZ (a7 rfl) aL (aC (pv 1)) (aB aF))) (aC (pv 0)))))⟩))
   (Fl.aG (oJ (L2.kG (i:=11) nd rfl (Or.inl rfl) (by rfl) (N:=["_law_number","_law_p","_law_a","_law_q","_law_b"]) (js:=[none,some 2,some 4,some 3,some 5]) rfl (.own (.cap rfl (.inl rfl) (.inl rfl) (.cap rfl (.inl rfl) (.inl rfl) (.cap rfl (.inl rfl) (.inl rfl) (.cap rfl (.inl rfl) (.inl rfl) .nil))))) (by rfl) (qZ rfl (aC (pv 10)))) (by decide) (by decide) (is:=[0]) (fun cl C q r p=>⟨_,(bN (i:=0) (show (["_law_number","_law_p","_law_a","_law_q","_law_b"]:List Str).Nodup by decide +kernel) rfl (Or.inl rfl)),(bO 0),Fl.eM,(aBD (gG (gH rfl e.units) d9 (aB (aW cT b8 (aC (pv 0)) (aC (pv 1)))) (aC (pv 2)) (cL _)) (vG (gG (gH rfl e.units) d9 (aB (aW cT b8 (aC (pv 0)) (aC (pv 3)))) (aC (pv 4)) (cL _))))⟩))
   (Fl.aG (nH 11 (nH 10 (aBJ (mU rfl (dD (bO 12) (dD (bO 13) k7)) rfl) (mQ (dB (bX rfl rfl rfl (bW m (e.mono (by decide)) rfl (cE fun _ _ _ h=>h) (aE (aT (pv 10)) (aE (aT (pv 7)) (aE (aT (pv 11)) (aE (aQ (cB (aD (bG (pv 2)) (aD (bG (pv 3)) (aD (bG (pv 4)) (aD (bG (pv 5)) aV)))))) bC))))))) (mP rfl (dC (bN (i:=12) nd rfl (Or.inl rfl)) (dC (bN (i:=13) nd rfl (Or.inl rfl)) kU)))))))
   (Fl.aG (Fl.aH (L2.aH (i:=14) nd rfl (Or.inl rfl) (aQ (aW xK qV (aB (aW gZ eY (aC (pv 2)) (aC (pv 3)))) (aB (dB (bX rfl rfl rfl (bW j (e.mono (by decide)) rfl (cE fun _ _ _ h=>h) (aE (aQ (aW gZ eY (aC (pv 2)) (aC (pv 3)))) (aE (aQ (aZ (a7 rfl) aL (aC (pv 8)) (aB aF))) bC))))))))))
   (Fl.aG (Fl.fH (PW.pt (Fl.uQ (Fl.dS (xL rfl e.units) qW (aB pH) (aB (gQ rfl (aC (pv 11)) (lM (aC (pv 12))) lL)) (by with_unfolding_all rfl)) (Fl.uP (Fl.dS (xL rfl e.units) qW (aB pH) (aB (gQ rfl (aC (pv 11)) (lM (aC (pv 12))) lL)) (by with_unfolding_all rfl))))) (Fl.aR (Fl.aH (L2.aH (i:=14) nd rfl (Or.inl rfl) (aQ aF)))) Fl.dJ)
   (Fl.aG (Fl.fH (Fl.dS (gH rfl e.units) d9 (aB (aZ (a7 rfl) aL (aC (pv 8)) (aB aF))) (aB aF) (cL _)) (Fl.aR (Fl.aH (L2.aH (i:=12) nd rfl (Or.inl rfl) (aQ aF)))) Fl.dJ)
   (Fl.aG (Fl.aH (L2.aH (i:=15) nd rfl (Or.inl rfl) (bX rfl rfl rfl (bW g.calls (e.mono (by decide)) rfl (cE fun _ _ _ h=>h) (aE (aT (pv 6)) (aE (aQ (aZ (a7 rfl) aL (aC (pv 9)) (aB aF))) (aE (aQ (aZ (a7 rfl) aL (aC (pv 9)) (aB aF))) (aE (aQ (aZ (a7 rfl) aL (aC (pv 9)) (aB aF))) bC))))))))
   (Fl.aG (Fl.fH (PW.pt (Fl.uQ (Fl.dS (vF rfl e.units) pJ (aC (pv 15)) (aB (cB (aD (bG (pv 12)) (aD (bG (pv 14)) (aD (gQ rfl (aC (pv 13)) lL (lM (aB (aW (cN rfl) bT (aC (pv 12)) (aC (pv 14)))))) aV))))) (cL _)) (Fl.uQ (Fl.lP (Fl.jQ (dB (bX rfl rfl rfl (bW d (e.mono (by decide)) rfl (cE fun _ _ _ h=>h) (aE (aQ (aZ (a7 rfl) aL (aC (pv 15)) (aB aF))) bC)))))) (Fl.uP (Fl.lP (Fl.jQ (dB (bX rfl rfl rfl (bW d (e.mono (by decide)) rfl (cE fun _ _ _ h=>h) (aE (aQ (aZ (a7 rfl) aL (aC (pv 15)) (aB aF))) bC)))))))))) (Fl.aR (Fl.bY (aQ pH))) Fl.dJ)
   (Fl.aG (Fl.aH (L2.aH (i:=16) nd rfl (Or.inl rfl) (aQ (aW cT b8 (aB (dB (bX rfl rfl rfl (bW a (e.mono (by decide)) rfl (cE fun _ _ _ h=>h) (aE (aT (pv 0)) (aE (aQ aF) bC)))))) (aB (aW (cN rfl) bT (aB (aZ (a7 rfl) aL (aC (pv 8)) (aB aF))) (aB aF)))))))
   (Fl.aG (Fl.aH (L2.aH (i:=17) nd rfl (Or.inl rfl) (aQ (aW (cN rfl) bT (aB (aW (cN rfl) bT (aB (gQ rfl (aB (aZ (a7 rfl) aL (aC (pv 9)) (aB aF))) lL (lM (aC (pv 16))))) (aB (aZ (a7 rfl) aL (aB (cY (dE (aD (aZ (a7 rfl) aL (aB cO) (aC (pv 1))) (aD cO (aD cO aV)))))) (aB (aW cT b8 (aB (dB (bX rfl rfl rfl (bW a (e.mono (by decide)) rfl (cE fun _ _ _ h=>h) (aE (aT (pv 0)) (aE (aQ aF) bC)))))) (aB aF))))))) (aB (gQ rfl (aB (aZ (a7 rfl) aL (aC (pv 9)) (aB aF))) (lM (aC (pv 16))) lL))))))
   (Fl.aG (Fl.aH (L2.aH (i:=18) nd rfl (Or.inl rfl) (bX rfl rfl rfl (bW c (e.mono (by decide)) rfl (cE fun _ _ _ h=>h) (aE (aQ aF) (aE (aQ aF) (aE (aQ aF) (aE (aQ aF) (aE (aT (pv 1)) bC)))))))))
   (Fl.aG (Fl.dA (bO 19) (L2.dA (dL ⟨rfl,rfl⟩) rfl (xN rfl (cB (aD (bG (pv 6)) (aD (bG (pv 18)) aV)))) (bN (i:=19) nd rfl (Or.inl rfl))
   (Fl.aG (Fl.fH (Fl.dS (vF rfl e.units) pJ (aB (dB (bX rfl rfl rfl (bW b (e.mono (by decide)) rfl (cE fun _ _ _ h=>h) (aE (aT (pv 19)) (aE (aQ (cY (dE (aD (aZ (a7 rfl) aL (aC (pv 9)) (aB aF)) (aD (bG (pv 17)) (aD cO aV)))))) bC)))))) (aB (cB (aD cO (aD (bG (pv 16)) aV)))) (cL _)) (Fl.aR (Fl.bY (aQ pH))) Fl.dJ)
   (Fl.aR (Fl.fH (Fl.dS (vF rfl e.units) pJ (aB (dB (bX rfl rfl rfl (bW b (e.mono (by decide)) rfl (cE fun _ _ _ h=>h) (aE (aT (pv 19)) (aE (aQ (cY (dE (aD cO (aD (bG (pv 17)) (aD cO aV)))))) bC)))))) (aB (cB (aD cO (aD aF aV)))) (cL _)) (Fl.aR (Fl.bY (aQ pH))) Fl.dJ)))))
   (Fl.aR (nH 9 (Fl.bY (aQ (gG (gH rfl e.units) d9 (aB (dB (bX rfl rfl rfl (bW b (e.mono (by decide)) rfl (cE fun _ _ _ h=>h) (aE (aT (pv 18)) (aE (aT (pv 9)) bC)))))) (aB (cB (aD cO (aD aF aV)))) (cL _)))))))))))))))))))))))))))))
end
def itN(nx:Nat->Nat):Nat->Nat->Nat
 | 0,r=>r
 | n+1,r=>itN nx n (nx r)
theorem sT(nx:Nat->Nat)(a:Nat):∀ b r,itN nx (a+b) r=itN nx a (itN nx b r)
 | 0,r=>rfl
 | b+1,r=>sT nx a b (nx r)
theorem p6(nx:Nat->Nat)(n r:Nat):itN nx (n+1) r=nx (itN nx n r):=by
 rw[Nat.add_comm,sT];rfl
structure Kdr(rs:List Rw)(sg:Nat)(nx:Nat->Nat)(rt:Nat->Bool):Prop where
 cel:∀ i,i < rs.length->∀ k,k < sg->ck k (aP rs (i:Int))=((nx i:Int),if rt i=true then 1 else -1)
 lt:∀ i,i < rs.length->nx i < rs.length
 rr:∀ i,i < rs.length->rt (nx i)=rt i
 l0:(aP rs 0).l=.n 0
 rt0:rt 0=true
 lf:∀ i,i < rs.length->rt i=false->(∃ x,(aP rs (i:Int)).l=.w x)\/∃ r:Nat,(aP rs (i:Int)).l=.n (r:Int)/\r < rs.length/\rt r=true
section
variable{rs:List Rw}{sg i l:Nat}{nx:Nat->Nat}{rt:Nat->Bool}
theorem Kdr.it(K:Kdr rs sg nx rt):∀ n r,r < rs.length->itN nx n r < rs.length/\rt (itN nx n r)=rt r
 | 0,r,h=>⟨h,rfl⟩
 | n+1,r,h=>by
  obtain ⟨a,b⟩:=K.it n (nx r) (K.lt r h)
  exact ⟨a,by rw[show itN nx (n+1) r=itN nx n (nx r) from rfl,b,K.rr r h]⟩
theorem Kdr.on(K:Kdr rs sg nx rt){bk:Int->Tn}{c r:Nat}(b:r < rs.length)(a:c - 97 < sg)(h:rt r=true):onR rs bk c (.n (r:Int))=.n (nx r:Int):=by
 have:=K.cel r b _ a
 rw[h] at this
 rw[aKV (by rw[this];rfl),this]
def lfB(rs:List Rw)(nx:Nat->Nat)(n r:Nat):Tn:=match (aP rs (itN nx n r:Int)).l with
 | .w x=>.w x
 | .n i=>.n (itN nx n i.toNat:Int)
theorem Kdr.front(K:Kdr rs sg nx rt)(M:Mach rs sg)(z:List Nat):bD sg z->fP rs z (0,0)=.n (itN nx z.length 0:Int):=by
 refine uG (P:=fun z=>bD sg z->fP rs z (0,0)=.n (itN nx z.length 0:Int)) (fun S=>?_) (fun z c e S=>?_) z
 .rw[sK,K.l0];rfl
 .obtain ⟨Sz,d⟩:=p4 S
  have f:c - 97 < sg:=by have:=BV d;omega
  have g:=M.len
  obtain ⟨a,b⟩:=K.it z.length 0 (by omega)
  rw[zS M Sz d,e Sz,K.on a f (by rw[b,K.rt0]),AK,A7,p6]
theorem Kdr.back(K:Kdr rs sg nx rt)(M:Mach rs sg)(z:List Nat):bD sg z->∀ r,r < rs.length->rt r=false->begB rs z (r:Int)=lfB rs nx z.length r:=by
 refine uG (P:=fun z=>bD sg z->∀ r,r < rs.length->rt r=false->begB rs z (r:Int)=lfB rs nx z.length r) (fun S r a b=>?_) (fun z c o S r a b=>?_) z
 .show fP rs [] (0,(r:Int))=_
  rw[sK]
  unfold lfB
  show _=match (aP rs (r:Int)).l with | .w x=>Tn.w x | .n i=>.n (i.toNat:Int)
  rcases K.lf r a b with ⟨x,e⟩|⟨i,e,_⟩
  .rw[e]
  .rw[e];rfl
 .obtain ⟨Sz,h⟩:=p4 S
  have g:c - 97 < sg:=by have:=BV h;omega
  have t:c8 rs (r:Int):=⟨by omega,by omega⟩
  have h1:=K.cel r a _ g
  rw[b] at h1
  have h2:=o Sz (nx r) (K.lt r a) (by rw[K.rr r a,b])
  obtain ⟨m,k⟩:=K.it (z.length) (nx r) (K.lt r a)
  rw[rO M Sz h t]
  show (bS (d8 rs (begB rs z) c) (r:Int)).getD (.w dW)=_
  rw[AK,A7]
  rcases K.lf _ m (by rw[k,K.rr r a,b]) with ⟨x,e⟩|⟨i,e,j,p⟩
  .have f:begB rs z (nx r:Int)=.w x:=by rw[h2];unfold lfB;rw[e]
   have st:d8 rs (begB rs z) c (r:Int)=some (.inr (.w x)):=by
    rw[oQ,h1,AC (show ¬ ((if false=true then (1:Int) else -1)=1) by decide)]
    simp only[f]
   rw[gF st]
   show Tn.w x=lfB rs nx (z.length+1) r
   unfold lfB
   rw[show itN nx (z.length+1) r=itN nx z.length (nx r) from rfl,e]
  .have f:begB rs z (nx r:Int)=.n (itN nx z.length i:Int):=by rw[h2];unfold lfB;rw[e];rfl
   have st:d8 rs (begB rs z) c (r:Int)=some (.inl (itN nx z.length i:Int)):=by
    rw[oQ,h1,AC (show ¬ ((if false=true then (1:Int) else -1)=1) by decide)]
    simp only[f]
   obtain ⟨s,q⟩:=K.it z.length i j
   have d:(bS (d8 rs (begB rs z) c) (itN nx z.length i:Int)).getD (.w dW)=.n (nx (itN nx z.length i):Int):=K.on s g (by rw[q,p])
   rw[aAZ st,d]
   unfold lfB
   rw[show itN nx (z.length+1) r=itN nx z.length (nx r) from rfl,e]
   show _=Tn.n (itN nx (z.length+1) i:Int)
   rw[p6]
theorem Kdr.same(K:Kdr rs sg nx rt)(M:Mach rs sg){z a:List Nat}(S:bD sg z)(g:bD sg a)(h0:z.length=0↔a.length=0)(h:∀ r,r < rs.length->itN nx z.length r=itN nx a.length r):a9 rs z=a9 rs a:=by
 have p:=M.len
 refine aKU (by rw[K.front M z S,K.front M a g,h 0 (by omega)]) fun q d=>?_
 cases f:rt q with
 | false=>
  rw[K.back M z S q d f,K.back M a g q d f]
  unfold lfB
  rw[h q d]
  obtain ⟨m,l⟩:=K.it a.length q d
  rcases K.lf _ m (by rw[l,f]) with ⟨x,e⟩|⟨i,e,k,s⟩
  .rw[e]
  .rw[e]
   show Tn.n (itN nx z.length i:Int)=.n (itN nx a.length i:Int)
   rw[h i k]
 | true=>
  have one:∀ {z:List Nat},bD sg z->z.length≠0->begB rs z (q:Int)=.n (nx q:Int):=fun {z} S b=>by
   rcases List.eq_nil_or_concat z with rfl|⟨y,c,e⟩
   .exact absurd rfl b
   .rw[List.concat_eq_append] at e
    subst e
    obtain ⟨Sy,j⟩:=p4 S
    have o:c - 97 < sg:=by have:=BV j;omega
    rw[rO M Sy j ⟨by omega,by omega⟩,K.on d o f]
  by_cases b:z.length=0
  .rw[EF.mp b,EF.mp (h0.mp b)]
  .rw[one S b,one g fun e=>b (h0.mpr e)]
def Cyc(rs:List Rw)(nx:Nat->Nat)(i l:Nat):Prop:=∀ r,r < rs.length->itN nx (i+l) r=itN nx i r
def jA(i l n:Nat):Nat:=if n < i then n else i+(n - i) % l
theorem aL8(C:Cyc rs nx i l){r:Nat}(hr:r < rs.length):∀ k n,i<=n->itN nx (n+k * l) r=itN nx n r
 | 0,n,_=>by rw[GR];rfl
 | k+1,n,h=>by
  rw[show n+(k+1) * l=(n - i)+(i+l)+k * l by rw[Nat.add_mul];omega,aL8 C hr k _ (by omega),sT,C r hr,<-sT,Nat.sub_add_cancel h]
theorem sU(C:Cyc rs nx i l){r:Nat}(a:r < rs.length)(n:Nat):itN nx (jA i l n) r=itN nx n r:=by
 unfold jA
 by_cases h:n < i
 .rw[AD h]
 .rw[AC h]
  have:=aL8 C a ((n - i) / l) (i+(n - i) % l) (by omega)
  have e:=FU (n - i) l
  rw[D2] at e
  rw[<-this,show i+(n - i) % l+(n - i) / l * l=n by omega]
theorem rY(a:1<=l)(n:Nat):jA i l n < i+l:=by
 unfold jA
 split
 .omega
 .have:=CM (n - i) (show l > 0 by omega)
  omega
theorem p7(i1:1<=i)(n:Nat):jA i l n=0↔n=0:=by
 unfold jA
 split
 · exact Iff.rfl
 · omega
theorem aSD(K:Kdr rs sg nx rt)(M:Mach rs sg)(C:Cyc rs nx i l)(i1:1<=i)(c:1<=l)(h2:i+l<=200):aKT rs sg:=by
 refine aR5 (fun z=>jA i l z.length) (fun z S=>?_) (fun z a S d e=>?_)
 .have:=rY (i:=i) c z.length
  show _ < 200
  omega
 .have e:jA i l z.length=jA i l a.length:=e
  refine K.same M S d ?_ fun r b=>?_
  · rw [<- p7 (l := l) i1 z.length, <- p7 (l := l) i1 a.length, e]
  · rw [<- sU C b z.length, <- sU C b a.length, e]
def azN(n:Nat):List Nat:=List.replicate n 97
theorem iH(n:Nat):(azN n).length=n:=CC
theorem fZ(s1:1<=sg){n:Nat}(h:n<=1000):bD sg (azN n):=⟨by rw[iH];exact h,fun c a=>by rw[C0 a];exact AZ ⟨by omega,by omega⟩⟩
theorem aIW(rows:List (List Nat))(q:Nat)(z:List Nat)(c:Nat):runN rows q (z++[c])=l6 rows (runN rows q z) c:=by
 unfold runN;rw[DY];rfl
theorem aO4(K:Kdr rs sg nx rt)(C:Cyc rs nx i l)(i1:1<=i)(f:1<=l)(h2:i+l<=200){N:Nat}(W:Wy rs sg N)(z:List Nat):Sgs sg z->(bfW rs sg N)[runN (iD rs sg N) 0 z]? = some (a9 rs (azN (jA i l z.length))):=by
 have s1:=W.m.sg1
 refine uG (P:=fun z=>Sgs sg z->(bfW rs sg N)[runN (iD rs sg N) 0 z]? = some (a9 rs (azN (jA i l z.length)))) (fun S=>?_) (fun z c k S=>?_) z
 .have j:(bfW rs sg N)[0]? = some (a9 rs []):=aB9 _ _ _
  rw[show (([]:List Nat).length)=0 from rfl,(p7 (l:=l) i1 0).mpr rfl]
  exact j
 .have Sz:Sgs sg z:=fun c b=>S c (CP _ b)
  have b:bR sg c=true:=S c (by simp)
  have n:=rY (i:=i) f z.length
  have Sa:bD sg (azN (jA i l z.length)):=fZ s1 (by omega)
  have h:=(W.on (k Sz) Sa (by rw[iH];omega) b).2
  rw[aIW,h]
  have e:=rY (i:=i) f (z++[c]).length
  congr 1
  refine K.same W.m ⟨by rw[AK,iH,A7];omega,fun d a=>by
   rcases BW.mp a with a|a
   · exact Sa.2 d a
   · rw [A4.mp a]; exact b⟩ (fZ s1 (by omega)) ?_ fun r g => ?_
  .rw[iH,p7 i1,AK,AK,A7]
   omega
  .rw[AK,iH,iH,A7,sU C g,AK,A7,p6,p6,sU C g]
theorem cw_red(K:Kdr rs sg nx rt)(C:Cyc rs nx i l)(i1:1<=i)(f:1<=l)(h2:i+l<=200){N:Nat}(W:Wy rs sg N){a g b:List Nat}(Sa:Sgs sg a)(Sg:Sgs sg g)(Sb:Sgs sg b)(k:Nat) :
  cw (iD rs sg N) (jU rs sg N) a g b k=iA rs (azN (jA i l (a.length+b.length+g.length * k))):=by
 have s1:=W.m.sg1
 have S:Sgs sg (a++(List.replicate k g).flatten++b):=fun c d=>by
  rcases BW.mp d with d|d
  .rcases BW.mp d with d|d
   .exact Sa c d
   .obtain ⟨l,j,d⟩:=List.mem_flatten.mp d
    rw[C0 j] at d
    exact Sg c d
  .exact Sb c d
 have h:=aO4 K C i1 f h2 W _ S
 have e:(a++(List.replicate k g).flatten++b).length=a.length+b.length+g.length * k:=by
  rw[AK,AK,List.length_flatten,List.map_replicate,List.sum_replicate_nat,D2];omega
 rw[e] at h
 have n:=rY (i:=i) f (a.length+b.length+g.length * k)
 rw[<-W.word h (fZ s1 (by omega))]
 unfold cw
 rw[aD6]
 unfold runN
 rw[DY,DY]
end
end Mc
namespace Fl
open PySem L2 PyProof.Rows
@[simp] theorem aXI(i:Nat)(ρ:Sg):vO i ρ=match ρ[i]? with|some (some (.o e))=>.ok (.o e)|_=>.bad:=id rfl
@[simp] theorem aWT(cn:Str)(fs:List Str)(f:Sg->R (List Dz))(ρ:Sg):aVZ cn fs f ρ=(f ρ).bind fun xs=>if xs.length=fs.length then .ok (.o ⟨cn,fs.zip xs⟩) else .bad:=id rfl
@[simp] theorem aXC(f:Sg->R A)(m:Str)(tb:List (Str×(List A->R A)))(ρ:Sg):vMt f m tb ρ=(f ρ).bind fun a=>match a with
 | .o e=>if (e.fs.lookup m).isNone=true then (match tb.lookup e.c with|some G=>G [.o e]|none=>.bad) else .bad
 | _=>.bad:=id rfl
@[simp] theorem aXD(i:Nat)(cs:List Str)(g:Str)(ρ:Sg):eOF i cs g ρ=match ρ[i]? with
 | some (some (.o e))=>if cs.contains e.c=true then (match e.fs.lookup g with|some d=>.ok d|none=>.bad) else .bad
 | _=>.bad:=id rfl
@[simp] theorem aWU(f g:Sg->R Dz)(ρ:Sg):aV0 f g ρ=(f ρ).bind fun x=>if isL x=true then (g ρ).bind fun y=>aSA x y else .bad:=id rfl
@[simp] theorem aXJ(xs:List Dz):isL (.list xs)=true:=id rfl
@[simp] theorem aWV(g g' a:Dz->Dz->R Dz)(b fb c fd:Sg->R Dz)(ρ:Sg):aV1 g g' a b fb c fd ρ=(b ρ).bind fun x=>(fb ρ).bind fun y=>(g x y).bind fun z=>(asB z).bind fun k=>if k=true then (c ρ).bind fun w=>(g' y w).bind fun z=>(asB z).bind fun k=>if k=true then (fd ρ).bind fun u=>a w u else .ok (.bool false) else .ok (.bool false):=id rfl
@[simp] theorem aV2(a b:Bool):aSB (.bool a) (.bool b)=.ok (.bool (a != b)):=id rfl
@[simp] theorem aXE(a b:Bool):aVY (.bool a) (.bool b)=.ok (.bool (a == b)):=id rfl
@[simp] theorem p9(f:Sg->R (List Dz))(g:Sg->R Dz)(ρ:Sg):sR f g ρ=(f ρ).bind fun xs=>(g ρ).bind fun y=>wH xs y:=id rfl
@[simp] theorem aV3(i:Nat)(a b:Sg->R (List Dz))(fs:Dz->Sg->O9 Sg)(c fe:Sg->R Dz)(ρ:Sg):aTV i a b fs c fe ρ=(a ρ).bind fun xs=>if i < ρ.length/\aFQ (ρ.set i none)=true then (b (ρ.set i none)).bind fun ys=>(aFR fs c fe ys (List.replicate xs.length []) (ρ.set i none)).bind fun r=>.ok (.nx (r.2.set i (some (.d (.list (r.1.map PyData.list)))))) else .bad:=id rfl
end Fl
namespace Mc
open PySem L2 PyProof.Rows Fl
structure PathOk(rs:List Rw)(z:List Nat)(ps:List (Int×Int))(s:Int×Int):Prop where
 nd:ps.Nodup
 val:∀ x∈ps++[s],mC rs z x
 st0:(ps++[s])[0]? = some (0,0)
 step:∀ (k:Nat) a b,(ps++[s])[k]? = some a->(ps++[s])[k+1]? = some b->mB rs z a=some b
 fin:(s∉ps/\mB rs z s=none)\/(s∈ps/\∃ s',mB rs z s=some s')
 few:ps.length<=aEY rs z
abbrev iO(n:Nat):O9 A:=some (.d (.int (n:Int)))
def swA(p a sg k:Nat):Rw:=⟨if k=0 then .n 0 else .w "out",List.replicate sg ((((k+1) % p:Nat):Int),1),if k=a then .n (p:Int) else .w "out"⟩
def swB(p q b sg k:Nat):Rw:=⟨.w (if k=b then "by" else "out"),List.replicate sg (((p+(k+1) % q:Nat):Int),-1),.w "out"⟩
def swM(p q a b sg:Nat):List Rw:=(List.range p).map (swA p a sg)++(List.range q).map (swB p q b sg)
theorem aCJ(x y:Dz)(b:Bool):dIx (.list [x,y]) (.int (if b=true then 1 else 0))=.ok (if b=true then y else x):=by
 cases b
 · exact rL ..
 · exact lR ..
theorem aAH(x:Dz){sg:Nat}(h:sg<=3):wH [x] (.int (sg:Int))=.ok (List.replicate sg x):=by
 have h1:∀ n:Nat,(List.replicate n [x]).flatten=List.replicate n x:=fun n=>by
  induction n with
  | zero=>rfl
  | succ n ih=>rw[B9,DC,ih];rfl
 unfold wH
 simp only
 rw[AD ⟨List.cons_ne_nil _ _,by omega,by omega,by rw[CD,A7];omega⟩,CD,h1]
theorem qA(sg:Nat)(c:Int×Int):(List.replicate sg c).map dM=List.replicate sg (.tuple [.int c.1,.int c.2]):=by rw[List.map_replicate];rfl
theorem uL{α:Type}(f:Nat->α)(i:Nat):(List.range (i+1)).map f=(List.range i).map f++[f i]:=by rw[FS,BE];rfl
theorem wU{n i k:Nat}(h:(List.range n)[i]? = some k):k=i/\i < n:=by
 obtain ⟨h1,h2⟩:=AM.mp h
 rw[AU] at h1
 rw[FZ] at h2
 exact ⟨h2.symm,h1⟩
theorem aD8{p q a b sg:Nat}(p1:1<=p)(p2:p<=100)(B:1<=q)(A:q<=100)(s:sg<=3):d7 [.d (.int (p:Int)),.d (.int (q:Int)),.d (.int (a:Int)),.d (.int (b:Int)),.d (.int (sg:Int))]=.ok (.d (aY (swM p q a b sg))):=by
 have z:(0:Int) < (p:Int):=by omega
 have t:(0:Int) < (q:Int):=by omega
 obtain ⟨x,u,f,j,rfl⟩:=gR (fs:=stN 6) (fb:=aK2) (d:=fun k:Nat=>.int (k:Int)) (xs:=List.range p) (ρ:=[iO p,iO q,iO a,iO b,iO sg,some (.l []),none,none])
  (fun i ρ=>∃ f j,ρ=[iO p,iO q,iO a,iO b,iO sg,some (.l ((List.range i).map fun k=>rowD (swA p a sg k))),f,j]) ⟨none,none,rfl⟩ fun i k ρ o g=>by
  obtain ⟨f,j,e⟩:=g
  obtain ⟨rfl,hi⟩:=wU o
  have c:((List.range k).map fun k=>rowD (swA p a sg k)).length < 16777216:=by rw[AB,AU];omega
  have m:=aAH (.tuple [.int (((k:Int)+1) % (p:Int)),.int 1]) s
  have r:rowD (swA p a sg k)=.tuple [if decide ((0:Int) < (k:Int))=true then .str "out" else .int 0,.tuple (List.replicate sg (.tuple [.int (((k:Int)+1) % (p:Int)),.int 1])),if decide ((k:Int)=(a:Int))=true then .int (p:Int) else .str "out"]:=by
   unfold rowD swA
   rw[qA]
   have e1:((((k+1) % p:Nat)):Int)=((k:Int)+1) % (p:Int):=by simp
   simp only[e1]
   rw[show (if k=0 then Tn.n 0 else Tn.w "out").d=(if decide ((0:Int) < (k:Int))=true then .str "out" else .int 0) from ?_,show (if k=a then Tn.n (p:Int) else Tn.w "out").d=(if decide ((k:Int)=(a:Int))=true then .int (p:Int) else .str "out") from ?_]
   .by_cases h:k=a
    · rw [AD h, AD (AZ (by omega))]; rfl
    · rw [AC h, AC (by rw [BP]; omega)]; rfl
   .by_cases h:k=0
    · rw [AD h, AC (by rw [BP]; omega)]; rfl
    · rw [AC h, AD (AZ (by omega))]; rfl
  refine ⟨[iO p,iO q,iO a,iO b,iO sg,some (.l ((List.range k).map fun k=>rowD (swA p a sg k))),iO k,j],_,by rw[e];rfl,.inl ?_,iO k,some (.d (if decide ((k:Int)=(a:Int))=true then .int (p:Int) else .str "out")),rfl⟩
  rw[uL,r]
  generalize ((List.range k).map fun k=>rowD (swA p a sg k))=L at *
  generalize List.replicate sg (PyData.tuple [.int (((k:Int)+1) % (p:Int)),.int 1])=RP at *
  unfold aK2
  simp only[iO,bK,gA,iR,fO,eU,pV,jG,fF,eR,fN,mF,eI,R.bind_ok,AX,AT,iZ,rJ,aCJ,A6,A8,mL,kD,aFJ,kO,dI z,p9,m,m3,AY,A9,Nat.reduceAdd,Nat.reduceLeDiff,CG,AD c]
 obtain ⟨y,v,C,rfl⟩:=gR (fs:=stN 6) (fb:=aK3) (d:=fun k:Nat=>.int (k:Int)) (xs:=List.range q) (ρ:=[iO p,iO q,iO a,iO b,iO sg,some (.l ((List.range (List.range p).length).map fun k=>rowD (swA p a sg k))),f,j])
  (fun i ρ=>∃ f,ρ=[iO p,iO q,iO a,iO b,iO sg,some (.l (((List.range (List.range p).length).map fun k=>rowD (swA p a sg k))++(List.range i).map fun k=>rowD (swB p q b sg k))),f,j]) ⟨f,by simp⟩ fun i k ρ o g=>by
  obtain ⟨f,e⟩:=g
  obtain ⟨rfl,hi⟩:=wU o
  have c:(((List.range (List.range p).length).map fun k=>rowD (swA p a sg k))++(List.range k).map fun k=>rowD (swB p q b sg k)).length < 16777216:=by rw[AK,AB,AB,AU,AU,AU];omega
  have m:=aAH (.tuple [.int ((p:Int)+(((k:Int)+1) % (q:Int))),.int (-1)]) s
  have r:rowD (swB p q b sg k)=.tuple [if decide ((k:Int)=(b:Int))=true then .str "by" else .str "out",.tuple (List.replicate sg (.tuple [.int ((p:Int)+(((k:Int)+1) % (q:Int))),.int (-1)])),.str "out"]:=by
   unfold rowD swB
   rw[qA]
   have e1:(((p+(k+1) % q:Nat)):Int)=(p:Int)+((k:Int)+1) % (q:Int):=by simp
   simp only[e1]
   rw[show (Tn.w (if k=b then "by" else "out")).d=(if decide ((k:Int)=(b:Int))=true then .str "by" else .str "out") from ?_]
   .rfl
   .by_cases h:k=b
    · rw [AD h, AD (AZ (by omega))]; rfl
    · rw [AC h, AC (by rw [BP]; omega)]; rfl
  refine ⟨[iO p,iO q,iO a,iO b,iO sg,some (.l (((List.range (List.range p).length).map fun k=>rowD (swA p a sg k))++(List.range k).map fun k=>rowD (swB p q b sg k))),iO k,j],_,by rw[e];rfl,.inl ?_,iO k,rfl⟩
  rw[uL,r,<-List.append_assoc]
  generalize (((List.range (List.range p).length).map fun k=>rowD (swA p a sg k))++(List.range k).map fun k=>rowD (swB p q b sg k))=L at *
  generalize List.replicate sg (PyData.tuple [.int ((p:Int)+(((k:Int)+1) % (q:Int))),.int (-1)])=RP at *
  unfold aK3
  simp only[iO,fO,eU,pV,jG,fF,eR,fN,mF,eI,R.bind_ok,AX,AT,iZ,rJ,aCJ,A6,A8,mL,kD,kO,aH1,dI t,p9,m,m3,AY,A9,Nat.reduceAdd,Nat.reduceLeDiff,CG,AD c]
 have m:aY (swM p q a b sg)=.tuple (((List.range (List.range p).length).map fun k=>rowD (swA p a sg k))++(List.range (List.range q).length).map fun k=>rowD (swB p q b sg k)):=by
  unfold aY swM
  rw[BE,BX,BX,AU,AU];rfl
 have r1:=jI (n:=p) (by omega)
 have r2:=jI (n:=q) (by omega)
 unfold d7
 rw[m,lH]
 simp only[iO,eJ,bK,hZ,jG,eR,CO,CG,R.bind_ok,AL,BJ,AY,A9,Nat.reduceAdd,Nat.reduceSub,List.replicate,BT,BQ,A6,A8,gB,jH,eI,AX,AT,r1,r2,u,v,k9,iR,eU,m3]
section
variable{p q a b sg m:Nat}
theorem iI:(swM p q a b sg).length=p+q:=by unfold swM;rw[AK,AB,AB,AU,AU]
theorem aAI{k:Nat}(h:k < p):aP (swM p q a b sg) (k:Int)=swA p a sg k:=by
 unfold aP
 rw[CD,AS,show (swM p q a b sg)[k]? = some (swA p a sg k) from ?_]
 .rfl
 .unfold swM
  rw[BK (by rw[AB,AU];exact h),AH,BD h];rfl
theorem wV{k:Nat}(h:k < q):aP (swM p q a b sg) ((p+k:Nat):Int)=swB p q b sg k:=by
 unfold aP
 rw[CD,AS,show (swM p q a b sg)[p+k]? = some (swB p q b sg k) from ?_]
 .rfl
 .unfold swM
  rw[BS (by rw[AB,AU];omega),AB,AU,show p+k - p=k by omega,AH,BD h];rfl
theorem iP(p1:1<=p)(p2:p<=100)(h:1<=q)(i:q<=100)(s1:1<=sg)(g:sg<=3):Mach (swM p q a b sg) sg where
 len:=by rw[iI];omega
 len2:=by rw[iI];omega
 sg1:=s1
 sg3:=g
 row:=fun r d=>by
  rw[iI]
  unfold swM at d
  rcases BW.mp d with d|d
  .obtain ⟨k,e,rfl⟩:=A5.mp d
   rw[BR] at e
   refine ⟨⟨?_,?_,fun c f=>?_⟩,CC⟩
   .unfold swA;dsimp only;split
    · exact ⟨by omega, by omega⟩
    · exact .inr rfl
   .unfold swA;dsimp only;split
    · exact ⟨by omega, by omega⟩
    · exact .inr rfl
   .rw[C0 f]
    have:=CM (k+1) (show p > 0 by omega)
    exact ⟨by show (0:Int)<=(((k+1) % p:Nat):Int);omega,by show (((k+1) % p:Nat):Int) < _;omega,.inl rfl⟩
  .obtain ⟨k,e,rfl⟩:=A5.mp d
   rw[BR] at e
   refine ⟨⟨?_,.inr rfl,fun c f=>?_⟩,CC⟩
   .unfold swB;dsimp only;split
    · exact .inl rfl
    · exact .inr rfl
   .rw[C0 f]
    have:=CM (k+1) (show q > 0 by omega)
    exact ⟨by show (0:Int)<=((p+(k+1) % q:Nat):Int);omega,by show ((p+(k+1) % q:Nat):Int) < _;omega,.inr rfl⟩
def swN(p q i:Nat):Nat:=if i < p then (i+1) % p else p+(i - p+1) % q
theorem wW{r:Rw}{c:Int×Int}(h:r.c=List.replicate sg c){k:Nat}(a:k < sg):ck k r=c:=by
 unfold ck
 rw[h,AS,ED,AD a];rfl
theorem nS(p1:1<=p)(e:1<=q):Kdr (swM p q a b sg) sg (swN p q) (fun i=>decide (i < p)) where
 cel:=fun i hi k c=>by
  rw[iI] at hi
  unfold swN
  by_cases h:i < p
  .rw[aAI h,AD h,AZ h]
   exact wW (by rfl) c
  .rw[show i=p+(i - p) by omega,wV (show i - p < q by omega),AC (by omega),A1 (by omega),show p+(i - p) - p=i - p by omega]
   exact wW (by rfl) c
 lt:=fun i hi=>by
  rw[iI] at hi ⊢
  unfold swN
  have:=CM (i+1) (show p > 0 by omega)
  have:=CM (i - p+1) (show q > 0 by omega)
  split<;>omega
 rr:=fun i hi=>by
  unfold swN
  have:=CM (i+1) (show p > 0 by omega)
  by_cases h:i < p
  .rw[AD h,AZ h];exact AZ this
  .rw[AC h,A1 h];exact A1 (by omega)
 l0:=by rw[show (0:Int)=((0:Nat):Int) from rfl,aAI (by omega)];rfl
 rt0:=AZ (by omega)
 lf:=fun i hi d=>by
  rw[iI] at hi
  have:=of_decide_eq_false d
  rw[show i=p+(i - p) by omega,wV (show i - p < q by omega)]
  exact .inl ⟨_,rfl⟩
theorem o4(p1:1<=p):∀ n i,i < p->itN (swN p q) n i=(i+n) % p
 | 0,i,h=>(Nat.mod_eq_of_lt h).symm
 | n+1,i,h=>by
  have:=CM (i+1) (show p > 0 by omega)
  show itN (swN p q) n (swN p q i)=_
  rw[show swN p q i=(i+1) % p from AD h,o4 p1 n _ this,Nat.mod_add_mod]
  congr 1;omega
theorem o5(a:1<=q):∀ n i,i < q->itN (swN p q) n (p+i)=p+(i+n) % q
 | 0,i,h=>by rw[GQ,Nat.mod_eq_of_lt h];rfl
 | n+1,i,h=>by
  have:=CM (i+1) (show q > 0 by omega)
  show itN (swN p q) n (swN p q (p+i))=_
  rw[show swN p q (p+i)=p+(i+1) % q by unfold swN;rw[AC (by omega),show p+i - p=i by omega],o5 a n _ this,Nat.mod_add_mod]
  congr 2;omega
theorem aO5(p1:1<=p)(p2:p<=100)(d:1<=q)(k:q<=100)(s1:1<=sg)(i:sg<=3){z:List Nat}(S:bD sg z):iA (swM p q a b sg) z=if z.length % p=a/\z.length % q=b then ("by":Str) else ("out":Str):=by
 have M:=iP (a:=a) (b:=b) p1 p2 d k s1 i
 have K:=nS (a:=a) (b:=b) (sg:=sg) p1 d
 have h:=uC M S
 have f:=K.front M z S
 have l:=CM z.length (show p > 0 by omega)
 have g:=CM z.length (show q > 0 by omega)
 rw[o4 p1 _ _ (by omega),DQ] at f
 have c:(aP (swM p q a b sg) ((z.length % p:Nat):Int)).r=if z.length % p=a then .n (p:Int) else .w "out":=by rw[aAI l];rfl
 have j:begB (swM p q a b sg) z (p:Int)=.w (if z.length % q=b then "by" else "out"):=by
  rw[K.back M z S p (by rw[iI];omega) (A1 (by omega))]
  unfold lfB
  have:=o5 (p:=p) d z.length 0 (by omega)
  rw[GQ,DQ] at this
  rw[this,wV g];rfl
 unfold iA
 rw[show ("ever":Str)=dW from rfl,h,f]
 show (bS (c9 (swM p q a b sg) (begB (swM p q a b sg) z)) ((z.length % p:Nat):Int)).getD dW=_
 by_cases e:z.length % p=a
 .rw[AD e] at c
  have st:c9 (swM p q a b sg) (begB (swM p q a b sg) z) ((z.length % p:Nat):Int)=some (.inr (if z.length % q=b then "by" else "out")):=by
   unfold c9
   rw[c]
   simp only[j]
  rw[gF st]
  by_cases e2:z.length % q=b
  .rw[AD e2,AD ⟨e,e2⟩];rfl
  .rw[AC e2,AC fun h=>e2 h.2];rfl
 .rw[AC e] at c
  have st:c9 (swM p q a b sg) (begB (swM p q a b sg) z) ((z.length % p:Nat):Int)=some (.inr "out"):=by
   unfold c9
   rw[c]
  rw[gF st,AC fun h=>e h.1];rfl
theorem aIX(p1:1<=p)(c:1<=q)(n:Nat):Cyc (swM p q a b sg) (swN p q) n (p * q):=fun r d=>by
 rw[iI] at d
 by_cases h:r < p
 · rw [o4 p1 _ _ h, o4 p1 _ _ h, <- HA, DZ]
 · rw [show r = p + (r - p) by omega, o5 c _ _ (by omega), o5 c _ _ (by omega), <- HA, Nat.add_mul_mod_self_right]
def lsR(m sg k:Nat):Rw:=⟨if k=0 then .n 0 else .w "out",List.replicate sg (((min (k+1) m:Nat):Int),1),.w (if k=m then "out" else "by")⟩
def lsM(m sg:Nat):List Rw:=(List.range (m+1)).map (lsR m sg)
theorem kS:(lsM m sg).length=m+1:=by unfold lsM;rw[AB,AU]
theorem aCK{k:Nat}(h:k < m+1):aP (lsM m sg) (k:Int)=lsR m sg k:=by
 unfold aP
 rw[CD,AS]
 unfold lsM
 rw[AH,BD h];rfl
theorem sV(f:1<=m)(m2:m<=100)(s1:1<=sg)(d:sg<=3):Mach (lsM m sg) sg where
 len:=by rw[kS];omega
 len2:=by rw[kS];omega
 sg1:=s1
 sg3:=d
 row:=fun r a=>by
  rw[kS]
  unfold lsM at a
  obtain ⟨k,b,rfl⟩:=A5.mp a
  rw[BR] at b
  refine ⟨⟨?_,?_,fun c e=>?_⟩,CC⟩
  .unfold lsR;dsimp only;split
   · exact ⟨by omega, by omega⟩
   · exact .inr rfl
  .unfold lsR;dsimp only;split
   · exact .inr rfl
   · exact .inl rfl
  .rw[C0 e]
   exact ⟨by show (0:Int)<=((min (k+1) m:Nat):Int);omega,by show ((min (k+1) m:Nat):Int) < _;omega,.inl rfl⟩
def lsN(m i:Nat):Nat:=min (i+1) m
theorem aGD:Kdr (lsM m sg) sg (lsN m) (fun _=>true) where
 cel:=fun i hi k b=>by
  rw[kS] at hi
  rw[aCK hi]
  exact wW (by rfl) b
 lt:=fun i hi=>by rw[kS] at hi ⊢;unfold lsN;omega
 rr:=fun i hi=>rfl
 l0:=by rw[show (0:Int)=((0:Nat):Int) from rfl,aCK (by omega)];rfl
 rt0:=rfl
 lf:=fun i hi a=>nomatch a
theorem aAJ:∀ n i,i<=m->itN (lsN m) n i=min (i+n) m
 | 0,i,h=>by show i=min (i+0) m;omega
 | n+1,i,h=>by
  show itN (lsN m) n (lsN m i)=_
  rw[aAJ n _ (by unfold lsN;omega)];unfold lsN;omega
theorem aSE{n l:Nat}(h:m<=n):Cyc (lsM m sg) (lsN m) n l:=fun r a=>by
 rw[kS] at a
 rw[aAJ _ _ (by omega),aAJ _ _ (by omega)];omega
end
def jnM(sg:Nat)(rs1 rs2:List Rw):List Rw:=
 rs1.map (lG "out" (.n ((rs1.length+1:Nat):Int)) (.n (rs1.length:Int)))++(⟨.n ((rs1.length+1:Nat):Int),List.replicate sg ((rs1.length:Int),-1),.w "out"⟩::rs2.map (movR ((rs1.length+1:Nat):Int)))
def jnN(n1:Nat)(nx1 nx2:Nat->Nat)(i:Nat):Nat:=if i < n1 then nx1 i else if i=n1 then i else n1+1+nx2 (i - (n1+1))
def jnT(n1:Nat)(rt2:Nat->Bool)(i:Nat):Bool:=if i < n1 then true else if i=n1 then false else rt2 (i - (n1+1))
section
variable{rs1 rs2:List Rw}{sg:Nat}{nx1 nx2:Nat->Nat}{rt2:Nat->Bool}
theorem iJ:(jnM sg rs1 rs2).length=rs1.length+1+rs2.length:=by unfold jnM;rw[AK,AY,AB,AB];omega
theorem uM{rs:List Rw}{i:Nat}{r:Rw}(h:rs[i]? = some r):aP rs (i:Int)=r:=by
 unfold aP
 rw[CD,AS,h];rfl
theorem yS{rs:List Rw}{i:Nat}(h:i < rs.length):rs[i]? = some (aP rs (i:Int)):=by
 have:=eF (rs:=rs) (q:=(i:Int)) (by omega) (by omega)
 rwa [CD] at this
theorem yT{i:Nat}(h:i < rs1.length):aP (jnM sg rs1 rs2) (i:Int)=lG "out" (.n ((rs1.length+1:Nat):Int)) (.n (rs1.length:Int)) (aP rs1 (i:Int)):=uM (by
 unfold jnM
 rw[BK (by rw[AB];exact h),AH,yS h];rfl)
theorem yU:aP (jnM sg rs1 rs2) (rs1.length:Int)=⟨.n ((rs1.length+1:Nat):Int),List.replicate sg ((rs1.length:Int),-1),.w "out"⟩:=uM (by
 unfold jnM
 rw[BS (by rw[AB];exact AG _),AB,Nat.sub_self];rfl)
theorem sW{i:Nat}(h:i < rs2.length):aP (jnM sg rs1 rs2) ((rs1.length+1+i:Nat):Int)=movR ((rs1.length+1:Nat):Int) (aP rs2 (i:Int)):=uM (by
 unfold jnM
 rw[BS (by rw[AB];omega),AB,show rs1.length+1+i - rs1.length=i+1 by omega,AT,AH,yS h];rfl)
theorem aD9(M1:Mach rs1 sg)(M2:Mach rs2 sg)(v:rs1.length+rs2.length<=900):Mach (jnM sg rs1 rs2) sg where
 len:=by rw[iJ];omega
 len2:=by rw[iJ];omega
 sg1:=M1.sg1
 sg3:=M1.sg3
 row:=fun r e=>by
  rw[iJ]
  have y:=M1.len
  have z:=M2.len
  have p:(Tn.n ((rs1.length+1:Nat):Int)).good ((rs1.length+1+rs2.length:Nat):Int):=⟨by omega,by omega⟩
  have u:(Tn.n (rs1.length:Int)).good ((rs1.length+1+rs2.length:Nat):Int):=⟨by omega,by omega⟩
  have s:∀ {t b:Tn},t.good rs1.length->b.good ((rs1.length+1+rs2.length:Nat):Int)->(m5 "out" b t).good ((rs1.length+1+rs2.length:Nat):Int):=fun {t b} ht hb=>by
   cases t with
   | n q=>exact ⟨ht.1,by have:=ht.2;show q < _;omega⟩
   | w x=>
    show (if x="out" then b else Tn.w x).good _
    split
    · exact hb
    · exact ht
  unfold jnM at e
  rcases BW.mp e with e|e
  .obtain ⟨h,f,rfl⟩:=A5.mp e
   obtain ⟨⟨m,j,l⟩,i⟩:=M1.row h f
   exact ⟨⟨s m p,s j u,fun c g=>by obtain ⟨a,b,d⟩:=l c g;exact ⟨a,by omega,d⟩⟩,i⟩
  .rcases A2.mp e with rfl|e
   .refine ⟨⟨p,.inr rfl,fun c g=>?_⟩,CC⟩
    rw[C0 g]
    exact ⟨by show (0:Int)<=(rs1.length:Int);omega,by show (rs1.length:Int) < _;omega,.inr rfl⟩
   .obtain ⟨h,f,rfl⟩:=A5.mp e
    obtain ⟨⟨m,j,l⟩,i⟩:=M2.row h f
    refine ⟨⟨wA (by omega) m (by omega),wA (by omega) j (by omega),fun c g=>?_⟩,by show (h.c.map _).length=_;rw[AB,i]⟩
    obtain ⟨k,o,rfl⟩:=A5.mp g
    obtain ⟨a,b,d⟩:=l k o
    exact ⟨by show 0<=k.1+_;omega,by show k.1+_ < _;omega,d⟩
theorem aL9(M1:Mach rs1 sg)(M2:Mach rs2 sg)(f:Kdr rs1 sg nx1 (fun _=>true))(b:Kdr rs2 sg nx2 rt2):Kdr (jnM sg rs1 rs2) sg (jnN rs1.length nx1 nx2) (jnT rs1.length rt2) where
 cel:=fun i hi k g=>by
  rw[iJ] at hi
  unfold jnN jnT
  by_cases h:i < rs1.length
  .rw[AD h,AD h,yT h]
   exact f.cel i h k g
  .by_cases h2:i=rs1.length
   .rw[AC h,AD h2,AC h,AD h2,h2,yU]
    exact wW rfl g
   .rw[AC h,AC h2,AC h,AC h2]
    have e:=b.cel (i - (rs1.length+1)) (by omega) k g
    have d:=sW (sg:=sg) (rs1:=rs1) (rs2:=rs2) (i:=i - (rs1.length+1)) (by omega)
    rw[show rs1.length+1+(i - (rs1.length+1))=i by omega] at d
    rw[d]
    have j:=(M2.row _ (AW (yS (rs:=rs2) (i:=i - (rs1.length+1)) (by omega)))).2
    unfold ck at e ⊢
    rw[AS,AJ (by omega),Option.getD_some] at e
    show ((aP rs2 ((i - (rs1.length+1):Nat):Int)).c.map (yC ((rs1.length+1:Nat):Int))).getD k (0,0)=_
    rw[AS,AH,AJ (by omega),e]
    show ((nx2 (i - (rs1.length+1)):Int)+((rs1.length+1:Nat):Int),_)=_
    congr 1;omega
 lt:=fun i hi=>by
  rw[iJ] at hi ⊢
  unfold jnN
  split
  .rename_i h;have:=f.lt i h;omega
  .split
   .omega
   .have:=b.lt (i - (rs1.length+1)) (by omega);omega
 rr:=fun i hi=>by
  rw[iJ] at hi
  by_cases h:i < rs1.length
  .have:=f.lt i h
   unfold jnN jnT
   rw[AD h,AD this,AD h]
  .by_cases h2:i=rs1.length
   .unfold jnN
    rw[AC h,AD h2]
   .have:=b.lt (i - (rs1.length+1)) (by omega)
    have e:=b.rr (i - (rs1.length+1)) (by omega)
    unfold jnN
    rw[AC h,AC h2]
    unfold jnT
    rw[AC (by omega),AC (by omega),AC h,AC h2,show rs1.length+1+nx2 (i - (rs1.length+1)) - (rs1.length+1)=nx2 (i - (rs1.length+1)) by omega,e]
 l0:=by
  have:=M1.len
  rw[show (0:Int)=((0:Nat):Int) from rfl,yT (by omega)]
  show m5 "out" _ (aP rs1 0).l=_
  rw[f.l0];rfl
 rt0:=by have:=M1.len;unfold jnT;rw[AD (by omega)]
 lf:=fun i hi a=>by
  rw[iJ] at hi
  have m:=M2.len
  unfold jnT at a
  by_cases h:i < rs1.length
  .rw[AD h] at a;cases a
  .rw[AC h] at a
   by_cases h2:i=rs1.length
   .refine .inr ⟨rs1.length+1,by rw[h2,yU],by rw[iJ];omega,?_⟩
    unfold jnT
    rw[AC (by omega),AC (by omega),Nat.sub_self,b.rt0]
   .rw[AC h2] at a
    have d:=sW (sg:=sg) (rs1:=rs1) (rs2:=rs2) (i:=i - (rs1.length+1)) (by omega)
    rw[show rs1.length+1+(i - (rs1.length+1))=i by omega] at d
    rw[d]
    rcases b.lf (i - (rs1.length+1)) (by omega) a with ⟨x,e⟩|⟨r,e,r1,r2⟩
    .exact .inl ⟨x,by show lF _ (aP rs2 _).l=_;rw[e];rfl⟩
    .refine .inr ⟨rs1.length+1+r,?_,by rw[iJ];omega,?_⟩
     .show lF _ (aP rs2 _).l=_
      rw[e]
      show Tn.n ((r:Int)+((rs1.length+1:Nat):Int))=_
      congr 1;omega
     .unfold jnT
      rw[AC (by omega),AC (by omega),show rs1.length+1+r - (rs1.length+1)=r by omega,r2]
theorem wX(K1:Kdr rs1 sg nx1 (fun _=>true)):∀ n r,r < rs1.length->itN (jnN rs1.length nx1 nx2) n r=itN nx1 n r
 | 0,r,_=>rfl
 | n+1,r,hr=>by
  show itN _ n (jnN _ _ _ r)=itN nx1 n (nx1 r)
  rw[show jnN rs1.length nx1 nx2 r=nx1 r from AD hr,wX K1 n _ (K1.lt r hr)]
theorem wY:∀ n,itN (jnN rs1.length nx1 nx2) n rs1.length=rs1.length
 | 0=>rfl
 | n+1=>by
  show itN _ n (jnN _ _ _ rs1.length)=_
  rw[show jnN rs1.length nx1 nx2 rs1.length=rs1.length by unfold jnN;rw[AC (by omega),AD rfl],wY n]
theorem rZ(K2:Kdr rs2 sg nx2 rt2):∀ n r,r < rs2.length->itN (jnN rs1.length nx1 nx2) n (rs1.length+1+r)=rs1.length+1+itN nx2 n r
 | 0,r,_=>rfl
 | n+1,r,hr=>by
  show itN _ n (jnN _ _ _ (rs1.length+1+r))=rs1.length+1+itN nx2 n (nx2 r)
  rw[show jnN rs1.length nx1 nx2 (rs1.length+1+r)=rs1.length+1+nx2 r by unfold jnN;rw[AC (by omega),AC (by omega),show rs1.length+1+r - (rs1.length+1)=r by omega],rZ K2 n _ (K2.lt r hr)]
theorem aSF{i l:Nat}(b:Kdr rs1 sg nx1 (fun _=>true))(a:Kdr rs2 sg nx2 rt2)(c:Cyc rs1 nx1 i l)(d:Cyc rs2 nx2 i l):Cyc (jnM sg rs1 rs2) (jnN rs1.length nx1 nx2) i l:=by
 intro r e
 rw[iJ] at e
 by_cases h:r < rs1.length
 .rw[wX b _ _ h,wX b _ _ h,c r h]
 .by_cases h2:r=rs1.length
  · rw [h2, wY, wY]
  · rw [show r = rs1.length + 1 + (r - (rs1.length + 1)) by omega, rZ a _ _ (by omega), rZ a _ _ (by omega), d _ (by omega)]
end
theorem aO6{p q a b sg m:Nat}(p1:1<=p)(p2:p<=100)(j:1<=q)(v:q<=100)(y:1<=m)(m2:m<=100)(s1:1<=sg)(k:sg<=3){z:List Nat}(S:bD sg z) :
  iA (jnM sg (lsM m sg) (swM p q a b sg)) z=if (z.length % p=a/\z.length % q=b)\/z.length < m then ("by":Str) else ("out":Str):=by
 have M1:=sV (m:=m) y m2 s1 k
 have M2:=iP (a:=a) (b:=b) p1 p2 j v s1 k
 have l:=aGD (m:=m) (sg:=sg)
 have d:=nS (a:=a) (b:=b) (sg:=sg) p1 j
 have E:(lsM m sg).length=m+1:=kS
 have D:(swM p q a b sg).length=p+q:=iI
 have M:=aD9 M1 M2 (by omega)
 have K:=aL9 M1 M2 l d
 have h:=uC M S
 have s:=K.front M z S
 rw[wX l _ _ (by omega),aAJ _ _ (by omega),DQ] at s
 have B:=CM z.length (show p > 0 by omega)
 have u:=CM z.length (show q > 0 by omega)
 have r1:=yT (sg:=sg) (rs1:=lsM m sg) (rs2:=swM p q a b sg) (i:=min z.length m) (by omega)
 rw[aCK (by omega)] at r1
 unfold iA
 rw[show ("ever":Str)=dW from rfl,h,s]
 show (bS (c9 (jnM sg (lsM m sg) (swM p q a b sg)) (begB (jnM sg (lsM m sg) (swM p q a b sg)) z)) ((min z.length m:Nat):Int)).getD dW=_
 have x:¬ (("by":Str)="out"):=by decide +kernel
 have g:∀ t:Tn,m5 "out" t (.w "by")=.w "by":=fun t=>by simp only[m5,AC x]
 by_cases f:z.length < m
 .have st:c9 (jnM sg (lsM m sg) (swM p q a b sg)) (begB (jnM sg (lsM m sg) (swM p q a b sg)) z) ((min z.length m:Nat):Int)=some (.inr "by"):=by
   have:(aP (jnM sg (lsM m sg) (swM p q a b sg)) ((min z.length m:Nat):Int)).r=.w "by":=by
    rw[r1]
    show m5 "out" _ (Tn.w (if min z.length m=m then "out" else "by"))=_
    rw[AC (by omega),g]
   unfold c9
   rw[this]
  rw[gF st,AD (.inr f)];rfl
 .have C:begB (jnM sg (lsM m sg) (swM p q a b sg)) z ((lsM m sg).length:Int)=.n (((lsM m sg).length+1+z.length % p:Nat):Int):=by
   rw[K.back M z S _ (by rw[iJ];omega) (by unfold jnT;rw[AC (by omega),AD rfl])]
   unfold lfB
   rw[wY,yU]
   show Tn.n (itN _ z.length ((((lsM m sg).length+1:Nat):Int)).toNat:Int)=_
   have:=rZ (rs1:=lsM m sg) (nx1:=lsN m) d z.length 0 (by omega)
   rw[o4 p1 _ _ (by omega),DQ] at this
   rw[CD,this]
  have st:c9 (jnM sg (lsM m sg) (swM p q a b sg)) (begB (jnM sg (lsM m sg) (swM p q a b sg)) z) ((min z.length m:Nat):Int)=some (.inl (((lsM m sg).length+1+z.length % p:Nat):Int)):=by
   have:(aP (jnM sg (lsM m sg) (swM p q a b sg)) ((min z.length m:Nat):Int)).r=.n ((lsM m sg).length:Int):=by
    rw[r1]
    show m5 "out" _ (Tn.w (if min z.length m=m then "out" else "by"))=_
    rw[AD (by omega)];rfl
   unfold c9
   rw[this]
   simp only[C]
  have r2:=sW (sg:=sg) (rs1:=lsM m sg) (rs2:=swM p q a b sg) (i:=z.length % p) (by omega)
  rw[aAI B] at r2
  rw[aAZ st]
  by_cases e:z.length % p=a
  .have A:begB (jnM sg (lsM m sg) (swM p q a b sg)) z (((lsM m sg).length+1+p:Nat):Int)=.w (if z.length % q=b then "by" else "out"):=by
    rw[K.back M z S _ (by rw[iJ];omega) (by unfold jnT;rw[AC (by omega),AC (by omega)];exact A1 (by omega))]
    unfold lfB
    have:=rZ (rs1:=lsM m sg) (nx1:=lsN m) d z.length (p+0) (by omega)
    rw[o5 j _ _ (by omega),DQ,GQ p] at this
    have o:=sW (sg:=sg) (rs1:=lsM m sg) (rs2:=swM p q a b sg) (i:=p+z.length % q) (by omega)
    rw[wV u] at o
    rw[this,o];rfl
   have c:c9 (jnM sg (lsM m sg) (swM p q a b sg)) (begB (jnM sg (lsM m sg) (swM p q a b sg)) z) (((lsM m sg).length+1+z.length % p:Nat):Int)=some (.inr (if z.length % q=b then "by" else "out")):=by
    have:(aP (jnM sg (lsM m sg) (swM p q a b sg)) (((lsM m sg).length+1+z.length % p:Nat):Int)).r=.n (((lsM m sg).length+1+p:Nat):Int):=by
     rw[r2]
     show lF _ (if z.length % p=a then .n (p:Int) else .w "out")=_
     rw[AD e]
     show Tn.n ((p:Int)+(((lsM m sg).length+1:Nat):Int))=_
     congr 1;omega
    unfold c9
    rw[this]
    simp only[A]
   rw[gF c]
   by_cases e2:z.length % q=b
   .rw[AD e2,AD (.inl ⟨e,e2⟩)];rfl
   .rw[AC e2,AC (by rintro (h|h);exact e2 h.2;exact f h)];rfl
  .have c:c9 (jnM sg (lsM m sg) (swM p q a b sg)) (begB (jnM sg (lsM m sg) (swM p q a b sg)) z) (((lsM m sg).length+1+z.length % p:Nat):Int)=some (.inr "out"):=by
    have:(aP (jnM sg (lsM m sg) (swM p q a b sg)) (((lsM m sg).length+1+z.length % p:Nat):Int)).r=.w "out":=by
     rw[r2]
     show lF _ (if z.length % p=a then .n (p:Int) else .w "out")=_
     rw[AC e];rfl
    unfold c9
    rw[this]
   rw[gF c,AC (by rintro (h|h);exact e h.1;exact f h)];rfl
theorem aLC(i j:Nat):d2 aBL (.int ((i:Int)+1)) (.int (j:Int))=.ok (.int ((min (i+1) j:Nat):Int)):=by
 show R.ok (PyData.int (aBL ((i:Int)+1) (j:Int)))=_
 congr 2
 unfold aBL
 split<;>omega
theorem aSG{m sg:Nat}(m2:m<=100)(o:sg<=3):fE [.d (.int (m:Int)),.d (.int (sg:Int))]=.ok (.d (aY (lsM m sg))):=by
 obtain ⟨q,p,f,c,rfl⟩:=gR (fs:=stN 3) (fb:=aFS) (d:=fun k:Nat=>.int (k:Int)) (xs:=List.range (m+1)) (ρ:=[iO m,iO sg,some (.l []),none,none])
  (fun i ρ=>∃ f c,ρ=[iO m,iO sg,some (.l ((List.range i).map fun k=>rowD (lsR m sg k))),f,c]) ⟨none,none,rfl⟩ fun i k ρ r j=>by
  obtain ⟨f,c,e⟩:=j
  obtain ⟨rfl,hi⟩:=wU r
  have b:((List.range k).map fun k=>rowD (lsR m sg k)).length < 16777216:=by rw[AB,AU];omega
  have g:=aAH (.tuple [.int ((min (k+1) m:Nat):Int),.int 1]) o
  have a:=aLC k m
  have s:rowD (lsR m sg k)=.tuple [if decide ((0:Int) < (k:Int))=true then .str "out" else .int 0,.tuple (List.replicate sg (.tuple [.int ((min (k+1) m:Nat):Int),.int 1])),if decide ((k:Int)=(m:Int))=true then .str "out" else .str "by"]:=by
   unfold rowD lsR
   rw[qA]
   rw[show (if k=0 then Tn.n 0 else Tn.w "out").d=(if decide ((0:Int) < (k:Int))=true then .str "out" else .int 0) from ?_,show (Tn.w (if k=m then "out" else "by")).d=(if decide ((k:Int)=(m:Int))=true then .str "out" else .str "by") from ?_]
   .by_cases h:k=m
    · rw [AD h, AD (AZ (by omega))]; rfl
    · rw [AC h, AC (by rw [BP]; omega)]; rfl
   .by_cases h:k=0
    · rw [AD h, AC (by rw [BP]; omega)]; rfl
    · rw [AC h, AD (AZ (by omega))]; rfl
  refine ⟨[iO m,iO sg,some (.l ((List.range k).map fun k=>rowD (lsR m sg k))),iO k,c],_,by rw[e];rfl,.inl ?_,iO k,some (.d (.tuple (List.replicate sg (.tuple [.int ((min (k+1) m:Nat):Int),.int 1])))),rfl⟩
  rw[uL,s]
  generalize ((List.range k).map fun k=>rowD (lsR m sg k))=L at *
  generalize ((min (k+1) m:Nat):Int)=t at *
  generalize List.replicate sg (PyData.tuple [.int t,.int 1])=RP at *
  unfold aFS
  simp only[iO,bK,gA,iR,fO,eU,pV,jG,fF,eR,fN,mF,eI,R.bind_ok,AX,AT,iZ,rJ,aCJ,A6,A8,mL,kD,aFJ,kO,a,p9,g,m3,AY,A9,Nat.reduceAdd,Nat.reduceLeDiff,CG,AD b]
 have g:aY (lsM m sg)=.tuple ((List.range (List.range (m+1)).length).map fun k=>rowD (lsR m sg k)):=by
  unfold aY lsM
  rw[BX,AU];rfl
 have r1:=jI (n:=m+1) (by omega)
 rw[show ((m+1:Nat):Int)=(m:Int)+1 from rfl] at r1
 unfold fE
 rw[g,kR]
 simp only[iO,eJ,bK,hZ,jG,eR,CO,CG,R.bind_ok,AL,BJ,AY,A9,Nat.reduceAdd,Nat.reduceSub,List.replicate,BT,BQ,A6,A8,gB,jH,fO,fN,kO,eI,AX,AT,r1,p,k9,iR,eU,m3]
theorem aSH(t:Tn)(k:Int):i7 [.d t.d,.d (.int k)]=.ok (.d (lF k t).d):=by
 cases t with
 | n q=>simp[i7,nN,Tn.d,aIA,lF]
 | w x=>simp[i7,nN,Tn.d,aIB,lF]
theorem aO7{rs:List Rw}{sg:Nat}(M:Mach rs sg)(k:Int):fG [.d (aY rs),.d (.int k)]=.ok (.d (.list (rs.map fun r=>rowD (movR k r)))):=by
 have t:=M.len2
 obtain ⟨q,o,f,h,n,rfl⟩:=gR (fs:=stT [(stN 3),(stN 4),(stN 5)]) (fb:=raF) (d:=rowD) (xs:=rs) (ρ:=[some (.d (aY rs)),some (.d (.int k)),some (.l []),none,none,none])
  (fun i ρ=>∃ f h n,ρ=[some (.d (aY rs)),some (.d (.int k)),some (.l ((rs.take i).map fun r=>rowD (movR k r))),f,h,n]) ⟨none,none,none,rfl⟩ fun i r ρ j m=>by
  obtain ⟨f,h,n,e⟩:=m
  have hi:=(AM.mp j).1
  have b:((rs.take i).map fun r=>rowD (movR k r)).length < 16777216:=by rw[AB,BM];omega
  have g:=M.row r (AW j)
  have v:=M.sg3
  have s:=compL_of (fs:=stT [(stN 0),(stN 1)]) (fe:=(cW (aA (e2 cQ (rV 0) (rV 2)) (aA (eV 1) aO)))) (ρ0:=[none,none,some (.d (.int k))]) (d:=dM) (g:=fun c=>dM (yC k c)) (xs:=r.c) fun c _=>⟨_,rfl,by simp[dM,yC]⟩
  have a:cD (.tuple (r.c.map dM))=.ok (r.c.map dM):=j5 (by rw[AB];omega)
  have e2:rowD (movR k r)=.tuple [(lF k r.l).d,.tuple (r.c.map fun c=>dM (yC k c)),(lF k r.r).d]:=by
   unfold rowD movR
   simp only[BX];rfl
  have h1:=aSH r.l k
  have h2:=aSH r.r k
  have p:rs.take (i+1)=rs.take i++[r]:=by rw[G5,j];rfl
  refine ⟨[some (.d (aY rs)),some (.d (.int k)),some (.l ((rs.take i).map fun r=>rowD (movR k r))),some (.d r.l.d),some (.d (.tuple (r.c.map dM))),some (.d r.r.d)],_,by rw[e];rfl,.inl ?_,some (.d r.l.d),some (.d (.tuple (r.c.map dM))),some (.d r.r.d),rfl⟩
  rw[p,BE,AL,BJ,e2]
  generalize ((rs.take i).map fun r=>rowD (movR k r))=L at *
  generalize r.c.map dM=y at *
  generalize (r.c.map fun c=>dM (yC k c))=w at *
  generalize aY rs=md at *
  unfold raF
  simp only[iO,mL,kD,fF,eR,vX,k8,nL,eU,pV,lA,eI,cJ,AL,BJ,D4,CT,D5,R.bind_ok,AX,AT,AY,A9,Nat.reduceAdd,Nat.reduceLeDiff,CG,h1,h2,oN,a,s,m3,AD b,A6,A8]
 rw[DJ] at o
 have a:cD (aY rs)=.ok (rs.map rowD):=j5 (by rw[AB];omega)
 unfold fG
 rw[jO]
 generalize aY rs=md at *
 generalize rs.map rowD=x at *
 generalize (rs.map fun r=>rowD (movR k r))=u at *
 simp only[iO,eJ,bK,hZ,jG,eR,CO,CG,R.bind_ok,AL,BJ,AY,A9,Nat.reduceAdd,Nat.reduceSub,List.replicate,BT,BQ,A6,A8,gB,eU,mF,AX,AT,a,o,aHX,aL3,k9,nL]
theorem aIY(b t:Tn):(if isW "out" t=true then b.d else t.d)=(m5 "out" b t).d:=by
 cases t with
 | n q=>rfl
 | w x=>
  by_cases e:x="out"
  · simp [isW, m5, e]
  · simp [isW, m5, e]
theorem aV4{rs1 rs2:List Rw}{sg:Nat}(M1:Mach rs1 sg)(M2:Mach rs2 sg)(U:rs1.length+rs2.length<=900)(l0:(aP rs2 0).l=.n 0):eE [.d (aY rs1),.d (aY rs2),.d (.str "out")]=.ok (.d (aY (jnM sg rs1 rs2))):=by
 have O:=aO7 M2 ((rs1.length:Int)+1)
 have h:dLen (aY rs1)=.ok (.int rs1.length):=by unfold aY;rw[aH3,AB]
 have m:∃ r t,rs2=r::t:=by
  cases rs2 with
  | nil=>exact absurd M2.len (by simp)
  | cons r t=>exact ⟨r,t,rfl⟩
 have o:dIx (.list (rs2.map fun r=>rowD (movR ((rs1.length:Int)+1) r))) (.int 0)=.ok (rowD (movR ((rs1.length:Int)+1) (aP rs2 0))):=by
  obtain ⟨r,t,rfl⟩:=m
  exact rL _ _
 have a:dIx (rowD (movR ((rs1.length:Int)+1) (aP rs2 0))) (.int 0)=.ok (.int ((rs1.length:Int)+1)):=by
  have:dIx (rowD (movR ((rs1.length:Int)+1) (aP rs2 0))) (.int 0)=.ok (lF ((rs1.length:Int)+1) (aP rs2 0).l).d:=rK _ _
  rw[this,l0]
  show R.ok (PyData.int ((0:Int)+((rs1.length:Int)+1)))=_
  rw[Int.zero_add]
 have s:cD (aY rs1)=.ok (rs1.map rowD):=j5 (by rw[AB];omega)
 obtain ⟨K,D,A,z,C,rfl⟩:=gR (fs:=stT [(stN 6),(stN 7),(stN 8)]) (fb:=jnF) (d:=rowD) (xs:=rs1) (ρ:=[some (.d (aY rs1)),some (.d (aY rs2)),some (.d (.str "out")),some (.d (.int (rs1.length:Int))),some (.d (.list (rs2.map fun r=>rowD (movR ((rs1.length:Int)+1) r)))),some (.l []),none,none,none])
  (fun i ρ=>∃ A z C,ρ=[some (.d (aY rs1)),some (.d (aY rs2)),some (.d (.str "out")),some (.d (.int (rs1.length:Int))),some (.d (.list (rs2.map fun r=>rowD (movR ((rs1.length:Int)+1) r)))),some (.l ((rs1.take i).map fun r=>rowD (lG "out" (.n ((rs1.length+1:Nat):Int)) (.n (rs1.length:Int)) r))),A,z,C]) ⟨none,none,none,rfl⟩ fun i r ρ f v=>by
  obtain ⟨A,z,C,e⟩:=v
  have hi:=(AM.mp f).1
  have p:((rs1.take i).map fun r=>rowD (lG "out" (.n ((rs1.length+1:Nat):Int)) (.n (rs1.length:Int)) r)).length < 16777216:=by rw[AB,BM];omega
  have g:=(M1.row r (AW f)).1
  have e1:=aIF (w:="out") (.inr rfl) g.1
  have e2:=aIF (w:="out") (.inr rfl) g.2.1
  have E:=aIY (.n ((rs1.length+1:Nat):Int)) r.l
  have M:=aIY (.n (rs1.length:Int)) r.r
  have J:rs1.take (i+1)=rs1.take i++[r]:=by rw[G5,f];rfl
  have G:rowD (lG "out" (.n ((rs1.length+1:Nat):Int)) (.n (rs1.length:Int)) r)=.tuple [if isW "out" r.l=true then .int ((rs1.length:Int)+1) else r.l.d,.tuple (r.c.map dM),if isW "out" r.r=true then .int (rs1.length:Int) else r.r.d]:=by
   unfold rowD lG
   simp only[<-E,<-M];rfl
  refine ⟨[some (.d (aY rs1)),some (.d (aY rs2)),some (.d (.str "out")),some (.d (.int (rs1.length:Int))),some (.d (.list (rs2.map fun r=>rowD (movR ((rs1.length:Int)+1) r)))),some (.l ((rs1.take i).map fun r=>rowD (lG "out" (.n ((rs1.length+1:Nat):Int)) (.n (rs1.length:Int)) r))),some (.d r.l.d),some (.d (.tuple (r.c.map dM))),some (.d r.r.d)],_,by rw[e];rfl,.inl ?_,some (.d r.l.d),some (.d (.tuple (r.c.map dM))),some (.d r.r.d),rfl⟩
  rw[J,BE,AL,BJ,G]
  generalize ((rs1.take i).map fun r=>rowD (lG "out" (.n ((rs1.length+1:Nat):Int)) (.n (rs1.length:Int)) r))=L at *
  generalize r.c.map dM=S at *
  generalize aY rs1=u at *
  generalize aY rs2=md2 at *
  generalize (rs2.map fun r=>rowD (movR ((rs1.length:Int)+1) r))=H at *
  unfold jnF
  simp only[iO,fO,eU,pV,jG,fF,eR,fN,mF,eI,R.bind_ok,AX,AT,o,a,e1,e2,rJ,aCJ,A6,A8,mL,kD,AY,A9,Nat.reduceAdd,Nat.reduceLeDiff,CG,AD p]
 rw[DJ] at D
 have N:=aAH (.tuple [.int (rs1.length:Int),.int (-1)]) M1.sg3
 have b:∃ r t,rs1=r::t:=by
  cases rs1 with
  | nil=>exact absurd M1.len (by simp)
  | cons r t=>exact ⟨r,t,rfl⟩
 have B:∃ x,dIx (aY rs1) (.int 0)=.ok x/\∃ y,dIx x (.int 1)=.ok y/\dLen y=.ok (.int (sg:Int)):=by
  obtain ⟨r,t,rfl⟩:=b
  refine ⟨_,rK _ _,_,aBZ _ _ _,?_⟩
  rw[aH3,AB,(M1.row r A0).2]
 obtain ⟨x,I,y,F,P⟩:=B
 have j:(rs1.map fun r=>rowD (lG "out" (.n ((rs1.length+1:Nat):Int)) (.n (rs1.length:Int)) r)).length < 16777216:=by rw[AB];omega
 have q:nZ (.list ((rs1.map fun r=>rowD (lG "out" (.n ((rs1.length+1:Nat):Int)) (.n (rs1.length:Int)) r))++[.tuple [.int ((rs1.length:Int)+1),.tuple (List.replicate sg (.tuple [.int (rs1.length:Int),.int (-1)])),.str "out"]])) (.list (rs2.map fun r=>rowD (movR ((rs1.length:Int)+1) r)))=.ok (((rs1.map fun r=>rowD (lG "out" (.n ((rs1.length+1:Nat):Int)) (.n (rs1.length:Int)) r))++[.tuple [.int ((rs1.length:Int)+1),.tuple (List.replicate sg (.tuple [.int (rs1.length:Int),.int (-1)])),.str "out"]])++(rs2.map fun r=>rowD (movR ((rs1.length:Int)+1) r))):=by
  unfold nZ
  simp only
  rw[AD (by rw[dO,AK,AB,AB,A7];omega)]
 have k:aY (jnM sg rs1 rs2)=.tuple (((rs1.map fun r=>rowD (lG "out" (.n ((rs1.length+1:Nat):Int)) (.n (rs1.length:Int)) r))++[.tuple [.int ((rs1.length:Int)+1),.tuple (List.replicate sg (.tuple [.int (rs1.length:Int),.int (-1)])),.str "out"]])++(rs2.map fun r=>rowD (movR ((rs1.length:Int)+1) r))):=by
  unfold aY jnM
  rw[BE,AL,BX,BX,EM,List.singleton_append]
  unfold rowD
  rw[qA];rfl
 unfold eE
 rw[k,jP]
 generalize (rs1.map fun r=>rowD (lG "out" (.n ((rs1.length+1:Nat):Int)) (.n (rs1.length:Int)) r))=Q at *
 generalize (rs2.map fun r=>rowD (movR ((rs1.length:Int)+1) r))=H at *
 generalize rs1.map rowD=T at *
 generalize aY rs1=u at *
 generalize aY rs2=md2 at *
 generalize List.replicate sg (PyData.tuple [.int (rs1.length:Int),.int (-1)])=RP at *
 generalize rowD (movR ((rs1.length:Int)+1) (aP rs2 0))=V at *
 simp only[iO,eJ,bK,gA,iR,eU,fO,eI,k8,fF,eR,nL,hZ,jG,CO,CG,R.bind_ok,AL,BJ,AY,A9,Nat.reduceAdd,Nat.reduceSub,Nat.reduceLeDiff,List.replicate,BT,BQ,A6,A8,gB,mF,fN,kO,AX,AT,h,O,oN,s,D,mL,kD,pV,p9,aH1,o,a,I,F,P,N,m3,AD j,k9,q]
def rsB(p q a b c s k:Nat):Bool:=decide ((c+s * k) % p=a) && decide ((c+s * k) % q=b)
def wK(p q a b m c s k:Nat):Str:=if rsB p q a b c s k=true\/c+s * k < m then "by" else "out"
def stK(p q a b m c s:Nat):Nat->Nat
 | 0=>0
 | i+1=>if c+s * i < m/\rsB p q a b c s i=false then i+1 else stK p q a b m c s i
section
variable{p q a b m c s:Nat}
theorem aIZ:∀ n,stK p q a b m c s n<=n
 | 0=>AG _
 | n+1=>by
  have:=aIZ n
  unfold stK
  split<;>omega
theorem stK_at:∀ n,stK p q a b m c s n=0\/(c+s * (stK p q a b m c s n - 1) < m/\rsB p q a b c s (stK p q a b m c s n - 1)=false)
 | 0=>.inl rfl
 | n+1=>by
  unfold stK
  split
  · rename_i h; exact .inr h
  · exact stK_at n
theorem aI0:∀ n k,stK p q a b m c s n<=k->k < n->¬ (c+s * k < m/\rsB p q a b c s k=false)
 | 0,k,_,h=>by omega
 | n+1,k,h1,h2=>by
  unfold stK at h1
  split at h1
  .omega
  .rename_i h
   by_cases e:k=n
   · subst e; exact h
   · exact aI0 n k h1 (by omega)
def dQ(p q s:Nat):Nat:=p * q / Nat.gcd (p * q) s
theorem aLD(p1:1<=p)(c:1<=q):s * dQ p q s=p * q * (s / Nat.gcd (p * q) s):=by
 unfold dQ
 have b:=Nat.gcd_dvd_left (p * q) s
 have a:=Nat.gcd_dvd_right (p * q) s
 rw[<-Nat.mul_div_assoc _ b,<-Nat.mul_div_assoc _ a,D2]
theorem uN(p1:1<=p)(b:1<=q):1<=dQ p q s/\dQ p q s<=p * q:=by
 have h:0 < p * q:=FC p1 b
 have a:=E6 s h
 exact ⟨Nat.div_pos (Nat.gcd_le_left s h) a,Nat.div_le_self _ _⟩
theorem aCL(p1:1<=p)(d:1<=q)(k:Nat):rsB p q a b c s (k+dQ p q s)=rsB p q a b c s k:=by
 unfold rsB
 rw[Nat.mul_add,aLD p1 d,<-Nat.add_assoc]
 rw[show p * q * (s / Nat.gcd (p * q) s)=p * (q * (s / Nat.gcd (p * q) s)) by rw[GA],DZ]
 rw[show p * (q * (s / Nat.gcd (p * q) s))=q * (p * (s / Nat.gcd (p * q) s)) by rw[<-Nat.mul_assoc,D2 p q,GA],DZ]
theorem sX(p1:1<=p)(q1:1<=q)(k:Nat):∀ j,rsB p q a b c s (k+j * dQ p q s)=rsB p q a b c s k
 | 0=>by rw[GR];rfl
 | j+1=>by rw[show k+(j+1) * dQ p q s=(k+j * dQ p q s)+dQ p q s by rw[Nat.add_mul];omega,aCL p1 q1,sX p1 q1 k j]
theorem aEA{x y n r:Nat}(h1:x % n=r)(h2:(x+y) % n=r):n ∣ y:=by
 have:=Nat.sub_mod_eq_zero_of_mod_eq (h2.trans h1.symm)
 rw[Nat.add_sub_cancel_left] at this
 exact Nat.dvd_of_mod_eq_zero this
theorem aI1 (p1 : 1 <= p) (j : 1 <= q) (m : Nat.Coprime p q) {k l : Nat} (h1 : rsB p q a b c s k = true) (h2 : rsB p q a b c s (k + l) = true) : dQ p q s ∣ l := by
  unfold rsB at h1 h2
  rw [AV, BP, BP] at h1 h2
  rw [Nat.mul_add, <- HA] at h2
  have d1 := aEA h1.1 h2.1
  have d2 := aEA h1.2 h2.2
  have d : p * q ∣ s * l := Nat.Coprime.mul_dvd_of_dvd_of_dvd m d1 d2
  have e : 0 < p * q := FC p1 j
  have g := E6 s e
  unfold dQ
  have f := Nat.coprime_div_gcd_div_gcd g
  refine f.dvd_of_dvd_mul_left ?_
  obtain ⟨x, h⟩ := Nat.gcd_dvd_left (p * q) s
  obtain ⟨y, i⟩ := Nat.gcd_dvd_right (p * q) s
  have e1 : p * q / Nat.gcd (p * q) s = x := by conv => lhs; arg 1; rw [h]
                                                exact GU _ g
  have e2 : s / Nat.gcd (p * q) s = y := by conv => lhs; arg 1; rw [i]
                                            exact GU _ g
  rw [e1, e2]
  refine Nat.dvd_of_mul_dvd_mul_left g ?_
  rw [<- h, <- GA, <- i]
  exact d
theorem aTY(f:m<=6)(s1:1<=s){n k:Nat}(d:6<=n)(h:stK p q a b m c s n<=k):wK p q a b m c s k=if rsB p q a b c s k=true then "by" else "out":=by
 unfold wK
 by_cases e:rsB p q a b c s k=true
 .rw[AD (.inl e),AD e]
 .rw[AC e,AC]
  rintro (h1|h1)
  .exact e h1
  .have g:k<=s * k:=G2 k s1
   exact aI0 n k h (by omega) ⟨h1,by simpa using e⟩
theorem aMA(d:m<=6)(s1:1<=s)(n:Nat):stK p q a b m c s n<=6:=by
 rcases stK_at (p:=p) (q:=q) (a:=a) (b:=b) (m:=m) (c:=c) (s:=s) n with h|h
 .omega
 .have e:stK p q a b m c s n - 1<=s * (stK p q a b m c s n - 1):=G2 _ s1
  omega
def hasB(p q a b c s n i:Nat)(v:Bool):Prop:=∃ k,i<=k/\k < n/\rsB p q a b c s k=v
theorem aI2:(("by":Str)="out")=False:=by simp;decide +kernel
theorem aEB(p1:1<=p)(d:1<=q){i k:Nat}(h:i<=k):∃ j,i<=j/\j < i+p * q/\rsB p q a b c s j=rsB p q a b c s k:=by
 obtain ⟨f,g⟩:=uN (s:=s) p1 d
 have l:=CM (k - i) (show dQ p q s > 0 by omega)
 refine ⟨i+(k - i) % dQ p q s,by omega,by omega,?_⟩
 rw[<-sX p1 d _ ((k - i) / dQ p q s)]
 have e:=FU (k - i) (dQ p q s)
 rw[D2] at e
 rw[show i+(k - i) % dQ p q s+(k - i) / dQ p q s * dQ p q s=k by omega]
theorem aO8(p1:1<=p)(g:1<=q)(y:Nat.Coprime p q)(x:m<=6)(s1:1<=s){n:Nat}(I:2 * p * q+8<=n) :
  (hasB p q a b c s n (stK p q a b m c s n) true->Canon (wK p q a b m c s) (stK p q a b m c s n) (dQ p q s))/\(¬ hasB p q a b c s n (stK p q a b m c s n) true->Canon (wK p q a b m c s) (stK p q a b m c s n) 1)/\(hasB p q a b c s n (stK p q a b m c s n) true->¬ hasB p q a b c s n (stK p q a b m c s n) false->dQ p q s=1):=by
 obtain ⟨z,K⟩:=uN (s:=s) p1 g
 have M:=aMA (p:=p) (q:=q) (a:=a) (b:=b) (c:=c) x s1 n
 have H:1<=p * q:=FC p1 g
 have F:2 * (p * q)+8<=n:=by rw[<-Nat.mul_assoc];exact I
 have W:∀ k,stK p q a b m c s n<=k->wK p q a b m c s k=if rsB p q a b c s k=true then "by" else "out":=fun k i=>aTY x s1 (by omega) i
 have first:∀ l,1<=l->(rsB p q a b c s (stK p q a b m c s n - 1)=false->rsB p q a b c s (stK p q a b m c s n - 1+l)=false)->stK p q a b m c s n=0\/wK p q a b m c s (stK p q a b m c s n - 1)≠wK p q a b m c s (stK p q a b m c s n - 1+l):=fun l L o=>by
  by_cases e0:stK p q a b m c s n=0
  .exact .inl e0
  rcases stK_at (p:=p) (q:=q) (a:=a) (b:=b) (m:=m) (c:=c) (s:=s) n with h|⟨h1,h2⟩
  .exact absurd h e0
  .right
   rw[W (stK p q a b m c s n - 1+l) (by omega),o h2]
   unfold wK
   rw[AD (.inr h1),AC (by simp)]
   intro h
   rw[aI2] at h
   exact h
 refine ⟨fun ⟨k0,A,J,r⟩=>⟨z,fun k i=>?_,fun u h1 ⟨t,E⟩=>?_,first _ z fun h=>by rw[aCL p1 g];exact h⟩,fun d=>⟨AG _,fun k i=>?_,fun u h1 _=>h1,first _ (AG _) fun h=>?_⟩,fun ⟨k0,A,J,r⟩ d=>?_⟩
 .rw[W k i,W _ (by omega),aCL p1 g]
 .have B:k0+t * dQ p q s>=t:=by have:=GT t (show 0 < dQ p q s by omega);omega
  have e:=E (k0+t * dQ p q s) B
  rw[W (k0+t * dQ p q s+u) (by omega),W (k0+t * dQ p q s) (by omega),sX p1 g,r,AD rfl] at e
  by_cases o:rsB p q a b c s (k0+t * dQ p q s+u)=true
  .exact Nat.le_of_dvd (by omega) (aI1 p1 g y (by rw[sX p1 g];exact r) o)
  .rw[AC o] at e
   have e:=e.symm
   rw[aI2] at e
   exact e.elim
 .have f:∀ k,stK p q a b m c s n<=k->rsB p q a b c s k=false:=fun k i=>by
   obtain ⟨j,w,C,v⟩:=aEB (a:=a) (b:=b) (c:=c) (s:=s) p1 g i
   cases e:rsB p q a b c s k with
   | false=>rfl
   | true=>exact absurd ⟨j,w,by omega,by rw[v,e]⟩ d
  rw[W k i,W _ (by omega),f k i,f _ (by omega)]
 .cases e:rsB p q a b c s (stK p q a b m c s n - 1+1) with
  | false=>rfl
  | true=>
   by_cases e0:stK p q a b m c s n=0
   .exfalso
    rw[e0] at h e
    obtain ⟨j,w,C,v⟩:=aEB (a:=a) (b:=b) (c:=c) (s:=s) p1 g (CO (0 - 1+1))
    exact d ⟨j,by omega,by omega,by rw[v,e]⟩
   .exact absurd ⟨stK p q a b m c s n - 1+1,by omega,by omega,e⟩ d
 .have D:rsB p q a b c s (stK p q a b m c s n)=true:=by
   cases e:rsB p q a b c s (stK p q a b m c s n) with
   | true=>rfl
   | false=>exact absurd ⟨_,AG _,by omega,e⟩ d
  have G:rsB p q a b c s (stK p q a b m c s n+1)=true:=by
   cases e:rsB p q a b c s (stK p q a b m c s n+1) with
   | true=>rfl
   | false=>exact absurd ⟨_,by omega,by omega,e⟩ d
  exact Nat.dvd_one.mp (aI1 p1 g y D G)
theorem aO9(c0:s=0):Canon (wK p q a b m c s) 0 1:=by
 subst c0
 refine ⟨AG _,fun k _=>?_,fun d h1 _=>h1,.inl rfl⟩
 unfold wK rsB
 simp only[GR]
end
structure Lm(rs:List Rw)(sg p q a b m:Nat):Prop where
 mach:Mach rs sg
 kd:∃ nx rt,Kdr rs sg nx rt/\Cyc rs nx 7 (p * q)
 word:∀ z,bD sg z->iA rs z=if (z.length % p=a/\z.length % q=b)\/z.length < m then ("by":Str) else ("out":Str)
section
variable{p q a b m sg:Nat}
theorem aTZ(p1:1<=p)(p2:p<=100)(c:1<=q)(d:q<=100)(s1:1<=sg)(e:sg<=3):Lm (swM p q a b sg) sg p q a b 0:=
 ⟨iP p1 p2 c d s1 e,⟨_,_,nS p1 c,aIX p1 c 7⟩,fun z S=>by
  rw[aO5 p1 p2 c d s1 e S]
  by_cases h:z.length % p=a/\z.length % q=b
  · rw [AD h, AD (.inl h)]
  · rw [AC h, AC (by rintro (x | x); exact h x; omega)]⟩
theorem aT0(p1:1<=p)(p2:p<=100)(c:1<=q)(e:q<=100)(f:1<=m)(g:m<=6)(s1:1<=sg)(d:sg<=3):Lm (jnM sg (lsM m sg) (swM p q a b sg)) sg p q a b m:=
 ⟨aD9 (sV f (by omega) s1 d) (iP p1 p2 c e s1 d) (by rw[kS,iI];omega),⟨_,_,aL9 (sV f (by omega) s1 d) (iP p1 p2 c e s1 d) aGD (nS p1 c),aSF (sg:=sg) aGD (nS p1 c) (aSE (by omega)) (aIX p1 c 7)⟩,fun z S=>aO6 p1 p2 c e f (by omega) s1 d S⟩
theorem aEC{n r:Nat}(h:r ∣ p * q):jA 7 (p * q) n % r=n % r:=by
 unfold jA
 by_cases e:n < 7
 .rw[AD e]
 .rw[AC e]
  have:=FU (n - 7) (p * q)
  obtain ⟨x,a⟩:=h
  have e2:n=(7+(n - 7) % (p * q))+r * (x * ((n - 7) / (p * q))):=by rw[<-Nat.mul_assoc,<-a];omega
  conv=>rhs;rw[e2]
  rw[DZ]
theorem aED{n:Nat}(a:m<=6):jA 7 (p * q) n < m↔n < m:=by
 unfold jA
 split<;>omega
theorem aSI{rs:List Rw}{N:Nat}(W:Wy rs sg N)(hw:∀ z,bD sg z->l5 (iA rs z)):Rdw (iD rs sg N) (jU rs sg N) sg:=by
 have s1:=W.m.sg1
 have i:=W.m.sg3
 have n:=W.n
 have k:=W.pos
 have b:=W.rows_len
 refine ⟨⟨by omega,by omega,by omega,by omega,fun r c=>?_⟩,?_,fun w a=>?_⟩
 .unfold iD at c
  obtain ⟨x,g,rfl⟩:=A5.mp c
  refine ⟨by rw[AB];unfold afW;rw[AB,AU],fun j f=>?_⟩
  obtain ⟨y,h,rfl⟩:=A5.mp f
  have e:y∈bfW rs sg N:=aIO (by have:=W.len;unfold bfW at this;omega) g h
  have:=(AM.mp (aB8 e)).1
  have:=W.len
  omega
 .unfold jU;rw[AB,W.zlen,b]
 .unfold jU at a
  obtain ⟨z,d,rfl⟩:=A5.mp a
  exact hw z ((rP W.m N (by omega)).ok z d).1
theorem aT1{rs:List Rw}(L:Lm rs sg p q a b m)(p1:1<=p)(o:1<=q)(n:p * q<=100)(f:m<=6){x g y:List Nat}(Sx:bD sg x)(Sg:bD sg g)(Sy:bD sg y) :
  ∃ st l,Canon (wK p q a b m (x.length+y.length) g.length) st l/\bP [.d (aY rs),.d (stD x),.d (stD g),.d (stD y)]=.ok (.d (.tuple [.int (st:Int),.int (l:Int),.list (wdL (wK p q a b m (x.length+y.length) g.length) (st+l))])):=by
 obtain ⟨nx,rt,K,C⟩:=L.kd
 have c:1<=p * q:=FC p1 o
 have B:=aSD K L.mach C (by omega) c (by omega)
 obtain ⟨N,W,E⟩:=aTX L.mach B
 obtain ⟨st,l,h1,_,j⟩:=aVX L.mach (aVW W E) (aSI W fun z S=>by rw[L.word z S];split;exact .inl rfl;exact .inr (.inl rfl)) Sx Sg Sy
 have e:cw (iD rs sg N) (jU rs sg N) x g y=wK p q a b m (x.length+y.length) g.length:=by
  funext k
  rw[cw_red K C (by omega) c (by omega) W Sx.2 Sg.2 Sy.2 k]
  have r:=rY (i:=7) c (x.length+y.length+g.length * k)
  rw[L.word _ (fZ L.mach.sg1 (by omega)),iH,aEC ⟨q,rfl⟩,aEC ⟨p,D2 _ _⟩]
  unfold wK rsB
  by_cases h:((x.length+y.length+g.length * k) % p=a/\(x.length+y.length+g.length * k) % q=b)\/x.length+y.length+g.length * k < m
  .rw[AD,AD]
   · rw [AV, BP, BP]; exact h
   · rw [aED f]; exact h
  .rw[AC,AC]
   · rw [AV, BP, BP]; exact h
   · rw [aED f]; exact h
 rw[e] at h1 j
 exact ⟨st,l,h1,j⟩
end
section
variable{p q a b m c s:Nat}
noncomputable def nuL(c s n:Nat):List Dz:=(List.range n).map fun k=>.int ((c+s * k:Nat):Int)
noncomputable def rsL(p q a b c s n:Nat):List Dz:=(List.range n).map fun k=>.bool (rsB p q a b c s k)
theorem aGE(x p a:Nat):decide (((x:Nat):Int) % (p:Int)=(a:Int))=decide (x % p=a):=ES.mpr ⟨fun h=>by exact_mod_cast h,fun h=>by exact_mod_cast h⟩
theorem aSJ{n k:Nat}(h:k < n):dIx (.list (nuL c s n)) (.int (k:Int))=.ok (.int ((c+s * k:Nat):Int)):=eD (eK (by unfold nuL;rw[AH,BD h];rfl))
theorem aSK{n k:Nat}(h:k < n):dIx (.list (rsL p q a b c s n)) (.int (k:Int))=.ok (.bool (rsB p q a b c s k)):=eD (eK (by unfold rsL;rw[AH,BD h];rfl))
theorem yV(n:Nat):(nuL c s n).length=n:=by unfold nuL;rw[AB,AU]
theorem aPA(n:Nat):(rsL p q a b c s n).length=n:=by unfold rsL;rw[AB,AU]
theorem aT2(p1:1<=p)(N:1<=q){n:Nat}(O:n<=1000):fV [.d (.list (nuL c s n)),.d (.int (m:Int)),.d (.list (rsL p q a b c s n)),.d (.tuple [.int (p:Int),.int (q:Int),.int (a:Int),.int (b:Int)])]=.ok (.d (.tuple [.int (stK p q a b m c s n:Int),.list (wdL (wK p q a b m c s) n)])):=by
 have L:(0:Int) < (p:Int):=by omega
 have F:(0:Int) < (q:Int):=by omega
 have I:compL (stN 0) fX duE [none,iO p,iO a,iO q,iO b,iO m] (nuL c s n)=.ok (wdL (wK p q a b m c s) n):=compL_of (d:=fun k:Nat=>.int ((c+s * k:Nat):Int)) (g:=fun k=>.str (wK p q a b m c s k)) (xs:=List.range n) fun k _=>⟨_,rfl,by
  have r:(eOr (tX (e2 dEq (e2 dMod (rV 0) (rV 1)) (rV 2)) (e2 dEq (e2 dMod (rV 0) (rV 3)) (rV 4))) (e2 dLt (rV 0) (rV 5))) [iO (c+s * k),iO p,iO a,iO q,iO b,iO m]=.ok (.bool (rsB p q a b c s k || decide (c+s * k < m))):=by
   have e1:=aGE (c+s * k) p a
   have e2:=aGE (c+s * k) q b
   have t:decide (((c+s * k:Nat):Int) < (m:Int))=decide (c+s * k < m):=ES.mpr (by omega)
   unfold rsB
   generalize c+s * k=x at *
   simp only[iO,aRK,aDT,fO,eI,AX,AT,R.bind_ok,dI L,dI F,iZ,e1,e2,vZ,t,mZ]
   cases decide (x % p=a)<;>cases decide (x % q=b)<;>rfl
  have D:wK p q a b m c s k=if (rsB p q a b c s k || decide (c+s * k < m))=true then "by" else "out":=by
   unfold wK
   by_cases h:rsB p q a b c s k=true\/c+s * k < m
   · rw [AD h, AD (by rw [DT, BP]; exact h)]
   · rw [AC h, AC (by rw [DT, BP]; exact h)]
  rw[D]
  generalize (rsB p q a b c s k || decide (c+s * k < m))=K at *
  show duE [iO (c+s * k),iO p,iO a,iO q,iO b,iO m]=_
  unfold duE
  rw[fO,eU,r]
  simp only[pV,jG,fF,eR,fN,R.bind_ok,AY,A9,Nat.reduceAdd,Nat.reduceLeDiff,CG,rJ,aCJ]
  cases K<;>rfl⟩
 obtain ⟨G,w,u,rfl⟩:=gR (fs:=stN 10) (fb:=duF) (d:=fun k:Nat=>.int (k:Int)) (xs:=List.range n) (ρ:=[some (.d (.list (nuL c s n))),iO m,some (.d (.list (rsL p q a b c s n))),some (.d (.tuple [.int (p:Int),.int (q:Int),.int (a:Int),.int (b:Int)])),iO p,iO q,iO a,iO b,some (.l (wdL (wK p q a b m c s) n)),some (.d (.int 0)),none])
  (fun i ρ=>∃ u,ρ=[some (.d (.list (nuL c s n))),iO m,some (.d (.list (rsL p q a b c s n))),some (.d (.tuple [.int (p:Int),.int (q:Int),.int (a:Int),.int (b:Int)])),iO p,iO q,iO a,iO b,some (.l (wdL (wK p q a b m c s) n)),some (.d (.int (stK p q a b m c s i:Int))),u]) ⟨none,rfl⟩ fun i k ρ H o=>by
  obtain ⟨u,e⟩:=o
  obtain ⟨rfl,hi⟩:=wU H
  have z:=aSJ (c:=c) (s:=s) hi
  have y:=aSK (p:=p) (q:=q) (a:=a) (b:=b) (c:=c) (s:=s) hi
  refine ⟨[some (.d (.list (nuL c s n))),iO m,some (.d (.list (rsL p q a b c s n))),some (.d (.tuple [.int (p:Int),.int (q:Int),.int (a:Int),.int (b:Int)])),iO p,iO q,iO a,iO b,some (.l (wdL (wK p q a b m c s) n)),some (.d (.int (stK p q a b m c s k:Int))),iO k],_,by rw[e];rfl,.inl ?_,iO k,rfl⟩
  have v:((stK p q a b m c s (k+1):Nat):Int)=if (decide (c+s * k < m) && !rsB p q a b c s k)=true then (k:Int)+1 else (stK p q a b m c s k:Int):=by
   rw[stK]
   by_cases h:c+s * k < m/\rsB p q a b c s k=false
   · rw [AD h, AD (by rw [h.2, AZ h.1]; rfl)]; rfl
   · rw [AC h, AC (by rw [AV, BP, Bool.not_eq_true']; exact h)]
  have t:decide (((c+s * k:Nat):Int) < (m:Int))=decide (c+s * k < m):=ES.mpr (by omega)
  rw[v]
  generalize nuL c s n=J at *
  generalize rsL p q a b c s n=A at *
  generalize wdL (wK p q a b m c s) n=M at *
  generalize rsB p q a b c s k=E at *
  generalize decide (c+s * k < m)=B at *
  generalize c+s * k=x at *
  generalize (stK p q a b m c s k:Int)=st at *
  unfold duF
  simp only[iO,vY,oO,aOC,eU,fO,eI,AX,AT,R.bind_ok,z,y,vZ,t,mZ]
  cases E<;>cases B<;>rfl
 have j:cD (.list (nuL c s n))=.ok (nuL c s n):=lB (by rw[yV];omega)
 have f:dLen (.list (nuL c s n))=.ok (.int (n:Int)):=by rw[jS,yV]
 have r1:=jI (n:=n) (by omega)
 rw[AU] at w
 unfold fV
 rw[lI]
 generalize C:nuL c s n=J at *
 generalize rsL p q a b c s n=A at *
 generalize wdL (wK p q a b m c s) n=M at *
 simp only[iO,eJ,bK,aN9,mF,aRJ,aKH,aOA,aRI,nY,hZ,lA,eU,eI,cJ,AL,BJ,D4,CT,D5,R.bind_ok,AY,A9,Nat.reduceAdd,Nat.reduceSub,List.replicate,BT,BQ,AX,AT,A6,A8,j,I,gA,iR,fN,gB,jH,f,r1,w,aHX,aL3,k9,kD,fF,eR,Nat.reduceLeDiff,CG]
end
noncomputable def sbN(sg n:Nat):Dz:=a9 (swM 13 17 3 5 sg) (azN n)
section
variable{sg:Nat}
theorem aT3(s1:1<=sg)(i:sg<=3){n m:Nat}(e:n<=900)(f:m<=900)(h:sbN sg n=sbN sg m):n % 13=m % 13/\n % 17=m % 17:=by
 have M:=iP (p:=13) (q:=17) (a:=3) (b:=5) (by omega) (by omega) (by omega) (by omega) s1 i
 have K:=nS (p:=13) (q:=17) (a:=3) (b:=5) (sg:=sg) (by omega) (by omega)
 have L:(swM 13 17 3 5 sg).length=30:=iI
 have Sn:=fZ s1 (n:=n) (by omega)
 have Sm:=fZ s1 (n:=m) (by omega)
 have fr:∀ k,k<=900->fP (swM 13 17 3 5 sg) (azN k) (0,0)=.n ((k % 13:Nat):Int):=fun k c=>by
  rw[K.front M _ (fZ s1 (by omega)),iH,o4 (by omega) _ _ (by omega),DQ]
 have bk:∀ k,k<=900->∀ j,j < 17->begB (swM 13 17 3 5 sg) (azN k) ((13+j:Nat):Int)=.w (if (j+k) % 17=5 then "by" else "out"):=fun k c j g=>by
  rw[K.back M _ (fZ s1 (by omega)) (13+j) (by omega) (A1 (by omega)),iH]
  unfold lfB
  rw[o5 (by omega) _ _ g,wV (CM _ (by omega))];rfl
 unfold sbN a9 iC at h
 injection h with h
 injection h with h1 h2
 injection h2 with h2
 injection h2 with h2
 have o:∀ k:Nat,k < 30->begB (swM 13 17 3 5 sg) (azN n) (k:Int)=begB (swM 13 17 3 5 sg) (azN m) (k:Int):=fun k c=>by
  rw[BX,BX] at h2
  have:=DG (fun l=>l[k]?) h2
  simp only[AH,L,BD c,GY,Option.some.injEq,Function.comp] at this
  generalize begB (swM 13 17 3 5 sg) (azN n) (k:Int)=x at this
  generalize begB (swM 13 17 3 5 sg) (azN m) (k:Int)=y at this
  cases x<;>cases y<;>simp[Tn.d] at this ⊢<;>exact this
 refine ⟨?_,?_⟩
 .rw[fr n e,fr m f] at h1
  have:=iN _ _ h1
  omega
 .have c:(22 - n % 17) % 17 < 17:=CM _ (by omega)
  have:=o (13+(22 - n % 17) % 17) (by omega)
  rw[bk n e _ c,bk m f _ c,AD (by omega)] at this
  by_cases q:((22 - n % 17) % 17+m) % 17=5
  .omega
  .rw[AC q] at this
   injection this with this
   exact absurd this (by decide)
theorem aPB{fs:List Dz}{y:Dz}(h:y∉fs):∀ n,1<=n->adA fs (List.replicate n y)=fs++[y]:=by
 have a:∀ n,(List.replicate n y).foldl adQ (fs++[y])=fs++[y]:=fun n=>by
  induction n with
  | zero=>rfl
  | succ n ih=>rw[B9,EW,oR (by simp),ih]
 intro n b
 obtain ⟨k,rfl⟩:∃ k,n=k+1:=⟨n - 1,by omega⟩
 unfold adA
 rw[B9,EW,mM h,a]
theorem aLE(s1:1<=sg)(f:sg<=3){n:Nat}(g:n<=900):afW (swM 13 17 3 5 sg) sg (sbN sg n)=List.replicate sg (sbN sg (n+1)):=by
 have M:=iP (p:=13) (q:=17) (a:=3) (b:=5) (by omega) (by omega) (by omega) (by omega) s1 f
 have K:=nS (p:=13) (q:=17) (a:=3) (b:=5) (sg:=sg) (by omega) (by omega)
 unfold sbN
 rw[<-aCD M (fZ s1 (by omega))]
 refine List.eq_replicate_iff.mpr ⟨by unfold sP;rw[AB,AB,AU],fun x c=>?_⟩
 unfold sP at c
 rw[BX] at c
 obtain ⟨k,e,rfl⟩:=A5.mp c
 have d:(azN n++[97+k]).length=(azN (n+1)).length:=by rw[AK,iH,iH,A7]
 exact K.same M (wD (fZ s1 (by omega)) (BR.mp e) (by rw[iH];omega)) (fZ s1 (by omega)) (by rw[d]) fun r _=>by rw[d]
theorem aEE(s1:1<=sg)(a:sg<=3):∀ n,n<=220->bfW (swM 13 17 3 5 sg) sg n=(List.range (n+1)).map (sbN sg)
 | 0,_=>rfl
 | n+1,hn=>by
  have ih:=aEE s1 a n (by omega)
  unfold bfW at ih ⊢
  have b:(bfQ (afW (swM 13 17 3 5 sg) sg) (a9 (swM 13 17 3 5 sg) []) n)[n]? = some (sbN sg n):=by
   rw[ih,AH,BD (by omega)];rfl
  rw[m8 b,ih,aLE s1 a (by omega),aPB _ _ s1,FS (n:=n+1),BE]
  .rfl
  .intro c
   obtain ⟨i,hi,e⟩:=A5.mp c
   rw[BR] at hi
   have:=aT3 s1 a (by omega) (by omega) e
   omega
theorem aPC(s1:1<=sg)(e:sg<=3):fS [.d (aY (swM 13 17 3 5 sg))]=.ex ⟨"TooMany",[]⟩:=by
 obtain ⟨N,f,E⟩:=aD4 (swM 13 17 3 5 sg) sg 200
 have g:(bfW (swM 13 17 3 5 sg) sg N).length=N+1:=by rw[aEE s1 e N (by omega),AB,AU]
 have c:=aIQ (iP (p:=13) (q:=17) (a:=3) (b:=5) (by omega) (by omega) (by omega) (by omega) s1 e) E f
 have:200 < (bfW (swM 13 17 3 5 sg) sg N).length:=by
  rcases E.off with z|z
  · omega
  · exact z
 rw[AD this] at c
 exact c
end
section
variable{rs:List Rw}{sg:Nat}
theorem wZ(M:Mach rs sg){z:List Nat}(S:bD sg z){a1 a2 a3 x5 x6 x7 x8 x9:O9 A}:crC [some (.d (aY rs)),a1,a2,a3,some (.d (stD z)),x5,x6,x7,x8,x9]=.ok (.nx [some (.d (aY rs)),a1,a2,a3,some (.d (stD z)),x5,x6,x7,x8,x9]):=by
 have:gJ [.d (aY rs),.d (stD z)]=.ok (.d (stD z)):=by
  have:=aB0 M (z:=⟨z.toArray⟩) (by simpa using S)
  simpa[stD] using this
 generalize stD z=sz at *
 simp[crC,this]
theorem aI3(M:Mach rs sg){z:List Nat}{i:Nat}(b:z.length<=16777216)(a:f6 sg 0 z=some i){a1 a2 a3 x5 x6 x7 x8 x9:O9 A}:crC [some (.d (aY rs)),a1,a2,a3,some (.d (stD z)),x5,x6,x7,x8,x9]=.ex ⟨"NoStrip",[("at",.int i)]⟩:=by
 have:gJ [.d (aY rs),.d (stD z)]=.ex ⟨"NoStrip",[("at",.int i)]⟩:=by
  have:=aH6 M (z:=⟨z.toArray⟩) (by simpa using b)
  rw[show (⟨z.toArray⟩:Str).cps.toList=z from rfl,a] at this
  exact this
 generalize stD z=sz at *
 simp[crC,this]
theorem uO(x g y:Dz)(ρ:Sg)(h1:ρ[1]? = some (some (.d x)))(h2:ρ[2]? = some (some (.d g)))(a:ρ[3]? = some (some (.d y))):(e1 cD (cW (aA (eV 1) (aA (eV 2) (aA (eV 3) aO))))) ρ=.ok [x,g,y]:=by
 simp[h1,h2,a,j5]
theorem aI4(M:Mach rs sg){x g:List Nat}{y:Dz}(Sx:bD sg x){i:Nat}(a:g.length<=16777216)(b:f6 sg 0 g=some i):bP [.d (aY rs),.d (stD x),.d (stD g),.d y]=.ex ⟨"NoStrip",[("at",.int i)]⟩:=by
 unfold bP
 rw[fD,eJ,bK,gB,uO (stD x) (stD g) y _ rfl rfl rfl,R.bind_ok]
 have c:=wZ M Sx (a1:=some (.d (stD x))) (a2:=some (.d (stD g))) (a3:=some (.d y)) (x5:=none) (x6:=none) (x7:=none) (x8:=none) (x9:=none)
 have e:=aI3 M a b (a1:=some (.d (stD x))) (a2:=some (.d (stD g))) (a3:=some (.d y)) (x5:=none) (x6:=none) (x7:=none) (x8:=none) (x9:=none)
 generalize aY rs=md at *
 generalize stD x=h at *
 generalize stD g=f at *
 simp[jN,nY,c,e]
theorem aI5(M:Mach rs sg){x:List Nat}{g y:Dz}{i:Nat}(b:x.length<=16777216)(a:f6 sg 0 x=some i):bP [.d (aY rs),.d (stD x),.d g,.d y]=.ex ⟨"NoStrip",[("at",.int i)]⟩:=by
 unfold bP
 rw[fD,eJ,bK,gB,uO (stD x) g y _ rfl rfl rfl,R.bind_ok]
 have c:=aI3 M b a (a1:=some (.d (stD x))) (a2:=some (.d g)) (a3:=some (.d y)) (x5:=none) (x6:=none) (x7:=none) (x8:=none) (x9:=none)
 generalize aY rs=md at *
 generalize stD x=e at *
 simp[jN,nY,c]
theorem aPD(M:Mach rs sg){x g y:List Nat}(Sx:bD sg x)(Sg:bD sg g)(Sy:bD sg y)(a:fS [.d (aY rs)]=.ex ⟨"TooMany",[]⟩):bP [.d (aY rs),.d (stD x),.d (stD g),.d (stD y)]=.ex ⟨"TooMany",[]⟩:=by
 unfold bP
 rw[fD,eJ,bK,gB,uO (stD x) (stD g) (stD y) _ rfl rfl rfl,R.bind_ok]
 have b:=wZ M Sx (a1:=some (.d (stD x))) (a2:=some (.d (stD g))) (a3:=some (.d (stD y))) (x5:=none) (x6:=none) (x7:=none) (x8:=none) (x9:=none)
 have c:=wZ M Sg (a1:=some (.d (stD x))) (a2:=some (.d (stD g))) (a3:=some (.d (stD y))) (x5:=none) (x6:=none) (x7:=none) (x8:=none) (x9:=none)
 have e:=wZ M Sy (a1:=some (.d (stD x))) (a2:=some (.d (stD g))) (a3:=some (.d (stD y))) (x5:=none) (x6:=none) (x7:=none) (x8:=none) (x9:=none)
 generalize aY rs=md at *
 generalize stD x=h at *
 generalize stD g=f at *
 generalize stD y=i at *
 simp[jN,nY,b,c,e,a]
theorem aCM(i n:Nat)(G:List A->R A)(f:Sg->R (List A))(b g:List Str)(d a:Sg->R Fw)(ρ:Sg):aAF i n G f b g d a ρ=match f ρ with
 | .ok as=>if as.length=n then (match G as with
  | .bad=>.bad
  | .ok _=>.ok (.nx ρ)
  | .ex e=>if b.contains e.c=true then (d (ρ.set i (some (.x e)))).bind fun w=>.ok (xV i w) else if g.contains e.c=true then (a (ρ.set i (some (.x e)))).bind fun w=>.ok (xV i w) else .bad) else .bad
 | _=>.bad:=id rfl
theorem sY(x y z:Dz):dIx (.list [x,y,z]) (.int 2)=.ok z:=eD rfl
theorem nU{md x g y:Dz}{i:Int}(h:bP [.d md,.d x,.d g,.d y]=.ex ⟨"NoStrip",[("at",.int i)]⟩):bQ [.d md,.d (.list [x,g,y])]=.ok (.d (.tuple [.str "strip",.int i])):=by
 have a:(["NoStrip"]:List Str).contains "NoStrip"=true:=by decide +kernel
 have b:List.lookup ("at":Str) [(("at":Str),PyData.int i)]=some (PyData.int i):=by simp[List.lookup]
 simp[bQ,gN,aCM,sY,h,a,aRW,b,aDW]
theorem aLF{md x g y:Dz}(h:bP [.d md,.d x,.d g,.d y]=.ex ⟨"TooMany",[]⟩):bQ [.d md,.d (.list [x,g,y])]=.ok (.d (.tuple [.str "many",.int 1])):=by
 have b:(["NoStrip"]:List Str).contains "TooMany"=false:=by decide +kernel
 have a:(["TooMany"]:List Str).contains "TooMany"=true:=by decide +kernel
 have hi:∀ ρ:Sg,ρ[3]? = some (some (.x ⟨"TooMany",[]⟩))->vN 3 "TooMany" true ρ=.ok (.bool true):=fun ρ h=>by
  unfold vN;rw[h];rfl
 have c:¬ (("TooMany":Str)="NoStrip"):=by decide +kernel
 simp[bQ,gN,aCM,sY,h,b,a,hi,aDW,c]
end
abbrev nn(k:Nat):List (O9 A):=List.replicate k none
theorem cZ{f g:Sg->R Fw}{ρ a:Sg}(h:f ρ=.ok (.nx a)):aS f g ρ=g a:=by rw[bK,h];rfl
section
variable{ns:List Int}{sg p q a b m n0 n1 n2 st l at1:Nat}{md md2 x g y cr bad:Dz}{nu rs wd:List Dz}
theorem aV5{v:Int}(h:bB [.d (bH ns),.d (.int 0)]=.ok (.d (.int v)))(e:1+v % 3=(sg:Int)):aK4 (some (.d (bH ns))::nn 19)=.ok (.nx (some (.d (bH ns))::iO sg::nn 18)):=by
 simp[aK4,cJ,iO,nn,h,dI (show (0:Int) < 3 by decide),e]
theorem aT4{r:Nat}(h:r < 8):∃ p q:Nat,dIx (.list [.tuple [.int 2,.int 3],.tuple [.int 3,.int 4],.tuple [.int 5,.int 7],.tuple [.int 1,.int 6],.tuple [.int 4,.int 5],.tuple [.int 3,.int 1],.tuple [.int 1,.int 1],.tuple [.int 8,.int 3]]) (.int (r:Int))=.ok (.tuple [.int (p:Int),.int (q:Int)])/\1<=p/\p<=8/\1<=q/\q<=7/\p * q<=35/\Nat.Coprime p q:=by
 match r,h with
 | 0,_=>exact ⟨2,3,eD rfl,by decide,by decide,by decide,by decide,by decide,by decide⟩
 | 1,_=>exact ⟨3,4,eD rfl,by decide,by decide,by decide,by decide,by decide,by decide⟩
 | 2,_=>exact ⟨5,7,eD rfl,by decide,by decide,by decide,by decide,by decide,by decide⟩
 | 3,_=>exact ⟨1,6,eD rfl,by decide,by decide,by decide,by decide,by decide,by decide⟩
 | 4,_=>exact ⟨4,5,eD rfl,by decide,by decide,by decide,by decide,by decide,by decide⟩
 | 5,_=>exact ⟨3,1,eD rfl,by decide,by decide,by decide,by decide,by decide,by decide⟩
 | 6,_=>exact ⟨1,1,eD rfl,by decide,by decide,by decide,by decide,by decide,by decide⟩
 | 7,_=>exact ⟨8,3,eD rfl,by decide,by decide,by decide,by decide,by decide,by decide⟩
theorem aV6{v:Int}{r:Nat}(h:bB [.d (bH ns),.d (.int 1)]=.ok (.d (.int v)))(e:v % 8=(r:Int))(a:dIx (.list [.tuple [.int 2,.int 3],.tuple [.int 3,.int 4],.tuple [.int 5,.int 7],.tuple [.int 1,.int 6],.tuple [.int 4,.int 5],.tuple [.int 3,.int 1],.tuple [.int 1,.int 1],.tuple [.int 8,.int 3]]) (.int (r:Int))=.ok (.tuple [.int (p:Int),.int (q:Int)])):aK5 (some (.d (bH ns))::iO sg::nn 18)=.ok (.nx (some (.d (bH ns))::iO sg::iO p::iO q::nn 16)):=by
 simp[aK5,cJ,iO,nn,h,dI (show (0:Int) < 8 by decide),e,a]
theorem aV7{v:Int}(h:bB [.d (bH ns),.d (.int 2)]=.ok (.d (.int v)))(p1:1<=p)(e:v % (p:Int)=(a:Int)):aK6 (some (.d (bH ns))::iO sg::iO p::iO q::nn 16)=.ok (.nx (some (.d (bH ns))::iO sg::iO p::iO q::iO a::nn 15)):=by
 simp[aK6,cJ,iO,nn,h,dI (show (0:Int) < (p:Int) by omega),e]
theorem aV8{v:Int}(h:bB [.d (bH ns),.d (.int 3)]=.ok (.d (.int v)))(c:1<=q)(e:v % (q:Int)=(b:Int)):aK7 (some (.d (bH ns))::iO sg::iO p::iO q::iO a::nn 15)=.ok (.nx (some (.d (bH ns))::iO sg::iO p::iO q::iO a::iO b::nn 14)):=by
 simp[aK7,cJ,iO,nn,h,dI (show (0:Int) < (q:Int) by omega),e]
theorem aV9(h:d7 [.d (.int (p:Int)),.d (.int (q:Int)),.d (.int (a:Int)),.d (.int (b:Int)),.d (.int (sg:Int))]=.ok (.d md)):aK8 (some (.d (bH ns))::iO sg::iO p::iO q::iO a::iO b::nn 14)=.ok (.nx (some (.d (bH ns))::iO sg::iO p::iO q::iO a::iO b::some (.d md)::nn 13)):=by
 simp[aK8,cJ,iO,nn,h]
theorem aWA{v:Int}(h:bB [.d (bH ns),.d (.int 4)]=.ok (.d (.int v)))(e:v % 14=(m:Int)):aK9 (some (.d (bH ns))::iO sg::iO p::iO q::iO a::iO b::some (.d md)::nn 13)=.ok (.nx (some (.d (bH ns))::iO sg::iO p::iO q::iO a::iO b::some (.d md)::iO m::nn 12)):=by
 simp[aK9,cJ,iO,nn,h,dI (show (0:Int) < 14 by decide),e]
theorem aWB{r:Nat}(e:m=if 6 < r then 0 else r):aFT (some (.d (bH ns))::iO sg::iO p::iO q::iO a::iO b::some (.d md)::iO r::nn 12)=.ok (.nx (some (.d (bH ns))::iO sg::iO p::iO q::iO a::iO b::some (.d md)::iO m::nn 12)):=by
 by_cases h:6 < r
 .rw[AD h] at e
  have h2:(6:Int) < (r:Int):=by omega
  subst e
  simp[aFT,cJ,iO,nn,AZ h2]
 .rw[AC h] at e
  have h2:¬ (6:Int) < (r:Int):=by omega
  subst e
  simp[aFT,cJ,iO,nn,A1 h2,BF,CF]
theorem aT5(e:m=0):yL (some (.d (bH ns))::iO sg::iO p::iO q::iO a::iO b::some (.d md)::iO m::nn 12)=.ok (.nx (some (.d (bH ns))::iO sg::iO p::iO q::iO a::iO b::some (.d md)::iO m::nn 12)):=by
 subst e
 have h2:¬ (0:Int) < ((0:Nat):Int):=by omega
 simp[yL,cJ,iO,nn,A1 h2,BF,CF]
theorem aT6{c e:Dz}(g:1<=m)(h1:fE [.d (.int (m:Int)),.d (.int (sg:Int))]=.ok (.d e))(h2:eE [.d e,.d c,.d (.str "out")]=.ok (.d md)):yL (some (.d (bH ns))::iO sg::iO p::iO q::iO a::iO b::some (.d c)::iO m::nn 12)=.ok (.nx (some (.d (bH ns))::iO sg::iO p::iO q::iO a::iO b::some (.d md)::iO m::nn 12)):=by
 have f:0 < m:=g
 simp[yL,cJ,iO,nn,f,h1,h2]
theorem aWC{f c e:Int}(h:bB [.d (bH ns),.d (.int 5)]=.ok (.d (.int f)))(i:bB [.d (bH ns),.d (.int 6)]=.ok (.d (.int c)))(g:bB [.d (bH ns),.d (.int 7)]=.ok (.d (.int e)))(e5:f % 41=(n0:Int))(e6:c % 13=(n1:Int))(e7:e % 41=(n2:Int)):aLA (some (.d (bH ns))::iO sg::iO p::iO q::iO a::iO b::some (.d md)::iO m::nn 12)=.ok (.nx (some (.d (bH ns))::iO sg::iO p::iO q::iO a::iO b::some (.d md)::iO m::some (.l [.int (n0:Int),.int (n1:Int),.int (n2:Int)])::nn 11)):=by
 simp[aLA,cJ,iO,nn,h,i,g,dI (show (0:Int) < 41 by decide),dI (show (0:Int) < 13 by decide),e5,e6,e7]
theorem ix3(x y z:Dz){i:Nat}(h:i < 3):dIx (.list [x,y,z]) (.int (i:Int))=.ok (if i=0 then x else if i=1 then y else z):=by
 match i,h with
 | 0,_=>exact eD rfl
 | 1,_=>exact eD rfl
 | 2,_=>exact eD rfl
noncomputable def aGF:Sg->R Dz:=(eA (bM 4 cS (aA (vV 1) (aA (vD (e2 cQ (eC (.int 8)) (e2 dMul (eC (.int 12)) (rV 0)))) (aA (vD (e2 dIx (rV 2) (rV 0))) (aA (vV 3) aO))))))
theorem aSL(h0:cS [.d (bH ns),.d (.int 8),.d (.int (n0:Int)),.d (.int (sg:Int))]=.ok (.d x))(h1:cS [.d (bH ns),.d (.int 20),.d (.int (n1:Int)),.d (.int (sg:Int))]=.ok (.d g))(h2:cS [.d (bH ns),.d (.int 32),.d (.int (n2:Int)),.d (.int (sg:Int))]=.ok (.d y)):compL (stN 0) fX aGF [none,some (.d (bH ns)),some (.l [.int (n0:Int),.int (n1:Int),.int (n2:Int)]),some (.d (.int (sg:Int)))] ((List.range 3).map fun i:Nat=>.int (i:Int))=.ok [x,g,y]:=
 compL_of (d:=fun i:Nat=>.int (i:Int)) (g:=fun i:Nat=>if i=0 then x else if i=1 then g else y) (xs:=List.range 3) fun i hi=>⟨_,rfl,by
  have hi:=BR.mp hi
  show aGF [some (.d (.int (i:Int))),some (.d (bH ns)),some (.l [.int (n0:Int),.int (n1:Int),.int (n2:Int)]),some (.d (.int (sg:Int)))]=_
  have a:=ix3 (.int (n0:Int)) (.int (n1:Int)) (.int (n2:Int)) hi
  unfold aGF
  match i,hi with
  | 0,_=>simp[cJ,iO,nn,kP (show (-18446744073709551616:Int) < 12 by decide) (show (12:Int) < 18446744073709551616 by decide),a];exact DG (fun r:R A=>r.bind getD) h0
  | 1,_=>simp[cJ,iO,nn,kP (show (-18446744073709551616:Int) < 12 by decide) (show (12:Int) < 18446744073709551616 by decide),a];exact DG (fun r:R A=>r.bind getD) h1
  | 2,_=>simp[cJ,iO,nn,kP (show (-18446744073709551616:Int) < 12 by decide) (show (12:Int) < 18446744073709551616 by decide),a];exact DG (fun r:R A=>r.bind getD) h2⟩
theorem aWD(h0:cS [.d (bH ns),.d (.int 8),.d (.int (n0:Int)),.d (.int (sg:Int))]=.ok (.d x))(h1:cS [.d (bH ns),.d (.int 20),.d (.int (n1:Int)),.d (.int (sg:Int))]=.ok (.d g))(h2:cS [.d (bH ns),.d (.int 32),.d (.int (n2:Int)),.d (.int (sg:Int))]=.ok (.d y)):aLB (some (.d (bH ns))::iO sg::iO p::iO q::iO a::iO b::some (.d md)::iO m::some (.l [.int (n0:Int),.int (n1:Int),.int (n2:Int)])::nn 11)=.ok (.nx (some (.d (bH ns))::iO sg::iO p::iO q::iO a::iO b::some (.d md)::iO m::some (.l [.int (n0:Int),.int (n1:Int),.int (n2:Int)])::some (.l [x,g,y])::nn 10)):=by
 have c:=aSL h0 h1 h2
 have r1:=jI (n:=3) (by omega)
 rw[show ((3:Nat):Int)=3 from rfl] at r1
 unfold aGF at c
 simp[aLB,cJ,iO,nn,jH,r1,c]
end
section
variable{ns:List Int}{sg p q a b m n0 n1 n2 st l at1:Nat}{md md2 x g y cr bad:Dz}{nu rs wd:List Dz}
theorem aT7(h:p<=8)(f:q<=7)(o:n1 < 13):aFU (some (.d (bH ns))::iO sg::iO p::iO q::iO a::iO b::some (.d md)::iO m::some (.l [.int (n0:Int),.int (n1:Int),.int (n2:Int)])::some (.l [x,g,y])::nn 10)=.ok (.nx (some (.d (bH ns))::iO sg::iO p::iO q::iO a::iO b::some (.d md)::iO m::some (.l [.int (n0:Int),.int (n1:Int),.int (n2:Int)])::some (.l [x,g,y])::some (.l (nuL (n0+n2) n1 (2 * p * q+8)))::nn 9)):=by
 have r:(2:Int) * (p:Int) * (q:Int)+8=((2 * p * q+8:Nat):Int):=by simp
 have c:2 * p * q<=200:=by
  have:=Nat.mul_le_mul (Nat.mul_le_mul (AG 2) h) f
  omega
 have r1:=jI (n:=2 * p * q+8) (by omega)
 have j:compL (stN 0) fX (e2 cQ (e2 cQ (e2 dIx (rV 1) (eC (.int 0))) (e2 dIx (rV 1) (eC (.int 2)))) (e2 dMul (e2 dIx (rV 1) (eC (.int 1))) (rV 0))) [none,some (.l [.int (n0:Int),.int (n1:Int),.int (n2:Int)])] ((List.range (2 * p * q+8)).map fun i:Nat=>.int (i:Int))=.ok (nuL (n0+n2) n1 (2 * p * q+8)):=
  compL_of (d:=fun i:Nat=>.int (i:Int)) (g:=fun k:Nat=>.int ((n0+n2+n1 * k:Nat):Int)) (xs:=List.range (2 * p * q+8)) fun k _=>⟨_,rfl,by
   have e:(n0:Int)+(n2:Int)+(n1:Int) * (k:Int)=((n0+n2+n1 * k:Nat):Int):=by simp
   simp only[bK,gA,hZ,iR,nL,k8,vX,fN,eI,eU,fO,fF,eR,lA,cJ,iO,nn,List.replicate,AL,BJ,D4,CT,D5,R.bind_ok,oN,AY,A9,Nat.reduceAdd,CG,AX,AT,A6,A8,kO,rL,lR,sY,kP (show (-18446744073709551616:Int) < (n1:Int) by omega) (show ((n1:Int):Int) < 18446744073709551616 by omega),e]⟩
 simp only[aFU,bK,gA,hZ,iR,nL,k8,vX,fN,eI,eU,fO,fF,eR,lA,cJ,iO,nn,List.replicate,AL,BJ,D4,CT,D5,R.bind_ok,oN,AY,A9,Nat.reduceAdd,CG,AX,AT,A6,A8,kO,jH,kP (show (-18446744073709551616:Int) < 2 by omega) (show (2:Int) < 18446744073709551616 by omega),kP (show (-18446744073709551616:Int) < 2 * (p:Int) by omega) (show (2 * (p:Int):Int) < 18446744073709551616 by omega),r,r1,j]
theorem aT8{c s n:Nat}(p1:1<=p)(o:1<=q)(j:n<=1000):aFV (some (.d (bH ns))::iO sg::iO p::iO q::iO a::iO b::some (.d md)::iO m::some (.l [.int (n0:Int),.int (n1:Int),.int (n2:Int)])::some (.l [x,g,y])::some (.l (nuL c s n))::nn 9)=.ok (.nx (some (.d (bH ns))::iO sg::iO p::iO q::iO a::iO b::some (.d md)::iO m::some (.l [.int (n0:Int),.int (n1:Int),.int (n2:Int)])::some (.l [x,g,y])::some (.l (nuL c s n))::some (.l (rsL p q a b c s n))::nn 8)):=by
 have i:(0:Int) < (p:Int):=by omega
 have f:(0:Int) < (q:Int):=by omega
 have e:cD (.list (nuL c s n))=.ok (nuL c s n):=lB (by rw[yV];omega)
 have h:compL (stN 0) fX (tX (e2 dEq (e2 dMod (rV 0) (rV 1)) (rV 2)) (e2 dEq (e2 dMod (rV 0) (rV 3)) (rV 4))) [none,some (.d (.int (p:Int))),some (.d (.int (a:Int))),some (.d (.int (q:Int))),some (.d (.int (b:Int)))] (nuL c s n)=.ok (rsL p q a b c s n):=
  compL_of (d:=fun k:Nat=>.int ((c+s * k:Nat):Int)) (g:=fun k:Nat=>.bool (rsB p q a b c s k)) (xs:=List.range n) fun k _=>⟨_,rfl,by
   have e1:=aGE (c+s * k) p a
   have e2:=aGE (c+s * k) q b
   unfold rsB
   generalize c+s * k=x at *
   simp only[A6,aDT,fO,eI,AX,AT,R.bind_ok,dI i,dI f,iZ,e1,e2,mZ]
   cases decide (x % p=a)<;>cases decide (x % q=b)<;>rfl⟩
 generalize nuL c s n=t at *
 generalize rsL p q a b c s n=r at *
 simp[aFV,cJ,iO,nn,e,h]
theorem aT9(h:fV [.d (.list nu),.d (.int (m:Int)),.d (.list rs),.d (.tuple [.int (p:Int),.int (q:Int),.int (a:Int),.int (b:Int)])]=.ok (.d (.tuple [.int (st:Int),.list wd]))):aFW (some (.d (bH ns))::iO sg::iO p::iO q::iO a::iO b::some (.d md)::iO m::some (.l [.int (n0:Int),.int (n1:Int),.int (n2:Int)])::some (.l [x,g,y])::some (.l nu)::some (.l rs)::nn 8)=.ok (.nx (some (.d (bH ns))::iO sg::iO p::iO q::iO a::iO b::some (.d md)::iO m::some (.l [.int (n0:Int),.int (n1:Int),.int (n2:Int)])::some (.l [x,g,y])::some (.d (.list nu))::some (.d (.list rs))::iO st::some (.d (.list wd))::nn 6)):=by
 simp[aFW,cJ,iO,nn,h]
theorem aUA{G:Nat}(h:gC [.d (.int ((p * q:Nat):Int)),.d (.int (n1:Int))]=.ok (.d (.int (G:Int))))(k:0 < G)(i:G<=1000)(j:p<=8)(e:p * q / G=l):aFX (some (.d (bH ns))::iO sg::iO p::iO q::iO a::iO b::some (.d md)::iO m::some (.l [.int (n0:Int),.int (n1:Int),.int (n2:Int)])::some (.l [x,g,y])::some (.d (.list nu))::some (.d (.list rs))::iO st::some (.d (.list wd))::nn 6)=.ok (.nx (some (.d (bH ns))::iO sg::iO p::iO q::iO a::iO b::some (.d md)::iO m::some (.l [.int (n0:Int),.int (n1:Int),.int (n2:Int)])::some (.l [x,g,y])::some (.d (.list nu))::some (.d (.list rs))::iO st::some (.d (.list wd))::iO l::nn 5)):=by
 have f:(p:Int) * (q:Int)=((p * q:Nat):Int):=by simp
 have c:((p * q:Nat):Int) / (G:Int)=(l:Int):=by rw[<-e];simp
 simp only[aFX,bK,gA,hZ,iR,nL,k8,vX,fN,eI,eU,fO,fF,eR,lA,cJ,iO,nn,List.replicate,AL,BJ,D4,CT,D5,R.bind_ok,oN,AY,A9,Nat.reduceAdd,CG,AX,AT,A6,A8,kO,lR,kP (show (-18446744073709551616:Int) < (p:Int) by omega) (show ((p:Int):Int) < 18446744073709551616 by omega),f,h,v8 (show (0:Int) < (G:Int) by omega) (by omega),c]
theorem aUB{c:List Dz}{f b2:Bool}{l0:Nat}(h0:dSl (.list rs) (some (st:Int)) none=.ok (.list c))(h1:dNin (.bool true) (.list c)=.ok (.bool f))(h2:dNin (.bool false) (.list c)=.ok (.bool b2))(e:l=if f=true\/b2=true then 1 else l0):aFY (some (.d (bH ns))::iO sg::iO p::iO q::iO a::iO b::some (.d md)::iO m::some (.l [.int (n0:Int),.int (n1:Int),.int (n2:Int)])::some (.l [x,g,y])::some (.d (.list nu))::some (.d (.list rs))::iO st::some (.d (.list wd))::iO l0::nn 5)=.ok (.nx (some (.d (bH ns))::iO sg::iO p::iO q::iO a::iO b::some (.d md)::iO m::some (.l [.int (n0:Int),.int (n1:Int),.int (n2:Int)])::some (.l [x,g,y])::some (.d (.list nu))::some (.d (.list rs))::iO st::some (.d (.list wd))::iO l::nn 5)):=by
 subst e
 cases f<;>cases b2<;>simp[aFY,cJ,iO,nn,h0,h1,h2,BF,CF,or_self,or_true,true_or,or_false,false_or]<;>rfl
theorem aUC{c:Nat}(e:st=if n1=0 then 0 else c):aAG (some (.d (bH ns))::iO sg::iO p::iO q::iO a::iO b::some (.d md)::iO m::some (.l [.int (n0:Int),.int (n1:Int),.int (n2:Int)])::some (.l [x,g,y])::some (.d (.list nu))::some (.d (.list rs))::iO c::some (.d (.list wd))::iO l::nn 5)=.ok (.nx (some (.d (bH ns))::iO sg::iO p::iO q::iO a::iO b::some (.d md)::iO m::some (.l [.int (n0:Int),.int (n1:Int),.int (n2:Int)])::some (.l [x,g,y])::some (.d (.list nu))::some (.d (.list rs))::iO st::some (.d (.list wd))::iO l::nn 5)):=by
 subst e
 by_cases h:n1=0
 .have h2:(n1:Int)=0:=by omega
  simp[aAG,cJ,iO,nn,lR,iZ,AZ h2,AD h]
 .have h2:¬ (n1:Int)=0:=by omega
  simp[aAG,cJ,iO,nn,lR,iZ,A1 h2,AC h,BF,CF]
theorem aUD(h:bP [.d md,.d x,.d g,.d y]=.ok (.d cr)):aFZ (some (.d (bH ns))::iO sg::iO p::iO q::iO a::iO b::some (.d md)::iO m::some (.l [.int (n0:Int),.int (n1:Int),.int (n2:Int)])::some (.l [x,g,y])::some (.d (.list nu))::some (.d (.list rs))::iO st::some (.d (.list wd))::iO l::nn 5)=.ok (.nx (some (.d (bH ns))::iO sg::iO p::iO q::iO a::iO b::some (.d md)::iO m::some (.l [.int (n0:Int),.int (n1:Int),.int (n2:Int)])::some (.l [x,g,y])::some (.d (.list nu))::some (.d (.list rs))::iO st::some (.d (.list wd))::iO l::some (.d cr)::nn 4)):=by
 simp[aFZ,cJ,iO,nn,rL,lR,sY,h]
theorem aUE{c:List Dz}(e:cr=.tuple [.int (st:Int),.int (l:Int),.list c])(i:dSl (.list wd) none (some ((st:Int)+(l:Int)))=.ok (.list c))(j:dNe cr cr=.ok (.bool false)):aF0 (some (.d (bH ns))::iO sg::iO p::iO q::iO a::iO b::some (.d md)::iO m::some (.l [.int (n0:Int),.int (n1:Int),.int (n2:Int)])::some (.l [x,g,y])::some (.d (.list nu))::some (.d (.list rs))::iO st::some (.d (.list wd))::iO l::some (.d cr)::nn 4)=.ok (.nx (some (.d (bH ns))::iO sg::iO p::iO q::iO a::iO b::some (.d md)::iO m::some (.l [.int (n0:Int),.int (n1:Int),.int (n2:Int)])::some (.l [x,g,y])::some (.d (.list nu))::some (.d (.list rs))::iO st::some (.d (.list wd))::iO l::some (.d cr)::nn 4)):=by
 have h:dIx cr (.int 0)=.ok (.int (st:Int)):=by rw[e];exact rK _ _
 have f:dIx cr (.int 1)=.ok (.int (l:Int)):=by rw[e];exact aBZ _ _ _
 simp[aF0,cJ,iO,nn,i,<-e,j,h,f,aOG,F9,BF,CF]
theorem aUF{v:Int}(h:bB [.d (bH ns),.d (.int 44)]=.ok (.d (.int v)))(e:v % ((n1:Int)+1)=(at1:Int)):aF1 (some (.d (bH ns))::iO sg::iO p::iO q::iO a::iO b::some (.d md)::iO m::some (.l [.int (n0:Int),.int (n1:Int),.int (n2:Int)])::some (.l [x,g,y])::some (.d (.list nu))::some (.d (.list rs))::iO st::some (.d (.list wd))::iO l::some (.d cr)::nn 4)=.ok (.nx (some (.d (bH ns))::iO sg::iO p::iO q::iO a::iO b::some (.d md)::iO m::some (.l [.int (n0:Int),.int (n1:Int),.int (n2:Int)])::some (.l [x,g,y])::some (.d (.list nu))::some (.d (.list rs))::iO st::some (.d (.list wd))::iO l::some (.d cr)::iO at1::nn 3)):=by
 simp[aF1,cJ,iO,nn,h,lR,dI (show (0:Int) < (n1:Int)+1 by omega),e]
theorem aUG{v:Int}{i f c:Dz}{ab e:Dz}(h:bB [.d (bH ns),.d (.int 45)]=.ok (.d (.int v)))(h1:dSl g none (some (at1:Int))=.ok i)(h2:dSl g (some (at1:Int)) none=.ok f)(o:dIx (.str "abcd") (.int (sg:Int))=.ok ab)(j:dIx (.list [ab,.str "A",.str " "]) (.int (v % 3))=.ok e)(n:cQ i e=.ok c)(k:cQ c f=.ok bad):aF2 (some (.d (bH ns))::iO sg::iO p::iO q::iO a::iO b::some (.d md)::iO m::some (.l [.int (n0:Int),.int (n1:Int),.int (n2:Int)])::some (.l [x,g,y])::some (.d (.list nu))::some (.d (.list rs))::iO st::some (.d (.list wd))::iO l::some (.d cr)::iO at1::nn 3)=.ok (.nx (some (.d (bH ns))::iO sg::iO p::iO q::iO a::iO b::some (.d md)::iO m::some (.l [.int (n0:Int),.int (n1:Int),.int (n2:Int)])::some (.l [x,g,y])::some (.d (.list nu))::some (.d (.list rs))::iO st::some (.d (.list wd))::iO l::some (.d cr)::iO at1::some (.d bad)::nn 2)):=by
 simp[aF2,cJ,iO,nn,h,lR,h1,h2,o,dI (show (0:Int) < 3 by decide),j,n,k]
theorem aUH(h:d7 [.d (.int 13),.d (.int 17),.d (.int 3),.d (.int 5),.d (.int (sg:Int))]=.ok (.d md2)):aF3 (some (.d (bH ns))::iO sg::iO p::iO q::iO a::iO b::some (.d md)::iO m::some (.l [.int (n0:Int),.int (n1:Int),.int (n2:Int)])::some (.l [x,g,y])::some (.d (.list nu))::some (.d (.list rs))::iO st::some (.d (.list wd))::iO l::some (.d cr)::iO at1::some (.d bad)::nn 2)=.ok (.nx (some (.d (bH ns))::iO sg::iO p::iO q::iO a::iO b::some (.d md)::iO m::some (.l [.int (n0:Int),.int (n1:Int),.int (n2:Int)])::some (.l [x,g,y])::some (.d (.list nu))::some (.d (.list rs))::iO st::some (.d (.list wd))::iO l::some (.d cr)::iO at1::some (.d bad)::some (.d md2)::nn 1)):=by
 simp[aF3,cJ,iO,nn,h]
theorem aUI(h1:bQ [.d md,.d (.list [x,bad,.str "x"])]=.ok (.d (.tuple [.str "strip",.int (at1:Int)])))(h2:bQ [.d md,.d (.list [.str "-",bad,.str ""])]=.ok (.d (.tuple [.str "strip",.int 0])))(e:bQ [.d md2,.d (.list [x,bad,.str "x"])]=.ok (.d (.tuple [.str "strip",.int (at1:Int)])))(f:bQ [.d md2,.d (.list [.str "-",bad,.str ""])]=.ok (.d (.tuple [.str "strip",.int 0]))):aF4 (some (.d (bH ns))::iO sg::iO p::iO q::iO a::iO b::some (.d md)::iO m::some (.l [.int (n0:Int),.int (n1:Int),.int (n2:Int)])::some (.l [x,g,y])::some (.d (.list nu))::some (.d (.list rs))::iO st::some (.d (.list wd))::iO l::some (.d cr)::iO at1::some (.d bad)::some (.d md2)::nn 1)=.ok (.nx (some (.d (bH ns))::iO sg::iO p::iO q::iO a::iO b::some (.d md)::iO m::some (.l [.int (n0:Int),.int (n1:Int),.int (n2:Int)])::some (.l [x,g,y])::some (.d (.list nu))::some (.d (.list rs))::iO st::some (.d (.list wd))::iO l::some (.d cr)::iO at1::some (.d bad)::some (.d md2)::some (.d md2)::[])):=by
 have h:∀ i:Int,dNe (.tuple [.str "strip",.int i]) (.tuple [.str "strip",.int i])=.ok (.bool false):=fun i=>aIJ (Sh.shaped (n:=1) (qM fun y c=>by
  rcases A2.mp c with rfl|c
  · exact oC _ (by decide +kernel)
  · rw [A4.mp c]; exact qN _ _) (by decide))
 simp[aF4,gB,j5 (xs:=[md,md2]) (by simp),jN,cJ,iO,nn,rL,h1,h2,e,f,h,BF,CF]
theorem aUJ(h:bQ [.d md2,.d (.list [x,g,y])]=.ok (.d (.tuple [.str "many",.int 1]))):aF5 (some (.d (bH ns))::iO sg::iO p::iO q::iO a::iO b::some (.d md)::iO m::some (.l [.int (n0:Int),.int (n1:Int),.int (n2:Int)])::some (.l [x,g,y])::some (.d (.list nu))::some (.d (.list rs))::iO st::some (.d (.list wd))::iO l::some (.d cr)::iO at1::some (.d bad)::some (.d md2)::some (.d md2)::[])=.ok (.rt (.d (.bool true))):=by
 have e:dEq (.tuple [.str "many",.int 1]) (.tuple [.str "many",.int 1])=.ok (.bool true):=aR2 (Sh.shaped (n:=1) (qM fun y c=>by
  rcases A2.mp c with rfl|c
  · exact oC _ (by decide +kernel)
  · rw [A4.mp c]; exact qN _ _) (by decide))
 simp[aF5,k9,cJ,iO,nn,h,e]
end
theorem aMB(v:Bool){p q a b c s n st:Nat}:∃ bb:Bool,dNin (.bool v) (.list ((rsL p q a b c s n).drop st))=.ok (.bool bb)/\(bb=true↔¬ hasB p q a b c s n st v):=by
 have h:SeqAt.shaped (.list ((rsL p q a b c s n).drop st))=true:=Sh.shaped (n:=1) (sh_lst fun y d=>by
  have d:=List.mem_of_mem_drop d
  unfold rsL at d
  obtain ⟨k,_,rfl⟩:=A5.mp d
  exact ⟨rfl,CO _⟩) (by decide)
 have g:inD (.bool v) (.list ((rsL p q a b c s n).drop st))=some (((rsL p q a b c s n).drop st).any fun y=>PyData.eqv y (.bool v)):=AD ⟨rfl,h⟩
 refine ⟨!(((rsL p q a b c s n).drop st).any fun y=>PyData.eqv y (.bool v)),by unfold dNin;rw[g],?_⟩
 have f:(((rsL p q a b c s n).drop st).any fun y=>PyData.eqv y (.bool v))=true↔hasB p q a b c s n st v:=by
  rw[List.any_eq_true]
  constructor
  .rintro ⟨y,d,e⟩
   obtain ⟨i,hi⟩:=G7.mp d
   rw[EJ] at hi
   unfold rsL at hi
   rw[AH] at hi
   by_cases j:st+i < n
   .rw[BD j] at hi
    have hi:some (PyData.bool (rsB p q a b c s (st+i)))=some y:=hi
    injection hi with hi
    subst hi
    refine ⟨st+i,by omega,j,?_⟩
    revert e
    generalize rsB p q a b c s (st+i)=w
    cases w<;>cases v<;>intro e<;>first|rfl|exact absurd e (by decide)
   .rw[C9 (by rw[AU];omega)] at hi
    cases hi
  .rintro ⟨k,h1,h2,h3⟩
   refine ⟨.bool v,G7.mpr ⟨k - st,?_⟩,by cases v<;>rfl⟩
   rw[EJ]
   unfold rsL
   rw[AH,show st+(k - st)=k by omega,BD h2]
   show some (PyData.bool (rsB p q a b c s k))=_
   rw[h3]
 rw[<-f]
 generalize (((rsL p q a b c s n).drop st).any fun y=>PyData.eqv y (.bool v))=w
 cases w<;>simp
theorem aSM{sg r:Nat}(s1:1<=sg)(b:sg<=3)(h:r < 3):∃ (ab:Dz) (c:Nat),dIx (.str "abcd") (.int (sg:Int))=.ok ab/\dIx (.list [ab,.str "A",.str " "]) (.int (r:Int))=.ok (stD [c])/\bR sg c=false:=by
 have a:("abcd":Str).length<=16777216:=by decide
 have h1:dIx (.str "abcd") (.int (sg:Int))=.ok (stD [97+sg]):=by
  match sg,s1,b with
  | 1,_,_=>exact aAE a (eK (j:=1) rfl)
  | 2,_,_=>exact aAE a (eK (j:=2) rfl)
  | 3,_,_=>exact aAE a (eK (j:=3) rfl)
 match r,h with
 | 0,_=>exact ⟨_,_,h1,eD rfl,A1 (by omega)⟩
 | 1,_=>exact ⟨_,65,h1,eD rfl,A1 (by omega)⟩
 | 2,_=>exact ⟨_,32,h1,eD rfl,A1 (by omega)⟩
theorem aEF{x y:List Nat}(h:x.length+y.length<=5000):cQ (stD x) (stD y)=.ok (stD (x++y)):=by
 have a:∀ x:List Nat,(⟨x.toArray⟩:Str).length=x.length:=fun x=>by simp[Str.length]
 unfold stD
 rw[aH5 (by rw[a,a];omega)]
 congr 2
 show (⟨x.toArray++y.toArray⟩:Str)=_
 rw[List.append_toArray]
theorem iF(v:Int){n:Nat}(h:1<=n):∃ r:Nat,v % (n:Int)=(r:Int)/\r < n:=by
 have h1:=GW v (show (n:Int)≠0 by omega)
 have h2:=FY v (show (0:Int) < (n:Int) by omega)
 exact ⟨(v % (n:Int)).toNat,by omega,by omega⟩
theorem aI6{p q a b m c s n:Nat}(p1:1<=p)(j:1<=q)(t:Nat.Coprime p q)(l:m<=6)(u:n=2 * p * q+8){d b2:Bool}(h1:d=true↔¬ hasB p q a b c s n (stK p q a b m c s n) true)(h2:b2=true↔¬ hasB p q a b c s n (stK p q a b m c s n) false) :
  Canon (wK p q a b m c s) (if s=0 then 0 else stK p q a b m c s n) (if d=true\/b2=true then 1 else dQ p q s)/\(if s=0 then 0 else stK p q a b m c s n)+(if d=true\/b2=true then 1 else dQ p q s)<=n:=by
 obtain ⟨w,x⟩:=uN (s:=s) p1 j
 have r:n=2 * (p * q)+8:=by rw[<-Nat.mul_assoc];exact u
 by_cases e:s=0
 .have o:dQ p q s=1:=by
   unfold dQ
   rw[e,Nat.gcd_zero_right]
   exact Nat.div_self (FC p1 j)
  have e1:(if d=true\/b2=true then 1 else dQ p q s)=1:=by rw[o];split<;>rfl
  rw[AD e,e1]
  exact ⟨aO9 e,by omega⟩
 .obtain ⟨k1,k2,k3⟩:=aO8 (a:=a) (b:=b) (c:=c) p1 j t l (show 1<=s by omega) (n:=n) (by omega)
  have v:=aMA (p:=p) (q:=q) (a:=a) (b:=b) (c:=c) l (show 1<=s by omega) n
  rw[AC e]
  by_cases f:d=true
  .rw[AD (.inl f)]
   exact ⟨k2 (h1.mp f),by omega⟩
  .have g:hasB p q a b c s n (stK p q a b m c s n) true:=EY fun h=>f (h1.mpr h)
   by_cases i:b2=true
   .rw[AD (.inr i)]
    have:=k3 g (h2.mp i)
    have k:=k1 g
    rw[this] at k
    exact ⟨k,by omega⟩
   .rw[AC (by rintro (h|h);exact f h;exact i h)]
    exact ⟨k1 g,by omega⟩
theorem aEG(z:Str):PyData.str z=stD z.cps.toList:=by unfold stD;simp
noncomputable def aGG:Sg->R Bool:=(e1 asB (e2 dGt (rV 1) (eC (.int 0))))
noncomputable def aLG:Sg->R Fw:=(aS (bU 2 (vD (e2 dMod (rV 0) (rV 1))))
 (aS (bU 0 (vV 1))
 (bU 1 (vV 2))))
theorem aPE:lY=(aS (b7 aGG aLG) (cI (vV 0))):=id rfl
theorem aLH:∀ (n b a:Nat) (u:O9 A),b<=n->∃ u',b7 aGG aLG [some (.d (.int (a:Int))),some (.d (.int (b:Int))),u]=.ok (.nx [some (.d (.int (Nat.gcd a b:Int))),some (.d (.int 0)),u']):=by
 intro n
 induction n with
 | zero=>
  intro b a u g
  have:b=0:=by omega
  subst this
  refine ⟨u,?_⟩
  rw[d6 (by simp[aGG])]
  simp
 | succ n ih=>
  intro b a u g
  by_cases f:b=0
  .subst f
   refine ⟨u,?_⟩
   rw[d6 (by simp[aGG])]
   simp
  .have h:=CM a (show b > 0 by omega)
   obtain ⟨u',e⟩:=ih (a % b) b (some (.d (.int ((a % b:Nat):Int)))) (by omega)
   have c:(0:Int) < (b:Int):=by omega
   have i:dMod (.int (a:Int)) (.int (b:Int))=.ok (.int ((a % b:Nat):Int)):=by rw[dI c];rfl
   refine ⟨u',?_⟩
   rw[g9 (ρ':=[some (.d (.int (b:Int))),some (.d (.int ((a % b:Nat):Int))),some (.d (.int ((a % b:Nat):Int)))]) (by
    show e1 asB (e2 dGt (rV 1) (eC (.int 0))) _=_
    simp
    omega) (by simp only[aLG];simp[-Int.natCast_emod,i]),e,show Nat.gcd b (a % b)=Nat.gcd a b from (Nat.gcd_comm b (a % b)).trans ((Nat.gcd_rec b a).symm.trans (Nat.gcd_comm b a))]
theorem aUK(a b:Nat):gC [.d (.int (a:Int)),.d (.int (b:Int))]=.ok (.d (.int (Nat.gcd a b:Int))):=by
 obtain ⟨u,e⟩:=aLH b b a none (AG _)
 unfold gC
 rw[aPE]
 simp[e]
theorem aLI:∀ ns:List Int,ns.length<=63->aF6 [.d (.list (ns.map .int))]=.ok (.d (.bool true)):=by
 intro ns ai
 obtain ⟨v0,c0⟩:=i8 ns 0
 obtain ⟨v1,c1⟩:=i8 ns 1
 obtain ⟨v2,c2⟩:=i8 ns 2
 obtain ⟨v3,c3⟩:=i8 ns 3
 obtain ⟨v4,c4⟩:=i8 ns 4
 obtain ⟨v5,c5⟩:=i8 ns 5
 obtain ⟨v6,c6⟩:=i8 ns 6
 obtain ⟨v7,c7⟩:=i8 ns 7
 obtain ⟨S,aa⟩:=i8 ns 44
 obtain ⟨K,Y⟩:=i8 ns 45
 obtain ⟨sg,es,s1,f⟩:∃ sg:Nat,1+v0 % 3=(sg:Int)/\1<=sg/\sg<=3:=⟨(1+v0 % 3).toNat,by omega,by omega,by omega⟩
 obtain ⟨r,er,hr⟩:=iF v1 (n:=8) (by omega)
 obtain ⟨p,q,W,j,p8,h,q7,ak,hc⟩:=aT4 hr
 obtain ⟨a,ea,ha⟩:=iF v2 j
 obtain ⟨b,eb,hb⟩:=iF v3 h
 obtain ⟨m0,em,hm⟩:=iF v4 (n:=14) (by omega)
 obtain ⟨n0,e0,h0⟩:=iF v5 (n:=41) (by omega)
 obtain ⟨n1,e1,h1⟩:=iF v6 (n:=13) (by omega)
 obtain ⟨n2,e2,h2⟩:=iF v7 (n:=41) (by omega)
 obtain ⟨zx,fx,Sx,Lx⟩:=xY (ns:=ns) (at':=8) (m:=n0) (sg:=sg) (by omega) (by omega) s1 f
 obtain ⟨R,fg,Sg,Lg⟩:=xY (ns:=ns) (at':=20) (m:=n1) (sg:=sg) (by omega) (by omega) s1 f
 obtain ⟨zy,fy,Sy,Ly⟩:=xY (ns:=ns) (at':=32) (m:=n2) (sg:=sg) (by omega) (by omega) s1 f
 rw[aEG] at fx fg fy
 generalize zx.cps.toList=x at *
 generalize o:R.cps.toList=g at *
 generalize zy.cps.toList=y at *
 obtain ⟨m,O⟩:∃ m,m=if 6 < m0 then 0 else m0:=⟨_,rfl⟩
 have Z:m<=6:=by rw[O];split<;>omega
 have T:=aD8 (a:=a) (b:=b) j (show p<=100 by omega) h (show q<=100 by omega) f
 have D:=aD8 (p:=13) (q:=17) (a:=3) (b:=5) (by omega) (by omega) (by omega) (by omega) f
 obtain ⟨rs,LM,h7⟩:∃ rs:List Rw,Lm rs sg p q a b m/\yL (some (.d (bH ns))::iO sg::iO p::iO q::iO a::iO b::some (.d (aY (swM p q a b sg)))::iO m::nn 12)=.ok (.nx (some (.d (bH ns))::iO sg::iO p::iO q::iO a::iO b::some (.d (aY rs))::iO m::nn 12)):=by
  have M2:=iP (a:=a) (b:=b) j (show p<=100 by omega) h (show q<=100 by omega) s1 f
  by_cases e:m=0
  .refine ⟨_,?_,aT5 e⟩
   rw[e]
   exact aTZ j (by omega) h (by omega) s1 f
  .have X:1<=m:=by omega
   exact ⟨_,aT0 j (by omega) h (by omega) X Z s1 f,aT6 X (aSG (by omega) f) (aV4 (sV X (by omega) s1 f) M2 (by rw[kS,iI];omega) (nS j h).l0)⟩
 have M:=LM.mach
 have M2:=iP (p:=13) (q:=17) (a:=3) (b:=5) (by omega) (by omega) (by omega) (by omega) s1 f
 obtain ⟨n,hn⟩:∃ n,n=2 * p * q+8:=⟨_,rfl⟩
 have H:n<=1000:=by rw[hn,GA];omega
 have G:=aT2 (a:=a) (b:=b) (m:=m) (c:=n0+n2) (s:=n1) j h H
 have ac:=aUK (p * q) n1
 have u:0 < p * q:=FC j h
 have V:=E6 n1 u
 have ag:Nat.gcd (p * q) n1<=p * q:=Nat.gcd_le_left n1 u
 obtain ⟨b1,d1,k1⟩:=aMB true (p:=p) (q:=q) (a:=a) (b:=b) (c:=n0+n2) (s:=n1) (n:=n) (st:=stK p q a b m (n0+n2) n1 n)
 obtain ⟨b2,d2,k2⟩:=aMB false (p:=p) (q:=q) (a:=a) (b:=b) (c:=n0+n2) (s:=n1) (n:=n) (st:=stK p q a b m (n0+n2) n1 n)
 obtain ⟨CA,C⟩:=aI6 j h hc Z hn k1 k2
 have P:dSl (.list (rsL p q a b (n0+n2) n1 n)) (some (stK p q a b m (n0+n2) n1 n:Int)) none=.ok (.list ((rsL p q a b (n0+n2) n1 n).drop (stK p q a b m (n0+n2) n1 n))):=by
  rw[sJ,uH _ (by rw[aPA];exact aIZ n)]
 obtain ⟨st,Q⟩:∃ st,st=if n1=0 then 0 else stK p q a b m (n0+n2) n1 n:=⟨_,rfl⟩
 obtain ⟨l,el⟩:∃ l,l=if b1=true\/b2=true then 1 else dQ p q n1:=⟨_,rfl⟩
 rw[<-Q,<-el] at CA C
 obtain ⟨ah,l',CB,I⟩:=aT1 LM j h (by omega) Z Sx Sg Sy
 rw[Lx,Ly,Lg] at CB I
 obtain ⟨rfl,rfl⟩:=CA.uniq CB
 have B:dSl (.list (wdL (wK p q a b m (n0+n2) n1) n)) none (some ((st:Int)+(l:Int)))=.ok (.list (wdL (wK p q a b m (n0+n2) n1) (st+l))):=by
  rw[sJ,show ((st:Int)+(l:Int))=((st+l:Nat):Int) by omega,aCF _ (by rw[yK];exact C)]
  unfold wdL
  rw[<-List.map_take,List.take_range,E3 C]
 have U:dNe (.tuple [.int (st:Int),.int (l:Int),.list (wdL (wK p q a b m (n0+n2) n1) (st+l))]) (.tuple [.int (st:Int),.int (l:Int),.list (wdL (wK p q a b m (n0+n2) n1) (st+l))])=.ok (.bool false):=aIJ (Sh.shaped (n:=2) (qM fun z J=>by
  rcases A2.mp J with rfl|J
  .exact qN _ _
  rcases A2.mp J with rfl|J
  .exact qN _ _
  rw[A4.mp J]
  refine sh_lst fun w hw=>?_
  unfold wdL at hw
  obtain ⟨k,_,rfl⟩:=A5.mp hw
  refine oC _ ?_
  unfold wK
  split<;>decide +kernel) (by decide))
 obtain ⟨at1,ae,aj⟩:=iF S (n:=n1+1) (by omega)
 obtain ⟨r3,ad,af⟩:=iF K (n:=3) (by omega)
 obtain ⟨ab,N,i1,i2,i3⟩:=aSM s1 f af
 have E:stD g=.str R:=by rw[aEG,o]
 have L:R.length<=16777216:=by rw[aOH,o];have:=Sg.1;omega
 have v:at1<=R.cps.toList.length:=by rw[o];omega
 have t1:dSl (stD g) none (some (at1:Int))=.ok (stD (g.take at1)):=by rw[E,aL4 L,aFH v,o];rfl
 have t2:dSl (stD g) (some (at1:Int)) none=.ok (stD (g.drop at1)):=by rw[E,aL4 L,aFI v,o];rfl
 have gl:=Sg.1
 have t3:=aEF (x:=g.take at1) (y:=[N]) (by rw[BM];show _+1<=_;omega)
 have t4:=aEF (x:=g.take at1++[N]) (y:=g.drop at1) (by rw[AK,BM,CQ];show _+1+_<=_;omega)
 have A:f6 sg 0 (g.take at1++[N]++g.drop at1)=some at1:=by
  have:=aDS (sg:=sg) (x:=g.take at1) (y:=g.drop at1) (c:=N) (i:=0) (fun d hd=>Sg.2 d (FT hd)) i3
  rw[BM,E3 (by omega),DQ] at this
  rw[<-this,EM];rfl
 have F:(g.take at1++[N]++g.drop at1).length<=16777216:=by rw[AK,AK,BM,CQ];show _+1+_<=_;omega
 have t:f6 sg 0 [45]=some 0:=by
  show (if bR sg 45=true then _ else _)=_
  rw[AC (by rw[show bR sg 45=false from A1 (by omega)];decide)]
 have e:wI (some (.d (bH ns))::nn 19)=.ok (.rt (.d (.bool true))):=by
  rw[wI,cZ (aV5 c0 es),cZ (aV6 c1 er W),cZ (aV7 c2 j ea),cZ (aV8 c3 h eb),cZ (aV9 T),cZ (aWA c4 em),cZ (aWB O),cZ h7,cZ (aWC c5 c6 c7 e0 e1 e2),cZ (aWD fx fg fy),cZ (aT7 p8 q7 h1),<-hn,cZ (aT8 j h H),cZ (aT9 G),cZ (aUA (l:=dQ p q n1) ac V (by omega) p8 rfl),cZ (aUB P d1 d2 el),cZ (aUC Q),cZ (aUD I),cZ (aUE rfl B U),cZ (aUF aa ae),cZ (aUG Y t1 t2 i1 (by rw[show K % 3=(r3:Int) from ad];exact i2) t3 t4),cZ (aUH D),cZ (aUI (nU (aI4 M Sx F A)) (nU (aI5 M (x:=[45]) (by decide) t)) (nU (aI4 M2 Sx F A)) (nU (aI5 M2 (x:=[45]) (by decide) t)))]
  exact aUJ (aLF (aPD M2 Sx Sg Sy (aPC s1 f)))
 unfold aF6
 rw[eJ]
 show (wI (some (.d (bH ns))::nn 19)).bind _=_
 rw[e];rfl
section
variable{P:P9}{w:W9}{K:Frag}{mg:Str->O9 V9}{base:H9}{TH:Hp}
theorem w4:FnScope ["self","at"] ["self","at"] (aK (kX (top 2) 0)):=by constructor<;>first|rfl|decide +kernel
theorem w5{f W C:Az}{fd:FuncData}(F:Fun K "__init__" "NoStrip.__init__" (kX (top 2) 0) f fd)(c:SX.ExcC K W C)(n1:PySem.W.findIn K (.ref C) "at"=some none) :
  FnOk P w K mg base CX0 1 f fd ["self","at"] (spI C ["at"]):=by
 refine F.ok w4 (fun vs H Q E h=>?_) (fun i A outer s H vs Q E k h=>?_)
 .obtain ⟨e,xs,rfl,a,_⟩:=h
  rw[AY,a];rfl
 .obtain ⟨e,xs,rfl,a,g,q⟩:=h
  obtain ⟨x,rfl⟩:∃ x,xs=[x]:=Mc.bn1 (P:=fun xs=>∃ x,xs=[x]) (fun x=>⟨x,rfl⟩) xs a
  refine ⟨_,L2.aR (aMU (pv 0) (pv 1) rfl),?_⟩
  refine ⟨_,rfl,_,rfl,e,W,C,rfl,c,n1,.inl ⟨g,fun d j b=>?_⟩⟩
  exact q d j b
def kT (K : Frag) (mg : Str -> O9 V9) : Prop := ∃ W C, SX.ExcC K W C /\ mg "NoStrip" = some (.ref C) /\ PySem.W.findIn K (.ref C) "at" = some none /\
      ∃ fI fdI, Fun K "__init__" "NoStrip.__init__" (kX (top 2) 0) fI fdI /\ fA K fdI ["self", "at"] [] /\ PySem.W.findIn K (.ref C) "__init__" = some (some (.ref fI)) /\ PySem.W.typeIn K (.ref fI) = some (.type "function")
theorem yW(h:kT K mg):∃ W C,ErrAt P w K mg base "NoStrip" ["at"] W C:=by
 obtain ⟨W,C,a,m,n1,fI,fdI,d,e,c,tI⟩:=h
 have I:=w5 (P:=P) (w:=w) (mg:=mg) (base:=base) d a n1
 exact ⟨W,C,a,m,fun f b=>by rw[A4.mp b];exact n1,fI,fdI,I,c,tI,e⟩
theorem aPF(T:Txt w K mg)(Er_NoStrip:kT K mg)(Erp_TooMany:∃ W C,ErrP K mg "TooMany" W C)(N_TooMany_NoStrip:NoM K mg "TooMany" "NoStrip")(I_TooMany_WayError:Is1 K mg "TooMany" "WayError" true)(D6:DefAt K mg "signs_of" (top 6) ["machine"])(D7:DefAt K mg "cells_of" (top 7) ["machine","number"])(D8:DefAt K mg "checked_by" (top 8) ["signs","strip"])(D9:DefAt K mg "checked" (top 9) ["machine","strip"])(ad:DefAt K mg "reached" (top 11) ["begin","after","done"])(S:DefAt K mg "is_word" (top 14) ["part"])(N:DefAt K mg "without_signs" (top 15) ["machine"])(J:DefAt K mg "gone_on" (top 16) ["backs","cells","room"])(Z:DefAt K mg "longer" (top 17) ["begun","cells"])(L:DefAt K mg "word_behind" (top 18) ["machine","begun"])(X:DefAtT K mg base TH qsT "one_way" (top 19) ["machine"])(Q:DefAt K mg "room_from" (top 20) ["reader","room","strip"])(U:DefAt K mg "rooms_passed" (top 22) ["reader","room","piece"])(O:DefAt K mg "least_round" (top 23) ["words"])(af:DefAtD K mg "comes_round" (top 24) ["machine","ahead","again","behind"] [.str ""])(Y:DefAt K mg "_law_cell" (top 26) ["_law_script","_law_k"])(G:DefAt K mg "_law_strip" (top 27) ["_law_script","_law_at","_law_size","_law_signs"])(ae:DefAt K mg "_law_whole" (top 28) ["_law_found"])(F:DefAt K mg "_law_sweeper" (top 29) ["_law_p","_law_q","_law_a","_law_b","_law_signs"])(ac:DefAt K mg "_law_up" (top 30) ["_law_end","_law_by"])(aa:DefAt K mg "_law_raised" (top 31) ["_law_machine","_law_by"])(M:DefAt K mg "_law_joined" (top 32) ["_law_one","_law_two","_law_word"])(V:DefAt K mg "_law_shared" (top 33) ["_law_one","_law_two"])(H:DefAt K mg "_law_less" (top 34) ["_law_many","_law_signs"])(R:DefAt K mg "_law_due" (top 35) ["_law_numbers","_law_least_many","_law_by","_law_rests"])(I:DefAt K mg "_law_refused" (top 36) ["_law_machine","_law_strips"]){fL:Az}{E:FuncData}(FL:Fun K "law" "law" (top 37) fL E):FnOk P w K mg base (CXe P w) 17 fL E ["_law_script"] (aFD K TH):=by
 obtain ⟨W_NoStrip,C_NoStrip,g⟩:=yW (P:=P) (w:=w) (base:=base) Er_NoStrip
 obtain ⟨Wp_TooMany,Cp_TooMany,c⟩:=Erp_TooMany
 have f:=@aCS P w K mg base TH T D6
 have v:=@aCT P w K mg base TH T D7
 have q:=zY (P:=P) (w:=w) (base:=base) (TH:=TH) T D8 g
 have x:=@aF7 P w K mg base TH T D9 q f
 have z:=@aF8 P w K mg base TH T ad
 have k:=@aF9 P w K mg base TH T S
 have e:=@uI P w K mg base TH T N
 have B:=@aGA P w K mg base TH T J k
 have D:=@aIU P w K mg base TH T Z B
 have p:=@yM P w K mg base TH T L k
 have y:=aGB (P:=P) (w:=w) (base:=base) (TH:=TH) T X f v D z e p c
 have d:=@aCG P w K mg base TH T Q
 have h:=@wP P w K mg base TH T U d
 have m:=@yN P w K mg base TH T O
 have a:=@yO P w K mg base TH T af x y h d m
 have b:=@aCH P w K mg base TH T Y
 have s:=@zZ P w K mg base TH T G b
 have r:=@z0 P w K mg base TH T ae
 have j:=@wQ P w K mg base TH T F
 have A:=@aGC P w K mg base TH T ac
 have l:=@yP P w K mg base TH T aa A
 have n:=@yQ P w K mg base TH T M l
 have o:=@yR P w K mg base TH T V
 have t:=@aCI P w K mg base TH T H
 have u:=@aCU P w K mg base TH T R
 have i:=wS (P:=P) (w:=w) (base:=base) (TH:=TH) T I a g c N_TooMany_NoStrip I_TooMany_WayError
 exact aQX (aSC (P:=P) (w:=w) (base:=base) (TH:=TH) T FL b j n t s u o a r i) aLI
end
section
variable{w:W9}{K:Frag}{h:H9}{mg:Str->O9 V9}
theorem aSN(X:K.In h)(G:h.Ns mainGlobals mg){a:Nat}{b:Nat}(z_bool:PySem.W.nsIn K mainGlobals "bool"=some none)(z_enumerate:PySem.W.nsIn K mainGlobals "enumerate"=some none)(z_int:PySem.W.nsIn K mainGlobals "int"=some none)(z_isinstance:PySem.W.nsIn K mainGlobals "isinstance"=some none)(z_len:PySem.W.nsIn K mainGlobals "len"=some none)(z_list:PySem.W.nsIn K mainGlobals "list"=some none)(z_min:PySem.W.nsIn K mainGlobals "min"=some none)(z_range:PySem.W.nsIn K mainGlobals "range"=some none)(z_str:PySem.W.nsIn K mainGlobals "str"=some none)(z_tuple:PySem.W.nsIn K mainGlobals "tuple"=some none)(s_MOST_BEGINNINGS:PySem.W.nsIn K mainGlobals "MOST_BEGINNINGS"=some (some (.int 200 a)))(s_SIGNS:PySem.W.nsIn K mainGlobals "SIGNS"=some (some (.str "abc" b))):Txt w K mg:=⟨CI X G z_bool,CI X G z_enumerate,CI X G z_int,CI X G z_isinstance,CI X G z_len,CI X G z_list,CI X G z_min,CI X G z_range,CI X G z_str,CI X G z_tuple,⟨a,C4 X G s_MOST_BEGINNINGS⟩,⟨b,C4 X G s_SIGNS⟩⟩
theorem z4(X:K.In h)(G:h.Ns mainGlobals mg){W C fI r:Az}{f c:List V9}{j s:Str}{d:Bool}{e:List Str}{b:O9 Bool}{g:O9 Az}{c0 o t p n:O9 V9}
  {q:V9} {od l:O9 Az} {i:Array (O9 V9)} {kV doc pm a ct:V9}
  (m:PySem.W.nsIn K mainGlobals "NoStrip"=some (some (.ref C)))
  (e1:K.lookup C=some (excClassObj j s C r f (.ref W::SX.f8) true e c d b g c0 o t p n "ValueError.__new__"))
  (e2:PySem.W.findIn K (.ref C) "__setattr__"=some (some (.builtin "object.__setattr__"))) (e3:PySem.W.findIn K (.ref C) "__getattribute__"=some (some (.builtin "BaseException.__getattribute__"))) (e4:PySem.W.findIn K (.ref C) "__getattr__"=some none) (e5:PySem.W.findIn K (.ref C) "__class__"=some (some (.builtin "object.__class__")))
  (e6:PySem.W.specialIn K (.builtin "object.__class__") "__get__"=some (some (.builtin "getset_descriptor.__get__"))) (e7:PySem.W.takesIn K (.builtin "object.__class__")=some true) (e8:PySem.W.keepIn K (.ref C)=true)
  (p1:PySem.W.findIn K (.ref C) "at"=some none)
  (i1:PySem.W.findIn K (.ref C) "__init__"=some (some (.ref fI))) (i2:K.lookup fI=some ⟨q,od,.func (PySem.W.fnOf "__init__" "NoStrip.__init__" (dR (kX (top 2) 0)) (cG (kX (top 2) 0)) (aK (kX (top 2) 0)) .none kV doc pm l a ct),i⟩) (i3:PySem.W.codeIn K a "NoStrip.__init__"=true) (i4:PySem.W.keepIn K (.ref fI)=true) (i5:PySem.W.typeIn K (.ref fI)=some (.type "function")):kT K mg:=by
 have k:=aAO (st:=kX (top 2) 0) i2 i3 i4
 exact ⟨W,C,xF e1 e2 e3 e4 e5 e6 e7 e8,C4 X G m,p1,fI,_,k,k.binds (ps:=["self","at"]) (fun _ _ _ _ _ _=>Mc.bn2 fun _ _=>rfl),i1,i5⟩
theorem aSO{x y:Str}(X:K.In h)(G:h.Ns mainGlobals mg){W C e j:Az}{g b:List V9}{i l:Str}{c:Bool}{d:List Str}{a:O9 Bool}{f:O9 Az}{c0 o p q k:O9 V9}
 (m:PySem.W.nsIn K mainGlobals x=some (some (.ref C))) (m2:PySem.W.nsIn K mainGlobals y=some (some (.ref e)))
 (e1:K.lookup C=some (excClassObj i l C j g (.ref W::SX.f8) true d b c a f c0 o p q k "ValueError.__new__"))
 (e2:PySem.W.findIn K (.ref C) "__setattr__"=some (some (.builtin "object.__setattr__"))) (e3:PySem.W.findIn K (.ref C) "__getattribute__"=some (some (.builtin "BaseException.__getattribute__"))) (e4:PySem.W.findIn K (.ref C) "__getattr__"=some none) (e5:PySem.W.findIn K (.ref C) "__class__"=some (some (.builtin "object.__class__")))
 (e6:PySem.W.specialIn K (.builtin "object.__class__") "__get__"=some (some (.builtin "getset_descriptor.__get__"))) (e7:PySem.W.takesIn K (.builtin "object.__class__")=some true) (e8:PySem.W.keepIn K (.ref C)=true)
 (n:(Value.ref C::.ref W::SX.f8).contains (.ref e)=false):NoM K mg x y:=⟨C,e,_,C4 X G m,C4 X G m2,(xF e1 e2 e3 e4 e5 e6 e7 e8).any,n,by simp⟩
theorem aSP{x:Str}(X:K.In h)(G:h.Ns mainGlobals mg){W C c:Az}{i b:List V9}{j l:Str}{d:Bool}{e:List Str}{a:O9 Bool}{f:O9 Az}{c0 n p q k:O9 V9}{o:V9}{wd:O9 Az}{cd:ClassData}{g:Array (O9 V9)}
  (m:PySem.W.nsIn K mainGlobals x=some (some (.ref C)))
  (e1:K.lookup C=some (excClassObj j l C c i (.ref W::SX.f8) true e b d a f c0 n p q k "ValueError.__new__"))
  (e2:PySem.W.findIn K (.ref C) "__setattr__"=some (some (.builtin "object.__setattr__"))) (e3:PySem.W.findIn K (.ref C) "__getattribute__"=some (some (.builtin "BaseException.__getattribute__"))) (e4:PySem.W.findIn K (.ref C) "__getattr__"=some none) (e5:PySem.W.findIn K (.ref C) "__class__"=some (some (.builtin "object.__class__")))
  (e6:PySem.W.specialIn K (.builtin "object.__class__") "__get__"=some (some (.builtin "getset_descriptor.__get__"))) (e7:PySem.W.takesIn K (.builtin "object.__class__")=some true) (e8:PySem.W.keepIn K (.ref C)=true)
  (n1:PySem.W.nsOkIn K c=true) (n2:PySem.W.nsIn K c "__init__"=some none) (w1:K.lookup W=some ⟨o,wd,.cls cd,g⟩) (w2:PySem.W.nsOkIn K cd.ns=true) (w3:PySem.W.nsIn K cd.ns "__init__"=some none):∃ W C,ErrP K mg x W C:=
 ⟨W,C,xF e1 e2 e3 e4 e5 e6 e7 e8,C4 X G m,⟨_,_,c,_,_,_,_,_,_,_,_,_,_,_,e1,n1,n2⟩,⟨_,_,cd,_,w1,w2,w3⟩⟩
theorem aSQ{nm q:Str}{b:Bool}(X:K.In h)(G:h.Ns mainGlobals mg){C D:Az}(a:PySem.W.nsIn K mainGlobals q=some (some (.ref D)))(m:PySem.W.nsIn K mainGlobals nm=some (some (.ref C)))(k:PySem.W.kitOne K (.ref C) (.ref D)=some b):Is1 K mg nm q b:=⟨D,C,C4 X G a,C4 X G m,k⟩
theorem rec_in{q:P9}{x:Str}(h:((recsOf q).any fun d=>d.name == x)=true):∃ d∈recsOf q,d.name=x:=by
 obtain ⟨d,a,e⟩:=List.any_eq_true.mp h
 exact ⟨d,a,FH e⟩
theorem aSR{i f:Az}{j:V9}{od m:O9 Az}{g:Array (O9 V9)}{kV doc pm b ct:V9}(X:K.In h)(G:h.Ns mainGlobals mg)(d:mg "law"=some (.ref i))(a:PySem.W.nsIn K mainGlobals "law"=some (some (.ref f)))(l:K.lookup f=some ⟨j,od,.func (PySem.W.fnOf "law" "law" (dR (top 37)) (cG (top 37)) (aK (top 37)) .none kV doc pm m b ct),g⟩)
  (c:PySem.W.codeIn K b "law"=true) (k:PySem.W.keepIn K (.ref f)=true):∃ fd,Fun K "law" "law" (top 37) i fd/\∀ (s:S9) (u:V9),BindsTo s fd ⟨[u],[]⟩ [("_law_script",u)]:=by
 have e:=d.symm.trans (C4 X G a)
 cases e
 exact ⟨_,aAO (st:=top 37) l c k,fun s u=>.of_eq rfl⟩
end
end Mc
open PySem PySem.W PyProof.Rows
set_option maxRecDepth 100000 in
set_option maxHeartbeats 0 in
theorem PySem.Challenge.cw_striproam_k37_whole_known_rounds_holds : PySem.Challenge.rw_striproam_k37_whole_known_rounds.Holds := by
 w_on;o_law;k_head;(case hw=>w_witness2)
 k_fill
 refine Fl.aNJ (l:=PySem.Challenge.rw_striproam_k37_whole_known_rounds) (k:=17) (x:="_law_script") (qs:=Mc.qsT) (xs:=["one_way"]) ?hx ?hNT rfl rfl ⟨rfl,by decide,by decide⟩ (fun w h Y=>PySem.W.km_in_of Y) ?F
 case hx=>
  intro x hx
  simp only[A2,List.not_mem_nil,or_false] at hx
  rcases hx with rfl<;>exact Mc.rec_in (by decide +kernel)
 case hNT=>
  intro w
  kernel_rfl
 case F=>
  intro w mg X h e G B
  have U:L2.DefAt (L2.KOf e) mg "signs_of" (Mc.top 6) ["machine"]:=by dsimp only[L2.KOf];refine' Mc.cH e G ?a ?l ?c ?k ?b;(case a=>k_is);(case l=>k_is);(case c=>k_is);(case k=>k_is);(case b=>exact fun _ _ _ _ _ _=>Mc.bn1 fun _=>rfl)
  have S:L2.DefAt (L2.KOf e) mg "cells_of" (Mc.top 7) ["machine","number"]:=by dsimp only[L2.KOf];refine' Mc.cH e G ?a ?l ?c ?k ?b;(case a=>k_is);(case l=>k_is);(case c=>k_is);(case k=>k_is);(case b=>exact fun _ _ _ _ _ _=>Mc.bn2 fun _ _=>rfl)
  have P:L2.DefAt (L2.KOf e) mg "checked_by" (Mc.top 8) ["signs","strip"]:=by dsimp only[L2.KOf];refine' Mc.cH e G ?a ?l ?c ?k ?b;(case a=>k_is);(case l=>k_is);(case c=>k_is);(case k=>k_is);(case b=>exact fun _ _ _ _ _ _=>Mc.bn2 fun _ _=>rfl)
  have V:L2.DefAt (L2.KOf e) mg "checked" (Mc.top 9) ["machine","strip"]:=by dsimp only[L2.KOf];refine' Mc.cH e G ?a ?l ?c ?k ?b;(case a=>k_is);(case l=>k_is);(case c=>k_is);(case k=>k_is);(case b=>exact fun _ _ _ _ _ _=>Mc.bn2 fun _ _=>rfl)
  have H:L2.DefAt (L2.KOf e) mg "reached" (Mc.top 11) ["begin","after","done"]:=by dsimp only[L2.KOf];refine' Mc.cH e G ?a ?l ?c ?k ?b;(case a=>k_is);(case l=>k_is);(case c=>k_is);(case k=>k_is);(case b=>exact fun _ _ _ _ _ _=>Mc.bn3 fun _ _ _=>rfl)
  have g:L2.DefAt (L2.KOf e) mg "is_word" (Mc.top 14) ["part"]:=by dsimp only[L2.KOf];refine' Mc.cH e G ?a ?l ?c ?k ?b;(case a=>k_is);(case l=>k_is);(case c=>k_is);(case k=>k_is);(case b=>exact fun _ _ _ _ _ _=>Mc.bn1 fun _=>rfl)
  have J:L2.DefAt (L2.KOf e) mg "without_signs" (Mc.top 15) ["machine"]:=by dsimp only[L2.KOf];refine' Mc.cH e G ?a ?l ?c ?k ?b;(case a=>k_is);(case l=>k_is);(case c=>k_is);(case k=>k_is);(case b=>exact fun _ _ _ _ _ _=>Mc.bn1 fun _=>rfl)
  have q:L2.DefAt (L2.KOf e) mg "gone_on" (Mc.top 16) ["backs","cells","room"]:=by dsimp only[L2.KOf];refine' Mc.cH e G ?a ?l ?c ?k ?b;(case a=>k_is);(case l=>k_is);(case c=>k_is);(case k=>k_is);(case b=>exact fun _ _ _ _ _ _=>Mc.bn3 fun _ _ _=>rfl)
  have z:L2.DefAt (L2.KOf e) mg "longer" (Mc.top 17) ["begun","cells"]:=by dsimp only[L2.KOf];refine' Mc.cH e G ?a ?l ?c ?k ?b;(case a=>k_is);(case l=>k_is);(case c=>k_is);(case k=>k_is);(case b=>exact fun _ _ _ _ _ _=>Mc.bn2 fun _ _=>rfl)
  have D:L2.DefAt (L2.KOf e) mg "word_behind" (Mc.top 18) ["machine","begun"]:=by dsimp only[L2.KOf];refine' Mc.cH e G ?a ?l ?c ?k ?b;(case a=>k_is);(case l=>k_is);(case c=>k_is);(case k=>k_is);(case b=>exact fun _ _ _ _ _ _=>Mc.bn2 fun _ _=>rfl)
  have t:L2.DefAt (L2.KOf e) mg "one_way" (Mc.top 19) ["machine"]:=by dsimp only[L2.KOf];refine' Mc.cH e G ?a ?l ?c ?k ?b;(case a=>k_is);(case l=>k_is);(case c=>k_is);(case k=>k_is);(case b=>exact fun _ _ _ _ _ _=>Mc.bn1 fun _=>rfl)
  have N:L2.DefAt (L2.KOf e) mg "room_from" (Mc.top 20) ["reader","room","strip"]:=by dsimp only[L2.KOf];refine' Mc.cH e G ?a ?l ?c ?k ?b;(case a=>k_is);(case l=>k_is);(case c=>k_is);(case k=>k_is);(case b=>exact fun _ _ _ _ _ _=>Mc.bn3 fun _ _ _=>rfl)
  have i:L2.DefAt (L2.KOf e) mg "rooms_passed" (Mc.top 22) ["reader","room","piece"]:=by dsimp only[L2.KOf];refine' Mc.cH e G ?a ?l ?c ?k ?b;(case a=>k_is);(case l=>k_is);(case c=>k_is);(case k=>k_is);(case b=>exact fun _ _ _ _ _ _=>Mc.bn3 fun _ _ _=>rfl)
  have L:L2.DefAt (L2.KOf e) mg "least_round" (Mc.top 23) ["words"]:=by dsimp only[L2.KOf];refine' Mc.cH e G ?a ?l ?c ?k ?b;(case a=>k_is);(case l=>k_is);(case c=>k_is);(case k=>k_is);(case b=>exact fun _ _ _ _ _ _=>Mc.bn1 fun _=>rfl)
  have M:L2.DefAtD (L2.KOf e) mg "comes_round" (Mc.top 24) ["machine","ahead","again","behind"] [.str ""]:=by
   dsimp only[L2.KOf]
   refine' Mc.aIT e G ?a ?l ?d ?c ?k ?b ?b2
   (case a=>k_is);(case l=>k_is);(case d=>k_is);(case c=>k_is);(case k=>k_is)
   (case b=>exact fun _ _ _ _ _ _ _ u us v=>match us,v with|[_,_,_,_],_=>⟨_,rfl,rfl⟩)
   (case b2=>exact fun _ _ _ _ _ _ _ u us v=>match us,v with|[_,_,_],_=>⟨_,rfl,rfl⟩)
  have y:L2.DefAt (L2.KOf e) mg "_law_cell" (Mc.top 26) ["_law_script","_law_k"]:=by dsimp only[L2.KOf];refine' Mc.cH e G ?a ?l ?c ?k ?b;(case a=>k_is);(case l=>k_is);(case c=>k_is);(case k=>k_is);(case b=>exact fun _ _ _ _ _ _=>Mc.bn2 fun _ _=>rfl)
  have j:L2.DefAt (L2.KOf e) mg "_law_strip" (Mc.top 27) ["_law_script","_law_at","_law_size","_law_signs"]:=by dsimp only[L2.KOf];refine' Mc.cH e G ?a ?l ?c ?k ?b;(case a=>k_is);(case l=>k_is);(case c=>k_is);(case k=>k_is);(case b=>exact fun _ _ _ _ _ _=>Mc.bn4 fun _ _ _ _=>rfl)
  have K:L2.DefAt (L2.KOf e) mg "_law_whole" (Mc.top 28) ["_law_found"]:=by dsimp only[L2.KOf];refine' Mc.cH e G ?a ?l ?c ?k ?b;(case a=>k_is);(case l=>k_is);(case c=>k_is);(case k=>k_is);(case b=>exact fun _ _ _ _ _ _=>Mc.bn1 fun _=>rfl)
  have f:L2.DefAt (L2.KOf e) mg "_law_sweeper" (Mc.top 29) ["_law_p","_law_q","_law_a","_law_b","_law_signs"]:=by dsimp only[L2.KOf];refine' Mc.cH e G ?a ?l ?c ?k ?b;(case a=>k_is);(case l=>k_is);(case c=>k_is);(case k=>k_is);(case b=>exact fun _ _ _ _ _ _=>Mc.bn5 fun _ _ _ _ _=>rfl)
  have E:L2.DefAt (L2.KOf e) mg "_law_up" (Mc.top 30) ["_law_end","_law_by"]:=by dsimp only[L2.KOf];refine' Mc.cH e G ?a ?l ?c ?k ?b;(case a=>k_is);(case l=>k_is);(case c=>k_is);(case k=>k_is);(case b=>exact fun _ _ _ _ _ _=>Mc.bn2 fun _ _=>rfl)
  have A:L2.DefAt (L2.KOf e) mg "_law_raised" (Mc.top 31) ["_law_machine","_law_by"]:=by dsimp only[L2.KOf];refine' Mc.cH e G ?a ?l ?c ?k ?b;(case a=>k_is);(case l=>k_is);(case c=>k_is);(case k=>k_is);(case b=>exact fun _ _ _ _ _ _=>Mc.bn2 fun _ _=>rfl)
  have I:L2.DefAt (L2.KOf e) mg "_law_joined" (Mc.top 32) ["_law_one","_law_two","_law_word"]:=by dsimp only[L2.KOf];refine' Mc.cH e G ?a ?l ?c ?k ?b;(case a=>k_is);(case l=>k_is);(case c=>k_is);(case k=>k_is);(case b=>exact fun _ _ _ _ _ _=>Mc.bn3 fun _ _ _=>rfl)
  have r:L2.DefAt (L2.KOf e) mg "_law_shared" (Mc.top 33) ["_law_one","_law_two"]:=by dsimp only[L2.KOf];refine' Mc.cH e G ?a ?l ?c ?k ?b;(case a=>k_is);(case l=>k_is);(case c=>k_is);(case k=>k_is);(case b=>exact fun _ _ _ _ _ _=>Mc.bn2 fun _ _=>rfl)
  have o:L2.DefAt (L2.KOf e) mg "_law_less" (Mc.top 34) ["_law_many","_law_signs"]:=by dsimp only[L2.KOf];refine' Mc.cH e G ?a ?l ?c ?k ?b;(case a=>k_is);(case l=>k_is);(case c=>k_is);(case k=>k_is);(case b=>exact fun _ _ _ _ _ _=>Mc.bn2 fun _ _=>rfl)
  have O:L2.DefAt (L2.KOf e) mg "_law_due" (Mc.top 35) ["_law_numbers","_law_least_many","_law_by","_law_rests"]:=by dsimp only[L2.KOf];refine' Mc.cH e G ?a ?l ?c ?k ?b;(case a=>k_is);(case l=>k_is);(case c=>k_is);(case k=>k_is);(case b=>exact fun _ _ _ _ _ _=>Mc.bn4 fun _ _ _ _=>rfl)
  have p:L2.DefAt (L2.KOf e) mg "_law_refused" (Mc.top 36) ["_law_machine","_law_strips"]:=by dsimp only[L2.KOf];refine' Mc.cH e G ?a ?l ?c ?k ?b;(case a=>k_is);(case l=>k_is);(case c=>k_is);(case k=>k_is);(case b=>exact fun _ _ _ _ _ _=>Mc.bn2 fun _ _=>rfl)
  have T:Mc.Txt w (L2.KOf e) mg:=by
   dsimp only[L2.KOf]
   refine' Mc.aSN e G ?z_bool ?z_enumerate ?z_int ?z_isinstance ?z_len ?z_list ?z_min ?z_range ?z_str ?z_tuple ?s_MOST_BEGINNINGS ?s_SIGNS
   (case z_bool=>k_is);(case z_enumerate=>k_is);(case z_int=>k_is);(case z_isinstance=>k_is);(case z_len=>k_is);(case z_list=>k_is);(case z_min=>k_is);(case z_range=>k_is);(case z_str=>k_is);(case z_tuple=>k_is);(case s_MOST_BEGINNINGS=>k_is);(case s_SIGNS=>k_is)
  have E_NoStrip:Mc.kT (L2.KOf e) mg:=by
   dsimp only[L2.KOf]
   refine' Mc.z4 e G ?m ?e1 ?e2 ?e3 ?e4 ?e5 ?e6 ?e7 ?e8 ?p1 ?i1 ?i2 ?i3 ?i4 ?i5
   (case m=>k_is)
   (case e1=>k_is)
   (case e2=>k_is);(case e3=>k_is);(case e4=>k_is);(case e5=>k_is);(case e6=>k_is);(case e7=>k_is);(case e8=>k_is)
   (case p1=>k_is);(case i1=>k_is);(case i2=>k_is);(case i3=>k_is);(case i4=>k_is);(case i5=>k_is)
  have Ep_TooMany:∃ W C,L2.ErrP (L2.KOf e) mg "TooMany" W C:=by
   dsimp only[L2.KOf]
   refine' Mc.aSP e G ?m ?e1 ?e2 ?e3 ?e4 ?e5 ?e6 ?e7 ?e8 ?n1 ?n2 ?w1 ?w2 ?w3
   (case m=>k_is)
   (case e1=>k_is)
   (case e2=>k_is);(case e3=>k_is);(case e4=>k_is);(case e5=>k_is);(case e6=>k_is);(case e7=>k_is);(case e8=>k_is)
   (case n2=>k_is);(case w1=>k_is);(case w3=>k_is)
   (case n1=>refine' L2.aDL ?l ?h;(case l=>k_is);(case h=>rfl))
   (case w2=>refine' L2.aDL ?l ?h;(case l=>k_is);(case h=>rfl))
  have N_TooMany_NoStrip:Fl.NoM (L2.KOf e) mg "TooMany" "NoStrip":=by
   dsimp only[L2.KOf]
   refine' Mc.aSO e G ?m ?m2 ?e1 ?e2 ?e3 ?e4 ?e5 ?e6 ?e7 ?e8 ?n
   (case m=>k_is);(case m2=>k_is);(case e1=>k_is)
   (case e2=>k_is);(case e3=>k_is);(case e4=>k_is);(case e5=>k_is);(case e6=>k_is);(case e7=>k_is);(case e8=>k_is)
   (case n=>decide)
  have I_TooMany_WayError:Fl.Is1 (L2.KOf e) mg "TooMany" "WayError" true:=by
   dsimp only[L2.KOf]
   refine' Mc.aSQ e G ?a ?m ?k
   (case a=>k_is);(case m=>k_is)
   (case k=>refine' Mc.aMW (by decide) ?a ?b ?c;(case a=>k_is);(case b=>k_is);(case c=>k_is))
  have R:∃ fd,L2.Fun (L2.KOf e) "law" "law" (Mc.top 37) X fd/\∀ (s:S9) (u:V9),BindsTo s fd ⟨[u],[]⟩ [("_law_script",u)]:=by
   dsimp only[L2.KOf]
   refine' Mc.aSR e G B ?a4 ?l4 ?c4 ?k4
   (case a4=>k_is);(case l4=>k_is);(case c4=>k_is);(case k4=>k_is)
  obtain ⟨fd,FL,Q⟩:=R
  exact ⟨fd,Q,fun base TH _ _ Z=>Mc.aPF T E_NoStrip Ep_TooMany N_TooMany_NoStrip I_TooMany_WayError U S P V H g J q z D (Fl.aVA t e Z (by decide)) N i L M y j K f E A I r o O p FL⟩
end
