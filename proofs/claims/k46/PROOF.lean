import PyProof.Rows.All
import Wide.All
import OpenK.AllK
import Wide.FinOn
import Lean
import PyProof.EqAt
import PyProof.EqKinds
import PyProof.TupleCall
import PyProof.ExcInit
import PyProof.InstStoreFacts
import PyProof.StrLawsFirst
import PyProof.StrLawsIn
import KE.KLam
import PyProof.ListMulRoad
import PyProof.Rows.ListMul
import PyProof.ZipIter
import PyProof.Draws
import PyProof.ListStr
import PyProof.DictWalks
import PyProof.DictTruth
import PyProof.ListRange
import PyProof.StrLaws
import PyProof.StrLawsIdx
import PyProof.P3In
import PyProof.AttrMissHeap
import PyProof.StrBlock2
import PyProof.Rows.Range3
import PyProof.Rows.StrClip
import PySem.Challenge.RW_striproam_k46_whole_long_strips
set_option linter.all false
set_option maxRecDepth 100000
set_option maxHeartbeats 4000000
set_option Elab.async false
set_option genSizeOf false
abbrev Dz:=PySem.PyData
abbrev V9:=PySem.Value
abbrev S9:=PySem.Shared
abbrev Az:=PySem.Addr
abbrev P9:=PySem.Program
abbrev W9:=PySem.World
abbrev Hz:=PySem.Heap
abbrev Ez:=PySem.Expr
abbrev U9:=PySem.Around
abbrev O6(α:Type):=Option α
def PySem.W.Fast.tw15471451735505539629:=()
def PySem.W.Fast.tw17923329103198322242:=()
def PySem.W.Fast.tw419876358273108518:=()
def PySem.W.Fast.tw13575913776170828110:=()
def PySem.W.Fast.tw10200478867564039911:=()
def PySem.W.Fast.tw13428509942881356656:=()
def PySem.W.Fast.tw7541987970713318056:=()
def PySem.W.Fast.tw2835976142336490734:=()
def PySem.W.Fast.tw15630012924715658161:=()
def PySem.W.Fast.tw10077311305203454562:=()
def AA:=@if_pos
def AB:=@List.getElem?_cons_succ
def AC:=@List.getElem?_cons_zero
def AD:=@PySem.wpAny_bind
def AE:=@if_neg
def AG:=@List.length_cons
def AH:=@List.length_map
def AI:=@List.map_cons
def AJ:=@List.set_cons_zero
def AK:=@List.length_nil
def AM:=@List.set_cons_succ
def AN:=@List.getElem?_eq_getElem
def AQ:=@PySem.Heap.get?_push_of_some
def AS:=@List.getElem?_map
def AT:=@decide_eq_true
def AU:=@List.cons_append
def AV:=@List.nil_append
def AW:=@decide_eq_false
def AX:=@List.getD_eq_getElem?_getD
def AY:=@List.mem_cons
def AZ:=@List.length_append
def A0:=@List.length_range
def A1:=@PySem.wpAny_pure
def A2:=@Nat.le_refl
def A3:=@List.getElem?_eq_some_iff
def A4:=@List.mem_singleton
def A5:=@List.map_nil
def A6:=@PySem.Heap.lt_size
def A7:=@Bool.false_eq_true
def A8:=@if_true
def A9:=@List.mem_cons_of_mem
def BA:=@List.mem_of_getElem?
def BB:=@PyProof.Rows.boot_tuple
def BC:=@List.mem_range
def BD:=@Bool.and_eq_true
def BE:=@PySem.Heap.get?_push_size
def BF:=@List.getElem?_append_left
def BG:=@List.map_append
def BH:=@List.not_mem_nil
def BI:=@List.mem_cons_self
def BJ:=@List.size_toArray
def BK:=@List.getElem?_range
def BL:=@List.map_map
def BM:=@Nat.lt_of_lt_of_le
def BN:=@List.map_congr_left
def BO:=@List.getElem?_set_ne
def BP:=@List.length_replicate
def BQ:=@if_false
def BR:=@PySem.boot_len
def BS:=@PySem.F.plainAttrs_list
def BU:=@Ne.symm
def BV:=@PyProof.Rows.boot_int
def BW:=@PySem.F.slot_list_append
def BX:=@PySem.F.type_list_append
def BY:=@Nat.le_trans
def BZ:=@List.mem_map
def B0:=@of_decide_eq_true
def B1:=@List.getElem?_append_right
def B2:=@Int.toNat_natCast
def B3:=@Nat.zero_le
def B4:=@List.mem_append
def B5:=@List.mem_append_right
def B6:=@List.length_singleton
def B7:=@PySem.wpAny_field
def B8:=@Nat.ne_of_lt
def B9:=@List.getElem?_set_self
def CA:=@Option.some.inj
def CB:=@PySem.W.kia_one
def CC:=@List.length_set
def CD:=@Option.bind_some
def CF:=@or_false
def CG:=@Array.length_toList
def CH:=@List.getElem?_eq_none
def CI:=@Nat.lt_irrefl
def CJ:=@Nat.mod_lt
def CK:=@PySem.W.mg_of
def CL:=@List.eq_of_mem_replicate
def CM:=@List.append_nil
def CN:=@List.nodup_cons
def CO:=@PyProof.Rows.callWith_type1
def CP:=@List.idxOf_lt_length_of_mem
def CQ:=@PySem.W.mg_none_of
def CS:=@List.length_drop
def CT:=@List.lookup_cons
def CU:=@List.replicate_succ
def CV:=@List.drop_eq_getElem_cons
def CW:=@Bool.false_ne_true
def CY:=@List.length_take
def CZ:=@decide_eq_true_iff
def C0:=@PySem.wpAny_mono
def C3:=@List.getElem?_replicate
def C4:=@PySem.wpAny_newObj_type
def C5:=@List.all_eq_true
def C6:=@PySem.Heap.size_push
def C7:=@PySem.Heap.get?_update_self
def C8:=@PySem.wpAny_seqItems
def C9:=@Nat.mul_comm
def DA:=@Nat.mul_le_mul_right
def DB:=@List.find?_cons
def DC:=@PySem.wpAny_truthy_bool
def DD:=@List.flatten_cons
def DE:=@PySem.wpAny_callSpecial?_slot
def DF:=@PySem.mem_of_lookup
def DG:=@List.nodup_nil
def DH:=@PySem.Heap.get?_update_other
def DI:=@List.take_of_length_le
def DJ:=@PySem.F.plainAttrs_str
def DK:=@List.range_succ_eq_map
def DL:=@PySem.wpAny_setField_rec
def DM:=@PySem.wpAny_passesOwn
def DN:=@List.range_succ
def DO:=@Array.getElem?_eq_some_iff
def DP:=@PySem.F.slot_tuple_iterator_next
def DQ:=@PySem.eqIsQuiet_byValue
def DR:=@decide_eq_decide
def DS:=@beq_eq_false_iff_ne
def DT:=@List.filterMap_cons
def DU:=@PySem.Heap.SameBut.update
def DV:=@PyProof.Rows.slot_tuple_getitem
def DW:=@PySem.wpAny_holding
def DX:=@PySem.Obj.data_mapFields
def DY:=@PySem.F.slot_str_index
def DZ:=@PySem.F.type_str_index
def D3:=@List.nodup_append
def D4:=@Nat.ne_of_gt
def D5:=@Array.getElem?_toList
def EA:=@Nat.sub_self
def EB:=@List.mem_append_left
def EC:=@PySem.wpAny_call_entry
def ED:=@beq_self_eq_true
def EE:=@Nat.mod_eq_of_lt
def EF:=@Option.bind_none
def EG:=@List.mem_map_of_mem
def EH:=@List.forIn_cons
def EI:=@List.cons.injEq
def EJ:=@PySem.wpAny_Call_Name_kw
def EK:=@PySem.F.args_tuple_add_2
def EL:=@List.Pairwise.imp_of_mem
def EM:=@List.getElem_range
def EN:=@beq_iff_eq
def EO:=@PySem.wpAny_setField
def EQ:=@PySem.F.entry_tuple_add
def ER:=@List.ext_getElem?
def ES:=@Option.isSome_map
def ET:=@List.append_assoc
def EU:=@PySem.F.slot_tuple_add
def EV:=@Nat.le_mul_of_pos_left
def EW:=@Bool.not_true
def EX:=@Nat.lt_succ_self
def EY:=@List.getElem_mem
def EZ:=@Nat.le_add_right
def E1:=@List.append_inj'
def E2:=@Option.join_some
def E3:=@PySem.Obj.isFreed_of_fields
def E4:=@PySem.wpAny_execs_nil
def E5:=@PySem.codeAny_mono
def E6:=@beq_false_of_ne
def E7:=@Bool.or_eq_true
def E8:=@PySem.wpAny_updateSeq_pair
def E9:=@PySem.F.slot_zip_next
def FA:=@Nat.add_zero
def FB:=@Nat.mod_add_mod
def FC:=@Nat.min_eq_left
def FD:=@PySem.W.plainGet_of
def FF:=@congrArg
def FG:=@PySem.F.args_tuple_iterator_next_1
def FH:=@Nat.add_mul
def FJ:=@decide_true
def FK:=@PySem.W.callWith_K
def FM:=@Int.emod_lt_of_pos
def FN:=@PySem.F.entry_tuple_iterator_next
def FO:=@of_decide_eq_false
def FP:=@Nat.add_sub_cancel
def FQ:=@PySem.Calls.Name_function_global
def FR:=@PySem.wpAny_attempt
def FS:=@PySem.F.excAttr_ValueError
def FT:=@PySem.wpAny_onRaise
def FU:=@PySem.W.kitx_list
def FV:=@Bool.eq_false_iff
def FW:=@PySem.StrLaws.subAt_one
def FX:=@List.pairwise_map
def FY:=@Nat.lt_trichotomy
def FZ:=@not_false_eq_true
def GA:=@PySem.call_meets
def GB:=@Classical.byContradiction
def GC:=@List.mem_or_eq_of_mem_set
def GD:=@PySem.concat_meets
def GE:=@PySem.noFill_tuple_add
def GF:=@Option.getD_none
def GG:=@Nat.lt_of_not_le
def GH:=@PySem.wpAny_comprehension_free
def GI:=@Nat.div_eq_of_lt
def GJ:=@List.drop_length
def GK:=@List.length_eq_zero_iff
def GL:=@PySem.F.slot_list_index
def GM:=@List.of_mem_zip
def GN:=@LawfulBEq.eq_of_beq
def GO:=@Nat.mul_add_div
def GP:=@Nat.mul_add_mod
def GQ:=@Int.emod_nonneg
def GR:=@List.length_zip
def GS:=@Nat.mod_add_div
def GT:=@PySem.wpAny_pyNext_range_end
def GU:=@PySem.wpAny_pyIter_rangeiter
def GV:=@PySem.sizeLine_eq
def GW:=@Nat.le_succ
def GX:=@PySem.W.cellsFrom_some
def GY:=@Int.le_refl
def GZ:=@PySem.W.methodCall_KW
def G0:=@not_or
def G1:=@Nat.mul_le_mul
def G2:=@PyProof.Rows.boot_min
def G3:=@List.mem_iff_getElem?
def G4:=@List.range_add
def G5:=@Bool.not_false
def G6:=@PySem.wpAny_call
def G7:=@PySem.wpAny_standAt
def G8:=@PySem.seq_tuple_add
def G9:=@Bool.true_and
def HA:=@Nat.le_of_lt
def HB:=@Nat.add_comm
def HC:=@Nat.zero_add
theorem Mc.bn1{α:Type}{P:List α->Prop}(h:∀ a,P [a]):∀ us:List α,us.length=1->P us
 | [a],_=>h a
theorem Mc.bn2{α:Type}{P:List α->Prop}(h:∀ a b,P [a,b]):∀ us:List α,us.length=2->P us
 | [a,b],_=>h a b
theorem Mc.bn3{α:Type}{P:List α->Prop}(h:∀ a b c,P [a,b,c]):∀ us:List α,us.length=3->P us
 | [a,b,c],_=>h a b c
theorem Mc.bn4{α:Type}{P:List α->Prop}(h:∀ a b c d,P [a,b,c,d]):∀ us:List α,us.length=4->P us
 | [a,b,c,d],_=>h a b c d
theorem Mc.bn5{α:Type}{P:List α->Prop}(h:∀ a b c d e,P [a,b,c,d,e]):∀ us:List α,us.length=5->P us
 | [a,b,c,d,e],_=>h a b c d e
open PySem.W (Frag)
open PySem
noncomputable section
namespace L2
open PySem.Spec PyProof.Rows
abbrev Key:=Sum Int Str
noncomputable def uX:Key->V9->Bool
 | .inl k,v=>Value.isInt k v
 | .inr x,v=>Value.isStrOf x v
noncomputable def aUO(w:W9):Key->Int
 | .inl k=>hashInt k
 | .inr x=>hashStr w x
theorem keyIs_shape:∀ {k:Key} {v:V9},uX k v=true->(∃ i t,k=Sum.inl i/\v=Value.int i t)\/(∃ x t,k=Sum.inr x/\v=Value.str x t)
 | .inl i,v,h=>by
  obtain ⟨t,e⟩:=Value.isInt_shape (k:=i) (v:=v) h
  exact .inl ⟨i,t,rfl,e⟩
 | .inr x,v,h=>by
  obtain ⟨t,e⟩:=Value.isStrOf_shape (x:=x) (v:=v) h
  exact .inr ⟨x,t,rfl,e⟩
theorem aJC(i:Int)(t:Tok):uX (.inl i) (.int i t)=true:=by simp[uX,Value.isInt]
theorem aJD(x:Str)(t:Tok):uX (.inr x) (.str x t)=true:=by simp[uX,Value.isStrOf]
theorem aQR(a b:Int):decide ((Sum.inl a:Key)=Sum.inl b)=(a == b):=by
 by_cases e:a=b
 .subst e;simp
 .have h:¬ (Sum.inl a:Key)=Sum.inl b:=fun q=>e (Sum.inl.inj q)
  rw[AW h]
  exact (DS.mpr e).symm
theorem aQS(a b:Str):decide ((Sum.inr a:Key)=Sum.inr b)=decide (a=b):=by
 by_cases e:a=b
 .subst e;simp
 .have h:¬ (Sum.inr a:Key)=Sum.inr b:=fun q=>e (Sum.inr.inj q)
  rw[AW h,AW e]
theorem aQT(a:Int)(b:Str):decide ((Sum.inl a:Key)=Sum.inr b)=false:=AW (fun q=>nomatch q)
theorem aQU(a:Str)(b:Int):decide ((Sum.inr a:Key)=Sum.inl b)=false:=AW (fun q=>nomatch q)
noncomputable def fO(prog:P9)(w:W9):PySem.KeyKind prog w Key where
 is:=uX
 hash:=aUO w
 inj:=fun v a b ha hb=>by
  rcases keyIs_shape ha with ⟨i,t,rfl,rfl⟩|⟨x,t,rfl,rfl⟩
  .rcases keyIs_shape hb with ⟨j,u,rfl,e⟩|⟨y,u,rfl,e⟩
   · injection e with e1 _; rw [e1]
   · exact nomatch e
  .rcases keyIs_shape hb with ⟨j,u,rfl,e⟩|⟨y,u,rfl,e⟩
   · exact nomatch e
   · injection e with e1 _; rw [e1]
 byValue:=fun k v h=>by
  rcases keyIs_shape h with ⟨i,t,rfl,rfl⟩|⟨x,t,rfl,rfl⟩<;>rfl
 pyHash:=fun hv h=>by
  rcases keyIs_shape hv with ⟨i,t,rfl,rfl⟩|⟨x,t,rfl,rfl⟩
  .exact wpAny_pyHash_int h
  .exact wpAny_pyHash_str h
 eqBool:=fun hu hv h=>by
  rcases keyIs_shape hu with ⟨i,t,rfl,rfl⟩|⟨x,t,rfl,rfl⟩
  .rcases keyIs_shape hv with ⟨j,u,rfl,rfl⟩|⟨y,u,rfl,rfl⟩
   · rw [aQR] at h; exact wpAny_eqBool_int h
   · rw [aQT] at h; exact SeqAt.EqAt.int_str i t y u _ _ _ _ h
  .rcases keyIs_shape hv with ⟨j,u,rfl,rfl⟩|⟨y,u,rfl,rfl⟩
   · rw [aQU] at h; exact SeqAt.EqAt.str_int x t j u _ _ _ _ h
   · rw [aQS] at h; exact wpAny_eqBool_str h
 «strs»:=fun k x t v h=>by
  rcases keyIs_shape h with ⟨i,u,rfl,e⟩|⟨y,u,rfl,e⟩
  .exact nomatch e
  .injection e with e1 _
   subst e1
   cases v<;>rfl
theorem aFO(prog:P9)(w:W9)(i:Int)(t:Tok):(fO prog w).is (.inl i) (.int i t)=true:=aJC i t
theorem aFP(prog:P9)(w:W9)(x:Str)(t:Tok):(fO prog w).is (.inr x) (.str x t)=true:=aJD x t
inductive V where
 | non|bl (b:Bool)|int (i:Int)|str (x:Str)|byt (b:Array UInt8)|flt (b:UInt64)|ref (a:Az)|ty (n:String)
 deriving DecidableEq
def cB:V->V9->Prop
 | .non,u=>u=Value.none
 | .bl b,u=>u=Value.bool b
 | .int i,u=>∃ t,u=Value.int i t
 | .str x,u=>∃ t,u=Value.str x t
 | .byt b,u=>∃ t,u=Value.bytes b t
 | .flt b,u=>∃ t,u=Value.float b t
 | .ref a,u=>u=Value.ref a
 | .ty n,u=>u=Value.type n
abbrev b5:List V->List V9->Prop:=Paired cB
theorem b5.length{xs:List V}{us:List V9}(r:b5 xs us):xs.length=us.length:=Paired.length r
theorem b5.get:∀ {xs:List V} {us:List V9} {i:Nat} {x:V},b5 xs us->xs[i]? = some x->∃ u,us[i]? = some u/\cB x u
 | _,_,_,_,.nil,e=>by simp at e
 | _,_,0,_,.cons r _,e=>by simp at e;subst e;exact ⟨_,rfl,r⟩
 | _,_,i+1,x,.cons _ t,e=>by
  obtain ⟨u,h1,h2⟩:=b5.get (i:=i) (x:=x) t (by simpa using e)
  exact ⟨u,by simpa using h1,h2⟩
theorem b5.set{x:V}{u:V9}(r:cB x u):∀ {xs:List V} {us:List V9} (i:Nat),b5 xs us->b5 (xs.set i x) (us.set i u)
 | _,_,_,.nil=>.nil
 | _,_,0,.cons _ t=>.cons r t
 | _,_,i+1,.cons q t=>.cons q (b5.set r i t)
theorem b5.append:∀ {xs ys:List V} {us ws:List V9},b5 xs us->b5 ys ws->b5 (xs++ys) (us++ws)
 | _,_,_,_,.nil,s=>s
 | _,_,_,_,.cons r t,s=>.cons r (b5.append t s)
theorem b5.take:∀ {xs:List V} {us:List V9} (n:Nat),b5 xs us->b5 (xs.take n) (us.take n)
 | _,_,0,_=>.nil
 | _,_,_+1,.nil=>.nil
 | _,_,n+1,.cons r t=>.cons r (b5.take n t)
theorem b5.drop:∀ {xs:List V} {us:List V9} (n:Nat),b5 xs us->b5 (xs.drop n) (us.drop n)
 | _,_,0,r=>r
 | _,_,_+1,.nil=>.nil
 | _,_,n+1,.cons _ t=>b5.drop n t
def mN:O6 V->O6 V9->Prop
 | some v,some u=>cB v u
 | none,none=>True
 | _,_=>False
def KV{κ:Type}:List (κ×V)->List (κ×V9)->Prop:=Paired fun (p:κ×V) (q:κ×V9)=>p.1=q.1/\cB p.2 q.2
noncomputable def kV:Key->V
 | .inl i=>.int i
 | .inr x=>.str x
inductive HO where
 | lst (xs:List V)
 | tup (xs:List V)
 | dK (a6:List (Key×V))|dT (a6:List (List Key×V))
 | set (S:Int->Bool) (n:Nat)
 | ins (C dx:Az) (fs:List (Str×V))
 | own (x:Az)
 | xd (fs:List (Str×V))
 | met (f x:Az)
 | rng (lo hi:Int)
 | frz (o:Obj) (u:HO)
 | tbl (qs:List (Pos×Str))
 | cod (q:Str)
 | ext (φ:Heap->Prop)
abbrev Hp:=Az->O6 HO
noncomputable def upd(H:Hp)(a:Az)(o:HO):Hp:=fun b=>if b=a then some o else H b
theorem bQ{H:Hp}{a:Az}{o:HO}:upd H a o a=some o:=by unfold upd;rw[AA rfl]
theorem bB{H:Hp}{a b:Az}{o:HO}(h:b≠a):upd H a o b=H b:=by unfold upd;rw[AE h]
theorem mO{H:Hp}{a:Az}{o u:HO}:upd (upd H a o) a u=upd H a u:=by
 funext b;unfold upd;split<;>rfl
theorem eM{H:Hp}{a b:Az}{o:HO}(h:H a=some o)(h':H b=none):a≠b:=by
 intro e;subst e;rw[h] at h';cases h'
def nO(h:Hz)(a:Az)(its:Array V9):Prop:=∃ o,h.get? a=some o/\(o.cls=.type "tuple"/\o.dict=none)/\∃ n,o.data=.seq its n
theorem nO.t{h:Hz}{a:Az}{b:Array V9}:nO h a b->IsTup h a b:=fun ⟨o,e,c,n,d⟩=>⟨o,e,c.1,n,d⟩
theorem nO.new(h:Hz)(a:Array V9):nO (h.push {cls:=.type "tuple",data:=.seq a}) h.objs.size a:=⟨_,BE h rfl,⟨rfl,rfl⟩,_,rfl⟩
section
variable(P:P9)(w:W9)
def eH(H:Hp)(h:Hz)(a:Az):HO->Prop
 | .lst xs=>xs.length<=sizeLine/\∃ (its:List V9) (n:Nat),b5 xs its/\h.get? a=some {cls:=.type "list",data:=.seq its.toArray n}
 | .tup xs=>xs.length<=sizeLine/\∃ its:List V9,b5 xs its/\nO h a its.toArray
 | .dK a6=>a6.length<=sizeLine/\(a == sysModules)=false/\∃ vs,KV a6 vs/\h.DictOf (fO P w) a vs
 | .dT a6=>a6.length<=sizeLine/\(a == sysModules)=false/\∃ xs:List (List Key×Az×V9),
  Paired (fun (p:List Key×V) (q:List Key×Az×V9)=>p.1=q.1/\H q.2.1=some (.tup (p.1.map kV))/\cB p.2 q.2.2) a6 xs /\
  ∃ o es ep,h.get? a=some o/\o.ExactDict/\o.data=.dict es ep/\es.toList=xs.map (entryOfKey (tupleKind (fO P w)))/\(xs.map (·.1)).Nodup
 | .set S n=>h.SetOf (intKind P w) a S n
 | .ins C dx fs=>H dx=some (.own a)/\fs.length<=1000/\dx≠a/\h.get? a=some (PySem.W.instObj C dx) /\
  ∃ mA,h.Ns1 dx mA/\(∀ f,mN (fs.lookup f) (mA f))/\PySem.Within mA (fs.map (·.1))
 | .own _=>∃ o,h.get? a=some o
 | .xd fs=>∃ mA,h.Ns1 a mA/\∀ f,mN (fs.lookup f) (mA f)
 | .rng lo hi=>∃ t u v,h.get? a=some {cls:=.type "range",data:=.fields #[.int lo t,.int hi u,.int 1 v]}
 | .frz o u=>h.get? a=some o/\eH H h a u
 | .tbl qs=>∃ ps:Array V9,h.get? a=some {cls:=.none,data:=.fields ps}/\TriplesOk ps.toList/\∀ p∈qs,codeAmong p.1 ps.toList=none\/∃ c,codeAmong p.1 ps.toList=some (.ref c)/\H c=some (.cod p.2)
 | .cod q=>h.CodeRec (.ref a) q
 | .met f x=>h.get? a=some (PySem.W.methodObj (.ref f) (.ref x))
 | .ext φ=>φ h/\(∃ o,h.get? a=some o)/\∀ h1 h2:Hz,φ h1->(∀ o,h1.get? a=some o->h2.get? a=some o)->φ h2
def HOk(H:Hp)(h:Hz):Prop:=∀ a o,H a=some o->eH P w H h a o
end
section
variable{P:P9}{w:W9}{H H':Hp}{h h':Hz}{a:Az}{o:HO}
theorem eH.lt(x:eH P w H h a o):a < h.objs.size:=by
 cases o with
 | lst xs=>obtain ⟨_,_,_,_,e⟩:=x;exact A6 e
 | tup xs=>obtain ⟨_,_,_,p⟩:=x;exact p.t.lt
 | dK a6=>obtain ⟨_,_,_,_,o,_,_,e,_⟩:=x;exact A6 e
 | dT a6=>obtain ⟨_,_,_,_,o,_,_,e,_⟩:=x;exact A6 e
 | set S n=>obtain ⟨o,_,_,_,e,_⟩:=x;exact A6 e
 | ins C dx fs=>obtain ⟨_,_,_,e,_⟩:=x;exact A6 e
 | own y=>obtain ⟨_,e⟩:=x;exact A6 e
 | xd fs=>obtain ⟨_,⟨_,_,_,e,_⟩,_⟩:=x;exact A6 e
 | rng lo hi=>obtain ⟨_,_,_,e⟩:=x;exact A6 e
 | frz ob u=>obtain ⟨e,_⟩:=x;exact A6 e
 | tbl qs=>obtain ⟨ps,e,_⟩:=x;exact A6 e
 | cod q=>obtain ⟨c,o,vs,t,e,b,_⟩:=x;cases e;exact A6 b
 | met f y=>exact A6 (show h.get? a=some _ from x)
 | ext φ=>obtain ⟨_,⟨_,e⟩,_⟩:=x;exact A6 e
theorem Paired.mapP{α β:Type}{F G:α->β->Prop}:∀ {l₁:List α} {l₂:List β},Paired F l₁ l₂->(∀ a b,F a b->G a b)->Paired G l₁ l₂
 | _,_,.nil,_=>.nil
 | _,_,.cons r t,f=>.cons (f _ _ r) (Paired.mapP t f)
theorem eH.stay(x:eH P w H h a o)(k:∀ b u,(b=a\/H b=some (.own a))->h.get? b=some u->h'.get? b=some u)
  (l:∀ b,H b=some (.own a)->H' b=some (.own a)) (s:∀ b q,H b=some (.cod q)->H' b=some (.cod q)) (m:∀ b xs,H b=some (.tup xs)->H' b=some (.tup xs)):eH P w H' h' a o:=by
 induction o with
 | lst xs=>obtain ⟨z,j,n,r,e⟩:=x;exact ⟨z,j,n,r,k _ _ (.inl rfl) e⟩
 | tup xs=>obtain ⟨z,j,r,g,e,c⟩:=x;exact ⟨z,j,r,g,k _ _ (.inl rfl) e,c⟩
 | dK a6=>obtain ⟨z,y,vs,r,g,es,i,e,c⟩:=x;exact ⟨z,y,vs,r,g,es,i,k _ _ (.inl rfl) e,c⟩
 | dT a6=>
  obtain ⟨z,y,xs,r,g,es,i,e,c⟩:=x
  exact ⟨z,y,xs,Paired.mapP r fun p q z=>⟨z.1,m _ _ z.2.1,z.2.2⟩,g,es,i,k _ _ (.inl rfl) e,c⟩
 | set S n=>obtain ⟨g,es,i,t,e,c⟩:=x;exact ⟨g,es,i,t,k _ _ (.inl rfl) e,c⟩
 | ins C dx fs=>
  obtain ⟨d,z,D,e,mA,⟨od,es,i,e2,c⟩,r⟩:=x
  exact ⟨l _ d,z,D,k _ _ (.inl rfl) e,mA,⟨od,es,i,k _ _ (.inr d) e2,c⟩,r⟩
 | own y=>obtain ⟨g,e⟩:=x;exact ⟨g,k _ _ (.inl rfl) e⟩
 | xd fs=>obtain ⟨mA,⟨od,es,i,e,c⟩,r⟩:=x;exact ⟨mA,⟨od,es,i,k _ _ (.inl rfl) e,c⟩,r⟩
 | rng lo hi=>obtain ⟨t,u,v,e⟩:=x;exact ⟨t,u,v,k _ _ (.inl rfl) e⟩
 | frz g u ih=>obtain ⟨e,q⟩:=x;exact ⟨k _ _ (.inl rfl) e,ih q⟩
 | tbl qs=>
  obtain ⟨ps,e,t,r⟩:=x
  refine ⟨ps,k _ _ (.inl rfl) e,t,fun p A=>?_⟩
  rcases r p A with z|⟨c,z,B⟩
  · exact .inl z
  · exact .inr ⟨c, z, s _ _ B⟩
 | cod q=>
  obtain ⟨c,o,vs,t,e,l,r⟩:=x
  cases e
  exact ⟨_,o,vs,t,rfl,k _ _ (.inl rfl) l,r⟩
 | met f y=>
  have e:h.get? a=some (PySem.W.methodObj (.ref f) (.ref y)):=x
  show h'.get? a=some (PySem.W.methodObj (.ref f) (.ref y))
  exact k a _ (.inl rfl) e
 | ext φ=>obtain ⟨p,⟨o,e⟩,st⟩:=x;exact ⟨st _ _ p fun o q=>k _ _ (.inl rfl) q,⟨o,k _ _ (.inl rfl) e⟩,st⟩
theorem HOk.lt(x:HOk P w H h)(e:H a=some o):a < h.objs.size:=(x a o e).lt
theorem HOk.fresh(x:HOk P w H h)(e:h.objs.size<=a):H a=none:=by
 cases q:H a with
 | none=>rfl
 | some u=>exact absurd (BM (x.lt q) e) (CI _)
theorem HOk.kept(x:HOk P w H h)(k:∀ b u,h.get? b=some u->h'.get? b=some u):HOk P w H h':=fun a o e=>
 (x a o e).stay (fun b u _ q=>k b u q) (fun _ q=>q) (fun _ _ q=>q) fun _ _ q=>q
theorem HOk.laid(x:HOk P w H h)(k:∀ b u,h.get? b=some u->h'.get? b=some u)(g:h.objs.size<=a)(new:eH P w (upd H a o) h' a o):HOk P w (upd H a o) h':=fun b u e=>by
 have d:=x.fresh g
 by_cases f:b=a
 .subst f;rw[bQ] at e;cases e;exact new
 .rw[bB f] at e
  exact (x b u e).stay (fun c v _ q=>k c v q) (fun c q=>by rw[bB (eM q d)];exact q) (fun c xs q=>by rw[bB (eM q d)];exact q) fun c xs q=>by rw[bB (eM q d)];exact q
end
def Rd(H:Hp)(a:Az)(u:HO):Prop:=H a=some u\/∃ o,H a=some (.frz o u)
theorem Rd.ok{P:P9}{w:W9}{H:Hp}{h:Hz}{a:Az}{u:HO}(r:Rd H a u)(x:HOk P w H h):eH P w H h a u:=by
 rcases r with r|⟨o,r⟩
 .exact x a u r
 .obtain ⟨_,q⟩:=x a _ r
  exact q
def Mut:O6 HO->Prop
 | some (.lst _)=>True
 | some (.dK _)=>True
 | some (.dT _)=>True
 | some (.set _ _)=>True
 | some (.ins _ _ _)=>True
 | some (.ext _)=>True
 | _=>False
section
variable{P:P9}{w:W9}{H:Hp}{h h':Hz}{x e:Az}{o':HO}
theorem HOk.write(ok:HOk P w H h)(f:Mut (H x))(o:e=x\/H e=some (.own x))(k:∀ b u,b≠e->h.get? b=some u->h'.get? b=some u)(m:∃ u,h'.get? e=some u)
  (new:eH P w (upd H x o') h' x o'):HOk P w (upd H x o') h':=fun b u q=>by
 have d:∀ c y,H c=some (.own y)->c≠x:=fun c y r z=>by subst z;rw[r] at f;exact f
 have i:∀ c xs,H c=some (.tup xs)->c≠x:=fun c xs r z=>by subst z;rw[r] at f;exact f
 have g:∀ c xs,H c=some (.cod xs)->c≠x:=fun c xs r z=>by subst z;rw[r] at f;exact f
 by_cases j:b=x
 .subst j;rw[bQ] at q;cases q;exact new
 .rw[bB j] at q
  by_cases a:b=e
  .have n:H b=some (.own x):=by
    rcases o with z|z
    · exact absurd (a.trans z) j
    · rw [a]; exact z
   rw[q] at n;cases n
   obtain ⟨v,p⟩:=m
   exact ⟨v,by rw[a];exact p⟩
  .refine (ok b u q).stay (fun c v l r=>k c v ?_ r) (fun c r=>by rw[bB (d c b r)];exact r) (fun c xs r=>by rw[bB (g c xs r)];exact r) fun c xs r=>by rw[bB (i c xs r)];exact r
   rcases l with rfl|l
   .exact a
   .rintro rfl
    rcases o with z|z
    · exact d c b l z
    · rw [l] at z; cases z; exact j rfl
end
structure Un(fs ex:List Az)(H H':Hp)(h h':Heap):Prop where
 keep:∀ b o,h.get? b=some o->H b=none->b∉fs->b∉ex->h'.get? b=some o
 slot:∀ b o,h.get? b=some o->H b=none->b∈fs->b∉ex->∃ sl,h'.get? b=some {o with slots:=sl}
 free:∀ b o,h.get? b=some o->H b=none->b∉ex->H' b=none
 there:∀ b o,h.get? b=some o->b∉ex->∃ o',h'.get? b=some o'
 tups:∀ b xs,H b=some (.tup xs)->H' b=some (.tup xs)
 frzs:∀ b o u,H b=some (.frz o u)->H' b=some (.frz o u)
 tbls:∀ b ps,H b=some (.tbl ps)->H' b=some (.tbl ps)
section
variable{fs fs' ex ex':List Az}{H H1 H2:Hp}{h h1 h2 h':Hz}{a x e:Az}{o:HO}
theorem Un.any(u:Un fs ex H H1 h h1){b:Az}{a:Obj}(q:h.get? b=some a)(n:H b=none)(d:b∉ex):∃ sl,h1.get? b=some {a with slots:=sl}:=by
 by_cases c:b∈fs
 · exact u.slot b a q n c d
 · exact ⟨a.slots, u.keep b a q n c d⟩
theorem Un.trans(a:Un fs ex H H1 h h1)(b:Un fs ex H1 H2 h1 h2):Un fs ex H H2 h h2 where
 keep:=fun c d q n f e=>b.keep c d (a.keep c d q n f e) (a.free c d q n e) f e
 slot:=fun c d q n f e=>by
  obtain ⟨i,e1⟩:=a.slot c d q n f e
  obtain ⟨g,e2⟩:=b.slot c _ e1 (a.free c d q n e) f e
  exact ⟨g,e2⟩
 free:=fun c d q n e=>by
  obtain ⟨o',e1⟩:=a.there c d q e
  exact b.free c o' e1 (a.free c d q n e) e
 there:=fun c d q e=>by
  obtain ⟨o',e1⟩:=a.there c d q e
  exact b.there c o' e1 e
 tups:=fun c xs q=>b.tups c xs (a.tups c xs q)
 frzs:=fun c d xs q=>b.frzs c d xs (a.frzs c d xs q)
 tbls:=fun c ps q=>b.tbls c ps (a.tbls c ps q)
theorem Un.kept(k:∀ b u,h.get? b=some u->h'.get? b=some u):Un fs ex H H h h':=
 ⟨fun b a q _ _ _=>k b a q,fun b a q _ _ _=>⟨a.slots,k b a q⟩,fun _ _ _ n _=>n,fun b a q _=>⟨a,k b a q⟩,fun _ _ q=>q,fun _ _ _ q=>q,fun _ _ q=>q⟩
theorem Un.refl:Un fs ex H H h h:=Un.kept fun _ _ q=>q
theorem Un.laid(k:∀ b u,h.get? b=some u->h'.get? b=some u)(d:h.objs.size<=a)(c:H a=none):Un fs ex H (upd H a o) h h' where
 keep:=fun b u q _ _ _=>k b u q
 slot:=fun b u q _ _ _=>⟨u.slots,k b u q⟩
 free:=fun b u q n _=>by rw[bB (B8 (BM (A6 q) d))];exact n
 there:=fun b u q _=>⟨u,k b u q⟩
 tups:=fun b xs q=>by rw[bB (eM q c)];exact q
 frzs:=fun b u xs q=>by rw[bB (eM q c)];exact q
 tbls:=fun b ps q=>by rw[bB (eM q c)];exact q
theorem Un.write(c:Mut (H x))(j:e=x\/H e=some (.own x))(k:∀ b u,b≠e->h.get? b=some u->h'.get? b=some u)(d:∃ u,h'.get? e=some u):Un fs ex H (upd H x o) h h':=by
 have i:∀ b,H b=none->b≠x:=fun b n z=>by subst z;rw[n] at c;exact c
 have g:∀ b,H b=none->b≠e:=fun b n z=>by
  subst z
  rcases j with r|r
  · exact i b n r
  · rw [n] at r; cases r
 have f:∀ b u,H b=some u->¬ Mut (some u)->b≠x:=fun b u q nm z=>by subst z;rw[q] at c;exact nm c
 refine ⟨fun b u q n _ _=>k b u (g b n) q,fun b u q n _ _=>⟨u.slots,k b u (g b n) q⟩,fun b u q n _=>by rw[bB (i b n)];exact n,fun b u q _=>?_,
  fun b xs q=>by rw[bB (f b _ q fun z=>z)];exact q,fun b u xs q=>by rw[bB (f b _ q fun z=>z)];exact q,fun b ps q=>by rw[bB (f b _ q fun z=>z)];exact q⟩
 by_cases a:b=e
 .subst a;exact d
 .exact ⟨u,k b u a q⟩
end
noncomputable def trk(h:Hz)(H:Hp):List Az:=(List.range h.objs.size).filter fun a=>(H a).isSome
def rE(h:Hz)(H:Hp):Hz:=PySem.W.hideAll h (trk h H)
theorem aJE(h:Hz)(H:Hp):(rE h H).objs.size=h.objs.size:=PySem.W.hideAll_size _ _
theorem aLQ{h:Hz}{H:Hp}{b:Az}{o:Obj}(e:h.get? b=some o)(n:H b=none):(rE h H).get? b=some o:=
 PySem.W.hideAll_get _ e fun a=>by
  have q:(H b).isSome=true:=(List.mem_filter.mp a).2
  rw[n] at q;simp at q
theorem aON{h:Hz}{H:Hp}{b:Az}{o:Obj}(e:(rE h H).get? b=some o):h.get? b=some o/\H b=none:=by
 have a:h.get? b=some o:=PySem.W.of_hideAll (trk h H) e
 refine ⟨a,?_⟩
 cases q:H b with
 | none=>rfl
 | some x=>
  have c:b∈trk h H:=List.mem_filter.mpr ⟨BC.mpr (A6 a),by simp[q]⟩
  have z:(rE h H).get? b=none:=PySem.W.hideAll_none (trk h H) c
  rw[z] at e;cases e
structure Mod(K:Frag)(mg:Str->Option V9)(base:Heap):Prop where
 kin:K.In base
 glob:base.Ns mainGlobals mg
 blt:∃ mb,base.Ns builtinsNs mb/\∀ x:Str,x≠"__name__"->mb x=bootBuiltins x
 nolimit:base.NoLimit
structure Cx where
 prog:Program
 w:World
 K:Frag
 mg:Str->Option V9
 base:Heap
 A:Around
 N:List Str
 s₀:S9
 H₀:Hp
 env:Env
 outer:List Env
 stack:List Env
 ex:List Az
 fn:Str->Bool
 calm:Bool
 pn:List (Az×Obj)
 xe:V9->S9->Prop
noncomputable def frs(l:List Env):List Az:=l.filterMap (·.frame)
abbrev Cx.fs(X:Cx):List Az:=frs X.outer
def Vis(sc:Scope)(x:Str):Prop:=sc.names.lookup x=some .local\/sc.names.lookup x=some .cell\/sc.names.lookup x=some .free
def Loc(sc:Scope)(x:Str):Prop:=sc.names.lookup x=some .local\/sc.names.lookup x=some .cell
def aUP(env:Env)(h:Hz)(m:Str->O6 V9)(x:Str)(u:V9):Prop:=
 (env.kindOf x=some .local/\m x=some u)\/((env.kindOf x=some .cell\/env.kindOf x=some .free)/\∃ c,env.cells.lookup x=some c/\h.IsCell c (some u))
structure Cx.Ok(X:Cx):Prop where
 mod:Mod X.K X.mg X.base
 kind:X.env.scope.kind=.function
 glob:X.env.globals=mainGlobals
 blt:X.env.builtins=builtinsNs
 above:X.s₀.heap.objs.size<=X.env.locals
 inj:∀ x y c,X.env.cells.lookup x=some c->X.env.cells.lookup y=some c->x=y
 has:∀ x,(X.env.kindOf x=some .cell\/X.env.kindOf x=some .free)->∃ c,X.env.cells.lookup x=some c
 cab:∀ x c,X.fn x=true->X.env.cells.lookup x=some c->X.s₀.heap.objs.size<=c
 hd:X.calm=true->X.A.handled=none
 frames:X.A.frames=some X.stack
 stk:X.stack=X.outer\/(X.stack=X.env::X.outer/\X.env.frame=some X.env.locals)
 exf:∀ b∈X.ex,b≠X.env.locals/\∀ x c,X.env.cells.lookup x=some c->c≠b
 bs:∀ b o,X.base.get? b=some o->X.s₀.heap.get? b=some o/\X.H₀ b=none
 bsz:X.base.objs.size<=X.s₀.heap.objs.size
 noex:∀ b o,X.base.get? b=some o->b∉X.ex
 exfs:∀ b∈X.ex,b∉X.fs
 funs:X.s₀.heap.FunFrames X.base X.outer
 frf:∀ b∈X.fs,X.H₀ b=none
structure Inv(X:Cx)(a5:List (Az×Obj))(σ:List (Option V))(H:Hp)(s:S9):Prop where
 ok:X.Ok
 os:s.os=X.s₀.os
 bare:AllBare s.gens
 base:Un X.fs X.ex X.H₀ H X.s₀.heap s.heap
 loc:∃ m,s.heap.Ns X.env.locals m/\∀ (i:Nat) (x:Str) (v:V),X.N[i]? = some x->σ[i]? = some (some v)->Vis X.env.scope x->∃ u,cB v u/\aUP X.env s.heap m x u
 cell:∀ x c,X.env.cells.lookup x=some c->∃ v,s.heap.IsCell c v
 free:H X.env.locals=none
 freeC:∀ x c,X.env.cells.lookup x=some c->H c=none
 pin:∀ p∈X.pn++a5,s.heap.get? p.1=some p.2/\H p.1=none/\p.1≠X.env.locals/\p.1∉X.fs/\∀ v,p.2.data≠.cell v
 hok:HOk X.prog X.w H s.heap
 len:σ.length=X.N.length
section
variable{X:Cx}{a5:List (Az×Obj)}{σ:List (O6 V)}{H H':Hp}{s:S9}{h':Hz}
theorem Cx.Ok.nofr(ok:X.Ok){b:Az}{o:Obj}(e:X.base.get? b=some o):b∉X.fs:=fun a=>by
 have:=(ok.funs.mem a).1
 rw[e] at this;cases this
theorem Inv.bs(I:Inv X a5 σ H s):∀ b o,X.base.get? b=some o->s.heap.get? b=some o/\H b=none:=fun b o e=>
 ⟨I.base.keep b o (I.ok.bs b o e).1 (I.ok.bs b o e).2 (I.ok.nofr e) (I.ok.noex b o e),I.base.free b o (I.ok.bs b o e).1 (I.ok.bs b o e).2 (I.ok.noex b o e)⟩
theorem Inv.bk(I:Inv X a5 σ H s):∀ b o,X.base.get? b=some o->s.heap.get? b=some o:=fun b o e=>(I.bs b o e).1
theorem Inv.mod(I:Inv X a5 σ H s):Mod X.K X.mg X.base:=I.ok.mod
theorem Inv.kIn(I:Inv X a5 σ H s):X.K.In s.heap:=I.ok.mod.kin.keeps I.bk
theorem Inv.lt(I:Inv X a5 σ H s):X.env.locals < s.heap.objs.size:=let ⟨_,hn,_⟩:=I.loc;hn.lt
theorem Inv.sz(I:Inv X a5 σ H s):X.s₀.heap.objs.size<=s.heap.objs.size:=BY I.ok.above (HA I.lt)
theorem Inv.nofs(I:Inv X a5 σ H s){a:Az}(h:s.heap.objs.size<=a):a∉X.fs:=fun b=>by
 obtain ⟨_,o,c,_⟩:=I.ok.funs.mem b
 exact absurd (BM (A6 c) (BY I.sz h)) (CI _)
theorem Inv.cne(I:Inv X a5 σ H s):∀ x c,X.env.cells.lookup x=some c->c≠X.env.locals:=fun x c e z=>by
 obtain ⟨v,o,d,f⟩:=I.cell x c e
 obtain ⟨m,⟨o',es,g,a,b,_⟩,_⟩:=I.loc
 rw[z,a] at d;cases d;rw[b] at f;cases f
theorem Inv.funs(I:Inv X a5 σ H s):s.heap.FunFrames X.base X.outer:=by
 have all:∀ (l:List Env),(∀ b∈frs l,b∈X.fs)->X.s₀.heap.FunFrames X.base l->s.heap.FunFrames X.base l:=by
  intro l
  induction l with
  | nil=>intro _ _;trivial
  | cons env r ih=>
   intro f i
   obtain ⟨m,⟨L,o,c,h,g,j⟩,k⟩:=i
   have d:L∈X.fs:=f L (by unfold frs;rw[DT,c];exact BI)
   obtain ⟨n,e⟩:=I.base.slot L o g (I.ok.frf L d) d fun z=>I.ok.exfs L z d
   exact ⟨m,⟨L,_,c,h,e,j⟩,ih (fun b a=>f b (by unfold frs;rw[DT,c];exact A9 _ a)) k⟩
 exact all X.outer (fun _ a=>a) I.ok.funs
theorem Inv.stack(I:Inv X a5 σ H s):s.heap.FunFrames X.base X.stack:=by
 rcases I.ok.stk with e|⟨e,a⟩
 .rw[e];exact I.funs
 .rw[e]
  obtain ⟨m,b,_⟩:=I.loc
  refine .cons (by rw[I.ok.kind];decide) a b ?_ I.funs
  exact Heap.get?_none_of_le (BY I.ok.bsz I.ok.above)
theorem Inv.stkSub(I:Inv X a5 σ H s):∀ b∈frs X.stack,b∈X.env.locals::X.fs:=fun b a=>by
 rcases I.ok.stk with e|⟨e,c⟩
 .rw[e] at a;exact A9 _ a
 .rw[e] at a
  unfold frs at a
  rw[DT,c] at a
  exact a
theorem Inv.stkFree(I:Inv X a5 σ H s):∀ b∈frs X.stack,H b=none:=fun b a=>by
 rcases AY.mp (I.stkSub b a) with e|a
 .rw[e];exact I.free
 .obtain ⟨_,o,c,_⟩:=I.ok.funs.mem a
  exact I.base.free b o c (I.ok.frf b a) fun z=>I.ok.exfs b z a
theorem Inv.step{g':Array GenState}{t':Nat}{d':Drawn}{ch:List Az}(I:Inv X a5 σ H s)
  (h:∀ b∈ch,(b∈X.ex\/X.s₀.heap.objs.size<=b)/\b≠X.env.locals/\(∀ x c,X.env.cells.lookup x=some c->c≠b)/\∀ p∈X.pn++a5,p.1≠b)
  (keep:∀ b o,b≠X.env.locals->b∉X.fs->b∉ch->s.heap.get? b=some o->H b=none->h'.get? b=some o)
  (slot:∀ b o,b≠X.env.locals->b∈X.fs->b∉ch->s.heap.get? b=some o->H b=none->∃ sl,h'.get? b=some {o with slots:=sl}) (free:∀ b o,b∉ch->s.heap.get? b=some o->H b=none->H' b=none)
  (there:∀ b o,b∉ch->s.heap.get? b=some o->∃ o',h'.get? b=some o')
  (tups:∀ b xs,H b=some (.tup xs)->H' b=some (.tup xs)) (frzs:∀ b o u,H b=some (.frz o u)->H' b=some (.frz o u)) (tbls:∀ b ps,H b=some (.tbl ps)->H' b=some (.tbl ps))
  (ns:∀ m,s.heap.Ns X.env.locals m->h'.Ns X.env.locals m) (hok:HOk X.prog X.w H' h') (hg:AllBare g') :
  Inv X a5 σ H' {s with heap:=h',gens:=g',drawn:=d',toks:=t'}:=by
 have A:∀ b o,X.s₀.heap.get? b=some o->b≠X.env.locals:=fun b o e=>B8 (BM (A6 e) I.ok.above)
 have j:∀ b o,X.s₀.heap.get? b=some o->b∉X.ex->b∉ch:=fun b o e a t=>by
  rcases (h b t).1 with z|z
  .exact a z
  .exact absurd (BM (A6 e) z) (CI _)
 have g:∀ x c,X.env.cells.lookup x=some c->∀ v,s.heap.IsCell c v->h'.IsCell c v:=fun x c e v B=>by
  obtain ⟨o,y,C⟩:=B
  have f:c∉ch:=fun z=>(h c z).2.2.1 x c e rfl
  by_cases G:c∈X.fs
  .obtain ⟨sl,q⟩:=slot c o (I.cne x c e) G f y (I.freeC x c e)
   exact ⟨_,q,C⟩
  .exact ⟨o,keep c o (I.cne x c e) G f y (I.freeC x c e),C⟩
 refine ⟨I.ok,I.os,hg,⟨fun b o e n t a=>?_,fun b o e n t a=>?_,fun b o e n a=>?_,fun b o e a=>?_,fun b xs e=>tups b xs (I.base.tups b xs e),fun b o xs e=>frzs b o xs (I.base.frzs b o xs e),fun b ps e=>?_⟩,?_,fun x c e=>?_,?_,fun x c e=>?_,fun p F=>?_,hok,I.len⟩
 .exact keep b o (A b o e) t (j b o e a) (I.base.keep b o e n t a) (I.base.free b o e n a)
 .obtain ⟨sl,e1⟩:=I.base.slot b o e n t a
  obtain ⟨D,e2⟩:=slot b _ (A b o e) t (j b o e a) e1 (I.base.free b o e n a)
  exact ⟨D,e2⟩
 .obtain ⟨o',e1⟩:=I.base.there b o e a
  exact free b o' (j b o e a) e1 (I.base.free b o e n a)
 .obtain ⟨o',e1⟩:=I.base.there b o e a
  exact there b o' (j b o e a) e1
 .exact tbls b ps (I.base.tbls b ps e)
 .obtain ⟨m,K,L⟩:=I.loc
  refine ⟨m,ns m K,fun i x v e1 e2 M=>?_⟩
  obtain ⟨u,r,l⟩:=L i x v e1 e2 M
  refine ⟨u,r,?_⟩
  rcases l with l|⟨k,c,e,z⟩
  .exact .inl l
  .exact .inr ⟨k,c,e,g x c e _ z⟩
 .obtain ⟨v,z⟩:=I.cell x c e
  exact ⟨v,g x c e v z⟩
 .obtain ⟨m,⟨o,_,_,y,_⟩,_⟩:=I.loc
  exact free _ o (fun z=>(h _ z).2.1 rfl) y I.free
 .obtain ⟨v,o,y,C⟩:=I.cell x c e
  exact free c o (fun z=>(h c z).2.2.1 x c e rfl) y (I.freeC x c e)
 .obtain ⟨e,n,J,E,d⟩:=I.pin p F
  have f:p.1∉ch:=fun z=>(h p.1 z).2.2.2 p F rfl
  exact ⟨keep p.1 p.2 J E f e n,free p.1 p.2 f e n,J,E,d⟩
theorem Inv.un{t':Nat}(I:Inv X a5 σ H s)(u:Un X.fs [] H H' s.heap h')(d:HOk X.prog X.w H' h'):Inv X a5 σ H' {s with heap:=h',toks:=t'}:=by
 obtain ⟨m,⟨o,es,q,h,r⟩,_⟩:=id I.loc
 obtain ⟨l,j⟩:=u.any h I.free (by simp)
 exact I.step (g':=s.gens) (d':=s.drawn) (ch:=[]) (fun _ z=>nomatch z) (fun b o _ c _ e n=>u.keep b o e n c (by simp)) (fun b o _ c _ e n=>u.slot b o e n c (by simp)) (fun b o _ e n=>u.free b o e n (by simp)) (fun b o _ e=>u.there b o e (by simp)) u.tups u.frzs u.tbls (fun p k=>by
  obtain ⟨o',f,g,a,i⟩:=k
  rw[h] at a;cases a
  exact ⟨_,f,g,j,i⟩) d I.bare
theorem Inv.call{g':Array GenState}{t':Nat}{d':Drawn}{ch:List Az}(I:Inv X a5 σ H s)(u:Un (frs X.stack) ch H H' s.heap h')(g:HOk X.prog X.w H' h')(v:AllBare g')
  (f:∀ b∈ch,(b∈X.ex\/X.s₀.heap.objs.size<=b)/\b≠X.env.locals/\(∀ x c,X.env.cells.lookup x=some c->c≠b)/\∀ p∈X.pn++a5,p.1≠b) :
  Inv X a5 σ H' {s with heap:=h',gens:=g',drawn:=d',toks:=t'}:=by
 obtain ⟨m,⟨o,es,B,k,r⟩,_⟩:=id I.loc
 obtain ⟨y,h⟩:=u.any k I.free fun z=>(f _ z).2.1 rfl
 exact I.step (ch:=ch) f (fun b o h l a e n=>u.keep b o e n (fun z=>(AY.mp (I.stkSub b z)).elim h l) a) (fun b o _ _ a e n=>u.any e n a) (fun b o a e n=>u.free b o e n a) (fun b o a e=>u.there b o e a) u.tups u.frzs u.tbls (fun A t=>by
  obtain ⟨o',i,j,d,q⟩:=t
  rw[k] at d;cases d
  exact ⟨_,i,j,h,q⟩) g v
theorem Inv.turned{t':Nat}{it:Az}(I:Inv X a5 σ H s)(k:∀ b o,b≠it->s.heap.get? b=some o->h'.get? b=some o)(j:H it=none)(f:it≠X.env.locals)
  (h1:it∈X.ex\/X.s₀.heap.objs.size<=it) (h2:∀ x c,X.env.cells.lookup x=some c->c≠it) (l:∀ p∈X.pn++a5,p.1≠it):Inv X a5 σ H {s with heap:=h',toks:=t'}:=by
 have d:∀ b u,H b=some u->b≠it:=fun b u e z=>by rw[z,j] at e;cases e
 refine I.step (g':=s.gens) (d':=s.drawn) (ch:=[it]) (fun b g=>?_) (fun b o _ _ a e _=>k b o (fun z=>a (by simp[z])) e) (fun b o _ _ a e _=>⟨o.slots,k b o (fun z=>a (by simp[z])) e⟩) (fun _ _ _ _ n=>n)
  (fun b o a e=>⟨o,k b o (fun z=>a (by simp[z])) e⟩) (fun _ _ e=>e) (fun _ _ _ e=>e) (fun _ _ e=>e) (fun m h=>?_) (fun b u e=>?_) I.bare
 .have e:b=it:=by simpa using g
  subst e
  exact ⟨h1,f,h2,l⟩
 .obtain ⟨o,es,t,i,r⟩:=h
  exact ⟨o,es,t,k _ o (BU f) i,r⟩
 .refine (I.hok b u e).stay (fun c v a q=>k c v ?_ q) (fun _ q=>q) (fun _ _ q=>q) fun _ _ q=>q
  rcases a with z|z
  · rw [z]; exact d b u e
  · exact d c _ z
theorem Inv.tok(I:Inv X a5 σ H s)(t:Nat):Inv X a5 σ H {s with toks:=t}:=I.un (h':=s.heap) (t':=t) Un.refl I.hok
theorem Inv.kept{t':Nat}(I:Inv X a5 σ H s)(k:∀ b u,s.heap.get? b=some u->h'.get? b=some u):Inv X a5 σ H {s with heap:=h',toks:=t'}:=I.un (Un.kept k) (I.hok.kept k)
theorem Inv.laid{a:Az}{o:HO}{t':Nat}(I:Inv X a5 σ H s)(k:∀ b u,s.heap.get? b=some u->h'.get? b=some u)(c:s.heap.objs.size<=a)(new:eH X.prog X.w (upd H a o) h' a o) :
 Inv X a5 σ (upd H a o) {s with heap:=h',toks:=t'}:=I.un (Un.laid k c (I.hok.fresh c)) (I.hok.laid k c new)
theorem Inv.write{x e:Az}{o:HO}{t':Nat}(I:Inv X a5 σ H s)(d:Mut (H x))(c:e=x\/H e=some (.own x))(k:∀ b u,b≠e->s.heap.get? b=some u->h'.get? b=some u)(a:∃ u,h'.get? e=some u)
 (new:eH X.prog X.w (upd H x o) h' x o):Inv X a5 σ (upd H x o) {s with heap:=h',toks:=t'}:=I.un (Un.write d c k a) (I.hok.write d c k a new)
theorem Inv.pins_of{pins':List (Az×Obj)}(I:Inv X a5 σ H s)(h:∀ p∈pins',s.heap.get? p.1=some p.2/\H p.1=none/\p.1≠X.env.locals/\p.1∉X.fs/\∀ v,p.2.data≠.cell v):Inv X pins' σ H s:=
 ⟨I.ok,I.os,I.bare,I.base,I.loc,I.cell,I.free,I.freeC,fun p a=>(B4.mp a).elim (fun z=>I.pin p (EB _ z)) (h p),I.hok,I.len⟩
theorem aC9{N:List Str}(c:N.Nodup){i j:Nat}{x:Str}(a:N[i]? = some x)(b:N[j]? = some x):i=j:=by
 obtain ⟨h1,e1⟩:=A3.mp a
 obtain ⟨h2,e2⟩:=A3.mp b
 exact (List.getElem_inj c).mp (e1.trans e2.symm)
theorem aA8{M:Model}{A:U9}{E:V9->S9->Prop}{i:Nat}{x:Str}{v:V}{u:V9}{Q:Unit->S9->Prop}(I:Inv X a5 σ H s)(hN:X.N.Nodup)(hi:X.N[i]? = some x)(t:Loc X.env.scope x)(r:cB v u)
  (h:∀ s',Inv X a5 (σ.set i (some v)) H s'->(∃ a,Heap.SameBut a s.heap s'.heap/\(a=X.env.locals\/X.env.cells.lookup x=some a))->Q () s') (hf:X.fn x=true\/X.env.scope.names.lookup x=some .local):wpAny M A (storeName X.env x u) Q E s:=by
 obtain ⟨m,hn,hl⟩:=id I.loc
 have O:(X.env.scope.kind == .class || (X.env.scope.kind == .module && X.env.locals != X.env.globals))=false:=by rw[I.ok.kind];rfl
 have C:i < σ.length:=by rw[I.len];exact (A3.mp hi).1
 have cne:=I.cne
 have g:∀ {a:Az} {h':Hz},(∃ o,s.heap.get? a=some o/\H a=none)->Heap.SameBut a s.heap h'->HOk X.prog X.w H h':=fun {a h'} ha f b ob e=>by
  obtain ⟨_,_,B⟩:=ha
  refine (I.hok b ob e).stay (fun c T l q=>(f.2 c ?_).trans q) (fun _ q=>q) (fun _ _ q=>q) fun _ _ q=>q
  rintro rfl
  rcases l with rfl|l
  .rw[B] at e;cases e
  .rw[B] at l;cases l
 rcases t with D|D
 .refine wpAny_storeName_local D hn (fun h' ac f=>?_) O
  obtain ⟨oL,_,_,aa,_⟩:=id hn
  refine h _ ⟨I.ok,I.os,I.bare,⟨fun b o e n G t=>?_,fun b o e n G t=>?_,I.base.free,fun b o e t=>?_,I.base.tups,I.base.frzs,I.base.tbls⟩,⟨_,ac,fun j y v' e1 e2 e3=>?_⟩,fun y c e=>?_,I.free,I.freeC,fun p hp=>?_,g ⟨oL,aa,I.free⟩ f,by simpa using I.len⟩ ⟨_,f,.inl rfl⟩
  .exact (f.2 b (B8 (BM (A6 e) I.ok.above))).trans (I.base.keep b o e n G t)
  .obtain ⟨W,e1⟩:=I.base.slot b o e n G t
   exact ⟨W,(f.2 b (B8 (BM (A6 e) I.ok.above))).trans e1⟩
  .obtain ⟨o',e1⟩:=I.base.there b o e t
   exact ⟨o',(f.2 b (B8 (BM (A6 e) I.ok.above))).trans e1⟩
  .by_cases J:j=i
   .subst J
    rw[hi] at e1;cases e1
    rw[B9 C] at e2
    cases e2
    exact ⟨u,r,.inl ⟨D,by simp⟩⟩
   .rw[BO (BU J)] at e2
    obtain ⟨u',Y,q⟩:=hl j y v' e1 e2 e3
    refine ⟨u',Y,?_⟩
    rcases q with ⟨k,e⟩|⟨k,c,e,z⟩
    .refine .inl ⟨k,?_⟩
     have:y≠x:=fun e=>J (aC9 hN e1 (e▸hi))
     simp[this,e]
    .exact .inr ⟨k,c,e,z.sameBut f (cne y c e)⟩
  .obtain ⟨T,z⟩:=I.cell y c e
   exact ⟨T,z.sameBut f (cne y c e)⟩
  .obtain ⟨e,n,U,Z,d⟩:=I.pin p hp
   exact ⟨(f.2 p.1 U).trans e,n,U,Z,d⟩
 .have F:X.fn x=true:=by
   rcases hf with z|z
   .exact z
   .rw[z] at D;cases D
  obtain ⟨c,l⟩:=I.ok.has x (.inl D)
  obtain ⟨T,z⟩:=I.cell x c l
  refine wpAny_storeName_cell I.ok.kind D l z (fun h' L f=>?_)
  obtain ⟨oc,R,P⟩:=id z
  refine h {s with heap:=h'} ⟨I.ok,I.os,I.bare,⟨fun b o e n G t=>?_,fun b o e n G t=>?_,I.base.free,fun b o e t=>?_,I.base.tups,I.base.frzs,I.base.tbls⟩,⟨m,hn.sameBut f (BU (cne x c l)),fun j y v' e1 e2 e3=>?_⟩,fun y S e=>?_,I.free,I.freeC,fun p hp=>?_,g ⟨oc,R,I.freeC x c l⟩ f,by simpa using I.len⟩ ⟨c,f,.inr l⟩
  .exact (f.2 b (B8 (BM (A6 e) (I.ok.cab x c F l)))).trans (I.base.keep b o e n G t)
  .obtain ⟨W,e1⟩:=I.base.slot b o e n G t
   exact ⟨W,(f.2 b (B8 (BM (A6 e) (I.ok.cab x c F l)))).trans e1⟩
  .obtain ⟨o',e1⟩:=I.base.there b o e t
   exact ⟨o',(f.2 b (B8 (BM (A6 e) (I.ok.cab x c F l)))).trans e1⟩
  .by_cases J:j=i
   .subst J
    rw[hi] at e1;cases e1
    rw[B9 C] at e2
    cases e2
    exact ⟨u,r,.inr ⟨.inl D,c,l,L⟩⟩
   .rw[BO (BU J)] at e2
    obtain ⟨u',Y,q⟩:=hl j y v' e1 e2 e3
    refine ⟨u',Y,?_⟩
    rcases q with q|⟨k,S,e,z'⟩
    .exact .inl q
    .refine .inr ⟨k,S,e,z'.sameBut f ?_⟩
     rintro rfl
     exact J (aC9 hN e1 (I.ok.inj _ _ _ e l▸hi))
  .by_cases K:S=c
   .subst K;exact ⟨_,L⟩
   .obtain ⟨w2,z2⟩:=I.cell y S e
    exact ⟨w2,z2.sameBut f K⟩
  .obtain ⟨e,n,U,Z,d⟩:=I.pin p hp
   refine ⟨(f.2 p.1 ?_).trans e,n,U,Z,d⟩
   intro q
   rw[q,R] at e
   have q':oc=p.2:=CA e
   exact d T (by rw[<-q'];exact P)
theorem aDA{M:Model}{A:U9}{E:V9->S9->Prop}{i:Nat}{x:Str}{v:V}{u:V9}{Q:Unit->S9->Prop}(I:Inv X a5 σ H s)(c:X.N.Nodup)(hi:X.N[i]? = some x)(b:Loc X.env.scope x)(r:cB v u)
  (h:∀ s',Inv X a5 (σ.set i (some v)) H s'->Q () s') (a:X.fn x=true\/X.env.scope.names.lookup x=some .local):wpAny M A (storeName X.env x u) Q E s:=
 aA8 I c hi b r (fun s' d _=>h s' d) a
theorem Inv.call'{s':S9}{ch:List Az}(I:Inv X a5 σ H s)(g:s'.os=s.os)(u:Un (frs X.stack) ch H H' s.heap s'.heap)(a:HOk X.prog X.w H' s'.heap)(f:AllBare s'.gens)
  (d:∀ b∈ch,(b∈X.ex\/X.s₀.heap.objs.size<=b)/\b≠X.env.locals/\(∀ x c,X.env.cells.lookup x=some c->c≠b)/\∀ p∈X.pn++a5,p.1≠b):Inv X a5 σ H' s':=by
 obtain ⟨h',g',d',t',o'⟩:=s'
 have e:o'=s.os:=g
 subst e
 exact I.call (g':=g') (t':=t') (d':=d') u a f d
end
abbrev XK:=V9->O6 Az->Hp->Prop
abbrev St:=List (O6 V)
abbrev VK:=V->Hp->Prop
abbrev TE:=St->Hp->VK->Prop
abbrev TT:=St->Hp->(Bool->Hp->Prop)->Prop
abbrev TA:=St->Hp->(List V->Hp->Prop)->Prop
structure lU where
 nx:St->Hp->Prop
 rt:VK
 bk:St->Hp->Prop:=fun _ _=>False
 ct:St->Hp->Prop:=fun _ _=>False
abbrev TS:=lU->St->Hp->Prop
def EP(X:Cx)(a5:List (Az×Obj))(σ:St)(Q:VK)(u:V9)(s':S9):Prop:=∃ v H',Inv X a5 σ H' s'/\cB v u/\Q v H'
def TP(X:Cx)(a5:List (Az×Obj))(σ:St)(Q:Bool->Hp->Prop)(b:Bool)(s':S9):Prop:=∃ H',Inv X a5 σ H' s'/\Q b H'
def AP(X:Cx)(a5:List (Az×Obj))(σ:St)(Q:List V->Hp->Prop)(us:List V9)(s':S9):Prop:=∃ vs H',Inv X a5 σ H' s'/\b5 vs us/\Q vs H'
def SP(X:Cx)(a5:List (Az×Obj))(D:lU)(f:Flow)(s':S9):Prop:=
 match f with
 | .next=>∃ σ' H',Inv X a5 σ' H' s'/\D.nx σ' H'
 | .brk=>∃ σ' H',Inv X a5 σ' H' s'/\D.bk σ' H'
 | .cont=>∃ σ' H',Inv X a5 σ' H' s'/\D.ct σ' H'
 | .ret u=>∃ v σ' H',Inv X a5 σ' H' s'/\cB v u/\D.rt v H'
def PE(X:Cx)(e:Ez)(t:TE):Prop:=
 ∀ (a5:List (Az×Obj)) (s:S9) (σ:St) (H:Hp) (Q:VK),Inv X a5 σ H s->t σ H Q->wpAny (model X.prog X.w) X.A (eval e X.env) (EP X a5 σ Q) X.xe s
def PT(X:Cx)(e:Ez)(t:TT):Prop:=
 ∀ (a5:List (Az×Obj)) (s:S9) (σ:St) (H:Hp) (Q:Bool->Hp->Prop),Inv X a5 σ H s->t σ H Q->wpAny (model X.prog X.w) X.A (isTrue e X.env (eval e X.env)) (TP X a5 σ Q) X.xe s
def PW(X:Cx)(e:Ez)(t:TT):Prop:=
 ∀ (whole:Sem V9) (a5:List (Az×Obj)) (s:S9) (σ:St) (H:Hp) (Q:Bool->Hp->Prop),Inv X a5 σ H s->t σ H Q->wpAny (model X.prog X.w) X.A (isTrue e X.env whole) (TP X a5 σ Q) X.xe s
theorem PW.pt{X:Cx}{e:Ez}{t:TT}(h:PW X e t):PT X e t:=h _
def PA(X:Cx)(es:List Ez)(t:TA):Prop:=
 ∀ (pos:Pos) (a5:List (Az×Obj)) (s:S9) (σ:St) (H:Hp) (Q:List V->Hp->Prop),Inv X a5 σ H s->t σ H Q->wpAny (model X.prog X.w) X.A (spliced (backTo pos (starEach es X.env))) (AP X a5 σ Q) X.xe s
def PS(X:Cx)(st:Stmt)(t:TS):Prop:=
 ∀ (a5:List (Az×Obj)) (s:S9) (σ:St) (H:Hp) (D:lU),Inv X a5 σ H s->t D σ H->wpAny (model X.prog X.w) X.A (exec st X.env) (SP X a5 D) X.xe s
def PSs(X:Cx)(st:List Stmt)(t:TS):Prop:=
 ∀ (a5:List (Az×Obj)) (s:S9) (σ:St) (H:Hp) (D:lU),Inv X a5 σ H s->t D σ H->wpAny (model X.prog X.w) X.A (execs st X.env) (SP X a5 D) X.xe s
theorem thn{α:Type}{t:Sem α}{Q b:α->S9->Prop}{M:Model}{A:U9}{E:V9->S9->Prop}{s:S9}(h:wpAny M A t Q E s)(c:∀ a s,Q a s->b a s):wpAny M A t b E s:=C0 h c fun _ _ x=>x
section
variable{X:Cx}
def mP(i:Nat):TE:=fun σ H Q=>∃ v,σ[i]? = some (some v)/\Q v H
def tC(v:V):TE:=fun _ H Q=>Q v H
theorem aQV{i:Nat}{x:Str}{pos:Pos}(k:X.N[i]? = some x)(p:Vis X.env.scope x)(f:(x == ("__debug__":Str))=false:=by decide)(hcd:(x == ("__classdict__":Str))=false:=by decide):PE X (.Name x pos) (mP i):=by
 intro a5 s σ H Q I h
 obtain ⟨v,e,h⟩:=h
 obtain ⟨m,n,j⟩:=I.loc
 obtain ⟨u,r,l⟩:=j i x v k e p
 have d:EP X a5 σ Q u s:=⟨v,H,I,r,h⟩
 rcases l with ⟨b,o⟩|⟨b,c,g,a⟩
 .exact wpAny_Name (wpAny_loadName_local I.ok.kind b n o d) f
 .rcases b with b|b
  · exact wpAny_Name (wpAny_loadName_cell I.ok.kind b g a d) f
  · exact wpAny_Name (wpAny_loadName_free I.ok.kind b g a d hcd) f
theorem aQW{i j pos}:PE X (.Constant (.int i) j pos) (tC (.int i)):=fun _ _ _ H _ I h=>wpAny_Constant_int ⟨.int i,H,I.tok _,⟨_,rfl⟩,h⟩
theorem aTM{b j pos}:PE X (.Constant (.bool b) j pos) (tC (.bl b)):=fun _ _ _ H _ I h=>Constant_bool ⟨.bl b,H,I,rfl,h⟩
theorem aQX{j pos}:PE X (.Constant .none j pos) (tC .non):=fun _ _ _ H _ I h=>Constant_none ⟨.non,H,I,rfl,h⟩
theorem aQY{x j pos}:PE X (.Constant (.str x) j pos) (tC (.str x)):=fun _ _ _ H _ I h=>Calls.Constant_str ⟨.str x,H,I.tok _,⟨_,rfl⟩,h⟩
def Gl(X:Cx)(x:Str):Prop:=X.env.kindOf x=some .globalImplicit
theorem zN{E:V9->S9->Prop}{a5:List (Az×Obj)}{s:S9}{σ:St}{H:Hp}{x:Str}{u:V9}{pos:Pos}{Q:V9->S9->Prop}(I:Inv X a5 σ H s)(c:Gl X x)(b:X.mg x=some u)(h:Q u s)
  (a:(x == ("__debug__":Str))=false:=by decide):wpAny (model X.prog X.w) X.A (eval (.Name x pos) X.env) Q E s:=
 FQ I.ok.kind c (Calls.loadGlobal_global (by rw[I.ok.glob];exact I.mod.glob.keeps I.bk) b h) a
theorem nP{E:V9->S9->Prop}{a5:List (Az×Obj)}{s:S9}{σ:St}{H:Hp}{x:Str}{u:V9}{pos:Pos}{Q:V9->S9->Prop}(I:Inv X a5 σ H s)(c:Gl X x)(b:X.mg x=none)(d:bootBuiltins x=some u)(h:Q u s)
  (a:x≠"__name__":=by decide) (hd:(x == ("__debug__":Str))=false:=by decide):wpAny (model X.prog X.w) X.A (eval (.Name x pos) X.env) Q E s:=by
 obtain ⟨e,h1,h2⟩:=I.mod.blt
 exact FQ I.ok.kind c (Calls.loadGlobal_builtin (by rw[I.ok.glob];exact I.mod.glob.keeps I.bk) b (by rw[I.ok.blt];exact h1.keeps I.bk) ((h2 x a).trans d) h) hd
theorem iS{x:Str}{v:V}{u:V9}{pos:Pos}(c:Gl X x)(b:X.mg x=some u)(r:cB v u)(a:(x == ("__debug__":Str))=false:=by decide):PE X (.Name x pos) (tC v):=
 fun _ _ _ H _ I h=>zN I c b ⟨v,H,I,r,h⟩ a
theorem aOO{x:Str}{v:V}{u:V9}{pos:Pos}(b:Gl X x)(a:X.mg x=none)(c:bootBuiltins x=some u)(r:cB v u)(d:x≠"__name__":=by decide)(hd:(x == ("__debug__":Str))=false:=by decide):PE X (.Name x pos) (tC v):=
 fun _ _ _ H _ I h=>nP I b a c ⟨v,H,I,r,h⟩ d hd
variable{a b:Ez}{ta tb:TE}{pos:Pos}
def PC(X:Cx)(op:CmpOp)(a b:Ez)(t:TE):Prop:=
 ∀ (a5:List (Az×Obj)) (s:S9) (σ:St) (H:Hp) (Q:VK),Inv X a5 σ H s->t σ H Q->
  wpAny (model X.prog X.w) X.A (eval a X.env) (fun v s₁=>wpAny (model X.prog X.w) X.A (eval b X.env) (fun u s₂=>wpAny (model X.prog X.w) X.A (compareOp op v u) (EP X a5 σ Q) X.xe s₂) X.xe s₁) X.xe s
theorem aLR(b:Ez){a:CmpOp}(h:a≠.In)(h2:a≠.NotIn):behindInMarks a b=false:=by
 have e1:(a == CmpOp.In)=false:=by cases a<;>first|rfl|exact absurd rfl h
 have e2:(a == CmpOp.NotIn)=false:=by cases a<;>first|rfl|exact absurd rfl h2
 cases b<;>simp[behindInMarks,e1,e2]
def tB(t:TE):TT:=fun σ H Q=>t σ H fun x H1=>∃ c,x=.bl c/\Q c H1
theorem cI{f:CmpOp}{t:TE}(h:PC X f a b t)(h1:behindInMarks f b=false:=by first|exact aLR _ (by decide) (by decide)|rfl):PT X (.Compare a [f] [b] pos) (tB t):=by
 intro a5 s σ H Q I j
 refine wpAny_isTrue_Compare1 (thn (h a5 s σ H _ I j) fun v n h1=>thn h1 fun u l h2=>thn h2 fun c m e=>?_) h1
 obtain ⟨x,H1,i,k,g⟩:=e
 obtain ⟨d,rfl,q⟩:=g
 cases k
 exact DC ⟨H1,i,q⟩
theorem tN{e:Ez}{t:TE}(h:PE X e t)(i:∀ whole,isTrue e X.env whole=(do let v <-whole;standAt e.pos;holding [v] (truthy v)):=by intro _;rfl):PT X e (tB t):=by
 intro a5 s σ H Q I f
 refine isTrue_plain (thn (h a5 s σ H _ I f) fun v j a=>?_) (i _)
 obtain ⟨x,H1,c,g,b⟩:=a
 obtain ⟨d,rfl,q⟩:=b
 cases g
 exact DC ⟨H1,c,q⟩
variable{tA tB':TT}{rest:List Ez}
def aQZ(t u:TT):TT:=fun σ H Q=>t σ H fun c H1=>if c=true then u σ H1 Q else Q false H1
def tOr(t u:TT):TT:=fun σ H Q=>t σ H fun c H1=>if c=true then Q true H1 else u σ H1 Q
def aUQ(t:TT):TT:=fun σ H Q=>t σ H fun c H1=>Q (!c) H1
theorem qA(b:PT X a tA):PW X (.BoolOp .And [a] pos) tA:=by
 intro f a5 s σ H Q I h
 refine isTrue_and (thn (b a5 s σ H Q I h) fun c d e=>?_)
 cases c with
 | true=>exact isTrue_and_nil e
 | false=>exact e
theorem qB(b:PT X a tA):PW X (.BoolOp .Or [a] pos) tA:=by
 intro f a5 s σ H Q I h
 refine isTrue_or (thn (b a5 s σ H Q I h) fun c d e=>?_)
 cases c with
 | false=>exact isTrue_or_nil e
 | true=>exact e
theorem tO(k:PT X a tA)(g:PW X (.BoolOp .And (b::rest) pos) tB'):PW X (.BoolOp .And (a::b::rest) pos) (aQZ tA tB'):=by
 intro j a5 s σ H Q I h
 refine isTrue_and (thn (k a5 s σ H _ I h) fun c i d=>?_)
 obtain ⟨H1,f,e⟩:=d
 cases c with
 | true=>exact g j a5 i σ H1 Q f e
 | false=>exact ⟨H1,f,e⟩
theorem n6(k:PT X a tA)(g:PW X (.BoolOp .Or (b::rest) pos) tB'):PW X (.BoolOp .Or (a::b::rest) pos) (tOr tA tB'):=by
 intro j a5 s σ H Q I h
 refine isTrue_or (thn (k a5 s σ H _ I h) fun c i d=>?_)
 obtain ⟨H1,f,e⟩:=d
 cases c with
 | true=>exact ⟨H1,f,e⟩
 | false=>exact g j a5 i σ H1 Q f e
theorem tP(b:PT X a tA):PT X (.UnaryOp .Not a pos) (aUQ tA):=by
 intro a5 s σ H Q I h
 exact isTrue_not (b a5 s σ H (fun c H1=>Q (!c) H1) I h)
def aTN(ta tb:TE):TE:=fun σ H Q=>ta σ H fun x H1=>∃ c,x=.bl c/\if c=true then tb σ H1 Q else Q (.bl false) H1
theorem aQ0{op}{t:TE}(h:PE X a t):PE X (.BoolOp op [a] pos) t:=fun a5 s σ H Q I b=>BoolOp_one (h a5 s σ H Q I b)
theorem aQ1(k:PE X a ta)(g:PE X (.BoolOp .And (b::rest) pos) tb):PE X (.BoolOp .And (a::b::rest) pos) (aTN ta tb):=by
 intro a5 s σ H Q I h
 refine BoolOp_and (thn (k a5 s σ H _ I h) fun v j e=>?_)
 obtain ⟨x,H1,f,i,d⟩:=e
 obtain ⟨c,rfl,d⟩:=d
 cases i
 refine DC ?_
 cases c with
 | true=>exact g a5 j σ H1 Q f d
 | false=>exact ⟨.bl false,H1,f,rfl,d⟩
def tIf(t:TT)(ta tb:TE):TE:=fun σ H Q=>t σ H fun c H1=>if c=true then ta σ H1 Q else tb σ H1 Q
theorem aLS{c:Ez}(k:PT X c tA)(l:PE X a ta)(j:PE X b tb):PE X (.IfExp c a b pos) (tIf tA ta tb):=by
 intro a5 s σ H Q I h
 refine wpAny_IfExp (thn (k a5 s σ H _ I h) fun d i e=>?_)
 obtain ⟨H1,g,f⟩:=e
 cases d with
 | true=>exact l a5 i σ H1 Q g f
 | false=>exact j a5 i σ H1 Q g f
end
def SqL(K:Frag)(H:Hp)(a:Az)(xs:List V):Prop:=
 Rd H a (.lst xs) \/
  ∃ (o:Obj) (its:Array V9) (n:Nat),K.lookup a=some o/\o.cls=.type "list"/\o.dict=none/\o.data=.seq its n/\its.size<=sizeLine/\b5 xs its.toList
def SqT(K:Frag)(H:Hp)(a:Az)(xs:List V):Prop:=
 Rd H a (.tup xs) \/
  ∃ (o:Obj) (its:Array V9) (n:Nat),K.lookup a=some o/\(o.cls=.type "tuple"/\o.dict=none)/\o.data=.seq its n/\its.size<=sizeLine/\b5 xs its.toList
noncomputable def aUR:V9->O6 V
 | .none=>some .non
 | .bool b=>some (.bl b)
 | .int i _=>some (.int i)
 | .str x _=>some (.str x)
 | .bytes b _=>some (.byt b)
 | .float b _=>some (.flt b)
 | .ref a=>some (.ref a)
 | .type n=>some (.ty n)
 | _=>none
theorem cB.abs{x:V}{u:V9}(r:cB x u):aUR u=some x:=by
 cases x with
 | non=>cases r;rfl
 | bl _=>cases r;rfl
 | int _=>obtain ⟨t,rfl⟩:=r;rfl
 | str _=>obtain ⟨t,rfl⟩:=r;rfl
 | byt _=>obtain ⟨t,rfl⟩:=r;rfl
 | flt _=>obtain ⟨t,rfl⟩:=r;rfl
 | ref _=>cases r;rfl
 | ty _=>cases r;rfl
theorem cB.inj{x y:V}{u:V9}(r:cB x u)(q:cB y u):x=y:=CA (r.abs.symm.trans q.abs)
theorem b5.inj:∀ {xs ys:List V} {us:List V9},b5 xs us->b5 ys us->xs=ys
 | _,_,_,.nil,.nil=>rfl
 | _,_,_,.cons r t,.cons r' t'=>by rw[r.inj r',b5.inj t t']
section
variable{X:Cx}{a5:List (Az×Obj)}{σ:St}{H:Hp}{s:S9}{a:Az}{xs ys:List V}
theorem SqL.of{K:Frag}(h:H a=some (.lst xs)):SqL K H a xs:=.inl (.inl h)
theorem SqT.of{K:Frag}(h:H a=some (.tup xs)):SqT K H a xs:=.inl (.inl h)
theorem Inv.list(I:Inv X a5 σ H s)(h:SqL X.K H a xs):∃ its:List V9,b5 xs its/\PlainL s.heap a its.toArray/\xs.length<=sizeLine:=by
 rcases h with h|⟨o,its,n,f,b,c,d,g,r⟩
 .obtain ⟨z,its,n,r,e⟩:=h.ok I.hok
  exact ⟨its,r,⟨_,n,e,rfl,rfl,rfl⟩,z⟩
 .refine ⟨its.toList,r,⟨o,n,I.kIn a o f,b,c,by simpa using d⟩,?_⟩
  have e:=r.length
  simp only[CG] at e
  omega
theorem Inv.tuple(I:Inv X a5 σ H s)(h:SqT X.K H a xs):∃ its:List V9,b5 xs its/\IsTup s.heap a its.toArray/\xs.length<=sizeLine:=by
 rcases h with h|⟨o,its,n,d,b,c,f,r⟩
 .obtain ⟨z,its,r,p⟩:=h.ok I.hok
  exact ⟨its,r,p.t,z⟩
 .refine ⟨its.toList,r,⟨o,I.kIn a o d,b.1,n,by simpa using c⟩,?_⟩
  have e:=r.length
  simp only[CG] at e
  omega
theorem Inv.list_inj(I:Inv X a5 σ H s)(h:SqL X.K H a xs)(h':SqL X.K H a ys):xs=ys:=by
 obtain ⟨c,r,⟨o,n,e,_,_,d⟩,_⟩:=I.list h
 obtain ⟨b,i,⟨o',j,g,_,_,f⟩,_⟩:=I.list h'
 rw[e] at g;cases g
 rw[d] at f
 injection f with d1 _
 have:c=b:=by simpa using congrArg Array.toList d1
 subst this
 exact r.inj i
theorem Inv.tuple_inj(I:Inv X a5 σ H s)(h:SqT X.K H a xs)(h':SqT X.K H a ys):xs=ys:=by
 obtain ⟨c,r,⟨o,e,_,n,d⟩,_⟩:=I.tuple h
 obtain ⟨b,i,⟨o',g,_,j,f⟩,_⟩:=I.tuple h'
 rw[e] at g;cases g
 rw[d] at f
 injection f with d1 _
 have:c=b:=by simpa using congrArg Array.toList d1
 subst this
 exact r.inj i
end
abbrev Cx.wish(X:Cx)(E:V9->S9->Prop):Cx:={X with xe:=E}
abbrev Cx.nox(X:Cx):Cx:=X.wish fun _ _=>False
theorem Cx.Ok.wish{X:Cx}(ok:X.Ok)(E:V9->S9->Prop):(X.wish E).Ok:=
 ⟨ok.mod,ok.kind,ok.glob,ok.blt,ok.above,ok.inj,ok.has,ok.cab,ok.hd,ok.frames,ok.stk,ok.exf,ok.bs,ok.bsz,ok.noex,ok.exfs,ok.funs,ok.frf⟩
theorem Cx.Ok.unwish{X:Cx}{E:V9->S9->Prop}(ok:(X.wish E).Ok):X.Ok:=
 ⟨ok.mod,ok.kind,ok.glob,ok.blt,ok.above,ok.inj,ok.has,ok.cab,ok.hd,ok.frames,ok.stk,ok.exf,ok.bs,ok.bsz,ok.noex,ok.exfs,ok.funs,ok.frf⟩
section
variable{X:Cx}{a5:List (Az×Obj)}{σ:St}{H:Hp}{s:S9}{E:V9->S9->Prop}
theorem Inv.wish(I:Inv X a5 σ H s)(E:V9->S9->Prop):Inv (X.wish E) a5 σ H s:=⟨I.ok.wish E,I.os,I.bare,I.base,I.loc,I.cell,I.free,I.freeC,I.pin,I.hok,I.len⟩
theorem Inv.unwish(I:Inv (X.wish E) a5 σ H s):Inv X a5 σ H s:=⟨I.ok.unwish,I.os,I.bare,I.base,I.loc,I.cell,I.free,I.freeC,I.pin,I.hok,I.len⟩
theorem SP.unwish{D:lU}{f:Flow}{s':S9}(h:SP (X.wish E) a5 D f s'):SP X a5 D f s':=by
 cases f with
 | next=>obtain ⟨a,H',I,q⟩:=h;exact ⟨a,H',I.unwish,q⟩
 | brk=>obtain ⟨a,H',I,q⟩:=h;exact ⟨a,H',I.unwish,q⟩
 | cont=>obtain ⟨a,H',I,q⟩:=h;exact ⟨a,H',I.unwish,q⟩
 | ret u=>obtain ⟨v,a,H',I,r,q⟩:=h;exact ⟨v,a,H',I.unwish,r,q⟩
theorem PE.nox{e:Ez}{t:TE}(h:PE X.nox e t):PE X e t:=fun a5 s σ H Q I a=>
 C0 (h a5 s σ H Q (I.wish _) a) (fun _ _ ⟨v,H',b,r,q⟩=>⟨v,H',b.unwish,r,q⟩) fun _ _ z=>False.elim z
theorem PT.nox{e:Ez}{t:TT}(h:PT X.nox e t):PT X e t:=fun a5 s σ H Q I a=>
 C0 (h a5 s σ H Q (I.wish _) a) (fun _ _ ⟨H',b,q⟩=>⟨H',b.unwish,q⟩) fun _ _ z=>False.elim z
theorem PSs.nox{st:List Stmt}{t:TS}(h:PSs X.nox st t):PSs X st t:=fun a5 s σ H D I a=>
 C0 (h a5 s σ H D (I.wish _) a) (fun _ _ q=>q.unwish) fun _ _ z=>False.elim z
end
section
variable{X:Cx}{st:Stmt}{rest:List Stmt}{t u:TS}{e:Ez}{te:TE}{pos:Pos}
def aTO:TS:=fun D σ H=>D.nx σ H
def aUS(t u:TS):TS:=fun D σ H=>t {D with nx:=u D} σ H
theorem cW:PSs X [] aTO:=fun _ _ σ H _ I h=>E4 ⟨σ,H,I,h⟩
theorem aG(h1:PS X st t)(h2:PSs X rest u):PSs X (st::rest) (aUS t u):=by
 intro a5 s σ H D I h
 refine wpAny_execs_cons (thn (h1 a5 s σ H {D with nx:=u D} I h) fun f b q=>?_)
 cases f with
 | next=>
  obtain ⟨a,H',c,q⟩:=q
  exact h2 a5 b a H' D c q
 | ret v=>exact q
 | brk=>exact q
 | cont=>exact q
theorem aO(h1:PS X st t):PSs X [st] t:=by
 intro a5 s σ H D I h
 refine wpAny_execs_cons (thn (h1 a5 s σ H D I h) fun f a q=>?_)
 cases f with
 | next=>exact E4 q
 | ret v=>exact q
 | brk=>exact q
 | cont=>exact q
theorem Inv.quiet{a5:List (Az×Obj)}{σ:St}{H:Hp}{s:S9}(I:Inv X a5 σ H s):interactive X.env=false:=by simp[interactive,I.ok.kind]
def aCQ(te:TE):TS:=fun D σ H=>te σ H fun _ H1=>D.nx σ H1
theorem dP(d:PE X e te)(b:swapsWith e none pos.line X.env=pure false:=by rfl):PS X (.Expr e pos) (aCQ te):=by
 intro a5 s σ H D I h
 exact wpAny_Expr_any (thn (d a5 s σ H _ I h) fun v g ⟨x,H1,c,f,a⟩=>⟨σ,H1,c,a⟩) I.quiet b
def aUT(te:TE):TS:=fun D σ H=>te σ H D.rt
theorem bD(d:PE X e te):PS X (.Return (some e) pos) (aUT te):=by
 intro a5 s σ H D I h
 exact wpAny_Return_some (thn (d a5 s σ H _ I h) fun v f ⟨x,H1,c,a,b⟩=>⟨x,σ,H1,c,a,b⟩)
def aUU(c:TT)(t u:TS):TS:=fun D σ H=>c σ H fun b H1=>if b=true then t D σ H1 else u D σ H1
theorem dU{c:Ez}{a b:List Stmt}{tc:TT}(k:PT X c tc)(l:PSs X a t)(j:PSs X b u):PS X (.If c a b pos) (aUU tc t u):=by
 intro a5 s σ H D I h
 refine wpAny_If (thn (k a5 s σ H _ I h) fun d i e=>?_)
 obtain ⟨H1,g,f⟩:=e
 cases d with
 | true=>exact l a5 i σ H1 D g f
 | false=>exact j a5 i σ H1 D g f
end
abbrev TG:=V->St->Hp->(St->Hp->Prop)->Prop
abbrev TGs:=List V->St->Hp->(St->Hp->Prop)->Prop
def PG(X:Cx)(target:Ez)(t:TG):Prop:=
 ∀ (a5:List (Az×Obj)) (s:S9) (σ:St) (H:Hp) (v:V) (u:V9) (Q:St->Hp->Prop),Inv X a5 σ H s->cB v u->t v σ H Q->
  wpAny (model X.prog X.w) X.A (assign target X.env u) (fun _ s'=>∃ σ' H',Inv X a5 σ' H' s'/\Q σ' H') X.xe s
def PGs(X:Cx)(ts:List Ez)(t:TGs):Prop:=
 ∀ (a5:List (Az×Obj)) (s:S9) (σ:St) (H:Hp) (vs:List V) (us:List V9) (Q:St->Hp->Prop),Inv X a5 σ H s->b5 vs us->t vs σ H Q->
  wpAny (model X.prog X.w) X.A (assignInOrder ((assignEach ts X.env).map (·.2)) us) (fun _ s'=>∃ σ' H',Inv X a5 σ' H' s'/\Q σ' H') X.xe s
abbrev aHJ:=V->V->V->Hp->(Hp->Prop)->Prop
def aLT(X:Cx)(t:aHJ):Prop:=
 ∀ (a5:List (Az×Obj)) (s:S9) (σ:St) (H:Hp) (o i v:V) (ov iv u:V9) (Q:Hp->Prop),Inv X a5 σ H s->cB o ov->cB i iv->cB v u->t o i v H Q->
  wpAny (model X.prog X.w) X.A (setItem ov iv u) (fun _ s'=>∃ H',Inv X a5 σ H' s'/\Q H') X.xe s
section
variable{X:Cx}{pos:Pos}
def m9(i:Nat):TG:=fun v σ H Q=>Q (σ.set i (some v)) H
theorem cG{i:Nat}{x:Str}(c:X.N.Nodup)(hi:X.N[i]? = some x)(b:Loc X.env.scope x)(a:X.fn x=true\/X.env.scope.names.lookup x=some .local:=by first|exact .inl rfl|exact .inr rfl):PG X (.Name x pos) (m9 i):=by
 intro a5 s σ H v u Q I r h
 exact wpAny_assign_Name (aDA I c hi b r (fun s' d=>⟨_,H,d,h⟩) a)
def aLU:TGs:=fun vs σ H Q=>vs=[]/\Q σ H
def aNQ(t:TG)(u:TGs):TGs:=fun vs σ H Q=>∃ v r,vs=v::r/\t v σ H fun σ' H'=>u r σ' H' Q
theorem uY:PGs X [] aLU:=by
 intro a5 s σ H vs a Q I r h
 obtain ⟨e,h⟩:=h
 subst e
 cases r
 exact assignInOrder_nil ⟨σ,H,I,h⟩
theorem kH{e:Ez}{es:List Ez}{t:TG}{u:TGs}(h1:PG X e t)(h2:PGs X es u)
  (g:(assignEach (e::es) X.env).map (·.2)=assign e X.env::(assignEach es X.env).map (·.2):=by rfl):PGs X (e::es) (aNQ t u):=by
 intro a5 s σ H vs j Q I r h
 obtain ⟨v,i,e1,h⟩:=h
 subst e1
 cases r with
 | cons r rr=>
  rw[g]
  refine assignInOrder_cons (thn (h1 a5 s σ H _ _ _ I r h) fun _ f a=>?_)
  obtain ⟨b,H1,d,c⟩:=a
  exact h2 a5 f b H1 _ _ Q d rr c
def aQ2(K:Frag)(n:Nat)(t:TGs):TG:=fun v σ H Q=>∃ a xs,v=.ref a/\SqT K H a xs/\xs.length=n/\t xs σ H Q
theorem xR{es:List Ez}{k:Nat}{t:TGs}{n:Nat}(m:X.calm=true)(h:PGs X es t)
  (f:(assignEach es X.env).length=n:=by rfl) (hst:(assignEach es X.env).findIdx? (·.1)=none:=by rfl):PG X (.Tuple es k pos) (aQ2 X.K n t):=by
 intro a5 s σ H v u Q I r c
 obtain ⟨a,xs,e1,q,j,c⟩:=c
 subst e1
 cases r
 obtain ⟨p,d,i,w⟩:=I.tuple q
 refine assign_Tuple_tuple (I.ok.hd m) i (by simp[f,<-j,d.length]) hst fun h' g=>?_
 have l:Inv X a5 σ H {s with heap:=h'}:=I.kept (t':=s.toks) fun b o e=>g b o (B8 (A6 e)) e
 exact h a5 _ σ H xs _ Q l (by simpa using d) c
def aLV(to ti:TE)(t:aHJ):TG:=fun v σ H Q=>to σ H fun o H1=>ti σ H1 fun i H2=>t o i v H2 fun H3=>Q σ H3
theorem qC{o i:Ez}{to b:TE}{t:aHJ}(e:PE X o to)(hi:PE X i b)(g:aLT X t)
  (w:∀ v,assign (.Subscript o i pos) X.env v=(do
   let ov <-holding [v] (eval o X.env)
   let iv <-holding [v,ov] (eval i X.env)
   standAt pos
   holding [v,ov,iv] (setItem ov iv v)
   release [v,ov,iv] []):=by intro _;rfl):PG X (.Subscript o i pos) (aLV to b t):=by
 intro a5 s σ H v u Q I r h
 rw[w]
 refine AD (DW (thn (e a5 s σ H _ I h) fun ov n a=>?_))
 obtain ⟨x,H1,l,p,d⟩:=a
 refine AD (DW (thn (hi a5 n σ H1 _ l d) fun iv c a=>?_))
 obtain ⟨y,H2,q,j,f⟩:=a
 refine AD (G7 (AD (DW (thn (g a5 c σ H2 x y v ov iv u _ q p j r f) fun _ z a=>?_))))
 obtain ⟨H3,k,m⟩:=a
 exact wpAny_release ⟨σ,H3,k,m⟩
def oM(te:TE)(g:TG):TS:=fun D σ H=>te σ H fun x H1=>g x σ H1 D.nx
theorem nQ{tg e:Ez}{te:TE}{g:TG}(k:PE X e te)(j:PG X tg g)(i:swapsWithSole [tg] e pos.line X.env=pure false:=by rfl)(hw:swappedStores [tg] e X.env=pure none:=by rfl)
  (h1:(assignEach [tg] X.env).map (·.2)=[assign tg X.env]:=by rfl):PS X (.Assign [tg] e pos) (oM te g):=by
 intro a5 s σ H D I h
 refine wpAny_Assign_stores (thn (k a5 s σ H _ I h) fun v d a=>?_) i hw
 obtain ⟨x,H1,c,f,b⟩:=a
 rw[h1]
 exact thn (j a5 d σ H1 x v _ c f b) fun _ l q=>q
theorem aH{i:Nat}{x:Str}{e:Ez}{te:TE}{pos':Pos}(f:X.N.Nodup)(hi:X.N[i]? = some x)(c:Loc X.env.scope x)(l:PE X e te)(j:swapsWith e (some (.Name x pos')) pos.line X.env=pure false:=by rfl)(hf:X.fn x=true\/X.env.scope.names.lookup x=some .local:=by exact .inl rfl) :
  PS X (.Assign [.Name x pos'] e pos) (oM te (m9 i)):=by
 intro a5 s σ H D I h
 refine wpAny_Assign_Name (thn (l a5 s σ H _ I h) fun v n a=>?_) j
 obtain ⟨y,H1,d,g,b⟩:=a
 exact aDA d f hi c g (fun m k=>⟨_,H1,k,b⟩) hf
end
section
variable{X:Cx}{pos:Pos}
def aJF(c:TT)(tb:TS):TS:=fun D σ H=>∃ W:Nat->St->Hp->Prop,(∃ m,W m σ H)/\∀ m σ H,W m σ H->
 c σ H fun b H1=>if b=true then ∃ N:St->Hp->Prop,(∀ σ' H',N σ' H'->∃ m',m' < m/\W m' σ' H')/\tb {D with nx:=N,ct:=N,bk:=D.nx} σ H1 else D.nx σ H1
theorem jP{c:Ez}{body:List Stmt}{tc:TT}{tb:TS}(q:PassesOwn (model X.prog X.w) X.A X.env X.xe)(y:PT X c tc)(u:PSs X body tb):PS X (.While c body [] pos) (aJF tc tb):=by
 intro a5 s σ H D I h
 obtain ⟨W,⟨B,t⟩,d⟩:=h
 refine wpAny_While (codeAny_whileLoop (fun n s'=>∃ σ' H',Inv X a5 σ' H' s'/\W n σ' H') ?_ B ⟨σ,H,I,t⟩)
 rintro n z ⟨σ1,H1,I1,w1⟩
 refine DM q (thn (y a5 z σ1 H1 _ I1 (d n σ1 H1 w1)) fun b x m=>?_)
 obtain ⟨H2,r,e⟩:=m
 cases b with
 | true=>
  obtain ⟨N,p,e⟩:=e
  rw[AA rfl]
  refine DM q (thn (u a5 x σ1 H2 _ r e) fun f C g=>?_)
  cases f with
  | next=>
   obtain ⟨a,H3,k,l⟩:=g
   obtain ⟨j,o,i⟩:=p a H3 l
   exact ⟨j,o,a,H3,k,i⟩
  | cont=>
   obtain ⟨a,H3,k,l⟩:=g
   obtain ⟨j,o,i⟩:=p a H3 l
   exact ⟨j,o,a,H3,k,i⟩
  | brk=>exact g
  | ret v=>exact g
 | false=>
  rw[AE CW]
  exact E4 ⟨σ1,H2,r,e⟩
end
structure It where
 go:Nat->Hp->Prop
 yld:Nat->Hp->V->Hp->Prop
 stop:Nat->Hp->Prop
def k9(X:Cx)(a5:List (Az×Obj))(H:Hp)(b:Az):Prop:=
 H b=none/\b≠X.env.locals/\b∉X.fs/\(b∈X.ex\/X.s₀.heap.objs.size<=b)/\(∀ x c,X.env.cells.lookup x=some c->c≠b)/\∀ p∈X.pn++a5,p.1≠b
theorem Inv.fpOk{X:Cx}{a5:List (Az×Obj)}{σ:St}{H H':Hp}{s:S9}{b:Az}(I:Inv X a5 σ H s)(a:s.heap.objs.size<=b)(f:H' b=none):k9 X a5 H' b:=by
 refine ⟨f,D4 (BM I.lt a),I.nofs a,.inr (BY I.sz a),fun x c e z=>?_,fun p d z=>?_⟩
 .obtain ⟨v,q⟩:=I.cell x c e
  exact absurd (BM q.lt (by rw[z];exact a)) (CI _)
 .exact absurd (BM (A6 (I.pin p d).1) (by rw[z];exact a)) (CI _)
structure Turn(P:Program)(w:World)(K:Frag)(tg:Expr)(J:It)(fp:List Az)(it:Az)(tn:Nat->Heap->Prop):Prop where
 mem:it∈fp
 obj:∀ i h,tn i h->∀ b∈fp,∃ o,h.get? b=some o/\∀ v,o.data≠.cell v
 keep:∀ i h h',tn i h->(∀ b∈fp,∀ o,h.get? b=some o->h'.get? b=some o)->tn i h'
 item:∀ (X:Cx),X.prog=P->X.w=w->X.K=K->X.calm=true->∀ (i:Nat) (a5:List (Az×Obj)) (s:S9) (σ:St) (H:Hp) (E:V9->S9->Prop),Inv X a5 σ H s->(∀ b∈fp,k9 X a5 H b)->tn i s.heap->J.go i H->
  wpAny (model P w) X.A (pyNext (.ref it)) (fun r s1=>∃ u,r=some u /\
   wpAny (model P w) X.A (letOwnedTupleGo tg (.ref it) u) (fun _ s2=>∃ x H',Inv X a5 σ H' s2/\cB x u/\J.yld i H x H'/\tn (i+1) s2.heap/\∀ b∈fp,H' b=none) E s1) E s
 done:∀ (X:Cx),X.prog=P->X.w=w->X.K=K->X.calm=true->∀ (i:Nat) (a5:List (Az×Obj)) (s:S9) (σ:St) (H:Hp) (E:V9->S9->Prop),Inv X a5 σ H s->(∀ b∈fp,k9 X a5 H b)->tn i s.heap->J.stop i H->
  wpAny (model P w) X.A (pyNext (.ref it)) (fun r s1=>r=none/\Inv X a5 σ H s1) E s
 self:∀ (A:Around) (i:Nat) (s:S9) (Q:V9->S9->Prop) (E:V9->S9->Prop),tn i s.heap->Q (.ref it) s->wpAny (model P w) A (pyIter (.ref it)) Q E s
abbrev TI:=St->Hp->(It->Hp->Prop)->Prop
def PIE(X:Cx)(a5:List (Az×Obj))(σ:St)(tg:Ez)(R:It->Hp->Prop)(itv:V9)(s2:S9):Prop:=
 ∃ (it:Az) (fp:List Az) (tn:Nat->Hz->Prop) (J:It) (H':Hp),itv=.ref it/\Inv X a5 σ H' s2/\Turn X.prog X.w X.K tg J fp it tn/\tn 0 s2.heap/\(∀ b∈fp,k9 X a5 H' b)/\R J H'
def PI(X:Cx)(tg iter:Ez)(wi:TI):Prop:=
 ∀ (a5:List (Az×Obj)) (s:S9) (σ:St) (H:Hp) (R:It->Hp->Prop),Inv X a5 σ H s->wi σ H R->
  wpAny (model X.prog X.w) X.A (eval iter X.env) (fun v s1=>wpAny (model X.prog X.w) X.A (pyIter v) (PIE X a5 σ tg R) X.xe s1) X.xe s
theorem xS {M : Model} {A : U9} {E : V9 -> S9 -> Prop} {s : S9} {tg : Ez} {it : Az} {u : V9} {o : Obj} {n : String} {vs : Array V9} {Q : Unit -> S9 -> Prop} (e : s.heap.get? it = some o) (d : o.cls = .type n) (b : o.data = .fields vs)
    (c : ["enumerate", "zip", "dict_itemiterator", "dict_reverseitemiterator", "odict_iterator", "itertools.zip_longest", "itertools.pairwise"].contains n = false) (a : Q () s) : wpAny M A (letOwnedTupleGo tg (.ref it) u) Q E s := by
  unfold letOwnedTupleGo
  cases tg <;> first
    | exact A1 a
    | (cases u <;> first
        | exact A1 a
        | (refine AD (wpAny_load e ?_)
           rw [d, b]
           show wpAny M A (if (["enumerate", "zip", "dict_itemiterator", "dict_reverseitemiterator", "odict_iterator", "itertools.zip_longest", "itertools.pairwise"].contains n && vs[0]? == some (rawInt _)) = true then _ else _) Q E s
           rw [AE (by intro h; rw [c, Bool.false_and] at h; cases h)]
           exact A1 a))
def Itl(K:Frag)(a:Az):It:=
 ⟨fun i H=>∃ xs x,SqL K H a xs/\xs[i]? = some x,fun i H x H'=>H'=H/\∀ xs,SqL K H a xs->xs[i]? = some x,fun i H=>∃ xs,SqL K H a xs/\xs.length<=i⟩
def Itt(K:Frag)(a:Az):It:=
 ⟨fun i H=>∃ xs x,SqT K H a xs/\xs[i]? = some x,fun i H x H'=>H'=H/\∀ xs,SqT K H a xs->xs[i]? = some x,fun i H=>∃ xs,SqT K H a xs/\xs.length<=i⟩
noncomputable def Itr(lo:Int)(n:Nat):It:=⟨fun i _=>i < n,fun i H x H'=>H'=H/\x=.int (lo+i),fun i _=>n<=i⟩
theorem aJG{P:P9}{w:W9}{K:Frag}{tg:Ez}(a it:Az):Turn P w K tg (Itl K a) [it] it (fun i h=>h.IsListIter it a i) where
 mem:=by simp
 obj:=fun i h st b f=>by
  have e:b=it:=by simpa using f
  subst e
  obtain ⟨o,e,c,d⟩:=st
  exact ⟨o,e,fun v z=>by rw[d] at z;cases z⟩
 keep:=fun i h h' st k=>st.at fun o e=>k it (by simp) o e
 item:=by
  intro X B F y J i a5 s σ H E I l st r
  subst B F y
  obtain ⟨xs,x,j,C⟩:=r
  obtain ⟨D,A,p,R⟩:=I.list j
  obtain ⟨u,N,M⟩:=A.get C
  obtain ⟨G,n,S,t,q,m⟩:=l it (by simp)
  refine wpAny_pyNext_list_item st p.isList (x:=u) (by simpa using N) fun h' g Q=>?_
  have O:Inv X a5 σ H {s with heap:=h'}:=I.turned (t':=s.toks) (fun b o f e=>(Q.2 b f).trans e) G n t q m
  obtain ⟨o,e,c,d⟩:=id g
  exact ⟨u,rfl,xS (s:={s with heap:=h'}) e c d (by decide) ⟨x,H,O,M,⟨rfl,fun ys L=>by rw[I.list_inj L j];exact C⟩,g,fun b f=>(l b f).1⟩⟩
 done:=by
  intro X B F y J i a5 s σ H E I l st r
  subst B F y
  obtain ⟨xs,j,C⟩:=r
  obtain ⟨D,A,p,R⟩:=I.list j
  obtain ⟨G,n,S,t,q,m⟩:=l it (by simp)
  have U:=A.length
  exact wpAny_pyNext_list_end (I.ok.hd J) st p.isList (by simp;omega) fun h' T=>⟨rfl,I.turned (t':=s.toks) (fun b o f e=>T b o f e) G n t q m⟩
 self:=fun _ _ _ _ _ st h=>wpAny_pyIter_listiter st h
theorem aHK{P:P9}{w:W9}{K:Frag}{tg:Ez}(a it:Az):Turn P w K tg (Itt K a) [it] it (fun i h=>h.IsTupleIter it a i) where
 mem:=by simp
 obj:=fun i h st b f=>by
  have e:b=it:=by simpa using f
  subst e
  obtain ⟨o,e,c,d⟩:=st
  exact ⟨o,e,fun v z=>by rw[d] at z;cases z⟩
 keep:=fun i h h' st k=>st.at fun o e=>k it (by simp) o e
 item:=by
  intro X C F A J i a5 s σ H E I m st t
  subst C F A
  obtain ⟨xs,x,l,D⟩:=t
  obtain ⟨g,B,p,R⟩:=I.tuple l
  obtain ⟨u,N,M⟩:=B.get D
  obtain ⟨G,q,S,y,r,n⟩:=m it (by simp)
  refine wpAny_pyNext_tuple_item st (show s.heap.IsTuple a g.toArray from p) (x:=u) (by simpa using N) fun h' j Q=>?_
  have O:Inv X a5 σ H {s with heap:=h'}:=I.turned (t':=s.toks) (fun b o f e=>(Q.2 b f).trans e) G q y r n
  obtain ⟨o,e,c,d⟩:=id j
  exact ⟨u,rfl,xS (s:={s with heap:=h'}) e c d (by decide) ⟨x,H,O,M,⟨rfl,fun ys L=>by rw[I.tuple_inj L l];exact D⟩,j,fun b f=>(m b f).1⟩⟩
 done:=by
  intro X C F A J i a5 s σ H E I m st t
  subst C F A
  obtain ⟨xs,l,D⟩:=t
  obtain ⟨g,B,p,R⟩:=I.tuple l
  obtain ⟨G,q,S,y,r,n⟩:=m it (by simp)
  have U:=B.length
  exact wpAny_pyNext_tuple_end (I.ok.hd J) st (show s.heap.IsTuple a g.toArray from p) (by simp;omega) fun h' T=>⟨rfl,I.turned (t':=s.toks) (fun b o f e=>T b o f e) G q y r n⟩
 self:=fun _ _ _ _ _ st h=>wpAny_pyIter_tupleiter st h
theorem aHL{P:P9}{w:W9}{K:Frag}{tg:Ez}(it:Az)(lo:Int)(n:Nat):Turn P w K tg (Itr lo n) [it] it (fun i h=>IsRangeIter h it (lo+(i:Nat) * 1) ((n:Int) - (i:Nat)) 1) where
 mem:=by simp
 obj:=fun i h st b a=>by
  have e:b=it:=by simpa using a
  subst e
  exact ⟨_,st,fun v z=>by
   have D:Data.fields _=Data.cell v:=z
   cases D⟩
 keep:=fun i h h' st k=>k it (by simp) _ st
 item:=by
  intro X q u p r i a5 s σ H E I d st l
  subst q u p
  obtain ⟨x,g,F,m,j,f⟩:=d it (by simp)
  have W:=Walks.range (prog:=X.prog) (w:=X.w) (I.ok.hd r) it lo 1 n
  refine W.item i s _ _ l st fun v h' y B c C=>?_
  obtain ⟨t,rfl⟩:=B
  have A:Inv X a5 σ H {s with heap:=h',toks:=y}:=I.turned (fun b o a e=>C b o (by simpa using a) e) x g m j f
  refine ⟨_,rfl,xS (s:={s with heap:=h',toks:=y}) (n:="range_iterator") c rfl rfl (by decide) ⟨.int (lo+i),H,A,⟨t,?_⟩,⟨rfl,rfl⟩,c,fun b a=>(d b a).1⟩⟩
  rw[Int.mul_one]
 done:=by
  intro X q u p r i a5 s σ H E I d st l
  subst q u p
  obtain ⟨x,g,F,m,j,f⟩:=d it (by simp)
  exact GT (I.ok.hd r) st (by have:n<=i:=l;omega) fun h' G=>⟨rfl,I.turned (t':=s.toks) (fun b o a e=>G b o a e) x g m j f⟩
 self:=fun _ _ _ _ _ st h=>GU st h
section
variable{X:Cx}{tg:Ez}
theorem aDB{a5:List (Az×Obj)}{σ:St}{H:Hp}{s:S9}{R:It->Hp->Prop}{E:V9->S9->Prop}{lo hi:Int}{t u v:Tok}{a:Nat}(I:Inv X a5 σ H s)(h1 : -(2 ^ 62)<=lo)(h2:lo < 2 ^ 62)(g : -(2 ^ 62)<=hi)(f:hi < 2 ^ 62)
  (q:R (Itr lo (hi - lo).toNat) H):wpAny (model X.prog X.w) X.A (pyIter (.ref s.heap.objs.size)) (PIE X a5 σ tg R) E {s with heap:=s.heap.push {cls:=.type "range",data:=.fields #[.int lo t,.int hi u,.int 1 v]},toks:=a}:=by
 refine wpAny_pyIter_range (IsRange.new ..) (small_one h1 h2 g f) ?_
 have c:Inv X a5 σ H {s with heap:=s.heap.push {cls:=.type "range",data:=.fields #[.int lo t,.int hi u,.int 1 v]},toks:=a}:=I.kept fun b o e=>AQ _ e
 refine ⟨(s.heap.push {cls:=.type "range",data:=.fields #[.int lo t,.int hi u,.int 1 v]}).objs.size,[(s.heap.push {cls:=.type "range",data:=.fields #[.int lo t,.int hi u,.int 1 v]}).objs.size],_,_,H,rfl,
  c.kept (t':=a) fun b o e=>AQ _ e,aHL _ lo (hi - lo).toNat,?_,fun b d=>?_,q⟩
 .have e1:lo+((0:Nat):Int) * 1=lo:=by simp
  have e2:(((hi - lo).toNat:Nat):Int) - ((0:Nat):Int)=Builtin.Range.rangeSize lo hi 1:=by rw[rangeSize_one];split<;>omega
  show IsRangeIter _ _ (lo+((0:Nat):Int) * 1) ((((hi - lo).toNat:Nat):Int) - ((0:Nat):Int)) 1
  rw[e1,e2]
  exact BE _ rfl
 .have e:b=(s.heap.push {cls:=.type "range",data:=.fields #[.int lo t,.int hi u,.int 1 v]}).objs.size:=by simpa using d
  subst e
  exact c.fpOk (A2 _) (c.hok.fresh (A2 _))
def aNR(ta:TA):TI:=fun σ H R=>ta σ H fun vs H1=>∃ j:Int,vs=[.int j] /\ -(2 ^ 62)<=j/\j < 2 ^ 62/\R (Itr 0 j.toNat) H1
def aNS(ta:TA):TI:=fun σ H R=>ta σ H fun vs H1=>∃ i j:Int,vs=[.int i,.int j]/\(-(2 ^ 62)<=i/\i < 2 ^ 62 /\ -(2 ^ 62)<=j/\j < 2 ^ 62)/\R (Itr i (j - i).toNat) H1
theorem fP{a:Ez}{ta:TA}{p pos:Pos}(l:Gl X "range")(k:X.mg "range"=none)(m:PA X [a] ta)(i:starEach [a] X.env=[(false,eval a X.env)]:=by rfl):PI X tg (.Call (.Name "range" p) [a] [] pos) (aNR ta):=by
 intro a5 s σ H R I h
 refine Call_ (nP I l k boot_range (CO (thn (m pos a5 s σ H _ I h) fun o n c=>?_) i rfl))
 obtain ⟨vs,H1,d,g,b⟩:=c
 obtain ⟨j,e,b,f,q⟩:=b
 subst e
 cases g with
 | cons r rr=>
  cases rr
  obtain ⟨t,rfl⟩:=r
  exact call_range_1 (aDB d (by omega) (by omega) b f (by simpa using q))
theorem tQ{a b:Ez}{ta:TA}{p pos:Pos}(u:Gl X "range")(o:X.mg "range"=none)(v:PA X [a,b] ta)(k:starEach [a,b] X.env=[(false,eval a X.env),(false,eval b X.env)]:=by rfl)(hs2:starEach [b] X.env=[(false,eval b X.env)]:=by rfl) :
  PI X tg (.Call (.Name "range" p) [a,b] [] pos) (aNS ta):=by
 intro a5 s σ H R I h
 refine Call_ (nP I u o boot_range (CO (thn (v pos a5 s σ H _ I h) fun y x d=>?_) (by rw[k,hs2]) (by rw[hs2];rfl)))
 obtain ⟨vs,H1,l,n,c⟩:=d
 obtain ⟨i,j,e,⟨c,g,m,f⟩,q⟩:=c
 subst e
 cases n with
 | cons r rr=>
  cases rr with
  | cons r' rr=>
   cases rr
   obtain ⟨t,rfl⟩:=r
   obtain ⟨w,rfl⟩:=r'
   exact call_range_2 (aDB l c g m f q)
def aLW(wi:TI)(g:TG)(tb:TS):TS:=fun D σ H=>wi σ H fun J H1=>∃ W:Nat->Nat->St->Hp->Prop,(∃ m,W 0 m σ H1)/\∀ i m σ H,W i m σ H->
 (J.stop i H/\D.nx σ H)\/(J.go i H/\∃ N:St->Hp->Prop,(∀ σ' H',N σ' H'->∃ m',m' < m/\W (i+1) m' σ' H')/\∀ x H',J.yld i H x H'->g x σ H' fun σ2 H2=>tb {D with nx:=N,ct:=N,bk:=D.nx} σ2 H2)
noncomputable def tR(fp:List Az)(h:Hz):List (Az×Obj):=fp.filterMap fun b=>(h.get? b).map fun o=>(b,o)
theorem n8{a:List Az}{h:Hz}{b:Az}{o:Obj}(c:b∈a)(e:h.get? b=some o):(b,o)∈tR a h:=List.mem_filterMap.mpr ⟨b,c,by rw[e];rfl⟩
theorem aJH{a:List Az}{h:Hz}{p:Az×Obj}(c:p∈tR a h):p.1∈a/\h.get? p.1=some p.2:=by
 obtain ⟨b,f,e⟩:=List.mem_filterMap.mp c
 cases q:h.get? b with
 | none=>rw[q] at e;cases e
 | some o=>
  rw[q] at e
  have d:(b,o)=p:=CA e
  subst d
  exact ⟨f,q⟩
theorem Inv.pinned{a5:List (Az×Obj)}{σ:St}{H:Hp}{s:S9}{a:List Az}(I:Inv X a5 σ H s)(g:∀ b∈a,k9 X a5 H b)(i:∀ b∈a,∃ o,s.heap.get? b=some o/\∀ v,o.data≠.cell v):Inv X (a5++tR a s.heap) σ H s:=
 I.pins_of fun p k=>(B4.mp k).elim (fun z=>I.pin p (B5 _ z)) fun z=>by
  obtain ⟨c,e⟩:=aJH z
  obtain ⟨l,h,j,_⟩:=g p.1 c
  obtain ⟨o,f,d⟩:=i p.1 c
  rw[e] at f;cases f
  exact ⟨e,l,h,j,d⟩
theorem Inv.unpinned{a5 pl:List (Az×Obj)}{σ:St}{H:Hp}{s:S9}(I:Inv X (a5++pl) σ H s):Inv X a5 σ H s:=I.pins_of fun p a=>I.pin p (B5 _ (EB _ a))
theorem eO{p:Ez}{body:List Stmt}{U:TI}{g:TG}{tb:TS}{pos:Pos}(B:PassesOwn (model X.prog X.w) X.A X.env X.xe)(V:X.calm=true)(hi:PI X tg p U)(hg:PG X tg g)(j:PSs X body tb)
  (hs:∀ x,foldedSetIterable p X.env x=pure x:=by intro _;rfl):PS X (.For tg p body [] pos) (aLW U g tb):=by
 intro a5 s σ H D I h
 refine wpAny_For (thn (hi a5 s σ H _ I h) fun v s1 h1=>thn h1 fun aa s2 h2=>?_) hs
 obtain ⟨it,E,S,J,H2,e,I2,T,M,Y,W,⟨m0,w0⟩,C⟩:=h2
 subst e
 have k:∀ {H':Hp},(∀ b∈E,H' b=none)->∀ b∈E,k9 X a5 H' b:=fun hn b j=>⟨hn b j,(Y b j).2⟩
 refine codeAny_forLoop_any (fun n s'=>∃ i σ' H',Inv X a5 σ' H' s'/\S i s'.heap/\(∀ b∈E,H' b=none)/\W i n σ' H') ?_ m0 ⟨0,σ,H2,I2,M,fun b j=>(Y b j).1,w0⟩
 rintro n Q ⟨i,σ3,H3,I3,st3,fr3,w3⟩
 rcases C i n σ3 H3 w3 with ⟨stop,qn⟩|⟨go,N,Z,step⟩
 .refine DM B (thn (T.done X rfl rfl rfl V i a5 Q σ3 H3 X.xe I3 (k fr3) st3 stop) fun r s4 c=>?_)
  obtain ⟨O,I4⟩:=c
  subst O
  exact E4 ⟨σ3,H3,I4,qn⟩
 .refine DM B (thn (T.item X rfl rfl rfl V i a5 Q σ3 H3 X.xe I3 (k fr3) st3 go) fun r s4 c=>?_)
  obtain ⟨u,O,h4⟩:=c
  subst O
  refine DM B (thn h4 fun _ R c=>?_)
  obtain ⟨x,H5,I5,r5,y5,z,G⟩:=c
  have P:=I5.pinned (k G) (T.obj _ _ z)
  refine DM B (thn (hg _ R σ3 H5 x u _ P r5 (step x H5 y5)) fun _ s6 c=>?_)
  obtain ⟨L,H6,I6,q6⟩:=c
  refine DM B (thn (j _ s6 L H6 _ I6 q6) fun f K y=>?_)
  have l:∀ {a:St} {t:Hp},Inv X (a5++tR E R.heap) a t K->N a t->∃ m,m < n/\∃ i σ' H',Inv X a5 σ' H' K/\S i K.heap/\(∀ b∈E,H' b=none)/\W i m σ' H':=fun {a t} q F=>by
   obtain ⟨m',hm,w7⟩:=Z a t F
   refine ⟨m',hm,i+1,a,t,q.unpinned,T.keep _ _ _ z fun b j o e=>(q.pin (b,o) (B5 _ (B5 _ (n8 j e)))).1,fun b j=>?_,w7⟩
   obtain ⟨o,e,d⟩:=T.obj _ _ z b j
   exact (q.pin (b,o) (B5 _ (B5 _ (n8 j e)))).2.1
  cases f with
  | next=>obtain ⟨a,t,q,F⟩:=y;exact l q F
  | cont=>obtain ⟨a,t,q,F⟩:=y;exact l q F
  | brk=>obtain ⟨a,t,q,y⟩:=y;exact ⟨a,t,q.unpinned,y⟩
  | ret v=>obtain ⟨x7,a,t,q,r7,y⟩:=y;exact ⟨x7,a,t,q.unpinned,r7,y⟩
end
abbrev R2:=V->V->Hp->VK->Prop
def OpR(X:Cx)(f:V9->V9->Sem V9)(r:R2):Prop:=
 ∀ (a5:List (Az×Obj)) (s:S9) (σ:St) (H:Hp) (x y:V) (v u:V9) (Q:VK),Inv X a5 σ H s->cB x v->cB y u->r x y H Q->
  wpAny (model X.prog X.w) X.A (f v u) (EP X a5 σ Q) X.xe s
def UnR(X:Cx)(f:V9->Sem V9)(r:V->Hp->VK->Prop):Prop:=
 ∀ (a5:List (Az×Obj)) (s:S9) (σ:St) (H:Hp) (x:V) (v:V9) (Q:VK),Inv X a5 σ H s->cB x v->r x H Q->
  wpAny (model X.prog X.w) X.A (f v) (EP X a5 σ Q) X.xe s
def nC(X:Cx)(f:V9)(r:List V->Hp->VK->Prop):Prop:=
 ∀ (a5:List (Az×Obj)) (s:S9) (σ:St) (H:Hp) (xs:List V) (us:List V9) (Q:VK),Inv X a5 σ H s->b5 xs us->r xs H Q->
  wpAny (model X.prog X.w) X.A (call f us) (EP X a5 σ Q) X.xe s
def tOp(r:R2)(ta tb:TE):TE:=fun σ H Q=>ta σ H fun x H1=>tb σ H1 fun y H2=>r x y H2 Q
def tUn(r:V->Hp->VK->Prop)(ta:TE):TE:=fun σ H Q=>ta σ H fun x H1=>r x H1 Q
def rI(C:Int->Int->Prop)(g:Int->Int->V):R2:=fun x y H Q=>∃ i j,x=.int i/\y=.int j/\C i j/\Q (g i j) H
def rI0(g:Int->Int->V):R2:=fun x y H Q=>∃ i j,x=.int i/\y=.int j/\Q (g i j) H
def rU(g:Int->V):V->Hp->VK->Prop:=fun x H Q=>∃ i,x=.int i/\Q (g i) H
section
variable{X:Cx}{a b c:Ez}{ta tb tc:TE}{pos:Pos}
theorem aLX(n:PE X a ta)(d:PE X b tb){a5:List (Az×Obj)}{s:S9}{σ:St}{H:Hp}{R:V->V->Hp->Prop}(I:Inv X a5 σ H s)
  (h:ta σ H fun x H1=>tb σ H1 fun y H2=>R x y H2) {Q:V9->S9->Prop} {f:V9->V9->Sem V9}
  (g:∀ v u s2 x y H2,Inv X a5 σ H2 s2->cB x v->cB y u->R x y H2->wpAny (model X.prog X.w) X.A (f v u) Q X.xe s2) :
  wpAny (model X.prog X.w) X.A (eval a X.env) (fun v s₁=>wpAny (model X.prog X.w) X.A (eval b X.env) (fun u s₂=>wpAny (model X.prog X.w) X.A (f v u) Q X.xe s₂) X.xe s₁) X.xe s:=by
 refine thn (n a5 s σ H _ I h) fun v k c=>?_
 obtain ⟨x,H1,i,l,e⟩:=c
 refine thn (d a5 k σ H1 _ i e) fun u s2 c=>?_
 obtain ⟨y,H2,m,o,j⟩:=c
 exact g v u s2 x y H2 m l o j
theorem aHM{c:Operator}{r:R2}(g:OpR X (binaryOp c) r)(k:PE X a ta)(d:PE X b tb):PE X (.BinOp a c b pos) (tOp r ta tb):=by
 intro a5 s σ H Q I h
 exact wpAny_BinOp (aLX k d I h fun v u e x y H2 i j f q=>g a5 e σ H2 x y v u Q i j f q)
theorem aTP{b:UnaryOp}{r:V->Hp->VK->Prop}(e:UnR X (unaryOp b) r)(i:PE X a ta):PE X (.UnaryOp b a pos) (tUn r ta):=by
 intro a5 s σ H Q I h
 exact UnaryOp_ (thn (i a5 s σ H _ I h) fun v g ⟨x,H1,d,f,c⟩=>e a5 g σ H1 x v Q d f c)
theorem opI{f:V9->V9->Sem V9}{C:Int->Int->Prop}{g:Int->Int->Int}
  (a:∀ (i j:Int) (t u:Tok) (s:S9) (Q:V9->S9->Prop) (E:V9->S9->Prop),C i j->Q (.int (g i j) s.toks) {s with toks:=s.toks+1}->wpAny (model X.prog X.w) X.A (f (.int i t) (.int j u)) Q E s) :
  OpR X f (rI C fun i j=>.int (g i j)):=by
 intro a5 s σ H x y v u Q I e b h
 obtain ⟨i,j,rfl,rfl,c,q⟩:=h
 obtain ⟨t,rfl⟩:=e
 obtain ⟨d,rfl⟩:=b
 exact a i j t d s _ _ c ⟨.int (g i j),H,I.tok _,⟨_,rfl⟩,q⟩
theorem aQ3{f:V9->V9->Sem V9}{g:Int->Int->Int}
  (a:∀ (i j:Int) (t u:Tok) (s:S9) (Q:V9->S9->Prop) (E:V9->S9->Prop),Q (.int (g i j) s.toks) {s with toks:=s.toks+1}->wpAny (model X.prog X.w) X.A (f (.int i t) (.int j u)) Q E s) :
  OpR X f (rI0 fun i j=>.int (g i j)):=by
 intro a5 s σ H x y v u Q I c b h
 obtain ⟨i,j,rfl,rfl,q⟩:=h
 obtain ⟨t,rfl⟩:=c
 obtain ⟨d,rfl⟩:=b
 exact a i j t d s _ _ ⟨.int (g i j),H,I.tok _,⟨_,rfl⟩,q⟩
theorem aLY{f:V9->V9->Sem V9}{g:Int->Int->Bool}
  (a:∀ (i j:Int) (t u:Tok) (s:S9) (Q:V9->S9->Prop) (E:V9->S9->Prop),Q (.bool (g i j)) s->wpAny (model X.prog X.w) X.A (f (.int i t) (.int j u)) Q E s) :
  OpR X f (rI0 fun i j=>.bl (g i j)):=by
 intro a5 s σ H x y v u Q I c b h
 obtain ⟨i,j,rfl,rfl,q⟩:=h
 obtain ⟨t,rfl⟩:=c
 obtain ⟨d,rfl⟩:=b
 exact a i j t d s _ _ ⟨.bl (g i j),H,I,rfl,q⟩
def aLZ(i j:Int):Prop:=(-(2 ^ 64) < i/\i < 2 ^ 64)\/(-(2 ^ 64) < j/\j < 2 ^ 64)
theorem aLZ.ok{i j:Int}(h:aLZ i j):IntMulOk i j:=by
 rcases h with ⟨h1,h2⟩|⟨h1,h2⟩
 · exact .of_left (intBits_le_64 h1 h2)
 · exact .of_right (intBits_le_64 h1 h2)
theorem aQ4:OpR X (binaryOp .Add) (rI0 fun i j=>.int (i+j)):=aQ3 fun _ _ _ _ _ _ _ q=>add_int q
theorem aQ5:OpR X (binaryOp .Sub) (rI0 fun i j=>.int (i - j)):=aQ3 fun _ _ _ _ _ _ _ q=>sub_int q
theorem aQ6:OpR X (binaryOp .Mult) (rI aLZ fun i j=>.int (i * j)):=opI fun _ _ _ _ _ _ _ a q=>mul_int q a.ok
theorem aQ7:OpR X (binaryOp .Mod) (rI (fun _ j=>0 < j) fun i j=>.int (i % j)):=opI fun i j _ _ _ _ _ a q=>by
 have h1:(0:Int) < j:=a
 exact mod_int' (by omega) (by rw[Int.fmod_eq_emod_of_nonneg i (by omega)];exact q)
theorem unI{f:V9->Sem V9}{g:Int->Int}
  (a:∀ (i:Int) (t:Tok) (s:S9) (Q:V9->S9->Prop) (E:V9->S9->Prop),Q (.int (g i) s.toks) {s with toks:=s.toks+1}->wpAny (model X.prog X.w) X.A (f (.int i t)) Q E s) :
  UnR X f (rU fun i=>.int (g i)):=by
 intro a5 s σ H x v Q I b h
 obtain ⟨i,rfl,q⟩:=h
 obtain ⟨t,rfl⟩:=b
 exact a i t s _ _ ⟨.int (g i),H,I.tok _,⟨_,rfl⟩,q⟩
theorem aQ8:UnR X (unaryOp .USub) (rU fun i=>.int (-i)):=unI fun _ _ _ _ _ q=>neg_int q
end
section
variable{X:Cx}{a b c:Ez}{ta tb tc:TE}{pos:Pos}
theorem aDC{a5:List (Az×Obj)}{σ:St}{H:Hp}{s:S9}{Q:VK}{k a:Bool}(I:Inv X a5 σ H s)(q:Q (.bl k) H)(e:k=a):EP X a5 σ Q (.bool a) s:=by
 subst e
 exact ⟨.bl k,H,I,rfl,q⟩
theorem aTQ:OpR X (compareOp .Lt) (rI0 fun i j=>.bl (decide (i < j))):=aLY fun _ _ _ _ _ _ _ q=>lt_int q
theorem aTR:OpR X (compareOp .LtE) (rI0 fun i j=>.bl (decide (i<=j))):=aLY fun _ _ _ _ _ _ _ q=>le_int q
theorem aTS:OpR X (compareOp .Gt) (rI0 fun i j=>.bl (decide (j < i))):=aLY fun _ _ _ _ _ _ _ q=>gt_int q
theorem aJI:OpR X (compareOp .In) (fun x y H Q=>∃ i j,x=.str i/\y=.str j/\Q (.bl (!(Builtin.Str.occurrences j i 0 j.length 1).isEmpty)) H):=by
 intro a5 s σ H x y v u Q I b a h
 obtain ⟨i,j,rfl,rfl,q⟩:=h
 obtain ⟨t,rfl⟩:=b
 obtain ⟨c,rfl⟩:=a
 exact in_str (aDC I q rfl)
theorem aOP:OpR X (compareOp .IsNot) (fun x y H Q=>y=.non/\Q (.bl (!decide (x=.non))) H):=by
 intro a5 s σ H x y v u Q I a b h
 obtain ⟨rfl,q⟩:=h
 cases b
 refine isnot_none_gen (aDC I q ?_)
 cases x<;>first
  | (cases a;rfl)
  | (obtain ⟨t,rfl⟩:=a;rfl)
theorem aDD:OpR X (compareOp .NotIn) (fun x y H Q=>∃ i j,x=.str i/\y=.str j/\Q (.bl (!(!(Builtin.Str.occurrences j i 0 j.length 1).isEmpty))) H):=by
 intro a5 s σ H x y v u Q I b a h
 obtain ⟨i,j,rfl,rfl,q⟩:=h
 obtain ⟨t,rfl⟩:=b
 obtain ⟨c,rfl⟩:=a
 exact notIn_str (aDC I q rfl)
theorem bK(b:Ez){a:CmpOp}(h:a≠.In:=by decide)(h2:a≠.NotIn:=by decide):behindInMarks a b=false:=by
 have e1:(a == CmpOp.In)=false:=by cases a<;>first|rfl|exact absurd rfl h
 have e2:(a == CmpOp.NotIn)=false:=by cases a<;>first|rfl|exact absurd rfl h2
 cases b<;>simp[behindInMarks,e1,e2]
theorem aOQ{c:CmpOp}{r:R2}(g:OpR X (compareOp c) r)(l:PE X a ta)(d:PE X b tb)(j:behindInMarks c b=false):PE X (.Compare a [c] [b] pos) (tOp r ta tb):=by
 intro a5 s σ H Q I h
 exact wpAny_Compare1 (aLX l d I h fun v u e x y H2 i k f q=>g a5 e σ H2 x y v u Q i k f q) j
def aHN(t:TE):TT:=fun σ H Q=>t σ H fun x H'=>∃ k,x=.bl k/\Q k H'
theorem qD{d:CmpOp}{r:R2}(j:OpR X (compareOp d) r)(C:PE X a ta)(f:PE X b tb)(B:behindInMarks d b=false):PT X (.Compare a [d] [b] pos) (aHN (tOp r ta tb)):=by
 intro a5 s σ H Q I h
 refine wpAny_isTrue_Compare1 (thn (C a5 s σ H _ I h) fun v q ⟨x,H1,o,t,i⟩=>thn (f a5 q σ H1 _ o i) fun u g ⟨y,H2,A,m,l⟩=>
  thn (j a5 g σ H2 x y v u _ A t m l) fun c D ⟨z,H3,n,w,k,e,p⟩=>?_) B
 subst e
 cases w
 exact DC ⟨H3,n,p⟩
theorem tS:(sizeLine:Nat) < 2 ^ 63:=by rw[GV];decide
theorem aHO:OpR X (binaryOp .Add) (fun x y H Q=>∃ i j,x=.str i/\y=.str j/\i.length+j.length<=sizeLine/\Q (.str (i++j)) H):=by
 intro a5 s σ H x y v u Q I d a h
 obtain ⟨i,j,rfl,rfl,c,q⟩:=h
 obtain ⟨t,rfl⟩:=d
 obtain ⟨b,rfl⟩:=a
 exact add_str (fun b e=>⟨.str (i++j),H,I.tok _,⟨_,rfl⟩,q⟩) c
theorem xT{x:V}{us:List V9}(r:b5 [x] us):∃ u,us=[u]/\cB x u:=by
 cases r with
 | cons r1 r2=>cases r2;exact ⟨_,rfl,r1⟩
theorem aCR{x y:V}{us:List V9}(r:b5 [x,y] us):∃ u w',us=[u,w']/\cB x u/\cB y w':=by
 cases r with
 | cons r1 r2=>
  cases r2 with
  | cons r3 r4=>cases r4;exact ⟨_,_,rfl,r1,r3⟩
theorem aA9(b:X.calm=true):nC X (.builtin "min") (fun xs H Q=>∃ i j,xs=[.int i,.int j]/\Q (.int (if j < i then j else i)) H):=by
 intro a5 s σ H xs d Q I r h
 obtain ⟨i,j,rfl,q⟩:=h
 obtain ⟨u,f,rfl,⟨t,rfl⟩,⟨c,rfl⟩⟩:=aCR r
 refine min_two_ints (I.ok.hd b) fun h' e k=>⟨_,H,I.kept k,?_,q⟩
 by_cases a:j < i
 · rw [AA a, AA a]; exact ⟨_, rfl⟩
 · rw [AE a, AE a]; exact ⟨_, rfl⟩
theorem fQ:nC X (.type "int") (fun xs H Q=>(∃ i,xs=[.int i]/\Q (.int i) H)\/∃ k,xs=[.bl k]/\Q (.int (if k then 1 else 0)) H):=by
 intro a5 s σ H xs b Q I r h
 rcases h with ⟨i,rfl,q⟩|⟨k,rfl,q⟩
 .obtain ⟨u,rfl,t,rfl⟩:=xT r
  exact call_int_int ⟨.int i,H,I,⟨_,rfl⟩,q⟩
 .obtain ⟨u,rfl,a⟩:=xT r
  cases a
  exact call_int_bool ⟨.int (if k then 1 else 0),H,I.tok _,⟨_,rfl⟩,q⟩
def aQ9(K:Frag)(x:V)(H:Hp)(n:Nat):Prop:=
 match x with
 | .str y=>y.length<=sizeLine/\n=y.length
 | .byt y=>y.size<=sizeLine/\n=y.size
 | .ref p=>(∃ xs,SqL K H p xs/\n=xs.length)\/∃ xs,SqT K H p xs/\n=xs.length
 | _=>False
theorem dQ:nC X (.builtin "len") (fun xs H Q=>∃ x n,xs=[x]/\aQ9 X.K x H n/\Q (.int n) H):=by
 intro a5 s σ H xs o Q I r h
 obtain ⟨x,n,rfl,e,q⟩:=h
 obtain ⟨u,rfl,f⟩:=xT r
 have m:=tS
 have l:sizeLine=16777216:=GV
 cases x with
 | str y=>
  obtain ⟨t,rfl⟩:=f
  obtain ⟨j,b⟩:y.length<=sizeLine/\n=y.length:=e
  subst b
  exact len_str (by omega) ⟨.int _,H,I.tok _,⟨_,rfl⟩,q⟩
 | byt y=>
  obtain ⟨t,rfl⟩:=f
  obtain ⟨j,b⟩:y.size<=sizeLine/\n=y.size:=e
  subst b
  exact PySem.W.len_bytes (by omega) ⟨.int _,H,I.tok _,⟨_,rfl⟩,q⟩
 | ref p=>
  cases f
  have b:(∃ xs,SqL X.K H p xs/\n=xs.length)\/∃ xs,SqT X.K H p xs/\n=xs.length:=e
  rcases b with ⟨xs,g,b⟩|⟨xs,g,b⟩
  .subst b
   obtain ⟨i,c,d,k⟩:=I.list g
   have a:=c.length
   exact Calls.call_len_list d.isList (by simp only[BJ];omega) ⟨.int xs.length,H,I.tok _,⟨_,by simp only[BJ];rw[a]⟩,q⟩
  .subst b
   obtain ⟨i,c,d,k⟩:=I.tuple g
   have a:=c.length
   exact len_tuple d (by simp only[BJ];omega) ⟨.int xs.length,H,I.tok _,⟨_,by simp only[BJ];rw[a]⟩,q⟩
 | _=>exact (show False from e).elim
end
structure ObjM(h:Heap)(x dx C:Az)(mA:Str->Option V9):Prop where
 obj:h.get? x=some (PySem.W.instObj C dx)
 ns:h.Ns1 dx mA
 ne:dx≠x
theorem aBA{h:Hz}{dx:Az}{mA:Str->O6 V9}(n:h.Ns1 dx mA):∃ od,h.get? dx=some od/\∀ name,PySem.W.lookIn name od=some (mA name):=by
 obtain ⟨o,es,k,g,i,j,_,d⟩:=n
 refine ⟨o,g,fun name=>?_⟩
 have e:=d name
 unfold nsFind findBy at e
 rw[<-Array.find?_toList] at e
 unfold PySem.W.lookIn
 rw[i]
 dsimp only
 split
 .rename_i y q
  rw[q] at e
  exact FF some e
 .rename_i q
  rw[q] at e
  have a:es.toList.any (·.refKey)=false:=by
   rw[List.any_eq_false]
   intro y f
   obtain ⟨z,t,b⟩:=j y (Array.mem_toList_iff.mp f)
   simp[DictEntry.refKey,b]
  have c:¬ es.toList.any (·.refKey)=true:=by rw[a];exact CW
  rw[AE c]
  exact FF some e
theorem ObjM.look{h:Hz}{x dx C:Az}{mA:Str->O6 V9}(I:ObjM h x dx C mA):∃ od,PySem.W.InstAt h x (PySem.W.instObj C dx) C (some od)/\∀ name,PySem.W.lookIn name od=some (mA name):=
 let ⟨od,ho,hl⟩:=aBA I.ns
 ⟨od,⟨I.obj,rfl,rfl,ho⟩,hl⟩
section
variable{prog:P9}{w:W9}{A:U9}{E:V9->S9->Prop}{s:S9}{K:Frag}{x dx C f:Az}{mA:Str->O6 V9}{name:Str}{v:V9}
theorem aOR{a:Bool}{Q:V9->S9->Prop}(X:K.In s.heap)(I:ObjM s.heap x dx C mA)(g:PySem.W.plainGet K C name=true)(e:PySem.W.hasDictIn K C=true)
  (c:PySem.W.findIn K (.ref C) name=some none) (f:mA name=some v) (b:PySem.W.handedIn v=true) (h:Q v {s with toks:=s.toks+1}) :
  wpAny (model prog w) A (getAttr (.ref x) name a) Q E s:=by
 obtain ⟨od,J,d⟩:=I.look
 exact PySem.W.get_value X J (FD g).1 (PySem.W.findObj_own e c rfl (by rw[d,f])) b h
theorem aL0{pl:Sem Bool}{Q:V9×List V9->S9->Prop}(X:K.In s.heap)(I:ObjM s.heap x dx C mA)(a:PySem.W.plainGet K C name=true)
  (c:PySem.W.findIn K (.ref C) name=some (some (.ref f))) (b:PySem.W.isFn K (.ref f)=true) (e:mA name=none) (h:Q (.ref f,[.ref x]) s) :
  wpAny (model prog w) A (getMethod (.ref x) name pl) Q E s:=by
 obtain ⟨od,J,d⟩:=I.look
 exact PySem.W.method_fn X J (FD a).1 (FD a).2 c (EN.mp b) (by show (PySem.W.lookIn name od).map (·.isSome)=some false;rw[d,e];rfl) h
theorem aOS{ns:List Str}{Q:Unit->S9->Prop}(X:K.In s.heap)(I:ObjM s.heap x dx C mA)
  (k:PySem.W.findIn K (.ref C) "__setattr__"=some (some (.builtin "object.__setattr__"))) (j:PySem.W.plainOver K C=true) (n:PySem.W.takerIn K C name=some none) (p:PySem.W.hasDictIn K C=true)
  (hw:PySem.Within mA ns) (hsz:ns.length<=sizeLine)
  (h:∀ h',ObjM h' x dx C (fun y=>if y=name then some v else mA y)->Heap.SameBut dx s.heap h'->Q () {s with heap:=h',toks:=s.toks+2}) :
  wpAny (model prog w) A (setAttr (.ref x) name v) Q E s:=by
 obtain ⟨od,J,t⟩:=I.look
 refine PySem.W.set_plain X J k (PySem.W.osa_open (s:={s with toks:=s.toks+1}) (r:=none) X J j n fun b=>?_)
 obtain ⟨cd,o,i⟩:=PySem.W.any_some p
 have m:s.heap.get? x=some ⟨.ref C,some dx,.plain,#[]⟩:=I.obj
 refine AD (A1 (AD (AD (wpAny_loadPart m (AD (PySem.W.Looks.here (s:={s with toks:=s.toks+1}) (PySem.W.looks_clsIn X o) ?_))))))
 rw[i]
 refine A1 (a:=some dx) (AD (A1 (AD ?_)))
 refine wpAny_nsSet1 (s:={s with toks:=s.toks+1}) I.ns fun h' c d=>?_
 obtain ⟨u,q,l,e,g,f⟩:=c.count (PySem.Within.cons name v hw)
 refine AD (wpAny_lookBehind e (by rw[g];exact pastItsLine_dict (BY f (by rw[AG];omega))) ?_)
 exact A1 (h _ ⟨(d.2 _ (BU I.ne)).trans I.obj,c,I.ne⟩ d)
theorem aL1{R:Result->S9->Prop}{vs:List V9}{b:List (Str×V9)}(X:K.In s.heap)(e:PySem.W.makesIn K C=true)
  (hi:PySem.W.findIn K (.ref C) "__init__"=some (some (.ref f))) (c:PySem.W.typeIn K (.ref f)=some (.type "function"))
  (h:codeAny (model prog w) (A.under (.builtin "type.__call__" ⟨.ref C::vs,b⟩)) (.call (.ref f) ⟨.ref (s.heap.objs.size+1)::vs,b⟩) (PySem.W.InitBack (s.heap.objs.size+1) R)
   {s with heap:=(s.heap.push PySem.W.emptyDict).push (PySem.W.instObj C s.heap.objs.size)}) :
  codeAny (model prog w) A (.call (.ref C) ⟨vs,b⟩) R s:=by
 obtain ⟨i,g,d,t,os⟩:=s
 exact PySem.W.make_core (PySem.W.makes_of X e) (PySem.W.looks_findIn X hi) (fun a=>PySem.W.bind_fn X a c) (.inl rfl) h
end
noncomputable def lC(f:Str)(v:V):List (Str×V)->List (Str×V)
 | []=>[(f,v)]
 | (g,x)::r=>if g=f then (g,v)::r else (g,x)::lC f v r
theorem wE(f g:Str)(v:V):∀ fs:List (Str×V),(lC f v fs).lookup g=if g=f then some v else fs.lookup g
 | []=>by
  show List.lookup g [(f,v)]=_
  by_cases h:g=f
  .have hb:(g == f)=true:=EN.mpr h
   simp only[List.lookup,hb,AA h]
  .have hb:(g == f)=false:=DS.mpr h
   simp only[List.lookup,hb,AE h]
 | (k,x)::r=>by
  have b:=wE f g v r
  rw[show lC f v ((k,x)::r)=(if k=f then (k,v)::r else (k,x)::lC f v r) from rfl]
  by_cases a:k=f
  .rw[AA a]
   by_cases h:g=k
   .have hb:(g == k)=true:=EN.mpr h
    simp only[List.lookup,hb,AA (h.trans a)]
   .have hb:(g == k)=false:=DS.mpr h
    simp only[List.lookup,hb,AE (fun e:g=f=>h (e.trans a.symm))]
  .rw[AE a]
   by_cases h:g=k
   .have hb:(g == k)=true:=EN.mpr h
    simp only[List.lookup,hb,AE (fun e:g=f=>a (h.symm.trans e))]
   .have hb:(g == k)=false:=DS.mpr h
    simp only[List.lookup,hb]
    exact b
theorem tT(f:Str)(v:V):∀ fs:List (Str×V),f∈(lC f v fs).map (·.1)/\∀ g,g∈fs.map (·.1)->g∈(lC f v fs).map (·.1)
 | []=>⟨by simp[lC],fun g h=>by simp at h⟩
 | (k,x)::r=>by
  obtain ⟨i1,i2⟩:=tT f v r
  rw[show lC f v ((k,x)::r)=(if k=f then (k,v)::r else (k,x)::lC f v r) from rfl]
  by_cases a:k=f
  .rw[AA a]
   subst a
   exact ⟨by simp,fun g h=>by simpa using h⟩
  .rw[AE a]
   refine ⟨?_,fun g h=>?_⟩
   .rw[AI]
    exact A9 _ i1
   .rw[AI] at h ⊢
    rcases AY.mp h with e|e
    · exact AY.mpr (.inl e)
    · exact A9 _ (i2 g e)
theorem wF(f:Str)(v:V):∀ fs:List (Str×V),(lC f v fs).length<=fs.length+1
 | []=>by simp[lC]
 | (k,x)::r=>by
  have ih:=wF f v r
  rw[show lC f v ((k,x)::r)=(if k=f then (k,v)::r else (k,x)::lC f v r) from rfl]
  by_cases a:k=f
  · rw [AA a, AG, AG]; omega
  · rw [AE a, AG, AG]; omega
theorem mN.some_of{v:V}{o:O6 V9}(r:mN (some v) o):∃ u,o=some u/\cB v u:=by
 cases o with
 | none=>exact (show False from r).elim
 | some u=>exact ⟨u,rfl,r⟩
theorem mN.none_of{o:O6 V9}(r:mN none o):o=none:=by
 cases o with
 | none=>rfl
 | some u=>exact (show False from r).elim
theorem aJJ{v:V}{u:V9}(r:cB v u):PySem.W.handedIn u=true:=by
 cases v with
 | non=>cases (show u=Value.none from r);rfl
 | bl b=>cases (show u=Value.bool b from r);rfl
 | int i=>obtain ⟨t,e⟩:=(show ∃ t,u=Value.int i t from r);cases e;rfl
 | str x=>obtain ⟨t,e⟩:=(show ∃ t,u=Value.str x t from r);cases e;rfl
 | byt b=>obtain ⟨t,e⟩:=(show ∃ t,u=Value.bytes b t from r);cases e;rfl
 | flt b=>obtain ⟨t,e⟩:=(show ∃ t,u=Value.float b t from r);cases e;rfl
 | ref a=>cases (show u=Value.ref a from r);rfl
 | ty n=>cases (show u=Value.type n from r);rfl
section
variable{P:P9}{w:W9}{H H':Hp}{h h':Hz}{a C dx:Az}{fs fs':List (Str×V)}
theorem uZ(b:HOk P w H h)(e:H a=some (.ins C dx fs)):∃ mA,ObjM h a dx C mA/\(∀ f,mN (fs.lookup f) (mA f))/\PySem.Within mA (fs.map (·.1))/\fs.length<=1000/\H dx=some (.own a):=by
 obtain ⟨d,z,c,g,mA,n,r,q⟩:=(show eH P w H h a (.ins C dx fs) from b a _ e)
 exact ⟨mA,⟨g,n,c⟩,r,q,z,d⟩
end
structure Cls(K:Frag)(C:Az):Prop where
 pg:PySem.W.plainGet K C Str.empty=true
 hd:PySem.W.hasDictIn K C=true
 po:PySem.W.plainOver K C=true
 sa:PySem.W.findIn K (.ref C) "__setattr__"=some (some (.builtin "object.__setattr__"))
theorem Cls.get{K:Frag}{C:Az}(c:Cls K C)(f:Str):PySem.W.plainGet K C f=true:=c.pg
def eG(K:Frag)(C:Az)(f:Str):Prop:=PySem.W.findIn K (.ref C) f=some none
theorem eG.taker{K:Frag}{C:Az}{f:Str}(n:eG K C f):PySem.W.takerIn K C f=some none:=by
 unfold PySem.W.takerIn
 rw[show PySem.W.findIn K (.ref C) f=some none from n]
 rfl
structure Meth(K:Frag)(C:Az)(m:Str)(f:Az):Prop where
 at_:PySem.W.findIn K (.ref C) m=some (some (.ref f))
 fn:PySem.W.isFn K (.ref f)=true
 kp:PySem.W.keepIn K (.ref f)=true
section
variable{X:Cx}{a5:List (Az×Obj)}{σ:St}{H:Hp}{s:S9}{a C dx:Az}{fs:List (Str×V)}{f:Str}{v:V}{A:U9}{E:V9->S9->Prop}
theorem aHP{b:Bool}{Q:V9->S9->Prop}(I:Inv X a5 σ H s)(e:H a=some (.ins C dx fs))(c:Cls X.K C)(n:eG X.K C f)(l:fs.lookup f=some v)
  (h:∀ u s',Inv X a5 σ H s'->cB v u->Q u s'):wpAny (model X.prog X.w) A (getAttr (.ref a) f b) Q E s:=by
 obtain ⟨mA,O,r,_,_,_⟩:=uZ I.hok e
 obtain ⟨u,g,d⟩:=mN.some_of (v:=v) (o:=mA f) (by rw[<-l];exact r f)
 exact aOR I.kIn O (c.get f) c.hd n g (aJJ d) (h u _ (I.tok _) d)
theorem aHQ{m:Str}{g:Az}{pl:Sem Bool}{Q:V9×List V9->S9->Prop}(I:Inv X a5 σ H s)(e:H a=some (.ins C dx fs))(c:Cls X.K C)(k:Meth X.K C m g)(l:fs.lookup m=none)
  (h:Q (.ref g,[.ref a]) s):wpAny (model X.prog X.w) A (getMethod (.ref a) m pl) Q E s:=by
 obtain ⟨mA,O,r,_,_,_⟩:=uZ I.hok e
 have b:mA m=none:=mN.none_of (by rw[<-l];exact r m)
 exact aL0 I.kIn O (c.get m) k.at_ k.fn b h
theorem aHR{y:V}{u:V9}{Q:Unit->S9->Prop}(I:Inv X a5 σ H s)(e:H a=some (.ins C dx fs))(c:Cls X.K C)(n:eG X.K C f)(v:fs.length < 1000)(l:cB y u)
  (h:∀ s',Inv X a5 σ (upd H a (.ins C dx (lC f y fs))) s'->Q () s'):wpAny (model X.prog X.w) A (setAttr (.ref a) f u) Q E s:=by
 obtain ⟨mA,O,r,j,_,i⟩:=uZ I.hok e
 have p:(fs.map (·.1)).length<=sizeLine:=by rw[AH,GV];omega
 refine aOS I.kIn O c.sa c.po n.taker c.hd j p fun h' d m=>h _ ?_
 have hd:∃ o,h'.get? dx=some o:=let ⟨o,_,_,e',_⟩:=d.ns;⟨o,e'⟩
 refine I.write (x:=a) (e:=dx) (by rw[e];exact True.intro) (.inr i) (fun b q k z=>(m.2 b k).trans z) hd ?_
 refine ⟨by rw[bB O.ne];exact i,?_,O.ne,d.obj,_,d.ns,fun g=>?_,fun g t=>?_⟩
 .have:=wF f y fs;omega
 .show mN ((lC f y fs).lookup g) (if g=f then some u else mA g)
  rw[wE]
  by_cases q:g=f
  .rw[AA q,AA q];exact l
  .rw[AE q,AE q];exact r g
 .by_cases q:g=f
  .rw[q];exact (tT f y fs).1
  .refine (tT f y fs).2 g (j g fun z=>t ?_)
   show (if g=f then some u else mA g)=none
   rw[AE q];exact z
theorem Inv.made(I:Inv X a5 σ H s):Inv X a5 σ (upd (upd H s.heap.objs.size (.own (s.heap.objs.size+1))) (s.heap.objs.size+1) (.ins C s.heap.objs.size []))
  {s with heap:=(s.heap.push PySem.W.emptyDict).push (PySem.W.instObj C s.heap.objs.size)}:=by
 have e1:(s.heap.push PySem.W.emptyDict).get? s.heap.objs.size=some PySem.W.emptyDict:=BE s.heap rfl
 have e2:((s.heap.push PySem.W.emptyDict).push (PySem.W.instObj C s.heap.objs.size)).get? (s.heap.objs.size+1)=some (PySem.W.instObj C s.heap.objs.size):=by
  have:=BE (s.heap.push PySem.W.emptyDict) (o:=PySem.W.instObj C s.heap.objs.size) rfl
  rwa [C6] at this
 have h:(s.heap.push PySem.W.emptyDict).Ns s.heap.objs.size (fun _=>none):=⟨PySem.W.emptyDict,#[],_,e1,rfl,(fun e g=>absurd g (by simp)),fun _=>rfl⟩
 have d:=I.laid (a:=s.heap.objs.size) (o:=.own (s.heap.objs.size+1)) (h':=s.heap.push PySem.W.emptyDict) (t':=s.toks) (fun b u q=>AQ _ q) (A2 _) ⟨_,e1⟩
 refine d.laid (a:=s.heap.objs.size+1) (o:=.ins C s.heap.objs.size []) (t':=s.toks) (fun b u q=>AQ _ q) (Nat.le_of_eq (C6 _ _)) ?_
 have c:s.heap.objs.size≠s.heap.objs.size+1:=B8 (EX _)
 refine ⟨by rw[bB c,bQ],B3 _,c,e2,fun _=>none,(Heap.Ns1.of_empty h).at fun o q=>AQ _ q,fun _=>True.intro,fun y f=>absurd rfl f⟩
theorem aOT{prog:P9}{w:W9}{env:Env}{e:Ez}{f:Str}{pos:Pos}{s:S9}{Q:V9->S9->Prop}(a:attributeBase e f env (eval e env)=eval e env)
  (h:wpAny (model prog w) A (eval e env) (fun o s₁=>wpAny (model prog w) A (getAttr o f true) Q E s₁) E s):wpAny (model prog w) A (eval (.Attribute e f pos) env) Q E s:=
 Attribute_any_ h (by rw[arm_eval_Attribute,a])
end
def aRA(K:Frag)(ta:TE)(f:Str):TE:=fun σ H Q=>ta σ H fun x H1=>∃ a C dx fs v,x=.ref a/\H1 a=some (.ins C dx fs)/\Cls K C/\eG K C f/\fs.lookup f=some v/\Q v H1
def aUV(K:Frag)(ta tv:TE)(f:Str):TS:=fun D σ H=>tv σ H fun y H1=>ta σ H1 fun x H2=>∃ a C dx fs,x=.ref a/\H2 a=some (.ins C dx fs)/\Cls K C/\eG K C f/\fs.length < 1000 /\
 D.nx σ (upd H2 a (.ins C dx (lC f y fs)))
section
variable{X:Cx}{o e value:Ez}{f:Str}{pos pos' tpos:Pos}{ta tv:TE}
theorem jW(k:PE X e ta)(d:attributeBase e f X.env (eval e X.env)=eval e X.env):PE X (.Attribute e f pos) (aRA X.K ta f):=by
 intro a5 s σ H Q I h
 refine aOT d (thn (k a5 s σ H _ I h) fun u t b=>?_)
 obtain ⟨x,H1,m,j,a,C,dx,fs,v,ex,i,c,n,l,q⟩:=b
 subst ex
 obtain rfl:u=Value.ref a:=j
 exact aHP m i c n l fun r p o g=>⟨v,H1,o,g,q⟩
theorem qE(w:PE X o ta)(v:PE X value tv)(g:swapsWith value (some (.Attribute o f pos')) pos.line X.env=pure false):PS X (.Assign [.Attribute o f pos'] value pos) (aUV X.K ta tv f):=by
 intro a5 s σ H D I h
 refine plainObj_wpAny_Assign_Attribute (thn (v a5 s σ H _ I h) fun u r ⟨y,H1,p,m,q⟩=>thn (w a5 r σ H1 _ p q) fun k z b=>?_) g
 obtain ⟨x,H2,t,i,a,C,dx,fs,ex,e,c,n,l,d⟩:=b
 subst ex
 obtain rfl:k=Value.ref a:=i
 exact aHR t e c n l m fun A j=>⟨σ,_,j,d⟩
theorem aFQ{pl:Sem Bool}{m:Str}{apos:Pos}{args:List Ez}{a5:List (Az×Obj)}{s:S9}{σ:St}{H:Hp}{Q:V9->S9->Prop}{te:TE}(o:PE X e te)(I:Inv X a5 σ H s)
  (h:te σ H fun x H1=>∃ a C dx fs g,x=.ref a/\H1 a=some (.ins C dx fs)/\Cls X.K C/\Meth X.K C m g/\fs.lookup m=none /\
   ∀ s1,Inv X a5 σ H1 s1->wpAny (model X.prog X.w) X.A (callWith pos (.ref g) [.ref a] (backTo pos (starEach args X.env)) (backToKw pos (keywordEach [] X.env))) Q X.xe s1)
  (i:eval (.Call (.Attribute e m apos) args [] pos) X.env=(do
   let ov <-eval e X.env
   standAt apos.atName
   let (f,first) <-holding [ov] (getMethod ov m pl)
   callWith pos f first (backTo pos (starEach args X.env)) (backToKw pos (keywordEach [] X.env)))) :
  wpAny (model X.prog X.w) X.A (eval (.Call (.Attribute e m apos) args [] pos) X.env) Q X.xe s:=by
 refine GZ (pl:=pl) (thn (o a5 s σ H _ I h) fun u s1 b=>?_) i
 obtain ⟨x,H1,d,n,a,C,dx,fs,g,ex,j,c,k,l,q⟩:=b
 subst ex
 obtain rfl:u=Value.ref a:=n
 exact aHQ d j c k l (q s1 d)
end
section
variable{X:Cx}{a5:List (Az×Obj)}{σ:St}{H:Hp}{s:S9}{A:U9}{E:V9->S9->Prop}{Q:V9->S9->Prop}{c:V9}{b:Bool}
inductive TyOf(K:Frag)(H:Hp):V->V9->Prop where
 | non:TyOf K H .non (.type "NoneType")
 | bl (x:Bool):TyOf K H (.bl x) (.type "bool")
 | int (i:Int):TyOf K H (.int i) (.type "int")
 | str (x:Str):TyOf K H (.str x) (.type "str")
 | flt (x:UInt64):TyOf K H (.flt x) (.type "float")
 | lst {a:Az} {xs:List V} (e:H a=some (.lst xs)):TyOf K H (.ref a) (.type "list")
 | frz {a:Az} {o:Obj} {xs:List V} (e:H a=some (.frz o (.lst xs))):TyOf K H (.ref a) (.type "list")
 | tup {a:Az} {xs:List V} (e:H a=some (.tup xs)):TyOf K H (.ref a) (.type "tuple")
 | dK {a:Az} {a6:List (Key×V)} (e:H a=some (.dK a6)):TyOf K H (.ref a) (.type "dict")
 | dT {a:Az} {a6:List (List Key×V)} (e:H a=some (.dT a6)):TyOf K H (.ref a) (.type "dict")
 | ins {a C dx:Az} {fs:List (Str×V)} (e:H a=some (.ins C dx fs)) (cl:Cls K C) (ha:PySem.W.findIn K (.ref C) "__class__"=some (some (.builtin "object.__class__")))
  (hn:PySem.W.specialIn K (.builtin "object.__class__") "__get__"=some (some (.builtin "getset_descriptor.__get__"))) (htk:PySem.W.takesIn K (.builtin "object.__class__")=some true)
  (hm:PySem.W.mroIn K C (.type "object")=some true):TyOf K H (.ref a) (.ref C)
theorem aJK{x:V}{u t:V9}(I:Inv X a5 σ H s)(d:cB x u)(ty:TyOf X.K H x t)(e:PySem.W.kitOne X.K t c=some b)(h:∀ tk,Q (.bool b) {s with toks:=tk}) :
  wpAny (model X.prog X.w) A (call (.builtin "isinstance") [u,c]) Q E s:=by
 cases ty with
 | non=>cases (show u=Value.none from d);exact CB PySem.W.kitx_none I.kIn True.intro e (fun z=>nomatch z) h
 | bl y=>cases (show u=Value.bool y from d);exact CB PySem.W.kitx_bool I.kIn True.intro e (fun z=>nomatch z) h
 | int i=>obtain ⟨t,q⟩:=(show ∃ t,u=Value.int i t from d);cases q;exact CB PySem.W.kitx_int I.kIn True.intro e (fun z=>nomatch z) h
 | str y=>obtain ⟨t,q⟩:=(show ∃ t,u=Value.str y t from d);cases q;exact CB PySem.W.kitx_str I.kIn True.intro e (fun z=>nomatch z) h
 | flt y=>obtain ⟨t,q⟩:=(show ∃ t,u=Value.float y t from d);cases q;exact CB PySem.W.kitx_float I.kIn True.intro e (fun z=>nomatch z) h
 | @lst a xs ea=>
  cases (show u=Value.ref a from d)
  obtain ⟨_,_,n,_,h1⟩:=(show eH X.prog X.w H s.heap a (.lst xs) from I.hok a _ ea)
  exact CB FU I.kIn ⟨_,h1,rfl⟩ e (fun z=>nomatch z) h
 | @frz a ob xs ea=>
  cases (show u=Value.ref a from d)
  obtain ⟨_,_,_,n,_,h1⟩:=(show eH X.prog X.w H s.heap a (.frz ob (.lst xs)) from I.hok a _ ea)
  exact CB FU I.kIn ⟨_,h1,rfl⟩ e (fun z=>nomatch z) h
 | @tup a xs ea=>
  cases (show u=Value.ref a from d)
  obtain ⟨_,_,_,p⟩:=(show eH X.prog X.w H s.heap a (.tup xs) from I.hok a _ ea)
  obtain ⟨o,h1,h2,_⟩:=p
  exact CB PySem.W.kitx_tuple I.kIn ⟨o,h1,h2.1⟩ e (fun z=>nomatch z) h
 | @dK a a6 ea=>
  cases (show u=Value.ref a from d)
  obtain ⟨_,_,vs,_,p⟩:=(show eH X.prog X.w H s.heap a (.dK a6) from I.hok a _ ea)
  obtain ⟨o,es,f,h1,h2,_⟩:=p
  exact CB PySem.W.kitx_dict I.kIn ⟨o,h1,h2.1⟩ e (fun z=>nomatch z) h
 | @dT a a6 ea=>
  cases (show u=Value.ref a from d)
  obtain ⟨_,_,xs,_,o,es,f,h1,h2,_⟩:=(show eH X.prog X.w H s.heap a (.dT a6) from I.hok a _ ea)
  exact CB PySem.W.kitx_dict I.kIn ⟨o,h1,h2.1⟩ e (fun z=>nomatch z) h
 | @ins a C dx fs ea cl ha hn htk hm=>
  cases (show u=Value.ref a from d)
  obtain ⟨mA,O,_⟩:=uZ I.hok ea
  obtain ⟨od,J,_⟩:=O.look
  exact CB (PySem.W.kitx_own (cl.get _) cl.hd ha hn htk hm) I.kIn J e (fun z=>nomatch z) h
end
structure Room(k:Nat)(A:Around):Prop where
 hd:A.handled=none
 dp:A.depth+3 * k+5 < recursionLimit
 un:A.units+16 * k+200 < cLine
theorem Room.mono{j k:Nat}{A:U9}(r:Room k A)(h:j<=k):Room j A:=⟨r.hd,by have:=r.dp;omega,by have:=r.un;omega⟩
theorem Room.deeper{k:Nat}{A:U9}(r:Room (k+1) A)(env:Env):Room k (A.deeper env):=
 ⟨r.hd,by have:=r.dp;show A.depth+1+3 * k+5 < _;omega,by have:=r.un;show A.units+3+16 * k+200 < _;omega⟩
theorem aHS{A:U9}{C:Az}{us:List V9}{a:List (Str×V9)}:(A.under (.builtin "type.__call__" ⟨.ref C::us,a⟩)).depth=A.depth+1:=by
 first|rfl|simp[Around.under,Code.weight,Code.isCreation,Code.isGuard,Code.isCaller,Code.frames,Code.isFrame,guardIds]
theorem aHT{A:U9}{C:Az}{us:List V9}{a:List (Str×V9)}:(A.under (.builtin "type.__call__" ⟨.ref C::us,a⟩)).units=A.units+1:=by
 first|rfl|simp[Around.under,Code.cUnits,Code.frames,Code.isFrame]
theorem Room.make{k:Nat}{A:U9}(r:Room (k+1) A)(C:Az)(us:List V9)(a:List (Str×V9)):Room k (A.under (.builtin "type.__call__" ⟨.ref C::us,a⟩)):=
 ⟨r.hd,by have:=r.dp;rw[aHS];omega,by have:=r.un;rw[aHT];omega⟩
theorem Room.depth{k:Nat}{A:U9}(r:Room k A):A.depth < recursionLimit:=by have:=r.dp;omega
theorem Room.units{k:Nat}{A:U9}(r:Room k A):A.units+64 < cLine:=by have:=r.un;omega
def kI:TA:=fun _ H Q=>Q [] H
def gF(ta:TE)(tr:TA):TA:=fun σ H Q=>ta σ H fun x H1=>tr σ H1 fun xs H2=>Q (x::xs) H2
section
variable{X:Cx}{e:Ez}{es:List Ez}{te:TE}{t:TA}{pos:Pos}
theorem aR:PA X [] kI:=fun _ _ _ _ H Q I h=>Calls.spliced_nil ⟨[],H,I,.nil,h⟩
theorem aK(m:PE X e te)(i:PA X es t)(d:starEach (e::es) X.env=(false,eval e X.env)::starEach es X.env:=by rfl):PA X (e::es) (gF te t):=by
 intro pos a5 s σ H Q I h
 rw[d]
 show wpAny _ _ (spliced ((false,eval e X.env)::backTo pos (starEach es X.env))) _ _ s
 refine Calls.spliced_cons (thn (m a5 s σ H _ I h) fun u j a=>?_)
 obtain ⟨x,H1,g,k,b⟩:=a
 exact thn (i pos a5 j σ H1 _ g b) fun o n ⟨xs,H2,l,f,c⟩=>⟨x::xs,H2,l,.cons k f,c⟩
def aUW(t:TA):TE:=fun σ H Q=>t σ H fun xs H1=>xs.length<=sizeLine/\∀ p,H1 p=none->Q (.ref p) (upd H1 p (.tup xs))
def aRB(t:TA):TE:=fun σ H Q=>t σ H fun xs H1=>xs.length<=sizeLine/\∀ p,H1 p=none->Q (.ref p) (upd H1 p (.lst xs))
theorem aRC{x1}(h:PA X es t):PE X (.Tuple es x1 pos) (aUW t):=by
 intro a5 s σ H Q I f
 refine wpAny_Tuple_spliced (thn (h pos a5 s σ H _ I f) fun g a ⟨xs,H1,c,r,z,q⟩=>⟨by rw[<-r.length];exact z,?_⟩)
 have d:H1 a.heap.objs.size=none:=c.hok.fresh (A2 _)
 refine ⟨.ref a.heap.objs.size,upd H1 a.heap.objs.size (.tup xs),c.laid (t':=a.toks) (fun b u e=>AQ _ e) (A2 _) ?_,rfl,q _ d⟩
 exact ⟨z,g,r,⟨_,BE _ rfl,⟨rfl,rfl⟩,_,rfl⟩⟩
theorem aJL(h:PA X es t):PE X (.List es pos) (aRB t):=by
 intro a5 s σ H Q I f
 refine wpAny_List_spliced (thn (h pos a5 s σ H _ I f) fun g a ⟨xs,H1,c,r,z,q⟩=>⟨by rw[<-r.length];exact z,?_⟩)
 have d:H1 a.heap.objs.size=none:=c.hok.fresh (A2 _)
 refine ⟨.ref a.heap.objs.size,upd H1 a.heap.objs.size (.lst xs),c.laid (t':=a.toks) (fun b u e=>AQ _ e) (A2 _) ?_,rfl,q _ d⟩
 exact ⟨z,g,0,r,BE _ rfl⟩
end
abbrev Sp:=List V->Hp->VK->XK->Prop
abbrev CXT:=List Env->Hp->S9->XK->V9->S9->Prop
structure Env0(P:Program)(w:World)(K:Frag)(mg:Str->Option V9)(base:Heap)(A:Around)(outer:List Env)(s:S9)(H:Hp):Prop where
 frames:A.frames=some outer
 mod:Mod K mg base
 bs:∀ b o,base.get? b=some o->s.heap.get? b=some o/\H b=none
 bsz:base.objs.size<=s.heap.objs.size
 funs:s.heap.FunFrames base outer
 frf:∀ b∈frs outer,H b=none
 hok:HOk P w H s.heap
 bare:AllBare s.gens
def CE(outer:List Env)(P:P9)(w:W9)(H:Hp)(s:S9)(Q:VK)(u:V9)(s':S9):Prop:=
 ∃ v H',s'.os=s.os/\AllBare s'.gens/\Un (frs outer) [] H H' s.heap s'.heap/\HOk P w H' s'.heap/\cB v u/\Q v H'
def CR(CX:CXT)(outer:List Env)(P:P9)(w:W9)(H:Hp)(s:S9)(Q:VK)(E:XK)(r:Result)(s':S9):Prop:=
 match r with
 | .ok (.ret u)=>CE outer P w H s Q u s'
 | .ok _=>False
 | .error e=>CX outer H s E e s'
structure FnOk(P:Program)(w:World)(K:Frag)(mg:Str->Option V9)(base:Heap)(CX:CXT)(k:Nat)(f:Az)(fd:FuncData)(ps:List Str)(sp:Sp):Prop where
 len:∀ vs H Q E,sp vs H Q E->vs.length=ps.length
 run:∀ (A:Around) (outer:List Env) (s:S9) (H:Hp) (args:Args) (us:List V9) (vs:List V) (Q:VK) (E:XK),Room k A->Env0 P w K mg base A outer s H->BindsTo s fd args (ps.zip us)->b5 vs us->sp vs H Q E->
  codeAny (model P w) A (.call (.ref f) args) (CR CX outer P w H s Q E) s
theorem FnOk.imp{P:P9}{w:W9}{K:Frag}{mg:Str->O6 V9}{base:Hz}{CX:CXT}{k:Nat}{f:Az}{fd:FuncData}{ps:List Str}{sp b:Sp}(F:FnOk P w K mg base CX k f fd ps sp)
  (h:∀ vs H Q E,b vs H Q E->sp vs H Q E):FnOk P w K mg base CX k f fd ps b:=
 ⟨fun vs H Q E q=>F.len vs H Q E (h _ _ _ _ q),fun A a s H c i vs Q E e l d g j=>F.run A a s H c i vs Q E e l d g (h _ _ _ _ j)⟩
theorem Env0.make{P:P9}{w:W9}{K:Frag}{mg:Str->O6 V9}{base:Hz}{A:U9}{outer:List Env}{s:S9}{H:Hp}(e:Env0 P w K mg base A outer s H)(C:Az)(us:List V9)(a:List (Str×V9)) :
 Env0 P w K mg base (A.under (.builtin "type.__call__" ⟨.ref C::us,a⟩)) outer s H:=⟨by first|exact e.frames|(simpa[Around.under,Code.envs,Code.isFrame,pushEnvs] using e.frames),e.mod,e.bs,e.bsz,e.funs,e.frf,e.hok,e.bare⟩
section
variable{X:Cx}{a5:List (Az×Obj)}{σ:St}{H:Hp}{s s':S9}
theorem Inv.env0(I:Inv X a5 σ H s):Env0 X.prog X.w X.K X.mg X.base X.A X.stack s H:=
 ⟨I.ok.frames,I.ok.mod,I.bs,BY I.ok.bsz I.sz,I.stack,I.stkFree,I.hok,I.bare⟩
theorem Inv.after{Q:VK}{u:V9}(I:Inv X a5 σ H s)(h:CE X.stack X.prog X.w H s Q u s'):EP X a5 σ Q u s':=by
 obtain ⟨v,H',os,a,un,c,r,q⟩:=h
 obtain ⟨f,g,d,t,e⟩:=s'
 obtain rfl:e=s.os:=os
 exact ⟨v,H',I.call (h':=f) (g':=g) (d':=d) (t':=t) (ch:=[]) un c a (fun b z=>absurd z (by simp)),r,q⟩
end
def aHU(sp:Sp)(dvs:List V)(E:XK)(t:TA):TE:=fun σ H Q=>t σ H fun vs H1=>sp (vs++dvs) H1 Q E
def aNT(C:Az)(sp:Sp)(dvs:List V)(E:XK)(t:TA):TE:=fun σ H Q=>t σ H fun vs H1=>∀ x dx,H1 x=none->H1 dx=none->dx≠x->
 sp (.ref x::(vs++dvs)) (upd (upd H1 dx (.own x)) x (.ins C dx [])) (fun v H2=>v=.non/\Q (.ref x) H2) E
def fY(K:Frag)(fd:FuncData)(ps:List Str)(ds:List V9):Prop:=
 ∀ (s:S9) (us:List V9),K.In s.heap->(us++ds).length=ps.length->BindsTo s fd ⟨us,[]⟩ (ps.zip (us++ds))
theorem fY.all{K:Frag}{fd:FuncData}{ps:List Str}(h:∀ us:List V9,us.length=ps.length->bindArgs fd ⟨us,[]⟩=pure (ps.zip us)):fY K fd ps []:=fun s us _ a=>by
 rw[CM] at a ⊢
 exact .of_eq (h us a)
def lE(CX:CXT)(X:Cx)(E:XK):Prop:=∀ (a5:List (Az×Obj)) (σ:St) (H:Hp) (s:S9) (e:V9) (s':S9),Inv X a5 σ H s->CX X.stack H s E e s'->X.xe e s'
section
variable{X:Cx}{CX:CXT}{k:Nat}{f C:Az}{fd:FuncData}{ps:List Str}{sp:Sp}{dvs:List V}{ds:List V9}{E:XK}{x m:Str}{p pos apos:Pos}{e o:Ez}{es:List Ez}{ta:TE}{t:TA}
theorem aDE{a5:List (Az×Obj)}{σ:St}{H:Hp}{s:S9}{Q:VK}{us:List V9}{vs:List V}(F:FnOk X.prog X.w X.K X.mg X.base CX k f fd ps sp)(i:Room k X.A)(c:fY X.K fd ps ds)(g:b5 dvs ds)(j:lE CX X E)
  (I:Inv X a5 σ H s) (r:b5 vs us) (h:sp (vs++dvs) H Q E):wpAny (model X.prog X.w) X.A (call (.ref f) us) (EP X a5 σ Q) X.xe s:=by
 have b:b5 (vs++dvs) (us++ds):=r.append g
 have d:(us++ds).length=ps.length:=by rw[<-b.length];exact F.len _ _ _ _ h
 refine G6 (E5 (F.run X.A X.stack s H ⟨us,[]⟩ (us++ds) (vs++dvs) Q E i I.env0 (c s us I.kIn d) b h) fun r s' a=>?_)
 cases r with
 | error e=>exact j a5 σ H s e s' I a
 | ok fl=>
  cases fl with
  | ret u=>exact I.after a
  | next=>exact False.elim a
  | brk=>exact False.elim a
  | cont=>exact False.elim a
theorem aOU(F:FnOk X.prog X.w X.K X.mg X.base CX k f fd ps sp)(i:Room k X.A)(l:Gl X x)(d:X.mg x=some (.ref f))(j:PySem.W.keepIn X.K (.ref f)=true)(c:fY X.K fd ps ds)(g:b5 dvs ds)(m:lE CX X E)
  (n:PA X (e::es) t) (a:(x == ("__debug__":Str))=false:=by decide) (he:starEach (e::es) X.env=(false,eval e X.env)::starEach es X.env:=by rfl) (hpl:(backTo pos (starEach es X.env)).any (·.1)=false:=by rfl) :
  PE X (.Call (.Name x p) (e::es) [] pos) (aHU sp dvs E t):=by
 intro a5 s σ H Q I h
 refine EJ (zN I l d ?_ a)
 refine FK (h₀:=X.base) I.ok.mod.kin j (thn (n pos a5 s σ H _ I h) fun u o ⟨vs,H1,b,r,q⟩=>⟨b.kIn,?_⟩) he hpl
 exact aDE F i c g m b r q
structure Mk(K:Frag)(C f:Az):Prop where
 makes:PySem.W.makesIn K C=true
 init:PySem.W.findIn K (.ref C) "__init__"=some (some (.ref f))
 fn:PySem.W.isFn K (.ref f)=true
 kp:PySem.W.keepIn K (.ref C)=true
theorem aL2{a5:List (Az×Obj)}{σ:St}{H:Hp}{s:S9}{Q:VK}{us:List V9}{vs:List V}(M:Mk X.K C f)(F:FnOk X.prog X.w X.K X.mg X.base CX k f fd ps sp)(p:Room (k+1) X.A)(g:fY X.K fd ps ds)(n:b5 dvs ds)
  (j:lE CX X E) (I:Inv X a5 σ H s) (r:b5 vs us)
  (h:∀ x dx,H x=none->H dx=none->dx≠x->sp (.ref x::(vs++dvs)) (upd (upd H dx (.own x)) x (.ins C dx [])) (fun v H2=>v=.non/\Q (.ref x) H2) E) :
  wpAny (model X.prog X.w) X.A (call (.ref C) us) (EP X a5 σ Q) X.xe s:=by
 have d:=h (s.heap.objs.size+1) s.heap.objs.size (I.hok.fresh (GW _)) (I.hok.fresh (A2 _)) (B8 (EX _))
 have b:=Inv.made (C:=C) I
 have c:b5 (V.ref (s.heap.objs.size+1)::(vs++dvs)) (Value.ref (s.heap.objs.size+1)::(us++ds)):=.cons rfl (r.append n)
 have m:(Value.ref (s.heap.objs.size+1)::us++ds).length=ps.length:=by
  have e:=c.length
  rw[F.len _ _ _ _ d] at e
  exact e.symm
 refine G6 (aL1 (f:=f) I.kIn M.makes M.init (EN.mp M.fn) (E5 (F.run _ X.stack _ _ ⟨Value.ref (s.heap.objs.size+1)::us,[]⟩ (Value.ref (s.heap.objs.size+1)::(us++ds)) _ _ E (p.make C us [])
  (b.env0.make C us []) (g _ (Value.ref (s.heap.objs.size+1)::us) b.kIn m) c d) fun r s' a=>?_))
 cases r with
 | error e=>exact j a5 σ _ _ e s' b a
 | ok fl=>
  cases fl with
  | ret u=>
   obtain ⟨v,H',l,i,q,o⟩:=b.after a
   subst q
   exact ⟨i,⟨V.ref (s.heap.objs.size+1),H',l,rfl,o⟩⟩
  | next=>exact False.elim a
  | brk=>exact False.elim a
  | cont=>exact False.elim a
theorem aOV(M:Mk X.K C f)(F:FnOk X.prog X.w X.K X.mg X.base CX k f fd ps sp)(g:Room (k+1) X.A)(j:Gl X x)(i:X.mg x=some (.ref C))(c:fY X.K fd ps ds)(d:b5 dvs ds)(l:lE CX X E)
  (m:PA X (e::es) t) (a:(x == ("__debug__":Str))=false:=by decide) (he:starEach (e::es) X.env=(false,eval e X.env)::starEach es X.env:=by rfl) (hpl:(backTo pos (starEach es X.env)).any (·.1)=false:=by rfl) :
  PE X (.Call (.Name x p) (e::es) [] pos) (aNT C sp dvs E t):=by
 intro a5 s σ H Q I h
 refine EJ (zN I j i ?_ a)
 refine FK (h₀:=X.base) I.ok.mod.kin M.kp (thn (m pos a5 s σ H _ I h) fun o n ⟨vs,H1,b,r,q⟩=>⟨b.kIn,?_⟩) he hpl
 exact aL2 M F g c d l b r q
end
structure FnScope(N P:List Str)(sc:Scope):Prop where
 kind:sc.kind=.function
 co:sc.isCoroutine=false
 gen:sc.isGenerator=false
 nd:N.Nodup
 pre:N.take P.length=P
 par:∀ x∈P,sc.names.lookup x=some .local\/sc.names.lookup x=some .cell
 nofree:∀ y∈sc.names,y.2≠.free
theorem aBB{a:Str->O6 NameKind}{x:Str}:∀ {binds:List (Str×V9)} {m:Str->O6 V9},(∀ v,(x,v)∉binds)->bindL a binds m x=m x
 | [],_,_=>rfl
 | (n,v)::r,m,h=>by
  unfold bindL
  rw[aBB fun w hw=>h w (A9 _ hw)]
  split
  .have:x≠n:=by rintro rfl;exact h v BI
   simp[this]
  .rfl
theorem aBC{a:Str->O6 NameKind}{x:Str}:∀ {binds:List (Str×V9)} {m:Str->O6 V9},(∀ v,(x,v)∉binds)->bindC a binds m x=m x
 | [],_,_=>rfl
 | (n,v)::r,m,h=>by
  unfold bindC
  rw[aBC fun w hw=>h w (A9 _ hw)]
  split
  .rfl
  .have:x≠n:=by rintro rfl;exact h v BI
   simp[this]
theorem aBD{a:Str->O6 NameKind}{x:Str}{v:V9}:∀ {P:List Str} {vs:List V9} {i:Nat} {m:Str->O6 V9},P.Nodup->P[i]? = some x->vs[i]? = some v->a x=some .local->
  bindL a (P.zip vs) m x=some v
 | [],_,_,_,_,h,_,_=>by simp at h
 | _::_,[],_,_,_,_,h,_=>by simp at h
 | p::P,w::vs,0,m,nd,h1,h2,hk=>by
  simp at h1 h2;subst h1;subst h2
  show bindL a ((p,w)::P.zip vs) m p=_
  unfold bindL
  rw[aBB fun v hv=>(CN.mp nd).1 (GM hv).1,AA hk]
  simp
 | p::P,w::vs,i+1,m,nd,h1,h2,hk=>by
  show bindL a ((p,w)::P.zip vs) m x=_
  unfold bindL
  exact aBD (i:=i) (CN.mp nd).2 (by simpa using h1) (by simpa using h2) hk
theorem aBE{a:Str->O6 NameKind}{x:Str}{v:V9}:∀ {P:List Str} {vs:List V9} {i:Nat} {m:Str->O6 V9},P.Nodup->P[i]? = some x->vs[i]? = some v->a x≠some .local->
  bindC a (P.zip vs) m x=some v
 | [],_,_,_,_,h,_,_=>by simp at h
 | _::_,[],_,_,_,_,h,_=>by simp at h
 | p::P,w::vs,0,m,nd,h1,h2,hk=>by
  simp at h1 h2;subst h1;subst h2
  show bindC a ((p,w)::P.zip vs) m p=_
  unfold bindC
  rw[aBC fun v hv=>(CN.mp nd).1 (GM hv).1,AE hk]
  simp
 | p::P,w::vs,i+1,m,nd,h1,h2,hk=>by
  show bindC a ((p,w)::P.zip vs) m x=_
  unfold bindC
  exact aBE (i:=i) (CN.mp nd).2 (by simpa using h1) (by simpa using h2) hk
noncomputable def start(N:List Str)(vs:List V):St:=vs.map some++List.replicate (N.length - vs.length) none
noncomputable def lM(CX:CXT)(P:P9)(w:W9)(K:Frag)(mg:Str->O6 V9)(base:Hz)(N:List Str)(qual:Str)(scope:Scope)(f:Az)(cd:V9)(A:U9)(outer:List Env)(s:S9)(H:Hp)(E:XK):Cx where
 prog:=P
 w:=w
 K:=K
 mg:=mg
 base:=base
 A:=A.deeper (envOfC qual scope s.heap.objs.size f cd)
 N:=N
 s₀:=s
 H₀:=H
 env:=envOfC qual scope s.heap.objs.size f cd
 outer:=outer
 stack:=envOfC qual scope s.heap.objs.size f cd::outer
 ex:=[]
 calm:=true
 fn:=fun _=>true
 pn:=[]
 xe:=fun e s'=>wpAny (model P w) (A.deeper (envOfC qual scope s.heap.objs.size f cd)) (leaving (envOfC qual scope s.heap.objs.size f cd) e) (fun _ s''=>CX outer H s E e s'') (fun e' s''=>CX outer H s E e' s'') s'
theorem aDF{a:Scope}{n:Nat}{x:Str}(h:a.names.lookup x=some .cell):∃ c,(cellsFrom n a.names []).lookup x=some c:=by
 have q:=GX a.names n [] (.inl h)
 exact Option.isSome_iff_exists.mp q
theorem aJM{CX:CXT}{P:P9}{w:W9}{K:Frag}{mg:Str->O6 V9}{base:Hz}{N ps:List Str}{d:Str}{scope:Scope}{f:Az}{cd:V9}{A:U9}{outer:List Env}{s s1:S9}{H:Hp}{E:XK}{us:List V9}{vs:List V}
  (S:FnScope N ps scope) (F:A.handled=none) (g:Env0 P w K mg base A outer s H) (J:vs.length=ps.length) (r:b5 vs us)
  (x:InCallC s s.heap.objs.size (bindL (envOfC d scope s.heap.objs.size f cd).kindOf (ps.zip us) fun _=>none) (cellsFrom (s.heap.objs.size+1) scope.names []) (bindC (envOfC d scope s.heap.objs.size f cd).kindOf (ps.zip us) fun _=>none) s1) :
  Inv (lM CX P w K mg base N d scope f cd A outer s H E) [] (start N vs) H s1:=by
 have D:ps.length<=N.length:=by have:=FF List.length S.pre;rw[CY] at this;omega
 obtain ⟨h1,L,rfl,B⟩:=x.done
 have l:∀ b:Az,b∉(lM CX P w K mg base N d scope f cd A outer s H E).ex:=fun b z=>absurd (show b∈([]:List Az) from z) (by simp)
 refine ⟨⟨g.mod,S.kind,rfl,rfl,A2 _,fun y z c h1 h2=>?_,fun y j=>?_,fun y c _ h=>?_,fun _=>F,Around.frames_deeper g.frames,.inr ⟨rfl,rfl⟩,fun b z=>absurd z (l b),g.bs,g.bsz,fun b _ _=>l b,fun b z=>absurd z (l b),g.funs,g.frf⟩,
  rfl,g.bare,Un.kept B,⟨_,x.toInCall.ns,fun i y v h1 h2 I=>?_⟩,fun y c h=>⟨_,x.cell y c h⟩,g.hok.fresh (A2 _),fun y c h=>?_,fun p o=>absurd (show p∈([]:List (Az×Obj)) from o) (by simp),g.hok.kept B,?_⟩
 .exact name_of_addr x.apart (DF h1) (DF h2)
 .have j:scope.names.lookup y=some .cell\/scope.names.lookup y=some .free:=j
  rcases j with j|j
  .exact aDF j
  .exact absurd rfl (S.nofree _ (DF j))
 .exact HA (x.above y c (DF h))
 .have hi:i < vs.length:=by
   unfold start at h2
   by_cases hi:i < vs.length
   .exact hi
   .rw[B1 (by simpa using hi)] at h2
    rw[C3] at h2
    split at h2<;>cases h2
  have G:vs[i]? = some v:=by
   unfold start at h2
   rw[BF (by simpa using hi),AS] at h2
   cases e:vs[i]? with
   | none=>rw[e] at h2;cases h2
   | some a=>rw[e] at h2;cases h2;rfl
  obtain ⟨u,t,C⟩:=r.get G
  have o:ps[i]? = some y:=by
   rw[<-S.pre,List.getElem?_take_of_lt (by omega)];exact h1
  have m:ps.Nodup:=by rw[<-S.pre];exact S.nd.sublist (List.take_sublist _ _)
  refine ⟨u,C,?_⟩
  rcases S.par y (BA o) with k|k
  .exact .inl ⟨k,aBD m o t k⟩
  .obtain ⟨c,e⟩:=aDF (n:=s.heap.objs.size+1) k
   refine .inr ⟨.inl k,c,e,?_⟩
   have q:=x.cell y c e
   rw[aBE m o t (by show scope.names.lookup y≠_;rw[k];decide)] at q
   exact q
 .exact g.hok.fresh (HA (x.above y c (DF h)))
 .unfold start
  show _=N.length
  rw[AZ,AH,BP]
  omega
theorem aNU{CX:CXT}{P:P9}{w:W9}{K:Frag}{mg:Str->O6 V9}{base:Hz}{k:Nat}{f:Az}{name a:Str}{params:Arguments}{body:List Stmt}{scope:Scope}{T kV doc G c ct Z:V9}{R od:O6 Az}
  {C:Array (O6 V9)} {N ps:List Str} {sp:Sp} (lk:K.lookup f=some ⟨Z,od,.func (PySem.W.fnOf name a params body scope T kV doc G R c ct),C⟩) (B:PySem.W.codeIn K c a=true) (S:FnScope N ps scope)
  (len:∀ vs H Q E,sp vs H Q E->vs.length=ps.length)
  (h:∀ (A:U9) (outer:List Env) (s:S9) (H:Hp) (vs:List V) (Q:VK) (E:XK),Room k (A.deeper (envOfC a scope s.heap.objs.size f c))->sp vs H Q E->
   ∃ t,PSs (lM CX P w K mg base N a scope f c A outer s H E) body t/\t {nx:=fun _ H'=>Q .non H',rt:=Q} (start N vs) H) :
  FnOk P w K mg base CX (k+1) f (PySem.W.fnOf name a params body scope T kV doc G R c ct) ps sp:=by
 refine ⟨len,fun A outer s H L us vs Q E F m hb r l=>?_⟩
 have hl:=len _ _ _ _ l
 have M:K.In s.heap:=m.mod.kin.keeps fun b o e=>(m.bs b o e).1
 have p:s.heap.NoLimit:=m.mod.nolimit.keeps fun b o e=>(m.bs b o e).1
 have g:∀ y∈ps.zip us,scope.names.lookup y.1=some .local\/(scope.names.lookup y.1=some .cell/\((cellsFrom (s.heap.objs.size+1) scope.names []).lookup y.1).isSome=true):=fun D U=>by
  obtain ⟨n,v⟩:=D
  rcases S.par n (GM U).1 with q|q
  .exact .inl q
  .exact .inr ⟨q,GX _ _ _ (.inl q)⟩
 refine codeAny_call_function F.depth (M _ _ lk) rfl S.co S.gen rfl (PySem.W.codeRec_of M B) (hb _ _ _ _ ?_)
 refine wpAny_newFunctionEnv_cells S.kind g fun X he O x=>?_
 subst he
 refine ⟨p.keeps x.toInCall.keep,codeAny_func ?_⟩
 obtain ⟨t,ht,Y⟩:=h A outer s H vs Q E (F.deeper _) l
 have I:Inv (lM CX P w K mg base N a scope f c A outer s H E) [] (start N vs) H O:=aJM S F.hd m hl r x
 refine C0 (ht [] O (start N vs) H _ I Y) (fun fl s' i=>?_) fun e s' i=>i
 have j:∀ {d:St} {H':Hp} {v:V} {u:V9},Inv (lM CX P w K mg base N a scope f c A outer s H E) [] d H' s'->cB v u->Q v H'->CE outer P w H s Q u s':=
  fun {d H' v u} J z q=>⟨v,H',J.os,J.bare,J.base,J.hok,z,q⟩
 cases fl with
 | ret u=>
  obtain ⟨v,d,H',J,z,q⟩:=i
  exact j J z q
 | next=>
  obtain ⟨d,H',J,q⟩:=i
  exact j (v:=V.non) (u:=Value.none) J rfl q
 | brk=>
  obtain ⟨_,_,_,q⟩:=i
  exact False.elim q
 | cont=>
  obtain ⟨_,_,_,q⟩:=i
  exact False.elim q
section
variable{X:Cx}{x:Str}{p pos:Pos}{e:Ez}{es:List Ez}{t:TA}{id T:String}{r:List V->Hp->VK->Prop}
def tCB(r:List V->Hp->VK->Prop)(t:TA):TE:=fun σ H Q=>t σ H fun vs H1=>r vs H1 Q
theorem dG(c:nC X (.builtin id) r)(k:Gl X x)(j:X.mg x=none)(l:bootBuiltins x=some (.builtin id))(m:PA X (e::es) t)(g:x≠"__name__":=by decide)(hdb:(x == ("__debug__":Str))=false:=by decide)
  (he:starEach (e::es) X.env=(false,eval e X.env)::starEach es X.env:=by rfl) (hpl:(backTo pos (starEach es X.env)).any (·.1)=false:=by rfl):PE X (.Call (.Name x p) (e::es) [] pos) (tCB r t):=by
 intro a5 s σ H Q I h
 refine EJ (nP I k j l ?_ g hdb)
 exact PyProof.Rows.callWith_builtin1 (thn (m pos a5 s σ H _ I h) fun i f ⟨vs,H1,b,d,a⟩=>c a5 f σ H1 vs i Q b d a) he hpl
theorem bV(c:nC X (.type T) r)(k:Gl X x)(j:X.mg x=none)(l:bootBuiltins x=some (.type T))(m:PA X (e::es) t)(g:x≠"__name__":=by decide)(hdb:(x == ("__debug__":Str))=false:=by decide)
  (he:starEach (e::es) X.env=(false,eval e X.env)::starEach es X.env:=by rfl) (hpl:(backTo pos (starEach es X.env)).any (·.1)=false:=by rfl):PE X (.Call (.Name x p) (e::es) [] pos) (tCB r t):=by
 intro a5 s σ H Q I h
 refine EJ (nP I k j l ?_ g hdb)
 exact CO (thn (m pos a5 s σ H _ I h) fun i f ⟨vs,H1,b,d,a⟩=>c a5 f σ H1 vs i Q b d a) he hpl
end
end L2
namespace HT
open PyProof.Rows
section
open PySem.SeqAt
open PySem.AutoSeq1 (wpAny_loadPart')
open PySem.MeetsSeq PySem.MeetsSeq2 PySem.MeetsSeq3
end
section
variable{prog:P9}{w:W9}{A:U9}{E:V9->S9->Prop}{s:S9}
theorem aOW{t b:Az}{vs a:List V9}{Q:V9->S9->Prop}(v:IsTup s.heap t vs.toArray)(u:IsTup s.heap b a.toArray)(m:vs≠[])
  (h1:a=[]->Q (.ref t) s) (h2:a≠[]->Q (.ref s.heap.objs.size) {s with heap:=s.heap.push {cls:=.type "tuple",data:=.seq (vs++a).toArray}})
  (hsz:vs.length+a.length<=sizeLine):wpAny (model prog w) A (binaryOp .Add (.ref t) (.ref b)) Q E s:=by
 obtain ⟨⟨cls,dd,data,l⟩,i,q,n,r⟩:=id v
 obtain ⟨⟨o,f,k,g⟩,c,h,p,d⟩:=id u
 simp only at q r h d
 subst q r h d
 have e:vs.toArray++a.toArray=(vs++a).toArray:=by simp
 by_cases j:a=[]
 .exact GD ⟨_,i,rfl⟩ ⟨_,c,rfl⟩ GE G8 EU EQ (EK _ _)
   (tuple_addW1 t b vs.toArray a.toArray n p dd f l g (by simpa using m) (by simp[j])) ⟨i,c,h1 j⟩
 .refine GD ⟨_,i,rfl⟩ ⟨_,c,rfl⟩ GE G8 EU EQ (EK _ _)
   (tuple_addW2 t b vs.toArray a.toArray n p dd f l g (by simpa using m) (by simpa using j) (by rw[BJ,BJ];exact hsz)) ⟨i,c,?_⟩
  rw[e]
  exact h2 j
noncomputable def sIx(n d:Nat):O6 Int->Nat
 | none=>d
 | some v=>if v < 0 then (v+(n:Int)).toNat else min v.toNat n
theorem mQ(n d:Nat):sIx n d none=d:=rfl
theorem aF6(n d k:Nat):sIx n d (some (k:Int))=min k n:=by
 show (if (k:Int) < 0 then ((k:Int)+(n:Int)).toNat else min (k:Int).toNat n)=min k n
 rw[AE (by omega),B2]
theorem aRD(n d:Nat)(b:d<=n)(o:O6 Int):sIx n d o<=n:=by
 cases o with
 | none=>exact b
 | some v=>
  show (if v < 0 then (v+(n:Int)).toNat else min v.toNat n)<=n
  by_cases a:v < 0
  · rw [AA a]; omega
  · rw [AE a]; exact Nat.min_le_right _ _
theorem aF7(v:Int)(n d:Nat):(if v < 0 then max (v+(n:Int)) 0 else min v (n:Int))=((sIx n d (some v):Nat):Int):=by
 show (if v < 0 then max (v+(n:Int)) 0 else min v (n:Int))=(((if v < 0 then (v+(n:Int)).toNat else min v.toNat n):Nat):Int)
 by_cases a:v < 0
 · simp only [AA a]; omega
 · simp only [AE a]; omega
theorem aHV(lo hi:O6 Int)(n:Nat):Builtin.Slice.sliceAdjust lo hi 1 (n:Int)=(((sIx n 0 lo:Nat):Int),((sIx n n hi:Nat):Int)):=by
 have h1:¬ ((1:Int) < 0):=by omega
 unfold Builtin.Slice.sliceAdjust
 simp only[h1,BQ]
 refine Prod.ext ?_ ?_
 .cases lo with
  | none=>rfl
  | some v=>exact aF7 v n 0
 .cases hi with
  | none=>rfl
  | some v=>exact aF7 v n n
theorem aHW(i j:Nat):Builtin.Slice.slicePlaces (i:Int) (j:Int) 1=j - i:=by
 unfold Builtin.Slice.slicePlaces
 have h1:(1:Int) > 0:=by omega
 simp only[h1,A8,Int.ediv_one]
 split<;>omega
theorem xU{v:V9}{o:O6 Int}{Q:O6 Int->S9->Prop}(p:IsPart v o)(h:Q o s):wpAny (model prog w) A (Builtin.Slice.slicePartIndex v) Q E s:=by
 cases p with
 | none=>exact slicePart_none h
 | int i t=>exact slicePart_int h
theorem wS{e:Az}{c d:V9}{lo hi:O6 Int}{n:Nat}{Q:Int×Int×Nat->S9->Prop}(i:s.heap.IsSliceOf e c d .none)(pl:IsPart c lo)(g:IsPart d hi)
  (h:Q (((sIx n 0 lo:Nat):Int),1,sIx n n hi - sIx n 0 lo) s):wpAny (model prog w) A (Builtin.Slice.sliceApplied (.ref e) (pure (n:Int))) Q E s:=by
 obtain ⟨os,b,f,a⟩:=id i
 unfold Builtin.Slice.sliceApplied Builtin.Slice.sliceFields
 refine AD (AD (B7 b a (x:=c) rfl (AD (B7 b a (x:=d) rfl (AD (B7 b a (x:=.none) rfl (A1 ?_)))))))
 refine AD (slicePart_none ?_)
 show wpAny _ _ (if ((1:Int) == 0)=true then _ else _) _ _ s
 rw[AE (by decide)]
 refine AD (xU pl (AD (xU g (AD (A1 ?_)))))
 show wpAny _ _ (match Builtin.Slice.sliceAdjust lo hi 1 (n:Int) with|(lo,hi)=>pure (lo,(1:Int),Builtin.Slice.slicePlaces lo hi 1)) _ _ s
 rw[aHV lo hi n]
 show wpAny _ _ (pure (((sIx n 0 lo:Nat):Int),(1:Int),Builtin.Slice.slicePlaces ((sIx n 0 lo:Nat):Int) ((sIx n n hi:Nat):Int) 1)) _ _ s
 rw[aHW]
 exact A1 h
theorem aL3(xs:Array V9)(i k:Nat):((List.range k).filterMap fun (m:Nat)=>xs[((i:Int)+(m:Int) * 1).toNat]?).toArray=((xs.toList.drop i).take k).toArray:=by
 have e:(fun (m:Nat)=>xs[((i:Int)+(m:Int) * 1).toNat]?)=fun m=>xs[i+m]?:=by
  funext m
  have:((i:Int)+(m:Int) * 1).toNat=i+m:=by omega
  rw[this]
 rw[e]
 have:=pick_run xs i k
 rw[List.filterMap_map] at this
 have e2:((fun x=>xs[x]?)∘fun x=>i+x)=fun m=>xs[i+m]?:=rfl
 rw[e2] at this
 rw[this]
theorem vZ{t c:Az}{items:Array V9}{j k:V9}{lo hi:O6 Int}{Q:V9->S9->Prop}(b:IsTup s.heap t items)(i:s.heap.IsSliceOf c j k .none)(pl:IsPart j lo)(n:IsPart k hi)
  (hw:¬ (sIx items.size 0 lo=0/\sIx items.size items.size hi=items.size))
  (h:Q (.ref s.heap.objs.size) {s with heap:=s.heap.push {cls:=.type "tuple",data:=.seq ((items.toList.drop (sIx items.size 0 lo)).take (sIx items.size items.size hi - sIx items.size 0 lo)).toArray}})
  (hsz:items.size<=sizeLine):wpAny (model prog w) A (getItem (.ref t) (.ref c)) Q E s:=by
 have a:sizeOk (.seq ((items.toList.drop (sIx items.size 0 lo)).take (sIx items.size items.size hi - sIx items.size 0 lo)).toArray):=by
  show ((items.toList.drop (sIx items.size 0 lo)).take (sIx items.size items.size hi - sIx items.size 0 lo)).toArray.size<=sizeLine
  rw[BJ,CY,CS,CG]
  omega
 have r:sIx items.size items.size hi<=items.size:=aRD _ _ (A2 _) hi
 obtain ⟨os,f,e,l⟩:=id i
 have d:s.TypeIs (.ref c) "slice":=⟨os,f,e⟩
 unfold getItem
 try with_reducible refine DW ?_
 first|refine AD (A1 ?_)|skip
 refine AD (wpAny_sequenceKey b.typeIs (by decide) ?_)
 refine AD (DE (name:=Str.ofString "__getitem__") b.typeIs DV
  (EC DV b.typeIs entry_tuple_getitem ?_ (args_tuple_getitem _ _)))
 show wpAny _ _ (Builtin.Tuple.tupleItemsOf (.ref t) >>= _) _ _ s
 refine AD (tupleItemsOf_ b ?_)
 refine AD (wpAny_typeOf d ?_)
 rw[AA (by decide)]
 refine AD (wS i pl n ?_)
 have g:¬ ((((sIx items.size 0 lo:Nat):Int) == 0 && (1:Int) == 1 && (sIx items.size items.size hi - sIx items.size 0 lo) == items.size)=true):=by
  intro q
  rw[BD,BD] at q
  have o:((sIx items.size 0 lo:Nat):Int)=0:=GN q.1.1
  have p:sIx items.size items.size hi - sIx items.size 0 lo=items.size:=GN q.2
  exact hw ⟨by omega,by omega⟩
 show wpAny _ _ (if (((sIx items.size 0 lo:Nat):Int) == 0 && (1:Int) == 1 && (sIx items.size items.size hi - sIx items.size 0 lo) == items.size)=true then _ else _) _ _ s
 rw[AE g,aL3]
 first
  | exact AD (m:=Builtin.Tuple.tupleExact _) (C4 (A1 ⟨_,rfl,A1 h⟩) a)
  | exact AD (m:=Builtin.Tuple.tupleExact _) (C4 (AD (A1 (A1 ⟨_,rfl,A1 h⟩))) a)
  | exact AD (AD (m:=Builtin.Tuple.tupleExact _) (C4 (A1 (A1 ⟨_,rfl,A1 h⟩)) a))
  | exact AD (AD (m:=Builtin.Tuple.tupleExact _) (C4 (A1 ⟨_,rfl,A1 h⟩) a))
end
end HT
namespace L2
open PySem.Spec PyProof.Rows
abbrev TO:=St->Hp->(O6 Int->Hp->Prop)->Prop
def PO(X:Cx)(e:O6 Ez)(t:TO):Prop:=
 ∀ (a5:List (Az×Obj)) (s:S9) (σ:St) (H:Hp) (Q:O6 Int->Hp->Prop),Inv X a5 σ H s->t σ H Q->
  wpAny (model X.prog X.w) X.A (evalPart e X.env) (fun u s'=>∃ o H',Inv X a5 σ H' s'/\IsPart u o/\Q o H') X.xe s
def aOX:TO:=fun _ H Q=>Q none H
def aTT(t:TE):TO:=fun σ H Q=>t σ H fun x H1=>∃ i,x=.int i/\Q (some i) H1
section
variable{X:Cx}{e:Ez}{te:TE}{lo hi:O6 Ez}{tl th:TO}{pos p2:Pos}
theorem aOY:PO X none aOX:=by
 intro a5 s σ H Q I h
 rw[evalPart_none]
 exact A1 ⟨none,H,I,.none,h⟩
theorem aOZ(h:PE X e te):PO X (some e) (aTT te):=by
 intro a5 s σ H Q I d
 rw[evalPart_some]
 refine thn (h a5 s σ H _ I d) fun u g a=>?_
 obtain ⟨x,H1,c,f,b⟩:=a
 obtain ⟨i,rfl,q⟩:=b
 obtain ⟨t,rfl⟩:=f
 exact ⟨some i,H1,c,.int i t,q⟩
def SlR(X:Cx)(r:V->O6 Int->O6 Int->Hp->VK->Prop):Prop:=
 ∀ (a5:List (Az×Obj)) (s:S9) (σ:St) (H:Hp) (x:V) (v vl vu:V9) (lo hi:O6 Int) (sl:Az) (Q:VK),Inv X a5 σ H s->cB x v->s.heap.IsSliceOf sl vl vu .none->IsPart vl lo->IsPart vu hi->r x lo hi H Q->
  ∃ T id,typeLookup (.type T) "__getitem__"=pure (some (.builtin id))/\s.TypeIs v T/\wpAny (model X.prog X.w) X.A (getItem v (.ref sl)) (EP X a5 σ Q) X.xe s
def tSl(r:V->O6 Int->O6 Int->Hp->VK->Prop)(te:TE)(tl th:TO):TE:=fun σ H Q=>te σ H fun x H1=>tl σ H1 fun l H2=>th σ H2 fun u H3=>r x l u H3 Q
theorem aDG{r:V->O6 Int->O6 Int->Hp->VK->Prop}(G:SlR X r)(D:PE X e te)(F:PO X lo tl)(o:PO X hi th):PE X (.Subscript e (.Slice lo hi none p2) pos) (tSl r te tl th):=by
 intro a5 s σ H Q I h
 refine Subscript_ (thn (D a5 s σ H _ I h) fun v z c=>?_)
 obtain ⟨x,H1,t,J,i⟩:=c
 refine wpAny_Slice (thn (F a5 z σ H1 _ t i) fun d g ⟨l,H2,K,j,k⟩=>thn (o a5 g σ H2 _ K k) fun f a c=>?_)
 obtain ⟨u,H3,p,n,y⟩:=c
 rw[evalPart_none]
 refine A1 ?_
 have C:Inv X a5 σ H3 {a with heap:=a.heap.push {cls:=.type "slice",data:=.fields #[d,f,.none]}}:=p.kept (t':=a.toks) fun b L q=>AQ _ q
 obtain ⟨T,id,m,E,B⟩:=G a5 {a with heap:=a.heap.push {cls:=.type "slice",data:=.fields #[d,f,.none]}} σ H3 x v d f l u a.heap.objs.size Q C J (Heap.IsSliceOf.new ..) j n y
 show wpAny (model X.prog X.w) X.A (subscriptTail e (.Slice lo hi none p2) v (.ref a.heap.objs.size)) (EP X a5 σ Q) X.xe {a with heap:=a.heap.push {cls:=.type "slice",data:=.fields #[d,f,.none]}}
 exact tail_any (ops:=[.ref a.heap.objs.size,v]) E m B (by with_unfolding_all rfl)
noncomputable def tU(xs:List V)(lo hi:O6 Int):List V:=(xs.drop (HT.sIx xs.length 0 lo)).take (HT.sIx xs.length xs.length hi - HT.sIx xs.length 0 lo)
theorem wG(xs:List V)(lo hi:O6 Int):(tU xs lo hi).length<=xs.length:=by
 unfold tU
 rw[CY,CS]
 omega
def aUX(K:Frag):V->O6 Int->O6 Int->Hp->VK->Prop:=fun x lo hi H Q=>∃ a xs,x=.ref a/\SqT K H a xs /\
 ¬ (HT.sIx xs.length 0 lo=0/\HT.sIx xs.length xs.length hi=xs.length)/\∀ p,H p=none->Q (.ref p) (upd H p (.tup (tU xs lo hi)))
theorem aRE:SlR X (aUX X.K):=by
 intro a5 s σ H x v t u lo hi n Q I k j g i h
 obtain ⟨a,xs,rfl,l,m,q⟩:=h
 cases k
 obtain ⟨d,r,e,f⟩:=I.tuple l
 have c:d.toArray.size=xs.length:=by rw[BJ];exact r.length.symm
 refine ⟨"tuple",_,DV.lookup,e.typeIs,?_⟩
 refine HT.vZ e j g i (by rw[c];exact m) ?_ (by rw[c];exact f)
 rw[c]
 refine ⟨.ref s.heap.objs.size,_,I.laid (t':=s.toks) (o:=.tup (tU xs lo hi)) (fun b p q=>AQ _ q) (A2 _) ?_,rfl,q _ (I.hok.fresh (A2 _))⟩
 exact ⟨BY (wG xs lo hi) f,_,(r.drop (HT.sIx xs.length 0 lo)).take (HT.sIx xs.length xs.length hi - HT.sIx xs.length 0 lo),nO.new _ _⟩
def aTU(K:Frag):R2:=fun x y H Q=>∃ a b xs ys,x=.ref a/\y=.ref b/\SqT K H a xs/\SqT K H b ys/\xs≠[]/\xs.length+ys.length<=sizeLine /\
 (ys=[]->Q (.ref a) H)/\(ys≠[]->∀ p,H p=none->Q (.ref p) (upd H p (.tup (xs++ys))))
theorem b5.nil_iff{xs:List V}{us:List V9}(r:b5 xs us):us=[]↔xs=[]:=by
 cases r with
 | nil=>simp
 | cons _ _=>simp
theorem aF8:OpR X (binaryOp .Add) (aTU X.K):=by
 intro a5 s σ H x y v u Q I k m h
 obtain ⟨a,b,xs,ys,rfl,rfl,p,g,l,f,i,j⟩:=h
 cases k
 cases m
 obtain ⟨n,d,r,_⟩:=I.tuple p
 obtain ⟨e,c,p2,_⟩:=I.tuple g
 refine HT.aOW r p2 (fun z=>l (d.nil_iff.mp z)) (fun z=>⟨.ref a,H,I,rfl,i (c.nil_iff.mp z)⟩) (fun z=>?_) (by rw[<-d.length,<-c.length];exact f)
 refine ⟨.ref s.heap.objs.size,_,I.laid (t':=s.toks) (o:=.tup (xs++ys)) (fun b t q=>AQ _ q) (A2 _) ?_,rfl,j (fun w=>z (c.nil_iff.mpr w)) _ (I.hok.fresh (A2 _))⟩
 exact ⟨by rw[AZ];exact f,_,d.append c,nO.new _ _⟩
end
noncomputable def ixN(n:Nat)(i:Int):O6 Nat:=if 0<=i then (if i < n then some i.toNat else none) else if -(n:Int)<=i then some (i+n).toNat else none
noncomputable def atI{α:Type}(xs:List α)(i:Int):O6 α:=(ixN xs.length i).bind fun j=>xs[j]?
theorem zO{n:Nat}{i:Int}{j:Nat}(h:ixN n i=some j):seqIndex? i n=some j/\j < n /\ -(n:Int)<=i/\i < n:=by
 unfold ixN at h
 by_cases a:0<=i
 .rw[AA a] at h
  by_cases h1:i < n
  .rw[AA h1] at h
   have e:i.toNat=j:=CA h
   exact ⟨by rw[seqIndex_of a h1,e],by omega,by omega,h1⟩
  .rw[AE h1] at h;cases h
 .rw[AE a] at h
  by_cases h1 : -(n:Int)<=i
  .rw[AA h1] at h
   have e:(i+n).toNat=j:=CA h
   exact ⟨by rw[seqIndex_neg (by omega) h1,e],by omega,h1,by omega⟩
  .rw[AE h1] at h;cases h
theorem zP{α:Type}{xs:List α}{i:Int}{v:α}(h:atI xs i=some v):∃ j,seqIndex? i xs.length=some j/\xs[j]? = some v/\j < xs.length /\ -(xs.length:Int)<=i/\i < xs.length:=by
 unfold atI at h
 cases e:ixN xs.length i with
 | none=>rw[e] at h;cases h
 | some j=>
  rw[e] at h
  obtain ⟨h1,h2,a,b⟩:=zO e
  exact ⟨j,h1,h,h2,a,b⟩
theorem gI{α:Type}{xs:List α}{j:Nat}{v:α}(h:xs[j]? = some v):atI xs (j:Int)=some v:=by
 have a:j < xs.length:=(A3.mp h).1
 have e:ixN xs.length (j:Int)=some j:=by
  unfold ixN
  rw[AA (by omega),AA (by omega)];simp
 unfold atI;rw[e];exact h
theorem aL4{α:Type}(xs:List α)(v:α):atI (xs++[v]) (-1)=some v:=by
 have a:(xs++[v]).length=xs.length+1:=by simp
 have e:ixN (xs++[v]).length (-1)=some xs.length:=by
  unfold ixN
  rw[a,AE (by decide),AA (by omega)]
  congr 1
  omega
 unfold atI
 rw[e]
 show (xs++[v])[xs.length]? = some v
 simp
def aF9(b:Ez):Prop:=∀ o i,subscripted b false o i=operate [o,i] (getItem o i)
def IxR(X:Cx)(r:R2):Prop:=
 ∀ (value slice:Ez) (a5:List (Az×Obj)) (s:S9) (σ:St) (H:Hp) (x y:V) (v u:V9) (Q:VK),Inv X a5 σ H s->cB x v->cB y u->r x y H Q->
  subscripted slice false v u=operate [v,u] (getItem v u)->wpAny (model X.prog X.w) X.A (subscriptTail value slice v u) (EP X a5 σ Q) X.xe s
def MtR(X:Cx)(id:String)(r:V->List V->Hp->VK->Prop):Prop:=
 ∀ (a5:List (Az×Obj)) (s:S9) (σ:St) (H:Hp) (x:V) (xs:List V) (v:V9) (us:List V9) (Q:VK),Inv X a5 σ H s->cB x v->b5 xs us->r x xs H Q->
  wpAny (model X.prog X.w) X.A (call (.builtin id) (v::us)) (EP X a5 σ Q) X.xe s
section
variable{X:Cx}{a b:Ez}{ta tb:TE}{pos:Pos}
theorem IxR.or{r r':R2}(h:IxR X r)(h':IxR X r'):IxR X (fun x y H Q=>r x y H Q\/r' x y H Q):=by
 intro value a a5 s σ H x y v u Q I d b q c
 rcases q with q|q
 · exact h value a a5 s σ H x y v u Q I d b q c
 · exact h' value a a5 s σ H x y v u Q I d b q c
theorem aNV{r:R2}(f:IxR X r)(k:PE X a ta)(c:PE X b tb)(g:aF9 b):PE X (.Subscript a b pos) (tOp r ta tb):=by
 intro a5 s σ H Q I h
 exact Subscript_ (aLX k c I h fun v u d x y H2 j i e q=>f a b a5 d σ H2 x y v u Q j i e q (g _ _))
def aRF(K:Frag):R2:=fun x y H Q=>∃ p xs i v,x=.ref p/\y=.int i/\SqL K H p xs/\atI xs i=some v/\Q v H
def aRG(K:Frag):R2:=fun x y H Q=>∃ p xs i v,x=.ref p/\y=.int i/\SqT K H p xs/\atI xs i=some v/\Q v H
def aRH:R2:=fun x y H Q=>∃ z i c,x=.str z/\y=.int i/\z.length<=sizeLine/\atI z.cps.toList i=some c/\Q (.str ⟨#[c]⟩) H
theorem aGA:IxR X (aRF X.K):=by
 intro value d a5 s σ H x y v u Q I n C h g
 obtain ⟨p,xs,i,z,rfl,rfl,D,o,q⟩:=h
 cases n
 obtain ⟨t,rfl⟩:=C
 obtain ⟨f,r,c,G⟩:=I.list D
 obtain ⟨j,h1,h2,F,B,m⟩:=zP o
 obtain ⟨w,l,b⟩:=r.get h2
 have A:=r.length
 have E:=tS
 have a:EP X a5 σ Q w s:=⟨z,H,I,b,q⟩
 by_cases k:0<=i
 .have e:i.toNat=j:=by
   rw[seqIndex_of k m] at h1
   exact CA h1
  exact item_listR c.isList k (by omega) (by rw[e];simpa using l) a g
 .have e:(i+(f.toArray.size:Int)).toNat=j:=by
   rw[seqIndex_neg (by omega) B] at h1
   rw[BJ,<-A]
   exact CA h1
  exact subscriptTail_builtinR (x:=w) c.isList.typeIs slot_list_getitem.lookup
   (wpAny_getItem_list_neg (Q:=fun r s'=>r=w/\EP X a5 σ Q r s') c.isList (by omega) (by rw[BJ]<;>omega) (by omega) (by rw[e];simpa using l) ⟨rfl,a⟩) g
theorem aJN:IxR X (aRG X.K):=by
 intro value b a5 s σ H x y v u Q I f l h e
 obtain ⟨p,xs,i,z,rfl,rfl,n,g,q⟩:=h
 cases f
 obtain ⟨t,rfl⟩:=l
 obtain ⟨m,r,d,E⟩:=I.tuple n
 obtain ⟨j,h1,h2,B,D,C⟩:=zP g
 obtain ⟨w,o,a⟩:=r.get h2
 have k:=r.length
 have A:=tS
 have c:EP X a5 σ Q w s:=⟨z,H,I,a,q⟩
 exact subscriptTail_builtinR (x:=w) d.typeIs slot_tuple_getitem.lookup
  (getItem_tuple (j:=j) (Q:=fun r s'=>r=w/\EP X a5 σ Q r s') d (by omega) (by omega) (by rw[BJ,<-k];exact h1) (by simpa using o) ⟨rfl,c⟩) e
theorem aJO:IxR X aRH:=by
 intro value a a5 s σ H x y v u Q I e l h b
 obtain ⟨z,i,c,rfl,rfl,p,f,q⟩:=h
 obtain ⟨t,rfl⟩:=e
 obtain ⟨o,rfl⟩:=l
 obtain ⟨j,h1,h2,n,k,d⟩:=zP f
 have g:z.cps.toList.length=z.length:=by simp[Str.length]
 rw[g] at h1 k d
 have m:=tS
 exact tail_any (typeIs_str s z t) slot_str_getitem.lookup (getItem_str (c:=c) (by
  have e1:decide (i < -(2 ^ 63:Int))=false:=AW (by omega)
  have e2:decide (i>=2 ^ 63)=false:=AW (by omega)
  rw[e1,e2,Bool.or_false]) (by rw[h1];simpa using h2) ⟨.str ⟨#[c]⟩,H,I.tok _,⟨_,rfl⟩,q⟩) b
def rIx(K:Frag):R2:=fun x y H Q=>aRF K x y H Q\/aRG K x y H Q\/aRH x y H Q
theorem aRI:IxR X (rIx X.K):=aGA.or (aJN.or aJO)
theorem aHX(a:List V9)(n j:Nat)(u:V9):Obj.mapSeq (·.setIfInBounds j u) {cls:=.type "list",data:=.seq a.toArray n}={cls:=.type "list",data:=.seq (a.set j u).toArray n}:=by
 simp[Obj.mapSeq]
theorem Inv.lst{a5:List (Az×Obj)}{σ:St}{H:Hp}{s:S9}{p:Az}{xs:List V}(I:Inv X a5 σ H s)(h:H p=some (.lst xs)) :
  ∃ (its:List V9) (n:Nat),b5 xs its/\s.heap.get? p=some {cls:=.type "list",data:=.seq its.toArray n}/\xs.length<=sizeLine:=by
 obtain ⟨z,its,n,r,e⟩:=I.hok p _ h
 exact ⟨its,n,r,e,z⟩
theorem Inv.lstUpd{a5:List (Az×Obj)}{σ:St}{H:Hp}{s:S9}{p:Az}{xs ys:List V}{a its':List V9}{n c:Nat}{f:Obj->Obj}(I:Inv X a5 σ H s)(h:H p=some (.lst xs))
  (g:s.heap.get? p=some {cls:=.type "list",data:=.seq a.toArray n}) (hf:f {cls:=.type "list",data:=.seq a.toArray n}={cls:=.type "list",data:=.seq its'.toArray c}) (r:b5 ys its') (hz:ys.length<=sizeLine) (t:Nat) :
  Inv X a5 σ (upd H p (.lst ys)) {s with heap:=s.heap.update p f,toks:=t}:=by
 have e:(s.heap.update p f).get? p=some {cls:=.type "list",data:=.seq its'.toArray c}:=by
  rw[C7 f g (by rw[hf]<;>rfl),hf]
 refine I.write (x:=p) (e:=p) (by rw[h];trivial) (.inl rfl) (fun b u d q=>(DH _ _ (BU d)).trans q) ⟨_,e⟩ ?_
 exact ⟨hz,its',c,r,e⟩
def aNW:V->V->V->Hp->(Hp->Prop)->Prop:=fun o i v H Q=>∃ p xs k j,o=.ref p/\i=.int k/\H p=some (.lst xs)/\ixN xs.length k=some j/\Q (upd H p (.lst (xs.set j v)))
theorem aDH:aLT X aNW:=by
 intro a5 s σ H o i v D C u Q I w y x h
 obtain ⟨p,xs,k,j,rfl,rfl,f,z,q⟩:=h
 cases w
 obtain ⟨t,rfl⟩:=y
 obtain ⟨a,n,r,b,A⟩:=I.lst f
 obtain ⟨h1,h2,g,l⟩:=zO z
 have c:=r.length
 have B:=tS
 have e:Inv X a5 σ (upd H p (.lst (xs.set j v))) {s with heap:=s.heap.update p (Obj.mapSeq (·.setIfInBounds j u))}:=
  I.lstUpd f b (aHX a n j u) (r.set x j) (by rw[CC];exact A) s.toks
 by_cases m:0<=k
 .have d:k.toNat=j:=by
   rw[seqIndex_of m l] at h1
   exact CA h1
  exact PySem.W.ki_setAt b m (by omega) (by rw[BJ,<-c];exact l) (by rw[d];exact ⟨_,e,q⟩)
 .have d:(k+(a.toArray.size:Int)).toNat=j:=by
   rw[seqIndex_neg (by omega) g] at h1
   rw[BJ,<-c]
   exact CA h1
  exact PySem.W.ki_setBack b (by omega) (by rw[BJ,<-c];exact g) (by omega) (by rw[d];exact ⟨_,e,q⟩)
theorem aDI(lo hi:O6 Int)(n:Nat):(sliceBounds lo hi none n).1=((HT.sIx n 0 lo:Nat):Int)/\(sliceBounds lo hi none n).2.1=((HT.sIx n n hi:Nat):Int)/\(sliceBounds lo hi none n).2.2=1:=by
 refine ⟨?_,?_,rfl⟩
 .cases lo with
  | none=>simp[sliceBounds,HT.sIx]
  | some i=>
   simp only[sliceBounds,HT.sIx,GF,show (1:Int) > 0 by decide,A8]
   by_cases h:i < 0
   · simp only [h, A8] <;> omega
   · simp only [h, BQ] <;> omega
 .cases hi with
  | none=>simp[sliceBounds,HT.sIx]
  | some i=>
   simp only[sliceBounds,HT.sIx,GF,show (1:Int) > 0 by decide,A8]
   by_cases h:i < 0
   · simp only [h, A8] <;> omega
   · simp only [h, BQ] <;> omega
theorem aCC(a:List V9)(lo hi:O6 Int):slicePick a.toArray lo hi none=((a.drop (HT.sIx a.length 0 lo)).take (HT.sIx a.length a.length hi - HT.sIx a.length 0 lo)).toArray:=by
 obtain ⟨h1,h2,b⟩:=aDI lo hi a.toArray.size
 unfold slicePick
 rw[h1,h2,b]
 simp only[sliceRange_one,pick_run,BJ]<;>rfl
def aUY(K:Frag):V->O6 Int->O6 Int->Hp->VK->Prop:=fun x lo hi H Q=>∃ a xs,x=.ref a/\SqL K H a xs/\∀ p,H p=none->Q (.ref p) (upd H p (.lst (tU xs lo hi)))
theorem aO0:SlR X (aUY X.K):=by
 intro a5 s σ H x v p t lo hi m Q I i g e f h
 obtain ⟨a,xs,rfl,j,q⟩:=h
 cases i
 obtain ⟨l,r,d,k⟩:=I.list j
 have c:=r.length
 refine ⟨"list",_,slot_list_getitem.lookup,d.isList.typeIs,?_⟩
 refine wpAny_getItem_list_slice d.isList g e f .none (by simp) ?_ (by rw[BJ]<;>omega)
 rw[aCC,<-c]
 refine ⟨.ref s.heap.objs.size,_,I.laid (t':=s.toks) (o:=.lst (tU xs lo hi)) (fun b n q=>AQ _ q) (A2 _) ?_,rfl,q _ (I.hok.fresh (A2 _))⟩
 exact ⟨BY (wG xs lo hi) k,_,0,(r.drop (HT.sIx xs.length 0 lo)).take (HT.sIx xs.length xs.length hi - HT.sIx xs.length 0 lo),BE _ rfl⟩
theorem cC:nC X (.type "tuple") (fun xs H Q=>∃ p ys,xs=[.ref p]/\((SqL X.K H p ys/\∀ l,H l=none->Q (.ref l) (upd H l (.tup ys)))\/(SqT X.K H p ys/\Q (.ref p) H))):=by
 intro a5 s σ H xs t Q I r h
 obtain ⟨p,ys,rfl,h⟩:=h
 obtain ⟨u,rfl,k⟩:=xT r
 cases k
 rcases h with ⟨f,q⟩|⟨f,q⟩
 .obtain ⟨a,c,d,j⟩:=I.list f
  have i:=c.length
  refine call_tuple_list d.isList (fun h' m=>?_) (by simp only[BJ]<;>omega)
  have g:Inv X a5 σ H {s with heap:=h'}:=I.kept (t':=s.toks) m
  have n:Inv X a5 σ (upd H h'.objs.size (.tup ys)) {s with heap:=h'.push {cls:=.type "tuple",data:=.seq a.toArray}}:=
   g.laid (t':=s.toks) (fun b o e=>AQ _ e) (A2 _) (show eH X.prog X.w _ _ _ (.tup ys) from ⟨j,a,c,nO.new _ _⟩)
  exact ⟨.ref h'.objs.size,_,n,rfl,q _ (g.hok.fresh (A2 _))⟩
 .obtain ⟨a,c,d,j⟩:=I.tuple f
  exact call_tuple_same d ⟨.ref p,H,I,rfl,q⟩
def tyV(K:Frag)(T:String)(x:V)(H:Hp):Prop:=match x with
 | .str _=>T="str"
 | .int _=>T="int"
 | .ref p=>(T="list"/\∃ xs,SqL K H p xs)\/(T="tuple"/\∃ o,K.lookup p=some o/\o.cls=.type "tuple"/\o.dict=none) \/
  (T="dict"/\((∃ a6,H p=some (.dK a6))\/∃ a6,H p=some (.dT a6)))\/(T="set"/\∃ S n,H p=some (.set S n))
 | _=>False
theorem aRJ{a5:List (Az×Obj)}{σ:St}{H:Hp}{s:S9}{T:String}{x:V}{v:V9}(I:Inv X a5 σ H s)(r:cB x v)(ty:tyV X.K T x H) :
  s.TypeIs v T/\∀ a,v=.ref a->∃ ob,s.heap.get? a=some ob/\ob.dict=none:=by
 cases x with
 | str z=>
  obtain ⟨t,rfl⟩:=r
  cases (show T="str" from ty)
  exact ⟨typeIs_str s z t,fun _ e=>nomatch e⟩
 | int i=>
  obtain ⟨t,rfl⟩:=r
  cases (show T="int" from ty)
  exact ⟨typeIs_int s i t,fun _ e=>nomatch e⟩
 | ref p=>
  cases r
  rcases ty with ⟨rfl,xs,k⟩|⟨rfl,o,b,h,f⟩|⟨rfl,b⟩|⟨rfl,S,n,b⟩
  .obtain ⟨j,_,g,_⟩:=I.list k
   refine ⟨g.isList.typeIs,fun a e=>?_⟩
   cases e
   obtain ⟨o,n,e,c,f,_⟩:=g
   exact ⟨o,e,f⟩
  .refine ⟨⟨o,I.kIn p o b,h⟩,fun a e=>?_⟩
   cases e
   exact ⟨o,I.kIn _ o b,f⟩
  .have z:∃ o,s.heap.get? p=some o/\o.ExactDict:=by
    rcases b with ⟨d,b⟩|⟨d,b⟩
    .obtain ⟨_,_,_,_,o,_,_,e,ex,_⟩:=I.hok p _ b
     exact ⟨o,e,ex⟩
    .obtain ⟨_,_,_,_,o,_,_,e,ex,_⟩:=I.hok p _ b
     exact ⟨o,e,ex⟩
   obtain ⟨o,e,ex⟩:=z
   refine ⟨⟨o,e,ex.1⟩,fun a e2=>?_⟩
   cases e2
   exact ⟨o,e,ex.2.1⟩
  .obtain ⟨o,_,_,_,e,ex,_⟩:=I.hok p _ b
   refine ⟨⟨o,e,ex.1⟩,fun a e2=>?_⟩
   cases e2
   exact ⟨o,e,ex.2.1⟩
 | _=>exact False.elim ty
def tBM(K:Frag)(T:String)(r:V->List V->Hp->VK->Prop)(to:TE)(t:TA):TE:=fun σ H Q=>to σ H fun x H1=>tyV K T x H1/\t σ H1 fun xs H2=>r x xs H2 Q
variable{o e:Ez}{es:List Ez}{to:TE}{t:TA}{name:Str}{apos cpos:Pos}{T id:String}{r:V->List V->Hp->VK->Prop}
theorem iV(n:PlainAttrs T)(slot:Slot T name id)(c:typeOf (.builtin id)=pure (.type "method_descriptor"))(w:MtR X id r)(k:PE X o to)(z:PA X (e::es) t)
  (a:attributeBase o name X.env (eval o X.env)=eval o X.env:=by rfl)
  (hfew:((backTo cpos (starEach (e::es) X.env)).all (fun x=>!x.1) && (backToKw cpos (keywordEach [] X.env)).all (fun x=>x.1.isSome)
   && decide ((e::es).length+([]:List Keyword).length+(if ([]:List Keyword).isEmpty then 0 else 1) < 30))=true:=by rfl)
  (hline:(apos.endLine == cpos.line)=true:=by rfl) (hs:starEach (e::es) X.env=(false,eval e X.env)::starEach es X.env:=by rfl) (hplain:(backTo cpos (starEach es X.env)).any (·.1)=false:=by rfl) :
  PE X (.Call (.Attribute o name apos) (e::es) [] cpos) (tBM X.K T r to t):=by
 intro a5 s σ H Q I h
 refine wpAny_Call_method_late a hfew hline rfl (thn (k a5 s σ H _ I h) fun v q b=>?_)
 obtain ⟨x,H1,d,g,p,j⟩:=b
 obtain ⟨h1,h2⟩:=aRJ d g p
 refine ⟨T,id,n,slot,c,h1,h2,?_⟩
 have f:=z cpos a5 q σ H1 _ d j
 rw[hs] at f ⊢
 refine Calls.callWith_builtin (by show (false || (backTo cpos (starEach es X.env)).any (·.1))=false;rw[hplain]<;>rfl) (Calls.evalArgs_plain ?_)
 exact thn f fun y i ⟨vs,H2,u,m,l⟩=>w a5 i σ H2 x vs v y Q u g m l
end
def MtM(X:Cx)(id:String)(r:V->List V->Hp->VK->Prop):Prop:=
 ∀ (a5:List (Az×Obj)) (s:S9) (σ:St) (H:Hp) (x:V) (xs:List V) (v:V9) (us:List V9) (Q:VK),Inv X a5 σ H s->cB x v->b5 xs us->r x xs H Q->
  wpAny (model X.prog X.w) X.A (call (.builtin id) (v::us)) (EP X a5 σ Q) X.xe s
theorem b5.one:∀ {x:V} {us:List V9},b5 [x] us->∃ u,us=[u]/\cB x u
 | _,_,.cons r .nil=>⟨_,rfl,r⟩
section
variable{X:Cx}{a5:List (Az×Obj)}{σ:St}{H:Hp}{s:S9}{l b:Az}{xs ys zs:List V}
theorem Inv.lset{a its':List V9}{n:Nat}{f:Array V9->Array V9}{t':Nat}(I:Inv X a5 σ H s)(b:H l=some (.lst xs))
  (e:s.heap.get? l=some {cls:=.type "list",data:=.seq a.toArray n}) (hf:f a.toArray=its'.toArray) (hv:b5 ys its') (hz:ys.length<=sizeLine) :
  Inv X a5 σ (upd H l (.lst ys)) {s with heap:=s.heap.update l (Obj.mapSeq f),toks:=t'}:=by
 have q:=PySem.IsL.update e f
 rw[hf] at q
 refine I.write (x:=l) (e:=l) (by rw[b];exact trivial) (.inl rfl) (fun g u c d=>(DH s.heap (Obj.mapSeq f) (BU c)).trans d) ⟨_,q⟩ ?_
 exact ⟨hz,its',_,hv,q⟩
theorem Inv.lnew{a:List V9}{t':Nat}(I:Inv X a5 σ H s)(b:b5 ys a)(c:ys.length<=sizeLine) :
  Inv X a5 σ (upd H s.heap.objs.size (.lst ys)) {s with heap:=s.heap.push {cls:=.type "list",data:=.seq a.toArray},toks:=t'}:=
 I.laid (fun _ _ q=>AQ _ q) (A2 _) ⟨c,a,0,b,BE _ rfl⟩
theorem Inv.fresh(I:Inv X a5 σ H s):H s.heap.objs.size=none:=I.hok.fresh (A2 _)
theorem Inv.lstM(I:Inv X a5 σ H s)(a:H l=some (.lst xs)):xs.length<=sizeLine/\∃ (its:List V9) (n:Nat),b5 xs its/\xs.length=its.length/\s.heap.get? l=some {cls:=.type "list",data:=.seq its.toArray n}:=by
 obtain ⟨z,its,n,r,e⟩:=I.hok l _ a
 exact ⟨z,its,n,r,r.length,e⟩
end
section
variable{X:Cx}
def zQ:V->List V->Hp->VK->Prop:=fun x vs H Q=>∃ l xs y,x=.ref l/\vs=[y]/\H l=some (.lst xs)/\xs.length < sizeLine/\Q .non (upd H l (.lst (xs++[y])))
theorem gQ:MtM X "list.append" zQ:=by
 intro a5 s σ H x vs v j Q I f c h
 obtain ⟨l,xs,y,rfl,rfl,b,i,q⟩:=h
 cases f
 obtain ⟨u,rfl,d⟩:=c.one
 obtain ⟨z,a,n,r,g,e⟩:=I.lstM b
 refine GA F.slot_list_append ⟨_,e,rfl⟩ F.entry_list_append (F.args_list_append_2 _ _) (PySem.list_append l a.toArray n u (by rw[BJ];omega)) ⟨e,?_⟩
 refine ⟨.non,_,I.lset (its':=a++[u]) b e (by simp) (r.append (.cons d .nil)) ?_,rfl,q⟩
 rw[AZ,B6]
 omega
theorem aO1{α:Type}(xs:List α)(k:Nat):(List.replicate k xs).flatten.length=k * xs.length:=by
 induction k with
 | zero=>simp
 | succ k ih=>rw[CU,DD,AZ,ih,Nat.succ_mul,HB]
end
end L2
namespace Att
open PySem.W PySem.Calls PyProof.Rows
theorem xV{P:Params}{h:Hz}:∀ (ns:List Int) (vs:List V9),WellAll P h vs (ns.map WData.int)->IntsAre vs ns:=by
 intro ns
 induction ns with
 | nil=>
  intro vs w
  rw[A5] at w
  cases w
  exact .nil
 | cons n ns ih=>
  intro vs w
  rw[AI] at w
  cases w with
  | cons a b=>
   cases a
   exact .cons _ _ (ih _ b)
theorem aJP{l:OpenLaw}{n:Nat}(m:l.most=some n){P:Params}{h:Hz}{args:List WData}{c:List V9}
  (b:l.row.toRowW.claim.pre args=true) (j:WellAll P h c args) :
  ∃ a vs ns,c=[Value.ref a]/\args=[WData.list (ns.map WData.int)]/\h.get? a=some {cls:=.type "list",data:=.seq vs.toArray}/\IntsAre vs ns/\ns.length<=n:=by
 have i:WShape.hasAll [] args [.list .int]=true:=(pre_splitW b).1
 have k:l.pre.holds [] {args:=args}=true:=(pre_splitW b).2
 obtain ⟨d,r,rfl,h1,h2⟩:=hasAllW_cons i
 obtain rfl:=hasAllW_nil h2
 obtain ⟨xs,rfl,p⟩:=hasW_list h1
 obtain ⟨ns,rfl⟩:=items_int p
 have e:ns.length<=n:=by
  unfold OpenLaw.pre at k
  have f:(WTm.not (.lt (.lit (.int (n:Int))) (.len (.arg 0)))).holds [] {args:=[.list (ns.map .int)]}=true:=by
   have f:=(holds_andW k).1
   rw[m] at f
   exact f
  have g:=condW_of f (w_not (w_lt w_lit (w_len_list (w_arg rfl))))
  rw[AH] at g
  refine Nat.le_of_not_lt fun q=>?_
  have o:(n:Int) < ((ns.length:Nat):Int):=by omega
  first
   | (rw[AT o] at g;exact absurd g (by decide))
   | (simp at g;omega)
 cases j with
 | cons w1 w2=>
  cases w2
  cases w1 with
  | list ho hall=>exact ⟨_,_,ns,rfl,rfl,ho,xV ns _ hall,e⟩
theorem aJQ(l:OpenLaw)(args:List WData):l.row.toRowW.claim.post args (.bool true) args=true:=
 postW_of (r:=l.row.toRowW) (X:=(true == true))
  (show WShape.has [] (.bool true) .bool=true by first|rfl|decide|simp[WShape.has,WShape.arms,WShape.armsAll])
  (show (WTm.eq .res (.lit (.bool true))).value [] {args:=args,res:=some (.bool true),after:=args}=some (.bool (true == true)) from w_eq_bool (w_res rfl) w_lit) rfl
theorem attach_call{l:OpenLaw}{n:Nat}{q:P9}{b:List Str}{t:(Str->O6 V9)->Hz->Prop}{x:W9->Hz->Prop}{d:DefRec}
  (D:l.most=some n) (m:d.params.defaults=[])
  (call:∀ (w:W9) (s₀ s₁:S9) (mg mb:Str->O6 V9) (fa:Az) (o:Obj) (pm cd doc:V9) (a:Az) (vs:List V9) (ns:List Int),
   Ground q b [] t w s₀ mg mb s₁.heap->x w s₁.heap->
   s₁.heap.get? fa=some o->o.data=.func (docDef d.name d.params d.body d.scope pm cd doc)->s₁.heap.CodeRec cd d.name->mg d.name=some (.ref fa)->
   s₁.heap.get? a=some {cls:=.type "list",data:=.seq vs.toArray}->IntsAre vs ns->ns.length<=n->s₁.gens = #[]->
   codeAny (model l.prog w) callerA (.call (.ref fa) ⟨[.ref a],[]⟩) (fun r s'=>r=.ok (.ret (.bool true))/\OldK s₁.heap s'.heap/\s'.os=s₁.os/\AllBare s'.gens) s₁) :
  WalkO q b t x l.row.toRowW d [] (fun f vs=>PySem.call f vs):=by
 intro w s₀ s₁ mg mb G Y fa o pm cd doc E kV y I j u k C s v K g p F i z
 obtain rfl:E=.none:=Dflts.none u m
 obtain rfl:kV=.none:=Dflts.noKw u
 obtain ⟨a,vs,ns,rfl,rfl,e,c,h⟩:=aJP D g i
 refine enter_call (E5 (call w s₀ s₁ mg mb fa o pm cd doc a vs ns G Y y (fd_plain I) j k e c h C) fun r s' B=>?_)
 obtain ⟨rfl,h2,A,H⟩:=B
 exact ⟨.inl ⟨.bool true,.bool true,[],rfl,fun _=>rfl,.bool true,aJQ l _,fun _=>⟨List.Pairwise.nil,fun _ J=>(nomatch J)⟩⟩,h2,A,H⟩
section
variable{prog:P9}{w:W9}{A:U9}{E:V9->S9->Prop}{s:S9}{K:Frag}
end
end Att
namespace L2
open PySem.Spec PyProof.Rows
theorem aBF:∀ {vs:List V9} {ns:List Int},IntsAre vs ns->b5 (ns.map V.int) vs
 | _,_,.nil=>.nil
 | _,_,.cons n t h=>.cons ⟨t,rfl⟩ (aBF h)
def aL5(H:Hp):Prop:=∀ b,H b=none\/∃ o xs,H b=some (.frz o (.lst xs))
theorem aL6{P:P9}{w:W9}{K:Frag}{mg N:Str->O6 V9}{CX:CXT}{k:Nat}{J a:Az}{fd:FuncData}{x:Str}{sp:Sp}{c:S9}{vs:List V9}{ns:List Int}
  (Q:K.In c.heap) (l:c.heap.Ns mainGlobals mg) (g:c.heap.Ns builtinsNs N) (I:∀ x:Str,x≠"__name__"->N x=bootBuiltins x) (p:c.heap.NoLimit) (X:c.gens = #[])
  (E:c.heap.get? a=some {cls:=.type "list",data:=.seq vs.toArray}) (hi:IntsAre vs ns) (hl:ns.length<=sizeLine) (hr:Room k callerA)
  (F:∀ base:Hz,K.In base->base.Ns mainGlobals mg->FnOk P w K mg base CX k J fd [x] sp) (hbind:∀ (s:S9) (u:V9),BindsTo s fd ⟨[u],[]⟩ [(x,u)])
  (hsp:∀ H:Hp,aL5 H->SqL K H a (ns.map V.int)->sp [.ref a] H (fun v _=>v=.bl true) fun _ _ _=>False)
  (hCX:∀ H e s',CX [] H c (fun _ _ _=>False) e s'->False) :
  codeAny (model P w) callerA (.call (.ref J) ⟨[.ref a],[]⟩) (fun r s'=>r=.ok (.ret (.bool true))/\OldK c.heap s'.heap/\s'.os=c.os/\AllBare s'.gens) c:=by
 have S:=aBF hi
 have t:=hi.length
 have j:∀ H:Hp,aL5 H->SqL K H a (ns.map V.int)->HOk P w H c.heap->(∀ b,H b≠none->b=a)->(H a≠none->K.lookup a=none)->
   codeAny (model P w) callerA (.call (.ref J) ⟨[.ref a],[]⟩) (fun r s'=>r=.ok (.ret (.bool true))/\OldK c.heap s'.heap/\s'.os=c.os/\AllBare s'.gens) c:=by
  intro H O hS A R Y
  have f:∀ {b:Az} {o:Obj},c.heap.get? b=some o->H b=none->(rE c.heap H).get? b=some o:=fun e n=>aLQ e n
  have G:∀ {b:Az} {o:Obj} {es:Array DictEntry} {ep:Nat},c.heap.get? b=some o->o.data=.dict es ep->H b=none:=fun {b o es ep} e d=>by
   cases q:H b with
   | none=>rfl
   | some u=>
    have L:b=a:=R b (by rw[q];simp)
    subst L
    rw[E] at e;cases e
    have Z:Data.seq vs.toArray _=Data.dict es ep:=d
    cases Z
  have i:∀ {b:Az} {m:Str->O6 V9},c.heap.Ns b m->(rE c.heap H).Ns b m:=fun {b m} ⟨o,es,ep,e,d,r⟩=>⟨o,es,ep,f e (G e d),d,r⟩
  have y:K.In (rE c.heap H):=fun b o e=>f (Q b o e) (by
   cases q:H b with
   | none=>rfl
   | some u=>
    have L:b=a:=R b (by rw[q];simp)
    subst L
    rw[Y (by rw[q];simp)] at e;cases e)
  have W:Mod K mg (rE c.heap H):=⟨y,i l,⟨N,i g,I⟩,let ⟨mc,h1,h2⟩:=p;⟨mc,i h1,h2⟩⟩
  have e0:Env0 P w K mg (rE c.heap H) callerA [] c H:=⟨rfl,W,fun b o e=>aON e,Nat.le_of_eq (aJE _ _),trivial,fun b g=>absurd (show b∈([]:List Az) from g) (by simp),A,.of_eq X⟩
  refine E5 ((F _ y (i l)).run callerA [] c H ⟨[.ref a],[]⟩ [.ref a] [.ref a] _ _ hr e0 (hbind c (.ref a)) (.cons rfl .nil) (hsp H O hS)) fun r s' h=>?_
  cases r with
  | error e=>exact (hCX H e s' h).elim
  | ok fl=>
   cases fl with
   | next=>exact False.elim h
   | brk=>exact False.elim h
   | cont=>exact False.elim h
   | ret u=>
    obtain ⟨v,H',os,D,un,B,T,q⟩:=h
    have q':v=.bl true:=q
    subst q'
    obtain rfl:u=Value.bool true:=T
    refine ⟨rfl,OldK.of_keep fun b o e=>?_,os,D⟩
    cases q:H b with
    | none=>exact un.keep b o e q (by intro z;exact absurd (show b∈([]:List Az) from z) (by simp)) (by simp)
    | some u=>
     rcases O b with z|⟨U,xs,z⟩
     .rw[q] at z;cases z
     .have z2:=un.frzs b U _ z
      obtain ⟨e1,_⟩:=A b _ z
      obtain ⟨e2,_⟩:=B b _ z2
      rw[e] at e1;cases e1
      exact e2
 cases M:K.lookup a with
 | some o=>
  have e:=Q a o M
  rw[E] at e
  cases e
  refine j (fun _=>none) (fun _=>.inl rfl) (.inr ⟨_,vs.toArray,_,M,rfl,rfl,rfl,by rw[BJ,t];exact hl,by simpa using S⟩) (fun b u z=>by have C:(none:O6 HO)=some u:=z;cases C) (fun b z=>absurd rfl z) fun z=>absurd rfl z
 | none=>
  refine j (fun b=>if b=a then some (.frz {cls:=.type "list",data:=.seq vs.toArray} (.lst (ns.map V.int))) else none) (fun b=>?_) (.inl (.inr ⟨{cls:=.type "list",data:=.seq vs.toArray},AA rfl⟩)) (fun b u z=>?_) (fun b z=>?_) fun _=>M
  .by_cases g:b=a
   .exact .inr ⟨_,_,AA g⟩
   .exact .inl (AE g)
  .by_cases g:b=a
   .have C:=(AA g).symm.trans z
    cases C
    subst g
    exact ⟨E,by rw[AH];exact hl,vs,_,S,E⟩
   .have C:=(AE g).symm.trans z
    cases C
  .by_cases g:b=a
   .exact g
   .exact absurd (AE g) z
abbrev KOf{K:Frag}{h:Hz}(_:K.In h):Frag:=K
theorem walk_of{l:PySem.W.OpenLaw}{n k:Nat}{q:P9}{i:List Str}{J:(Str->O6 V9)->Hz->Prop}{D:W9->Hz->Prop}{d:DefRec}{K:Params->Frag}{CX:W9->CXT}{sp:W9->Sp}{x:Str}
  (P:l.most=some n) (y:n<=sizeLine) (A:d.params.defaults=[]) (S:Room k callerA)
  (E:∀ (w:W9) (h:Hz),D w h->(K w.params).In h)
  (F:∀ (w:W9) (mg:Str->O6 V9) (fa:Az) (h:Hz),(K w.params).In h->h.Ns mainGlobals mg->mg d.name=some (.ref fa)->
   ∃ fd:FuncData,(∀ (s:S9) (u:V9),BindsTo s fd ⟨[u],[]⟩ [(x,u)]) /\
    ∀ base:Hz,(K w.params).In base->base.Ns mainGlobals mg->FnOk l.prog w (K w.params) mg base (CX w) k fa fd [x] (sp w))
  (r:∀ (w:W9) (H:Hp) (a:Az) (ns:List Int),ns.length<=n->aL5 H->SqL (K w.params) H a (ns.map V.int)->sp w [.ref a] H (fun v _=>v=.bl true) fun _ _ _=>False)
  (t:∀ (w:W9) (H:Hp) (s:S9) (e:V9) (s':S9),CX w [] H s (fun _ _ _=>False) e s'->False) :
  PySem.W.WalkO q i J D l.row.toRowW d [] (fun f vs=>PySem.call f vs):=by
 refine Att.attach_call P A fun w C p mg mb fa o U cd L a vs ns G Y X Z O z m j c M=>?_
 have B:=E w _ Y
 obtain ⟨fd,N,R⟩:=F w mg fa _ B G.T.g z
 exact aL6 B G.T.g G.T.b G.T.builtins G.T.nolimit M m j (BY c y) S R N (fun H I Q=>r w H a ns c I Q) fun H e s'=>t w H p e s'
noncomputable def aS(s:Stmt)(j:Nat):Stmt:=match s with
 | .ClassDef _ _ _ body _ _ _ _ _ _ _=>body.getD j (.Pass ⟨0,0,0,0⟩)
 | _=>.Pass ⟨0,0,0,0⟩
noncomputable def gJ(s:Stmt):Arguments:=match s with
 | .FunctionDef _ a _ _ _ _ _ _ _ _=>a
 | _=>{posonlyargs:=[],args:=[],vararg:=none,kwonlyargs:=[],kw_defaults:=[],kwarg:=none,defaults:=[]}
noncomputable def dX(s:Stmt):List Stmt:=match s with
 | .FunctionDef _ _ b _ _ _ _ _ _ _=>b
 | _=>[]
noncomputable def aN(s:Stmt):Scope:=match s with
 | .FunctionDef _ _ _ _ _ _ sc _ _ _=>sc
 | _=>{kind:=.function,names:=[],isGenerator:=false,isCoroutine:=false}
abbrev CX0:CXT:=fun _ _ _ _ _ _=>False
abbrev E0:XK:=fun _ _ _=>False
theorem aCS{X:Cx}:lE CX0 X E0:=fun _ _ _ _ _ _ _ h=>h.elim
structure Fun(K:Frag)(x qual:Str)(st:Stmt)(f:Az)(fd:FuncData):Prop where
 ex:∃ (oc:V9) (od:Option Az) (kV doc pm:V9) (an:Option Az) (cdv ct:V9) (osl:Array (Option V9)),
  fd=PySem.W.fnOf x qual (gJ st) (dX st) (aN st) .none kV doc pm an cdv ct/\K.lookup f=some ⟨oc,od,.func fd,osl⟩/\PySem.W.codeIn K cdv qual=true
 kp:PySem.W.keepIn K (.ref f)=true
section
variable{P:P9}{w:W9}{K:Frag}{mg:Str->O6 V9}{base:Hz}
theorem Fun.ok{x a:Str}{st:Stmt}{f:Az}{fd:FuncData}{N ps:List Str}{k:Nat}{sp:Sp}(F:Fun K x a st f fd)(S:FnScope N ps (aN st))(len:∀ vs H Q E,sp vs H Q E->vs.length=ps.length)
  (b:∀ (cdv:V9) (A:U9) (outer:List Env) (s:S9) (H:Hp) (vs:List V) (Q:VK) (E:XK),Room k (A.deeper (envOfC a (aN st) s.heap.objs.size f cdv))->sp vs H Q E->
   ∃ t,PSs (lM CX0 P w K mg base N a (aN st) f cdv A outer s H E).nox (dX st) t/\t {nx:=fun _ H'=>Q .non H',rt:=Q} (start N vs) H):FnOk P w K mg base CX0 (k+1) f fd ps sp:=by
 obtain ⟨n,od,kV,i,l,o,cdv,m,e,rfl,g,c⟩:=F.ex
 refine aNU g c S len fun A outer s H vs Q E j d=>?_
 obtain ⟨t,h,q⟩:=b cdv A outer s H vs Q E j d
 exact ⟨t,h.nox,q⟩
theorem Fun.binds{x a:Str}{st:Stmt}{f:Az}{fd:FuncData}{ps:List Str}(F:Fun K x a st f fd)
  (h:∀ (kV doc pm:V9) (an:O6 Az) (cdv ct:V9) (us:List V9),us.length=ps.length->bindArgs (PySem.W.fnOf x a (gJ st) (dX st) (aN st) .none kV doc pm an cdv ct) ⟨us,[]⟩=pure (ps.zip us)):fY K fd ps []:=by
 obtain ⟨e,od,kV,doc,pm,an,cdv,ct,b,rfl,d,c⟩:=F.ex
 exact .all (h kV doc pm an cdv ct)
theorem l9{x a:Str}{st:Stmt}{f:Az}{h:V9}{od g:O6 Az}{d:Array (O6 V9)}{kV doc e b ct:V9}(l:K.lookup f=some ⟨h,od,.func (PySem.W.fnOf x a (gJ st) (dX st) (aN st) .none kV doc e g b ct),d⟩)
 (c:PySem.W.codeIn K b a=true) (k:PySem.W.keepIn K (.ref f)=true):Fun K x a st f (PySem.W.fnOf x a (gJ st) (dX st) (aN st) .none kV doc e g b ct):=⟨⟨h,od,kV,doc,e,g,b,ct,d,rfl,l,c⟩,k⟩
end
section
variable{X:Cx}
theorem pv(i:Nat){x:Str}{pos:Pos}(a:X.N[i]? = some x:=by rfl)(hv:Vis X.env.scope x:=by first|exact Or.inl rfl|exact Or.inr (Or.inl rfl)|exact Or.inr (Or.inr rfl))(hd:(x == ("__debug__":Str))=false:=by decide)
 (hcd:(x == ("__classdict__":Str))=false:=by decide):PE X (.Name x pos) (mP i):=aQV a hv hd hcd
end
theorem wT{A B:Prop}(h:B):if false=true then A else B:=by
 rw[AE CW]
 exact h
theorem wU{A B:Prop}(h:A):if true=true then A else B:=by
 rw[AA rfl]
 exact h
def bA(H H':Hp):Prop:=∀ b o,H b=some o->H' b=some o
theorem bA.trans{H H1 H2:Hp}(a:bA H H1)(b:bA H1 H2):bA H H2:=fun c o h=>b c o (a c o h)
theorem bA.free{H H':Hp}(e:bA H H'){l:Az}(h:H' l=Option.none):H l=Option.none:=by
 cases q:H l with
 | none=>rfl
 | some o=>
  rw[e l o q] at h
  cases h
theorem bA.seq{K:Frag}{H H':Hp}{a:Az}{xs:List V}(e:bA H H')(h:SqL K H a xs):SqL K H' a xs:=by
 rcases h with (h|⟨o,h⟩)|h
 · exact .inl (.inl (e _ _ h))
 · exact .inl (.inr ⟨o, e _ _ h⟩)
 · exact .inr h
theorem aHY{env:Env}:∀ (names:List (Str×NameKind)) (a7:List (Str×Az)),(∀ x∈names,x.2=.free->∃ c,env.cells.lookup x.1=some c)->
  (∀ x c,a7.lookup x=some c->env.cells.lookup x=some c)->
  ∃ cl,(forIn names a7 fun x r=>(if (x.2 == NameKind.free)=true then (do let a <-cellOf env x.1;pure (ForInStep.yield ((x.1,a)::r))) else pure (ForInStep.yield r)):Sem (List (Str×Az)))=pure cl /\
   (∀ x c,cl.lookup x=some c->env.cells.lookup x=some c)/\(∀ x∈names,x.2=.free->∃ c,cl.lookup x.1=some c)/\∀ x c,a7.lookup x=some c->∃ c',cl.lookup x=some c':=by
 intro names
 induction names with
 | nil=>intro a7 _ h;exact ⟨a7,rfl,h,fun x o=>absurd o (by simp),fun x c e=>⟨c,e⟩⟩
 | cons x r ih=>
  intro a7 j h
  obtain ⟨n,k⟩:=x
  by_cases m:k=.free
  .subst m
   obtain ⟨c,i⟩:=j (n,.free) BI rfl
   have i:env.cells.lookup n=some c:=i
   obtain ⟨cl,e1,e2,l,g⟩:=ih ((n,c)::a7) (fun y f=>j y (A9 _ f)) (fun y d e=>by
    rw[CT] at e
    cases q:y == n with
    | true=>rw[q] at e;cases e;have:=GN q;subst this;exact i
    | false=>rw[q] at e;exact h y d e)
   refine ⟨cl,?_,e2,fun y f b=>?_,fun y d e=>?_⟩
   .rw[EH]
    simp only[ED,A8]
    unfold cellOf
    simp only[i,pure_bind]
    exact e1
   .rcases AY.mp f with z|z
    .subst z
     exact g n c (by rw[CT];simp)
    .exact l y z b
   .by_cases q:y=n
    .subst q;exact g y c (by rw[CT];simp)
    .exact g y d (by rw[CT,E6 q];exact e)
  .obtain ⟨cl,e1,e2,l,g⟩:=ih a7 (fun y f=>j y (A9 _ f)) h
   refine ⟨cl,?_,e2,fun y f b=>?_,g⟩
   .rw[EH]
    have:(k == NameKind.free)=false:=by simpa using m
    simp only[this,A7,BQ,pure_bind]
    exact e1
   .rcases AY.mp f with z|z
    .subst z;exact absurd b m
    .exact l y z b
theorem xW{env:Env}{scope:Scope}(b:∀ x∈scope.names,x.2=.free->∃ c,env.cells.lookup x.1=some c) :
  ∃ cl,closureFor scope env=pure cl/\(∀ x c,cl.lookup x=some c->env.cells.lookup x=some c)/\∀ x∈scope.names,x.2=.free->∃ c,cl.lookup x.1=some c:=by
 obtain ⟨cl,e1,e2,a,_⟩:=aHY scope.names [] b (fun x c e=>by simp at e)
 refine ⟨cl,?_,e2,a⟩
 unfold closureFor
 first
  | exact e1
  | (rw[<-e1];rfl)
  | (simp only[bind_pure];exact e1)
theorem jF{env:Env}:∀ {names:List (Str×NameKind)} {x:Str} {k:NameKind},
  (names.map fun (n,k)=>if (k == NameKind.free && env.scope.kind == .function && env.kindOf n == some .cell) then (n,NameKind.cell) else (n,k)).lookup x=some k->
  k=.cell\/k=.free->(∀ y∈names,y.2≠.cell)->(x,NameKind.free)∈names
 | [],_,_,h,_,_=>by simp at h
 | (n,k0)::r,x,k,h,hk,hc=>by
  have ih:=@jF env r x k
  rw[AI] at h
  dsimp only at h
  by_cases c:x=n
  .subst c
   by_cases a:(k0 == NameKind.free && env.scope.kind == .function && env.kindOf x == some .cell)=true
   .have:k0=.free:=by
     simp only[BD] at a
     exact GN a.1.1
    subst this
    exact BI
   .rw[AE a,CT] at h
    simp only[ED] at h
    cases h
    rcases hk with rfl|rfl
    .exact absurd rfl (hc _ BI)
    .exact BI
  .have b:(x == n)=false:=E6 c
   refine A9 _ (ih ?_ hk fun y d=>hc y (A9 _ d))
   split at h
   .rw[CT,b] at h;exact h
   .rw[CT,b] at h;exact h
noncomputable def iK(X:Cx)(N:List Str)(scope:Scope)(cl:List (Str×Az))(C:Az)(s:S9)(H:Hp)(fp:List Az):Cx where
 prog:=X.prog
 w:=X.w
 K:=X.K
 mg:=X.mg
 base:=X.base
 A:=X.A
 N:=N
 s₀:=s
 H₀:=H
 env:=compEnvC scope cl C X.env
 outer:=X.stack
 stack:=X.stack
 ex:=fp
 calm:=X.calm
 fn:=fun _=>false
 pn:=[]
 xe:=fun _ _=>False
inductive Caps(X:Cx)(scope:Scope):List Str->List (Option Nat)->Prop
 | nil:Caps X scope [] []
 | own {x:Str} {N:List Str} {js:List (Option Nat)} (t:Caps X scope N js):Caps X scope (x::N) (none::js)
 | cap {x:Str} {j:Nat} {N:List Str} {js:List (Option Nat)} (h1:X.N[j]? = some x) (h2:X.env.kindOf x=some .cell\/X.env.kindOf x=some .free)
  (h3:(relabel scope X.env).names.lookup x=some .cell\/(relabel scope X.env).names.lookup x=some .free) (t:Caps X scope N js):Caps X scope (x::N) (some j::js)
theorem Caps.len{X:Cx}{scope:Scope}{N:List Str}{js:List (O6 Nat)}(c:Caps X scope N js):js.length=N.length:=by
 induction c with
 | nil=>rfl
 | own _ ih=>simp[ih]
 | cap _ _ _ _ ih=>simp[ih]
theorem Caps.get{X:Cx}{scope:Scope}{N:List Str}{js:List (O6 Nat)}(c:Caps X scope N js):∀ {i j:Nat} {x:Str},js[i]? = some (some j)->N[i]? = some x->
  X.N[j]? = some x/\(X.env.kindOf x=some .cell\/X.env.kindOf x=some .free)/\((relabel scope X.env).names.lookup x=some .cell\/(relabel scope X.env).names.lookup x=some .free):=by
 induction c with
 | nil=>intro i j x h;simp at h
 | own _ ih=>
  intro i j x h1 h2
  cases i with
  | zero=>simp at h1
  | succ i=>exact ih (by simpa using h1) (by simpa using h2)
 | cap a b d _ ih=>
  intro i j x h1 h2
  cases i with
  | zero=>
   simp at h1 h2
   subst h1 h2
   exact ⟨a,b,d⟩
  | succ i=>exact ih (by simpa using h1) (by simpa using h2)
noncomputable def mR(js:List (O6 Nat))(σ:St):St:=js.map fun o=>o.bind fun j=>(σ[j]?).join
def gR(σ σ':St):Prop:=σ'.length=σ.length/\∀ (i:Nat) v,σ[i]? = some (some v)->σ'[i]? = some (some v)
theorem gR.refl(σ:St):gR σ σ:=⟨rfl,fun _ _ h=>h⟩
theorem gR.trans{a b c:St}(h:gR a b)(k:gR b c):gR a c:=⟨k.1.trans h.1,fun i v e=>k.2 i v (h.2 i v e)⟩
section
variable{X:Cx}
def PIf(X:Cx)(ifs:List Ez)(t:TT):Prop:=
 ∀ (a5:List (Az×Obj)) (s:S9) (σ:St) (H:Hp) (Q:Bool->Hp->Prop),Inv X a5 σ H s->t σ H Q->
  wpAny (model X.prog X.w) X.A (forIn ifs true fun c r=>if r=true then do let ok <-isTrue c X.env (eval c X.env);pure (ForInStep.yield ok) else pure (ForInStep.yield r)) (TP X a5 σ Q) X.xe s
def aRK:TT:=fun _ H Q=>Q true H
theorem eX:PIf X [] aRK:=by
 intro a5 s σ H Q I h
 show wpAny _ _ (pure true) _ _ s
 exact A1 ⟨H,I,h⟩
end
def zR(X:Cx)(N:List Str)(scope:Scope)(js:List (O6 Nat))(tg elt:Ez)(ifs:List Ez)(σ:St)(x:V)(H:Hp)(R:O6 V->Hp->Prop):Prop:=
 ∀ (cl:List (Str×Az)) (C:Az) (s:S9) (H0:Hp) (fp:List Az),∃ (g:TG) (tt:TT) (te:TE),PG (iK X N scope cl C s H0 fp) tg g/\PIf (iK X N scope cl C s H0 fp) ifs tt/\PE (iK X N scope cl C s H0 fp) elt te /\
  ∀ σ0,gR (mR js σ) σ0->g x σ0 H fun σ2 H2=>gR (mR js σ) σ2/\tt σ2 H2 fun b H3=>if b=true then te σ2 H3 fun y H4=>R (some y) H4 else R none H3
def compK(X:Cx)(N:List Str)(scope:Scope)(js:List (O6 Nat))(tg elt:Ez)(ifs:List Ez)(σ:St)(Q:VK)(J:It)(H1:Hp):Prop:=∃ (n:Nat) (W:Nat->List V->Hp->Prop),n<=sizeLine/\W 0 [] H1 /\
 ∀ i ys H,W i ys H->ys.length<=i/\((J.stop i H/\∀ p,H p=none->Q (.ref p) (upd H p (.lst ys)))\/(J.go i H/\i < n/\∃ R:O6 V->Hp->Prop,(∀ y H2,R (some y) H2->W (i+1) (ys++[y]) H2)/\(∀ H2,R none H2->W (i+1) ys H2) /\
  ∀ x H',J.yld i H x H'->zR X N scope js tg elt ifs σ x H' R))
def vA(X:Cx)(N:List Str)(scope:Scope)(js:List (O6 Nat))(tg elt:Ez)(ifs:List Ez)(wi:TI):TE:=fun σ H Q=>wi σ H (compK X N scope js tg elt ifs σ Q)
section
variable{prog:P9}{w:W9}{A:U9}{R:Result->S9->Prop}{s:S9}
theorem aDJ{j a b:Ez}{i:List Ez}{scope:Scope}{pos:Pos}{it g:V9}{env:Env}(I:Nat->S9->Prop)
  (k:∀ n s,I n s->wpAny (model prog w) A (pyNext it) (fun r s1=>match r with
   | none=>R (.ok .next) s1
   | some v=>wpAny (model prog w) A (letOwnedTupleGo a it v) (fun _ s1'=>wpAny (model prog w) A (assign a env v) (fun _ s2=>
    wpAny (model prog w) A (forIn i true fun c r=>if r=true then do let ok <-isTrue c env (eval c env);pure (ForInStep.yield ok) else pure (ForInStep.yield r)) (fun ok s3=>
     if ok=true then wpAny (model prog w) A (eval j env) (fun x s4=>
      wpAny (model prog w) A (call (.builtin "list.append") [g,x]) (fun _ s5=>∃ m,m < n/\I m s5) (fun _ _=>False) s4) (fun _ _=>False) s3
     else ∃ m,m < n/\I m s3) (fun _ _=>False) s2) (fun _ _=>False) s1') (fun _ _=>False) s1) (fun _ _=>False) s)
  (n:Nat) (h:I n s) :
  codeAny (model prog w) A (.compLoop (.ListComp j [⟨a,b,i,0⟩] scope pos) 0 it g env) R s:=by
 refine codeAny_loop rfl I (fun n s E=>?_) n h
 show wpAny _ A ((compTurn (.ListComp j [⟨a,b,i,0⟩] scope pos) 0 it g env).onRaise (fun x=>do noteFrame x env;theTreesLotGoes x)) _ _ s
 refine wpAny_noted ?_
 rw[compTurn_list]
 have F:∀ {α:Type} {t:Sem α} {Q:α->S9->Prop} {E':V9->S9->Prop} {s:S9},wpAny (model prog w) A t Q (fun _ _=>False) s->wpAny (model prog w) A t Q E' s:=fun h=>C0 h (fun _ _ q=>q) fun _ _ f=>f.elim
 refine AD (G7 (AD (C0 (k n s E) (fun r C e=>?_) fun _ _ h'=>h'.elim)))
 cases r with
 | none=>exact A1 e
 | some v=>
  refine AD (C0 e (fun _ s1' u=>?_) fun _ _ f=>f.elim)
  refine AD (C0 u (fun _ y p=>AD (C0 p (fun ok z d=>?_) fun _ _ h'=>h'.elim)) fun _ _ h'=>h'.elim)
  cases ok with
  | false=>exact A1 ⟨rfl,d⟩
  | true=>
   exact AD (AD (C0 d (fun x D l=>AD (C0 l (fun _ B o=>A1 (A1 ⟨rfl,o⟩)) fun _ _ h'=>h'.elim)) fun _ _ h'=>h'.elim))
end
theorem HOk.track{P:P9}{w:W9}{H:Hp}{h:Hz}{a:Az}{o:HO}(x:HOk P w H h)(d:H a=none)(new:eH P w (upd H a o) h a o):HOk P w (upd H a o) h:=fun b u e=>by
 by_cases f:b=a
 .subst f;rw[bQ] at e;cases e;exact new
 .rw[bB f] at e
  exact (x b u e).stay (fun c v _ q=>q) (fun c q=>by rw[bB (eM q d)];exact q) (fun c xs q=>by rw[bB (eM q d)];exact q) fun c xs q=>by rw[bB (eM q d)];exact q
section
variable{X:Cx}{a5:List (Az×Obj)}{σ:St}
structure CompEnd(X:Cx)(a5:List (Az×Obj))(σ:St)(D C:Az)(ys:List V)(H':Hp)(s':S9):Prop where
 inv:Inv X a5 σ (upd H' D (.lst ys)) s'
 ns:∃ m,s'.heap.Ns C m
 fp:k9 X a5 (upd H' D (.lst ys)) C
 nD:H' D=none
theorem CompEnd.gone{D C:Az}{ys:List V}{H H':Hp}{s':S9}{a:Hz}{d:St}(I:Inv X a5 d H s')(c:k9 X a5 H C)(g:Heap.SameBut C s'.heap a):Inv X a5 d H {s' with heap:=a}:=
 I.turned (it:=C) (t':=s'.toks) (fun b o f e=>(g.2 b f).trans e) c.1 c.2.1 c.2.2.2.1 c.2.2.2.2.1 c.2.2.2.2.2
theorem aDK{prog:P9}{w:W9}{A:U9}{E:V9->S9->Prop}{s:S9}{l:Az}{items:Array V9}{nn:Nat}{x:V9}{Q:V9->S9->Prop}(e:s.heap.get? l=some {cls:=.type "list",dict:=none,data:=.seq items nn})(hz:items.size<=sizeLine)
  (hQ:∀ nn' h',h'.get? l=some {cls:=.type "list",dict:=none,data:=.seq (items.push x) nn'}->Heap.SameBut l s.heap h'->Q .none {s with heap:=h'}) :
  wpAny (model prog w) A (call (.builtin "list.append") [.ref l,x]) Q E s:=by
 refine GA F.slot_list_append ⟨_,e,rfl⟩ F.entry_list_append (F.args_list_append_2 _ _) (PySem.list_append l items nn x (by omega)) ⟨e,?_⟩
 exact hQ _ _ (C7 _ e rfl) (DU ..)
theorem xX{N:List Str}{js:List (O6 Nat)}{scope:Scope}{tg al ad:Ez}{ao:List Ez}{cl:List (Str×Az)}{pos:Pos}{it:Az}{O:List Az}{tn:Nat->Hz->Prop}{J:It}{B:S9}{H2:Hp}{E:V9->S9->Prop}
  {RR:V9->Az->Result->S9->Prop} {Q:VK} (hc:X.calm=true) (af:Caps X scope N js) (U:scope.kind=.function) (s:∀ y∈scope.names,y.2≠.cell)
  (f:∀ x c,cl.lookup x=some c->X.env.cells.lookup x=some c) (ae:∀ x∈scope.names,x.2=.free->∃ c,cl.lookup x.1=some c)
  (I:Inv X a5 σ H2 B) (T:Turn X.prog X.w X.K tg J O it tn) (bh:tn 0 B.heap) (Z:∀ b∈O,k9 X a5 H2 b) (n:Nat) (W:Nat->List V->Hp->Prop) (hn:n<=sizeLine) (w0:W 0 [] H2)
  (ba:∀ i ys H,W i ys H->ys.length<=i/\((J.stop i H/\∀ p,H p=none->Q (.ref p) (upd H p (.lst ys)))\/(J.go i H/\i < n/\∃ R:O6 V->Hp->Prop,(∀ y H2,R (some y) H2->W (i+1) (ys++[y]) H2)/\(∀ H2,R none H2->W (i+1) ys H2) /\
   ∀ x H',J.yld i H x H'->zR X N scope js tg al ao σ x H' R)))
  (bq:∀ D C ys H' s',CompEnd X a5 σ D C ys H' s'->Q (.ref D) (upd H' D (.lst ys))->RR (.ref D) C (.ok .next) s') :
  wpAny (model X.prog X.w) X.A (newList []) (fun a7 s3=>wpAny (model X.prog X.w) X.A (newFunctionEnv scope X.env.globals cl [] X.env.qual none .none (some X.env)) (fun cenv s4=>
   codeAny (model X.prog X.w) X.A (.compStart (.ListComp al [⟨tg,ad,ao,0⟩] scope pos) 0 (.ref it) a7 {cenv with scope:=relabel scope X.env}) (RR a7 cenv.locals) s4) E s3) E B:=by
 refine C4 (wpAny_newFunctionEnv s (by intro y hy;simp at hy) (fun G F h=>?_) U)
 dsimp only at F h ⊢
 generalize ak:B.heap.push {cls:=.type "list",dict:=none,data:=.seq ([]:List V9).toArray}=Hh at F h ⊢
 have hC:Hh.objs.size=B.heap.objs.size+1:=by rw[<-ak,C6]
 have aa:B.heap.objs.size≠Hh.objs.size:=by rw[hC];exact B8 (EX _)
 have M:B.heap.objs.size<=Hh.objs.size:=by rw[hC];exact GW _
 have P:∀ b o,B.heap.get? b=some o->G.get? b=some o:=fun b o e=>h.extBut b o (by rw[hC];exact B8 (Nat.lt_succ_of_lt (A6 e))) (AQ _ (ak▸AQ _ e))
 have ap:G.get? B.heap.objs.size=some {cls:=.type "list",dict:=none,data:=.seq ([]:List V9).toArray}:=h.extBut _ _ aa (AQ _ (ak▸BE _ rfl))
 have av:tn 0 G:=T.keep _ _ _ bh fun b a o e=>P b o e
 have ai:∀ b∈O,b < B.heap.objs.size:=fun b a=>by
  obtain ⟨o,e,_⟩:=T.obj _ _ bh b a
  exact A6 e
 have aw:∀ b∈frs X.stack,b < B.heap.objs.size:=fun b a=>by
  rcases AY.mp (I.stkSub b a) with z|z
  .rw[z];exact I.lt
  .refine GG fun bo=>I.nofs bo z
 have bi:∀ b∈O,b≠Hh.objs.size:=fun b a z=>CI _ (BM (ai b a) (z▸M))
 generalize hD:B.heap.objs.size=D at *
 generalize cf:Hh.objs.size=C at *
 let X':=iK X N scope cl C B H2 O
 have ay:X'.Ok:=by
  refine ⟨I.ok.mod,U,I.ok.glob,I.ok.blt,by show B.heap.objs.size<=C;rw[hD];exact M,fun x y c e1 e2=>I.ok.inj x y c (f x c e1) (f y c e2),fun x hx=>?_,fun x c z=>absurd (show false=true from z) CW,I.ok.hd,I.ok.frames,.inl rfl,fun b a=>?_,
   I.bs,BY I.ok.bsz I.sz,fun b o e a=>?_,fun b a z=>?_,I.stack,I.stkFree⟩
  .have hm:(x,NameKind.free)∈scope.names:=by
    rcases hx with z|z
    .exact jF (env:=X.env) z (.inl rfl) s
    .exact jF (env:=X.env) z (.inr rfl) s
   exact ae _ hm rfl
  .exact ⟨bi b a,fun x c e=>(Z b a).2.2.2.2.1 x c (f x c e)⟩
  .rcases (Z b a).2.2.2.1 with z|z
   .exact I.ok.noex b o e z
   .exact absurd (A6 (I.ok.bs b o e).1) (Nat.not_lt.mpr z)
  .rcases AY.mp (I.stkSub b z) with q|q
   .exact (Z b a).2.1 q
   .exact (Z b a).2.2.1 q
 have bc:(mR js σ).length=N.length:=by unfold mR;rw[AH,af.len]
 have freeC:H2 C=none:=I.hok.fresh (by rw[hD];exact M)
 have S:H2 D=none:=I.hok.fresh (by rw[hD];exact A2 _)
 have DnotFs:D∉frs X.stack:=fun z=>CI _ (aw D z)
 have DnotFp:D∉O:=fun z=>CI _ (ai D z)
 have I0:∀ tk,Inv X' [] (mR js σ) H2 {B with heap:=G,toks:=tk}:=fun tk=>by
  refine ⟨ay,rfl,I.bare,Un.kept P,⟨_,F,fun i x v e1 e2 e3=>?_⟩,fun x c e=>?_,freeC,fun x c e=>I.freeC x c (f x c e),fun p L=>absurd L (by show ¬ p∈([]++[]:List (Az×Obj));simp),I.hok.kept P,bc⟩
  .unfold mR at e2
   rw[AS] at e2
   cases q:js[i]? with
   | none=>rw[q] at e2;cases e2
   | some o=>
    rw[q] at e2
    cases o with
    | none=>cases e2
    | some j=>
     have ac:(σ[j]?).join=some v:=CA e2
     obtain ⟨c1,c2,c3⟩:=af.get q e1
     have e4:σ[j]? = some (some v):=by
      cases z:σ[j]? with
      | none=>rw[z] at ac;cases ac
      | some u=>rw[z] at ac;have:u=some v:=ac;rw[this]
     obtain ⟨m,hm,hl⟩:=I.loc
     have bv:Vis X.env.scope x:=by
      rcases c2 with z|z
      · exact .inr (.inl z)
      · exact .inr (.inr z)
     obtain ⟨u,r,l⟩:=hl j x v c1 e4 bv
     refine ⟨u,r,.inr ⟨c3,?_⟩⟩
     have lc:∃ c,X.env.cells.lookup x=some c/\B.heap.IsCell c (some u):=by
      rcases l with ⟨k,_⟩|⟨_,z⟩
      · rcases c2 with z | z <;> (rw [k] at z; cases z)
      · exact z
     obtain ⟨c,e5,o,ho,hd⟩:=lc
     have cb:(x,NameKind.free)∈scope.names:=by
      rcases c3 with z|z
      · exact jF (env := X.env) z (.inl rfl) s
      · exact jF (env := X.env) z (.inr rfl) s
     obtain ⟨c',e6⟩:=ae _ cb rfl
     have e7:=f _ _ e6
     rw[e5] at e7;cases e7
     exact ⟨c,e6,o,P c o ho,hd⟩
  .obtain ⟨v,o,ho,hd⟩:=I.cell x c (f x c e)
   exact ⟨v,o,P c o ho,hd⟩
 have ah:∀ {H':Hp} {pl:List (Az×Obj)},(∀ b∈O,H' b=none)->(∀ b∈O,∀ p∈pl,p.1≠b)->∀ b∈O,k9 X' pl H' b:=fun {H' pl} hn hpl b a=>by
  refine ⟨hn b a,bi b a,ay.exfs b a,.inl a,fun x c e=>(Z b a).2.2.2.2.1 x c (f x c e),fun p L=>hpl b a p ?_⟩
  have bn:p∈[]++pl:=L
  simpa using bn
 let LI:Nat->S9->Prop:=fun k s'=>∃ i ys its nn σ' H',k=n+1 - i/\i<=n/\W i ys H'/\tn i s'.heap/\(∀ b∈O,H' b=none)/\b5 ys its/\gR (mR js σ) σ' /\
  Inv X' [(D,{cls:=.type "list",dict:=none,data:=.seq its.toArray nn})] σ' H' s'
 have ag:∀ tk,codeAny (model X.prog X.w) X.A (.compLoop (.ListComp al [⟨tg,ad,ao,0⟩] scope pos) 0 (.ref it) (.ref D) (compEnvC scope cl C X.env)) (RR (.ref D) C) {B with heap:=G,toks:=tk}:=by
  intro tk
  refine aDJ LI ?_ (n+1) ⟨0,[],[],0,mR js σ,H2,rfl,B3 _,w0,av,fun b a=>(Z b a).1,.nil,gR.refl _,?_⟩
  .rintro k s3 ⟨i,ys,its,nn,σ3,H3,rfl,hin,w3,st3,fr3,r3,ks,I3⟩
   obtain ⟨bj,tr⟩:=ba i ys H3 w3
   have bf:=ah (pl:=[(D,{cls:=.type "list",dict:=none,data:=.seq its.toArray nn})]) fr3 (fun b a p L z=>by
    rw[A4.mp L] at z
    exact DnotFp ((show D=b from z)▸a))
   rcases tr with ⟨stop,q⟩|⟨go,bg,RW,bz,bu,step⟩
   .refine thn (T.done X' rfl rfl rfl hc i _ s3 σ3 H3 _ I3 bf st3 stop) fun r s4 t=>?_
    obtain ⟨hr,I4⟩:=t
    subst hr
    show RR (.ref D) C (.ok .next) s4
    obtain ⟨pe,pn,p1,p2,p3⟩:=I4.pin (D,{cls:=.type "list",dict:=none,data:=.seq its.toArray nn}) (by show _∈[]++_;simp)
    refine bq D C ys H3 s4 ?_ (q D pn)
    have be:HOk X.prog X.w (upd H3 D (.lst ys)) s4.heap:=HOk.track I4.hok pn ⟨BY bj (BY hin hn),its,nn,r3,pe⟩
    have aq:∀ b u,H2 b=some u->b≠D:=fun b u e z=>by rw[z,S] at e;cases e
    have bw:Un (frs X.stack) O H2 (upd H3 D (.lst ys)) B.heap s4.heap:=by
     have ub:=I4.base
     refine ⟨ub.keep,ub.slot,fun b o e am hx=>?_,ub.there,fun b xs e=>?_,fun b o u e=>?_,fun b ps e=>?_⟩
     .rw[bB (fun z=>by have:=A6 e;rw[hD,z] at this;exact CI _ this)]
      exact ub.free b o e am hx
     .rw[bB (aq b _ e)];exact ub.tups b xs e
     .rw[bB (aq b _ e)];exact ub.frzs b o u e
     .rw[bB (aq b _ e)];exact ub.tbls b ps e
    refine ⟨I.call' I4.os bw be I4.bare fun b a=>⟨(Z b a).2.2.2.1,(Z b a).2.1,(Z b a).2.2.2.2.1,(Z b a).2.2.2.2.2⟩,?_,?_,pn⟩
    .obtain ⟨m,hm,_⟩:=I4.loc
     exact ⟨m,hm⟩
    .refine I.fpOk (by rw[hD];exact M) ?_
     rw[bB (BU aa)]
     exact I4.free
   .refine thn (T.item X' rfl rfl rfl hc i _ s3 σ3 H3 _ I3 bf st3 go) fun r s4 t=>?_
    obtain ⟨u,hr,h4⟩:=t
    subst hr
    show wpAny _ _ (letOwnedTupleGo tg (.ref it) u) _ _ s4
    refine thn h4 fun _ s5 t=>?_
    obtain ⟨x,H5,I5,r5,y5,aj,bp⟩:=t
    obtain ⟨g,tt,te,hg,ht,he,hq⟩:=step x H5 y5 cl C B H2 O
    have az:=ah (pl:=[(D,{cls:=.type "list",dict:=none,data:=.seq its.toArray nn})]) bp (fun b a p L z=>by
     rw[A4.mp L] at z
     exact DnotFp ((show D=b from z)▸a))
    have br:=I5.pinned az (T.obj _ _ aj)
    refine thn (hg _ s5 σ3 H5 x u _ br r5 (hq σ3 ks)) fun _ s6 t=>?_
    obtain ⟨Y,H6,I6,ax,q6⟩:=t
    refine thn (ht _ s6 Y H6 _ I6 q6) fun b s7 t=>?_
    obtain ⟨H7,I7,q7⟩:=t
    have bd:∀ {s':S9} {H':Hp} {σ':St},Inv X' ([(D,{cls:=.type "list",dict:=none,data:=.seq its.toArray nn})]++tR O s5.heap) σ' H' s'->tn (i+1) s'.heap/\(∀ b∈O,H' b=none):=fun {s' H' σ'} I'=>by
     refine ⟨T.keep _ _ _ aj fun b a o e=>(I'.pin (b,o) (B5 _ (B5 _ (n8 a e)))).1,fun b a=>?_⟩
     obtain ⟨o,e,d⟩:=T.obj _ _ aj b a
     exact (I'.pin (b,o) (B5 _ (B5 _ (n8 a e)))).2.1
    cases b with
    | false=>
     rw[AE CW] at q7 ⊢
     obtain ⟨a1,a2⟩:=bd I7
     exact ⟨n+1 - (i+1),by omega,i+1,ys,its,nn,Y,H7,rfl,bg,bu _ q7,a1,a2,r3,ax,I7.unpinned⟩
    | true=>
     rw[AA rfl] at q7 ⊢
     refine thn (he _ s7 Y H7 _ I7 q7) fun yv s8 t=>?_
     obtain ⟨y,H8,I8,r8,q8⟩:=t
     obtain ⟨a1,a2⟩:=bd I8
     have I8u:=I8.unpinned
     obtain ⟨pe,pn,p1,p2,p3⟩:=I8u.pin (D,{cls:=.type "list",dict:=none,data:=.seq its.toArray nn}) (by show _∈[]++_;simp)
     have ci:s8.heap.IsList D its.toArray:=PySem.IsL.isList pe
     have bx:its.length<=sizeLine:=by rw[<-r3.length];exact BY bj (BY hin hn)
     refine aDK pe (by simpa using bx) fun am h9 e9 au=>?_
     have I9:Inv X' [] Y H8 {s8 with heap:=h9,toks:=s8.toks}:=by
      refine Inv.turned (a5:=[]) (it:=D) (t':=s8.toks) (I8u.pins_of (pins':=[]) fun p L=>absurd L (by simp)) (fun b o a e=>(au.2 b a).trans e) pn aa (.inr (by show B.heap.objs.size<=D;rw[hD];exact A2 _)) (fun x c e z=>?_) fun p L=>absurd L (by show ¬ p∈([]++[]:List (Az×Obj));simp)
      obtain ⟨v,o,ho,hd⟩:=I.cell x c (f x c e)
      have:=A6 ho
      rw[hD,z] at this
      exact CI _ this
     refine ⟨n+1 - (i+1),by omega,i+1,ys++[y],its++[yv],am,Y,H8,rfl,bg,bz _ _ q8,?_,a2,b5.append r3 (.cons r8 .nil),ax,?_⟩
     .exact T.keep _ _ _ a1 fun b a o e=>(au.2 b (fun z=>DnotFp (z▸a))).trans e
     .refine I9.pins_of fun p L=>?_
      obtain rfl:=A4.mp L
      exact ⟨by simpa using e9,pn,p1,p2,by simp⟩
  .refine (I0 tk).pins_of fun p L=>?_
   obtain rfl:=A4.mp L
   exact ⟨ap,S,aa,DnotFs,by simp⟩
 exact codeAny_compStart_list (ag _) (T.self X.A 0 _ _ _ av (ag _))
noncomputable def gS(names:List (Str×NameKind))(outer:Str->O6 NameKind):Bool:=
 names.all (fun y=>y.2 != .cell) && names.all (fun y=>y.2 != .local || names.lookup y.1 == some .local) && names.all (fun y=>y.2 != .free || outer y.1 == some .cell || outer y.1 == some .free)
theorem gS.cell{names:List (Str×NameKind)}{outer:Str->O6 NameKind}(h:gS names outer=true):∀ y∈names,y.2≠.cell:=fun y a=>by
 unfold gS at h
 simp only[BD,C5] at h
 simpa using h.1.1 y a
theorem gS.names{names:List (Str×NameKind)}{outer:Str->O6 NameKind}(h:gS names outer=true):∀ y∈names,y.2=.local->names.lookup y.1=some .local:=fun y a e=>by
 unfold gS at h
 simp only[BD,C5] at h
 have:=h.1.2 y a
 rw[e] at this
 simpa using this
theorem gS.free{names:List (Str×NameKind)}{outer:Str->O6 NameKind}(h:gS names outer=true):∀ y∈names,y.2=.free->outer y.1=some .cell\/outer y.1=some .free:=fun y a e=>by
 unfold gS at h
 simp only[BD,C5] at h
 have:=h.2 y a
 rw[e] at this
 simpa using this
theorem gZ{N:List Str}{js:List (O6 Nat)}{scope:Scope}{tg e b:Ez}{d:List Ez}{pos:Pos}{o:TI}(z:X.calm=true)(g:Caps X scope N js)(c:gS scope.names X.env.kindOf=true)
  (hi:PI X tg b o) (a:scope.kind=.function:=by rfl) (hs:∀ x,foldedSetIterable b X.env x=pure x:=by intro _;rfl) :
  PE X (.ListComp e [⟨tg,b,d,0⟩] scope pos) (vA X N scope js tg e d o):=by
 intro a5 s σ H Q I h
 obtain ⟨K,e1,e2,G⟩:=xW (env:=X.env) (scope:=scope) fun x u r=>I.ok.has _ (gS.free c x u r)
 rw[eval_ListComp]
 refine GH (use:=none) rfl hs e1 a (gS.names c) (thn (hi a5 s σ H _ I h) fun v M h1=>thn h1 fun y L h2=>?_)
 obtain ⟨it,fp,O,J,H2,rfl,E,T,i,B,n,W,t,p,f⟩:=h2
 refine xX (RR:=fun j C=>compPost (model X.prog X.w) X.A X.xe none (EP X a5 σ Q) j C) (Q:=Q) z g a (gS.cell c) e2 G E T i B n W t p f ?_
 intro D C ys H' s' k q
 obtain ⟨m,F⟩:=k.ns
 exact ⟨m,F,fun h' l=>⟨.ref D,_,CompEnd.gone (D:=D) (ys:=ys) (H':=H') k.inv k.fp l,rfl,q⟩⟩
theorem rF{i:Nat}{x:Str}{N:List Str}{js:List (O6 Nat)}{scope:Scope}{tg f b:Ez}{d:List Ez}{pos pos' g:Pos}{M:TI}(P:X.N.Nodup)(p:X.N[i]? = some x)(G:Loc X.env.scope x)
  (B:swapsWith (.ListComp f [⟨tg,b,d,0⟩] scope pos) (some (.Name x pos')) g.line X.env=pure true) (hc:X.calm=true) (o:Caps X scope N js) (j:gS scope.names X.env.kindOf=true)
  (hi:PI X tg b M) (c:scope.kind=.function:=by rfl) (E:X.fn x=true\/X.env.scope.names.lookup x=some .local:=by exact .inl rfl) (hs:∀ x,foldedSetIterable b X.env x=pure x:=by intro _;rfl) :
  PS X (.Assign [.Name x pos'] (.ListComp f [⟨tg,b,d,0⟩] scope pos) g) (oM (vA X N scope js tg f d M) (m9 i)):=by
 intro a5 s σ H D I h
 obtain ⟨cl,e1,e2,e3⟩:=xW (env:=X.env) (scope:=scope) fun x G E=>I.ok.has _ (gS.free j x G E)
 rw[exec_Assign_Name_used _ _ _ _ B]
 refine AD (G7 (AD ?_))
 show wpAny _ X.A (do let _ <-comprehension (.ListComp f [⟨tg,b,d,0⟩] scope pos) scope X.env _ (newList []) false (eval b X.env) (some (assign (.Name x pos') X.env))) _ _ s
 refine AD (C0 (GH (use:=some (assign (.Name x pos') X.env)) (Q:=fun _ s'=>SP X a5 D .next s') rfl hs e1 c (gS.names j)
  (thn (hi a5 s σ H _ I h) fun v s1 h1=>thn h1 fun aa s2 h2=>?_)) (fun _ s' R=>A1 (A1 R)) fun _ _ e=>e)
 obtain ⟨it,fp,tn,J,H2,rfl,I2,T,y,f2,n,W,Y,O,k⟩:=h2
 refine xX (RR:=fun F C=>compPost (model X.prog X.w) X.A X.xe (some (assign (.Name x pos') X.env)) (fun _ s'=>SP X a5 D .next s') F C) (Q:=fun v H'=>D.nx (σ.set i (some v)) H') hc o c (gS.cell j) e2 e3 I2 T y f2 n W Y O k ?_
 intro L C ys H' s' l q
 show wpAny _ X.A (assign (.Name x pos') X.env (.ref L)) _ _ s'
 refine wpAny_assign_Name (aA8 (v:=.ref L) l.inv P p G rfl (fun U r V=>?_) E)
 obtain ⟨a,t,S⟩:=V
 have u:C≠a:=by
  rcases S with z|z
  · rw [z]; exact l.fp.2.1
  · exact fun Z => l.fp.2.2.2.2.1 x a z Z.symm
 obtain ⟨m,hm⟩:=l.ns
 exact ⟨m,hm.sameBut t u,fun h' K=>⟨_,_,CompEnd.gone (D:=L) (ys:=ys) (H':=H') r l.fp K,q⟩⟩
end
noncomputable def aNX(W:Nat->List V->Hp->Prop)(i:Nat)(ys:List V):O6 V->Hp->Prop
 | some y,H=>W (i+1) (ys++[y]) H
 | none,H=>W (i+1) ys H
theorem aGB{X:Cx}{J:It}{N:List Str}{scope:Scope}{js:List (O6 Nat)}{tg c:Ez}{b:List Ez}{σ:St}{Q:VK}{n:Nat}{H1:Hp}(W:Nat->List V->Hp->Prop)(j:n<=sizeLine)(g:W 0 [] H1)
  (h:∀ i ys H,i<=n->W i ys H->ys.length<=i) (d:∀ i ys H,i < n->W i ys H->J.go i H) (f:∀ ys H,W n ys H->J.stop n H)
  (step:∀ i x ys H H',i < n->W i ys H->J.yld i H x H'->zR X N scope js tg c b σ x H' (aNX W i ys))
  (done:∀ ys H,W n ys H->∀ p,H p=none->Q (.ref p) (upd H p (.lst ys))) :
  compK X N scope js tg c b σ Q J H1:=by
 refine ⟨n,fun i ys H=>i<=n/\W i ys H,j,⟨B3 _,g⟩,?_⟩
 rintro i ys H ⟨hi,w⟩
 refine ⟨h i ys H hi w,?_⟩
 by_cases a:i < n
 .exact .inr ⟨d i ys H a w,a,aNX W i ys,fun y H2 q=>⟨a,q⟩,fun H2 q=>⟨a,q⟩,fun x H' y=>step i x ys H H' a w y⟩
 .have e:i=n:=by omega
  subst e
  exact .inl ⟨f ys H w,done ys H w⟩
mutual
inductive DatV(K:Frag)(H:Hp):V->Dz->Prop
 | non:DatV K H .non .none
 | bl (b:Bool):DatV K H (.bl b) (.bool b)
 | int (i:Int):DatV K H (.int i) (.int i)
 | str (x:Str):DatV K H (.str x) (.str x)
 | lst {a:Az} {xs:List V} {ds:List Dz}:SqL K H a xs->DatVs K H xs ds->DatV K H (.ref a) (.list ds)
 | tup {a:Az} {xs:List V} {ds:List Dz}:SqT K H a xs->DatVs K H xs ds->DatV K H (.ref a) (.tuple ds)
 | pl {a:Az} {ns:List Int}:H a=some (.lst (ns.map V.int))->DatV K H (.ref a) (.dict [(.list (ns.map .int),.none)])
inductive DatVs(K:Frag)(H:Hp):List V->List Dz->Prop
 | nil:DatVs K H [] []
 | cons {x:V} {d:Dz} {xs:List V} {ds:List Dz}:DatV K H x d->DatVs K H xs ds->DatVs K H (x::xs) (d::ds)
end
section
variable{X:Cx}{a5:List (Az×Obj)}{σ:St}{H:Hp}{s:S9}
mutual
theorem DatV.reads(I:Inv X a5 σ H s):∀ {x:V} {d:Dz} {u:V9},DatV X.K H x d->d.canLay0=true->cB x u->∃ as,Reads s.heap u d as
 | _,_,_,.non,_,r=>by cases r;exact ⟨_,.none⟩
 | _,_,_,.bl b,_,r=>by cases r;exact ⟨_,.bool b⟩
 | _,_,_,.int i,_,r=>by obtain ⟨t,rfl⟩:=r;exact ⟨_,.int i t⟩
 | _,_,_,.str x,_,r=>by obtain ⟨t,rfl⟩:=r;exact ⟨_,.str x t⟩
 | _,_,_,.pl _,y,_=>by cases y
 | _,_,_,.lst h ds,y,r=>by
  cases r
  obtain ⟨a,f,⟨o,e,c,n,d⟩,g⟩:∃ a:List V9,b5 _ a/\s.heap.IsList _ a.toArray/\_:=by
   obtain ⟨a,f,p,g⟩:=I.list h
   exact ⟨a,f,p.isList,g⟩
  obtain ⟨as,q⟩:=DatVs.reads I ds y f
  exact ⟨_,.list e c d (by simpa using q)⟩
 | _,_,_,.tup h ds,y,r=>by
  cases r
  obtain ⟨a,f,p,g⟩:=I.tuple h
  obtain ⟨o,e,c,n,d⟩:=p
  obtain ⟨as,q⟩:=DatVs.reads I ds y f
  exact ⟨_,.tuple e c d (by simpa using q)⟩
theorem DatVs.reads(I:Inv X a5 σ H s):∀ {xs:List V} {ds:List Dz} {us:List V9},DatVs X.K H xs ds->PyData.canLayAll0 ds=true->b5 xs us->∃ as,ReadsAll s.heap us ds as
 | _,_,_,.nil,_,r=>by cases r;exact ⟨_,.nil⟩
 | _,_,_,.cons (d:=d0) (ds:=ds0) h t,y,r=>by
  have a:(d0.canLay0 && PyData.canLayAll0 ds0)=true:=y
  rw[BD] at a
  cases r with
  | cons r1 r2=>
   obtain ⟨as,q⟩:=DatV.reads I h a.1 r1
   obtain ⟨bs,b⟩:=DatVs.reads I t a.2 r2
   exact ⟨_,.cons q b⟩
end
theorem oG{d:Dz}(h:SeqAt.shaped d=true):d.canLay0=true:=by
 have h':(d.canLay0 && decide (d.depth<=64))=true:=h
 rw[BD] at h'
 exact h'.1
theorem aRL(f:X.A.units+64 < cLine):OpR X (compareOp .Eq) (fun x y H Q=>∃ d e,DatV X.K H x d/\DatV X.K H y e/\SeqAt.shaped d=true/\SeqAt.shaped e=true/\Q (.bl (PyData.eqv d e)) H):=by
 intro a5 s σ H x y u v Q I k g h
 obtain ⟨d,e,l,i,b,a,q⟩:=h
 obtain ⟨m,j⟩:=l.reads I (oG b) k
 obtain ⟨bs,c⟩:=i.reads I (oG a) g
 exact eq_dataH j c b a f ⟨.bl _,H,I,rfl,q⟩
theorem aRM(f:X.A.units+64 < cLine):OpR X (compareOp .NotEq) (fun x y H Q=>∃ d e,DatV X.K H x d/\DatV X.K H y e/\SeqAt.shaped d=true/\SeqAt.shaped e=true/\Q (.bl (!PyData.eqv d e)) H):=by
 intro a5 s σ H x y u v Q I k g h
 obtain ⟨d,e,l,i,b,a,q⟩:=h
 obtain ⟨m,j⟩:=l.reads I (oG b) k
 obtain ⟨bs,c⟩:=i.reads I (oG a) g
 exact ne_dataH j c b a f ⟨.bl _,H,I,rfl,q⟩
end
theorem SqL.same{K:Frag}{H H':Hp}{a:Az}{xs:List V}(e:bA H H')(h:SqL K H a xs):SqL K H' a xs:=bA.seq e h
theorem SqT.same{K:Frag}{H H':Hp}{a:Az}{xs:List V}(e:bA H H')(h:SqT K H a xs):SqT K H' a xs:=by
 rcases h with (h|⟨o,h⟩)|h
 · exact .inl (.inl (e _ _ h))
 · exact .inl (.inr ⟨o, e _ _ h⟩)
 · exact .inr h
theorem DatV.same{K:Frag}{H H':Hp}(e:bA H H'){x:V}{d:Dz}(h:DatV K H x d):DatV K H' x d:=
 DatV.rec (motive_1:=fun x d _=>DatV K H' x d) (motive_2:=fun xs ds _=>DatVs K H' xs ds) .non .bl .int .str (fun h _ q=>.lst (h.same e) q) (fun h _ q=>.tup (h.same e) q) (fun h=>.pl (e _ _ h)) .nil (fun _ _ p q=>.cons p q) h
theorem DatVs.same{K:Frag}{H H':Hp}(e:bA H H'){xs:List V}{ds:List Dz}(h:DatVs K H xs ds):DatVs K H' xs ds:=
 DatVs.rec (motive_1:=fun x d _=>DatV K H' x d) (motive_2:=fun xs ds _=>DatVs K H' xs ds) .non .bl .int .str (fun h _ q=>.lst (h.same e) q) (fun h _ q=>.tup (h.same e) q) (fun h=>.pl (e _ _ h)) .nil (fun _ _ p q=>.cons p q) h
theorem bA.upd{H:Hp}{a:Az}{o:HO}(h:H a=none):bA H (upd H a o):=fun b u e=>by rw[bB (eM e h)];exact e
theorem DatVs.length{K:Frag}{H:Hp}:∀ {xs:List V} {ds:List Dz},DatVs K H xs ds->xs.length=ds.length
 | _,_,.nil=>rfl
 | _,_,.cons _ t=>by simp[DatVs.length t]
theorem DatVs.append{K:Frag}{H:Hp}:∀ {xs ys:List V} {ds es:List Dz},DatVs K H xs ds->DatVs K H ys es->DatVs K H (xs++ys) (ds++es)
 | _,_,_,_,.nil,h=>h
 | _,_,_,_,.cons a t,h=>.cons a (DatVs.append t h)
theorem DatVs.get{K:Frag}{H:Hp}:∀ {xs:List V} {ds:List Dz} {i:Nat} {x:V},DatVs K H xs ds->xs[i]? = some x->∃ d,ds[i]? = some d/\DatV K H x d
 | _,_,_,_,.nil,e=>by simp at e
 | _,_,0,_,.cons a t,e=>by simp at e;subst e;exact ⟨_,by simp,a⟩
 | _,_,i+1,x,.cons a t,e=>by
  obtain ⟨d,h1,h2⟩:=DatVs.get (i:=i) (x:=x) t (by simpa using e)
  exact ⟨d,by simpa using h1,h2⟩
theorem DatVs.get'{K:Frag}{H:Hp}:∀ {xs:List V} {ds:List Dz} {i:Nat} {d:Dz},DatVs K H xs ds->ds[i]? = some d->∃ x,xs[i]? = some x/\DatV K H x d
 | _,_,_,_,.nil,e=>by simp at e
 | _,_,0,_,.cons a t,e=>by simp at e;subst e;exact ⟨_,by simp,a⟩
 | _,_,i+1,x,.cons a t,e=>by
  obtain ⟨d,h1,h2⟩:=DatVs.get' (i:=i) (d:=x) t (by simpa using e)
  exact ⟨d,by simpa using h1,h2⟩
theorem DatVs.drop{K:Frag}{H:Hp}:∀ {xs:List V} {ds:List Dz} (n:Nat),DatVs K H xs ds->DatVs K H (xs.drop n) (ds.drop n)
 | _,_,0,h=>h
 | _,_,_+1,.nil=>.nil
 | _,_,n+1,.cons _ t=>DatVs.drop n t
theorem DatVs.take{K:Frag}{H:Hp}:∀ {xs:List V} {ds:List Dz} (n:Nat),DatVs K H xs ds->DatVs K H (xs.take n) (ds.take n)
 | _,_,0,_=>.nil
 | _,_,_+1,.nil=>.nil
 | _,_,n+1,.cons a t=>.cons a (DatVs.take n t)
end L2
namespace SX
open PySem.W
section
variable{prog:P9}{w:W9}{A:U9}{E:V9->S9->Prop}{h:Hz}{g:Array GenState}{d:Drawn}{t:Nat}{os:OsState}{K:Frag}
variable{nm q:Str}{C N:Az}{bs bm bmB:List V9}{hdct:Bool}{sn:List Str}{sub:List V9}{ab:Bool}{col:O6 Bool}{dd:O6 Az}{k0 k1 k2 k3 k5:O6 V9}{B newId initId:String}
end
end SX
namespace SX
open PySem.W PySem.Builtin PySem.Builtin.ObjectAttr
abbrev aDL:List V9:=[.type "ValueError",.type "Exception",.type "BaseException",.type "object"]
structure ExcC(K:Frag)(W C:Az):Prop where
 lk:∃ nm q N bs sn sub ab col dd k0 k1 k2 k3 k5,K.lookup C=some (excClassObj nm q C N bs (.ref W::aDL) true sn sub ab col dd k0 k1 k2 k3 k5 "ValueError.__new__")
 sa:findIn K (.ref C) "__setattr__"=some (some (.builtin "object.__setattr__"))
 ga:findIn K (.ref C) "__getattribute__"=some (some (.builtin "BaseException.__getattribute__"))
 gh:findIn K (.ref C) "__getattr__"=some none
 cl:findIn K (.ref C) "__class__"=some (some (.builtin "object.__class__"))
 clg:specialIn K (.builtin "object.__class__") "__get__"=some (some (.builtin "getset_descriptor.__get__"))
 clt:takesIn K (.builtin "object.__class__")=some true
 kp:keepIn K (.ref C)=true
theorem ExcC.cls{K:Frag}{W C:Az}(c:ExcC K W C):∃ cd:ClassData,clsIn K C=some cd/\cd.hasDict=true/\cd.mro=.ref C::.ref W::aDL:=by
 obtain ⟨nm,q,N,bs,sn,sub,ab,col,dd,k0,k1,k2,k3,k5,e⟩:=c.lk
 exact ⟨_,by unfold clsIn;rw[e],rfl,rfl⟩
theorem ExcC.mro{K:Frag}{W C:Az}(c:ExcC K W C)(b:V9):mroIn K C b=some ((Value.ref C::.ref W::aDL).contains b):=by
 obtain ⟨cd,h1,_,a⟩:=c.cls
 unfold mroIn
 rw[h1,CD,a]
 rfl
section
variable{prog:P9}{w:W9}{A:U9}{E:V9->S9->Prop}{s:S9}{K:Frag}{W C x:Az}{name:Str}{v:V9}{vs:Array V9}
theorem aJR{od:O6 Az}{o:O6 Obj}{Q:O6 V9->S9->Prop}(X:K.In s.heap)(c:ExcC K W C)(I:InstAt s.heap x ⟨.ref C,od,.fields vs,#[]⟩ C o)(h:Q (some (.ref C)) {s with toks:=s.toks+1}) :
  wpAny (model prog w) A (getAttr? (.ref x) "__class__") Q E s:=by
 obtain ⟨f,g,d,t,os⟩:=s
 obtain ⟨cd,b,hdct,i⟩:=c.cls
 have e:=I.type (M:=model prog w)
 have l:=looks_findIn (M:=model prog w) X c.ga
 have j:=looks_findIn (M:=model prog w) X c.gh
 have sub:Looks (model prog w) f (isInstance (.ref x) (.type "BaseException")) true:=e.andThen (looks_mroIn X (by rw[c.mro];simp[aDL]))
 have k:findObj K C o "__class__"=some (.bind (.builtin "getset_descriptor.__get__") (.builtin "object.__class__")):=by
  unfold findObj
  rw[b,CD,c.cl,CD]
  simp only[c.clg,c.clt,CD]
 have m:=looks_find (M:=model prog w) X I k
 unfold getAttr?
 refine AD (wpAny_mkText ?_)
 unfold getAttrBy?
 refine AD (FR ?_)
 unfold getAttrBy
 refine DW (AD (e.at (AD (l.at ?_))))
 show wpAny _ _ (getAttrByItsOwn _ _ _ _ _ _) _ _ _
 unfold getAttrByItsOwn
 refine AD ?_
 show wpAny _ _ (typeLookup (.ref C) "__getattr__") _ _ _
 refine j.at (AD (FR (DW ?_)))
 unfold callGetattribute
 rw[show (false && onTheHeap (Value.builtin "BaseException.__getattribute__"))=false from rfl,AE CW]
 unfold boundAndCalled
 rw[FS.ga.bind]
 refine AD (A1 ?_)
 have n:builtinKind "BaseException.__getattribute__"=some .slot:=by decide +kernel
 have a:splitId "BaseException.__getattribute__"=some ("BaseException","__getattribute__"):=by decide +kernel
 refine G6 (codeAny_call_builtin FS.ga.plain PySem.F.entry_bexc_ga (@check_slot (model prog w) _ _ _ "BaseException.__getattribute__" "BaseException" "__getattribute__" (.ref x) [.str "__class__" t] [] _ n a sub (PySem.F.args_bexc_ga (.ref x) (.str "__class__" t)) ?_))
 refine AD (A1 (AD (A1 ?_)))
 refine AD (e.at (AD (m.at ?_)))
 show wpAny _ _ (holding [.builtin "object.__class__"] (call (.builtin "getset_descriptor.__get__") [.builtin "object.__class__",.ref x,.ref C]) >>= ret) _ _ _
 refine AD (DW (G6 (class_get (s:=⟨f,g,d,t+1,os⟩) X I (by rw[c.mro];simp[aDL]) ?_)))
 refine A1 ?_
 show wpAny _ _ (handedOut (.ref C)) _ _ _
 exact A1 (A1 h)
theorem aL7{od:O6 Az}{o:O6 Obj}(c:ExcC K W C):KitX K (.ref x) (.ref C) (fun h=>InstAt h x ⟨.ref C,od,.fields vs,#[]⟩ C o) where
 ty:=fun _ _ _ I=>I.type
 it:=fun _ _ X _=>by
  obtain ⟨nm,q,N,bs,sn,sub,ab,col,dd,k0,k1,k2,k3,k5,e⟩:=c.lk
  intro j m l s' k q
  unfold isType loadHead
  exact AD (wpAny_loadPart (k _ _ (X _ _ e)) (A1 q))
 ne:=fun h d dd f n i X a=>by
  obtain ⟨nm,q,N,bs,sn,sub,ab,col,dd,k0,k1,k2,k3,k5,e⟩:=c.lk
  refine FV.mpr fun q=>?_
  have g:C=d:=Value.ref.inj (EN.mp q)
  subst g
  have z:=(X _ _ e).symm.trans a
  have b:Value.type "type"=Value.type "tuple":=FF Obj.cls (CA z)
  exact absurd (Value.type.inj b) (by decide)
 ca:=fun X I k=>aJR X c I k
theorem xY{od:O6 Az}{o:O6 Obj}{a:V9}{b:Bool}{Q:V9->S9->Prop}(X:K.In s.heap)(c:ExcC K W C)(I:InstAt s.heap x ⟨.ref C,od,.fields vs,#[]⟩ C o)(e:kitOne K (.ref C) a=some b)(h:∀ tk,Q (.bool b) {s with toks:=tk}) :
 wpAny (model prog w) A (call (.builtin "isinstance") [.ref x,a]) Q E s:=kia_one (aL7 c) X I e (fun z=>nomatch z) h
end
end SX
namespace SX
open PySem.W
def wV(h:Hz)(vs:Array V9)(e:Az)(T:O6 Az):Prop:=
 match T with
 | none=>vs[1]? = some .none
 | some t=>vs[1]? = some (.ref t)/\t≠e/\∃ oT ts x,h.get? t=some oT/\oT.data=.fields ts/\ts[3]? = some x
section
variable{M:Model}{A:U9}{E:V9->S9->Prop}{s:S9}
structure Noted(FL:List Az)(e:Az)(T:Option Az)(C:Az)(od:Option Az)(h h':Heap)(T':Option Az):Prop where
 keep:∀ b o,b∉FL->b≠e->(∀ t,T=some t->b≠t)->h.get? b=some o->h'.get? b=some o
 slot:∀ b o,b∈FL->h.get? b=some o->∃ sl,h'.get? b=some {o with slots:=sl}
 exc:∃ vs,h'.get? e=some ⟨.ref C,od,.fields vs,#[]⟩/\wV h' vs e T'
 new:(∃ t,T'=some t/\h.objs.size<=t)\/(T'=T/\T≠none)
 there:∀ t o,T=some t->h.get? t=some o->∃ o',h'.get? t=some o'
theorem aL8{base:Hz}{env:Env}{outer:List Env}{L e C:Az}{od:O6 Az}{vs:Array V9}{T:O6 Az}{Q:Unit->S9->Prop}
  (ac:A.frames=some (env::outer)) (hl:s.heap.FunFrames base (env::outer)) (hf:env.frame=some L) (I:s.heap.get? e=some ⟨.ref C,od,.fields vs,#[]⟩) (P:wV s.heap vs e T)
  (h:∀ h' T',T'≠none->Noted ((env::outer).filterMap (·.frame)) e T C od s.heap h' T'->Q () {s with heap:=h'}) :
  wpAny M A (noteFrame (.ref e) env) Q E s:=by
 have R:∀ b∈(env::outer).filterMap (·.frame),∃ o,s.heap.get? b=some o/\∀ vs,o.data≠.fields vs:=fun b f=>(hl.mem f).2
 have w:e∉(env::outer).filterMap (·.frame):=fun Y=>by
  obtain ⟨o,r,m⟩:=R e Y
  rw[I] at r;injection r with r;subst r;exact m vs rfl
 have N:1 < vs.size:=by
  unfold wV at P
  cases T with
  | none=>exact (DO.mp P).1
  | some t=>exact (DO.mp P.1).1
 have make:∀ (v:Hz) (g:V9) (i:Bool),v.FunFrames base (env::outer)->v.objs.size=s.heap.objs.size->v.get? e=some ⟨.ref C,od,.fields vs,#[]⟩->
   (∀ b o,(∀ t,T=some t->b≠t)->s.heap.get? b=some o->v.get? b=some o)->(∀ t o,T=some t->s.heap.get? t=some o->∃ o',v.get? t=some o'/\t∉(env::outer).filterMap (·.frame)/\t≠e)->
   wpAny M A (do let a <-frameOf env;let u <-entryPlaceOf L i;let b <-EntryCells.newEntry g a .none (rawInt L) .none u;setField (.ref e) 1 b) Q E {s with heap:=v}:=by
  intro v g i V X ae kp tp
  refine AD (wpAny_frameOf_fun (s:={s with heap:=v}) ac V hf fun c d=>?_)
  refine AD (wpAny_entryPlaceOf fun u J=>?_)
  unfold EntryCells.newEntry newFields
  refine AD (C4 ?_ (J.sizeOk5 _ _ _ _ _))
  have p:c.get? e=some ⟨.ref C,od,.fields vs,#[]⟩:=(d.2.1 e w).trans ae
  have n:=AQ (h:=c) {cls:=.type "traceback",dict:=none,data:=.fields ([g,.ref L,.none,rawInt L,.none]++(if u.isEmpty then List.replicate 6 Value.none else u)).toArray} p
  refine EO n rfl N ?_
  have K:c.objs.size≠e:=D4 (A6 p)
  have B:=C7 (Obj.mapFields (·.setIfInBounds 1 (Value.ref c.objs.size))) n rfl
  have G:=(DH (c.push {cls:=.type "traceback",dict:=none,data:=.fields ([g,.ref L,.none,rawInt L,.none]++(if u.isEmpty then List.replicate 6 Value.none else u)).toArray})
   (Obj.mapFields (·.setIfInBounds 1 (Value.ref c.objs.size))) (BU K)).trans (BE c rfl)
  have l:∀ b o,b≠e->c.get? b=some o->
    ((c.push {cls:=.type "traceback",dict:=none,data:=.fields ([g,.ref L,.none,rawInt L,.none]++(if u.isEmpty then List.replicate 6 Value.none else u)).toArray}).update e (Obj.mapFields (·.setIfInBounds 1 (Value.ref c.objs.size)))).get? b=some o:=
   fun b o y f=>by
    rw[DH _ _ (BU y)]
    exact AQ _ f
  refine h _ (some c.objs.size) (by simp) ⟨fun b o f y D q=>?_,fun b o f q=>?_,⟨vs.setIfInBounds 1 (.ref c.objs.size),?_,?_⟩,.inl ⟨_,rfl,by rw[d.1,X];exact A2 _⟩,fun t o e1 e2=>?_⟩
  .exact l b o y ((d.2.1 b f).trans (kp b o D q))
  .have D:∀ t,T=some t->b≠t:=fun t e1 z=>by
    obtain ⟨o',S,W,_⟩:=tp t o e1 (z▸q)
    exact W (z▸f)
   obtain ⟨sl,S⟩:=d.2.2 b o (kp b o D q)
   exact ⟨sl,l b _ (fun z=>w (z▸f)) S⟩
  .exact B
  .refine ⟨by simp[N],K,_,_,rawInt L,G,rfl,by first|(simp;done)|(rcases J with rfl|⟨_,_,_,_,_,_,_,rfl⟩<;>simp)⟩
  .obtain ⟨o',S,W,z3⟩:=tp t o e1 e2
   exact ⟨o',l t o' z3 ((d.2.1 t W).trans S)⟩
 unfold noteFrame
 simp only[hf]
 cases T with
 | none=>
  refine AD (B7 I rfl P ?_)
  rw[AE (by decide)]
  exact make s.heap .none _ hl rfl I (fun b o _ q=>q) (fun t o e1=>nomatch e1)
 | some t=>
  obtain ⟨O,F,oT,Z,x,H,k,U⟩:=P
  have aa:t∉(env::outer).filterMap (·.frame):=fun Y=>by
   obtain ⟨o,r,m⟩:=R t Y
   rw[H] at r;injection r with r;subst r;exact m Z k
  refine AD (B7 I rfl O ?_)
  rw[AA (show (Value.ref t != Value.none)=true from by simp)]
  refine AD (B7 H k U ?_)
  by_cases hx:(x == rawInt L)=true
  .rw[AA hx]
   refine A1 (h s.heap (some t) (by simp) ⟨fun b o _ _ _ q=>q,fun b o _ q=>⟨o.slots,q⟩,⟨vs,I,O,F,oT,Z,x,H,k,U⟩,.inr ⟨rfl,by simp⟩,fun t' o e1 q=>⟨o,q⟩⟩)
  .rw[AE hx]
   refine AD (EO H k (DO.mp U).1 ?_)
   have j:∀ b,b≠t->(s.heap.update t (Obj.mapFields (·.setIfInBounds 3 Value.none))).get? b=s.heap.get? b:=fun b f=>DH _ _ (BU f)
   have ad:=C7 (Obj.mapFields (·.setIfInBounds 3 Value.none)) H (E3 (DX k _))
   refine make (s.heap.update t (Obj.mapFields (·.setIfInBounds 3 Value.none))) _ _ (hl.of_keeps fun b o f m=>⟨o,(j b fun q=>?_).trans f,rfl⟩) (DU ..).1 ((j e (BU F)).trans I) (fun b o f q=>(j b (f t rfl)).trans q) (fun t' o e1 q=>?_)
   .rw[q,H] at f;injection f with f;subst f;exact m Z k
   .cases e1
    exact ⟨_,ad,aa,F⟩
theorem aHZ{e C t:Az}{od:O6 Az}{vs:Array V9}{g:O6 Az}{Q:Unit->S9->Prop}(k:s.heap.get? e=some ⟨.ref C,od,.fields vs,#[]⟩)(i:wV s.heap vs e (some t))
  (h:∀ h',Heap.SameBut t s.heap h'->wV h' vs e (some t)->Q () {s with heap:=h'}):wpAny M A (setFlight (.ref e) g) Q E s:=by
 obtain ⟨b,d,oT,l,x,f,a,j⟩:=i
 unfold setFlight
 refine AD (B7 k rfl b ?_)
 rw[AA (show (Value.ref t != Value.none)=true from by simp)]
 have c:=(DO.mp j).1
 refine EO f a c (h _ (DU ..) ⟨b,d,_,_,_,C7 _ f (E3 (DX a _)),DX a _,Array.getElem?_setIfInBounds_self_of_lt c⟩)
end
end SX
namespace L2
open PySem.Spec PyProof.Rows
def ExN(e C:Az)(od:O6 Az):HO:=.ext fun h=>∃ vs,h.get? e=some ⟨.ref C,od,.fields vs,#[]⟩/\vs[1]? = some .none
def ExO(e C:Az)(od:O6 Az):HO:=.ext fun h=>∃ vs,h.get? e=some ⟨.ref C,od,.fields vs,#[]⟩
section
variable{P:P9}{w:W9}{H:Hp}{h:Hz}{e C:Az}{od:O6 Az}
theorem aRN{vs:Array V9}(a:h.get? e=some ⟨.ref C,od,.fields vs,#[]⟩):eH P w H h e (ExO e C od):=
 ⟨⟨vs,a⟩,⟨_,a⟩,fun h1 h2 ⟨vs,a⟩ k=>⟨vs,k _ a⟩⟩
theorem aJS(ok:HOk P w H h)(q:H e=some (ExO e C od)):∃ vs,h.get? e=some ⟨.ref C,od,.fields vs,#[]⟩:=(ok e _ q).1
end
structure FlyAt(X:Cx)(H:Hp)(h:Heap)(e C:Az)(od:Option Az)(traced:Bool):Prop where
 tr:H e=some (ExO e C od)
 tb:∃ vs T,h.get? e=some ⟨.ref C,od,.fields vs,#[]⟩/\SX.wV h vs e T/\(∀ t,T=some t->H t=none/\X.s₀.heap.objs.size<=t/\∀ p∈X.pn,p.1≠t)/\(traced=true->T≠none)
def Fly(X:Cx)(E:XK)(ev:V9)(s':S9):Prop:=∃ e C od σ H',ev=.ref e/\Inv X [] σ H' s'/\FlyAt X H' s'.heap e C od false/\E (.ref C) (some e) H'
abbrev Cx.fly(X:Cx)(E:XK):Cx:=X.wish (Fly X E)
def aH0(X:Cx):Prop:=X.stack=X.env::X.outer/\X.env.frame=some X.env.locals
section
variable{X:Cx}{σ:St}{H:Hp}{s:S9}{e C:Az}{od:O6 Az}{b:Bool}
theorem aDM(I:Inv X [] σ H s){t:Az}{oT:Obj}{f:Array V9}(e:s.heap.get? t=some oT)(d:oT.data=.fields f):t≠X.env.locals/\(∀ x c,X.env.cells.lookup x=some c->c≠t):=by
 refine ⟨fun z=>?_,fun x c q z=>?_⟩
 .obtain ⟨m,⟨o,es,g,b,a,_⟩,_⟩:=I.loc
  rw[<-z,e] at b;cases b;rw[d] at a;cases a
 .obtain ⟨v,o,b,a⟩:=I.cell x c q
  rw[z,e] at b;cases b;rw[d] at a;cases a
theorem aDN{Q:Unit->S9->Prop}{E':V9->S9->Prop}(hO:aH0 X)(I:Inv X [] σ H s)(f:FlyAt X H s.heap e C od b)(h:∀ s',Inv X [] σ H s'->FlyAt X H s'.heap e C od true->Q () s') :
  wpAny (model X.prog X.w) X.A (noteFrame (.ref e) X.env) Q E' s:=by
 obtain ⟨k,l⟩:=hO
 obtain ⟨vs,T,he,O,F,_⟩:=f.tb
 have K:X.A.frames=some (X.env::X.outer):=by rw[<-k];exact I.ok.frames
 have hl:s.heap.FunFrames X.base (X.env::X.outer):=by have:=I.stack;rw[k] at this;exact this
 have B:(X.env::X.outer).filterMap (·.frame)=X.env.locals::X.fs:=by rw[DT,l];rfl
 refine SX.aL8 (T:=T) K hl l he O fun h' T' M N=>?_
 rw[B] at N
 have trk:∀ c u,H c=some u->c∉X.env.locals::X.fs:=fun c u q z=>by
  have:=I.stkFree c (by unfold frs;rw[k,B];exact z)
  rw[q] at this;cases this
 have P:∀ c u,H c=some u->∀ t,T=some t->c≠t:=fun c u q t e1 z=>by
  have:=(F t e1).1
  rw[<-z,q] at this;cases this
 have y:HOk X.prog X.w H h':=fun c u q=>by
  by_cases d:c=e
  .subst d
   rw[f.tr] at q;cases q
   obtain ⟨i,a,_⟩:=N.exc
   exact aRN a
  .refine (I.hok c u q).stay (fun J v j a=>N.keep J v ?_ ?_ ?_ a) (fun _ q=>q) (fun _ _ q=>q) fun _ _ q=>q
   .rcases j with z|z
    .rw[z];exact trk c u q
    .exact trk J _ z
   .rcases j with z|z
    .rw[z];exact d
    .intro zz;rw[zz,f.tr] at z;cases z
   .rcases j with z|z
    .rw[z];exact P c u q
    .exact P J _ z
 have W:Inv X [] σ H {s with heap:=h',gens:=s.gens,drawn:=s.drawn,toks:=s.toks}:=by
  refine I.step (ch:=T.toList) (fun c d=>?_) (fun c o h1 h2 D q n=>?_) (fun c o h1 h2 D q n=>N.slot c o (A9 _ h2) q) (fun _ _ _ _ n=>n) (fun c o D q=>?_) (fun _ _ q=>q) (fun _ _ _ q=>q) (fun _ _ q=>q) (fun m hm=>?_) y I.bare
  .have e1:T=some c:=by cases T<;>simp at d;rw[d]
   obtain ⟨t1,R,V⟩:=F c e1
   rw[e1] at O
   obtain ⟨_,_,oT,ts,x,G,L,_⟩:=O
   obtain ⟨a1,Z⟩:=aDM I G L
   exact ⟨.inr R,a1,Z,fun p E=>V p (by simpa using E)⟩
  .refine N.keep c o ?_ ?_ ?_ q
   .intro z
    rcases AY.mp z with z|z
    .exact h1 z
    .exact h2 z
   .intro z;rw[z,f.tr] at n;cases n
   .intro t e1 z;exact D (by rw[e1,z];simp)
  .by_cases d:c=e
   .subst d
    obtain ⟨i,a,_⟩:=N.exc
    exact ⟨_,a⟩
   .by_cases S:c∈X.env.locals::X.fs
    .obtain ⟨U,a⟩:=N.slot c o S q
     exact ⟨_,a⟩
    .exact ⟨o,N.keep c o S d (fun t e1 z=>D (by rw[e1,z];simp)) q⟩
  .obtain ⟨o,es,ep,Y,r⟩:=hm
   obtain ⟨U,a⟩:=N.slot _ o BI Y
   exact ⟨_,es,ep,a,r⟩
 refine h _ W ⟨f.tr,?_⟩
 obtain ⟨i,a,t'⟩:=N.exc
 refine ⟨i,T',a,t',fun t e1=>?_,fun _=>M⟩
 rcases N.new with ⟨R,e2,g⟩|⟨e2,_⟩
 .rw[e1] at e2;cases e2
  refine ⟨I.hok.fresh g,BY I.sz g,fun p E z=>?_⟩
  have:=A6 (I.pin p (EB _ E)).1
  rw[z] at this
  exact absurd (BM this g) (CI _)
 .exact F t (e2▸e1)
theorem aGC{Q:Unit->S9->Prop}{u:V9->S9->Prop}{E:O6 Az}{A:U9}(I:Inv X [] σ H s)(f:FlyAt X H s.heap e C od true)(h:∀ s',Inv X [] σ H s'->FlyAt X H s'.heap e C od true->Q () s') :
  wpAny (model X.prog X.w) A (setFlight (.ref e) E) Q u s:=by
 obtain ⟨vs,T,l,m,z,D⟩:=f.tb
 cases T with
 | none=>exact absurd rfl (D rfl)
 | some t=>
  obtain ⟨n,k,i⟩:=z t rfl
  refine SX.aHZ l m fun h' j g=>?_
  obtain ⟨_,a,oT,G,x,c,d,_⟩:=m
  obtain ⟨F,y⟩:=aDM I c d
  have r:Inv X [] σ H {s with heap:=h'}:=I.turned (t':=s.toks) (it:=t) (fun b o B q=>(j.2 b B).trans q) n F (.inr k) y fun p v=>i p (by simpa using v)
  exact h _ r ⟨f.tr,vs,some t,(j.2 e (BU a)).trans l,g,fun t' e1=>by cases e1;exact ⟨n,k,i⟩,fun _=>by simp⟩
theorem aJT{Q:V9->S9->Prop}{b:V9->S9->Prop}{A:U9}(f:FlyAt X H s.heap e C od true)(h:∀ t,Q (.ref t) s):wpAny (model X.prog X.w) A (field (.ref e) 1) Q b s:=by
 obtain ⟨vs,T,d,a,g,c⟩:=f.tb
 cases T with
 | none=>exact absurd rfl (c rfl)
 | some t=>exact B7 d rfl a.1 (h t)
theorem gA{E:XK}(i:aH0 X):PassesOwn (model X.prog X.w) X.A X.env (Fly X E):=by
 rintro m s' ⟨e,C,od,σ,H,rfl,I,f,q⟩
 refine aDN i I f fun k j d=>?_
 unfold cameBackBy
 refine AD (aJT d fun t=>?_)
 rw[AE (by simp)]
 exact aGC j d fun l h g=>⟨e,C,od,σ,H,rfl,h,⟨g.tr,let ⟨vs,T,a,b,c,_⟩:=g.tb;⟨vs,T,a,b,c,fun z=>nomatch z⟩⟩,q⟩
end
def CXe(P:P9)(w:W9):CXT:=fun outer H s E ev s'=>∃ e C od H',ev=.ref e/\s'.os=s.os/\AllBare s'.gens/\Un (frs outer) [] H H' s.heap s'.heap/\HOk P w H' s'.heap/\H' e=some (ExO e C od) /\
 (∃ vs T,s'.heap.get? e=some ⟨.ref C,od,.fields vs,#[]⟩/\SX.wV s'.heap vs e T/\∀ t,T=some t->H' t=none/\s.heap.objs.size<=t)/\E (.ref C) (some e) H'
section
variable{X:Cx}
theorem bP{E f:XK}(k:∀ c e H,E c e H->f c e H):lE (CXe X.prog X.w) (X.fly f) E:=by
 rintro a5 σ H s m s' I ⟨e,C,od,H',rfl,os,bare,un,hok,he,⟨vs,T,q1,q2,q3⟩,q⟩
 have d:Inv X a5 σ H s:=I.unwish
 have j:Inv X [] σ H s:=d.pins_of fun p a=>absurd a (by simp)
 have l:Inv X [] σ H' s':=j.call' os un hok bare (fun b h=>absurd h (by simp))
 refine ⟨e,C,od,σ,H',rfl,l,⟨he,vs,T,q1,q2,fun t e1=>?_,fun z=>nomatch z⟩,k _ _ _ q⟩
 obtain ⟨i,g⟩:=q3 t e1
 refine ⟨i,BY d.sz g,fun p a z=>?_⟩
 have:=A6 (d.pin p (EB _ a)).1
 rw[z] at this
 exact absurd (BM this g) (CI _)
theorem PSs.unfly{E:XK}{st:List Stmt}{t:TS}(h:PSs (X.fly E) st t)(a:∀ e s',Fly X E e s'->X.xe e s'):PSs X st t:=fun a5 s σ H D I b=>
 C0 (h a5 s σ H D (I.wish _) b) (fun f s' q=>SP.unwish q) a
end
theorem aJU{P:P9}{w:W9}{K:Frag}{mg:Str->O6 V9}{base:Hz}{N:List Str}{d:Str}{scope:Scope}{f:Az}{cd:V9}{A:U9}{outer:List Env}{s:S9}{H:Hp}{E:XK}{i:V9}{s':S9}
  (h:Fly (lM (CXe P w) P w K mg base N d scope f cd A outer s H E) E i s'):(lM (CXe P w) P w K mg base N d scope f cd A outer s H E).xe i s':=by
 obtain ⟨e,C,od,σ,H',rfl,I,k,q⟩:=h
 show wpAny (model P w) _ (leaving _ (.ref e)) _ _ s'
 unfold leaving
 have m:aH0 (lM (CXe P w) P w K mg base N d scope f cd A outer s H E):=⟨rfl,rfl⟩
 refine AD (aDN m I k fun o n l=>aGC n l fun p g j=>?_)
 obtain ⟨vs,T,a,b,c,_⟩:=j.tb
 exact ⟨e,C,od,H',rfl,g.os,g.bare,g.base,g.hok,j.tr,⟨vs,T,a,b,fun t e1=>⟨(c t e1).1,(c t e1).2.1⟩⟩,q⟩
section
variable{P:P9}{w:W9}{K:Frag}{mg:Str->O6 V9}{base:Hz}
theorem Fun.okX{x a:Str}{st:Stmt}{f:Az}{fd:FuncData}{N ps:List Str}{k:Nat}{sp:Sp}(F:Fun K x a st f fd)(S:FnScope N ps (aN st))(len:∀ vs H Q E,sp vs H Q E->vs.length=ps.length)
  (b:∀ (cdv:V9) (A:U9) (outer:List Env) (s:S9) (H:Hp) (vs:List V) (Q:VK) (E:XK),Room k (A.deeper (envOfC a (aN st) s.heap.objs.size f cdv))->sp vs H Q E->
   ∃ t,PSs ((lM (CXe P w) P w K mg base N a (aN st) f cdv A outer s H E).fly E) (dX st) t/\t {nx:=fun _ H'=>Q .non H',rt:=Q} (start N vs) H):FnOk P w K mg base (CXe P w) (k+1) f fd ps sp:=by
 obtain ⟨n,od,kV,i,l,o,cdv,m,e,rfl,g,c⟩:=F.ex
 refine aNU g c S len fun A outer s H vs Q E j d=>?_
 obtain ⟨t,h,q⟩:=b cdv A outer s H vs Q E j d
 exact ⟨t,h.unfly fun _ _ z=>aJU z,q⟩
end
inductive TyX(K:Frag)(H:Hp):V->V9->Prop where
 | pl {x:V} {t:V9} (h:TyOf K H x t):TyX K H x t
 | exc {a W C:Az} {d:Az} {fs:List (Str×V)} (c:SX.ExcC K W C) (e:H a=some (ExO a C (some d))) (ed:H d=some (.xd fs)):TyX K H (.ref a) (.ref C)
 | exc0 {a W C:Az} (c:SX.ExcC K W C) (e:H a=some (ExO a C none)):TyX K H (.ref a) (.ref C)
def aH1:V->O6 V9
 | .ty n=>some (.type n)
 | .ref a=>some (.ref a)
 | _=>none
theorem zS{x:V}{u v:V9}(h:aH1 x=some v)(r:cB x u):u=v:=by
 cases x with
 | ty n=>cases h;exact r
 | ref a=>cases h;exact r
 | _=>cases h
theorem nE{X:Cx}:nC X (.builtin "isinstance") (fun xs H Q=>∃ x c t cv b,xs=[x,c]/\TyX X.K H x t/\aH1 c=some cv/\PySem.W.kitOne X.K t cv=some b/\Q (.bl b) H):=by
 intro a5 s σ H xs p Q I r h
 obtain ⟨x,c,t,cv,b,rfl,k,n,e,q⟩:=h
 obtain ⟨u,v,rfl,i,m⟩:=aCR r
 obtain rfl:=zS n m
 cases k with
 | pl k=>exact aJK I i k e fun l=>⟨.bl b,H,I.tok _,rfl,q⟩
 | @exc a W C d fs cc ea ed=>
  cases (show u=Value.ref a from i)
  obtain ⟨vs,j⟩:=aJS I.hok ea
  obtain ⟨mA,g,r⟩:=(show eH X.prog X.w H s.heap d (.xd fs) from I.hok d _ ed)
  obtain ⟨od,f,_⟩:=aBA g
  exact SX.xY (o:=some od) I.kIn cc ⟨j,rfl,rfl,f⟩ e fun l=>⟨.bl b,H,I.tok _,rfl,q⟩
 | @exc0 a W C cc ea=>
  cases (show u=Value.ref a from i)
  obtain ⟨vs,j⟩:=aJS I.hok ea
  exact SX.xY (o:=none) I.kIn cc ⟨j,rfl,rfl,True.intro⟩ e fun l=>⟨.bl b,H,I.tok _,rfl,q⟩
structure DefAt(K:Frag)(mg:Str->Option V9)(x:Str)(st:Stmt)(ps:List Str):Prop where
 ex:∃ f fd,Fun K x x st f fd/\fY K fd ps []/\mg x=some (.ref f)
def Calls(P:P9)(w:W9)(K:Frag)(mg:Str->O6 V9)(base:Hz)(CX:CXT)(k:Nat)(x:Str)(ps:List Str)(sp:Sp):Prop:=
 ∃ f fd,FnOk P w K mg base CX k f fd ps sp/\fY K fd ps []/\mg x=some (.ref f)/\PySem.W.keepIn K (.ref f)=true
section
variable{P:P9}{w:W9}{K:Frag}{mg:Str->O6 V9}{base:Hz}{x:Str}{st:Stmt}{N ps:List Str}{k:Nat}{sp:Sp}
theorem DefAt.ok(D:DefAt K mg x st ps)(S:FnScope N ps (aN st))(len:∀ vs H Q E,sp vs H Q E->vs.length=ps.length)
  (a:∀ (f:Az) (cdv:V9) (A:U9) (outer:List Env) (s:S9) (H:Hp) (vs:List V) (Q:VK) (E:XK),Room k (A.deeper (envOfC x (aN st) s.heap.objs.size f cdv))->sp vs H Q E->
   ∃ t,PSs (lM CX0 P w K mg base N x (aN st) f cdv A outer s H E).nox (dX st) t/\t {nx:=fun _ H'=>Q .non H',rt:=Q} (start N vs) H):Calls P w K mg base CX0 (k+1) x ps sp:=by
 obtain ⟨f,fd,F,b,m⟩:=D.ex
 exact ⟨f,fd,F.ok S len (a f),b,m,F.kp⟩
theorem DefAt.okX(D:DefAt K mg x st ps)(S:FnScope N ps (aN st))(len:∀ vs H Q E,sp vs H Q E->vs.length=ps.length)
  (a:∀ (f:Az) (cdv:V9) (A:U9) (outer:List Env) (s:S9) (H:Hp) (vs:List V) (Q:VK) (E:XK),Room k (A.deeper (envOfC x (aN st) s.heap.objs.size f cdv))->sp vs H Q E->
   ∃ t,PSs ((lM (CXe P w) P w K mg base N x (aN st) f cdv A outer s H E).fly E) (dX st) t/\t {nx:=fun _ H'=>Q .non H',rt:=Q} (start N vs) H):Calls P w K mg base (CXe P w) (k+1) x ps sp:=by
 obtain ⟨f,fd,F,b,m⟩:=D.ex
 exact ⟨f,fd,F.okX S len (a f),b,m,F.kp⟩
end
section
variable{X:Cx}{CX:CXT}{k:Nat}{x:Str}{ps:List Str}{sp:Sp}{E:XK}{p pos:Pos}{e:Ez}{es:List Ez}{t:TA}
theorem bM(C:Calls X.prog X.w X.K X.mg X.base CX k x ps sp)(c:Room k X.A)(g:Gl X x)(h:lE CX X E)(i:PA X (e::es) t)(a:(x == ("__debug__":Str))=false:=by decide)
  (he:starEach (e::es) X.env=(false,eval e X.env)::starEach es X.env:=by rfl) (hpl:(backTo pos (starEach es X.env)).any (·.1)=false:=by rfl):PE X (.Call (.Name x p) (e::es) [] pos) (aHU sp [] E t):=by
 obtain ⟨f,fd,F,b,m,d⟩:=C
 exact aOU F c g m d b .nil h i a he hpl
end
theorem DatV.tup_of{K:Frag}{H:Hp}{v:V}{ds:List Dz}(h:DatV K H v (.tuple ds)):∃ a xs,v=.ref a/\SqT K H a xs/\DatVs K H xs ds:=by
 cases h with
 | tup h1 h2=>exact ⟨_,_,rfl,h1,h2⟩
theorem DatV.lst_of{K:Frag}{H:Hp}{v:V}{ds:List Dz}(h:DatV K H v (.list ds)):∃ a xs,v=.ref a/\SqL K H a xs/\DatVs K H xs ds:=by
 cases h with
 | lst h1 h2=>exact ⟨_,_,rfl,h1,h2⟩
theorem DatV.int_of{K:Frag}{H:Hp}{v:V}{i:Int}(h:DatV K H v (.int i)):v=.int i:=by cases h;rfl
theorem DatV.str_of{K:Frag}{H:Hp}{v:V}{i:Str}(h:DatV K H v (.str i)):v=.str i:=by cases h;rfl
theorem DatVs.cons_of{K:Frag}{H:Hp}{xs:List V}{d:Dz}{ds:List Dz}(h:DatVs K H xs (d::ds)):∃ x t,xs=x::t/\DatV K H x d/\DatVs K H t ds:=by
 cases h with
 | cons h1 h2=>exact ⟨_,_,rfl,h1,h2⟩
theorem DatVs.nil_of{K:Frag}{H:Hp}{xs:List V}(h:DatVs K H xs []):xs=[]:=by cases h;rfl
theorem gR.nil:gR [] []:=⟨rfl,fun _ _ h=>by simp at h⟩
theorem gR.nil_of{σ:St}(h:gR [] σ):σ=[]:=GK.mp h.1
def SqS(K:Frag)(H:Hp)(a:Az)(xs:List V):Prop:=SqL K H a xs\/SqT K H a xs
theorem PI.or{X:Cx}{tg a:Ez}{b c:TI}(h1:PI X tg a b)(h2:PI X tg a c):PI X tg a (fun σ H R=>b σ H R\/c σ H R):=fun a5 s σ H R I h=>h.elim (h1 a5 s σ H R I) (h2 a5 s σ H R I)
def aUZ(K:Frag)(tl:TE):TI:=fun σ H R=>tl σ H fun x H1=>∃ a,x=.ref a/\(((∃ xs,SqL K H1 a xs)/\R (Itl K a) H1)\/((∃ xs,SqT K H1 a xs)/\R (Itt K a) H1))
theorem aJV{X:Cx}{tg l:Ez}{tl:TE}(m:PE X l tl):PI X tg l (aUZ X.K tl):=by
 intro a5 s σ H R I h
 refine thn (m a5 s σ H _ I h) fun v d i=>?_
 obtain ⟨x,H1,c,t,k⟩:=i
 obtain ⟨a,e,q⟩:=k
 subst e
 cases t
 rcases q with ⟨⟨xs,j⟩,q⟩|⟨⟨xs,j⟩,q⟩
 .obtain ⟨f,n,p,r⟩:=c.list j
  refine wpAny_pyIter_list p.isList ?_
  refine ⟨d.heap.objs.size,[d.heap.objs.size],_,_,H1,rfl,c.kept (t':=d.toks) fun b o e=>AQ _ e,aJG a _,⟨_,BE _ rfl,rfl,rfl⟩,fun b g=>?_,q⟩
  obtain rfl:=A4.mp g
  exact c.fpOk (A2 _) (c.hok.fresh (A2 _))
 .obtain ⟨f,n,p,r⟩:=c.tuple j
  refine wpAny_pyIter_tuple (show d.heap.IsTuple a f.toArray from p) ?_
  refine ⟨d.heap.objs.size,[d.heap.objs.size],_,_,H1,rfl,c.kept (t':=d.toks) fun b o e=>AQ _ e,aHK a _,⟨_,BE _ rfl,rfl,rfl⟩,fun b g=>?_,q⟩
  obtain rfl:=A4.mp g
  exact c.fpOk (A2 _) (c.hok.fresh (A2 _))
def aTV(i j:Int):Prop:=0 < j/\j < 2 ^ 64
theorem aL9{X:Cx}:OpR X (binaryOp .FloorDiv) (rI aTV fun i j=>.int (i / j)):=opI fun i j _ _ _ _ _ a q=>by
 have h1:(0:Int) < j:=a.1
 have h2:j < 2 ^ 64:=a.2
 have b:j.natAbs < 2 ^ 64:=by omega
 have c:j.natAbs.log2 < 64:=(Nat.log2_lt (by omega)).mpr b
 exact floordiv_int (by omega) (by rw[Int.fdiv_eq_ediv_of_nonneg i (by omega)];exact q) (.inl (PyProof.noPylong_of_log2 (by omega)))
theorem vB{X:Cx}{P:P9}{w:W9}:lE (CXe P w) X E0:=by
 rintro a5 σ H s a s' I ⟨e,C,od,H',rfl,os,bare,un,hok,he,hv,q⟩
 exact q.elim
section
variable{X:Cx}
def aU0:V->O6 Int->O6 Int->Hp->VK->Prop:=fun x lo hi H Q=>∃ z,x=.str z/\z.length<=sizeLine/\Q (.str (Txt.slice z lo hi)) H
theorem aGD{v:V9}{o:O6 Int}(h:IsPart v o):∃ l:O6 (Int×Tok),partValue l=v/\l.map (·.1)=o:=by
 cases h with
 | none=>exact ⟨none,rfl,rfl⟩
 | int i t=>exact ⟨some (i,t),rfl,rfl⟩
theorem aJW:SlR X aU0:=by
 intro a5 s σ H x v r w lo hi p Q I j i e f h
 obtain ⟨z,rfl,m,q⟩:=h
 obtain ⟨t,rfl⟩:=j
 obtain ⟨l,rfl,g⟩:=aGD e
 obtain ⟨u,rfl,c⟩:=aGD f
 obtain ⟨o,d,k,n⟩:=i
 refine ⟨"str",_,PyProof.Rows.slot_str_getitem.lookup,rfl,?_⟩
 refine wpAny_getItem_str_slice (l:=l) (u:=u) (st:=none) ⟨o,d,k,n⟩ rfl ?_
 have a:=Txt.slice_le z lo hi
 unfold Txt.slice at q a
 unfold sliceMade slicePicked
 rw[g,c]
 simp only[ED,G9,Option.map_none,GF] at q a ⊢
 by_cases b:((Builtin.Str.strSliceIndices lo hi 1 z.length).length == z.length)=true
 .rw[AA b] at q ⊢
  exact ⟨.str z,H,I,⟨t,rfl⟩,q⟩
 .rw[AE b] at q a ⊢
  exact ⟨BY a m,.str _,H,I.tok _,⟨_,rfl⟩,q⟩
def aJX:V->List V->Hp->VK->Prop:=fun x vs H Q=>∃ z y i rest,x=.str z/\vs=[.str y]/\Builtin.Str.occurrences z y 0 z.length 1=i::rest/\Q (.int i) H
theorem rG:MtR X "str.index" aJX:=by
 intro a5 s σ H x vs v e Q I d a h
 obtain ⟨z,y,i,rest,rfl,rfl,b,q⟩:=h
 obtain ⟨t,rfl⟩:=d
 obtain ⟨u,rfl,c,rfl⟩:=a.one
 exact call_gives F.slot_str_index rfl F.entry_str_index (F.args_str_index_2 _ _) (gives_str_index z y t c i rest b) ⟨.int i,H,I.tok _,⟨_,rfl⟩,q⟩
def Ity(z:Str):It:=
 ⟨fun i _=>i < z.cps.size,fun i H x H'=>∃ p c,H p=none/\x=.ref p/\H'=upd H p (.tup [.int i,.str ⟨#[c]⟩])/\z.cps[i]? = some c,fun i _=>i=z.cps.size⟩
theorem aH2{P:P9}{w:W9}{K:Frag}{es:List Ez}{k1}{tpos:Pos}(z:Str)(t:Tok)(T:String)(hT:∀ A:U9,A.handled=none->∀ it,Draws P w A it [it] z.cps.size (fun i v=>∃ c u,z.cps[i]? = some c/\v=Value.str {cps:=#[c]} u) fun i h=>h.IsStrIter it T z t i)
  (e it:Az) (hei:e≠it):Turn P w K (.Tuple es k1 tpos) (Ity z) [e,it] e (fun i h=>(∃ f,IsEnum h e it i f)/\h.IsStrIter it T z t i) where
 mem:=by simp
 obj:=fun i h st b l=>by
  obtain ⟨⟨f,j⟩,o,e2,c,d⟩:=st
  rcases AY.mp l with z|z
  .subst z
   exact ⟨_,j,fun v z=>by
    have z':Data.fields _=Data.cell v:=z
    cases z'⟩
  .obtain rfl:b=it:=by simpa using z
   exact ⟨o,e2,fun v z=>by rw[d] at z;cases z⟩
 keep:=fun i h h' st k=>by
  obtain ⟨⟨f,j⟩,o,e2,c,d⟩:=st
  exact ⟨⟨f,k e (by simp) _ j⟩,o,k it (by simp) o e2,c,d⟩
 item:=by
  intro X S hw R a i a5 s σ H E I J st B
  subst S hw R
  obtain ⟨⟨f,j⟩,L⟩:=st
  obtain ⟨f0,f1,f2,f3,f4,f5⟩:=J e (by simp)
  obtain ⟨y,M,g2,V,N,g5⟩:=J it (by simp)
  refine wpAny_pyNext_enum_itemD (hT X.A.in1 (I.ok.hd a) it) j L B hei (by simpa using hei) fun u h' U aa so si st ac kp=>?_
  obtain ⟨c,tc,W,hu⟩:=aa
  subst hu
  refine ⟨_,rfl,wpAny_letOwnedTupleGo_enum so fun h2 se sb=>?_⟩
  have F:s.heap.objs.size≠e:=D4 (A6 j)
  have Q:h2.get? s.heap.objs.size=some {cls:=.type "tuple",data:=.seq #[.int i U,.str ⟨#[c]⟩ tc]}:=(sb.2 _ F).trans st
  have O:H s.heap.objs.size=none:=I.hok.fresh (A2 _)
  have g:∀ b o,b≠e->b≠it->s.heap.get? b=some o->h2.get? b=some o:=fun b o h1 Y q=>(sb.2 b h1).trans (kp b o h1 Y q)
  have D:HOk X.prog X.w H h2:=fun b G q=>by
   refine (I.hok b G q).stay (fun c v a q'=>g c v ?_ ?_ q') (fun _ q=>q) (fun _ _ q=>q) fun _ _ q=>q
   .rcases a with z|z
    .rw[z];exact fun x=>by rw[x,f0] at q;cases q
    .exact fun x=>by rw[x,f0] at z;cases z
   .rcases a with z|z
    .rw[z];exact fun x=>by rw[x,y] at q;cases q
    .exact fun x=>by rw[x,y] at z;cases z
  have C:HOk X.prog X.w (upd H s.heap.objs.size (.tup [.int i,.str ⟨#[c]⟩])) h2:=HOk.track D O ⟨by show 2<=sizeLine;decide,[.int i U,.str ⟨#[c]⟩ tc],.cons ⟨_,rfl⟩ (.cons ⟨_,rfl⟩ .nil),⟨_,Q,⟨rfl,rfl⟩,_,rfl⟩⟩
  have p:∀ b G,H b=some G->b≠s.heap.objs.size:=fun b G q=>eM q O
  have I2:Inv X a5 σ (upd H s.heap.objs.size (.tup [.int i,.str ⟨#[c]⟩])) {s with heap:=h2,gens:=s.gens,drawn:=s.drawn,toks:=U+1}:=by
   refine I.step (ch:=[e,it]) (fun b l=>?_) (fun b o _ _ a q _=>g b o (fun z=>a (by simp[z])) (fun z=>a (by simp[z])) q) (fun b o _ _ a q _=>⟨o.slots,g b o (fun z=>a (by simp[z])) (fun z=>a (by simp[z])) q⟩)
    (fun b o _ q n=>by rw[bB (B8 (A6 q))];exact n) (fun b o a q=>⟨o,g b o (fun z=>a (by simp[z])) (fun z=>a (by simp[z])) q⟩) (fun b ys q=>by rw[bB (p b _ q)];exact q) (fun b o G q=>by rw[bB (p b _ q)];exact q)
    (fun b ps q=>by rw[bB (p b _ q)];exact q) (fun m hm=>?_) C I.bare
   .rcases AY.mp l with z|z
    .subst z;exact ⟨f3,f1,f4,f5⟩
    .obtain rfl:b=it:=by simpa using z
     exact ⟨V,M,N,g5⟩
   .obtain ⟨o,Z,ep,ho,r⟩:=hm
    exact ⟨o,Z,ep,g _ o (BU f1) (BU M) ho,r⟩
  refine ⟨.ref s.heap.objs.size,_,I2,rfl,⟨_,c,O,rfl,rfl,W⟩,⟨⟨_,by simpa using se⟩,?_⟩,fun b l=>?_⟩
  .obtain ⟨o,q1,q2,q3⟩:=si
   exact ⟨o,(sb.2 it hei.symm).trans q1,q2,q3⟩
  .rcases AY.mp l with z|z
   .subst z;rw[bB (BU F)];exact f0
   .obtain rfl:b=it:=by simpa using z
    obtain ⟨o,q,_⟩:=L
    rw[bB (B8 (A6 q))];exact y
 done:=by
  intro X S hw R a i a5 s σ H E I J st B
  subst S hw R
  obtain ⟨⟨f,j⟩,L⟩:=st
  obtain ⟨y,M,g2,V,N,g5⟩:=J it (by simp)
  have B:i=z.cps.size:=B
  subst B
  exact wpAny_pyNext_enum_endD (hT X.A.in1 (I.ok.hd a) it) j L fun h' eb=>⟨rfl,I.turned (t':=s.toks) (fun b o l q=>eb b o l q) y M V N g5⟩
 self:=fun _ _ _ _ _ st h=>wpAny_pyIter_enum st.1.choose_spec h
def aJY(ta:TA):TI:=fun σ H R=>ta σ H fun vs H1=>∃ z,vs=[.str z]/\R (Ity z) H1
theorem aMA{es:List Ez}{k1}{tpos:Pos}{a:Ez}{ta:TA}{p pos:Pos}(E:Gl X "enumerate")(D:X.mg "enumerate"=none)(F:PA X [a] ta)(r:starEach [a] X.env=[(false,eval a X.env)]:=by rfl) :
  PI X (.Tuple es k1 tpos) (.Call (.Name "enumerate" p) [a] [] pos) (aJY ta):=by
 intro a5 s σ H R I h
 refine Call_ (nP I E D PyProof.Rows.boot_enumerate (CO (thn (F pos a5 s σ H _ I h) fun G d g=>?_) r rfl))
 obtain ⟨vs,H1,f,B,m⟩:=g
 obtain ⟨z,e,q⟩:=m
 subst e
 obtain ⟨u,rfl,t,rfl⟩:=xT B
 have o:∀ A:U9,A.handled=none->∀ it,Draws X.prog X.w A it [it] z.cps.size (fun i v=>∃ c u,z.cps[i]? = some c/\v=Value.str {cps:=#[c]} u) fun i h=>h.IsStrIter it (strIterType z) z t i:=fun A k it=>by
  unfold strIterType
  split
  · exact Draws.strAscii k it z t
  · exact Draws.strWide k it z t
 refine call_enumerate_str fun h' j x n y=>?_
 have C:Inv X a5 σ H1 {d with heap:=h'}:=f.kept (t':=d.toks) y
 refine wpAny_pyIter_enum j ?_
 refine ⟨d.heap.objs.size+1,[d.heap.objs.size+1,d.heap.objs.size],_,_,H1,rfl,C,aH2 z t _ o _ _ (D4 (EX _)),⟨⟨_,j⟩,x⟩,fun b l=>?_,q⟩
 rcases AY.mp l with z|z
 .subst z
  exact f.fpOk (GW _) (f.hok.fresh (GW _))
 .obtain rfl:b=d.heap.objs.size:=by simpa using z
  exact f.fpOk (A2 _) (f.hok.fresh (A2 _))
end
theorem aDO{X:Cx}:nC X (.builtin "isinstance") (fun xs H Q=>∃ a ys c cv b,xs=[.ref a,c]/\SqT X.K H a ys/\aH1 c=some cv/\PySem.W.kitOne X.K (.type "tuple") cv=some b/\Q (.bl b) H):=by
 intro a5 s σ H xs l Q I r h
 obtain ⟨a,ys,c,cv,b,rfl,j,f,e,q⟩:=h
 obtain ⟨u,v,rfl,g,d⟩:=aCR r
 obtain rfl:=zS f d
 cases (show u=Value.ref a from g)
 obtain ⟨i,_,⟨o,h1,h2,_⟩,_⟩:=I.tuple j
 exact CB PySem.W.kitx_tuple I.kIn ⟨o,h1,h2⟩ e (fun z=>nomatch z) fun k=>⟨.bl b,H,I.tok _,rfl,q⟩
structure RoomH(k:Nat)(A:Around):Prop where
 dp:A.depth+3 * k+5 < recursionLimit
 un:A.units+16 * k+200 < cLine
theorem Room.h{k:Nat}{A:U9}(r:Room k A):RoomH k A:=⟨r.dp,r.un⟩
structure FnOkH(P:Program)(w:World)(K:Frag)(mg:Str->Option V9)(base:Heap)(k:Nat)(f:Az)(fd:FuncData)(ps:List Str)(sp:Sp):Prop where
 len:∀ vs H Q E,sp vs H Q E->vs.length=ps.length
 run:∀ (A:Around) (outer:List Env) (s:S9) (H:Hp) (args:Args) (us:List V9) (vs:List V) (Q:VK),RoomH k A->Env0 P w K mg base A outer s H->BindsTo s fd args (ps.zip us)->b5 vs us->sp vs H Q E0->
  codeAny (model P w) A (.call (.ref f) args) (CR CX0 outer P w H s Q E0) s
theorem FnOkH.ok{P:P9}{w:W9}{K:Frag}{mg:Str->O6 V9}{base:Hz}{k:Nat}{f:Az}{fd:FuncData}{ps:List Str}{sp:Sp}(F:FnOkH P w K mg base k f fd ps sp)(d:∀ vs H Q E,sp vs H Q E->sp vs H Q E0):FnOk P w K mg base CX0 k f fd ps sp:=
 ⟨F.len,fun A a s H b j vs Q E g m c i l=>E5 (F.run A a s H b j vs Q g.h m c i (d _ _ _ _ l)) fun r s' h=>by
  cases r with
  | error e=>exact h
  | ok fl=>cases fl<;>exact h⟩
end L2
namespace Mc
open L2 PyProof.Rows
inductive Tn where
 | n (i:Int)|w (x:Str)
noncomputable def Tn.d:Tn->Dz
 | .n i=>.int i
 | .w x=>.str x
structure Rw where
 l:Tn
 c:List (Int×Int)
 r:Tn
def fC(c:Int×Int):Dz:=.tuple [.int c.1,.int c.2]
def cQ(r:Rw):Dz:=.tuple [r.l.d,.tuple (r.c.map fC),r.r.d]
def a8(rs:List Rw):Dz:=.tuple (rs.map cQ)
inductive CellsAt(K:Frag)(H:Hp):List V->List (Int×Int)->Prop
 | nil:CellsAt K H [] []
 | cons {q:Az} {a b:Int} {xs:List V} {cs:List (Int×Int)} (h:SqS K H q [.int a,.int b]) (t:CellsAt K H xs cs):CellsAt K H (.ref q::xs) ((a,b)::cs)
def rH(K:Frag)(a:Az)(xs:List V):Prop:=∃ (o:Obj) (its:Array V9) (n:Nat),K.lookup a=some o/\(o.cls=.type "tuple"/\o.dict=none)/\o.data=.seq its n/\its.size<=sizeLine/\b5 xs its.toList
theorem rH.sq{K:Frag}{a:Az}{xs:List V}(h:rH K a xs)(H:Hp):SqT K H a xs:=.inr h
theorem wH:∀ {xs:List Dz},(∀ x∈xs,x.eqv x=true)->PyData.eqvAll xs xs=true
 | [],_=>by rw[PyData.eqvAll.eq_1]
 | x::t,h=>by rw[PyData.eqvAll.eq_2,h x (BI ..),wH fun y a=>h y (A9 _ a)];rfl
theorem vC{xs:List Dz}(h:∀ x∈xs,x.eqv x=true):(PyData.tuple xs).eqv (.tuple xs)=true:=by
 show PyData.eqvAll xs xs=true
 exact wH h
theorem aGE(i:Int):(PyData.int i).eqv (.int i)=true:=by rw[PyData.eqv.eq_5];simp
theorem aMB(c:Int×Int):(fC c).eqv (fC c)=true:=vC fun x a=>by
 rcases AY.mp a with z|z
 · rw [z]; exact aGE _
 · rw [A4.mp z]; exact aGE _
noncomputable def Tn.ok:Tn->Prop
 | .n _=>True
 | .w x=>PyData.strOk x=true
def Rw.ok(r:Rw):Prop:=r.l.ok/\r.r.ok
theorem zT:∀ {xs:List Dz},(∀ x∈xs,x.canLay0=true)->PyData.canLayAll0 xs=true
 | [],_=>by rfl
 | x::t,h=>by
  show (x.canLay0 && PyData.canLayAll0 t)=true
  rw[h x (BI ..),zT fun y a=>h y (A9 _ a)];rfl
theorem tW{n:Nat}:∀ {xs:List Dz},(∀ x∈xs,x.depth<=n)->PyData.depthAll xs<=n
 | [],_=>B3 _
 | x::t,h=>by
  show max x.depth (PyData.depthAll t)<=n
  exact Nat.max_le.mpr ⟨h x (BI ..),tW fun y a=>h y (A9 _ a)⟩
def Sh(n:Nat)(d:Dz):Prop:=d.canLay0=true/\d.depth<=n
theorem sh_tup{n:Nat}{xs:List Dz}(h:∀ x∈xs,Sh n x):Sh (n+1) (.tuple xs):=⟨zT fun x a=>(h x a).1,by
 have:=tW fun x a=>(h x a).2
 show PyData.depthAll xs+1<=n+1
 omega⟩
theorem sh_lst{n:Nat}{xs:List Dz}(h:∀ x∈xs,Sh n x):Sh (n+1) (.list xs):=⟨zT fun x a=>(h x a).1,by
 have:=tW fun x a=>(h x a).2
 show PyData.depthAll xs+1<=n+1
 omega⟩
theorem sh_int(n:Nat)(i:Int):Sh n (.int i):=⟨rfl,B3 _⟩
theorem aRO(n:Nat){x:Str}(h:PyData.strOk x=true):Sh n (.str x):=⟨h,B3 _⟩
theorem Sh.shaped{n:Nat}{d:Dz}(h:Sh n d)(a:n<=64):SeqAt.shaped d=true:=by
 show (d.canLay0 && decide (d.depth<=64))=true
 rw[h.1,AT (BY h.2 a)];rfl
section
variable{K:Frag}{H:Hp}
theorem cells_of:∀ {xs:List V} {cs:List (Int×Int)},DatVs K H xs (cs.map fC)->CellsAt K H xs cs
 | xs,[],h=>by obtain rfl:=h.nil_of;exact .nil
 | xs,c::cs,h=>by
  obtain ⟨x,t,rfl,h1,h2⟩:=h.cons_of
  obtain ⟨a,ys,rfl,g,e⟩:=h1.tup_of
  obtain ⟨l,t0,rfl,i,d⟩:=e.cons_of
  obtain ⟨j,k,rfl,f,b⟩:=d.cons_of
  obtain rfl:=b.nil_of
  obtain rfl:=i.int_of
  obtain rfl:=f.int_of
  exact .cons (.inr g) (cells_of h2)
end
section
variable{K:Frag}{h:Hz}{mg:Str->O6 V9}
theorem b6{x:Str}{st:Stmt}{ps:List Str}{f:Az}{j:V9}{od i:O6 Az}{e:Array (O6 V9)}{kV doc g d ct:V9}(X:K.In h)(G:h.Ns mainGlobals mg)
  (a:PySem.W.nsIn K mainGlobals x=some (some (.ref f))) (l:K.lookup f=some ⟨j,od,.func (PySem.W.fnOf x x (gJ st) (dX st) (aN st) .none kV doc g i d ct),e⟩)
  (c:PySem.W.codeIn K d x=true) (k:PySem.W.keepIn K (.ref f)=true)
  (b:∀ (kV doc g:V9) (i:O6 Az) (d ct:V9) (us:List V9),us.length=ps.length->bindArgs (PySem.W.fnOf x x (gJ st) (dX st) (aN st) .none kV doc g i d ct) ⟨us,[]⟩=pure (ps.zip us)):DefAt K mg x st ps:=by
 have F:=l9 (st:=st) l c k
 exact ⟨f,_,F,F.binds b,CK X G a⟩
theorem aRP{a:Az}{x y:Str}{c d n:Nat}{b:Array (O6 V9)}(l:K.lookup a=some ⟨.type "tuple",none,.seq #[.str x c,.str y d] n,b⟩):rH K a [.str x,.str y]:=
 ⟨_,_,_,l,⟨rfl,rfl⟩,rfl,by show 2<=sizeLine;decide,.cons ⟨_,rfl⟩ (.cons ⟨_,rfl⟩ .nil)⟩
theorem aRQ{a:Az}{x y:Int}{c d n:Nat}{b:Array (O6 V9)}(l:K.lookup a=some ⟨.type "tuple",none,.seq #[.int x c,.int y d] n,b⟩):rH K a [.int x,.int y]:=
 ⟨_,_,_,l,⟨rfl,rfl⟩,rfl,by show 2<=sizeLine;decide,.cons ⟨_,rfl⟩ (.cons ⟨_,rfl⟩ .nil)⟩
end
noncomputable def dH(n c:Nat):Bool:=decide (97<=c/\c < 97+n)
noncomputable def nF(n:Nat):Nat->List Nat->O6 Nat
 | _,[]=>none
 | i,c::t=>if dH n c=true then nF n (i+1) t else some i
theorem xZ(n i c:Nat)(t:List Nat):nF n i (c::t)=if dH n c=true then nF n (i+1) t else some i:=rfl
theorem occ_one(x:Str)(c:Nat):(Builtin.Str.occurrences x ⟨#[c]⟩ 0 x.length 1=[]/\∀ i:Nat,x.cps.toList[i]? ≠ some c)\/∃ (i:Nat) (r:List Nat),Builtin.Str.occurrences x ⟨#[c]⟩ 0 x.length 1=i::r/\x.cps.toList[i]? = some c/\∀ k:Nat,k < i->x.cps.toList[k]? ≠ some c:=by
 rcases StrLaws.occ_head x ⟨#[c]⟩ 1 (A2 _) with ⟨h1,h2⟩|⟨i,r,h1,h2,a⟩
 · exact .inl ⟨h1, fun i e => h2 i ((FW x c i).mpr e)⟩
 · exact .inr ⟨i, r, h1, (FW x c i).mp h2, fun k b e => a k b ((FW x c k).mpr e)⟩
theorem aGF{n:Nat}(h1:1<=n)(h2:n<=3):(Txt.slice "abc" none (some (n:Int))).cps.toList=[97,98,99].take n:=by
 obtain rfl|rfl|rfl:n=1\/n=2\/n=3:=by omega
 all_goals decide +kernel
theorem aBG{n c:Nat}(h1:1<=n)(h2:n<=3):dH n c=true↔∃ i:Nat,(([97,98,99]:List Nat).take n)[i]? = some c:=by
 unfold dH
 rw[CZ]
 constructor
 .intro h
  refine ⟨c - 97,?_⟩
  obtain rfl|rfl|rfl:n=1\/n=2\/n=3:=by omega
  .obtain rfl:c=97:=by omega
   rfl
  .obtain rfl|rfl:c=97\/c=98:=by omega
   all_goals rfl
  .obtain rfl|rfl|rfl:c=97\/c=98\/c=99:=by omega
   all_goals rfl
 .rintro ⟨i,e⟩
  obtain ⟨hi,b⟩:=A3.mp e
  have a:=EY hi
  rw[b] at a
  obtain rfl|rfl|rfl:n=1\/n=2\/n=3:=by omega
  all_goals
   simp at a
   omega
theorem aDP{n c:Nat}(h1:1<=n)(h2:n<=3):(!(!(Builtin.Str.occurrences (Txt.slice "abc" none (some (n:Int))) ⟨#[c]⟩ 0 (Txt.slice "abc" none (some (n:Int))).length 1).isEmpty)) = !dH n c:=by
 have e:=aGF h1 h2
 rcases occ_one (Txt.slice "abc" none (some (n:Int))) c with ⟨a,b⟩|⟨i,r,a,b,_⟩
 .rw[a]
  have:dH n c=false:=FV.mpr fun z=>by
   obtain ⟨i,hi⟩:=(aBG h1 h2).mp z
   rw[e] at b
   exact b i hi
  rw[this];rfl
 .rw[a]
  rw[e] at b
  rw[(aBG h1 h2).mpr ⟨i,b⟩];rfl
theorem aJZ{c:Nat}(h:dH 3 c=true):∃ r,Builtin.Str.occurrences "abc" ⟨#[c]⟩ 0 ("abc":Str).length 1=(c - 97)::r:=by
 have h:=B0 h
 refine ⟨[],?_⟩
 obtain rfl|rfl|rfl:c=97\/c=98\/c=99:=by omega
 all_goals decide +kernel
def kJ(s q:Int):Dz:=.tuple [.int s,.int q]
def tX(f a:List Dz):Dz:=.tuple [.tuple f,.tuple a]
def lX(d:Dz):Prop:=d=.none\/∃ s q,d=kJ s q
def aJ0(n:Nat):List Dz:=(List.range n).map fun i:Nat=>kJ 1 (i:Int)
def aJ1(n:Nat):List Dz:=(List.range n).map fun i:Nat=>kJ (-1) (i:Int)
def aCT(k:Nat)(rs:List Rw):List Dz:=rs.map fun r=>kJ (r.c.getD k (0,0)).2 (r.c.getD k (0,0)).1
theorem aO2:(PyData.none).eqv .none=true:=by rfl
theorem aBH{d:Dz}(h:lX d):d.eqv d=true:=by
 rcases h with rfl|⟨s,q,rfl⟩
 · exact aO2
 · exact aMB (s, q)
theorem aO3{f a:List Dz}(e:∀ d∈f,lX d)(g:∀ d∈a,lX d):(tX f a).eqv (tX f a)=true:=vC fun x c=>by
 rcases AY.mp c with z|c
 · rw [z]; exact vC fun y b => aBH (e y b)
 · rw [A4.mp c]; exact vC fun y b => aBH (g y b)
theorem aDQ(n:Nat){d:Dz}(h:lX d):Sh (n+1) d:=by
 rcases h with rfl|⟨s,q,rfl⟩
 .exact ⟨rfl,B3 _⟩
 .refine sh_tup fun x a=>?_
  rcases AY.mp a with z|z
  · rw [z]; exact sh_int _ _
  · rw [A4.mp z]; exact sh_int _ _
theorem aH3{f a:List Dz}(e:∀ d∈f,lX d)(g:∀ d∈a,lX d):SeqAt.shaped (tX f a)=true:=by
 refine Sh.shaped (n:=3) (sh_tup fun x c=>?_) (by decide)
 rcases AY.mp c with z|c
 · rw [z]; exact sh_tup fun y b => aDQ 0 (e y b)
 · rw [A4.mp c]; exact sh_tup fun y b => aDQ 0 (g y b)
end Mc
namespace L2
open PySem.Spec PyProof.Rows
section
variable{κ:Type}[DecidableEq κ]
theorem KV.length{a:List (κ×V)}{vs:List (κ×V9)}(r:KV a vs):a.length=vs.length:=Paired.length r
end
theorem aNY{P:P9}{w:W9}{k:Key}{u:V9}(r:cB (kV k) u):(fO P w).is k u=true:=by
 cases k with
 | inl i=>obtain ⟨t,e⟩:=(show ∃ t,u=Value.int i t from r);subst e;exact aFO P w i t
 | inr x=>obtain ⟨t,e⟩:=(show ∃ t,u=Value.str x t from r);subst e;exact aFP P w x t
section
variable{X:Cx}{a5:List (Az×Obj)}{σ:St}{H:Hp}{s:S9}{a:Az}{y v:V}{u r:V9}{o:O6 V}{A:U9}{E:V9->S9->Prop}
theorem Inv.big(I:Inv X a5 σ H s):sysModules < s.heap.objs.size:=by
 have h:mainGlobals < s.heap.objs.size:=(I.mod.glob.keeps I.bk).lt
 exact Nat.lt_trans (by decide) h
theorem aGG{h':Hz}{t':Nat}{c:HO}(I:Inv X a5 σ H s)(h:Mut (H a))(f:Heap.SameBut a s.heap h')(g:∃ q,h'.get? a=some q)(new:eH X.prog X.w (upd H a c) h' a c) :
  Inv X a5 σ (upd H a c) {s with heap:=h',toks:=t'}:=
 I.write (x:=a) (e:=a) h (.inl rfl) (fun b q d z=>(f.2 b d).trans z) g new
end
def aDR(K:Frag)(H:Hp)(ks:List (List Key×Az)):Prop:=∀ p∈ks,SqT K H p.2 (p.1.map kV)
theorem SqT.ext{K:Frag}{H:Hp}{a q:Az}{φ:Hz->Prop}{o:HO}{xs:List V}(h:SqT K H q xs)(b:H a=some (.ext φ)):SqT K (upd H a o) q xs:=by
 rcases h with (h|⟨u,h⟩)|h
 .refine .inl (.inl ?_)
  rw[bB (fun z=>by rw[z,b] at h;cases h)];exact h
 .refine .inl (.inr ⟨u,?_⟩)
  rw[bB (fun z=>by rw[z,b] at h;cases h)];exact h
 .exact .inr h
theorem SqL.ext{K:Frag}{H:Hp}{a q:Az}{φ:Hz->Prop}{o:HO}{xs:List V}(h:SqL K H q xs)(b:H a=some (.ext φ)):SqL K (upd H a o) q xs:=by
 rcases h with (h|⟨u,h⟩)|h
 .refine .inl (.inl ?_)
  rw[bB (fun z=>by rw[z,b] at h;cases h)];exact h
 .refine .inl (.inr ⟨u,?_⟩)
  rw[bB (fun z=>by rw[z,b] at h;cases h)];exact h
 .exact .inr h
mutual
theorem DatV.ext{K:Frag}{H:Hp}{a:Az}{φ:Hz->Prop}{o:HO}(ha:H a=some (.ext φ)):∀ {x:V} {d:Dz},DatV K H x d->DatV K (upd H a o) x d
 | _,_,.non=>.non
 | _,_,.bl b=>.bl b
 | _,_,.int i=>.int i
 | _,_,.str x=>.str x
 | _,_,.lst h ds=>.lst (h.ext ha) (DatVs.ext ha ds)
 | _,_,.tup h ds=>.tup (h.ext ha) (DatVs.ext ha ds)
 | _,_,.pl h=>.pl (by rw[bB (fun z=>by rw[z,ha] at h;cases h)];exact h)
theorem DatVs.ext{K:Frag}{H:Hp}{a:Az}{φ:Hz->Prop}{o:HO}(ha:H a=some (.ext φ)):∀ {xs:List V} {ds:List Dz},DatVs K H xs ds->DatVs K (upd H a o) xs ds
 | _,_,.nil=>.nil
 | _,_,.cons h t=>.cons (DatV.ext ha h) (DatVs.ext ha t)
end
theorem aDR.ext{K:Frag}{H:Hp}{a:Az}{φ:Hz->Prop}{o:HO}{b:List (List Key×Az)}(h:aDR K H b)(d:H a=some (.ext φ)):aDR K (upd H a o) b:=fun p c=>SqT.ext (h p c) d
end L2
namespace Mc
open L2 PyProof.Rows
def Tn.good(n:Int):Tn->Prop
 | .n i=>0<=i/\i < n
 | .w x=>x="by"\/x="out"
def rJ(n:Int)(c:Int×Int):Prop:=0<=c.1/\c.1 < n/\(c.2=1\/c.2 = -1)
def Rw.good(n:Int)(r:Rw):Prop:=r.l.good n/\r.r.good n/\∀ c∈r.c,rJ n c
theorem Tn.good.ok{n:Int}{t:Tn}(h:t.good n):t.ok:=by
 cases t with
 | n i=>trivial
 | w x=>
  rcases h with rfl|rfl
  · exact (show PyData.strOk _ = true by decide +kernel)
  · exact (show PyData.strOk _ = true by decide +kernel)
theorem Rw.good.ok{n:Int}{r:Rw}(h:r.good n):r.ok:=⟨h.1.ok,h.2.1.ok⟩
structure Mach(rs:List Rw)(sg:Nat):Prop where
 len:1<=rs.length
 len2:rs.length<=1000
 sg1:1<=sg
 sg3:sg<=3
 row:∀ r∈rs,r.good rs.length/\r.c.length=sg
def bY(sg:Nat)(z:List Nat):Prop:=z.length<=1000/\∀ c∈z,dH sg c=true
theorem aDS{sg:Nat}:∀ {z:List Nat} {i:Nat},(∀ c∈z,dH sg c=true)->nF sg i z=none
 | [],_,_=>rfl
 | c::t,i,h=>by
  rw[xZ,AA (h c (by simp))]
  exact aDS fun x a=>h x (by simp[a])
noncomputable def aV(rs:List Rw)(q:Int):Rw:=rs.getD q.toNat ⟨.n 0,[],.n 0⟩
noncomputable def bR(rs:List Rw)(z:List Nat)(st:Int×Int):Tn×Int:=
 if st.1=0 then ((aV rs st.2).l,1) else if st.1=(z.length:Int)+1 then ((aV rs st.2).r,-1) else
  (.n ((aV rs st.2).c.getD (z.getD (st.1.toNat - 1) 97 - 97) (0,0)).1,((aV rs st.2).c.getD (z.getD (st.1.toNat - 1) 97 - 97) (0,0)).2)
def cF(rs:List Rw)(z:List Nat)(st:Int×Int):O6 (Int×Int):=
 match (bR rs z st).1 with
 | .w _=>none
 | .n q=>some (st.1+(bR rs z st).2,q)
def iP(rs:List Rw)(z:List Nat)(st:Int×Int):Prop:=0<=st.1/\st.1<=(z.length:Int)+1/\0<=st.2/\st.2 < (rs.length:Int)
theorem gU{rs:List Rw}{q:Int}(h0:0<=q)(h1:q < rs.length):rs[q.toNat]? = some (aV rs q):=by
 have h:q.toNat < rs.length:=by omega
 unfold aV
 rw[AX,AN h];rfl
theorem zU{rs:List Rw}{sg:Nat}{z:List Nat}{st:Int×Int}(S:bY sg z)(V:iP rs z st)(h0:st.1≠0)(h1:st.1≠(z.length:Int)+1):∃ c,z[st.1.toNat - 1]? = some c/\dH sg c=true/\z.getD (st.1.toNat - 1) 97=c:=by
 obtain ⟨a,b,_,_⟩:=V
 have d:st.1.toNat - 1 < z.length:=by omega
 refine ⟨z[st.1.toNat - 1],by simp[d],S.2 _ (EY d),by rw[AX,AN d];rfl⟩
theorem rK{rs:List Rw}{sg:Nat}{z:List Nat}{st:Int×Int}(M:Mach rs sg)(S:bY sg z)(V:iP rs z st)(h0:st.1≠0)(h1:st.1≠(z.length:Int)+1) :
  ∃ c,(aV rs st.2).c[z.getD (st.1.toNat - 1) 97 - 97]? = some c/\(aV rs st.2).c.getD (z.getD (st.1.toNat - 1) 97 - 97) (0,0)=c/\rJ rs.length c:=by
 obtain ⟨c,_,d,e⟩:=zU S V h0 h1
 rw[e]
 have d:=B0 d
 have b:=M.row _ (BA (gU V.2.2.1 V.2.2.2))
 have a:c - 97 < (aV rs st.2).c.length:=by rw[b.2];omega
 refine ⟨(aV rs st.2).c[c - 97],by simp[a],by rw[AX,AN a];rfl,b.1.2.2 _ (EY a)⟩
theorem x5{rs:List Rw}{sg:Nat}{z:List Nat}{st i:Int×Int}(M:Mach rs sg)(S:bY sg z)(V:iP rs z st)(h:cF rs z st=some i):iP rs z i:=by
 have m:=M.row _ (BA (gU V.2.2.1 V.2.2.2))
 obtain ⟨a,b,c,d⟩:=id V
 unfold cF bR at h
 by_cases j:st.1=0
 .simp only[AA j] at h
  have g:=m.1.1
  cases e:(aV rs st.2).l with
  | w x=>rw[e] at h;cases h
  | n q=>
   rw[e] at h g
   cases h
   exact ⟨by show 0<=st.1+1;omega,by show st.1+1<=_;omega,g.1,g.2⟩
 .by_cases h1:st.1=(z.length:Int)+1
  .simp only[AE j,AA h1] at h
   have g:=m.1.2.1
   cases e:(aV rs st.2).r with
   | w x=>rw[e] at h;cases h
   | n q=>
    rw[e] at h g
    cases h
    exact ⟨by show 0<=st.1 + -1;omega,by show st.1 + -1<=_;omega,g.1,g.2⟩
  .obtain ⟨k,_,e,g⟩:=rK M S V j h1
   simp only[AE j,AE h1] at h
   rw[e] at h
   cases h
   obtain ⟨o,p,f⟩:=g
   refine ⟨?_,?_,o,p⟩
   .show 0<=st.1+k.2;rcases f with f|f<;>omega
   .show st.1+k.2<=_;rcases f with f|f<;>omega
theorem tY:∀ (N:Nat) (l:List Nat),l.Nodup->(∀ x∈l,x < N)->l.length<=N
 | 0,l,_,h=>by
  cases l with
  | nil=>exact A2 _
  | cons a t=>exact absurd (h a (by simp)) (by omega)
 | N+1,l,hn,h=>by
  have ih:=tY N (l.erase N) (hn.erase N) (fun x b=>by
   have:=(hn.mem_erase_iff).mp b
   have h2:=h x this.2
   omega)
  have:=List.length_erase (a:=N) (l:=l)
  split at this<;>omega
theorem aH4{rs:List Rw}{z:List Nat}{l:List (Int×Int)}(k:l.Nodup)(g:∀ st∈l,iP rs z st):l.length<=(z.length+2) * rs.length:=by
 have h:=tY ((z.length+2) * rs.length) (l.map fun st=>st.1.toNat * rs.length+st.2.toNat) ?_ ?_
 .rw[AH] at h;exact h
 .unfold List.Nodup
  rw[FX]
  refine EL (fun {a b} ha hb hab e=>hab ?_) k
  obtain ⟨o,j,p,m⟩:=g a ha
  obtain ⟨r,q,t,s⟩:=g b hb
  have i:0 < rs.length:=by omega
  have e1:(a.1.toNat * rs.length+a.2.toNat) / rs.length=(b.1.toNat * rs.length+b.2.toNat) / rs.length:=by rw[e]
  have e2:(a.1.toNat * rs.length+a.2.toNat) % rs.length=(b.1.toNat * rs.length+b.2.toNat) % rs.length:=by rw[e]
  have c:a.2.toNat < rs.length:=by omega
  have d:b.2.toNat < rs.length:=by omega
  rw[C9,GO i,C9 b.1.toNat,GO i,GI c,GI d] at e1
  rw[C9,GP,C9 b.1.toNat,GP,EE c,EE d] at e2
  exact Prod.ext (by omega) (by omega)
 .intro x n
  obtain ⟨st,f,rfl⟩:=BZ.mp n
  obtain ⟨o,j,p,m⟩:=g st f
  have h1:st.1.toNat+1<=z.length+2:=by omega
  have h2:st.2.toNat < rs.length:=by omega
  calc st.1.toNat * rs.length+st.2.toNat < st.1.toNat * rs.length+rs.length:=by omega
   _=(st.1.toNat+1) * rs.length:=by rw[FH];omega
   _<=(z.length+2) * rs.length:=DA _ h1
noncomputable def vE(rs:List Rw)(z:List Nat):Nat->List (Int×Int)->Int×Int->List (Int×Int)
 | 0,ps,st=>ps++[st]
 | k+1,ps,st=>if st∈ps then ps++[st] else match cF rs z st with
  | none=>ps++[st]
  | some st'=>vE rs z k (ps++[st]) st'
def lK(rs:List Rw)(z:List Nat):Nat:=(z.length+2) * rs.length
def dZ(rs:List Rw)(z:List Nat):List (Int×Int):=vE rs z (lK rs z) [] (0,0)
structure Way(rs:List Rw)(z:List Nat)(ps:List (Int×Int))(st:Int×Int)(k:Nat):Prop where
 nd:ps.Nodup
 val:∀ s∈ps++[st],iP rs z s
 num:ps.length+k=lK rs z
 res:vE rs z k ps st=dZ rs z
theorem Way.start{rs:List Rw}{sg:Nat}{z:List Nat}(M:Mach rs sg):Way rs z [] (0,0) (lK rs z) where
 nd:=DG
 val:=fun s a=>by
  obtain rfl:s=(0,0):=by simpa using a
  have:=M.len
  exact ⟨GY _,by show (0:Int)<=_;omega,GY _,by show (0:Int) < _;omega⟩
 num:=by simp
 res:=rfl
theorem Way.here{rs:List Rw}{z:List Nat}{ps:List (Int×Int)}{st:Int×Int}{k:Nat}(W:Way rs z ps st k):iP rs z st:=W.val st (by simp)
theorem Way.stop{rs:List Rw}{z:List Nat}{ps:List (Int×Int)}{st:Int×Int}{k:Nat}(W:Way rs z ps st k)(h:st∈ps):ps++[st]=dZ rs z:=by
 rw[<-W.res]
 cases k with
 | zero=>rfl
 | succ k=>unfold vE;rw[AA h]
theorem Way.more{rs:List Rw}{z:List Nat}{ps:List (Int×Int)}{st:Int×Int}{k:Nat}(W:Way rs z ps st k)(h:st∉ps):∃ j,k=j+1:=by
 have d:(ps++[st]).Nodup:=by
  rw[D3]
  exact ⟨W.nd,by simp,fun a g b c e=>by rw[A4.mp c] at e;exact h (e▸g)⟩
 have:=aH4 d W.val
 rw[AZ] at this
 have f:=W.num
 unfold lK at f
 simp only[AG,AK] at this
 exact ⟨k - 1,by omega⟩
theorem Way.ends{rs:List Rw}{z:List Nat}{ps:List (Int×Int)}{st:Int×Int}{k:Nat}(W:Way rs z ps st k)(h:st∉ps)(e:cF rs z st=none):ps++[st]=dZ rs z:=by
 obtain ⟨j,rfl⟩:=W.more h
 rw[<-W.res]
 unfold vE
 rw[AE h,e]
theorem Way.next{rs:List Rw}{sg:Nat}{z:List Nat}{ps:List (Int×Int)}{st c:Int×Int}{k:Nat}(M:Mach rs sg)(S:bY sg z)(W:Way rs z ps st (k+1))(h:st∉ps)(e:cF rs z st=some c):Way rs z (ps++[st]) c k where
 nd:=by
  rw[D3]
  exact ⟨W.nd,by simp,fun a g b d e=>by rw[A4.mp d] at e;exact h (e▸g)⟩
 val:=fun s f=>by
  rcases B4.mp f with q|q
  · exact W.val s q
  · rw [A4.mp q]; exact x5 M S W.here e
 num:=by rw[AZ];have:=W.num;simp;omega
 res:=by
  rw[<-W.res]
  conv=>rhs;unfold vE
  rw[AE h,e]
end Mc
namespace L2
open PySem.Spec PyProof.Rows
theorem qF:∀ {ys:List Str} {us:List V9},b5 (ys.map V.str) us->StrsAre us ys
 | [],_,.nil=>.nil
 | y::ys,_,.cons r t=>by obtain ⟨t',rfl⟩:=r;exact .cons y t' (qF t)
def aNZ(K:Frag):V->List V->Hp->VK->Prop:=fun x vs H Q=>∃ (sep:Str) (a:Az) (ys:List Str),x=.str sep/\vs=[.ref a]/\SqL K H a (ys.map V.str)/\(ys.map fun y=>y.length).sum+ys.length * sep.length<=16777216/\Q (.str (Txt.join sep ys)) H
theorem aO4{X:Cx}:MtR X "str.join" (aNZ X.K):=by
 intro a5 s σ H x vs v m Q I f c h
 obtain ⟨i,a,ys,rfl,rfl,j,g,q⟩:=h
 obtain ⟨t,rfl⟩:=f
 obtain ⟨u,rfl,d⟩:=c.one
 cases (show u=Value.ref a from d)
 obtain ⟨b,r,e,_⟩:=I.list j
 exact join_list (items:=b.toArray) e.isList (by simpa using qF r) g fun l k=>⟨.str _,H,I.tok _,⟨_,rfl⟩,q⟩
end L2
namespace Mc
open L2 PyProof.Rows
noncomputable def one(c:Nat):Str:=⟨#[c]⟩
theorem aJ2(cs:List Nat):∀ (a:Array Nat),(List.foldl (fun a7 p=>a7++("":Str).cps++p.cps) a (cs.map one)).toList=a.toList++cs:=by
 induction cs with
 | nil=>intro a;simp
 | cons c t ih=>
  intro a
  rw[AI,List.foldl_cons,ih]
  have:("":Str).cps = #[]:=rfl
  rw[this]
  simp[one]
theorem aMC(cs:List Nat):(Txt.join "" (cs.map one)).cps.toList=cs:=by
 unfold Txt.join Builtin.Str.glued
 cases cs with
 | nil=>rfl
 | cons c t=>
  show (List.foldl _ (one c).cps (t.map one)).toList=_
  rw[aJ2];rfl
theorem aO5(cs:List Nat):((cs.map one).map fun y=>y.length).sum=cs.length:=by
 induction cs with
 | nil=>rfl
 | cons c t ih=>rw[AI,AI,List.sum_cons,ih,AG];show 1+_=_;omega
theorem aGH{x y:Str}(h:x.cps.toList=y.cps.toList):x=y:=by
 cases x;cases y
 simp only[Str.mk.injEq]
 exact Array.toList_inj.mp h
theorem aO6(cs:List Nat):Txt.join "" (cs.map one)=⟨cs.toArray⟩:=aGH (by rw[aMC])
theorem aO7{k:Int}{sg:Nat}(h1:1<=sg)(d:sg<=3):∃ c,atI ("abc":Str).cps.toList (k % (sg:Int))=some c/\dH sg c=true:=by
 have b:=GQ k (show (sg:Int)≠0 by omega)
 have h2:=FM k (show (0:Int) < sg by omega)
 obtain ⟨j,a⟩:∃ j:Nat,k % (sg:Int)=j:=⟨(k % (sg:Int)).toNat,by omega⟩
 rw[a] at b h2 ⊢
 refine ⟨97+j,?_,AT (by omega)⟩
 obtain rfl|rfl|rfl:j=0\/j=1\/j=2:=by omega
 all_goals decide +kernel
section
variable{S O:Type}
inductive Ex(st:S->Option (S⊕O)):Nat->S->O->Prop
 | out {s:S} {o:O} (h:st s=some (.inr o)):Ex st 0 s o
 | go {s s':S} {o:O} {n:Nat} (h:st s=some (.inl s')) (t:Ex st n s' o):Ex st (n+1) s o
inductive Rc(st:S->Option (S⊕O)):Nat->S->S->Prop
 | nil {s:S}:Rc st 0 s s
 | cons {s s' s'':S} {n:Nat} (h:st s=some (.inl s')) (t:Rc st n s' s''):Rc st (n+1) s s''
variable{st:S->O6 (S⊕O)}
theorem Ex.det{n c:Nat}{s:S}{o o':O}(a:Ex st n s o)(b:Ex st c s o'):n=c/\o=o':=by
 induction a generalizing c o' with
 | out h=>
  cases b with
  | out h'=>rw[h] at h';cases h';exact ⟨rfl,rfl⟩
  | go h' t=>rw[h] at h';cases h'
 | go h t ih=>
  cases b with
  | out h'=>rw[h] at h';cases h'
  | go h' t'=>
   rw[h] at h';cases h'
   obtain ⟨e,d⟩:=ih t'
   exact ⟨by omega,d⟩
theorem Rc.ex{k n:Nat}{s s':S}{o:O}(a:Rc st k s s')(b:Ex st n s o):∃ n',n=n'+k/\Ex st n' s' o:=by
 induction a generalizing n with
 | nil=>exact ⟨n,rfl,b⟩
 | cons h t ih=>
  cases b with
  | out h'=>rw[h] at h';cases h'
  | go h' t'=>
   rw[h] at h';cases h'
   obtain ⟨n',e,q⟩:=ih t'
   exact ⟨n',by omega,q⟩
theorem Rc.snoc{k:Nat}{s s' b:S}(a:Rc st k s s')(h:st s'=some (.inl b)):Rc st (k+1) s b:=by
 induction a with
 | nil=>exact .cons h .nil
 | cons h' t ih=>exact .cons h' (ih h)
theorem Rc.round{m n:Nat}{s:S}{o:O}(a:Rc st (m+1) s s):¬ Ex st n s o:=fun b=>by
 obtain ⟨c,e,q⟩:=a.ex b
 have:=(b.det q).1
 omega
def Res(st:S->O6 (S⊕O))(s:S)(r:O6 O):Prop:=∀ o,r=some o↔∃ n,Ex st n s o
theorem Res.det{s:S}{r r':O6 O}(a:Res st s r)(b:Res st s r'):r=r':=by
 apply Option.ext
 intro o
 exact (a o).trans (b o).symm
theorem Res.out{s:S}{o:O}(h:st s=some (.inr o)):Res st s (some o):=fun o'=>by
 constructor
 · intro e; cases e; exact ⟨0, .out h⟩
 · rintro ⟨n, q⟩; rw [((Ex.out h).det q).2]
theorem Res.stuck{s:S}(h:st s=none):Res st s none:=fun o'=>by
 constructor
 .intro e;cases e
 .rintro ⟨n,q⟩
  cases q with
  | out h'=>rw[h] at h';cases h'
  | go h' t=>rw[h] at h';cases h'
theorem Res.step{s s':S}{r:O6 O}(h:st s=some (.inl s'))(a:Res st s' r):Res st s r:=fun o=>by
 rw[a o]
 constructor
 .rintro ⟨n,q⟩;exact ⟨n+1,.go h q⟩
 .rintro ⟨n,q⟩
  cases q with
  | out h'=>rw[h] at h';cases h'
  | go h' t=>rw[h] at h';cases h';exact ⟨_,t⟩
theorem Res.round{s:S}{m:Nat}(a:Rc st (m+1) s s):Res st s none:=fun o=>by
 constructor
 · intro e; cases e
 · rintro ⟨n, q⟩; exact absurd q a.round
open Classical in
noncomputable def cM(st:S->O6 (S⊕O))(s:S):O6 O:=if h:∃ o n,Ex st n s o then some h.choose else none
theorem kK(st:S->O6 (S⊕O))(s:S):Res st s (cM st s):=fun o=>by
 unfold cM
 by_cases h:∃ o n,Ex st n s o
 .rw[dif_pos h]
  obtain ⟨n,q⟩:=h.choose_spec
  constructor
  · intro e; cases e; exact ⟨n, q⟩
  · rintro ⟨n', q'⟩; rw [(q.det q').2]
 .rw[dif_neg h]
  constructor
  · intro e; cases e
  · rintro ⟨n, q⟩; exact absurd ⟨o, n, q⟩ h
theorem Res.eq{s:S}{r:O6 O}(a:Res st s r):r=cM st s:=a.det (kK st s)
theorem aFR{b:Type}{a:b->O6 (b⊕O)}{s:S}{s':b}(h:∀ o,(∃ n,Ex st n s o)↔∃ n,Ex a n s' o):cM st s=cM a s':=
 Option.ext fun o=>((kK st s) o).trans ((h o).trans ((kK a s') o).symm)
structure Und2(st:S->Option (S⊕O))(s0:S)(ps:List S)(s:S):Prop where
 nd:ps.Nodup
 back:∀ p∈ps,∃ m,Rc st (m+1) p s
 res:∀ r,Res st s r->Res st s0 r
theorem Und2.start{a:S}:Und2 st a [] a:=⟨DG,fun p b=>by simp at b,fun r h=>h⟩
theorem Und2.next{c s s':S}{ps:List S}(U:Und2 st c ps s)(i:s∉ps)(h:st s=some (.inl s')):Und2 st c (ps++[s]) s' where
 nd:=by
  rw[D3]
  exact ⟨U.nd,by simp,fun a d b g e=>by rw[A4.mp g] at e;exact i (e▸d)⟩
 back:=fun p f=>by
  rcases B4.mp f with q|q
  · obtain ⟨m, r⟩ := U.back p q; exact ⟨m + 1, r.snoc h⟩
  · rw [A4.mp q]; exact ⟨0, .cons h .nil⟩
 res:=fun r a=>U.res r (a.step h)
theorem Und2.met{a s:S}{ps:List S}(U:Und2 st a ps s)(h:s∈ps):cM st a=none:=by
 obtain ⟨m,r⟩:=U.back s h
 exact ((U.res _ (Res.round r)).eq).symm
theorem Und2.outs{a s:S}{ps:List S}{o:O}(U:Und2 st a ps s)(h:st s=some (.inr o)):cM st a=some o:=((U.res _ (Res.out h)).eq).symm
theorem Und2.sticks{a s:S}{ps:List S}(U:Und2 st a ps s)(h:st s=none):cM st a=none:=((U.res _ (Res.stuck h)).eq).symm
end
abbrev Th:=O6 (Int×Int)
structure Tb where
 f:List Th
 a:List Th
def Tb.at(t:Tb)(w q:Int):Th:=(if w=1 then t.f else t.a).getD q.toNat none
def x6(m:Nat):Th->Prop
 | none=>True
 | some (d,q)=>(d=1\/d = -1)/\0<=q/\q < (m:Int)
structure Tb.good(m:Nat)(t:Tb):Prop where
 lf:t.f.length=m
 la:t.a.length=m
 gf:∀ x∈t.f,x6 m x
 ga:∀ x∈t.a,x6 m x
theorem Tb.good.at{m:Nat}{t:Tb}(h:t.good m){w q:Int}(h0:0<=q)(h1:q < m):(if w=1 then t.f else t.a)[q.toNat]? = some (t.at w q)/\x6 m (t.at w q):=by
 have c:q.toNat < (if w=1 then t.f else t.a).length:=by
  split
  · rw [h.lf]; omega
  · rw [h.la]; omega
 have e:(if w=1 then t.f else t.a)[q.toNat]? = some (t.at w q):=by
  unfold Tb.at
  rw[AX,AN c];rfl
 refine ⟨e,?_⟩
 have b:=BA e
 split at b
 .exact h.gf _ b
 .exact h.ga _ b
def cS(ts:List Tb)(s:Int×Int×Int):O6 ((Int×Int×Int)⊕(Int×Int)):=
 match (ts.getD s.1.toNat ⟨[],[]⟩).at s.2.1 s.2.2 with
 | none=>none
 | some (w,q)=>if 0<=s.1+w/\s.1+w < (ts.length:Int) then some (.inl (s.1+w,w,q)) else some (.inr (w,q))
noncomputable def jX(m:Nat)(ts:List Tb):Tb:=⟨(List.range m).map fun q:Nat=>cM (cS ts) (0,1,(q:Int)),(List.range m).map fun q:Nat=>cM (cS ts) ((ts.length:Int) - 1,-1,(q:Int))⟩
theorem aBI{m:Nat}{a:List Tb}{w q:Int}(h0:0<=q)(h1:q < m):(jX m a).at w q=if w=1 then cM (cS a) (0,1,q) else cM (cS a) ((a.length:Int) - 1,-1,q):=by
 unfold Tb.at jX
 have b:q.toNat < m:=by omega
 have e:((q.toNat:Nat):Int)=q:=by omega
 by_cases h:w=1
 .rw[AA h,AA h,AX,AS,BK b]
  show (some (cM (cS a) (0,1,((q.toNat:Nat):Int)))).getD none=_
  rw[e];rfl
 .rw[AE h,AE h,AX,AS,BK b]
  show (some (cM (cS a) ((a.length:Int) - 1,-1,((q.toNat:Nat):Int)))).getD none=_
  rw[e];rfl
def aMD(m:Nat)(ts:List Tb)(s:Int×Int×Int):Prop:=0<=s.1/\s.1 < (ts.length:Int)/\(s.2.1=1\/s.2.1 = -1)/\0<=s.2.2/\s.2.2 < (m:Int)
theorem aO8{a:List Tb}{i:Int}(h0:0<=i)(h1:i < a.length):∃ t,a[i.toNat]? = some t/\a.getD i.toNat ⟨[],[]⟩=t:=by
 have b:i.toNat < a.length:=by omega
 exact ⟨a[i.toNat],by simp[b],by rw[AX,AN b];rfl⟩
theorem box_step{m:Nat}{a:List Tb}(k:∀ t∈a,t.good m){s:Int×Int×Int}(V:aMD m a s):(cS a s=none)\/(∃ s',cS a s=some (.inl s')/\aMD m a s')\/∃ w q,cS a s=some (.inr (w,q))/\(w=1\/w = -1)/\0<=q/\q < (m:Int):=by
 obtain ⟨i,h,n,v4,f⟩:=V
 obtain ⟨t,j,e⟩:=aO8 i h
 have g:=((k t (BA j)).at (w:=s.2.1) v4 f).2
 unfold cS
 rw[e]
 cases l:t.at s.2.1 s.2.2 with
 | none=>exact .inl rfl
 | some x=>
  obtain ⟨w,q⟩:=x
  rw[l] at g
  obtain ⟨d,c,b⟩:=g
  by_cases hi:0<=s.1+w/\s.1+w < (a.length:Int)
  · exact .inr (.inl ⟨(s.1 + w, w, q), by simp only [AA hi], hi.1, hi.2, d, c, b⟩)
  · exact .inr (.inr ⟨w, q, by simp only [AE hi], d, c, b⟩)
theorem aGI{m:Nat}{a:List Tb}(b:∀ t∈a,t.good m){n:Nat}{s:Int×Int×Int}{o:Int×Int}(V:aMD m a s)(h:Ex (cS a) n s o):(o.1=1\/o.1 = -1)/\0<=o.2/\o.2 < (m:Int):=by
 induction h with
 | out h=>
  rcases box_step b V with e|⟨s',e,_⟩|⟨w,q,e,g⟩
  · rw [h] at e; cases e
  · rw [h] at e; cases e
  · rw [h] at e; cases e; exact g
 | go h t ih=>
  rcases box_step b V with e|⟨s',e,c⟩|⟨w,q,e,g⟩
  · rw [h] at e; cases e
  · rw [h] at e; cases e; exact ih c
  · rw [h] at e; cases e
theorem wI{m:Nat}{a:List Tb}(d:∀ t∈a,t.good m)(f:1<=a.length):(jX m a).good m where
 lf:=by unfold jX;simp
 la:=by unfold jX;simp
 gf:=fun x c=>by
  obtain ⟨q,b,rfl⟩:=BZ.mp c
  have b:=BC.mp b
  cases e:cM (cS a) (0,1,(q:Int)) with
  | none=>trivial
  | some o=>
   obtain ⟨n,h⟩:=((kK (cS a) _) o).mp e
   exact aGI d ⟨by show (0:Int)<=0;decide,by show (0:Int) < _;omega,.inl rfl,by show (0:Int)<=(q:Int);omega,by show (q:Int) < _;omega⟩ h
 ga:=fun x c=>by
  obtain ⟨q,b,rfl⟩:=BZ.mp c
  have b:=BC.mp b
  cases e:cM (cS a) ((a.length:Int) - 1,-1,(q:Int)) with
  | none=>trivial
  | some o=>
   obtain ⟨n,h⟩:=((kK (cS a) _) o).mp e
   exact aGI d ⟨by show (0:Int)<=(a.length:Int) - 1;omega,by show (a.length:Int) - 1 < _;omega,.inr rfl,by show (0:Int)<=(q:Int);omega,by show (q:Int) < _;omega⟩ h
theorem aBJ{S:Type}(f:S->Nat)(N:Nat)(l:List S)(d:l.Nodup)(c:∀ s∈l,f s < N)(hi:∀ a∈l,∀ b∈l,f a=f b->a=b):l.length<=N:=by
 have h:=tY N (l.map f) ?_ ?_
 .rw[AH] at h;exact h
 .unfold List.Nodup
  rw[FX]
  exact EL (fun {a b} ha hb hab e=>hab (hi a ha b hb e)) d
 .intro x i
  obtain ⟨s,g,rfl⟩:=BZ.mp i
  exact c s g
def jQ(m:Nat)(s:Int×Int):Prop:=(s.1=1\/s.1 = -1)/\0<=s.2/\s.2 < (m:Int)
theorem rL{m:Nat}{l:List (Int×Int)}(h:l.Nodup)(f:∀ s∈l,jQ m s):l.length<=2 * m:=by
 refine aBJ (fun s=>(if s.1=1 then 0 else m)+s.2.toNat) (2 * m) l h (fun s i=>?_) (fun a j b g e=>?_)
 .obtain ⟨h1,h2,o⟩:=f s i
  split<;>omega
 .obtain ⟨d,n,q⟩:=f a j
  obtain ⟨c,k,p⟩:=f b g
  refine Prod.ext ?_ ?_
  .rcases d with d|d<;>rcases c with c|c<;>rw[d,c] at e ⊢
   · rw [AA rfl, AE (by decide)] at e; omega
   · rw [AE (by decide), AA rfl] at e; omega
  .rcases d with d|d<;>rcases c with c|c<;>rw[d,c] at e
   · omega
   · rw [AA rfl, AE (by decide)] at e; omega
   · rw [AE (by decide), AA rfl] at e; omega
   · omega
def fB(a b:Tb)(s:Int×Int):O6 ((Int×Int)⊕(Int×Int)):=
 match (if s.1=1 then b.at 1 s.2 else a.at (-1) s.2) with
 | none=>none
 | some (w,q)=>if w = -s.1 then some (.inl (w,q)) else some (.inr (w,q))
def jY(s:Int×Int):Int×Int×Int:=((if s.1=1 then 1 else 0),s.1,s.2)
theorem gone_box{a b:Tb}{m:Nat}(r:a.good m)(n:b.good m){s:Int×Int}(V:jQ m s):(fB a b s=none/\cS [a,b] (jY s)=none)\/(∃ s',fB a b s=some (.inl s')/\cS [a,b] (jY s)=some (.inl (jY s'))/\jQ m s')\/∃ o,fB a b s=some (.inr o)/\cS [a,b] (jY s)=some (.inr o):=by
 obtain ⟨w,q⟩:=s
 obtain ⟨l,e,f⟩:=V
 dsimp only at l e f
 have i:([a,b].getD (0:Int).toNat ⟨[],[]⟩)=a:=rfl
 have e1:([a,b].getD (1:Int).toNat ⟨[],[]⟩)=b:=rfl
 rcases l with rfl|rfl
 .have g:=(n.at (w:=1) e f).2
  cases h:b.at 1 q with
  | none=>exact .inl ⟨by unfold fB;dsimp only;rw[AA rfl,h],by unfold cS jY;dsimp only;rw[AA rfl,e1,h]⟩
  | some x=>
   obtain ⟨p,c⟩:=x
   rw[h] at g
   obtain ⟨j,k,d⟩:=g
   rcases j with rfl|rfl
   .refine .inr (.inr ⟨(1,c),by unfold fB;dsimp only;rw[AA rfl,h];dsimp only;rw[AE (by decide)],?_⟩)
    unfold cS jY;dsimp only;rw[AA rfl,e1,h];dsimp only
    rw[AE (by show ¬ (0<=(1:Int)+1/\(1:Int)+1 < 2);decide)]
   .refine .inr (.inl ⟨(-1,c),by unfold fB;dsimp only;rw[AA rfl,h];dsimp only;rw[AA rfl],?_,.inr rfl,k,d⟩)
    unfold cS jY;dsimp only;rw[AA rfl,e1,h];dsimp only
    rw[AA (by show (0<=(1:Int) + -1/\(1:Int) + -1 < 2);decide),AE (by decide)];rfl
 .have g:=(r.at (w:=-1) e f).2
  cases h:a.at (-1) q with
  | none=>exact .inl ⟨by unfold fB;dsimp only;rw[AE (by decide),h],by unfold cS jY;dsimp only;rw[AE (by decide),i,h]⟩
  | some x=>
   obtain ⟨p,c⟩:=x
   rw[h] at g
   obtain ⟨j,k,d⟩:=g
   rcases j with rfl|rfl
   .refine .inr (.inl ⟨(1,c),by unfold fB;dsimp only;rw[AE (by decide),h];dsimp only;rw[AA (by decide)],?_,.inl rfl,k,d⟩)
    unfold cS jY;dsimp only;rw[AE (by decide),i,h];dsimp only
    rw[AA (by show (0<=(0:Int)+1/\(0:Int)+1 < 2);decide),AA rfl];rfl
   .refine .inr (.inr ⟨(-1,c),by unfold fB;dsimp only;rw[AE (by decide),h];dsimp only;rw[AE (by decide)],?_⟩)
    unfold cS jY;dsimp only;rw[AE (by decide),i,h];dsimp only
    rw[AE (by show ¬ (0<=(0:Int) + -1/\(0:Int) + -1 < 2);decide)]
theorem aDT{a b:Tb}{m:Nat}(d:a.good m)(c:b.good m){s:Int×Int}(V:jQ m s):cM (fB a b) s=cM (cS [a,b]) (jY s):=by
 refine aFR fun o=>⟨?_,?_⟩
 .rintro ⟨n,h⟩
  refine ⟨n,?_⟩
  induction h with
  | out h=>
   rcases gone_box d c V with ⟨e,_⟩|⟨s',e,_⟩|⟨o',e,g⟩
   · rw [h] at e; cases e
   · rw [h] at e; cases e
   · rw [h] at e; cases e; exact .out g
  | go h t ih=>
   rcases gone_box d c V with ⟨e,_⟩|⟨s',e,g,f⟩|⟨o',e,g⟩
   · rw [h] at e; cases e
   · rw [h] at e; cases e; exact .go g (ih f)
   · rw [h] at e; cases e
 .rintro ⟨n,h⟩
  refine ⟨n,?_⟩
  generalize i:jY s=p at h
  induction h generalizing s with
  | out h=>
   subst i
   rcases gone_box d c V with ⟨_,e⟩|⟨s',_,e,_⟩|⟨o',g,e⟩
   · rw [h] at e; cases e
   · rw [h] at e; cases e
   · rw [h] at e; cases e; exact .out g
  | go h t ih=>
   subst i
   rcases gone_box d c V with ⟨_,e⟩|⟨s',g,e,f⟩|⟨o',_,e⟩
   · rw [h] at e; cases e
   · rw [h] at e; cases e; exact .go g (ih f rfl)
   · rw [h] at e; cases e
noncomputable def jC(a b:Tb)(th:Th)(w:Int):Th:=
 match th with
 | none=>none
 | some (d,q)=>if d=w then cM (fB a b) (d,q) else some (d,q)
theorem resOf_go{S O:Type}{st:S->O6 (S⊕O)}{s s':S}(h:st s=some (.inl s')):cM st s=cM st s':=(((kK st s').step h).eq).symm
theorem fD{S O:Type}{st:S->O6 (S⊕O)}{s:S}{o:O}(h:st s=some (.inr o)):cM st s=some o:=((Res.out h).eq).symm
theorem n9{S O:Type}{st:S->O6 (S⊕O)}{s:S}(h:st s=none):cM st s=none:=((Res.stuck h).eq).symm
theorem aJ3{a b:Tb}{m:Nat}(d:a.good m)(f:b.good m){q:Int}(h0:0<=q)(h1:q < (m:Int)):jC a b (a.at 1 q) 1=cM (cS [a,b]) (0,1,q):=by
 have g:=(d.at (w:=1) h0 h1).2
 have e:([a,b].getD (0:Int).toNat ⟨[],[]⟩)=a:=rfl
 cases h:a.at 1 q with
 | none=>
  rw[n9 (by unfold cS;dsimp only;rw[e,h])];rfl
 | some x=>
  obtain ⟨w,c⟩:=x
  rw[h] at g
  obtain ⟨j,k,i⟩:=g
  rcases j with rfl|rfl
  .rw[resOf_go (s':=(1,1,c)) (by unfold cS;dsimp only;rw[e,h];dsimp only;rw[AA (by show (0<=(0:Int)+1/\(0:Int)+1 < 2);decide)];rfl)]
   show (if (1:Int)=1 then cM (fB a b) (1,c) else some (1,c))=_
   rw[AA rfl,aDT d f ⟨.inl rfl,k,i⟩];rfl
  .rw[fD (o:=(-1,c)) (by unfold cS;dsimp only;rw[e,h];dsimp only;rw[AE (by show ¬ (0<=(0:Int) + -1/\(0:Int) + -1 < 2);decide)])]
   show (if (-1:Int)=1 then cM (fB a b) (-1,c) else some (-1,c))=_
   rw[AE (by decide)]
theorem aME{a b:Tb}{m:Nat}(k:a.good m)(d:b.good m){q:Int}(h0:0<=q)(h1:q < (m:Int)):jC a b (b.at (-1) q) (-1)=cM (cS [a,b]) (1,-1,q):=by
 have g:=(d.at (w:=-1) h0 h1).2
 have e:([a,b].getD (1:Int).toNat ⟨[],[]⟩)=b:=rfl
 cases h:b.at (-1) q with
 | none=>
  rw[n9 (by unfold cS;dsimp only;rw[e,h])];rfl
 | some x=>
  obtain ⟨w,c⟩:=x
  rw[h] at g
  obtain ⟨i,j,f⟩:=g
  rcases i with rfl|rfl
  .rw[fD (o:=(1,c)) (by unfold cS;dsimp only;rw[e,h];dsimp only;rw[AE (by show ¬ (0<=(1:Int)+1/\(1:Int)+1 < 2);decide)])]
   show (if (1:Int) = -1 then cM (fB a b) (1,c) else some (1,c))=_
   rw[AE (by decide)]
  .rw[resOf_go (s':=(0,-1,c)) (by unfold cS;dsimp only;rw[e,h];dsimp only;rw[AA (by show (0<=(1:Int) + -1/\(1:Int) + -1 < 2);decide)];rfl)]
   show (if (-1:Int) = -1 then cM (fB a b) (-1,c) else some (-1,c))=_
   rw[AA rfl,aDT k d ⟨.inr rfl,j,f⟩];rfl
theorem aDU{a b:Tb}{m:Nat}(c:a.good m)(d:b.good m):a.f.map (fun th=>jC a b th 1)=(jX m [a,b]).f:=by
 refine ER fun i=>?_
 show _=((List.range m).map _)[i]?
 rw[AS,AS]
 by_cases hi:i < m
 .rw[BK hi]
  have:=(c.at (w:=1) (q:=(i:Int)) (by omega) (by omega)).1
  rw[AA rfl] at this
  rw[show ((i:Int)).toNat=i by omega] at this
  rw[this]
  show some (jC a b (a.at 1 (i:Int)) 1)=_
  rw[aJ3 c d (by omega) (by omega)];rfl
 .rw[CH (by rw[c.lf];omega),CH (by simp;omega)];rfl
theorem aDV{a b:Tb}{m:Nat}(d:a.good m)(c:b.good m):b.a.map (fun th=>jC a b th (-1))=(jX m [a,b]).a:=by
 refine ER fun i=>?_
 show _=((List.range m).map _)[i]?
 rw[AS,AS]
 by_cases hi:i < m
 .rw[BK hi]
  have:=(c.at (w:=-1) (q:=(i:Int)) (by omega) (by omega)).1
  rw[AE (by decide)] at this
  rw[show ((i:Int)).toNat=i by omega] at this
  rw[this]
  show some (jC a b (b.at (-1) (i:Int)) (-1))=_
  rw[aME d c (by omega) (by omega)];rfl
 .rw[CH (by rw[c.la];omega),CH (by simp;omega)];rfl
def thD:Th->Dz
 | none=>.none
 | some (d,q)=>kJ d q
def tbD(t:Tb):Dz:=tX (t.f.map thD) (t.a.map thD)
theorem aMF(x:Th):lX (thD x):=by
 cases x with
 | none=>exact .inl rfl
 | some o=>exact .inr ⟨o.1,o.2,rfl⟩
theorem pI(l:List Th):∀ d∈l.map thD,lX d:=fun d a=>by
 obtain ⟨x,_,rfl⟩:=BZ.mp a
 exact aMF x
def dL(m:Nat):Tb:=⟨(List.range m).map fun q:Nat=>some (1,(q:Int)),(List.range m).map fun q:Nat=>some (-1,(q:Int))⟩
theorem aO9(m:Nat):tbD (dL m)=tX (aJ0 m) (aJ1 m):=by
 unfold tbD dL aJ0 aJ1
 rw[BL,BL];rfl
theorem rM(m:Nat):(dL m).good m where
 lf:=by unfold dL;simp
 la:=by unfold dL;simp
 gf:=fun x a=>by
  obtain ⟨q,b,rfl⟩:=BZ.mp a
  have:=BC.mp b
  exact ⟨.inl rfl,by omega,by omega⟩
 ga:=fun x a=>by
  obtain ⟨q,b,rfl⟩:=BZ.mp a
  have:=BC.mp b
  exact ⟨.inr rfl,by omega,by omega⟩
theorem mS{m:Nat}{w q:Int}(hw:w=1\/w = -1)(h0:0<=q)(h1:q < (m:Int)):(dL m).at w q=some (w,q):=by
 unfold Tb.at dL
 have a:q.toNat < m:=by omega
 have e:((q.toNat:Nat):Int)=q:=by omega
 rcases hw with rfl|rfl
 .rw[AA rfl,AX,AS,BK a]
  show (some (some ((1:Int),((q.toNat:Nat):Int)))).getD none=_
  rw[e];rfl
 .rw[AE (by decide),AX,AS,BK a]
  show (some (some ((-1:Int),((q.toNat:Nat):Int)))).getD none=_
  rw[e];rfl
theorem aJ4{m:Nat}{a b:Tb}(e:a.good m)(d:b.good m)(h:∀ (w q:Int),(w=1\/w = -1)->0<=q->q < (m:Int)->a.at w q=b.at w q):a=b:=by
 have c:∀ w:Int,(w=1\/w = -1)->(if w=1 then a.f else a.a)=(if w=1 then b.f else b.a):=fun w j=>by
  refine ER fun i=>?_
  by_cases hi:i < m
  .have e1:=(e.at (w:=w) (q:=(i:Int)) (by omega) (by omega)).1
   have e2:=(d.at (w:=w) (q:=(i:Int)) (by omega) (by omega)).1
   rw[show ((i:Int)).toNat=i by omega] at e1 e2
   rw[e1,e2,h w i j (by omega) (by omega)]
  .rw[CH (by split;rw[e.lf];omega;rw[e.la];omega),CH (by split;rw[d.lf];omega;rw[d.la];omega)]
 have f:=c 1 (.inl rfl)
 have g:=c (-1) (.inr rfl)
 rw[AA rfl,AA rfl] at f
 rw[AE (by decide),AE (by decide)] at g
 cases a;cases b
 dsimp only at f g
 rw[f,g]
theorem aH5{m:Nat}{t:Tb}(h:t.good m):jX m [dL m,t]=t:=by
 have l:∀ x∈[dL m,t],x.good m:=fun x i=>by
  rcases AY.mp i with z|z
  .rw[z];exact rM m
  .rw[A4.mp z];exact h
 have d:([dL m,t].getD (0:Int).toNat ⟨[],[]⟩)=dL m:=rfl
 have e1:([dL m,t].getD (1:Int).toNat ⟨[],[]⟩)=t:=rfl
 refine aJ4 (wI l (by simp)) h fun w q j c h1=>?_
 have a:∀ w:Int,cM (cS [dL m,t]) (1,w,q)=t.at w q:=fun w=>by
  have g:=(h.at (w:=w) c h1).2
  cases b:t.at w q with
  | none=>exact n9 (by unfold cS;dsimp only;rw[e1,b])
  | some x=>
   obtain ⟨o,f⟩:=x
   rw[b] at g
   obtain ⟨k,n,e⟩:=g
   rcases k with rfl|rfl
   .exact fD (by unfold cS;dsimp only;rw[e1,b];dsimp only;rw[AE (by show ¬ (0<=(1:Int)+1/\(1:Int)+1 < 2);decide)])
   .rw[resOf_go (s':=(0,-1,f)) (by unfold cS;dsimp only;rw[e1,b];dsimp only;rw[AA (by show (0<=(1:Int) + -1/\(1:Int) + -1 < 2);decide)];rfl)]
    exact fD (by unfold cS;dsimp only;rw[d,mS (.inr rfl) n e];dsimp only;rw[AE (by show ¬ (0<=(0:Int) + -1/\(0:Int) + -1 < 2);decide)])
 rw[aBI c h1]
 rcases j with rfl|rfl
 .rw[AA rfl,resOf_go (s':=(1,1,q)) (by unfold cS;dsimp only;rw[d,mS (.inl rfl) c h1];dsimp only;rw[AA (by show (0<=(0:Int)+1/\(0:Int)+1 < 2);decide)];rfl)]
  exact a 1
 .rw[AE (by decide)];exact a (-1)
theorem aFS{m:Nat}{t:Tb}(h:t.good m):jX m [t,dL m]=t:=by
 have l:∀ x∈[t,dL m],x.good m:=fun x i=>by
  rcases AY.mp i with z|z
  .rw[z];exact h
  .rw[A4.mp z];exact rM m
 have c:([t,dL m].getD (0:Int).toNat ⟨[],[]⟩)=t:=rfl
 have e1:([t,dL m].getD (1:Int).toNat ⟨[],[]⟩)=dL m:=rfl
 refine aJ4 (wI l (by simp)) h fun w q j d h1=>?_
 have a:∀ w:Int,cM (cS [t,dL m]) (0,w,q)=t.at w q:=fun w=>by
  have g:=(h.at (w:=w) d h1).2
  cases b:t.at w q with
  | none=>exact n9 (by unfold cS;dsimp only;rw[c,b])
  | some x=>
   obtain ⟨o,f⟩:=x
   rw[b] at g
   obtain ⟨k,n,e⟩:=g
   rcases k with rfl|rfl
   .rw[resOf_go (s':=(1,1,f)) (by unfold cS;dsimp only;rw[c,b];dsimp only;rw[AA (by show (0<=(0:Int)+1/\(0:Int)+1 < 2);decide)];rfl)]
    exact fD (by unfold cS;dsimp only;rw[e1,mS (.inl rfl) n e];dsimp only;rw[AE (by show ¬ (0<=(1:Int)+1/\(1:Int)+1 < 2);decide)])
   .exact fD (by unfold cS;dsimp only;rw[c,b];dsimp only;rw[AE (by show ¬ (0<=(0:Int) + -1/\(0:Int) + -1 < 2);decide)])
 rw[aBI d h1]
 rcases j with rfl|rfl
 .rw[AA rfl];exact a 1
 .rw[AE (by decide),resOf_go (s':=(0,-1,q)) (by unfold cS;dsimp only;show (match ([t,dL m].getD (1:Int).toNat ⟨[],[]⟩).at (-1) q with|none=>none|some (w,q)=>if 0<=(2:Int) - 1+w/\(2:Int) - 1+w < 2 then some (Sum.inl ((2:Int) - 1+w,w,q)) else some (Sum.inr (w,q)))=_;rw[e1,mS (.inr rfl) d h1];rfl)]
  exact a (-1)
end Mc
namespace L2
open PySem.Spec PyProof.Rows
def Its(z:Str):It:=⟨fun i _=>i < z.cps.size,fun i H x H'=>H'=H/\∃ c,z.cps[i]? = some c/\x=.str ⟨#[c]⟩,fun i _=>i=z.cps.size⟩
theorem aDW{P:P9}{w:W9}{K:Frag}{tg:Ez}(z:Str)(t:Tok)(T:String)(J:∀ A:U9,A.handled=none->∀ it,Walks P w A it [it] [it] z.cps.size (SignAt z) fun i h=>h.IsStrIter it T z t i)
  (f:∀ (A:U9) (it:Az) (i:Nat) (s:S9) (Q E:V9->S9->Prop),s.heap.IsStrIter it T z t i->Q (.ref it) s->wpAny (model P w) A (pyIter (.ref it)) Q E s)
  (B:["enumerate","zip","dict_itemiterator","dict_reverseitemiterator","odict_iterator","itertools.zip_longest","itertools.pairwise"].contains T=false) (it:Az):Turn P w K tg (Its z) [it] it (fun i h=>h.IsStrIter it T z t i) where
 mem:=by simp
 obj:=fun i h st b a=>by
  obtain rfl:b=it:=by simpa using a
  obtain ⟨o,e,c,d⟩:=st
  exact ⟨o,e,fun v z=>by rw[d] at z;cases z⟩
 keep:=fun i h h' st k=>by
  obtain ⟨o,e,c,d⟩:=st
  exact ⟨o,k it (by simp) o e,c,d⟩
 item:=by
  intro X y F u D i a5 s σ H E I m st j
  subst y F u
  obtain ⟨G,q,O,x,r,n⟩:=m it (by simp)
  refine (J X.A (I.ok.hd D) it).item i s _ E j st fun v h' l N g C=>?_
  obtain ⟨c,tc,p,rfl⟩:=N
  have L:Inv X a5 σ H {s with heap:=h',toks:=l}:=I.turned (t':=l) (it:=it) (fun b o a e=>C b o (by simpa using a) e) G q x r n
  obtain ⟨o,e,M,d⟩:=id g
  exact ⟨_,rfl,xS (s:={s with heap:=h',toks:=l}) e M d B ⟨.str ⟨#[c]⟩,H,L,⟨_,rfl⟩,⟨rfl,c,p,rfl⟩,g,fun b a=>(m b a).1⟩⟩
 done:=by
  intro X y F u D i a5 s σ H E I m st j
  subst y F u
  obtain ⟨G,q,O,x,r,n⟩:=m it (by simp)
  have j:i=z.cps.size:=j
  subst j
  exact (J X.A (I.ok.hd D) it).done s _ E st fun h' l C=>⟨rfl,I.turned (t':=l) (it:=it) (fun b o a e=>C b o (by simpa using a) e) G q x r n⟩
 self:=fun A i s Q E st h=>f A it i s Q E st h
def aU1(te:TE):TI:=fun σ H R=>te σ H fun x H1=>∃ z,x=.str z/\R (Its z) H1
theorem aJ5{X:Cx}{tg l:Ez}{tl:TE}(r:PE X l tl):PI X tg l (aU1 tl):=by
 intro a5 s σ H R I h
 refine thn (r a5 s σ H _ I h) fun v a g=>?_
 obtain ⟨x,H1,j,u,p⟩:=g
 obtain ⟨z,e,q⟩:=p
 subst e
 obtain ⟨t,rfl⟩:=u
 refine wpAny_pyIter_strU ?_
 have d:Inv X a5 σ H1 {a with heap:=a.heap.push {cls:=.type (strIterType z),data:=.fields #[.str z t,.int 0 0]}}:=j.kept (t':=a.toks) fun b o e=>AQ _ e
 have st:(a.heap.push {cls:=.type (strIterType z),data:=.fields #[.str z t,.int 0 0]}).IsStrIter a.heap.objs.size (strIterType z) z t 0:=⟨_,BE _ rfl,rfl,rfl⟩
 have c:∀ b∈[a.heap.objs.size],k9 X a5 H1 b:=fun b n=>by
  obtain rfl:=A4.mp n
  exact j.fpOk (A2 _) (j.hok.fresh (A2 _))
 by_cases m:(z.cps.all fun x=>decide (x < 128))=true
 .have f:strIterType z="str_ascii_iterator":=by unfold strIterType;rw[AA m]
  rw[f] at st d ⊢
  exact ⟨a.heap.objs.size,[a.heap.objs.size],_,_,H1,rfl,d,aDW z t "str_ascii_iterator" (fun A k it=>Walks.strAscii k it z t) (fun A it i s Q E st h=>wpAny_pyIter_striter_ascii st h) (by decide) _,st,c,q⟩
 .have f:strIterType z="str_iterator":=by unfold strIterType;rw[AE m]
  rw[f] at st d ⊢
  exact ⟨a.heap.objs.size,[a.heap.objs.size],_,_,H1,rfl,d,aDW z t "str_iterator" (fun A k it=>Walks.strWide k it z t) (fun A it i s Q E st h=>wpAny_pyIter_striter_wide st h) (by decide) _,st,c,q⟩
theorem tZ{α:Type}{x:Str}{l:List (Str×α)}(h:∀ v,(x,v)∉l):l.lookup x=none:=by
 cases e:l.lookup x with
 | none=>rfl
 | some v=>exact absurd (DF e) (h v)
noncomputable def hid(cs:List Az)(H:Hp):Hp:=fun b=>if b∈cs then none else H b
def FnO(f:Az)(o:Obj):HO:=.ext fun h=>h.get? f=some o
def aRR(c:Az)(o:Obj)(v:V):HO:=.frz o (.ext fun h=>∃ u,cB v u/\h.IsCell c (some u))
section
variable{P:P9}{w:W9}{H:Hp}{h:Hz}
theorem FnO.ok{f:Az}{o:Obj}(e:h.get? f=some o):eH P w H h f (FnO f o):=⟨e,⟨o,e⟩,fun h1 h2 q k=>k o q⟩
theorem aRR.ok{c:Az}{o:Obj}{v:V}{u:V9}(r:cB v u)(e:h.get? c=some o)(a:o.data=.cell (some u)):eH P w H h c (aRR c o v):=
 ⟨e,⟨u,r,o,e,a⟩,⟨o,e⟩,fun h1 h2 ⟨u,r,o,b,a⟩ k=>⟨u,r,o,k o b,a⟩⟩
end
structure ClSt where
 name:Str
 qual:Str
 params:Arguments
 body:FuncBody
 scope:Scope
noncomputable def ClSt.fd(S:ClSt)(cl:List (Str×Az))(doc pm:V9)(c:Az)(ct:V9):FuncData:=
 {name:=S.name,qualname:=S.qual,params:=S.params,body:=S.body,scope:=S.scope,globals:=mainGlobals,closure:=cl,defaults:=.none,kwdefaults:=.none,doc:=doc,pyModule:=pm,annotations:=none,code:=.ref c,closureTuple:=ct,builtins:=builtinsNs}
abbrev ClSt.obj(S:ClSt)(cl:List (Str×Az))(doc pm:V9)(c:Az)(ct:V9):Obj:={cls:=.type "function",data:=.func (S.fd cl doc pm c ct)}
structure ClOf(cells:List (Str×Az))(sc:Scope)(cl:List (Str×Az)):Prop where
 of:∀ x c,cl.lookup x=some c->cells.lookup x=some c
 all:∀ x∈sc.names,x.2=.free->∃ c,cl.lookup x.1=some c
 only:∀ x c,cl.lookup x=some c->(x,NameKind.free)∈sc.names
structure Tb(mg:Str->Option V9)(base:Heap)(c0 P0:Az):Prop where
 hd:PySem.W.CodeHd base c0 P0
 bt:∃ bm ob,mg "__builtins__"=some (.ref bm)/\bm≠builtinsNs/\base.get? bm=some ob/\ob.cls=.type "module"/\ob.dict=some builtinsNs/\ob.data=.plain
end L2
namespace Fl
open L2 PyProof.Rows
mutual
noncomputable def jR:Dz->Bool
 | .none=>true
 | .int _=>true
 | .str x=>PyData.strOk x
 | .tuple xs=>iQ xs
 | _=>false
noncomputable def iQ:List Dz->Bool
 | []=>true
 | x::t=>jR x && iQ t
end
mutual
noncomputable def kD(w:W9):Dz->Int
 | .none=>reduceHash 0xFCA86420
 | .int i=>hashInt i
 | .str x=>hashStr w x
 | .tuple xs=>reduceHash (Builtin.Tuple.tupleHashOf (oH w xs))
 | _=>0
noncomputable def oH(w:W9):List Dz->List Int
 | []=>[]
 | x::t=>kD w x::oH w t
end
mutual
noncomputable def jG:Dz->Nat
 | .tuple xs=>oN xs+1
 | _=>1
noncomputable def oN:List Dz->Nat
 | []=>0
 | x::t=>jG x+oN t
end
mutual
theorem qG:∀ {d:Dz},jR d=true->d.canLay0=true
 | .none,_=>rfl
 | .int _,_=>rfl
 | .str x,h=>h
 | .tuple xs,h=>by
  have h':iQ xs=true:=h
  exact aDX h'
theorem aDX:∀ {xs:List Dz},iQ xs=true->PyData.canLayAll0 xs=true
 | [],_=>rfl
 | x::t,h=>by
  have h':(jR x && iQ t)=true:=h
  rw[BD] at h'
  show (x.canLay0 && PyData.canLayAll0 t)=true
  rw[qG h'.1,aDX h'.2];rfl
end
mutual
theorem zV:∀ {d e:Dz},jR d=true->jR e=true->(PyData.eqv d e=true↔d=e)
 | .none,e,_,he=>by cases e<;>simp[PyData.eqv]<;>cases he
 | .int i,e,_,he=>by cases e<;>simp[PyData.eqv]<;>cases he
 | .str x,e,_,he=>by cases e<;>simp[PyData.eqv]<;>cases he
 | .tuple xs,e,hd,he=>by
  have hd':iQ xs=true:=hd
  cases e with
  | tuple ys=>
   have a:iQ ys=true:=he
   have:=aDY hd' a
   show PyData.eqvAll xs ys=true↔_
   rw[this]
   exact ⟨fun z=>by rw[z],fun z=>by cases z;rfl⟩
  | _=>simp[PyData.eqv]<;>cases he
theorem aDY:∀ {xs ys:List Dz},iQ xs=true->iQ ys=true->(PyData.eqvAll xs ys=true↔xs=ys)
 | [],ys,_,_=>by cases ys<;>simp[PyData.eqvAll]
 | x::t,ys,hx,hy=>by
  have hx':(jR x && iQ t)=true:=hx
  rw[BD] at hx'
  cases ys with
  | nil=>simp[PyData.eqvAll]
  | cons y u=>
   have c:(jR y && iQ u)=true:=hy
   rw[BD] at c
   rw[PyData.eqvAll,BD,zV hx'.1 c.1,aDY hx'.2 c.2]
   exact ⟨fun ⟨a,b⟩=>by rw[a,b],fun z=>by cases z;exact ⟨rfl,rfl⟩⟩
end
noncomputable instance decPyData:DecidableEq Dz:=fun a b=>Classical.propDecidable (a=b)
theorem aPA{d e:Dz}(a:jR d=true)(b:jR e=true):PyData.eqv d e=decide (d=e):=by
 by_cases h:d=e
 .rw[AT h,(zV a b).mpr h]
 .rw[AW h]
  cases q:PyData.eqv d e with
  | false=>rfl
  | true=>exact absurd ((zV a b).mp q) h
theorem aH6(xs:List Dz):jG (.tuple xs)=oN xs+1:=by rw[jG]
theorem aBK(A:U9):A.in1.units=A.units+1:=rfl
def nR(prog:P9)(w:W9)(E:V9->S9->Prop)(d:Dz):Prop:=∀ (v:V9) (as:List Az) (A:U9) (s:S9) (Q:Int->S9->Prop),jR d=true->Reads s.heap v d as->A.units+d.depth < cLine->Q (kD w d) {s with toks:=s.toks+jG d}->
 wpAny (model prog w) A (pyHash v) Q E s
theorem aRS{prog:P9}{w:W9}{E:V9->S9->Prop}:∀ (xs:List Dz) (ih:∀ x∈xs,nR prog w E x) (vs:List V9) (as:List Az) (A:U9) (s:S9) (b:Array Int) (Q:Array Int->S9->Prop),iQ xs=true->ReadsAll s.heap vs xs as->A.units+PyData.depthAll xs < cLine->
  (∀ b',b'.toList=b.toList++oH w xs->Q b' {s with toks:=s.toks+oN xs})->
  wpAny (model prog w) A (forIn vs b fun x r=>do let h <-pyHash x;pure PUnit.unit;pure (ForInStep.yield (r.push h))) Q E s:=by
 intro xs
 induction xs with
 | nil=>
  intro ih vs as A s b Q _ x _ h
  cases x
  exact A1 (h b (by simp[oH]))
 | cons k xs ih0=>
  intro ih vs as A s b Q d x g h
  cases x with
  | @cons v vs _ _ as bs x1 x2=>
   have a:(jR k && iQ xs)=true:=d
   rw[BD] at a
   have e:A.units+max k.depth (PyData.depthAll xs) < cLine:=g
   rw[EH]
   refine AD (AD (ih k BI _ _ A s _ a.1 x1 (by omega) ?_))
   refine AD (A1 (A1 ?_))
   refine ih0 (fun x f=>ih x (A9 _ f)) _ _ A {s with toks:=s.toks+jG k} _ Q a.2 x2 (by omega) fun b' c=>?_
   have q:=h b' (by rw[c];simp[oH])
   rw[show oN (k::xs)=jG k+oN xs by rw[oN],<-Nat.add_assoc] at q
   exact q
theorem aBL(w:W9)(i:Int):kD w (.int i)=hashInt i:=by rw[kD]
theorem aBM(w:W9)(i:Str):kD w (.str i)=hashStr w i:=by rw[kD]
theorem aJ6(w:W9)(xs:List Dz):kD w (.tuple xs)=reduceHash (Builtin.Tuple.tupleHashOf (oH w xs)):=by rw[kD]
theorem aH7(i:Int):jG (.int i)=1:=by unfold jG;rfl
theorem aH8(i:Str):jG (.str i)=1:=by unfold jG;rfl
theorem aMG{prog:P9}{w:W9}{E:V9->S9->Prop}(i:Int):nR prog w E (.int i):=fun v a A s Q _ r _ h=>by
 rw[aBL,aH7] at h
 cases r
 exact wpAny_pyHash_int h
theorem aMH{prog:P9}{w:W9}{E:V9->S9->Prop}(i:Str):nR prog w E (.str i):=fun v a A s Q _ r _ h=>by
 rw[aBM,aH8] at h
 cases r
 exact wpAny_pyHash_str h
theorem aMI{prog:P9}{w:W9}{E:V9->S9->Prop}(xs:List Dz)(f:∀ x∈xs,nR prog w E x):nR prog w E (.tuple xs):=fun v d A s Q g r j h=>by
 rw[aJ6,aH6] at h
 cases r with
 | @tuple a o vs n _ d h1 h2 h3 h4=>
  have c:iQ xs=true:=g
  have i:A.units+(PyData.depthAll xs+1) < cLine:=j
  refine PySem.W.pyHash_slot (T:="tuple") ⟨o,h1,h2⟩ F.slot_tuple_hash F.entry_tuple_hash (F.args_tuple_hash_1 _) (beq_builtin_none _) (.inr (by omega)) ?_
  show wpAny _ _ (Builtin.Tuple.tupleItemsOf (.ref a) >>= _) _ _ s
  refine AD (wpAny_tupleItemsOf h1 h3 ?_)
  refine AD ?_
  rw[<-Array.forIn_toList]
  refine aRS xs f vs.toList d A.in1 s #[] _ c h4 (by rw[aBK];omega) fun b e=>?_
  show wpAny _ _ (retInt (Builtin.Tuple.tupleHashOf b.toList)) _ _ _
  rw[e]
  exact AD (wpAny_mkInt (A1 ⟨_,_,rfl,h⟩))
theorem aH9(w:W9):kD w .none=reduceHash 0xFCA86420:=by rw[kD]
theorem aFT:jG .none=1:=by unfold jG;rfl
theorem aMJ{prog:P9}{w:W9}{E:V9->S9->Prop}:nR prog w E .none:=fun v b A s Q _ r c h=>by
 rw[aH9,aFT] at h
 generalize a:reduceHash 0xFCA86420=g at h
 cases r
 refine PySem.W.pyHash_slot (T:="NoneType") rfl F.slot_NoneType_hash F.entry_NoneType_hash (F.args_NoneType_hash_1 _) (beq_builtin_none _) (.inr (by omega)) (AD (A1 (AD (wpAny_mkInt (A1 ⟨0xFCA86420,_,rfl,?_⟩)))))
 rw[a]
 exact h
theorem aRT{prog:P9}{w:W9}{E:V9->S9->Prop}:∀ (n:Nat) (d:Dz),sizeOf d<=n->nR prog w E d:=by
 intro n
 induction n with
 | zero=>intro d h;cases d<;>simp at h
 | succ n ih=>
  intro d h
  cases d with
  | none=>exact aMJ
  | int i=>exact aMG i
  | str x=>exact aMH x
  | tuple xs=>
   refine aMI xs fun x e=>ih x ?_
   have:=List.sizeOf_lt_of_mem e
   simp only[PyData.tuple.sizeOf_spec] at h
   omega
  | bool b=>exact fun v c A s Q a=>nomatch a
  | list xs=>exact fun v c A s Q a=>nomatch a
  | dict xs=>exact fun v c A s Q a=>nomatch a
theorem aRU{prog:P9}{w:W9}{E:V9->S9->Prop}(d:Dz):nR prog w E d:=aRT (sizeOf d) d (A2 _)
theorem aPB{M:Model}{A:U9}{E:V9->S9->Prop}{s:S9}:∀ (n:Nat) (d:Dz) (v:V9) (as:List Az) (Q:Bool->S9->Prop),jR d=true->Reads s.heap v d as->d.depth<=n->Q true s->wpAny M A (eqIsQuiet n v) Q E s:=by
 intro n
 induction n with
 | zero=>
  intro d v as Q c r j h
  cases d with
  | none=>cases r;rw[DQ _ rfl];exact A1 h
  | int i=>cases r;rw[DQ _ rfl];exact A1 h
  | str x=>cases r;rw[DQ _ rfl];exact A1 h
  | tuple xs=>
   have g:PyData.depthAll xs+1<=0:=j
   omega
  | bool b=>exact nomatch c
  | list xs=>exact nomatch c
  | dict xs=>exact nomatch c
 | succ n ih=>
  intro d v as Q c r j h
  cases d with
  | none=>cases r;rw[DQ _ rfl];exact A1 h
  | int i=>cases r;rw[DQ _ rfl];exact A1 h
  | str x=>cases r;rw[DQ _ rfl];exact A1 h
  | bool b=>exact nomatch c
  | list xs=>exact nomatch c
  | dict xs=>exact nomatch c
  | tuple xs=>
   cases r with
   | @tuple a o vs m _ as h1 h2 h3 h4=>
    have f:iQ xs=true:=c
    have g:PyData.depthAll xs+1<=n+1:=j
    have l:s.TypeIs (.ref a) "tuple":=⟨o,h1,h2⟩
    unfold eqIsQuiet
    refine AD (wpAny_specialOf l F.slot_tuple_eq.lookup ?_)
    show wpAny _ _ (isInstance (.ref a) (.type "tuple") >>= _) _ _ s
    refine AD (wpAny_isInstance l isSubtype_tuple_tuple ?_)
    simp only[EW,A7,BQ]
    refine AD (C8 h1 h3 ?_)
    refine AD ?_
    show wpAny _ _ (forIn vs _ _) _ _ s
    rw[<-Array.forIn_toList]
    refine wpAny_forIn_list _ (fun rest r s'=>r.1=none/\s'=s/\∃ ys bs,iQ ys=true/\PyData.depthAll ys<=n/\ReadsAll s.heap rest ys bs) _ ?_ ?_ _ _ ⟨rfl,rfl,xs,_,f,by omega,h4⟩
    .rintro v rest r s' ⟨hr,rfl,ys,bs,hy,hdy,ry⟩
     cases ry with
     | @cons _ _ y yt cs ds r1 r2=>
      have e:(jR y && iQ yt)=true:=hy
      rw[BD] at e
      have k:max y.depth (PyData.depthAll yt)<=n:=hdy
      refine AD (ih y v _ _ e.1 r1 (by omega) ?_)
      simp only[EW,A7,BQ]
      exact A1 ⟨rfl,rfl,yt,_,e.2,by omega,r2⟩
    .rintro ⟨r1,r2⟩ s' ⟨hr,rfl,_⟩
     simp only at hr
     subst hr
     exact A1 h
def aU2(h:Hz)(d:Dz)(a:Az):Prop:=jR d=true/\d.depth<=8/\∃ as,Reads h (.ref a) d as
theorem aIA{h h':Hz}{a:Az}{o:Obj}{es:Array DictEntry}{w:Nat}(m:h.get? a=some o)(u:o.data=.dict es w)(p:Heap.SameBut a h h'){v:V9}{d:Dz}{e:List Az}(c:jR d=true)(r:Reads h v d e):Reads h' v d e:=by
 refine Reads.rec (motive_1:=fun v d e _=>jR d=true->Reads h' v d e) (motive_2:=fun vs xs e _=>iQ xs=true->ReadsAll h' vs xs e) ?_ ?_ ?_ ?_ ?_ ?_ ?_ ?_ ?_ r c
 .exact fun _=>.none
 .intro b c;cases c
 .exact fun i t _=>.int i t
 .exact fun i t _=>.str i t
 .intro b o' vs n xs e h1 h2 f l g c;cases c
 .intro b o' vs n xs e h1 h2 f l g c
  exact .tuple ((p.2 b (fun z=>by subst z;rw[m] at h1;cases h1;rw[u] at f;cases f)).trans h1) h2 f (g c)
 .intro b o' s n q e bs h1 h2 f l x j k c;cases c
 .exact fun _=>.nil
 .intro v vs d ds e bs A y j k c
  exact .cons (j ((BD ..).mp c).1) (k ((BD ..).mp c).2)
noncomputable def mT(prog:P9)(w:W9):HeapKind prog w Dz where
 is:=aU2
 hash:=kD w
 draws:=jG
 room:=fun A=>A.units+9 < cLine
 inj:=fun {h a x y} hx hy=>by
  obtain ⟨k1,_,as,r1⟩:=hx
  obtain ⟨k2,_,bs,r2⟩:=hy
  exact PySem.SeqAt.Reads.unique x y _ _ _ (qG k1) r1 r2
 keeps:=fun {h h' k a d o es ep} hx ho hd hs=>by
  obtain ⟨k1,k2,as,r1⟩:=hx
  exact ⟨k1,k2,as,aIA ho hd hs k1 r1⟩
 pyHash:=fun {A E s k a Q} hu hk h=>by
  obtain ⟨k1,k2,as,r1⟩:=hk
  exact aRU k _ as A s Q k1 r1 (by omega) h
 eqBool:=fun {A E s x y a b Q} hu hx hy h=>by
  obtain ⟨k1,k2,as,r1⟩:=hx
  obtain ⟨l1,l2,bs,r2⟩:=hy
  refine PySem.SeqAt.eqAt_reads x y A s _ _ as bs r1 r2 (qG k1) (qG l1) ?_ prog w E Q ?_
  .have:min x.depth y.depth<=8:=BY (Nat.min_le_left _ _) k2
   omega
  .rw[aPA k1 l1];exact h
 quiet:=fun {A E s k a Q} hk h=>by
  obtain ⟨k1,k2,as,r1⟩:=hk
  exact aPB 8 k _ as Q k1 r1 k2 h
abbrev Ent:=Dz×V×V
def vF(w:W9)(p:Ent)(en:DictEntry):Prop:=en.hash=kD w p.1/\cB p.2.1 en.key/\cB p.2.2 en.val
def mU(w:W9)(a:Az)(es:List Ent)(ep:Nat):HO:=.ext fun h=>(a == sysModules)=false/\∃ o ar,h.get? a=some o/\o.ExactDict/\o.data=.dict ar ep/\Paired (vF w) es ar.toList
theorem zW{P:P9}{w:W9}{H:Hp}{h:Hz}{a:Az}{es:List Ent}{b:Nat}(d:(a == sysModules)=false)(c:∃ o ar,h.get? a=some o/\o.ExactDict/\o.data=.dict ar b/\Paired (vF w) es ar.toList):eH P w H h a (mU w a es b):=
 ⟨⟨d,c⟩,let ⟨o,_,e,_⟩:=c;⟨o,e⟩,fun h1 h2 ⟨q,o,es,e,r⟩ f=>⟨q,o,es,f _ e,r⟩⟩
noncomputable def wW:Dz->Bool
 | .tuple xs=>jR (.tuple xs) && decide ((PyData.tuple xs).depth<=8)
 | _=>false
noncomputable def aIB:Dz->Bool
 | .int _=>true
 | .str _=>true
 | _=>false
def kE(k:Dz)(ks:List Dz):Bool:=(wW k && ks.all wW) || (aIB k && ks.all aIB)
theorem aPC{d:Dz}(h:wW d=true):∃ xs,d=.tuple xs/\jR d=true/\d.depth<=8:=by
 cases d with
 | tuple xs=>
  have h':(jR (.tuple xs) && decide ((PyData.tuple xs).depth<=8))=true:=h
  rw[BD] at h'
  exact ⟨xs,rfl,h'.1,B0 h'.2⟩
 | _=>cases h
def mB:Key->Dz
 | .inl i=>.int i
 | .inr x=>.str x
theorem aGJ{d:Dz}(h:aIB d=true):∃ k,d=mB k:=by
 cases d with
 | int i=>exact ⟨.inl i,rfl⟩
 | str i=>exact ⟨.inr i,rfl⟩
 | _=>cases h
theorem aBN{a b:Key}(h:mB a=mB b):a=b:=by
 cases a<;>cases b<;>cases h<;>rfl
theorem aGK{K:Frag}{H:Hp}{v:V}{k:Key}(h:DatV K H v (mB k)):v=kV k:=by
 cases k with
 | inl i=>exact h.int_of
 | inr x=>exact h.str_of
theorem aDZ{P:P9}{w:W9}(k:Key):kD w (mB k)=(fO P w).hash k:=by
 cases k with
 | inl i=>exact aBL w i
 | inr x=>exact aBM w x
def zX:Ent->(Dz×Az×V9)->Prop:=fun e x=>e.1=x.1/\e.2.1=.ref x.2.1/\cB e.2.2 x.2.2
def zY:Ent->(Key×V9)->Prop:=fun e x=>e.1=mB x.1/\e.2.1=kV x.1/\cB e.2.2 x.2
theorem aJ7{P:P9}{w:W9}:∀ {es:List Ent} {ens:List DictEntry},Paired (vF w) es ens->(∀ e∈es,∃ b,e.2.1=.ref b)->∃ xs,ens=xs.map (entryOfKey (mT P w))/\Paired zX es xs
 | _,_,.nil,_=>⟨[],rfl,.nil⟩
 | e::es,en::ens,.cons h t,hb=>by
  obtain ⟨xs,h1,h2⟩:=aJ7 (P:=P) t fun e m=>hb e (A9 _ m)
  obtain ⟨b,c⟩:=hb e BI
  obtain ⟨k,j,l⟩:=h
  rw[c] at j
  obtain ⟨a,d,g⟩:=en
  have f:d=Value.ref b:=j
  have i:a=kD w e.1:=k
  subst f i
  exact ⟨(e.1,b,g)::xs,by rw[AI,h1];rfl,.cons ⟨rfl,c,l⟩ h2⟩
theorem aD0{P:P9}{w:W9}:∀ {es:List Ent} {xs:List (Dz×Az×V9)},Paired zX es xs->Paired (vF w) es (xs.map (entryOfKey (mT P w)))
 | _,_,.nil=>.nil
 | _,_,.cons h t=>.cons ⟨by rw[h.1];rfl,by rw[h.2.1];rfl,h.2.2⟩ (aD0 t)
theorem aJ8{P:P9}{w:W9}:∀ {es:List Ent} {ens:List DictEntry},Paired (vF w) es ens->(∀ e∈es,∃ k,e.1=mB k/\e.2.1=kV k)->∃ xs,Pairs (fO P w) ens xs/\Paired zY es xs/\∀ en∈ens,∃ k,(fO P w).is k en.key=true/\en.hash=(fO P w).hash k
 | _,_,.nil,_=>⟨[],.nil,.nil,fun _ h=>by cases h⟩
 | e::es,en::ens,.cons h t,hb=>by
  obtain ⟨xs,h1,h2,h3⟩:=aJ8 (P:=P) t fun e j=>hb e (A9 _ j)
  obtain ⟨k,a,b⟩:=hb e BI
  obtain ⟨f,i,g⟩:=h
  have hi:(fO P w).is k en.key=true:=aNY (by rw[<-b];exact i)
  refine ⟨(k,en.val)::xs,.cons hi rfl h1,.cons ⟨a,b,g⟩ h2,fun c d=>?_⟩
  rcases AY.mp d with z|z
  · subst z; exact ⟨k, hi, by rw [f, a, aDZ (P := P)]⟩
  · exact h3 c z
theorem aPD{P:P9}{w:W9}{k:Key}{v:V9}(h:(fO P w).is k v=true):cB (kV k) v:=by
 rcases keyIs_shape h with ⟨i,t,rfl,rfl⟩|⟨x,t,rfl,rfl⟩
 · exact ⟨t, rfl⟩
 · exact ⟨t, rfl⟩
theorem aD1{P:P9}{w:W9}:∀ {es:List Ent} {xs:List (Key×V9)} {ens:List DictEntry},Paired zY es xs->Pairs (fO P w) ens xs->(∀ en∈ens,∃ k,(fO P w).is k en.key=true/\en.hash=(fO P w).hash k)->Paired (vF w) es ens
 | _,_,_,.nil,.nil,_=>.nil
 | _,_,_,.cons h t,.cons p1 p2 ps,hk=>by
  obtain ⟨k,hk1,hk2⟩:=hk _ BI
  obtain rfl:=(fO P w).inj _ _ _ hk1 p1
  refine .cons ⟨by rw[hk2,h.1,aDZ (P:=P)],by rw[h.2.1];exact aPD hk1,by rw[p2];exact h.2.2⟩ (aD1 t ps fun en a=>hk en (A9 _ a))
noncomputable def atE(es:List Ent)(k:Dz):O6 V:=(es.find? fun e=>decide (e.1=k)).map (·.2.2)
noncomputable def t4(es:List Ent)(k:Dz)(kv v:V):List Ent:=if (atE es k).isSome then es.map (fun e=>if e.1=k then (e.1,e.2.1,v) else e) else es++[(k,kv,v)]
theorem x8{k:Dz}:∀ {es:List Ent} {xs:List (Dz×Az×V9)},Paired zX es xs->mN (atE es k) ((atKey xs k).map (·.2))
 | _,_,.nil=>trivial
 | e::es,x::xs,.cons h t=>by
  have ih:=x8 (k:=k) t
  unfold atE atKey at ih ⊢
  rw[DB,DB,h.1]
  by_cases q:x.1=k
  · rw [AT q]; exact h.2.2
  · rw [AW q]; exact ih
theorem x9{k:Key}:∀ {es:List Ent} {xs:List (Key×V9)},Paired zY es xs->mN (atE es (mB k)) (valueAt xs k)
 | _,_,.nil=>trivial
 | e::es,x::xs,.cons h t=>by
  have ih:=x9 (k:=k) t
  unfold atE valueAt at ih ⊢
  rw[DB,DB,h.1]
  by_cases q:x.1=k
  · rw [AT q, AT (by rw [q])]; exact h.2.2
  · rw [AW q, AW (fun z => q (aBN z))]; exact ih
theorem lY{o:O6 V}{u:O6 V9}(h:mN o u):o.isSome=u.isSome:=by
 cases o<;>cases u<;>first|rfl|exact h.elim
theorem rN{α β:Type}{f:α->β->Prop}{g:α->α}{k:β->β}(hg:∀ a b,f a b->f (g a) (k b)):∀ {xs:List α} {ys:List β},Paired f xs ys->Paired f (xs.map g) (ys.map k)
 | _,_,.nil=>.nil
 | _,_,.cons h t=>.cons (hg _ _ h) (rN hg t)
theorem rO{α β:Type}{f:α->β->Prop}{a:α}{b:β}(h:f a b):∀ {xs:List α} {ys:List β},Paired f xs ys->Paired f (xs++[a]) (ys++[b])
 | _,_,.nil=>.cons h .nil
 | _,_,.cons q t=>.cons q (rO h t)
theorem aTW{k:Dz}{b:Az}{v:V}{u:V9}{es:List Ent}{xs:List (Dz×Az×V9)}(r:cB v u)(h:Paired zX es xs):Paired zX (t4 es k (.ref b) v) (storedH xs k b u):=by
 have q:=lY (x8 (k:=k) h)
 rw[ES] at q
 unfold t4 storedH
 rw[q]
 cases (atKey xs k).isSome with
 | true=>
  rw[AA rfl,AA rfl]
  refine rN (fun e x a=>?_) h
  unfold putAt
  rw[a.1]
  by_cases z:x.1=k
  · rw [AA z, AA z]; exact ⟨rfl, a.2.1, r⟩
  · rw [AE z, AE z]; exact a
 | false=>rw[AE (by decide),AE (by decide)];exact rO ⟨rfl,rfl,r⟩ h
theorem aN0{k:Key}:∀ {xs:List (Key×V9)},xs.any (fun kv=>decide (kv.1=k))=(valueAt xs k).isSome
 | []=>rfl
 | x::xs=>by
  have ih:=aN0 (k:=k) (xs:=xs)
  unfold valueAt at ih ⊢
  rw[List.any_cons,DB]
  by_cases q:x.1=k
  · rw [AT q]; rfl
  · rw [AW q, Bool.false_or]; exact ih
theorem aTX{k:Key}{v:V}{u:V9}{es:List Ent}{xs:List (Key×V9)}(r:cB v u)(h:Paired zY es xs):Paired zY (t4 es (mB k) (kV k) v) (stored xs k u):=by
 have q:=lY (x9 (k:=k) h)
 unfold t4 stored
 rw[q,aN0]
 cases (valueAt xs k).isSome with
 | true=>
  rw[AA rfl,AA rfl]
  refine rN (fun e x a=>?_) h
  by_cases z:x.1=k
  · rw [AA z, AA (by rw [a.1, z])]; exact ⟨by rw [a.1], a.2.1, r⟩
  · rw [AE z, AE (fun y => z (aBN (a.1.symm.trans y)))]; exact a
 | false=>rw[AE (by decide),AE (by decide)];exact rO ⟨rfl,rfl,r⟩ h
section
variable{X:Cx}{a5:List (Az×Obj)}{σ:L2.St}{H:Hp}{s:S9}{a:Az}{es:List Ent}{k:Dz}{kv v:V}{ku u:V9}{A:U9}{E:V9->S9->Prop}
structure DicAt(X:Cx)(H:Hp)(a:Az)(es:List Ent)(k:Dz)(kv:V):Prop where
 o:∃ ep,H a=some (mU X.w a es ep)
 ks:∀ e∈es,DatV X.K H e.2.1 e.1
 nd:(es.map (·.1)).Nodup
 dk:DatV X.K H kv k
 one:kE k (es.map (·.1))=true
theorem yA{α β:Type}{f:α->β->Prop}{y:β}:∀ {xs:List α} {ys:List β},Paired f xs ys->y∈ys->∃ x,x∈xs/\f x y
 | _,_,.nil,h=>by cases h
 | _,_,.cons q t,h=>by
  rcases AY.mp h with z|z
  .subst z;exact ⟨_,BI,q⟩
  .obtain ⟨x,h1,h2⟩:=yA t z
   exact ⟨x,A9 _ h1,h2⟩
theorem rP{α β γ:Type}{f:α->β->Prop}{g:α->γ}{k:β->γ}(h:∀ a b,f a b->g a=k b):∀ {xs:List α} {ys:List β},Paired f xs ys->xs.map g=ys.map k
 | _,_,.nil=>rfl
 | _,_,.cons q t=>by rw[AI,AI,h _ _ q,rP h t]
theorem aBO{α β:Type}{f:α->β}:∀ {xs:List α},(xs.map f).Nodup->xs.Nodup
 | [],_=>DG
 | x::t,h=>by
  rw[AI,CN] at h
  exact CN.mpr ⟨fun z=>h.1 (EG z),aBO h.2⟩
theorem DicAt.cases (D : DicAt X H a es k kv) (I : Inv X a5 σ H s) (J : cB kv ku) : (a == sysModules) = false /\
    ((∃ b xs, kv = .ref b /\ ku = .ref b /\ Paired zX es xs /\ (mT X.prog X.w).is s.heap k b /\ s.heap.DictOfH (mT X.prog X.w) a xs) \/
     (∃ kk xs, k = mB kk /\ kv = kV kk /\ Paired zY es xs /\ (fO X.prog X.w).is kk ku = true /\ s.heap.DictOf (fO X.prog X.w) a xs)) := by
  obtain ⟨F, R⟩ := D.o
  obtain ⟨⟨C, o, N, h1, h2, L, O⟩, _, _⟩ := (show eH X.prog X.w H s.heap a (mU X.w a es F) from I.hok a _ R)
  refine ⟨C, ?_⟩
  have f := D.one
  unfold kE at f
  rw [E7, BD, BD, C5, C5] at f
  rcases f with ⟨E, y⟩ | ⟨E, y⟩
  · have l : ∀ (d : Dz) (v : V), wW d = true -> DatV X.K H v d -> ∃ j, v = .ref j /\ (mT X.prog X.w).is s.heap d j := fun d v C M => by
      obtain ⟨Y, rfl, G, Q⟩ := aPC C
      obtain ⟨j, vs, rfl, _, _⟩ := M.tup_of
      obtain ⟨T, r⟩ := M.reads I (qG G) (u := .ref j) rfl
      exact ⟨j, rfl, G, Q, T, r⟩
    obtain ⟨b, rfl, z⟩ := l _ _ E D.dk
    cases (show ku = Value.ref b from J)
    obtain ⟨xs, m, c⟩ := aJ7 (P := X.prog) O fun e i => by
      obtain ⟨j, e1, _⟩ := l e.1 e.2.1 (y _ (EG i)) (D.ks e i)
      exact ⟨j, e1⟩
    refine .inl ⟨b, xs, rfl, rfl, c, z, o, N, F, h1, h2, L, m, fun x U => ?_, ?_⟩
    · obtain ⟨e, i, p⟩ := yA c U
      obtain ⟨j, e1, q⟩ := l e.1 e.2.1 (y _ (EG i)) (D.ks e i)
      rw [p.2.1] at e1
      cases e1
      rw [<- p.1]; exact q
    · rw [<- rP (g := fun e : Ent => e.1) (fun a b h => h.1) c]; exact D.nd
  · obtain ⟨kk, rfl⟩ := aGJ E
    have t := aGK D.dk
    obtain ⟨xs, m, c, B⟩ := aJ8 (P := X.prog) O fun e i => by
      obtain ⟨S, n⟩ := aGJ (y _ (EG i))
      have q := D.ks e i
      rw [n] at q
      exact ⟨S, n, aGK q⟩
    refine .inr ⟨kk, xs, rfl, t, c, aNY (by rw [<- t]; exact J), o, N, F, h1, h2, L, fun W A => B W (by simpa using A), m, ?_⟩
    have : es.map (·.1) = (xs.map (·.1)).map mB := by rw [BL]; exact rP (g := fun e : Ent => e.1) (fun a b h => h.1) c
    have nd := D.nd
    rw [this] at nd
    exact aBO nd
theorem t5{A:U9}(a:A.units+64 < cLine):(mT X.prog X.w).room A.in1:=by show A.in1.units+9 < cLine;rw[aBK];omega
theorem aRV{Q:V9->S9->Prop}(i:A.units+64 < cLine)(D:DicAt X H a es k kv)(I:Inv X a5 σ H s)(g:cB kv ku)(h:∀ s',Inv X a5 σ H s'->Q (.bool (atE es k).isSome) s'):wpAny (model X.prog X.w) A (compareOp .In ku (.ref a)) Q E s:=by
 obtain ⟨e,⟨b,xs,rfl,rfl,d,c,dd⟩|⟨f,xs,rfl,rfl,d,c,dd⟩⟩:=D.cases I g
 .refine wpAny_in_heap (t5 i) c e dd ?_
  have q:=lY (x8 (k:=k) d)
  rw[ES] at q
  rw[<-q];exact h _ (I.tok _)
 .refine wpAny_in_of c e dd.mapOf ?_
  rw[<-lY (x9 (k:=f) d)];exact h _ (I.tok _)
theorem aPE{Q:V9->S9->Prop}(i:A.units+64 < cLine)(D:DicAt X H a es k kv)(I:Inv X a5 σ H s)(g:cB kv ku)(h:∀ s',Inv X a5 σ H s'->Q (.bool (!(atE es k).isSome)) s'):wpAny (model X.prog X.w) A (compareOp .NotIn ku (.ref a)) Q E s:=by
 obtain ⟨e,⟨b,xs,rfl,rfl,d,c,dd⟩|⟨f,xs,rfl,rfl,d,c,dd⟩⟩:=D.cases I g
 .refine wpAny_notIn_heap (t5 i) c e dd ?_
  have q:=lY (x8 (k:=k) d)
  rw[ES] at q
  rw[<-q];exact h _ (I.tok _)
 .refine wpAny_notIn_of c e dd.mapOf ?_
  rw[<-lY (x9 (k:=f) d)];exact h _ (I.tok _)
theorem aPF{Q:Unit->S9->Prop}(C:A.units+64 < cLine)(D:DicAt X H a es k kv)(I:Inv X a5 σ H s)(B:cB kv ku)(t:cB v u)(y:es.length<=sizeLine)(h:∀ ep s',Inv X a5 σ (upd H a (mU X.w a (t4 es k kv v) ep)) s'->Q () s') :
  wpAny (model X.prog X.w) A (setItem (.ref a) ku u) Q E s:=by
 obtain ⟨z,⟨b,xs,rfl,rfl,f,r,dd⟩|⟨G,xs,rfl,rfl,f,r,dd⟩⟩:=D.cases I B
 .have n:xs.length<=sizeLine:=by rw[<-Paired.length f];exact y
  refine wpAny_setItem_heap (hsz:=n) (t5 C) r dd fun h' c m=>?_
  obtain ⟨e,l,ep,d,h2,i,p,_,x⟩:=c
  obtain ⟨j,g⟩:=D.o
  refine h ep _ (aGG I (by rw[g];exact True.intro) m ⟨e,d⟩ (zW z ⟨e,l,d,h2,i,?_⟩))
  rw[p]
  exact aD0 (aTW t f)
 .have n:xs.length<=sizeLine:=by rw[<-Paired.length f];exact y
  refine wpAny_setItem_pairs (hsz:=n) r dd fun h' c m=>?_
  obtain ⟨e,l,ep,d,h2,i,p,x,_⟩:=c
  obtain ⟨j,g⟩:=D.o
  refine h ep _ (aGG I (by rw[g];exact True.intro) m ⟨e,d⟩ (zW z ⟨e,l,d,h2,i,?_⟩))
  exact aD1 (aTX t f) x fun F q=>p F (by simpa using q)
end
structure Er where
 c:Str
 fs:List (Str×Dz)
inductive R(α:Type) where
 | bad|ok (a:α)|ex (e:Er)
noncomputable def R.bind{α β:Type}:R α->(α->R β)->R β
 | .bad,_=>.bad
 | .ok a,f=>f a
 | .ex e,_=>.ex e
@[simp] theorem R.bind_ok{α β:Type}(a:α)(f:α->R β):(R.ok a).bind f=f a:=id rfl
@[simp] theorem R.bind_bad{α β:Type}(f:α->R β):(R.bad:R α).bind f=.bad:=id rfl
@[simp] theorem R.bind_ex{α β:Type}(e:Er)(f:α->R β):(R.ex e:R α).bind f=.ex e:=id rfl
inductive A where
 | d (x:Dz)|l (xs:List Dz)|m (a6:List (Dz×Dz))|x (e:Er)|g (k n:Nat) (f:List Dz->R Dz)|k (q:Str)|f (a6:List (Dz×Dz))|o (e:Er)
abbrev Sg:=List (O6 A)
structure Gb where
 B:Az->Hp->Nat->Nat->(List Dz->R Dz)->Prop
 T:Hp
 w:World
structure Ct where
 K:Frag
 mg:Str->Option V9
 w:World
 F0:Hp
 H0:Hp
 g:Gb
 cells:List (Str×Az)
 cls:Str->Option ClSt
theorem aMK{w:W9}{p:Az}{es:List Ent}{a:Nat}{q:Str}(h:mU w p es a=.cod q):False:=by unfold mU at h;cases h
theorem eJ(H:Hp):bA H H:=fun _ _ h=>h
theorem cP{H H':Hp}(s:bA H H'){a:Az}(h:H' a=none):H a=none:=by
 cases e:H a with
 | none=>rfl
 | some o=>rw[s a o e] at h;cases h
def yB(H:Hp)(a:Az):Prop:=H a=none\/∃ q,H a=some (.cod q)
theorem yB.back{H H1:Hp}{a:Az}(s:bA H H1)(h:yB H1 a):yB H a:=by
 cases e:H a with
 | none=>exact .inl e
 | some o=>
  have e1:=s a o e
  rcases h with z|⟨q,z⟩
  · rw [e1] at z; cases z
  · rw [e1] at z; cases z; exact .inr ⟨q, e⟩
structure Ext(F H F' H':Hp):Prop where
 hh:bA H H'
 ff:bA F F'
 fh:bA F' H'
 nw:∀ a,F a=none->F' a≠none->yB H a
theorem Ext.refl{F H:Hp}(h:bA F H):Ext F H F H:=⟨eJ H,eJ F,h,fun a e n=>absurd e n⟩
theorem Ext.trans{F H c H1 d H2:Hp}(a:Ext F H c H1)(b:Ext c H1 d H2):Ext F H d H2:=
 ⟨fun x o e=>b.hh x o (a.hh x o e),fun x o e=>b.ff x o (a.ff x o e),b.fh,fun x e n=>by
  cases q:c x with
  | none=>exact (b.nw x q n).back a.hh
  | some o=>exact a.nw x e (by rw[q];exact fun z=>nomatch z)⟩
theorem Ext.stay{F H b H':Hp}(s:Ext F H b H'){p:Az}{o:HO}(c:F p=none)(h2:H p=some o)(a:∀ q,o≠.cod q):b p=none:=by
 cases q:b p with
 | none=>rfl
 | some o=>
  rcases s.nw p c (by rw[q];exact fun z=>nomatch z) with z|⟨d,z⟩
  · rw [z] at h2; cases h2
  · rw [z] at h2; cases h2; exact absurd rfl (a _)
theorem aML{F H:Hp}{p:Az}{o:HO}(s:bA F H):bA (upd F p o) (upd H p o):=fun a u e=>by
 by_cases q:a=p
 · subst q; rw [bQ] at e ⊢; exact e
 · rw [bB q] at e ⊢; exact s a u e
theorem Ext.new{F H:Hp}{p:Az}{o:HO}(s:bA F H)(b:H p=none):Ext F H (upd F p o) (upd H p o):=
 ⟨bA.upd b,bA.upd (cP s b),aML s,fun a e n=>by
  by_cases q:a=p
  · subst q; exact .inl b
  · rw [bB q] at n; exact absurd e n⟩
theorem Ext.own{F H:Hp}{p:Az}{o:HO}(s:bA F H)(b:H p=none):Ext F H F (upd H p o):=
 ⟨bA.upd b,eJ F,fun a u e=>by
  rw[bB (eM (s a u e) b)];exact s a u e,fun a e n=>absurd e n⟩
def rQ(K:Frag)(mg:Str->O6 V9)(F:Hp)(e:Er)(a C:Az):Prop:=mg e.c=some (.ref C)/\∃ od,F a=some (ExO a C od)/\((e.fs=[]/\od=none)\/∃ d fvs,od=some d/\F d=some (.xd fvs)/\fvs.map (·.1)=e.fs.map (·.1)/\DatVs K F (fvs.map (·.2)) (e.fs.map (·.2)))
theorem rQ.same{K:Frag}{mg:Str->O6 V9}{F b:Hp}{e:Er}{a C:Az}(s:bA F b)(h:rQ K mg F e a C):rQ K mg b e a C:=by
 obtain ⟨m,od,h1,h2⟩:=h
 refine ⟨m,od,s _ _ h1,h2.imp id ?_⟩
 rintro ⟨d,fvs,e1,e2,e3,e4⟩
 exact ⟨d,fvs,e1,s _ _ e2,e3,e4.same s⟩
def aIC(K:Frag)(mg:Str->O6 V9)(F:Hp)(e:Er)(a:Az):Prop:=∃ C dx fvs,mg e.c=some (.ref C)/\F a=some (.ins C dx fvs)/\fvs.map (·.1)=e.fs.map (·.1)/\DatVs K F (fvs.map (·.2)) (e.fs.map (·.2))
theorem aIC.same{K:Frag}{mg:Str->O6 V9}{F c:Hp}{e:Er}{a:Az}(s:bA F c)(h:aIC K mg F e a):aIC K mg c e a:=by
 obtain ⟨C,dx,b,h1,h2,f,d⟩:=h
 exact ⟨C,dx,b,h1,s _ _ h2,f,d.same s⟩
structure MapRel(K:Frag)(F:Hp)(es:List Ent)(a6:List (Dz×Dz)):Prop where
 k1:es.map (·.1)=a6.map (·.1)
 k2:DatVs K F (es.map (·.2.1)) (a6.map (·.1))
 vs:DatVs K F (es.map (·.2.2)) (a6.map (·.2))
 nd:(a6.map (·.1)).Nodup
theorem MapRel.same{K:Frag}{F b:Hp}{es:List Ent}{a:List (Dz×Dz)}(s:bA F b)(h:MapRel K F es a):MapRel K b es a:=⟨h.k1,h.k2.same s,h.vs.same s,h.nd⟩
def AF(g:Gb)(K:Frag)(mg:Str->O6 V9)(F:Hp):A->V->Prop
 | .d x,v=>DatV K F v x
 | .x e,v=>∃ a C,v=.ref a/\rQ K mg F e a C
 | .g k n G,v=>∃ f F1,v=.ref f/\bA F1 F/\g.B f F1 k n G
 | .f a6,v=>∃ p es,v=.ref p/\(∃ ep,F p=some (mU g.w p es ep))/\MapRel K F es a6
 | .o e,v=>∃ a,v=.ref a/\aIC K mg F e a
 | _,_=>False
theorem AF.same{g:Gb}{K:Frag}{mg:Str->O6 V9}{F F':Hp}(s:bA F F'):∀ {a:A} {v:V},AF g K mg F a v->AF g K mg F' a v
 | .d x,v,h=>DatV.same s h
 | .x e,v,⟨a,C,h1,h2⟩=>⟨a,C,h1,h2.same s⟩
 | .g k n G,v,⟨f,F1,h1,h2,h3⟩=>⟨f,F1,h1,fun a o z=>s a o (h2 a o z),h3⟩
 | .f a6,v,⟨p,es,h1,⟨ep,h2⟩,h3⟩=>⟨p,es,h1,⟨ep,s _ _ h2⟩,h3.same s⟩
 | .o e,v,⟨a,h1,h2⟩=>⟨a,h1,h2.same s⟩
noncomputable def A.own:A->Bool
 | .l _=>true
 | .m _=>true
 | _=>false
def AO(c:Ct)(F H:Hp):A->V->Prop
 | .l xs,v=>∃ p vs,v=.ref p/\H p=some (.lst vs)/\F p=none/\c.H0 p=none/\DatVs c.K F vs xs
 | .m a6,v=>∃ p es,v=.ref p/\(∃ ep,H p=some (mU c.w p es ep))/\F p=none/\c.H0 p=none/\MapRel c.K F es a6
 | .k q,v=>∃ S f cl doc pm cc ct,c.cls q=some S/\v=.ref f/\F f=some (FnO f (S.obj cl doc pm cc ct))/\F cc=some (.cod S.qual)/\ClOf c.cells S.scope cl
 | a,v=>AF c.g c.K c.mg F a v
theorem AO.ext{c:Ct}{F H b H':Hp}(s:Ext F H b H'):∀ {a:A} {v:V},AO c F H a v->AO c b H' a v
 | .d x,v,h=>DatV.same s.ff h
 | .x e,v,h=>AF.same (g:=c.g) (K:=c.K) (mg:=c.mg) (a:=.x e) s.ff h
 | .g k n G,v,h=>AF.same (g:=c.g) (K:=c.K) (mg:=c.mg) (a:=.g k n G) s.ff h
 | .f a6,v,h=>AF.same (g:=c.g) (K:=c.K) (mg:=c.mg) (a:=.f a6) s.ff h
 | .o e,v,h=>AF.same (g:=c.g) (K:=c.K) (mg:=c.mg) (a:=.o e) s.ff h
 | .k q,v,⟨S,f,cl,doc,pm,cc,ct,h0,h1,h2,h3,h4⟩=>⟨S,f,cl,doc,pm,cc,ct,h0,h1,s.ff _ _ h2,s.ff _ _ h3,h4⟩
 | .l xs,v,⟨p,vs,h1,h2,h3,h4,h5⟩=>⟨p,vs,h1,s.hh _ _ h2,s.stay h3 h2 (fun _ z=>nomatch z),h4,h5.same s.ff⟩
 | .m a6,v,⟨p,vs,h1,⟨ep,h2⟩,h3,h4,h5⟩=>⟨p,vs,h1,⟨ep,s.hh _ _ h2⟩,s.stay h3 h2 (fun _ z=>aMK z),h4,h5.same s.ff⟩
theorem AO.at{c:Ct}{F H:Hp}{a:A}{v:V}(h:AO c F H a v)(o:a.own=true):∃ p o,v=.ref p/\H p=some o/\F p=none/\c.H0 p=none:=by
 cases a with
 | l xs=>obtain ⟨p,vs,h1,h2,i,b,j⟩:=h;exact ⟨p,_,h1,h2,i,b⟩
 | m xs=>obtain ⟨p,vs,h1,⟨q,h2⟩,i,b,j⟩:=h;exact ⟨p,_,h1,h2,i,b⟩
 | d x=>cases o
 | x e=>cases o
 | g k n f=>cases o
 | k S=>cases o
 | f S=>cases o
 | o S=>cases o
theorem AO.off{c:Ct}{F H:Hp}{p:Az}{o:HO}:∀ {a:A} {v:V},AO c F H a v->v≠.ref p->AO c F (upd H p o) a v
 | .l xs,v,⟨q,vs,h1,h2,h3,h4,h5⟩,n=>⟨q,vs,h1,by rw[bB (fun z=>n (by rw[h1,z]))];exact h2,h3,h4,h5⟩
 | .m xs,v,⟨q,vs,h1,⟨ep,h2⟩,h3,h4,h5⟩,n=>⟨q,vs,h1,⟨ep,by rw[bB (fun z=>n (by rw[h1,z]))];exact h2⟩,h3,h4,h5⟩
 | .d x,v,h,_=>h
 | .x e,v,h,_=>h
 | .g k n G,v,h,_=>h
 | .k S,v,h,_=>h
 | .f S,v,h,_=>h
 | .o S,v,h,_=>h
structure Ab(c:Ct)(ρ:Sg)(σ:L2.St)(F H:Hp):Prop where
 len:ρ.length=σ.length
 fh:bA F H
 slot:∀ (i:Nat) (a:A),ρ[i]? = some (some a)->∃ v,σ[i]? = some (some v)/\AO c F H a v
 apart:∀ (i j:Nat) (a b:A),i≠j->ρ[i]? = some (some a)->ρ[j]? = some (some b)->a.own=true->b.own=true->σ[i]? ≠ σ[j]?
 f0:bA c.F0 F
 h0:bA c.H0 H
 n0:∀ a,c.F0 a=none->F a≠none->yB c.H0 a
 t0:bA c.g.T c.F0
theorem Ab.all{c:Ct}{ρ:Sg}{σ:L2.St}{F H:Hp}(b:Ab c ρ σ F H):Ext c.F0 c.H0 F H:=⟨b.h0,b.f0,b.fh,b.n0⟩
theorem Ab.ext{c:Ct}{ρ:Sg}{σ:L2.St}{F H d H':Hp}(b:Ab c ρ σ F H)(e:Ext F H d H'):Ab c ρ σ d H' where
 len:=b.len
 fh:=e.fh
 slot:=fun i a h=>let ⟨v,h1,h2⟩:=b.slot i a h;⟨v,h1,h2.ext e⟩
 apart:=b.apart
 f0:=fun x o h=>e.ff x o (b.f0 x o h)
 h0:=fun x o h=>e.hh x o (b.h0 x o h)
 n0:=fun a h n=>by
  cases q:F a with
  | none=>exact (e.nw a q n).back b.h0
  | some o=>exact b.n0 a h (by rw[q];exact fun z=>nomatch z)
 t0:=b.t0
def XW(c:Ct)(E:XK)(e:Er):Prop:=∀ a C F' H',Ext c.F0 c.H0 F' H'->rQ c.K c.mg F' e a C->E (.ref C) (some a) H'
def Rk{α:Type}(c:Ct)(E:XK)(F H:Hp)(r:R α)(k:α->Prop):Prop:=match r with
 | .bad=>False
 | .ok a=>k a
 | .ex e=>XW c E e
abbrev VR(α:Type):=α->V->Hp->Hp->Hp->Prop
def tV{α:Type}(Rel:VR α)(c:Ct)(E:XK)(f:Sg->R α):TE:=fun σ H Q=>∃ ρ F,Ab c ρ σ F H/\Rk c E F H (f ρ) fun d=>∀ v F' H',Ext F H F' H'->Rel d v H F' H'->Q v H'
def c9(c:Ct):VR Dz:=fun d v _ F _=>DatV c.K F v d
def bC(K:Frag)(F H:Hp)(v:V)(d:Dz):Prop:=DatV K F v d\/∃ p vs xs,v=.ref p/\d=.list xs/\H p=some (.lst vs)/\DatVs K F vs xs
def bH(c:Ct):VR Dz:=fun d v _ F H=>bC c.K F H v d
def aMM(c:Ct):VR A:=fun a v _ F _=>AF c.g c.K c.mg F a v
def zZ(c:Ct):VR (List Dz):=fun xs v H F H'=>∃ p vs,v=.ref p/\H p=none/\H' p=some (.lst vs)/\F p=none/\DatVs c.K F vs xs
abbrev PD(X:Cx)(c:Ct)(E:XK)(e:Ez)(f:Sg->R Dz):Prop:=PE X e (tV (c9 c) c E f)
abbrev PR(X:Cx)(c:Ct)(E:XK)(e:Ez)(f:Sg->R Dz):Prop:=PE X e (tV (bH c) c E f)
abbrev PV(X:Cx)(c:Ct)(E:XK)(e:Ez)(f:Sg->R A):Prop:=PE X e (tV (aMM c) c E f)
abbrev PN(X:Cx)(c:Ct)(E:XK)(e:Ez)(f:Sg->R (List Dz)):Prop:=PE X e (tV (zZ c) c E f)
theorem PE.imp{X:Cx}{e:Ez}{t t':TE}(h:PE X e t)(i:∀ σ H Q,t' σ H Q->t σ H Q):PE X e t':=fun a5 s σ H Q I q=>h a5 s σ H Q I (i σ H Q q)
theorem PT.imp{X:Cx}{e:Ez}{t t':TT}(h:PT X e t)(i:∀ σ H Q,t' σ H Q->t σ H Q):PT X e t':=fun a5 s σ H Q I q=>h a5 s σ H Q I (i σ H Q q)
theorem PS.imp{X:Cx}{e:Stmt}{t t':TS}(h:PS X e t)(i:∀ D σ H,t' D σ H->t D σ H):PS X e t':=fun a5 s σ H D I q=>h a5 s σ H D I (i D σ H q)
theorem PSs.imp{X:Cx}{e:List Stmt}{t t':TS}(h:PSs X e t)(i:∀ D σ H,t' D σ H->t D σ H):PSs X e t':=fun a5 s σ H D I q=>h a5 s σ H D I (i D σ H q)
def aN1{α:Type}(Rel:VR α):Prop:=∀ d v H F H1 F2 H2,Ext F H1 F2 H2->Rel d v H F H1->Rel d v H F2 H2
theorem bC.ext{K:Frag}{F H a H':Hp}{v:V}{d:Dz}(e:Ext F H a H')(h:bC K F H v d):bC K a H' v d:=by
 rcases h with h|⟨p,vs,xs,h1,h2,c,b⟩
 · exact .inl (h.same e.ff)
 · exact .inr ⟨p, vs, xs, h1, h2, e.hh _ _ c, b.same e.ff⟩
theorem t6(c:Ct):aN1 (bH c):=fun d v H F H1 a H2 e h=>bC.ext e h
theorem bC.heap{K:Frag}{F H:Hp}{v:V}{d:Dz}(s:bA F H)(h:bC K F H v d):DatV K H v d:=by
 rcases h with h|⟨p,vs,xs,h1,h2,a,b⟩
 · exact h.same s
 · subst h1 h2; exact .lst (SqL.of a) (b.same s)
section
variable{X:Cx}{c:Ct}{E:XK}{α β γ:Type}{Ra:VR α}{Rb:VR β}{Rc:VR γ}{σ:L2.St}{H:Hp}{Q:VK}
theorem Rk.ok{F:Hp}{a:α}{k:α->Prop}(h:Rk c E F H (.ok a) k):k a:=h
theorem Rk.imp{F:Hp}{r:R α}{k b:α->Prop}(h:Rk c E F H r k)(i:∀ a,r=.ok a->k a->b a):Rk c E F H r b:=by
 cases r with
 | bad=>exact h
 | ok a=>exact i a rfl h
 | ex e=>exact h
theorem Rk.bind{F:Hp}{r:R α}{f:α->R β}{k:β->Prop}(h:Rk c E F H (r.bind f) k):Rk c E F H r fun a=>Rk c E F H (f a) k:=by
 cases r with
 | bad=>exact h
 | ok a=>exact h
 | ex e=>exact h
theorem Rk.ext{F b H':Hp}{r:R α}{k:α->Prop}(e:Ext F H b H')(h:Rk c E F H r k):Rk c E b H' r k:=by
 cases r with
 | bad=>exact h
 | ok a=>exact h
 | ex x=>exact h
end
def aD2{α:Type}(Rel:VR α):Prop:=∀ d v H H1 F' H',bA H H1->Rel d v H1 F' H'->Rel d v H F' H'
theorem nG(c:Ct):aD2 (c9 c):=fun _ _ _ _ _ _ _ h=>h
theorem aTY(c:Ct):aD2 (zZ c):=fun _ _ _ _ _ _ s h=>by
 obtain ⟨p,vs,h1,h2,a⟩:=h
 exact ⟨p,vs,h1,cP s h2,a⟩
section
variable{X:Cx}{c:Ct}{E:XK}{α β γ:Type}{Ra:VR α}{Rb:VR β}{Rc:VR γ}
def Op1(c:Ct)(Ra:VR α)(Rb:VR β)(g:α->R β)(r:V->Hp->VK->Prop):Prop:=
 ∀ (H0 F H:Hp) (a:α) (b:β) (v:V) (Q:VK),bA F H->Ra a v H0 F H->g a=.ok b->(∀ w F' H',Ext F H F' H'->Rb b w H F' H'->Q w H')->r v H Q
def Op2(c:Ct)(Ra:VR α)(Rb:VR β)(Rc:VR γ)(g:α->β->R γ)(r:R2):Prop:=
 ∀ (H0 H1 F H:Hp) (a:α) (b:β) (d:γ) (v u:V) (Q:VK),bA F H->Ra a v H0 F H->Rb b u H1 F H->g a b=.ok d->(∀ w F' H',Ext F H F' H'->Rc d w H F' H'->Q w H')->r v u H Q
def qH(g:α->R β):Prop:=∀ a e,g a≠.ex e
def dM(g:α->β->R γ):Prop:=∀ a b e,g a b≠.ex e
theorem tV1{f:Sg->R α}{g:α->R β}{r:V->Hp->VK->Prop}(l:Op1 c Ra Rb g r)(m:qH g)(k:aD2 Rb){σ:L2.St}{H:Hp}{Q:VK}(h:tV Rb c E (fun ρ=>(f ρ).bind g) σ H Q) :
  tV Ra c E f σ H fun v H1=>r v H1 Q:=by
 obtain ⟨ρ,F,ab,h⟩:=h
 refine ⟨ρ,F,ab,(Rk.bind h).imp fun a p q v n H1 e1 j=>?_⟩
 cases d:g a with
 | bad=>rw[d] at q;exact q.elim
 | ex e=>exact absurd d (m a e)
 | ok b=>
  rw[d] at q
  exact l H n H1 a b v Q e1.fh j d fun w o H' e2 i=>q w o H' (e1.trans e2) (k _ _ _ _ _ _ e1.hh i)
theorem tV2{f:Sg->R α}{k:Sg->R β}{g:α->β->R γ}{r:R2}(n:Op2 c Ra Rb Rc g r)(s:dM g)(y:aN1 Ra)(m:aD2 Rc){σ:L2.St}{H:Hp}{Q:VK}(h:tV Rc c E (fun ρ=>(f ρ).bind fun a=>(k ρ).bind fun b=>g a b) σ H Q) :
  tOp r (tV Ra c E f) (tV Rb c E k) σ H Q:=by
 obtain ⟨ρ,F,ab,h⟩:=h
 refine ⟨ρ,F,ab,(Rk.bind h).imp fun a D q v t H1 e1 l=>?_⟩
 refine ⟨ρ,t,ab.ext e1,((Rk.bind q).ext e1).imp fun b G q u A H2 e2 p=>?_⟩
 cases i:g a b with
 | bad=>rw[i] at q;exact q.elim
 | ex e=>exact absurd i (s a b e)
 | ok d=>
  rw[i] at q
  exact n H H1 A H2 a b d v u Q e2.fh (y _ _ _ _ _ _ _ e2 l) p i fun w B H' C j=>q w B H' ((e1.trans e2).trans C) (m _ _ _ _ _ _ (fun x o z=>e2.hh x o (e1.hh x o z)) j)
end
section
variable{K:Frag}{F H:Hp}{v:V}
theorem DatV.bl_of{b:Bool}(h:DatV K H v (.bool b)):v=.bl b:=by cases h;rfl
theorem DatV.non_of(h:DatV K H v .none):v=.non:=by cases h;rfl
theorem bC.int_of{i:Int}(h:bC K F H v (.int i)):v=.int i:=by
 rcases h with h|⟨_,_,_,_,h,_⟩
 · exact h.int_of
 · cases h
theorem bC.str_of{i:Str}(h:bC K F H v (.str i)):v=.str i:=by
 rcases h with h|⟨_,_,_,_,h,_⟩
 · exact h.str_of
 · cases h
theorem bC.bl_of{i:Bool}(h:bC K F H v (.bool i)):v=.bl i:=by
 rcases h with h|⟨_,_,_,_,h,_⟩
 · exact DatV.bl_of h
 · cases h
theorem bC.non_of(h:bC K F H v .none):v=.non:=by
 rcases h with h|⟨_,_,_,_,h,_⟩
 · exact DatV.non_of h
 · cases h
theorem bC.tup_of{xs:List Dz}(s:bA F H)(h:bC K F H v (.tuple xs)):∃ a vs,v=.ref a/\SqT K F a vs/\SqT K H a vs/\DatVs K F vs xs:=by
 rcases h with h|⟨_,_,_,_,h,_⟩
 .obtain ⟨a,vs,h1,h2,b⟩:=h.tup_of
  exact ⟨a,vs,h1,h2,h2.same s,b⟩
 .cases h
theorem bC.lst_of{xs:List Dz}(s:bA F H)(h:bC K F H v (.list xs)):∃ a vs,v=.ref a/\SqL K H a vs/\DatVs K F vs xs:=by
 rcases h with h|⟨p,vs,ys,h1,h2,b,c⟩
 .obtain ⟨a,vs,h1,h2,b⟩:=h.lst_of
  exact ⟨a,vs,h1,h2.same s,b⟩
 .cases h2
  exact ⟨p,vs,h1,SqL.of b,c⟩
theorem aD3{vs:List V}{xs:List Dz}{i:Int}{d:Dz}(h:DatVs K F vs xs)(e:atI xs i=some d):∃ x,atI vs i=some x/\DatV K F x d:=by
 unfold atI at e ⊢
 rw[h.length]
 cases q:ixN xs.length i with
 | none=>rw[q] at e;cases e
 | some j=>
  rw[q] at e
  exact h.get' (i:=j) e
end
noncomputable def eV(i:Nat):Sg->R Dz:=fun ρ=>match ρ[i]? with
 | some (some (.d x))=>.ok x
 | _=>.bad
noncomputable def rV(i:Nat):Sg->R Dz:=fun ρ=>match ρ[i]? with
 | some (some (.d x))=>.ok x
 | some (some (.l xs))=>.ok (.list xs)
 | _=>.bad
noncomputable def vV(i:Nat):Sg->R A:=fun ρ=>match ρ[i]? with
 | some (some (.d x))=>.ok (.d x)
 | some (some (.x e))=>.ok (.x e)
 | some (some (.g k n f))=>.ok (.g k n f)
 | some (some (.f a6))=>.ok (.f a6)
 | _=>.bad
def eC(d:Dz):Sg->R Dz:=fun _=>.ok d
section
variable{X:Cx}{c:Ct}{E:XK}{e a b:Ez}
theorem bX{i:Nat}(h:PE X e (mP i)):PD X c E e (eV i):=PE.imp h fun σ H Q ⟨ρ,F,ab,k⟩=>by
 unfold eV at k
 split at k
 .rename_i x a
  obtain ⟨v,h1,h2⟩:=ab.slot i _ a
  exact ⟨v,h1,k v F H (Ext.refl ab.fh) h2⟩
 .exact k.elim
theorem aC{i:Nat}(h:PE X e (mP i)):PR X c E e (rV i):=PE.imp h fun σ H Q ⟨ρ,F,ab,k⟩=>by
 unfold rV at k
 split at k
 .rename_i x a
  obtain ⟨v,h1,h2⟩:=ab.slot i _ a
  exact ⟨v,h1,k v F H (Ext.refl ab.fh) (.inl h2)⟩
 .rename_i x a
  obtain ⟨v,h1,p,vs,h2,d,f,g,b⟩:=ab.slot i _ a
  exact ⟨v,h1,k v F H (Ext.refl ab.fh) (.inr ⟨p,vs,x,h2,rfl,d,b⟩)⟩
 .exact k.elim
theorem aJ{i:Nat}(h:PE X e (mP i)):PV X c E e (vV i):=PE.imp h fun σ H Q ⟨ρ,F,ab,k⟩=>by
 unfold vV at k
 split at k
 .rename_i x a
  obtain ⟨v,h1,h2⟩:=ab.slot i _ a
  exact ⟨v,h1,k v F H (Ext.refl ab.fh) h2⟩
 .rename_i x a
  obtain ⟨v,h1,h2⟩:=ab.slot i _ a
  exact ⟨v,h1,k v F H (Ext.refl ab.fh) h2⟩
 .rename_i d nn f a
  obtain ⟨v,h1,h2⟩:=ab.slot i _ a
  exact ⟨v,h1,k v F H (Ext.refl ab.fh) h2⟩
 .rename_i b a
  obtain ⟨v,h1,h2⟩:=ab.slot i _ a
  exact ⟨v,h1,k v F H (Ext.refl ab.fh) h2⟩
 .exact k.elim
theorem gK{v:V}{d:Dz}(h:PE X e (tC v))(a:∀ F,DatV c.K F v d):PD X c E e (eC d):=PE.imp h fun σ H Q ⟨ρ,F,ab,k⟩=>k v F H (Ext.refl ab.fh) (a F)
theorem aE{i j pos}:PD X c E (.Constant (.int i) j pos) (eC (.int i)):=gK aQW fun _=>.int i
theorem jD{i j pos}:PD X c E (.Constant (.bool i) j pos) (eC (.bool i)):=gK aTM fun _=>.bl i
theorem dJ{i j pos}:PD X c E (.Constant (.str i) j pos) (eC (.str i)):=gK aQY fun _=>.str i
theorem aD4{j pos}:PD X c E (.Constant .none j pos) (eC .none):=gK aQX fun _=>.non
theorem aA{f:Sg->R Dz}(h:PD X c E e f):PR X c E e f:=PE.imp h fun σ H Q ⟨ρ,F,ab,k⟩=>⟨ρ,F,ab,k.imp fun d _ q v a H' s r=>q v a H' s (.inl r)⟩
def vD(f:Sg->R Dz):Sg->R A:=fun ρ=>(f ρ).bind fun x=>.ok (.d x)
theorem aP{f:Sg->R Dz}(h:PD X c E e f):PV X c E e (vD f):=PE.imp h fun σ H Q ⟨ρ,F,ab,k⟩=>⟨ρ,F,ab,(Rk.bind k).imp fun d _ q v a H' s r=>Rk.ok q v a H' s r⟩
def getD:A->R Dz
 | .d x=>.ok x
 | _=>.bad
def eA(f:Sg->R A):Sg->R Dz:=fun ρ=>(f ρ).bind getD
theorem dF{f:Sg->R A}(h:PV X c E e f):PD X c E e (eA f):=PE.imp h fun σ H Q ⟨ρ,F,ab,k⟩=>⟨ρ,F,ab,(Rk.bind k).imp fun d _ q v a H' s r=>by
 cases d with
 | d x=>exact Rk.ok q v a H' s r
 | _=>exact False.elim q⟩
def eL(f:Sg->R (List Dz)):Sg->R Dz:=fun ρ=>(f ρ).bind fun xs=>.ok (.list xs)
theorem dD{f:Sg->R (List Dz)}(h:PN X c E e f):PD X c E e (eL f):=PE.imp h fun σ H Q ⟨ρ,F,ab,k⟩=>⟨ρ,F,ab,(Rk.bind k).imp fun xs _ q v i H' s r=>by
 obtain ⟨p,vs,h1,h2,d,b,g⟩:=r
 subst h1
 refine Rk.ok q (.ref p) (upd i p (.lst vs)) H' ⟨s.hh,fun a o z=>?_,fun a o z=>?_,fun a z n=>?_⟩ (.lst (SqL.of bQ) (g.same (bA.upd b)))
 .rw[bB (eM (s.ff a o z) b)];exact s.ff a o z
 .by_cases w:a=p
  · subst w; rw [bQ] at z; rw [d]; exact z
  · rw [bB w] at z; exact s.fh a o z
 .by_cases w:a=p
  · subst w; exact .inl h2
  · rw [bB w] at n; exact s.nw a z n⟩
def e1{α β:Type}(g:α->R β)(f:Sg->R α):Sg->R β:=fun ρ=>(f ρ).bind g
def e2{α β γ:Type}(g:α->β->R γ)(f:Sg->R α)(f':Sg->R β):Sg->R γ:=fun ρ=>(f ρ).bind fun x=>(f' ρ).bind fun y=>g x y
noncomputable def cR:Dz->Dz->R Dz
 | .int i,.int j=>.ok (.int (i+j))
 | .str x,.str y=>if x.length+y.length<=sizeLine then .ok (.str (x++y)) else .bad
 | .tuple xs,.tuple ys=>if xs.isEmpty=false/\xs.length+ys.length<=sizeLine then .ok (.tuple (xs++ys)) else .bad
 | _,_=>.bad
def dSub:Dz->Dz->R Dz
 | .int i,.int j=>.ok (.int (i - j))
 | _,_=>.bad
noncomputable def dMul:Dz->Dz->R Dz
 | .int i,.int j=>if (-18446744073709551616 < i/\i < 18446744073709551616)\/(-18446744073709551616 < j/\j < 18446744073709551616) then .ok (.int (i * j)) else .bad
 | _,_=>.bad
def dDiv:Dz->Dz->R Dz
 | .int i,.int j=>if 0 < j/\j < 18446744073709551616 then .ok (.int (i / j)) else .bad
 | _,_=>.bad
def dMod:Dz->Dz->R Dz
 | .int i,.int j=>if 0 < j then .ok (.int (i % j)) else .bad
 | _,_=>.bad
def dNeg:Dz->R Dz
 | .int i=>.ok (.int (-i))
 | _=>.bad
def dLt:Dz->Dz->R Dz
 | .int i,.int j=>.ok (.bool (decide (i < j)))
 | _,_=>.bad
def dLe:Dz->Dz->R Dz
 | .int i,.int j=>.ok (.bool (decide (i<=j)))
 | _,_=>.bad
def dGt:Dz->Dz->R Dz
 | .int i,.int j=>.ok (.bool (decide (j < i)))
 | _,_=>.bad
def dEq(x y:Dz):R Dz:=if SeqAt.shaped x=true/\SeqAt.shaped y=true then .ok (.bool (PyData.eqv x y)) else .bad
def dNe(x y:Dz):R Dz:=if SeqAt.shaped x=true/\SeqAt.shaped y=true then .ok (.bool (!PyData.eqv x y)) else .bad
def kY:Dz->Bool
 | .none=>true
 | _=>false
def dIs(x y:Dz):R Dz:=if kY y=true then .ok (.bool (kY x)) else .bad
def dIsnt(x y:Dz):R Dz:=if kY y=true then .ok (.bool (!kY x)) else .bad
noncomputable def inD:Dz->Dz->O6 Bool
 | .str i,.str j=>some (!(Builtin.Str.occurrences j i 0 j.length 1).isEmpty)
 | x,.list xs=>if SeqAt.shaped x=true/\SeqAt.shaped (.list xs)=true then some (xs.any fun y=>PyData.eqv y x) else none
 | x,.tuple xs=>if SeqAt.shaped x=true/\SeqAt.shaped (.tuple xs)=true then some (xs.any fun y=>PyData.eqv y x) else none
 | _,_=>none
def dIn(x y:Dz):R Dz:=match inD x y with
 | some b=>.ok (.bool b)
 | none=>.bad
def dNin(x y:Dz):R Dz:=match inD x y with
 | some b=>.ok (.bool (!b))
 | none=>.bad
noncomputable def dIx:Dz->Dz->R Dz
 | .list xs,.int i=>match atI xs i with
  | some v=>.ok v
  | none=>.bad
 | .tuple xs,.int i=>match atI xs i with
  | some v=>.ok v
  | none=>.bad
 | .str z,.int i=>if z.length<=sizeLine then match atI z.cps.toList i with
  | some u=>.ok (.str ⟨#[u]⟩)
  | none=>.bad else .bad
 | _,_=>.bad
end
section
variable{X:Cx}{c:Ct}{E:XK}{e a b:Ez}{α β γ:Type}{Ra:VR α}{Rb:VR β}{Rc:VR γ}{pos:Pos}
def r2D(Ra:VR α)(Rb:VR β)(Rc:VR γ)(g:α->β->R γ):R2:=fun v u H Q=>∃ H0 H1 F a b d,bA F H/\Ra a v H0 F H/\Rb b u H1 F H/\g a b=.ok d/\∀ w F' H',Ext F H F' H'->Rc d w H F' H'->Q w H'
def r1D(Ra:VR α)(Rb:VR β)(g:α->R β):V->Hp->VK->Prop:=fun v H Q=>∃ H0 F a b,bA F H/\Ra a v H0 F H/\g a=.ok b/\∀ w F' H',Ext F H F' H'->Rb b w H F' H'->Q w H'
theorem yC{g:α->β->R γ}:Op2 c Ra Rb Rc g (r2D Ra Rb Rc g):=fun h H1 F H a b d v u Q i e f j q=>⟨h,H1,F,a,b,d,i,e,f,j,q⟩
theorem aCU{g:α->R β}:Op1 c Ra Rb g (r1D Ra Rb g):=fun e F H a b v Q f d h q=>⟨e,F,a,b,f,d,h,q⟩
theorem aQ{d:Operator}{g:Dz->Dz->R Dz}{e fb:Sg->R Dz}(k:OpR X (binaryOp d) (r2D (bH c) (bH c) (c9 c) g))(f:dM g)(j:PR X c E a e)(i:PR X c E b fb):PD X c E (.BinOp a d b pos) (e2 g e fb):=
 PE.imp (aHM k j i) fun σ H Q h=>tV2 yC f (t6 c) (nG c) h
theorem iR{b:UnaryOp}{g:Dz->R Dz}{d:Sg->R Dz}(i:UnR X (unaryOp b) (r1D (bH c) (c9 c) g))(e:qH g)(f:PR X c E a d):PD X c E (.UnaryOp b a pos) (e1 g d):=
 PE.imp (aTP i f) fun σ H Q h=>tV1 aCU e (nG c) h
theorem fJ{d:CmpOp}{g:Dz->Dz->R Dz}{e fb:Sg->R Dz}(l:OpR X (compareOp d) (r2D (bH c) (bH c) (c9 c) g))(f:dM g)(j:PR X c E a e)(i:PR X c E b fb)(k:behindInMarks d b=false):PD X c E (.Compare a [d] [b] pos) (e2 g e fb):=
 PE.imp (aOQ l j i k) fun σ H Q h=>tV2 yC f (t6 c) (nG c) h
theorem aT{g:Dz->Dz->R Dz}{d fb:Sg->R Dz}(k:IxR X (r2D (bH c) (bH c) (c9 c) g))(f:dM g)(e:PR X c E a d)(i:PR X c E b fb)(j:aF9 b:=by exact fun _ _=>rfl):PD X c E (.Subscript a b pos) (e2 g d fb):=
 PE.imp (L2.aNV k e i j) fun σ H Q h=>tV2 yC f (t6 c) (nG c) h
theorem cD(G:X.K=c.K):OpR X (binaryOp .Add) (r2D (bH c) (bH c) (c9 c) cR):=by
 intro a5 s σ H v u x y Q I l o h
 obtain ⟨J,H1,F,a,b,d,f,m,n,e,q⟩:=h
 unfold cR at e
 split at e
 .rename_i i j
  cases e
  obtain rfl:=bC.int_of m
  obtain rfl:=bC.int_of n
  exact aQ4 a5 s σ H _ _ x y Q I l o ⟨i,j,rfl,rfl,q _ F H (Ext.refl f) (.int _)⟩
 .rename_i i j
  split at e
  .rename_i k
   cases e
   obtain rfl:=bC.str_of m
   obtain rfl:=bC.str_of n
   exact aHO a5 s σ H _ _ x y Q I l o ⟨i,j,rfl,rfl,k,q _ F H (Ext.refl f) (.str _)⟩
  .cases e
 .rename_i xs ys
  split at e
  .rename_i k
   cases e
   obtain ⟨C,vs,rfl,B,A,g⟩:=bC.tup_of f m
   obtain ⟨E,D,rfl,L,t,r⟩:=bC.tup_of f n
   rw[<-G] at A t
   refine aF8 a5 s σ H _ _ x y Q I l o ⟨C,E,vs,D,rfl,rfl,A,t,?_,by rw[g.length,r.length];exact k.2,fun z=>?_,fun z p w=>?_⟩
   .intro z;subst z;obtain rfl:xs=[]:=by cases g;rfl
    exact absurd k.1 (by decide)
   .subst z
    obtain rfl:ys=[]:=by cases r;rfl
    exact q _ F H (Ext.refl f) (by rw[CM];exact .tup B g)
   .exact q _ _ _ (Ext.new f w) (.tup (SqT.of bQ) ((g.append r).same (bA.upd (cP f w))))
  .cases e
 .cases e
theorem bO:dM cR:=by
 intro a b e h
 unfold cR at h
 split at h<;>(try split at h)<;>cases h
theorem oO{f:V9->V9->Sem V9}{g:Dz->Dz->R Dz}{C:Int->Int->Prop}{k:Int->Int->Dz}{kv:Int->Int->V}(e:OpR X f (rI C kv))(w:∀ i j F,DatV c.K F (kv i j) (k i j))
  (z:∀ a b d,g a b=.ok d->∃ i j,a=.int i/\b=.int j/\C i j/\d=k i j):OpR X f (r2D (bH c) (bH c) (c9 c) g):=by
 intro a5 s σ H v u x y Q I n r h
 obtain ⟨A,H1,F,a,b,d,l,o,p,m,q⟩:=h
 obtain ⟨i,j,rfl,rfl,t,rfl⟩:=z a b d m
 obtain rfl:=bC.int_of o
 obtain rfl:=bC.int_of p
 exact e a5 s σ H _ _ x y Q I n r ⟨i,j,rfl,rfl,t,q _ F H (Ext.refl l) (w i j F)⟩
theorem aCV{f:V9->V9->Sem V9}{kv:Int->Int->V}(c:OpR X f (rI0 kv)):OpR X f (rI (fun _ _=>True) kv):=fun a5 s σ H x y v u Q I b a ⟨i,j,h1,h2,_,q⟩=>c a5 s σ H x y v u Q I b a ⟨i,j,h1,h2,q⟩
theorem jH:OpR X (binaryOp .Sub) (r2D (bH c) (bH c) (c9 c) dSub):=oO (aCV aQ5) (fun _ _ _=>.int _) fun a b d h=>by
 unfold dSub at h;split at h
 · cases h; exact ⟨_, _, rfl, rfl, trivial, rfl⟩
 · cases h
theorem iT:OpR X (binaryOp .Mult) (r2D (bH c) (bH c) (c9 c) dMul):=oO aQ6 (fun _ _ _=>.int _) fun a b d h=>by
 unfold dMul at h;split at h
 .split at h
  · rename_i e; cases h; exact ⟨_, _, rfl, rfl, e, rfl⟩
  · cases h
 .cases h
theorem lZ:OpR X (binaryOp .FloorDiv) (r2D (bH c) (bH c) (c9 c) dDiv):=oO aL9 (fun _ _ _=>.int _) fun a b d h=>by
 unfold dDiv at h;split at h
 .split at h
  · rename_i e; cases h; exact ⟨_, _, rfl, rfl, e, rfl⟩
  · cases h
 .cases h
theorem cK:OpR X (binaryOp .Mod) (r2D (bH c) (bH c) (c9 c) dMod):=oO aQ7 (fun _ _ _=>.int _) fun a b d h=>by
 unfold dMod at h;split at h
 .split at h
  · rename_i e; cases h; exact ⟨_, _, rfl, rfl, e, rfl⟩
  · cases h
 .cases h
theorem yD:OpR X (compareOp .Lt) (r2D (bH c) (bH c) (c9 c) dLt):=oO (aCV aTQ) (fun _ _ _=>.bl _) fun a b d h=>by
 unfold dLt at h;split at h
 · cases h; exact ⟨_, _, rfl, rfl, trivial, rfl⟩
 · cases h
theorem aJ9:OpR X (compareOp .LtE) (r2D (bH c) (bH c) (c9 c) dLe):=oO (aCV aTR) (fun _ _ _=>.bl _) fun a b d h=>by
 unfold dLe at h;split at h
 · cases h; exact ⟨_, _, rfl, rfl, trivial, rfl⟩
 · cases h
theorem t7:OpR X (compareOp .Gt) (r2D (bH c) (bH c) (c9 c) dGt):=oO (aCV aTS) (fun _ _ _=>.bl _) fun a b d h=>by
 unfold dGt at h;split at h
 · cases h; exact ⟨_, _, rfl, rfl, trivial, rfl⟩
 · cases h
theorem gV:dM dSub:=by intro a b e h;unfold dSub at h;split at h<;>cases h
theorem gD:dM dMul:=by intro a b e h;unfold dMul at h;split at h<;>(try split at h)<;>cases h
theorem jO:dM dDiv:=by intro a b e h;unfold dDiv at h;split at h<;>(try split at h)<;>cases h
theorem bS:dM dMod:=by intro a b e h;unfold dMod at h;split at h<;>(try split at h)<;>cases h
theorem rR:dM dLt:=by intro a b e h;unfold dLt at h;split at h<;>cases h
theorem aD5:dM dLe:=by intro a b e h;unfold dLe at h;split at h<;>cases h
theorem oP:dM dGt:=by intro a b e h;unfold dGt at h;split at h<;>cases h
theorem b7:dM dEq:=by intro a b e h;unfold dEq at h;split at h<;>cases h
theorem i8:dM dNe:=by intro a b e h;unfold dNe at h;split at h<;>cases h
theorem yE:dM dIsnt:=by intro a b e h;unfold dIsnt at h;split at h<;>cases h
theorem aD6:dM dIn:=by intro a b e h;unfold dIn at h;split at h<;>cases h
theorem aKA:dM dNin:=by intro a b e h;unfold dNin at h;split at h<;>cases h
theorem dO:qH dNeg:=by intro a e h;unfold dNeg at h;split at h<;>cases h
theorem aI:dM dIx:=by
 intro a b e h
 unfold dIx at h
 split at h<;>(try split at h)<;>(try split at h)<;>cases h
theorem fG:UnR X (unaryOp .USub) (r1D (bH c) (c9 c) dNeg):=by
 intro a5 s σ H v x Q I g h
 obtain ⟨j,F,a,d,f,e,b,q⟩:=h
 unfold dNeg at b
 split at b
 .rename_i i
  cases b
  obtain rfl:=bC.int_of e
  exact aQ8 a5 s σ H _ x Q I g ⟨i,rfl,q _ F H (Ext.refl f) (.int _)⟩
 .cases b
theorem dA(g:X.K=c.K)(n:X.A.units+64 < cLine):OpR X (compareOp .Eq) (r2D (bH c) (bH c) (c9 c) dEq):=by
 intro a5 s σ H v u x y Q I m l h
 obtain ⟨o,H1,F,a,b,d,f,j,k,e,q⟩:=h
 unfold dEq at e
 split at e
 .rename_i i
  cases e
  exact aRL n a5 s σ H _ _ x y Q I m l ⟨a,b,by rw[g];exact bC.heap f j,by rw[g];exact bC.heap f k,i.1,i.2,q _ F H (Ext.refl f) (.bl _)⟩
 .cases e
theorem lF(g:X.K=c.K)(n:X.A.units+64 < cLine):OpR X (compareOp .NotEq) (r2D (bH c) (bH c) (c9 c) dNe):=by
 intro a5 s σ H v u x y Q I m l h
 obtain ⟨o,H1,F,a,b,d,f,j,k,e,q⟩:=h
 unfold dNe at e
 split at e
 .rename_i i
  cases e
  exact aRM n a5 s σ H _ _ x y Q I m l ⟨a,b,by rw[g];exact bC.heap f j,by rw[g];exact bC.heap f k,i.1,i.2,q _ F H (Ext.refl f) (.bl _)⟩
 .cases e
theorem aBP{K:Frag}{F H:Hp}{v:V}{d:Dz}(h:bC K F H v d):decide (v=.non)=kY d:=by
 rcases h with h|⟨p,vs,xs,h1,h2,_⟩
 · cases h <;> rfl
 · subst h1 h2; rfl
theorem aD7:OpR X (compareOp .IsNot) (r2D (bH c) (bH c) (c9 c) dIsnt):=by
 intro a5 s σ H v u x y Q I l i h
 obtain ⟨m,H1,F,a,b,d,j,f,g,e,q⟩:=h
 unfold dIsnt at e
 split at e
 .rename_i k
  cases e
  have e2:=aBP g
  rw[k] at e2
  refine aOP a5 s σ H _ _ x y Q I l i ⟨B0 e2,q _ F H (Ext.refl j) ?_⟩
  rw[aBP f];exact .bl _
 .cases e
theorem rS{xs:List Dz}(h:SeqAt.shaped (.list xs)=true):PyData.canLayAll0 xs=true/\PyData.depthAll xs<=63:=by
 have h':(PyData.canLay0 (.list xs) && decide ((PyData.list xs).depth<=64))=true:=h
 rw[BD] at h'
 have a:PyData.depthAll xs+1<=64:=B0 h'.2
 exact ⟨h'.1,by omega⟩
theorem wJ{xs:List Dz}(h:SeqAt.shaped (.tuple xs)=true):PyData.canLayAll0 xs=true/\PyData.depthAll xs<=63:=by
 have h':(PyData.canLay0 (.tuple xs) && decide ((PyData.tuple xs).depth<=64))=true:=h
 rw[BD] at h'
 have a:PyData.depthAll xs+1<=64:=B0 h'.2
 exact ⟨h'.1,by omega⟩
theorem eY{d:Dz}(h:SeqAt.shaped d=true):d.canLay0=true:=by
 have h':(PyData.canLay0 d && decide (d.depth<=64))=true:=h
 rw[BD] at h'
 exact h'.1
theorem inD_cases{x y:Dz}{b:Bool}(h:inD x y=some b):(∃ i j,x=.str i/\y=.str j/\b = !(Builtin.Str.occurrences j i 0 j.length 1).isEmpty) \/
  (∃ xs,y=.list xs/\SeqAt.shaped x=true/\SeqAt.shaped (.list xs)=true/\b=xs.any fun z=>PyData.eqv z x)\/(∃ xs,y=.tuple xs/\SeqAt.shaped x=true/\SeqAt.shaped (.tuple xs)=true/\b=xs.any fun z=>PyData.eqv z x):=by
 unfold inD at h
 split at h
 .cases h;exact .inl ⟨_,_,rfl,rfl,rfl⟩
 .split at h
  · rename_i a; cases h; exact .inr (.inl ⟨_, rfl, a.1, a.2, rfl⟩)
  · cases h
 .split at h
  · rename_i a; cases h; exact .inr (.inr ⟨_, rfl, a.1, a.2, rfl⟩)
  · cases h
 .cases h
theorem oQ{a b:Nat}(h:a<=63):min a b<=63:=BY (Nat.min_le_left _ _) h
theorem aKB(l:X.K=c.K)(D:X.A.units+64 < cLine):OpR X (compareOp .In) (r2D (bH c) (bH c) (c9 c) dIn):=by
 intro a5 s σ H v u x y Q I m r h
 obtain ⟨E,H1,F,a,b,d,e,o,p,k,q⟩:=h
 unfold dIn at k
 split at k
 .rename_i w z
  cases k
  have g:EP X a5 σ Q (.bool w) s:=⟨.bl w,H,I,rfl,q _ F H (Ext.refl e) (.bl _)⟩
  rcases inD_cases z with ⟨i,j,rfl,rfl,rfl⟩|⟨xs,rfl,h1,h2,rfl⟩|⟨xs,rfl,h1,h2,rfl⟩
  .obtain rfl:=bC.str_of o
   obtain rfl:=bC.str_of p
   exact aJI a5 s σ H _ _ x y Q I m r ⟨i,j,rfl,rfl,q _ F H (Ext.refl e) (.bl _)⟩
  .obtain ⟨B,t⟩:=DatV.reads I (by rw[l];exact bC.heap e o) (eY h1) m
   obtain ⟨bs,n⟩:=DatV.reads I (by rw[l];exact bC.heap e p) (eY h2) r
   have f:=rS h2
   have C:=oQ (b:=a.depth) f.2
   exact SeqAt.in_list_reads n t f.1 (eY h1) (by omega) g
  .obtain ⟨B,t⟩:=DatV.reads I (by rw[l];exact bC.heap e o) (eY h1) m
   obtain ⟨bs,n⟩:=DatV.reads I (by rw[l];exact bC.heap e p) (eY h2) r
   have f:=wJ h2
   have C:=oQ (b:=a.depth) f.2
   exact SeqAt.in_tuple_reads n t f.1 (eY h1) (by omega) g
 .cases k
theorem aPG(l:X.K=c.K)(C:X.A.units+64 < cLine):OpR X (compareOp .NotIn) (r2D (bH c) (bH c) (c9 c) dNin):=by
 intro a5 s σ H v u x y Q I m r h
 obtain ⟨D,H1,F,a,b,d,e,o,p,k,q⟩:=h
 unfold dNin at k
 split at k
 .rename_i bb w
  cases k
  have g:EP X a5 σ Q (.bool (!bb)) s:=⟨.bl (!bb),H,I,rfl,q _ F H (Ext.refl e) (.bl _)⟩
  rcases inD_cases w with ⟨i,j,rfl,rfl,rfl⟩|⟨xs,rfl,h1,h2,rfl⟩|⟨xs,rfl,h1,h2,rfl⟩
  .obtain rfl:=bC.str_of o
   obtain rfl:=bC.str_of p
   exact aDD a5 s σ H _ _ x y Q I m r ⟨i,j,rfl,rfl,q _ F H (Ext.refl e) (.bl _)⟩
  .obtain ⟨z,t⟩:=DatV.reads I (by rw[l];exact bC.heap e o) (eY h1) m
   obtain ⟨bs,n⟩:=DatV.reads I (by rw[l];exact bC.heap e p) (eY h2) r
   have f:=rS h2
   have B:=oQ (b:=a.depth) f.2
   exact SeqAt.notIn_list_reads n t f.1 (eY h1) (by omega) g
  .obtain ⟨z,t⟩:=DatV.reads I (by rw[l];exact bC.heap e o) (eY h1) m
   obtain ⟨bs,n⟩:=DatV.reads I (by rw[l];exact bC.heap e p) (eY h2) r
   have f:=wJ h2
   have B:=oQ (b:=a.depth) f.2
   exact SeqAt.notIn_tuple_reads n t f.1 (eY h1) (by omega) g
 .cases k
theorem aU(A:X.K=c.K):IxR X (r2D (bH c) (bH c) (c9 c) dIx):=by
 intro value e a5 s σ H v u x y Q I m t h k
 obtain ⟨C,H1,F,a,b,d,g,n,r,f,q⟩:=h
 unfold dIx at f
 split at f
 .rename_i xs i
  split at f
  .rename_i w j
   cases f
   obtain ⟨p,vs,rfl,h1,h2⟩:=bC.lst_of g n
   obtain rfl:=bC.int_of r
   obtain ⟨z,l,o⟩:=aD3 h2 j
   rw[<-A] at h1
   exact aGA value e a5 s σ H _ _ x y Q I m t ⟨p,vs,i,z,rfl,rfl,h1,l,q _ F H (Ext.refl g) o⟩ k
  .cases f
 .rename_i xs i
  split at f
  .rename_i w j
   cases f
   obtain ⟨p,vs,rfl,_,h1,h2⟩:=bC.tup_of g n
   obtain rfl:=bC.int_of r
   obtain ⟨z,l,o⟩:=aD3 h2 j
   rw[<-A] at h1
   exact aJN value e a5 s σ H _ _ x y Q I m t ⟨p,vs,i,z,rfl,rfl,h1,l,q _ F H (Ext.refl g) o⟩ k
  .cases f
 .rename_i z i
  split at f
  .rename_i B
   split at f
   .rename_i w j
    cases f
    obtain rfl:=bC.str_of n
    obtain rfl:=bC.int_of r
    exact aJO value e a5 s σ H _ _ x y Q I m t ⟨z,i,w,rfl,rfl,B,j,q _ F H (Ext.refl g) (.str _)⟩ k
   .cases f
  .cases f
 .cases f
def tTf(c:Ct)(E:XK)(f:Sg->R Bool):TT:=fun σ H Q=>∃ ρ F,Ab c ρ σ F H/\Rk c E F H (f ρ) fun b=>∀ F' H',Ext F H F' H'->Q b H'
abbrev PTf(X:Cx)(c:Ct)(E:XK)(e:Ez)(f:Sg->R Bool):Prop:=PT X e (tTf c E f)
def asB:Dz->R Bool
 | .bool b=>.ok b
 | _=>.bad
theorem vG{f:Sg->R Dz}{σ:L2.St}{H:Hp}{Q:Bool->Hp->Prop}(h:tTf c E (e1 asB f) σ H Q):tV (c9 c) c E f σ H fun x H'=>∃ k,x=.bl k/\Q k H':=by
 obtain ⟨ρ,F,ab,h⟩:=h
 refine ⟨ρ,F,ab,(Rk.bind h).imp fun d _ q v a H' s r=>?_⟩
 cases d with
 | bool b=>exact ⟨b,DatV.bl_of r,Rk.ok q a H' s⟩
 | _=>exact False.elim q
theorem cI{d:CmpOp}{g:Dz->Dz->R Dz}{e fb:Sg->R Dz}(l:OpR X (compareOp d) (r2D (bH c) (bH c) (c9 c) g))(f:dM g)(j:PR X c E a e)(i:PR X c E b fb)(k:behindInMarks d b=false):PTf X c E (.Compare a [d] [b] pos) (e1 asB (e2 g e fb)):=
 PT.imp (qD l j i k) fun σ H Q h=>tV2 yC f (t6 c) (nG c) (vG h)
theorem tN{f:Sg->R Dz}(h:PD X c E e f)(a:∀ whole,isTrue e X.env whole=(do let v <-whole;standAt e.pos;holding [v] (truthy v)):=by intro _;rfl):PTf X c E e (e1 asB f):=
 PT.imp (L2.tN h a) fun σ H Q h=>vG h
def z0(f g:Sg->R Bool):Sg->R Bool:=fun ρ=>(f ρ).bind fun b=>if b=true then g ρ else .ok false
def bOr(f g:Sg->R Bool):Sg->R Bool:=fun ρ=>(f ρ).bind fun b=>if b=true then .ok true else g ρ
def z8(f:Sg->R Bool):Sg->R Bool:=fun ρ=>(f ρ).bind fun b=>.ok (!b)
abbrev PWf(X:Cx)(c:Ct)(E:XK)(e:Ez)(f:Sg->R Bool):Prop:=PW X e (tTf c E f)
theorem PW.imp{X:Cx}{e:Ez}{t t':TT}(h:PW X e t)(i:∀ σ H Q,t' σ H Q->t σ H Q):PW X e t':=fun a a5 s σ H Q I q=>h a a5 s σ H Q I (i σ H Q q)
theorem aU3{f g:Sg->R Bool}{σ:L2.St}{H:Hp}{Q:Bool->Hp->Prop}(h:tTf c E (z0 f g) σ H Q):aQZ (tTf c E f) (tTf c E g) σ H Q:=by
 obtain ⟨ρ,F,ab,h⟩:=h
 refine ⟨ρ,F,ab,(Rk.bind h).imp fun b _ q a H' s=>?_⟩
 cases b with
 | true=>exact ⟨ρ,a,ab.ext s,(Rk.ext s q).imp fun d _ z i H2 e=>z i H2 (s.trans e)⟩
 | false=>exact Rk.ok q a H' s
theorem tor{f g:Sg->R Bool}{σ:L2.St}{H:Hp}{Q:Bool->Hp->Prop}(h:tTf c E (bOr f g) σ H Q):tOr (tTf c E f) (tTf c E g) σ H Q:=by
 obtain ⟨ρ,F,ab,h⟩:=h
 refine ⟨ρ,F,ab,(Rk.bind h).imp fun b _ q a H' s=>?_⟩
 cases b with
 | false=>exact ⟨ρ,a,ab.ext s,(Rk.ext s q).imp fun d _ z i H2 e=>z i H2 (s.trans e)⟩
 | true=>exact Rk.ok q a H' s
theorem qA{f:Sg->R Bool}(h:PTf X c E a f):PWf X c E (.BoolOp .And [a] pos) f:=L2.qA h
theorem qB{f:Sg->R Bool}(h:PTf X c E a f):PWf X c E (.BoolOp .Or [a] pos) f:=L2.qB h
theorem tO{f g:Sg->R Bool}{rest:List Ez}(h:PTf X c E a f)(h2:PWf X c E (.BoolOp .And (b::rest) pos) g):PWf X c E (.BoolOp .And (a::b::rest) pos) (z0 f g):=PW.imp (L2.tO h h2) fun _ _ _ q=>aU3 q
theorem n6{f g:Sg->R Bool}{rest:List Ez}(h:PTf X c E a f)(h2:PWf X c E (.BoolOp .Or (b::rest) pos) g):PWf X c E (.BoolOp .Or (a::b::rest) pos) (bOr f g):=PW.imp (L2.n6 h h2) fun _ _ _ q=>tor q
theorem tP{f:Sg->R Bool}(h:PTf X c E a f):PTf X c E (.UnaryOp .Not a pos) (z8 f):=PT.imp (L2.tP h) fun σ H Q ⟨ρ,F,ab,k⟩=>⟨ρ,F,ab,(Rk.bind k).imp fun b _ q d H' s=>Rk.ok q d H' s⟩
noncomputable def z9(f g:Sg->R Dz):Sg->R Dz:=fun ρ=>(f ρ).bind fun x=>(asB x).bind fun b=>if b=true then g ρ else .ok (.bool false)
def eIf{α:Type}(t:Sg->R Bool)(f g:Sg->R α):Sg->R α:=fun ρ=>(t ρ).bind fun b=>if b=true then f ρ else g ρ
theorem aD8{op}{f:Sg->R Dz}(h:PD X c E a f):PD X c E (.BoolOp op [a] pos) f:=aQ0 h
theorem aD9{f g:Sg->R Dz}{rest:List Ez}(h:PD X c E a f)(h2:PD X c E (.BoolOp .And (b::rest) pos) g):PD X c E (.BoolOp .And (a::b::rest) pos) (z9 f g):=PE.imp (aQ1 h h2) fun σ H Q e=>by
 obtain ⟨ρ,F,ab,k⟩:=e
 refine ⟨ρ,F,ab,(Rk.bind k).imp fun d _ q v i H' s r=>?_⟩
 cases d with
 | bool b=>
  refine ⟨b,DatV.bl_of r,?_⟩
  cases b with
  | true=>exact wU ⟨ρ,i,ab.ext s,(Rk.ext s q).imp fun d _ z v l H2 j=>z v l H2 (s.trans j)⟩
  | false=>exact wT (Rk.ok q (.bl false) i H' s (.bl false))
 | _=>exact False.elim q
theorem aID{t:Sg->R Bool}{f g:Sg->R Dz}{q:Ez}(m:PTf X c E q t)(h:PD X c E a f)(h2:PD X c E b g):PD X c E (.IfExp q a b pos) (eIf t f g):=PE.imp (aLS m h h2) fun σ H Q i=>by
 obtain ⟨ρ,F,ab,k⟩:=i
 refine ⟨ρ,F,ab,(Rk.bind k).imp fun b _ q l H' s=>?_⟩
 cases b with
 | true=>exact wU ⟨ρ,l,ab.ext s,(Rk.ext s q).imp fun d _ z v j H2 e=>z v j H2 (s.trans e)⟩
 | false=>exact wT ⟨ρ,l,ab.ext s,(Rk.ext s q).imp fun d _ z v j H2 e=>z v j H2 (s.trans e)⟩
noncomputable def eCh(g g':Dz->Dz->R Dz)(fa fb fc:Sg->R Dz):Sg->R Dz:=fun ρ=>(fa ρ).bind fun x=>(fb ρ).bind fun y=>(g x y).bind fun z=>(asB z).bind fun k=>if k=true then (fc ρ).bind fun w=>g' y w else .ok (.bool false)
end
def AFs(g:Gb)(K:Frag)(mg:Str->O6 V9)(F:Hp):List A->List V->Prop
 | [],[]=>True
 | a::as,v::vs=>AF g K mg F a v/\AFs g K mg F as vs
 | _,_=>False
theorem AFs.len{g:Gb}{K:Frag}{mg:Str->O6 V9}{F:Hp}:∀ {as:List A} {vs:List V},AFs g K mg F as vs->vs.length=as.length
 | [],[],_=>rfl
 | a::as,v::vs,h=>by rw[AG,AG,AFs.len h.2]
theorem PA.imp{X:Cx}{es:List Ez}{t t':TA}(h:PA X es t)(i:∀ σ H Q,t' σ H Q->t σ H Q):PA X es t':=fun pos a5 s σ H Q I q=>h pos a5 s σ H Q I (i σ H Q q)
def tAd(c:Ct)(E:XK)(f:Sg->R (List Dz)):TA:=fun σ H Q=>∃ ρ F,Ab c ρ σ F H/\Rk c E F H (f ρ) fun ds=>∀ vs F' H',Ext F H F' H'->DatVs c.K F' vs ds->Q vs H'
def tAv(c:Ct)(E:XK)(f:Sg->R (List A)):TA:=fun σ H Q=>∃ ρ F,Ab c ρ σ F H/\Rk c E F H (f ρ) fun ds=>∀ vs F' H',Ext F H F' H'->AFs c.g c.K c.mg F' ds vs->Q vs H'
abbrev PAd(X:Cx)(c:Ct)(E:XK)(es:List Ez)(f:Sg->R (List Dz)):Prop:=PA X es (tAd c E f)
abbrev PAv(X:Cx)(c:Ct)(E:XK)(es:List Ez)(f:Sg->R (List A)):Prop:=PA X es (tAv c E f)
noncomputable def aL{α:Type}:Sg->R (List α):=fun _=>.ok []
def aB{α:Type}(f:Sg->R α)(g:Sg->R (List α)):Sg->R (List α):=fun ρ=>(f ρ).bind fun x=>(g ρ).bind fun xs=>.ok (x::xs)
section
variable{X:Cx}{c:Ct}{E:XK}{e a b:Ez}{es:List Ez}{pos:Pos}
theorem aW:PAd X c E [] aL:=PA.imp aR fun σ H Q ⟨ρ,F,ab,k⟩=>Rk.ok k [] F H (Ext.refl ab.fh) .nil
theorem a9:PAv X c E [] aL:=PA.imp aR fun σ H Q ⟨ρ,F,ab,k⟩=>Rk.ok k [] F H (Ext.refl ab.fh) trivial
theorem aF{f:Sg->R Dz}{g:Sg->R (List Dz)}(h:PD X c E e f)(h2:PAd X c E es g)(m:starEach (e::es) X.env=(false,eval e X.env)::starEach es X.env:=by rfl):PAd X c E (e::es) (aB f g):=PA.imp (aK h h2 m) fun σ H Q a=>by
 obtain ⟨ρ,F,ab,k⟩:=a
 refine ⟨ρ,F,ab,(Rk.bind k).imp fun x _ q v j H1 b l=>⟨ρ,j,ab.ext b,((Rk.bind q).ext b).imp fun xs _ q vs i H2 d n=>?_⟩⟩
 exact Rk.ok q (v::vs) i H2 (b.trans d) (.cons (DatV.same d.ff l) n)
theorem aD{f:Sg->R A}{g:Sg->R (List A)}(h:PV X c E e f)(h2:PAv X c E es g)(m:starEach (e::es) X.env=(false,eval e X.env)::starEach es X.env:=by rfl):PAv X c E (e::es) (aB f g):=PA.imp (aK h h2 m) fun σ H Q a=>by
 obtain ⟨ρ,F,ab,k⟩:=a
 refine ⟨ρ,F,ab,(Rk.bind k).imp fun x _ q v j H1 b l=>⟨ρ,j,ab.ext b,((Rk.bind q).ext b).imp fun xs _ q vs i H2 d n=>?_⟩⟩
 exact Rk.ok q (v::vs) i H2 (b.trans d) ⟨AF.same d.ff l,n⟩
def cO(f:Sg->R (List Dz)):Sg->R Dz:=fun ρ=>(f ρ).bind fun xs=>if xs.length<=16777216 then .ok (.tuple xs) else .bad
def eZ(f:Sg->R (List Dz)):Sg->R (List Dz):=fun ρ=>(f ρ).bind fun xs=>if xs.length<=16777216 then .ok xs else .bad
theorem dY:sizeLine=16777216:=GV
theorem b9{x1}{f:Sg->R (List Dz)}(h:PAd X c E es f):PD X c E (.Tuple es x1 pos) (cO f):=PE.imp (aRC h) fun σ H Q a=>by
 obtain ⟨ρ,F,ab,k⟩:=a
 refine ⟨ρ,F,ab,(Rk.bind k).imp fun xs _ q vs i H1 d g=>?_⟩
 by_cases b:xs.length<=16777216
 .rw[AA b] at q
  refine ⟨by rw[g.length,dY];exact b,fun p e=>?_⟩
  exact Rk.ok q (.ref p) _ _ (d.trans (Ext.new d.fh e)) (.tup (SqT.of bQ) (g.same (bA.upd (cP d.fh e))))
 .rw[AE b] at q;exact q.elim
theorem dN{f:Sg->R (List Dz)}(h:PAd X c E es f):PN X c E (.List es pos) (eZ f):=PE.imp (aJL h) fun σ H Q b=>by
 obtain ⟨ρ,F,ab,k⟩:=b
 refine ⟨ρ,F,ab,(Rk.bind k).imp fun xs _ q vs i H1 a g=>?_⟩
 by_cases d:xs.length<=16777216
 .rw[AA d] at q
  refine ⟨by rw[g.length,dY];exact d,fun p e=>?_⟩
  exact Rk.ok q (.ref p) _ _ (a.trans (Ext.own a.fh e)) ⟨p,vs,rfl,cP a.hh e,bQ,cP a.fh e,g⟩
 .rw[AE d] at q;exact q.elim
noncomputable def dLen:Dz->R Dz
 | .str z=>if z.length<=16777216 then .ok (.int z.length) else .bad
 | .list xs=>.ok (.int xs.length)
 | .tuple xs=>.ok (.int xs.length)
 | _=>.bad
theorem plain_len:qH dLen:=by intro a e h;unfold dLen at h;split at h<;>(try split at h)<;>cases h
theorem fR{j:Sg->R Dz}(l:X.K=c.K)(h0:PE X e (tCB (fun xs H Q=>∃ x n,xs=[x]/\aQ9 X.K x H n/\Q (.int n) H) (gF (tV (bH c) c E j) kI))):PD X c E e (e1 dLen j):=
 PE.imp h0 fun σ H Q h=>by
  obtain ⟨ρ,F,ab,k⟩:=tV1 (Ra:=bH c) aCU plain_len (nG c) h
  refine ⟨ρ,F,ab,k.imp fun d _ q v o H' s r=>?_⟩
  obtain ⟨u,i,a,t,f,g,b,q⟩:=q v o H' s r
  unfold dLen at b
  split at b
  .rename_i z
   split at b
   .rename_i m
    cases b
    obtain rfl:=bC.str_of g
    exact ⟨_,_,rfl,⟨by rw[dY];exact m,rfl⟩,q _ i H' (Ext.refl f) (.int _)⟩
   .cases b
  .cases b
   obtain ⟨p,vs,rfl,h1,h2⟩:=bC.lst_of f g
   rw[<-l] at h1
   exact ⟨_,vs.length,rfl,.inl ⟨vs,h1,rfl⟩,q _ i H' (Ext.refl f) (by rw[h2.length];exact .int _)⟩
  .cases b
   obtain ⟨p,vs,rfl,_,h1,h2⟩:=bC.tup_of f g
   rw[<-l] at h1
   exact ⟨_,vs.length,rfl,.inr ⟨vs,h1,rfl⟩,q _ i H' (Ext.refl f) (by rw[h2.length];exact .int _)⟩
  .cases b
noncomputable def dTup:Dz->R Dz
 | .list xs=>.ok (.tuple xs)
 | .tuple xs=>.ok (.tuple xs)
 | _=>.bad
theorem aKC:qH dTup:=by intro a e h;unfold dTup at h;split at h<;>cases h
theorem eD{g:Sg->R Dz}(m:X.K=c.K)(h0:PE X e (tCB (fun xs H Q=>∃ p ys,xs=[.ref p]/\((SqL X.K H p ys/\∀ l,H l=none->Q (.ref l) (upd H l (.tup ys)))\/(SqT X.K H p ys/\Q (.ref p) H))) (gF (tV (bH c) c E g) kI))):PD X c E e (e1 dTup g):=
 PE.imp h0 fun σ H Q h=>by
  obtain ⟨ρ,F,ab,k⟩:=tV1 (Ra:=bH c) aCU aKC (nG c) h
  refine ⟨ρ,F,ab,k.imp fun d _ q v t H' s r=>?_⟩
  obtain ⟨w,n,a,u,b,i,f,q⟩:=q v t H' s r
  unfold dTup at f
  split at f
  .cases f
   obtain ⟨p,vs,rfl,h1,h2⟩:=bC.lst_of b i
   rw[<-m] at h1
   exact ⟨p,vs,rfl,.inl ⟨h1,fun l j=>q _ _ _ (Ext.new b j) (.tup (SqT.of bQ) (h2.same (bA.upd (cP b j))))⟩⟩
  .cases f
   obtain ⟨p,vs,rfl,o,h1,h2⟩:=bC.tup_of b i
   rw[<-m] at h1
   exact ⟨p,vs,rfl,.inr ⟨h1,q _ n H' (Ext.refl b) (.tup o h2)⟩⟩
  .cases f
noncomputable def dInt:Dz->R Dz
 | .int i=>.ok (.int i)
 | .bool b=>.ok (.int (if b=true then 1 else 0))
 | _=>.bad
theorem aKD:qH dInt:=by intro a e h;unfold dInt at h;split at h<;>cases h
theorem iG{j:Sg->R Dz}(h0:PE X e (tCB (fun xs H Q=>(∃ i,xs=[.int i]/\Q (.int i) H)\/∃ k,xs=[.bl k]/\Q (.int (if k then 1 else 0)) H) (gF (tV (bH c) c E j) kI))):PD X c E e (e1 dInt j):=
 PE.imp h0 fun σ H Q h=>by
  obtain ⟨ρ,F,ab,k⟩:=tV1 (Ra:=bH c) aCU aKD (nG c) h
  refine ⟨ρ,F,ab,k.imp fun d _ q v n H' s r=>?_⟩
  obtain ⟨p,m,a,o,l,g,f,q⟩:=q v n H' s r
  unfold dInt at f
  split at f
  .cases f
   obtain rfl:=bC.int_of g
   exact .inl ⟨_,rfl,q _ m H' (Ext.refl l) (.int _)⟩
  .rename_i b
   cases f
   obtain rfl:=bC.bl_of g
   exact .inr ⟨b,rfl,q _ m H' (Ext.refl l) (by cases b<;>exact .int _)⟩
  .cases f
end
inductive Fw where
 | nx (ρ:Sg)|bk (ρ:Sg)|ct (ρ:Sg)|rt (a:A)
def AR(g:Gb)(K:Frag)(mg:Str->O6 V9)(H F' H':Hp):A->V->Prop
 | .l xs,v=>∃ p us,v=.ref p/\H p=none/\H' p=some (.lst us)/\F' p=none/\DatVs K F' us xs
 | a,v=>AF g K mg F' a v
theorem AR.of{g:Gb}{K:Frag}{mg:Str->O6 V9}{H b H':Hp}{a:A}{v:V}(h:AF g K mg b a v):AR g K mg H b H' a v:=by
 cases a with
 | l xs=>exact False.elim h
 | _=>exact h
def kL(c:Ct)(F:Hp)(D:lU):Fw->Prop
 | .nx ρ=>∀ σ' F' H',bA F F'->Ab c ρ σ' F' H'->D.nx σ' H'
 | .bk ρ=>∀ σ' F' H',bA F F'->Ab c ρ σ' F' H'->D.bk σ' H'
 | .ct ρ=>∀ σ' F' H',bA F F'->Ab c ρ σ' F' H'->D.ct σ' H'
 | .rt a=>∀ v F' H',Ext c.F0 c.H0 F' H'->AR c.g c.K c.mg c.H0 F' H' a v->D.rt v H'
theorem kL.same{c:Ct}{F F1:Hp}{D:lU}(s:bA F F1):∀ {w:Fw},kL c F D w->kL c F1 D w
 | .nx ρ,h=>fun b d H' s' ab=>h b d H' (fun a o z=>s' a o (s a o z)) ab
 | .bk ρ,h=>fun b d H' s' ab=>h b d H' (fun a o z=>s' a o (s a o z)) ab
 | .ct ρ,h=>fun b d H' s' ab=>h b d H' (fun a o z=>s' a o (s a o z)) ab
 | .rt a,h=>h
def tSf(c:Ct)(E:XK)(f:Sg->R Fw):TS:=fun D σ H=>∃ ρ F,Ab c ρ σ F H/\Rk c E F H (f ρ) (kL c F D)
abbrev PSf(X:Cx)(c:Ct)(E:XK)(st:Stmt)(f:Sg->R Fw):Prop:=PS X st (tSf c E f)
abbrev oR(X:Cx)(c:Ct)(E:XK)(st:List Stmt)(f:Sg->R Fw):Prop:=PSs X st (tSf c E f)
theorem get_set{α:Type}{l:List α}{i j:Nat}{x y:α}(h:(l.set i x)[j]? = some y):(i=j/\y=x/\i < l.length)\/(i≠j/\l[j]? = some y):=by
 by_cases e:i=j
 .subst e
  by_cases a:i < l.length
  · rw [B9 a] at h; exact .inl ⟨rfl, (CA h).symm, a⟩
  · rw [List.getElem?_eq_none_iff.mpr (by rw [CC]; omega)] at h; cases h
 .rw[BO e] at h;exact .inr ⟨e,h⟩
theorem Ab.setF{c:Ct}{ρ:Sg}{σ:L2.St}{F H:Hp}{i:Nat}{a:A}{v:V}(b:Ab c ρ σ F H)(u:AO c F H a v)(s:a.own=true->∀ (j:Nat) (a':A),j≠i->ρ[j]? = some (some a')->a'.own=true->σ[j]? ≠ some (some v)):Ab c (ρ.set i (some a)) (σ.set i (some v)) F H where
 len:=by rw[CC,CC];exact b.len
 fh:=b.fh
 slot:=fun j a' h=>by
  rcases get_set h with ⟨e,q,n⟩|⟨m,q⟩
  .subst e
   cases q
   exact ⟨v,B9 (by rw[<-b.len];exact n),u⟩
  .rw[BO m];exact b.slot j a' q
 apart:=fun j k a' t d h1 h2 o r=>by
  rcases get_set h1 with ⟨e,q,n⟩|⟨m,q⟩
  .subst e
   cases q
   rcases get_set h2 with ⟨p,g,l⟩|⟨f,g⟩
   .exact absurd p d
   .rw[B9 (by rw[<-b.len];exact n),BO f]
    exact (s o k t (BU d) g r).symm
  .rcases get_set h2 with ⟨p,g,l⟩|⟨f,g⟩
   .subst p
    cases g
    rw[B9 (by rw[<-b.len];exact l),BO m]
    exact s r j a' d q o
   .rw[BO m,BO f]
    exact b.apart j k a' t d q g o r
 f0:=b.f0
 h0:=b.h0
 n0:=b.n0
 t0:=b.t0
theorem AO.of{c:Ct}{F H:Hp}:∀ {a:A} {v:V},AF c.g c.K c.mg F a v->AO c F H a v
 | .d x,v,h=>h
 | .x e,v,h=>h
 | .g k n G,v,h=>h
 | .f a6,v,h=>h
 | .o e,v,h=>h
theorem AF.notOwn{g:Gb}{K:Frag}{mg:Str->O6 V9}{F:Hp}:∀ {a:A} {v:V},AF g K mg F a v->a.own=false
 | .d x,v,h=>rfl
 | .x e,v,h=>rfl
 | .g k n G,v,h=>rfl
 | .f a6,v,h=>rfl
 | .o e,v,h=>rfl
theorem Ab.setA{c:Ct}{ρ:Sg}{σ:L2.St}{F H:Hp}{i:Nat}{a:A}{v:V}(b:Ab c ρ σ F H)(d:AF c.g c.K c.mg F a v):Ab c (ρ.set i (some a)) (σ.set i (some v)) F H:=
 b.setF (AO.of d) fun z=>by rw[AF.notOwn d] at z;cases z
theorem Ab.setN{c:Ct}{ρ:Sg}{σ:L2.St}{F H a H':Hp}{i:Nat}{xs:List Dz}{v:V}(b:Ab c ρ σ F H)(e:Ext F H a H')(h:zZ c xs v H a H'):Ab c (ρ.set i (some (.l xs))) (σ.set i (some v)) a H':=by
 obtain ⟨p,vs,rfl,h1,h2,r,k⟩:=h
 refine (b.ext e).setF ⟨p,vs,rfl,h2,r,cP b.h0 h1,k⟩ fun _ j g _ d m=>?_
 obtain ⟨w,n,q⟩:=b.slot j g d
 rw[n]
 intro z
 cases z
 obtain ⟨s,o',o,f,_⟩:=q.at m
 cases o
 rw[h1] at f
 cases f
theorem Ab.putO{c:Ct}{ρ:Sg}{σ:L2.St}{F H:Hp}{i:Nat}{a u:A}{p:Az}{o:HO}(b:Ab c ρ σ F H)(hi:ρ[i]? = some (some a))(C:a.own=true)(E:σ[i]? = some (some (.ref p)))(Q:u.own=true)(O:AO c F (upd H p o) u (.ref p)) :
  Ab c (ρ.set i (some u)) σ F (upd H p o):=by
 obtain ⟨v,h1,q⟩:=b.slot i _ hi
 rw[E] at h1
 cases h1
 obtain ⟨X,o',B,h2,P,W⟩:=q.at C
 cases B
 have t:∀ (j:Nat) (a:A) (w:V),j≠i->ρ[j]? = some (some a)->σ[j]? = some (some w)->AO c F H a w->AO c F (upd H p o) a w:=by
  intro j J w T R D s
  by_cases own:J.own=true
  .refine s.off fun z=>?_
   subst z
   exact b.apart j i _ _ T R hi own C (by rw[D,E])
  .cases J with
   | l zs=>exact absurd rfl own
   | m zs=>exact absurd rfl own
   | d x=>exact s
   | x e=>exact s
   | g k n f=>exact s
   | k S=>exact s
   | f S=>exact s
   | o S=>exact s
 exact {
  len:=by rw[CC];exact b.len
  fh:=fun a o z=>by rw[bB (fun w=>by subst w;rw[P] at z;cases z)];exact b.fh a o z
  slot:=fun j a h=>by
   rcases get_set h with ⟨e,q,U⟩|⟨L,q⟩
   .subst e
    cases q
    exact ⟨_,E,O⟩
   .obtain ⟨w,D,s⟩:=b.slot j a q
    exact ⟨w,D,t j a w (BU L) q D s⟩
  apart:=fun j k u N r h1 h2 K M=>by
   rcases get_set h1 with ⟨e,q,U⟩|⟨L,q⟩
   .subst e
    cases q
    rcases get_set h2 with ⟨B,y,I⟩|⟨G,y⟩
    .exact absurd B r
    .exact b.apart _ k _ N r hi y C M
   .rcases get_set h2 with ⟨B,y,I⟩|⟨G,y⟩
    .subst B
     exact b.apart j _ u _ r q hi K C
    .exact b.apart j k u N r q y K M
  f0:=b.f0
  h0:=fun a o z=>by rw[bB (fun w=>by subst w;rw[W] at z;cases z)];exact b.h0 a o z
  n0:=b.n0
  t0:=b.t0}
theorem Ab.putL{c:Ct}{ρ:Sg}{σ:L2.St}{F H:Hp}{i:Nat}{xs ys:List Dz}{p:Az}{vs:List V}(b:Ab c ρ σ F H)(hi:ρ[i]? = some (some (.l xs)))(a:σ[i]? = some (some (.ref p)))(e:DatVs c.K F vs ys) :
  Ab c (ρ.set i (some (.l ys))) σ F (upd H p (.lst vs)):=by
 obtain ⟨v,h1,g,j,rfl,h2,f,d,h⟩:=b.slot i _ hi
 rw[a] at h1
 cases h1
 exact b.putO hi rfl a rfl ⟨p,vs,rfl,bQ,f,d,e⟩
theorem Ab.putM{c:Ct}{ρ:Sg}{σ:L2.St}{F H:Hp}{i:Nat}{d a:List (Dz×Dz)}{p:Az}{es:List Ent}{f:Nat}(b:Ab c ρ σ F H)(hi:ρ[i]? = some (some (.m d)))(e:σ[i]? = some (some (.ref p)))(h:MapRel c.K F es a) :
  Ab c (ρ.set i (some (.m a))) σ F (upd H p (mU c.w p es f)):=by
 obtain ⟨v,h1,k,n,rfl,h2,j,g,l⟩:=b.slot i _ hi
 rw[e] at h1
 cases h1
 exact b.putO hi rfl e rfl ⟨p,es,rfl,⟨f,bQ⟩,j,g,h⟩
theorem Ab.setM{c:Ct}{ρ:Sg}{σ:L2.St}{F H d H':Hp}{i:Nat}{a:List (Dz×Dz)}{p:Az}{es:List Ent}{h:Nat}(b:Ab c ρ σ F H)(e:Ext F H d H')(h1:H p=none)(h2:H' p=some (mU c.w p es h))(s:d p=none)(l:MapRel c.K d es a):Ab c (ρ.set i (some (.m a))) (σ.set i (some (.ref p))) d H':=by
 refine (b.ext e).setF ⟨p,es,rfl,⟨h,h2⟩,s,cP b.h0 h1,l⟩ fun _ j k _ f n=>?_
 obtain ⟨w,o,q⟩:=b.slot j k f
 rw[o]
 intro z
 cases z
 obtain ⟨t,o',r,g,_⟩:=q.at n
 cases r
 rw[h1] at g
 cases g
noncomputable def fz(i:Nat)(ρ:Sg):Sg:=match ρ[i]? with
 | some (some (.l xs))=>ρ.set i (some (.d (.list xs)))
 | _=>ρ
theorem Ab.publ{c:Ct}{ρ:Sg}{σ:L2.St}{F H:Hp}{i:Nat}{N L:A}{p:Az}{o:HO}(b:Ab c ρ σ F H)(hi:ρ[i]? = some (some N))(O:σ[i]? = some (some (.ref p)))(ow:N.own=true)(h2:H p=some o)(B:F p=none)(J:c.H0 p=none)(P:L.own=false)(hr:AO c (upd F p o) H L (.ref p)):Ab c (ρ.set i (some L)) σ (upd F p o) H:=by
 have t:bA F (upd F p o):=bA.upd B
 exact {
  len:=by rw[CC];exact b.len
  fh:=fun a o' z=>by
   by_cases w:a=p
   .subst w;rw[bQ] at z;rw[h2];exact z
   .rw[bB w] at z;exact b.fh a o' z
  slot:=fun j a h=>by
   rcases get_set h with ⟨e,q,hl⟩|⟨R,q⟩
   .subst e
    cases q
    exact ⟨_,O,hr⟩
   .obtain ⟨w,Q,s⟩:=b.slot j a q
    refine ⟨w,Q,?_⟩
    have off:∀ r,a.own=true->w=.ref r->F r=none->upd F p o r=none:=fun r V e f=>by
     rw[bB]
     .exact f
     .intro z
      subst z
      exact b.apart j i _ _ (BU R) q hi V ow (by rw[Q,O,e])
    cases a with
    | l zs=>obtain ⟨r,v,e,u,s,E,G⟩:=s;exact ⟨r,v,e,u,off r rfl e s,E,G.same t⟩
    | m a6=>obtain ⟨r,v,e,u,s,E,G⟩:=s;exact ⟨r,v,e,u,off r rfl e s,E,G.same t⟩
    | d x=>exact DatV.same t s
    | x e=>exact AF.same (g:=c.g) (K:=c.K) (mg:=c.mg) (a:=.x e) t s
    | g k n f=>exact AF.same (g:=c.g) (K:=c.K) (mg:=c.mg) (a:=.g k n f) t s
    | k S=>obtain ⟨S,f,T,C,U,Y,W,h0,h1,h2,B,J⟩:=s;exact ⟨S,f,T,C,U,Y,W,h0,h1,t _ _ h2,t _ _ B,J⟩
    | f a6=>exact AF.same (g:=c.g) (K:=c.K) (mg:=c.mg) (a:=.f a6) t s
    | o e=>exact AF.same (g:=c.g) (K:=c.K) (mg:=c.mg) (a:=.o e) t s
  apart:=fun j k X b' y h1 h2 D M=>by
   rcases get_set h1 with ⟨e,q,hl⟩|⟨R,q⟩
   .cases q;rw[P] at D;cases D
   .rcases get_set h2 with ⟨e',I,aa⟩|⟨Z,I⟩
    .cases I;rw[P] at M;cases M
    .exact b.apart j k X b' y q I D M
  f0:=fun a o z=>t a o (b.f0 a o z)
  h0:=b.h0
  n0:=fun a z n=>by
   by_cases w:a=p
   .subst w;exact .inl J
   .rw[bB w] at n;exact b.n0 a z n
  t0:=b.t0}
theorem Ab.frz{c:Ct}{ρ:Sg}{σ:L2.St}{F H:Hp}(b:Ab c ρ σ F H)(i:Nat):∃ F',bA F F'/\Ab c (fz i ρ) σ F' H:=by
 unfold fz
 split
 .rename_i xs hi
  obtain ⟨v,e,p,vs,rfl,h2,a,d,f⟩:=b.slot i _ hi
  exact ⟨_,bA.upd a,b.publ hi e rfl h2 a d rfl (.lst (SqL.of bQ) (f.same (bA.upd a)))⟩
 .exact ⟨F,eJ F,b⟩
section
variable{X:Cx}{c:Ct}{E:XK}{e a b:Ez}{st:Stmt}{rest:List Stmt}{pos:Pos}
def sFz(i:Nat)(f:Sg->R Fw):Sg->R Fw:=fun ρ=>f (fz i ρ)
theorem aCW(i:Nat){f:Sg->R Fw}(h:PSf X c E st f):PSf X c E st (sFz i f):=PS.imp h fun D σ H b=>by
 obtain ⟨ρ,F,ab,k⟩:=b
 obtain ⟨g,s,d⟩:=ab.frz i
 refine ⟨fz i ρ,g,d,?_⟩
 have a:Rk c E F H (f (fz i ρ)) (kL c F D):=k
 cases q:f (fz i ρ) with
 | bad=>rw[q] at a;exact a
 | ok w=>rw[q] at a;exact kL.same s a
 | ex e=>rw[q] at a;exact a
noncomputable def sNx:Sg->R Fw:=fun ρ=>.ok (.nx ρ)
def aM(f g:Sg->R Fw):Sg->R Fw:=fun ρ=>(f ρ).bind fun w=>match w with
 | .nx ρ'=>g ρ'
 | w=>.ok w
theorem cW:oR X c E [] sNx:=PSs.imp L2.cW fun D σ H ⟨ρ,F,ab,k⟩=>Rk.ok k σ F H (eJ F) ab
theorem aO{f:Sg->R Fw}(h:PSf X c E st f):oR X c E [st] f:=L2.aO h
theorem aG{f g:Sg->R Fw}(h:PSf X c E st f)(h2:oR X c E rest g):oR X c E (st::rest) (aM f g):=PSs.imp (L2.aG h h2) fun D σ H d=>by
 obtain ⟨ρ,F,ab,k⟩:=d
 refine ⟨ρ,F,ab,(Rk.bind k).imp fun w _ q=>?_⟩
 cases w with
 | nx ρ'=>
  intro l m H' s i
  refine ⟨ρ',m,i,?_⟩
  have b:Rk c E F H (g ρ') (kL c F D):=q
  cases j:g ρ' with
  | bad=>rw[j] at b;exact b
  | ok w=>rw[j] at b;exact kL.same s b
  | ex e=>rw[j] at b;exact b
 | bk ρ'=>exact q
 | ct ρ'=>exact q
 | rt a=>exact q
def bF(f:Sg->R A):Sg->R Fw:=fun ρ=>(f ρ).bind fun a=>.ok (.rt a)
theorem bD{f:Sg->R A}(h:PV X c E e f):PSf X c E (.Return (some e) pos) (bF f):=PS.imp (L2.bD h) fun D σ H ⟨ρ,F,ab,k⟩=>
 ⟨ρ,F,ab,(Rk.bind k).imp fun a _ q v b H' s r=>Rk.ok q v b H' (ab.all.trans s) (AR.of r)⟩
def sIf(t:Sg->R Bool)(f g:Sg->R Fw):Sg->R Fw:=fun ρ=>(t ρ).bind fun b=>if b=true then f ρ else g ρ
theorem Rk.fw{F a H H1:Hp}{D:lU}{r:R Fw}(s:bA F a)(k:Rk c E F H r (kL c F D)):Rk c E a H1 r (kL c a D):=by
 cases r with
 | bad=>exact k
 | ok w=>exact kL.same s k
 | ex e=>exact k
theorem dU{q:Ez}{e d:List Stmt}{t:Sg->R Bool}{f g:Sg->R Fw}(j:PTf X c E q t)(l:oR X c E e f)(i:oR X c E d g):PSf X c E (.If q e d pos) (sIf t f g):=PS.imp (L2.dU j l i) fun D σ H a=>by
 obtain ⟨ρ,F,ab,k⟩:=a
 refine ⟨ρ,F,ab,(Rk.bind k).imp fun b _ q h H' s=>?_⟩
 cases b with
 | true=>exact wU ⟨ρ,h,ab.ext s,Rk.fw s.ff q⟩
 | false=>exact wT ⟨ρ,h,ab.ext s,Rk.fw s.ff q⟩
def bG(i:Nat)(f:Sg->R A):Sg->R Fw:=fun ρ=>(f ρ).bind fun a=>.ok (.nx (ρ.set i (some a)))
theorem aH{i:Nat}{f:Sg->R A}(h:PS X st (oM (tV (aMM c) c E f) (m9 i))):PSf X c E st (bG i f):=PS.imp h fun D σ H ⟨ρ,F,ab,k⟩=>
 ⟨ρ,F,ab,(Rk.bind k).imp fun a _ q v b H' s r=>Rk.ok q _ b H' s.ff ((ab.ext s).setA r)⟩
def gM(i:Nat)(f:Sg->R (List Dz)):Sg->R Fw:=fun ρ=>(f ρ).bind fun xs=>.ok (.nx (ρ.set i (some (.l xs))))
theorem g7{i:Nat}{f:Sg->R (List Dz)}(h:PS X st (oM (tV (zZ c) c E f) (m9 i))):PSf X c E st (gM i f):=PS.imp h fun D σ H ⟨ρ,F,ab,k⟩=>
 ⟨ρ,F,ab,(Rk.bind k).imp fun a _ q v b H' s r=>Rk.ok q _ b H' s.ff (ab.setN s r)⟩
def oA(f:Sg->R A):Sg->R Fw:=fun ρ=>(f ρ).bind fun _=>.ok (.nx ρ)
theorem dP{f:Sg->R A}(h:PS X st (aCQ (tV (aMM c) c E f))):PSf X c E st (oA f):=PS.imp h fun D σ H ⟨ρ,F,ab,k⟩=>
 ⟨ρ,F,ab,(Rk.bind k).imp fun a _ q v b H' s r=>Rk.ok q _ b H' s.ff (ab.ext s)⟩
def lN(i:Nat)(f:Sg->R Dz):Sg->R Fw:=fun ρ=>match ρ[i]? with
 | some (some (.l xs))=>(f ρ).bind fun x=>if xs.length < 16777216 then .ok (.nx (ρ.set i (some (.l (xs++[x]))))) else .bad
 | _=>.bad
theorem lG{i:Nat}{f:Sg->R Dz}(n:X.K=c.K)(h:PS X st (aCQ (tBM X.K "list" zQ (mP i) (gF (tV (c9 c) c E f) kI)))):PSf X c E st (lN i f):=PS.imp h fun D σ H ⟨ρ,F,ab,k⟩=>by
 unfold lN at k
 split at k
 .rename_i xs hi
  obtain ⟨v,d,p,vs,rfl,h2,m,l,e⟩:=ab.slot i _ hi
  refine ⟨_,d,.inl ⟨rfl,vs,SqL.of h2⟩,ρ,F,ab,(Rk.bind k).imp fun x _ q u g H1 a j=>?_⟩
  by_cases b:xs.length < 16777216
  .rw[AA b] at q
   refine ⟨p,vs,u,rfl,rfl,a.hh _ _ h2,by rw[e.length,dY];exact b,?_⟩
   exact Rk.ok q σ g _ a.ff ((ab.ext a).putL hi d ((e.same a.ff).append (.cons j .nil)))
  .rw[AE b] at q;exact q.elim
 .exact k.elim
def aIE(i:Nat)(f g:Sg->R Dz):Sg->R Fw:=fun ρ=>(g ρ).bind fun x=>match ρ[i]? with
 | some (some (.l xs))=>(f ρ).bind fun k=>match k with
  | .int k=>match ixN xs.length k with
   | some j=>.ok (.nx (ρ.set i (some (.l (xs.set j x)))))
   | none=>.bad
  | _=>.bad
 | _=>.bad
theorem aBQ{K:Frag}{F:Hp}{x:V}{d:Dz}(h:DatV K F x d):∀ {vs:List V} {xs:List Dz} (j:Nat),DatVs K F vs xs->DatVs K F (vs.set j x) (xs.set j d)
 | _,_,_,.nil=>.nil
 | _,_,0,.cons _ t=>.cons h t
 | _,_,j+1,.cons q t=>.cons q (aBQ h j t)
theorem aKE{i:Nat}{f g:Sg->R Dz}(h:PS X st (oM (tV (c9 c) c E g) (aLV (mP i) (tV (bH c) c E f) aNW))):PSf X c E st (aIE i f g):=PS.imp h fun D σ H ⟨ρ,F,ab,k⟩=>by
 refine ⟨ρ,F,ab,(Rk.bind k).imp fun x _ q v r H1 m y=>?_⟩
 split at q
 .rename_i xs hi
  have a:=ab.ext m
  obtain ⟨_,n,p,vs,rfl,h2,z,A,o⟩:=a.slot i _ hi
  refine ⟨_,n,ρ,r,a,((Rk.bind q).ext m).imp fun k _ q u w H2 b t=>?_⟩
  have e:=a.ext b
  cases k with
  | int kk=>
   have d:Rk c E F H (match ixN xs.length kk with|some j=>R.ok (.nx (ρ.set i (some (.l (xs.set j x)))))|none=>.bad) (kL c F D):=q
   clear q
   split at d
   .rename_i j s
    obtain rfl:=bC.int_of t
    refine ⟨p,vs,kk,j,rfl,rfl,b.hh _ _ h2,by rw[o.length];exact s,?_⟩
    exact Rk.ok d σ w _ (m.trans b).ff (e.putL hi n (aBQ (DatV.same b.ff y) j (o.same b.ff)))
   .exact d.elim
  | _=>exact q.elim
 .exact q.elim
end
def Tg(c:Ct)(g:TG)(fs:Dz->Sg->O6 Sg)(is:List Nat):Prop:=∀ (v:V) (x:Dz) (ρ ρ':Sg) (σ:L2.St) (F H:Hp) (Q:L2.St->Hp->Prop),Ab c ρ σ F H->DatV c.K F v x->fs x ρ=some ρ'->
 (∀ σ':L2.St,σ'.length=σ.length->(∀ j:Nat,j∉is->σ'[j]? = σ[j]?)->Ab c ρ' σ' F H->Q σ' H)->g v σ H Q
noncomputable def stN(i:Nat):Dz->Sg->O6 Sg:=fun x ρ=>some (ρ.set i (some (.d x)))
theorem cL{c:Ct}(i:Nat):Tg c (m9 i) (stN i) [i]:=fun v x ρ b σ F H Q ab r e q=>by
 cases e
 exact q _ CC (fun j f=>BO (by intro z;subst z;exact f (by simp))) (ab.setA (a:=.d x) r)
noncomputable def stL:List (Dz->Sg->O6 Sg)->List Dz->Sg->O6 Sg
 | [],[],ρ=>some ρ
 | f::fs,x::xs,ρ=>(f x ρ).bind (stL fs xs)
 | _,_,_=>none
def Tgs(c:Ct)(g:TGs)(fs:List (Dz->Sg->O6 Sg))(is:List Nat):Prop:=∀ (vs:List V) (xs:List Dz) (ρ ρ':Sg) (σ:L2.St) (F H:Hp) (Q:L2.St->Hp->Prop),Ab c ρ σ F H->DatVs c.K F vs xs->stL fs xs ρ=some ρ'->
 (∀ σ':L2.St,σ'.length=σ.length->(∀ j:Nat,j∉is->σ'[j]? = σ[j]?)->Ab c ρ' σ' F H->Q σ' H)->g vs σ H Q
theorem vH{c:Ct}:Tgs c aLU [] []:=fun vs xs ρ a σ F H Q ab r e q=>by
 cases xs with
 | nil=>cases e;exact ⟨by cases r;rfl,q σ rfl (fun _ _=>rfl) ab⟩
 | cons x t=>cases e
theorem kM{c:Ct}{g:TG}{o:TGs}{f:Dz->Sg->O6 Sg}{fs:List (Dz->Sg->O6 Sg)}{is js:List Nat}(h:Tg c g f is)(h2:Tgs c o fs js):Tgs c (aNQ g o) (f::fs) (is++js):=fun vs xs ρ a σ F H Q ab r e q=>by
 cases r with
 | nil=>cases e
 | cons r1 r2=>
  rename_i x d vs ds
  have b:(f d ρ).bind (stL fs ds)=some a:=e
  cases e1:f d ρ with
  | none=>rw[e1] at b;cases b
  | some ρ1=>
   rw[e1] at b
   refine ⟨_,_,rfl,h _ _ ρ ρ1 σ F H _ ab r1 e1 fun i s k1 n=>h2 _ _ ρ1 a i F H _ n r2 b fun m p k2 k=>q m (p.trans s) (fun j l=>?_) k⟩
   rw[B4,G0] at l
   exact (k2 j l.2).trans (k1 j l.1)
noncomputable def stT(fs:List (Dz->Sg->O6 Sg)):Dz->Sg->O6 Sg:=fun x ρ=>match x with
 | .tuple xs=>stL fs xs ρ
 | _=>none
theorem aGL:∀ {fs:List (Dz->Sg->O6 Sg)} {xs:List Dz} {ρ ρ':Sg},stL fs xs ρ=some ρ'->xs.length=fs.length
 | [],[],_,_,_=>rfl
 | [],_::_,_,_,h=>by cases h
 | _::_,[],_,_,h=>by cases h
 | f::fs,x::xs,ρ,ρ',h=>by
  have h':(f x ρ).bind (stL fs xs)=some ρ':=h
  cases e:f x ρ with
  | none=>rw[e] at h';cases h'
  | some ρ1=>
   rw[e] at h'
   have:=aGL (fs:=fs) (xs:=xs) h'
   simp[this]
theorem yF{c:Ct}{d:TGs}{fs:List (Dz->Sg->O6 Sg)}{is:List Nat}{n:Nat}{K:Frag}(g:K=c.K)(h:Tgs c d fs is)(f:fs.length=n):Tg c (aQ2 K n d) (stT fs) is:=fun v x ρ b σ F H Q ab r e q=>by
 cases x with
 | tuple xs=>
  obtain ⟨a,vs,rfl,h1,h2⟩:=r.tup_of
  subst g
  exact ⟨a,vs,rfl,h1.same ab.fh,by rw[h2.length,aGL e,f],h vs xs ρ b σ F H Q ab h2 e q⟩
 | _=>cases e
structure Yld(K:Frag)(J:It)(F B:Hp)(xs:List Dz):Prop where
 len:xs.length<=sizeLine
 go:∀ (i:Nat) F1 H1,bA F F1->bA F1 H1->bA B H1->i < xs.length->J.go i H1
 yld:∀ (i:Nat) F1 H1 v H2 x,bA F F1->bA F1 H1->bA B H1->J.yld i H1 v H2->xs[i]? = some x->∃ F2,Ext F1 H1 F2 H2/\DatV K F2 v x
 stop:∀ F1 H1,bA F F1->bA F1 H1->bA B H1->J.stop xs.length H1
def tI(c:Ct)(E:XK)(f:Sg->R (List Dz)):TI:=fun σ H Rr=>∃ ρ F,Ab c ρ σ F H/\Rk c E F H (f ρ) fun xs=>∀ J B F' H',Ext F H F' H'->bA B H'->Yld c.K J F' B xs->Rr J H'
def tI0(c:Ct)(E:XK)(f:Sg->R (List Dz)):TI:=fun σ H Rr=>∃ ρ F,Ab c ρ σ F H/\Rk c E F H (f ρ) fun xs=>∀ J F' H',Ext F H F' H'->Yld c.K J F' (fun _=>none) xs->Rr J H'
theorem PI.imp{X:Cx}{tg e:Ez}{t t':TI}(h:PI X tg e t)(i:∀ σ H Q,t' σ H Q->t σ H Q):PI X tg e t':=fun a5 s σ H Q I q=>h a5 s σ H Q I (i σ H Q q)
abbrev PIf(X:Cx)(c:Ct)(E:XK)(tg e:Ez)(f:Sg->R (List Dz)):Prop:=PI X tg e (tI c E f)
abbrev PI0(X:Cx)(c:Ct)(E:XK)(tg e:Ez)(f:Sg->R (List Dz)):Prop:=PI X tg e (tI0 c E f)
theorem nH{X:Cx}{c:Ct}{E:XK}{tg e:Ez}{f:Sg->R (List Dz)}(h:PI0 X c E tg e f):PIf X c E tg e f:=PI.imp h fun σ H Q ⟨ρ,F,ab,k⟩=>
 ⟨ρ,F,ab,k.imp fun xs _ q J a H' s y=>q J (fun _=>none) a H' s (fun _ _ z=>nomatch z) y⟩
def l3{H:Hp}:bA (fun _=>none) H:=fun _ _ z=>nomatch z
noncomputable def dI:Dz->R (List Dz)
 | .list xs=>if xs.length<=16777216 then .ok xs else .bad
 | .tuple xs=>if xs.length<=16777216 then .ok xs else .bad
 | .str z=>if z.cps.toList.length<=16777216 then .ok (z.cps.toList.map fun u=>.str ⟨#[u]⟩) else .bad
 | _=>.bad
theorem aEA{K:Frag}{F B H:Hp}{a:Az}{vs:List V}{xs:List Dz}(h:xs.length<=16777216)(g:∀ H1,bA F H1->bA B H1->SqL K H1 a vs)(c:DatVs K F vs xs):Yld K (Itl K a) F B xs where
 len:=by rw[dY];exact h
 go:=fun i f H1 h1 h2 b hi=>by
  have q:=g H1 (fun x o z=>h2 x o (h1 x o z)) b
  exact ⟨vs,vs[i]'(by rw[c.length];exact hi),q,by simp⟩
 yld:=fun i f H1 v H2 x h1 h2 b y e=>by
  obtain ⟨rfl,y⟩:=y
  have q:=y vs (g _ (fun x o z=>h2 x o (h1 x o z)) b)
  obtain ⟨d,e2,r⟩:=c.get q
  rw[e] at e2
  cases e2
  exact ⟨f,Ext.refl h2,r.same h1⟩
 stop:=fun f H1 h1 h2 b=>⟨vs,g H1 (fun x o z=>h2 x o (h1 x o z)) b,by rw[c.length];exact A2 _⟩
theorem aGM{K:Frag}{F B:Hp}{a:Az}{vs:List V}{xs:List Dz}(h:xs.length<=16777216)(f:SqT K F a vs)(b:DatVs K F vs xs):Yld K (Itt K a) F B xs where
 len:=by rw[dY];exact h
 go:=fun i c H1 h1 h2 g hi=>by
  have q:=f.same (H':=H1) (fun x o z=>h2 x o (h1 x o z))
  exact ⟨vs,vs[i]'(by rw[b.length];exact hi),q,by simp⟩
 yld:=fun i c H1 v H2 x h1 h2 g y e=>by
  obtain ⟨rfl,y⟩:=y
  have q:=y vs (f.same (fun x o z=>h2 x o (h1 x o z)))
  obtain ⟨d,e2,r⟩:=b.get q
  rw[e] at e2
  cases e2
  exact ⟨c,Ext.refl h2,r.same h1⟩
 stop:=fun c H1 h1 h2 g=>⟨vs,f.same (fun x o z=>h2 x o (h1 x o z)),by rw[b.length];exact A2 _⟩
theorem aGN{K:Frag}{F B:Hp}{z:Str}(c:z.cps.toList.length<=16777216):Yld K (Its z) F B (z.cps.toList.map fun u=>.str ⟨#[u]⟩) where
 len:=by rw[dY,AH];exact c
 go:=fun i a H1 h1 h2 b hi=>by
  rw[AH,CG] at hi
  exact hi
 yld:=fun i a H1 v H2 x h1 h2 b y e=>by
  obtain ⟨rfl,u,d,rfl⟩:=y
  rw[AS,D5,d] at e
  cases e
  exact ⟨a,Ext.refl h2,.str _⟩
 stop:=fun a H1 h1 h2 b=>by
  show (z.cps.toList.map _).length=z.cps.size
  rw[AH,CG]
section
variable{X:Cx}{c:Ct}{E:XK}{tg e a b:Ez}{pos:Pos}
theorem aRW{f:Sg->R Dz}(j:X.K=c.K)(h:PD X c E e f):PI0 X c E tg e (e1 dI f):=PI.imp (PI.or (aJV h) (aJ5 h)) fun σ H Q ⟨ρ,F,ab,k⟩=>by
 have b:=Rk.bind k
 cases a:f ρ with
 | bad=>rw[a] at b;exact b.elim
 | ex x=>rw[a] at b;exact .inl ⟨ρ,F,ab,by rw[a];exact b⟩
 | ok d=>
  rw[a] at b
  have k2:=Rk.ok b
  unfold dI at k2
  split at k2
  .rename_i xs
   split at k2
   .rename_i g
    refine .inl ⟨ρ,F,ab,?_⟩
    rw[a]
    intro v i H' s r
    obtain ⟨p,vs,rfl,h1,h2⟩:=DatV.lst_of r
    refine ⟨p,rfl,.inl ⟨⟨vs,?_⟩,?_⟩⟩
    · rw [j]; exact h1.same s.fh
    · rw [j]; exact Rk.ok k2 _ i H' s (aEA (H := H') g (fun H1 q _ => h1.same q) h2)
   .exact k2.elim
  .rename_i xs
   split at k2
   .rename_i g
    refine .inl ⟨ρ,F,ab,?_⟩
    rw[a]
    intro v i H' s r
    obtain ⟨p,vs,rfl,h1,h2⟩:=DatV.tup_of r
    refine ⟨p,rfl,.inr ⟨⟨vs,?_⟩,?_⟩⟩
    · rw [j]; exact h1.same s.fh
    · rw [j]; exact Rk.ok k2 _ i H' s (aGM g h1 h2)
   .exact k2.elim
  .rename_i z
   split at k2
   .rename_i g
    refine .inr ⟨ρ,F,ab,?_⟩
    rw[a]
    intro v i H' s r
    obtain rfl:=DatV.str_of r
    exact ⟨z,rfl,Rk.ok k2 _ i H' s (aGN g)⟩
   .exact k2.elim
  .exact k2.elim
theorem wX{f:Sg->R Dz}(j:X.K=c.K)(h:PR X c E e f):PIf X c E tg e (e1 dI f):=PI.imp (PI.or (aJV h) (aJ5 h)) fun σ H Q ⟨ρ,F,ab,k⟩=>by
 have b:=Rk.bind k
 cases a:f ρ with
 | bad=>rw[a] at b;exact b.elim
 | ex x=>rw[a] at b;exact .inl ⟨ρ,F,ab,by rw[a];exact b⟩
 | ok d=>
  rw[a] at b
  have k2:=Rk.ok b
  unfold dI at k2
  split at k2
  .rename_i xs
   split at k2
   .rename_i g
    refine .inl ⟨ρ,F,ab,?_⟩
    rw[a]
    intro v i H' s r
    obtain ⟨p,vs,rfl,h1,h2⟩:=bC.lst_of s.fh r
    refine ⟨p,rfl,.inl ⟨⟨vs,?_⟩,?_⟩⟩
    · rw [j]; exact h1
    · rw [j]; exact Rk.ok k2 _ H' i H' s (eJ _) (aEA (H := H') g (fun H1 _ q => h1.same q) h2)
   .exact k2.elim
  .rename_i xs
   split at k2
   .rename_i g
    refine .inl ⟨ρ,F,ab,?_⟩
    rw[a]
    intro v i H' s r
    obtain ⟨p,vs,rfl,h1,_,h2⟩:=bC.tup_of s.fh r
    refine ⟨p,rfl,.inr ⟨⟨vs,?_⟩,?_⟩⟩
    · rw [j]; exact h1.same s.fh
    · rw [j]; exact Rk.ok k2 _ H' i H' s (eJ _) (aGM g h1 h2)
   .exact k2.elim
  .rename_i z
   split at k2
   .rename_i g
    refine .inr ⟨ρ,F,ab,?_⟩
    rw[a]
    intro v i H' s r
    obtain rfl:=bC.str_of r
    exact ⟨z,rfl,Rk.ok k2 _ H' i H' s (eJ _) (aGN g)⟩
   .exact k2.elim
  .exact k2.elim
noncomputable def jZ(lo:Int)(n:Nat):List Dz:=(List.range n).map fun i:Nat=>.int (lo+i)
def fZ(lo hi:Int):R (List Dz):=if -4611686018427387904<=lo/\lo < 4611686018427387904 /\ -4611686018427387904<=hi/\hi < 4611686018427387904/\hi - lo<=16777216 then .ok (jZ lo (hi - lo).toNat) else .bad
def fS(f:Sg->R Dz):Sg->R (List Dz):=fun ρ=>(f ρ).bind fun x=>match x with
 | .int j=>fZ 0 j
 | _=>.bad
def qI(f g:Sg->R Dz):Sg->R (List Dz):=fun ρ=>(f ρ).bind fun x=>(g ρ).bind fun y=>match x,y with
 | .int i,.int j=>fZ i j
 | _,_=>.bad
theorem aBR{K:Frag}{F B:Hp}{lo:Int}{n:Nat}(d:n<=16777216):Yld K (Itr lo n) F B (jZ lo n) where
 len:=by unfold jZ;rw[dY,AH,A0];exact d
 go:=fun i a H1 h1 h2 b hi=>by unfold jZ at hi;rw[AH,A0] at hi;exact hi
 yld:=fun i a H1 v H2 x h1 h2 b y e=>by
  obtain ⟨rfl,rfl⟩:=y
  unfold jZ at e
  rw[AS] at e
  cases q:(List.range n)[i]? with
  | none=>rw[q] at e;cases e
  | some j=>
   rw[q] at e
   cases e
   obtain ⟨f,c⟩:=A3.mp q
   rw[EM] at c
   subst c
   exact ⟨a,Ext.refl h2,.int _⟩
 stop:=fun a H1 h1 h2 b=>by show n<=_;unfold jZ;rw[AH,A0];exact A2 _
theorem iH{f:Sg->R Dz}(h:PI X tg e (aNR (gF (tV (bH c) c E f) kI))):PI0 X c E tg e (fS f):=PI.imp h fun σ H Q ⟨ρ,F,ab,k⟩=>by
 refine ⟨ρ,F,ab,(Rk.bind k).imp fun x _ q v d H' s r=>?_⟩
 cases x with
 | int j=>
  have a:Rk c E F H (fZ 0 j) _:=q
  unfold fZ at a
  split at a
  .rename_i g
   obtain rfl:=bC.int_of r
   refine ⟨j,rfl,by omega,by omega,?_⟩
   have b:(j - 0).toNat=j.toNat:=by rw[Int.sub_zero]
   rw[<-b]
   exact Rk.ok a _ d H' s (aBR (by omega))
  .exact a.elim
 | _=>exact q.elim
theorem aAA{f g:Sg->R Dz}(h:PI X tg e (aNS (gF (tV (bH c) c E f) (gF (tV (bH c) c E g) kI)))):PI0 X c E tg e (qI f g):=PI.imp h fun σ H Q ⟨ρ,F,ab,k⟩=>by
 refine ⟨ρ,F,ab,(Rk.bind k).imp fun x _ q v d H1 b l=>⟨ρ,d,ab.ext b,((Rk.bind q).ext b).imp fun y _ q w m H' s r=>?_⟩⟩
 cases x with
 | int i=>
  cases y with
  | int j=>
   have a:Rk c E F H (fZ i j) _:=q
   unfold fZ at a
   split at a
   .rename_i n
    obtain rfl:=bC.int_of l
    obtain rfl:=bC.int_of r
    exact ⟨i,j,rfl,⟨by omega,by omega,by omega,by omega⟩,Rk.ok a _ m H' (b.trans s) (aBR (by omega))⟩
   .exact a.elim
  | _=>exact q.elim
 | _=>cases y<;>exact q.elim
end
noncomputable def fA(js:List (O6 Nat))(ρ:Sg):Sg:=js.map fun o=>o.bind fun j=>(ρ[j]?).join
theorem aAB{α:Type}{js:List (O6 Nat)}{ρ:List (O6 α)}{i:Nat}{a:α}(h:(js.map fun o=>o.bind fun j=>(ρ[j]?).join)[i]? = some (some a)):∃ j,js[i]? = some (some j)/\ρ[j]? = some (some a):=by
 rw[AS] at h
 cases e:js[i]? with
 | none=>rw[e] at h;cases h
 | some o=>
  rw[e] at h
  have h':(o.bind fun j=>(ρ[j]?).join)=some a:=CA h
  cases o with
  | none=>cases h'
  | some j=>
   have h2:(ρ[j]?).join=some a:=h'
   cases e2:ρ[j]? with
   | none=>rw[e2] at h2;cases h2
   | some o2=>rw[e2] at h2;have:o2=some a:=h2;subst this;exact ⟨j,rfl,e2⟩
theorem aAC{α:Type}{js:List (O6 Nat)}{ρ:List (O6 α)}{i j:Nat}{a:α}(h:js[i]? = some (some j))(h2:ρ[j]? = some (some a)):(js.map fun o=>o.bind fun j=>(ρ[j]?).join)[i]? = some (some a):=by
 rw[AS,h]
 show some ((ρ[j]?).join)=_
 rw[h2];rfl
def aAD(js:List (O6 Nat)):Prop:=∀ (i k j:Nat),js[i]? = some (some j)->js[k]? = some (some j)->i=k
theorem yG{js:List (O6 Nat)}(h:js.Pairwise fun a b=>a=none\/a≠b):aAD js:=fun i k j h1 h2=>by
 obtain ⟨c,e1⟩:=A3.mp h1
 obtain ⟨d,e2⟩:=A3.mp h2
 rw[List.pairwise_iff_getElem] at h
 rcases FY i k with q|q|q
 .rcases h i k c d q with z|z
  · rw [e1] at z; cases z
  · exact absurd (e1.trans e2.symm) z
 .exact q
 .rcases h k i d c q with z|z
  · rw [e2] at z; cases z
  · exact absurd (e2.trans e1.symm) z
theorem Ab.cap{c:Ct}{ρ:Sg}{σ e:L2.St}{F H:Hp}{js:List (O6 Nat)}(b:Ab c ρ σ F H)(r:aAD js)(k:gR (mR js σ) e):Ab c (fA js ρ) e F H where
 len:=by rw[k.1];unfold fA mR;rw[AH,AH]
 fh:=b.fh
 slot:=fun i a h=>by
  obtain ⟨j,h1,h2⟩:=aAB h
  obtain ⟨v,l,t⟩:=b.slot j a h2
  exact ⟨v,k.2 i v (aAC h1 l),t⟩
 apart:=fun i p a q n h h' o o'=>by
  obtain ⟨j,h1,h2⟩:=aAB h
  obtain ⟨m,d,f⟩:=aAB h'
  have s:j≠m:=fun z=>n (r i p j h1 (by rw[d,z]))
  obtain ⟨v,l,_⟩:=b.slot j a h2
  obtain ⟨u,g,_⟩:=b.slot m q f
  rw[k.2 i v (aAC h1 l),k.2 p u (aAC d g),<-l,<-g]
  exact b.apart j m a q s h2 f o o'
 f0:=b.f0
 h0:=b.h0
 n0:=b.n0
 t0:=b.t0
noncomputable def R.noEx{α:Type}:R α->R α
 | .ex _=>.bad
 | r=>r
@[simp] theorem R.noEx_ok{α:Type}(a:α):(R.ok a).noEx=.ok a:=id rfl
noncomputable def rT{α:Type}:O6 α->R α
 | some a=>.ok a
 | none=>.bad
@[simp] theorem l5{α:Type}(a:α):rT (some a)=.ok a:=id rfl
noncomputable def compL(fs:Dz->Sg->O6 Sg)(ft:Sg->R Bool)(fe:Sg->R Dz)(ρ0:Sg):List Dz->R (List Dz)
 | []=>.ok []
 | x::t=>(rT (fs x ρ0)).bind fun ρ1=>(ft ρ1).noEx.bind fun b=>if b=true then (fe ρ1).noEx.bind fun y=>(compL fs ft fe ρ0 t).bind fun ys=>.ok (y::ys) else compL fs ft fe ρ0 t
theorem rW{fs:Dz->Sg->O6 Sg}{a:Sg->R Bool}{fe:Sg->R Dz}{ρ0:Sg}{e:Er}:∀ {xs:List Dz},compL fs a fe ρ0 xs≠.ex e
 | []=>fun h=>by cases h
 | x::t=>fun h=>by
  unfold compL at h
  cases h1:fs x ρ0 with
  | none=>rw[h1] at h;cases h
  | some ρ1=>
   rw[h1] at h
   have h:((a ρ1).noEx.bind fun b=>if b=true then (fe ρ1).noEx.bind fun y=>(compL fs a fe ρ0 t).bind fun ys=>.ok (y::ys) else compL fs a fe ρ0 t)=.ex e:=h
   cases h2:a ρ1 with
   | bad=>rw[h2] at h;cases h
   | ex _=>rw[h2] at h;cases h
   | ok b=>
    rw[h2] at h
    have h:(if b=true then (fe ρ1).noEx.bind fun y=>(compL fs a fe ρ0 t).bind fun ys=>.ok (y::ys) else compL fs a fe ρ0 t)=.ex e:=h
    cases b with
    | false=>exact rW (xs:=t) h
    | true=>
     have h:((fe ρ1).noEx.bind fun y=>(compL fs a fe ρ0 t).bind fun ys=>.ok (y::ys))=.ex e:=h
     cases d:fe ρ1 with
     | bad=>rw[d] at h;cases h
     | ex _=>rw[d] at h;cases h
     | ok y=>
      rw[d] at h
      have h:((compL fs a fe ρ0 t).bind fun ys=>.ok (y::ys))=.ex e:=h
      cases c:compL fs a fe ρ0 t with
      | bad=>rw[c] at h;cases h
      | ex e'=>exact rW (xs:=t) (e:=e') c
      | ok ys=>rw[c] at h;cases h
theorem aIF{fs:Dz->Sg->O6 Sg}{a:Sg->R Bool}{fe:Sg->R Dz}{ρ0:Sg}{x:Dz}{t ys:List Dz}(h:compL fs a fe ρ0 (x::t)=.ok ys) :
  ∃ ρ1 b,fs x ρ0=some ρ1/\a ρ1=.ok b/\((b=true/\∃ y zs,fe ρ1=.ok y/\compL fs a fe ρ0 t=.ok zs/\ys=y::zs)\/(b=false/\compL fs a fe ρ0 t=.ok ys)):=by
 unfold compL at h
 cases h1:fs x ρ0 with
 | none=>rw[h1] at h;cases h
 | some ρ1=>
  rw[h1] at h
  have h:((a ρ1).noEx.bind fun b=>if b=true then (fe ρ1).noEx.bind fun y=>(compL fs a fe ρ0 t).bind fun ys=>.ok (y::ys) else compL fs a fe ρ0 t)=.ok ys:=h
  cases h2:a ρ1 with
  | bad=>rw[h2] at h;cases h
  | ex _=>rw[h2] at h;cases h
  | ok b=>
   rw[h2] at h
   have h:(if b=true then (fe ρ1).noEx.bind fun y=>(compL fs a fe ρ0 t).bind fun ys=>.ok (y::ys) else compL fs a fe ρ0 t)=.ok ys:=h
   refine ⟨ρ1,b,rfl,h2,?_⟩
   cases b with
   | false=>exact .inr ⟨rfl,h⟩
   | true=>
    refine .inl ⟨rfl,?_⟩
    have h:((fe ρ1).noEx.bind fun y=>(compL fs a fe ρ0 t).bind fun ys=>.ok (y::ys))=.ok ys:=h
    cases d:fe ρ1 with
    | bad=>rw[d] at h;cases h
    | ex _=>rw[d] at h;cases h
    | ok y=>
     rw[d] at h
     have h:((compL fs a fe ρ0 t).bind fun ys=>.ok (y::ys))=.ok ys:=h
     cases c:compL fs a fe ρ0 t with
     | bad=>rw[c] at h;cases h
     | ex e'=>rw[c] at h;cases h
     | ok zs=>rw[c] at h;cases h;exact ⟨y,zs,rfl,rfl,rfl⟩
def f6(js:List (O6 Nat))(fi:Sg->R (List Dz))(fs:Dz->Sg->O6 Sg)(ft:Sg->R Bool)(fe:Sg->R Dz):Sg->R (List Dz):=fun ρ=>(fi ρ).bind fun xs=>compL fs ft fe (fA js ρ) xs
noncomputable def gE:Sg->R Bool:=fun _=>.ok true
section
variable{X:Cx}{c:Ct}{E:XK}{e a b:Ez}{pos:Pos}
theorem eX:L2.PIf X [] (tTf c E gE):=fun a5 s σ H Q I ⟨ρ,F,ab,k⟩=>L2.eX a5 s σ H Q I (Rk.ok k F H (Ext.refl ab.fh))
theorem aEB{js:List (O6 Nat)}{is:List Nat}{σ b a:L2.St}(k:gR (mR js σ) b)(c:a.length=b.length)(h:∀ j:Nat,j∉is->a[j]? = b[j]?)(hi:∀ i∈is,js[i]? = some none):gR (mR js σ) a:=
 ⟨c.trans k.1,fun i v e=>by
  by_cases q:i∈is
  .unfold mR at e
   rw[AS,hi i q] at e
   cases e
  .rw[h i q];exact k.2 i v e⟩
theorem aBS{N:List Str}{js:List (O6 Nat)}{scope:Scope}{tg r:Ez}{m:List Ez}{fi:Sg->R (List Dz)}{fs:Dz->Sg->O6 Sg}{G:Sg->R Bool}{fe:Sg->R Dz}{is:List Nat}(ho:aAD js)(hi:∀ i∈is,js[i]? = some none)
  (hb:∀ (cl:List (Str×Az)) (C:Az) (s:S9) (H0:Hp) (fp:List Az),∃ g,PG (iK X N scope cl C s H0 fp) tg g/\Tg c g fs is/\L2.PIf (iK X N scope cl C s H0 fp) m (tTf c E0 G)/\PD (iK X N scope cl C s H0 fp) c E0 r fe)
  {σ:L2.St} {H:Hp} {Q:VK} (h:tV (zZ c) c E (f6 js fi fs G fe) σ H Q):vA X N scope js tg r m (tI c E fi) σ H Q:=by
 obtain ⟨ρ,F,ab,k⟩:=h
 refine ⟨ρ,F,ab,(Rk.bind k).imp fun xs _ q J B F1 H1 D W A=>?_⟩
 cases I:compL fs G fe (fA js ρ) xs with
 | bad=>rw[I] at q;exact q.elim
 | ex e=>exact absurd I rW
 | ok ys=>
  rw[I] at q
  refine aGB (n:=xs.length) (fun i b H'=>∃ F',Ext F1 H1 F' H'/\b.length<=i/\∃ zs rest,DatVs c.K F' b zs/\compL fs G fe (fA js ρ) (xs.drop i)=.ok rest/\zs++rest=ys) A.len ⟨F1,Ext.refl D.fh,A2 _,[],ys,.nil,I,rfl⟩ ?_ ?_ ?_ ?_ ?_
  .rintro i b H' _ ⟨F',_,h,_⟩;exact h
  .rintro i b H' d ⟨F',e1,_⟩
   exact A.go i F' H' e1.ff e1.fh (fun a o z=>e1.hh a o (W a o z)) d
  .rintro b H' ⟨F',e1,_⟩
   exact A.stop F' H' e1.ff e1.fh (fun a o z=>e1.hh a o (W a o z))
  .rintro i v b Ha Hb d ⟨F',e1,hlen,zs,rest,hd,hr,hz⟩ hy
   obtain ⟨S,e2,rx⟩:=A.yld i F' Ha v Hb xs[i] e1.ff e1.fh (fun a o z=>e1.hh a o (W a o z)) hy (AN d)
   have M:xs.drop i=xs[i]::xs.drop (i+1):=CV d
   rw[M] at hr
   obtain ⟨j,bb,hs,ht,f⟩:=aIF hr
   intro cl C s H0 fp
   obtain ⟨g,hg,T,Y,he⟩:=hb cl C s H0 fp
   refine ⟨g,_,_,hg,Y,he,fun t k0=>?_⟩
   have O:Ab c (fA js ρ) t S Hb:=(ab.ext (D.trans (e1.trans e2))).cap ho k0
   refine T v xs[i] _ j t S Hb _ O rx hs fun σ1 V P u=>⟨aEB k0 V P hi,j,S,u,?_⟩
   rw[ht]
   intro Z H3 x
   rcases f with ⟨rfl,y,ws,U,l,rfl⟩|⟨rfl,l⟩
   .refine wU ⟨j,Z,u.ext x,?_⟩
    rw[U]
    intro w F4 H4 e4 L
    refine ⟨F4,e1.trans (e2.trans (x.trans e4)),by rw[AZ,B6];omega,zs++[y],ws,(hd.same (e2.trans (x.trans e4)).ff).append (.cons L .nil),l,by rw[ET];exact hz⟩
   .exact wT ⟨Z,e1.trans (e2.trans x),by omega,zs,rest,hd.same (e2.trans x).ff,l,hz⟩
  .rintro b H' ⟨F',e1,_,zs,rest,hd,hr,hz⟩ p hp
   rw[GJ] at hr
   cases hr
   rw[CM] at hz
   subst hz
   exact Rk.ok q (.ref p) F' _ (D.trans (e1.trans (Ext.own e1.fh hp))) ⟨p,b,rfl,cP (D.trans e1).hh hp,bQ,cP e1.fh hp,hd⟩
theorem g8{N:List Str}{js:List (O6 Nat)}{scope:Scope}{tg f:Ez}{d:List Ez}{k:Sg->R (List Dz)}{fs:Dz->Sg->O6 Sg}{j:Sg->R Bool}{fe:Sg->R Dz}{is:List Nat}(h:PE X e (vA X N scope js tg f d (tI c E k)))(m:js.Pairwise fun a b=>a=none\/a≠b)(hi:∀ i∈is,js[i]? = some none)
 (l:∀ (cl:List (Str×Az)) (C:Az) (s:S9) (H0:Hp) (fp:List Az),∃ g,PG (iK X N scope cl C s H0 fp) tg g/\Tg c g fs is/\L2.PIf (iK X N scope cl C s H0 fp) d (tTf c E0 j)/\PD (iK X N scope cl C s H0 fp) c E0 f fe) :
 PN X c E e (f6 js k fs j fe):=PE.imp h fun σ H Q q=>aBS (yG m) hi l q
theorem aGO{i:Nat}{st:Stmt}{N:List Str}{js:List (O6 Nat)}{scope:Scope}{tg e:Ez}{d:List Ez}{j:Sg->R (List Dz)}{fs:Dz->Sg->O6 Sg}{f:Sg->R Bool}{fe:Sg->R Dz}{is:List Nat}(h:PS X st (oM (vA X N scope js tg e d (tI c E j)) (m9 i)))(l:js.Pairwise fun a b=>a=none\/a≠b)(hi:∀ i∈is,js[i]? = some none)
 (k:∀ (cl:List (Str×Az)) (C:Az) (s:S9) (H0:Hp) (fp:List Az),∃ g,PG (iK X N scope cl C s H0 fp) tg g/\Tg c g fs is/\L2.PIf (iK X N scope cl C s H0 fp) d (tTf c E0 f)/\PD (iK X N scope cl C s H0 fp) c E0 e fe) :
 PSf X c E st (gM i (f6 js j fs f fe)):=g7 (PS.imp h fun D σ H q=>aBS (yG l) hi k q)
end
noncomputable def lO(fs:Dz->Sg->O6 Sg)(fb:Sg->R Fw):List Dz->Sg->R Fw
 | [],ρ=>.ok (.nx ρ)
 | x::t,ρ=>(rT (fs x ρ)).bind fun ρ1=>(fb ρ1).bind fun w=>match w with
  | .nx ρ2=>lO fs fb t ρ2
  | .ct ρ2=>lO fs fb t ρ2
  | .bk ρ2=>.ok (.nx ρ2)
  | .rt a=>.ok (.rt a)
def lP(fi:Sg->R (List Dz))(fs:Dz->Sg->O6 Sg)(fb:Sg->R Fw):Sg->R Fw:=fun ρ=>(fi ρ).bind fun xs=>lO fs fb xs ρ
section
variable{X:Cx}{c:Ct}{E:XK}{e a b:Ez}{pos:Pos}{st:Stmt}
theorem eO{g:TG}{G:Sg->R (List Dz)}{fs:Dz->Sg->O6 Sg}{is:List Nat}{fb:Sg->R Fw}(K:Tg c g fs is)(h:PS X st (aLW (tI0 c E G) g (tSf c E fb))):PSf X c E st (lP G fs fb):=PS.imp h fun D σ H C=>by
 obtain ⟨ρ,F,ab,k⟩:=C
 refine ⟨ρ,F,ab,(Rk.bind k).imp fun xs _ q J x H1 p B=>?_⟩
 refine ⟨fun i m σ H=>m=xs.length - i/\i<=xs.length/\∃ ρ' b,bA x b/\Ab c ρ' σ b H/\Rk c E b H (lO fs fb (xs.drop i) ρ') (kL c F D),⟨xs.length,by simp,B3 _,ρ,x,eJ _,ab.ext p,Rk.ext p q⟩,?_⟩
 rintro i m l H2 ⟨rfl,hi,ρ2,F2,s2,ab2,k2⟩
 by_cases j:i < xs.length
 .refine .inr ⟨B.go i F2 H2 s2 ab2.fh l3 j,fun d H'=>∃ ρ' b,bA x b/\Ab c ρ' d b H'/\Rk c E b H' (lO fs fb (xs.drop (i+1)) ρ') (kL c F D),fun d H' w=>⟨xs.length - (i+1),by omega,rfl,j,w⟩,fun v H3 y=>?_⟩
  obtain ⟨u,s,I⟩:=B.yld i F2 H2 v H3 xs[i] s2 ab2.fh l3 y (AN j)
  have t:xs.drop i=xs[i]::xs.drop (i+1):=CV j
  rw[t] at k2
  unfold lO at k2
  cases h1:fs xs[i] ρ2 with
  | none=>rw[h1] at k2;exact k2.elim
  | some ρ3=>
   rw[h1] at k2
   refine K v xs[i] ρ2 ρ3 l u H3 _ (ab2.ext s) I h1 fun L _ _ A=>⟨ρ3,u,A,?_⟩
   have k3:Rk c E F2 H2 (fb ρ3) _:=Rk.bind k2
   cases h2:fb ρ3 with
   | bad=>rw[h2] at k3;exact k3.elim
   | ex e=>rw[h2] at k3;exact k3
   | ok w=>
    rw[h2] at k3
    have n:=Rk.ok k3
    have M:bA F u:=fun a o z=>s.ff a o (s2 a o (p.ff a o z))
    cases w with
    | nx ρ4=>exact fun d b H' s' f=>⟨ρ4,b,fun a o z=>s' a o (s.ff a o (s2 a o z)),f,n⟩
    | ct ρ4=>exact fun d b H' s' f=>⟨ρ4,b,fun a o z=>s' a o (s.ff a o (s2 a o z)),f,n⟩
    | bk ρ4=>exact fun d b H' s' f=>Rk.ok n d b H' (fun a o z=>s' a o (M a o z)) f
    | rt a=>exact fun v b H' z r=>Rk.ok n v b H' z r
 .have e:i=xs.length:=by omega
  subst e
  rw[GJ] at k2
  exact .inl ⟨B.stop F2 H2 s2 ab2.fh l3,Rk.ok k2 l F2 H2 (fun a o z=>s2 a o (p.ff a o z)) ab2⟩
end
noncomputable def dR(t:Sg->R Bool)(b:Sg->R Fw):Nat->Sg->R Fw
 | 0,_=>.bad
 | n+1,ρ=>(t ρ).bind fun k=>if k=true then (b ρ).bind fun w=>match w with
   | .nx ρ'=>dR t b n ρ'
   | .ct ρ'=>dR t b n ρ'
   | .bk ρ'=>.ok (.nx ρ')
   | .rt a=>.ok (.rt a)
  else .ok (.nx ρ)
open Classical in
noncomputable def cX(t:Sg->R Bool)(b:Sg->R Fw):Sg->R Fw:=fun ρ=>if h:∃ n,dR t b n ρ≠.bad then dR t b h.choose ρ else .bad
theorem R.bind_mono{α β:Type}{r:R α}{f g:α->R β}(h:r.bind f≠.bad)(b:∀ a,f a≠.bad->g a=f a):r.bind g=r.bind f:=by
 cases r with
 | bad=>rfl
 | ex e=>rfl
 | ok a=>exact b a h
theorem nI{t:Sg->R Bool}{b:Sg->R Fw}:∀ {n m:Nat} {ρ:Sg},n<=m->dR t b n ρ≠.bad->dR t b m ρ=dR t b n ρ
 | 0,_,_,_,h=>absurd rfl h
 | n+1,0,_,hm,_=>absurd hm (by omega)
 | n+1,m+1,ρ,hm,h=>by
  unfold dR at h ⊢
  refine R.bind_mono h fun k hk=>?_
  cases k with
  | false=>rfl
  | true=>
   refine R.bind_mono (r:=b ρ) hk fun w c=>?_
   cases w with
   | nx ρ'=>exact nI (by omega) c
   | ct ρ'=>exact nI (by omega) c
   | bk ρ'=>rfl
   | rt a=>rfl
theorem t8{t:Sg->R Bool}{b:Sg->R Fw}{ρ:Sg}{n:Nat}(h:dR t b n ρ≠.bad):cX t b ρ=dR t b n ρ:=by
 have a:∃ n,dR t b n ρ≠.bad:=⟨n,h⟩
 unfold cX
 rw[dif_pos a]
 have c:=a.choose_spec
 rcases Nat.le_total n a.choose with q|q
 · exact nI q h
 · exact (nI q c).symm
theorem t9 (t : Sg -> R Bool) (b : Sg -> R Fw) (ρ : Sg) : cX t b ρ = (t ρ).bind fun k => if k = true then (b ρ).bind fun w => match w with
      | .nx ρ' => cX t b ρ'
      | .ct ρ' => cX t b ρ'
      | .bk ρ' => .ok (.nx ρ')
      | .rt a => .ok (.rt a)
    else .ok (.nx ρ) := by
  have j : ∀ n, (∀ k, t ρ = .ok k -> k = true -> ∀ w, b ρ = .ok w -> ∀ ρ', (w = .nx ρ' \/ w = .ct ρ') -> cX t b ρ' = dR t b n ρ') -> dR t b (n + 1) ρ = (t ρ).bind fun k => if k = true then (b ρ).bind fun w => match w with
      | .nx ρ' => cX t b ρ'
      | .ct ρ' => cX t b ρ'
      | .bk ρ' => .ok (.nx ρ')
      | .rt a => .ok (.rt a)
    else .ok (.nx ρ) := by
    intro n h
    unfold dR
    cases d : t ρ with
    | bad => rfl
    | ex e => rfl
    | ok k =>
      cases k with
      | false => rfl
      | true =>
        show ((b ρ).bind _) = ((b ρ).bind _)
        cases f : b ρ with
        | bad => rfl
        | ex e => rfl
        | ok w =>
          cases w with
          | nx ρ' => exact (h true d rfl _ f ρ' (.inl rfl)).symm
          | ct ρ' => exact (h true d rfl _ f ρ' (.inr rfl)).symm
          | bk ρ' => rfl
          | rt a => rfl
  by_cases m : ∃ n, dR t b n ρ ≠ .bad
  · obtain ⟨n, i⟩ := m
    cases n with
    | zero => exact absurd rfl i
    | succ n =>
      rw [t8 i]
      refine j n fun k d p w f ρ' l => ?_
      subst p
      refine t8 fun z => i ?_
      unfold dR
      rw [d]
      show ((b ρ).bind _) = _
      rw [f]
      rcases l with rfl | rfl
      · exact z
      · exact z
  · have o : cX t b ρ = .bad := by unfold cX; rw [dif_neg m]
    rw [o]
    have c : ∀ n, dR t b n ρ = .bad := fun n => GB fun z => m ⟨n, z⟩
    cases d : t ρ with
    | bad => rfl
    | ex e => have := c 1; unfold dR at this; rw [d] at this; cases this
    | ok k =>
      cases k with
      | false => have := c 1; unfold dR at this; rw [d] at this; cases this
      | true =>
        show R.bad = ((b ρ).bind _)
        cases f : b ρ with
        | bad => rfl
        | ex e => have := c 1; unfold dR at this; rw [d] at this; change ((b ρ).bind _) = _ at this; rw [f] at this; cases this
        | ok w =>
          have g : ∀ ρ', (w = .nx ρ' \/ w = .ct ρ') -> cX t b ρ' = .bad := fun ρ' l => by
            unfold cX
            rw [dif_neg]
            rintro ⟨n, i⟩
            refine i ?_
            have := c (n + 1)
            unfold dR at this
            rw [d] at this
            change ((b ρ).bind _) = _ at this
            rw [f] at this
            rcases l with rfl | rfl <;> exact this
          cases w with
          | nx ρ' => exact (g ρ' (.inl rfl)).symm
          | ct ρ' => exact (g ρ' (.inr rfl)).symm
          | bk ρ' => have := c 1; unfold dR at this; rw [d] at this; change ((b ρ).bind _) = _ at this; rw [f] at this; cases this
          | rt a => have := c 1; unfold dR at this; rw [d] at this; change ((b ρ).bind _) = _ at this; rw [f] at this; cases this
section
variable{X:Cx}{c:Ct}{E:XK}{st:Stmt}
theorem jP{t:Sg->R Bool}{fb:Sg->R Fw}(h:PS X st (aJF (tTf c E t) (tSf c E fb))):PSf X c E st (cX t fb):=PS.imp h fun D σ H s=>by
 obtain ⟨ρ,F,ab,k⟩:=s
 have A:∃ n,dR t fb n ρ≠.bad:=GB fun z=>by
  have:cX t fb ρ=.bad:=by unfold cX;rw[dif_neg z]
  rw[this] at k
  exact k
 obtain ⟨n,y⟩:=A
 rw[t8 y] at k
 refine ⟨fun m σ H=>∃ ρ' d,bA F d/\Ab c ρ' σ d H/\Rk c E d H (dR t fb m ρ') (kL c F D),⟨n,ρ,F,eJ F,ab,k⟩,?_⟩
 rintro m p H1 ⟨ρ1,F1,s1,ab1,k1⟩
 cases m with
 | zero=>exact k1.elim
 | succ m=>
  unfold dR at k1
  refine ⟨ρ1,F1,ab1,(Rk.bind k1).imp fun b _ q u H2 e2=>?_⟩
  have j:=ab1.ext e2
  cases b with
  | false=>exact wT (Rk.ok q p u H2 (fun a o z=>e2.ff a o (s1 a o z)) j)
  | true=>
   refine wU ⟨fun f H'=>∃ ρ' d,bA F d/\Ab c ρ' f d H'/\Rk c E d H' (dR t fb m ρ') (kL c F D),fun f H' w=>⟨m,by omega,w⟩,ρ1,u,j,?_⟩
   have i:Rk c E F1 H1 (fb ρ1) _:=Rk.bind (r:=fb ρ1) q
   cases h2:fb ρ1 with
   | bad=>rw[h2] at i;exact i.elim
   | ex e=>rw[h2] at i;exact i
   | ok w=>
    rw[h2] at i
    have l:=Rk.ok i
    have x:bA F u:=fun a o z=>e2.ff a o (s1 a o z)
    cases w with
    | nx ρ4=>exact fun f d H' s' g=>⟨ρ4,d,fun a o z=>s' a o (x a o z),g,l⟩
    | ct ρ4=>exact fun f d H' s' g=>⟨ρ4,d,fun a o z=>s' a o (x a o z),g,l⟩
    | bk ρ4=>exact fun f d H' s' g=>Rk.ok l f d H' (fun a o z=>s' a o (x a o z)) g
    | rt a=>exact fun v d H' z r=>Rk.ok l v d H' z r
end
def spG(K:Frag)(mg:Str->O6 V9)(T F1:Hp)(n:Nat)(G:List Dz->R Dz):Sp:=fun vs H Q E=>∃ F ds,bA F1 F/\bA T F/\bA F H/\DatVs K F vs ds/\ds.length=n/\match G ds with
 | .bad=>False
 | .ok d=>∀ v F' H',Ext F H F' H'->DatV K F' v d->Q v H'
 | .ex e=>∀ a C F' H',Ext F H F' H'->rQ K mg F' e a C->E (.ref C) (some a) H'
def Beh(P:P9)(w:W9)(K:Frag)(mg:Str->O6 V9)(base:Hz)(T:Hp)(f:Az)(F1:Hp)(k n:Nat)(G:List Dz->R Dz):Prop:=
 ∃ fd ps,ps.length=n/\fY K fd ps []/\FnOk P w K mg base (CXe P w) k f fd ps (spG K mg T F1 n G)/\(PySem.W.keepIn K (.ref f)=true\/∃ oc od fd' sl,F1 f=some (FnO f ⟨oc,od,.func fd',sl⟩))
def gOf(P:P9)(w:W9)(K:Frag)(mg:Str->O6 V9)(base:Hz)(T:Hp):Gb:=⟨Beh P w K mg base T,T,w⟩
def spF(g:Gb)(K:Frag)(mg:Str->O6 V9)(n:Nat)(G:List A->R A):Sp:=fun vs H Q E=>∃ F as,bA g.T F/\bA F H/\AFs g K mg F as vs/\as.length=n/\match G as with
 | .bad=>False
 | .ok a=>∀ v F' H',Ext F H F' H'->AF g K mg F' a v->Q v H'
 | .ex e=>∀ a C F' H',Ext F H F' H'->rQ K mg F' e a C->E (.ref C) (some a) H'
def aY(P:P9)(w:W9)(K:Frag)(mg:Str->O6 V9)(base:Hz)(T:Hp)(k:Nat)(x:Str)(ps:List Str)(G:List A->R A):Prop:=Calls P w K mg base (CXe P w) k x ps (spF (gOf P w K mg base T) K mg ps.length G)
def aZ(n:Nat)(G:List A->R A)(f:Sg->R (List A)):Sg->R A:=fun ρ=>(f ρ).bind fun as=>if as.length=n then G as else .bad
theorem bN{X:Cx}{c:Ct}{E:XK}{e:Ez}{n:Nat}{G:List A->R A}{g:Gb}{K:Frag}{mg:Str->O6 V9}{f:Sg->R (List A)}(t:g=c.g)(x:K=c.K)(p:mg=c.mg)(h:PE X e (aHU (spF g K mg n G) [] E (tAv c E f))):PV X c E e (aZ n G f):=PE.imp h fun σ H Q d=>by
 obtain ⟨ρ,F,ab,k⟩:=d
 subst t x p
 refine ⟨ρ,F,ab,(Rk.bind k).imp fun i _ q vs u H1 b w=>?_⟩
 by_cases j:i.length=n
 .rw[AA j] at q
  refine ⟨u,i,fun a o z=>b.ff a o (ab.f0 a o (ab.t0 a o z)),b.fh,by rw[CM];exact w,j,?_⟩
  cases m:G i with
  | bad=>rw[m] at q;exact q
  | ok a=>rw[m] at q;exact fun v l H' s r=>Rk.ok q v l H' (b.trans s) r
  | ex e=>rw[m] at q;exact fun a C l H' s r=>q a C l H' ((ab.all.trans b).trans s) r
 .rw[AE j] at q;exact q.elim
def fnF(n:Nat)(fb:Sg->R Fw):List A->R A:=fun as=>(fb (as.map some++List.replicate (n - as.length) none)).bind fun w=>match w with
 | .rt (.l _)=>.bad
 | .rt a=>.ok a
 | .nx _=>.ok (.d .none)
 | _=>.bad
theorem AFs.get{g:Gb}{K:Frag}{mg:Str->O6 V9}{F:Hp}:∀ {as:List A} {vs:List V} {i:Nat} {a:A},AFs g K mg F as vs->as[i]? = some a->∃ v,vs[i]? = some v/\AF g K mg F a v
 | [],[],_,_,_,h=>by simp at h
 | a::as,v::vs,0,_,h,e=>by simp at e;subst e;exact ⟨v,rfl,h.1⟩
 | a::as,v::vs,i+1,_,h,e=>by
  obtain ⟨w,h1,h2⟩:=AFs.get (i:=i) h.2 (by simpa using e)
  exact ⟨w,by simpa using h1,h2⟩
theorem uA{α:Type}{c:List α}{n i:Nat}{a:α}(h:(c.map some++List.replicate n none)[i]? = some (some a)):c[i]? = some a:=by
 by_cases hi:i < c.length
 .rw[BF (by rw[AH];exact hi),AS] at h
  cases e:c[i]? with
  | none=>rw[e] at h;cases h
  | some b=>rw[e] at h;cases h;rfl
 .rw[B1 (by rw[AH];omega),C3] at h
  split at h
  · cases h
  · cases h
theorem aMN{g:Gb}{c:List (Str×Az)}{cls:Str->O6 ClSt}{K:Frag}{mg:Str->O6 V9}{w:W9}{F H:Hp}{d:List A}{vs:List V}{n:Nat}(f:bA g.T F)(s:bA F H)(h:AFs g K mg F d vs):Ab ⟨K,mg,w,F,H,g,c,cls⟩ (d.map some++List.replicate (n - d.length) none) (vs.map some++List.replicate (n - vs.length) none) F H where
 len:=by rw[AZ,AZ,AH,AH,BP,BP,h.len]
 fh:=s
 slot:=fun i a e=>by
  obtain ⟨v,h1,h2⟩:=h.get (uA e)
  refine ⟨v,?_,AO.of h2⟩
  have hi:i < vs.length:=(A3.mp h1).1
  rw[BF (by rw[AH];exact hi),AS,h1];rfl
 apart:=fun i j a b _ e1 _ o _=>by
  obtain ⟨v,h1,h2⟩:=h.get (uA e1)
  rw[AF.notOwn h2] at o
  cases o
 f0:=eJ F
 h0:=eJ H
 n0:=fun a e n=>absurd e n
 t0:=f
theorem aAE{g:Gb}{c:List (Str×Az)}{cls:Str->O6 ClSt}{K:Frag}{mg:Str->O6 V9}{w:W9}{n:Nat}{fb:Sg->R Fw}{vs:List V}{d:List A}{F H:Hp}{Q:VK}{E:XK}(h0:bA g.T F)(h1:bA F H)(h2:AFs g K mg F d vs)(b:match fnF n fb d with
 | .bad=>False
 | .ok a=>∀ v F' H',Ext F H F' H'->AF g K mg F' a v->Q v H'
 | .ex e=>∀ a C F' H',Ext F H F' H'->rQ K mg F' e a C->E (.ref C) (some a) H'):tSf ⟨K,mg,w,F,H,g,c,cls⟩ E fb {nx:=fun _ H'=>Q .non H',rt:=Q} (vs.map some++List.replicate (n - vs.length) none) H:=by
 refine ⟨_,F,aMN h0 h1 h2,?_⟩
 unfold fnF at b
 cases e:fb (d.map some++List.replicate (n - d.length) none) with
 | bad=>rw[e] at b;exact b
 | ex x=>rw[e] at b;exact b
 | ok w=>
  rw[e] at b
  cases w with
  | nx ρ'=>exact fun f F' H' s ab=>b .non F' H' ab.all .non
  | rt a=>
   cases a with
   | l xs=>exact b.elim
   | _=>exact b
  | bk ρ'=>exact b.elim
  | ct ρ'=>exact b.elim
section
variable{P:P9}{w:W9}{K:Frag}{mg:Str->O6 V9}{base:Hz}{T:Hp}{x:Str}{st:Stmt}{N ps:List Str}{k:Nat}
theorem dB{fb:Sg->R Fw}(D:DefAt K mg x st ps)(S:FnScope N ps (aN st))
  (a:∀ (f:Az) (cdv:V9) (A:U9) (outer:List Env) (s:S9) (H F:Hp) (E:XK),Room k (A.deeper (envOfC x (aN st) s.heap.objs.size f cdv))->
   oR ((lM (CXe P w) P w K mg base N x (aN st) f cdv A outer s H E).fly E) ⟨K,mg,w,F,H,gOf P w K mg base T,(envOfC x (aN st) s.heap.objs.size f cdv).cells,fun _=>none⟩ E (dX st) fb):aY P w K mg base T (k+1) x ps (fnF N.length fb):=by
 refine D.okX S (fun vs H Q E h=>?_) (fun f cdv A outer s H vs Q E g h=>?_)
 .obtain ⟨F,e,_,_,h2,b,_⟩:=h
  rw[h2.len,b]
 .obtain ⟨F,e,d,h1,h2,b,c⟩:=h
  exact ⟨_,a f cdv A outer s H F E g,aAE d h1 h2 c⟩
end
def aEC(cn:Str)(fs:List Str)(f:Sg->R (List Dz)):Sg->R Fw:=fun ρ=>(f ρ).bind fun xs=>if xs.length=fs.length then .ex ⟨cn,fs.zip xs⟩ else .bad
theorem aAF{α β:Type}:∀ {xs:List α} {ys:List β},ys.length=xs.length->(xs.zip ys).map (·.1)=xs
 | [],_,_=>by simp
 | x::xs,[],h=>by simp at h
 | x::xs,y::ys,h=>by simp at h;simp[aAF h]
theorem aAG{α β:Type}:∀ {xs:List α} {ys:List β},ys.length=xs.length->(xs.zip ys).map (·.2)=ys
 | [],[],_=>by simp
 | [],_::_,h=>by simp at h
 | x::xs,[],h=>by simp at h
 | x::xs,y::ys,h=>by simp at h;simp[aAG h]
def tPf(c:Ct)(E:XK)(f:Sg->R (O6 Int)):TO:=fun σ H Q=>∃ ρ F,Ab c ρ σ F H/\Rk c E F H (f ρ) fun o=>∀ F' H',Ext F H F' H'->Q o H'
noncomputable def oNo:Sg->R (O6 Int):=fun _=>.ok none
def oSo(f:Sg->R Dz):Sg->R (O6 Int):=fun ρ=>(f ρ).bind fun x=>match x with
 | .int i=>.ok (some i)
 | _=>.bad
noncomputable def oS{α:Type}(xs:List α)(lo hi:O6 Int):List α:=(xs.drop (HT.sIx xs.length 0 lo)).take (HT.sIx xs.length xs.length hi - HT.sIx xs.length 0 lo)
noncomputable def dSl:Dz->O6 Int->O6 Int->R Dz
 | .list xs,lo,hi=>.ok (.list (oS xs lo hi))
 | .tuple xs,lo,hi=>if ¬ (HT.sIx xs.length 0 lo=0/\HT.sIx xs.length xs.length hi=xs.length) then .ok (.tuple (oS xs lo hi)) else .bad
 | .str z,lo,hi=>if z.length<=16777216 then .ok (.str (Txt.slice z lo hi)) else .bad
 | _,_,_=>.bad
def eSl{α:Type}(g:Dz->O6 Int->O6 Int->R α)(f:Sg->R Dz)(lo hi:Sg->R (O6 Int)):Sg->R α:=fun ρ=>(f ρ).bind fun x=>(lo ρ).bind fun l=>(hi ρ).bind fun h=>g x l h
theorem aED{K:Frag}{F:Hp}{vs:List V}{xs:List Dz}(h:DatVs K F vs xs)(lo hi:O6 Int):DatVs K F (tU vs lo hi) (oS xs lo hi):=by
 unfold tU oS
 rw[h.length]
 exact (h.drop _).take _
theorem PO.imp{X:Cx}{e:O6 Ez}{t t':TO}(h:PO X e t)(i:∀ σ H Q,t' σ H Q->t σ H Q):PO X e t':=fun a5 s σ H Q I q=>h a5 s σ H Q I (i σ H Q q)
section
variable{X:Cx}{c:Ct}{E:XK}{e a b:Ez}{pos p2:Pos}{lo hi:O6 Ez}
theorem pJ:PO X none (tPf c E oNo):=PO.imp aOY fun σ H Q ⟨ρ,F,ab,k⟩=>Rk.ok k F H (Ext.refl ab.fh)
theorem pK{f:Sg->R Dz}(h:PR X c E e f):PO X (some e) (tPf c E (oSo f)):=PO.imp (aOZ h) fun σ H Q ⟨ρ,F,ab,k⟩=>⟨ρ,F,ab,(Rk.bind k).imp fun x _ q v a H' s r=>by
 cases x with
 | int i=>exact ⟨i,bC.int_of r,Rk.ok q a H' s⟩
 | _=>exact q.elim⟩
def aMO(c:Ct){α:Type}(Rb:VR α)(g:Dz->O6 Int->O6 Int->R α):V->O6 Int->O6 Int->Hp->VK->Prop:=fun v lo hi H Q=>∃ F x d,bA F H/\bC c.K F H v x/\g x lo hi=.ok d/\∀ w F' H',Ext F H F' H'->Rb d w H F' H'->Q w H'
theorem aTZ(r:X.K=c.K):SlR X (aMO c (c9 c) dSl):=by
 intro a5 s σ H v x n o lo hi f Q I k j g i h
 obtain ⟨F,d,w,b,m,a,q⟩:=h
 unfold dSl at a
 split at a
 .cases a
  obtain ⟨p,vs,rfl,h1,h2⟩:=bC.lst_of b m
  rw[<-r] at h1
  exact aO0 a5 s σ H _ x n o lo hi f Q I k j g i ⟨p,vs,rfl,h1,fun l e=>q _ _ _ (Ext.new b e) (.lst (SqL.of bQ) ((aED h2 lo hi).same (bA.upd (cP b e))))⟩
 .rename_i xs _ _
  split at a
  .rename_i u
   cases a
   obtain ⟨p,vs,rfl,_,h1,h2⟩:=bC.tup_of b m
   rw[<-r] at h1
   exact aRE a5 s σ H _ x n o lo hi f Q I k j g i ⟨p,vs,rfl,h1,by rw[h2.length];exact u,fun l e=>q _ _ _ (Ext.new b e) (.tup (SqT.of bQ) ((aED h2 lo hi).same (bA.upd (cP b e))))⟩
  .cases a
 .split at a
  .rename_i t
   cases a
   obtain rfl:=bC.str_of m
   exact aJW a5 s σ H _ x n o lo hi f Q I k j g i ⟨_,rfl,by rw[dY];exact t,q _ F H (Ext.refl b) (.str _)⟩
  .cases a
 .cases a
theorem aGP{α:Type}{Rb:VR α}{g:Dz->O6 Int->O6 Int->R α}(t:∀ x l h e,g x l h≠.ex e)(o:aD2 Rb){f:Sg->R Dz}{n fh:Sg->R (O6 Int)}{σ:L2.St}{H:Hp}{Q:VK}(h:tV Rb c E (eSl g f n fh) σ H Q) :
  tSl (aMO c Rb g) (tV (bH c) c E f) (tPf c E n) (tPf c E fh) σ H Q:=by
 obtain ⟨ρ,F,ab,k⟩:=h
 refine ⟨ρ,F,ab,(Rk.bind k).imp fun x _ q v u H1 b z=>⟨ρ,u,ab.ext b,((Rk.bind q).ext b).imp fun l _ q y H2 i=>⟨ρ,y,ab.ext (b.trans i),((Rk.bind q).ext (b.trans i)).imp fun hh _ q p H3 m=>?_⟩⟩⟩
 cases j:g x l hh with
 | bad=>rw[j] at q;exact q.elim
 | ex e=>exact absurd j (t x l hh e)
 | ok d=>
  rw[j] at q
  have a:=(b.trans i).trans m
  exact ⟨p,x,d,m.fh,bC.ext (i.trans m) z,j,fun w A H' s r=>Rk.ok q w A H' (a.trans s) (o _ _ _ _ _ _ a.hh r)⟩
theorem aMP:∀ x l h e,dSl x l h≠.ex e:=by intro x l h e q;unfold dSl at q;split at q<;>(try split at q)<;>cases q
theorem mV{f:Sg->R Dz}{a fh:Sg->R (O6 Int)}(i:X.K=c.K)(g:PR X c E e f)(b:PO X lo (tPf c E a))(d:PO X hi (tPf c E fh)):PD X c E (.Subscript e (.Slice lo hi none p2) pos) (eSl dSl f a fh):=
 PE.imp (aDG (aTZ i) g b d) fun σ H Q h=>aGP aMP (nG c) h
noncomputable def tyN:Dz->String
 | .none=>"NoneType"
 | .bool _=>"bool"
 | .int _=>"int"
 | .str _=>"str"
 | .list _=>"list"
 | .tuple _=>"tuple"
 | .dict _=>"dict"
noncomputable def lQ(t T:String):Bool:=t == T || (T == "int" && t == "bool")
noncomputable def p6(T:String)(x:Dz):R Dz:=match x with
 | .dict _=>.bad
 | x=>.ok (.bool (lQ (tyN x) T))
structure Kit(K:Frag)(T:String):Prop where
 non:PySem.W.kitOne K (.type "NoneType") (.type T)=some (lQ "NoneType" T)
 bl:PySem.W.kitOne K (.type "bool") (.type T)=some (lQ "bool" T)
 int:PySem.W.kitOne K (.type "int") (.type T)=some (lQ "int" T)
 str:PySem.W.kitOne K (.type "str") (.type T)=some (lQ "str" T)
 lst:PySem.W.kitOne K (.type "list") (.type T)=some (lQ "list" T)
 tup:PySem.W.kitOne K (.type "tuple") (.type T)=some (lQ "tuple" T)
theorem aPH(K:Frag):Kit K "str":=⟨rfl,rfl,rfl,rfl,rfl,rfl⟩
theorem aMQ{X:Cx}:nC X (.builtin "isinstance") (fun xs H Q=>∃ a ys c cv b,xs=[.ref a,c]/\SqL X.K H a ys/\aH1 c=some cv/\PySem.W.kitOne X.K (.type "list") cv=some b/\Q (.bl b) H):=by
 intro a5 s σ H xs m Q I r h
 obtain ⟨a,ys,c,cv,b,rfl,k,f,e,q⟩:=h
 obtain ⟨u,v,rfl,g,d⟩:=aCR r
 obtain rfl:=zS f d
 cases (show u=Value.ref a from g)
 obtain ⟨i,_,j,_⟩:=I.list k
 obtain ⟨o,h1,h2,_⟩:=j.isList
 exact CB FU I.kIn ⟨o,h1,h2⟩ e (fun z=>nomatch z) fun l=>⟨.bl b,H,I.tok _,rfl,q⟩
def aMR(c:Ct)(T:String):List V->Hp->VK->Prop:=fun xs H Q=>∃ F x v d,xs=[v,.ty T]/\bA F H/\bC c.K F H v x/\p6 T x=.ok d/\∀ w F' H',Ext F H F' H'->DatV c.K F' w d->Q w H'
theorem aMS(i:X.K=c.K){T:String}(k:Kit X.K T):nC X (.builtin "isinstance") (aMR c T):=by
 intro a5 s σ H xs g Q I r h
 obtain ⟨F,x,v,d,rfl,a,f,e,q⟩:=h
 cases x with
 | dict _=>cases e
 | none=>
  cases e
  obtain rfl:=bC.non_of f
  exact nE a5 s σ H _ g Q I r ⟨_,_,_,_,_,rfl,.pl .non,rfl,k.non,q _ F H (Ext.refl a) (.bl _)⟩
 | bool b=>
  cases e
  obtain rfl:=bC.bl_of f
  exact nE a5 s σ H _ g Q I r ⟨_,_,_,_,_,rfl,.pl (.bl b),rfl,k.bl,q _ F H (Ext.refl a) (.bl _)⟩
 | int b=>
  cases e
  obtain rfl:=bC.int_of f
  exact nE a5 s σ H _ g Q I r ⟨_,_,_,_,_,rfl,.pl (.int b),rfl,k.int,q _ F H (Ext.refl a) (.bl _)⟩
 | str b=>
  cases e
  obtain rfl:=bC.str_of f
  exact nE a5 s σ H _ g Q I r ⟨_,_,_,_,_,rfl,.pl (.str b),rfl,k.str,q _ F H (Ext.refl a) (.bl _)⟩
 | tuple xs=>
  cases e
  obtain ⟨p,vs,rfl,_,h1,h2⟩:=bC.tup_of a f
  rw[<-i] at h1
  exact aDO a5 s σ H _ g Q I r ⟨p,vs,_,_,_,rfl,h1,rfl,k.tup,q _ F H (Ext.refl a) (.bl _)⟩
 | list xs=>
  cases e
  obtain ⟨p,vs,rfl,h1,h2⟩:=bC.lst_of a f
  rw[<-i] at h1
  exact aMQ a5 s σ H _ g Q I r ⟨p,vs,_,_,_,rfl,h1,rfl,k.lst,q _ F H (Ext.refl a) (.bl _)⟩
theorem aRX{T:String}{f:Sg->R Dz}(h:PE X e (tCB (aMR c T) (gF (tV (bH c) c E f) (gF (tC (.ty T)) kI)))):PD X c E e (e1 (p6 T) f):=PE.imp h fun σ H Q i=>by
 obtain ⟨ρ,F,ab,k⟩:=i
 refine ⟨ρ,F,ab,(Rk.bind k).imp fun x _ q v d H1 a g=>?_⟩
 show aMR c T [v,.ty T] H1 Q
 cases x with
 | dict _=>exact q.elim
 | none=>exact ⟨d,_,v,_,rfl,a.fh,g,rfl,fun w b H' s r=>Rk.ok q w b H' (a.trans s) r⟩
 | bool _=>exact ⟨d,_,v,_,rfl,a.fh,g,rfl,fun w b H' s r=>Rk.ok q w b H' (a.trans s) r⟩
 | int _=>exact ⟨d,_,v,_,rfl,a.fh,g,rfl,fun w b H' s r=>Rk.ok q w b H' (a.trans s) r⟩
 | str _=>exact ⟨d,_,v,_,rfl,a.fh,g,rfl,fun w b H' s r=>Rk.ok q w b H' (a.trans s) r⟩
 | list _=>exact ⟨d,_,v,_,rfl,a.fh,g,rfl,fun w b H' s r=>Rk.ok q w b H' (a.trans s) r⟩
 | tuple _=>exact ⟨d,_,v,_,rfl,a.fh,g,rfl,fun w b H' s r=>Rk.ok q w b H' (a.trans s) r⟩
noncomputable def rX:List Dz->O6 (List Str)
 | []=>some []
 | .str s::t=>(rX t).map (s :: ·)
 | _=>none
theorem qF{K:Frag}{F:Hp}:∀ {vs:List V} {xs:List Dz} {ys:List Str},DatVs K F vs xs->rX xs=some ys->vs=ys.map V.str
 | _,_,ys,.nil,e=>by cases e;rfl
 | _,_,ys,.cons (d:=d) (ds:=t) h h2,e=>by
  cases d with
  | str b=>
   unfold rX at e
   cases q:rX t with
   | none=>rw[q] at e;cases e
   | some cs=>
    rw[q] at e
    cases e
    rw[qF h2 q,h.str_of];rfl
  | _=>cases e
noncomputable def aCX:Dz->Dz->R Dz
 | .str sep,.list xs=>match rX xs with
  | some ys=>if (ys.map fun y=>y.length).sum+ys.length * sep.length<=16777216 then .ok (.str (Txt.join sep ys)) else .bad
  | none=>.bad
 | _,_=>.bad
theorem aPI{f g:Sg->R Dz}(t:X.K=c.K)(h:PE X e (tBM X.K "str" (aNZ X.K) (tV (bH c) c E f) (gF (tV (bH c) c E g) kI)))(s:∀ ρ x,f ρ=.ok x->∃ z,x=.str z):PD X c E e (e2 aCX f g):=PE.imp h fun σ H Q ⟨ρ,F,ab,k⟩=>by
 refine ⟨ρ,F,ab,(Rk.bind k).imp fun x ex q v o H1 b r=>?_⟩
 obtain ⟨z,rfl⟩:=s ρ x ex
 obtain rfl:=bC.str_of r
 refine ⟨rfl,ρ,o,ab.ext b,((Rk.bind q).ext b).imp fun y _ q u l H2 i j=>?_⟩
 cases y with
 | list xs=>
  have a:Rk c E F H (match rX xs with
   | some ys=>if (ys.map fun y=>y.length).sum+ys.length * z.length<=16777216 then R.ok (PyData.str (Txt.join z ys)) else .bad
   | none=>.bad) (fun d=>∀ v F' H',Ext F H F' H'->c9 c d v H F' H'->Q v H'):=q
  split at a
  .rename_i ys m
   split at a
   .rename_i n
    obtain ⟨p,vs,rfl,h1,h2⟩:=bC.lst_of i.fh j
    rw[<-t] at h1
    obtain rfl:=qF h2 m
    exact ⟨z,p,ys,rfl,rfl,h1,n,Rk.ok a _ l H2 (b.trans i) (.str _)⟩
   .exact a.elim
  .exact a.elim
 | _=>exact q.elim
noncomputable def kN:Dz->Dz->R Dz
 | .str z,.str y=>match Builtin.Str.occurrences z y 0 z.length 1 with
  | i::_=>.ok (.int i)
  | []=>.bad
 | _,_=>.bad
theorem rY{f g:Sg->R Dz}(h:PE X e (tBM X.K "str" aJX (tV (bH c) c E f) (gF (tV (bH c) c E g) kI)))(p:∀ ρ x,f ρ=.ok x->∃ z,x=.str z):PD X c E e (e2 kN f g):=PE.imp h fun σ H Q ⟨ρ,F,ab,k⟩=>by
 refine ⟨ρ,F,ab,(Rk.bind k).imp fun x ex q v n H1 a o=>?_⟩
 obtain ⟨z,rfl⟩:=p ρ x ex
 obtain rfl:=bC.str_of o
 refine ⟨rfl,ρ,n,ab.ext a,((Rk.bind q).ext a).imp fun y _ q u l H2 j r=>?_⟩
 cases y with
 | str y=>
  have b:Rk c E F H (match Builtin.Str.occurrences z y 0 z.length 1 with
   | i::_=>R.ok (PyData.int i)
   | []=>.bad) (fun d=>∀ v F' H',Ext F H F' H'->c9 c d v H F' H'->Q v H'):=q
  split at b
  .rename_i i rest m
   obtain rfl:=bC.str_of r
   exact ⟨z,y,i,rest,rfl,rfl,m,Rk.ok b _ l H2 (a.trans j) (.int _)⟩
  .exact b.elim
 | _=>exact q.elim
noncomputable def j8:Nat->List Dz->List Dz
 | _,[]=>[]
 | i,x::t=>.tuple [.int i,x]::j8 (i+1) t
theorem rZ:∀ (i:Nat) (xs:List Dz),(j8 i xs).length=xs.length
 | _,[]=>rfl
 | i,x::t=>by rw[j8,AG,AG,rZ]
theorem aEE:∀ (k i:Nat) (xs:List Dz),(j8 k xs)[i]? = (xs[i]?).map fun x=>.tuple [.int ((k+i:Nat):Int),x]
 | k,i,[]=>by simp[j8]
 | k,0,x::t=>by simp[j8]
 | k,i+1,x::t=>by rw[j8,AB,AB,aEE,show k+1+i=k+(i+1) by omega]
noncomputable def aN2:Dz->R (List Dz)
 | .list xs=>if xs.length<=16777216 then .ok (j8 0 xs) else .bad
 | .str z=>if z.cps.toList.length<=16777216 then .ok (j8 0 (z.cps.toList.map fun u=>.str ⟨#[u]⟩)) else .bad
 | _=>.bad
theorem aKF{K:Frag}{F B:Hp}{z:Str}(c:z.cps.toList.length<=16777216):Yld K (Ity z) F B (j8 0 (z.cps.toList.map fun u=>.str ⟨#[u]⟩)) where
 len:=by rw[dY,rZ,AH];exact c
 go:=fun i a H1 h1 h2 b hi=>by
  rw[rZ,AH,CG] at hi
  exact hi
 yld:=fun i a H1 v H2 x h1 h2 b y e=>by
  obtain ⟨p,u,d,rfl,rfl,f⟩:=y
  rw[aEE,AS,D5,f] at e
  cases e
  refine ⟨_,Ext.new h2 d,.tup (SqT.of bQ) (.cons ?_ (.cons (.str _) .nil))⟩
  rw[HC];exact .int _
 stop:=fun a H1 h1 h2 b=>by
  show (j8 0 _).length=z.cps.size
  rw[rZ,AH,CG]
end
noncomputable def wY(a6:List (Dz×Dz))(k:Dz):O6 Dz:=(a6.find? fun p=>decide (p.1=k)).map (·.2)
noncomputable def jI(a6:List (Dz×Dz))(k:Dz):Bool:=(wY a6 k).isSome
noncomputable def putM(a6:List (Dz×Dz))(k v:Dz):List (Dz×Dz):=if jI a6 k=true then a6.map (fun p=>if p.1=k then (p.1,v) else p) else a6++[(k,v)]
theorem aGQ{K:Frag}{F:Hp}{k:Dz}:∀ {es:List Ent} {a6:List (Dz×Dz)},es.map (·.1)=a6.map (·.1)->DatVs K F (es.map (·.2.2)) (a6.map (·.2))->
  (atE es k=none/\wY a6 k=none)\/∃ v d,atE es k=some v/\wY a6 k=some d/\DatV K F v d
 | [],[],_,_=>.inl ⟨rfl,rfl⟩
 | [],_::_,h,_=>by cases h
 | _::_,[],h,_=>by cases h
 | e::es,p::a6,h,r=>by
  rw[AI,AI] at h r
  injection h with h1 h2
  obtain ⟨v,t,e1,r1,r2⟩:=r.cons_of
  rw[EI] at e1
  obtain ⟨rfl,rfl⟩:=e1
  have a:=aGQ (k:=k) h2 r2
  unfold atE wY at a ⊢
  rw[DB,DB,h1]
  by_cases q:p.1=k
  · rw [AT q]; exact .inr ⟨_, _, rfl, rfl, r1⟩
  · rw [AW q]; exact a
theorem MapRel.get{K:Frag}{F:Hp}{es:List Ent}{a:List (Dz×Dz)}(m:MapRel K F es a)(k:Dz):(atE es k=none/\wY a k=none)\/∃ v d,atE es k=some v/\wY a k=some d/\DatV K F v d:=aGQ m.k1 m.vs
theorem MapRel.has{K:Frag}{F:Hp}{es:List Ent}{c:List (Dz×Dz)}(m:MapRel K F es c)(k:Dz):(atE es k).isSome=jI c k:=by
 unfold jI
 rcases m.get k with ⟨a,b⟩|⟨v,d,a,b,_⟩<;>rw[a,b]<;>rfl
theorem aEF{a:List (Dz×Dz)}{k:Dz}:jI a k=true↔k∈a.map (·.1):=by
 unfold jI wY
 rw[ES]
 induction a with
 | nil=>simp
 | cons p t ih=>
  rw[DB]
  by_cases q:p.1=k
  .rw[AT q];simp[q]
  .rw[AW q,ih,AI]
   exact ⟨fun z=>A9 _ z,fun z=>(AY.mp z).resolve_left (fun w=>q w.symm)⟩
theorem aKG{a:List (Dz×Dz)}{k v:Dz}:(putM a k v).map (·.1)=if jI a k=true then a.map (·.1) else a.map (·.1)++[k]:=by
 unfold putM
 cases h:jI a k with
 | true=>
  rw[AA rfl,AA rfl,BL]
  refine BN fun p _=>?_
  show (if p.1=k then (p.1,v) else p).1=p.1
  split<;>rfl
 | false=>rw[AE (by decide),AE (by decide),BG];rfl
theorem aGR{K:Frag}{F:Hp}{k d:Dz}{v:V}(r:DatV K F v d):∀ {es:List Ent} {a6:List (Dz×Dz)},es.map (·.1)=a6.map (·.1)->DatVs K F (es.map (·.2.1)) (a6.map (·.1))->DatVs K F (es.map (·.2.2)) (a6.map (·.2))->
  (es.map fun e=>if e.1=k then (e.1,e.2.1,v) else e).map (·.1)=(a6.map fun p=>if p.1=k then (p.1,d) else p).map (·.1) /\
  DatVs K F ((es.map fun e=>if e.1=k then (e.1,e.2.1,v) else e).map (·.2.1)) ((a6.map fun p=>if p.1=k then (p.1,d) else p).map (·.1)) /\
  DatVs K F ((es.map fun e=>if e.1=k then (e.1,e.2.1,v) else e).map (·.2.2)) ((a6.map fun p=>if p.1=k then (p.1,d) else p).map (·.2))
 | [],[],_,_,_=>⟨rfl,.nil,.nil⟩
 | [],_::_,h,_,_=>by cases h
 | _::_,[],h,_,_=>by cases h
 | e::es,p::a6,h,rk,rv=>by
  rw[AI,AI] at h rk rv
  injection h with h1 h2
  obtain ⟨_,_,e1,r1,r2⟩:=rk.cons_of
  rw[EI] at e1
  obtain ⟨rfl,rfl⟩:=e1
  obtain ⟨_,_,e1,c,g⟩:=rv.cons_of
  rw[EI] at e1
  obtain ⟨rfl,rfl⟩:=e1
  obtain ⟨f,a,b⟩:=aGR r h2 r2 g
  simp only[AI]
  rw[h1,f]
  by_cases q:p.1=k
  · rw [AA q, AA q]; exact ⟨rfl, .cons r1 a, .cons r b⟩
  · rw [AE q, AE q]; exact ⟨by rw [h1], .cons r1 a, .cons c b⟩
theorem MapRel.put{K:Frag}{F:Hp}{es:List Ent}{c:List (Dz×Dz)}{k d:Dz}{kv v:V}(m:MapRel K F es c)(f:DatV K F kv k)(r:DatV K F v d):MapRel K F (t4 es k kv v) (putM c k d):=by
 have g:=m.has k
 have nd:((putM c k d).map (·.1)).Nodup:=by
  rw[aKG]
  cases h:jI c k with
  | true=>rw[AA rfl];exact m.nd
  | false=>
   rw[AE (by decide),D3]
   refine ⟨m.nd,by simp,fun a n b e z=>?_⟩
   rw[A4] at e
   subst e z
   rw[aEF.mpr n] at h
   cases h
 unfold t4
 rw[g]
 unfold putM at nd ⊢
 cases h:jI c k with
 | true=>
  rw[h,AA rfl] at nd
  rw[AA rfl,AA rfl]
  obtain ⟨i,j,l⟩:=aGR (k:=k) r m.k1 m.k2 m.vs
  exact ⟨i,j,l,nd⟩
 | false=>
  rw[h,AE (by decide)] at nd
  rw[AE (by decide),AE (by decide)]
  refine ⟨by rw[BG,BG,m.k1];rfl,?_,?_,nd⟩
  .rw[BG,BG];exact m.k2.append (.cons f .nil)
  .rw[BG,BG];exact m.vs.append (.cons r .nil)
theorem uB{K:Frag}{F:Hp}:∀ {es:List Ent} {a6:List (Dz×Dz)},es.map (·.1)=a6.map (·.1)->DatVs K F (es.map (·.2.1)) (a6.map (·.1))->∀ e∈es,DatV K F e.2.1 e.1
 | [],_,_,_,e,he=>by cases he
 | _::_,[],h,_,_,_=>by cases h
 | e0::es,p::a6,h,rk,e,he=>by
  rw[AI,AI] at h rk
  injection h with h1 h2
  obtain ⟨_,_,e1,r1,r2⟩:=rk.cons_of
  rw[EI] at e1
  obtain ⟨rfl,rfl⟩:=e1
  rcases AY.mp he with z|z
  · subst z; rw [h1]; exact r1
  · exact uB h2 r2 e z
section
variable{X:Cx}{c:Ct}{E:XK}{e a b:Ez}{st:Stmt}{pos:Pos}
theorem aN3{ρ:Sg}{σ:L2.St}{F H:Hp}{i:Nat}{a:List (Dz×Dz)}{k:Dz}{kv:V}(d:X.K=c.K)(n:X.w=c.w)(ab:Ab c ρ σ F H)(hi:ρ[i]? = some (some (.m a)))(g:DatV c.K F kv k)(h:kE k (a.map (·.1))=true) :
  ∃ p es,σ[i]? = some (some (.ref p))/\DicAt X H p es k kv/\MapRel c.K F es a:=by
 obtain ⟨v,f,p,es,rfl,⟨j,h2⟩,q,o,b⟩:=ab.slot i _ hi
 refine ⟨p,es,f,⟨⟨j,by rw[n];exact h2⟩,fun e l=>by rw[d];exact (uB b.k1 b.k2 e l).same ab.fh,by rw[b.k1];exact b.nd,by rw[d];exact g.same ab.fh,by rw[b.k1];exact h⟩,b⟩
theorem aRY{ρ:Sg}{σ:L2.St}{F H:Hp}{i:Nat}{a:List (Dz×Dz)}{k:Dz}{kv:V}(d:X.K=c.K)(o:X.w=c.g.w)(ab:Ab c ρ σ F H)(hi:ρ[i]? = some (some (.f a)))(j:DatV c.K F kv k)(l:kE k (a.map (·.1))=true) :
  ∃ p es,σ[i]? = some (some (.ref p))/\DicAt X H p es k kv/\MapRel c.K F es a:=by
 obtain ⟨v,h,p,es,rfl,⟨m,h2⟩,b⟩:=ab.slot i _ hi
 refine ⟨p,es,h,⟨⟨m,by rw[o];exact ab.fh _ _ h2⟩,fun e n=>by rw[d];exact (uB b.k1 b.k2 e n).same ab.fh,by rw[b.k1];exact b.nd,by rw[d];exact j.same ab.fh,by rw[b.k1];exact l⟩,b⟩
def aN4(w:W9):TE:=fun _ H Q=>∀ p,H p=none->Q (.ref p) (upd H p (mU w p [] 0))
theorem vI:PE X (.Dict [] [] pos) (aN4 X.w):=fun a5 s σ H Q I h=>
 wpAny_Dict_empty ⟨.ref s.heap.objs.size,_,I.laid (a:=s.heap.objs.size) (o:=mU X.w s.heap.objs.size [] 0) (t':=s.toks) (fun _ _ q=>AQ _ q) (A2 _)
  (zW (DS.mpr (BU (B8 I.big))) ⟨_,#[],BE _ rfl,⟨rfl,rfl,rfl⟩,rfl,.nil⟩),rfl,h _ (I.hok.fresh (A2 _))⟩
noncomputable def pL(i:Nat):Sg->R Fw:=fun ρ=>.ok (.nx (ρ.set i (some (.m []))))
theorem vJ{i:Nat}{w:W9}(b:w=c.w)(h:PS X st (oM (aN4 w) (m9 i))):PSf X c E st (pL i):=PS.imp h fun D σ H ⟨ρ,F,ab,k⟩=>fun p a=>by
 subst b
 exact Rk.ok k _ F _ (eJ F) (ab.setM (Ext.own ab.fh a) a bQ (cP ab.fh a) ⟨rfl,.nil,.nil,DG⟩)
noncomputable def sA(neg:Bool)(i:Nat)(f:Sg->R Dz):Sg->R Dz:=fun ρ=>(f ρ).bind fun k=>match ρ[i]? with
 | some (some (.m a6))=>if kE k (a6.map (·.1))=true then .ok (.bool (if neg=true then !jI a6 k else jI a6 k)) else .bad
 | some (some (.f a6))=>if kE k (a6.map (·.1))=true then .ok (.bool (if neg=true then !jI a6 k else jI a6 k)) else .bad
 | _=>.bad
def aIG(X:Cx)(neg:Bool):R2:=fun y x H Q=>∃ p es k,x=.ref p/\DicAt X H p es k y/\Q (.bl (if neg=true then !(atE es k).isSome else (atE es k).isSome)) H
theorem aGS(d:X.A.units+64 < cLine):OpR X (compareOp .In) (aIG X false):=by
 intro a5 s σ H y x v u Q I b c h
 obtain ⟨p,es,k,rfl,D,q⟩:=h
 cases (show u=Value.ref p from c)
 exact aRV d D I b fun s' a=>⟨.bl _,H,a,rfl,q⟩
theorem aEG(d:X.A.units+64 < cLine):OpR X (compareOp .NotIn) (aIG X true):=by
 intro a5 s σ H y x v u Q I b c h
 obtain ⟨p,es,k,rfl,D,q⟩:=h
 cases (show u=Value.ref p from c)
 exact aPE d D I b fun s' a=>⟨.bl _,H,a,rfl,q⟩
theorem aMT{i:Nat}{a:Bool}{f:Sg->R Dz}(s:X.K=c.K)(r:X.w=c.w)(t:c.w=c.g.w){σ:L2.St}{H:Hp}{Q:VK}(h:tV (c9 c) c E (sA a i f) σ H Q):tOp (aIG X a) (tV (c9 c) c E f) (mP i) σ H Q:=by
 obtain ⟨ρ,F,ab,k⟩:=h
 refine ⟨ρ,F,ab,(Rk.bind k).imp fun d _ q v n H1 b o=>?_⟩
 split at q
 .rename_i e hi
  split at q
  .rename_i l
   obtain ⟨p,es,j,D,m⟩:=aN3 s r (ab.ext b) hi o l
   refine ⟨_,j,p,es,d,rfl,D,?_⟩
   rw[m.has]
   exact Rk.ok q _ n H1 b (.bl _)
  .exact q.elim
 .rename_i e hi
  split at q
  .rename_i l
   obtain ⟨p,es,j,D,m⟩:=aRY s (r.trans t) (ab.ext b) hi o l
   refine ⟨_,j,p,es,d,rfl,D,?_⟩
   rw[m.has]
   exact Rk.ok q _ n H1 b (.bl _)
  .exact q.elim
 .exact q.elim
theorem yH{i:Nat}{a:Bool}{f:Sg->R Dz}(j:X.K=c.K)(d:X.w=c.w)(h:PT X e (aHN (tOp (aIG X a) (tV (c9 c) c E f) (mP i))))(b:c.w=c.g.w:=by rfl):PTf X c E e (e1 asB (sA a i f)):=PT.imp h fun σ H Q q=>aMT j d b (vG q)
noncomputable def pM(i:Nat)(f g:Sg->R Dz):Sg->R Fw:=fun ρ=>(g ρ).bind fun v=>match ρ[i]? with
 | some (some (.m a6))=>(f ρ).bind fun k=>if kE k (a6.map (·.1))=true/\a6.length<=16777216 then .ok (.nx (ρ.set i (some (.m (putM a6 k v))))) else .bad
 | _=>.bad
def aN5(X:Cx):aHJ:=fun o i v H Q=>∃ p es k,o=.ref p/\DicAt X H p es k i/\es.length<=sizeLine/\∀ ep,Q (upd H p (mU X.w p (t4 es k i v) ep))
theorem sB(j:X.A.units+64 < cLine):aLT X (aN5 X):=by
 intro a5 s σ H o i v c l u Q I a e b h
 obtain ⟨p,es,k,rfl,D,d,q⟩:=h
 cases (show c=Value.ref p from a)
 exact aPF j D I e b d fun g s' f=>⟨_,f,q g⟩
theorem vK{i:Nat}{f g:Sg->R Dz}(G:X.K=c.K)(t:X.w=c.w)(h:PS X st (oM (tV (c9 c) c E g) (aLV (mP i) (tV (c9 c) c E f) (aN5 X)))):PSf X c E st (pM i f g):=PS.imp h fun D σ H ⟨ρ,F,ab,k⟩=>by
 refine ⟨ρ,F,ab,(Rk.bind k).imp fun x _ q v z H1 r C=>?_⟩
 split at q
 .rename_i o hi
  have a:=ab.ext r
  obtain ⟨_,n,p,es,rfl,_⟩:=a.slot i _ hi
  refine ⟨_,n,ρ,z,a,((Rk.bind q).ext r).imp fun d _ q u B H2 l y=>?_⟩
  have e:=a.ext l
  split at q
  .rename_i s
   obtain ⟨I,j,b,A,m⟩:=aN3 G t e hi y s.1
   rw[n] at b
   cases b
   refine ⟨p,j,d,rfl,A,?_,?_⟩
   .have:j.length=o.length:=by have:=FF List.length m.k1;simpa using this
    rw[this,dY];exact s.2
   .intro J
    rw[t]
    exact Rk.ok q σ B _ (r.trans l).ff (e.putM hi n (m.put y (DatV.same l.ff C)))
  .exact q.elim
 .exact q.elim
end
theorem wZ{K:Frag}{a:Az}{vs:List V}{xs:List Dz}(m:Mc.rH K a vs)(h:∀ F,DatVs K F vs xs)(F:Hp):DatV K F (.ref a) (.tuple xs):=.tup (m.sq F) (h F)
section
variable{X:Cx}{c:Ct}{E:XK}{e a b:Ez}{st:Stmt}{pos p2:Pos}
def w4(fs:Dz->Sg->O6 Sg)(f:Sg->R Dz):Sg->R Fw:=fun ρ=>(f ρ).bind fun x=>(rT (fs x ρ)).bind fun ρ'=>.ok (.nx ρ')
theorem aKH{g:TG}{fs:Dz->Sg->O6 Sg}{is:List Nat}{f:Sg->R Dz}(l:Tg c g fs is)(h:PS X st (oM (tV (c9 c) c E f) g)):PSf X c E st (w4 fs f):=PS.imp h fun D σ H a=>by
 obtain ⟨ρ,F,ab,k⟩:=a
 refine ⟨ρ,F,ab,(Rk.bind k).imp fun x _ q v e H1 i j=>?_⟩
 cases h1:fs x ρ with
 | none=>rw[h1] at q;exact q.elim
 | some ρ'=>
  rw[h1] at q
  exact l v x ρ ρ' σ e H1 _ (ab.ext i) j h1 fun b _ _ d=>Rk.ok q b e H1 i.ff d
theorem sC(n:Nat):∀ k:Nat,k<=n->(List.range k).map (fun i:Nat=>((n:Int) - 1 + -1 * (i:Int)).toNat)=(List.range k).map fun i=>n - 1 - i:=fun k a=>by
 refine BN fun i hi=>?_
 have:=BC.mp hi
 omega
end
theorem aRZ{P:P9}{w:W9}{K:Frag}{mg:Str->O6 V9}{base:Hz}{T:Hp}{x:Str}{st:Stmt}{N ps:List Str}{k:Nat}{f:Az}{fd:FuncData}{fb:Sg->R Fw}(g:Fun K x x st f fd)(S:FnScope N ps (aN st))
  (a:∀ (cdv:V9) (A:U9) (outer:List Env) (s:S9) (H F:Hp) (E:XK),Room k (A.deeper (envOfC x (aN st) s.heap.objs.size f cdv))->
   oR ((lM (CXe P w) P w K mg base N x (aN st) f cdv A outer s H E).fly E) ⟨K,mg,w,F,H,gOf P w K mg base T,(envOfC x (aN st) s.heap.objs.size f cdv).cells,fun _=>none⟩ E (dX st) fb):FnOk P w K mg base (CXe P w) (k+1) f fd ps (spF (gOf P w K mg base T) K mg ps.length (fnF N.length fb)):=by
 refine g.okX S (fun vs H Q E h=>?_) (fun cdv A outer s H vs Q E i h=>?_)
 .obtain ⟨F,e,_,_,h2,b,_⟩:=h
  rw[h2.len,b]
 .obtain ⟨F,e,d,h1,h2,b,c⟩:=h
  exact ⟨_,a cdv A outer s H F E i,aAE d h1 h2 c⟩
def aCY(K:Frag)(T:Hp):Sp:=fun vs H Q _=>∃ (a:Az) (ns:List Int),vs=[.ref a]/\ns.length<=63/\bA T H/\SqL K H a (ns.map V.int)/\∀ H',Q (.bl true) H'
theorem aEH{K:Frag}{H:Hp}:∀ (ns:List Int),DatVs K H (ns.map V.int) (ns.map PyData.int)
 | []=>.nil
 | n::t=>.cons (.int n) (aEH t)
theorem aR0{P:P9}{w:W9}{K:Frag}{mg:Str->O6 V9}{base:Hz}{T:Hp}{k:Nat}{f:Az}{fd:FuncData}{x:Str}{G:List A->R A}(h:FnOk P w K mg base (CXe P w) k f fd [x] (spF (gOf P w K mg base T) K mg 1 G))
  (b:∀ ns:List Int,ns.length<=63->G [.d (.list (ns.map .int))]=.ok (.d (.bool true))):FnOk P w K mg base (CXe P w) k f fd [x] (aCY K T):=h.imp fun vs H Q E=>by
 rintro ⟨a,ns,rfl,hn,ht,hs,q⟩
 refine ⟨H,[.d (.list (ns.map .int))],ht,eJ H,⟨.lst hs (aEH ns),trivial⟩,rfl,?_⟩
 rw[b ns hn]
 intro v c H' _ r
 obtain rfl:=DatV.bl_of r
 exact q H'
theorem aT0(P:P9)(w:W9)(H:Hp)(s:S9)(e:V9)(s':S9)(h:CXe P w [] H s (fun _ _ _=>False) e s'):False:=by
 obtain ⟨_,_,_,_,_,_,_,_,_,_,_,q⟩:=h
 exact q
theorem aR1{l:PySem.W.OpenLaw}{k:Nat}{q:P9}{b:List Str}{o:(Str->O6 V9)->Hz->Prop}{g:W9->Hz->Prop}{d:DefRec}{K:Params->Frag}{x:Str}
  (p:l.most=some 63) (c:d.params.defaults=[]) (n:Room k callerA)
  (j:∀ (w:W9) (h:Hz),g w h->(K w.params).In h)
  (F:∀ (w:W9) (mg:Str->O6 V9) (fa:Az) (h:Hz),(K w.params).In h->h.Ns mainGlobals mg->mg d.name=some (.ref fa)->
   ∃ fd:FuncData,(∀ (s:S9) (u:V9),BindsTo s fd ⟨[u],[]⟩ [(x,u)]) /\
    ∀ base:Hz,(K w.params).In base->base.Ns mainGlobals mg->FnOk l.prog w (K w.params) mg base (CXe l.prog w) k fa fd [x] (aCY (K w.params) fun _=>none)) :
  PySem.W.WalkO q b o g l.row.toRowW d [] (fun f vs=>PySem.call f vs):=
 walk_of (K:=K) (CX:=fun w=>CXe l.prog w) (sp:=fun w=>aCY (K w.params) fun _=>none) p (by decide) c n j F (fun w H a ns m r i=>⟨a,ns,rfl,m,fun _ _ z=>(nomatch z),i,fun _=>rfl⟩) fun w H s e s' z=>aT0 _ w H s e s' z
variable{X:Cx}{c:Ct}{E:XK}{e:Ez}
noncomputable def d2(G:Int->Int->Int):Dz->Dz->R Dz
 | .int i,.int j=>.ok (.int (G i j))
 | _,_=>.bad
noncomputable def j9(i j:Int):Int:=if j < i then j else i
theorem aKI{G:Int->Int->Int}{f g:Sg->R Dz}(h0:PE X e (tCB (fun xs H Q=>∃ i j,xs=[.int i,.int j]/\Q (.int (G i j)) H) (gF (tV (bH c) c E f) (gF (tV (bH c) c E g) kI)))):PD X c E e (e2 (d2 G) f g):=PE.imp h0 fun σ H Q a=>by
 obtain ⟨ρ,F,ab,k⟩:=a
 refine ⟨ρ,F,ab,(Rk.bind k).imp fun x ex q v l H1 b m=>?_⟩
 refine ⟨ρ,l,ab.ext b,((Rk.bind q).ext b).imp fun y _ q u h H2 d n=>?_⟩
 cases x with
 | int i=>
  cases y with
  | int j=>
   obtain rfl:=bC.int_of m
   obtain rfl:=bC.int_of n
   exact ⟨i,j,rfl,Rk.ok q _ h H2 (b.trans d) (.int _)⟩
  | _=>exact q.elim
 | _=>exact q.elim
end Fl
namespace L2
open PyProof.Rows
variable{X:Cx}
end L2
namespace Fl
open L2 PyProof.Rows
variable{X:Cx}{c:Ct}{E:XK}{e:Ez}
variable{X:Cx}{c:Ct}{E:XK}{e:Ez}{st:Stmt}
def aMU:Sg->R Fw:=fun _=>.bad
theorem aR2:PSf X c E st aMU:=fun _ _ _ _ _ _ ⟨_,_,_,k⟩=>k.elim
end Fl
namespace L2
open PyProof.Rows
theorem aPJ{prog:P9}{w:W9}{A:U9}{E:V9->S9->Prop}{s:S9}{t b:Az}{vs a:List V9}{Q:V9->S9->Prop}(q:PlainL s.heap t vs.toArray)(p:PlainL s.heap b a.toArray)
  (h2:Q (.ref s.heap.objs.size) {s with heap:=s.heap.push {cls:=.type "list",data:=.seq (vs++a).toArray}})
  (hsz:vs.length+a.length<=sizeLine):wpAny (model prog w) A (binaryOp .Add (.ref t) (.ref b)) Q E s:=by
 obtain ⟨⟨cls,dd,data,o⟩,n,j,l,_,m⟩:=id q
 obtain ⟨⟨k,g,h,i⟩,r,c,f,_,d⟩:=id p
 simp only at l m f d
 subst l m f d
 have e:vs.toArray++a.toArray=(vs++a).toArray:=by simp
 refine GD ⟨_,j,rfl⟩ ⟨_,c,rfl⟩ noFill_list_add seq_list_add PySem.F.slot_list_add PySem.F.entry_list_add (PySem.F.args_list_add_2 _ _)
   (list_addW t b vs.toArray a.toArray n r dd g o i (by rw[BJ,BJ];exact hsz)) ⟨j,c,?_⟩
 rw[e]
 exact h2
theorem aGT(vs:List V9):∀ (n:Nat) (a7:List V9),(List.replicate n vs.toArray).foldl (· ++ ·) a7.toArray=(a7++(List.replicate n vs).flatten).toArray
 | 0,a7=>by simp
 | n+1,a7=>by
  rw[CU,List.foldl_cons,List.append_toArray,aGT vs n,CU,DD,ET]
end L2
namespace Fl
open L2 PyProof.Rows
section
variable{X:Cx}{c:Ct}{E:XK}{e a b:Ez}{pos:Pos}
theorem aEI{vs:List V}{its:List V9}(h:b5 vs its):∀ n:Nat,b5 (List.replicate n vs).flatten (List.replicate n its).flatten
 | 0=>.nil
 | n+1=>by
  rw[CU,DD,CU,DD]
  exact h.append (aEI h n)
theorem aBT{K:Frag}{F:Hp}{vs:List V}{xs:List Dz}(h:DatVs K F vs xs):∀ n:Nat,DatVs K F (List.replicate n vs).flatten (List.replicate n xs).flatten
 | 0=>.nil
 | n+1=>by
  rw[CU,DD,CU,DD]
  exact h.append (aBT h n)
noncomputable def lR:Dz->Dz->R (List Dz)
 | .list xs,.list ys=>if xs.length+ys.length<=sizeLine then .ok (xs++ys) else .bad
 | _,_=>.bad
theorem aPK(z:X.K=c.K):OpR X (binaryOp .Add) (r2D (bH c) (bH c) (zZ c) lR):=by
 intro a5 s σ H v u x y Q I r w h
 obtain ⟨L,H1,F,a,b,d,g,t,B,e,q⟩:=h
 unfold lR at e
 split at e
 .rename_i xs ys
  split at e
  .rename_i C
   cases e
   obtain ⟨G,vs,rfl,k,m⟩:=bC.lst_of g t
   obtain ⟨J,A,rfl,l,o⟩:=bC.lst_of g B
   rw[<-z] at k l
   cases r
   cases w
   obtain ⟨D,p,E,_⟩:=I.list k
   obtain ⟨j,n,p2,_⟩:=I.list l
   have f:vs.length+A.length<=sizeLine:=by rw[m.length,o.length];exact C
   have i:=I.fresh
   refine aPJ E p2 ?_ (by rw[<-p.length,<-n.length];exact f)
   exact ⟨.ref _,_,I.lnew (t':=s.toks) (p.append n) (by rw[AZ];exact f),rfl,q _ F _ (Ext.own g i) ⟨_,_,rfl,i,bQ,cP g i,m.append o⟩⟩
  .cases e
 .cases e
theorem aKJ:dM lR:=by
 intro a b e h
 unfold lR at h
 split at h<;>(try split at h)<;>cases h
theorem yI(g:X.K=c.K){d fb:Sg->R Dz}(e:PR X c E a d)(f:PR X c E b fb):PN X c E (.BinOp a .Add b pos) (e2 lR d fb):=
 PE.imp (aHM (aPK g) e f) fun σ H Q h=>tV2 yC aKJ (t6 c) (aTY c) h
end
theorem mO{H:Hp}{p:Az}{a b:HO}:upd (upd H p a) p b=upd H p b:=by
 funext x
 by_cases q:x=p
 · subst q; rw [bQ, bQ]
 · rw [bB q, bB q, bB q]
abbrev TP:=L2.St->Hp->(List (V×V)->Hp->Prop)->Prop
section
variable{X:Cx}{c:Ct}{E:XK}
theorem aEJ{K:Frag}{F:Hp}{g:Str}{d:Dz}:∀ {fvs:List (Str×V)} {fs:List (Str×Dz)},fvs.map (·.1)=fs.map (·.1)->DatVs K F (fvs.map (·.2)) (fs.map (·.2))->fs.lookup g=some d->∃ v,fvs.lookup g=some v/\DatV K F v d
 | [],[],_,_,h=>by cases h
 | [],_::_,h,_,_=>by cases h
 | _::_,[],h,_,_=>by cases h
 | (a,v)::fvs,(b,x)::fs,h,r,e=>by
  rw[AI,AI] at h r
  injection h with h1 h2
  obtain ⟨v',t,e1,r1,r2⟩:=r.cons_of
  rw[EI] at e1
  obtain ⟨rfl,rfl⟩:=e1
  simp only at h1
  subst h1
  rw[CT] at e ⊢
  cases q:(g == a) with
  | true=>rw[q] at e;cases e;exact ⟨v,rfl,r1⟩
  | false=>rw[q] at e;exact aEJ h2 r2 e
end
section
variable{X:Cx}{c:Ct}{E:XK}{e:Ez}{P:P9}{w:W9}{base:Hz}
end
end Fl
namespace L2
open PySem.Spec PyProof.Rows
theorem eH.got{P:P9}{w:W9}{H:Hp}{h:Hz}{a:Az}{o:HO}(x:eH P w H h a o):∃ u,h.get? a=some u:=by
 cases o with
 | lst xs=>obtain ⟨_,_,_,_,e⟩:=x;exact ⟨_,e⟩
 | tup xs=>obtain ⟨_,_,_,⟨o,e,_⟩⟩:=x;exact ⟨_,e⟩
 | dK a6=>obtain ⟨_,_,_,_,o,_,_,e,_⟩:=x;exact ⟨_,e⟩
 | dT a6=>obtain ⟨_,_,_,_,o,_,_,e,_⟩:=x;exact ⟨_,e⟩
 | set S n=>obtain ⟨o,_,_,_,e,_⟩:=x;exact ⟨_,e⟩
 | ins C dx fs=>obtain ⟨_,_,_,e,_⟩:=x;exact ⟨_,e⟩
 | own y=>exact x
 | xd fs=>obtain ⟨_,⟨_,_,_,e,_⟩,_⟩:=x;exact ⟨_,e⟩
 | rng lo hi=>obtain ⟨_,_,_,e⟩:=x;exact ⟨_,e⟩
 | frz ob u=>exact ⟨_,x.1⟩
 | tbl ps=>obtain ⟨_,e,_⟩:=x;exact ⟨_,e⟩
 | cod q=>obtain ⟨c,o,vs,t,e,b,_⟩:=x;cases e;exact ⟨_,b⟩
 | met f y=>exact ⟨_,x⟩
 | ext φ=>exact x.2.1
theorem HOk.free{P:P9}{w:W9}{H:Hp}{h:Hz}{a:Az}(x:HOk P w H h)(e:h.get? a=none):H a=none:=by
 cases q:H a with
 | none=>rfl
 | some u=>
  obtain ⟨o,z⟩:=(x a u q).got
  rw[e] at z;cases z
def few(i:Int):Prop:=i=40\/i=60\/i=200\/i=300
end L2
namespace Fl
open L2 PyProof.Rows
instance (i:Int):Decidable (few i):=by unfold few;infer_instance
section
variable{X:Cx}{c:Ct}{E:XK}{st:Stmt}{cn:Str}{C:Az}
end
end Fl
namespace HT
open PySem.Spec PyProof.Rows L2
end HT
namespace Fl
open L2 PyProof.Rows
def yJ(K:Frag)(F H:Hp):List V->List Dz->Prop
 | [],[]=>True
 | v::vs,d::ds=>bC K F H v d/\yJ K F H vs ds
 | _,_=>False
theorem yJ.ext{K:Frag}{F H F' H':Hp}(e:Ext F H F' H'):∀ {vs:List V} {ds:List Dz},yJ K F H vs ds->yJ K F' H' vs ds
 | [],[],_=>trivial
 | v::vs,d::ds,h=>⟨bC.ext e h.1,yJ.ext e h.2⟩
theorem AFs.data{g:Gb}{K:Frag}{mg:Str->O6 V9}{F:Hp}:∀ {vs:List V} {ds:List Dz},DatVs K F vs ds->AFs g K mg F (ds.map .d) vs
 | _,_,.nil=>trivial
 | _,_,.cons h r=>⟨h,AFs.data r⟩
section
variable{P:P9}{w:W9}{K:Frag}{mg:Str->O6 V9}{base:Hz}{T:Hp}
end
end Fl
namespace Zp
section
variable{prog:P9}{w:W9}{A:U9}{E:V9->S9->Prop}{s:S9}
theorem v0{it t:Az}{i:Nat}{items}{x:V9}{Q:V9->S9->Prop}(a:s.heap.IsTupleIter it t i)
  (f:s.heap.IsTuple t items) (j:items[i]? = some x) (h:∀ h',h'.IsTupleIter it t (i+1)->Heap.SameBut it s.heap h'->Q x {s with heap:=h'}) :
  wpAny (model prog w) A (Builtin.SmallTypes.nextOf (.ref it)) Q E s:=by
 obtain ⟨o,c,g,b⟩:=id a
 obtain ⟨k,d,_,l,e⟩:=f
 unfold Builtin.SmallTypes.nextOf
 refine AD (DE (name:=Str.ofString "__next__") a.typeIs DP
  (EC DP a.typeIs FN ?_ (FG _)))
 show wpAny _ _ (field (.ref it) 0 >>= _) _ _ s
 refine AD (B7 c b (x:=.ref t) rfl ?_)
 show wpAny _ _ (if (Value.ref t == Value.none)=true then _ else _) _ _ s
 rw[AE (show ¬ ((Value.ref t == Value.none)=true) from CW)]
 show wpAny _ _ (field (.ref it) 1 >>= _) _ _ s
 refine AD (B7 c b (x:=.int i 0) rfl ?_)
 show wpAny _ _ (seqItems? (.ref t) >>= _) _ _ s
 refine AD (C8 d e ?_)
 simp only[B2,j]
 refine AD (EO c b (by simp) (A1 ⟨x,rfl,A1 (h _ ?_ (DU ..))⟩))
 exact ⟨_,C7 _ c (E3 (DX b _)),(Obj.cls_mapFields ..).trans g,by
  rw[DX b];simp[rawInt]⟩
theorem w5{it t:Az}{i:Nat}{items}{Q:V9->S9->Prop}(h:A.handled=none)
  (b:s.heap.IsTupleIter it t i) (k:s.heap.IsTuple t items) (j:items[i]? = none)
  (l:∀ h' e,Heap.ExtBut it s.heap h'->(∃ o,h'.get? e=some o/\o.cls=.type "StopIteration")->E (.ref e) {s with heap:=h'}) :
  wpAny (model prog w) A (Builtin.SmallTypes.nextOf (.ref it)) Q E s:=by
 obtain ⟨o,c,q,f⟩:=id b
 obtain ⟨n,d,_,p,g⟩:=k
 unfold Builtin.SmallTypes.nextOf
 refine AD (DE (name:=Str.ofString "__next__") b.typeIs DP
  (EC DP b.typeIs FN ?_ (FG _)))
 show wpAny _ _ (field (.ref it) 0 >>= _) _ _ s
 refine AD (B7 c f (x:=.ref t) rfl ?_)
 show wpAny _ _ (if (Value.ref t == Value.none)=true then _ else _) _ _ s
 rw[AE (show ¬ ((Value.ref t == Value.none)=true) from CW)]
 show wpAny _ _ (field (.ref it) 1 >>= _) _ _ s
 refine AD (B7 c f (x:=.int i 0) rfl ?_)
 show wpAny _ _ (seqItems? (.ref t) >>= _) _ _ s
 refine AD (C8 d g ?_)
 simp only[B2,j]
 refine AD (wpAny_rule (AD (EO c f (by simp) ?_)))
 show wpAny _ _ (newExc (.type "StopIteration") [] >>= _) _ _ _
 refine AD ?_
 simp only[newExc,newTuple]
 refine AD (C4 ?_ (by size_fits))
 refine AD (m:=firstArgMember _ _) (wpAny_of_eq (a:=Value.none) (by first|rfl|(simp only[firstArgMember];rfl)) ?_)
 refine C4 ?_ (by size_fits)
 simp only[raiseNew]
 refine AD (wpAny_handled ?_)
 first|rw[show A.in1.handled=none from h]|rw[h]
 refine AD (A1 (wpAny_throw ?_))
 exact l _ _ (((DU ..).extBut.push _).push _) ⟨_,BE _ rfl,rfl⟩
end
theorem aFU{prog:P9}{w:W9}{A:U9}(e:A.handled=none)(it l:Az)(c:l≠it)(items:Array V9) :
  Draws prog w A it [it,l] items.size (fun i v=>items[i]? = some v) (fun i h=>h.IsTupleIter it l i/\h.IsTuple l items) where
 live:=fun _ _ st=>let ⟨o,ho,_⟩:=st.1;⟨o,ho⟩
 frame:=fun _ _ _ st d=>⟨let ⟨o,ho,r⟩:=st.1;⟨o,d it (by simp) o ho,r⟩,let ⟨o,ho,r⟩:=st.2;⟨o,d l (by simp) o ho,r⟩⟩
 item:=fun i s Q E hi st g=>by
  refine v0 st.1 st.2 (x:=items[i]) (by simp[hi]) fun h' b a=>?_
  exact g _ h' s.toks (by simp[hi]) ⟨b,st.2.extBut a.extBut c⟩ a
 done:=fun s Q E st f=>w5 e st.1 st.2 (by simp) f
structure Apart(z TI TO i1 i2:Az)(f1 f2:List Az):Prop where
 TIz:TI≠z
 TOz:TO≠z
 i1z:i1≠z
 i2z:i2≠z
 TITO:TI≠TO
 TIi1:TI≠i1
 TIi2:TI≠i2
 TOi1:TO≠i1
 TOi2:TO≠i2
 i12:i1≠i2
 z1:z∉f1
 z2:z∉f2
 t1:TO∉f1
 t2:TO∉f2
 i1f2:i1∉f2
 i2f1:i2∉f1
section
variable{prog:P9}{w:W9}{A:U9}{E:V9->S9->Prop}{s:S9}
abbrev p7(h:Hz)(z TI TO:Az)(f0 f1:V9):Prop:=h.get? z=some {cls:=.type "zip",dict:=none,data:=.fields #[f0,f1,.bool false,.ref TI,.ref TO],slots:=#[]}
theorem aMV{M:Model}{A:U9}{E:V9->S9->Prop}{s:S9}{a:Az}{Q:O6 Obj->S9->Prop}(h:Q (s.heap.get? a) s):wpAny M A (loadIfAlive a) Q E s:=fun Γ p _=>by
 unfold loadIfAlive
 rw[Sem.wp_loadIfAlive]
 exact h
theorem aBU{z TI TO:Az}{f0:V9}{c:Bool}{Q:Bool->S9->Prop}(d:p7 s.heap z TI TO f0 (.bool c))(b:f0=.none\/∃ T:Az,f0=rawInt T/\s.heap.get? T=none)(h:Q true s):wpAny (model prog w) A (Builtin.SmallTypes.ownedTupleIsFree (.ref z)) Q E s:=by
 unfold Builtin.SmallTypes.ownedTupleIsFree
 refine AD (B7 d rfl (x:=f0) rfl ?_)
 rcases b with rfl|⟨T,rfl,a⟩
 .exact A1 h
 .show wpAny _ _ (loadIfAlive ((T:Int)).toNat >>= _) _ _ s
  refine AD (aMV ?_)
  rw[show ((T:Int)).toNat=T by omega,a]
  exact A1 h
theorem aKK{z TI TO S X:Az}{f1 f2:List Az}{n1 n2 i:Nat}{P1 P2:Nat->V9->Prop}{S1 S2:Nat->Hz->Prop}{a b f0:V9}{bb:Bool}{Q:V9->S9->Prop}(D:Apart z TI TO S X f1 f2)
  (D1:Draws prog w A S f1 n1 P1 S1) (D2:Draws prog w A X f2 n2 P2 S2)
  (hz:p7 s.heap z TI TO f0 (.bool bb)) (ag:f0=.none\/∃ T:Az,f0=rawInt T/\s.heap.get? T=none) (ai:IsPair s.heap TI (.ref S) (.ref X)) (ae:IsPair s.heap TO a b) (h1:S1 i s.heap) (h2:S2 i s.heap) (l1:i < n1) (l2:i < n2)
  (hQ:∀ x y h' tk,P1 i x->P2 i y->IsZip h' z TI TO (rawInt s.heap.objs.size)->IsPair h' TO x y->S1 (i+1) h'->S2 (i+1) h'->IsPair h' s.heap.objs.size x y->h'.objs.size=s.heap.objs.size+1->
   (∀ c o,c≠z->c≠TO->c≠S->c≠X->s.heap.get? c=some o->h'.get? c=some o)->Q (.ref s.heap.objs.size) {s with heap:=h',toks:=tk}) :
  wpAny (model prog w) A (Builtin.«zip.__next__» ⟨[.ref z],[]⟩) (fun af s'=>∃ v,af=.done (.ret v)/\Q v s') E s:=by
 show wpAny _ _ (field (.ref z) 2 >>= _) _ _ _
 refine AD (B7 hz rfl (x:=.bool false) rfl ?_)
 show wpAny _ _ (field (.ref z) 3 >>= _) _ _ _
 refine AD (B7 hz rfl (x:=.ref TI) rfl ?_)
 refine AD (C8 ai rfl ?_)
 show wpAny _ _ (Builtin.SmallTypes.ownedTupleIsFree (.ref z) >>= _) _ _ _
 refine AD (aBU hz ag ?_)
 simp only[A8]
 refine AD (wpAny_rule ?_)
 refine AD (B7 hz rfl (x:=.ref TO) rfl ?_)
 refine AD (DL hz (by simp) fun N C n=>?_)
 replace C:p7 N z TI TO .ellipsis (.bool bb):=C
 refine AD ?_
 simp only[List.zipIdx_cons,List.zipIdx_nil,EH,List.forIn_nil]
 have P:∀ {f:List Az} {c:Az} {g g':Hz},Heap.SameBut c g g'->c∉f->∀ b∈f,∀ o,g.get? b=some o->g'.get? b=some o:=fun hs hc b hb o e=>hs.extBut _ _ (fun z=>hc (z▸hb)) e
 refine AD (AD (FT ?_))
 show wpAny _ _ (Builtin.SmallTypes.nextOf (.ref S) >>= _) _ _ _
 refine AD (D1.item i {s with heap:=N} _ _ l1 (D1.frame _ _ _ h1 (P n D.z1)) fun x H ad px Z j=>A1 ?_)
 have G:IsPair H TO a b:=j.extBut _ _ D.TOi1 (n.extBut _ _ D.TOz ae)
 refine AD (C8 G rfl ?_)
 refine AD (E8 G fun J r k=>?_)
 replace r:IsPair J TO x b:=r
 refine AD (wpAny_letGo (A1 ?_))
 refine AD (AD (FT ?_))
 show wpAny _ _ (Builtin.SmallTypes.nextOf (.ref X) >>= _) _ _ _
 refine AD (D2.item i {s with heap:=J,toks:=ad} _ _ l2 (D2.frame _ _ _ (D2.frame _ _ _ (D2.frame _ _ _ h2 (P n D.z2)) (P j D.i1f2)) (P k D.t2)) fun y K ah py R h=>A1 ?_)
 have h:Heap.SameBut X J K:=h
 have j:Heap.SameBut S N H:=j
 have I:IsPair K TO x b:=h.extBut _ _ D.TOi2 r
 refine AD (C8 I rfl ?_)
 refine AD (E8 I fun d m l=>?_)
 replace m:IsPair d TO x y:=m
 refine AD (wpAny_letGo (A1 (A1 ?_)))
 refine AD (C8 m rfl ?_)
 refine AD (wpAny_newTuple ?_)
 have ac:d.objs.size=s.heap.objs.size:=by rw[l.1];show K.objs.size=_;rw[h.1,k.1];show H.objs.size=_;rw[j.1,n.1]
 have k:Heap.SameBut TO H J:=k
 have l:Heap.SameBut TO K d:=l
 have L:p7 d z TI TO .ellipsis (.bool bb):=l.extBut _ _ D.TOz.symm (h.extBut _ _ D.i2z.symm (k.extBut _ _ D.TOz.symm (j.extBut _ _ D.i1z.symm C)))
 have V:∀ c o,c≠z->c≠TO->c≠S->c≠X->s.heap.get? c=some o->d.get? c=some o:=fun c o c1 c2 c3 c4 e=>
  l.extBut _ _ c2 (h.extBut _ _ c4 (k.extBut _ _ c2 (j.extBut _ _ c3 (n.extBut _ _ c1 e))))
 have U:S1 (i+1) d:=D1.frame _ _ _ (D1.frame _ _ _ (D1.frame _ _ _ Z (P k D.t1)) (P h D.i2f1)) (P l D.t1)
 have W:S2 (i+1) d:=D2.frame _ _ _ R (P l D.t2)
 have O:z < d.objs.size:=A6 L
 show wpAny _ _ (Builtin.SmallTypes.ownedTupleHandOut (.ref z) (.ref d.objs.size) >>= _) _ _ _
 refine AD ?_
 unfold Builtin.SmallTypes.ownedTupleHandOut
 have Y:p7 (d.push {cls:=.type "tuple",data:=.seq #[x,y]}) z TI TO .ellipsis (.bool bb):=AQ _ L
 refine AD (DL Y (by simp) fun h₇ u F=>?_)
 replace u:p7 h₇ z TI TO (rawInt d.objs.size) (.bool bb):=u
 refine DL u (by simp) fun t p B=>?_
 replace p:IsZip t z TI TO (rawInt d.objs.size):=p
 have up:∀ c o,c≠z->d.get? c=some o->t.get? c=some o:=fun c o c1 e=>B.extBut _ _ c1 (F.extBut _ _ c1 (AQ _ e))
 have M:IsPair t d.objs.size x y:=B.extBut _ _ (D4 O) (F.extBut _ _ (D4 O) (BE _ rfl))
 have aa:t.objs.size=d.objs.size+1:=by rw[B.1,F.1,C6]
 rw[ac] at p M aa
 refine A1 ⟨_,rfl,?_⟩
 show Q (.ref d.objs.size) _
 rw[ac]
 exact hQ x y t ah px py p (up _ _ D.TOz m) (D1.frame _ _ _ U fun b hb o e=>up b o (fun q=>D.z1 (q▸hb)) e) (D2.frame _ _ _ W fun b hb o e=>up b o (fun q=>D.z2 (q▸hb)) e) M aa fun c o c1 c2 c3 c4 e=>up c o c1 (V c o c1 c2 c3 c4 e)
theorem aMW{z TI TO F G:Az}{f1 f2:List Az}{n1 n2 i:Nat}{P1 P2:Nat->V9->Prop}{S1 Z:Nat->Hz->Prop}{a b f0:V9}{N:Bool}{Q:Fin->S9->Prop}(D:Apart z TI TO F G f1 f2)
  (D1:Draws prog w A F f1 n1 P1 S1) (O:Draws prog w A G f2 n2 P2 Z)
  (J:p7 s.heap z TI TO f0 (.bool N)) (U:f0=.none\/∃ T:Az,f0=rawInt T/\s.heap.get? T=none) (Y:IsPair s.heap TI (.ref F) (.ref G)) (R:IsPair s.heap TO a b) (h1:S1 i s.heap) (h2:Z i s.heap) (H:i=n1\/(i < n1/\i=n2))
  (hE:∀ h' tk e,(∀ c o,c≠z->c≠TO->c≠F->c≠G->s.heap.get? c=some o->h'.get? c=some o)->(∃ o,h'.get? e=some o/\o.cls=.type "StopIteration")->E (.ref e) {s with heap:=h',toks:=tk}) :
  wpAny (model prog w) A (Builtin.«zip.__next__» ⟨[.ref z],[]⟩) Q E s:=by
 show wpAny _ _ (field (.ref z) 2 >>= _) _ _ _
 refine AD (B7 J rfl (x:=.bool false) rfl ?_)
 show wpAny _ _ (field (.ref z) 3 >>= _) _ _ _
 refine AD (B7 J rfl (x:=.ref TI) rfl ?_)
 refine AD (C8 Y rfl ?_)
 show wpAny _ _ (Builtin.SmallTypes.ownedTupleIsFree (.ref z) >>= _) _ _ _
 refine AD (aBU J U ?_)
 simp only[A8]
 refine AD (wpAny_rule ?_)
 refine AD (B7 J rfl (x:=.ref TO) rfl ?_)
 refine AD (DL J (by simp) fun r l j=>?_)
 replace l:p7 r z TI TO .ellipsis (.bool N):=l
 refine AD ?_
 simp only[List.zipIdx_cons,List.zipIdx_nil,EH,List.forIn_nil]
 have K:∀ {f:List Az} {c:Az} {g g':Hz},Heap.SameBut c g g'->c∉f->∀ b∈f,∀ o,g.get? b=some o->g'.get? b=some o:=fun hs hc b hb o e=>hs.extBut _ _ (fun z=>hc (z▸hb)) e
 refine AD (AD (FT ?_))
 show wpAny _ _ (Builtin.SmallTypes.nextOf (.ref F) >>= _) _ _ _
 rcases H with rfl|⟨l1,rfl⟩
 .refine AD (D1.done {s with heap:=r} _ _ (D1.frame _ _ _ h1 (K j D.z1)) fun m e d S=>?_)
  obtain ⟨V,p,y⟩:=S
  have t:p7 m z TI TO .ellipsis (.bool N):=d _ _ D.i1z.symm l
  have C:e≠z:=fun x=>by subst x;rw[t] at p;cases p;simp at y
  refine DL t (by simp) fun n _ h=>hE n s.toks e (fun c o M _ W _ x=>h.extBut _ _ M (d _ _ W (j.extBut _ _ M x))) ⟨V,h.extBut _ _ C p,y⟩
 .refine AD (D1.item i {s with heap:=r} _ _ l1 (D1.frame _ _ _ h1 (K j D.z1)) fun x m I px X d=>A1 ?_)
  have d:Heap.SameBut F r m:=d
  have q:IsPair m TO a b:=d.extBut _ _ D.TOi1 (j.extBut _ _ D.TOz R)
  refine AD (C8 q rfl ?_)
  refine AD (E8 q fun n P h=>?_)
  have h:Heap.SameBut TO m n:=h
  refine AD (wpAny_letGo (A1 ?_))
  refine AD (AD (FT ?_))
  show wpAny _ _ (Builtin.SmallTypes.nextOf (.ref G) >>= _) _ _ _
  refine AD (O.done {s with heap:=n,toks:=I} _ _ (O.frame _ _ _ (O.frame _ _ _ (O.frame _ _ _ h2 (K j D.z2)) (K d D.i1f2)) (K h D.t2)) fun B e k S=>?_)
  have k:Heap.ExtBut G n B:=k
  obtain ⟨V,p,y⟩:=S
  have u:p7 B z TI TO .ellipsis (.bool N):=k _ _ D.i2z.symm (h.extBut _ _ D.TOz.symm (d.extBut _ _ D.i1z.symm l))
  have C:e≠z:=fun x=>by subst x;rw[u] at p;cases p;simp at y
  refine DL u (by simp) fun L _ v=>hE L I e (fun c o M c2 W c4 x=>v.extBut _ _ M (k _ _ c4 (h.extBut _ _ c2 (d.extBut _ _ W (j.extBut _ _ M x))))) ⟨V,v.extBut _ _ C p,y⟩
theorem aMX{z TI TO d e:Az}{m n:List Az}{n1 n2 i:Nat}{l p:Nat->V9->Prop}{h f:Nat->Hz->Prop}{a b:V9}{Q:V9->S9->Prop}(D:Apart z TI TO d e m n)
 (D1:Draws prog w A d m n1 l h) (t:Draws prog w A e n n2 p f)
 (u:IsZip s.heap z TI TO .none) (j:IsPair s.heap TI (.ref d) (.ref e)) (k:IsPair s.heap TO a b) (h1:h i s.heap) (h2:f i s.heap) (r:i < n1) (q:i < n2)
 (B:∀ x y h' tk,l i x->p i y->IsZip h' z TI TO (rawInt s.heap.objs.size)->IsPair h' TO x y->h (i+1) h'->f (i+1) h'->IsPair h' s.heap.objs.size x y->h'.objs.size=s.heap.objs.size+1->
  (∀ c o,c≠z->c≠TO->c≠d->c≠e->s.heap.get? c=some o->h'.get? c=some o)->Q (.ref s.heap.objs.size) {s with heap:=h',toks:=tk}) :
 wpAny (model prog w) A (Builtin.«zip.__next__» ⟨[.ref z],[]⟩) (fun g s'=>∃ v,g=.done (.ret v)/\Q v s') E s:=aKK D D1 t u (.inl rfl) j k h1 h2 r q B
theorem aPL{z TI TO f g:Az}{k n:List Az}{n1 n2 i:Nat}{p u:Nat->V9->Prop}{m l:Nat->Hz->Prop}{a b:V9}{Q:Fin->S9->Prop}(D:Apart z TI TO f g k n)
 (D1:Draws prog w A f k n1 p m) (q:Draws prog w A g n n2 u l)
 (r:IsZip s.heap z TI TO .none) (h:IsPair s.heap TI (.ref f) (.ref g)) (j:IsPair s.heap TO a b) (h1:m i s.heap) (h2:l i s.heap) (d:i=n1\/(i < n1/\i=n2))
 (t:∀ h' tk e,(∀ c o,c≠z->c≠TO->c≠f->c≠g->s.heap.get? c=some o->h'.get? c=some o)->(∃ o,h'.get? e=some o/\o.cls=.type "StopIteration")->E (.ref e) {s with heap:=h',toks:=tk}) :
 wpAny (model prog w) A (Builtin.«zip.__next__» ⟨[.ref z],[]⟩) Q E s:=aMW D D1 q r (.inl rfl) h j h1 h2 d t
theorem aKL{z TI TO d e:Az}{m n:List Az}{n1 n2 i:Nat}{l q:Nat->V9->Prop}{h f:Nat->Hz->Prop}{a b:V9}{Q:O6 V9->S9->Prop}(D:Apart z TI TO d e m n)
  (D1:Draws prog w A.in1 d m n1 l h) (I:Draws prog w A.in1 e n n2 q f)
  (p:IsZip s.heap z TI TO .none) (g:IsPair s.heap TI (.ref d) (.ref e)) (j:IsPair s.heap TO a b) (h1:h i s.heap) (h2:f i s.heap) (C:i < n1) (r:i < n2)
  (K:∀ x y h' tk,l i x->q i y->IsZip h' z TI TO (rawInt s.heap.objs.size)->IsPair h' TO x y->h (i+1) h'->f (i+1) h'->IsPair h' s.heap.objs.size x y->h'.objs.size=s.heap.objs.size+1->
   (∀ c o,c≠z->c≠TO->c≠d->c≠e->s.heap.get? c=some o->h'.get? c=some o)->Q (some (.ref s.heap.objs.size)) {s with heap:=h',toks:=tk}) :
  wpAny (model prog w) A (pyNext (.ref z)) Q E s:=by
 have k:s.TypeIs (.ref z) "zip":=⟨_,p,rfl⟩
 unfold pyNext
 exact AD (FR (DE (name:=Str.ofString "__next__") k E9
  (EC E9 k F.entry_zip_next
   (aMX D D1 I p g j h1 h2 C r fun x y h' tk B p2 H t L v J G u=>A1 (K x y h' tk B p2 H t L v J G u)) (F.args_zip_next_1 _))))
theorem aMY{z TI TO f g:Az}{m p:List Az}{n1 n2 i:Nat}{v u:Nat->V9->Prop}{n k:Nat->Hz->Prop}{a b:V9}{Q:O6 V9->S9->Prop}(D:Apart z TI TO f g m p)
  (D1:Draws prog w A.in1 f m n1 v n) (y:Draws prog w A.in1 g p n2 u k)
  (q:IsZip s.heap z TI TO .none) (h:IsPair s.heap TI (.ref f) (.ref g)) (j:IsPair s.heap TO a b) (h1:n i s.heap) (h2:k i s.heap) (d:i=n1\/(i < n1/\i=n2))
  (B:∀ h' tk,(∀ c o,c≠z->c≠TO->c≠f->c≠g->s.heap.get? c=some o->h'.get? c=some o)->Q none {s with heap:=h',toks:=tk}):wpAny (model prog w) A (pyNext (.ref z)) Q E s:=by
 have l:s.TypeIs (.ref z) "zip":=⟨_,q,rfl⟩
 unfold pyNext
 refine AD (FR (DE (name:=Str.ofString "__next__") l E9
  (EC E9 l F.entry_zip_next (aPL D D1 y q h j h1 h2 d fun h' tk e C t=>?_) (F.args_zip_next_1 _))))
 obtain ⟨o,r,x⟩:=t
 refine AD (wpAny_isInstance (T:="StopIteration") (b:=true) ⟨o,r,x⟩ isSubtype_stop ?_)
 exact A1 (B _ _ C)
end
def uC(v:V9)(o:Obj)(h:Hz):Prop:=∀ (prog:P9) (w:W9) (A:U9) (E:V9->S9->Prop) (s:S9) (Q:V9->S9->Prop),s.heap=h->Q (.ref h.objs.size) {s with heap:=h.push o}->wpAny (model prog w) A (pyIter v) Q E s
noncomputable abbrev H2(h:Hz)(o1 o2:Obj):Hz:=(h.push o1).push o2
noncomputable abbrev H3(h:Hz)(o1 o2:Obj):Hz:=(H2 h o1 o2).push {cls:=.type "tuple",data:=.seq #[.ref h.objs.size,.ref (h.push o1).objs.size]}
noncomputable abbrev H4(h:Hz)(o1 o2:Obj):Hz:=(H3 h o1 o2).push {cls:=.type "tuple",data:=.seq #[.none,.none]}
noncomputable abbrev H5(h:Hz)(o1 o2:Obj):Hz:=(H4 h o1 o2).push {cls:=.type "zip",data:=.fields #[.none,.bool false,.bool false,.ref (H2 h o1 o2).objs.size,.ref (H3 h o1 o2).objs.size]}
theorem aKM(i f:V9)(a e:Obj) :
  Meets (Builtin.«zip.__new__» ⟨[.type "zip",i,f],[]⟩) (fun _ R s=>uC i a s.heap/\uC f e (s.heap.push a) /\
   R (.ok (.ret (.ref (H4 s.heap a e).objs.size))) {s with heap:=H5 s.heap a e}):=
 .of_wp fun prog w A R s h=>by
  obtain ⟨b,g,d,c,os⟩:=s;obtain ⟨l,j,h⟩:=h
  have m:=sub_zip
  have n:∀ {A:U9} {E:V9->S9->Prop} {Q:V9->S9->Prop},Q (.ref b.objs.size) ⟨b.push a,g,d,c,os⟩->wpAny (model prog w) A (pyIter i) Q E ⟨b,g,d,c,os⟩:=fun k=>l prog w _ _ ⟨b,g,d,c,os⟩ _ rfl k
  have p2:∀ {A:U9} {E:V9->S9->Prop} {Q:V9->S9->Prop},Q (.ref (b.push a).objs.size) ⟨(b.push a).push e,g,d,c,os⟩->wpAny (model prog w) A (pyIter f) Q E ⟨b.push a,g,d,c,os⟩:=fun k=>j prog w _ _ ⟨b.push a,g,d,c,os⟩ _ rfl k
  wp_walk using n,p2
  exact ⟨_,rfl,h⟩
section
variable{prog:P9}{w:W9}{A:U9}{E:V9->S9->Prop}{s:S9}
theorem aMZ{g d:V9}{a b:Obj}{Q:V9->S9->Prop}(h1:uC g a s.heap)(h2:uC d b (s.heap.push a))(q:a.isFreed=false)(r:b.isFreed=false)
  (h:∀ h',IsZip h' (s.heap.objs.size+4) (s.heap.objs.size+2) (s.heap.objs.size+3) .none->IsPair h' (s.heap.objs.size+2) (.ref s.heap.objs.size) (.ref (s.heap.objs.size+1))->
   IsPair h' (s.heap.objs.size+3) .none .none->h'.get? s.heap.objs.size=some a->h'.get? (s.heap.objs.size+1)=some b->h'.objs.size=s.heap.objs.size+5->
   (∀ c o,s.heap.get? c=some o->h'.get? c=some o)->Q (.ref (s.heap.objs.size+4)) {s with heap:=h'}) :
  wpAny (model prog w) A (call (.type "zip") [g,d]) Q E s:=by
 refine callType_new F.called_zip (by decide) (F.typeCall_zip_2 _ _) (F.newCall_zip_2 _ _) (fun obj=>F.args_object_init_3 obj _ _) F.entry_zip_new
  (aKM g d a b) ⟨h1,h2,?_⟩
 have k:(s.heap.push a).objs.size=s.heap.objs.size+1:=C6 ..
 have i:(H2 s.heap a b).objs.size=s.heap.objs.size+2:=by rw[C6,k]
 have j:(H3 s.heap a b).objs.size=s.heap.objs.size+3:=by rw[C6,i]
 have e:(H4 s.heap a b).objs.size=s.heap.objs.size+4:=by rw[C6,j]
 have p:(H5 s.heap a b).objs.size=s.heap.objs.size+5:=by rw[C6,e]
 have f:(H5 s.heap a b).get? (H4 s.heap a b).objs.size=some _:=BE _ rfl
 have m:(H5 s.heap a b).get? (H3 s.heap a b).objs.size=some _:=AQ _ (BE _ rfl)
 have l:(H5 s.heap a b).get? (H2 s.heap a b).objs.size=some _:=AQ _ (AQ _ (BE _ rfl))
 have n:(H5 s.heap a b).get? (s.heap.push a).objs.size=some b:=AQ _ (AQ _ (AQ _ (BE _ r)))
 have t:(H5 s.heap a b).get? s.heap.objs.size=some a:=AQ _ (AQ _ (AQ _ (AQ _ (BE _ q))))
 show _/\_
 rw[i,j,e] at f
 rw[k,i] at l
 rw[j] at m
 rw[k] at n
 rw[e]
 exact ⟨⟨_,f,rfl⟩,h _ f l m t n p fun c o x=>
  AQ _ (AQ _ (AQ _ (AQ _ (AQ _ x))))⟩
end
end Zp
namespace L2
open PySem.Spec PyProof.Rows
abbrev Col:=Hp->List V->Prop
structure ColOk(P:Program)(w:World)(K:Frag)(C:Col)(it:Az)(tn:Nat->Heap->Prop):Prop where
 obj:∀ i h,tn i h->∃ o,h.get? it=some o/\∀ v,o.data≠.cell v
 keep:∀ i h h',tn i h->(∀ o,h.get? it=some o->h'.get? it=some o)->tn i h'
 one:∀ (X:Cx),X.prog=P->X.w=w->X.K=K->∀ a5 s σ H xs ys,Inv X a5 σ H s->C H xs->C H ys->xs=ys
 draw:∀ (X:Cx),X.prog=P->X.w=w->X.K=K->∀ (i:Nat) (a5:List (Az×Obj)) (s:S9) (σ:St) (H:Hp) (xs:List V) (A:Around),Inv X a5 σ H s->k9 X a5 H it->tn i s.heap->C H xs->A.handled=none->
  ∃ fp Pv St,Draws P w A it fp xs.length Pv St/\St i s.heap/\(∀ j h,St j h->tn j h)/\(∀ j v,Pv j v->∃ x,xs[j]? = some x/\cB x v)/\∀ b,k9 X a5 H b->b≠it->b∉fp
theorem aGU{X:Cx}{a5:List (Az×Obj)}{σ:St}{H:Hp}{s:S9}{b a:Az}{o:Obj}(I:Inv X a5 σ H s)(d:k9 X a5 H b)(e:X.base.get? a=some o):b≠a:=by
 obtain ⟨_,_,_,g,_⟩:=d
 intro z
 rcases g with c|c
 .exact I.ok.noex a o e (z▸c)
 .have h:=A6 e
  have f:=I.ok.bsz
  rw[z] at c
  exact absurd (BM h (BY f c)) (CI _)
theorem aKN{X:Cx}{a5:List (Az×Obj)}{σ:St}{H:Hp}{s:S9}{b a:Az}{xs:List V}(I:Inv X a5 σ H s)(c:k9 X a5 H b)(h:SqL X.K H a xs):b≠a:=by
 rcases h with (h|⟨o,h⟩)|⟨o,vs,n,h,_⟩
 · intro z; rw [<- z, c.1] at h; cases h
 · intro z; rw [<- z, c.1] at h; cases h
 · exact aGU I c (I.ok.mod.kin _ _ h)
theorem aKO{X:Cx}{a5:List (Az×Obj)}{σ:St}{H:Hp}{s:S9}{b a:Az}{xs:List V}(I:Inv X a5 σ H s)(c:k9 X a5 H b)(h:SqT X.K H a xs):b≠a:=by
 rcases h with (h|⟨o,h⟩)|⟨o,vs,n,h,_⟩
 · intro z; rw [<- z, c.1] at h; cases h
 · intro z; rw [<- z, c.1] at h; cases h
 · exact aGU I c (I.ok.mod.kin _ _ h)
theorem aM0{P:P9}{w:W9}{K:Frag}(a it:Az):ColOk P w K (fun H xs=>SqL K H a xs) it (fun i h=>h.IsListIter it a i) where
 obj:=fun i h ⟨o,e,c,d⟩=>⟨o,e,fun v z=>by rw[d] at z;cases z⟩
 keep:=fun i h h' st k=>st.at fun o e=>k o e
 one:=by
  intro X q x n a5 s σ H xs ys I h1 h2
  subst n
  exact I.list_inj h1 h2
 draw:=by
  intro X q x n i a5 s σ H xs A I C st m F
  subst q x n
  obtain ⟨f,g,p,J⟩:=I.list m
  have l:=aKN I C m
  refine ⟨[it,a],(fun i v=>f.toArray[i]? = some v),(fun i h=>h.IsListIter it a i/\h.IsList a f.toArray),by rw[show xs.length=f.toArray.size by rw[g.length];simp];exact Draws.list F it a (BU l) f.toArray,⟨st,p.isList⟩,fun j h z=>z.1,fun j v e=>?_,fun b B E G=>?_⟩
  .have y:f[j]? = some v:=by simpa using e
   have r:j < xs.length:=by rw[g.length];exact (A3.mp y).1
   obtain ⟨u,t,D⟩:=g.get (AN r)
   rw[y] at t;cases t
   exact ⟨_,AN r,D⟩
  .rcases AY.mp G with z|z
   · exact E z
   · exact aKN I B m (by simpa using z)
theorem aKP{P:P9}{w:W9}{K:Frag}(a it:Az):ColOk P w K (fun H xs=>SqT K H a xs) it (fun i h=>h.IsTupleIter it a i) where
 obj:=fun i h ⟨o,e,c,d⟩=>⟨o,e,fun v z=>by rw[d] at z;cases z⟩
 keep:=fun i h h' ⟨o,e,r⟩ k=>⟨o,k o e,r⟩
 one:=by
  intro X q y n a5 s σ H xs ys I h1 h2
  subst n
  exact I.tuple_inj h1 h2
 draw:=by
  intro X q y n i a5 s σ H xs A I D st m G
  subst q y n
  obtain ⟨f,g,p,L⟩:=I.tuple m
  have l:=aKO I D m
  refine ⟨[it,a],(fun i v=>f.toArray[i]? = some v),(fun i h=>h.IsTupleIter it a i/\h.IsTuple a f.toArray),by rw[show xs.length=f.toArray.size by rw[g.length];simp];exact Zp.aFU G it a (BU l) f.toArray,⟨st,p⟩,fun j h z=>z.1,fun j v e=>?_,fun b C F J=>?_⟩
  .have B:f[j]? = some v:=by simpa using e
   have t:j < xs.length:=by rw[g.length];exact (A3.mp B).1
   obtain ⟨u,x,E⟩:=g.get (AN t)
   rw[B] at x;cases x
   exact ⟨_,AN t,E⟩
  .rcases AY.mp J with z|z
   · exact F z
   · exact aKO I C m (by simpa using z)
noncomputable def aAH(z:Str):List V:=z.cps.toList.map fun c=>V.str ⟨#[c]⟩
theorem aPM{P:P9}{w:W9}{K:Frag}(z:Str)(t:Tok)(it:Az):ColOk P w K (fun _ xs=>xs=aAH z) it (fun i h=>h.IsStrIter it (strIterType z) z t i) where
 obj:=fun i h ⟨o,e,c,d⟩=>⟨o,e,fun v z=>by rw[d] at z;cases z⟩
 keep:=fun i h h' ⟨o,e,r⟩ k=>⟨o,k o e,r⟩
 one:=fun _ _ _ _ _ _ _ _ _ _ _ h1 h2=>h1.trans h2.symm
 draw:=by
  intro X f n q i a5 s σ H xs A I y st g a
  subst f n q g
  have m:Draws X.prog X.w A it [it] z.cps.size (fun i v=>∃ c u,z.cps[i]? = some c/\v=.str ⟨#[c]⟩ u) (fun i h=>h.IsStrIter it (strIterType z) z t i):=by
   unfold strIterType
   split
   · exact Draws.strAscii a it z t
   · exact Draws.strWide a it z t
  refine ⟨[it],_,_,by rw[show (aAH z).length=z.cps.size by unfold aAH;simp];exact m,st,fun j h z=>z,?_,fun b x l p=>l (by simpa using p)⟩
  rintro j v ⟨c,u,hc,rfl⟩
  exact ⟨.str ⟨#[c]⟩,by unfold aAH;rw[AS,D5,hc];rfl,u,rfl⟩
def Itz(C1 C2:Col):It:=
 ⟨fun i H=>∃ xs ys,C1 H xs/\C2 H ys/\i < xs.length/\i < ys.length,fun i H x H'=>∃ p u v,H p=none/\x=.ref p/\H'=upd H p (.tup [u,v])/\(∀ xs,C1 H xs->xs[i]? = some u)/\∀ ys,C2 H ys->ys[i]? = some v,
  fun i H=>∃ xs ys,C1 H xs/\C2 H ys/\(i=xs.length\/(i < xs.length/\i=ys.length))⟩
theorem aM1{P:P9}{w:W9}{K:Frag}{es:List Ez}{k1}{tpos:Pos}{C1 C2:Col}{z TI TO j l:Az}{t1 t2:Nat->Hz->Prop}(Z:ColOk P w K C1 j t1)(V:ColOk P w K C2 l t2)(hd:[z,TI,TO,j,l].Nodup) :
  Turn P w K (.Tuple es k1 tpos) (Itz C1 C2) [z,TI,TO,j,l] z (fun i h=>IsZip h z TI TO .none/\IsPair h TI (.ref j) (.ref l)/\(∃ a b,IsPair h TO a b)/\t1 i h/\t2 i h) where
 mem:=by simp
 obj:=fun i h ak c hc=>by
  obtain ⟨J,G,⟨a,b,O⟩,R,Q⟩:=ak
  simp only[AY,BH,CF] at hc
  rcases hc with rfl|rfl|rfl|rfl|rfl
  .exact ⟨_,J,fun v z=>by have z':Data.fields _=Data.cell v:=z;cases z'⟩
  .exact ⟨_,G,fun v z=>by have z':Data.seq _ _=Data.cell v:=z;cases z'⟩
  .exact ⟨_,O,fun v z=>by have z':Data.seq _ _=Data.cell v:=z;cases z'⟩
  .exact Z.obj i h R
  .exact V.obj i h Q
 keep:=fun i h h' ⟨J,G,⟨a,b,O⟩,R,Q⟩ k=>⟨k z (by simp) _ J,k TI (by simp) _ G,⟨a,b,k TO (by simp) _ O⟩,Z.keep i h h' R fun o e=>k j (by simp) o e,V.keep i h h' Q fun o e=>k l (by simp) o e⟩
 item:=by
  intro X N L M hc i a5 s σ H E I f st hg
  obtain ⟨J,G,⟨a,b,O⟩,R,Q⟩:=st
  obtain ⟨xs,ys,q1,q2,l1,l2⟩:=hg
  simp only[CN,AY,BH,CF,G0,DG,and_true,FZ] at hd
  obtain ⟨⟨d1,d2,d3,d4⟩,⟨d5,d6,d7⟩,⟨d8,d9⟩,t⟩:=hd
  have F:X.A.in1.handled=none:=I.ok.hd hc
  obtain ⟨f1,P1,S1,D1,a1,a2,a3,T⟩:=Z.draw X N L M i a5 s σ H xs X.A.in1 I (f j (by simp)) R q1 F
  obtain ⟨f2,P2,S2,D2,b1,b2,b3,S⟩:=V.draw X N L M i a5 s σ H ys X.A.in1 I (f l (by simp)) Q q2 F
  have ae:=fun zs (h:C1 H zs)=>Z.one X N L M a5 s σ H zs xs I h q1
  have ac:=fun zs (h:C2 H zs)=>V.one X N L M a5 s σ H zs ys I h q2
  subst N L M
  have D:Zp.Apart z TI TO j l f1 f2:=⟨BU d1,BU d2,BU d3,BU d4,d5,d6,d7,d8,d9,t,T z (f z (by simp)) d3,S z (f z (by simp)) d4,T TO (f TO (by simp)) d8,S TO (f TO (by simp)) d9,S j (f j (by simp)) t,T l (f l (by simp)) (BU t)⟩
  refine Zp.aKL D D1 D2 J G O a1 b1 l1 l2 fun x y h' tk px py g1 g2 g3 g4 g5 g6 kp=>?_
  obtain ⟨u,hu,ru⟩:=a3 i x px
  obtain ⟨v,hv,rv⟩:=b3 i y py
  refine ⟨_,rfl,wpAny_letOwnedTupleGo_zip g1 fun h2 se sb=>?_⟩
  have aj:s.heap.objs.size≠z:=D4 (A6 J)
  have ai:h2.get? s.heap.objs.size=some {cls:=.type "tuple",data:=.seq #[x,y]}:=(sb.2 _ aj).trans g5
  have fT:H s.heap.objs.size=none:=I.hok.fresh (A2 _)
  have g:∀ c o,c∉[z,TI,TO,j,l]->s.heap.get? c=some o->h2.get? c=some o:=fun c o d q=>by
   simp only[AY,BH,CF,G0] at d
   exact (sb.2 c d.1).trans (kp c o d.1 d.2.2.1 d.2.2.2.1 d.2.2.2.2 q)
  have C:∀ c B,H c=some B->c∉[z,TI,TO,j,l]:=fun c B q p=>by rw[(f c p).1] at q;cases q
  have af:HOk X.prog X.w H h2:=fun c B q=>by
   refine (I.hok c B q).stay (fun c' v' d q'=>g c' v' ?_ q') (fun _ q=>q) (fun _ _ q=>q) fun _ _ q=>q
   rcases d with p|p
   .rw[p];exact C c B q
   .exact C c' _ p
  have aa:HOk X.prog X.w (upd H s.heap.objs.size (.tup [u,v])) h2:=HOk.track af fT ⟨by show 2<=sizeLine;decide,[x,y],.cons ru (.cons rv .nil),⟨_,ai,⟨rfl,rfl⟩,_,rfl⟩⟩
  have W:∀ c B,H c=some B->c≠s.heap.objs.size:=fun c B q=>eM q fT
  have I2:Inv X a5 σ (upd H s.heap.objs.size (.tup [u,v])) {s with heap:=h2,gens:=s.gens,drawn:=s.drawn,toks:=tk}:=by
   refine I.step (ch:=[z,TI,TO,j,l]) (fun c d=>?_) (fun c o _ _ d q _=>g c o d q) (fun c o _ _ d q _=>⟨o.slots,g c o d q⟩)
    (fun c o _ q n=>by rw[bB (B8 (A6 q))];exact n) (fun c o d q=>⟨o,g c o d q⟩) (fun c ys q=>by rw[bB (W c _ q)];exact q) (fun c o B q=>by rw[bB (W c _ q)];exact q)
    (fun c ps q=>by rw[bB (W c _ q)];exact q) (fun m hm=>?_) aa I.bare
   .obtain ⟨e0,e1,e2,e3,e4,e5⟩:=f c d
    exact ⟨e3,e1,e4,e5⟩
   .obtain ⟨o,Y,ep,ho,r⟩:=hm
    exact ⟨o,Y,ep,g _ o (fun p=>(f _ p).2.1 rfl) ho,r⟩
  refine ⟨.ref s.heap.objs.size,_,I2,rfl,⟨_,u,v,fT,rfl,rfl,fun zs U=>by rw[ae zs U];exact hu,fun zs U=>by rw[ac zs U];exact hv⟩,⟨se,(sb.2 TI (BU d1)).trans (kp TI _ (BU d1) d5 d6 d7 G),⟨x,y,(sb.2 TO (BU d2)).trans g2⟩,Z.keep _ _ _ (a2 _ _ g3) fun o e=>(sb.2 j (BU d3)).trans e,V.keep _ _ _ (b2 _ _ g4) fun o e=>(sb.2 l (BU d4)).trans e⟩,fun c d=>?_⟩
  rw[bB]
  .exact (f c d).1
  .intro p
   have ag:c < s.heap.objs.size:=by
    simp only[AY,BH,CF] at d
    rcases d with rfl|rfl|rfl|rfl|rfl
    · exact A6 J
    · exact A6 G
    · exact A6 O
    · obtain ⟨o, e, _⟩ := Z.obj _ _ R; exact A6 e
    · obtain ⟨o, e, _⟩ := V.obj _ _ Q; exact A6 e
   rw[p] at ag
   exact absurd ag (CI _)
 done:=by
  intro X N L M hc i a5 s σ H E I f st hg
  obtain ⟨J,G,⟨a,b,O⟩,R,Q⟩:=st
  obtain ⟨xs,ys,q1,q2,ad⟩:=hg
  simp only[CN,AY,BH,CF,G0,DG,and_true,FZ] at hd
  obtain ⟨⟨d1,d2,d3,d4⟩,⟨d5,d6,d7⟩,⟨d8,d9⟩,t⟩:=hd
  have F:X.A.in1.handled=none:=I.ok.hd hc
  obtain ⟨f1,P1,S1,D1,a1,a2,a3,T⟩:=Z.draw X N L M i a5 s σ H xs X.A.in1 I (f j (by simp)) R q1 F
  obtain ⟨f2,P2,S2,D2,b1,b2,b3,S⟩:=V.draw X N L M i a5 s σ H ys X.A.in1 I (f l (by simp)) Q q2 F
  subst N L M
  have D:Zp.Apart z TI TO j l f1 f2:=⟨BU d1,BU d2,BU d3,BU d4,d5,d6,d7,d8,d9,t,T z (f z (by simp)) d3,S z (f z (by simp)) d4,T TO (f TO (by simp)) d8,S TO (f TO (by simp)) d9,S j (f j (by simp)) t,T l (f l (by simp)) (BU t)⟩
  refine Zp.aMY D D1 D2 J G O a1 b1 ad fun h' tk kp=>⟨rfl,?_⟩
  have g:∀ c o,c∉[z,TI,TO,j,l]->s.heap.get? c=some o->h'.get? c=some o:=fun c o d q=>by
   simp only[AY,BH,CF,G0] at d
   exact kp c o d.1 d.2.2.1 d.2.2.2.1 d.2.2.2.2 q
  have C:∀ c B,H c=some B->c∉[z,TI,TO,j,l]:=fun c B q p=>by rw[(f c p).1] at q;cases q
  have ah:∀ c o,s.heap.get? c=some o->c∈[TI]->h'.get? c=some o:=fun c o e hm=>by
   have:c=TI:=by simpa using hm
   subst this
   exact kp c o (BU d1) d5 d6 d7 e
  refine I.step (g':=s.gens) (d':=s.drawn) (ch:=[z,TI,TO,j,l]) (fun c d=>?_) (fun c o _ _ d q _=>g c o d q) (fun c o _ _ d q _=>⟨o.slots,g c o d q⟩) (fun _ _ _ _ n=>n) (fun c o d q=>⟨o,g c o d q⟩) (fun _ _ q=>q) (fun _ _ _ q=>q) (fun _ _ q=>q) (fun m hm=>?_) (fun c B q=>?_) I.bare
  .obtain ⟨e0,e1,e2,e3,e4,e5⟩:=f c d
   exact ⟨e3,e1,e4,e5⟩
  .obtain ⟨o,Y,ep,ho,r⟩:=hm
   exact ⟨o,Y,ep,g _ o (fun p=>(f _ p).2.1 rfl) ho,r⟩
  .refine (I.hok c B q).stay (fun c' v' d q'=>g c' v' ?_ q') (fun _ q=>q) (fun _ _ q=>q) fun _ _ q=>q
   rcases d with p|p
   .rw[p];exact C c B q
   .exact C c' _ p
 self:=fun _ _ _ _ _ st h=>wpAny_pyIter_zip st.1 h
def aIH(K:Frag)(H:Hp)(x:V)(C:Col):Prop:=
 (∃ a xs,x=.ref a/\SqL K H a xs/\C=fun H xs=>SqL K H a xs)\/(∃ a xs,x=.ref a/\SqT K H a xs/\C=fun H xs=>SqT K H a xs)\/∃ z,x=.str z/\C=fun _ xs=>xs=aAH z
theorem aEK{X:Cx}{a5:List (Az×Obj)}{σ:St}{H:Hp}{s:S9}{x:V}{u:V9}{C:Col}(I:Inv X a5 σ H s)(r:cB x u)(h:aIH X.K H x C) :
  ∃ (o:Obj) (tn:Az->Nat->Hz->Prop),(∀ h':Hz,(∀ b ob,s.heap.get? b=some ob->h'.get? b=some ob)->Zp.uC u o h')/\o.isFreed=false/\(∀ it,ColOk X.prog X.w X.K C it (tn it))/\∀ it h',h'.get? it=some o->tn it 0 h':=by
 rcases h with ⟨a,xs,rfl,f,rfl⟩|⟨a,xs,rfl,f,rfl⟩|⟨z,rfl,rfl⟩
 .cases r
  obtain ⟨c,g,p,j⟩:=I.list f
  refine ⟨{cls:=.type "list_iterator",data:=.fields #[.ref a,.int 0 0]},fun it i h=>h.IsListIter it a i,fun h' d prog w A E s' Q e q=>?_,rfl,fun it=>aM0 a it,fun it h' e=>⟨_,e,rfl,rfl⟩⟩
  subst e
  refine wpAny_pyIter_list (l:=a) (items:=c.toArray) ?_ q
  obtain ⟨o,e,r⟩:=p.isList
  exact ⟨o,d _ _ e,r⟩
 .cases r
  obtain ⟨c,g,p,j⟩:=I.tuple f
  refine ⟨{cls:=.type "tuple_iterator",data:=.fields #[.ref a,.int 0 0]},fun it i h=>h.IsTupleIter it a i,fun h' d prog w A E s' Q e q=>?_,rfl,fun it=>aKP a it,fun it h' e=>⟨_,e,rfl,rfl⟩⟩
  subst e
  refine wpAny_pyIter_tuple (t:=a) (items:=c.toArray) ?_ q
  obtain ⟨o,e,r⟩:=p
  exact ⟨o,d _ _ e,r⟩
 .obtain ⟨t,rfl⟩:=r
  refine ⟨{cls:=.type (strIterType z),data:=.fields #[.str z t,.int 0 0]},fun it i h=>h.IsStrIter it (strIterType z) z t i,fun h' d prog w A E s' Q e q=>?_,rfl,fun it=>aPM z t it,fun it h' e=>⟨_,e,rfl,rfl⟩⟩
  subst e
  exact wpAny_pyIter_strU q
def aR3(K:Frag)(ta:TA):TI:=fun σ H R=>ta σ H fun vs H1=>∃ x y C1 C2,vs=[x,y]/\aIH K H1 x C1/\aIH K H1 y C2/\R (Itz C1 C2) H1
theorem aR4{X:Cx}{es:List Ez}{k1}{tpos:Pos}{a b:Ez}{ta:TA}{p pos:Pos}(r:Gl X "zip")(O:X.mg "zip"=none)(u:PA X [a,b] ta)(A:starEach [a,b] X.env=[(false,eval a X.env),(false,eval b X.env)]:=by rfl)(hs2:starEach [b] X.env=[(false,eval b X.env)]:=by rfl) :
  PI X (.Tuple es k1 tpos) (.Call (.Name "zip" p) [a,b] [] pos) (aR3 X.K ta):=by
 intro a5 s σ H R I h
 refine Call_ (nP I r O PyProof.Rows.boot_zip (CO (thn (u pos a5 s σ H _ I h) fun T d ⟨vs,H1,g,L,m⟩=>?_) (by rw[A,hs2]) (by rw[hs2];rfl)))
 obtain ⟨x,y,W,C2,rfl,M,F,q⟩:=m
 cases L with
 | cons ru rr=>
  cases rr with
  | cons rv rr=>
   cases rr
   rename_i U _ u2
   obtain ⟨S,Z,G,n,t,B⟩:=aEK g ru M
   obtain ⟨Q,V,C,l,J,o⟩:=aEK g rv F
   refine Zp.aMZ (G _ fun _ _ e=>e) (C _ fun _ _ e=>AQ _ e) n l fun h' i w P v k Y E=>?_
   have N:Inv X a5 σ H1 {d with heap:=h'}:=g.kept (t':=d.toks) E
   refine wpAny_pyIter_zip i ?_
   refine ⟨d.heap.objs.size+4,[d.heap.objs.size+4,d.heap.objs.size+2,d.heap.objs.size+3,d.heap.objs.size,d.heap.objs.size+1],_,_,H1,rfl,N,aM1 (t _) (J _) ?_,⟨i,w,⟨_,_,P⟩,B _ _ v,o _ _ k⟩,fun c j=>?_,q⟩
   .simp only[CN,AY,BH,CF,G0,DG,and_true,FZ]
    refine ⟨⟨?_,?_,?_,?_⟩,⟨?_,?_,?_⟩,⟨?_,?_⟩,?_⟩<;>(intro z;have D:=FF (fun x:Nat=>x - d.heap.objs.size) z;simp at D)
   .have f:d.heap.objs.size<=c:=by
     simp only[AY,BH,CF] at j
     rcases j with rfl|rfl|rfl|rfl|rfl
     · exact EZ _ _
     · exact EZ _ _
     · exact EZ _ _
     · exact A2 _
     · exact EZ _ _
    exact g.fpOk f (g.hok.fresh f)
end L2
namespace Fl
open L2 PyProof.Rows
noncomputable def aII(p:Dz×Dz):Dz:=.tuple [p.1,p.2]
noncomputable def aEL(x y:Dz):R (List Dz):=(dI x).bind fun xs=>(dI y).bind fun ys=>.ok ((xs.zip ys).map aII)
theorem aIJ{d:Dz}{xs:List Dz}(h:dI d=.ok xs):xs.length<=16777216:=by
 unfold dI at h
 split at h
 .split at h
  · rename_i a; cases h; exact a
  · cases h
 .split at h
  · rename_i a; cases h; exact a
  · cases h
 .split at h
  · rename_i a; cases h; rw [AH]; exact a
  · cases h
 .cases h
theorem aBV{d:Dz}{e:Er}:dI d≠.ex e:=by
 intro h
 unfold dI at h
 split at h
 · split at h <;> cases h
 · split at h <;> cases h
 · split at h <;> cases h
 · cases h
theorem aEM{K:Frag}{F:Hp}:∀ (cs:List Nat),DatVs K F (cs.map fun c=>V.str ⟨#[c]⟩) (cs.map fun c=>PyData.str ⟨#[c]⟩)
 | []=>.nil
 | c::t=>.cons (.str _) (aEM t)
theorem aEN{K:Frag}{F B:Hp}{v:V}{d:Dz}{xs:List Dz}(s:bA F B)(r:DatV K F v d)(h:dI d=.ok xs):∃ C vs,aIH K B v C/\(∀ H1,bA F H1->C H1 vs)/\DatVs K F vs xs:=by
 unfold dI at h
 split at h
 .split at h
  .cases h
   obtain ⟨p,vs,rfl,h1,h2⟩:=DatV.lst_of r
   exact ⟨_,vs,.inl ⟨p,vs,rfl,h1.same s,rfl⟩,fun H1 q=>h1.same q,h2⟩
  .cases h
 .split at h
  .cases h
   obtain ⟨p,vs,rfl,h1,h2⟩:=DatV.tup_of r
   exact ⟨_,vs,.inr (.inl ⟨p,vs,rfl,h1.same s,rfl⟩),fun H1 q=>h1.same q,h2⟩
  .cases h
 .rename_i z
  split at h
  .cases h
   obtain rfl:=DatV.str_of r
   exact ⟨_,aAH z,.inr (.inr ⟨z,rfl,rfl⟩),fun _ _=>rfl,aEM _⟩
  .cases h
 .cases h
theorem aGV{α β:Type}:∀ {xs:List α} {ys:List β} {i:Nat} {x:α} {y:β},xs[i]? = some x->ys[i]? = some y->(xs.zip ys)[i]? = some (x,y)
 | [],_,_,_,_,h,_=>by simp at h
 | _::_,[],_,_,_,_,h=>by simp at h
 | x::xs,y::ys,0,_,_,h1,h2=>by simp at h1 h2;subst h1 h2;rfl
 | x::xs,y::ys,i+1,_,_,h1,h2=>by
  show (xs.zip ys)[i]? = _
  exact aGV (by simpa using h1) (by simpa using h2)
theorem aPN{K:Frag}{F B:Hp}{k l:Col}{us vs:List V}{xs ys:List Dz}(t:xs.length<=16777216)(h1:∀ H1,bA F H1->bA B H1->k H1 us)(h2:∀ H1,bA F H1->bA B H1->l H1 vs)(f:DatVs K F us xs)(d2:DatVs K F vs ys) :
  Yld K (Itz k l) F B ((xs.zip ys).map aII) where
 len:=by rw[dY,AH,GR];omega
 go:=fun i j H1 d c b hi=>by
  rw[AH,GR] at hi
  have a:bA F H1:=fun x o z=>c x o (d x o z)
  exact ⟨us,vs,h1 H1 a b,h2 H1 a b,by rw[f.length];omega,by rw[d2.length];omega⟩
 yld:=fun i j H1 v H2 x d c b y e=>by
  obtain ⟨p,u,w,h,rfl,rfl,m,q⟩:=y
  have a:bA F H1:=fun x o z=>c x o (d x o z)
  obtain ⟨dx,e1,r⟩:=f.get (m us (h1 H1 a b))
  obtain ⟨s,e2,n⟩:=d2.get (q vs (h2 H1 a b))
  rw[AS,aGV e1 e2] at e
  cases e
  have g:=bA.upd (o:=.tup [u,w]) (cP c h)
  exact ⟨_,Ext.new c h,.tup (SqT.of bQ) (.cons ((r.same d).same g) (.cons ((n.same d).same g) .nil))⟩
 stop:=fun j H1 d c b=>by
  have a:bA F H1:=fun x o z=>c x o (d x o z)
  refine ⟨us,vs,h1 H1 a b,h2 H1 a b,?_⟩
  rw[AH,GR,f.length,d2.length]
  omega
section
variable{X:Cx}{c:Ct}{E:XK}{tg e:Ez}
theorem aPO{f g:Sg->R Dz}(C:X.K=c.K)(h:PI X tg e (aR3 X.K (gF (tV (c9 c) c E f) (gF (tV (c9 c) c E g) kI)))):PI0 X c E tg e (fun ρ=>(f ρ).bind fun x=>(g ρ).bind fun y=>aEL x y):=PI.imp h fun σ H Q b=>by
 obtain ⟨ρ,F,ab,k⟩:=b
 refine ⟨ρ,F,ab,(Rk.bind k).imp fun x _ q v m H1 d A=>⟨ρ,m,ab.ext d,((Rk.bind q).ext d).imp fun y _ q w i H' s r=>?_⟩⟩
 unfold aEL at q
 cases e1:dI x with
 | bad=>rw[e1] at q;exact q.elim
 | ex e=>exact absurd e1 aBV
 | ok xs=>
  rw[e1] at q
  cases e2:dI y with
  | bad=>rw[R.bind_ok,e2] at q;exact q.elim
  | ex e=>exact absurd e2 aBV
  | ok ys=>
   rw[R.bind_ok,e2] at q
   have a:DatV c.K i v x:=DatV.same s.ff A
   obtain ⟨n,D,t,l,B⟩:=aEN s.fh a e1
   obtain ⟨u,vs,o,j,p⟩:=aEN s.fh r e2
   rw[C]
   exact ⟨v,w,n,u,rfl,t,o,Rk.ok q _ i H' (d.trans s) (aPN (aIJ e1) (fun H1 z _=>l H1 z) (fun H1 z _=>j H1 z) B p)⟩
end
end Fl
namespace L2
open PySem.Spec PyProof.Rows
end L2
namespace Fl
open L2 PyProof.Rows
end Fl
namespace Zp
end Zp
namespace Fl
open L2 PyProof.Rows
end Fl
namespace Zp
end Zp
namespace Fl
open L2 PyProof.Rows
section
variable{X:Cx}{c:Ct}{E:XK}{tg e:Ez}
end
end Fl
namespace Zp
end Zp
namespace HT
open PySem.Spec PyProof.Rows L2
end HT
namespace Fl
open L2 PyProof.Rows
end Fl
namespace L2
open PySem.Spec PyProof.Rows
end L2
namespace Mc
open L2 PyProof.Rows Fl
noncomputable def sD:Sg->R Fw:=(bF (vD (e1 dLen (e2 dIx (e2 dIx (rV 0) (eC (.int 0))) (eC (.int 1))))))
noncomputable def eP:List A->R A:=fnF 1 sD
noncomputable def sE:Sg->R Fw:=(bF (vD (eL (f6 [none,some 1] (e1 dI (rV 0)) (stN 0) gE (e2 dIx (e2 dIx (rV 0) (eC (.int 1))) (rV 1))))))
noncomputable def gN:List A->R A:=fnF 2 sE
noncomputable def uD:Sg->R Fw:=(aM (bG 2 (vD (eSl dSl (eC (.str "abc")) oNo (oSo (rV 0)))))
 (aM (lP (e1 aN2 (eV 1)) (stT [(stN 3),(stN 4)]) (sIf (e1 asB (e2 dNin (rV 4) (rV 2))) (aEC "NoStrip" ["at"] (aB (eV 3) aL)) sNx))
 (bF (vV 1))))
noncomputable def oU:List A->R A:=fnF 5 uD
noncomputable def aBW:Sg->R Fw:=(bF (aZ 2 oU (aB (aZ 1 eP (aB (vV 0) aL)) (aB (vV 1) aL))))
noncomputable def nS:List A->R A:=fnF 2 aBW
noncomputable def pN:Sg->R Fw:=(bF (vD (e1 (p6 "str") (rV 0))))
noncomputable def kO:List A->R A:=fnF 1 pN
noncomputable def mC:Sg->R Fw:=(aM (bG 1 (vD (e1 dTup (eL (f6 [none] (e1 dI (rV 0)) (stN 0) gE (e2 dIx (rV 0) (eC (.int 0))))))))
 (bF (vD (cO (aB (e2 dIx (rV 1) (eC (.int 0))) (aB (eV 1) aL))))))
noncomputable def g9:List A->R A:=fnF 2 mC
noncomputable def oT:Sg->R Bool:=(z8 (e1 asB (eA (aZ 1 kO (aB (vV 2) aL)))))
noncomputable def oB:Sg->R Fw:=(aM (sIf (e1 asB (sA false 3 (eV 2))) (bF (vD (eC (.str "ever")))) sNx)
 (aM (pM 3 (eV 2) (eC (.bool true)))
 (aM (bG 4 (vD (e2 dIx (rV 1) (rV 2))))
 (aM (sIf (e1 asB (e2 dEq (e2 dIx (rV 4) (eC (.int 1))) (eC (.int 1)))) (bF (vD (e2 dIx (rV 4) (eC (.int 0))))) sNx)
 (bG 2 (vD (e2 dIx (rV 0) (e2 dIx (rV 4) (eC (.int 0))))))))))
noncomputable def uE:Sg->R Fw:=aM (pL 3) (aM (cX oT oB) (bF (vV 2)))
noncomputable def kP:List A->R A:=fnF 5 uE
noncomputable def w8:Sg->R Fw:=(aM (bG 2 (aZ 3 kP (aB (vD (e2 dIx (rV 0) (eC (.int 1)))) (aB (vV 1) (aB (vD (e2 dIx (rV 0) (eC (.int 0)))) aL)))))
 (aM (bG 3 (vD (e1 dTup (eL (f6 [none,some 0,some 1] (fS (e1 dLen (rV 1))) (stN 0) gE (eA (aZ 3 kP (aB (vD (e2 dIx (rV 1) (eC (.int 1)))) (aB (vV 2) (aB (vV 0) aL))))))))))
 (bF (vD (cO (aB (eV 2) (aB (eV 3) aL)))))))
noncomputable def lS:List A->R A:=fnF 4 w8
noncomputable def uF:Sg->R Fw:=(aM (bG 3 (vD (e2 dIx (rV 2) (eC (.int 0)))))
 (aM (bG 4 (vD (e2 dIx (rV 0) (e2 dIx (rV 2) (eC (.int 1))))))
 (aM (sIf (e1 asB (e2 dEq (rV 3) (eC (.int 0)))) (bF (vD (cO (aB (e2 dIx (rV 4) (eC (.int 0))) (aB (eC (.int 1)) aL))))) sNx)
 (aM (sIf (e1 asB (e2 dEq (rV 3) (e2 cR (e1 dLen (rV 1)) (eC (.int 1))))) (bF (vD (cO (aB (e2 dIx (rV 4) (eC (.int 2))) (aB (e1 dNeg (eC (.int 1))) aL))))) sNx)
 (bF (vD (e2 dIx (e2 dIx (rV 4) (eC (.int 1))) (e2 kN (eC (.str "abc")) (e2 dIx (rV 1) (e2 dSub (rV 3) (eC (.int 1))))))))))))
noncomputable def iW:List A->R A:=fnF 5 uF
noncomputable def ptT:Sg->R Bool:=(e1 asB (sA true 4 (eV 2)))
noncomputable def ptB:Sg->R Fw:=(aM (pM 4 (eV 2) (eC (.bool true)))
 (aM (bG 5 (aZ 3 iW (aB (vV 0) (aB (vV 1) (aB (vV 2) aL)))))
 (aM (sIf (e1 asB (e2 dIn (e2 dIx (rV 5) (eC (.int 0))) (eC (.tuple [.str "by",.str "out"])))) (sFz 3 (bF (vV 3))) sNx)
 (aM (bG 2 (vD (cO (aB (e2 cR (e2 dIx (rV 2) (eC (.int 0))) (e2 dIx (rV 5) (eC (.int 1)))) (aB (e2 dIx (rV 5) (eC (.int 0))) aL)))))
 (lN 3 (eV 2))))))
noncomputable def aEO:Sg->R Fw:=(aM (oA (aZ 2 nS (aB (vV 0) (aB (vV 1) aL)))) (aM (bG 2 (vD (eC (.tuple [.int 0,.int 0])))) (aM (gM 3 (eZ (aB (eV 2) aL))) (aM (pL 4) (aM (cX ptT ptB) (sFz 3 (bF (vV 3))))))))
noncomputable def qJ:List A->R A:=fnF 6 aEO
noncomputable def aAI:Sg->R Fw:=(aM (bG 1 (vD (e1 dTup (eL (f6 [none] (fS (rV 0)) (stN 0) gE (cO (aB (eC (.int 1)) (aB (eV 0) aL))))))))
 (aM (bG 2 (vD (e1 dTup (eL (f6 [none] (fS (rV 0)) (stN 0) gE (cO (aB (e1 dNeg (eC (.int 1))) (aB (eV 0) aL))))))))
 (bF (vD (cO (aB (eV 1) (aB (eV 2) aL)))))))
noncomputable def qK:List A->R A:=fnF 3 aAI
noncomputable def oV:Sg->R Fw:=(aM (oA (aZ 2 nS (aB (vV 0) (aB (vV 1) aL))))
 (aM (bG 2 (vD (e1 dTup (eL (f6 [none] (e1 dI (eA (aZ 2 gN (aB (vV 0) (aB (vD (e2 kN (eC (.str "abc")) (rV 1))) aL))))) (stN 0) gE (cO (aB (e2 dIx (rV 0) (eC (.int 1))) (aB (e2 dIx (rV 0) (eC (.int 0))) aL))))))))
 (bF (vD (cO (aB (eV 2) (aB (eV 2) aL)))))))
noncomputable def oW:List A->R A:=fnF 3 oV
noncomputable def gT:Sg->R Bool:=(z0 (e1 asB (e2 dIsnt (rV 2) (eC .none))) (e1 asB (e2 dEq (e2 dIx (rV 2) (eC (.int 0))) (rV 3))))
noncomputable def gB:Sg->R Fw:=(aM (sIf (e1 asB (sA false 4 (eV 2))) (bF (vD (eC .none))) sNx)
 (aM (pM 4 (eV 2) (eC (.bool true)))
 (aM (bG 2 (vD (eIf (e1 asB (e2 dEq (rV 3) (eC (.int 1)))) (e2 dIx (e2 dIx (rV 1) (eC (.int 0))) (e2 dIx (rV 2) (eC (.int 1)))) (e2 dIx (e2 dIx (rV 0) (eC (.int 1))) (e2 dIx (rV 2) (eC (.int 1)))))))
 (bG 3 (vD (e1 dNeg (rV 3)))))))
noncomputable def sG:Sg->R Fw:=aM (pL 4) (aM (cX gT gB) (bF (vV 2)))
noncomputable def iD:List A->R A:=fnF 5 sG
noncomputable def w9:Sg->R Fw:=(aM (bG 2 (vD (e1 dTup (eL (f6 [none,some 0,some 1] (e1 dI (e2 dIx (rV 0) (eC (.int 0)))) (stN 0) gE (eA (aZ 4 iD (aB (vV 1) (aB (vV 2) (aB (vV 0) (aB (vD (eC (.int 1))) aL)))))))))))
 (aM (bG 3 (vD (e1 dTup (eL (f6 [none,some 0,some 1] (e1 dI (e2 dIx (rV 1) (eC (.int 1)))) (stN 0) gE (eA (aZ 4 iD (aB (vV 1) (aB (vV 2) (aB (vV 0) (aB (vD (e1 dNeg (eC (.int 1)))) aL)))))))))))
 (bF (vD (cO (aB (eV 2) (aB (eV 3) aL)))))))
noncomputable def kQ:List A->R A:=fnF 4 w9
noncomputable def sdT:Sg->R Bool:=(z0 (e1 asB (e2 dIsnt (rV 2) (eC .none))) (e1 asB (sA true 3 (eV 2))))
noncomputable def sdB:Sg->R Fw:=(aM (pM 3 (eV 2) (eC (.bool true)))
 (aM (bG 4 (vD (e2 dIx (rV 0) (e2 dIx (rV 2) (eC (.int 1))))))
 (aM (bG 5 (vD (eIf (e1 asB (e2 dEq (e2 dIx (rV 2) (eC (.int 0))) (e1 dNeg (eC (.int 1))))) (e2 dIx (rV 4) (eC (.int 0))) (e2 dIx (rV 4) (eC (.int 2))))))
 (aM (sIf (e1 asB (e2 dIn (rV 5) (eC (.tuple [.str "by",.str "out"])))) (bF (vV 5)) sNx)
 (bG 2 (vD (eIf (e1 asB (e2 dEq (e2 dIx (rV 2) (eC (.int 0))) (e1 dNeg (eC (.int 1))))) (e2 dIx (e2 dIx (rV 1) (eC (.int 0))) (rV 5)) (e2 dIx (e2 dIx (rV 1) (eC (.int 1))) (rV 5)))))))))
noncomputable def aEP:Sg->R Fw:=aM (bG 2 (vD (cO (aB (e1 dNeg (eC (.int 1))) (aB (eC (.int 0)) aL))))) (aM (pL 3) (aM (cX sdT sdB) (bF (vD (eC (.str "ever"))))))
noncomputable def uG:List A->R A:=fnF 6 aEP
end Mc
namespace Mc
open L2 PyProof.Rows
def qL(k:Nat)(rs:List Rw):Tb:=⟨rs.map fun r=>some ((r.c.getD k (0,0)).2,(r.c.getD k (0,0)).1),rs.map fun r=>some ((r.c.getD k (0,0)).2,(r.c.getD k (0,0)).1)⟩
theorem aM2(k:Nat)(rs:List Rw):tbD (qL k rs)=tX (aCT k rs) (aCT k rs):=by
 unfold tbD qL aCT
 rw[BL];rfl
theorem aGW{rs:List Rw}{sg:Nat}{r:Rw}{k:Nat}(M:Mach rs sg)(b:r∈rs)(a:k < sg):r.c[k]? = some (r.c.getD k (0,0))/\rJ rs.length (r.c.getD k (0,0)):=by
 have h:=M.row r b
 have d:k < r.c.length:=by rw[h.2];exact a
 have e:r.c[k]? = some (r.c.getD k (0,0)):=by rw[AX,AN d];rfl
 exact ⟨e,h.1.2.2 _ (BA e)⟩
theorem yK(l:List Nat)(a:Nat):∀ n:Nat,a+n<=l.length->((List.range n).map fun k=>a+k).filterMap (fun i=>l[i]?)=(l.drop a).take n
 | 0,_=>rfl
 | n+1,h=>by
  rw[DN,BG,List.filterMap_append,yK l a n (by omega),List.take_add_one,List.getElem?_drop]
  have hl:a+n < l.length:=by omega
  rw[AN hl]
  show _++List.filterMap (fun i=>l[i]?) [a+n]=_
  rw[DT,AN hl];rfl
theorem aBX{z:Str}{a b:Nat}(h1:a<=b)(h2:b<=z.cps.toList.length):Txt.slice z (some (a:Int)) (some (b:Int))=⟨((z.cps.toList.drop a).take (b - a)).toArray⟩:=by
 have g:z.length=z.cps.toList.length:=by rw[CG];rfl
 unfold Txt.slice
 rw[StrLaws.strSliceIndices_plain h1 (by rw[g];exact h2)]
 have e:((List.range (b - a)).map fun k=>a+k).filterMap (fun i=>z.cps[i]?)=(z.cps.toList.drop a).take (b - a):=by
  rw[<-yK z.cps.toList a (b - a) (by omega)]
  congr 1
  funext i
  rw[D5]
 rw[e]
 by_cases c:(1 == 1 && (((List.range (b - a)).map fun k=>a+k).length == z.length))=true
 .have j:b - a=z.length:=by
   rw[BD] at c
   simpa using c.2
  have h:a=0:=by omega
  have f:b=z.cps.toList.length:=by omega
  have e2:(z.cps.toList.drop a).take (b - a)=z.cps.toList:=by rw[h,f,List.drop_zero,Nat.sub_zero,DI (A2 _)]
  rw[e2]
  split
  .exact aGH (by simp)
  .rfl
 .split
  .rename_i d
   exact absurd d c
  .rfl
theorem aIK{z:Str}{i:Nat}(h:i<=z.cps.toList.length):Txt.slice z none (some (i:Int))=⟨(z.cps.toList.take i).toArray⟩:=by
 have e:Txt.slice z none (some (i:Int))=Txt.slice z (some ((0:Nat):Int)) (some (i:Int)):=by unfold Txt.slice;rw[StrLaws.sliceIdx_none_lo];rfl
 rw[e,aBX (B3 _) h];simp
theorem aIL{z:Str}{i:Nat}(h:i<=z.cps.toList.length):Txt.slice z (some (i:Int)) none=⟨(z.cps.toList.drop i).toArray⟩:=by
 have a:z.length=z.cps.toList.length:=by rw[CG];rfl
 have e:Txt.slice z (some (i:Int)) none=Txt.slice z (some (i:Int)) (some ((z.cps.toList.length:Nat):Int)):=by unfold Txt.slice;rw[StrLaws.sliceIdx_none_hi,a]
 rw[e,aBX h (A2 _),DI (by simp)]
end Mc
namespace Fl
open L2 PyProof.Rows
@[simp] theorem bW(d:Dz)(ρ:Sg):eC d ρ=.ok d:=id rfl
@[simp] theorem bZ{α β:Type}(g:α->R β)(f:Sg->R α)(ρ:Sg):e1 g f ρ=(f ρ).bind g:=id rfl
@[simp] theorem cA{α β γ:Type}(g:α->β->R γ)(f:Sg->R α)(a:Sg->R β)(ρ:Sg):e2 g f a ρ=(f ρ).bind fun x=>(a ρ).bind fun y=>g x y:=id rfl
@[simp] theorem fM(i:Nat)(ρ:Sg):eV i ρ=match ρ[i]? with|some (some (.d x))=>.ok x|_=>.bad:=id rfl
@[simp] theorem bU(i:Nat)(ρ:Sg):rV i ρ=match ρ[i]? with|some (some (.d x))=>.ok x|some (some (.l xs))=>.ok (.list xs)|_=>.bad:=id rfl
@[simp] theorem dW(i:Nat)(ρ:Sg):vV i ρ=match ρ[i]? with|some (some (.d x))=>.ok (.d x)|some (some (.x e))=>.ok (.x e)|some (some (.g k n f))=>.ok (.g k n f)|some (some (.f a6))=>.ok (.f a6)|_=>.bad:=id rfl
@[simp] theorem cT(f:Sg->R Dz)(ρ:Sg):vD f ρ=(f ρ).bind fun x=>.ok (.d x):=id rfl
@[simp] theorem fK(x:Dz):getD (.d x)=.ok x:=id rfl
@[simp] theorem gO(f:Sg->R A)(ρ:Sg):eA f ρ=(f ρ).bind getD:=id rfl
@[simp] theorem kZ(f:Sg->R (List Dz))(ρ:Sg):eL f ρ=(f ρ).bind fun xs=>.ok (.list xs):=id rfl
@[simp] theorem bL{α:Type}(ρ:Sg):(aL (α:=α)) ρ=.ok []:=id rfl
@[simp] theorem bJ{α:Type}(f:Sg->R α)(g:Sg->R (List α))(ρ:Sg):aB f g ρ=(f ρ).bind fun x=>(g ρ).bind fun xs=>.ok (x::xs):=id rfl
@[simp] theorem eI(f:Sg->R (List Dz))(ρ:Sg):cO f ρ=(f ρ).bind fun xs=>if xs.length<=16777216 then .ok (.tuple xs) else .bad:=id rfl
@[simp] theorem eS(f:Sg->R (List Dz))(ρ:Sg):eZ f ρ=(f ρ).bind fun xs=>if xs.length<=16777216 then .ok xs else .bad:=id rfl
@[simp] theorem cY(n:Nat)(G:List A->R A)(f:Sg->R (List A))(ρ:Sg):aZ n G f ρ=(f ρ).bind fun as=>if as.length=n then G as else .bad:=id rfl
@[simp] theorem cE(n:Nat)(fb:Sg->R Fw)(b:List A):fnF n fb b=(fb (b.map some++List.replicate (n - b.length) none)).bind fun w=>match w with | .rt (.l _)=>.bad | .rt a=>.ok a | .nx _=>.ok (.d .none)|_=>.bad:=id rfl
@[simp] theorem fU(ρ:Sg):sNx ρ=.ok (.nx ρ):=id rfl
@[simp] theorem aX(f g:Sg->R Fw)(ρ:Sg):aM f g ρ=(f ρ).bind fun w=>match w with | .nx ρ'=>g ρ'|w=>.ok w:=id rfl
@[simp] theorem cN(f:Sg->R A)(ρ:Sg):bF f ρ=(f ρ).bind fun a=>.ok (.rt a):=id rfl
@[simp] theorem cZ(t:Sg->R Bool)(f g:Sg->R Fw)(ρ:Sg):sIf t f g ρ=(t ρ).bind fun b=>if b=true then f ρ else g ρ:=id rfl
@[simp] theorem aR5{α:Type}(t:Sg->R Bool)(f g:Sg->R α)(ρ:Sg):eIf t f g ρ=(t ρ).bind fun b=>if b=true then f ρ else g ρ:=id rfl
@[simp] theorem cU(i:Nat)(f:Sg->R A)(ρ:Sg):bG i f ρ=(f ρ).bind fun a=>.ok (.nx (ρ.set i (some a))):=id rfl
@[simp] theorem fN(i:Nat)(f:Sg->R (List Dz))(ρ:Sg):gM i f ρ=(f ρ).bind fun xs=>.ok (.nx (ρ.set i (some (.l xs)))):=id rfl
@[simp] theorem oX(f:Sg->R A)(ρ:Sg):oA f ρ=(f ρ).bind fun _=>.ok (.nx ρ):=id rfl
@[simp] theorem yL(i:Nat)(f:Sg->R Fw)(ρ:Sg):sFz i f ρ=f (fz i ρ):=id rfl
@[simp] theorem aCZ(i:Nat)(ρ:Sg):fz i ρ=match ρ[i]? with|some (some (.l xs))=>ρ.set i (some (.d (.list xs)))|_=>ρ:=id rfl
@[simp] theorem j6(i:Nat)(f:Sg->R Dz)(ρ:Sg):lN i f ρ=match ρ[i]? with|some (some (.l xs))=>(f ρ).bind fun x=>if xs.length < 16777216 then .ok (.nx (ρ.set i (some (.l (xs++[x]))))) else .bad|_=>.bad:=id rfl
@[simp] theorem aGX(fs:Dz->Sg->O6 Sg)(f:Sg->R Dz)(ρ:Sg):w4 fs f ρ=(f ρ).bind fun x=>(rT (fs x ρ)).bind fun ρ'=>.ok (.nx ρ'):=id rfl
@[simp] theorem iU(a:Sg->R (List Dz))(fs:Dz->Sg->O6 Sg)(fb:Sg->R Fw)(ρ:Sg):lP a fs fb ρ=(a ρ).bind fun xs=>lO fs fb xs ρ:=id rfl
@[simp] theorem lT(js:List (O6 Nat))(a:Sg->R (List Dz))(fs:Dz->Sg->O6 Sg)(b:Sg->R Bool)(fe:Sg->R Dz)(ρ:Sg):f6 js a fs b fe ρ=(a ρ).bind fun xs=>compL fs b fe (fA js ρ) xs:=id rfl
@[simp] theorem aUN(cn:Str)(fs:List Str)(f:Sg->R (List Dz))(ρ:Sg):aEC cn fs f ρ=(f ρ).bind fun xs=>if xs.length=fs.length then .ex ⟨cn,fs.zip xs⟩ else .bad:=id rfl
@[simp] theorem uH(i:Nat)(x:Dz)(ρ:Sg):stN i x ρ=some (ρ.set i (some (.d x))):=id rfl
@[simp] theorem aEQ(fs:List (Dz->Sg->O6 Sg))(xs:List Dz)(ρ:Sg):stT fs (.tuple xs) ρ=stL fs xs ρ:=id rfl
@[simp] theorem aAJ(ρ:Sg):stL [] [] ρ=some ρ:=id rfl
@[simp] theorem xA(f:Dz->Sg->O6 Sg)(fs:List (Dz->Sg->O6 Sg))(x:Dz)(xs:List Dz)(ρ:Sg):stL (f::fs) (x::xs) ρ=(f x ρ).bind (stL fs xs):=id rfl
@[simp] theorem aPP(ρ:Sg):gE ρ=.ok true:=id rfl
@[simp] theorem cJ(b:Bool):asB (.bool b)=.ok b:=id rfl
@[simp] theorem vL(f:Sg->R Bool)(ρ:Sg):z8 f ρ=(f ρ).bind fun b=>.ok (!b):=id rfl
@[simp] theorem aAK(f g:Sg->R Bool)(ρ:Sg):z0 f g ρ=(f ρ).bind fun b=>if b=true then g ρ else .ok false:=id rfl
@[simp] theorem qM(f g:Sg->R Bool)(ρ:Sg):bOr f g ρ=(f ρ).bind fun b=>if b=true then .ok true else g ρ:=id rfl
@[simp] theorem aAL(f g:Sg->R Dz)(ρ:Sg):z9 f g ρ=(f ρ).bind fun x=>(asB x).bind fun b=>if b=true then g ρ else .ok (.bool false):=id rfl
@[simp] theorem aVO(g g':Dz->Dz->R Dz)(a fb b:Sg->R Dz)(ρ:Sg):eCh g g' a fb b ρ=(a ρ).bind fun x=>(fb ρ).bind fun y=>(g x y).bind fun z=>(asB z).bind fun k=>if k=true then (b ρ).bind fun w=>g' y w else .ok (.bool false):=id rfl
@[simp] theorem qN{α:Type}(g:Dz->O6 Int->O6 Int->R α)(f:Sg->R Dz)(lo hi:Sg->R (O6 Int))(ρ:Sg):eSl g f lo hi ρ=(f ρ).bind fun x=>(lo ρ).bind fun l=>(hi ρ).bind fun h=>g x l h:=id rfl
@[simp] theorem qO(ρ:Sg):oNo ρ=.ok none:=id rfl
@[simp] theorem qP(f:Sg->R Dz)(ρ:Sg):oSo f ρ=(f ρ).bind fun x=>match x with | .int i=>.ok (some i)|_=>.bad:=id rfl
@[simp] theorem gP(f:Sg->R Dz)(ρ:Sg):fS f ρ=(f ρ).bind fun x=>match x with | .int j=>fZ 0 j|_=>.bad:=id rfl
@[simp] theorem oC(f g:Sg->R Dz)(ρ:Sg):qI f g ρ=(f ρ).bind fun x=>(g ρ).bind fun y=>match x,y with | .int i,.int j=>fZ i j|_,_=>.bad:=id rfl
@[simp] theorem oY(i:Nat)(ρ:Sg):pL i ρ=.ok (.nx (ρ.set i (some (.m [])))):=id rfl
@[simp] theorem aPQ(a:Bool)(i:Nat)(f:Sg->R Dz)(ρ:Sg):sA a i f ρ=(f ρ).bind fun k=>match ρ[i]? with|some (some (.m a6))=>if kE k (a6.map (·.1))=true then .ok (.bool (if a=true then !jI a6 k else jI a6 k)) else .bad|some (some (.f a6))=>if kE k (a6.map (·.1))=true then .ok (.bool (if a=true then !jI a6 k else jI a6 k)) else .bad|_=>.bad:=id rfl
@[simp] theorem aM3(i:Nat)(f g:Sg->R Dz)(ρ:Sg):pM i f g ρ=(g ρ).bind fun v=>match ρ[i]? with|some (some (.m a6))=>(f ρ).bind fun k=>if kE k (a6.map (·.1))=true/\a6.length<=16777216 then .ok (.nx (ρ.set i (some (.m (putM a6 k v))))) else .bad|_=>.bad:=id rfl
@[simp] theorem gG(i j:Int):cR (.int i) (.int j)=.ok (.int (i+j)):=id rfl
@[simp] theorem mD(i j:Int):dSub (.int i) (.int j)=.ok (.int (i - j)):=id rfl
@[simp] theorem hZ(i:Int):dNeg (.int i)=.ok (.int (-i)):=id rfl
@[simp] theorem nJ(i j:Int):dLt (.int i) (.int j)=.ok (.bool (decide (i < j))):=id rfl
@[simp] theorem aIM(i j:Int):dLe (.int i) (.int j)=.ok (.bool (decide (i<=j))):=id rfl
@[simp] theorem aC0(i j:Int):dGt (.int i) (.int j)=.ok (.bool (decide (j < i))):=id rfl
theorem cV{i j:Int}(h:0 < j):dMod (.int i) (.int j)=.ok (.int (i % j)):=AA h
theorem mF{i j:Int}(h:0 < j)(h2:j < 18446744073709551616):dDiv (.int i) (.int j)=.ok (.int (i / j)):=AA ⟨h,h2⟩
theorem aKQ{i j:Int}(h : -18446744073709551616 < j)(h2:j < 18446744073709551616):dMul (.int i) (.int j)=.ok (.int (i * j)):=AA (.inr ⟨h,h2⟩)
theorem oZ{i j:Int}(h : -18446744073709551616 < i)(h2:i < 18446744073709551616):dMul (.int i) (.int j)=.ok (.int (i * j)):=AA (.inl ⟨h,h2⟩)
@[simp] theorem o0(xs:List Dz):dLen (.list xs)=.ok (.int xs.length):=id rfl
@[simp] theorem qQ(xs:List Dz):dLen (.tuple xs)=.ok (.int xs.length):=id rfl
theorem o3{z:Str}(h:z.length<=16777216):dLen (.str z)=.ok (.int z.length):=AA h
@[simp] theorem lH(xs:List Dz):dTup (.list xs)=.ok (.tuple xs):=id rfl
@[simp] theorem aVP(xs:List Dz):dTup (.tuple xs)=.ok (.tuple xs):=id rfl
@[simp] theorem aVQ(i:Int):dInt (.int i)=.ok (.int i):=id rfl
@[simp] theorem mG(b:Bool):dInt (.bool b)=.ok (.int (if b=true then 1 else 0)):=id rfl
@[simp] theorem aVY(x:Dz):dIs x .none=.ok (.bool (kY x)):=id rfl
@[simp] theorem aVJ(x:Dz):dIsnt x .none=.ok (.bool (!kY x)):=id rfl
@[simp] theorem aVK:kY .none=true:=id rfl
@[simp] theorem aVL(xs:List Dz):kY (.tuple xs)=false:=id rfl
@[simp] theorem aVM(i:Int):kY (.int i)=false:=id rfl
@[simp] theorem aVN(i:Str):kY (.str i)=false:=id rfl
theorem j7{α:Type}{xs:List α}{i:Int}{v:α}(h0:0<=i)(h:xs[i.toNat]? = some v):atI xs i=some v:=by
 obtain ⟨j,rfl⟩:∃ j:Nat,i=j:=⟨i.toNat,by omega⟩
 exact gI (j:=j) h
theorem aER{α:Type}(x:α)(t:List α):atI (x::t) 0=some x:=gI (j:=0) rfl
theorem aGY{α:Type}(x y:α)(t:List α):atI (x::y::t) 1=some y:=gI (j:=1) rfl
theorem aPR{α:Type}(x y z:α)(t:List α):atI (x::y::z::t) 2=some z:=gI (j:=2) rfl
theorem kG{xs:List Dz}{i:Int}{v:Dz}(h:atI xs i=some v):dIx (.tuple xs) (.int i)=.ok v:=by show (match atI xs i with|some v=>R.ok v|none=>.bad)=_;rw[h]
theorem mH{xs:List Dz}{i:Int}{v:Dz}(h:atI xs i=some v):dIx (.list xs) (.int i)=.ok v:=by show (match atI xs i with|some v=>R.ok v|none=>.bad)=_;rw[h]
theorem aIN{z:Str}{i:Int}{u:Nat}(a:z.length<=16777216)(h:atI z.cps.toList i=some u):dIx (.str z) (.int i)=.ok (.str ⟨#[u]⟩):=by
 show (if z.length<=sizeLine then match atI z.cps.toList i with|some u=>R.ok (PyData.str ⟨#[u]⟩)|none=>.bad else .bad)=_
 rw[dY,AA a,h]
@[simp] theorem o4(x:Dz)(t:List Dz):dIx (.tuple (x::t)) (.int 0)=.ok x:=kG (aER x t)
@[simp] theorem uI(x y:Dz)(t:List Dz):dIx (.tuple (x::y::t)) (.int 1)=.ok y:=kG (aGY x y t)
@[simp] theorem aVR(x y z:Dz)(t:List Dz):dIx (.tuple (x::y::z::t)) (.int 2)=.ok z:=kG (aPR x y z t)
@[simp] theorem aES(x:Dz)(t:List Dz):dIx (.list (x::t)) (.int 0)=.ok x:=mH (aER x t)
@[simp] theorem aET(x y:Dz)(t:List Dz):dIx (.list (x::y::t)) (.int 1)=.ok y:=mH (aGY x y t)
theorem sH{xs:List Dz}(h:xs.length<=16777216):dI (.tuple xs)=.ok xs:=AA h
theorem sJ{xs:List Dz}(h:xs.length<=16777216):dI (.list xs)=.ok xs:=AA h
theorem xB{z:Str}(h:z.cps.toList.length<=16777216):dI (.str z)=.ok (z.cps.toList.map fun u=>.str ⟨#[u]⟩):=AA h
theorem mI{x y:Dz}(a:SeqAt.shaped x=true)(b:SeqAt.shaped y=true):dEq x y=.ok (.bool (PyData.eqv x y)):=AA ⟨a,b⟩
theorem aEU{x y:Dz}(a:SeqAt.shaped x=true)(b:SeqAt.shaped y=true):dNe x y=.ok (.bool (!PyData.eqv x y)):=AA ⟨a,b⟩
@[simp] theorem aVS(T:String)(i:Int):p6 T (.int i)=.ok (.bool (lQ "int" T)):=id rfl
@[simp] theorem aVT(T:String)(i:Str):p6 T (.str i)=.ok (.bool (lQ "str" T)):=id rfl
@[simp] theorem aVU(T:String)(i:List Dz):p6 T (.tuple i)=.ok (.bool (lQ "tuple" T)):=id rfl
@[simp] theorem aVV(T:String)(i:List Dz):p6 T (.list i)=.ok (.bool (lQ "list" T)):=id rfl
@[simp] theorem aVW(T:String)(i:Bool):p6 T (.bool i)=.ok (.bool (lQ "bool" T)):=id rfl
@[simp] theorem aVX(T:String):p6 T .none=.ok (.bool (lQ "NoneType" T)):=id rfl
theorem aIO{xs:List Dz}{lo hi:O6 Int}(h:¬ (HT.sIx xs.length 0 lo=0/\HT.sIx xs.length xs.length hi=xs.length)):dSl (.tuple xs) lo hi=.ok (.tuple (oS xs lo hi)):=by
 unfold dSl;exact AA h
theorem aT1(xs:List Dz)(lo hi:O6 Int):dSl (.list xs) lo hi=.ok (.list (oS xs lo hi)):=id rfl
theorem aC1{z:Str}{lo hi:O6 Int}(h:z.length<=16777216):dSl (.str z) lo hi=.ok (.str (Txt.slice z lo hi)):=by
 unfold dSl;exact AA h
theorem aKR{xs ys:List Dz}(h:xs.isEmpty=false)(h2:xs.length+ys.length<=16777216):cR (.tuple xs) (.tuple ys)=.ok (.tuple (xs++ys)):=by
 unfold cR;exact AA ⟨h,by rw[dY];exact h2⟩
theorem aR6{x y:Str}(h:x.length+y.length<=16777216):cR (.str x) (.str y)=.ok (.str (x++y)):=by
 unfold cR;exact AA (by rw[dY];exact h)
theorem compL_of{α:Type}{fs:Dz->Sg->O6 Sg}{fe:Sg->R Dz}{ρ0:Sg}{d:α->Dz}{g:α->Dz}:∀ {xs:List α},(∀ x∈xs,∃ ρ1,fs (d x) ρ0=some ρ1/\fe ρ1=.ok (g x))->compL fs gE fe ρ0 (xs.map d)=.ok (xs.map g)
 | [],_=>rfl
 | x::t,h=>by
  obtain ⟨ρ1,h1,h2⟩:=h x BI
  rw[AI]
  unfold compL
  rw[h1,compL_of fun y a=>h y (A9 _ a),l5,R.bind_ok,aPP,R.noEx_ok,R.bind_ok,AA rfl,h2];rfl
theorem jS{α:Type}{fs:Dz->Sg->O6 Sg}{fb:Sg->R Fw}{d:α->Dz}{xs:List α}{ρ:Sg}(J:Nat->Sg->Prop)(h0:J 0 ρ)(a:∀ (i:Nat) (x:α) (ρ:Sg),xs[i]? = some x->J i ρ->∃ ρ1 ρ2,fs (d x) ρ=some ρ1/\(fb ρ1=.ok (.nx ρ2)\/fb ρ1=.ok (.ct ρ2))/\J (i+1) ρ2) :
  ∃ ρ',lO fs fb (xs.map d) ρ=.ok (.nx ρ')/\J xs.length ρ':=by
 induction xs generalizing ρ J with
 | nil=>exact ⟨ρ,rfl,h0⟩
 | cons x t ih=>
  obtain ⟨ρ1,ρ2,h1,h2,c⟩:=a 0 x ρ rfl h0
  obtain ⟨ρ',b,f⟩:=ih (ρ:=ρ2) (fun i=>J (i+1)) c (fun i y ρ e g=>a (i+1) y ρ (by simpa using e) g)
  refine ⟨ρ',?_,f⟩
  rw[AI]
  unfold lO
  rw[h1,l5,R.bind_ok]
  rcases h2 with h2|h2<;>rw[h2]<;>exact b
theorem l6{t:Sg->R Bool}{b:Sg->R Fw}{ρ a:Sg}(h1:t ρ=.ok true)(h2:b ρ=.ok (.nx a)):cX t b ρ=cX t b a:=by
 rw[t9,h1,R.bind_ok,AA rfl,h2];rfl
theorem l7{t:Sg->R Bool}{b:Sg->R Fw}{ρ:Sg}{a:A}(h1:t ρ=.ok true)(h2:b ρ=.ok (.rt a)):cX t b ρ=.ok (.rt a):=by
 rw[t9,h1,R.bind_ok,AA rfl,h2];rfl
theorem iE{t:Sg->R Bool}{b:Sg->R Fw}{ρ:Sg}(h1:t ρ=.ok false):cX t b ρ=.ok (.nx ρ):=by
 rw[t9,h1,R.bind_ok,AE (by decide)]
def been{α:Type}(d:α->Dz)(ps:List α):List (Dz×Dz):=ps.map fun p=>(d p,.bool true)
theorem uJ{α:Type}(d:α->Dz)(ps:List α):(been d ps).map (·.1)=ps.map d:=by unfold been;rw[BL];rfl
theorem mW{α:Type}{d:α->Dz}(c:∀ a b,d a=d b->a=b){ps:List α}{p:α}:jI (been d ps) (d p)=true↔p∈ps:=by
 rw[aEF,uJ,BZ]
 exact ⟨fun ⟨q,h1,h2⟩=>c q p h2▸h1,fun h=>⟨p,h,rfl⟩⟩
theorem kR{α:Type}{d:α->Dz}(c:∀ a b,d a=d b->a=b){ps:List α}{p:α}(h:p∉ps):jI (been d ps) (d p)=false:=by
 cases q:jI (been d ps) (d p) with
 | false=>rfl
 | true=>exact absurd ((mW c).mp q) h
theorem kS{α:Type}{d:α->Dz}(c:∀ a b,d a=d b->a=b){ps:List α}{p:α}(h:p∉ps):putM (been d ps) (d p) (.bool true)=been d (ps++[p]):=by
 unfold putM
 rw[kR c h,AE (by decide)]
 unfold been
 rw[BG];rfl
theorem fF{α:Type}{d:α->Dz}(b:∀ a,wW (d a)=true)(ps:List α)(p:α):kE (d p) ((been d ps).map (·.1))=true:=by
 unfold kE
 rw[uJ,b,G9,E7,C5]
 refine .inl fun x c=>?_
 obtain ⟨q,_,rfl⟩:=BZ.mp c
 exact b q
theorem jT{α:Type}(d:α->Dz)(ps:List α):(been d ps).length=ps.length:=by unfold been;rw[AH]
def prD(p:Int×Int):Dz:=.tuple [.int p.1,.int p.2]
theorem gC(a b:Int×Int)(h:prD a=prD b):a=b:=by
 unfold prD at h
 injection h with h
 injection h with h1 h2
 injection h2 with h2 _
 injection h1 with h1
 injection h2 with h2
 exact Prod.ext h1 h2
theorem hJ(a:Int×Int):wW (prD a)=true:=rfl
end Fl
namespace Mc
open L2 PyProof.Rows Fl
theorem vM{r:Rw}{rs:List Rw}:eP [.d (a8 (r::rs))]=.ok (.d (.int r.c.length)):=by
 simp[eP,sD,a8,cQ]
theorem aM4{n:Nat}(h1:1<=n)(e:n<=3)(z:Str):∀ (cs:List Nat) (k:Nat) (u3 u4:O6 A),
  lO (stT [stN 3,stN 4]) (sIf (e1 asB (e2 dNin (rV 4) (rV 2))) (aEC "NoStrip" ["at"] (aB (eV 3) aL)) sNx) (j8 k (cs.map fun u=>.str ⟨#[u]⟩)) [some (.d (.int n)),some (.d (.str z)),some (.d (.str (Txt.slice "abc" none (some (n:Int))))),u3,u4] =
  match nF n k cs with
  | some i=>.ex ⟨"NoStrip",[("at",.int i)]⟩
  | none=>.ok (.nx [some (.d (.int n)),some (.d (.str z)),some (.d (.str (Txt.slice "abc" none (some (n:Int))))),if cs=[] then u3 else some (.d (.int ((k+cs.length - 1:Nat):Int))),if cs=[] then u4 else (cs.getLast?.map fun u=>A.d (.str ⟨#[u]⟩))]):=by
 intro cs
 induction cs with
 | nil=>intro k u3 u4;rfl
 | cons c t ih=>
  intro k u3 u4
  have a:dNin (.str ⟨#[c]⟩) (.str (Txt.slice "abc" none (some (n:Int))))=.ok (.bool (!dH n c)):=by
   show R.ok (PyData.bool (!_))=_
   rw[aDP h1 e]
  rw[AI,j8]
  unfold lO
  rw[xZ]
  cases b:dH n c with
  | false=>simp[a,b]
  | true=>
   simp[a,b,ih]
   cases nF n (k+1) t with
   | some i=>rfl
   | none=>
    simp
    cases t with
    | nil=>simp
    | cons c' t'=>simp<;>try omega
theorem aT2{n:Nat}(h1:1<=n)(c:n<=3){z:Str}(e:z.cps.toList.length<=16777216):oU [.d (.int n),.d (.str z)]=match nF n 0 z.cps.toList with
  | some i=>.ex ⟨"NoStrip",[("at",.int i)]⟩
  | none=>.ok (.d (.str z)):=by
 have b:dSl (.str "abc") none (some (n:Int))=.ok (.str (Txt.slice "abc" none (some (n:Int)))):=by
  show (if ("abc":Str).length<=16777216 then R.ok _ else .bad)=_
  exact AA (by decide)
 have a:aN2 (.str z)=.ok (j8 0 (z.cps.toList.map fun u=>.str ⟨#[u]⟩)):=by
  show (if z.cps.toList.length<=16777216 then R.ok _ else .bad)=_
  exact AA e
 simp only[oU,uD,cE,aX,cU,cT,qN,bW,qO,qP,R.bind_ok,bU,iU,bZ,fM,AI,A5,AU,AV,AG,AK]
 simp only[List.replicate,AC,AB,b,R.bind_ok,AM,AJ,a,aM4 h1 c]
 cases nF n 0 z.cps.toList with
 | some i=>rfl
 | none=>rfl
theorem Mach.cons{rs:List Rw}{sg:Nat}(M:Mach rs sg):∃ r t,rs=r::t/\r.c.length=sg:=by
 cases rs with
 | nil=>have:=M.len;simp at this
 | cons r t=>exact ⟨r,t,rfl,(M.row r BI).2⟩
theorem aR7{rs:List Rw}{sg:Nat}(M:Mach rs sg){z:Str}(b:z.cps.toList.length<=16777216):nS [.d (a8 rs),.d (.str z)]=match nF sg 0 z.cps.toList with
  | some i=>.ex ⟨"NoStrip",[("at",.int i)]⟩
  | none=>.ok (.d (.str z)):=by
 obtain ⟨r,t,rfl,a⟩:=M.cons
 simp[nS,aBW,vM,a,aT2 M.sg1 M.sg3 b]
 cases nF sg 0 z.cps.toList<;>rfl
theorem sK{rs:List Rw}{sg:Nat}(M:Mach rs sg){z:Str}(S:bY sg z.cps.toList):nS [.d (a8 rs),.d (.str z)]=.ok (.d (.str z)):=by
 rw[aR7 M (by have:=S.1;omega),aDS S.2]
def ck(k:Nat)(r:Rw):Int×Int:=r.c.getD k (0,0)
theorem aGZ{rs:List Rw}{sg k:Nat}(M:Mach rs sg)(f:k < sg):gN [.d (a8 rs),.d (.int k)]=.ok (.d (.list (rs.map fun r=>fC (ck k r)))):=by
 have h:=compL_of (fs:=stN 0) (fe:=e2 dIx (e2 dIx (rV 0) (eC (.int 1))) (rV 1)) (ρ0:=[none,some (.d (.int k))]) (d:=cQ) (g:=fun r=>fC (ck k r)) (xs:=rs) fun r a=>by
  refine ⟨_,rfl,?_⟩
  have e:dIx (.tuple (r.c.map fC)) (.int (k:Int))=.ok (fC (ck k r)):=kG (gI (j:=k) (by rw[AS,(aGW M a f).1];rfl))
  simp[cQ,e]
 have b:(rs.map cQ).length<=16777216:=by have:=M.len2;rw[AH];omega
 simp[gN,sE,a8,sH b,fA,h]
theorem nU{n:Nat}(h:n<=16777216):fZ 0 (n:Int)=.ok ((List.range n).map fun i:Nat=>.int (i:Int)):=by
 unfold fZ
 rw[AA (by omega)]
 unfold jZ
 simp
theorem aT3{n:Nat}(h:n<=1000):qK [.d (.int n)]=.ok (.d (tbD (dL n))):=by
 have h1:=compL_of (fs:=stN 0) (fe:=cO (aB (eC (.int 1)) (aB (eV 0) aL))) (ρ0:=[none]) (d:=fun i:Nat=>.int (i:Int)) (g:=fun i:Nat=>kJ 1 (i:Int)) (xs:=List.range n) fun i _=>⟨_,rfl,by simp[kJ]⟩
 have h2:=compL_of (fs:=stN 0) (fe:=cO (aB (e1 dNeg (eC (.int 1))) (aB (eV 0) aL))) (ρ0:=[none]) (d:=fun i:Nat=>.int (i:Int)) (g:=fun i:Nat=>kJ (-1) (i:Int)) (xs:=List.range n) fun i _=>⟨_,rfl,by simp[kJ]⟩
 have a:=nU (n:=n) (by omega)
 rw[aO9]
 simp only[qK,aAI,cE,aX,cU,cT,bZ,kZ,lT,gP,bU,R.bind_ok,AI,A5,AU,AV,AG,AK,List.replicate,AC,a,fA,EF,h1,h2,lH,AM,AJ,cN,eI,bJ,bL,fM,AB]
 rw[AA (by decide)]
 rfl
theorem aKS(z y:Str):kN (.str z) (.str y)=match Builtin.Str.occurrences z y 0 z.length 1 with|i::_=>R.ok (PyData.int i)|[]=>.bad:=rfl
theorem qR{c:Nat}(h:dH 3 c=true):kN (.str "abc") (.str ⟨#[c]⟩)=.ok (.int ((c - 97:Nat):Int)):=by
 obtain ⟨r,e⟩:=aJZ h
 rw[aKS,e]
theorem o5{n c:Nat}(a:n<=3)(h:dH n c=true):dH 3 c=true:=AT (by have:=B0 h;omega)
theorem aKT{sg c:Nat}(a:dH sg c=true):bY sg (⟨#[c]⟩:Str).cps.toList:=⟨by simp,fun x b=>by
 have:x=c:=by simpa using b
 rw[this];exact a⟩
theorem aT4{rs:List Rw}{sg c:Nat}(M:Mach rs sg)(a:dH sg c=true):oW [.d (a8 rs),.d (.str ⟨#[c]⟩)]=.ok (.d (tbD (qL (c - 97) rs))):=by
 have e:c - 97 < sg:=by have:=B0 a;omega
 have h1:=compL_of (fs:=stN 0) (fe:=cO (aB (e2 dIx (rV 0) (eC (.int 1))) (aB (e2 dIx (rV 0) (eC (.int 0))) aL))) (ρ0:=[none]) (d:=fun r:Rw=>fC (ck (c - 97) r)) (g:=fun r:Rw=>kJ (ck (c - 97) r).2 (ck (c - 97) r).1) (xs:=rs) fun r _=>⟨_,rfl,by simp[kJ,fC]⟩
 have b:(rs.map fun r:Rw=>fC (ck (c - 97) r)).length<=16777216:=by have:=M.len2;rw[AH];omega
 rw[aM2]
 simp[oW,oV,sK M (aKT a),qR (o5 M.sg3 a),aGZ M e,sJ b,fA,h1,tX]
 unfold aCT ck
 simp
theorem i9(s:Int×Int):thD (some s)=prD s:=id rfl
theorem iF(s:Int×Int):SeqAt.shaped (prD s)=true:=id rfl
theorem iX(i:Int):SeqAt.shaped (.int i)=true:=id rfl
theorem aR8(i j:Int):PyData.eqv (.int i) (.int j)=decide (i=j):=by
 rw[PyData.eqv.eq_5]
 by_cases h:i=j
 · simp [h]
 · simp [h]
theorem cH(i j:Int):dEq (.int i) (.int j)=.ok (.bool (decide (i=j))):=by rw[mI (iX i) (iX j),aR8]
theorem uK(s:Int×Int):dIx (prD s) (.int 0)=.ok (.int s.1):=o4 _ _
theorem uL(s:Int×Int):dIx (prD s) (.int 1)=.ok (.int s.2):=uI _ _ _
theorem aAM(s:Int×Int):kY (prD s)=false:=id rfl
noncomputable def gρ(a b:Tb)(th:Th)(w:Int)(ps:List (Int×Int)):Sg:=[some (.d (tbD a)),some (.d (tbD b)),some (.d (thD th)),some (.d (.int w)),some (.m (been prD ps))]
theorem aG0(a b:Tb)(w:Int)(ps:List (Int×Int)):gT (gρ a b none w ps)=.ok false:=by simp[gT,gρ,thD]
theorem aAN(a b:Tb)(s:Int×Int)(w:Int)(ps:List (Int×Int)):gT (gρ a b (some s) w ps)=.ok (decide (s.1=w)):=by simp[gT,gρ,i9,aAM,uK,cH]
theorem aG1{t:Tb}{m:Nat}(h:t.good m){q:Int}(h0:0<=q)(h1:q < m):dIx (.tuple (t.f.map thD)) (.int q)=.ok (thD (t.at 1 q)):=by
 refine kG (j7 h0 ?_)
 rw[AS]
 have:=(h.at (w:=1) h0 h1).1
 rw[AA rfl] at this
 rw[this];rfl
theorem aKU{t:Tb}{m:Nat}(h:t.good m){q:Int}(h0:0<=q)(h1:q < m):dIx (.tuple (t.a.map thD)) (.int q)=.ok (thD (t.at (-1) q)):=by
 refine kG (j7 h0 ?_)
 rw[AS]
 have:=(h.at (w:=-1) h0 h1).1
 rw[AE (by decide)] at this
 rw[this];rfl
theorem aIP(t:Tb):dIx (tbD t) (.int 0)=.ok (.tuple (t.f.map thD)):=o4 _ _
theorem aIQ(t:Tb):dIx (tbD t) (.int 1)=.ok (.tuple (t.a.map thD)):=uI _ _ _
theorem aR9{a b:Tb}{s:Int×Int}{w:Int}{ps:List (Int×Int)}(h:s∈ps):gB (gρ a b (some s) w ps)=.ok (.rt (.d .none)):=by
 have h1:=fF hJ ps s
 have h2:=(mW gC).mpr h
 simp[gB,gρ,i9,h1,h2]
theorem aT5{a b:Tb}{m:Nat}(j:a.good m)(e:b.good m){s:Int×Int}{ps:List (Int×Int)}(h:s∉ps)(V:jQ m s)(g:ps.length<=16777216) :
  gB (gρ a b (some s) s.1 ps)=.ok (.nx (gρ a b (if s.1=1 then b.at 1 s.2 else a.at (-1) s.2) (-s.1) (ps++[s]))):=by
 have h1:=fF hJ ps s
 have h2:=kR gC h
 have i:=kS gC h
 have f:(been prD ps).length<=16777216:=by rw[jT];exact g
 have c:=aG1 e V.2.1 V.2.2
 have d:=aKU j V.2.1 V.2.2
 simp only[gB,gρ,i9,aX,cZ,bZ,aPQ,fM,AC,AB,R.bind_ok,h1,A8,h2,cJ,A7,BQ,fU,aM3,bW,f,and_self,i,AJ,AM,cU,cT,aR5,cA,bU,cH,uL,aIP,aIQ,c,d,hZ,decide_eq_true_eq]
 by_cases q:s.1=1
 .simp[q,c]
 .simp[q,d]
theorem aKV{a b:Tb}{m:Nat}(l:a.good m)(i:b.good m)(y:m<=1000){j:Int×Int}:∀ (n:Nat) (ps:List (Int×Int)) (s:Int×Int),Und2 (fB a b) j ps s->(∀ p∈ps,jQ m p)->jQ m s->2 * m+1<=ps.length+n->
  aM (cX gT gB) (bF (vV 2)) (gρ a b (some s) s.1 ps)=.ok (.rt (.d (thD (cM (fB a b) j)))):=by
 intro n
 induction n with
 | zero=>
  intro ps s U h V u
  have:=rL U.nd h
  omega
 | succ n ih=>
  intro ps s U h V u
  have k:gT (gρ a b (some s) s.1 ps)=.ok true:=by rw[aAN,AT rfl]
  rw[aX]
  by_cases e:s∈ps
  .rw[l7 k (aR9 e),U.met e];rfl
  .have v:ps.length<=2 * m:=rL U.nd h
   rw[l6 k (aT5 l i e V (by omega))]
   have st:fB a b s=match (if s.1=1 then b.at 1 s.2 else a.at (-1) s.2) with
    | none=>none
    | some (w,q)=>if w = -s.1 then some (.inl (w,q)) else some (.inr (w,q)):=rfl
   rcases gone_box l i V with ⟨g,_⟩|⟨s',g,_,r⟩|⟨o,g,_⟩
   .cases c:(if s.1=1 then b.at 1 s.2 else a.at (-1) s.2) with
    | none=>
     rw[iE (aG0 _ _ _ _),U.sticks g]
     simp[gρ]
    | some x=>
     rw[st,c] at g
     obtain ⟨w,q⟩:=x
     simp only at g
     split at g<;>cases g
   .cases c:(if s.1=1 then b.at 1 s.2 else a.at (-1) s.2) with
    | none=>rw[st,c] at g;cases g
    | some x=>
     obtain ⟨w,q⟩:=x
     rw[st,c] at g
     simp only at g
     split at g
     .rename_i f
      cases g
      have:=ih (ps++[s]) (w,q) (U.next e (by rw[st,c];simp only;rw[AA f])) (fun p t=>by
       rcases B4.mp t with z|z
       · exact h p z
       · rw [A4.mp z]; exact V) r (by rw [AZ, B6]; omega)
      rw[aX] at this
      rw[<-f]
      exact this
     .cases g
   .cases c:(if s.1=1 then b.at 1 s.2 else a.at (-1) s.2) with
    | none=>rw[st,c] at g;cases g
    | some x=>
     obtain ⟨w,q⟩:=x
     rw[U.outs g]
     rw[st,c] at g
     simp only at g
     split at g
     .cases g
     .rename_i f
      cases g
      rw[iE (by rw[aAN,AW f])]
      simp[gρ]
theorem aKW{a b:Tb}{m:Nat}(i:a.good m)(c:b.good m)(h:m<=1000){th:Th}{w:Int}(e:x6 m th)(hw:w=1\/w = -1):iD [.d (tbD a),.d (tbD b),.d (thD th),.d (.int w)]=.ok (.d (thD (jC a b th w))):=by
 have f:iD [.d (tbD a),.d (tbD b),.d (thD th),.d (.int w)]=(aM (cX gT gB) (bF (vV 2)) (gρ a b th w [])).bind fun w=>match w with | .rt (.l _)=>.bad | .rt a=>.ok a | .nx _=>.ok (.d .none)|_=>.bad:=by
  unfold iD
  rw[cE,sG,aX]
  simp only[oY,R.bind_ok,AI,A5,AU,AV,AG,AK,List.replicate,AM,AJ,gρ,been]
  try rfl
 rw[f]
 cases th with
 | none=>
  rw[aX,iE (aG0 _ _ _ _)]
  simp[gρ,jC]
 | some s=>
  by_cases q:s.1=w
  .subst q
   rw[aKV i c h (2 * m+1) [] s .start (fun p g=>by simp at g) e (by simp)]
   obtain ⟨d,q⟩:=s
   simp[jC]
  .rw[aX,iE (by rw[aAN,AW q])]
   obtain ⟨d,j⟩:=s
   simp[gρ,jC,show ¬ d=w from q]
theorem aN6{a b:Tb}{m:Nat}(h:a.good m)(e:b.good m)(i:m<=1000):kQ [.d (tbD a),.d (tbD b)]=.ok (.d (tbD (jX m [a,b]))):=by
 have h1:=compL_of (fs:=stN 0) (fe:=eA (aZ 4 iD (aB (vV 1) (aB (vV 2) (aB (vV 0) (aB (vD (eC (.int 1))) aL)))))) (ρ0:=[none,some (.d (tbD a)),some (.d (tbD b))]) (d:=thD) (g:=fun th=>thD (jC a b th 1)) (xs:=a.f) fun th c=>⟨_,rfl,by simp[aKW h e i (h.gf th c) (.inl rfl)]⟩
 have h2:=compL_of (fs:=stN 0) (fe:=eA (aZ 4 iD (aB (vV 1) (aB (vV 2) (aB (vV 0) (aB (vD (e1 dNeg (eC (.int 1)))) aL)))))) (ρ0:=[none,some (.d (tbD a)),some (.d (tbD b))]) (d:=thD) (g:=fun th=>thD (jC a b th (-1))) (xs:=b.a) fun th c=>⟨_,rfl,by simp[aKW h e i (e.ga th c) (.inr rfl)]⟩
 have j:(a.f.map thD).length<=16777216:=by rw[AH,h.lf];omega
 have k:(b.a.map thD).length<=16777216:=by rw[AH,e.la];omega
 simp[kQ,w9,aIP,aIQ,sH j,sH k,fA,h1,h2]
 unfold tbD tX
 rw[<-aDU h e,<-aDV h e,BL,BL]
 rfl
noncomputable def nK:Sg->R Fw:=(aM (bG 2 (vD (eC (.int 0))))
 (aM (sIf (e1 asB (e2 dGt (e1 dLen (rV 0)) (eC (.int 0)))) (bG 2 (vD (e2 dIx (rV 0) (e2 dMod (rV 1) (e1 dLen (rV 0)))))) sNx)
 (aM (bG 3 (vD (e2 dMod (e2 dMul (e2 cR (e2 cR (e2 dMod (rV 2) (eC (.int 2147483647))) (e2 dMul (eC (.int 7919)) (rV 1))) (eC (.int 1))) (eC (.int 48271))) (eC (.int 2147483647)))))
 (bF (vD (e2 cR (e2 dMul (e2 dDiv (rV 2) (eC (.int 2147483647))) (eC (.int 2147483659))) (e2 dMod (e2 cR (e2 dMul (rV 3) (eC (.int 69621))) (e2 dMul (eC (.int 104729)) (rV 1))) (eC (.int 2147483659)))))))))
noncomputable def bT:List A->R A:=fnF 4 nK
noncomputable def kT:Sg->R Fw:=(aM (sIf (z0 (e1 asB (e2 dLt (rV 1) (e1 dLen (rV 0)))) (e1 asB (e2 dEq (e2 dMod (e2 dIx (rV 0) (eC (.int 0))) (eC (.int 2))) (eC (.int 1))))) (aM (bG 4 (vD (e2 dIx (rV 0) (rV 1))))
 (aM (bG 5 (vD (eC (.str ""))))
 (aM (lP (fS (rV 2)) (stN 6) (aM (bG 5 (vD (e2 cR (rV 5) (e2 dIx (eC (.str "abc")) (e2 dMod (rV 4) (rV 3))))))
 (bG 4 (vD (e2 dDiv (rV 4) (rV 3))))))
 (bF (vV 5))))) sNx)
 (bF (vD (e2 aCX (eC (.str "")) (eL (f6 [none,some 0,some 1,some 3] (fS (rV 2)) (stN 0) gE (e2 dIx (eC (.str "abc")) (e2 dMod (eA (aZ 2 bT (aB (vV 1) (aB (vD (e2 cR (rV 2) (rV 0))) aL)))) (rV 3)))))))))
noncomputable def gW:List A->R A:=fnF 7 kT
noncomputable def wK:Sg->R Fw:=(aM (w4 (stT [(stN 3),(stN 4)]) (eV 2))
 (aM (w4 (stT [(stN 5),(stN 6),(stN 7)]) (e2 dIx (rV 0) (rV 4)))
 (aM (sIf (bOr (e1 asB (e2 dEq (rV 3) (eC (.int 0)))) (e1 asB (e2 dGt (rV 3) (e1 dLen (rV 1))))) (aM (bG 8 (vD (e2 dIx (eL (eZ (aB (eV 5) (aB (eV 7) aL)))) (e1 dInt (e2 dGt (rV 3) (eC (.int 0)))))))
 (aM (sIf (e1 asB (e1 (p6 "str") (rV 8))) (bF (vD (eC .none))) sNx)
 (bF (vD (cO (aB (e2 dIx (eL (eZ (aB (eC (.int 1)) (aB (e1 dLen (rV 1)) aL)))) (e1 dInt (e2 dGt (rV 3) (eC (.int 0))))) (aB (eV 8) aL))))))) sNx)
 (aM (w4 (stT [(stN 8),(stN 9)]) (e2 dIx (rV 6) (e2 kN (eC (.str "abc")) (e2 dIx (rV 1) (e2 dSub (rV 3) (eC (.int 1)))))))
 (bF (vD (cO (aB (e2 cR (rV 3) (rV 9)) (aB (eV 8) aL)))))))))
noncomputable def p8:List A->R A:=fnF 10 wK
noncomputable def xC:Sg->R Bool:=(e1 asB (sA true 3 (e2 dIx (rV 2) (e1 dNeg (eC (.int 1))))))
noncomputable def xD:Sg->R Fw:=(aM (pM 3 (e2 dIx (rV 2) (e1 dNeg (eC (.int 1)))) (eC (.bool true)))
 (aM (bG 4 (aZ 3 p8 (aB (vV 0) (aB (vV 1) (aB (vD (e2 dIx (rV 2) (e1 dNeg (eC (.int 1))))) aL)))))
 (aM (sIf (e1 asB (e2 dIs (rV 4) (eC .none))) (sFz 2 (bF (vV 2))) sNx)
 (lN 2 (eV 4)))))
noncomputable def sX:Sg->R Fw:=aM (gM 2 (eZ (aB (cO (aB (eC (.int 0)) (aB (eC (.int 0)) aL))) aL))) (aM (pL 3) (aM (cX xC xD) (sFz 2 (bF (vV 2)))))
noncomputable def sY:List A->R A:=fnF 5 sX
def b8(ns:List Int):Dz:=.list (ns.map .int)
theorem qS(ns:List Int):dLen (b8 ns)=.ok (.int ns.length):=by unfold b8;rw[o0,AH]
theorem aEV{ns:List Int}{i:Int}(h0:0<=i)(h1:i < ns.length):∃ v,dIx (b8 ns) (.int i)=.ok (.int v):=by
 refine ⟨ns[i.toNat]'(by omega),mH (j7 h0 ?_)⟩
 rw[AS,AN (by omega)];rfl
theorem mJ(ns:List Int)(k:Int):∃ v,bT [.d (b8 ns),.d (.int k)]=.ok (.d (.int v)):=by
 by_cases h:(0:Int) < ns.length
 .obtain ⟨v,c⟩:=aEV (ns:=ns) (i:=k % (ns.length:Int)) (GQ _ (by omega)) (FM _ h)
  have b:dMod (.int k) (.int (ns.length:Int))=.ok (.int (k % (ns.length:Int))):=cV h
  have a:0 < ns.length:=by omega
  refine ⟨v / 2147483647 * 2147483659+((v % 2147483647+7919 * k+1) * 48271 % 2147483647 * 69621+104729 * k) % 2147483659,?_⟩
  unfold bT nK
  simp[qS,a,b,c,cV,aKQ,oZ,mF]
 .have a:¬ 0 < ns.length:=by omega
  refine ⟨((7919 * k+1) * 48271 % 2147483647 * 69621+104729 * k) % 2147483659,?_⟩
  unfold bT nK
  simp[qS,a,cV,aKQ,oZ,mF]
theorem iY{n:Nat}(h:n<=16777216):fZ 0 (n:Int)=.ok ((List.range n).map fun i:Nat=>.int (i:Int)):=nU h
theorem wL(x y:Str):(x++y).cps.toList=x.cps.toList++y.cps.toList:=by
 show (x.cps++y.cps).toList=_
 rw[Array.toList_append]
theorem aPS{ns:List Int}{at':Int}{m sg:Nat}(H:0<=at')(V:m<=1000)(s1:1<=sg)(S:sg<=3):∃ z:Str,gW [.d (b8 ns),.d (.int at'),.d (.int m),.d (.int sg)]=.ok (.d (.str z))/\bY sg z.cps.toList/\z.cps.toList.length=m:=by
 have N:=nU (n:=m) (by omega)
 have E:(0:Int) < (sg:Int):=by omega
 have o:∀ y:Int,∃ c,dIx (.str "abc") (.int (y % (sg:Int)))=.ok (.str ⟨#[c]⟩)/\dH sg c=true:=fun y=>by
  obtain ⟨c,h1,h2⟩:=aO7 (k:=y) s1 S
  exact ⟨c,aIN (by decide) h1,h2⟩
 have G:∃ z:Str,(bF (vD (e2 aCX (eC (.str "")) (eL (f6 [none,some 0,some 1,some 3] (fS (rV 2)) (stN 0) gE (e2 dIx (eC (.str "abc")) (e2 dMod (eA (aZ 2 bT (aB (vV 1) (aB (vD (e2 cR (rV 2) (rV 0))) aL)))) (rV 3)))))))) [some (.d (b8 ns)),some (.d (.int at')),some (.d (.int m)),some (.d (.int sg)),none,none,none]=.ok (.rt (.d (.str z)))/\bY sg z.cps.toList/\z.cps.toList.length=m:=by
  have b:∀ i:Nat,∃ c,(e2 dIx (eC (.str "abc")) (e2 dMod (eA (aZ 2 bT (aB (vV 1) (aB (vD (e2 cR (rV 2) (rV 0))) aL)))) (rV 3))) [some (.d (.int i)),some (.d (b8 ns)),some (.d (.int at')),some (.d (.int sg))]=.ok (.str ⟨#[c]⟩)/\dH sg c=true:=fun i=>by
   obtain ⟨v,T⟩:=mJ ns (at'+i)
   obtain ⟨c,h1,h2⟩:=o v
   exact ⟨c,by simp[T,cV E,h1],h2⟩
  have s:=Classical.skolem.mp b
  obtain ⟨f,r⟩:=s
  have h1:=compL_of (fs:=stN 0) (fe:=e2 dIx (eC (.str "abc")) (e2 dMod (eA (aZ 2 bT (aB (vV 1) (aB (vD (e2 cR (rV 2) (rV 0))) aL)))) (rV 3))) (ρ0:=[none,some (.d (b8 ns)),some (.d (.int at')),some (.d (.int sg))]) (d:=fun i:Nat=>.int (i:Int)) (g:=fun i:Nat=>.str ⟨#[f i]⟩) (xs:=List.range m) fun i _=>⟨_,rfl,(r i).1⟩
  have C:rX ((List.range m).map fun i:Nat=>PyData.str ⟨#[f i]⟩)=some (((List.range m).map f).map one):=by
   rw[BL]
   generalize List.range m=l
   induction l with
   | nil=>rfl
   | cons a t ih=>simp only[AI,rX,ih];rfl
  have U:aCX (.str "") (.list ((List.range m).map fun i:Nat=>.str ⟨#[f i]⟩))=.ok (.str ⟨((List.range m).map f).toArray⟩):=by
   show (match rX ((List.range m).map fun i:Nat=>PyData.str ⟨#[f i]⟩) with|some ys=>if _ then R.ok _ else .bad|none=>.bad)=_
   rw[C]
   simp only
   rw[AA (by rw[aO5,AH,AH,A0];show m+m * 0<=_;omega),aO6]
  refine ⟨⟨((List.range m).map f).toArray⟩,?_,⟨by simp;omega,fun c b=>?_⟩,by simp⟩
  .simp[N,fA,h1,U]
  .simp at b
   obtain ⟨i,_,rfl⟩:=b
   exact (r i).2
 obtain ⟨L,h,J,I⟩:=G
 by_cases u:at' < (ns.length:Int)
 .obtain ⟨O,j⟩:=aEV (ns:=ns) (i:=0) (GY _) (by omega)
  by_cases M:O % 2=1
  .obtain ⟨K,D⟩:=aEV (ns:=ns) (i:=at') H u
   obtain ⟨P,r,y,z,F,p,B,rfl⟩:=jS (fs:=stN 6) (fb:=aM (bG 5 (vD (e2 cR (rV 5) (e2 dIx (eC (.str "abc")) (e2 dMod (rV 4) (rV 3)))))) (bG 4 (vD (e2 dDiv (rV 4) (rV 3)))))
    (d:=fun i:Nat=>.int (i:Int)) (xs:=List.range m) (ρ:=[some (.d (b8 ns)),some (.d (.int at')),some (.d (.int m)),some (.d (.int sg)),some (.d (.int K)),some (.d (.str "")),none])
    (fun i ρ=>∃ (y:Int) (z:Str) (F:O6 A),z.cps.toList.length=i/\(∀ c∈z.cps.toList,dH sg c=true)/\ρ=[some (.d (b8 ns)),some (.d (.int at')),some (.d (.int m)),some (.d (.int sg)),some (.d (.int y)),some (.d (.str z)),F]) ⟨K,"",none,rfl,fun c b=>(nomatch (show c∈([]:List Nat) from b)),rfl⟩
    (fun i k ρ Q w=>by
     obtain ⟨y,z,F,p,B,rfl⟩:=w
     have hi:i < m:=by have:=(A3.mp Q).1;simpa using this
     obtain ⟨c,h1,h2⟩:=o y
     have e:cR (.str z) (.str ⟨#[c]⟩)=.ok (.str (z++⟨#[c]⟩)):=aR6 (by
      have:z.length=z.cps.toList.length:=by simp[Str.length]
      show z.length+1<=_
      omega)
     refine ⟨_,_,rfl,.inl ?_,y / sg,z++⟨#[c]⟩,some (.d (.int k)),by rw[wL,AZ,p];rfl,fun x s=>?_,rfl⟩
     .simp[cV E,h1,e,mF E (show (sg:Int) < 18446744073709551616 by omega)]
     .rw[wL] at s
      rcases B4.mp s with q|q
      .exact B x q
      .have:x=c:=by simpa using q
       rw[this];exact h2)
   rw[A0] at p
   refine ⟨z,?_,⟨by omega,B⟩,p⟩
   unfold gW kT
   simp only[cE,AI,A5,AU,AV,AG,AK,List.replicate,aX,cZ,aAK,bZ,cA,bU,bW,AC,AB,R.bind_ok,qS,nJ,cJ,u,FJ,A8,j,cV (show (0:Int) < 2 by decide),cH,M,cU,cT,D,AJ,AM,iU,gP,N,r,cN,dW]
  .refine ⟨L,?_,J,I⟩
   unfold gW kT
   simp only[cE,AI,A5,AU,AV,AG,AK,List.replicate]
   rw[aX,cZ]
   simp only[aAK,bZ,cA,bU,bW,AC,AB,R.bind_ok,qS,nJ,cJ,u,FJ,A8,j,cV (show (0:Int) < 2 by decide),cH,M,decide_false,A7,BQ,fU]
   rw[h];rfl
 .refine ⟨L,?_,J,I⟩
  unfold gW kT
  simp only[cE,AI,A5,AU,AV,AG,AK,List.replicate]
  rw[aX,cZ]
  simp only[aAK,bZ,cA,bU,bW,AC,AB,R.bind_ok,qS,nJ,cJ,u,decide_false,A7,BQ,fU]
  rw[h];rfl
theorem aBY(t:Tb):SeqAt.shaped (tbD t)=true:=aH3 (pI _) (pI _)
theorem aSA(t:Tb):(tbD t).eqv (tbD t)=true:=aO3 (pI _) (pI _)
theorem aSB(t:Tb):dNe (tbD t) (tbD t)=.ok (.bool false):=by rw[aEU (aBY t) (aBY t),aSA];rfl
end Mc
namespace Mc
open L2 PyProof.Rows
def nV(rs:List Rw)(z:List Nat)(s:Int×Int):O6 ((Int×Int)⊕Str):=
 match (bR rs z s).1 with
 | .w x=>some (.inr x)
 | .n q=>some (.inl (s.1+(bR rs z s).2,q))
theorem walk_step{rs:List Rw}{z:List Nat}{s:Int×Int}:(∃ x,cF rs z s=none/\(bR rs z s).1=.w x/\nV rs z s=some (.inr x))\/∃ s',cF rs z s=some s'/\nV rs z s=some (.inl s'):=by
 unfold cF nV
 cases (bR rs z s).1 with
 | w x=>exact .inl ⟨x,rfl,rfl,rfl⟩
 | n q=>exact .inr ⟨_,rfl,rfl⟩
def k6(r:Rw)(w:Int):Tn:=if w = -1 then r.l else r.r
def fV(rs:List Rw)(t:Tb)(s:Int×Int):O6 ((Int×Int)⊕Str):=
 match k6 (aV rs s.2) s.1 with
 | .w x=>some (.inr x)
 | .n q=>match t.at (-s.1) q with
  | none=>none
  | some th=>some (.inl th)
theorem uM{rs:List Rw}{sg:Nat}(M:Mach rs sg){s:Int×Int}(P:jQ rs.length s):(k6 (aV rs s.2) s.1).good rs.length:=by
 have a:=M.row _ (BA (gU P.2.1 P.2.2))
 unfold k6
 split
 · exact a.1.1
 · exact a.1.2.1
theorem aIR{rs:List Rw}{sg:Nat}{t:Tb}(M:Mach rs sg)(G:t.good rs.length){s s':Int×Int}(P:jQ rs.length s)(h:fV rs t s=some (.inl s')):jQ rs.length s':=by
 have g:=uM M P
 unfold fV at h
 cases e:k6 (aV rs s.2) s.1 with
 | w x=>rw[e] at h;cases h
 | n q=>
  rw[e] at h g
  simp only at h
  have a:=(G.at (w:=-s.1) g.1 g.2).2
  cases e2:t.at (-s.1) q with
  | none=>rw[e2] at h;cases h
  | some th=>rw[e2] at h a;cases h;exact a
end Mc
namespace Mc
open L2 PyProof.Rows Fl
theorem aEW:lQ "int" "str"=false:=by decide
theorem aEX:lQ "str" "str"=true:=by decide
theorem yM{rs:List Rw}{q:Int}(h0:0<=q)(h1:q < (rs.length:Int)):dIx (a8 rs) (.int q)=.ok (cQ (aV rs q)):=kG (j7 h0 (by rw[AS,gU h0 h1];rfl))
def uN:O6 (Int×Int)->Dz
 | none=>.none
 | some s=>prD s
theorem hU(z:Str):z.length=z.cps.toList.length:=by simp[Str.length]
theorem aKX{rs:List Rw}{sg:Nat}{z:Str}(M:Mach rs sg)(S:bY sg z.cps.toList){s:Int×Int}(V:iP rs z.cps.toList s):p8 [.d (a8 rs),.d (.str z),.d (prD s)]=.ok (.d (uN (cF rs z.cps.toList s))):=by
 obtain ⟨p,q⟩:=s
 have i:=yM V.2.2.1 V.2.2.2
 have v:z.length<=16777216:=by rw[hU];have:=S.1;omega
 have h:=o3 v
 rw[hU] at h
 generalize C:z.cps.toList=g at *
 unfold p8 wK
 by_cases f:p=0
 .subst f
  have a:cF rs g (0,q)=match (aV rs q).l with | .w _=>none | .n q'=>some (0+1,q'):=by
   unfold cF bR;simp only[A8]<;>(cases (aV rs q).l<;>rfl)
  cases e:(aV rs q).l with
  | w x=>
   rw[e] at a
   rw[a]
   simp[prD,i,h,cQ,cH,e,Tn.d,aEX,uN]
  | n q'=>
   rw[e] at a
   rw[a]
   simp[prD,i,h,cQ,cH,e,Tn.d,aEW,uN]
 .by_cases h1:p=(g.length:Int)+1
  .have a:cF rs g (p,q)=match (aV rs q).r with | .w _=>none | .n q'=>some (p + -1,q'):=by
    unfold cF bR;simp only[AE f,AA h1]<;>(cases (aV rs q).r<;>rfl)
   have m:(0:Int) < p:=by omega
   have b:(g.length:Int) < p:=by omega
   cases e:(aV rs q).r with
   | w x=>
    rw[e] at a
    rw[a]
    simp[prD,i,h,cQ,cH,e,Tn.d,aEX,uN,f,b,m]
   | n q'=>
    rw[e] at a
    rw[a]
    simp[prD,i,h,cQ,cH,e,Tn.d,aEW,uN,f,b,m]
    omega
  .obtain ⟨c,u,B,o⟩:=zU S V f h1
   obtain ⟨j,t,k,F⟩:=rK M S V f h1
   have A:=V.1
   have y:=V.2.1
   simp only at A y u o t k
   have a:cF rs g (p,q)=some (p+j.2,j.1):=by
    unfold cF bR;simp only[AE f,AE h1,k]
   have b:¬ (g.length:Int) < p:=by omega
   have E:dIx (.str z) (.int (p - 1))=.ok (.str ⟨#[c]⟩):=aIN v (j7 (by omega) (by rw[C,<-u];congr 1;omega))
   have id:=qR (o5 M.sg3 B)
   have D:dIx (.tuple ((aV rs q).c.map fC)) (.int ((c - 97:Nat):Int))=.ok (fC j):=kG (gI (by rw[AS,<-o,t];rfl))
   rw[a]
   simp[prD,i,h,cQ,cH,uN,f,b,E,id,D,fC]
theorem o6(xs:List Dz)(x:Dz):dIx (.list (xs++[x])) (.int (-1))=.ok x:=mH (L2.aL4 xs x)
def stρ(rs:List Rw)(z:Str)(ps:List (Int×Int))(s:Int×Int)(u:O6 A):Sg:=[some (.d (a8 rs)),some (.d (.str z)),some (.l (ps.map prD++[prD s])),some (.m (been prD ps)),u]
theorem aSC{rs:List Rw}{z:Str}{ps:List (Int×Int)}{s:Int×Int}{u:O6 A}(h:s∈ps):xC (stρ rs z ps s u)=.ok false:=by
 have h1:=fF hJ ps s
 have h2:=(mW gC).mpr h
 simp[xC,stρ,o6,h1,h2]
theorem aG2{rs:List Rw}{z:Str}{ps:List (Int×Int)}{s:Int×Int}{u:O6 A}(h:s∉ps):xC (stρ rs z ps s u)=.ok true:=by
 have h1:=fF hJ ps s
 have h2:=kR gC h
 simp[xC,stρ,o6,h1,h2]
theorem aKY(s:Int×Int):kY (prD s)=false:=id rfl
theorem aPT{rs:List Rw}{sg:Nat}{z:Str}(M:Mach rs sg)(S:bY sg z.cps.toList){ps:List (Int×Int)}{s:Int×Int}{u:O6 A}(V:iP rs z.cps.toList s)(h:s∉ps)(c:ps.length<=2000000)(e:cF rs z.cps.toList s=none):xD (stρ rs z ps s u)=.ok (.rt (.d (.list ((ps++[s]).map prD)))):=by
 have h1:=fF hJ ps s
 have b:=kS gC h
 have a:(been prD ps).length<=16777216:=by rw[jT];omega
 have f:=aKX M S V
 rw[e] at f
 simp[xD,stρ,o6,h1,b,a,f,uN]
theorem aSD{rs:List Rw}{sg:Nat}{z:Str}(M:Mach rs sg)(S:bY sg z.cps.toList){ps:List (Int×Int)}{s s':Int×Int}{u:O6 A}(V:iP rs z.cps.toList s)(h:s∉ps)(g:ps.length<=2000000)(e:cF rs z.cps.toList s=some s'):xD (stρ rs z ps s u)=.ok (.nx (stρ rs z (ps++[s]) s' (some (.d (prD s'))))):=by
 have h1:=fF hJ ps s
 have b:=kS gC h
 have a:(been prD ps).length<=16777216:=by rw[jT];omega
 have f:=aKX M S V
 rw[e] at f
 have c:ps.length+1 < 16777216:=by omega
 simp[xD,stρ,o6,h1,b,a,f,uN,aKY,c]
def lU(rs:List Rw)(z:List Nat)(s:Int×Int):Prop:=iP rs z s/\((cF rs z s=none/\∃ x,(bR rs z s).1=.w x/\cM (nV rs z) (0,0)=some x)\/((∃ s',cF rs z s=some s')/\cM (nV rs z) (0,0)=none))
theorem aFV{rs:List Rw}{sg:Nat}{z:Str}(M:Mach rs sg)(S:bY sg z.cps.toList):∀ (k:Nat) (ps:List (Int×Int)) (s:Int×Int) (u:O6 A),Way rs z.cps.toList ps s k->Und2 (nV rs z.cps.toList) (0,0) ps s->
  aM (cX xC xD) (sFz 2 (bF (vV 2))) (stρ rs z ps s u)=.ok (.rt (.d (.list ((dZ rs z.cps.toList).map prD))))/\∃ ps' s',dZ rs z.cps.toList=ps'++[s']/\lU rs z.cps.toList s':=by
 have g:lK rs z.cps.toList<=1002 * 1000:=G1 (by have:=S.1;omega) M.len2
 have b:∀ (k:Nat) (ps:List (Int×Int)) (s:Int×Int) (u:O6 A),Way rs z.cps.toList ps s k->Und2 (nV rs z.cps.toList) (0,0) ps s->s∈ps->aM (cX xC xD) (sFz 2 (bF (vV 2))) (stρ rs z ps s u)=.ok (.rt (.d (.list ((dZ rs z.cps.toList).map prD))))/\∃ ps' s',dZ rs z.cps.toList=ps'++[s']/\lU rs z.cps.toList s':=by
  intro k ps s u W U a
  refine ⟨?_,ps,s,(W.stop a).symm,W.here,.inr ⟨?_,U.met a⟩⟩
  .rw[aX,iE (aSC a),<-W.stop a]
   simp[stρ]
  .obtain ⟨m,r⟩:=U.back s a
   cases r with
   | cons h t=>
    rcases walk_step (rs:=rs) (z:=z.cps.toList) (s:=s) with ⟨x,_,_,e⟩|⟨s',e,_⟩
    · rw [e] at h; cases h
    · exact ⟨s', e⟩
 intro k
 induction k with
 | zero=>
  intro ps s u W U
  by_cases a:s∈ps
  .exact b 0 ps s u W U a
  .obtain ⟨j,i⟩:=W.more a;omega
 | succ k ih=>
  intro ps s u W U
  by_cases a:s∈ps
  .exact b _ ps s u W U a
  .have f:ps.length<=2000000:=by have:=W.num;omega
   rcases walk_step (rs:=rs) (z:=z.cps.toList) (s:=s) with ⟨x,e,e2,c⟩|⟨s',e,c⟩
   .refine ⟨?_,ps,s,(W.ends a e).symm,W.here,.inl ⟨e,x,e2,U.outs c⟩⟩
    rw[aX,l7 (aG2 a) (aPT M S W.here a f e),<-W.ends a e];rfl
   .have:=ih (ps++[s]) s' (some (.d (prD s'))) (W.next M S a e) (U.next a c)
    rw[aX] at this ⊢
    rw[l6 (aG2 a) (aSD M S W.here a f e)]
    exact this
theorem aM5{rs:List Rw}{sg:Nat}{z:Str}(M:Mach rs sg)(S:bY sg z.cps.toList):sY [.d (a8 rs),.d (.str z)]=.ok (.d (.list ((dZ rs z.cps.toList).map prD)))/\∃ ps' s',dZ rs z.cps.toList=ps'++[s']/\lU rs z.cps.toList s':=by
 have h:=aFV M S (lK rs z.cps.toList) [] (0,0) none (Way.start M) Und2.start
 refine ⟨?_,h.2⟩
 unfold sY
 rw[sX]
 simp only[cE,aX,fN,eS,bJ,eI,bW,bL,R.bind_ok,AG,AK,Nat.reduceAdd,Nat.reduceLeDiff,A8,AI,A5,AU,AV,List.replicate,AJ,AM,oY]
 have e:=h.1
 rw[aX] at e
 simp only[stρ,A5,AV,been,prD] at e
 rw[e];rfl
noncomputable def eQ(rs:List Rw)(z:List Nat):Str:=(cM (nV rs z) (0,0)).getD "ever"
theorem aEY{x:Dz}(b:SeqAt.shaped x=true)(h:∀ i,x≠.str i\/True):inD x (.tuple [.str "by",.str "out"])=some (PyData.eqv (.str "by") x || (PyData.eqv (.str "out") x || false)):=by
 have a:SeqAt.shaped (.tuple [.str "by",.str "out"])=true:=by decide +kernel
 cases x<;>simp[inD,b,a]
theorem aKZ(x:Str)(q:Int):PyData.eqv (.str x) (.int q)=false:=by simp[PyData.eqv]
theorem aEZ(x y:Str):PyData.eqv (.str x) (.str y)=(x == y):=by rw[PyData.eqv.eq_6]
theorem yN(q:Int):dIn (.int q) (.tuple [.str "by",.str "out"])=.ok (.bool false):=by
 unfold dIn
 rw[aEY rfl fun _=>.inr trivial,aKZ,aKZ];rfl
theorem yO{x:Str}(h:x="by"\/x="out"):dIn (.str x) (.tuple [.str "by",.str "out"])=.ok (.bool true):=by
 have h2:SeqAt.shaped (.str x)=true:=by rcases h with rfl|rfl<;>decide +kernel
 unfold dIn
 rw[aEY h2 fun _=>.inr trivial,aEZ,aEZ]
 rcases h with rfl|rfl<;>rfl
noncomputable def sdρ(rs:List Rw)(t:Tb)(th:Th)(ps:List (Int×Int))(u v:O6 A):Sg:=[some (.d (a8 rs)),some (.d (tbD t)),some (.d (thD th)),some (.m (been prD ps)),u,v]
theorem aM6{rs:List Rw}{t:Tb}{ps:List (Int×Int)}{u v:O6 A}:sdT (sdρ rs t none ps u v)=.ok false:=by simp[sdT,sdρ,thD]
theorem aSE{rs:List Rw}{t:Tb}{s:Int×Int}{ps:List (Int×Int)}{u v:O6 A}(h:s∈ps):sdT (sdρ rs t (some s) ps u v)=.ok false:=by
 have h1:=fF hJ ps s
 have h2:=(mW gC).mpr h
 simp[sdT,sdρ,i9,aAM,h1,h2]
theorem aAO{rs:List Rw}{t:Tb}{s:Int×Int}{ps:List (Int×Int)}{u v:O6 A}(h:s∉ps):sdT (sdρ rs t (some s) ps u v)=.ok true:=by
 have h1:=fF hJ ps s
 have h2:=kR gC h
 simp[sdT,sdρ,i9,aAM,h1,h2]
theorem aPU{rs:List Rw}{sg:Nat}{t:Tb}(M:Mach rs sg){s:Int×Int}{ps:List (Int×Int)}{u v:O6 A}{x:Str}(P:jQ rs.length s)(h:s∉ps)(i:ps.length<=2000000)(e:k6 (aV rs s.2) s.1=.w x):sdB (sdρ rs t (some s) ps u v)=.ok (.rt (.d (.str x))):=by
 have h1:=fF hJ ps s
 have c:=kS gC h
 have b:(been prD ps).length<=16777216:=by rw[jT];omega
 have f:=yM P.2.1 P.2.2
 have g:=uM M P
 rw[e] at g
 have hi:=yO g
 unfold k6 at e
 by_cases a:s.1 = -1
 .rw[AA a] at e
  simp[sdB,sdρ,i9,h1,c,b,uL,uK,f,cQ,cH,a,e,Tn.d,hi]
 .rw[AE a] at e
  simp[sdB,sdρ,i9,h1,c,b,uL,uK,f,cQ,cH,a,e,Tn.d,hi]
theorem aSF{rs:List Rw}{sg:Nat}{t:Tb}(M:Mach rs sg)(G:t.good rs.length){s:Int×Int}{ps:List (Int×Int)}{u v:O6 A}{q:Int}(P:jQ rs.length s)(h:s∉ps)(l:ps.length<=2000000)(e:k6 (aV rs s.2) s.1=.n q):∃ u' v',sdB (sdρ rs t (some s) ps u v)=.ok (.nx (sdρ rs t (t.at (-s.1) q) (ps++[s]) u' v')):=by
 have h1:=fF hJ ps s
 have i:=kS gC h
 have c:(been prD ps).length<=16777216:=by rw[jT];omega
 have f:=yM P.2.1 P.2.2
 have g:=uM M P
 rw[e] at g
 have hi:=yN q
 have j:=aG1 G g.1 g.2
 have k:=aKU G g.1 g.2
 refine ⟨some (.d (cQ (aV rs s.2))),some (.d (.int q)),?_⟩
 unfold k6 at e
 by_cases b:s.1 = -1
 .rw[AA b] at e
  rw[b,show -(-1:Int)=1 by decide]
  simp[sdB,sdρ,i9,h1,i,c,uL,uK,f,cQ,cH,b,e,Tn.d,hi,aIP,j]
 .rw[AE b] at e
  have a:s.1=1:=by rcases P.1 with h|h;exact h;exact absurd h b
  rw[a]
  simp[sdB,sdρ,i9,h1,i,c,uL,uK,f,cQ,cH,a,e,Tn.d,hi,aIQ,k]
noncomputable def mK(rs:List Rw)(t:Tb):Str:=(cM (fV rs t) (-1,0)).getD "ever"
theorem aK0{rs:List Rw}{sg:Nat}{t:Tb}(M:Mach rs sg)(G:t.good rs.length):∀ (n:Nat) (ps:List (Int×Int)) (s:Int×Int) (u v:O6 A),Und2 (fV rs t) (-1,0) ps s->(∀ p∈ps,jQ rs.length p)->jQ rs.length s->2 * rs.length+1<=ps.length+n->
  aM (cX sdT sdB) (bF (vD (eC (.str "ever")))) (sdρ rs t (some s) ps u v)=.ok (.rt (.d (.str (mK rs t)))):=by
 intro n
 induction n with
 | zero=>
  intro ps s u v U f P i
  have:=rL U.nd f
  omega
 | succ n ih=>
  intro ps s u v U f P i
  have l:=rL U.nd f
  have j:=M.len2
  unfold mK
  by_cases b:s∈ps
  .rw[aX,iE (aSE b),U.met b];rfl
  .cases e:k6 (aV rs s.2) s.1 with
   | w x=>
    rw[aX,l7 (aAO b) (aPU M P b (by omega) e),U.outs (by unfold fV;rw[e])];rfl
   | n q=>
    obtain ⟨g,k,c⟩:=aSF M G (u:=u) (v:=v) P b (by omega) e
    have a:fV rs t s=match t.at (-s.1) q with|none=>none|some th=>some (.inl th):=by simp only[fV,e]<;>(cases t.at (-s.1) q<;>rfl)
    cases e2:t.at (-s.1) q with
    | none=>
     rw[e2] at c a
     rw[aX,l6 (aAO b) c,iE aM6,U.sticks a];rfl
    | some th=>
     rw[e2] at c a
     have:=ih (ps++[s]) th g k (U.next b a) (fun p h=>by
      rcases B4.mp h with z|z
      · exact f p z
      · rw [A4.mp z]; exact P) (aIR M G P a) (by rw [AZ, B6]; omega)
     rw[aX] at this ⊢
     rw[l6 (aAO b) c]
     exact this
theorem aIS{rs:List Rw}{sg:Nat}(M:Mach rs sg):jQ rs.length (-1,0):=⟨.inr rfl,GY _,by have:=M.len;show (0:Int) < _;omega⟩
theorem aU4{rs:List Rw}{sg:Nat}{t:Tb}(M:Mach rs sg)(G:t.good rs.length):uG [.d (a8 rs),.d (tbD t)]=.ok (.d (.str (mK rs t))):=by
 have h:=aK0 M G (2 * rs.length+1) [] (-1,0) none none Und2.start (fun p a=>by simp at a) (aIS M) (by simp)
 unfold uG
 rw[aEP]
 simp only[cE,aX,cU,cT,eI,bJ,bZ,bW,bL,R.bind_ok,hZ,AG,AK,Nat.reduceAdd,Nat.reduceLeDiff,A8,AI,A5,AU,AV,List.replicate,AJ,AM,oY]
 rw[aX] at h
 simp only[sdρ,A5,been,i9,prD] at h
 rw[h];rfl
theorem sL{w:Str}(h:w="by"\/w="out"\/w="ever"):SeqAt.shaped (.str w)=true:=by rcases h with rfl|rfl|rfl<;>decide +kernel
theorem qT{w v:Str}(h:w="by"\/w="out"\/w="ever")(h':v="by"\/v="out"\/v="ever"):dEq (.str w) (.str v)=.ok (.bool (decide (w=v))):=by
 rw[mI (sL h) (sL h'),aEZ]
 congr 2
end Mc
namespace Fl
open L2 PyProof.Rows
def RQ(K:Frag)(H F' H':Hp)(d:Dz×List Dz)(v:V):Prop:=∃ p b u ws,v=.ref p/\H p=none/\H b=none/\p≠b/\H' p=some (.lst [u,.ref b])/\H' b=some (.lst ws)/\F' p=none/\F' b=none/\DatV K F' u d.1/\DatVs K F' ws d.2
def uO(ρ:Sg)(σ:L2.St)(p:Az):Prop:=∀ (j:Nat) (a:A),ρ[j]? = some (some a)->a.own=true->σ[j]? ≠ some (some (.ref p))
theorem Ab.off9{c:Ct}{ρ:Sg}{σ:L2.St}{F H:Hp}{p:Az}{o:HO}(b:Ab c ρ σ F H)(s:F p=none)(r:c.H0 p=none)(q:uO ρ σ p):Ab c ρ σ F (upd H p o) where
 len:=b.len
 fh:=fun a o' z=>by rw[bB (fun w=>by rw[w,s] at z;cases z)];exact b.fh a o' z
 slot:=fun j a h=>by
  obtain ⟨v,h1,h2⟩:=b.slot j a h
  refine ⟨v,h1,?_⟩
  cases i:a.own with
  | true=>exact h2.off fun z=>q j a h i (by rw[h1,z])
  | false=>
   cases a with
   | l xs=>cases i
   | m xs=>cases i
   | d x=>exact h2
   | x e=>exact h2
   | g k n f=>exact h2
   | k S=>exact h2
   | f S=>exact h2
   | o S=>exact h2
 apart:=b.apart
 f0:=b.f0
 h0:=fun a o' z=>by rw[bB (fun w=>by rw[w,r] at z;cases z)];exact b.h0 a o' z
 n0:=b.n0
 t0:=b.t0
theorem Ab.pub9{c:Ct}{ρ:Sg}{σ:L2.St}{F H:Hp}{p:Az}{o:HO}(b:Ab c ρ σ F H)(h2:H p=some o)(v:F p=none)(A:c.H0 p=none)(I:uO ρ σ p):Ab c ρ σ (upd F p o) H:=by
 have q:bA F (upd F p o):=bA.upd v
 exact {
  len:=b.len
  fh:=fun a o' z=>by
   by_cases w:a=p
   .subst w;rw[bQ] at z;rw[h2];exact z
   .rw[bB w] at z;exact b.fh a o' z
  slot:=fun j a h=>by
   obtain ⟨w,C,i⟩:=b.slot j a h
   refine ⟨w,C,?_⟩
   have off:∀ r,a.own=true->w=.ref r->F r=none->upd F p o r=none:=fun r G e f=>by
    rw[bB]
    .exact f
    .intro z
     subst z
     exact I j a h G (by rw[C,e])
   cases a with
   | l zs=>obtain ⟨r,u,e,t,i,B,s⟩:=i;exact ⟨r,u,e,t,off r rfl e i,B,s.same q⟩
   | m a6=>obtain ⟨r,u,e,t,i,B,s⟩:=i;exact ⟨r,u,e,t,off r rfl e i,B,s.same q⟩
   | d x=>exact DatV.same q i
   | x e=>exact AF.same (g:=c.g) (K:=c.K) (mg:=c.mg) (a:=.x e) q i
   | g k n f=>exact AF.same (g:=c.g) (K:=c.K) (mg:=c.mg) (a:=.g k n f) q i
   | k S=>obtain ⟨S,f,D,y,E,L,J,h0,h1,h2,v,A⟩:=i;exact ⟨S,f,D,y,E,L,J,h0,h1,q _ _ h2,q _ _ v,A⟩
   | f a6=>exact AF.same (g:=c.g) (K:=c.K) (mg:=c.mg) (a:=.f a6) q i
   | o e=>exact AF.same (g:=c.g) (K:=c.K) (mg:=c.mg) (a:=.o e) q i
  apart:=b.apart
  f0:=fun a o z=>q a o (b.f0 a o z)
  h0:=b.h0
  n0:=fun a z n=>by
   by_cases w:a=p
   .subst w;exact .inl A
   .rw[bB w] at n;exact b.n0 a z n
  t0:=b.t0}
theorem Ab.drop9{c:Ct}{ρ:Sg}{σ:L2.St}{F H:Hp}(b:Ab c ρ σ F H)(i:Nat)(v:V):Ab c (ρ.set i none) (σ.set i (some v)) F H where
 len:=by rw[CC,CC];exact b.len
 fh:=b.fh
 slot:=fun j a h=>by
  rcases get_set h with ⟨e,q,m⟩|⟨l,q⟩
  .cases q
  .rw[BO l];exact b.slot j a q
 apart:=fun j k n s d h1 h2 p r=>by
  rcases get_set h1 with ⟨e,q,m⟩|⟨l,q⟩
  .cases q
  .rcases get_set h2 with ⟨t,g,o⟩|⟨f,g⟩
   .cases g
   .rw[BO l,BO f]
    exact b.apart j k n s d q g p r
 f0:=b.f0
 h0:=b.h0
 n0:=b.n0
 t0:=b.t0
theorem aM7{α:Type}{l:List α}{i:Nat}{x:α}(h:l[i]? = some x):l.set i x=l:=by
 obtain ⟨a,e⟩:=A3.mp h
 rw[<-e];exact List.set_getElem_self a
structure Own9(c:Ct)(F H:Hp)(ρ:Sg)(σ:L2.St)(i:Nat)(p b:Az)(u:V)(ws:List V):Prop where
 s:σ[i]? = some (some (.ref p))
 ne:p≠b
 hp:H p=some (.lst [u,.ref b])
 hb:H b=some (.lst ws)
 fp:F p=none
 fb:F b=none
 p0:c.H0 p=none
 b0:c.H0 b=none
 np:uO ρ σ p
 nb:uO ρ σ b
theorem Own9.ext{c:Ct}{F H a H':Hp}{ρ:Sg}{σ:L2.St}{i:Nat}{p b:Az}{u:V}{d:List V}(h:Own9 c F H ρ σ i p b u d)(e:Ext F H a H'):Own9 c a H' ρ σ i p b u d:=
 ⟨h.s,h.ne,e.hh _ _ h.hp,e.hh _ _ h.hb,e.stay h.fp h.hp (fun _ z=>nomatch z),e.stay h.fb h.hb (fun _ z=>nomatch z),h.p0,h.b0,h.np,h.nb⟩
end Fl
namespace L2
open PySem.Spec PyProof.Rows
def tCM(C:Az)(sp:Sp)(dvs:List V)(E:XK)(ta:TE)(t:TA):TE:=fun σ H Q=>ta σ H fun x H1=>x=.ref C/\t σ H1 fun vs H2=>sp (vs++dvs) H2 Q E
structure ClsM(K:Frag)(C:Az)(m:Str)(f:Az):Prop where
 sp:PySem.W.specialIn K (.ref C) "__getattribute__"=some (some (.builtin "type.__getattribute__"))
 rd:PySem.W.readsIn K C (.type "type")=true
 fc:PySem.W.findCls K (.ref C) (.type "type") m=some (.val (.ref f))
 kp:PySem.W.keepIn K (.ref f)=true
section
variable{X:Cx}{CX:CXT}{k:Nat}{f C:Az}{fd:FuncData}{ps:List Str}{sp:Sp}{dvs:List V}{ds:List V9}{E:XK}{m:Str}{pos apos:Pos}{e o:Ez}{es:List Ez}{ta:TE}{t:TA}
theorem aAP{pl:Sem Bool}(v:PE X o ta)(a:ClsM X.K C m f)(F:FnOk X.prog X.w X.K X.mg X.base CX k f fd ps sp)(z:Room k X.A)(j:fY X.K fd ps ds)(y:b5 dvs ds)(p:lE CX X E)(D:PA X (e::es) t)
  (g:starEach (e::es) X.env=(false,eval e X.env)::starEach es X.env:=by rfl) (hpl:(backTo pos (starEach es X.env)).any (·.1)=false:=by rfl)
  (ht:eval (.Call (.Attribute o m apos) (e::es) [] pos) X.env=(do
   let ov <-eval o X.env
   standAt apos.atName
   let (f,first) <-holding [ov] (getMethod ov m pl)
   callWith pos f first (backTo pos (starEach (e::es) X.env)) (backToKw pos (keywordEach [] X.env))):=by rfl) :
  PE X (.Call (.Attribute o m apos) (e::es) [] pos) (tCM C sp dvs E ta t):=by
 intro a5 s σ H Q I h
 refine GZ (pl:=pl) (thn (v a5 s σ H _ I h) fun u B c=>?_) ht
 obtain ⟨x,H1,d,n,ex,q⟩:=c
 subst ex
 obtain rfl:u=Value.ref C:=n
 refine PySem.W.method_cls d.kIn a.sp (PySem.W.cls_value d.kIn a.rd a.fc rfl ?_)
 have b:=d.tok (B.toks+1)
 refine FK (first:=[]) (h₀:=X.base) I.ok.mod.kin a.kp (thn (D pos a5 _ σ H1 _ b q) fun us G ⟨vs,H2,i,r,l⟩=>⟨i.kIn,?_⟩) g hpl
 exact aDE (us:=us) (vs:=vs) F z j y p i r l
end
def spB(K:Frag)(fs:List Str):Sp:=fun vs H Q _=>∃ x C dx us,vs=.ref x::us/\us.length=fs.length/\H x=some (.ins C dx [])/\Cls K C/\(∀ f∈fs,eG K C f)/\Q .non (upd H x (.ins C dx (fs.zip us)))
def spO(C:Az)(fs:List Str):Sp:=fun vs H Q _=>∃ x dx us,vs=.ref x::us/\us.length=fs.length/\H x=some (.ins C dx [])/\Q .non (upd H x (.ins C dx (fs.zip us)))
structure MkAt(P:Program)(w:World)(K:Frag)(mg:Str->Option V9)(base:Heap)(k:Nat)(cn:Str)(fs:List Str)(C:Az):Prop where
 m:mg cn=some (.ref C)
 i:∃ f fd,Mk K C f/\FnOk P w K mg base CX0 k f fd ("self"::fs) (spO C fs)/\fY K fd ("self"::fs) []
end L2
namespace Fl
open L2 PyProof.Rows
def vO(i:Nat):Sg->R A:=fun ρ=>match ρ[i]? with
 | some (some (.o e))=>.ok (.o e)
 | _=>.bad
theorem mX{X:Cx}{c:Ct}{E:XK}{e:Ez}{i:Nat}(h:PE X e (mP i)):PV X c E e (vO i):=PE.imp h fun σ H Q ⟨ρ,F,ab,k⟩=>by
 unfold vO at k
 split at k
 .rename_i x a
  obtain ⟨v,h1,h2⟩:=ab.slot i _ a
  exact ⟨v,h1,k v F H (Ext.refl ab.fh) h2⟩
 .exact k.elim
def sM(cn:Str)(fs:List Str)(f:Sg->R (List Dz)):Sg->R A:=fun ρ=>(f ρ).bind fun xs=>if xs.length=fs.length then .ok (.o ⟨cn,fs.zip xs⟩) else .bad
section
variable{X:Cx}{c:Ct}{E:XK}{e o:Ez}{es:List Ez}{pos apos:Pos}
theorem aPV{cn:Str}{fs:List Str}{C:Az}{p:XK}{f:Sg->R (List Dz)}(s:c.mg cn=some (.ref C))(h:PE X e (aNT C (spO C fs) [] p (tAd c E f))):PV X c E e (sM cn fs f):=PE.imp h fun σ H Q i=>by
 obtain ⟨ρ,F,ab,k⟩:=i
 refine ⟨ρ,F,ab,(Rk.bind k).imp fun xs _ q vs d H1 n o x dx r g l=>?_⟩
 by_cases a:xs.length=fs.length
 .rw[AA a] at q
  have j:vs.length=fs.length:=by rw[o.length,a]
  refine ⟨x,dx,vs,by rw[CM],j,bQ,rfl,?_⟩
  rw[mO]
  have b:Ext d H1 (upd d dx (.own x)) (upd H1 dx (.own x)):=Ext.new n.fh g
  have m:Ext _ _ (upd (upd d dx (.own x)) x (.ins C dx (fs.zip vs))) (upd (upd H1 dx (.own x)) x (.ins C dx (fs.zip vs))):=Ext.new b.fh (by rw[bB (BU l)];exact r)
  exact Rk.ok q (.ref x) _ _ (n.trans (b.trans m)) ⟨x,rfl,C,dx,fs.zip vs,s,bQ,(by show _=(fs.zip xs).map (·.1);rw[aAF j,aAF a]),(by show DatVs _ _ _ ((fs.zip xs).map (·.2));rw[aAG j,aAG a];exact o.same (b.trans m).ff)⟩
 .rw[AE a] at q;exact q.elim
theorem aE0{k:Nat}{cn:Str}{fs:List Str}{C:Az}{p:Pos}{f:Sg->R (List Dz)}(g:X.mg=c.mg)(M:MkAt X.prog X.w X.K X.mg X.base k cn fs C)(h:Room (k+1) X.A)(j:Gl X cn)(l:PAd X c E (e::es) f)(a:(cn == ("__debug__":Str))=false:=by decide)(he:starEach (e::es) X.env=(false,eval e X.env)::starEach es X.env:=by rfl)(hpl:(backTo pos (starEach es X.env)).any (·.1)=false:=by rfl):PV X c E (.Call (.Name cn p) (e::es) [] pos) (sM cn fs f):=by
 obtain ⟨n,fd,d,ok,b⟩:=M.i
 exact aPV (by rw[<-g];exact M.m) (aOV d ok h j M.m b .nil aCS l a he hpl)
def eOF(i:Nat)(cs:List Str)(g:Str):Sg->R Dz:=fun ρ=>match ρ[i]? with
 | some (some (.o e))=>if cs.contains e.c=true then (match e.fs.lookup g with|some d=>.ok d|none=>.bad) else .bad
 | _=>.bad
def jA(K:Frag)(mg:Str->O6 V9)(cs:List Str)(g:Str):Prop:=∀ nm∈cs,∃ C,mg nm=some (.ref C)/\Cls K C/\eG K C g
theorem j0{i:Nat}{cs:List Str}{g:Str}{e:Ez}(z:X.K=c.K)(q:X.mg=c.mg)(r:jA X.K X.mg cs g)(h:PE X e (aRA X.K (mP i) g)):PD X c E e (eOF i cs g):=PE.imp h fun σ H Q ⟨ρ,F,ab,k⟩=>by
 unfold eOF at k
 split at k
 .rename_i l hi
  split at k
  .rename_i b
   split at k
   .rename_i d s
    obtain ⟨v,x,a,rfl,C,dx,f,m,h1,h2,o⟩:=ab.slot i _ hi
    obtain ⟨y,j,p,w⟩:=r l.c (by simpa using b)
    rw[q,m] at j
    cases j
    obtain ⟨u,n,t⟩:=aEJ h2 o s
    exact ⟨_,x,a,C,dx,f,u,rfl,ab.fh _ _ h1,p,w,n,Rk.ok k u F H (Ext.refl ab.fh) t⟩
   .exact k.elim
  .exact k.elim
 .exact k.elim
def sN(P:P9)(w:W9)(K:Frag)(mg:Str->O6 V9)(base:Hz)(T:Hp)(k:Nat)(cn m:Str)(G:List A->R A):Prop:=
 ∃ C f fd,mg cn=some (.ref C)/\Cls K C/\Meth K C m f/\FnOk P w K mg base (CXe P w) k f fd ["self"] (spF (gOf P w K mg base T) K mg 1 G)/\fY K fd ["self"] []
theorem tZ{V W:Type}{g:Str}:∀ {fvs:List (Str×V)} {fs:List (Str×W)},fvs.map (·.1)=fs.map (·.1)->fs.lookup g=none->fvs.lookup g=none
 | [],[],_,_=>rfl
 | [],_::_,h,_=>by simp at h
 | _::_,[],h,_=>by simp at h
 | (a,v)::fvs,(b,x)::fs,h,e=>by
  rw[AI,AI] at h
  injection h with h1 h2
  simp only at h1
  subst h1
  rw[CT] at e ⊢
  cases q:(g == a) with
  | true=>rw[q] at e;cases e
  | false=>rw[q] at e;exact tZ h2 e
theorem wM{α:Type}{k:Str}{v:α}:∀ {l:List (Str×α)},l.lookup k=some v->(k,v)∈l
 | [],h=>by cases h
 | (a,x)::t,h=>by
  rw[CT] at h
  cases q:(k == a) with
  | true=>rw[q] at h;cases h;rw[GN q];exact .head _
  | false=>rw[q] at h;exact .tail _ (wM h)
def vMt(f:Sg->R A)(m:Str)(tb:List (Str×(List A->R A))):Sg->R A:=fun ρ=>(f ρ).bind fun a=>match a with
 | .o e=>if (e.fs.lookup m).isNone=true then (match tb.lookup e.c with|some G=>G [.o e]|none=>.bad) else .bad
 | _=>.bad
theorem aC2{k:Nat}{m:Str}{T:Hp}{tb:List (Str×(List A->R A))}{f:Sg->R A}{pl:Sem Bool}(t:c.g=gOf X.prog X.w X.K X.mg X.base T)(y:X.K=c.K)(l:X.mg=c.mg)(h:∀ p∈tb,sN X.prog X.w X.K X.mg X.base T k p.1 m p.2)(Y:Room k X.A)(P:lE (CXe X.prog X.w) X E)(O:PV X c E o f)
  (S:eval (.Call (.Attribute o m apos) [] [] pos) X.env=(do
   let ov <-eval o X.env
   standAt apos.atName
   let (f,first) <-holding [ov] (getMethod ov m pl)
   callWith pos f first (backTo pos (starEach [] X.env)) (backToKw pos (keywordEach [] X.env))):=by rfl):PV X c E (.Call (.Attribute o m apos) [] [] pos) (vMt f m tb):=by
 intro a5 s σ H Q I ⟨ρ,F,ab,k⟩
 refine aFQ O I ⟨ρ,F,ab,(Rk.bind k).imp fun a _ k v M H1 j Z=>?_⟩ S
 cases a with
 | o er=>
  dsimp only at k
  split at k
  .rename_i d
   split at k
   .rename_i G U
    obtain ⟨a,rfl,C,dx,i,B,h1,h2,N⟩:=Z
    obtain ⟨V,f,fd,D,L,u,ok,b⟩:=(show sN X.prog X.w X.K X.mg X.base T _ er.c m G from h _ (wM U))
    rw[l] at D
    have x:c.mg er.c=some (.ref V):=D
    rw[B] at x
    cases x
    refine ⟨a,C,dx,i,f,rfl,j.fh _ _ h1,L,u,tZ h2 (Option.isNone_iff_eq_none.mp d),fun s2 J=>?_⟩
    refine PySem.W.callWith_K0 (first:=[.ref a]) J.kIn u.kp (aDE (us:=[.ref a]) (vs:=[.ref a]) ok Y b .nil P J (.cons rfl .nil) ?_)
    refine ⟨M,[.o er],by rw[<-t];exact fun a o z=>j.ff a o (ab.f0 a o (ab.t0 a o z)),j.fh,⟨⟨a,rfl,?_⟩,trivial⟩,rfl,?_⟩
    .rw[y,l];exact ⟨C,dx,i,B,h1,h2,N⟩
    .rw[<-t,y,l]
     cases q:G [.o er] with
     | bad=>rw[q] at k;exact k
     | ok a=>rw[q] at k;exact fun v n H' s r=>Rk.ok k v n H' (j.trans s) r
     | ex e=>rw[q] at k;exact fun a C n H' s r=>k a C n H' ((ab.all.trans j).trans s) r
   .exact k.elim
  .exact k.elim
 | _=>exact k.elim
end
theorem k8{P:P9}{w:W9}{K:Frag}{mg:Str->O6 V9}{base:Hz}{T:Hp}{x q:Str}{st:Stmt}{N ps:List Str}{k:Nat}{f:Az}{fd:FuncData}{fb:Sg->R Fw}(g:Fun K x q st f fd)(S:FnScope N ps (aN st))
  (a:∀ (cdv:V9) (A:U9) (outer:List Env) (s:S9) (H F:Hp) (E:XK),Room k (A.deeper (envOfC q (aN st) s.heap.objs.size f cdv))->
   oR ((lM (CXe P w) P w K mg base N q (aN st) f cdv A outer s H E).fly E) ⟨K,mg,w,F,H,gOf P w K mg base T,(envOfC q (aN st) s.heap.objs.size f cdv).cells,fun _=>none⟩ E (dX st) fb):FnOk P w K mg base (CXe P w) (k+1) f fd ps (spF (gOf P w K mg base T) K mg ps.length (fnF N.length fb)):=by
 refine g.okX S (fun vs H Q E h=>?_) (fun cdv A outer s H vs Q E i h=>?_)
 .obtain ⟨F,e,_,_,h2,b,_⟩:=h
  rw[h2.len,b]
 .obtain ⟨F,e,d,h1,h2,b,c⟩:=h
  exact ⟨_,a cdv A outer s H F E i,aAE d h1 h2 c⟩
def rLI(K:Frag):V->List V->Hp->VK->Prop:=fun x vs H Q=>∃ xs d u j,vs=[u]/\DatV K H x (.list xs)/\DatV K H u d/\SeqAt.shaped d=true/\SeqAt.shaped (.list xs)=true/\xs.length<=16777216/\(xs.findIdx? fun y=>PyData.eqv y d)=some j/\Q (.int j) H
theorem aK1{X:Cx}(T:X.A.units+64 < cLine):MtR X "list.index" (rLI X.K):=by
 intro a5 s σ H x vs v W Q I G M h
 obtain ⟨xs,d,u,j,rfl,N,P,t,r,Z,w,q⟩:=h
 obtain ⟨E,rfl,D⟩:=M.one
 obtain ⟨Y,S⟩:=DatV.reads I N (oG r) G
 obtain ⟨bs,O⟩:=DatV.reads I P (oG t) D
 have k:=rS r
 have g:=oQ (b:=d.depth) k.2
 cases S with
 | list h1 h2 h3 h4=>
  rename_i a o c n J
  have e:=SeqAt.readsAll_map _ _ _ k.1 h4
  obtain ⟨U,od,V,C⟩:=o
  dsimp only at h2 h3
  subst h2 h3
  have f:c.toList.length=xs.length:=by rw[<-e,AH]
  have R:c.size=xs.length:=by rw[<-f,CG]
  rw[List.findIdx?_eq_some_iff_getElem] at w
  obtain ⟨L,i,l⟩:=w
  have B:∀ m (g:m < c.size),PyData.eqv (SeqAt.readOf s.heap c[m]) d=PyData.eqv (xs[m]'(by omega)) d:=fun m g=>by
   have:SeqAt.readOf s.heap c[m]=xs[m]'(by omega):=by
    have z:(c.toList.map (SeqAt.readOf s.heap))[m]'(by rw[AH];simpa using g)=xs[m]'(by omega):=by simp only[e]
    rw[List.getElem_map] at z
    simpa using z
   rw[this]
  refine GA GL ⟨_,h1,rfl⟩ PySem.F.entry_list_index (PySem.F.args_list_index_2 _ _) (SeqAt.list_indexAt a c n od C E (fun y=>PyData.eqv (SeqAt.readOf s.heap y) d) j (by omega) (by omega) (by rw[B j (by omega)];exact i) (fun m g p=>by rw[B m g];exact FV.mpr (l m p))) ⟨h1,SeqAt.items_eqAt h4 O k.1 (eY t) (by omega),.int j,H,I.tok _,⟨_,rfl⟩,q⟩
def aAQ:Dz->Dz->R Dz
 | .list xs,x=>if SeqAt.shaped x=true/\SeqAt.shaped (.list xs)=true/\xs.length<=16777216 then (match xs.findIdx? fun y=>PyData.eqv y x with|some j=>.ok (.int j)|none=>.bad) else .bad
 | _,_=>.bad
def isL:Dz->Bool
 | .list _=>true
 | _=>false
def aIT(f g:Sg->R Dz):Sg->R Dz:=fun ρ=>(f ρ).bind fun x=>if isL x=true then (g ρ).bind fun y=>aAQ x y else .bad
theorem aK2{X:Cx}{c:Ct}{E:XK}{e:Ez}{f g:Sg->R Dz}(i:X.K=c.K)(h:PE X e (tBM X.K "list" (rLI X.K) (tV (bH c) c E f) (gF (tV (bH c) c E g) kI))):PD X c E e (aIT f g):=PE.imp h fun σ H Q ⟨ρ,F,ab,k⟩=>by
 refine ⟨ρ,F,ab,(Rk.bind k).imp fun x ex q v r H1 b l=>?_⟩
 cases x with
 | list xs=>
  have m:Rk c E F H (g ρ) _:=Rk.bind (f:=fun y=>aAQ (.list xs) y) q
  obtain ⟨p,vs,rfl,h1,h2⟩:=bC.lst_of b.fh l
  refine ⟨.inl ⟨rfl,vs,by rw[i];exact h1⟩,ρ,r,ab.ext b,(m.ext b).imp fun y _ q u o H2 a n=>?_⟩
  unfold aAQ at q
  dsimp only at q
  split at q
  .rename_i d
   split at q
   .rename_i j s
    exact ⟨xs,y,u,j,rfl,by rw[i];exact (bC.ext a l).heap a.fh,by rw[i];exact n.heap a.fh,d.1,d.2.1,d.2.2,s,Rk.ok q _ o H2 (b.trans a) (.int _)⟩
   .exact q.elim
  .exact q.elim
 | _=>exact q.elim
def lL(ρ:Sg):Bool:=ρ.all fun o=>match o with
 | some a=>!a.own
 | none=>true
theorem sO{ρ:Sg}{σ:L2.St}{p:Az}(h:lL ρ=true):uO ρ σ p:=fun j a b c=>by
 have z:=C5.mp h _ (BA b)
 simp only[c] at z
 cases z
structure OwnL(c:Ct)(F H:Hp)(σ:L2.St)(i:Nat)(p:Az)(qs:List Az)(vss:List (List V)):Prop where
 s:σ[i]? = some (some (.ref p))
 hp:H p=some (.lst (qs.map V.ref))
 fp:F p=none
 p0:c.H0 p=none
 np:p∉qs
 nd:qs.Nodup
 len:vss.length=qs.length
 q:∀ (j:Nat) (q:Az) (vs:List V),qs[j]? = some q->vss[j]? = some vs->H q=some (.lst vs)/\F q=none/\c.H0 q=none
theorem OwnL.ext{c:Ct}{F H g H':Hp}{σ:L2.St}{i:Nat}{p:Az}{k:List Az}{f:List (List V)}(h:OwnL c F H σ i p k f)(e:Ext F H g H'):OwnL c g H' σ i p k f:=
 ⟨h.s,e.hh _ _ h.hp,e.stay h.fp h.hp (fun _ z=>nomatch z),h.p0,h.np,h.nd,h.len,fun j q vs h1 h2=>by
  obtain ⟨a,b,d⟩:=h.q j q vs h1 h2
  exact ⟨e.hh _ _ a,e.stay b a (fun _ z=>nomatch z),d⟩⟩
theorem OwnL.put{c:Ct}{F H:Hp}{σ:L2.St}{i:Nat}{p:Az}{g:List Az}{f:List (List V)}(h:OwnL c F H σ i p g f){j:Nat}{q:Az}{vs us:List V}(h1:g[j]? = some q)(h2:f[j]? = some vs):OwnL c F (upd H q (.lst us)) σ i p g (f.set j us):=by
 have n:q∈g:=BA h1
 refine ⟨h.s,?_,h.fp,h.p0,h.np,h.nd,by rw[CC];exact h.len,fun k r l e1 e2=>?_⟩
 .rw[bB (fun z=>h.np (by rw[z];exact n))];exact h.hp
 .rcases get_set e2 with ⟨e,z,_⟩|⟨m,z⟩
  .subst e z
   rw[h1] at e1
   cases e1
   obtain ⟨_,b,d⟩:=h.q _ _ _ h1 h2
   exact ⟨bQ,b,d⟩
  .obtain ⟨a,b,d⟩:=h.q k r l e1 z
   refine ⟨?_,b,d⟩
   rw[bB]
   .exact a
   .intro w
    subst w
    obtain ⟨u,o⟩:=A3.mp h1
    obtain ⟨v,t⟩:=A3.mp e1
    exact m ((List.getElem_inj h.nd).mp (o.trans t.symm))
theorem aG3{c:Ct}{ρ:Sg}{σ:L2.St}{H:Hp}(l:lL ρ=true):∀ (qs:List Az) (vss:List (List V)) {F:Hp},Ab c ρ σ F H->qs.Nodup->vss.length=qs.length->(∀ (j:Nat) (q:Az) (vs:List V),qs[j]? = some q->vss[j]? = some vs->H q=some (.lst vs)/\F q=none/\c.H0 q=none)->
  ∃ F',bA F F'/\Ab c ρ σ F' H/\(∀ (j:Nat) (q:Az) (vs:List V),qs[j]? = some q->vss[j]? = some vs->F' q=some (.lst vs))/\∀ a,a∉qs->F' a=F a
 | [],_,F,ab,_,_,_=>⟨F,eJ F,ab,fun j q vs h=>by simp at h,fun _ _=>rfl⟩
 | q::qs,[],F,ab,_,hl,_=>by simp at hl
 | q::qs,vs::vss,F,ab,nd,hl,h=>by
  obtain ⟨a,b,d⟩:=h 0 q vs rfl rfl
  have f:=ab.pub9 a b d (sO l)
  have k:q∉qs:=(CN.mp nd).1
  obtain ⟨F',m,g,k1,k2⟩:=aG3 l qs vss f (CN.mp nd).2 (by simpa using hl) (fun j r e e1 e2=>by
   obtain ⟨x,y,z⟩:=h (j+1) r e (by simpa using e1) (by simpa using e2)
   exact ⟨x,by rw[bB (fun w=>k (by rw[<-w];exact BA e1))];exact y,z⟩)
  refine ⟨F',fun x o z=>m x o (bA.upd b x o z),g,fun j r e e1 e2=>?_,fun x i=>?_⟩
  .cases j with
   | zero=>simp at e1 e2;subst e1 e2;rw[k2 q k,bQ]
   | succ j=>exact k1 j r e (by simpa using e1) (by simpa using e2)
  .rw[AY,G0] at i
   rw[k2 x i.2,bB i.1]
theorem aE1{K:Frag}{F F2:Hp}(s:bA F F2):∀ {qs:List Az} {vss:List (List V)} {xss:List (List Dz)},vss.length=qs.length->xss.length=qs.length->(∀ (j:Nat) (q:Az) (vs:List V),qs[j]? = some q->vss[j]? = some vs->F2 q=some (.lst vs))->(∀ (j:Nat) vs xs,vss[j]? = some vs->xss[j]? = some xs->DatVs K F vs xs)->DatVs K F2 (qs.map V.ref) (xss.map PyData.list)
 | [],_,[],_,_,_,_=>.nil
 | [],_,_::_,_,h,_,_=>by simp at h
 | q::qs,[],_,h,_,_,_=>by simp at h
 | q::qs,_,[],_,h,_,_=>by simp at h
 | q::qs,vs::vss,xs::xss,h1,h2,h3,h4=>.cons (.lst (SqL.of (h3 0 q vs rfl rfl)) ((h4 0 vs xs rfl rfl).same s)) (aE1 s (by simpa using h1) (by simpa using h2) (fun j r a e1 e2=>h3 (j+1) r a (by simpa using e1) (by simpa using e2)) (fun j r a e1 e2=>h4 (j+1) r a (by simpa using e1) (by simpa using e2)))
theorem OwnL.done{c:Ct}{F H:Hp}{ρ:Sg}{σ:L2.St}{i:Nat}{p:Az}{g:List Az}{e:List (List V)}{b:List (List Dz)}(h:OwnL c F H σ i p g e)(ab:Ab c ρ σ F H)(t:lL ρ=true)(w:b.length=g.length)(u:∀ (j:Nat) vs xs,e[j]? = some vs->b[j]? = some xs->DatVs c.K F vs xs) :
  ∃ F',bA F F'/\Ab c (ρ.set i (some (.d (.list (b.map PyData.list))))) σ F' H:=by
 obtain ⟨m,r,l,k1,k2⟩:=aG3 t g e ab h.nd h.len h.q
 have fp:m p=none:=by rw[k2 p h.np];exact h.fp
 have n:=l.pub9 h.hp fp h.p0 (sO t)
 have k:bA m (upd m p (.lst (g.map V.ref))):=bA.upd fp
 have f:=n.setA (i:=i) (a:=.d (.list (b.map PyData.list))) (v:=.ref p) (.lst (SqL.of bQ) (aE1 (fun a o z=>k a o (r a o z)) h.len w (fun j q vs e1 e2=>k _ _ (k1 j q vs e1 e2)) u))
 rw[aM7 h.s] at f
 exact ⟨_,fun a o z=>k a o (r a o z),f⟩
def pO(fs:Dz->Sg->O6 Sg)(fk fe:Sg->R Dz):List Dz->List (List Dz)->Sg->R (List (List Dz)×Sg)
 | [],xss,ρ=>.ok (xss,ρ)
 | y::t,xss,ρ=>(rT (fs y ρ)).bind fun ρ1=>if lL ρ1=true then (fk ρ1).bind fun k=>(match k with
  | .int kk=>(match ixN xss.length kk with
   | some j=>(fe ρ1).bind fun x=>if (xss.getD j []).length < 16777216 then pO fs fk fe t (xss.set j (xss.getD j []++[x])) ρ1 else .bad
   | none=>.bad)
  | _=>.bad) else .bad
def aIU(i:Nat)(fi1 fi2:Sg->R (List Dz))(fs:Dz->Sg->O6 Sg)(fk fe:Sg->R Dz):Sg->R Fw:=fun ρ=>(fi1 ρ).bind fun xs=>if i < ρ.length/\lL (ρ.set i none)=true then (fi2 (ρ.set i none)).bind fun ys=>(pO fs fk fe ys (List.replicate xs.length []) (ρ.set i none)).bind fun r=>.ok (.nx (r.2.set i (some (.d (.list (r.1.map PyData.list)))))) else .bad
theorem aT6{c:Ct}{E:XK}{F H b H1 d H2:Hp}{α β:Type}{r:R α}{f:α->R β}{k:β->Prop}(h:Rk c E F H r fun a=>Rk c E b H1 (f a) k):Rk c E d H2 (r.bind f) k:=by
 cases r with
 | bad=>exact h
 | ok a=>exact h
 | ex e=>exact h
def aN7(i:Nat)(r:List (List Dz)×Sg):R Fw:=.ok (.nx (r.2.set i (some (.d (.list (r.1.map PyData.list))))))
def aN8(c:Ct)(E:XK)(F H:Hp)(D:lU)(fr:Sg->R Fw)(w:Fw):Prop:=Rk c E F H (match w with | .nx ρ'=>fr ρ'|w=>.ok w) (kL c F D)
section
variable{X:Cx}{c:Ct}{E:XK}{rest:List Stmt}{pos:Pos}
theorem aM8{aa ah:Stmt}{i:Nat}{N:List Str}{js:List (O6 Nat)}{scope:Scope}{tg ac:Ez}{ag M:Sg->R (List Dz)}{fs:Dz->Sg->O6 Sg}{is:List Nat}{g:TG}{fk fe:Sg->R Dz}{fr:Sg->R Fw}
  (h1:PS X aa (oM (vA X N scope js tg ac [] (tI c E ag)) (m9 i))) (hj:js[0]? = some none)
  (hb:∀ (cl:List (Str×Az)) (C:Az) (s:S9) (H0:Hp) (fp:List Az),PG (iK X N scope cl C s H0 fp) tg (m9 0)/\PE (iK X N scope cl C s H0 fp) ac (aRB kI))
  (hg:Tg c g fs is) (hi:i∉is)
  (h2:PS X ah (aLW (tI0 c E M) g (aCQ (tBM X.K "list" zQ (tOp (rIx X.K) (mP i) (tV (bH c) c E fk)) (gF (tV (c9 c) c E fe) kI)))))
  (P:oR X c E rest fr):oR X c E (aa::ah::rest) (aM (aIU i ag M fs fk fe) fr):=PSs.imp (L2.aG h1 (L2.aG h2 P)) fun D σ H ⟨ρ,F,ab,k⟩=>by
 have k1:=Rk.bind (Rk.bind k)
 refine ⟨ρ,F,ab,k1.imp fun xs _ q J B F1 H1 s1 sb yl=>?_⟩
 by_cases hn:i < ρ.length/\lL (ρ.set i none)=true
 .rw[AA hn] at q
  obtain ⟨aj,av⟩:=hn
  refine aGB (n:=xs.length) (fun m t H'=>∃ F' qs,Ext F1 H1 F' H'/\t=qs.map V.ref/\qs.length=m/\qs.Nodup/\∀ r∈qs,H1 r=none/\H' r=some (.lst [])/\F' r=none) yl.len ⟨F1,[],Ext.refl s1.fh,rfl,rfl,DG,fun r P=>by simp at P⟩ ?_ ?_ ?_ ?_ ?_
  .rintro m t H' _ ⟨F',qs,_,rfl,h,_⟩;rw[AH,h];exact A2 _
  .rintro m t H' d ⟨F',qs,e1,_⟩
   exact yl.go m F' H' e1.ff e1.fh (fun a o z=>e1.hh a o (sb a o z)) d
  .rintro t H' ⟨F',qs,e1,_⟩
   exact yl.stop F' H' e1.ff e1.fh (fun a o z=>e1.hh a o (sb a o z))
  .rintro m v t Ha Hb d ⟨F',qs,e1,rfl,hlen,nd,hq⟩ hy
   obtain ⟨I,e2,rx⟩:=yl.yld m F' Ha v Hb xs[m] e1.ff e1.fh (fun a o z=>e1.hh a o (sb a o z)) hy (AN d)
   intro cl C s H0 fp
   obtain ⟨al,ai⟩:=hb cl C s H0 fp
   refine ⟨_,_,_,al,L2.eX,ai,fun σ0 k0=>⟨aEB (is:=[0]) k0 CC (fun j hj=>BO (fun z=>hj (by simp[z]))) (fun j hj=>by rw[A4.mp hj];assumption),?_⟩⟩
   dsimp only[aRK]
   rw[AA rfl]
   refine ⟨B3 _,fun r P=>?_⟩
   have e3:Ext I Hb I (upd Hb r (.lst [])):=Ext.own e2.fh P
   refine ⟨I,qs++[r],e1.trans (e2.trans e3),by rw[BG];rfl,by rw[AZ,hlen];rfl,?_,fun x W=>?_⟩
   .rw[D3]
    refine ⟨nd,by simp,fun a ha b hb z=>?_⟩
    rw[A4] at hb
    subst hb z
    have:=e2.hh _ _ (hq a ha).2.1
    rw[P] at this
    cases this
   .rcases B4.mp W with z|z
    .obtain ⟨y1,y2,y3⟩:=hq x z
     have af:=e2.trans e3
     exact ⟨y1,af.hh _ _ y2,af.stay y3 y2 (fun _ z=>nomatch z)⟩
    .rw[A4.mp z]
     exact ⟨cP (e1.trans e2).hh P,bQ,cP e2.fh P⟩
  .rintro t H2 ⟨I,qs,e1,rfl,hlen,nd,hq⟩ p hp
   have e2:Ext I H2 I (upd H2 p (.lst (qs.map V.ref))):=Ext.own e1.fh hp
   have aq:p∉qs:=fun z=>by have:=(hq p z).2.1;rw[hp] at this;cases this
   have ak:i < σ.length:=by rw[<-ab.len];exact aj
   have ae:Ab c (ρ.set i none) (σ.set i (some (.ref p))) I (upd H2 p (.lst (qs.map V.ref))):=((ab.ext s1).ext (e1.trans e2)).drop9 i (.ref p)
   have O2:OwnL c I (upd H2 p (.lst (qs.map V.ref))) (σ.set i (some (.ref p))) i p qs (List.replicate xs.length []):=by
    refine ⟨B9 ak,bQ,cP e1.fh hp,cP (ab.ext s1).h0 (cP e1.hh hp),aq,nd,by rw[BP,hlen],fun j r vs h1 h2=>?_⟩
    obtain ⟨y1,y2,y3⟩:=hq r (BA h1)
    rw[C3] at h2
    split at h2
    .cases h2
     exact ⟨e2.hh _ _ y2,y3,cP (ab.ext s1).h0 y1⟩
    .cases h2
   have sF:bA F I:=fun a o z=>e1.ff a o (s1.ff a o z)
   show tI0 c E M (σ.set i (some (.ref p))) (upd H2 p (.lst (qs.map V.ref))) _
   generalize ρ.set i none=S at *
   generalize σ.set i (some (.ref p))=σ1 at *
   generalize upd H2 p (.lst (qs.map V.ref))=H3 at *
   refine ⟨S,I,ae,?_⟩
   refine (show Rk c E I H3 (M S) _ from Rk.bind q).imp fun ys _ q J F4 H4 s4 Q=>?_
   refine ⟨fun m n O H'=>n=ys.length - m/\m<=ys.length/\∃ ρ' F' vss xss,bA F4 F'/\Ab c ρ' O F' H'/\OwnL c F' H' O i p qs vss/\xss.length=qs.length/\lL ρ'=true/\(∀ (j:Nat) vs xs,vss[j]? = some vs->xss[j]? = some xs->DatVs c.K F' vs xs)/\Rk c E F' H' ((pO fs fk fe (ys.drop m) xss ρ').bind (aN7 i)) (aN8 c E F H D fr),⟨ys.length,by simp,B3 _,S,F4,List.replicate xs.length [],List.replicate xs.length [],eJ _,ae.ext s4,O2.ext s4,by rw[BP,hlen],av,fun j vs xs h1 h2=>?_,q⟩,?_⟩
   .rw[C3] at h1 h2
    split at h1
    .rename_i hl
     rw[AA hl] at h2
     cases h1;cases h2;exact .nil
    .cases h1
   .rintro m n O H' ⟨rfl,hm,ρ',F',vss,xss,s5,ab5,O5,hxs,hno5,hd5,k5⟩
    by_cases d:m < ys.length
    .refine .inr ⟨Q.go m F' H' s5 ab5.fh l3 d,fun G L=>∃ ρ' F' vss xss,bA F4 F'/\Ab c ρ' G F' L/\OwnL c F' L G i p qs vss/\xss.length=qs.length/\lL ρ'=true/\(∀ (j:Nat) vs xs,vss[j]? = some vs->xss[j]? = some xs->DatVs c.K F' vs xs)/\Rk c E F' L ((pO fs fk fe (ys.drop (m+1)) xss ρ').bind (aN7 i)) (aN8 c E F H D fr),fun G L w=>⟨ys.length - (m+1),by omega,rfl,d,w⟩,fun v H6 y=>?_⟩
     obtain ⟨F6,e6,rv⟩:=Q.yld m F' H' v H6 ys[m] s5 ab5.fh l3 y (AN d)
     have ap:ys.drop m=ys[m]::ys.drop (m+1):=CV d
     rw[ap] at k5
     unfold pO at k5
     cases hf:fs ys[m] ρ' with
     | none=>rw[hf] at k5;exact k5.elim
     | some ρ7=>
      rw[hf,l5,R.bind_ok] at k5
      refine hg v ys[m] ρ' ρ7 O F6 H6 _ (ab5.ext e6) rv hf fun σ7 aw au T=>?_
      have O7:OwnL c F6 H6 σ7 i p qs vss:=by
       have z:=O5.ext e6
       exact ⟨by rw[au i hi];exact z.s,z.hp,z.fp,z.p0,z.np,z.nd,z.len,z.q⟩
      by_cases f:lL ρ7=true
      .rw[AA f] at k5
       refine ⟨.ref p,O7.s,ρ7,F6,T,?_⟩
       refine (show Rk c E F6 H6 (fk ρ7) _ from Rk.bind (Rk.bind k5)).imp fun kd _ k5 u F8 H8 e8 r8=>?_
       cases kd with
       | int kk=>
        dsimp only at k5
        obtain rfl:=bC.int_of r8
        have O8:=O7.ext e8
        cases W:ixN xss.length kk with
        | none=>rw[W] at k5;exact k5.elim
        | some j=>
         rw[W] at k5
         have ad:j < xss.length:=(zO W).2.1
         have Y:j < qs.length:=by omega
         have ao:j < vss.length:=by rw[O8.len];exact Y
         have eq:qs[j]? = some qs[j]:=AN Y
         have ev:vss[j]? = some vss[j]:=AN ao
         have ex:xss[j]? = some xss[j]:=AN ad
         obtain ⟨y1,y2,y3⟩:=O8.q j _ _ eq ev
         refine .inl ⟨p,qs.map V.ref,kk,V.ref qs[j],rfl,rfl,SqL.of O8.hp,?_,?_⟩
         .unfold atI
          rw[AH,<-hxs,W]
          show (qs.map V.ref)[j]? = _
          rw[AS,eq];rfl
         .refine ⟨.inl ⟨rfl,_,SqL.of y1⟩,ρ7,F8,T.ext e8,?_⟩
          refine (show Rk c E F8 H8 (fe ρ7) _ from Rk.bind k5).imp fun x _ k5 u Z H9 e9 r9=>?_
          have O9:=O8.ext e9
          have U:=(T.ext e8).ext e9
          obtain ⟨z1,z2,z3⟩:=O9.q j _ _ eq ev
          have am:xss.getD j []=xss[j]:=by rw[AX,ex];rfl
          rw[am] at k5
          by_cases hz:xss[j].length < 16777216
          .rw[AA hz] at k5
           have A:Ext F' H' Z H9:=e6.trans (e8.trans e9)
           have dj:DatVs c.K Z vss[j] xss[j]:=(hd5 j _ _ ev ex).same A.ff
           refine ⟨qs[j],vss[j],u,rfl,rfl,z1,by rw[dj.length,dY];exact hz,?_⟩
           refine ⟨ρ7,Z,vss.set j (vss[j]++[u]),xss.set j (xss[j]++[x]),fun a o z=>A.ff a o (s5 a o z),U.off9 z2 z3 (sO f),O9.put eq ev,by rw[CC];exact hxs,f,fun l vs xs e1 e2=>?_,?_⟩
           .rcases get_set e1 with ⟨e,w,_⟩|⟨ne,w⟩
            .subst e w
             rw[B9 ad] at e2
             cases e2
             exact dj.append (.cons r9 .nil)
            .rw[BO ne] at e2
             exact (hd5 l vs xs w e2).same A.ff
           .exact aT6 k5
          .rw[AE hz] at k5;exact k5.elim
       | _=>exact k5.elim
      .rw[AE f] at k5;exact k5.elim
    .have e:m=ys.length:=by omega
     subst e
     rw[GJ] at k5
     refine .inl ⟨Q.stop F' H' s5 ab5.fh l3,?_⟩
     obtain ⟨Z,s9,U⟩:=O5.done ab5 hno5 hxs hd5
     refine ⟨_,Z,U,?_⟩
     exact Rk.fw (H:=H) (fun a o z=>s9 a o (s5 a o (s4.ff a o (sF a o z)))) k5
 .rw[AE hn] at q;exact q.elim
end
end Fl
namespace L2
open PySem.Spec PyProof.Rows
def tChain3(r r' r'':R2)(ta tb tc td:TE):TE:=fun σ H Q=>ta σ H fun x H1=>tb σ H1 fun y H2=>r x y H2 fun z H3=>∃ k,z=.bl k /\
 (if k=true then tc σ H3 fun w' H4=>r' y w' H4 fun z H5=>∃ k,z=.bl k/\(if k=true then td σ H5 fun u H6=>r'' w' u H6 Q else Q (.bl false) H5) else Q (.bl false) H3)
theorem uP{X:Cx}{a b c d:Ez}{ta tb tc F:TE}{pos:Pos}{m g f:CmpOp}{r r' j:R2}(ho:OpR X (compareOp m) r)(p:OpR X (compareOp g) r')(l:OpR X (compareOp f) j)(M:PE X a ta)(P:PE X b tb)(hc:PE X c tc)(V:PE X d F)
  (hm:lastMarks [m,g,f] [b,c,d]=false:=by with_unfolding_all rfl):PT X (.Compare a [m,g,f] [b,c,d] pos) (aHN (tChain3 r r' j ta tb tc F)):=by
 intro a5 s σ H Q I h
 refine isTrue_chain (thn (M a5 s σ H _ I h) fun v s1 ⟨x,H1,K,W,G⟩=>test_link (thn (P a5 s1 σ H1 _ K G) fun u s2 ⟨y,H2,I2,q,q2⟩=>
  thn (ho a5 s2 σ H2 x y v u _ I2 W q q2) fun d L ⟨z,H3,t,r3,k,e,A⟩=>?_)) hm
 subst e
 cases r3
 refine DC ?_
 cases k with
 | false=>
  obtain ⟨k',o,n⟩:=A
  cases o
  exact ite_ff ⟨H3,t,n⟩
 | true=>
  refine ite_tt (test_link (thn (hc a5 L σ H3 _ t A) fun C s4 ⟨E,H4,R,B,N⟩=>thn (p a5 s4 σ H4 y E u C _ R q B N) fun d' U i=>?_))
  obtain ⟨z2,H5,w,r5,k2,e2,D⟩:=i
  subst e2
  cases r5
  refine DC ?_
  cases k2 with
  | false=>
   obtain ⟨k',o,n⟩:=D
   cases o
   exact ite_ff ⟨H5,w,n⟩
  | true=>
   refine ite_tt (test_last (thn (V a5 U σ H5 _ w D) fun w6 Y ⟨T,O,I6,r6,Z⟩=>thn (l a5 Y σ O E T C w6 _ I6 B r6 Z) fun d' s7 i=>?_))
   obtain ⟨z7,H7,I7,S,k7,e7,J⟩:=i
   subst e7
   cases S
   exact DC ⟨H7,I7,J⟩
end L2
namespace Fl
open L2 PyProof.Rows
def aAR(g g' g'':Dz->Dz->R Dz)(fa fb fc fd:Sg->R Dz):Sg->R Dz:=fun ρ=>(fa ρ).bind fun x=>(fb ρ).bind fun y=>(g x y).bind fun z=>(asB z).bind fun k=>if k=true then (eCh g' g'' (fun _=>.ok y) fc fd ρ) else .ok (.bool false)
section
variable{X:Cx}{c:Ct}{E:XK}{a b:Ez}{pos:Pos}
theorem aPW{g g' a:Dz->Dz->R Dz}(S:dM g)(p:dM g')(m:dM a){M fb D fd:Sg->R Dz}{σ:L2.St}{H:Hp}{Q:VK}(h:tV (c9 c) c E (aAR g g' a M fb D fd) σ H Q) :
  tChain3 (r2D (bH c) (bH c) (c9 c) g) (r2D (bH c) (bH c) (c9 c) g') (r2D (bH c) (bH c) (c9 c) a) (tV (bH c) c E M) (tV (bH c) c E fb) (tV (bH c) c E D) (tV (bH c) c E fd) σ H Q:=by
 obtain ⟨ρ,F,ab,h⟩:=h
 refine ⟨ρ,F,ab,(Rk.bind h).imp fun x _ q v T H1 A W=>?_⟩
 refine ⟨ρ,T,ab.ext A,((Rk.bind q).ext A).imp fun y _ q u U H2 o J=>?_⟩
 cases n:g x y with
 | bad=>rw[n] at q;exact q.elim
 | ex e=>exact absurd n (S x y e)
 | ok z=>
  rw[n] at q
  refine ⟨H,H1,U,x,y,z,o.fh,bC.ext o W,J,n,fun w I H3 K r=>?_⟩
  have f:=(A.trans o).trans K
  cases z with
  | bool k=>
   refine ⟨k,DatV.bl_of r,?_⟩
   cases k with
   | false=>exact wT (Rk.ok q (.bl false) I H3 f (.bl false))
   | true=>
    have B:Rk c E F H ((D ρ).bind fun w=>(g' y w).bind fun z=>(asB z).bind fun k=>if k=true then (fd ρ).bind fun u=>a w u else .ok (.bool false)) (fun d=>∀ v F' H',Ext F H F' H'->c9 c d v H F' H'->Q v H'):=q
    refine wU ⟨ρ,I,ab.ext f,((Rk.bind B).ext f).imp fun w _ q v' F4 H4 s l=>?_⟩
    cases b:g' y w with
    | bad=>rw[b] at q;exact q.elim
    | ex e=>exact absurd b (p y w e)
    | ok z2=>
     rw[b] at q
     refine ⟨H1,H3,F4,y,w,z2,s.fh,bC.ext (K.trans s) J,l,b,fun N L H5 O Y=>?_⟩
     have i:=(f.trans s).trans O
     cases z2 with
     | bool k2=>
      refine ⟨k2,DatV.bl_of Y,?_⟩
      cases k2 with
      | false=>exact wT (Rk.ok q (.bl false) L H5 i (.bl false))
      | true=>
       have B:Rk c E F H ((fd ρ).bind fun u=>a w u) (fun d=>∀ v F' H',Ext F H F' H'->c9 c d v H F' H'->Q v H'):=q
       refine wU ⟨ρ,L,ab.ext i,((Rk.bind B).ext i).imp fun C _ q v6 Z H6 G t=>?_⟩
       cases j:a w C with
       | bad=>rw[j] at q;exact q.elim
       | ex e=>exact absurd j (m w C e)
       | ok z3=>
        rw[j] at q
        exact ⟨H3,H5,Z,w,C,z3,G.fh,bC.ext (O.trans G) l,t,j,fun N V H7 P X=>Rk.ok q N V H7 ((i.trans G).trans P) X⟩
     | _=>exact False.elim q
  | _=>exact False.elim q
theorem uP{l e d:CmpOp}{g g' f:Dz->Dz->R Dz}{n dd:Ez}{o fb p fd:Sg->R Dz}(r:OpR X (compareOp l) (r2D (bH c) (bH c) (c9 c) g))(s:dM g)(m:OpR X (compareOp e) (r2D (bH c) (bH c) (c9 c) g'))(k:dM g')(j:OpR X (compareOp d) (r2D (bH c) (bH c) (c9 c) f))(i:dM f)
  (w:PR X c E a o) (q:PR X c E b fb) (t:PR X c E n p) (u:PR X c E dd fd) (v:lastMarks [l,e,d] [b,n,dd]=false:=by with_unfolding_all rfl):PTf X c E (.Compare a [l,e,d] [b,n,dd] pos) (e1 asB (aAR g g' f o fb p fd)):=
 PT.imp (L2.uP r m j w q t u v) fun σ H Q h=>aPW s k i (vG h)
end
end Fl
namespace Zp
open L2
end Zp
namespace Fl
open L2 PyProof.Rows
end Fl
namespace Zp
end Zp
namespace Fl
open L2 PyProof.Rows
def BxK(c:Ct)(E':XK)(σ:L2.St)(D:lU)(F H:Hp):R Unit->Prop
 | .bad=>False
 | .ok _=>∀ F' H',Ext F H F' H'->D.nx σ H'
 | .ex e=>∀ a C F' H',Ext F H F' H'->rQ c.K c.mg F' e a C->E' (.ref C) (some a) H'
theorem BxK.ext{c:Ct}{E':XK}{σ:L2.St}{D:lU}{F H F1 H1:Hp}(s:Ext F H F1 H1):∀ {r:R Unit},BxK c E' σ D F H r->BxK c E' σ D F1 H1 r
 | .bad,h=>h
 | .ok _,h=>fun b H' e=>h b H' (s.trans e)
 | .ex _,h=>fun a C b H' e=>h a C b H' (s.trans e)
def aLU:Sg->R Unit:=fun _=>.ok ()
theorem jU{x:Const}{es:List Ez}{k:Nat}{p:Pos}{env:Env}:starEach (.Constant x k p::es) env=(false,eval (.Constant x k p) env)::starEach es env:=by rfl
def dIsB:Dz->Dz->R Dz
 | .bool a,.bool b=>.ok (.bool (a == b))
 | _,_=>.bad
theorem aBZ:dM dIsB:=by intro a b e h;unfold dIsB at h;split at h<;>cases h
theorem aG4{X:Cx}{c:Ct}:OpR X (compareOp .Is) (r2D (bH c) (bH c) (c9 c) dIsB):=by
 intro a5 s σ H v u x y Q I k i h
 obtain ⟨l,H1,F,a,b,d,j,f,g,e,q⟩:=h
 unfold dIsB at e
 split at e
 .cases e
  obtain rfl:=bC.bl_of f
  obtain rfl:=bC.bl_of g
  cases k
  cases i
  exact is_bool ⟨.bl _,H,I.tok _,rfl,q _ F H (Ext.refl j) (.bl _)⟩
 .cases e
end Fl
namespace L2
open PySem.Spec PyProof.Rows
theorem aPX{prog:P9}{w:W9}{A:U9}{E:V9->S9->Prop}{s:S9}{l:Az}{items:Array V9}{k:Nat}{x:Int}{u:Tok}{Q:V9->S9->Prop}
  (a:s.heap.get? l=some {cls:=.type "list",dict:=none,data:=.seq items k,slots:=#[]})
  (hlo : -(2 ^ 63:Int)<=x) (hhi:x < 2 ^ 63) (hsz:items.size * x.toNat<=2 ^ 24)
  (h:Q (.ref s.heap.objs.size) {s with heap:=s.heap.push {cls:=.type "list",data:=.seq (List.foldl (fun c b=>c++b) #[] (List.replicate (if items.isEmpty=true then 0 else x.toNat) items))}}) :
  wpAny (model prog w) A (binaryOp .Mult (.ref l) (.int x u)) Q E s:=
 wpAny_binaryOp_repeat_ref (T:="list") (U:="int") (by decide) ⟨_,a,rfl⟩ (fun s'=>typeIs_int s' x u) noFill_list_mul F.fills_int_mul F.slot_int_rmul repeat_list F.slot_int_index.lookup
  (GA F.slot_int_rmul (typeIs_int s x u) F.entry_int_rmul (F.args_int_rmul_2 _ _) (int___rmul___int_list x u l items k)
   ⟨a,rfl,⟨_,a,rfl⟩,GA F.slot_list_mul ⟨_,a,rfl⟩ F.entry_list_mul (F.args_list_mul_2 _ _)
    (AutoListH.list___mul___list_int_3 l items k x u (by simp[Builtin.List.listFitsIndex];omega) (by omega) (by simp[Builtin.List.listTooLong,sizeLine];omega))
    ⟨a,h⟩⟩)
def aT7:R2:=fun x y H Q=>∃ p vs i,x=.ref p/\y=.int i/\H p=some (.lst vs)/\vs≠[] /\ -(2 ^ 63:Int)<=i/\i < 2 ^ 63/\vs.length * i.toNat<=16777216/\∀ r,H r=none->Q (.ref r) (upd H r (.lst (List.replicate i.toNat vs).flatten))
theorem aPY{X:Cx}:OpR X (binaryOp .Mult) aT7:=by
 intro a5 s σ H v u x y Q I j l h
 obtain ⟨p,vs,i,rfl,rfl,g,d,h1,h2,f,q⟩:=h
 cases j
 obtain ⟨t,rfl⟩:=l
 obtain ⟨z,a,n,r,k⟩:=(show eH X.prog X.w H s.heap p (.lst vs) from I.hok p _ g)
 have b:a.length=vs.length:=r.length.symm
 refine aPX (items:=a.toArray) k h1 h2 (by rw[BJ,b];exact f) ?_
 have c:a.toArray.isEmpty=false:=by
  cases a with
  | nil=>cases vs with
   | nil=>exact absurd rfl d
   | cons _ _=>cases b
  | cons _ _=>rfl
 have e:=aGT a i.toNat []
 rw[AV] at e
 rw[c,AE (by decide),show (#[]:Array V9)=([]:List V9).toArray from rfl,e]
 exact ⟨.ref _,_,I.lnew (t':=s.toks) (Fl.aEI r _) (by rw[aO1];have:sizeLine=16777216:=rfl;rw[C9] at f;omega),rfl,q _ I.fresh⟩
end L2
namespace Fl
open L2 PyProof.Rows
def yP(xs:List Dz):Dz->R (List Dz)
 | .int i=>if xs≠[] /\ -(2 ^ 63:Int)<=i/\i < 2 ^ 63/\xs.length * i.toNat<=16777216 then .ok (List.replicate i.toNat xs).flatten else .bad
 | _=>.bad
def vN(f:Sg->R (List Dz))(g:Sg->R Dz):Sg->R (List Dz):=fun ρ=>(f ρ).bind fun xs=>(g ρ).bind fun y=>yP xs y
section
variable{X:Cx}{c:Ct}{E:XK}{a b:Ez}{pos:Pos}
theorem vP{j:Sg->R (List Dz)}{fb:Sg->R Dz}(t:PN X c E a j)(l:PR X c E b fb):PN X c E (.BinOp a .Mult b pos) (vN j fb):=PE.imp (aHM aPY t l) fun σ H Q ⟨ρ,F,ab,k⟩=>by
 refine ⟨ρ,F,ab,(Rk.bind k).imp fun xs _ q v m H1 f s=>?_⟩
 obtain ⟨p,vs,rfl,e1,e2,w,g⟩:=s
 refine ⟨ρ,m,ab.ext f,((Rk.bind q).ext f).imp fun y _ q u o H2 d n=>?_⟩
 cases y with
 | int i=>
  unfold yP at q
  dsimp only at q
  split at q
  .rename_i e
   obtain rfl:=bC.int_of n
   refine ⟨p,vs,i,rfl,rfl,d.hh _ _ e2,fun z=>e.1 ?_,e.2.1,e.2.2.1,by rw[g.length];exact e.2.2.2,fun r h=>?_⟩
   .have:=g.length
    rw[z] at this
    exact GK.mp this.symm
   .exact Rk.ok q (.ref r) o _ ((f.trans d).trans (Ext.own d.fh h)) ⟨r,_,rfl,cP (f.trans d).hh h,bQ,cP d.fh h,aBT (g.same d.ff) _⟩
  .exact q.elim
 | _=>exact q.elim
end
def vQ:Dz->Dz->R Dz
 | .tuple xs,.tuple ys=>if xs.length+ys.length<=sizeLine then .ok (.tuple (xs++ys)) else .bad
 | _,_=>.bad
theorem aIV:dM vQ:=by
 intro a b e h
 unfold vQ at h
 split at h<;>(try split at h)<;>cases h
theorem aM9{X:Cx}{c:Ct}(T:X.K=c.K):OpR X (binaryOp .Add) (r2D (bH c) (bH c) (c9 c) vQ):=by
 intro a5 s σ H v u x y Q I C D h
 obtain ⟨H0,H1,F,a,b,d,e,R,rb,f,q⟩:=h
 unfold vQ at f
 split at f
 .rename_i xs ys
  split at f
  .rename_i U
   cases f
   obtain ⟨M,vs,rfl,Z,r,k⟩:=bC.tup_of e R
   obtain ⟨o,Y,rfl,fb,t,l⟩:=bC.tup_of e rb
   rw[<-T] at r t
   by_cases E:vs=[]
   .subst E
    obtain rfl:xs=[]:=by cases k;rfl
    cases C
    cases D
    obtain ⟨aa,V,W,_⟩:=I.tuple r
    obtain ⟨B,r2,p2,_⟩:=I.tuple t
    cases V
    obtain ⟨⟨cls,dd,data,P⟩,J,O,n,G⟩:=id W
    obtain ⟨⟨N,m,w,A⟩,j,i,S,g⟩:=id p2
    simp only at O G i g
    subst O G i g
    exact GD ⟨_,J,rfl⟩ ⟨_,j,rfl⟩ GE G8 EU EQ (EK _ _)
     (tuple_addW0 M o _ _ n S dd m P A rfl) ⟨J,j,.ref o,H,I,rfl,q _ F H (Ext.refl e) (.tup fb l)⟩
   .refine aF8 a5 s σ H _ _ x y Q I C D ⟨M,o,vs,Y,rfl,rfl,r,t,E,by rw[k.length,l.length];exact U,fun z=>?_,fun z p L=>?_⟩
    .subst z
     obtain rfl:ys=[]:=by cases l;rfl
     exact q _ F H (Ext.refl e) (by rw[CM];exact .tup Z k)
    .exact q _ _ _ (Ext.new e L) (.tup (SqT.of bQ) ((k.append l).same (bA.upd (cP e L))))
  .cases f
 .cases f
def dIsntB:Dz->Dz->R Dz
 | .bool a,.bool b=>.ok (.bool (a != b))
 | _,_=>.bad
theorem aFW:dM dIsntB:=by intro a b e h;unfold dIsntB at h;split at h<;>cases h
theorem aK3{X:Cx}{c:Ct}:OpR X (compareOp .IsNot) (r2D (bH c) (bH c) (c9 c) dIsntB):=by
 intro a5 s σ H v u x y Q I k i h
 obtain ⟨l,H1,F,a,b,d,j,f,g,e,q⟩:=h
 unfold dIsntB at e
 split at e
 .cases e
  obtain rfl:=bC.bl_of f
  obtain rfl:=bC.bl_of g
  cases k
  cases i
  exact isnot_bool ⟨.bl _,H,I.tok _,rfl,q _ F H (Ext.refl j) (.bl _)⟩
 .cases e
end Fl
namespace Mc
open L2 PyProof.Rows Fl
noncomputable def uQ:Sg->R Fw:=(bF (vD (eC (.str "by"))))
noncomputable def kU:List A->R A:=fnF 1 uQ
noncomputable def sZ:Sg->R Fw:=(bF (vD (eC (.bool true))))
noncomputable def j3:List A->R A:=fnF 1 sZ
noncomputable def tD:Sg->R Fw:=(bF (vD (cO (aB (eC (.str "by")) (aB (eOF 0 ["LetBy","ShutOut"] "borders") aL)))))
noncomputable def hV:List A->R A:=fnF 1 tD
noncomputable def qU:Sg->R Fw:=(bF (vD (eC (.str "out"))))
noncomputable def jJ:List A->R A:=fnF 1 qU
noncomputable def pP:Sg->R Fw:=(bF (vD (eC (.bool true))))
noncomputable def iZ:List A->R A:=fnF 1 pP
noncomputable def pQ:Sg->R Fw:=(bF (vD (cO (aB (eC (.str "out")) (aB (eOF 0 ["LetBy","ShutOut"] "borders") aL)))))
noncomputable def f7:List A->R A:=fnF 1 pQ
noncomputable def qV:Sg->R Fw:=(bF (vD (eC (.str "ever"))))
noncomputable def jK:List A->R A:=fnF 1 qV
noncomputable def pR:Sg->R Fw:=(bF (vD (eC (.bool false))))
noncomputable def i5:List A->R A:=fnF 1 pR
noncomputable def pS:Sg->R Fw:=(bF (vD (cO (aB (eC (.str "ever")) (aB (eOF 0 ["LetBy","ShutOut","ForEver"] "place") (aB (eOF 0 ["LetBy","ShutOut","ForEver"] "room") (aB (eOF 0 ["ForEver"] "first") (aB (eOF 0 ["ForEver"] "again") aL))))))))
noncomputable def f8:List A->R A:=fnF 1 pS
noncomputable def o7:Sg->R Fw:=(aM (aIU 2 (fS (e2 cR (e1 dLen (rV 1)) (eC (.int 1)))) (e2 aEL (eV 0) (eSl dSl (rV 0) (oSo (eC (.int 1))) oNo)) (stT [(stN 3),(stN 4)]) (e2 (d2 j9) (e2 dIx (rV 3) (eC (.int 0))) (e2 dIx (rV 4) (eC (.int 0)))) (e2 dIx (rV 4) (eC (.int 1))))
 (bF (vD (e1 dTup (eL (f6 [none] (e1 dI (rV 2)) (stN 0) gE (e1 dTup (rV 0))))))))
noncomputable def gX:List A->R A:=fnF 5 o7
noncomputable def aE2:Sg->R Fw:=(aM (bG 2 (aZ 2 qJ (aB (vV 0) (aB (vV 1) aL))))
 (aM (bG 3 (vD (e2 dIx (rV 2) (e1 dNeg (eC (.int 1))))))
 (aM (bG 4 (vD (e2 dIx (eA (aZ 3 iW (aB (vV 0) (aB (vV 1) (aB (vV 3) aL))))) (eC (.int 0)))))
 (aM (sIf (e1 asB (e2 dEq (rV 4) (eC (.str "by")))) (bF (sM "LetBy" ["place","room","borders"] (aB (e2 dIx (rV 3) (eC (.int 0))) (aB (e2 dIx (rV 3) (eC (.int 1))) (aB (eA (aZ 2 gX (aB (vV 2) (aB (vV 1) aL)))) aL))))) sNx)
 (aM (sIf (e1 asB (e2 dEq (rV 4) (eC (.str "out")))) (bF (sM "ShutOut" ["place","room","borders"] (aB (e2 dIx (rV 3) (eC (.int 0))) (aB (e2 dIx (rV 3) (eC (.int 1))) (aB (eA (aZ 2 gX (aB (vV 2) (aB (vV 1) aL)))) aL))))) sNx)
 (bF (sM "ForEver" ["place","room","first","again"] (aB (e2 dIx (rV 3) (eC (.int 0))) (aB (e2 dIx (rV 3) (eC (.int 1))) (aB (aIT (rV 2) (rV 3)) (aB (e2 dSub (e1 dLen (rV 2)) (eC (.int 1))) aL)))))))))))
noncomputable def yQ:List A->R A:=fnF 5 aE2
noncomputable def sP:Sg->R Fw:=(aM (sIf (e1 asB (e2 dLt (rV 2) (e1 dLen (rV 0)))) (bF (vD (e2 dIx (rV 0) (rV 2)))) sNx)
 (bF (vD (e2 dIx (rV 0) (e2 cR (eOF 1 ["ForEver"] "first") (e2 dMod (e2 dSub (rV 2) (eOF 1 ["ForEver"] "first")) (e2 dSub (eOF 1 ["ForEver"] "again") (eOF 1 ["ForEver"] "first"))))))))
noncomputable def i6:List A->R A:=fnF 3 sP
noncomputable def o8:Sg->R Fw:=(aM (bG 4 (vD (e2 dIx (rV 3) (eC (.int 3)))))
 (aM (bG 5 (vD (e2 dIx (rV 3) (eC (.int 4)))))
 (aM (sIf (z8 (e1 asB (aAR dLe dLt dLe (eC (.int 0)) (rV 4) (rV 5) (e2 dMul (e1 dLen (rV 0)) (e2 cR (e1 dLen (rV 1)) (eC (.int 2))))))) (bF (vD (eC (.bool false)))) sNx)
 (aM (bG 6 (aZ 2 qJ (aB (vV 0) (aB (vV 1) aL))))
 (aM (bG 7 (vD (cO (aB (e2 dIx (rV 3) (eC (.int 1))) (aB (e2 dIx (rV 3) (eC (.int 2))) aL)))))
 (bF (vD (z9 (e2 dEq (eA (aZ 3 i6 (aB (vV 6) (aB (vO 2) (aB (vV 4) aL))))) (rV 7)) (e2 dEq (eA (aZ 3 i6 (aB (vV 6) (aB (vO 2) (aB (vV 5) aL))))) (rV 7))))))))))
noncomputable def mL:List A->R A:=fnF 8 o8
noncomputable def aNA:Sg->R Fw:=(aM (bG 7 (vD (e2 dIx (eL (eZ (aB (eC (.str "out")) (aB (eV 0) aL)))) (e1 dInt (e2 dEq (rV 6) (rV 2))))))
 (lN 5 (cO (aB (e2 dIx (eL (eZ (aB (eC (.int 0)) (aB (eC (.str "out")) aL)))) (e1 dInt (e2 dGt (rV 6) (eC (.int 0))))) (aB (e1 dTup (eL (vN (eZ (aB (cO (aB (e2 dMod (e2 cR (rV 6) (eC (.int 1))) (rV 0)) (aB (eC (.int 1)) aL))) aL)) (rV 4)))) (aB (eV 7) aL))))))
noncomputable def aNB:Sg->R Fw:=(lN 5 (cO (aB (e2 dIx (eL (eZ (aB (eC (.str "out")) (aB (eC (.str "by")) aL)))) (e1 dInt (e2 dEq (rV 6) (rV 3)))) (aB (e1 dTup (eL (vN (eZ (aB (cO (aB (e2 cR (rV 0) (e2 dMod (e2 cR (rV 6) (eC (.int 1))) (rV 1))) (aB (e1 dNeg (eC (.int 1))) aL))) aL)) (rV 4)))) (aB (eC (.str "out")) aL)))))
noncomputable def mY:Sg->R Fw:=(aM (gM 5 (eZ aL)) (aM (lP (fS (rV 0)) (stN 6) aNA) (aM (lP (fS (rV 1)) (stN 6) aNB) (bF (vD (e1 dTup (rV 5)))))))
noncomputable def iI:List A->R A:=fnF 8 mY
end Mc
namespace Fl
open L2 PyProof.Rows
section
variable{X:Cx}{c:Ct}{E:XK}{st:Stmt}
end
end Fl
namespace Mc
open L2 PyProof.Rows
def aC3:Str:="ever"
def aC4(rs:List Rw)(q:Int):Prop:=0<=q/\q < (rs.length:Int)
def mZ(rs:List Rw)(bk:Int->Tn)(c:Nat)(q:Int):O6 (Int⊕Tn):=
 if ((aV rs q).c.getD (c - 97) (0,0)).2=1 then some (.inr (.n ((aV rs q).c.getD (c - 97) (0,0)).1)) else match bk ((aV rs q).c.getD (c - 97) (0,0)).1 with
  | .n r=>some (.inl r)
  | .w x=>some (.inr (.w x))
noncomputable def onR(rs:List Rw)(bk:Int->Tn)(c:Nat)(t:Tn):Tn:=match t with
 | .w x=>.w x
 | .n q=>(cM (mZ rs bk c) q).getD (.w aC3)
end Mc
namespace Mc
open L2 PyProof.Rows Fl
def nW(f:Tn)(bk:List Tn):Dz:=.tuple [f.d,.tuple (bk.map Tn.d)]
def bkF(bk:List Tn)(q:Int):Tn:=bk.getD q.toNat (.w aC3)
def tnV(m:Nat):Tn->Prop
 | .n i=>0<=i/\i < (m:Int)
 | .w _=>True
theorem vR(a b:Int)(h:PyData.int a=PyData.int b):a=b:=by injection h
theorem sQ(ps:List Int)(q:Int):kE (.int q) ((been PyData.int ps).map (·.1))=true:=by
 unfold kE
 rw[uJ,E7]
 refine .inr ?_
 rw[show aIB (.int q)=true from rfl,G9,C5]
 intro x a
 obtain ⟨i,_,rfl⟩:=BZ.mp a
 rfl
theorem aPZ(i:Int):kO [.d (.int i)]=.ok (.d (.bool false)):=by
 unfold kO pN
 simp[aEW]
theorem aP0(x:Str):kO [.d (.str x)]=.ok (.d (.bool true)):=by
 unfold kO pN
 simp[aEX]
def i7(rs:List Rw)(k:Nat):Dz:=.list (rs.map fun r=>fC (ck k r))
theorem aE3{rs:List Rw}{k:Nat}{q:Int}(h0:0<=q)(h1:q < (rs.length:Int)):dIx (i7 rs k) (.int q)=.ok (fC (ck k (aV rs q))):=mH (j7 h0 (by rw[AS,gU h0 h1];rfl))
theorem aT8{bk:List Tn}{q:Int}(h0:0<=q)(h1:q < (bk.length:Int)):dIx (.tuple (bk.map Tn.d)) (.int q)=.ok (bkF bk q).d:=by
 refine kG (j7 h0 ?_)
 have a:q.toNat < bk.length:=by omega
 rw[AS,AN a]
 unfold bkF
 rw[AX,AN a];rfl
theorem aP1{m:Nat}{bk:List Tn}(a:∀ t∈bk,tnV m t)(q:Int):tnV m (bkF bk q):=by
 unfold bkF
 rw[AX]
 cases e:bk[q.toNat]? with
 | none=>exact trivial
 | some t=>exact a t (BA e)
noncomputable def oρ(rs:List Rw)(bk:List Tn)(k:Nat)(t:Tn)(ps:List Int)(u:O6 A):Sg:=[some (.d (.tuple (bk.map Tn.d))),some (.d (i7 rs k)),some (.d t.d),some (.m (been PyData.int ps)),u]
theorem aSG{rs:List Rw}{bk:List Tn}{k:Nat}{x:Str}{ps:List Int}{u:O6 A}:oT (oρ rs bk k (.w x) ps u)=.ok false:=by
 simp[oT,oρ,Tn.d,aP0]
theorem aNC{rs:List Rw}{bk:List Tn}{k:Nat}{q:Int}{ps:List Int}{u:O6 A}:oT (oρ rs bk k (.n q) ps u)=.ok true:=by
 simp[oT,oρ,Tn.d,aPZ]
theorem aSH{rs:List Rw}{bk:List Tn}{k:Nat}{q:Int}{ps:List Int}{u:O6 A}(h:q∈ps):oB (oρ rs bk k (.n q) ps u)=.ok (.rt (.d (.str "ever"))):=by
 have h1:=sQ ps q
 have h2:=(mW vR).mpr h
 simp[oB,oρ,Tn.d,h1,h2]
theorem aSI{rs:List Rw}{bk:List Tn}{k:Nat}{q:Int}{ps:List Int}{u:O6 A}(h:q∉ps)(a:aC4 rs q)(b:ps.length<=16777216)(e:(ck k (aV rs q)).2=1):oB (oρ rs bk k (.n q) ps u)=.ok (.rt (.d (.int (ck k (aV rs q)).1))):=by
 have h1:=sQ ps q
 have h2:=kR vR h
 have c:(been PyData.int ps).length<=16777216:=by rw[jT];exact b
 have hi:=aE3 (k:=k) a.1 a.2
 simp[oB,oρ,Tn.d,h1,h2,c,hi,fC,cH,e]
theorem aT9{rs:List Rw}{bk:List Tn}{k:Nat}{q:Int}{ps:List Int}{u:O6 A}(h:q∉ps)(a:aC4 rs q)(g:ps.length<=16777216)(f:(ck k (aV rs q)).2≠1)(h0:0<=(ck k (aV rs q)).1)(c:(ck k (aV rs q)).1 < (bk.length:Int)):oB (oρ rs bk k (.n q) ps u)=.ok (.nx (oρ rs bk k (bkF bk (ck k (aV rs q)).1) (ps++[q]) (some (.d (fC (ck k (aV rs q))))))):=by
 have h1:=sQ ps q
 have h2:=kR vR h
 have i:=kS vR h
 have e:(been PyData.int ps).length<=16777216:=by rw[jT];exact g
 have hi:=aE3 (k:=k) a.1 a.2
 have b:=aT8 h0 c
 simp[oB,oρ,Tn.d,h1,h2,i,e,hi,fC,cH,f,b]
theorem aG5{m:Nat}{l:List Int}(g:l.Nodup)(c:∀ q∈l,0<=q/\q < (m:Int)):l.length<=m:=
 aBJ (fun q:Int=>q.toNat) m l g (fun q f=>by have:=c q f;show q.toNat < m;omega) (fun a h b d e=>by
  have h1:=c a h
  have h2:=c b d
  have i:a.toNat=b.toNat:=e
  omega)
theorem aAS{rs:List Rw}{bk:Int->Tn}{c:Nat}{q:Int}:mZ rs bk c q=if (ck (c - 97) (aV rs q)).2=1 then some (.inr (.n (ck (c - 97) (aV rs q)).1)) else match bk (ck (c - 97) (aV rs q)).1 with
 | .n r=>some (.inl r)
 | .w x=>some (.inr (.w x)):=id rfl
theorem aP2{rs:List Rw}{sg c:Nat}{bk:List Tn}(M:Mach rs sg)(l:dH sg c=true)(j:bk.length=rs.length)(s:∀ t∈bk,tnV rs.length t){h:Int}:∀ (n:Nat) (ps:List Int) (q:Int) (u:O6 A),Und2 (mZ rs (bkF bk) c) h ps q->(∀ p∈ps,aC4 rs p)->aC4 rs q->rs.length+1<=ps.length+n->
  aM (cX oT oB) (bF (vV 2)) (oρ rs bk (c - 97) (.n q) ps u)=.ok (.rt (.d ((cM (mZ rs (bkF bk) c) h).getD (.w aC3)).d)):=by
 intro n
 induction n with
 | zero=>
  intro ps q u U pv a k
  have:=aG5 U.nd pv
  omega
 | succ n ih=>
  intro ps q u U pv a k
  rw[aX]
  by_cases b:q∈ps
  .rw[l7 aNC (aSH b),U.met b];rfl
  .have B:ps.length<=rs.length:=aG5 U.nd pv
   have f:ps.length<=16777216:=by have:=M.len2;omega
   have m:=BA (gU a.1 a.2)
   obtain ⟨_,g⟩:=aGW M m (show c - 97 < sg by have:=B0 l;omega)
   have g:rJ rs.length (ck (c - 97) (aV rs q)):=g
   obtain ⟨o,v,y⟩:=g
   by_cases h1:(ck (c - 97) (aV rs q)).2=1
   .have st:mZ rs (bkF bk) c q=some (.inr (.n (ck (c - 97) (aV rs q)).1)):=by unfold mZ;exact AA h1
    rw[l7 aNC (aSI b a f h1),U.outs st];rfl
   .rw[l6 aNC (aT9 b a f h1 o (by rw[j];exact v))]
    have i:=aP1 s (ck (c - 97) (aV rs q)).1
    cases e:bkF bk (ck (c - 97) (aV rs q)).1 with
    | w x=>
     have st:mZ rs (bkF bk) c q=some (.inr (.w x)):=by rw[aAS,AE h1,e]
     rw[iE aSG,U.outs st]
     simp[oρ,Tn.d]
    | n r=>
     rw[e] at i
     have st:mZ rs (bkF bk) c q=some (.inl r):=by rw[aAS,AE h1,e]
     have:=ih (ps++[q]) r (some (.d (fC (ck (c - 97) (aV rs q))))) (U.next b st) (fun p f=>by
      rcases B4.mp f with z|z
      · exact pv p z
      · rw [A4.mp z]; exact a) i (by rw [AZ, B6]; omega)
     rw[aX] at this
     exact this
theorem aSJ{rs:List Rw}{sg c:Nat}{bk:List Tn}(M:Mach rs sg)(g:dH sg c=true)(e:bk.length=rs.length)(h:∀ t∈bk,tnV rs.length t){t:Tn}(f:tnV rs.length t):kP [.d (.tuple (bk.map Tn.d)),.d (i7 rs (c - 97)),.d t.d]=.ok (.d (onR rs (bkF bk) c t).d):=by
 have a:aM (cX oT oB) (bF (vV 2)) (oρ rs bk (c - 97) t [] none)=.ok (.rt (.d (onR rs (bkF bk) c t).d)):=by
  cases t with
  | w x=>
   rw[aX,iE aSG]
   simp[oρ,Tn.d,onR]
  | n q=>exact aP2 M g e h (rs.length+1) [] q none Und2.start (fun p b=>by simp at b) f (by simp)
 unfold kP
 rw[uE]
 simp only[cE,aX,oY,R.bind_ok,AG,AK,Nat.reduceAdd,AI,A5,AU,AV,List.replicate,AJ,AM]
 rw[aX] at a
 simp only[oρ,been,A5] at a
 rw[a];rfl
theorem aUA{rs:List Rw}{sg c:Nat}{bk:List Tn}(M:Mach rs sg)(b:dH sg c=true)(a:bk.length=rs.length)(f:∀ t∈bk,tnV rs.length t){t:Tn}(j:tnV rs.length t) :
  lS [.d (nW t bk),.d (i7 rs (c - 97))]=.ok (.d (nW (onR rs (bkF bk) c t) ((List.range rs.length).map fun q:Nat=>onR rs (bkF bk) c (.n (q:Int))))):=by
 have h:=compL_of (fs:=stN 0) (fe:=eA (aZ 3 kP (aB (vD (e2 dIx (rV 1) (eC (.int 1)))) (aB (vV 2) (aB (vV 0) aL))))) (ρ0:=[none,some (.d (nW t bk)),some (.d (i7 rs (c - 97)))]) (d:=fun i:Nat=>.int (i:Int)) (g:=fun i:Nat=>(onR rs (bkF bk) c (.n (i:Int))).d) (xs:=List.range rs.length) fun i hi=>by
  refine ⟨_,rfl,?_⟩
  have:=aSJ M b a f (t:=.n (i:Int)) ⟨by omega,by have:=BC.mp hi;omega⟩
  have e:(Tn.n (i:Int)).d=.int i:=rfl
  rw[e] at this
  simp[nW,this]
 have m:=nU (n:=rs.length) (by have:=M.len2;omega)
 have k:dLen (i7 rs (c - 97))=.ok (.int rs.length):=by unfold i7;rw[o0,AH]
 have h1:=aSJ M b a f j
 have l:dIx (nW t bk) (.int 0)=.ok t.d:=o4 _ _
 have h2:dIx (nW t bk) (.int 1)=.ok (.tuple (bk.map Tn.d)):=uI _ _ _
 unfold lS w8
 simp[l,h2,h1,k,m,fA,h]
 unfold nW
 rw[BL];rfl
theorem aIW{rs:List Rw}{sg:Nat}(M:Mach rs sg):dI (a8 rs)=.ok (rs.map cQ):=sH (by have:=M.len2;rw[AH];omega)
theorem aE4{α:Type}(rs:List Rw)(f:Rw->α):rs.map f=(List.range rs.length).map fun q:Nat=>f (aV rs (q:Int)):=by
 apply List.ext_getElem
 .simp
 .intro i h1 h2
  have hi:i < rs.length:=by simpa using h1
  simp only[List.getElem_map,EM]
  congr 1
  unfold aV
  rw[AX,show ((i:Int)).toNat=i by omega,AN hi];rfl
noncomputable def bgB:Sg->R Fw:=(bG 3 (aZ 2 lS (aB (vV 3) (aB (vD (e2 dIx (rV 2) (e2 kN (eC (.str "abc")) (rV 4)))) aL))))
theorem aSK{rs:List Rw}{sg:Nat}(M:Mach rs sg)(ρ0:Sg)(h:fA [none,some 0] ρ0=[none,some (.d (a8 rs))]) :
  compL (stN 0) gE (eA (aZ 2 gN (aB (vV 1) (aB (vV 0) aL)))) (fA [none,some 0] ρ0) ((List.range sg).map fun i:Nat=>.int (i:Int))=.ok ((List.range sg).map (i7 rs)):=by
 rw[h]
 refine compL_of fun k a=>⟨_,rfl,?_⟩
 have:=aGZ M (BC.mp a)
 simp[this]
 rfl
theorem aP3{rs:List Rw}{sg k:Nat}(a:k < sg):dIx (.list ((List.range sg).map (i7 rs))) (.int (k:Int))=.ok (i7 rs k):=mH (gI (by rw[AS,BK a];rfl))
end Mc
namespace L2
open PySem.Spec PyProof.Rows
def aIX(hi:Int)(n:Nat):It:=⟨fun i _=>i < n,fun i H x H'=>H'=H/\x=.int (hi - i),fun i _=>n<=i⟩
theorem aFX{P:P9}{w:W9}{K:Frag}{tg:Ez}(it:Az)(lo:Int)(n:Nat):Turn P w K tg (aIX lo n) [it] it (fun i h=>IsRangeIter h it (lo+(i:Nat) * (-1)) ((n:Int) - (i:Nat)) (-1)) where
 mem:=by simp
 obj:=fun i h st b a=>by
  have e:b=it:=by simpa using a
  subst e
  exact ⟨_,st,fun v z=>by
   have D:Data.fields _=Data.cell v:=z
   cases D⟩
 keep:=fun i h h' st k=>k it (by simp) _ st
 item:=by
  intro X q u p r i a5 s σ H E I d st l
  subst q u p
  obtain ⟨x,g,F,m,j,f⟩:=d it (by simp)
  have W:=Walks.range (prog:=X.prog) (w:=X.w) (I.ok.hd r) it lo (-1) n
  refine W.item i s _ _ l st fun v h' y B c C=>?_
  obtain ⟨t,rfl⟩:=B
  have A:Inv X a5 σ H {s with heap:=h',toks:=y}:=I.turned (fun b o a e=>C b o (by simpa using a) e) x g m j f
  refine ⟨_,rfl,xS (s:={s with heap:=h',toks:=y}) (n:="range_iterator") c rfl rfl (by decide) ⟨.int (lo - i),H,A,⟨t,?_⟩,⟨rfl,rfl⟩,c,fun b a=>(d b a).1⟩⟩
  rw[show lo+(i:Int) * (-1)=lo - i by omega]
 done:=by
  intro X q u p r i a5 s σ H E I d st l
  subst q u p
  obtain ⟨x,g,F,m,j,f⟩:=d it (by simp)
  exact GT (I.ok.hd r) st (by have:n<=i:=l;omega) fun h' G=>⟨rfl,I.turned (t':=s.toks) (fun b o a e=>G b o a e) x g m j f⟩
 self:=fun _ _ _ _ _ st h=>GU st h
theorem uR(a b:Int):Builtin.Range.rangeSize a b (-1)=((a - b).toNat:Int):=by
 unfold Builtin.Range.rangeSize
 simp only[show ¬ ((-1:Int) > 0) by decide,BQ,Int.neg_neg,Int.ediv_one]
 split<;>omega
theorem aND{a b:Int}(f : -(2 ^ 62)<=a)(d:a < 2 ^ 62)(e : -(2 ^ 62)<=b)(c:b < 2 ^ 62):Builtin.Range.small a b (-1)=true:=by
 unfold Builtin.Range.small
 rw[uR]
 simp only[Builtin.Range.rangeFitsLong,BD,E7,decide_eq_true_eq,EN,show ¬ ((-1:Int) > 0) by decide,BQ]
 refine ⟨?_,?_⟩<;>(try omega)<;>(repeat' constructor)<;>omega
section
variable{X:Cx}{tg:Ez}
theorem aK4{a5:List (Az×Obj)}{σ:St}{H:Hp}{s:S9}{R:It->Hp->Prop}{E:V9->S9->Prop}{lo hi:Int}{t u v:Tok}{a:Nat}(I:Inv X a5 σ H s)(h1 : -(2 ^ 62)<=lo)(h2:lo < 2 ^ 62)(g : -(2 ^ 62)<=hi)(f:hi < 2 ^ 62)
  (q:R (aIX lo (lo - hi).toNat) H):wpAny (model X.prog X.w) X.A (pyIter (.ref s.heap.objs.size)) (PIE X a5 σ tg R) E {s with heap:=s.heap.push {cls:=.type "range",data:=.fields #[.int lo t,.int hi u,.int (-1) v]},toks:=a}:=by
 refine wpAny_pyIter_range (IsRange.new ..) (aND h1 h2 g f) ?_
 have c:Inv X a5 σ H {s with heap:=s.heap.push {cls:=.type "range",data:=.fields #[.int lo t,.int hi u,.int (-1) v]},toks:=a}:=I.kept fun b o e=>AQ _ e
 refine ⟨(s.heap.push {cls:=.type "range",data:=.fields #[.int lo t,.int hi u,.int (-1) v]}).objs.size,[(s.heap.push {cls:=.type "range",data:=.fields #[.int lo t,.int hi u,.int (-1) v]}).objs.size],_,_,H,rfl,
  c.kept (t':=a) fun b o e=>AQ _ e,aFX _ lo (lo - hi).toNat,?_,fun b d=>?_,q⟩
 .have e1:lo+((0:Nat):Int) * (-1)=lo:=by simp
  have e2:(((lo - hi).toNat:Nat):Int) - ((0:Nat):Int)=Builtin.Range.rangeSize lo hi (-1):=by rw[uR];omega
  show IsRangeIter _ _ (lo+((0:Nat):Int) * (-1)) ((((lo - hi).toNat:Nat):Int) - ((0:Nat):Int)) (-1)
  rw[e1,e2]
  exact BE _ rfl
 .have e:b=(s.heap.push {cls:=.type "range",data:=.fields #[.int lo t,.int hi u,.int (-1) v]}).objs.size:=by simpa using d
  subst e
  exact c.fpOk (A2 _) (c.hok.fresh (A2 _))
def aN9(ta:TA):TI:=fun σ H R=>ta σ H fun vs H1=>∃ i j:Int,vs=[.int i,.int j,.int (-1)]/\(-4096<=i/\i < 4096 /\ -4096<=j/\j < 4096)/\R (aIX i (i - j).toNat) H1
theorem aB0{a b d:Ez}{ta:TA}{p pos:Pos}(o:Gl X "range")(n:X.mg "range"=none)(u:PA X [a,b,d] ta)(k:starEach [a,b,d] X.env=[(false,eval a X.env),(false,eval b X.env),(false,eval d X.env)]:=by rfl)(hs2:starEach [b,d] X.env=[(false,eval b X.env),(false,eval d X.env)]:=by rfl) :
  PI X tg (.Call (.Name "range" p) [a,b,d] [] pos) (aN9 ta):=by
 intro a5 s σ H R I h
 refine Call_ (nP I o n boot_range (CO (thn (u pos a5 s σ H _ I h) fun A z c=>?_) (by rw[k,hs2]) (by rw[hs2];rfl)))
 obtain ⟨vs,H1,l,m,f⟩:=c
 obtain ⟨i,j,e,⟨f,w,y,v⟩,q⟩:=f
 subst e
 cases m with
 | cons r rr=>
  cases rr with
  | cons r' rr=>
   cases rr with
   | cons r'' rr=>
    cases rr
    obtain ⟨t,rfl⟩:=r
    obtain ⟨x,rfl⟩:=r'
    obtain ⟨g,rfl⟩:=r''
    exact call_range_3 (by decide) (aK4 l (by omega) (by omega) (by omega) (by omega) q) (Or.inl (PyProof.noPylong_small (by omega)))
end
end L2
namespace Fl
open L2 PyProof.Rows
section
variable{X:Cx}{c:Ct}{E:XK}{tg e:Ez}
def oI(hi:Int)(n:Nat):List Dz:=(List.range n).map fun i:Nat=>.int (hi - i)
def oJ(i j:Int):R (List Dz):=if -4096<=i/\i < 4096 /\ -4096<=j/\j < 4096 then .ok (oI i (i - j).toNat) else .bad
def vS(f g h:Sg->R Dz):Sg->R (List Dz):=fun ρ=>(f ρ).bind fun x=>(g ρ).bind fun y=>(h ρ).bind fun z=>match x,y,z with
 | .int i,.int j,.int k=>if k = -1 then oJ i j else .bad
 | _,_,_=>.bad
theorem aIY{K:Frag}{F B:Hp}{lo:Int}{n:Nat}(d:n<=16777216):Yld K (aIX lo n) F B (oI lo n) where
 len:=by unfold oI;rw[dY,AH,A0];exact d
 go:=fun i a H1 h1 h2 b hi=>by unfold oI at hi;rw[AH,A0] at hi;exact hi
 yld:=fun i a H1 v H2 x h1 h2 b y e=>by
  obtain ⟨rfl,rfl⟩:=y
  unfold oI at e
  rw[AS] at e
  cases q:(List.range n)[i]? with
  | none=>rw[q] at e;cases e
  | some j=>
   rw[q] at e
   cases e
   obtain ⟨f,c⟩:=A3.mp q
   rw[EM] at c
   subst c
   exact ⟨a,Ext.refl h2,.int _⟩
 stop:=fun a H1 h1 h2 b=>by show n<=_;unfold oI;rw[AH,A0];exact A2 _
theorem aG6{f g h:Sg->R Dz}(h':PI X tg e (aN9 (gF (tV (bH c) c E f) (gF (tV (bH c) c E g) (gF (tV (bH c) c E h) kI))))):PI0 X c E tg e (vS f g h):=PI.imp h' fun σ H Q ⟨ρ,F,ab,k⟩=>by
 refine ⟨ρ,F,ab,(Rk.bind k).imp fun x _ q v m H1 b A=>⟨ρ,m,ab.ext b,((Rk.bind q).ext b).imp fun y _ q w p H2 d n=>⟨ρ,p,(ab.ext b).ext d,((Rk.bind q).ext (b.trans d)).imp fun z _ q u B H' s r=>?_⟩⟩⟩
 cases x with
 | int i=>
  cases y with
  | int j=>
   cases z with
   | int l=>
    have a:Rk c E F H (if l = -1 then oJ i j else .bad) _:=q
    split at a
    .rename_i o
     unfold oJ at a
     split at a
     .rename_i t
      obtain rfl:=bC.int_of A
      obtain rfl:=bC.int_of n
      obtain rfl:=bC.int_of r
      subst o
      exact ⟨i,j,rfl,t,Rk.ok a _ B H' ((b.trans d).trans s) (aIY (by omega))⟩
     .exact a.elim
    .exact a.elim
   | _=>exact q.elim
  | _=>exact q.elim
 | _=>exact q.elim
end
section
variable{X:Cx}{c:Ct}{E:XK}{e:Ez}{pos p2:Pos}{lo hi:O6 Ez}
def dSlS:Dz->O6 Int->O6 Int->R Dz
 | .str z,lo,hi=>if z.length<=16777216 then .ok (.str (Txt.slice z lo hi)) else .bad
 | _,_,_=>.bad
theorem aUB:SlR X (aMO c (c9 c) dSlS):=by
 intro a5 s σ H v x l n lo hi b Q I j i f g h
 obtain ⟨F,d,w,e,k,a,q⟩:=h
 unfold dSlS at a
 split at a
 .split at a
  .rename_i m
   cases a
   obtain rfl:=bC.str_of k
   exact aJW a5 s σ H _ x l n lo hi b Q I j i f g ⟨_,rfl,by rw[dY];exact m,q _ F H (Ext.refl e) (.str _)⟩
  .cases a
 .cases a
theorem aK5:∀ x l h e,dSlS x l h≠.ex e:=by intro x l h e q;unfold dSlS at q;split at q<;>(try split at q)<;>cases q
theorem aB1{z:Str}{a fh:Sg->R (O6 Int)}(f:PR X c E e (eC (.str z)))(d:PO X lo (tPf c E a))(b:PO X hi (tPf c E fh)):PD X c E (.Subscript e (.Slice lo hi none p2) pos) (eSl dSl (eC (.str z)) a fh):=
 (show PD X c E (.Subscript e (.Slice lo hi none p2) pos) (eSl dSlS (eC (.str z)) a fh) from PE.imp (aDG aUB f d b) fun σ H Q h=>aGP aK5 (nG c) h)
def yR:Dz->R (List Dz)
 | .str z=>if z.cps.toList.length<=16777216 then .ok (j8 0 (z.cps.toList.map fun u=>.str ⟨#[u]⟩)) else .bad
 | _=>.bad
theorem aP4{tg:Ez}{f:Sg->R Dz}(h':PI X tg e (aJY (gF (tV (c9 c) c E f) kI))):PI0 X c E tg e (e1 yR f):=PI.imp h' fun σ H Q ⟨ρ,F,ab,k⟩=>by
 have a:=Rk.bind k
 cases b:f ρ with
 | bad=>rw[b] at a;exact a.elim
 | ex x=>rw[b] at a;exact ⟨ρ,F,ab,by rw[b];exact a⟩
 | ok d=>
  rw[b] at a
  have k2:=Rk.ok a
  unfold yR at k2
  split at k2
  .rename_i z
   split at k2
   .rename_i g
    refine ⟨ρ,F,ab,?_⟩
    rw[b]
    intro v h H' s r
    obtain rfl:=DatV.str_of r
    exact ⟨z,rfl,Rk.ok k2 _ h H' s (aKF g)⟩
   .exact k2.elim
  .exact k2.elim
end
end Fl
namespace Mc
open L2 PyProof.Rows Fl
noncomputable def m4:Sg->R Fw:=(aM (bG 2 (vD (eSl dSl (eC (.str "abc")) oNo (oSo (rV 0)))))
 (aM (lP (e1 yR (eV 1)) (stT [(stN 3),(stN 4)]) (sIf (e1 asB (e2 dNin (rV 4) (rV 2))) aMU sNx))
 (bF (vV 1))))
noncomputable def jL:List A->R A:=fnF 5 m4
noncomputable def p9:Sg->R Fw:=(bF (aZ 2 jL (aB (aZ 1 eP (aB (vV 0) aL)) (aB (vV 1) aL))))
noncomputable def eW:List A->R A:=fnF 2 p9
noncomputable def xE:Sg->R Fw:=(aM (oA (aZ 2 eW (aB (vV 0) (aB (vV 1) aL))))
 (aM (bG 2 (vD (eC (.tuple [.int 0,.int 0]))))
 (aM (gM 3 (eZ (aB (eV 2) aL)))
 (aM (pL 4)
 (aM (cX (e1 asB (sA true 4 (eV 2))) (aM (pM 4 (eV 2) (eC (.bool true)))
 (aM (bG 5 (aZ 3 iW (aB (vV 0) (aB (vV 1) (aB (vV 2) aL)))))
 (aM (sIf (e1 asB (e2 dIn (e2 dIx (rV 5) (eC (.int 0))) (eC (.tuple [.str "by",.str "out"])))) (sFz 3 (bF (vV 3))) sNx)
 (aM (bG 2 (vD (cO (aB (e2 cR (e2 dIx (rV 2) (eC (.int 0))) (e2 dIx (rV 5) (eC (.int 1)))) (aB (e2 dIx (rV 5) (eC (.int 0))) aL)))))
 (lN 3 (eV 2)))))))
 (sFz 3 (bF (vV 3))))))))
noncomputable def jB:List A->R A:=fnF 6 xE
noncomputable def xF:Sg->R Fw:=(aM (bG 2 (aZ 2 jB (aB (vV 0) (aB (vV 1) aL))))
 (aM (bG 3 (vD (e2 dIx (rV 2) (e1 dNeg (eC (.int 1))))))
 (aM (bG 4 (vD (e2 dIx (eA (aZ 3 iW (aB (vV 0) (aB (vV 1) (aB (vV 3) aL))))) (eC (.int 0)))))
 (aM (sIf (e1 asB (e2 dEq (rV 4) (eC (.str "by")))) (bF (sM "LetBy" ["place","room","borders"] (aB (e2 dIx (rV 3) (eC (.int 0))) (aB (e2 dIx (rV 3) (eC (.int 1))) (aB (eA (aZ 2 gX (aB (vV 2) (aB (vV 1) aL)))) aL))))) sNx)
 (aM (sIf (e1 asB (e2 dEq (rV 4) (eC (.str "out")))) (bF (sM "ShutOut" ["place","room","borders"] (aB (e2 dIx (rV 3) (eC (.int 0))) (aB (e2 dIx (rV 3) (eC (.int 1))) (aB (eA (aZ 2 gX (aB (vV 2) (aB (vV 1) aL)))) aL))))) sNx)
 (bF (sM "ForEver" ["place","room","first","again"] (aB (e2 dIx (rV 3) (eC (.int 0))) (aB (e2 dIx (rV 3) (eC (.int 1))) (aB (aIT (rV 2) (rV 3)) (aB (e2 dSub (e1 dLen (rV 2)) (eC (.int 1))) aL)))))))))))
noncomputable def kW:List A->R A:=fnF 5 xF
noncomputable def nX:Sg->R Fw:=(aM (oA (aZ 2 eW (aB (vV 0) (aB (vV 1) aL))))
 (aM (gM 2 (f6 [none,some 0] (fS (eA (aZ 1 eP (aB (vV 0) aL)))) (stN 0) gE (eA (aZ 2 gN (aB (vV 1) (aB (vV 0) aL))))))
 (aM (bG 3 (aZ 1 g9 (aB (vV 0) aL)))
 (aM (lP (e1 dI (eV 1)) (stN 4) (bG 3 (aZ 2 lS (aB (vV 3) (aB (vD (e2 dIx (rV 2) (e2 kN (eC (.str "abc")) (rV 4)))) aL)))))
 (bF (vV 3))))))
noncomputable def j4:List A->R A:=fnF 5 nX
noncomputable def m5:Sg->R Fw:=(aM (bG 4 (vD (e2 dIx (rV 3) (eC (.int 3)))))
 (aM (bG 5 (vD (e2 dIx (rV 3) (eC (.int 4)))))
 (aM (sIf (z8 (e1 asB (aAR dLe dLt dLe (eC (.int 0)) (rV 4) (rV 5) (e2 dMul (e1 dLen (rV 0)) (e2 cR (e1 dLen (rV 1)) (eC (.int 2))))))) (bF (vD (eC (.bool false)))) sNx)
 (aM (bG 6 (aZ 2 jB (aB (vV 0) (aB (vV 1) aL))))
 (aM (bG 7 (vD (cO (aB (e2 dIx (rV 3) (eC (.int 1))) (aB (e2 dIx (rV 3) (eC (.int 2))) aL)))))
 (bF (vD (z9 (e2 dEq (eA (aZ 3 i6 (aB (vV 6) (aB (vO 2) (aB (vV 4) aL))))) (rV 7)) (e2 dEq (eA (aZ 3 i6 (aB (vV 6) (aB (vO 2) (aB (vV 5) aL))))) (rV 7))))))))))
noncomputable def jM:List A->R A:=fnF 8 m5
noncomputable def pT:Sg->R Fw:=(aM (bG 3 (aZ 2 kW (aB (vV 0) (aB (vV 1) aL))))
 (aM (sIf (e1 asB (eA (vMt (vO 3) "stops" [("LetBy",j3),("ShutOut",iZ),("ForEver",i5)]))) (bF (vD (e2 dEq (rV 2) (eA (vMt (vO 3) "paper" [("LetBy",hV),("ShutOut",f7),("ForEver",f8)]))))) sNx)
 (bF (vD (z9 (e2 dEq (e2 dIx (rV 2) (eC (.int 0))) (eC (.str "ever"))) (eA (aZ 4 jM (aB (vV 0) (aB (vV 1) (aB (vO 3) (aB (vV 2) aL)))))))))))
noncomputable def gY:List A->R A:=fnF 4 pT
noncomputable def m6:Sg->R Fw:=(aM (oA (aZ 2 eW (aB (vV 0) (aB (vV 1) aL))))
 (aM (bG 2 (vD (e1 dTup (eL (f6 [none] (e1 dI (eA (aZ 2 gN (aB (vV 0) (aB (vD (e2 kN (eC (.str "abc")) (rV 1))) aL))))) (stN 0) gE (cO (aB (e2 dIx (rV 0) (eC (.int 1))) (aB (e2 dIx (rV 0) (eC (.int 0))) aL))))))))
 (bF (vD (cO (aB (eV 2) (aB (eV 2) aL)))))))
noncomputable def iJ:List A->R A:=fnF 3 m6
noncomputable def o9:Sg->R Fw:=(aM (oA (aZ 2 eW (aB (vV 0) (aB (vV 1) aL))))
 (aM (gM 2 (f6 [none,some 0] (e1 dI (eSl dSl (eC (.str "abc")) oNo (oSo (eA (aZ 1 eP (aB (vV 0) aL)))))) (stN 0) gE (eA (aZ 2 iJ (aB (vV 1) (aB (vV 0) aL))))))
 (aM (bG 3 (aZ 1 qK (aB (vD (e1 dLen (rV 0))) aL)))
 (aM (lP (e1 dI (eV 1)) (stN 4) (bG 3 (aZ 2 kQ (aB (vV 3) (aB (vD (e2 dIx (rV 2) (e2 kN (eC (.str "abc")) (rV 4)))) aL)))))
 (bF (vV 3))))))
noncomputable def iL:List A->R A:=fnF 5 o9
noncomputable def pnF:Sg->R Fw:=(aM (bG 5 (vD (e2 dIx (eL (eZ (aB (e2 cR (e2 dMul (eC (.int 2)) (rV 4)) (eC (.int 2))) (aB (eV 2) aL)))) (e1 dInt (e2 dEq (rV 4) (e2 dSub (rV 0) (eC (.int 1))))))))
 (aM (lN 3 (cO (aB (e2 dIx (eL (eZ (aB (eC (.int 0)) (aB (eC (.str "out")) aL)))) (e1 dInt (e2 dGt (rV 4) (eC (.int 0))))) (aB (e1 dTup (eL (vN (eZ (aB (cO (aB (e2 dMul (eC (.int 2)) (rV 4)) (aB (eC (.int 1)) aL))) aL)) (rV 1)))) (aB (e2 cR (e2 dMul (eC (.int 2)) (rV 4)) (eC (.int 1))) aL)))))
 (lN 3 (cO (aB (eV 5) (aB (e1 dTup (eL (vN (eZ (aB (cO (aB (e2 cR (e2 dMul (eC (.int 2)) (rV 4)) (eC (.int 1))) (aB (e1 dNeg (eC (.int 1))) aL))) aL)) (rV 1)))) (aB (eC (.str "by")) aL)))))))
noncomputable def kB:Sg->R Fw:=(aM (gM 3 (eZ aL)) (aM (lP (fS (rV 0)) (stN 4) pnF) (bF (vD (e1 dTup (rV 3))))))
noncomputable def fH:List A->R A:=fnF 6 kB
noncomputable def aIZ:Sg->R Dz:=(cO (aB (eV 0) (aB (e2 dMul (eC (.int 2)) (rV 1)) aL)))
noncomputable def aI0:Sg->R Dz:=(cO (aB (eV 0) (aB (e2 cR (e2 dMul (eC (.int 2)) (rV 1)) (eC (.int 1))) aL)))
noncomputable def aNE:Sg->R Fw:=(aM (gM 3 (e2 lR (rV 3) (eL (f6 [none,some 4] (qI (e1 dInt (e2 dGt (rV 4) (eC (.int 0)))) (e2 cR (rV 1) (eC (.int 2)))) (stN 0) gE aIZ))))
 (gM 3 (e2 lR (rV 3) (eL (f6 [none,some 4] (vS (rV 1) (e1 dNeg (eC (.int 1))) (e1 dNeg (eC (.int 1)))) (stN 0) gE aI0)))))
noncomputable def lV:Sg->R Fw:=(aM (gM 3 (eZ aL)) (aM (lP (fS (rV 0)) (stN 4) aNE) (aM (sIf (e1 asB (e2 dEq (rV 2) (eC (.int 0)))) (lN 3 (cO (aB (eC (.int 1)) (aB (eC (.int 0)) aL)))) sNx) (sFz 3 (bF (vV 3))))))
noncomputable def gL:List A->R A:=fnF 5 lV
noncomputable def kX:Sg->R Fw:=(aM (gM 4 (e2 lR (eL (eZ (aB (cO (aB (eC (.int 0)) (aB (eC (.int 0)) aL))) aL))) (eL (f6 [none,some 0] (qI (eC (.int 1)) (e2 cR (rV 3) (eC (.int 2)))) (stN 0) gE (cO (aB (eV 0) (aB (e2 dMod (e2 dSub (rV 0) (eC (.int 1))) (rV 1)) aL)))))))
 (aM (sIf (e1 asB (e2 dEq (e2 dMod (rV 3) (rV 0)) (rV 2))) (gM 4 (e2 lR (rV 4) (eL (f6 [none,some 0,some 3,some 1] (vS (rV 3) (e1 dNeg (eC (.int 1))) (e1 dNeg (eC (.int 1)))) (stN 0) gE (cO (aB (eV 0) (aB (e2 cR (rV 1) (e2 dMod (e2 dSub (rV 2) (rV 0)) (rV 3))) aL))))))) sNx)
 (sFz 4 (bF (vV 4)))))
noncomputable def fW:List A->R A:=fnF 5 kX
noncomputable def iM:Sg->R Fw:=(aM (w4 (stT [(stN 3),(stN 4)]) (eV 0))
 (aM (sIf (e1 asB (e2 dEq (rV 3) (eC (.int 0)))) (bF (vV 1)) sNx)
 (aM (sIf (e1 asB (e2 dLt (rV 1) (rV 3))) (bF (vD (e2 dMod (e2 cR (rV 1) (rV 2)) (rV 3)))) sNx)
 (bF (vD (e2 cR (rV 3) (e2 dMod (e2 cR (e2 dSub (rV 1) (rV 3)) (rV 2)) (rV 4))))))))
noncomputable def dC:List A->R A:=fnF 5 iM
noncomputable def dtF:Sg->R Fw:=(aM (bG 6 (vD (e2 dIx (e2 dIx (e2 dIx (e2 dIx (rV 0) (rV 5)) (eC (.int 1))) (eC (.int 0))) (eC (.int 1)))))
 (aM (bG 7 (vD (cO (aB (eV 6) (aB (eA (aZ 3 dC (aB (vV 1) (aB (vV 5) (aB (vD (e2 dIx (eL (eZ (aB (eC (.int 1)) (aB (eV 2) aL)))) (e1 dInt (e2 dEq (rV 6) (eC (.int 1)))))) aL))))) aL)))))
 (aM (bG 8 (vD (cO (aB (eV 6) (aB (eA (aZ 3 dC (aB (vV 1) (aB (vV 5) (aB (vD (e2 dIx (eL (eZ (aB (eC (.int 1)) (aB (eV 2) aL)))) (e1 dInt (e2 dEq (rV 6) (e1 dNeg (eC (.int 1))))))) aL))))) aL)))))
 (aM (lN 3 (e2 dIx (eL (eZ (aB (eV 7) (aB (cO (aB (eC (.int 1)) (aB (eV 5) aL))) aL)))) (e1 dInt (e2 dEq (rV 2) (eC (.int 0))))))
 (lN 4 (e2 dIx (eL (eZ (aB (eV 8) (aB (cO (aB (e1 dNeg (eC (.int 1))) (aB (eV 5) aL))) aL)))) (e1 dInt (e2 dEq (rV 2) (eC (.int 0))))))))))
noncomputable def jV:Sg->R Fw:=(aM (gM 3 (eZ aL)) (aM (gM 4 (eZ aL)) (aM (lP (fS (e1 dLen (rV 0))) (stN 5) dtF) (bF (vD (cO (aB (e1 dTup (rV 3)) (aB (e1 dTup (rV 4)) aL))))))))
noncomputable def f9:List A->R A:=fnF 9 jV
noncomputable def dbF:Sg->R Fw:=(aM (bG 5 (vD (e2 dIx (e2 dIx (e2 dIx (e2 dIx (rV 0) (rV 4)) (eC (.int 1))) (eC (.int 0))) (eC (.int 1)))))
 (aM (sIf (bOr (e1 asB (e2 dEq (rV 2) (eC (.int 0)))) (e1 asB (e2 dEq (rV 5) (e1 dNeg (eC (.int 1)))))) (bG 4 (vD (e2 dIx (e2 dIx (rV 0) (eA (aZ 3 dC (aB (vV 1) (aB (vV 4) (aB (vV 2) aL)))))) (eC (.int 0))))) (bG 4 (aZ 3 dC (aB (vV 1) (aB (vV 4) (aB (vD (eC (.int 1))) aL))))))
 (lN 3 (eV 4))))
noncomputable def iN:Sg->R Fw:=(aM (gM 3 (eZ aL)) (aM (lP (fS (e1 dLen (rV 0))) (stN 4) dbF) (bF (vD (cO (aB (eA (aZ 3 dC (aB (vV 1) (aB (vD (eC (.int 0))) (aB (vV 2) aL))))) (aB (e1 dTup (rV 3)) aL)))))))
noncomputable def eU:List A->R A:=fnF 6 iN
noncomputable def crF:Sg->R Fw:=(sIf (e1 asB (e2 dEq (e2 (d2 j9) (e2 dIx (e2 dIx (rV 0) (e2 dSub (rV 3) (eC (.int 1)))) (eC (.int 0))) (e2 dIx (e2 dIx (rV 0) (rV 3)) (eC (.int 0)))) (rV 1))) (lN 2 (e2 dIx (e2 dIx (rV 0) (rV 3)) (eC (.int 1)))) sNx)
noncomputable def kC:Sg->R Fw:=(aM (gM 2 (eZ aL)) (aM (lP (qI (eC (.int 1)) (e1 dLen (rV 0))) (stN 3) crF) (bF (vD (e1 dTup (rV 2))))))
noncomputable def gH:List A->R A:=fnF 4 kC
noncomputable def jE:Sg->R Fw:=(aM (bG 5 (aZ 2 kW (aB (vV 0) (aB (vV 1) aL))))
 (aM (sIf (bOr (e1 asB (e2 dNe (eA (aZ 2 jB (aB (vV 0) (aB (vV 1) aL)))) (rV 2))) (bOr (e1 asB (e2 dNe (eA (vMt (vO 5) "says" [("LetBy",kU),("ShutOut",jJ),("ForEver",jK)])) (rV 3))) (e1 asB (e2 dNe (cO (aB (eOF 5 ["LetBy","ShutOut","ForEver"] "place") (aB (eOF 5 ["LetBy","ShutOut","ForEver"] "room") aL))) (e2 dIx (rV 2) (e1 dNeg (eC (.int 1)))))))) (bF (vD (eC (.bool false)))) sNx)
 (aM (bG 6 (vMt (vO 5) "paper" [("LetBy",hV),("ShutOut",f7),("ForEver",f8)]))
 (aM (sIf (e1 asB (e2 dIsntB (eA (aZ 3 gY (aB (vV 0) (aB (vV 1) (aB (vV 6) aL))))) (eC (.bool true)))) (bF (vD (eC (.bool false)))) sNx)
 (aM (sIf (e1 asB (e2 dEq (rV 3) (eC (.str "ever")))) (aM (bG 7 (vD (e2 dSub (e1 dLen (rV 2)) (eC (.int 1)))))
 (bF (vD (z9 (e2 dEq (rV 6) (cO (aB (eC (.str "ever")) (aB (eC (.int 1)) (aB (eC (.int 0)) (aB (eC (.int 1)) (aB (eV 7) aL))))))) (e2 dIsB (eA (aZ 3 gY (aB (vV 0) (aB (vV 1) (aB (vD (cO (aB (eC (.str "ever")) (aB (eC (.int 1)) (aB (eC (.int 0)) (aB (eC (.int 1)) (aB (e2 dSub (rV 7) (eC (.int 1))) aL))))))) aL))))) (eC (.bool false))))))) sNx)
 (aM (bG 8 (aZ 2 gH (aB (vV 2) (aB (vV 4) aL))))
 (aM (sIf (bOr (e1 asB (e2 dNe (e2 dIx (rV 6) (eC (.int 0))) (rV 3))) (bOr (e1 asB (e2 dNe (e1 dLen (e2 dIx (rV 6) (eC (.int 1)))) (e2 cR (e1 dLen (rV 1)) (eC (.int 1))))) (e1 asB (e2 dNe (e2 dIx (e2 dIx (rV 6) (eC (.int 1))) (rV 4)) (rV 8))))) (bF (vD (eC (.bool false)))) sNx)
 (aM (bG 9 (vD (e2 cR (cO (aB (e2 cR (e2 dIx (rV 8) (eC (.int 0))) (eC (.int 1))) aL)) (eSl dSl (rV 8) (oSo (eC (.int 1))) oNo))))
 (bF (vD (e2 dIsB (eA (aZ 3 gY (aB (vV 0) (aB (vV 1) (aB (vD (cO (aB (eV 3) (aB (e2 cR (e2 vQ (eSl dSl (e2 dIx (rV 6) (eC (.int 1))) oNo (oSo (rV 4))) (cO (aB (eV 9) aL))) (eSl dSl (e2 dIx (rV 6) (eC (.int 1))) (oSo (e2 cR (rV 4) (eC (.int 1)))) oNo)) aL)))) aL))))) (eC (.bool false)))))))))))))
noncomputable def dE:List A->R A:=fnF 10 jE
noncomputable def lD:Sg->R Fw:=(aM (bG 5 (aZ 3 f9 (aB (vV 0) (aB (vV 2) (aB (vD (e1 dLen (rV 1))) aL)))))
 (aM (bG 6 (aZ 2 iL (aB (vV 0) (aB (vV 1) aL))))
 (aM (bG 7 (aZ 2 kQ (aB (aZ 2 iL (aB (vV 0) (aB (vD (eSl dSl (rV 1) oNo (oSo (rV 4)))) aL))) (aB (aZ 2 iL (aB (vV 0) (aB (vD (eSl dSl (rV 1) (oSo (rV 4)) oNo)) aL))) aL))))
 (aM (sIf (bOr (e1 asB (e2 dNe (rV 6) (rV 5))) (bOr (e1 asB (e2 dNe (rV 7) (rV 5))) (e1 asB (e2 dNe (eA (aZ 2 uG (aB (vV 0) (aB (vV 6) aL)))) (rV 3))))) (bF (vD (eC (.bool false)))) sNx)
 (bF (vD (e2 dEq (eA (aZ 2 j4 (aB (vV 0) (aB (vV 1) aL)))) (eA (aZ 3 eU (aB (vV 0) (aB (vV 2) (aB (vD (e1 dLen (rV 1))) aL))))))))))))
noncomputable def eK:List A->R A:=fnF 8 lD
noncomputable def lw0:Sg->R Fw:=(bG 1 (vD (e2 cR (eC (.int 1)) (e2 dMod (eA (aZ 2 bT (aB (vV 0) (aB (vD (eC (.int 1))) aL)))) (eC (.int 3))))))
noncomputable def lw1:Sg->R Fw:=(bG 2 (vD (e2 dIx (eL (eZ (aB (e2 dMod (eA (aZ 2 bT (aB (vV 0) (aB (vD (eC (.int 2))) aL)))) (eC (.int 12))) (aB (e2 cR (eC (.int 100)) (e2 dMod (eA (aZ 2 bT (aB (vV 0) (aB (vD (eC (.int 2))) aL)))) (eC (.int 301)))) aL)))) (e1 dInt (e2 dGt (e2 dMod (eA (aZ 2 bT (aB (vV 0) (aB (vD (eC (.int 3))) aL)))) (eC (.int 4))) (eC (.int 0)))))))
noncomputable def lw2:Sg->R Fw:=(bG 3 (aZ 4 gW (aB (vV 0) (aB (vD (eC (.int 12))) (aB (vV 2) (aB (vV 1) aL))))))
noncomputable def lw3:Sg->R Fw:=(bG 4 (aZ 2 bT (aB (vV 0) (aB (vD (eC (.int 4))) aL))))
noncomputable def lw4:Sg->R Fw:=(bG 5 (vD (e2 dMod (eA (aZ 2 bT (aB (vV 0) (aB (vD (eC (.int 5))) aL)))) (e2 cR (rV 2) (eC (.int 1))))))
noncomputable def la0:Sg->R Fw:=(bG 6 (vD (e2 dIx (eL (eZ (aB (eC (.str "by")) (aB (eC (.str "out")) (aB (eC (.int 0)) aL))))) (e2 dMod (e2 dDiv (rV 4) (eC (.int 2))) (eC (.int 3))))))
noncomputable def la1:Sg->R Fw:=(bG 7 (vD (e2 cR (eC (.int 1)) (e2 dMod (e2 dDiv (rV 4) (eC (.int 6))) (eC (.int 3))))))
noncomputable def la2:Sg->R Fw:=(bG 8 (aZ 3 fH (aB (vV 7) (aB (vV 1) (aB (vV 6) aL)))))
noncomputable def la3:Sg->R Fw:=(bG 9 (aZ 3 gL (aB (vV 7) (aB (vV 2) (aB (vV 6) aL)))))
noncomputable def la4:Sg->R Fw:=(bG 10 (vD (e2 dIx (eL (eZ (aB (eC (.str "ever")) (aB (eV 6) aL)))) (e1 dInt (e2 dNe (rV 6) (eC (.int 0)))))))
noncomputable def la5:Sg->R Fw:=(bG 11 (vD (cO (aB (eC (.int 0)) (aB (eC (.int 0)) aL)))))
noncomputable def lA:Sg->R Fw:=aM la0 (aM la1 (aM la2 (aM la3 (aM la4 (la5)))))
noncomputable def lb0:Sg->R Fw:=(bG 11 (vD (cO (aB (e2 cR (eC (.int 1)) (e2 dMod (e2 dDiv (rV 4) (eC (.int 2))) (eC (.int 9)))) (aB (e2 cR (eC (.int 1)) (e2 dMod (e2 dDiv (rV 4) (eC (.int 18))) (eC (.int 7)))) aL)))))
noncomputable def lb1:Sg->R Fw:=(w4 (stT [(stN 12),(stN 13)]) (eV 11))
noncomputable def lb2:Sg->R Fw:=(gM 14 (eZ (aB (e2 dMod (rV 2) (rV 12)) (aB (e2 dMod (rV 2) (rV 13)) aL))))
noncomputable def lb3:Sg->R Fw:=(sIf (e1 asB (e2 dEq (e2 dMod (e2 dDiv (rV 4) (eC (.int 126))) (eC (.int 2))) (eC (.int 1)))) (aIE 14 (eC (.int 0)) (e2 dMod (eA (aZ 2 bT (aB (vV 0) (aB (vD (eC (.int 6))) aL)))) (rV 12))) sNx)
noncomputable def lb4:Sg->R Fw:=(sIf (e1 asB (e2 dEq (e2 dMod (e2 dDiv (rV 4) (eC (.int 252))) (eC (.int 2))) (eC (.int 1)))) (aIE 14 (eC (.int 1)) (e2 dMod (eA (aZ 2 bT (aB (vV 0) (aB (vD (eC (.int 7))) aL)))) (rV 13))) sNx)
noncomputable def lb5:Sg->R Fw:=(bG 8 (aZ 5 iI (aB (vV 12) (aB (vV 13) (aB (vD (e2 dIx (rV 14) (eC (.int 0)))) (aB (vD (e2 dIx (rV 14) (eC (.int 1)))) (aB (vV 1) aL)))))))
noncomputable def lb6:Sg->R Fw:=(bG 9 (aZ 4 fW (aB (vV 12) (aB (vV 13) (aB (vD (e2 dIx (rV 14) (eC (.int 0)))) (aB (vV 2) aL))))))
noncomputable def lb7:Sg->R Fw:=(bG 10 (vD (e2 dIx (eL (eZ (aB (eC (.str "out")) (aB (eC (.str "by")) aL)))) (e1 dInt (e2 dEq (rV 14) (eL (eZ (aB (e2 dMod (rV 2) (rV 12)) (aB (e2 dMod (rV 2) (rV 13)) aL)))))))))
noncomputable def lB:Sg->R Fw:=aM lb0 (aM lb1 (aM lb2 (aM lb3 (aM lb4 (aM lb5 (aM lb6 (lb7)))))))
noncomputable def lw5:Sg->R Fw:=(sIf (e1 asB (e2 dEq (e2 dMod (rV 4) (eC (.int 2))) (eC (.int 0)))) lA lB)
noncomputable def lw6:Sg->R Fw:=(sIf (z8 (e1 asB (eA (aZ 5 dE (aB (vV 8) (aB (vV 3) (aB (vV 9) (aB (vV 10) (aB (vV 5) aL))))))))) (bF (vD (eC (.bool false)))) sNx)
noncomputable def lw7:Sg->R Fw:=(bF (aZ 5 eK (aB (vV 8) (aB (vV 3) (aB (vV 11) (aB (vV 10) (aB (vD (e2 dMod (eA (aZ 2 bT (aB (vV 0) (aB (vD (eC (.int 8))) aL)))) (e2 cR (rV 2) (eC (.int 1))))) aL)))))))
noncomputable def aI1:Sg->R Fw:=aM lw0 (aM lw1 (aM lw2 (aM lw3 (aM lw4 (aM lw5 (aM lw6 (lw7)))))))
noncomputable def aC5:List A->R A:=fnF 15 aI1
def top(i:Nat):Stmt:=PySem.Challenge.pw_striproam_k46_whole_long_strips.main.body.getD i (.Pass ⟨0,0,0,0⟩)
structure Txt(w:World)(K:Frag)(mg:Str->Option V9):Prop where
 b_enumerate:mg "enumerate"=none
 b_int:mg "int"=none
 b_isinstance:mg "isinstance"=none
 b_len:mg "len"=none
 b_min:mg "min"=none
 b_range:mg "range"=none
 b_str:mg "str"=none
 b_tuple:mg "tuple"=none
 b_zip:mg "zip"=none
 g_BEGIN:∃ a,mg "BEGIN"=some (.ref a)/\rH K a [.int 0,.int 0]
 g_SIGNS:∃ t,mg "SIGNS"=some (.str "abc" t)
 g_STOPS:∃ a,mg "STOPS"=some (.ref a)/\rH K a [.str "by",.str "out"]
section
variable{P:P9}{w:W9}{K:Frag}{mg:Str->O6 V9}{base:Hz}{TH:Hp}
theorem tE:FnScope ["self"] ["self"] (aN (aS (top 13) 1)):=by constructor<;>first|rfl|decide +kernel
theorem aAT(T:Txt w K mg){f:Az}{fd:FuncData}(b:Fun K "says" "LetBy.says" (aS (top 13) 1) f fd):FnOk P w K mg base (CXe P w) 1 f fd ["self"] (spF (gOf P w K mg base TH) K mg 1 kU):=
 @k8 P w K mg base TH "says" "LetBy.says" (aS (top 13) 1) ["self"] ["self"] 0 f fd uQ b tE (fun c A a s H F E d=>by
  have nd:=tE.nd
  exact (Fl.aO (Fl.bD (aP dJ))))
theorem qW:FnScope ["self"] ["self"] (aN (aS (top 13) 2)):=by constructor<;>first|rfl|decide +kernel
theorem yS(T:Txt w K mg){f:Az}{fd:FuncData}(b:Fun K "stops" "LetBy.stops" (aS (top 13) 2) f fd):FnOk P w K mg base (CXe P w) 1 f fd ["self"] (spF (gOf P w K mg base TH) K mg 1 j3):=
 @k8 P w K mg base TH "stops" "LetBy.stops" (aS (top 13) 2) ["self"] ["self"] 0 f fd sZ b qW (fun c A a s H F E d=>by
  have nd:=qW.nd
  exact (Fl.aO (Fl.bD (aP jD))))
theorem qX:FnScope ["self"] ["self"] (aN (aS (top 13) 3)):=by constructor<;>first|rfl|decide +kernel
theorem yT(T:Txt w K mg){f:Az}{fd:FuncData}(c:Fun K "paper" "LetBy.paper" (aS (top 13) 3) f fd)(a:jA K mg ["LetBy","ShutOut"] "borders"):FnOk P w K mg base (CXe P w) 1 f fd ["self"] (spF (gOf P w K mg base TH) K mg 1 hV):=
 @k8 P w K mg base TH "paper" "LetBy.paper" (aS (top 13) 3) ["self"] ["self"] 0 f fd tD c qX (fun d A b s H F E e=>by
  have nd:=qX.nd
  exact (Fl.aO (Fl.bD (aP (b9 (aF dJ (aF (j0 rfl rfl a (jW (pv 0) rfl)) aW)))))))
theorem pU:FnScope ["self"] ["self"] (aN (aS (top 14) 1)):=by constructor<;>first|rfl|decide +kernel
theorem xG(T:Txt w K mg){f:Az}{fd:FuncData}(b:Fun K "says" "ShutOut.says" (aS (top 14) 1) f fd):FnOk P w K mg base (CXe P w) 1 f fd ["self"] (spF (gOf P w K mg base TH) K mg 1 jJ):=
 @k8 P w K mg base TH "says" "ShutOut.says" (aS (top 14) 1) ["self"] ["self"] 0 f fd qU b pU (fun c A a s H F E d=>by
  have nd:=pU.nd
  exact (Fl.aO (Fl.bD (aP dJ))))
theorem pA:FnScope ["self"] ["self"] (aN (aS (top 14) 2)):=by constructor<;>first|rfl|decide +kernel
theorem v9(T:Txt w K mg){f:Az}{fd:FuncData}(b:Fun K "stops" "ShutOut.stops" (aS (top 14) 2) f fd):FnOk P w K mg base (CXe P w) 1 f fd ["self"] (spF (gOf P w K mg base TH) K mg 1 iZ):=
 @k8 P w K mg base TH "stops" "ShutOut.stops" (aS (top 14) 2) ["self"] ["self"] 0 f fd pP b pA (fun c A a s H F E d=>by
  have nd:=pA.nd
  exact (Fl.aO (Fl.bD (aP jD))))
end
section
variable{P:P9}{w:W9}{K:Frag}{mg:Str->O6 V9}{base:Hz}{TH:Hp}
theorem pB:FnScope ["self"] ["self"] (aN (aS (top 14) 3)):=by constructor<;>first|rfl|decide +kernel
theorem wA(T:Txt w K mg){f:Az}{fd:FuncData}(c:Fun K "paper" "ShutOut.paper" (aS (top 14) 3) f fd)(a:jA K mg ["LetBy","ShutOut"] "borders"):FnOk P w K mg base (CXe P w) 1 f fd ["self"] (spF (gOf P w K mg base TH) K mg 1 f7):=
 @k8 P w K mg base TH "paper" "ShutOut.paper" (aS (top 14) 3) ["self"] ["self"] 0 f fd pQ c pB (fun d A b s H F E e=>by
  have nd:=pB.nd
  exact (Fl.aO (Fl.bD (aP (b9 (aF dJ (aF (j0 rfl rfl a (jW (pv 0) rfl)) aW)))))))
theorem pV:FnScope ["self"] ["self"] (aN (aS (top 15) 1)):=by constructor<;>first|rfl|decide +kernel
theorem xH(T:Txt w K mg){f:Az}{fd:FuncData}(b:Fun K "says" "ForEver.says" (aS (top 15) 1) f fd):FnOk P w K mg base (CXe P w) 1 f fd ["self"] (spF (gOf P w K mg base TH) K mg 1 jK):=
 @k8 P w K mg base TH "says" "ForEver.says" (aS (top 15) 1) ["self"] ["self"] 0 f fd qV b pV (fun c A a s H F E d=>by
  have nd:=pV.nd
  exact (Fl.aO (Fl.bD (aP dJ))))
theorem pC:FnScope ["self"] ["self"] (aN (aS (top 15) 2)):=by constructor<;>first|rfl|decide +kernel
theorem wB(T:Txt w K mg){f:Az}{fd:FuncData}(b:Fun K "stops" "ForEver.stops" (aS (top 15) 2) f fd):FnOk P w K mg base (CXe P w) 1 f fd ["self"] (spF (gOf P w K mg base TH) K mg 1 i5):=
 @k8 P w K mg base TH "stops" "ForEver.stops" (aS (top 15) 2) ["self"] ["self"] 0 f fd pR b pC (fun c A a s H F E d=>by
  have nd:=pC.nd
  exact (Fl.aO (Fl.bD (aP jD))))
theorem pD:FnScope ["self"] ["self"] (aN (aS (top 15) 3)):=by constructor<;>first|rfl|decide +kernel
theorem wC(T:Txt w K mg){f:Az}{fd:FuncData}(h:Fun K "paper" "ForEver.paper" (aS (top 15) 3) f fd)(a:jA K mg ["ForEver"] "again")(c:jA K mg ["ForEver"] "first")(d:jA K mg ["LetBy","ShutOut","ForEver"] "room")(b:jA K mg ["LetBy","ShutOut","ForEver"] "place"):FnOk P w K mg base (CXe P w) 1 f fd ["self"] (spF (gOf P w K mg base TH) K mg 1 f8):=
 @k8 P w K mg base TH "paper" "ForEver.paper" (aS (top 15) 3) ["self"] ["self"] 0 f fd pS h pD (fun g A e s H F E i=>by
  have nd:=pD.nd
  exact (Fl.aO (Fl.bD (aP (b9 (@aF _ _ _ _ _ _ _ dJ (aF (j0 rfl rfl b (jW (pv 0) rfl)) (aF (j0 rfl rfl d (jW (pv 0) rfl)) (aF (j0 rfl rfl c (jW (pv 0) rfl)) (aF (j0 rfl rfl a (jW (pv 0) rfl)) aW)))) jU))))))
theorem wN:FnScope ["machine"] ["machine"] (aN (top 6)):=by constructor<;>first|rfl|decide +kernel
theorem aFY(T:Txt w K mg)(D:DefAt K mg "signs_of" (top 6) ["machine"]):aY P w K mg base TH 1 "signs_of" ["machine"] eP:=
 @dB P w K mg base TH "signs_of" (top 6) ["machine"] ["machine"] 0 sD D wN (fun f b A a s H F E c=>by
  have nd:=wN.nd
  exact (Fl.aO (Fl.bD (aP (fR rfl (dG dQ rfl T.b_len BR (aK (aA (aT (aU rfl) aI (aA (aT (aU rfl) aI (aC (pv 0)) (aA aE))) (aA aE))) aR)))))))
end
section
variable{P:P9}{w:W9}{K:Frag}{mg:Str->O6 V9}{base:Hz}{TH:Hp}
theorem wO:FnScope ["machine","number"] ["machine","number"] (aN (top 7)):=by constructor<;>first|rfl|decide +kernel
theorem aFZ(T:Txt w K mg)(D:DefAt K mg "cells_of" (top 7) ["machine","number"]):aY P w K mg base TH 1 "cells_of" ["machine","number"] gN:=
 @dB P w K mg base TH "cells_of" (top 7) ["machine","number"] ["machine","number"] 0 sE D wO (fun f b A a s H F E h=>by
  have nd:=wO.nd
  exact (Fl.aO (Fl.bD (aP (dD (g8 (gZ (N:=["row","number"]) (js:=[none,some 1]) rfl (.own (.cap rfl (.inl rfl) (.inl rfl) .nil)) (by rfl) (wX rfl (aC (pv 0)))) (by decide) (by decide) (is:=[0]) (fun c C g e d=>⟨_,(cG (i:=0) (show (["row","number"]:List Str).Nodup by decide +kernel) rfl (Or.inl rfl)),(cL 0),Fl.eX,(aT (aU rfl) aI (aA (aT (aU rfl) aI (aC (pv 0)) (aA aE))) (aC (pv 1)))⟩)))))))
theorem tF:FnScope ["signs","strip","known","at","sign"] ["signs","strip"] (aN (top 8)):=by constructor<;>first|rfl|decide +kernel
theorem aCD(T:Txt w K mg)(D:DefAt K mg "checked_by" (top 8) ["signs","strip"]):aY P w K mg base TH 1 "checked_by" ["signs","strip"] jL:=
 @dB P w K mg base TH "checked_by" (top 8) ["signs","strip","known","at","sign"] ["signs","strip"] 0 m4 D tF (fun f c A a s H F E b=>by
  have nd:=tF.nd
  exact (Fl.aG (Fl.aH (L2.aH (i:=2) nd rfl (Or.inl rfl) (aP (aB1 (aA (gK (iS (v:=.str "abc") rfl T.g_SIGNS.choose_spec ⟨_,rfl⟩) fun _=>.str _)) pJ (pK (aC (pv 0)))))))
   (Fl.aG (Fl.eO (yF rfl (kM (cL 3) (kM (cL 4) vH)) rfl) (L2.eO (gA ⟨rfl,rfl⟩) rfl (aP4 (aMA rfl T.b_enumerate (aK (bX (pv 1)) aR))) (xR rfl (kH (cG (i:=3) nd rfl (Or.inl rfl)) (kH (cG (i:=4) nd rfl (Or.inl rfl)) uY)))
   (Fl.aO (Fl.dU (Fl.cI (aPG rfl b.units) aKA (aC (pv 4)) (aC (pv 2)) (by with_unfolding_all rfl)) (Fl.aO Fl.aR2) Fl.cW))))
   (Fl.aO (Fl.bD (aJ (pv 1)))))))
theorem yU:FnScope ["machine","strip"] ["machine","strip"] (aN (top 9)):=by constructor<;>first|rfl|decide +kernel
theorem aI2(T:Txt w K mg)(D:DefAt K mg "checked" (top 9) ["machine","strip"])(a:aY P w K mg base TH 1 "checked_by" ["signs","strip"] jL)(b:aY P w K mg base TH 1 "signs_of" ["machine"] eP):aY P w K mg base TH 2 "checked" ["machine","strip"] eW:=
 @dB P w K mg base TH "checked" (top 9) ["machine","strip"] ["machine","strip"] 1 p9 D yU (fun f e A c s H F E d=>by
  have nd:=yU.nd
  exact (Fl.aO (Fl.bD (bN rfl rfl rfl (bM a (d.mono (by decide)) rfl (bP fun _ _ _ h=>h) (aD (bN rfl rfl rfl (bM b (d.mono (by decide)) rfl (bP fun _ _ _ h=>h) (aD (aJ (pv 0)) a9))) (aD (aJ (pv 1)) a9)))))))
theorem yV:FnScope ["machine","strip","stand","place","row"] ["machine","strip","stand"] (aN (top 16)):=by constructor<;>first|rfl|decide +kernel
theorem aI3(T:Txt w K mg)(D:DefAt K mg "cell_at" (top 16) ["machine","strip","stand"]):aY P w K mg base TH 1 "cell_at" ["machine","strip","stand"] iW:=
 @dB P w K mg base TH "cell_at" (top 16) ["machine","strip","stand","place","row"] ["machine","strip","stand"] 0 uF D yV (fun f c A a s H F E b=>by
  have nd:=yV.nd
  exact (Fl.aG (Fl.aH (L2.aH (i:=3) nd rfl (Or.inl rfl) (aP (aT (aU rfl) aI (aC (pv 2)) (aA aE)))))
   (Fl.aG (Fl.aH (L2.aH (i:=4) nd rfl (Or.inl rfl) (aP (aT (aU rfl) aI (aC (pv 0)) (aA (aT (aU rfl) aI (aC (pv 2)) (aA aE)))))))
   (Fl.aG (Fl.dU (Fl.cI (dA rfl b.units) b7 (aC (pv 3)) (aA aE) (bK _)) (Fl.aO (Fl.bD (aP (b9 (aF (aT (aU rfl) aI (aC (pv 4)) (aA aE)) (aF aE aW)))))) Fl.cW)
   (Fl.aG (Fl.dU (Fl.cI (dA rfl b.units) b7 (aC (pv 3)) (aA (aQ (cD rfl) bO (aA (fR rfl (dG dQ rfl T.b_len BR (aK (aC (pv 1)) aR)))) (aA aE))) (bK _)) (Fl.aO (Fl.bD (aP (b9 (aF (aT (aU rfl) aI (aC (pv 4)) (aA aE)) (aF (iR fG dO (aA aE)) aW)))))) Fl.cW)
   (Fl.aO (Fl.bD (aP (aT (aU rfl) aI (aA (aT (aU rfl) aI (aC (pv 4)) (aA aE))) (aA (rY (iV DJ DY DZ rG (aA (gK (iS (v:=.str "abc") rfl T.g_SIGNS.choose_spec ⟨_,rfl⟩) fun _=>.str _)) (aK (aA (aT (aU rfl) aI (aC (pv 1)) (aA (aQ jH gV (aC (pv 3)) (aA aE))))) aR)) (by intro ρ x h;cases h;exact ⟨_,rfl⟩))))))))))))
theorem aG7:FnScope ["machine","strip","stand","stands","been","cell"] ["machine","strip"] (aN (top 17)):=by constructor<;>first|rfl|decide +kernel
theorem aP5(T:Txt w K mg)(D:DefAt K mg "path" (top 17) ["machine","strip"])(a:aY P w K mg base TH 2 "checked" ["machine","strip"] eW)(b:aY P w K mg base TH 1 "cell_at" ["machine","strip","stand"] iW):aY P w K mg base TH 3 "path" ["machine","strip"] jB:=
 @dB P w K mg base TH "path" (top 17) ["machine","strip","stand","stands","been","cell"] ["machine","strip"] 2 xE D aG7 (fun f e A d s H F E c=>by
  have nd:=aG7.nd
  exact (Fl.aG (Fl.dP (L2.dP (bN rfl rfl rfl (bM a (c.mono (by decide)) rfl (bP fun _ _ _ h=>h) (aD (aJ (pv 0)) (aD (aJ (pv 1)) a9))))))
   (Fl.aG (Fl.aH (L2.aH (i:=2) nd rfl (Or.inl rfl) (aP (gK (iS (v:=.ref T.g_BEGIN.choose) rfl T.g_BEGIN.choose_spec.1 rfl) fun F=>wZ T.g_BEGIN.choose_spec.2 (by exact fun F=>.cons (.int _) (.cons (.int _) (.nil))) F))))
   (Fl.aG (g7 (L2.aH (i:=3) nd rfl (Or.inl rfl) (dN (aF (bX (pv 2)) aW))))
   (Fl.aG (vJ rfl (L2.aH (i:=4) nd rfl (Or.inl rfl) vI))
   (Fl.aG (Fl.jP (L2.jP (gA ⟨rfl,rfl⟩) (yH rfl rfl (qD (aEG c.units) (bX (pv 2)) (pv 4) (by with_unfolding_all rfl)))
   (Fl.aG (Fl.vK rfl rfl (nQ jD (qC (pv 4) (bX (pv 2)) (sB c.units))))
   (Fl.aG (Fl.aH (L2.aH (i:=5) nd rfl (Or.inl rfl) (bN rfl rfl rfl (bM b (c.mono (by decide)) rfl (bP fun _ _ _ h=>h) (aD (aJ (pv 0)) (aD (aJ (pv 1)) (aD (aJ (pv 2)) a9)))))))
   (Fl.aG (Fl.dU (Fl.cI (aKB rfl c.units) aD6 (aA (aT (aU rfl) aI (aC (pv 5)) (aA aE))) (aA (gK (iS (v:=.ref T.g_STOPS.choose) rfl T.g_STOPS.choose_spec.1 rfl) fun F=>wZ T.g_STOPS.choose_spec.2 (by exact fun F=>.cons (.str _) (.cons (.str _) (.nil))) F)) (by with_unfolding_all rfl)) (Fl.aO (aCW 3 (Fl.bD (aJ (pv 3))))) Fl.cW)
   (Fl.aG (Fl.aH (L2.aH (i:=2) nd rfl (Or.inl rfl) (aP (b9 (aF (aQ (cD rfl) bO (aA (aT (aU rfl) aI (aC (pv 2)) (aA aE))) (aA (aT (aU rfl) aI (aC (pv 5)) (aA aE)))) (aF (aT (aU rfl) aI (aC (pv 5)) (aA aE)) aW))))))
   (Fl.aO (lG rfl (L2.dP (iV BS BW BX gQ (pv 3) (aK (bX (pv 2)) aR)))))))))))
   (Fl.aO (aCW 3 (Fl.bD (aJ (pv 3)))))))))))
end
section
variable{P:P9}{w:W9}{K:Frag}{mg:Str->O6 V9}{base:Hz}{TH:Hp}
theorem tG:FnScope ["stands","strip","crossings","here","there"] ["stands","strip"] (aN (top 18)):=by constructor<;>first|rfl|decide +kernel
theorem aCE(T:Txt w K mg)(D:DefAt K mg "borders_of" (top 18) ["stands","strip"]):aY P w K mg base TH 1 "borders_of" ["stands","strip"] gX:=
 @dB P w K mg base TH "borders_of" (top 18) ["stands","strip","crossings","here","there"] ["stands","strip"] 0 o7 D tG (fun f d A a s H F E h=>by
  have nd:=tG.nd
  exact (aM8 (is:=[3,4]) (L2.rF (i:=2) nd rfl (Or.inl rfl) (by rfl) (N:=["border"]) (js:=[none]) rfl (.own .nil) (by rfl) (nH (iH (fP rfl T.b_range (aK (aA (aQ (cD rfl) bO (aA (fR rfl (dG dQ rfl T.b_len BR (aK (aC (pv 1)) aR)))) (aA aE))) aR))))) rfl (fun b C g e c=>⟨cG (i:=0) (show (["border"]:List Str).Nodup by decide +kernel) rfl (Or.inl rfl),aJL aR⟩) (yF rfl (kM (cL 3) (kM (cL 4) vH)) rfl) (by decide)
   (L2.eO (gA ⟨rfl,rfl⟩) rfl (aPO rfl (L2.aR4 rfl T.b_zip (aK (bX (pv 0)) (aK (mV rfl (aC (pv 0)) (pK (aA aE)) pJ) aR)))) (xR rfl (kH (cG (i:=3) nd rfl (Or.inl rfl)) (kH (cG (i:=4) nd rfl (Or.inl rfl)) uY))) (L2.aO (L2.dP (iV BS BW BX gQ (aNV aRI (pv 2) (aA (aKI (G:=j9) (dG (aA9 rfl) rfl T.b_min G2 (aK (aA (aT (aU rfl) aI (aC (pv 3)) (aA aE))) (aK (aA (aT (aU rfl) aI (aC (pv 4)) (aA aE))) aR))))) (fun _ _=>rfl)) (aK (aT (aU rfl) aI (aC (pv 4)) (aA aE)) aR)))))
   (Fl.aO (Fl.bD (aP (eD rfl (bV cC rfl T.b_tuple BB (aK (aA (dD (g8 (gZ (N:=["rooms"]) (js:=[none]) rfl (.own .nil) (by rfl) (wX rfl (aC (pv 2)))) (by decide) (by decide) (is:=[0]) (fun b C g e c=>⟨_,(cG (i:=0) (show (["rooms"]:List Str).Nodup by decide +kernel) rfl (Or.inl rfl)),(cL 0),Fl.eX,(eD rfl (bV cC rfl T.b_tuple BB (aK (aC (pv 0)) aR)))⟩)))) aR))))))))
theorem aG8:FnScope ["machine","strip","stands","last","word"] ["machine","strip"] (aN (top 19)):=by constructor<;>first|rfl|decide +kernel
theorem aP6(T:Txt w K mg)(D:DefAt K mg "walk" (top 19) ["machine","strip"])(j:aY P w K mg base TH 3 "path" ["machine","strip"] jB)(d:aY P w K mg base TH 1 "cell_at" ["machine","strip","stand"] iW)(a:aY P w K mg base TH 1 "borders_of" ["stands","strip"] gX){Co_LetBy:Az}(e:MkAt P w K mg base 2 "LetBy" ["place","room","borders"] Co_LetBy){Co_ShutOut:Az}(b:MkAt P w K mg base 2 "ShutOut" ["place","room","borders"] Co_ShutOut){Co_ForEver:Az}(c:MkAt P w K mg base 2 "ForEver" ["place","room","first","again"] Co_ForEver):aY P w K mg base TH 4 "walk" ["machine","strip"] kW:=
 @dB P w K mg base TH "walk" (top 19) ["machine","strip","stands","last","word"] ["machine","strip"] 3 xF D aG8 (fun f l A k s H F E g=>by
  have nd:=aG8.nd
  exact (Fl.aG (Fl.aH (L2.aH (i:=2) nd rfl (Or.inl rfl) (bN rfl rfl rfl (bM j (g.mono (by decide)) rfl (bP fun _ _ _ h=>h) (aD (aJ (pv 0)) (aD (aJ (pv 1)) a9))))))
   (Fl.aG (Fl.aH (L2.aH (i:=3) nd rfl (Or.inl rfl) (aP (aT (aU rfl) aI (aC (pv 2)) (aA (iR fG dO (aA aE)))))))
   (Fl.aG (Fl.aH (L2.aH (i:=4) nd rfl (Or.inl rfl) (aP (aT (aU rfl) aI (aA (dF (bN rfl rfl rfl (bM d (g.mono (by decide)) rfl (bP fun _ _ _ h=>h) (aD (aJ (pv 0)) (aD (aJ (pv 1)) (aD (aJ (pv 3)) a9))))))) (aA aE)))))
   (Fl.aG (Fl.dU (Fl.cI (dA rfl g.units) b7 (aC (pv 4)) (aA dJ) (bK _)) (Fl.aO (Fl.bD (aE0 rfl e (g.mono (by decide)) rfl (aF (aT (aU rfl) aI (aC (pv 3)) (aA aE)) (aF (aT (aU rfl) aI (aC (pv 3)) (aA aE)) (aF (dF (bN rfl rfl rfl (bM a (g.mono (by decide)) rfl (bP fun _ _ _ h=>h) (aD (aJ (pv 2)) (aD (aJ (pv 1)) a9))))) aW)))))) Fl.cW)
   (Fl.aG (Fl.dU (Fl.cI (dA rfl g.units) b7 (aC (pv 4)) (aA dJ) (bK _)) (Fl.aO (Fl.bD (aE0 rfl b (g.mono (by decide)) rfl (aF (aT (aU rfl) aI (aC (pv 3)) (aA aE)) (aF (aT (aU rfl) aI (aC (pv 3)) (aA aE)) (aF (dF (bN rfl rfl rfl (bM a (g.mono (by decide)) rfl (bP fun _ _ _ h=>h) (aD (aJ (pv 2)) (aD (aJ (pv 1)) a9))))) aW)))))) Fl.cW)
   (Fl.aO (Fl.bD (aE0 rfl c (g.mono (by decide)) rfl (aF (aT (aU rfl) aI (aC (pv 3)) (aA aE)) (aF (aT (aU rfl) aI (aC (pv 3)) (aA aE)) (aF (aK2 rfl (iV BS GL PySem.F.type_list_index (aK1 g.units) (aC (pv 2)) (aK (aC (pv 3)) aR))) (aF (aQ jH gV (aA (fR rfl (dG dQ rfl T.b_len BR (aK (aC (pv 2)) aR)))) (aA aE)) aW)))))))))))))
theorem yW:FnScope ["part"] ["part"] (aN (top 21)):=by constructor<;>first|rfl|decide +kernel
theorem aI4(T:Txt w K mg)(D:DefAt K mg "is_word" (top 21) ["part"]):aY P w K mg base TH 1 "is_word" ["part"] kO:=
 @dB P w K mg base TH "is_word" (top 21) ["part"] ["part"] 0 pN D yW (fun f b A a s H F E c=>by
  have nd:=yW.nd
  exact (Fl.aO (Fl.bD (aP (aRX (dG (aMS rfl (aPH _)) rfl T.b_isinstance PyProof.Rows.boot_isinstance (aK (aC (pv 0)) (aK (aOO (v:=.ty "str") rfl T.b_str PyProof.Rows.boot_str rfl) aR))))))))
theorem pE:FnScope ["machine","lefts"] ["machine"] (aN (top 22)):=by constructor<;>first|rfl|decide +kernel
theorem xI(T:Txt w K mg)(D:DefAt K mg "without_signs" (top 22) ["machine"]):aY P w K mg base TH 1 "without_signs" ["machine"] g9:=
 @dB P w K mg base TH "without_signs" (top 22) ["machine","lefts"] ["machine"] 0 mC D pE (fun f b A a s H F E h=>by
  have nd:=pE.nd
  exact (Fl.aG (Fl.aH (L2.aH (i:=1) nd rfl (Or.inl rfl) (aP (eD rfl (bV cC rfl T.b_tuple BB (aK (aA (dD (g8 (gZ (N:=["row"]) (js:=[none]) rfl (.own .nil) (by rfl) (wX rfl (aC (pv 0)))) (by decide) (by decide) (is:=[0]) (fun c C g e d=>⟨_,(cG (i:=0) (show (["row"]:List Str).Nodup by decide +kernel) rfl (Or.inl rfl)),(cL 0),Fl.eX,(aT (aU rfl) aI (aC (pv 0)) (aA aE))⟩)))) aR))))))
   (Fl.aO (Fl.bD (aP (b9 (aF (aT (aU rfl) aI (aC (pv 1)) (aA aE)) (aF (bX (pv 1)) aW))))))))
theorem yX:FnScope ["backs","cells","room","been","cell"] ["backs","cells","room"] (aN (top 23)):=by constructor<;>first|rfl|decide +kernel
theorem aI5(T:Txt w K mg)(D:DefAt K mg "gone_on" (top 23) ["backs","cells","room"])(a:aY P w K mg base TH 1 "is_word" ["part"] kO):aY P w K mg base TH 2 "gone_on" ["backs","cells","room"] kP:=
 @dB P w K mg base TH "gone_on" (top 23) ["backs","cells","room","been","cell"] ["backs","cells","room"] 1 uE D yX (fun f d A c s H F E b=>by
  have nd:=yX.nd
  exact (Fl.aG (vJ rfl (L2.aH (i:=3) nd rfl (Or.inl rfl) vI))
   (Fl.aG (Fl.jP (L2.jP (gA ⟨rfl,rfl⟩) (Fl.tP (Fl.tN (dF (bN rfl rfl rfl (bM a (b.mono (by decide)) rfl (bP fun _ _ _ h=>h) (aD (aJ (pv 2)) a9))))))
   (Fl.aG (Fl.dU (yH rfl rfl (qD (aGS b.units) (bX (pv 2)) (pv 3) (by with_unfolding_all rfl))) (Fl.aO (Fl.bD (aP dJ))) Fl.cW)
   (Fl.aG (Fl.vK rfl rfl (nQ jD (qC (pv 3) (bX (pv 2)) (sB b.units))))
   (Fl.aG (Fl.aH (L2.aH (i:=4) nd rfl (Or.inl rfl) (aP (aT (aU rfl) aI (aC (pv 1)) (aC (pv 2))))))
   (Fl.aG (Fl.dU (Fl.cI (dA rfl b.units) b7 (aA (aT (aU rfl) aI (aC (pv 4)) (aA aE))) (aA aE) (bK _)) (Fl.aO (Fl.bD (aP (aT (aU rfl) aI (aC (pv 4)) (aA aE))))) Fl.cW)
   (Fl.aO (Fl.aH (L2.aH (i:=2) nd rfl (Or.inl rfl) (aP (aT (aU rfl) aI (aC (pv 0)) (aA (aT (aU rfl) aI (aC (pv 4)) (aA aE))))))))))))))
   (Fl.aO (Fl.bD (aJ (pv 2)))))))
end
section
variable{P:P9}{w:W9}{K:Frag}{mg:Str->O6 V9}{base:Hz}{TH:Hp}
theorem aB2:FnScope ["begun","cells","first","backs"] ["begun","cells"] (aN (top 24)):=by constructor<;>first|rfl|decide +kernel
theorem aK6(T:Txt w K mg)(D:DefAt K mg "longer" (top 24) ["begun","cells"])(a:aY P w K mg base TH 2 "gone_on" ["backs","cells","room"] kP):aY P w K mg base TH 3 "longer" ["begun","cells"] lS:=
 @dB P w K mg base TH "longer" (top 24) ["begun","cells","first","backs"] ["begun","cells"] 2 w8 D aB2 (fun f d A b s H F E c=>by
  have nd:=aB2.nd
  exact (Fl.aG (Fl.aH (L2.aH (i:=2) nd rfl (Or.inl rfl) (bN rfl rfl rfl (bM a (c.mono (by decide)) rfl (bP fun _ _ _ h=>h) (aD (aP (aT (aU rfl) aI (aC (pv 0)) (aA aE))) (aD (aJ (pv 1)) (aD (aP (aT (aU rfl) aI (aC (pv 0)) (aA aE))) a9)))))))
   (Fl.aG (Fl.aH (L2.aH (i:=3) nd rfl (Or.inl rfl) (aP (eD rfl (bV cC rfl T.b_tuple BB (aK (aA (dD (g8 (gZ (N:=["room","begun","cells"]) (js:=[none,some 0,some 1]) rfl (.own (.cap rfl (.inl rfl) (.inl rfl) (.cap rfl (.inl rfl) (.inl rfl) .nil))) (by rfl) (nH (iH (fP rfl T.b_range (aK (aA (fR rfl (dG dQ rfl T.b_len BR (aK (aC (pv 1)) aR)))) aR))))) (by decide) (by decide) (is:=[0]) (fun e C k j g=>⟨_,(cG (i:=0) (show (["room","begun","cells"]:List Str).Nodup by decide +kernel) rfl (Or.inl rfl)),(cL 0),Fl.eX,(dF (bN rfl rfl rfl (bM a (c.mono (by decide)) rfl vB (aD (aP (aT (aU rfl) aI (aC (pv 1)) (aA aE))) (aD (aJ (pv 2)) (aD (aJ (pv 0)) a9))))))⟩)))) aR))))))
   (Fl.aO (Fl.bD (aP (b9 (aF (bX (pv 2)) (aF (bX (pv 3)) aW)))))))))
theorem uS:FnScope ["machine","strip","columns","begun","sign"] ["machine","strip"] (aN (top 25)):=by constructor<;>first|rfl|decide +kernel
theorem aE5(T:Txt w K mg)(D:DefAt K mg "beginning" (top 25) ["machine","strip"])(d:aY P w K mg base TH 2 "checked" ["machine","strip"] eW)(c:aY P w K mg base TH 1 "signs_of" ["machine"] eP)(b:aY P w K mg base TH 1 "cells_of" ["machine","number"] gN)(a:aY P w K mg base TH 1 "without_signs" ["machine"] g9)(e:aY P w K mg base TH 3 "longer" ["begun","cells"] lS):aY P w K mg base TH 4 "beginning" ["machine","strip"] j4:=
 @dB P w K mg base TH "beginning" (top 25) ["machine","strip","columns","begun","sign"] ["machine","strip"] 3 nX D uS (fun f k A j s H F E g=>by
  have nd:=uS.nd
  exact (Fl.aG (Fl.dP (L2.dP (bN rfl rfl rfl (bM d (g.mono (by decide)) rfl (bP fun _ _ _ h=>h) (aD (aJ (pv 0)) (aD (aJ (pv 1)) a9))))))
   (Fl.aG (aGO (L2.rF (i:=2) nd rfl (Or.inl rfl) (by rfl) (N:=["number","machine"]) (js:=[none,some 0]) rfl (.own (.cap rfl (.inl rfl) (.inl rfl) .nil)) (by rfl) (nH (iH (fP rfl T.b_range (aK (aA (dF (bN rfl rfl rfl (bM c (g.mono (by decide)) rfl (bP fun _ _ _ h=>h) (aD (aJ (pv 0)) a9))))) aR))))) (by decide) (by decide) (is:=[0]) (fun l C o n m=>⟨_,(cG (i:=0) (show (["number","machine"]:List Str).Nodup by decide +kernel) rfl (Or.inl rfl)),(cL 0),Fl.eX,(dF (bN rfl rfl rfl (bM b (g.mono (by decide)) rfl vB (aD (aJ (pv 1)) (aD (aJ (pv 0)) a9)))))⟩))
   (Fl.aG (Fl.aH (L2.aH (i:=3) nd rfl (Or.inl rfl) (bN rfl rfl rfl (bM a (g.mono (by decide)) rfl (bP fun _ _ _ h=>h) (aD (aJ (pv 0)) a9)))))
   (Fl.aG (Fl.eO (cL 4) (L2.eO (gA ⟨rfl,rfl⟩) rfl (aRW rfl (bX (pv 1))) (cG (i:=4) nd rfl (Or.inl rfl))
   (Fl.aO (Fl.aH (L2.aH (i:=3) nd rfl (Or.inl rfl) (bN rfl rfl rfl (bM e (g.mono (by decide)) rfl (bP fun _ _ _ h=>h) (aD (aJ (pv 3)) (aD (aP (aT (aU rfl) aI (aC (pv 2)) (aA (rY (iV DJ DY DZ rG (aA (gK (iS (v:=.str "abc") rfl T.g_SIGNS.choose_spec ⟨_,rfl⟩) fun _=>.str _)) (aK (aC (pv 4)) aR)) (by intro ρ x h;cases h;exact ⟨_,rfl⟩))))) a9)))))))))
   (Fl.aO (Fl.bD (aJ (pv 3)))))))))
theorem wP:FnScope ["stands","ending","number"] ["stands","ending","number"] (aN (top 27)):=by constructor<;>first|rfl|decide +kernel
theorem aF0(T:Txt w K mg)(D:DefAt K mg "stand_at" (top 27) ["stands","ending","number"])(a:jA K mg ["ForEver"] "first")(b:jA K mg ["ForEver"] "again"):aY P w K mg base TH 1 "stand_at" ["stands","ending","number"] i6:=
 @dB P w K mg base TH "stand_at" (top 27) ["stands","ending","number"] ["stands","ending","number"] 0 sP D wP (fun f d A c s H F E e=>by
  have nd:=wP.nd
  exact (Fl.aG (Fl.dU (Fl.cI yD rR (aC (pv 2)) (aA (fR rfl (dG dQ rfl T.b_len BR (aK (aC (pv 0)) aR)))) (bK _)) (Fl.aO (Fl.bD (aP (aT (aU rfl) aI (aC (pv 0)) (aC (pv 2)))))) Fl.cW)
   (Fl.aO (Fl.bD (aP (aT (aU rfl) aI (aC (pv 0)) (aA (aQ (cD rfl) bO (aA (j0 rfl rfl a (jW (pv 1) rfl))) (aA (aQ cK bS (aA (aQ jH gV (aC (pv 2)) (aA (j0 rfl rfl a (jW (pv 1) rfl))))) (aA (aQ jH gV (aA (j0 rfl rfl b (jW (pv 1) rfl))) (aA (j0 rfl rfl a (jW (pv 1) rfl)))))))))))))))
theorem tH:FnScope ["machine","strip","ending","paper","first","again","stands","stand"] ["machine","strip","ending","paper"] (aN (top 28)):=by constructor<;>first|rfl|decide +kernel
theorem aCF(T:Txt w K mg)(D:DefAt K mg "goes_round" (top 28) ["machine","strip","ending","paper"])(b:aY P w K mg base TH 3 "path" ["machine","strip"] jB)(a:aY P w K mg base TH 1 "stand_at" ["stands","ending","number"] i6):aY P w K mg base TH 4 "goes_round" ["machine","strip","ending","paper"] jM:=
 @dB P w K mg base TH "goes_round" (top 28) ["machine","strip","ending","paper","first","again","stands","stand"] ["machine","strip","ending","paper"] 3 m5 D tH (fun f e A d s H F E c=>by
  have nd:=tH.nd
  exact (Fl.aG (Fl.aH (L2.aH (i:=4) nd rfl (Or.inl rfl) (aP (aT (aU rfl) aI (aC (pv 3)) (aA aE)))))
   (Fl.aG (Fl.aH (L2.aH (i:=5) nd rfl (Or.inl rfl) (aP (aT (aU rfl) aI (aC (pv 3)) (aA aE)))))
   (Fl.aG (Fl.dU (Fl.tP (Fl.uP aJ9 aD5 yD rR aJ9 aD5 (aA aE) (aC (pv 4)) (aC (pv 5)) (aA (aQ iT gD (aA (fR rfl (dG dQ rfl T.b_len BR (aK (aC (pv 0)) aR)))) (aA (aQ (cD rfl) bO (aA (fR rfl (dG dQ rfl T.b_len BR (aK (aC (pv 1)) aR)))) (aA aE))))))) (Fl.aO (Fl.bD (aP jD))) Fl.cW)
   (Fl.aG (Fl.aH (L2.aH (i:=6) nd rfl (Or.inl rfl) (bN rfl rfl rfl (bM b (c.mono (by decide)) rfl (bP fun _ _ _ h=>h) (aD (aJ (pv 0)) (aD (aJ (pv 1)) a9))))))
   (Fl.aG (Fl.aH (L2.aH (i:=7) nd rfl (Or.inl rfl) (aP (b9 (aF (aT (aU rfl) aI (aC (pv 3)) (aA aE)) (aF (aT (aU rfl) aI (aC (pv 3)) (aA aE)) aW))))))
   (Fl.aO (Fl.bD (aP (aD9 (fJ (dA rfl c.units) b7 (aA (dF (bN rfl rfl rfl (bM a (c.mono (by decide)) rfl (bP fun _ _ _ h=>h) (aD (aJ (pv 6)) (aD (mX (pv 2)) (aD (aJ (pv 4)) a9))))))) (aC (pv 7)) (bK _)) (aD8 (fJ (dA rfl c.units) b7 (aA (dF (bN rfl rfl rfl (bM a (c.mono (by decide)) rfl (bP fun _ _ _ h=>h) (aD (aJ (pv 6)) (aD (mX (pv 2)) (aD (aJ (pv 5)) a9))))))) (aC (pv 7)) (bK _)))))))))))))
theorem aE6:FnScope ["machine","strip","paper","ending"] ["machine","strip","paper"] (aN (top 29)):=by constructor<;>first|rfl|decide +kernel
theorem aNF(T:Txt w K mg)(D:DefAt K mg "holds" (top 29) ["machine","strip","paper"])(b:aY P w K mg base TH 4 "walk" ["machine","strip"] kW)(a:aY P w K mg base TH 4 "goes_round" ["machine","strip","ending","paper"] jM)(mt_stops:∀ p∈[(("LetBy":Str),j3),(("ShutOut":Str),iZ),(("ForEver":Str),i5)],sN P w K mg base TH 1 p.1 "stops" p.2)(mt_paper:∀ p∈[(("LetBy":Str),hV),(("ShutOut":Str),f7),(("ForEver":Str),f8)],sN P w K mg base TH 1 p.1 "paper" p.2):aY P w K mg base TH 5 "holds" ["machine","strip","paper"] gY:=
 @dB P w K mg base TH "holds" (top 29) ["machine","strip","paper","ending"] ["machine","strip","paper"] 4 pT D aE6 (fun f e A d s H F E c=>by
  have nd:=aE6.nd
  exact (Fl.aG (Fl.aH (L2.aH (i:=3) nd rfl (Or.inl rfl) (bN rfl rfl rfl (bM b (c.mono (by decide)) rfl (bP fun _ _ _ h=>h) (aD (aJ (pv 0)) (aD (aJ (pv 1)) a9))))))
   (Fl.aG (Fl.dU (Fl.tN (dF (aC2 rfl rfl rfl mt_stops (c.mono (by decide)) (bP fun _ _ _ h=>h) (mX (pv 3))))) (Fl.aO (Fl.bD (aP (fJ (dA rfl c.units) b7 (aC (pv 2)) (aA (dF (aC2 rfl rfl rfl mt_paper (c.mono (by decide)) (bP fun _ _ _ h=>h) (mX (pv 3))))) (bK _))))) Fl.cW)
   (Fl.aO (Fl.bD (aP (aD9 (fJ (dA rfl c.units) b7 (aA (aT (aU rfl) aI (aC (pv 2)) (aA aE))) (aA dJ) (bK _)) (aD8 (dF (bN rfl rfl rfl (bM a (c.mono (by decide)) rfl (bP fun _ _ _ h=>h) (aD (aJ (pv 0)) (aD (aJ (pv 1)) (aD (mX (pv 3)) (aD (aJ (pv 2)) a9)))))))))))))))
end
section
variable{P:P9}{w:W9}{K:Frag}{mg:Str->O6 V9}{base:Hz}{TH:Hp}
theorem aE7:FnScope ["rooms","fore","aft"] ["rooms"] (aN (top 31)):=by constructor<;>first|rfl|decide +kernel
theorem aNG(T:Txt w K mg)(D:DefAt K mg "still" (top 31) ["rooms"]):aY P w K mg base TH 1 "still" ["rooms"] qK:=
 @dB P w K mg base TH "still" (top 31) ["rooms","fore","aft"] ["rooms"] 0 aAI D aE7 (fun f d A a s H F E h=>by
  have nd:=aE7.nd
  exact (Fl.aG (Fl.aH (L2.aH (i:=1) nd rfl (Or.inl rfl) (aP (eD rfl (bV cC rfl T.b_tuple BB (aK (aA (dD (g8 (gZ (N:=["room"]) (js:=[none]) rfl (.own .nil) (by rfl) (nH (iH (fP rfl T.b_range (aK (aC (pv 0)) aR))))) (by decide) (by decide) (is:=[0]) (fun b C g e c=>⟨_,(cG (i:=0) (show (["room"]:List Str).Nodup by decide +kernel) rfl (Or.inl rfl)),(cL 0),Fl.eX,(b9 (aF aE (aF (bX (pv 0)) aW)))⟩)))) aR))))))
   (Fl.aG (Fl.aH (L2.aH (i:=2) nd rfl (Or.inl rfl) (aP (eD rfl (bV cC rfl T.b_tuple BB (aK (aA (dD (g8 (gZ (N:=["room"]) (js:=[none]) rfl (.own .nil) (by rfl) (nH (iH (fP rfl T.b_range (aK (aC (pv 0)) aR))))) (by decide) (by decide) (is:=[0]) (fun b C g e c=>⟨_,(cG (i:=0) (show (["room"]:List Str).Nodup by decide +kernel) rfl (Or.inl rfl)),(cL 0),Fl.eX,(b9 (aF (iR fG dO (aA aE)) (aF (bX (pv 0)) aW)))⟩)))) aR))))))
   (Fl.aO (Fl.bD (aP (b9 (aF (bX (pv 1)) (aF (bX (pv 2)) aW)))))))))
theorem tJ:FnScope ["machine","sign","things"] ["machine","sign"] (aN (top 32)):=by constructor<;>first|rfl|decide +kernel
theorem aCG(T:Txt w K mg)(D:DefAt K mg "sign_table" (top 32) ["machine","sign"])(b:aY P w K mg base TH 2 "checked" ["machine","strip"] eW)(a:aY P w K mg base TH 1 "cells_of" ["machine","number"] gN):aY P w K mg base TH 3 "sign_table" ["machine","sign"] iJ:=
 @dB P w K mg base TH "sign_table" (top 32) ["machine","sign","things"] ["machine","sign"] 2 m6 D tJ (fun f e A c s H F E d=>by
  have nd:=tJ.nd
  exact (Fl.aG (Fl.dP (L2.dP (bN rfl rfl rfl (bM b (d.mono (by decide)) rfl (bP fun _ _ _ h=>h) (aD (aJ (pv 0)) (aD (aJ (pv 1)) a9))))))
   (Fl.aG (Fl.aH (L2.aH (i:=2) nd rfl (Or.inl rfl) (aP (eD rfl (bV cC rfl T.b_tuple BB (aK (aA (dD (g8 (gZ (N:=["cell"]) (js:=[none]) rfl (.own .nil) (by rfl) (wX rfl (aA (dF (bN rfl rfl rfl (bM a (d.mono (by decide)) rfl (bP fun _ _ _ h=>h) (aD (aJ (pv 0)) (aD (aP (rY (iV DJ DY DZ rG (aA (gK (iS (v:=.str "abc") rfl T.g_SIGNS.choose_spec ⟨_,rfl⟩) fun _=>.str _)) (aK (aC (pv 1)) aR)) (by intro ρ x h;cases h;exact ⟨_,rfl⟩))) a9)))))))) (by decide) (by decide) (is:=[0]) (fun g C l k j=>⟨_,(cG (i:=0) (show (["cell"]:List Str).Nodup by decide +kernel) rfl (Or.inl rfl)),(cL 0),Fl.eX,(b9 (aF (aT (aU rfl) aI (aC (pv 0)) (aA aE)) (aF (aT (aU rfl) aI (aC (pv 0)) (aA aE)) aW)))⟩)))) aR))))))
   (Fl.aO (Fl.bD (aP (b9 (aF (bX (pv 2)) (aF (bX (pv 2)) aW)))))))))
theorem wQ:FnScope ["one","other","thing","inward","been"] ["one","other","thing","inward"] (aN (top 33)):=by constructor<;>first|rfl|decide +kernel
theorem aF1(T:Txt w K mg)(D:DefAt K mg "gone_out" (top 33) ["one","other","thing","inward"]):aY P w K mg base TH 1 "gone_out" ["one","other","thing","inward"] iD:=
 @dB P w K mg base TH "gone_out" (top 33) ["one","other","thing","inward","been"] ["one","other","thing","inward"] 0 sG D wQ (fun f c A b s H F E a=>by
  have nd:=wQ.nd
  exact (Fl.aG (vJ rfl (L2.aH (i:=4) nd rfl (Or.inl rfl) vI))
   (Fl.aG (Fl.jP (L2.jP (gA ⟨rfl,rfl⟩) (PW.pt (Fl.tO (Fl.cI aD7 yE (aC (pv 2)) (aA aD4) (bK _)) (Fl.qA (Fl.cI (dA rfl a.units) b7 (aA (aT (aU rfl) aI (aC (pv 2)) (aA aE))) (aC (pv 3)) (bK _)))))
   (Fl.aG (Fl.dU (yH rfl rfl (qD (aGS a.units) (bX (pv 2)) (pv 4) (by with_unfolding_all rfl))) (Fl.aO (Fl.bD (aP aD4))) Fl.cW)
   (Fl.aG (Fl.vK rfl rfl (nQ jD (qC (pv 4) (bX (pv 2)) (sB a.units))))
   (Fl.aG (Fl.aH (L2.aH (i:=2) nd rfl (Or.inl rfl) (aP (aID (Fl.cI (dA rfl a.units) b7 (aC (pv 3)) (aA aE) (bK _)) (aT (aU rfl) aI (aA (aT (aU rfl) aI (aC (pv 1)) (aA aE))) (aA (aT (aU rfl) aI (aC (pv 2)) (aA aE)))) (aT (aU rfl) aI (aA (aT (aU rfl) aI (aC (pv 0)) (aA aE))) (aA (aT (aU rfl) aI (aC (pv 2)) (aA aE))))))))
   (Fl.aO (Fl.aH (L2.aH (i:=3) nd rfl (Or.inl rfl) (aP (iR fG dO (aC (pv 3))))))))))))
   (Fl.aO (Fl.bD (aJ (pv 2)))))))
theorem aB3:FnScope ["one","other","fore","aft"] ["one","other"] (aN (top 34)):=by constructor<;>first|rfl|decide +kernel
theorem aK7(T:Txt w K mg)(D:DefAt K mg "behind" (top 34) ["one","other"])(a:aY P w K mg base TH 1 "gone_out" ["one","other","thing","inward"] iD):aY P w K mg base TH 2 "behind" ["one","other"] kQ:=
 @dB P w K mg base TH "behind" (top 34) ["one","other","fore","aft"] ["one","other"] 1 w9 D aB3 (fun f g A b s H F E c=>by
  have nd:=aB3.nd
  exact (Fl.aG (Fl.aH (L2.aH (i:=2) nd rfl (Or.inl rfl) (aP (eD rfl (bV cC rfl T.b_tuple BB (aK (aA (dD (g8 (gZ (N:=["thing","one","other"]) (js:=[none,some 0,some 1]) rfl (.own (.cap rfl (.inl rfl) (.inl rfl) (.cap rfl (.inl rfl) (.inl rfl) .nil))) (by rfl) (wX rfl (aA (aT (aU rfl) aI (aC (pv 0)) (aA aE))))) (by decide) (by decide) (is:=[0]) (fun d C j h e=>⟨_,(cG (i:=0) (show (["thing","one","other"]:List Str).Nodup by decide +kernel) rfl (Or.inl rfl)),(cL 0),Fl.eX,(dF (bN rfl rfl rfl (bM a (c.mono (by decide)) rfl vB (aD (aJ (pv 1)) (aD (aJ (pv 2)) (aD (aJ (pv 0)) (aD (aP aE) a9)))))))⟩)))) aR))))))
   (Fl.aG (Fl.aH (L2.aH (i:=3) nd rfl (Or.inl rfl) (aP (eD rfl (bV cC rfl T.b_tuple BB (aK (aA (dD (g8 (gZ (N:=["thing","one","other"]) (js:=[none,some 0,some 1]) rfl (.own (.cap rfl (.inl rfl) (.inl rfl) (.cap rfl (.inl rfl) (.inl rfl) .nil))) (by rfl) (wX rfl (aA (aT (aU rfl) aI (aC (pv 1)) (aA aE))))) (by decide) (by decide) (is:=[0]) (fun d C j h e=>⟨_,(cG (i:=0) (show (["thing","one","other"]:List Str).Nodup by decide +kernel) rfl (Or.inl rfl)),(cL 0),Fl.eX,(dF (bN rfl rfl rfl (bM a (c.mono (by decide)) rfl vB (aD (aJ (pv 1)) (aD (aJ (pv 2)) (aD (aJ (pv 0)) (aD (aP (iR fG dO (aA aE))) a9)))))))⟩)))) aR))))))
   (Fl.aO (Fl.bD (aP (b9 (aF (bX (pv 2)) (aF (bX (pv 3)) aW)))))))))
theorem wR:FnScope ["machine","strip","tables","table","sign"] ["machine","strip"] (aN (top 35)):=by constructor<;>first|rfl|decide +kernel
theorem aF2(T:Txt w K mg)(D:DefAt K mg "table_of" (top 35) ["machine","strip"])(c:aY P w K mg base TH 2 "checked" ["machine","strip"] eW)(b:aY P w K mg base TH 1 "signs_of" ["machine"] eP)(a:aY P w K mg base TH 3 "sign_table" ["machine","sign"] iJ)(e:aY P w K mg base TH 1 "still" ["rooms"] qK)(d:aY P w K mg base TH 2 "behind" ["one","other"] kQ):aY P w K mg base TH 4 "table_of" ["machine","strip"] iL:=
 @dB P w K mg base TH "table_of" (top 35) ["machine","strip","tables","table","sign"] ["machine","strip"] 3 o9 D wR (fun f k A j s H F E g=>by
  have nd:=wR.nd
  exact (Fl.aG (Fl.dP (L2.dP (bN rfl rfl rfl (bM c (g.mono (by decide)) rfl (bP fun _ _ _ h=>h) (aD (aJ (pv 0)) (aD (aJ (pv 1)) a9))))))
   (Fl.aG (aGO (L2.rF (i:=2) nd rfl (Or.inl rfl) (by rfl) (N:=["sign","machine"]) (js:=[none,some 0]) rfl (.own (.cap rfl (.inl rfl) (.inl rfl) .nil)) (by rfl) (wX rfl (aA (aB1 (aA (gK (iS (v:=.str "abc") rfl T.g_SIGNS.choose_spec ⟨_,rfl⟩) fun _=>.str _)) pJ (pK (aA (dF (bN rfl rfl rfl (bM b (g.mono (by decide)) rfl (bP fun _ _ _ h=>h) (aD (aJ (pv 0)) a9)))))))))) (by decide) (by decide) (is:=[0]) (fun l C o n m=>⟨_,(cG (i:=0) (show (["sign","machine"]:List Str).Nodup by decide +kernel) rfl (Or.inl rfl)),(cL 0),Fl.eX,(dF (bN rfl rfl rfl (bM a (g.mono (by decide)) rfl vB (aD (aJ (pv 1)) (aD (aJ (pv 0)) a9)))))⟩))
   (Fl.aG (Fl.aH (L2.aH (i:=3) nd rfl (Or.inl rfl) (bN rfl rfl rfl (bM e (g.mono (by decide)) rfl (bP fun _ _ _ h=>h) (aD (aP (fR rfl (dG dQ rfl T.b_len BR (aK (aC (pv 0)) aR)))) a9)))))
   (Fl.aG (Fl.eO (cL 4) (L2.eO (gA ⟨rfl,rfl⟩) rfl (aRW rfl (bX (pv 1))) (cG (i:=4) nd rfl (Or.inl rfl))
   (Fl.aO (Fl.aH (L2.aH (i:=3) nd rfl (Or.inl rfl) (bN rfl rfl rfl (bM d (g.mono (by decide)) rfl (bP fun _ _ _ h=>h) (aD (aJ (pv 3)) (aD (aP (aT (aU rfl) aI (aC (pv 2)) (aA (rY (iV DJ DY DZ rG (aA (gK (iS (v:=.str "abc") rfl T.g_SIGNS.choose_spec ⟨_,rfl⟩) fun _=>.str _)) (aK (aC (pv 4)) aR)) (by intro ρ x h;cases h;exact ⟨_,rfl⟩))))) a9)))))))))
   (Fl.aO (Fl.bD (aJ (pv 3)))))))))
end
section
variable{P:P9}{w:W9}{K:Frag}{mg:Str->O6 V9}{base:Hz}{TH:Hp}
theorem aG9:FnScope ["machine","table","thing","been","row","turn"] ["machine","table"] (aN (top 36)):=by constructor<;>first|rfl|decide +kernel
theorem aP7(T:Txt w K mg)(D:DefAt K mg "said" (top 36) ["machine","table"]):aY P w K mg base TH 1 "said" ["machine","table"] uG:=
 @dB P w K mg base TH "said" (top 36) ["machine","table","thing","been","row","turn"] ["machine","table"] 0 aEP D aG9 (fun f c A b s H F E a=>by
  have nd:=aG9.nd
  exact (Fl.aG (Fl.aH (L2.aH (i:=2) nd rfl (Or.inl rfl) (aP (b9 (aF (iR fG dO (aA aE)) (aF aE aW))))))
   (Fl.aG (vJ rfl (L2.aH (i:=3) nd rfl (Or.inl rfl) vI))
   (Fl.aG (Fl.jP (L2.jP (gA ⟨rfl,rfl⟩) (PW.pt (Fl.tO (Fl.cI aD7 yE (aC (pv 2)) (aA aD4) (bK _)) (Fl.qA (yH rfl rfl (qD (aEG a.units) (bX (pv 2)) (pv 3) (by with_unfolding_all rfl))))))
   (Fl.aG (Fl.vK rfl rfl (nQ jD (qC (pv 3) (bX (pv 2)) (sB a.units))))
   (Fl.aG (Fl.aH (L2.aH (i:=4) nd rfl (Or.inl rfl) (aP (aT (aU rfl) aI (aC (pv 0)) (aA (aT (aU rfl) aI (aC (pv 2)) (aA aE)))))))
   (Fl.aG (Fl.aH (L2.aH (i:=5) nd rfl (Or.inl rfl) (aP (aID (Fl.cI (dA rfl a.units) b7 (aA (aT (aU rfl) aI (aC (pv 2)) (aA aE))) (aA (iR fG dO (aA aE))) (bK _)) (aT (aU rfl) aI (aC (pv 4)) (aA aE)) (aT (aU rfl) aI (aC (pv 4)) (aA aE))))))
   (Fl.aG (Fl.dU (Fl.cI (aKB rfl a.units) aD6 (aC (pv 5)) (aA (gK (iS (v:=.ref T.g_STOPS.choose) rfl T.g_STOPS.choose_spec.1 rfl) fun F=>wZ T.g_STOPS.choose_spec.2 (by exact fun F=>.cons (.str _) (.cons (.str _) (.nil))) F)) (by with_unfolding_all rfl)) (Fl.aO (Fl.bD (aJ (pv 5)))) Fl.cW)
   (Fl.aO (Fl.aH (L2.aH (i:=2) nd rfl (Or.inl rfl) (aP (aID (Fl.cI (dA rfl a.units) b7 (aA (aT (aU rfl) aI (aC (pv 2)) (aA aE))) (aA (iR fG dO (aA aE))) (bK _)) (aT (aU rfl) aI (aA (aT (aU rfl) aI (aC (pv 1)) (aA aE))) (aC (pv 5))) (aT (aU rfl) aI (aA (aT (aU rfl) aI (aC (pv 1)) (aA aE))) (aC (pv 5))))))))))))))
   (Fl.aO (Fl.bD (aP dJ)))))))
theorem uT:FnScope ["_law_script","_law_k","_law_cell_here","_law_mixed"] ["_law_script","_law_k"] (aN (top 38)):=by constructor<;>first|rfl|decide +kernel
theorem aE8(T:Txt w K mg)(D:DefAt K mg "_law_cell" (top 38) ["_law_script","_law_k"]):aY P w K mg base TH 1 "_law_cell" ["_law_script","_law_k"] bT:=
 @dB P w K mg base TH "_law_cell" (top 38) ["_law_script","_law_k","_law_cell_here","_law_mixed"] ["_law_script","_law_k"] 0 nK D uT (fun f b A a s H F E c=>by
  have nd:=uT.nd
  exact (Fl.aG (Fl.aH (L2.aH (i:=2) nd rfl (Or.inl rfl) (aP aE)))
   (Fl.aG (Fl.dU (Fl.cI t7 oP (aA (fR rfl (dG dQ rfl T.b_len BR (aK (aC (pv 0)) aR)))) (aA aE) (bK _)) (Fl.aO (Fl.aH (L2.aH (i:=2) nd rfl (Or.inl rfl) (aP (aT (aU rfl) aI (aC (pv 0)) (aA (aQ cK bS (aC (pv 1)) (aA (fR rfl (dG dQ rfl T.b_len BR (aK (aC (pv 0)) aR))))))))))) Fl.cW)
   (Fl.aG (Fl.aH (L2.aH (i:=3) nd rfl (Or.inl rfl) (aP (aQ cK bS (aA (aQ iT gD (aA (aQ (cD rfl) bO (aA (aQ (cD rfl) bO (aA (aQ cK bS (aC (pv 2)) (aA aE))) (aA (aQ iT gD (aA aE) (aC (pv 1)))))) (aA aE))) (aA aE))) (aA aE)))))
   (Fl.aO (Fl.bD (aP (aQ (cD rfl) bO (aA (aQ iT gD (aA (aQ lZ jO (aC (pv 2)) (aA aE))) (aA aE))) (aA (aQ cK bS (aA (aQ (cD rfl) bO (aA (aQ iT gD (aC (pv 3)) (aA aE))) (aA (aQ iT gD (aA aE) (aC (pv 1)))))) (aA aE)))))))))))
theorem tK:FnScope ["_law_script","_law_at","_law_size","_law_signs","_law_number","_law_strip_here","_law_k"] ["_law_script","_law_at","_law_size","_law_signs"] (aN (top 39)):=by constructor<;>first|rfl|decide +kernel
theorem aCH(T:Txt w K mg)(D:DefAt K mg "_law_strip" (top 39) ["_law_script","_law_at","_law_size","_law_signs"])(a:aY P w K mg base TH 1 "_law_cell" ["_law_script","_law_k"] bT):aY P w K mg base TH 2 "_law_strip" ["_law_script","_law_at","_law_size","_law_signs"] gW:=
 @dB P w K mg base TH "_law_strip" (top 39) ["_law_script","_law_at","_law_size","_law_signs","_law_number","_law_strip_here","_law_k"] ["_law_script","_law_at","_law_size","_law_signs"] 1 kT D tK (fun f d A b s H F E c=>by
  have nd:=tK.nd
  exact (Fl.aG (Fl.dU (PW.pt (Fl.tO (Fl.cI yD rR (aC (pv 1)) (aA (fR rfl (dG dQ rfl T.b_len BR (aK (aC (pv 0)) aR)))) (bK _)) (Fl.qA (Fl.cI (dA rfl c.units) b7 (aA (aQ cK bS (aA (aT (aU rfl) aI (aC (pv 0)) (aA aE))) (aA aE))) (aA aE) (bK _))))) (Fl.aG (Fl.aH (L2.aH (i:=4) nd rfl (Or.inl rfl) (aP (aT (aU rfl) aI (aC (pv 0)) (aC (pv 1))))))
   (Fl.aG (Fl.aH (L2.aH (i:=5) nd rfl (Or.inl rfl) (aP dJ)))
   (Fl.aG (Fl.eO (cL 6) (L2.eO (gA ⟨rfl,rfl⟩) rfl (iH (fP rfl T.b_range (aK (aC (pv 2)) aR))) (cG (i:=6) nd rfl (Or.inl rfl))
   (Fl.aG (Fl.aH (L2.aH (i:=5) nd rfl (Or.inl rfl) (aP (aQ (cD rfl) bO (aC (pv 5)) (aA (aT (aU rfl) aI (aA dJ) (aA (aQ cK bS (aC (pv 4)) (aC (pv 3))))))))))
   (Fl.aO (Fl.aH (L2.aH (i:=4) nd rfl (Or.inl rfl) (aP (aQ lZ jO (aC (pv 4)) (aC (pv 3))))))))))
   (Fl.aO (Fl.bD (aJ (pv 5))))))) Fl.cW)
   (Fl.aO (Fl.bD (aP (aPI rfl (iV DJ PySem.F.slot_str_join PySem.F.type_str_join aO4 (aA dJ) (aK (aA (dD (g8 (gZ (N:=["_law_k","_law_script","_law_at","_law_signs"]) (js:=[none,some 0,some 1,some 3]) rfl (.own (.cap rfl (.inl rfl) (.inl rfl) (.cap rfl (.inl rfl) (.inl rfl) (.cap rfl (.inl rfl) (.inl rfl) .nil)))) (by rfl) (nH (iH (fP rfl T.b_range (aK (aC (pv 2)) aR))))) (by decide) (by decide) (is:=[0]) (fun e C k j g=>⟨_,(cG (i:=0) (show (["_law_k","_law_script","_law_at","_law_signs"]:List Str).Nodup by decide +kernel) rfl (Or.inl rfl)),(cL 0),Fl.eX,(aT (aU rfl) aI (aA dJ) (aA (aQ cK bS (aA (dF (bN rfl rfl rfl (bM a (c.mono (by decide)) rfl vB (aD (aJ (pv 1)) (aD (aP (aQ (cD rfl) bO (aC (pv 2)) (aC (pv 0)))) a9)))))) (aC (pv 3)))))⟩)))) aR)) (by intro ρ x h;cases h;exact ⟨_,rfl⟩)))))))
theorem pW:FnScope ["_law_p","_law_q","_law_a","_law_b","_law_signs","_law_rows","_law_k","_law_there"] ["_law_p","_law_q","_law_a","_law_b","_law_signs"] (aN (top 40)):=by constructor<;>first|rfl|decide +kernel
theorem yY(T:Txt w K mg)(D:DefAt K mg "_law_sweeper" (top 40) ["_law_p","_law_q","_law_a","_law_b","_law_signs"]):aY P w K mg base TH 1 "_law_sweeper" ["_law_p","_law_q","_law_a","_law_b","_law_signs"] iI:=
 @dB P w K mg base TH "_law_sweeper" (top 40) ["_law_p","_law_q","_law_a","_law_b","_law_signs","_law_rows","_law_k","_law_there"] ["_law_p","_law_q","_law_a","_law_b","_law_signs"] 0 mY D pW (fun f c A a s H F E b=>by
  have nd:=pW.nd
  exact (Fl.aG (g7 (L2.aH (i:=5) nd rfl (Or.inl rfl) (dN aW)))
   (Fl.aG (Fl.eO (cL 6) (L2.eO (gA ⟨rfl,rfl⟩) rfl (iH (fP rfl T.b_range (aK (aC (pv 0)) aR))) (cG (i:=6) nd rfl (Or.inl rfl))
   (Fl.aG (Fl.aH (L2.aH (i:=7) nd rfl (Or.inl rfl) (aP (aT (aU rfl) aI (aA (dD (dN (aF dJ (aF (bX (pv 0)) aW))))) (aA (iG (bV fQ rfl T.b_int BV (aK (aA (fJ (dA rfl b.units) b7 (aC (pv 6)) (aC (pv 2)) (bK _))) aR))))))))
   (Fl.aO (lG rfl (L2.dP (iV BS BW BX gQ (pv 5) (aK (b9 (aF (aT (aU rfl) aI (aA (dD (dN (aF aE (aF dJ aW))))) (aA (iG (bV fQ rfl T.b_int BV (aK (aA (fJ t7 oP (aC (pv 6)) (aA aE) (bK _))) aR))))) (aF (eD rfl (bV cC rfl T.b_tuple BB (aK (aA (dD (vP (dN (aF (b9 (aF (aQ cK bS (aA (aQ (cD rfl) bO (aC (pv 6)) (aA aE))) (aC (pv 0))) (aF aE aW))) aW)) (aC (pv 4))))) aR))) (aF (bX (pv 7)) aW)))) aR))))))))
   (Fl.aG (Fl.eO (cL 6) (L2.eO (gA ⟨rfl,rfl⟩) rfl (iH (fP rfl T.b_range (aK (aC (pv 1)) aR))) (cG (i:=6) nd rfl (Or.inl rfl))
   (Fl.aO (lG rfl (L2.dP (iV BS BW BX gQ (pv 5) (aK (b9 (aF (aT (aU rfl) aI (aA (dD (dN (aF dJ (aF dJ aW))))) (aA (iG (bV fQ rfl T.b_int BV (aK (aA (fJ (dA rfl b.units) b7 (aC (pv 6)) (aC (pv 3)) (bK _))) aR))))) (aF (eD rfl (bV cC rfl T.b_tuple BB (aK (aA (dD (vP (dN (aF (b9 (aF (aQ (cD rfl) bO (aC (pv 0)) (aA (aQ cK bS (aA (aQ (cD rfl) bO (aC (pv 6)) (aA aE))) (aC (pv 1))))) (aF (iR fG dO (aA aE)) aW))) aW)) (aC (pv 4))))) aR))) (aF dJ aW)))) aR)))))))
   (Fl.aO (Fl.bD (aP (eD rfl (bV cC rfl T.b_tuple BB (aK (aC (pv 5)) aR))))))))))
theorem pF:FnScope ["_law_times","_law_signs","_law_last","_law_rows","_law_k","_law_left"] ["_law_times","_law_signs","_law_last"] (aN (top 41)):=by constructor<;>first|rfl|decide +kernel
theorem xJ(T:Txt w K mg)(D:DefAt K mg "_law_pendulum" (top 41) ["_law_times","_law_signs","_law_last"]):aY P w K mg base TH 1 "_law_pendulum" ["_law_times","_law_signs","_law_last"] fH:=
 @dB P w K mg base TH "_law_pendulum" (top 41) ["_law_times","_law_signs","_law_last","_law_rows","_law_k","_law_left"] ["_law_times","_law_signs","_law_last"] 0 kB D pF (fun f c A a s H F E b=>by
  have nd:=pF.nd
  exact (Fl.aG (g7 (L2.aH (i:=3) nd rfl (Or.inl rfl) (dN aW)))
   (Fl.aG (Fl.eO (cL 4) (L2.eO (gA ⟨rfl,rfl⟩) rfl (iH (fP rfl T.b_range (aK (aC (pv 0)) aR))) (cG (i:=4) nd rfl (Or.inl rfl))
   (Fl.aG (Fl.aH (L2.aH (i:=5) nd rfl (Or.inl rfl) (aP (aT (aU rfl) aI (aA (dD (dN (aF (aQ (cD rfl) bO (aA (aQ iT gD (aA aE) (aC (pv 4)))) (aA aE)) (aF (bX (pv 2)) aW))))) (aA (iG (bV fQ rfl T.b_int BV (aK (aA (fJ (dA rfl b.units) b7 (aC (pv 4)) (aA (aQ jH gV (aC (pv 0)) (aA aE))) (bK _))) aR))))))))
   (Fl.aG (lG rfl (L2.dP (iV BS BW BX gQ (pv 3) (aK (b9 (aF (aT (aU rfl) aI (aA (dD (dN (aF aE (aF dJ aW))))) (aA (iG (bV fQ rfl T.b_int BV (aK (aA (fJ t7 oP (aC (pv 4)) (aA aE) (bK _))) aR))))) (aF (eD rfl (bV cC rfl T.b_tuple BB (aK (aA (dD (vP (dN (aF (b9 (aF (aQ iT gD (aA aE) (aC (pv 4))) (aF aE aW))) aW)) (aC (pv 1))))) aR))) (aF (aQ (cD rfl) bO (aA (aQ iT gD (aA aE) (aC (pv 4)))) (aA aE)) aW)))) aR))))
   (Fl.aO (lG rfl (L2.dP (iV BS BW BX gQ (pv 3) (aK (b9 (aF (bX (pv 5)) (aF (eD rfl (bV cC rfl T.b_tuple BB (aK (aA (dD (vP (dN (aF (b9 (aF (aQ (cD rfl) bO (aA (aQ iT gD (aA aE) (aC (pv 4)))) (aA aE)) (aF (iR fG dO (aA aE)) aW))) aW)) (aC (pv 1))))) aR))) (aF dJ aW)))) aR)))))))))
   (Fl.aO (Fl.bD (aP (eD rfl (bV cC rfl T.b_tuple BB (aK (aC (pv 3)) aR)))))))))
end
section
variable{P:P9}{w:W9}{K:Frag}{mg:Str->O6 V9}{base:Hz}{TH:Hp}
theorem tL:FnScope ["_law_times","_law_size","_law_last","_law_stands","_law_k"] ["_law_times","_law_size","_law_last"] (aN (top 42)):=by constructor<;>first|rfl|decide +kernel
theorem aCI(T:Txt w K mg)(D:DefAt K mg "_law_swept" (top 42) ["_law_times","_law_size","_law_last"]):aY P w K mg base TH 1 "_law_swept" ["_law_times","_law_size","_law_last"] gL:=
 @dB P w K mg base TH "_law_swept" (top 42) ["_law_times","_law_size","_law_last","_law_stands","_law_k"] ["_law_times","_law_size","_law_last"] 0 lV D tL (fun f d A a s H F E h=>by
  have nd:=tL.nd
  exact (Fl.aG (g7 (L2.aH (i:=3) nd rfl (Or.inl rfl) (dN aW)))
   (Fl.aG (Fl.eO (cL 4) (L2.eO (gA ⟨rfl,rfl⟩) rfl (iH (fP rfl T.b_range (aK (aC (pv 0)) aR))) (cG (i:=4) nd rfl (Or.inr rfl))
   (Fl.aG (g7 (L2.aH (i:=3) nd rfl (Or.inl rfl) (yI rfl (aC (pv 3)) (aA (dD (g8 (gZ (N:=["_law_place","_law_k"]) (js:=[none,some 4]) rfl (.own (.cap rfl (.inl rfl) (.inl rfl) .nil)) (by rfl) (nH (aAA (tQ rfl T.b_range (aK (aA (iG (bV fQ rfl T.b_int BV (aK (aA (fJ t7 oP (aC (pv 4)) (aA aE) (bK _))) aR)))) (aK (aA (aQ (cD rfl) bO (aC (pv 1)) (aA aE))) aR)))))) (by decide) (by decide) (is:=[0]) (fun b C g e c=>⟨_,(cG (i:=0) (show (["_law_place","_law_k"]:List Str).Nodup by decide +kernel) rfl (Or.inl rfl)),(cL 0),Fl.eX,(b9 (aF (bX (pv 0)) (aF (aQ iT gD (aA aE) (aC (pv 1))) aW)))⟩)))))))
   (Fl.aO (g7 (L2.aH (i:=3) nd rfl (Or.inl rfl) (yI rfl (aC (pv 3)) (aA (dD (g8 (gZ (N:=["_law_place","_law_k"]) (js:=[none,some 4]) rfl (.own (.cap rfl (.inl rfl) (.inl rfl) .nil)) (by rfl) (nH (aG6 (aB0 rfl T.b_range (aK (aC (pv 1)) (aK (aA (iR fG dO (aA aE))) (aK (aA (iR fG dO (aA aE))) aR))))))) (by decide) (by decide) (is:=[0]) (fun b C g e c=>⟨_,(cG (i:=0) (show (["_law_place","_law_k"]:List Str).Nodup by decide +kernel) rfl (Or.inl rfl)),(cL 0),Fl.eX,(b9 (aF (bX (pv 0)) (aF (aQ (cD rfl) bO (aA (aQ iT gD (aA aE) (aC (pv 1)))) (aA aE)) aW)))⟩)))))))))))
   (Fl.aG (Fl.dU (Fl.cI (dA rfl h.units) b7 (aC (pv 2)) (aA aE) (bK _)) (Fl.aO (lG rfl (L2.dP (iV BS BW BX gQ (pv 3) (aK (b9 (aF aE (aF aE aW))) aR))))) Fl.cW)
   (Fl.aO (aCW 3 (Fl.bD (aJ (pv 3)))))))))
theorem pX:FnScope ["_law_p","_law_q","_law_a","_law_size","_law_stands"] ["_law_p","_law_q","_law_a","_law_size"] (aN (top 43)):=by constructor<;>first|rfl|decide +kernel
theorem yZ(T:Txt w K mg)(D:DefAt K mg "_law_counted" (top 43) ["_law_p","_law_q","_law_a","_law_size"]):aY P w K mg base TH 1 "_law_counted" ["_law_p","_law_q","_law_a","_law_size"] fW:=
 @dB P w K mg base TH "_law_counted" (top 43) ["_law_p","_law_q","_law_a","_law_size","_law_stands"] ["_law_p","_law_q","_law_a","_law_size"] 0 kX D pX (fun f d A a s H F E h=>by
  have nd:=pX.nd
  exact (Fl.aG (g7 (L2.aH (i:=4) nd rfl (Or.inl rfl) (yI rfl (aA (dD (dN (aF (b9 (aF aE (aF aE aW))) aW)))) (aA (dD (g8 (gZ (N:=["_law_place","_law_p"]) (js:=[none,some 0]) rfl (.own (.cap rfl (.inl rfl) (.inl rfl) .nil)) (by rfl) (nH (aAA (tQ rfl T.b_range (aK (aA aE) (aK (aA (aQ (cD rfl) bO (aC (pv 3)) (aA aE))) aR)))))) (by decide) (by decide) (is:=[0]) (fun b C g e c=>⟨_,(cG (i:=0) (show (["_law_place","_law_p"]:List Str).Nodup by decide +kernel) rfl (Or.inl rfl)),(cL 0),Fl.eX,(b9 (aF (bX (pv 0)) (aF (aQ cK bS (aA (aQ jH gV (aC (pv 0)) (aA aE))) (aC (pv 1))) aW)))⟩)))))))
   (Fl.aG (Fl.dU (Fl.cI (dA rfl h.units) b7 (aA (aQ cK bS (aC (pv 3)) (aC (pv 0)))) (aC (pv 2)) (bK _)) (Fl.aO (g7 (L2.aH (i:=4) nd rfl (Or.inl rfl) (yI rfl (aC (pv 4)) (aA (dD (g8 (gZ (N:=["_law_place","_law_p","_law_size","_law_q"]) (js:=[none,some 0,some 3,some 1]) rfl (.own (.cap rfl (.inl rfl) (.inl rfl) (.cap rfl (.inl rfl) (.inl rfl) (.cap rfl (.inl rfl) (.inl rfl) .nil)))) (by rfl) (nH (aG6 (aB0 rfl T.b_range (aK (aC (pv 3)) (aK (aA (iR fG dO (aA aE))) (aK (aA (iR fG dO (aA aE))) aR))))))) (by decide) (by decide) (is:=[0]) (fun b C g e c=>⟨_,(cG (i:=0) (show (["_law_place","_law_p","_law_size","_law_q"]:List Str).Nodup by decide +kernel) rfl (Or.inl rfl)),(cL 0),Fl.eX,(b9 (aF (bX (pv 0)) (aF (aQ (cD rfl) bO (aC (pv 1)) (aA (aQ cK bS (aA (aQ jH gV (aC (pv 2)) (aC (pv 0)))) (aC (pv 3))))) aW)))⟩)))))))) Fl.cW)
   (Fl.aO (aCW 4 (Fl.bD (aJ (pv 4))))))))
theorem tM:FnScope ["_law_counts","_law_room","_law_steps","_law_p","_law_q"] ["_law_counts","_law_room","_law_steps"] (aN (top 44)):=by constructor<;>first|rfl|decide +kernel
theorem aCJ(T:Txt w K mg)(D:DefAt K mg "_law_after" (top 44) ["_law_counts","_law_room","_law_steps"]):aY P w K mg base TH 1 "_law_after" ["_law_counts","_law_room","_law_steps"] dC:=
 @dB P w K mg base TH "_law_after" (top 44) ["_law_counts","_law_room","_law_steps","_law_p","_law_q"] ["_law_counts","_law_room","_law_steps"] 0 iM D tM (fun f c A a s H F E b=>by
  have nd:=tM.nd
  exact (Fl.aG (aKH (yF rfl (kM (cL 3) (kM (cL 4) vH)) rfl) (nQ (bX (pv 0)) (xR rfl (kH (cG (i:=3) nd rfl (Or.inl rfl)) (kH (cG (i:=4) nd rfl (Or.inl rfl)) uY)))))
   (Fl.aG (Fl.dU (Fl.cI (dA rfl b.units) b7 (aC (pv 3)) (aA aE) (bK _)) (Fl.aO (Fl.bD (aJ (pv 1)))) Fl.cW)
   (Fl.aG (Fl.dU (Fl.cI yD rR (aC (pv 1)) (aC (pv 3)) (bK _)) (Fl.aO (Fl.bD (aP (aQ cK bS (aA (aQ (cD rfl) bO (aC (pv 1)) (aC (pv 2)))) (aC (pv 3)))))) Fl.cW)
   (Fl.aO (Fl.bD (aP (aQ (cD rfl) bO (aC (pv 3)) (aA (aQ cK bS (aA (aQ (cD rfl) bO (aA (aQ jH gV (aC (pv 1)) (aC (pv 3)))) (aC (pv 2)))) (aC (pv 4))))))))))))
theorem nZ:FnScope ["_law_machine","_law_counts","_law_size","_law_fore","_law_aft","_law_room","_law_step","_law_ahead","_law_back"] ["_law_machine","_law_counts","_law_size"] (aN (top 45)):=by constructor<;>first|rfl|decide +kernel
theorem wD(T:Txt w K mg)(D:DefAt K mg "_law_due_table" (top 45) ["_law_machine","_law_counts","_law_size"])(a:aY P w K mg base TH 1 "_law_after" ["_law_counts","_law_room","_law_steps"] dC):aY P w K mg base TH 2 "_law_due_table" ["_law_machine","_law_counts","_law_size"] f9:=
 @dB P w K mg base TH "_law_due_table" (top 45) ["_law_machine","_law_counts","_law_size","_law_fore","_law_aft","_law_room","_law_step","_law_ahead","_law_back"] ["_law_machine","_law_counts","_law_size"] 1 jV D nZ (fun f d A c s H F E b=>by
  have nd:=nZ.nd
  exact (Fl.aG (g7 (L2.aH (i:=3) nd rfl (Or.inl rfl) (dN aW)))
   (Fl.aG (g7 (L2.aH (i:=4) nd rfl (Or.inl rfl) (dN aW)))
   (Fl.aG (Fl.eO (cL 5) (L2.eO (gA ⟨rfl,rfl⟩) rfl (iH (fP rfl T.b_range (aK (aA (fR rfl (dG dQ rfl T.b_len BR (aK (aC (pv 0)) aR)))) aR))) (cG (i:=5) nd rfl (Or.inl rfl))
   (Fl.aG (Fl.aH (L2.aH (i:=6) nd rfl (Or.inl rfl) (aP (aT (aU rfl) aI (aA (aT (aU rfl) aI (aA (aT (aU rfl) aI (aA (aT (aU rfl) aI (aC (pv 0)) (aC (pv 5)))) (aA aE))) (aA aE))) (aA aE)))))
   (Fl.aG (Fl.aH (L2.aH (i:=7) nd rfl (Or.inl rfl) (aP (b9 (aF (bX (pv 6)) (aF (dF (bN rfl rfl rfl (bM a (b.mono (by decide)) rfl (bP fun _ _ _ h=>h) (aD (aJ (pv 1)) (aD (aJ (pv 5)) (aD (aP (aT (aU rfl) aI (aA (dD (dN (aF aE (aF (bX (pv 2)) aW))))) (aA (iG (bV fQ rfl T.b_int BV (aK (aA (fJ (dA rfl b.units) b7 (aC (pv 6)) (aA aE) (bK _))) aR)))))) a9)))))) aW))))))
   (Fl.aG (Fl.aH (L2.aH (i:=8) nd rfl (Or.inl rfl) (aP (b9 (aF (bX (pv 6)) (aF (dF (bN rfl rfl rfl (bM a (b.mono (by decide)) rfl (bP fun _ _ _ h=>h) (aD (aJ (pv 1)) (aD (aJ (pv 5)) (aD (aP (aT (aU rfl) aI (aA (dD (dN (aF aE (aF (bX (pv 2)) aW))))) (aA (iG (bV fQ rfl T.b_int BV (aK (aA (fJ (dA rfl b.units) b7 (aC (pv 6)) (aA (iR fG dO (aA aE))) (bK _))) aR)))))) a9)))))) aW))))))
   (Fl.aG (lG rfl (L2.dP (iV BS BW BX gQ (pv 3) (aK (aT (aU rfl) aI (aA (dD (dN (aF (bX (pv 7)) (aF (b9 (aF aE (aF (bX (pv 5)) aW))) aW))))) (aA (iG (bV fQ rfl T.b_int BV (aK (aA (fJ (dA rfl b.units) b7 (aC (pv 2)) (aA aE) (bK _))) aR))))) aR))))
   (Fl.aO (lG rfl (L2.dP (iV BS BW BX gQ (pv 4) (aK (aT (aU rfl) aI (aA (dD (dN (aF (bX (pv 8)) (aF (b9 (aF (iR fG dO (aA aE)) (aF (bX (pv 5)) aW))) aW))))) (aA (iG (bV fQ rfl T.b_int BV (aK (aA (fJ (dA rfl b.units) b7 (aC (pv 2)) (aA aE) (bK _))) aR))))) aR)))))))))))
   (Fl.aO (Fl.bD (aP (b9 (aF (eD rfl (bV cC rfl T.b_tuple BB (aK (aC (pv 3)) aR))) (aF (eD rfl (bV cC rfl T.b_tuple BB (aK (aC (pv 4)) aR))) aW))))))))))
theorem l8:FnScope ["_law_machine","_law_counts","_law_size","_law_backs","_law_room","_law_step"] ["_law_machine","_law_counts","_law_size"] (aN (top 46)):=by constructor<;>first|rfl|decide +kernel
theorem qY(T:Txt w K mg)(D:DefAt K mg "_law_due_beginning" (top 46) ["_law_machine","_law_counts","_law_size"])(a:aY P w K mg base TH 1 "_law_after" ["_law_counts","_law_room","_law_steps"] dC):aY P w K mg base TH 2 "_law_due_beginning" ["_law_machine","_law_counts","_law_size"] eU:=
 @dB P w K mg base TH "_law_due_beginning" (top 46) ["_law_machine","_law_counts","_law_size","_law_backs","_law_room","_law_step"] ["_law_machine","_law_counts","_law_size"] 1 iN D l8 (fun f d A c s H F E b=>by
  have nd:=l8.nd
  exact (Fl.aG (g7 (L2.aH (i:=3) nd rfl (Or.inl rfl) (dN aW)))
   (Fl.aG (Fl.eO (cL 4) (L2.eO (gA ⟨rfl,rfl⟩) rfl (iH (fP rfl T.b_range (aK (aA (fR rfl (dG dQ rfl T.b_len BR (aK (aC (pv 0)) aR)))) aR))) (cG (i:=4) nd rfl (Or.inl rfl))
   (Fl.aG (Fl.aH (L2.aH (i:=5) nd rfl (Or.inl rfl) (aP (aT (aU rfl) aI (aA (aT (aU rfl) aI (aA (aT (aU rfl) aI (aA (aT (aU rfl) aI (aC (pv 0)) (aC (pv 4)))) (aA aE))) (aA aE))) (aA aE)))))
   (Fl.aG (Fl.dU (PW.pt (Fl.n6 (Fl.cI (dA rfl b.units) b7 (aC (pv 2)) (aA aE) (bK _)) (Fl.qB (Fl.cI (dA rfl b.units) b7 (aC (pv 5)) (aA (iR fG dO (aA aE))) (bK _))))) (Fl.aO (Fl.aH (L2.aH (i:=4) nd rfl (Or.inl rfl) (aP (aT (aU rfl) aI (aA (aT (aU rfl) aI (aC (pv 0)) (aA (dF (bN rfl rfl rfl (bM a (b.mono (by decide)) rfl (bP fun _ _ _ h=>h) (aD (aJ (pv 1)) (aD (aJ (pv 4)) (aD (aJ (pv 2)) a9))))))))) (aA aE)))))) (Fl.aO (Fl.aH (L2.aH (i:=4) nd rfl (Or.inl rfl) (bN rfl rfl rfl (bM a (b.mono (by decide)) rfl (bP fun _ _ _ h=>h) (aD (aJ (pv 1)) (aD (aJ (pv 4)) (aD (aP aE) a9)))))))))
   (Fl.aO (lG rfl (L2.dP (iV BS BW BX gQ (pv 3) (aK (bX (pv 4)) aR)))))))))
   (Fl.aO (Fl.bD (aP (b9 (aF (dF (bN rfl rfl rfl (bM a (b.mono (by decide)) rfl (bP fun _ _ _ h=>h) (aD (aJ (pv 1)) (aD (aP aE) (aD (aJ (pv 2)) a9)))))) (aF (eD rfl (bV cC rfl T.b_tuple BB (aK (aC (pv 3)) aR))) aW)))))))))
end
section
variable{P:P9}{w:W9}{K:Frag}{mg:Str->O6 V9}{base:Hz}{TH:Hp}
theorem pG:FnScope ["_law_stands","_law_border","_law_rooms","_law_k"] ["_law_stands","_law_border"] (aN (top 47)):=by constructor<;>first|rfl|decide +kernel
theorem xK(T:Txt w K mg)(D:DefAt K mg "_law_crossing" (top 47) ["_law_stands","_law_border"]):aY P w K mg base TH 1 "_law_crossing" ["_law_stands","_law_border"] gH:=
 @dB P w K mg base TH "_law_crossing" (top 47) ["_law_stands","_law_border","_law_rooms","_law_k"] ["_law_stands","_law_border"] 0 kC D pG (fun f c A a s H F E b=>by
  have nd:=pG.nd
  exact (Fl.aG (g7 (L2.aH (i:=2) nd rfl (Or.inl rfl) (dN aW)))
   (Fl.aG (Fl.eO (cL 3) (L2.eO (gA ⟨rfl,rfl⟩) rfl (aAA (tQ rfl T.b_range (aK (aA aE) (aK (aA (fR rfl (dG dQ rfl T.b_len BR (aK (aC (pv 0)) aR)))) aR)))) (cG (i:=3) nd rfl (Or.inl rfl))
   (Fl.aO (Fl.dU (Fl.cI (dA rfl b.units) b7 (aA (aKI (G:=j9) (dG (aA9 rfl) rfl T.b_min G2 (aK (aA (aT (aU rfl) aI (aA (aT (aU rfl) aI (aC (pv 0)) (aA (aQ jH gV (aC (pv 3)) (aA aE))))) (aA aE))) (aK (aA (aT (aU rfl) aI (aA (aT (aU rfl) aI (aC (pv 0)) (aC (pv 3)))) (aA aE))) aR))))) (aC (pv 1)) (bK _)) (Fl.aO (lG rfl (L2.dP (iV BS BW BX gQ (pv 2) (aK (aT (aU rfl) aI (aA (aT (aU rfl) aI (aC (pv 0)) (aC (pv 3)))) (aA aE)) aR))))) Fl.cW))))
   (Fl.aO (Fl.bD (aP (eD rfl (bV cC rfl T.b_tuple BB (aK (aC (pv 2)) aR)))))))))
theorem qZ:FnScope ["_law_machine","_law_strip_here","_law_stands","_law_word","_law_border","_law_ending","_law_paper","_law_again","_law_crossing_here","_law_another"] ["_law_machine","_law_strip_here","_law_stands","_law_word","_law_border"] (aN (top 48)):=by constructor<;>first|rfl|decide +kernel
theorem aAU(T:Txt w K mg)(D:DefAt K mg "_law_walked" (top 48) ["_law_machine","_law_strip_here","_law_stands","_law_word","_law_border"])(g:aY P w K mg base TH 4 "walk" ["machine","strip"] kW)(j:aY P w K mg base TH 3 "path" ["machine","strip"] jB)(b:aY P w K mg base TH 5 "holds" ["machine","strip","paper"] gY)(a:aY P w K mg base TH 1 "_law_crossing" ["_law_stands","_law_border"] gH)(e:jA K mg ["LetBy","ShutOut","ForEver"] "room")(d:jA K mg ["LetBy","ShutOut","ForEver"] "place")(mt_says:∀ p∈[(("LetBy":Str),kU),(("ShutOut":Str),jJ),(("ForEver":Str),jK)],sN P w K mg base TH 1 p.1 "says" p.2)(mt_paper:∀ p∈[(("LetBy":Str),hV),(("ShutOut":Str),f7),(("ForEver":Str),f8)],sN P w K mg base TH 1 p.1 "paper" p.2):aY P w K mg base TH 6 "_law_walked" ["_law_machine","_law_strip_here","_law_stands","_law_word","_law_border"] dE:=
 @dB P w K mg base TH "_law_walked" (top 48) ["_law_machine","_law_strip_here","_law_stands","_law_word","_law_border","_law_ending","_law_paper","_law_again","_law_crossing_here","_law_another"] ["_law_machine","_law_strip_here","_law_stands","_law_word","_law_border"] 5 jE D qZ (fun f l A k s H F E c=>by
  have nd:=qZ.nd
  exact (Fl.aG (Fl.aH (L2.aH (i:=5) nd rfl (Or.inl rfl) (bN rfl rfl rfl (bM g (c.mono (by decide)) rfl (bP fun _ _ _ h=>h) (aD (aJ (pv 0)) (aD (aJ (pv 1)) a9))))))
   (Fl.aG (Fl.dU (PW.pt (Fl.n6 (Fl.cI (lF rfl c.units) i8 (aA (dF (bN rfl rfl rfl (bM j (c.mono (by decide)) rfl (bP fun _ _ _ h=>h) (aD (aJ (pv 0)) (aD (aJ (pv 1)) a9)))))) (aC (pv 2)) (bK _)) (Fl.n6 (Fl.cI (lF rfl c.units) i8 (aA (dF (aC2 rfl rfl rfl mt_says (c.mono (by decide)) (bP fun _ _ _ h=>h) (mX (pv 5))))) (aC (pv 3)) (bK _)) (Fl.qB (Fl.cI (lF rfl c.units) i8 (aA (b9 (aF (j0 rfl rfl d (jW (pv 5) rfl)) (aF (j0 rfl rfl e (jW (pv 5) rfl)) aW)))) (aA (aT (aU rfl) aI (aC (pv 2)) (aA (iR fG dO (aA aE))))) (bK _)))))) (Fl.aO (Fl.bD (aP jD))) Fl.cW)
   (Fl.aG (Fl.aH (L2.aH (i:=6) nd rfl (Or.inl rfl) (aC2 rfl rfl rfl mt_paper (c.mono (by decide)) (bP fun _ _ _ h=>h) (mX (pv 5)))))
   (Fl.aG (Fl.dU (Fl.cI aK3 aFW (aA (dF (bN rfl rfl rfl (bM b (c.mono (by decide)) rfl (bP fun _ _ _ h=>h) (aD (aJ (pv 0)) (aD (aJ (pv 1)) (aD (aJ (pv 6)) a9))))))) (aA jD) (bK _)) (Fl.aO (Fl.bD (aP jD))) Fl.cW)
   (Fl.aG (Fl.dU (Fl.cI (dA rfl c.units) b7 (aC (pv 3)) (aA dJ) (bK _)) (Fl.aG (Fl.aH (L2.aH (i:=7) nd rfl (Or.inl rfl) (aP (aQ jH gV (aA (fR rfl (dG dQ rfl T.b_len BR (aK (aC (pv 2)) aR)))) (aA aE)))))
   (Fl.aO (Fl.bD (aP (aD9 (fJ (dA rfl c.units) b7 (aC (pv 6)) (aA (b9 (@aF _ _ _ _ _ _ _ dJ (@aF _ _ _ _ _ _ _ aE (@aF _ _ _ _ _ _ _ aE (@aF _ _ _ _ _ _ _ aE (aF (bX (pv 7)) aW) jU) jU) jU) jU))) (bK _)) (aD8 (fJ aG4 aBZ (aA (dF (bN rfl rfl rfl (bM b (c.mono (by decide)) rfl (bP fun _ _ _ h=>h) (aD (aJ (pv 0)) (aD (aJ (pv 1)) (aD (aP (b9 (@aF _ _ _ _ _ _ _ dJ (@aF _ _ _ _ _ _ _ aE (@aF _ _ _ _ _ _ _ aE (@aF _ _ _ _ _ _ _ aE (aF (aQ jH gV (aC (pv 7)) (aA aE)) aW) jU) jU) jU) jU))) a9))))))) (aA jD) (bK _)))))))) Fl.cW)
   (Fl.aG (Fl.aH (L2.aH (i:=8) nd rfl (Or.inl rfl) (bN rfl rfl rfl (bM a (c.mono (by decide)) rfl (bP fun _ _ _ h=>h) (aD (aJ (pv 2)) (aD (aJ (pv 4)) a9))))))
   (Fl.aG (Fl.dU (PW.pt (Fl.n6 (Fl.cI (lF rfl c.units) i8 (aA (aT (aU rfl) aI (aC (pv 6)) (aA aE))) (aC (pv 3)) (bK _)) (Fl.n6 (Fl.cI (lF rfl c.units) i8 (aA (fR rfl (dG dQ rfl T.b_len BR (aK (aA (aT (aU rfl) aI (aC (pv 6)) (aA aE))) aR)))) (aA (aQ (cD rfl) bO (aA (fR rfl (dG dQ rfl T.b_len BR (aK (aC (pv 1)) aR)))) (aA aE))) (bK _)) (Fl.qB (Fl.cI (lF rfl c.units) i8 (aA (aT (aU rfl) aI (aA (aT (aU rfl) aI (aC (pv 6)) (aA aE))) (aC (pv 4)))) (aC (pv 8)) (bK _)))))) (Fl.aO (Fl.bD (aP jD))) Fl.cW)
   (Fl.aG (Fl.aH (L2.aH (i:=9) nd rfl (Or.inl rfl) (aP (aQ (cD rfl) bO (aA (b9 (aF (aQ (cD rfl) bO (aA (aT (aU rfl) aI (aC (pv 8)) (aA aE))) (aA aE)) aW))) (aA (mV rfl (aC (pv 8)) (pK (aA aE)) pJ))))))
   (Fl.aO (Fl.bD (aP (fJ aG4 aBZ (aA (dF (bN rfl rfl rfl (bM b (c.mono (by decide)) rfl (bP fun _ _ _ h=>h) (aD (aJ (pv 0)) (aD (aJ (pv 1)) (aD (aP (b9 (aF (bX (pv 3)) (aF (aQ (cD rfl) bO (aA (aQ (aM9 rfl) aIV (aA (mV rfl (aA (aT (aU rfl) aI (aC (pv 6)) (aA aE))) pJ (pK (aC (pv 4))))) (aA (b9 (aF (bX (pv 9)) aW))))) (aA (mV rfl (aA (aT (aU rfl) aI (aC (pv 6)) (aA aE))) (pK (aA (aQ (cD rfl) bO (aC (pv 4)) (aA aE)))) pJ))) aW)))) a9))))))) (aA jD) (bK _))))))))))))))
theorem q9:FnScope ["_law_machine","_law_strip_here","_law_counts","_law_word","_law_cut","_law_due","_law_found","_law_put"] ["_law_machine","_law_strip_here","_law_counts","_law_word","_law_cut"] (aN (top 49)):=by constructor<;>first|rfl|decide +kernel
theorem aAV(T:Txt w K mg)(D:DefAt K mg "_law_tabled" (top 49) ["_law_machine","_law_strip_here","_law_counts","_law_word","_law_cut"])(c:aY P w K mg base TH 2 "_law_due_table" ["_law_machine","_law_counts","_law_size"] f9)(b:aY P w K mg base TH 4 "table_of" ["machine","strip"] iL)(e:aY P w K mg base TH 2 "behind" ["one","other"] kQ)(j:aY P w K mg base TH 1 "said" ["machine","table"] uG)(d:aY P w K mg base TH 4 "beginning" ["machine","strip"] j4)(a:aY P w K mg base TH 2 "_law_due_beginning" ["_law_machine","_law_counts","_law_size"] eU):aY P w K mg base TH 5 "_law_tabled" ["_law_machine","_law_strip_here","_law_counts","_law_word","_law_cut"] eK:=
 @dB P w K mg base TH "_law_tabled" (top 49) ["_law_machine","_law_strip_here","_law_counts","_law_word","_law_cut","_law_due","_law_found","_law_put"] ["_law_machine","_law_strip_here","_law_counts","_law_word","_law_cut"] 4 lD D q9 (fun f l A k s H F E g=>by
  have nd:=q9.nd
  exact (Fl.aG (Fl.aH (L2.aH (i:=5) nd rfl (Or.inl rfl) (bN rfl rfl rfl (bM c (g.mono (by decide)) rfl (bP fun _ _ _ h=>h) (aD (aJ (pv 0)) (aD (aJ (pv 2)) (aD (aP (fR rfl (dG dQ rfl T.b_len BR (aK (aC (pv 1)) aR)))) a9)))))))
   (Fl.aG (Fl.aH (L2.aH (i:=6) nd rfl (Or.inl rfl) (bN rfl rfl rfl (bM b (g.mono (by decide)) rfl (bP fun _ _ _ h=>h) (aD (aJ (pv 0)) (aD (aJ (pv 1)) a9))))))
   (Fl.aG (Fl.aH (L2.aH (i:=7) nd rfl (Or.inl rfl) (bN rfl rfl rfl (bM e (g.mono (by decide)) rfl (bP fun _ _ _ h=>h) (aD (bN rfl rfl rfl (bM b (g.mono (by decide)) rfl (bP fun _ _ _ h=>h) (aD (aJ (pv 0)) (aD (aP (mV rfl (aC (pv 1)) pJ (pK (aC (pv 4))))) a9)))) (aD (bN rfl rfl rfl (bM b (g.mono (by decide)) rfl (bP fun _ _ _ h=>h) (aD (aJ (pv 0)) (aD (aP (mV rfl (aC (pv 1)) (pK (aC (pv 4))) pJ)) a9)))) a9))))))
   (Fl.aG (Fl.dU (PW.pt (Fl.n6 (Fl.cI (lF rfl g.units) i8 (aC (pv 6)) (aC (pv 5)) (bK _)) (Fl.n6 (Fl.cI (lF rfl g.units) i8 (aC (pv 7)) (aC (pv 5)) (bK _)) (Fl.qB (Fl.cI (lF rfl g.units) i8 (aA (dF (bN rfl rfl rfl (bM j (g.mono (by decide)) rfl (bP fun _ _ _ h=>h) (aD (aJ (pv 0)) (aD (aJ (pv 6)) a9)))))) (aC (pv 3)) (bK _)))))) (Fl.aO (Fl.bD (aP jD))) Fl.cW)
   (Fl.aO (Fl.bD (aP (fJ (dA rfl g.units) b7 (aA (dF (bN rfl rfl rfl (bM d (g.mono (by decide)) rfl (bP fun _ _ _ h=>h) (aD (aJ (pv 0)) (aD (aJ (pv 1)) a9)))))) (aA (dF (bN rfl rfl rfl (bM a (g.mono (by decide)) rfl (bP fun _ _ _ h=>h) (aD (aJ (pv 0)) (aD (aJ (pv 2)) (aD (aP (fR rfl (dG dQ rfl T.b_len BR (aK (aC (pv 1)) aR)))) a9))))))) (bK _))))))))))
theorem aK8:FnScope ["_law_script","_law_signs","_law_size","_law_strip_here","_law_cell_here","_law_border","_law_last","_law_times","_law_machine","_law_stands","_law_word","_law_counts","_law_p","_law_q","_law_rests"] ["_law_script"] (aN (top 50)):=by constructor<;>first|rfl|decide +kernel
theorem aSL(T:Txt w K mg){n:Az}{l:FuncData}(p:Fun K "law" "law" (top 50) n l)(a:aY P w K mg base TH 1 "_law_cell" ["_law_script","_law_k"] bT)(j:aY P w K mg base TH 2 "_law_strip" ["_law_script","_law_at","_law_size","_law_signs"] gW)(b:aY P w K mg base TH 1 "_law_pendulum" ["_law_times","_law_signs","_law_last"] fH)(g:aY P w K mg base TH 1 "_law_swept" ["_law_times","_law_size","_law_last"] gL)(d:aY P w K mg base TH 1 "_law_sweeper" ["_law_p","_law_q","_law_a","_law_b","_law_signs"] iI)(c:aY P w K mg base TH 1 "_law_counted" ["_law_p","_law_q","_law_a","_law_size"] fW)(f:aY P w K mg base TH 6 "_law_walked" ["_law_machine","_law_strip_here","_law_stands","_law_word","_law_border"] dE)(e:aY P w K mg base TH 5 "_law_tabled" ["_law_machine","_law_strip_here","_law_counts","_law_word","_law_cut"] eK):FnOk P w K mg base (CXe P w) 7 n l ["_law_script"] (spF (gOf P w K mg base TH) K mg 1 aC5):=
 @aRZ P w K mg base TH "law" (top 50) ["_law_script","_law_signs","_law_size","_law_strip_here","_law_cell_here","_law_border","_law_last","_law_times","_law_machine","_law_stands","_law_word","_law_counts","_law_p","_law_q","_law_rests"] ["_law_script"] 6 n l aI1 p aK8 (fun o A m s H F E k=>by
  have nd:=aK8.nd
  exact (Fl.aG (Fl.aH (L2.aH (i:=1) nd rfl (Or.inl rfl) (aP (aQ (cD rfl) bO (aA aE) (aA (aQ cK bS (aA (dF (bN rfl rfl rfl (bM a (k.mono (by decide)) rfl (bP fun _ _ _ h=>h) (aD (aJ (pv 0)) (aD (aP aE) a9)))))) (aA aE)))))))
   (Fl.aG (Fl.aH (L2.aH (i:=2) nd rfl (Or.inl rfl) (aP (aT (aU rfl) aI (aA (dD (dN (aF (aQ cK bS (aA (dF (bN rfl rfl rfl (bM a (k.mono (by decide)) rfl (bP fun _ _ _ h=>h) (aD (aJ (pv 0)) (aD (aP aE) a9)))))) (aA aE)) (aF (aQ (cD rfl) bO (aA aE) (aA (aQ cK bS (aA (dF (bN rfl rfl rfl (bM a (k.mono (by decide)) rfl (bP fun _ _ _ h=>h) (aD (aJ (pv 0)) (aD (aP aE) a9)))))) (aA aE)))) aW))))) (aA (iG (bV fQ rfl T.b_int BV (aK (aA (fJ t7 oP (aA (aQ cK bS (aA (dF (bN rfl rfl rfl (bM a (k.mono (by decide)) rfl (bP fun _ _ _ h=>h) (aD (aJ (pv 0)) (aD (aP aE) a9)))))) (aA aE))) (aA aE) (bK _))) aR))))))))
   (Fl.aG (Fl.aH (L2.aH (i:=3) nd rfl (Or.inl rfl) (bN rfl rfl rfl (bM j (k.mono (by decide)) rfl (bP fun _ _ _ h=>h) (aD (aJ (pv 0)) (aD (aP aE) (aD (aJ (pv 2)) (aD (aJ (pv 1)) a9))))))))
   (Fl.aG (Fl.aH (L2.aH (i:=4) nd rfl (Or.inl rfl) (bN rfl rfl rfl (bM a (k.mono (by decide)) rfl (bP fun _ _ _ h=>h) (aD (aJ (pv 0)) (aD (aP aE) a9))))))
   (Fl.aG (Fl.aH (L2.aH (i:=5) nd rfl (Or.inl rfl) (aP (aQ cK bS (aA (dF (bN rfl rfl rfl (bM a (k.mono (by decide)) rfl (bP fun _ _ _ h=>h) (aD (aJ (pv 0)) (aD (aP aE) a9)))))) (aA (aQ (cD rfl) bO (aC (pv 2)) (aA aE)))))))
   (Fl.aG (Fl.dU (Fl.cI (dA rfl k.units) b7 (aA (aQ cK bS (aC (pv 4)) (aA aE))) (aA aE) (bK _)) (Fl.aG (Fl.aH (L2.aH (i:=6) nd rfl (Or.inl rfl) (aP (aT (aU rfl) aI (aA (dD (dN (aF dJ (aF dJ (aF aE aW)))))) (aA (aQ cK bS (aA (aQ lZ jO (aC (pv 4)) (aA aE))) (aA aE)))))))
   (Fl.aG (Fl.aH (L2.aH (i:=7) nd rfl (Or.inl rfl) (aP (aQ (cD rfl) bO (aA aE) (aA (aQ cK bS (aA (aQ lZ jO (aC (pv 4)) (aA aE))) (aA aE)))))))
   (Fl.aG (Fl.aH (L2.aH (i:=8) nd rfl (Or.inl rfl) (bN rfl rfl rfl (bM b (k.mono (by decide)) rfl (bP fun _ _ _ h=>h) (aD (aJ (pv 7)) (aD (aJ (pv 1)) (aD (aJ (pv 6)) a9)))))))
   (Fl.aG (Fl.aH (L2.aH (i:=9) nd rfl (Or.inl rfl) (bN rfl rfl rfl (bM g (k.mono (by decide)) rfl (bP fun _ _ _ h=>h) (aD (aJ (pv 7)) (aD (aJ (pv 2)) (aD (aJ (pv 6)) a9)))))))
   (Fl.aG (Fl.aH (L2.aH (i:=10) nd rfl (Or.inl rfl) (aP (aT (aU rfl) aI (aA (dD (dN (aF dJ (aF (bX (pv 6)) aW))))) (aA (iG (bV fQ rfl T.b_int BV (aK (aA (fJ (lF rfl k.units) i8 (aC (pv 6)) (aA aE) (bK _))) aR))))))))
   (Fl.aO (Fl.aH (L2.aH (i:=11) nd rfl (Or.inl rfl) (aP (b9 (aF aE (aF aE aW)))))))))))) (Fl.aG (Fl.aH (L2.aH (i:=11) nd rfl (Or.inl rfl) (aP (b9 (aF (aQ (cD rfl) bO (aA aE) (aA (aQ cK bS (aA (aQ lZ jO (aC (pv 4)) (aA aE))) (aA aE)))) (aF (aQ (cD rfl) bO (aA aE) (aA (aQ cK bS (aA (aQ lZ jO (aC (pv 4)) (aA aE))) (aA aE)))) aW))))))
   (Fl.aG (aKH (yF rfl (kM (cL 12) (kM (cL 13) vH)) rfl) (nQ (bX (pv 11)) (xR rfl (kH (cG (i:=12) nd rfl (Or.inl rfl)) (kH (cG (i:=13) nd rfl (Or.inl rfl)) uY)))))
   (Fl.aG (g7 (L2.aH (i:=14) nd rfl (Or.inl rfl) (dN (aF (aQ cK bS (aC (pv 2)) (aC (pv 12))) (aF (aQ cK bS (aC (pv 2)) (aC (pv 13))) aW)))))
   (Fl.aG (Fl.dU (Fl.cI (dA rfl k.units) b7 (aA (aQ cK bS (aA (aQ lZ jO (aC (pv 4)) (aA aE))) (aA aE))) (aA aE) (bK _)) (Fl.aO (aKE (nQ (aQ cK bS (aA (dF (bN rfl rfl rfl (bM a (k.mono (by decide)) rfl (bP fun _ _ _ h=>h) (aD (aJ (pv 0)) (aD (aP aE) a9)))))) (aC (pv 12))) (qC (pv 14) (aA aE) aDH)))) Fl.cW)
   (Fl.aG (Fl.dU (Fl.cI (dA rfl k.units) b7 (aA (aQ cK bS (aA (aQ lZ jO (aC (pv 4)) (aA aE))) (aA aE))) (aA aE) (bK _)) (Fl.aO (aKE (nQ (aQ cK bS (aA (dF (bN rfl rfl rfl (bM a (k.mono (by decide)) rfl (bP fun _ _ _ h=>h) (aD (aJ (pv 0)) (aD (aP aE) a9)))))) (aC (pv 13))) (qC (pv 14) (aA aE) aDH)))) Fl.cW)
   (Fl.aG (Fl.aH (L2.aH (i:=8) nd rfl (Or.inl rfl) (bN rfl rfl rfl (bM d (k.mono (by decide)) rfl (bP fun _ _ _ h=>h) (aD (aJ (pv 12)) (aD (aJ (pv 13)) (aD (aP (aT (aU rfl) aI (aC (pv 14)) (aA aE))) (aD (aP (aT (aU rfl) aI (aC (pv 14)) (aA aE))) (aD (aJ (pv 1)) a9)))))))))
   (Fl.aG (Fl.aH (L2.aH (i:=9) nd rfl (Or.inl rfl) (bN rfl rfl rfl (bM c (k.mono (by decide)) rfl (bP fun _ _ _ h=>h) (aD (aJ (pv 12)) (aD (aJ (pv 13)) (aD (aP (aT (aU rfl) aI (aC (pv 14)) (aA aE))) (aD (aJ (pv 2)) a9))))))))
   (Fl.aO (Fl.aH (L2.aH (i:=10) nd rfl (Or.inl rfl) (aP (aT (aU rfl) aI (aA (dD (dN (aF dJ (aF dJ aW))))) (aA (iG (bV fQ rfl T.b_int BV (aK (aA (fJ (dA rfl k.units) b7 (aC (pv 14)) (aA (dD (dN (aF (aQ cK bS (aC (pv 2)) (aC (pv 12))) (aF (aQ cK bS (aC (pv 2)) (aC (pv 13))) aW))))) (bK _))) aR)))))))))))))))))
   (Fl.aG (Fl.dU (Fl.tP (Fl.tN (dF (bN rfl rfl rfl (bM f (k.mono (by decide)) rfl (bP fun _ _ _ h=>h) (aD (aJ (pv 8)) (aD (aJ (pv 3)) (aD (aJ (pv 9)) (aD (aJ (pv 10)) (aD (aJ (pv 5)) a9)))))))))) (Fl.aO (Fl.bD (aP jD))) Fl.cW)
   (Fl.aO (Fl.bD (bN rfl rfl rfl (bM e (k.mono (by decide)) rfl (bP fun _ _ _ h=>h) (aD (aJ (pv 8)) (aD (aJ (pv 3)) (aD (aJ (pv 11)) (aD (aJ (pv 10)) (aD (aP (aQ cK bS (aA (dF (bN rfl rfl rfl (bM a (k.mono (by decide)) rfl (bP fun _ _ _ h=>h) (aD (aJ (pv 0)) (aD (aP aE) a9)))))) (aA (aQ (cD rfl) bO (aC (pv 2)) (aA aE))))) a9)))))))))))))))))
end
mutual
def nbD:Dz->Bool
 | .bool _=>false
 | .dict _=>false
 | .list xs=>sR xs
 | .tuple xs=>sR xs
 | _=>true
def sR:List Dz->Bool
 | []=>true
 | x::t=>nbD x && sR t
end
theorem aAW:∀ {xs:List Dz},(∀ x∈xs,nbD x=true)->sR xs=true
 | [],_=>rfl
 | x::t,h=>by
  show (nbD x && sR t)=true
  rw[h x BI,aAW fun y a=>h y (A9 _ a)];rfl
mutual
theorem y4:∀ d:Dz,d.canLay0=true->d.eqv d=true
 | .none,_=>by rfl
 | .bool b,_=>by simp[PyData.eqv]
 | .int i,_=>by simp[PyData.eqv]
 | .str x,_=>by simp[PyData.eqv]
 | .list xs,h=>by
  show PyData.eqvAll xs xs=true
  exact aAX xs h
 | .tuple xs,h=>by
  show PyData.eqvAll xs xs=true
  exact aAX xs h
 | .dict _,h=>by cases h
theorem aAX:∀ xs:List Dz,PyData.canLayAll0 xs=true->PyData.eqvAll xs xs=true
 | [],_=>by rfl
 | x::t,h=>by
  have h':(x.canLay0 && PyData.canLayAll0 t)=true:=h
  rw[BD] at h'
  show (x.eqv x && PyData.eqvAll t t)=true
  rw[y4 x h'.1,aAX t h'.2];rfl
end
mutual
theorem aK9:∀ x y:Dz,nbD x=true->nbD y=true->x.eqv y=true->x=y
 | .none,.none,_,_,_=>rfl
 | .int i,.int j,_,_,h=>by simp[PyData.eqv] at h;rw[h]
 | .str i,.str j,_,_,h=>by simp[PyData.eqv] at h;rw[h]
 | .list xs,.list ys,h1,h2,h=>by rw[aAY xs ys h1 h2 h]
 | .tuple xs,.tuple ys,h1,h2,h=>by rw[aAY xs ys h1 h2 h]
 | .bool _,_,h,_,_=>by cases h
 | .dict _,_,h,_,_=>by cases h
 | _,.bool _,_,h,_=>by cases h
 | _,.dict _,_,h,_=>by cases h
 | .none,.int _,_,_,h=>by simp[PyData.eqv] at h
 | .none,.str _,_,_,h=>by simp[PyData.eqv] at h
 | .none,.list _,_,_,h=>by simp[PyData.eqv] at h
 | .none,.tuple _,_,_,h=>by simp[PyData.eqv] at h
 | .int _,.none,_,_,h=>by simp[PyData.eqv] at h
 | .int _,.str _,_,_,h=>by simp[PyData.eqv] at h
 | .int _,.list _,_,_,h=>by simp[PyData.eqv] at h
 | .int _,.tuple _,_,_,h=>by simp[PyData.eqv] at h
 | .str _,.none,_,_,h=>by simp[PyData.eqv] at h
 | .str _,.int _,_,_,h=>by simp[PyData.eqv] at h
 | .str _,.list _,_,_,h=>by simp[PyData.eqv] at h
 | .str _,.tuple _,_,_,h=>by simp[PyData.eqv] at h
 | .list _,.none,_,_,h=>by simp[PyData.eqv] at h
 | .list _,.int _,_,_,h=>by simp[PyData.eqv] at h
 | .list _,.str _,_,_,h=>by simp[PyData.eqv] at h
 | .list _,.tuple _,_,_,h=>by simp[PyData.eqv] at h
 | .tuple _,.none,_,_,h=>by simp[PyData.eqv] at h
 | .tuple _,.int _,_,_,h=>by simp[PyData.eqv] at h
 | .tuple _,.str _,_,_,h=>by simp[PyData.eqv] at h
 | .tuple _,.list _,_,_,h=>by simp[PyData.eqv] at h
theorem aAY:∀ xs ys:List Dz,sR xs=true->sR ys=true->PyData.eqvAll xs ys=true->xs=ys
 | [],[],_,_,_=>rfl
 | [],_::_,_,_,h=>by simp[PyData.eqvAll] at h
 | _::_,[],_,_,h=>by simp[PyData.eqvAll] at h
 | x::xs,y::ys,h1,h2,h=>by
  have h1':(nbD x && sR xs)=true:=h1
  have a:(nbD y && sR ys)=true:=h2
  have h':(x.eqv y && PyData.eqvAll xs ys)=true:=h
  rw[BD] at h1' a h'
  rw[aK9 x y h1'.1 a.1 h'.1,aAY xs ys h1'.2 a.2 h'.2]
end
theorem aE9{d:Dz}(h:SeqAt.shaped d=true):d.canLay0=true:=by
 have h':(d.canLay0 && decide (d.depth<=64))=true:=h
 rw[BD] at h'
 exact h'.1
theorem aLA{x y:Dz}(b:nbD x=true)(a:nbD y=true)(l:SeqAt.shaped x=true):x.eqv y=decide (x=y):=by
 by_cases h:x=y
 .subst h;rw[y4 x (aE9 l),AT rfl]
 .rw[AW h]
  cases q:x.eqv y with
  | false=>rfl
  | true=>exact absurd (aK9 x y b a q) h
structure Cp(d:Dz):Prop where
 nb:nbD d=true
 sh:SeqAt.shaped d=true
theorem aLB{x y:Dz}(a:Cp x)(b:Cp y):dEq x y=.ok (.bool (decide (x=y))):=by rw[mI a.sh b.sh,aLA a.nb b.nb a.sh]
theorem aLC{x:Dz}(h:SeqAt.shaped x=true):dEq x x=.ok (.bool true):=by rw[mI h h,y4 x (aE9 h)]
theorem lI{x:Dz}(h:SeqAt.shaped x=true):dNe x x=.ok (.bool false):=by rw[aEU h h,y4 x (aE9 h)];rfl
end Mc
namespace Fl
open L2 PyProof.Rows
@[simp] theorem aOA(i:Nat)(ρ:Sg):vO i ρ=match ρ[i]? with|some (some (.o e))=>.ok (.o e)|_=>.bad:=id rfl
@[simp] theorem aAZ(cn:Str)(fs:List Str)(f:Sg->R (List Dz))(ρ:Sg):sM cn fs f ρ=(f ρ).bind fun xs=>if xs.length=fs.length then .ok (.o ⟨cn,fs.zip xs⟩) else .bad:=id rfl
@[simp] theorem aFA(f:Sg->R A)(m:Str)(tb:List (Str×(List A->R A)))(ρ:Sg):vMt f m tb ρ=(f ρ).bind fun a=>match a with
 | .o e=>if (e.fs.lookup m).isNone=true then (match tb.lookup e.c with|some G=>G [.o e]|none=>.bad) else .bad
 | _=>.bad:=id rfl
@[simp] theorem y6(i:Nat)(cs:List Str)(g:Str)(ρ:Sg):eOF i cs g ρ=match ρ[i]? with
 | some (some (.o e))=>if cs.contains e.c=true then (match e.fs.lookup g with|some d=>.ok d|none=>.bad) else .bad
 | _=>.bad:=id rfl
@[simp] theorem aP8(f g:Sg->R Dz)(ρ:Sg):aIT f g ρ=(f ρ).bind fun x=>if isL x=true then (g ρ).bind fun y=>aAQ x y else .bad:=id rfl
@[simp] theorem aUC(xs:List Dz):isL (.list xs)=true:=id rfl
@[simp] theorem aA0(g g' a:Dz->Dz->R Dz)(b fb c fd:Sg->R Dz)(ρ:Sg):aAR g g' a b fb c fd ρ=(b ρ).bind fun x=>(fb ρ).bind fun y=>(g x y).bind fun z=>(asB z).bind fun k=>if k=true then (c ρ).bind fun w=>(g' y w).bind fun z=>(asB z).bind fun k=>if k=true then (fd ρ).bind fun u=>a w u else .ok (.bool false) else .ok (.bool false):=id rfl
@[simp] theorem aFB(a b:Bool):dIsntB (.bool a) (.bool b)=.ok (.bool (a != b)):=id rfl
@[simp] theorem aLD(a b:Bool):dIsB (.bool a) (.bool b)=.ok (.bool (a == b)):=id rfl
@[simp] theorem xL(f:Sg->R (List Dz))(g:Sg->R Dz)(ρ:Sg):vN f g ρ=(f ρ).bind fun xs=>(g ρ).bind fun y=>yP xs y:=id rfl
@[simp] theorem aNH(i:Nat)(a b:Sg->R (List Dz))(fs:Dz->Sg->O6 Sg)(c fe:Sg->R Dz)(ρ:Sg):aIU i a b fs c fe ρ=(a ρ).bind fun xs=>if i < ρ.length/\lL (ρ.set i none)=true then (b (ρ.set i none)).bind fun ys=>(pO fs c fe ys (List.replicate xs.length []) (ρ.set i none)).bind fun r=>.ok (.nx (r.2.set i (some (.d (.list (r.1.map PyData.list)))))) else .bad:=id rfl
theorem aSM{n:Nat}{i:Int}(h0:0<=i)(h1:i < n):ixN n i=some i.toNat:=by unfold ixN;rw[AA h0,AA h1]
end Fl
namespace Mc
open L2 PyProof.Rows Fl
structure PathOk(rs:List Rw)(z:List Nat)(ps:List (Int×Int))(s:Int×Int):Prop where
 nd:ps.Nodup
 val:∀ x∈ps++[s],iP rs z x
 st0:(ps++[s])[0]? = some (0,0)
 step:∀ (k:Nat) a b,(ps++[s])[k]? = some a->(ps++[s])[k+1]? = some b->cF rs z a=some b
 fin:(s∉ps/\cF rs z s=none)\/(s∈ps/\∃ s',cF rs z s=some s')
 few:ps.length<=lK rs z
theorem aNI{rs:List Rw}{sg:Nat}{z:List Nat}(M:Mach rs sg)(S:bY sg z):∀ (k:Nat) (ps:List (Int×Int)) (s:Int×Int),Way rs z ps s k->(ps++[s])[0]? = some (0,0)->(∀ (k:Nat) a b,(ps++[s])[k]? = some a->(ps++[s])[k+1]? = some b->cF rs z a=some b)->∃ ps' s',dZ rs z=ps'++[s']/\PathOk rs z ps' s':=by
 have f:∀ (k:Nat) (ps:List (Int×Int)) (s:Int×Int),Way rs z ps s k->(ps++[s])[0]? = some (0,0)->(∀ (k:Nat) a b,(ps++[s])[k]? = some a->(ps++[s])[k+1]? = some b->cF rs z a=some b)->s∈ps->∃ ps' s',dZ rs z=ps'++[s']/\PathOk rs z ps' s':=by
  intro k ps s W d h1 c
  refine ⟨ps,s,(W.stop c).symm,W.nd,W.val,d,h1,.inr ⟨c,?_⟩,by have:=W.num;omega⟩
  obtain ⟨j,h⟩:=List.getElem?_of_mem c
  have m:j < ps.length:=(A3.mp h).1
  have e1:(ps++[s])[j]? = some s:=by rw[BF m];exact h
  have e2:∃ b,(ps++[s])[j+1]? = some b:=⟨_,AN (by rw[AZ];simp;omega)⟩
  obtain ⟨b,e2⟩:=e2
  exact ⟨b,h1 j s b e1 e2⟩
 intro k
 induction k with
 | zero=>
  intro ps s W d h1
  by_cases c:s∈ps
  .exact f 0 ps s W d h1 c
  .obtain ⟨j,h⟩:=W.more c;omega
 | succ k ih=>
  intro ps s W d h1
  by_cases c:s∈ps
  .exact f _ ps s W d h1 c
  .cases e:cF rs z s with
   | none=>exact ⟨ps,s,(W.ends c e).symm,W.nd,W.val,d,h1,.inl ⟨c,e⟩,by have:=W.num;omega⟩
   | some s'=>
    refine ih (ps++[s]) s' (W.next M S c e) (by rw[BF (by simp)];exact d) fun k a b e1 e2=>?_
    by_cases l:k+1 < (ps++[s]).length
    .rw[BF l] at e2
     rw[BF (by omega)] at e1
     exact h1 k a b e1 e2
    .have g:k+1 < (ps++[s]++[s']).length:=(A3.mp e2).1
     rw[AZ,AZ] at g
     rw[AZ] at l
     simp only[AG,AK] at l g
     have i:k=ps.length:=by omega
     subst i
     have o:(ps++[s]++[s'])[ps.length]? = some s:=by rw[BF (by simp),B1 (A2 _)];simp
     have n:(ps++[s]++[s'])[ps.length+1]? = some s':=by rw[B1 (by simp)];simp
     rw[o] at e1;rw[n] at e2
     cases e1;cases e2
     exact e
theorem aA1{rs:List Rw}{sg:Nat}{z:List Nat}(M:Mach rs sg)(S:bY sg z):∃ ps s,dZ rs z=ps++[s]/\PathOk rs z ps s:=
 aNI M S (lK rs z) [] (0,0) (Way.start M) rfl fun k a b e1 e2=>by
  have:=(A3.mp e2).1
  simp at this
section
variable{rs:List Rw}{sg:Nat}{z:Str}
theorem aI6(M:Mach rs sg)(S:bY sg z.cps.toList){s:Int×Int}(V:iP rs z.cps.toList s):iW [.d (a8 rs),.d (.str z),.d (prD s)]=.ok (.d (.tuple [(bR rs z.cps.toList s).1.d,.int (bR rs z.cps.toList s).2])):=by
 obtain ⟨p,q⟩:=s
 have f:=yM V.2.2.1 V.2.2.2
 have u:z.length<=16777216:=by rw[hU];have:=S.1;omega
 have i:=o3 u
 rw[hU] at i
 generalize y:z.cps.toList=b at *
 have h:dIx (prD (p,q)) (.int 0)=.ok (.int p):=rfl
 have j:dIx (prD (p,q)) (.int 1)=.ok (.int q):=rfl
 have E:∀ r:Rw,dIx (cQ r) (.int 0)=.ok r.l.d:=fun r=>rfl
 have G:∀ r:Rw,dIx (cQ r) (.int 1)=.ok (.tuple (r.c.map fC)):=fun r=>rfl
 have F:∀ r:Rw,dIx (cQ r) (.int 2)=.ok r.r.d:=fun r=>rfl
 have f:dIx (a8 rs) (.int q)=.ok (cQ (aV rs q)):=f
 unfold iW uF
 by_cases a:p=0
 .subst a
  have e:bR rs b (0,q)=((aV rs q).l,1):=by unfold bR;rw[AA rfl]
  rw[e]
  simp[h,j,f,E,cH]
 .by_cases h1:p=(b.length:Int)+1
  .have e:bR rs b (p,q)=((aV rs q).r,-1):=by unfold bR;rw[AE a,AA h1]
   rw[e]
   have B:¬ ((b.length:Int)+1=0):=by omega
   have D:dEq (.int p) (.int 0)=.ok (.bool false):=by rw[cH,AW a]
   have e1:dEq (.int p) (.int ((b.length:Int)+1))=.ok (.bool true):=by rw[cH,AT h1]
   simp[h,j,f,F,D,e1,i]
  .obtain ⟨c,t,x,m⟩:=zU S V a h1
   obtain ⟨g,o,k,H⟩:=rK M S V a h1
   have w:=V.1
   have v:=V.2.1
   simp only at w v t m o k
   have e:bR rs b (p,q)=(.n g.1,g.2):=by unfold bR;rw[AE a,AE h1];simp only[k]
   rw[e]
   have C:dIx (.str z) (.int (p - 1))=.ok (.str ⟨#[c]⟩):=aIN u (j7 (by omega) (by rw[y,<-t];congr 1;omega))
   have id:=qR (o5 M.sg3 x)
   have A:dIx (.tuple ((aV rs q).c.map fC)) (.int ((c - 97:Nat):Int))=.ok (fC g):=kG (gI (by rw[AS,<-m,o];rfl))
   simp[h,j,f,G,cH,a,i,h1,C,id,A]
   rfl
theorem cat_w(M:Mach rs sg){a:List Nat}{s:Int×Int}{x:Str}(V:iP rs a s)(h:(bR rs a s).1=.w x):x="by"\/x="out":=by
 have b:=BA (gU V.2.2.1 V.2.2.2)
 have g:=(M.row _ b).1
 unfold bR at h
 split at h
 .have h:(aV rs s.2).l=.w x:=h
  have:=g.1;rw[h] at this;exact this
 .split at h
  .have h:(aV rs s.2).r=.w x:=h
   have:=g.2.1;rw[h] at this;exact this
  .cases h
def ptρ(rs:List Rw)(z:Str)(ps:List (Int×Int))(s:Int×Int)(u:O6 A):Sg:=[some (.d (a8 rs)),some (.d (.str z)),some (.d (prD s)),some (.l (ps.map prD++[prD s])),some (.m (been prD ps)),u]
theorem aSN{ps:List (Int×Int)}{s:Int×Int}{u:O6 A}(h:s∈ps):ptT (ptρ rs z ps s u)=.ok false:=by
 have h1:=fF hJ ps s
 have h2:=(mW gC).mpr h
 simp[ptT,ptρ,h1,h2]
theorem aHA{ps:List (Int×Int)}{s:Int×Int}{u:O6 A}(h:s∉ps):ptT (ptρ rs z ps s u)=.ok true:=by
 have h1:=fF hJ ps s
 have h2:=kR gC h
 simp[ptT,ptρ,h1,h2]
theorem aP9(M:Mach rs sg)(S:bY sg z.cps.toList){ps:List (Int×Int)}{s:Int×Int}{u:O6 A}{x:Str}(V:iP rs z.cps.toList s)(h:s∉ps)(g:ps.length<=2000000)(e:(bR rs z.cps.toList s).1=.w x):ptB (ptρ rs z ps s u)=.ok (.rt (.d (.list ((ps++[s]).map prD)))):=by
 have h1:=fF hJ ps s
 have c:=kS gC h
 have a:(been prD ps).length<=16777216:=by rw[jT];omega
 have f:=aI6 M S V
 rw[e] at f
 have b:=yO (cat_w M V e)
 simp[ptB,ptρ,h1,c,a,f,Tn.d,b]
theorem aSO(M:Mach rs sg)(S:bY sg z.cps.toList){ps:List (Int×Int)}{s:Int×Int}{u:O6 A}{q:Int}(V:iP rs z.cps.toList s)(h:s∉ps)(k:ps.length<=2000000)(e:(bR rs z.cps.toList s).1=.n q) :
  ∃ u',ptB (ptρ rs z ps s u)=.ok (.nx (ptρ rs z (ps++[s]) (s.1+(bR rs z.cps.toList s).2,q) u')):=by
 have h1:=fF hJ ps s
 have c:=kS gC h
 have b:(been prD ps).length<=16777216:=by rw[jT];omega
 have f:=aI6 M S V
 rw[e] at f
 generalize (bR rs z.cps.toList s).2=t at *
 have g:=yN q
 have j:ps.length+1 < 16777216:=by omega
 have a:dIx (prD s) (.int 0)=.ok (.int s.1):=rfl
 have p2:∀ i:Int,prD (i,q)=.tuple [.int i,.int q]:=fun i=>rfl
 exact ⟨some (.d (.tuple [.int q,.int t])),by simp[ptB,ptρ,h1,c,b,f,Tn.d,g,a,p2,j]⟩
theorem aQA(M:Mach rs sg)(S:bY sg z.cps.toList):∀ (k:Nat) (ps:List (Int×Int)) (s:Int×Int) (u:O6 A),Way rs z.cps.toList ps s k->
  aM (cX ptT ptB) (sFz 3 (bF (vV 3))) (ptρ rs z ps s u)=.ok (.rt (.d (.list ((dZ rs z.cps.toList).map prD)))):=by
 have i:lK rs z.cps.toList<=1002 * 1000:=G1 (by have:=S.1;omega) M.len2
 have b:∀ (k:Nat) (ps:List (Int×Int)) (s:Int×Int) (u:O6 A),Way rs z.cps.toList ps s k->s∈ps->aM (cX ptT ptB) (sFz 3 (bF (vV 3))) (ptρ rs z ps s u)=.ok (.rt (.d (.list ((dZ rs z.cps.toList).map prD)))):=by
  intro k ps s u W a
  rw[aX,iE (aSN a),<-W.stop a]
  simp[ptρ]
 intro k
 induction k with
 | zero=>
  intro ps s u W
  by_cases a:s∈ps
  .exact b 0 ps s u W a
  .obtain ⟨j,l⟩:=W.more a;omega
 | succ k ih=>
  intro ps s u W
  by_cases a:s∈ps
  .exact b _ ps s u W a
  .have f:ps.length<=2000000:=by have:=W.num;omega
   cases c:(bR rs z.cps.toList s).1 with
   | w x=>
    have e:cF rs z.cps.toList s=none:=by unfold cF;rw[c]
    rw[aX,l7 (aHA a) (aP9 M S W.here a f c),<-W.ends a e];rfl
   | n q=>
    have e:cF rs z.cps.toList s=some (s.1+(bR rs z.cps.toList s).2,q):=by unfold cF;rw[c]
    obtain ⟨h,g⟩:=aSO M S (u:=u) W.here a f c
    have:=ih (ps++[s]) _ h (W.next M S a e)
    rw[aX] at this ⊢
    rw[l6 (aHA a) g]
    exact this
theorem aA2(M:Mach rs sg)(S:bY sg z.cps.toList):qJ [.d (a8 rs),.d (.str z)]=.ok (.d (.list ((dZ rs z.cps.toList).map prD))):=by
 have h:=aQA M S (lK rs z.cps.toList) [] (0,0) none (Way.start M)
 have a:=sK M S
 have h:aM (cX ptT ptB) (sFz 3 (bF (vV 3))) [some (.d (a8 rs)),some (.d (.str z)),some (.d (.tuple [.int 0,.int 0])),some (.l [.tuple [.int 0,.int 0]]),some (.m []),none]=.ok (.rt (.d (.list ((dZ rs z.cps.toList).map prD)))):=h
 unfold qJ
 rw[aEO]
 rw[aX] at h
 simp only[cE,aX,oX,cY,dW,a,oY,fN,eS,bJ,eI,bW,fM,bL,R.bind_ok,AG,AK,Nat.reduceAdd,Nat.reduceSub,Nat.reduceLeDiff,A8,AI,A5,AU,AV,List.replicate,AJ,AM,AC,AB,cU,cT,h]
end
theorem aFC(i:Nat)(f g:Sg->R Dz)(ρ:Sg):aIE i f g ρ=(g ρ).bind fun x=>match ρ[i]? with
 | some (some (.l xs))=>(f ρ).bind fun k=>match k with
  | .int k=>match ixN xs.length k with
   | some j=>.ok (.nx (ρ.set i (some (.l (xs.set j x)))))
   | none=>.bad
  | _=>.bad
 | _=>.bad:=id rfl
def brd(a b:Int×Int):Nat:=(j9 a.1 b.1).toNat
def pH(xss:List (List Dz))(a b:Int×Int):List (List Dz):=xss.set (brd a b) (xss.getD (brd a b) []++[.int b.2])
def bdL:List (Int×Int)->List (List Dz)->List (List Dz)
 | a::b::t,xss=>bdL (b::t) (pH xss a b)
 | _,xss=>xss
def Adj(n:Nat)(l:List (Int×Int)):Prop:=∀ (k:Nat) a b,l[k]? = some a->l[k+1]? = some b->0<=j9 a.1 b.1/\j9 a.1 b.1 < n
theorem Adj.tail{n:Nat}{a:Int×Int}{l:List (Int×Int)}(h:Adj n (a::l)):Adj n l:=fun k x y e1 e2=>h (k+1) x y (by simpa using e1) (by simpa using e2)
theorem xM(c:List (List Dz))(a b:Int×Int):(pH c a b).length=c.length:=by unfold pH;rw[CC]
theorem vT:∀ (l:List (Int×Int)) (xss:List (List Dz)),(bdL l xss).length=xss.length
 | [],_=>rfl
 | [_],_=>rfl
 | a::b::t,xss=>by unfold bdL;rw[vT (b::t),xM]
def Few(m:Nat)(xss:List (List Dz)):Prop:=∀ r∈xss,r.length+m<=16777000
theorem aFD{m:Nat}{a:List (List Dz)}(h:Few m a)(j:Nat)(b:m<=16777000):(a.getD j []).length+m<=16777000:=by
 rw[AX]
 cases e:a[j]? with
 | none=>simpa using b
 | some r=>exact h r (BA e)
theorem aNJ{m:Nat}{c:List (List Dz)}{a b:Int×Int}(h:Few (m+1) c)(e:m+1<=16777000):Few m (pH c a b):=fun r d=>by
 unfold pH at d
 rcases GC d with q|q
 .have:=h r q;omega
 .have:=aFD h (brd a b) e
  rw[q,AZ,B6];omega
section
variable{D0 D1:Dz}
theorem aB4:∀ (l:List (Int×Int)) (xss:List (List Dz)) (u3 u4:O6 A),Adj xss.length l->Few l.length xss->l.length<=16777000->
  ∃ u3' u4',pO (stT [(stN 3),(stN 4)]) (e2 (d2 j9) (e2 dIx (rV 3) (eC (.int 0))) (e2 dIx (rV 4) (eC (.int 0)))) (e2 dIx (rV 4) (eC (.int 1))) ((l.zip (l.drop 1)).map fun p=>.tuple [prD p.1,prD p.2]) xss [some (.d D0),some (.d D1),none,u3,u4]=.ok (bdL l xss,[some (.d D0),some (.d D1),none,u3',u4'])
 | [],xss,u3,u4,_,_,_=>⟨u3,u4,rfl⟩
 | [a],xss,u3,u4,_,_,_=>⟨u3,u4,rfl⟩
 | a::b::t,xss,u3,u4,h,hf,hl=>by
  obtain ⟨h0,h1⟩:=h 0 a b rfl rfl
  obtain ⟨u3',u4',q⟩:=aB4 (b::t) (pH xss a b) (some (.d (prD a))) (some (.d (prD b))) (by rw[xM];exact h.tail) (aNJ hf hl) (by simp at hl ⊢;omega)
  refine ⟨u3',u4',?_⟩
  have e:((a::b::t).zip ((a::b::t).drop 1)).map (fun p=>PyData.tuple [prD p.1,prD p.2])=.tuple [prD a,prD b]::(((b::t).zip ((b::t).drop 1)).map fun p=>PyData.tuple [prD p.1,prD p.2]):=rfl
  rw[e]
  unfold pO bdL
  have m:=aFD hf (brd a b) hl
  have g:∀ s:Int×Int,dIx (prD s) (.int 0)=.ok (.int s.1):=fun s=>rfl
  have o:∀ s:Int×Int,dIx (prD s) (.int 1)=.ok (.int s.2):=fun s=>rfl
  have k:∀ i j:Int,d2 j9 (.int i) (.int j)=.ok (.int (j9 i j)):=fun i j=>rfl
  have n:=aSM h0 h1
  have c:lL [some (A.d D0),some (.d D1),none,some (.d (prD a)),some (.d (prD b))]=true:=rfl
  simp only[aEQ,xA,uH,aAJ,CD,AM,AJ,l5,R.bind_ok,c,A8,cA,bU,bW,AB,AC,g,o,k,n]
  have f:brd a b=(j9 a.1 b.1).toNat:=rfl
  rw[<-f,AA (by simp only[AG] at m;omega)]
  exact q
end
theorem aLE(l:List (Int×Int)):(((l.map prD).zip ((l.map prD).drop 1)).map Fl.aII)=(l.zip (l.drop 1)).map fun p=>PyData.tuple [prD p.1,prD p.2]:=by
 rw[<-List.map_drop,List.zip_map,BL];rfl
theorem aU5(xs:List Dz)(h:xs≠[]):oS xs (some 1) none=xs.drop 1:=by
 have h1:1<=xs.length:=by cases xs with|nil=>exact absurd rfl h|cons _ _=>simp
 have e:HT.sIx xs.length 0 (some 1)=1:=by
  have:=HT.aF6 xs.length 0 1
  rw[show ((1:Nat):Int)=1 from rfl] at this
  rw[this];omega
 unfold oS
 rw[HT.mQ,e,DI (by rw[CS];omega)]
def fX(xss:List (List Dz)):Dz:=.tuple (xss.map PyData.tuple)
theorem aSP{z:Str}{l:List (Int×Int)}(B:z.cps.toList.length<=1000)(o:l≠[])(y:l.length<=16000000)(v:Adj (z.cps.toList.length+1) l) :
  gX [.d (.list (l.map prD)),.d (.str z)]=.ok (.d (fX (bdL l (List.replicate (z.cps.toList.length+1) [])))):=by
 have b:=o3 (z:=z) (by rw[hU];omega)
 rw[hU] at b
 have k:fZ 0 ((z.cps.toList.length:Int)+1)=.ok ((List.range (z.cps.toList.length+1)).map fun i:Nat=>.int (i:Int)):=by
  have:=iY (n:=z.cps.toList.length+1) (by omega)
  rw[<-this];congr 1
 obtain ⟨s,t,q⟩:=aB4 (D0:=.list (l.map prD)) (D1:=.str z) l (List.replicate (z.cps.toList.length+1) []) none none (by rw[BP];exact v) (fun r k=>by rw[CL k];simp;omega) (by omega)
 have e:aEL (.list (l.map prD)) (.list ((l.map prD).drop 1))=.ok ((l.zip (l.drop 1)).map fun p=>PyData.tuple [prD p.1,prD p.2]):=by
  unfold aEL
  rw[sJ (by rw[AH];omega),R.bind_ok,sJ (by rw[CS,AH];omega),R.bind_ok,aLE]
 have g:dSl (.list (l.map prD)) (some 1) none=.ok (.list ((l.map prD).drop 1)):=by rw[aT1,aU5 _ (by simpa using o)]
 generalize m:bdL l (List.replicate (z.cps.toList.length+1) [])=a at *
 have h:a.length=z.cps.toList.length+1:=by rw[<-m,vT,BP]
 have f:dI (.list (a.map PyData.list))=.ok (a.map PyData.list):=sJ (by rw[AH,h];omega)
 have u:compL (stN 0) gE (e1 dTup (rV 0)) (fA [none] [some (.d (.list (l.map prD))),some (.d (.str z)),some (.d (.list (a.map PyData.list))),s,t]) (a.map PyData.list)=.ok (a.map PyData.tuple):=compL_of fun x w=>⟨_,rfl,rfl⟩
 unfold gX o7
 have j:lL [some (A.d (.list (l.map prD))),some (.d (.str z)),none,none,none]=true:=rfl
 have c:List.replicate 3 (none:O6 A)=[none,none,none]:=rfl
 simp only[cE,aX,aNH,gP,cA,bZ,bU,fM,bW,AI,A5,AG,AK,Nat.reduceAdd,Nat.reduceSub,c,AU,AV,AB,AC,b,R.bind_ok,gG,k,AM,AJ,j,and_true,Nat.reduceLT,A8,qN,qP,qO,g,e,AH,A0,q,cN,cT,kZ,lT,f,u,lH]
 rfl
theorem aNK{rs:List Rw}{sg:Nat}{z:List Nat}{a b:Int×Int}(M:Mach rs sg)(S:bY sg z)(V:iP rs z a)(h:cF rs z a=some b):0<=j9 a.1 b.1/\j9 a.1 b.1 < ((z.length+1:Nat):Int):=by
 have W:=x5 M S V h
 have o:b.1=a.1+1\/b.1=a.1 - 1:=by
  unfold cF at h
  cases e:(bR rs z a).1 with
  | w x=>rw[e] at h;cases h
  | n q=>
   rw[e] at h
   cases h
   have c:(bR rs z a).2=1\/(bR rs z a).2 = -1:=by
    by_cases d:a.1=0
    .left;unfold bR;rw[AA d]
    .by_cases h1:a.1=(z.length:Int)+1
     .right;unfold bR;rw[AE d,AA h1]
     .obtain ⟨p,m,f,g⟩:=rK M S V d h1
      unfold bR
      rw[AE d,AE h1]
      simp only[f]
      exact g.2.2
   rcases c with c|c<;>rw[c]
   .left;rfl
   .right;show a.1 + -1=a.1 - 1;omega
 obtain ⟨j,i,_,_⟩:=V
 obtain ⟨k,l,_,_⟩:=W
 unfold j9
 split<;>omega
theorem PathOk.adj{rs:List Rw}{sg:Nat}{z:List Nat}{ps:List (Int×Int)}{s:Int×Int}(M:Mach rs sg)(S:bY sg z)(P:PathOk rs z ps s):Adj (z.length+1) (ps++[s]):=fun k a b e1 e2=>
 aNK M S (P.val a (BA e1)) (P.step k a b e1 e2)
noncomputable def endE(rs:List Rw)(z:List Nat)(ps:List (Int×Int))(s:Int×Int):Er:=
 if eQ rs z="by" then ⟨"LetBy",[("place",.int s.1),("room",.int s.2),("borders",fX (bdL (ps++[s]) (List.replicate (z.length+1) [])))]⟩
 else if eQ rs z="out" then ⟨"ShutOut",[("place",.int s.1),("room",.int s.2),("borders",fX (bdL (ps++[s]) (List.replicate (z.length+1) [])))]⟩
 else ⟨"ForEver",[("place",.int s.1),("room",.int s.2),("first",.int (ps.idxOf s)),("again",.int ps.length)]⟩
inductive EndW(rs:List Rw)(z:List Nat)(ps:List (Int×Int))(s:Int×Int):Prop
 | b (h:eQ rs z="by") (n:s∉ps) (e:cF rs z s=none) (c:(bR rs z s).1=.w "by")
 | o (h:eQ rs z="out") (n:s∉ps) (e:cF rs z s=none) (c:(bR rs z s).1=.w "out")
 | e (h:eQ rs z="ever") (n:s∈ps) (q:Int) (c:(bR rs z s).1=.n q)
theorem y7{rs:List Rw}{sg:Nat}{z:Str}(M:Mach rs sg)(S:bY sg z.cps.toList):∃ ps s,dZ rs z.cps.toList=ps++[s]/\PathOk rs z.cps.toList ps s/\EndW rs z.cps.toList ps s:=by
 obtain ⟨ps,s,e,P⟩:=aA1 M S
 obtain ⟨_,l,s',i,V,q⟩:=aM5 M S
 rw[e] at i
 obtain ⟨rfl,h2⟩:=E1 i rfl
 cases h2
 refine ⟨ps,s,e,P,?_⟩
 rcases q with ⟨a,x,f,d⟩|⟨⟨s',a⟩,d⟩
 .have j:s∉ps:=by
   rcases P.fin with ⟨h,_⟩|⟨_,s',h⟩
   · exact h
   · rw [a] at h; cases h
  have c:eQ rs z.cps.toList=x:=by unfold eQ;rw[d];rfl
  rcases cat_w M V f with rfl|rfl
  .exact .b c j a f
  .exact .o c j a f
 .have k:s∈ps:=by
   rcases P.fin with ⟨_,h⟩|⟨h,_⟩
   · rw [a] at h; cases h
   · exact h
  have c:eQ rs z.cps.toList="ever":=by unfold eQ;rw[d];rfl
  cases g:(bR rs z.cps.toList s).1 with
  | w x=>unfold cF at a;rw[g] at a;cases a
  | n q=>exact .e c k q g
theorem uU(l:List (Int×Int))(s:Int×Int):dIx (.list ((l++[s]).map prD)) (.int (-1))=.ok (prD s):=by
 rw[BG,AI,A5];exact o6 _ _
theorem aFE{rs:List Rw}{sg:Nat}{z:List Nat}{ps:List (Int×Int)}{s:Int×Int}(M:Mach rs sg)(S:bY sg z)(P:PathOk rs z ps s):ps.length<=1002000:=by
 have a:lK rs z<=1002 * 1000:=G1 (by have:=S.1;omega) M.len2
 have:=P.few
 omega
theorem aUD(s:Int×Int):Sh 1 (prD s):=sh_tup fun y a=>by
 rcases AY.mp a with q|q
 · rw [q]; exact sh_int _ _
 · rw [A4.mp q]; exact sh_int _ _
theorem sS{l:List (Int×Int)}:SeqAt.shaped (.list (l.map prD))=true:=Sh.shaped (n:=2) (sh_lst fun x a=>by
 obtain ⟨s,_,rfl⟩:=BZ.mp a
 exact aUD s) (by decide)
theorem aOB(s:Int×Int):nbD (prD s)=true:=rfl
theorem aSQ{a b:Int×Int}:prD a=prD b↔a=b:=⟨fun h=>gC _ _ h,fun h=>by rw[h]⟩
theorem aFF(a b:Int×Int):PyData.eqv (prD a) (prD b)=decide (a=b):=by
 rw[aLA (aOB a) (aOB b) (iF a)]
 exact DR.mpr aSQ
theorem aHB(s:Int×Int):∀ (l t:List (Int×Int)),s∈l->((l++t).map prD).findIdx? (fun y=>PyData.eqv y (prD s))=some (l.idxOf s)
 | [],_,h=>by cases h
 | a::l,t,h=>by
  rw[AU,AI,List.findIdx?_cons,aFF]
  by_cases e:a=s
  .subst e
   rw[AT rfl,AA rfl,List.idxOf_cons_self]
  .rw[AW e,AE (by decide),aHB s l t (by
    rcases AY.mp h with z|z
    · exact absurd z.symm e
    · exact z), List.idxOf_cons, E6 e]
   rfl
section
variable{rs:List Rw}{sg:Nat}{z:Str}
theorem aQB(M:Mach rs sg)(S:bY sg z.cps.toList){ps:List (Int×Int)}{s:Int×Int}(B:dZ rs z.cps.toList=ps++[s])(P:PathOk rs z.cps.toList ps s)(W:EndW rs z.cps.toList ps s):yQ [.d (a8 rs),.d (.str z)]=.ok (.o (endE rs z.cps.toList ps s)):=by
 have m:=aA2 M S
 rw[B] at m
 have x:=aFE M S P
 have V:iP rs z.cps.toList s:=P.val s (by simp)
 have g:=aI6 M S V
 have y:=aSP (z:=z) (l:=ps++[s]) S.1 (by simp) (by rw[AZ];simp;omega) (P.adj M S)
 have u:=uU ps s
 have p:dIx (prD s) (.int 0)=.ok (.int s.1):=rfl
 have t:dIx (prD s) (.int 1)=.ok (.int s.2):=rfl
 have f:List.replicate 3 (none:O6 A)=[none,none,none]:=rfl
 have t0:∀ (a:Dz) (i:Int),dIx (.tuple [a,.int i]) (.int 0)=.ok a:=fun a i=>rfl
 unfold yQ aE2
 cases W with
 | b h n e c=>
  rw[c] at g
  have j:dEq (Tn.w "by").d (.str "by")=.ok (.bool true):=qT (.inl rfl) (.inl rfl)
  have k:endE rs z.cps.toList ps s=⟨"LetBy",[("place",.int s.1),("room",.int s.2),("borders",fX (bdL (ps++[s]) (List.replicate (z.cps.toList.length+1) [])))]⟩:=by unfold endE;rw[AA h]
  simp only[cE,aX,cU,cY,bJ,bL,dW,R.bind_ok,AI,A5,AG,AK,Nat.reduceAdd,Nat.reduceSub,f,AU,AV,AC,AB,A8,m,AJ,AM,cT,cA,bZ,bU,bW,hZ,u,gO,g,fK,t0,cZ,j,cJ,cN,aAZ,p,t,y,k]
  rfl
 | o h n e c=>
  rw[c] at g
  have j:dEq (Tn.w "out").d (.str "by")=.ok (.bool false):=qT (.inr (.inl rfl)) (.inl rfl)
  have r:dEq (Tn.w "out").d (.str "out")=.ok (.bool true):=qT (.inr (.inl rfl)) (.inr (.inl rfl))
  have k:endE rs z.cps.toList ps s=⟨"ShutOut",[("place",.int s.1),("room",.int s.2),("borders",fX (bdL (ps++[s]) (List.replicate (z.cps.toList.length+1) [])))]⟩:=by unfold endE;rw[AE (by rw[h];decide),AA h]
  simp only[cE,aX,cU,cY,bJ,bL,dW,R.bind_ok,AI,A5,AG,AK,Nat.reduceAdd,Nat.reduceSub,f,AU,AV,AC,AB,A8,m,AJ,AM,cT,cA,bZ,bU,bW,hZ,u,gO,g,fK,t0,cZ,j,r,A7,BQ,fU,cJ,cN,aAZ,p,t,y,k]
  rfl
 | e h n q c=>
  rw[c] at g
  have j:dEq (Tn.n q).d (.str "by")=.ok (.bool false):=by show dEq (.int q) (.str "by")=_;rw[mI (iX q) (sL (.inl rfl))];rfl
  have r:dEq (Tn.n q).d (.str "out")=.ok (.bool false):=by show dEq (.int q) (.str "out")=_;rw[mI (iX q) (sL (.inr (.inl rfl)))];rfl
  have k:endE rs z.cps.toList ps s=⟨"ForEver",[("place",.int s.1),("room",.int s.2),("first",.int (ps.idxOf s)),("again",.int ps.length)]⟩:=by unfold endE;rw[AE (by rw[h];decide),AE (by rw[h];decide)]
  have C:aAQ (.list ((ps++[s]).map prD)) (prD s)=.ok (.int (ps.idxOf s)):=by
   unfold aAQ
   dsimp only
   rw[AA ⟨iF s,sS,by rw[AH,AZ];simp;omega⟩,aHB s ps [s] n]
  have v:((ps.length+1:Nat):Int) - 1=ps.length:=by omega
  simp only[cE,aX,cU,cY,bJ,bL,dW,R.bind_ok,AI,A5,AG,AK,Nat.reduceAdd,Nat.reduceSub,f,AU,AV,AC,AB,A8,m,AJ,AM,cT,cA,bZ,bU,bW,hZ,u,gO,g,fK,t0,cZ,j,r,cJ,A7,BQ,fU,cN,aAZ,p,t,aP8,aUC,C,o0,AH,AZ,mD,v,k]
  rfl
end
def itM(rs:List Rw)(z:List Nat):Nat->O6 (Int×Int)
 | 0=>some (0,0)
 | n+1=>(itM rs z n).bind (cF rs z)
section
variable{rs:List Rw}{sg:Nat}{z:List Nat}{ps:List (Int×Int)}{s:Int×Int}
theorem PathOk.it(P:PathOk rs z ps s):∀ k:Nat,k < (ps++[s]).length->(ps++[s])[k]? = itM rs z k
 | 0,_=>P.st0
 | k+1,h=>by
  have e1:(ps++[s])[k]? = some (ps++[s])[k]:=AN (by omega)
  have e2:(ps++[s])[k+1]? = some (ps++[s])[k+1]:=AN h
  have a:=P.it k (by omega)
  rw[e2]
  unfold itM
  rw[<-a,e1]
  exact (P.step k _ _ e1 e2).symm
theorem PathOk.last(P:PathOk rs z ps s):itM rs z ps.length=some s:=by
 rw[<-P.it ps.length (by rw[AZ];simp),B1 (A2 _)];simp
theorem PathOk.first(P:PathOk rs z ps s)(h:s∈ps):itM rs z (ps.idxOf s)=some s:=by
 have a:=CP h
 rw[<-P.it _ (by rw[AZ];omega),BF a,AN a,List.getElem_idxOf]
theorem aLF{f d:Nat}(h:itM rs z (f+d)=itM rs z f):∀ k:Nat,itM rs z (f+k+d)=itM rs z (f+k)
 | 0=>h
 | k+1=>by
  rw[show f+(k+1)+d=(f+k+d)+1 by omega,show f+(k+1)=(f+k)+1 by omega]
  unfold itM
  rw[aLF h k]
theorem aFG{f d:Nat}(h:itM rs z (f+d)=itM rs z f)(k:Nat):∀ m:Nat,itM rs z (f+k+m * d)=itM rs z (f+k)
 | 0=>by rw[Nat.zero_mul];rfl
 | m+1=>by
  have:=aLF h (k+m * d)
  rw[show f+k+(m+1) * d=f+(k+m * d)+d by rw[FH];omega,this,show f+(k+m * d)=f+k+m * d by omega,aFG h k m]
theorem aSR{f d n:Nat}(h:itM rs z (f+d)=itM rs z f)(a:f<=n):itM rs z n=itM rs z (f+(n - f) % d):=by
 have:=aFG h ((n - f) % d) ((n - f) / d)
 have e:=GS (n - f) d
 rw[C9] at e
 rw[<-this]
 congr 1
 omega
theorem PathOk.ever(P:PathOk rs z ps s)(h:s∈ps):∀ n:Nat,∃ t,itM rs z n=some t/\(n<=ps.length->(ps++[s])[n]? = some t)/\(ps.length < n->(ps++[s])[ps.idxOf s+(n - ps.idxOf s) % (ps.length - ps.idxOf s)]? = some t):=by
 intro n
 have c:=CP h
 have b:itM rs z (ps.idxOf s+(ps.length - ps.idxOf s))=itM rs z (ps.idxOf s):=by
  rw[show ps.idxOf s+(ps.length - ps.idxOf s)=ps.length by omega,P.last,P.first h]
 by_cases d:n<=ps.length
 .have a:n < (ps++[s]).length:=by rw[AZ];simp;omega
  have e:=P.it n a
  rw[AN a] at e
  exact ⟨_,e.symm,fun _=>AN a,fun z=>by omega⟩
 .have f:=CJ (n - ps.idxOf s) (show 0 < ps.length - ps.idxOf s by omega)
  have e:=aSR b (n:=n) (by omega)
  have a:ps.idxOf s+(n - ps.idxOf s) % (ps.length - ps.idxOf s) < (ps++[s]).length:=by rw[AZ];omega
  have e2:=P.it _ a
  rw[AN a] at e2
  exact ⟨_,by rw[e,<-e2],fun z=>by omega,fun _=>AN a⟩
end
noncomputable def nY(rs:List Rw)(z:List Nat)(ps:List (Int×Int))(s:Int×Int):Dz:=
 if s∈ps then .tuple [.str "ever",.int s.1,.int s.2,.int (ps.idxOf s),.int ps.length]
 else .tuple [.str (eQ rs z),fX (bdL (ps++[s]) (List.replicate (z.length+1) []))]
def xN(ps:List (Int×Int))(s:Int×Int):Er:=⟨"ForEver",[("place",.int s.1),("room",.int s.2),("first",.int (ps.idxOf s)),("again",.int ps.length)]⟩
section
variable{rs:List Rw}{sg:Nat}{z:List Nat}{ps:List (Int×Int)}{s:Int×Int}
theorem aC6(h:eQ rs z="by"):endE rs z ps s=⟨"LetBy",[("place",.int s.1),("room",.int s.2),("borders",fX (bdL (ps++[s]) (List.replicate (z.length+1) [])))]⟩:=by unfold endE;rw[AA h]
theorem aC7(h:eQ rs z="out"):endE rs z ps s=⟨"ShutOut",[("place",.int s.1),("room",.int s.2),("borders",fX (bdL (ps++[s]) (List.replicate (z.length+1) [])))]⟩:=by unfold endE;rw[AE (by rw[h];decide),AA h]
theorem y8(h:eQ rs z="ever"):endE rs z ps s=xN ps s:=by unfold endE;rw[AE (by rw[h];decide),AE (by rw[h];decide)];rfl
theorem mt_paper(W:EndW rs z ps s){f:Sg->R A}{ρ:Sg}(h:f ρ=.ok (.o (endE rs z ps s))):vMt f "paper" [("LetBy",hV),("ShutOut",f7),("ForEver",f8)] ρ=.ok (.d (nY rs z ps s)):=by
 rw[aFA,h]
 unfold nY
 cases W with
 | b w n e c=>rw[aC6 w,AE n,w];rfl
 | o w n e c=>rw[aC7 w,AE n,w];rfl
 | e w n q c=>rw[y8 w,AA n];rfl
theorem mt_says(W:EndW rs z ps s){f:Sg->R A}{ρ:Sg}(h:f ρ=.ok (.o (endE rs z ps s))):vMt f "says" [("LetBy",kU),("ShutOut",jJ),("ForEver",jK)] ρ=.ok (.d (.str (eQ rs z))):=by
 rw[aFA,h]
 cases W with
 | b w n e c=>rw[aC6 w,w];rfl
 | o w n e c=>rw[aC7 w,w];rfl
 | e w n q c=>rw[y8 w,w];rfl
theorem mt_stops(W:EndW rs z ps s){f:Sg->R A}{ρ:Sg}(h:f ρ=.ok (.o (endE rs z ps s))):vMt f "stops" [("LetBy",j3),("ShutOut",iZ),("ForEver",i5)] ρ=.ok (.d (.bool (decide (s∉ps)))):=by
 rw[aFA,h]
 cases W with
 | b w n e c=>rw[aC6 w,AT n];rfl
 | o w n e c=>rw[aC7 w,AT n];rfl
 | e w n q c=>rw[y8 w,AW (by simpa using n)];rfl
theorem aB5(W:EndW rs z ps s){i:Nat}{ρ:Sg}(h:ρ[i]? = some (some (.o (endE rs z ps s)))):eOF i ["LetBy","ShutOut","ForEver"] "place" ρ=.ok (.int s.1)/\eOF i ["LetBy","ShutOut","ForEver"] "room" ρ=.ok (.int s.2):=by
 rw[y6,y6,h]
 cases W with
 | b w n e c=>rw[aC6 w];exact ⟨rfl,rfl⟩
 | o w n e c=>rw[aC7 w];exact ⟨rfl,rfl⟩
 | e w n q c=>rw[y8 w];exact ⟨rfl,rfl⟩
def oE(r:List Dz):Prop:=∀ x∈r,∃ i:Int,x=.int i
theorem aLG{c:List (List Dz)}{a b:Int×Int}(h:∀ r∈c,oE r):∀ r∈pH c a b,oE r:=fun r d=>by
 unfold pH at d
 rcases GC d with q|q
 .exact h r q
 .subst q
  intro x f
  rcases B4.mp f with y|y
  .rw[AX] at y
   cases e:c[brd a b]? with
   | none=>rw[e] at y;simp at y
   | some r=>rw[e] at y;exact h r (BA e) x y
  .exact ⟨b.2,A4.mp y⟩
theorem xO:∀ (l:List (Int×Int)) (xss:List (List Dz)),(∀ r∈xss,oE r)->∀ r∈bdL l xss,oE r
 | [],_,h=>h
 | [_],_,h=>h
 | a::b::t,xss,h=>by unfold bdL;exact xO (b::t) _ (aLG h)
theorem aFH{a:List (List Dz)}(h:∀ r∈a,oE r):nbD (fX a)=true/\Sh 2 (fX a):=by
 refine ⟨aAW fun x d=>?_,sh_tup fun x d=>?_⟩
 .obtain ⟨r,b,rfl⟩:=BZ.mp d
  exact aAW fun y c=>by obtain ⟨i,rfl⟩:=h r b y c;rfl
 .obtain ⟨r,b,rfl⟩:=BZ.mp d
  exact sh_tup fun y c=>by obtain ⟨i,rfl⟩:=h r b y c;exact sh_int _ _
theorem aUE(l:List (Int×Int))(n:Nat):nbD (fX (bdL l (List.replicate n [])))=true/\Sh 2 (fX (bdL l (List.replicate n []))):=
 aFH (xO l _ fun r a=>by rw[CL a];intro x b;cases b)
theorem aHC(W:EndW rs z ps s):eQ rs z="by"\/eQ rs z="out"\/eQ rs z="ever":=by
 cases W with
 | b w n e c=>exact .inl w
 | o w n e c=>exact .inr (.inl w)
 | e w n q c=>exact .inr (.inr w)
theorem aA3{w:Str}(h:w="by"\/w="out"\/w="ever")(n:Nat):Sh n (.str w):=aRO n (by rcases h with rfl|rfl|rfl<;>decide +kernel)
theorem aOC{w:Str}(h:w="by"\/w="out"\/w="ever"){d:Dz}(a:nbD d=true/\Sh 2 d):Cp (.tuple [.str w,d]):=by
 refine ⟨?_,Sh.shaped (n:=3) (sh_tup fun x b=>?_) (by decide)⟩
 .show (true && (nbD d && true))=true
  rw[a.1];rfl
 .rcases AY.mp b with q|q
  · rw [q]; exact aA3 h 2
  · rw [A4.mp q]; exact a.2
theorem aOD(a b c d:Int):Cp (.tuple [.str "ever",.int a,.int b,.int c,.int d]):=
 ⟨rfl,Sh.shaped (n:=1) (sh_tup fun x e=>by
  simp only[AY,BH,CF] at e
  rcases e with q|q|q|q|q<;>rw[q]
  · exact aA3 (.inr (.inr rfl)) 0
  all_goals exact sh_int _ _) (by decide)⟩
theorem aLH(W:EndW rs z ps s):Cp (nY rs z ps s):=by
 unfold nY
 split
 · exact aOD _ _ _ _
 · exact aOC (aHC W) (aUE _ _)
end
section
variable{rs:List Rw}{sg:Nat}{z:Str}{ps:List (Int×Int)}{s:Int×Int}
theorem aLI(P:PathOk rs z.cps.toList ps s)(h:s∈ps)(n:Nat):∃ t,itM rs z.cps.toList n=some t/\i6 [.d (.list ((ps++[s]).map prD)),.o (xN ps s),.d (.int n)]=.ok (.d (prD t)):=by
 obtain ⟨t,e1,e2,l⟩:=P.ever h n
 refine ⟨t,e1,?_⟩
 have m:=CP h
 have g:∀ ρ:Sg,ρ[1]? = some (some (.o (xN ps s)))->eOF 1 ["ForEver"] "first" ρ=.ok (.int (ps.idxOf s)):=fun ρ h=>by rw[y6,h];rfl
 have j:∀ ρ:Sg,ρ[1]? = some (some (.o (xN ps s)))->eOF 1 ["ForEver"] "again" ρ=.ok (.int ps.length):=fun ρ h=>by rw[y6,h];rfl
 have k:dMod (.int ((n:Int) - (ps.idxOf s:Int))) (.int ((ps.length:Int) - (ps.idxOf s:Int)))=.ok (.int (((n:Int) - (ps.idxOf s:Int)) % ((ps.length:Int) - (ps.idxOf s:Int)))):=cV (by omega)
 unfold i6 sP
 have a:List.replicate 0 (none:O6 A)=[]:=rfl
 have c:(((ps++[s]).map prD).length:Int)=(ps.length:Int)+1:=by rw[AH,AZ];rfl
 by_cases i:n<=ps.length
 .have f:dIx (.list ((ps++[s]).map prD)) (.int (n:Int))=.ok (prD t):=mH (gI (by rw[AS,e2 i];rfl))
  have b:decide ((n:Int) < (ps.length:Int)+1)=true:=AT (by omega)
  simp only[cE,aX,cZ,bZ,cA,bU,AI,A5,AG,AK,Nat.reduceAdd,Nat.reduceSub,a,AU,AV,AC,AB,R.bind_ok,o0,c,nJ,b,cJ,A8,cN,cT,f]
 .have f:dIx (.list ((ps++[s]).map prD)) (.int ((ps.idxOf s:Int)+((n:Int) - (ps.idxOf s:Int)) % ((ps.length:Int) - (ps.idxOf s:Int))))=.ok (prD t):=mH (by
   have e:(ps.idxOf s:Int)+((n:Int) - (ps.idxOf s:Int)) % ((ps.length:Int) - (ps.idxOf s:Int))=((ps.idxOf s+(n - ps.idxOf s) % (ps.length - ps.idxOf s):Nat):Int):=by
    rw[show (n:Int) - (ps.idxOf s:Int)=((n - ps.idxOf s:Nat):Int) by omega,show (ps.length:Int) - (ps.idxOf s:Int)=((ps.length - ps.idxOf s:Nat):Int) by omega,<-Int.natCast_emod]
    omega
   rw[e]
   exact gI (by rw[AS,l (by omega)];rfl))
  have b:decide ((n:Int) < (ps.length:Int)+1)=false:=AW (by omega)
  simp only[cE,aX,cZ,bZ,cA,bU,AI,A5,AG,AK,Nat.reduceAdd,Nat.reduceSub,a,AU,AV,AC,AB,R.bind_ok,o0,c,nJ,b,cJ,A7,BQ,fU,cN,cT,g,j,mD,k,gG,f]
def AtN(rs:List Rw)(z:List Nat)(p r n:Int):Prop:=itM rs z n.toNat=some (p,r)
instance (rs:List Rw) (z:List Nat) (p r n:Int):Decidable (AtN rs z p r n):=inferInstanceAs (Decidable (_=_))
def vU(rs:List Rw)(z:List Nat)(p r f a:Int):Prop:=(0<=f/\f < a/\a<=(rs.length:Int) * ((z.length:Int)+2))/\AtN rs z p r f/\AtN rs z p r a
instance (rs:List Rw) (z:List Nat) (p r f a:Int):Decidable (vU rs z p r f a):=inferInstanceAs (Decidable (_/\_))
theorem aQC(M:Mach rs sg)(S:bY sg z.cps.toList)(D:dZ rs z.cps.toList=ps++[s])(P:PathOk rs z.cps.toList ps s)(h:s∈ps)(w:Dz)(p r f a:Int):mL [.d (a8 rs),.d (.str z),.o (xN ps s),.d (.tuple [w,.int p,.int r,.int f,.int a])]=.ok (.d (.bool (decide (vU rs z.cps.toList p r f a)))):=by
 have q:=aA2 M S
 rw[D] at q
 have I:z.length<=16777216:=by rw[hU];have:=S.1;omega
 have m:=o3 I
 rw[hU] at m
 have y:dMul (.int (rs.length:Int)) (.int ((z.cps.toList.length:Int)+2))=.ok (.int ((rs.length:Int) * ((z.cps.toList.length:Int)+2))):=oZ (by have:=M.len2;omega) (by have:=M.len2;omega)
 have e:dLen (a8 rs)=.ok (.int rs.length):=by show dLen (.tuple (rs.map cQ))=_;rw[qQ,AH]
 have E:dIx (.tuple [w,.int p,.int r,.int f,.int a]) (.int 1)=.ok (.int p):=rfl
 have K:dIx (.tuple [w,.int p,.int r,.int f,.int a]) (.int 2)=.ok (.int r):=rfl
 have v:dIx (.tuple [w,.int p,.int r,.int f,.int a]) (.int 3)=.ok (.int f):=rfl
 have u:dIx (.tuple [w,.int p,.int r,.int f,.int a]) (.int 4)=.ok (.int a):=rfl
 have b:List.replicate 4 (none:O6 A)=[none,none,none,none]:=rfl
 have C:(rs.map cQ).length=rs.length:=AH ..
 unfold mL o8
 by_cases c:0<=f/\f < a/\a<=(rs.length:Int) * ((z.cps.toList.length:Int)+2)
 .obtain ⟨j,i,n⟩:=id c
  obtain ⟨t,e1,x⟩:=aLI P h f.toNat
  obtain ⟨g,e2,B⟩:=aLI P h a.toNat
  rw[show ((f.toNat:Nat):Int)=f by omega] at x
  rw[show ((a.toNat:Nat):Int)=a by omega] at B
  have k1:dEq (prD t) (.tuple [.int p,.int r])=.ok (.bool (decide (t=(p,r)))):=by
   show dEq (prD t) (prD (p,r))=_
   rw[mI (iF t) (iF (p,r)),aFF]
  have k2:dEq (prD g) (.tuple [.int p,.int r])=.ok (.bool (decide (g=(p,r)))):=by
   show dEq (prD g) (prD (p,r))=_
   rw[mI (iF g) (iF (p,r)),aFF]
  have l:decide (vU rs z.cps.toList p r f a)=(decide (t=(p,r)) && decide (g=(p,r))):=by
   rw[<-Bool.decide_and]
   refine DR.mpr ?_
   unfold vU AtN
   rw[e1,e2,Option.some.injEq,Option.some.injEq]
   exact ⟨fun z=>z.2,fun z=>⟨c,z⟩⟩
  rw[l]
  simp only[cE,aX,cU,cT,cA,bZ,bU,bW,AI,A5,AG,AK,Nat.reduceAdd,Nat.reduceSub,b,AU,AV,AC,AB,R.bind_ok,E,K,v,u,AJ,AM,cZ,vL,aA0,aIM,nJ,AT j,AT i,AT n,cJ,A8,e,m,gG,y,EW,A7,BQ,fU,cY,bJ,bL,dW,aOA,q,eI,Nat.reduceLeDiff,cN,aAL,gO,x,B,fK,k1,k2]
  cases decide (t=(p,r))<;>simp
 .have l:decide (vU rs z.cps.toList p r f a)=false:=AW fun z=>c z.1
  rw[l]
  have k:∀ ρ:Sg,ρ[0]? = some (some (.d (a8 rs)))->ρ[1]? = some (some (.d (.str z)))->ρ[4]? = some (some (.d (.int f)))->ρ[5]? = some (some (.d (.int a)))->aAR dLe dLt dLe (eC (.int 0)) (rV 4) (rV 5) (e2 dMul (e1 dLen (rV 0)) (e2 cR (e1 dLen (rV 1)) (eC (.int 2)))) ρ=.ok (.bool false):=fun ρ F J H G=>by
   simp only[aA0,bW,bU,F,J,H,G,R.bind_ok,aIM,cJ,nJ,cA,bZ,e,m,gG,y]
   by_cases j:0<=f
   .rw[AT j,AA rfl]
    by_cases i:f < a
    · rw [AT i, AA rfl, AW fun n => c ⟨j, i, n⟩]
    · rw [AW i, AE (by decide)]
   .rw[AW j,AE (by decide)]
  simp only[cE,aX,cU,cT,cA,bZ,bU,bW,AI,A5,AG,AK,Nat.reduceAdd,Nat.reduceSub,b,AU,AV,AC,AB,R.bind_ok,v,u,AJ,AM,cZ,vL,cJ,cN]
  rw[k _ rfl rfl rfl rfl]
  rfl
end
section
variable{rs:List Rw}{sg:Nat}{z:List Nat}
structure Chn(rs:List Rw)(z:List Nat)(L:List (Int×Int)):Prop where
 st0:L[0]? = some (0,0)
 step:∀ (k:Nat) a b,L[k]? = some a->L[k+1]? = some b->cF rs z a=some b
theorem Chn.it{L:List (Int×Int)}(C:Chn rs z L):∀ k:Nat,k < L.length->L[k]? = itM rs z k
 | 0,_=>C.st0
 | k+1,h=>by
  have e1:L[k]? = some L[k]:=AN (by omega)
  have e2:L[k+1]? = some L[k+1]:=AN h
  have a:=C.it k (by omega)
  rw[e2]
  unfold itM
  rw[<-a,e1]
  exact (C.step k _ _ e1 e2).symm
theorem rC{n:Nat}(h:itM rs z n=none):∀ k,itM rs z (n+k)=none
 | 0=>h
 | k+1=>by
  show (itM rs z (n+k)).bind _=_
  rw[rC h k];rfl
theorem aOE{L a:List (Int×Int)}(h:L.length=a.length)(h1:∀ k,k < L.length->L[k]? = itM rs z k)(h2:∀ k,k < a.length->a[k]? = itM rs z k):L=a:=by
 refine ER fun k=>?_
 by_cases b:k < L.length
 · rw [h1 k b, h2 k (by omega)]
 · rw [CH (by omega), CH (by omega)]
theorem uV(M:Mach rs sg)(S:bY sg z){L:List (Int×Int)}{s:Int×Int}(C:Chn rs z (L++[s]))(l:cF rs z s=none):dZ rs z=L++[s]:=by
 obtain ⟨ps,s',e,P⟩:=aA1 M S
 have i:(L++[s]).length=L.length+1:=by simp
 have a:(ps++[s']).length=ps.length+1:=by simp
 have f:itM rs z L.length=some s:=by rw[<-C.it L.length (by omega),B1 (A2 _),EA];rfl
 have d:itM rs z (L.length+1)=none:=by
  show (itM rs z L.length).bind _=_
  rw[f];exact l
 rcases P.fin with ⟨n,j⟩|⟨m,_⟩
 .have c:itM rs z (ps.length+1)=none:=by
   show (itM rs z ps.length).bind _=_
   rw[P.last];exact j
  have:L.length=ps.length:=by
   rcases FY L.length ps.length with h|h|h
   .have:=rC d (ps.length - (L.length+1))
    rw[show L.length+1+(ps.length - (L.length+1))=ps.length by omega,P.last] at this
    cases this
   .exact h
   .have:=rC c (L.length - (ps.length+1))
    rw[show ps.length+1+(L.length - (ps.length+1))=L.length by omega,f] at this
    cases this
  rw[e]
  exact aOE (by omega) (fun k b=>P.it k b) (fun k b=>C.it k b)
 .obtain ⟨t,g,_⟩:=P.ever m (L.length+1)
  rw[d] at g;cases g
theorem aLJ(M:Mach rs sg)(S:bY sg z){L:List (Int×Int)}{s:Int×Int}(C:Chn rs z (L++[s]))(nd:L.Nodup)(A:s∈L):dZ rs z=L++[s]:=by
 obtain ⟨ps,s',e,P⟩:=aA1 M S
 have y:(L++[s]).length=L.length+1:=by simp
 have q:(ps++[s']).length=ps.length+1:=by simp
 have v:itM rs z L.length=some s:=by rw[<-C.it L.length (by omega),B1 (A2 _),EA];rfl
 obtain ⟨f,u⟩:=G3.mp A
 have p:=(A3.mp u).1
 have a:itM rs z f=some s:=by rw[<-C.it f (by omega),BF p];exact u
 have c:∀ {l:List (Int×Int)} {i j:Nat} {x:Int×Int},l.Nodup->l[i]? = some x->l[j]? = some x->i=j:=fun {l i j x} nd h1 h2=>by
  have d:=(A3.mp h1)
  have o:=(A3.mp h2)
  exact (List.getElem?_inj d.1 nd).mp (by rw[h1,h2])
 rcases P.fin with ⟨n,r⟩|⟨b,_⟩
 .exfalso
  have g:itM rs z (ps.length+1)=none:=by
   show (itM rs z ps.length).bind _=_
   rw[P.last];exact r
  have m:itM rs z (f+(L.length - f))=itM rs z f:=by rw[show f+(L.length - f)=L.length by omega,v,a]
  have h1:=rC g (f+(L.length - f) * (ps.length+1))
  have h2:=aFG m 0 (ps.length+1)
  rw[FA,a] at h2
  have D:ps.length+1<=(ps.length+1) * (L.length - f):=Nat.le_mul_of_pos_right _ (by omega)
  have w:=rC g (f+(ps.length+1) * (L.length - f) - (ps.length+1))
  rw[show ps.length+1+(f+(ps.length+1) * (L.length - f) - (ps.length+1))=f+(ps.length+1) * (L.length - f) by omega,h2] at w
  cases w
 .have B:=CP b
  have:L.length=ps.length:=by
   rcases FY L.length ps.length with h|h|h
   .exfalso
    have d:ps[f]? = some s:=by have:=P.it f (by omega);rw[BF (by omega)] at this;rw[this,a]
    have o:ps[L.length]? = some s:=by have:=P.it L.length (by omega);rw[BF (by omega)] at this;rw[this,v]
    have:=c P.nd d o
    omega
   .exact h
   .exfalso
    have d:L[ps.idxOf s']? = some s':=by have:=C.it (ps.idxOf s') (by omega);rw[BF (by omega)] at this;rw[this,P.first b]
    have o:L[ps.length]? = some s':=by have:=C.it ps.length (by omega);rw[BF (by omega)] at this;rw[this,P.last]
    have:=c nd d o
    omega
  rw[e]
  exact aOE (by omega) (fun k t=>P.it k t) (fun k t=>C.it k t)
end
structure Srch where
 after:Dz->List Dz
 x0:Dz
 good:Nat->Dz->Prop
 lim:Nat
 k1:Nat
 k2:Nat
 G:List Dz->R Dz
 D:List Dz->R Dz
structure Srch.ok(S:Srch):Prop where
 g0:S.good 0 S.x0
 gs:∀ i x,S.good i x->i<=S.lim->∀ y∈S.after x,S.good (i+1) y
 up:∀ i j x,i<=j->S.good i x->S.good j x
 few:∀ xs:List Dz,xs.Nodup->(∀ x∈xs,∃ i,S.good i x)->xs.length<=S.lim
 key:∀ i x,S.good i x->wW x=true
 hk1:S.k1<=12
 hk2:S.k2<=12
 hG:∀ i x,i<=S.lim->S.good i x->S.G [x]=.ok (.list (S.after x))/\(S.after x).length<=16777216
 hD:∀ (fs:List Dz) (i:Int),fs.length<=S.lim->S.D [.list fs,.int i]=.ok (.bool false)
 hl:S.lim<=16000000
theorem aNL{rs:List Rw}{bk:Int->Tn}{c:Nat}{q:Int}(h:(ck (c - 97) (aV rs q)).2=1):onR rs bk c (.n q)=.n (ck (c - 97) (aV rs q)).1:=by
 have:mZ rs bk c q=some (.inr (.n (ck (c - 97) (aV rs q)).1)):=by rw[aAS,AA h]
 show (cM (mZ rs bk c) q).getD (.w aC3)=_
 rw[fD this];rfl
def itN(nx:Nat->Nat):Nat->Nat->Nat
 | 0,r=>r
 | n+1,r=>itN nx n (nx r)
theorem vW(nx:Nat->Nat)(a:Nat):∀ b r,itN nx (a+b) r=itN nx a (itN nx b r)
 | 0,r=>rfl
 | b+1,r=>vW nx a b (nx r)
theorem aFI(nx:Nat->Nat)(n r:Nat):itN nx (n+1) r=nx (itN nx n r):=by
 rw[HB,vW];rfl
structure Kdr(rs:List Rw)(sg:Nat)(nx:Nat->Nat)(rt:Nat->Bool):Prop where
 cel:∀ i,i < rs.length->∀ k,k < sg->ck k (aV rs (i:Int))=((nx i:Int),if rt i=true then 1 else -1)
 lt:∀ i,i < rs.length->nx i < rs.length
 rr:∀ i,i < rs.length->rt (nx i)=rt i
 l0:(aV rs 0).l=.n 0
 rt0:rt 0=true
 lf:∀ i,i < rs.length->rt i=false->(∃ x,(aV rs (i:Int)).l=.w x)\/∃ r:Nat,(aV rs (i:Int)).l=.n (r:Int)/\r < rs.length/\rt r=true
section
variable{rs:List Rw}{sg i l:Nat}{nx:Nat->Nat}{rt:Nat->Bool}
theorem Kdr.it(K:Kdr rs sg nx rt):∀ n r,r < rs.length->itN nx n r < rs.length/\rt (itN nx n r)=rt r
 | 0,r,h=>⟨h,rfl⟩
 | n+1,r,h=>by
  obtain ⟨a,b⟩:=K.it n (nx r) (K.lt r h)
  exact ⟨a,by rw[show itN nx (n+1) r=itN nx n (nx r) from rfl,b,K.rr r h]⟩
theorem Kdr.on(K:Kdr rs sg nx rt){bk:Int->Tn}{c r:Nat}(a:r < rs.length)(b:c - 97 < sg)(h:rt r=true):onR rs bk c (.n (r:Int))=.n (nx r:Int):=by
 have:=K.cel r a _ b
 rw[h] at this
 rw[aNL (by rw[this];rfl),this]
def lfB(rs:List Rw)(nx:Nat->Nat)(n r:Nat):Tn:=match (aV rs (itN nx n r:Int)).l with
 | .w x=>.w x
 | .n i=>.n (itN nx n i.toNat:Int)
end
abbrev iO(n:Nat):O6 A:=some (.d (.int (n:Int)))
def swA(p a sg k:Nat):Rw:=⟨if k=0 then .n 0 else .w "out",List.replicate sg ((((k+1) % p:Nat):Int),1),if k=a then .n (p:Int) else .w "out"⟩
def swB(p q b sg k:Nat):Rw:=⟨.w (if k=b then "by" else "out"),List.replicate sg (((p+(k+1) % q:Nat):Int),-1),.w "out"⟩
def swM(p q a b sg:Nat):List Rw:=(List.range p).map (swA p a sg)++(List.range q).map (swB p q b sg)
theorem uW(x y:Dz)(b:Bool):dIx (.list [x,y]) (.int (if b=true then 1 else 0))=.ok (if b=true then y else x):=by
 cases b
 · exact aES ..
 · exact aET ..
theorem aC8(x:Dz){sg:Nat}(h:sg<=3):yP [x] (.int (sg:Int))=.ok (List.replicate sg x):=by
 have h1:∀ n:Nat,(List.replicate n [x]).flatten=List.replicate n x:=fun n=>by
  induction n with
  | zero=>rfl
  | succ n ih=>rw[CU,DD,ih];rfl
 unfold yP
 simp only
 rw[AA ⟨List.cons_ne_nil _ _,by omega,by omega,by rw[B2,B6];omega⟩,B2,h1]
theorem sT(sg:Nat)(c:Int×Int):(List.replicate sg c).map fC=List.replicate sg (.tuple [.int c.1,.int c.2]):=by rw[List.map_replicate];rfl
theorem lW{α:Type}(f:Nat->α)(i:Nat):(List.range (i+1)).map f=(List.range i).map f++[f i]:=by rw[DN,BG];rfl
theorem rD{n i k:Nat}(h:(List.range n)[i]? = some k):k=i/\i < n:=by
 obtain ⟨h1,h2⟩:=A3.mp h
 rw[A0] at h1
 rw[EM] at h2
 exact ⟨h2.symm,h1⟩
theorem aQD{p q a b sg:Nat}(p1:1<=p)(p2:p<=100)(q1:1<=q)(q2:q<=100)(s:sg<=3):iI [.d (.int (p:Int)),.d (.int (q:Int)),.d (.int (a:Int)),.d (.int (b:Int)),.d (.int (sg:Int))]=.ok (.d (a8 (swM p q a b sg))):=by
 have u:(0:Int) < (p:Int):=by omega
 have C:(0:Int) < (q:Int):=by omega
 obtain ⟨y,z,f,g,rfl⟩:=jS (fs:=stN 6) (fb:=aNA) (d:=fun k:Nat=>.int (k:Int)) (xs:=List.range p) (ρ:=[iO p,iO q,iO a,iO b,iO sg,some (.l []),none,none])
  (fun i ρ=>∃ f g,ρ=[iO p,iO q,iO a,iO b,iO sg,some (.l ((List.range i).map fun k=>cQ (swA p a sg k))),f,g]) ⟨none,none,rfl⟩ fun i k ρ o j=>by
  obtain ⟨f,g,e⟩:=j
  obtain ⟨rfl,hi⟩:=rD o
  have c:((List.range k).map fun k=>cQ (swA p a sg k)).length < 16777216:=by rw[AH,A0];omega
  have m:=aC8 (.tuple [.int (((k:Int)+1) % (p:Int)),.int 1]) s
  have r:cQ (swA p a sg k)=.tuple [if decide ((0:Int) < (k:Int))=true then .str "out" else .int 0,.tuple (List.replicate sg (.tuple [.int (((k:Int)+1) % (p:Int)),.int 1])),if decide ((k:Int)=(a:Int))=true then .int (p:Int) else .str "out"]:=by
   unfold cQ swA
   rw[sT]
   have e1:((((k+1) % p:Nat)):Int)=((k:Int)+1) % (p:Int):=by simp
   simp only[e1]
   rw[show (if k=0 then Tn.n 0 else Tn.w "out").d=(if decide ((0:Int) < (k:Int))=true then .str "out" else .int 0) from ?_,show (if k=a then Tn.n (p:Int) else Tn.w "out").d=(if decide ((k:Int)=(a:Int))=true then .int (p:Int) else .str "out") from ?_]
   .by_cases h:k=a
    · rw [AA h, AA (AT (by omega))]; rfl
    · rw [AE h, AE (by rw [CZ]; omega)]; rfl
   .by_cases h:k=0
    · rw [AA h, AE (by rw [CZ]; omega)]; rfl
    · rw [AE h, AA (AT (by omega))]; rfl
  refine ⟨[iO p,iO q,iO a,iO b,iO sg,some (.l ((List.range k).map fun k=>cQ (swA p a sg k))),iO k,g],_,by rw[e];rfl,.inl ?_,iO k,some (.d (if decide ((k:Int)=(a:Int))=true then .int (p:Int) else .str "out")),rfl⟩
  rw[lW,r]
  generalize ((List.range k).map fun k=>cQ (swA p a sg k))=L at *
  generalize List.replicate sg (PyData.tuple [.int (((k:Int)+1) % (p:Int)),.int 1])=t at *
  unfold aNA
  simp only[iO,aX,cU,cT,cA,bZ,kZ,eS,bJ,bL,bW,fM,bU,R.bind_ok,AC,AB,cH,mG,uW,AJ,AM,j6,eI,aC0,gG,cV u,xL,m,lH,AG,AK,Nat.reduceAdd,Nat.reduceLeDiff,A8,AA c]
 obtain ⟨v,A,D,rfl⟩:=jS (fs:=stN 6) (fb:=aNB) (d:=fun k:Nat=>.int (k:Int)) (xs:=List.range q) (ρ:=[iO p,iO q,iO a,iO b,iO sg,some (.l ((List.range (List.range p).length).map fun k=>cQ (swA p a sg k))),f,g])
  (fun i ρ=>∃ f,ρ=[iO p,iO q,iO a,iO b,iO sg,some (.l (((List.range (List.range p).length).map fun k=>cQ (swA p a sg k))++(List.range i).map fun k=>cQ (swB p q b sg k))),f,g]) ⟨f,by simp⟩ fun i k ρ o j=>by
  obtain ⟨f,e⟩:=j
  obtain ⟨rfl,hi⟩:=rD o
  have c:(((List.range (List.range p).length).map fun k=>cQ (swA p a sg k))++(List.range k).map fun k=>cQ (swB p q b sg k)).length < 16777216:=by rw[AZ,AH,AH,A0,A0,A0];omega
  have m:=aC8 (.tuple [.int ((p:Int)+(((k:Int)+1) % (q:Int))),.int (-1)]) s
  have r:cQ (swB p q b sg k)=.tuple [if decide ((k:Int)=(b:Int))=true then .str "by" else .str "out",.tuple (List.replicate sg (.tuple [.int ((p:Int)+(((k:Int)+1) % (q:Int))),.int (-1)])),.str "out"]:=by
   unfold cQ swB
   rw[sT]
   have e1:(((p+(k+1) % q:Nat)):Int)=(p:Int)+((k:Int)+1) % (q:Int):=by simp
   simp only[e1]
   rw[show (Tn.w (if k=b then "by" else "out")).d=(if decide ((k:Int)=(b:Int))=true then .str "by" else .str "out") from ?_]
   .rfl
   .by_cases h:k=b
    · rw [AA h, AA (AT (by omega))]; rfl
    · rw [AE h, AE (by rw [CZ]; omega)]; rfl
  refine ⟨[iO p,iO q,iO a,iO b,iO sg,some (.l (((List.range (List.range p).length).map fun k=>cQ (swA p a sg k))++(List.range k).map fun k=>cQ (swB p q b sg k))),iO k,g],_,by rw[e];rfl,.inl ?_,iO k,rfl⟩
  rw[lW,r,<-List.append_assoc]
  generalize (((List.range (List.range p).length).map fun k=>cQ (swA p a sg k))++(List.range k).map fun k=>cQ (swB p q b sg k))=L at *
  generalize List.replicate sg (PyData.tuple [.int ((p:Int)+(((k:Int)+1) % (q:Int))),.int (-1)])=t at *
  unfold aNB
  simp only[iO,cA,bZ,kZ,eS,bJ,bL,bW,fM,bU,R.bind_ok,AC,AB,cH,mG,uW,AJ,AM,j6,eI,gG,hZ,cV C,xL,m,lH,AG,AK,Nat.reduceAdd,Nat.reduceLeDiff,A8,AA c]
 have m:a8 (swM p q a b sg)=.tuple (((List.range (List.range p).length).map fun k=>cQ (swA p a sg k))++(List.range (List.range q).length).map fun k=>cQ (swB p q b sg k)):=by
  unfold a8 swM
  rw[BG,BL,BL,A0,A0];rfl
 have B:=iY (n:=p) (by omega)
 have x:=iY (n:=q) (by omega)
 unfold iI
 rw[m,mY]
 simp only[iO,cE,aX,fN,eS,bL,B3,A8,R.bind_ok,AI,A5,AG,AK,Nat.reduceAdd,Nat.reduceSub,List.replicate,AU,AV,AJ,AM,iU,gP,bU,AC,AB,B,x,z,A,cN,cT,bZ,lH]
section
variable{p q a b sg m:Nat}
theorem lJ:(swM p q a b sg).length=p+q:=by unfold swM;rw[AZ,AH,AH,A0,A0]
theorem y9{k:Nat}(h:k < p):aV (swM p q a b sg) (k:Int)=swA p a sg k:=by
 unfold aV
 rw[B2,AX,show (swM p q a b sg)[k]? = some (swA p a sg k) from ?_]
 .rfl
 .unfold swM
  rw[BF (by rw[AH,A0];exact h),AS,BK h];rfl
theorem vX{k:Nat}(h:k < q):aV (swM p q a b sg) ((p+k:Nat):Int)=swB p q b sg k:=by
 unfold aV
 rw[B2,AX,show (swM p q a b sg)[p+k]? = some (swB p q b sg k) from ?_]
 .rfl
 .unfold swM
  rw[B1 (by rw[AH,A0];omega),AH,A0,show p+k - p=k by omega,AS,BK h];rfl
theorem vY(p1:1<=p)(p2:p<=100)(q1:1<=q)(q2:q<=100)(s1:1<=sg)(g:sg<=3):Mach (swM p q a b sg) sg where
 len:=by rw[lJ];omega
 len2:=by rw[lJ];omega
 sg1:=s1
 sg3:=g
 row:=fun r d=>by
  rw[lJ]
  unfold swM at d
  rcases B4.mp d with d|d
  .obtain ⟨k,e,rfl⟩:=BZ.mp d
   rw[BC] at e
   refine ⟨⟨?_,?_,fun c f=>?_⟩,BP⟩
   .unfold swA;dsimp only;split
    · exact ⟨by omega, by omega⟩
    · exact .inr rfl
   .unfold swA;dsimp only;split
    · exact ⟨by omega, by omega⟩
    · exact .inr rfl
   .rw[CL f]
    have:=CJ (k+1) (show p > 0 by omega)
    exact ⟨by show (0:Int)<=(((k+1) % p:Nat):Int);omega,by show (((k+1) % p:Nat):Int) < _;omega,.inl rfl⟩
  .obtain ⟨k,e,rfl⟩:=BZ.mp d
   rw[BC] at e
   refine ⟨⟨?_,.inr rfl,fun c f=>?_⟩,BP⟩
   .unfold swB;dsimp only;split
    · exact .inl rfl
    · exact .inr rfl
   .rw[CL f]
    have:=CJ (k+1) (show q > 0 by omega)
    exact ⟨by show (0:Int)<=((p+(k+1) % q:Nat):Int);omega,by show ((p+(k+1) % q:Nat):Int) < _;omega,.inr rfl⟩
def swN(p q i:Nat):Nat:=if i < p then (i+1) % p else p+(i - p+1) % q
theorem zA{r:Rw}{c:Int×Int}(h:r.c=List.replicate sg c){k:Nat}(a:k < sg):ck k r=c:=by
 unfold ck
 rw[h,AX,C3,AA a];rfl
theorem aI7(p1:1<=p)(q1:1<=q):Kdr (swM p q a b sg) sg (swN p q) (fun i=>decide (i < p)) where
 cel:=fun i hi k c=>by
  rw[lJ] at hi
  unfold swN
  by_cases h:i < p
  .rw[y9 h,AA h,AT h]
   exact zA (by rfl) c
  .rw[show i=p+(i - p) by omega,vX (show i - p < q by omega),AE (by omega),AW (by omega),show p+(i - p) - p=i - p by omega]
   exact zA (by rfl) c
 lt:=fun i hi=>by
  rw[lJ] at hi ⊢
  unfold swN
  have:=CJ (i+1) (show p > 0 by omega)
  have:=CJ (i - p+1) (show q > 0 by omega)
  split<;>omega
 rr:=fun i hi=>by
  unfold swN
  have:=CJ (i+1) (show p > 0 by omega)
  by_cases h:i < p
  .rw[AA h,AT h];exact AT this
  .rw[AE h,AW h];exact AW (by omega)
 l0:=by rw[show (0:Int)=((0:Nat):Int) from rfl,y9 (by omega)];rfl
 rt0:=AT (by omega)
 lf:=fun i hi d=>by
  rw[lJ] at hi
  have:=FO d
  rw[show i=p+(i - p) by omega,vX (show i - p < q by omega)]
  exact .inl ⟨_,rfl⟩
theorem aFJ(p1:1<=p):∀ n i,i < p->itN (swN p q) n i=(i+n) % p
 | 0,i,h=>(EE h).symm
 | n+1,i,h=>by
  have:=CJ (i+1) (show p > 0 by omega)
  show itN (swN p q) n (swN p q i)=_
  rw[show swN p q i=(i+1) % p from AA h,aFJ p1 n _ this,FB]
  congr 1;omega
theorem zB(q1:1<=q):∀ n i,i < q->itN (swN p q) n (p+i)=p+(i+n) % q
 | 0,i,h=>by rw[FA,EE h];rfl
 | n+1,i,h=>by
  have:=CJ (i+1) (show q > 0 by omega)
  show itN (swN p q) n (swN p q (p+i))=_
  rw[show swN p q (p+i)=p+(i+1) % q by unfold swN;rw[AE (by omega),show p+i - p=i by omega],zB q1 n _ this,FB]
  congr 2;omega
end
section
variable{rs:List Rw}{sg:Nat}{nx:Nat->Nat}{rt:Nat->Bool}{z:List Nat}
theorem Kdr.step(K:Kdr rs sg nx rt)(S:bY sg z){r i:Nat}(b:r < rs.length)(h1:1<=i)(h2:i<=z.length):cF rs z ((i:Int),(r:Int))=some ((i:Int)+(if rt r=true then 1 else -1),(nx r:Int)):=by
 have c:z.getD (i - 1) 97 - 97 < sg:=by
  rw[AX,AN (show i - 1 < z.length by omega),Option.getD_some]
  have:=B0 (S.2 _ (EY (show i - 1 < z.length by omega)))
  omega
 have a:=K.cel r b _ c
 unfold ck at a
 have:bR rs z ((i:Int),(r:Int))=(.n (nx r:Int),if rt r=true then 1 else -1):=by
  unfold bR
  simp only
  rw[AE (by omega),AE (by omega),B2,a]
 unfold cF
 rw[this]
theorem pY{r:Nat}{r':Int}(h:(aV rs (r:Int)).l=.n r'):cF rs z (0,(r:Int))=some (1,r'):=by
 have:bR rs z (0,(r:Int))=(.n r',1):=by
  unfold bR
  simp only
  rw[AA trivial,h]
 unfold cF
 rw[this]
 rfl
theorem zC{r:Nat}{x:Str}(h:(aV rs (r:Int)).l=.w x):cF rs z (0,(r:Int))=none:=by
 have:bR rs z (0,(r:Int))=(.w x,1):=by
  unfold bR
  simp only
  rw[AA trivial,h]
 unfold cF
 rw[this]
theorem zD{r:Nat}{r':Int}(h:(aV rs (r:Int)).r=.n r'):cF rs z ((z.length:Int)+1,(r:Int))=some ((z.length:Int),r'):=by
 have:bR rs z ((z.length:Int)+1,(r:Int))=(.n r',-1):=by
  unfold bR
  simp only
  rw[AE (by omega),AA trivial,h]
 unfold cF
 rw[this]
 show some ((z.length:Int)+1 + -1,r')=_
 rw[show (z.length:Int)+1 + -1=z.length by omega]
theorem aF3{r:Nat}{x:Str}(h:(aV rs (r:Int)).r=.w x):cF rs z ((z.length:Int)+1,(r:Int))=none:=by
 have:bR rs z ((z.length:Int)+1,(r:Int))=(.w x,-1):=by
  unfold bR
  simp only
  rw[AE (by omega),AA trivial,h]
 unfold cF
 rw[this]
theorem zE{f:Nat->Int×Int}{N:Nat}(h0:f 0=(0,0))(g:∀ k,k < N->cF rs z (f k)=some (f (k+1))):Chn rs z ((List.range N).map f++[f N]):=by
 have e:(List.range N).map f++[f N]=(List.range (N+1)).map f:=by rw[DN,BG];rfl
 rw[e]
 refine ⟨by rw[AS,BK (by omega)];show some (f 0)=_;rw[h0],fun k a b d c=>?_⟩
 rw[AS] at d c
 have i:k+1 < N+1:=by
  by_cases h:k+1 < N+1
  · exact h
  · rw [CH (by rw [A0]; omega)] at c; cases c
 rw[BK (by omega)] at d
 rw[BK i] at c
 cases d
 cases c
 exact g k (by omega)
end
def cnS(p q n k:Nat):Int×Int:=if k=0 then (0,0) else if k<=n+1 then ((k:Int),(((k - 1) % p:Nat):Int)) else (((2 * n+2 - k:Nat):Int),((p+(k - (n+2)) % q:Nat):Int))
section
variable{p q a b sg:Nat}{z:List Nat}
def cnN(p a n:Nat):Nat:=if n % p=a then 2 * n+2 else n+1
theorem aHD(p1:1<=p)(p2:p<=100)(q1:1<=q)(q2:q<=100)(s1:1<=sg)(y:sg<=3)(S:bY sg z) :
  dZ (swM p q a b sg) z=(List.range (cnN p a z.length)).map (cnS p q z.length)++[cnS p q z.length (cnN p a z.length)]:=by
 have M:=vY (a:=a) (b:=b) p1 p2 q1 q2 s1 y
 have K:=aI7 (a:=a) (b:=b) (sg:=sg) p1 q1
 have L:(swM p q a b sg).length=p+q:=lJ
 have l:∀ x,x % p < p:=fun x=>CJ _ (by omega)
 have s:∀ x,x % q < q:=fun x=>CJ _ (by omega)
 have A:∀ i,i < p->swN p q i=(i+1) % p:=fun i h=>AA h
 have v:∀ i,swN p q (p+i)=p+(i+1) % q:=fun i=>by unfold swN;rw[AE (by omega),show p+i - p=i by omega]
 have u:∀ i,i < p->decide (i < p)=true:=fun i h=>AT h
 have t:∀ i,decide (p+i < p)=false:=fun i=>AW (by omega)
 have c:∀ k,k < z.length+1->cF (swM p q a b sg) z (cnS p q z.length k)=some (cnS p q z.length (k+1)):=fun k j=>by
  by_cases o:k=0
  .subst o
   have e:cnS p q z.length 0=(0,((0:Nat):Int)):=rfl
   rw[e,pY K.l0]
   unfold cnS
   rw[AE (by omega),AA (by omega)]
   simp
  .have e:cnS p q z.length k=((k:Int),(((k - 1) % p:Nat):Int)):=by unfold cnS;rw[AE o,AA (by omega)]
   have e2:cnS p q z.length (k+1)=(((k+1:Nat):Int),((k % p:Nat):Int)):=by unfold cnS;rw[AE (by omega),AA (by omega)];rfl
   have:=l (k - 1)
   rw[e,e2,K.step S (by omega) (by omega) (by omega),u _ this,A _ this,AA rfl,FB,show k - 1+1=k by omega]
   rfl
 have m:cnS p q z.length (z.length+1)=((z.length:Int)+1,((z.length % p:Nat):Int)):=by unfold cnS;rw[AE (by omega),AA (by omega)];rfl
 have d:(aV (swM p q a b sg) ((z.length % p:Nat):Int)).r=if z.length % p=a then .n (p:Int) else .w "out":=by rw[y9 (l _)];rfl
 by_cases e:z.length % p=a
 .rw[AA e] at d
  have g:cnN p a z.length=2 * z.length+2:=AA e
  rw[g]
  have f:∀ i,i<=z.length->cnS p q z.length (z.length+2+i)=(((z.length - i:Nat):Int),((p+i % q:Nat):Int)):=fun i hi=>by
   unfold cnS
   rw[AE (by omega),AE (by omega),show 2 * z.length+2 - (z.length+2+i)=z.length - i by omega,show z.length+2+i - (z.length+2)=i by omega]
  refine uV M S (zE rfl fun k j=>?_) ?_
  .by_cases h1:k < z.length+1
   .exact c k h1
   .by_cases h2:k=z.length+1
    .subst h2
     have:=f 0 (by omega)
     rw[m,zD d,show z.length+1+1=z.length+2+0 by omega,this,Nat.sub_zero,Nat.zero_mod]
     rfl
    .obtain ⟨i,rfl⟩:∃ i,k=z.length+2+i:=⟨k - (z.length+2),by omega⟩
     have:=s i
     rw[f i (by omega),show z.length+2+i+1=z.length+2+(i+1) by omega,f (i+1) (by omega),K.step S (by omega) (by omega) (by omega),t,v,AE (by decide),FB,show ((z.length - i:Nat):Int) + -1=((z.length - (i+1):Nat):Int) by omega]
  .have:=f z.length (A2 _)
   rw[show 2 * z.length+2=z.length+2+z.length by omega,this,EA]
   exact zC (x:=if z.length % q=b then "by" else "out") (by rw[vX (s _)];rfl)
 .rw[AE e] at d
  have g:cnN p a z.length=z.length+1:=AE e
  rw[g]
  refine uV M S (zE rfl fun k j=>c k j) ?_
  rw[m]
  exact aF3 d
end
def pnR(t sg:Nat)(lt:Tn)(r:Nat):Rw:=if r % 2=0 then ⟨if r=0 then .n 0 else .w "out",List.replicate sg ((r:Int),1),.n ((r+1:Nat):Int)⟩ else ⟨if r+1=2 * t then lt else .n ((r+1:Nat):Int),List.replicate sg ((r:Int),-1),.w "by"⟩
def pnM(t sg:Nat)(lt:Tn):List Rw:=(List.range (2 * t)).map (pnR t sg lt)
section
variable{t sg:Nat}{lt:Tn}{z:List Nat}
theorem j5:(pnM t sg lt).length=2 * t:=by unfold pnM;rw[AH,A0]
theorem zF{r:Nat}(h:r < 2 * t):aV (pnM t sg lt) (r:Int)=pnR t sg lt r:=by
 unfold aV
 rw[B2,AX]
 unfold pnM
 rw[AS,BK h];rfl
theorem aA4{k:Nat}(h:k < t):aV (pnM t sg lt) ((2 * k:Nat):Int)=⟨if k=0 then .n 0 else .w "out",List.replicate sg (((2 * k:Nat):Int),1),.n ((2 * k+1:Nat):Int)⟩:=by
 rw[zF (by omega)]
 unfold pnR
 rw[AA (by omega)]
 by_cases e:k=0
 · rw [AA e, AA (by omega)]
 · rw [AE e, AE (by omega)]
theorem m7{k:Nat}(h:k < t):aV (pnM t sg lt) ((2 * k+1:Nat):Int)=⟨if k+1=t then lt else .n ((2 * k+2:Nat):Int),List.replicate sg (((2 * k+1:Nat):Int),-1),.w "by"⟩:=by
 rw[zF (by omega)]
 unfold pnR
 rw[AE (by omega)]
 by_cases e:k+1=t
 · rw [AA e, AA (by omega)]
 · rw [AE e, AE (by omega)]
theorem oK(i:1<=t)(h:t<=3)(a:lt.good 1)(s1:1<=sg)(e:sg<=3):Mach (pnM t sg lt) sg where
 len:=by rw[j5];omega
 len2:=by rw[j5];omega
 sg1:=s1
 sg3:=e
 row:=fun r d=>by
  rw[j5]
  unfold pnM at d
  obtain ⟨k,f,rfl⟩:=BZ.mp d
  rw[BC] at f
  have g:lt.good ((2 * t:Nat):Int):=by
   cases lt with
   | n q=>exact ⟨a.1,by have:=a.2;show q < _;omega⟩
   | w x=>exact a
  unfold pnR
  split
  .refine ⟨⟨?_,⟨by omega,by omega⟩,fun c b=>?_⟩,BP⟩
   .dsimp only;split
    · exact ⟨by omega, by omega⟩
    · exact .inr rfl
   .rw[CL b]
    exact ⟨by show (0:Int)<=(k:Int);omega,by show (k:Int) < _;omega,.inl rfl⟩
  .refine ⟨⟨?_,.inl rfl,fun c b=>?_⟩,BP⟩
   .dsimp only;split
    · exact g
    · exact ⟨by omega, by omega⟩
   .rw[CL b]
    exact ⟨by show (0:Int)<=(k:Int);omega,by show (k:Int) < _;omega,.inr rfl⟩
theorem aI8(f:1<=t)(b:(∃ x,lt=.w x)\/lt=.n 0):Kdr (pnM t sg lt) sg (fun i=>i) (fun i=>decide (i % 2=0)) where
 cel:=fun i hi k a=>by
  rw[j5] at hi
  rw[zF hi]
  unfold pnR
  by_cases e:i % 2=0
  .rw[AA e,AT e]
   exact zA rfl a
  .rw[AE e,AW e]
   exact zA rfl a
 lt:=fun i hi=>hi
 rr:=fun i hi=>rfl
 l0:=by rw[show (0:Int)=((2 * 0:Nat):Int) from rfl,aA4 (by omega)];rfl
 rt0:=rfl
 lf:=fun i hi c=>by
  rw[j5] at hi
  have d:¬ i % 2=0:=FO c
  rw[zF hi]
  unfold pnR
  rw[AE d]
  by_cases e:i+1=2 * t
  .dsimp only
   rw[AA e]
   rcases b with ⟨x,rfl⟩|rfl
   · exact .inl ⟨x, rfl⟩
   · exact .inr ⟨0, rfl, by rw [j5]; omega, rfl⟩
  .dsimp only
   rw[AE e]
   exact .inr ⟨i+1,rfl,by rw[j5];omega,AT (by omega)⟩
def pnS(n k:Nat):Int×Int:=if k=0 then (0,0) else if (k - 1) % (2 * n+2)<=n then ((((k - 1) % (2 * n+2)+1:Nat):Int),((2 * ((k - 1) / (2 * n+2)):Nat):Int)) else (((2 * n+1 - (k - 1) % (2 * n+2):Nat):Int),((2 * ((k - 1) / (2 * n+2))+1:Nat):Int))
theorem iC{n m i:Nat}(h:i < 2 * n+2):pnS n (m * (2 * n+2)+i+1)=if i<=n then (((i+1:Nat):Int),((2 * m:Nat):Int)) else (((2 * n+1 - i:Nat):Int),((2 * m+1:Nat):Int)):=by
 have e1:(m * (2 * n+2)+i) % (2 * n+2)=i:=by rw[C9,GP];exact EE h
 have e2:(m * (2 * n+2)+i) / (2 * n+2)=m:=by rw[C9,GO (by omega),GI h,FA]
 unfold pnS
 rw[AE (by omega),FP,e1,e2]
theorem aHE(l:1<=t)(d:(∃ x,lt=.w x)\/lt=.n 0)(S:bY sg z){k:Nat}(p:k < t * (2 * z.length+2)):cF (pnM t sg lt) z (pnS z.length k)=some (pnS z.length (k+1)):=by
 have K:=aI8 (sg:=sg) l d
 have L:(pnM t sg lt).length=2 * t:=j5
 by_cases g:k=0
 .subst g
  have e:pnS z.length 0=(0,((0:Nat):Int)):=rfl
  have e1:=iC (n:=z.length) (m:=0) (i:=0) (by omega)
  rw[AA (by omega)] at e1
  rw[e,pY K.l0,show 0+1=0 * (2 * z.length+2)+0+1 by omega,e1]
  rfl
 .obtain ⟨m,i,hi,rfl⟩:∃ m i,i < 2 * z.length+2/\k=m * (2 * z.length+2)+i+1:=by
   refine ⟨(k - 1) / (2 * z.length+2),(k - 1) % (2 * z.length+2),CJ _ (by omega),?_⟩
   have:=GS (k - 1) (2 * z.length+2)
   rw[C9 (2 * z.length+2) ((k - 1) / (2 * z.length+2))] at this
   omega
  have c:m < t:=by
   refine GG fun h=>?_
   have:=DA (2 * z.length+2) h
   omega
  have a:=iC (n:=z.length) (m:=m) hi
  rw[a]
  by_cases h1:i < z.length
  .have b:=iC (n:=z.length) (m:=m) (i:=i+1) (by omega)
   rw[AA (by omega)] at b ⊢
   rw[show m * (2 * z.length+2)+i+1+1=m * (2 * z.length+2)+(i+1)+1 by omega,b,K.step S (by omega) (by omega) (by omega),show decide (2 * m % 2=0)=true from AT (by omega),AA rfl]
   rfl
  .by_cases h2:i=z.length
   .have b:=iC (n:=z.length) (m:=m) (i:=i+1) (by omega)
    rw[AE (by omega)] at b
    rw[AA (by omega),show m * (2 * z.length+2)+i+1+1=m * (2 * z.length+2)+(i+1)+1 by omega,b,h2]
    have r:=aA4 (sg:=sg) (lt:=lt) c
    have:=zD (z:=z) (rs:=pnM t sg lt) (r:=2 * m) (r':=((2 * m+1:Nat):Int)) (by rw[r])
    rw[show ((z.length+1:Nat):Int)=(z.length:Int)+1 from rfl,this,show 2 * z.length+1 - (z.length+1)=z.length by omega]
   .rw[AE (by omega)]
    by_cases o:i < 2 * z.length+1
    .have b:=iC (n:=z.length) (m:=m) (i:=i+1) (by omega)
     rw[AE (by omega)] at b
     rw[show m * (2 * z.length+2)+i+1+1=m * (2 * z.length+2)+(i+1)+1 by omega,b,K.step S (by omega) (by omega) (by omega),show decide ((2 * m+1) % 2=0)=false from AW (by omega),AE (by decide),show ((2 * z.length+1 - i:Nat):Int) + -1=((2 * z.length+1 - (i+1):Nat):Int) by omega]
    .have f:i=2 * z.length+1:=by omega
     have j:m+1 < t:=by
      refine GG fun h=>?_
      have:=DA (2 * z.length+2) h
      rw[FH] at this
      omega
     have b:=iC (n:=z.length) (m:=m+1) (i:=0) (by omega)
     rw[AA (by omega)] at b
     have r:=m7 (sg:=sg) (lt:=lt) c
     rw[AE (by omega)] at r
     have:=pY (z:=z) (rs:=pnM t sg lt) (r:=2 * m+1) (r':=((2 * m+2:Nat):Int)) (by rw[r])
     rw[show m * (2 * z.length+2)+i+1+1=(m+1) * (2 * z.length+2)+0+1 by rw[FH];omega,b,f,EA,show ((0:Nat):Int)=0 from rfl,this]
     rfl
theorem zG{n:Nat}(a:1<=t):pnS n (t * (2 * n+2))=(0,((2 * (t - 1)+1:Nat):Int)):=by
 have b:=iC (n:=n) (m:=t - 1) (i:=2 * n+1) (by omega)
 rw[AE (by omega),EA] at b
 rw[show t * (2 * n+2)=(t - 1) * (2 * n+2)+(2 * n+1)+1 by rw[Nat.sub_mul,Nat.one_mul];have:=DA (2 * n+2) a;omega,b]
 rfl
theorem aHF(a:1<=t)(c:t<=3){x:Str}(e:x="by"\/x="out")(s1:1<=sg)(b:sg<=3)(S:bY sg z) :
  dZ (pnM t sg (.w x)) z=(List.range (t * (2 * z.length+2))).map (pnS z.length)++[pnS z.length (t * (2 * z.length+2))]:=by
 refine uV (oK (lt:=.w x) a c e s1 b) S (zE rfl fun k d=>aHE a (.inl ⟨x,rfl⟩) S d) ?_
 rw[zG a]
 have r:=m7 (sg:=sg) (lt:=.w x) (t:=t) (k:=t - 1) (by omega)
 rw[AA (by omega)] at r
 exact zC (x:=x) (by rw[r])
end
theorem aSS{α:Type}{f:Nat->α}{M:Nat}(h:∀ i j,i < M->j < M->f i=f j->i=j):((List.range M).map f).Nodup:=
 FX.mpr (EL (fun c b a e=>a (h _ _ (BC.mp c) (BC.mp b) e)) List.nodup_range)
theorem pZ(n:Nat){k:Nat}(h:k≠0):∃ m i,i < 2 * n+2/\k=m * (2 * n+2)+i+1:=by
 refine ⟨(k - 1) / (2 * n+2),(k - 1) % (2 * n+2),CJ _ (by omega),?_⟩
 have:=GS (k - 1) (2 * n+2)
 rw[C9 (2 * n+2) ((k - 1) / (2 * n+2))] at this
 omega
theorem aQE{n k c:Nat}(h:pnS n k=pnS n c):k=c:=by
 by_cases d:k=0
 .by_cases h1:c=0
  .omega
  .exfalso
   obtain ⟨m,i,hi,rfl⟩:=pZ n h1
   rw[iC hi,d] at h
   have e:pnS n 0=(0,0):=rfl
   rw[e] at h
   split at h<;>(injection h with a b;omega)
 .by_cases h1:c=0
  .exfalso
   obtain ⟨m,i,hi,rfl⟩:=pZ n d
   rw[iC hi,h1] at h
   have e:pnS n 0=(0,0):=rfl
   rw[e] at h
   split at h<;>(injection h with a b;omega)
  .obtain ⟨m,i,hi,rfl⟩:=pZ n d
   obtain ⟨g,j,f,rfl⟩:=pZ n h1
   rw[iC hi,iC f] at h
   have:m=g/\i=j:=by
    split at h<;>split at h<;>(injection h with a b;omega)
   rw[this.1,this.2]
section
variable{t sg:Nat}{z:List Nat}
def pnE(t n k:Nat):Int×Int:=if k<=t * (2 * n+2) then pnS n k else (1,0)
theorem aQF(b:1<=t)(c:t<=3)(s1:1<=sg)(d:sg<=3)(S:bY sg z) :
  dZ (pnM t sg (.n 0)) z=(List.range (t * (2 * z.length+2)+1)).map (pnE t z.length)++[(1,0)]:=by
 have f:2 * z.length+2<=t * (2 * z.length+2):=EV _ b
 have a:∀ k,k<=t * (2 * z.length+2)->pnE t z.length k=pnS z.length k:=fun k h=>AA h
 have eL:pnE t z.length (t * (2 * z.length+2)+1)=(1,0):=AE (by omega)
 have M:=oK (lt:=.n 0) b c ⟨by omega,by omega⟩ s1 d
 have C:Chn (pnM t sg (.n 0)) z ((List.range (t * (2 * z.length+2)+1)).map (pnE t z.length)++[pnE t z.length (t * (2 * z.length+2)+1)]):=zE (by rw[a 0 (by omega)];rfl) fun k g=>by
  by_cases e:k=t * (2 * z.length+2)
  .subst e
   rw[a _ (A2 _),eL,zG b]
   have r:=m7 (sg:=sg) (lt:=.n 0) (t:=t) (k:=t - 1) (by omega)
   rw[AA (by omega)] at r
   exact pY (by rw[r])
  .rw[a k (by omega),a (k+1) (by omega)]
   exact aHE b (.inr rfl) S (by omega)
 rw[eL] at C
 refine aLJ M S C (aSS fun i j hi l e=>?_) (BZ.mpr ⟨1,BC.mpr (by omega),?_⟩)
 .rw[a i (by omega),a j (by omega)] at e
  exact aQE e
 .have:=iC (n:=z.length) (m:=0) (i:=0) (by omega)
  rw[AA (by omega),show 0 * (2 * z.length+2)+0+1=1 by omega] at this
  rw[a 1 (by omega),this]
  rfl
end
end Mc
namespace Fl
open L2 PyProof.Rows
@[simp] theorem zH(f g h:Sg->R Dz)(ρ:Sg):vS f g h ρ=(f ρ).bind fun x=>(g ρ).bind fun y=>(h ρ).bind fun z=>match x,y,z with
 | .int i,.int j,.int k=>if k = -1 then oJ i j else .bad
 | _,_,_=>.bad:=id rfl
end Fl
namespace Mc
open L2 PyProof.Rows Fl
theorem aST{t sg:Nat}{lt:Tn}(B:1<=t)(z:t<=3)(s:sg<=3):fH [.d (.int (t:Int)),.d (.int (sg:Int)),.d lt.d]=.ok (.d (a8 (pnM t sg lt))):=by
 obtain ⟨u,p,g,c,rfl⟩:=jS (fs:=stN 4) (fb:=pnF) (d:=fun k:Nat=>.int (k:Int)) (xs:=List.range t) (ρ:=[iO t,iO sg,some (.d lt.d),some (.l []),none,none])
  (fun i ρ=>∃ g c,ρ=[iO t,iO sg,some (.d lt.d),some (.l ((List.range (2 * i)).map fun k=>cQ (pnR t sg lt k))),g,c]) ⟨none,none,rfl⟩ fun i k ρ v j=>by
  obtain ⟨g,c,e⟩:=j
  obtain ⟨rfl,hi⟩:=rD v
  have b:((List.range (2 * k)).map fun k=>cQ (pnR t sg lt k)).length < 16777216:=by rw[AH,A0];omega
  have a:∀ r,(((List.range (2 * k)).map fun k=>cQ (pnR t sg lt k))++[r]).length < 16777216:=fun r=>by rw[AZ,AH,A0,B6];omega
  have o:=aC8 (.tuple [.int (2 * (k:Int)),.int 1]) s
  have m:=aC8 (.tuple [.int (2 * (k:Int)+1),.int (-1)]) s
  have h2:dMul (.int 2) (.int (k:Int))=.ok (.int (2 * (k:Int))):=oZ (by decide) (by decide)
  have y:((2 * k:Nat):Int)=2 * (k:Int):=by omega
  have q:((2 * k+1:Nat):Int)=2 * (k:Int)+1:=by omega
  have w:cQ (pnR t sg lt (2 * k))=.tuple [if decide ((0:Int) < (k:Int))=true then .str "out" else .int 0,.tuple (List.replicate sg (.tuple [.int (2 * (k:Int)),.int 1])),.int (2 * (k:Int)+1)]:=by
   unfold cQ pnR
   rw[AA (by omega)]
   dsimp only
   rw[sT,y,q]
   by_cases h:k=0
   · rw [AA (by omega), AE (by rw [CZ]; omega)]; rfl
   · rw [AE (by omega), AA (AT (by omega))]; rfl
  have f:cQ (pnR t sg lt (2 * k+1))=.tuple [if decide ((k:Int)=(t:Int) - 1)=true then lt.d else .int (2 * (k:Int)+2),.tuple (List.replicate sg (.tuple [.int (2 * (k:Int)+1),.int (-1)])),.str "by"]:=by
   unfold cQ pnR
   rw[AE (by omega)]
   dsimp only
   rw[sT,q]
   by_cases h:2 * k+1+1=2 * t
   · rw [AA h, AA (AT (by omega))]; rfl
   · rw [AE h, AE (by rw [CZ]; omega), show ((2 * k + 1 + 1 : Nat) : Int) = 2 * (k : Int) + 2 by omega]; rfl
  refine ⟨[iO t,iO sg,some (.d lt.d),some (.l ((List.range (2 * k)).map fun k=>cQ (pnR t sg lt k))),iO k,c],_,by rw[e];rfl,.inl ?_,iO k,some (.d (if decide ((k:Int)=(t:Int) - 1)=true then lt.d else .int (2 * (k:Int)+2))),rfl⟩
  rw[show 2 * (k+1)=2 * k+1+1 by omega,lW,lW,w,f]
  generalize ((List.range (2 * k)).map fun k=>cQ (pnR t sg lt k))=L at *
  generalize List.replicate sg (PyData.tuple [.int (2 * (k:Int)),.int 1])=A at *
  generalize List.replicate sg (PyData.tuple [.int (2 * (k:Int)+1),.int (-1)])=RQ at *
  unfold pnF
  simp only[iO,aX,cU,cT,cA,bZ,kZ,eS,bJ,bL,bW,fM,bU,R.bind_ok,AC,AB,cH,mG,uW,AJ,AM,j6,eI,aC0,gG,mD,hZ,h2,xL,o,m,lH,AG,AK,Nat.reduceAdd,Nat.reduceLeDiff,A8,AA b,AA (a _)]
 have o:a8 (pnM t sg lt)=.tuple ((List.range (2 * (List.range t).length)).map fun k=>cQ (pnR t sg lt k)):=by
  unfold a8 pnM
  rw[BL,A0];rfl
 have x:=iY (n:=t) (by omega)
 unfold fH
 rw[o,kB]
 simp only[iO] at p
 simp only[cE,aX,fN,eS,bL,B3,A8,R.bind_ok,AI,A5,AG,AK,Nat.reduceAdd,Nat.reduceSub,List.replicate,AU,AV,AJ,AM,iU,gP,bU,AC,AB,x,p,cN,cT,bZ,lH]
theorem aU6(x p a:Nat):decide (((x:Nat):Int) % (p:Int)=(a:Int))=decide (x % p=a):=DR.mpr ⟨fun h=>by exact_mod_cast h,fun h=>by exact_mod_cast h⟩
theorem aFK(n:Nat)(h:n<=2000):fZ 1 ((n:Int)+2)=.ok ((List.range (n+1)).map fun i:Nat=>.int (1+(i:Int))):=by
 unfold fZ
 rw[AA ⟨by omega,by omega,by omega,by omega,by omega⟩,show ((n:Int)+2 - 1).toNat=n+1 by omega];rfl
theorem sC(n:Nat)(h:n<=2000):oJ (n:Int) (-1)=.ok ((List.range (n+1)).map fun i:Nat=>.int ((n:Int) - (i:Int))):=by
 unfold oJ
 rw[AA ⟨by omega,by omega,by omega,by omega⟩,show ((n:Int) - -1).toNat=n+1 by omega];rfl
section
variable{p q a n:Nat}
noncomputable def cnA(p n:Nat):List Dz:=(List.range (n+1)).map fun i:Nat=>.tuple [.int (1+(i:Int)),.int ((i % p:Nat):Int)]
noncomputable def cnB(p q n:Nat):List Dz:=(List.range (n+1)).map fun i:Nat=>.tuple [.int ((n:Int) - (i:Int)),.int ((p+i % q:Nat):Int)]
theorem aOF:(List.range (n+2)).map (fun k=>prD (cnS p q n k))=.tuple [.int 0,.int 0]::cnA p n:=by
 rw[DK,AI,BL]
 congr 1
 unfold cnA
 refine BN fun i hi=>?_
 have hi:=BC.mp hi
 show prD (cnS p q n (i+1))=_
 unfold cnS
 rw[AE (by omega),AA (by omega),FP]
 show PyData.tuple [.int ((i+1:Nat):Int),_]=_
 rw[show ((i+1:Nat):Int)=1+(i:Int) by omega]
theorem aUF:(List.range (2 * n+3)).map (fun k=>prD (cnS p q n k))=(.tuple [.int 0,.int 0]::cnA p n)++cnB p q n:=by
 rw[show 2 * n+3=(n+2)+(n+1) by omega,G4,BG,aOF,BL]
 congr 1
 unfold cnB
 refine BN fun i hi=>?_
 have hi:=BC.mp hi
 show prD (cnS p q n (n+2+i))=_
 unfold cnS
 rw[AE (by omega),AE (by omega),show n+2+i - (n+2)=i by omega]
 show PyData.tuple [.int ((2 * n+2 - (n+2+i):Nat):Int),_]=_
 rw[show ((2 * n+2 - (n+2+i):Nat):Int)=(n:Int) - (i:Int) by omega]
theorem aLK(p1:1<=p)(q1:1<=q)(j:n<=2000):fW [.d (.int (p:Int)),.d (.int (q:Int)),.d (.int (a:Int)),.d (.int (n:Int))]=.ok (.d (.list ((List.range (cnN p a n+1)).map fun k=>prD (cnS p q n k)))):=by
 have c:(0:Int) < (p:Int):=by omega
 have o:(0:Int) < (q:Int):=by omega
 have f:=aFK n j
 have s:=sC n j
 have h1:compL (stN 0) gE (cO (aB (eV 0) (aB (e2 dMod (e2 dSub (rV 0) (eC (.int 1))) (rV 1)) aL))) [none,some (.d (.int (p:Int)))] ((List.range (n+1)).map fun i:Nat=>.int (1+(i:Int)))=.ok (cnA p n):=
  compL_of (d:=fun i:Nat=>.int (1+(i:Int))) (g:=fun i:Nat=>.tuple [.int (1+(i:Int)),.int ((i % p:Nat):Int)]) (xs:=List.range (n+1)) fun i _=>⟨_,rfl,by
   have e:(1+(i:Int) - 1) % (p:Int)=((i % p:Nat):Int):=by rw[show 1+(i:Int) - 1=(i:Int) by omega];rfl
   simp only[AJ,eI,bJ,bL,fM,cA,bU,bW,mD,cV c,R.bind_ok,AC,AB,AG,AK,Nat.reduceAdd,Nat.reduceLeDiff,A8,e]⟩
 have h2:compL (stN 0) gE (cO (aB (eV 0) (aB (e2 cR (rV 1) (e2 dMod (e2 dSub (rV 2) (rV 0)) (rV 3))) aL))) [none,some (.d (.int (p:Int))),some (.d (.int (n:Int))),some (.d (.int (q:Int)))] ((List.range (n+1)).map fun i:Nat=>.int ((n:Int) - (i:Int)))=.ok (cnB p q n):=
  compL_of (d:=fun i:Nat=>.int ((n:Int) - (i:Int))) (g:=fun i:Nat=>.tuple [.int ((n:Int) - (i:Int)),.int ((p+i % q:Nat):Int)]) (xs:=List.range (n+1)) fun i _=>⟨_,rfl,by
   have e:(p:Int)+((n:Int) - ((n:Int) - (i:Int))) % (q:Int)=((p+i % q:Nat):Int):=by rw[show (n:Int) - ((n:Int) - (i:Int))=(i:Int) by omega];rfl
   simp only[AJ,eI,bJ,bL,fM,cA,bU,bW,mD,gG,cV o,R.bind_ok,AC,AB,AG,AK,Nat.reduceAdd,Nat.reduceLeDiff,A8,e]⟩
 have lA:(cnA p n).length=n+1:=by unfold cnA;rw[AH,A0]
 have lB:(cnB p q n).length=n+1:=by unfold cnB;rw[AH,A0]
 have h:lR (.list [.tuple [.int 0,.int 0]]) (.list (cnA p n))=.ok (.tuple [.int 0,.int 0]::cnA p n):=by
  unfold lR
  simp only
  rw[AA (by rw[dY,B6];omega)];rfl
 have m:lR (.list (.tuple [.int 0,.int 0]::cnA p n)) (.list (cnB p q n))=.ok ((.tuple [.int 0,.int 0]::cnA p n)++cnB p q n):=by
  unfold lR
  simp only
  rw[AA (by rw[dY,AG];omega)]
 have b:=aU6 n p a
 unfold fW
 rw[kX]
 by_cases e:n % p=a
 .rw[show cnN p a n+1=2 * n+3 by unfold cnN;rw[AA e],aUF]
  rw[AT e] at b
  generalize cnA p n=l at *
  generalize cnB p q n=r at *
  simp only[cE,aX,fN,cA,bZ,kZ,eS,bJ,bL,eI,bW,bU,dW,lT,oC,zH,hZ,fA,cZ,yL,aCZ,cN,gG,cH,cV c,cJ,b,f,s,h1,h2,h,m,R.bind_ok,B3,A8,AI,A5,EF,CD,E2,AG,AK,Nat.reduceAdd,Nat.reduceSub,Nat.reduceLeDiff,List.replicate,AU,AV,AJ,AM,AC,AB]
 .rw[show cnN p a n+1=n+2 by unfold cnN;rw[AE e],aOF]
  rw[AW e] at b
  generalize cnA p n=l at *
  generalize cnB p q n=r at *
  simp only[cE,aX,fN,cA,bZ,kZ,eS,bJ,bL,eI,bW,bU,dW,lT,oC,fA,cZ,fU,yL,aCZ,cN,gG,cH,cV c,cJ,b,f,h1,h,R.bind_ok,B3,A8,A7,BQ,AI,A5,EF,CD,E2,AG,AK,Nat.reduceAdd,Nat.reduceSub,Nat.reduceLeDiff,List.replicate,AU,AV,AJ,AM,AC,AB]
end
noncomputable def pnA(k n:Nat):List Dz:=(List.range (n+1)).map fun i:Nat=>.tuple [.int (1+(i:Int)),.int (2 * (k:Int))]
noncomputable def pnB(k n:Nat):List Dz:=(List.range (n+1)).map fun i:Nat=>.tuple [.int ((n:Int) - (i:Int)),.int (2 * (k:Int)+1)]
noncomputable def pnL(n N:Nat):List Dz:=(List.range N).map fun k=>prD (pnS n k)
def xP:Tn->List Dz
 | .n _=>[.tuple [.int 1,.int 0]]
 | .w _=>[]
section
variable{t n k:Nat}
theorem aU7:pnL n ((k+1) * (2 * n+2)+1)=pnL n (k * (2 * n+2)+1)++pnA k n++pnB k n:=by
 unfold pnL
 rw[show (k+1) * (2 * n+2)+1=(k * (2 * n+2)+1)+(n+1)+(n+1) by rw[FH];omega,G4,G4,BG,BG,BL,BL]
 congr 1
 .congr 1
  unfold pnA
  refine BN fun i hi=>?_
  have hi:=BC.mp hi
  show prD (pnS n (k * (2 * n+2)+1+i))=_
  have:=iC (n:=n) (m:=k) (i:=i) (by omega)
  rw[AA (by omega)] at this
  rw[show k * (2 * n+2)+1+i=k * (2 * n+2)+i+1 by omega,this]
  show PyData.tuple [.int ((i+1:Nat):Int),.int ((2 * k:Nat):Int)]=_
  rw[show ((i+1:Nat):Int)=1+(i:Int) by omega,show ((2 * k:Nat):Int)=2 * (k:Int) by omega]
 .unfold pnB
  refine BN fun i hi=>?_
  have hi:=BC.mp hi
  show prD (pnS n (k * (2 * n+2)+1+(n+1)+i))=_
  have:=iC (n:=n) (m:=k) (i:=n+1+i) (by omega)
  rw[AE (by omega)] at this
  rw[show k * (2 * n+2)+1+(n+1)+i=k * (2 * n+2)+(n+1+i)+1 by omega,this]
  show PyData.tuple [.int ((2 * n+1 - (n+1+i):Nat):Int),.int ((2 * k+1:Nat):Int)]=_
  rw[show ((2 * n+1 - (n+1+i):Nat):Int)=(n:Int) - (i:Int) by omega,show ((2 * k+1:Nat):Int)=2 * (k:Int)+1 by omega]
theorem aQG:(pnA k n).length=n+1:=by unfold pnA;rw[AH,A0]
theorem aQH:(pnB k n).length=n+1:=by unfold pnB;rw[AH,A0]
theorem aA5(N:Nat):(pnL n N).length=N:=by unfold pnL;rw[AH,A0]
theorem aNM(a:n<=2000)(h:0 < k):fZ (if decide ((0:Int) < (k:Int))=true then 1 else 0) ((n:Int)+2)=.ok ((List.range (n+1)).map fun i:Nat=>.int (1+(i:Int))):=by
 rw[AA (AT (by omega))]
 exact aFK n a
theorem aLL(a:n<=2000):fZ 0 ((n:Int)+2)=.ok ((List.range (n+2)).map fun i:Nat=>.int (i:Int)):=by
 have:=iY (n:=n+2) (by omega)
 rw[show ((n+2:Nat):Int)=(n:Int)+2 from rfl] at this
 exact this
theorem aHG(i:Int):aIZ [some (.d (.int i)),some (.d (.int (k:Int)))]=.ok (.tuple [.int i,.int (2 * (k:Int))]):=by
 have h2:dMul (.int 2) (.int (k:Int))=.ok (.int (2 * (k:Int))):=oZ (by decide) (by decide)
 unfold aIZ
 simp only[eI,bJ,bL,fM,cA,bU,bW,h2,R.bind_ok,AC,AB,AG,AK,Nat.reduceAdd,Nat.reduceLeDiff,A8]
theorem aQI(i:Int):aI0 [some (.d (.int i)),some (.d (.int (k:Int)))]=.ok (.tuple [.int i,.int (2 * (k:Int)+1)]):=by
 have h2:dMul (.int 2) (.int (k:Int))=.ok (.int (2 * (k:Int))):=oZ (by decide) (by decide)
 unfold aI0
 simp only[eI,bJ,bL,fM,cA,bU,bW,h2,gG,R.bind_ok,AC,AB,AG,AK,Nat.reduceAdd,Nat.reduceLeDiff,A8]
theorem aOG(xs ys:List Dz)(h:xs.length+ys.length<=16777216):lR (.list xs) (.list ys)=.ok (xs++ys):=by
 unfold lR
 simp only
 rw[AA (by rw[dY];exact h)]
theorem aQJ{lt:Tn}(N:1<=t)(v:t<=3)(j:n<=2000)(a:(lt=.w "by"\/lt=.w "out")\/lt=.n 0):gL [.d (.int (t:Int)),.d (.int (n:Int)),.d lt.d]=.ok (.d (.list (pnL n (t * (2 * n+2)+1)++xP lt))):=by
 have E:=sC n j
 obtain ⟨A,f,m,rfl⟩:=jS (fs:=stN 4) (fb:=aNE) (d:=fun k:Nat=>.int (k:Int)) (xs:=List.range t) (ρ:=[iO t,iO n,some (.d lt.d),some (.l []),none])
  (fun i ρ=>∃ m,ρ=[iO t,iO n,some (.d lt.d),some (.l (if i=0 then [] else pnL n (i * (2 * n+2)+1))),m]) ⟨none,rfl⟩ fun i k ρ I o=>by
  obtain ⟨m,e⟩:=o
  obtain ⟨rfl,hi⟩:=rD I
  have x:k * (2 * n+2)<=3 * (2 * n+2):=DA _ (by omega)
  have F:compL (stN 0) gE aI0 [none,some (.d (.int (k:Int)))] ((List.range (n+1)).map fun i:Nat=>.int ((n:Int) - (i:Int)))=.ok (pnB k n):=
   compL_of (d:=fun i:Nat=>.int ((n:Int) - (i:Int))) (g:=fun i:Nat=>.tuple [.int ((n:Int) - (i:Int)),.int (2 * (k:Int)+1)]) (xs:=List.range (n+1)) fun i _=>⟨_,rfl,aQI _⟩
  obtain ⟨X,h,G,B,z,H⟩:∃ X h:List Dz,fZ (if decide ((0:Int) < (k:Int))=true then 1 else 0) ((n:Int)+2)=.ok X/\compL (stN 0) gE aIZ [none,some (.d (.int (k:Int)))] X=.ok h/\(if k=0 then [] else pnL n (k * (2 * n+2)+1))++h=pnL n (k * (2 * n+2)+1)++pnA k n/\(if k=0 then [] else pnL n (k * (2 * n+2)+1)).length+h.length<=16777216:=by
   by_cases p:k=0
   .subst p
    refine ⟨_,_,by rw[AE (by decide)];exact aLL j,compL_of (d:=fun i:Nat=>.int (i:Int)) (g:=fun i:Nat=>.tuple [.int (i:Int),.int (2 * ((0:Nat):Int))]) (xs:=List.range (n+2)) fun i _=>⟨_,rfl,aHG _⟩,?_,?_⟩
    .rw[AA rfl,AV,DK,AI,BL]
     have D:pnL n (0 * (2 * n+2)+1)=[.tuple [.int 0,.int 0]]:=by rw[Nat.zero_mul];rfl
     rw[D]
     show _::_=_::_
     congr 1
     unfold pnA
     refine BN fun i _=>?_
     show PyData.tuple [.int ((i+1:Nat):Int),_]=_
     rw[show ((i+1:Nat):Int)=1+(i:Int) by omega]
    .rw[AA rfl,AH,A0,AK];omega
   .refine ⟨_,_,aNM j (by omega),compL_of (d:=fun i:Nat=>.int (1+(i:Int))) (g:=fun i:Nat=>.tuple [.int (1+(i:Int)),.int (2 * (k:Int))]) (xs:=List.range (n+1)) fun i _=>⟨_,rfl,aHG _⟩,?_,?_⟩
    .rw[AE p];rfl
    .rw[AE p,aA5,AH,A0];omega
  have b:=aOG _ _ H
  rw[z] at b
  have s:=aOG (pnL n (k * (2 * n+2)+1)++pnA k n) (pnB k n) (by rw[AZ,aA5,aQG,aQH];omega)
  rw[<-aU7] at s
  refine ⟨[iO t,iO n,some (.d lt.d),some (.l (if k=0 then [] else pnL n (k * (2 * n+2)+1))),iO k],_,by rw[e];rfl,.inl ?_,iO k,rfl⟩
  rw[AE (Nat.succ_ne_zero k)]
  generalize (if k=0 then [] else pnL n (k * (2 * n+2)+1))=M at *
  generalize pnL n (k * (2 * n+2)+1)++pnA k n=K at *
  generalize pnL n ((k+1) * (2 * n+2)+1)=J at *
  unfold aNE
  simp only[iO,aX,fN,cA,bZ,kZ,bW,bU,lT,oC,zH,hZ,fA,aC0,mG,gG,R.bind_ok,A8,AI,A5,EF,CD,E2,AJ,AM,AC,AB,G,B,b,E,F,s]
 rw[A0,AE (by omega)] at f
 have u:=iY (n:=t) (by omega)
 have C:t * (2 * n+2)<=3 * (2 * n+2):=DA _ v
 have c:(pnL n (t * (2 * n+2)+1)).length < 16777216:=by rw[aA5];omega
 unfold gL
 rw[lV]
 simp only[iO] at f
 rcases a with a|a
 .have q:dEq lt.d (.int 0)=.ok (.bool false):=by
   rcases a with rfl|rfl<;>(show dEq (.str _) (.int 0)=_;rw[mI (by decide +kernel) (iX 0)];rfl)
  have r:xP lt=[]:=by rcases a with rfl|rfl<;>rfl
  rw[r,CM]
  generalize lt.d=y at *
  generalize pnL n (t * (2 * n+2)+1)=L at *
  simp only[cE,aX,fN,eS,bL,B3,A8,R.bind_ok,AI,A5,AG,AK,Nat.reduceAdd,Nat.reduceSub,List.replicate,AU,AV,AJ,AM,iU,gP,bU,dW,bZ,cA,bW,AC,AB,u,f,cZ,q,cJ,A7,BQ,fU,yL,aCZ,cN]
 .subst a
  have q:dEq (Tn.n 0).d (.int 0)=.ok (.bool true):=by show dEq (.int 0) (.int 0)=_;rw[cH];rfl
  rw[show xP (.n 0)=[.tuple [.int 1,.int 0]] from rfl]
  generalize (Tn.n 0).d=y at *
  generalize pnL n (t * (2 * n+2)+1)=L at *
  simp only[cE,aX,fN,eS,bL,bJ,eI,B3,A8,R.bind_ok,AI,A5,AG,AK,Nat.reduceAdd,Nat.reduceSub,Nat.reduceLeDiff,List.replicate,AU,AV,AJ,AM,iU,gP,bU,dW,bZ,cA,bW,AC,AB,u,f,cZ,q,cJ,j6,AA c,yL,aCZ,cN]
end
theorem sU(r:Nat):∀ s,itN (fun i=>i) s r=r
 | 0=>rfl
 | s+1=>sU r s
structure Aft(rs:List Rw)(nx:Nat->Nat)(cd:Dz):Prop where
 f:∀ r s:Nat,r < rs.length->s<=2000->dC [.d cd,.d (.int (r:Int)),.d (.int (s:Int))]=.ok (.d (.int (itN nx s r:Int)))
theorem aSU{t sg:Nat}{lt:Tn}:Aft (pnM t sg lt) (fun i=>i) (.tuple [.int 0,.int 0]) where
 f:=fun r s _ _=>by
  rw[sU]
  simp[dC,iM,cH,rT]
theorem aSV{p q a b sg:Nat}(p1:1<=p)(q1:1<=q):Aft (swM p q a b sg) (swN p q) (.tuple [.int (p:Int),.int (q:Int)]) where
 f:=fun r s i _=>by
  rw[lJ] at i
  have g:(0:Int) < (p:Int):=by omega
  have j:(0:Int) < (q:Int):=by omega
  have d:decide ((p:Int)=0)=false:=AW (by omega)
  by_cases h:r < p
  .have h1:decide ((r:Int) < (p:Int))=true:=AT (by omega)
   have e:((r:Int)+(s:Int)) % (p:Int)=(((r+s) % p:Nat):Int):=by rw[<-Int.natCast_add];rfl
   rw[aFJ p1 _ _ h]
   simp only[dC,iM,cE,aX,aGX,aEQ,xA,aAJ,uH,rT,fM,cZ,bZ,cA,bU,bW,cH,d,nJ,h1,cJ,A7,BQ,A8,fU,cN,cT,gG,cV g,e,R.bind_ok,CD,AI,A5,AG,AK,Nat.reduceAdd,Nat.reduceSub,List.replicate,AU,AV,AJ,AM,AC,AB]
  .have h1:decide ((r:Int) < (p:Int))=false:=AW (by omega)
   have e:(p:Int)+(((r:Int) - (p:Int))+(s:Int)) % (q:Int)=((p+((r - p)+s) % q:Nat):Int):=by
    rw[show (r:Int) - (p:Int)+(s:Int)=(((r - p)+s:Nat):Int) by omega];rfl
   have c:=zB (p:=p) q1 s (r - p) (by omega)
   rw[show p+(r - p)=r by omega] at c
   rw[c]
   simp only[dC,iM,cE,aX,aGX,aEQ,xA,aAJ,uH,rT,fM,cZ,bZ,cA,bU,bW,cH,d,nJ,h1,cJ,A7,BQ,A8,fU,cN,cT,gG,mD,cV j,e,R.bind_ok,CD,AI,A5,AG,AK,Nat.reduceAdd,Nat.reduceSub,List.replicate,AU,AV,AJ,AM,AC,AB]
theorem aB6{rs:List Rw}{sg:Nat}{nx:Nat->Nat}{rt:Nat->Bool}(M:Mach rs sg)(K:Kdr rs sg nx rt){r:Nat}(g:r < rs.length):∃ x y w,dIx (a8 rs) (.int (r:Int))=.ok x/\dIx x (.int 1)=.ok y/\dIx y (.int 0)=.ok w/\dIx w (.int 1)=.ok (.int (if rt r=true then 1 else -1)):=by
 have e:=gU (rs:=rs) (q:=(r:Int)) (by omega) (by omega)
 rw[B2] at e
 have f:=(M.row _ (BA e)).2
 have h:=M.sg1
 have a:=K.cel r g 0 (by omega)
 unfold ck at a
 refine ⟨cQ (aV rs (r:Int)),.tuple ((aV rs (r:Int)).c.map fC),fC ((nx r:Int),if rt r=true then 1 else -1),kG (gI (by rw[AS,e];rfl)),uI _ _ _,?_,uI _ _ _⟩
 cases b:(aV rs (r:Int)).c with
 | nil=>rw[b] at f;simp at f;omega
 | cons d ds=>
  rw[b] at a
  have a:d=((nx r:Int),if rt r=true then 1 else -1):=a
  rw[AI,a]
  exact o4 _ _
theorem aNN{rs:List Rw}{r:Nat}(b:r < rs.length):∃ x,dIx (a8 rs) (.int (r:Int))=.ok x/\dIx x (.int 0)=.ok (aV rs (r:Int)).l.d:=by
 have a:=gU (rs:=rs) (q:=(r:Int)) (by omega) (by omega)
 rw[B2] at a
 exact ⟨cQ (aV rs (r:Int)),kG (gI (by rw[AS,a];rfl)),o4 _ _⟩
section
variable{rs:List Rw}{sg:Nat}{nx:Nat->Nat}{rt:Nat->Bool}{cd:Dz}{z:Str}{n:Nat}
def btN(rs:List Rw)(nx:Nat->Nat)(rt:Nat->Bool)(n r:Nat):Tn:=if n=0\/rt r=false then (aV rs (itN nx n r:Int)).l else .n (nx r:Int)
noncomputable def bgK(rs:List Rw)(nx:Nat->Nat)(rt:Nat->Bool)(n:Nat):Dz:=nW (.n (itN nx n 0:Int)) ((List.range rs.length).map (btN rs nx rt n))
theorem aSW(M:Mach rs sg)(K:Kdr rs sg nx rt)(A:Aft rs nx cd)(Q:n<=1000):eU [.d (a8 rs),.d cd,.d (.int (n:Int))]=.ok (.d (bgK rs nx rt n)):=by
 have G:=M.len2
 have H:=M.len
 obtain ⟨F,o,q,c,rfl⟩:=jS (fs:=stN 4) (fb:=dbF) (d:=fun k:Nat=>.int (k:Int)) (xs:=List.range rs.length) (ρ:=[some (.d (a8 rs)),some (.d cd),iO n,some (.l []),none,none])
  (fun i ρ=>∃ q c,ρ=[some (.d (a8 rs)),some (.d cd),iO n,some (.l ((List.range i).map fun r=>(btN rs nx rt n r).d)),q,c]) ⟨none,none,rfl⟩ fun i k ρ O t=>by
  obtain ⟨q,c,e⟩:=t
  obtain ⟨rfl,hi⟩:=rD O
  have a:((List.range k).map fun r=>(btN rs nx rt n r).d).length < 16777216:=by rw[AH,A0];omega
  obtain ⟨x,y,w,p,s,m,b⟩:=aB6 M K hi
  have D:=A.f k n hi (by omega)
  have v:=A.f k 1 hi (by omega)
  obtain ⟨P,z,B⟩:=aNN (K.it n k hi).1
  rw[show ((1:Nat):Int)=1 from rfl,show itN nx 1 k=nx k from rfl] at v
  refine ⟨[some (.d (a8 rs)),some (.d cd),iO n,some (.l ((List.range k).map fun r=>(btN rs nx rt n r).d)),iO k,c],_,by rw[e];rfl,.inl ?_,some (.d (btN rs nx rt n k).d),some (.d (.int (if rt k=true then 1 else -1))),rfl⟩
  rw[lW]
  generalize ((List.range k).map fun r=>(btN rs nx rt n r).d)=L at *
  generalize a8 rs=E at *
  by_cases C:n=0
  .rw[show btN rs nx rt n k=(aV rs (itN nx n k:Int)).l from AA (.inl C)]
   have g:decide ((n:Int)=0)=true:=AT (by omega)
   unfold dbF
   simp only[iO,aX,cU,cZ,qM,cT,dW,cY,gO,cA,bZ,bJ,bL,bW,fM,bU,cH,hZ,cJ,fK,R.bind_ok,AC,AB,AG,AK,Nat.reduceAdd,A8,AJ,AM,j6,AA a,p,s,m,b,g,D,z,B]
  .have g:decide ((n:Int)=0)=false:=AW (by omega)
   cases j:rt k with
   | false=>
    rw[j] at b
    rw[show btN rs nx rt n k=(aV rs (itN nx n k:Int)).l from AA (.inr j)]
    unfold dbF
    simp only[iO,aX,cU,cZ,qM,cT,dW,cY,gO,cA,bZ,bJ,bL,bW,fM,bU,cH,hZ,cJ,fK,R.bind_ok,AC,AB,AG,AK,Nat.reduceAdd,A8,AJ,AM,j6,AA a,p,s,m,b,g,FJ,A7,BQ,D,z,B]
   | true=>
    rw[j] at b
    rw[show btN rs nx rt n k=.n (nx k:Int) from AE (by rintro (h|h);exact C h;rw[j] at h;cases h)]
    have J:decide ((1:Int) = -1)=false:=rfl
    unfold dbF
    simp only[iO,aX,cU,cZ,qM,cT,dW,cY,gO,cA,bZ,bJ,bL,bW,fM,bU,cH,hZ,cJ,fK,R.bind_ok,AC,AB,AG,AK,Nat.reduceAdd,A8,AJ,AM,j6,AA a,p,s,m,b,g,J,A7,BQ,v]
    rfl
 rw[A0] at o
 have u:=A.f 0 n (by omega) (by omega)
 rw[show ((0:Nat):Int)=0 from rfl] at u
 have N:=iY (n:=rs.length) (by omega)
 have a:dLen (a8 rs)=.ok (.int rs.length):=by unfold a8;rw[qQ,AH]
 have I:bgK rs nx rt n=.tuple [.int (itN nx n 0:Int),.tuple ((List.range rs.length).map fun r=>(btN rs nx rt n r).d)]:=by
  unfold bgK nW
  rw[BL]
  rfl
 unfold eU
 rw[iN,I]
 simp only[iO] at o
 generalize ((List.range rs.length).map fun r=>(btN rs nx rt n r).d)=L at *
 generalize a8 rs=E at *
 simp only[cE,aX,fN,eS,bL,bJ,eI,B3,A8,R.bind_ok,AI,A5,AG,AK,Nat.reduceAdd,Nat.reduceSub,Nat.reduceLeDiff,List.replicate,AU,AV,AJ,AM,iU,gP,bU,dW,cT,bW,gO,cY,fK,bZ,a,AC,AB,N,o,u,cN,lH]
end
theorem aB7{n:Nat}(h1:1<=n)(a:n<=3){D:Dz}:∀ (cs:List Nat) (k:Nat) (u3 u4:O6 A),(∀ c∈cs,dH n c=true)->∃ u3' u4',
  lO (stT [stN 3,stN 4]) (sIf (e1 asB (e2 dNin (rV 4) (rV 2))) aMU sNx) (j8 k (cs.map fun u=>.str ⟨#[u]⟩)) [some (.d (.int n)),some (.d D),some (.d (.str (Txt.slice "abc" none (some (n:Int))))),u3,u4]=.ok (.nx [some (.d (.int n)),some (.d D),some (.d (.str (Txt.slice "abc" none (some (n:Int))))),u3',u4'])
 | [],k,u3,u4,_=>⟨u3,u4,rfl⟩
 | c::t,k,u3,u4,h=>by
  have hin:dNin (.str ⟨#[c]⟩) (.str (Txt.slice "abc" none (some (n:Int))))=.ok (.bool (!dH n c)):=by
   show R.ok (PyData.bool (!_))=_
   rw[aDP h1 a]
  rw[h c BI] at hin
  obtain ⟨u3',u4',q⟩:=aB7 h1 a (D:=D) t (k+1) (some (.d (.int k))) (some (.d (.str ⟨#[c]⟩))) fun x b=>h x (A9 _ b)
  refine ⟨u3',u4',?_⟩
  rw[AI,j8]
  unfold lO
  simp[hin,q]
section
variable{rs:List Rw}{sg:Nat}{z:Str}
theorem zI(M:Mach rs sg)(S:bY sg z.cps.toList):eW [.d (a8 rs),.d (.str z)]=.ok (.d (.str z)):=by
 obtain ⟨r,t,b,e⟩:=M.cons
 have a:eP [.d (a8 rs)]=.ok (.d (.int sg)):=by rw[b,vM,e]
 have g:dSl (.str "abc") none (some (sg:Int))=.ok (.str (Txt.slice "abc" none (some (sg:Int)))):=aC1 (by decide)
 have f:yR (.str z)=.ok (j8 0 (z.cps.toList.map fun u=>.str ⟨#[u]⟩)):=by
  show (if z.cps.toList.length<=16777216 then R.ok _ else .bad)=_
  exact AA (by have:=S.1;omega)
 obtain ⟨i,j,q⟩:=aB7 M.sg1 M.sg3 (D:=.str z) z.cps.toList 0 none none S.2
 have c:jL [.d (.int sg),.d (.str z)]=.ok (.d (.str z)):=by
  simp only[jL,m4,cE,aX,cU,cT,qN,bW,qO,qP,bU,dW,iU,bZ,fM,g,f,q,cN,R.bind_ok,AI,A5,AU,AV,AG,AK,Nat.reduceAdd,Nat.reduceSub,List.replicate,AC,AB,AM,AJ]
 generalize a8 rs=h at *
 simp[eW,p9,a,c]
variable{nx:Nat->Nat}{rt:Nat->Bool}
theorem Kdr.offW(K:Kdr rs sg nx rt){bk:Int->Tn}{c r:Nat}{x:Str}(b:r < rs.length)(d:c - 97 < sg)(h:rt r=false)(a:bk (nx r:Int)=.w x):onR rs bk c (.n (r:Int))=.w x:=by
 have:=K.cel r b _ d
 unfold ck at this
 rw[h] at this
 unfold onR
 simp only
 rw[fD (o:=.w x) (by unfold mZ;rw[this,AE (show ¬ ((if false=true then (1:Int) else -1)=1) by decide),a])]
 rfl
theorem Kdr.offN(K:Kdr rs sg nx rt){bk:Int->Tn}{c r r':Nat}(g:r < rs.length)(d:c - 97 < sg)(h:rt r=false)(f:bk (nx r:Int)=.n (r':Int))(b:r' < rs.length)(h':rt r'=true):onR rs bk c (.n (r:Int))=.n (nx r':Int):=by
 have e:=K.cel r g _ d
 have a:=K.cel r' b _ d
 unfold ck at e a
 rw[h] at e
 rw[h'] at a
 unfold onR
 simp only
 rw[resOf_go (s':=(r':Int)) (by unfold mZ;rw[e,AE (show ¬ ((if false=true then (1:Int) else -1)=1) by decide),f]),fD (o:=.n (nx r':Int)) (by unfold mZ;rw[a,AA rfl,AA rfl])]
 rfl
def bsN(rs:List Rw)(nx:Nat->Nat)(rt:Nat->Bool)(n r:Nat):Tn:=if rt r=true then (if n=0 then (aV rs (r:Int)).l else .n (nx r:Int)) else lfB rs nx n r
theorem bs_off(K:Kdr rs sg nx rt){n r:Nat}(b:r < rs.length)(h:rt r=false):(∃ x,(aV rs (itN nx n r:Int)).l=.w x/\bsN rs nx rt n r=.w x)\/∃ i:Nat,(aV rs (itN nx n r:Int)).l=.n (i:Int)/\i < rs.length/\rt i=true/\bsN rs nx rt n r=.n (itN nx n i:Int):=by
 obtain ⟨c,a⟩:=K.it n r b
 unfold bsN lfB
 rw[AE (by rw[h];decide)]
 rcases K.lf _ c (by rw[a,h]) with ⟨x,e⟩|⟨i,e,e1,e2⟩
 · exact .inl ⟨x, e, by rw [e]⟩
 · exact .inr ⟨i, e, e1, e2, by rw [e]; rfl⟩
theorem aU8(M:Mach rs sg)(K:Kdr rs sg nx rt){n r:Nat}(a:r < rs.length):tnV rs.length (bsN rs nx rt n r):=by
 cases h:rt r with
 | true=>
  unfold bsN
  rw[AA h]
  split
  .have g:=(M.row _ (BA (gU (q:=(r:Int)) (by omega) (by omega)))).1.1
   cases e:(aV rs (r:Int)).l with
   | n i=>rw[e] at g;exact g
   | w x=>trivial
  .have:=K.lt r a
   exact ⟨by omega,by omega⟩
 | false=>
  rcases bs_off K (n:=n) a h with ⟨x,_,e⟩|⟨i,_,e1,e2,e⟩
  .rw[e];trivial
  .rw[e]
   have:=(K.it n i e1).1
   exact ⟨by omega,by omega⟩
noncomputable def bgS(rs:List Rw)(nx:Nat->Nat)(rt:Nat->Bool)(n:Nat):Dz:=nW (.n (itN nx n 0:Int)) ((List.range rs.length).map (bsN rs nx rt n))
theorem aQK(M:Mach rs sg)(K:Kdr rs sg nx rt){n c:Nat}(m:dH sg c=true):lS [.d (bgS rs nx rt n),.d (i7 rs (c - 97))]=.ok (.d (bgS rs nx rt (n+1))):=by
 have f:c - 97 < sg:=by have:=B0 m;omega
 have y:=M.len
 obtain ⟨v,p⟩:=K.it n 0 (by omega)
 have w:∀ t∈(List.range rs.length).map (bsN rs nx rt n),tnV rs.length t:=fun t u=>by
  obtain ⟨q,l,rfl⟩:=BZ.mp u
  exact aU8 M K (BC.mp l)
 have b:∀ q:Nat,q < rs.length->bkF ((List.range rs.length).map (bsN rs nx rt n)) (q:Int)=bsN rs nx rt n q:=fun q l=>by
  unfold bkF
  rw[B2,AX,AS,BK l];rfl
 unfold bgS
 rw[aUA M m (by simp) w (t:=.n (itN nx n 0:Int)) ⟨by omega,by omega⟩,K.on v f (by rw[p,K.rt0]),aFI]
 congr 3
 refine BN fun r a=>?_
 have a:=BC.mp a
 have k:=K.lt r a
 cases h:rt r with
 | true=>
  rw[K.on a f h]
  unfold bsN
  rw[AA h,AE (Nat.succ_ne_zero n)]
 | false=>
  have g:rt (nx r)=false:=by rw[K.rr r a,h]
  rcases bs_off K (n:=n) k g with ⟨x,j,e⟩|⟨i,j,e1,e2,e⟩
  .rw[K.offW a f h (by rw[b _ k,e])]
   unfold bsN lfB
   rw[AE (by rw[h];decide),show itN nx (n+1) r=itN nx n (nx r) from rfl,j]
  .obtain ⟨s,o⟩:=K.it n i e1
   rw[K.offN (r':=itN nx n i) a f h (by rw[b _ k,e]) s (by rw[o,e2])]
   unfold bsN lfB
   rw[AE (by rw[h];decide),show itN nx (n+1) r=itN nx n (nx r) from rfl,j]
   show Tn.n _=Tn.n (itN nx (n+1) (Int.toNat ((i:Nat):Int)):Int)
   rw[B2,aFI]
theorem aSX(M:Mach rs sg)(K:Kdr rs sg nx rt):g9 [.d (a8 rs)]=.ok (.d (bgS rs nx rt 0)):=by
 have h:=compL_of (fs:=stN 0) (fe:=e2 dIx (rV 0) (eC (.int 0))) (ρ0:=[none]) (d:=cQ) (g:=fun r:Rw=>r.l.d) (xs:=rs) fun r _=>⟨_,rfl,by simp[cQ]⟩
 have e1:bgS rs nx rt 0=.tuple [(aV rs 0).l.d,.tuple (rs.map fun r=>r.l.d)]:=by
  unfold bgS nW
  rw[aE4 rs,BL,K.l0]
  congr 4
  refine BN fun q c=>?_
  show (bsN rs nx rt 0 q).d=_
  have c:=BC.mp c
  cases h:rt q with
  | true=>unfold bsN;rw[AA h,AA rfl]
  | false=>
   rcases bs_off K (n:=0) c h with ⟨x,a,e⟩|⟨i,a,_,_,e⟩
   · rw [e]; have a : (aV rs (q : Int)).l = .w x := a; rw [a]
   · rw [e]; have a : (aV rs (q : Int)).l = .n (i : Int) := a; rw [a]; rfl
 obtain ⟨r,t,b,_⟩:=M.cons
 have f:dIx (.tuple (rs.map fun r=>r.l.d)) (.int 0)=.ok (aV rs 0).l.d:=by
  subst b
  exact o4 _ _
 rw[e1]
 unfold g9 mC
 simp[aIW M,fA,h,f]
theorem aSY(M:Mach rs sg)(K:Kdr rs sg nx rt)(S:bY sg z.cps.toList):j4 [.d (a8 rs),.d (.str z)]=.ok (.d (bgS rs nx rt z.cps.toList.length)):=by
 obtain ⟨r,t,c,v⟩:=M.cons
 have b:eP [.d (a8 rs)]=.ok (.d (.int sg)):=by rw[c,vM,v]
 have a:=nU (n:=sg) (by have:=M.sg3;omega)
 have p:=aSK M [some (.d (a8 rs)),some (.d (.str z)),none,none,none] rfl
 obtain ⟨h,k,m⟩:=jS (fs:=stN 4) (fb:=bgB) (d:=fun u:Nat=>PyData.str ⟨#[u]⟩) (xs:=z.cps.toList) (ρ:=[some (.d (a8 rs)),some (.d (.str z)),some (.l ((List.range sg).map (i7 rs))),some (.d (bgS rs nx rt 0)),none])
  (fun i ρ=>∃ u,ρ=[some (.d (a8 rs)),some (.d (.str z)),some (.l ((List.range sg).map (i7 rs))),some (.d (bgS rs nx rt i)),u]) ⟨none,rfl⟩ fun i x ρ o g=>by
  obtain ⟨u,e⟩:=g
  subst e
  have f:dH sg x=true:=S.2 x (BA o)
  have w:x - 97 < sg:=by have:=B0 f;omega
  have j:=aQK (n:=i) M K f
  refine ⟨_,[some (.d (a8 rs)),some (.d (.str z)),some (.l ((List.range sg).map (i7 rs))),some (.d (bgS rs nx rt (i+1))),some (.d (.str ⟨#[x]⟩))],rfl,.inl ?_,_,rfl⟩
  simp[bgB,qR (o5 M.sg3 f),aP3 w,j]
 obtain ⟨u,rfl⟩:=m
 have q:z.cps.toList.length<=16777216:=by have:=S.1;omega
 have s:nX=aM (oA (aZ 2 eW (aB (vV 0) (aB (vV 1) aL))))
  (aM (gM 2 (f6 [none,some 0] (fS (eA (aZ 1 eP (aB (vV 0) aL)))) (stN 0) gE (eA (aZ 2 gN (aB (vV 1) (aB (vV 0) aL))))))
  (aM (bG 3 (aZ 1 g9 (aB (vV 0) aL)))
  (aM (lP (e1 dI (eV 1)) (stN 4) bgB) (bF (vV 3))))):=id rfl
 unfold j4
 rw[s]
 simp only[cE,aX,oX,cY,bJ,bL,dW,fN,lT,gP,gO,cU,iU,bZ,fM,cN,R.bind_ok,AG,AK,Nat.reduceAdd,A8,AI,A5,AU,AV,List.replicate,AC,AB,AJ,AM,zI M S,b,fK,a,p,aSX M K,xB q,k]
theorem aSZ(K:Kdr rs sg nx rt){n:Nat}(hid:∀ r r':Nat,r < rs.length->rt r=false->(aV rs (itN nx n r:Int)).l=.n (r':Int)->itN nx n r'=r'):bgS rs nx rt n=bgK rs nx rt n:=by
 unfold bgS bgK
 congr 1
 refine BN fun r b=>?_
 have b:=BC.mp b
 unfold btN
 cases h:rt r with
 | true=>
  unfold bsN
  rw[AA h]
  by_cases a:n=0
  · rw [AA a, AA (.inl a), a]; rfl
  · rw [AE a, AE (by rintro (h | h); exact a h; cases h)]
 | false=>
  rw[AA (.inr rfl)]
  rcases bs_off K (n:=n) b h with ⟨x,c,e⟩|⟨i,c,_,_,e⟩
  · rw [e, c]
  · rw [e, c, hid r i b h c]
end
end Mc
namespace Mb
open Classical
section
variable{τ:Type}(g:τ->Nat->τ)(t0:τ)(cs:List Nat)
variable{g t0 cs}
end
end Mb
namespace Mc
open L2 PyProof.Rows Fl
noncomputable def kTb(m:Nat)(nx:Nat->Nat)(rt:Nat->Bool)(n:Nat):Tb:=if n=0 then dL m else ⟨(List.range m).map fun q:Nat=>if rt q=true then some (1,(itN nx n q:Int)) else some (-1,(nx q:Int)),(List.range m).map fun q:Nat=>if rt q=true then some (1,(nx q:Int)) else some (-1,(itN nx n q:Int))⟩
section
variable{rs:List Rw}{sg:Nat}{nx:Nat->Nat}{rt:Nat->Bool}
theorem mM{m n:Nat}(h:n≠0):kTb m nx rt n=⟨(List.range m).map fun q:Nat=>if rt q=true then some (1,(itN nx n q:Int)) else some (-1,(nx q:Int)),(List.range m).map fun q:Nat=>if rt q=true then some (1,(nx q:Int)) else some (-1,(itN nx n q:Int))⟩:=AE h
theorem jN(K:Kdr rs sg nx rt)(n:Nat):(kTb rs.length nx rt n).good rs.length:=by
 by_cases h:n=0
 .subst h;exact rM _
 .rw[mM h]
  refine ⟨by simp,by simp,fun x d=>?_,fun x d=>?_⟩
  .obtain ⟨q,c,rfl⟩:=BZ.mp d
   have a:=(K.it n q (BC.mp c)).1
   have b:=K.lt q (BC.mp c)
   split
   · exact ⟨.inl rfl, by omega, by omega⟩
   · exact ⟨.inr rfl, by omega, by omega⟩
  .obtain ⟨q,c,rfl⟩:=BZ.mp d
   have a:=(K.it n q (BC.mp c)).1
   have b:=K.lt q (BC.mp c)
   split
   · exact ⟨.inl rfl, by omega, by omega⟩
   · exact ⟨.inr rfl, by omega, by omega⟩
theorem aS0{n q:Nat}(a:n≠0)(b:q < rs.length)(h:rt q=true):(kTb rs.length nx rt n).at 1 (q:Int)=some (1,(itN nx n q:Int)):=by
 rw[mM a]
 unfold Tb.at
 rw[AA rfl,AX,AS,show ((q:Int)).toNat=q by omega,BK b]
 show (some (if rt q=true then _ else _)).getD none=_
 rw[AA h];rfl
theorem aS1{n q:Nat}(a:n≠0)(b:q < rs.length)(h:rt q=false):(kTb rs.length nx rt n).at (-1) (q:Int)=some (-1,(itN nx n q:Int)):=by
 rw[mM a]
 unfold Tb.at
 rw[AE (by decide),AX,AS,show ((q:Int)).toNat=q by omega,BK b]
 show (some (if rt q=true then _ else _)).getD none=_
 rw[AE (by rw[h];decide)];rfl
theorem aLM(K:Kdr rs sg nx rt)(i j:Nat):jX rs.length [kTb rs.length nx rt i,kTb rs.length nx rt j]=kTb rs.length nx rt (i+j):=by
 by_cases hi:i=0
 .subst hi;rw[show kTb rs.length nx rt 0=dL rs.length from rfl,aH5 (jN K j),HC]
 .by_cases g:j=0
  .subst g;rw[show kTb rs.length nx rt 0=dL rs.length from rfl,aFS (jN K i),FA]
  .have c:=aDU (jN K i) (jN K j)
   have d:=aDV (jN K i) (jN K j)
   have n:(kTb rs.length nx rt i).f.map (fun th=>jC (kTb rs.length nx rt i) (kTb rs.length nx rt j) th 1)=(kTb rs.length nx rt (i+j)).f:=by
    rw[show (kTb rs.length nx rt i).f=(List.range rs.length).map fun q:Nat=>if rt q=true then some (1,(itN nx i q:Int)) else some (-1,(nx q:Int)) by rw[mM hi],show (kTb rs.length nx rt (i+j)).f=(List.range rs.length).map fun q:Nat=>if rt q=true then some (1,(itN nx (i+j) q:Int)) else some (-1,(nx q:Int)) by rw[mM (by omega)],BL]
    refine BN fun q b=>?_
    have b:=BC.mp b
    obtain ⟨k,m⟩:=K.it i q b
    show jC _ _ (if rt q=true then some (1,(itN nx i q:Int)) else some (-1,(nx q:Int))) 1=_
    cases l:rt q with
    | true=>
     rw[AA rfl,AA rfl]
     show (if (1:Int)=1 then cM (fB (kTb rs.length nx rt i) (kTb rs.length nx rt j)) (1,(itN nx i q:Int)) else some (1,(itN nx i q:Int)))=_
     rw[AA rfl,fD (o:=(1,(itN nx (i+j) q:Int)))]
     show (match (if (1:Int)=1 then (kTb rs.length nx rt j).at 1 (itN nx i q:Int) else (kTb rs.length nx rt i).at (-1) (itN nx i q:Int)) with|none=>none|some (w,q)=>if w = -1 then some (Sum.inl (w,q)) else some (Sum.inr (w,q)))=_
     rw[AA rfl,aS0 g k (by rw[m,l]),<-vW,HB j i]
     exact AE (by decide)
    | false=>
     rw[AE (by decide),AE (by decide)]
     show (if (-1:Int)=1 then cM (fB (kTb rs.length nx rt i) (kTb rs.length nx rt j)) (-1,(nx q:Int)) else some ((-1:Int),(nx q:Int)))=_
     exact AE (by decide)
   have h:(kTb rs.length nx rt j).a.map (fun th=>jC (kTb rs.length nx rt i) (kTb rs.length nx rt j) th (-1))=(kTb rs.length nx rt (i+j)).a:=by
    rw[show (kTb rs.length nx rt j).a=(List.range rs.length).map fun q:Nat=>if rt q=true then some (1,(nx q:Int)) else some (-1,(itN nx j q:Int)) by rw[mM g],show (kTb rs.length nx rt (i+j)).a=(List.range rs.length).map fun q:Nat=>if rt q=true then some (1,(nx q:Int)) else some (-1,(itN nx (i+j) q:Int)) by rw[mM (by omega)],BL]
    refine BN fun q b=>?_
    have b:=BC.mp b
    obtain ⟨k,m⟩:=K.it j q b
    show jC _ _ (if rt q=true then some (1,(nx q:Int)) else some (-1,(itN nx j q:Int))) (-1)=_
    cases l:rt q with
    | true=>
     rw[AA rfl,AA rfl]
     show (if (1:Int) = -1 then cM (fB (kTb rs.length nx rt i) (kTb rs.length nx rt j)) (1,(nx q:Int)) else some ((1:Int),(nx q:Int)))=_
     exact AE (by decide)
    | false=>
     rw[AE (by decide),AE (by decide)]
     show (if (-1:Int) = -1 then cM (fB (kTb rs.length nx rt i) (kTb rs.length nx rt j)) (-1,(itN nx j q:Int)) else some (-1,(itN nx j q:Int)))=_
     rw[AA rfl,fD (o:=(-1,(itN nx (i+j) q:Int)))]
     show (match (if (-1:Int)=1 then (kTb rs.length nx rt j).at 1 (itN nx j q:Int) else (kTb rs.length nx rt i).at (-1) (itN nx j q:Int)) with|none=>none|some (w,q)=>if w = - -1 then some (Sum.inl (w,q)) else some (Sum.inr (w,q)))=_
     rw[AE (by decide),aS1 hi k (by rw[m,l]),<-vW]
     exact AE (by decide)
   rw[n] at c
   rw[h] at d
   cases e:jX rs.length [kTb rs.length nx rt i,kTb rs.length nx rt j]
   cases e2:kTb rs.length nx rt (i+j)
   rw[e,e2] at c d
   dsimp only at c d
   rw[c,d]
theorem aQL(K:Kdr rs sg nx rt){k:Nat}(a:k < sg):qL k rs=kTb rs.length nx rt 1:=by
 have h:∀ q∈List.range rs.length,(some ((ck k (aV rs ((q:Nat):Int))).2,(ck k (aV rs ((q:Nat):Int))).1):Th)=if rt q=true then some (1,(nx q:Int)) else some (-1,(nx q:Int)):=fun q b=>by
  rw[K.cel q (BC.mp b) k a]
  cases rt q<;>rfl
 rw[mM (by decide)]
 unfold qL
 rw[aE4 rs fun r=>(some ((r.c.getD k (0,0)).2,(r.c.getD k (0,0)).1):Th)]
 have e:=BN h
 show Tb.mk _ _=Tb.mk _ _
 congr 1
end
section
variable{rs:List Rw}{sg:Nat}{nx:Nat->Nat}{rt:Nat->Bool}{cd:Dz}{z:List Nat}
def kF(nx:Nat->Nat)(rt:Nat->Bool)(n q:Nat):Int×Int:=if n=0 then (1,(q:Int)) else if rt q=true then (1,(itN nx n q:Int)) else (-1,(nx q:Int))
def kA(nx:Nat->Nat)(rt:Nat->Bool)(n q:Nat):Int×Int:=if n=0 then (-1,(q:Int)) else if rt q=true then (1,(nx q:Int)) else (-1,(itN nx n q:Int))
theorem aU9(m n:Nat):tbD (kTb m nx rt n)=.tuple [.tuple ((List.range m).map fun q=>prD (kF nx rt n q)),.tuple ((List.range m).map fun q=>prD (kA nx rt n q))]:=by
 have h:∀ (f:Nat->Th) (g:Nat->Int×Int),(∀ q,thD (f q)=prD (g q))->((List.range m).map f).map thD=(List.range m).map fun q=>prD (g q):=fun f g e=>by
  rw[BL]
  exact BN fun q _=>e q
 by_cases a:n=0
 .subst a
  show tbD (dL m)=_
  unfold tbD dL
  rw[h _ (kF nx rt 0) fun q=>rfl,h _ (kA nx rt 0) fun q=>rfl];rfl
 .rw[mM a]
  unfold tbD
  rw[h _ (kF nx rt n) fun q=>by unfold kF;rw[AE a];split<;>rfl,h _ (kA nx rt n) fun q=>by unfold kA;rw[AE a];split<;>rfl];rfl
theorem aS2(M:Mach rs sg)(K:Kdr rs sg nx rt)(A:Aft rs nx cd){n:Nat}(O:n<=2000):f9 [.d (a8 rs),.d cd,.d (.int (n:Int))]=.ok (.d (tbD (kTb rs.length nx rt n))):=by
 have L:=M.len2
 obtain ⟨J,r,s,o,j,m,rfl⟩:=jS (fs:=stN 5) (fb:=dtF) (d:=fun k:Nat=>.int (k:Int)) (xs:=List.range rs.length) (ρ:=[some (.d (a8 rs)),some (.d cd),iO n,some (.l []),some (.l []),none,none,none,none])
  (fun i ρ=>∃ s o j m,ρ=[some (.d (a8 rs)),some (.d cd),iO n,some (.l ((List.range i).map fun q=>prD (kF nx rt n q))),some (.l ((List.range i).map fun q=>prD (kA nx rt n q))),s,o,j,m]) ⟨none,none,none,none,rfl⟩ fun i k ρ S u=>by
  obtain ⟨s,o,j,m,e⟩:=u
  obtain ⟨rfl,hi⟩:=rD S
  have a:((List.range k).map fun q=>prD (kF nx rt n q)).length < 16777216:=by rw[AH,A0];omega
  have b:((List.range k).map fun q=>prD (kA nx rt n q)).length < 16777216:=by rw[AH,A0];omega
  obtain ⟨x,y,w,z,B,v,c⟩:=aB6 M K hi
  have C:=A.f k n hi O
  have p:=A.f k 1 hi (by omega)
  rw[show ((1:Nat):Int)=1 from rfl,show itN nx 1 k=nx k from rfl] at p
  have g:decide ((n:Int)=0)=decide (n=0):=DR.mpr (by omega)
  refine ⟨[some (.d (a8 rs)),some (.d cd),iO n,some (.l ((List.range k).map fun q=>prD (kF nx rt n q))),some (.l ((List.range k).map fun q=>prD (kA nx rt n q))),iO k,o,j,m],_,by rw[e];rfl,.inl ?_,iO k,some (.d (.int (if rt k=true then 1 else -1))),some (.d (.tuple [.int (if rt k=true then 1 else -1),.int (if rt k=true then (itN nx n k:Int) else (nx k:Int))])),some (.d (.tuple [.int (if rt k=true then 1 else -1),.int (if rt k=true then (nx k:Int) else (itN nx n k:Int))])),rfl⟩
  rw[lW,lW]
  have N:prD (kF nx rt n k)=if decide (n=0)=true then .tuple [.int 1,.int (k:Int)] else .tuple [.int (if rt k=true then 1 else -1),.int (if rt k=true then (itN nx n k:Int) else (nx k:Int))]:=by
   unfold kF
   by_cases h:n=0
   .rw[AA h,AA (AT h)];rfl
   .have t:¬ decide (n=0)=true:=by rw[CZ];exact h
    rw[AE h,AE t]
    cases rt k<;>rfl
  have eA:prD (kA nx rt n k)=if decide (n=0)=true then .tuple [.int (-1),.int (k:Int)] else .tuple [.int (if rt k=true then 1 else -1),.int (if rt k=true then (nx k:Int) else (itN nx n k:Int))]:=by
   unfold kA
   by_cases h:n=0
   .rw[AA h,AA (AT h)];rfl
   .have t:¬ decide (n=0)=true:=by rw[CZ];exact h
    rw[AE h,AE t]
    cases rt k<;>rfl
  rw[N,eA]
  generalize ((List.range k).map fun q=>prD (kF nx rt n q))=H at *
  generalize ((List.range k).map fun q=>prD (kA nx rt n q))=E at *
  generalize a8 rs=F at *
  have Q:decide ((1:Int)=1)=true:=rfl
  have T:decide ((1:Int) = -1)=false:=rfl
  have G:decide ((-1:Int)=1)=false:=rfl
  have I:decide ((-1:Int) = -1)=true:=rfl
  unfold dtF
  cases D:rt k with
  | true=>
   rw[D] at c
   rw[AA rfl] at c ⊢
   simp only[iO,aX,cU,cT,dW,cY,gO,cA,bZ,kZ,eS,eI,bJ,bL,bW,fM,bU,cH,hZ,mG,uW,g,Q,T,FJ,aES,aET,fK,R.bind_ok,AC,AB,AG,AK,Nat.reduceAdd,Nat.reduceLeDiff,A8,A7,BQ,AJ,AM,j6,AA a,AA b,z,B,v,c,C,p]
  | false=>
   rw[D] at c
   rw[AE (by decide)] at c
   simp only[iO,aX,cU,cT,dW,cY,gO,cA,bZ,kZ,eS,eI,bJ,bL,bW,fM,bU,cH,hZ,mG,uW,g,G,I,FJ,aES,aET,fK,R.bind_ok,AC,AB,AG,AK,Nat.reduceAdd,Nat.reduceLeDiff,A8,A7,BQ,AJ,AM,j6,AA a,AA b,z,B,v,c,C,p]
 rw[A0] at r
 have P:=iY (n:=rs.length) (by omega)
 have a:dLen (a8 rs)=.ok (.int rs.length):=by unfold a8;rw[qQ,AH]
 unfold f9
 rw[jV,aU9]
 simp only[iO] at r
 generalize ((List.range rs.length).map fun q=>prD (kF nx rt n q))=H at *
 generalize ((List.range rs.length).map fun q=>prD (kA nx rt n q))=E at *
 generalize a8 rs=F at *
 simp only[cE,aX,fN,eS,bL,bJ,eI,B3,A8,R.bind_ok,AI,A5,AG,AK,Nat.reduceAdd,Nat.reduceSub,Nat.reduceLeDiff,List.replicate,AU,AV,AJ,AM,iU,gP,bU,cT,bZ,a,AC,AB,P,r,cN,lH]
end
section
variable{rs:List Rw}{sg:Nat}{z:Str}{nx:Nat->Nat}{rt:Nat->Bool}
theorem aS3(M:Mach rs sg){c:Nat}(a:dH sg c=true):iJ [.d (a8 rs),.d (.str ⟨#[c]⟩)]=.ok (.d (tbD (qL (c - 97) rs))):=by
 have h:=aT4 M a
 have e:=sK M (z:=⟨#[c]⟩) ⟨by show 1<=1000;decide,fun x b=>by have:x∈[c]:=b;rw[A4.mp this];exact a⟩
 have f:=zI M (z:=⟨#[c]⟩) ⟨by show 1<=1000;decide,fun x b=>by have:x∈[c]:=b;rw[A4.mp this];exact a⟩
 rw[<-h]
 simp only[oW,iJ,oV,m6,cE,aX,oX,cY,bJ,bL,dW,e,f,R.bind_ok,A8,AI,A5,AG,AK,Nat.reduceAdd,Nat.reduceSub,List.replicate,AU,AV,AC,AB]
theorem aFL(M:Mach rs sg)(K:Kdr rs sg nx rt)(S:bY sg z.cps.toList):iL [.d (a8 rs),.d (.str z)]=.ok (.d (tbD (kTb rs.length nx rt z.cps.toList.length))):=by
 obtain ⟨r,t,k,F⟩:=M.cons
 have f:eP [.d (a8 rs)]=.ok (.d (.int sg)):=by rw[k,vM,F]
 have a:(Txt.slice "abc" none (some (sg:Int))).cps.toList=[97,98,99].take sg:=aGF M.sg1 M.sg3
 have D:dSl (.str "abc") none (some (sg:Int))=.ok (.str (Txt.slice "abc" none (some (sg:Int)))):=aC1 (by decide)
 have q:(Txt.slice "abc" none (some (sg:Int))).cps.toList.length<=16777216:=by rw[a,CY];simp;omega
 have h1:=compL_of (fs:=stN 0) (fe:=eA (aZ 2 iJ (aB (vV 1) (aB (vV 0) aL)))) (ρ0:=[none,some (.d (a8 rs))]) (d:=fun u:Nat=>.str ⟨#[u]⟩) (g:=fun u:Nat=>tbD (kTb rs.length nx rt 1)) (xs:=(Txt.slice "abc" none (some (sg:Int))).cps.toList) fun u e=>⟨_,rfl,by
  have c:dH sg u=true:=by
   rw[a] at e
   refine AT ?_
   have h1:=M.sg1
   have C:=M.sg3
   obtain ⟨i,hi⟩:=G3.mp e
   rw[List.getElem?_take] at hi
   split at hi
   .rename_i G
    match i,hi with
    | 0,hi=>simp at hi;omega
    | 1,hi=>simp at hi;omega
    | 2,hi=>simp at hi;omega
   .cases hi
  have x:u - 97 < sg:=by have:=B0 c;omega
  simp[aS3 M c,aQL K x]⟩
 have s:dI (.str z)=.ok (z.cps.toList.map fun u=>.str ⟨#[u]⟩):=xB (by have:=S.1;omega)
 obtain ⟨B,A,w,rfl⟩:=jS (fs:=stN 4) (fb:=bG 3 (aZ 2 kQ (aB (vV 3) (aB (vD (e2 dIx (rV 2) (e2 kN (eC (.str "abc")) (rV 4)))) aL)))) (d:=fun u:Nat=>.str ⟨#[u]⟩) (xs:=z.cps.toList)
  (ρ:=[some (.d (a8 rs)),some (.d (.str z)),some (.l ((Txt.slice "abc" none (some (sg:Int))).cps.toList.map fun u:Nat=>tbD (kTb rs.length nx rt 1))),some (.d (tbD (kTb rs.length nx rt 0))),none])
  (fun i ρ=>∃ w,ρ=[some (.d (a8 rs)),some (.d (.str z)),some (.l ((Txt.slice "abc" none (some (sg:Int))).cps.toList.map fun u:Nat=>tbD (kTb rs.length nx rt 1))),some (.d (tbD (kTb rs.length nx rt i))),w]) ⟨none,rfl⟩
  (fun i u ρ e h=>by
   obtain ⟨w,rfl⟩:=h
   have b:dH sg u=true:=S.2 u (BA e)
   have x:u - 97 < sg:=by have:=B0 b;omega
   have C:=M.sg3
   have m:dIx (.list ((Txt.slice "abc" none (some (sg:Int))).cps.toList.map fun u:Nat=>tbD (kTb rs.length nx rt 1))) (.int ((u - 97:Nat):Int))=.ok (tbD (kTb rs.length nx rt 1)):=by
    refine mH (gI (j:=u - 97) ?_)
    rw[AS,a,List.getElem?_take,AA x,AN (show u - 97 < [97,98,99].length by simp;omega)];rfl
   have y:=aN6 (jN K i) (jN K 1) (by have:=M.len2;omega)
   rw[aLM K] at y
   refine ⟨_,_,rfl,.inl ?_,some (.d (.str ⟨#[u]⟩)),rfl⟩
   simp[qR (o5 M.sg3 b),m,y])
 have E:kTb rs.length nx rt 0=dL rs.length:=AA rfl
 rw[E] at A
 have v:dLen (a8 rs)=.ok (.int rs.length):=by unfold a8;rw[qQ,AH]
 have p:=aT3 (n:=rs.length) (by have:=M.len2;omega)
 have o:=zI M S
 unfold iL o9
 generalize a8 rs=H at *
 simp only[cE,aX,oX,cY,bJ,bL,dW,o,fN,lT,bZ,qN,bW,qO,qP,gO,f,fK,D,xB q,fA,EF,CD,E2,h1,cU,cT,bU,v,p,iU,fM,s,A,cN,R.bind_ok,A8,AI,A5,AG,AK,Nat.reduceAdd,Nat.reduceSub,List.replicate,AU,AV,AM,AJ,AC,AB]
theorem aUG{n q:Nat}(b:q < rs.length)(h:rt q=true):(kTb rs.length nx rt n).at 1 (q:Int)=some (1,(itN nx n q:Int)):=by
 by_cases a:n=0
 .subst a
  rw[show kTb rs.length nx rt 0=dL rs.length from AA rfl,mS (.inl rfl) (by omega) (by omega)];rfl
 .exact aS0 a b h
theorem aUH{n q:Nat}(b:q < rs.length)(h:rt q=false):(kTb rs.length nx rt n).at (-1) (q:Int)=some (-1,(itN nx n q:Int)):=by
 by_cases a:n=0
 .subst a
  rw[show kTb rs.length nx rt 0=dL rs.length from AA rfl,mS (.inr rfl) (by omega) (by omega)];rfl
 .exact aS1 a b h
theorem aI9{n r q:Nat}(a:(aV rs (r:Int)).l=.n (q:Int))(b:q < rs.length)(h:rt q=true):fV rs (kTb rs.length nx rt n) (-1,(r:Int))=some (.inl (1,(itN nx n q:Int))):=by
 have e:k6 (aV rs (r:Int)) (-1)=.n (q:Int):=a
 unfold fV
 simp only[e]
 rw[show (-(-1:Int))=1 from rfl,aUG b h]
theorem aS4{n r q:Nat}(a:(aV rs (r:Int)).r=.n (q:Int))(b:q < rs.length)(h:rt q=false):fV rs (kTb rs.length nx rt n) (1,(r:Int))=some (.inl (-1,(itN nx n q:Int))):=by
 have e:k6 (aV rs (r:Int)) 1=.n (q:Int):=a
 unfold fV
 simp only[e]
 rw[aUH b h]
theorem aOH{t:Tb}{r:Nat}{x:Str}(a:(aV rs (r:Int)).l=.w x):fV rs t (-1,(r:Int))=some (.inr x):=by
 have e:k6 (aV rs (r:Int)) (-1)=.w x:=a
 unfold fV
 simp only[e]
theorem aUI{t:Tb}{r:Nat}{x:Str}(a:(aV rs (r:Int)).r=.w x):fV rs t (1,(r:Int))=some (.inr x):=by
 have e:k6 (aV rs (r:Int)) 1=.w x:=a
 unfold fV
 simp only[e]
theorem aQM{S O:Type}{st:S->O6 (S⊕O)}{C:S->Prop}(h:∀ s,C s->∃ s',st s=some (.inl s')/\C s'){s:S}(a:C s):cM st s=none:=by
 have b:∀ n s o,C s->¬ Ex st n s o:=fun n=>by
  induction n with
  | zero=>intro s o a e;obtain ⟨s',h1,_⟩:=h s a;cases e with|out q=>rw[h1] at q;cases q
  | succ n ih=>intro s o a e;obtain ⟨s',h1,h2⟩:=h s a;cases e with|go q t=>rw[h1] at q;cases q;exact ih _ _ h2 t
 cases e:cM st s with
 | none=>rfl
 | some o=>
  obtain ⟨n,c⟩:=(kK st s o).mp e
  exact absurd c (b n s o a)
end
section
variable{p q a b sg n t:Nat}
theorem aUJ(p1:1<=p)(q1:1<=q):mK (swM p q a b sg) (kTb (swM p q a b sg).length (swN p q) (fun i=>decide (i < p)) n)=if n % p=a/\n % q=b then ("by":Str) else ("out":Str):=by
 have K:=aI7 (a:=a) (b:=b) (sg:=sg) p1 q1
 have L:(swM p q a b sg).length=p+q:=lJ
 have k:=CJ n (show p > 0 by omega)
 have l:=CJ n (show q > 0 by omega)
 have g:=aFJ (p:=p) (q:=q) p1 n 0 (by omega)
 have d:=zB (p:=p) (q:=q) q1 n 0 (by omega)
 rw[HC] at g d
 rw[FA] at d
 have c:(aV (swM p q a b sg) ((n % p:Nat):Int)).r=if n % p=a then .n (p:Int) else .w "out":=by rw[y9 k];rfl
 have j:=aI9 (n:=n) (nx:=swN p q) (rt:=fun i=>decide (i < p)) (r:=0) (q:=0) K.l0 (by omega) (AT (by omega))
 rw[g,show ((0:Nat):Int)=0 from rfl] at j
 unfold mK
 rw[resOf_go j]
 by_cases e:n % p=a
 .rw[AA e] at c
  have f:=aS4 (n:=n) (nx:=swN p q) (rt:=fun i=>decide (i < p)) (q:=p) c (by omega) (AW (by omega))
  rw[d] at f
  rw[resOf_go f,fD (aOH (x:=if n % q=b then "by" else "out") (by rw[vX l];rfl))]
  by_cases e2:n % q=b
  · rw [AA e2, AA ⟨e, e2⟩]; rfl
  · rw [AE e2, AE fun h => e2 h.2]; rfl
 .rw[AE e] at c
  rw[fD (aUI c),AE fun h=>e h.1];rfl
variable{lt:Tn}
theorem aJA{k:Nat}(h:k < t):fV (pnM t sg lt) (kTb (pnM t sg lt).length (fun i=>i) (fun i=>decide (i % 2=0)) n) (1,((2 * k:Nat):Int))=some (.inl (-1,((2 * k+1:Nat):Int))):=by
 have s:=aS4 (rs:=pnM t sg lt) (n:=n) (nx:=fun i=>i) (rt:=fun i=>decide (i % 2=0)) (r:=2 * k) (q:=2 * k+1) (by rw[aA4 h]) (by rw[j5];omega) (AW (by omega))
 rw[sU] at s
 exact s
theorem aOI{k:Nat}(h:k+1 < t):fV (pnM t sg lt) (kTb (pnM t sg lt).length (fun i=>i) (fun i=>decide (i % 2=0)) n) (-1,((2 * k+1:Nat):Int))=some (.inl (1,((2 * (k+1):Nat):Int))):=by
 have r:=m7 (sg:=sg) (lt:=lt) (t:=t) (k:=k) (by omega)
 rw[AE (by omega)] at r
 have s:=aI9 (rs:=pnM t sg lt) (n:=n) (nx:=fun i=>i) (rt:=fun i=>decide (i % 2=0)) (r:=2 * k+1) (q:=2 * (k+1)) (by rw[r];rfl) (by rw[j5];omega) (AT (by omega))
 rw[sU] at s
 exact s
theorem pn_s0(a:1<=t)(b:(∃ x,lt=.w x)\/lt=.n 0):fV (pnM t sg lt) (kTb (pnM t sg lt).length (fun i=>i) (fun i=>decide (i % 2=0)) n) (-1,0)=some (.inl (1,((2 * 0:Nat):Int))):=by
 have s:=aI9 (rs:=pnM t sg lt) (n:=n) (nx:=fun i=>i) (rt:=fun i=>decide (i % 2=0)) (r:=0) (q:=0) (aI8 a b).l0 (by rw[j5];omega) (AT (by omega))
 rw[sU] at s
 exact s
theorem pn_wT(b:1<=t){x:Str}:mK (pnM t sg (.w x)) (kTb (pnM t sg (.w x)).length (fun i=>i) (fun i=>decide (i % 2=0)) n)=x:=by
 have a:∀ k,k < t->cM (fV (pnM t sg (.w x)) (kTb (pnM t sg (.w x)).length (fun i=>i) (fun i=>decide (i % 2=0)) n)) (-1,0)=cM (fV (pnM t sg (.w x)) (kTb (pnM t sg (.w x)).length (fun i=>i) (fun i=>decide (i % 2=0)) n)) (-1,((2 * k+1:Nat):Int)):=fun k=>by
  induction k with
  | zero=>intro h;rw[resOf_go (pn_s0 b (.inl ⟨x,rfl⟩)),resOf_go (aJA h)]
  | succ k ih=>intro h;rw[ih (by omega),resOf_go (aOI h),resOf_go (aJA h)]
 have r:=m7 (sg:=sg) (lt:=.w x) (t:=t) (k:=t - 1) (by omega)
 rw[AA (by omega)] at r
 unfold mK
 rw[a (t - 1) (by omega),fD (aOH (x:=x) (by rw[r]))];rfl
theorem aS5(c:1<=t):mK (pnM t sg (.n 0)) (kTb (pnM t sg (.n 0)).length (fun i=>i) (fun i=>decide (i % 2=0)) n)="ever":=by
 unfold mK
 rw[aQM (C:=fun s=>s=(-1,0)\/(∃ k:Nat,k < t/\s=(1,((2 * k:Nat):Int)))\/∃ k:Nat,k < t/\s=(-1,((2 * k+1:Nat):Int))) (fun s b=>?_) (.inl rfl)]
 .rfl
 .rcases b with rfl|⟨k,a,rfl⟩|⟨k,a,rfl⟩
  .exact ⟨_,pn_s0 c (.inr rfl),.inr (.inl ⟨0,by omega,rfl⟩)⟩
  .exact ⟨_,aJA a,.inr (.inr ⟨k,a,rfl⟩)⟩
  .by_cases h:k+1 < t
   .exact ⟨_,aOI h,.inr (.inl ⟨k+1,h,rfl⟩)⟩
   .have r:=m7 (sg:=sg) (lt:=.n 0) (t:=t) (k:=k) a
    rw[AA (by omega)] at r
    have s:=aI9 (rs:=pnM t sg (.n 0)) (n:=n) (nx:=fun i=>i) (rt:=fun i=>decide (i % 2=0)) (r:=2 * k+1) (q:=0) (by rw[r];rfl) (by rw[j5];omega) (AT (by omega))
    rw[sU] at s
    exact ⟨_,s,.inr (.inl ⟨0,by omega,rfl⟩)⟩
end
section
variable{rs:List Rw}{sg:Nat}{nx:Nat->Nat}{rt:Nat->Bool}{cd:Dz}{z:Str}{w:Str}
theorem aS6(M:Mach rs sg)(K:Kdr rs sg nx rt)(n:Nat):SeqAt.shaped (bgK rs nx rt n)=true:=by
 unfold bgK nW
 refine Sh.shaped (n:=3) (sh_tup fun y c=>?_) (by decide)
 rcases AY.mp c with rfl|c
 .exact sh_int _ _
 .rw[A4.mp c]
  refine sh_tup fun x f=>?_
  rw[BL] at f
  obtain ⟨q,b,rfl⟩:=BZ.mp f
  have b:=BC.mp b
  show Sh 1 (btN rs nx rt n q).d
  unfold btN
  split
  .have a:=(K.it n q b).1
   have g:=(M.row _ (BA (gU (q:=(itN nx n q:Int)) (by omega) (by omega)))).1.1
   cases e:(aV rs (itN nx n q:Int)).l with
   | n i=>exact sh_int _ _
   | w x=>
    rw[e] at g
    exact aA3 (by rcases g with h|h;exact .inl h;exact .inr (.inl h)) _
  .exact sh_int _ _
theorem aFM(M:Mach rs sg)(K:Kdr rs sg nx rt)(A:Aft rs nx cd)(S:bY sg z.cps.toList)(hid:∀ r r':Nat,r < rs.length->rt r=false->(aV rs (itN nx z.cps.toList.length r:Int)).l=.n (r':Int)->itN nx z.cps.toList.length r'=r')(hw:w="by"\/w="out"\/w="ever")(t:mK rs (kTb rs.length nx rt z.cps.toList.length)=w){c:Nat}(i:c<=z.cps.toList.length) :
  eK [.d (a8 rs),.d (.str z),.d cd,.d (.str w),.d (.int (c:Int))]=.ok (.d (.bool true)):=by
 have I:=S.1
 have j:z.length<=16777216:=by rw[hU];omega
 have e:=o3 j
 rw[hU] at e
 have o:∀ y:List Nat,y.length<=z.cps.toList.length->(∀ x∈y,x∈z.cps.toList)->bY sg y:=fun y h1 h2=>⟨by omega,fun x g=>S.2 x (h2 x g)⟩
 have C:bY sg (z.cps.toList.take c):=o _ (by rw[CY];omega) fun x g=>List.mem_of_mem_take g
 have s:bY sg (z.cps.toList.drop c):=o _ (by rw[CS];omega) fun x g=>List.mem_of_mem_drop g
 have q:=aC1 (lo:=none) (hi:=some (c:Int)) j
 have d2:=aC1 (lo:=some (c:Int)) (hi:=none) j
 rw[aIK i] at q
 rw[aIL i] at d2
 have t0:=aFL M K S
 have p:=aFL M K (z:=⟨(z.cps.toList.take c).toArray⟩) (by simpa using C)
 have m:=aFL M K (z:=⟨(z.cps.toList.drop c).toArray⟩) (by simpa using s)
 rw[show (⟨(z.cps.toList.take c).toArray⟩:Str).cps.toList=z.cps.toList.take c from rfl,CY,FC i] at p
 rw[show (⟨(z.cps.toList.drop c).toArray⟩:Str).cps.toList=z.cps.toList.drop c from rfl,CS] at m
 have b:=aN6 (jN K c) (jN K (z.cps.toList.length - c)) (by have:=M.len2;omega)
 rw[aLM K,show c+(z.cps.toList.length - c)=z.cps.toList.length by omega] at b
 have a:=aU4 M (jN K z.cps.toList.length)
 rw[t] at a
 have k:=aS2 M K A (n:=z.cps.toList.length) (by omega)
 have h:=aSW M K A (n:=z.cps.toList.length) (by omega)
 have f:=aSY M K S
 rw[aSZ K hid] at f
 have D:=aSB (kTb rs.length nx rt z.cps.toList.length)
 have v:=lI (Sh.shaped (aA3 hw 1) (by decide))
 have u:=aLC (aS6 M K z.cps.toList.length)
 generalize tbD (kTb rs.length nx rt z.cps.toList.length)=T at *
 generalize tbD (kTb rs.length nx rt c)=H at *
 generalize tbD (kTb rs.length nx rt (z.cps.toList.length - c))=G at *
 generalize bgK rs nx rt z.cps.toList.length=B at *
 generalize a8 rs=E at *
 generalize PyData.str w=F at *
 simp only[eK,lD,cE,aX,cU,cT,dW,cY,gO,cA,bZ,bJ,bL,bU,qN,qO,qP,cZ,qM,cJ,fK,fU,cN,e,q,d2,t0,p,m,b,a,k,h,f,D,v,u,R.bind_ok,A7,BQ,A8,AI,A5,AG,AK,Nat.reduceAdd,Nat.reduceSub,List.replicate,AU,AV,AJ,AM,AC,AB]
end
section
variable{t sg:Nat}{z:Str}
theorem aQN(a:1<=t)(g:t<=3){x:Str}(i:x="by"\/x="out")(s1:1<=sg)(f:sg<=3)(S:bY sg z.cps.toList):eQ (pnM t sg (.w x)) z.cps.toList=x:=by
 obtain ⟨ps,s,e,P,W⟩:=y7 (oK (lt:=.w x) a g i s1 f) S
 rw[aHF a g i s1 f S] at e
 obtain ⟨_,h2⟩:=E1 e rfl
 have j:s=(0,((2 * (t - 1)+1:Nat):Int)):=by
  rw[zG a] at h2
  injection h2 with h2
  exact h2.symm
 have r:=m7 (sg:=sg) (lt:=.w x) (t:=t) (k:=t - 1) (by omega)
 rw[AA (by omega)] at r
 have d:(bR (pnM t sg (.w x)) z.cps.toList s).1=.w x:=by
  rw[j]
  unfold bR
  simp only
  rw[AA trivial,r]
 cases W with
 | b h n e c=>rw[d] at c;injection c with c;rw[h,c]
 | o h n e c=>rw[d] at c;injection c with c;rw[h,c]
 | e h n q c=>rw[d] at c;cases c
end
section
variable{rs:List Rw}{sg:Nat}{z:Str}
theorem aA6(M:Mach rs sg)(S:bY sg z.cps.toList):jB [.d (a8 rs),.d (.str z)]=qJ [.d (a8 rs),.d (.str z)]:=by
 have b:=sK M S
 have a:=zI M S
 simp only[qJ,jB,aEO,xE,ptT,ptB,cE,aX,oX,cY,bJ,bL,dW,b,a,R.bind_ok,A8,AI,A5,AG,AK,Nat.reduceAdd,Nat.reduceSub,List.replicate,AU,AV,AC,AB]
theorem aQO(M:Mach rs sg)(S:bY sg z.cps.toList):kW [.d (a8 rs),.d (.str z)]=yQ [.d (a8 rs),.d (.str z)]:=by
 have a:=aA6 M S
 simp only[yQ,kW,aE2,xF,cE,aX,cU,cY,bJ,bL,dW,a,R.bind_ok,A8,AI,A5,AG,AK,Nat.reduceAdd,Nat.reduceSub,List.replicate,AU,AV,AC,AB]
theorem aUK(M:Mach rs sg)(S:bY sg z.cps.toList)(e:Er)(w:Dz)(p r f a:Int):jM [.d (a8 rs),.d (.str z),.o e,.d (.tuple [w,.int p,.int r,.int f,.int a])]=mL [.d (a8 rs),.d (.str z),.o e,.d (.tuple [w,.int p,.int r,.int f,.int a])]:=by
 have k:=aA6 M S
 have n:dIx (.tuple [w,.int p,.int r,.int f,.int a]) (.int 1)=.ok (.int p):=rfl
 have m:dIx (.tuple [w,.int p,.int r,.int f,.int a]) (.int 2)=.ok (.int r):=rfl
 have i:dIx (.tuple [w,.int p,.int r,.int f,.int a]) (.int 3)=.ok (.int f):=rfl
 have h:dIx (.tuple [w,.int p,.int r,.int f,.int a]) (.int 4)=.ok (.int a):=rfl
 generalize PyData.tuple [w,.int p,.int r,.int f,.int a]=d at *
 have j:z.length<=16777216:=by rw[hU];have:=S.1;omega
 have g:=o3 j
 rw[hU] at g
 have l:dMul (.int (rs.length:Int)) (.int ((z.cps.toList.length:Int)+2))=.ok (.int ((rs.length:Int) * ((z.cps.toList.length:Int)+2))):=oZ (by have:=M.len2;omega) (by have:=M.len2;omega)
 have b:dLen (a8 rs)=.ok (.int rs.length):=by show dLen (.tuple (rs.map cQ))=_;rw[qQ,AH]
 generalize a8 rs=q at *
 simp only[mL,jM,o8,m5,cE,aX,cU,cT,cA,bZ,aA0,bU,bW,n,m,i,h,g,l,b,cZ,vL,cJ,aIM,nJ,gG,R.bind_ok,A8,AI,A5,AG,AK,Nat.reduceAdd,Nat.reduceSub,List.replicate,AU,AV,AJ,AM,AC,AB]
 by_cases h1:0<=f
 .by_cases h2:f < a
  .by_cases c:a<=(rs.length:Int) * ((z.cps.toList.length:Int)+2)
   · simp only [AT h1, AT h2, AT c, A8, R.bind_ok, cJ, EW, A7, BQ, fU, cY, bJ, bL, dW, k, AG, AK, Nat.reduceAdd, AC, AB]
   · simp only [AT h1, AT h2, AW c, A8, R.bind_ok, cJ, G5, cN, cT, bW]
  .simp only[AT h1,AW h2,A8,R.bind_ok,cJ,A7,BQ,G5,cN,cT,bW]
 .simp only[AW h1,R.bind_ok,cJ,A7,BQ,A8,G5,cN,cT,bW]
end
def crL(c:Nat):List (Int×Int)->List Dz
 | a::b::t=>(if brd a b=c then [.int b.2] else [])++crL c (b::t)
 | _=>[]
theorem aOJ(c:Nat):∀ (l:List (Int×Int)) (xss:List (List Dz)),c < xss.length->(bdL l xss).getD c []=xss.getD c []++crL c l
 | [],xss,_=>by simp[bdL,crL]
 | [a],xss,_=>by simp[bdL,crL]
 | a::b::t,xss,h=>by
  have ih:=aOJ c (b::t) (pH xss a b) (by rw[xM];exact h)
  show (bdL (b::t) (pH xss a b)).getD c []=_
  rw[ih]
  show _=_++((if brd a b=c then [.int b.2] else [])++crL c (b::t))
  rw[<-List.append_assoc]
  congr 1
  unfold pH
  by_cases e:brd a b=c
  .subst e
   rw[AA rfl,AX,B9 h];rfl
  .rw[AE e,CM,AX,BO e,<-List.getD_eq_getElem?_getD]
section
variable{rs:List Rw}{sg:Nat}{z:Str}{ps:List (Int×Int)}{s:Int×Int}
theorem sV(M:Mach rs sg)(S:bY sg z.cps.toList)(a:dZ rs z.cps.toList=ps++[s])(P:PathOk rs z.cps.toList ps s)(W:EndW rs z.cps.toList ps s):kW [.d (a8 rs),.d (.str z)]=.ok (.o (endE rs z.cps.toList ps s)):=(aQO M S).trans (aQB M S a P W)
theorem aFN(M:Mach rs sg)(S:bY sg z.cps.toList):jB [.d (a8 rs),.d (.str z)]=.ok (.d (.list ((dZ rs z.cps.toList).map prD))):=(aA6 M S).trans (aA2 M S)
theorem aB8(M:Mach rs sg)(S:bY sg z.cps.toList)(g:dZ rs z.cps.toList=ps++[s])(P:PathOk rs z.cps.toList ps s)(W:EndW rs z.cps.toList ps s)(n:s∉ps){d:Dz}(e:Cp d):gY [.d (a8 rs),.d (.str z),.d d]=.ok (.d (.bool (decide (d=nY rs z.cps.toList ps s)))):=by
 have c:=sV M S g P W
 have h:=fun (f:Sg->R A) (ρ:Sg)=>mt_paper W (f:=f) (ρ:=ρ)
 have i:=fun (f:Sg->R A) (ρ:Sg)=>mt_stops W (f:=f) (ρ:=ρ)
 have k:=aLB e (aLH W)
 have a:List.replicate 1 (none:O6 A)=[none]:=rfl
 have b:vO 3 [some (A.d (a8 rs)),some (.d (.str z)),some (.d d),some (.o (endE rs z.cps.toList ps s))]=.ok (.o (endE rs z.cps.toList ps s)):=rfl
 unfold gY pT
 simp only[cE,aX,cU,cY,bJ,bL,dW,AI,A5,AG,AK,Nat.reduceAdd,Nat.reduceSub,a,AU,AV,AC,AB,R.bind_ok,A8,c,AJ,AM,cZ,bZ,gO,i _ _ b,fK,cJ,AT n,cN,cT,cA,bU,h _ _ b,k]
theorem aB9(M:Mach rs sg)(S:bY sg z.cps.toList)(j:dZ rs z.cps.toList=ps++[s])(P:PathOk rs z.cps.toList ps s)(W:EndW rs z.cps.toList ps s)(n:s∈ps)(p r f a:Int):gY [.d (a8 rs),.d (.str z),.d (.tuple [.str "ever",.int p,.int r,.int f,.int a])]=.ok (.d (.bool (decide (vU rs z.cps.toList p r f a)))):=by
 have i:=sV M S j P W
 have t:=fun (f:Sg->R A) (ρ:Sg)=>mt_stops W (f:=f) (ρ:=ρ)
 have u:endE rs z.cps.toList ps s=xN ps s:=by
  cases W with
  | b w n' e c=>exact absurd n n'
  | o w n' e c=>exact absurd n n'
  | e w n' q c=>exact y8 w
 have m:=(aUK M S (xN ps s) (.str "ever") p r f a).trans (aQC M S j P n (.str "ever") p r f a)
 have k:dEq (.str "ever") (.str "ever")=.ok (.bool true):=qT (.inr (.inr rfl)) (.inr (.inr rfl))
 have g:List.replicate 1 (none:O6 A)=[none]:=rfl
 have l:vO 3 [some (A.d (a8 rs)),some (.d (.str z)),some (.d (.tuple [.str "ever",.int p,.int r,.int f,.int a])),some (.o (endE rs z.cps.toList ps s))]=.ok (.o (endE rs z.cps.toList ps s)):=rfl
 have h:=t _ _ l
 rw[u] at i l h
 unfold gY pT
 simp only[cE,aX,cU,cY,bJ,bL,dW,aOA,AI,A5,AG,AK,Nat.reduceAdd,Nat.reduceSub,g,AU,AV,AC,AB,R.bind_ok,A8,i,AJ,AM,cZ,bZ,gO,h,fK,cJ,AW (show ¬ s∉ps by simpa using n),A7,BQ,fU,cN,cT,aAL,cA,bU,bW,o4,k,m]
theorem aCA(M:Mach rs sg)(S:bY sg z.cps.toList)(a:dZ rs z.cps.toList=ps++[s])(P:PathOk rs z.cps.toList ps s)(W:EndW rs z.cps.toList ps s):gY [.d (a8 rs),.d (.str z),.d (nY rs z.cps.toList ps s)]=.ok (.d (.bool true)):=by
 by_cases n:s∈ps
 .have b:=CP n
  have h:=aB9 M S a P W n s.1 s.2 (ps.idxOf s) ps.length
  have e:nY rs z.cps.toList ps s=.tuple [.str "ever",.int s.1,.int s.2,.int (ps.idxOf s),.int ps.length]:=by unfold nY;rw[AA n]
  rw[e,h,AT]
  refine ⟨⟨by omega,by omega,?_⟩,?_,?_⟩
  .have:=P.few
   unfold lK at this
   have e2:(((z.cps.toList.length+2) * rs.length:Nat):Int)=(rs.length:Int) * ((z.cps.toList.length:Int)+2):=by rw[Int.natCast_mul,Int.mul_comm];rfl
   omega
  .show itM _ _ _=_
   rw[show ((ps.idxOf s:Nat):Int).toNat=ps.idxOf s by omega]
   exact P.first n
  .show itM _ _ _=_
   rw[show ((ps.length:Nat):Int).toNat=ps.length by omega]
   exact P.last
 .rw[aB8 M S a P W n (aLH W),AT rfl]
end
theorem aHH{l:List (Int×Int)}{n c:Nat}(v:Adj n l):∀ (m k:Nat) (xs:List Dz) (u3:O6 A),k+1+m=l.length->xs.length+m<=16777000->
  ∃ u3',lO (stN 3) crF (jZ ((k:Int)+1) m) [some (.d (.list (l.map prD))),some (.d (.int (c:Int))),some (.l xs),u3]=.ok (.nx [some (.d (.list (l.map prD))),some (.d (.int (c:Int))),some (.l (xs++crL c (l.drop k))),u3'])
 | 0,k,xs,u3,hk,hx=>by
  have e:(l.drop k).length=1:=by rw[CS];omega
  obtain ⟨a,h⟩:=List.length_eq_one_iff.mp e
  rw[h]
  exact ⟨u3,by rw[show crL c [a]=[] from rfl,CM];rfl⟩
 | m+1,k,xs,u3,hk,hx=>by
  have h1:k < l.length:=by omega
  have h2:k+1 < l.length:=by omega
  have h:l[k]? = some l[k]:=AN h1
  have u:l[k+1]? = some l[k+1]:=AN h2
  obtain ⟨B,C⟩:=v k _ _ h u
  have z:l.drop k=l[k]::l[k+1]::l.drop (k+2):=by rw[CV h1,CV h2]
  have o:l.drop (k+1)=l[k+1]::l.drop (k+2):=CV h2
  generalize l[k]=a at *
  generalize l[k+1]=b at *
  obtain ⟨u3',q⟩:=aHH (c:=c) v m (k+1) (xs++(if brd a b=c then [.int b.2] else [])) (some (.d (.int ((k:Int)+1)))) (by omega) (by rw[AZ];split<;>simp<;>omega)
  refine ⟨u3',?_⟩
  have x:jZ ((k:Int)+1) (m+1)=.int ((k:Int)+1)::jZ (((k+1:Nat):Int)+1) m:=by
   unfold jZ
   rw[DK,AI,BL]
   have y:(k:Int)+1+((0:Nat):Int)=(k:Int)+1:=by omega
   rw[y]
   refine FF (List.cons _) (BN fun i _=>?_)
   show PyData.int ((k:Int)+1+((i+1:Nat):Int))=PyData.int (((k+1:Nat):Int)+1+(i:Int))
   have e1:(k:Int)+1+((i+1:Nat):Int)=((k+1:Nat):Int)+1+(i:Int):=by omega
   rw[e1]
  have eL:xs++crL c (l.drop k)=xs++(if brd a b=c then [.int b.2] else [])++crL c (l.drop (k+1)):=by rw[z,o,ET];rfl
  rw[x,eL,<-q]
  have p:∀ s:Int×Int,dIx (prD s) (.int 0)=.ok (.int s.1):=fun s=>rfl
  have w:∀ s:Int×Int,dIx (prD s) (.int 1)=.ok (.int s.2):=fun s=>rfl
  have dd:∀ i j:Int,d2 j9 (.int i) (.int j)=.ok (.int (j9 i j)):=fun i j=>rfl
  have r:dIx (.list (l.map prD)) (.int ((k:Int)+1))=.ok (prD b):=mH (j7 (by omega) (by rw[AS,show ((k:Int)+1).toNat=k+1 by omega,u];rfl))
  have t:dIx (.list (l.map prD)) (.int ((k:Int)+1 - 1))=.ok (prD a):=mH (j7 (by omega) (by rw[AS,show ((k:Int)+1 - 1).toNat=k by omega,h];rfl))
  have g:decide (j9 a.1 b.1=(c:Int))=decide (brd a b=c):=DR.mpr (by unfold brd;omega)
  have f:xs.length < 16777216:=by omega
  conv=>lhs;unfold lO
  by_cases e:brd a b=c
  .rw[AT e] at g
   rw[AA e]
   simp only[uH,AM,AJ,l5,R.bind_ok,crF,cZ,bZ,cA,bU,bW,AB,AC,mD,t,r,p,w,dd,cH,g,cJ,A8,j6,AA f]
  .rw[AW e] at g
   rw[AE e,CM]
   simp only[uH,AM,AJ,l5,R.bind_ok,crF,cZ,bZ,cA,bU,bW,AB,AC,mD,t,r,p,w,dd,cH,g,cJ,A7,BQ,fU]
theorem aQP{l:List (Int×Int)}{n c:Nat}(a:l≠[])(f:l.length<=16000000)(e:Adj n l) :
  gH [.d (.list (l.map prD)),.d (.int (c:Int))]=.ok (.d (.tuple (crL c l))):=by
 have h1:1<=l.length:=by cases l with|nil=>exact absurd rfl a|cons _ _=>simp
 obtain ⟨g,q⟩:=aHH (c:=c) e (l.length - 1) 0 [] none (by omega) (by simp;omega)
 rw[List.drop_zero,AV] at q
 have b:fZ 1 (l.length:Int)=.ok (jZ (((0:Nat):Int)+1) (l.length - 1)):=by
  unfold fZ
  rw[AA ⟨by omega,by omega,by omega,by omega,by omega⟩]
  have e1:((l.length:Int) - 1).toNat=l.length - 1:=by omega
  rw[e1];rfl
 unfold gH
 rw[kC]
 simp only[cE,aX,fN,eS,bL,B3,A8,R.bind_ok,AI,A5,AG,AK,Nat.reduceAdd,Nat.reduceSub,List.replicate,AU,AV,AJ,AM,iU,oC,bW,bZ,bU,o0,AH,AC,AB,b,q,cN,cT,lH]
theorem aOK{c:Nat}:∀ {l:List (Int×Int)} {k:Nat} {a b:Int×Int},l[k]? = some a->l[k+1]? = some b->brd a b=c->crL c l≠[]
 | [],k,a,b,h1,_,_=>by simp at h1
 | [x],k,a,b,_,h2,_=>by simp at h2
 | x::y::t,0,a,b,h1,h2,e=>by
  simp at h1 h2
  subst h1;subst h2
  unfold crL
  rw[AA e];simp
 | x::y::t,k+1,a,b,h1,h2,e=>by
  have:=aOK (l:=y::t) (k:=k) (by simpa using h1) (by simpa using h2) e
  unfold crL
  exact fun h=>this (List.append_eq_nil_iff.mp h).2
section
variable{rs:List Rw}{sg:Nat}{z:Str}{ps:List (Int×Int)}{s:Int×Int}
theorem aS7(c:Nat)(l:List (Int×Int))(n:Nat)(h:c < n):(bdL l (List.replicate n []))[c]? = some (crL c l):=by
 have a:(bdL l (List.replicate n [])).length=n:=by rw[vT,BP]
 have h2:=aOJ c l (List.replicate n []) (by rw[BP];exact h)
 rw[AX,AN (by omega),Option.getD_some] at h2
 rw[AN (by omega),h2,AX,C3,AA h]
 rfl
noncomputable def anoL(B:List (List Dz))(c:Nat)(y:List Dz):List Dz:=(B.map PyData.tuple).take c++[.tuple y]++(B.map PyData.tuple).drop (c+1)
theorem aS8{B:List (List Dz)}{c:Nat}{y:List Dz}(b:∀ r∈B,oE r)(d:oE y):nbD (.tuple (anoL B c y))=true/\Sh 2 (.tuple (anoL B c y)):=by
 have e:PyData.tuple (anoL B c y)=fX (B.take c++[y]++B.drop (c+1)):=by
  unfold anoL fX
  rw[BG,BG,List.map_take,List.map_drop];rfl
 rw[e]
 refine aFH fun r a=>?_
 rcases B4.mp a with a|a
 .rcases B4.mp a with a|a
  · exact b r (List.mem_of_mem_take a)
  · rw [A4.mp a]; exact d
 .exact b r (List.mem_of_mem_drop a)
theorem aS9{B:List (List Dz)}{c:Nat}{x:Int}{t:List Dz}(h:B[c]? = some (.int x::t)):PyData.tuple (anoL B c (.int (x+1)::t))≠fX B:=by
 intro e
 unfold fX at e
 injection e with e
 have b:=(A3.mp h).1
 have e1:(anoL B c (.int (x+1)::t))[c]? = some (.tuple (.int (x+1)::t)):=by
  unfold anoL
  have a:((B.map PyData.tuple).take c).length=c:=by rw[CY,AH];omega
  rw[ET,B1 (by omega),a,EA];rfl
 rw[e,AS,h] at e1
 injection e1 with e1
 injection e1 with e1
 injection e1 with e1
 injection e1 with e1
 omega
theorem aCB(M:Mach rs sg)(S:bY sg z.cps.toList)(Q:dZ rs z.cps.toList=ps++[s])(P:PathOk rs z.cps.toList ps s)(W:EndW rs z.cps.toList ps s)(n:s∉ps){c:Nat}(hc:c<=z.cps.toList.length)(aa:crL c (ps++[s])≠[]) :
  dE [.d (a8 rs),.d (.str z),.d (.list ((ps++[s]).map prD)),.d (.str (eQ rs z.cps.toList)),.d (.int (c:Int))]=.ok (.d (.bool true)):=by
 have f1:=sV M S Q P W
 have f2:=aFN M S
 rw[Q] at f2
 have ac:=aFE M S P
 have f3:=aQP (c:=c) (l:=ps++[s]) (by simp) (by rw[AZ];simp;omega) (P.adj M S)
 have U:=fun (f:Sg->R A) (ρ:Sg)=>mt_paper W (f:=f) (ρ:=ρ)
 have m2:=fun (f:Sg->R A) (ρ:Sg)=>mt_says W (f:=f) (ρ:=ρ)
 have m3:=fun (i:Nat) (ρ:Sg)=>aB5 W (i:=i) (ρ:=ρ)
 have il:=uU ps s
 have h1:=aCA M S Q P W
 have n1:=lI (sS (l:=ps++[s]))
 have G:=aHC W
 have n2:=lI (Sh.shaped (aA3 G 1) (by decide))
 have n3:dNe (.tuple [.int s.1,.int s.2]) (prD s)=.ok (.bool false):=lI (iF s)
 have Y:dEq (.str (eQ rs z.cps.toList)) (.str "ever")=.ok (.bool false):=by
  rw[qT G (.inr (.inr rfl)),AW]
  intro h
  cases W with
  | b w n e c=>rw[w] at h;exact absurd h (by decide)
  | o w n e c=>rw[w] at h;exact absurd h (by decide)
  | e w n' q c=>exact n n'
 have D:nY rs z.cps.toList ps s=.tuple [.str (eQ rs z.cps.toList),fX (bdL (ps++[s]) (List.replicate (z.cps.toList.length+1) []))]:=by unfold nY;rw[AE n]
 have X:(bdL (ps++[s]) (List.replicate (z.cps.toList.length+1) [])).length=z.cps.toList.length+1:=by rw[vT,BP]
 have C:=aS7 c (ps++[s]) (z.cps.toList.length+1) (by omega)
 have N:∀ r∈bdL (ps++[s]) (List.replicate (z.cps.toList.length+1) []),oE r:=xO _ _ fun r hr=>by rw[CL hr];intro x hx;cases hx
 have O:(crL c (ps++[s])).length<=16000000:=by
  have:∀ l:List (Int×Int),(crL c l).length<=l.length:=fun l=>by
   induction l with
   | nil=>simp[crL]
   | cons a t ih=>
    cases t with
    | nil=>simp[crL]
    | cons b t=>
     unfold crL
     rw[AZ]
     have:(if brd a b=c then [PyData.int b.2] else []).length<=1:=by split<;>simp
     simp at ih ⊢
     omega
  have:=this (ps++[s])
  rw[AZ] at this
  simp at this
  omega
 have F:∀ d:Dz,nbD d=true/\Sh 2 d->d≠fX (bdL (ps++[s]) (List.replicate (z.cps.toList.length+1) []))->gY [.d (a8 rs),.d (.str z),.d (.tuple [.str (eQ rs z.cps.toList),d])]=.ok (.d (.bool false)):=fun d hd hn=>by
  rw[aB8 M S Q P W n (aOC G hd),AW]
  rw[D]
  intro e
  injection e with e
  injection e with _ e
  injection e with e
  exact hn e
 have hz:z.length<=16777216:=by rw[hU];have:=S.1;omega
 have K:=o3 hz
 rw[hU] at K
 have ad:=S.1
 rw[D] at U h1
 generalize bdL (ps++[s]) (List.replicate (z.cps.toList.length+1) [])=B at *
 cases J:crL c (ps++[s]) with
 | nil=>exact absurd J aa
 | cons y t=>
  rw[J] at f3 C O
  have H:oE (y::t):=N _ (BA C)
  obtain ⟨x,rfl⟩:=H y BI
  have hF:=F _ (aS8 (c:=c) (y:=.int (x+1)::t) N fun w Z=>by
   rcases AY.mp Z with q|q
   .exact ⟨_,q⟩
   .exact H w (A9 _ q)) (aS9 C)
  have b0:dIx (.tuple [.str (eQ rs z.cps.toList),fX B]) (.int 0)=.ok (.str (eQ rs z.cps.toList)):=rfl
  have b1:dIx (.tuple [.str (eQ rs z.cps.toList),fX B]) (.int 1)=.ok (.tuple (B.map PyData.tuple)):=rfl
  have b2:dIx (.tuple (B.map PyData.tuple)) (.int (c:Int))=.ok (.tuple (.int x::t)):=kG (gI (by rw[AS,C];rfl))
  have b3:dIx (.tuple (.int x::t)) (.int 0)=.ok (.int x):=kG (gI (j:=0) rfl)
  have g:(B.map PyData.tuple).length=z.cps.toList.length+1:=by rw[AH,X]
  have n4:dNe (.int ((z.cps.toList.length+1:Nat):Int)) (.int ((z.cps.toList.length:Int)+1))=.ok (.bool false):=lI (iX _)
  have n5:dNe (.tuple (.int x::t)) (.tuple (.int x::t))=.ok (.bool false):=lI (Sh.shaped (n:=1) (sh_tup fun w Z=>by obtain ⟨i,rfl⟩:=H w Z;exact sh_int _ _) (by decide))
  have V:∀ (k L d:Nat),HT.sIx L d (some (k:Int))=min k L:=fun k L d=>HT.aF6 L d k
  have s1:dSl (.tuple (.int x::t)) (some 1) none=.ok (.tuple t):=by
   have e:=V 1 (PyData.int x::t).length 0
   rw[show ((1:Nat):Int)=1 from rfl,AG,FC (by omega)] at e
   rw[aIO (by rw[AG,e];omega)]
   unfold oS
   rw[HT.mQ,AG,e,DI (by rw[CS,AG];omega)]
   rfl
  have a1:cR (.tuple [.int (x+1)]) (.tuple t)=.ok (.tuple (.int (x+1)::t)):=aKR rfl (by simp at O ⊢;omega)
  have s2:dSl (.tuple (B.map PyData.tuple)) none (some (c:Int))=.ok (.tuple ((B.map PyData.tuple).take c)):=by
   have e:=V c (z.cps.toList.length+1) (z.cps.toList.length+1)
   rw[FC (by omega)] at e
   rw[aIO (by rw[g,HT.mQ,e];omega)]
   unfold oS
   rw[HT.mQ,g,e]
   rfl
  have s3:dSl (.tuple (B.map PyData.tuple)) (some ((c:Int)+1)) none=.ok (.tuple ((B.map PyData.tuple).drop (c+1))):=by
   have e:=V (c+1) (z.cps.toList.length+1) 0
   rw[FC (by omega),show ((c+1:Nat):Int)=(c:Int)+1 from rfl] at e
   rw[aIO (by rw[g,HT.mQ,e];omega)]
   unfold oS
   rw[HT.mQ,g,e,DI (by rw[CS,g];omega)]
  have a2:vQ (.tuple ((B.map PyData.tuple).take c)) (.tuple [.tuple (.int (x+1)::t)])=.ok (.tuple ((B.map PyData.tuple).take c++[.tuple (.int (x+1)::t)])):=AA (by rw[dY,CY,g];simp;omega)
  have a3:cR (.tuple ((B.map PyData.tuple).take c++[.tuple (.int (x+1)::t)])) (.tuple ((B.map PyData.tuple).drop (c+1)))=.ok (.tuple (anoL B c (.int (x+1)::t))):=by
   rw[aKR (by simp) (by rw[AZ,CY,CS,g,B6];omega)];rfl
  have I:List.replicate 5 (none:O6 A)=[none,none,none,none,none]:=rfl
  have hv:∀ a b c d e v m u p,vO 5 [some (A.d a),some (.d b),some (.d c),some (.d d),some (.d e),some (.o (endE rs z.cps.toList ps s)),v,m,u,p]=.ok (.o (endE rs z.cps.toList ps s)):=fun _ _ _ _ _ _ _ _ _=>rfl
  have k1:=fun a b c d e v m u p=>U _ _ (hv a b c d e v m u p)
  have k2:=fun a b c d e v m u p=>m2 _ _ (hv a b c d e v m u p)
  have k3:=fun (a b c d e:Dz) (v m u p:O6 A)=>m3 5 [some (A.d a),some (.d b),some (.d c),some (.d d),some (.d e),some (.o (endE rs z.cps.toList ps s)),v,m,u,p] rfl
  have k4:=fun a b c d e v m u p=>(k3 a b c d e v m u p).1
  have k5:=fun a b c d e v m u p=>(k3 a b c d e v m u p).2
  clear U m2 m3 k3
  generalize endE rs z.cps.toList ps s=E at *
  generalize a8 rs=md at *
  generalize (ps++[s]).map prD=PL at *
  generalize eQ rs z.cps.toList=ww at *
  generalize anoL B c (.int (x+1)::t)=AL at *
  generalize T:PyData.tuple (B.map PyData.tuple)=BT at *
  have b4:dLen BT=.ok (.int ((z.cps.toList.length+1:Nat):Int)):=by rw[<-T,qQ,g]
  unfold dE jE
  simp only[cE,aX,cU,cY,bJ,bL,dW,AI,A5,AG,AK,Nat.reduceAdd,Nat.reduceSub,Nat.reduceLeDiff,I,AU,AV,AC,AB,R.bind_ok,A8,f1,AJ,AM,cZ,qM,bZ,cA,gO,bU,bW,fM,cT,f2,fK,n1,cJ,k1,k2,k4,k5,n2,eI,hZ,il,n3,A7,BQ,fU,h1,aFB,bne_self_eq_false,Y,f3,b0,b1,b2,b3,b4,K,gG,n4,n5,qN,qO,qP,s1,a1,s2,s3,a2,a3,cN,hF,aLD,ED]
end
section
variable{rs:List Rw}{sg:Nat}{z:Str}{ps:List (Int×Int)}
theorem aLN(M:Mach rs sg)(S:bY sg z.cps.toList)(s:dZ rs z.cps.toList=ps++[(1,0)])(P:PathOk rs z.cps.toList ps (1,0))(W:EndW rs z.cps.toList ps (1,0))(n:(1,0)∈ps)(hi:ps.idxOf (1,0)=1)(h2:itM rs z.cps.toList (ps.length - 1)≠some (1,0)){c:Nat} :
  dE [.d (a8 rs),.d (.str z),.d (.list ((ps++[(1,0)]).map prD)),.d (.str "ever"),.d (.int (c:Int))]=.ok (.d (.bool true)):=by
 have H:=sV M S s P W
 have D:=aFN M S
 rw[s] at D
 have u:=fun (f:Sg->R A) (ρ:Sg)=>mt_paper W (f:=f) (ρ:=ρ)
 have v:=fun (f:Sg->R A) (ρ:Sg)=>mt_says W (f:=f) (ρ:=ρ)
 have B:=fun (i:Nat) (ρ:Sg)=>aB5 W (i:=i) (ρ:=ρ)
 have N:=uU ps (1,0)
 have h1:=aCA M S s P W
 have L:eQ rs z.cps.toList="ever":=by
  cases W with
  | b w n' e c=>exact absurd n n'
  | o w n' e c=>exact absurd n n'
  | e w n' q c=>exact w
 rw[L] at v
 have J:=lI (sS (l:=ps++[(1,0)]))
 have G:dNe (.str "ever") (.str "ever")=.ok (.bool false):=lI (Sh.shaped (aA3 (.inr (.inr rfl)) 1) (by decide))
 have F:dNe (.tuple [.int 1,.int 0]) (prD (1,0))=.ok (.bool false):=lI (iF (1,0))
 have x:dEq (.str "ever") (.str "ever")=.ok (.bool true):=qT (.inr (.inr rfl)) (.inr (.inr rfl))
 have r:nY rs z.cps.toList ps (1,0)=.tuple [.str "ever",.int 1,.int 0,.int 1,.int (ps.length:Int)]:=by unfold nY;rw[AA n,hi];rfl
 rw[r] at u h1
 have e1:=aLC (aOD 1 0 1 (ps.length:Int)).2
 have I:2<=ps.length:=by have:=CP n;omega
 have y:=aB9 M S s P W n 1 0 1 ((ps.length:Int) - 1)
 rw[AW (fun h=>h2 (by have:=h.2.2;unfold AtN at this;rw[show ((ps.length:Int) - 1).toNat=ps.length - 1 by omega] at this;exact this))] at y
 have t:(((ps++[((1:Int),(0:Int))]).map prD).length:Int) - 1=(ps.length:Int):=by rw[AH,AZ];simp
 have p:List.replicate 5 (none:O6 A)=[none,none,none,none,none]:=rfl
 have C:∀ a b c d e m g k j,vO 5 [some (A.d a),some (.d b),some (.d c),some (.d d),some (.d e),some (.o (endE rs z.cps.toList ps (1,0))),m,g,k,j]=.ok (.o (endE rs z.cps.toList ps (1,0))):=fun _ _ _ _ _ _ _ _ _=>rfl
 have k1:=fun a b c d e m g k j=>u _ _ (C a b c d e m g k j)
 have k2:=fun a b c d e m g k j=>v _ _ (C a b c d e m g k j)
 have k3:=fun (a b c d e:Dz) (m g k j:O6 A)=>B 5 [some (A.d a),some (.d b),some (.d c),some (.d d),some (.d e),some (.o (endE rs z.cps.toList ps (1,0))),m,g,k,j] rfl
 have K:=fun a b c d e m g k j=>(k3 a b c d e m g k j).1
 have k5:=fun a b c d e m g k j=>(k3 a b c d e m g k j).2
 clear u v B k3
 generalize endE rs z.cps.toList ps (1,0)=E at *
 generalize a8 rs=O at *
 generalize (ps++[((1:Int),(0:Int))]).map prD=Q at *
 unfold dE jE
 simp only[cE,aX,cU,cY,bJ,bL,dW,AI,A5,AG,AK,Nat.reduceAdd,Nat.reduceSub,Nat.reduceLeDiff,p,AU,AV,AC,AB,R.bind_ok,A8,H,AJ,AM,cZ,qM,bZ,cA,gO,bU,bW,fM,cT,D,fK,J,cJ,k1,k2,K,k5,G,eI,hZ,N,F,A7,BQ,fU,h1,aFB,bne_self_eq_false,x,o0,mD,t,e1,aAL,y,cN,aLD,ED]
end
section
variable{t sg:Nat}{z:Str}{c:Nat}
theorem aLO{l:List (Int×Int)}{f:Nat->Int×Int}{N:Nat}(d:l=(List.range (N+1)).map f)(h1:c < N){r r':Int}(e1:f c=((c:Int),r))(e2:f (c+1)=(((c+1:Nat):Int),r')):crL c l≠[]:=by
 refine aOK (k:=c) (a:=f c) (b:=f (c+1)) ?_ ?_ ?_
 .rw[d,AS,BK (by omega)];rfl
 .rw[d,AS,BK (by omega)];rfl
 .unfold brd j9
  rw[e1,e2]
  simp only
  split<;>omega
theorem aLP{n k:Nat}(h:k<=n+1):∃ r,pnS n k=((k:Int),r):=by
 by_cases e:k=0
 .subst e;exact ⟨0,rfl⟩
 .have:=iC (n:=n) (m:=0) (i:=k - 1) (by omega)
  rw[AA (by omega),show 0 * (2 * n+2)+(k - 1)+1=k by omega,show k - 1+1=k by omega] at this
  exact ⟨_,this⟩
theorem aTA(n N:Nat):((List.range N).map (pnS n)++[pnS n N]).map prD=pnL n (N+1):=by
 unfold pnL
 rw[DN,BG,BG,BL];rfl
theorem aTB(g:1<=t)(i:t<=3){x:Str}(a:x="by"\/x="out")(s1:1<=sg)(j:sg<=3)(S:bY sg z.cps.toList)(A:c<=z.cps.toList.length) :
  dE [.d (a8 (pnM t sg (.w x))),.d (.str z),.d (.list (pnL z.cps.toList.length (t * (2 * z.cps.toList.length+2)+1)++xP (.w x))),.d (.str x),.d (.int (c:Int))]=.ok (.d (.bool true)):=by
 have M:=oK (lt:=.w x) g i a s1 j
 obtain ⟨ps,s,e,P,W⟩:=y7 M S
 have v:=aHF g i a s1 j S
 have p:=aQN g i a s1 j S
 have C:2 * z.cps.toList.length+2<=t * (2 * z.cps.toList.length+2):=EV _ g
 have y:s∉ps:=by
  cases W with
  | b w n e c=>exact n
  | o w n e c=>exact n
  | e w n q c=>rw[p] at w;rcases a with rfl|rfl<;>exact absurd w (by decide)
 have e1:=v.symm.trans e
 obtain ⟨r,u⟩:=aLP (n:=z.cps.toList.length) (k:=c) (by omega)
 obtain ⟨B,l⟩:=aLP (n:=z.cps.toList.length) (k:=c+1) (by omega)
 have h:crL c (ps++[s])≠[]:=aLO (f:=pnS z.cps.toList.length) (N:=t * (2 * z.cps.toList.length+2)) (by rw[<-e1,DN,BG];rfl) (by omega) u l
 have k:=aCB M S e P W y A h
 rw[p,<-e1,aTA] at k
 have m:xP (.w x)=[]:=by rcases a with rfl|rfl<;>rfl
 rw[m,CM]
 exact k
theorem aTC(g:1<=t)(o:t<=3)(s1:1<=sg)(p:sg<=3)(S:bY sg z.cps.toList) :
  dE [.d (a8 (pnM t sg (.n 0))),.d (.str z),.d (.list (pnL z.cps.toList.length (t * (2 * z.cps.toList.length+2)+1)++xP (.n 0))),.d (.str "ever"),.d (.int (c:Int))]=.ok (.d (.bool true)):=by
 have M:=oK (lt:=.n 0) g o ⟨by omega,by omega⟩ s1 p
 obtain ⟨ps,s,e,P,W⟩:=y7 M S
 have A:2 * z.cps.toList.length+2<=t * (2 * z.cps.toList.length+2):=EV _ g
 have r:=aQF g o s1 p S
 have e1:=r.symm.trans e
 obtain ⟨h1,h2⟩:=E1 e1 rfl
 injection h2 with h2
 subst h2
 have f:∀ k,k<=t * (2 * z.cps.toList.length+2)->pnE t z.cps.toList.length k=pnS z.cps.toList.length k:=fun k h=>AA h
 have q:pnE t z.cps.toList.length 0=(0,0):=by rw[f 0 (by omega)];rfl
 have y:pnE t z.cps.toList.length 1=(1,0):=by
  have:=iC (n:=z.cps.toList.length) (m:=0) (i:=0) (by omega)
  rw[AA (by omega),show 0 * (2 * z.cps.toList.length+2)+0+1=1 by omega] at this
  rw[f 1 (by omega),this];rfl
 have l:ps.length=t * (2 * z.cps.toList.length+2)+1:=by rw[<-h1,AH,A0]
 obtain ⟨m,x⟩:∃ m,t * (2 * z.cps.toList.length+2)+1=m+2:=⟨t * (2 * z.cps.toList.length+2) - 1,by omega⟩
 have u:∃ tl,ps=(0,0)::(1,0)::tl:=by
  rw[<-h1,x,DK,DK]
  refine ⟨((List.range m).map Nat.succ).map fun i=>pnE t z.cps.toList.length (Nat.succ i),?_⟩
  simp only[AI,BL]
  rw[q,show Nat.succ 0=1 from rfl,y]
  rfl
 obtain ⟨tl,a⟩:=u
 have b:((1:Int),(0:Int))∈ps:=by rw[a];simp
 have hid:ps.idxOf ((1:Int),(0:Int))=1:=by
  rw[a,List.idxOf_cons,E6 (by decide),List.idxOf_cons_self];rfl
 have j:itM (pnM t sg (.n 0)) z.cps.toList (ps.length - 1)≠some (1,0):=by
  have h:=P.it (ps.length - 1) (by rw[AZ];omega)
  rw[<-h,BF (by omega),l,FP,<-h1,AS,BK (by omega)]
  show some (pnE t z.cps.toList.length (t * (2 * z.cps.toList.length+2)))≠_
  rw[f _ (A2 _),zG g]
  intro h
  injection h with h
  injection h with h _
  omega
 have k:=aLN (c:=c) M S e P W b hid j
 have v:(ps++[((1:Int),(0:Int))]).map prD=pnL z.cps.toList.length (t * (2 * z.cps.toList.length+2)+1)++xP (.n 0):=by
  rw[<-h1,BG,BL]
  unfold pnL
  congr 1
  refine BN fun k w=>?_
  show prD (pnE t z.cps.toList.length k)=_
  rw[f k (by have:=BC.mp w;omega)]
 rw[v] at k
 exact k
theorem aHI{p q a b:Nat}(p1:1<=p)(p2:p<=100)(q1:1<=q)(q2:q<=100)(s1:1<=sg)(i:sg<=3)(S:bY sg z.cps.toList):eQ (swM p q a b sg) z.cps.toList=if z.cps.toList.length % p=a/\z.cps.toList.length % q=b then ("by":Str) else ("out":Str):=by
 obtain ⟨ps,s,e,P,W⟩:=y7 (vY (a:=a) (b:=b) p1 p2 q1 q2 s1 i) S
 rw[aHD p1 p2 q1 q2 s1 i S] at e
 obtain ⟨_,h2⟩:=E1 e rfl
 injection h2 with h2
 have j:=CJ z.cps.toList.length (show p > 0 by omega)
 have k:=CJ z.cps.toList.length (show q > 0 by omega)
 have f:(bR (swM p q a b sg) z.cps.toList s).1=.w (if z.cps.toList.length % p=a/\z.cps.toList.length % q=b then ("by":Str) else ("out":Str)):=by
  rw[<-h2]
  unfold cnN
  by_cases g:z.cps.toList.length % p=a
  .rw[AA g]
   have e1:cnS p q z.cps.toList.length (2 * z.cps.toList.length+2)=(0,((p+z.cps.toList.length % q:Nat):Int)):=by
    unfold cnS
    rw[AE (by omega),AE (by omega),EA,show 2 * z.cps.toList.length+2 - (z.cps.toList.length+2)=z.cps.toList.length by omega];rfl
   rw[e1]
   unfold bR
   simp only
   rw[AA trivial,vX k]
   show Tn.w (if z.cps.toList.length % q=b then "by" else "out")=_
   by_cases d:z.cps.toList.length % q=b
   .rw[AA d,AA ⟨g,d⟩]
   .rw[AE d,AE fun h=>d h.2]
  .rw[AE g]
   have e1:cnS p q z.cps.toList.length (z.cps.toList.length+1)=((z.cps.toList.length:Int)+1,((z.cps.toList.length % p:Nat):Int)):=by
    unfold cnS
    rw[AE (by omega),AA (by omega)];rfl
   rw[e1]
   unfold bR
   simp only
   rw[AE (by omega),AA trivial,y9 j,AE fun h=>g h.1]
   show (if z.cps.toList.length % p=a then Tn.n (p:Int) else .w "out")=_
   rw[AE g]
 cases W with
 | b h n e c=>rw[f] at c;injection c with c;rw[h,c]
 | o h n e c=>rw[f] at c;injection c with c;rw[h,c]
 | e h n q c=>rw[f] at c;cases c
theorem aUL{p q a b:Nat}(p1:1<=p)(p2:p<=100)(q1:1<=q)(q2:q<=100)(s1:1<=sg)(i:sg<=3)(S:bY sg z.cps.toList)(t:c<=z.cps.toList.length) :
  dE [.d (a8 (swM p q a b sg)),.d (.str z),.d (.list ((List.range (cnN p a z.cps.toList.length+1)).map fun k=>prD (cnS p q z.cps.toList.length k))),.d (.str (eQ (swM p q a b sg) z.cps.toList)),.d (.int (c:Int))]=.ok (.d (.bool true)):=by
 have M:=vY (a:=a) (b:=b) p1 p2 q1 q2 s1 i
 obtain ⟨ps,s,e,P,W⟩:=y7 M S
 have v:=aHD (a:=a) (b:=b) p1 p2 q1 q2 s1 i S
 have u:=aHI (a:=a) (b:=b) p1 p2 q1 q2 s1 i S
 have A:z.cps.toList.length+1<=cnN p a z.cps.toList.length:=by unfold cnN;split<;>omega
 have x:s∉ps:=by
  cases W with
  | b w n e c=>exact n
  | o w n e c=>exact n
  | e w n q c=>rw[u] at w;split at w<;>exact absurd w (by decide)
 have e1:=v.symm.trans e
 have on:∀ k,k<=z.cps.toList.length+1->∃ r,cnS p q z.cps.toList.length k=((k:Int),r):=fun k h=>by
  by_cases e:k=0
  .subst e;exact ⟨0,rfl⟩
  .unfold cnS
   rw[AE e,AA h]
   exact ⟨_,rfl⟩
 obtain ⟨r,m⟩:=on c (by omega)
 obtain ⟨y,j⟩:=on (c+1) (by omega)
 have g:crL c (ps++[s])≠[]:=aLO (f:=cnS p q z.cps.toList.length) (N:=cnN p a z.cps.toList.length) (by rw[<-e1,DN,BG];rfl) (by omega) m j
 have k:=aCB M S e P W x t g
 have l:(ps++[s]).map prD=(List.range (cnN p a z.cps.toList.length+1)).map fun k=>prD (cnS p q z.cps.toList.length k):=by
  rw[<-e1,DN,BG,BG,BL];rfl
 rw[l] at k
 exact k
theorem aOL(b:1<=t)(f:t<=3){lt:Tn}(a:(lt=.w "by"\/lt=.w "out")\/lt=.n 0)(s1:1<=sg)(e:sg<=3)(S:bY sg z.cps.toList)(j:c<=z.cps.toList.length){w:Str}(hw:w="by"\/w="out"\/w="ever")(g:mK (pnM t sg lt) (kTb (pnM t sg lt).length (fun i=>i) (fun i=>decide (i % 2=0)) z.cps.toList.length)=w) :
  eK [.d (a8 (pnM t sg lt)),.d (.str z),.d (.tuple [.int 0,.int 0]),.d (.str w),.d (.int (c:Int))]=.ok (.d (.bool true)):=by
 have M:=oK (t:=t) (lt:=lt) b f (by rcases a with (rfl|rfl)|rfl;exact .inl rfl;exact .inr rfl;exact ⟨by omega,by omega⟩) s1 e
 have K:=aI8 (t:=t) (sg:=sg) (lt:=lt) b (by rcases a with (rfl|rfl)|rfl;exact .inl ⟨_,rfl⟩;exact .inl ⟨_,rfl⟩;exact .inr rfl)
 exact aFM M K aSU S (fun r h _ _ _=>sU h _) hw g j
theorem aUM{p q a b:Nat}(p1:1<=p)(p2:p<=100)(q1:1<=q)(q2:q<=100)(s1:1<=sg)(j:sg<=3)(S:bY sg z.cps.toList)(h:c<=z.cps.toList.length) :
  eK [.d (a8 (swM p q a b sg)),.d (.str z),.d (.tuple [.int (p:Int),.int (q:Int)]),.d (.str (if z.cps.toList.length % p=a/\z.cps.toList.length % q=b then "by" else "out")),.d (.int (c:Int))]=.ok (.d (.bool true)):=by
 have M:=vY (a:=a) (b:=b) p1 p2 q1 q2 s1 j
 have K:=aI7 (a:=a) (b:=b) (sg:=sg) p1 q1
 refine aFM M K (aSV p1 q1) S (fun r l i f g=>?_) (by split;exact .inl rfl;exact .inr (.inl rfl)) (aUJ p1 q1) h
 exfalso
 rw[lJ] at i
 have k:¬ r < p:=FO f
 have e:=zB (p:=p) (q:=q) q1 z.cps.toList.length (r - p) (by omega)
 rw[show p+(r - p)=r by omega] at e
 rw[e,vX (CJ _ (by omega))] at g
 cases g
end
abbrev nn(k:Nat):List (O6 A):=List.replicate k none
theorem dS{f g:Sg->R Fw}{ρ a:Sg}(h:f ρ=.ok (.nx a)):aM f g ρ=g a:=by rw[aX,h];rfl
theorem sW(v:Int){n:Nat}(h:1<=n):∃ r:Nat,v % (n:Int)=(r:Int)/\r < n:=by
 have h1:=GQ v (show (n:Int)≠0 by omega)
 have h2:=FM v (show (0:Int) < (n:Int) by omega)
 exact ⟨(v % (n:Int)).toNat,by omega,by omega⟩
section
variable{ns:List Int}{sg n c t p q a b:Nat}{z:Str}{v4:Int}
theorem lx0{v:Int}(h:bT [.d (b8 ns),.d (.int 1)]=.ok (.d (.int v)))(e:1+v % 3=(sg:Int)):lw0 (some (.d (b8 ns))::nn 14)=.ok (.nx (some (.d (b8 ns))::iO sg::nn 13)):=by
 simp[lw0,fA,iO,nn,h,cV (show (0:Int) < 3 by decide),e]
theorem lx1{v w:Int}(h:bT [.d (b8 ns),.d (.int 2)]=.ok (.d (.int v)))(h2:bT [.d (b8 ns),.d (.int 3)]=.ok (.d (.int w)))(e:(if decide (0 < w % 4)=true then 100+v % 301 else v % 12)=(n:Int)):lw1 (some (.d (b8 ns))::iO sg::nn 13)=.ok (.nx (some (.d (b8 ns))::iO sg::iO n::nn 12)):=by
 have a:=uW (.int (v % 12)) (.int (100+v % 301)) (decide (0 < w % 4))
 rw[<-apply_ite PyData.int,e] at a
 have b:dMod (.int v) (.int 12)=.ok (.int (v % 12)):=cV (by decide)
 have c:dMod (.int v) (.int 301)=.ok (.int (v % 301)):=cV (by decide)
 have f:dMod (.int w) (.int 4)=.ok (.int (w % 4)):=cV (by decide)
 simp only[lw1,iO,nn,List.replicate,cU,cT,cA,bZ,kZ,eS,bJ,bL,gO,cY,dW,bW,h,h2,fK,b,c,f,gG,aC0,mG,a,R.bind_ok,AG,AK,Nat.reduceAdd,Nat.reduceLeDiff,A8,AC,AB,AJ,AM]
theorem lx2(h:gW [.d (b8 ns),.d (.int 12),.d (.int (n:Int)),.d (.int (sg:Int))]=.ok (.d (.str z))):lw2 (some (.d (b8 ns))::iO sg::iO n::nn 12)=.ok (.nx (some (.d (b8 ns))::iO sg::iO n::some (.d (.str z))::nn 11)):=by
 simp[lw2,fA,iO,nn,h]
theorem lx3(h:bT [.d (b8 ns),.d (.int 4)]=.ok (.d (.int v4))):lw3 (some (.d (b8 ns))::iO sg::iO n::some (.d (.str z))::nn 11)=.ok (.nx (some (.d (b8 ns))::iO sg::iO n::some (.d (.str z))::some (.d (.int v4))::nn 10)):=by
 simp[lw3,fA,iO,nn,h]
theorem lx4{v:Int}(h:bT [.d (b8 ns),.d (.int 5)]=.ok (.d (.int v)))(e:v % ((n:Int)+1)=(c:Int)):lw4 (some (.d (b8 ns))::iO sg::iO n::some (.d (.str z))::some (.d (.int v4))::nn 10)=.ok (.nx (some (.d (b8 ns))::iO sg::iO n::some (.d (.str z))::some (.d (.int v4))::iO c::nn 9)):=by
 simp[lw4,fA,iO,nn,h,cV (show (0:Int) < (n:Int)+1 by omega),e]
theorem aTD{a:Dz}(h:dIx (.list [.str "by",.str "out",.int 0]) (.int (v4 / 2 % 3))=.ok a):la0 (some (.d (b8 ns))::iO sg::iO n::some (.d (.str z))::some (.d (.int v4))::iO c::nn 9)=.ok (.nx (some (.d (b8 ns))::iO sg::iO n::some (.d (.str z))::some (.d (.int v4))::iO c::some (.d a)::nn 8)):=by
 simp[la0,fA,iO,nn,mF (show (0:Int) < 2 by decide) (show (2:Int) < 18446744073709551616 by decide),cV (show (0:Int) < 3 by decide),h]
theorem aTE{a:Dz}(e:1+v4 / 6 % 3=(t:Int)):la1 (some (.d (b8 ns))::iO sg::iO n::some (.d (.str z))::some (.d (.int v4))::iO c::some (.d a)::nn 8)=.ok (.nx (some (.d (b8 ns))::iO sg::iO n::some (.d (.str z))::some (.d (.int v4))::iO c::some (.d a)::iO t::nn 7)):=by
 simp[la1,fA,iO,nn,mF (show (0:Int) < 6 by decide) (show (6:Int) < 18446744073709551616 by decide),cV (show (0:Int) < 3 by decide),e]
theorem aTF{a b:Dz}(h:fH [.d (.int (t:Int)),.d (.int (sg:Int)),.d a]=.ok (.d b)):la2 (some (.d (b8 ns))::iO sg::iO n::some (.d (.str z))::some (.d (.int v4))::iO c::some (.d a)::iO t::nn 7)=.ok (.nx (some (.d (b8 ns))::iO sg::iO n::some (.d (.str z))::some (.d (.int v4))::iO c::some (.d a)::iO t::some (.d b)::nn 6)):=by
 simp[la2,fA,iO,nn,h]
theorem aTG{a b e:Dz}(h:gL [.d (.int (t:Int)),.d (.int (n:Int)),.d a]=.ok (.d e)):la3 (some (.d (b8 ns))::iO sg::iO n::some (.d (.str z))::some (.d (.int v4))::iO c::some (.d a)::iO t::some (.d b)::nn 6)=.ok (.nx (some (.d (b8 ns))::iO sg::iO n::some (.d (.str z))::some (.d (.int v4))::iO c::some (.d a)::iO t::some (.d b)::some (.d e)::nn 5)):=by
 simp[la3,fA,iO,nn,h]
theorem aTH{a f i e:Dz}{b:Bool}(h:dNe a (.int 0)=.ok (.bool b))(h2:(if b=true then a else .str "ever")=e):la4 (some (.d (b8 ns))::iO sg::iO n::some (.d (.str z))::some (.d (.int v4))::iO c::some (.d a)::iO t::some (.d f)::some (.d i)::nn 5)=.ok (.nx (some (.d (b8 ns))::iO sg::iO n::some (.d (.str z))::some (.d (.int v4))::iO c::some (.d a)::iO t::some (.d f)::some (.d i)::some (.d e)::nn 4)):=by
 have g:=uW (.str "ever") a b
 rw[h2] at g
 simp only[la4,iO,nn,List.replicate,cU,cT,cA,bZ,kZ,eS,bJ,bL,fM,bU,bW,h,mG,g,R.bind_ok,AG,AK,Nat.reduceAdd,Nat.reduceLeDiff,A8,AC,AB,AJ,AM]
theorem aTI{e b f a:Dz}:la5 (some (.d (b8 ns))::iO sg::iO n::some (.d (.str z))::some (.d (.int v4))::iO c::some (.d e)::iO t::some (.d b)::some (.d f)::some (.d a)::nn 4)=.ok (.nx (some (.d (b8 ns))::iO sg::iO n::some (.d (.str z))::some (.d (.int v4))::iO c::some (.d e)::iO t::some (.d b)::some (.d f)::some (.d a)::some (.d (.tuple [.int 0,.int 0]))::nn 3)):=by
 simp[la5,fA,iO,nn]
theorem aVA(e1:1+v4 / 2 % 9=(p:Int))(e2:1+v4 / 18 % 7=(q:Int)):lb0 (some (.d (b8 ns))::iO sg::iO n::some (.d (.str z))::some (.d (.int v4))::iO c::nn 9)=.ok (.nx (some (.d (b8 ns))::iO sg::iO n::some (.d (.str z))::some (.d (.int v4))::iO c::nn 5++some (.d (.tuple [.int (p:Int),.int (q:Int)]))::nn 3)):=by
 simp[lb0,fA,iO,nn,mF (show (0:Int) < 2 by decide) (show (2:Int) < 18446744073709551616 by decide),cV (show (0:Int) < 9 by decide),mF (show (0:Int) < 18 by decide) (show (18:Int) < 18446744073709551616 by decide),cV (show (0:Int) < 7 by decide),e1,e2]
theorem aVB:lb1 (some (.d (b8 ns))::iO sg::iO n::some (.d (.str z))::some (.d (.int v4))::iO c::nn 5++some (.d (.tuple [.int (p:Int),.int (q:Int)]))::nn 3)=.ok (.nx (some (.d (b8 ns))::iO sg::iO n::some (.d (.str z))::some (.d (.int v4))::iO c::nn 5++some (.d (.tuple [.int (p:Int),.int (q:Int)]))::iO p::iO q::nn 1)):=by
 simp[lb1,fA,iO,nn]
theorem aVC(p1:1<=p)(q1:1<=q):lb2 (some (.d (b8 ns))::iO sg::iO n::some (.d (.str z))::some (.d (.int v4))::iO c::nn 5++some (.d (.tuple [.int (p:Int),.int (q:Int)]))::iO p::iO q::nn 1)=.ok (.nx (some (.d (b8 ns))::iO sg::iO n::some (.d (.str z))::some (.d (.int v4))::iO c::nn 5++some (.d (.tuple [.int (p:Int),.int (q:Int)]))::iO p::iO q::some (.l [.int ((n % p:Nat):Int),.int ((n % q:Nat):Int)])::[])):=by
 have a:dMod (.int (n:Int)) (.int (p:Int))=.ok (.int ((n % p:Nat):Int)):=by rw[cV (by omega)];rfl
 have b:dMod (.int (n:Int)) (.int (q:Int))=.ok (.int ((n % q:Nat):Int)):=by rw[cV (by omega)];rfl
 simp only[lb2,iO,nn,List.replicate,AU,AV,fN,eS,bJ,bL,cA,bU,a,b,R.bind_ok,AG,AK,Nat.reduceAdd,Nat.reduceLeDiff,A8,AC,AB,AJ,AM]
theorem aVD{v:Int}{j:Nat}(p1:1<=p)(h:bT [.d (b8 ns),.d (.int 6)]=.ok (.d (.int v)))(e:(a:Int)=if v4 / 126 % 2=1 then v % (p:Int) else (j:Int)):lb3 (some (.d (b8 ns))::iO sg::iO n::some (.d (.str z))::some (.d (.int v4))::iO c::nn 5++some (.d (.tuple [.int (p:Int),.int (q:Int)]))::iO p::iO q::some (.l [.int (j:Int),.int (b:Int)])::[])=.ok (.nx (some (.d (b8 ns))::iO sg::iO n::some (.d (.str z))::some (.d (.int v4))::iO c::nn 5++some (.d (.tuple [.int (p:Int),.int (q:Int)]))::iO p::iO q::some (.l [.int (a:Int),.int (b:Int)])::[])):=by
 have k:dDiv (.int v4) (.int 126)=.ok (.int (v4 / 126)):=mF (by decide) (by decide)
 have d2:dMod (.int (v4 / 126)) (.int 2)=.ok (.int (v4 / 126 % 2)):=cV (by decide)
 have i:dMod (.int v) (.int (p:Int))=.ok (.int (v % (p:Int))):=cV (by omega)
 by_cases g:v4 / 126 % 2=1
 .rw[AA g] at e
  rw[<-e] at i
  rw[g] at d2
  have f:dEq (.int 1) (.int 1)=.ok (.bool true):=cH 1 1
  have hi:ixN 2 0=some 0:=rfl
  simp only[lb3,iO,nn,List.replicate,AU,AV,cZ,bZ,cA,bW,gO,cY,bJ,bL,dW,cT,bU,k,d2,i,h,f,cJ,fK,aFC,hi,R.bind_ok,AG,AK,Nat.reduceAdd,Nat.reduceLeDiff,A8,AC,AB,AJ,AM]
 .rw[AE g] at e
  have f:dEq (.int (v4 / 126 % 2)) (.int 1)=.ok (.bool false):=by rw[cH,AW g]
  simp only[lb3,iO,nn,List.replicate,AU,AV,cZ,bZ,cA,bW,bU,k,d2,f,cJ,R.bind_ok,A7,BQ,fU,e,AC,AB]
theorem aVE{v:Int}{j:Nat}(p1:1<=q)(h:bT [.d (b8 ns),.d (.int 7)]=.ok (.d (.int v)))(e:(b:Int)=if v4 / 252 % 2=1 then v % (q:Int) else (j:Int)):lb4 (some (.d (b8 ns))::iO sg::iO n::some (.d (.str z))::some (.d (.int v4))::iO c::nn 5++some (.d (.tuple [.int (p:Int),.int (q:Int)]))::iO p::iO q::some (.l [.int (a:Int),.int (j:Int)])::[])=.ok (.nx (some (.d (b8 ns))::iO sg::iO n::some (.d (.str z))::some (.d (.int v4))::iO c::nn 5++some (.d (.tuple [.int (p:Int),.int (q:Int)]))::iO p::iO q::some (.l [.int (a:Int),.int (b:Int)])::[])):=by
 have k:dDiv (.int v4) (.int 252)=.ok (.int (v4 / 252)):=mF (by decide) (by decide)
 have d2:dMod (.int (v4 / 252)) (.int 2)=.ok (.int (v4 / 252 % 2)):=cV (by decide)
 have i:dMod (.int v) (.int (q:Int))=.ok (.int (v % (q:Int))):=cV (by omega)
 by_cases g:v4 / 252 % 2=1
 .rw[AA g] at e
  rw[<-e] at i
  rw[g] at d2
  have f:dEq (.int 1) (.int 1)=.ok (.bool true):=cH 1 1
  have hi:ixN 2 1=some 1:=rfl
  simp only[lb4,iO,nn,List.replicate,AU,AV,cZ,bZ,cA,bW,gO,cY,bJ,bL,dW,cT,bU,k,d2,i,h,f,cJ,fK,aFC,hi,R.bind_ok,AG,AK,Nat.reduceAdd,Nat.reduceLeDiff,A8,AC,AB,AJ,AM]
 .rw[AE g] at e
  have f:dEq (.int (v4 / 252 % 2)) (.int 1)=.ok (.bool false):=by rw[cH,AW g]
  simp only[lb4,iO,nn,List.replicate,AU,AV,cZ,bZ,cA,bW,bU,k,d2,f,cJ,R.bind_ok,A7,BQ,fU,e,AC,AB]
theorem aVF{e:Dz}(h:iI [.d (.int (p:Int)),.d (.int (q:Int)),.d (.int (a:Int)),.d (.int (b:Int)),.d (.int (sg:Int))]=.ok (.d e)):lb5 (some (.d (b8 ns))::iO sg::iO n::some (.d (.str z))::some (.d (.int v4))::iO c::nn 5++some (.d (.tuple [.int (p:Int),.int (q:Int)]))::iO p::iO q::some (.l [.int (a:Int),.int (b:Int)])::[])=.ok (.nx (some (.d (b8 ns))::iO sg::iO n::some (.d (.str z))::some (.d (.int v4))::iO c::none::none::some (.d e)::none::none::some (.d (.tuple [.int (p:Int),.int (q:Int)]))::iO p::iO q::some (.l [.int (a:Int),.int (b:Int)])::[])):=by
 simp[lb5,fA,iO,nn,h]
theorem aVG{e f:Dz}(h:fW [.d (.int (p:Int)),.d (.int (q:Int)),.d (.int (a:Int)),.d (.int (n:Int))]=.ok (.d f)):lb6 (some (.d (b8 ns))::iO sg::iO n::some (.d (.str z))::some (.d (.int v4))::iO c::none::none::some (.d e)::none::none::some (.d (.tuple [.int (p:Int),.int (q:Int)]))::iO p::iO q::some (.l [.int (a:Int),.int (b:Int)])::[])=.ok (.nx (some (.d (b8 ns))::iO sg::iO n::some (.d (.str z))::some (.d (.int v4))::iO c::none::none::some (.d e)::some (.d f)::none::some (.d (.tuple [.int (p:Int),.int (q:Int)]))::iO p::iO q::some (.l [.int (a:Int),.int (b:Int)])::[])):=by
 simp[lb6,fA,iO,nn,h]
theorem aOM(x y:Int):Cp (.list [.int x,.int y]):=⟨rfl,Sh.shaped (n:=1) (sh_lst fun w a=>by
 simp only[AY,BH,CF] at a
 rcases a with q|q<;>rw[q]<;>exact sh_int _ _) (by decide)⟩
theorem aVH{e g:Dz}(p1:1<=p)(q1:1<=q):lb7 (some (.d (b8 ns))::iO sg::iO n::some (.d (.str z))::some (.d (.int v4))::iO c::none::none::some (.d e)::some (.d g)::none::some (.d (.tuple [.int (p:Int),.int (q:Int)]))::iO p::iO q::some (.l [.int (a:Int),.int (b:Int)])::[])=.ok (.nx (some (.d (b8 ns))::iO sg::iO n::some (.d (.str z))::some (.d (.int v4))::iO c::none::none::some (.d e)::some (.d g)::some (.d (.str (if n % p=a/\n % q=b then "by" else "out")))::some (.d (.tuple [.int (p:Int),.int (q:Int)]))::iO p::iO q::some (.l [.int (a:Int),.int (b:Int)])::[])):=by
 have j:dMod (.int (n:Int)) (.int (p:Int))=.ok (.int ((n % p:Nat):Int)):=by rw[cV (by omega)];rfl
 have k:dMod (.int (n:Int)) (.int (q:Int))=.ok (.int ((n % q:Nat):Int)):=by rw[cV (by omega)];rfl
 have m:dEq (.list [.int (a:Int),.int (b:Int)]) (.list [.int ((n % p:Nat):Int),.int ((n % q:Nat):Int)])=.ok (.bool (decide (n % p=a/\n % q=b))):=by
  rw[aLB (aOM _ _) (aOM _ _)]
  congr 2
  refine DR.mpr ⟨fun h=>?_,fun h=>?_⟩
  .injection h with h
   injection h with h1 h
   injection h with h2 _
   injection h1 with h1
   injection h2 with h2
   exact ⟨by omega,by omega⟩
  .rw[h.1,h.2]
 have f:=uW (.str "out") (.str "by") (decide (n % p=a/\n % q=b))
 have i:(if decide (n % p=a/\n % q=b)=true then PyData.str "by" else PyData.str "out")=.str (if n % p=a/\n % q=b then "by" else "out"):=by
  by_cases h:n % p=a/\n % q=b
  .rw[AA h,AA (AT h)]
  .rw[AE h,AE (by rw[AW h];decide)]
 rw[i] at f
 simp only[lb7,iO,nn,List.replicate,AU,AV,cU,cT,cA,bZ,kZ,eS,bJ,bL,bU,bW,j,k,m,mG,f,R.bind_ok,AG,AK,Nat.reduceAdd,Nat.reduceLeDiff,A8,AC,AB,AJ,AM]
theorem aTJ{ρ:Sg}(g:v4 % 2=0)(h:lA (some (.d (b8 ns))::iO sg::iO n::some (.d (.str z))::some (.d (.int v4))::iO c::nn 9)=.ok (.nx ρ)):lw5 (some (.d (b8 ns))::iO sg::iO n::some (.d (.str z))::some (.d (.int v4))::iO c::nn 9)=.ok (.nx ρ):=by
 have d2:dMod (.int v4) (.int 2)=.ok (.int (v4 % 2)):=cV (by decide)
 rw[g] at d2
 have a:dEq (.int 0) (.int 0)=.ok (.bool true):=cH 0 0
 rw[<-h]
 simp only[lw5,cZ,bZ,cA,bW,bU,iO,nn,d2,a,cJ,R.bind_ok,A8,AC,AB]
theorem aVI{ρ:Sg}(g:¬ v4 % 2=0)(h:lB (some (.d (b8 ns))::iO sg::iO n::some (.d (.str z))::some (.d (.int v4))::iO c::nn 9)=.ok (.nx ρ)):lw5 (some (.d (b8 ns))::iO sg::iO n::some (.d (.str z))::some (.d (.int v4))::iO c::nn 9)=.ok (.nx ρ):=by
 have d2:dMod (.int v4) (.int 2)=.ok (.int (v4 % 2)):=cV (by decide)
 have a:dEq (.int (v4 % 2)) (.int 0)=.ok (.bool false):=by rw[cH,AW g]
 rw[<-h]
 simp only[lw5,cZ,bZ,cA,bW,bU,iO,nn,d2,a,cJ,R.bind_ok,A7,BQ,AC,AB]
theorem aNO{l k i f b:O6 A}{a j g cd:Dz}{v:Int}{d:Nat}(h:dE [.d a,.d (.str z),.d j,.d g,.d (.int (c:Int))]=.ok (.d (.bool true)))(m:bT [.d (b8 ns),.d (.int 8)]=.ok (.d (.int v)))(e:v % ((n:Int)+1)=(d:Int))(h2:eK [.d a,.d (.str z),.d cd,.d g,.d (.int (d:Int))]=.ok (.d (.bool true))) :
  aM lw6 lw7 (some (.d (b8 ns))::iO sg::iO n::some (.d (.str z))::some (.d (.int v4))::iO c::l::k::some (.d a)::some (.d j)::some (.d g)::some (.d cd)::i::f::b::[])=.ok (.rt (.d (.bool true))):=by
 have d2:dMod (.int v) (.int ((n:Int)+1))=.ok (.int (v % ((n:Int)+1))):=cV (by omega)
 rw[e] at d2
 simp only[lw6,lw7,iO,aX,cZ,vL,bZ,cA,bW,bU,gO,cY,bJ,bL,dW,cT,h,m,h2,fK,d2,gG,cJ,R.bind_ok,EW,A7,BQ,fU,cN,A8,AG,AK,Nat.reduceAdd,AC,AB]
end
theorem aNP:∀ ns:List Int,ns.length<=63->aC5 [.d (.list (ns.map .int))]=.ok (.d (.bool true)):=by
 intro ns N
 rw[show PyData.list (ns.map .int)=b8 ns from rfl]
 obtain ⟨I,c1⟩:=mJ ns 1
 obtain ⟨y,V⟩:=mJ ns 2
 obtain ⟨X,c3⟩:=mJ ns 3
 obtain ⟨v4,T⟩:=mJ ns 4
 obtain ⟨Q,P⟩:=mJ ns 5
 obtain ⟨H,c6⟩:=mJ ns 6
 obtain ⟨J,Y⟩:=mJ ns 7
 obtain ⟨v8,E⟩:=mJ ns 8
 obtain ⟨sg,es,k,e⟩:∃ sg:Nat,1+I % 3=(sg:Int)/\1<=sg/\sg<=3:=⟨(1+I % 3).toNat,by omega,by omega,by omega⟩
 obtain ⟨n,en,hn⟩:∃ n:Nat,(if decide (0 < X % 4)=true then 100+y % 301 else y % 12)=(n:Int)/\n<=1000:=by
  split
  .exact ⟨(100+y % 301).toNat,by omega,by omega⟩
  .exact ⟨(y % 12).toNat,by omega,by omega⟩
 obtain ⟨z,fz,S,F⟩:=aPS (ns:=ns) (at':=12) (m:=n) (sg:=sg) (by omega) hn k e
 obtain ⟨c,K,hc⟩:=sW Q (n:=n+1) (by omega)
 obtain ⟨d,B,hd⟩:=sW v8 (n:=n+1) (by omega)
 rw[show ((n+1:Nat):Int)=(n:Int)+1 from rfl] at K B
 have r:∀ ρ,lw5 (some (.d (b8 ns))::iO sg::iO n::some (.d (.str z))::some (.d (.int v4))::iO c::nn 9)=.ok (.nx ρ)->aM lw6 lw7 ρ=.ok (.rt (.d (.bool true)))->aC5 [.d (b8 ns)]=.ok (.d (.bool true)):=fun ρ h5 O=>by
  unfold aC5
  rw[aI1,cE]
  have hr:[A.d (b8 ns)].map some++List.replicate (15 - [A.d (b8 ns)].length) none=some (.d (b8 ns))::nn 14:=rfl
  rw[hr,dS (lx0 c1 es),dS (lx1 V c3 en),dS (lx2 fz),dS (lx3 T),dS (lx4 P K),dS h5,O]
  rfl
 by_cases g:v4 % 2=0
 .obtain ⟨t,G,l,u⟩:∃ t:Nat,1+v4 / 6 % 3=(t:Int)/\1<=t/\t<=3:=⟨(1+v4 / 6 % 3).toNat,by omega,by omega,by omega⟩
  obtain ⟨lt,M,v⟩:∃ lt:Tn,((lt=.w "by"\/lt=.w "out")\/lt=.n 0)/\dIx (.list [.str "by",.str "out",.int 0]) (.int (v4 / 2 % 3))=.ok lt.d:=by
   rcases (by omega:v4 / 2 % 3=0\/v4 / 2 % 3=1\/v4 / 2 % 3=2) with h|h|h<;>rw[h]
   .exact ⟨.w "by",.inl (.inl rfl),rfl⟩
   .exact ⟨.w "out",.inl (.inr rfl),rfl⟩
   .exact ⟨.n 0,.inr rfl,rfl⟩
  have D:=aST (lt:=lt) l u e
  have fs:=aQJ (n:=n) l u (by omega) M
  rcases M with L|rfl
  .obtain ⟨x,rfl,o⟩:∃ x:Str,lt=.w x/\(x="by"\/x="out"):=by
    rcases L with rfl|rfl
    · exact ⟨_, rfl, .inl rfl⟩
    · exact ⟨_, rfl, .inr rfl⟩
   have s:dNe (Tn.w x).d (.int 0)=.ok (.bool true):=by
    rcases o with rfl|rfl<;>(show dNe (.str _) (.int 0)=_;rw[aEU (by decide +kernel) (iX 0)];rfl)
   have j:=aTB (c:=c) l u o k e S (by omega)
   have tb:=aOL (c:=d) l u (.inl L) k e S (by omega) (by rcases o with h|h;exact .inl h;exact .inr (.inl h)) (pn_wT l)
   rw[F] at j
   refine r _ (aTJ g (by unfold lA;rw[dS (aTD v),dS (aTE G),dS (aTF D),dS (aTG fs),dS (aTH s (AA rfl))];exact aTI)) (aNO j E B tb)
  .have s:dNe (Tn.n 0).d (.int 0)=.ok (.bool false):=lI (iX 0)
   have j:=aTC (c:=c) l u k e S
   have tb:=aOL (c:=d) l u (.inr rfl) k e S (by omega) (.inr (.inr rfl)) (aS5 l)
   rw[F] at j
   refine r _ (aTJ g (by unfold lA;rw[dS (aTD v),dS (aTE G),dS (aTF D),dS (aTG fs),dS (aTH s (AE (by decide)))];exact aTI)) (aNO j E B tb)
 .obtain ⟨p,ep,i,p2⟩:∃ p:Nat,1+v4 / 2 % 9=(p:Int)/\1<=p/\p<=100:=⟨(1+v4 / 2 % 9).toNat,by omega,by omega,by omega⟩
  obtain ⟨q,eq,f,C⟩:∃ q:Nat,1+v4 / 18 % 7=(q:Int)/\1<=q/\q<=100:=⟨(1+v4 / 18 % 7).toNat,by omega,by omega,by omega⟩
  obtain ⟨r6,U,_⟩:=sW H i
  obtain ⟨R,Z,_⟩:=sW J f
  obtain ⟨a,ea⟩:∃ a:Nat,(a:Int)=if v4 / 126 % 2=1 then H % (p:Int) else ((n % p:Nat):Int):=by
   split
   .exact ⟨r6,U.symm⟩
   .exact ⟨n % p,rfl⟩
  obtain ⟨b,W⟩:∃ b:Nat,(b:Int)=if v4 / 252 % 2=1 then J % (q:Int) else ((n % q:Nat):Int):=by
   split
   .exact ⟨R,Z.symm⟩
   .exact ⟨n % q,rfl⟩
  have D:=aQD (a:=a) (b:=b) i p2 f C e
  have fs:=aLK (a:=a) (n:=n) i f (by omega)
  have tb:=aUM (a:=a) (b:=b) (c:=d) i p2 f C k e S (by omega)
  have j:=aUL (a:=a) (b:=b) (c:=c) i p2 f C k e S (by omega)
  rw[aHI i p2 f C k e S] at j
  rw[F] at tb j
  exact r _ (aVI g (by unfold lB;rw[dS (aVA ep eq),dS aVB,dS (aVC i f),dS (aVD i c6 ea),dS (aVE f Y W),dS (aVF D),dS (aVG fs)];exact aVH i f)) (aNO j E B tb)
end Mc
namespace L2
open PySem.Spec PyProof.Rows
theorem xQ{K:Frag}{C:Az}(a:PySem.W.nsIn K cStatics "thirdparty.any"=some none)(b:PySem.W.typeIn K (.ref C)=some (.type "type"))(c:PySem.W.findIn K (.type "type") "__getattribute__"=some (some (.builtin "type.__getattribute__")))(d:PySem.W.subIn K (.type "type") (.type "type")=some true):PySem.W.readsIn K C (.type "type")=true:=by
 unfold PySem.W.readsIn
 rw[a,b,c,d]
 rfl
theorem aJB{K:Frag}{C f:Az}{g:V9}(a:PySem.W.findIn K (.type "type") "__init__"=some (some (.builtin "type.__init__")))(b:PySem.W.specialIn K (.builtin "type.__init__") "__get__"=some (some g))(c:PySem.W.takesIn K (.builtin "type.__init__")=some false)
  (d:PySem.W.findIn K (.ref C) "__init__"=some (some (.ref f))) (e:PySem.W.typeIn K (.ref f)=some (.type "function")):PySem.W.findCls K (.ref C) (.type "type") "__init__"=some (.val (.ref f)):=by
 unfold PySem.W.findCls
 rw[a]
 simp only[CD,b,c,d]
 rw[AE (by intro z;cases z),e]
 rfl
end L2
namespace Mc
open L2 PyProof.Rows Fl
section
variable{P:P9}{w:W9}{K:Frag}{mg:Str->O6 V9}{base:Hz}{TH:Hp}
theorem aA7:FnScope ["self","place","room"] ["self","place","room"] (aN (aS (top 12) 0)):=by constructor<;>first|rfl|decide +kernel
theorem m8{f:Az}{fd:FuncData}(F:Fun K "__init__" "Ending.__init__" (aS (top 12) 0) f fd):FnOk P w K mg base CX0 1 f fd ["self","place","room"] (spB K ["place","room"]):=by
 refine F.ok aA7 (fun vs H Q E h=>?_) (fun j A e s H vs Q E l h=>?_)
 .obtain ⟨x,C,dx,d,rfl,c,_⟩:=h
  rw[AG,c];rfl
 .obtain ⟨x,C,dx,d,rfl,c,k,g,i,q⟩:=h
  obtain ⟨b,a,rfl⟩:∃ b a,d=[b,a]:=match d,c with|[b,a],_=>⟨b,a,rfl⟩
  refine ⟨_,L2.aG (qE (pv 0) (pv 1) rfl) (L2.aO (qE (pv 0) (pv 2) rfl)),?_⟩
  refine ⟨_,rfl,_,rfl,x,C,dx,_,rfl,k,g,i _ (by decide),(show (0:Nat) < 1000 by decide),?_⟩
  refine ⟨_,rfl,_,rfl,x,C,dx,_,rfl,bQ,g,i _ (by decide),(show (1:Nat) < 1000 by decide),?_⟩
  rw[L2.mO];exact q
theorem aCK:FnScope ["self","place","room","borders"] ["self","place","room","borders"] (aN (aS (top 13) 0)):=by constructor<;>first|rfl|decide +kernel
theorem aCL{f C CE m:Az}{fd b:FuncData}(F:Fun K "__init__" "LetBy.__init__" (aS (top 13) 0) f fd)(n:FnOk P w K mg base CX0 1 m b ["self","place","room"] (spB K ["place","room"]))(o:fY K b ["self","place","room"] [])(r:ClsM K CE "__init__" m)(p:mg "Ending"=some (.ref CE))(j:Cls K C)(l:∀ f∈(["place","room","borders"]:List Str),eG K C f):FnOk P w K mg base CX0 2 f fd ["self","place","room","borders"] (spO C ["place","room","borders"]):=by
 refine F.ok aCK (fun vs H Q E h=>?_) (fun u A e s H vs Q E y h=>?_)
 .obtain ⟨x,dx,i,rfl,g,_⟩:=h
  rw[AG,g];rfl
 .obtain ⟨x,dx,i,rfl,g,t,q⟩:=h
  obtain ⟨c,a,d,rfl⟩:∃ c a d,i=[c,a,d]:=match i,g with|[c,a,d],_=>⟨c,a,d,rfl⟩
  refine ⟨_,L2.aG (L2.dP (aAP (iS (v:=.ref CE) rfl p rfl) r n y o .nil aCS (aK (pv 0) (aK (pv 1) (aK (pv 2) aR))))) (L2.aO (qE (pv 0) (pv 3) rfl)),?_⟩
  refine ⟨rfl,_,rfl,_,rfl,_,rfl,x,C,dx,[c,a],rfl,rfl,t,j,fun f k=>l f (by simp only[AY,BH,CF] at k ⊢;rcases k with h|h<;>simp[h]),?_⟩
  refine ⟨_,rfl,_,rfl,x,C,dx,_,rfl,bQ,j,l _ (by decide),(show (2:Nat) < 1000 by decide),?_⟩
  rw[L2.mO];exact q
def p5(K:Frag)(mg:Str->O6 V9):Prop:=∃ CE fE fdE C fI fdI,mg "Ending"=some (.ref CE)/\ClsM K CE "__init__" fE/\Fun K "__init__" "Ending.__init__" (aS (top 12) 0) fE fdE/\fY K fdE ["self","place","room"] []/\mg "LetBy"=some (.ref C)/\Cls K C/\(∀ f∈(["place","room","borders"]:List Str),eG K C f)/\Mk K C fI/\Fun K "__init__" "LetBy.__init__" (aS (top 13) 0) fI fdI/\fY K fdI ["self","place","room","borders"] []
theorem aF4(h:p5 K mg):∃ C,MkAt P w K mg base 2 "LetBy" ["place","room","borders"] C:=by
 obtain ⟨CE,n,f,C,d,a,i,g,b,e,j,c,k,M,m,l⟩:=h
 exact ⟨C,j,d,a,M,aCL m (m8 b) e g i c k,l⟩
theorem zJ:FnScope ["self","place","room","borders"] ["self","place","room","borders"] (aN (aS (top 14) 0)):=by constructor<;>first|rfl|decide +kernel
theorem zK{f C CE m:Az}{fd b:FuncData}(F:Fun K "__init__" "ShutOut.__init__" (aS (top 14) 0) f fd)(n:FnOk P w K mg base CX0 1 m b ["self","place","room"] (spB K ["place","room"]))(o:fY K b ["self","place","room"] [])(r:ClsM K CE "__init__" m)(p:mg "Ending"=some (.ref CE))(j:Cls K C)(l:∀ f∈(["place","room","borders"]:List Str),eG K C f):FnOk P w K mg base CX0 2 f fd ["self","place","room","borders"] (spO C ["place","room","borders"]):=by
 refine F.ok zJ (fun vs H Q E h=>?_) (fun u A e s H vs Q E y h=>?_)
 .obtain ⟨x,dx,i,rfl,g,_⟩:=h
  rw[AG,g];rfl
 .obtain ⟨x,dx,i,rfl,g,t,q⟩:=h
  obtain ⟨c,a,d,rfl⟩:∃ c a d,i=[c,a,d]:=match i,g with|[c,a,d],_=>⟨c,a,d,rfl⟩
  refine ⟨_,L2.aG (L2.dP (aAP (iS (v:=.ref CE) rfl p rfl) r n y o .nil aCS (aK (pv 0) (aK (pv 1) (aK (pv 2) aR))))) (L2.aO (qE (pv 0) (pv 3) rfl)),?_⟩
  refine ⟨rfl,_,rfl,_,rfl,_,rfl,x,C,dx,[c,a],rfl,rfl,t,j,fun f k=>l f (by simp only[AY,BH,CF] at k ⊢;rcases k with h|h<;>simp[h]),?_⟩
  refine ⟨_,rfl,_,rfl,x,C,dx,_,rfl,bQ,j,l _ (by decide),(show (2:Nat) < 1000 by decide),?_⟩
  rw[L2.mO];exact q
def nL(K:Frag)(mg:Str->O6 V9):Prop:=∃ CE fE fdE C fI fdI,mg "Ending"=some (.ref CE)/\ClsM K CE "__init__" fE/\Fun K "__init__" "Ending.__init__" (aS (top 12) 0) fE fdE/\fY K fdE ["self","place","room"] []/\mg "ShutOut"=some (.ref C)/\Cls K C/\(∀ f∈(["place","room","borders"]:List Str),eG K C f)/\Mk K C fI/\Fun K "__init__" "ShutOut.__init__" (aS (top 14) 0) fI fdI/\fY K fdI ["self","place","room","borders"] []
theorem aCM(h:nL K mg):∃ C,MkAt P w K mg base 2 "ShutOut" ["place","room","borders"] C:=by
 obtain ⟨CE,n,f,C,d,a,i,g,b,e,j,c,k,M,m,l⟩:=h
 exact ⟨C,j,d,a,M,zK m (m8 b) e g i c k,l⟩
theorem zL:FnScope ["self","place","room","first","again"] ["self","place","room","first","again"] (aN (aS (top 15) 0)):=by constructor<;>first|rfl|decide +kernel
theorem zM{f C CE n:Az}{fd b:FuncData}(F:Fun K "__init__" "ForEver.__init__" (aS (top 15) 0) f fd)(o:FnOk P w K mg base CX0 1 n b ["self","place","room"] (spB K ["place","room"]))(p:fY K b ["self","place","room"] [])(t:ClsM K CE "__init__" n)(r:mg "Ending"=some (.ref CE))(g:Cls K C)(i:∀ f∈(["place","room","first","again"]:List Str),eG K C f):FnOk P w K mg base CX0 2 f fd ["self","place","room","first","again"] (spO C ["place","room","first","again"]):=by
 refine F.ok zL (fun vs H Q E h=>?_) (fun y A j s H vs Q E z h=>?_)
 .obtain ⟨x,dx,l,rfl,k,_⟩:=h
  rw[AG,k];rfl
 .obtain ⟨x,dx,l,rfl,k,u,q⟩:=h
  obtain ⟨c,a,e,d,rfl⟩:∃ c a e d,l=[c,a,e,d]:=match l,k with|[c,a,e,d],_=>⟨c,a,e,d,rfl⟩
  refine ⟨_,L2.aG (L2.dP (aAP (iS (v:=.ref CE) rfl r rfl) t o z p .nil aCS (aK (pv 0) (aK (pv 1) (aK (pv 2) aR))))) (L2.aG (qE (pv 0) (pv 3) rfl) (L2.aO (qE (pv 0) (pv 4) rfl))),?_⟩
  refine ⟨rfl,_,rfl,_,rfl,_,rfl,x,C,dx,[c,a],rfl,rfl,u,g,fun f m=>i f (by simp only[AY,BH,CF] at m ⊢;rcases m with h|h<;>simp[h]),?_⟩
  refine ⟨_,rfl,_,rfl,x,C,dx,_,rfl,bQ,g,i _ (by decide),(show (2:Nat) < 1000 by decide),?_⟩
  refine ⟨_,rfl,_,rfl,x,C,dx,_,rfl,bQ,g,i _ (by decide),(show (3:Nat) < 1000 by decide),?_⟩
  rw[L2.mO,L2.mO];exact q
def nM(K:Frag)(mg:Str->O6 V9):Prop:=∃ CE fE fdE C fI fdI,mg "Ending"=some (.ref CE)/\ClsM K CE "__init__" fE/\Fun K "__init__" "Ending.__init__" (aS (top 12) 0) fE fdE/\fY K fdE ["self","place","room"] []/\mg "ForEver"=some (.ref C)/\Cls K C/\(∀ f∈(["place","room","first","again"]:List Str),eG K C f)/\Mk K C fI/\Fun K "__init__" "ForEver.__init__" (aS (top 15) 0) fI fdI/\fY K fdI ["self","place","room","first","again"] []
theorem aCN(h:nM K mg):∃ C,MkAt P w K mg base 2 "ForEver" ["place","room","first","again"] C:=by
 obtain ⟨CE,n,f,C,d,a,i,g,b,e,j,c,k,M,m,l⟩:=h
 exact ⟨C,j,d,a,M,zM m (m8 b) e g i c k,l⟩
def MtK(K:Frag)(mg:Str->O6 V9)(c m q:Str)(st:Stmt):Prop:=∃ C f fd,mg c=some (.ref C)/\Cls K C/\Meth K C m f/\Fun K m q st f fd/\fY K fd ["self"] []
theorem aQQ(T:Txt w K mg)(Ob_LetBy:p5 K mg)(Ob_ShutOut:nL K mg)(Ob_ForEver:nM K mg)(D:jA K mg ["ForEver"] "first")(A:jA K mg ["ForEver"] "again")(J:jA K mg ["LetBy","ShutOut","ForEver"] "room")(z:jA K mg ["LetBy","ShutOut","ForEver"] "place")(k:jA K mg ["LetBy","ShutOut"] "borders")(Mt_LetBy_stops:MtK K mg "LetBy" "stops" "LetBy.stops" (aS (top 13) 2))(Mt_ShutOut_stops:MtK K mg "ShutOut" "stops" "ShutOut.stops" (aS (top 14) 2))(Mt_ForEver_stops:MtK K mg "ForEver" "stops" "ForEver.stops" (aS (top 15) 2))(Mt_LetBy_paper:MtK K mg "LetBy" "paper" "LetBy.paper" (aS (top 13) 3))(Mt_ShutOut_paper:MtK K mg "ShutOut" "paper" "ShutOut.paper" (aS (top 14) 3))(Mt_ForEver_paper:MtK K mg "ForEver" "paper" "ForEver.paper" (aS (top 15) 3))(Mt_LetBy_says:MtK K mg "LetBy" "says" "LetBy.says" (aS (top 13) 1))(Mt_ShutOut_says:MtK K mg "ShutOut" "says" "ShutOut.says" (aS (top 14) 1))(Mt_ForEver_says:MtK K mg "ForEver" "says" "ForEver.says" (aS (top 15) 1))(D6:DefAt K mg "signs_of" (top 6) ["machine"])(D7:DefAt K mg "cells_of" (top 7) ["machine","number"])(D8:DefAt K mg "checked_by" (top 8) ["signs","strip"])(D9:DefAt K mg "checked" (top 9) ["machine","strip"])(ax:DefAt K mg "cell_at" (top 16) ["machine","strip","stand"])(ac:DefAt K mg "path" (top 17) ["machine","strip"])(bn:DefAt K mg "borders_of" (top 18) ["stands","strip"])(am:DefAt K mg "walk" (top 19) ["machine","strip"])(ad:DefAt K mg "is_word" (top 21) ["part"])(ba:DefAt K mg "without_signs" (top 22) ["machine"])(ak:DefAt K mg "gone_on" (top 23) ["backs","cells","room"])(ag:DefAt K mg "longer" (top 24) ["begun","cells"])(ai:DefAt K mg "beginning" (top 25) ["machine","strip"])(be:DefAt K mg "stand_at" (top 27) ["stands","ending","number"])(aw:DefAt K mg "goes_round" (top 28) ["machine","strip","ending","paper"])(ah:DefAt K mg "holds" (top 29) ["machine","strip","paper"])(aq:DefAt K mg "still" (top 31) ["rooms"])(bc:DefAt K mg "sign_table" (top 32) ["machine","sign"])(ap:DefAt K mg "gone_out" (top 33) ["one","other","thing","inward"])(az:DefAt K mg "behind" (top 34) ["one","other"])(bf:DefAt K mg "table_of" (top 35) ["machine","strip"])(bh:DefAt K mg "said" (top 36) ["machine","table"])(bi:DefAt K mg "_law_cell" (top 38) ["_law_script","_law_k"])(ay:DefAt K mg "_law_strip" (top 39) ["_law_script","_law_at","_law_size","_law_signs"])(bd:DefAt K mg "_law_sweeper" (top 40) ["_law_p","_law_q","_law_a","_law_b","_law_signs"])(bg:DefAt K mg "_law_pendulum" (top 41) ["_law_times","_law_signs","_law_last"])(al:DefAt K mg "_law_swept" (top 42) ["_law_times","_law_size","_law_last"])(ao:DefAt K mg "_law_counted" (top 43) ["_law_p","_law_q","_law_a","_law_size"])(av:DefAt K mg "_law_after" (top 44) ["_law_counts","_law_room","_law_steps"])(af:DefAt K mg "_law_due_table" (top 45) ["_law_machine","_law_counts","_law_size"])(bj:DefAt K mg "_law_due_beginning" (top 46) ["_law_machine","_law_counts","_law_size"])(aj:DefAt K mg "_law_crossing" (top 47) ["_law_stands","_law_border"])(au:DefAt K mg "_law_walked" (top 48) ["_law_machine","_law_strip_here","_law_stands","_law_word","_law_border"])(ae:DefAt K mg "_law_tabled" (top 49) ["_law_machine","_law_strip_here","_law_counts","_law_word","_law_cut"]){fL:Az}{aa:FuncData}(FL:Fun K "law" "law" (top 50) fL aa):FnOk P w K mg base (CXe P w) 7 fL aa ["_law_script"] (aCY K TH):=by
 obtain ⟨Co_LetBy,V⟩:=aF4 (P:=P) (w:=w) (base:=base) Ob_LetBy
 obtain ⟨Co_ShutOut,I⟩:=aCM (P:=P) (w:=w) (base:=base) Ob_ShutOut
 obtain ⟨Co_ForEver,L⟩:=aCN (P:=P) (w:=w) (base:=base) Ob_ForEver
 have mt_stops:∀ p∈[(("LetBy":Str),j3),(("ShutOut":Str),iZ),(("ForEver":Str),i5)],sN P w K mg base TH 1 p.1 "stops" p.2:=by
  intro p hp
  simp only[AY,BH,CF] at hp
  rcases hp with rfl|rfl|rfl
  .obtain ⟨C,f,fd,h1,h2,H,Q,O⟩:=Mt_LetBy_stops
   exact ⟨C,f,fd,h1,h2,H,yS T Q ,O⟩
  .obtain ⟨C,f,fd,h1,h2,H,Q,O⟩:=Mt_ShutOut_stops
   exact ⟨C,f,fd,h1,h2,H,v9 T Q ,O⟩
  .obtain ⟨C,f,fd,h1,h2,H,Q,O⟩:=Mt_ForEver_stops
   exact ⟨C,f,fd,h1,h2,H,wB T Q ,O⟩
 have mt_paper:∀ p∈[(("LetBy":Str),hV),(("ShutOut":Str),f7),(("ForEver":Str),f8)],sN P w K mg base TH 1 p.1 "paper" p.2:=by
  intro p hp
  simp only[AY,BH,CF] at hp
  rcases hp with rfl|rfl|rfl
  .obtain ⟨C,f,fd,h1,h2,H,Q,O⟩:=Mt_LetBy_paper
   exact ⟨C,f,fd,h1,h2,H,yT T Q k,O⟩
  .obtain ⟨C,f,fd,h1,h2,H,Q,O⟩:=Mt_ShutOut_paper
   exact ⟨C,f,fd,h1,h2,H,wA T Q k,O⟩
  .obtain ⟨C,f,fd,h1,h2,H,Q,O⟩:=Mt_ForEver_paper
   exact ⟨C,f,fd,h1,h2,H,wC T Q A D J z,O⟩
 have mt_says:∀ p∈[(("LetBy":Str),kU),(("ShutOut":Str),jJ),(("ForEver":Str),jK)],sN P w K mg base TH 1 p.1 "says" p.2:=by
  intro p hp
  simp only[AY,BH,CF] at hp
  rcases hp with rfl|rfl|rfl
  .obtain ⟨C,f,fd,h1,h2,H,Q,O⟩:=Mt_LetBy_says
   exact ⟨C,f,fd,h1,h2,H,aAT T Q ,O⟩
  .obtain ⟨C,f,fd,h1,h2,H,Q,O⟩:=Mt_ShutOut_says
   exact ⟨C,f,fd,h1,h2,H,xG T Q ,O⟩
  .obtain ⟨C,f,fd,h1,h2,H,Q,O⟩:=Mt_ForEver_says
   exact ⟨C,f,fd,h1,h2,H,xH T Q ,O⟩
 have c:=@aFY P w K mg base TH T D6
 have l:=@aFZ P w K mg base TH T D7
 have v:=@aCD P w K mg base TH T D8
 have a:=@aI2 P w K mg base TH T D9 v c
 have r:=@aI3 P w K mg base TH T ax
 have F:=@aP5 P w K mg base TH T ac a r
 have x:=@aCE P w K mg base TH T bn
 have U:=aP6 (P:=P) (w:=w) (base:=base) (TH:=TH) T am F r x V I L
 have S:=@aI4 P w K mg base TH T ad
 have j:=@xI P w K mg base TH T ba
 have R:=@aI5 P w K mg base TH T ak S
 have W:=@aK6 P w K mg base TH T ag R
 have E:=@aE5 P w K mg base TH T ai a c l j W
 have N:=@aF0 P w K mg base TH T be D A
 have s:=@aCF P w K mg base TH T aw F N
 have X:=@aNF P w K mg base TH T ah U s mt_stops mt_paper
 have Y:=@aNG P w K mg base TH T aq
 have y:=@aCG P w K mg base TH T bc a l
 have M:=@aF1 P w K mg base TH T ap
 have B:=@aK7 P w K mg base TH T az M
 have G:=@aF2 P w K mg base TH T bf a c y Y B
 have Z:=@aP7 P w K mg base TH T bh
 have e:=@aE8 P w K mg base TH T bi
 have u:=@aCH P w K mg base TH T ay e
 have n:=@yY P w K mg base TH T bd
 have h:=@xJ P w K mg base TH T bg
 have t:=@aCI P w K mg base TH T al
 have m:=@yZ P w K mg base TH T ao
 have d:=@aCJ P w K mg base TH T av
 have g:=@wD P w K mg base TH T af d
 have b:=@qY P w K mg base TH T bj d
 have i:=@xK P w K mg base TH T aj
 have q:=@aAU P w K mg base TH T au U F X i J z mt_says mt_paper
 have o:=@aAV P w K mg base TH T ae g G B Z E b
 exact aR0 (aSL (P:=P) (w:=w) (base:=base) (TH:=TH) T FL e u h t n m q o) aNP
end
section
variable{w:W9}{K:Frag}{h:Hz}{mg:Str->O6 V9}
theorem aTK(X:K.In h)(G:h.Ns mainGlobals mg){a:Az}{c:Nat}{b:Az}(z_enumerate:PySem.W.nsIn K mainGlobals "enumerate"=some none)(z_int:PySem.W.nsIn K mainGlobals "int"=some none)(z_isinstance:PySem.W.nsIn K mainGlobals "isinstance"=some none)(z_len:PySem.W.nsIn K mainGlobals "len"=some none)(z_min:PySem.W.nsIn K mainGlobals "min"=some none)(z_range:PySem.W.nsIn K mainGlobals "range"=some none)(z_str:PySem.W.nsIn K mainGlobals "str"=some none)(z_tuple:PySem.W.nsIn K mainGlobals "tuple"=some none)(z_zip:PySem.W.nsIn K mainGlobals "zip"=some none)(s_BEGIN:PySem.W.nsIn K mainGlobals "BEGIN"=some (some (.ref a)))(m_BEGIN:rH K a [.int 0,.int 0])(s_SIGNS:PySem.W.nsIn K mainGlobals "SIGNS"=some (some (.str "abc" c)))(s_STOPS:PySem.W.nsIn K mainGlobals "STOPS"=some (some (.ref b)))(m_STOPS:rH K b [.str "by",.str "out"]):Txt w K mg:=⟨CQ X G z_enumerate,CQ X G z_int,CQ X G z_isinstance,CQ X G z_len,CQ X G z_min,CQ X G z_range,CQ X G z_str,CQ X G z_tuple,CQ X G z_zip,⟨a,CK X G s_BEGIN,m_BEGIN⟩,⟨c,CK X G s_SIGNS⟩,⟨b,CK X G s_STOPS,m_STOPS⟩⟩
theorem aF5(X:K.In h)(G:h.Ns mainGlobals mg){CE C:Az}{g:V9}{b:Az}{w:V9}{n r:O6 Az}{k:Array (O6 V9)}{u i s a l:V9}{d:Az}{p:V9}{t m:O6 Az}{e:Array (O6 V9)}{o j v c q:V9}(m1:PySem.W.nsIn K mainGlobals "Ending"=some (some (.ref CE)))(s1:PySem.W.specialIn K (.ref CE) "__getattribute__"=some (some (.builtin "type.__getattribute__")))
  (r1:PySem.W.nsIn K cStatics "thirdparty.any"=some none) (r2:PySem.W.typeIn K (.ref CE)=some (.type "type")) (r3:PySem.W.findIn K (.type "type") "__getattribute__"=some (some (.builtin "type.__getattribute__"))) (r4:PySem.W.subIn K (.type "type") (.type "type")=some true)
  (q1:PySem.W.findIn K (.type "type") "__init__"=some (some (.builtin "type.__init__"))) (q2:PySem.W.specialIn K (.builtin "type.__init__") "__get__"=some (some g)) (q3:PySem.W.takesIn K (.builtin "type.__init__")=some false) (q4:PySem.W.findIn K (.ref CE) "__init__"=some (some (.ref b))) (q5:PySem.W.typeIn K (.ref b)=some (.type "function"))
  (e_l:K.lookup b=some ⟨w,n,.func (PySem.W.fnOf "__init__" "Ending.__init__" (gJ (aS (top 12) 0)) (dX (aS (top 12) 0)) (aN (aS (top 12) 0)) .none u i s r a l),k⟩) (e_c:PySem.W.codeIn K a "Ending.__init__"=true) (e_k:PySem.W.keepIn K (.ref b)=true)
  (m2:PySem.W.nsIn K mainGlobals "LetBy"=some (some (.ref C))) (p1:PySem.W.plainGet K C Str.empty=true) (p2:PySem.W.hasDictIn K C=true) (p3:PySem.W.plainOver K C=true) (p4:PySem.W.findIn K (.ref C) "__setattr__"=some (some (.builtin "object.__setattr__")))
  (n0:PySem.W.findIn K (.ref C) "place"=some none) (n1:PySem.W.findIn K (.ref C) "room"=some none) (n2:PySem.W.findIn K (.ref C) "borders"=some none) (k1:PySem.W.makesIn K C=true) (k2:PySem.W.findIn K (.ref C) "__init__"=some (some (.ref d))) (k3:PySem.W.isFn K (.ref d)=true) (k4:PySem.W.keepIn K (.ref C)=true)
  (i_l:K.lookup d=some ⟨p,t,.func (PySem.W.fnOf "__init__" "LetBy.__init__" (gJ (aS (top 13) 0)) (dX (aS (top 13) 0)) (aN (aS (top 13) 0)) .none o j v m c q),e⟩) (i_c:PySem.W.codeIn K c "LetBy.__init__"=true) (i_k:PySem.W.keepIn K (.ref d)=true):p5 K mg:=by
 have x:=l9 (st:=(aS (top 12) 0)) e_l e_c e_k
 have z:=l9 (st:=(aS (top 13) 0)) i_l i_c i_k
 exact ⟨CE,b,_,C,d,_,CK X G m1,⟨s1,xQ r1 r2 r3 r4,aJB q1 q2 q3 q4 q5,e_k⟩,x,x.binds (ps:=["self","place","room"]) (fun _ _ _ _ _ _=>Mc.bn3 fun _ _ _=>rfl),CK X G m2,⟨p1,p2,p3,p4⟩,fun f y=>by
  simp only[AY,BH,CF] at y
  rcases y with rfl|rfl|rfl
  · exact n0
  · exact n1
  · exact n2, ⟨k1, k2, k3, k4⟩, z, z.binds (ps := ["self", "place", "room", "borders"]) (fun _ _ _ _ _ _ => Mc.bn4 fun _ _ _ _ => rfl)⟩
theorem aCO(X:K.In h)(G:h.Ns mainGlobals mg){CE C:Az}{g:V9}{b:Az}{w:V9}{n r:O6 Az}{k:Array (O6 V9)}{u i s a l:V9}{d:Az}{p:V9}{t m:O6 Az}{e:Array (O6 V9)}{o j v c q:V9}(m1:PySem.W.nsIn K mainGlobals "Ending"=some (some (.ref CE)))(s1:PySem.W.specialIn K (.ref CE) "__getattribute__"=some (some (.builtin "type.__getattribute__")))
  (r1:PySem.W.nsIn K cStatics "thirdparty.any"=some none) (r2:PySem.W.typeIn K (.ref CE)=some (.type "type")) (r3:PySem.W.findIn K (.type "type") "__getattribute__"=some (some (.builtin "type.__getattribute__"))) (r4:PySem.W.subIn K (.type "type") (.type "type")=some true)
  (q1:PySem.W.findIn K (.type "type") "__init__"=some (some (.builtin "type.__init__"))) (q2:PySem.W.specialIn K (.builtin "type.__init__") "__get__"=some (some g)) (q3:PySem.W.takesIn K (.builtin "type.__init__")=some false) (q4:PySem.W.findIn K (.ref CE) "__init__"=some (some (.ref b))) (q5:PySem.W.typeIn K (.ref b)=some (.type "function"))
  (e_l:K.lookup b=some ⟨w,n,.func (PySem.W.fnOf "__init__" "Ending.__init__" (gJ (aS (top 12) 0)) (dX (aS (top 12) 0)) (aN (aS (top 12) 0)) .none u i s r a l),k⟩) (e_c:PySem.W.codeIn K a "Ending.__init__"=true) (e_k:PySem.W.keepIn K (.ref b)=true)
  (m2:PySem.W.nsIn K mainGlobals "ShutOut"=some (some (.ref C))) (p1:PySem.W.plainGet K C Str.empty=true) (p2:PySem.W.hasDictIn K C=true) (p3:PySem.W.plainOver K C=true) (p4:PySem.W.findIn K (.ref C) "__setattr__"=some (some (.builtin "object.__setattr__")))
  (n0:PySem.W.findIn K (.ref C) "place"=some none) (n1:PySem.W.findIn K (.ref C) "room"=some none) (n2:PySem.W.findIn K (.ref C) "borders"=some none) (k1:PySem.W.makesIn K C=true) (k2:PySem.W.findIn K (.ref C) "__init__"=some (some (.ref d))) (k3:PySem.W.isFn K (.ref d)=true) (k4:PySem.W.keepIn K (.ref C)=true)
  (i_l:K.lookup d=some ⟨p,t,.func (PySem.W.fnOf "__init__" "ShutOut.__init__" (gJ (aS (top 14) 0)) (dX (aS (top 14) 0)) (aN (aS (top 14) 0)) .none o j v m c q),e⟩) (i_c:PySem.W.codeIn K c "ShutOut.__init__"=true) (i_k:PySem.W.keepIn K (.ref d)=true):nL K mg:=by
 have x:=l9 (st:=(aS (top 12) 0)) e_l e_c e_k
 have z:=l9 (st:=(aS (top 14) 0)) i_l i_c i_k
 exact ⟨CE,b,_,C,d,_,CK X G m1,⟨s1,xQ r1 r2 r3 r4,aJB q1 q2 q3 q4 q5,e_k⟩,x,x.binds (ps:=["self","place","room"]) (fun _ _ _ _ _ _=>Mc.bn3 fun _ _ _=>rfl),CK X G m2,⟨p1,p2,p3,p4⟩,fun f y=>by
  simp only[AY,BH,CF] at y
  rcases y with rfl|rfl|rfl
  · exact n0
  · exact n1
  · exact n2, ⟨k1, k2, k3, k4⟩, z, z.binds (ps := ["self", "place", "room", "borders"]) (fun _ _ _ _ _ _ => Mc.bn4 fun _ _ _ _ => rfl)⟩
theorem aCP(X:K.In h)(G:h.Ns mainGlobals mg){CE C:Az}{g:V9}{b:Az}{w:V9}{n r:O6 Az}{k:Array (O6 V9)}{u i s a l:V9}{d:Az}{p:V9}{t m:O6 Az}{e:Array (O6 V9)}{o j v c q:V9}(m1:PySem.W.nsIn K mainGlobals "Ending"=some (some (.ref CE)))(s1:PySem.W.specialIn K (.ref CE) "__getattribute__"=some (some (.builtin "type.__getattribute__")))
  (r1:PySem.W.nsIn K cStatics "thirdparty.any"=some none) (r2:PySem.W.typeIn K (.ref CE)=some (.type "type")) (r3:PySem.W.findIn K (.type "type") "__getattribute__"=some (some (.builtin "type.__getattribute__"))) (r4:PySem.W.subIn K (.type "type") (.type "type")=some true)
  (q1:PySem.W.findIn K (.type "type") "__init__"=some (some (.builtin "type.__init__"))) (q2:PySem.W.specialIn K (.builtin "type.__init__") "__get__"=some (some g)) (q3:PySem.W.takesIn K (.builtin "type.__init__")=some false) (q4:PySem.W.findIn K (.ref CE) "__init__"=some (some (.ref b))) (q5:PySem.W.typeIn K (.ref b)=some (.type "function"))
  (e_l:K.lookup b=some ⟨w,n,.func (PySem.W.fnOf "__init__" "Ending.__init__" (gJ (aS (top 12) 0)) (dX (aS (top 12) 0)) (aN (aS (top 12) 0)) .none u i s r a l),k⟩) (e_c:PySem.W.codeIn K a "Ending.__init__"=true) (e_k:PySem.W.keepIn K (.ref b)=true)
  (m2:PySem.W.nsIn K mainGlobals "ForEver"=some (some (.ref C))) (p1:PySem.W.plainGet K C Str.empty=true) (p2:PySem.W.hasDictIn K C=true) (p3:PySem.W.plainOver K C=true) (p4:PySem.W.findIn K (.ref C) "__setattr__"=some (some (.builtin "object.__setattr__")))
  (n0:PySem.W.findIn K (.ref C) "place"=some none) (n1:PySem.W.findIn K (.ref C) "room"=some none) (n2:PySem.W.findIn K (.ref C) "first"=some none) (n3:PySem.W.findIn K (.ref C) "again"=some none) (k1:PySem.W.makesIn K C=true) (k2:PySem.W.findIn K (.ref C) "__init__"=some (some (.ref d))) (k3:PySem.W.isFn K (.ref d)=true) (k4:PySem.W.keepIn K (.ref C)=true)
  (i_l:K.lookup d=some ⟨p,t,.func (PySem.W.fnOf "__init__" "ForEver.__init__" (gJ (aS (top 15) 0)) (dX (aS (top 15) 0)) (aN (aS (top 15) 0)) .none o j v m c q),e⟩) (i_c:PySem.W.codeIn K c "ForEver.__init__"=true) (i_k:PySem.W.keepIn K (.ref d)=true):nM K mg:=by
 have x:=l9 (st:=(aS (top 12) 0)) e_l e_c e_k
 have z:=l9 (st:=(aS (top 15) 0)) i_l i_c i_k
 exact ⟨CE,b,_,C,d,_,CK X G m1,⟨s1,xQ r1 r2 r3 r4,aJB q1 q2 q3 q4 q5,e_k⟩,x,x.binds (ps:=["self","place","room"]) (fun _ _ _ _ _ _=>Mc.bn3 fun _ _ _=>rfl),CK X G m2,⟨p1,p2,p3,p4⟩,fun f y=>by
  simp only[AY,BH,CF] at y
  rcases y with rfl|rfl|rfl|rfl
  · exact n0
  · exact n1
  · exact n2
  · exact n3, ⟨k1, k2, k3, k4⟩, z, z.binds (ps := ["self", "place", "room", "first", "again"]) (fun _ _ _ _ _ _ => Mc.bn5 fun _ _ _ _ _ => rfl)⟩
theorem oF{c m q:Str}{st:Stmt}(X:K.In h)(G:h.Ns mainGlobals mg){C:Az}{a:Az}{k:V9}{l n:O6 Az}{e:Array (O6 V9)}{g f j d i:V9}(m2:PySem.W.nsIn K mainGlobals c=some (some (.ref C)))(p1:PySem.W.plainGet K C Str.empty=true)(p2:PySem.W.hasDictIn K C=true)(p3:PySem.W.plainOver K C=true)(p4:PySem.W.findIn K (.ref C) "__setattr__"=some (some (.builtin "object.__setattr__")))
  (k2:PySem.W.findIn K (.ref C) m=some (some (.ref a))) (k3:PySem.W.isFn K (.ref a)=true) (m_l:K.lookup a=some ⟨k,l,.func (PySem.W.fnOf m q (gJ st) (dX st) (aN st) .none g f j n d i),e⟩) (m_c:PySem.W.codeIn K d q=true) (m_k:PySem.W.keepIn K (.ref a)=true)
  (b:∀ (kV doc pm:V9) (an:O6 Az) (cdv ct:V9) (us:List V9),us.length=1->bindArgs (PySem.W.fnOf m q (gJ st) (dX st) (aN st) .none kV doc pm an cdv ct) ⟨us,[]⟩=pure ((["self"]:List Str).zip us)):MtK K mg c m q st:=by
 have o:=l9 (st:=st) m_l m_c m_k
 exact ⟨C,a,_,CK X G m2,⟨p1,p2,p3,p4⟩,⟨k2,k3,m_k⟩,o,o.binds (ps:=["self"]) b⟩
theorem nN{c x:Str}(X:K.In h)(G:h.Ns mainGlobals mg){C:Az}(m2:PySem.W.nsIn K mainGlobals c=some (some (.ref C)))(p1:PySem.W.plainGet K C Str.empty=true)(p2:PySem.W.hasDictIn K C=true)(p3:PySem.W.plainOver K C=true)(p4:PySem.W.findIn K (.ref C) "__setattr__"=some (some (.builtin "object.__setattr__")))(n:PySem.W.findIn K (.ref C) x=some none):∃ C,mg c=some (.ref C)/\Cls K C/\eG K C x:=⟨C,CK X G m2,⟨p1,p2,p3,p4⟩,n⟩
theorem aTL{i f:Az}{m:V9}{od n:O6 Az}{d:Array (O6 V9)}{kV doc j b ct:V9}(X:K.In h)(G:h.Ns mainGlobals mg)(g:mg "law"=some (.ref i))(a:PySem.W.nsIn K mainGlobals "law"=some (some (.ref f)))(l:K.lookup f=some ⟨m,od,.func (PySem.W.fnOf "law" "law" (gJ (top 50)) (dX (top 50)) (aN (top 50)) .none kV doc j n b ct),d⟩)
  (c:PySem.W.codeIn K b "law"=true) (k:PySem.W.keepIn K (.ref f)=true):∃ fd,Fun K "law" "law" (top 50) i fd/\∀ (s:S9) (u:V9),BindsTo s fd ⟨[u],[]⟩ [("_law_script",u)]:=by
 have e:=g.symm.trans (CK X G a)
 cases e
 exact ⟨_,l9 (st:=top 50) l c k,fun s u=>.of_eq rfl⟩
end
end Mc
open PySem.W PyProof.Rows
set_option hygiene false
local macro_rules|`(tactic|trivial)=>`(tactic|(dsimp only[L2.KOf];refine' Mc.b6 d G ?a ?l ?c ?k ?b;(case a=>k_is);(case l=>k_is);(case c=>k_is);(case k=>k_is);first|(case b=>exact fun _ _ _ _ _ _=>Mc.bn1 fun _=>rfl)|(case b=>exact fun _ _ _ _ _ _=>Mc.bn2 fun _ _=>rfl)|(case b=>exact fun _ _ _ _ _ _=>Mc.bn3 fun _ _ _=>rfl)|(case b=>exact fun _ _ _ _ _ _=>Mc.bn4 fun _ _ _ _=>rfl)|(case b=>exact fun _ _ _ _ _ _=>Mc.bn5 fun _ _ _ _ _=>rfl)))
set_option hygiene true
set_option maxRecDepth 100000 in
set_option maxHeartbeats 0 in
theorem PySem.Challenge.cw_striproam_k46_whole_long_strips_holds : PySem.Challenge.rw_striproam_k46_whole_long_strips.Holds := by
 w_on;o_law;k_head;(case hw=>w_witness2)
 k_fill
 refine Fl.aR1 (l:=PySem.Challenge.rw_striproam_k46_whole_long_strips) (k:=7) (x:="_law_script") rfl rfl ⟨rfl,by decide,by decide⟩ (fun w h Y=>PySem.W.kIn_of Y) ?F
 case F=>
  intro w mg fa h d G I
  have D6:L2.DefAt (L2.KOf d) mg "signs_of" (Mc.top 6) ["machine"]:=by trivial
  have D7:L2.DefAt (L2.KOf d) mg "cells_of" (Mc.top 7) ["machine","number"]:=by trivial
  have D8:L2.DefAt (L2.KOf d) mg "checked_by" (Mc.top 8) ["signs","strip"]:=by trivial
  have D9:L2.DefAt (L2.KOf d) mg "checked" (Mc.top 9) ["machine","strip"]:=by trivial
  have N:L2.DefAt (L2.KOf d) mg "cell_at" (Mc.top 16) ["machine","strip","stand"]:=by trivial
  have o:L2.DefAt (L2.KOf d) mg "path" (Mc.top 17) ["machine","strip"]:=by trivial
  have ad:L2.DefAt (L2.KOf d) mg "borders_of" (Mc.top 18) ["stands","strip"]:=by trivial
  have D:L2.DefAt (L2.KOf d) mg "walk" (Mc.top 19) ["machine","strip"]:=by trivial
  have p:L2.DefAt (L2.KOf d) mg "is_word" (Mc.top 21) ["part"]:=by trivial
  have Q:L2.DefAt (L2.KOf d) mg "without_signs" (Mc.top 22) ["machine"]:=by trivial
  have A:L2.DefAt (L2.KOf d) mg "gone_on" (Mc.top 23) ["backs","cells","room"]:=by trivial
  have t:L2.DefAt (L2.KOf d) mg "longer" (Mc.top 24) ["begun","cells"]:=by trivial
  have y:L2.DefAt (L2.KOf d) mg "beginning" (Mc.top 25) ["machine","strip"]:=by trivial
  have U:L2.DefAt (L2.KOf d) mg "stand_at" (Mc.top 27) ["stands","ending","number"]:=by trivial
  have M:L2.DefAt (L2.KOf d) mg "goes_round" (Mc.top 28) ["machine","strip","ending","paper"]:=by trivial
  have v:L2.DefAt (L2.KOf d) mg "holds" (Mc.top 29) ["machine","strip","paper"]:=by trivial
  have J:L2.DefAt (L2.KOf d) mg "still" (Mc.top 31) ["rooms"]:=by trivial
  have R:L2.DefAt (L2.KOf d) mg "sign_table" (Mc.top 32) ["machine","sign"]:=by trivial
  have H:L2.DefAt (L2.KOf d) mg "gone_out" (Mc.top 33) ["one","other","thing","inward"]:=by trivial
  have P:L2.DefAt (L2.KOf d) mg "behind" (Mc.top 34) ["one","other"]:=by trivial
  have V:L2.DefAt (L2.KOf d) mg "table_of" (Mc.top 35) ["machine","strip"]:=by trivial
  have Z:L2.DefAt (L2.KOf d) mg "said" (Mc.top 36) ["machine","table"]:=by trivial
  have aa:L2.DefAt (L2.KOf d) mg "_law_cell" (Mc.top 38) ["_law_script","_law_k"]:=by trivial
  have O:L2.DefAt (L2.KOf d) mg "_law_strip" (Mc.top 39) ["_law_script","_law_at","_law_size","_law_signs"]:=by trivial
  have S:L2.DefAt (L2.KOf d) mg "_law_sweeper" (Mc.top 40) ["_law_p","_law_q","_law_a","_law_b","_law_signs"]:=by trivial
  have X:L2.DefAt (L2.KOf d) mg "_law_pendulum" (Mc.top 41) ["_law_times","_law_signs","_law_last"]:=by trivial
  have B:L2.DefAt (L2.KOf d) mg "_law_swept" (Mc.top 42) ["_law_times","_law_size","_law_last"]:=by trivial
  have E:L2.DefAt (L2.KOf d) mg "_law_counted" (Mc.top 43) ["_law_p","_law_q","_law_a","_law_size"]:=by trivial
  have L:L2.DefAt (L2.KOf d) mg "_law_after" (Mc.top 44) ["_law_counts","_law_room","_law_steps"]:=by trivial
  have r:L2.DefAt (L2.KOf d) mg "_law_due_table" (Mc.top 45) ["_law_machine","_law_counts","_law_size"]:=by trivial
  have ac:L2.DefAt (L2.KOf d) mg "_law_due_beginning" (Mc.top 46) ["_law_machine","_law_counts","_law_size"]:=by trivial
  have z:L2.DefAt (L2.KOf d) mg "_law_crossing" (Mc.top 47) ["_law_stands","_law_border"]:=by trivial
  have K:L2.DefAt (L2.KOf d) mg "_law_walked" (Mc.top 48) ["_law_machine","_law_strip_here","_law_stands","_law_word","_law_border"]:=by trivial
  have q:L2.DefAt (L2.KOf d) mg "_law_tabled" (Mc.top 49) ["_law_machine","_law_strip_here","_law_counts","_law_word","_law_cut"]:=by trivial
  have T:Mc.Txt w (L2.KOf d) mg:=by
   dsimp only[L2.KOf]
   refine' Mc.aTK d G ?z_enumerate ?z_int ?z_isinstance ?z_len ?z_min ?z_range ?z_str ?z_tuple ?z_zip ?s_BEGIN (Mc.aRQ ?m_BEGIN) ?s_SIGNS ?s_STOPS (Mc.aRP ?m_STOPS)
   (case z_enumerate=>k_is);(case z_int=>k_is);(case z_isinstance=>k_is);(case z_len=>k_is);(case z_min=>k_is);(case z_range=>k_is);(case z_str=>k_is);(case z_tuple=>k_is);(case z_zip=>k_is);(case s_BEGIN=>k_is);(case m_BEGIN=>k_is);(case s_SIGNS=>k_is);(case s_STOPS=>k_is);(case m_STOPS=>k_is)
  have Ob_LetBy:Mc.p5 (L2.KOf d) mg:=by
   dsimp only[L2.KOf]
   refine' Mc.aF5 d G ?m1 ?s1 ?r1 ?r2 ?r3 ?r4 ?q1 ?q2 ?q3 ?q4 ?q5 ?e_l ?e_c ?e_k ?m2 ?p1 ?p2 ?p3 ?p4 ?n0 ?n1 ?n2 ?k1 ?k2 ?k3 ?k4 ?i_l ?i_c ?i_k
   (case m1=>k_is);(case m2=>k_is);(case q4=>k_is);(case k2=>k_is);(case e_l=>k_is);(case i_l=>k_is);(case s1=>k_is);(case r1=>k_is);(case r2=>k_is);(case r3=>k_is);(case r4=>k_is);(case q1=>k_is);(case q2=>k_is);(case q3=>k_is);(case q5=>k_is);(case e_c=>k_is);(case e_k=>k_is);(case p1=>k_is);(case p2=>k_is);(case p3=>k_is);(case p4=>k_is);(case n0=>k_is);(case n1=>k_is);(case n2=>k_is);(case k1=>k_is);(case k3=>k_is);(case k4=>k_is);(case i_c=>k_is);(case i_k=>k_is)
  have Ob_ShutOut:Mc.nL (L2.KOf d) mg:=by
   dsimp only[L2.KOf]
   refine' Mc.aCO d G ?m1 ?s1 ?r1 ?r2 ?r3 ?r4 ?q1 ?q2 ?q3 ?q4 ?q5 ?e_l ?e_c ?e_k ?m2 ?p1 ?p2 ?p3 ?p4 ?n0 ?n1 ?n2 ?k1 ?k2 ?k3 ?k4 ?i_l ?i_c ?i_k
   (case m1=>k_is);(case m2=>k_is);(case q4=>k_is);(case k2=>k_is);(case e_l=>k_is);(case i_l=>k_is);(case s1=>k_is);(case r1=>k_is);(case r2=>k_is);(case r3=>k_is);(case r4=>k_is);(case q1=>k_is);(case q2=>k_is);(case q3=>k_is);(case q5=>k_is);(case e_c=>k_is);(case e_k=>k_is);(case p1=>k_is);(case p2=>k_is);(case p3=>k_is);(case p4=>k_is);(case n0=>k_is);(case n1=>k_is);(case n2=>k_is);(case k1=>k_is);(case k3=>k_is);(case k4=>k_is);(case i_c=>k_is);(case i_k=>k_is)
  have Ob_ForEver:Mc.nM (L2.KOf d) mg:=by
   dsimp only[L2.KOf]
   refine' Mc.aCP d G ?m1 ?s1 ?r1 ?r2 ?r3 ?r4 ?q1 ?q2 ?q3 ?q4 ?q5 ?e_l ?e_c ?e_k ?m2 ?p1 ?p2 ?p3 ?p4 ?n0 ?n1 ?n2 ?n3 ?k1 ?k2 ?k3 ?k4 ?i_l ?i_c ?i_k
   (case m1=>k_is);(case m2=>k_is);(case q4=>k_is);(case k2=>k_is);(case e_l=>k_is);(case i_l=>k_is);(case s1=>k_is);(case r1=>k_is);(case r2=>k_is);(case r3=>k_is);(case r4=>k_is);(case q1=>k_is);(case q2=>k_is);(case q3=>k_is);(case q5=>k_is);(case e_c=>k_is);(case e_k=>k_is);(case p1=>k_is);(case p2=>k_is);(case p3=>k_is);(case p4=>k_is);(case n0=>k_is);(case n1=>k_is);(case n2=>k_is);(case n3=>k_is);(case k1=>k_is);(case k3=>k_is);(case k4=>k_is);(case i_c=>k_is);(case i_k=>k_is)
  have Fo_ForEver_first:∃ C,mg "ForEver"=some (.ref C)/\L2.Cls (L2.KOf d) C/\L2.eG (L2.KOf d) C "first":=by
   dsimp only[L2.KOf]
   refine' Mc.nN d G ?m2 ?p1 ?p2 ?p3 ?p4 ?n
   (case m2=>k_is);(case p1=>k_is);(case p2=>k_is);(case p3=>k_is);(case p4=>k_is);(case n=>k_is)
  have j:Fl.jA (L2.KOf d) mg ["ForEver"] "first":=by
   intro nm f
   simp only[AY,BH,CF] at f
   rcases f with rfl
   · exact Fo_ForEver_first
  have Fo_ForEver_again:∃ C,mg "ForEver"=some (.ref C)/\L2.Cls (L2.KOf d) C/\L2.eG (L2.KOf d) C "again":=by
   dsimp only[L2.KOf]
   refine' Mc.nN d G ?m2 ?p1 ?p2 ?p3 ?p4 ?n
   (case m2=>k_is);(case p1=>k_is);(case p2=>k_is);(case p3=>k_is);(case p4=>k_is);(case n=>k_is)
  have i:Fl.jA (L2.KOf d) mg ["ForEver"] "again":=by
   intro nm f
   simp only[AY,BH,CF] at f
   rcases f with rfl
   · exact Fo_ForEver_again
  have Fo_LetBy_room:∃ C,mg "LetBy"=some (.ref C)/\L2.Cls (L2.KOf d) C/\L2.eG (L2.KOf d) C "room":=by
   dsimp only[L2.KOf]
   refine' Mc.nN d G ?m2 ?p1 ?p2 ?p3 ?p4 ?n
   (case m2=>k_is);(case p1=>k_is);(case p2=>k_is);(case p3=>k_is);(case p4=>k_is);(case n=>k_is)
  have Fo_ShutOut_room:∃ C,mg "ShutOut"=some (.ref C)/\L2.Cls (L2.KOf d) C/\L2.eG (L2.KOf d) C "room":=by
   dsimp only[L2.KOf]
   refine' Mc.nN d G ?m2 ?p1 ?p2 ?p3 ?p4 ?n
   (case m2=>k_is);(case p1=>k_is);(case p2=>k_is);(case p3=>k_is);(case p4=>k_is);(case n=>k_is)
  have Fo_ForEver_room:∃ C,mg "ForEver"=some (.ref C)/\L2.Cls (L2.KOf d) C/\L2.eG (L2.KOf d) C "room":=by
   dsimp only[L2.KOf]
   refine' Mc.nN d G ?m2 ?p1 ?p2 ?p3 ?p4 ?n
   (case m2=>k_is);(case p1=>k_is);(case p2=>k_is);(case p3=>k_is);(case p4=>k_is);(case n=>k_is)
  have m:Fl.jA (L2.KOf d) mg ["LetBy","ShutOut","ForEver"] "room":=by
   intro nm f
   simp only[AY,BH,CF] at f
   rcases f with rfl|rfl|rfl
   · exact Fo_LetBy_room
   · exact Fo_ShutOut_room
   · exact Fo_ForEver_room
  have Fo_LetBy_place:∃ C,mg "LetBy"=some (.ref C)/\L2.Cls (L2.KOf d) C/\L2.eG (L2.KOf d) C "place":=by
   dsimp only[L2.KOf]
   refine' Mc.nN d G ?m2 ?p1 ?p2 ?p3 ?p4 ?n
   (case m2=>k_is);(case p1=>k_is);(case p2=>k_is);(case p3=>k_is);(case p4=>k_is);(case n=>k_is)
  have Fo_ShutOut_place:∃ C,mg "ShutOut"=some (.ref C)/\L2.Cls (L2.KOf d) C/\L2.eG (L2.KOf d) C "place":=by
   dsimp only[L2.KOf]
   refine' Mc.nN d G ?m2 ?p1 ?p2 ?p3 ?p4 ?n
   (case m2=>k_is);(case p1=>k_is);(case p2=>k_is);(case p3=>k_is);(case p4=>k_is);(case n=>k_is)
  have Fo_ForEver_place:∃ C,mg "ForEver"=some (.ref C)/\L2.Cls (L2.KOf d) C/\L2.eG (L2.KOf d) C "place":=by
   dsimp only[L2.KOf]
   refine' Mc.nN d G ?m2 ?p1 ?p2 ?p3 ?p4 ?n
   (case m2=>k_is);(case p1=>k_is);(case p2=>k_is);(case p3=>k_is);(case p4=>k_is);(case n=>k_is)
  have g:Fl.jA (L2.KOf d) mg ["LetBy","ShutOut","ForEver"] "place":=by
   intro nm f
   simp only[AY,BH,CF] at f
   rcases f with rfl|rfl|rfl
   · exact Fo_LetBy_place
   · exact Fo_ShutOut_place
   · exact Fo_ForEver_place
  have Fo_LetBy_borders:∃ C,mg "LetBy"=some (.ref C)/\L2.Cls (L2.KOf d) C/\L2.eG (L2.KOf d) C "borders":=by
   dsimp only[L2.KOf]
   refine' Mc.nN d G ?m2 ?p1 ?p2 ?p3 ?p4 ?n
   (case m2=>k_is);(case p1=>k_is);(case p2=>k_is);(case p3=>k_is);(case p4=>k_is);(case n=>k_is)
  have Fo_ShutOut_borders:∃ C,mg "ShutOut"=some (.ref C)/\L2.Cls (L2.KOf d) C/\L2.eG (L2.KOf d) C "borders":=by
   dsimp only[L2.KOf]
   refine' Mc.nN d G ?m2 ?p1 ?p2 ?p3 ?p4 ?n
   (case m2=>k_is);(case p1=>k_is);(case p2=>k_is);(case p3=>k_is);(case p4=>k_is);(case n=>k_is)
  have e:Fl.jA (L2.KOf d) mg ["LetBy","ShutOut"] "borders":=by
   intro nm f
   simp only[AY,BH,CF] at f
   rcases f with rfl|rfl
   · exact Fo_LetBy_borders
   · exact Fo_ShutOut_borders
  have Mt_LetBy_stops:Mc.MtK (L2.KOf d) mg "LetBy" "stops" "LetBy.stops" (L2.aS (Mc.top 13) 2):=by
   dsimp only[L2.KOf]
   refine' Mc.oF d G ?m2 ?p1 ?p2 ?p3 ?p4 ?k2 ?k3 ?m_l ?m_c ?m_k ?b
   (case m2=>k_is);(case k2=>k_is);(case m_l=>k_is);(case p1=>k_is);(case p2=>k_is);(case p3=>k_is);(case p4=>k_is);(case k3=>k_is);(case m_c=>k_is);(case m_k=>k_is);(case b=>exact fun _ _ _ _ _ _=>Mc.bn1 fun _=>rfl)
  have Mt_ShutOut_stops:Mc.MtK (L2.KOf d) mg "ShutOut" "stops" "ShutOut.stops" (L2.aS (Mc.top 14) 2):=by
   dsimp only[L2.KOf]
   refine' Mc.oF d G ?m2 ?p1 ?p2 ?p3 ?p4 ?k2 ?k3 ?m_l ?m_c ?m_k ?b
   (case m2=>k_is);(case k2=>k_is);(case m_l=>k_is);(case p1=>k_is);(case p2=>k_is);(case p3=>k_is);(case p4=>k_is);(case k3=>k_is);(case m_c=>k_is);(case m_k=>k_is);(case b=>exact fun _ _ _ _ _ _=>Mc.bn1 fun _=>rfl)
  have Mt_ForEver_stops:Mc.MtK (L2.KOf d) mg "ForEver" "stops" "ForEver.stops" (L2.aS (Mc.top 15) 2):=by
   dsimp only[L2.KOf]
   refine' Mc.oF d G ?m2 ?p1 ?p2 ?p3 ?p4 ?k2 ?k3 ?m_l ?m_c ?m_k ?b
   (case m2=>k_is);(case k2=>k_is);(case m_l=>k_is);(case p1=>k_is);(case p2=>k_is);(case p3=>k_is);(case p4=>k_is);(case k3=>k_is);(case m_c=>k_is);(case m_k=>k_is);(case b=>exact fun _ _ _ _ _ _=>Mc.bn1 fun _=>rfl)
  have Mt_LetBy_paper:Mc.MtK (L2.KOf d) mg "LetBy" "paper" "LetBy.paper" (L2.aS (Mc.top 13) 3):=by
   dsimp only[L2.KOf]
   refine' Mc.oF d G ?m2 ?p1 ?p2 ?p3 ?p4 ?k2 ?k3 ?m_l ?m_c ?m_k ?b
   (case m2=>k_is);(case k2=>k_is);(case m_l=>k_is);(case p1=>k_is);(case p2=>k_is);(case p3=>k_is);(case p4=>k_is);(case k3=>k_is);(case m_c=>k_is);(case m_k=>k_is);(case b=>exact fun _ _ _ _ _ _=>Mc.bn1 fun _=>rfl)
  have Mt_ShutOut_paper:Mc.MtK (L2.KOf d) mg "ShutOut" "paper" "ShutOut.paper" (L2.aS (Mc.top 14) 3):=by
   dsimp only[L2.KOf]
   refine' Mc.oF d G ?m2 ?p1 ?p2 ?p3 ?p4 ?k2 ?k3 ?m_l ?m_c ?m_k ?b
   (case m2=>k_is);(case k2=>k_is);(case m_l=>k_is);(case p1=>k_is);(case p2=>k_is);(case p3=>k_is);(case p4=>k_is);(case k3=>k_is);(case m_c=>k_is);(case m_k=>k_is);(case b=>exact fun _ _ _ _ _ _=>Mc.bn1 fun _=>rfl)
  have Mt_ForEver_paper:Mc.MtK (L2.KOf d) mg "ForEver" "paper" "ForEver.paper" (L2.aS (Mc.top 15) 3):=by
   dsimp only[L2.KOf]
   refine' Mc.oF d G ?m2 ?p1 ?p2 ?p3 ?p4 ?k2 ?k3 ?m_l ?m_c ?m_k ?b
   (case m2=>k_is);(case k2=>k_is);(case m_l=>k_is);(case p1=>k_is);(case p2=>k_is);(case p3=>k_is);(case p4=>k_is);(case k3=>k_is);(case m_c=>k_is);(case m_k=>k_is);(case b=>exact fun _ _ _ _ _ _=>Mc.bn1 fun _=>rfl)
  have Mt_LetBy_says:Mc.MtK (L2.KOf d) mg "LetBy" "says" "LetBy.says" (L2.aS (Mc.top 13) 1):=by
   dsimp only[L2.KOf]
   refine' Mc.oF d G ?m2 ?p1 ?p2 ?p3 ?p4 ?k2 ?k3 ?m_l ?m_c ?m_k ?b
   (case m2=>k_is);(case k2=>k_is);(case m_l=>k_is);(case p1=>k_is);(case p2=>k_is);(case p3=>k_is);(case p4=>k_is);(case k3=>k_is);(case m_c=>k_is);(case m_k=>k_is);(case b=>exact fun _ _ _ _ _ _=>Mc.bn1 fun _=>rfl)
  have Mt_ShutOut_says:Mc.MtK (L2.KOf d) mg "ShutOut" "says" "ShutOut.says" (L2.aS (Mc.top 14) 1):=by
   dsimp only[L2.KOf]
   refine' Mc.oF d G ?m2 ?p1 ?p2 ?p3 ?p4 ?k2 ?k3 ?m_l ?m_c ?m_k ?b
   (case m2=>k_is);(case k2=>k_is);(case m_l=>k_is);(case p1=>k_is);(case p2=>k_is);(case p3=>k_is);(case p4=>k_is);(case k3=>k_is);(case m_c=>k_is);(case m_k=>k_is);(case b=>exact fun _ _ _ _ _ _=>Mc.bn1 fun _=>rfl)
  have Mt_ForEver_says:Mc.MtK (L2.KOf d) mg "ForEver" "says" "ForEver.says" (L2.aS (Mc.top 15) 1):=by
   dsimp only[L2.KOf]
   refine' Mc.oF d G ?m2 ?p1 ?p2 ?p3 ?p4 ?k2 ?k3 ?m_l ?m_c ?m_k ?b
   (case m2=>k_is);(case k2=>k_is);(case m_l=>k_is);(case p1=>k_is);(case p2=>k_is);(case p3=>k_is);(case p4=>k_is);(case k3=>k_is);(case m_c=>k_is);(case m_k=>k_is);(case b=>exact fun _ _ _ _ _ _=>Mc.bn1 fun _=>rfl)
  have LL:∃ fd,L2.Fun (L2.KOf d) "law" "law" (Mc.top 50) fa fd/\∀ (s:S9) (u:V9),BindsTo s fd ⟨[u],[]⟩ [("_law_script",u)]:=by
   dsimp only[L2.KOf]
   refine' Mc.aTL d G I ?a4 ?l4 ?c4 ?k4
   (case a4=>k_is);(case l4=>k_is);(case c4=>k_is);(case k4=>k_is)
  obtain ⟨fd,FL,hb⟩:=LL
  exact ⟨fd,hb,fun base _ _=>Mc.aQQ T Ob_LetBy Ob_ShutOut Ob_ForEver j i m g e Mt_LetBy_stops Mt_ShutOut_stops Mt_ForEver_stops Mt_LetBy_paper Mt_ShutOut_paper Mt_ForEver_paper Mt_LetBy_says Mt_ShutOut_says Mt_ForEver_says D6 D7 D8 D9 N o ad D p Q A t y U M v J R H P V Z aa O S X B E L r ac z K q FL⟩
end
