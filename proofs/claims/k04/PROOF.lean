import PyProof.Rows.All
import Wide.All
import OpenK.AllK
import Wide.FinOn
import Lean
import PyProof.EqAt
import PyProof.EqKinds
import PyProof.TupleCall
import PyProof.ExcInit
import PyProof.InstStoreFacts
import PyProof.StrLawsFirst
import PyProof.StrLawsIn
import KE.KLam
import PyProof.ListMulRoad
import PyProof.Rows.ListMul
import PyProof.ZipIter
import PyProof.Draws
import PyProof.ListStr
import PyProof.DictWalks
import PyProof.DictTruth
import PyProof.ListRange
import PyProof.StrLaws
import PyProof.StrLawsIdx
import PyProof.AttrMissHeap
import PyProof.StrBlock2
import PyProof.SumWalkG
import PyProof.P3In
import PyProof.Rows.StrClip
import PySem.Challenge.RW_striproam_k04_strips_refused
set_option linter.all false
set_option maxRecDepth 100000
set_option maxHeartbeats 4000000
set_option Elab.async false
set_option linter.all false
set_option maxRecDepth 100000
set_option genSizeOf false
abbrev Dz:=PySem.PyData
abbrev V9:=PySem.Value
abbrev S9:=PySem.Shared
abbrev Az:=PySem.Addr
abbrev P9:=PySem.Program
abbrev W9:=PySem.World
abbrev H9:=PySem.Heap
abbrev E1:=PySem.Expr
abbrev U9:=PySem.Around
abbrev O9(α:Type):=Option α
def PySem.W.Fast.tw16478742406200037316:=()
def PySem.W.Fast.tw7160471835281844816:=()
def PySem.W.Fast.tw12665914409904048559:=()
def PySem.W.Fast.tw11995562724711304830:=()
def PySem.W.Fast.tw3329190475998405516:=()
def PySem.W.Fast.tw18111959795948310069:=()
def PySem.W.Fast.tw8808817997427710556:=()
def PySem.W.Fast.tw13852699214119535744:=()
def PySem.W.Fast.tw770740299773460106:=()
def PySem.W.Fast.tw1211095248749069570:=()
def AA:=@PySem.wpAny_bind
def AB:=@List.getElem?_cons_succ
def AC:=@List.getElem?_cons_zero
def AD:=@PySem.wpAny_pure
def AE:=@PySem.Heap.get?_push_of_some
def AG:=@PySem.Heap.lt_size
def AH:=@List.length_cons
def AI:=@Nat.le_refl
def AJ:=@List.map_cons
def AK:=@if_pos
def AL:=@List.mem_cons_of_mem
def AM:=@if_neg
def AN:=@Nat.lt_of_lt_of_le
def AQ:=@List.length_map
def AS:=@List.getElem?_eq_getElem
def AT:=@List.mem_cons
def AU:=@List.getElem?_eq_some_iff
def AV:=@List.length_nil
def AW:=@Bool.and_eq_true
def AX:=@List.mem_cons_self
def AY:=@List.set_cons_succ
def AZ:=@List.set_cons_zero
def A0:=@List.lookup_cons
def A1:=@List.cons_append
def A2:=@Bool.false_eq_true
def A3:=@Nat.ne_of_lt
def A4:=@Nat.le_trans
def A5:=@List.nil_append
def A6:=@List.length_append
def A7:=@PySem.Heap.get?_push_size
def A8:=@PySem.mem_of_lookup
def A9:=@List.getElem?_set_ne
def BA:=@List.mem_singleton
def BB:=@List.size_toArray
def BC:=@List.getElem?_map
def BD:=@if_true
def BE:=@List.map_nil
def BF:=@Nat.lt_irrefl
def BG:=@PySem.wpAny_mono
def BH:=@decide_eq_false
def BI:=@Option.bind_some
def BJ:=@PyProof.Rows.boot_isinstance
def BK:=@List.mem_append_right
def BL:=@PySem.W.mg_none_of
def BM:=@PySem.W.kia_one
def BN:=@Array.length_toList
def BO:=@Ne.symm
def BP:=@Option.some.inj
def BQ:=@Bool.false_ne_true
def BR:=@List.getElem?_set_self
def BS:=@if_false
def BT:=@PySem.W.mg_of
def BU:=@PySem.boot_len
def BV:=@List.append_nil
def BW:=@List.map_append
def BX:=@Option.bind_none
def BY:=@Option.join_some
def BZ:=@decide_eq_true
def B0:=@PySem.wpAny_loadPart_at
def B1:=@List.length_range
def B2:=@List.getElem?_append_left
def B3:=@List.length_take
def B4:=@PySem.wpAny_field
def B5:=@PySem.wpAny_newObj_type
def B6:=@List.mem_append
def B7:=@PyProof.Rows.callWith_type1
def B8:=@beq_false_of_ne
def B9:=@List.length_set
def CA:=@Nat.ne_of_gt
def CB:=@PySem.wpAny_holding
def CC:=@List.getElem?_append_right
def CF:=@PySem.Heap.get?_update_self
def CG:=@PySem.Heap.size_push
def CH:=@List.mem_append_left
def CI:=@List.mem_of_getElem?
def CJ:=@List.find?_cons
def CK:=@PySem.wpAny_isSubtype_exc
def CL:=@beq_self_eq_true
def CM:=@List.all_eq_true
def CN:=@List.mem_filterMap
def CO:=@PySem.wpAny_Call_Name_kw
def CP:=@List.contains_cons
def CQ:=@PySem.wpAny_passesOwn
def CS:=@List.length_replicate
def CT:=@List.forIn_cons
def CU:=@PySem.F.excAttr_ValueError
def CV:=@Array.getElem?_eq_some_iff
def CW:=@PySem.F.slot_tuple_iterator_next
def CY:=@PySem.wpAny_pyIter_enum
def CZ:=@PySem.eqIsQuiet_byValue
def C0:=@Nat.le_succ
def C3:=@Nat.le_of_lt
def C4:=@List.not_mem_nil
def C5:=@beq_eq_false_iff_ne
def C6:=@List.filterMap_cons
def C7:=@PySem.Heap.SameBut.update
def C8:=@PyProof.Rows.slot_tuple_getitem
def C9:=@PyProof.Rows.boot_tuple
def DA:=@PySem.wpAny_standAt
def DB:=@PySem.wpAny_execs_nil
def DC:=@List.nodup_cons
def DD:=@PySem.Obj.data_mapFields
def DE:=@PySem.Heap.get?_update_other
def DF:=@List.take_of_length_le
def DG:=@Array.getElem?_toList
def DH:=@LawfulBEq.eq_of_beq
def DI:=@PyProof.Rows.boot_enumerate
def DJ:=@PySem.wpAny_execs_cons
def DK:=@PySem.wpAny_letOwnedTupleGo_enum
def DL:=@List.mem_map_of_mem
def DM:=@List.of_mem_zip
def DN:=@List.cons.injEq
def DO:=@PySem.codeAny_mono
def DP:=@PySem.W.callWith_K
def DQ:=@PySem.F.slot_list_append
def DR:=@PySem.F.type_list_append
def DS:=@Int.emod_lt_of_pos
def DT:=@PySem.wpAny_call
def DU:=@PySem.wpAny_setField
def DV:=@List.getElem?_replicate
def DW:=@PySem.wpAny_callSpecial?_slot
def DX:=@PySem.F.plainAttrs_list
def DY:=@PySem.wpAny_truthy_bool
def DZ:=@of_decide_eq_true
def D0:=@PySem.sizeLine_eq
def D1:=@PySem.W.cellsFrom_some
def D2:=@congrArg
def D4:=@List.length_drop
def D5:=@Nat.lt_succ_self
def D6:=@PySem.codeAny_call_function
def D7:=@PySem.Obj.isFreed_of_fields
def D8:=@List.mem_filter
def D9:=@PySem.Heap.get?_none_of_le
def EA:=@beq_iff_eq
def EB:=@PySem.codeAny_call_builtin
def EC:=@List.mem_iff_getElem
def ED:=@Int.emod_nonneg
def EE:=@List.mem_of_mem_take
def EF:=@List.length_pos_iff
def EG:=@PySem.F.args_tuple_iterator_next_1
def EH:=@Nat.zero_le
def EI:=@PySem.F.entry_tuple_iterator_next
def EJ:=@List.length_zipIdx
def EK:=@PySem.Calls.Name_function_global
def EL:=@PySem.wpAny_newFunctionEnv_cells
def EM:=@PySem.W.kitx_list
def EN:=@PySem.StrLaws.subAt_one
def EO:=@Option.isSome_map
def EQ:=@Option.isNone_iff_eq_none
def ER:=@List.drop_eq_getElem_cons
def ES:=@Option.isSome_iff_exists
def ET:=@List.getElem?_take_of_lt
def EU:=@PySem.F.args_tuple_add_2
def EV:=@PySem.wpAny_call_entry
def EW:=@Option.getD_none
def EX:=@PySem.wpAny_comprehension_free
def EY:=@Bool.or_true
def EZ:=@Nat.zero_add
def E2:=@PySem.F.entry_tuple_add
def E3:=@PySem.wpAny_pyNext_enum_itemD
def E4:=@PySem.F.slot_tuple_add
def E5:=@PySem.wpAny_pyNext_enum_endD
def E6:=@List.length_singleton
def E7:=@PySem.wpAny_loadPart
def E8:=@PySem.F.entry_bexc_ga
def E9:=@PySem.wpAny_seqItems
def FA:=@PyProof.Rows.boot_min
def FB:=@PyProof.Rows.boot_int
def FC:=@PySem.wpAny_attempt
def FD:=@Bool.not_true
def FE:=@List.mem_map
theorem Mc.bn1{α:Type}{P:List α->Prop}(h:∀ a,P [a]):∀ us:List α,us.length=1->P us
 | [a],_=>h a
theorem Mc.bn2{α:Type}{P:List α->Prop}(h:∀ a b,P [a,b]):∀ us:List α,us.length=2->P us
 | [a,b],_=>h a b
theorem Mc.bn3{α:Type}{P:List α->Prop}(h:∀ a b c,P [a,b,c]):∀ us:List α,us.length=3->P us
 | [a,b,c],_=>h a b c
theorem Mc.bn4{α:Type}{P:List α->Prop}(h:∀ a b c d,P [a,b,c,d]):∀ us:List α,us.length=4->P us
 | [a,b,c,d],_=>h a b c d
open PySem.W (Frag)
noncomputable section
namespace L2
open PySem PySem.Spec PyProof.Rows
abbrev Key:=Sum Int Str
noncomputable def m7:Key->V9->Bool
 | .inl k,v=>Value.isInt k v
 | .inr x,v=>Value.isStrOf x v
noncomputable def aIM(w:W9):Key->Int
 | .inl k=>hashInt k
 | .inr x=>hashStr w x
theorem keyIs_shape:∀ {k:Key} {v:V9},m7 k v=true->(∃ i t,k=Sum.inl i/\v=Value.int i t)\/(∃ x t,k=Sum.inr x/\v=Value.str x t)
 | .inl i,v,h=>by
  obtain ⟨t,e⟩:=Value.isInt_shape (k:=i) (v:=v) h
  exact .inl ⟨i,t,rfl,e⟩
 | .inr x,v,h=>by
  obtain ⟨t,e⟩:=Value.isStrOf_shape (x:=x) (v:=v) h
  exact .inr ⟨x,t,rfl,e⟩
theorem x3(i:Int)(t:Tok):m7 (.inl i) (.int i t)=true:=by simp[m7,Value.isInt]
theorem x4(x:Str)(t:Tok):m7 (.inr x) (.str x t)=true:=by simp[m7,Value.isStrOf]
theorem aE3(a b:Int):decide ((Sum.inl a:Key)=Sum.inl b)=(a == b):=by
 by_cases e:a=b
 .subst e;simp
 .have h:¬ (Sum.inl a:Key)=Sum.inl b:=fun q=>e (Sum.inl.inj q)
  rw[BH h]
  exact (C5.mpr e).symm
theorem aE4(a b:Str):decide ((Sum.inr a:Key)=Sum.inr b)=decide (a=b):=by
 by_cases e:a=b
 .subst e;simp
 .have h:¬ (Sum.inr a:Key)=Sum.inr b:=fun q=>e (Sum.inr.inj q)
  rw[BH h,BH e]
theorem aE5(a:Int)(b:Str):decide ((Sum.inl a:Key)=Sum.inr b)=false:=BH (fun q=>nomatch q)
theorem aE6(a:Str)(b:Int):decide ((Sum.inr a:Key)=Sum.inl b)=false:=BH (fun q=>nomatch q)
noncomputable def cQ(prog:P9)(w:W9):PySem.KeyKind prog w Key where
 is:=m7
 hash:=aIM w
 inj:=fun v a b ha hb=>by
  rcases keyIs_shape ha with ⟨i,t,rfl,rfl⟩|⟨x,t,rfl,rfl⟩
  .rcases keyIs_shape hb with ⟨j,u,rfl,e⟩|⟨y,u,rfl,e⟩
   · injection e with e1 _; rw [e1]
   · exact nomatch e
  .rcases keyIs_shape hb with ⟨j,u,rfl,e⟩|⟨y,u,rfl,e⟩
   · exact nomatch e
   · injection e with e1 _; rw [e1]
 byValue:=fun k v h=>by
  rcases keyIs_shape h with ⟨i,t,rfl,rfl⟩|⟨x,t,rfl,rfl⟩<;>rfl
 pyHash:=fun hv h=>by
  rcases keyIs_shape hv with ⟨i,t,rfl,rfl⟩|⟨x,t,rfl,rfl⟩
  .exact wpAny_pyHash_int h
  .exact wpAny_pyHash_str h
 eqBool:=fun hu hv h=>by
  rcases keyIs_shape hu with ⟨i,t,rfl,rfl⟩|⟨x,t,rfl,rfl⟩
  .rcases keyIs_shape hv with ⟨j,u,rfl,rfl⟩|⟨y,u,rfl,rfl⟩
   · rw [aE3] at h; exact wpAny_eqBool_int h
   · rw [aE5] at h; exact SeqAt.EqAt.int_str i t y u _ _ _ _ h
  .rcases keyIs_shape hv with ⟨j,u,rfl,rfl⟩|⟨y,u,rfl,rfl⟩
   · rw [aE6] at h; exact SeqAt.EqAt.str_int x t j u _ _ _ _ h
   · rw [aE4] at h; exact wpAny_eqBool_str h
 «strs»:=fun k x t v h=>by
  rcases keyIs_shape h with ⟨i,u,rfl,e⟩|⟨y,u,rfl,e⟩
  .exact nomatch e
  .injection e with e1 _
   subst e1
   cases v<;>rfl
theorem uW(prog:P9)(w:W9)(i:Int)(t:Tok):(cQ prog w).is (.inl i) (.int i t)=true:=x3 i t
theorem uX(prog:P9)(w:W9)(x:Str)(t:Tok):(cQ prog w).is (.inr x) (.str x t)=true:=x4 x t
inductive V where
 | non|bl (b:Bool)|int (i:Int)|str (x:Str)|byt (b:Array UInt8)|flt (b:UInt64)|ref (a:Az)|ty (n:String)
 deriving DecidableEq
def aU:V->V9->Prop
 | .non,u=>u=Value.none
 | .bl b,u=>u=Value.bool b
 | .int i,u=>∃ t,u=Value.int i t
 | .str x,u=>∃ t,u=Value.str x t
 | .byt b,u=>∃ t,u=Value.bytes b t
 | .flt b,u=>∃ t,u=Value.float b t
 | .ref a,u=>u=Value.ref a
 | .ty n,u=>u=Value.type n
abbrev aW:List V->List V9->Prop:=Paired aU
theorem aW.length{xs:List V}{us:List V9}(r:aW xs us):xs.length=us.length:=Paired.length r
theorem aW.get:∀ {xs:List V} {us:List V9} {i:Nat} {x:V},aW xs us->xs[i]? = some x->∃ u,us[i]? = some u/\aU x u
 | _,_,_,_,.nil,e=>by simp at e
 | _,_,0,_,.cons r _,e=>by simp at e;subst e;exact ⟨_,rfl,r⟩
 | _,_,i+1,x,.cons _ t,e=>by
  obtain ⟨u,h1,h2⟩:=aW.get (i:=i) (x:=x) t (by simpa using e)
  exact ⟨u,by simpa using h1,h2⟩
theorem aW.set{x:V}{u:V9}(r:aU x u):∀ {xs:List V} {us:List V9} (i:Nat),aW xs us->aW (xs.set i x) (us.set i u)
 | _,_,_,.nil=>.nil
 | _,_,0,.cons _ t=>.cons r t
 | _,_,i+1,.cons q t=>.cons q (aW.set r i t)
theorem aW.append:∀ {xs ys:List V} {us ws:List V9},aW xs us->aW ys ws->aW (xs++ys) (us++ws)
 | _,_,_,_,.nil,s=>s
 | _,_,_,_,.cons r t,s=>.cons r (aW.append t s)
theorem aW.take:∀ {xs:List V} {us:List V9} (n:Nat),aW xs us->aW (xs.take n) (us.take n)
 | _,_,0,_=>.nil
 | _,_,_+1,.nil=>.nil
 | _,_,n+1,.cons r t=>.cons r (aW.take n t)
theorem aW.drop:∀ {xs:List V} {us:List V9} (n:Nat),aW xs us->aW (xs.drop n) (us.drop n)
 | _,_,0,r=>r
 | _,_,_+1,.nil=>.nil
 | _,_,n+1,.cons _ t=>aW.drop n t
def fS:O9 V->O9 V9->Prop
 | some v,some u=>aU v u
 | none,none=>True
 | _,_=>False
def KV{κ:Type}:List (κ×V)->List (κ×V9)->Prop:=Paired fun (p:κ×V) (q:κ×V9)=>p.1=q.1/\aU p.2 q.2
noncomputable def kV:Key->V
 | .inl i=>.int i
 | .inr x=>.str x
inductive HO where
 | lst (xs:List V)
 | tup (xs:List V)
 | dK (kvs:List (Key×V))|dT (kvs:List (List Key×V))
 | set (S:Int->Bool) (n:Nat)
 | ins (C dx:Az) (fs:List (Str×V))
 | own (x:Az)
 | xd (fs:List (Str×V))
 | met (f x:Az)
 | rng (lo hi:Int)
 | frz (o:Obj) (u:HO)
 | tbl (qs:List (Pos×Str))
 | cod (q:Str)
 | ext (φ:Heap->Prop)
abbrev Hp:=Az->O9 HO
noncomputable def upd(H:Hp)(a:Az)(o:HO):Hp:=fun b=>if b=a then some o else H b
theorem aS{H:Hp}{a:Az}{o:HO}:upd H a o a=some o:=by unfold upd;rw[AK rfl]
theorem aE{H:Hp}{a b:Az}{o:HO}(h:b≠a):upd H a o b=H b:=by unfold upd;rw[AM h]
theorem pL{H:Hp}{a:Az}{o u:HO}:upd (upd H a o) a u=upd H a u:=by
 funext b;unfold upd;split<;>rfl
theorem bF{H:Hp}{a b:Az}{o:HO}(h:H a=some o)(h':H b=none):a≠b:=by
 intro e;subst e;rw[h] at h';cases h'
def jC(h:H9)(a:Az)(its:Array V9):Prop:=∃ o,h.get? a=some o/\(o.cls=.type "tuple"/\o.dict=none)/\∃ n,o.data=.seq its n
theorem jC.t{h:H9}{a:Az}{b:Array V9}:jC h a b->IsTup h a b:=fun ⟨o,e,c,n,d⟩=>⟨o,e,c.1,n,d⟩
theorem jC.new(h:H9)(a:Array V9):jC (h.push {cls:=.type "tuple",data:=.seq a}) h.objs.size a:=⟨_,A7 h rfl,⟨rfl,rfl⟩,_,rfl⟩
section
variable(P:P9)(w:W9)
def bP(H:Hp)(h:H9)(a:Az):HO->Prop
 | .lst xs=>xs.length<=sizeLine/\∃ (its:List V9) (n:Nat),aW xs its/\h.get? a=some {cls:=.type "list",data:=.seq its.toArray n}
 | .tup xs=>xs.length<=sizeLine/\∃ its:List V9,aW xs its/\jC h a its.toArray
 | .dK kvs=>kvs.length<=sizeLine/\(a == sysModules)=false/\∃ vs,KV kvs vs/\h.DictOf (cQ P w) a vs
 | .dT kvs=>kvs.length<=sizeLine/\(a == sysModules)=false/\∃ xs:List (List Key×Az×V9),
  Paired (fun (p:List Key×V) (q:List Key×Az×V9)=>p.1=q.1/\H q.2.1=some (.tup (p.1.map kV))/\aU p.2 q.2.2) kvs xs /\
  ∃ o es ep,h.get? a=some o/\o.ExactDict/\o.data=.dict es ep/\es.toList=xs.map (entryOfKey (tupleKind (cQ P w)))/\(xs.map (·.1)).Nodup
 | .set S n=>h.SetOf (intKind P w) a S n
 | .ins C dx fs=>H dx=some (.own a)/\fs.length<=1000/\dx≠a/\h.get? a=some (PySem.W.instObj C dx) /\
  ∃ mA,h.Ns1 dx mA/\(∀ f,fS (fs.lookup f) (mA f))/\PySem.Within mA (fs.map (·.1))
 | .own _=>∃ o,h.get? a=some o
 | .xd fs=>∃ mA,h.Ns1 a mA/\∀ f,fS (fs.lookup f) (mA f)
 | .rng lo hi=>∃ t u v,h.get? a=some {cls:=.type "range",data:=.fields #[.int lo t,.int hi u,.int 1 v]}
 | .frz o u=>h.get? a=some o/\bP H h a u
 | .tbl qs=>∃ ps:Array V9,h.get? a=some {cls:=.none,data:=.fields ps}/\TriplesOk ps.toList/\∀ p∈qs,codeAmong p.1 ps.toList=none\/∃ c,codeAmong p.1 ps.toList=some (.ref c)/\H c=some (.cod p.2)
 | .cod q=>h.CodeRec (.ref a) q
 | .met f x=>h.get? a=some (PySem.W.methodObj (.ref f) (.ref x))
 | .ext φ=>φ h/\(∃ o,h.get? a=some o)/\∀ h1 h2:H9,φ h1->(∀ o,h1.get? a=some o->h2.get? a=some o)->φ h2
def HOk(H:Hp)(h:H9):Prop:=∀ a o,H a=some o->bP P w H h a o
end
section
variable{P:P9}{w:W9}{H H':Hp}{h h':H9}{a:Az}{o:HO}
theorem bP.lt(x:bP P w H h a o):a < h.objs.size:=by
 cases o with
 | lst xs=>obtain ⟨_,_,_,_,e⟩:=x;exact AG e
 | tup xs=>obtain ⟨_,_,_,p⟩:=x;exact p.t.lt
 | dK kvs=>obtain ⟨_,_,_,_,o,_,_,e,_⟩:=x;exact AG e
 | dT kvs=>obtain ⟨_,_,_,_,o,_,_,e,_⟩:=x;exact AG e
 | set S n=>obtain ⟨o,_,_,_,e,_⟩:=x;exact AG e
 | ins C dx fs=>obtain ⟨_,_,_,e,_⟩:=x;exact AG e
 | own y=>obtain ⟨_,e⟩:=x;exact AG e
 | xd fs=>obtain ⟨_,⟨_,_,_,e,_⟩,_⟩:=x;exact AG e
 | rng lo hi=>obtain ⟨_,_,_,e⟩:=x;exact AG e
 | frz ob u=>obtain ⟨e,_⟩:=x;exact AG e
 | tbl qs=>obtain ⟨ps,e,_⟩:=x;exact AG e
 | cod q=>obtain ⟨c,o,vs,t,e,b,_⟩:=x;cases e;exact AG b
 | met f y=>exact AG (show h.get? a=some _ from x)
 | ext φ=>obtain ⟨_,⟨_,e⟩,_⟩:=x;exact AG e
theorem Paired.mapP{α β:Type}{F G:α->β->Prop}:∀ {l₁:List α} {l₂:List β},Paired F l₁ l₂->(∀ a b,F a b->G a b)->Paired G l₁ l₂
 | _,_,.nil,_=>.nil
 | _,_,.cons r t,f=>.cons (f _ _ r) (Paired.mapP t f)
theorem bP.stay(x:bP P w H h a o)(k:∀ b u,(b=a\/H b=some (.own a))->h.get? b=some u->h'.get? b=some u)
  (l:∀ b,H b=some (.own a)->H' b=some (.own a)) (m:∀ b q,H b=some (.cod q)->H' b=some (.cod q)) (A:∀ b xs,H b=some (.tup xs)->H' b=some (.tup xs)):bP P w H' h' a o:=by
 induction o with
 | lst xs=>obtain ⟨z,j,n,r,e⟩:=x;exact ⟨z,j,n,r,k _ _ (.inl rfl) e⟩
 | tup xs=>obtain ⟨z,j,r,g,e,c⟩:=x;exact ⟨z,j,r,g,k _ _ (.inl rfl) e,c⟩
 | dK kvs=>obtain ⟨z,y,vs,r,g,es,i,e,c⟩:=x;exact ⟨z,y,vs,r,g,es,i,k _ _ (.inl rfl) e,c⟩
 | dT kvs=>
  obtain ⟨z,y,xs,r,g,es,i,e,c⟩:=x
  exact ⟨z,y,xs,Paired.mapP r fun p q z=>⟨z.1,A _ _ z.2.1,z.2.2⟩,g,es,i,k _ _ (.inl rfl) e,c⟩
 | set S n=>obtain ⟨g,es,i,t,e,c⟩:=x;exact ⟨g,es,i,t,k _ _ (.inl rfl) e,c⟩
 | ins C dx fs=>
  obtain ⟨d,z,B,e,mA,⟨od,es,i,e2,c⟩,r⟩:=x
  exact ⟨l _ d,z,B,k _ _ (.inl rfl) e,mA,⟨od,es,i,k _ _ (.inr d) e2,c⟩,r⟩
 | own y=>obtain ⟨g,e⟩:=x;exact ⟨g,k _ _ (.inl rfl) e⟩
 | xd fs=>obtain ⟨mA,⟨od,es,i,e,c⟩,r⟩:=x;exact ⟨mA,⟨od,es,i,k _ _ (.inl rfl) e,c⟩,r⟩
 | rng lo hi=>obtain ⟨t,u,v,e⟩:=x;exact ⟨t,u,v,k _ _ (.inl rfl) e⟩
 | frz g u ih=>obtain ⟨e,q⟩:=x;exact ⟨k _ _ (.inl rfl) e,ih q⟩
 | tbl qs=>
  obtain ⟨ps,e,t,r⟩:=x
  refine ⟨ps,k _ _ (.inl rfl) e,t,fun p s=>?_⟩
  rcases r p s with z|⟨c,z,D⟩
  · exact .inl z
  · exact .inr ⟨c, z, m _ _ D⟩
 | cod q=>
  obtain ⟨c,o,vs,t,e,l,r⟩:=x
  cases e
  exact ⟨_,o,vs,t,rfl,k _ _ (.inl rfl) l,r⟩
 | met f y=>
  have e:h.get? a=some (PySem.W.methodObj (.ref f) (.ref y)):=x
  show h'.get? a=some (PySem.W.methodObj (.ref f) (.ref y))
  exact k a _ (.inl rfl) e
 | ext φ=>obtain ⟨p,⟨o,e⟩,st⟩:=x;exact ⟨st _ _ p fun o q=>k _ _ (.inl rfl) q,⟨o,k _ _ (.inl rfl) e⟩,st⟩
theorem HOk.lt(x:HOk P w H h)(e:H a=some o):a < h.objs.size:=(x a o e).lt
theorem HOk.fresh(x:HOk P w H h)(e:h.objs.size<=a):H a=none:=by
 cases q:H a with
 | none=>rfl
 | some u=>exact absurd (AN (x.lt q) e) (BF _)
theorem HOk.kept(x:HOk P w H h)(k:∀ b u,h.get? b=some u->h'.get? b=some u):HOk P w H h':=fun a o e=>
 (x a o e).stay (fun b u _ q=>k b u q) (fun _ q=>q) (fun _ _ q=>q) fun _ _ q=>q
theorem HOk.laid(x:HOk P w H h)(k:∀ b u,h.get? b=some u->h'.get? b=some u)(g:h.objs.size<=a)(new:bP P w (upd H a o) h' a o):HOk P w (upd H a o) h':=fun b u e=>by
 have d:=x.fresh g
 by_cases f:b=a
 .subst f;rw[aS] at e;cases e;exact new
 .rw[aE f] at e
  exact (x b u e).stay (fun c v _ q=>k c v q) (fun c q=>by rw[aE (bF q d)];exact q) (fun c xs q=>by rw[aE (bF q d)];exact q) fun c xs q=>by rw[aE (bF q d)];exact q
end
def Rd(H:Hp)(a:Az)(u:HO):Prop:=H a=some u\/∃ o,H a=some (.frz o u)
theorem Rd.ok{P:P9}{w:W9}{H:Hp}{h:H9}{a:Az}{u:HO}(r:Rd H a u)(x:HOk P w H h):bP P w H h a u:=by
 rcases r with r|⟨o,r⟩
 .exact x a u r
 .obtain ⟨_,q⟩:=x a _ r
  exact q
def Mut:O9 HO->Prop
 | some (.lst _)=>True
 | some (.dK _)=>True
 | some (.dT _)=>True
 | some (.set _ _)=>True
 | some (.ins _ _ _)=>True
 | some (.ext _)=>True
 | _=>False
section
variable{P:P9}{w:W9}{H:Hp}{h h':H9}{x e:Az}{o':HO}
theorem HOk.write(ok:HOk P w H h)(f:Mut (H x))(n:e=x\/H e=some (.own x))(k:∀ b u,b≠e->h.get? b=some u->h'.get? b=some u)(m:∃ u,h'.get? e=some u)
  (new:bP P w (upd H x o') h' x o'):HOk P w (upd H x o') h':=fun b u q=>by
 have d:∀ c y,H c=some (.own y)->c≠x:=fun c y r z=>by subst z;rw[r] at f;exact f
 have g:∀ c xs,H c=some (.tup xs)->c≠x:=fun c xs r z=>by subst z;rw[r] at f;exact f
 have i:∀ c xs,H c=some (.cod xs)->c≠x:=fun c xs r z=>by subst z;rw[r] at f;exact f
 by_cases l:b=x
 .subst l;rw[aS] at q;cases q;exact new
 .rw[aE l] at q
  by_cases a:b=e
  .have o:H b=some (.own x):=by
    rcases n with z|z
    · exact absurd (a.trans z) l
    · rw [a]; exact z
   rw[q] at o;cases o
   obtain ⟨v,p⟩:=m
   exact ⟨v,by rw[a];exact p⟩
  .refine (ok b u q).stay (fun c v j r=>k c v ?_ r) (fun c r=>by rw[aE (d c b r)];exact r) (fun c xs r=>by rw[aE (i c xs r)];exact r) fun c xs r=>by rw[aE (g c xs r)];exact r
   rcases j with rfl|j
   .exact a
   .rintro rfl
    rcases n with z|z
    · exact d c b j z
    · rw [j] at z; cases z; exact l rfl
end
structure Un(fs ex:List Az)(H H':Hp)(h h':Heap):Prop where
 keep:∀ b o,h.get? b=some o->H b=none->b∉fs->b∉ex->h'.get? b=some o
 slot:∀ b o,h.get? b=some o->H b=none->b∈fs->b∉ex->∃ sl,h'.get? b=some {o with slots:=sl}
 free:∀ b o,h.get? b=some o->H b=none->b∉ex->H' b=none
 there:∀ b o,h.get? b=some o->b∉ex->∃ o',h'.get? b=some o'
 tups:∀ b xs,H b=some (.tup xs)->H' b=some (.tup xs)
 frzs:∀ b o u,H b=some (.frz o u)->H' b=some (.frz o u)
 tbls:∀ b ps,H b=some (.tbl ps)->H' b=some (.tbl ps)
section
variable{fs fs' ex ex':List Az}{H H1 H2:Hp}{h h1 h2 h':H9}{a x e:Az}{o:HO}
theorem Un.any(u:Un fs ex H H1 h h1){b:Az}{a:Obj}(q:h.get? b=some a)(n:H b=none)(hx:b∉ex):∃ sl,h1.get? b=some {a with slots:=sl}:=by
 by_cases c:b∈fs
 · exact u.slot b a q n c hx
 · exact ⟨a.slots, u.keep b a q n c hx⟩
theorem Un.trans(a:Un fs ex H H1 h h1)(b:Un fs ex H1 H2 h1 h2):Un fs ex H H2 h h2 where
 keep:=fun c d q n f e=>b.keep c d (a.keep c d q n f e) (a.free c d q n e) f e
 slot:=fun c d q n f e=>by
  obtain ⟨i,e1⟩:=a.slot c d q n f e
  obtain ⟨g,e2⟩:=b.slot c _ e1 (a.free c d q n e) f e
  exact ⟨g,e2⟩
 free:=fun c d q n e=>by
  obtain ⟨o',e1⟩:=a.there c d q e
  exact b.free c o' e1 (a.free c d q n e) e
 there:=fun c d q e=>by
  obtain ⟨o',e1⟩:=a.there c d q e
  exact b.there c o' e1 e
 tups:=fun c xs q=>b.tups c xs (a.tups c xs q)
 frzs:=fun c d xs q=>b.frzs c d xs (a.frzs c d xs q)
 tbls:=fun c ps q=>b.tbls c ps (a.tbls c ps q)
theorem Un.kept(k:∀ b u,h.get? b=some u->h'.get? b=some u):Un fs ex H H h h':=
 ⟨fun b a q _ _ _=>k b a q,fun b a q _ _ _=>⟨a.slots,k b a q⟩,fun _ _ _ n _=>n,fun b a q _=>⟨a,k b a q⟩,fun _ _ q=>q,fun _ _ _ q=>q,fun _ _ q=>q⟩
theorem Un.refl:Un fs ex H H h h:=Un.kept fun _ _ q=>q
theorem Un.laid(k:∀ b u,h.get? b=some u->h'.get? b=some u)(d:h.objs.size<=a)(c:H a=none):Un fs ex H (upd H a o) h h' where
 keep:=fun b u q _ _ _=>k b u q
 slot:=fun b u q _ _ _=>⟨u.slots,k b u q⟩
 free:=fun b u q n _=>by rw[aE (A3 (AN (AG q) d))];exact n
 there:=fun b u q _=>⟨u,k b u q⟩
 tups:=fun b xs q=>by rw[aE (bF q c)];exact q
 frzs:=fun b u xs q=>by rw[aE (bF q c)];exact q
 tbls:=fun b ps q=>by rw[aE (bF q c)];exact q
theorem Un.write(c:Mut (H x))(j:e=x\/H e=some (.own x))(k:∀ b u,b≠e->h.get? b=some u->h'.get? b=some u)(d:∃ u,h'.get? e=some u):Un fs ex H (upd H x o) h h':=by
 have g:∀ b,H b=none->b≠x:=fun b n z=>by subst z;rw[n] at c;exact c
 have i:∀ b,H b=none->b≠e:=fun b n z=>by
  subst z
  rcases j with r|r
  · exact g b n r
  · rw [n] at r; cases r
 have f:∀ b u,H b=some u->¬ Mut (some u)->b≠x:=fun b u q nm z=>by subst z;rw[q] at c;exact nm c
 refine ⟨fun b u q n _ _=>k b u (i b n) q,fun b u q n _ _=>⟨u.slots,k b u (i b n) q⟩,fun b u q n _=>by rw[aE (g b n)];exact n,fun b u q _=>?_,
  fun b xs q=>by rw[aE (f b _ q fun z=>z)];exact q,fun b u xs q=>by rw[aE (f b _ q fun z=>z)];exact q,fun b ps q=>by rw[aE (f b _ q fun z=>z)];exact q⟩
 by_cases a:b=e
 .subst a;exact d
 .exact ⟨u,k b u a q⟩
end
noncomputable def trk(h:H9)(H:Hp):List Az:=(List.range h.objs.size).filter fun a=>(H a).isSome
def kH(h:H9)(H:Hp):H9:=PySem.W.hideAll h (trk h H)
theorem x5(h:H9)(H:Hp):(kH h H).objs.size=h.objs.size:=PySem.W.hideAll_size _ _
theorem aAE{h:H9}{H:Hp}{b:Az}{o:Obj}(e:h.get? b=some o)(n:H b=none):(kH h H).get? b=some o:=
 PySem.W.hideAll_get _ e fun a=>by
  have q:(H b).isSome=true:=(D8.mp a).2
  rw[n] at q;simp at q
theorem aCZ{h:H9}{H:Hp}{b:Az}{o:Obj}(e:(kH h H).get? b=some o):h.get? b=some o/\H b=none:=by
 have a:h.get? b=some o:=PySem.W.of_hideAll (trk h H) e
 refine ⟨a,?_⟩
 cases q:H b with
 | none=>rfl
 | some x=>
  have c:b∈trk h H:=D8.mpr ⟨List.mem_range.mpr (AG a),by simp[q]⟩
  have z:(kH h H).get? b=none:=PySem.W.hideAll_none (trk h H) c
  rw[z] at e;cases e
def aC0(g h:H9)(L:Az):List (Az×Obj):=(List.range h.objs.size).filterMap fun a=>if a=L\/(g.get? a).isSome=true then none else (h.get? a).map fun o=>(a,o)
def rest(g h:H9)(L d:Az):List (Az×Obj):=(aC0 g h L).filter fun p=>decide (p.1≠d)
structure Mod(K:Frag)(mg:Str->Option V9)(base:Heap):Prop where
 kin:K.In base
 glob:base.Ns mainGlobals mg
 blt:∃ mb,base.Ns builtinsNs mb/\∀ x:Str,x≠"__name__"->mb x=bootBuiltins x
 nolimit:base.NoLimit
structure Cx where
 prog:Program
 w:World
 K:Frag
 mg:Str->Option V9
 base:Heap
 A:Around
 N:List Str
 s₀:S9
 H₀:Hp
 env:Env
 outer:List Env
 stack:List Env
 ex:List Az
 fn:Str->Bool
 calm:Bool
 pn:List (Az×Obj)
 xe:V9->S9->Prop
noncomputable def frs(l:List Env):List Az:=l.filterMap (·.frame)
abbrev Cx.fs(X:Cx):List Az:=frs X.outer
def Vis(sc:Scope)(x:Str):Prop:=sc.names.lookup x=some .local\/sc.names.lookup x=some .cell\/sc.names.lookup x=some .free
def Loc(sc:Scope)(x:Str):Prop:=sc.names.lookup x=some .local\/sc.names.lookup x=some .cell
def aIN(env:Env)(h:H9)(m:Str->O9 V9)(x:Str)(u:V9):Prop:=
 (env.kindOf x=some .local/\m x=some u)\/((env.kindOf x=some .cell\/env.kindOf x=some .free)/\∃ c,env.cells.lookup x=some c/\h.IsCell c (some u))
structure Cx.Ok(X:Cx):Prop where
 mod:Mod X.K X.mg X.base
 kind:X.env.scope.kind=.function
 glob:X.env.globals=mainGlobals
 blt:X.env.builtins=builtinsNs
 above:X.s₀.heap.objs.size<=X.env.locals
 inj:∀ x y c,X.env.cells.lookup x=some c->X.env.cells.lookup y=some c->x=y
 has:∀ x,(X.env.kindOf x=some .cell\/X.env.kindOf x=some .free)->∃ c,X.env.cells.lookup x=some c
 cab:∀ x c,X.fn x=true->X.env.cells.lookup x=some c->X.s₀.heap.objs.size<=c
 hd:X.calm=true->X.A.handled=none
 frames:X.A.frames=some X.stack
 stk:X.stack=X.outer\/(X.stack=X.env::X.outer/\X.env.frame=some X.env.locals)
 exf:∀ b∈X.ex,b≠X.env.locals/\∀ x c,X.env.cells.lookup x=some c->c≠b
 bs:∀ b o,X.base.get? b=some o->X.s₀.heap.get? b=some o/\X.H₀ b=none
 bsz:X.base.objs.size<=X.s₀.heap.objs.size
 noex:∀ b o,X.base.get? b=some o->b∉X.ex
 exfs:∀ b∈X.ex,b∉X.fs
 funs:X.s₀.heap.FunFrames X.base X.outer
 frf:∀ b∈X.fs,X.H₀ b=none
structure Inv(X:Cx)(pins:List (Az×Obj))(σ:List (Option V))(H:Hp)(s:S9):Prop where
 ok:X.Ok
 os:s.os=X.s₀.os
 bare:AllBare s.gens
 base:Un X.fs X.ex X.H₀ H X.s₀.heap s.heap
 loc:∃ m,s.heap.Ns X.env.locals m/\∀ (i:Nat) (x:Str) (v:V),X.N[i]? = some x->σ[i]? = some (some v)->Vis X.env.scope x->∃ u,aU v u/\aIN X.env s.heap m x u
 cell:∀ x c,X.env.cells.lookup x=some c->∃ v,s.heap.IsCell c v
 free:H X.env.locals=none
 freeC:∀ x c,X.env.cells.lookup x=some c->H c=none
 pin:∀ p∈X.pn++pins,s.heap.get? p.1=some p.2/\H p.1=none/\p.1≠X.env.locals/\p.1∉X.fs/\∀ v,p.2.data≠.cell v
 hok:HOk X.prog X.w H s.heap
 len:σ.length=X.N.length
section
variable{X:Cx}{pins:List (Az×Obj)}{σ:List (O9 V)}{H H':Hp}{s:S9}{h':H9}
theorem Cx.Ok.nofr(ok:X.Ok){b:Az}{o:Obj}(e:X.base.get? b=some o):b∉X.fs:=fun a=>by
 have:=(ok.funs.mem a).1
 rw[e] at this;cases this
theorem Inv.bs(I:Inv X pins σ H s):∀ b o,X.base.get? b=some o->s.heap.get? b=some o/\H b=none:=fun b o e=>
 ⟨I.base.keep b o (I.ok.bs b o e).1 (I.ok.bs b o e).2 (I.ok.nofr e) (I.ok.noex b o e),I.base.free b o (I.ok.bs b o e).1 (I.ok.bs b o e).2 (I.ok.noex b o e)⟩
theorem Inv.bk(I:Inv X pins σ H s):∀ b o,X.base.get? b=some o->s.heap.get? b=some o:=fun b o e=>(I.bs b o e).1
theorem Inv.mod(I:Inv X pins σ H s):Mod X.K X.mg X.base:=I.ok.mod
theorem Inv.kIn(I:Inv X pins σ H s):X.K.In s.heap:=I.ok.mod.kin.keeps I.bk
theorem Inv.lt(I:Inv X pins σ H s):X.env.locals < s.heap.objs.size:=let ⟨_,hn,_⟩:=I.loc;hn.lt
theorem Inv.sz(I:Inv X pins σ H s):X.s₀.heap.objs.size<=s.heap.objs.size:=A4 I.ok.above (C3 I.lt)
theorem Inv.nofs(I:Inv X pins σ H s){a:Az}(h:s.heap.objs.size<=a):a∉X.fs:=fun b=>by
 obtain ⟨_,o,c,_⟩:=I.ok.funs.mem b
 exact absurd (AN (AG c) (A4 I.sz h)) (BF _)
theorem Inv.cne(I:Inv X pins σ H s):∀ x c,X.env.cells.lookup x=some c->c≠X.env.locals:=fun x c e z=>by
 obtain ⟨v,o,d,f⟩:=I.cell x c e
 obtain ⟨m,⟨o',es,g,a,b,_⟩,_⟩:=I.loc
 rw[z,a] at d;cases d;rw[b] at f;cases f
theorem Inv.funs(I:Inv X pins σ H s):s.heap.FunFrames X.base X.outer:=by
 have all:∀ (l:List Env),(∀ b∈frs l,b∈X.fs)->X.s₀.heap.FunFrames X.base l->s.heap.FunFrames X.base l:=by
  intro l
  induction l with
  | nil=>intro _ _;trivial
  | cons env r ih=>
   intro f j
   obtain ⟨m,⟨L,o,a,k,g,i⟩,h⟩:=j
   have d:L∈X.fs:=f L (by unfold frs;rw[C6,a];exact AX)
   obtain ⟨n,e⟩:=I.base.slot L o g (I.ok.frf L d) d fun z=>I.ok.exfs L z d
   exact ⟨m,⟨L,_,a,k,e,i⟩,ih (fun b c=>f b (by unfold frs;rw[C6,a];exact AL _ c)) h⟩
 exact all X.outer (fun _ c=>c) I.ok.funs
theorem Inv.stack(I:Inv X pins σ H s):s.heap.FunFrames X.base X.stack:=by
 rcases I.ok.stk with e|⟨e,b⟩
 .rw[e];exact I.funs
 .rw[e]
  obtain ⟨m,a,_⟩:=I.loc
  refine .cons (by rw[I.ok.kind];decide) b a ?_ I.funs
  exact D9 (A4 I.ok.bsz I.ok.above)
theorem Inv.stkSub(I:Inv X pins σ H s):∀ b∈frs X.stack,b∈X.env.locals::X.fs:=fun b a=>by
 rcases I.ok.stk with e|⟨e,c⟩
 .rw[e] at a;exact AL _ a
 .rw[e] at a
  unfold frs at a
  rw[C6,c] at a
  exact a
theorem Inv.stkFree(I:Inv X pins σ H s):∀ b∈frs X.stack,H b=none:=fun b a=>by
 rcases AT.mp (I.stkSub b a) with e|a
 .rw[e];exact I.free
 .obtain ⟨_,o,c,_⟩:=I.ok.funs.mem a
  exact I.base.free b o c (I.ok.frf b a) fun z=>I.ok.exfs b z a
theorem Inv.step{g':Array GenState}{t':Nat}{d':Drawn}{ch:List Az}(I:Inv X pins σ H s)
  (g:∀ b∈ch,(b∈X.ex\/X.s₀.heap.objs.size<=b)/\b≠X.env.locals/\(∀ x c,X.env.cells.lookup x=some c->c≠b)/\∀ p∈X.pn++pins,p.1≠b)
  (keep:∀ b o,b≠X.env.locals->b∉X.fs->b∉ch->s.heap.get? b=some o->H b=none->h'.get? b=some o)
  (slot:∀ b o,b≠X.env.locals->b∈X.fs->b∉ch->s.heap.get? b=some o->H b=none->∃ sl,h'.get? b=some {o with slots:=sl}) (free:∀ b o,b∉ch->s.heap.get? b=some o->H b=none->H' b=none)
  (there:∀ b o,b∉ch->s.heap.get? b=some o->∃ o',h'.get? b=some o')
  (tups:∀ b xs,H b=some (.tup xs)->H' b=some (.tup xs)) (frzs:∀ b o u,H b=some (.frz o u)->H' b=some (.frz o u)) (tbls:∀ b ps,H b=some (.tbl ps)->H' b=some (.tbl ps))
  (ns:∀ m,s.heap.Ns X.env.locals m->h'.Ns X.env.locals m) (hok:HOk X.prog X.w H' h') (hg:AllBare g') :
  Inv X pins σ H' {s with heap:=h',gens:=g',drawn:=d',toks:=t'}:=by
 have A:∀ b o,X.s₀.heap.get? b=some o->b≠X.env.locals:=fun b o e=>A3 (AN (AG e) I.ok.above)
 have j:∀ b o,X.s₀.heap.get? b=some o->b∉X.ex->b∉ch:=fun b o e a t=>by
  rcases (g b t).1 with z|z
  .exact a z
  .exact absurd (AN (AG e) z) (BF _)
 have f:∀ x c,X.env.cells.lookup x=some c->∀ v,s.heap.IsCell c v->h'.IsCell c v:=fun x c e v B=>by
  obtain ⟨o,y,D⟩:=B
  have h:c∉ch:=fun z=>(g c z).2.2.1 x c e rfl
  by_cases J:c∈X.fs
  .obtain ⟨sl,q⟩:=slot c o (I.cne x c e) J h y (I.freeC x c e)
   exact ⟨_,q,D⟩
  .exact ⟨o,keep c o (I.cne x c e) J h y (I.freeC x c e),D⟩
 refine ⟨I.ok,I.os,hg,⟨fun b o e n t a=>?_,fun b o e n t a=>?_,fun b o e n a=>?_,fun b o e a=>?_,fun b xs e=>tups b xs (I.base.tups b xs e),fun b o xs e=>frzs b o xs (I.base.frzs b o xs e),fun b ps e=>?_⟩,?_,fun x c e=>?_,?_,fun x c e=>?_,fun p E=>?_,hok,I.len⟩
 .exact keep b o (A b o e) t (j b o e a) (I.base.keep b o e n t a) (I.base.free b o e n a)
 .obtain ⟨sl,e1⟩:=I.base.slot b o e n t a
  obtain ⟨C,e2⟩:=slot b _ (A b o e) t (j b o e a) e1 (I.base.free b o e n a)
  exact ⟨C,e2⟩
 .obtain ⟨o',e1⟩:=I.base.there b o e a
  exact free b o' (j b o e a) e1 (I.base.free b o e n a)
 .obtain ⟨o',e1⟩:=I.base.there b o e a
  exact there b o' (j b o e a) e1
 .exact tbls b ps (I.base.tbls b ps e)
 .obtain ⟨m,L,M⟩:=I.loc
  refine ⟨m,ns m L,fun i x v e1 e2 K=>?_⟩
  obtain ⟨u,r,l⟩:=M i x v e1 e2 K
  refine ⟨u,r,?_⟩
  rcases l with l|⟨k,c,e,z⟩
  .exact .inl l
  .exact .inr ⟨k,c,e,f x c e _ z⟩
 .obtain ⟨v,z⟩:=I.cell x c e
  exact ⟨v,f x c e v z⟩
 .obtain ⟨m,⟨o,_,_,y,_⟩,_⟩:=I.loc
  exact free _ o (fun z=>(g _ z).2.1 rfl) y I.free
 .obtain ⟨v,o,y,D⟩:=I.cell x c e
  exact free c o (fun z=>(g c z).2.2.1 x c e rfl) y (I.freeC x c e)
 .obtain ⟨e,n,G,F,d⟩:=I.pin p E
  have h:p.1∉ch:=fun z=>(g p.1 z).2.2.2 p E rfl
  exact ⟨keep p.1 p.2 G F h e n,free p.1 p.2 h e n,G,F,d⟩
theorem Inv.un{t':Nat}(I:Inv X pins σ H s)(u:Un X.fs [] H H' s.heap h')(hok:HOk X.prog X.w H' h'):Inv X pins σ H' {s with heap:=h',toks:=t'}:=by
 obtain ⟨m,⟨o,es,l,g,r⟩,_⟩:=id I.loc
 obtain ⟨k,j⟩:=u.any g I.free (by simp)
 exact I.step (g':=s.gens) (d':=s.drawn) (ch:=[]) (fun _ z=>nomatch z) (fun b o _ f _ e n=>u.keep b o e n f (by simp)) (fun b o _ f _ e n=>u.slot b o e n f (by simp)) (fun b o _ e n=>u.free b o e n (by simp)) (fun b o _ e=>u.there b o e (by simp)) u.tups u.frzs u.tbls (fun p i=>by
  obtain ⟨o',c,d,a,h⟩:=i
  rw[g] at a;cases a
  exact ⟨_,c,d,j,h⟩) hok I.bare
theorem Inv.call{g':Array GenState}{t':Nat}{d':Drawn}{ch:List Az}(I:Inv X pins σ H s)(u:Un (frs X.stack) ch H H' s.heap h')(hok:HOk X.prog X.w H' h')(l:AllBare g')
  (f:∀ b∈ch,(b∈X.ex\/X.s₀.heap.objs.size<=b)/\b≠X.env.locals/\(∀ x c,X.env.cells.lookup x=some c->c≠b)/\∀ p∈X.pn++pins,p.1≠b) :
  Inv X pins σ H' {s with heap:=h',gens:=g',drawn:=d',toks:=t'}:=by
 obtain ⟨m,⟨o,es,y,j,r⟩,_⟩:=id I.loc
 obtain ⟨v,i⟩:=u.any j I.free fun z=>(f _ z).2.1 rfl
 exact I.step (ch:=ch) f (fun b o i t a e n=>u.keep b o e n (fun z=>(AT.mp (I.stkSub b z)).elim i t) a) (fun b o _ _ a e n=>u.any e n a) (fun b o a e n=>u.free b o e n a) (fun b o a e=>u.there b o e a) u.tups u.frzs u.tbls (fun A q=>by
  obtain ⟨o',g,h,d,k⟩:=q
  rw[j] at d;cases d
  exact ⟨_,g,h,i,k⟩) hok l
theorem Inv.turned{t':Nat}{it:Az}(I:Inv X pins σ H s)(k:∀ b o,b≠it->s.heap.get? b=some o->h'.get? b=some o)(i:H it=none)(f:it≠X.env.locals)
  (h1:it∈X.ex\/X.s₀.heap.objs.size<=it) (h2:∀ x c,X.env.cells.lookup x=some c->c≠it) (g:∀ p∈X.pn++pins,p.1≠it):Inv X pins σ H {s with heap:=h',toks:=t'}:=by
 have d:∀ b u,H b=some u->b≠it:=fun b u e z=>by rw[z,i] at e;cases e
 refine I.step (g':=s.gens) (d':=s.drawn) (ch:=[it]) (fun b l=>?_) (fun b o _ _ a e _=>k b o (fun z=>a (by simp[z])) e) (fun b o _ _ a e _=>⟨o.slots,k b o (fun z=>a (by simp[z])) e⟩) (fun _ _ _ _ n=>n)
  (fun b o a e=>⟨o,k b o (fun z=>a (by simp[z])) e⟩) (fun _ _ e=>e) (fun _ _ _ e=>e) (fun _ _ e=>e) (fun m t=>?_) (fun b u e=>?_) I.bare
 .have e:b=it:=by simpa using l
  subst e
  exact ⟨h1,f,h2,g⟩
 .obtain ⟨o,es,j,h,r⟩:=t
  exact ⟨o,es,j,k _ o (BO f) h,r⟩
 .refine (I.hok b u e).stay (fun c v a q=>k c v ?_ q) (fun _ q=>q) (fun _ _ q=>q) fun _ _ q=>q
  rcases a with z|z
  · rw [z]; exact d b u e
  · exact d c _ z
theorem Inv.tok(I:Inv X pins σ H s)(t:Nat):Inv X pins σ H {s with toks:=t}:=I.un (h':=s.heap) (t':=t) Un.refl I.hok
theorem Inv.kept{t':Nat}(I:Inv X pins σ H s)(k:∀ b u,s.heap.get? b=some u->h'.get? b=some u):Inv X pins σ H {s with heap:=h',toks:=t'}:=I.un (Un.kept k) (I.hok.kept k)
theorem Inv.laid{a:Az}{o:HO}{t':Nat}(I:Inv X pins σ H s)(k:∀ b u,s.heap.get? b=some u->h'.get? b=some u)(c:s.heap.objs.size<=a)(new:bP X.prog X.w (upd H a o) h' a o) :
 Inv X pins σ (upd H a o) {s with heap:=h',toks:=t'}:=I.un (Un.laid k c (I.hok.fresh c)) (I.hok.laid k c new)
theorem Inv.write{x e:Az}{o:HO}{t':Nat}(I:Inv X pins σ H s)(c:Mut (H x))(d:e=x\/H e=some (.own x))(k:∀ b u,b≠e->s.heap.get? b=some u->h'.get? b=some u)(a:∃ u,h'.get? e=some u)
 (new:bP X.prog X.w (upd H x o) h' x o):Inv X pins σ (upd H x o) {s with heap:=h',toks:=t'}:=I.un (Un.write c d k a) (I.hok.write c d k a new)
theorem Inv.pins_of{pins':List (Az×Obj)}(I:Inv X pins σ H s)(h:∀ p∈pins',s.heap.get? p.1=some p.2/\H p.1=none/\p.1≠X.env.locals/\p.1∉X.fs/\∀ v,p.2.data≠.cell v):Inv X pins' σ H s:=
 ⟨I.ok,I.os,I.bare,I.base,I.loc,I.cell,I.free,I.freeC,fun p a=>(B6.mp a).elim (fun z=>I.pin p (CH _ z)) (h p),I.hok,I.len⟩
theorem nX{N:List Str}(c:N.Nodup){i j:Nat}{x:Str}(a:N[i]? = some x)(b:N[j]? = some x):i=j:=by
 obtain ⟨h1,e1⟩:=AU.mp a
 obtain ⟨h2,e2⟩:=AU.mp b
 exact (List.getElem_inj c).mp (e1.trans e2.symm)
theorem qO{M:Model}{A:U9}{E:V9->S9->Prop}{i:Nat}{x:Str}{v:V}{u:V9}{Q:Unit->S9->Prop}(I:Inv X pins σ H s)(hN:X.N.Nodup)(hi:X.N[i]? = some x)(hx:Loc X.env.scope x)(r:aU v u)
  (h:∀ s',Inv X pins (σ.set i (some v)) H s'->(∃ a,Heap.SameBut a s.heap s'.heap/\(a=X.env.locals\/X.env.cells.lookup x=some a))->Q () s') (hf:X.fn x=true\/X.env.scope.names.lookup x=some .local):wpAny M A (storeName X.env x u) Q E s:=by
 obtain ⟨m,Y,hl⟩:=id I.loc
 have J:(X.env.scope.kind == .class || (X.env.scope.kind == .module && X.env.locals != X.env.globals))=false:=by rw[I.ok.kind];rfl
 have B:i < σ.length:=by rw[I.len];exact (AU.mp hi).1
 have cne:=I.cne
 have g:∀ {a:Az} {h':H9},(∃ o,s.heap.get? a=some o/\H a=none)->Heap.SameBut a s.heap h'->HOk X.prog X.w H h':=fun {a h'} ha f b ob e=>by
  obtain ⟨_,_,t⟩:=ha
  refine (I.hok b ob e).stay (fun c S l q=>(f.2 c ?_).trans q) (fun _ q=>q) (fun _ _ q=>q) fun _ _ q=>q
  rintro rfl
  rcases l with rfl|l
  .rw[t] at e;cases e
  .rw[t] at l;cases l
 rcases hx with C|C
 .refine wpAny_storeName_local C Y (fun h' ac f=>?_) J
  obtain ⟨oL,_,_,aa,_⟩:=id Y
  refine h _ ⟨I.ok,I.os,I.bare,⟨fun b o e n F hx=>?_,fun b o e n F hx=>?_,I.base.free,fun b o e hx=>?_,I.base.tups,I.base.frzs,I.base.tbls⟩,⟨_,ac,fun j y v' e1 e2 W=>?_⟩,fun y c e=>?_,I.free,I.freeC,fun p U=>?_,g ⟨oL,aa,I.free⟩ f,by simpa using I.len⟩ ⟨_,f,.inl rfl⟩
  .exact (f.2 b (A3 (AN (AG e) I.ok.above))).trans (I.base.keep b o e n F hx)
  .obtain ⟨Z,e1⟩:=I.base.slot b o e n F hx
   exact ⟨Z,(f.2 b (A3 (AN (AG e) I.ok.above))).trans e1⟩
  .obtain ⟨o',e1⟩:=I.base.there b o e hx
   exact ⟨o',(f.2 b (A3 (AN (AG e) I.ok.above))).trans e1⟩
  .by_cases D:j=i
   .subst D
    rw[hi] at e1;cases e1
    rw[BR B] at e2
    cases e2
    exact ⟨u,r,.inl ⟨C,by simp⟩⟩
   .rw[A9 (BO D)] at e2
    obtain ⟨u',r',q⟩:=hl j y v' e1 e2 W
    refine ⟨u',r',?_⟩
    rcases q with ⟨k,e⟩|⟨k,c,e,z⟩
    .refine .inl ⟨k,?_⟩
     have:y≠x:=fun e=>D (nX hN e1 (e▸hi))
     simp[this,e]
    .exact .inr ⟨k,c,e,z.sameBut f (cne y c e)⟩
  .obtain ⟨S,z⟩:=I.cell y c e
   exact ⟨S,z.sameBut f (cne y c e)⟩
  .obtain ⟨e,n,R,nf,d⟩:=I.pin p U
   exact ⟨(f.2 p.1 R).trans e,n,R,nf,d⟩
 .have G:X.fn x=true:=by
   rcases hf with z|z
   .exact z
   .rw[z] at C;cases C
  obtain ⟨c,l⟩:=I.ok.has x (.inl C)
  obtain ⟨S,z⟩:=I.cell x c l
  refine wpAny_storeName_cell I.ok.kind C l z (fun h' L f=>?_)
  obtain ⟨oc,P,O⟩:=id z
  refine h {s with heap:=h'} ⟨I.ok,I.os,I.bare,⟨fun b o e n F hx=>?_,fun b o e n F hx=>?_,I.base.free,fun b o e hx=>?_,I.base.tups,I.base.frzs,I.base.tbls⟩,⟨m,Y.sameBut f (BO (cne x c l)),fun j y v' e1 e2 W=>?_⟩,fun y T e=>?_,I.free,I.freeC,fun p U=>?_,g ⟨oc,P,I.freeC x c l⟩ f,by simpa using I.len⟩ ⟨c,f,.inr l⟩
  .exact (f.2 b (A3 (AN (AG e) (I.ok.cab x c G l)))).trans (I.base.keep b o e n F hx)
  .obtain ⟨Z,e1⟩:=I.base.slot b o e n F hx
   exact ⟨Z,(f.2 b (A3 (AN (AG e) (I.ok.cab x c G l)))).trans e1⟩
  .obtain ⟨o',e1⟩:=I.base.there b o e hx
   exact ⟨o',(f.2 b (A3 (AN (AG e) (I.ok.cab x c G l)))).trans e1⟩
  .by_cases D:j=i
   .subst D
    rw[hi] at e1;cases e1
    rw[BR B] at e2
    cases e2
    exact ⟨u,r,.inr ⟨.inl C,c,l,L⟩⟩
   .rw[A9 (BO D)] at e2
    obtain ⟨u',r',q⟩:=hl j y v' e1 e2 W
    refine ⟨u',r',?_⟩
    rcases q with q|⟨k,T,e,z'⟩
    .exact .inl q
    .refine .inr ⟨k,T,e,z'.sameBut f ?_⟩
     rintro rfl
     exact D (nX hN e1 (I.ok.inj _ _ _ e l▸hi))
  .by_cases K:T=c
   .subst K;exact ⟨_,L⟩
   .obtain ⟨w2,z2⟩:=I.cell y T e
    exact ⟨w2,z2.sameBut f K⟩
  .obtain ⟨e,n,R,nf,d⟩:=I.pin p U
   refine ⟨(f.2 p.1 ?_).trans e,n,R,nf,d⟩
   intro q
   rw[q,P] at e
   have q':oc=p.2:=BP e
   exact d S (by rw[<-q'];exact O)
theorem k7{M:Model}{A:U9}{E:V9->S9->Prop}{i:Nat}{x:Str}{v:V}{u:V9}{Q:Unit->S9->Prop}(I:Inv X pins σ H s)(c:X.N.Nodup)(hi:X.N[i]? = some x)(hx:Loc X.env.scope x)(r:aU v u)
  (h:∀ s',Inv X pins (σ.set i (some v)) H s'->Q () s') (b:X.fn x=true\/X.env.scope.names.lookup x=some .local):wpAny M A (storeName X.env x u) Q E s:=
 qO I c hi hx r (fun s' a _=>h s' a) b
theorem Inv.call'{s':S9}{ch:List Az}(I:Inv X pins σ H s)(f:s'.os=s.os)(u:Un (frs X.stack) ch H H' s.heap s'.heap)(hok:HOk X.prog X.w H' s'.heap)(d:AllBare s'.gens)
  (a:∀ b∈ch,(b∈X.ex\/X.s₀.heap.objs.size<=b)/\b≠X.env.locals/\(∀ x c,X.env.cells.lookup x=some c->c≠b)/\∀ p∈X.pn++pins,p.1≠b):Inv X pins σ H' s':=by
 obtain ⟨h',g',d',t',o'⟩:=s'
 have e:o'=s.os:=f
 subst e
 exact I.call (g':=g') (t':=t') (d':=d') u hok d a
end
abbrev XK:=V9->O9 Az->Hp->Prop
abbrev St:=List (O9 V)
abbrev VK:=V->Hp->Prop
abbrev TE:=St->Hp->VK->Prop
abbrev TT:=St->Hp->(Bool->Hp->Prop)->Prop
abbrev TA:=St->Hp->(List V->Hp->Prop)->Prop
structure gY where
 nx:St->Hp->Prop
 rt:VK
 bk:St->Hp->Prop:=fun _ _=>False
 ct:St->Hp->Prop:=fun _ _=>False
abbrev TS:=gY->St->Hp->Prop
def EP(X:Cx)(pins:List (Az×Obj))(σ:St)(Q:VK)(u:V9)(s':S9):Prop:=∃ v H',Inv X pins σ H' s'/\aU v u/\Q v H'
def TP(X:Cx)(pins:List (Az×Obj))(σ:St)(Q:Bool->Hp->Prop)(b:Bool)(s':S9):Prop:=∃ H',Inv X pins σ H' s'/\Q b H'
def AP(X:Cx)(pins:List (Az×Obj))(σ:St)(Q:List V->Hp->Prop)(us:List V9)(s':S9):Prop:=∃ vs H',Inv X pins σ H' s'/\aW vs us/\Q vs H'
def SP(X:Cx)(pins:List (Az×Obj))(D:gY)(f:Flow)(s':S9):Prop:=
 match f with
 | .next=>∃ σ' H',Inv X pins σ' H' s'/\D.nx σ' H'
 | .brk=>∃ σ' H',Inv X pins σ' H' s'/\D.bk σ' H'
 | .cont=>∃ σ' H',Inv X pins σ' H' s'/\D.ct σ' H'
 | .ret u=>∃ v σ' H',Inv X pins σ' H' s'/\aU v u/\D.rt v H'
def PE(X:Cx)(e:E1)(t:TE):Prop:=
 ∀ (pins:List (Az×Obj)) (s:S9) (σ:St) (H:Hp) (Q:VK),Inv X pins σ H s->t σ H Q->wpAny (model X.prog X.w) X.A (eval e X.env) (EP X pins σ Q) X.xe s
def PT(X:Cx)(e:E1)(t:TT):Prop:=
 ∀ (pins:List (Az×Obj)) (s:S9) (σ:St) (H:Hp) (Q:Bool->Hp->Prop),Inv X pins σ H s->t σ H Q->wpAny (model X.prog X.w) X.A (isTrue e X.env (eval e X.env)) (TP X pins σ Q) X.xe s
def PW(X:Cx)(e:E1)(t:TT):Prop:=
 ∀ (whole:Sem V9) (pins:List (Az×Obj)) (s:S9) (σ:St) (H:Hp) (Q:Bool->Hp->Prop),Inv X pins σ H s->t σ H Q->wpAny (model X.prog X.w) X.A (isTrue e X.env whole) (TP X pins σ Q) X.xe s
theorem PW.pt{X:Cx}{e:E1}{t:TT}(h:PW X e t):PT X e t:=h _
def PA(X:Cx)(es:List E1)(t:TA):Prop:=
 ∀ (pos:Pos) (pins:List (Az×Obj)) (s:S9) (σ:St) (H:Hp) (Q:List V->Hp->Prop),Inv X pins σ H s->t σ H Q->wpAny (model X.prog X.w) X.A (spliced (backTo pos (starEach es X.env))) (AP X pins σ Q) X.xe s
def PS(X:Cx)(st:Stmt)(t:TS):Prop:=
 ∀ (pins:List (Az×Obj)) (s:S9) (σ:St) (H:Hp) (D:gY),Inv X pins σ H s->t D σ H->wpAny (model X.prog X.w) X.A (exec st X.env) (SP X pins D) X.xe s
def PSs(X:Cx)(st:List Stmt)(t:TS):Prop:=
 ∀ (pins:List (Az×Obj)) (s:S9) (σ:St) (H:Hp) (D:gY),Inv X pins σ H s->t D σ H->wpAny (model X.prog X.w) X.A (execs st X.env) (SP X pins D) X.xe s
theorem thn{α:Type}{t:Sem α}{Q b:α->S9->Prop}{M:Model}{A:U9}{E:V9->S9->Prop}{s:S9}(h:wpAny M A t Q E s)(c:∀ a s,Q a s->b a s):wpAny M A t b E s:=BG h c fun _ _ x=>x
section
variable{X:Cx}
def gR(i:Nat):TE:=fun σ H Q=>∃ v,σ[i]? = some (some v)/\Q v H
def tC(v:V):TE:=fun _ H Q=>Q v H
theorem aE7{i:Nat}{x:Str}{pos:Pos}(k:X.N[i]? = some x)(o:Vis X.env.scope x)(f:(x == ("__debug__":Str))=false:=by decide)(hcd:(x == ("__classdict__":Str))=false:=by decide):PE X (.Name x pos) (gR i):=by
 intro pins s σ H Q I h
 obtain ⟨v,e,h⟩:=h
 obtain ⟨m,n,j⟩:=I.loc
 obtain ⟨u,r,l⟩:=j i x v k e o
 have d:EP X pins σ Q u s:=⟨v,H,I,r,h⟩
 rcases l with ⟨b,p⟩|⟨b,c,g,a⟩
 .exact wpAny_Name (wpAny_loadName_local I.ok.kind b n p d) f
 .rcases b with b|b
  · exact wpAny_Name (wpAny_loadName_cell I.ok.kind b g a d) f
  · exact wpAny_Name (wpAny_loadName_free I.ok.kind b g a d hcd) f
theorem aE8{i j pos}:PE X (.Constant (.int i) j pos) (tC (.int i)):=fun _ _ _ H _ I h=>wpAny_Constant_int ⟨.int i,H,I.tok _,⟨_,rfl⟩,h⟩
theorem aHH{b j pos}:PE X (.Constant (.bool b) j pos) (tC (.bl b)):=fun _ _ _ H _ I h=>Constant_bool ⟨.bl b,H,I,rfl,h⟩
theorem aE9{j pos}:PE X (.Constant .none j pos) (tC .non):=fun _ _ _ H _ I h=>Constant_none ⟨.non,H,I,rfl,h⟩
theorem aFA{x j pos}:PE X (.Constant (.str x) j pos) (tC (.str x)):=fun _ _ _ H _ I h=>Calls.Constant_str ⟨.str x,H,I.tok _,⟨_,rfl⟩,h⟩
def Gl(X:Cx)(x:Str):Prop:=X.env.kindOf x=some .globalImplicit
theorem kL{E:V9->S9->Prop}{pins:List (Az×Obj)}{s:S9}{σ:St}{H:Hp}{x:Str}{u:V9}{pos:Pos}{Q:V9->S9->Prop}(I:Inv X pins σ H s)(a:Gl X x)(c:X.mg x=some u)(h:Q u s)
  (b:(x == ("__debug__":Str))=false:=by decide):wpAny (model X.prog X.w) X.A (eval (.Name x pos) X.env) Q E s:=
 EK I.ok.kind a (Calls.loadGlobal_global (by rw[I.ok.glob];exact I.mod.glob.keeps I.bk) c h) b
theorem jS{E:V9->S9->Prop}{pins:List (Az×Obj)}{s:S9}{σ:St}{H:Hp}{x:Str}{u:V9}{pos:Pos}{Q:V9->S9->Prop}(I:Inv X pins σ H s)(a:Gl X x)(d:X.mg x=none)(c:bootBuiltins x=some u)(h:Q u s)
  (b:x≠"__name__":=by decide) (hd:(x == ("__debug__":Str))=false:=by decide):wpAny (model X.prog X.w) X.A (eval (.Name x pos) X.env) Q E s:=by
 obtain ⟨e,h1,h2⟩:=I.mod.blt
 exact EK I.ok.kind a (Calls.loadGlobal_builtin (by rw[I.ok.glob];exact I.mod.glob.keeps I.bk) d (by rw[I.ok.blt];exact h1.keeps I.bk) ((h2 x b).trans c) h) hd
theorem jN{x:Str}{v:V}{u:V9}{pos:Pos}(a:Gl X x)(c:X.mg x=some u)(r:aU v u)(b:(x == ("__debug__":Str))=false:=by decide):PE X (.Name x pos) (tC v):=
 fun _ _ _ H _ I h=>kL I a c ⟨v,H,I,r,h⟩ b
theorem pM{x:Str}{v:V}{u:V9}{pos:Pos}(a:Gl X x)(d:X.mg x=none)(c:bootBuiltins x=some u)(r:aU v u)(b:x≠"__name__":=by decide)(hd:(x == ("__debug__":Str))=false:=by decide):PE X (.Name x pos) (tC v):=
 fun _ _ _ H _ I h=>jS I a d c ⟨v,H,I,r,h⟩ b hd
variable{a b:E1}{ta tb:TE}{pos:Pos}
def PC(X:Cx)(op:CmpOp)(a b:E1)(t:TE):Prop:=
 ∀ (pins:List (Az×Obj)) (s:S9) (σ:St) (H:Hp) (Q:VK),Inv X pins σ H s->t σ H Q->
  wpAny (model X.prog X.w) X.A (eval a X.env) (fun v s₁=>wpAny (model X.prog X.w) X.A (eval b X.env) (fun u s₂=>wpAny (model X.prog X.w) X.A (compareOp op v u) (EP X pins σ Q) X.xe s₂) X.xe s₁) X.xe s
theorem aAF(b:E1){a:CmpOp}(h:a≠.In)(h2:a≠.NotIn):behindInMarks a b=false:=by
 have e1:(a == CmpOp.In)=false:=by cases a<;>first|rfl|exact absurd rfl h
 have e2:(a == CmpOp.NotIn)=false:=by cases a<;>first|rfl|exact absurd rfl h2
 cases b<;>simp[behindInMarks,e1,e2]
def tB(t:TE):TT:=fun σ H Q=>t σ H fun x H1=>∃ c,x=.bl c/\Q c H1
theorem bZ{f:CmpOp}{t:TE}(h:PC X f a b t)(h1:behindInMarks f b=false:=by first|exact aAF _ (by decide) (by decide)|rfl):PT X (.Compare a [f] [b] pos) (tB t):=by
 intro pins s σ H Q I i
 refine wpAny_isTrue_Compare1 (thn (h pins s σ H _ I i) fun v s1 h1=>thn h1 fun u l h2=>thn h2 fun c m e=>?_) h1
 obtain ⟨x,H1,k,g,j⟩:=e
 obtain ⟨d,rfl,q⟩:=j
 cases g
 exact DY ⟨H1,k,q⟩
theorem gN{e:E1}{t:TE}(h:PE X e t)(i:∀ whole,isTrue e X.env whole=(do let v <-whole;standAt e.pos;holding [v] (truthy v)):=by intro _;rfl):PT X e (tB t):=by
 intro pins s σ H Q I c
 refine isTrue_plain (thn (h pins s σ H _ I c) fun v s1 a=>?_) (i _)
 obtain ⟨x,H1,g,b,f⟩:=a
 obtain ⟨d,rfl,q⟩:=f
 cases b
 exact DY ⟨H1,g,q⟩
variable{tA tB':TT}{rest:List E1}
def aFB(t u:TT):TT:=fun σ H Q=>t σ H fun c H1=>if c=true then u σ H1 Q else Q false H1
def tOr(t u:TT):TT:=fun σ H Q=>t σ H fun c H1=>if c=true then Q true H1 else u σ H1 Q
def aIO(t:TT):TT:=fun σ H Q=>t σ H fun c H1=>Q (!c) H1
theorem pN(b:PT X a tA):PW X (.BoolOp .And [a] pos) tA:=by
 intro d pins s σ H Q I h
 refine isTrue_and (thn (b pins s σ H Q I h) fun c s1 e=>?_)
 cases c with
 | true=>exact isTrue_and_nil e
 | false=>exact e
theorem kM(b:PT X a tA):PW X (.BoolOp .Or [a] pos) tA:=by
 intro d pins s σ H Q I h
 refine isTrue_or (thn (b pins s σ H Q I h) fun c s1 e=>?_)
 cases c with
 | false=>exact isTrue_or_nil e
 | true=>exact e
theorem sC(i:PT X a tA)(j:PW X (.BoolOp .And (b::rest) pos) tB'):PW X (.BoolOp .And (a::b::rest) pos) (aFB tA tB'):=by
 intro g pins s σ H Q I h
 refine isTrue_and (thn (i pins s σ H _ I h) fun c s1 d=>?_)
 obtain ⟨H1,f,e⟩:=d
 cases c with
 | true=>exact j g pins s1 σ H1 Q f e
 | false=>exact ⟨H1,f,e⟩
theorem k8(i:PT X a tA)(j:PW X (.BoolOp .Or (b::rest) pos) tB'):PW X (.BoolOp .Or (a::b::rest) pos) (tOr tA tB'):=by
 intro g pins s σ H Q I h
 refine isTrue_or (thn (i pins s σ H _ I h) fun c s1 d=>?_)
 obtain ⟨H1,f,e⟩:=d
 cases c with
 | true=>exact ⟨H1,f,e⟩
 | false=>exact j g pins s1 σ H1 Q f e
theorem l7(b:PT X a tA):PT X (.UnaryOp .Not a pos) (aIO tA):=by
 intro pins s σ H Q I h
 exact isTrue_not (b pins s σ H (fun c H1=>Q (!c) H1) I h)
def aHI(ta tb:TE):TE:=fun σ H Q=>ta σ H fun x H1=>∃ c,x=.bl c/\if c=true then tb σ H1 Q else Q (.bl false) H1
theorem aFC{op}{t:TE}(h:PE X a t):PE X (.BoolOp op [a] pos) t:=fun pins s σ H Q I b=>BoolOp_one (h pins s σ H Q I b)
theorem aFD(i:PE X a ta)(j:PE X (.BoolOp .And (b::rest) pos) tb):PE X (.BoolOp .And (a::b::rest) pos) (aHI ta tb):=by
 intro pins s σ H Q I h
 refine BoolOp_and (thn (i pins s σ H _ I h) fun v s1 e=>?_)
 obtain ⟨x,H1,f,g,d⟩:=e
 obtain ⟨c,rfl,d⟩:=d
 cases g
 refine DY ?_
 cases c with
 | true=>exact j pins s1 σ H1 Q f d
 | false=>exact ⟨.bl false,H1,f,rfl,d⟩
def tIf(t:TT)(ta tb:TE):TE:=fun σ H Q=>t σ H fun c H1=>if c=true then ta σ H1 Q else tb σ H1 Q
theorem aAG{c:E1}(i:PT X c tA)(j:PE X a ta)(k:PE X b tb):PE X (.IfExp c a b pos) (tIf tA ta tb):=by
 intro pins s σ H Q I h
 refine wpAny_IfExp (thn (i pins s σ H _ I h) fun d s1 e=>?_)
 obtain ⟨H1,g,f⟩:=e
 cases d with
 | true=>exact j pins s1 σ H1 Q g f
 | false=>exact k pins s1 σ H1 Q g f
end
def SqL(K:Frag)(H:Hp)(a:Az)(xs:List V):Prop:=
 Rd H a (.lst xs) \/
  ∃ (o:Obj) (its:Array V9) (n:Nat),K.lookup a=some o/\o.cls=.type "list"/\o.dict=none/\o.data=.seq its n/\its.size<=sizeLine/\aW xs its.toList
def SqT(K:Frag)(H:Hp)(a:Az)(xs:List V):Prop:=
 Rd H a (.tup xs) \/
  ∃ (o:Obj) (its:Array V9) (n:Nat),K.lookup a=some o/\(o.cls=.type "tuple"/\o.dict=none)/\o.data=.seq its n/\its.size<=sizeLine/\aW xs its.toList
noncomputable def aIP:V9->O9 V
 | .none=>some .non
 | .bool b=>some (.bl b)
 | .int i _=>some (.int i)
 | .str x _=>some (.str x)
 | .bytes b _=>some (.byt b)
 | .float b _=>some (.flt b)
 | .ref a=>some (.ref a)
 | .type n=>some (.ty n)
 | _=>none
theorem aU.abs{x:V}{u:V9}(r:aU x u):aIP u=some x:=by
 cases x with
 | non=>cases r;rfl
 | bl _=>cases r;rfl
 | int _=>obtain ⟨t,rfl⟩:=r;rfl
 | str _=>obtain ⟨t,rfl⟩:=r;rfl
 | byt _=>obtain ⟨t,rfl⟩:=r;rfl
 | flt _=>obtain ⟨t,rfl⟩:=r;rfl
 | ref _=>cases r;rfl
 | ty _=>cases r;rfl
theorem aU.inj{x y:V}{u:V9}(r:aU x u)(q:aU y u):x=y:=BP (r.abs.symm.trans q.abs)
theorem aW.inj:∀ {xs ys:List V} {us:List V9},aW xs us->aW ys us->xs=ys
 | _,_,_,.nil,.nil=>rfl
 | _,_,_,.cons r t,.cons r' t'=>by rw[r.inj r',aW.inj t t']
section
variable{X:Cx}{pins:List (Az×Obj)}{σ:St}{H:Hp}{s:S9}{a:Az}{xs ys:List V}
theorem SqL.of{K:Frag}(h:H a=some (.lst xs)):SqL K H a xs:=.inl (.inl h)
theorem SqT.of{K:Frag}(h:H a=some (.tup xs)):SqT K H a xs:=.inl (.inl h)
theorem Inv.list(I:Inv X pins σ H s)(h:SqL X.K H a xs):∃ its:List V9,aW xs its/\PlainL s.heap a its.toArray/\xs.length<=sizeLine:=by
 rcases h with h|⟨o,its,n,d,b,f,c,g,r⟩
 .obtain ⟨z,its,n,r,e⟩:=h.ok I.hok
  exact ⟨its,r,⟨_,n,e,rfl,rfl,rfl⟩,z⟩
 .refine ⟨its.toList,r,⟨o,n,I.kIn a o d,b,f,by simpa using c⟩,?_⟩
  have e:=r.length
  simp only[BN] at e
  omega
theorem Inv.tuple(I:Inv X pins σ H s)(h:SqT X.K H a xs):∃ its:List V9,aW xs its/\IsTup s.heap a its.toArray/\xs.length<=sizeLine:=by
 rcases h with h|⟨o,its,n,d,b,c,f,r⟩
 .obtain ⟨z,its,r,p⟩:=h.ok I.hok
  exact ⟨its,r,p.t,z⟩
 .refine ⟨its.toList,r,⟨o,I.kIn a o d,b.1,n,by simpa using c⟩,?_⟩
  have e:=r.length
  simp only[BN] at e
  omega
theorem Inv.list_inj(I:Inv X pins σ H s)(h:SqL X.K H a xs)(h':SqL X.K H a ys):xs=ys:=by
 obtain ⟨c,r,⟨o,n,e,_,_,d⟩,_⟩:=I.list h
 obtain ⟨b,i,⟨o',j,f,_,_,g⟩,_⟩:=I.list h'
 rw[e] at f;cases f
 rw[d] at g
 injection g with d1 _
 have:c=b:=by simpa using congrArg Array.toList d1
 subst this
 exact r.inj i
theorem Inv.tuple_inj(I:Inv X pins σ H s)(h:SqT X.K H a xs)(h':SqT X.K H a ys):xs=ys:=by
 obtain ⟨c,r,⟨o,e,_,n,d⟩,_⟩:=I.tuple h
 obtain ⟨b,i,⟨o',f,_,j,g⟩,_⟩:=I.tuple h'
 rw[e] at f;cases f
 rw[d] at g
 injection g with d1 _
 have:c=b:=by simpa using congrArg Array.toList d1
 subst this
 exact r.inj i
end
abbrev Cx.wish(X:Cx)(E:V9->S9->Prop):Cx:={X with xe:=E}
abbrev Cx.nox(X:Cx):Cx:=X.wish fun _ _=>False
theorem Cx.Ok.wish{X:Cx}(ok:X.Ok)(E:V9->S9->Prop):(X.wish E).Ok:=
 ⟨ok.mod,ok.kind,ok.glob,ok.blt,ok.above,ok.inj,ok.has,ok.cab,ok.hd,ok.frames,ok.stk,ok.exf,ok.bs,ok.bsz,ok.noex,ok.exfs,ok.funs,ok.frf⟩
theorem Cx.Ok.unwish{X:Cx}{E:V9->S9->Prop}(ok:(X.wish E).Ok):X.Ok:=
 ⟨ok.mod,ok.kind,ok.glob,ok.blt,ok.above,ok.inj,ok.has,ok.cab,ok.hd,ok.frames,ok.stk,ok.exf,ok.bs,ok.bsz,ok.noex,ok.exfs,ok.funs,ok.frf⟩
section
variable{X:Cx}{pins:List (Az×Obj)}{σ:St}{H:Hp}{s:S9}{E:V9->S9->Prop}
theorem Inv.wish(I:Inv X pins σ H s)(E:V9->S9->Prop):Inv (X.wish E) pins σ H s:=⟨I.ok.wish E,I.os,I.bare,I.base,I.loc,I.cell,I.free,I.freeC,I.pin,I.hok,I.len⟩
theorem Inv.unwish(I:Inv (X.wish E) pins σ H s):Inv X pins σ H s:=⟨I.ok.unwish,I.os,I.bare,I.base,I.loc,I.cell,I.free,I.freeC,I.pin,I.hok,I.len⟩
theorem SP.unwish{D:gY}{f:Flow}{s':S9}(h:SP (X.wish E) pins D f s'):SP X pins D f s':=by
 cases f with
 | next=>obtain ⟨a,H',I,q⟩:=h;exact ⟨a,H',I.unwish,q⟩
 | brk=>obtain ⟨a,H',I,q⟩:=h;exact ⟨a,H',I.unwish,q⟩
 | cont=>obtain ⟨a,H',I,q⟩:=h;exact ⟨a,H',I.unwish,q⟩
 | ret u=>obtain ⟨v,a,H',I,r,q⟩:=h;exact ⟨v,a,H',I.unwish,r,q⟩
theorem PE.nox{e:E1}{t:TE}(h:PE X.nox e t):PE X e t:=fun pins s σ H Q I b=>
 BG (h pins s σ H Q (I.wish _) b) (fun _ _ ⟨v,H',a,r,q⟩=>⟨v,H',a.unwish,r,q⟩) fun _ _ z=>False.elim z
theorem PT.nox{e:E1}{t:TT}(h:PT X.nox e t):PT X e t:=fun pins s σ H Q I b=>
 BG (h pins s σ H Q (I.wish _) b) (fun _ _ ⟨H',a,q⟩=>⟨H',a.unwish,q⟩) fun _ _ z=>False.elim z
theorem PSs.nox{st:List Stmt}{t:TS}(h:PSs X.nox st t):PSs X st t:=fun pins s σ H D I a=>
 BG (h pins s σ H D (I.wish _) a) (fun _ _ q=>q.unwish) fun _ _ z=>False.elim z
end
section
variable{X:Cx}{st:Stmt}{rest:List Stmt}{t u:TS}{e:E1}{te:TE}{pos:Pos}
def aHJ:TS:=fun D σ H=>D.nx σ H
def aFE(t u:TS):TS:=fun D σ H=>t {D with nx:=u D} σ H
theorem bT:PSs X [] aHJ:=fun _ _ σ H _ I h=>DB ⟨σ,H,I,h⟩
theorem aF(h1:PS X st t)(h2:PSs X rest u):PSs X (st::rest) (aFE t u):=by
 intro pins s σ H D I h
 refine DJ (thn (h1 pins s σ H {D with nx:=u D} I h) fun f s1 q=>?_)
 cases f with
 | next=>
  obtain ⟨a,H',b,q⟩:=q
  exact h2 pins s1 a H' D b q
 | ret v=>exact q
 | brk=>exact q
 | cont=>exact q
theorem aM(h1:PS X st t):PSs X [st] t:=by
 intro pins s σ H D I h
 refine DJ (thn (h1 pins s σ H D I h) fun f s1 q=>?_)
 cases f with
 | next=>exact DB q
 | ret v=>exact q
 | brk=>exact q
 | cont=>exact q
theorem Inv.quiet{pins:List (Az×Obj)}{σ:St}{H:Hp}{s:S9}(I:Inv X pins σ H s):interactive X.env=false:=by simp[interactive,I.ok.kind]
def wH(te:TE):TS:=fun D σ H=>te σ H fun _ H1=>D.nx σ H1
theorem dL(d:PE X e te)(c:swapsWith e none pos.line X.env=pure false:=by rfl):PS X (.Expr e pos) (wH te):=by
 intro pins s σ H D I h
 exact wpAny_Expr_any (thn (d pins s σ H _ I h) fun v s1 ⟨x,H1,b,f,a⟩=>⟨σ,H1,b,a⟩) I.quiet c
def aFF(te:TE):TS:=fun D σ H=>te σ H D.rt
theorem a7(d:PE X e te):PS X (.Return (some e) pos) (aFF te):=by
 intro pins s σ H D I h
 exact wpAny_Return_some (thn (d pins s σ H _ I h) fun v s1 ⟨x,H1,c,b,a⟩=>⟨x,σ,H1,c,b,a⟩)
def aIQ(c:TT)(t u:TS):TS:=fun D σ H=>c σ H fun b H1=>if b=true then t D σ H1 else u D σ H1
theorem cT{c:E1}{a b:List Stmt}{tc:TT}(i:PT X c tc)(j:PSs X a t)(k:PSs X b u):PS X (.If c a b pos) (aIQ tc t u):=by
 intro pins s σ H D I h
 refine wpAny_If (thn (i pins s σ H _ I h) fun d s1 e=>?_)
 obtain ⟨H1,g,f⟩:=e
 cases d with
 | true=>exact j pins s1 σ H1 D g f
 | false=>exact k pins s1 σ H1 D g f
end
abbrev TG:=V->St->Hp->(St->Hp->Prop)->Prop
abbrev TGs:=List V->St->Hp->(St->Hp->Prop)->Prop
def PG(X:Cx)(target:E1)(t:TG):Prop:=
 ∀ (pins:List (Az×Obj)) (s:S9) (σ:St) (H:Hp) (v:V) (u:V9) (Q:St->Hp->Prop),Inv X pins σ H s->aU v u->t v σ H Q->
  wpAny (model X.prog X.w) X.A (assign target X.env u) (fun _ s'=>∃ σ' H',Inv X pins σ' H' s'/\Q σ' H') X.xe s
def PGs(X:Cx)(ts:List E1)(t:TGs):Prop:=
 ∀ (pins:List (Az×Obj)) (s:S9) (σ:St) (H:Hp) (vs:List V) (us:List V9) (Q:St->Hp->Prop),Inv X pins σ H s->aW vs us->t vs σ H Q->
  wpAny (model X.prog X.w) X.A (assignInOrder ((assignEach ts X.env).map (·.2)) us) (fun _ s'=>∃ σ' H',Inv X pins σ' H' s'/\Q σ' H') X.xe s
abbrev wI:=V->V->V->Hp->(Hp->Prop)->Prop
def aFG(X:Cx)(t:wI):Prop:=
 ∀ (pins:List (Az×Obj)) (s:S9) (σ:St) (H:Hp) (o i v:V) (ov iv u:V9) (Q:Hp->Prop),Inv X pins σ H s->aU o ov->aU i iv->aU v u->t o i v H Q->
  wpAny (model X.prog X.w) X.A (setItem ov iv u) (fun _ s'=>∃ H',Inv X pins σ H' s'/\Q H') X.xe s
section
variable{X:Cx}{pos:Pos}
def iY(i:Nat):TG:=fun v σ H Q=>Q (σ.set i (some v)) H
theorem dM{i:Nat}{x:Str}(c:X.N.Nodup)(hi:X.N[i]? = some x)(hx:Loc X.env.scope x)(b:X.fn x=true\/X.env.scope.names.lookup x=some .local:=by first|exact .inl rfl|exact .inr rfl):PG X (.Name x pos) (iY i):=by
 intro pins s σ H v u Q I r h
 exact wpAny_assign_Name (k7 I c hi hx r (fun s' a=>⟨_,H,a,h⟩) b)
def aAH:TGs:=fun vs σ H Q=>vs=[]/\Q σ H
def aCB(t:TG)(u:TGs):TGs:=fun vs σ H Q=>∃ v r,vs=v::r/\t v σ H fun σ' H'=>u r σ' H' Q
theorem vF:PGs X [] aAH:=by
 intro pins s σ H vs us Q I r h
 obtain ⟨e,h⟩:=h
 subst e
 cases r
 exact assignInOrder_nil ⟨σ,H,I,h⟩
theorem k9{e:E1}{es:List E1}{t:TG}{u:TGs}(h1:PG X e t)(h2:PGs X es u)
  (c:(assignEach (e::es) X.env).map (·.2)=assign e X.env::(assignEach es X.env).map (·.2):=by rfl):PGs X (e::es) (aCB t u):=by
 intro pins s σ H vs us Q I r h
 obtain ⟨v,g,e1,h⟩:=h
 subst e1
 cases r with
 | cons r rr=>
  rw[c]
  refine assignInOrder_cons (thn (h1 pins s σ H _ _ _ I r h) fun _ s1 a=>?_)
  obtain ⟨b,H1,f,d⟩:=a
  exact h2 pins s1 b H1 _ _ Q f rr d
def aFH(K:Frag)(n:Nat)(t:TGs):TG:=fun v σ H Q=>∃ a xs,v=.ref a/\SqT K H a xs/\xs.length=n/\t xs σ H Q
theorem x6{es:List E1}{k:Nat}{t:TGs}{n:Nat}(f:X.calm=true)(h:PGs X es t)
  (l:(assignEach es X.env).length=n:=by rfl) (hst:(assignEach es X.env).findIdx? (·.1)=none:=by rfl):PG X (.Tuple es k pos) (aFH X.K n t):=by
 intro pins s σ H v u Q I r c
 obtain ⟨a,xs,e1,p,i,c⟩:=c
 subst e1
 cases r
 obtain ⟨g,d,m,w⟩:=I.tuple p
 refine assign_Tuple_tuple (I.ok.hd f) m (by simp[l,<-i,d.length]) hst fun h' j=>?_
 have q:Inv X pins σ H {s with heap:=h'}:=I.kept (t':=s.toks) fun b o e=>j b o (A3 (AG e)) e
 exact h pins _ σ H xs _ Q q (by simpa using d) c
def aFI(to ti:TE)(t:wI):TG:=fun v σ H Q=>to σ H fun o H1=>ti σ H1 fun i H2=>t o i v H2 fun H3=>Q σ H3
theorem aFJ{o i:E1}{to b:TE}{t:wI}(e:PE X o to)(hi:PE X i b)(p:aFG X t)
  (l:∀ v,assign (.Subscript o i pos) X.env v=(do
   let ov <-holding [v] (eval o X.env)
   let iv <-holding [v,ov] (eval i X.env)
   standAt pos
   holding [v,ov,iv] (setItem ov iv v)
   release [v,ov,iv] []):=by intro _;rfl):PG X (.Subscript o i pos) (aFI to b t):=by
 intro pins s σ H v u Q I r h
 rw[l]
 refine AA (CB (thn (e pins s σ H _ I h) fun ov s1 a=>?_))
 obtain ⟨x,H1,m,d,j⟩:=a
 refine AA (CB (thn (hi pins s1 σ H1 _ m j) fun iv c a=>?_))
 obtain ⟨y,H2,f,q,g⟩:=a
 refine AA (DA (AA (CB (thn (p pins c σ H2 x y v ov iv u _ f d q r g) fun _ w a=>?_))))
 obtain ⟨H3,k,n⟩:=a
 exact wpAny_release ⟨σ,H3,k,n⟩
def kI(te:TE)(g:TG):TS:=fun D σ H=>te σ H fun x H1=>g x σ H1 D.nx
theorem aFK{tg e:E1}{te:TE}{g:TG}(j:PE X e te)(d:PG X tg g)(c:swapsWithSole [tg] e pos.line X.env=pure false:=by rfl)(hw:swappedStores [tg] e X.env=pure none:=by rfl)
  (h1:(assignEach [tg] X.env).map (·.2)=[assign tg X.env]:=by rfl):PS X (.Assign [tg] e pos) (kI te g):=by
 intro pins s σ H D I h
 refine wpAny_Assign_stores (thn (j pins s σ H _ I h) fun v s1 a=>?_) c hw
 obtain ⟨x,H1,i,b,f⟩:=a
 rw[h1]
 exact thn (d pins s1 σ H1 x v _ i b f) fun _ k q=>q
theorem aK{i:Nat}{x:Str}{e:E1}{te:TE}{pos':Pos}(c:X.N.Nodup)(hi:X.N[i]? = some x)(hx:Loc X.env.scope x)(k:PE X e te)(f:swapsWith e (some (.Name x pos')) pos.line X.env=pure false:=by rfl)(hf:X.fn x=true\/X.env.scope.names.lookup x=some .local:=by exact .inl rfl) :
  PS X (.Assign [.Name x pos'] e pos) (kI te (iY i)):=by
 intro pins s σ H D I h
 refine wpAny_Assign_Name (thn (k pins s σ H _ I h) fun v s1 a=>?_) f
 obtain ⟨y,H1,j,b,g⟩:=a
 exact k7 j c hi hx b (fun l d=>⟨_,H1,d,g⟩) hf
end
section
variable{X:Cx}{pos:Pos}
def x8(c:TT)(tb:TS):TS:=fun D σ H=>∃ W:Nat->St->Hp->Prop,(∃ m,W m σ H)/\∀ m σ H,W m σ H->
 c σ H fun b H1=>if b=true then ∃ N:St->Hp->Prop,(∀ σ' H',N σ' H'->∃ m',m' < m/\W m' σ' H')/\tb {D with nx:=N,ct:=N,bk:=D.nx} σ H1 else D.nx σ H1
theorem nY{c:E1}{body:List Stmt}{tc:TT}{tb:TS}(p:PassesOwn (model X.prog X.w) X.A X.env X.xe)(u:PT X c tc)(z:PSs X body tb):PS X (.While c body [] pos) (x8 tc tb):=by
 intro pins s σ H D I h
 obtain ⟨W,⟨y,x⟩,d⟩:=h
 refine wpAny_While (codeAny_whileLoop (fun n s'=>∃ σ' H',Inv X pins σ' H' s'/\W n σ' H') ?_ y ⟨σ,H,I,x⟩)
 rintro n s1 ⟨σ1,H1,I1,w1⟩
 refine CQ p (thn (u pins s1 σ1 H1 _ I1 (d n σ1 H1 w1)) fun b t i=>?_)
 obtain ⟨H2,r,e⟩:=i
 cases b with
 | true=>
  obtain ⟨N,q,e⟩:=e
  rw[AK rfl]
  refine CQ p (thn (z pins t σ1 H2 _ r e) fun f B g=>?_)
  cases f with
  | next=>
   obtain ⟨a,H3,j,m⟩:=g
   obtain ⟨o,k,l⟩:=q a H3 m
   exact ⟨o,k,a,H3,j,l⟩
  | cont=>
   obtain ⟨a,H3,j,m⟩:=g
   obtain ⟨o,k,l⟩:=q a H3 m
   exact ⟨o,k,a,H3,j,l⟩
  | brk=>exact g
  | ret v=>exact g
 | false=>
  rw[AM BQ]
  exact DB ⟨σ1,H2,r,e⟩
end
structure It where
 go:Nat->Hp->Prop
 yld:Nat->Hp->V->Hp->Prop
 stop:Nat->Hp->Prop
def gL(X:Cx)(pins:List (Az×Obj))(H:Hp)(b:Az):Prop:=
 H b=none/\b≠X.env.locals/\b∉X.fs/\(b∈X.ex\/X.s₀.heap.objs.size<=b)/\(∀ x c,X.env.cells.lookup x=some c->c≠b)/\∀ p∈X.pn++pins,p.1≠b
theorem Inv.fpOk{X:Cx}{pins:List (Az×Obj)}{σ:St}{H H':Hp}{s:S9}{b:Az}(I:Inv X pins σ H s)(a:s.heap.objs.size<=b)(d:H' b=none):gL X pins H' b:=by
 refine ⟨d,CA (AN I.lt a),I.nofs a,.inr (A4 I.sz a),fun x c e z=>?_,fun p f z=>?_⟩
 .obtain ⟨v,q⟩:=I.cell x c e
  exact absurd (AN q.lt (by rw[z];exact a)) (BF _)
 .exact absurd (AN (AG (I.pin p f).1) (by rw[z];exact a)) (BF _)
structure Turn(P:Program)(w:World)(K:Frag)(tg:Expr)(J:It)(fp:List Az)(it:Az)(tn:Nat->Heap->Prop):Prop where
 mem:it∈fp
 obj:∀ i h,tn i h->∀ b∈fp,∃ o,h.get? b=some o/\∀ v,o.data≠.cell v
 keep:∀ i h h',tn i h->(∀ b∈fp,∀ o,h.get? b=some o->h'.get? b=some o)->tn i h'
 item:∀ (X:Cx),X.prog=P->X.w=w->X.K=K->X.calm=true->∀ (i:Nat) (pins:List (Az×Obj)) (s:S9) (σ:St) (H:Hp) (E:V9->S9->Prop),Inv X pins σ H s->(∀ b∈fp,gL X pins H b)->tn i s.heap->J.go i H->
  wpAny (model P w) X.A (pyNext (.ref it)) (fun r s1=>∃ u,r=some u /\
   wpAny (model P w) X.A (letOwnedTupleGo tg (.ref it) u) (fun _ s2=>∃ x H',Inv X pins σ H' s2/\aU x u/\J.yld i H x H'/\tn (i+1) s2.heap/\∀ b∈fp,H' b=none) E s1) E s
 done:∀ (X:Cx),X.prog=P->X.w=w->X.K=K->X.calm=true->∀ (i:Nat) (pins:List (Az×Obj)) (s:S9) (σ:St) (H:Hp) (E:V9->S9->Prop),Inv X pins σ H s->(∀ b∈fp,gL X pins H b)->tn i s.heap->J.stop i H->
  wpAny (model P w) X.A (pyNext (.ref it)) (fun r s1=>r=none/\Inv X pins σ H s1) E s
 self:∀ (A:Around) (i:Nat) (s:S9) (Q:V9->S9->Prop) (E:V9->S9->Prop),tn i s.heap->Q (.ref it) s->wpAny (model P w) A (pyIter (.ref it)) Q E s
abbrev TI:=St->Hp->(It->Hp->Prop)->Prop
def PIE(X:Cx)(pins:List (Az×Obj))(σ:St)(tg:E1)(R:It->Hp->Prop)(itv:V9)(s2:S9):Prop:=
 ∃ (it:Az) (fp:List Az) (tn:Nat->H9->Prop) (J:It) (H':Hp),itv=.ref it/\Inv X pins σ H' s2/\Turn X.prog X.w X.K tg J fp it tn/\tn 0 s2.heap/\(∀ b∈fp,gL X pins H' b)/\R J H'
def PI(X:Cx)(tg iter:E1)(wi:TI):Prop:=
 ∀ (pins:List (Az×Obj)) (s:S9) (σ:St) (H:Hp) (R:It->Hp->Prop),Inv X pins σ H s->wi σ H R->
  wpAny (model X.prog X.w) X.A (eval iter X.env) (fun v s1=>wpAny (model X.prog X.w) X.A (pyIter v) (PIE X pins σ tg R) X.xe s1) X.xe s
theorem rS {M : Model} {A : U9} {E : V9 -> S9 -> Prop} {s : S9} {tg : E1} {it : Az} {u : V9} {o : Obj} {n : String} {vs : Array V9} {Q : Unit -> S9 -> Prop} (c : s.heap.get? it = some o) (b : o.cls = .type n) (e : o.data = .fields vs)
    (d : ["enumerate", "zip", "dict_itemiterator", "dict_reverseitemiterator", "odict_iterator", "itertools.zip_longest", "itertools.pairwise"].contains n = false) (a : Q () s) : wpAny M A (letOwnedTupleGo tg (.ref it) u) Q E s := by
  unfold letOwnedTupleGo
  cases tg <;> first
    | exact AD a
    | (cases u <;> first
        | exact AD a
        | (refine AA (wpAny_load c ?_)
           rw [b, e]
           show wpAny M A (if (["enumerate", "zip", "dict_itemiterator", "dict_reverseitemiterator", "odict_iterator", "itertools.zip_longest", "itertools.pairwise"].contains n && vs[0]? == some (rawInt _)) = true then _ else _) Q E s
           rw [AM (by intro h; rw [d, Bool.false_and] at h; cases h)]
           exact AD a))
def Itl(K:Frag)(a:Az):It:=
 ⟨fun i H=>∃ xs x,SqL K H a xs/\xs[i]? = some x,fun i H x H'=>H'=H/\∀ xs,SqL K H a xs->xs[i]? = some x,fun i H=>∃ xs,SqL K H a xs/\xs.length<=i⟩
def Itt(K:Frag)(a:Az):It:=
 ⟨fun i H=>∃ xs x,SqT K H a xs/\xs[i]? = some x,fun i H x H'=>H'=H/\∀ xs,SqT K H a xs->xs[i]? = some x,fun i H=>∃ xs,SqT K H a xs/\xs.length<=i⟩
noncomputable def Itr(lo:Int)(n:Nat):It:=⟨fun i _=>i < n,fun i H x H'=>H'=H/\x=.int (lo+i),fun i _=>n<=i⟩
theorem x9{P:P9}{w:W9}{K:Frag}{tg:E1}(a it:Az):Turn P w K tg (Itl K a) [it] it (fun i h=>h.IsListIter it a i) where
 mem:=by simp
 obj:=fun i h st b f=>by
  have e:b=it:=by simpa using f
  subst e
  obtain ⟨o,e,c,d⟩:=st
  exact ⟨o,e,fun v z=>by rw[d] at z;cases z⟩
 keep:=fun i h h' st k=>st.at fun o e=>k it (by simp) o e
 item:=by
  intro X n q D J i pins s σ H E I j st y
  subst n q D
  obtain ⟨xs,x,l,r⟩:=y
  obtain ⟨B,m,p,N⟩:=I.list l
  obtain ⟨u,Q,T⟩:=m.get r
  obtain ⟨A,F,M,t,C,G⟩:=j it (by simp)
  refine wpAny_pyNext_list_item st p.isList (x:=u) (by simpa using Q) fun h' g S=>?_
  have O:Inv X pins σ H {s with heap:=h'}:=I.turned (t':=s.toks) (fun b o f e=>(S.2 b f).trans e) A F t C G
  obtain ⟨o,e,c,d⟩:=id g
  exact ⟨u,rfl,rS (s:={s with heap:=h'}) e c d (by decide) ⟨x,H,O,T,⟨rfl,fun ys R=>by rw[I.list_inj R l];exact r⟩,g,fun b f=>(j b f).1⟩⟩
 done:=by
  intro X n q D J i pins s σ H E I j st y
  subst n q D
  obtain ⟨xs,l,r⟩:=y
  obtain ⟨B,m,p,N⟩:=I.list l
  obtain ⟨A,F,M,t,C,G⟩:=j it (by simp)
  have U:=m.length
  exact wpAny_pyNext_list_end (I.ok.hd J) st p.isList (by simp;omega) fun h' L=>⟨rfl,I.turned (t':=s.toks) (fun b o f e=>L b o f e) A F t C G⟩
 self:=fun _ _ _ _ _ st h=>wpAny_pyIter_listiter st h
theorem wJ{P:P9}{w:W9}{K:Frag}{tg:E1}(a it:Az):Turn P w K tg (Itt K a) [it] it (fun i h=>h.IsTupleIter it a i) where
 mem:=by simp
 obj:=fun i h st b f=>by
  have e:b=it:=by simpa using f
  subst e
  obtain ⟨o,e,c,d⟩:=st
  exact ⟨o,e,fun v z=>by rw[d] at z;cases z⟩
 keep:=fun i h h' st k=>st.at fun o e=>k it (by simp) o e
 item:=by
  intro X q r D J i pins s σ H E I l st A
  subst q r D
  obtain ⟨xs,x,m,t⟩:=A
  obtain ⟨g,n,p,N⟩:=I.tuple m
  obtain ⟨u,Q,T⟩:=n.get t
  obtain ⟨B,F,M,y,C,G⟩:=l it (by simp)
  refine wpAny_pyNext_tuple_item st (show s.heap.IsTuple a g.toArray from p) (x:=u) (by simpa using Q) fun h' j S=>?_
  have O:Inv X pins σ H {s with heap:=h'}:=I.turned (t':=s.toks) (fun b o f e=>(S.2 b f).trans e) B F y C G
  obtain ⟨o,e,c,d⟩:=id j
  exact ⟨u,rfl,rS (s:={s with heap:=h'}) e c d (by decide) ⟨x,H,O,T,⟨rfl,fun ys R=>by rw[I.tuple_inj R m];exact t⟩,j,fun b f=>(l b f).1⟩⟩
 done:=by
  intro X q r D J i pins s σ H E I l st A
  subst q r D
  obtain ⟨xs,m,t⟩:=A
  obtain ⟨g,n,p,N⟩:=I.tuple m
  obtain ⟨B,F,M,y,C,G⟩:=l it (by simp)
  have U:=n.length
  exact wpAny_pyNext_tuple_end (I.ok.hd J) st (show s.heap.IsTuple a g.toArray from p) (by simp;omega) fun h' L=>⟨rfl,I.turned (t':=s.toks) (fun b o f e=>L b o f e) B F y C G⟩
 self:=fun _ _ _ _ _ st h=>wpAny_pyIter_tupleiter st h
theorem wK{P:P9}{w:W9}{K:Frag}{tg:E1}(it:Az)(lo:Int)(n:Nat):Turn P w K tg (Itr lo n) [it] it (fun i h=>IsRangeIter h it (lo+(i:Nat) * 1) ((n:Int) - (i:Nat)) 1) where
 mem:=by simp
 obj:=fun i h st b a=>by
  have e:b=it:=by simpa using a
  subst e
  exact ⟨_,st,fun v z=>by
   have y:Data.fields _=Data.cell v:=z
   cases y⟩
 keep:=fun i h h' st k=>k it (by simp) _ st
 item:=by
  intro X g p r f i pins s σ H E I d st l
  subst g p r
  obtain ⟨m,u,B,j,q,x⟩:=d it (by simp)
  have W:=Walks.range (prog:=X.prog) (w:=X.w) (I.ok.hd f) it lo 1 n
  refine W.item i s _ _ l st fun v h' tk C c F=>?_
  obtain ⟨t,rfl⟩:=C
  have D:Inv X pins σ H {s with heap:=h',toks:=tk}:=I.turned (fun b o a e=>F b o (by simpa using a) e) m u j q x
  refine ⟨_,rfl,rS (s:={s with heap:=h',toks:=tk}) (n:="range_iterator") c rfl rfl (by decide) ⟨.int (lo+i),H,D,⟨t,?_⟩,⟨rfl,rfl⟩,c,fun b a=>(d b a).1⟩⟩
  rw[Int.mul_one]
 done:=by
  intro X g p r f i pins s σ H E I d st l
  subst g p r
  obtain ⟨m,u,B,j,q,x⟩:=d it (by simp)
  exact wpAny_pyNext_range_end (I.ok.hd f) st (by have:n<=i:=l;omega) fun h' A=>⟨rfl,I.turned (t':=s.toks) (fun b o a e=>A b o a e) m u j q x⟩
 self:=fun _ _ _ _ _ st h=>wpAny_pyIter_rangeiter st h
section
variable{X:Cx}{tg:E1}
theorem aAI{pins:List (Az×Obj)}{σ:St}{H:Hp}{s:S9}{R:It->Hp->Prop}{E:V9->S9->Prop}{lo hi:Int}{t u v:Tok}{tk:Nat}(I:Inv X pins σ H s)(h1 : -(2 ^ 62)<=lo)(h2:lo < 2 ^ 62)(d : -(2 ^ 62)<=hi)(f:hi < 2 ^ 62)
  (q:R (Itr lo (hi - lo).toNat) H):wpAny (model X.prog X.w) X.A (pyIter (.ref s.heap.objs.size)) (PIE X pins σ tg R) E {s with heap:=s.heap.push {cls:=.type "range",data:=.fields #[.int lo t,.int hi u,.int 1 v]},toks:=tk}:=by
 refine wpAny_pyIter_range (IsRange.new ..) (small_one h1 h2 d f) ?_
 have a:Inv X pins σ H {s with heap:=s.heap.push {cls:=.type "range",data:=.fields #[.int lo t,.int hi u,.int 1 v]},toks:=tk}:=I.kept fun b o e=>AE _ e
 refine ⟨(s.heap.push {cls:=.type "range",data:=.fields #[.int lo t,.int hi u,.int 1 v]}).objs.size,[(s.heap.push {cls:=.type "range",data:=.fields #[.int lo t,.int hi u,.int 1 v]}).objs.size],_,_,H,rfl,
  a.kept (t':=tk) fun b o e=>AE _ e,wK _ lo (hi - lo).toNat,?_,fun b c=>?_,q⟩
 .have e1:lo+((0:Nat):Int) * 1=lo:=by simp
  have e2:(((hi - lo).toNat:Nat):Int) - ((0:Nat):Int)=Builtin.Range.rangeSize lo hi 1:=by rw[rangeSize_one];split<;>omega
  show IsRangeIter _ _ (lo+((0:Nat):Int) * 1) ((((hi - lo).toNat:Nat):Int) - ((0:Nat):Int)) 1
  rw[e1,e2]
  exact A7 _ rfl
 .have e:b=(s.heap.push {cls:=.type "range",data:=.fields #[.int lo t,.int hi u,.int 1 v]}).objs.size:=by simpa using c
  subst e
  exact a.fpOk (AI _) (a.hok.fresh (AI _))
def aCC(ta:TA):TI:=fun σ H R=>ta σ H fun vs H1=>∃ j:Int,vs=[.int j] /\ -(2 ^ 62)<=j/\j < 2 ^ 62/\R (Itr 0 j.toNat) H1
theorem hU{a:E1}{ta:TA}{p pos:Pos}(i:Gl X "range")(m:X.mg "range"=none)(k:PA X [a] ta)(g:starEach [a] X.env=[(false,eval a X.env)]:=by rfl):PI X tg (.Call (.Name "range" p) [a] [] pos) (aCC ta):=by
 intro pins s σ H R I h
 refine Call_ (jS I i m boot_range (B7 (thn (k pos pins s σ H _ I h) fun us s1 b=>?_) g rfl))
 obtain ⟨vs,H1,l,d,c⟩:=b
 obtain ⟨j,e,c,f,q⟩:=c
 subst e
 cases d with
 | cons r rr=>
  cases rr
  obtain ⟨t,rfl⟩:=r
  exact call_range_1 (aAI l (by omega) (by omega) c f (by simpa using q))
def aFL(wi:TI)(g:TG)(tb:TS):TS:=fun D σ H=>wi σ H fun J H1=>∃ W:Nat->Nat->St->Hp->Prop,(∃ m,W 0 m σ H1)/\∀ i m σ H,W i m σ H->
 (J.stop i H/\D.nx σ H)\/(J.go i H/\∃ N:St->Hp->Prop,(∀ σ' H',N σ' H'->∃ m',m' < m/\W (i+1) m' σ' H')/\∀ x H',J.yld i H x H'->g x σ H' fun σ2 H2=>tb {D with nx:=N,ct:=N,bk:=D.nx} σ2 H2)
noncomputable def l8(fp:List Az)(h:H9):List (Az×Obj):=fp.filterMap fun b=>(h.get? b).map fun o=>(b,o)
theorem jK{a:List Az}{h:H9}{b:Az}{o:Obj}(c:b∈a)(e:h.get? b=some o):(b,o)∈l8 a h:=CN.mpr ⟨b,c,by rw[e];rfl⟩
theorem yA{a:List Az}{h:H9}{p:Az×Obj}(d:p∈l8 a h):p.1∈a/\h.get? p.1=some p.2:=by
 obtain ⟨b,f,e⟩:=CN.mp d
 cases q:h.get? b with
 | none=>rw[q] at e;cases e
 | some o=>
  rw[q] at e
  have c:(b,o)=p:=BP e
  subst c
  exact ⟨f,q⟩
theorem Inv.pinned{pins:List (Az×Obj)}{σ:St}{H:Hp}{s:S9}{a:List Az}(I:Inv X pins σ H s)(l:∀ b∈a,gL X pins H b)(g:∀ b∈a,∃ o,s.heap.get? b=some o/\∀ v,o.data≠.cell v):Inv X (pins++l8 a s.heap) σ H s:=
 I.pins_of fun p h=>(B6.mp h).elim (fun z=>I.pin p (BK _ z)) fun z=>by
  obtain ⟨f,e⟩:=yA z
  obtain ⟨k,j,i,_⟩:=l p.1 f
  obtain ⟨o,c,d⟩:=g p.1 f
  rw[e] at c;cases c
  exact ⟨e,k,j,i,d⟩
theorem Inv.unpinned{pins pl:List (Az×Obj)}{σ:St}{H:Hp}{s:S9}(I:Inv X (pins++pl) σ H s):Inv X pins σ H s:=I.pins_of fun p a=>I.pin p (BK _ (CH _ a))
theorem dF{k:E1}{body:List Stmt}{U:TI}{g:TG}{tb:TS}{pos:Pos}(C:PassesOwn (model X.prog X.w) X.A X.env X.xe)(Y:X.calm=true)(hi:PI X tg k U)(hg:PG X tg g)(p:PSs X body tb)
  (hs:∀ x,foldedSetIterable k X.env x=pure x:=by intro _;rfl):PS X (.For tg k body [] pos) (aFL U g tb):=by
 intro pins s σ H D I h
 refine wpAny_For (thn (hi pins s σ H _ I h) fun v s1 h1=>thn h1 fun aa s2 h2=>?_) hs
 obtain ⟨it,F,R,J,H2,e,I2,T,M,S,W,⟨m0,w0⟩,B⟩:=h2
 subst e
 have j:∀ {H':Hp},(∀ b∈F,H' b=none)->∀ b∈F,gL X pins H' b:=fun hn b p=>⟨hn b p,(S b p).2⟩
 refine codeAny_forLoop_any (fun n s'=>∃ i σ' H',Inv X pins σ' H' s'/\R i s'.heap/\(∀ b∈F,H' b=none)/\W i n σ' H') ?_ m0 ⟨0,σ,H2,I2,M,fun b p=>(S b p).1,w0⟩
 rintro n V ⟨i,σ3,H3,I3,st3,fr3,w3⟩
 rcases B i n σ3 H3 w3 with ⟨E,qn⟩|⟨go,N,hN,step⟩
 .refine CQ C (thn (T.done X rfl rfl rfl Y i pins V σ3 H3 X.xe I3 (j fr3) st3 E) fun r s4 c=>?_)
  obtain ⟨K,I4⟩:=c
  subst K
  exact DB ⟨σ3,H3,I4,qn⟩
 .refine CQ C (thn (T.item X rfl rfl rfl Y i pins V σ3 H3 X.xe I3 (j fr3) st3 go) fun r s4 c=>?_)
  obtain ⟨u,K,h4⟩:=c
  subst K
  refine CQ C (thn h4 fun _ Z c=>?_)
  obtain ⟨x,H5,I5,r5,y5,z,P⟩:=c
  have L:=I5.pinned (j P) (T.obj _ _ z)
  refine CQ C (thn (hg _ Z σ3 H5 x u _ L r5 (step x H5 y5)) fun _ s6 c=>?_)
  obtain ⟨O,H6,I6,q6⟩:=c
  refine CQ C (thn (p _ s6 O H6 _ I6 q6) fun f Q y=>?_)
  have l:∀ {a:St} {q:Hp},Inv X (pins++l8 F Z.heap) a q Q->N a q->∃ m,m < n/\∃ i σ' H',Inv X pins σ' H' Q/\R i Q.heap/\(∀ b∈F,H' b=none)/\W i m σ' H':=fun {a q} t G=>by
   obtain ⟨m',hm,w7⟩:=hN a q G
   refine ⟨m',hm,i+1,a,q,t.unpinned,T.keep _ _ _ z fun b p o e=>(t.pin (b,o) (BK _ (BK _ (jK p e)))).1,fun b p=>?_,w7⟩
   obtain ⟨o,e,d⟩:=T.obj _ _ z b p
   exact (t.pin (b,o) (BK _ (BK _ (jK p e)))).2.1
  cases f with
  | next=>obtain ⟨a,q,t,G⟩:=y;exact l t G
  | cont=>obtain ⟨a,q,t,G⟩:=y;exact l t G
  | brk=>obtain ⟨a,q,t,y⟩:=y;exact ⟨a,q,t.unpinned,y⟩
  | ret v=>obtain ⟨x7,a,q,t,r7,y⟩:=y;exact ⟨x7,a,q,t.unpinned,r7,y⟩
end
abbrev R2:=V->V->Hp->VK->Prop
def OpR(X:Cx)(f:V9->V9->Sem V9)(r:R2):Prop:=
 ∀ (pins:List (Az×Obj)) (s:S9) (σ:St) (H:Hp) (x y:V) (v u:V9) (Q:VK),Inv X pins σ H s->aU x v->aU y u->r x y H Q->
  wpAny (model X.prog X.w) X.A (f v u) (EP X pins σ Q) X.xe s
def UnR(X:Cx)(f:V9->Sem V9)(r:V->Hp->VK->Prop):Prop:=
 ∀ (pins:List (Az×Obj)) (s:S9) (σ:St) (H:Hp) (x:V) (v:V9) (Q:VK),Inv X pins σ H s->aU x v->r x H Q->
  wpAny (model X.prog X.w) X.A (f v) (EP X pins σ Q) X.xe s
def iB(X:Cx)(f:V9)(r:List V->Hp->VK->Prop):Prop:=
 ∀ (pins:List (Az×Obj)) (s:S9) (σ:St) (H:Hp) (xs:List V) (us:List V9) (Q:VK),Inv X pins σ H s->aW xs us->r xs H Q->
  wpAny (model X.prog X.w) X.A (call f us) (EP X pins σ Q) X.xe s
def tOp(r:R2)(ta tb:TE):TE:=fun σ H Q=>ta σ H fun x H1=>tb σ H1 fun y H2=>r x y H2 Q
def tUn(r:V->Hp->VK->Prop)(ta:TE):TE:=fun σ H Q=>ta σ H fun x H1=>r x H1 Q
def rI(C:Int->Int->Prop)(g:Int->Int->V):R2:=fun x y H Q=>∃ i j,x=.int i/\y=.int j/\C i j/\Q (g i j) H
def rI0(g:Int->Int->V):R2:=fun x y H Q=>∃ i j,x=.int i/\y=.int j/\Q (g i j) H
def rU(g:Int->V):V->Hp->VK->Prop:=fun x H Q=>∃ i,x=.int i/\Q (g i) H
section
variable{X:Cx}{a b c:E1}{ta tb tc:TE}{pos:Pos}
theorem aAJ(k:PE X a ta)(j:PE X b tb){pins:List (Az×Obj)}{s:S9}{σ:St}{H:Hp}{R:V->V->Hp->Prop}(I:Inv X pins σ H s)
  (h:ta σ H fun x H1=>tb σ H1 fun y H2=>R x y H2) {Q:V9->S9->Prop} {f:V9->V9->Sem V9}
  (n:∀ v u s2 x y H2,Inv X pins σ H2 s2->aU x v->aU y u->R x y H2->wpAny (model X.prog X.w) X.A (f v u) Q X.xe s2) :
  wpAny (model X.prog X.w) X.A (eval a X.env) (fun v s₁=>wpAny (model X.prog X.w) X.A (eval b X.env) (fun u s₂=>wpAny (model X.prog X.w) X.A (f v u) Q X.xe s₂) X.xe s₁) X.xe s:=by
 refine thn (k pins s σ H _ I h) fun v s1 c=>?_
 obtain ⟨x,H1,m,d,i⟩:=c
 refine thn (j pins s1 σ H1 _ m i) fun u s2 c=>?_
 obtain ⟨y,H2,e,l,g⟩:=c
 exact n v u s2 x y H2 e d l g
theorem aHK{c:Operator}{r:R2}(f:OpR X (binaryOp c) r)(i:PE X a ta)(j:PE X b tb):PE X (.BinOp a c b pos) (tOp r ta tb):=by
 intro pins s σ H Q I h
 exact wpAny_BinOp (aAJ i j I h fun v u d x y H2 g k e q=>f pins d σ H2 x y v u Q g k e q)
theorem aHL{b:UnaryOp}{r:V->Hp->VK->Prop}(d:UnR X (unaryOp b) r)(f:PE X a ta):PE X (.UnaryOp b a pos) (tUn r ta):=by
 intro pins s σ H Q I h
 exact UnaryOp_ (thn (f pins s σ H _ I h) fun v s1 ⟨x,H1,g,c,e⟩=>d pins s1 σ H1 x v Q g c e)
theorem opI{f:V9->V9->Sem V9}{C:Int->Int->Prop}{g:Int->Int->Int}
  (a:∀ (i j:Int) (t u:Tok) (s:S9) (Q:V9->S9->Prop) (E:V9->S9->Prop),C i j->Q (.int (g i j) s.toks) {s with toks:=s.toks+1}->wpAny (model X.prog X.w) X.A (f (.int i t) (.int j u)) Q E s) :
  OpR X f (rI C fun i j=>.int (g i j)):=by
 intro pins s σ H x y v u Q I e b h
 obtain ⟨i,j,rfl,rfl,c,q⟩:=h
 obtain ⟨t,rfl⟩:=e
 obtain ⟨d,rfl⟩:=b
 exact a i j t d s _ _ c ⟨.int (g i j),H,I.tok _,⟨_,rfl⟩,q⟩
theorem aFM{f:V9->V9->Sem V9}{g:Int->Int->Int}
  (a:∀ (i j:Int) (t u:Tok) (s:S9) (Q:V9->S9->Prop) (E:V9->S9->Prop),Q (.int (g i j) s.toks) {s with toks:=s.toks+1}->wpAny (model X.prog X.w) X.A (f (.int i t) (.int j u)) Q E s) :
  OpR X f (rI0 fun i j=>.int (g i j)):=by
 intro pins s σ H x y v u Q I d b h
 obtain ⟨i,j,rfl,rfl,q⟩:=h
 obtain ⟨t,rfl⟩:=d
 obtain ⟨c,rfl⟩:=b
 exact a i j t c s _ _ ⟨.int (g i j),H,I.tok _,⟨_,rfl⟩,q⟩
theorem aAK{f:V9->V9->Sem V9}{g:Int->Int->Bool}
  (a:∀ (i j:Int) (t u:Tok) (s:S9) (Q:V9->S9->Prop) (E:V9->S9->Prop),Q (.bool (g i j)) s->wpAny (model X.prog X.w) X.A (f (.int i t) (.int j u)) Q E s) :
  OpR X f (rI0 fun i j=>.bl (g i j)):=by
 intro pins s σ H x y v u Q I d b h
 obtain ⟨i,j,rfl,rfl,q⟩:=h
 obtain ⟨t,rfl⟩:=d
 obtain ⟨c,rfl⟩:=b
 exact a i j t c s _ _ ⟨.bl (g i j),H,I,rfl,q⟩
def aIR(i j:Int):Prop:=0<=j/\j<=1000000/\i.natAbs < 2 ^ 64
def aAL(i j:Int):Prop:=(-(2 ^ 64) < i/\i < 2 ^ 64)\/(-(2 ^ 64) < j/\j < 2 ^ 64)
theorem aAL.ok{i j:Int}(h:aAL i j):IntMulOk i j:=by
 rcases h with ⟨h1,h2⟩|⟨h1,h2⟩
 · exact .of_left (intBits_le_64 h1 h2)
 · exact .of_right (intBits_le_64 h1 h2)
theorem aFN:OpR X (binaryOp .Add) (rI0 fun i j=>.int (i+j)):=aFM fun _ _ _ _ _ _ _ q=>add_int q
theorem aFO:OpR X (binaryOp .Sub) (rI0 fun i j=>.int (i - j)):=aFM fun _ _ _ _ _ _ _ q=>sub_int q
theorem aFP:OpR X (binaryOp .Mult) (rI aAL fun i j=>.int (i * j)):=opI fun _ _ _ _ _ _ _ a q=>mul_int q a.ok
theorem aFQ:OpR X (binaryOp .Mod) (rI (fun _ j=>0 < j) fun i j=>.int (i % j)):=opI fun i j _ _ _ _ _ a q=>by
 have h1:(0:Int) < j:=a
 exact mod_int' (by omega) (by rw[Int.fmod_eq_emod_of_nonneg i (by omega)];exact q)
theorem aFR:OpR X (binaryOp .Pow) (rI aIR fun i j=>.int (i ^ j.toNat)):=opI fun _ _ _ _ _ _ _ a q=>pow_int_small a.1 a.2.1 a.2.2 q
theorem unI{f:V9->Sem V9}{g:Int->Int}
  (a:∀ (i:Int) (t:Tok) (s:S9) (Q:V9->S9->Prop) (E:V9->S9->Prop),Q (.int (g i) s.toks) {s with toks:=s.toks+1}->wpAny (model X.prog X.w) X.A (f (.int i t)) Q E s) :
  UnR X f (rU fun i=>.int (g i)):=by
 intro pins s σ H x v Q I b h
 obtain ⟨i,rfl,q⟩:=h
 obtain ⟨t,rfl⟩:=b
 exact a i t s _ _ ⟨.int (g i),H,I.tok _,⟨_,rfl⟩,q⟩
theorem aFS:UnR X (unaryOp .USub) (rU fun i=>.int (-i)):=unI fun _ _ _ _ _ q=>neg_int q
end
section
variable{X:Cx}{a b c:E1}{ta tb tc:TE}{pos:Pos}
theorem sD{pins:List (Az×Obj)}{σ:St}{H:Hp}{s:S9}{Q:VK}{k a:Bool}(I:Inv X pins σ H s)(q:Q (.bl k) H)(e:k=a):EP X pins σ Q (.bool a) s:=by
 subst e
 exact ⟨.bl k,H,I,rfl,q⟩
theorem aHM:OpR X (compareOp .Lt) (rI0 fun i j=>.bl (decide (i < j))):=aAK fun _ _ _ _ _ _ _ q=>lt_int q
theorem aHN:OpR X (compareOp .Gt) (rI0 fun i j=>.bl (decide (j < i))):=aAK fun _ _ _ _ _ _ _ q=>gt_int q
theorem aHO:OpR X (compareOp .GtE) (rI0 fun i j=>.bl (decide (j<=i))):=aAK fun _ _ _ _ _ _ _ q=>ge_int q
theorem yB:OpR X (compareOp .In) (fun x y H Q=>∃ i j,x=.str i/\y=.str j/\Q (.bl (!(Builtin.Str.occurrences j i 0 j.length 1).isEmpty)) H):=by
 intro pins s σ H x y v u Q I b a h
 obtain ⟨i,j,rfl,rfl,q⟩:=h
 obtain ⟨t,rfl⟩:=b
 obtain ⟨c,rfl⟩:=a
 exact in_str (sD I q rfl)
theorem aC1:OpR X (compareOp .IsNot) (fun x y H Q=>y=.non/\Q (.bl (!decide (x=.non))) H):=by
 intro pins s σ H x y v u Q I a b h
 obtain ⟨rfl,q⟩:=h
 cases b
 refine isnot_none_gen (sD I q ?_)
 cases x<;>first
  | (cases a;rfl)
  | (obtain ⟨t,rfl⟩:=a;rfl)
theorem sE:OpR X (compareOp .NotIn) (fun x y H Q=>∃ i j,x=.str i/\y=.str j/\Q (.bl (!(!(Builtin.Str.occurrences j i 0 j.length 1).isEmpty))) H):=by
 intro pins s σ H x y v u Q I b a h
 obtain ⟨i,j,rfl,rfl,q⟩:=h
 obtain ⟨t,rfl⟩:=b
 obtain ⟨c,rfl⟩:=a
 exact notIn_str (sD I q rfl)
theorem b7(b:E1){a:CmpOp}(h:a≠.In:=by decide)(h2:a≠.NotIn:=by decide):behindInMarks a b=false:=by
 have e1:(a == CmpOp.In)=false:=by cases a<;>first|rfl|exact absurd rfl h
 have e2:(a == CmpOp.NotIn)=false:=by cases a<;>first|rfl|exact absurd rfl h2
 cases b<;>simp[behindInMarks,e1,e2]
theorem aC2{c:CmpOp}{r:R2}(f:OpR X (compareOp c) r)(i:PE X a ta)(j:PE X b tb)(l:behindInMarks c b=false):PE X (.Compare a [c] [b] pos) (tOp r ta tb):=by
 intro pins s σ H Q I h
 exact wpAny_Compare1 (aAJ i j I h fun v u d x y H2 g k e q=>f pins d σ H2 x y v u Q g k e q) l
def aCD(t:TE):TT:=fun σ H Q=>t σ H fun x H'=>∃ k,x=.bl k/\Q k H'
theorem vG{d:CmpOp}{r:R2}(i:OpR X (compareOp d) r)(q:PE X a ta)(p:PE X b tb)(w:behindInMarks d b=false):PT X (.Compare a [d] [b] pos) (aCD (tOp r ta tb)):=by
 intro pins s σ H Q I h
 refine wpAny_isTrue_Compare1 (thn (q pins s σ H _ I h) fun v s1 ⟨x,H1,t,g,m⟩=>thn (p pins s1 σ H1 _ t m) fun u f ⟨y,H2,j,B,l⟩=>
  thn (i pins f σ H2 x y v u _ j g B l) fun c C ⟨z,H3,o,n,k,e,A⟩=>?_) w
 subst e
 cases n
 exact DY ⟨H3,o,A⟩
theorem oN:(sizeLine:Nat) < 2 ^ 63:=by rw[D0];decide
theorem wL:OpR X (binaryOp .Add) (fun x y H Q=>∃ i j,x=.str i/\y=.str j/\i.length+j.length<=sizeLine/\Q (.str (i++j)) H):=by
 intro pins s σ H x y v u Q I d a h
 obtain ⟨i,j,rfl,rfl,c,q⟩:=h
 obtain ⟨t,rfl⟩:=d
 obtain ⟨b,rfl⟩:=a
 exact add_str (fun b tk=>⟨.str (i++j),H,I.tok _,⟨_,rfl⟩,q⟩) c
theorem lA{x:V}{us:List V9}(r:aW [x] us):∃ u,us=[u]/\aU x u:=by
 cases r with
 | cons r1 r2=>cases r2;exact ⟨_,rfl,r1⟩
theorem oO{x y:V}{us:List V9}(r:aW [x,y] us):∃ u w',us=[u,w']/\aU x u/\aU y w':=by
 cases r with
 | cons r1 r2=>
  cases r2 with
  | cons r3 r4=>cases r4;exact ⟨_,_,rfl,r1,r3⟩
theorem yC(b:X.calm=true):iB X (.builtin "max") (fun xs H Q=>∃ i j,xs=[.int i,.int j]/\Q (.int (if j > i then j else i)) H):=by
 intro pins s σ H xs us Q I r h
 obtain ⟨i,j,rfl,q⟩:=h
 obtain ⟨u,c,rfl,⟨t,rfl⟩,⟨d,rfl⟩⟩:=oO r
 refine max_two_ints (I.ok.hd b) fun h' tk k=>⟨_,H,I.kept k,?_,q⟩
 by_cases a:j > i
 · rw [AK a, AK a]; exact ⟨_, rfl⟩
 · rw [AM a, AM a]; exact ⟨_, rfl⟩
theorem qP(b:X.calm=true):iB X (.builtin "min") (fun xs H Q=>∃ i j,xs=[.int i,.int j]/\Q (.int (if j < i then j else i)) H):=by
 intro pins s σ H xs us Q I r h
 obtain ⟨i,j,rfl,q⟩:=h
 obtain ⟨u,c,rfl,⟨t,rfl⟩,⟨d,rfl⟩⟩:=oO r
 refine min_two_ints (I.ok.hd b) fun h' tk k=>⟨_,H,I.kept k,?_,q⟩
 by_cases a:j < i
 · rw [AK a, AK a]; exact ⟨_, rfl⟩
 · rw [AM a, AM a]; exact ⟨_, rfl⟩
theorem qQ:iB X (.type "int") (fun xs H Q=>(∃ i,xs=[.int i]/\Q (.int i) H)\/∃ k,xs=[.bl k]/\Q (.int (if k then 1 else 0)) H):=by
 intro pins s σ H xs us Q I r h
 rcases h with ⟨i,rfl,q⟩|⟨k,rfl,q⟩
 .obtain ⟨u,rfl,t,rfl⟩:=lA r
  exact call_int_int ⟨.int i,H,I,⟨_,rfl⟩,q⟩
 .obtain ⟨u,rfl,a⟩:=lA r
  cases a
  exact call_int_bool ⟨.int (if k then 1 else 0),H,I.tok _,⟨_,rfl⟩,q⟩
def aFT(K:Frag)(x:V)(H:Hp)(n:Nat):Prop:=
 match x with
 | .str y=>y.length<=sizeLine/\n=y.length
 | .byt y=>y.size<=sizeLine/\n=y.size
 | .ref p=>(∃ xs,SqL K H p xs/\n=xs.length)\/∃ xs,SqT K H p xs/\n=xs.length
 | _=>False
theorem dR:iB X (.builtin "len") (fun xs H Q=>∃ x n,xs=[x]/\aFT X.K x H n/\Q (.int n) H):=by
 intro pins s σ H xs us Q I r h
 obtain ⟨x,n,rfl,e,q⟩:=h
 obtain ⟨u,rfl,g⟩:=lA r
 have l:=oN
 have m:sizeLine=16777216:=D0
 cases x with
 | str y=>
  obtain ⟨t,rfl⟩:=g
  obtain ⟨k,b⟩:y.length<=sizeLine/\n=y.length:=e
  subst b
  exact len_str (by omega) ⟨.int _,H,I.tok _,⟨_,rfl⟩,q⟩
 | byt y=>
  obtain ⟨t,rfl⟩:=g
  obtain ⟨k,b⟩:y.size<=sizeLine/\n=y.size:=e
  subst b
  exact PySem.W.len_bytes (by omega) ⟨.int _,H,I.tok _,⟨_,rfl⟩,q⟩
 | ref p=>
  cases g
  have b:(∃ xs,SqL X.K H p xs/\n=xs.length)\/∃ xs,SqT X.K H p xs/\n=xs.length:=e
  rcases b with ⟨xs,f,b⟩|⟨xs,f,b⟩
  .subst b
   obtain ⟨d,c,i,j⟩:=I.list f
   have a:=c.length
   exact Calls.call_len_list i.isList (by simp only[BB];omega) ⟨.int xs.length,H,I.tok _,⟨_,by simp only[BB];rw[a]⟩,q⟩
  .subst b
   obtain ⟨d,c,i,j⟩:=I.tuple f
   have a:=c.length
   exact len_tuple i (by simp only[BB];omega) ⟨.int xs.length,H,I.tok _,⟨_,by simp only[BB];rw[a]⟩,q⟩
 | _=>exact (show False from e).elim
end
structure ObjM(h:Heap)(x dx C:Az)(mA:Str->Option V9):Prop where
 obj:h.get? x=some (PySem.W.instObj C dx)
 ns:h.Ns1 dx mA
 ne:dx≠x
theorem j4{h:H9}{dx:Az}{mA:Str->O9 V9}(n:h.Ns1 dx mA):∃ od,h.get? dx=some od/\∀ name,PySem.W.lookIn name od=some (mA name):=by
 obtain ⟨o,es,k,c,i,g,_,j⟩:=n
 refine ⟨o,c,fun name=>?_⟩
 have e:=j name
 unfold nsFind findBy at e
 rw[<-Array.find?_toList] at e
 unfold PySem.W.lookIn
 rw[i]
 dsimp only
 split
 .rename_i y q
  rw[q] at e
  exact D2 some e
 .rename_i q
  rw[q] at e
  have a:es.toList.any (·.refKey)=false:=by
   rw[List.any_eq_false]
   intro y d
   obtain ⟨z,t,b⟩:=g y (Array.mem_toList_iff.mp d)
   simp[DictEntry.refKey,b]
  have f:¬ es.toList.any (·.refKey)=true:=by rw[a];exact BQ
  rw[AM f]
  exact D2 some e
theorem ObjM.look{h:H9}{x dx C:Az}{mA:Str->O9 V9}(I:ObjM h x dx C mA):∃ od,PySem.W.InstAt h x (PySem.W.instObj C dx) C (some od)/\∀ name,PySem.W.lookIn name od=some (mA name):=
 let ⟨od,ho,hl⟩:=j4 I.ns
 ⟨od,⟨I.obj,rfl,rfl,ho⟩,hl⟩
section
variable{prog:P9}{w:W9}{A:U9}{E:V9->S9->Prop}{s:S9}{K:Frag}{x dx C f:Az}{mA:Str->O9 V9}{name:Str}{v:V9}
theorem aAM{pl:Sem Bool}{Q:V9×List V9->S9->Prop}(X:K.In s.heap)(I:ObjM s.heap x dx C mA)(a:PySem.W.plainGet K C name=true)
  (d:PySem.W.findIn K (.ref C) name=some (some (.ref f))) (b:PySem.W.isFn K (.ref f)=true) (e:mA name=none) (h:Q (.ref f,[.ref x]) s) :
  wpAny (model prog w) A (getMethod (.ref x) name pl) Q E s:=by
 obtain ⟨od,J,c⟩:=I.look
 exact PySem.W.method_fn X J (PySem.W.plainGet_of a).1 (PySem.W.plainGet_of a).2 d (EA.mp b) (by show (PySem.W.lookIn name od).map (·.isSome)=some false;rw[c,e];rfl) h
end
noncomputable def pO(f:Str)(v:V):List (Str×V)->List (Str×V)
 | []=>[(f,v)]
 | (g,x)::r=>if g=f then (g,v)::r else (g,x)::pO f v r
theorem nN(f g:Str)(v:V):∀ fs:List (Str×V),(pO f v fs).lookup g=if g=f then some v else fs.lookup g
 | []=>by
  show List.lookup g [(f,v)]=_
  by_cases h:g=f
  .have hb:(g == f)=true:=EA.mpr h
   simp only[List.lookup,hb,AK h]
  .have hb:(g == f)=false:=C5.mpr h
   simp only[List.lookup,hb,AM h]
 | (k,x)::r=>by
  have b:=nN f g v r
  rw[show pO f v ((k,x)::r)=(if k=f then (k,v)::r else (k,x)::pO f v r) from rfl]
  by_cases a:k=f
  .rw[AK a]
   by_cases h:g=k
   .have hb:(g == k)=true:=EA.mpr h
    simp only[List.lookup,hb,AK (h.trans a)]
   .have hb:(g == k)=false:=C5.mpr h
    simp only[List.lookup,hb,AM (fun e:g=f=>h (e.trans a.symm))]
  .rw[AM a]
   by_cases h:g=k
   .have hb:(g == k)=true:=EA.mpr h
    simp only[List.lookup,hb,AM (fun e:g=f=>a (h.symm.trans e))]
   .have hb:(g == k)=false:=C5.mpr h
    simp only[List.lookup,hb]
    exact b
theorem fS.some_of{v:V}{o:O9 V9}(r:fS (some v) o):∃ u,o=some u/\aU v u:=by
 cases o with
 | none=>exact (show False from r).elim
 | some u=>exact ⟨u,rfl,r⟩
theorem fS.none_of{o:O9 V9}(r:fS none o):o=none:=by
 cases o with
 | none=>rfl
 | some u=>exact (show False from r).elim
theorem yD{v:V}{u:V9}(r:aU v u):PySem.W.handedIn u=true:=by
 cases v with
 | non=>cases (show u=Value.none from r);rfl
 | bl b=>cases (show u=Value.bool b from r);rfl
 | int i=>obtain ⟨t,e⟩:=(show ∃ t,u=Value.int i t from r);cases e;rfl
 | str x=>obtain ⟨t,e⟩:=(show ∃ t,u=Value.str x t from r);cases e;rfl
 | byt b=>obtain ⟨t,e⟩:=(show ∃ t,u=Value.bytes b t from r);cases e;rfl
 | flt b=>obtain ⟨t,e⟩:=(show ∃ t,u=Value.float b t from r);cases e;rfl
 | ref a=>cases (show u=Value.ref a from r);rfl
 | ty n=>cases (show u=Value.type n from r);rfl
section
variable{P:P9}{w:W9}{H H':Hp}{h h':H9}{a C dx:Az}{fs fs':List (Str×V)}
theorem vH(hok:HOk P w H h)(e:H a=some (.ins C dx fs)):∃ mA,ObjM h a dx C mA/\(∀ f,fS (fs.lookup f) (mA f))/\PySem.Within mA (fs.map (·.1))/\fs.length<=1000/\H dx=some (.own a):=by
 obtain ⟨d,z,c,b,mA,n,r,q⟩:=(show bP P w H h a (.ins C dx fs) from hok a _ e)
 exact ⟨mA,⟨b,n,c⟩,r,q,z,d⟩
end
structure Cls(K:Frag)(C:Az):Prop where
 pg:PySem.W.plainGet K C Str.empty=true
 hd:PySem.W.hasDictIn K C=true
 po:PySem.W.plainOver K C=true
 sa:PySem.W.findIn K (.ref C) "__setattr__"=some (some (.builtin "object.__setattr__"))
theorem Cls.get{K:Frag}{C:Az}(c:Cls K C)(f:Str):PySem.W.plainGet K C f=true:=c.pg
structure Con(K:Frag)(C:Az)(f:Str)(v:V)(u:V9):Prop where
 at_:PySem.W.findIn K (.ref C) f=some (some u)
 rel:aU v u
 get:PySem.W.specialIn K u "__get__"=some none
 cp:PySem.W.copiedNames.contains f=false
structure Meth(K:Frag)(C:Az)(m:Str)(f:Az):Prop where
 at_:PySem.W.findIn K (.ref C) m=some (some (.ref f))
 fn:PySem.W.isFn K (.ref f)=true
 kp:PySem.W.keepIn K (.ref f)=true
section
variable{X:Cx}{pins:List (Az×Obj)}{σ:St}{H:Hp}{s:S9}{a C dx:Az}{fs:List (Str×V)}{f:Str}{v:V}{A:U9}{E:V9->S9->Prop}
theorem wM{m:Str}{g:Az}{pl:Sem Bool}{Q:V9×List V9->S9->Prop}(I:Inv X pins σ H s)(e:H a=some (.ins C dx fs))(c:Cls X.K C)(k:Meth X.K C m g)(l:fs.lookup m=none)
  (h:Q (.ref g,[.ref a]) s):wpAny (model X.prog X.w) A (getMethod (.ref a) m pl) Q E s:=by
 obtain ⟨mA,O,r,_,_,_⟩:=vH I.hok e
 have b:mA m=none:=fS.none_of (by rw[<-l];exact r m)
 exact aAM I.kIn O (c.get m) k.at_ k.fn b h
theorem aC3{prog:P9}{w:W9}{env:Env}{e:E1}{f:Str}{pos:Pos}{s:S9}{Q:V9->S9->Prop}(a:attributeBase e f env (eval e env)=eval e env)
  (h:wpAny (model prog w) A (eval e env) (fun o s₁=>wpAny (model prog w) A (getAttr o f true) Q E s₁) E s):wpAny (model prog w) A (eval (.Attribute e f pos) env) Q E s:=
 Attribute_any_ h (by rw[arm_eval_Attribute,a])
end
section
variable{X:Cx}{o e value:E1}{f:Str}{pos pos' tpos:Pos}{ta tv:TE}
theorem uY{pl:Sem Bool}{m:Str}{apos:Pos}{args:List E1}{pins:List (Az×Obj)}{s:S9}{σ:St}{H:Hp}{Q:V9->S9->Prop}{te:TE}(o:PE X e te)(I:Inv X pins σ H s)
  (h:te σ H fun x H1=>∃ a C dx fs g,x=.ref a/\H1 a=some (.ins C dx fs)/\Cls X.K C/\Meth X.K C m g/\fs.lookup m=none /\
   ∀ s1,Inv X pins σ H1 s1->wpAny (model X.prog X.w) X.A (callWith pos (.ref g) [.ref a] (backTo pos (starEach args X.env)) (backToKw pos (keywordEach [] X.env))) Q X.xe s1)
  (j:eval (.Call (.Attribute e m apos) args [] pos) X.env=(do
   let ov <-eval e X.env
   standAt apos.atName
   let (f,first) <-holding [ov] (getMethod ov m pl)
   callWith pos f first (backTo pos (starEach args X.env)) (backToKw pos (keywordEach [] X.env)))) :
  wpAny (model X.prog X.w) X.A (eval (.Call (.Attribute e m apos) args [] pos) X.env) Q X.xe s:=by
 refine PySem.W.methodCall_KW (pl:=pl) (thn (o pins s σ H _ I h) fun u s1 b=>?_) j
 obtain ⟨x,H1,d,n,a,C,dx,fs,g,ex,i,c,k,l,q⟩:=b
 subst ex
 obtain rfl:u=Value.ref a:=n
 exact wM d i c k l (q s1 d)
end
section
variable{X:Cx}{pins:List (Az×Obj)}{σ:St}{H:Hp}{s:S9}{A:U9}{E:V9->S9->Prop}{Q:V9->S9->Prop}{c:V9}{b:Bool}
inductive TyOf(K:Frag)(H:Hp):V->V9->Prop where
 | non:TyOf K H .non (.type "NoneType")
 | bl (x:Bool):TyOf K H (.bl x) (.type "bool")
 | int (i:Int):TyOf K H (.int i) (.type "int")
 | str (x:Str):TyOf K H (.str x) (.type "str")
 | flt (x:UInt64):TyOf K H (.flt x) (.type "float")
 | lst {a:Az} {xs:List V} (e:H a=some (.lst xs)):TyOf K H (.ref a) (.type "list")
 | frz {a:Az} {o:Obj} {xs:List V} (e:H a=some (.frz o (.lst xs))):TyOf K H (.ref a) (.type "list")
 | tup {a:Az} {xs:List V} (e:H a=some (.tup xs)):TyOf K H (.ref a) (.type "tuple")
 | dK {a:Az} {kvs:List (Key×V)} (e:H a=some (.dK kvs)):TyOf K H (.ref a) (.type "dict")
 | dT {a:Az} {kvs:List (List Key×V)} (e:H a=some (.dT kvs)):TyOf K H (.ref a) (.type "dict")
 | ins {a C dx:Az} {fs:List (Str×V)} (e:H a=some (.ins C dx fs)) (cl:Cls K C) (ha:PySem.W.findIn K (.ref C) "__class__"=some (some (.builtin "object.__class__")))
  (hn:PySem.W.specialIn K (.builtin "object.__class__") "__get__"=some (some (.builtin "getset_descriptor.__get__"))) (htk:PySem.W.takesIn K (.builtin "object.__class__")=some true)
  (hm:PySem.W.mroIn K C (.type "object")=some true):TyOf K H (.ref a) (.ref C)
theorem yE{x:V}{u t:V9}(I:Inv X pins σ H s)(d:aU x u)(ty:TyOf X.K H x t)(e:PySem.W.kitOne X.K t c=some b)(h:∀ tk,Q (.bool b) {s with toks:=tk}) :
  wpAny (model X.prog X.w) A (call (.builtin "isinstance") [u,c]) Q E s:=by
 cases ty with
 | non=>cases (show u=Value.none from d);exact BM PySem.W.kitx_none I.kIn True.intro e (fun z=>nomatch z) h
 | bl y=>cases (show u=Value.bool y from d);exact BM PySem.W.kitx_bool I.kIn True.intro e (fun z=>nomatch z) h
 | int i=>obtain ⟨t,q⟩:=(show ∃ t,u=Value.int i t from d);cases q;exact BM PySem.W.kitx_int I.kIn True.intro e (fun z=>nomatch z) h
 | str y=>obtain ⟨t,q⟩:=(show ∃ t,u=Value.str y t from d);cases q;exact BM PySem.W.kitx_str I.kIn True.intro e (fun z=>nomatch z) h
 | flt y=>obtain ⟨t,q⟩:=(show ∃ t,u=Value.float y t from d);cases q;exact BM PySem.W.kitx_float I.kIn True.intro e (fun z=>nomatch z) h
 | @lst a xs ea=>
  cases (show u=Value.ref a from d)
  obtain ⟨_,_,n,_,h1⟩:=(show bP X.prog X.w H s.heap a (.lst xs) from I.hok a _ ea)
  exact BM EM I.kIn ⟨_,h1,rfl⟩ e (fun z=>nomatch z) h
 | @frz a ob xs ea=>
  cases (show u=Value.ref a from d)
  obtain ⟨_,_,_,n,_,h1⟩:=(show bP X.prog X.w H s.heap a (.frz ob (.lst xs)) from I.hok a _ ea)
  exact BM EM I.kIn ⟨_,h1,rfl⟩ e (fun z=>nomatch z) h
 | @tup a xs ea=>
  cases (show u=Value.ref a from d)
  obtain ⟨_,_,_,p⟩:=(show bP X.prog X.w H s.heap a (.tup xs) from I.hok a _ ea)
  obtain ⟨o,h1,h2,_⟩:=p
  exact BM PySem.W.kitx_tuple I.kIn ⟨o,h1,h2.1⟩ e (fun z=>nomatch z) h
 | @dK a kvs ea=>
  cases (show u=Value.ref a from d)
  obtain ⟨_,_,vs,_,p⟩:=(show bP X.prog X.w H s.heap a (.dK kvs) from I.hok a _ ea)
  obtain ⟨o,es,f,h1,h2,_⟩:=p
  exact BM PySem.W.kitx_dict I.kIn ⟨o,h1,h2.1⟩ e (fun z=>nomatch z) h
 | @dT a kvs ea=>
  cases (show u=Value.ref a from d)
  obtain ⟨_,_,xs,_,o,es,f,h1,h2,_⟩:=(show bP X.prog X.w H s.heap a (.dT kvs) from I.hok a _ ea)
  exact BM PySem.W.kitx_dict I.kIn ⟨o,h1,h2.1⟩ e (fun z=>nomatch z) h
 | @ins a C dx fs ea cl ha hn htk hm=>
  cases (show u=Value.ref a from d)
  obtain ⟨mA,O,_⟩:=vH I.hok ea
  obtain ⟨od,J,_⟩:=O.look
  exact BM (PySem.W.kitx_own (cl.get _) cl.hd ha hn htk hm) I.kIn J e (fun z=>nomatch z) h
end
structure Room(k:Nat)(A:Around):Prop where
 hd:A.handled=none
 dp:A.depth+3 * k+5 < recursionLimit
 un:A.units+16 * k+200 < cLine
theorem Room.mono{j k:Nat}{A:U9}(r:Room k A)(h:j<=k):Room j A:=⟨r.hd,by have:=r.dp;omega,by have:=r.un;omega⟩
theorem Room.deeper{k:Nat}{A:U9}(r:Room (k+1) A)(env:Env):Room k (A.deeper env):=
 ⟨r.hd,by have:=r.dp;show A.depth+1+3 * k+5 < _;omega,by have:=r.un;show A.units+3+16 * k+200 < _;omega⟩
theorem wN{A:U9}{C:Az}{us:List V9}{a:List (Str×V9)}:(A.under (.builtin "type.__call__" ⟨.ref C::us,a⟩)).depth=A.depth+1:=by
 first|rfl|simp[Around.under,Code.weight,Code.isCreation,Code.isGuard,Code.isCaller,Code.frames,Code.isFrame,guardIds]
theorem wO{A:U9}{C:Az}{us:List V9}{a:List (Str×V9)}:(A.under (.builtin "type.__call__" ⟨.ref C::us,a⟩)).units=A.units+1:=by
 first|rfl|simp[Around.under,Code.cUnits,Code.frames,Code.isFrame]
theorem Room.make{k:Nat}{A:U9}(r:Room (k+1) A)(C:Az)(us:List V9)(a:List (Str×V9)):Room k (A.under (.builtin "type.__call__" ⟨.ref C::us,a⟩)):=
 ⟨r.hd,by have:=r.dp;rw[wN];omega,by have:=r.un;rw[wO];omega⟩
theorem Room.depth{k:Nat}{A:U9}(r:Room k A):A.depth < recursionLimit:=by have:=r.dp;omega
theorem Room.units{k:Nat}{A:U9}(r:Room k A):A.units+64 < cLine:=by have:=r.un;omega
def iC:TA:=fun _ H Q=>Q [] H
def eF(ta:TE)(tr:TA):TA:=fun σ H Q=>ta σ H fun x H1=>tr σ H1 fun xs H2=>Q (x::xs) H2
section
variable{X:Cx}{e:E1}{es:List E1}{te:TE}{t:TA}{pos:Pos}
theorem aY:PA X [] iC:=fun _ _ _ _ H Q I h=>Calls.spliced_nil ⟨[],H,I,.nil,h⟩
theorem aN(i:PE X e te)(f:PA X es t)(k:starEach (e::es) X.env=(false,eval e X.env)::starEach es X.env:=by rfl):PA X (e::es) (eF te t):=by
 intro pos pins s σ H Q I h
 rw[k]
 show wpAny _ _ (spliced ((false,eval e X.env)::backTo pos (starEach es X.env))) _ _ s
 refine Calls.spliced_cons (thn (i pins s σ H _ I h) fun u s1 a=>?_)
 obtain ⟨x,H1,j,b,g⟩:=a
 exact thn (f pos pins s1 σ H1 _ j g) fun us m ⟨xs,H2,c,l,d⟩=>⟨x::xs,H2,c,.cons b l,d⟩
def aIS(t:TA):TE:=fun σ H Q=>t σ H fun xs H1=>xs.length<=sizeLine/\∀ p,H1 p=none->Q (.ref p) (upd H1 p (.tup xs))
def aIT(t:TA):TE:=fun σ H Q=>t σ H fun xs H1=>xs.length<=sizeLine/\∀ p,H1 p=none->Q (.ref p) (upd H1 p (.lst xs))
theorem aFU{x1}(h:PA X es t):PE X (.Tuple es x1 pos) (aIS t):=by
 intro pins s σ H Q I c
 refine wpAny_Tuple_spliced (thn (h pos pins s σ H _ I c) fun us s1 ⟨xs,H1,a,r,z,q⟩=>⟨by rw[<-r.length];exact z,?_⟩)
 have d:H1 s1.heap.objs.size=none:=a.hok.fresh (AI _)
 refine ⟨.ref s1.heap.objs.size,upd H1 s1.heap.objs.size (.tup xs),a.laid (t':=s1.toks) (fun b u e=>AE _ e) (AI _) ?_,rfl,q _ d⟩
 exact ⟨z,us,r,⟨_,A7 _ rfl,⟨rfl,rfl⟩,_,rfl⟩⟩
theorem aFV(h:PA X es t):PE X (.List es pos) (aIT t):=by
 intro pins s σ H Q I c
 refine wpAny_List_spliced (thn (h pos pins s σ H _ I c) fun us s1 ⟨xs,H1,a,r,z,q⟩=>⟨by rw[<-r.length];exact z,?_⟩)
 have d:H1 s1.heap.objs.size=none:=a.hok.fresh (AI _)
 refine ⟨.ref s1.heap.objs.size,upd H1 s1.heap.objs.size (.lst xs),a.laid (t':=s1.toks) (fun b u e=>AE _ e) (AI _) ?_,rfl,q _ d⟩
 exact ⟨z,us,0,r,A7 _ rfl⟩
end
abbrev Sp:=List V->Hp->VK->XK->Prop
abbrev CXT:=List Env->Hp->S9->XK->V9->S9->Prop
structure Env0(P:Program)(w:World)(K:Frag)(mg:Str->Option V9)(base:Heap)(A:Around)(outer:List Env)(s:S9)(H:Hp):Prop where
 frames:A.frames=some outer
 mod:Mod K mg base
 bs:∀ b o,base.get? b=some o->s.heap.get? b=some o/\H b=none
 bsz:base.objs.size<=s.heap.objs.size
 funs:s.heap.FunFrames base outer
 frf:∀ b∈frs outer,H b=none
 hok:HOk P w H s.heap
 bare:AllBare s.gens
def CE(outer:List Env)(P:P9)(w:W9)(H:Hp)(s:S9)(Q:VK)(u:V9)(s':S9):Prop:=
 ∃ v H',s'.os=s.os/\AllBare s'.gens/\Un (frs outer) [] H H' s.heap s'.heap/\HOk P w H' s'.heap/\aU v u/\Q v H'
def CR(CX:CXT)(outer:List Env)(P:P9)(w:W9)(H:Hp)(s:S9)(Q:VK)(E:XK)(r:Result)(s':S9):Prop:=
 match r with
 | .ok (.ret u)=>CE outer P w H s Q u s'
 | .ok _=>False
 | .error e=>CX outer H s E e s'
structure FnOk(P:Program)(w:World)(K:Frag)(mg:Str->Option V9)(base:Heap)(CX:CXT)(k:Nat)(f:Az)(fd:FuncData)(ps:List Str)(sp:Sp):Prop where
 len:∀ vs H Q E,sp vs H Q E->vs.length=ps.length
 run:∀ (A:Around) (outer:List Env) (s:S9) (H:Hp) (args:Args) (us:List V9) (vs:List V) (Q:VK) (E:XK),Room k A->Env0 P w K mg base A outer s H->BindsTo s fd args (ps.zip us)->aW vs us->sp vs H Q E->
  codeAny (model P w) A (.call (.ref f) args) (CR CX outer P w H s Q E) s
theorem FnOk.imp{P:P9}{w:W9}{K:Frag}{mg:Str->O9 V9}{base:H9}{CX:CXT}{k:Nat}{f:Az}{fd:FuncData}{ps:List Str}{sp a:Sp}(F:FnOk P w K mg base CX k f fd ps sp)
  (h:∀ vs H Q E,a vs H Q E->sp vs H Q E):FnOk P w K mg base CX k f fd ps a:=
 ⟨fun vs H Q E q=>F.len vs H Q E (h _ _ _ _ q),fun A outer s H args us vs Q E d g e b c=>F.run A outer s H args us vs Q E d g e b (h _ _ _ _ c)⟩
theorem Env0.make{P:P9}{w:W9}{K:Frag}{mg:Str->O9 V9}{base:H9}{A:U9}{outer:List Env}{s:S9}{H:Hp}(e:Env0 P w K mg base A outer s H)(C:Az)(us:List V9)(a:List (Str×V9)) :
 Env0 P w K mg base (A.under (.builtin "type.__call__" ⟨.ref C::us,a⟩)) outer s H:=⟨by first|exact e.frames|(simpa[Around.under,Code.envs,Code.isFrame,pushEnvs] using e.frames),e.mod,e.bs,e.bsz,e.funs,e.frf,e.hok,e.bare⟩
section
variable{X:Cx}{pins:List (Az×Obj)}{σ:St}{H:Hp}{s s':S9}
theorem Inv.env0(I:Inv X pins σ H s):Env0 X.prog X.w X.K X.mg X.base X.A X.stack s H:=
 ⟨I.ok.frames,I.ok.mod,I.bs,A4 I.ok.bsz I.sz,I.stack,I.stkFree,I.hok,I.bare⟩
theorem Inv.after{Q:VK}{u:V9}(I:Inv X pins σ H s)(h:CE X.stack X.prog X.w H s Q u s'):EP X pins σ Q u s':=by
 obtain ⟨v,H',os,a,un,e,r,q⟩:=h
 obtain ⟨f,g,d,t,c⟩:=s'
 obtain rfl:c=s.os:=os
 exact ⟨v,H',I.call (h':=f) (g':=g) (d':=d) (t':=t) (ch:=[]) un e a (fun b z=>absurd z (by simp)),r,q⟩
end
def m8(sp:Sp)(dvs:List V)(E:XK)(t:TA):TE:=fun σ H Q=>t σ H fun vs H1=>sp (vs++dvs) H1 Q E
def cU(K:Frag)(fd:FuncData)(ps:List Str)(ds:List V9):Prop:=
 ∀ (s:S9) (us:List V9),K.In s.heap->(us++ds).length=ps.length->BindsTo s fd ⟨us,[]⟩ (ps.zip (us++ds))
theorem cU.all{K:Frag}{fd:FuncData}{ps:List Str}(h:∀ us:List V9,us.length=ps.length->bindArgs fd ⟨us,[]⟩=pure (ps.zip us)):cU K fd ps []:=fun s us _ a=>by
 rw[BV] at a ⊢
 exact .of_eq (h us a)
def jT(CX:CXT)(X:Cx)(E:XK):Prop:=∀ (pins:List (Az×Obj)) (σ:St) (H:Hp) (s:S9) (e:V9) (s':S9),Inv X pins σ H s->CX X.stack H s E e s'->X.xe e s'
section
variable{X:Cx}{CX:CXT}{k:Nat}{f C:Az}{fd:FuncData}{ps:List Str}{sp:Sp}{dvs:List V}{ds:List V9}{E:XK}{x m:Str}{p pos apos:Pos}{e o:E1}{es:List E1}{ta:TE}{t:TA}
theorem sG{pins:List (Az×Obj)}{σ:St}{H:Hp}{s:S9}{Q:VK}{us:List V9}{vs:List V}(F:FnOk X.prog X.w X.K X.mg X.base CX k f fd ps sp)(d:Room k X.A)(g:cU X.K fd ps ds)(i:aW dvs ds)(hx:jT CX X E)
  (I:Inv X pins σ H s) (r:aW vs us) (h:sp (vs++dvs) H Q E):wpAny (model X.prog X.w) X.A (call (.ref f) us) (EP X pins σ Q) X.xe s:=by
 have b:aW (vs++dvs) (us++ds):=r.append i
 have c:(us++ds).length=ps.length:=by rw[<-b.length];exact F.len _ _ _ _ h
 refine DT (DO (F.run X.A X.stack s H ⟨us,[]⟩ (us++ds) (vs++dvs) Q E d I.env0 (g s us I.kIn c) b h) fun r s' a=>?_)
 cases r with
 | error e=>exact hx pins σ H s e s' I a
 | ok fl=>
  cases fl with
  | ret u=>exact I.after a
  | next=>exact False.elim a
  | brk=>exact False.elim a
  | cont=>exact False.elim a
theorem aC4(F:FnOk X.prog X.w X.K X.mg X.base CX k f fd ps sp)(d:Room k X.A)(c:Gl X x)(m:X.mg x=some (.ref f))(j:PySem.W.keepIn X.K (.ref f)=true)(i:cU X.K fd ps ds)(l:aW dvs ds)(hx:jT CX X E)
  (g:PA X (e::es) t) (a:(x == ("__debug__":Str))=false:=by decide) (he:starEach (e::es) X.env=(false,eval e X.env)::starEach es X.env:=by rfl) (hpl:(backTo pos (starEach es X.env)).any (·.1)=false:=by rfl) :
  PE X (.Call (.Name x p) (e::es) [] pos) (m8 sp dvs E t):=by
 intro pins s σ H Q I h
 refine CO (kL I c m ?_ a)
 refine DP (h₀:=X.base) I.ok.mod.kin j (thn (g pos pins s σ H _ I h) fun us s1 ⟨vs,H1,b,r,q⟩=>⟨b.kIn,?_⟩) he hpl
 exact sG F d i l hx b r q
structure Mk(K:Frag)(C f:Az):Prop where
 makes:PySem.W.makesIn K C=true
 init:PySem.W.findIn K (.ref C) "__init__"=some (some (.ref f))
 fn:PySem.W.isFn K (.ref f)=true
 kp:PySem.W.keepIn K (.ref C)=true
end
section
variable{X:Cx}{CX:CXT}{k:Nat}{f C:Az}{fd:FuncData}{ps ks:List Str}{sp:Sp}{E:XK}{x m:Str}{p pos apos kpos:Pos}{e o:E1}{es:List E1}{kws:List Keyword}{te ta:TE}{t tk:TA}{nm:O9 Str}
structure KBinds(K:Frag)(fd:FuncData)(ps ks:List Str)(g:List V9->List V9->List V9)(gV:List V->List V->List V):Prop where
 to:∀ (s:S9) (us ws:List V9),K.In s.heap->(g us ws).length=ps.length->BindsTo s fd ⟨us,ks.zip ws⟩ (ps.zip (g us ws))
 rel:∀ {vs:List V} {us:List V9} {zs:List V} {ws:List V9},aW vs us->aW zs ws->aW (gV vs zs) (g us ws)
variable{g:List V9->List V9->List V9}{gV:List V->List V->List V}
end
structure FnScope(N P:List Str)(sc:Scope):Prop where
 kind:sc.kind=.function
 co:sc.isCoroutine=false
 gen:sc.isGenerator=false
 nd:N.Nodup
 pre:N.take P.length=P
 par:∀ x∈P,sc.names.lookup x=some .local\/sc.names.lookup x=some .cell
 nofree:∀ y∈sc.names,y.2≠.free
theorem qR{a:Str->O9 NameKind}{x:Str}:∀ {binds:List (Str×V9)} {m:Str->O9 V9},(∀ v,(x,v)∉binds)->bindL a binds m x=m x
 | [],_,_=>rfl
 | (n,v)::r,m,h=>by
  unfold bindL
  rw[qR fun w hw=>h w (AL _ hw)]
  split
  .have:x≠n:=by rintro rfl;exact h v AX
   simp[this]
  .rfl
theorem qS{a:Str->O9 NameKind}{x:Str}:∀ {binds:List (Str×V9)} {m:Str->O9 V9},(∀ v,(x,v)∉binds)->bindC a binds m x=m x
 | [],_,_=>rfl
 | (n,v)::r,m,h=>by
  unfold bindC
  rw[qS fun w hw=>h w (AL _ hw)]
  split
  .rfl
  .have:x≠n:=by rintro rfl;exact h v AX
   simp[this]
theorem l9{a:Str->O9 NameKind}{x:Str}{v:V9}:∀ {P:List Str} {vs:List V9} {i:Nat} {m:Str->O9 V9},P.Nodup->P[i]? = some x->vs[i]? = some v->a x=some .local->
  bindL a (P.zip vs) m x=some v
 | [],_,_,_,_,h,_,_=>by simp at h
 | _::_,[],_,_,_,_,h,_=>by simp at h
 | p::P,w::vs,0,m,nd,h1,h2,hk=>by
  simp at h1 h2;subst h1;subst h2
  show bindL a ((p,w)::P.zip vs) m p=_
  unfold bindL
  rw[qR fun v hv=>(DC.mp nd).1 (DM hv).1,AK hk]
  simp
 | p::P,w::vs,i+1,m,nd,h1,h2,hk=>by
  show bindL a ((p,w)::P.zip vs) m x=_
  unfold bindL
  exact l9 (i:=i) (DC.mp nd).2 (by simpa using h1) (by simpa using h2) hk
theorem mB{a:Str->O9 NameKind}{x:Str}{v:V9}:∀ {P:List Str} {vs:List V9} {i:Nat} {m:Str->O9 V9},P.Nodup->P[i]? = some x->vs[i]? = some v->a x≠some .local->
  bindC a (P.zip vs) m x=some v
 | [],_,_,_,_,h,_,_=>by simp at h
 | _::_,[],_,_,_,_,h,_=>by simp at h
 | p::P,w::vs,0,m,nd,h1,h2,hk=>by
  simp at h1 h2;subst h1;subst h2
  show bindC a ((p,w)::P.zip vs) m p=_
  unfold bindC
  rw[qS fun v hv=>(DC.mp nd).1 (DM hv).1,AM hk]
  simp
 | p::P,w::vs,i+1,m,nd,h1,h2,hk=>by
  show bindC a ((p,w)::P.zip vs) m x=_
  unfold bindC
  exact mB (i:=i) (DC.mp nd).2 (by simpa using h1) (by simpa using h2) hk
noncomputable def start(N:List Str)(vs:List V):St:=vs.map some++List.replicate (N.length - vs.length) none
noncomputable def dS(CX:CXT)(P:P9)(w:W9)(K:Frag)(mg:Str->O9 V9)(base:H9)(N:List Str)(qual:Str)(scope:Scope)(f:Az)(cd:V9)(A:U9)(outer:List Env)(s:S9)(H:Hp)(E:XK):Cx where
 prog:=P
 w:=w
 K:=K
 mg:=mg
 base:=base
 A:=A.deeper (envOfC qual scope s.heap.objs.size f cd)
 N:=N
 s₀:=s
 H₀:=H
 env:=envOfC qual scope s.heap.objs.size f cd
 outer:=outer
 stack:=envOfC qual scope s.heap.objs.size f cd::outer
 ex:=[]
 calm:=true
 fn:=fun _=>true
 pn:=[]
 xe:=fun e s'=>wpAny (model P w) (A.deeper (envOfC qual scope s.heap.objs.size f cd)) (leaving (envOfC qual scope s.heap.objs.size f cd) e) (fun _ s''=>CX outer H s E e s'') (fun e' s''=>CX outer H s E e' s'') s'
theorem jU{a:Scope}{n:Nat}{x:Str}(h:a.names.lookup x=some .cell):∃ c,(cellsFrom n a.names []).lookup x=some c:=by
 have q:=D1 a.names n [] (.inl h)
 exact ES.mp q
theorem qT{CX:CXT}{P:P9}{w:W9}{K:Frag}{mg:Str->O9 V9}{base:H9}{N ps:List Str}{qual:Str}{scope:Scope}{f:Az}{cd:V9}{A:U9}{outer:List Env}{s s1:S9}{H:Hp}{E:XK}{us:List V9}{vs:List V}
  (S:FnScope N ps scope) (C:A.handled=none) (e0:Env0 P w K mg base A outer s H) (G:vs.length=ps.length) (r:aW vs us)
  (x:InCallC s s.heap.objs.size (bindL (envOfC qual scope s.heap.objs.size f cd).kindOf (ps.zip us) fun _=>none) (cellsFrom (s.heap.objs.size+1) scope.names []) (bindC (envOfC qual scope s.heap.objs.size f cd).kindOf (ps.zip us) fun _=>none) s1) :
  Inv (dS CX P w K mg base N qual scope f cd A outer s H E) [] (start N vs) H s1:=by
 have D:ps.length<=N.length:=by have:=D2 List.length S.pre;rw[B3] at this;omega
 obtain ⟨h1,tk,rfl,o⟩:=x.done
 have d:∀ b:Az,b∉(dS CX P w K mg base N qual scope f cd A outer s H E).ex:=fun b z=>absurd (show b∈([]:List Az) from z) (by simp)
 refine ⟨⟨e0.mod,S.kind,rfl,rfl,AI _,fun y z c h1 h2=>?_,fun y g=>?_,fun y c _ h=>?_,fun _=>C,Around.frames_deeper e0.frames,.inr ⟨rfl,rfl⟩,fun b z=>absurd z (d b),e0.bs,e0.bsz,fun b _ _=>d b,fun b z=>absurd z (d b),e0.funs,e0.frf⟩,
  rfl,e0.bare,Un.kept o,⟨_,x.toInCall.ns,fun i y v h1 h2 F=>?_⟩,fun y c h=>⟨_,x.cell y c h⟩,e0.hok.fresh (AI _),fun y c h=>?_,fun p j=>absurd (show p∈([]:List (Az×Obj)) from j) (by simp),e0.hok.kept o,?_⟩
 .exact name_of_addr x.apart (A8 h1) (A8 h2)
 .have g:scope.names.lookup y=some .cell\/scope.names.lookup y=some .free:=g
  rcases g with g|g
  .exact jU g
  .exact absurd rfl (S.nofree _ (A8 g))
 .exact C3 (x.above y c (A8 h))
 .have hi:i < vs.length:=by
   unfold start at h2
   by_cases hi:i < vs.length
   .exact hi
   .rw[CC (by simpa using hi)] at h2
    rw[DV] at h2
    split at h2<;>cases h2
  have B:vs[i]? = some v:=by
   unfold start at h2
   rw[B2 (by simpa using hi),BC] at h2
   cases e:vs[i]? with
   | none=>rw[e] at h2;cases h2
   | some a=>rw[e] at h2;cases h2;rfl
  obtain ⟨u,m,t⟩:=r.get B
  have j:ps[i]? = some y:=by
   rw[<-S.pre,ET (by omega)];exact h1
  have l:ps.Nodup:=by rw[<-S.pre];exact S.nd.sublist (List.take_sublist _ _)
  refine ⟨u,t,?_⟩
  rcases S.par y (CI j) with k|k
  .exact .inl ⟨k,l9 l j m k⟩
  .obtain ⟨c,e⟩:=jU (n:=s.heap.objs.size+1) k
   refine .inr ⟨.inl k,c,e,?_⟩
   have q:=x.cell y c e
   rw[mB l j m (by show scope.names.lookup y≠_;rw[k];decide)] at q
   exact q
 .exact e0.hok.fresh (C3 (x.above y c (A8 h)))
 .unfold start
  show _=N.length
  rw[A6,AQ,CS]
  omega
theorem wP{CX:CXT}{P:P9}{w:W9}{K:Frag}{mg:Str->O9 V9}{base:H9}{k:Nat}{f:Az}{name qual:Str}{params:Arguments}{body:List Stmt}{scope:Scope}{G kV doc pm a ct O:V9}{D od:O9 Az}
  {B:Array (O9 V9)} {N ps:List Str} {sp:Sp} (R:K.lookup f=some ⟨O,od,.func (PySem.W.fnOf name qual params body scope G kV doc pm D a ct),B⟩) (p:PySem.W.codeIn K a qual=true) (S:FnScope N ps scope)
  (len:∀ vs H Q E,sp vs H Q E->vs.length=ps.length)
  (d:∀ (A:U9) (outer:List Env) (s:S9) (H:Hp) (vs:List V) (Q:VK) (E:XK),Room k (A.deeper (envOfC qual scope s.heap.objs.size f a))->sp vs H Q E->
   ∃ t,PSs (dS CX P w K mg base N qual scope f a A outer s H E) body t/\t {nx:=fun _ H'=>Q .non H',rt:=Q} (start N vs) H) :
  FnOk P w K mg base CX (k+1) f (PySem.W.fnOf name qual params body scope G kV doc pm D a ct) ps sp:=by
 refine ⟨len,fun A outer s H args us vs Q E z e0 M r j=>?_⟩
 have X:=len _ _ _ _ j
 have F:K.In s.heap:=e0.mod.kin.keeps fun b o e=>(e0.bs b o e).1
 have C:s.heap.NoLimit:=e0.mod.nolimit.keeps fun b o e=>(e0.bs b o e).1
 have g:∀ y∈ps.zip us,scope.names.lookup y.1=some .local\/(scope.names.lookup y.1=some .cell/\((cellsFrom (s.heap.objs.size+1) scope.names []).lookup y.1).isSome=true):=fun m Y=>by
  obtain ⟨n,v⟩:=m
  rcases S.par n (DM Y).1 with q|q
  .exact .inl q
  .exact .inr ⟨q,D1 _ _ _ (.inl q)⟩
 refine D6 z.depth (F _ _ R) rfl S.co S.gen rfl (PySem.W.codeRec_of F p) (M _ _ _ _ ?_)
 refine EL S.kind g fun env U s1 x=>?_
 subst U
 refine ⟨C.keeps x.toInCall.keep,codeAny_func ?_⟩
 obtain ⟨t,T,Z⟩:=d A outer s H vs Q E (z.deeper _) j
 have I:Inv (dS CX P w K mg base N qual scope f a A outer s H E) [] (start N vs) H s1:=qT S z.hd e0 X r x
 refine BG (T [] s1 (start N vs) H _ I Z) (fun L s' h=>?_) fun e s' h=>h
 have i:∀ {c:St} {H':Hp} {v:V} {u:V9},Inv (dS CX P w K mg base N qual scope f a A outer s H E) [] c H' s'->aU v u->Q v H'->CE outer P w H s Q u s':=
  fun {c H' v u} J l q=>⟨v,H',J.os,J.bare,J.base,J.hok,l,q⟩
 cases L with
 | ret u=>
  obtain ⟨v,c,H',J,l,q⟩:=h
  exact i J l q
 | next=>
  obtain ⟨c,H',J,q⟩:=h
  exact i (v:=V.non) (u:=Value.none) J rfl q
 | brk=>
  obtain ⟨_,_,_,q⟩:=h
  exact False.elim q
 | cont=>
  obtain ⟨_,_,_,q⟩:=h
  exact False.elim q
section
variable{X:Cx}{x:Str}{p pos:Pos}{e:E1}{es:List E1}{t:TA}{id T:String}{r:List V->Hp->VK->Prop}
def tCB(r:List V->Hp->VK->Prop)(t:TA):TE:=fun σ H Q=>t σ H fun vs H1=>r vs H1 Q
theorem bN(b:iB X (.builtin id) r)(f:Gl X x)(k:X.mg x=none)(d:bootBuiltins x=some (.builtin id))(i:PA X (e::es) t)(c:x≠"__name__":=by decide)(hdb:(x == ("__debug__":Str))=false:=by decide)
  (he:starEach (e::es) X.env=(false,eval e X.env)::starEach es X.env:=by rfl) (hpl:(backTo pos (starEach es X.env)).any (·.1)=false:=by rfl):PE X (.Call (.Name x p) (e::es) [] pos) (tCB r t):=by
 intro pins s σ H Q I h
 refine CO (jS I f k d ?_ c hdb)
 exact PyProof.Rows.callWith_builtin1 (thn (i pos pins s σ H _ I h) fun us s1 ⟨vs,H1,j,a,g⟩=>b pins s1 σ H1 vs us Q j a g) he hpl
theorem hV(b:iB X (.type T) r)(f:Gl X x)(k:X.mg x=none)(d:bootBuiltins x=some (.type T))(i:PA X (e::es) t)(c:x≠"__name__":=by decide)(hdb:(x == ("__debug__":Str))=false:=by decide)
  (he:starEach (e::es) X.env=(false,eval e X.env)::starEach es X.env:=by rfl) (hpl:(backTo pos (starEach es X.env)).any (·.1)=false:=by rfl):PE X (.Call (.Name x p) (e::es) [] pos) (tCB r t):=by
 intro pins s σ H Q I h
 refine CO (jS I f k d ?_ c hdb)
 exact B7 (thn (i pos pins s σ H _ I h) fun us s1 ⟨vs,H1,j,a,g⟩=>b pins s1 σ H1 vs us Q j a g) he hpl
end
end L2
namespace HT
open PySem PyProof.Rows
section
open PySem.SeqAt
open PySem.AutoSeq1 (wpAny_loadPart')
open PySem.MeetsSeq PySem.MeetsSeq2 PySem.MeetsSeq3
end
section
variable{prog:P9}{w:W9}{A:U9}{E:V9->S9->Prop}{s:S9}
theorem aC5{t b:Az}{vs a:List V9}{Q:V9->S9->Prop}(u:IsTup s.heap t vs.toArray)(v:IsTup s.heap b a.toArray)(m:vs≠[])
  (h1:a=[]->Q (.ref t) s) (h2:a≠[]->Q (.ref s.heap.objs.size) {s with heap:=s.heap.push {cls:=.type "tuple",data:=.seq (vs++a).toArray}})
  (hsz:vs.length+a.length<=sizeLine):wpAny (model prog w) A (binaryOp .Add (.ref t) (.ref b)) Q E s:=by
 obtain ⟨⟨cls,dd,data,q⟩,i,l,n,p⟩:=id u
 obtain ⟨⟨o,d,k,f⟩,c,g,r,h⟩:=id v
 simp only at l p g h
 subst l p g h
 have e:vs.toArray++a.toArray=(vs++a).toArray:=by simp
 by_cases j:a=[]
 .exact concat_meets ⟨_,i,rfl⟩ ⟨_,c,rfl⟩ noFill_tuple_add seq_tuple_add E4 E2 (EU _ _)
   (tuple_addW1 t b vs.toArray a.toArray n r dd d q f (by simpa using m) (by simp[j])) ⟨i,c,h1 j⟩
 .refine concat_meets ⟨_,i,rfl⟩ ⟨_,c,rfl⟩ noFill_tuple_add seq_tuple_add E4 E2 (EU _ _)
   (tuple_addW2 t b vs.toArray a.toArray n r dd d q f (by simpa using m) (by simpa using j) (by rw[BB,BB];exact hsz)) ⟨i,c,?_⟩
  rw[e]
  exact h2 j
noncomputable def sIx(n d:Nat):O9 Int->Nat
 | none=>d
 | some v=>if v < 0 then (v+(n:Int)).toNat else min v.toNat n
theorem aFW(n d:Nat)(b:d<=n)(o:O9 Int):sIx n d o<=n:=by
 cases o with
 | none=>exact b
 | some v=>
  show (if v < 0 then (v+(n:Int)).toNat else min v.toNat n)<=n
  by_cases a:v < 0
  · rw [AK a]; omega
  · rw [AM a]; exact Nat.min_le_right _ _
theorem vI(v:Int)(n d:Nat):(if v < 0 then max (v+(n:Int)) 0 else min v (n:Int))=((sIx n d (some v):Nat):Int):=by
 show (if v < 0 then max (v+(n:Int)) 0 else min v (n:Int))=(((if v < 0 then (v+(n:Int)).toNat else min v.toNat n):Nat):Int)
 by_cases a:v < 0
 · simp only [AK a]; omega
 · simp only [AM a]; omega
theorem wQ(lo hi:O9 Int)(n:Nat):Builtin.Slice.sliceAdjust lo hi 1 (n:Int)=(((sIx n 0 lo:Nat):Int),((sIx n n hi:Nat):Int)):=by
 have h1:¬ ((1:Int) < 0):=by omega
 unfold Builtin.Slice.sliceAdjust
 simp only[h1,BS]
 refine Prod.ext ?_ ?_
 .cases lo with
  | none=>rfl
  | some v=>exact vI v n 0
 .cases hi with
  | none=>rfl
  | some v=>exact vI v n n
theorem wR(i j:Nat):Builtin.Slice.slicePlaces (i:Int) (j:Int) 1=j - i:=by
 unfold Builtin.Slice.slicePlaces
 have h1:(1:Int) > 0:=by omega
 simp only[h1,BD,Int.ediv_one]
 split<;>omega
theorem oP{v:V9}{o:O9 Int}{Q:O9 Int->S9->Prop}(p:IsPart v o)(h:Q o s):wpAny (model prog w) A (Builtin.Slice.slicePartIndex v) Q E s:=by
 cases p with
 | none=>exact slicePart_none h
 | int i t=>exact slicePart_int h
theorem nZ{e:Az}{d c:V9}{lo hi:O9 Int}{n:Nat}{Q:Int×Int×Nat->S9->Prop}(f:s.heap.IsSliceOf e d c .none)(pl:IsPart d lo)(i:IsPart c hi)
  (h:Q (((sIx n 0 lo:Nat):Int),1,sIx n n hi - sIx n 0 lo) s):wpAny (model prog w) A (Builtin.Slice.sliceApplied (.ref e) (pure (n:Int))) Q E s:=by
 obtain ⟨os,a,g,b⟩:=id f
 unfold Builtin.Slice.sliceApplied Builtin.Slice.sliceFields
 refine AA (AA (B4 a b (x:=d) rfl (AA (B4 a b (x:=c) rfl (AA (B4 a b (x:=.none) rfl (AD ?_)))))))
 refine AA (slicePart_none ?_)
 show wpAny _ _ (if ((1:Int) == 0)=true then _ else _) _ _ s
 rw[AM (by decide)]
 refine AA (oP pl (AA (oP i (AA (AD ?_)))))
 show wpAny _ _ (match Builtin.Slice.sliceAdjust lo hi 1 (n:Int) with|(lo,hi)=>pure (lo,(1:Int),Builtin.Slice.slicePlaces lo hi 1)) _ _ s
 rw[wQ lo hi n]
 show wpAny _ _ (pure (((sIx n 0 lo:Nat):Int),(1:Int),Builtin.Slice.slicePlaces ((sIx n 0 lo:Nat):Int) ((sIx n n hi:Nat):Int) 1)) _ _ s
 rw[wR]
 exact AD h
theorem aAN(xs:Array V9)(i k:Nat):((List.range k).filterMap fun (m:Nat)=>xs[((i:Int)+(m:Int) * 1).toNat]?).toArray=((xs.toList.drop i).take k).toArray:=by
 have e:(fun (m:Nat)=>xs[((i:Int)+(m:Int) * 1).toNat]?)=fun m=>xs[i+m]?:=by
  funext m
  have:((i:Int)+(m:Int) * 1).toNat=i+m:=by omega
  rw[this]
 rw[e]
 have:=pick_run xs i k
 rw[List.filterMap_map] at this
 have e2:((fun x=>xs[x]?)∘fun x=>i+x)=fun m=>xs[i+m]?:=rfl
 rw[e2] at this
 rw[this]
theorem nJ{t g:Az}{items:Array V9}{j i:V9}{lo hi:O9 Int}{Q:V9->S9->Prop}(b:IsTup s.heap t items)(k:s.heap.IsSliceOf g j i .none)(pl:IsPart j lo)(l:IsPart i hi)
  (hw:¬ (sIx items.size 0 lo=0/\sIx items.size items.size hi=items.size))
  (h:Q (.ref s.heap.objs.size) {s with heap:=s.heap.push {cls:=.type "tuple",data:=.seq ((items.toList.drop (sIx items.size 0 lo)).take (sIx items.size items.size hi - sIx items.size 0 lo)).toArray}})
  (hsz:items.size<=sizeLine):wpAny (model prog w) A (getItem (.ref t) (.ref g)) Q E s:=by
 have a:sizeOk (.seq ((items.toList.drop (sIx items.size 0 lo)).take (sIx items.size items.size hi - sIx items.size 0 lo)).toArray):=by
  show ((items.toList.drop (sIx items.size 0 lo)).take (sIx items.size items.size hi - sIx items.size 0 lo)).toArray.size<=sizeLine
  rw[BB,B3,D4,BN]
  omega
 have r:sIx items.size items.size hi<=items.size:=aFW _ _ (AI _) hi
 obtain ⟨os,f,e,n⟩:=id k
 have c:s.TypeIs (.ref g) "slice":=⟨os,f,e⟩
 unfold getItem
 try with_reducible refine CB ?_
 first|refine AA (AD ?_)|skip
 refine AA (wpAny_sequenceKey b.typeIs (by decide) ?_)
 refine AA (DW (name:=Str.ofString "__getitem__") b.typeIs C8
  (EV C8 b.typeIs entry_tuple_getitem ?_ (args_tuple_getitem _ _)))
 show wpAny _ _ (Builtin.Tuple.tupleItemsOf (.ref t) >>= _) _ _ s
 refine AA (tupleItemsOf_ b ?_)
 refine AA (wpAny_typeOf c ?_)
 rw[AK (by decide)]
 refine AA (nZ k pl l ?_)
 have d:¬ ((((sIx items.size 0 lo:Nat):Int) == 0 && (1:Int) == 1 && (sIx items.size items.size hi - sIx items.size 0 lo) == items.size)=true):=by
  intro q
  rw[AW,AW] at q
  have p:((sIx items.size 0 lo:Nat):Int)=0:=DH q.1.1
  have o:sIx items.size items.size hi - sIx items.size 0 lo=items.size:=DH q.2
  exact hw ⟨by omega,by omega⟩
 show wpAny _ _ (if (((sIx items.size 0 lo:Nat):Int) == 0 && (1:Int) == 1 && (sIx items.size items.size hi - sIx items.size 0 lo) == items.size)=true then _ else _) _ _ s
 rw[AM d,aAN]
 first
  | exact AA (m:=Builtin.Tuple.tupleExact _) (B5 (AD ⟨_,rfl,AD h⟩) a)
  | exact AA (m:=Builtin.Tuple.tupleExact _) (B5 (AA (AD (AD ⟨_,rfl,AD h⟩))) a)
  | exact AA (AA (m:=Builtin.Tuple.tupleExact _) (B5 (AD (AD ⟨_,rfl,AD h⟩)) a))
  | exact AA (AA (m:=Builtin.Tuple.tupleExact _) (B5 (AD ⟨_,rfl,AD h⟩) a))
end
end HT
namespace L2
open PySem PySem.Spec PyProof.Rows
abbrev TO:=St->Hp->(O9 Int->Hp->Prop)->Prop
def PO(X:Cx)(e:O9 E1)(t:TO):Prop:=
 ∀ (pins:List (Az×Obj)) (s:S9) (σ:St) (H:Hp) (Q:O9 Int->Hp->Prop),Inv X pins σ H s->t σ H Q->
  wpAny (model X.prog X.w) X.A (evalPart e X.env) (fun u s'=>∃ o H',Inv X pins σ H' s'/\IsPart u o/\Q o H') X.xe s
def aC6:TO:=fun _ H Q=>Q none H
def aHP(t:TE):TO:=fun σ H Q=>t σ H fun x H1=>∃ i,x=.int i/\Q (some i) H1
section
variable{X:Cx}{e:E1}{te:TE}{lo hi:O9 E1}{tl th:TO}{pos p2:Pos}
theorem aC7:PO X none aC6:=by
 intro pins s σ H Q I h
 rw[evalPart_none]
 exact AD ⟨none,H,I,.none,h⟩
theorem aC8(h:PE X e te):PO X (some e) (aHP te):=by
 intro pins s σ H Q I c
 rw[evalPart_some]
 refine thn (h pins s σ H _ I c) fun u s1 a=>?_
 obtain ⟨x,H1,f,b,d⟩:=a
 obtain ⟨i,rfl,q⟩:=d
 obtain ⟨t,rfl⟩:=b
 exact ⟨some i,H1,f,.int i t,q⟩
def SlR(X:Cx)(r:V->O9 Int->O9 Int->Hp->VK->Prop):Prop:=
 ∀ (pins:List (Az×Obj)) (s:S9) (σ:St) (H:Hp) (x:V) (v vl vu:V9) (lo hi:O9 Int) (sl:Az) (Q:VK),Inv X pins σ H s->aU x v->s.heap.IsSliceOf sl vl vu .none->IsPart vl lo->IsPart vu hi->r x lo hi H Q->
  ∃ T id,typeLookup (.type T) "__getitem__"=pure (some (.builtin id))/\s.TypeIs v T/\wpAny (model X.prog X.w) X.A (getItem v (.ref sl)) (EP X pins σ Q) X.xe s
def tSl(r:V->O9 Int->O9 Int->Hp->VK->Prop)(te:TE)(tl th:TO):TE:=fun σ H Q=>te σ H fun x H1=>tl σ H1 fun l H2=>th σ H2 fun u H3=>r x l u H3 Q
theorem aAO{r:V->O9 Int->O9 Int->Hp->VK->Prop}(i:SlR X r)(E:PE X e te)(G:PO X lo tl)(F:PO X hi th):PE X (.Subscript e (.Slice lo hi none p2) pos) (tSl r te tl th):=by
 intro pins s σ H Q I h
 refine Subscript_ (thn (E pins s σ H _ I h) fun v s1 c=>?_)
 obtain ⟨x,H1,D,o,z⟩:=c
 refine wpAny_Slice (thn (G pins s1 σ H1 _ D z) fun f n ⟨l,H2,p,m,t⟩=>thn (F pins n σ H2 _ p t) fun d a c=>?_)
 obtain ⟨u,H3,j,J,k⟩:=c
 rw[evalPart_none]
 refine AD ?_
 have g:Inv X pins σ H3 {a with heap:=a.heap.push {cls:=.type "slice",data:=.fields #[f,d,.none]}}:=j.kept (t':=a.toks) fun b K q=>AE _ q
 obtain ⟨T,id,B,C,y⟩:=i pins {a with heap:=a.heap.push {cls:=.type "slice",data:=.fields #[f,d,.none]}} σ H3 x v f d l u a.heap.objs.size Q g o (Heap.IsSliceOf.new ..) m J k
 show wpAny (model X.prog X.w) X.A (subscriptTail e (.Slice lo hi none p2) v (.ref a.heap.objs.size)) (EP X pins σ Q) X.xe {a with heap:=a.heap.push {cls:=.type "slice",data:=.fields #[f,d,.none]}}
 exact tail_any (ops:=[.ref a.heap.objs.size,v]) C B y (by with_unfolding_all rfl)
noncomputable def mC(xs:List V)(lo hi:O9 Int):List V:=(xs.drop (HT.sIx xs.length 0 lo)).take (HT.sIx xs.length xs.length hi - HT.sIx xs.length 0 lo)
theorem nO(xs:List V)(lo hi:O9 Int):(mC xs lo hi).length<=xs.length:=by
 unfold mC
 rw[B3,D4]
 omega
def aIU(K:Frag):V->O9 Int->O9 Int->Hp->VK->Prop:=fun x lo hi H Q=>∃ a xs,x=.ref a/\SqT K H a xs /\
 ¬ (HT.sIx xs.length 0 lo=0/\HT.sIx xs.length xs.length hi=xs.length)/\∀ p,H p=none->Q (.ref p) (upd H p (.tup (mC xs lo hi)))
theorem aFX:SlR X (aIU X.K):=by
 intro pins s σ H x v t p lo hi u Q I l j m k h
 obtain ⟨a,xs,rfl,i,g,q⟩:=h
 cases l
 obtain ⟨d,r,e,f⟩:=I.tuple i
 have c:d.toArray.size=xs.length:=by rw[BB];exact r.length.symm
 refine ⟨"tuple",_,C8.lookup,e.typeIs,?_⟩
 refine HT.nJ e j m k (by rw[c];exact g) ?_ (by rw[c];exact f)
 rw[c]
 refine ⟨.ref s.heap.objs.size,_,I.laid (t':=s.toks) (o:=.tup (mC xs lo hi)) (fun b n q=>AE _ q) (AI _) ?_,rfl,q _ (I.hok.fresh (AI _))⟩
 exact ⟨A4 (nO xs lo hi) f,_,(r.drop (HT.sIx xs.length 0 lo)).take (HT.sIx xs.length xs.length hi - HT.sIx xs.length 0 lo),jC.new _ _⟩
def aHQ(K:Frag):R2:=fun x y H Q=>∃ a b xs ys,x=.ref a/\y=.ref b/\SqT K H a xs/\SqT K H b ys/\xs≠[]/\xs.length+ys.length<=sizeLine /\
 (ys=[]->Q (.ref a) H)/\(ys≠[]->∀ p,H p=none->Q (.ref p) (upd H p (.tup (xs++ys))))
theorem aW.nil_iff{xs:List V}{us:List V9}(r:aW xs us):us=[]↔xs=[]:=by
 cases r with
 | nil=>simp
 | cons _ _=>simp
theorem aC9:OpR X (binaryOp .Add) (aHQ X.K):=by
 intro pins s σ H x y v u Q I r m h
 obtain ⟨a,b,xs,ys,rfl,rfl,l,j,p,e,k,g⟩:=h
 cases r
 cases m
 obtain ⟨n,d,i,_⟩:=I.tuple l
 obtain ⟨f,c,p2,_⟩:=I.tuple j
 refine HT.aC5 i p2 (fun z=>p (d.nil_iff.mp z)) (fun z=>⟨.ref a,H,I,rfl,k (c.nil_iff.mp z)⟩) (fun z=>?_) (by rw[<-d.length,<-c.length];exact e)
 refine ⟨.ref s.heap.objs.size,_,I.laid (t':=s.toks) (o:=.tup (xs++ys)) (fun b t q=>AE _ q) (AI _) ?_,rfl,g (fun w=>z (c.nil_iff.mpr w)) _ (I.hok.fresh (AI _))⟩
 exact ⟨by rw[A6];exact e,_,d.append c,jC.new _ _⟩
end
noncomputable def ixN(n:Nat)(i:Int):O9 Nat:=if 0<=i then (if i < n then some i.toNat else none) else if -(n:Int)<=i then some (i+n).toNat else none
noncomputable def atI{α:Type}(xs:List α)(i:Int):O9 α:=(ixN xs.length i).bind fun j=>xs[j]?
theorem aDA{n:Nat}{i:Int}{j:Nat}(h:ixN n i=some j):seqIndex? i n=some j/\j < n /\ -(n:Int)<=i/\i < n:=by
 unfold ixN at h
 by_cases a:0<=i
 .rw[AK a] at h
  by_cases h1:i < n
  .rw[AK h1] at h
   have e:i.toNat=j:=BP h
   exact ⟨by rw[seqIndex_of a h1,e],by omega,by omega,h1⟩
  .rw[AM h1] at h;cases h
 .rw[AM a] at h
  by_cases h1 : -(n:Int)<=i
  .rw[AK h1] at h
   have e:(i+n).toNat=j:=BP h
   exact ⟨by rw[seqIndex_neg (by omega) h1,e],by omega,h1,by omega⟩
  .rw[AM h1] at h;cases h
theorem pP{α:Type}{xs:List α}{i:Int}{v:α}(h:atI xs i=some v):∃ j,seqIndex? i xs.length=some j/\xs[j]? = some v/\j < xs.length /\ -(xs.length:Int)<=i/\i < xs.length:=by
 unfold atI at h
 cases e:ixN xs.length i with
 | none=>rw[e] at h;cases h
 | some j=>
  rw[e] at h
  obtain ⟨h1,h2,b,a⟩:=aDA e
  exact ⟨j,h1,h,h2,b,a⟩
theorem jO{α:Type}{xs:List α}{j:Nat}{v:α}(h:xs[j]? = some v):atI xs (j:Int)=some v:=by
 have a:j < xs.length:=(AU.mp h).1
 have e:ixN xs.length (j:Int)=some j:=by
  unfold ixN
  rw[AK (by omega),AK (by omega)];simp
 unfold atI;rw[e];exact h
def vJ(b:E1):Prop:=∀ o i,subscripted b false o i=operate [o,i] (getItem o i)
def IxR(X:Cx)(r:R2):Prop:=
 ∀ (value slice:E1) (pins:List (Az×Obj)) (s:S9) (σ:St) (H:Hp) (x y:V) (v u:V9) (Q:VK),Inv X pins σ H s->aU x v->aU y u->r x y H Q->
  subscripted slice false v u=operate [v,u] (getItem v u)->wpAny (model X.prog X.w) X.A (subscriptTail value slice v u) (EP X pins σ Q) X.xe s
def MtR(X:Cx)(id:String)(r:V->List V->Hp->VK->Prop):Prop:=
 ∀ (pins:List (Az×Obj)) (s:S9) (σ:St) (H:Hp) (x:V) (xs:List V) (v:V9) (us:List V9) (Q:VK),Inv X pins σ H s->aU x v->aW xs us->r x xs H Q->
  wpAny (model X.prog X.w) X.A (call (.builtin id) (v::us)) (EP X pins σ Q) X.xe s
section
variable{X:Cx}{a b:E1}{ta tb:TE}{pos:Pos}
theorem aHR{r:R2}(g:IxR X r)(i:PE X a ta)(j:PE X b tb)(f:vJ b):PE X (.Subscript a b pos) (tOp r ta tb):=by
 intro pins s σ H Q I h
 exact Subscript_ (aAJ i j I h fun v u c x y H2 e k d q=>g a b pins c σ H2 x y v u Q e k d q (f _ _))
def aIV(K:Frag):R2:=fun x y H Q=>∃ p xs i v,x=.ref p/\y=.int i/\SqL K H p xs/\atI xs i=some v/\Q v H
def aIW(K:Frag):R2:=fun x y H Q=>∃ p xs i v,x=.ref p/\y=.int i/\SqT K H p xs/\atI xs i=some v/\Q v H
def aIX:R2:=fun x y H Q=>∃ z i c,x=.str z/\y=.int i/\z.length<=sizeLine/\atI z.cps.toList i=some c/\Q (.str ⟨#[c]⟩) H
theorem aDB:IxR X (aIV X.K):=by
 intro value e pins s σ H x y v u Q I D o h l
 obtain ⟨p,xs,i,z,rfl,rfl,C,n,q⟩:=h
 cases D
 obtain ⟨t,rfl⟩:=o
 obtain ⟨b,r,f,E⟩:=I.list C
 obtain ⟨j,h1,h2,F,B,m⟩:=pP n
 obtain ⟨w,g,d⟩:=r.get h2
 have A:=r.length
 have G:=oN
 have a:EP X pins σ Q w s:=⟨z,H,I,d,q⟩
 by_cases k:0<=i
 .have c:i.toNat=j:=by
   rw[seqIndex_of k m] at h1
   exact BP h1
  exact item_listR f.isList k (by omega) (by rw[c];simpa using g) a l
 .have c:(i+(b.toArray.size:Int)).toNat=j:=by
   rw[seqIndex_neg (by omega) B] at h1
   rw[BB,<-A]
   exact BP h1
  exact subscriptTail_builtinR (x:=w) f.isList.typeIs slot_list_getitem.lookup
   (wpAny_getItem_list_neg (Q:=fun r s'=>r=w/\EP X pins σ Q r s') f.isList (by omega) (by rw[BB]<;>omega) (by omega) (by rw[c];simpa using g) ⟨rfl,a⟩) l
theorem aFY:IxR X (aIW X.K):=by
 intro value c pins s σ H x y v u Q I o f h m
 obtain ⟨p,xs,i,z,rfl,rfl,n,e,q⟩:=h
 cases o
 obtain ⟨t,rfl⟩:=f
 obtain ⟨g,r,d,A⟩:=I.tuple n
 obtain ⟨j,h1,h2,C,E,B⟩:=pP e
 obtain ⟨w,k,b⟩:=r.get h2
 have l:=r.length
 have D:=oN
 have a:EP X pins σ Q w s:=⟨z,H,I,b,q⟩
 exact subscriptTail_builtinR (x:=w) d.typeIs slot_tuple_getitem.lookup
  (getItem_tuple (j:=j) (Q:=fun r s'=>r=w/\EP X pins σ Q r s') d (by omega) (by omega) (by rw[BB,<-l];exact h1) (by simpa using k) ⟨rfl,a⟩) m
theorem aFZ:IxR X aIX:=by
 intro value a pins s σ H x y v u Q I l e h k
 obtain ⟨z,i,c,rfl,rfl,m,d,q⟩:=h
 obtain ⟨t,rfl⟩:=l
 obtain ⟨n,rfl⟩:=e
 obtain ⟨j,h1,h2,o,g,b⟩:=pP d
 have f:z.cps.toList.length=z.length:=by simp[Str.length]
 rw[f] at h1 g b
 have p:=oN
 exact tail_any (typeIs_str s z t) slot_str_getitem.lookup (getItem_str (c:=c) (by
  have e1:decide (i < -(2 ^ 63:Int))=false:=BH (by omega)
  have e2:decide (i>=2 ^ 63)=false:=BH (by omega)
  rw[e1,e2,Bool.or_false]) (by rw[h1];simpa using h2) ⟨.str ⟨#[c]⟩,H,I.tok _,⟨_,rfl⟩,q⟩) k
theorem Inv.lst{pins:List (Az×Obj)}{σ:St}{H:Hp}{s:S9}{p:Az}{xs:List V}(I:Inv X pins σ H s)(h:H p=some (.lst xs)) :
  ∃ (its:List V9) (n:Nat),aW xs its/\s.heap.get? p=some {cls:=.type "list",data:=.seq its.toArray n}/\xs.length<=sizeLine:=by
 obtain ⟨z,its,n,r,e⟩:=I.hok p _ h
 exact ⟨its,n,r,e,z⟩
theorem sH(lo hi:O9 Int)(n:Nat):(sliceBounds lo hi none n).1=((HT.sIx n 0 lo:Nat):Int)/\(sliceBounds lo hi none n).2.1=((HT.sIx n n hi:Nat):Int)/\(sliceBounds lo hi none n).2.2=1:=by
 refine ⟨?_,?_,rfl⟩
 .cases lo with
  | none=>simp[sliceBounds,HT.sIx]
  | some i=>
   simp only[sliceBounds,HT.sIx,EW,show (1:Int) > 0 by decide,BD]
   by_cases h:i < 0
   · simp only [h, BD] <;> omega
   · simp only [h, BS] <;> omega
 .cases hi with
  | none=>simp[sliceBounds,HT.sIx]
  | some i=>
   simp only[sliceBounds,HT.sIx,EW,show (1:Int) > 0 by decide,BD]
   by_cases h:i < 0
   · simp only [h, BD] <;> omega
   · simp only [h, BS] <;> omega
theorem rL(a:List V9)(lo hi:O9 Int):slicePick a.toArray lo hi none=((a.drop (HT.sIx a.length 0 lo)).take (HT.sIx a.length a.length hi - HT.sIx a.length 0 lo)).toArray:=by
 obtain ⟨h1,h2,b⟩:=sH lo hi a.toArray.size
 unfold slicePick
 rw[h1,h2,b]
 simp only[sliceRange_one,pick_run,BB]<;>rfl
def aIY(K:Frag):V->O9 Int->O9 Int->Hp->VK->Prop:=fun x lo hi H Q=>∃ a xs,x=.ref a/\SqL K H a xs/\∀ p,H p=none->Q (.ref p) (upd H p (.lst (mC xs lo hi)))
theorem aDC:SlR X (aIY X.K):=by
 intro pins s σ H x v p n lo hi t Q I k i l j h
 obtain ⟨a,xs,rfl,g,q⟩:=h
 cases k
 obtain ⟨f,r,d,e⟩:=I.list g
 have c:=r.length
 refine ⟨"list",_,slot_list_getitem.lookup,d.isList.typeIs,?_⟩
 refine wpAny_getItem_list_slice d.isList i l j .none (by simp) ?_ (by rw[BB]<;>omega)
 rw[rL,<-c]
 refine ⟨.ref s.heap.objs.size,_,I.laid (t':=s.toks) (o:=.lst (mC xs lo hi)) (fun b m q=>AE _ q) (AI _) ?_,rfl,q _ (I.hok.fresh (AI _))⟩
 exact ⟨A4 (nO xs lo hi) e,_,0,(r.drop (HT.sIx xs.length 0 lo)).take (HT.sIx xs.length xs.length hi - HT.sIx xs.length 0 lo),A7 _ rfl⟩
theorem gQ:iB X (.type "tuple") (fun xs H Q=>∃ p ys,xs=[.ref p]/\((SqL X.K H p ys/\∀ l,H l=none->Q (.ref l) (upd H l (.tup ys)))\/(SqT X.K H p ys/\Q (.ref p) H))):=by
 intro pins s σ H xs us Q I r h
 obtain ⟨p,ys,rfl,h⟩:=h
 obtain ⟨u,rfl,n⟩:=lA r
 cases n
 rcases h with ⟨d,q⟩|⟨d,q⟩
 .obtain ⟨a,c,f,i⟩:=I.list d
  have g:=c.length
  refine call_tuple_list f.isList (fun h' m=>?_) (by simp only[BB]<;>omega)
  have j:Inv X pins σ H {s with heap:=h'}:=I.kept (t':=s.toks) m
  have k:Inv X pins σ (upd H h'.objs.size (.tup ys)) {s with heap:=h'.push {cls:=.type "tuple",data:=.seq a.toArray}}:=
   j.laid (t':=s.toks) (fun b o e=>AE _ e) (AI _) (show bP X.prog X.w _ _ _ (.tup ys) from ⟨i,a,c,jC.new _ _⟩)
  exact ⟨.ref h'.objs.size,_,k,rfl,q _ (j.hok.fresh (AI _))⟩
 .obtain ⟨a,c,f,i⟩:=I.tuple d
  exact call_tuple_same f ⟨.ref p,H,I,rfl,q⟩
def tyV(K:Frag)(T:String)(x:V)(H:Hp):Prop:=match x with
 | .str _=>T="str"
 | .int _=>T="int"
 | .ref p=>(T="list"/\∃ xs,SqL K H p xs)\/(T="tuple"/\∃ o,K.lookup p=some o/\o.cls=.type "tuple"/\o.dict=none) \/
  (T="dict"/\((∃ kvs,H p=some (.dK kvs))\/∃ kvs,H p=some (.dT kvs)))\/(T="set"/\∃ S n,H p=some (.set S n))
 | _=>False
theorem aF0{pins:List (Az×Obj)}{σ:St}{H:Hp}{s:S9}{T:String}{x:V}{v:V9}(I:Inv X pins σ H s)(r:aU x v)(ty:tyV X.K T x H) :
  s.TypeIs v T/\∀ a,v=.ref a->∃ ob,s.heap.get? a=some ob/\ob.dict=none:=by
 cases x with
 | str z=>
  obtain ⟨t,rfl⟩:=r
  cases (show T="str" from ty)
  exact ⟨typeIs_str s z t,fun _ e=>nomatch e⟩
 | int i=>
  obtain ⟨t,rfl⟩:=r
  cases (show T="int" from ty)
  exact ⟨typeIs_int s i t,fun _ e=>nomatch e⟩
 | ref p=>
  cases r
  rcases ty with ⟨rfl,xs,k⟩|⟨rfl,o,b,j,f⟩|⟨rfl,b⟩|⟨rfl,S,n,b⟩
  .obtain ⟨h,_,g,_⟩:=I.list k
   refine ⟨g.isList.typeIs,fun a e=>?_⟩
   cases e
   obtain ⟨o,n,e,c,f,_⟩:=g
   exact ⟨o,e,f⟩
  .refine ⟨⟨o,I.kIn p o b,j⟩,fun a e=>?_⟩
   cases e
   exact ⟨o,I.kIn _ o b,f⟩
  .have z:∃ o,s.heap.get? p=some o/\o.ExactDict:=by
    rcases b with ⟨d,b⟩|⟨d,b⟩
    .obtain ⟨_,_,_,_,o,_,_,e,ex,_⟩:=I.hok p _ b
     exact ⟨o,e,ex⟩
    .obtain ⟨_,_,_,_,o,_,_,e,ex,_⟩:=I.hok p _ b
     exact ⟨o,e,ex⟩
   obtain ⟨o,e,ex⟩:=z
   refine ⟨⟨o,e,ex.1⟩,fun a e2=>?_⟩
   cases e2
   exact ⟨o,e,ex.2.1⟩
  .obtain ⟨o,_,_,_,e,ex,_⟩:=I.hok p _ b
   refine ⟨⟨o,e,ex.1⟩,fun a e2=>?_⟩
   cases e2
   exact ⟨o,e,ex.2.1⟩
 | _=>exact False.elim ty
def tBM(K:Frag)(T:String)(r:V->List V->Hp->VK->Prop)(to:TE)(t:TA):TE:=fun σ H Q=>to σ H fun x H1=>tyV K T x H1/\t σ H1 fun xs H2=>r x xs H2 Q
variable{o e:E1}{es:List E1}{to:TE}{t:TA}{name:Str}{apos cpos:Pos}{T id:String}{r:V->List V->Hp->VK->Prop}
theorem rT(u:PlainAttrs T)(slot:Slot T name id)(c:typeOf (.builtin id)=pure (.type "method_descriptor"))(q:MtR X id r)(j:PE X o to)(p:PA X (e::es) t)
  (a:attributeBase o name X.env (eval o X.env)=eval o X.env:=by rfl)
  (hfew:((backTo cpos (starEach (e::es) X.env)).all (fun x=>!x.1) && (backToKw cpos (keywordEach [] X.env)).all (fun x=>x.1.isSome)
   && decide ((e::es).length+([]:List Keyword).length+(if ([]:List Keyword).isEmpty then 0 else 1) < 30))=true:=by rfl)
  (hline:(apos.endLine == cpos.line)=true:=by rfl) (hs:starEach (e::es) X.env=(false,eval e X.env)::starEach es X.env:=by rfl) (hplain:(backTo cpos (starEach es X.env)).any (·.1)=false:=by rfl) :
  PE X (.Call (.Attribute o name apos) (e::es) [] cpos) (tBM X.K T r to t):=by
 intro pins s σ H Q I h
 refine wpAny_Call_method_late a hfew hline rfl (thn (j pins s σ H _ I h) fun v s1 b=>?_)
 obtain ⟨x,H1,f,d,k,n⟩:=b
 obtain ⟨h1,h2⟩:=aF0 f d k
 refine ⟨T,id,u,slot,c,h1,h2,?_⟩
 have g:=p cpos pins s1 σ H1 _ f n
 rw[hs] at g ⊢
 refine Calls.callWith_builtin (by show (false || (backTo cpos (starEach es X.env)).any (·.1))=false;rw[hplain]<;>rfl) (Calls.evalArgs_plain ?_)
 exact thn g fun us i ⟨vs,H2,l,w,m⟩=>q pins i σ H2 x vs v us Q l d w m
end
def MtM(X:Cx)(id:String)(r:V->List V->Hp->VK->Prop):Prop:=
 ∀ (pins:List (Az×Obj)) (s:S9) (σ:St) (H:Hp) (x:V) (xs:List V) (v:V9) (us:List V9) (Q:VK),Inv X pins σ H s->aU x v->aW xs us->r x xs H Q->
  wpAny (model X.prog X.w) X.A (call (.builtin id) (v::us)) (EP X pins σ Q) X.xe s
theorem aW.one:∀ {x:V} {us:List V9},aW [x] us->∃ u,us=[u]/\aU x u
 | _,_,.cons r .nil=>⟨_,rfl,r⟩
theorem aW.reverse{xs:List V}{us:List V9}(h:aW xs us):aW xs.reverse us.reverse:=by
 induction h with
 | nil=>exact .nil
 | cons r t ih=>rw[List.reverse_cons,List.reverse_cons];exact aW.append ih (.cons r .nil)
section
variable{X:Cx}{pins:List (Az×Obj)}{σ:St}{H:Hp}{s:S9}{l b:Az}{xs ys zs:List V}
theorem Inv.lset{a its':List V9}{n:Nat}{f:Array V9->Array V9}{t':Nat}(I:Inv X pins σ H s)(b:H l=some (.lst xs))
  (e:s.heap.get? l=some {cls:=.type "list",data:=.seq a.toArray n}) (hf:f a.toArray=its'.toArray) (hv:aW ys its') (hz:ys.length<=sizeLine) :
  Inv X pins σ (upd H l (.lst ys)) {s with heap:=s.heap.update l (Obj.mapSeq f),toks:=t'}:=by
 have q:=PySem.IsL.update e f
 rw[hf] at q
 refine I.write (x:=l) (e:=l) (by rw[b];exact trivial) (.inl rfl) (fun g u c d=>(DE s.heap (Obj.mapSeq f) (BO c)).trans d) ⟨_,q⟩ ?_
 exact ⟨hz,its',_,hv,q⟩
theorem Inv.lstM(I:Inv X pins σ H s)(a:H l=some (.lst xs)):xs.length<=sizeLine/\∃ (its:List V9) (n:Nat),aW xs its/\xs.length=its.length/\s.heap.get? l=some {cls:=.type "list",data:=.seq its.toArray n}:=by
 obtain ⟨z,its,n,r,e⟩:=I.hok l _ a
 exact ⟨z,its,n,r,r.length,e⟩
end
section
variable{X:Cx}
def vK:V->List V->Hp->VK->Prop:=fun x vs H Q=>∃ l xs y,x=.ref l/\vs=[y]/\H l=some (.lst xs)/\xs.length < sizeLine/\Q .non (upd H l (.lst (xs++[y])))
theorem mD:MtM X "list.append" vK:=by
 intro pins s σ H x vs v us Q I f c h
 obtain ⟨l,xs,y,rfl,rfl,b,i,q⟩:=h
 cases f
 obtain ⟨u,rfl,d⟩:=c.one
 obtain ⟨z,a,n,r,g,e⟩:=I.lstM b
 refine call_meets F.slot_list_append ⟨_,e,rfl⟩ F.entry_list_append (F.args_list_append_2 _ _) (PySem.list_append l a.toArray n u (by rw[BB];omega)) ⟨e,?_⟩
 refine ⟨.non,_,I.lset (its':=a++[u]) b e (by simp) (r.append (.cons d .nil)) ?_,rfl,q⟩
 rw[A6,E6]
 omega
end
end L2
namespace Att
open PySem PySem.W PySem.Calls PyProof.Rows
theorem oQ{P:Params}{h:H9}:∀ (ns:List Int) (vs:List V9),WellAll P h vs (ns.map WData.int)->IntsAre vs ns:=by
 intro ns
 induction ns with
 | nil=>
  intro vs w
  rw[BE] at w
  cases w
  exact .nil
 | cons n ns ih=>
  intro vs w
  rw[AJ] at w
  cases w with
  | cons a b=>
   cases a
   exact .cons _ _ (ih _ b)
theorem yF{l:OpenLaw}{n:Nat}(o:l.most=some n){P:Params}{h:H9}{args:List WData}{b:List V9}
  (c:l.row.toRowW.claim.pre args=true) (j:WellAll P h b args) :
  ∃ a vs ns,b=[Value.ref a]/\args=[WData.list (ns.map WData.int)]/\h.get? a=some {cls:=.type "list",data:=.seq vs.toArray}/\IntsAre vs ns/\ns.length<=n:=by
 have i:WShape.hasAll [] args [.list .int]=true:=(pre_splitW c).1
 have k:l.pre.holds [] {args:=args}=true:=(pre_splitW c).2
 obtain ⟨d,r,rfl,h1,h2⟩:=hasAllW_cons i
 obtain rfl:=hasAllW_nil h2
 obtain ⟨xs,rfl,m⟩:=hasW_list h1
 obtain ⟨ns,rfl⟩:=items_int m
 have e:ns.length<=n:=by
  unfold OpenLaw.pre at k
  have f:(WTm.not (.lt (.lit (.int (n:Int))) (.len (.arg 0)))).holds [] {args:=[.list (ns.map .int)]}=true:=by
   have f:=(holds_andW k).1
   rw[o] at f
   exact f
  have g:=condW_of f (w_not (w_lt w_lit (w_len_list (w_arg rfl))))
  rw[AQ] at g
  refine Nat.le_of_not_lt fun q=>?_
  have p:(n:Int) < ((ns.length:Nat):Int):=by omega
  first
   | (rw[BZ p] at g;exact absurd g (by decide))
   | (simp at g;omega)
 cases j with
 | cons w1 w2=>
  cases w2
  cases w1 with
  | list ho hall=>exact ⟨_,_,ns,rfl,rfl,ho,oQ ns _ hall,e⟩
theorem yG(l:OpenLaw)(args:List WData):l.row.toRowW.claim.post args (.bool true) args=true:=
 postW_of (r:=l.row.toRowW) (X:=(true == true))
  (show WShape.has [] (.bool true) .bool=true by first|rfl|decide|simp[WShape.has,WShape.arms,WShape.armsAll])
  (show (WTm.eq .res (.lit (.bool true))).value [] {args:=args,res:=some (.bool true),after:=args}=some (.bool (true == true)) from w_eq_bool (w_res rfl) w_lit) rfl
theorem attach_call{l:OpenLaw}{n:Nat}{q:P9}{b:List Str}{p:(Str->O9 V9)->H9->Prop}{v:W9->H9->Prop}{d:DefRec}
  (A:l.most=some n) (j:d.params.defaults=[])
  (call:∀ (w:W9) (s₀ s₁:S9) (mg mb:Str->O9 V9) (fa:Az) (o:Obj) (pm cd doc:V9) (a:Az) (vs:List V9) (ns:List Int),
   Ground q b [] p w s₀ mg mb s₁.heap->v w s₁.heap->
   s₁.heap.get? fa=some o->o.data=.func (docDef d.name d.params d.body d.scope pm cd doc)->s₁.heap.CodeRec cd d.name->mg d.name=some (.ref fa)->
   s₁.heap.get? a=some {cls:=.type "list",data:=.seq vs.toArray}->IntsAre vs ns->ns.length<=n->s₁.gens = #[]->
   codeAny (model l.prog w) callerA (.call (.ref fa) ⟨[.ref a],[]⟩) (fun r s'=>r=.ok (.ret (.bool true))/\OldK s₁.heap s'.heap/\s'.os=s₁.os/\AllBare s'.gens) s₁) :
  WalkO q b p v l.row.toRowW d [] (fun f vs=>PySem.call f vs):=by
 intro w s₀ s₁ mg mb G Y fa o pm cd doc F kV x D i s m C args u J h t B k I
 obtain rfl:F=.none:=Dflts.none s j
 obtain rfl:kV=.none:=Dflts.noKw s
 obtain ⟨a,vs,ns,rfl,rfl,e,c,g⟩:=yF A h k
 refine enter_call (DO (call w s₀ s₁ mg mb fa o pm cd doc a vs ns G Y x (fd_plain D) i m e c g C) fun r s' H=>?_)
 obtain ⟨rfl,h2,y,z⟩:=H
 exact ⟨.inl ⟨.bool true,.bool true,[],rfl,fun _=>rfl,.bool true,yG l _,fun _=>⟨List.Pairwise.nil,fun _ E=>(nomatch E)⟩⟩,h2,y,z⟩
section
variable{prog:P9}{w:W9}{A:U9}{E:V9->S9->Prop}{s:S9}{K:Frag}
noncomputable def aKA(h:H9)(L d:Az):List (Az×Obj):=(List.range h.objs.size).filterMap fun a=>if a=L\/a=d then none else (h.get? a).map fun o=>(a,o)
end
end Att
namespace L2
open PySem PySem.Spec PyProof.Rows
theorem qU:∀ {vs:List V9} {ns:List Int},IntsAre vs ns->aW (ns.map V.int) vs
 | _,_,.nil=>.nil
 | _,_,.cons n t h=>.cons ⟨t,rfl⟩ (qU h)
abbrev KOf{K:Frag}{h:H9}(_:K.In h):Frag:=K
noncomputable def bC(s:Stmt)(j:Nat):Stmt:=match s with
 | .ClassDef _ _ _ body _ _ _ _ _ _ _=>body.getD j (.Pass ⟨0,0,0,0⟩)
 | _=>.Pass ⟨0,0,0,0⟩
noncomputable def b9(s:Stmt):Arguments:=match s with
 | .FunctionDef _ a _ _ _ _ _ _ _ _=>a
 | _=>{posonlyargs:=[],args:=[],vararg:=none,kwonlyargs:=[],kw_defaults:=[],kwarg:=none,defaults:=[]}
noncomputable def bD(s:Stmt):List Stmt:=match s with
 | .FunctionDef _ _ b _ _ _ _ _ _ _=>b
 | _=>[]
noncomputable def aC(s:Stmt):Scope:=match s with
 | .FunctionDef _ _ _ _ _ _ sc _ _ _=>sc
 | _=>{kind:=.function,names:=[],isGenerator:=false,isCoroutine:=false}
abbrev CX0:CXT:=fun _ _ _ _ _ _=>False
abbrev E0:XK:=fun _ _ _=>False
structure Fun(K:Frag)(x qual:Str)(st:Stmt)(f:Az)(fd:FuncData):Prop where
 ex:∃ (oc:V9) (od:Option Az) (kV doc pm:V9) (an:Option Az) (cdv ct:V9) (osl:Array (Option V9)),
  fd=PySem.W.fnOf x qual (b9 st) (bD st) (aC st) .none kV doc pm an cdv ct/\K.lookup f=some ⟨oc,od,.func fd,osl⟩/\PySem.W.codeIn K cdv qual=true
 kp:PySem.W.keepIn K (.ref f)=true
section
variable{P:P9}{w:W9}{K:Frag}{mg:Str->O9 V9}{base:H9}
theorem Fun.ok{x qual:Str}{st:Stmt}{f:Az}{fd:FuncData}{N ps:List Str}{k:Nat}{sp:Sp}(F:Fun K x qual st f fd)(S:FnScope N ps (aC st))(len:∀ vs H Q E,sp vs H Q E->vs.length=ps.length)
  (a:∀ (cdv:V9) (A:U9) (outer:List Env) (s:S9) (H:Hp) (vs:List V) (Q:VK) (E:XK),Room k (A.deeper (envOfC qual (aC st) s.heap.objs.size f cdv))->sp vs H Q E->
   ∃ t,PSs (dS CX0 P w K mg base N qual (aC st) f cdv A outer s H E).nox (bD st) t/\t {nx:=fun _ H'=>Q .non H',rt:=Q} (start N vs) H):FnOk P w K mg base CX0 (k+1) f fd ps sp:=by
 obtain ⟨j,od,kV,doc,pm,i,cdv,ct,d,rfl,e,b⟩:=F.ex
 refine wP e b S len fun A outer s H vs Q E g c=>?_
 obtain ⟨t,h,q⟩:=a cdv A outer s H vs Q E g c
 exact ⟨t,h.nox,q⟩
theorem Fun.binds{x qual:Str}{st:Stmt}{f:Az}{fd:FuncData}{ps:List Str}(F:Fun K x qual st f fd)
  (h:∀ (kV doc pm:V9) (an:O9 Az) (cdv ct:V9) (us:List V9),us.length=ps.length->bindArgs (PySem.W.fnOf x qual (b9 st) (bD st) (aC st) .none kV doc pm an cdv ct) ⟨us,[]⟩=pure (ps.zip us)):cU K fd ps []:=by
 obtain ⟨d,od,kV,doc,pm,an,cdv,ct,a,rfl,c,b⟩:=F.ex
 exact .all (h kV doc pm an cdv ct)
theorem kN{x qual:Str}{st:Stmt}{f:Az}{e:V9}{od d:O9 Az}{b:Array (O9 V9)}{kV doc pm a ct:V9}(l:K.lookup f=some ⟨e,od,.func (PySem.W.fnOf x qual (b9 st) (bD st) (aC st) .none kV doc pm d a ct),b⟩)
 (c:PySem.W.codeIn K a qual=true) (k:PySem.W.keepIn K (.ref f)=true):Fun K x qual st f (PySem.W.fnOf x qual (b9 st) (bD st) (aC st) .none kV doc pm d a ct):=⟨⟨e,od,kV,doc,pm,d,a,ct,b,rfl,l,c⟩,k⟩
end
section
variable{X:Cx}
theorem pv(i:Nat){x:Str}{pos:Pos}(a:X.N[i]? = some x:=by rfl)(hv:Vis X.env.scope x:=by first|exact Or.inl rfl|exact Or.inr (Or.inl rfl)|exact Or.inr (Or.inr rfl))(hd:(x == ("__debug__":Str))=false:=by decide)
 (hcd:(x == ("__classdict__":Str))=false:=by decide):PE X (.Name x pos) (gR i):=aE7 a hv hd hcd
end
theorem sI{A B:Prop}(h:B):if false=true then A else B:=by
 rw[AM BQ]
 exact h
theorem sJ{A B:Prop}(h:A):if true=true then A else B:=by
 rw[AK rfl]
 exact h
def aH(H H':Hp):Prop:=∀ b o,H b=some o->H' b=some o
theorem aH.trans{H H1 H2:Hp}(a:aH H H1)(b:aH H1 H2):aH H H2:=fun c o h=>b c o (a c o h)
theorem aH.free{H H':Hp}(e:aH H H'){l:Az}(h:H' l=Option.none):H l=Option.none:=by
 cases q:H l with
 | none=>rfl
 | some o=>
  rw[e l o q] at h
  cases h
theorem aH.seq{K:Frag}{H H':Hp}{a:Az}{xs:List V}(e:aH H H')(h:SqL K H a xs):SqL K H' a xs:=by
 rcases h with (h|⟨o,h⟩)|h
 · exact .inl (.inl (e _ _ h))
 · exact .inl (.inr ⟨o, e _ _ h⟩)
 · exact .inr h
theorem wS{env:Env}:∀ (names:List (Str×NameKind)) (acc:List (Str×Az)),(∀ x∈names,x.2=.free->∃ c,env.cells.lookup x.1=some c)->
  (∀ x c,acc.lookup x=some c->env.cells.lookup x=some c)->
  ∃ cl,(forIn names acc fun x r=>(if (x.2 == NameKind.free)=true then (do let a <-cellOf env x.1;pure (ForInStep.yield ((x.1,a)::r))) else pure (ForInStep.yield r)):Sem (List (Str×Az)))=pure cl /\
   (∀ x c,cl.lookup x=some c->env.cells.lookup x=some c)/\(∀ x∈names,x.2=.free->∃ c,cl.lookup x.1=some c)/\∀ x c,acc.lookup x=some c->∃ c',cl.lookup x=some c':=by
 intro names
 induction names with
 | nil=>intro acc _ h;exact ⟨acc,rfl,h,fun x o=>absurd o (by simp),fun x c e=>⟨c,e⟩⟩
 | cons x r ih=>
  intro acc m h
  obtain ⟨n,k⟩:=x
  by_cases l:k=.free
  .subst l
   obtain ⟨c,i⟩:=m (n,.free) AX rfl
   have i:env.cells.lookup n=some c:=i
   obtain ⟨cl,e1,e2,j,g⟩:=ih ((n,c)::acc) (fun y f=>m y (AL _ f)) (fun y d e=>by
    rw[A0] at e
    cases q:y == n with
    | true=>rw[q] at e;cases e;have:=DH q;subst this;exact i
    | false=>rw[q] at e;exact h y d e)
   refine ⟨cl,?_,e2,fun y f b=>?_,fun y d e=>?_⟩
   .rw[CT]
    simp only[CL,BD]
    unfold cellOf
    simp only[i,pure_bind]
    exact e1
   .rcases AT.mp f with z|z
    .subst z
     exact g n c (by rw[A0];simp)
    .exact j y z b
   .by_cases q:y=n
    .subst q;exact g y c (by rw[A0];simp)
    .exact g y d (by rw[A0,B8 q];exact e)
  .obtain ⟨cl,e1,e2,j,g⟩:=ih acc (fun y f=>m y (AL _ f)) h
   refine ⟨cl,?_,e2,fun y f b=>?_,g⟩
   .rw[CT]
    have:(k == NameKind.free)=false:=by simpa using l
    simp only[this,A2,BS,pure_bind]
    exact e1
   .rcases AT.mp f with z|z
    .subst z;exact absurd b l
    .exact j y z b
theorem oR{env:Env}{scope:Scope}(b:∀ x∈scope.names,x.2=.free->∃ c,env.cells.lookup x.1=some c) :
  ∃ cl,closureFor scope env=pure cl/\(∀ x c,cl.lookup x=some c->env.cells.lookup x=some c)/\∀ x∈scope.names,x.2=.free->∃ c,cl.lookup x.1=some c:=by
 obtain ⟨cl,e1,e2,a,_⟩:=wS scope.names [] b (fun x c e=>by simp at e)
 refine ⟨cl,?_,e2,a⟩
 unfold closureFor
 first
  | exact e1
  | (rw[<-e1];rfl)
  | (simp only[bind_pure];exact e1)
theorem eY{env:Env}:∀ {names:List (Str×NameKind)} {x:Str} {k:NameKind},
  (names.map fun (n,k)=>if (k == NameKind.free && env.scope.kind == .function && env.kindOf n == some .cell) then (n,NameKind.cell) else (n,k)).lookup x=some k->
  k=.cell\/k=.free->(∀ y∈names,y.2≠.cell)->(x,NameKind.free)∈names
 | [],_,_,h,_,_=>by simp at h
 | (n,k0)::r,x,k,h,hk,hc=>by
  have ih:=@eY env r x k
  rw[AJ] at h
  dsimp only at h
  by_cases b:x=n
  .subst b
   by_cases a:(k0 == NameKind.free && env.scope.kind == .function && env.kindOf x == some .cell)=true
   .have:k0=.free:=by
     simp only[AW] at a
     exact DH a.1.1
    subst this
    exact AX
   .rw[AM a,A0] at h
    simp only[CL] at h
    cases h
    rcases hk with rfl|rfl
    .exact absurd rfl (hc _ AX)
    .exact AX
  .have c:(x == n)=false:=B8 b
   refine AL _ (ih ?_ hk fun y d=>hc y (AL _ d))
   split at h
   .rw[A0,c] at h;exact h
   .rw[A0,c] at h;exact h
noncomputable def eZ(X:Cx)(N:List Str)(scope:Scope)(cl:List (Str×Az))(C:Az)(s:S9)(H:Hp)(fp:List Az):Cx where
 prog:=X.prog
 w:=X.w
 K:=X.K
 mg:=X.mg
 base:=X.base
 A:=X.A
 N:=N
 s₀:=s
 H₀:=H
 env:=compEnvC scope cl C X.env
 outer:=X.stack
 stack:=X.stack
 ex:=fp
 calm:=X.calm
 fn:=fun _=>false
 pn:=[]
 xe:=fun _ _=>False
inductive Caps(X:Cx)(scope:Scope):List Str->List (Option Nat)->Prop
 | nil:Caps X scope [] []
 | own {x:Str} {N:List Str} {js:List (Option Nat)} (t:Caps X scope N js):Caps X scope (x::N) (none::js)
 | cap {x:Str} {j:Nat} {N:List Str} {js:List (Option Nat)} (h1:X.N[j]? = some x) (h2:X.env.kindOf x=some .cell\/X.env.kindOf x=some .free)
  (h3:(relabel scope X.env).names.lookup x=some .cell\/(relabel scope X.env).names.lookup x=some .free) (t:Caps X scope N js):Caps X scope (x::N) (some j::js)
theorem Caps.len{X:Cx}{scope:Scope}{N:List Str}{js:List (O9 Nat)}(c:Caps X scope N js):js.length=N.length:=by
 induction c with
 | nil=>rfl
 | own _ ih=>simp[ih]
 | cap _ _ _ _ ih=>simp[ih]
theorem Caps.get{X:Cx}{scope:Scope}{N:List Str}{js:List (O9 Nat)}(c:Caps X scope N js):∀ {i j:Nat} {x:Str},js[i]? = some (some j)->N[i]? = some x->
  X.N[j]? = some x/\(X.env.kindOf x=some .cell\/X.env.kindOf x=some .free)/\((relabel scope X.env).names.lookup x=some .cell\/(relabel scope X.env).names.lookup x=some .free):=by
 induction c with
 | nil=>intro i j x h;simp at h
 | own _ ih=>
  intro i j x h1 h2
  cases i with
  | zero=>simp at h1
  | succ i=>exact ih (by simpa using h1) (by simpa using h2)
 | cap a b d _ ih=>
  intro i j x h1 h2
  cases i with
  | zero=>
   simp at h1 h2
   subst h1 h2
   exact ⟨a,b,d⟩
  | succ i=>exact ih (by simpa using h1) (by simpa using h2)
noncomputable def iL(js:List (O9 Nat))(σ:St):St:=js.map fun o=>o.bind fun j=>(σ[j]?).join
def cF(σ σ':St):Prop:=σ'.length=σ.length/\∀ (i:Nat) v,σ[i]? = some (some v)->σ'[i]? = some (some v)
theorem cF.refl(σ:St):cF σ σ:=⟨rfl,fun _ _ h=>h⟩
theorem cF.set{σ:St}{i:Nat}{v:O9 V}(h:σ[i]? = some none):cF σ (σ.set i v):=by
 refine ⟨B9,fun j u e=>?_⟩
 by_cases q:i=j
 · subst q; rw [h] at e; cases e
 · rw [A9 q]; exact e
theorem cF.trans{a b c:St}(h:cF a b)(k:cF b c):cF a c:=⟨k.1.trans h.1,fun i v e=>k.2 i v (h.2 i v e)⟩
section
variable{X:Cx}
def PIf(X:Cx)(ifs:List E1)(t:TT):Prop:=
 ∀ (pins:List (Az×Obj)) (s:S9) (σ:St) (H:Hp) (Q:Bool->Hp->Prop),Inv X pins σ H s->t σ H Q->
  wpAny (model X.prog X.w) X.A (forIn ifs true fun c r=>if r=true then do let ok <-isTrue c X.env (eval c X.env);pure (ForInStep.yield ok) else pure (ForInStep.yield r)) (TP X pins σ Q) X.xe s
def aIZ:TT:=fun _ H Q=>Q true H
theorem m9:PIf X [] aIZ:=by
 intro pins s σ H Q I h
 show wpAny _ _ (pure true) _ _ s
 exact AD ⟨H,I,h⟩
theorem vL{c:E1}{t:TT}(h:PT X c t):PIf X [c] t:=by
 intro pins s σ H Q I a
 rw[CT]
 simp only[BD]
 refine AA (AA (thn (h pins s σ H Q I a) fun b s1 q=>AD ?_))
 show wpAny _ _ (pure b) _ _ s1
 exact AD q
end
def pQ(X:Cx)(N:List Str)(scope:Scope)(js:List (O9 Nat))(tg elt:E1)(ifs:List E1)(σ:St)(x:V)(H:Hp)(R:O9 V->Hp->Prop):Prop:=
 ∀ (cl:List (Str×Az)) (C:Az) (s:S9) (H0:Hp) (fp:List Az),∃ (g:TG) (tt:TT) (te:TE),PG (eZ X N scope cl C s H0 fp) tg g/\PIf (eZ X N scope cl C s H0 fp) ifs tt/\PE (eZ X N scope cl C s H0 fp) elt te /\
  ∀ σ0,cF (iL js σ) σ0->g x σ0 H fun σ2 H2=>cF (iL js σ) σ2/\tt σ2 H2 fun b H3=>if b=true then te σ2 H3 fun y H4=>R (some y) H4 else R none H3
def compK(X:Cx)(N:List Str)(scope:Scope)(js:List (O9 Nat))(tg elt:E1)(ifs:List E1)(σ:St)(Q:VK)(J:It)(H1:Hp):Prop:=∃ (n:Nat) (W:Nat->List V->Hp->Prop),n<=sizeLine/\W 0 [] H1 /\
 ∀ i ys H,W i ys H->ys.length<=i/\((J.stop i H/\∀ p,H p=none->Q (.ref p) (upd H p (.lst ys)))\/(J.go i H/\i < n/\∃ R:O9 V->Hp->Prop,(∀ y H2,R (some y) H2->W (i+1) (ys++[y]) H2)/\(∀ H2,R none H2->W (i+1) ys H2) /\
  ∀ x H',J.yld i H x H'->pQ X N scope js tg elt ifs σ x H' R))
def oS(X:Cx)(N:List Str)(scope:Scope)(js:List (O9 Nat))(tg elt:E1)(ifs:List E1)(wi:TI):TE:=fun σ H Q=>wi σ H (compK X N scope js tg elt ifs σ Q)
section
variable{prog:P9}{w:W9}{A:U9}{R:Result->S9->Prop}{s:S9}
theorem sK{g a b:E1}{j:List E1}{scope:Scope}{pos:Pos}{it i:V9}{env:Env}(I:Nat->S9->Prop)
  (o:∀ n s,I n s->wpAny (model prog w) A (pyNext it) (fun r s1=>match r with
   | none=>R (.ok .next) s1
   | some v=>wpAny (model prog w) A (letOwnedTupleGo a it v) (fun _ s1'=>wpAny (model prog w) A (assign a env v) (fun _ s2=>
    wpAny (model prog w) A (forIn j true fun c r=>if r=true then do let ok <-isTrue c env (eval c env);pure (ForInStep.yield ok) else pure (ForInStep.yield r)) (fun ok s3=>
     if ok=true then wpAny (model prog w) A (eval g env) (fun x s4=>
      wpAny (model prog w) A (call (.builtin "list.append") [i,x]) (fun _ s5=>∃ m,m < n/\I m s5) (fun _ _=>False) s4) (fun _ _=>False) s3
     else ∃ m,m < n/\I m s3) (fun _ _=>False) s2) (fun _ _=>False) s1') (fun _ _=>False) s1) (fun _ _=>False) s)
  (n:Nat) (h:I n s) :
  codeAny (model prog w) A (.compLoop (.ListComp g [⟨a,b,j,0⟩] scope pos) 0 it i env) R s:=by
 refine codeAny_loop rfl I (fun n s E=>?_) n h
 show wpAny _ A ((compTurn (.ListComp g [⟨a,b,j,0⟩] scope pos) 0 it i env).onRaise (fun x=>do noteFrame x env;theTreesLotGoes x)) _ _ s
 refine wpAny_noted ?_
 rw[compTurn_list]
 have F:∀ {α:Type} {t:Sem α} {Q:α->S9->Prop} {E':V9->S9->Prop} {s:S9},wpAny (model prog w) A t Q (fun _ _=>False) s->wpAny (model prog w) A t Q E' s:=fun h=>BG h (fun _ _ q=>q) fun _ _ f=>f.elim
 refine AA (DA (AA (BG (o n s E) (fun r C e=>?_) fun _ _ h'=>h'.elim)))
 cases r with
 | none=>exact AD e
 | some v=>
  refine AA (BG e (fun _ s1' u=>?_) fun _ _ f=>f.elim)
  refine AA (BG u (fun _ z l=>AA (BG l (fun ok B d=>?_) fun _ _ h'=>h'.elim)) fun _ _ h'=>h'.elim)
  cases ok with
  | false=>exact AD ⟨rfl,d⟩
  | true=>
   exact AA (AA (BG d (fun x y p=>AA (BG p (fun _ D k=>AD (AD ⟨rfl,k⟩)) fun _ _ h'=>h'.elim)) fun _ _ h'=>h'.elim))
end
theorem HOk.track{P:P9}{w:W9}{H:Hp}{h:H9}{a:Az}{o:HO}(x:HOk P w H h)(d:H a=none)(new:bP P w (upd H a o) h a o):HOk P w (upd H a o) h:=fun b u e=>by
 by_cases f:b=a
 .subst f;rw[aS] at e;cases e;exact new
 .rw[aE f] at e
  exact (x b u e).stay (fun c v _ q=>q) (fun c q=>by rw[aE (bF q d)];exact q) (fun c xs q=>by rw[aE (bF q d)];exact q) fun c xs q=>by rw[aE (bF q d)];exact q
section
variable{X:Cx}{pins:List (Az×Obj)}{σ:St}
structure CompEnd(X:Cx)(pins:List (Az×Obj))(σ:St)(D C:Az)(ys:List V)(H':Hp)(s':S9):Prop where
 inv:Inv X pins σ (upd H' D (.lst ys)) s'
 ns:∃ m,s'.heap.Ns C m
 fp:gL X pins (upd H' D (.lst ys)) C
 nD:H' D=none
theorem CompEnd.gone{D C:Az}{ys:List V}{H H':Hp}{s':S9}{c:H9}{a:St}(I:Inv X pins a H s')(d:gL X pins H C)(g:Heap.SameBut C s'.heap c):Inv X pins a H {s' with heap:=c}:=
 I.turned (it:=C) (t':=s'.toks) (fun b o f e=>(g.2 b f).trans e) d.1 d.2.1 d.2.2.2.1 d.2.2.2.2.1 d.2.2.2.2.2
theorem sL{prog:P9}{w:W9}{A:U9}{E:V9->S9->Prop}{s:S9}{l:Az}{items:Array V9}{a:Nat}{x:V9}{Q:V9->S9->Prop}(e:s.heap.get? l=some {cls:=.type "list",dict:=none,data:=.seq items a})(hz:items.size<=sizeLine)
  (hQ:∀ nn' h',h'.get? l=some {cls:=.type "list",dict:=none,data:=.seq (items.push x) nn'}->Heap.SameBut l s.heap h'->Q .none {s with heap:=h'}) :
  wpAny (model prog w) A (call (.builtin "list.append") [.ref l,x]) Q E s:=by
 refine call_meets F.slot_list_append ⟨_,e,rfl⟩ F.entry_list_append (F.args_list_append_2 _ _) (PySem.list_append l items a x (by omega)) ⟨e,?_⟩
 exact hQ _ _ (CF _ e rfl) (C7 ..)
theorem oU{N:List Str}{js:List (O9 Nat)}{scope:Scope}{tg aq ah:E1}{al:List E1}{cl:List (Str×Az)}{pos:Pos}{it:Az}{O:List Az}{tn:Nat->H9->Prop}{J:It}{B:S9}{H2:Hp}{E:V9->S9->Prop}
  {RR:V9->Az->Result->S9->Prop} {Q:VK} (hc:X.calm=true) (ag:Caps X scope N js) (U:scope.kind=.function) (t:∀ y∈scope.names,y.2≠.cell)
  (f:∀ x c,cl.lookup x=some c->X.env.cells.lookup x=some c) (af:∀ x∈scope.names,x.2=.free->∃ c,cl.lookup x.1=some c)
  (I:Inv X pins σ H2 B) (T:Turn X.prog X.w X.K tg J O it tn) (bd:tn 0 B.heap) (Z:∀ b∈O,gL X pins H2 b) (n:Nat) (W:Nat->List V->Hp->Prop) (hn:n<=sizeLine) (w0:W 0 [] H2)
  (au:∀ i ys H,W i ys H->ys.length<=i/\((J.stop i H/\∀ p,H p=none->Q (.ref p) (upd H p (.lst ys)))\/(J.go i H/\i < n/\∃ R:O9 V->Hp->Prop,(∀ y H2,R (some y) H2->W (i+1) (ys++[y]) H2)/\(∀ H2,R none H2->W (i+1) ys H2) /\
   ∀ x H',J.yld i H x H'->pQ X N scope js tg aq al σ x H' R)))
  (br:∀ D C ys H' s',CompEnd X pins σ D C ys H' s'->Q (.ref D) (upd H' D (.lst ys))->RR (.ref D) C (.ok .next) s') :
  wpAny (model X.prog X.w) X.A (newList []) (fun acc s3=>wpAny (model X.prog X.w) X.A (newFunctionEnv scope X.env.globals cl [] X.env.qual none .none (some X.env)) (fun cenv s4=>
   codeAny (model X.prog X.w) X.A (.compStart (.ListComp aq [⟨tg,ah,al,0⟩] scope pos) 0 (.ref it) acc {cenv with scope:=relabel scope X.env}) (RR acc cenv.locals) s4) E s3) E B:=by
 refine B5 (wpAny_newFunctionEnv t (by intro y hy;simp at hy) (fun G F h=>?_) U)
 dsimp only at F h ⊢
 generalize ak:B.heap.push {cls:=.type "list",dict:=none,data:=.seq ([]:List V9).toArray}=Hh at F h ⊢
 have hC:Hh.objs.size=B.heap.objs.size+1:=by rw[<-ak,CG]
 have ac:B.heap.objs.size≠Hh.objs.size:=by rw[hC];exact A3 (D5 _)
 have M:B.heap.objs.size<=Hh.objs.size:=by rw[hC];exact C0 _
 have P:∀ b o,B.heap.get? b=some o->G.get? b=some o:=fun b o e=>h.extBut b o (by rw[hC];exact A3 (Nat.lt_succ_of_lt (AG e))) (AE _ (ak▸AE _ e))
 have ao:G.get? B.heap.objs.size=some {cls:=.type "list",dict:=none,data:=.seq ([]:List V9).toArray}:=h.extBut _ _ ac (AE _ (ak▸A7 _ rfl))
 have bh:tn 0 G:=T.keep _ _ _ bd fun b a o e=>P b o e
 have ad:∀ b∈O,b < B.heap.objs.size:=fun b a=>by
  obtain ⟨o,e,_⟩:=T.obj _ _ bd b a
  exact AG e
 have ay:∀ b∈frs X.stack,b < B.heap.objs.size:=fun b a=>by
  rcases AT.mp (I.stkSub b a) with z|z
  .rw[z];exact I.lt
  .refine Nat.lt_of_not_le fun bn=>I.nofs bn z
 have av:∀ b∈O,b≠Hh.objs.size:=fun b a z=>BF _ (AN (ad b a) (z▸M))
 generalize hD:B.heap.objs.size=D at *
 generalize cg:Hh.objs.size=C at *
 let X':=eZ X N scope cl C B H2 O
 have ax:X'.Ok:=by
  refine ⟨I.ok.mod,U,I.ok.glob,I.ok.blt,by show B.heap.objs.size<=C;rw[hD];exact M,fun x y c e1 e2=>I.ok.inj x y c (f x c e1) (f y c e2),fun x hx=>?_,fun x c z=>absurd (show false=true from z) BQ,I.ok.hd,I.ok.frames,.inl rfl,fun b a=>?_,
   I.bs,A4 I.ok.bsz I.sz,fun b o e a=>?_,fun b a z=>?_,I.stack,I.stkFree⟩
  .have hm:(x,NameKind.free)∈scope.names:=by
    rcases hx with z|z
    .exact eY (env:=X.env) z (.inl rfl) t
    .exact eY (env:=X.env) z (.inr rfl) t
   exact af _ hm rfl
  .exact ⟨av b a,fun x c e=>(Z b a).2.2.2.2.1 x c (f x c e)⟩
  .rcases (Z b a).2.2.2.1 with z|z
   .exact I.ok.noex b o e z
   .exact absurd (AG (I.ok.bs b o e).1) (Nat.not_lt.mpr z)
  .rcases AT.mp (I.stkSub b z) with q|q
   .exact (Z b a).2.1 q
   .exact (Z b a).2.2.1 q
 have aw:(iL js σ).length=N.length:=by unfold iL;rw[AQ,ag.len]
 have freeC:H2 C=none:=I.hok.fresh (by rw[hD];exact M)
 have S:H2 D=none:=I.hok.fresh (by rw[hD];exact AI _)
 have DnotFs:D∉frs X.stack:=fun z=>BF _ (ay D z)
 have DnotFp:D∉O:=fun z=>BF _ (ad D z)
 have I0:∀ tk,Inv X' [] (iL js σ) H2 {B with heap:=G,toks:=tk}:=fun tk=>by
  refine ⟨ax,rfl,I.bare,Un.kept P,⟨_,F,fun i x v e1 e2 e3=>?_⟩,fun x c e=>?_,freeC,fun x c e=>I.freeC x c (f x c e),fun p L=>absurd L (by show ¬ p∈([]++[]:List (Az×Obj));simp),I.hok.kept P,aw⟩
  .unfold iL at e2
   rw[BC] at e2
   cases q:js[i]? with
   | none=>rw[q] at e2;cases e2
   | some o=>
    rw[q] at e2
    cases o with
    | none=>cases e2
    | some j=>
     have aa:(σ[j]?).join=some v:=BP e2
     obtain ⟨c1,c2,c3⟩:=ag.get q e1
     have e4:σ[j]? = some (some v):=by
      cases z:σ[j]? with
      | none=>rw[z] at aa;cases aa
      | some u=>rw[z] at aa;have:u=some v:=aa;rw[this]
     obtain ⟨m,hm,hl⟩:=I.loc
     have bw:Vis X.env.scope x:=by
      rcases c2 with z|z
      · exact .inr (.inl z)
      · exact .inr (.inr z)
     obtain ⟨u,r,l⟩:=hl j x v c1 e4 bw
     refine ⟨u,r,.inr ⟨c3,?_⟩⟩
     have lc:∃ c,X.env.cells.lookup x=some c/\B.heap.IsCell c (some u):=by
      rcases l with ⟨k,_⟩|⟨_,z⟩
      · rcases c2 with z | z <;> (rw [k] at z; cases z)
      · exact z
     obtain ⟨c,e5,o,ho,hd⟩:=lc
     have cb:(x,NameKind.free)∈scope.names:=by
      rcases c3 with z|z
      · exact eY (env := X.env) z (.inl rfl) t
      · exact eY (env := X.env) z (.inr rfl) t
     obtain ⟨c',e6⟩:=af _ cb rfl
     have e7:=f _ _ e6
     rw[e5] at e7;cases e7
     exact ⟨c,e6,o,P c o ho,hd⟩
  .obtain ⟨v,o,ho,hd⟩:=I.cell x c (f x c e)
   exact ⟨v,o,P c o ho,hd⟩
 have ai:∀ {H':Hp} {pl:List (Az×Obj)},(∀ b∈O,H' b=none)->(∀ b∈O,∀ p∈pl,p.1≠b)->∀ b∈O,gL X' pl H' b:=fun {H' pl} hn hpl b a=>by
  refine ⟨hn b a,av b a,ax.exfs b a,.inl a,fun x c e=>(Z b a).2.2.2.2.1 x c (f x c e),fun p L=>hpl b a p ?_⟩
  have bo:p∈[]++pl:=L
  simpa using bo
 let LI:Nat->S9->Prop:=fun k s'=>∃ i ys its nn σ' H',k=n+1 - i/\i<=n/\W i ys H'/\tn i s'.heap/\(∀ b∈O,H' b=none)/\aW ys its/\cF (iL js σ) σ' /\
  Inv X' [(D,{cls:=.type "list",dict:=none,data:=.seq its.toArray nn})] σ' H' s'
 have ae:∀ tk,codeAny (model X.prog X.w) X.A (.compLoop (.ListComp aq [⟨tg,ah,al,0⟩] scope pos) 0 (.ref it) (.ref D) (compEnvC scope cl C X.env)) (RR (.ref D) C) {B with heap:=G,toks:=tk}:=by
  intro tk
  refine sK LI ?_ (n+1) ⟨0,[],[],0,iL js σ,H2,rfl,EH _,w0,bh,fun b a=>(Z b a).1,.nil,cF.refl _,?_⟩
  .rintro k s3 ⟨i,ys,its,nn,σ3,H3,rfl,hin,w3,st3,fr3,r3,ks,I3⟩
   obtain ⟨bi,tr⟩:=au i ys H3 w3
   have bc:=ai (pl:=[(D,{cls:=.type "list",dict:=none,data:=.seq its.toArray nn})]) fr3 (fun b a p L z=>by
    rw[BA.mp L] at z
    exact DnotFp ((show D=b from z)▸a))
   rcases tr with ⟨stop,q⟩|⟨go,bj,RW,bu,bx,step⟩
   .refine thn (T.done X' rfl rfl rfl hc i _ s3 σ3 H3 _ I3 bc st3 stop) fun r s4 s=>?_
    obtain ⟨hr,I4⟩:=s
    subst hr
    show RR (.ref D) C (.ok .next) s4
    obtain ⟨pe,pn,p1,p2,p3⟩:=I4.pin (D,{cls:=.type "list",dict:=none,data:=.seq its.toArray nn}) (by show _∈[]++_;simp)
    refine br D C ys H3 s4 ?_ (q D pn)
    have az:HOk X.prog X.w (upd H3 D (.lst ys)) s4.heap:=HOk.track I4.hok pn ⟨A4 bi (A4 hin hn),its,nn,r3,pe⟩
    have am:∀ b u,H2 b=some u->b≠D:=fun b u e z=>by rw[z,S] at e;cases e
    have bz:Un (frs X.stack) O H2 (upd H3 D (.lst ys)) B.heap s4.heap:=by
     have ub:=I4.base
     refine ⟨ub.keep,ub.slot,fun b o e ap hx=>?_,ub.there,fun b xs e=>?_,fun b o u e=>?_,fun b ps e=>?_⟩
     .rw[aE (fun z=>by have:=AG e;rw[hD,z] at this;exact BF _ this)]
      exact ub.free b o e ap hx
     .rw[aE (am b _ e)];exact ub.tups b xs e
     .rw[aE (am b _ e)];exact ub.frzs b o u e
     .rw[aE (am b _ e)];exact ub.tbls b ps e
    refine ⟨I.call' I4.os bz az I4.bare fun b a=>⟨(Z b a).2.2.2.1,(Z b a).2.1,(Z b a).2.2.2.2.1,(Z b a).2.2.2.2.2⟩,?_,?_,pn⟩
    .obtain ⟨m,hm,_⟩:=I4.loc
     exact ⟨m,hm⟩
    .refine I.fpOk (by rw[hD];exact M) ?_
     rw[aE (BO ac)]
     exact I4.free
   .refine thn (T.item X' rfl rfl rfl hc i _ s3 σ3 H3 _ I3 bc st3 go) fun r s4 s=>?_
    obtain ⟨u,hr,h4⟩:=s
    subst hr
    show wpAny _ _ (letOwnedTupleGo tg (.ref it) u) _ _ s4
    refine thn h4 fun _ s5 s=>?_
    obtain ⟨x,H5,I5,r5,y5,aj,bp⟩:=s
    obtain ⟨g,tt,te,hg,ht,he,hq⟩:=step x H5 y5 cl C B H2 O
    have be:=ai (pl:=[(D,{cls:=.type "list",dict:=none,data:=.seq its.toArray nn})]) bp (fun b a p L z=>by
     rw[BA.mp L] at z
     exact DnotFp ((show D=b from z)▸a))
    have bv:=I5.pinned be (T.obj _ _ aj)
    refine thn (hg _ s5 σ3 H5 x u _ bv r5 (hq σ3 ks)) fun _ s6 s=>?_
    obtain ⟨Y,H6,I6,ba,q6⟩:=s
    refine thn (ht _ s6 Y H6 _ I6 q6) fun b s7 s=>?_
    obtain ⟨H7,I7,q7⟩:=s
    have bf:∀ {s':S9} {H':Hp} {σ':St},Inv X' ([(D,{cls:=.type "list",dict:=none,data:=.seq its.toArray nn})]++l8 O s5.heap) σ' H' s'->tn (i+1) s'.heap/\(∀ b∈O,H' b=none):=fun {s' H' σ'} I'=>by
     refine ⟨T.keep _ _ _ aj fun b a o e=>(I'.pin (b,o) (BK _ (BK _ (jK a e)))).1,fun b a=>?_⟩
     obtain ⟨o,e,d⟩:=T.obj _ _ aj b a
     exact (I'.pin (b,o) (BK _ (BK _ (jK a e)))).2.1
    cases b with
    | false=>
     rw[AM BQ] at q7 ⊢
     obtain ⟨a1,a2⟩:=bf I7
     exact ⟨n+1 - (i+1),by omega,i+1,ys,its,nn,Y,H7,rfl,bj,bx _ q7,a1,a2,r3,ba,I7.unpinned⟩
    | true=>
     rw[AK rfl] at q7 ⊢
     refine thn (he _ s7 Y H7 _ I7 q7) fun yv s8 s=>?_
     obtain ⟨y,H8,I8,r8,q8⟩:=s
     obtain ⟨a1,a2⟩:=bf I8
     have I8u:=I8.unpinned
     obtain ⟨pe,pn,p1,p2,p3⟩:=I8u.pin (D,{cls:=.type "list",dict:=none,data:=.seq its.toArray nn}) (by show _∈[]++_;simp)
     have cf:s8.heap.IsList D its.toArray:=PySem.IsL.isList pe
     have bq:its.length<=sizeLine:=by rw[<-r3.length];exact A4 bi (A4 hin hn)
     refine sL pe (by simpa using bq) fun ap h9 e9 bg=>?_
     have I9:Inv X' [] Y H8 {s8 with heap:=h9,toks:=s8.toks}:=by
      refine Inv.turned (pins:=[]) (it:=D) (t':=s8.toks) (I8u.pins_of (pins':=[]) fun p L=>absurd L (by simp)) (fun b o a e=>(bg.2 b a).trans e) pn ac (.inr (by show B.heap.objs.size<=D;rw[hD];exact AI _)) (fun x c e z=>?_) fun p L=>absurd L (by show ¬ p∈([]++[]:List (Az×Obj));simp)
      obtain ⟨v,o,ho,hd⟩:=I.cell x c (f x c e)
      have:=AG ho
      rw[hD,z] at this
      exact BF _ this
     refine ⟨n+1 - (i+1),by omega,i+1,ys++[y],its++[yv],ap,Y,H8,rfl,bj,bu _ _ q8,?_,a2,aW.append r3 (.cons r8 .nil),ba,?_⟩
     .exact T.keep _ _ _ a1 fun b a o e=>(bg.2 b (fun z=>DnotFp (z▸a))).trans e
     .refine I9.pins_of fun p L=>?_
      obtain rfl:=BA.mp L
      exact ⟨by simpa using e9,pn,p1,p2,by simp⟩
  .refine (I0 tk).pins_of fun p L=>?_
   obtain rfl:=BA.mp L
   exact ⟨ao,S,ac,DnotFs,by simp⟩
 exact codeAny_compStart_list (ae _) (T.self X.A 0 _ _ _ bh (ae _))
noncomputable def dG(names:List (Str×NameKind))(outer:Str->O9 NameKind):Bool:=
 names.all (fun y=>y.2 != .cell) && names.all (fun y=>y.2 != .local || names.lookup y.1 == some .local) && names.all (fun y=>y.2 != .free || outer y.1 == some .cell || outer y.1 == some .free)
theorem dG.cell{names:List (Str×NameKind)}{outer:Str->O9 NameKind}(h:dG names outer=true):∀ y∈names,y.2≠.cell:=fun y a=>by
 unfold dG at h
 simp only[AW,CM] at h
 simpa using h.1.1 y a
theorem dG.names{names:List (Str×NameKind)}{outer:Str->O9 NameKind}(h:dG names outer=true):∀ y∈names,y.2=.local->names.lookup y.1=some .local:=fun y a e=>by
 unfold dG at h
 simp only[AW,CM] at h
 have:=h.1.2 y a
 rw[e] at this
 simpa using this
theorem dG.free{names:List (Str×NameKind)}{outer:Str->O9 NameKind}(h:dG names outer=true):∀ y∈names,y.2=.free->outer y.1=some .cell\/outer y.1=some .free:=fun y a e=>by
 unfold dG at h
 simp only[AW,CM] at h
 have:=h.2 y a
 rw[e] at this
 simpa using this
theorem pR{N:List Str}{js:List (O9 Nat)}{scope:Scope}{tg e a:E1}{c:List E1}{pos:Pos}{l:TI}(z:X.calm=true)(f:Caps X scope N js)(hok:dG scope.names X.env.kindOf=true)
  (hi:PI X tg a l) (b:scope.kind=.function:=by rfl) (hs:∀ x,foldedSetIterable a X.env x=pure x:=by intro _;rfl) :
  PE X (.ListComp e [⟨tg,a,c,0⟩] scope pos) (oS X N scope js tg e c l):=by
 intro pins s σ H Q I h
 obtain ⟨cl,e1,e2,t⟩:=oR (env:=X.env) (scope:=scope) fun x u r=>I.ok.has _ (dG.free hok x u r)
 rw[eval_ListComp]
 refine EX (use:=none) rfl hs e1 b (dG.names hok) (thn (hi pins s σ H _ I h) fun v s1 h1=>thn h1 fun E K h2=>?_)
 obtain ⟨L,fp,G,J,H2,rfl,B,T,g,o,n,W,y,p,d⟩:=h2
 refine oU (RR:=fun i C=>compPost (model X.prog X.w) X.A X.xe none (EP X pins σ Q) i C) (Q:=Q) z f b (dG.cell hok) e2 t B T g o n W y p d ?_
 intro D C ys H' s' k q
 obtain ⟨m,F⟩:=k.ns
 exact ⟨m,F,fun h' j=>⟨.ref D,_,CompEnd.gone (D:=D) (ys:=ys) (H':=H') k.inv k.fp j,rfl,q⟩⟩
theorem wT{i:Nat}{x:Str}{N:List Str}{js:List (O9 Nat)}{scope:Scope}{tg f b:E1}{d:List E1}{pos pos' g:Pos}{G:TI}(V:X.N.Nodup)(F:X.N[i]? = some x)(hx:Loc X.env.scope x)
  (r:swapsWith (.ListComp f [⟨tg,b,d,0⟩] scope pos) (some (.Name x pos')) g.line X.env=pure true) (S:X.calm=true) (k:Caps X scope N js) (hok:dG scope.names X.env.kindOf=true)
  (hi:PI X tg b G) (c:scope.kind=.function:=by rfl) (p:X.fn x=true\/X.env.scope.names.lookup x=some .local:=by exact .inl rfl) (hs:∀ x,foldedSetIterable b X.env x=pure x:=by intro _;rfl) :
  PS X (.Assign [.Name x pos'] (.ListComp f [⟨tg,b,d,0⟩] scope pos) g) (kI (oS X N scope js tg f d G) (iY i)):=by
 intro pins s σ H D I h
 obtain ⟨cl,e1,e2,O⟩:=oR (env:=X.env) (scope:=scope) fun x hx p=>I.ok.has _ (dG.free hok x hx p)
 rw[exec_Assign_Name_used _ _ _ _ r]
 refine AA (DA (AA ?_))
 show wpAny _ X.A (do let _ <-comprehension (.ListComp f [⟨tg,b,d,0⟩] scope pos) scope X.env _ (newList []) false (eval b X.env) (some (assign (.Name x pos') X.env))) _ _ s
 refine AA (BG (EX (use:=some (assign (.Name x pos') X.env)) (Q:=fun _ s'=>SP X pins D .next s') rfl hs e1 c (dG.names hok)
  (thn (hi pins s σ H _ I h) fun v s1 h1=>thn h1 fun aa s2 h2=>?_)) (fun _ s' hq=>AD (AD hq)) fun _ _ e=>e)
 obtain ⟨it,fp,tn,J,H2,rfl,Y,T,t,K,n,W,R,M,j⟩:=h2
 refine oU (RR:=fun y C=>compPost (model X.prog X.w) X.A X.xe (some (assign (.Name x pos') X.env)) (fun _ s'=>SP X pins D .next s') y C) (Q:=fun v H'=>D.nx (σ.set i (some v)) H') S k c (dG.cell hok) e2 O Y T t K n W R M j ?_
 intro L C ys H' s' l q
 show wpAny _ X.A (assign (.Name x pos') X.env (.ref L)) _ _ s'
 refine wpAny_assign_Name (qO (v:=.ref L) l.inv V F hx rfl (fun P u sb=>?_) p)
 obtain ⟨a,o,Z⟩:=sb
 have E:C≠a:=by
  rcases Z with z|z
  · rw [z]; exact l.fp.2.1
  · exact fun U => l.fp.2.2.2.2.1 x a z U.symm
 obtain ⟨m,hm⟩:=l.ns
 exact ⟨m,hm.sameBut o E,fun h' B=>⟨_,_,CompEnd.gone (D:=L) (ys:=ys) (H':=H') u l.fp B,q⟩⟩
end
noncomputable def aCE(W:Nat->List V->Hp->Prop)(i:Nat)(ys:List V):O9 V->Hp->Prop
 | some y,H=>W (i+1) (ys++[y]) H
 | none,H=>W (i+1) ys H
theorem aDD{X:Cx}{J:It}{N:List Str}{scope:Scope}{js:List (O9 Nat)}{tg c:E1}{b:List E1}{σ:St}{Q:VK}{n:Nat}{H1:Hp}(W:Nat->List V->Hp->Prop)(j:n<=sizeLine)(h:W 0 [] H1)
  (g:∀ i ys H,i<=n->W i ys H->ys.length<=i) (d:∀ i ys H,i < n->W i ys H->J.go i H) (f:∀ ys H,W n ys H->J.stop n H)
  (step:∀ i x ys H H',i < n->W i ys H->J.yld i H x H'->pQ X N scope js tg c b σ x H' (aCE W i ys))
  (done:∀ ys H,W n ys H->∀ p,H p=none->Q (.ref p) (upd H p (.lst ys))) :
  compK X N scope js tg c b σ Q J H1:=by
 refine ⟨n,fun i ys H=>i<=n/\W i ys H,j,⟨EH _,h⟩,?_⟩
 rintro i ys H ⟨hi,w⟩
 refine ⟨g i ys H hi w,?_⟩
 by_cases a:i < n
 .exact .inr ⟨d i ys H a w,a,aCE W i ys,fun y H2 q=>⟨a,q⟩,fun H2 q=>⟨a,q⟩,fun x H' y=>step i x ys H H' a w y⟩
 .have e:i=n:=by omega
  subst e
  exact .inl ⟨f ys H w,done ys H w⟩
mutual
inductive DatV(K:Frag)(H:Hp):V->Dz->Prop
 | non:DatV K H .non .none
 | bl (b:Bool):DatV K H (.bl b) (.bool b)
 | int (i:Int):DatV K H (.int i) (.int i)
 | str (x:Str):DatV K H (.str x) (.str x)
 | lst {a:Az} {xs:List V} {ds:List Dz}:SqL K H a xs->DatVs K H xs ds->DatV K H (.ref a) (.list ds)
 | tup {a:Az} {xs:List V} {ds:List Dz}:SqT K H a xs->DatVs K H xs ds->DatV K H (.ref a) (.tuple ds)
 | pl {a:Az} {ns:List Int}:H a=some (.lst (ns.map V.int))->DatV K H (.ref a) (.dict [(.list (ns.map .int),.none)])
inductive DatVs(K:Frag)(H:Hp):List V->List Dz->Prop
 | nil:DatVs K H [] []
 | cons {x:V} {d:Dz} {xs:List V} {ds:List Dz}:DatV K H x d->DatVs K H xs ds->DatVs K H (x::xs) (d::ds)
end
section
variable{X:Cx}{pins:List (Az×Obj)}{σ:St}{H:Hp}{s:S9}
mutual
theorem DatV.reads(I:Inv X pins σ H s):∀ {x:V} {d:Dz} {u:V9},DatV X.K H x d->d.canLay0=true->aU x u->∃ as,Reads s.heap u d as
 | _,_,_,.non,_,r=>by cases r;exact ⟨_,.none⟩
 | _,_,_,.bl b,_,r=>by cases r;exact ⟨_,.bool b⟩
 | _,_,_,.int i,_,r=>by obtain ⟨t,rfl⟩:=r;exact ⟨_,.int i t⟩
 | _,_,_,.str x,_,r=>by obtain ⟨t,rfl⟩:=r;exact ⟨_,.str x t⟩
 | _,_,_,.pl _,y,_=>by cases y
 | _,_,_,.lst h ds,y,r=>by
  cases r
  obtain ⟨a,f,⟨o,e,c,n,d⟩,g⟩:∃ a:List V9,aW _ a/\s.heap.IsList _ a.toArray/\_:=by
   obtain ⟨a,f,p,g⟩:=I.list h
   exact ⟨a,f,p.isList,g⟩
  obtain ⟨as,q⟩:=DatVs.reads I ds y f
  exact ⟨_,.list e c d (by simpa using q)⟩
 | _,_,_,.tup h ds,y,r=>by
  cases r
  obtain ⟨a,f,p,g⟩:=I.tuple h
  obtain ⟨o,e,c,n,d⟩:=p
  obtain ⟨as,q⟩:=DatVs.reads I ds y f
  exact ⟨_,.tuple e c d (by simpa using q)⟩
theorem DatVs.reads(I:Inv X pins σ H s):∀ {xs:List V} {ds:List Dz} {us:List V9},DatVs X.K H xs ds->PyData.canLayAll0 ds=true->aW xs us->∃ as,ReadsAll s.heap us ds as
 | _,_,_,.nil,_,r=>by cases r;exact ⟨_,.nil⟩
 | _,_,_,.cons (d:=d0) (ds:=ds0) h t,y,r=>by
  have a:(d0.canLay0 && PyData.canLayAll0 ds0)=true:=y
  rw[AW] at a
  cases r with
  | cons r1 r2=>
   obtain ⟨as,q⟩:=DatV.reads I h a.1 r1
   obtain ⟨bs,b⟩:=DatVs.reads I t a.2 r2
   exact ⟨_,.cons q b⟩
end
theorem nA{d:Dz}(h:SeqAt.shaped d=true):d.canLay0=true:=by
 have h':(d.canLay0 && decide (d.depth<=64))=true:=h
 rw[AW] at h'
 exact h'.1
theorem aF1(l:X.A.units+64 < cLine):OpR X (compareOp .Eq) (fun x y H Q=>∃ d e,DatV X.K H x d/\DatV X.K H y e/\SeqAt.shaped d=true/\SeqAt.shaped e=true/\Q (.bl (PyData.eqv d e)) H):=by
 intro pins s σ H x y u v Q I j c h
 obtain ⟨d,e,g,i,a,b,q⟩:=h
 obtain ⟨m,f⟩:=g.reads I (nA a) j
 obtain ⟨bs,k⟩:=i.reads I (nA b) c
 exact eq_dataH f k a b l ⟨.bl _,H,I,rfl,q⟩
theorem aF2(l:X.A.units+64 < cLine):OpR X (compareOp .NotEq) (fun x y H Q=>∃ d e,DatV X.K H x d/\DatV X.K H y e/\SeqAt.shaped d=true/\SeqAt.shaped e=true/\Q (.bl (!PyData.eqv d e)) H):=by
 intro pins s σ H x y u v Q I j c h
 obtain ⟨d,e,g,i,a,b,q⟩:=h
 obtain ⟨m,f⟩:=g.reads I (nA a) j
 obtain ⟨bs,k⟩:=i.reads I (nA b) c
 exact ne_dataH f k a b l ⟨.bl _,H,I,rfl,q⟩
end
theorem SqL.same{K:Frag}{H H':Hp}{a:Az}{xs:List V}(e:aH H H')(h:SqL K H a xs):SqL K H' a xs:=aH.seq e h
theorem SqT.same{K:Frag}{H H':Hp}{a:Az}{xs:List V}(e:aH H H')(h:SqT K H a xs):SqT K H' a xs:=by
 rcases h with (h|⟨o,h⟩)|h
 · exact .inl (.inl (e _ _ h))
 · exact .inl (.inr ⟨o, e _ _ h⟩)
 · exact .inr h
theorem DatV.same{K:Frag}{H H':Hp}(e:aH H H'){x:V}{d:Dz}(h:DatV K H x d):DatV K H' x d:=
 DatV.rec (motive_1:=fun x d _=>DatV K H' x d) (motive_2:=fun xs ds _=>DatVs K H' xs ds) .non .bl .int .str (fun h _ q=>.lst (h.same e) q) (fun h _ q=>.tup (h.same e) q) (fun h=>.pl (e _ _ h)) .nil (fun _ _ p q=>.cons p q) h
theorem DatVs.same{K:Frag}{H H':Hp}(e:aH H H'){xs:List V}{ds:List Dz}(h:DatVs K H xs ds):DatVs K H' xs ds:=
 DatVs.rec (motive_1:=fun x d _=>DatV K H' x d) (motive_2:=fun xs ds _=>DatVs K H' xs ds) .non .bl .int .str (fun h _ q=>.lst (h.same e) q) (fun h _ q=>.tup (h.same e) q) (fun h=>.pl (e _ _ h)) .nil (fun _ _ p q=>.cons p q) h
theorem aH.upd{H:Hp}{a:Az}{o:HO}(h:H a=none):aH H (upd H a o):=fun b u e=>by rw[aE (bF e h)];exact e
theorem DatVs.length{K:Frag}{H:Hp}:∀ {xs:List V} {ds:List Dz},DatVs K H xs ds->xs.length=ds.length
 | _,_,.nil=>rfl
 | _,_,.cons _ t=>by simp[DatVs.length t]
theorem DatVs.append{K:Frag}{H:Hp}:∀ {xs ys:List V} {ds es:List Dz},DatVs K H xs ds->DatVs K H ys es->DatVs K H (xs++ys) (ds++es)
 | _,_,_,_,.nil,h=>h
 | _,_,_,_,.cons a t,h=>.cons a (DatVs.append t h)
theorem DatVs.get{K:Frag}{H:Hp}:∀ {xs:List V} {ds:List Dz} {i:Nat} {x:V},DatVs K H xs ds->xs[i]? = some x->∃ d,ds[i]? = some d/\DatV K H x d
 | _,_,_,_,.nil,e=>by simp at e
 | _,_,0,_,.cons a t,e=>by simp at e;subst e;exact ⟨_,by simp,a⟩
 | _,_,i+1,x,.cons a t,e=>by
  obtain ⟨d,h1,h2⟩:=DatVs.get (i:=i) (x:=x) t (by simpa using e)
  exact ⟨d,by simpa using h1,h2⟩
theorem DatVs.get'{K:Frag}{H:Hp}:∀ {xs:List V} {ds:List Dz} {i:Nat} {d:Dz},DatVs K H xs ds->ds[i]? = some d->∃ x,xs[i]? = some x/\DatV K H x d
 | _,_,_,_,.nil,e=>by simp at e
 | _,_,0,_,.cons a t,e=>by simp at e;subst e;exact ⟨_,by simp,a⟩
 | _,_,i+1,x,.cons a t,e=>by
  obtain ⟨d,h1,h2⟩:=DatVs.get' (i:=i) (d:=x) t (by simpa using e)
  exact ⟨d,by simpa using h1,h2⟩
theorem DatVs.drop{K:Frag}{H:Hp}:∀ {xs:List V} {ds:List Dz} (n:Nat),DatVs K H xs ds->DatVs K H (xs.drop n) (ds.drop n)
 | _,_,0,h=>h
 | _,_,_+1,.nil=>.nil
 | _,_,n+1,.cons _ t=>DatVs.drop n t
theorem DatVs.take{K:Frag}{H:Hp}:∀ {xs:List V} {ds:List Dz} (n:Nat),DatVs K H xs ds->DatVs K H (xs.take n) (ds.take n)
 | _,_,0,_=>.nil
 | _,_,_+1,.nil=>.nil
 | _,_,n+1,.cons a t=>.cons a (DatVs.take n t)
def Ite(K:Frag)(a:Az):It:=
 ⟨fun i H=>∃ xs x,SqL K H a xs/\xs[i]? = some x,fun i H x H'=>∃ p v,H p=none/\x=.ref p/\H'=upd H p (.tup [.int i,v])/\∀ xs,SqL K H a xs->xs[i]? = some v,fun i H=>∃ xs,SqL K H a xs/\xs.length<=i⟩
theorem yH{P:P9}{w:W9}{K:Frag}{es:List E1}{k1}{tpos:Pos}(a e it:Az)(C:e≠it):Turn P w K (.Tuple es k1 tpos) (Ite K a) [e,it] e (fun i h=>(∃ old,IsEnum h e it i old)/\h.IsListIter it a i) where
 mem:=by simp
 obj:=fun i h st b t=>by
  obtain ⟨⟨old,s1⟩,o,e2,c,d⟩:=st
  rcases AT.mp t with z|z
  .subst z
   exact ⟨_,s1,fun v z=>by
    have z':Data.fields _=Data.cell v:=z
    cases z'⟩
  .obtain rfl:b=it:=by simpa using z
   exact ⟨o,e2,fun v z=>by rw[d] at z;cases z⟩
 keep:=fun i h h' st k=>by
  obtain ⟨⟨old,s1⟩,y⟩:=st
  exact ⟨⟨old,k e (by simp) _ s1⟩,y.at fun o q=>k it (by simp) o q⟩
 item:=by
  intro X hP Q W f i pins s σ H E I J st R
  subst hP Q W
  obtain ⟨⟨old,s1⟩,y⟩:=st
  obtain ⟨xs,x,M,hx⟩:=R
  obtain ⟨V,N,p,hz⟩:=I.list M
  obtain ⟨u,hu,ru⟩:=N.get hx
  obtain ⟨T,f1,f2,f3,f4,f5⟩:=J e (by simp)
  obtain ⟨A,L,g2,Z,Y,g5⟩:=J it (by simp)
  refine wpAny_pyNext_enum_item s1 y p.isList (x:=u) (by simpa using hu) C fun h' so si st ac kp=>?_
  refine ⟨_,rfl,DK so fun h2 se sb=>?_⟩
  have G:s.heap.objs.size≠e:=CA (AG s1)
  have U:h2.get? s.heap.objs.size=some {cls:=.type "tuple",data:=.seq #[.int i s.toks,u]}:=(sb.2 _ G).trans st
  have O:H s.heap.objs.size=none:=I.hok.fresh (AI _)
  have g:∀ b o,b≠e->b≠it->s.heap.get? b=some o->h2.get? b=some o:=fun b o h1 S q=>(sb.2 b h1).trans (kp b o h1 S q)
  have B:HOk X.prog X.w H h2:=fun b F q=>by
   refine (I.hok b F q).stay (fun c v f q'=>g c v ?_ ?_ q') (fun _ q=>q) (fun _ _ q=>q) fun _ _ q=>q
   .rcases f with z|z
    .rw[z];exact fun j=>by rw[j,T] at q;cases q
    .exact fun j=>by rw[j,T] at z;cases z
   .rcases f with z|z
    .rw[z];exact fun j=>by rw[j,A] at q;cases q
    .exact fun j=>by rw[j,A] at z;cases z
  have D:HOk X.prog X.w (upd H s.heap.objs.size (.tup [.int i,x])) h2:=HOk.track B O ⟨by show 2<=sizeLine;decide,[.int i s.toks,u],.cons ⟨_,rfl⟩ (.cons ru .nil),⟨_,U,⟨rfl,rfl⟩,_,rfl⟩⟩
  have l:∀ b F,H b=some F->b≠s.heap.objs.size:=fun b F q=>bF q O
  have I2:Inv X pins σ (upd H s.heap.objs.size (.tup [.int i,x])) {s with heap:=h2,gens:=s.gens,drawn:=s.drawn,toks:=s.toks+1}:=by
   refine I.step (ch:=[e,it]) (fun b t=>?_) (fun b o _ _ f q _=>g b o (fun z=>f (by simp[z])) (fun z=>f (by simp[z])) q) (fun b o _ _ f q _=>⟨o.slots,g b o (fun z=>f (by simp[z])) (fun z=>f (by simp[z])) q⟩)
    (fun b o _ q n=>by rw[aE (A3 (AG q))];exact n) (fun b o f q=>⟨o,g b o (fun z=>f (by simp[z])) (fun z=>f (by simp[z])) q⟩) (fun b ys q=>by rw[aE (l b _ q)];exact q) (fun b o F q=>by rw[aE (l b _ q)];exact q)
    (fun b ps q=>by rw[aE (l b _ q)];exact q) (fun m hm=>?_) D I.bare
   .rcases AT.mp t with z|z
    .subst z;exact ⟨f3,f1,f4,f5⟩
    .obtain rfl:b=it:=by simpa using z
     exact ⟨Z,L,Y,g5⟩
   .obtain ⟨o,aa,ep,ho,r⟩:=hm
    exact ⟨o,aa,ep,g _ o (BO f1) (BO L) ho,r⟩
  refine ⟨.ref s.heap.objs.size,_,I2,rfl,⟨_,x,O,rfl,rfl,fun ys hy=>by rw[I.list_inj hy M];exact hx⟩,⟨⟨u,by simpa using se⟩,si.at fun o q=>(sb.2 it C.symm).trans q⟩,fun b t=>?_⟩
  rcases AT.mp t with z|z
  .subst z;rw[aE (BO G)];exact T
  .obtain rfl:b=it:=by simpa using z
   obtain ⟨o,q,_⟩:=y
   rw[aE (A3 (AG q))];exact A
 done:=by
  intro X hP Q W f i pins s σ H E I J st R
  subst hP Q W
  obtain ⟨⟨old,s1⟩,y⟩:=st
  obtain ⟨xs,M,hx⟩:=R
  obtain ⟨V,N,p,hz⟩:=I.list M
  obtain ⟨A,L,g2,Z,Y,g5⟩:=J it (by simp)
  have hl:=N.length
  exact wpAny_pyNext_enum_end (I.ok.hd f) s1 y p.isList (by simp;omega) fun h' eb=>⟨rfl,I.turned (t':=s.toks) (fun b o t q=>eb b o t q) A L Z Y g5⟩
 self:=fun _ _ _ _ _ st h=>CY st.1.choose_spec h
def aCF(K:Frag)(ta:TA):TI:=fun σ H R=>ta σ H fun vs H1=>∃ a,vs=[.ref a]/\(∃ xs,SqL K H1 a xs)/\R (Ite K a) H1
theorem aDE{X:Cx}{es:List E1}{k1}{tpos:Pos}{a:E1}{ta:TA}{p pos:Pos}(k:Gl X "enumerate")(o:X.mg "enumerate"=none)(m:PA X [a] ta)(v:starEach [a] X.env=[(false,eval a X.env)]:=by rfl) :
  PI X (.Tuple es k1 tpos) (.Call (.Name "enumerate" p) [a] [] pos) (aCF X.K ta):=by
 intro pins s σ H R I h
 refine Call_ (jS I k o DI (B7 (thn (m pos pins s σ H _ I h) fun us s1 d=>?_) v rfl))
 obtain ⟨vs,H1,c,g,l⟩:=d
 obtain ⟨j,e,⟨xs,w⟩,q⟩:=l
 subst e
 obtain ⟨u,rfl,x⟩:=lA g
 cases x
 obtain ⟨r,C,B,D⟩:=c.list w
 refine call_enumerate_list B.isList fun h' f t A n=>?_
 have i:Inv X pins σ H1 {s1 with heap:=h'}:=c.kept (t':=s1.toks) n
 refine CY f ?_
 refine ⟨s1.heap.objs.size+1,[s1.heap.objs.size+1,s1.heap.objs.size],_,_,H1,rfl,i,yH j _ _ (CA (D5 _)),⟨⟨_,f⟩,t⟩,fun b y=>?_,q⟩
 rcases AT.mp y with z|z
 .subst z
  exact c.fpOk (C0 _) (c.hok.fresh (C0 _))
 .obtain rfl:b=s1.heap.objs.size:=by simpa using z
  exact c.fpOk (AI _) (c.hok.fresh (AI _))
end L2
namespace SX
open PySem PySem.W
section
variable{prog:P9}{w:W9}{A:U9}{E:V9->S9->Prop}{h:H9}{g:Array GenState}{d:Drawn}{t:Nat}{os:OsState}{K:Frag}
variable{nm q:Str}{C N:Az}{bs bm bmB:List V9}{hdct:Bool}{sn:List Str}{sub:List V9}{ab:Bool}{col:O9 Bool}{dd:O9 Az}{k0 k1 k2 k3 k5:O9 V9}{B newId initId:String}
structure BmOk(B:String)(bm:List V9):Prop where
 hasB:bm.contains (.type B)=true
 hasBase:bm.contains (.type "BaseException")=true
 noAttr:bm.contains (.type "AttributeError")=false
 noName:bm.contains (.type "NameError")=false
theorem wU(F:ExcBaseFacts B newId initId bmB)(T:BmOk B bm){M:Model}{rest:List V9}{Q:Unit->S9->Prop}(b:h.get? C=some (excClassObj nm q C N bs bm hdct sn sub ab col dd k0 k1 k2 k3 k5 newId))
  (e:Q () ⟨h,g,d,t,os⟩):wpAny M A (checkBuiltinCall newId ⟨.ref C::rest,[]⟩) Q E ⟨h,g,d,t,os⟩:=by
 have a:(Value.ref C::bm).contains (.type B)=true:=by rw[CP,T.hasB,EY]
 have c:=F.noStar
 simp only[checkBuiltinCall,F.newKind,F.newSplit,F.newRow]
 repeat (first|refine B0 b ?_|(refine CK b ?_;rw[a])|refine wpAny_staticBase_exc b ?_|refine wpAny_madeBy_exc b ?_|simp only[bne_self_eq_false,A2,BS]|wp_step)
 exact e
theorem aAP(F:ExcBaseFacts B newId initId bmB)(T:BmOk B bm){R:Result->S9->Prop}{rest:List V9}(f:h.get? C=some (excClassObj nm q C N bs bm hdct sn sub ab col dd k0 k1 k2 k3 k5 newId))
  (j:R (.ok (.ret (.ref (h.objs.size+1)))) ⟨(h.push {cls:=.type "tuple",data:=.seq rest.toArray}).push
   {cls:=.ref C,data:=.fields #[.ref h.objs.size,.none,.none,.none,.bool false,.none]},g,d,t,os⟩) (hrest:rest.length<=sizeLine) :
  codeAny (model prog w) A (.builtin newId ⟨.ref C::rest,[]⟩) R ⟨h,g,d,t,os⟩:=by
 have c:=F.ends
 have i:(Value.ref C::bm).contains (.type B)=true:=by rw[CP,T.hasB,EY]
 have e:(Value.ref C::bm).contains (.type "AttributeError")=false:=by rw[CP,T.noAttr];rfl
 have a:(Value.ref C::bm).contains (.type "NameError")=false:=by rw[CP,T.noName];rfl
 refine codeAny_builtinAt F.entry ?_
 unfold Builtin.«BaseException.__new__»
 refine wpAt_bind ?_
 show wpAt _ _ _ (stack >>= _) _ _ _
 refine wpAt_bind (wpAt_stack fun p b=>wpAt_of_wpAny ?_)
 wp_walk
 refine wpAt_of_wpAny ?_
 rw[F.owner]
 repeat (first|with_reducible refine wpAny_madeHere_exc F.canon f ?_|with_reducible refine B0 f ?_|(with_reducible refine CK f ?_;first|rw[i]|rw[e]|rw[a])|wp_step)
 show R _ _
 rw[CG]
 exact j
theorem sM(F:ExcBaseFacts B newId initId bmB)(T:BmOk B bm)(X:K.In h){rest:List V9}{fI:Az}{Q:Fin->S9->Prop}
  (j:h.get? C=some (excClassObj nm q C N bs bm hdct sn sub ab col dd k0 k1 k2 k3 k5 newId)) (hi:findIn K (.ref C) "__init__"=some (some (.ref fI))) (s:typeIn K (.ref fI)=some (.type "function"))
  (p:∀ h' e,Heap.MadeExcOf h h' e (.ref C) rest->h.objs.size<=e->
   wpAny (model prog w) A (call (.ref fI) (.ref e::rest)) (fun r s'=>r=.none/\Q (.done (.ret (.ref e))) s') E ⟨h',g,d,t,os⟩) (f:rest.length<=sizeLine) :
  wpAny (model prog w) A (Builtin.«type.__call__» ⟨.ref C::rest,[]⟩) Q E ⟨h,g,d,t,os⟩:=by
 repeat (first|with_reducible refine B0 j ?_|with_reducible refine wpAny_madeBy_exc j ?_|wp_step)
 refine codeAny_call_builtin_code (Code.quiet_builtin _ F.quiet) (wU F T j ?_)
 refine aAP F T j ?_ f
 show wpAny _ _ _ _ _ _
 have l:∀ b o,h.get? b=some o->((h.push {cls:=.type "tuple",data:=.seq rest.toArray}).push {cls:=.ref C,data:=.fields #[.ref h.objs.size,.none,.none,.none,.bool false,.none]}).get? b=some o:=fun b o e=>AE _ (AE _ e)
 have i:=l _ _ j
 have c:=X.keeps l
 have a:((h.push {cls:=.type "tuple",data:=.seq rest.toArray}).push
   {cls:=.ref C,data:=.fields #[.ref h.objs.size,.none,.none,.none,.bool false,.none]}).get? (h.objs.size+1)=some
   {cls:=.ref C,data:=.fields #[.ref h.objs.size,.none,.none,.none,.bool false,.none]}:=by heap_get
 have k:(Value.ref C::bm).contains (.ref C)=true:=by simp
 unfold isInstance
 repeat (first|with_reducible refine B0 a ?_|(with_reducible refine CK i ?_;rw[k])|wp_step)
 show wpAny _ _ (typeLookup (.ref C) _) _ _ _
 refine (looks_findIn (M:=model prog w) c hi).at ?_
 refine CB (AA ?_)
 refine (bind_fn (M:=model prog w) c _ s).at ?_
 refine AA (BG (p _ (h.objs.size+1) ⟨l,D9 (C0 _),h.objs.size,a,D9 (AI _),?_⟩ (C0 _)) (fun r s' n=>?_) fun _ _ x=>x)
 .exact AE _ (Heap.get?_push_at rfl rfl)
 .obtain ⟨rfl,m⟩:=n
  wp_walk
  exact m
theorem aAQ(F:ExcBaseFacts B newId initId bmB)(T:BmOk B bm)(X:K.In h){rest:List V9}{fI:Az}{Q:V9->S9->Prop}
  (b:h.get? C=some (excClassObj nm q C N bs bm hdct sn sub ab col dd k0 k1 k2 k3 k5 newId)) (hi:findIn K (.ref C) "__init__"=some (some (.ref fI))) (i:typeIn K (.ref fI)=some (.type "function"))
  (f:∀ h' e,Heap.MadeExcOf h h' e (.ref C) rest->h.objs.size<=e->
   wpAny (model prog w) (A.under (.builtin "type.__call__" ⟨.ref C::rest,[]⟩)) (call (.ref fI) (.ref e::rest)) (fun r s'=>r=.none/\Q (.ref e) s') E ⟨h',g,d,t,os⟩) (a:rest.length<=sizeLine) :
  wpAny (model prog w) A (call (.ref C) rest) Q E ⟨h,g,d,t,os⟩:=by
 have l:=tc_lookup
 have k:=tc_bind (.ref C)
 have m:(⟨h,g,d,t,os⟩:S9).TypeIs (.ref C) "type":=⟨_,b,rfl⟩
 refine DT (codeAny_of_tree ?_)
 show wpAny _ _ (callAny (.ref C) _) _ _ _
 repeat (any_goals (first|assumption|with_reducible refine B0 b ?_|wp_step))
 refine ⟨rfl,?_⟩
 refine codeAny_call_builtin_at (Code.quiet_builtin _ (by decide +kernel)) entry_typeCall (wpAny_check_type_call_sub b (sM F T X b hi i (fun h' e j c=>?_) a))
 exact f h' e j c
theorem oV{M:Model}{env:Env}{s:S9}{x:Sem V9}{Q:Flow->S9->Prop}(T:BmOk B bm)(i:A.handled=none)
  (hx:wpAny M A x (fun v s₁=>∃ e od vs,v=.ref e/\s₁.heap.get? C=some (excClassObj nm q C N bs bm hdct sn sub ab col dd k0 k1 k2 k3 k5 newId) /\
   s₁.heap.get? e=some {cls:=.ref C,dict:=od,data:=.fields vs}/\vs[1]? = some .none/\E (.ref e) s₁) E s) :
  wpAny M A (raiseStmt env (some x) none) Q E s:=by
 have b:(Value.ref C::bm).contains (.type "BaseException")=true:=by rw[CP,T.hasBase,EY]
 unfold raiseStmt
 refine AA (BG hx (fun v s₁ a=>?_) fun _ _ x=>x)
 obtain ⟨e,od,vs,rfl,c,f,h1,h⟩:=a
 obtain ⟨j,g,d,tk,os⟩:=s₁
 repeat (first|with_reducible refine B0 f ?_|with_reducible refine B0 c ?_|(with_reducible refine CK c ?_;rw[b])|(with_reducible refine B4 f rfl h1 ?_)|wp_step)
 exact wpAny_raiseNew_none i h
end
end SX
namespace SX
open PySem PySem.W PySem.Builtin PySem.Builtin.ObjectAttr
abbrev fJ:List V9:=[.type "ValueError",.type "Exception",.type "BaseException",.type "object"]
structure ExcC(K:Frag)(W C:Az):Prop where
 lk:∃ nm q N bs sn sub ab col dd k0 k1 k2 k3 k5,K.lookup C=some (excClassObj nm q C N bs (.ref W::fJ) true sn sub ab col dd k0 k1 k2 k3 k5 "ValueError.__new__")
 sa:findIn K (.ref C) "__setattr__"=some (some (.builtin "object.__setattr__"))
 ga:findIn K (.ref C) "__getattribute__"=some (some (.builtin "BaseException.__getattribute__"))
 gh:findIn K (.ref C) "__getattr__"=some none
 cl:findIn K (.ref C) "__class__"=some (some (.builtin "object.__class__"))
 clg:specialIn K (.builtin "object.__class__") "__get__"=some (some (.builtin "getset_descriptor.__get__"))
 clt:takesIn K (.builtin "object.__class__")=some true
 kp:keepIn K (.ref C)=true
theorem sN(W:Az):BmOk "ValueError" (.ref W::fJ):=⟨by simp[fJ],by simp[fJ],by simp[fJ],by simp[fJ]⟩
theorem passes(self:V9)(C W:Az):refuseLoop self "__setattr__" (.ref C::.ref W::fJ)=pure ():=by
 rw[refuseLoop_ref,refuseLoop_ref]
 exact PySem.F.store_ValueError.passes self
theorem ExcC.cls{K:Frag}{W C:Az}(c:ExcC K W C):∃ cd:ClassData,clsIn K C=some cd/\cd.hasDict=true/\cd.mro=.ref C::.ref W::fJ:=by
 obtain ⟨nm,q,N,bs,sn,sub,ab,col,dd,k0,k1,k2,k3,k5,e⟩:=c.lk
 exact ⟨_,by unfold clsIn;rw[e],rfl,rfl⟩
theorem ExcC.mro{K:Frag}{W C:Az}(c:ExcC K W C)(b:V9):mroIn K C b=some ((Value.ref C::.ref W::fJ).contains b):=by
 obtain ⟨cd,h1,_,a⟩:=c.cls
 unfold mroIn
 rw[h1,BI,a]
 rfl
section
variable{prog:P9}{w:W9}{A:U9}{E:V9->S9->Prop}{s:S9}{K:Frag}{W C x:Az}{name:Str}{v:V9}{vs:Array V9}
theorem vM{od:O9 Az}{o:O9 Obj}{tk:Tok}{R:Result->S9->Prop}(X:K.In s.heap)(c:ExcC K W C)(g:findIn K (.ref C) name=some none)(I:InstAt s.heap x ⟨.ref C,od,.fields vs,#[]⟩ C o)
  (h:wpAny (model prog w) A.in1 (storeInOwnDict (.ref x) (.ref C) (.str name tk) name v false)
   (fun fin s'=>match fin with | .done f=>R (.ok f) s' | .again c'=>c'.quiet=true/\codeAny (model prog w) A c' R s') (fun e s'=>R (.error e) s') s) :
  codeAny (model prog w) A (.call (.builtin "object.__setattr__") ⟨[.ref x,.str name tk,v],[]⟩) R s:=by
 have b:=PySem.F.store_object
 obtain ⟨cd,d,hdct,a⟩:=c.cls
 have sub:Looks (model prog w) s.heap (isInstance (.ref x) (.type "object")) true:=I.type.andThen (looks_mroIn X (by rw[c.mro];simp[fJ]))
 refine EB b.slot.plain b.entry (@check_slot (model prog w) _ _ s "object.__setattr__" "object" "__setattr__" (.ref x) [.str name tk,v] [] _ b.kind b.split sub (b.args (.ref x) (.str name tk) v) ?_)
 have i:Looks (model prog w) s.heap (mroOf (.ref C)) cd.mro:=(looks_clsIn X d).andThen .now
 rw[osa_eq,refuse_eq]
 refine AA (AA (I.type.here (AA (i.here ?_))))
 rw[a,passes]
 exact AD (AA (I.type.here (AA ((looks_findIn X g).here (AA (AD h))))))
theorem yI{Q:Unit->S9->Prop}(X:K.In s.heap)(c:ExcC K W C)(G:findIn K (.ref C) name=some none)(hx:s.heap.get? x=some ⟨.ref C,none,.fields vs,#[]⟩)
  (h:∀ h' tk',h'.get? x=some ⟨.ref C,some s.heap.objs.size,.fields vs,#[]⟩->h'.Ns1 s.heap.objs.size (fun y=>if y=name then some v else none)->(∀ b o,b≠x->s.heap.get? b=some o->h'.get? b=some o)->Q () {s with heap:=h',toks:=tk'}) :
  wpAny (model prog w) A (setAttr (.ref x) name v) Q E s:=by
 have I:InstAt s.heap x ⟨.ref C,none,.fields vs,#[]⟩ C none:=⟨hx,rfl,rfl,trivial⟩
 refine set_plain X I c.sa (vM (s:={s with toks:=s.toks+1}) X c G I ?_)
 obtain ⟨cd,D,hdct,r⟩:=c.cls
 obtain ⟨f,g,d,t,os⟩:=s
 have hx:f.get? x=some ⟨.ref C,none,.fields vs,#[]⟩:=hx
 unfold storeInOwnDict
 refine AA (AD ?_)
 show wpAny _ _ (ownDictForStores (.ref x) >>= _) _ _ _
 refine AA ?_
 show wpAny _ _ (instanceDict x true) _ _ _
 unfold instanceDict
 refine AA (E7 hx (AA ((looks_clsIn (M:=model prog w) X D).at ?_)))
 rw[hdct]
 have a:(f.push {cls:=.type "dict",data:=.dict #[]}).get? x=some ⟨.ref C,none,.fields vs,#[]⟩:=AE _ hx
 have i:x≠f.objs.size:=A3 (AG hx)
 refine AA (wpAny_alloc' ?_)
 refine AA (wpAny_update' a ?_)
 refine AD ?_
 have l:((f.push {cls:=.type "dict",data:=.dict #[]}).update x fun o=>{cls:=o.cls,dict:=some f.objs.size,data:=o.data,slots:=o.slots}).get? f.objs.size
   = some {cls:=.type "dict",data:=.dict #[]}:=
  (Heap.get?_update_ne _ _ _ _ i.symm).trans (Heap.get?_push_at rfl rfl)
 have q:((f.push {cls:=.type "dict",data:=.dict #[]}).update x fun o=>{cls:=o.cls,dict:=some f.objs.size,data:=o.data,slots:=o.slots}).Ns f.objs.size (fun _=>none):=
  ⟨_,#[],_,l,rfl,fun e F=>absurd F (by simp),fun _=>rfl⟩
 show wpAny _ _ (storeInDict f.objs.size (.str name t) name v) _ _ _
 unfold storeInDict newKeyGuard
 refine AA (AD (AA (wpAny_nsSet1 (Heap.Ns1.of_empty q) fun h' j u=>?_)))
 obtain ⟨J,H,B,p,m,n⟩:=j.count (Within.cons name v Within.nil)
 refine AA (wpAny_lookBehind p (by rw[m];exact pastItsLine_dict (A4 n (by rw[AH,AV,D0];omega))) ?_)
 refine AD (h h' _ ?_ j fun b o k z=>?_)
 .exact (u.2 x i).trans (CF _ a rfl)
 .exact (u.2 b (A3 (AG z))).trans ((Heap.get?_update_ne _ _ _ _ k).trans (AE _ z))
theorem aAR{Q:Unit->S9->Prop}{dx:Az}{mA:Str->O9 V9}{ns:List Str}(X:K.In s.heap)(c:ExcC K W C)(o:findIn K (.ref C) name=some none)(hx:s.heap.get? x=some ⟨.ref C,some dx,.fields vs,#[]⟩)
  (q:dx≠x) (b:s.heap.Ns1 dx mA) (hw:Within mA ns) (hsz:ns.length<=sizeLine)
  (h:∀ h' tk',h'.Ns1 dx (fun y=>if y=name then some v else mA y)->Heap.SameBut dx s.heap h'->Q () {s with heap:=h',toks:=tk'}) :
  wpAny (model prog w) A (setAttr (.ref x) name v) Q E s:=by
 obtain ⟨od,e,_⟩:=L2.j4 b
 have I:InstAt s.heap x ⟨.ref C,some dx,.fields vs,#[]⟩ C (some od):=⟨hx,rfl,rfl,e⟩
 refine set_plain X I c.sa (vM (s:={s with toks:=s.toks+1}) X c o I ?_)
 obtain ⟨cd,m,hdct,k⟩:=c.cls
 obtain ⟨n,g,d,t,os⟩:=s
 have hx:n.get? x=some ⟨.ref C,some dx,.fields vs,#[]⟩:=hx
 unfold storeInOwnDict
 refine AA (AD ?_)
 show wpAny _ _ (ownDictForStores (.ref x) >>= _) _ _ _
 refine AA ?_
 show wpAny _ _ (instanceDict x true) _ _ _
 unfold instanceDict
 refine AA (E7 hx (AA ((looks_clsIn (M:=model prog w) X m).at ?_)))
 rw[hdct]
 refine AD ?_
 show wpAny _ _ (storeInDict dx (.str name t) name v) _ _ _
 unfold storeInDict newKeyGuard
 refine AA (AD (AA (wpAny_nsSet1 b fun h' a p=>?_)))
 obtain ⟨u,r,l,j,f,i⟩:=a.count (Within.cons name v hw)
 refine AA (wpAny_lookBehind j (by rw[f];exact pastItsLine_dict (A4 i (by rw[AH];omega))) ?_)
 exact AD (h h' _ a p)
theorem yJ{od:O9 Az}{o:O9 Obj}{tk:Tok}{r:V9}{Q:Fin->S9->Prop}(X:K.In s.heap)(I:InstAt s.heap x ⟨.ref C,od,.fields vs,#[]⟩ C o)(f:findObj K C o name=some (.value r))(b:Q (.done (.ret r)) s) :
  wpAny (model prog w) A (Builtin.«object.__getattribute__» ⟨[.ref x,.str name tk],[]⟩) Q E s:=by
 obtain ⟨e,g,d,t,os⟩:=s
 have c:=I.type (M:=model prog w)
 have a:=looks_find (M:=model prog w) X I f
 refine AA (AD (AA (AD ?_)))
 exact AA (c.at (AA (a.at (AD b))))
theorem aF3{od:O9 Az}{o:O9 Obj}{tk:Tok}{r:V9}{e a:Bool}{Q:V9->S9->Prop}(X:K.In s.heap)(c:ExcC K W C)(I:InstAt s.heap x ⟨.ref C,od,.fields vs,#[]⟩ C o)(k:findObj K C o name=some (.value r))(j:handedIn r=true)(n:Q r s) :
  wpAny (model prog w) A (getAttrBy (.ref x) (.str name tk) e a) Q E s:=by
 obtain ⟨i,g,d,t,os⟩:=s
 have h:=I.type (M:=model prog w)
 have l:=looks_findIn (M:=model prog w) X c.ga
 have m:=looks_findIn (M:=model prog w) X c.gh
 have sub:Looks (model prog w) i (isInstance (.ref x) (.type "BaseException")) true:=h.andThen (looks_mroIn X (by rw[c.mro];simp[fJ]))
 unfold getAttrBy
 refine CB (AA (h.at (AA (l.at ?_))))
 show wpAny _ _ (getAttrByItsOwn _ _ _ _ _ _) _ _ _
 unfold getAttrByItsOwn
 refine AA ?_
 show wpAny _ _ (typeLookup (.ref C) "__getattr__") _ _ _
 refine m.at (AA (FC (CB ?_)))
 have f:(a && onTheHeap (Value.builtin "BaseException.__getattribute__"))=false:=by cases a<;>rfl
 unfold callGetattribute
 rw[f,AM BQ]
 unfold boundAndCalled
 rw[CU.ga.bind]
 refine AA (AD ?_)
 have p:builtinKind "BaseException.__getattribute__"=some .slot:=by decide +kernel
 have b:splitId "BaseException.__getattribute__"=some ("BaseException","__getattribute__"):=by decide +kernel
 refine DT (EB CU.ga.plain E8 (@check_slot (model prog w) _ _ _ "BaseException.__getattribute__" "BaseException" "__getattribute__" (.ref x) [.str name tk] [] _ p b sub (PySem.F.args_bexc_ga (.ref x) (.str name tk)) ?_))
 refine yJ X I k ?_
 show wpAny _ _ (handedOut r) _ _ _
 rw[handedOut_of j]
 exact AD n
theorem aDF{od:O9 Az}{o:O9 Obj}{r:V9}{a:Bool}{Q:V9->S9->Prop}(X:K.In s.heap)(c:ExcC K W C)(I:InstAt s.heap x ⟨.ref C,od,.fields vs,#[]⟩ C o)(b:findObj K C o name=some (.value r))(d:handedIn r=true)(e:Q r {s with toks:=s.toks+1}) :
  wpAny (model prog w) A (getAttr (.ref x) name a) Q E s:=by
 unfold getAttr
 exact AA (wpAny_mkText (aF3 (s:={s with toks:=s.toks+1}) X c I b d e))
theorem yK{od:O9 Az}{o:O9 Obj}{Q:O9 V9->S9->Prop}(X:K.In s.heap)(c:ExcC K W C)(I:InstAt s.heap x ⟨.ref C,od,.fields vs,#[]⟩ C o)(h:Q (some (.ref C)) {s with toks:=s.toks+1}) :
  wpAny (model prog w) A (getAttr? (.ref x) "__class__") Q E s:=by
 obtain ⟨f,g,d,t,os⟩:=s
 obtain ⟨cd,e,hdct,i⟩:=c.cls
 have b:=I.type (M:=model prog w)
 have k:=looks_findIn (M:=model prog w) X c.ga
 have l:=looks_findIn (M:=model prog w) X c.gh
 have sub:Looks (model prog w) f (isInstance (.ref x) (.type "BaseException")) true:=b.andThen (looks_mroIn X (by rw[c.mro];simp[fJ]))
 have j:findObj K C o "__class__"=some (.bind (.builtin "getset_descriptor.__get__") (.builtin "object.__class__")):=by
  unfold findObj
  rw[e,BI,c.cl,BI]
  simp only[c.clg,c.clt,BI]
 have m:=looks_find (M:=model prog w) X I j
 unfold getAttr?
 refine AA (wpAny_mkText ?_)
 unfold getAttrBy?
 refine AA (FC ?_)
 unfold getAttrBy
 refine CB (AA (b.at (AA (k.at ?_))))
 show wpAny _ _ (getAttrByItsOwn _ _ _ _ _ _) _ _ _
 unfold getAttrByItsOwn
 refine AA ?_
 show wpAny _ _ (typeLookup (.ref C) "__getattr__") _ _ _
 refine l.at (AA (FC (CB ?_)))
 unfold callGetattribute
 rw[show (false && onTheHeap (Value.builtin "BaseException.__getattribute__"))=false from rfl,AM BQ]
 unfold boundAndCalled
 rw[CU.ga.bind]
 refine AA (AD ?_)
 have n:builtinKind "BaseException.__getattribute__"=some .slot:=by decide +kernel
 have a:splitId "BaseException.__getattribute__"=some ("BaseException","__getattribute__"):=by decide +kernel
 refine DT (EB CU.ga.plain E8 (@check_slot (model prog w) _ _ _ "BaseException.__getattribute__" "BaseException" "__getattribute__" (.ref x) [.str "__class__" t] [] _ n a sub (PySem.F.args_bexc_ga (.ref x) (.str "__class__" t)) ?_))
 refine AA (AD (AA (AD ?_)))
 refine AA (b.at (AA (m.at ?_)))
 show wpAny _ _ (holding [.builtin "object.__class__"] (call (.builtin "getset_descriptor.__get__") [.builtin "object.__class__",.ref x,.ref C]) >>= ret) _ _ _
 refine AA (CB (DT (class_get (s:=⟨f,g,d,t+1,os⟩) X I (by rw[c.mro];simp[fJ]) ?_)))
 refine AD ?_
 show wpAny _ _ (handedOut (.ref C)) _ _ _
 exact AD (AD h)
theorem aAS{od:O9 Az}{o:O9 Obj}(c:ExcC K W C):KitX K (.ref x) (.ref C) (fun h=>InstAt h x ⟨.ref C,od,.fields vs,#[]⟩ C o) where
 ty:=fun _ _ _ I=>I.type
 it:=fun _ _ X _=>by
  obtain ⟨nm,q,N,bs,sn,sub,ab,col,dd,k0,k1,k2,k3,k5,e⟩:=c.lk
  intro l m j s' k q
  unfold isType loadHead
  exact AA (E7 (k _ _ (X _ _ e)) (AD q))
 ne:=fun h f dd b n i X a=>by
  obtain ⟨nm,q,N,bs,sn,sub,ab,col,dd,k0,k1,k2,k3,k5,e⟩:=c.lk
  refine Bool.eq_false_iff.mpr fun q=>?_
  have g:C=f:=Value.ref.inj (EA.mp q)
  subst g
  have z:=(X _ _ e).symm.trans a
  have d:Value.type "type"=Value.type "tuple":=D2 Obj.cls (BP z)
  exact absurd (Value.type.inj d) (by decide)
 ca:=fun X I k=>yK X c I k
theorem oW{od:O9 Az}{o:O9 Obj}{a:V9}{b:Bool}{Q:V9->S9->Prop}(X:K.In s.heap)(c:ExcC K W C)(I:InstAt s.heap x ⟨.ref C,od,.fields vs,#[]⟩ C o)(e:kitOne K (.ref C) a=some b)(h:∀ tk,Q (.bool b) {s with toks:=tk}) :
 wpAny (model prog w) A (call (.builtin "isinstance") [.ref x,a]) Q E s:=kia_one (aAS c) X I e (fun z=>nomatch z) h
end
end SX
namespace SX
open PySem PySem.W
def n4(h:H9)(vs:Array V9)(e:Az)(T:O9 Az):Prop:=
 match T with
 | none=>vs[1]? = some .none
 | some t=>vs[1]? = some (.ref t)/\t≠e/\∃ oT ts x,h.get? t=some oT/\oT.data=.fields ts/\ts[3]? = some x
section
variable{M:Model}{A:U9}{E:V9->S9->Prop}{s:S9}
structure Noted(FL:List Az)(e:Az)(T:Option Az)(C:Az)(od:Option Az)(h h':Heap)(T':Option Az):Prop where
 keep:∀ b o,b∉FL->b≠e->(∀ t,T=some t->b≠t)->h.get? b=some o->h'.get? b=some o
 slot:∀ b o,b∈FL->h.get? b=some o->∃ sl,h'.get? b=some {o with slots:=sl}
 exc:∃ vs,h'.get? e=some ⟨.ref C,od,.fields vs,#[]⟩/\n4 h' vs e T'
 new:(∃ t,T'=some t/\h.objs.size<=t)\/(T'=T/\T≠none)
 there:∀ t o,T=some t->h.get? t=some o->∃ o',h'.get? t=some o'
theorem aAT{base:H9}{env:Env}{outer:List Env}{L e C:Az}{od:O9 Az}{vs:Array V9}{T:O9 Az}{Q:Unit->S9->Prop}
  (Y:A.frames=some (env::outer)) (hl:s.heap.FunFrames base (env::outer)) (hf:env.frame=some L) (H:s.heap.get? e=some ⟨.ref C,od,.fields vs,#[]⟩) (R:n4 s.heap vs e T)
  (h:∀ h' T',T'≠none->Noted ((env::outer).filterMap (·.frame)) e T C od s.heap h' T'->Q () {s with heap:=h'}) :
  wpAny M A (noteFrame (.ref e) env) Q E s:=by
 have K:∀ b∈(env::outer).filterMap (·.frame),∃ o,s.heap.get? b=some o/\∀ vs,o.data≠.fields vs:=fun b f=>(hl.mem f).2
 have w:e∉(env::outer).filterMap (·.frame):=fun V=>by
  obtain ⟨o,r,m⟩:=K e V
  rw[H] at r;injection r with r;subst r;exact m vs rfl
 have P:1 < vs.size:=by
  unfold n4 at R
  cases T with
  | none=>exact (CV.mp R).1
  | some t=>exact (CV.mp R.1).1
 have make:∀ (v:H9) (i:V9) (g:Bool),v.FunFrames base (env::outer)->v.objs.size=s.heap.objs.size->v.get? e=some ⟨.ref C,od,.fields vs,#[]⟩->
   (∀ b o,(∀ t,T=some t->b≠t)->s.heap.get? b=some o->v.get? b=some o)->(∀ t o,T=some t->s.heap.get? t=some o->∃ o',v.get? t=some o'/\t∉(env::outer).filterMap (·.frame)/\t≠e)->
   wpAny M A (do let a <-frameOf env;let u <-entryPlaceOf L g;let b <-EntryCells.newEntry i a .none (rawInt L) .none u;setField (.ref e) 1 b) Q E {s with heap:=v}:=by
  intro v i g U X W kp tp
  refine AA (wpAny_frameOf_fun (s:={s with heap:=v}) Y U hf fun c d=>?_)
  refine AA (wpAny_entryPlaceOf fun u O=>?_)
  unfold EntryCells.newEntry newFields
  refine AA (B5 ?_ (O.sizeOk5 _ _ _ _ _))
  have p:c.get? e=some ⟨.ref C,od,.fields vs,#[]⟩:=(d.2.1 e w).trans W
  have l:=AE (h:=c) {cls:=.type "traceback",dict:=none,data:=.fields ([i,.ref L,.none,rawInt L,.none]++(if u.isEmpty then List.replicate 6 Value.none else u)).toArray} p
  refine DU l rfl P ?_
  have N:c.objs.size≠e:=CA (AG p)
  have y:=CF (Obj.mapFields (·.setIfInBounds 1 (Value.ref c.objs.size))) l rfl
  have B:=(DE (c.push {cls:=.type "traceback",dict:=none,data:=.fields ([i,.ref L,.none,rawInt L,.none]++(if u.isEmpty then List.replicate 6 Value.none else u)).toArray})
   (Obj.mapFields (·.setIfInBounds 1 (Value.ref c.objs.size))) (BO N)).trans (A7 c rfl)
  have n:∀ b o,b≠e->c.get? b=some o->
    ((c.push {cls:=.type "traceback",dict:=none,data:=.fields ([i,.ref L,.none,rawInt L,.none]++(if u.isEmpty then List.replicate 6 Value.none else u)).toArray}).update e (Obj.mapFields (·.setIfInBounds 1 (Value.ref c.objs.size)))).get? b=some o:=
   fun b o D f=>by
    rw[DE _ _ (BO D)]
    exact AE _ f
  refine h _ (some c.objs.size) (by simp) ⟨fun b o f D G q=>?_,fun b o f q=>?_,⟨vs.setIfInBounds 1 (.ref c.objs.size),?_,?_⟩,.inl ⟨_,rfl,by rw[d.1,X];exact AI _⟩,fun t o e1 e2=>?_⟩
  .exact n b o D ((d.2.1 b f).trans (kp b o G q))
  .have G:∀ t,T=some t->b≠t:=fun t e1 z=>by
    obtain ⟨o',S,z2,_⟩:=tp t o e1 (z▸q)
    exact z2 (z▸f)
   obtain ⟨sl,S⟩:=d.2.2 b o (kp b o G q)
   exact ⟨sl,n b _ (fun z=>w (z▸f)) S⟩
  .exact y
  .refine ⟨by simp[P],N,_,_,rawInt L,B,rfl,by first|(simp;done)|(rcases O with rfl|⟨_,_,_,_,_,_,_,rfl⟩<;>simp)⟩
  .obtain ⟨o',S,z2,z3⟩:=tp t o e1 e2
   exact ⟨o',n t o' z3 ((d.2.1 t z2).trans S)⟩
 unfold noteFrame
 simp only[hf]
 cases T with
 | none=>
  refine AA (B4 H rfl R ?_)
  rw[AM (by decide)]
  exact make s.heap .none _ hl rfl H (fun b o _ q=>q) (fun t o e1=>nomatch e1)
 | some t=>
  obtain ⟨J,F,oT,ts,x,I,k,Z⟩:=R
  have ac:t∉(env::outer).filterMap (·.frame):=fun V=>by
   obtain ⟨o,r,m⟩:=K t V
   rw[I] at r;injection r with r;subst r;exact m ts k
  refine AA (B4 H rfl J ?_)
  rw[AK (show (Value.ref t != Value.none)=true from by simp)]
  refine AA (B4 I k Z ?_)
  by_cases hx:(x == rawInt L)=true
  .rw[AK hx]
   refine AD (h s.heap (some t) (by simp) ⟨fun b o _ _ _ q=>q,fun b o _ q=>⟨o.slots,q⟩,⟨vs,H,J,F,oT,ts,x,I,k,Z⟩,.inr ⟨rfl,by simp⟩,fun t' o e1 q=>⟨o,q⟩⟩)
  .rw[AM hx]
   refine AA (DU I k (CV.mp Z).1 ?_)
   have j:∀ b,b≠t->(s.heap.update t (Obj.mapFields (·.setIfInBounds 3 Value.none))).get? b=s.heap.get? b:=fun b f=>DE _ _ (BO f)
   have aa:=CF (Obj.mapFields (·.setIfInBounds 3 Value.none)) I (D7 (DD k _))
   refine make (s.heap.update t (Obj.mapFields (·.setIfInBounds 3 Value.none))) _ _ (hl.of_keeps fun b o f m=>⟨o,(j b fun q=>?_).trans f,rfl⟩) (C7 ..).1 ((j e (BO F)).trans H) (fun b o f q=>(j b (f t rfl)).trans q) (fun t' o e1 q=>?_)
   .rw[q,I] at f;injection f with f;subst f;exact m ts k
   .cases e1
    exact ⟨_,aa,ac,F⟩
theorem wV{e C t:Az}{od:O9 Az}{vs:Array V9}{fr:O9 Az}{Q:Unit->S9->Prop}(j:s.heap.get? e=some ⟨.ref C,od,.fields vs,#[]⟩)(i:n4 s.heap vs e (some t))
  (h:∀ h',Heap.SameBut t s.heap h'->n4 h' vs e (some t)->Q () {s with heap:=h'}):wpAny M A (setFlight (.ref e) fr) Q E s:=by
 obtain ⟨c,d,l,k,x,f,a,g⟩:=i
 unfold setFlight
 refine AA (B4 j rfl c ?_)
 rw[AK (show (Value.ref t != Value.none)=true from by simp)]
 have b:=(CV.mp g).1
 refine DU f a b (h _ (C7 ..) ⟨c,d,_,_,_,CF _ f (D7 (DD a _)),DD a _,Array.getElem?_setIfInBounds_self_of_lt b⟩)
end
end SX
namespace L2
open PySem PySem.Spec PyProof.Rows
def ExN(e C:Az)(od:O9 Az):HO:=.ext fun h=>∃ vs,h.get? e=some ⟨.ref C,od,.fields vs,#[]⟩/\vs[1]? = some .none
def ExO(e C:Az)(od:O9 Az):HO:=.ext fun h=>∃ vs,h.get? e=some ⟨.ref C,od,.fields vs,#[]⟩
section
variable{P:P9}{w:W9}{H:Hp}{h:H9}{e C:Az}{od:O9 Az}
theorem yL{vs:Array V9}(a:h.get? e=some ⟨.ref C,od,.fields vs,#[]⟩)(b:vs[1]? = some .none):bP P w H h e (ExN e C od):=
 ⟨⟨vs,a,b⟩,⟨_,a⟩,fun h1 h2 ⟨vs,a,b⟩ k=>⟨vs,k _ a,b⟩⟩
theorem yM{vs:Array V9}(a:h.get? e=some ⟨.ref C,od,.fields vs,#[]⟩):bP P w H h e (ExO e C od):=
 ⟨⟨vs,a⟩,⟨_,a⟩,fun h1 h2 ⟨vs,a⟩ k=>⟨vs,k _ a⟩⟩
theorem sO(ok:HOk P w H h)(q:H e=some (ExN e C od)):∃ vs,h.get? e=some ⟨.ref C,od,.fields vs,#[]⟩/\vs[1]? = some .none:=(ok e _ q).1
theorem oX(ok:HOk P w H h)(q:H e=some (ExO e C od)):∃ vs,h.get? e=some ⟨.ref C,od,.fields vs,#[]⟩:=(ok e _ q).1
end
structure FlyAt(X:Cx)(H:Hp)(h:Heap)(e C:Az)(od:Option Az)(traced:Bool):Prop where
 tr:H e=some (ExO e C od)
 tb:∃ vs T,h.get? e=some ⟨.ref C,od,.fields vs,#[]⟩/\SX.n4 h vs e T/\(∀ t,T=some t->H t=none/\X.s₀.heap.objs.size<=t/\∀ p∈X.pn,p.1≠t)/\(traced=true->T≠none)
def Fly(X:Cx)(E:XK)(ev:V9)(s':S9):Prop:=∃ e C od σ H',ev=.ref e/\Inv X [] σ H' s'/\FlyAt X H' s'.heap e C od false/\E (.ref C) (some e) H'
abbrev Cx.fly(X:Cx)(E:XK):Cx:=X.wish (Fly X E)
def j5(X:Cx):Prop:=X.stack=X.env::X.outer/\X.env.frame=some X.env.locals
section
variable{X:Cx}{σ:St}{H:Hp}{s:S9}{e C:Az}{od:O9 Az}{b:Bool}
theorem sP(I:Inv X [] σ H s){t:Az}{d:Obj}{g:Array V9}(e:s.heap.get? t=some d)(f:d.data=.fields g):t≠X.env.locals/\(∀ x c,X.env.cells.lookup x=some c->c≠t):=by
 refine ⟨fun z=>?_,fun x c q z=>?_⟩
 .obtain ⟨m,⟨o,es,h,b,a,_⟩,_⟩:=I.loc
  rw[<-z,e] at b;cases b;rw[f] at a;cases a
 .obtain ⟨v,o,b,a⟩:=I.cell x c q
  rw[z,e] at b;cases b;rw[f] at a;cases a
theorem lB{Q:Unit->S9->Prop}{E':V9->S9->Prop}(hO:j5 X)(I:Inv X [] σ H s)(f:FlyAt X H s.heap e C od b)(h:∀ s',Inv X [] σ H s'->FlyAt X H s'.heap e C od true->Q () s') :
  wpAny (model X.prog X.w) X.A (noteFrame (.ref e) X.env) Q E' s:=by
 obtain ⟨k,y⟩:=hO
 obtain ⟨vs,T,he,K,J,_⟩:=f.tb
 have F:X.A.frames=some (X.env::X.outer):=by rw[<-k];exact I.ok.frames
 have hl:s.heap.FunFrames X.base (X.env::X.outer):=by have:=I.stack;rw[k] at this;exact this
 have B:(X.env::X.outer).filterMap (·.frame)=X.env.locals::X.fs:=by rw[C6,y];rfl
 refine SX.aAT (T:=T) F hl y he K fun h' W G N=>?_
 rw[B] at N
 have trk:∀ c u,H c=some u->c∉X.env.locals::X.fs:=fun c u q z=>by
  have:=I.stkFree c (by unfold frs;rw[k,B];exact z)
  rw[q] at this;cases this
 have R:∀ c u,H c=some u->∀ t,T=some t->c≠t:=fun c u q t e1 z=>by
  have:=(J t e1).1
  rw[<-z,q] at this;cases this
 have l:HOk X.prog X.w H h':=fun c u q=>by
  by_cases d:c=e
  .subst d
   rw[f.tr] at q;cases q
   obtain ⟨j,a,_⟩:=N.exc
   exact yM a
  .refine (I.hok c u q).stay (fun L v i a=>N.keep L v ?_ ?_ ?_ a) (fun _ q=>q) (fun _ _ q=>q) fun _ _ q=>q
   .rcases i with z|z
    .rw[z];exact trk c u q
    .exact trk L _ z
   .rcases i with z|z
    .rw[z];exact d
    .intro V;rw[V,f.tr] at z;cases z
   .rcases i with z|z
    .rw[z];exact R c u q
    .exact R L _ z
 have Y:Inv X [] σ H {s with heap:=h',gens:=s.gens,drawn:=s.drawn,toks:=s.toks}:=by
  refine I.step (ch:=T.toList) (fun c d=>?_) (fun c o h1 h2 D q n=>?_) (fun c o h1 h2 D q n=>N.slot c o (AL _ h2) q) (fun _ _ _ _ n=>n) (fun c o D q=>?_) (fun _ _ q=>q) (fun _ _ _ q=>q) (fun _ _ q=>q) (fun m hm=>?_) l I.bare
  .have e1:T=some c:=by cases T<;>simp at d;rw[d]
   obtain ⟨t1,P,t3⟩:=J c e1
   rw[e1] at K
   obtain ⟨_,_,oT,ts,x,O,M,_⟩:=K
   obtain ⟨a1,a2⟩:=sP I O M
   exact ⟨.inr P,a1,a2,fun p E=>t3 p (by simpa using E)⟩
  .refine N.keep c o ?_ ?_ ?_ q
   .intro z
    rcases AT.mp z with z|z
    .exact h1 z
    .exact h2 z
   .intro z;rw[z,f.tr] at n;cases n
   .intro t e1 z;exact D (by rw[e1,z];simp)
  .by_cases d:c=e
   .subst d
    obtain ⟨j,a,_⟩:=N.exc
    exact ⟨_,a⟩
   .by_cases S:c∈X.env.locals::X.fs
    .obtain ⟨sl,a⟩:=N.slot c o S q
     exact ⟨_,a⟩
    .exact ⟨o,N.keep c o S d (fun t e1 z=>D (by rw[e1,z];simp)) q⟩
  .obtain ⟨o,es,ep,U,r⟩:=hm
   obtain ⟨sl,a⟩:=N.slot _ o AX U
   exact ⟨_,es,ep,a,r⟩
 refine h _ Y ⟨f.tr,?_⟩
 obtain ⟨j,a,Z⟩:=N.exc
 refine ⟨j,W,a,Z,fun t e1=>?_,fun _=>G⟩
 rcases N.new with ⟨P,e2,g⟩|⟨e2,_⟩
 .rw[e1] at e2;cases e2
  refine ⟨I.hok.fresh g,A4 I.sz g,fun p E z=>?_⟩
  have:=AG (I.pin p (CH _ E)).1
  rw[z] at this
  exact absurd (AN this g) (BF _)
 .exact J t (e2▸e1)
theorem kO{Q:Unit->S9->Prop}{E:V9->S9->Prop}{fr:O9 Az}{A:U9}(I:Inv X [] σ H s)(f:FlyAt X H s.heap e C od true)(h:∀ s',Inv X [] σ H s'->FlyAt X H s'.heap e C od true->Q () s') :
  wpAny (model X.prog X.w) A (setFlight (.ref e) fr) Q E s:=by
 obtain ⟨vs,T,m,l,D,v⟩:=f.tb
 cases T with
 | none=>exact absurd rfl (v rfl)
 | some t=>
  obtain ⟨k,i,j⟩:=D t rfl
  refine SX.wV m l fun h' n c=>?_
  obtain ⟨_,a,F,G,x,g,d,_⟩:=l
  obtain ⟨y,B⟩:=sP I g d
  have u:Inv X [] σ H {s with heap:=h'}:=I.turned (t':=s.toks) (it:=t) (fun b o z q=>(n.2 b z).trans q) k y (.inr i) B fun p r=>j p (by simpa using r)
  exact h _ u ⟨f.tr,vs,some t,(n.2 e (BO a)).trans m,c,fun t' e1=>by cases e1;exact ⟨k,i,j⟩,fun _=>by simp⟩
theorem yN{Q:V9->S9->Prop}{b:V9->S9->Prop}{A:U9}(f:FlyAt X H s.heap e C od true)(h:∀ t,Q (.ref t) s):wpAny (model X.prog X.w) A (field (.ref e) 1) Q b s:=by
 obtain ⟨vs,T,d,c,g,a⟩:=f.tb
 cases T with
 | none=>exact absurd rfl (a rfl)
 | some t=>exact B4 d rfl c.1 (h t)
theorem gH{E:XK}(j:j5 X):PassesOwn (model X.prog X.w) X.A X.env (Fly X E):=by
 rintro m s' ⟨e,C,od,σ,H,rfl,I,f,q⟩
 refine lB j I f fun k h g=>?_
 unfold cameBackBy
 refine AA (yN g fun t=>?_)
 rw[AM (by simp)]
 exact kO h g fun l i d=>⟨e,C,od,σ,H,rfl,i,⟨d.tr,let ⟨vs,T,a,b,c,_⟩:=d.tb;⟨vs,T,a,b,c,fun z=>nomatch z⟩⟩,q⟩
end
def CXe(P:P9)(w:W9):CXT:=fun outer H s E ev s'=>∃ e C od H',ev=.ref e/\s'.os=s.os/\AllBare s'.gens/\Un (frs outer) [] H H' s.heap s'.heap/\HOk P w H' s'.heap/\H' e=some (ExO e C od) /\
 (∃ vs T,s'.heap.get? e=some ⟨.ref C,od,.fields vs,#[]⟩/\SX.n4 s'.heap vs e T/\∀ t,T=some t->H' t=none/\s.heap.objs.size<=t)/\E (.ref C) (some e) H'
section
variable{X:Cx}
theorem bH{E g:XK}(h:∀ c e H,E c e H->g c e H):jT (CXe X.prog X.w) (X.fly g) E:=by
 rintro pins σ H s m s' I ⟨e,C,od,H',rfl,os,bare,un,hok,he,⟨vs,T,q1,q2,q3⟩,q⟩
 have a:Inv X pins σ H s:=I.unwish
 have l:Inv X [] σ H s:=a.pins_of fun p d=>absurd d (by simp)
 have j:Inv X [] σ H' s':=l.call' os un hok bare (fun b k=>absurd k (by simp))
 refine ⟨e,C,od,σ,H',rfl,j,⟨he,vs,T,q1,q2,fun t e1=>?_,fun z=>nomatch z⟩,h _ _ _ q⟩
 obtain ⟨i,f⟩:=q3 t e1
 refine ⟨i,A4 a.sz f,fun p d z=>?_⟩
 have:=AG (a.pin p (CH _ d)).1
 rw[z] at this
 exact absurd (AN this f) (BF _)
theorem PSs.unfly{E:XK}{st:List Stmt}{t:TS}(h:PSs (X.fly E) st t)(hx:∀ e s',Fly X E e s'->X.xe e s'):PSs X st t:=fun pins s σ H D I a=>
 BG (h pins s σ H D (I.wish _) a) (fun f s' q=>SP.unwish q) hx
end
theorem qV{P:P9}{w:W9}{K:Frag}{mg:Str->O9 V9}{base:H9}{N:List Str}{qual:Str}{scope:Scope}{f:Az}{cd:V9}{A:U9}{outer:List Env}{s:S9}{H:Hp}{E:XK}{i:V9}{s':S9}
  (h:Fly (dS (CXe P w) P w K mg base N qual scope f cd A outer s H E) E i s'):(dS (CXe P w) P w K mg base N qual scope f cd A outer s H E).xe i s':=by
 obtain ⟨e,C,od,σ,H',rfl,I,l,q⟩:=h
 show wpAny (model P w) _ (leaving _ (.ref e)) _ _ s'
 unfold leaving
 have m:j5 (dS (CXe P w) P w K mg base N qual scope f cd A outer s H E):=⟨rfl,rfl⟩
 refine AA (lB m I l fun n j k=>kO j k fun o d g=>?_)
 obtain ⟨vs,T,a,b,c,_⟩:=g.tb
 exact ⟨e,C,od,H',rfl,d.os,d.bare,d.base,d.hok,g.tr,⟨vs,T,a,b,fun t e1=>⟨(c t e1).1,(c t e1).2.1⟩⟩,q⟩
section
variable{P:P9}{w:W9}{K:Frag}{mg:Str->O9 V9}{base:H9}
theorem Fun.okX{x qual:Str}{st:Stmt}{f:Az}{fd:FuncData}{N ps:List Str}{k:Nat}{sp:Sp}(F:Fun K x qual st f fd)(S:FnScope N ps (aC st))(len:∀ vs H Q E,sp vs H Q E->vs.length=ps.length)
  (a:∀ (cdv:V9) (A:U9) (outer:List Env) (s:S9) (H:Hp) (vs:List V) (Q:VK) (E:XK),Room k (A.deeper (envOfC qual (aC st) s.heap.objs.size f cdv))->sp vs H Q E->
   ∃ t,PSs ((dS (CXe P w) P w K mg base N qual (aC st) f cdv A outer s H E).fly E) (bD st) t/\t {nx:=fun _ H'=>Q .non H',rt:=Q} (start N vs) H):FnOk P w K mg base (CXe P w) (k+1) f fd ps sp:=by
 obtain ⟨j,od,kV,doc,pm,i,cdv,ct,d,rfl,e,b⟩:=F.ex
 refine wP e b S len fun A outer s H vs Q E g c=>?_
 obtain ⟨t,h,q⟩:=a cdv A outer s H vs Q E g c
 exact ⟨t,h.unfly fun _ _ z=>qV z,q⟩
end
theorem Inv.xdw{X:Cx}{pins:List (Az×Obj)}{σ:St}{H:Hp}{s:S9}{h':H9}{d:Az}{fs fs':List (Str×V)}{t':Nat}(I:Inv X pins σ H s)(a:H d=some (.xd fs))(g:Heap.SameBut d s.heap h')
  (new:bP X.prog X.w (upd H d (.xd fs')) h' d (.xd fs')):Inv X pins σ (upd H d (.xd fs')) {s with heap:=h',toks:=t'}:=by
 have i:∀ b (u:Obj),H b=none->b≠d:=fun b u e z=>by rw[z,a] at e;cases e
 refine I.un ⟨fun b o q n _ _=>(g.2 b (i b o n)).trans q,fun b o q n k=>?_,fun b o q n _=>by rw[aE (i b o n)];exact n,fun b o q _=>?_,fun b xs q=>?_,fun b o u q=>?_,fun b ps q=>?_⟩ fun b u q=>?_
 .exact fun _=>⟨o.slots,(g.2 b (i b o n)).trans q⟩
 .by_cases z:b=d
  .obtain ⟨o',e⟩:=(show ∃ o',h'.get? d=some o' from let ⟨mA,⟨o,_,_,e,_⟩,_⟩:=new;⟨o,e⟩)
   exact ⟨o',z▸e⟩
  .exact ⟨o,(g.2 b z).trans q⟩
 .rw[aE (fun z=>by rw[z,a] at q;cases q)];exact q
 .rw[aE (fun z=>by rw[z,a] at q;cases q)];exact q
 .rw[aE (fun z=>by rw[z,a] at q;cases q)];exact q
 .by_cases z:b=d
  .subst z;rw[aS] at q;cases q;exact new
  .rw[aE z] at q
   refine (I.hok b u q).stay (fun c v j r=>(g.2 c ?_).trans r) (fun c r=>?_) (fun c xs r=>?_) fun c xs r=>?_
   .rcases j with h|h
    · rw [h]; exact z
    · intro f; rw [f, a] at h; cases h
   .rw[aE (fun f=>by rw[f,a] at r;cases r)];exact r
   .rw[aE (fun f=>by rw[f,a] at r;cases r)];exact r
   .rw[aE (fun f=>by rw[f,a] at r;cases r)];exact r
def aHS(K:Frag)(ta tv:TE)(f:Str):TS:=fun D σ H=>tv σ H fun y H1=>ta σ H1 fun x H2=>∃ a W C,x=.ref a/\SX.ExcC K W C/\PySem.W.findIn K (.ref C) f=some none /\
 ((H2 a=some (ExN a C none)/\∀ d,H2 d=none->d≠a->D.nx σ (upd (upd H2 a (ExN a C (some d))) d (.xd [(f,y)]))) \/
  (∃ d fs,H2 a=some (ExN a C (some d))/\H2 d=some (.xd fs)/\fs.length < 1000/\D.nx σ (upd H2 d (.xd (pO f y fs)))))
section
variable{X:Cx}{o e value:E1}{f:Str}{pos pos':Pos}{ta tv:TE}
theorem yO{fs:List (Str×V)}{mA:Str->O9 V9}(r:∀ f,fS (fs.lookup f) (mA f)):PySem.Within mA (fs.map (·.1)):=fun y a=>by
 cases q:fs.lookup y with
 | none=>exact absurd (fS.none_of (by rw[<-q];exact r y)) a
 | some v=>exact FE.mpr ⟨(y,v),A8 q,rfl⟩
theorem aDG(ha:PE X o ta)(Y:PE X value tv)(Z:swapsWith value (some (.Attribute o f pos')) pos.line X.env=pure false):PS X (.Assign [.Attribute o f pos'] value pos) (aHS X.K ta tv f):=by
 intro pins s σ H D I h
 refine plainObj_wpAny_Assign_Attribute (thn (Y pins s σ H _ I h) fun u s1 ⟨y,H1,I1,T,q⟩=>thn (ha pins s1 σ H1 _ I1 q) fun ov m Q=>?_) Z
 obtain ⟨x,H2,l,rx,a,W,C,ex,c,n,J⟩:=Q
 subst ex
 obtain rfl:ov=Value.ref a:=rx
 rcases J with ⟨k,J⟩|⟨d,fs,k,N,hl,J⟩
 .obtain ⟨vs,M,h1⟩:=sO l.hok k
  refine SX.yI l.kIn c n M fun h' A L E P=>?_
  have fd:H2 m.heap.objs.size=none:=l.hok.fresh (AI _)
  have R:m.heap.objs.size≠a:=CA (AG M)
  refine ⟨σ,_,?_,J m.heap.objs.size fd R⟩
  have p:∀ b (u:Obj),H2 b=none->b≠a:=fun b u z V=>by rw[V,k] at z;cases z
  have i:∀ b u,H2 b=some u->b≠m.heap.objs.size:=fun b u z=>bF z fd
  have G:HOk X.prog X.w (upd (upd H2 a (ExN a C (some m.heap.objs.size))) m.heap.objs.size (.xd [(f,y)])) h':=fun b u z=>by
   by_cases U:b=m.heap.objs.size
   .subst U;rw[aS] at z;cases z
    refine ⟨_,E,fun g=>?_⟩
    show fS (List.lookup g [(f,y)]) (if g=f then some u else none)
    rw[A0]
    by_cases S:g=f
    .subst S;rw[AK rfl];simp only[CL];exact T
    .rw[AM S,B8 S];exact True.intro
   .rw[aE U] at z
    by_cases t:b=a
    .subst t;rw[aS] at z;cases z
     exact yL L h1
    .rw[aE t] at z
     refine (l.hok b u z).stay (fun B v hc r=>P B v ?_ r) (fun B r=>?_) (fun B xs r=>?_) fun B xs r=>?_
     .rcases hc with O|O
      · rw [O]; exact t
      · intro e; rw [e, k] at O; cases O
     .rw[aE (i B _ r),aE (fun e=>by rw[e,k] at r;cases r)];exact r
     .rw[aE (i B _ r),aE (fun e=>by rw[e,k] at r;cases r)];exact r
     .rw[aE (i B _ r),aE (fun e=>by rw[e,k] at r;cases r)];exact r
  refine l.un (t':=A) ⟨fun b j q n _ _=>P b j (p b j n) q,fun b j q n _ _=>⟨j.slots,P b j (p b j n) q⟩,fun b j q n _=>by rw[aE (A3 (AG q)),aE (p b j n)];exact n,fun b j q _=>?_,fun b xs q=>?_,fun b j u' q=>?_,fun b ps q=>?_⟩ G
  .by_cases z:b=a
   .subst z;exact ⟨_,L⟩
   .exact ⟨j,P b j z q⟩
  .rw[aE (i b _ q),aE (fun e=>by rw[e,k] at q;cases q)];exact q
  .rw[aE (i b _ q),aE (fun e=>by rw[e,k] at q;cases q)];exact q
  .rw[aE (i b _ q),aE (fun e=>by rw[e,k] at q;cases q)];exact q
 .obtain ⟨vs,M,h1⟩:=sO l.hok k
  obtain ⟨mA,E,r⟩:=(show bP X.prog X.w H2 m.heap d (.xd fs) from l.hok d _ N)
  have R:d≠a:=fun z=>by rw[z,k] at N;cases N
  refine SX.aAR (ns:=fs.map (·.1)) l.kIn c n M R E (yO r) (by rw[AQ,D0];omega) fun h' A F sb=>?_
  refine ⟨σ,_,l.xdw (t':=A) N sb ⟨_,F,fun g=>?_⟩,J⟩
  show fS ((pO f y fs).lookup g) (if g=f then some u else mA g)
  rw[nN]
  by_cases q:g=f
  .rw[AK q,AK q];exact T
  .rw[AM q,AM q];exact r g
def aCG(K:Frag)(ta:TE)(f:Str):TE:=fun σ H Q=>ta σ H fun x H1=>∃ a W C d fs v,x=.ref a/\SX.ExcC K W C/\PySem.W.findIn K (.ref C) f=some none/\H1 a=some (ExO a C (some d))/\H1 d=some (.xd fs)/\fs.lookup f=some v/\Q v H1
theorem pS(A:PE X e ta)(E:attributeBase e f X.env (eval e X.env)=eval e X.env):PE X (.Attribute e f pos) (aCG X.K ta f):=by
 intro pins s σ H Q I h
 refine aC3 E (thn (A pins s σ H _ I h) fun u s1 j=>?_)
 obtain ⟨x,H1,g,F,a,W,C,d,fs,v,ex,c,n,z,B,l,q⟩:=j
 subst ex
 obtain rfl:u=Value.ref a:=F
 obtain ⟨vs,D⟩:=oX g.hok z
 obtain ⟨mA,y,r⟩:=(show bP X.prog X.w H1 s1.heap d (.xd fs) from g.hok d _ B)
 obtain ⟨od,p,m⟩:=j4 y
 obtain ⟨G,i,b⟩:=fS.some_of (by rw[<-l];exact r f)
 obtain ⟨cd,k,t,_⟩:=c.cls
 refine SX.aDF (o:=some od) g.kIn c ⟨D,rfl,rfl,p⟩ (PySem.W.findObj_own (attr:=none) (by unfold PySem.W.hasDictIn;rw[k];exact t) n rfl (by rw[m,i])) (yD b) ?_
 exact ⟨v,H1,g.tok _,b,q⟩
end
inductive TyX(K:Frag)(H:Hp):V->V9->Prop where
 | pl {x:V} {t:V9} (h:TyOf K H x t):TyX K H x t
 | exc {a W C:Az} {d:Az} {fs:List (Str×V)} (c:SX.ExcC K W C) (e:H a=some (ExO a C (some d))) (ed:H d=some (.xd fs)):TyX K H (.ref a) (.ref C)
 | exc0 {a W C:Az} (c:SX.ExcC K W C) (e:H a=some (ExO a C none)):TyX K H (.ref a) (.ref C)
def n6:V->O9 V9
 | .ty n=>some (.type n)
 | .ref a=>some (.ref a)
 | _=>none
theorem pT{x:V}{u v:V9}(h:n6 x=some v)(r:aU x u):u=v:=by
 cases x with
 | ty n=>cases h;exact r
 | ref a=>cases h;exact r
 | _=>cases h
theorem cV{X:Cx}:iB X (.builtin "isinstance") (fun xs H Q=>∃ x c t cv b,xs=[x,c]/\TyX X.K H x t/\n6 c=some cv/\PySem.W.kitOne X.K t cv=some b/\Q (.bl b) H):=by
 intro pins s σ H xs us Q I r h
 obtain ⟨x,c,t,cv,b,rfl,g,m,e,q⟩:=h
 obtain ⟨u,v,rfl,i,l⟩:=oO r
 obtain rfl:=pT m l
 cases g with
 | pl g=>exact yE I i g e fun tk=>⟨.bl b,H,I.tok _,rfl,q⟩
 | @exc a W C d fs cc ea ed=>
  cases (show u=Value.ref a from i)
  obtain ⟨vs,f⟩:=oX I.hok ea
  obtain ⟨mA,k,r⟩:=(show bP X.prog X.w H s.heap d (.xd fs) from I.hok d _ ed)
  obtain ⟨od,j,_⟩:=j4 k
  exact SX.oW (o:=some od) I.kIn cc ⟨f,rfl,rfl,j⟩ e fun tk=>⟨.bl b,H,I.tok _,rfl,q⟩
 | @exc0 a W C cc ea=>
  cases (show u=Value.ref a from i)
  obtain ⟨vs,f⟩:=oX I.hok ea
  exact SX.oW (o:=none) I.kIn cc ⟨f,rfl,rfl,True.intro⟩ e fun tk=>⟨.bl b,H,I.tok _,rfl,q⟩
def sQ(C:Az)(spI:Sp)(E:XK)(ta:TA):TS:=fun _ σ H=>ta σ H fun vs H1=>vs.length<=1000/\∀ e,H1 e=none->
 spI (.ref e::vs) (upd H1 e (ExN e C none)) (fun v H2=>v=.non/\∃ od,H2 e=some (ExN e C od)/\E (.ref C) (some e) (upd H2 e (ExO e C od))) E0
section
variable{X:Cx}{E:XK}{W C fI:Az}{fdI:FuncData}{ps:List Str}{spI:Sp}{k:Nat}{x:Str}{np cpos pos:Pos}{e0:E1}{rest:List E1}{ta:TA}
theorem n8(R:X.calm=true)(c:SX.ExcC X.K W C)(hg:Gl X x)(hm:X.mg x=some (.ref C))(U:FnOk X.prog X.w X.K X.mg X.base CX0 k fI fdI ps spI)(hi:PySem.W.findIn X.K (.ref C) "__init__"=some (some (.ref fI)))
  (hf:PySem.W.typeIn X.K (.ref fI)=some (.type "function")) (hb:cU X.K fdI ps []) (hr:Room (k+1) X.A) (ha:PA (X.fly E) (e0::rest) ta) (J:(x == ("__debug__":Str))=false:=by decide)
  (he:starEach (e0::rest) X.env=(false,eval e0 X.env)::starEach rest X.env:=by rfl) (hpl:(backTo cpos (starEach rest X.env)).any (·.1)=false:=by rfl) :
  PS (X.fly E) (.Raise (some (.Call (.Name x np) (e0::rest) [] cpos)) none pos) (sQ C spI E ta):=by
 intro pins s σ H D I h
 obtain ⟨nm,q,N,bs,sn,sub,ab,col,dd,k0,k1,k2,k3,k5,lk⟩:=c.lk
 have a:wpAny (model X.prog X.w) X.A (eval (.Call (.Name x np) (e0::rest) [] cpos) X.env) (fun v s1=>∃ e od vs,v=.ref e/\s1.heap.get? C=some (excClassObj nm q C N bs (.ref W::SX.fJ) true sn sub ab col dd k0 k1 k2 k3 k5 "ValueError.__new__") /\
   s1.heap.get? e=some {cls:=.ref C,dict:=od,data:=.fields vs}/\vs[1]? = some .none/\Fly X E (.ref e) s1) (Fly X E) s:=by
  refine CO (kL (X:=X) I.unwish hg hm ?_ J)
  refine DP (h₀:=X.base) I.ok.mod.kin c.kp (thn (ha cpos pins s σ H _ I h) fun us s1 ⟨vs,H1,m,r,hz,q1⟩=>⟨m.kIn,?_⟩) he hpl
  have o:Inv X pins σ H1 s1:=m.unwish
  obtain ⟨P,g,d,tk,os⟩:=s1
  have O:us.length<=sizeLine:=by rw[<-r.length,D0];omega
  refine SX.aAQ PySem.F.excBase_ValueError (SX.sN W) o.kIn (o.kIn _ _ lk) hi hf (fun h' e f i=>?_) O
  obtain ⟨t,y,_,_⟩:=f.there
  have L:Inv X pins σ (upd H1 e (ExN e C none)) ⟨h',g,d,tk,os⟩:=o.laid (t':=tk) f.keeps i (yL y rfl)
  have T:=q1 e (o.hok.fresh i)
  have Y:aW (V.ref e::vs) (Value.ref e::us):=.cons rfl r
  have M:(Value.ref e::us++[]).length=ps.length:=by
   have z:=Y.length
   rw[U.len _ _ _ _ T] at z
   rw[BV]
   exact z.symm
  have aa:(Value.ref e::us).length=ps.length:=by rw[BV] at M;exact M
  have S:=hb ⟨h',g,d,tk,os⟩ (Value.ref e::us) L.kIn M
  rw[BV] at S
  refine DT (DO (U.run _ X.stack ⟨h',g,d,tk,os⟩ _ ⟨Value.ref e::us,[]⟩ (Value.ref e::us) (V.ref e::vs) _ E0 (hr.make C us []) (L.env0.make C us []) S Y T) fun G s' l=>?_)
  cases G with
  | error e=>exact False.elim l
  | ok fl=>
   cases fl with
   | next=>exact False.elim l
   | brk=>exact False.elim l
   | cont=>exact False.elim l
   | ret u=>
    obtain ⟨v,H3,B,rv,ev,od,Q,q3⟩:=L.after l
    subst ev
    obtain ⟨j,n,h1⟩:=sO B.hok Q
    refine ⟨rv,e,od,j,rfl,B.kIn _ _ lk,n,h1,?_⟩
    have Z:Inv X pins σ (upd H3 e (ExO e C od)) {s' with heap:=s'.heap,toks:=s'.toks}:=B.write (x:=e) (e:=e) (by rw[Q];exact True.intro) (.inl rfl) (fun b u _ z=>z) ⟨_,n⟩ (yM n)
    have I5:Inv X [] σ (upd H3 e (ExO e C od)) s':=(show Inv X pins σ _ s' from Z).pins_of fun p P=>absurd P (by simp)
    exact ⟨e,C,od,σ,_,rfl,I5,⟨aS,j,none,n,h1,(fun t z=>nomatch z),(fun z=>nomatch z)⟩,q3⟩
 show wpAny (model X.prog X.w) X.A (exec (.Raise (some (.Call (.Name x np) (e0::rest) [] cpos)) none pos) X.env) _ (Fly X E) s
 rw[arm_exec_Raise]
 first
  | refine AA (DA (SX.oV (SX.sN W) (I.ok.hd R) (AA (BG a (fun v s1 h1=>AA (DA (AD h1))) fun _ _ z=>z))))
  | (simp only[evalOpt,Option.map];refine AA (DA (SX.oV (SX.sN W) (I.ok.hd R) (AA (BG a (fun v s1 h1=>AA (DA (AD h1))) fun _ _ z=>z)))))
end
end L2
namespace SX
open PySem PySem.W
structure ExcAny(K:Frag)(C:Az)(bm:List V9):Prop where
 lk:∃ nm q N bs hd sn sub ab col dd k0 k1 k2 k3 k5 newId,K.lookup C=some (excClassObj nm q C N bs bm hd sn sub ab col dd k0 k1 k2 k3 k5 newId)
 base:bm.contains (.type "BaseException")=true
theorem ExcC.any{K:Frag}{W C:Az}(c:ExcC K W C):ExcAny K C (.ref W::fJ):=by
 obtain ⟨nm,q,N,bs,sn,sub,ab,col,dd,k0,k1,k2,k3,k5,e⟩:=c.lk
 exact ⟨⟨_,_,_,_,_,_,_,_,_,_,_,_,_,_,_,_,e⟩,(sN W).hasBase⟩
theorem uZ{M:Model}{A:U9}{E:V9->S9->Prop}{K:Frag}{C W:Az}{a h:List V9}{s:S9}{e:Az}{j:Obj}{Q:Bool->S9->Prop}(X:K.In s.heap)(c:ExcAny K C a)(w:ExcAny K W h)
  (J:s.heap.get? e=some j) (b:j.cls=.ref C) (n:Q ((Value.ref C::a).contains (.ref W)) s):wpAny M A (excMatches (.ref e) (.ref W)) Q E s:=by
 obtain ⟨nm,q,N,bs,U,sn,sub,ab,col,dd,k0,k1,k2,k3,k5,G,u⟩:=c.lk
 obtain ⟨r,S,T,F,y,B,k,L,o,P,x,H,z,p,I,m,O⟩:=w.lk
 have v:=X _ _ u
 have l:=X _ _ O
 have i:(Value.ref W::h).contains (.type "BaseException")=true:=by rw[CP,w.base,EY]
 have f:=tc_notTuple
 obtain ⟨R,g,d,t,os⟩:=s
 unfold excMatches
 repeat (first|(with_reducible refine B0 J ?_;rw[b])|with_reducible refine B0 l ?_|(with_reducible refine CK l ?_;rw[i])|with_reducible refine CK v ?_|wp_step)
 cases D:(Value.ref C::a).contains (.ref W)<;>(rw[D] at n;wp_walk;exact n)
end SX
namespace L2
open PySem PySem.Spec PyProof.Rows
abbrev Cx.pnw(X:Cx)(pn:List (Az×Obj)):Cx:={X with pn:=pn}
noncomputable abbrev Cx.inH(X:Cx)(e:Az):Cx:={X with A:=X.A.mark (some (.ref e)),calm:=false,xe:=fun _ _=>False}
section
variable{X:Cx}{pins:List (Az×Obj)}{σ:St}{H:Hp}{s:S9}{e:Az}
theorem Cx.Ok.pnw{X:Cx}(ok:X.Ok)(pn:List (Az×Obj)):(X.pnw pn).Ok:=
 ⟨ok.mod,ok.kind,ok.glob,ok.blt,ok.above,ok.inj,ok.has,ok.cab,ok.hd,ok.frames,ok.stk,ok.exf,ok.bs,ok.bsz,ok.noex,ok.exfs,ok.funs,ok.frf⟩
theorem Cx.Ok.unpn{X:Cx}{pn:List (Az×Obj)}(ok:(X.pnw pn).Ok):X.Ok:=
 ⟨ok.mod,ok.kind,ok.glob,ok.blt,ok.above,ok.inj,ok.has,ok.cab,ok.hd,ok.frames,ok.stk,ok.exf,ok.bs,ok.bsz,ok.noex,ok.exfs,ok.funs,ok.frf⟩
theorem Inv.toPn(I:Inv X pins σ H s):Inv (X.pnw (X.pn++pins)) [] σ H s:=
 ⟨I.ok.pnw _,I.os,I.bare,I.base,I.loc,I.cell,I.free,I.freeC,fun p a=>I.pin p (by
  have z:p∈(X.pn++pins)++[]:=a
  rw[BV] at z
  exact z),I.hok,I.len⟩
theorem Inv.ofPn{pl:List (Az×Obj)}(I:Inv (X.pnw (X.pn++pins)) pl σ H s):Inv X pins σ H s:=
 ⟨I.ok.unpn,I.os,I.bare,I.base,I.loc,I.cell,I.free,I.freeC,fun p a=>I.pin p (CH _ a),I.hok,I.len⟩
theorem SP.ofPn{pl:List (Az×Obj)}{E:V9->S9->Prop}{D:gY}{f:Flow}{s':S9}(h:SP ((X.pnw (X.pn++pins)).wish E) pl D f s'):SP X pins D f s':=by
 cases f with
 | next=>obtain ⟨a,b,c,d⟩:=h;exact ⟨a,b,c.unwish.ofPn,d⟩
 | brk=>obtain ⟨a,b,c,d⟩:=h;exact ⟨a,b,c.unwish.ofPn,d⟩
 | cont=>obtain ⟨a,b,c,d⟩:=h;exact ⟨a,b,c.unwish.ofPn,d⟩
 | ret u=>obtain ⟨v,a,b,c,d⟩:=h;exact ⟨v,a,b,c.unwish.ofPn,d⟩
theorem Cx.Ok.inH{X:Cx}(ok:X.Ok)(e:Az):(X.inH e).Ok:=
 ⟨ok.mod,ok.kind,ok.glob,ok.blt,ok.above,ok.inj,ok.has,ok.cab,(fun z=>nomatch z),ok.frames,ok.stk,ok.exf,ok.bs,ok.bsz,ok.noex,ok.exfs,ok.funs,ok.frf⟩
theorem Inv.inH(I:Inv X pins σ H s)(e:Az):Inv (X.inH e) pins σ H s:=
 ⟨I.ok.inH e,I.os,I.bare,I.base,I.loc,I.cell,I.free,I.freeC,I.pin,I.hok,I.len⟩
theorem Inv.ofH(ok:X.Ok)(I:Inv (X.inH e) pins σ H s):Inv X pins σ H s:=
 ⟨ok,I.os,I.bare,I.base,I.loc,I.cell,I.free,I.freeC,I.pin,I.hok,I.len⟩
theorem j6{i:Nat}{n:Str}{l:Pos}{Q:Unit->S9->Prop}{M:Model}{A:U9}{W:V9->S9->Prop}(I:Inv X pins σ H s)(S:X.N.Nodup)(hi:X.N[i]? = some n)(L:X.env.kindOf n=some .local)
  (h:∀ s',Inv X pins (σ.set i none) H s'->Q () s'):wpAny M A (do bindName X.env n .none;unbindBehindTheSuite X.env n l) Q W s:=by
 obtain ⟨m,C,U⟩:=id I.loc
 have r:(X.env.scope.kind == .class || (X.env.scope.kind == .module && X.env.locals != X.env.globals))=false:=by rw[I.ok.kind];rfl
 refine wpAny_nameGoes_keeps L C r fun h' v B a=>h _ ?_
 obtain ⟨Y,_,_,O,_⟩:=id C
 have f:∀ b o,X.s₀.heap.get? b=some o->b≠X.env.locals:=fun b o e=>A3 (AN (AG e) I.ok.above)
 refine ⟨I.ok,I.os,I.bare,⟨fun b o e n x u=>(a.2 b (f b o e)).trans (I.base.keep b o e n x u),fun b o e n x u=>?_,I.base.free,fun b o e u=>?_,I.base.tups,I.base.frzs,I.base.tbls⟩,⟨_,B,fun j y T e1 e2 G=>?_⟩,fun y c e=>?_,I.free,I.freeC,fun p F=>?_,fun b P e=>?_,by simpa using I.len⟩
 .obtain ⟨J,e1⟩:=I.base.slot b o e n x u
  exact ⟨J,(a.2 b (f b o e)).trans e1⟩
 .obtain ⟨o',e1⟩:=I.base.there b o e u
  exact ⟨o',(a.2 b (f b o e)).trans e1⟩
 .by_cases w:j=i
  .subst w
   have t:j < σ.length:=by rw[I.len];exact (AU.mp hi).1
   rw[BR t] at e2;cases e2
  .rw[A9 (BO w)] at e2
   obtain ⟨V,R,q⟩:=U j y T e1 e2 G
   refine ⟨V,R,?_⟩
   rcases q with ⟨k,e⟩|⟨k,c,e,z⟩
   .refine .inl ⟨k,?_⟩
    have:y≠n:=fun e=>w (nX S e1 (e▸hi))
    simp[this,e]
   .exact .inr ⟨k,c,e,z.sameBut a (I.cne y c e)⟩
 .obtain ⟨E,z⟩:=I.cell y c e
  exact ⟨E,z.sameBut a (I.cne y c e)⟩
 .obtain ⟨e,n,D,K,d⟩:=I.pin p F
  exact ⟨(a.2 p.1 D).trans e,n,D,K,d⟩
 .refine (I.hok b P e).stay (fun c E g q=>(a.2 c ?_).trans q) (fun _ q=>q) (fun _ _ q=>q) fun _ _ q=>q
  rintro rfl
  rcases g with g|g
  .rw[<-g,I.free] at e;cases e
  .rw[I.free] at g;cases g
end
structure Blt(mg:Str->Option V9):Prop where
 b_len:mg "len"=none
 b_isinstance:mg "isinstance"=none
 b_all:mg "all"=none
 b_max:mg "max"=none
 b_min:mg "min"=none
 b_int:mg "int"=none
 b_str:mg "str"=none
 b_bool:mg "bool"=none
 b_tuple:mg "tuple"=none
 b_list:mg "list"=none
 b_range:mg "range"=none
 b_enumerate:mg "enumerate"=none
 b_ValueError:mg "ValueError"=none
structure DefAt(K:Frag)(mg:Str->Option V9)(x:Str)(st:Stmt)(ps:List Str):Prop where
 ex:∃ f fd,Fun K x x st f fd/\cU K fd ps []/\mg x=some (.ref f)
def Calls(P:P9)(w:W9)(K:Frag)(mg:Str->O9 V9)(base:H9)(CX:CXT)(k:Nat)(x:Str)(ps:List Str)(sp:Sp):Prop:=
 ∃ f fd,FnOk P w K mg base CX k f fd ps sp/\cU K fd ps []/\mg x=some (.ref f)/\PySem.W.keepIn K (.ref f)=true
section
variable{P:P9}{w:W9}{K:Frag}{mg:Str->O9 V9}{base:H9}{x:Str}{st:Stmt}{N ps:List Str}{k:Nat}{sp:Sp}
theorem DefAt.ok(D:DefAt K mg x st ps)(S:FnScope N ps (aC st))(len:∀ vs H Q E,sp vs H Q E->vs.length=ps.length)
  (a:∀ (f:Az) (cdv:V9) (A:U9) (outer:List Env) (s:S9) (H:Hp) (vs:List V) (Q:VK) (E:XK),Room k (A.deeper (envOfC x (aC st) s.heap.objs.size f cdv))->sp vs H Q E->
   ∃ t,PSs (dS CX0 P w K mg base N x (aC st) f cdv A outer s H E).nox (bD st) t/\t {nx:=fun _ H'=>Q .non H',rt:=Q} (start N vs) H):Calls P w K mg base CX0 (k+1) x ps sp:=by
 obtain ⟨f,fd,F,b,m⟩:=D.ex
 exact ⟨f,fd,F.ok S len (a f),b,m,F.kp⟩
theorem DefAt.okX(D:DefAt K mg x st ps)(S:FnScope N ps (aC st))(len:∀ vs H Q E,sp vs H Q E->vs.length=ps.length)
  (a:∀ (f:Az) (cdv:V9) (A:U9) (outer:List Env) (s:S9) (H:Hp) (vs:List V) (Q:VK) (E:XK),Room k (A.deeper (envOfC x (aC st) s.heap.objs.size f cdv))->sp vs H Q E->
   ∃ t,PSs ((dS (CXe P w) P w K mg base N x (aC st) f cdv A outer s H E).fly E) (bD st) t/\t {nx:=fun _ H'=>Q .non H',rt:=Q} (start N vs) H):Calls P w K mg base (CXe P w) (k+1) x ps sp:=by
 obtain ⟨f,fd,F,b,m⟩:=D.ex
 exact ⟨f,fd,F.okX S len (a f),b,m,F.kp⟩
theorem Calls.imp{CX:CXT}{a:Sp}(C:Calls P w K mg base CX k x ps sp)(h:∀ vs H Q E,a vs H Q E->sp vs H Q E):Calls P w K mg base CX k x ps a:=by
 obtain ⟨f,fd,F,b,m,c⟩:=C
 exact ⟨f,fd,F.imp h,b,m,c⟩
end
section
variable{X:Cx}{CX:CXT}{k:Nat}{x:Str}{ps:List Str}{sp:Sp}{E:XK}{p pos:Pos}{e:E1}{es:List E1}{t:TA}
theorem bJ(C:Calls X.prog X.w X.K X.mg X.base CX k x ps sp)(d:Room k X.A)(c:Gl X x)(hx:jT CX X E)(g:PA X (e::es) t)(a:(x == ("__debug__":Str))=false:=by decide)
  (he:starEach (e::es) X.env=(false,eval e X.env)::starEach es X.env:=by rfl) (hpl:(backTo pos (starEach es X.env)).any (·.1)=false:=by rfl):PE X (.Call (.Name x p) (e::es) [] pos) (m8 sp [] E t):=by
 obtain ⟨f,fd,F,b,m,h⟩:=C
 exact aC4 F d c m h b .nil hx g a he hpl
end
def spI(C:Az)(fs:List Str):Sp:=fun vs H Q _=>∃ e xs,vs=.ref e::xs/\xs.length=fs.length/\H e=some (ExN e C none)/\∀ d,H d=none->d≠e->Q .non (upd (upd H e (ExN e C (some d))) d (.xd (fs.zip xs)))
structure ErrAt(P:Program)(w:World)(K:Frag)(mg:Str->Option V9)(base:Heap)(x:Str)(fs:List Str)(W C:Az):Prop where
 c:SX.ExcC K W C
 m:mg x=some (.ref C)
 na:∀ f∈fs,PySem.W.findIn K (.ref C) f=some none
 i:∃ fI fdI,FnOk P w K mg base CX0 1 fI fdI ("self"::fs) (spI C fs)/\PySem.W.findIn K (.ref C) "__init__"=some (some (.ref fI))/\PySem.W.typeIn K (.ref fI)=some (.type "function")/\cU K fdI ("self"::fs) []
theorem aAU{H:Hp}{a b:Az}{o u:HO}(h:a≠b):upd (upd H a o) b u=upd (upd H b u) a o:=by
 funext c
 unfold upd
 by_cases h1:c=a
 · subst h1; rw [AM h, AK rfl, AK rfl]
 · rw [AM h1, AM h1]
theorem yP{X:Cx}{E:XK}{fs:List Str}{W C:Az}{x:Str}{np cpos pos:Pos}{e0:E1}{rest:List E1}{ta:TA}(d:X.calm=true)(b:ErrAt X.prog X.w X.K X.mg X.base x fs W C)(e:Gl X x)(f:Room 2 X.A)(h:PA (X.fly E) (e0::rest) ta)
  (a:(x == ("__debug__":Str))=false:=by decide) (he:starEach (e0::rest) X.env=(false,eval e0 X.env)::starEach rest X.env:=by rfl) (hpl:(backTo cpos (starEach rest X.env)).any (·.1)=false:=by rfl) :
  PS (X.fly E) (.Raise (some (.Call (.Name x np) (e0::rest) [] cpos)) none pos) (sQ C (spI C fs) E ta):=by
 obtain ⟨fI,fdI,g,hi,k,j⟩:=b.i
 exact n8 d b.c e b.m g hi k j f h a he hpl
theorem wW{C:Az}{fs:List Str}{vs:List V}{E:XK}{H1:Hp}(i:vs.length=fs.length)(j:vs.length<=1000)
  (h:∀ e d,H1 e=none->H1 d=none->d≠e->E (.ref C) (some e) (upd (upd H1 e (ExO e C (some d))) d (.xd (fs.zip vs)))) :
  vs.length<=1000/\∀ e,H1 e=none->spI C fs (.ref e::vs) (upd H1 e (ExN e C none)) (fun v H2=>v=.non/\∃ od,H2 e=some (ExN e C od)/\E (.ref C) (some e) (upd H2 e (ExO e C od))) E0:=by
 refine ⟨j,fun e k=>⟨e,vs,rfl,i,aS,fun d g c=>⟨rfl,some d,?_,?_⟩⟩⟩
 .rw[aE (BO c),aS]
 .have f:H1 d=none:=by rw[aE c] at g;exact g
  have:=h e d k f c
  rw[pL,aAU (a:=d) (b:=e) c,pL]
  exact this
theorem DatV.tup_of{K:Frag}{H:Hp}{v:V}{ds:List Dz}(h:DatV K H v (.tuple ds)):∃ a xs,v=.ref a/\SqT K H a xs/\DatVs K H xs ds:=by
 cases h with
 | tup h1 h2=>exact ⟨_,_,rfl,h1,h2⟩
theorem DatV.lst_of{K:Frag}{H:Hp}{v:V}{ds:List Dz}(h:DatV K H v (.list ds)):∃ a xs,v=.ref a/\SqL K H a xs/\DatVs K H xs ds:=by
 cases h with
 | lst h1 h2=>exact ⟨_,_,rfl,h1,h2⟩
theorem DatV.int_of{K:Frag}{H:Hp}{v:V}{i:Int}(h:DatV K H v (.int i)):v=.int i:=by cases h;rfl
theorem DatV.str_of{K:Frag}{H:Hp}{v:V}{i:Str}(h:DatV K H v (.str i)):v=.str i:=by cases h;rfl
theorem DatVs.cons_of{K:Frag}{H:Hp}{xs:List V}{d:Dz}{ds:List Dz}(h:DatVs K H xs (d::ds)):∃ x t,xs=x::t/\DatV K H x d/\DatVs K H t ds:=by
 cases h with
 | cons h1 h2=>exact ⟨_,_,rfl,h1,h2⟩
theorem DatVs.nil_of{K:Frag}{H:Hp}{xs:List V}(h:DatVs K H xs []):xs=[]:=by cases h;rfl
theorem cF.nil:cF [] []:=⟨rfl,fun _ _ h=>by simp at h⟩
theorem cF.own{τ ρ:St}{u:O9 V}(h:cF τ ρ):cF (none::τ) (u::ρ):=⟨by simp[h.1],fun i v e=>by
 cases i with
 | zero=>simp at e
 | succ i=>simpa using h.2 i v (by simpa using e)⟩
theorem cF.nil_of{σ:St}(h:cF [] σ):σ=[]:=List.length_eq_zero_iff.mp h.1
def SqS(K:Frag)(H:Hp)(a:Az)(xs:List V):Prop:=SqL K H a xs\/SqT K H a xs
theorem SqS.same{K:Frag}{H H':Hp}{a:Az}{xs:List V}(e:aH H H')(h:SqS K H a xs):SqS K H' a xs:=h.imp (SqL.same e) (SqT.same e)
theorem PI.or{X:Cx}{tg a:E1}{b c:TI}(h1:PI X tg a b)(h2:PI X tg a c):PI X tg a (fun σ H R=>b σ H R\/c σ H R):=fun pins s σ H R I h=>h.elim (h1 pins s σ H R I) (h2 pins s σ H R I)
def aI0(K:Frag)(tl:TE):TI:=fun σ H R=>tl σ H fun x H1=>∃ a,x=.ref a/\(((∃ xs,SqL K H1 a xs)/\R (Itl K a) H1)\/((∃ xs,SqT K H1 a xs)/\R (Itt K a) H1))
theorem yQ{X:Cx}{tg l:E1}{tl:TE}(r:PE X l tl):PI X tg l (aI0 X.K tl):=by
 intro pins s σ H R I h
 refine thn (r pins s σ H _ I h) fun v s1 f=>?_
 obtain ⟨x,H1,c,k,m⟩:=f
 obtain ⟨a,e,q⟩:=m
 subst e
 cases k
 rcases q with ⟨⟨xs,g⟩,q⟩|⟨⟨xs,g⟩,q⟩
 .obtain ⟨d,j,p,n⟩:=c.list g
  refine wpAny_pyIter_list p.isList ?_
  refine ⟨s1.heap.objs.size,[s1.heap.objs.size],_,_,H1,rfl,c.kept (t':=s1.toks) fun b o e=>AE _ e,x9 a _,⟨_,A7 _ rfl,rfl,rfl⟩,fun b i=>?_,q⟩
  obtain rfl:=BA.mp i
  exact c.fpOk (AI _) (c.hok.fresh (AI _))
 .obtain ⟨d,j,p,n⟩:=c.tuple g
  refine wpAny_pyIter_tuple (show s1.heap.IsTuple a d.toArray from p) ?_
  refine ⟨s1.heap.objs.size,[s1.heap.objs.size],_,_,H1,rfl,c.kept (t':=s1.toks) fun b o e=>AE _ e,wJ a _,⟨_,A7 _ rfl,rfl,rfl⟩,fun b i=>?_,q⟩
  obtain rfl:=BA.mp i
  exact c.fpOk (AI _) (c.hok.fresh (AI _))
def aHT(i j:Int):Prop:=0 < j/\j < 2 ^ 64
theorem aAV{X:Cx}:OpR X (binaryOp .FloorDiv) (rI aHT fun i j=>.int (i / j)):=opI fun i j _ _ _ _ _ a q=>by
 have h1:(0:Int) < j:=a.1
 have h2:j < 2 ^ 64:=a.2
 have b:j.natAbs < 2 ^ 64:=by omega
 have c:j.natAbs.log2 < 64:=(Nat.log2_lt (by omega)).mpr b
 exact floordiv_int (by omega) (by rw[Int.fdiv_eq_ediv_of_nonneg i (by omega)];exact q) (.inl (PyProof.noPylong_of_log2 (by omega)))
theorem aCH{X:Cx}{P:P9}{w:W9}:jT (CXe P w) X E0:=by
 rintro pins σ H s a s' I ⟨e,C,od,H',rfl,os,bare,un,hok,he,hv,q⟩
 exact q.elim
section
variable{X:Cx}
def aI1:V->O9 Int->O9 Int->Hp->VK->Prop:=fun x lo hi H Q=>∃ z,x=.str z/\z.length<=sizeLine/\Q (.str (Txt.slice z lo hi)) H
theorem vN{v:V9}{o:O9 Int}(h:IsPart v o):∃ l:O9 (Int×Tok),partValue l=v/\l.map (·.1)=o:=by
 cases h with
 | none=>exact ⟨none,rfl,rfl⟩
 | int i t=>exact ⟨some (i,t),rfl,rfl⟩
theorem aF4:SlR X aI1:=by
 intro pins s σ H x v r p lo hi w Q I m i n k h
 obtain ⟨z,rfl,e,q⟩:=h
 obtain ⟨t,rfl⟩:=m
 obtain ⟨l,rfl,g⟩:=vN n
 obtain ⟨u,rfl,j⟩:=vN k
 obtain ⟨o,d,c,f⟩:=i
 refine ⟨"str",_,PyProof.Rows.slot_str_getitem.lookup,rfl,?_⟩
 refine wpAny_getItem_str_slice (l:=l) (u:=u) (st:=none) ⟨o,d,c,f⟩ rfl ?_
 have a:=Txt.slice_le z lo hi
 unfold Txt.slice at q a
 unfold sliceMade slicePicked
 rw[g,j]
 simp only[CL,Bool.true_and,Option.map_none,EW] at q a ⊢
 by_cases b:((Builtin.Str.strSliceIndices lo hi 1 z.length).length == z.length)=true
 .rw[AK b] at q ⊢
  exact ⟨.str z,H,I,⟨t,rfl⟩,q⟩
 .rw[AM b] at q a ⊢
  exact ⟨A4 a e,.str _,H,I.tok _,⟨_,rfl⟩,q⟩
def Ity(z:Str):It:=
 ⟨fun i _=>i < z.cps.size,fun i H x H'=>∃ p c,H p=none/\x=.ref p/\H'=upd H p (.tup [.int i,.str ⟨#[c]⟩])/\z.cps[i]? = some c,fun i _=>i=z.cps.size⟩
theorem wX{P:P9}{w:W9}{K:Frag}{es:List E1}{k1}{tpos:Pos}(z:Str)(t:Tok)(T:String)(hT:∀ A:U9,A.handled=none->∀ it,Draws P w A it [it] z.cps.size (fun i v=>∃ c u,z.cps[i]? = some c/\v=Value.str {cps:=#[c]} u) fun i h=>h.IsStrIter it T z t i)
  (e it:Az) (hei:e≠it):Turn P w K (.Tuple es k1 tpos) (Ity z) [e,it] e (fun i h=>(∃ f,IsEnum h e it i f)/\h.IsStrIter it T z t i) where
 mem:=by simp
 obj:=fun i h st b p=>by
  obtain ⟨⟨f,s1⟩,o,e2,c,d⟩:=st
  rcases AT.mp p with z|z
  .subst z
   exact ⟨_,s1,fun v z=>by
    have z':Data.fields _=Data.cell v:=z
    cases z'⟩
  .obtain rfl:b=it:=by simpa using z
   exact ⟨o,e2,fun v z=>by rw[d] at z;cases z⟩
 keep:=fun i h h' st k=>by
  obtain ⟨⟨f,s1⟩,o,e2,c,d⟩:=st
  exact ⟨⟨f,k e (by simp) _ s1⟩,o,k it (by simp) o e2,c,d⟩
 item:=by
  intro X Y O U a i pins s σ H E I G st B
  subst Y O U
  obtain ⟨⟨f,s1⟩,L⟩:=st
  obtain ⟨R,f1,f2,f3,f4,f5⟩:=G e (by simp)
  obtain ⟨x,J,g2,W,V,g5⟩:=G it (by simp)
  refine E3 (hT X.A.in1 (I.ok.hd a) it) s1 L B hei (by simpa using hei) fun u h' tk Z so si st ac kp=>?_
  obtain ⟨c,tc,N,hu⟩:=Z
  subst hu
  refine ⟨_,rfl,DK so fun h2 se sb=>?_⟩
  have F:s.heap.objs.size≠e:=CA (AG s1)
  have S:h2.get? s.heap.objs.size=some {cls:=.type "tuple",data:=.seq #[.int i tk,.str ⟨#[c]⟩ tc]}:=(sb.2 _ F).trans st
  have M:H s.heap.objs.size=none:=I.hok.fresh (AI _)
  have g:∀ b o,b≠e->b≠it->s.heap.get? b=some o->h2.get? b=some o:=fun b o h1 Q q=>(sb.2 b h1).trans (kp b o h1 Q q)
  have y:HOk X.prog X.w H h2:=fun b D q=>by
   refine (I.hok b D q).stay (fun c v a q'=>g c v ?_ ?_ q') (fun _ q=>q) (fun _ _ q=>q) fun _ _ q=>q
   .rcases a with z|z
    .rw[z];exact fun j=>by rw[j,R] at q;cases q
    .exact fun j=>by rw[j,R] at z;cases z
   .rcases a with z|z
    .rw[z];exact fun j=>by rw[j,x] at q;cases q
    .exact fun j=>by rw[j,x] at z;cases z
  have C:HOk X.prog X.w (upd H s.heap.objs.size (.tup [.int i,.str ⟨#[c]⟩])) h2:=HOk.track y M ⟨by show 2<=sizeLine;decide,[.int i tk,.str ⟨#[c]⟩ tc],.cons ⟨_,rfl⟩ (.cons ⟨_,rfl⟩ .nil),⟨_,S,⟨rfl,rfl⟩,_,rfl⟩⟩
  have l:∀ b D,H b=some D->b≠s.heap.objs.size:=fun b D q=>bF q M
  have I2:Inv X pins σ (upd H s.heap.objs.size (.tup [.int i,.str ⟨#[c]⟩])) {s with heap:=h2,gens:=s.gens,drawn:=s.drawn,toks:=tk+1}:=by
   refine I.step (ch:=[e,it]) (fun b p=>?_) (fun b o _ _ a q _=>g b o (fun z=>a (by simp[z])) (fun z=>a (by simp[z])) q) (fun b o _ _ a q _=>⟨o.slots,g b o (fun z=>a (by simp[z])) (fun z=>a (by simp[z])) q⟩)
    (fun b o _ q n=>by rw[aE (A3 (AG q))];exact n) (fun b o a q=>⟨o,g b o (fun z=>a (by simp[z])) (fun z=>a (by simp[z])) q⟩) (fun b ys q=>by rw[aE (l b _ q)];exact q) (fun b o D q=>by rw[aE (l b _ q)];exact q)
    (fun b ps q=>by rw[aE (l b _ q)];exact q) (fun m hm=>?_) C I.bare
   .rcases AT.mp p with z|z
    .subst z;exact ⟨f3,f1,f4,f5⟩
    .obtain rfl:b=it:=by simpa using z
     exact ⟨W,J,V,g5⟩
   .obtain ⟨o,aa,ep,ho,r⟩:=hm
    exact ⟨o,aa,ep,g _ o (BO f1) (BO J) ho,r⟩
  refine ⟨.ref s.heap.objs.size,_,I2,rfl,⟨_,c,M,rfl,rfl,N⟩,⟨⟨_,by simpa using se⟩,?_⟩,fun b p=>?_⟩
  .obtain ⟨o,q1,q2,q3⟩:=si
   exact ⟨o,(sb.2 it hei.symm).trans q1,q2,q3⟩
  .rcases AT.mp p with z|z
   .subst z;rw[aE (BO F)];exact R
   .obtain rfl:b=it:=by simpa using z
    obtain ⟨o,q,_⟩:=L
    rw[aE (A3 (AG q))];exact x
 done:=by
  intro X Y O U a i pins s σ H E I G st B
  subst Y O U
  obtain ⟨⟨f,s1⟩,L⟩:=st
  obtain ⟨x,J,g2,W,V,g5⟩:=G it (by simp)
  have B:i=z.cps.size:=B
  subst B
  exact E5 (hT X.A.in1 (I.ok.hd a) it) s1 L fun h' eb=>⟨rfl,I.turned (t':=s.toks) (fun b o p q=>eb b o p q) x J W V g5⟩
 self:=fun _ _ _ _ _ st h=>CY st.1.choose_spec h
def yR(ta:TA):TI:=fun σ H R=>ta σ H fun vs H1=>∃ z,vs=[.str z]/\R (Ity z) H1
theorem aAW{es:List E1}{k1}{tpos:Pos}{a:E1}{ta:TA}{p pos:Pos}(n:Gl X "enumerate")(B:X.mg "enumerate"=none)(x:PA X [a] ta)(D:starEach [a] X.env=[(false,eval a X.env)]:=by rfl) :
  PI X (.Tuple es k1 tpos) (.Call (.Name "enumerate" p) [a] [] pos) (yR ta):=by
 intro pins s σ H R I h
 refine Call_ (jS I n B DI (B7 (thn (x pos pins s σ H _ I h) fun us s1 g=>?_) D rfl))
 obtain ⟨vs,H1,f,l,r⟩:=g
 obtain ⟨z,e,q⟩:=r
 subst e
 obtain ⟨u,rfl,t,rfl⟩:=lA l
 have o:∀ A:U9,A.handled=none->∀ d,Draws X.prog X.w A d [d] z.cps.size (fun i v=>∃ c u,z.cps[i]? = some c/\v=Value.str {cps:=#[c]} u) fun i h=>h.IsStrIter d (strIterType z) z t i:=fun A k d=>by
  unfold strIterType
  split
  · exact Draws.strAscii k d z t
  · exact Draws.strWide k d z t
 refine call_enumerate_str fun h' j C F y=>?_
 have m:Inv X pins σ H1 {s1 with heap:=h'}:=f.kept (t':=s1.toks) y
 refine CY j ?_
 refine ⟨s1.heap.objs.size+1,[s1.heap.objs.size+1,s1.heap.objs.size],_,_,H1,rfl,m,wX z t _ o _ _ (CA (D5 _)),⟨⟨_,j⟩,C⟩,fun b E=>?_,q⟩
 rcases AT.mp E with z|z
 .subst z
  exact f.fpOk (C0 _) (f.hok.fresh (C0 _))
 .obtain rfl:b=s1.heap.objs.size:=by simpa using z
  exact f.fpOk (AI _) (f.hok.fresh (AI _))
end
theorem sR{X:Cx}:iB X (.builtin "isinstance") (fun xs H Q=>∃ a ys c cv b,xs=[.ref a,c]/\SqT X.K H a ys/\n6 c=some cv/\PySem.W.kitOne X.K (.type "tuple") cv=some b/\Q (.bl b) H):=by
 intro pins s σ H xs us Q I r h
 obtain ⟨a,ys,c,cv,b,rfl,j,g,e,q⟩:=h
 obtain ⟨u,v,rfl,i,f⟩:=oO r
 obtain rfl:=pT g f
 cases (show u=Value.ref a from i)
 obtain ⟨d,_,⟨o,h1,h2,_⟩,_⟩:=I.tuple j
 exact BM PySem.W.kitx_tuple I.kIn ⟨o,h1,h2⟩ e (fun z=>nomatch z) fun tk=>⟨.bl b,H,I.tok _,rfl,q⟩
structure RoomH(k:Nat)(A:Around):Prop where
 dp:A.depth+3 * k+5 < recursionLimit
 un:A.units+16 * k+200 < cLine
theorem Room.h{k:Nat}{A:U9}(r:Room k A):RoomH k A:=⟨r.dp,r.un⟩
structure FnOkH(P:Program)(w:World)(K:Frag)(mg:Str->Option V9)(base:Heap)(k:Nat)(f:Az)(fd:FuncData)(ps:List Str)(sp:Sp):Prop where
 len:∀ vs H Q E,sp vs H Q E->vs.length=ps.length
 run:∀ (A:Around) (outer:List Env) (s:S9) (H:Hp) (args:Args) (us:List V9) (vs:List V) (Q:VK),RoomH k A->Env0 P w K mg base A outer s H->BindsTo s fd args (ps.zip us)->aW vs us->sp vs H Q E0->
  codeAny (model P w) A (.call (.ref f) args) (CR CX0 outer P w H s Q E0) s
theorem FnOkH.ok{P:P9}{w:W9}{K:Frag}{mg:Str->O9 V9}{base:H9}{k:Nat}{f:Az}{fd:FuncData}{ps:List Str}{sp:Sp}(F:FnOkH P w K mg base k f fd ps sp)(a:∀ vs H Q E,sp vs H Q E->sp vs H Q E0):FnOk P w K mg base CX0 k f fd ps sp:=
 ⟨F.len,fun A outer s H args us vs Q E d i g b c=>DO (F.run A outer s H args us vs Q d.h i g b (a _ _ _ _ c)) fun r s' h=>by
  cases r with
  | error e=>exact h
  | ok fl=>cases fl<;>exact h⟩
end L2
namespace Mc
open PySem L2 PyProof.Rows
inductive Tn where
 | n (i:Int)|w (x:Str)
noncomputable def Tn.v:Tn->V
 | .n i=>.int i
 | .w x=>.str x
noncomputable def Tn.d:Tn->Dz
 | .n i=>.int i
 | .w x=>.str x
structure Rw where
 l:Tn
 c:List (Int×Int)
 r:Tn
def iZ(c:Int×Int):Dz:=.tuple [.int c.1,.int c.2]
def gS(r:Rw):Dz:=.tuple [r.l.d,.tuple (r.c.map iZ),r.r.d]
def bG(rs:List Rw):Dz:=.tuple (rs.map gS)
inductive CellsAt(K:Frag)(H:Hp):List V->List (Int×Int)->Prop
 | nil:CellsAt K H [] []
 | cons {q:Az} {a b:Int} {xs:List V} {cs:List (Int×Int)} (h:SqS K H q [.int a,.int b]) (t:CellsAt K H xs cs):CellsAt K H (.ref q::xs) ((a,b)::cs)
def rW(K:Frag)(H:Hp)(v:V)(r:Rw):Prop:=∃ p b cs,v=.ref p/\SqS K H p [r.l.v,.ref b,r.r.v]/\SqS K H b cs/\CellsAt K H cs r.c
inductive RowsAt(K:Frag)(H:Hp):List V->List Rw->Prop
 | nil:RowsAt K H [] []
 | cons {v:V} {r:Rw} {xs:List V} {rs:List Rw} (h:rW K H v r) (t:RowsAt K H xs rs):RowsAt K H (v::xs) (r::rs)
section
variable{K:Frag}{H H':Hp}
theorem CellsAt.same(e:aH H H'):∀ {xs:List V} {cs:List (Int×Int)},CellsAt K H xs cs->CellsAt K H' xs cs
 | _,_,.nil=>.nil
 | _,_,.cons h t=>.cons (h.same e) (t.same e)
theorem rW.same(e:aH H H'){v:V}{r:Rw}(h:rW K H v r):rW K H' v r:=by
 obtain ⟨p,b,c,h1,h2,a,d⟩:=h
 exact ⟨p,b,c,h1,h2.same e,a.same e,d.same e⟩
theorem RowsAt.same(e:aH H H'):∀ {xs:List V} {rs:List Rw},RowsAt K H xs rs->RowsAt K H' xs rs
 | _,_,.nil=>.nil
 | _,_,.cons h t=>.cons (h.same e) (t.same e)
end
noncomputable def Tn.ok:Tn->Prop
 | .n _=>True
 | .w x=>PyData.strOk x=true
def Rw.ok(r:Rw):Prop:=r.l.ok/\r.r.ok
def Sh(n:Nat)(d:Dz):Prop:=d.canLay0=true/\d.depth<=n
theorem aF5(n:Nat){x:Str}(h:PyData.strOk x=true):Sh n (.str x):=⟨h,EH _⟩
theorem Sh.shaped{n:Nat}{d:Dz}(h:Sh n d)(a:n<=64):SeqAt.shaped d=true:=by
 show (d.canLay0 && decide (d.depth<=64))=true
 rw[h.1,BZ (A4 h.2 a)];rfl
section
variable{K:Frag}{H:Hp}{p q:Az}{xs ys:List V}{o:HO}
inductive NoL:Dz->Prop where
 | int (i:Int):NoL (.int i)
 | str (i:Str):NoL (.str i)
 | tup {ds:List Dz} (h:∀ d∈ds,NoL d):NoL (.tuple ds)
end
section
variable{K:Frag}{h:H9}{mg:Str->O9 V9}
theorem bQ{x:Str}{st:Stmt}{ps:List Str}{f:Az}{i:V9}{od e:O9 Az}{g:Array (O9 V9)}{kV doc pm d ct:V9}(X:K.In h)(G:h.Ns mainGlobals mg)
  (a:PySem.W.nsIn K mainGlobals x=some (some (.ref f))) (l:K.lookup f=some ⟨i,od,.func (PySem.W.fnOf x x (b9 st) (bD st) (aC st) .none kV doc pm e d ct),g⟩)
  (c:PySem.W.codeIn K d x=true) (k:PySem.W.keepIn K (.ref f)=true)
  (b:∀ (kV doc pm:V9) (e:O9 Az) (d ct:V9) (us:List V9),us.length=ps.length->bindArgs (PySem.W.fnOf x x (b9 st) (bD st) (aC st) .none kV doc pm e d ct) ⟨us,[]⟩=pure (ps.zip us)):DefAt K mg x st ps:=by
 have F:=kN (st:=st) l c k
 exact ⟨f,_,F,F.binds b,BT X G a⟩
end
section
variable{K:Frag}{h:H9}{mg:Str->O9 V9}
theorem yS{W N:Az}{bm bs sub:List V9}{nm q:Str}{a ab:Bool}{sn:List Str}{col:O9 Bool}{dd:O9 Az}{k0 k1 k2 k3 k5:O9 V9}{newId:String}(l:K.lookup W=some (excClassObj nm q W N bs bm a sn sub ab col dd k0 k1 k2 k3 k5 newId))(b:bm.contains (.type "BaseException")=true):SX.ExcAny K W bm:=⟨⟨_,_,_,_,_,_,_,_,_,_,_,_,_,_,_,_,l⟩,b⟩
theorem aDH{W C N:Az}{bs sub:List V9}{nm q:Str}{ab:Bool}{sn:List Str}{col:O9 Bool}{dd:O9 Az}{k0 k1 k2 k3 k5:O9 V9}(l:K.lookup C=some (excClassObj nm q C N bs (.ref W::SX.fJ) true sn sub ab col dd k0 k1 k2 k3 k5 "ValueError.__new__"))
 (e:PySem.W.findIn K (.ref C) "__setattr__"=some (some (.builtin "object.__setattr__"))) (d:PySem.W.findIn K (.ref C) "__getattribute__"=some (some (.builtin "BaseException.__getattribute__"))) (c:PySem.W.findIn K (.ref C) "__getattr__"=some none) (cl:PySem.W.findIn K (.ref C) "__class__"=some (some (.builtin "object.__class__")))
 (a:PySem.W.specialIn K (.builtin "object.__class__") "__get__"=some (some (.builtin "getset_descriptor.__get__"))) (b:PySem.W.takesIn K (.builtin "object.__class__")=some true) (f:PySem.W.keepIn K (.ref C)=true):SX.ExcC K W C:=⟨⟨_,_,_,_,_,_,_,_,_,_,_,_,_,_,l⟩,e,d,c,cl,a,b,f⟩
theorem nB{t:V9}{C:Az}{cd:ClassData}{b:Bool}(h0:(t == Value.ref C)=false)(h1:PySem.W.clsIn K C=some cd)(h2:PySem.W.typeIn K (.ref C)=some (.type "type"))(a:PySem.W.subIn K t (.ref C)=some b):PySem.W.kitOne K t (.ref C)=some b:=by
 unfold PySem.W.kitOne
 rw[h0,AM (by decide)]
 unfold PySem.W.kitCls
 simp only[h1,h2]
 rw[AK (by rfl)]
 exact a
theorem aF6{t:V9}{T:String}{b:Bool}(h0:(t == Value.type T)=false)(h1:PySem.W.kitMeta T=true)(a:PySem.W.subIn K t (.type T)=some b):PySem.W.kitOne K t (.type T)=some b:=by
 unfold PySem.W.kitOne
 rw[h0,AM (by decide)]
 unfold PySem.W.kitCls
 show (if PySem.W.kitMeta T=true then _ else _)=_
 rw[AK h1]
 exact a
theorem aAX{C:Az}:PySem.W.kitOne K (.ref C) (.ref C)=some true:=by
 unfold PySem.W.kitOne
 rw[AK (by simp)]
end
noncomputable def bB(n c:Nat):Bool:=decide (97<=c/\c < 97+n)
noncomputable def b8(n:Nat):Nat->List Nat->O9 Nat
 | _,[]=>none
 | i,c::t=>if bB n c=true then b8 n (i+1) t else some i
theorem oY(n i c:Nat)(t:List Nat):b8 n i (c::t)=if bB n c=true then b8 n (i+1) t else some i:=rfl
theorem occ_one(x:Str)(c:Nat):(Builtin.Str.occurrences x ⟨#[c]⟩ 0 x.length 1=[]/\∀ i:Nat,x.cps.toList[i]? ≠ some c)\/∃ (i:Nat) (r:List Nat),Builtin.Str.occurrences x ⟨#[c]⟩ 0 x.length 1=i::r/\x.cps.toList[i]? = some c/\∀ k:Nat,k < i->x.cps.toList[k]? ≠ some c:=by
 rcases StrLaws.occ_head x ⟨#[c]⟩ 1 (AI _) with ⟨h1,h2⟩|⟨i,r,h1,h2,b⟩
 · exact .inl ⟨h1, fun i e => h2 i ((EN x c i).mpr e)⟩
 · exact .inr ⟨i, r, h1, (EN x c i).mp h2, fun k a e => b k a ((EN x c k).mpr e)⟩
theorem vO{n:Nat}(h1:1<=n)(h2:n<=3):(Txt.slice "abc" none (some (n:Int))).cps.toList=[97,98,99].take n:=by
 obtain rfl|rfl|rfl:n=1\/n=2\/n=3:=by omega
 all_goals decide +kernel
theorem qX{n c:Nat}(h1:1<=n)(h2:n<=3):bB n c=true↔∃ i:Nat,(([97,98,99]:List Nat).take n)[i]? = some c:=by
 unfold bB
 rw[decide_eq_true_iff]
 constructor
 .intro h
  refine ⟨c - 97,?_⟩
  obtain rfl|rfl|rfl:n=1\/n=2\/n=3:=by omega
  .obtain rfl:c=97:=by omega
   rfl
  .obtain rfl|rfl:c=97\/c=98:=by omega
   all_goals rfl
  .obtain rfl|rfl|rfl:c=97\/c=98\/c=99:=by omega
   all_goals rfl
 .rintro ⟨i,e⟩
  obtain ⟨hi,b⟩:=AU.mp e
  have a:=List.getElem_mem hi
  rw[b] at a
  obtain rfl|rfl|rfl:n=1\/n=2\/n=3:=by omega
  all_goals
   simp at a
   omega
theorem n9{n c:Nat}(h1:1<=n)(h2:n<=3):(!(!(Builtin.Str.occurrences (Txt.slice "abc" none (some (n:Int))) ⟨#[c]⟩ 0 (Txt.slice "abc" none (some (n:Int))).length 1).isEmpty)) = !bB n c:=by
 have e:=vO h1 h2
 rcases occ_one (Txt.slice "abc" none (some (n:Int))) c with ⟨a,b⟩|⟨i,r,a,b,_⟩
 .rw[a]
  have:bB n c=false:=Bool.eq_false_iff.mpr fun z=>by
   obtain ⟨i,hi⟩:=(qX h1 h2).mp z
   rw[e] at b
   exact b i hi
  rw[this];rfl
 .rw[a]
  rw[e] at b
  rw[(qX h1 h2).mpr ⟨i,b⟩];rfl
end Mc
namespace L2
open PySem PySem.Spec PyProof.Rows
section
variable{κ:Type}[DecidableEq κ]
theorem fS.getD{o:O9 V}{u:O9 V9}{d:V}{d':V9}(r:fS o u)(a:aU d d'):aU (o.getD d) (u.getD d'):=by
 cases o with
 | none=>cases u with
  | none=>exact a
  | some _=>exact (show False from r).elim
 | some _=>cases u with
  | none=>exact (show False from r).elim
  | some _=>exact r
theorem KV.length{a:List (κ×V)}{vs:List (κ×V9)}(r:KV a vs):a.length=vs.length:=Paired.length r
end
theorem aCI{P:P9}{w:W9}{k:Key}{u:V9}(r:aU (kV k) u):(cQ P w).is k u=true:=by
 cases k with
 | inl i=>obtain ⟨t,e⟩:=(show ∃ t,u=Value.int i t from r);subst e;exact uW P w i t
 | inr x=>obtain ⟨t,e⟩:=(show ∃ t,u=Value.str x t from r);subst e;exact uX P w x t
section
variable{X:Cx}{pins:List (Az×Obj)}{σ:St}{H:Hp}{s:S9}{a:Az}{y v:V}{u r:V9}{o:O9 V}{A:U9}{E:V9->S9->Prop}
theorem Inv.big(I:Inv X pins σ H s):sysModules < s.heap.objs.size:=by
 have h:mainGlobals < s.heap.objs.size:=(I.mod.glob.keeps I.bk).lt
 exact Nat.lt_trans (by decide) h
theorem vP{h':H9}{t':Nat}{c:HO}(I:Inv X pins σ H s)(d:Mut (H a))(g:Heap.SameBut a s.heap h')(h:∃ q,h'.get? a=some q)(new:bP X.prog X.w (upd H a c) h' a c) :
  Inv X pins σ (upd H a c) {s with heap:=h',toks:=t'}:=
 I.write (x:=a) (e:=a) d (.inl rfl) (fun b q f z=>(g.2 b f).trans z) h new
end
structure M1(X:Cx)(o:Expr)(m:Str)(apos:Pos)(e:Expr)(cpos:Pos):Prop where
 base:attributeBase o m X.env (eval o X.env)=eval o X.env
 few:((backTo cpos (starEach [e] X.env)).all (fun x=>!x.1) && (backToKw cpos (keywordEach [] X.env)).all (fun x=>x.1.isSome)
  && decide (([e]:List Expr).length+([]:List Keyword).length+(if ([]:List Keyword).isEmpty then 0 else 1) < 30))=true
 line:(apos.endLine == cpos.line)=true
 trees:backTo cpos (starEach [e] X.env)=[(false,eval e X.env)]
structure M2(X:Cx)(o:Expr)(m:Str)(apos:Pos)(e f:Expr)(cpos:Pos):Prop where
 base:attributeBase o m X.env (eval o X.env)=eval o X.env
 few:((backTo cpos (starEach [e,f] X.env)).all (fun x=>!x.1) && (backToKw cpos (keywordEach [] X.env)).all (fun x=>x.1.isSome)
  && decide (([e,f]:List Expr).length+([]:List Keyword).length+(if ([]:List Keyword).isEmpty then 0 else 1) < 30))=true
 line:(apos.endLine == cpos.line)=true
 trees:backTo cpos (starEach [e,f] X.env)=[(false,eval e X.env),(false,eval f X.env)]
def sS(K:Frag)(H:Hp)(ks:List (List Key×Az)):Prop:=∀ p∈ks,SqT K H p.2 (p.1.map kV)
theorem sS.same{K:Frag}{H H':Hp}{ks:List (List Key×Az)}(e:aH H H')(h:sS K H ks):sS K H' ks:=fun p a=>SqT.same e (h p a)
end L2
namespace Mc
open PySem L2 PyProof.Rows
def Tn.good(n:Int):Tn->Prop
 | .n i=>0<=i/\i < n
 | .w x=>x="by"\/x="out"
def sT(n:Int)(c:Int×Int):Prop:=0<=c.1/\c.1 < n/\(c.2=1\/c.2 = -1)
def Rw.good(n:Int)(r:Rw):Prop:=r.l.good n/\r.r.good n/\∀ c∈r.c,sT n c
theorem Tn.good.ok{n:Int}{t:Tn}(h:t.good n):t.ok:=by
 cases t with
 | n i=>trivial
 | w x=>
  rcases h with rfl|rfl
  · exact (show PyData.strOk _ = true by decide +kernel)
  · exact (show PyData.strOk _ = true by decide +kernel)
theorem Rw.good.ok{n:Int}{r:Rw}(h:r.good n):r.ok:=⟨h.1.ok,h.2.1.ok⟩
structure Mach(rs:List Rw)(sg:Nat):Prop where
 len:1<=rs.length
 len2:rs.length<=1000
 sg1:1<=sg
 sg3:sg<=3
 row:∀ r∈rs,r.good rs.length/\r.c.length=sg
def aHU(sg:Nat)(z:List Nat):Prop:=z.length<=1000/\∀ c∈z,bB sg c=true
theorem sU{sg:Nat}:∀ {z:List Nat} {i:Nat},(∀ c∈z,bB sg c=true)->b8 sg i z=none
 | [],_,_=>rfl
 | c::t,i,h=>by
  rw[oY,AK (h c (by simp))]
  exact sU fun x a=>h x (by simp[a])
noncomputable def rX(rs:List Rw)(q:Int):Rw:=rs.getD q.toNat ⟨.n 0,[],.n 0⟩
noncomputable def mE(rs:List Rw)(z:List Nat)(st:Int×Int):Tn×Int:=
 if st.1=0 then ((rX rs st.2).l,1) else if st.1=(z.length:Int)+1 then ((rX rs st.2).r,-1) else
  (.n ((rX rs st.2).c.getD (z.getD (st.1.toNat - 1) 97 - 97) (0,0)).1,((rX rs st.2).c.getD (z.getD (st.1.toNat - 1) 97 - 97) (0,0)).2)
def wY(rs:List Rw)(z:List Nat)(st:Int×Int):O9 (Int×Int):=
 match (mE rs z st).1 with
 | .w _=>none
 | .n q=>some (st.1+(mE rs z st).2,q)
def aCJ(rs:List Rw)(z:List Nat)(st:Int×Int):Prop:=0<=st.1/\st.1<=(z.length:Int)+1/\0<=st.2/\st.2 < (rs.length:Int)
noncomputable def wZ(rs:List Rw)(z:List Nat):Nat->List (Int×Int)->Int×Int->List (Int×Int)
 | 0,ps,st=>ps++[st]
 | k+1,ps,st=>if st∈ps then ps++[st] else match wY rs z st with
  | none=>ps++[st]
  | some st'=>wZ rs z k (ps++[st]) st'
def aCK(rs:List Rw)(z:List Nat):Nat:=(z.length+2) * rs.length
def aHV(rs:List Rw)(z:List Nat):List (Int×Int):=wZ rs z (aCK rs z) [] (0,0)
structure Way(rs:List Rw)(z:List Nat)(ps:List (Int×Int))(st:Int×Int)(k:Nat):Prop where
 nd:ps.Nodup
 val:∀ s∈ps++[st],aCJ rs z s
 num:ps.length+k=aCK rs z
 res:wZ rs z k ps st=aHV rs z
end Mc
namespace L2
open PySem PySem.Spec PyProof.Rows
theorem kP:∀ {ys:List Str} {us:List V9},aW (ys.map V.str) us->StrsAre us ys
 | [],_,.nil=>.nil
 | y::ys,_,.cons r t=>by obtain ⟨t',rfl⟩:=r;exact .cons y t' (kP t)
def aCL(K:Frag):V->List V->Hp->VK->Prop:=fun x vs H Q=>∃ (sep:Str) (a:Az) (ys:List Str),x=.str sep/\vs=[.ref a]/\SqL K H a (ys.map V.str)/\(ys.map fun y=>y.length).sum+ys.length * sep.length<=16777216/\Q (.str (Txt.join sep ys)) H
theorem aDI{X:Cx}:MtR X "str.join" (aCL X.K):=by
 intro pins s σ H x vs v us Q I i c h
 obtain ⟨f,a,ys,rfl,rfl,d,e,q⟩:=h
 obtain ⟨t,rfl⟩:=i
 obtain ⟨u,rfl,g⟩:=c.one
 cases (show u=Value.ref a from g)
 obtain ⟨b,r,j,_⟩:=I.list d
 exact join_list (items:=b.toArray) j.isList (by simpa using kP r) e fun l k=>⟨.str _,H,I.tok _,⟨_,rfl⟩,q⟩
end L2
namespace Mc
open PySem L2 PyProof.Rows
noncomputable def one(c:Nat):Str:=⟨#[c]⟩
theorem yT(b:List Nat):∀ (a:Array Nat),(List.foldl (fun acc p=>acc++("":Str).cps++p.cps) a (b.map one)).toList=a.toList++b:=by
 induction b with
 | nil=>intro a;simp
 | cons c t ih=>
  intro a
  rw[AJ,List.foldl_cons,ih]
  have:("":Str).cps = #[]:=rfl
  rw[this]
  simp[one]
theorem aAY(a:List Nat):(Txt.join "" (a.map one)).cps.toList=a:=by
 unfold Txt.join Builtin.Str.glued
 cases a with
 | nil=>rfl
 | cons c t=>
  show (List.foldl _ (one c).cps (t.map one)).toList=_
  rw[yT];rfl
theorem aDJ(a:List Nat):((a.map one).map fun y=>y.length).sum=a.length:=by
 induction a with
 | nil=>rfl
 | cons c t ih=>rw[AJ,AJ,List.sum_cons,ih,AH];show 1+_=_;omega
theorem vQ{x y:Str}(h:x.cps.toList=y.cps.toList):x=y:=by
 cases x;cases y
 simp only[Str.mk.injEq]
 exact Array.toList_inj.mp h
theorem aDK(a:List Nat):Txt.join "" (a.map one)=⟨a.toArray⟩:=vQ (by rw[aAY])
section
variable{S O:Type}
inductive Ex(st:S->Option (S⊕O)):Nat->S->O->Prop
 | out {s:S} {o:O} (h:st s=some (.inr o)):Ex st 0 s o
 | go {s s':S} {o:O} {n:Nat} (h:st s=some (.inl s')) (t:Ex st n s' o):Ex st (n+1) s o
inductive Rc(st:S->Option (S⊕O)):Nat->S->S->Prop
 | nil {s:S}:Rc st 0 s s
 | cons {s s' s'':S} {n:Nat} (h:st s=some (.inl s')) (t:Rc st n s' s''):Rc st (n+1) s s''
variable{st:S->O9 (S⊕O)}
def Res(st:S->O9 (S⊕O))(s:S)(r:O9 O):Prop:=∀ o,r=some o↔∃ n,Ex st n s o
open Classical in
noncomputable def aCM(st:S->O9 (S⊕O))(s:S):O9 O:=if h:∃ o n,Ex st n s o then some h.choose else none
structure Und2(st:S->Option (S⊕O))(s0:S)(ps:List S)(s:S):Prop where
 nd:ps.Nodup
 back:∀ p∈ps,∃ m,Rc st (m+1) p s
 res:∀ r,Res st s r->Res st s0 r
end
abbrev Th:=O9 (Int×Int)
structure Tb where
 f:List Th
 a:List Th
def yU(m:Nat):Th->Prop
 | none=>True
 | some (d,q)=>(d=1\/d = -1)/\0<=q/\q < (m:Int)
structure Tb.good(m:Nat)(t:Tb):Prop where
 lf:t.f.length=m
 la:t.a.length=m
 gf:∀ x∈t.f,yU m x
 ga:∀ x∈t.a,yU m x
end Mc
namespace L2
open PySem PySem.Spec PyProof.Rows
def Its(z:Str):It:=⟨fun i _=>i < z.cps.size,fun i H x H'=>H'=H/\∃ c,z.cps[i]? = some c/\x=.str ⟨#[c]⟩,fun i _=>i=z.cps.size⟩
theorem sV{P:P9}{w:W9}{K:Frag}{tg:E1}(z:Str)(t:Tok)(T:String)(G:∀ A:U9,A.handled=none->∀ it,Walks P w A it [it] [it] z.cps.size (SignAt z) fun i h=>h.IsStrIter it T z t i)
  (f:∀ (A:U9) (it:Az) (i:Nat) (s:S9) (Q E:V9->S9->Prop),s.heap.IsStrIter it T z t i->Q (.ref it) s->wpAny (model P w) A (pyIter (.ref it)) Q E s)
  (u:["enumerate","zip","dict_itemiterator","dict_reverseitemiterator","odict_iterator","itertools.zip_longest","itertools.pairwise"].contains T=false) (it:Az):Turn P w K tg (Its z) [it] it (fun i h=>h.IsStrIter it T z t i) where
 mem:=by simp
 obj:=fun i h st b a=>by
  obtain rfl:b=it:=by simpa using a
  obtain ⟨o,e,c,d⟩:=st
  exact ⟨o,e,fun v z=>by rw[d] at z;cases z⟩
 keep:=fun i h h' st k=>by
  obtain ⟨o,e,c,d⟩:=st
  exact ⟨o,k it (by simp) o e,c,d⟩
 item:=by
  intro X m p C q i pins s σ H E I l st j
  subst m p C
  obtain ⟨x,D,L,r,B,F⟩:=l it (by simp)
  refine (G X.A (I.ok.hd q) it).item i s _ E j st fun v h' tk J g y=>?_
  obtain ⟨c,tc,n,rfl⟩:=J
  have N:Inv X pins σ H {s with heap:=h',toks:=tk}:=I.turned (t':=tk) (it:=it) (fun b o a e=>y b o (by simpa using a) e) x D r B F
  obtain ⟨o,e,M,d⟩:=id g
  exact ⟨_,rfl,rS (s:={s with heap:=h',toks:=tk}) e M d u ⟨.str ⟨#[c]⟩,H,N,⟨_,rfl⟩,⟨rfl,c,n,rfl⟩,g,fun b a=>(l b a).1⟩⟩
 done:=by
  intro X m p C q i pins s σ H E I l st j
  subst m p C
  obtain ⟨x,D,L,r,B,F⟩:=l it (by simp)
  have j:i=z.cps.size:=j
  subst j
  exact (G X.A (I.ok.hd q) it).done s _ E st fun h' tk y=>⟨rfl,I.turned (t':=tk) (it:=it) (fun b o a e=>y b o (by simpa using a) e) x D r B F⟩
 self:=fun A i s Q E st h=>f A it i s Q E st h
def aI2(te:TE):TI:=fun σ H R=>te σ H fun x H1=>∃ z,x=.str z/\R (Its z) H1
theorem yV{X:Cx}{tg l:E1}{tl:TE}(r:PE X l tl):PI X tg l (aI2 tl):=by
 intro pins s σ H R I h
 refine thn (r pins s σ H _ I h) fun v s1 f=>?_
 obtain ⟨x,H1,g,n,p⟩:=f
 obtain ⟨z,e,q⟩:=p
 subst e
 obtain ⟨t,rfl⟩:=n
 refine wpAny_pyIter_strU ?_
 have d:Inv X pins σ H1 {s1 with heap:=s1.heap.push {cls:=.type (strIterType z),data:=.fields #[.str z t,.int 0 0]}}:=g.kept (t':=s1.toks) fun b o e=>AE _ e
 have st:(s1.heap.push {cls:=.type (strIterType z),data:=.fields #[.str z t,.int 0 0]}).IsStrIter s1.heap.objs.size (strIterType z) z t 0:=⟨_,A7 _ rfl,rfl,rfl⟩
 have c:∀ b∈[s1.heap.objs.size],gL X pins H1 b:=fun b u=>by
  obtain rfl:=BA.mp u
  exact g.fpOk (AI _) (g.hok.fresh (AI _))
 by_cases m:(z.cps.all fun x=>decide (x < 128))=true
 .have j:strIterType z="str_ascii_iterator":=by unfold strIterType;rw[AK m]
  rw[j] at st d ⊢
  exact ⟨s1.heap.objs.size,[s1.heap.objs.size],_,_,H1,rfl,d,sV z t "str_ascii_iterator" (fun A k a=>Walks.strAscii k a z t) (fun A a i s Q E st h=>wpAny_pyIter_striter_ascii st h) (by decide) _,st,c,q⟩
 .have j:strIterType z="str_iterator":=by unfold strIterType;rw[AM m]
  rw[j] at st d ⊢
  exact ⟨s1.heap.objs.size,[s1.heap.objs.size],_,_,H1,rfl,d,sV z t "str_iterator" (fun A k a=>Walks.strWide k a z t) (fun A a i s Q E st h=>wpAny_pyIter_striter_wide st h) (by decide) _,st,c,q⟩
structure InK(env:Env)(s₀:S9)(m cm:Str->Option V9)(s:S9):Prop where
 ic:InCall s₀ env.locals m s
 cell:∀ n c,env.cells.lookup n=some c->s.heap.IsCell c (cm n)
 inj:∀ n n' c,env.cells.lookup n=some c->env.cells.lookup n'=some c->n=n'
 ne:∀ n c,env.cells.lookup n=some c->c≠env.locals
 up:∀ n c,env.kindOf n=some .cell->env.cells.lookup n=some c->env.locals < c
section
variable{M:Model}{A:U9}{E:V9->S9->Prop}{s₀ s:S9}{m cm:Str->O9 V9}{env:Env}
theorem InK.stL{n:Str}{v:V9}{Q:Unit->S9->Prop}(x:InK env s₀ m cm s)(j:env.scope.kind=.function)(i:env.kindOf n=some .local)
  (h:∀ s',InK env s₀ (fun y=>if y=n then some v else m y) cm s'->Q () s'):wpAny M A (storeName env n v) Q E s:=by
 refine wpAny_storeName_local i x.ic.ns (fun h' d a=>h _ ⟨⟨?_,d,fun b o e=>?_,x.ic.fresh⟩,fun k c f=>?_,x.inj,x.ne,x.up⟩) (by rw[j];rfl)
 .obtain ⟨g,tk,rfl⟩:=x.ic.same
  exact ⟨h',_,rfl⟩
 .exact a.extBut b o (A3 (AN (AG e) x.ic.fresh)) (x.ic.keep b o e)
 .exact (x.cell k c f).sameBut a (x.ne k c f)
theorem InK.stC{n:Str}{c:Az}{v:V9}{Q:Unit->S9->Prop}(x:InK env s₀ m cm s)(r:env.scope.kind=.function)(p:env.kindOf n=some .cell)
  (g:env.cells.lookup n=some c)
  (h:∀ s',InK env s₀ m (fun y=>if y=n then some v else cm y) s'->Q () s'):wpAny M A (storeName env n v) Q E s:=by
 have i:=x.up n c p g
 refine wpAny_storeName_cell r p g (x.cell n c g) fun h' j f=>h _ ⟨⟨?_,x.ic.ns.sameBut f (A3 i),fun b o e=>?_,x.ic.fresh⟩,fun k q a=>?_,x.inj,x.ne,x.up⟩
 .obtain ⟨l,tk,rfl⟩:=x.ic.same
  exact ⟨h',_,rfl⟩
 .exact f.extBut b o (A3 (Nat.lt_trans (AN (AG e) x.ic.fresh) i)) (x.ic.keep b o e)
 .by_cases d:k=n
  .subst d
   rw[g] at a;cases a
   simpa using j
  .rw[AM d]
   exact (x.cell k q a).sameBut f fun e=>d (x.inj k n q a (e▸g))
theorem InK.binds(f:Str×V9->PUnit->Sem (ForInStep PUnit))(k:∀ n v u,f (n,v) u=(do storeName env n v;pure (.yield ⟨⟩)))(g:env.scope.kind=.function) :
  ∀ (binds:List (Str×V9)) (m cm:Str->O9 V9) (s:S9) (Q:PUnit->S9->Prop),InK env s₀ m cm s->
   (∀ x∈binds,env.kindOf x.1=some .local\/(env.kindOf x.1=some .cell/\(env.cells.lookup x.1).isSome=true))->
   (∀ s',InK env s₀ (bindL env.kindOf binds m) (bindC env.kindOf binds cm) s'->Q ⟨⟩ s')->wpAny M A (forIn binds ⟨⟩ f) Q E s
 | [],m,cm,s,Q,x,_,h=>by rw[List.forIn_nil];exact AD (h s x)
 | (n,v)::r,m,cm,s,Q,x,hkind,h=>by
  rw[CT,k]
  have hr:∀ y∈r,env.kindOf y.1=some .local\/(env.kindOf y.1=some .cell/\(env.cells.lookup y.1).isSome=true):=fun y l=>hkind y (AL _ l)
  rcases hkind (n,v) AX with d|⟨d,i⟩
  .refine AA (AA (x.stL g d fun s' j=>AD (InK.binds f k g r _ _ s' Q j hr fun a b=>h a ?_)))
   unfold bindL bindC;rw[AK d,AK d];exact b
  .obtain ⟨c,i⟩:=ES.mp i
   have e:¬ env.kindOf n=some .local:=by rw[d];decide
   refine AA (AA (x.stC g d i fun s' j=>AD (InK.binds f k g r _ _ s' Q j hr fun a b=>h a ?_)))
   unfold bindL bindC;rw[AM e,AM e];exact b
end
theorem hX:∀ (names:List (Str×NameKind)) (n:Nat) (acc:List (Str×Az)),cellsFrom n names acc=cellsFrom n names []++acc
 | [],_,_=>rfl
 | (x,k)::r,n,acc=>by
  unfold cellsFrom
  split
  · rw [hX r (n + 1) ((x, n) :: acc), hX r (n + 1) [(x, n)], List.append_assoc]; rfl
  · exact hX r n acc
theorem j7:∀ (names:List (Str×NameKind)) (n:Nat) {x:Str} {c:Az},(x,c)∈cellsFrom n names []->(x,NameKind.cell)∈names
 | [],_,_,_,h=>by simp[cellsFrom] at h
 | (y,k)::r,n,x,c,h=>by
  unfold cellsFrom at h
  split at h
  .rename_i hk
   rw[hX] at h
   rcases B6.mp h with h|h
   .exact AL _ (j7 r _ h)
   .have:(x,c)=(y,n):=by simpa using h
    cases this
    rw[DH hk];exact AX
  .exact AL _ (j7 r _ h)
theorem lD{α:Type}{x:Str}:∀ {l l':List (Str×α)},(l++l').lookup x=(l.lookup x).or (l'.lookup x)
 | [],l'=>by simp
 | (y,v)::r,l'=>by
  rw[A1,A0,A0]
  cases x == y with
  | true=>rfl
  | false=>exact lD
theorem j8{α:Type}{x:Str}{l:List (Str×α)}(h:∀ v,(x,v)∉l):l.lookup x=none:=by
 cases e:l.lookup x with
 | none=>rfl
 | some v=>exact absurd (A8 e) (h v)
noncomputable def bY(qual:Str)(scope:Scope)(L f:Az)(cd:V9)(cl:List (Str×Az)):Env:=newEnv scope L mainGlobals (cellsFrom (L+1) scope.names cl) (qual++".<locals>.") (some f) cd none builtinsNs
structure ClAt(h:Heap)(scope:Scope)(cl:List (Str×Az))(cm:Str->Option V9):Prop where
 cell:∀ n c,cl.lookup n=some c->h.IsCell c (cm n)
 inj:∀ n n' c,cl.lookup n=some c->cl.lookup n'=some c->n=n'
 off:∀ y∈scope.names,y.2=.cell->cl.lookup y.1=none
section
variable{M:Model}{A:U9}{E:V9->S9->Prop}{s:S9}
theorem aDL{scope:Scope}{binds:List (Str×V9)}{qual:Str}{f:Az}{cd:V9}{cl:List (Str×Az)}{cm:Str->O9 V9}{Q:Env->S9->Prop}
  (z:scope.kind=.function) (C:ClAt s.heap scope cl cm)
  (k:∀ x∈binds,scope.names.lookup x.1=some .local\/scope.names.lookup x.1=some .cell)
  (v:∀ s',InK (bY qual scope s.heap.objs.size f cd cl) s (bindL (bY qual scope s.heap.objs.size f cd cl).kindOf binds fun _=>none) (bindC (bY qual scope s.heap.objs.size f cd cl).kindOf binds fun n=>if (cl.lookup n).isSome then cm n else none) s'->Q (bY qual scope s.heap.objs.size f cd cl) s') :
  wpAny M A (newFunctionEnv scope mainGlobals cl binds (qual++".<locals>.") (some f) cd none builtinsNs) Q E s:=by
 simp only[newFunctionEnv,Option.isSome_none,A2,BS]
 refine AA (wpAny_alloc ?_)
 refine AA (wpAny_layCells _ (fun name kind cells=>by cases m:kind == NameKind.cell<;>simp[m]) _ _ _ _ ?_)
 have ok:=cellsFrom_ok scope.names (s.heap.push {cls:=.type "frame",data:=.dict #[]}) (s.heap.objs.size+1) [] ⟨fun _ _ w=>(nomatch w),List.Pairwise.nil⟩ (by rw[CG];exact AI _)
 rw[CG] at ok
 rw[show ({s with heap:=s.heap.push {cls:=.type "frame",data:=.dict #[]}}:S9).heap.objs.size=s.heap.objs.size+1 from CG ..]
 have j:∀ b o,s.heap.get? b=some o->(pushCells (s.heap.push {cls:=.type "frame",data:=.dict #[]}) scope.names).get? b=some o:=fun b o e=>pushCells_keeps _ _ b o (AE _ e)
 have h:(bY qual scope s.heap.objs.size f cd cl).cells=cellsFrom (s.heap.objs.size+1) scope.names []++cl:=hX _ _ _
 have i:∀ n c,(bY qual scope s.heap.objs.size f cd cl).cells.lookup n=some c->((cellsFrom (s.heap.objs.size+1) scope.names []).lookup n=some c/\cl.lookup n=none)\/((cellsFrom (s.heap.objs.size+1) scope.names []).lookup n=none/\cl.lookup n=some c):=fun n c e=>by
  rw[h,lD] at e
  cases q:(cellsFrom (s.heap.objs.size+1) scope.names []).lookup n with
  | none=>rw[q] at e;exact .inr ⟨rfl,by simpa using e⟩
  | some d=>
   rw[q] at e
   have p:some d=some c:=by simpa using e
   cases p
   exact .inl ⟨rfl,C.off (n,.cell) (j7 _ _ (A8 q)) rfl⟩
 have big:∀ n c,(cellsFrom (s.heap.objs.size+1) scope.names []).lookup n=some c->s.heap.objs.size < c:=fun n c e=>(ok.empty n c (A8 e)).2
 have a:∀ n c,cl.lookup n=some c->c < s.heap.objs.size:=fun n c e=>(C.cell n c e).lt
 refine AA (InK.binds (s₀:=s) (env:=bY qual scope s.heap.objs.size f cd cl)
  _ (fun _ _ _=>rfl) z binds (fun _=>none) (fun n=>if (cl.lookup n).isSome then cm n else none) _ _
  ⟨⟨⟨_,_,rfl⟩,(Heap.Ns.new s.heap (.type "frame")).keeps (pushCells_keeps _ _),j,AI _⟩,fun n c e=>?_,fun n t c e p=>?_,fun n c e=>?_,fun n c u e=>?_⟩
  (fun x y=>?_) fun s' x=>AD (v s' x))
 .rcases i n c e with ⟨q,g⟩|⟨q,g⟩
  .rw[g];exact (ok.empty n c (A8 q)).1
  .rw[g];exact (C.cell n c g).keeps j
 .rcases i n c e with ⟨q,g⟩|⟨q,g⟩<;>rcases i t c p with ⟨r,l⟩|⟨r,l⟩
  .exact name_of_addr ok.apart (A8 q) (A8 r)
  .exact absurd (big _ _ q) (Nat.not_lt.mpr (C3 (a _ _ l)))
  .exact absurd (big _ _ r) (Nat.not_lt.mpr (C3 (a _ _ g)))
  .exact C.inj n t c g l
 .show c≠s.heap.objs.size
  rcases i n c e with ⟨q,g⟩|⟨q,g⟩
  .exact CA (big _ _ q)
  .exact A3 (a _ _ g)
 .show s.heap.objs.size < c
  rcases i n c e with ⟨q,g⟩|⟨q,g⟩
  .exact big _ _ q
  .rw[C.off (n,.cell) (A8 u) rfl] at g;cases g
 .rcases k x y with q|q
  .exact .inl q
  .refine .inr ⟨q,?_⟩
   obtain ⟨c,e⟩:=jU (n:=s.heap.objs.size+1) q
   rw[h,lD,e];rfl
end
noncomputable def hid(cs:List Az)(H:Hp):Hp:=fun b=>if b∈cs then none else H b
noncomputable def shw(cs:List Az)(H H':Hp):Hp:=fun b=>if b∈cs then H b else H' b
theorem oZ{a:List Az}{H:Hp}{b:Az}(h:b∈a):hid a H b=none:=AK h
theorem cD{a:List Az}{H:Hp}{b:Az}(h:b∉a):hid a H b=H b:=AM h
theorem mF{a:List Az}{H H':Hp}{b:Az}(h:b∈a):shw a H H' b=H b:=AK h
theorem dB{a:List Az}{H H':Hp}{b:Az}(h:b∉a):shw a H H' b=H' b:=AM h
theorem gT{a:List Az}{H:Hp}{b:Az}(h:H b=none):hid a H b=none:=by
 by_cases q:b∈a
 · exact oZ q
 · rw [cD q]; exact h
theorem sW{a:List Az}{H:Hp}{b:Az}{o:HO}(h:hid a H b=some o):H b=some o/\b∉a:=by
 by_cases q:b∈a
 · rw [oZ q] at h; cases h
 · rw [cD q] at h; exact ⟨h, q⟩
def FnO(f:Az)(o:Obj):HO:=.ext fun h=>h.get? f=some o
def eP(c:Az)(o:Obj)(v:V):HO:=.frz o (.ext fun h=>∃ u,aU v u/\h.IsCell c (some u))
section
variable{P:P9}{w:W9}{H:Hp}{h:H9}
theorem FnO.get{f:Az}{o:Obj}(x:HOk P w H h)(e:H f=some (FnO f o)):h.get? f=some o:=(x f _ e).1
theorem eP.get{c:Az}{o:Obj}{v:V}(x:HOk P w H h)(e:H c=some (eP c o v)):h.get? c=some o/\∃ u,aU v u/\h.IsCell c (some u):=⟨(x c _ e).1,(x c _ e).2.1⟩
theorem FnO.ok{f:Az}{o:Obj}(e:h.get? f=some o):bP P w H h f (FnO f o):=⟨e,⟨o,e⟩,fun h1 h2 q k=>k o q⟩
theorem eP.ok{c:Az}{o:Obj}{v:V}{u:V9}(r:aU v u)(e:h.get? c=some o)(a:o.data=.cell (some u)):bP P w H h c (eP c o v):=
 ⟨e,⟨u,r,o,e,a⟩,⟨o,e⟩,fun h1 h2 ⟨u,r,o,b,a⟩ k=>⟨u,r,o,k o b,a⟩⟩
end
def Celd(cs:List Az)(H:Hp):Prop:=∀ c∈cs,∃ o v,H c=some (eP c o v)
theorem Celd.out{a:List Az}{H:Hp}(h:Celd a H){b:Az}{o:HO}(e:H b=some o)(n:∀ o' v,o≠eP b o' v):b∉a:=fun z=>by
 obtain ⟨o',v,q⟩:=h b z
 rw[q] at e;cases e
 exact n o' v rfl
theorem HOk.hid{P:P9}{w:W9}{H:Hp}{h:H9}{d:List Az}(x:HOk P w H h)(a:Celd d H):HOk P w (hid d H) h:=fun b u e=>by
 obtain ⟨e1,_⟩:=sW e
 exact (x b u e1).stay (fun _ _ _ q=>q) (fun c q=>by rw[cD (a.out q fun _ v z=>nomatch z)];exact q) (fun c _ q=>by rw[cD (a.out q fun _ v z=>nomatch z)];exact q) fun c _ q=>by rw[cD (a.out q fun _ v z=>nomatch z)];exact q
structure CloScope(N ps fr:List Str)(sc:Scope):Prop where
 kind:sc.kind=.function
 co:sc.isCoroutine=false
 gen:sc.isGenerator=false
 nd:N.Nodup
 pre:N.take (ps++fr).length=ps++fr
 par:∀ x∈ps,sc.names.lookup x=some .local\/sc.names.lookup x=some .cell
 cap:∀ x∈fr,sc.names.lookup x=some .free
 only:∀ y∈sc.names,y.2=.free->y.1∈fr
 off:∀ y∈sc.names,y.2=.cell->y.1∉fr
structure CapAt(H:Hp)(fr:List Str)(cl:List (Str×Az))(vs:List V):Prop where
 len:vs.length=fr.length
 only:∀ n c,cl.lookup n=some c->n∈fr
 inj:∀ n n' c,cl.lookup n=some c->cl.lookup n'=some c->n=n'
 at':∀ (i:Nat) x v,fr[i]? = some x->vs[i]? = some v->∃ c o,cl.lookup x=some c/\H c=some (eP c o v)
theorem CapAt.get{H:Hp}{fr:List Str}{cl:List (Str×Az)}{vs:List V}(a:CapAt H fr cl vs){n:Str}{c:Az}(e:cl.lookup n=some c):∃ o v,H c=some (eP c o v):=by
 obtain ⟨i,hi,d⟩:=EC.mp (a.only n c e)
 obtain ⟨f,o,b,q⟩:=a.at' i n (vs[i]'(by rw[a.len];exact hi)) (by rw[AS hi,d]) (AS _)
 rw[e] at b;cases b
 exact ⟨_,_,q⟩
noncomputable def aX(fr:List Str)(cl:List (Str×Az)):List Az:=fr.filterMap fun x=>cl.lookup x
theorem CapAt.celd{H:Hp}{fr:List Str}{cl:List (Str×Az)}{vs:List V}(a:CapAt H fr cl vs):Celd (aX fr cl) H:=fun c b=>by
 obtain ⟨x,_,e⟩:=CN.mp b
 exact a.get e
theorem CapAt.same{H H':Hp}{fr:List Str}{cl:List (Str×Az)}{vs:List V}(a:CapAt H fr cl vs)(s:aH H H'):CapAt H' fr cl vs:=⟨a.len,a.only,a.inj,fun i x v h1 h2=>let ⟨c,o,e,q⟩:=a.at' i x v h1 h2;⟨c,o,e,s _ _ q⟩⟩
noncomputable def i6(CX:CXT)(P:P9)(w:W9)(K:Frag)(mg:Str->O9 V9)(base:H9)(N fr:List Str)(qual:Str)(scope:Scope)(f:Az)(cd:V9)(cl:List (Str×Az))(A:U9)(outer:List Env)(s:S9)(H:Hp)(E:XK):Cx where
 prog:=P
 w:=w
 K:=K
 mg:=mg
 base:=base
 A:=A.deeper (bY qual scope s.heap.objs.size f cd cl)
 N:=N
 s₀:=s
 H₀:=hid (aX fr cl) H
 env:=bY qual scope s.heap.objs.size f cd cl
 outer:=outer
 stack:=bY qual scope s.heap.objs.size f cd cl::outer
 ex:=[]
 calm:=true
 fn:=fun x=>(cl.lookup x).isNone
 pn:=[]
 xe:=fun e s'=>wpAny (model P w) (A.deeper (bY qual scope s.heap.objs.size f cd cl)) (leaving (bY qual scope s.heap.objs.size f cd cl) e) (fun _ s''=>CX outer H s E e s'') (fun e' s''=>CX outer H s E e' s'') s'
section
variable{CX:CXT}{P:P9}{w:W9}{K:Frag}{mg:Str->O9 V9}{base:H9}{N ps fr:List Str}{qual:Str}{scope:Scope}{f:Az}{cd:V9}{cl:List (Str×Az)}{A:U9}{outer:List Env}{s s1:S9}{H:Hp}{E:XK}{us:List V9}{vs cvs:List V}
theorem aDM{h:H9}(hok:HOk P w H h)(C:CapAt H fr cl cvs):∃ cm:Str->O9 V9,(∀ n c,cl.lookup n=some c->∃ v u,(∃ o,H c=some (eP c o v))/\aU v u/\cm n=some u/\h.IsCell c (some u)):=by
 have a:∀ n,∃ x:O9 V9,∀ c,cl.lookup n=some c->∃ v u,(∃ o,H c=some (eP c o v))/\aU v u/\x=some u/\h.IsCell c (some u):=fun n=>by
  cases e:cl.lookup n with
  | none=>exact ⟨none,fun c z=>nomatch z⟩
  | some c=>
   obtain ⟨o,v,q⟩:=C.get e
   obtain ⟨_,u,r,z⟩:=eP.get hok q
   exact ⟨some u,fun d b=>by cases b;exact ⟨v,u,⟨o,q⟩,r,rfl,z⟩⟩
 exact ⟨fun n=>(a n).choose,fun n c e=>(a n).choose_spec c e⟩
theorem lE{n:Str}{L:Nat}:(bY qual scope L f cd cl).cells.lookup n=((cellsFrom (L+1) scope.names []).lookup n).or (cl.lookup n):=by
 rw[show (bY qual scope L f cd cl).cells=cellsFrom (L+1) scope.names []++cl from hX _ _ _,lD]
theorem nC{n:Str}{c:Az}{L:Nat}(S:CloScope N ps fr scope)(C:CapAt H fr cl cvs)(e:cl.lookup n=some c):(bY qual scope L f cd cl).cells.lookup n=some c:=by
 rw[lE,j8 fun v a=>S.off (n,.cell) (j7 _ _ a) rfl (C.only n c e)]
 simpa using e
theorem w4{cm:Str->O9 V9}(S:CloScope N ps fr scope)(C:CapAt H fr cl cvs)(Y:A.handled=none)(e0:Env0 P w K mg base A outer s H)(O:vs.length=ps.length)(r:aW vs us)
  (T:∀ n c,cl.lookup n=some c->∃ v u,(∃ o,H c=some (eP c o v))/\aU v u/\cm n=some u/\s.heap.IsCell c (some u))
  (x:InK (bY qual scope s.heap.objs.size f cd cl) s (bindL (bY qual scope s.heap.objs.size f cd cl).kindOf (ps.zip us) fun _=>none) (bindC (bY qual scope s.heap.objs.size f cd cl).kindOf (ps.zip us) fun n=>if (cl.lookup n).isSome then cm n else none) s1) :
  Inv (i6 CX P w K mg base N fr qual scope f cd cl A outer s H E) [] (start N (vs++cvs)) (hid (aX fr cl) H) s1:=by
 have aa:(ps++fr).length<=N.length:=by have:=D2 List.length S.pre;rw[B3] at this;omega
 have W:(vs++cvs).length=(ps++fr).length:=by rw[A6,A6,O,C.len]
 obtain ⟨h1,tk,rfl,G⟩:=x.ic.done
 have g:∀ b:Az,b∉(i6 CX P w K mg base N fr qual scope f cd cl A outer s H E).ex:=fun b z=>absurd (show b∈([]:List Az) from z) (by simp)
 have B:∀ y c,cl.lookup y=none->(bY qual scope s.heap.objs.size f cd cl).cells.lookup y=some c->s.heap.objs.size < c:=fun y c n e=>by
  rw[lE,n] at e
  have m:(cellsFrom (s.heap.objs.size+1) scope.names []).lookup y=some c:=by simpa using e
  have ok:=cellsFrom_ok scope.names (s.heap.push {cls:=.type "frame",data:=.dict #[]}) (s.heap.objs.size+1) [] ⟨fun _ _ Z=>(nomatch Z),List.Pairwise.nil⟩ (by rw[CG];exact AI _)
  rw[CG] at ok
  exact (ok.empty y c (A8 m)).2
 refine ⟨⟨e0.mod,S.kind,rfl,rfl,AI _,fun y z c h1 h2=>x.inj y z c h1 h2,fun y l=>?_,fun y c F h=>?_,fun _=>Y,Around.frames_deeper e0.frames,.inr ⟨rfl,rfl⟩,fun b z=>absurd z (g b),fun b o e=>⟨(e0.bs b o e).1,gT (e0.bs b o e).2⟩,e0.bsz,fun b _ _=>g b,fun b z=>absurd z (g b),e0.funs,fun b V=>gT (e0.frf b V)⟩,
  rfl,e0.bare,Un.kept G,⟨_,x.ic.ns,fun i y v h1 h2 h3=>?_⟩,fun y c h=>⟨_,x.cell y c h⟩,gT (e0.hok.fresh (AI _)),fun y c h=>?_,fun p d=>absurd (show p∈([]:List (Az×Obj)) from d) (by simp),(e0.hok.hid C.celd).kept G,?_⟩
 .have l:scope.names.lookup y=some .cell\/scope.names.lookup y=some .free:=l
  rcases l with l|l
  .obtain ⟨c,e⟩:=jU (n:=s.heap.objs.size+1) l
   exact ⟨c,by show (bY qual scope s.heap.objs.size f cd cl).cells.lookup y=_;rw[lE,e];rfl⟩
  .obtain ⟨i,hi,U⟩:=EC.mp (S.only _ (A8 l) rfl)
   obtain ⟨c,_,e,_⟩:=C.at' i y (cvs[i]'(by rw[C.len];exact hi)) (by rw[AS hi,U]) (AS _)
   exact ⟨c,nC S C e⟩
 .have F:(cl.lookup y).isNone=true:=F
  exact C3 (B y c (EQ.mp F) h)
 .have hi:i < (vs++cvs).length:=by
   unfold start at h2
   by_cases hi:i < (vs++cvs).length
   .exact hi
   .rw[CC (by simpa using hi)] at h2
    rw[DV] at h2
    split at h2<;>cases h2
  have D:(vs++cvs)[i]? = some v:=by
   unfold start at h2
   rw[B2 (by simpa using hi),BC] at h2
   cases e:(vs++cvs)[i]? with
   | none=>rw[e] at h2;cases h2
   | some a=>rw[e] at h2;cases h2;rfl
  have d:(ps++fr)[i]? = some y:=by
   rw[<-S.pre,ET (by omega)];exact h1
  have I:(ps++fr).Nodup:=by rw[<-S.pre];exact S.nd.sublist (List.take_sublist _ _)
  have t:ps.Nodup:=(List.nodup_append.mp I).1
  by_cases J:i < ps.length
  .rw[B2 (by omega)] at D
   rw[B2 J] at d
   obtain ⟨u,M,Q⟩:=r.get D
   refine ⟨u,Q,?_⟩
   rcases S.par y (CI d) with k|k
   .exact .inl ⟨k,l9 t d M k⟩
   .obtain ⟨c,e⟩:=jU (n:=s.heap.objs.size+1) k
    have m:(bY qual scope s.heap.objs.size f cd cl).cells.lookup y=some c:=by rw[lE,e];rfl
    refine .inr ⟨.inl k,c,m,?_⟩
    have q:=x.cell y c m
    rw[mB t d M (by show scope.names.lookup y≠_;rw[k];decide)] at q
    exact q
  .rw[CC (by omega)] at D
   rw[CC (by omega)] at d
   rw[O] at D
   obtain ⟨c,o,e,q⟩:=C.at' _ y v d D
   obtain ⟨_,R,r2,X⟩:=eP.get e0.hok q
   have m:=nC (qual:=qual) (f:=f) (cd:=cd) (L:=s.heap.objs.size) S C e
   have j:scope.names.lookup y=some .free:=S.cap y (CI d)
   refine ⟨R,r2,.inr ⟨.inr j,c,m,?_⟩⟩
   exact X.keeps G
 .cases e:cl.lookup y with
  | none=>exact gT (e0.hok.fresh (C3 (B y c e h)))
  | some c'=>
   have h':=nC (qual:=qual) (f:=f) (cd:=cd) (L:=s.heap.objs.size) S C e
   have h:(bY qual scope s.heap.objs.size f cd cl).cells.lookup y=some c:=h
   rw[h] at h';cases h'
   exact oZ (CN.mpr ⟨y,C.only y c e,e⟩)
 .unfold start
  show _=N.length
  rw[A6,AQ,CS]
  omega
theorem sX{pins:List (Az×Obj)}{σ:St}{H':Hp}{s':S9}(S:CloScope N ps fr scope)(C:CapAt H fr cl cvs)(e0:Env0 P w K mg base A outer s H)(J:Inv (i6 CX P w K mg base N fr qual scope f cd cl A outer s H E) pins σ H' s') :
  (∀ c∈aX fr cl,H' c=none)/\Un (frs outer) [] H (shw (aX fr cl) H H') s.heap s'.heap/\HOk P w (shw (aX fr cl) H H') s'.heap:=by
 have un:Un (frs outer) [] (hid (aX fr cl) H) H' s.heap s'.heap:=J.base
 have d:∀ c∈aX fr cl,H' c=none:=fun c j=>by
  obtain ⟨x,_,e⟩:=CN.mp j
  exact J.freeC x c (nC S C e)
 have out:∀ b,H b=none->b∉aX fr cl:=fun b n z=>by
  obtain ⟨o,v,q⟩:=C.celd b z
  rw[n] at q;cases q
 refine ⟨d,⟨fun b o e n h1 h2=>un.keep b o e (gT n) h1 h2,fun b o e n h1 h2=>un.slot b o e (gT n) h1 h2,fun b o e n h2=>by rw[dB (out b n)];exact un.free b o e (gT n) h2,un.there,
  fun b xs q=>?_,fun b o u q=>?_,fun b ps q=>?_⟩,fun b u e=>?_⟩
 .have a:=C.celd.out q fun _ v z=>nomatch z
  rw[dB a];exact un.tups b xs (by rw[cD a];exact q)
 .by_cases a:b∈aX fr cl
  .rw[mF a];exact q
  .rw[dB a];exact un.frzs b o u (by rw[cD a];exact q)
 .have a:=C.celd.out q fun _ v z=>nomatch z
  rw[dB a];exact un.tbls b ps (by rw[cD a];exact q)
 .by_cases a:b∈aX fr cl
  .rw[mF a] at e
   obtain ⟨o,v,q⟩:=C.celd b a
   rw[q] at e;cases e
   obtain ⟨i,u,r,l,g,k⟩:=eP.get e0.hok q
   rw[i] at g;cases g
   exact eP.ok r (un.keep b o i (oZ a) (fun z=>by have:=e0.frf b z;rw[q] at this;cases this) (by simp)) k
  .rw[dB a] at e
   have h:∀ c o,H' c=some o->c∉aX fr cl:=fun c o q z=>by rw[d c z] at q;cases q
   exact (J.hok b u e).stay (fun _ _ _ q=>q) (fun c q=>by rw[dB (h c _ q)];exact q) (fun c _ q=>by rw[dB (h c _ q)];exact q) fun c _ q=>by rw[dB (h c _ q)];exact q
end
section
variable{P:P9}{w:W9}{K:Frag}{mg:Str->O9 V9}{base:H9}{N ps fr:List Str}{qual:Str}{scope:Scope}{f:Az}{cd:V9}{cl:List (Str×Az)}{A:U9}{outer:List Env}{s:S9}{H:Hp}{E:XK}{cvs:List V}
theorem w6{j:V9}{s':S9}(S:CloScope N ps fr scope)(C:CapAt H fr cl cvs)(e0:Env0 P w K mg base A outer s H)
  (h:Fly (i6 (CXe P w) P w K mg base N fr qual scope f cd cl A outer s H E) (fun c e H'=>(∀ a∈aX fr cl,H' a=none)->E c e (shw (aX fr cl) H H')) j s'):(i6 (CXe P w) P w K mg base N fr qual scope f cd cl A outer s H E).xe j s':=by
 obtain ⟨e,l,od,σ,H',rfl,I,p,q⟩:=h
 show wpAny (model P w) _ (leaving _ (.ref e)) _ _ s'
 unfold leaving
 have r:j5 (i6 (CXe P w) P w K mg base N fr qual scope f cd cl A outer s H E):=⟨rfl,rfl⟩
 refine AA (lB r I p fun u k m=>kO k m fun x i g=>?_)
 obtain ⟨vs,T,a,b,c,_⟩:=g.tb
 obtain ⟨d,un,hok⟩:=sX S C e0 i
 have n:∀ c o,H' c=some o->c∉aX fr cl:=fun c o q z=>by rw[d c z] at q;cases q
 refine ⟨e,l,od,_,rfl,i.os,i.bare,un,hok,by rw[dB (n _ _ g.tr)];exact g.tr,⟨vs,T,a,b,fun t e1=>⟨?_,(c t e1).2.1⟩⟩,q d⟩
 rw[dB]
 .exact (c t e1).1
 .intro z
  obtain ⟨o,v,q⟩:=C.celd t z
  exact absurd (AN (e0.hok.lt q) (c t e1).2.1) (BF _)
end
structure ClSt where
 name:Str
 qual:Str
 params:Arguments
 body:FuncBody
 scope:Scope
noncomputable def ClSt.fd(S:ClSt)(cl:List (Str×Az))(doc pm:V9)(c:Az)(ct:V9):FuncData:=
 {name:=S.name,qualname:=S.qual,params:=S.params,body:=S.body,scope:=S.scope,globals:=mainGlobals,closure:=cl,defaults:=.none,kwdefaults:=.none,doc:=doc,pyModule:=pm,annotations:=none,code:=.ref c,closureTuple:=ct,builtins:=builtinsNs}
abbrev ClSt.obj(S:ClSt)(cl:List (Str×Az))(doc pm:V9)(c:Az)(ct:V9):Obj:={cls:=.type "function",data:=.func (S.fd cl doc pm c ct)}
section
variable{P:P9}{w:W9}{K:Frag}{mg:Str->O9 V9}{base:H9}{N ps fr:List Str}{S:ClSt}{f c:Az}{cl:List (Str×Az)}{A:U9}{outer:List Env}{s:S9}{H:Hp}{E:XK}{Q:VK}{cvs vs:List V}{us:List V9}{args:Args}{doc pm ct:V9}{k:Nat}
theorem aAZ(Sc:CloScope N ps fr S.scope):∀ y∈ps.zip us,S.scope.names.lookup y.1=some .local\/S.scope.names.lookup y.1=some .cell:=fun ⟨n,v⟩ a=>Sc.par n (DM a).1
theorem aF7{h:H9}(hok:HOk P w H h)(Sc:CloScope N ps fr S.scope)(C:CapAt H fr cl cvs){cm:Str->O9 V9}(a:∀ n c,cl.lookup n=some c->∃ v u,(∃ o,H c=some (eP c o v))/\aU v u/\cm n=some u/\h.IsCell c (some u)):ClAt h S.scope cl cm where
 cell:=fun n c e=>by
  obtain ⟨v,u,_,_,e1,z⟩:=a n c e
  rw[e1];exact z
 inj:=C.inj
 off:=fun y b d=>by
  cases e:cl.lookup y.1 with
  | none=>rfl
  | some c=>exact absurd (C.only _ _ e) (Sc.off y b d)
theorem yW{body:List Stmt}(T:S.body=.stmts body)(G:H f=some (FnO f (S.obj cl doc pm c ct)))(D:H c=some (.cod S.qual))(Sc:CloScope N ps fr S.scope)(C:CapAt H fr cl cvs)(m:Room (k+1) A)
  (e0:Env0 P w K mg base A outer s H) (y:BindsTo s (S.fd cl doc pm c ct) args (ps.zip us)) (r:aW vs us) (L:vs.length=ps.length)
  (g:Room k (A.deeper (bY S.qual S.scope s.heap.objs.size f (.ref c) cl))->∃ t,PSs ((i6 (CXe P w) P w K mg base N fr S.qual S.scope f (.ref c) cl A outer s H E).fly fun c e H'=>(∀ a∈aX fr cl,H' a=none)->E c e (shw (aX fr cl) H H')) body t /\
   t {nx:=fun _ H'=>(∀ a∈aX fr cl,H' a=none)->Q .non (shw (aX fr cl) H H'),rt:=fun v H'=>(∀ a∈aX fr cl,H' a=none)->Q v (shw (aX fr cl) H H')} (start N (vs++cvs)) (hid (aX fr cl) H)) :
  codeAny (model P w) A (.call (.ref f) args) (CR (CXe P w) outer P w H s Q E) s:=by
 have n:s.heap.NoLimit:=e0.mod.nolimit.keeps fun b o e=>(e0.bs b o e).1
 obtain ⟨cm,i⟩:=aDM e0.hok C
 have p:s.heap.CodeRec (.ref c) S.qual:=e0.hok c _ D
 refine D6 m.depth (FnO.get e0.hok G) rfl Sc.co Sc.gen T p (y _ _ _ _ ?_)
 refine aDL (cm:=cm) Sc.kind (aF7 e0.hok Sc C i) (aAZ Sc) fun s1 x=>?_
 refine ⟨n.keeps x.ic.keep,codeAny_func ?_⟩
 obtain ⟨t,F,O⟩:=g (m.deeper _)
 have I:Inv (i6 (CXe P w) P w K mg base N fr S.qual S.scope f (.ref c) cl A outer s H E) [] (start N (vs++cvs)) (hid (aX fr cl) H) s1:=w4 Sc C m.hd e0 L r i x
 have B:=F.unfly fun _ _ z=>w6 Sc C e0 z
 refine BG (B [] s1 _ _ _ I O) (fun R s' h=>?_) fun e s' h=>h
 have j:∀ {d:St} {H':Hp} {v:V} {u:V9},Inv (i6 (CXe P w) P w K mg base N fr S.qual S.scope f (.ref c) cl A outer s H E) [] d H' s'->aU v u->((∀ a∈aX fr cl,H' a=none)->Q v (shw (aX fr cl) H H'))->CE outer P w H s Q u s':=
  fun {d H' v u} J l q=>by
   obtain ⟨M,un,hok⟩:=sX Sc C e0 J
   exact ⟨v,_,J.os,J.bare,un,hok,l,q M⟩
 cases R with
 | ret u=>
  obtain ⟨v,d,H',J,l,q⟩:=h
  exact j J l q
 | next=>
  obtain ⟨d,H',J,q⟩:=h
  exact j (v:=V.non) (u:=Value.none) J rfl q
 | brk=>
  obtain ⟨_,_,_,q⟩:=h
  exact False.elim q
 | cont=>
  obtain ⟨_,_,_,q⟩:=h
  exact False.elim q
end
theorem w8{env:Env}:∀ (names:List (Str×NameKind)) (acc:List (Str×Az)),(∀ x∈names,x.2=.free->∃ c,env.cells.lookup x.1=some c)->
  (∀ x c,acc.lookup x=some c->env.cells.lookup x=some c)->
  ∃ cl,(forIn names acc fun x r=>(if (x.2 == NameKind.free)=true then (do let a <-cellOf env x.1;pure (ForInStep.yield ((x.1,a)::r))) else pure (ForInStep.yield r)):Sem (List (Str×Az)))=pure cl /\
   (∀ x c,cl.lookup x=some c->env.cells.lookup x=some c)/\(∀ x∈names,x.2=.free->∃ c,cl.lookup x.1=some c)/\(∀ x c,acc.lookup x=some c->∃ c',cl.lookup x=some c') /\
   (∀ x c,cl.lookup x=some c->(∃ c',acc.lookup x=some c')\/(x,NameKind.free)∈names):=by
 intro names
 induction names with
 | nil=>intro acc _ h;exact ⟨acc,rfl,h,fun x p=>absurd p (by simp),fun x c e=>⟨c,e⟩,fun x c e=>.inl ⟨c,e⟩⟩
 | cons x r ih=>
  intro acc o h
  obtain ⟨n,k⟩:=x
  by_cases m:k=.free
  .subst m
   obtain ⟨c,i⟩:=o (n,.free) AX rfl
   have i:env.cells.lookup n=some c:=i
   obtain ⟨cl,e1,e2,j,g,l⟩:=ih ((n,c)::acc) (fun y f=>o y (AL _ f)) (fun y d e=>by
    rw[A0] at e
    cases q:y == n with
    | true=>rw[q] at e;cases e;have:=DH q;subst this;exact i
    | false=>rw[q] at e;exact h y d e)
   refine ⟨cl,?_,e2,fun y f b=>?_,fun y d e=>?_,fun y d e=>?_⟩
   .rw[CT]
    simp only[CL,BD]
    unfold cellOf
    simp only[i,pure_bind]
    exact e1
   .rcases AT.mp f with z|z
    .subst z
     exact g n c (by rw[A0];simp)
    .exact j y z b
   .by_cases q:y=n
    .subst q;exact g y c (by rw[A0];simp)
    .exact g y d (by rw[A0,B8 q];exact e)
   .rcases l y d e with ⟨c',z⟩|z
    .by_cases q:y=n
     .subst q;exact .inr AX
     .rw[A0,B8 q] at z
      exact .inl ⟨c',z⟩
    .exact .inr (AL _ z)
  .obtain ⟨cl,e1,e2,j,g,l⟩:=ih acc (fun y f=>o y (AL _ f)) h
   refine ⟨cl,?_,e2,fun y f b=>?_,g,fun y d e=>(l y d e).imp id fun z=>AL _ z⟩
   .rw[CT]
    have:(k == NameKind.free)=false:=by simpa using m
    simp only[this,A2,BS,pure_bind]
    exact e1
   .rcases AT.mp f with z|z
    .subst z;exact absurd b m
    .exact j y z b
structure ClOf(cells:List (Str×Az))(sc:Scope)(cl:List (Str×Az)):Prop where
 of:∀ x c,cl.lookup x=some c->cells.lookup x=some c
 all:∀ x∈sc.names,x.2=.free->∃ c,cl.lookup x.1=some c
 only:∀ x c,cl.lookup x=some c->(x,NameKind.free)∈sc.names
theorem sY{env:Env}{scope:Scope}(d:∀ x∈scope.names,x.2=.free->∃ c,env.cells.lookup x.1=some c) :
  ∃ cl,closureFor scope env=pure cl/\ClOf env.cells scope cl:=by
 obtain ⟨cl,e1,e2,a,_,b⟩:=w8 scope.names [] d (fun x c e=>by simp at e)
 refine ⟨cl,?_,e2,a,fun x c e=>?_⟩
 .unfold closureFor
  first
   | exact e1
   | (rw[<-e1];rfl)
   | (simp only[bind_pure];exact e1)
 .rcases b x c e with ⟨f,z⟩|z
  .simp at z
  .exact z
theorem yX{pos:Pos}{r:List V9}(l:List V9)(h:TriplesOk l):codeAmong pos (l++r)=(codeAmong pos l).or (codeAmong pos r):=by
 fun_induction TriplesOk l with
 | case1=>simp[codeAmong]
 | case2 a t b u x rest ih=>
  simp only[A1,codeAmong]
  split
  · rfl
  · exact ih h
 | case3 l h1 h2=>exact h.elim
structure Tb(mg:Str->Option V9)(base:Heap)(c0 P0:Az):Prop where
 hd:PySem.W.CodeHd base c0 P0
 bt:∃ bm ob,mg "__builtins__"=some (.ref bm)/\bm≠builtinsNs/\base.get? bm=some ob/\ob.cls=.type "module"/\ob.dict=some builtinsNs/\ob.data=.plain
section
variable{X:Cx}{pins:List (Az×Obj)}{σ:St}{H:Hp}{s:S9}{c0 P0:Az}{qs:List (Pos×Str)}{pos:Pos}{q:Str}
theorem yY{ps:Array V9}{c:Az}{h h':H9}(D:HOk X.prog X.w H h)(k:H P0=some (.tbl qs))(y:h.get? P0=some (PySem.W.tabObj ps))(n:TriplesOk ps.toList)(g:∀ p∈qs,codeAmong p.1 ps.toList=none\/∃ c,codeAmong p.1 ps.toList=some (.ref c)/\H c=some (.cod p.2))
  (B:∀ p∈qs,p.1.line=pos.line->p.1.col=pos.col->p.2=q) (x:codeAmong pos ps.toList=none) (a:H c=none) (hx:Heap.ExtBut P0 h h') (l:h'.CodeRec (.ref c) q) (j:h'.get? P0=some (PySem.W.tabObj (ps ++ #[rawInt pos.line,rawInt pos.col,.ref c]))) :
  HOk X.prog X.w (upd H c (.cod q)) h':=fun b u e=>by
 have C:P0≠c:=fun z=>by rw[<-z,k] at a;cases a
 by_cases s:b=c
 .subst s;rw[aS] at e;cases e;exact l
 .rw[aE s] at e
  by_cases f:b=P0
  .subst f
   rw[k] at e;cases e
   refine ⟨_,j,?_,fun p m=>?_⟩
   .rw[Array.toList_append];exact TriplesOk_snoc _ _ _ _ n
   .rw[Array.toList_append,yX _ n]
    rcases g p m with z|⟨d,z,o⟩
    .rw[z]
     show (codeAmong p.1 [rawInt pos.line,rawInt pos.col,.ref c])=none\/_
     by_cases i:p.1.line=pos.line/\p.1.col=pos.col
     .refine .inr ⟨c,?_,?_⟩
      .show codeAmong p.1 [rawInt pos.line,rawInt pos.col,.ref c]=_
       rw[<-i.1,<-i.2]
       exact codeAmong_snoc [] trivial rfl
      .rw[B p m i.1 i.2];exact aS
     .refine .inl ?_
      simp only[codeAmong,rawInt]
      rw[AM]
      simp only[AW,EA]
      intro t
      exact i ⟨by omega,by omega⟩
    .refine .inr ⟨d,by rw[z];rfl,?_⟩
     rw[aE (bF o a)];exact o
  .refine (D b u e).stay (fun d v A r=>hx d v ?_ r) (fun d r=>by rw[aE (bF r a)];exact r) (fun d _ r=>by rw[aE (bF r a)];exact r) fun d _ r=>by rw[aE (bF r a)];exact r
   rcases A with z|z
   .rw[z];exact f
   .intro t;rw[t,k] at z;cases z
def Mkd(H:Hp)(q:Str)(c:Az)(H1:Hp):Prop:=(H c=some (.cod q)/\H1=H)\/(H c=none/\H1=upd H c (.cod q))
theorem aDN {S : ClSt} {M : Model} {A : U9} {E : V9 -> S9 -> Prop} {Q : V9 -> S9 -> Prop} {g : Nat} (I : Inv X pins σ H s) (d : X.env.code = .ref c0) (T : Tb X.mg X.base c0 P0) (V : H P0 = some (.tbl qs)) (hq : (pos, S.qual) ∈ qs)
    (hu : ∀ p ∈ qs, p.1.line = pos.line -> p.1.col = pos.col -> p.2 = S.qual) (v : ∀ x ∈ S.scope.names, x.2 = .free -> ∃ c, X.env.cells.lookup x.1 = some c)
    (h : ∀ f c cl doc pm ct H1 s', Mkd H S.qual c H1 -> H1 f = none -> ClOf X.env.cells S.scope cl -> Inv X pins σ (upd H1 f (FnO f (S.obj cl doc pm c ct))) s' -> Q (.ref f) s') :
    wpAny M A (makeFunction S.name S.qual S.params S.body S.scope X.env [] [] [] pos g) Q E s := by
  obtain ⟨cl, q, K⟩ := sY v
  obtain ⟨ps, i, N, t⟩ := (show bP X.prog X.w H s.heap P0 (.tbl qs) from I.hok P0 _ V)
  have C : PySem.W.CodeHd s.heap c0 P0 := T.hd.keeps I.bk
  have D : s.heap.Ns mainGlobals X.mg := I.mod.glob.keeps I.bk
  have P : mainGlobals ≠ P0 := fun z => by
    obtain ⟨o, es, ep, e, hd, _⟩ := D
    rw [z, i] at e; cases e; cases hd
  obtain ⟨bm, ob, b1, b2, b3, b4, b5, b6⟩ := T.bt
  have m := I.bk _ _ b3
  have Z : bm ≠ P0 := fun z => by rw [z, i] at m; cases m; cases b4
  have Y : bm ≠ mainGlobals := fun z => by
    obtain ⟨o, es, ep, e, hd, _⟩ := D
    rw [z, e] at m; cases m; rw [hd] at b6; cases b6
  have U : s.heap.BuiltinsAt X.mg P0 := ⟨bm, ob, b1, b2, Y, Z, m, b4, b5, b6⟩
  rcases t _ hq with B | ⟨c, hf, hc⟩
  · have l : ∀ (j : Az) (a doc : V9) (h' : H9) (tk : Tok), Heap.ExtBut P0 s.heap h' -> s.heap.objs.size <= j -> j < h'.objs.size -> h'.CodeRec (.ref j) S.qual -> h'.get? P0 = some (PySem.W.tabObj (ps ++ #[rawInt pos.line, rawInt pos.col, .ref j])) ->
        Q (.ref h'.objs.size) { s with heap := h'.push (S.obj cl doc ((X.mg "__name__").getD .none) j a), toks := tk } := by
      intro j a doc h' tk R y O G L
      have hn : H j = none := I.hok.fresh y
      have r : HOk X.prog X.w (upd H j (.cod S.qual)) h' := yY I.hok V i N t hu B hn R G L
      have k : (upd H j (.cod S.qual)) h'.objs.size = none := r.fresh (AI _)
      refine h h'.objs.size j cl doc ((X.mg "__name__").getD .none) a _ _ (.inr ⟨hn, rfl⟩) k K ?_
      have F : ∀ b o, H b = some o -> b ≠ j /\ b ≠ h'.objs.size := fun b o e => ⟨bF e hn, fun z => by
        rw [z] at e
        rw [aE (CA O), e] at k; cases k⟩
      have nP : ∀ b, H b = none -> b ≠ P0 := fun b n z => by rw [z, V] at n; cases n
      refine I.un ⟨fun b o e n _ _ => AE _ (R b o (nP b n) e), fun b o e n _ _ => ⟨o.slots, AE _ (R b o (nP b n) e)⟩, fun b o e n _ => ?_, fun b o e _ => ?_, fun b xs e => ?_, fun b o u e => ?_, fun b qs e => ?_⟩ ?_
      · have hb := AG e
        rw [aE (A3 (AN hb (A4 y (C3 O)))), aE (A3 (AN hb y))]; exact n
      · by_cases z : b = P0
        · subst z; exact ⟨_, AE _ L⟩
        · exact ⟨o, AE _ (R b o z e)⟩
      · rw [aE (F b _ e).2, aE (F b _ e).1]; exact e
      · rw [aE (F b _ e).2, aE (F b _ e).1]; exact e
      · rw [aE (F b _ e).2, aE (F b _ e).1]; exact e
      · exact r.laid (fun b u e => AE _ e) (AI _) (FnO.ok (A7 _ rfl))
    obtain ⟨name, qual, params, body, scope⟩ := S
    cases body with
    | stmts body => exact PySem.W.makeFunction_K q I.ok.glob D d C i N B P U l
    | expr body => exact PySem.W.kla_makeFunction q I.ok.glob D d C i N B P U fun j a h' tk => l j a .none h' tk
  · have l : ∀ (a doc : V9) (h' : H9) (tk : Tok), (∀ b o, s.heap.get? b = some o -> h'.get? b = some o) -> s.heap.objs.size <= h'.objs.size ->
        Q (.ref h'.objs.size) { s with heap := h'.push (S.obj cl doc ((X.mg "__name__").getD .none) c a), toks := tk } := by
      intro a doc h' tk hk J
      refine h h'.objs.size c cl doc ((X.mg "__name__").getD .none) a H _ (.inl ⟨hc, rfl⟩) (I.hok.fresh J) K ?_
      exact I.laid (fun b u e => AE _ (hk b u e)) J (FnO.ok (A7 _ rfl))
    obtain ⟨name, qual, params, body, scope⟩ := S
    cases body with
    | stmts body => exact PySem.W.makeFunction_hit q I.ok.glob D d C i N hf U l
    | expr body => exact PySem.W.kla_makeFunctionHit q I.ok.glob D d C i N hf U fun a h' tk => l a .none h' tk
def tMk(cells:List (Str×Az))(S:ClSt)(P0:Az)(qs:List (Pos×Str)):TE:=fun σ H Q=>H P0=some (.tbl qs)/\∀ f c cl doc pm ct H1,Mkd H S.qual c H1->H1 f=none->ClOf cells S.scope cl->Q (.ref f) (upd H1 f (FnO f (S.obj cl doc pm c ct)))
theorem aF8{i:Nat}{x:Str}{params:Arguments}{body:List Stmt}{scope:Scope}(a:X.env.code=.ref c0)(T:Tb X.mg X.base c0 P0)(d:qualnameIn X.env x x=q)(C:(pos,q)∈qs)
  (u:∀ p∈qs,p.1.line=pos.line->p.1.col=pos.col->p.2=q) (b:∀ y∈scope.names,y.2=.free->X.env.kindOf y.1=some .cell\/X.env.kindOf y.1=some .free)
  (g:params.defaults=[]) (j:params.kw_defaults=[]) (r:annTrees params none X.env=[])
  (n:X.N.Nodup) (hi:X.N[i]? = some x) (hx:Loc X.env.scope x) (t:X.fn x=true\/X.env.scope.names.lookup x=some .local:=by exact .inl rfl) :
  PS X (.FunctionDef x params body [] none [] scope none x pos) (kI (tMk X.env.cells ⟨x,q,params,.stmts body,scope⟩ P0 qs) (iY i)):=by
 intro pins s σ H D I h
 obtain ⟨m,h⟩:=h
 refine PySem.W.nestDef_K g j r ?_
 rw[d]
 refine aDN (S:=⟨x,q,params,.stmts body,scope⟩) I a T m C u (fun y B e=>I.ok.has _ (b y B e)) fun f c cl doc pm ct H1 s' w A l o=>?_
 exact k7 o n hi hx (v:=.ref f) rfl (fun z k=>⟨_,_,k,h f c cl doc pm ct H1 w A l⟩) t
end
abbrev Cv:=List (Az×Obj×V)
noncomputable def pub(cv:Cv)(H:Hp):Hp:=fun b=>match cv.lookup b with
 | some p=>some (eP b p.1 p.2)
 | none=>H b
noncomputable def fZ(cv:Cv):List Az:=cv.map (·.1)
theorem gI{c:Cv}{b:Az}:b∈fZ c↔∃ p,c.lookup b=some p:=by
 unfold fZ
 induction c with
 | nil=>simp
 | cons a r ih=>
  obtain ⟨x,p⟩:=a
  rw[AJ,AT,ih,A0]
  by_cases h:b=x
  .subst h;simp
  .rw[B8 h]
   simp[h]
theorem sZ{a:Cv}{H:Hp}{b:Az}{p:Obj×V}(h:a.lookup b=some p):pub a H b=some (eP b p.1 p.2):=by unfold pub;rw[h]
theorem iM{a:Cv}{H:Hp}{b:Az}(h:b∉fZ a):pub a H b=H b:=by
 unfold pub
 cases e:a.lookup b with
 | none=>rfl
 | some p=>exact absurd (gI.mpr ⟨p,e⟩) h
theorem fK{a:Cv}{H:Hp}(c:∀ b∈fZ a,H b=none):aH H (pub a H):=fun b o e=>by
 rw[iM fun z=>by rw[c b z] at e;cases e];exact e
structure PubRel(X:Cx)(σ:St)(H:Hp)(js:List Nat)(cv:Cv):Prop where
 at':∀ b o v,cv.lookup b=some (o,v)->∃ x j,j∈js/\X.N[j]? = some x/\X.env.cells.lookup x=some b/\σ[j]? = some (some v)
 all:∀ j∈js,∃ x c o v,X.N[j]? = some x/\X.env.cells.lookup x=some c/\σ[j]? = some (some v)/\cv.lookup c=some (o,v)
 free:∀ b∈fZ cv,H b=none
 inj:∀ x y c,X.env.cells.lookup x=some c->X.env.cells.lookup y=some c->x=y
section
variable{X:Cx}{pins:List (Az×Obj)}{σ:St}{H:Hp}{s:S9}
def s9(X:Cx)(σ:St)(j:Nat):Prop:=∃ x v,X.N[j]? = some x/\X.env.kindOf x=some .cell/\X.fn x=true/\σ[j]? = some (some v)
theorem yZ(I:Inv X pins σ H s):∀ (js:List Nat),(∀ j∈js,s9 X σ j)->∃ cv,PubRel X σ H js cv/\∀ b o v,cv.lookup b=some (o,v)->(∃ u,s.heap.get? b=some o/\o.data=.cell (some u)/\aU v u)/\X.s₀.heap.objs.size<=b/\∃ x,X.env.cells.lookup x=some b
 | [],_=>⟨[],⟨fun b o v e=>by simp at e,fun j hj=>by simp at hj,fun b hb=>by simp[fZ] at hb,I.ok.inj⟩,fun b o v e=>by simp at e⟩
 | j::js,hj=>by
  obtain ⟨cv,R,ok⟩:=yZ I js fun D h'=>hj D (AL _ h')
  obtain ⟨x,v,p,f,O,n⟩:=hj j AX
  obtain ⟨m,V,L⟩:=I.loc
  obtain ⟨u,r,l⟩:=L j x v p n (.inr (.inl f))
  rcases l with ⟨g,_⟩|⟨_,c,d,o,F,K⟩
  .rw[f] at g;cases g
  .have h:=I.ok.cab x c O d
   by_cases i:c∈fZ cv
   .obtain ⟨⟨o',a⟩,e⟩:=gI.mp i
    obtain ⟨q,D,S,t,B,C⟩:=R.at' c o' a e
    have w:x=q:=I.ok.inj x q c d B
    subst w
    refine ⟨cv,⟨fun b o v e=>?_,fun k f=>?_,R.free,R.inj⟩,ok⟩
    .obtain ⟨x,j,h1,h2⟩:=R.at' b o v e
     exact ⟨x,j,AL _ h1,h2⟩
    .rcases AT.mp f with z|z
     .subst z
      obtain ⟨T,W,U⟩:=L D x a t C (.inr (.inl (by assumption)))
      obtain ⟨⟨N,J,G,Q⟩,_⟩:=ok c o' a e
      rw[F] at J;cases J
      rw[K] at G
      have:u=N:=by cases G;rfl
      subst this
      have E:v=a:=aU.inj r Q
      subst E
      exact ⟨x,c,_,v,p,d,n,e⟩
     .exact R.all k z
   .refine ⟨(c,o,v)::cv,⟨fun b o' a e=>?_,fun k f=>?_,fun b hb=>?_,R.inj⟩,fun b o' a e=>?_⟩
    .rw[A0] at e
     by_cases hb:b=c
     .subst hb
      simp only[CL] at e
      cases e
      exact ⟨x,j,AX,p,d,n⟩
     .rw[B8 hb] at e
      obtain ⟨x,j,h1,h2⟩:=R.at' b o' a e
      exact ⟨x,j,AL _ h1,h2⟩
    .rcases AT.mp f with z|z
     .subst z
      exact ⟨x,c,o,v,p,d,n,by rw[A0];simp⟩
     .obtain ⟨q,M,o',a,h1,h2,P,y⟩:=R.all k z
      refine ⟨q,M,o',a,h1,h2,P,?_⟩
      rw[A0,B8 (show M≠c from fun z=>by rw[z] at y;exact i (gI.mpr ⟨_,y⟩))];exact y
    .have A:b=c\/b∈fZ cv:=by simpa[fZ] using hb
     rcases A with z|z
     .subst z;exact I.freeC x b d
     .exact R.free b z
    .rw[A0] at e
     by_cases hb:b=c
     .subst hb
      simp only[CL] at e
      cases e
      exact ⟨⟨u,F,K,r⟩,h,x,d⟩
     .rw[B8 hb] at e
      exact ok b o' a e
theorem aDO(I:Inv X pins σ H s){js:List Nat}{d:Cv}(R:PubRel X σ H js d)(ok:∀ b o v,d.lookup b=some (o,v)->(∃ u,s.heap.get? b=some o/\o.data=.cell (some u)/\aU v u)/\X.s₀.heap.objs.size<=b/\∃ x,X.env.cells.lookup x=some b) :
  Env0 X.prog X.w X.K X.mg X.base X.A X.stack s (pub d H) where
 frames:=I.ok.frames
 mod:=I.ok.mod
 bs:=fun b o e=>⟨(I.bs b o e).1,by
  rw[iM]
  .exact (I.bs b o e).2
  .intro z
   obtain ⟨⟨o',v⟩,q⟩:=gI.mp z
   have h1:=(ok b o' v q).2.1
   have h2:=AG e
   exact absurd (AN h2 (A4 I.ok.bsz h1)) (BF _)⟩
 bsz:=A4 I.ok.bsz I.sz
 funs:=I.stack
 frf:=fun b a=>by
  rw[iM]
  .exact I.stkFree b a
  .intro z
   obtain ⟨⟨o',v⟩,q⟩:=gI.mp z
   obtain ⟨_,h1,x,g⟩:=ok b o' v q
   rcases AT.mp (I.stkSub b a) with f|f
   .exact I.cne x b g f
   .obtain ⟨_,o,i,_⟩:=I.ok.funs.mem f
    exact absurd (AN (AG i) h1) (BF _)
 hok:=fun b u e=>by
  by_cases a:b∈fZ d
  .obtain ⟨⟨o,v⟩,q⟩:=gI.mp a
   rw[sZ q] at e;cases e
   obtain ⟨⟨u,h1,h2,h⟩,_⟩:=ok b o v q
   exact eP.ok h h1 h2
  .rw[iM a] at e
   exact (I.hok b u e).stay (fun _ _ _ q=>q) (fun c q=>fK R.free _ _ q) (fun c _ q=>fK R.free _ _ q) fun c _ q=>fK R.free _ _ q
 bare:=I.bare
end
noncomputable def tE(Ps:List Az)(qs:List (Pos×Str)):Hp:=fun b=>if b∈Ps then some (.tbl qs) else none
def tF(mg:Str->O9 V9)(h base:H9)(T:Hp)(qs:List (Pos×Str))(xs:List Str):Prop:=
 ∀ x∈xs,∃ c0 P0,T P0=some (.tbl qs)/\Tb mg base c0 P0/\∀ f o fd,mg x=some (.ref f)->h.get? f=some o->o.data=.func fd->fd.code=.ref c0
theorem y0{P:P9}{w:W9}{K:Frag}{mg mb:Str->O9 V9}{CX:CXT}{k:Nat}{fa a:Az}{fd:FuncData}{x:Str}{c:S9}{vs:List V9}{ns:List Int}{qs:List (Pos×Str)}{xs:List Str}{tb:Str->Az×Az}
  (hT:∀ x∈xs,PySem.W.CodeHd c.heap (tb x).1 (tb x).2/\c.heap.get? (tb x).2=some (PySem.W.tabObj #[])) (ad:∀ x∈xs,∀ f o fd,mg x=some (.ref f)->c.heap.get? f=some o->o.data=.func fd->fd.code=.ref (tb x).1)
  (ah:∃ bm ob,mg "__builtins__"=some (.ref bm)/\bm≠builtinsNs/\c.heap.get? bm=some ob/\ob.cls=.type "module"/\ob.dict=some builtinsNs/\ob.data=.plain) (hNT:PySem.W.noTabs K=true)
  (KX:K.In c.heap) (S:c.heap.Ns mainGlobals mg) (g:c.heap.Ns builtinsNs mb) (af:∀ x:Str,x≠"__name__"->mb x=bootBuiltins x) (Z:c.heap.NoLimit) (hg:c.gens = #[])
  (O:c.heap.get? a=some {cls:=.type "list",data:=.seq vs.toArray}) (hi:IntsAre vs ns) (hl:ns.length<=sizeLine) (hr:Room k callerA)
  (F:∀ (base:H9) (T:Hp),K.In base->base.Ns mainGlobals mg->tF mg c.heap base T qs xs->∃ sp,FnOk P w K mg base CX k fa fd [x] sp/\∀ H:Hp,aH T H->SqL K H a (ns.map V.int)->sp [.ref a] H (fun v _=>v=.bl true) fun _ _ _=>False) (hbind:∀ (s:S9) (u:V9),BindsTo s fd ⟨[u],[]⟩ [(x,u)])
  (hCX:∀ H e s',CX [] H c (fun _ _ _=>False) e s'->False) :
  codeAny (model P w) callerA (.call (.ref fa) ⟨[.ref a],[]⟩) (fun r s'=>r=.ok (.ret (.bool true))/\OldK c.heap s'.heap/\s'.os=c.os/\AllBare s'.gens) c:=by
 have rv:=qU hi
 have R:=hi.length
 let Ps:List Az:=xs.map fun x=>(tb x).2
 have t:∀ b∈Ps,c.heap.get? b=some (PySem.W.tabObj #[])/\isCodeTable c.heap b:=fun b g=>by
  obtain ⟨y,J,rfl⟩:=FE.mp g
  exact ⟨(hT y J).2,((hT y J).1.tab (hT y J).2).isCodeTable⟩
 have G:a∉Ps:=fun z=>by have:=(t a z).1;rw[O] at this;cases this
 have ag:∀ b∈Ps,K.lookup b=none:=fun b g=>by
  cases e:K.lookup b with
  | none=>rfl
  | some o=>
   have e2:=KX b o e
   rw[(t b g).1] at e2
   cases e2
   have h2:=CM.mp hNT (b,_) (PySem.W.mem_of_lookupK e)
   exact absurd (show false=true from h2) BQ
 have D:∀ H:Hp,(∀ b∈Ps,H b=some (.tbl qs))->(∀ b,H b≠none->b=a\/b∈Ps)->(H a=none\/∃ o xs,H a=some (.frz o (.lst xs)))->SqL K H a (ns.map V.int)->HOk P w H c.heap->(H a≠none->K.lookup a=none)->
   codeAny (model P w) callerA (.call (.ref fa) ⟨[.ref a],[]⟩) (fun r s'=>r=.ok (.ret (.bool true))/\OldK c.heap s'.heap/\s'.os=c.os/\AllBare s'.gens) c:=by
  intro H hP hA hO hS X hK
  have i:∀ {b:Az} {o:Obj},c.heap.get? b=some o->H b=none->(kH c.heap H).get? b=some o:=fun e n=>aAE e n
  have j:∀ {b:Az} {o:Obj},c.heap.get? b=some o->(∀ vs,o.data≠.seq vs)->o≠PySem.W.tabObj #[]->H b=none:=fun {b o} e d d2=>by
   cases q:H b with
   | none=>rfl
   | some u=>
    rcases hA b (by rw[q];simp) with I|I
    .subst I
     rw[O] at e;cases e
     exact absurd rfl (d _)
    .rw[(t b I).1] at e;cases e;exact absurd rfl d2
  have ae:∀ {b:Az} {o:Obj} {es:Array DictEntry} {ep:Nat},c.heap.get? b=some o->o.data=.dict es ep->H b=none:=fun {b o es ep} e d=>j e (fun vs z=>by rw[d] at z;cases z) fun z=>by rw[z] at d;cases d
  have C:∀ {b:Az} {m:Str->O9 V9},c.heap.Ns b m->(kH c.heap H).Ns b m:=fun {b m} ⟨o,es,ep,e,d,r⟩=>⟨o,es,ep,i e (ae e d),d,r⟩
  have N:K.In (kH c.heap H):=fun b o e=>i (KX b o e) (by
   cases q:H b with
   | none=>rfl
   | some u=>
    rcases hA b (by rw[q];simp) with I|I
    .subst I
     rw[hK (by rw[q];simp)] at e;cases e
    .rw[ag b I] at e;cases e)
  have hM:Mod K mg (kH c.heap H):=⟨N,C S,⟨mb,C g,af⟩,let ⟨mc,h1,h2⟩:=Z;⟨mc,C h1,h2⟩⟩
  have e0:Env0 P w K mg (kH c.heap H) callerA [] c H:=⟨rfl,hM,fun b o e=>aCZ e,Nat.le_of_eq (x5 _ _),trivial,fun b g=>absurd (show b∈([]:List Az) from g) (by simp),X,.of_eq hg⟩
  have aa:tF mg c.heap (kH c.heap H) (tE Ps qs) qs xs:=fun y J=>by
   refine ⟨(tb y).1,(tb y).2,AK (FE.mpr ⟨y,J,rfl⟩),⟨?_,?_⟩,ad y J⟩
   .obtain ⟨o,vs,U,tf,L,tg,ai,Q,tt,e1,r1,r2,r3⟩:=(hT y J).1
    exact ⟨o,vs,U,tf,L,tg,ai,Q,tt,i e1 (j e1 (fun vs z=>by rw[r2] at z;cases z) fun z=>by rw[z] at r1;cases r1),r1,r2,r3⟩
   .obtain ⟨bm,ob,b1,b2,b3,b4,b5,b6⟩:=ah
    exact ⟨bm,ob,b1,b2,i b3 (j b3 (fun vs z=>by rw[b6] at z;cases z) fun z=>by rw[z] at b4;cases b4),b4,b5,b6⟩
  have aj:aH (tE Ps qs) H:=fun b o e=>by
   unfold tE at e
   split at e
   .rename_i g;cases e;exact hP b g
   .cases e
  obtain ⟨sp,FO,ac⟩:=F _ _ N (C S) aa
  refine DO (FO.run callerA [] c H ⟨[.ref a],[]⟩ [.ref a] [.ref a] _ _ hr e0 (hbind c (.ref a)) (.cons rfl .nil) (ac H aj hS)) fun r s' h=>?_
  cases r with
  | error e=>exact (hCX H e s' h).elim
  | ok fl=>
   cases fl with
   | next=>exact False.elim h
   | brk=>exact False.elim h
   | cont=>exact False.elim h
   | ret u=>
    obtain ⟨v,H',os,M,un,B,r',q⟩:=h
    have q':v=.bl true:=q
    subst q'
    obtain rfl:u=Value.bool true:=r'
    have kept:∀ b o,c.heap.get? b=some o->b∉Ps->s'.heap.get? b=some o:=fun b o e g=>by
     cases q:H b with
     | none=>exact un.keep b o e q (by intro z;exact absurd (show b∈([]:List Az) from z) (by simp)) (by simp)
     | some u=>
      rcases hA b (by rw[q];simp) with z|z
      .subst z
       rcases hO with z|⟨ob,xs,z⟩
       .rw[q] at z;cases z
       .have Y:=un.frzs b ob _ z
        obtain ⟨e1,_⟩:=X b _ z
        obtain ⟨e2,_⟩:=B b _ Y
        rw[e] at e1;cases e1
        exact e2
      .exact absurd z g
    refine ⟨rfl,⟨fun b o e=>?_,fun b o e=>?_⟩,os,M⟩
    .by_cases g:b∈Ps
     .obtain ⟨ps,e2,_⟩:=(show bP P w H' s'.heap b (.tbl qs) from B b _ (un.tbls b _ (hP b g)))
      have e1:=(t b g).1
      rw[e] at e1;cases e1
      exact .inr (.inl ⟨(t b g).2,rfl,#[],ps,rfl,by rw[Array.empty_append];exact e2⟩)
     .exact .inl (kept b o e g)
    .by_cases g:b∈Ps
     .obtain ⟨ps,e2,_⟩:=(show bP P w H' s'.heap b (.tbl qs) from B b _ (un.tbls b _ (hP b g)))
      exact ⟨_,e2⟩
     .exact ⟨o,kept b o e g⟩
 have A:∀ (H:Hp) b,b∈Ps->bP P w H c.heap b (.tbl qs):=fun H b g=>⟨#[],(t b g).1,trivial,fun p _=>.inl rfl⟩
 cases hk:K.lookup a with
 | some o=>
  have e:=KX a o hk
  rw[O] at e
  cases e
  refine D (tE Ps qs) (fun b g=>AK g) (fun b z=>?_) (.inl (AM G)) (.inr ⟨_,vs.toArray,_,hk,rfl,rfl,rfl,by rw[BB,R];exact hl,by simpa using rv⟩) (fun b u z=>?_) fun z=>absurd (AM G) z
  .by_cases g:b∈Ps
   .exact .inr g
   .exact absurd (AM g) z
  .by_cases g:b∈Ps
   .have E:=(AK g).symm.trans z
    cases E
    exact A _ b g
   .have E:=(AM g).symm.trans z
    cases E
 | none=>
  refine D (fun b=>if b=a then some (.frz {cls:=.type "list",data:=.seq vs.toArray} (.lst (ns.map V.int))) else tE Ps qs b) (fun b g=>?_) (fun b z=>?_) (.inr ⟨_,_,AK rfl⟩) (.inl (.inr ⟨{cls:=.type "list",data:=.seq vs.toArray},AK rfl⟩)) (fun b u z=>?_) fun _=>hk
  .rw[AM (show ¬ b=a from fun z=>G (by rw[<-z];exact g))];exact AK g
  .by_cases g:b=a
   .exact .inl g
   .rw[AM g] at z
    by_cases l:b∈Ps
    .exact .inr l
    .exact absurd (AM l) z
  .by_cases g:b=a
   .have E:=(AK g).symm.trans z
    cases E
    subst g
    exact ⟨O,by rw[AQ];exact hl,vs,_,rv,O⟩
   .have E:=(AM g).symm.trans z
    by_cases l:b∈Ps
    .have Y:=(AK l).symm.trans E
     cases Y
     exact A _ b l
    .have Y:=(AM l).symm.trans E
     cases Y
theorem aDP{p:P9}{b:List Str}{g:ExcName->O9 V9}{mg m:Str->O9 V9}{h:H9}(T:Top p b g mg m h)(xs:List Str)(hx:∀ x∈xs,∃ d∈recsOf p,d.name=x) :
  ∃ tb:Str->Az×Az,(∀ x∈xs,PySem.W.CodeHd h (tb x).1 (tb x).2/\h.get? (tb x).2=some (PySem.W.tabObj #[]))/\∀ x∈xs,∀ f o fd,mg x=some (.ref f)->h.get? f=some o->o.data=.func fd->fd.code=.ref (tb x).1:=by
 have e:∀ x,∃ t:Az×Az,x∈xs->(PySem.W.CodeHd h t.1 t.2/\h.get? t.2=some (PySem.W.tabObj #[]))/\∀ f o fd,mg x=some (.ref f)->h.get? f=some o->o.data=.func fd->fd.code=.ref t.1:=fun x=>by
  by_cases j:x∈xs
  .obtain ⟨d,n,rfl⟩:=hx x j
   obtain ⟨a,o,fd,c,l,h1,h2,r,s,q,k⟩:=T.tab d n
   refine ⟨(c,l),fun _=>⟨⟨PySem.W.CodeHd.of q k,k.2⟩,fun f o' u e1 e2 i=>?_⟩⟩
   rw[h1] at e1;cases e1
   rw[h2] at e2;cases e2
   rw[r] at i;cases i
   exact s
  .exact ⟨(0,0),fun z=>absurd z j⟩
 exact ⟨fun x=>(e x).choose,fun x hx=>((e x).choose_spec hx).1,fun x hx=>((e x).choose_spec hx).2⟩
theorem walk_ofT{l:PySem.W.OpenLaw}{n k:Nat}{q:P9}{i:List Str}{I:(Str->O9 V9)->H9->Prop}{C:W9->H9->Prop}{d:DefRec}{K:Params->Frag}{CX:W9->CXT}{x:Str}{qs:List (Pos×Str)}{xs:List Str}
  (t:∀ x∈xs,∃ d∈recsOf q,d.name=x) (hNT:∀ w:W9,PySem.W.noTabs (K w.params)=true)
  (N:l.most=some n) (B:n<=sizeLine) (r:d.params.defaults=[]) (L:Room k callerA)
  (Q:∀ (w:W9) (h:H9),C w h->(K w.params).In h)
  (F:∀ (w:W9) (mg:Str->O9 V9) (fa:Az) (h:H9),(K w.params).In h->h.Ns mainGlobals mg->mg d.name=some (.ref fa)->
   ∃ fd:FuncData,(∀ (s:S9) (u:V9),BindsTo s fd ⟨[u],[]⟩ [(x,u)]) /\
    ∀ (base:H9) (T:Hp),(K w.params).In base->base.Ns mainGlobals mg->tF mg h base T qs xs->∃ sp,FnOk l.prog w (K w.params) mg base (CX w) k fa fd [x] sp /\
     ∀ (H:Hp) (a:Az) (ns:List Int),ns.length<=n->aH T H->SqL (K w.params) H a (ns.map V.int)->sp [.ref a] H (fun v _=>v=.bl true) fun _ _ _=>False)
  (A:∀ (w:W9) (H:Hp) (s:S9) (e:V9) (s':S9),CX w [] H s (fun _ _ _=>False) e s'->False) :
  PySem.W.WalkO q i I C l.row.toRowW d [] (fun f vs=>PySem.call f vs):=by
 refine Att.attach_call N r fun w s₀ p mg mb fa o pm cd doc a vs ns G Y ho hd J y m j c S=>?_
 have D:=Q w _ Y
 obtain ⟨fd,P,X⟩:=F w mg fa _ D G.T.g y
 obtain ⟨tb,U,z⟩:=aDP G.T xs t
 refine y0 (qs:=qs) U z G.T.bmain (hNT w) D G.T.g G.T.b G.T.builtins G.T.nolimit S m j (A4 c B) L (fun base T E M Z=>?_) P fun H e s'=>A w H p e s'
 obtain ⟨sp,R,O⟩:=X base T E M Z
 exact ⟨sp,R,fun H h1 h2=>O H a ns c h1 h2⟩
end L2
namespace Fl
open PySem L2 PyProof.Rows
mutual
noncomputable def fM:Dz->Bool
 | .none=>true
 | .int _=>true
 | .str x=>PyData.strOk x
 | .tuple xs=>eG xs
 | _=>false
noncomputable def eG:List Dz->Bool
 | []=>true
 | x::t=>fM x && eG t
end
mutual
noncomputable def fU(w:W9):Dz->Int
 | .none=>reduceHash 0xFCA86420
 | .int i=>hashInt i
 | .str x=>hashStr w x
 | .tuple xs=>reduceHash (Builtin.Tuple.tupleHashOf (jP w xs))
 | _=>0
noncomputable def jP(w:W9):List Dz->List Int
 | []=>[]
 | x::t=>fU w x::jP w t
end
mutual
noncomputable def fA:Dz->Nat
 | .tuple xs=>jV xs+1
 | _=>1
noncomputable def jV:List Dz->Nat
 | []=>0
 | x::t=>fA x+jV t
end
mutual
theorem kQ:∀ {d:Dz},fM d=true->d.canLay0=true
 | .none,_=>rfl
 | .int _,_=>rfl
 | .str x,h=>h
 | .tuple xs,h=>by
  have h':eG xs=true:=h
  exact tG h'
theorem tG:∀ {xs:List Dz},eG xs=true->PyData.canLayAll0 xs=true
 | [],_=>rfl
 | x::t,h=>by
  have h':(fM x && eG t)=true:=h
  rw[AW] at h'
  show (x.canLay0 && PyData.canLayAll0 t)=true
  rw[kQ h'.1,tG h'.2];rfl
end
mutual
theorem pU:∀ {d e:Dz},fM d=true->fM e=true->(PyData.eqv d e=true↔d=e)
 | .none,e,_,he=>by cases e<;>simp[PyData.eqv]<;>cases he
 | .int i,e,_,he=>by cases e<;>simp[PyData.eqv]<;>cases he
 | .str x,e,_,he=>by cases e<;>simp[PyData.eqv]<;>cases he
 | .tuple xs,e,hd,he=>by
  have hd':eG xs=true:=hd
  cases e with
  | tuple ys=>
   have a:eG ys=true:=he
   have:=tH hd' a
   show PyData.eqvAll xs ys=true↔_
   rw[this]
   exact ⟨fun z=>by rw[z],fun z=>by cases z;rfl⟩
  | _=>simp[PyData.eqv]<;>cases he
theorem tH:∀ {xs ys:List Dz},eG xs=true->eG ys=true->(PyData.eqvAll xs ys=true↔xs=ys)
 | [],ys,_,_=>by cases ys<;>simp[PyData.eqvAll]
 | x::t,ys,hx,hy=>by
  have hx':(fM x && eG t)=true:=hx
  rw[AW] at hx'
  cases ys with
  | nil=>simp[PyData.eqvAll]
  | cons y u=>
   have c:(fM y && eG u)=true:=hy
   rw[AW] at c
   rw[PyData.eqvAll,AW,pU hx'.1 c.1,tH hx'.2 c.2]
   exact ⟨fun ⟨a,b⟩=>by rw[a,b],fun z=>by cases z;exact ⟨rfl,rfl⟩⟩
end
noncomputable instance decPyData:DecidableEq Dz:=fun a b=>Classical.propDecidable (a=b)
theorem aDQ{d e:Dz}(a:fM d=true)(b:fM e=true):PyData.eqv d e=decide (d=e):=by
 by_cases h:d=e
 .rw[BZ h,(pU a b).mpr h]
 .rw[BH h]
  cases q:PyData.eqv d e with
  | false=>rfl
  | true=>exact absurd ((pU a b).mp q) h
theorem w9(xs:List Dz):fA (.tuple xs)=jV xs+1:=by rw[fA]
theorem qY(A:U9):A.in1.units=A.units+1:=rfl
def jD(prog:P9)(w:W9)(E:V9->S9->Prop)(d:Dz):Prop:=∀ (v:V9) (as:List Az) (A:U9) (s:S9) (Q:Int->S9->Prop),fM d=true->Reads s.heap v d as->A.units+d.depth < cLine->Q (fU w d) {s with toks:=s.toks+fA d}->
 wpAny (model prog w) A (pyHash v) Q E s
theorem aF9{prog:P9}{w:W9}{E:V9->S9->Prop}:∀ (xs:List Dz) (ih:∀ x∈xs,jD prog w E x) (vs:List V9) (as:List Az) (A:U9) (s:S9) (b:Array Int) (Q:Array Int->S9->Prop),eG xs=true->ReadsAll s.heap vs xs as->A.units+PyData.depthAll xs < cLine->
  (∀ b',b'.toList=b.toList++jP w xs->Q b' {s with toks:=s.toks+jV xs})->
  wpAny (model prog w) A (forIn vs b fun x r=>do let h <-pyHash x;pure PUnit.unit;pure (ForInStep.yield (r.push h))) Q E s:=by
 intro xs
 induction xs with
 | nil=>
  intro ih vs as A s b Q _ x _ h
  cases x
  exact AD (h b (by simp[jP]))
 | cons k xs ih0=>
  intro ih vs as A s b Q f x g h
  cases x with
  | @cons v vs _ _ as bs x1 x2=>
   have a:(fM k && eG xs)=true:=f
   rw[AW] at a
   have d:A.units+max k.depth (PyData.depthAll xs) < cLine:=g
   rw[CT]
   refine AA (AA (ih k AX _ _ A s _ a.1 x1 (by omega) ?_))
   refine AA (AD (AD ?_))
   refine ih0 (fun x c=>ih x (AL _ c)) _ _ A {s with toks:=s.toks+fA k} _ Q a.2 x2 (by omega) fun b' e=>?_
   have q:=h b' (by rw[e];simp[jP])
   rw[show jV (k::xs)=fA k+jV xs by rw[jV],<-Nat.add_assoc] at q
   exact q
theorem qZ(w:W9)(i:Int):fU w (.int i)=hashInt i:=by rw[fU]
theorem q0(w:W9)(i:Str):fU w (.str i)=hashStr w i:=by rw[fU]
theorem y2(w:W9)(xs:List Dz):fU w (.tuple xs)=reduceHash (Builtin.Tuple.tupleHashOf (jP w xs)):=by rw[fU]
theorem xA(i:Int):fA (.int i)=1:=by unfold fA;rfl
theorem xB(i:Str):fA (.str i)=1:=by unfold fA;rfl
theorem aA0{prog:P9}{w:W9}{E:V9->S9->Prop}(i:Int):jD prog w E (.int i):=fun v a A s Q _ r _ h=>by
 rw[qZ,xA] at h
 cases r
 exact wpAny_pyHash_int h
theorem aA1{prog:P9}{w:W9}{E:V9->S9->Prop}(i:Str):jD prog w E (.str i):=fun v a A s Q _ r _ h=>by
 rw[q0,xB] at h
 cases r
 exact wpAny_pyHash_str h
theorem aA2{prog:P9}{w:W9}{E:V9->S9->Prop}(xs:List Dz)(f:∀ x∈xs,jD prog w E x):jD prog w E (.tuple xs):=fun v d A s Q i r j h=>by
 rw[y2,w9] at h
 cases r with
 | @tuple a o vs n _ d h1 h2 h3 h4=>
  have c:eG xs=true:=i
  have e:A.units+(PyData.depthAll xs+1) < cLine:=j
  refine PySem.W.pyHash_slot (T:="tuple") ⟨o,h1,h2⟩ F.slot_tuple_hash F.entry_tuple_hash (F.args_tuple_hash_1 _) (beq_builtin_none _) (.inr (by omega)) ?_
  show wpAny _ _ (Builtin.Tuple.tupleItemsOf (.ref a) >>= _) _ _ s
  refine AA (wpAny_tupleItemsOf h1 h3 ?_)
  refine AA ?_
  rw[<-Array.forIn_toList]
  refine aF9 xs f vs.toList d A.in1 s #[] _ c h4 (by rw[qY];omega) fun b g=>?_
  show wpAny _ _ (retInt (Builtin.Tuple.tupleHashOf b.toList)) _ _ _
  rw[g]
  exact AA (wpAny_mkInt (AD ⟨_,_,rfl,h⟩))
theorem xC(w:W9):fU w .none=reduceHash 0xFCA86420:=by rw[fU]
theorem u8:fA .none=1:=by unfold fA;rfl
theorem aA3{prog:P9}{w:W9}{E:V9->S9->Prop}:jD prog w E .none:=fun v b A s Q _ r c h=>by
 rw[xC,u8] at h
 generalize a:reduceHash 0xFCA86420=g at h
 cases r
 refine PySem.W.pyHash_slot (T:="NoneType") rfl F.slot_NoneType_hash F.entry_NoneType_hash (F.args_NoneType_hash_1 _) (beq_builtin_none _) (.inr (by omega)) (AA (AD (AA (wpAny_mkInt (AD ⟨0xFCA86420,_,rfl,?_⟩)))))
 rw[a]
 exact h
theorem aGA{prog:P9}{w:W9}{E:V9->S9->Prop}:∀ (n:Nat) (d:Dz),sizeOf d<=n->jD prog w E d:=by
 intro n
 induction n with
 | zero=>intro d h;cases d<;>simp at h
 | succ n ih=>
  intro d h
  cases d with
  | none=>exact aA3
  | int i=>exact aA0 i
  | str x=>exact aA1 x
  | tuple xs=>
   refine aA2 xs fun x e=>ih x ?_
   have:=List.sizeOf_lt_of_mem e
   simp only[PyData.tuple.sizeOf_spec] at h
   omega
  | bool b=>exact fun v c A s Q a=>nomatch a
  | list xs=>exact fun v c A s Q a=>nomatch a
  | dict xs=>exact fun v c A s Q a=>nomatch a
theorem aGB{prog:P9}{w:W9}{E:V9->S9->Prop}(d:Dz):jD prog w E d:=aGA (sizeOf d) d (AI _)
theorem aDR{M:Model}{A:U9}{E:V9->S9->Prop}{s:S9}:∀ (n:Nat) (d:Dz) (v:V9) (as:List Az) (Q:Bool->S9->Prop),fM d=true->Reads s.heap v d as->d.depth<=n->Q true s->wpAny M A (eqIsQuiet n v) Q E s:=by
 intro n
 induction n with
 | zero=>
  intro d v as Q c r g h
  cases d with
  | none=>cases r;rw[CZ _ rfl];exact AD h
  | int i=>cases r;rw[CZ _ rfl];exact AD h
  | str x=>cases r;rw[CZ _ rfl];exact AD h
  | tuple xs=>
   have j:PyData.depthAll xs+1<=0:=g
   omega
  | bool b=>exact nomatch c
  | list xs=>exact nomatch c
  | dict xs=>exact nomatch c
 | succ n ih=>
  intro d v as Q c r g h
  cases d with
  | none=>cases r;rw[CZ _ rfl];exact AD h
  | int i=>cases r;rw[CZ _ rfl];exact AD h
  | str x=>cases r;rw[CZ _ rfl];exact AD h
  | bool b=>exact nomatch c
  | list xs=>exact nomatch c
  | dict xs=>exact nomatch c
  | tuple xs=>
   cases r with
   | @tuple a o vs m _ as h1 h2 h3 h4=>
    have f:eG xs=true:=c
    have j:PyData.depthAll xs+1<=n+1:=g
    have l:s.TypeIs (.ref a) "tuple":=⟨o,h1,h2⟩
    unfold eqIsQuiet
    refine AA (wpAny_specialOf l F.slot_tuple_eq.lookup ?_)
    show wpAny _ _ (isInstance (.ref a) (.type "tuple") >>= _) _ _ s
    refine AA (wpAny_isInstance l isSubtype_tuple_tuple ?_)
    simp only[FD,A2,BS]
    refine AA (E9 h1 h3 ?_)
    refine AA ?_
    show wpAny _ _ (forIn vs _ _) _ _ s
    rw[<-Array.forIn_toList]
    refine wpAny_forIn_list _ (fun rest r s'=>r.1=none/\s'=s/\∃ ys bs,eG ys=true/\PyData.depthAll ys<=n/\ReadsAll s.heap rest ys bs) _ ?_ ?_ _ _ ⟨rfl,rfl,xs,_,f,by omega,h4⟩
    .rintro v rest r s' ⟨hr,rfl,ys,bs,hy,hdy,ry⟩
     cases ry with
     | @cons _ _ y yt cs ds r1 r2=>
      have e:(fM y && eG yt)=true:=hy
      rw[AW] at e
      have k:max y.depth (PyData.depthAll yt)<=n:=hdy
      refine AA (ih y v _ _ e.1 r1 (by omega) ?_)
      simp only[FD,A2,BS]
      exact AD ⟨rfl,rfl,yt,_,e.2,by omega,r2⟩
    .rintro ⟨r1,r2⟩ s' ⟨hr,rfl,_⟩
     simp only at hr
     subst hr
     exact AD h
def aI3(h:H9)(d:Dz)(a:Az):Prop:=fM d=true/\d.depth<=8/\∃ as,Reads h (.ref a) d as
theorem xD{h h':H9}{a:Az}{o:Obj}{es:Array DictEntry}{w:Nat}(m:h.get? a=some o)(q:o.data=.dict es w)(s:Heap.SameBut a h h'){v:V9}{d:Dz}{e:List Az}(c:fM d=true)(r:Reads h v d e):Reads h' v d e:=by
 refine Reads.rec (motive_1:=fun v d e _=>fM d=true->Reads h' v d e) (motive_2:=fun vs xs e _=>eG xs=true->ReadsAll h' vs xs e) ?_ ?_ ?_ ?_ ?_ ?_ ?_ ?_ ?_ r c
 .exact fun _=>.none
 .intro b c;cases c
 .exact fun i t _=>.int i t
 .exact fun i t _=>.str i t
 .intro b o' vs n xs e h1 h2 f k l c;cases c
 .intro b o' vs n xs e h1 h2 f k l c
  exact .tuple ((s.2 b (fun z=>by subst z;rw[m] at h1;cases h1;rw[q] at f;cases f)).trans h1) h2 f (l c)
 .intro b o' p n u e bs h1 h2 f k y g j c;cases c
 .exact fun _=>.nil
 .intro v vs d ds e bs x A g j c
  exact .cons (g ((AW ..).mp c).1) (j ((AW ..).mp c).2)
noncomputable def iN(prog:P9)(w:W9):HeapKind prog w Dz where
 is:=aI3
 hash:=fU w
 draws:=fA
 room:=fun A=>A.units+9 < cLine
 inj:=fun {h a x y} hx hy=>by
  obtain ⟨k1,_,as,r1⟩:=hx
  obtain ⟨k2,_,bs,r2⟩:=hy
  exact PySem.SeqAt.Reads.unique x y _ _ _ (kQ k1) r1 r2
 keeps:=fun {h h' k a d o es ep} hx ho hd hs=>by
  obtain ⟨k1,k2,as,r1⟩:=hx
  exact ⟨k1,k2,as,xD ho hd hs k1 r1⟩
 pyHash:=fun {A E s k a Q} hu hk h=>by
  obtain ⟨k1,k2,as,r1⟩:=hk
  exact aGB k _ as A s Q k1 r1 (by omega) h
 eqBool:=fun {A E s x y a b Q} hu hx hy h=>by
  obtain ⟨k1,k2,as,r1⟩:=hx
  obtain ⟨l1,l2,bs,r2⟩:=hy
  refine PySem.SeqAt.eqAt_reads x y A s _ _ as bs r1 r2 (kQ k1) (kQ l1) ?_ prog w E Q ?_
  .have:min x.depth y.depth<=8:=A4 (Nat.min_le_left _ _) k2
   omega
  .rw[aDQ k1 l1];exact h
 quiet:=fun {A E s k a Q} hk h=>by
  obtain ⟨k1,k2,as,r1⟩:=hk
  exact aDR 8 k _ as Q k1 r1 k2 h
abbrev Ent:=Dz×V×V
def nE(w:W9)(p:Ent)(en:DictEntry):Prop:=en.hash=fU w p.1/\aU p.2.1 en.key/\aU p.2.2 en.val
def iO(w:W9)(a:Az)(es:List Ent)(ep:Nat):HO:=.ext fun h=>(a == sysModules)=false/\∃ o ar,h.get? a=some o/\o.ExactDict/\o.data=.dict ar ep/\Paired (nE w) es ar.toList
theorem pV{P:P9}{w:W9}{H:Hp}{h:H9}{a:Az}{es:List Ent}{c:Nat}(f:(a == sysModules)=false)(b:∃ o ar,h.get? a=some o/\o.ExactDict/\o.data=.dict ar c/\Paired (nE w) es ar.toList):bP P w H h a (iO w a es c):=
 ⟨⟨f,b⟩,let ⟨o,_,e,_⟩:=b;⟨o,e⟩,fun h1 h2 ⟨q,o,es,e,r⟩ d=>⟨q,o,es,d _ e,r⟩⟩
noncomputable def xE:Dz->Bool
 | .tuple xs=>fM (.tuple xs) && decide ((PyData.tuple xs).depth<=8)
 | _=>false
noncomputable def aA4:Dz->Bool
 | .int _=>true
 | .str _=>true
 | _=>false
def dY(k:Dz)(ks:List Dz):Bool:=(xE k && ks.all xE) || (aA4 k && ks.all aA4)
theorem aDS{d:Dz}(h:xE d=true):∃ xs,d=.tuple xs/\fM d=true/\d.depth<=8:=by
 cases d with
 | tuple xs=>
  have h':(fM (.tuple xs) && decide ((PyData.tuple xs).depth<=8))=true:=h
  rw[AW] at h'
  exact ⟨xs,rfl,h'.1,DZ h'.2⟩
 | _=>cases h
def iD:Key->Dz
 | .inl i=>.int i
 | .inr x=>.str x
theorem vR{d:Dz}(h:aA4 d=true):∃ k,d=iD k:=by
 cases d with
 | int i=>exact ⟨.inl i,rfl⟩
 | str i=>exact ⟨.inr i,rfl⟩
 | _=>cases h
theorem q9{a b:Key}(h:iD a=iD b):a=b:=by
 cases a<;>cases b<;>cases h<;>rfl
theorem vS{K:Frag}{H:Hp}{v:V}{k:Key}(h:DatV K H v (iD k)):v=kV k:=by
 cases k with
 | inl i=>exact h.int_of
 | inr x=>exact h.str_of
theorem tJ{P:P9}{w:W9}(k:Key):fU w (iD k)=(cQ P w).hash k:=by
 cases k with
 | inl i=>exact qZ w i
 | inr x=>exact q0 w x
def pW:Ent->(Dz×Az×V9)->Prop:=fun e x=>e.1=x.1/\e.2.1=.ref x.2.1/\aU e.2.2 x.2.2
def pX:Ent->(Key×V9)->Prop:=fun e x=>e.1=iD x.1/\e.2.1=kV x.1/\aU e.2.2 x.2
theorem y3{P:P9}{w:W9}:∀ {es:List Ent} {ens:List DictEntry},Paired (nE w) es ens->(∀ e∈es,∃ b,e.2.1=.ref b)->∃ xs,ens=xs.map (entryOfKey (iN P w))/\Paired pW es xs
 | _,_,.nil,_=>⟨[],rfl,.nil⟩
 | e::es,en::ens,.cons h t,hb=>by
  obtain ⟨xs,h1,h2⟩:=y3 (P:=P) t fun e l=>hb e (AL _ l)
  obtain ⟨b,c⟩:=hb e AX
  obtain ⟨k,j,m⟩:=h
  rw[c] at j
  obtain ⟨a,f,g⟩:=en
  have d:f=Value.ref b:=j
  have i:a=fU w e.1:=k
  subst d i
  exact ⟨(e.1,b,g)::xs,by rw[AJ,h1];rfl,.cons ⟨rfl,c,m⟩ h2⟩
theorem tK{P:P9}{w:W9}:∀ {es:List Ent} {xs:List (Dz×Az×V9)},Paired pW es xs->Paired (nE w) es (xs.map (entryOfKey (iN P w)))
 | _,_,.nil=>.nil
 | _,_,.cons h t=>.cons ⟨by rw[h.1];rfl,by rw[h.2.1];rfl,h.2.2⟩ (tK t)
theorem y4{P:P9}{w:W9}:∀ {es:List Ent} {ens:List DictEntry},Paired (nE w) es ens->(∀ e∈es,∃ k,e.1=iD k/\e.2.1=kV k)->∃ xs,Pairs (cQ P w) ens xs/\Paired pX es xs/\∀ en∈ens,∃ k,(cQ P w).is k en.key=true/\en.hash=(cQ P w).hash k
 | _,_,.nil,_=>⟨[],.nil,.nil,fun _ h=>by cases h⟩
 | e::es,en::ens,.cons h t,hb=>by
  obtain ⟨xs,h1,h2,h3⟩:=y4 (P:=P) t fun e j=>hb e (AL _ j)
  obtain ⟨k,b,a⟩:=hb e AX
  obtain ⟨i,g,f⟩:=h
  have hi:(cQ P w).is k en.key=true:=aCI (by rw[<-a];exact g)
  refine ⟨(k,en.val)::xs,.cons hi rfl h1,.cons ⟨b,a,f⟩ h2,fun d c=>?_⟩
  rcases AT.mp c with z|z
  · subst z; exact ⟨k, hi, by rw [i, b, tJ (P := P)]⟩
  · exact h3 d z
theorem aDT{P:P9}{w:W9}{k:Key}{v:V9}(h:(cQ P w).is k v=true):aU (kV k) v:=by
 rcases keyIs_shape h with ⟨i,t,rfl,rfl⟩|⟨x,t,rfl,rfl⟩
 · exact ⟨t, rfl⟩
 · exact ⟨t, rfl⟩
theorem tL{P:P9}{w:W9}:∀ {es:List Ent} {xs:List (Key×V9)} {ens:List DictEntry},Paired pX es xs->Pairs (cQ P w) ens xs->(∀ en∈ens,∃ k,(cQ P w).is k en.key=true/\en.hash=(cQ P w).hash k)->Paired (nE w) es ens
 | _,_,_,.nil,.nil,_=>.nil
 | _,_,_,.cons h t,.cons p1 p2 ps,hk=>by
  obtain ⟨k,hk1,hk2⟩:=hk _ AX
  obtain rfl:=(cQ P w).inj _ _ _ hk1 p1
  refine .cons ⟨by rw[hk2,h.1,tJ (P:=P)],by rw[h.2.1];exact aDT hk1,by rw[p2];exact h.2.2⟩ (tL t ps fun en a=>hk en (AL _ a))
noncomputable def atE(es:List Ent)(k:Dz):O9 V:=(es.find? fun e=>decide (e.1=k)).map (·.2.2)
noncomputable def mG(es:List Ent)(k:Dz)(kv v:V):List Ent:=if (atE es k).isSome then es.map (fun e=>if e.1=k then (e.1,e.2.1,v) else e) else es++[(k,kv,v)]
theorem tM{k:Dz}:∀ {es:List Ent} {xs:List (Dz×Az×V9)},Paired pW es xs->fS (atE es k) ((atKey xs k).map (·.2))
 | _,_,.nil=>trivial
 | e::es,x::xs,.cons h t=>by
  have ih:=tM (k:=k) t
  unfold atE atKey at ih ⊢
  rw[CJ,CJ,h.1]
  by_cases q:x.1=k
  · rw [BZ q]; exact h.2.2
  · rw [BH q]; exact ih
theorem tN{k:Key}:∀ {es:List Ent} {xs:List (Key×V9)},Paired pX es xs->fS (atE es (iD k)) (valueAt xs k)
 | _,_,.nil=>trivial
 | e::es,x::xs,.cons h t=>by
  have ih:=tN (k:=k) t
  unfold atE valueAt at ih ⊢
  rw[CJ,CJ,h.1]
  by_cases q:x.1=k
  · rw [BZ q, BZ (by rw [q])]; exact h.2.2
  · rw [BH q, BH (fun z => q (q9 z))]; exact ih
theorem j9{o:O9 V}{u:O9 V9}(h:fS o u):o.isSome=u.isSome:=by
 cases o<;>cases u<;>first|rfl|exact h.elim
theorem lF{α β:Type}{f:α->β->Prop}{g:α->α}{k:β->β}(hg:∀ a b,f a b->f (g a) (k b)):∀ {xs:List α} {ys:List β},Paired f xs ys->Paired f (xs.map g) (ys.map k)
 | _,_,.nil=>.nil
 | _,_,.cons h t=>.cons (hg _ _ h) (lF hg t)
theorem lG{α β:Type}{f:α->β->Prop}{a:α}{b:β}(h:f a b):∀ {xs:List α} {ys:List β},Paired f xs ys->Paired f (xs++[a]) (ys++[b])
 | _,_,.nil=>.cons h .nil
 | _,_,.cons q t=>.cons q (lG h t)
theorem aHW{k:Dz}{b:Az}{v:V}{u:V9}{es:List Ent}{xs:List (Dz×Az×V9)}(r:aU v u)(h:Paired pW es xs):Paired pW (mG es k (.ref b) v) (storedH xs k b u):=by
 have q:=j9 (tM (k:=k) h)
 rw[EO] at q
 unfold mG storedH
 rw[q]
 cases (atKey xs k).isSome with
 | true=>
  rw[AK rfl,AK rfl]
  refine lF (fun e x a=>?_) h
  unfold putAt
  rw[a.1]
  by_cases z:x.1=k
  · rw [AK z, AK z]; exact ⟨rfl, a.2.1, r⟩
  · rw [AM z, AM z]; exact a
 | false=>rw[AM (by decide),AM (by decide)];exact lG ⟨rfl,rfl,r⟩ h
theorem aCN{k:Key}:∀ {xs:List (Key×V9)},xs.any (fun kv=>decide (kv.1=k))=(valueAt xs k).isSome
 | []=>rfl
 | x::xs=>by
  have ih:=aCN (k:=k) (xs:=xs)
  unfold valueAt at ih ⊢
  rw[List.any_cons,CJ]
  by_cases q:x.1=k
  · rw [BZ q]; rfl
  · rw [BH q, Bool.false_or]; exact ih
theorem aHX{k:Key}{v:V}{u:V9}{es:List Ent}{xs:List (Key×V9)}(r:aU v u)(h:Paired pX es xs):Paired pX (mG es (iD k) (kV k) v) (stored xs k u):=by
 have q:=j9 (tN (k:=k) h)
 unfold mG stored
 rw[q,aCN]
 cases (valueAt xs k).isSome with
 | true=>
  rw[AK rfl,AK rfl]
  refine lF (fun e x a=>?_) h
  by_cases z:x.1=k
  · rw [AK z, AK (by rw [a.1, z])]; exact ⟨by rw [a.1], a.2.1, r⟩
  · rw [AM z, AM (fun y => z (q9 (a.1.symm.trans y)))]; exact a
 | false=>rw[AM (by decide),AM (by decide)];exact lG ⟨rfl,rfl,r⟩ h
section
variable{X:Cx}{pins:List (Az×Obj)}{σ:L2.St}{H:Hp}{s:S9}{a:Az}{es:List Ent}{k:Dz}{kv v:V}{ku u:V9}{A:U9}{E:V9->S9->Prop}
structure DicAt(X:Cx)(H:Hp)(a:Az)(es:List Ent)(k:Dz)(kv:V):Prop where
 o:∃ ep,H a=some (iO X.w a es ep)
 ks:∀ e∈es,DatV X.K H e.2.1 e.1
 nd:(es.map (·.1)).Nodup
 dk:DatV X.K H kv k
 one:dY k (es.map (·.1))=true
theorem o0{α β:Type}{f:α->β->Prop}{y:β}:∀ {xs:List α} {ys:List β},Paired f xs ys->y∈ys->∃ x,x∈xs/\f x y
 | _,_,.nil,h=>by cases h
 | _,_,.cons q t,h=>by
  rcases AT.mp h with z|z
  .subst z;exact ⟨_,AX,q⟩
  .obtain ⟨x,h1,h2⟩:=o0 t z
   exact ⟨x,AL _ h1,h2⟩
theorem lH{α β γ:Type}{f:α->β->Prop}{g:α->γ}{k:β->γ}(h:∀ a b,f a b->g a=k b):∀ {xs:List α} {ys:List β},Paired f xs ys->xs.map g=ys.map k
 | _,_,.nil=>rfl
 | _,_,.cons q t=>by rw[AJ,AJ,h _ _ q,lH h t]
theorem rA{α β:Type}{f:α->β}:∀ {xs:List α},(xs.map f).Nodup->xs.Nodup
 | [],_=>List.nodup_nil
 | x::t,h=>by
  rw[AJ,DC] at h
  exact DC.mpr ⟨fun z=>h.1 (DL z),rA h.2⟩
theorem DicAt.cases (D : DicAt X H a es k kv) (I : Inv X pins σ H s) (N : aU kv ku) : (a == sysModules) = false /\
    ((∃ b xs, kv = .ref b /\ ku = .ref b /\ Paired pW es xs /\ (iN X.prog X.w).is s.heap k b /\ s.heap.DictOfH (iN X.prog X.w) a xs) \/
     (∃ kk xs, k = iD kk /\ kv = kV kk /\ Paired pX es xs /\ (cQ X.prog X.w).is kk ku = true /\ s.heap.DictOf (cQ X.prog X.w) a xs)) := by
  obtain ⟨E, S⟩ := D.o
  obtain ⟨⟨B, o, J, h1, h2, L, M⟩, _, _⟩ := (show bP X.prog X.w H s.heap a (iO X.w a es E) from I.hok a _ S)
  refine ⟨B, ?_⟩
  have f := D.one
  unfold dY at f
  rw [Bool.or_eq_true, AW, AW, CM, CM] at f
  rcases f with ⟨z, y⟩ | ⟨z, y⟩
  · have l : ∀ (d : Dz) (v : V), xE d = true -> DatV X.K H v d -> ∃ j, v = .ref j /\ (iN X.prog X.w).is s.heap d j := fun d v B G => by
      obtain ⟨Y, rfl, O, T⟩ := aDS B
      obtain ⟨j, vs, rfl, _, _⟩ := G.tup_of
      obtain ⟨W, r⟩ := G.reads I (kQ O) (u := .ref j) rfl
      exact ⟨j, rfl, O, T, W, r⟩
    obtain ⟨b, rfl, C⟩ := l _ _ z D.dk
    cases (show ku = Value.ref b from N)
    obtain ⟨xs, m, c⟩ := y3 (P := X.prog) M fun e i => by
      obtain ⟨j, e1, _⟩ := l e.1 e.2.1 (y _ (DL i)) (D.ks e i)
      exact ⟨j, e1⟩
    refine .inl ⟨b, xs, rfl, rfl, c, C, o, J, E, h1, h2, L, m, fun x R => ?_, ?_⟩
    · obtain ⟨e, i, p⟩ := o0 c R
      obtain ⟨j, e1, q⟩ := l e.1 e.2.1 (y _ (DL i)) (D.ks e i)
      rw [p.2.1] at e1
      cases e1
      rw [<- p.1]; exact q
    · rw [<- lH (g := fun e : Ent => e.1) (fun a b h => h.1) c]; exact D.nd
  · obtain ⟨kk, rfl⟩ := vR z
    have t := vS D.dk
    obtain ⟨xs, m, c, F⟩ := y4 (P := X.prog) M fun e i => by
      obtain ⟨U, n⟩ := vR (y _ (DL i))
      have q := D.ks e i
      rw [n] at q
      exact ⟨U, n, vS q⟩
    refine .inr ⟨kk, xs, rfl, t, c, aCI (by rw [<- t]; exact N), o, J, E, h1, h2, L, fun Q A => F Q (by simpa using A), m, ?_⟩
    have : es.map (·.1) = (xs.map (·.1)).map iD := by rw [List.map_map]; exact lH (g := fun e : Ent => e.1) (fun a b h => h.1) c
    have nd := D.nd
    rw [this] at nd
    exact rA nd
theorem rB{A:U9}(a:A.units+64 < cLine):(iN X.prog X.w).room A.in1:=by show A.in1.units+9 < cLine;rw[qY];omega
theorem aGC{Q:V9->S9->Prop}(i:A.units+64 < cLine)(D:DicAt X H a es k kv)(I:Inv X pins σ H s)(f:aU kv ku)(h:∀ s',Inv X pins σ H s'->Q (.bool (atE es k).isSome) s'):wpAny (model X.prog X.w) A (compareOp .In ku (.ref a)) Q E s:=by
 obtain ⟨e,⟨b,xs,rfl,rfl,c,d,dd⟩|⟨g,xs,rfl,rfl,c,d,dd⟩⟩:=D.cases I f
 .refine wpAny_in_heap (rB i) d e dd ?_
  have q:=j9 (tM (k:=k) c)
  rw[EO] at q
  rw[<-q];exact h _ (I.tok _)
 .refine wpAny_in_of d e dd.mapOf ?_
  rw[<-j9 (tN (k:=g) c)];exact h _ (I.tok _)
theorem aDU{Q:Unit->S9->Prop}(C:A.units+64 < cLine)(D:DicAt X H a es k kv)(I:Inv X pins σ H s)(B:aU kv ku)(t:aU v u)(x:es.length<=sizeLine)(h:∀ ep s',Inv X pins σ (upd H a (iO X.w a (mG es k kv v) ep)) s'->Q () s') :
  wpAny (model X.prog X.w) A (setItem (.ref a) ku u) Q E s:=by
 obtain ⟨z,⟨b,xs,rfl,rfl,d,q,dd⟩|⟨G,xs,rfl,rfl,d,q,dd⟩⟩:=D.cases I B
 .have j:xs.length<=sizeLine:=by rw[<-Paired.length d];exact x
  refine wpAny_setItem_heap (hsz:=j) (rB C) q dd fun h' c m=>?_
  obtain ⟨e,g,ep,f,h2,i,l,_,y⟩:=c
  obtain ⟨n,r⟩:=D.o
  refine h ep _ (vP I (by rw[r];exact True.intro) m ⟨e,f⟩ (pV z ⟨e,g,f,h2,i,?_⟩))
  rw[l]
  exact tK (aHW t d)
 .have j:xs.length<=sizeLine:=by rw[<-Paired.length d];exact x
  refine wpAny_setItem_pairs (hsz:=j) q dd fun h' c m=>?_
  obtain ⟨e,g,ep,f,h2,i,l,y,_⟩:=c
  obtain ⟨n,r⟩:=D.o
  refine h ep _ (vP I (by rw[r];exact True.intro) m ⟨e,f⟩ (pV z ⟨e,g,f,h2,i,?_⟩))
  exact tL (aHX t d) y fun F p=>l F (by simpa using p)
end
structure Er where
 c:Str
 fs:List (Str×Dz)
inductive R(α:Type) where
 | bad|ok (a:α)|ex (e:Er)
noncomputable def R.bind{α β:Type}:R α->(α->R β)->R β
 | .bad,_=>.bad
 | .ok a,f=>f a
 | .ex e,_=>.ex e
@[simp] theorem R.bind_ok{α β:Type}(a:α)(f:α->R β):(R.ok a).bind f=f a:=id rfl
@[simp] theorem R.bind_bad{α β:Type}(f:α->R β):(R.bad:R α).bind f=.bad:=id rfl
@[simp] theorem R.bind_ex{α β:Type}(e:Er)(f:α->R β):(R.ex e:R α).bind f=.ex e:=id rfl
inductive A where
 | d (x:Dz)|l (xs:List Dz)|m (kvs:List (Dz×Dz))|x (e:Er)|g (k n:Nat) (f:List Dz->R Dz)|k (q:Str)|f (kvs:List (Dz×Dz))|o (e:Er)
abbrev Sg:=List (O9 A)
structure Gb where
 B:Az->Hp->Nat->Nat->(List Dz->R Dz)->Prop
 T:Hp
 w:World
structure Ct where
 K:Frag
 mg:Str->Option V9
 w:World
 F0:Hp
 H0:Hp
 g:Gb
 cells:List (Str×Az)
 cls:Str->Option ClSt
theorem aA5{w:W9}{p:Az}{es:List Ent}{a:Nat}{q:Str}(h:iO w p es a=.cod q):False:=by unfold iO at h;cases h
theorem bR(H:Hp):aH H H:=fun _ _ h=>h
theorem bS{H H':Hp}(s:aH H H'){a:Az}(h:H' a=none):H a=none:=by
 cases e:H a with
 | none=>rfl
 | some o=>rw[s a o e] at h;cases h
def lI(H:Hp)(a:Az):Prop:=H a=none\/∃ q,H a=some (.cod q)
theorem lI.back{H H1:Hp}{a:Az}(s:aH H H1)(h:lI H1 a):lI H a:=by
 cases e:H a with
 | none=>exact .inl e
 | some o=>
  have e1:=s a o e
  rcases h with z|⟨q,z⟩
  · rw [e1] at z; cases z
  · rw [e1] at z; cases z; exact .inr ⟨q, e⟩
structure Ext(F H F' H':Hp):Prop where
 hh:aH H H'
 ff:aH F F'
 fh:aH F' H'
 nw:∀ a,F a=none->F' a≠none->lI H a
theorem Ext.refl{F H:Hp}(h:aH F H):Ext F H F H:=⟨bR H,bR F,h,fun a e n=>absurd e n⟩
theorem Ext.trans{F H c H1 d H2:Hp}(a:Ext F H c H1)(b:Ext c H1 d H2):Ext F H d H2:=
 ⟨fun x o e=>b.hh x o (a.hh x o e),fun x o e=>b.ff x o (a.ff x o e),b.fh,fun x e n=>by
  cases q:c x with
  | none=>exact (b.nw x q n).back a.hh
  | some o=>exact a.nw x e (by rw[q];exact fun z=>nomatch z)⟩
theorem Ext.stay{F H a H':Hp}(s:Ext F H a H'){p:Az}{o:HO}(c:F p=none)(h2:H p=some o)(b:∀ q,o≠.cod q):a p=none:=by
 cases q:a p with
 | none=>rfl
 | some o=>
  rcases s.nw p c (by rw[q];exact fun z=>nomatch z) with z|⟨d,z⟩
  · rw [z] at h2; cases h2
  · rw [z] at h2; cases h2; exact absurd rfl (b _)
theorem aA6{F H:Hp}{p:Az}{o:HO}(s:aH F H):aH (upd F p o) (upd H p o):=fun a u e=>by
 by_cases q:a=p
 · subst q; rw [aS] at e ⊢; exact e
 · rw [aE q] at e ⊢; exact s a u e
theorem Ext.new{F H:Hp}{p:Az}{o:HO}(s:aH F H)(b:H p=none):Ext F H (upd F p o) (upd H p o):=
 ⟨aH.upd b,aH.upd (bS s b),aA6 s,fun a e n=>by
  by_cases q:a=p
  · subst q; exact .inl b
  · rw [aE q] at n; exact absurd e n⟩
theorem Ext.own{F H:Hp}{p:Az}{o:HO}(s:aH F H)(b:H p=none):Ext F H F (upd H p o):=
 ⟨aH.upd b,bR F,fun a u e=>by
  rw[aE (bF (s a u e) b)];exact s a u e,fun a e n=>absurd e n⟩
def jW(K:Frag)(mg:Str->O9 V9)(F:Hp)(e:Er)(a C:Az):Prop:=mg e.c=some (.ref C)/\∃ od,F a=some (ExO a C od)/\((e.fs=[]/\od=none)\/∃ d fvs,od=some d/\F d=some (.xd fvs)/\fvs.map (·.1)=e.fs.map (·.1)/\DatVs K F (fvs.map (·.2)) (e.fs.map (·.2)))
theorem jW.same{K:Frag}{mg:Str->O9 V9}{F b:Hp}{e:Er}{a C:Az}(s:aH F b)(h:jW K mg F e a C):jW K mg b e a C:=by
 obtain ⟨m,od,h1,h2⟩:=h
 refine ⟨m,od,s _ _ h1,h2.imp id ?_⟩
 rintro ⟨d,fvs,e1,e2,e3,e4⟩
 exact ⟨d,fvs,e1,s _ _ e2,e3,e4.same s⟩
def xF(K:Frag)(mg:Str->O9 V9)(F:Hp)(e:Er)(a:Az):Prop:=∃ C dx fvs,mg e.c=some (.ref C)/\F a=some (.ins C dx fvs)/\fvs.map (·.1)=e.fs.map (·.1)/\DatVs K F (fvs.map (·.2)) (e.fs.map (·.2))
theorem xF.same{K:Frag}{mg:Str->O9 V9}{F c:Hp}{e:Er}{a:Az}(s:aH F c)(h:xF K mg F e a):xF K mg c e a:=by
 obtain ⟨C,dx,b,h1,h2,d,f⟩:=h
 exact ⟨C,dx,b,h1,s _ _ h2,d,f.same s⟩
structure MapRel(K:Frag)(F:Hp)(es:List Ent)(kvs:List (Dz×Dz)):Prop where
 k1:es.map (·.1)=kvs.map (·.1)
 k2:DatVs K F (es.map (·.2.1)) (kvs.map (·.1))
 vs:DatVs K F (es.map (·.2.2)) (kvs.map (·.2))
 nd:(kvs.map (·.1)).Nodup
theorem MapRel.same{K:Frag}{F b:Hp}{es:List Ent}{a:List (Dz×Dz)}(s:aH F b)(h:MapRel K F es a):MapRel K b es a:=⟨h.k1,h.k2.same s,h.vs.same s,h.nd⟩
def AF(g:Gb)(K:Frag)(mg:Str->O9 V9)(F:Hp):A->V->Prop
 | .d x,v=>DatV K F v x
 | .x e,v=>∃ a C,v=.ref a/\jW K mg F e a C
 | .g k n G,v=>∃ f F1,v=.ref f/\aH F1 F/\g.B f F1 k n G
 | .f kvs,v=>∃ p es,v=.ref p/\(∃ ep,F p=some (iO g.w p es ep))/\MapRel K F es kvs
 | .o e,v=>∃ a,v=.ref a/\xF K mg F e a
 | _,_=>False
theorem AF.same{g:Gb}{K:Frag}{mg:Str->O9 V9}{F F':Hp}(s:aH F F'):∀ {a:A} {v:V},AF g K mg F a v->AF g K mg F' a v
 | .d x,v,h=>DatV.same s h
 | .x e,v,⟨a,C,h1,h2⟩=>⟨a,C,h1,h2.same s⟩
 | .g k n G,v,⟨f,F1,h1,h2,h3⟩=>⟨f,F1,h1,fun a o z=>s a o (h2 a o z),h3⟩
 | .f kvs,v,⟨p,es,h1,⟨ep,h2⟩,h3⟩=>⟨p,es,h1,⟨ep,s _ _ h2⟩,h3.same s⟩
 | .o e,v,⟨a,h1,h2⟩=>⟨a,h1,h2.same s⟩
noncomputable def A.own:A->Bool
 | .l _=>true
 | .m _=>true
 | _=>false
def AO(c:Ct)(F H:Hp):A->V->Prop
 | .l xs,v=>∃ p vs,v=.ref p/\H p=some (.lst vs)/\F p=none/\c.H0 p=none/\DatVs c.K F vs xs
 | .m kvs,v=>∃ p es,v=.ref p/\(∃ ep,H p=some (iO c.w p es ep))/\F p=none/\c.H0 p=none/\MapRel c.K F es kvs
 | .k q,v=>∃ S f cl doc pm cc ct,c.cls q=some S/\v=.ref f/\F f=some (FnO f (S.obj cl doc pm cc ct))/\F cc=some (.cod S.qual)/\ClOf c.cells S.scope cl
 | a,v=>AF c.g c.K c.mg F a v
theorem AO.ext{c:Ct}{F H b H':Hp}(s:Ext F H b H'):∀ {a:A} {v:V},AO c F H a v->AO c b H' a v
 | .d x,v,h=>DatV.same s.ff h
 | .x e,v,h=>AF.same (g:=c.g) (K:=c.K) (mg:=c.mg) (a:=.x e) s.ff h
 | .g k n G,v,h=>AF.same (g:=c.g) (K:=c.K) (mg:=c.mg) (a:=.g k n G) s.ff h
 | .f kvs,v,h=>AF.same (g:=c.g) (K:=c.K) (mg:=c.mg) (a:=.f kvs) s.ff h
 | .o e,v,h=>AF.same (g:=c.g) (K:=c.K) (mg:=c.mg) (a:=.o e) s.ff h
 | .k q,v,⟨S,f,cl,doc,pm,cc,ct,h0,h1,h2,h3,h4⟩=>⟨S,f,cl,doc,pm,cc,ct,h0,h1,s.ff _ _ h2,s.ff _ _ h3,h4⟩
 | .l xs,v,⟨p,vs,h1,h2,h3,h4,h5⟩=>⟨p,vs,h1,s.hh _ _ h2,s.stay h3 h2 (fun _ z=>nomatch z),h4,h5.same s.ff⟩
 | .m kvs,v,⟨p,vs,h1,⟨ep,h2⟩,h3,h4,h5⟩=>⟨p,vs,h1,⟨ep,s.hh _ _ h2⟩,s.stay h3 h2 (fun _ z=>aA5 z),h4,h5.same s.ff⟩
theorem AO.at{c:Ct}{F H:Hp}{a:A}{v:V}(h:AO c F H a v)(o:a.own=true):∃ p o,v=.ref p/\H p=some o/\F p=none/\c.H0 p=none:=by
 cases a with
 | l xs=>obtain ⟨p,vs,h1,h2,b,i,j⟩:=h;exact ⟨p,_,h1,h2,b,i⟩
 | m xs=>obtain ⟨p,vs,h1,⟨q,h2⟩,b,i,j⟩:=h;exact ⟨p,_,h1,h2,b,i⟩
 | d x=>cases o
 | x e=>cases o
 | g k n f=>cases o
 | k S=>cases o
 | f S=>cases o
 | o S=>cases o
theorem AO.off{c:Ct}{F H:Hp}{p:Az}{o:HO}:∀ {a:A} {v:V},AO c F H a v->v≠.ref p->AO c F (upd H p o) a v
 | .l xs,v,⟨q,vs,h1,h2,h3,h4,h5⟩,n=>⟨q,vs,h1,by rw[aE (fun z=>n (by rw[h1,z]))];exact h2,h3,h4,h5⟩
 | .m xs,v,⟨q,vs,h1,⟨ep,h2⟩,h3,h4,h5⟩,n=>⟨q,vs,h1,⟨ep,by rw[aE (fun z=>n (by rw[h1,z]))];exact h2⟩,h3,h4,h5⟩
 | .d x,v,h,_=>h
 | .x e,v,h,_=>h
 | .g k n G,v,h,_=>h
 | .k S,v,h,_=>h
 | .f S,v,h,_=>h
 | .o S,v,h,_=>h
structure Ab(c:Ct)(ρ:Sg)(σ:L2.St)(F H:Hp):Prop where
 len:ρ.length=σ.length
 fh:aH F H
 slot:∀ (i:Nat) (a:A),ρ[i]? = some (some a)->∃ v,σ[i]? = some (some v)/\AO c F H a v
 apart:∀ (i j:Nat) (a b:A),i≠j->ρ[i]? = some (some a)->ρ[j]? = some (some b)->a.own=true->b.own=true->σ[i]? ≠ σ[j]?
 f0:aH c.F0 F
 h0:aH c.H0 H
 n0:∀ a,c.F0 a=none->F a≠none->lI c.H0 a
 t0:aH c.g.T c.F0
theorem Ab.all{c:Ct}{ρ:Sg}{σ:L2.St}{F H:Hp}(b:Ab c ρ σ F H):Ext c.F0 c.H0 F H:=⟨b.h0,b.f0,b.fh,b.n0⟩
theorem Ab.ext{c:Ct}{ρ:Sg}{σ:L2.St}{F H d H':Hp}(b:Ab c ρ σ F H)(e:Ext F H d H'):Ab c ρ σ d H' where
 len:=b.len
 fh:=e.fh
 slot:=fun i a h=>let ⟨v,h1,h2⟩:=b.slot i a h;⟨v,h1,h2.ext e⟩
 apart:=b.apart
 f0:=fun x o h=>e.ff x o (b.f0 x o h)
 h0:=fun x o h=>e.hh x o (b.h0 x o h)
 n0:=fun a h n=>by
  cases q:F a with
  | none=>exact (e.nw a q n).back b.h0
  | some o=>exact b.n0 a h (by rw[q];exact fun z=>nomatch z)
 t0:=b.t0
def XW(c:Ct)(E:XK)(e:Er):Prop:=∀ a C F' H',Ext c.F0 c.H0 F' H'->jW c.K c.mg F' e a C->E (.ref C) (some a) H'
def Rk{α:Type}(c:Ct)(E:XK)(F H:Hp)(r:R α)(k:α->Prop):Prop:=match r with
 | .bad=>False
 | .ok a=>k a
 | .ex e=>XW c E e
abbrev VR(α:Type):=α->V->Hp->Hp->Hp->Prop
def tV{α:Type}(Rel:VR α)(c:Ct)(E:XK)(f:Sg->R α):TE:=fun σ H Q=>∃ ρ F,Ab c ρ σ F H/\Rk c E F H (f ρ) fun d=>∀ v F' H',Ext F H F' H'->Rel d v H F' H'->Q v H'
def cB(c:Ct):VR Dz:=fun d v _ F _=>DatV c.K F v d
def aP(K:Frag)(F H:Hp)(v:V)(d:Dz):Prop:=DatV K F v d\/∃ p vs xs,v=.ref p/\d=.list xs/\H p=some (.lst vs)/\DatVs K F vs xs
def a8(c:Ct):VR Dz:=fun d v _ F H=>aP c.K F H v d
def aA7(c:Ct):VR A:=fun a v _ F _=>AF c.g c.K c.mg F a v
def xG(c:Ct):VR (List Dz):=fun xs v H F H'=>∃ p vs,v=.ref p/\H p=none/\H' p=some (.lst vs)/\F p=none/\DatVs c.K F vs xs
abbrev PD(X:Cx)(c:Ct)(E:XK)(e:E1)(f:Sg->R Dz):Prop:=PE X e (tV (cB c) c E f)
abbrev PR(X:Cx)(c:Ct)(E:XK)(e:E1)(f:Sg->R Dz):Prop:=PE X e (tV (a8 c) c E f)
abbrev PV(X:Cx)(c:Ct)(E:XK)(e:E1)(f:Sg->R A):Prop:=PE X e (tV (aA7 c) c E f)
abbrev PN(X:Cx)(c:Ct)(E:XK)(e:E1)(f:Sg->R (List Dz)):Prop:=PE X e (tV (xG c) c E f)
theorem PE.imp{X:Cx}{e:E1}{t t':TE}(h:PE X e t)(i:∀ σ H Q,t' σ H Q->t σ H Q):PE X e t':=fun pins s σ H Q I q=>h pins s σ H Q I (i σ H Q q)
theorem PT.imp{X:Cx}{e:E1}{t t':TT}(h:PT X e t)(i:∀ σ H Q,t' σ H Q->t σ H Q):PT X e t':=fun pins s σ H Q I q=>h pins s σ H Q I (i σ H Q q)
theorem PS.imp{X:Cx}{e:Stmt}{t t':TS}(h:PS X e t)(i:∀ D σ H,t' D σ H->t D σ H):PS X e t':=fun pins s σ H D I q=>h pins s σ H D I (i D σ H q)
theorem PSs.imp{X:Cx}{e:List Stmt}{t t':TS}(h:PSs X e t)(i:∀ D σ H,t' D σ H->t D σ H):PSs X e t':=fun pins s σ H D I q=>h pins s σ H D I (i D σ H q)
def aCO{α:Type}(Rel:VR α):Prop:=∀ d v H F H1 F2 H2,Ext F H1 F2 H2->Rel d v H F H1->Rel d v H F2 H2
theorem aP.ext{K:Frag}{F H a H':Hp}{v:V}{d:Dz}(e:Ext F H a H')(h:aP K F H v d):aP K a H' v d:=by
 rcases h with h|⟨p,vs,xs,h1,h2,b,c⟩
 · exact .inl (h.same e.ff)
 · exact .inr ⟨p, vs, xs, h1, h2, e.hh _ _ b, c.same e.ff⟩
theorem o3(c:Ct):aCO (a8 c):=fun d v H F H1 a H2 e h=>aP.ext e h
theorem aP.heap{K:Frag}{F H:Hp}{v:V}{d:Dz}(s:aH F H)(h:aP K F H v d):DatV K H v d:=by
 rcases h with h|⟨p,vs,xs,h1,h2,b,a⟩
 · exact h.same s
 · subst h1 h2; exact .lst (SqL.of b) (a.same s)
section
variable{X:Cx}{c:Ct}{E:XK}{α β γ:Type}{Ra:VR α}{Rb:VR β}{Rc:VR γ}{σ:L2.St}{H:Hp}{Q:VK}
theorem Rk.ok{F:Hp}{a:α}{k:α->Prop}(h:Rk c E F H (.ok a) k):k a:=h
theorem Rk.imp{F:Hp}{r:R α}{k b:α->Prop}(h:Rk c E F H r k)(i:∀ a,r=.ok a->k a->b a):Rk c E F H r b:=by
 cases r with
 | bad=>exact h
 | ok a=>exact i a rfl h
 | ex e=>exact h
theorem Rk.bind{F:Hp}{r:R α}{f:α->R β}{k:β->Prop}(h:Rk c E F H (r.bind f) k):Rk c E F H r fun a=>Rk c E F H (f a) k:=by
 cases r with
 | bad=>exact h
 | ok a=>exact h
 | ex e=>exact h
theorem Rk.ext{F b H':Hp}{r:R α}{k:α->Prop}(e:Ext F H b H')(h:Rk c E F H r k):Rk c E b H' r k:=by
 cases r with
 | bad=>exact h
 | ok a=>exact h
 | ex x=>exact h
end
def xH{α:Type}(Rel:VR α):Prop:=∀ d v H H1 F' H',aH H H1->Rel d v H1 F' H'->Rel d v H F' H'
theorem jL(c:Ct):xH (cB c):=fun _ _ _ _ _ _ _ h=>h
section
variable{X:Cx}{c:Ct}{E:XK}{α β γ:Type}{Ra:VR α}{Rb:VR β}{Rc:VR γ}
def Op1(c:Ct)(Ra:VR α)(Rb:VR β)(g:α->R β)(r:V->Hp->VK->Prop):Prop:=
 ∀ (H0 F H:Hp) (a:α) (b:β) (v:V) (Q:VK),aH F H->Ra a v H0 F H->g a=.ok b->(∀ w F' H',Ext F H F' H'->Rb b w H F' H'->Q w H')->r v H Q
def Op2(c:Ct)(Ra:VR α)(Rb:VR β)(Rc:VR γ)(g:α->β->R γ)(r:R2):Prop:=
 ∀ (H0 H1 F H:Hp) (a:α) (b:β) (d:γ) (v u:V) (Q:VK),aH F H->Ra a v H0 F H->Rb b u H1 F H->g a b=.ok d->(∀ w F' H',Ext F H F' H'->Rc d w H F' H'->Q w H')->r v u H Q
def kR(g:α->R β):Prop:=∀ a e,g a≠.ex e
def cR(g:α->β->R γ):Prop:=∀ a b e,g a b≠.ex e
theorem tV1{f:Sg->R α}{g:α->R β}{r:V->Hp->VK->Prop}(m:Op1 c Ra Rb g r)(l:kR g)(j:xH Rb){σ:L2.St}{H:Hp}{Q:VK}(h:tV Rb c E (fun ρ=>(f ρ).bind g) σ H Q) :
  tV Ra c E f σ H fun v H1=>r v H1 Q:=by
 obtain ⟨ρ,F,ab,h⟩:=h
 refine ⟨ρ,F,ab,(Rk.bind h).imp fun a p q v o H1 e1 k=>?_⟩
 cases d:g a with
 | bad=>rw[d] at q;exact q.elim
 | ex e=>exact absurd d (l a e)
 | ok b=>
  rw[d] at q
  exact m H o H1 a b v Q e1.fh k d fun w n H' e2 i=>q w n H' (e1.trans e2) (j _ _ _ _ _ _ e1.hh i)
theorem tV2{f:Sg->R α}{k:Sg->R β}{g:α->β->R γ}{r:R2}(n:Op2 c Ra Rb Rc g r)(p:cR g)(t:aCO Ra)(l:xH Rc){σ:L2.St}{H:Hp}{Q:VK}(h:tV Rc c E (fun ρ=>(f ρ).bind fun a=>(k ρ).bind fun b=>g a b) σ H Q) :
  tOp r (tV Ra c E f) (tV Rb c E k) σ H Q:=by
 obtain ⟨ρ,F,ab,h⟩:=h
 refine ⟨ρ,F,ab,(Rk.bind h).imp fun a G q v y H1 e1 m=>?_⟩
 refine ⟨ρ,y,ab.ext e1,((Rk.bind q).ext e1).imp fun b D q u C H2 e2 B=>?_⟩
 cases i:g a b with
 | bad=>rw[i] at q;exact q.elim
 | ex e=>exact absurd i (p a b e)
 | ok d=>
  rw[i] at q
  exact n H H1 C H2 a b d v u Q e2.fh (t _ _ _ _ _ _ _ e2 m) B i fun w s H' A j=>q w s H' ((e1.trans e2).trans A) (l _ _ _ _ _ _ (fun x o z=>e2.hh x o (e1.hh x o z)) j)
end
section
variable{K:Frag}{F H:Hp}{v:V}
theorem DatV.bl_of{b:Bool}(h:DatV K H v (.bool b)):v=.bl b:=by cases h;rfl
theorem DatV.non_of(h:DatV K H v .none):v=.non:=by cases h;rfl
theorem aP.int_of{i:Int}(h:aP K F H v (.int i)):v=.int i:=by
 rcases h with h|⟨_,_,_,_,h,_⟩
 · exact h.int_of
 · cases h
theorem aP.str_of{i:Str}(h:aP K F H v (.str i)):v=.str i:=by
 rcases h with h|⟨_,_,_,_,h,_⟩
 · exact h.str_of
 · cases h
theorem aP.bl_of{i:Bool}(h:aP K F H v (.bool i)):v=.bl i:=by
 rcases h with h|⟨_,_,_,_,h,_⟩
 · exact DatV.bl_of h
 · cases h
theorem aP.non_of(h:aP K F H v .none):v=.non:=by
 rcases h with h|⟨_,_,_,_,h,_⟩
 · exact DatV.non_of h
 · cases h
theorem aP.tup_of{xs:List Dz}(s:aH F H)(h:aP K F H v (.tuple xs)):∃ a vs,v=.ref a/\SqT K F a vs/\SqT K H a vs/\DatVs K F vs xs:=by
 rcases h with h|⟨_,_,_,_,h,_⟩
 .obtain ⟨a,vs,h1,h2,b⟩:=h.tup_of
  exact ⟨a,vs,h1,h2,h2.same s,b⟩
 .cases h
theorem aP.lst_of{xs:List Dz}(s:aH F H)(h:aP K F H v (.list xs)):∃ a vs,v=.ref a/\SqL K H a vs/\DatVs K F vs xs:=by
 rcases h with h|⟨p,vs,ys,h1,h2,b,c⟩
 .obtain ⟨a,vs,h1,h2,b⟩:=h.lst_of
  exact ⟨a,vs,h1,h2.same s,b⟩
 .cases h2
  exact ⟨p,vs,h1,SqL.of b,c⟩
theorem tO{vs:List V}{xs:List Dz}{i:Int}{d:Dz}(h:DatVs K F vs xs)(e:atI xs i=some d):∃ x,atI vs i=some x/\DatV K F x d:=by
 unfold atI at e ⊢
 rw[h.length]
 cases q:ixN xs.length i with
 | none=>rw[q] at e;cases e
 | some j=>
  rw[q] at e
  exact h.get' (i:=j) e
end
noncomputable def eV(i:Nat):Sg->R Dz:=fun ρ=>match ρ[i]? with
 | some (some (.d x))=>.ok x
 | _=>.bad
noncomputable def rV(i:Nat):Sg->R Dz:=fun ρ=>match ρ[i]? with
 | some (some (.d x))=>.ok x
 | some (some (.l xs))=>.ok (.list xs)
 | _=>.bad
noncomputable def vV(i:Nat):Sg->R A:=fun ρ=>match ρ[i]? with
 | some (some (.d x))=>.ok (.d x)
 | some (some (.x e))=>.ok (.x e)
 | some (some (.g k n f))=>.ok (.g k n f)
 | some (some (.f kvs))=>.ok (.f kvs)
 | _=>.bad
def eC(d:Dz):Sg->R Dz:=fun _=>.ok d
section
variable{X:Cx}{c:Ct}{E:XK}{e a b:E1}
theorem dU{i:Nat}(h:PE X e (gR i)):PD X c E e (eV i):=PE.imp h fun σ H Q ⟨ρ,F,ab,k⟩=>by
 unfold eV at k
 split at k
 .rename_i x a
  obtain ⟨v,h1,h2⟩:=ab.slot i _ a
  exact ⟨v,h1,k v F H (Ext.refl ab.fh) h2⟩
 .exact k.elim
theorem aG{i:Nat}(h:PE X e (gR i)):PR X c E e (rV i):=PE.imp h fun σ H Q ⟨ρ,F,ab,k⟩=>by
 unfold rV at k
 split at k
 .rename_i x a
  obtain ⟨v,h1,h2⟩:=ab.slot i _ a
  exact ⟨v,h1,k v F H (Ext.refl ab.fh) (.inl h2)⟩
 .rename_i x a
  obtain ⟨v,h1,p,vs,h2,b,f,g,d⟩:=ab.slot i _ a
  exact ⟨v,h1,k v F H (Ext.refl ab.fh) (.inr ⟨p,vs,x,h2,rfl,b,d⟩)⟩
 .exact k.elim
theorem aJ{i:Nat}(h:PE X e (gR i)):PV X c E e (vV i):=PE.imp h fun σ H Q ⟨ρ,F,ab,k⟩=>by
 unfold vV at k
 split at k
 .rename_i x a
  obtain ⟨v,h1,h2⟩:=ab.slot i _ a
  exact ⟨v,h1,k v F H (Ext.refl ab.fh) h2⟩
 .rename_i x a
  obtain ⟨v,h1,h2⟩:=ab.slot i _ a
  exact ⟨v,h1,k v F H (Ext.refl ab.fh) h2⟩
 .rename_i g d f a
  obtain ⟨v,h1,h2⟩:=ab.slot i _ a
  exact ⟨v,h1,k v F H (Ext.refl ab.fh) h2⟩
 .rename_i b a
  obtain ⟨v,h1,h2⟩:=ab.slot i _ a
  exact ⟨v,h1,k v F H (Ext.refl ab.fh) h2⟩
 .exact k.elim
theorem jX{v:V}{d:Dz}(h:PE X e (tC v))(a:∀ F,DatV c.K F v d):PD X c E e (eC d):=PE.imp h fun σ H Q ⟨ρ,F,ab,k⟩=>k v F H (Ext.refl ab.fh) (a F)
theorem aL{i j pos}:PD X c E (.Constant (.int i) j pos) (eC (.int i)):=jX aE8 fun _=>.int i
theorem xI{i j pos}:PD X c E (.Constant (.bool i) j pos) (eC (.bool i)):=jX aHH fun _=>.bl i
theorem eI{i j pos}:PD X c E (.Constant (.str i) j pos) (eC (.str i)):=jX aFA fun _=>.str i
theorem jY{j pos}:PD X c E (.Constant .none j pos) (eC .none):=jX aE9 fun _=>.non
theorem aB{f:Sg->R Dz}(h:PD X c E e f):PR X c E e f:=PE.imp h fun σ H Q ⟨ρ,F,ab,k⟩=>⟨ρ,F,ab,k.imp fun d _ q v a H' s r=>q v a H' s (.inl r)⟩
def vD(f:Sg->R Dz):Sg->R A:=fun ρ=>(f ρ).bind fun x=>.ok (.d x)
theorem aQ{f:Sg->R Dz}(h:PD X c E e f):PV X c E e (vD f):=PE.imp h fun σ H Q ⟨ρ,F,ab,k⟩=>⟨ρ,F,ab,(Rk.bind k).imp fun d _ q v a H' s r=>Rk.ok q v a H' s r⟩
def getD:A->R Dz
 | .d x=>.ok x
 | _=>.bad
def eA(f:Sg->R A):Sg->R Dz:=fun ρ=>(f ρ).bind getD
theorem fV{f:Sg->R A}(h:PV X c E e f):PD X c E e (eA f):=PE.imp h fun σ H Q ⟨ρ,F,ab,k⟩=>⟨ρ,F,ab,(Rk.bind k).imp fun d _ q v a H' s r=>by
 cases d with
 | d x=>exact Rk.ok q v a H' s r
 | _=>exact False.elim q⟩
def eL(f:Sg->R (List Dz)):Sg->R Dz:=fun ρ=>(f ρ).bind fun xs=>.ok (.list xs)
theorem o4{f:Sg->R (List Dz)}(h:PN X c E e f):PD X c E e (eL f):=PE.imp h fun σ H Q ⟨ρ,F,ab,k⟩=>⟨ρ,F,ab,(Rk.bind k).imp fun xs _ q v g H' s r=>by
 obtain ⟨p,vs,h1,h2,d,b,i⟩:=r
 subst h1
 refine Rk.ok q (.ref p) (upd g p (.lst vs)) H' ⟨s.hh,fun a o z=>?_,fun a o z=>?_,fun a z n=>?_⟩ (.lst (SqL.of aS) (i.same (aH.upd b)))
 .rw[aE (bF (s.ff a o z) b)];exact s.ff a o z
 .by_cases w:a=p
  · subst w; rw [aS] at z; rw [d]; exact z
  · rw [aE w] at z; exact s.fh a o z
 .by_cases w:a=p
  · subst w; exact .inl h2
  · rw [aE w] at n; exact s.nw a z n⟩
def e1{α β:Type}(g:α->R β)(f:Sg->R α):Sg->R β:=fun ρ=>(f ρ).bind g
def e2{α β γ:Type}(g:α->β->R γ)(f:Sg->R α)(f':Sg->R β):Sg->R γ:=fun ρ=>(f ρ).bind fun x=>(f' ρ).bind fun y=>g x y
noncomputable def cX:Dz->Dz->R Dz
 | .int i,.int j=>.ok (.int (i+j))
 | .str x,.str y=>if x.length+y.length<=sizeLine then .ok (.str (x++y)) else .bad
 | .tuple xs,.tuple ys=>if xs.isEmpty=false/\xs.length+ys.length<=sizeLine then .ok (.tuple (xs++ys)) else .bad
 | _,_=>.bad
def dSub:Dz->Dz->R Dz
 | .int i,.int j=>.ok (.int (i - j))
 | _,_=>.bad
noncomputable def dMul:Dz->Dz->R Dz
 | .int i,.int j=>if (-18446744073709551616 < i/\i < 18446744073709551616)\/(-18446744073709551616 < j/\j < 18446744073709551616) then .ok (.int (i * j)) else .bad
 | _,_=>.bad
def dDiv:Dz->Dz->R Dz
 | .int i,.int j=>if 0 < j/\j < 18446744073709551616 then .ok (.int (i / j)) else .bad
 | _,_=>.bad
def dMod:Dz->Dz->R Dz
 | .int i,.int j=>if 0 < j then .ok (.int (i % j)) else .bad
 | _,_=>.bad
def dNeg:Dz->R Dz
 | .int i=>.ok (.int (-i))
 | _=>.bad
def dLt:Dz->Dz->R Dz
 | .int i,.int j=>.ok (.bool (decide (i < j)))
 | _,_=>.bad
def dLe:Dz->Dz->R Dz
 | .int i,.int j=>.ok (.bool (decide (i<=j)))
 | _,_=>.bad
def dGt:Dz->Dz->R Dz
 | .int i,.int j=>.ok (.bool (decide (j < i)))
 | _,_=>.bad
def dGe:Dz->Dz->R Dz
 | .int i,.int j=>.ok (.bool (decide (j<=i)))
 | _,_=>.bad
def dEq(x y:Dz):R Dz:=if SeqAt.shaped x=true/\SeqAt.shaped y=true then .ok (.bool (PyData.eqv x y)) else .bad
def dNe(x y:Dz):R Dz:=if SeqAt.shaped x=true/\SeqAt.shaped y=true then .ok (.bool (!PyData.eqv x y)) else .bad
def iE:Dz->Bool
 | .none=>true
 | _=>false
def dIs(x y:Dz):R Dz:=if iE y=true then .ok (.bool (iE x)) else .bad
def dIsnt(x y:Dz):R Dz:=if iE y=true then .ok (.bool (!iE x)) else .bad
noncomputable def inD:Dz->Dz->O9 Bool
 | .str i,.str j=>some (!(Builtin.Str.occurrences j i 0 j.length 1).isEmpty)
 | x,.list xs=>if SeqAt.shaped x=true/\SeqAt.shaped (.list xs)=true then some (xs.any fun y=>PyData.eqv y x) else none
 | x,.tuple xs=>if SeqAt.shaped x=true/\SeqAt.shaped (.tuple xs)=true then some (xs.any fun y=>PyData.eqv y x) else none
 | _,_=>none
def dIn(x y:Dz):R Dz:=match inD x y with
 | some b=>.ok (.bool b)
 | none=>.bad
def dNin(x y:Dz):R Dz:=match inD x y with
 | some b=>.ok (.bool (!b))
 | none=>.bad
noncomputable def dIx:Dz->Dz->R Dz
 | .list xs,.int i=>match atI xs i with
  | some v=>.ok v
  | none=>.bad
 | .tuple xs,.int i=>match atI xs i with
  | some v=>.ok v
  | none=>.bad
 | .str z,.int i=>if z.length<=sizeLine then match atI z.cps.toList i with
  | some u=>.ok (.str ⟨#[u]⟩)
  | none=>.bad else .bad
 | _,_=>.bad
end
section
variable{X:Cx}{c:Ct}{E:XK}{e a b:E1}{α β γ:Type}{Ra:VR α}{Rb:VR β}{Rc:VR γ}{pos:Pos}
def r2D(Ra:VR α)(Rb:VR β)(Rc:VR γ)(g:α->β->R γ):R2:=fun v u H Q=>∃ H0 H1 F a b d,aH F H/\Ra a v H0 F H/\Rb b u H1 F H/\g a b=.ok d/\∀ w F' H',Ext F H F' H'->Rc d w H F' H'->Q w H'
def r1D(Ra:VR α)(Rb:VR β)(g:α->R β):V->Hp->VK->Prop:=fun v H Q=>∃ H0 F a b,aH F H/\Ra a v H0 F H/\g a=.ok b/\∀ w F' H',Ext F H F' H'->Rb b w H F' H'->Q w H'
theorem rY{g:α->β->R γ}:Op2 c Ra Rb Rc g (r2D Ra Rb Rc g):=fun e H1 F H a b d v u Q j h f i q=>⟨e,H1,F,a,b,d,j,h,f,i,q⟩
theorem rZ{g:α->R β}:Op1 c Ra Rb g (r1D Ra Rb g):=fun d F H a b v Q h e f q=>⟨d,F,a,b,h,e,f,q⟩
theorem aV{d:Operator}{g:Dz->Dz->R Dz}{e fb:Sg->R Dz}(j:OpR X (binaryOp d) (r2D (a8 c) (a8 c) (cB c) g))(i:cR g)(f:PR X c E a e)(k:PR X c E b fb):PD X c E (.BinOp a d b pos) (e2 g e fb):=
 PE.imp (aHK j f k) fun σ H Q h=>tV2 rY i (o3 c) (jL c) h
theorem aCP{b:UnaryOp}{g:Dz->R Dz}{d:Sg->R Dz}(i:UnR X (unaryOp b) (r1D (a8 c) (cB c) g))(f:kR g)(e:PR X c E a d):PD X c E (.UnaryOp b a pos) (e1 g d):=
 PE.imp (aHL i e) fun σ H Q h=>tV1 rZ f (jL c) h
theorem o5{d:CmpOp}{g:Dz->Dz->R Dz}{e fb:Sg->R Dz}(j:OpR X (compareOp d) (r2D (a8 c) (a8 c) (cB c) g))(i:cR g)(f:PR X c E a e)(k:PR X c E b fb)(l:behindInMarks d b=false):PD X c E (.Compare a [d] [b] pos) (e2 g e fb):=
 PE.imp (aC2 j f k l) fun σ H Q h=>tV2 rY i (o3 c) (jL c) h
theorem dZ{g:Dz->Dz->R Dz}{d fb:Sg->R Dz}(i:IxR X (r2D (a8 c) (a8 c) (cB c) g))(f:cR g)(e:PR X c E a d)(j:PR X c E b fb)(k:vJ b:=by exact fun _ _=>rfl):PD X c E (.Subscript a b pos) (e2 g d fb):=
 PE.imp (L2.aHR i e j k) fun σ H Q h=>tV2 rY f (o3 c) (jL c) h
theorem dN(B:X.K=c.K):OpR X (binaryOp .Add) (r2D (a8 c) (a8 c) (cB c) cX):=by
 intro pins s σ H v u x y Q I n o h
 obtain ⟨J,H1,F,a,b,d,f,r,m,e,q⟩:=h
 unfold cX at e
 split at e
 .rename_i i j
  cases e
  obtain rfl:=aP.int_of r
  obtain rfl:=aP.int_of m
  exact aFN pins s σ H _ _ x y Q I n o ⟨i,j,rfl,rfl,q _ F H (Ext.refl f) (.int _)⟩
 .rename_i i j
  split at e
  .rename_i g
   cases e
   obtain rfl:=aP.str_of r
   obtain rfl:=aP.str_of m
   exact wL pins s σ H _ _ x y Q I n o ⟨i,j,rfl,rfl,g,q _ F H (Ext.refl f) (.str _)⟩
  .cases e
 .rename_i xs ys
  split at e
  .rename_i g
   cases e
   obtain ⟨C,vs,rfl,E,w,k⟩:=aP.tup_of f r
   obtain ⟨D,us,rfl,G,A,l⟩:=aP.tup_of f m
   rw[<-B] at w A
   refine aC9 pins s σ H _ _ x y Q I n o ⟨C,D,vs,us,rfl,rfl,w,A,?_,by rw[k.length,l.length];exact g.2,fun z=>?_,fun z p t=>?_⟩
   .intro z;subst z;obtain rfl:xs=[]:=by cases k;rfl
    exact absurd g.1 (by decide)
   .subst z
    obtain rfl:ys=[]:=by cases l;rfl
    exact q _ F H (Ext.refl f) (by rw[BV];exact .tup E k)
   .exact q _ _ _ (Ext.new f t) (.tup (SqT.of aS) ((k.append l).same (aH.upd (bS f t))))
  .cases e
 .cases e
theorem cJ:cR cX:=by
 intro a b e h
 unfold cX at h
 split at h<;>(try split at h)<;>cases h
theorem jE{f:V9->V9->Sem V9}{g:Dz->Dz->R Dz}{C:Int->Int->Prop}{k:Int->Int->Dz}{kv:Int->Int->V}(l:OpR X f (rI C kv))(t:∀ i j F,DatV c.K F (kv i j) (k i j))
  (n:∀ a b d,g a b=.ok d->∃ i j,a=.int i/\b=.int j/\C i j/\d=k i j):OpR X f (r2D (a8 c) (a8 c) (cB c) g):=by
 intro pins s σ H v u x y Q I z o h
 obtain ⟨A,H1,F,a,b,d,w,p,m,r,q⟩:=h
 obtain ⟨i,j,rfl,rfl,e,rfl⟩:=n a b d r
 obtain rfl:=aP.int_of p
 obtain rfl:=aP.int_of m
 exact l pins s σ H _ _ x y Q I z o ⟨i,j,rfl,rfl,e,q _ F H (Ext.refl w) (t i j F)⟩
theorem r0{f:V9->V9->Sem V9}{kv:Int->Int->V}(b:OpR X f (rI0 kv)):OpR X f (rI (fun _ _=>True) kv):=fun pins s σ H x y v u Q I c a ⟨i,j,h1,h2,_,q⟩=>b pins s σ H x y v u Q I c a ⟨i,j,h1,h2,q⟩
theorem pY:OpR X (binaryOp .Sub) (r2D (a8 c) (a8 c) (cB c) dSub):=jE (r0 aFO) (fun _ _ _=>.int _) fun a b d h=>by
 unfold dSub at h;split at h
 · cases h; exact ⟨_, _, rfl, rfl, trivial, rfl⟩
 · cases h
theorem hZ:OpR X (binaryOp .Mult) (r2D (a8 c) (a8 c) (cB c) dMul):=jE aFP (fun _ _ _=>.int _) fun a b d h=>by
 unfold dMul at h;split at h
 .split at h
  · rename_i e; cases h; exact ⟨_, _, rfl, rfl, e, rfl⟩
  · cases h
 .cases h
theorem h8:OpR X (binaryOp .FloorDiv) (r2D (a8 c) (a8 c) (cB c) dDiv):=jE aAV (fun _ _ _=>.int _) fun a b d h=>by
 unfold dDiv at h;split at h
 .split at h
  · rename_i e; cases h; exact ⟨_, _, rfl, rfl, e, rfl⟩
  · cases h
 .cases h
theorem dC:OpR X (binaryOp .Mod) (r2D (a8 c) (a8 c) (cB c) dMod):=jE aFQ (fun _ _ _=>.int _) fun a b d h=>by
 unfold dMod at h;split at h
 .split at h
  · rename_i e; cases h; exact ⟨_, _, rfl, rfl, e, rfl⟩
  · cases h
 .cases h
theorem y6:OpR X (compareOp .Lt) (r2D (a8 c) (a8 c) (cB c) dLt):=jE (r0 aHM) (fun _ _ _=>.bl _) fun a b d h=>by
 unfold dLt at h;split at h
 · cases h; exact ⟨_, _, rfl, rfl, trivial, rfl⟩
 · cases h
theorem y7:OpR X (compareOp .Gt) (r2D (a8 c) (a8 c) (cB c) dGt):=jE (r0 aHN) (fun _ _ _=>.bl _) fun a b d h=>by
 unfold dGt at h;split at h
 · cases h; exact ⟨_, _, rfl, rfl, trivial, rfl⟩
 · cases h
theorem y8:OpR X (compareOp .GtE) (r2D (a8 c) (a8 c) (cB c) dGe):=jE (r0 aHO) (fun _ _ _=>.bl _) fun a b d h=>by
 unfold dGe at h;split at h
 · cases h; exact ⟨_, _, rfl, rfl, trivial, rfl⟩
 · cases h
theorem mH:cR dSub:=by intro a b e h;unfold dSub at h;split at h<;>cases h
theorem fG:cR dMul:=by intro a b e h;unfold dMul at h;split at h<;>(try split at h)<;>cases h
theorem fH:cR dDiv:=by intro a b e h;unfold dDiv at h;split at h<;>(try split at h)<;>cases h
theorem cC:cR dMod:=by intro a b e h;unfold dMod at h;split at h<;>(try split at h)<;>cases h
theorem tP:cR dLt:=by intro a b e h;unfold dLt at h;split at h<;>cases h
theorem tQ:cR dGt:=by intro a b e h;unfold dGt at h;split at h<;>cases h
theorem tR:cR dGe:=by intro a b e h;unfold dGe at h;split at h<;>cases h
theorem cN:cR dEq:=by intro a b e h;unfold dEq at h;split at h<;>cases h
theorem tS:cR dNe:=by intro a b e h;unfold dNe at h;split at h<;>cases h
theorem xJ:cR dIsnt:=by intro a b e h;unfold dIsnt at h;split at h<;>cases h
theorem aA8:cR dIn:=by intro a b e h;unfold dIn at h;split at h<;>cases h
theorem rC:cR dNin:=by intro a b e h;unfold dNin at h;split at h<;>cases h
theorem rD:kR dNeg:=by intro a e h;unfold dNeg at h;split at h<;>cases h
theorem bV:cR dIx:=by
 intro a b e h
 unfold dIx at h
 split at h<;>(try split at h)<;>(try split at h)<;>cases h
theorem vT:UnR X (unaryOp .USub) (r1D (a8 c) (cB c) dNeg):=by
 intro pins s σ H v x Q I g h
 obtain ⟨j,F,a,d,f,e,b,q⟩:=h
 unfold dNeg at b
 split at b
 .rename_i i
  cases b
  obtain rfl:=aP.int_of e
  exact aFS pins s σ H _ x Q I g ⟨i,rfl,q _ F H (Ext.refl f) (.int _)⟩
 .cases b
theorem d9(i:X.K=c.K)(n:X.A.units+64 < cLine):OpR X (compareOp .Eq) (r2D (a8 c) (a8 c) (cB c) dEq):=by
 intro pins s σ H v u x y Q I m j h
 obtain ⟨o,H1,F,a,b,d,f,k,l,e,q⟩:=h
 unfold dEq at e
 split at e
 .rename_i g
  cases e
  exact aF1 n pins s σ H _ _ x y Q I m j ⟨a,b,by rw[i];exact aP.heap f k,by rw[i];exact aP.heap f l,g.1,g.2,q _ F H (Ext.refl f) (.bl _)⟩
 .cases e
theorem y9(i:X.K=c.K)(n:X.A.units+64 < cLine):OpR X (compareOp .NotEq) (r2D (a8 c) (a8 c) (cB c) dNe):=by
 intro pins s σ H v u x y Q I m j h
 obtain ⟨o,H1,F,a,b,d,f,k,l,e,q⟩:=h
 unfold dNe at e
 split at e
 .rename_i g
  cases e
  exact aF2 n pins s σ H _ _ x y Q I m j ⟨a,b,by rw[i];exact aP.heap f k,by rw[i];exact aP.heap f l,g.1,g.2,q _ F H (Ext.refl f) (.bl _)⟩
 .cases e
theorem rE{K:Frag}{F H:Hp}{v:V}{d:Dz}(h:aP K F H v d):decide (v=.non)=iE d:=by
 rcases h with h|⟨p,vs,xs,h1,h2,_⟩
 · cases h <;> rfl
 · subst h1 h2; rfl
theorem aA9:OpR X (compareOp .IsNot) (r2D (a8 c) (a8 c) (cB c) dIsnt):=by
 intro pins s σ H v u x y Q I l f h
 obtain ⟨m,H1,F,a,b,d,k,g,i,e,q⟩:=h
 unfold dIsnt at e
 split at e
 .rename_i j
  cases e
  have e2:=rE i
  rw[j] at e2
  refine aC1 pins s σ H _ _ x y Q I l f ⟨DZ e2,q _ F H (Ext.refl k) ?_⟩
  rw[rE g];exact .bl _
 .cases e
theorem o6{xs:List Dz}(h:SeqAt.shaped (.list xs)=true):PyData.canLayAll0 xs=true/\PyData.depthAll xs<=63:=by
 have h':(PyData.canLay0 (.list xs) && decide ((PyData.list xs).depth<=64))=true:=h
 rw[AW] at h'
 have a:PyData.depthAll xs+1<=64:=DZ h'.2
 exact ⟨h'.1,by omega⟩
theorem nQ{xs:List Dz}(h:SeqAt.shaped (.tuple xs)=true):PyData.canLayAll0 xs=true/\PyData.depthAll xs<=63:=by
 have h':(PyData.canLay0 (.tuple xs) && decide ((PyData.tuple xs).depth<=64))=true:=h
 rw[AW] at h'
 have a:PyData.depthAll xs+1<=64:=DZ h'.2
 exact ⟨h'.1,by omega⟩
theorem cM{d:Dz}(h:SeqAt.shaped d=true):d.canLay0=true:=by
 have h':(PyData.canLay0 d && decide (d.depth<=64))=true:=h
 rw[AW] at h'
 exact h'.1
theorem inD_cases{x y:Dz}{b:Bool}(h:inD x y=some b):(∃ i j,x=.str i/\y=.str j/\b = !(Builtin.Str.occurrences j i 0 j.length 1).isEmpty) \/
  (∃ xs,y=.list xs/\SeqAt.shaped x=true/\SeqAt.shaped (.list xs)=true/\b=xs.any fun z=>PyData.eqv z x)\/(∃ xs,y=.tuple xs/\SeqAt.shaped x=true/\SeqAt.shaped (.tuple xs)=true/\b=xs.any fun z=>PyData.eqv z x):=by
 unfold inD at h
 split at h
 .cases h;exact .inl ⟨_,_,rfl,rfl,rfl⟩
 .split at h
  · rename_i a; cases h; exact .inr (.inl ⟨_, rfl, a.1, a.2, rfl⟩)
  · cases h
 .split at h
  · rename_i a; cases h; exact .inr (.inr ⟨_, rfl, a.1, a.2, rfl⟩)
  · cases h
 .cases h
theorem lJ{a b:Nat}(h:a<=63):min a b<=63:=A4 (Nat.min_le_left _ _) h
theorem aGD(k:X.K=c.K)(D:X.A.units+64 < cLine):OpR X (compareOp .In) (r2D (a8 c) (a8 c) (cB c) dIn):=by
 intro pins s σ H v u x y Q I t o h
 obtain ⟨E,H1,F,a,b,d,e,p,n,l,q⟩:=h
 unfold dIn at l
 split at l
 .rename_i w z
  cases l
  have f:EP X pins σ Q (.bool w) s:=⟨.bl w,H,I,rfl,q _ F H (Ext.refl e) (.bl _)⟩
  rcases inD_cases z with ⟨i,j,rfl,rfl,rfl⟩|⟨xs,rfl,h1,h2,rfl⟩|⟨xs,rfl,h1,h2,rfl⟩
  .obtain rfl:=aP.str_of p
   obtain rfl:=aP.str_of n
   exact yB pins s σ H _ _ x y Q I t o ⟨i,j,rfl,rfl,q _ F H (Ext.refl e) (.bl _)⟩
  .obtain ⟨B,m⟩:=DatV.reads I (by rw[k];exact aP.heap e p) (cM h1) t
   obtain ⟨bs,r⟩:=DatV.reads I (by rw[k];exact aP.heap e n) (cM h2) o
   have g:=o6 h2
   have C:=lJ (b:=a.depth) g.2
   exact SeqAt.in_list_reads r m g.1 (cM h1) (by omega) f
  .obtain ⟨B,m⟩:=DatV.reads I (by rw[k];exact aP.heap e p) (cM h1) t
   obtain ⟨bs,r⟩:=DatV.reads I (by rw[k];exact aP.heap e n) (cM h2) o
   have g:=nQ h2
   have C:=lJ (b:=a.depth) g.2
   exact SeqAt.in_tuple_reads r m g.1 (cM h1) (by omega) f
 .cases l
theorem vU(k:X.K=c.K)(C:X.A.units+64 < cLine):OpR X (compareOp .NotIn) (r2D (a8 c) (a8 c) (cB c) dNin):=by
 intro pins s σ H v u x y Q I t o h
 obtain ⟨D,H1,F,a,b,d,e,p,n,l,q⟩:=h
 unfold dNin at l
 split at l
 .rename_i bb w
  cases l
  have f:EP X pins σ Q (.bool (!bb)) s:=⟨.bl (!bb),H,I,rfl,q _ F H (Ext.refl e) (.bl _)⟩
  rcases inD_cases w with ⟨i,j,rfl,rfl,rfl⟩|⟨xs,rfl,h1,h2,rfl⟩|⟨xs,rfl,h1,h2,rfl⟩
  .obtain rfl:=aP.str_of p
   obtain rfl:=aP.str_of n
   exact sE pins s σ H _ _ x y Q I t o ⟨i,j,rfl,rfl,q _ F H (Ext.refl e) (.bl _)⟩
  .obtain ⟨z,m⟩:=DatV.reads I (by rw[k];exact aP.heap e p) (cM h1) t
   obtain ⟨bs,r⟩:=DatV.reads I (by rw[k];exact aP.heap e n) (cM h2) o
   have g:=o6 h2
   have B:=lJ (b:=a.depth) g.2
   exact SeqAt.notIn_list_reads r m g.1 (cM h1) (by omega) f
  .obtain ⟨z,m⟩:=DatV.reads I (by rw[k];exact aP.heap e p) (cM h1) t
   obtain ⟨bs,r⟩:=DatV.reads I (by rw[k];exact aP.heap e n) (cM h2) o
   have g:=nQ h2
   have B:=lJ (b:=a.depth) g.2
   exact SeqAt.notIn_tuple_reads r m g.1 (cM h1) (by omega) f
 .cases l
theorem d4(A:X.K=c.K):IxR X (r2D (a8 c) (a8 c) (cB c) dIx):=by
 intro value e pins s σ H v u x y Q I t l h r
 obtain ⟨C,H1,F,a,b,d,j,o,k,f,q⟩:=h
 unfold dIx at f
 split at f
 .rename_i xs i
  split at f
  .rename_i w g
   cases f
   obtain ⟨p,vs,rfl,h1,h2⟩:=aP.lst_of j o
   obtain rfl:=aP.int_of k
   obtain ⟨z,m,n⟩:=tO h2 g
   rw[<-A] at h1
   exact aDB value e pins s σ H _ _ x y Q I t l ⟨p,vs,i,z,rfl,rfl,h1,m,q _ F H (Ext.refl j) n⟩ r
  .cases f
 .rename_i xs i
  split at f
  .rename_i w g
   cases f
   obtain ⟨p,vs,rfl,_,h1,h2⟩:=aP.tup_of j o
   obtain rfl:=aP.int_of k
   obtain ⟨z,m,n⟩:=tO h2 g
   rw[<-A] at h1
   exact aFY value e pins s σ H _ _ x y Q I t l ⟨p,vs,i,z,rfl,rfl,h1,m,q _ F H (Ext.refl j) n⟩ r
  .cases f
 .rename_i z i
  split at f
  .rename_i B
   split at f
   .rename_i w g
    cases f
    obtain rfl:=aP.str_of o
    obtain rfl:=aP.int_of k
    exact aFZ value e pins s σ H _ _ x y Q I t l ⟨z,i,w,rfl,rfl,B,g,q _ F H (Ext.refl j) (.str _)⟩ r
   .cases f
  .cases f
 .cases f
def tTf(c:Ct)(E:XK)(f:Sg->R Bool):TT:=fun σ H Q=>∃ ρ F,Ab c ρ σ F H/\Rk c E F H (f ρ) fun b=>∀ F' H',Ext F H F' H'->Q b H'
abbrev PTf(X:Cx)(c:Ct)(E:XK)(e:E1)(f:Sg->R Bool):Prop:=PT X e (tTf c E f)
def asB:Dz->R Bool
 | .bool b=>.ok b
 | _=>.bad
theorem pZ{f:Sg->R Dz}{σ:L2.St}{H:Hp}{Q:Bool->Hp->Prop}(h:tTf c E (e1 asB f) σ H Q):tV (cB c) c E f σ H fun x H'=>∃ k,x=.bl k/\Q k H':=by
 obtain ⟨ρ,F,ab,h⟩:=h
 refine ⟨ρ,F,ab,(Rk.bind h).imp fun d _ q v a H' s r=>?_⟩
 cases d with
 | bool b=>exact ⟨b,DatV.bl_of r,Rk.ok q a H' s⟩
 | _=>exact False.elim q
theorem bZ{d:CmpOp}{g:Dz->Dz->R Dz}{e fb:Sg->R Dz}(j:OpR X (compareOp d) (r2D (a8 c) (a8 c) (cB c) g))(i:cR g)(f:PR X c E a e)(k:PR X c E b fb)(l:behindInMarks d b=false):PTf X c E (.Compare a [d] [b] pos) (e1 asB (e2 g e fb)):=
 PT.imp (vG j f k l) fun σ H Q h=>tV2 rY i (o3 c) (jL c) (pZ h)
theorem gN{f:Sg->R Dz}(h:PD X c E e f)(a:∀ whole,isTrue e X.env whole=(do let v <-whole;standAt e.pos;holding [v] (truthy v)):=by intro _;rfl):PTf X c E e (e1 asB f):=
 PT.imp (L2.gN h a) fun σ H Q h=>pZ h
def xK(f g:Sg->R Bool):Sg->R Bool:=fun ρ=>(f ρ).bind fun b=>if b=true then g ρ else .ok false
def bOr(f g:Sg->R Bool):Sg->R Bool:=fun ρ=>(f ρ).bind fun b=>if b=true then .ok true else g ρ
def tT(f:Sg->R Bool):Sg->R Bool:=fun ρ=>(f ρ).bind fun b=>.ok (!b)
abbrev PWf(X:Cx)(c:Ct)(E:XK)(e:E1)(f:Sg->R Bool):Prop:=PW X e (tTf c E f)
theorem PW.imp{X:Cx}{e:E1}{t t':TT}(h:PW X e t)(i:∀ σ H Q,t' σ H Q->t σ H Q):PW X e t':=fun a pins s σ H Q I q=>h a pins s σ H Q I (i σ H Q q)
theorem aI4{f g:Sg->R Bool}{σ:L2.St}{H:Hp}{Q:Bool->Hp->Prop}(h:tTf c E (xK f g) σ H Q):aFB (tTf c E f) (tTf c E g) σ H Q:=by
 obtain ⟨ρ,F,ab,h⟩:=h
 refine ⟨ρ,F,ab,(Rk.bind h).imp fun b _ q a H' s=>?_⟩
 cases b with
 | true=>exact ⟨ρ,a,ab.ext s,(Rk.ext s q).imp fun d _ z i H2 e=>z i H2 (s.trans e)⟩
 | false=>exact Rk.ok q a H' s
theorem tor{f g:Sg->R Bool}{σ:L2.St}{H:Hp}{Q:Bool->Hp->Prop}(h:tTf c E (bOr f g) σ H Q):tOr (tTf c E f) (tTf c E g) σ H Q:=by
 obtain ⟨ρ,F,ab,h⟩:=h
 refine ⟨ρ,F,ab,(Rk.bind h).imp fun b _ q a H' s=>?_⟩
 cases b with
 | false=>exact ⟨ρ,a,ab.ext s,(Rk.ext s q).imp fun d _ z i H2 e=>z i H2 (s.trans e)⟩
 | true=>exact Rk.ok q a H' s
theorem pN{f:Sg->R Bool}(h:PTf X c E a f):PWf X c E (.BoolOp .And [a] pos) f:=L2.pN h
theorem kM{f:Sg->R Bool}(h:PTf X c E a f):PWf X c E (.BoolOp .Or [a] pos) f:=L2.kM h
theorem sC{f g:Sg->R Bool}{rest:List E1}(h:PTf X c E a f)(h2:PWf X c E (.BoolOp .And (b::rest) pos) g):PWf X c E (.BoolOp .And (a::b::rest) pos) (xK f g):=PW.imp (L2.sC h h2) fun _ _ _ q=>aI4 q
theorem k8{f g:Sg->R Bool}{rest:List E1}(h:PTf X c E a f)(h2:PWf X c E (.BoolOp .Or (b::rest) pos) g):PWf X c E (.BoolOp .Or (a::b::rest) pos) (bOr f g):=PW.imp (L2.k8 h h2) fun _ _ _ q=>tor q
theorem l7{f:Sg->R Bool}(h:PTf X c E a f):PTf X c E (.UnaryOp .Not a pos) (tT f):=PT.imp (L2.l7 h) fun σ H Q ⟨ρ,F,ab,k⟩=>⟨ρ,F,ab,(Rk.bind k).imp fun b _ q d H' s=>Rk.ok q d H' s⟩
noncomputable def aBA(f g:Sg->R Dz):Sg->R Dz:=fun ρ=>(f ρ).bind fun x=>(asB x).bind fun b=>if b=true then g ρ else .ok (.bool false)
def eOr(f g:Sg->R Dz):Sg->R Dz:=fun ρ=>(f ρ).bind fun x=>(asB x).bind fun b=>if b=true then .ok (.bool true) else g ρ
def aI5(f:Sg->R Dz):Sg->R Dz:=fun ρ=>(f ρ).bind fun x=>(asB x).bind fun b=>.ok (.bool (!b))
def eIf{α:Type}(t:Sg->R Bool)(f g:Sg->R α):Sg->R α:=fun ρ=>(t ρ).bind fun b=>if b=true then f ρ else g ρ
theorem aGE{op}{f:Sg->R Dz}(h:PD X c E a f):PD X c E (.BoolOp op [a] pos) f:=aFC h
theorem aGF{f g:Sg->R Dz}{rest:List E1}(h:PD X c E a f)(h2:PD X c E (.BoolOp .And (b::rest) pos) g):PD X c E (.BoolOp .And (a::b::rest) pos) (aBA f g):=PE.imp (aFD h h2) fun σ H Q e=>by
 obtain ⟨ρ,F,ab,k⟩:=e
 refine ⟨ρ,F,ab,(Rk.bind k).imp fun d _ q v i H' s r=>?_⟩
 cases d with
 | bool b=>
  refine ⟨b,DatV.bl_of r,?_⟩
  cases b with
  | true=>exact sJ ⟨ρ,i,ab.ext s,(Rk.ext s q).imp fun d _ z v l H2 j=>z v l H2 (s.trans j)⟩
  | false=>exact sI (Rk.ok q (.bl false) i H' s (.bl false))
 | _=>exact False.elim q
theorem aHY{t:Sg->R Bool}{f g:Sg->R Dz}{q:E1}(m:PTf X c E q t)(h:PD X c E a f)(h2:PD X c E b g):PD X c E (.IfExp q a b pos) (eIf t f g):=PE.imp (aAG m h h2) fun σ H Q j=>by
 obtain ⟨ρ,F,ab,k⟩:=j
 refine ⟨ρ,F,ab,(Rk.bind k).imp fun b _ q l H' s=>?_⟩
 cases b with
 | true=>exact sJ ⟨ρ,l,ab.ext s,(Rk.ext s q).imp fun d _ z v i H2 e=>z v i H2 (s.trans e)⟩
 | false=>exact sI ⟨ρ,l,ab.ext s,(Rk.ext s q).imp fun d _ z v i H2 e=>z v i H2 (s.trans e)⟩
noncomputable def eCh(g g':Dz->Dz->R Dz)(fa fb fc:Sg->R Dz):Sg->R Dz:=fun ρ=>(fa ρ).bind fun x=>(fb ρ).bind fun y=>(g x y).bind fun z=>(asB z).bind fun k=>if k=true then (fc ρ).bind fun w=>g' y w else .ok (.bool false)
end
def AFs(g:Gb)(K:Frag)(mg:Str->O9 V9)(F:Hp):List A->List V->Prop
 | [],[]=>True
 | a::as,v::vs=>AF g K mg F a v/\AFs g K mg F as vs
 | _,_=>False
theorem AFs.same{g:Gb}{K:Frag}{mg:Str->O9 V9}{F F':Hp}(s:aH F F'):∀ {as:List A} {vs:List V},AFs g K mg F as vs->AFs g K mg F' as vs
 | [],[],_=>trivial
 | a::as,v::vs,h=>⟨AF.same s h.1,AFs.same s h.2⟩
theorem AFs.len{g:Gb}{K:Frag}{mg:Str->O9 V9}{F:Hp}:∀ {as:List A} {vs:List V},AFs g K mg F as vs->vs.length=as.length
 | [],[],_=>rfl
 | a::as,v::vs,h=>by rw[AH,AH,AFs.len h.2]
theorem PA.imp{X:Cx}{es:List E1}{t t':TA}(h:PA X es t)(i:∀ σ H Q,t' σ H Q->t σ H Q):PA X es t':=fun pos pins s σ H Q I q=>h pos pins s σ H Q I (i σ H Q q)
def tAd(c:Ct)(E:XK)(f:Sg->R (List Dz)):TA:=fun σ H Q=>∃ ρ F,Ab c ρ σ F H/\Rk c E F H (f ρ) fun ds=>∀ vs F' H',Ext F H F' H'->DatVs c.K F' vs ds->Q vs H'
def tAv(c:Ct)(E:XK)(f:Sg->R (List A)):TA:=fun σ H Q=>∃ ρ F,Ab c ρ σ F H/\Rk c E F H (f ρ) fun ds=>∀ vs F' H',Ext F H F' H'->AFs c.g c.K c.mg F' ds vs->Q vs H'
abbrev PAd(X:Cx)(c:Ct)(E:XK)(es:List E1)(f:Sg->R (List Dz)):Prop:=PA X es (tAd c E f)
abbrev PAv(X:Cx)(c:Ct)(E:XK)(es:List E1)(f:Sg->R (List A)):Prop:=PA X es (tAv c E f)
noncomputable def a6{α:Type}:Sg->R (List α):=fun _=>.ok []
def aD{α:Type}(f:Sg->R α)(g:Sg->R (List α)):Sg->R (List α):=fun ρ=>(f ρ).bind fun x=>(g ρ).bind fun xs=>.ok (x::xs)
section
variable{X:Cx}{c:Ct}{E:XK}{e a b:E1}{es:List E1}{pos:Pos}
theorem fB:PAd X c E [] a6:=PA.imp aY fun σ H Q ⟨ρ,F,ab,k⟩=>Rk.ok k [] F H (Ext.refl ab.fh) .nil
theorem aT:PAv X c E [] a6:=PA.imp aY fun σ H Q ⟨ρ,F,ab,k⟩=>Rk.ok k [] F H (Ext.refl ab.fh) trivial
theorem bW{f:Sg->R Dz}{g:Sg->R (List Dz)}(h:PD X c E e f)(h2:PAd X c E es g)(j:starEach (e::es) X.env=(false,eval e X.env)::starEach es X.env:=by rfl):PAd X c E (e::es) (aD f g):=PA.imp (aN h h2 j) fun σ H Q a=>by
 obtain ⟨ρ,F,ab,k⟩:=a
 refine ⟨ρ,F,ab,(Rk.bind k).imp fun x _ q v l H1 s1 d=>⟨ρ,l,ab.ext s1,((Rk.bind q).ext s1).imp fun xs _ q vs i H2 b m=>?_⟩⟩
 exact Rk.ok q (v::vs) i H2 (s1.trans b) (.cons (DatV.same b.ff d) m)
theorem aA{f:Sg->R A}{g:Sg->R (List A)}(h:PV X c E e f)(h2:PAv X c E es g)(j:starEach (e::es) X.env=(false,eval e X.env)::starEach es X.env:=by rfl):PAv X c E (e::es) (aD f g):=PA.imp (aN h h2 j) fun σ H Q a=>by
 obtain ⟨ρ,F,ab,k⟩:=a
 refine ⟨ρ,F,ab,(Rk.bind k).imp fun x _ q v l H1 s1 d=>⟨ρ,l,ab.ext s1,((Rk.bind q).ext s1).imp fun xs _ q vs i H2 b m=>?_⟩⟩
 exact Rk.ok q (v::vs) i H2 (s1.trans b) ⟨AF.same b.ff d,m⟩
def oA(f:Sg->R (List Dz)):Sg->R Dz:=fun ρ=>(f ρ).bind fun xs=>if xs.length<=16777216 then .ok (.tuple xs) else .bad
def p6(f:Sg->R (List Dz)):Sg->R (List Dz):=fun ρ=>(f ρ).bind fun xs=>if xs.length<=16777216 then .ok xs else .bad
theorem dD:sizeLine=16777216:=D0
theorem mI{x1}{f:Sg->R (List Dz)}(h:PAd X c E es f):PD X c E (.Tuple es x1 pos) (oA f):=PE.imp (aFU h) fun σ H Q a=>by
 obtain ⟨ρ,F,ab,k⟩:=a
 refine ⟨ρ,F,ab,(Rk.bind k).imp fun xs _ q vs g H1 s1 d=>?_⟩
 by_cases b:xs.length<=16777216
 .rw[AK b] at q
  refine ⟨by rw[d.length,dD];exact b,fun p e=>?_⟩
  exact Rk.ok q (.ref p) _ _ (s1.trans (Ext.new s1.fh e)) (.tup (SqT.of aS) (d.same (aH.upd (bS s1.fh e))))
 .rw[AM b] at q;exact q.elim
theorem o7{f:Sg->R (List Dz)}(h:PAd X c E es f):PN X c E (.List es pos) (p6 f):=PE.imp (aFV h) fun σ H Q b=>by
 obtain ⟨ρ,F,ab,k⟩:=b
 refine ⟨ρ,F,ab,(Rk.bind k).imp fun xs _ q vs g H1 s1 e=>?_⟩
 by_cases d:xs.length<=16777216
 .rw[AK d] at q
  refine ⟨by rw[e.length,dD];exact d,fun p a=>?_⟩
  exact Rk.ok q (.ref p) _ _ (s1.trans (Ext.own s1.fh a)) ⟨p,vs,rfl,bS s1.hh a,aS,bS s1.fh a,e⟩
 .rw[AM d] at q;exact q.elim
noncomputable def dLen:Dz->R Dz
 | .str z=>if z.length<=16777216 then .ok (.int z.length) else .bad
 | .list xs=>.ok (.int xs.length)
 | .tuple xs=>.ok (.int xs.length)
 | _=>.bad
theorem plain_len:kR dLen:=by intro a e h;unfold dLen at h;split at h<;>(try split at h)<;>cases h
theorem fO{l:Sg->R Dz}(j:X.K=c.K)(h0:PE X e (tCB (fun xs H Q=>∃ x n,xs=[x]/\aFT X.K x H n/\Q (.int n) H) (eF (tV (a8 c) c E l) iC))):PD X c E e (e1 dLen l):=
 PE.imp h0 fun σ H Q h=>by
  obtain ⟨ρ,F,ab,k⟩:=tV1 (Ra:=a8 c) rZ plain_len (jL c) h
  refine ⟨ρ,F,ab,k.imp fun d _ q v m H' s r=>?_⟩
  obtain ⟨t,i,a,u,f,g,b,q⟩:=q v m H' s r
  unfold dLen at b
  split at b
  .rename_i z
   split at b
   .rename_i o
    cases b
    obtain rfl:=aP.str_of g
    exact ⟨_,_,rfl,⟨by rw[dD];exact o,rfl⟩,q _ i H' (Ext.refl f) (.int _)⟩
   .cases b
  .cases b
   obtain ⟨p,vs,rfl,h1,h2⟩:=aP.lst_of f g
   rw[<-j] at h1
   exact ⟨_,vs.length,rfl,.inl ⟨vs,h1,rfl⟩,q _ i H' (Ext.refl f) (by rw[h2.length];exact .int _)⟩
  .cases b
   obtain ⟨p,vs,rfl,_,h1,h2⟩:=aP.tup_of f g
   rw[<-j] at h1
   exact ⟨_,vs.length,rfl,.inr ⟨vs,h1,rfl⟩,q _ i H' (Ext.refl f) (by rw[h2.length];exact .int _)⟩
  .cases b
noncomputable def dTup:Dz->R Dz
 | .list xs=>.ok (.tuple xs)
 | .tuple xs=>.ok (.tuple xs)
 | _=>.bad
theorem zA:kR dTup:=by intro a e h;unfold dTup at h;split at h<;>cases h
theorem lK{m:Sg->R Dz}(j:X.K=c.K)(h0:PE X e (tCB (fun xs H Q=>∃ p ys,xs=[.ref p]/\((SqL X.K H p ys/\∀ l,H l=none->Q (.ref l) (upd H l (.tup ys)))\/(SqT X.K H p ys/\Q (.ref p) H))) (eF (tV (a8 c) c E m) iC))):PD X c E e (e1 dTup m):=
 PE.imp h0 fun σ H Q h=>by
  obtain ⟨ρ,F,ab,k⟩:=tV1 (Ra:=a8 c) rZ zA (jL c) h
  refine ⟨ρ,F,ab,k.imp fun d _ q v n H' s r=>?_⟩
  obtain ⟨u,o,a,w,f,i,b,q⟩:=q v n H' s r
  unfold dTup at b
  split at b
  .cases b
   obtain ⟨p,vs,rfl,h1,h2⟩:=aP.lst_of f i
   rw[<-j] at h1
   exact ⟨p,vs,rfl,.inl ⟨h1,fun l g=>q _ _ _ (Ext.new f g) (.tup (SqT.of aS) (h2.same (aH.upd (bS f g))))⟩⟩
  .cases b
   obtain ⟨p,vs,rfl,t,h1,h2⟩:=aP.tup_of f i
   rw[<-j] at h1
   exact ⟨p,vs,rfl,.inr ⟨h1,q _ o H' (Ext.refl f) (.tup t h2)⟩⟩
  .cases b
noncomputable def aGG:Dz->R (List Dz)
 | .list xs=>.ok xs
 | .tuple xs=>.ok xs
 | _=>.bad
noncomputable def dInt:Dz->R Dz
 | .int i=>.ok (.int i)
 | .bool b=>.ok (.int (if b=true then 1 else 0))
 | _=>.bad
theorem zB:kR dInt:=by intro a e h;unfold dInt at h;split at h<;>cases h
theorem vW{m:Sg->R Dz}(h0:PE X e (tCB (fun xs H Q=>(∃ i,xs=[.int i]/\Q (.int i) H)\/∃ k,xs=[.bl k]/\Q (.int (if k then 1 else 0)) H) (eF (tV (a8 c) c E m) iC))):PD X c E e (e1 dInt m):=
 PE.imp h0 fun σ H Q h=>by
  obtain ⟨ρ,F,ab,k⟩:=tV1 (Ra:=a8 c) rZ zB (jL c) h
  refine ⟨ρ,F,ab,k.imp fun d _ q v n H' s r=>?_⟩
  obtain ⟨o,j,a,p,l,g,f,q⟩:=q v n H' s r
  unfold dInt at f
  split at f
  .cases f
   obtain rfl:=aP.int_of g
   exact .inl ⟨_,rfl,q _ j H' (Ext.refl l) (.int _)⟩
  .rename_i b
   cases f
   obtain rfl:=aP.bl_of g
   exact .inr ⟨b,rfl,q _ j H' (Ext.refl l) (by cases b<;>exact .int _)⟩
  .cases f
noncomputable def aHZ:List Dz->O9 (List Bool)
 | []=>some []
 | .bool b::t=>(aHZ t).map (b :: ·)
 | _=>none
end
inductive Fw where
 | nx (ρ:Sg)|bk (ρ:Sg)|ct (ρ:Sg)|rt (a:A)
def AR(g:Gb)(K:Frag)(mg:Str->O9 V9)(H F' H':Hp):A->V->Prop
 | .l xs,v=>∃ p us,v=.ref p/\H p=none/\H' p=some (.lst us)/\F' p=none/\DatVs K F' us xs
 | a,v=>AF g K mg F' a v
theorem AR.of{g:Gb}{K:Frag}{mg:Str->O9 V9}{H b H':Hp}{a:A}{v:V}(h:AF g K mg b a v):AR g K mg H b H' a v:=by
 cases a with
 | l xs=>exact False.elim h
 | _=>exact h
def gU(c:Ct)(F:Hp)(D:gY):Fw->Prop
 | .nx ρ=>∀ σ' F' H',aH F F'->Ab c ρ σ' F' H'->D.nx σ' H'
 | .bk ρ=>∀ σ' F' H',aH F F'->Ab c ρ σ' F' H'->D.bk σ' H'
 | .ct ρ=>∀ σ' F' H',aH F F'->Ab c ρ σ' F' H'->D.ct σ' H'
 | .rt a=>∀ v F' H',Ext c.F0 c.H0 F' H'->AR c.g c.K c.mg c.H0 F' H' a v->D.rt v H'
theorem gU.same{c:Ct}{F F1:Hp}{D:gY}(s:aH F F1):∀ {w:Fw},gU c F D w->gU c F1 D w
 | .nx ρ,h=>fun b d H' s' ab=>h b d H' (fun a o z=>s' a o (s a o z)) ab
 | .bk ρ,h=>fun b d H' s' ab=>h b d H' (fun a o z=>s' a o (s a o z)) ab
 | .ct ρ,h=>fun b d H' s' ab=>h b d H' (fun a o z=>s' a o (s a o z)) ab
 | .rt a,h=>h
def tSf(c:Ct)(E:XK)(f:Sg->R Fw):TS:=fun D σ H=>∃ ρ F,Ab c ρ σ F H/\Rk c E F H (f ρ) (gU c F D)
abbrev PSf(X:Cx)(c:Ct)(E:XK)(st:Stmt)(f:Sg->R Fw):Prop:=PS X st (tSf c E f)
abbrev iF(X:Cx)(c:Ct)(E:XK)(st:List Stmt)(f:Sg->R Fw):Prop:=PSs X st (tSf c E f)
theorem get_set{α:Type}{l:List α}{i j:Nat}{x y:α}(h:(l.set i x)[j]? = some y):(i=j/\y=x/\i < l.length)\/(i≠j/\l[j]? = some y):=by
 by_cases e:i=j
 .subst e
  by_cases a:i < l.length
  · rw [BR a] at h; exact .inl ⟨rfl, (BP h).symm, a⟩
  · rw [List.getElem?_eq_none_iff.mpr (by rw [B9]; omega)] at h; cases h
 .rw[A9 e] at h;exact .inr ⟨e,h⟩
theorem Ab.setF{c:Ct}{ρ:Sg}{σ:L2.St}{F H:Hp}{i:Nat}{a:A}{v:V}(b:Ab c ρ σ F H)(u:AO c F H a v)(s:a.own=true->∀ (j:Nat) (a':A),j≠i->ρ[j]? = some (some a')->a'.own=true->σ[j]? ≠ some (some v)):Ab c (ρ.set i (some a)) (σ.set i (some v)) F H where
 len:=by rw[B9,B9];exact b.len
 fh:=b.fh
 slot:=fun j a' h=>by
  rcases get_set h with ⟨e,q,p⟩|⟨m,q⟩
  .subst e
   cases q
   exact ⟨v,BR (by rw[<-b.len];exact p),u⟩
  .rw[A9 m];exact b.slot j a' q
 apart:=fun j k a' t d h1 h2 n r=>by
  rcases get_set h1 with ⟨e,q,p⟩|⟨m,q⟩
  .subst e
   cases q
   rcases get_set h2 with ⟨o,g,l⟩|⟨f,g⟩
   .exact absurd o d
   .rw[BR (by rw[<-b.len];exact p),A9 f]
    exact (s n k t (BO d) g r).symm
  .rcases get_set h2 with ⟨o,g,l⟩|⟨f,g⟩
   .subst o
    cases g
    rw[BR (by rw[<-b.len];exact l),A9 m]
    exact s r j a' d q n
   .rw[A9 m,A9 f]
    exact b.apart j k a' t d q g n r
 f0:=b.f0
 h0:=b.h0
 n0:=b.n0
 t0:=b.t0
theorem AO.of{c:Ct}{F H:Hp}:∀ {a:A} {v:V},AF c.g c.K c.mg F a v->AO c F H a v
 | .d x,v,h=>h
 | .x e,v,h=>h
 | .g k n G,v,h=>h
 | .f kvs,v,h=>h
 | .o e,v,h=>h
theorem AF.notOwn{g:Gb}{K:Frag}{mg:Str->O9 V9}{F:Hp}:∀ {a:A} {v:V},AF g K mg F a v->a.own=false
 | .d x,v,h=>rfl
 | .x e,v,h=>rfl
 | .g k n G,v,h=>rfl
 | .f kvs,v,h=>rfl
 | .o e,v,h=>rfl
theorem Ab.setA{c:Ct}{ρ:Sg}{σ:L2.St}{F H:Hp}{i:Nat}{a:A}{v:V}(b:Ab c ρ σ F H)(d:AF c.g c.K c.mg F a v):Ab c (ρ.set i (some a)) (σ.set i (some v)) F H:=
 b.setF (AO.of d) fun z=>by rw[AF.notOwn d] at z;cases z
theorem Ab.setN{c:Ct}{ρ:Sg}{σ:L2.St}{F H d H':Hp}{i:Nat}{xs:List Dz}{v:V}(b:Ab c ρ σ F H)(e:Ext F H d H')(h:xG c xs v H d H'):Ab c (ρ.set i (some (.l xs))) (σ.set i (some v)) d H':=by
 obtain ⟨p,vs,rfl,h1,h2,g,m⟩:=h
 refine (b.ext e).setF ⟨p,vs,rfl,h2,g,bS b.h0 h1,m⟩ fun _ j o _ a k=>?_
 obtain ⟨w,r,q⟩:=b.slot j o a
 rw[r]
 intro z
 cases z
 obtain ⟨s,o',n,f,_⟩:=q.at k
 cases n
 rw[h1] at f
 cases f
theorem Ab.putO{c:Ct}{ρ:Sg}{σ:L2.St}{F H:Hp}{i:Nat}{a u:A}{p:Az}{o:HO}(b:Ab c ρ σ F H)(hi:ρ[i]? = some (some a))(C:a.own=true)(E:σ[i]? = some (some (.ref p)))(O:u.own=true)(W:AO c F (upd H p o) u (.ref p)) :
  Ab c (ρ.set i (some u)) σ F (upd H p o):=by
 obtain ⟨v,h1,q⟩:=b.slot i _ hi
 rw[E] at h1
 cases h1
 obtain ⟨X,o',y,h2,Q,R⟩:=q.at C
 cases y
 have t:∀ (j:Nat) (a:A) (w:V),j≠i->ρ[j]? = some (some a)->σ[j]? = some (some w)->AO c F H a w->AO c F (upd H p o) a w:=by
  intro j M w P T D r
  by_cases own:M.own=true
  .refine r.off fun z=>?_
   subst z
   exact b.apart j i _ _ P T hi own C (by rw[D,E])
  .cases M with
   | l zs=>exact absurd rfl own
   | m zs=>exact absurd rfl own
   | d x=>exact r
   | x e=>exact r
   | g k n f=>exact r
   | k S=>exact r
   | f S=>exact r
   | o S=>exact r
 exact {
  len:=by rw[B9];exact b.len
  fh:=fun a o z=>by rw[aE (fun w=>by subst w;rw[Q] at z;cases z)];exact b.fh a o z
  slot:=fun j a h=>by
   rcases get_set h with ⟨e,q,U⟩|⟨K,q⟩
   .subst e
    cases q
    exact ⟨_,E,W⟩
   .obtain ⟨w,D,r⟩:=b.slot j a q
    exact ⟨w,D,t j a w (BO K) q D r⟩
  apart:=fun j k u N s h1 h2 L J=>by
   rcases get_set h1 with ⟨e,q,U⟩|⟨K,q⟩
   .subst e
    cases q
    rcases get_set h2 with ⟨y,B,G⟩|⟨I,B⟩
    .exact absurd y s
    .exact b.apart _ k _ N s hi B C J
   .rcases get_set h2 with ⟨y,B,G⟩|⟨I,B⟩
    .subst y
     exact b.apart j _ u _ s q hi L C
    .exact b.apart j k u N s q B L J
  f0:=b.f0
  h0:=fun a o z=>by rw[aE (fun w=>by subst w;rw[R] at z;cases z)];exact b.h0 a o z
  n0:=b.n0
  t0:=b.t0}
theorem Ab.putL{c:Ct}{ρ:Sg}{σ:L2.St}{F H:Hp}{i:Nat}{xs ys:List Dz}{p:Az}{vs:List V}(b:Ab c ρ σ F H)(hi:ρ[i]? = some (some (.l xs)))(a:σ[i]? = some (some (.ref p)))(f:DatVs c.K F vs ys) :
  Ab c (ρ.set i (some (.l ys))) σ F (upd H p (.lst vs)):=by
 obtain ⟨v,h1,g,us,rfl,h2,d,e,h⟩:=b.slot i _ hi
 rw[a] at h1
 cases h1
 exact b.putO hi rfl a rfl ⟨p,vs,rfl,aS,d,e,f⟩
theorem Ab.putM{c:Ct}{ρ:Sg}{σ:L2.St}{F H:Hp}{i:Nat}{d a:List (Dz×Dz)}{p:Az}{es:List Ent}{f:Nat}(b:Ab c ρ σ F H)(hi:ρ[i]? = some (some (.m d)))(e:σ[i]? = some (some (.ref p)))(j:MapRel c.K F es a) :
  Ab c (ρ.set i (some (.m a))) σ F (upd H p (iO c.w p es f)):=by
 obtain ⟨v,h1,k,us,rfl,h2,g,h,l⟩:=b.slot i _ hi
 rw[e] at h1
 cases h1
 exact b.putO hi rfl e rfl ⟨p,es,rfl,⟨f,aS⟩,g,h,j⟩
theorem Ab.setM{c:Ct}{ρ:Sg}{σ:L2.St}{F H d H':Hp}{i:Nat}{a:List (Dz×Dz)}{p:Az}{es:List Ent}{h:Nat}(b:Ab c ρ σ F H)(e:Ext F H d H')(h1:H p=none)(h2:H' p=some (iO c.w p es h))(k:d p=none)(n:MapRel c.K d es a):Ab c (ρ.set i (some (.m a))) (σ.set i (some (.ref p))) d H':=by
 refine (b.ext e).setF ⟨p,es,rfl,⟨h,h2⟩,k,bS b.h0 h1,n⟩ fun _ j r _ f l=>?_
 obtain ⟨w,s,q⟩:=b.slot j r f
 rw[s]
 intro z
 cases z
 obtain ⟨t,o',o,g,_⟩:=q.at l
 cases o
 rw[h1] at g
 cases g
noncomputable def fz(i:Nat)(ρ:Sg):Sg:=match ρ[i]? with
 | some (some (.l xs))=>ρ.set i (some (.d (.list xs)))
 | _=>ρ
theorem Ab.publ{c:Ct}{ρ:Sg}{σ:L2.St}{F H:Hp}{i:Nat}{Q C:A}{p:Az}{o:HO}(b:Ab c ρ σ F H)(hi:ρ[i]? = some (some Q))(M:σ[i]? = some (some (.ref p)))(W:Q.own=true)(h2:H p=some o)(v:F p=none)(B:c.H0 p=none)(O:C.own=false)(R:AO c (upd F p o) H C (.ref p)):Ab c (ρ.set i (some C)) σ (upd F p o) H:=by
 have t:aH F (upd F p o):=aH.upd v
 exact {
  len:=by rw[B9];exact b.len
  fh:=fun a o' z=>by
   by_cases w:a=p
   .subst w;rw[aS] at z;rw[h2];exact z
   .rw[aE w] at z;exact b.fh a o' z
  slot:=fun j a h=>by
   rcases get_set h with ⟨e,q,Y⟩|⟨P,q⟩
   .subst e
    cases q
    exact ⟨_,M,R⟩
   .obtain ⟨w,N,s⟩:=b.slot j a q
    refine ⟨w,N,?_⟩
    have off:∀ r,a.own=true->w=.ref r->F r=none->upd F p o r=none:=fun r Z e f=>by
     rw[aE]
     .exact f
     .intro z
      subst z
      exact b.apart j i _ _ (BO P) q hi Z W (by rw[N,M,e])
    cases a with
    | l zs=>obtain ⟨r,u,e,I,s,y,J⟩:=s;exact ⟨r,u,e,I,off r rfl e s,y,J.same t⟩
    | m kvs=>obtain ⟨r,u,e,I,s,y,J⟩:=s;exact ⟨r,u,e,I,off r rfl e s,y,J.same t⟩
    | d x=>exact DatV.same t s
    | x e=>exact AF.same (g:=c.g) (K:=c.K) (mg:=c.mg) (a:=.x e) t s
    | g k n f=>exact AF.same (g:=c.g) (K:=c.K) (mg:=c.mg) (a:=.g k n f) t s
    | k S=>obtain ⟨S,f,cl,doc,pm,T,ct,h0,h1,h2,v,B⟩:=s;exact ⟨S,f,cl,doc,pm,T,ct,h0,h1,t _ _ h2,t _ _ v,B⟩
    | f kvs=>exact AF.same (g:=c.g) (K:=c.K) (mg:=c.mg) (a:=.f kvs) t s
    | o e=>exact AF.same (g:=c.g) (K:=c.K) (mg:=c.mg) (a:=.o e) t s
  apart:=fun j k V b' L h1 h2 G E=>by
   rcases get_set h1 with ⟨e,q,Y⟩|⟨P,q⟩
   .cases q;rw[O] at G;cases G
   .rcases get_set h2 with ⟨e',D,U⟩|⟨X,D⟩
    .cases D;rw[O] at E;cases E
    .exact b.apart j k V b' L q D G E
  f0:=fun a o z=>t a o (b.f0 a o z)
  h0:=b.h0
  n0:=fun a z n=>by
   by_cases w:a=p
   .subst w;exact .inl B
   .rw[aE w] at n;exact b.n0 a z n
  t0:=b.t0}
theorem Ab.frz{c:Ct}{ρ:Sg}{σ:L2.St}{F H:Hp}(b:Ab c ρ σ F H)(i:Nat):∃ F',aH F F'/\Ab c (fz i ρ) σ F' H:=by
 unfold fz
 split
 .rename_i xs hi
  obtain ⟨v,d,p,vs,rfl,h2,a,e,f⟩:=b.slot i _ hi
  exact ⟨_,aH.upd a,b.publ hi d rfl h2 a e rfl (.lst (SqL.of aS) (f.same (aH.upd a)))⟩
 .exact ⟨F,bR F,b⟩
noncomputable def aH0:Dz->Dz->R Dz
 | .int i,.int j=>.ok (.int (i+j))
 | _,_=>.bad
section
variable{X:Cx}{c:Ct}{E:XK}{e a b:E1}{st:Stmt}{rest:List Stmt}{pos:Pos}
def sFz(i:Nat)(f:Sg->R Fw):Sg->R Fw:=fun ρ=>f (fz i ρ)
theorem aH1(i:Nat){f:Sg->R Fw}(h:PSf X c E st f):PSf X c E st (sFz i f):=PS.imp h fun D σ H d=>by
 obtain ⟨ρ,F,ab,k⟩:=d
 obtain ⟨g,s,b⟩:=ab.frz i
 refine ⟨fz i ρ,g,b,?_⟩
 have a:Rk c E F H (f (fz i ρ)) (gU c F D):=k
 cases q:f (fz i ρ) with
 | bad=>rw[q] at a;exact a
 | ok w=>rw[q] at a;exact gU.same s a
 | ex e=>rw[q] at a;exact a
noncomputable def sNx:Sg->R Fw:=fun ρ=>.ok (.nx ρ)
def aR(f g:Sg->R Fw):Sg->R Fw:=fun ρ=>(f ρ).bind fun w=>match w with
 | .nx ρ'=>g ρ'
 | w=>.ok w
theorem bT:iF X c E [] sNx:=PSs.imp L2.bT fun D σ H ⟨ρ,F,ab,k⟩=>Rk.ok k σ F H (bR F) ab
theorem aM{f:Sg->R Fw}(h:PSf X c E st f):iF X c E [st] f:=L2.aM h
theorem aF{f g:Sg->R Fw}(h:PSf X c E st f)(h2:iF X c E rest g):iF X c E (st::rest) (aR f g):=PSs.imp (L2.aF h h2) fun D σ H i=>by
 obtain ⟨ρ,F,ab,k⟩:=i
 refine ⟨ρ,F,ab,(Rk.bind k).imp fun w _ q=>?_⟩
 cases w with
 | nx ρ'=>
  intro l m H' s d
  refine ⟨ρ',m,d,?_⟩
  have b:Rk c E F H (g ρ') (gU c F D):=q
  cases j:g ρ' with
  | bad=>rw[j] at b;exact b
  | ok w=>rw[j] at b;exact gU.same s b
  | ex e=>rw[j] at b;exact b
 | bk ρ'=>exact q
 | ct ρ'=>exact q
 | rt a=>exact q
def bX(f:Sg->R A):Sg->R Fw:=fun ρ=>(f ρ).bind fun a=>.ok (.rt a)
theorem a7{f:Sg->R A}(h:PV X c E e f):PSf X c E (.Return (some e) pos) (bX f):=PS.imp (L2.a7 h) fun D σ H ⟨ρ,F,ab,k⟩=>
 ⟨ρ,F,ab,(Rk.bind k).imp fun a _ q v b H' s r=>Rk.ok q v b H' (ab.all.trans s) (AR.of r)⟩
noncomputable def aH2:Sg->R Fw:=fun _=>.ok (.rt (.d .none))
def sIf(t:Sg->R Bool)(f g:Sg->R Fw):Sg->R Fw:=fun ρ=>(t ρ).bind fun b=>if b=true then f ρ else g ρ
theorem Rk.fw{F a H H1:Hp}{D:gY}{r:R Fw}(s:aH F a)(k:Rk c E F H r (gU c F D)):Rk c E a H1 r (gU c a D):=by
 cases r with
 | bad=>exact k
 | ok w=>exact gU.same s k
 | ex e=>exact k
theorem cT{q:E1}{d h:List Stmt}{t:Sg->R Bool}{f g:Sg->R Fw}(i:PTf X c E q t)(j:iF X c E d f)(l:iF X c E h g):PSf X c E (.If q d h pos) (sIf t f g):=PS.imp (L2.cT i j l) fun D σ H a=>by
 obtain ⟨ρ,F,ab,k⟩:=a
 refine ⟨ρ,F,ab,(Rk.bind k).imp fun b _ q e H' s=>?_⟩
 cases b with
 | true=>exact sJ ⟨ρ,e,ab.ext s,Rk.fw s.ff q⟩
 | false=>exact sI ⟨ρ,e,ab.ext s,Rk.fw s.ff q⟩
def bO(i:Nat)(f:Sg->R A):Sg->R Fw:=fun ρ=>(f ρ).bind fun a=>.ok (.nx (ρ.set i (some a)))
theorem aK{i:Nat}{f:Sg->R A}(h:PS X st (kI (tV (aA7 c) c E f) (iY i))):PSf X c E st (bO i f):=PS.imp h fun D σ H ⟨ρ,F,ab,k⟩=>
 ⟨ρ,F,ab,(Rk.bind k).imp fun a _ q v b H' s r=>Rk.ok q _ b H' s.ff ((ab.ext s).setA r)⟩
def lL(i:Nat)(f:Sg->R (List Dz)):Sg->R Fw:=fun ρ=>(f ρ).bind fun xs=>.ok (.nx (ρ.set i (some (.l xs))))
theorem nF{i:Nat}{f:Sg->R (List Dz)}(h:PS X st (kI (tV (xG c) c E f) (iY i))):PSf X c E st (lL i f):=PS.imp h fun D σ H ⟨ρ,F,ab,k⟩=>
 ⟨ρ,F,ab,(Rk.bind k).imp fun a _ q v b H' s r=>Rk.ok q _ b H' s.ff (ab.setN s r)⟩
def kA(f:Sg->R A):Sg->R Fw:=fun ρ=>(f ρ).bind fun _=>.ok (.nx ρ)
theorem dL{f:Sg->R A}(h:PS X st (wH (tV (aA7 c) c E f))):PSf X c E st (kA f):=PS.imp h fun D σ H ⟨ρ,F,ab,k⟩=>
 ⟨ρ,F,ab,(Rk.bind k).imp fun a _ q v b H' s r=>Rk.ok q _ b H' s.ff (ab.ext s)⟩
def oB(i:Nat)(f:Sg->R Dz):Sg->R Fw:=fun ρ=>match ρ[i]? with
 | some (some (.l xs))=>(f ρ).bind fun x=>if xs.length < 16777216 then .ok (.nx (ρ.set i (some (.l (xs++[x]))))) else .bad
 | _=>.bad
theorem tU{i:Nat}{f:Sg->R Dz}(m:X.K=c.K)(h:PS X st (wH (tBM X.K "list" vK (gR i) (eF (tV (cB c) c E f) iC)))):PSf X c E st (oB i f):=PS.imp h fun D σ H ⟨ρ,F,ab,k⟩=>by
 unfold oB at k
 split at k
 .rename_i xs hi
  obtain ⟨v,b,p,vs,rfl,h2,j,l,d⟩:=ab.slot i _ hi
  refine ⟨_,b,.inl ⟨rfl,vs,SqL.of h2⟩,ρ,F,ab,(Rk.bind k).imp fun x _ q u g H1 s1 e=>?_⟩
  by_cases a:xs.length < 16777216
  .rw[AK a] at q
   refine ⟨p,vs,u,rfl,rfl,s1.hh _ _ h2,by rw[d.length,dD];exact a,?_⟩
   exact Rk.ok q σ g _ s1.ff ((ab.ext s1).putL hi b ((d.same s1.ff).append (.cons e .nil)))
  .rw[AM a] at q;exact q.elim
 .exact k.elim
def aI6(i:Nat)(g:Dz->Dz->R Dz)(f:Sg->R Dz):Sg->R Fw:=fun ρ=>(eV i ρ).bind fun x=>(f ρ).bind fun y=>(g x y).bind fun z=>.ok (.nx (ρ.set i (some (.d z))))
end
def Tg(c:Ct)(g:TG)(fs:Dz->Sg->O9 Sg)(is:List Nat):Prop:=∀ (v:V) (x:Dz) (ρ ρ':Sg) (σ:L2.St) (F H:Hp) (Q:L2.St->Hp->Prop),Ab c ρ σ F H->DatV c.K F v x->fs x ρ=some ρ'->
 (∀ σ':L2.St,σ'.length=σ.length->(∀ j:Nat,j∉is->σ'[j]? = σ[j]?)->Ab c ρ' σ' F H->Q σ' H)->g v σ H Q
noncomputable def stN(i:Nat):Dz->Sg->O9 Sg:=fun x ρ=>some (ρ.set i (some (.d x)))
theorem dO{c:Ct}(i:Nat):Tg c (iY i) (stN i) [i]:=fun v x ρ b σ F H Q ab r e q=>by
 cases e
 exact q _ B9 (fun j f=>A9 (by intro z;subst z;exact f (by simp))) (ab.setA (a:=.d x) r)
noncomputable def stL:List (Dz->Sg->O9 Sg)->List Dz->Sg->O9 Sg
 | [],[],ρ=>some ρ
 | f::fs,x::xs,ρ=>(f x ρ).bind (stL fs xs)
 | _,_,_=>none
def Tgs(c:Ct)(g:TGs)(fs:List (Dz->Sg->O9 Sg))(is:List Nat):Prop:=∀ (vs:List V) (xs:List Dz) (ρ ρ':Sg) (σ:L2.St) (F H:Hp) (Q:L2.St->Hp->Prop),Ab c ρ σ F H->DatVs c.K F vs xs->stL fs xs ρ=some ρ'->
 (∀ σ':L2.St,σ'.length=σ.length->(∀ j:Nat,j∉is->σ'[j]? = σ[j]?)->Ab c ρ' σ' F H->Q σ' H)->g vs σ H Q
theorem vX{c:Ct}:Tgs c aAH [] []:=fun vs xs ρ a σ F H Q ab r e q=>by
 cases xs with
 | nil=>cases e;exact ⟨by cases r;rfl,q σ rfl (fun _ _=>rfl) ab⟩
 | cons x t=>cases e
theorem lM{c:Ct}{g:TG}{o:TGs}{f:Dz->Sg->O9 Sg}{fs:List (Dz->Sg->O9 Sg)}{is js:List Nat}(h:Tg c g f is)(h2:Tgs c o fs js):Tgs c (aCB g o) (f::fs) (is++js):=fun vs xs ρ a σ F H Q ab r e q=>by
 cases r with
 | nil=>cases e
 | cons r1 r2=>
  rename_i x d vs ds
  have b:(f d ρ).bind (stL fs ds)=some a:=e
  cases e1:f d ρ with
  | none=>rw[e1] at b;cases b
  | some ρ1=>
   rw[e1] at b
   refine ⟨_,_,rfl,h _ _ ρ ρ1 σ F H _ ab r1 e1 fun k p k1 m=>h2 _ _ ρ1 a k F H _ m r2 b fun i s k2 n=>q i (s.trans p) (fun j l=>?_) n⟩
   rw[B6,not_or] at l
   exact (k2 j l.2).trans (k1 j l.1)
noncomputable def stT(fs:List (Dz->Sg->O9 Sg)):Dz->Sg->O9 Sg:=fun x ρ=>match x with
 | .tuple xs=>stL fs xs ρ
 | _=>none
theorem vY:∀ {fs:List (Dz->Sg->O9 Sg)} {xs:List Dz} {ρ ρ':Sg},stL fs xs ρ=some ρ'->xs.length=fs.length
 | [],[],_,_,_=>rfl
 | [],_::_,_,_,h=>by cases h
 | _::_,[],_,_,h=>by cases h
 | f::fs,x::xs,ρ,ρ',h=>by
  have h':(f x ρ).bind (stL fs xs)=some ρ':=h
  cases e:f x ρ with
  | none=>rw[e] at h';cases h'
  | some ρ1=>
   rw[e] at h'
   have:=vY (fs:=fs) (xs:=xs) h'
   simp[this]
theorem zC{c:Ct}{d:TGs}{fs:List (Dz->Sg->O9 Sg)}{is:List Nat}{n:Nat}{K:Frag}(g:K=c.K)(h:Tgs c d fs is)(f:fs.length=n):Tg c (aFH K n d) (stT fs) is:=fun v x ρ b σ F H Q ab r e q=>by
 cases x with
 | tuple xs=>
  obtain ⟨a,vs,rfl,h1,h2⟩:=r.tup_of
  subst g
  exact ⟨a,vs,rfl,h1.same ab.fh,by rw[h2.length,vY e,f],h vs xs ρ b σ F H Q ab h2 e q⟩
 | _=>cases e
structure Yld(K:Frag)(J:It)(F B:Hp)(xs:List Dz):Prop where
 len:xs.length<=sizeLine
 go:∀ (i:Nat) F1 H1,aH F F1->aH F1 H1->aH B H1->i < xs.length->J.go i H1
 yld:∀ (i:Nat) F1 H1 v H2 x,aH F F1->aH F1 H1->aH B H1->J.yld i H1 v H2->xs[i]? = some x->∃ F2,Ext F1 H1 F2 H2/\DatV K F2 v x
 stop:∀ F1 H1,aH F F1->aH F1 H1->aH B H1->J.stop xs.length H1
def tI(c:Ct)(E:XK)(f:Sg->R (List Dz)):TI:=fun σ H Rr=>∃ ρ F,Ab c ρ σ F H/\Rk c E F H (f ρ) fun xs=>∀ J B F' H',Ext F H F' H'->aH B H'->Yld c.K J F' B xs->Rr J H'
def tI0(c:Ct)(E:XK)(f:Sg->R (List Dz)):TI:=fun σ H Rr=>∃ ρ F,Ab c ρ σ F H/\Rk c E F H (f ρ) fun xs=>∀ J F' H',Ext F H F' H'->Yld c.K J F' (fun _=>none) xs->Rr J H'
theorem PI.imp{X:Cx}{tg e:E1}{t t':TI}(h:PI X tg e t)(i:∀ σ H Q,t' σ H Q->t σ H Q):PI X tg e t':=fun pins s σ H Q I q=>h pins s σ H Q I (i σ H Q q)
abbrev PIf(X:Cx)(c:Ct)(E:XK)(tg e:E1)(f:Sg->R (List Dz)):Prop:=PI X tg e (tI c E f)
abbrev PI0(X:Cx)(c:Ct)(E:XK)(tg e:E1)(f:Sg->R (List Dz)):Prop:=PI X tg e (tI0 c E f)
def mJ{H:Hp}:aH (fun _=>none) H:=fun _ _ z=>nomatch z
noncomputable def cS:Dz->R (List Dz)
 | .list xs=>if xs.length<=16777216 then .ok xs else .bad
 | .tuple xs=>if xs.length<=16777216 then .ok xs else .bad
 | .str z=>if z.cps.toList.length<=16777216 then .ok (z.cps.toList.map fun u=>.str ⟨#[u]⟩) else .bad
 | _=>.bad
theorem tW{K:Frag}{F B H:Hp}{a:Az}{vs:List V}{xs:List Dz}(h:xs.length<=16777216)(f:∀ H1,aH F H1->aH B H1->SqL K H1 a vs)(c:DatVs K F vs xs):Yld K (Itl K a) F B xs where
 len:=by rw[dD];exact h
 go:=fun i g H1 h1 h2 b hi=>by
  have q:=f H1 (fun x o z=>h2 x o (h1 x o z)) b
  exact ⟨vs,vs[i]'(by rw[c.length];exact hi),q,by simp⟩
 yld:=fun i g H1 v H2 x h1 h2 b y e=>by
  obtain ⟨rfl,y⟩:=y
  have q:=y vs (f _ (fun x o z=>h2 x o (h1 x o z)) b)
  obtain ⟨d,e2,r⟩:=c.get q
  rw[e] at e2
  cases e2
  exact ⟨g,Ext.refl h2,r.same h1⟩
 stop:=fun g H1 h1 h2 b=>⟨vs,f H1 (fun x o z=>h2 x o (h1 x o z)) b,by rw[c.length];exact AI _⟩
theorem vZ{K:Frag}{F B:Hp}{a:Az}{vs:List V}{xs:List Dz}(h:xs.length<=16777216)(c:SqT K F a vs)(b:DatVs K F vs xs):Yld K (Itt K a) F B xs where
 len:=by rw[dD];exact h
 go:=fun i f H1 h1 h2 g hi=>by
  have q:=c.same (H':=H1) (fun x o z=>h2 x o (h1 x o z))
  exact ⟨vs,vs[i]'(by rw[b.length];exact hi),q,by simp⟩
 yld:=fun i f H1 v H2 x h1 h2 g y e=>by
  obtain ⟨rfl,y⟩:=y
  have q:=y vs (c.same (fun x o z=>h2 x o (h1 x o z)))
  obtain ⟨d,e2,r⟩:=b.get q
  rw[e] at e2
  cases e2
  exact ⟨f,Ext.refl h2,r.same h1⟩
 stop:=fun f H1 h1 h2 g=>⟨vs,c.same (fun x o z=>h2 x o (h1 x o z)),by rw[b.length];exact AI _⟩
theorem v0{K:Frag}{F B:Hp}{z:Str}(c:z.cps.toList.length<=16777216):Yld K (Its z) F B (z.cps.toList.map fun u=>.str ⟨#[u]⟩) where
 len:=by rw[dD,AQ];exact c
 go:=fun i a H1 h1 h2 b hi=>by
  rw[AQ,BN] at hi
  exact hi
 yld:=fun i a H1 v H2 x h1 h2 b y e=>by
  obtain ⟨rfl,u,d,rfl⟩:=y
  rw[BC,DG,d] at e
  cases e
  exact ⟨a,Ext.refl h2,.str _⟩
 stop:=fun a H1 h1 h2 b=>by
  show (z.cps.toList.map _).length=z.cps.size
  rw[AQ,BN]
section
variable{X:Cx}{c:Ct}{E:XK}{tg e a b:E1}{pos:Pos}
theorem aI7{f:Sg->R Dz}(j:X.K=c.K)(h:PD X c E e f):PI0 X c E tg e (e1 cS f):=PI.imp (PI.or (yQ h) (yV h)) fun σ H Q ⟨ρ,F,ab,k⟩=>by
 have b:=Rk.bind k
 cases a:f ρ with
 | bad=>rw[a] at b;exact b.elim
 | ex x=>rw[a] at b;exact .inl ⟨ρ,F,ab,by rw[a];exact b⟩
 | ok d=>
  rw[a] at b
  have k2:=Rk.ok b
  unfold cS at k2
  split at k2
  .rename_i xs
   split at k2
   .rename_i i
    refine .inl ⟨ρ,F,ab,?_⟩
    rw[a]
    intro v g H' s r
    obtain ⟨p,vs,rfl,h1,h2⟩:=DatV.lst_of r
    refine ⟨p,rfl,.inl ⟨⟨vs,?_⟩,?_⟩⟩
    · rw [j]; exact h1.same s.fh
    · rw [j]; exact Rk.ok k2 _ g H' s (tW (H := H') i (fun H1 q _ => h1.same q) h2)
   .exact k2.elim
  .rename_i xs
   split at k2
   .rename_i i
    refine .inl ⟨ρ,F,ab,?_⟩
    rw[a]
    intro v g H' s r
    obtain ⟨p,vs,rfl,h1,h2⟩:=DatV.tup_of r
    refine ⟨p,rfl,.inr ⟨⟨vs,?_⟩,?_⟩⟩
    · rw [j]; exact h1.same s.fh
    · rw [j]; exact Rk.ok k2 _ g H' s (vZ i h1 h2)
   .exact k2.elim
  .rename_i z
   split at k2
   .rename_i i
    refine .inr ⟨ρ,F,ab,?_⟩
    rw[a]
    intro v g H' s r
    obtain rfl:=DatV.str_of r
    exact ⟨z,rfl,Rk.ok k2 _ g H' s (v0 i)⟩
   .exact k2.elim
  .exact k2.elim
theorem aBB{f:Sg->R Dz}(j:X.K=c.K)(h:PR X c E e f):PIf X c E tg e (e1 cS f):=PI.imp (PI.or (yQ h) (yV h)) fun σ H Q ⟨ρ,F,ab,k⟩=>by
 have b:=Rk.bind k
 cases a:f ρ with
 | bad=>rw[a] at b;exact b.elim
 | ex x=>rw[a] at b;exact .inl ⟨ρ,F,ab,by rw[a];exact b⟩
 | ok d=>
  rw[a] at b
  have k2:=Rk.ok b
  unfold cS at k2
  split at k2
  .rename_i xs
   split at k2
   .rename_i i
    refine .inl ⟨ρ,F,ab,?_⟩
    rw[a]
    intro v g H' s r
    obtain ⟨p,vs,rfl,h1,h2⟩:=aP.lst_of s.fh r
    refine ⟨p,rfl,.inl ⟨⟨vs,?_⟩,?_⟩⟩
    · rw [j]; exact h1
    · rw [j]; exact Rk.ok k2 _ H' g H' s (bR _) (tW (H := H') i (fun H1 _ q => h1.same q) h2)
   .exact k2.elim
  .rename_i xs
   split at k2
   .rename_i i
    refine .inl ⟨ρ,F,ab,?_⟩
    rw[a]
    intro v g H' s r
    obtain ⟨p,vs,rfl,h1,_,h2⟩:=aP.tup_of s.fh r
    refine ⟨p,rfl,.inr ⟨⟨vs,?_⟩,?_⟩⟩
    · rw [j]; exact h1.same s.fh
    · rw [j]; exact Rk.ok k2 _ H' g H' s (bR _) (vZ i h1 h2)
   .exact k2.elim
  .rename_i z
   split at k2
   .rename_i i
    refine .inr ⟨ρ,F,ab,?_⟩
    rw[a]
    intro v g H' s r
    obtain rfl:=aP.str_of r
    exact ⟨z,rfl,Rk.ok k2 _ H' g H' s (bR _) (v0 i)⟩
   .exact k2.elim
  .exact k2.elim
noncomputable def jZ(lo:Int)(n:Nat):List Dz:=(List.range n).map fun i:Nat=>.int (lo+i)
def iG(lo hi:Int):R (List Dz):=if -4611686018427387904<=lo/\lo < 4611686018427387904 /\ -4611686018427387904<=hi/\hi < 4611686018427387904/\hi - lo<=16777216 then .ok (jZ lo (hi - lo).toNat) else .bad
def iA(f:Sg->R Dz):Sg->R (List Dz):=fun ρ=>(f ρ).bind fun x=>match x with
 | .int j=>iG 0 j
 | _=>.bad
def aDV(f g:Sg->R Dz):Sg->R (List Dz):=fun ρ=>(f ρ).bind fun x=>(g ρ).bind fun y=>match x,y with
 | .int i,.int j=>iG i j
 | _,_=>.bad
theorem zD{K:Frag}{F B:Hp}{lo:Int}{n:Nat}(d:n<=16777216):Yld K (Itr lo n) F B (jZ lo n) where
 len:=by unfold jZ;rw[dD,AQ,B1];exact d
 go:=fun i a H1 h1 h2 b hi=>by unfold jZ at hi;rw[AQ,B1] at hi;exact hi
 yld:=fun i a H1 v H2 x h1 h2 b y e=>by
  obtain ⟨rfl,rfl⟩:=y
  unfold jZ at e
  rw[BC] at e
  cases q:(List.range n)[i]? with
  | none=>rw[q] at e;cases e
  | some j=>
   rw[q] at e
   cases e
   obtain ⟨f,c⟩:=AU.mp q
   rw[List.getElem_range] at c
   subst c
   exact ⟨a,Ext.refl h2,.int _⟩
 stop:=fun a H1 h1 h2 b=>by show n<=_;unfold jZ;rw[AQ,B1];exact AI _
theorem jQ{f:Sg->R Dz}(h:PI X tg e (aCC (eF (tV (a8 c) c E f) iC))):PI0 X c E tg e (iA f):=PI.imp h fun σ H Q ⟨ρ,F,ab,k⟩=>by
 refine ⟨ρ,F,ab,(Rk.bind k).imp fun x _ q v b H' s r=>?_⟩
 cases x with
 | int j=>
  have a:Rk c E F H (iG 0 j) _:=q
  unfold iG at a
  split at a
  .rename_i d
   obtain rfl:=aP.int_of r
   refine ⟨j,rfl,by omega,by omega,?_⟩
   have e0:(j - 0).toNat=j.toNat:=by rw[Int.sub_zero]
   rw[<-e0]
   exact Rk.ok a _ b H' s (zD (by omega))
  .exact a.elim
 | _=>exact q.elim
end
noncomputable def f6(js:List (O9 Nat))(ρ:Sg):Sg:=js.map fun o=>o.bind fun j=>(ρ[j]?).join
theorem p7{α:Type}{js:List (O9 Nat)}{ρ:List (O9 α)}{i:Nat}{a:α}(h:(js.map fun o=>o.bind fun j=>(ρ[j]?).join)[i]? = some (some a)):∃ j,js[i]? = some (some j)/\ρ[j]? = some (some a):=by
 rw[BC] at h
 cases e:js[i]? with
 | none=>rw[e] at h;cases h
 | some o=>
  rw[e] at h
  have h':(o.bind fun j=>(ρ[j]?).join)=some a:=BP h
  cases o with
  | none=>cases h'
  | some j=>
   have h2:(ρ[j]?).join=some a:=h'
   cases e2:ρ[j]? with
   | none=>rw[e2] at h2;cases h2
   | some o2=>rw[e2] at h2;have:o2=some a:=h2;subst this;exact ⟨j,rfl,e2⟩
theorem p8{α:Type}{js:List (O9 Nat)}{ρ:List (O9 α)}{i j:Nat}{a:α}(h:js[i]? = some (some j))(h2:ρ[j]? = some (some a)):(js.map fun o=>o.bind fun j=>(ρ[j]?).join)[i]? = some (some a):=by
 rw[BC,h]
 show some ((ρ[j]?).join)=_
 rw[h2];rfl
def p9(js:List (O9 Nat)):Prop:=∀ (i k j:Nat),js[i]? = some (some j)->js[k]? = some (some j)->i=k
theorem o8{js:List (O9 Nat)}(h:js.Pairwise fun a b=>a=none\/a≠b):p9 js:=fun i k j h1 h2=>by
 obtain ⟨c,e1⟩:=AU.mp h1
 obtain ⟨d,e2⟩:=AU.mp h2
 rw[List.pairwise_iff_getElem] at h
 rcases Nat.lt_trichotomy i k with q|q|q
 .rcases h i k c d q with z|z
  · rw [e1] at z; cases z
  · exact absurd (e1.trans e2.symm) z
 .exact q
 .rcases h k i d c q with z|z
  · rw [e2] at z; cases z
  · exact absurd (e2.trans e1.symm) z
theorem Ab.cap{c:Ct}{ρ:Sg}{σ f:L2.St}{F H:Hp}{js:List (O9 Nat)}(b:Ab c ρ σ F H)(r:p9 js)(k:cF (iL js σ) f):Ab c (f6 js ρ) f F H where
 len:=by rw[k.1];unfold f6 iL;rw[AQ,AQ]
 fh:=b.fh
 slot:=fun i a h=>by
  obtain ⟨j,h1,h2⟩:=p7 h
  obtain ⟨v,l,u⟩:=b.slot j a h2
  exact ⟨v,k.2 i v (p8 h1 l),u⟩
 apart:=fun i p a q n h h' o o'=>by
  obtain ⟨j,h1,h2⟩:=p7 h
  obtain ⟨m,g,e⟩:=p7 h'
  have s:j≠m:=fun z=>n (r i p j h1 (by rw[g,z]))
  obtain ⟨v,l,_⟩:=b.slot j a h2
  obtain ⟨t,d,_⟩:=b.slot m q e
  rw[k.2 i v (p8 h1 l),k.2 p t (p8 g d),<-l,<-d]
  exact b.apart j m a q s h2 e o o'
 f0:=b.f0
 h0:=b.h0
 n0:=b.n0
 t0:=b.t0
noncomputable def R.noEx{α:Type}:R α->R α
 | .ex _=>.bad
 | r=>r
@[simp] theorem R.noEx_ok{α:Type}(a:α):(R.ok a).noEx=.ok a:=id rfl
noncomputable def tX{α:Type}:O9 α->R α
 | some a=>.ok a
 | none=>.bad
@[simp] theorem eJ{α:Type}(a:α):tX (some a)=.ok a:=id rfl
noncomputable def compL(fs:Dz->Sg->O9 Sg)(ft:Sg->R Bool)(fe:Sg->R Dz)(ρ0:Sg):List Dz->R (List Dz)
 | []=>.ok []
 | x::t=>(tX (fs x ρ0)).bind fun ρ1=>(ft ρ1).noEx.bind fun b=>if b=true then (fe ρ1).noEx.bind fun y=>(compL fs ft fe ρ0 t).bind fun ys=>.ok (y::ys) else compL fs ft fe ρ0 t
theorem lN{fs:Dz->Sg->O9 Sg}{d:Sg->R Bool}{c:Sg->R Dz}{a:Sg}{e:Er}:∀ {xs:List Dz},compL fs d c a xs≠.ex e
 | []=>fun h=>by cases h
 | x::t=>fun h=>by
  unfold compL at h
  cases h1:fs x a with
  | none=>rw[h1] at h;cases h
  | some ρ1=>
   rw[h1] at h
   have h:((d ρ1).noEx.bind fun b=>if b=true then (c ρ1).noEx.bind fun y=>(compL fs d c a t).bind fun ys=>.ok (y::ys) else compL fs d c a t)=.ex e:=h
   cases h2:d ρ1 with
   | bad=>rw[h2] at h;cases h
   | ex _=>rw[h2] at h;cases h
   | ok b=>
    rw[h2] at h
    have h:(if b=true then (c ρ1).noEx.bind fun y=>(compL fs d c a t).bind fun ys=>.ok (y::ys) else compL fs d c a t)=.ex e:=h
    cases b with
    | false=>exact lN (xs:=t) h
    | true=>
     have h:((c ρ1).noEx.bind fun y=>(compL fs d c a t).bind fun ys=>.ok (y::ys))=.ex e:=h
     cases f:c ρ1 with
     | bad=>rw[f] at h;cases h
     | ex _=>rw[f] at h;cases h
     | ok y=>
      rw[f] at h
      have h:((compL fs d c a t).bind fun ys=>.ok (y::ys))=.ex e:=h
      cases g:compL fs d c a t with
      | bad=>rw[g] at h;cases h
      | ex e'=>exact lN (xs:=t) (e:=e') g
      | ok ys=>rw[g] at h;cases h
theorem xL{fs:Dz->Sg->O9 Sg}{d:Sg->R Bool}{c:Sg->R Dz}{a:Sg}{x:Dz}{t ys:List Dz}(h:compL fs d c a (x::t)=.ok ys) :
  ∃ ρ1 b,fs x a=some ρ1/\d ρ1=.ok b/\((b=true/\∃ y zs,c ρ1=.ok y/\compL fs d c a t=.ok zs/\ys=y::zs)\/(b=false/\compL fs d c a t=.ok ys)):=by
 unfold compL at h
 cases h1:fs x a with
 | none=>rw[h1] at h;cases h
 | some ρ1=>
  rw[h1] at h
  have h:((d ρ1).noEx.bind fun b=>if b=true then (c ρ1).noEx.bind fun y=>(compL fs d c a t).bind fun ys=>.ok (y::ys) else compL fs d c a t)=.ok ys:=h
  cases h2:d ρ1 with
  | bad=>rw[h2] at h;cases h
  | ex _=>rw[h2] at h;cases h
  | ok b=>
   rw[h2] at h
   have h:(if b=true then (c ρ1).noEx.bind fun y=>(compL fs d c a t).bind fun ys=>.ok (y::ys) else compL fs d c a t)=.ok ys:=h
   refine ⟨ρ1,b,rfl,h2,?_⟩
   cases b with
   | false=>exact .inr ⟨rfl,h⟩
   | true=>
    refine .inl ⟨rfl,?_⟩
    have h:((c ρ1).noEx.bind fun y=>(compL fs d c a t).bind fun ys=>.ok (y::ys))=.ok ys:=h
    cases e:c ρ1 with
    | bad=>rw[e] at h;cases h
    | ex _=>rw[e] at h;cases h
    | ok y=>
     rw[e] at h
     have h:((compL fs d c a t).bind fun ys=>.ok (y::ys))=.ok ys:=h
     cases f:compL fs d c a t with
     | bad=>rw[f] at h;cases h
     | ex e'=>rw[f] at h;cases h
     | ok zs=>rw[f] at h;cases h;exact ⟨y,zs,rfl,rfl,rfl⟩
def kB(js:List (O9 Nat))(fi:Sg->R (List Dz))(fs:Dz->Sg->O9 Sg)(ft:Sg->R Bool)(fe:Sg->R Dz):Sg->R (List Dz):=fun ρ=>(fi ρ).bind fun xs=>compL fs ft fe (f6 js ρ) xs
noncomputable def xM:Sg->R Bool:=fun _=>.ok true
section
variable{X:Cx}{c:Ct}{E:XK}{e a b:E1}{pos:Pos}
theorem m9:L2.PIf X [] (tTf c E xM):=fun pins s σ H Q I ⟨ρ,F,ab,k⟩=>L2.m9 pins s σ H Q I (Rk.ok k F H (Ext.refl ab.fh))
theorem aBC{js:List (O9 Nat)}{is:List Nat}{σ a b:L2.St}(k:cF (iL js σ) a)(c:b.length=a.length)(h:∀ j:Nat,j∉is->b[j]? = a[j]?)(hi:∀ i∈is,js[i]? = some none):cF (iL js σ) b:=
 ⟨c.trans k.1,fun i v e=>by
  by_cases q:i∈is
  .unfold iL at e
   rw[BC,hi i q] at e
   cases e
  .rw[h i q];exact k.2 i v e⟩
theorem rF{N:List Str}{js:List (O9 Nat)}{scope:Scope}{tg u:E1}{r:List E1}{fi:Sg->R (List Dz)}{fs:Dz->Sg->O9 Sg}{G:Sg->R Bool}{I:Sg->R Dz}{is:List Nat}(ho:p9 js)(hi:∀ i∈is,js[i]? = some none)
  (hb:∀ (cl:List (Str×Az)) (C:Az) (s:S9) (H0:Hp) (fp:List Az),∃ g,PG (eZ X N scope cl C s H0 fp) tg g/\Tg c g fs is/\L2.PIf (eZ X N scope cl C s H0 fp) r (tTf c E0 G)/\PD (eZ X N scope cl C s H0 fp) c E0 u I)
  {σ:L2.St} {H:Hp} {Q:VK} (h:tV (xG c) c E (kB js fi fs G I) σ H Q):oS X N scope js tg u r (tI c E fi) σ H Q:=by
 obtain ⟨ρ,F,ab,k⟩:=h
 refine ⟨ρ,F,ab,(Rk.bind k).imp fun xs _ q J B F1 H1 s1 Y A=>?_⟩
 cases D:compL fs G I (f6 js ρ) xs with
 | bad=>rw[D] at q;exact q.elim
 | ex e=>exact absurd D lN
 | ok ys=>
  rw[D] at q
  refine aDD (n:=xs.length) (fun i b H'=>∃ F',Ext F1 H1 F' H'/\b.length<=i/\∃ zs rest,DatVs c.K F' b zs/\compL fs G I (f6 js ρ) (xs.drop i)=.ok rest/\zs++rest=ys) A.len ⟨F1,Ext.refl s1.fh,AI _,[],ys,.nil,D,rfl⟩ ?_ ?_ ?_ ?_ ?_
  .rintro i b H' _ ⟨F',_,h,_⟩;exact h
  .rintro i b H' d ⟨F',e1,_⟩
   exact A.go i F' H' e1.ff e1.fh (fun a o z=>e1.hh a o (Y a o z)) d
  .rintro b H' ⟨F',e1,_⟩
   exact A.stop F' H' e1.ff e1.fh (fun a o z=>e1.hh a o (Y a o z))
  .rintro i v b Ha Hb d ⟨F',e1,hlen,zs,rest,hd,hr,hz⟩ hy
   obtain ⟨W,e2,rx⟩:=A.yld i F' Ha v Hb xs[i] e1.ff e1.fh (fun a o z=>e1.hh a o (Y a o z)) hy (AS d)
   have L:xs.drop i=xs[i]::xs.drop (i+1):=ER d
   rw[L] at hr
   obtain ⟨j,bb,hs,ht,l⟩:=xL hr
   intro cl C s H0 fp
   obtain ⟨g,hg,M,U,he⟩:=hb cl C s H0 fp
   refine ⟨g,_,_,hg,U,he,fun x k0=>?_⟩
   have S:Ab c (f6 js ρ) x W Hb:=(ab.ext (s1.trans (e1.trans e2))).cap ho k0
   refine M v xs[i] _ j x W Hb _ S rx hs fun σ1 T V t=>⟨aBC k0 T V hi,j,W,t,?_⟩
   rw[ht]
   intro F3 H3 m
   rcases l with ⟨rfl,y,ws,P,f,rfl⟩|⟨rfl,f⟩
   .refine sJ ⟨j,F3,t.ext m,?_⟩
    rw[P]
    intro w F4 H4 Z O
    refine ⟨F4,e1.trans (e2.trans (m.trans Z)),by rw[A6,E6];omega,zs++[y],ws,(hd.same (e2.trans (m.trans Z)).ff).append (.cons O .nil),f,by rw[List.append_assoc];exact hz⟩
   .exact sI ⟨F3,e1.trans (e2.trans m),by omega,zs,rest,hd.same (e2.trans m).ff,f,hz⟩
  .rintro b H' ⟨F',e1,_,zs,rest,hd,hr,hz⟩ p hp
   rw[List.drop_length] at hr
   cases hr
   rw[BV] at hz
   subst hz
   exact Rk.ok q (.ref p) F' _ (s1.trans (e1.trans (Ext.own e1.fh hp))) ⟨p,b,rfl,bS (s1.trans e1).hh hp,aS,bS e1.fh hp,hd⟩
theorem qA{N:List Str}{js:List (O9 Nat)}{scope:Scope}{tg f:E1}{d:List E1}{k:Sg->R (List Dz)}{fs:Dz->Sg->O9 Sg}{j:Sg->R Bool}{l:Sg->R Dz}{is:List Nat}(h:PE X e (oS X N scope js tg f d (tI c E k)))(m:js.Pairwise fun a b=>a=none\/a≠b)(hi:∀ i∈is,js[i]? = some none)
 (n:∀ (cl:List (Str×Az)) (C:Az) (s:S9) (H0:Hp) (fp:List Az),∃ g,PG (eZ X N scope cl C s H0 fp) tg g/\Tg c g fs is/\L2.PIf (eZ X N scope cl C s H0 fp) d (tTf c E0 j)/\PD (eZ X N scope cl C s H0 fp) c E0 f l) :
 PN X c E e (kB js k fs j l):=PE.imp h fun σ H Q q=>rF (o8 m) hi n q
theorem aDW{i:Nat}{st:Stmt}{N:List Str}{js:List (O9 Nat)}{scope:Scope}{tg e:E1}{d:List E1}{j:Sg->R (List Dz)}{fs:Dz->Sg->O9 Sg}{f:Sg->R Bool}{k:Sg->R Dz}{is:List Nat}(h:PS X st (kI (oS X N scope js tg e d (tI c E j)) (iY i)))(l:js.Pairwise fun a b=>a=none\/a≠b)(hi:∀ i∈is,js[i]? = some none)
 (m:∀ (cl:List (Str×Az)) (C:Az) (s:S9) (H0:Hp) (fp:List Az),∃ g,PG (eZ X N scope cl C s H0 fp) tg g/\Tg c g fs is/\L2.PIf (eZ X N scope cl C s H0 fp) d (tTf c E0 f)/\PD (eZ X N scope cl C s H0 fp) c E0 e k) :
 PSf X c E st (lL i (kB js j fs f k)):=nF (PS.imp h fun D σ H q=>rF (o8 l) hi m q)
end
noncomputable def fC(fs:Dz->Sg->O9 Sg)(fb:Sg->R Fw):List Dz->Sg->R Fw
 | [],ρ=>.ok (.nx ρ)
 | x::t,ρ=>(tX (fs x ρ)).bind fun ρ1=>(fb ρ1).bind fun w=>match w with
  | .nx ρ2=>fC fs fb t ρ2
  | .ct ρ2=>fC fs fb t ρ2
  | .bk ρ2=>.ok (.nx ρ2)
  | .rt a=>.ok (.rt a)
def kJ(fi:Sg->R (List Dz))(fs:Dz->Sg->O9 Sg)(fb:Sg->R Fw):Sg->R Fw:=fun ρ=>(fi ρ).bind fun xs=>fC fs fb xs ρ
section
variable{X:Cx}{c:Ct}{E:XK}{e a b:E1}{pos:Pos}{st:Stmt}
theorem dF{g:TG}{C:Sg->R (List Dz)}{fs:Dz->Sg->O9 Sg}{is:List Nat}{fb:Sg->R Fw}(K:Tg c g fs is)(h:PS X st (aFL (tI0 c E C) g (tSf c E fb))):PSf X c E st (kJ C fs fb):=PS.imp h fun D σ H t=>by
 obtain ⟨ρ,F,ab,k⟩:=t
 refine ⟨ρ,F,ab,(Rk.bind k).imp fun xs _ q J u H1 s1 A=>?_⟩
 refine ⟨fun i m σ H=>m=xs.length - i/\i<=xs.length/\∃ ρ' b,aH u b/\Ab c ρ' σ b H/\Rk c E b H (fC fs fb (xs.drop i) ρ') (gU c F D),⟨xs.length,by simp,EH _,ρ,u,bR _,ab.ext s1,Rk.ext s1 q⟩,?_⟩
 rintro i m l H2 ⟨rfl,hi,ρ2,F2,s2,ab2,k2⟩
 by_cases j:i < xs.length
 .refine .inr ⟨A.go i F2 H2 s2 ab2.fh mJ j,fun d H'=>∃ ρ' b,aH u b/\Ab c ρ' d b H'/\Rk c E b H' (fC fs fb (xs.drop (i+1)) ρ') (gU c F D),fun d H' w=>⟨xs.length - (i+1),by omega,rfl,j,w⟩,fun v H3 y=>?_⟩
  obtain ⟨x,p,G⟩:=A.yld i F2 H2 v H3 xs[i] s2 ab2.fh mJ y (AS j)
  have s:xs.drop i=xs[i]::xs.drop (i+1):=ER j
  rw[s] at k2
  unfold fC at k2
  cases h1:fs xs[i] ρ2 with
  | none=>rw[h1] at k2;exact k2.elim
  | some ρ3=>
   rw[h1] at k2
   refine K v xs[i] ρ2 ρ3 l x H3 _ (ab2.ext p) G h1 fun L _ _ B=>⟨ρ3,x,B,?_⟩
   have k3:Rk c E F2 H2 (fb ρ3) _:=Rk.bind k2
   cases h2:fb ρ3 with
   | bad=>rw[h2] at k3;exact k3.elim
   | ex e=>rw[h2] at k3;exact k3
   | ok w=>
    rw[h2] at k3
    have n:=Rk.ok k3
    have I:aH F x:=fun a o z=>p.ff a o (s2 a o (s1.ff a o z))
    cases w with
    | nx ρ4=>exact fun d b H' s' f=>⟨ρ4,b,fun a o z=>s' a o (p.ff a o (s2 a o z)),f,n⟩
    | ct ρ4=>exact fun d b H' s' f=>⟨ρ4,b,fun a o z=>s' a o (p.ff a o (s2 a o z)),f,n⟩
    | bk ρ4=>exact fun d b H' s' f=>Rk.ok n d b H' (fun a o z=>s' a o (I a o z)) f
    | rt a=>exact fun v b H' z r=>Rk.ok n v b H' z r
 .have e:i=xs.length:=by omega
  subst e
  rw[List.drop_length] at k2
  exact .inl ⟨A.stop F2 H2 s2 ab2.fh mJ,Rk.ok k2 l F2 H2 (fun a o z=>s2 a o (s1.ff a o z)) ab2⟩
end
noncomputable def eB(t:Sg->R Bool)(b:Sg->R Fw):Nat->Sg->R Fw
 | 0,_=>.bad
 | n+1,ρ=>(t ρ).bind fun k=>if k=true then (b ρ).bind fun w=>match w with
   | .nx ρ'=>eB t b n ρ'
   | .ct ρ'=>eB t b n ρ'
   | .bk ρ'=>.ok (.nx ρ')
   | .rt a=>.ok (.rt a)
  else .ok (.nx ρ)
open Classical in
noncomputable def kS(t:Sg->R Bool)(b:Sg->R Fw):Sg->R Fw:=fun ρ=>if h:∃ n,eB t b n ρ≠.bad then eB t b h.choose ρ else .bad
theorem R.bind_mono{α β:Type}{r:R α}{f g:α->R β}(h:r.bind f≠.bad)(b:∀ a,f a≠.bad->g a=f a):r.bind g=r.bind f:=by
 cases r with
 | bad=>rfl
 | ex e=>rfl
 | ok a=>exact b a h
theorem i7{t:Sg->R Bool}{b:Sg->R Fw}:∀ {n m:Nat} {ρ:Sg},n<=m->eB t b n ρ≠.bad->eB t b m ρ=eB t b n ρ
 | 0,_,_,_,h=>absurd rfl h
 | n+1,0,_,hm,_=>absurd hm (by omega)
 | n+1,m+1,ρ,hm,h=>by
  unfold eB at h ⊢
  refine R.bind_mono h fun k hk=>?_
  cases k with
  | false=>rfl
  | true=>
   refine R.bind_mono (r:=b ρ) hk fun w c=>?_
   cases w with
   | nx ρ'=>exact i7 (by omega) c
   | ct ρ'=>exact i7 (by omega) c
   | bk ρ'=>rfl
   | rt a=>rfl
theorem zE{t:Sg->R Bool}{b:Sg->R Fw}{ρ:Sg}{n:Nat}(h:eB t b n ρ≠.bad):kS t b ρ=eB t b n ρ:=by
 have a:∃ n,eB t b n ρ≠.bad:=⟨n,h⟩
 unfold kS
 rw[dif_pos a]
 have c:=a.choose_spec
 rcases Nat.le_total n a.choose with q|q
 · exact i7 q h
 · exact (i7 q c).symm
section
variable{X:Cx}{c:Ct}{E:XK}{st:Stmt}
theorem nY{t:Sg->R Bool}{fb:Sg->R Fw}(h:PS X st (x8 (tTf c E t) (tSf c E fb))):PSf X c E st (kS t fb):=PS.imp h fun D σ H p=>by
 obtain ⟨ρ,F,ab,k⟩:=p
 have y:∃ n,eB t fb n ρ≠.bad:=Classical.byContradiction fun z=>by
  have:kS t fb ρ=.bad:=by unfold kS;rw[dif_neg z]
  rw[this] at k
  exact k
 obtain ⟨n,A⟩:=y
 rw[zE A] at k
 refine ⟨fun m σ H=>∃ ρ' d,aH F d/\Ab c ρ' σ d H/\Rk c E d H (eB t fb m ρ') (gU c F D),⟨n,ρ,F,bR F,ab,k⟩,?_⟩
 rintro m u H1 ⟨ρ1,F1,s1,ab1,k1⟩
 cases m with
 | zero=>exact k1.elim
 | succ m=>
  unfold eB at k1
  refine ⟨ρ1,F1,ab1,(Rk.bind k1).imp fun b _ q x H2 e2=>?_⟩
  have j:=ab1.ext e2
  cases b with
  | false=>exact sI (Rk.ok q u x H2 (fun a o z=>e2.ff a o (s1 a o z)) j)
  | true=>
   refine sJ ⟨fun f H'=>∃ ρ' d,aH F d/\Ab c ρ' f d H'/\Rk c E d H' (eB t fb m ρ') (gU c F D),fun f H' w=>⟨m,by omega,w⟩,ρ1,x,j,?_⟩
   have i:Rk c E F1 H1 (fb ρ1) _:=Rk.bind (r:=fb ρ1) q
   cases h2:fb ρ1 with
   | bad=>rw[h2] at i;exact i.elim
   | ex e=>rw[h2] at i;exact i
   | ok w=>
    rw[h2] at i
    have l:=Rk.ok i
    have s:aH F x:=fun a o z=>e2.ff a o (s1 a o z)
    cases w with
    | nx ρ4=>exact fun f d H' s' g=>⟨ρ4,d,fun a o z=>s' a o (s a o z),g,l⟩
    | ct ρ4=>exact fun f d H' s' g=>⟨ρ4,d,fun a o z=>s' a o (s a o z),g,l⟩
    | bk ρ4=>exact fun f d H' s' g=>Rk.ok l f d H' (fun a o z=>s' a o (s a o z)) g
    | rt a=>exact fun v d H' z r=>Rk.ok l v d H' z r
end
def spG(K:Frag)(mg:Str->O9 V9)(T F1:Hp)(n:Nat)(G:List Dz->R Dz):Sp:=fun vs H Q E=>∃ F ds,aH F1 F/\aH T F/\aH F H/\DatVs K F vs ds/\ds.length=n/\match G ds with
 | .bad=>False
 | .ok d=>∀ v F' H',Ext F H F' H'->DatV K F' v d->Q v H'
 | .ex e=>∀ a C F' H',Ext F H F' H'->jW K mg F' e a C->E (.ref C) (some a) H'
def Beh(P:P9)(w:W9)(K:Frag)(mg:Str->O9 V9)(base:H9)(T:Hp)(f:Az)(F1:Hp)(k n:Nat)(G:List Dz->R Dz):Prop:=
 ∃ fd ps,ps.length=n/\cU K fd ps []/\FnOk P w K mg base (CXe P w) k f fd ps (spG K mg T F1 n G)/\(PySem.W.keepIn K (.ref f)=true\/∃ oc od fd' sl,F1 f=some (FnO f ⟨oc,od,.func fd',sl⟩))
def gOf(P:P9)(w:W9)(K:Frag)(mg:Str->O9 V9)(base:H9)(T:Hp):Gb:=⟨Beh P w K mg base T,T,w⟩
def spF(g:Gb)(K:Frag)(mg:Str->O9 V9)(n:Nat)(G:List A->R A):Sp:=fun vs H Q E=>∃ F as,aH g.T F/\aH F H/\AFs g K mg F as vs/\as.length=n/\match G as with
 | .bad=>False
 | .ok a=>∀ v F' H',Ext F H F' H'->AF g K mg F' a v->Q v H'
 | .ex e=>∀ a C F' H',Ext F H F' H'->jW K mg F' e a C->E (.ref C) (some a) H'
def aO(P:P9)(w:W9)(K:Frag)(mg:Str->O9 V9)(base:H9)(T:Hp)(k:Nat)(x:Str)(ps:List Str)(G:List A->R A):Prop:=Calls P w K mg base (CXe P w) k x ps (spF (gOf P w K mg base T) K mg ps.length G)
def bA(n:Nat)(G:List A->R A)(f:Sg->R (List A)):Sg->R A:=fun ρ=>(f ρ).bind fun as=>if as.length=n then G as else .bad
theorem bK{X:Cx}{c:Ct}{E:XK}{e:E1}{n:Nat}{G:List A->R A}{g:Gb}{K:Frag}{mg:Str->O9 V9}{f:Sg->R (List A)}(t:g=c.g)(p:K=c.K)(w:mg=c.mg)(h:PE X e (m8 (spF g K mg n G) [] E (tAv c E f))):PV X c E e (bA n G f):=PE.imp h fun σ H Q d=>by
 obtain ⟨ρ,F,ab,k⟩:=d
 subst t p w
 refine ⟨ρ,F,ab,(Rk.bind k).imp fun l _ q vs u H1 s1 m=>?_⟩
 by_cases b:l.length=n
 .rw[AK b] at q
  refine ⟨u,l,fun a o z=>s1.ff a o (ab.f0 a o (ab.t0 a o z)),s1.fh,by rw[BV];exact m,b,?_⟩
  cases j:G l with
  | bad=>rw[j] at q;exact q
  | ok a=>rw[j] at q;exact fun v i H' s r=>Rk.ok q v i H' (s1.trans s) r
  | ex e=>rw[j] at q;exact fun a C i H' s r=>q a C i H' ((ab.all.trans s1).trans s) r
 .rw[AM b] at q;exact q.elim
def fnF(n:Nat)(fb:Sg->R Fw):List A->R A:=fun as=>(fb (as.map some++List.replicate (n - as.length) none)).bind fun w=>match w with
 | .rt (.l _)=>.bad
 | .rt a=>.ok a
 | .nx _=>.ok (.d .none)
 | _=>.bad
theorem AFs.get{g:Gb}{K:Frag}{mg:Str->O9 V9}{F:Hp}:∀ {as:List A} {vs:List V} {i:Nat} {a:A},AFs g K mg F as vs->as[i]? = some a->∃ v,vs[i]? = some v/\AF g K mg F a v
 | [],[],_,_,_,h=>by simp at h
 | a::as,v::vs,0,_,h,e=>by simp at e;subst e;exact ⟨v,rfl,h.1⟩
 | a::as,v::vs,i+1,_,h,e=>by
  obtain ⟨w,h1,h2⟩:=AFs.get (i:=i) h.2 (by simpa using e)
  exact ⟨w,by simpa using h1,h2⟩
theorem mK{α:Type}{c:List α}{n i:Nat}{a:α}(h:(c.map some++List.replicate n none)[i]? = some (some a)):c[i]? = some a:=by
 by_cases hi:i < c.length
 .rw[B2 (by rw[AQ];exact hi),BC] at h
  cases e:c[i]? with
  | none=>rw[e] at h;cases h
  | some b=>rw[e] at h;cases h;rfl
 .rw[CC (by rw[AQ];omega),DV] at h
  split at h
  · cases h
  · cases h
theorem tY{g:Gb}{cells:List (Str×Az)}{cls:Str->O9 ClSt}{K:Frag}{mg:Str->O9 V9}{w:W9}{F H:Hp}{c:List A}{vs:List V}{n:Nat}(d:aH g.T F)(s:aH F H)(h:AFs g K mg F c vs):Ab ⟨K,mg,w,F,H,g,cells,cls⟩ (c.map some++List.replicate (n - c.length) none) (vs.map some++List.replicate (n - vs.length) none) F H where
 len:=by rw[A6,A6,AQ,AQ,CS,CS,h.len]
 fh:=s
 slot:=fun i a e=>by
  obtain ⟨v,h1,h2⟩:=h.get (mK e)
  refine ⟨v,?_,AO.of h2⟩
  have hi:i < vs.length:=(AU.mp h1).1
  rw[B2 (by rw[AQ];exact hi),BC,h1];rfl
 apart:=fun i j a b _ e1 _ o _=>by
  obtain ⟨v,h1,h2⟩:=h.get (mK e1)
  rw[AF.notOwn h2] at o
  cases o
 f0:=bR F
 h0:=bR H
 n0:=fun a e n=>absurd e n
 t0:=d
theorem kT{g:Gb}{cells:List (Str×Az)}{cls:Str->O9 ClSt}{K:Frag}{mg:Str->O9 V9}{w:W9}{n:Nat}{fb:Sg->R Fw}{vs:List V}{c:List A}{F H:Hp}{Q:VK}{E:XK}(h0:aH g.T F)(h1:aH F H)(h2:AFs g K mg F c vs)(b:match fnF n fb c with
 | .bad=>False
 | .ok a=>∀ v F' H',Ext F H F' H'->AF g K mg F' a v->Q v H'
 | .ex e=>∀ a C F' H',Ext F H F' H'->jW K mg F' e a C->E (.ref C) (some a) H'):tSf ⟨K,mg,w,F,H,g,cells,cls⟩ E fb {nx:=fun _ H'=>Q .non H',rt:=Q} (vs.map some++List.replicate (n - vs.length) none) H:=by
 refine ⟨_,F,tY h0 h1 h2,?_⟩
 unfold fnF at b
 cases e:fb (c.map some++List.replicate (n - c.length) none) with
 | bad=>rw[e] at b;exact b
 | ex x=>rw[e] at b;exact b
 | ok w=>
  rw[e] at b
  cases w with
  | nx ρ'=>exact fun d F' H' s ab=>b .non F' H' ab.all .non
  | rt a=>
   cases a with
   | l xs=>exact b.elim
   | _=>exact b
  | bk ρ'=>exact b.elim
  | ct ρ'=>exact b.elim
section
variable{P:P9}{w:W9}{K:Frag}{mg:Str->O9 V9}{base:H9}{T:Hp}{x:Str}{st:Stmt}{N ps:List Str}{k:Nat}
theorem cL{fb:Sg->R Fw}(D:DefAt K mg x st ps)(S:FnScope N ps (aC st))
  (a:∀ (f:Az) (cdv:V9) (A:U9) (outer:List Env) (s:S9) (H F:Hp) (E:XK),Room k (A.deeper (envOfC x (aC st) s.heap.objs.size f cdv))->
   iF ((dS (CXe P w) P w K mg base N x (aC st) f cdv A outer s H E).fly E) ⟨K,mg,w,F,H,gOf P w K mg base T,(envOfC x (aC st) s.heap.objs.size f cdv).cells,fun _=>none⟩ E (bD st) fb):aO P w K mg base T (k+1) x ps (fnF N.length fb):=by
 refine D.okX S (fun vs H Q E h=>?_) (fun f cdv A outer s H vs Q E e h=>?_)
 .obtain ⟨F,g,_,_,h2,b,_⟩:=h
  rw[h2.len,b]
 .obtain ⟨F,g,d,h1,h2,b,c⟩:=h
  exact ⟨_,a f cdv A outer s H F E e,kT d h1 h2 c⟩
theorem aO.imp{G b:List A->R A}(C:aO P w K mg base T k x ps G)(h:∀ as,b as≠.bad->G as=b as):aO P w K mg base T k x ps b:=Calls.imp C fun vs H Q E=>by
 rintro ⟨F,as,h0,h1,h2,h3,h4⟩
 refine ⟨F,as,h0,h1,h2,h3,?_⟩
 cases e:b as with
 | bad=>rw[e] at h4;exact h4.elim
 | ok a=>rw[h as (by rw[e];exact fun z=>nomatch z),e];rw[e] at h4;exact h4
 | ex x=>rw[h as (by rw[e];exact fun z=>nomatch z),e];rw[e] at h4;exact h4
end
def o9(cn:Str)(fs:List Str)(f:Sg->R (List Dz)):Sg->R Fw:=fun ρ=>(f ρ).bind fun xs=>if xs.length=fs.length then .ex ⟨cn,fs.zip xs⟩ else .bad
theorem qB{α β:Type}:∀ {xs:List α} {ys:List β},ys.length=xs.length->(xs.zip ys).map (·.1)=xs
 | [],_,_=>by simp
 | x::xs,[],h=>by simp at h
 | x::xs,y::ys,h=>by simp at h;simp[qB h]
theorem qD{α β:Type}:∀ {xs:List α} {ys:List β},ys.length=xs.length->(xs.zip ys).map (·.2)=ys
 | [],[],_=>by simp
 | [],_::_,h=>by simp at h
 | x::xs,[],h=>by simp at h
 | x::xs,y::ys,h=>by simp at h;simp[qD h]
theorem n8{X:Cx}{c:Ct}{E:XK}{st:Stmt}{cn:Str}{C:Az}{fs:List Str}{f:Sg->R (List Dz)}(r:c.mg cn=some (.ref C))(s:fs.length<=1000)(h:PS X st (sQ C (spI C fs) E (tAd c E f))):PSf X c E st (o9 cn fs f):=PS.imp h fun D σ H j=>by
 obtain ⟨ρ,F,ab,k⟩:=j
 refine ⟨ρ,F,ab,(Rk.bind k).imp fun xs _ q vs l H1 s1 m=>?_⟩
 by_cases a:xs.length=fs.length
 .rw[AK a] at q
  have g:vs.length=fs.length:=by rw[m.length,a]
  refine wW g (by rw[g];exact s) fun e d p o b=>?_
  have i:Ext l H1 (upd l e (ExO e C (some d))) (upd H1 e (ExO e C (some d))):=Ext.new s1.fh p
  have n:Ext _ _ (upd (upd l e (ExO e C (some d))) d (.xd (fs.zip vs))) (upd (upd H1 e (ExO e C (some d))) d (.xd (fs.zip vs))):=Ext.new i.fh (by rw[aE b];exact o)
  refine q e C _ _ ((ab.all.trans s1).trans (i.trans n)) ⟨r,some d,?_,.inr ⟨d,fs.zip vs,rfl,aS,?_,?_⟩⟩
  .rw[aE (BO b),aS]
  .show _=(fs.zip xs).map (·.1)
   rw[qB g,qB a]
  .show DatVs _ _ _ ((fs.zip xs).map (·.2))
   rw[qD g,qD a]
   exact m.same (i.trans n).ff
 .rw[AM a] at q;exact q.elim
def tPf(c:Ct)(E:XK)(f:Sg->R (O9 Int)):TO:=fun σ H Q=>∃ ρ F,Ab c ρ σ F H/\Rk c E F H (f ρ) fun o=>∀ F' H',Ext F H F' H'->Q o H'
noncomputable def oNo:Sg->R (O9 Int):=fun _=>.ok none
def oSo(f:Sg->R Dz):Sg->R (O9 Int):=fun ρ=>(f ρ).bind fun x=>match x with
 | .int i=>.ok (some i)
 | _=>.bad
noncomputable def mL{α:Type}(xs:List α)(lo hi:O9 Int):List α:=(xs.drop (HT.sIx xs.length 0 lo)).take (HT.sIx xs.length xs.length hi - HT.sIx xs.length 0 lo)
noncomputable def dSl:Dz->O9 Int->O9 Int->R Dz
 | .list xs,lo,hi=>.ok (.list (mL xs lo hi))
 | .tuple xs,lo,hi=>if ¬ (HT.sIx xs.length 0 lo=0/\HT.sIx xs.length xs.length hi=xs.length) then .ok (.tuple (mL xs lo hi)) else .bad
 | .str z,lo,hi=>if z.length<=16777216 then .ok (.str (Txt.slice z lo hi)) else .bad
 | _,_,_=>.bad
def eSl{α:Type}(g:Dz->O9 Int->O9 Int->R α)(f:Sg->R Dz)(lo hi:Sg->R (O9 Int)):Sg->R α:=fun ρ=>(f ρ).bind fun x=>(lo ρ).bind fun l=>(hi ρ).bind fun h=>g x l h
theorem tZ{K:Frag}{F:Hp}{vs:List V}{xs:List Dz}(h:DatVs K F vs xs)(lo hi:O9 Int):DatVs K F (mC vs lo hi) (mL xs lo hi):=by
 unfold mC mL
 rw[h.length]
 exact (h.drop _).take _
theorem PO.imp{X:Cx}{e:O9 E1}{t t':TO}(h:PO X e t)(i:∀ σ H Q,t' σ H Q->t σ H Q):PO X e t':=fun pins s σ H Q I q=>h pins s σ H Q I (i σ H Q q)
section
variable{X:Cx}{c:Ct}{E:XK}{e a b:E1}{pos p2:Pos}{lo hi:O9 E1}
theorem i8:PO X none (tPf c E oNo):=PO.imp aC7 fun σ H Q ⟨ρ,F,ab,k⟩=>Rk.ok k F H (Ext.refl ab.fh)
theorem i9{f:Sg->R Dz}(h:PR X c E e f):PO X (some e) (tPf c E (oSo f)):=PO.imp (aC8 h) fun σ H Q ⟨ρ,F,ab,k⟩=>⟨ρ,F,ab,(Rk.bind k).imp fun x _ q v a H' s r=>by
 cases x with
 | int i=>exact ⟨i,aP.int_of r,Rk.ok q a H' s⟩
 | _=>exact q.elim⟩
def aGH(c:Ct){α:Type}(Rb:VR α)(g:Dz->O9 Int->O9 Int->R α):V->O9 Int->O9 Int->Hp->VK->Prop:=fun v lo hi H Q=>∃ F x d,aH F H/\aP c.K F H v x/\g x lo hi=.ok d/\∀ w F' H',Ext F H F' H'->Rb d w H F' H'->Q w H'
theorem aH3(r:X.K=c.K):SlR X (aGH c (cB c) dSl):=by
 intro pins s σ H v x g f lo hi i Q I n k o m h
 obtain ⟨F,d,w,b,j,a,q⟩:=h
 unfold dSl at a
 split at a
 .cases a
  obtain ⟨p,vs,rfl,h1,h2⟩:=aP.lst_of b j
  rw[<-r] at h1
  exact aDC pins s σ H _ x g f lo hi i Q I n k o m ⟨p,vs,rfl,h1,fun l e=>q _ _ _ (Ext.new b e) (.lst (SqL.of aS) ((tZ h2 lo hi).same (aH.upd (bS b e))))⟩
 .rename_i xs _ _
  split at a
  .rename_i u
   cases a
   obtain ⟨p,vs,rfl,_,h1,h2⟩:=aP.tup_of b j
   rw[<-r] at h1
   exact aFX pins s σ H _ x g f lo hi i Q I n k o m ⟨p,vs,rfl,h1,by rw[h2.length];exact u,fun l e=>q _ _ _ (Ext.new b e) (.tup (SqT.of aS) ((tZ h2 lo hi).same (aH.upd (bS b e))))⟩
  .cases a
 .split at a
  .rename_i t
   cases a
   obtain rfl:=aP.str_of j
   exact aF4 pins s σ H _ x g f lo hi i Q I n k o m ⟨_,rfl,by rw[dD];exact t,q _ F H (Ext.refl b) (.str _)⟩
  .cases a
 .cases a
theorem aDX{α:Type}{Rb:VR α}{g:Dz->O9 Int->O9 Int->R α}(p:∀ x l h e,g x l h≠.ex e)(n:xH Rb){f:Sg->R Dz}{m fh:Sg->R (O9 Int)}{σ:L2.St}{H:Hp}{Q:VK}(h:tV Rb c E (eSl g f m fh) σ H Q) :
  tSl (aGH c Rb g) (tV (a8 c) c E f) (tPf c E m) (tPf c E fh) σ H Q:=by
 obtain ⟨ρ,F,ab,k⟩:=h
 refine ⟨ρ,F,ab,(Rk.bind k).imp fun x _ q v u H1 s1 o=>⟨ρ,u,ab.ext s1,((Rk.bind q).ext s1).imp fun l _ q z H2 b=>⟨ρ,z,ab.ext (s1.trans b),((Rk.bind q).ext (s1.trans b)).imp fun hh _ q y H3 j=>?_⟩⟩⟩
 cases i:g x l hh with
 | bad=>rw[i] at q;exact q.elim
 | ex e=>exact absurd i (p x l hh e)
 | ok d=>
  rw[i] at q
  have a:=(s1.trans b).trans j
  exact ⟨y,x,d,j.fh,aP.ext (b.trans j) o,i,fun w t H' s r=>Rk.ok q w t H' (a.trans s) (n _ _ _ _ _ _ a.hh r)⟩
theorem aBD:∀ x l h e,dSl x l h≠.ex e:=by intro x l h e q;unfold dSl at q;split at q<;>(try split at q)<;>cases q
theorem eQ{f:Sg->R Dz}{a fh:Sg->R (O9 Int)}(g:X.K=c.K)(i:PR X c E e f)(d:PO X lo (tPf c E a))(b:PO X hi (tPf c E fh)):PD X c E (.Subscript e (.Slice lo hi none p2) pos) (eSl dSl f a fh):=
 PE.imp (aAO (aH3 g) i d b) fun σ H Q h=>aDX aBD (jL c) h
noncomputable def tyN:Dz->String
 | .none=>"NoneType"
 | .bool _=>"bool"
 | .int _=>"int"
 | .str _=>"str"
 | .list _=>"list"
 | .tuple _=>"tuple"
 | .dict _=>"dict"
noncomputable def iP(t T:String):Bool:=t == T || (T == "int" && t == "bool")
noncomputable def jI(T:String)(x:Dz):R Dz:=match x with
 | .dict _=>.bad
 | x=>.ok (.bool (iP (tyN x) T))
structure Kit(K:Frag)(T:String):Prop where
 non:PySem.W.kitOne K (.type "NoneType") (.type T)=some (iP "NoneType" T)
 bl:PySem.W.kitOne K (.type "bool") (.type T)=some (iP "bool" T)
 int:PySem.W.kitOne K (.type "int") (.type T)=some (iP "int" T)
 str:PySem.W.kitOne K (.type "str") (.type T)=some (iP "str" T)
 lst:PySem.W.kitOne K (.type "list") (.type T)=some (iP "list" T)
 tup:PySem.W.kitOne K (.type "tuple") (.type T)=some (iP "tuple" T)
theorem aBE(K:Frag):Kit K "bool":=⟨rfl,rfl,rfl,rfl,rfl,rfl⟩
theorem aDY(K:Frag):Kit K "str":=⟨rfl,rfl,rfl,rfl,rfl,rfl⟩
theorem aBF{X:Cx}:iB X (.builtin "isinstance") (fun xs H Q=>∃ a ys c cv b,xs=[.ref a,c]/\SqL X.K H a ys/\n6 c=some cv/\PySem.W.kitOne X.K (.type "list") cv=some b/\Q (.bl b) H):=by
 intro pins s σ H xs us Q I r h
 obtain ⟨a,ys,c,cv,b,rfl,j,g,e,q⟩:=h
 obtain ⟨u,v,rfl,i,f⟩:=oO r
 obtain rfl:=pT g f
 cases (show u=Value.ref a from i)
 obtain ⟨d,_,k,_⟩:=I.list j
 obtain ⟨o,h1,h2,_⟩:=k.isList
 exact BM EM I.kIn ⟨o,h1,h2⟩ e (fun z=>nomatch z) fun tk=>⟨.bl b,H,I.tok _,rfl,q⟩
def aBG(c:Ct)(T:String):List V->Hp->VK->Prop:=fun xs H Q=>∃ F x v d,xs=[v,.ty T]/\aH F H/\aP c.K F H v x/\jI T x=.ok d/\∀ w F' H',Ext F H F' H'->DatV c.K F' w d->Q w H'
theorem t4(g:X.K=c.K){T:String}(k:Kit X.K T):iB X (.builtin "isinstance") (aBG c T):=by
 intro pins s σ H xs us Q I r h
 obtain ⟨F,x,v,d,rfl,a,f,e,q⟩:=h
 cases x with
 | dict _=>cases e
 | none=>
  cases e
  obtain rfl:=aP.non_of f
  exact cV pins s σ H _ us Q I r ⟨_,_,_,_,_,rfl,.pl .non,rfl,k.non,q _ F H (Ext.refl a) (.bl _)⟩
 | bool b=>
  cases e
  obtain rfl:=aP.bl_of f
  exact cV pins s σ H _ us Q I r ⟨_,_,_,_,_,rfl,.pl (.bl b),rfl,k.bl,q _ F H (Ext.refl a) (.bl _)⟩
 | int b=>
  cases e
  obtain rfl:=aP.int_of f
  exact cV pins s σ H _ us Q I r ⟨_,_,_,_,_,rfl,.pl (.int b),rfl,k.int,q _ F H (Ext.refl a) (.bl _)⟩
 | str b=>
  cases e
  obtain rfl:=aP.str_of f
  exact cV pins s σ H _ us Q I r ⟨_,_,_,_,_,rfl,.pl (.str b),rfl,k.str,q _ F H (Ext.refl a) (.bl _)⟩
 | tuple xs=>
  cases e
  obtain ⟨p,vs,rfl,_,h1,h2⟩:=aP.tup_of a f
  rw[<-g] at h1
  exact sR pins s σ H _ us Q I r ⟨p,vs,_,_,_,rfl,h1,rfl,k.tup,q _ F H (Ext.refl a) (.bl _)⟩
 | list xs=>
  cases e
  obtain ⟨p,vs,rfl,h1,h2⟩:=aP.lst_of a f
  rw[<-g] at h1
  exact aBF pins s σ H _ us Q I r ⟨p,vs,_,_,_,rfl,h1,rfl,k.lst,q _ F H (Ext.refl a) (.bl _)⟩
theorem zF{T:String}{f:Sg->R Dz}(h:PE X e (tCB (aBG c T) (eF (tV (a8 c) c E f) (eF (tC (.ty T)) iC)))):PD X c E e (e1 (jI T) f):=PE.imp h fun σ H Q g=>by
 obtain ⟨ρ,F,ab,k⟩:=g
 refine ⟨ρ,F,ab,(Rk.bind k).imp fun x _ q v d H1 s1 b=>?_⟩
 show aBG c T [v,.ty T] H1 Q
 cases x with
 | dict _=>exact q.elim
 | none=>exact ⟨d,_,v,_,rfl,s1.fh,b,rfl,fun w a H' s r=>Rk.ok q w a H' (s1.trans s) r⟩
 | bool _=>exact ⟨d,_,v,_,rfl,s1.fh,b,rfl,fun w a H' s r=>Rk.ok q w a H' (s1.trans s) r⟩
 | int _=>exact ⟨d,_,v,_,rfl,s1.fh,b,rfl,fun w a H' s r=>Rk.ok q w a H' (s1.trans s) r⟩
 | str _=>exact ⟨d,_,v,_,rfl,s1.fh,b,rfl,fun w a H' s r=>Rk.ok q w a H' (s1.trans s) r⟩
 | list _=>exact ⟨d,_,v,_,rfl,s1.fh,b,rfl,fun w a H' s r=>Rk.ok q w a H' (s1.trans s) r⟩
 | tuple _=>exact ⟨d,_,v,_,rfl,s1.fh,b,rfl,fun w a H' s r=>Rk.ok q w a H' (s1.trans s) r⟩
noncomputable def lO:List Dz->O9 (List Str)
 | []=>some []
 | .str s::t=>(lO t).map (s :: ·)
 | _=>none
theorem kP{K:Frag}{F:Hp}:∀ {vs:List V} {xs:List Dz} {ys:List Str},DatVs K F vs xs->lO xs=some ys->vs=ys.map V.str
 | _,_,ys,.nil,e=>by cases e;rfl
 | _,_,ys,.cons (d:=d) (ds:=t) h h2,e=>by
  cases d with
  | str b=>
   unfold lO at e
   cases q:lO t with
   | none=>rw[q] at e;cases e
   | some cs=>
    rw[q] at e
    cases e
    rw[kP h2 q,h.str_of];rfl
  | _=>cases e
noncomputable def xN:Dz->Dz->R Dz
 | .str sep,.list xs=>match lO xs with
  | some ys=>if (ys.map fun y=>y.length).sum+ys.length * sep.length<=16777216 then .ok (.str (Txt.join sep ys)) else .bad
  | none=>.bad
 | _,_=>.bad
theorem aDZ{f g:Sg->R Dz}(m:X.K=c.K)(h:PE X e (tBM X.K "str" (aCL X.K) (tV (a8 c) c E f) (eF (tV (a8 c) c E g) iC)))(n:∀ ρ x,f ρ=.ok x->∃ z,x=.str z):PD X c E e (e2 xN f g):=PE.imp h fun σ H Q ⟨ρ,F,ab,k⟩=>by
 refine ⟨ρ,F,ab,(Rk.bind k).imp fun x ex q v o H1 s1 j=>?_⟩
 obtain ⟨z,rfl⟩:=n ρ x ex
 obtain rfl:=aP.str_of j
 refine ⟨rfl,ρ,o,ab.ext s1,((Rk.bind q).ext s1).imp fun y _ q u l H2 b i=>?_⟩
 cases y with
 | list xs=>
  have a:Rk c E F H (match lO xs with
   | some ys=>if (ys.map fun y=>y.length).sum+ys.length * z.length<=16777216 then R.ok (PyData.str (Txt.join z ys)) else .bad
   | none=>.bad) (fun d=>∀ v F' H',Ext F H F' H'->cB c d v H F' H'->Q v H'):=q
  split at a
  .rename_i ys r
   split at a
   .rename_i s
    obtain ⟨p,vs,rfl,h1,h2⟩:=aP.lst_of b.fh i
    rw[<-m] at h1
    obtain rfl:=kP h2 r
    exact ⟨z,p,ys,rfl,rfl,h1,s,Rk.ok a _ l H2 (s1.trans b) (.str _)⟩
   .exact a.elim
  .exact a.elim
 | _=>exact q.elim
noncomputable def gW:Nat->List Dz->List Dz
 | _,[]=>[]
 | i,x::t=>.tuple [.int i,x]::gW (i+1) t
theorem gX:∀ (i:Nat) (xs:List Dz),(gW i xs).length=xs.length
 | _,[]=>rfl
 | i,x::t=>by rw[gW,AH,AH,gX]
theorem oC:∀ (k i:Nat) (xs:List Dz),(gW k xs)[i]? = (xs[i]?).map fun x=>.tuple [.int ((k+i:Nat):Int),x]
 | k,i,[]=>by simp[gW]
 | k,0,x::t=>by simp[gW]
 | k,i+1,x::t=>by rw[gW,AB,AB,oC,show k+1+i=k+(i+1) by omega]
noncomputable def r6:Dz->R (List Dz)
 | .list xs=>if xs.length<=16777216 then .ok (gW 0 xs) else .bad
 | .str z=>if z.cps.toList.length<=16777216 then .ok (gW 0 (z.cps.toList.map fun u=>.str ⟨#[u]⟩)) else .bad
 | _=>.bad
theorem aBH{K:Frag}{F B:Hp}{a:Az}{vs:List V}{xs:List Dz}(j:xs.length<=16777216)(c:∀ H1,aH F H1->aH B H1->SqL K H1 a vs)(f:DatVs K F vs xs):Yld K (Ite K a) F B (gW 0 xs) where
 len:=by rw[dD,gX];exact j
 go:=fun i h H1 h1 h2 b hi=>by
  rw[gX] at hi
  exact ⟨vs,vs[i]'(by rw[f.length];exact hi),c H1 (fun x o z=>h2 x o (h1 x o z)) b,by simp⟩
 yld:=fun i h H1 v H2 x h1 h2 b y e=>by
  obtain ⟨p,w,g,rfl,rfl,y⟩:=y
  have q:=y vs (c _ (fun x o z=>h2 x o (h1 x o z)) b)
  obtain ⟨d,e2,r⟩:=f.get q
  rw[oC,e2] at e
  cases e
  refine ⟨_,Ext.new h2 g,.tup (SqT.of aS) (.cons ?_ (.cons ((r.same h1).same (aH.upd (bS h2 g))) .nil))⟩
  rw[EZ];exact .int _
 stop:=fun h H1 h1 h2 b=>⟨vs,c H1 (fun x o z=>h2 x o (h1 x o z)) b,by rw[f.length,gX];exact AI _⟩
theorem zG{K:Frag}{F B:Hp}{z:Str}(d:z.cps.toList.length<=16777216):Yld K (Ity z) F B (gW 0 (z.cps.toList.map fun u=>.str ⟨#[u]⟩)) where
 len:=by rw[dD,gX,AQ];exact d
 go:=fun i b H1 h1 h2 a hi=>by
  rw[gX,AQ,BN] at hi
  exact hi
 yld:=fun i b H1 v H2 x h1 h2 a y e=>by
  obtain ⟨p,u,c,rfl,rfl,f⟩:=y
  rw[oC,BC,DG,f] at e
  cases e
  refine ⟨_,Ext.new h2 c,.tup (SqT.of aS) (.cons ?_ (.cons (.str _) .nil))⟩
  rw[EZ];exact .int _
 stop:=fun b H1 h1 h2 a=>by
  show (gW 0 _).length=z.cps.size
  rw[gX,AQ,BN]
theorem aGI{tg:E1}{f:Sg->R Dz}(j:X.K=c.K)(h:PI X tg e (aCF X.K (eF (tV (cB c) c E f) iC)))(h':PI X tg e (yR (eF (tV (cB c) c E f) iC))):PI0 X c E tg e (e1 r6 f):=PI.imp (PI.or h h') fun σ H Q ⟨ρ,F,ab,k⟩=>by
 have a:=Rk.bind k
 cases b:f ρ with
 | bad=>rw[b] at a;exact a.elim
 | ex x=>rw[b] at a;exact .inl ⟨ρ,F,ab,by rw[b];exact a⟩
 | ok d=>
  rw[b] at a
  have k2:=Rk.ok a
  unfold r6 at k2
  split at k2
  .rename_i xs
   split at k2
   .rename_i i
    refine .inl ⟨ρ,F,ab,?_⟩
    rw[b]
    intro v g H' s r
    obtain ⟨p,vs,rfl,h1,h2⟩:=DatV.lst_of r
    refine ⟨p,rfl,⟨vs,?_⟩,?_⟩
    · rw [j]; exact h1.same s.fh
    · rw [j]; exact Rk.ok k2 _ g H' s (aBH i (fun H1 q _ => h1.same q) h2)
   .exact k2.elim
  .rename_i z
   split at k2
   .rename_i i
    refine .inr ⟨ρ,F,ab,?_⟩
    rw[b]
    intro v g H' s r
    obtain rfl:=DatV.str_of r
    exact ⟨z,rfl,Rk.ok k2 _ g H' s (zG i)⟩
   .exact k2.elim
  .exact k2.elim
end
noncomputable def iQ(kvs:List (Dz×Dz))(k:Dz):O9 Dz:=(kvs.find? fun p=>decide (p.1=k)).map (·.2)
noncomputable def fN(kvs:List (Dz×Dz))(k:Dz):Bool:=(iQ kvs k).isSome
noncomputable def putM(kvs:List (Dz×Dz))(k v:Dz):List (Dz×Dz):=if fN kvs k=true then kvs.map (fun p=>if p.1=k then (p.1,v) else p) else kvs++[(k,v)]
theorem v4{K:Frag}{F:Hp}{k:Dz}:∀ {es:List Ent} {kvs:List (Dz×Dz)},es.map (·.1)=kvs.map (·.1)->DatVs K F (es.map (·.2.2)) (kvs.map (·.2))->
  (atE es k=none/\iQ kvs k=none)\/∃ v d,atE es k=some v/\iQ kvs k=some d/\DatV K F v d
 | [],[],_,_=>.inl ⟨rfl,rfl⟩
 | [],_::_,h,_=>by cases h
 | _::_,[],h,_=>by cases h
 | e::es,p::kvs,h,r=>by
  rw[AJ,AJ] at h r
  injection h with h1 h2
  obtain ⟨v,t,e1,r1,r2⟩:=r.cons_of
  rw[DN] at e1
  obtain ⟨rfl,rfl⟩:=e1
  have a:=v4 (k:=k) h2 r2
  unfold atE iQ at a ⊢
  rw[CJ,CJ,h1]
  by_cases q:p.1=k
  · rw [BZ q]; exact .inr ⟨_, _, rfl, rfl, r1⟩
  · rw [BH q]; exact a
theorem MapRel.get{K:Frag}{F:Hp}{es:List Ent}{a:List (Dz×Dz)}(m:MapRel K F es a)(k:Dz):(atE es k=none/\iQ a k=none)\/∃ v d,atE es k=some v/\iQ a k=some d/\DatV K F v d:=v4 m.k1 m.vs
theorem MapRel.has{K:Frag}{F:Hp}{es:List Ent}{c:List (Dz×Dz)}(m:MapRel K F es c)(k:Dz):(atE es k).isSome=fN c k:=by
 unfold fN
 rcases m.get k with ⟨a,b⟩|⟨v,d,a,b,_⟩<;>rw[a,b]<;>rfl
theorem aBI{a:List (Dz×Dz)}{k:Dz}:fN a k=true↔k∈a.map (·.1):=by
 unfold fN iQ
 rw[EO]
 induction a with
 | nil=>simp
 | cons p t ih=>
  rw[CJ]
  by_cases q:p.1=k
  .rw[BZ q];simp[q]
  .rw[BH q,ih,AJ]
   exact ⟨fun z=>AL _ z,fun z=>(AT.mp z).resolve_left (fun w=>q w.symm)⟩
theorem zH{a:List (Dz×Dz)}{k v:Dz}:(putM a k v).map (·.1)=if fN a k=true then a.map (·.1) else a.map (·.1)++[k]:=by
 unfold putM
 cases h:fN a k with
 | true=>
  rw[AK rfl,AK rfl,List.map_map]
  refine List.map_congr_left fun p _=>?_
  show (if p.1=k then (p.1,v) else p).1=p.1
  split<;>rfl
 | false=>rw[AM (by decide),AM (by decide),BW];rfl
theorem v5{K:Frag}{F:Hp}{k d:Dz}{v:V}(r:DatV K F v d):∀ {es:List Ent} {kvs:List (Dz×Dz)},es.map (·.1)=kvs.map (·.1)->DatVs K F (es.map (·.2.1)) (kvs.map (·.1))->DatVs K F (es.map (·.2.2)) (kvs.map (·.2))->
  (es.map fun e=>if e.1=k then (e.1,e.2.1,v) else e).map (·.1)=(kvs.map fun p=>if p.1=k then (p.1,d) else p).map (·.1) /\
  DatVs K F ((es.map fun e=>if e.1=k then (e.1,e.2.1,v) else e).map (·.2.1)) ((kvs.map fun p=>if p.1=k then (p.1,d) else p).map (·.1)) /\
  DatVs K F ((es.map fun e=>if e.1=k then (e.1,e.2.1,v) else e).map (·.2.2)) ((kvs.map fun p=>if p.1=k then (p.1,d) else p).map (·.2))
 | [],[],_,_,_=>⟨rfl,.nil,.nil⟩
 | [],_::_,h,_,_=>by cases h
 | _::_,[],h,_,_=>by cases h
 | e::es,p::kvs,h,rk,rv=>by
  rw[AJ,AJ] at h rk rv
  injection h with h1 h2
  obtain ⟨_,_,e1,r1,r2⟩:=rk.cons_of
  rw[DN] at e1
  obtain ⟨rfl,rfl⟩:=e1
  obtain ⟨_,_,e1,g,c⟩:=rv.cons_of
  rw[DN] at e1
  obtain ⟨rfl,rfl⟩:=e1
  obtain ⟨f,a,b⟩:=v5 r h2 r2 c
  simp only[AJ]
  rw[h1,f]
  by_cases q:p.1=k
  · rw [AK q, AK q]; exact ⟨rfl, .cons r1 a, .cons r b⟩
  · rw [AM q, AM q]; exact ⟨by rw [h1], .cons r1 a, .cons g b⟩
theorem MapRel.put{K:Frag}{F:Hp}{es:List Ent}{c:List (Dz×Dz)}{k d:Dz}{kv v:V}(m:MapRel K F es c)(f:DatV K F kv k)(r:DatV K F v d):MapRel K F (mG es k kv v) (putM c k d):=by
 have j:=m.has k
 have nd:((putM c k d).map (·.1)).Nodup:=by
  rw[zH]
  cases h:fN c k with
  | true=>rw[AK rfl];exact m.nd
  | false=>
   rw[AM (by decide),List.nodup_append]
   refine ⟨m.nd,by simp,fun a l b e z=>?_⟩
   rw[BA] at e
   subst e z
   rw[aBI.mpr l] at h
   cases h
 unfold mG
 rw[j]
 unfold putM at nd ⊢
 cases h:fN c k with
 | true=>
  rw[h,AK rfl] at nd
  rw[AK rfl,AK rfl]
  obtain ⟨i,g,n⟩:=v5 (k:=k) r m.k1 m.k2 m.vs
  exact ⟨i,g,n,nd⟩
 | false=>
  rw[h,AM (by decide)] at nd
  rw[AM (by decide),AM (by decide)]
  refine ⟨by rw[BW,BW,m.k1];rfl,?_,?_,nd⟩
  .rw[BW,BW];exact m.k2.append (.cons f .nil)
  .rw[BW,BW];exact m.vs.append (.cons r .nil)
theorem mM{K:Frag}{F:Hp}:∀ {es:List Ent} {kvs:List (Dz×Dz)},es.map (·.1)=kvs.map (·.1)->DatVs K F (es.map (·.2.1)) (kvs.map (·.1))->∀ e∈es,DatV K F e.2.1 e.1
 | [],_,_,_,e,he=>by cases he
 | _::_,[],h,_,_,_=>by cases h
 | e0::es,p::kvs,h,rk,e,he=>by
  rw[AJ,AJ] at h rk
  injection h with h1 h2
  obtain ⟨_,_,e1,r1,r2⟩:=rk.cons_of
  rw[DN] at e1
  obtain ⟨rfl,rfl⟩:=e1
  rcases AT.mp he with z|z
  · subst z; rw [h1]; exact r1
  · exact mM h2 r2 e z
section
variable{X:Cx}{c:Ct}{E:XK}{e a b:E1}{st:Stmt}{pos:Pos}
theorem aCQ{ρ:Sg}{σ:L2.St}{F H:Hp}{i:Nat}{a:List (Dz×Dz)}{k:Dz}{kv:V}(d:X.K=c.K)(g:X.w=c.w)(ab:Ab c ρ σ F H)(hi:ρ[i]? = some (some (.m a)))(l:DatV c.K F kv k)(h:dY k (a.map (·.1))=true) :
  ∃ p es,σ[i]? = some (some (.ref p))/\DicAt X H p es k kv/\MapRel c.K F es a:=by
 obtain ⟨v,f,p,es,rfl,⟨j,h2⟩,o,q,b⟩:=ab.slot i _ hi
 refine ⟨p,es,f,⟨⟨j,by rw[g];exact h2⟩,fun e n=>by rw[d];exact (mM b.k1 b.k2 e n).same ab.fh,by rw[b.k1];exact b.nd,by rw[d];exact l.same ab.fh,by rw[b.k1];exact h⟩,b⟩
theorem aGJ{ρ:Sg}{σ:L2.St}{F H:Hp}{i:Nat}{a:List (Dz×Dz)}{k:Dz}{kv:V}(d:X.K=c.K)(j:X.w=c.g.w)(ab:Ab c ρ σ F H)(hi:ρ[i]? = some (some (.f a)))(n:DatV c.K F kv k)(l:dY k (a.map (·.1))=true) :
  ∃ p es,σ[i]? = some (some (.ref p))/\DicAt X H p es k kv/\MapRel c.K F es a:=by
 obtain ⟨v,h,p,es,rfl,⟨m,h2⟩,b⟩:=ab.slot i _ hi
 refine ⟨p,es,h,⟨⟨m,by rw[j];exact ab.fh _ _ h2⟩,fun e o=>by rw[d];exact (mM b.k1 b.k2 e o).same ab.fh,by rw[b.k1];exact b.nd,by rw[d];exact n.same ab.fh,by rw[b.k1];exact l⟩,b⟩
def aCR(w:W9):TE:=fun _ H Q=>∀ p,H p=none->Q (.ref p) (upd H p (iO w p [] 0))
theorem aD0:PE X (.Dict [] [] pos) (aCR X.w):=fun pins s σ H Q I h=>
 wpAny_Dict_empty ⟨.ref s.heap.objs.size,_,I.laid (a:=s.heap.objs.size) (o:=iO X.w s.heap.objs.size [] 0) (t':=s.toks) (fun _ _ q=>AE _ q) (AI _)
  (pV (C5.mpr (BO (A3 I.big))) ⟨_,#[],A7 _ rfl,⟨rfl,rfl,rfl⟩,rfl,.nil⟩),rfl,h _ (I.hok.fresh (AI _))⟩
noncomputable def xO(i:Nat):Sg->R Fw:=fun ρ=>.ok (.nx (ρ.set i (some (.m []))))
theorem aD1{i:Nat}{w:W9}(b:w=c.w)(h:PS X st (kI (aCR w) (iY i))):PSf X c E st (xO i):=PS.imp h fun D σ H ⟨ρ,F,ab,k⟩=>fun p a=>by
 subst b
 exact Rk.ok k _ F _ (bR F) (ab.setM (Ext.own ab.fh a) a aS (bS ab.fh a) ⟨rfl,.nil,.nil,List.nodup_nil⟩)
noncomputable def xP(neg:Bool)(i:Nat)(f:Sg->R Dz):Sg->R Dz:=fun ρ=>(f ρ).bind fun k=>match ρ[i]? with
 | some (some (.m kvs))=>if dY k (kvs.map (·.1))=true then .ok (.bool (if neg=true then !fN kvs k else fN kvs k)) else .bad
 | some (some (.f kvs))=>if dY k (kvs.map (·.1))=true then .ok (.bool (if neg=true then !fN kvs k else fN kvs k)) else .bad
 | _=>.bad
def aBJ(X:Cx)(neg:Bool):R2:=fun y x H Q=>∃ p es k,x=.ref p/\DicAt X H p es k y/\Q (.bl (if neg=true then !(atE es k).isSome else (atE es k).isSome)) H
theorem aD2(d:X.A.units+64 < cLine):OpR X (compareOp .In) (aBJ X false):=by
 intro pins s σ H y x v u Q I b c h
 obtain ⟨p,es,k,rfl,D,q⟩:=h
 cases (show u=Value.ref p from c)
 exact aGC d D I b fun s' a=>⟨.bl _,H,a,rfl,q⟩
theorem aBK{i:Nat}{a:Bool}{f:Sg->R Dz}(n:X.K=c.K)(o:X.w=c.w)(s:c.w=c.g.w){σ:L2.St}{H:Hp}{Q:VK}(h:tV (cB c) c E (xP a i f) σ H Q):tOp (aBJ X a) (tV (cB c) c E f) (gR i) σ H Q:=by
 obtain ⟨ρ,F,ab,k⟩:=h
 refine ⟨ρ,F,ab,(Rk.bind k).imp fun d _ q v r H1 s1 l=>?_⟩
 split at q
 .rename_i j hi
  split at q
  .rename_i e
   obtain ⟨p,es,b,D,m⟩:=aCQ n o (ab.ext s1) hi l e
   refine ⟨_,b,p,es,d,rfl,D,?_⟩
   rw[m.has]
   exact Rk.ok q _ r H1 s1 (.bl _)
  .exact q.elim
 .rename_i j hi
  split at q
  .rename_i e
   obtain ⟨p,es,b,D,m⟩:=aGJ n (o.trans s) (ab.ext s1) hi l e
   refine ⟨_,b,p,es,d,rfl,D,?_⟩
   rw[m.has]
   exact Rk.ok q _ r H1 s1 (.bl _)
  .exact q.elim
 .exact q.elim
theorem aGK{i:Nat}{a:Bool}{f:Sg->R Dz}(d:X.K=c.K)(j:X.w=c.w)(h:PT X e (aCD (tOp (aBJ X a) (tV (cB c) c E f) (gR i))))(b:c.w=c.g.w:=by rfl):PTf X c E e (e1 asB (xP a i f)):=PT.imp h fun σ H Q q=>aBK d j b (pZ q)
noncomputable def aH4(i:Nat)(f:Sg->R Dz):Sg->R Dz:=fun ρ=>match ρ[i]? with
 | some (some (.m kvs))=>(f ρ).bind fun k=>if dY k (kvs.map (·.1))=true then match iQ kvs k with
  | some v=>.ok v
  | none=>.bad else .bad
 | some (some (.f kvs))=>(f ρ).bind fun k=>if dY k (kvs.map (·.1))=true then match iQ kvs k with
  | some v=>.ok v
  | none=>.bad else .bad
 | _=>.bad
noncomputable def xQ(i:Nat)(f g:Sg->R Dz):Sg->R Fw:=fun ρ=>(g ρ).bind fun v=>match ρ[i]? with
 | some (some (.m kvs))=>(f ρ).bind fun k=>if dY k (kvs.map (·.1))=true/\kvs.length<=16777216 then .ok (.nx (ρ.set i (some (.m (putM kvs k v))))) else .bad
 | _=>.bad
def aCS(X:Cx):wI:=fun o i v H Q=>∃ p es k,o=.ref p/\DicAt X H p es k i/\es.length<=sizeLine/\∀ ep,Q (upd H p (iO X.w p (mG es k i v) ep))
theorem aBL(j:X.A.units+64 < cLine):aFG X (aCS X):=by
 intro pins s σ H o i v c l u Q I g b a h
 obtain ⟨p,es,k,rfl,D,f,q⟩:=h
 cases (show c=Value.ref p from g)
 exact aDU j D I b a f fun e s' d=>⟨_,d,q e⟩
theorem aD3{i:Nat}{f g:Sg->R Dz}(C:X.K=c.K)(s:X.w=c.w)(h:PS X st (kI (tV (cB c) c E g) (aFI (gR i) (tV (cB c) c E f) (aCS X)))):PSf X c E st (xQ i f g):=PS.imp h fun D σ H ⟨ρ,F,ab,k⟩=>by
 refine ⟨ρ,F,ab,(Rk.bind k).imp fun x _ q v A H1 s1 y=>?_⟩
 split at q
 .rename_i o hi
  have a:=ab.ext s1
  obtain ⟨_,n,p,es,rfl,_⟩:=a.slot i _ hi
  refine ⟨_,n,ρ,A,a,((Rk.bind q).ext s1).imp fun d _ q u B H2 l t=>?_⟩
  have j:=a.ext l
  split at q
  .rename_i r
   obtain ⟨G,e,b,z,m⟩:=aCQ C s j hi t r.1
   rw[n] at b
   cases b
   refine ⟨p,e,d,rfl,z,?_,?_⟩
   .have:e.length=o.length:=by have:=D2 List.length m.k1;simpa using this
    rw[this,dD];exact r.2
   .intro I
    rw[s]
    exact Rk.ok q σ B _ (s1.trans l).ff (j.putM hi n (m.put t (DatV.same l.ff y)))
  .exact q.elim
 .exact q.elim
end
section
variable{X:Cx}{c:Ct}{E:XK}{e a b:E1}{st:Stmt}{pos p2:Pos}
def aI8(fs:Dz->Sg->O9 Sg)(f:Sg->R Dz):Sg->R Fw:=fun ρ=>(f ρ).bind fun x=>(tX (fs x ρ)).bind fun ρ'=>.ok (.nx ρ')
noncomputable def aGL:Dz->R Dz
 | .str z=>if z.length<=16777216 then .ok (.str ⟨z.cps.toList.reverse.toArray⟩) else .bad
 | _=>.bad
def aI9(f:Sg->R Dz)(g:Sg->R (O9 Int)):Sg->R Dz:=fun ρ=>(f ρ).bind fun x=>(g ρ).bind fun o=>if o=some (-1) then aGL x else .bad
end
theorem aGM{P:P9}{w:W9}{K:Frag}{mg:Str->O9 V9}{base:H9}{T:Hp}{x:Str}{st:Stmt}{N ps:List Str}{k:Nat}{f:Az}{fd:FuncData}{fb:Sg->R Fw}(g:Fun K x x st f fd)(S:FnScope N ps (aC st))
  (a:∀ (cdv:V9) (A:U9) (outer:List Env) (s:S9) (H F:Hp) (E:XK),Room k (A.deeper (envOfC x (aC st) s.heap.objs.size f cdv))->
   iF ((dS (CXe P w) P w K mg base N x (aC st) f cdv A outer s H E).fly E) ⟨K,mg,w,F,H,gOf P w K mg base T,(envOfC x (aC st) s.heap.objs.size f cdv).cells,fun _=>none⟩ E (bD st) fb):FnOk P w K mg base (CXe P w) (k+1) f fd ps (spF (gOf P w K mg base T) K mg ps.length (fnF N.length fb)):=by
 refine g.okX S (fun vs H Q E h=>?_) (fun cdv A outer s H vs Q E e h=>?_)
 .obtain ⟨F,i,_,_,h2,b,_⟩:=h
  rw[h2.len,b]
 .obtain ⟨F,i,d,h1,h2,b,c⟩:=h
  exact ⟨_,a cdv A outer s H F E e,kT d h1 h2 c⟩
def xR(K:Frag)(T:Hp):Sp:=fun vs H Q _=>∃ (a:Az) (ns:List Int),vs=[.ref a]/\ns.length<=63/\aH T H/\SqL K H a (ns.map V.int)/\∀ H',Q (.bl true) H'
theorem t5{K:Frag}{H:Hp}:∀ (ns:List Int),DatVs K H (ns.map V.int) (ns.map PyData.int)
 | []=>.nil
 | n::t=>.cons (.int n) (t5 t)
theorem aGN{P:P9}{w:W9}{K:Frag}{mg:Str->O9 V9}{base:H9}{T:Hp}{k:Nat}{f:Az}{fd:FuncData}{x:Str}{G:List A->R A}(h:FnOk P w K mg base (CXe P w) k f fd [x] (spF (gOf P w K mg base T) K mg 1 G))
  (b:∀ ns:List Int,ns.length<=63->G [.d (.list (ns.map .int))]=.ok (.d (.bool true))):FnOk P w K mg base (CXe P w) k f fd [x] (xR K T):=h.imp fun vs H Q E=>by
 rintro ⟨a,ns,rfl,hn,ht,hs,q⟩
 refine ⟨H,[.d (.list (ns.map .int))],ht,bR H,⟨.lst hs (t5 ns),trivial⟩,rfl,?_⟩
 rw[b ns hn]
 intro v c H' _ r
 obtain rfl:=DatV.bl_of r
 exact q H'
theorem aH5(P:P9)(w:W9)(H:Hp)(s:S9)(e:V9)(s':S9)(h:CXe P w [] H s (fun _ _ _=>False) e s'):False:=by
 obtain ⟨_,_,_,_,_,_,_,_,_,_,_,q⟩:=h
 exact q
theorem aD4{l:PySem.W.OpenLaw}{k:Nat}{q:P9}{b:List Str}{m:(Str->O9 V9)->H9->Prop}{j:W9->H9->Prop}{d:DefRec}{K:Params->Frag}{x:Str}{qs:List (Pos×Str)}{xs:List Str}
  (c:∀ x∈xs,∃ d∈recsOf q,d.name=x) (hNT:∀ w:W9,PySem.W.noTabs (K w.params)=true)
  (v:l.most=some 63) (i:d.params.defaults=[]) (o:Room k callerA)
  (n:∀ (w:W9) (h:H9),j w h->(K w.params).In h)
  (F:∀ (w:W9) (mg:Str->O9 V9) (fa:Az) (h:H9),(K w.params).In h->h.Ns mainGlobals mg->mg d.name=some (.ref fa)->
   ∃ fd:FuncData,(∀ (s:S9) (u:V9),BindsTo s fd ⟨[u],[]⟩ [(x,u)]) /\
    ∀ (base:H9) (T:Hp),(K w.params).In base->base.Ns mainGlobals mg->tF mg h base T qs xs->FnOk l.prog w (K w.params) mg base (CXe l.prog w) k fa fd [x] (xR (K w.params) T)) :
  PySem.W.WalkO q b m j l.row.toRowW d [] (fun f vs=>PySem.call f vs):=
 walk_ofT (K:=K) (CX:=fun w=>CXe l.prog w) (qs:=qs) (xs:=xs) c hNT v (by decide) i o n (fun w mg fa h h1 h2 g=>by
  obtain ⟨fd,A,r⟩:=F w mg fa h h1 h2 g
  exact ⟨fd,A,fun base T h1 h2 g=>⟨_,r base T h1 h2 g,fun H a y t p B=>⟨a,y,rfl,t,p,B,fun _=>rfl⟩⟩⟩) fun w H s e s' z=>aH5 _ w H s e s' z
variable{X:Cx}{c:Ct}{E:XK}{e:E1}
noncomputable def d2(G:Int->Int->Int):Dz->Dz->R Dz
 | .int i,.int j=>.ok (.int (G i j))
 | _,_=>.bad
noncomputable def d1(G:Int->Int):Dz->R Dz
 | .int i=>.ok (.int (G i))
 | _=>.bad
noncomputable def t6(i j:Int):Int:=if j > i then j else i
noncomputable def iR(i j:Int):Int:=if j < i then j else i
theorem t7{G:Int->Int->Int}{f g:Sg->R Dz}(h0:PE X e (tCB (fun xs H Q=>∃ i j,xs=[.int i,.int j]/\Q (.int (G i j)) H) (eF (tV (a8 c) c E f) (eF (tV (a8 c) c E g) iC)))):PD X c E e (e2 (d2 G) f g):=PE.imp h0 fun σ H Q a=>by
 obtain ⟨ρ,F,ab,k⟩:=a
 refine ⟨ρ,F,ab,(Rk.bind k).imp fun x ex q v l H1 s1 d=>?_⟩
 refine ⟨ρ,l,ab.ext s1,((Rk.bind q).ext s1).imp fun y _ q u h H2 b m=>?_⟩
 cases x with
 | int i=>
  cases y with
  | int j=>
   obtain rfl:=aP.int_of d
   obtain rfl:=aP.int_of m
   exact ⟨i,j,rfl,Rk.ok q _ h H2 (s1.trans b) (.int _)⟩
  | _=>exact q.elim
 | _=>exact q.elim
end Fl
namespace L2
open PySem PyProof.Rows
variable{X:Cx}
end L2
namespace Fl
open PySem L2 PyProof.Rows
variable{X:Cx}{c:Ct}{E:XK}{e:E1}
variable{X:Cx}{c:Ct}{E:XK}{e:E1}{st:Stmt}
def mN:Sg->R Fw:=fun _=>.bad
theorem pL{H:Hp}{p:Az}{a b:HO}:upd (upd H p a) p b=upd H p b:=by
 funext x
 by_cases q:x=p
 · subst q; rw [aS, aS]
 · rw [aE q, aE q, aE q]
abbrev TP:=L2.St->Hp->(List (V×V)->Hp->Prop)->Prop
def aJA(p:V×V)(u:V9×V9):Prop:=aU p.1 u.1/\aU p.2 u.2
def PPr(X:Cx)(keys:List (O9 E1))(vals:List E1)(t:TP):Prop:=∀ (pos:Pos) (pins:List (Az×Obj)) (s:S9) (σ:L2.St) (H:Hp) (Q:List (V×V)->Hp->Prop),Inv X pins σ H s->t σ H Q->
 wpAny (model X.prog X.w) X.A (evalPairs (pairTrees keys vals X.env pos)) (fun vs s'=>∃ ps H',Inv X pins σ H' s'/\Paired aJA ps vs/\Q ps H') X.xe s
section
variable{X:Cx}{c:Ct}{E:XK}{e a b:E1}{st:Stmt}{pos:Pos}
noncomputable def t8:List (Dz×Dz)->List (Dz×Dz)->R (List (Dz×Dz))
 | acc,[]=>.ok acc
 | acc,(k,v)::t=>if dY k (acc.map (·.1))=true/\acc.length<=16777216 then t8 (putM acc k v) t else .bad
theorem PPr.imp{X:Cx}{ks:List (O9 E1)}{vs:List E1}{t t':TP}(h:PPr X ks vs t)(i:∀ σ H Q,t' σ H Q->t σ H Q):PPr X ks vs t':=fun pos pins s σ H Q I q=>h pos pins s σ H Q I (i σ H Q q)
noncomputable def aJB:Sg->R (List (Dz×Dz)):=fun _=>.ok []
def aH6(f g:Sg->R Dz)(r:Sg->R (List (Dz×Dz))):Sg->R (List (Dz×Dz)):=fun ρ=>(f ρ).bind fun x=>(g ρ).bind fun y=>(r ρ).bind fun t=>.ok ((x,y)::t)
noncomputable def aH7(i:Nat)(f:Sg->R (List (Dz×Dz))):Sg->R Fw:=fun ρ=>(f ρ).bind fun kvs=>(t8 [] kvs).bind fun res=>.ok (.nx (ρ.set i (some (.m res))))
end
section
variable{X:Cx}{c:Ct}{E:XK}{e a b:E1}{st:Stmt}{pos:Pos}
noncomputable def aGO(i:Nat)(f g:Sg->R Dz):Sg->R Dz:=fun ρ=>match ρ[i]? with
 | some (some (.m kvs))=>(f ρ).bind fun k=>(g ρ).bind fun y=>if dY k (kvs.map (·.1))=true then .ok ((iQ kvs k).getD y) else .bad
 | _=>.bad
end
end Fl
namespace L2
open PySem PySem.Spec PyProof.Rows
def qE(X:Cx)(σ0:St)(E:XK)(ev:V9)(s':S9):Prop:=∃ e C od H',ev=.ref e/\Inv X [] σ0 H' s'/\FlyAt X H' s'.heap e C od false/\E (.ref C) (some e) H'
abbrev Cx.flyS(X:Cx)(σ0:St)(E:XK):Cx:=X.wish (qE X σ0 E)
section
variable{X:Cx}
theorem aH8{E:XK}{σ:St}{pins:List (Az×Obj)}{H:Hp}{s:S9}{g:V9}{s':S9}(I:Inv (X.flyS σ E) pins σ H s)(h:CXe X.prog X.w X.stack H s E g s'):qE X σ E g s':=by
 obtain ⟨e,C,od,H',rfl,os,a,un,f,o,⟨vs,T,m,l,r⟩,q⟩:=h
 have c:Inv X pins σ H s:=I.unwish
 have n:Inv X [] σ H s:=c.pins_of fun p d=>absurd d (by simp)
 have k:Inv X [] σ H' s':=n.call' os un f a (fun b u=>absurd u (by simp))
 refine ⟨e,C,od,H',rfl,k,⟨o,vs,T,m,l,fun t e1=>?_,fun z=>nomatch z⟩,q⟩
 obtain ⟨j,i⟩:=r t e1
 refine ⟨j,A4 c.sz i,fun p d z=>?_⟩
 have:=AG (c.pin p (CH _ d)).1
 rw[z] at this
 exact absurd (AN this i) (BF _)
theorem aD5{CX:CXT}{k:Nat}{f:Az}{fd:FuncData}{ps:List Str}{sp:Sp}{E:XK}{pins:List (Az×Obj)}{σ:St}{H:Hp}{s:S9}{Q:VK}{us:List V9}{vs:List V}{W:V9->S9->Prop}(F:FnOk X.prog X.w X.K X.mg X.base CX k f fd ps sp)(c:Room k X.A)(d:cU X.K fd ps [])
  (hx:∀ e s',CX X.stack H s E e s'->W e s') (I:Inv X pins σ H s) (r:aW vs us) (h:sp (vs++[]) H Q E):wpAny (model X.prog X.w) X.A (call (.ref f) us) (EP X pins σ Q) W s:=by
 have b:aW (vs++[]) (us++[]):=r.append .nil
 have g:(us++[]).length=ps.length:=by rw[<-b.length];exact F.len _ _ _ _ h
 refine DT (DO (F.run X.A X.stack s H ⟨us,[]⟩ (us++[]) (vs++[]) Q E c I.env0 (d s us I.kIn g) b h) fun r s' a=>?_)
 cases r with
 | error e=>exact hx e s' a
 | ok fl=>
  cases fl with
  | ret u=>exact I.after a
  | next=>exact False.elim a
  | brk=>exact False.elim a
  | cont=>exact False.elim a
def PCl(X:Cx)(σ:St)(E:XK)(e:E1)(t:TE):Prop:=∀ (pins:List (Az×Obj)) (s:S9) (H:Hp) (Q:VK),Inv (X.flyS σ E) pins σ H s->t σ H Q->wpAny (model X.prog X.w) X.A (eval e X.env) (EP (X.flyS σ E) pins σ Q) (qE X σ E) s
theorem zI{k:Nat}{x:Str}{ps:List Str}{sp:Sp}{E:XK}{σ:St}{e:E1}{es:List E1}{t:TA}{p pos:Pos}(C:Calls X.prog X.w X.K X.mg X.base (CXe X.prog X.w) k x ps sp)(g:Room k X.A)(d:Gl X x)(i:PA (X.flyS σ E) (e::es) t)(a:(x == ("__debug__":Str))=false:=by decide)
  (he:starEach (e::es) X.env=(false,eval e X.env)::starEach es X.env:=by rfl) (hpl:(backTo pos (starEach es X.env)).any (·.1)=false:=by rfl):PCl X σ E (.Call (.Name x p) (e::es) [] pos) (m8 sp [] E t):=by
 obtain ⟨f,fd,F,b,m,j⟩:=C
 intro pins s H Q I h
 refine CO (kL (X:=X.flyS σ E) I d m ?_ a)
 refine DP (h₀:=X.base) I.ok.mod.kin j (thn (i pos pins s σ H _ I h) fun us s1 ⟨vs,H1,c,r,q⟩=>⟨c.kIn,?_⟩) he hpl
 exact aD5 (X:=X.flyS σ E) F g b (fun e s' z=>aH8 c z) c r q
theorem aH9{i:Nat}{n x:Str}{Wc:Az}{M:List V9}{body c:List Stmt}{P:Stmt}{np d pos:Pos}(U:j5 X)(o:X.N.Nodup)(hi:X.N[i]? = some n)(l:X.env.scope.names.lookup n=some .local)
  (W:Gl X x) (Y:X.mg x=some (.ref Wc)) (hw:SX.ExcAny X.K Wc M) (B:(x == ("__debug__":Str))=false) {pins:List (Az×Obj)} {s:S9} {σ:St} {H:Hp} {D:gY} {E:XK} (I:Inv X pins σ H s)
  (hb:wpAny (model X.prog X.w) X.A (execs body X.env) (fun f s1=>SP X pins D f s1) (qE (X.pnw (X.pn++pins)) σ E) s)
  (hh:∀ (C e:Az) (H':Hp),(∃ od,H' e=some (ExO e C od))->E (.ref C) (some e) H'->∃ bm,SX.ExcAny X.K C bm/\(Value.ref C::bm).contains (.ref Wc)=true /\
   ∃ ts,PSs (X.inH e) (P::c) ts/\ts {nx:=fun b H2=>D.nx (b.set i none) H2,rt:=D.rt,bk:=fun b H2=>D.bk (b.set i none) H2,ct:=fun b H2=>D.ct (b.set i none) H2} (σ.set i (some (.ref e))) H') :
  wpAny (model X.prog X.w) X.A (exec (.Try body [.ExceptHandler (some (.Name x np)) (some n) (P::c) d] [] [] pos) X.env) (SP X pins D) X.xe s:=by
 refine wpAny_Try_except (BG hb (fun f s1 p=>?_) fun ev s1 q=>?_)
 .cases f with
  | next=>exact DB p
  | brk=>exact p
  | cont=>exact p
  | ret u=>exact p
 .obtain ⟨e,C,od,H1,rfl,V,S,q⟩:=q
  have y:j5 (X.pnw (X.pn++pins)):=U
  refine lB (X:=X.pnw (X.pn++pins)) y V S fun s3 T f3=>kO (X:=X.pnw (X.pn++pins)) T f3 fun O Q J=>?_
  have g:Inv X pins σ H1 O:=Q.ofPn
  obtain ⟨bm,cA,m,ts,r,L⟩:=hh C e H1 ⟨od,J.tr⟩ q
  refine wpAny_handleBy_cons (codeAny_handlers_test ?_) (by intro z;cases z)
  have IH:Inv (X.inH e) pins σ H1 O:=g.inH e
  refine kL (X:=X.inH e) IH W Y ?_ B
  obtain ⟨vs,hx⟩:=oX g.hok J.tr
  refine SX.uZ g.kIn cA hw hx rfl ?_
  rw[m]
  refine codeAny_handlers_suite_as ?_
  refine kO (X:=X.pnw (X.pn++pins)) Q J fun s5 Z f5=>?_
  have t:Inv X pins σ H1 s5:=Z.ofPn
  refine k7 (X:=X.inH e) (v:=.ref e) (t.inH e) o hi (.inl l) rfl (fun R I6=>?_) (.inr l)
  refine BG (r pins R _ H1 _ I6 L) (fun f s7 a=>?_) fun _ _ z=>z.elim
  show wpAny _ _ (do bindName X.env n .none;unbindBehindTheSuite X.env n d) _ _ s7
  cases f with
  | next=>
   obtain ⟨j,G,k,a⟩:=a
   exact j6 (k.ofH I.ok) o hi l fun F h=>⟨_,_,h,a⟩
  | brk=>
   obtain ⟨j,G,k,a⟩:=a
   exact j6 (k.ofH I.ok) o hi l fun F h=>⟨_,_,h,a⟩
  | cont=>
   obtain ⟨j,G,k,a⟩:=a
   exact j6 (k.ofH I.ok) o hi l fun F h=>⟨_,_,h,a⟩
  | ret u=>
   obtain ⟨v,j,G,k,r7,a⟩:=a
   exact j6 (k.ofH I.ok) o hi l fun F h=>⟨v,_,_,h,r7,a⟩
theorem zJ{e:E1}{t:TE}{E:XK}{σ:St}{pos:Pos}{pins:List (Az×Obj)}{s:S9}{H:Hp}{D:gY}(d:PCl (X.pnw (X.pn++pins)) σ E e t)(I:Inv X pins σ H s)(h:t σ H fun _ H1=>D.nx σ H1)(g:swapsWith e none pos.line X.env=pure false:=by rfl) :
  wpAny (model X.prog X.w) X.A (execs [.Expr e pos] X.env) (fun f s1=>SP X pins D f s1) (qE (X.pnw (X.pn++pins)) σ E) s:=by
 have c:=I.toPn
 have a:Inv ((X.pnw (X.pn++pins)).flyS σ E) [] σ H s:=c.wish _
 refine DJ (thn (Q:=fun f s1=>SP ((X.pnw (X.pn++pins)).flyS σ E) [] D f s1) (wpAny_Expr_any (thn (d [] s H _ a h) fun v s1 ⟨x,H1,c,j,i⟩=>⟨σ,H1,c,i⟩) a.quiet g) fun f s1 q=>?_)
 have b:=SP.ofPn q
 cases f with
 | next=>exact DB b
 | ret v=>exact b
 | brk=>exact b
 | cont=>exact b
end
end L2
namespace Fl
open PySem L2 PyProof.Rows
theorem Ab.off'{c:Ct}{ρ:Sg}{σ:L2.St}{F H:Hp}(b:Ab c ρ σ F H)(i:Nat):Ab c (ρ.set i none) (σ.set i none) F H where
 len:=by rw[B9,B9];exact b.len
 fh:=b.fh
 slot:=fun j a h=>by
  rcases get_set h with ⟨e,q,n⟩|⟨g,q⟩
  .cases q
  .obtain ⟨v,h1,h2⟩:=b.slot j a q
   exact ⟨v,by rw[A9 g];exact h1,h2⟩
 apart:=fun j k a r l h1 h2 m p=>by
  rcases get_set h1 with ⟨e,q,n⟩|⟨g,q⟩
  .cases q
  .rcases get_set h2 with ⟨s,f,o⟩|⟨d,f⟩
   .cases f
   .rw[A9 g,A9 d]
    exact b.apart j k a r l q f m p
 f0:=b.f0
 h0:=b.h0
 n0:=b.n0
 t0:=b.t0
noncomputable def aBM(i:Nat):Fw->Fw
 | .nx ρ=>.nx (ρ.set i none)
 | .bk ρ=>.bk (ρ.set i none)
 | .ct ρ=>.ct (ρ.set i none)
 | .rt a=>.rt a
noncomputable def putO(j:O9 Nat)(a:A)(ρ:Sg):Sg:=match j with
 | none=>ρ
 | some j=>ρ.set j (some a)
def qF(i:Nat)(j:O9 Nat)(n:Nat)(G:List A->R A)(f:Sg->R (List A))(cl:List Str)(fs:Sg->R Fw):Sg->R Fw:=fun ρ=>match f ρ with
 | .ok as=>if as.length=n then (match G as with
  | .bad=>.bad
  | .ok a=>.ok (.nx (putO j a ρ))
  | .ex e=>if cl.contains e.c=true then (fs (ρ.set i (some (.x e)))).bind fun w=>.ok (aBM i w) else .bad) else .bad
 | _=>.bad
def nG(K:Frag)(mg:Str->O9 V9)(Wc:Az)(cl:List Str):Prop:=∀ nm∈cl,∃ C bm,mg nm=some (.ref C)/\SX.ExcAny K C bm/\(Value.ref C::bm).contains (.ref Wc)=true
section
variable{X:Cx}{c:Ct}{E:XK}
theorem try_read{i n:Nat}{j:O9 Nat}{nx x:Str}{Wc:Az}{T:List V9}{body b:List Stmt}{V:Stmt}{np t pos:Pos}{G:List A->R A}{f:Sg->R (List A)}{cl:List Str}{fs:Sg->R Fw}(S:X.K=c.K)(L:X.mg=c.mg)
  (hO:j5 X) (hN:X.N.Nodup) (hi:X.N[i]? = some nx) (hk:X.env.scope.names.lookup nx=some .local) (hg:Gl X x) (hm:X.mg x=some (.ref Wc)) (hw:SX.ExcAny X.K Wc T) (Q:(x == ("__debug__":Str))=false)
  (M:nG X.K X.mg Wc cl)
  (hb:∀ (pins:List (Az×Obj)) (s:S9) (σ:L2.St) (H:Hp) (D:gY) (E':XK),Inv X pins σ H s->m8 (spF c.g X.K X.mg n G) [] E' (tAv c E f) σ H (fun v H1=>D.nx (match j with|none=>σ|some j=>σ.set j (some v)) H1)->wpAny (model X.prog X.w) X.A (execs body X.env) (fun f s1=>SP X pins D f s1) (qE (X.pnw (X.pn++pins)) σ E') s)
  (Z:∀ e,iF (X.inH e) c E (V::b) fs):PSf X c E (.Try body [.ExceptHandler (some (.Name x np)) (some nx) (V::b) t] [] [] pos) (qF i j n G f cl fs):=by
 intro pins s σ H D I h
 obtain ⟨ρ,F,ab,k⟩:=h
 unfold qF at k
 cases J:f ρ with
 | bad=>rw[J] at k;exact k.elim
 | ex z=>rw[J] at k;exact k.elim
 | ok as=>
  rw[J] at k
  simp only at k
  by_cases O:as.length=n
  .rw[AK O] at k
   let E':XK:=fun cv oa H'=>∃ C a e l,cv=.ref C/\oa=some a/\Ext F H l H'/\jW c.K c.mg l e a C/\G as=.ex e
   refine aH9 (E:=E') hO hN hi hk hg hm hw Q I (hb pins s σ H D E' I ?_) ?_
   .refine ⟨ρ,F,ab,?_⟩
    rw[J]
    intro vs Y H1 s1 r1
    refine ⟨Y,as,fun a o z=>s1.ff a o (ab.f0 a o (ab.t0 a o z)),s1.fh,by rw[BV,S,L];exact r1,O,?_⟩
    cases y:G as with
    | bad=>rw[y] at k;exact k
    | ok a=>
     rw[y] at k
     intro v l H' s' m
     rw[S,L] at m
     have B:=(ab.ext (s1.trans s'))
     refine Rk.ok k _ l H' (s1.trans s').ff ?_
     cases j with
     | none=>exact B
     | some j=>exact B.setA m
    | ex e=>
     intro a C l H' s' m
     rw[S,L] at m
     exact ⟨C,a,e,l,rfl,rfl,s1.trans s',m,y⟩
   .rintro C e H' ⟨od,_⟩ ⟨C',a,er,l,h1,h2,s',m,y⟩
    cases h1
    cases h2
    rw[y] at k
    simp only at k
    by_cases P:cl.contains er.c=true
    .rw[AK P] at k
     obtain ⟨C2,bm,U,ca,co⟩:=M er.c (by simpa using P)
     obtain ⟨W,_⟩:=id m
     rw[L,W] at U
     cases U
     refine ⟨bm,ca,co,_,Z e,ρ.set i (some (.x er)),l,(ab.ext s').setA ⟨e,C,rfl,m⟩,?_⟩
     have k':=(Rk.bind k).ext s'
     refine k'.imp fun w _ q=>?_
     cases w with
     | nx ρ2=>exact fun u r H2 p d=>Rk.ok q _ r H2 (fun a o z=>p a o (s'.ff a o z)) (d.off' i)
     | bk ρ2=>exact fun u r H2 p d=>Rk.ok q _ r H2 (fun a o z=>p a o (s'.ff a o z)) (d.off' i)
     | ct ρ2=>exact fun u r H2 p d=>Rk.ok q _ r H2 (fun a o z=>p a o (s'.ff a o z)) (d.off' i)
     | rt a=>exact fun v r H2 p r2=>Rk.ok q v r H2 p r2
    .rw[AM P] at k;exact k.elim
  .rw[AM O] at k;exact k.elim
theorem v6{i n:Nat}{nx x:Str}{Wc:Az}{m:List V9}{a:List Stmt}{o:Stmt}{call:E1}{np d pos b:Pos}{G:List A->R A}{f:Sg->R (List A)}{cl:List Str}{fs:Sg->R Fw}(v:X.K=c.K)(t:X.mg=c.mg)
  (y:j5 X) (q:X.N.Nodup) (hi:X.N[i]? = some nx) (z:X.env.scope.names.lookup nx=some .local) (r:Gl X x) (u:X.mg x=some (.ref Wc)) (hw:SX.ExcAny X.K Wc m) (l:nG X.K X.mg Wc cl)
  (p:∀ pn σ E',PCl (X.pnw pn) σ E' call (m8 (spF c.g X.K X.mg n G) [] E' (tAv c E f)))
  (w:∀ e,iF (X.inH e) c E (o::a) fs) (k:(x == ("__debug__":Str))=false:=by decide) (hsw:swapsWith call none b.line X.env=pure false:=by rfl) :
  PSf X c E (.Try [.Expr call b] [.ExceptHandler (some (.Name x np)) (some nx) (o::a) d] [] [] pos) (qF i none n G f cl fs):=
 try_read (j:=none) v t y q hi z r u hw k l (fun pins s σ H D E' I h=>zJ (p _ _ _) I h hsw) w
noncomputable def eXF(i:Nat)(cs:List Str)(g:Str):Sg->R Dz:=fun ρ=>match ρ[i]? with
 | some (some (.x e))=>if cs.contains e.c=true then (match e.fs.lookup g with|some d=>.ok d|none=>.bad) else .bad
 | _=>.bad
def aGP(K:Frag)(mg:Str->O9 V9)(cs:List Str)(g:Str):Prop:=∀ nm∈cs,∃ W C,mg nm=some (.ref C)/\SX.ExcC K W C/\PySem.W.findIn K (.ref C) g=some none
theorem t9{K:Frag}{F:Hp}{g:Str}{d:Dz}:∀ {fvs:List (Str×V)} {fs:List (Str×Dz)},fvs.map (·.1)=fs.map (·.1)->DatVs K F (fvs.map (·.2)) (fs.map (·.2))->fs.lookup g=some d->∃ v,fvs.lookup g=some v/\DatV K F v d
 | [],[],_,_,h=>by cases h
 | [],_::_,h,_,_=>by cases h
 | _::_,[],h,_,_=>by cases h
 | (a,v)::fvs,(b,x)::fs,h,r,e=>by
  rw[AJ,AJ] at h r
  injection h with h1 h2
  obtain ⟨v',t,e1,r1,r2⟩:=r.cons_of
  rw[DN] at e1
  obtain ⟨rfl,rfl⟩:=e1
  simp only at h1
  subst h1
  rw[A0] at e ⊢
  cases q:(g == a) with
  | true=>rw[q] at e;cases e;exact ⟨v,rfl,r1⟩
  | false=>rw[q] at e;exact t9 h2 r2 e
theorem xS{i:Nat}{n:List Str}{g:Str}{e:E1}(B:X.K=c.K)(t:X.mg=c.mg)(p:aGP X.K X.mg n g)(h:PE X e (aCG X.K (gR i) g)):PD X c E e (eXF i n g):=PE.imp h fun σ H Q ⟨ρ,F,ab,k⟩=>by
 unfold eXF at k
 split at k
 .rename_i x hi
  split at k
  .rename_i b
   split at k
   .rename_i d f
    obtain ⟨v,r,a,C,rfl,m,od,h1,h2⟩:=ab.slot i _ hi
    obtain ⟨W,A,l,y,z⟩:=p x.c (by simpa using b)
    rw[t,m] at l
    cases l
    rcases h2 with h2|⟨dd,j,e1,e2,w,s⟩
    .rw[h2.1] at f;cases f
    .subst e1
     obtain ⟨u,q,o⟩:=t9 w s f
     exact ⟨_,r,a,W,C,dd,j,u,rfl,y,z,ab.fh _ _ h1,ab.fh _ _ e2,q,Rk.ok k u F H (Ext.refl ab.fh) o⟩
   .exact k.elim
  .exact k.elim
 .exact k.elim
end
section
variable{P:P9}{w:W9}{K:Frag}{mg:Str->O9 V9}{base:H9}
theorem uA{x:Str}{fs:List Str}{W C:Az}(a:ErrAt P w K mg base x fs W C):nG K mg C [x]:=fun nm h=>by
 rw[BA.mp h]
 exact ⟨C,_,a.m,a.c.any,by simp⟩
theorem mO{x:Str}{fs:List Str}{W C:Az}(a:ErrAt P w K mg base x fs W C){g:Str}(h:g∈fs):aGP K mg [x] g:=fun nm b=>by
 rw[BA.mp b]
 exact ⟨W,C,a.m,a.c,a.na g h⟩
end
def Is1(K:Frag)(mg:Str->O9 V9)(nm q:Str)(b:Bool):Prop:=∃ D C,mg q=some (.ref D)/\mg nm=some (.ref C)/\PySem.W.kitOne K (.ref C) (.ref D)=some b
def uB(K:Frag)(mg:Str->O9 V9)(nm:Str)(T:String)(b:Bool):Prop:=∃ C,mg nm=some (.ref C)/\PySem.W.kitOne K (.ref C) (.type T)=some b
section
variable{X:Cx}{c:Ct}{E:XK}{e:E1}{P:P9}{w:W9}{base:H9}
end
theorem aD6:bootBuiltins "ValueError"=some (.type "ValueError"):=by rfl
end Fl
namespace L2
open PySem PySem.Spec PyProof.Rows
theorem bP.got{P:P9}{w:W9}{H:Hp}{h:H9}{a:Az}{o:HO}(x:bP P w H h a o):∃ u,h.get? a=some u:=by
 cases o with
 | lst xs=>obtain ⟨_,_,_,_,e⟩:=x;exact ⟨_,e⟩
 | tup xs=>obtain ⟨_,_,_,⟨o,e,_⟩⟩:=x;exact ⟨_,e⟩
 | dK kvs=>obtain ⟨_,_,_,_,o,_,_,e,_⟩:=x;exact ⟨_,e⟩
 | dT kvs=>obtain ⟨_,_,_,_,o,_,_,e,_⟩:=x;exact ⟨_,e⟩
 | set S n=>obtain ⟨o,_,_,_,e,_⟩:=x;exact ⟨_,e⟩
 | ins C dx fs=>obtain ⟨_,_,_,e,_⟩:=x;exact ⟨_,e⟩
 | own y=>exact x
 | xd fs=>obtain ⟨_,⟨_,_,_,e,_⟩,_⟩:=x;exact ⟨_,e⟩
 | rng lo hi=>obtain ⟨_,_,_,e⟩:=x;exact ⟨_,e⟩
 | frz ob u=>exact ⟨_,x.1⟩
 | tbl ps=>obtain ⟨_,e,_⟩:=x;exact ⟨_,e⟩
 | cod q=>obtain ⟨c,o,vs,t,e,b,_⟩:=x;cases e;exact ⟨_,b⟩
 | met f y=>exact ⟨_,x⟩
 | ext φ=>exact x.2.1
theorem HOk.free{P:P9}{w:W9}{H:Hp}{h:H9}{a:Az}(x:HOk P w H h)(e:h.get? a=none):H a=none:=by
 cases q:H a with
 | none=>rfl
 | some u=>
  obtain ⟨o,z⟩:=(x a u q).got
  rw[e] at z;cases z
structure ErrP(K:Frag)(mg:Str->Option V9)(x:Str)(W C:Az):Prop where
 c:SX.ExcC K W C
 m:mg x=some (.ref C)
 lk:∃ nm q N bs sn sub ab col dd k0 k1 k2 k3 k5,K.lookup C=some (excClassObj nm q C N bs (.ref W::SX.fJ) true sn sub ab col dd k0 k1 k2 k3 k5 "ValueError.__new__")/\PySem.W.nsOkIn K N=true/\PySem.W.nsIn K N "__init__"=some none
 lw:∃ c0 dd cd sl,K.lookup W=some ⟨c0,dd,.cls cd,sl⟩/\PySem.W.nsOkIn K cd.ns=true/\PySem.W.nsIn K cd.ns "__init__"=some none
def few(i:Int):Prop:=i=40\/i=60\/i=200\/i=300
end L2
namespace Fl
open PySem L2 PyProof.Rows
instance (i:Int):Decidable (few i):=by unfold few;infer_instance
section
variable{X:Cx}{c:Ct}{E:XK}{st:Stmt}{cn:Str}{C:Az}
theorem aJC{i:Nat}{ρ:Sg}{σ:L2.St}{F H:Hp}{d:Er}{nm:Str}{W C:Az}(g:X.mg=c.mg)(b:SX.ExcC X.K W C)(j:X.mg nm=some (.ref C))(ab:Ab c ρ σ F H)(hi:ρ[i]? = some (some (.x d)))(h:d.c=nm) :
  ∃ a,σ[i]? = some (some (.ref a))/\TyX X.K H (.ref a) (.ref C):=by
 obtain ⟨v,e,a,l,rfl,m,od,h1,h2⟩:=ab.slot i _ hi
 rw[h,<-g,j] at m
 cases m
 rcases h2 with ⟨_,rfl⟩|⟨dd,f,e1,e2,n,k⟩
 .exact ⟨a,e,.exc0 b (ab.fh _ _ h1)⟩
 .subst e1
  exact ⟨a,e,.exc b (ab.fh _ _ h1) (ab.fh _ _ e2)⟩
end
end Fl
namespace HT
open PySem PySem.Spec PyProof.Rows L2
def gt2(i j:Int)(x y:Str):Bool:=if i=j then (if x=y then false else decide (y.cps.toList < x.cps.toList)) else decide (j < i)
end HT
namespace Fl
open PySem L2 PyProof.Rows
def FnK(K:Frag)(H:Hp)(f:Az):Prop:=PySem.W.keepIn K (.ref f)=true\/∃ oc od fd sl,H f=some (FnO f ⟨oc,od,.func fd,sl⟩)
theorem FnK.same{K:Frag}{H H':Hp}{f:Az}(s:aH H H')(h:FnK K H f):FnK K H' f:=h.imp id fun ⟨b,od,fd,a,e⟩=>⟨b,od,fd,a,s _ _ e⟩
def zK(X:Cx)(i:Nat)(E:XK)(t:TA):TE:=fun σ H Q=>∃ f,σ[i]? = some (some (.ref f))/\FnK X.K H f/\t σ H fun vs H1=>FnK X.K H1 f/\∃ k fd ps sp,Room k X.A/\FnOk X.prog X.w X.K X.mg X.base (CXe X.prog X.w) k f fd ps sp/\cU X.K fd ps []/\sp vs H1 Q E
theorem aBN{X:Cx}{i:Nat}{x:Str}{E:XK}{p pos:Pos}{e:E1}{es:List E1}{t:TA}(L:PE X (.Name x p) (gR i))(hx:jT (CXe X.prog X.w) X E)(B:PA X (e::es) t)
  (C:starEach (e::es) X.env=(false,eval e X.env)::starEach es X.env:=by rfl) (hpl:(backTo pos (starEach es X.env)).any (·.1)=false:=by rfl):PE X (.Call (.Name x p) (e::es) [] pos) (zK X i E t):=by
 intro pins s σ H Q I h
 obtain ⟨f,G,d,h⟩:=h
 refine CO (thn (L pins s σ H (fun v H'=>v=.ref f/\H'=H) I ⟨_,G,rfl,rfl⟩) fun u z j=>?_)
 obtain ⟨v,l,b,D,e1,e2⟩:=j
 subst e1 e2
 obtain rfl:u=Value.ref f:=D
 have g:∀ (us:List V9) (s1:S9),AP X pins σ (fun vs H1=>FnK X.K H1 f/\∃ k fd ps sp,Room k X.A/\FnOk X.prog X.w X.K X.mg X.base (CXe X.prog X.w) k f fd ps sp/\cU X.K fd ps []/\sp vs H1 Q E) us s1->
   (∃ H1,Inv X pins σ H1 s1/\FnK X.K H1 f)/\wpAny (model X.prog X.w) X.A (call (.ref f) us) (EP X pins σ Q) X.xe s1:=by
  rintro us s1 ⟨vs,H1,c,r,a,k,fd,ps,sp,hr,F,hb,q⟩
  refine ⟨⟨H1,c,a⟩,sG (dvs:=[]) (ds:=[]) F hr hb .nil hx c r ?_⟩
  rw[BV];exact q
 rcases d with d|⟨y,od,fd,m,d⟩
 .refine DP (h₀:=X.base) b.ok.mod.kin d (thn (B pos pins z σ l _ b h) fun us s1 n=>?_) C hpl
  obtain ⟨⟨H1,c,_⟩,q⟩:=g us s1 n
  exact ⟨c.kIn,q⟩
 .refine PySem.W.callWith_F ⟨y,od,fd,m,FnO.get b.hok d⟩ (thn (B pos pins z σ l _ b h) fun us s1 n=>?_) C hpl
  obtain ⟨⟨H1,c,a⟩,q⟩:=g us s1 n
  refine ⟨?_,q⟩
  rcases a with a|⟨y,od,fd,m,a⟩
  .cases e:X.K.lookup f with
   | none=>unfold PySem.W.keepIn at a;dsimp only at a;rw[e] at a;cases a
   | some o=>
    have e1:=c.kIn f o e
    exfalso
    have e2:=b.kIn f o e
    obtain ⟨o',h1,h2⟩:∃ o',l f=some (FnO f o')/\True:=⟨_,d,trivial⟩
    have J:=b.bs f o (b.ok.mod.kin f o e)
    rw[J.2] at h1;cases h1
  .exact ⟨y,od,fd,m,FnO.get c.hok a⟩
def xT(m i:Nat)(f:Sg->R (List Dz)):Sg->R Dz:=fun ρ=>match ρ[i]? with
 | some (some (.g k n G))=>(f ρ).bind fun ds=>if k<=m/\ds.length=n then G ds else .bad
 | _=>.bad
theorem aGQ{X:Cx}{c:Ct}{E:XK}{e:E1}{m i:Nat}{T:Hp}{f:Sg->R (List Dz)}(I:c.g=gOf X.prog X.w X.K X.mg X.base T)(D:X.K=c.K)(hM:X.mg=c.mg)(L:Room m X.A)(h:PE X e (zK X i E (tAd c E f))):PD X c E e (xT m i f):=PE.imp h fun σ H Q ⟨ρ,F,ab,k⟩=>by
 unfold xT at k
 split at k
 .rename_i s n G hi
  obtain ⟨v,J,P⟩:=ab.slot i _ hi
  obtain ⟨t,M,rfl,s1,B⟩:=(show AF c.g c.K c.mg F (.g s n G) v from P)
  rw[I] at B
  obtain ⟨fd,ps,Y,S,W,U⟩:=(show Beh X.prog X.w X.K X.mg X.base T t M s n G from B)
  have j:∀ b H',aH F b->aH b H'->FnK X.K H' t:=fun b H' O Z=>U.imp id fun ⟨V,od,fd,N,e⟩=>⟨V,od,fd,N,Z _ _ (O _ _ (s1 _ _ e))⟩
  refine ⟨t,J,j F H (bR F) ab.fh,ρ,F,ab,(Rk.bind k).imp fun ds _ q vs b H' e1 r=>?_⟩
  refine ⟨j b H' e1.ff e1.fh,?_⟩
  by_cases p:s<=m/\ds.length=n
  .rw[AK p] at q
   refine ⟨s,fd,ps,_,L.mono p.1,W,S,b,ds,fun a o z=>e1.ff a o (s1 a o z),fun a o z=>e1.ff a o (ab.f0 a o (ab.t0 a o (by rw[I];exact z))),e1.fh,by rw[D];exact r,p.2,?_⟩
   cases u:G ds with
   | bad=>rw[u] at q;exact q
   | ok d=>rw[u] at q;exact fun v y H2 e2 l=>Rk.ok q v y H2 (e1.trans e2) (by rw[D] at l;exact l)
   | ex x=>rw[u] at q;exact fun a C y H2 e2 l=>q a C y H2 ((ab.all.trans e1).trans e2) (by rw[D,hM] at l;exact l)
  .rw[AM p] at q;exact q.elim
 .exact k.elim
def aCT(K:Frag)(F H:Hp):List V->List Dz->Prop
 | [],[]=>True
 | v::vs,d::ds=>aP K F H v d/\aCT K F H vs ds
 | _,_=>False
theorem aJD{K:Frag}{F H:Hp}(s:aH F H):∀ {vs:List V} {ds:List Dz},aCT K F H vs ds->∃ FL,aH F FL/\aH FL H/\DatVs K FL vs ds
 | [],[],_=>⟨F,bR F,s,.nil⟩
 | v::vs,d::ds,h=>by
  obtain ⟨FL,a,b,r⟩:=aJD s h.2
  rcases h.1 with q|⟨p,us,xs,rfl,rfl,h1,h2⟩
  .exact ⟨FL,a,b,.cons (q.same a) r⟩
  .refine ⟨fun x=>if x=p then some (.lst us) else FL x,fun x o z=>?_,fun x o z=>?_,?_⟩
   .by_cases c:x=p
    .subst c
     have:=s x o z
     rw[h1] at this;cases this
     exact AK rfl
    .exact (AM c).trans (a x o z)
   .by_cases c:x=p
    .subst c
     have f:=(AK rfl).symm.trans z
     rw[h1];exact f
    .exact b x o ((AM c).symm.trans z)
   .have e:aH FL (fun x=>if x=p then some (.lst us) else FL x):=fun x o z=>by
     by_cases c:x=p
     .subst c
      have:=b x o z
      rw[h1] at this;cases this
      exact AK rfl
     .exact (AM c).trans z
    exact .cons (.lst (SqL.of (AK rfl)) (h2.same fun x o z=>e x o (a x o z))) (r.same e)
theorem aD7{K:Frag}{F:Hp}{c:List Az}{a:Az}{xs:List V}(b:Celd c F)(h:SqL K F a xs):SqL K (hid c F) a xs:=by
 rcases h with (h|⟨o,h⟩)|h
 · exact .inl (.inl (by rw [cD (b.out h fun _ v z => nomatch z)]; exact h))
 · exact .inl (.inr ⟨o, by rw [cD (b.out h fun _ v z => by unfold eP at z; cases z)]; exact h⟩)
 · exact .inr h
theorem aD8{K:Frag}{F:Hp}{c:List Az}{a:Az}{xs:List V}(b:Celd c F)(h:SqT K F a xs):SqT K (hid c F) a xs:=by
 rcases h with (h|⟨o,h⟩)|h
 · exact .inl (.inl (by rw [cD (b.out h fun _ v z => nomatch z)]; exact h))
 · exact .inl (.inr ⟨o, by rw [cD (b.out h fun _ v z => by unfold eP at z; cases z)]; exact h⟩)
 · exact .inr h
mutual
theorem aD9{K:Frag}{F:Hp}{cs:List Az}(hc:Celd cs F):∀ {v:V} {d:Dz},DatV K F v d->DatV K (hid cs F) v d
 | _,_,.non=>.non
 | _,_,.bl b=>.bl b
 | _,_,.int i=>.int i
 | _,_,.str x=>.str x
 | _,_,.lst h r=>.lst (aD7 hc h) (lP hc r)
 | _,_,.tup h r=>.tup (aD8 hc h) (lP hc r)
 | _,_,.pl h=>.pl (by rw[cD (hc.out h fun _ v z=>nomatch z)];exact h)
theorem lP{K:Frag}{F:Hp}{cs:List Az}(hc:Celd cs F):∀ {vs:List V} {ds:List Dz},DatVs K F vs ds->DatVs K (hid cs F) vs ds
 | _,_,.nil=>.nil
 | _,_,.cons h r=>.cons (aD9 hc h) (lP hc r)
end
theorem aBO{a:Cv}{F H:Hp}(s:aH F H):aH (pub a F) (pub a H):=fun b o e=>by
 by_cases c:b∈fZ a
 .obtain ⟨p,q⟩:=gI.mp c
  rw[sZ q] at e ⊢;exact e
 .rw[iM c] at e ⊢;exact s b o e
noncomputable def dOf:R A->R Dz
 | .ok (.d x)=>.ok x
 | .ok _=>.bad
 | .ex e=>.ex e
 | .bad=>.bad
def CloOk(P:P9)(w:W9)(K:Frag)(mg:Str->O9 V9)(base:H9)(T:Hp)(S:ClSt)(fr:List Str)(k n:Nat)(Gm:List A->List Dz->R Dz):Prop:=
 ∀ (F0 F1:Hp) (caps:List A) (cvs:List V) (f:Az) (cl:List (Str×Az)) (doc pm ct:V9) (cc:Az),aH T F0->AFs (gOf P w K mg base T) K mg F0 caps cvs->aH F0 F1->
  F1 f=some (FnO f (S.obj cl doc pm cc ct))->F1 cc=some (.cod S.qual)->CapAt F1 fr cl cvs->(∀ c∈aX fr cl,F0 c=none)->Beh P w K mg base T f F1 k n (Gm caps)
theorem v7{d:List Az}{F H f H2:Hp}(s:aH F H)(g:Celd d F)(i:∀ c∈d,H2 c=none)(e:Ext (hid d F) (hid d H) f H2):Ext F H (shw d F f) (shw d H H2)/\aH f (shw d F f):=by
 have j:∀ c∈d,f c=none:=fun c h=>bS e.fh (i c h)
 refine ⟨⟨fun b o q=>?_,fun b o q=>?_,fun b o q=>?_,fun b q n=>?_⟩,fun b o q=>?_⟩
 .by_cases a:b∈d
  .rw[mF a];exact q
  .rw[dB a];exact e.hh b o (by rw[cD a];exact q)
 .by_cases a:b∈d
  .rw[mF a];exact q
  .rw[dB a];exact e.ff b o (by rw[cD a];exact q)
 .by_cases a:b∈d
  .rw[mF a] at q ⊢;exact s b o q
  .rw[dB a] at q ⊢;exact e.fh b o q
 .by_cases a:b∈d
  .obtain ⟨o,v,z⟩:=g b a
   rw[z] at q;cases q
  .rw[dB a] at n
   have:=e.nw b (by rw[cD a];exact q) n
   unfold lI at this ⊢
   rw[cD a] at this;exact this
 .rw[dB fun z=>by rw[j b z] at q;cases q];exact q
theorem AFs.data{g:Gb}{K:Frag}{mg:Str->O9 V9}{F:Hp}:∀ {vs:List V} {ds:List Dz},DatVs K F vs ds->AFs g K mg F (ds.map .d) vs
 | _,_,.nil=>trivial
 | _,_,.cons h r=>⟨h,AFs.data r⟩
theorem AFs.append{g:Gb}{K:Frag}{mg:Str->O9 V9}{F:Hp}:∀ {as bs:List A} {vs us:List V},AFs g K mg F as vs->AFs g K mg F bs us->AFs g K mg F (as++bs) (vs++us)
 | [],_,[],_,_,h=>h
 | a::as,bs,v::vs,us,h,h2=>⟨h.1,AFs.append h.2 h2⟩
section
variable{P:P9}{w:W9}{K:Frag}{mg:Str->O9 V9}{base:H9}{T:Hp}{S:ClSt}{N ps fr:List Str}{k:Nat}
theorem zL{g l F H:Hp}{a:List A}{cvs vs:List V}{ds:List Dz}{cl:List (Str×Az)}(i:aH T g)(f:AFs (gOf P w K mg base T) K mg g a cvs)(j:aH g l)(e:aH l F)(k:aH F H)(C:CapAt l fr cl cvs)(h:∀ c∈aX fr cl,g c=none)(s:DatVs K F vs ds) :
  Celd (aX fr cl) F/\aH T (hid (aX fr cl) F)/\aH (hid (aX fr cl) F) (hid (aX fr cl) H)/\AFs (gOf P w K mg base T) K mg (hid (aX fr cl) F) (ds.map .d++a) (vs++cvs):=by
 have m:Celd (aX fr cl) F:=(C.same e).celd
 have n:aH g (hid (aX fr cl) F):=fun b o q=>by
  rw[cD fun z=>by rw[h b z] at q;cases q];exact e b o (j b o q)
 refine ⟨m,fun b o q=>n b o (i b o q),fun b o q=>?_,(AFs.data (lP m s)).append (f.same n)⟩
 obtain ⟨p,r⟩:=sW q
 rw[cD r];exact k b o p
def qG(n:Nat)(fb:Sg->R Fw):List A->List Dz->R Dz:=fun caps ds=>dOf (fnF n fb (ds.map .d++caps))
theorem aEA{F H:Hp}{b:List Az}{Q:VK}{E:XK}{r:R A}(c:aH F H)(p:Celd b F)(h:match dOf r with
 | .bad=>False
 | .ok d=>∀ v F' H',Ext F H F' H'->DatV K F' v d->Q v H'
 | .ex e=>∀ a C F' H',Ext F H F' H'->jW K mg F' e a C->E (.ref C) (some a) H'):match (generalizing:=false) r with
 | .bad=>False
 | .ok a=>∀ v F' H',Ext (hid b F) (hid b H) F' H'->AF (gOf P w K mg base T) K mg F' a v->(∀ a∈b,H' a=none)->Q v (shw b H H')
 | .ex e=>∀ a C F' H',Ext (hid b F) (hid b H) F' H'->jW K mg F' e a C->(∀ a∈b,H' a=none)->E (.ref C) (some a) (shw b H H'):=by
 cases r with
 | bad=>exact h
 | ok a=>
  cases a with
  | d x=>
   intro v F' H' e q i
   obtain ⟨e2,j⟩:=v7 c p i e
   exact h v _ _ e2 (DatV.same j q)
  | l xs=>exact False.elim h
  | m xs=>exact False.elim h
  | x e=>exact False.elim h
  | g k n f=>exact False.elim h
  | k S=>exact False.elim h
  | f S=>exact False.elim h
  | o S=>exact False.elim h
 | ex x=>
  intro a C F' H' e q i
  obtain ⟨e2,j⟩:=v7 c p i e
  exact h a C _ _ e2 (q.same j)
theorem aGR{body:List Stmt}{fb:Sg->R Fw}(V:S.body=.stmts body)(Sc:CloScope N ps fr S.scope)(G:∀ (cl:List (Str×Az)) (doc pm:V9) (cc:Az) (ct:V9) (us:List V9),us.length=ps.length->bindArgs (S.fd cl doc pm cc ct) ⟨us,[]⟩=pure (ps.zip us))
  (i:∀ (f cc:Az) (cl:List (Str×Az)) (A:U9) (outer:List Env) (s:S9) (H F:Hp) (E E':XK),Room k (A.deeper (bY S.qual S.scope s.heap.objs.size f (.ref cc) cl))->
   iF ((i6 (CXe P w) P w K mg base N fr S.qual S.scope f (.ref cc) cl A outer s H E').fly E) ⟨K,mg,w,F,hid (aX fr cl) H,gOf P w K mg base T,(bY S.qual S.scope s.heap.objs.size f (.ref cc) cl).cells,fun _=>none⟩ E body fb) :
  CloOk P w K mg base T S fr (k+1) ps.length (qG N.length fb):=by
 intro F0 F1 g cvs f cl doc pm ct cc t m u I q C B
 refine ⟨S.fd cl doc pm cc ct,ps,rfl,.all (G cl doc pm cc ct),⟨fun vs H Q E h=>?_,fun A outer s H args us vs Q E M e0 y L D=>?_⟩,.inr ⟨_,_,_,_,I⟩⟩
 .obtain ⟨F,ds,_,_,_,h1,h2,_⟩:=h
  rw[h1.length,h2]
 .obtain ⟨F,ds,h1,h2,l,J,Y,O⟩:=D
  obtain ⟨W,U,X,Z⟩:=zL t m u h1 l C B J
  refine yW V (l _ _ (h1 _ _ I)) (l _ _ (h1 _ _ q)) Sc (C.same fun b o z=>l b o (h1 b o z)) M e0 y L (by rw[J.length,Y]) fun p=>⟨_,i f cc cl A outer s H (hid (aX fr cl) F) _ E p,?_⟩
  have j:=aEA (P:=P) (w:=w) (base:=base) (T:=T) (r:=fnF N.length fb (ds.map .d++g)) l W O
  refine kT (n:=N.length) (fb:=fb) (Q:=fun v H'=>(∀ a∈aX fr cl,H' a=none)->Q v (shw (aX fr cl) H H')) (E:=fun c e H'=>(∀ a∈aX fr cl,H' a=none)->E c e (shw (aX fr cl) H H')) U X Z ?_
  cases e:fnF N.length fb (ds.map .d++g) with
  | bad=>rw[e] at j;exact j
  | ok a=>rw[e] at j;exact j
  | ex x=>rw[e] at j;exact j
end
def lQ(c:Ct)(F:Hp)(S:ClSt)(v:V):Prop:=∃ f cl doc pm cc ct,v=.ref f/\F f=some (FnO f (S.obj cl doc pm cc ct))/\F cc=some (.cod S.qual)/\ClOf c.cells S.scope cl
theorem lQ.same{c:Ct}{F a:Hp}{S:ClSt}{v:V}(s:aH F a):lQ c F S v->lQ c a S v:=by
 rintro ⟨f,cl,doc,pm,cc,ct,h1,h2,h3,h4⟩
 exact ⟨f,cl,doc,pm,cc,ct,h1,s _ _ h2,s _ _ h3,h4⟩
theorem aEB{c:Ct}{S:ClSt}{P0:Az}{qs:List (Pos×Str)}{cells:List (Str×Az)}{ρ:Sg}{σ:L2.St}{F H:Hp}{Q:VK}(i:cells=c.cells)(l:c.g.T P0=some (.tbl qs))(ab:Ab c ρ σ F H)(h:∀ v F' H',Ext F H F' H'->lQ c F' S v->Q v H'):tMk cells S P0 qs σ H Q:=by
 subst i
 refine ⟨ab.fh _ _ (ab.f0 _ _ (ab.t0 _ _ l)),fun f b cl doc pm ct H1 m k e=>?_⟩
 have e1:∃ d,Ext F H d H1/\d b=some (.cod S.qual):=by
  rcases m with ⟨q,rfl⟩|⟨q,rfl⟩
  .refine ⟨upd F b (.cod S.qual),⟨bR _,fun a o z=>?_,fun a o z=>?_,fun a z n=>?_⟩,aS⟩
   .by_cases w:a=b
    .subst w
     have:=ab.fh a o z
     rw[q] at this;cases this
     exact aS
    .rw[aE w];exact z
   .by_cases w:a=b
    .subst w;rw[aS] at z;rw[q];exact z
    .rw[aE w] at z;exact ab.fh a o z
   .by_cases w:a=b
    .subst w;exact .inr ⟨_,q⟩
    .rw[aE w] at n;exact absurd z n
  .exact ⟨upd F b (.cod S.qual),Ext.new ab.fh q,aS⟩
 obtain ⟨d,e1,j⟩:=e1
 have e2:Ext d H1 (upd d f (FnO f (S.obj cl doc pm b ct))) (upd H1 f (FnO f (S.obj cl doc pm b ct))):=Ext.new e1.fh k
 exact h (.ref f) _ _ (e1.trans e2) ⟨f,cl,doc,pm,b,ct,rfl,aS,e2.ff _ _ j,e⟩
noncomputable def aCU(i:Nat)(q:Str):Sg->R Fw:=fun ρ=>.ok (.nx (ρ.set i (some (.k q))))
theorem aEC{X:Cx}{c:Ct}{E:XK}{st:Stmt}{i:Nat}{q:Str}{S:ClSt}{P0:Az}{qs:List (Pos×Str)}{cells:List (Str×Az)}(b:cells=c.cells)(n:c.cls q=some S)(m:c.g.T P0=some (.tbl qs))(h:PS X st (kI (tMk cells S P0 qs) (iY i))):PSf X c E st (aCU i q):=PS.imp h fun D σ H d=>by
 obtain ⟨ρ,F,ab,k⟩:=d
 refine aEB b m ab fun v l H' e j=>?_
 exact Rk.ok k _ l H' e.ff ((ab.ext e).setF (a:=.k q) (let ⟨f,cl,doc,pm,cc,ct,h⟩:=j;⟨S,f,cl,doc,pm,cc,ct,n,h⟩) fun z=>nomatch z)
noncomputable def xU:O9 (O9 A)->O9 A
 | some (some (.d x))=>some (.d x)
 | some (some (.x e))=>some (.x e)
 | some (some (.g k n G))=>some (.g k n G)
 | _=>none
noncomputable def fP:List Nat->Sg->O9 (List A)
 | [],_=>some []
 | j::js,ρ=>match xU ρ[j]?,fP js ρ with
  | some a,some as=>some (a::as)
  | _,_=>none
theorem pA{o:O9 (O9 A)}{a:A}(h:xU o=some a):o=some (some a)/\∀ {c:Ct} {F H:Hp} {v:V},AO c F H a v->AF c.g c.K c.mg F a v:=by
 unfold xU at h
 split at h<;>cases h
 · exact ⟨rfl, fun z => z⟩
 · exact ⟨rfl, fun z => z⟩
 · exact ⟨rfl, fun z => z⟩
theorem v8{c:Ct}{ρ:Sg}{σ:L2.St}{F H:Hp}(ab:Ab c ρ σ F H):∀ {js:List Nat} {caps:List A},fP js ρ=some caps->∃ cvs,AFs c.g c.K c.mg F caps cvs/\cvs.length=js.length/\∀ (i:Nat) j,js[i]? = some j->∃ v,cvs[i]? = some v/\σ[j]? = some (some v)
 | [],_,h=>by cases h;exact ⟨[],trivial,rfl,fun i j z=>by simp at z⟩
 | j::js,caps,h=>by
  unfold fP at h
  split at h
  .rename_i a as h1 h2
   cases h
   obtain ⟨cvs,r,l,g⟩:=v8 ab h2
   obtain ⟨n,d⟩:=pA h1
   obtain ⟨v,f,o⟩:=ab.slot j a n
   refine ⟨v::cvs,⟨d o,r⟩,by simp[l],fun i p e=>?_⟩
   cases i with
   | zero=>simp at e;subst e;exact ⟨v,rfl,f⟩
   | succ i=>obtain ⟨b,m,k⟩:=g i p (by simpa using e);exact ⟨b,by simpa using m,k⟩
  .cases h
def aBP(X:Cx)(T:Hp)(c:Ct)(js:List Nat)(ρ:Sg)(F:Hp)(a:A)(v:V):Prop:=AF c.g c.K c.mg F a v \/
 ∃ S fr sl k n Gm caps,a=.g k n (Gm caps)/\lQ c F S v/\CloOk X.prog X.w X.K X.mg X.base T S fr k n Gm/\(∀ y,(y,NameKind.free)∈S.scope.names->y∈fr)/\(∀ y∈fr,(y,NameKind.free)∈S.scope.names)/\sl.map (fun j=>X.N[j]?)=fr.map some/\(∀ j∈sl,j∈js)/\fP sl ρ=some caps
theorem aBP.same{X:Cx}{T:Hp}{c:Ct}{js:List Nat}{ρ:Sg}{F d:Hp}{a:A}{v:V}(s:aH F d)(h:aBP X T c js ρ F a v):aBP X T c js ρ d a v:=by
 rcases h with h|⟨S,fr,f,k,n,Gm,b,h1,h2,e⟩
 · exact .inl (AF.same s h)
 · exact .inr ⟨S, fr, f, k, n, Gm, b, h1, h2.same s, e⟩
section
variable{X:Cx}{T:Hp}{c:Ct}{js:List Nat}{E:XK}{e:E1}{es:List E1}
theorem uC:∀ {js:List Nat} {ρ:Sg} {caps:List A},fP js ρ=some caps->∀ j∈js,∃ a,ρ[j]? = some (some a)
 | [],_,_,_,j,hj=>by simp at hj
 | i::js,ρ,caps,h,j,hj=>by
  unfold fP at h
  split at h
  .rename_i a b h1 h2
   rcases AT.mp hj with z|z
   · subst z; exact ⟨a, (pA h1).1⟩
   · exact uC h2 j z
  .cases h
theorem aED{α:Type}{N:List α}{a:List Nat}{fr:List α}(h:a.map (fun j=>N[j]?)=fr.map some):a.length=fr.length/\∀ (i:Nat) x,fr[i]? = some x->∃ j,a[i]? = some j/\N[j]? = some x:=by
 have b:a.length=fr.length:=by have:=D2 List.length h;simpa using this
 refine ⟨b,fun i x e=>?_⟩
 have hi:i < fr.length:=(AU.mp e).1
 have h2:(a.map (fun j=>N[j]?))[i]? = (fr.map some)[i]?:=by rw[h]
 rw[BC,BC,e,AS (by omega)] at h2
 exact ⟨a[i],AS _,BP h2⟩
theorem aBQ{S:ClSt}{fr:List Str}{G:List Nat}{k n:Nat}{Gm:List A->List Dz->R Dz}{d:List A}{ρ:Sg}{σ:L2.St}{F H:Hp}{q:Cv}{v:V}(L:c.g=gOf X.prog X.w X.K X.mg X.base T)(P:X.K=c.K)(O:X.mg=c.mg)(p:X.env.cells=c.cells)(ab:Ab c ρ σ F H)(R:PubRel X σ H js q)
  (hA:lQ c F S v) (M:CloOk X.prog X.w X.K X.mg X.base T S fr k n Gm) (h1:∀ y,(y,NameKind.free)∈S.scope.names->y∈fr) (h2:∀ y∈fr,(y,NameKind.free)∈S.scope.names)
  (h3:G.map (fun j=>X.N[j]?)=fr.map some) (h4:∀ j∈G,j∈js) (hc:fP G ρ=some d):AF c.g c.K c.mg (pub q F) (.g k n (Gm d)) v:=by
 obtain ⟨f,cl,doc,pm,cc,ct,rfl,q1,q2,t⟩:=hA
 obtain ⟨cvs,r,l,gt⟩:=v8 ab hc
 obtain ⟨U,g3⟩:=aED h3
 have B:∀ b∈fZ q,F b=none:=fun b hb=>bS ab.fh (R.free b hb)
 have I:aH F (pub q F):=fK B
 have u:∀ (i:Nat) x v,fr[i]? = some x->cvs[i]? = some v->∃ a o,cl.lookup x=some a/\q.lookup a=some (o,v):=fun i x v e1 e2=>by
  obtain ⟨j,m,s⟩:=g3 i x e1
  obtain ⟨v',Q,e6⟩:=gt i j m
  rw[e2] at Q;cases Q
  obtain ⟨x',a,o,v2,Y,e8,Z,J⟩:=R.all j (h4 j (CI m))
  rw[s] at Y;cases Y
  rw[e6] at Z;cases Z
  obtain ⟨W,C⟩:=t.all (x,.free) (h2 x (CI e1)) rfl
  have D:=t.of _ _ C
  rw[<-p] at D
  have h:X.env.cells.lookup x=some W:=D
  rw[e8] at h;cases h
  exact ⟨a,o,C,J⟩
 refine ⟨f,pub q F,rfl,bR _,?_⟩
 rw[L]
 refine M F (pub q F) d cvs f cl doc pm ct cc (fun a o z=>ab.f0 a o (ab.t0 a o (by rw[L];exact z))) (by rw[P,O,<-P,<-O];rw[L] at r;rw[<-P,<-O] at r;exact r) I (I _ _ q1) (I _ _ q2) ⟨l.trans U,fun n c e=>h1 n (t.only n c e),fun n n' c e e'=>R.inj n n' c (by rw[p];exact t.of _ _ e) (by rw[p];exact t.of _ _ e'),fun i x v e1 e2=>?_⟩ fun a ha=>?_
 .obtain ⟨a,o,m,s⟩:=u i x v e1 e2
  exact ⟨a,o,m,sZ s⟩
 .obtain ⟨x,hx,e⟩:=CN.mp ha
  obtain ⟨i,hi,E⟩:=EC.mp hx
  obtain ⟨W,o,m,s⟩:=u i x (cvs[i]'(by rw[l,U];exact hi)) (by rw[AS hi,E]) (AS _)
  rw[e] at m;cases m
  exact B a (gI.mpr ⟨_,s⟩)
end
section
variable{P:P9}{w:W9}{K:Frag}{mg:Str->O9 V9}{base:H9}{T:Hp}
structure DefAtT(K:Frag)(mg:Str->Option V9)(base:Heap)(T:Hp)(qs:List (Pos×Str))(x:Str)(st:Stmt)(ps:List Str):Prop where
 ex:∃ f oc od kV doc pm an c0 ct osl P0,K.lookup f=some ⟨oc,od,.func (PySem.W.fnOf x x (b9 st) (bD st) (aC st) .none kV doc pm an (.ref c0) ct),osl⟩/\PySem.W.codeIn K (.ref c0) x=true/\PySem.W.keepIn K (.ref f)=true /\
  cU K (PySem.W.fnOf x x (b9 st) (bD st) (aC st) .none kV doc pm an (.ref c0) ct) ps []/\mg x=some (.ref f)/\Tb mg base c0 P0/\T P0=some (.tbl qs)
theorem aJE{h:H9}{qs:List (Pos×Str)}{xs:List Str}{x:Str}{st:Stmt}{ps:List Str}(D:DefAt K mg x st ps)(k:K.In h)(n:tF mg h base T qs xs)(hx:x∈xs):DefAtT K mg base T qs x st ps:=by
 obtain ⟨f,fd,F,b,m⟩:=D.ex
 obtain ⟨o,od,kV,doc,pm,l,d,ct,c,rfl,g,a⟩:=F.ex
 obtain ⟨c0,P0,i,j,p⟩:=n x hx
 have e:d=.ref c0:=p f _ _ m (k _ _ g) rfl
 subst e
 exact ⟨f,o,od,kV,doc,pm,l,c0,ct,c,P0,g,a,F.kp,b,m,j,i⟩
end
noncomputable def clS(q:Str):Stmt->ClSt
 | .FunctionDef x a b _ _ _ sc _ _ _=>⟨x,q,a,.stmts b,sc⟩
 | s=>⟨"",q,b9 s,.stmts [],aC s⟩
noncomputable def aJF:Stmt->Pos
 | .FunctionDef _ _ _ _ _ _ _ _ _ p=>p
 | _=>⟨0,0,0,0⟩
end Fl
namespace Zp
open PySem
section
variable{prog:P9}{w:W9}{A:U9}{E:V9->S9->Prop}{s:S9}
theorem nK{it t:Az}{i:Nat}{items}{x:V9}{Q:V9->S9->Prop}(a:s.heap.IsTupleIter it t i)
  (h:s.heap.IsTuple t items) (hx:items[i]? = some x) (g:∀ h',h'.IsTupleIter it t (i+1)->Heap.SameBut it s.heap h'->Q x {s with heap:=h'}) :
  wpAny (model prog w) A (Builtin.SmallTypes.nextOf (.ref it)) Q E s:=by
 obtain ⟨o,c,f,b⟩:=id a
 obtain ⟨j,d,_,k,e⟩:=h
 unfold Builtin.SmallTypes.nextOf
 refine AA (DW (name:=Str.ofString "__next__") a.typeIs CW
  (EV CW a.typeIs EI ?_ (EG _)))
 show wpAny _ _ (field (.ref it) 0 >>= _) _ _ s
 refine AA (B4 c b (x:=.ref t) rfl ?_)
 show wpAny _ _ (if (Value.ref t == Value.none)=true then _ else _) _ _ s
 rw[AM (show ¬ ((Value.ref t == Value.none)=true) from BQ)]
 show wpAny _ _ (field (.ref it) 1 >>= _) _ _ s
 refine AA (B4 c b (x:=.int i 0) rfl ?_)
 show wpAny _ _ (seqItems? (.ref t) >>= _) _ _ s
 refine AA (E9 d e ?_)
 simp only[Int.toNat_natCast,hx]
 refine AA (DU c b (by simp) (AD ⟨x,rfl,AD (g _ ?_ (C7 ..))⟩))
 exact ⟨_,CF _ c (D7 (DD b _)),(Obj.cls_mapFields ..).trans f,by
  rw[DD b];simp[rawInt]⟩
theorem oE{it t:Az}{i:Nat}{items}{Q:V9->S9->Prop}(h:A.handled=none)
  (b:s.heap.IsTupleIter it t i) (k:s.heap.IsTuple t items) (hx:items[i]? = none)
  (j:∀ h' e,Heap.ExtBut it s.heap h'->(∃ o,h'.get? e=some o/\o.cls=.type "StopIteration")->E (.ref e) {s with heap:=h'}) :
  wpAny (model prog w) A (Builtin.SmallTypes.nextOf (.ref it)) Q E s:=by
 obtain ⟨o,d,n,g⟩:=id b
 obtain ⟨l,c,_,p,f⟩:=k
 unfold Builtin.SmallTypes.nextOf
 refine AA (DW (name:=Str.ofString "__next__") b.typeIs CW
  (EV CW b.typeIs EI ?_ (EG _)))
 show wpAny _ _ (field (.ref it) 0 >>= _) _ _ s
 refine AA (B4 d g (x:=.ref t) rfl ?_)
 show wpAny _ _ (if (Value.ref t == Value.none)=true then _ else _) _ _ s
 rw[AM (show ¬ ((Value.ref t == Value.none)=true) from BQ)]
 show wpAny _ _ (field (.ref it) 1 >>= _) _ _ s
 refine AA (B4 d g (x:=.int i 0) rfl ?_)
 show wpAny _ _ (seqItems? (.ref t) >>= _) _ _ s
 refine AA (E9 c f ?_)
 simp only[Int.toNat_natCast,hx]
 refine AA (wpAny_rule (AA (DU d g (by simp) ?_)))
 show wpAny _ _ (newExc (.type "StopIteration") [] >>= _) _ _ _
 refine AA ?_
 simp only[newExc,newTuple]
 refine AA (B5 ?_ (by size_fits))
 refine AA (m:=firstArgMember _ _) (wpAny_of_eq (a:=Value.none) (by first|rfl|(simp only[firstArgMember];rfl)) ?_)
 refine B5 ?_ (by size_fits)
 simp only[raiseNew]
 refine AA (wpAny_handled ?_)
 first|rw[show A.in1.handled=none from h]|rw[h]
 refine AA (AD (wpAny_throw ?_))
 exact j _ _ (((C7 ..).extBut.push _).push _) ⟨_,A7 _ rfl,rfl⟩
end
theorem u9{prog:P9}{w:W9}{A:U9}(g:A.handled=none)(it l:Az)(c:l≠it)(items:Array V9) :
  Draws prog w A it [it,l] items.size (fun i v=>items[i]? = some v) (fun i h=>h.IsTupleIter it l i/\h.IsTuple l items) where
 live:=fun _ _ st=>let ⟨o,ho,_⟩:=st.1;⟨o,ho⟩
 frame:=fun _ _ _ st d=>⟨let ⟨o,ho,r⟩:=st.1;⟨o,d it (by simp) o ho,r⟩,let ⟨o,ho,r⟩:=st.2;⟨o,d l (by simp) o ho,r⟩⟩
 item:=fun i s Q E hi st e=>by
  refine nK st.1 st.2 (x:=items[i]) (by simp[hi]) fun h' b a=>?_
  exact e _ h' s.toks (by simp[hi]) ⟨b,st.2.extBut a.extBut c⟩ a
 done:=fun s Q E st f=>oE g st.1 st.2 (by simp) f
structure Apart(z TI TO i1 i2:Az)(f1 f2:List Az):Prop where
 TIz:TI≠z
 TOz:TO≠z
 i1z:i1≠z
 i2z:i2≠z
 TITO:TI≠TO
 TIi1:TI≠i1
 TIi2:TI≠i2
 TOi1:TO≠i1
 TOi2:TO≠i2
 i12:i1≠i2
 z1:z∉f1
 z2:z∉f2
 t1:TO∉f1
 t2:TO∉f2
 i1f2:i1∉f2
 i2f1:i2∉f1
section
variable{prog:P9}{w:W9}{A:U9}{E:V9->S9->Prop}{s:S9}
abbrev aJG(h:H9)(z TI TO:Az)(f0 f1:V9):Prop:=h.get? z=some {cls:=.type "zip",dict:=none,data:=.fields #[f0,f1,.bool false,.ref TI,.ref TO],slots:=#[]}
end
def uD(v:V9)(o:Obj)(h:H9):Prop:=∀ (prog:P9) (w:W9) (A:U9) (E:V9->S9->Prop) (s:S9) (Q:V9->S9->Prop),s.heap=h->Q (.ref h.objs.size) {s with heap:=h.push o}->wpAny (model prog w) A (pyIter v) Q E s
noncomputable abbrev H2(h:H9)(o1 o2:Obj):H9:=(h.push o1).push o2
noncomputable abbrev H3(h:H9)(o1 o2:Obj):H9:=(H2 h o1 o2).push {cls:=.type "tuple",data:=.seq #[.ref h.objs.size,.ref (h.push o1).objs.size]}
noncomputable abbrev H4(h:H9)(o1 o2:Obj):H9:=(H3 h o1 o2).push {cls:=.type "tuple",data:=.seq #[.none,.none]}
noncomputable abbrev H5(h:H9)(o1 o2:Obj):H9:=(H4 h o1 o2).push {cls:=.type "zip",data:=.fields #[.none,.bool false,.bool false,.ref (H2 h o1 o2).objs.size,.ref (H3 h o1 o2).objs.size]}
end Zp
namespace L2
open PySem PySem.Spec PyProof.Rows
abbrev Col:=Hp->List V->Prop
structure ColOk(P:Program)(w:World)(K:Frag)(C:Col)(it:Az)(tn:Nat->Heap->Prop):Prop where
 obj:∀ i h,tn i h->∃ o,h.get? it=some o/\∀ v,o.data≠.cell v
 keep:∀ i h h',tn i h->(∀ o,h.get? it=some o->h'.get? it=some o)->tn i h'
 one:∀ (X:Cx),X.prog=P->X.w=w->X.K=K->∀ pins s σ H xs ys,Inv X pins σ H s->C H xs->C H ys->xs=ys
 draw:∀ (X:Cx),X.prog=P->X.w=w->X.K=K->∀ (i:Nat) (pins:List (Az×Obj)) (s:S9) (σ:St) (H:Hp) (xs:List V) (A:Around),Inv X pins σ H s->gL X pins H it->tn i s.heap->C H xs->A.handled=none->
  ∃ fp Pv St,Draws P w A it fp xs.length Pv St/\St i s.heap/\(∀ j h,St j h->tn j h)/\(∀ j v,Pv j v->∃ x,xs[j]? = some x/\aU x v)/\∀ b,gL X pins H b->b≠it->b∉fp
theorem v9{X:Cx}{pins:List (Az×Obj)}{σ:St}{H:Hp}{s:S9}{b a:Az}{o:Obj}(I:Inv X pins σ H s)(h:gL X pins H b)(e:X.base.get? a=some o):b≠a:=by
 obtain ⟨_,_,_,d,_⟩:=h
 intro z
 rcases d with c|c
 .exact I.ok.noex a o e (z▸c)
 .have g:=AG e
  have f:=I.ok.bsz
  rw[z] at c
  exact absurd (AN g (A4 f c)) (BF _)
theorem zM{X:Cx}{pins:List (Az×Obj)}{σ:St}{H:Hp}{s:S9}{b a:Az}{xs:List V}(I:Inv X pins σ H s)(c:gL X pins H b)(h:SqL X.K H a xs):b≠a:=by
 rcases h with (h|⟨o,h⟩)|⟨o,vs,n,h,_⟩
 · intro z; rw [<- z, c.1] at h; cases h
 · intro z; rw [<- z, c.1] at h; cases h
 · exact v9 I c (I.ok.mod.kin _ _ h)
theorem zN{X:Cx}{pins:List (Az×Obj)}{σ:St}{H:Hp}{s:S9}{b a:Az}{xs:List V}(I:Inv X pins σ H s)(c:gL X pins H b)(h:SqT X.K H a xs):b≠a:=by
 rcases h with (h|⟨o,h⟩)|⟨o,vs,n,h,_⟩
 · intro z; rw [<- z, c.1] at h; cases h
 · intro z; rw [<- z, c.1] at h; cases h
 · exact v9 I c (I.ok.mod.kin _ _ h)
theorem aBR{P:P9}{w:W9}{K:Frag}(a it:Az):ColOk P w K (fun H xs=>SqL K H a xs) it (fun i h=>h.IsListIter it a i) where
 obj:=fun i h ⟨o,e,c,d⟩=>⟨o,e,fun v z=>by rw[d] at z;cases z⟩
 keep:=fun i h h' st k=>st.at fun o e=>k o e
 one:=by
  intro X q t n pins s σ H xs ys I h1 h2
  subst n
  exact I.list_inj h1 h2
 draw:=by
  intro X q t n i pins s σ H xs A I D st l B
  subst q t n
  obtain ⟨f,g,p,J⟩:=I.list l
  have m:=zM I D l
  refine ⟨[it,a],(fun i v=>f.toArray[i]? = some v),(fun i h=>h.IsListIter it a i/\h.IsList a f.toArray),by rw[show xs.length=f.toArray.size by rw[g.length];simp];exact Draws.list B it a (BO m) f.toArray,⟨st,p.isList⟩,fun j h z=>z.1,fun j v e=>?_,fun b E C F=>?_⟩
  .have r:f[j]? = some v:=by simpa using e
   have x:j < xs.length:=by rw[g.length];exact (AU.mp r).1
   obtain ⟨u,y,G⟩:=g.get (AS x)
   rw[r] at y;cases y
   exact ⟨_,AS x,G⟩
  .rcases AT.mp F with z|z
   · exact C z
   · exact zM I E l (by simpa using z)
theorem zO{P:P9}{w:W9}{K:Frag}(a it:Az):ColOk P w K (fun H xs=>SqT K H a xs) it (fun i h=>h.IsTupleIter it a i) where
 obj:=fun i h ⟨o,e,c,d⟩=>⟨o,e,fun v z=>by rw[d] at z;cases z⟩
 keep:=fun i h h' ⟨o,e,r⟩ k=>⟨o,k o e,r⟩
 one:=by
  intro X q x n pins s σ H xs ys I h1 h2
  subst n
  exact I.tuple_inj h1 h2
 draw:=by
  intro X q x n i pins s σ H xs A I E st l C
  subst q x n
  obtain ⟨f,g,p,L⟩:=I.tuple l
  have m:=zN I E l
  refine ⟨[it,a],(fun i v=>f.toArray[i]? = some v),(fun i h=>h.IsTupleIter it a i/\h.IsTuple a f.toArray),by rw[show xs.length=f.toArray.size by rw[g.length];simp];exact Zp.u9 C it a (BO m) f.toArray,⟨st,p⟩,fun j h z=>z.1,fun j v e=>?_,fun b F D G=>?_⟩
  .have t:f[j]? = some v:=by simpa using e
   have y:j < xs.length:=by rw[g.length];exact (AU.mp t).1
   obtain ⟨u,B,J⟩:=g.get (AS y)
   rw[t] at B;cases B
   exact ⟨_,AS y,J⟩
  .rcases AT.mp G with z|z
   · exact D z
   · exact zN I F l (by simpa using z)
noncomputable def qH(z:Str):List V:=z.cps.toList.map fun c=>V.str ⟨#[c]⟩
theorem aEE{P:P9}{w:W9}{K:Frag}(z:Str)(t:Tok)(it:Az):ColOk P w K (fun _ xs=>xs=qH z) it (fun i h=>h.IsStrIter it (strIterType z) z t i) where
 obj:=fun i h ⟨o,e,c,d⟩=>⟨o,e,fun v z=>by rw[d] at z;cases z⟩
 keep:=fun i h h' ⟨o,e,r⟩ k=>⟨o,k o e,r⟩
 one:=fun _ _ _ _ _ _ _ _ _ _ _ h1 h2=>h1.trans h2.symm
 draw:=by
  intro X g p l i pins s σ H xs A I y st f a
  subst g p l f
  have m:Draws X.prog X.w A it [it] z.cps.size (fun i v=>∃ c u,z.cps[i]? = some c/\v=.str ⟨#[c]⟩ u) (fun i h=>h.IsStrIter it (strIterType z) z t i):=by
   unfold strIterType
   split
   · exact Draws.strAscii a it z t
   · exact Draws.strWide a it z t
  refine ⟨[it],_,_,by rw[show (qH z).length=z.cps.size by unfold qH;simp];exact m,st,fun j h z=>z,?_,fun b x n q=>n (by simpa using q)⟩
  rintro j v ⟨c,u,hc,rfl⟩
  exact ⟨.str ⟨#[c]⟩,by unfold qH;rw[BC,DG,hc];rfl,u,rfl⟩
def aBS(K:Frag)(H:Hp)(x:V)(C:Col):Prop:=
 (∃ a xs,x=.ref a/\SqL K H a xs/\C=fun H xs=>SqL K H a xs)\/(∃ a xs,x=.ref a/\SqT K H a xs/\C=fun H xs=>SqT K H a xs)\/∃ z,x=.str z/\C=fun _ xs=>xs=qH z
theorem aBT{X:Cx}{pins:List (Az×Obj)}{σ:St}{H:Hp}{s:S9}{x:V}{u:V9}{C:Col}(I:Inv X pins σ H s)(r:aU x u)(h:aBS X.K H x C) :
  ∃ (o:Obj) (tn:Az->Nat->H9->Prop),(∀ h':H9,(∀ b ob,s.heap.get? b=some ob->h'.get? b=some ob)->Zp.uD u o h')/\o.isFreed=false/\(∀ it,ColOk X.prog X.w X.K C it (tn it))/\∀ it h',h'.get? it=some o->tn it 0 h':=by
 rcases h with ⟨a,xs,rfl,f,rfl⟩|⟨a,xs,rfl,f,rfl⟩|⟨z,rfl,rfl⟩
 .cases r
  obtain ⟨c,g,p,j⟩:=I.list f
  refine ⟨{cls:=.type "list_iterator",data:=.fields #[.ref a,.int 0 0]},fun it i h=>h.IsListIter it a i,fun h' d prog w A E s' Q e q=>?_,rfl,fun it=>aBR a it,fun it h' e=>⟨_,e,rfl,rfl⟩⟩
  subst e
  refine wpAny_pyIter_list (l:=a) (items:=c.toArray) ?_ q
  obtain ⟨o,e,r⟩:=p.isList
  exact ⟨o,d _ _ e,r⟩
 .cases r
  obtain ⟨c,g,p,j⟩:=I.tuple f
  refine ⟨{cls:=.type "tuple_iterator",data:=.fields #[.ref a,.int 0 0]},fun it i h=>h.IsTupleIter it a i,fun h' d prog w A E s' Q e q=>?_,rfl,fun it=>zO a it,fun it h' e=>⟨_,e,rfl,rfl⟩⟩
  subst e
  refine wpAny_pyIter_tuple (t:=a) (items:=c.toArray) ?_ q
  obtain ⟨o,e,r⟩:=p
  exact ⟨o,d _ _ e,r⟩
 .obtain ⟨t,rfl⟩:=r
  refine ⟨{cls:=.type (strIterType z),data:=.fields #[.str z t,.int 0 0]},fun it i h=>h.IsStrIter it (strIterType z) z t i,fun h' d prog w A E s' Q e q=>?_,rfl,fun it=>aEE z t it,fun it h' e=>⟨_,e,rfl,rfl⟩⟩
  subst e
  exact wpAny_pyIter_strU q
end L2
namespace Fl
open PySem L2 PyProof.Rows
theorem xV{d:Dz}{xs:List Dz}(h:cS d=.ok xs):xs.length<=16777216:=by
 unfold cS at h
 split at h
 .split at h
  · rename_i a; cases h; exact a
  · cases h
 .split at h
  · rename_i a; cases h; exact a
  · cases h
 .split at h
  · rename_i a; cases h; rw [AQ]; exact a
  · cases h
 .cases h
theorem zP{d:Dz}{e:Er}:cS d≠.ex e:=by
 intro h
 unfold cS at h
 split at h
 · split at h <;> cases h
 · split at h <;> cases h
 · split at h <;> cases h
 · cases h
theorem uE{K:Frag}{F:Hp}:∀ (cs:List Nat),DatVs K F (cs.map fun c=>V.str ⟨#[c]⟩) (cs.map fun c=>PyData.str ⟨#[c]⟩)
 | []=>.nil
 | c::t=>.cons (.str _) (uE t)
theorem aEF{K:Frag}{F B:Hp}{v:V}{d:Dz}{xs:List Dz}(s:aH F B)(r:aP K F B v d)(h:cS d=.ok xs):∃ C vs,aBS K B v C/\(∀ H1,aH B H1->C H1 vs)/\DatVs K F vs xs:=by
 unfold cS at h
 split at h
 .split at h
  .cases h
   obtain ⟨p,vs,rfl,h1,h2⟩:=aP.lst_of s r
   exact ⟨_,vs,.inl ⟨p,vs,rfl,h1,rfl⟩,fun H1 q=>h1.same q,h2⟩
  .cases h
 .split at h
  .cases h
   obtain ⟨p,vs,rfl,h1,_,h2⟩:=aP.tup_of s r
   exact ⟨_,vs,.inr (.inl ⟨p,vs,rfl,h1.same s,rfl⟩),fun H1 q=>(h1.same s).same q,h2⟩
  .cases h
 .rename_i z
  split at h
  .cases h
   obtain rfl:=aP.str_of r
   exact ⟨_,qH z,.inr (.inr ⟨z,rfl,rfl⟩),fun _ _=>rfl,uE _⟩
  .cases h
 .cases h
end Fl
namespace L2
open PySem PySem.Spec PyProof.Rows
end L2
namespace Fl
open PySem L2 PyProof.Rows
section
variable{X:Cx}{c:Ct}{E:XK}{e a b:E1}{st:Stmt}{pos:Pos}
noncomputable def aIA(i:Nat)(f g:Sg->R Dz):Sg->R Fw:=fun ρ=>match ρ[i]? with
 | some (some (.m kvs))=>(f ρ).bind fun k=>(g ρ).bind fun y=>if dY k (kvs.map (·.1))=true/\kvs.length<=16777216 then .ok (.nx (if fN kvs k=true then ρ else ρ.set i (some (.m (putM kvs k y))))) else .bad
 | _=>.bad
end
def aJH(i:Nat):Sg->R Fw:=fun ρ=>match ρ[i]? with
 | some (some (.l xs))=>.ok (.nx (ρ.set i (some (.l xs.reverse))))
 | _=>.bad
end Fl
namespace Zp
open PySem
theorem zQ(v:V9)(o:Obj) :
  Meets (Builtin.«enumerate.__new__» ⟨[.type "enumerate",v],[]⟩) (fun _ R s=>uD v o s.heap /\
   R (.ok (.ret (.ref (s.heap.push o).objs.size))) {s with heap:=(s.heap.push o).push {cls:=.type "enumerate",data:=.fields #[.none,.bool false,.ref s.heap.objs.size,rawInt 0,.none,.none]}}):=
 .of_wp fun prog w A R s h=>by
  obtain ⟨a,g,d,tk,os⟩:=s;obtain ⟨f,h⟩:=h
  have e:=sub_enumerate
  have b:∀ {A:U9} {E:V9->S9->Prop} {Q:V9->S9->Prop},Q (.ref a.objs.size) ⟨a.push o,g,d,tk,os⟩->wpAny (model prog w) A (pyIter v) Q E ⟨a,g,d,tk,os⟩:=fun i=>f prog w _ _ ⟨a,g,d,tk,os⟩ _ rfl i
  wp_walk
  refine wpAny_stack_any fun st=>AD ?_
  split
  .rename_i c _ _ _ _ _
   cases (c == Value.type "enumerate")<;>(wp_walk using b;exact ⟨_,rfl,h⟩)
  .wp_walk using b
   exact ⟨_,rfl,h⟩
theorem aBU{prog:P9}{w:W9}{A:U9}{E:V9->S9->Prop}{s:S9}{v:V9}{o:Obj}{Q:V9->S9->Prop}(h1:uD v o s.heap)(d:o.isFreed=false)
  (h:∀ h',IsEnum h' (s.heap.objs.size+1) s.heap.objs.size 0 .none->h'.get? s.heap.objs.size=some o->h'.objs.size=s.heap.objs.size+2->(∀ b o,s.heap.get? b=some o->h'.get? b=some o)->Q (.ref (s.heap.objs.size+1)) {s with heap:=h'}) :
  wpAny (model prog w) A (call (.type "enumerate") [v]) Q E s:=by
 refine callType_new F.called_enumerate (by decide) (F.typeCall_enumerate_1 _) (F.newCall_enumerate_1 _) (fun obj=>F.args_object_init_2 obj _) F.entry_enumerate_new (zQ v o) ⟨h1,?_⟩
 have a:(s.heap.push o).objs.size=s.heap.objs.size+1:=CG ..
 show _/\_
 rw[a]
 have c:IsEnum ((s.heap.push o).push {cls:=.type "enumerate",data:=.fields #[.none,.bool false,.ref s.heap.objs.size,rawInt 0,.none,.none]}) (s.heap.objs.size+1) s.heap.objs.size 0 .none:=by
  have q:=A7 (s.heap.push o) (o:={cls:=.type "enumerate",data:=.fields #[.none,.bool false,.ref s.heap.objs.size,rawInt 0,.none,.none]}) rfl
  rw[a] at q;exact q
 exact ⟨⟨_,c,rfl⟩,h _ c (AE _ (A7 _ d)) (by rw[CG,a]) fun b o y=>AE _ (AE _ y)⟩
end Zp
namespace L2
open PySem PySem.Spec PyProof.Rows
def Itn(C:Col):It:=
 ⟨fun i H=>∃ xs,C H xs/\i < xs.length,fun i H x H'=>∃ p v,H p=none/\x=.ref p/\H'=upd H p (.tup [.int i,v])/\∀ xs,C H xs->xs[i]? = some v,fun i H=>∃ xs,C H xs/\i=xs.length⟩
theorem zR{P:P9}{w:W9}{K:Frag}{es:List E1}{k1}{tpos:Pos}{C:Col}{e it:Az}{tn:Nat->H9->Prop}(c:ColOk P w K C it tn)(B:e≠it) :
  Turn P w K (.Tuple es k1 tpos) (Itn C) [e,it] e (fun i h=>(∃ old,IsEnum h e it i old)/\tn i h) where
 mem:=by simp
 obj:=fun i h st b d=>by
  obtain ⟨⟨old,s1⟩,t⟩:=st
  rcases AT.mp d with z|z
  .subst z
   exact ⟨_,s1,fun v z=>by have z':Data.fields _=Data.cell v:=z;cases z'⟩
  .obtain rfl:b=it:=by simpa using z
   exact c.obj i h t
 keep:=fun i h h' st k=>by
  obtain ⟨⟨old,s1⟩,t⟩:=st
  exact ⟨⟨old,k e (by simp) _ s1⟩,c.keep i h h' t fun o q=>k it (by simp) o q⟩
 item:=by
  intro X L G J hc i pins s σ H E I g st V
  obtain ⟨⟨old,s1⟩,t⟩:=st
  obtain ⟨xs,Q,j⟩:=V
  have F:X.A.in1.handled=none:=I.ok.hd hc
  obtain ⟨fp,Pv,S,D,T,a2,a3,a4⟩:=c.draw X L G J i pins s σ H xs X.A.in1 I (g it (by simp)) t Q F
  have one:=fun zs (h:C H zs)=>c.one X L G J pins s σ H zs xs I h Q
  subst L G J
  obtain ⟨o2,ac,_⟩:=c.obj _ _ t
  refine E3 D s1 T j B (a4 e (g e (by simp)) B) fun u h' tk pu so si st ad kp=>?_
  obtain ⟨x,Y,ru⟩:=a3 i u pu
  refine ⟨_,rfl,DK so fun h2 se sb=>?_⟩
  have Z:s.heap.objs.size≠e:=CA (AG s1)
  have W:h2.get? s.heap.objs.size=some {cls:=.type "tuple",data:=.seq #[.int i tk,u]}:=(sb.2 _ Z).trans st
  have R:H s.heap.objs.size=none:=I.hok.fresh (AI _)
  have f:∀ b o,b∉[e,it]->s.heap.get? b=some o->h2.get? b=some o:=fun b o d q=>by
   simp only[AT,C4,or_false,not_or] at d
   exact (sb.2 b d.1).trans (kp b o d.1 d.2 q)
  have O:∀ b l,H b=some l->b∉[e,it]:=fun b l q p=>by rw[(g b p).1] at q;cases q
  have M:HOk X.prog X.w H h2:=fun b l q=>by
   refine (I.hok b l q).stay (fun c' v' a q'=>f c' v' ?_ q') (fun _ q=>q) (fun _ _ q=>q) fun _ _ q=>q
   rcases a with p|p
   .rw[p];exact O b l q
   .exact O c' _ p
  have N:HOk X.prog X.w (upd H s.heap.objs.size (.tup [.int i,x])) h2:=HOk.track M R ⟨by show 2<=sizeLine;decide,[.int i tk,u],.cons ⟨_,rfl⟩ (.cons ru .nil),⟨_,W,⟨rfl,rfl⟩,_,rfl⟩⟩
  have y:∀ b l,H b=some l->b≠s.heap.objs.size:=fun b l q=>bF q R
  have I2:Inv X pins σ (upd H s.heap.objs.size (.tup [.int i,x])) {s with heap:=h2,gens:=s.gens,drawn:=s.drawn,toks:=tk+1}:=by
   refine I.step (ch:=[e,it]) (fun b d=>?_) (fun b o _ _ a q _=>f b o a q) (fun b o _ _ a q _=>⟨o.slots,f b o a q⟩)
    (fun b o _ q n=>by rw[aE (A3 (AG q))];exact n) (fun b o a q=>⟨o,f b o a q⟩) (fun b ys q=>by rw[aE (y b _ q)];exact q) (fun b o l q=>by rw[aE (y b _ q)];exact q)
    (fun b ps q=>by rw[aE (y b _ q)];exact q) (fun m hm=>?_) N I.bare
   .obtain ⟨e0,e1,e2,e3,e4,e5⟩:=g b d
    exact ⟨e3,e1,e4,e5⟩
   .obtain ⟨o,aa,ep,ho,r⟩:=hm
    exact ⟨o,aa,ep,f _ o (fun p=>(g _ p).2.1 rfl) ho,r⟩
  refine ⟨.ref s.heap.objs.size,_,I2,rfl,⟨_,x,R,rfl,rfl,fun zs U=>by rw[one zs U];exact Y⟩,⟨⟨_,by simpa using se⟩,c.keep _ _ _ (a2 _ _ si) fun o q=>(sb.2 it B.symm).trans q⟩,fun b d=>?_⟩
  rw[aE]
  .exact (g b d).1
  .intro p
   have j:b < s.heap.objs.size:=by
    simp only[AT,C4,or_false] at d
    rcases d with rfl|rfl
    · exact AG s1
    · exact AG ac
   rw[p] at j
   exact absurd j (BF _)
 done:=by
  intro X L G J hc i pins s σ H E I g st V
  obtain ⟨⟨old,s1⟩,t⟩:=st
  obtain ⟨xs,Q,rfl⟩:=V
  have F:X.A.in1.handled=none:=I.ok.hd hc
  obtain ⟨fp,Pv,S,D,T,a2,a3,a4⟩:=c.draw X L G J _ pins s σ H xs X.A.in1 I (g it (by simp)) t Q F
  subst L G J
  obtain ⟨g0,g1,g2,g3,g4,g5⟩:=g it (by simp)
  exact E5 D s1 T fun h' eb=>⟨rfl,I.turned (t':=s.toks) (fun b o d q=>eb b o d q) g0 g1 g3 g4 g5⟩
 self:=fun _ _ _ _ _ st h=>CY st.1.choose_spec h
def aCV(K:Frag)(ta:TA):TI:=fun σ H R=>ta σ H fun vs H1=>∃ x C,vs=[x]/\aBS K H1 x C/\R (Itn C) H1
theorem aEG{X:Cx}{es:List E1}{k1}{tpos:Pos}{a:E1}{ta:TA}{p pos:Pos}(r:Gl X "enumerate")(y:X.mg "enumerate"=none)(v:PA X [a] ta)(i:starEach [a] X.env=[(false,eval a X.env)]:=by rfl) :
  PI X (.Tuple es k1 tpos) (.Call (.Name "enumerate" p) [a] [] pos) (aCV X.K ta):=by
 intro pins s σ H R I h
 refine Call_ (jS I r y DI (B7 (thn (v pos pins s σ H _ I h) fun us s1 d=>?_) i rfl))
 obtain ⟨vs,H1,c,m,t⟩:=d
 obtain ⟨x,C,rfl,k,q⟩:=t
 obtain ⟨u,rfl,B⟩:=lA m
 obtain ⟨G,F,j,o,E,A⟩:=aBT c B k
 refine Zp.aBU (j _ fun _ _ e=>e) o fun h' f g D w=>?_
 have n:Inv X pins σ H1 {s1 with heap:=h'}:=c.kept (t':=s1.toks) w
 refine CY f ?_
 refine ⟨s1.heap.objs.size+1,[s1.heap.objs.size+1,s1.heap.objs.size],_,_,H1,rfl,n,zR (E _) (CA (D5 _)),⟨⟨_,f⟩,A _ _ g⟩,fun b l=>?_,q⟩
 rcases AT.mp l with z|z
 .subst z
  exact c.fpOk (C0 _) (c.hok.fresh (C0 _))
 .obtain rfl:b=s1.heap.objs.size:=by simpa using z
  exact c.fpOk (AI _) (c.hok.fresh (AI _))
end L2
namespace Fl
open PySem L2 PyProof.Rows
def uF(p:Dz×Nat):Dz:=.tuple [.int (p.2:Int),p.1]
def pB(x:Dz):R (List Dz):=(cS x).bind fun xs=>.ok (xs.zipIdx.map uF)
theorem aEH{K:Frag}{F B:Hp}{C:Col}{us:List V}{xs:List Dz}(k:xs.length<=16777216)(h1:∀ H1,aH F H1->aH B H1->C H1 us)(d1:DatVs K F us xs):Yld K (Itn C) F B (xs.zipIdx.map uF) where
 len:=by rw[dD,AQ,EJ];exact k
 go:=fun i g H1 b a d hi=>by
  rw[AQ,EJ] at hi
  have c:aH F H1:=fun x o z=>a x o (b x o z)
  exact ⟨us,h1 H1 c d,by rw[d1.length];exact hi⟩
 yld:=fun i g H1 v H2 x b a d y e=>by
  obtain ⟨p,u,f,rfl,rfl,l⟩:=y
  have c:aH F H1:=fun x o z=>a x o (b x o z)
  obtain ⟨dx,e1,h⟩:=d1.get (l us (h1 H1 c d))
  rw[BC,List.getElem?_zipIdx,e1] at e
  simp only[Option.map_some,EZ] at e
  cases e
  have j:=aH.upd (o:=.tup [.int i,u]) (bS a f)
  exact ⟨_,Ext.new a f,.tup (SqT.of aS) (.cons (.int _) (.cons ((h.same b).same j) .nil))⟩
 stop:=fun g H1 b a d=>by
  have c:aH F H1:=fun x o z=>a x o (b x o z)
  refine ⟨us,h1 H1 c d,?_⟩
  rw[AQ,EJ,d1.length]
section
variable{X:Cx}{c:Ct}{E:XK}{tg e:E1}
theorem aEI{f:Sg->R Dz}(d:X.K=c.K)(h:PI X tg e (aCV X.K (eF (tV (a8 c) c E f) iC))):PIf X c E tg e (e1 pB f):=PI.imp h fun σ H Q a=>by
 obtain ⟨ρ,F,ab,k⟩:=a
 refine ⟨ρ,F,ab,(Rk.bind k).imp fun x _ q v j H' s r=>?_⟩
 unfold pB at q
 cases e1:cS x with
 | bad=>rw[e1] at q;exact q.elim
 | ex e=>exact absurd e1 zP
 | ok xs=>
  rw[e1] at q
  obtain ⟨b,us,i,g,l⟩:=aEF s.fh r e1
  rw[d]
  exact ⟨v,b,rfl,i,Rk.ok q _ H' j H' s (bR _) (aEH (xV e1) (fun H1 _ z=>g H1 z) l)⟩
end
def kK(i:Nat)(tb:List (Str×Bool)):Sg->R Dz:=fun ρ=>match ρ[i]? with
 | some (some (.x e))=>(match tb.lookup e.c with
  | some b=>.ok (.bool b)
  | none=>.bad)
 | _=>.bad
def oF(K:Frag)(mg:Str->O9 V9)(cv:V9)(tb:List (Str×Bool)):Prop:=∀ p∈tb,∃ W C,SX.ExcC K W C/\mg p.1=some (.ref C)/\PySem.W.kitOne K (.ref C) cv=some p.2
def IsA(K:Frag)(mg:Str->O9 V9)(q:Str)(tb:List (Str×Bool)):Prop:=∃ D,mg q=some (.ref D)/\oF K mg (.ref D) tb
theorem rG{K:Frag}{mg:Str->O9 V9}{a:V9}{tb:List (Str×Bool)}{W C:Az}{nm:Str}{b:Bool}(c:SX.ExcC K W C)(m:mg nm=some (.ref C))(k:PySem.W.kitOne K (.ref C) a=some b)(t:oF K mg a tb):oF K mg a ((nm,b)::tb):=fun p d=>by
 rcases AT.mp d with rfl|h
 · exact ⟨W, C, c, m, k⟩
 · exact t p h
theorem wA{K:Frag}{mg:Str->O9 V9}{b:V9}:oF K mg b []:=fun p a=>nomatch a
theorem kU{K:Frag}{mg:Str->O9 V9}{W C:Az}{nm q:Str}{b:Bool}(c:SX.ExcC K W C)(m:mg nm=some (.ref C))(i:Is1 K mg nm q b):IsA K mg q [(nm,b)]:=by
 obtain ⟨D,d,h1,h2,a⟩:=i
 rw[m] at h2
 cases h2
 exact ⟨D,h1,rG c m a wA⟩
theorem aBV{K:Frag}{mg:Str->O9 V9}{tb:List (Str×Bool)}{W C:Az}{nm:Str}{T:String}{b:Bool}(c:SX.ExcC K W C)(m:mg nm=some (.ref C))(i:uB K mg nm T b)(t:oF K mg (.type T) tb):oF K mg (.type T) ((nm,b)::tb):=by
 obtain ⟨d,h2,a⟩:=i
 rw[m] at h2
 cases h2
 exact rG c m a t
theorem uG{β:Type}{x:Str}{b:β}:∀ {tb:List (Str×β)},tb.lookup x=some b->(x,b)∈tb
 | [],h=>by cases h
 | (y,c)::t,h=>by
  rw[A0] at h
  cases q:(x == y) with
  | true=>rw[q] at h;cases h;rw[DH q];exact AX
  | false=>rw[q] at h;exact AL _ (uG h)
section
variable{X:Cx}{c:Ct}{E:XK}{e:E1}
theorem zS{i:Nat}{tb:List (Str×Bool)}{v:V}{d:V9}(n:X.mg=c.mg)(g:n6 v=some d)(is:oF X.K X.mg d tb)
  (h:PE X e (tCB (fun xs H Q=>∃ x c t d b,xs=[x,c]/\TyX X.K H x t/\n6 c=some d/\PySem.W.kitOne X.K t d=some b/\Q (.bl b) H) (eF (gR i) (eF (tC v) iC)))):PD X c E e (kK i tb):=PE.imp h fun σ H Q ⟨ρ,F,ab,k⟩=>by
 unfold kK at k
 split at k
 .rename_i o hi
  split at k
  .rename_i b m
   obtain ⟨W,C,h1,h2,f⟩:=is _ (uG m)
   obtain ⟨a,l,j⟩:=aJC n h1 h2 ab hi rfl
   exact ⟨_,l,_,_,_,_,b,rfl,j,g,f,Rk.ok k _ F H (Ext.refl ab.fh) (.bl b)⟩
  .exact k.elim
 .exact k.elim
theorem mP{i:Nat}{tb:List (Str×Bool)}{q:Str}(a:X.mg=c.mg)(is:IsA X.K X.mg q tb)
  (h:∀ D,X.mg q=some (.ref D)->PE X e (tCB (fun xs H Q=>∃ x c t cv b,xs=[x,c]/\TyX X.K H x t/\n6 c=some cv/\PySem.W.kitOne X.K t cv=some b/\Q (.bl b) H) (eF (gR i) (eF (tC (.ref D)) iC)))):PD X c E e (kK i tb):=by
 obtain ⟨D,h1,h2⟩:=is
 exact zS a rfl h2 (h D h1)
def UpK(K:Frag)(mg:Str->O9 V9)(cl:List Str):Prop:=∃ Wc bm,mg "WayError"=some (.ref Wc)/\SX.ExcAny K Wc bm/\nG K mg Wc cl
end
end Fl
namespace Zp
open PySem
def Raw(h:H9)(d:Az)(ar:Array DictEntry)(ep:Nat):Prop:=∃ o,h.get? d=some o/\o.ExactDict/\o.data=.dict ar ep
end Zp
namespace Fl
open PySem L2 PyProof.Rows
section
variable{X:Cx}{c:Ct}{E:XK}{tg e:E1}
end
end Fl
namespace Zp
open PySem
structure Jz(P1 P2:Nat->V9->Prop)(S1 S2:Nat->Heap->Prop)(s0:Heap)(z TI TO i1 i2 S:Az)(n:Nat)(acc:Array V9)(h:Heap):Prop where
 size:acc.size<=n
 inc:∀ (j k p q:Nat),j < k->acc[j]? = some (.ref p)->acc[k]? = some (.ref q)->p < q
 top:∀ (j p:Nat),acc[j]? = some (.ref p)->p < h.objs.size
 told:∀ (j:Nat) v,acc[j]? = some v->∃ p x y,v=.ref p/\S < p/\IsPair h p x y/\P1 j x/\P2 j y
 s1:S1 acc.size h
 s2:S2 acc.size h
 ti:IsPair h TI (.ref i1) (.ref i2)
 keep:∀ c o,c≠z->c≠TO->c≠i1->c≠i2->c≠S->s0.get? c=some o->h.get? c=some o
 big:S < h.objs.size
 st:(acc.size=0/\IsZip h z TI TO .none/\∃ a b,IsPair h TO a b)\/(0 < acc.size/\∃ (T:Az) (bb:Bool) (o:Obj),aJG h z TI TO (rawInt T) (.bool bb)/\h.get? T=some o/\S < T)
end Zp
namespace L2
open PySem PySem.Spec PyProof.Rows
structure LZ(H1 H2:Hp)(xs ys:List V)(l:Az)(ps:List Az):Prop where
 same:∀ b o,H1 b=some o->H2 b=some o
 new:H1 l=none
 lst:H2 l=some (.lst (ps.map .ref))
 len:ps.length=min xs.length ys.length
 tup:∀ (j:Nat) p,ps[j]? = some p->H1 p=none/\∃ u v,xs[j]? = some u/\ys[j]? = some v/\H2 p=some (.tup [u,v])
end L2
namespace HT
open PySem PySem.Spec PyProof.Rows L2
end HT
namespace Fl
open PySem L2 PyProof.Rows
end Fl
namespace L2
open PySem PySem.Spec PyProof.Rows
end L2
namespace Mc
open PySem L2 PyProof.Rows Fl
noncomputable def lR:Sg->R Fw:=(bX (vD (e1 dLen (e2 dIx (e2 dIx (rV 0) (eC (.int 0))) (eC (.int 1))))))
noncomputable def iH:List A->R A:=fnF 1 lR
noncomputable def j0:Sg->R Fw:=(aR (bO 2 (vD (eSl dSl (eC (.str "abc")) oNo (oSo (rV 0)))))
 (aR (kJ (e1 r6 (eV 1)) (stT [(stN 3),(stN 4)]) (sIf (e1 asB (e2 dNin (rV 4) (rV 2))) (o9 "NoStrip" ["at"] (aD (eV 3) a6)) sNx))
 (bX (vV 1))))
noncomputable def f7:List A->R A:=fnF 5 j0
noncomputable def mQ:Sg->R Fw:=(bX (bA 2 f7 (aD (bA 1 iH (aD (vV 0) a6)) (aD (vV 1) a6))))
noncomputable def bM:List A->R A:=fnF 2 mQ
noncomputable def pC:Sg->R Fw:=(aR (xO 4)
 (aR (kS (xK (e1 asB (e2 dIsnt (rV 2) (eC .none))) (e1 asB (e2 dEq (e2 dIx (rV 2) (eC (.int 0))) (rV 3)))) (aR (sIf (e1 asB (xP false 4 (eV 2))) (bX (vD (eC .none))) sNx)
 (aR (xQ 4 (eV 2) (eC (.bool true)))
 (aR (bO 2 (vD (eIf (e1 asB (e2 dEq (rV 3) (eC (.int 1)))) (e2 dIx (e2 dIx (rV 1) (eC (.int 0))) (e2 dIx (rV 2) (eC (.int 1)))) (e2 dIx (e2 dIx (rV 0) (eC (.int 1))) (e2 dIx (rV 2) (eC (.int 1)))))))
 (bO 3 (vD (e1 dNeg (rV 3))))))))
 (bX (vV 2))))
noncomputable def jM:List A->R A:=fnF 5 pC
noncomputable def uH:Sg->R Fw:=(aR (bO 2 (vD (e1 dTup (eL (kB [none,some 0,some 1] (e1 cS (e2 dIx (rV 0) (eC (.int 0)))) (stN 0) xM (eA (bA 4 jM (aD (vV 1) (aD (vV 2) (aD (vV 0) (aD (vD (eC (.int 1))) a6)))))))))))
 (aR (bO 3 (vD (e1 dTup (eL (kB [none,some 0,some 1] (e1 cS (e2 dIx (rV 1) (eC (.int 1)))) (stN 0) xM (eA (bA 4 jM (aD (vV 1) (aD (vV 2) (aD (vV 0) (aD (vD (e1 dNeg (eC (.int 1)))) a6)))))))))))
 (bX (vD (oA (aD (eV 2) (aD (eV 3) a6)))))))
noncomputable def aBW:List A->R A:=fnF 4 uH
end Mc
namespace Mc
open PySem L2 PyProof.Rows
theorem pD(l:List Nat)(a:Nat):∀ n:Nat,a+n<=l.length->((List.range n).map fun k=>a+k).filterMap (fun i=>l[i]?)=(l.drop a).take n
 | 0,_=>rfl
 | n+1,h=>by
  rw[List.range_succ,BW,List.filterMap_append,pD l a n (by omega),List.take_add_one,List.getElem?_drop]
  have hl:a+n < l.length:=by omega
  rw[AS hl]
  show _++List.filterMap (fun i=>l[i]?) [a+n]=_
  rw[C6,AS hl];rfl
theorem rH{z:Str}{a b:Nat}(h1:a<=b)(h2:b<=z.cps.toList.length):Txt.slice z (some (a:Int)) (some (b:Int))=⟨((z.cps.toList.drop a).take (b - a)).toArray⟩:=by
 have f:z.length=z.cps.toList.length:=by rw[BN];rfl
 unfold Txt.slice
 rw[StrLaws.strSliceIndices_plain h1 (by rw[f];exact h2)]
 have e:((List.range (b - a)).map fun k=>a+k).filterMap (fun i=>z.cps[i]?)=(z.cps.toList.drop a).take (b - a):=by
  rw[<-pD z.cps.toList a (b - a) (by omega)]
  congr 1
  funext i
  rw[DG]
 rw[e]
 by_cases c:(1 == 1 && (((List.range (b - a)).map fun k=>a+k).length == z.length))=true
 .have j:b - a=z.length:=by
   rw[AW] at c
   simpa using c.2
  have g:a=0:=by omega
  have h:b=z.cps.toList.length:=by omega
  have e2:(z.cps.toList.drop a).take (b - a)=z.cps.toList:=by rw[g,h,List.drop_zero,Nat.sub_zero,DF (AI _)]
  rw[e2]
  split
  .exact vQ (by simp)
  .rfl
 .split
  .rename_i d
   exact absurd d c
  .rfl
theorem lS{z:Str}{i:Nat}(h:i<=z.cps.toList.length):Txt.slice z none (some (i:Int))=⟨(z.cps.toList.take i).toArray⟩:=by
 have e:Txt.slice z none (some (i:Int))=Txt.slice z (some ((0:Nat):Int)) (some (i:Int)):=by unfold Txt.slice;rw[StrLaws.sliceIdx_none_lo];rfl
 rw[e,rH (EH _) h];simp
theorem xW{z:Str}{i:Nat}(h:i<=z.cps.toList.length):Txt.slice z (some (i:Int)) none=⟨(z.cps.toList.drop i).toArray⟩:=by
 have a:z.length=z.cps.toList.length:=by rw[BN];rfl
 have e:Txt.slice z (some (i:Int)) none=Txt.slice z (some (i:Int)) (some ((z.cps.toList.length:Nat):Int)):=by unfold Txt.slice;rw[StrLaws.sliceIdx_none_hi,a]
 rw[e,rH h (AI _),DF (by simp)]
end Mc
namespace Fl
open PySem L2 PyProof.Rows
@[simp] theorem dP(d:Dz)(ρ:Sg):eC d ρ=.ok d:=id rfl
@[simp] theorem dE{α β:Type}(g:α->R β)(f:Sg->R α)(ρ:Sg):e1 g f ρ=(f ρ).bind g:=id rfl
@[simp] theorem dQ{α β γ:Type}(g:α->β->R γ)(f:Sg->R α)(a:Sg->R β)(ρ:Sg):e2 g f a ρ=(f ρ).bind fun x=>(a ρ).bind fun y=>g x y:=id rfl
@[simp] theorem fW(i:Nat)(ρ:Sg):eV i ρ=match ρ[i]? with|some (some (.d x))=>.ok x|_=>.bad:=id rfl
@[simp] theorem d5(i:Nat)(ρ:Sg):rV i ρ=match ρ[i]? with|some (some (.d x))=>.ok x|some (some (.l xs))=>.ok (.list xs)|_=>.bad:=id rfl
@[simp] theorem cE(i:Nat)(ρ:Sg):vV i ρ=match ρ[i]? with|some (some (.d x))=>.ok (.d x)|some (some (.x e))=>.ok (.x e)|some (some (.g k n f))=>.ok (.g k n f)|some (some (.f kvs))=>.ok (.f kvs)|_=>.bad:=id rfl
@[simp] theorem eK(f:Sg->R Dz)(ρ:Sg):vD f ρ=(f ρ).bind fun x=>.ok (.d x):=id rfl
@[simp] theorem eM(x:Dz):getD (.d x)=.ok x:=id rfl
@[simp] theorem fX(f:Sg->R A)(ρ:Sg):eA f ρ=(f ρ).bind getD:=id rfl
@[simp] theorem jA(f:Sg->R (List Dz))(ρ:Sg):eL f ρ=(f ρ).bind fun xs=>.ok (.list xs):=id rfl
@[simp] theorem bL{α:Type}(ρ:Sg):(a6 (α:=α)) ρ=.ok []:=id rfl
@[simp] theorem a9{α:Type}(f:Sg->R α)(g:Sg->R (List α))(ρ:Sg):aD f g ρ=(f ρ).bind fun x=>(g ρ).bind fun xs=>.ok (x::xs):=id rfl
@[simp] theorem aEJ(f:Sg->R (List Dz))(ρ:Sg):oA f ρ=(f ρ).bind fun xs=>if xs.length<=16777216 then .ok (.tuple xs) else .bad:=id rfl
@[simp] theorem aJR(f:Sg->R (List Dz))(ρ:Sg):p6 f ρ=(f ρ).bind fun xs=>if xs.length<=16777216 then .ok xs else .bad:=id rfl
@[simp] theorem bE(n:Nat)(G:List A->R A)(f:Sg->R (List A))(ρ:Sg):bA n G f ρ=(f ρ).bind fun as=>if as.length=n then G as else .bad:=id rfl
@[simp] theorem cG(n:Nat)(fb:Sg->R Fw)(b:List A):fnF n fb b=(fb (b.map some++List.replicate (n - b.length) none)).bind fun w=>match w with | .rt (.l _)=>.bad | .rt a=>.ok a | .nx _=>.ok (.d .none)|_=>.bad:=id rfl
@[simp] theorem f8(ρ:Sg):sNx ρ=.ok (.nx ρ):=id rfl
@[simp] theorem bU(f g:Sg->R Fw)(ρ:Sg):aR f g ρ=(f ρ).bind fun w=>match w with | .nx ρ'=>g ρ'|w=>.ok w:=id rfl
@[simp] theorem d7(f:Sg->R A)(ρ:Sg):bX f ρ=(f ρ).bind fun a=>.ok (.rt a):=id rfl
@[simp] theorem aJI(ρ:Sg):aH2 ρ=.ok (.rt (.d .none)):=id rfl
@[simp] theorem fQ(t:Sg->R Bool)(f g:Sg->R Fw)(ρ:Sg):sIf t f g ρ=(t ρ).bind fun b=>if b=true then f ρ else g ρ:=id rfl
@[simp] theorem aKB{α:Type}(t:Sg->R Bool)(f g:Sg->R α)(ρ:Sg):eIf t f g ρ=(t ρ).bind fun b=>if b=true then f ρ else g ρ:=id rfl
@[simp] theorem cK(i:Nat)(f:Sg->R A)(ρ:Sg):bO i f ρ=(f ρ).bind fun a=>.ok (.nx (ρ.set i (some a))):=id rfl
@[simp] theorem eR(i:Nat)(f:Sg->R (List Dz))(ρ:Sg):lL i f ρ=(f ρ).bind fun xs=>.ok (.nx (ρ.set i (some (.l xs)))):=id rfl
@[simp] theorem eS(f:Sg->R A)(ρ:Sg):kA f ρ=(f ρ).bind fun _=>.ok (.nx ρ):=id rfl
@[simp] theorem aKC(i:Nat)(f:Sg->R Fw)(ρ:Sg):sFz i f ρ=f (fz i ρ):=id rfl
@[simp] theorem aKZ(i:Nat)(ρ:Sg):fz i ρ=match ρ[i]? with|some (some (.l xs))=>ρ.set i (some (.d (.list xs)))|_=>ρ:=id rfl
@[simp] theorem aJS(i:Nat)(f:Sg->R Dz)(ρ:Sg):oB i f ρ=match ρ[i]? with|some (some (.l xs))=>(f ρ).bind fun x=>if xs.length < 16777216 then .ok (.nx (ρ.set i (some (.l (xs++[x]))))) else .bad|_=>.bad:=id rfl
@[simp] theorem aJT(fs:Dz->Sg->O9 Sg)(f:Sg->R Dz)(ρ:Sg):aI8 fs f ρ=(f ρ).bind fun x=>(tX (fs x ρ)).bind fun ρ'=>.ok (.nx ρ'):=id rfl
@[simp] theorem d8(a:Sg->R (List Dz))(fs:Dz->Sg->O9 Sg)(fb:Sg->R Fw)(ρ:Sg):kJ a fs fb ρ=(a ρ).bind fun xs=>fC fs fb xs ρ:=id rfl
@[simp] theorem eU(js:List (O9 Nat))(a:Sg->R (List Dz))(fs:Dz->Sg->O9 Sg)(c:Sg->R Bool)(b:Sg->R Dz)(ρ:Sg):kB js a fs c b ρ=(a ρ).bind fun xs=>compL fs c b (f6 js ρ) xs:=id rfl
@[simp] theorem aIK(cn:Str)(fs:List Str)(f:Sg->R (List Dz))(ρ:Sg):o9 cn fs f ρ=(f ρ).bind fun xs=>if xs.length=fs.length then .ex ⟨cn,fs.zip xs⟩ else .bad:=id rfl
@[simp] theorem kW(i:Nat)(x:Dz)(ρ:Sg):stN i x ρ=some (ρ.set i (some (.d x))):=id rfl
@[simp] theorem aKD(fs:List (Dz->Sg->O9 Sg))(xs:List Dz)(ρ:Sg):stT fs (.tuple xs) ρ=stL fs xs ρ:=id rfl
@[simp] theorem aJU(ρ:Sg):stL [] [] ρ=some ρ:=id rfl
@[simp] theorem aJJ(f:Dz->Sg->O9 Sg)(fs:List (Dz->Sg->O9 Sg))(x:Dz)(xs:List Dz)(ρ:Sg):stL (f::fs) (x::xs) ρ=(f x ρ).bind (stL fs xs):=id rfl
@[simp] theorem aJV(ρ:Sg):xM ρ=.ok true:=id rfl
@[simp] theorem dW(b:Bool):asB (.bool b)=.ok b:=id rfl
@[simp] theorem aJW(f:Sg->R Bool)(ρ:Sg):tT f ρ=(f ρ).bind fun b=>.ok (!b):=id rfl
@[simp] theorem aJX(f g:Sg->R Bool)(ρ:Sg):xK f g ρ=(f ρ).bind fun b=>if b=true then g ρ else .ok false:=id rfl
@[simp] theorem aKE(f g:Sg->R Bool)(ρ:Sg):bOr f g ρ=(f ρ).bind fun b=>if b=true then .ok true else g ρ:=id rfl
@[simp] theorem aJY(f:Sg->R Dz)(ρ:Sg):aI5 f ρ=(f ρ).bind fun x=>(asB x).bind fun b=>.ok (.bool (!b)):=id rfl
@[simp] theorem aEK(f g:Sg->R Dz)(ρ:Sg):aBA f g ρ=(f ρ).bind fun x=>(asB x).bind fun b=>if b=true then g ρ else .ok (.bool false):=id rfl
@[simp] theorem aKF(f g:Sg->R Dz)(ρ:Sg):eOr f g ρ=(f ρ).bind fun x=>(asB x).bind fun b=>if b=true then .ok (.bool true) else g ρ:=id rfl
@[simp] theorem aKG(g g':Dz->Dz->R Dz)(b fb a:Sg->R Dz)(ρ:Sg):eCh g g' b fb a ρ=(b ρ).bind fun x=>(fb ρ).bind fun y=>(g x y).bind fun z=>(asB z).bind fun k=>if k=true then (a ρ).bind fun w=>g' y w else .ok (.bool false):=id rfl
@[simp] theorem cY{α:Type}(g:Dz->O9 Int->O9 Int->R α)(f:Sg->R Dz)(lo hi:Sg->R (O9 Int))(ρ:Sg):eSl g f lo hi ρ=(f ρ).bind fun x=>(lo ρ).bind fun l=>(hi ρ).bind fun h=>g x l h:=id rfl
@[simp] theorem cZ(ρ:Sg):oNo ρ=.ok none:=id rfl
@[simp] theorem dA(f:Sg->R Dz)(ρ:Sg):oSo f ρ=(f ρ).bind fun x=>match x with | .int i=>.ok (some i)|_=>.bad:=id rfl
@[simp] theorem cW(f:Sg->R Dz)(ρ:Sg):iA f ρ=(f ρ).bind fun x=>match x with | .int j=>iG 0 j|_=>.bad:=id rfl
@[simp] theorem aIB(f g:Sg->R Dz)(ρ:Sg):aDV f g ρ=(f ρ).bind fun x=>(g ρ).bind fun y=>match x,y with | .int i,.int j=>iG i j|_,_=>.bad:=id rfl
@[simp] theorem aJZ(f:Sg->R Dz)(g:Sg->R (O9 Int))(ρ:Sg):aI9 f g ρ=(f ρ).bind fun x=>(g ρ).bind fun o=>if o=some (-1) then aGL x else .bad:=id rfl
@[simp] theorem aJ0(i:Nat)(g:Dz->Dz->R Dz)(f:Sg->R Dz)(ρ:Sg):aI6 i g f ρ=(eV i ρ).bind fun x=>(f ρ).bind fun y=>(g x y).bind fun z=>.ok (.nx (ρ.set i (some (.d z)))):=id rfl
@[simp] theorem aJK(i:Nat)(ρ:Sg):xO i ρ=.ok (.nx (ρ.set i (some (.m [])))):=id rfl
@[simp] theorem aJ1(a:Bool)(i:Nat)(f:Sg->R Dz)(ρ:Sg):xP a i f ρ=(f ρ).bind fun k=>match ρ[i]? with|some (some (.m kvs))=>if dY k (kvs.map (·.1))=true then .ok (.bool (if a=true then !fN kvs k else fN kvs k)) else .bad|some (some (.f kvs))=>if dY k (kvs.map (·.1))=true then .ok (.bool (if a=true then !fN kvs k else fN kvs k)) else .bad|_=>.bad:=id rfl
@[simp] theorem aJL(i:Nat)(f:Sg->R Dz)(ρ:Sg):aH4 i f ρ=match ρ[i]? with|some (some (.m kvs))=>(f ρ).bind fun k=>if dY k (kvs.map (·.1))=true then (match iQ kvs k with|some v=>.ok v|none=>.bad) else .bad|some (some (.f kvs))=>(f ρ).bind fun k=>if dY k (kvs.map (·.1))=true then (match iQ kvs k with|some v=>.ok v|none=>.bad) else .bad|_=>.bad:=id rfl
@[simp] theorem aJM(i:Nat)(f g:Sg->R Dz)(ρ:Sg):xQ i f g ρ=(g ρ).bind fun v=>match ρ[i]? with|some (some (.m kvs))=>(f ρ).bind fun k=>if dY k (kvs.map (·.1))=true/\kvs.length<=16777216 then .ok (.nx (ρ.set i (some (.m (putM kvs k v))))) else .bad|_=>.bad:=id rfl
@[simp] theorem f9(i j:Int):cX (.int i) (.int j)=.ok (.int (i+j)):=id rfl
@[simp] theorem aKH(i j:Int):dSub (.int i) (.int j)=.ok (.int (i - j)):=id rfl
@[simp] theorem aJ2(i j:Int):aH0 (.int i) (.int j)=.ok (.int (i+j)):=id rfl
@[simp] theorem aKI(i:Int):dNeg (.int i)=.ok (.int (-i)):=id rfl
@[simp] theorem aK0(i j:Int):dLt (.int i) (.int j)=.ok (.bool (decide (i < j))):=id rfl
@[simp] theorem aK1(i j:Int):dLe (.int i) (.int j)=.ok (.bool (decide (i<=j))):=id rfl
@[simp] theorem jB(i j:Int):dGt (.int i) (.int j)=.ok (.bool (decide (j < i))):=id rfl
@[simp] theorem aK2(i j:Int):dGe (.int i) (.int j)=.ok (.bool (decide (j<=i))):=id rfl
theorem dX{i j:Int}(h:0 < j):dMod (.int i) (.int j)=.ok (.int (i % j)):=AK h
theorem jF{i j:Int}(h:0 < j)(h2:j < 18446744073709551616):dDiv (.int i) (.int j)=.ok (.int (i / j)):=AK ⟨h,h2⟩
theorem uI{i j:Int}(h : -18446744073709551616 < j)(h2:j < 18446744073709551616):dMul (.int i) (.int j)=.ok (.int (i * j)):=AK (.inr ⟨h,h2⟩)
theorem mR{i j:Int}(h : -18446744073709551616 < i)(h2:i < 18446744073709551616):dMul (.int i) (.int j)=.ok (.int (i * j)):=AK (.inl ⟨h,h2⟩)
@[simp] theorem gA(xs:List Dz):dLen (.list xs)=.ok (.int xs.length):=id rfl
@[simp] theorem aKJ(xs:List Dz):dLen (.tuple xs)=.ok (.int xs.length):=id rfl
theorem aGS{z:Str}(h:z.length<=16777216):dLen (.str z)=.ok (.int z.length):=AK h
@[simp] theorem aKK(xs:List Dz):dTup (.list xs)=.ok (.tuple xs):=id rfl
@[simp] theorem aKL(xs:List Dz):dTup (.tuple xs)=.ok (.tuple xs):=id rfl
@[simp] theorem aKM(xs:List Dz):aGG (.list xs)=.ok xs:=id rfl
@[simp] theorem aKN(xs:List Dz):aGG (.tuple xs)=.ok xs:=id rfl
@[simp] theorem aKO(i:Int):dInt (.int i)=.ok (.int i):=id rfl
@[simp] theorem aKP(b:Bool):dInt (.bool b)=.ok (.int (if b=true then 1 else 0)):=id rfl
@[simp] theorem aK3(x:Dz):dIs x .none=.ok (.bool (iE x)):=id rfl
@[simp] theorem aJ3(x:Dz):dIsnt x .none=.ok (.bool (!iE x)):=id rfl
@[simp] theorem aJ4:iE .none=true:=id rfl
@[simp] theorem aJ5(xs:List Dz):iE (.tuple xs)=false:=id rfl
@[simp] theorem aJ6(i:Int):iE (.int i)=false:=id rfl
@[simp] theorem aJ7(i:Str):iE (.str i)=false:=id rfl
theorem wB{α:Type}{xs:List α}{i:Int}{v:α}(h0:0<=i)(h:xs[i.toNat]? = some v):atI xs i=some v:=by
 obtain ⟨j,rfl⟩:∃ j:Nat,i=j:=⟨i.toNat,by omega⟩
 exact jO (j:=j) h
theorem uJ{α:Type}(x:α)(t:List α):atI (x::t) 0=some x:=jO (j:=0) rfl
theorem wC{α:Type}(x y:α)(t:List α):atI (x::y::t) 1=some y:=jO (j:=1) rfl
theorem aEL{α:Type}(x y z:α)(t:List α):atI (x::y::z::t) 2=some z:=jO (j:=2) rfl
theorem xX{xs:List Dz}{i:Int}{v:Dz}(h:atI xs i=some v):dIx (.tuple xs) (.int i)=.ok v:=by show (match atI xs i with|some v=>R.ok v|none=>.bad)=_;rw[h]
theorem r9{xs:List Dz}{i:Int}{v:Dz}(h:atI xs i=some v):dIx (.list xs) (.int i)=.ok v:=by show (match atI xs i with|some v=>R.ok v|none=>.bad)=_;rw[h]
theorem aIC{z:Str}{i:Int}{u:Nat}(a:z.length<=16777216)(h:atI z.cps.toList i=some u):dIx (.str z) (.int i)=.ok (.str ⟨#[u]⟩):=by
 show (if z.length<=sizeLine then match atI z.cps.toList i with|some u=>R.ok (PyData.str ⟨#[u]⟩)|none=>.bad else .bad)=_
 rw[dD,AK a,h]
@[simp] theorem aKQ(x:Dz)(t:List Dz):dIx (.tuple (x::t)) (.int 0)=.ok x:=xX (uJ x t)
@[simp] theorem aKR(x y:Dz)(t:List Dz):dIx (.tuple (x::y::t)) (.int 1)=.ok y:=xX (wC x y t)
@[simp] theorem aKS(x y z:Dz)(t:List Dz):dIx (.tuple (x::y::z::t)) (.int 2)=.ok z:=xX (aEL x y z t)
@[simp] theorem aGT(x:Dz)(t:List Dz):dIx (.list (x::t)) (.int 0)=.ok x:=r9 (uJ x t)
@[simp] theorem aGU(x y:Dz)(t:List Dz):dIx (.list (x::y::t)) (.int 1)=.ok y:=r9 (wC x y t)
theorem aBX{xs:List Dz}(h:xs.length<=16777216):cS (.tuple xs)=.ok xs:=AK h
theorem aBY{z:Str}(h:z.cps.toList.length<=16777216):cS (.str z)=.ok (z.cps.toList.map fun u=>.str ⟨#[u]⟩):=AK h
theorem zT{x y:Dz}(hx:SeqAt.shaped x=true)(a:SeqAt.shaped y=true):dEq x y=.ok (.bool (PyData.eqv x y)):=AK ⟨hx,a⟩
theorem zU{x y:Dz}(hx:SeqAt.shaped x=true)(a:SeqAt.shaped y=true):dNe x y=.ok (.bool (!PyData.eqv x y)):=AK ⟨hx,a⟩
@[simp] theorem aKT(T:String)(i:Int):jI T (.int i)=.ok (.bool (iP "int" T)):=id rfl
@[simp] theorem aKU(T:String)(i:Str):jI T (.str i)=.ok (.bool (iP "str" T)):=id rfl
@[simp] theorem aKV(T:String)(i:List Dz):jI T (.tuple i)=.ok (.bool (iP "tuple" T)):=id rfl
@[simp] theorem aKW(T:String)(i:List Dz):jI T (.list i)=.ok (.bool (iP "list" T)):=id rfl
@[simp] theorem aKX(T:String)(i:Bool):jI T (.bool i)=.ok (.bool (iP "bool" T)):=id rfl
@[simp] theorem aKY(T:String):jI T .none=.ok (.bool (iP "NoneType" T)):=id rfl
theorem aID(xs:List Dz)(lo hi:O9 Int):dSl (.list xs) lo hi=.ok (.list (mL xs lo hi)):=id rfl
theorem lT{z:Str}{lo hi:O9 Int}(h:z.length<=16777216):dSl (.str z) lo hi=.ok (.str (Txt.slice z lo hi)):=by
 unfold dSl;exact AK h
theorem zV{x y:Str}(h:x.length+y.length<=16777216):cX (.str x) (.str y)=.ok (.str (x++y)):=by
 unfold cX;exact AK (by rw[dD];exact h)
theorem iS{α:Type}{fs:Dz->Sg->O9 Sg}{fb:Sg->R Fw}{d:α->Dz}{xs:List α}{ρ:Sg}(J:Nat->Sg->Prop)(h0:J 0 ρ)(a:∀ (i:Nat) (x:α) (ρ:Sg),xs[i]? = some x->J i ρ->∃ ρ1 ρ2,fs (d x) ρ=some ρ1/\(fb ρ1=.ok (.nx ρ2)\/fb ρ1=.ok (.ct ρ2))/\J (i+1) ρ2) :
  ∃ ρ',fC fs fb (xs.map d) ρ=.ok (.nx ρ')/\J xs.length ρ':=by
 induction xs generalizing ρ J with
 | nil=>exact ⟨ρ,rfl,h0⟩
 | cons x t ih=>
  obtain ⟨ρ1,ρ2,h1,h2,b⟩:=a 0 x ρ rfl h0
  obtain ⟨ρ',g,e⟩:=ih (ρ:=ρ2) (fun i=>J (i+1)) b (fun i y ρ f c=>a (i+1) y ρ (by simpa using f) c)
  refine ⟨ρ',?_,e⟩
  rw[AJ]
  unfold fC
  rw[h1,eJ,R.bind_ok]
  rcases h2 with h2|h2<;>rw[h2]<;>exact g
def been{α:Type}(d:α->Dz)(ps:List α):List (Dz×Dz):=ps.map fun p=>(d p,.bool true)
end Fl
namespace Mc
open PySem L2 PyProof.Rows Fl
theorem aEM{r:Rw}{rs:List Rw}:iH [.d (bG (r::rs))]=.ok (.d (.int r.c.length)):=by
 simp[iH,lR,bG,gS]
theorem aBZ{n:Nat}(h1:1<=n)(e:n<=3)(z:Str):∀ (cs:List Nat) (k:Nat) (u3 u4:O9 A),
  fC (stT [stN 3,stN 4]) (sIf (e1 asB (e2 dNin (rV 4) (rV 2))) (o9 "NoStrip" ["at"] (aD (eV 3) a6)) sNx) (gW k (cs.map fun u=>.str ⟨#[u]⟩)) [some (.d (.int n)),some (.d (.str z)),some (.d (.str (Txt.slice "abc" none (some (n:Int))))),u3,u4] =
  match b8 n k cs with
  | some i=>.ex ⟨"NoStrip",[("at",.int i)]⟩
  | none=>.ok (.nx [some (.d (.int n)),some (.d (.str z)),some (.d (.str (Txt.slice "abc" none (some (n:Int))))),if cs=[] then u3 else some (.d (.int ((k+cs.length - 1:Nat):Int))),if cs=[] then u4 else (cs.getLast?.map fun u=>A.d (.str ⟨#[u]⟩))]):=by
 intro cs
 induction cs with
 | nil=>intro k u3 u4;rfl
 | cons c t ih=>
  intro k u3 u4
  have a:dNin (.str ⟨#[c]⟩) (.str (Txt.slice "abc" none (some (n:Int))))=.ok (.bool (!bB n c)):=by
   show R.ok (PyData.bool (!_))=_
   rw[n9 h1 e]
  rw[AJ,gW]
  unfold fC
  rw[oY]
  cases b:bB n c with
  | false=>simp[a,b]
  | true=>
   simp[a,b,ih]
   cases b8 n (k+1) t with
   | some i=>rfl
   | none=>
    simp
    cases t with
    | nil=>simp
    | cons c' t'=>simp<;>try omega
theorem aIE{n:Nat}(h1:1<=n)(a:n<=3){z:Str}(b:z.cps.toList.length<=16777216):f7 [.d (.int n),.d (.str z)]=match b8 n 0 z.cps.toList with
  | some i=>.ex ⟨"NoStrip",[("at",.int i)]⟩
  | none=>.ok (.d (.str z)):=by
 have e:dSl (.str "abc") none (some (n:Int))=.ok (.str (Txt.slice "abc" none (some (n:Int)))):=by
  show (if ("abc":Str).length<=16777216 then R.ok _ else .bad)=_
  exact AK (by decide)
 have c:r6 (.str z)=.ok (gW 0 (z.cps.toList.map fun u=>.str ⟨#[u]⟩)):=by
  show (if z.cps.toList.length<=16777216 then R.ok _ else .bad)=_
  exact AK b
 simp only[f7,j0,cG,bU,cK,eK,cY,dP,cZ,dA,R.bind_ok,d5,d8,dE,fW,AJ,BE,A1,A5,AH,AV]
 simp only[List.replicate,AC,AB,e,R.bind_ok,AY,AZ,c,aBZ h1 a]
 cases b8 n 0 z.cps.toList with
 | some i=>rfl
 | none=>rfl
theorem Mach.cons{rs:List Rw}{sg:Nat}(M:Mach rs sg):∃ r t,rs=r::t/\r.c.length=sg:=by
 cases rs with
 | nil=>have:=M.len;simp at this
 | cons r t=>exact ⟨r,t,rfl,(M.row r AX).2⟩
theorem zW{rs:List Rw}{sg:Nat}(M:Mach rs sg){z:Str}(b:z.cps.toList.length<=16777216):bM [.d (bG rs),.d (.str z)]=match b8 sg 0 z.cps.toList with
  | some i=>.ex ⟨"NoStrip",[("at",.int i)]⟩
  | none=>.ok (.d (.str z)):=by
 obtain ⟨r,t,rfl,a⟩:=M.cons
 simp[bM,mQ,aEM,a,aIE M.sg1 M.sg3 b]
 cases b8 sg 0 z.cps.toList<;>rfl
theorem aB0{rs:List Rw}{sg:Nat}(M:Mach rs sg){z:Str}(S:aHU sg z.cps.toList):bM [.d (bG rs),.d (.str z)]=.ok (.d (.str z)):=by
 rw[zW M (by have:=S.1;omega),sU S.2]
theorem zX{n:Nat}(h:n<=16777216):iG 0 (n:Int)=.ok ((List.range n).map fun i:Nat=>.int (i:Int)):=by
 unfold iG
 rw[AK (by omega)]
 unfold jZ
 simp
theorem iI(i:Int):SeqAt.shaped (.int i)=true:=id rfl
theorem aGV(i j:Int):PyData.eqv (.int i) (.int j)=decide (i=j):=by
 rw[PyData.eqv.eq_5]
 by_cases h:i=j
 · simp [h]
 · simp [h]
theorem gO(i j:Int):dEq (.int i) (.int j)=.ok (.bool (decide (i=j))):=by rw[zT (iI i) (iI j),aGV]
noncomputable def fY:Sg->R Fw:=(aR (sIf (e1 asB (e2 dLt (rV 1) (e1 dLen (rV 0)))) (bX (vD (e2 dIx (rV 0) (rV 1)))) sNx)
 (bX (vD (eC (.int 0)))))
noncomputable def aZ:List A->R A:=fnF 2 fY
noncomputable def gP:Sg->R Fw:=(aR (bO 2 (vD (e2 dMod (rV 0) (e2 cX (rV 1) (eC (.int 2))))))
 (aR (sIf (e1 asB (e2 dLt (rV 2) (rV 1))) (bX (vV 2)) sNx)
 (bX (vD (e2 dIx (eL (p6 (aD (eC (.str "by")) (aD (eC (.str "out")) a6)))) (e2 dSub (rV 2) (rV 1)))))))
noncomputable def d6:List A->R A:=fnF 3 gP
noncomputable def lrB:Sg->R Fw:=(aR (bO 6 (vD (e2 dMod (rV 0) (e2 dMul (eC (.int 2)) (rV 1)))))
 (aR (bO 0 (vD (e2 dDiv (rV 0) (e2 dMul (eC (.int 2)) (rV 1)))))
 (oB 4 (oA (aD (e2 dDiv (rV 6) (eC (.int 2))) (aD (e2 dSub (eC (.int 1)) (e2 dMul (eC (.int 2)) (e2 dMod (rV 6) (eC (.int 2))))) a6))))))
noncomputable def lU:Sg->R Fw:=(aR (bO 3 (bA 2 d6 (aD (vV 0) (aD (vV 1) a6))))
 (aR (bO 0 (vD (e2 dDiv (rV 0) (e2 cX (rV 1) (eC (.int 2))))))
 (aR (lL 4 (p6 a6))
 (aR (kJ (iA (rV 2)) (stN 5) lrB)
 (bX (vD (oA (aD (eV 3) (aD (e1 dTup (rV 4)) (aD (eA (bA 2 d6 (aD (vV 0) (aD (vV 1) a6)))) a6))))))))))
noncomputable def gJ:List A->R A:=fnF 7 lU
noncomputable def lmB:Sg->R Fw:=(aR (bO 5 (vD (e2 dMul (eC (.int 48271)) (e2 cX (rV 4) (eC (.int 1))))))
 (aR (sIf (e1 asB (e2 dGt (e1 dLen (rV 0)) (eC (.int 0)))) (bO 5 (vD (e2 cX (e2 dIx (rV 0) (e2 (d2 iR) (rV 4) (e2 dSub (e1 dLen (rV 0)) (eC (.int 1))))) (e2 dMul (rV 5) (e1 dInt (e2 dGe (rV 4) (e1 dLen (rV 0)))))))) sNx)
 (oB 3 (eA (bA 3 gJ (aD (vV 5) (aD (vV 1) (aD (vV 2) a6))))))))
noncomputable def gB:Sg->R Fw:=(aR (lL 3 (p6 a6))
 (aR (kJ (iA (rV 1)) (stN 4) lmB)
 (bX (vD (e1 dTup (rV 3))))))
noncomputable def dH:List A->R A:=fnF 6 gB
def a5(ns:List Int):Dz:=.list (ns.map .int)
theorem kX(ns:List Int):dLen (a5 ns)=.ok (.int ns.length):=by unfold a5;rw[gA,AQ]
theorem zY{ns:List Int}{i:Int}(h0:0<=i)(h1:i < ns.length):∃ v,dIx (a5 ns) (.int i)=.ok (.int v):=by
 refine ⟨ns[i.toNat]'(by omega),r9 (wB h0 ?_)⟩
 rw[BC,AS (by omega)];rfl
theorem gK{n:Nat}(h:n<=16777216):iG 0 (n:Int)=.ok ((List.range n).map fun i:Nat=>.int (i:Int)):=zX h
end Mc
namespace Mc
open PySem L2 PyProof.Rows
def zZ(rs:List Rw)(z:List Nat)(s:Int×Int):O9 ((Int×Int)⊕Str):=
 match (mE rs z s).1 with
 | .w x=>some (.inr x)
 | .n q=>some (.inl (s.1+(mE rs z s).2,q))
end Mc
namespace Mc
open PySem L2 PyProof.Rows Fl
theorem jR(z:Str):z.length=z.cps.toList.length:=by simp[Str.length]
def gY(rs:List Rw)(z:List Nat)(s:Int×Int):Prop:=aCJ rs z s/\((wY rs z s=none/\∃ x,(mE rs z s).1=.w x/\aCM (zZ rs z) (0,0)=some x)\/((∃ s',wY rs z s=some s')/\aCM (zZ rs z) (0,0)=none))
end Mc
namespace Fl
open PySem L2 PyProof.Rows
@[simp] theorem aJN(i:Nat)(f:Sg->R (List (Dz×Dz)))(ρ:Sg):aH7 i f ρ=(f ρ).bind fun kvs=>(t8 [] kvs).bind fun res=>.ok (.nx (ρ.set i (some (.m res)))):=id rfl
@[simp] theorem aJ8(ρ:Sg):aJB ρ=.ok []:=id rfl
@[simp] theorem aJO(f g:Sg->R Dz)(r:Sg->R (List (Dz×Dz)))(ρ:Sg):aH6 f g r ρ=(f ρ).bind fun x=>(g ρ).bind fun y=>(r ρ).bind fun t=>.ok ((x,y)::t):=id rfl
@[simp] theorem aIL(i:Nat)(f g:Sg->R Dz)(ρ:Sg):aGO i f g ρ=match ρ[i]? with|some (some (.m kvs))=>(f ρ).bind fun k=>(g ρ).bind fun y=>if dY k (kvs.map (·.1))=true then .ok ((iQ kvs k).getD y) else .bad|_=>.bad:=id rfl
end Fl
namespace Mc
open PySem L2 PyProof.Rows Fl
end Mc
namespace Fl
open PySem L2 PyProof.Rows
theorem wD(i:Nat)(j:O9 Nat)(n:Nat)(G:List A->R A)(f:Sg->R (List A))(cl:List Str)(fs:Sg->R Fw)(ρ:Sg):qF i j n G f cl fs ρ=match f ρ with
 | .ok as=>if as.length=n then (match G as with
  | .bad=>.bad
  | .ok a=>.ok (.nx (putO j a ρ))
  | .ex e=>if cl.contains e.c=true then (fs (ρ.set i (some (.x e)))).bind fun w=>.ok (aBM i w) else .bad) else .bad
 | _=>.bad:=id rfl
theorem z4(i:Nat)(a:List Str)(g:Str)(ρ:Sg):eXF i a g ρ=match ρ[i]? with
 | some (some (.x e))=>if a.contains e.c=true then (match e.fs.lookup g with|some d=>.ok d|none=>.bad) else .bad
 | _=>.bad:=id rfl
theorem wE(i:Nat)(ρ:Sg):aBM i (.nx ρ)=.nx (ρ.set i none):=id rfl
end Fl
namespace Zp
open PySem L2
end Zp
namespace Fl
open PySem L2 PyProof.Rows
end Fl
namespace Zp
open PySem
structure Jk(s0:Heap)(d it S:Az)(ar:Array DictEntry)(ep:Nat)(acc:Array V9)(h:Heap):Prop where
 size:acc.size<=ar.size
 told:acc.toList=(ar.toList.take acc.size).map (·.key)
 iter:h.IsKeyIter it d acc.size ar.size ep
 raw:Raw h d ar ep
 keep:∀ c o,c≠it->c≠S->s0.get? c=some o->h.get? c=some o
end Zp
namespace Fl
open PySem L2 PyProof.Rows
def dPow:Dz->Dz->R Dz
 | .int i,.int j=>if 0<=j/\j<=1000000/\i.natAbs < 2 ^ 64 then .ok (.int (i ^ j.toNat)) else .bad
 | _,_=>.bad
section
variable{X:Cx}{c:Ct}{E:XK}{st:Stmt}
theorem aEN:OpR X (binaryOp .Pow) (r2D (a8 c) (a8 c) (cB c) dPow):=jE aFR (fun _ _ _=>.int _) fun a b d h=>by
 unfold dPow at h;split at h
 .split at h
  · rename_i e; cases h; exact ⟨_, _, rfl, rfl, e, rfl⟩
  · cases h
 .cases h
theorem z5:cR dPow:=by intro a b e h;unfold dPow at h;split at h<;>(try split at h)<;>cases h
end
def aAH:Sg->R Unit:=fun _=>.ok ()
theorem j1{x:Const}{es:List E1}{k:Nat}{p:Pos}{env:Env}:starEach (.Constant x k p::es) env=(false,eval (.Constant x k p) env)::starEach es env:=by rfl
theorem iT{X:Cx}{c:Ct}{E:XK}{a:List Stmt}:iF X c E a mN:=fun _ _ _ _ _ _ ⟨_,_,_,k⟩=>k.elim
def z6(ρ:Sg)(σ:L2.St)(p:Az):Prop:=∀ (j:Nat) (a:A),ρ[j]? = some (some a)->a.own=true->σ[j]? ≠ some (some (.ref p))
structure Own9(c:Ct)(F H:Hp)(ρ:Sg)(σ:L2.St)(i:Nat)(p b:Az)(u:V)(ws:List V):Prop where
 s:σ[i]? = some (some (.ref p))
 ne:p≠b
 hp:H p=some (.lst [u,.ref b])
 hb:H b=some (.lst ws)
 fp:F p=none
 fb:F b=none
 p0:c.H0 p=none
 b0:c.H0 b=none
 np:z6 ρ σ p
 nb:z6 ρ σ b
def aGW(F:Hp)(q:Az):Hp:=fun a=>if a=q then none else F a
def xY(c:Ct)(F:Hp)(D:gY)(s0:O9 (O9 V)):Fw->Prop
 | .nx ρ=>∀ σ' F' H',σ'[0]? = s0->aH F F'->Ab c ρ σ' F' H'->D.nx σ' H'
 | _=>False
theorem xY.same{c:Ct}{F F1:Hp}{D:gY}{s0:O9 (O9 V)}(s:aH F F1):∀ {w:Fw},xY c F D s0 w->xY c F1 D s0 w
 | .nx ρ,h=>fun b d H' e s' ab=>h b d H' e (fun a o z=>s' a o (s a o z)) ab
 | .bk _,h=>h
 | .ct _,h=>h
 | .rt _,h=>h
structure ExtM(F H:Hp)(p:Az)(F' H':Hp):Prop where
 ff:aH F F'
 hh:aH (aGW H p) H'
 fh:aH F' H'
 nw:∀ a,F a=none->F' a≠none->lI (aGW H p) a
section
variable{X:Cx}{c:Ct}{E:XK}{st:Stmt}
end
end Fl
namespace L2
open PySem PySem.Spec PyProof.Rows
section
variable{X:Cx}
end
end L2
namespace Fl
open PySem L2 PyProof.Rows
section
variable{X:Cx}{c:Ct}{E:XK}{e:E1}{st:Stmt}{rest:List Stmt}{pos:Pos}
end
section
variable{X:Cx}{c:Ct}{E:XK}{e:E1}{st:Stmt}
end
end Fl
namespace L2
open PySem PySem.Spec PyProof.Rows
structure DefAtD(K:Frag)(mg:Str->Option V9)(x:Str)(st:Stmt)(ps:List Str)(dvs:List V):Prop where
 ex:∃ f oc od dV kV doc pm an cdv ct osl ds,K.lookup f=some ⟨oc,od,.func (PySem.W.fnOf x x (b9 st) (bD st) (aC st) dV kV doc pm an cdv ct),osl⟩/\PySem.W.codeIn K cdv x=true/\PySem.W.keepIn K (.ref f)=true /\
  cU K (PySem.W.fnOf x x (b9 st) (bD st) (aC st) dV kV doc pm an cdv ct) ps []/\cU K (PySem.W.fnOf x x (b9 st) (bD st) (aC st) dV kV doc pm an cdv ct) ps ds/\aW dvs ds/\mg x=some (.ref f)
def pE(P:P9)(w:W9)(K:Frag)(mg:Str->O9 V9)(base:H9)(CX:CXT)(k:Nat)(x:Str)(ps:List Str)(dvs:List V)(sp:Sp):Prop:=
 ∃ f fd ds,FnOk P w K mg base CX k f fd ps sp/\cU K fd ps []/\cU K fd ps ds/\aW dvs ds/\mg x=some (.ref f)/\PySem.W.keepIn K (.ref f)=true
section
variable{P:P9}{w:W9}{K:Frag}{mg:Str->O9 V9}{base:H9}{x:Str}{st:Stmt}{N ps:List Str}{k:Nat}{sp:Sp}{dvs:List V}
theorem pE.calls{CX:CXT}(C:pE P w K mg base CX k x ps dvs sp):Calls P w K mg base CX k x ps sp:=by
 obtain ⟨f,fd,ds,F,b,_,_,m,a⟩:=C
 exact ⟨f,fd,F,b,m,a⟩
theorem DefAtD.okX(D:DefAtD K mg x st ps dvs)(S:FnScope N ps (aC st))(len:∀ vs H Q E,sp vs H Q E->vs.length=ps.length)
  (a:∀ (f:Az) (cdv:V9) (A:U9) (outer:List Env) (s:S9) (H:Hp) (vs:List V) (Q:VK) (E:XK),Room k (A.deeper (envOfC x (aC st) s.heap.objs.size f cdv))->sp vs H Q E->
   ∃ t,PSs ((dS (CXe P w) P w K mg base N x (aC st) f cdv A outer s H E).fly E) (bD st) t/\t {nx:=fun _ H'=>Q .non H',rt:=Q} (start N vs) H):pE P w K mg base (CXe P w) (k+1) x ps dvs sp:=by
 obtain ⟨f,p,od,o,kV,doc,pm,n,cdv,ct,l,ds,d,b,g,j,i,v,m⟩:=D.ex
 refine ⟨f,_,ds,wP d b S len fun A outer s H vs Q E e c=>?_,j,i,v,m,g⟩
 obtain ⟨t,h,q⟩:=a f cdv A outer s H vs Q E e c
 exact ⟨t,h.unfly fun _ _ z=>qV z,q⟩
end
end L2
namespace Fl
open PySem L2 PyProof.Rows
abbrev D3:=Dz×Dz×List Dz
def aFE(f:Sg->R Fw)(g:Sg->R D3):Sg->R D3:=fun ρ=>(f ρ).bind fun w=>match w with
 | .nx ρ'=>g ρ'
 | _=>.bad
def aFF(f g:Sg->R Dz)(h:Sg->R (List Dz)):Sg->R D3:=fun ρ=>(f ρ).bind fun x=>(g ρ).bind fun y=>(h ρ).bind fun z=>.ok (x,y,z)
def qI(P:P9)(w:W9)(K:Frag)(mg:Str->O9 V9)(base:H9)(T:Hp)(k:Nat)(x:Str)(ps:List Str)(dvs:List V)(G:List A->R A):Prop:=pE P w K mg base (CXe P w) k x ps dvs (spF (gOf P w K mg base T) K mg ps.length G)
theorem aB1{P:P9}{w:W9}{K:Frag}{mg:Str->O9 V9}{base:H9}{T:Hp}{x:Str}{st:Stmt}{N ps:List Str}{dvs:List V}{k:Nat}{fb:Sg->R Fw}(D:DefAtD K mg x st ps dvs)(S:FnScope N ps (aC st))
  (a:∀ (f:Az) (cdv:V9) (A:U9) (outer:List Env) (s:S9) (H F:Hp) (E:XK),Room k (A.deeper (envOfC x (aC st) s.heap.objs.size f cdv))->
   iF ((dS (CXe P w) P w K mg base N x (aC st) f cdv A outer s H E).fly E) ⟨K,mg,w,F,H,gOf P w K mg base T,(envOfC x (aC st) s.heap.objs.size f cdv).cells,fun _=>none⟩ E (bD st) fb):qI P w K mg base T (k+1) x ps dvs (fnF N.length fb):=by
 refine D.okX S (fun vs H Q E h=>?_) (fun f cdv A outer s H vs Q E e h=>?_)
 .obtain ⟨F,g,_,_,h2,b,_⟩:=h
  rw[h2.len,b]
 .obtain ⟨F,g,d,h1,h2,b,c⟩:=h
  exact ⟨_,a f cdv A outer s H F E e,kT d h1 h2 c⟩
structure OwnL(c:Ct)(F H:Hp)(σ:L2.St)(i:Nat)(p:Az)(qs:List Az)(vss:List (List V)):Prop where
 s:σ[i]? = some (some (.ref p))
 hp:H p=some (.lst (qs.map V.ref))
 fp:F p=none
 p0:c.H0 p=none
 np:p∉qs
 nd:qs.Nodup
 len:vss.length=qs.length
 q:∀ (j:Nat) (q:Az) (vs:List V),qs[j]? = some q->vss[j]? = some vs->H q=some (.lst vs)/\F q=none/\c.H0 q=none
end Fl
namespace Mc
open PySem L2 PyProof.Rows
section
variable{K:Frag}{h:H9}{mg:Str->O9 V9}
theorem z7{x:Str}{st:Stmt}{ps:List Str}{f Td:Az}{o:V9}{od g:O9 Az}{i p:Array (O9 V9)}{kV doc pm e ct:V9}{z:Str}{t n:Nat}(X:K.In h)(G:h.Ns mainGlobals mg)
  (a:PySem.W.nsIn K mainGlobals x=some (some (.ref f))) (l:K.lookup f=some ⟨o,od,.func (PySem.W.fnOf x x (b9 st) (bD st) (aC st) (.ref Td) kV doc pm g e ct),i⟩)
  (d:K.lookup Td=some ⟨.type "tuple",none,.seq #[.str z t] n,p⟩)
  (c:PySem.W.codeIn K e x=true) (k:PySem.W.keepIn K (.ref f)=true)
  (b:∀ (Td:Az) (kV doc pm:V9) (g:O9 Az) (e ct u:V9) (us:List V9),us.length=ps.length->∃ q,bindArgs (PySem.W.fnOf x x (b9 st) (bD st) (aC st) (.ref Td) kV doc pm g e ct) ⟨us,[]⟩=seqItems? (.ref Td) >>= q/\q (some #[u])=pure (ps.zip us))
  (b2:∀ (Td:Az) (kV doc pm:V9) (g:O9 Az) (e ct u:V9) (us:List V9),us.length+1=ps.length->∃ q,bindArgs (PySem.W.fnOf x x (b9 st) (bD st) (aC st) (.ref Td) kV doc pm g e ct) ⟨us,[]⟩=seqItems? (.ref Td) >>= q/\q (some #[u])=pure (ps.zip (us++[u]))):DefAtD K mg x st ps [.str z]:=by
 refine ⟨f,o,od,.ref Td,kV,doc,pm,g,e,ct,i,[.str z t],l,c,k,fun s us m j=>?_,fun s us m j=>?_,.cons ⟨_,rfl⟩ .nil,BT X G a⟩
 .rw[BV] at j ⊢
  obtain ⟨q,e1,e2⟩:=b Td kV doc pm g e ct (.str z t) us j
  exact PySem.W.binds_K m rfl d rfl e1 e2
 obtain ⟨q,e1,e2⟩:=b2 Td kV doc pm g e ct (.str z t) us (by simpa using j)
 exact PySem.W.binds_K m rfl d rfl e1 e2
end
end Mc
namespace Fl
open PySem L2 PyProof.Rows
end Fl
namespace L2
open PySem PySem.Spec PyProof.Rows
theorem aGX{fs ex:List Az}{c:Cv}{d H1:Hp}{h h':H9}(un:Un fs ex d H1 h h')(a:∀ b∈fZ c,H1 b=none)(f:∀ b∈fZ c,h.objs.size<=b):Un fs ex d (pub c H1) h h':=
 ⟨un.keep,un.slot,fun b o e n h2=>by
  rw[iM fun z=>absurd (AN (AG e) (f b z)) (BF _)];exact un.free b o e n h2,un.there,fun b xs q=>fK a _ _ (un.tups b xs q),fun b o u q=>fK a _ _ (un.frzs b o u q),fun b ps q=>fK a _ _ (un.tbls b ps q)⟩
theorem aGY{CX:CXT}{P:P9}{w:W9}{K:Frag}{mg:Str->O9 V9}{base:H9}{k:Nat}{f:Az}{name qual:Str}{params:Arguments}{st:Stmt}{e:E1}{p:Pos}{scope:Scope}{Z kV doc pm a ct oc:V9}{X od:O9 Az}
  {J:Array (O9 V9)} {N ps:List Str} {sp:Sp} {i:Nat} {js:List Nat} (lk:K.lookup f=some ⟨oc,od,.func (PySem.W.fnOf name qual params [st,.Return (some e) p] scope Z kV doc pm X a ct),J⟩) (D:PySem.W.codeIn K a qual=true) (S:FnScope N ps scope)
  (len:∀ vs H Q E,sp vs H Q E->vs.length=ps.length)
  (g:∀ (A:U9) (outer:List Env) (s:S9) (H:Hp) (vs:List V) (Q:VK) (E:XK),Room k (A.deeper (envOfC qual scope s.heap.objs.size f a))->sp vs H Q E->
   PE (dS CX P w K mg base N qual scope f a A outer s H E) e (gR i)/\∃ t,PS (dS CX P w K mg base N qual scope f a A outer s H E) st t/\t {nx:=fun c H1=>∃ v,c[i]? = some (some v)/\(∀ j∈js,s9 (dS CX P w K mg base N qual scope f a A outer s H E) c j)/\∀ B,PubRel (dS CX P w K mg base N qual scope f a A outer s H E) c H1 js B->Q v (pub B H1),rt:=fun _ _=>False} (start N vs) H) :
  FnOk P w K mg base CX (k+1) f (PySem.W.fnOf name qual params [st,.Return (some e) p] scope Z kV doc pm X a ct) ps sp:=by
 refine ⟨len,fun A outer s H args us vs Q E F e0 L r m=>?_⟩
 have hl:=len _ _ _ _ m
 have Y:K.In s.heap:=e0.mod.kin.keeps fun b o e=>(e0.bs b o e).1
 have M:s.heap.NoLimit:=e0.mod.nolimit.keeps fun b o e=>(e0.bs b o e).1
 have h:∀ y∈ps.zip us,scope.names.lookup y.1=some .local\/(scope.names.lookup y.1=some .cell/\((cellsFrom (s.heap.objs.size+1) scope.names []).lookup y.1).isSome=true):=fun C hy=>by
  obtain ⟨n,v⟩:=C
  rcases S.par n (DM hy).1 with q|q
  .exact .inl q
  .exact .inr ⟨q,D1 _ _ _ (.inl q)⟩
 refine D6 F.depth (Y _ _ lk) rfl S.co S.gen rfl (PySem.W.codeRec_of Y D) (L _ _ _ _ ?_)
 refine EL S.kind h fun env T s1 x=>?_
 subst T
 refine ⟨M.keeps x.toInCall.keep,codeAny_func ?_⟩
 obtain ⟨T,t,ht,hq⟩:=g A outer s H vs Q E (F.deeper _) m
 have I:Inv (dS CX P w K mg base N qual scope f a A outer s H E) [] (start N vs) H s1:=qT S F.hd e0 hl r x
 refine DJ (BG (ht [] s1 (start N vs) H _ I hq) (fun fl s' d=>?_) fun e s' d=>d)
 cases fl with
 | next=>
  obtain ⟨c,H1,I1,v,hv,O,q⟩:=d
  refine DJ (wpAny_Return_some (BG (T [] s' c H1 (fun U H'=>U=v/\H'=H1) I1 ⟨v,hv,rfl,rfl⟩) (fun u s2 d=>?_) fun e s' d=>d))
  obtain ⟨U,H',l,rv,e1,e2⟩:=d
  subst e1 e2
  obtain ⟨B,R,ok⟩:=yZ l js O
  have G:=aDO l R ok
  refine ⟨U,pub B H',l.os,l.bare,aGX l.base R.free fun b L=>?_,G.hok,rv,q B R⟩
  obtain ⟨⟨o,v⟩,z⟩:=gI.mp L
  exact (ok b o v z).2.1
 | ret u=>
  obtain ⟨_,_,_,_,_,q⟩:=d
  exact False.elim q
 | brk=>
  obtain ⟨_,_,_,q⟩:=d
  exact False.elim q
 | cont=>
  obtain ⟨_,_,_,q⟩:=d
  exact False.elim q
end L2
namespace Fl
open PySem L2 PyProof.Rows
theorem aEO{a:Cv}{f g F H:Hp}(d:∀ b∈fZ a,H b=none)(e:Ext f g F H):Ext f g (pub a F) (pub a H):=by
 have h:∀ b∈fZ a,F b=none:=fun b c=>bS e.fh (d b c)
 refine ⟨fun b o q=>fK d _ _ (e.hh b o q),fun b o q=>fK h _ _ (e.ff b o q),aBO e.fh,fun b q n=>?_⟩
 by_cases c:b∈fZ a
 · exact .inl (bS e.hh (d b c))
 · rw [iM c] at n; exact e.nw b q n
def fnK(m:Nat)(sl:List Nat)(k n:Nat)(Gm:List A->List Dz->R Dz):List A->R A:=fun as=>match fP sl (as.map some++List.replicate (m - as.length) none) with
 | some caps=>.ok (.g k n (Gm caps))
 | none=>.bad
section
variable{P:P9}{w:W9}{K:Frag}{mg:Str->O9 V9}{base:H9}{T:Hp}
theorem aEP{x:Str}{st d1:Stmt}{e:E1}{p:Pos}{N ps:List Str}{k k' n i:Nat}{q:Str}{qs:List (Pos×Str)}{cls:Str->O9 ClSt}{C:ClSt}{fr:List Str}{o:List Nat}{Gm:List A->List Dz->R Dz}(D:DefAtT K mg base T qs x st ps)(S:FnScope N ps (aC st))(hb:bD st=[d1,.Return (some e) p])
  (hS:cls q=some C) (M:CloOk P w K mg base T C fr k' n Gm) (h1:∀ y,(y,NameKind.free)∈C.scope.names->y∈fr) (h2:∀ y∈fr,(y,NameKind.free)∈C.scope.names) (W:o.map (fun j=>N[j]?)=fr.map some) (hi:∀ j∈o,j≠i) (O:i < N.length) (ae:ps.length<=i)
  (aa:∀ j∈o,∃ y,N[j]? = some y/\(aC st).names.lookup y=some .cell)
  (l:∀ (f c0 P0:Az) (A:U9) (outer:List Env) (s:S9) (H F:Hp) (E:XK),Tb mg base c0 P0->T P0=some (.tbl qs)->Room k (A.deeper (envOfC x (aC st) s.heap.objs.size f (.ref c0)))->
   PE (dS (CXe P w) P w K mg base N x (aC st) f (.ref c0) A outer s H E) e (gR i)/\PSf (dS (CXe P w) P w K mg base N x (aC st) f (.ref c0) A outer s H E) ⟨K,mg,w,F,H,gOf P w K mg base T,(envOfC x (aC st) s.heap.objs.size f (.ref c0)).cells,cls⟩ E d1 (aCU i q)):aO P w K mg base T (k+1) x ps (fnK N.length o k' n Gm):=by
 obtain ⟨f,oc,od,kV,doc,pm,an,c0,ct,ac,P0,lk,U,kp,b,m,t2,t1⟩:=D.ex
 rw[hb] at lk b
 refine ⟨f,_,aGY (i:=i) (js:=o) lk U S (fun vs H Q E h=>?_) (fun A outer s H vs Q E hr h=>?_),b,m,kp⟩
 .obtain ⟨F,c,_,_,h2,W,_⟩:=h
  rw[h2.len,W]
 .obtain ⟨F,c,g0,g1,g2,g3,B⟩:=h
  obtain ⟨he,hd⟩:=l f c0 P0 A outer s H F E t2 t1 hr
  refine ⟨he,_,hd,?_⟩
  have ad:vs.length=c.length:=g2.len
  have ab:=tY (cells:=(envOfC x (aC st) s.heap.objs.size f (.ref c0)).cells) (cls:=cls) (w:=w) (n:=N.length) g0 g1 g2
  refine ⟨_,F,ab,?_⟩
  unfold fnK at B
  cases Y:fP o (c.map some++List.replicate (N.length - c.length) none) with
  | none=>rw[Y] at B;exact B.elim
  | some caps=>
   rw[Y] at B
   intro σ' F' H' s' d
   have r:(c.map some++List.replicate (N.length - c.length) (none:O9 Fl.A)).length=N.length:=by rw[A6,AQ,CS,g3];omega
   have hk:((c.map some++List.replicate (N.length - c.length) none).set i (some (.k q)))[i]? = some (some (Fl.A.k q)):=BR (by rw[r];exact O)
   obtain ⟨v,J,hA⟩:=d.slot i _ hk
   have G:∀ js:List Nat,(∀ j∈js,j≠i)->fP js ((c.map some++List.replicate (N.length - c.length) none).set i (some (.k q)))=fP js (c.map some++List.replicate (N.length - c.length) none):=fun js g=>by
    induction js with
    | nil=>rfl
    | cons j js ih=>
     unfold fP
     rw[A9 (BO (g j AX)),ih fun j h=>g j (AL _ h)]
   have u:=(G o hi).trans Y
   refine ⟨v,J,fun j g=>?_,fun cv R=>?_⟩
   .obtain ⟨y,a1,a2⟩:=aa j g
    obtain ⟨a,ha⟩:=uC u j g
    obtain ⟨v,J,_⟩:=d.slot j a ha
    exact ⟨y,v,a1,a2,rfl,J⟩
   .obtain ⟨S',f1,cl,t,L,cc,Z,I,z⟩:=hA
    have I:cls q=some S':=I
    rw[hS] at I;cases I
    have V:lQ ⟨K,mg,w,F,H,gOf P w K mg base T,(envOfC x (aC st) s.heap.objs.size f (.ref c0)).cells,cls⟩ F' C v:=⟨f1,cl,t,L,cc,Z,z⟩
    refine B v (pub cv F') (pub cv H') (aEO R.free d.all) ?_
    exact aBQ (X:=dS (CXe P w) P w K mg base N x (aC st) f (.ref c0) A outer s H E) rfl rfl rfl rfl d R V M h1 h2 W (fun j g=>g) u
end
end Fl
namespace L2
open PySem PySem.Spec PyProof.Rows
structure ClsM(K:Frag)(C:Az)(m:Str)(f:Az):Prop where
 sp:PySem.W.specialIn K (.ref C) "__getattribute__"=some (some (.builtin "type.__getattribute__"))
 rd:PySem.W.readsIn K C (.type "type")=true
 fc:PySem.W.findCls K (.ref C) (.type "type") m=some (.val (.ref f))
 kp:PySem.W.keepIn K (.ref f)=true
section
variable{X:Cx}{CX:CXT}{k:Nat}{f C:Az}{fd:FuncData}{ps:List Str}{sp:Sp}{dvs:List V}{ds:List V9}{E:XK}{m:Str}{pos apos:Pos}{e o:E1}{es:List E1}{ta:TE}{t:TA}
end
def spO(C:Az)(fs:List Str):Sp:=fun vs H Q _=>∃ x dx us,vs=.ref x::us/\us.length=fs.length/\H x=some (.ins C dx [])/\Q .non (upd H x (.ins C dx (fs.zip us)))
structure MkAt(P:Program)(w:World)(K:Frag)(mg:Str->Option V9)(base:Heap)(k:Nat)(cn:Str)(fs:List Str)(C:Az):Prop where
 m:mg cn=some (.ref C)
 i:∃ f fd,Mk K C f/\FnOk P w K mg base CX0 k f fd ("self"::fs) (spO C fs)/\cU K fd ("self"::fs) []
end L2
namespace Fl
open PySem L2 PyProof.Rows
section
variable{X:Cx}{c:Ct}{E:XK}{e o:E1}{es:List E1}{pos apos:Pos}
def uK(P:P9)(w:W9)(K:Frag)(mg:Str->O9 V9)(base:H9)(T:Hp)(k:Nat)(cn m:Str)(G:List A->R A):Prop:=
 ∃ C f fd,mg cn=some (.ref C)/\Cls K C/\Meth K C m f/\FnOk P w K mg base (CXe P w) k f fd ["self"] (spF (gOf P w K mg base T) K mg 1 G)/\cU K fd ["self"] []
theorem j8{V W:Type}{g:Str}:∀ {fvs:List (Str×V)} {fs:List (Str×W)},fvs.map (·.1)=fs.map (·.1)->fs.lookup g=none->fvs.lookup g=none
 | [],[],_,_=>rfl
 | [],_::_,h,_=>by simp at h
 | _::_,[],h,_=>by simp at h
 | (a,v)::fvs,(b,x)::fs,h,e=>by
  rw[AJ,AJ] at h
  injection h with h1 h2
  simp only at h1
  subst h1
  rw[A0] at e ⊢
  cases q:(g == a) with
  | true=>rw[q] at e;cases e
  | false=>rw[q] at e;exact j8 h2 e
theorem nR{α:Type}{k:Str}{v:α}:∀ {l:List (Str×α)},l.lookup k=some v->(k,v)∈l
 | [],h=>by cases h
 | (a,x)::t,h=>by
  rw[A0] at h
  cases q:(k == a) with
  | true=>rw[q] at h;cases h;rw[DH q];exact .head _
  | false=>rw[q] at h;exact .tail _ (nR h)
def vMt(f:Sg->R A)(m:Str)(tb:List (Str×(List A->R A))):Sg->R A:=fun ρ=>(f ρ).bind fun a=>match a with
 | .o e=>if (e.fs.lookup m).isNone=true then (match tb.lookup e.c with|some G=>G [.o e]|none=>.bad) else .bad
 | _=>.bad
theorem aIF{k:Nat}{m:Str}{T:Hp}{tb:List (Str×(List A->R A))}{f:Sg->R A}{pl:Sem Bool}(u:c.g=gOf X.prog X.w X.K X.mg X.base T)(x:X.K=c.K)(n:X.mg=c.mg)(h:∀ p∈tb,uK X.prog X.w X.K X.mg X.base T k p.1 m p.2)(M:Room k X.A)(hx:jT (CXe X.prog X.w) X E)(L:PV X c E o f)
  (O:eval (.Call (.Attribute o m apos) [] [] pos) X.env=(do
   let ov <-eval o X.env
   standAt apos.atName
   let (f,first) <-holding [ov] (getMethod ov m pl)
   callWith pos f first (backTo pos (starEach [] X.env)) (backToKw pos (keywordEach [] X.env))):=by rfl):PV X c E (.Call (.Attribute o m apos) [] [] pos) (vMt f m tb):=by
 intro pins s σ H Q I ⟨ρ,F,ab,k⟩
 refine uY L I ⟨ρ,F,ab,(Rk.bind k).imp fun a _ k v P H1 s1 J=>?_⟩ O
 cases a with
 | o er=>
  dsimp only at k
  split at k
  .rename_i d
   split at k
   .rename_i G U
    obtain ⟨a,rfl,C,dx,i,D,h1,h2,S⟩:=J
    obtain ⟨N,f,fd,t,cl,B,ok,b⟩:=(show uK X.prog X.w X.K X.mg X.base T _ er.c m G from h _ (nR U))
    rw[n] at t
    have y:c.mg er.c=some (.ref N):=t
    rw[D] at y
    cases y
    refine ⟨a,C,dx,i,f,rfl,s1.fh _ _ h1,cl,B,j8 h2 (EQ.mp d),fun V q=>?_⟩
    refine PySem.W.callWith_K0 (first:=[.ref a]) q.kIn B.kp (sG (us:=[.ref a]) (vs:=[.ref a]) ok M b .nil hx q (.cons rfl .nil) ?_)
    refine ⟨P,[.o er],by rw[<-u];exact fun a o z=>s1.ff a o (ab.f0 a o (ab.t0 a o z)),s1.fh,⟨⟨a,rfl,?_⟩,trivial⟩,rfl,?_⟩
    .rw[x,n];exact ⟨C,dx,i,D,h1,h2,S⟩
    .rw[<-u,x,n]
     cases l:G [.o er] with
     | bad=>rw[l] at k;exact k
     | ok a=>rw[l] at k;exact fun v j H' s r=>Rk.ok k v j H' (s1.trans s) r
     | ex e=>rw[l] at k;exact fun a C j H' s r=>k a C j H' ((ab.all.trans s1).trans s) r
   .exact k.elim
  .exact k.elim
 | _=>exact k.elim
end
theorem qJ{P:P9}{w:W9}{K:Frag}{mg:Str->O9 V9}{base:H9}{T:Hp}{x q:Str}{st:Stmt}{N ps:List Str}{k:Nat}{f:Az}{fd:FuncData}{fb:Sg->R Fw}(g:Fun K x q st f fd)(S:FnScope N ps (aC st))
  (a:∀ (cdv:V9) (A:U9) (outer:List Env) (s:S9) (H F:Hp) (E:XK),Room k (A.deeper (envOfC q (aC st) s.heap.objs.size f cdv))->
   iF ((dS (CXe P w) P w K mg base N q (aC st) f cdv A outer s H E).fly E) ⟨K,mg,w,F,H,gOf P w K mg base T,(envOfC q (aC st) s.heap.objs.size f cdv).cells,fun _=>none⟩ E (bD st) fb):FnOk P w K mg base (CXe P w) (k+1) f fd ps (spF (gOf P w K mg base T) K mg ps.length (fnF N.length fb)):=by
 refine g.okX S (fun vs H Q E h=>?_) (fun cdv A outer s H vs Q E e h=>?_)
 .obtain ⟨F,i,_,_,h2,b,_⟩:=h
  rw[h2.len,b]
 .obtain ⟨F,i,d,h1,h2,b,c⟩:=h
  exact ⟨_,a cdv A outer s H F E e,kT d h1 h2 c⟩
end Fl
namespace L2
open PySem PySem.Spec PyProof.Rows
end L2
namespace Mc
open PySem L2 PyProof.Rows Fl
noncomputable def mS:Sg->R Fw:=(bX (vD (eC (.str "by"))))
noncomputable def gC:List A->R A:=fnF 1 mS
noncomputable def kY:Sg->R Fw:=(bX (vD (eC (.str "out"))))
noncomputable def fD:List A->R A:=fnF 1 kY
noncomputable def kZ:Sg->R Fw:=(bX (vD (eC (.str "ever"))))
noncomputable def fE:List A->R A:=fnF 1 kZ
noncomputable def jJ:Sg->R Fw:=(aR (kA (bA 2 bM (aD (vV 0) (aD (vV 1) a6))))
 mN)
noncomputable def fR:List A->R A:=fnF 5 jJ
noncomputable def gM:Sg->R Fw:=(aR (kJ (e1 cS (oA (aD (eV 1) (aD (eV 2) (aD (eV 3) a6))))) (stN 4) (kA (bA 2 bM (aD (vV 0) (aD (vV 4) a6)))))
 mN)
noncomputable def cI:List A->R A:=fnF 10 gM
noncomputable def oG:Sg->R Fw:=(aR (kA (bA 2 bM (aD (vV 0) (aD (vV 1) a6))))
 mN)
noncomputable def gZ:List A->R A:=fnF 6 oG
noncomputable def oH:Sg->R Fw:=(aR (bO 2 (bA 2 gZ (aD (vV 0) (aD (vV 1) a6))))
 mN)
noncomputable def eW:List A->R A:=fnF 5 oH
noncomputable def cO:Sg->R Fw:=(bX (vMt (bA 2 eW (aD (vV 1) (aD (vV 0) a6))) "says" [("LetBy",gC),("ShutOut",fD),("ForEver",fE)]))
noncomputable def nH:List A->R A:=fnK 2 [0] 7 1 (qG 2 cO)
noncomputable def mT:Sg->R Fw:=(aR (bO 3 (bA 2 eW (aD (vV 0) (aD (vV 1) a6))))
 mN)
noncomputable def jG:List A->R A:=fnF 4 mT
noncomputable def iU:Sg->R Fw:=(aR (kA (bA 2 bM (aD (vV 0) (aD (vV 1) a6))))
 mN)
noncomputable def fF:List A->R A:=fnF 3 iU
noncomputable def j2:Sg->R Fw:=(aR (kA (bA 2 bM (aD (vV 0) (aD (vV 1) a6))))
 mN)
noncomputable def gD:List A->R A:=fnF 5 j2
noncomputable def mxB:Sg->R Fw:=(aR (bO 6 (vD (e2 dDiv (eA (bA 2 aZ (aD (vV 0) (aD (vV 5) a6)))) (e2 cX (eC (.int 1)) (e1 dInt (e2 dEq (rV 5) (eC (.int 0))))))))
 (aR (sIf (bOr (tT (e1 asB (eV 3))) (e1 asB (e2 dGe (rV 5) (e1 dLen (rV 0))))) (aR (bO 6 (vD (e2 dMod (e2 dMul (e2 cX (e2 dMod (rV 6) (e2 dPow (eC (.int 10)) (eC (.int 15)))) (e2 dMul (eC (.int 7919)) (rV 5))) (eC (.int 48271))) (eC (.int 2147483647)))))
 (bO 6 (vD (e2 dMod (e2 dMul (rV 6) (eC (.int 69621))) (eC (.int 2147483629)))))) sNx)
 (oB 4 (eV 6))))
noncomputable def j3:Sg->R Fw:=(aR (bO 2 (vD (e2 (d2 t6) (rV 1) (e2 (d2 iR) (eC (.int 63)) (e1 dLen (rV 0))))))
 (aR (bO 3 (vD (e2 dEq (e2 dMod (eA (bA 2 aZ (aD (vV 0) (aD (vD (eC (.int 0))) a6)))) (eC (.int 2))) (eC (.int 0)))))
 (aR (lL 4 (p6 a6))
 (aR (kJ (iA (rV 2)) (stN 5) mxB)
 (sFz 4 (bX (vV 4)))))))
noncomputable def gE:List A->R A:=fnF 7 j3
noncomputable def gF:Sg->R Fw:=(aR (bO 2 (vD (e2 cX (eSl dSl (eC (.str "abc")) (oSo (rV 1)) oNo) (eSl dSl (eC (.str "dzxABC019 -><,.~!b")) oNo (oSo (eC (.int 17)))))))
 (bX (vD (e2 dIx (rV 2) (e2 dMod (rV 0) (e1 dLen (rV 2)))))))
noncomputable def dI:List A->R A:=fnF 3 gF
noncomputable def s4I:Sg->R Fw:=(sIf (e1 asB (e2 dEq (e2 dMod (e2 dDiv (eA (bA 2 aZ (aD (vV 0) (aD (vD (eC (.int 1))) a6)))) (eC (.int 4))) (eC (.int 6))) (eC (.int 5)))) (bO 2 (vD (eC (.str " !\"#$&'()*+,-./0123456789:;<=>?@ABCDEFGHIJKLMNOPQRSTUVWXYZ[\\]^_`abcdefghijklmnopqrstuvwxyz{|}~")))) sNx)
noncomputable def s4A:Sg->R Fw:=(aR (bO 3 (vD (e2 cX (rV 3) (e2 dIx (rV 2) (e2 dMod (rV 4) (e1 dLen (rV 2)))))))
 (bO 4 (vD (e2 dDiv (rV 4) (e1 dLen (rV 2))))))
noncomputable def s4B:Sg->R Fw:=(aR (bO 6 (bA 2 aZ (aD (vV 0) (aD (vD (e2 cX (eC (.int 4)) (rV 5))) a6))))
 (aR (bO 7 (vD (e2 dMod (rV 6) (e2 cX (e1 dLen (rV 3)) (eC (.int 1))))))
 (bO 3 (vD (e2 cX (e2 cX (eSl dSl (rV 3) oNo (oSo (rV 7))) (eA (bA 2 dI (aD (vD (e2 dDiv (rV 6) (eC (.int 64)))) (aD (vV 1) a6))))) (eSl dSl (rV 3) (oSo (rV 7)) oNo))))))
noncomputable def g8:Sg->R Fw:=(aR (bO 2 (vD (eSl dSl (eC (.str "abc")) oNo (oSo (rV 1)))))
 (aR s4I
 (aR (bO 3 (vD (eC (.str ""))))
 (aR (bO 4 (bA 2 aZ (aD (vV 0) (aD (vD (eC (.int 3))) a6))))
 (aR (kJ (iA (e2 dMod (eA (bA 2 aZ (aD (vV 0) (aD (vD (eC (.int 2))) a6)))) (eC (.int 61)))) (stN 5) s4A)
 (aR (kJ (iA (e2 dMod (eA (bA 2 aZ (aD (vV 0) (aD (vD (eC (.int 1))) a6)))) (eC (.int 4)))) (stN 5) s4B)
 (bX (vV 3))))))))
noncomputable def eD:List A->R A:=fnF 8 g8
noncomputable def g9:Sg->R Fw:=(aR (sIf (e1 asB (e2 dEq (rV 0) (eC (.int 0)))) (bX (bA 2 bM (aD (vV 1) (aD (vV 2) a6)))) sNx)
 (aR (sIf (e1 asB (e2 dEq (rV 0) (eC (.int 1)))) (bX (bA 2 gZ (aD (vV 1) (aD (vV 2) a6)))) sNx)
 (aR (sIf (e1 asB (e2 dEq (rV 0) (eC (.int 2)))) (bX (bA 2 eW (aD (vV 1) (aD (vV 2) a6)))) sNx)
 (aR (sIf (e1 asB (e2 dEq (rV 0) (eC (.int 3)))) (aR (bO 4 (bA 1 nH (aD (vV 1) a6)))
 (bX (vD (xT 12 4 (aD (eV 2) a6))))) sNx)
 (aR (sIf (e1 asB (e2 dEq (rV 0) (eC (.int 4)))) (bX (bA 3 jG (aD (vV 1) (aD (vV 2) (aD (vD (oA (aD (eC (.str "ever")) (aD (eC (.int 0)) (aD (eC (.int 0)) (aD (eC (.int 0)) (aD (eC (.int 1)) a6))))))) a6))))) sNx)
 (aR (sIf (e1 asB (e2 dEq (rV 0) (eC (.int 5)))) (bX (bA 2 gD (aD (vV 1) (aD (vV 2) a6)))) sNx)
 (aR (sIf (e1 asB (e2 dEq (rV 0) (eC (.int 6)))) (bX (bA 2 fR (aD (vV 1) (aD (vV 2) a6)))) sNx)
 (aR (sIf (e1 asB (e2 dEq (rV 0) (eC (.int 7)))) (bX (bA 4 cI (aD (vV 1) (aD (vV 2) (aD (vV 3) (aD (vV 3) a6)))))) sNx)
 (aR (sIf (e1 asB (e2 dEq (rV 0) (eC (.int 8)))) (bX (bA 4 cI (aD (vV 1) (aD (vV 3) (aD (vV 2) (aD (vV 3) a6)))))) sNx)
 (bX (bA 4 cI (aD (vV 1) (aD (vV 3) (aD (vV 3) (aD (vV 2) a6)))))))))))))))
noncomputable def eE:List A->R A:=fnF 5 g9
noncomputable def gG:Sg->R Fw:=(aR (bO 4 (vD (eC .none)))
 (aR (qF 5 none 4 eE (aD (vV 0) (aD (vV 1) (aD (vV 2) (aD (vV 3) a6)))) ["NoStrip"] (bO 4 (vV 5)))
 (aR (sIf (bOr (tT (e1 asB (kK 4 [("NoStrip",true)]))) (tT (e1 asB (kK 4 [("NoStrip",true)])))) (bX (vD (eC .none))) sNx)
 (aR (sIf (bOr (e1 asB (kK 4 [("NoStrip",false)])) (bOr (e1 asB (kK 4 [("NoStrip",false)])) (e1 asB (kK 4 [("NoStrip",false)])))) (bX (vD (eC .none))) sNx)
 (aR (sIf (bOr (e1 asB (kK 4 [("NoStrip",false)])) (e1 asB (e1 (jI "bool") (eXF 4 ["NoStrip"] "at")))) (bX (vD (eC .none))) sNx)
 (bX (vD (eXF 4 ["NoStrip"] "at"))))))))
noncomputable def dJ:List A->R A:=fnF 6 gG
noncomputable def eH:Sg->R Fw:=(aR (bO 2 (vD (eC .none)))
 (aR (qF 3 none 2 fF (aD (vV 0) (aD (vV 1) a6)) ["NoStrip"] (bO 2 (vD (eXF 3 ["NoStrip"] "at"))))
 (bX (vV 2))))
noncomputable def cH:List A->R A:=fnF 4 eH
noncomputable def lw0:Sg->R Fw:=(bO 0 (bA 2 gE (aD (vV 0) (aD (vD (eC (.int 24))) a6))))
noncomputable def lw1:Sg->R Fw:=(bO 1 (vD (e2 cX (eC (.int 1)) (e2 dMod (eA (bA 2 aZ (aD (vV 0) (aD (vD (eC (.int 0))) a6)))) (eC (.int 3))))))
noncomputable def lw2:Sg->R Fw:=(bO 2 (bA 3 dH (aD (vD (eSl dSl (rV 0) (oSo (eC (.int 16))) oNo)) (aD (vD (e2 cX (eC (.int 1)) (e2 dMod (e2 dDiv (eA (bA 2 aZ (aD (vV 0) (aD (vD (eC (.int 0))) a6)))) (eC (.int 3))) (eC (.int 5))))) (aD (vV 1) a6)))))
noncomputable def lw3:Sg->R Fw:=(bO 3 (bA 2 eD (aD (vV 0) (aD (vV 1) a6))))
noncomputable def lw4:Sg->R Fw:=(lL 4 (kB [none,none,some 1] (e1 pB (rV 3)) (stT [(stN 0),(stN 1)]) (e1 asB (e2 dNin (rV 1) (eSl dSl (eC (.str "abc")) oNo (oSo (rV 2))))) (eV 0)))
noncomputable def lw5:Sg->R Fw:=(bO 5 (vD (e2 xN (eC (.str "")) (eL (kB [none,some 1] (e1 cS (rV 3)) (stN 0) (e1 asB (e2 dIn (rV 0) (eSl dSl (eC (.str "abc")) oNo (oSo (rV 1))))) (eV 0))))))
noncomputable def lf:Sg->R Fw:=(sIf (e1 asB (e2 dNe (eA (bA 4 dJ (aD (vV 6) (aD (vV 2) (aD (vV 3) (aD (vD (eSl dSl (rV 5) oNo (oSo (eC (.int 9))))) a6)))))) (e2 dIx (rV 4) (eC (.int 0))))) (bX (vD (eC (.bool false)))) sNx)
noncomputable def lg:Sg->R Fw:=(sIf (e1 asB (e2 dNe (eA (bA 2 cH (aD (vV 2) (aD (vD (e2 dIx (rV 3) (e2 dIx (rV 4) (eC (.int 0))))) a6)))) (eC (.int 0)))) (bX (vD (eC (.bool false)))) sNx)
noncomputable def lw6:Sg->R Fw:=(sIf (e1 asB (e2 dGt (e1 dLen (rV 4)) (eC (.int 0)))) (aR (kJ (iA (eC (.int 10))) (stN 6) lf) lg) sNx)
noncomputable def lw7:Sg->R Fw:=(bO 7 (bA 2 bM (aD (vV 2) (aD (vV 5) a6))))
noncomputable def lw8:Sg->R Fw:=(bX (vD (aBA (e1 (jI "str") (rV 7)) (e2 dEq (rV 7) (rV 5)))))
noncomputable def xZ:Sg->R Fw:=aR lw0 (aR lw1 (aR lw2 (aR lw3 (aR lw4 (aR lw5 (aR lw6 (aR lw7 (lw8))))))))
noncomputable def sA:List A->R A:=fnF 8 xZ
def top(i:Nat):Stmt:=PySem.Challenge.pw_striproam_k04_strips_refused.main.body.getD i (.Pass ⟨0,0,0,0⟩)
def cP:ClSt:=clS "sayer.<locals>.word_of" ((bD (top 40)).getD 0 (.Pass ⟨0,0,0,0⟩))
def eO:Pos:=aJF ((bD (top 40)).getD 0 (.Pass ⟨0,0,0,0⟩))
def qsT:List (Pos×Str):=[(eO,("sayer.<locals>.word_of":Str))]
structure Txt(w:World)(K:Frag)(mg:Str->Option V9):Prop where
 b_ValueError:mg "ValueError"=none
 b_bool:mg "bool"=none
 b_enumerate:mg "enumerate"=none
 b_int:mg "int"=none
 b_isinstance:mg "isinstance"=none
 b_len:mg "len"=none
 b_max:mg "max"=none
 b_min:mg "min"=none
 b_range:mg "range"=none
 b_str:mg "str"=none
 b_tuple:mg "tuple"=none
 g_SIGNS:∃ t,mg "SIGNS"=some (.str "abc" t)
section
variable{P:P9}{w:W9}{K:Frag}{mg:Str->O9 V9}{base:H9}{TH:Hp}
theorem lX:FnScope ["self"] ["self"] (aC (bC (top 33) 1)):=by constructor<;>first|rfl|decide +kernel
theorem qK(T:Txt w K mg){f:Az}{fd:FuncData}(a:Fun K "says" "LetBy.says" (bC (top 33) 1) f fd):FnOk P w K mg base (CXe P w) 1 f fd ["self"] (spF (gOf P w K mg base TH) K mg 1 gC):=
 @qJ P w K mg base TH "says" "LetBy.says" (bC (top 33) 1) ["self"] ["self"] 0 f fd mS a lX (fun b A outer s H F E c=>by
  have nd:=lX.nd
  exact (Fl.aM (Fl.a7 (aQ eI))))
theorem kC:FnScope ["self"] ["self"] (aC (bC (top 34) 1)):=by constructor<;>first|rfl|decide +kernel
theorem oI(T:Txt w K mg){f:Az}{fd:FuncData}(a:Fun K "says" "ShutOut.says" (bC (top 34) 1) f fd):FnOk P w K mg base (CXe P w) 1 f fd ["self"] (spF (gOf P w K mg base TH) K mg 1 fD):=
 @qJ P w K mg base TH "says" "ShutOut.says" (bC (top 34) 1) ["self"] ["self"] 0 f fd kY a kC (fun b A outer s H F E c=>by
  have nd:=kC.nd
  exact (Fl.aM (Fl.a7 (aQ eI))))
end
section
variable{P:P9}{w:W9}{K:Frag}{mg:Str->O9 V9}{base:H9}{TH:Hp}
theorem kD:FnScope ["self"] ["self"] (aC (bC (top 35) 1)):=by constructor<;>first|rfl|decide +kernel
theorem oJ(T:Txt w K mg){f:Az}{fd:FuncData}(a:Fun K "says" "ForEver.says" (bC (top 35) 1) f fd):FnOk P w K mg base (CXe P w) 1 f fd ["self"] (spF (gOf P w K mg base TH) K mg 1 fE):=
 @qJ P w K mg base TH "says" "ForEver.says" (bC (top 35) 1) ["self"] ["self"] 0 f fd kZ a kD (fun b A outer s H F E c=>by
  have nd:=kD.nd
  exact (Fl.aM (Fl.a7 (aQ eI))))
theorem nS:FnScope ["machine"] ["machine"] (aC (top 10)):=by constructor<;>first|rfl|decide +kernel
theorem vA(T:Txt w K mg)(D:DefAt K mg "signs_of" (top 10) ["machine"]):aO P w K mg base TH 1 "signs_of" ["machine"] iH:=
 @cL P w K mg base TH "signs_of" (top 10) ["machine"] ["machine"] 0 lR D nS (fun f a A outer s H F E b=>by
  have nd:=nS.nd
  exact (Fl.aM (Fl.a7 (aQ (fO rfl (bN dR rfl T.b_len BU (aN (aB (dZ (d4 rfl) bV (aB (dZ (d4 rfl) bV (aG (pv 0)) (aB aL))) (aB aL))) aY)))))))
end
section
variable{P:P9}{w:W9}{K:Frag}{mg:Str->O9 V9}{base:H9}{TH:Hp}
theorem lY:FnScope ["signs","strip","known","at","sign"] ["signs","strip"] (aC (top 12)):=by constructor<;>first|rfl|decide +kernel
theorem rM(T:Txt w K mg)(D:DefAt K mg "checked_by" (top 12) ["signs","strip"]){W_NoStrip C_NoStrip:Az}(a:ErrAt P w K mg base "NoStrip" ["at"] W_NoStrip C_NoStrip):aO P w K mg base TH 3 "checked_by" ["signs","strip"] f7:=
 @cL P w K mg base TH "checked_by" (top 12) ["signs","strip","known","at","sign"] ["signs","strip"] 2 j0 D lY (fun f c A outer s H F E b=>by
  have nd:=lY.nd
  exact (Fl.aF (Fl.aK (L2.aK (i:=2) nd rfl (Or.inl rfl) (aQ (eQ rfl (aB (jX (jN (v:=.str "abc") rfl T.g_SIGNS.choose_spec ⟨_,rfl⟩) fun _=>.str _)) i8 (i9 (aG (pv 0)))))))
   (Fl.aF (Fl.dF (zC rfl (lM (dO 3) (lM (dO 4) vX)) rfl) (L2.dF (gH ⟨rfl,rfl⟩) rfl (aGI rfl (aDE rfl T.b_enumerate (aN (dU (pv 1)) aY)) (aAW rfl T.b_enumerate (aN (dU (pv 1)) aY))) (x6 rfl (k9 (dM (i:=3) nd rfl (Or.inl rfl)) (k9 (dM (i:=4) nd rfl (Or.inl rfl)) vF)))
   (Fl.aM (Fl.cT (Fl.bZ (vU rfl b.units) rC (aG (pv 4)) (aG (pv 2)) (by with_unfolding_all rfl)) (Fl.aM (Fl.n8 a.m (by decide) (yP rfl a rfl (b.mono (by decide)) (bW (dU (pv 3)) fB)))) Fl.bT))))
   (Fl.aM (Fl.a7 (aJ (pv 1)))))))
theorem pF:FnScope ["machine","strip"] ["machine","strip"] (aC (top 13)):=by constructor<;>first|rfl|decide +kernel
theorem x0(T:Txt w K mg)(D:DefAt K mg "checked" (top 13) ["machine","strip"])(a:aO P w K mg base TH 3 "checked_by" ["signs","strip"] f7)(b:aO P w K mg base TH 1 "signs_of" ["machine"] iH):aO P w K mg base TH 4 "checked" ["machine","strip"] bM:=
 @cL P w K mg base TH "checked" (top 13) ["machine","strip"] ["machine","strip"] 3 mQ D pF (fun f d A outer s H F E c=>by
  have nd:=pF.nd
  exact (Fl.aM (Fl.a7 (bK rfl rfl rfl (bJ a (c.mono (by decide)) rfl (bH fun _ _ _ h=>h) (aA (bK rfl rfl rfl (bJ b (c.mono (by decide)) rfl (bH fun _ _ _ h=>h) (aA (aJ (pv 0)) aT))) (aA (aJ (pv 1)) aT)))))))
theorem mU:FnScope ["machine","strip","columns","begun","sign"] ["machine","strip"] (aC (top 22)):=by constructor<;>first|rfl|decide +kernel
theorem uL(T:Txt w K mg)(D:DefAt K mg "beginning" (top 22) ["machine","strip"])(a:aO P w K mg base TH 4 "checked" ["machine","strip"] bM):aO P w K mg base TH 5 "beginning" ["machine","strip"] fR:=
 @cL P w K mg base TH "beginning" (top 22) ["machine","strip","columns","begun","sign"] ["machine","strip"] 4 jJ D mU (fun f c A outer s H F E b=>by
  have nd:=mU.nd
  exact (Fl.aF (Fl.dL (L2.dL (bK rfl rfl rfl (bJ a (b.mono (by decide)) rfl (bH fun _ _ _ h=>h) (aA (aJ (pv 0)) (aA (aJ (pv 1)) aT))))))
   iT))
theorem k6:FnScope ["machine","ahead","again","behind","strip","reader","passed","words","start","length"] ["machine","ahead","again","behind"] (aC (top 29)):=by constructor<;>first|rfl|decide +kernel
theorem qL(T:Txt w K mg)(D:DefAtD K mg "comes_round" (top 29) ["machine","ahead","again","behind"] [.str ""])(a:aO P w K mg base TH 4 "checked" ["machine","strip"] bM):qI P w K mg base TH 5 "comes_round" ["machine","ahead","again","behind"] [.str ""] cI:=
 @aB1 P w K mg base TH "comes_round" (top 29) ["machine","ahead","again","behind","strip","reader","passed","words","start","length"] ["machine","ahead","again","behind"] [.str ""] 4 gM D k6 (fun f c A outer s H F E b=>by
  have nd:=k6.nd
  exact (Fl.aF (Fl.dF (dO 4) (L2.dF (gH ⟨rfl,rfl⟩) rfl (aI7 rfl (mI (bW (dU (pv 1)) (bW (dU (pv 2)) (bW (dU (pv 3)) fB))))) (dM (i:=4) nd rfl (Or.inl rfl))
   (Fl.aM (Fl.dL (L2.dL (bK rfl rfl rfl (bJ a (b.mono (by decide)) rfl (bH fun _ _ _ h=>h) (aA (aJ (pv 0)) (aA (aJ (pv 4)) aT)))))))))
   iT))
theorem wF:FnScope ["machine","strip","stand","stands","been","cell"] ["machine","strip"] (aC (top 37)):=by constructor<;>first|rfl|decide +kernel
theorem aEQ(T:Txt w K mg)(D:DefAt K mg "path" (top 37) ["machine","strip"])(a:aO P w K mg base TH 4 "checked" ["machine","strip"] bM):aO P w K mg base TH 5 "path" ["machine","strip"] gZ:=
 @cL P w K mg base TH "path" (top 37) ["machine","strip","stand","stands","been","cell"] ["machine","strip"] 4 oG D wF (fun f c A outer s H F E b=>by
  have nd:=wF.nd
  exact (Fl.aF (Fl.dL (L2.dL (bK rfl rfl rfl (bJ a (b.mono (by decide)) rfl (bH fun _ _ _ h=>h) (aA (aJ (pv 0)) (aA (aJ (pv 1)) aT))))))
   iT))
end
section
variable{P:P9}{w:W9}{K:Frag}{mg:Str->O9 V9}{base:H9}{TH:Hp}
theorem wG:FnScope ["machine","strip","stands","last","word"] ["machine","strip"] (aC (top 39)):=by constructor<;>first|rfl|decide +kernel
theorem aER(T:Txt w K mg)(D:DefAt K mg "walk" (top 39) ["machine","strip"])(a:aO P w K mg base TH 5 "path" ["machine","strip"] gZ):aO P w K mg base TH 6 "walk" ["machine","strip"] eW:=
 @cL P w K mg base TH "walk" (top 39) ["machine","strip","stands","last","word"] ["machine","strip"] 5 oH D wG (fun f c A outer s H F E b=>by
  have nd:=wG.nd
  exact (Fl.aF (Fl.aK (L2.aK (i:=2) nd rfl (Or.inl rfl) (bK rfl rfl rfl (bJ a (b.mono (by decide)) rfl (bH fun _ _ _ h=>h) (aA (aJ (pv 0)) (aA (aJ (pv 1)) aT))))))
   iT))
theorem eX:CloScope ["strip","machine"] ["strip"] ["machine"] cP.scope:=⟨rfl,rfl,rfl,by decide +kernel,rfl,by decide +kernel,by decide +kernel,by decide +kernel,by decide +kernel⟩
theorem nL:∀ y∈cP.scope.names,y.2=.free->(aC (top 40)).names.lookup y.1=some .cell\/(aC (top 40)).names.lookup y.1=some .free:=by decide +kernel
theorem mV:(eO,("sayer.<locals>.word_of":Str))∈qsT:=(.head _)
theorem nM:∀ p∈qsT,p.1.line=eO.line->p.1.col=eO.col->p.2=("sayer.<locals>.word_of":Str):=by decide +kernel
theorem mW(T:Txt w K mg)(b:aO P w K mg base TH 6 "walk" ["machine","strip"] eW)(a:∀ p∈[(("LetBy":Str),gC),(("ShutOut":Str),fD),(("ForEver":Str),fE)],uK P w K mg base TH 1 p.1 "says" p.2):CloOk P w K mg base TH cP ["machine"] 7 1 (qG 2 cO):=
 @aGR P w K mg base TH cP ["strip","machine"] ["strip"] ["machine"] 6 _ cO rfl eX (fun _ _ _ _ _=>Mc.bn1 fun _=>rfl) (fun f e cl A outer s H F E d c=>by
  have nd:=eX.nd
  exact (Fl.aM (Fl.a7 (aIF rfl rfl rfl a (c.mono (by decide)) (bH fun _ _ _ h=>h) (bK rfl rfl rfl (bJ b (c.mono (by decide)) rfl (bH fun _ _ _ h=>h) (aA (aJ (pv 1)) (aA (aJ (pv 0)) aT))))))))
theorem uM:FnScope ["machine","word_of"] ["machine"] (aC (top 40)):=by constructor<;>first|rfl|decide +kernel
theorem aB2(T:Txt w K mg)(D:DefAtT K mg base TH qsT "sayer" (top 40) ["machine"])(b:aO P w K mg base TH 6 "walk" ["machine","strip"] eW)(a:∀ p∈[(("LetBy":Str),gC),(("ShutOut":Str),fD),(("ForEver":Str),fE)],uK P w K mg base TH 1 p.1 "says" p.2):aO P w K mg base TH 1 "sayer" ["machine"] nH:=
 @aEP P w K mg base TH "sayer" (top 40) _ _ _ ["machine","word_of"] ["machine"] 0 7 1 1 "sayer.<locals>.word_of" qsT (fun q=>[(("sayer.<locals>.word_of":Str),cP)].lookup q) cP ["machine"] [0] (qG 2 cO) D uM rfl rfl (mW T b a) (fun y e=>eX.only (y,.free) e rfl) (fun y e=>A8 (eX.cap y e)) rfl (by decide) (by decide) (by decide) (by decide +kernel) (fun f c0 P0 A outer s H F E d c g=>by
  have nd:=uM.nd
  exact ⟨pv 1,(aEC (S:=cP) rfl rfl c (L2.aF8 rfl d rfl mV nM nL rfl rfl rfl nd rfl (Or.inl rfl)))⟩)
theorem uN:FnScope ["machine","strip","paper","ending"] ["machine","strip","paper"] (aC (top 44)):=by constructor<;>first|rfl|decide +kernel
theorem aB3(T:Txt w K mg)(D:DefAt K mg "holds" (top 44) ["machine","strip","paper"])(a:aO P w K mg base TH 6 "walk" ["machine","strip"] eW):aO P w K mg base TH 7 "holds" ["machine","strip","paper"] jG:=
 @cL P w K mg base TH "holds" (top 44) ["machine","strip","paper","ending"] ["machine","strip","paper"] 6 mT D uN (fun f c A outer s H F E b=>by
  have nd:=uN.nd
  exact (Fl.aF (Fl.aK (L2.aK (i:=3) nd rfl (Or.inl rfl) (bK rfl rfl rfl (bJ a (b.mono (by decide)) rfl (bH fun _ _ _ h=>h) (aA (aJ (pv 0)) (aA (aJ (pv 1)) aT))))))
   iT))
theorem lZ:FnScope ["machine","sign","things"] ["machine","sign"] (aC (top 47)):=by constructor<;>first|rfl|decide +kernel
theorem rN(T:Txt w K mg)(D:DefAt K mg "sign_table" (top 47) ["machine","sign"])(a:aO P w K mg base TH 4 "checked" ["machine","strip"] bM):aO P w K mg base TH 5 "sign_table" ["machine","sign"] fF:=
 @cL P w K mg base TH "sign_table" (top 47) ["machine","sign","things"] ["machine","sign"] 4 iU D lZ (fun f c A outer s H F E b=>by
  have nd:=lZ.nd
  exact (Fl.aF (Fl.dL (L2.dL (bK rfl rfl rfl (bJ a (b.mono (by decide)) rfl (bH fun _ _ _ h=>h) (aA (aJ (pv 0)) (aA (aJ (pv 1)) aT))))))
   iT))
theorem nU:FnScope ["one","other","thing","inward","been"] ["one","other","thing","inward"] (aC (top 48)):=by constructor<;>first|rfl|decide +kernel
theorem vB(T:Txt w K mg)(D:DefAt K mg "gone_out" (top 48) ["one","other","thing","inward"]):aO P w K mg base TH 1 "gone_out" ["one","other","thing","inward"] jM:=
 @cL P w K mg base TH "gone_out" (top 48) ["one","other","thing","inward","been"] ["one","other","thing","inward"] 0 pC D nU (fun f b A outer s H F E a=>by
  have nd:=nU.nd
  exact (Fl.aF (aD1 rfl (L2.aK (i:=4) nd rfl (Or.inl rfl) aD0))
   (Fl.aF (Fl.nY (L2.nY (gH ⟨rfl,rfl⟩) (PW.pt (Fl.sC (Fl.bZ aA9 xJ (aG (pv 2)) (aB jY) (b7 _)) (Fl.pN (Fl.bZ (d9 rfl a.units) cN (aB (dZ (d4 rfl) bV (aG (pv 2)) (aB aL))) (aG (pv 3)) (b7 _)))))
   (Fl.aF (Fl.cT (aGK rfl rfl (vG (aD2 a.units) (dU (pv 2)) (pv 4) (by with_unfolding_all rfl))) (Fl.aM (Fl.a7 (aQ jY))) Fl.bT)
   (Fl.aF (Fl.aD3 rfl rfl (aFK xI (aFJ (pv 4) (dU (pv 2)) (aBL a.units))))
   (Fl.aF (Fl.aK (L2.aK (i:=2) nd rfl (Or.inl rfl) (aQ (aHY (Fl.bZ (d9 rfl a.units) cN (aG (pv 3)) (aB aL) (b7 _)) (dZ (d4 rfl) bV (aB (dZ (d4 rfl) bV (aG (pv 1)) (aB aL))) (aB (dZ (d4 rfl) bV (aG (pv 2)) (aB aL)))) (dZ (d4 rfl) bV (aB (dZ (d4 rfl) bV (aG (pv 0)) (aB aL))) (aB (dZ (d4 rfl) bV (aG (pv 2)) (aB aL))))))))
   (Fl.aM (Fl.aK (L2.aK (i:=3) nd rfl (Or.inl rfl) (aQ (aCP vT rD (aG (pv 3))))))))))))
   (Fl.aM (Fl.a7 (aJ (pv 2)))))))
end
section
variable{P:P9}{w:W9}{K:Frag}{mg:Str->O9 V9}{base:H9}{TH:Hp}
theorem rJ:FnScope ["one","other","fore","aft"] ["one","other"] (aC (top 49)):=by constructor<;>first|rfl|decide +kernel
theorem z8(T:Txt w K mg)(D:DefAt K mg "behind" (top 49) ["one","other"])(a:aO P w K mg base TH 1 "gone_out" ["one","other","thing","inward"] jM):aO P w K mg base TH 2 "behind" ["one","other"] aBW:=
 @cL P w K mg base TH "behind" (top 49) ["one","other","fore","aft"] ["one","other"] 1 uH D rJ (fun f e A outer s H F E b=>by
  have nd:=rJ.nd
  exact (Fl.aF (Fl.aK (L2.aK (i:=2) nd rfl (Or.inl rfl) (aQ (lK rfl (hV gQ rfl T.b_tuple C9 (aN (aB (o4 (qA (pR (N:=["thing","one","other"]) (js:=[none,some 0,some 1]) rfl (.own (.cap rfl (.inl rfl) (.inl rfl) (.cap rfl (.inl rfl) (.inl rfl) .nil))) (by rfl) (aBB rfl (aB (dZ (d4 rfl) bV (aG (pv 0)) (aB aL))))) (by decide) (by decide) (is:=[0]) (fun cl C d c g=>⟨_,(dM (i:=0) (show (["thing","one","other"]:List Str).Nodup by decide +kernel) rfl (Or.inl rfl)),(dO 0),Fl.m9,(fV (bK rfl rfl rfl (bJ a (b.mono (by decide)) rfl aCH (aA (aJ (pv 1)) (aA (aJ (pv 2)) (aA (aJ (pv 0)) (aA (aQ aL) aT)))))))⟩)))) aY))))))
   (Fl.aF (Fl.aK (L2.aK (i:=3) nd rfl (Or.inl rfl) (aQ (lK rfl (hV gQ rfl T.b_tuple C9 (aN (aB (o4 (qA (pR (N:=["thing","one","other"]) (js:=[none,some 0,some 1]) rfl (.own (.cap rfl (.inl rfl) (.inl rfl) (.cap rfl (.inl rfl) (.inl rfl) .nil))) (by rfl) (aBB rfl (aB (dZ (d4 rfl) bV (aG (pv 1)) (aB aL))))) (by decide) (by decide) (is:=[0]) (fun cl C d c g=>⟨_,(dM (i:=0) (show (["thing","one","other"]:List Str).Nodup by decide +kernel) rfl (Or.inl rfl)),(dO 0),Fl.m9,(fV (bK rfl rfl rfl (bJ a (b.mono (by decide)) rfl aCH (aA (aJ (pv 1)) (aA (aJ (pv 2)) (aA (aJ (pv 0)) (aA (aQ (aCP vT rD (aB aL))) aT)))))))⟩)))) aY))))))
   (Fl.aM (Fl.a7 (aQ (mI (bW (dU (pv 2)) (bW (dU (pv 3)) fB)))))))))
theorem nV:FnScope ["machine","strip","tables","table","sign"] ["machine","strip"] (aC (top 50)):=by constructor<;>first|rfl|decide +kernel
theorem vC(T:Txt w K mg)(D:DefAt K mg "table_of" (top 50) ["machine","strip"])(a:aO P w K mg base TH 4 "checked" ["machine","strip"] bM):aO P w K mg base TH 5 "table_of" ["machine","strip"] gD:=
 @cL P w K mg base TH "table_of" (top 50) ["machine","strip","tables","table","sign"] ["machine","strip"] 4 j2 D nV (fun f c A outer s H F E b=>by
  have nd:=nV.nd
  exact (Fl.aF (Fl.dL (L2.dL (bK rfl rfl rfl (bJ a (b.mono (by decide)) rfl (bH fun _ _ _ h=>h) (aA (aJ (pv 0)) (aA (aJ (pv 1)) aT))))))
   iT))
theorem mX:FnScope ["_law_script","_law_k"] ["_law_script","_law_k"] (aC (top 52)):=by constructor<;>first|rfl|decide +kernel
theorem uO(T:Txt w K mg)(D:DefAt K mg "_law_cell" (top 52) ["_law_script","_law_k"]):aO P w K mg base TH 1 "_law_cell" ["_law_script","_law_k"] aZ:=
 @cL P w K mg base TH "_law_cell" (top 52) ["_law_script","_law_k"] ["_law_script","_law_k"] 0 fY D mX (fun f a A outer s H F E b=>by
  have nd:=mX.nd
  exact (Fl.aF (Fl.cT (Fl.bZ y6 tP (aG (pv 1)) (aB (fO rfl (bN dR rfl T.b_len BU (aN (aG (pv 0)) aY)))) (b7 _)) (Fl.aM (Fl.a7 (aQ (dZ (d4 rfl) bV (aG (pv 0)) (aG (pv 1)))))) Fl.bT)
   (Fl.aM (Fl.a7 (aQ aL)))))
theorem l0:FnScope ["_law_script","_law_few","_law_many","_law_own","_law_numbers","_law_k","_law_cell_here"] ["_law_script","_law_few"] (aC (top 53)):=by constructor<;>first|rfl|decide +kernel
theorem rO(T:Txt w K mg)(D:DefAt K mg "_law_mixed" (top 53) ["_law_script","_law_few"])(a:aO P w K mg base TH 1 "_law_cell" ["_law_script","_law_k"] aZ):aO P w K mg base TH 2 "_law_mixed" ["_law_script","_law_few"] gE:=
 @cL P w K mg base TH "_law_mixed" (top 53) ["_law_script","_law_few","_law_many","_law_own","_law_numbers","_law_k","_law_cell_here"] ["_law_script","_law_few"] 1 j3 D l0 (fun f c A outer s H F E b=>by
  have nd:=l0.nd
  exact (Fl.aF (Fl.aK (L2.aK (i:=2) nd rfl (Or.inl rfl) (aQ (t7 (G:=t6) (bN (yC rfl) rfl T.b_max PyProof.Rows.boot_max (aN (aG (pv 1)) (aN (aB (t7 (G:=iR) (bN (qP rfl) rfl T.b_min FA (aN (aB aL) (aN (aB (fO rfl (bN dR rfl T.b_len BU (aN (aG (pv 0)) aY)))) aY))))) aY)))))))
   (Fl.aF (Fl.aK (L2.aK (i:=3) nd rfl (Or.inl rfl) (aQ (o5 (d9 rfl b.units) cN (aB (aV dC cC (aB (fV (bK rfl rfl rfl (bJ a (b.mono (by decide)) rfl (bH fun _ _ _ h=>h) (aA (aJ (pv 0)) (aA (aQ aL) aT)))))) (aB aL))) (aB aL) (b7 _)))))
   (Fl.aF (nF (L2.aK (i:=4) nd rfl (Or.inl rfl) (o7 fB)))
   (Fl.aF (Fl.dF (dO 5) (L2.dF (gH ⟨rfl,rfl⟩) rfl (jQ (hU rfl T.b_range (aN (aG (pv 2)) aY))) (dM (i:=5) nd rfl (Or.inl rfl))
   (Fl.aF (Fl.aK (L2.aK (i:=6) nd rfl (Or.inl rfl) (aQ (aV h8 fH (aB (fV (bK rfl rfl rfl (bJ a (b.mono (by decide)) rfl (bH fun _ _ _ h=>h) (aA (aJ (pv 0)) (aA (aJ (pv 5)) aT)))))) (aB (aV (dN rfl) cJ (aB aL) (aB (vW (hV qQ rfl T.b_int FB (aN (aB (o5 (d9 rfl b.units) cN (aG (pv 5)) (aB aL) (b7 _))) aY))))))))))
   (Fl.aF (Fl.cT (PW.pt (Fl.k8 (Fl.l7 (Fl.gN (dU (pv 3)))) (Fl.kM (Fl.bZ y8 tR (aG (pv 5)) (aB (fO rfl (bN dR rfl T.b_len BU (aN (aG (pv 0)) aY)))) (b7 _))))) (Fl.aF (Fl.aK (L2.aK (i:=6) nd rfl (Or.inl rfl) (aQ (aV dC cC (aB (aV hZ fG (aB (aV (dN rfl) cJ (aB (aV dC cC (aG (pv 6)) (aB (aV aEN z5 (aB aL) (aB aL))))) (aB (aV hZ fG (aB aL) (aG (pv 5)))))) (aB aL))) (aB aL)))))
   (Fl.aM (Fl.aK (L2.aK (i:=6) nd rfl (Or.inl rfl) (aQ (aV dC cC (aB (aV hZ fG (aG (pv 6)) (aB aL))) (aB aL))))))) Fl.bT)
   (Fl.aM (tU rfl (L2.dL (rT DX DQ DR mD (pv 4) (aN (dU (pv 6)) aY)))))))))
   (Fl.aM (aH1 4 (Fl.a7 (aJ (pv 4))))))))))
theorem mY:FnScope ["_law_cell_here","_law_many","_law_at"] ["_law_cell_here","_law_many"] (aC (top 54)):=by constructor<;>first|rfl|decide +kernel
theorem uP(T:Txt w K mg)(D:DefAt K mg "_law_turn" (top 54) ["_law_cell_here","_law_many"]):aO P w K mg base TH 1 "_law_turn" ["_law_cell_here","_law_many"] d6:=
 @cL P w K mg base TH "_law_turn" (top 54) ["_law_cell_here","_law_many","_law_at"] ["_law_cell_here","_law_many"] 0 gP D mY (fun f a A outer s H F E b=>by
  have nd:=mY.nd
  exact (Fl.aF (Fl.aK (L2.aK (i:=2) nd rfl (Or.inl rfl) (aQ (aV dC cC (aG (pv 0)) (aB (aV (dN rfl) cJ (aG (pv 1)) (aB aL)))))))
   (Fl.aF (Fl.cT (Fl.bZ y6 tP (aG (pv 2)) (aG (pv 1)) (b7 _)) (Fl.aM (Fl.a7 (aJ (pv 2)))) Fl.bT)
   (Fl.aM (Fl.a7 (aQ (dZ (d4 rfl) bV (aB (o4 (o7 (bW eI (bW eI fB))))) (aB (aV pY mH (aG (pv 2)) (aG (pv 1)))))))))))
end
section
variable{P:P9}{w:W9}{K:Frag}{mg:Str->O9 V9}{base:H9}{TH:Hp}
theorem nW:FnScope ["_law_cell_here","_law_many","_law_signs","_law_left","_law_cells","_law_k","_law_part"] ["_law_cell_here","_law_many","_law_signs"] (aC (top 55)):=by constructor<;>first|rfl|decide +kernel
theorem vE(T:Txt w K mg)(D:DefAt K mg "_law_row" (top 55) ["_law_cell_here","_law_many","_law_signs"])(a:aO P w K mg base TH 1 "_law_turn" ["_law_cell_here","_law_many"] d6):aO P w K mg base TH 2 "_law_row" ["_law_cell_here","_law_many","_law_signs"] gJ:=
 @cL P w K mg base TH "_law_row" (top 55) ["_law_cell_here","_law_many","_law_signs","_law_left","_law_cells","_law_k","_law_part"] ["_law_cell_here","_law_many","_law_signs"] 1 lU D nW (fun f c A outer s H F E b=>by
  have nd:=nW.nd
  exact (Fl.aF (Fl.aK (L2.aK (i:=3) nd rfl (Or.inl rfl) (bK rfl rfl rfl (bJ a (b.mono (by decide)) rfl (bH fun _ _ _ h=>h) (aA (aJ (pv 0)) (aA (aJ (pv 1)) aT))))))
   (Fl.aF (Fl.aK (L2.aK (i:=0) nd rfl (Or.inl rfl) (aQ (aV h8 fH (aG (pv 0)) (aB (aV (dN rfl) cJ (aG (pv 1)) (aB aL)))))))
   (Fl.aF (nF (L2.aK (i:=4) nd rfl (Or.inl rfl) (o7 fB)))
   (Fl.aF (Fl.dF (dO 5) (L2.dF (gH ⟨rfl,rfl⟩) rfl (jQ (hU rfl T.b_range (aN (aG (pv 2)) aY))) (dM (i:=5) nd rfl (Or.inl rfl))
   (Fl.aF (Fl.aK (L2.aK (i:=6) nd rfl (Or.inl rfl) (aQ (aV dC cC (aG (pv 0)) (aB (aV hZ fG (aB aL) (aG (pv 1))))))))
   (Fl.aF (Fl.aK (L2.aK (i:=0) nd rfl (Or.inl rfl) (aQ (aV h8 fH (aG (pv 0)) (aB (aV hZ fG (aB aL) (aG (pv 1))))))))
   (Fl.aM (tU rfl (L2.dL (rT DX DQ DR mD (pv 4) (aN (mI (bW (aV h8 fH (aG (pv 6)) (aB aL)) (bW (aV pY mH (aB aL) (aB (aV hZ fG (aB aL) (aB (aV dC cC (aG (pv 6)) (aB aL)))))) fB))) aY)))))))))
   (Fl.aM (Fl.a7 (aQ (mI (bW (dU (pv 3)) (bW (lK rfl (hV gQ rfl T.b_tuple C9 (aN (aG (pv 4)) aY))) (bW (fV (bK rfl rfl rfl (bJ a (b.mono (by decide)) rfl (bH fun _ _ _ h=>h) (aA (aJ (pv 0)) (aA (aJ (pv 1)) aT))))) fB))))))))))))
theorem kE:FnScope ["_law_cells","_law_many","_law_signs","_law_rows","_law_k","_law_cell_here"] ["_law_cells","_law_many","_law_signs"] (aC (top 56)):=by constructor<;>first|rfl|decide +kernel
theorem pG(T:Txt w K mg)(D:DefAt K mg "_law_machine" (top 56) ["_law_cells","_law_many","_law_signs"])(a:aO P w K mg base TH 2 "_law_row" ["_law_cell_here","_law_many","_law_signs"] gJ):aO P w K mg base TH 3 "_law_machine" ["_law_cells","_law_many","_law_signs"] dH:=
 @cL P w K mg base TH "_law_machine" (top 56) ["_law_cells","_law_many","_law_signs","_law_rows","_law_k","_law_cell_here"] ["_law_cells","_law_many","_law_signs"] 2 gB D kE (fun f c A outer s H F E b=>by
  have nd:=kE.nd
  exact (Fl.aF (nF (L2.aK (i:=3) nd rfl (Or.inl rfl) (o7 fB)))
   (Fl.aF (Fl.dF (dO 4) (L2.dF (gH ⟨rfl,rfl⟩) rfl (jQ (hU rfl T.b_range (aN (aG (pv 1)) aY))) (dM (i:=4) nd rfl (Or.inl rfl))
   (Fl.aF (Fl.aK (L2.aK (i:=5) nd rfl (Or.inl rfl) (aQ (aV hZ fG (aB aL) (aB (aV (dN rfl) cJ (aG (pv 4)) (aB aL)))))))
   (Fl.aF (Fl.cT (Fl.bZ y7 tQ (aB (fO rfl (bN dR rfl T.b_len BU (aN (aG (pv 0)) aY)))) (aB aL) (b7 _)) (Fl.aM (Fl.aK (L2.aK (i:=5) nd rfl (Or.inl rfl) (aQ (aV (dN rfl) cJ (aB (dZ (d4 rfl) bV (aG (pv 0)) (aB (t7 (G:=iR) (bN (qP rfl) rfl T.b_min FA (aN (aG (pv 4)) (aN (aB (aV pY mH (aB (fO rfl (bN dR rfl T.b_len BU (aN (aG (pv 0)) aY)))) (aB aL))) aY))))))) (aB (aV hZ fG (aG (pv 5)) (aB (vW (hV qQ rfl T.b_int FB (aN (aB (o5 y8 tR (aG (pv 4)) (aB (fO rfl (bN dR rfl T.b_len BU (aN (aG (pv 0)) aY)))) (b7 _))) aY))))))))))) Fl.bT)
   (Fl.aM (tU rfl (L2.dL (rT DX DQ DR mD (pv 3) (aN (fV (bK rfl rfl rfl (bJ a (b.mono (by decide)) rfl (bH fun _ _ _ h=>h) (aA (aJ (pv 5)) (aA (aJ (pv 1)) (aA (aJ (pv 2)) aT)))))) aY)))))))))
   (Fl.aM (Fl.a7 (aQ (lK rfl (hV gQ rfl T.b_tuple C9 (aN (aG (pv 3)) aY)))))))))
theorem kF:FnScope ["_law_cell_here","_law_signs","_law_some"] ["_law_cell_here","_law_signs"] (aC (top 57)):=by constructor<;>first|rfl|decide +kernel
theorem pH(T:Txt w K mg)(D:DefAt K mg "_law_strange" (top 57) ["_law_cell_here","_law_signs"]):aO P w K mg base TH 1 "_law_strange" ["_law_cell_here","_law_signs"] dI:=
 @cL P w K mg base TH "_law_strange" (top 57) ["_law_cell_here","_law_signs","_law_some"] ["_law_cell_here","_law_signs"] 0 gF D kF (fun f a A outer s H F E b=>by
  have nd:=kF.nd
  exact (Fl.aF (Fl.aK (L2.aK (i:=2) nd rfl (Or.inl rfl) (aQ (aV (dN rfl) cJ (aB (eQ rfl (aB eI) (i9 (aG (pv 1))) i8)) (aB (eQ rfl (aB eI) i8 (i9 (aB aL))))))))
   (Fl.aM (Fl.a7 (aQ (dZ (d4 rfl) bV (aG (pv 2)) (aB (aV dC cC (aG (pv 0)) (aB (fO rfl (bN dR rfl T.b_len BU (aN (aG (pv 2)) aY))))))))))))
theorem l5:FnScope ["_law_script","_law_signs","_law_some","_law_strip_here","_law_left","_law_k","_law_cell_here","_law_at"] ["_law_script","_law_signs"] (aC (top 58)):=by constructor<;>first|rfl|decide +kernel
theorem rP(T:Txt w K mg)(D:DefAt K mg "_law_strip" (top 58) ["_law_script","_law_signs"])(a:aO P w K mg base TH 1 "_law_cell" ["_law_script","_law_k"] aZ)(b:aO P w K mg base TH 1 "_law_strange" ["_law_cell_here","_law_signs"] dI):aO P w K mg base TH 2 "_law_strip" ["_law_script","_law_signs"] eD:=
 @cL P w K mg base TH "_law_strip" (top 58) ["_law_script","_law_signs","_law_some","_law_strip_here","_law_left","_law_k","_law_cell_here","_law_at"] ["_law_script","_law_signs"] 1 g8 D l5 (fun f d A outer s H F E c=>by
  have nd:=l5.nd
  exact (Fl.aF (Fl.aK (L2.aK (i:=2) nd rfl (Or.inl rfl) (aQ (eQ rfl (aB eI) i8 (i9 (aG (pv 1)))))))
   (Fl.aF (Fl.cT (Fl.bZ (d9 rfl c.units) cN (aB (aV dC cC (aB (aV h8 fH (aB (fV (bK rfl rfl rfl (bJ a (c.mono (by decide)) rfl (bH fun _ _ _ h=>h) (aA (aJ (pv 0)) (aA (aQ aL) aT)))))) (aB aL))) (aB aL))) (aB aL) (b7 _)) (Fl.aM (Fl.aK (L2.aK (i:=2) nd rfl (Or.inl rfl) (aQ eI)))) Fl.bT)
   (Fl.aF (Fl.aK (L2.aK (i:=3) nd rfl (Or.inl rfl) (aQ eI)))
   (Fl.aF (Fl.aK (L2.aK (i:=4) nd rfl (Or.inl rfl) (bK rfl rfl rfl (bJ a (c.mono (by decide)) rfl (bH fun _ _ _ h=>h) (aA (aJ (pv 0)) (aA (aQ aL) aT))))))
   (Fl.aF (Fl.dF (dO 5) (L2.dF (gH ⟨rfl,rfl⟩) rfl (jQ (hU rfl T.b_range (aN (aB (aV dC cC (aB (fV (bK rfl rfl rfl (bJ a (c.mono (by decide)) rfl (bH fun _ _ _ h=>h) (aA (aJ (pv 0)) (aA (aQ aL) aT)))))) (aB aL))) aY))) (dM (i:=5) nd rfl (Or.inl rfl))
   (Fl.aF (Fl.aK (L2.aK (i:=3) nd rfl (Or.inl rfl) (aQ (aV (dN rfl) cJ (aG (pv 3)) (aB (dZ (d4 rfl) bV (aG (pv 2)) (aB (aV dC cC (aG (pv 4)) (aB (fO rfl (bN dR rfl T.b_len BU (aN (aG (pv 2)) aY))))))))))))
   (Fl.aM (Fl.aK (L2.aK (i:=4) nd rfl (Or.inl rfl) (aQ (aV h8 fH (aG (pv 4)) (aB (fO rfl (bN dR rfl T.b_len BU (aN (aG (pv 2)) aY))))))))))))
   (Fl.aF (Fl.dF (dO 5) (L2.dF (gH ⟨rfl,rfl⟩) rfl (jQ (hU rfl T.b_range (aN (aB (aV dC cC (aB (fV (bK rfl rfl rfl (bJ a (c.mono (by decide)) rfl (bH fun _ _ _ h=>h) (aA (aJ (pv 0)) (aA (aQ aL) aT)))))) (aB aL))) aY))) (dM (i:=5) nd rfl (Or.inl rfl))
   (Fl.aF (Fl.aK (L2.aK (i:=6) nd rfl (Or.inl rfl) (bK rfl rfl rfl (bJ a (c.mono (by decide)) rfl (bH fun _ _ _ h=>h) (aA (aJ (pv 0)) (aA (aQ (aV (dN rfl) cJ (aB aL) (aG (pv 5)))) aT))))))
   (Fl.aF (Fl.aK (L2.aK (i:=7) nd rfl (Or.inl rfl) (aQ (aV dC cC (aG (pv 6)) (aB (aV (dN rfl) cJ (aB (fO rfl (bN dR rfl T.b_len BU (aN (aG (pv 3)) aY)))) (aB aL)))))))
   (Fl.aM (Fl.aK (L2.aK (i:=3) nd rfl (Or.inl rfl) (aQ (aV (dN rfl) cJ (aB (aV (dN rfl) cJ (aB (eQ rfl (aG (pv 3)) i8 (i9 (aG (pv 7))))) (aB (fV (bK rfl rfl rfl (bJ b (c.mono (by decide)) rfl (bH fun _ _ _ h=>h) (aA (aQ (aV h8 fH (aG (pv 6)) (aB aL))) (aA (aJ (pv 1)) aT)))))))) (aB (eQ rfl (aG (pv 3)) (i9 (aG (pv 7))) i8)))))))))))
   (Fl.aM (Fl.a7 (aJ (pv 3)))))))))))
theorem l6:FnScope ["_law_way","_law_machine_here","_law_strip_here","_law_good","_law_say"] ["_law_way","_law_machine_here","_law_strip_here","_law_good"] (aC (top 59)):=by constructor<;>first|rfl|decide +kernel
theorem rQ(T:Txt w K mg)(D:DefAt K mg "_law_asked" (top 59) ["_law_way","_law_machine_here","_law_strip_here","_law_good"])(e:aO P w K mg base TH 4 "checked" ["machine","strip"] bM)(l:aO P w K mg base TH 5 "path" ["machine","strip"] gZ)(k:aO P w K mg base TH 6 "walk" ["machine","strip"] eW)(j:aO P w K mg base TH 1 "sayer" ["machine"] nH)(g:aO P w K mg base TH 7 "holds" ["machine","strip","paper"] jG)(d:aO P w K mg base TH 5 "table_of" ["machine","strip"] gD)(c:aO P w K mg base TH 5 "beginning" ["machine","strip"] fR)(a:qI P w K mg base TH 5 "comes_round" ["machine","ahead","again","behind"] [.str ""] cI):aO P w K mg base TH 13 "_law_asked" ["_law_way","_law_machine_here","_law_strip_here","_law_good"] eE:=
 @cL P w K mg base TH "_law_asked" (top 59) ["_law_way","_law_machine_here","_law_strip_here","_law_good","_law_say"] ["_law_way","_law_machine_here","_law_strip_here","_law_good"] 12 g9 D l6 (fun f n A outer s H F E b=>by
  have nd:=l6.nd
  exact (Fl.aF (Fl.cT (Fl.bZ (d9 rfl b.units) cN (aG (pv 0)) (aB aL) (b7 _)) (Fl.aM (Fl.a7 (bK rfl rfl rfl (bJ e (b.mono (by decide)) rfl (bH fun _ _ _ h=>h) (aA (aJ (pv 1)) (aA (aJ (pv 2)) aT)))))) Fl.bT)
   (Fl.aF (Fl.cT (Fl.bZ (d9 rfl b.units) cN (aG (pv 0)) (aB aL) (b7 _)) (Fl.aM (Fl.a7 (bK rfl rfl rfl (bJ l (b.mono (by decide)) rfl (bH fun _ _ _ h=>h) (aA (aJ (pv 1)) (aA (aJ (pv 2)) aT)))))) Fl.bT)
   (Fl.aF (Fl.cT (Fl.bZ (d9 rfl b.units) cN (aG (pv 0)) (aB aL) (b7 _)) (Fl.aM (Fl.a7 (bK rfl rfl rfl (bJ k (b.mono (by decide)) rfl (bH fun _ _ _ h=>h) (aA (aJ (pv 1)) (aA (aJ (pv 2)) aT)))))) Fl.bT)
   (Fl.aF (Fl.cT (Fl.bZ (d9 rfl b.units) cN (aG (pv 0)) (aB aL) (b7 _)) (Fl.aF (Fl.aK (L2.aK (i:=4) nd rfl (Or.inl rfl) (bK rfl rfl rfl (bJ j (b.mono (by decide)) rfl (bH fun _ _ _ h=>h) (aA (aJ (pv 1)) aT)))))
   (Fl.aM (Fl.a7 (aQ (aGQ (m:=12) rfl rfl rfl (b.mono (by decide)) (aBN (pv 4) (bH fun _ _ _ h=>h) (bW (dU (pv 2)) fB))))))) Fl.bT)
   (Fl.aF (Fl.cT (Fl.bZ (d9 rfl b.units) cN (aG (pv 0)) (aB aL) (b7 _)) (Fl.aM (Fl.a7 (bK rfl rfl rfl (bJ g (b.mono (by decide)) rfl (bH fun _ _ _ h=>h) (aA (aJ (pv 1)) (aA (aJ (pv 2)) (aA (aQ (mI (@bW _ _ _ _ _ _ _ eI (@bW _ _ _ _ _ _ _ aL (@bW _ _ _ _ _ _ _ aL (@bW _ _ _ _ _ _ _ aL (@bW _ _ _ _ _ _ _ aL fB j1) j1) j1) j1) j1))) aT))))))) Fl.bT)
   (Fl.aF (Fl.cT (Fl.bZ (d9 rfl b.units) cN (aG (pv 0)) (aB aL) (b7 _)) (Fl.aM (Fl.a7 (bK rfl rfl rfl (bJ d (b.mono (by decide)) rfl (bH fun _ _ _ h=>h) (aA (aJ (pv 1)) (aA (aJ (pv 2)) aT)))))) Fl.bT)
   (Fl.aF (Fl.cT (Fl.bZ (d9 rfl b.units) cN (aG (pv 0)) (aB aL) (b7 _)) (Fl.aM (Fl.a7 (bK rfl rfl rfl (bJ c (b.mono (by decide)) rfl (bH fun _ _ _ h=>h) (aA (aJ (pv 1)) (aA (aJ (pv 2)) aT)))))) Fl.bT)
   (Fl.aF (Fl.cT (Fl.bZ (d9 rfl b.units) cN (aG (pv 0)) (aB aL) (b7 _)) (Fl.aM (Fl.a7 (bK rfl rfl rfl (bJ a.calls (b.mono (by decide)) rfl (bH fun _ _ _ h=>h) (aA (aJ (pv 1)) (aA (aJ (pv 2)) (aA (aJ (pv 3)) (aA (aJ (pv 3)) aT)))))))) Fl.bT)
   (Fl.aF (Fl.cT (Fl.bZ (d9 rfl b.units) cN (aG (pv 0)) (aB aL) (b7 _)) (Fl.aM (Fl.a7 (bK rfl rfl rfl (bJ a.calls (b.mono (by decide)) rfl (bH fun _ _ _ h=>h) (aA (aJ (pv 1)) (aA (aJ (pv 3)) (aA (aJ (pv 2)) (aA (aJ (pv 3)) aT)))))))) Fl.bT)
   (Fl.aM (Fl.a7 (bK rfl rfl rfl (bJ a.calls (b.mono (by decide)) rfl (bH fun _ _ _ h=>h) (aA (aJ (pv 1)) (aA (aJ (pv 3)) (aA (aJ (pv 3)) (aA (aJ (pv 2)) aT))))))))))))))))))
end
section
variable{P:P9}{w:W9}{K:Frag}{mg:Str->O9 V9}{base:H9}{TH:Hp}
theorem kG:FnScope ["_law_way","_law_machine_here","_law_strip_here","_law_good","_law_caught","e"] ["_law_way","_law_machine_here","_law_strip_here","_law_good"] (aC (top 60)):=by constructor<;>first|rfl|decide +kernel
theorem pI(T:Txt w K mg)(D:DefAt K mg "_law_refused" (top 60) ["_law_way","_law_machine_here","_law_strip_here","_law_good"])(b:aO P w K mg base TH 13 "_law_asked" ["_law_way","_law_machine_here","_law_strip_here","_law_good"] eE){W_NoStrip C_NoStrip:Az}(a:ErrAt P w K mg base "NoStrip" ["at"] W_NoStrip C_NoStrip)(U_NoStrip:UpK K mg ["NoStrip"])(J_NoStrip_ValueError:uB K mg "NoStrip" "ValueError" true)(I_NoStrip_NoStrip:Is1 K mg "NoStrip" "NoStrip" true)(I_NoStrip_TooMany:Is1 K mg "NoStrip" "TooMany" false)(I_NoStrip_NoText:Is1 K mg "NoStrip" "NoText" false)(I_NoStrip_NoMachine:Is1 K mg "NoStrip" "NoMachine" false)(I_NoStrip_NoWord:Is1 K mg "NoStrip" "NoWord" false):aO P w K mg base TH 14 "_law_refused" ["_law_way","_law_machine_here","_law_strip_here","_law_good"] dJ:=
 @cL P w K mg base TH "_law_refused" (top 60) ["_law_way","_law_machine_here","_law_strip_here","_law_good","_law_caught","e"] ["_law_way","_law_machine_here","_law_strip_here","_law_good"] 13 gG D kG (fun f g A outer s H F E e=>by
  have nd:=kG.nd
  exact (Fl.aF (Fl.aK (L2.aK (i:=4) nd rfl (Or.inl rfl) (aQ jY)))
   (Fl.aF (v6 (i:=5) rfl rfl ⟨rfl,rfl⟩ nd rfl rfl rfl U_NoStrip.choose_spec.choose_spec.1 U_NoStrip.choose_spec.choose_spec.2.1 U_NoStrip.choose_spec.choose_spec.2.2 (fun j σ h=>zI b (e.mono (by decide)) rfl (aA (aJ (pv 0)) (aA (aJ (pv 1)) (aA (aJ (pv 2)) (aA (aJ (pv 3)) aT))))) (fun e1=>(Fl.aM (Fl.aK (L2.aK (i:=4) nd rfl (Or.inl rfl) (aJ (pv 5)))))))
   (Fl.aF (Fl.cT (PW.pt (Fl.k8 (Fl.l7 (Fl.gN (mP rfl (kU a.c a.m I_NoStrip_NoStrip) fun D d=>bN cV rfl T.b_isinstance BJ (aN (pv 4) (aN (jN (v:=.ref D) rfl d rfl) aY))))) (Fl.kM (Fl.l7 (Fl.gN (zS rfl rfl (aBV a.c a.m J_NoStrip_ValueError wA) (bN cV rfl T.b_isinstance BJ (aN (pv 4) (aN (pM (v:=.ty "ValueError") rfl T.b_ValueError aD6 rfl) aY))))))))) (Fl.aM (Fl.a7 (aQ jY))) Fl.bT)
   (Fl.aF (Fl.cT (PW.pt (Fl.k8 (Fl.gN (mP rfl (kU a.c a.m I_NoStrip_NoMachine) fun D d=>bN cV rfl T.b_isinstance BJ (aN (pv 4) (aN (jN (v:=.ref D) rfl d rfl) aY)))) (Fl.k8 (Fl.gN (mP rfl (kU a.c a.m I_NoStrip_NoText) fun D d=>bN cV rfl T.b_isinstance BJ (aN (pv 4) (aN (jN (v:=.ref D) rfl d rfl) aY)))) (Fl.kM (Fl.gN (mP rfl (kU a.c a.m I_NoStrip_TooMany) fun D d=>bN cV rfl T.b_isinstance BJ (aN (pv 4) (aN (jN (v:=.ref D) rfl d rfl) aY)))))))) (Fl.aM (Fl.a7 (aQ jY))) Fl.bT)
   (Fl.aF (Fl.cT (PW.pt (Fl.k8 (Fl.gN (mP rfl (kU a.c a.m I_NoStrip_NoWord) fun D d=>bN cV rfl T.b_isinstance BJ (aN (pv 4) (aN (jN (v:=.ref D) rfl d rfl) aY)))) (Fl.kM (Fl.gN (zF (bN (t4 rfl (aBE _)) rfl T.b_isinstance BJ (aN (aB (xS rfl rfl (mO a (by decide)) (pS (pv 4) rfl))) (aN (pM (v:=.ty "bool") rfl T.b_bool PyProof.Rows.boot_bool rfl) aY)))))))) (Fl.aM (Fl.a7 (aQ jY))) Fl.bT)
   (Fl.aM (Fl.a7 (aQ (xS rfl rfl (mO a (by decide)) (pS (pv 4) rfl)))))))))))
theorem iJ:FnScope ["_law_machine_here","_law_sign","_law_told","e"] ["_law_machine_here","_law_sign"] (aC (top 61)):=by constructor<;>first|rfl|decide +kernel
theorem lV(T:Txt w K mg)(D:DefAt K mg "_law_sign_refused" (top 61) ["_law_machine_here","_law_sign"])(b:aO P w K mg base TH 5 "sign_table" ["machine","sign"] fF){W_NoStrip C_NoStrip:Az}(a:ErrAt P w K mg base "NoStrip" ["at"] W_NoStrip C_NoStrip):aO P w K mg base TH 6 "_law_sign_refused" ["_law_machine_here","_law_sign"] cH:=
 @cL P w K mg base TH "_law_sign_refused" (top 61) ["_law_machine_here","_law_sign","_law_told","e"] ["_law_machine_here","_law_sign"] 5 eH D iJ (fun f e A outer s H F E d=>by
  have nd:=iJ.nd
  exact (Fl.aF (Fl.aK (L2.aK (i:=2) nd rfl (Or.inl rfl) (aQ jY)))
   (Fl.aF (v6 (i:=3) rfl rfl ⟨rfl,rfl⟩ nd rfl rfl rfl a.m a.c.any (uA a) (fun h σ g=>zI b (d.mono (by decide)) rfl (aA (aJ (pv 0)) (aA (aJ (pv 1)) aT))) (fun e1=>(Fl.aM (Fl.aK (L2.aK (i:=2) nd rfl (Or.inl rfl) (aQ (xS rfl rfl (mO a (by decide)) (pS (pv 3) rfl))))))))
   (Fl.aM (Fl.a7 (aJ (pv 2)))))))
theorem z9:FnScope ["_law_script","_law_signs","_law_machine_here","_law_strip_here","_law_odd","_law_good","_law_way","_law_found"] ["_law_script"] (aC (top 62)):=by constructor<;>first|rfl|decide +kernel
theorem aGZ(T:Txt w K mg){l:Az}{k:FuncData}(p:Fun K "law" "law" (top 62) l k)(e:aO P w K mg base TH 2 "_law_mixed" ["_law_script","_law_few"] gE)(b:aO P w K mg base TH 1 "_law_cell" ["_law_script","_law_k"] aZ)(d:aO P w K mg base TH 3 "_law_machine" ["_law_cells","_law_many","_law_signs"] dH)(f:aO P w K mg base TH 2 "_law_strip" ["_law_script","_law_signs"] eD)(c:aO P w K mg base TH 14 "_law_refused" ["_law_way","_law_machine_here","_law_strip_here","_law_good"] dJ)(a:aO P w K mg base TH 6 "_law_sign_refused" ["_law_machine_here","_law_sign"] cH)(g:aO P w K mg base TH 4 "checked" ["machine","strip"] bM):FnOk P w K mg base (CXe P w) 15 l k ["_law_script"] (spF (gOf P w K mg base TH) K mg 1 sA):=
 @aGM P w K mg base TH "law" (top 62) ["_law_script","_law_signs","_law_machine_here","_law_strip_here","_law_odd","_law_good","_law_way","_law_found"] ["_law_script"] 14 l k xZ p z9 (fun q A outer s H F E j=>by
  have nd:=z9.nd
  exact (Fl.aF (Fl.aK (L2.aK (i:=0) nd rfl (Or.inl rfl) (bK rfl rfl rfl (bJ e (j.mono (by decide)) rfl (bH fun _ _ _ h=>h) (aA (aJ (pv 0)) (aA (aQ aL) aT))))))
   (Fl.aF (Fl.aK (L2.aK (i:=1) nd rfl (Or.inr rfl) (aQ (aV (dN rfl) cJ (aB aL) (aB (aV dC cC (aB (fV (bK rfl rfl rfl (bJ b (j.mono (by decide)) rfl (bH fun _ _ _ h=>h) (aA (aJ (pv 0)) (aA (aQ aL) aT)))))) (aB aL)))))))
   (Fl.aF (Fl.aK (L2.aK (i:=2) nd rfl (Or.inl rfl) (bK rfl rfl rfl (bJ d (j.mono (by decide)) rfl (bH fun _ _ _ h=>h) (aA (aQ (eQ rfl (aG (pv 0)) (i9 (aB aL)) i8)) (aA (aQ (aV (dN rfl) cJ (aB aL) (aB (aV dC cC (aB (aV h8 fH (aB (fV (bK rfl rfl rfl (bJ b (j.mono (by decide)) rfl (bH fun _ _ _ h=>h) (aA (aJ (pv 0)) (aA (aQ aL) aT)))))) (aB aL))) (aB aL))))) (aA (aJ (pv 1)) aT)))))))
   (Fl.aF (Fl.aK (L2.aK (i:=3) nd rfl (Or.inl rfl) (bK rfl rfl rfl (bJ f (j.mono (by decide)) rfl (bH fun _ _ _ h=>h) (aA (aJ (pv 0)) (aA (aJ (pv 1)) aT))))))
   (Fl.aF (aDW (L2.wT (i:=4) nd rfl (Or.inl rfl) (by rfl) (N:=["_law_at","_law_sign","_law_signs"]) (js:=[none,none,some 1]) rfl (.own (.own (.cap rfl (.inl rfl) (.inl rfl) .nil))) (by rfl) (aEI rfl (L2.aEG rfl T.b_enumerate (aN (aG (pv 3)) aY)))) (by decide) (by decide) (is:=[0,1]) (fun cl C m o n=>⟨_,(x6 rfl (k9 (dM (i:=0) (show (["_law_at","_law_sign","_law_signs"]:List Str).Nodup by decide +kernel) rfl (Or.inl rfl)) (k9 (dM (i:=1) (show (["_law_at","_law_sign","_law_signs"]:List Str).Nodup by decide +kernel) rfl (Or.inl rfl)) vF))),(zC rfl (lM (dO 0) (lM (dO 1) vX)) rfl),(vL (Fl.bZ (vU rfl j.units) rC (aG (pv 1)) (aB (eQ rfl (aB eI) i8 (i9 (aG (pv 2))))) (by with_unfolding_all rfl))),(dU (pv 0))⟩))
   (Fl.aF (Fl.aK (L2.aK (i:=5) nd rfl (Or.inl rfl) (aQ (aDZ rfl (rT PySem.F.plainAttrs_str PySem.F.slot_str_join PySem.F.type_str_join aDI (aB eI) (aN (aB (o4 (qA (pR (N:=["_law_sign","_law_signs"]) (js:=[none,some 1]) rfl (.own (.cap rfl (.inl rfl) (.inl rfl) .nil)) (by rfl) (aBB rfl (aG (pv 3)))) (by decide) (by decide) (is:=[0]) (fun cl C m o n=>⟨_,(dM (i:=0) (show (["_law_sign","_law_signs"]:List Str).Nodup by decide +kernel) rfl (Or.inl rfl)),(dO 0),(vL (Fl.bZ (aGD rfl j.units) aA8 (aG (pv 0)) (aB (eQ rfl (aB eI) i8 (i9 (aG (pv 1))))) (by with_unfolding_all rfl))),(dU (pv 0))⟩)))) aY)) (by intro ρ x h;cases h;exact ⟨_,rfl⟩)))))
   (Fl.aF (Fl.cT (Fl.bZ y7 tQ (aB (fO rfl (bN dR rfl T.b_len BU (aN (aG (pv 4)) aY)))) (aB aL) (b7 _)) (Fl.aF (Fl.dF (dO 6) (L2.dF (gH ⟨rfl,rfl⟩) rfl (jQ (hU rfl T.b_range (aN (aB aL) aY))) (dM (i:=6) nd rfl (Or.inl rfl))
   (Fl.aM (Fl.cT (Fl.bZ (y9 rfl j.units) tS (aB (fV (bK rfl rfl rfl (bJ c (j.mono (by decide)) rfl (bH fun _ _ _ h=>h) (aA (aJ (pv 6)) (aA (aJ (pv 2)) (aA (aJ (pv 3)) (aA (aQ (eQ rfl (aG (pv 5)) i8 (i9 (aB aL)))) aT)))))))) (aB (dZ (d4 rfl) bV (aG (pv 4)) (aB aL))) (b7 _)) (Fl.aM (Fl.a7 (aQ xI))) Fl.bT))))
   (Fl.aM (Fl.cT (Fl.bZ (y9 rfl j.units) tS (aB (fV (bK rfl rfl rfl (bJ a (j.mono (by decide)) rfl (bH fun _ _ _ h=>h) (aA (aJ (pv 2)) (aA (aQ (dZ (d4 rfl) bV (aG (pv 3)) (aB (dZ (d4 rfl) bV (aG (pv 4)) (aB aL))))) aT)))))) (aB aL) (b7 _)) (Fl.aM (Fl.a7 (aQ xI))) Fl.bT))) Fl.bT)
   (Fl.aF (Fl.aK (L2.aK (i:=7) nd rfl (Or.inl rfl) (bK rfl rfl rfl (bJ g (j.mono (by decide)) rfl (bH fun _ _ _ h=>h) (aA (aJ (pv 2)) (aA (aJ (pv 5)) aT))))))
   (Fl.aM (Fl.a7 (aQ (aGF (zF (bN (t4 rfl (aDY _)) rfl T.b_isinstance BJ (aN (aG (pv 7)) (aN (pM (v:=.ty "str") rfl T.b_str PyProof.Rows.boot_str rfl) aY)))) (aGE (o5 (d9 rfl j.units) cN (aG (pv 7)) (aG (pv 5)) (b7 _))))))))))))))))
end
theorem aG0(G:Int->Int->Int)(i j:Int):d2 G (.int i) (.int j)=.ok (.int (G i j)):=rfl
theorem oK(ns:List Int){k:Int}(h:0<=k):∃ v,aZ [.d (a5 ns),.d (.int k)]=.ok (.d (.int v)):=by
 by_cases a:k < (ns.length:Int)
 .obtain ⟨v,b⟩:=zY h a
  exact ⟨v,by simp[aZ,fY,kX,a,b]⟩
 .exact ⟨0,by simp[aZ,fY,kX,a]⟩
theorem aCW(x:Int){n:Int}(f:0 < n):∃ t:Tn,d6 [.d (.int x),.d (.int n)]=.ok (.d t.d)/\t.good n:=by
 have c:=ED x (by omega:n+2≠0)
 have h1:=DS x (by omega:0 < n+2)
 have b:0 < n+2:=by omega
 by_cases a:x % (n+2) < n
 .exact ⟨.n (x % (n+2)),by simp[d6,gP,dX,b,a];rfl,c,a⟩
 .rcases (by omega:x % (n+2) - n=0\/x % (n+2) - n=1) with e|e
  .have:=aGT (.str "by") [.str "out"]
   exact ⟨.w "by",by simp[d6,gP,dX,b,a,e,this];rfl,.inl rfl⟩
  .have:=aGU (.str "by") (.str "out") []
   exact ⟨.w "out",by simp[d6,gP,dX,b,a,e,this];rfl,.inr rfl⟩
theorem aG1(x:Int){n:Int}{sg:Nat}(B:0 < n)(O:n<=60)(Y:sg<=3):∃ r:Rw,gJ [.d (.int x),.d (.int n),.d (.int sg)]=.ok (.d (gS r))/\r.good n/\r.c.length=sg:=by
 obtain ⟨t,N,T⟩:=aCW x B
 have C:=gK (n:=sg) (by omega)
 have p2:0 < 2 * n:=by omega
 have L:2 * n < 18446744073709551616:=by omega
 have D:0 < n+2:=by omega
 have K:n+2 < 18446744073709551616:=by omega
 obtain ⟨J,q,y,a,s,u6,f,v,e⟩:=iS (fs:=stN 5) (fb:=lrB) (d:=fun i:Nat=>.int (i:Int)) (xs:=List.range sg) (ρ:=[some (.d (.int (x / (n+2)))),some (.d (.int n)),some (.d (.int sg)),some (.d t.d),some (.l []),none,none])
  (fun i ρ=>∃ (y:Int) (a:List (Int×Int)) (s u6:O9 A),a.length=i/\(∀ c∈a,sT n c)/\ρ=[some (.d (.int y)),some (.d (.int n)),some (.d (.int sg)),some (.d t.d),some (.l (a.map iZ)),s,u6]) ⟨_,[],none,none,rfl,fun _ h=>absurd h C4,rfl⟩ (fun i k ρ hi g=>by
  obtain ⟨y,a,s,u6,f,v,e⟩:=g
  subst e
  have Q:i < sg:=by have:=(AU.mp hi).1;simpa using this
  have m:(a.map iZ).length < 16777216:=by rw[AQ,f];omega
  have Z:=ED y (by omega:2 * n≠0)
  have V:=DS y p2
  have b:(a++[(y % (2 * n) / 2,1 - 2 * (y % (2 * n) % 2))]).map iZ=a.map iZ++[.tuple [.int (y % (2 * n) / 2),.int (1 - 2 * (y % (2 * n) % 2))]]:=by rw[BW];rfl
  refine ⟨[some (.d (.int y)),some (.d (.int n)),some (.d (.int sg)),some (.d t.d),some (.l (a.map iZ)),some (.d (.int (k:Int))),u6],[some (.d (.int (y / (2 * n)))),some (.d (.int n)),some (.d (.int sg)),some (.d t.d),some (.l (a.map iZ++[.tuple [.int (y % (2 * n) / 2),.int (1 - 2 * (y % (2 * n) % 2))]])),some (.d (.int (k:Int))),some (.d (.int (y % (2 * n))))],rfl,.inl ?_,y / (2 * n),a++[(y % (2 * n) / 2,1 - 2 * (y % (2 * n) % 2))],some (.d (.int (k:Int))),some (.d (.int (y % (2 * n)))),by rw[A6,f];rfl,fun c I=>?_,by rw[b]⟩
  .generalize a.map iZ=H at *
   generalize t.d=F at *
   have w:=mR (i:=2) (j:=n) (by decide) (by decide)
   have M:=dX (i:=y) p2
   have U:=jF (i:=y) p2 L
   generalize y % (2 * n)=o at *
   generalize y / (2 * n)=Y2 at *
   have S:=jF (i:=o) (j:=2) (by decide) (by decide)
   have G:=dX (i:=o) (j:=2) (by decide)
   have E:=mR (i:=2) (j:=o % 2) (by decide) (by decide)
   simp[lrB,w,M,U,S,G,E,m]
  .rcases B6.mp I with z|z
   .exact v c z
   .rw[BA.mp z]
    refine ⟨?_,?_,?_⟩<;>simp only<;>omega)
 subst e
 rw[B1] at f
 obtain ⟨u,p,gt2⟩:=aCW y B
 refine ⟨⟨t,a,u⟩,?_,⟨T,gt2,v⟩,f⟩
 unfold gJ
 rw[lU]
 have w:=jF (i:=x) D K
 show _=R.ok (A.d (PyData.tuple [t.d,.tuple (a.map iZ),u.d]))
 generalize a.map iZ=H at *
 generalize t.d=F at *
 generalize u.d=P at *
 generalize ((List.range sg).map fun i:Nat=>PyData.int (i:Int))=W at *
 generalize x / (n+2)=X at *
 simp[N,w,C,q,p]
theorem aES{ns:List Int}{n:Int}{sg:Nat}{L:List Dz}{k:Nat}{u:O9 A}:∃ x:Int,(aR (bO 5 (vD (e2 dMul (eC (.int 48271)) (e2 cX (rV 4) (eC (.int 1)))))) (sIf (e1 asB (e2 dGt (e1 dLen (rV 0)) (eC (.int 0)))) (bO 5 (vD (e2 cX (e2 dIx (rV 0) (e2 (d2 iR) (rV 4) (e2 dSub (e1 dLen (rV 0)) (eC (.int 1))))) (e2 dMul (rV 5) (e1 dInt (e2 dGe (rV 4) (e1 dLen (rV 0)))))))) sNx)) [some (.d (a5 ns)),some (.d (.int n)),some (.d (.int sg)),some (.l L),some (.d (.int (k:Int))),u]=.ok (.nx [some (.d (a5 ns)),some (.d (.int n)),some (.d (.int sg)),some (.l L),some (.d (.int (k:Int))),some (.d (.int x))]):=by
 have a:=kX ns
 have b:=mR (i:=48271) (j:=(k:Int)+1) (by decide) (by decide)
 by_cases h:(0:Int) < ns.length
 .have hi:0<=iR (k:Int) ((ns.length:Int) - 1)/\iR (k:Int) ((ns.length:Int) - 1) < ns.length:=by
   unfold iR;split<;>omega
  obtain ⟨v,c⟩:=zY hi.1 hi.2
  generalize a5 ns=S at *
  have e:=fun z:Int=>uI (i:=z) (j:=if (ns.length:Int)<=(k:Int) then 1 else 0) (by split<;>decide) (by split<;>decide)
  generalize (ns.length:Int)=N at *
  refine ⟨v+48271 * ((k:Int)+1) * (if N<=(k:Int) then 1 else 0),?_⟩
  simp[b,a,h,aG0,c,e]
 .generalize a5 ns=S at *
  generalize (ns.length:Int)=N at *
  exact ⟨48271 * ((k:Int)+1),by simp[b,a,h]⟩
theorem aJP{ns:List Int}{n sg:Nat}(h1:1<=n)(h2:n<=60)(s1:1<=sg)(B:sg<=3):∃ rs:List Rw,dH [.d (a5 ns),.d (.int n),.d (.int sg)]=.ok (.d (bG rs))/\Mach rs sg/\rs.length=n:=by
 have p:=gK (n:=n) (by omega)
 obtain ⟨G,q,rs,w,f,a,t,e⟩:=iS (fs:=stN 4) (fb:=lmB) (d:=fun i:Nat=>.int (i:Int)) (xs:=List.range n) (ρ:=[some (.d (a5 ns)),some (.d (.int n)),some (.d (.int sg)),some (.l []),none,none])
  (fun i ρ=>∃ (rs:List Rw) (w f:O9 A),rs.length=i/\(∀ r∈rs,r.good n/\r.c.length=sg)/\ρ=[some (.d (a5 ns)),some (.d (.int n)),some (.d (.int sg)),some (.l (rs.map gS)),w,f]) ⟨[],none,none,rfl,fun _ h=>absurd h C4,rfl⟩ (fun i k ρ hi m=>by
  obtain ⟨rs,w,f,a,t,e⟩:=m
  subst e
  have I:i < n:=by have:=(AU.mp hi).1;simpa using this
  have o:(rs.map gS).length < 16777216:=by rw[AQ,a];omega
  obtain ⟨x,y⟩:=aES (ns:=ns) (n:=n) (sg:=sg) (L:=rs.map gS) (k:=k) (u:=f)
  obtain ⟨r,p,v,s⟩:=aG1 x (n:=(n:Int)) (sg:=sg) (by omega) (by omega) B
  have b:(rs++[r]).map gS=rs.map gS++[gS r]:=by rw[BW];rfl
  refine ⟨[some (.d (a5 ns)),some (.d (.int n)),some (.d (.int sg)),some (.l (rs.map gS)),some (.d (.int (k:Int))),f],[some (.d (a5 ns)),some (.d (.int n)),some (.d (.int sg)),some (.l (rs.map gS++[gS r])),some (.d (.int (k:Int))),some (.d (.int x))],rfl,.inl ?_,rs++[r],some (.d (.int (k:Int))),some (.d (.int x)),by rw[A6,a];rfl,fun H g=>?_,by rw[b]⟩
  .rw[show lmB=aR (bO 5 (vD (e2 dMul (eC (.int 48271)) (e2 cX (rV 4) (eC (.int 1)))))) (aR (sIf (e1 asB (e2 dGt (e1 dLen (rV 0)) (eC (.int 0)))) (bO 5 (vD (e2 cX (e2 dIx (rV 0) (e2 (d2 iR) (rV 4) (e2 dSub (e1 dLen (rV 0)) (eC (.int 1))))) (e2 dMul (rV 5) (e1 dInt (e2 dGe (rV 4) (e1 dLen (rV 0)))))))) sNx) (oB 3 (eA (bA 3 gJ (aD (vV 5) (aD (vV 1) (aD (vV 2) a6))))))) from rfl]
   generalize rs.map gS=F at *
   generalize gS r=D at *
   generalize a5 ns=S at *
   generalize E:(sIf (e1 asB (e2 dGt (e1 dLen (rV 0)) (eC (.int 0)))) (bO 5 (vD (e2 cX (e2 dIx (rV 0) (e2 (d2 iR) (rV 4) (e2 dSub (e1 dLen (rV 0)) (eC (.int 1))))) (e2 dMul (rV 5) (e1 dInt (e2 dGe (rV 4) (e1 dLen (rV 0)))))))) sNx)=J at *
   have C:=mR (i:=48271) (j:=(k:Int)+1) (by decide) (by decide)
   simp[C] at y
   simp[C,y,p,o]
  .rcases B6.mp g with z|z
   · exact t H z
   · rw [BA.mp z]; exact ⟨v, s⟩)
 subst e
 rw[B1] at a
 refine ⟨rs,?_,⟨by omega,by omega,s1,B,by rw[a];exact t⟩,a⟩
 unfold dH bG
 rw[gB]
 generalize rs.map gS=F at *
 generalize a5 ns=S at *
 generalize ((List.range n).map fun i:Nat=>PyData.int (i:Int))=D at *
 simp[p,q]
theorem aET{ns:List Int}{b:Bool}{m j:Int}{L:List Dz}{k:Nat}{u:O9 A}(n:L.length < 16777216):∃ x:Int,mxB [some (.d (a5 ns)),some (.d (.int m)),some (.d (.int j)),some (.d (.bool b)),some (.l L),some (.d (.int (k:Int))),u]=.ok (.nx [some (.d (a5 ns)),some (.d (.int m)),some (.d (.int j)),some (.d (.bool b)),some (.l (L++[.int x])),some (.d (.int (k:Int))),some (.d (.int x))]):=by
 have g:=kX ns
 obtain ⟨v,f⟩:=oK ns (k:=(k:Int)) (by omega)
 have a:∃ w:Int,dDiv (.int v) (.int (1+if k=0 then 1 else 0))=.ok (.int w):=⟨_,jF (by split<;>decide) (by split<;>decide)⟩
 obtain ⟨w,a⟩:=a
 have r:dPow (.int 10) (.int 15)=.ok (.int 1000000000000000):=by kernel_rfl
 have o:=dX (i:=w) (j:=1000000000000000) (by decide)
 have B:=mR (i:=7919) (j:=(k:Int)) (by decide) (by decide)
 have s:=fun i:Int=>uI (i:=i) (j:=48271) (by decide) (by decide)
 have q:=fun i:Int=>dX (i:=i) (j:=2147483647) (by decide)
 have p:=fun i:Int=>uI (i:=i) (j:=69621) (by decide) (by decide)
 have t:=fun i:Int=>dX (i:=i) (j:=2147483629) (by decide)
 have e:∀ c:Bool,(c=true->b=true/\¬ (ns.length:Int)<=(k:Int))->(c=false->b=false\/(ns.length:Int)<=(k:Int))->∃ x:Int,mxB [some (.d (a5 ns)),some (.d (.int m)),some (.d (.int j)),some (.d (.bool b)),some (.l L),some (.d (.int (k:Int))),u]=.ok (.nx [some (.d (a5 ns)),some (.d (.int m)),some (.d (.int j)),some (.d (.bool b)),some (.l (L++[.int x])),some (.d (.int (k:Int))),some (.d (.int x))]):=fun c h1 h2=>by
  generalize a5 ns=S at *
  generalize (ns.length:Int)=N at *
  cases c with
  | true=>
   obtain ⟨rfl,y⟩:=h1 rfl
   refine ⟨w,?_⟩
   simp[mxB,f,gO,g,y,n,a]
  | false=>
   refine ⟨((w % 1000000000000000+7919 * (k:Int)) * 48271 % 2147483647) * 69621 % 2147483629,?_⟩
   rcases h2 rfl with rfl|y
   .simp[mxB,f,gO,g,a,r,o,B,s,q,p,t,n]
   .cases b with
    | false=>
     simp[mxB,f,gO,g,a,r,o,B,s,q,p,t,n]
    | true=>
     simp[mxB,f,gO,g,y,a,r,o,B,s,q,p,t,n]
 by_cases C:b=true/\¬ (ns.length:Int)<=(k:Int)
 .exact e true (fun _=>C) (fun h=>by cases h)
 .refine e false (fun h=>by cases h) fun _=>?_
  cases b with
  | false=>exact .inl rfl
  | true=>exact .inr (by by_cases z:(ns.length:Int)<=(k:Int);exact z;exact absurd ⟨rfl,z⟩ C)
theorem aIG(ns:List Int):∃ ms:List Int,gE [.d (a5 ns),.d (.int 24)]=.ok (.d (a5 ms)):=by
 have r:=kX ns
 obtain ⟨N,y,w⟩:∃ N:Nat,N<=1000/\t6 24 (iR 63 (ns.length:Int))=(N:Int):=by
  refine ⟨(t6 24 (iR 63 (ns.length:Int))).toNat,?_,?_⟩<;>(unfold t6 iR;split<;>split<;>omega)
 have o:=gK (n:=N) (by omega)
 obtain ⟨v,h⟩:=oK ns (k:=0) (by omega)
 have s:=dX (i:=v) (j:=2) (by decide)
 obtain ⟨g,q,xs,f,u6,a,e⟩:=iS (fs:=stN 5) (fb:=mxB) (d:=fun i:Nat=>.int (i:Int)) (xs:=List.range N) (ρ:=[some (.d (a5 ns)),some (.d (.int 24)),some (.d (.int N)),some (.d (.bool (decide (v % 2=0)))),some (.l []),none,none])
  (fun i ρ=>∃ (xs:List Int) (f u6:O9 A),xs.length=i/\ρ=[some (.d (a5 ns)),some (.d (.int 24)),some (.d (.int N)),some (.d (.bool (decide (v % 2=0)))),some (.l (xs.map .int)),f,u6]) ⟨[],none,none,rfl,rfl⟩ (fun i k ρ hi c=>by
  obtain ⟨xs,f,u6,a,e⟩:=c
  subst e
  have t:i < N:=by have:=(AU.mp hi).1;simpa using this
  obtain ⟨x,p⟩:=aET (ns:=ns) (b:=decide (v % 2=0)) (m:=24) (j:=N) (L:=xs.map .int) (k:=k) (u:=u6) (by rw[AQ];omega)
  refine ⟨_,_,rfl,.inl p,xs++[x],some (.d (.int (k:Int))),some (.d (.int x)),by rw[A6,a];rfl,by rw[BW];rfl⟩)
 subst e
 refine ⟨xs,?_⟩
 unfold gE
 rw[j3]
 show _=R.ok (A.d (PyData.list (xs.map .int)))
 generalize xs.map PyData.int=B at *
 generalize a5 ns=S at *
 generalize ((List.range N).map fun i:Nat=>PyData.int (i:Int))=z at *
 generalize (ns.length:Int)=C at *
 simp[r,aG0,w,h,s,gO,o,q,fz]
def tD(z:List Nat):Dz:=.str ⟨z.toArray⟩
def Lw(n:Nat)(z:List Nat):Prop:=z.length<=n/\∀ c∈z,c < 200
theorem uQ{z:List Nat}(h:z.length<=16777216):dLen (tD z)=.ok (.int z.length):=by
 have:=aGS (z:=⟨z.toArray⟩) (by rw[jR];exact h)
 rw[jR] at this
 exact this
theorem aCX{z:List Nat}{i:Int}{u:Nat}(h:z.length<=16777216)(hi:atI z i=some u):dIx (tD z) (.int i)=.ok (tD [u]):=aIC (by rw[jR];exact h) hi
theorem uR{x y:List Nat}(h:x.length+y.length<=16777216):cX (tD x) (tD y)=.ok (tD (x++y)):=by
 have a:∀ x:List Nat,(⟨x.toArray⟩:Str).length=x.length:=fun x=>by simp[Str.length]
 unfold tD
 rw[zV (by rw[a,a];exact h)]
 congr 2
 show (⟨x.toArray++y.toArray⟩:Str)=_
 rw[List.append_toArray]
theorem aEU{z:List Nat}{i:Nat}(h:z.length<=16777216)(hi:i<=z.length):dSl (tD z) none (some (i:Int))=.ok (tD (z.take i)):=by
 unfold tD
 rw[lT (by rw[jR];exact h),lS (z:=⟨z.toArray⟩) hi]
theorem aEV{z:List Nat}{i:Nat}(h:z.length<=16777216)(hi:i<=z.length):dSl (tD z) (some (i:Int)) none=.ok (tD (z.drop i)):=by
 unfold tD
 rw[lT (by rw[jR];exact h),xW (z:=⟨z.toArray⟩) hi]
theorem sB{x:Str}{z:List Nat}(h:x.cps.toList=z):PyData.str x=tD z:=by
 subst h;unfold tD;simp
theorem aG2{z:List Nat}(h:z≠[])(v:Int):∃ u,atI z (v % (z.length:Int))=some u/\u∈z:=by
 have b:0 < z.length:=EF.mpr h
 have h1:=ED v (show (z.length:Int)≠0 by omega)
 have h2:=DS v (show (0:Int) < (z.length:Int) by omega)
 have a:(v % (z.length:Int)).toNat < z.length:=by omega
 exact ⟨z[(v % (z.length:Int)).toNat],wB h1 (AS a),List.getElem_mem a⟩
theorem aAA{z:List Nat}(h:z≠[])(b:z.length<=1000)(v:Int):∃ u,dMod (.int v) (.int (z.length:Int))=.ok (.int (v % (z.length:Int)))/\dIx (tD z) (.int (v % (z.length:Int)))=.ok (tD [u])/\u∈z:=by
 have c:0 < z.length:=EF.mpr h
 obtain ⟨u,e,a⟩:=aG2 h v
 exact ⟨u,dX (by omega),aCX (by omega) e,a⟩
theorem aAB(x:Int){sg:Nat}(s1:1<=sg)(a:sg<=3):∃ u,u < 200/\dI [.d (.int x),.d (.int (sg:Int))]=.ok (.d (tD [u])):=by
 obtain ⟨zs,f,e,i,e1,e2,h⟩:∃ zs:List Nat,zs≠[]/\zs.length<=1000/\(∀ c∈zs,c < 200)/\dSl (.str "abc") (some (sg:Int)) none=.ok (.str (Txt.slice "abc" (some (sg:Int)) none))/\dSl (.str "dzxABC019 -><,.~!b") none (some 17)=.ok (.str (Txt.slice "dzxABC019 -><,.~!b" none (some 17)))/\cX (.str (Txt.slice "abc" (some (sg:Int)) none)) (.str (Txt.slice "dzxABC019 -><,.~!b" none (some 17)))=.ok (tD zs):=by
  have k1:("abc":Str).length<=16777216:=by decide
  have k2:("dzxABC019 -><,.~!b":Str).length<=16777216:=by decide
  refine ⟨((Txt.slice "abc" (some (sg:Int)) none)++(Txt.slice "dzxABC019 -><,.~!b" none (some 17))).cps.toList,?_,?_,?_,lT k1,lT k2,?_⟩
  .match sg,s1,a with
   | 1,_,_=>decide +kernel
   | 2,_,_=>decide +kernel
   | 3,_,_=>decide +kernel
  .match sg,s1,a with
   | 1,_,_=>decide +kernel
   | 2,_,_=>decide +kernel
   | 3,_,_=>decide +kernel
  .match sg,s1,a with
   | 1,_,_=>decide +kernel
   | 2,_,_=>decide +kernel
   | 3,_,_=>decide +kernel
  .rw[zV (by match sg,s1,a with
    | 1,_,_=>decide +kernel
    | 2,_,_=>decide +kernel
    | 3,_,_=>decide +kernel),sB rfl]
 obtain ⟨u,d1,d2,g⟩:=aAA f e x
 have b:=uQ (z:=zs) (by omega)
 refine ⟨u,i u g,?_⟩
 generalize tD zs=Z at *
 simp only[dI,gF,cG,bU,cK,eK,dQ,dE,cY,dP,dA,cZ,d5,d7,e1,e2,h,b,d1,d2,R.bind_ok,AJ,BE,AH,AV,Nat.reduceAdd,Nat.reduceSub,List.replicate,A1,A5,AZ,AY,AC,AB]
theorem aB4{ns:List Int}{sg:Nat}{zs:List Nat}(h0:zs≠[])(s:zs.length<=1000)(r:∀ c∈zs,c < 200)(v:Int){n:Nat}(D:n<=60) :
  ∃ (z:List Nat) (u4 u5:O9 A),Lw 60 z/\fC (stN 5) s4A ((List.range n).map fun i:Nat=>.int (i:Int)) [some (.d (a5 ns)),some (.d (.int (sg:Int))),some (.d (tD zs)),some (.d (tD [])),some (.d (.int v)),none,none,none]=.ok (.nx [some (.d (a5 ns)),some (.d (.int (sg:Int))),some (.d (tD zs)),some (.d (tD z)),u4,u5,none,none]):=by
 obtain ⟨l,q,z,w,u5,g,a,rfl⟩:=iS (fs:=stN 5) (fb:=s4A) (d:=fun i:Nat=>.int (i:Int)) (xs:=List.range n) (ρ:=[some (.d (a5 ns)),some (.d (.int (sg:Int))),some (.d (tD zs)),some (.d (tD [])),some (.d (.int v)),none,none,none])
  (fun i ρ=>∃ (z:List Nat) (w:Int) (u5:O9 A),z.length=i/\(∀ c∈z,c < 200)/\ρ=[some (.d (a5 ns)),some (.d (.int (sg:Int))),some (.d (tD zs)),some (.d (tD z)),some (.d (.int w)),u5,none,none]) ⟨[],v,none,rfl,(fun c b=>nomatch b),rfl⟩ fun i k ρ t f=>by
  obtain ⟨z,w,u5,g,a,e⟩:=f
  subst e
  have hi:=(AU.mp t).1
  rw[B1] at hi
  obtain ⟨u,d1,d2,m⟩:=aAA h0 s w
  have B:0 < zs.length:=EF.mpr h0
  have j:=uQ (z:=zs) (by omega)
  have o:=uR (x:=z) (y:=[u]) (by simp;omega)
  have p:dDiv (.int w) (.int (zs.length:Int))=.ok (.int (w / (zs.length:Int))):=jF (by omega) (by omega)
  refine ⟨_,[some (.d (a5 ns)),some (.d (.int (sg:Int))),some (.d (tD zs)),some (.d (tD (z++[u]))),some (.d (.int (w / (zs.length:Int)))),some (.d (.int (k:Int))),none,none],rfl,.inl ?_,z++[u],w / (zs.length:Int),_,by rw[A6,g];rfl,fun c b=>?_,rfl⟩
  .generalize tD zs=Z at *
   generalize tD z=Y at *
   generalize tD (z++[u])=C at *
   generalize tD [u]=U at *
   simp only[s4A,bU,cK,eK,dQ,dE,d5,j,d1,d2,o,p,R.bind_ok,AZ,AY,AC,AB]
  .rcases B6.mp b with h|h
   · exact a c h
   · rw [BA.mp h]; exact r u m
 rw[B1] at g
 exact ⟨z,_,_,⟨by omega,a⟩,q⟩
theorem aB5{ns:List Int}{sg:Nat}(s1:1<=sg)(F:sg<=3){zs:Dz}{z:List Nat}(l:Lw 60 z)(b a:O9 A){n:Nat}(K:n<=3) :
  ∃ (z':List Nat) (u5' u6 u7:O9 A),Lw 63 z'/\fC (stN 5) s4B ((List.range n).map fun i:Nat=>.int (i:Int)) [some (.d (a5 ns)),some (.d (.int (sg:Int))),some (.d zs),some (.d (tD z)),b,a,none,none]=.ok (.nx [some (.d (a5 ns)),some (.d (.int (sg:Int))),some (.d zs),some (.d (tD z')),b,u5',u6,u7]):=by
 obtain ⟨D,q,z',O,u6,u7,h1,h2,rfl⟩:=iS (fs:=stN 5) (fb:=s4B) (d:=fun i:Nat=>.int (i:Int)) (xs:=List.range n) (ρ:=[some (.d (a5 ns)),some (.d (.int (sg:Int))),some (.d zs),some (.d (tD z)),b,a,none,none])
  (fun i ρ=>∃ (z:List Nat) (a u6 u7:O9 A),z.length<=60+i/\(∀ c∈z,c < 200)/\ρ=[some (.d (a5 ns)),some (.d (.int (sg:Int))),some (.d zs),some (.d (tD z)),b,a,u6,u7]) ⟨z,a,none,none,l.1,l.2,rfl⟩ fun i k ρ w f=>by
  obtain ⟨z,a,u6,u7,h1,h2,e⟩:=f
  subst e
  have hi:=(AU.mp w).1
  rw[B1] at hi
  obtain ⟨v,p⟩:=oK ns (k:=4+(k:Int)) (by omega)
  obtain ⟨u,H,B⟩:=aAB (v / 64) s1 F
  obtain ⟨r,t,j⟩:∃ r:Nat,v % ((z.length:Int)+1)=(r:Int)/\r<=z.length:=by
   have m:=ED v (show (z.length:Int)+1≠0 by omega)
   have o:=DS v (show (0:Int) < (z.length:Int)+1 by omega)
   exact ⟨(v % ((z.length:Int)+1)).toNat,by omega,by omega⟩
  have I:dMod (.int v) (.int ((z.length:Int)+1))=.ok (.int (r:Int)):=by rw[dX (by omega),t]
  have G:dDiv (.int v) (.int 64)=.ok (.int (v / 64)):=jF (by decide) (by decide)
  have g:=uQ (z:=z) (by omega)
  have E:=aEU (z:=z) (by omega) j
  have s:=aEV (z:=z) (by omega) j
  have m:=uR (x:=z.take r) (y:=[u]) (by rw[B3];simp;omega)
  have o:=uR (x:=z.take r++[u]) (y:=z.drop r) (by rw[A6,B3,D4];simp;omega)
  refine ⟨_,[some (.d (a5 ns)),some (.d (.int (sg:Int))),some (.d zs),some (.d (tD (z.take r++[u]++z.drop r))),b,some (.d (.int (k:Int))),some (.d (.int v)),some (.d (.int (r:Int)))],rfl,.inl ?_,z.take r++[u]++z.drop r,_,_,_,?_,fun c C=>?_,rfl⟩
  .generalize tD (z.take r++[u]++z.drop r)=L at *
   generalize tD (z.take r++[u])=N at *
   generalize tD (z.take r)=J at *
   generalize tD (z.drop r)=M at *
   generalize tD z=Y at *
   generalize tD [u]=U at *
   simp only[s4B,bU,cK,eK,cE,bE,fX,eM,a9,bL,dP,dQ,dE,d5,cY,cZ,dA,f9,p,B,I,G,g,E,s,m,o,R.bind_ok,BD,AH,AV,Nat.reduceAdd,AZ,AY,AC,AB]
  .rw[A6,A6,B3,D4];simp;omega
  .rcases B6.mp C with h|h
   .rcases B6.mp h with h|h
    · exact h2 c (EE h)
    · rw [BA.mp h]; exact H
   .exact h2 c (List.mem_of_mem_drop h)
 rw[B1] at h1
 exact ⟨z',_,_,_,⟨by omega,h2⟩,q⟩
theorem aB6{ns:List Int}{sg:Nat}(s1:1<=sg)(b:sg<=3):∃ z:List Nat,Lw 63 z/\eD [.d (a5 ns),.d (.int (sg:Int))]=.ok (.d (tD z)):=by
 obtain ⟨a,h1⟩:=oK ns (k:=1) (by omega)
 obtain ⟨e,h2⟩:=oK ns (k:=2) (by omega)
 obtain ⟨C,t⟩:=oK ns (k:=3) (by omega)
 have k1:dSl (.str "abc") none (some (sg:Int))=.ok (.str (Txt.slice "abc" none (some (sg:Int)))):=lT (by decide)
 obtain ⟨zs,G,m,r,B⟩:∃ zs:List Nat,zs≠[]/\zs.length<=1000/\(∀ c∈zs,c < 200)/\s4I [some (.d (a5 ns)),some (.d (.int (sg:Int))),some (.d (.str (Txt.slice "abc" none (some (sg:Int))))),none,none,none,none,none]=.ok (.nx [some (.d (a5 ns)),some (.d (.int (sg:Int))),some (.d (tD zs)),none,none,none,none,none]):=by
  have d1:dDiv (.int a) (.int 4)=.ok (.int (a / 4)):=jF (by decide) (by decide)
  have d2:dMod (.int (a / 4)) (.int 6)=.ok (.int (a / 4 % 6)):=dX (by decide)
  by_cases g:a / 4 % 6=5
  .refine ⟨(" !\"#$&'()*+,-./0123456789:;<=>?@ABCDEFGHIJKLMNOPQRSTUVWXYZ[\\]^_`abcdefghijklmnopqrstuvwxyz{|}~":Str).cps.toList,by decide +kernel,by decide +kernel,by decide +kernel,?_⟩
   rw[<-sB rfl]
   simp only[s4I,fQ,dE,dQ,fX,bE,a9,bL,cE,eK,dP,h1,d1,d2,g,gO,decide_true,dW,eM,cK,R.bind_ok,BD,AH,AV,Nat.reduceAdd,AZ,AY,AC,AB]
  .refine ⟨[97,98,99].take sg,?_,?_,?_,?_⟩
   .match sg,s1,b with
    | 1,_,_=>decide
    | 2,_,_=>decide
    | 3,_,_=>decide
   .rw[B3];simp;omega
   .intro c v
    have:=EE v
    simp at this
    omega
   .rw[sB (vO s1 b)]
    simp only[s4I,fQ,dE,dQ,fX,bE,a9,bL,cE,eK,dP,h1,d1,d2,gO,BH g,dW,eM,f8,R.bind_ok,A2,BS,BD,AH,AV,Nat.reduceAdd,AC,AB]
 obtain ⟨j,e2,q⟩:∃ n:Nat,e % 61=(n:Int)/\n<=60:=⟨(e % 61).toNat,by omega,by omega⟩
 obtain ⟨h,e1,p⟩:∃ n:Nat,a % 4=(n:Int)/\n<=3:=⟨(a % 4).toNat,by omega,by omega⟩
 obtain ⟨z,E,s,o,A⟩:=aB4 (ns:=ns) (sg:=sg) G m r C q
 obtain ⟨i,w,u6,H,f,x⟩:=aB5 (ns:=ns) (zs:=tD zs) s1 b o E s p
 have y:dMod (.int e) (.int 61)=.ok (.int (j:Int)):=by rw[dX (by decide),e2]
 have l:dMod (.int a) (.int 4)=.ok (.int (h:Int)):=by rw[dX (by decide),e1]
 have u:=gK (n:=h) (by omega)
 have F:=gK (n:=j) (by omega)
 have D:PyData.str ""=tD []:=sB (by decide)
 refine ⟨i,f,?_⟩
 unfold eD
 rw[g8]
 generalize tD zs=Z at *
 generalize tD z=Y at *
 generalize tD i=I at *
 generalize J:tD []=TE at *
 simp only[cG,bU,cK,eK,cY,dP,cZ,dA,d5,k1,B,D,bE,fX,eM,a9,bL,cE,h1,h2,t,d8,cW,dQ,l,y,u,F,A,x,d7,R.bind_ok,BD,AJ,BE,AH,AV,Nat.reduceAdd,Nat.reduceSub,List.replicate,A1,A5,AZ,AY,AC,AB]
end Mc
namespace Fl
open PySem L2 PyProof.Rows
theorem aEW(i:Nat)(tb:List (Str×Bool))(ρ:Sg):kK i tb ρ=match ρ[i]? with
 | some (some (.x e))=>(match tb.lookup e.c with
  | some b=>.ok (.bool b)
  | none=>.bad)
 | _=>.bad:=id rfl
theorem aEX(m i:Nat)(f:Sg->R (List Dz))(ρ:Sg):xT m i f ρ=match ρ[i]? with
 | some (some (.g k n G))=>(f ρ).bind fun ds=>if k<=m/\ds.length=n then G ds else .bad
 | _=>.bad:=id rfl
@[simp] theorem aEY(f:Sg->R A)(m:Str)(tb:List (Str×(List A->R A)))(ρ:Sg):vMt f m tb ρ=(f ρ).bind fun a=>match a with
 | .o e=>if (e.fs.lookup m).isNone=true then (match tb.lookup e.c with|some G=>G [.o e]|none=>.bad) else .bad
 | _=>.bad:=id rfl
end Fl
namespace Mc
open PySem L2 PyProof.Rows Fl
def iV(sg:Nat):Nat->List Nat->List Dz
 | _,[]=>[]
 | k,c::t=>if bB sg c=true then iV sg (k+1) t else .int (k:Int)::iV sg (k+1) t
theorem odd_bad(sg:Nat):∀ (k:Nat) (z:List Nat),(iV sg k z=[]/\b8 sg k z=none)\/∃ i t,iV sg k z=.int ((i:Nat):Int)::t/\b8 sg k z=some i/\k<=i/\i < k+z.length/\bB sg (z.getD (i - k) 97)=false
 | k,[]=>.inl ⟨rfl,rfl⟩
 | k,c::t=>by
  unfold iV b8
  by_cases h:bB sg c=true
  .rw[AK h,AK h]
   rcases odd_bad sg (k+1) t with q|⟨i,d,b,a,f,g,e⟩
   .exact .inl q
   .refine .inr ⟨i,d,b,a,by omega,by rw[AH];omega,?_⟩
    rw[show i - k=(i - (k+1))+1 by omega,List.getD_cons_succ];exact e
  .rw[AM h,AM h]
   refine .inr ⟨k,_,rfl,rfl,AI _,by rw[AH];omega,?_⟩
   rw[Nat.sub_self,List.getD_cons_zero]
   simpa using h
theorem aG3{sg c:Nat}(s1:1<=sg)(a:sg<=3):dNin (tD [c]) (.str (Txt.slice "abc" none (some (sg:Int))))=.ok (.bool (!bB sg c)):=by
 show R.ok (PyData.bool (!_))=_
 rw[n9 s1 a]
theorem aIH{sg c:Nat}(s1:1<=sg)(a:sg<=3):dIn (tD [c]) (.str (Txt.slice "abc" none (some (sg:Int))))=.ok (.bool (bB sg c)):=by
 show R.ok (PyData.bool _)=_
 have:=n9 (c:=c) s1 a
 simp only[Bool.not_not] at this
 have h2:=D2 (fun b=>!b) this
 simp only[Bool.not_not] at h2
 rw[<-h2]
theorem aCY(sg:Nat):dSl (.str "abc") none (some (sg:Int))=.ok (.str (Txt.slice "abc" none (some (sg:Int)))):=lT (by decide)
theorem uS{sg:Nat}(s1:1<=sg)(b:sg<=3):∀ (k:Nat) (z:List Nat),compL (stT [(stN 0),(stN 1)]) (e1 asB (e2 dNin (rV 1) (eSl dSl (eC (.str "abc")) oNo (oSo (rV 2))))) (eV 0) [none,none,some (.d (.int (sg:Int)))] (((z.map fun u=>tD [u]).zipIdx k).map uF)=.ok (iV sg k z)
 | k,[]=>rfl
 | k,c::t=>by
  have ih:=uS s1 b (k+1) t
  have a:=aG3 (c:=c) s1 b
  have e:=aCY sg
  rw[AJ,List.zipIdx_cons,AJ]
  unfold compL iV
  have e1:stT [(stN 0),(stN 1)] (uF (tD [c],k)) [none,none,some (.d (.int (sg:Int)))]=some [some (.d (.int (k:Int))),some (.d (tD [c])),some (.d (.int (sg:Int)))]:=rfl
  rw[e1,eJ,R.bind_ok]
  cases h:bB sg c with
  | true=>
   rw[h] at a
   rw[AK rfl,<-ih]
   simp only[dE,dQ,d5,cY,dP,cZ,dA,e,a,dW,FD,R.bind_ok,R.noEx_ok,A2,BS,AC,AB]
  | false=>
   rw[h] at a
   rw[AM (by decide)]
   simp only[dE,dQ,d5,fW,cY,dP,cZ,dA,e,a,dW,Bool.not_false,R.bind_ok,R.noEx_ok,BD,AC,AB,ih]
theorem rK{sg:Nat}(s1:1<=sg)(b:sg<=3):∀ (z:List Nat),compL (stN 0) (e1 asB (e2 dIn (rV 0) (eSl dSl (eC (.str "abc")) oNo (oSo (rV 1))))) (eV 0) [none,some (.d (.int (sg:Int)))] (z.map fun u=>tD [u])=.ok ((z.filter (bB sg)).map fun u=>tD [u])
 | []=>rfl
 | c::t=>by
  have ih:=rK s1 b t
  have a:=aIH (c:=c) s1 b
  have e:=aCY sg
  rw[AJ]
  unfold compL
  have e1:stN 0 (tD [c]) [none,some (.d (.int (sg:Int)))]=some [some (.d (tD [c])),some (.d (.int (sg:Int)))]:=rfl
  rw[e1,eJ,R.bind_ok,List.filter_cons]
  cases h:bB sg c with
  | true=>
   rw[h] at a
   rw[AK rfl,AJ]
   simp only[dE,dQ,d5,fW,cY,dP,cZ,dA,e,a,dW,R.bind_ok,R.noEx_ok,BD,AC,AB,ih]
  | false=>
   rw[h] at a
   rw[AM (by decide),<-ih]
   simp only[dE,dQ,d5,cY,dP,cZ,dA,e,a,dW,R.bind_ok,R.noEx_ok,A2,BS,AC,AB]
theorem aEZ{l:List Nat}(h:l.length<=1000):xN (.str "") (.list (l.map fun u=>tD [u]))=.ok (tD l):=by
 have b:lO (l.map fun u=>tD [u])=some (l.map one):=by
  clear h
  induction l with
  | nil=>rfl
  | cons a t ih=>simp only[AJ,tD,lO] at ih ⊢;rw[ih];rfl
 show (match lO (l.map fun u=>tD [u]) with|some ys=>if _ then R.ok _ else .bad|none=>.bad)=_
 rw[b]
 simp only
 rw[AK (by rw[aDJ,AQ];show _+_ * 0<=_;omega),aDK]
 rfl
theorem aB7{z:List Nat}(h:z.length<=1000):cS (tD z)=.ok (z.map fun u=>tD [u]):=aBY (z:=⟨z.toArray⟩) (by show z.length<=_;omega)
section
variable{rs:List Rw}{sg:Nat}{z g:List Nat}{i:Nat}
def noS(i:Nat):Er:=⟨"NoStrip",[("at",.int (i:Int))]⟩
theorem jH(M:Mach rs sg)(a:z.length<=1000)(h:b8 sg 0 z=some i):bM [.d (bG rs),.d (tD z)]=.ex (noS i):=by
 have:=zW M (z:=⟨z.toArray⟩) (by show z.length<=_;omega)
 rw[show (⟨z.toArray⟩:Str).cps.toList=z from rfl,h] at this
 exact this
theorem nI(M:Mach rs sg)(a:g.length<=1000)(h:∀ c∈g,bB sg c=true):bM [.d (bG rs),.d (tD g)]=.ok (.d (tD g)):=aB0 M (z:=⟨g.toArray⟩) ⟨a,h⟩
theorem uT(M:Mach rs sg){x y w:List Nat}(hx:x.length<=1000)(g:y.length<=1000)(hw:w.length<=1000)(h:b8 sg 0 x=some i\/((∀ c∈x,bB sg c=true)/\b8 sg 0 y=some i)\/((∀ c∈x,bB sg c=true)/\(∀ c∈y,bB sg c=true)/\b8 sg 0 w=some i)) :
  cI [.d (bG rs),.d (tD x),.d (tD y),.d (tD w)]=.ex (noS i):=by
 have f:cS (.tuple [tD x,tD y,tD w])=.ok [tD x,tD y,tD w]:=aBX (by show 3<=_;decide)
 have b:∀ j,fC (stN 4) (kA (bA 2 bM (aD (vV 0) (aD (vV 4) a6)))) [tD x,tD y,tD w] [some (.d (bG rs)),some (.d (tD x)),some (.d (tD y)),some (.d (tD w)),j,none,none,none,none,none]=.ex (noS i):=fun j=>by
  rcases h with h|⟨h1,h⟩|⟨h1,h2,h⟩
  .have a:=jH M hx h
   unfold fC
   simp only[kW,eJ,R.bind_ok,eS,bE,a9,bL,cE,a,R.bind_ex,BD,AH,AV,Nat.reduceAdd,AZ,AY,AC,AB]
  .have a:=nI M hx h1
   have e:=jH M g h
   unfold fC
   simp only[kW,eJ,R.bind_ok,eS,bE,a9,bL,cE,a,R.bind_ex,BD,AH,AV,Nat.reduceAdd,AZ,AY,AC,AB]
   unfold fC
   simp only[kW,eJ,R.bind_ok,eS,bE,a9,bL,cE,e,R.bind_ex,BD,AH,AV,Nat.reduceAdd,AZ,AY,AC,AB]
  .have a:=nI M hx h1
   have e:=nI M g h2
   have k:=jH M hw h
   unfold fC
   simp only[kW,eJ,R.bind_ok,eS,bE,a9,bL,cE,a,R.bind_ex,BD,AH,AV,Nat.reduceAdd,AZ,AY,AC,AB]
   unfold fC
   simp only[kW,eJ,R.bind_ok,eS,bE,a9,bL,cE,e,R.bind_ex,BD,AH,AV,Nat.reduceAdd,AZ,AY,AC,AB]
   unfold fC
   simp only[kW,eJ,R.bind_ok,eS,bE,a9,bL,cE,k,R.bind_ex,BD,AH,AV,Nat.reduceAdd,AZ,AY,AC,AB]
 simp only[cI,gM,cG,bU,d8,dE,aEJ,a9,bL,fW,f,b,R.bind_ok,R.bind_ex,BD,AJ,BE,AH,AV,Nat.reduceAdd,Nat.reduceSub,Nat.reduceLeDiff,List.replicate,A1,A5,AC,AB]
end
end Mc
namespace Fl
open PySem L2 PyProof.Rows
@[simp] theorem aJQ(i:Nat)(f g:Sg->R Dz)(ρ:Sg):aIA i f g ρ=match ρ[i]? with
 | some (some (.m kvs))=>(f ρ).bind fun k=>(g ρ).bind fun y=>if dY k (kvs.map (·.1))=true/\kvs.length<=16777216 then .ok (.nx (if fN kvs k=true then ρ else ρ.set i (some (.m (putM kvs k y))))) else .bad
 | _=>.bad:=id rfl
@[simp] theorem aJ9(i:Nat)(ρ:Sg):aJH i ρ=match ρ[i]? with
 | some (some (.l xs))=>.ok (.nx (ρ.set i (some (.l xs.reverse))))
 | _=>.bad:=id rfl
end Fl
namespace Mc
open PySem L2 PyProof.Rows Fl
mutual
def nbD:Dz->Bool
 | .bool _=>false
 | .dict _=>false
 | .list xs=>aB8 xs
 | .tuple xs=>aB8 xs
 | _=>true
def aB8:List Dz->Bool
 | []=>true
 | x::t=>nbD x && aB8 t
end
mutual
theorem uU:∀ d:Dz,d.canLay0=true->d.eqv d=true
 | .none,_=>by rfl
 | .bool b,_=>by simp[PyData.eqv]
 | .int i,_=>by simp[PyData.eqv]
 | .str x,_=>by simp[PyData.eqv]
 | .list xs,h=>by
  show PyData.eqvAll xs xs=true
  exact qM xs h
 | .tuple xs,h=>by
  show PyData.eqvAll xs xs=true
  exact qM xs h
 | .dict _,h=>by cases h
theorem qM:∀ xs:List Dz,PyData.canLayAll0 xs=true->PyData.eqvAll xs xs=true
 | [],_=>by rfl
 | x::t,h=>by
  have h':(x.canLay0 && PyData.canLayAll0 t)=true:=h
  rw[AW] at h'
  show (x.eqv x && PyData.eqvAll t t)=true
  rw[uU x h'.1,qM t h'.2];rfl
end
theorem aAC{d:Dz}(h:SeqAt.shaped d=true):d.canLay0=true:=by
 have h':(d.canLay0 && decide (d.depth<=64))=true:=h
 rw[AW] at h'
 exact h'.1
structure Cp(d:Dz):Prop where
 nb:nbD d=true
 sh:SeqAt.shaped d=true
theorem aG4{x:Dz}(h:SeqAt.shaped x=true):dEq x x=.ok (.bool true):=by rw[zT h h,uU x (aAC h)]
theorem aG5{x:Dz}(h:SeqAt.shaped x=true):dNe x x=.ok (.bool false):=by rw[zU h h,uU x (aAC h)];rfl
section
variable{rs:List Rw}{sg:Nat}{z g:List Nat}{i:Nat}
theorem aAD(M:Mach rs sg)(a:z.length<=1000)(h:b8 sg 0 z=some i):gZ [.d (bG rs),.d (tD z)]=.ex (noS i):=by
 have b:=jH M a h
 simp only[gZ,oG,cG,bU,eS,bE,a9,bL,cE,b,R.bind_ok,R.bind_ex,BD,AJ,BE,AH,AV,Nat.reduceAdd,Nat.reduceSub,List.replicate,A1,A5,AC,AB]
theorem aG6(M:Mach rs sg)(a:z.length<=1000)(h:b8 sg 0 z=some i):gD [.d (bG rs),.d (tD z)]=.ex (noS i):=by
 have b:=jH M a h
 simp only[gD,j2,cG,bU,eS,bE,a9,bL,cE,b,R.bind_ok,R.bind_ex,BD,AJ,BE,AH,AV,Nat.reduceAdd,Nat.reduceSub,List.replicate,A1,A5,AC,AB]
theorem aG7(M:Mach rs sg)(a:z.length<=1000)(h:b8 sg 0 z=some i):fR [.d (bG rs),.d (tD z)]=.ex (noS i):=by
 have b:=jH M a h
 simp only[fR,jJ,cG,bU,eS,bE,a9,bL,cE,b,R.bind_ok,R.bind_ex,BD,AJ,BE,AH,AV,Nat.reduceAdd,Nat.reduceSub,List.replicate,A1,A5,AC,AB]
theorem aG8(M:Mach rs sg)(a:z.length<=1000)(h:b8 sg 0 z=some i):fF [.d (bG rs),.d (tD z)]=.ex (noS i):=by
 have b:=jH M a h
 simp only[fF,iU,cG,bU,eS,bE,a9,bL,cE,b,R.bind_ok,R.bind_ex,BD,AJ,BE,AH,AV,Nat.reduceAdd,Nat.reduceSub,List.replicate,A1,A5,AC,AB]
theorem uV(M:Mach rs sg)(a:z.length<=1000)(h:b8 sg 0 z=some i):eW [.d (bG rs),.d (tD z)]=.ex (noS i):=by
 have b:=aAD M a h
 simp only[eW,oH,cG,bU,cK,bE,a9,bL,cE,b,R.bind_ok,R.bind_ex,BD,AJ,BE,AH,AV,Nat.reduceAdd,Nat.reduceSub,List.replicate,A1,A5,AC,AB]
theorem aG9(M:Mach rs sg)(a:z.length<=1000)(h:b8 sg 0 z=some i)(p:Dz):jG [.d (bG rs),.d (tD z),.d p]=.ex (noS i):=by
 have b:=uV M a h
 simp only[jG,mT,cG,bU,cK,bE,a9,bL,cE,b,R.bind_ok,R.bind_ex,BD,AJ,BE,AH,AV,Nat.reduceAdd,Nat.reduceSub,List.replicate,A1,A5,AC,AB]
theorem aHA(M:Mach rs sg)(a:z.length<=1000)(h:b8 sg 0 z=some i):∃ G,nH [.d (bG rs)]=.ok (.g 7 1 G)/\G [tD z]=.ex (noS i):=by
 refine ⟨qG 2 cO [.d (bG rs)],rfl,?_⟩
 have b:=uV M a h
 unfold qG
 have e:fnF 2 cO ([tD z].map A.d++[.d (bG rs)])=.ex (noS i):=by
  simp only[cO,cG,d7,aEY,bE,a9,bL,cE,b,R.bind_ok,R.bind_ex,BD,AJ,BE,AH,AV,Nat.reduceAdd,Nat.reduceSub,List.replicate,A1,A5,AC,AB]
 rw[e];rfl
theorem aHB(M:Mach rs sg)(e:z.length<=1000)(h:b8 sg 0 z=some i)(l:g.length<=1000)(f:∀ c∈g,bB sg c=true){k:Nat}(E:k < 10):eE [.d (.int (k:Int)),.d (bG rs),.d (tD z),.d (tD g)]=.ex (noS i):=by
 have c0:=jH M e h
 have v:=aAD M e h
 have t:=uV M e h
 obtain ⟨G,r,n⟩:=aHA M e h
 have u:=aG9 M e h (.tuple [.str "ever",.int 0,.int 0,.int 0,.int 1])
 have s:=aG6 M e h
 have p:=aG7 M e h
 have o:=uT M (x:=z) (y:=g) (w:=g) e l l (.inl h)
 have A:=uT M (x:=g) (y:=z) (w:=g) l e l (.inr (.inl ⟨f,h⟩))
 have q:=uT M (x:=g) (y:=g) (w:=z) l l e (.inr (.inr ⟨f,f,h⟩))
 generalize tD z=Z at *
 generalize tD g=Y at *
 generalize bG rs=B at *
 have C:∀ a b:Nat,dEq (.int (a:Int)) (.int (b:Int))=.ok (.bool (decide (a=b))):=fun a b=>by rw[gO];congr 2;exact decide_eq_decide.mpr (by omega)
 have m:k=0\/k=1\/k=2\/k=3\/k=4\/k=5\/k=6\/k=7\/k=8\/k=9:=by omega
 have D:∀ j:Int,dEq (.int j) (.int 0)=.ok (.bool (decide (j=0)))/\True:=fun j=>⟨gO _ _,trivial⟩
 rcases m with rfl|rfl|rfl|rfl|rfl|rfl|rfl|rfl|rfl|rfl<;>
  simp[eE,g9,gO,c0,v,t,r,n,u,s,p,o,A,q,aEX]
theorem aHC(M:Mach rs sg)(m:z.length<=1000)(h:b8 sg 0 z=some i)(j:g.length<=1000)(b:∀ c∈g,bB sg c=true){k:Nat}(n:k < 10):dJ [.d (.int (k:Int)),.d (bG rs),.d (tD z),.d (tD g)]=.ok (.d (.int (i:Int))):=by
 have c:=aHB M m h j b n
 generalize tD z=Z at *
 generalize tD g=Y at *
 generalize bG rs=q at *
 have p:(["NoStrip"]:List Str).contains (noS i).c=true:=rfl
 have f:([("NoStrip",true)]:List (Str×Bool)).lookup (noS i).c=some true:=rfl
 have a:([("NoStrip",false)]:List (Str×Bool)).lookup (noS i).c=some false:=rfl
 have o:(noS i).fs.lookup ("at":Str)=some (.int (i:Int)):=rfl
 have l:jI "bool" (.int (i:Int))=.ok (.bool false):=rfl
 have e:(noS i).c=Str.ofString "NoStrip":=rfl
 rw[e] at f a
 simp[dJ,gG,wD,c,e,wE,aEW,f,a,z4,o,l]
theorem aHD(M:Mach rs sg)(b:z.length<=1000)(h:b8 sg 0 z=some i):cH [.d (bG rs),.d (tD z)]=.ok (.d (.int (i:Int))):=by
 have c:=aG8 M b h
 generalize tD z=Z at *
 generalize bG rs=g at *
 have f:(["NoStrip"]:List Str).contains (noS i).c=true:=rfl
 have e:(noS i).fs.lookup ("at":Str)=some (.int (i:Int)):=rfl
 have a:(noS i).c=Str.ofString "NoStrip":=rfl
 simp[cH,eH,wD,c,a,wE,z4,e]
end
theorem aB9(z:Str)(i:Nat):Txt.slice z none (some (i:Int))=⟨(z.cps.toList.take i).toArray⟩:=by
 by_cases h:i<=z.cps.toList.length
 .exact lS h
 .have a:z.length=z.cps.toList.length:=by rw[BN];rfl
  have e:Txt.slice z none (some (i:Int))=Txt.slice z none (some ((z.cps.toList.length:Nat):Int)):=by
   unfold Txt.slice
   rw[sliceIdx_hi_beyond z.length (j:=(i:Int)) (by rw[a];omega),a]
  rw[e,lS (AI _),DF (AI _),DF (by omega)]
theorem iW{f g:Sg->R Fw}{ρ a:Sg}(h:f ρ=.ok (.nx a)):aR f g ρ=g a:=by rw[bU,h];rfl
theorem aE0(ms:List Int)(lo hi:O9 Int):dSl (a5 ms) lo hi=.ok (a5 (mL ms lo hi)):=by
 unfold a5
 rw[aID]
 unfold mL
 rw[AQ,<-List.map_drop,<-List.map_take]
theorem aII{z:List Nat}(h:Lw 1000 z):SeqAt.shaped (tD z)=true:=Sh.shaped (n:=0) (aF5 0 (by
 unfold PyData.strOk
 rw[List.all_toArray,CM]
 intro c a
 have:=h.2 c a
 exact BZ (by omega))) (by decide)
section
variable{rs:List Rw}{sg i:Nat}{z g:List Nat}{ms:List Int}{u0 u6:O9 A}{o t:List Dz}
theorem aHE(M:Mach rs sg)(w:Lw 63 z)(h:b8 sg 0 z=some i)(hi:i < z.length)(C:bB sg (z.getD i 97)=false)(I:g.length<=1000)(p:∀ c∈g,bB sg c=true) :
  ∃ u6',lw6 [u0,some (.d (.int (sg:Int))),some (.d (bG rs)),some (.d (tD z)),some (.l (.int (i:Int)::t)),some (.d (tD g)),u6,none]=.ok (.nx [u0,some (.d (.int (sg:Int))),some (.d (bG rs)),some (.d (tD z)),some (.l (.int (i:Int)::t)),some (.d (tD g)),u6',none]):=by
 have a:∀ c∈g.take 9,bB sg c=true:=fun c E=>p c (EE E)
 have F:dSl (tD g) none (some 9)=.ok (tD (g.take 9)):=by
  unfold tD
  rw[lT (by rw[jR];show g.length<=_;omega)]
  have:=aB9 (⟨g.toArray⟩:Str) 9
  rw[show ((9:Nat):Int)=9 from rfl] at this
  rw[this]
 have y:dIx (.list (.int (i:Int)::t)) (.int 0)=.ok (.int (i:Int)):=r9 (jO (j:=0) rfl)
 have r:dNe (.int (i:Int)) (.int (i:Int))=.ok (.bool false):=aG5 (iI _)
 have m:dIx (tD z) (.int (i:Int))=.ok (tD [z.getD i 97]):=aCX (by have:=w.1;omega) (jO (by rw[List.getD_eq_getElem?_getD,AS hi];rfl))
 have s:=aHD M (z:=[z.getD i 97]) (i:=0) (by simp) (by unfold b8;rw[AM (by rw[C];decide)])
 have u:z.length<=1000:=by have:=w.1;omega
 obtain ⟨B,q,u6',e⟩:=iS (fs:=stN 6) (fb:=lf) (d:=fun k:Nat=>.int (k:Int)) (xs:=List.range 10) (ρ:=[u0,some (.d (.int (sg:Int))),some (.d (bG rs)),some (.d (tD z)),some (.l (.int (i:Int)::t)),some (.d (tD g)),u6,none])
  (fun _ ρ=>∃ u6,ρ=[u0,some (.d (.int (sg:Int))),some (.d (bG rs)),some (.d (tD z)),some (.l (.int (i:Int)::t)),some (.d (tD g)),u6,none]) ⟨u6,rfl⟩ fun j k ρ D b=>by
  obtain ⟨u6,e⟩:=b
  subst e
  have f:=List.mem_range.mp (CI D)
  have c:=aHC M u h (g:=g.take 9) (by rw[B3];omega) a f
  refine ⟨_,[u0,some (.d (.int (sg:Int))),some (.d (bG rs)),some (.d (tD z)),some (.l (.int (i:Int)::t)),some (.d (tD g)),some (.d (.int (k:Int))),none],rfl,.inl ?_,some (.d (.int (k:Int))),rfl⟩
  generalize tD (g.take 9)=J at *
  generalize tD z=Z at *
  generalize tD g=Y at *
  generalize bG rs=A at *
  simp only[lf,cG,bU,cK,eR,eU,eK,cE,bE,fX,jA,eM,a9,bL,dP,fW,dQ,dE,d5,cY,cZ,dA,fQ,d8,cW,dW,d7,f8,f9,jB,gA,R.bind_ok,BD,A2,BS,f6,BX,BI,BY,BE,AH,AV,Nat.reduceAdd,Nat.reduceSub,List.replicate,A1,A5,AZ,AY,AC,AB,F,c,y,r]
 subst e
 refine ⟨u6',?_⟩
 have x:=gK (n:=10) (by omega)
 rw[show ((10:Nat):Int)=10 from rfl] at x
 have v:decide ((0:Int) < (((.int (i:Int)::t:List Dz)).length:Int))=true:=BZ (by rw[AH];omega)
 have o:dNe (.int ((0:Nat):Int)) (.int 0)=.ok (.bool false):=by rw[zU (iI _) (iI _)];rfl
 generalize tD [z.getD i 97]=G at *
 generalize tD z=Z at *
 generalize tD g=Y at *
 generalize bG rs=A at *
 generalize H:(.int (i:Int)::t:List Dz)=L at *
 simp only[lw6,lg,cG,bU,cK,eR,eU,eK,cE,bE,fX,jA,eM,a9,bL,dP,fW,dQ,dE,d5,cY,cZ,dA,fQ,d8,cW,dW,d7,f8,f9,jB,gA,R.bind_ok,BD,A2,BS,f6,BX,BI,BY,BE,AH,AV,Nat.reduceAdd,Nat.reduceSub,List.replicate,A1,A5,AZ,AY,AC,AB,v,x,q,m,y,s,o]
end
theorem aCA:∀ ns:List Int,ns.length<=63->sA [.d (.list (ns.map .int))]=.ok (.d (.bool true)):=by
 intro ns W
 rw[show PyData.list (ns.map .int)=a5 ns from rfl]
 obtain ⟨ms,U⟩:=aIG ns
 obtain ⟨v,B⟩:=oK ms (k:=0) (by omega)
 obtain ⟨sg,es,s1,q⟩:∃ sg:Nat,1+v % 3=(sg:Int)/\1<=sg/\sg<=3:=⟨(1+v % 3).toNat,by omega,by omega,by omega⟩
 obtain ⟨n,G,L,X⟩:∃ n:Nat,1+v / 3 % 5=(n:Int)/\1<=n/\n<=5:=⟨(1+v / 3 % 5).toNat,by omega,by omega,by omega⟩
 obtain ⟨rs,E,M,_⟩:=aJP (ns:=mL ms (some 16) none) (n:=n) (sg:=sg) L (by omega) s1 q
 obtain ⟨z,s,fz⟩:=aB6 (ns:=ms) s1 q
 have j:=aE0 ms (some 16) none
 have O:dMod (.int v) (.int 3)=.ok (.int (v % 3)):=dX (by decide)
 have S:dDiv (.int v) (.int 3)=.ok (.int (v / 3)):=jF (by decide) (by decide)
 have H:dMod (.int (v / 3)) (.int 5)=.ok (.int (v / 3 % 5)):=dX (by decide)
 have o:z.length<=1000:=by have:=s.1;omega
 have g:=aB7 o
 have p:pB (tD z)=.ok ((z.map fun u=>tD [u]).zipIdx.map uF):=by unfold pB;rw[g];rfl
 have m:=uS s1 q 0 z
 have f:=rK s1 q z
 have a:(z.filter (bB sg)).length<=1000:=A4 (List.length_filter_le _ _) o
 have I:=aEZ a
 have h:∀ c∈z.filter (bB sg),bB sg c=true:=fun c j=>(D8.mp j).2
 have w:=nI M a h
 have Q:jI "str" (tD (z.filter (bB sg)))=.ok (.bool true):=rfl
 have y:=aG4 (aII (z:=z.filter (bB sg)) ⟨a,fun c j=>s.2 c ((D8.mp j).1)⟩)
 have b:∀ u6,lw6 [some (.d (a5 ms)),some (.d (.int (sg:Int))),some (.d (bG rs)),some (.d (tD z)),some (.l (iV sg 0 z)),some (.d (tD (z.filter (bB sg)))),none,none]=.ok (.nx [some (.d (a5 ms)),some (.d (.int (sg:Int))),some (.d (bG rs)),some (.d (tD z)),some (.l (iV sg 0 z)),some (.d (tD (z.filter (bB sg)))),u6,none])->sA [.d (a5 ns)]=.ok (.d (.bool true)):=fun u6 N=>by
  unfold sA
  rw[xZ,cG]
  have e0:[A.d (a5 ns)].map some++List.replicate (8 - [A.d (a5 ns)].length) none=[some (.d (a5 ns)),none,none,none,none,none,none,none]:=rfl
  have V:lw0 [some (.d (a5 ns)),none,none,none,none,none,none,none]=.ok (.nx [some (.d (a5 ms)),none,none,none,none,none,none,none]):=by simp only[lw0,cG,bU,cK,eR,eU,eK,cE,bE,fX,jA,eM,a9,bL,dP,fW,dQ,dE,d5,cY,cZ,dA,fQ,d8,cW,dW,d7,f8,f9,jB,gA,R.bind_ok,BD,A2,BS,f6,BX,BI,BY,AJ,BE,AH,AV,Nat.reduceAdd,Nat.reduceSub,List.replicate,A1,A5,AZ,AY,AC,AB,U]
  have h1:lw1 [some (.d (a5 ms)),none,none,none,none,none,none,none]=.ok (.nx [some (.d (a5 ms)),some (.d (.int (sg:Int))),none,none,none,none,none,none]):=by simp only[lw1,cG,bU,cK,eR,eU,eK,cE,bE,fX,jA,eM,a9,bL,dP,fW,dQ,dE,d5,cY,cZ,dA,fQ,d8,cW,dW,d7,f8,f9,jB,gA,R.bind_ok,BD,A2,BS,f6,BX,BI,BY,AJ,BE,AH,AV,Nat.reduceAdd,Nat.reduceSub,List.replicate,A1,A5,AZ,AY,AC,AB,B,O,es]
  have h2:lw2 [some (.d (a5 ms)),some (.d (.int (sg:Int))),none,none,none,none,none,none]=.ok (.nx [some (.d (a5 ms)),some (.d (.int (sg:Int))),some (.d (bG rs)),none,none,none,none,none]):=by simp only[lw2,cG,bU,cK,eR,eU,eK,cE,bE,fX,jA,eM,a9,bL,dP,fW,dQ,dE,d5,cY,cZ,dA,fQ,d8,cW,dW,d7,f8,f9,jB,gA,R.bind_ok,BD,A2,BS,f6,BX,BI,BY,AJ,BE,AH,AV,Nat.reduceAdd,Nat.reduceSub,List.replicate,A1,A5,AZ,AY,AC,AB,B,j,S,H,G,E]
  have J:lw3 [some (.d (a5 ms)),some (.d (.int (sg:Int))),some (.d (bG rs)),none,none,none,none,none]=.ok (.nx [some (.d (a5 ms)),some (.d (.int (sg:Int))),some (.d (bG rs)),some (.d (tD z)),none,none,none,none]):=by simp only[lw3,cG,bU,cK,eR,eU,eK,cE,bE,fX,jA,eM,a9,bL,dP,fW,dQ,dE,d5,cY,cZ,dA,fQ,d8,cW,dW,d7,f8,f9,jB,gA,R.bind_ok,BD,A2,BS,f6,BX,BI,BY,AJ,BE,AH,AV,Nat.reduceAdd,Nat.reduceSub,List.replicate,A1,A5,AZ,AY,AC,AB,fz]
  have K:lw4 [some (.d (a5 ms)),some (.d (.int (sg:Int))),some (.d (bG rs)),some (.d (tD z)),none,none,none,none]=.ok (.nx [some (.d (a5 ms)),some (.d (.int (sg:Int))),some (.d (bG rs)),some (.d (tD z)),some (.l (iV sg 0 z)),none,none,none]):=by simp only[lw4,cG,bU,cK,eR,eU,eK,cE,bE,fX,jA,eM,a9,bL,dP,fW,dQ,dE,d5,cY,cZ,dA,fQ,d8,cW,dW,d7,f8,f9,jB,gA,R.bind_ok,BD,A2,BS,f6,BX,BI,BY,AJ,BE,AH,AV,Nat.reduceAdd,Nat.reduceSub,List.replicate,A1,A5,AZ,AY,AC,AB,p,m]
  have T:lw5 [some (.d (a5 ms)),some (.d (.int (sg:Int))),some (.d (bG rs)),some (.d (tD z)),some (.l (iV sg 0 z)),none,none,none]=.ok (.nx [some (.d (a5 ms)),some (.d (.int (sg:Int))),some (.d (bG rs)),some (.d (tD z)),some (.l (iV sg 0 z)),some (.d (tD (z.filter (bB sg)))),none,none]):=by simp only[lw5,cG,bU,cK,eR,eU,eK,cE,bE,fX,jA,eM,a9,bL,dP,fW,dQ,dE,d5,cY,cZ,dA,fQ,d8,cW,dW,d7,f8,f9,jB,gA,R.bind_ok,BD,A2,BS,f6,BX,BI,BY,AJ,BE,AH,AV,Nat.reduceAdd,Nat.reduceSub,List.replicate,A1,A5,AZ,AY,AC,AB,g,f,I]
  have F:aR lw7 lw8 [some (.d (a5 ms)),some (.d (.int (sg:Int))),some (.d (bG rs)),some (.d (tD z)),some (.l (iV sg 0 z)),some (.d (tD (z.filter (bB sg)))),u6,none]=.ok (.rt (.d (.bool true))):=by simp only[lw7,lw8,aEK,cG,bU,cK,eR,eU,eK,cE,bE,fX,jA,eM,a9,bL,dP,fW,dQ,dE,d5,cY,cZ,dA,fQ,d8,cW,dW,d7,f8,f9,jB,gA,R.bind_ok,BD,A2,BS,f6,BX,BI,BY,AJ,BE,AH,AV,Nat.reduceAdd,Nat.reduceSub,List.replicate,A1,A5,AZ,AY,AC,AB,w,Q,y]
  rw[e0,iW V,iW h1,iW h2,iW J,iW K,iW T,iW N,F]
  rfl
 rcases odd_bad sg 0 z with ⟨r,_⟩|⟨i,t,r,P,_,D,C⟩
 .refine b none ?_
  rw[r]
  have x:decide ((0:Int) < (([]:List Dz).length:Int))=false:=rfl
  generalize tD z=Z at *
  generalize tD (z.filter (bB sg))=Y at *
  simp only[lw6,cG,bU,cK,eR,eU,eK,cE,bE,fX,jA,eM,a9,bL,dP,fW,dQ,dE,d5,cY,cZ,dA,fQ,d8,cW,dW,d7,f8,f9,jB,gA,R.bind_ok,BD,A2,BS,f6,BX,BI,BY,AJ,BE,AH,Nat.reduceAdd,Nat.reduceSub,List.replicate,A1,A5,AZ,AY,AC,AB,x]
 .rw[EZ] at D
  rw[Nat.sub_zero] at C
  rw[r] at b
  obtain ⟨u6,e⟩:=aHE M s P D C a h (u0:=some (.d (a5 ms))) (u6:=none) (t:=t)
  exact b u6 e
section
variable{P:P9}{w:W9}{K:Frag}{mg:Str->O9 V9}{base:H9}{TH:Hp}
theorem pJ:FnScope ["self","at"] ["self","at"] (aC (bC (top 4) 0)):=by constructor<;>first|rfl|decide +kernel
theorem pK{f W C:Az}{fd:FuncData}(F:Fun K "__init__" "NoStrip.__init__" (bC (top 4) 0) f fd)(c:SX.ExcC K W C)(i:PySem.W.findIn K (.ref C) "at"=some none) :
  FnOk P w K mg base CX0 1 f fd ["self","at"] (spI C ["at"]):=by
 refine F.ok pJ (fun vs H Q E h=>?_) (fun j A outer s H vs Q E l h=>?_)
 .obtain ⟨e,xs,rfl,a,_⟩:=h
  rw[AH,a];rfl
 .obtain ⟨e,xs,rfl,a,g,q⟩:=h
  obtain ⟨x,rfl⟩:∃ x,xs=[x]:=Mc.bn1 (P:=fun xs=>∃ x,xs=[x]) (fun x=>⟨x,rfl⟩) xs a
  refine ⟨_,L2.aM (aDG (pv 0) (pv 1) rfl),?_⟩
  refine ⟨_,rfl,_,rfl,e,W,C,rfl,c,i,.inl ⟨g,fun d k b=>?_⟩⟩
  exact q d k b
def iK (K : Frag) (mg : Str -> O9 V9) : Prop := ∃ W C, SX.ExcC K W C /\ mg "NoStrip" = some (.ref C) /\ PySem.W.findIn K (.ref C) "at" = some none /\
      ∃ fI fdI, Fun K "__init__" "NoStrip.__init__" (bC (top 4) 0) fI fdI /\ cU K fdI ["self", "at"] [] /\ PySem.W.findIn K (.ref C) "__init__" = some (some (.ref fI)) /\ PySem.W.typeIn K (.ref fI) = some (.type "function")
theorem qN(h:iK K mg):∃ W C,ErrAt P w K mg base "NoStrip" ["at"] W C:=by
 obtain ⟨W,C,a,m,b,fI,fdI,c,d,e,tI⟩:=h
 have I:=pK (P:=P) (w:=w) (mg:=mg) (base:=base) c a b
 exact ⟨W,C,a,m,fun f g=>by rw[BA.mp g];exact b,fI,fdI,I,e,tI,d⟩
def iX(K:Frag)(mg:Str->O9 V9):Prop:=∃ C f fd,mg "LetBy"=some (.ref C)/\Cls K C/\Meth K C "says" f/\Fun K "says" "LetBy.says" (bC (top 33) 1) f fd/\cU K fd ["self"] []
def hJ(K:Frag)(mg:Str->O9 V9):Prop:=∃ C f fd,mg "ShutOut"=some (.ref C)/\Cls K C/\Meth K C "says" f/\Fun K "says" "ShutOut.says" (bC (top 34) 1) f fd/\cU K fd ["self"] []
def hR(K:Frag)(mg:Str->O9 V9):Prop:=∃ C f fd,mg "ForEver"=some (.ref C)/\Cls K C/\Meth K C "says" f/\Fun K "says" "ForEver.says" (bC (top 35) 1) f fd/\cU K fd ["self"] []
theorem aE1(T:Txt w K mg)(Er_NoStrip:iK K mg)(U_NoStrip:UpK K mg ["NoStrip"])(J_NoStrip_ValueError:uB K mg "NoStrip" "ValueError" true)(I_NoStrip_NoStrip:Is1 K mg "NoStrip" "NoStrip" true)(I_NoStrip_TooMany:Is1 K mg "NoStrip" "TooMany" false)(I_NoStrip_NoText:Is1 K mg "NoStrip" "NoText" false)(I_NoStrip_NoMachine:Is1 K mg "NoStrip" "NoMachine" false)(I_NoStrip_NoWord:Is1 K mg "NoStrip" "NoWord" false)(Mt_LetBy_says:iX K mg)(Mt_ShutOut_says:hJ K mg)(Mt_ForEver_says:hR K mg)(X:DefAt K mg "signs_of" (top 10) ["machine"])(V:DefAt K mg "checked_by" (top 12) ["signs","strip"])(Y:DefAt K mg "checked" (top 13) ["machine","strip"])(Z:DefAt K mg "beginning" (top 22) ["machine","strip"])(af:DefAtD K mg "comes_round" (top 29) ["machine","ahead","again","behind"] [.str ""])(aa:DefAt K mg "path" (top 37) ["machine","strip"])(W:DefAt K mg "walk" (top 39) ["machine","strip"])(S:DefAtT K mg base TH qsT "sayer" (top 40) ["machine"])(U:DefAt K mg "holds" (top 44) ["machine","strip","paper"])(L:DefAt K mg "sign_table" (top 47) ["machine","sign"])(J:DefAt K mg "gone_out" (top 48) ["one","other","thing","inward"])(ah:DefAt K mg "behind" (top 49) ["one","other"])(O:DefAt K mg "table_of" (top 50) ["machine","strip"])(Q:DefAt K mg "_law_cell" (top 52) ["_law_script","_law_k"])(ac:DefAt K mg "_law_mixed" (top 53) ["_law_script","_law_few"])(N:DefAt K mg "_law_turn" (top 54) ["_law_cell_here","_law_many"])(ad:DefAt K mg "_law_row" (top 55) ["_law_cell_here","_law_many","_law_signs"])(M:DefAt K mg "_law_machine" (top 56) ["_law_cells","_law_many","_law_signs"])(I:DefAt K mg "_law_strange" (top 57) ["_law_cell_here","_law_signs"])(ag:DefAt K mg "_law_strip" (top 58) ["_law_script","_law_signs"])(ae:DefAt K mg "_law_asked" (top 59) ["_law_way","_law_machine_here","_law_strip_here","_law_good"])(H:DefAt K mg "_law_refused" (top 60) ["_law_way","_law_machine_here","_law_strip_here","_law_good"])(R:DefAt K mg "_law_sign_refused" (top 61) ["_law_machine_here","_law_sign"]){fL:Az}{D:FuncData}(FL:Fun K "law" "law" (top 62) fL D):FnOk P w K mg base (CXe P w) 15 fL D ["_law_script"] (xR K TH):=by
 obtain ⟨W_NoStrip,C_NoStrip,d⟩:=qN (P:=P) (w:=w) (base:=base) Er_NoStrip
 have z:∀ p∈[(("LetBy":Str),gC),(("ShutOut":Str),fD),(("ForEver":Str),fE)],uK P w K mg base TH 1 p.1 "says" p.2:=by
  intro p hp
  simp only[AT,C4,or_false] at hp
  rcases hp with rfl|rfl|rfl
  .obtain ⟨C,f,fd,h1,h2,F,G,E⟩:=Mt_LetBy_says
   exact ⟨C,f,fd,h1,h2,F,qK T G ,E⟩
  .obtain ⟨C,f,fd,h1,h2,F,G,E⟩:=Mt_ShutOut_says
   exact ⟨C,f,fd,h1,h2,F,oI T G ,E⟩
  .obtain ⟨C,f,fd,h1,h2,F,G,E⟩:=Mt_ForEver_says
   exact ⟨C,f,fd,h1,h2,F,oJ T G ,E⟩
 have t:=@vA P w K mg base TH T X
 have n:=rM (P:=P) (w:=w) (base:=base) (TH:=TH) T V d
 have a:=@x0 P w K mg base TH T Y n t
 have o:=@uL P w K mg base TH T Z a
 have i:=@qL P w K mg base TH T af a
 have x:=@aEQ P w K mg base TH T aa a
 have q:=@aER P w K mg base TH T W x
 have A:=@aB2 P w K mg base TH T S q z
 have y:=@aB3 P w K mg base TH T U q
 have m:=@rN P w K mg base TH T L a
 have v:=@vB P w K mg base TH T J
 have B:=@z8 P w K mg base TH T ah v
 have u:=@vC P w K mg base TH T O a
 have b:=@uO P w K mg base TH T Q
 have l:=@rO P w K mg base TH T ac b
 have r:=@uP P w K mg base TH T N
 have s:=@vE P w K mg base TH T ad r
 have e:=@pG P w K mg base TH T M s
 have h:=@pH P w K mg base TH T I
 have k:=@rP P w K mg base TH T ag b h
 have j:=@rQ P w K mg base TH T ae a x q A y u o i
 have g:=pI (P:=P) (w:=w) (base:=base) (TH:=TH) T H j d U_NoStrip J_NoStrip_ValueError I_NoStrip_NoStrip I_NoStrip_TooMany I_NoStrip_NoText I_NoStrip_NoMachine I_NoStrip_NoWord
 have c:=lV (P:=P) (w:=w) (base:=base) (TH:=TH) T R m d
 exact aGN (aGZ (P:=P) (w:=w) (base:=base) (TH:=TH) T FL l b e k g c a) aCA
end
section
variable{w:W9}{K:Frag}{h:H9}{mg:Str->O9 V9}
theorem aHF(X:K.In h)(G:h.Ns mainGlobals mg){a:Nat}(z_ValueError:PySem.W.nsIn K mainGlobals "ValueError"=some none)(z_bool:PySem.W.nsIn K mainGlobals "bool"=some none)(z_enumerate:PySem.W.nsIn K mainGlobals "enumerate"=some none)(z_int:PySem.W.nsIn K mainGlobals "int"=some none)(z_isinstance:PySem.W.nsIn K mainGlobals "isinstance"=some none)(z_len:PySem.W.nsIn K mainGlobals "len"=some none)(z_max:PySem.W.nsIn K mainGlobals "max"=some none)(z_min:PySem.W.nsIn K mainGlobals "min"=some none)(z_range:PySem.W.nsIn K mainGlobals "range"=some none)(z_str:PySem.W.nsIn K mainGlobals "str"=some none)(z_tuple:PySem.W.nsIn K mainGlobals "tuple"=some none)(s_SIGNS:PySem.W.nsIn K mainGlobals "SIGNS"=some (some (.str "abc" a))):Txt w K mg:=⟨BL X G z_ValueError,BL X G z_bool,BL X G z_enumerate,BL X G z_int,BL X G z_isinstance,BL X G z_len,BL X G z_max,BL X G z_min,BL X G z_range,BL X G z_str,BL X G z_tuple,⟨a,BT X G s_SIGNS⟩⟩
theorem rR(X:K.In h)(G:h.Ns mainGlobals mg){W C fI r:Az}{g c:List V9}{d l:Str}{e:Bool}{i:List Str}{a:O9 Bool}{f:O9 Az}{c0 s q n o:O9 V9}
  {t:V9} {od p:O9 Az} {j:Array (O9 V9)} {kV doc pm b ct:V9}
  (m:PySem.W.nsIn K mainGlobals "NoStrip"=some (some (.ref C)))
  (e1:K.lookup C=some (excClassObj d l C r g (.ref W::SX.fJ) true i c e a f c0 s q n o "ValueError.__new__"))
  (e2:PySem.W.findIn K (.ref C) "__setattr__"=some (some (.builtin "object.__setattr__"))) (e3:PySem.W.findIn K (.ref C) "__getattribute__"=some (some (.builtin "BaseException.__getattribute__"))) (e4:PySem.W.findIn K (.ref C) "__getattr__"=some none) (e5:PySem.W.findIn K (.ref C) "__class__"=some (some (.builtin "object.__class__")))
  (e6:PySem.W.specialIn K (.builtin "object.__class__") "__get__"=some (some (.builtin "getset_descriptor.__get__"))) (e7:PySem.W.takesIn K (.builtin "object.__class__")=some true) (e8:PySem.W.keepIn K (.ref C)=true)
  (p1:PySem.W.findIn K (.ref C) "at"=some none)
  (i1:PySem.W.findIn K (.ref C) "__init__"=some (some (.ref fI))) (i2:K.lookup fI=some ⟨t,od,.func (PySem.W.fnOf "__init__" "NoStrip.__init__" (b9 (bC (top 4) 0)) (bD (bC (top 4) 0)) (aC (bC (top 4) 0)) .none kV doc pm p b ct),j⟩) (i3:PySem.W.codeIn K b "NoStrip.__init__"=true) (i4:PySem.W.keepIn K (.ref fI)=true) (i5:PySem.W.typeIn K (.ref fI)=some (.type "function")):iK K mg:=by
 have k:=kN (st:=bC (top 4) 0) i2 i3 i4
 exact ⟨W,C,aDH e1 e2 e3 e4 e5 e6 e7 e8,BT X G m,p1,fI,_,k,k.binds (ps:=["self","at"]) (fun _ _ _ _ _ _=>Mc.bn2 fun _ _=>rfl),i1,i5⟩
theorem oM(X:K.In h)(G:h.Ns mainGlobals mg){C:Az}{b:Az}{j:V9}{i f:O9 Az}{d:Array (O9 V9)}{g c k a e:V9}(m2:PySem.W.nsIn K mainGlobals "LetBy"=some (some (.ref C)))(p1:PySem.W.plainGet K C Str.empty=true)(p2:PySem.W.hasDictIn K C=true)(p3:PySem.W.plainOver K C=true)(p4:PySem.W.findIn K (.ref C) "__setattr__"=some (some (.builtin "object.__setattr__")))
  (k2:PySem.W.findIn K (.ref C) "says"=some (some (.ref b))) (k3:PySem.W.isFn K (.ref b)=true) (m_l:K.lookup b=some ⟨j,i,.func (PySem.W.fnOf "says" "LetBy.says" (b9 (bC (top 33) 1)) (bD (bC (top 33) 1)) (aC (bC (top 33) 1)) .none g c k f a e),d⟩) (m_c:PySem.W.codeIn K a "LetBy.says"=true) (m_k:PySem.W.keepIn K (.ref b)=true):iX K mg:=by
 have l:=kN (st:=(bC (top 33) 1)) m_l m_c m_k
 exact ⟨C,b,_,BT X G m2,⟨p1,p2,p3,p4⟩,⟨k2,k3,m_k⟩,l,l.binds (ps:=["self"]) (fun _ _ _ _ _ _=>Mc.bn1 fun _=>rfl)⟩
theorem mZ(X:K.In h)(G:h.Ns mainGlobals mg){C:Az}{b:Az}{j:V9}{i f:O9 Az}{d:Array (O9 V9)}{g c k a e:V9}(m2:PySem.W.nsIn K mainGlobals "ShutOut"=some (some (.ref C)))(p1:PySem.W.plainGet K C Str.empty=true)(p2:PySem.W.hasDictIn K C=true)(p3:PySem.W.plainOver K C=true)(p4:PySem.W.findIn K (.ref C) "__setattr__"=some (some (.builtin "object.__setattr__")))
  (k2:PySem.W.findIn K (.ref C) "says"=some (some (.ref b))) (k3:PySem.W.isFn K (.ref b)=true) (m_l:K.lookup b=some ⟨j,i,.func (PySem.W.fnOf "says" "ShutOut.says" (b9 (bC (top 34) 1)) (bD (bC (top 34) 1)) (aC (bC (top 34) 1)) .none g c k f a e),d⟩) (m_c:PySem.W.codeIn K a "ShutOut.says"=true) (m_k:PySem.W.keepIn K (.ref b)=true):hJ K mg:=by
 have l:=kN (st:=(bC (top 34) 1)) m_l m_c m_k
 exact ⟨C,b,_,BT X G m2,⟨p1,p2,p3,p4⟩,⟨k2,k3,m_k⟩,l,l.binds (ps:=["self"]) (fun _ _ _ _ _ _=>Mc.bn1 fun _=>rfl)⟩
theorem m4(X:K.In h)(G:h.Ns mainGlobals mg){C:Az}{b:Az}{j:V9}{i f:O9 Az}{d:Array (O9 V9)}{g c k a e:V9}(m2:PySem.W.nsIn K mainGlobals "ForEver"=some (some (.ref C)))(p1:PySem.W.plainGet K C Str.empty=true)(p2:PySem.W.hasDictIn K C=true)(p3:PySem.W.plainOver K C=true)(p4:PySem.W.findIn K (.ref C) "__setattr__"=some (some (.builtin "object.__setattr__")))
  (k2:PySem.W.findIn K (.ref C) "says"=some (some (.ref b))) (k3:PySem.W.isFn K (.ref b)=true) (m_l:K.lookup b=some ⟨j,i,.func (PySem.W.fnOf "says" "ForEver.says" (b9 (bC (top 35) 1)) (bD (bC (top 35) 1)) (aC (bC (top 35) 1)) .none g c k f a e),d⟩) (m_c:PySem.W.codeIn K a "ForEver.says"=true) (m_k:PySem.W.keepIn K (.ref b)=true):hR K mg:=by
 have l:=kN (st:=(bC (top 35) 1)) m_l m_c m_k
 exact ⟨C,b,_,BT X G m2,⟨p1,p2,p3,p4⟩,⟨k2,k3,m_k⟩,l,l.binds (ps:=["self"]) (fun _ _ _ _ _ _=>Mc.bn1 fun _=>rfl)⟩
theorem m6{nm q:Str}{b:Bool}(X:K.In h)(G:h.Ns mainGlobals mg){C D:Az}(a:PySem.W.nsIn K mainGlobals q=some (some (.ref D)))(m:PySem.W.nsIn K mainGlobals nm=some (some (.ref C)))(k:PySem.W.kitOne K (.ref C) (.ref D)=some b):Is1 K mg nm q b:=⟨D,C,BT X G a,BT X G m,k⟩
theorem aE2{nm:Str}{q:String}{b:Bool}(X:K.In h)(G:h.Ns mainGlobals mg){C:Az}(m:PySem.W.nsIn K mainGlobals nm=some (some (.ref C)))(k:PySem.W.kitOne K (.ref C) (.type q)=some b):uB K mg nm q b:=⟨C,BT X G m,k⟩
theorem aIJ{nm:Str}(X:K.In h)(G:h.Ns mainGlobals mg){W C M D:Az}{t i s e c:List V9}{k z j F:Str}{o w v:Bool}{u q:List Str}{d f:O9 Bool}{r p:O9 Az}{c0 N L B E A x y I H:O9 V9}{g:String}
  (a:PySem.W.nsIn K mainGlobals "WayError"=some (some (.ref W))) (l:K.lookup W=some (excClassObj j F W D s c v q e w f p A x y I H g)) (b:c.contains (.type "BaseException")=true)
  (m:PySem.W.nsIn K mainGlobals nm=some (some (.ref C)))
  (e1:K.lookup C=some (excClassObj k z C M t (.ref W::SX.fJ) true u i o d r c0 N L B E "ValueError.__new__")):UpK K mg [nm]:=
 ⟨W,c,BT X G a,yS l b,fun n J=>by
  rw[BA.mp J]
  exact ⟨C,_,BT X G m,yS e1 (SX.sN W).hasBase,by simp⟩⟩
theorem rec_in{q:P9}{x:Str}(h:((recsOf q).any fun d=>d.name == x)=true):∃ d∈recsOf q,d.name=x:=by
 obtain ⟨d,a,e⟩:=List.any_eq_true.mp h
 exact ⟨d,a,DH e⟩
theorem aHG{i f:Az}{j:V9}{od m:O9 Az}{g:Array (O9 V9)}{kV doc pm b ct:V9}(X:K.In h)(G:h.Ns mainGlobals mg)(d:mg "law"=some (.ref i))(a:PySem.W.nsIn K mainGlobals "law"=some (some (.ref f)))(l:K.lookup f=some ⟨j,od,.func (PySem.W.fnOf "law" "law" (b9 (top 62)) (bD (top 62)) (aC (top 62)) .none kV doc pm m b ct),g⟩)
  (c:PySem.W.codeIn K b "law"=true) (k:PySem.W.keepIn K (.ref f)=true):∃ fd,Fun K "law" "law" (top 62) i fd/\∀ (s:S9) (u:V9),BindsTo s fd ⟨[u],[]⟩ [("_law_script",u)]:=by
 have e:=d.symm.trans (BT X G a)
 cases e
 exact ⟨_,kN (st:=top 62) l c k,fun s u=>.of_eq rfl⟩
end
end Mc
open PySem PySem.W PyProof.Rows
set_option maxRecDepth 100000 in
set_option maxHeartbeats 0 in
theorem PySem.Challenge.cw_striproam_k04_strips_refused_holds : PySem.Challenge.rw_striproam_k04_strips_refused.Holds := by
 w_on;o_law;k_head;(case hw=>w_witness2)
 k_fill
 refine Fl.aD4 (l:=PySem.Challenge.rw_striproam_k04_strips_refused) (k:=15) (x:="_law_script") (qs:=Mc.qsT) (xs:=["sayer"]) ?hx ?hNT rfl rfl ⟨rfl,by decide,by decide⟩ (fun w h Y=>PySem.W.km_in_of Y) ?F
 case hx=>
  intro x hx
  simp only[AT,C4,or_false] at hx
  rcases hx with rfl<;>exact Mc.rec_in (by decide +kernel)
 case hNT=>
  intro w
  kernel_rfl
 case F=>
  intro w mg P h e G A
  have o:L2.DefAt (L2.KOf e) mg "signs_of" (Mc.top 10) ["machine"]:=by dsimp only[L2.KOf];refine' Mc.bQ e G ?a ?l ?c ?k ?b;(case a=>k_is);(case l=>k_is);(case c=>k_is);(case k=>k_is);(case b=>exact fun _ _ _ _ _ _=>Mc.bn1 fun _=>rfl)
  have i:L2.DefAt (L2.KOf e) mg "checked_by" (Mc.top 12) ["signs","strip"]:=by dsimp only[L2.KOf];refine' Mc.bQ e G ?a ?l ?c ?k ?b;(case a=>k_is);(case l=>k_is);(case c=>k_is);(case k=>k_is);(case b=>exact fun _ _ _ _ _ _=>Mc.bn2 fun _ _=>rfl)
  have p:L2.DefAt (L2.KOf e) mg "checked" (Mc.top 13) ["machine","strip"]:=by dsimp only[L2.KOf];refine' Mc.bQ e G ?a ?l ?c ?k ?b;(case a=>k_is);(case l=>k_is);(case c=>k_is);(case k=>k_is);(case b=>exact fun _ _ _ _ _ _=>Mc.bn2 fun _ _=>rfl)
  have q:L2.DefAt (L2.KOf e) mg "beginning" (Mc.top 22) ["machine","strip"]:=by dsimp only[L2.KOf];refine' Mc.bQ e G ?a ?l ?c ?k ?b;(case a=>k_is);(case l=>k_is);(case c=>k_is);(case k=>k_is);(case b=>exact fun _ _ _ _ _ _=>Mc.bn2 fun _ _=>rfl)
  have B:L2.DefAtD (L2.KOf e) mg "comes_round" (Mc.top 29) ["machine","ahead","again","behind"] [.str ""]:=by
   dsimp only[L2.KOf]
   refine' Mc.z7 e G ?a ?l ?d ?c ?k ?b ?b2
   (case a=>k_is);(case l=>k_is);(case d=>k_is);(case c=>k_is);(case k=>k_is)
   (case b=>exact fun _ _ _ _ _ _ _ u us J=>match us,J with|[_,_,_,_],_=>⟨_,rfl,rfl⟩)
   (case b2=>exact fun _ _ _ _ _ _ _ u us J=>match us,J with|[_,_,_],_=>⟨_,rfl,rfl⟩)
  have r:L2.DefAt (L2.KOf e) mg "path" (Mc.top 37) ["machine","strip"]:=by dsimp only[L2.KOf];refine' Mc.bQ e G ?a ?l ?c ?k ?b;(case a=>k_is);(case l=>k_is);(case c=>k_is);(case k=>k_is);(case b=>exact fun _ _ _ _ _ _=>Mc.bn2 fun _ _=>rfl)
  have j:L2.DefAt (L2.KOf e) mg "walk" (Mc.top 39) ["machine","strip"]:=by dsimp only[L2.KOf];refine' Mc.bQ e G ?a ?l ?c ?k ?b;(case a=>k_is);(case l=>k_is);(case c=>k_is);(case k=>k_is);(case b=>exact fun _ _ _ _ _ _=>Mc.bn2 fun _ _=>rfl)
  have N:L2.DefAt (L2.KOf e) mg "sayer" (Mc.top 40) ["machine"]:=by dsimp only[L2.KOf];refine' Mc.bQ e G ?a ?l ?c ?k ?b;(case a=>k_is);(case l=>k_is);(case c=>k_is);(case k=>k_is);(case b=>exact fun _ _ _ _ _ _=>Mc.bn1 fun _=>rfl)
  have g:L2.DefAt (L2.KOf e) mg "holds" (Mc.top 44) ["machine","strip","paper"]:=by dsimp only[L2.KOf];refine' Mc.bQ e G ?a ?l ?c ?k ?b;(case a=>k_is);(case l=>k_is);(case c=>k_is);(case k=>k_is);(case b=>exact fun _ _ _ _ _ _=>Mc.bn3 fun _ _ _=>rfl)
  have C:L2.DefAt (L2.KOf e) mg "sign_table" (Mc.top 47) ["machine","sign"]:=by dsimp only[L2.KOf];refine' Mc.bQ e G ?a ?l ?c ?k ?b;(case a=>k_is);(case l=>k_is);(case c=>k_is);(case k=>k_is);(case b=>exact fun _ _ _ _ _ _=>Mc.bn2 fun _ _=>rfl)
  have v:L2.DefAt (L2.KOf e) mg "gone_out" (Mc.top 48) ["one","other","thing","inward"]:=by dsimp only[L2.KOf];refine' Mc.bQ e G ?a ?l ?c ?k ?b;(case a=>k_is);(case l=>k_is);(case c=>k_is);(case k=>k_is);(case b=>exact fun _ _ _ _ _ _=>Mc.bn4 fun _ _ _ _=>rfl)
  have K:L2.DefAt (L2.KOf e) mg "behind" (Mc.top 49) ["one","other"]:=by dsimp only[L2.KOf];refine' Mc.bQ e G ?a ?l ?c ?k ?b;(case a=>k_is);(case l=>k_is);(case c=>k_is);(case k=>k_is);(case b=>exact fun _ _ _ _ _ _=>Mc.bn2 fun _ _=>rfl)
  have I:L2.DefAt (L2.KOf e) mg "table_of" (Mc.top 50) ["machine","strip"]:=by dsimp only[L2.KOf];refine' Mc.bQ e G ?a ?l ?c ?k ?b;(case a=>k_is);(case l=>k_is);(case c=>k_is);(case k=>k_is);(case b=>exact fun _ _ _ _ _ _=>Mc.bn2 fun _ _=>rfl)
  have L:L2.DefAt (L2.KOf e) mg "_law_cell" (Mc.top 52) ["_law_script","_law_k"]:=by dsimp only[L2.KOf];refine' Mc.bQ e G ?a ?l ?c ?k ?b;(case a=>k_is);(case l=>k_is);(case c=>k_is);(case k=>k_is);(case b=>exact fun _ _ _ _ _ _=>Mc.bn2 fun _ _=>rfl)
  have t:L2.DefAt (L2.KOf e) mg "_law_mixed" (Mc.top 53) ["_law_script","_law_few"]:=by dsimp only[L2.KOf];refine' Mc.bQ e G ?a ?l ?c ?k ?b;(case a=>k_is);(case l=>k_is);(case c=>k_is);(case k=>k_is);(case b=>exact fun _ _ _ _ _ _=>Mc.bn2 fun _ _=>rfl)
  have E:L2.DefAt (L2.KOf e) mg "_law_turn" (Mc.top 54) ["_law_cell_here","_law_many"]:=by dsimp only[L2.KOf];refine' Mc.bQ e G ?a ?l ?c ?k ?b;(case a=>k_is);(case l=>k_is);(case c=>k_is);(case k=>k_is);(case b=>exact fun _ _ _ _ _ _=>Mc.bn2 fun _ _=>rfl)
  have y:L2.DefAt (L2.KOf e) mg "_law_row" (Mc.top 55) ["_law_cell_here","_law_many","_law_signs"]:=by dsimp only[L2.KOf];refine' Mc.bQ e G ?a ?l ?c ?k ?b;(case a=>k_is);(case l=>k_is);(case c=>k_is);(case k=>k_is);(case b=>exact fun _ _ _ _ _ _=>Mc.bn3 fun _ _ _=>rfl)
  have D:L2.DefAt (L2.KOf e) mg "_law_machine" (Mc.top 56) ["_law_cells","_law_many","_law_signs"]:=by dsimp only[L2.KOf];refine' Mc.bQ e G ?a ?l ?c ?k ?b;(case a=>k_is);(case l=>k_is);(case c=>k_is);(case k=>k_is);(case b=>exact fun _ _ _ _ _ _=>Mc.bn3 fun _ _ _=>rfl)
  have n:L2.DefAt (L2.KOf e) mg "_law_strange" (Mc.top 57) ["_law_cell_here","_law_signs"]:=by dsimp only[L2.KOf];refine' Mc.bQ e G ?a ?l ?c ?k ?b;(case a=>k_is);(case l=>k_is);(case c=>k_is);(case k=>k_is);(case b=>exact fun _ _ _ _ _ _=>Mc.bn2 fun _ _=>rfl)
  have H:L2.DefAt (L2.KOf e) mg "_law_strip" (Mc.top 58) ["_law_script","_law_signs"]:=by dsimp only[L2.KOf];refine' Mc.bQ e G ?a ?l ?c ?k ?b;(case a=>k_is);(case l=>k_is);(case c=>k_is);(case k=>k_is);(case b=>exact fun _ _ _ _ _ _=>Mc.bn2 fun _ _=>rfl)
  have z:L2.DefAt (L2.KOf e) mg "_law_asked" (Mc.top 59) ["_law_way","_law_machine_here","_law_strip_here","_law_good"]:=by dsimp only[L2.KOf];refine' Mc.bQ e G ?a ?l ?c ?k ?b;(case a=>k_is);(case l=>k_is);(case c=>k_is);(case k=>k_is);(case b=>exact fun _ _ _ _ _ _=>Mc.bn4 fun _ _ _ _=>rfl)
  have f:L2.DefAt (L2.KOf e) mg "_law_refused" (Mc.top 60) ["_law_way","_law_machine_here","_law_strip_here","_law_good"]:=by dsimp only[L2.KOf];refine' Mc.bQ e G ?a ?l ?c ?k ?b;(case a=>k_is);(case l=>k_is);(case c=>k_is);(case k=>k_is);(case b=>exact fun _ _ _ _ _ _=>Mc.bn4 fun _ _ _ _=>rfl)
  have M:L2.DefAt (L2.KOf e) mg "_law_sign_refused" (Mc.top 61) ["_law_machine_here","_law_sign"]:=by dsimp only[L2.KOf];refine' Mc.bQ e G ?a ?l ?c ?k ?b;(case a=>k_is);(case l=>k_is);(case c=>k_is);(case k=>k_is);(case b=>exact fun _ _ _ _ _ _=>Mc.bn2 fun _ _=>rfl)
  have T:Mc.Txt w (L2.KOf e) mg:=by
   dsimp only[L2.KOf]
   refine' Mc.aHF e G ?z_ValueError ?z_bool ?z_enumerate ?z_int ?z_isinstance ?z_len ?z_max ?z_min ?z_range ?z_str ?z_tuple ?s_SIGNS
   (case z_ValueError=>k_is);(case z_bool=>k_is);(case z_enumerate=>k_is);(case z_int=>k_is);(case z_isinstance=>k_is);(case z_len=>k_is);(case z_max=>k_is);(case z_min=>k_is);(case z_range=>k_is);(case z_str=>k_is);(case z_tuple=>k_is);(case s_SIGNS=>k_is)
  have E_NoStrip:Mc.iK (L2.KOf e) mg:=by
   dsimp only[L2.KOf]
   refine' Mc.rR e G ?m ?e1 ?e2 ?e3 ?e4 ?e5 ?e6 ?e7 ?e8 ?p1 ?i1 ?i2 ?i3 ?i4 ?i5
   (case m=>k_is)
   (case e1=>k_is)
   (case e2=>k_is);(case e3=>k_is);(case e4=>k_is);(case e5=>k_is);(case e6=>k_is);(case e7=>k_is);(case e8=>k_is)
   (case p1=>k_is);(case i1=>k_is);(case i2=>k_is);(case i3=>k_is);(case i4=>k_is);(case i5=>k_is)
  have Up_NoStrip:Fl.UpK (L2.KOf e) mg ["NoStrip"]:=by
   dsimp only[L2.KOf]
   refine' Mc.aIJ e G ?a ?l ?b ?m ?e1
   (case a=>k_is);(case m=>k_is);(case l=>k_is);(case e1=>k_is);(case b=>rfl)
  have U_NoStrip:=Up_NoStrip
  have J_NoStrip_ValueError:Fl.uB (L2.KOf e) mg "NoStrip" "ValueError" true:=by
   dsimp only[L2.KOf]
   refine' Mc.aE2 e G ?m ?k
   (case m=>k_is)
   (case k=>refine' Mc.aF6 (by decide) (by decide) ?c;(case c=>k_is))
  have I_NoStrip_NoStrip:Fl.Is1 (L2.KOf e) mg "NoStrip" "NoStrip" true:=by
   dsimp only[L2.KOf]
   refine' Mc.m6 e G ?a ?m ?k
   (case a=>k_is);(case m=>k_is)
   (case k=>exact Mc.aAX)
  have I_NoStrip_TooMany:Fl.Is1 (L2.KOf e) mg "NoStrip" "TooMany" false:=by
   dsimp only[L2.KOf]
   refine' Mc.m6 e G ?a ?m ?k
   (case a=>k_is);(case m=>k_is)
   (case k=>refine' Mc.nB (by decide) ?a ?b ?c;(case a=>k_is);(case b=>k_is);(case c=>k_is))
  have I_NoStrip_NoText:Fl.Is1 (L2.KOf e) mg "NoStrip" "NoText" false:=by
   dsimp only[L2.KOf]
   refine' Mc.m6 e G ?a ?m ?k
   (case a=>k_is);(case m=>k_is)
   (case k=>refine' Mc.nB (by decide) ?a ?b ?c;(case a=>k_is);(case b=>k_is);(case c=>k_is))
  have I_NoStrip_NoMachine:Fl.Is1 (L2.KOf e) mg "NoStrip" "NoMachine" false:=by
   dsimp only[L2.KOf]
   refine' Mc.m6 e G ?a ?m ?k
   (case a=>k_is);(case m=>k_is)
   (case k=>refine' Mc.nB (by decide) ?a ?b ?c;(case a=>k_is);(case b=>k_is);(case c=>k_is))
  have I_NoStrip_NoWord:Fl.Is1 (L2.KOf e) mg "NoStrip" "NoWord" false:=by
   dsimp only[L2.KOf]
   refine' Mc.m6 e G ?a ?m ?k
   (case a=>k_is);(case m=>k_is)
   (case k=>refine' Mc.nB (by decide) ?a ?b ?c;(case a=>k_is);(case b=>k_is);(case c=>k_is))
  have Mt_LetBy_says:Mc.iX (L2.KOf e) mg:=by
   dsimp only[L2.KOf]
   refine' Mc.oM e G ?m2 ?p1 ?p2 ?p3 ?p4 ?k2 ?k3 ?m_l ?m_c ?m_k
   (case m2=>k_is);(case k2=>k_is);(case m_l=>k_is);(case p1=>k_is);(case p2=>k_is);(case p3=>k_is);(case p4=>k_is);(case k3=>k_is);(case m_c=>k_is);(case m_k=>k_is)
  have Mt_ShutOut_says:Mc.hJ (L2.KOf e) mg:=by
   dsimp only[L2.KOf]
   refine' Mc.mZ e G ?m2 ?p1 ?p2 ?p3 ?p4 ?k2 ?k3 ?m_l ?m_c ?m_k
   (case m2=>k_is);(case k2=>k_is);(case m_l=>k_is);(case p1=>k_is);(case p2=>k_is);(case p3=>k_is);(case p4=>k_is);(case k3=>k_is);(case m_c=>k_is);(case m_k=>k_is)
  have Mt_ForEver_says:Mc.hR (L2.KOf e) mg:=by
   dsimp only[L2.KOf]
   refine' Mc.m4 e G ?m2 ?p1 ?p2 ?p3 ?p4 ?k2 ?k3 ?m_l ?m_c ?m_k
   (case m2=>k_is);(case k2=>k_is);(case m_l=>k_is);(case p1=>k_is);(case p2=>k_is);(case p3=>k_is);(case p4=>k_is);(case k3=>k_is);(case m_c=>k_is);(case m_k=>k_is)
  have Q:∃ fd,L2.Fun (L2.KOf e) "law" "law" (Mc.top 62) P fd/\∀ (s:S9) (u:V9),BindsTo s fd ⟨[u],[]⟩ [("_law_script",u)]:=by
   dsimp only[L2.KOf]
   refine' Mc.aHG e G A ?a4 ?l4 ?c4 ?k4
   (case a4=>k_is);(case l4=>k_is);(case c4=>k_is);(case k4=>k_is)
  obtain ⟨fd,S,O⟩:=Q
  exact ⟨fd,O,fun base TH _ _ R=>Mc.aE1 T E_NoStrip U_NoStrip J_NoStrip_ValueError I_NoStrip_NoStrip I_NoStrip_TooMany I_NoStrip_NoText I_NoStrip_NoMachine I_NoStrip_NoWord Mt_LetBy_says Mt_ShutOut_says Mt_ForEver_says o i p q B r j (Fl.aJE N e R (by decide)) g C v K I L t E y D n H z f M S⟩
end
