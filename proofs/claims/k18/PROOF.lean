import PyProof.Rows.All
import Wide.All
import OpenK.AllK
import Wide.FinOn
import Lean
import PyProof.EqAt
import PyProof.EqKinds
import PyProof.TupleCall
import PyProof.ExcInit
import PyProof.InstStoreFacts
import PyProof.StrLawsFirst
import PyProof.StrLawsIn
import KE.KLam
import PyProof.ListMulRoad
import PyProof.Rows.ListMul
import PyProof.ZipIter
import PyProof.Draws
import PyProof.ListStr
import PyProof.DictWalks
import PyProof.DictTruth
import PyProof.ListRange
import PyProof.StrLaws
import PyProof.StrLawsIdx
import PyProof.AttrMissHeap
import PyProof.StrBlock2
import PyProof.SumWalkG
import PySem.Challenge.RW_striproam_k18_products
set_option linter.all false
set_option maxRecDepth 100000
set_option maxHeartbeats 4000000
set_option Elab.async false
set_option linter.all false
set_option maxRecDepth 100000
set_option genSizeOf false
def PySem.W.Fast.tw5808216578145796978:=()
def PySem.W.Fast.tw4606407004137207238:=()
def PySem.W.Fast.tw9321008208905352375:=()
def PySem.W.Fast.tw355980060055595048:=()
def PySem.W.Fast.tw15361915617804648392:=()
def PySem.W.Fast.tw11216187733130796029:=()
def PySem.W.Fast.tw9352106139513057800:=()
def PySem.W.Fast.tw14657037551617673415:=()
def PySem.W.Fast.tw2165277533527365403:=()
def PySem.W.Fast.tw3852679438847756182:=()
theorem Mc.bn1{α:Type}{P:List α->Prop}(h:∀ a,P [a]):∀ us:List α,us.length=1->P us
 | [a],_=>h a
theorem Mc.bn2{α:Type}{P:List α->Prop}(h:∀ a b,P [a,b]):∀ us:List α,us.length=2->P us
 | [a,b],_=>h a b
theorem Mc.bn3{α:Type}{P:List α->Prop}(h:∀ a b c,P [a,b,c]):∀ us:List α,us.length=3->P us
 | [a,b,c],_=>h a b c
theorem Mc.bn4{α:Type}{P:List α->Prop}(h:∀ a b c d,P [a,b,c,d]):∀ us:List α,us.length=4->P us
 | [a,b,c,d],_=>h a b c d
open PySem.W (Frag)
noncomputable section
namespace L2
open PySem PySem.Spec PyProof.Rows
abbrev Key:=Sum Int Str
noncomputable def pP:Key->Value->Bool
 | .inl k,v=>Value.isInt k v
 | .inr x,v=>Value.isStrOf x v
noncomputable def aOW(w:World):Key->Int
 | .inl k=>hashInt k
 | .inr x=>hashStr w x
theorem keyIs_shape:∀ {k:Key} {v:Value},pP k v=true->(∃ i t,k=Sum.inl i/\v=Value.int i t)\/(∃ x t,k=Sum.inr x/\v=Value.str x t)
 | .inl i,v,h=>by
  obtain ⟨t,e⟩:=Value.isInt_shape (k:=i) (v:=v) h
  exact .inl ⟨i,t,rfl,e⟩
 | .inr x,v,h=>by
  obtain ⟨t,e⟩:=Value.isStrOf_shape (x:=x) (v:=v) h
  exact .inr ⟨x,t,rfl,e⟩
theorem aCH(i:Int)(t:Tok):pP (.inl i) (.int i t)=true:=by simp[pP,Value.isInt]
theorem aCI(x:Str)(t:Tok):pP (.inr x) (.str x t)=true:=by simp[pP,Value.isStrOf]
theorem aKP(a b:Int):decide ((Sum.inl a:Key)=Sum.inl b)=(a == b):=by
 by_cases e:a=b
 ·subst e;simp
 ·have h:¬ (Sum.inl a:Key)=Sum.inl b:=fun q=>e (Sum.inl.inj q)
  rw[decide_eq_false h]
  exact (beq_eq_false_iff_ne.mpr e).symm
theorem aKQ(a b:Str):decide ((Sum.inr a:Key)=Sum.inr b)=decide (a=b):=by
 by_cases e:a=b
 ·subst e;simp
 ·have h:¬ (Sum.inr a:Key)=Sum.inr b:=fun q=>e (Sum.inr.inj q)
  rw[decide_eq_false h,decide_eq_false e]
theorem aKR(a:Int)(b:Str):decide ((Sum.inl a:Key)=Sum.inr b)=false:=decide_eq_false (fun q=>nomatch q)
theorem aKS(a:Str)(b:Int):decide ((Sum.inr a:Key)=Sum.inl b)=false:=decide_eq_false (fun q=>nomatch q)
noncomputable def dE(prog:Program)(w:World):PySem.KeyKind prog w Key where
 is:=pP
 hash:=aOW w
 inj:=fun v a b ha hb=>by
  rcases keyIs_shape ha with ⟨i,t,rfl,rfl⟩|⟨x,t,rfl,rfl⟩
  ·rcases keyIs_shape hb with ⟨j,u,rfl,e⟩|⟨y,u,rfl,e⟩
   · injection e with e1 _; rw [e1]
   · exact nomatch e
  ·rcases keyIs_shape hb with ⟨j,u,rfl,e⟩|⟨y,u,rfl,e⟩
   · exact nomatch e
   · injection e with e1 _; rw [e1]
 byValue:=fun k v h=>by
  rcases keyIs_shape h with ⟨i,t,rfl,rfl⟩|⟨x,t,rfl,rfl⟩<;>rfl
 pyHash:=fun hv h=>by
  rcases keyIs_shape hv with ⟨i,t,rfl,rfl⟩|⟨x,t,rfl,rfl⟩
  ·exact wpAny_pyHash_int h
  ·exact wpAny_pyHash_str h
 eqBool:=fun hu hv h=>by
  rcases keyIs_shape hu with ⟨i,t,rfl,rfl⟩|⟨x,t,rfl,rfl⟩
  ·rcases keyIs_shape hv with ⟨j,u,rfl,rfl⟩|⟨y,u,rfl,rfl⟩
   · rw [aKP] at h; exact wpAny_eqBool_int h
   · rw [aKR] at h; exact SeqAt.EqAt.int_str i t y u _ _ _ _ h
  ·rcases keyIs_shape hv with ⟨j,u,rfl,rfl⟩|⟨y,u,rfl,rfl⟩
   · rw [aKS] at h; exact SeqAt.EqAt.str_int x t j u _ _ _ _ h
   · rw [aKQ] at h; exact wpAny_eqBool_str h
 «strs»:=fun k x t v h=>by
  rcases keyIs_shape h with ⟨i,u,rfl,e⟩|⟨y,u,rfl,e⟩
  ·exact nomatch e
  ·injection e with e1 _
   subst e1
   cases v<;>rfl
theorem y4(prog:Program)(w:World)(i:Int)(t:Tok):(dE prog w).is (.inl i) (.int i t)=true:=aCH i t
theorem y6(prog:Program)(w:World)(x:Str)(t:Tok):(dE prog w).is (.inr x) (.str x t)=true:=aCI x t
end L2
namespace L2
open PySem PySem.Spec PyProof.Rows
inductive V where
 | non|bl (b:Bool)|int (i:Int)|str (x:Str)|byt (b:Array UInt8)|flt (b:UInt64)|ref (a:Addr)|ty (n:String)
 deriving DecidableEq
def a9:V->Value->Prop
 | .non,u=>u=Value.none
 | .bl b,u=>u=Value.bool b
 | .int i,u=>∃ t,u=Value.int i t
 | .str x,u=>∃ t,u=Value.str x t
 | .byt b,u=>∃ t,u=Value.bytes b t
 | .flt b,u=>∃ t,u=Value.float b t
 | .ref a,u=>u=Value.ref a
 | .ty n,u=>u=Value.type n
abbrev bA:List V->List Value->Prop:=Paired a9
theorem bA.length{xs:List V}{us:List Value}(r:bA xs us):xs.length=us.length:=Paired.length r
theorem bA.get:∀ {xs:List V} {us:List Value} {i:Nat} {x:V},bA xs us->xs[i]? = some x->∃ u,us[i]? = some u/\a9 x u
 | _,_,_,_,.nil,e=>by simp at e
 | _,_,0,_,.cons r _,e=>by simp at e;subst e;exact ⟨_,rfl,r⟩
 | _,_,i+1,x,.cons _ t,e=>by
  obtain ⟨u,h1,h2⟩:=bA.get (i:=i) (x:=x) t (by simpa using e)
  exact ⟨u,by simpa using h1,h2⟩
theorem bA.set{x:V}{u:Value}(r:a9 x u):∀ {xs:List V} {us:List Value} (i:Nat),bA xs us->bA (xs.set i x) (us.set i u)
 | _,_,_,.nil=>.nil
 | _,_,0,.cons _ t=>.cons r t
 | _,_,i+1,.cons q t=>.cons q (bA.set r i t)
theorem bA.append:∀ {xs ys:List V} {us ws:List Value},bA xs us->bA ys ws->bA (xs++ys) (us++ws)
 | _,_,_,_,.nil,s=>s
 | _,_,_,_,.cons r t,s=>.cons r (bA.append t s)
theorem bA.take:∀ {xs:List V} {us:List Value} (n:Nat),bA xs us->bA (xs.take n) (us.take n)
 | _,_,0,_=>.nil
 | _,_,_+1,.nil=>.nil
 | _,_,n+1,.cons r t=>.cons r (bA.take n t)
theorem bA.drop:∀ {xs:List V} {us:List Value} (n:Nat),bA xs us->bA (xs.drop n) (us.drop n)
 | _,_,0,r=>r
 | _,_,_+1,.nil=>.nil
 | _,_,n+1,.cons _ t=>bA.drop n t
def f6:Option V->Option Value->Prop
 | some v,some u=>a9 v u
 | none,none=>True
 | _,_=>False
def KV{κ:Type}:List (κ×V)->List (κ×Value)->Prop:=Paired fun (p:κ×V) (q:κ×Value)=>p.1=q.1/\a9 p.2 q.2
noncomputable def kV:Key->V
 | .inl i=>.int i
 | .inr x=>.str x
inductive HO where
 | lst (xs:List V)
 | tup (xs:List V)
 | dK (kvs:List (Key×V))|dT (kvs:List (List Key×V))
 | set (S:Int->Bool) (n:Nat)
 | ins (C dx:Addr) (fs:List (Str×V))
 | own (x:Addr)
 | xd (fs:List (Str×V))
 | met (f x:Addr)
 | rng (lo hi:Int)
 | frz (o:Obj) (u:HO)
 | tbl (qs:List (Pos×Str))
 | cod (q:Str)
 | ext (φ:Heap->Prop)
abbrev Hp:=Addr->Option HO
noncomputable def upd(H:Hp)(a:Addr)(o:HO):Hp:=fun b=>if b=a then some o else H b
theorem aL{H:Hp}{a:Addr}{o:HO}:upd H a o a=some o:=by unfold upd;rw[if_pos rfl]
theorem aD{H:Hp}{a b:Addr}{o:HO}(h:b≠a):upd H a o b=H b:=by unfold upd;rw[if_neg h]
theorem kN{H:Hp}{a:Addr}{o u:HO}:upd (upd H a o) a u=upd H a u:=by
 funext b;unfold upd;split<;>rfl
theorem bB{H:Hp}{a b:Addr}{o:HO}(h:H a=some o)(h':H b=none):a≠b:=by
 intro e;subst e;rw[h] at h';cases h'
def j4(h:Heap)(a:Addr)(its:Array Value):Prop:=∃ o,h.get? a=some o/\(o.cls=.type "tuple"/\o.dict=none)/\∃ n,o.data=.seq its n
theorem j4.t{h:Heap}{a:Addr}{its:Array Value}:j4 h a its->IsTup h a its:=fun ⟨o,e,c,n,d⟩=>⟨o,e,c.1,n,d⟩
theorem j4.new(h:Heap)(its:Array Value):j4 (h.push {cls:=.type "tuple",data:=.seq its}) h.objs.size its:=⟨_,Heap.get?_push_size h rfl,⟨rfl,rfl⟩,_,rfl⟩
section
variable(P:Program)(w:World)
def b5(H:Hp)(h:Heap)(a:Addr):HO->Prop
 | .lst xs=>xs.length<=sizeLine/\∃ (its:List Value) (n:Nat),bA xs its/\h.get? a=some {cls:=.type "list",data:=.seq its.toArray n}
 | .tup xs=>xs.length<=sizeLine/\∃ its:List Value,bA xs its/\j4 h a its.toArray
 | .dK kvs=>kvs.length<=sizeLine/\(a == sysModules)=false/\∃ vs,KV kvs vs/\h.DictOf (dE P w) a vs
 | .dT kvs=>kvs.length<=sizeLine/\(a == sysModules)=false/\∃ xs:List (List Key×Addr×Value),
  Paired (fun (p:List Key×V) (q:List Key×Addr×Value)=>p.1=q.1/\H q.2.1=some (.tup (p.1.map kV))/\a9 p.2 q.2.2) kvs xs /\
  ∃ o es ep,h.get? a=some o/\o.ExactDict/\o.data=.dict es ep/\es.toList=xs.map (entryOfKey (tupleKind (dE P w)))/\(xs.map (·.1)).Nodup
 | .set S n=>h.SetOf (intKind P w) a S n
 | .ins C dx fs=>H dx=some (.own a)/\fs.length<=1000/\dx≠a/\h.get? a=some (PySem.W.instObj C dx) /\
  ∃ mA,h.Ns1 dx mA/\(∀ f,f6 (fs.lookup f) (mA f))/\PySem.Within mA (fs.map (·.1))
 | .own _=>∃ o,h.get? a=some o
 | .xd fs=>∃ mA,h.Ns1 a mA/\∀ f,f6 (fs.lookup f) (mA f)
 | .rng lo hi=>∃ t u v,h.get? a=some {cls:=.type "range",data:=.fields #[.int lo t,.int hi u,.int 1 v]}
 | .frz o u=>h.get? a=some o/\b5 H h a u
 | .tbl qs=>∃ ps:Array Value,h.get? a=some {cls:=.none,data:=.fields ps}/\TriplesOk ps.toList/\∀ p∈qs,codeAmong p.1 ps.toList=none\/∃ c,codeAmong p.1 ps.toList=some (.ref c)/\H c=some (.cod p.2)
 | .cod q=>h.CodeRec (.ref a) q
 | .met f x=>h.get? a=some (PySem.W.methodObj (.ref f) (.ref x))
 | .ext φ=>φ h/\(∃ o,h.get? a=some o)/\∀ h1 h2:Heap,φ h1->(∀ o,h1.get? a=some o->h2.get? a=some o)->φ h2
def HOk(H:Hp)(h:Heap):Prop:=∀ a o,H a=some o->b5 P w H h a o
end
section
variable{P:Program}{w:World}{H H':Hp}{h h':Heap}{a:Addr}{o:HO}
theorem b5.lt(x:b5 P w H h a o):a < h.objs.size:=by
 cases o with
 | lst xs=>obtain ⟨_,_,_,_,e⟩:=x;exact Heap.lt_size e
 | tup xs=>obtain ⟨_,_,_,p⟩:=x;exact p.t.lt
 | dK kvs=>obtain ⟨_,_,_,_,o,_,_,e,_⟩:=x;exact Heap.lt_size e
 | dT kvs=>obtain ⟨_,_,_,_,o,_,_,e,_⟩:=x;exact Heap.lt_size e
 | set S n=>obtain ⟨o,_,_,_,e,_⟩:=x;exact Heap.lt_size e
 | ins C dx fs=>obtain ⟨_,_,_,e,_⟩:=x;exact Heap.lt_size e
 | own y=>obtain ⟨_,e⟩:=x;exact Heap.lt_size e
 | xd fs=>obtain ⟨_,⟨_,_,_,e,_⟩,_⟩:=x;exact Heap.lt_size e
 | rng lo hi=>obtain ⟨_,_,_,e⟩:=x;exact Heap.lt_size e
 | frz ob u=>obtain ⟨e,_⟩:=x;exact Heap.lt_size e
 | tbl qs=>obtain ⟨ps,e,_⟩:=x;exact Heap.lt_size e
 | cod q=>obtain ⟨c,o,vs,t,e,ho,_⟩:=x;cases e;exact Heap.lt_size ho
 | met f y=>exact Heap.lt_size (show h.get? a=some _ from x)
 | ext φ=>obtain ⟨_,⟨_,e⟩,_⟩:=x;exact Heap.lt_size e
theorem Paired.mapP{α β:Type}{F G:α->β->Prop}:∀ {l₁:List α} {l₂:List β},Paired F l₁ l₂->(∀ a b,F a b->G a b)->Paired G l₁ l₂
 | _,_,.nil,_=>.nil
 | _,_,.cons r t,f=>.cons (f _ _ r) (Paired.mapP t f)
theorem b5.stay(x:b5 P w H h a o)(k:∀ b u,(b=a\/H b=some (.own a))->h.get? b=some u->h'.get? b=some u)
  (ho:∀ b,H b=some (.own a)->H' b=some (.own a)) (hc:∀ b q,H b=some (.cod q)->H' b=some (.cod q)) (ht:∀ b xs,H b=some (.tup xs)->H' b=some (.tup xs)):b5 P w H' h' a o:=by
 induction o with
 | lst xs=>obtain ⟨z,its,n,r,e⟩:=x;exact ⟨z,its,n,r,k _ _ (.inl rfl) e⟩
 | tup xs=>obtain ⟨z,its,r,ob,e,c⟩:=x;exact ⟨z,its,r,ob,k _ _ (.inl rfl) e,c⟩
 | dK kvs=>obtain ⟨z,y,vs,r,ob,es,ep,e,c⟩:=x;exact ⟨z,y,vs,r,ob,es,ep,k _ _ (.inl rfl) e,c⟩
 | dT kvs=>
  obtain ⟨z,y,xs,r,ob,es,ep,e,c⟩:=x
  exact ⟨z,y,xs,Paired.mapP r fun p q z=>⟨z.1,ht _ _ z.2.1,z.2.2⟩,ob,es,ep,k _ _ (.inl rfl) e,c⟩
 | set S n=>obtain ⟨ob,es,ep,t,e,c⟩:=x;exact ⟨ob,es,ep,t,k _ _ (.inl rfl) e,c⟩
 | ins C dx fs=>
  obtain ⟨d,z,ne,e,mA,⟨od,es,ep,e2,c⟩,r⟩:=x
  exact ⟨ho _ d,z,ne,k _ _ (.inl rfl) e,mA,⟨od,es,ep,k _ _ (.inr d) e2,c⟩,r⟩
 | own y=>obtain ⟨ob,e⟩:=x;exact ⟨ob,k _ _ (.inl rfl) e⟩
 | xd fs=>obtain ⟨mA,⟨od,es,ep,e,c⟩,r⟩:=x;exact ⟨mA,⟨od,es,ep,k _ _ (.inl rfl) e,c⟩,r⟩
 | rng lo hi=>obtain ⟨t,u,v,e⟩:=x;exact ⟨t,u,v,k _ _ (.inl rfl) e⟩
 | frz ob u ih=>obtain ⟨e,q⟩:=x;exact ⟨k _ _ (.inl rfl) e,ih q⟩
 | tbl qs=>
  obtain ⟨ps,e,t,r⟩:=x
  refine ⟨ps,k _ _ (.inl rfl) e,t,fun p hp=>?_⟩
  rcases r p hp with z|⟨c,z,z2⟩
  · exact .inl z
  · exact .inr ⟨c, z, hc _ _ z2⟩
 | cod q=>
  obtain ⟨c,o,vs,t,e,ho,r⟩:=x
  cases e
  exact ⟨_,o,vs,t,rfl,k _ _ (.inl rfl) ho,r⟩
 | met f y=>
  have e:h.get? a=some (PySem.W.methodObj (.ref f) (.ref y)):=x
  show h'.get? a=some (PySem.W.methodObj (.ref f) (.ref y))
  exact k a _ (.inl rfl) e
 | ext φ=>obtain ⟨p,⟨o,e⟩,st⟩:=x;exact ⟨st _ _ p fun o q=>k _ _ (.inl rfl) q,⟨o,k _ _ (.inl rfl) e⟩,st⟩
theorem HOk.lt(x:HOk P w H h)(e:H a=some o):a < h.objs.size:=(x a o e).lt
theorem HOk.fresh(x:HOk P w H h)(e:h.objs.size<=a):H a=none:=by
 cases q:H a with
 | none=>rfl
 | some u=>exact absurd (Nat.lt_of_lt_of_le (x.lt q) e) (Nat.lt_irrefl _)
theorem HOk.kept(x:HOk P w H h)(k:∀ b u,h.get? b=some u->h'.get? b=some u):HOk P w H h':=fun a o e=>
 (x a o e).stay (fun b u _ q=>k b u q) (fun _ q=>q) (fun _ _ q=>q) fun _ _ q=>q
theorem HOk.laid(x:HOk P w H h)(k:∀ b u,h.get? b=some u->h'.get? b=some u)(hp:h.objs.size<=a)(new:b5 P w (upd H a o) h' a o):HOk P w (upd H a o) h':=fun b u e=>by
 have hn:=x.fresh hp
 by_cases hb:b=a
 ·subst hb;rw[aL] at e;cases e;exact new
 ·rw[aD hb] at e
  exact (x b u e).stay (fun c v _ q=>k c v q) (fun c q=>by rw[aD (bB q hn)];exact q) (fun c xs q=>by rw[aD (bB q hn)];exact q) fun c xs q=>by rw[aD (bB q hn)];exact q
end
def Rd(H:Hp)(a:Addr)(u:HO):Prop:=H a=some u\/∃ o,H a=some (.frz o u)
theorem Rd.ok{P:Program}{w:World}{H:Hp}{h:Heap}{a:Addr}{u:HO}(r:Rd H a u)(x:HOk P w H h):b5 P w H h a u:=by
 rcases r with r|⟨o,r⟩
 ·exact x a u r
 ·obtain ⟨_,q⟩:=x a _ r
  exact q
def Mut:Option HO->Prop
 | some (.lst _)=>True
 | some (.dK _)=>True
 | some (.dT _)=>True
 | some (.set _ _)=>True
 | some (.ins _ _ _)=>True
 | some (.ext _)=>True
 | _=>False
section
variable{P:Program}{w:World}{H:Hp}{h h':Heap}{x e:Addr}{o':HO}
theorem HOk.write(ok:HOk P w H h)(mu:Mut (H x))(he:e=x\/H e=some (.own x))(k:∀ b u,b≠e->h.get? b=some u->h'.get? b=some u)(heo:∃ u,h'.get? e=some u)
  (new:b5 P w (upd H x o') h' x o'):HOk P w (upd H x o') h':=fun b u q=>by
 have nown:∀ c y,H c=some (.own y)->c≠x:=fun c y r z=>by subst z;rw[r] at mu;exact mu
 have ntup:∀ c xs,H c=some (.tup xs)->c≠x:=fun c xs r z=>by subst z;rw[r] at mu;exact mu
 have ncod:∀ c xs,H c=some (.cod xs)->c≠x:=fun c xs r z=>by subst z;rw[r] at mu;exact mu
 by_cases hb:b=x
 ·subst hb;rw[aL] at q;cases q;exact new
 ·rw[aD hb] at q
  by_cases hbe:b=e
  ·have q':H b=some (.own x):=by
    rcases he with z|z
    · exact absurd (hbe.trans z) hb
    · rw [hbe]; exact z
   rw[q] at q';cases q'
   obtain ⟨v,hv⟩:=heo
   exact ⟨v,by rw[hbe];exact hv⟩
  ·refine (ok b u q).stay (fun c v hc r=>k c v ?_ r) (fun c r=>by rw[aD (nown c b r)];exact r) (fun c xs r=>by rw[aD (ncod c xs r)];exact r) fun c xs r=>by rw[aD (ntup c xs r)];exact r
   rcases hc with rfl|hc
   ·exact hbe
   ·rintro rfl
    rcases he with z|z
    · exact nown c b hc z
    · rw [hc] at z; cases z; exact hb rfl
end
structure Un(fs ex:List Addr)(H H':Hp)(h h':Heap):Prop where
 keep:∀ b o,h.get? b=some o->H b=none->b∉fs->b∉ex->h'.get? b=some o
 slot:∀ b o,h.get? b=some o->H b=none->b∈fs->b∉ex->∃ sl,h'.get? b=some {o with slots:=sl}
 free:∀ b o,h.get? b=some o->H b=none->b∉ex->H' b=none
 there:∀ b o,h.get? b=some o->b∉ex->∃ o',h'.get? b=some o'
 tups:∀ b xs,H b=some (.tup xs)->H' b=some (.tup xs)
 frzs:∀ b o u,H b=some (.frz o u)->H' b=some (.frz o u)
 tbls:∀ b ps,H b=some (.tbl ps)->H' b=some (.tbl ps)
section
variable{fs fs' ex ex':List Addr}{H H1 H2:Hp}{h h1 h2 h':Heap}{a x e:Addr}{o:HO}
theorem Un.any(u:Un fs ex H H1 h h1){b:Addr}{ob:Obj}(q:h.get? b=some ob)(n:H b=none)(hx:b∉ex):∃ sl,h1.get? b=some {ob with slots:=sl}:=by
 by_cases hb:b∈fs
 · exact u.slot b ob q n hb hx
 · exact ⟨ob.slots, u.keep b ob q n hb hx⟩
theorem Un.trans(a:Un fs ex H H1 h h1)(b:Un fs ex H1 H2 h1 h2):Un fs ex H H2 h h2 where
 keep:=fun c ob q n hc hx=>b.keep c ob (a.keep c ob q n hc hx) (a.free c ob q n hx) hc hx
 slot:=fun c ob q n hc hx=>by
  obtain ⟨sl,e1⟩:=a.slot c ob q n hc hx
  obtain ⟨sl',e2⟩:=b.slot c _ e1 (a.free c ob q n hx) hc hx
  exact ⟨sl',e2⟩
 free:=fun c ob q n hx=>by
  obtain ⟨o',e1⟩:=a.there c ob q hx
  exact b.free c o' e1 (a.free c ob q n hx) hx
 there:=fun c ob q hx=>by
  obtain ⟨o',e1⟩:=a.there c ob q hx
  exact b.there c o' e1 hx
 tups:=fun c xs q=>b.tups c xs (a.tups c xs q)
 frzs:=fun c ob xs q=>b.frzs c ob xs (a.frzs c ob xs q)
 tbls:=fun c ps q=>b.tbls c ps (a.tbls c ps q)
theorem Un.kept(k:∀ b u,h.get? b=some u->h'.get? b=some u):Un fs ex H H h h':=
 ⟨fun b ob q _ _ _=>k b ob q,fun b ob q _ _ _=>⟨ob.slots,k b ob q⟩,fun _ _ _ n _=>n,fun b ob q _=>⟨ob,k b ob q⟩,fun _ _ q=>q,fun _ _ _ q=>q,fun _ _ q=>q⟩
theorem Un.refl:Un fs ex H H h h:=Un.kept fun _ _ q=>q
theorem Un.laid(k:∀ b u,h.get? b=some u->h'.get? b=some u)(hp:h.objs.size<=a)(hn:H a=none):Un fs ex H (upd H a o) h h' where
 keep:=fun b u q _ _ _=>k b u q
 slot:=fun b u q _ _ _=>⟨u.slots,k b u q⟩
 free:=fun b u q n _=>by rw[aD (Nat.ne_of_lt (Nat.lt_of_lt_of_le (Heap.lt_size q) hp))];exact n
 there:=fun b u q _=>⟨u,k b u q⟩
 tups:=fun b xs q=>by rw[aD (bB q hn)];exact q
 frzs:=fun b u xs q=>by rw[aD (bB q hn)];exact q
 tbls:=fun b ps q=>by rw[aD (bB q hn)];exact q
theorem Un.write(mu:Mut (H x))(he:e=x\/H e=some (.own x))(k:∀ b u,b≠e->h.get? b=some u->h'.get? b=some u)(heo:∃ u,h'.get? e=some u):Un fs ex H (upd H x o) h h':=by
 have hx:∀ b,H b=none->b≠x:=fun b n z=>by subst z;rw[n] at mu;exact mu
 have hb:∀ b,H b=none->b≠e:=fun b n z=>by
  subst z
  rcases he with r|r
  · exact hx b n r
  · rw [n] at r; cases r
 have hm:∀ b u,H b=some u->¬ Mut (some u)->b≠x:=fun b u q nm z=>by subst z;rw[q] at mu;exact nm mu
 refine ⟨fun b u q n _ _=>k b u (hb b n) q,fun b u q n _ _=>⟨u.slots,k b u (hb b n) q⟩,fun b u q n _=>by rw[aD (hx b n)];exact n,fun b u q _=>?_,
  fun b xs q=>by rw[aD (hm b _ q fun z=>z)];exact q,fun b u xs q=>by rw[aD (hm b _ q fun z=>z)];exact q,fun b ps q=>by rw[aD (hm b _ q fun z=>z)];exact q⟩
 by_cases hbe:b=e
 ·subst hbe;exact heo
 ·exact ⟨u,k b u hbe q⟩
end
noncomputable def trk(h:Heap)(H:Hp):List Addr:=(List.range h.objs.size).filter fun a=>(H a).isSome
def nB(h:Heap)(H:Hp):Heap:=PySem.W.hideAll h (trk h H)
theorem aCJ(h:Heap)(H:Hp):(nB h H).objs.size=h.objs.size:=PySem.W.hideAll_size _ _
theorem aE2{h:Heap}{H:Hp}{b:Addr}{o:Obj}(e:h.get? b=some o)(n:H b=none):(nB h H).get? b=some o:=
 PySem.W.hideAll_get _ e fun hm=>by
  have q:(H b).isSome=true:=(List.mem_filter.mp hm).2
  rw[n] at q;simp at q
theorem aH7{h:Heap}{H:Hp}{b:Addr}{o:Obj}(e:(nB h H).get? b=some o):h.get? b=some o/\H b=none:=by
 have e':h.get? b=some o:=PySem.W.of_hideAll (trk h H) e
 refine ⟨e',?_⟩
 cases q:H b with
 | none=>rfl
 | some x=>
  have hm:b∈trk h H:=List.mem_filter.mpr ⟨List.mem_range.mpr (Heap.lt_size e'),by simp[q]⟩
  have z:(nB h H).get? b=none:=PySem.W.hideAll_none (trk h H) hm
  rw[z] at e;cases e
def aH8(g h:Heap)(L:Addr):List (Addr×Obj):=(List.range h.objs.size).filterMap fun a=>if a=L\/(g.get? a).isSome=true then none else (h.get? a).map fun o=>(a,o)
def rest(g h:Heap)(L d:Addr):List (Addr×Obj):=(aH8 g h L).filter fun p=>decide (p.1≠d)
end L2
namespace L2
open PySem PySem.Spec PyProof.Rows
structure Mod(K:Frag)(mg:Str->Option Value)(base:Heap):Prop where
 kin:K.In base
 glob:base.Ns mainGlobals mg
 blt:∃ mb,base.Ns builtinsNs mb/\∀ x:Str,x≠"__name__"->mb x=bootBuiltins x
 nolimit:base.NoLimit
structure Cx where
 prog:Program
 w:World
 K:Frag
 mg:Str->Option Value
 base:Heap
 A:Around
 N:List Str
 s₀:Shared
 H₀:Hp
 env:Env
 outer:List Env
 stack:List Env
 ex:List Addr
 fn:Str->Bool
 calm:Bool
 pn:List (Addr×Obj)
 xe:Value->Shared->Prop
noncomputable def frs(l:List Env):List Addr:=l.filterMap (·.frame)
abbrev Cx.fs(X:Cx):List Addr:=frs X.outer
def Vis(sc:Scope)(x:Str):Prop:=sc.names.lookup x=some .local\/sc.names.lookup x=some .cell\/sc.names.lookup x=some .free
def Loc(sc:Scope)(x:Str):Prop:=sc.names.lookup x=some .local\/sc.names.lookup x=some .cell
def aOX(env:Env)(h:Heap)(m:Str->Option Value)(x:Str)(u:Value):Prop:=
 (env.kindOf x=some .local/\m x=some u)\/((env.kindOf x=some .cell\/env.kindOf x=some .free)/\∃ c,env.cells.lookup x=some c/\h.IsCell c (some u))
structure Cx.Ok(X:Cx):Prop where
 mod:Mod X.K X.mg X.base
 kind:X.env.scope.kind=.function
 glob:X.env.globals=mainGlobals
 blt:X.env.builtins=builtinsNs
 above:X.s₀.heap.objs.size<=X.env.locals
 inj:∀ x y c,X.env.cells.lookup x=some c->X.env.cells.lookup y=some c->x=y
 has:∀ x,(X.env.kindOf x=some .cell\/X.env.kindOf x=some .free)->∃ c,X.env.cells.lookup x=some c
 cab:∀ x c,X.fn x=true->X.env.cells.lookup x=some c->X.s₀.heap.objs.size<=c
 hd:X.calm=true->X.A.handled=none
 frames:X.A.frames=some X.stack
 stk:X.stack=X.outer\/(X.stack=X.env::X.outer/\X.env.frame=some X.env.locals)
 exf:∀ b∈X.ex,b≠X.env.locals/\∀ x c,X.env.cells.lookup x=some c->c≠b
 bs:∀ b o,X.base.get? b=some o->X.s₀.heap.get? b=some o/\X.H₀ b=none
 bsz:X.base.objs.size<=X.s₀.heap.objs.size
 noex:∀ b o,X.base.get? b=some o->b∉X.ex
 exfs:∀ b∈X.ex,b∉X.fs
 funs:X.s₀.heap.FunFrames X.base X.outer
 frf:∀ b∈X.fs,X.H₀ b=none
structure Inv(X:Cx)(pins:List (Addr×Obj))(σ:List (Option V))(H:Hp)(s:Shared):Prop where
 ok:X.Ok
 os:s.os=X.s₀.os
 bare:AllBare s.gens
 base:Un X.fs X.ex X.H₀ H X.s₀.heap s.heap
 loc:∃ m,s.heap.Ns X.env.locals m/\∀ (i:Nat) (x:Str) (v:V),X.N[i]? = some x->σ[i]? = some (some v)->Vis X.env.scope x->∃ u,a9 v u/\aOX X.env s.heap m x u
 cell:∀ x c,X.env.cells.lookup x=some c->∃ v,s.heap.IsCell c v
 free:H X.env.locals=none
 freeC:∀ x c,X.env.cells.lookup x=some c->H c=none
 pin:∀ p∈X.pn++pins,s.heap.get? p.1=some p.2/\H p.1=none/\p.1≠X.env.locals/\p.1∉X.fs/\∀ v,p.2.data≠.cell v
 hok:HOk X.prog X.w H s.heap
 len:σ.length=X.N.length
section
variable{X:Cx}{pins:List (Addr×Obj)}{σ:List (Option V)}{H H':Hp}{s:Shared}{h':Heap}
theorem Cx.Ok.nofr(ok:X.Ok){b:Addr}{o:Obj}(e:X.base.get? b=some o):b∉X.fs:=fun hb=>by
 have:=(ok.funs.mem hb).1
 rw[e] at this;cases this
theorem Inv.bs(I:Inv X pins σ H s):∀ b o,X.base.get? b=some o->s.heap.get? b=some o/\H b=none:=fun b o e=>
 ⟨I.base.keep b o (I.ok.bs b o e).1 (I.ok.bs b o e).2 (I.ok.nofr e) (I.ok.noex b o e),I.base.free b o (I.ok.bs b o e).1 (I.ok.bs b o e).2 (I.ok.noex b o e)⟩
theorem Inv.bk(I:Inv X pins σ H s):∀ b o,X.base.get? b=some o->s.heap.get? b=some o:=fun b o e=>(I.bs b o e).1
theorem Inv.mod(I:Inv X pins σ H s):Mod X.K X.mg X.base:=I.ok.mod
theorem Inv.kIn(I:Inv X pins σ H s):X.K.In s.heap:=I.ok.mod.kin.keeps I.bk
theorem Inv.lt(I:Inv X pins σ H s):X.env.locals < s.heap.objs.size:=let ⟨_,hn,_⟩:=I.loc;hn.lt
theorem Inv.sz(I:Inv X pins σ H s):X.s₀.heap.objs.size<=s.heap.objs.size:=Nat.le_trans I.ok.above (Nat.le_of_lt I.lt)
theorem Inv.nofs(I:Inv X pins σ H s){a:Addr}(h:s.heap.objs.size<=a):a∉X.fs:=fun hb=>by
 obtain ⟨_,o,ho,_⟩:=I.ok.funs.mem hb
 exact absurd (Nat.lt_of_lt_of_le (Heap.lt_size ho) (Nat.le_trans I.sz h)) (Nat.lt_irrefl _)
theorem Inv.cne(I:Inv X pins σ H s):∀ x c,X.env.cells.lookup x=some c->c≠X.env.locals:=fun x c e z=>by
 obtain ⟨v,o,ho,hd⟩:=I.cell x c e
 obtain ⟨m,⟨o',es,ep,ho',hd',_⟩,_⟩:=I.loc
 rw[z,ho'] at ho;cases ho;rw[hd'] at hd;cases hd
theorem Inv.funs(I:Inv X pins σ H s):s.heap.FunFrames X.base X.outer:=by
 have all:∀ (l:List Env),(∀ b∈frs l,b∈X.fs)->X.s₀.heap.FunFrames X.base l->s.heap.FunFrames X.base l:=by
  intro l
  induction l with
  | nil=>intro _ _;trivial
  | cons env r ih=>
   intro hs hl
   obtain ⟨hk,⟨L,o,hf,hn,ho,hd⟩,hr⟩:=hl
   have hL:L∈X.fs:=hs L (by unfold frs;rw[List.filterMap_cons,hf];exact List.mem_cons_self)
   obtain ⟨sl,e⟩:=I.base.slot L o ho (I.ok.frf L hL) hL fun z=>I.ok.exfs L z hL
   exact ⟨hk,⟨L,_,hf,hn,e,hd⟩,ih (fun b hb=>hs b (by unfold frs;rw[List.filterMap_cons,hf];exact List.mem_cons_of_mem _ hb)) hr⟩
 exact all X.outer (fun _ hb=>hb) I.ok.funs
theorem Inv.stack(I:Inv X pins σ H s):s.heap.FunFrames X.base X.stack:=by
 rcases I.ok.stk with e|⟨e,hf⟩
 ·rw[e];exact I.funs
 ·rw[e]
  obtain ⟨m,hn,_⟩:=I.loc
  refine .cons (by rw[I.ok.kind];decide) hf hn ?_ I.funs
  exact Heap.get?_none_of_le (Nat.le_trans I.ok.bsz I.ok.above)
theorem Inv.stkSub(I:Inv X pins σ H s):∀ b∈frs X.stack,b∈X.env.locals::X.fs:=fun b hb=>by
 rcases I.ok.stk with e|⟨e,hf⟩
 ·rw[e] at hb;exact List.mem_cons_of_mem _ hb
 ·rw[e] at hb
  unfold frs at hb
  rw[List.filterMap_cons,hf] at hb
  exact hb
theorem Inv.stkFree(I:Inv X pins σ H s):∀ b∈frs X.stack,H b=none:=fun b hb=>by
 rcases List.mem_cons.mp (I.stkSub b hb) with e|hb
 ·rw[e];exact I.free
 ·obtain ⟨_,o,ho,_⟩:=I.ok.funs.mem hb
  exact I.base.free b o ho (I.ok.frf b hb) fun z=>I.ok.exfs b z hb
theorem Inv.step{g':Array GenState}{t':Nat}{d':Drawn}{ch:List Addr}(I:Inv X pins σ H s)
  (hch:∀ b∈ch,(b∈X.ex\/X.s₀.heap.objs.size<=b)/\b≠X.env.locals/\(∀ x c,X.env.cells.lookup x=some c->c≠b)/\∀ p∈X.pn++pins,p.1≠b)
  (keep:∀ b o,b≠X.env.locals->b∉X.fs->b∉ch->s.heap.get? b=some o->H b=none->h'.get? b=some o)
  (slot:∀ b o,b≠X.env.locals->b∈X.fs->b∉ch->s.heap.get? b=some o->H b=none->∃ sl,h'.get? b=some {o with slots:=sl}) (free:∀ b o,b∉ch->s.heap.get? b=some o->H b=none->H' b=none)
  (there:∀ b o,b∉ch->s.heap.get? b=some o->∃ o',h'.get? b=some o')
  (tups:∀ b xs,H b=some (.tup xs)->H' b=some (.tup xs)) (frzs:∀ b o u,H b=some (.frz o u)->H' b=some (.frz o u)) (tbls:∀ b ps,H b=some (.tbl ps)->H' b=some (.tbl ps))
  (ns:∀ m,s.heap.Ns X.env.locals m->h'.Ns X.env.locals m) (hok:HOk X.prog X.w H' h') (hg:AllBare g') :
  Inv X pins σ H' {s with heap:=h',gens:=g',drawn:=d',toks:=t'}:=by
 have neL:∀ b o,X.s₀.heap.get? b=some o->b≠X.env.locals:=fun b o e=>Nat.ne_of_lt (Nat.lt_of_lt_of_le (Heap.lt_size e) I.ok.above)
 have neC:∀ b o,X.s₀.heap.get? b=some o->b∉X.ex->b∉ch:=fun b o e hx hb=>by
  rcases (hch b hb).1 with z|z
  ·exact hx z
  ·exact absurd (Nat.lt_of_lt_of_le (Heap.lt_size e) z) (Nat.lt_irrefl _)
 have cellK:∀ x c,X.env.cells.lookup x=some c->∀ v,s.heap.IsCell c v->h'.IsCell c v:=fun x c e v zz0=>by
  obtain ⟨o,ho,hd⟩:=zz0
  have nch:c∉ch:=fun z=>(hch c z).2.2.1 x c e rfl
  by_cases hc:c∈X.fs
  ·obtain ⟨sl,q⟩:=slot c o (I.cne x c e) hc nch ho (I.freeC x c e)
   exact ⟨_,q,hd⟩
  ·exact ⟨o,keep c o (I.cne x c e) hc nch ho (I.freeC x c e),hd⟩
 refine ⟨I.ok,I.os,hg,⟨fun b o e n hb hx=>?_,fun b o e n hb hx=>?_,fun b o e n hx=>?_,fun b o e hx=>?_,fun b xs e=>tups b xs (I.base.tups b xs e),fun b o xs e=>frzs b o xs (I.base.frzs b o xs e),fun b ps e=>?_⟩,?_,fun x c e=>?_,?_,fun x c e=>?_,fun p hp=>?_,hok,I.len⟩
 ·exact keep b o (neL b o e) hb (neC b o e hx) (I.base.keep b o e n hb hx) (I.base.free b o e n hx)
 ·obtain ⟨sl,e1⟩:=I.base.slot b o e n hb hx
  obtain ⟨sl',e2⟩:=slot b _ (neL b o e) hb (neC b o e hx) e1 (I.base.free b o e n hx)
  exact ⟨sl',e2⟩
 ·obtain ⟨o',e1⟩:=I.base.there b o e hx
  exact free b o' (neC b o e hx) e1 (I.base.free b o e n hx)
 ·obtain ⟨o',e1⟩:=I.base.there b o e hx
  exact there b o' (neC b o e hx) e1
 ·exact tbls b ps (I.base.tbls b ps e)
 ·obtain ⟨m,hn,hl⟩:=I.loc
  refine ⟨m,ns m hn,fun i x v e1 e2 e3=>?_⟩
  obtain ⟨u,r,l⟩:=hl i x v e1 e2 e3
  refine ⟨u,r,?_⟩
  rcases l with l|⟨k,c,e,z⟩
  ·exact .inl l
  ·exact .inr ⟨k,c,e,cellK x c e _ z⟩
 ·obtain ⟨v,z⟩:=I.cell x c e
  exact ⟨v,cellK x c e v z⟩
 ·obtain ⟨m,⟨o,_,_,ho,_⟩,_⟩:=I.loc
  exact free _ o (fun z=>(hch _ z).2.1 rfl) ho I.free
 ·obtain ⟨v,o,ho,hd⟩:=I.cell x c e
  exact free c o (fun z=>(hch c z).2.2.1 x c e rfl) ho (I.freeC x c e)
 ·obtain ⟨e,n,ne,nf,d⟩:=I.pin p hp
  have nch:p.1∉ch:=fun z=>(hch p.1 z).2.2.2 p hp rfl
  exact ⟨keep p.1 p.2 ne nf nch e n,free p.1 p.2 nch e n,ne,nf,d⟩
theorem Inv.un{t':Nat}(I:Inv X pins σ H s)(u:Un X.fs [] H H' s.heap h')(hok:HOk X.prog X.w H' h'):Inv X pins σ H' {s with heap:=h',toks:=t'}:=by
 obtain ⟨m,⟨o,es,ep,ho,r⟩,_⟩:=id I.loc
 obtain ⟨sl,hL⟩:=u.any ho I.free (by simp)
 exact I.step (g':=s.gens) (d':=s.drawn) (ch:=[]) (fun _ z=>nomatch z) (fun b o _ hb _ e n=>u.keep b o e n hb (by simp)) (fun b o _ hb _ e n=>u.slot b o e n hb (by simp)) (fun b o _ e n=>u.free b o e n (by simp)) (fun b o _ e=>u.there b o e (by simp)) u.tups u.frzs u.tbls (fun m' hm=>by
  obtain ⟨o',es',ep',ho',r'⟩:=hm
  rw[ho] at ho';cases ho'
  exact ⟨_,es',ep',hL,r'⟩) hok I.bare
theorem Inv.call{g':Array GenState}{t':Nat}{d':Drawn}{ch:List Addr}(I:Inv X pins σ H s)(u:Un (frs X.stack) ch H H' s.heap h')(hok:HOk X.prog X.w H' h')(hg:AllBare g')
  (hch:∀ b∈ch,(b∈X.ex\/X.s₀.heap.objs.size<=b)/\b≠X.env.locals/\(∀ x c,X.env.cells.lookup x=some c->c≠b)/\∀ p∈X.pn++pins,p.1≠b) :
  Inv X pins σ H' {s with heap:=h',gens:=g',drawn:=d',toks:=t'}:=by
 obtain ⟨m,⟨o,es,ep,ho,r⟩,_⟩:=id I.loc
 obtain ⟨sl,hL⟩:=u.any ho I.free fun z=>(hch _ z).2.1 rfl
 exact I.step (ch:=ch) hch (fun b o hL hb hc e n=>u.keep b o e n (fun z=>(List.mem_cons.mp (I.stkSub b z)).elim hL hb) hc) (fun b o _ _ hc e n=>u.any e n hc) (fun b o hc e n=>u.free b o e n hc) (fun b o hc e=>u.there b o e hc) u.tups u.frzs u.tbls (fun m' hm=>by
  obtain ⟨o',es',ep',ho',r'⟩:=hm
  rw[ho] at ho';cases ho'
  exact ⟨_,es',ep',hL,r'⟩) hok hg
theorem Inv.turned{t':Nat}{it:Addr}(I:Inv X pins σ H s)(k:∀ b o,b≠it->s.heap.get? b=some o->h'.get? b=some o)(hn:H it=none)(hL:it≠X.env.locals)
  (h1:it∈X.ex\/X.s₀.heap.objs.size<=it) (h2:∀ x c,X.env.cells.lookup x=some c->c≠it) (h3:∀ p∈X.pn++pins,p.1≠it):Inv X pins σ H {s with heap:=h',toks:=t'}:=by
 have nit:∀ b u,H b=some u->b≠it:=fun b u e z=>by rw[z,hn] at e;cases e
 refine I.step (g':=s.gens) (d':=s.drawn) (ch:=[it]) (fun b hb=>?_) (fun b o _ _ hc e _=>k b o (fun z=>hc (by simp[z])) e) (fun b o _ _ hc e _=>⟨o.slots,k b o (fun z=>hc (by simp[z])) e⟩) (fun _ _ _ _ n=>n)
  (fun b o hc e=>⟨o,k b o (fun z=>hc (by simp[z])) e⟩) (fun _ _ e=>e) (fun _ _ _ e=>e) (fun _ _ e=>e) (fun m hm=>?_) (fun b u e=>?_) I.bare
 ·have e:b=it:=by simpa using hb
  subst e
  exact ⟨h1,hL,h2,h3⟩
 ·obtain ⟨o,es,ep,ho,r⟩:=hm
  exact ⟨o,es,ep,k _ o (Ne.symm hL) ho,r⟩
 ·refine (I.hok b u e).stay (fun c v hc q=>k c v ?_ q) (fun _ q=>q) (fun _ _ q=>q) fun _ _ q=>q
  rcases hc with z|z
  · rw [z]; exact nit b u e
  · exact nit c _ z
theorem Inv.tok(I:Inv X pins σ H s)(t:Nat):Inv X pins σ H {s with toks:=t}:=I.un (h':=s.heap) (t':=t) Un.refl I.hok
theorem Inv.kept{t':Nat}(I:Inv X pins σ H s)(k:∀ b u,s.heap.get? b=some u->h'.get? b=some u):Inv X pins σ H {s with heap:=h',toks:=t'}:=I.un (Un.kept k) (I.hok.kept k)
theorem Inv.laid{a:Addr}{o:HO}{t':Nat}(I:Inv X pins σ H s)(k:∀ b u,s.heap.get? b=some u->h'.get? b=some u)(hp:s.heap.objs.size<=a)(new:b5 X.prog X.w (upd H a o) h' a o) :
 Inv X pins σ (upd H a o) {s with heap:=h',toks:=t'}:=I.un (Un.laid k hp (I.hok.fresh hp)) (I.hok.laid k hp new)
theorem Inv.write{x e:Addr}{o:HO}{t':Nat}(I:Inv X pins σ H s)(mu:Mut (H x))(he:e=x\/H e=some (.own x))(k:∀ b u,b≠e->s.heap.get? b=some u->h'.get? b=some u)(heo:∃ u,h'.get? e=some u)
 (new:b5 X.prog X.w (upd H x o) h' x o):Inv X pins σ (upd H x o) {s with heap:=h',toks:=t'}:=I.un (Un.write mu he k heo) (I.hok.write mu he k heo new)
theorem Inv.pins_of{pins':List (Addr×Obj)}(I:Inv X pins σ H s)(h:∀ p∈pins',s.heap.get? p.1=some p.2/\H p.1=none/\p.1≠X.env.locals/\p.1∉X.fs/\∀ v,p.2.data≠.cell v):Inv X pins' σ H s:=
 ⟨I.ok,I.os,I.bare,I.base,I.loc,I.cell,I.free,I.freeC,fun p hp=>(List.mem_append.mp hp).elim (fun z=>I.pin p (List.mem_append_left _ z)) (h p),I.hok,I.len⟩
theorem wG{N:List Str}(hN:N.Nodup){i j:Nat}{x:Str}(a:N[i]? = some x)(b:N[j]? = some x):i=j:=by
 obtain ⟨h1,e1⟩:=List.getElem?_eq_some_iff.mp a
 obtain ⟨h2,e2⟩:=List.getElem?_eq_some_iff.mp b
 exact (List.getElem_inj hN).mp (e1.trans e2.symm)
theorem uT{M:Model}{A:Around}{E:Value->Shared->Prop}{i:Nat}{x:Str}{v:V}{u:Value}{Q:Unit->Shared->Prop}(I:Inv X pins σ H s)(hN:X.N.Nodup)(hi:X.N[i]? = some x)(hx:Loc X.env.scope x)(r:a9 v u)
  (h:∀ s',Inv X pins (σ.set i (some v)) H s'->(∃ a,Heap.SameBut a s.heap s'.heap/\(a=X.env.locals\/X.env.cells.lookup x=some a))->Q () s') (hf:X.fn x=true\/X.env.scope.names.lookup x=some .local):wpAny M A (storeName X.env x u) Q E s:=by
 obtain ⟨m,hn,hl⟩:=id I.loc
 have hcls:(X.env.scope.kind == .class || (X.env.scope.kind == .module && X.env.locals != X.env.globals))=false:=by rw[I.ok.kind];rfl
 have hiσ:i < σ.length:=by rw[I.len];exact (List.getElem?_eq_some_iff.mp hi).1
 have cne:=I.cne
 have tracked:∀ {a:Addr} {h':Heap},(∃ o,s.heap.get? a=some o/\H a=none)->Heap.SameBut a s.heap h'->HOk X.prog X.w H h':=fun {a h'} ha hs b ob e=>by
  obtain ⟨_,_,hfree⟩:=ha
  refine (I.hok b ob e).stay (fun c w' hc q=>(hs.2 c ?_).trans q) (fun _ q=>q) (fun _ _ q=>q) fun _ _ q=>q
  rintro rfl
  rcases hc with rfl|hc
  ·rw[hfree] at e;cases e
  ·rw[hfree] at hc;cases hc
 rcases hx with hk|hk
 ·refine wpAny_storeName_local hk hn (fun h' hn' hs=>?_) hcls
  obtain ⟨oL,_,_,hoL,_⟩:=id hn
  refine h _ ⟨I.ok,I.os,I.bare,⟨fun b o e n hb hx=>?_,fun b o e n hb hx=>?_,I.base.free,fun b o e hx=>?_,I.base.tups,I.base.frzs,I.base.tbls⟩,⟨_,hn',fun j y v' e1 e2 e3=>?_⟩,fun y c e=>?_,I.free,I.freeC,fun p hp=>?_,tracked ⟨oL,hoL,I.free⟩ hs,by simpa using I.len⟩ ⟨_,hs,.inl rfl⟩
  ·exact (hs.2 b (Nat.ne_of_lt (Nat.lt_of_lt_of_le (Heap.lt_size e) I.ok.above))).trans (I.base.keep b o e n hb hx)
  ·obtain ⟨sl,e1⟩:=I.base.slot b o e n hb hx
   exact ⟨sl,(hs.2 b (Nat.ne_of_lt (Nat.lt_of_lt_of_le (Heap.lt_size e) I.ok.above))).trans e1⟩
  ·obtain ⟨o',e1⟩:=I.base.there b o e hx
   exact ⟨o',(hs.2 b (Nat.ne_of_lt (Nat.lt_of_lt_of_le (Heap.lt_size e) I.ok.above))).trans e1⟩
  ·by_cases hj:j=i
   ·subst hj
    rw[hi] at e1;cases e1
    rw[List.getElem?_set_self hiσ] at e2
    cases e2
    exact ⟨u,r,.inl ⟨hk,by simp⟩⟩
   ·rw[List.getElem?_set_ne (Ne.symm hj)] at e2
    obtain ⟨u',r',q⟩:=hl j y v' e1 e2 e3
    refine ⟨u',r',?_⟩
    rcases q with ⟨k,e⟩|⟨k,c,e,z⟩
    ·refine .inl ⟨k,?_⟩
     have:y≠x:=fun e=>hj (wG hN e1 (e▸hi))
     simp[this,e]
    ·exact .inr ⟨k,c,e,z.sameBut hs (cne y c e)⟩
  ·obtain ⟨w',z⟩:=I.cell y c e
   exact ⟨w',z.sameBut hs (cne y c e)⟩
  ·obtain ⟨e,n,ne,nf,d⟩:=I.pin p hp
   exact ⟨(hs.2 p.1 ne).trans e,n,ne,nf,d⟩
 ·have hfn:X.fn x=true:=by
   rcases hf with z|z
   ·exact z
   ·rw[z] at hk;cases hk
  obtain ⟨c,hc⟩:=I.ok.has x (.inl hk)
  obtain ⟨w',z⟩:=I.cell x c hc
  refine wpAny_storeName_cell I.ok.kind hk hc z (fun h' hc' hs=>?_)
  obtain ⟨oc,hoc,hocd⟩:=id z
  refine h {s with heap:=h'} ⟨I.ok,I.os,I.bare,⟨fun b o e n hb hx=>?_,fun b o e n hb hx=>?_,I.base.free,fun b o e hx=>?_,I.base.tups,I.base.frzs,I.base.tbls⟩,⟨m,hn.sameBut hs (Ne.symm (cne x c hc)),fun j y v' e1 e2 e3=>?_⟩,fun y c' e=>?_,I.free,I.freeC,fun p hp=>?_,tracked ⟨oc,hoc,I.freeC x c hc⟩ hs,by simpa using I.len⟩ ⟨c,hs,.inr hc⟩
  ·exact (hs.2 b (Nat.ne_of_lt (Nat.lt_of_lt_of_le (Heap.lt_size e) (I.ok.cab x c hfn hc)))).trans (I.base.keep b o e n hb hx)
  ·obtain ⟨sl,e1⟩:=I.base.slot b o e n hb hx
   exact ⟨sl,(hs.2 b (Nat.ne_of_lt (Nat.lt_of_lt_of_le (Heap.lt_size e) (I.ok.cab x c hfn hc)))).trans e1⟩
  ·obtain ⟨o',e1⟩:=I.base.there b o e hx
   exact ⟨o',(hs.2 b (Nat.ne_of_lt (Nat.lt_of_lt_of_le (Heap.lt_size e) (I.ok.cab x c hfn hc)))).trans e1⟩
  ·by_cases hj:j=i
   ·subst hj
    rw[hi] at e1;cases e1
    rw[List.getElem?_set_self hiσ] at e2
    cases e2
    exact ⟨u,r,.inr ⟨.inl hk,c,hc,hc'⟩⟩
   ·rw[List.getElem?_set_ne (Ne.symm hj)] at e2
    obtain ⟨u',r',q⟩:=hl j y v' e1 e2 e3
    refine ⟨u',r',?_⟩
    rcases q with q|⟨k,c',e,z'⟩
    ·exact .inl q
    ·refine .inr ⟨k,c',e,z'.sameBut hs ?_⟩
     rintro rfl
     exact hj (wG hN e1 (I.ok.inj _ _ _ e hc▸hi))
  ·by_cases hcc:c'=c
   ·subst hcc;exact ⟨_,hc'⟩
   ·obtain ⟨w2,z2⟩:=I.cell y c' e
    exact ⟨w2,z2.sameBut hs hcc⟩
  ·obtain ⟨e,n,ne,nf,d⟩:=I.pin p hp
   refine ⟨(hs.2 p.1 ?_).trans e,n,ne,nf,d⟩
   intro q
   rw[q,hoc] at e
   have q':oc=p.2:=Option.some.inj e
   exact d w' (by rw[<-q'];exact hocd)
theorem nC{M:Model}{A:Around}{E:Value->Shared->Prop}{i:Nat}{x:Str}{v:V}{u:Value}{Q:Unit->Shared->Prop}(I:Inv X pins σ H s)(hN:X.N.Nodup)(hi:X.N[i]? = some x)(hx:Loc X.env.scope x)(r:a9 v u)
  (h:∀ s',Inv X pins (σ.set i (some v)) H s'->Q () s') (hf:X.fn x=true\/X.env.scope.names.lookup x=some .local):wpAny M A (storeName X.env x u) Q E s:=
 uT I hN hi hx r (fun s' I' _=>h s' I') hf
theorem Inv.call'{s':Shared}{ch:List Addr}(I:Inv X pins σ H s)(ho:s'.os=s.os)(u:Un (frs X.stack) ch H H' s.heap s'.heap)(hok:HOk X.prog X.w H' s'.heap)(hg:AllBare s'.gens)
  (hch:∀ b∈ch,(b∈X.ex\/X.s₀.heap.objs.size<=b)/\b≠X.env.locals/\(∀ x c,X.env.cells.lookup x=some c->c≠b)/\∀ p∈X.pn++pins,p.1≠b):Inv X pins σ H' s':=by
 obtain ⟨h',g',d',t',o'⟩:=s'
 have e:o'=s.os:=ho
 subst e
 exact I.call (g':=g') (t':=t') (d':=d') u hok hg hch
end
abbrev XK:=Value->Option Addr->Hp->Prop
abbrev St:=List (Option V)
abbrev VK:=V->Hp->Prop
abbrev TE:=St->Hp->VK->Prop
abbrev TT:=St->Hp->(Bool->Hp->Prop)->Prop
abbrev TA:=St->Hp->(List V->Hp->Prop)->Prop
structure jD where
 nx:St->Hp->Prop
 rt:VK
 bk:St->Hp->Prop:=fun _ _=>False
 ct:St->Hp->Prop:=fun _ _=>False
abbrev TS:=jD->St->Hp->Prop
def EP(X:Cx)(pins:List (Addr×Obj))(σ:St)(Q:VK)(u:Value)(s':Shared):Prop:=∃ v H',Inv X pins σ H' s'/\a9 v u/\Q v H'
def TP(X:Cx)(pins:List (Addr×Obj))(σ:St)(Q:Bool->Hp->Prop)(b:Bool)(s':Shared):Prop:=∃ H',Inv X pins σ H' s'/\Q b H'
def AP(X:Cx)(pins:List (Addr×Obj))(σ:St)(Q:List V->Hp->Prop)(us:List Value)(s':Shared):Prop:=∃ vs H',Inv X pins σ H' s'/\bA vs us/\Q vs H'
def SP(X:Cx)(pins:List (Addr×Obj))(D:jD)(f:Flow)(s':Shared):Prop:=
 match f with
 | .next=>∃ σ' H',Inv X pins σ' H' s'/\D.nx σ' H'
 | .brk=>∃ σ' H',Inv X pins σ' H' s'/\D.bk σ' H'
 | .cont=>∃ σ' H',Inv X pins σ' H' s'/\D.ct σ' H'
 | .ret u=>∃ v σ' H',Inv X pins σ' H' s'/\a9 v u/\D.rt v H'
def PE(X:Cx)(e:Expr)(t:TE):Prop:=
 ∀ (pins:List (Addr×Obj)) (s:Shared) (σ:St) (H:Hp) (Q:VK),Inv X pins σ H s->t σ H Q->wpAny (model X.prog X.w) X.A (eval e X.env) (EP X pins σ Q) X.xe s
def PT(X:Cx)(e:Expr)(t:TT):Prop:=
 ∀ (pins:List (Addr×Obj)) (s:Shared) (σ:St) (H:Hp) (Q:Bool->Hp->Prop),Inv X pins σ H s->t σ H Q->wpAny (model X.prog X.w) X.A (isTrue e X.env (eval e X.env)) (TP X pins σ Q) X.xe s
def PW(X:Cx)(e:Expr)(t:TT):Prop:=
 ∀ (whole:Sem Value) (pins:List (Addr×Obj)) (s:Shared) (σ:St) (H:Hp) (Q:Bool->Hp->Prop),Inv X pins σ H s->t σ H Q->wpAny (model X.prog X.w) X.A (isTrue e X.env whole) (TP X pins σ Q) X.xe s
theorem PW.pt{X:Cx}{e:Expr}{t:TT}(h:PW X e t):PT X e t:=h _
def PA(X:Cx)(es:List Expr)(t:TA):Prop:=
 ∀ (pos:Pos) (pins:List (Addr×Obj)) (s:Shared) (σ:St) (H:Hp) (Q:List V->Hp->Prop),Inv X pins σ H s->t σ H Q->wpAny (model X.prog X.w) X.A (spliced (backTo pos (starEach es X.env))) (AP X pins σ Q) X.xe s
def PS(X:Cx)(st:Stmt)(t:TS):Prop:=
 ∀ (pins:List (Addr×Obj)) (s:Shared) (σ:St) (H:Hp) (D:jD),Inv X pins σ H s->t D σ H->wpAny (model X.prog X.w) X.A (exec st X.env) (SP X pins D) X.xe s
def PSs(X:Cx)(st:List Stmt)(t:TS):Prop:=
 ∀ (pins:List (Addr×Obj)) (s:Shared) (σ:St) (H:Hp) (D:jD),Inv X pins σ H s->t D σ H->wpAny (model X.prog X.w) X.A (execs st X.env) (SP X pins D) X.xe s
theorem thn{α:Type}{t:Sem α}{Q Q':α->Shared->Prop}{M:Model}{A:Around}{E:Value->Shared->Prop}{s:Shared}(h:wpAny M A t Q E s)(hQ:∀ a s,Q a s->Q' a s):wpAny M A t Q' E s:=wpAny_mono h hQ fun _ _ x=>x
end L2
namespace L2
open PySem PySem.Spec PyProof.Rows
section
variable{X:Cx}
def jI(i:Nat):TE:=fun σ H Q=>∃ v,σ[i]? = some (some v)/\Q v H
def tC(v:V):TE:=fun _ H Q=>Q v H
theorem aKT{i:Nat}{x:Str}{pos:Pos}(hN:X.N[i]? = some x)(hv:Vis X.env.scope x)(hd:(x == ("__debug__":Str))=false:=by decide)(hcd:(x == ("__classdict__":Str))=false:=by decide):PE X (.Name x pos) (jI i):=by
 intro pins s σ H Q I h
 obtain ⟨v,e,h⟩:=h
 obtain ⟨m,hn,hl⟩:=I.loc
 obtain ⟨u,r,l⟩:=hl i x v hN e hv
 have fin:EP X pins σ Q u s:=⟨v,H,I,r,h⟩
 rcases l with ⟨hk,hm⟩|⟨hk,c,hc,hcell⟩
 ·exact wpAny_Name (wpAny_loadName_local I.ok.kind hk hn hm fin) hd
 ·rcases hk with hk|hk
  · exact wpAny_Name (wpAny_loadName_cell I.ok.kind hk hc hcell fin) hd
  · exact wpAny_Name (wpAny_loadName_free I.ok.kind hk hc hcell fin hcd) hd
theorem aCK{i j pos}:PE X (.Constant (.int i) j pos) (tC (.int i)):=fun _ _ _ H _ I h=>wpAny_Constant_int ⟨.int i,H,I.tok _,⟨_,rfl⟩,h⟩
theorem aNN{b j pos}:PE X (.Constant (.bool b) j pos) (tC (.bl b)):=fun _ _ _ H _ I h=>Constant_bool ⟨.bl b,H,I,rfl,h⟩
theorem aKU{j pos}:PE X (.Constant .none j pos) (tC .non):=fun _ _ _ H _ I h=>Constant_none ⟨.non,H,I,rfl,h⟩
theorem wH{x j pos}:PE X (.Constant (.str x) j pos) (tC (.str x)):=fun _ _ _ H _ I h=>Calls.Constant_str ⟨.str x,H,I.tok _,⟨_,rfl⟩,h⟩
def Gl(X:Cx)(x:Str):Prop:=X.env.kindOf x=some .globalImplicit
theorem mH{E:Value->Shared->Prop}{pins:List (Addr×Obj)}{s:Shared}{σ:St}{H:Hp}{x:Str}{u:Value}{pos:Pos}{Q:Value->Shared->Prop}(I:Inv X pins σ H s)(hg:Gl X x)(hm:X.mg x=some u)(h:Q u s)
  (hd:(x == ("__debug__":Str))=false:=by decide):wpAny (model X.prog X.w) X.A (eval (.Name x pos) X.env) Q E s:=
 Calls.Name_function_global I.ok.kind hg (Calls.loadGlobal_global (by rw[I.ok.glob];exact I.mod.glob.keeps I.bk) hm h) hd
theorem kW{E:Value->Shared->Prop}{pins:List (Addr×Obj)}{s:Shared}{σ:St}{H:Hp}{x:Str}{u:Value}{pos:Pos}{Q:Value->Shared->Prop}(I:Inv X pins σ H s)(hg:Gl X x)(hm:X.mg x=none)(hv:bootBuiltins x=some u)(h:Q u s)
  (hn:x≠"__name__":=by decide) (hd:(x == ("__debug__":Str))=false:=by decide):wpAny (model X.prog X.w) X.A (eval (.Name x pos) X.env) Q E s:=by
 obtain ⟨mb,h1,h2⟩:=I.mod.blt
 exact Calls.Name_function_global I.ok.kind hg (Calls.loadGlobal_builtin (by rw[I.ok.glob];exact I.mod.glob.keeps I.bk) hm (by rw[I.ok.blt];exact h1.keeps I.bk) ((h2 x hn).trans hv) h) hd
theorem kO{x:Str}{v:V}{u:Value}{pos:Pos}(hg:Gl X x)(hm:X.mg x=some u)(r:a9 v u)(hd:(x == ("__debug__":Str))=false:=by decide):PE X (.Name x pos) (tC v):=
 fun _ _ _ H _ I h=>mH I hg hm ⟨v,H,I,r,h⟩ hd
theorem mI{x:Str}{v:V}{u:Value}{pos:Pos}(hg:Gl X x)(hm:X.mg x=none)(hv:bootBuiltins x=some u)(r:a9 v u)(hn:x≠"__name__":=by decide)(hd:(x == ("__debug__":Str))=false:=by decide):PE X (.Name x pos) (tC v):=
 fun _ _ _ H _ I h=>kW I hg hm hv ⟨v,H,I,r,h⟩ hn hd
variable{a b:Expr}{ta tb:TE}{pos:Pos}
def PC(X:Cx)(op:CmpOp)(a b:Expr)(t:TE):Prop:=
 ∀ (pins:List (Addr×Obj)) (s:Shared) (σ:St) (H:Hp) (Q:VK),Inv X pins σ H s->t σ H Q->
  wpAny (model X.prog X.w) X.A (eval a X.env) (fun v s₁=>wpAny (model X.prog X.w) X.A (eval b X.env) (fun u s₂=>wpAny (model X.prog X.w) X.A (compareOp op v u) (EP X pins σ Q) X.xe s₂) X.xe s₁) X.xe s
theorem aE3(b:Expr){op:CmpOp}(h:op≠.In)(h2:op≠.NotIn):behindInMarks op b=false:=by
 have e1:(op == CmpOp.In)=false:=by cases op<;>first|rfl|exact absurd rfl h
 have e2:(op == CmpOp.NotIn)=false:=by cases op<;>first|rfl|exact absurd rfl h2
 cases b<;>simp[behindInMarks,e1,e2]
def tB(t:TE):TT:=fun σ H Q=>t σ H fun x H1=>∃ c,x=.bl c/\Q c H1
theorem dF{op:CmpOp}{t:TE}(h:PC X op a b t)(h1:behindInMarks op b=false:=by first|exact aE3 _ (by decide) (by decide)|rfl):PT X (.Compare a [op] [b] pos) (tB t):=by
 intro pins s σ H Q I hw
 refine wpAny_isTrue_Compare1 (thn (h pins s σ H _ I hw) fun v s1 h1=>thn h1 fun u s2 h2=>thn h2 fun c s3 zz0=>?_) h1
 obtain ⟨x,H1,I1,r1,q1⟩:=zz0
 obtain ⟨d,rfl,q⟩:=q1
 cases r1
 exact wpAny_truthy_bool ⟨H1,I1,q⟩
theorem kX{e:Expr}{t:TE}(h:PE X e t)(he:∀ whole,isTrue e X.env whole=(do let v <-whole;standAt e.pos;holding [v] (truthy v)):=by intro _;rfl):PT X e (tB t):=by
 intro pins s σ H Q I hw
 refine isTrue_plain (thn (h pins s σ H _ I hw) fun v s1 zz0=>?_) (he _)
 obtain ⟨x,H1,I1,r1,q1⟩:=zz0
 obtain ⟨d,rfl,q⟩:=q1
 cases r1
 exact wpAny_truthy_bool ⟨H1,I1,q⟩
variable{tA tB':TT}{rest:List Expr}
def aKV(t u:TT):TT:=fun σ H Q=>t σ H fun c H1=>if c=true then u σ H1 Q else Q false H1
def tOr(t u:TT):TT:=fun σ H Q=>t σ H fun c H1=>if c=true then Q true H1 else u σ H1 Q
def aOY(t:TT):TT:=fun σ H Q=>t σ H fun c H1=>Q (!c) H1
theorem mJ(ha:PT X a tA):PW X (.BoolOp .And [a] pos) tA:=by
 intro wh pins s σ H Q I h
 refine isTrue_and (thn (ha pins s σ H Q I h) fun c s1 e=>?_)
 cases c with
 | true=>exact isTrue_and_nil e
 | false=>exact e
theorem oM(ha:PT X a tA):PW X (.BoolOp .Or [a] pos) tA:=by
 intro wh pins s σ H Q I h
 refine isTrue_or (thn (ha pins s σ H Q I h) fun c s1 e=>?_)
 cases c with
 | false=>exact isTrue_or_nil e
 | true=>exact e
theorem mK(ha:PT X a tA)(hb:PW X (.BoolOp .And (b::rest) pos) tB'):PW X (.BoolOp .And (a::b::rest) pos) (aKV tA tB'):=by
 intro wh pins s σ H Q I h
 refine isTrue_and (thn (ha pins s σ H _ I h) fun c s1 zz0=>?_)
 obtain ⟨H1,I1,q1⟩:=zz0
 cases c with
 | true=>exact hb wh pins s1 σ H1 Q I1 q1
 | false=>exact ⟨H1,I1,q1⟩
theorem r6(ha:PT X a tA)(hb:PW X (.BoolOp .Or (b::rest) pos) tB'):PW X (.BoolOp .Or (a::b::rest) pos) (tOr tA tB'):=by
 intro wh pins s σ H Q I h
 refine isTrue_or (thn (ha pins s σ H _ I h) fun c s1 zz0=>?_)
 obtain ⟨H1,I1,q1⟩:=zz0
 cases c with
 | true=>exact ⟨H1,I1,q1⟩
 | false=>exact hb wh pins s1 σ H1 Q I1 q1
theorem mL(ha:PT X a tA):PT X (.UnaryOp .Not a pos) (aOY tA):=by
 intro pins s σ H Q I h
 exact isTrue_not (ha pins s σ H (fun c H1=>Q (!c) H1) I h)
def aNO(ta tb:TE):TE:=fun σ H Q=>ta σ H fun x H1=>∃ c,x=.bl c/\if c=true then tb σ H1 Q else Q (.bl false) H1
def aNP(ta:TE):TE:=fun σ H Q=>ta σ H fun x H1=>∃ c,x=.bl c/\Q (.bl (!c)) H1
theorem aKW{op}{t:TE}(h:PE X a t):PE X (.BoolOp op [a] pos) t:=fun pins s σ H Q I hw=>BoolOp_one (h pins s σ H Q I hw)
theorem aKX(ha:PE X a ta)(hb:PE X (.BoolOp .And (b::rest) pos) tb):PE X (.BoolOp .And (a::b::rest) pos) (aNO ta tb):=by
 intro pins s σ H Q I h
 refine BoolOp_and (thn (ha pins s σ H _ I h) fun v s1 zz0=>?_)
 obtain ⟨x,H1,I1,r1,q1⟩:=zz0
 obtain ⟨c,rfl,q1⟩:=q1
 cases r1
 refine wpAny_truthy_bool ?_
 cases c with
 | true=>exact hb pins s1 σ H1 Q I1 q1
 | false=>exact ⟨.bl false,H1,I1,rfl,q1⟩
theorem aKY(ha:PE X a ta):PE X (.UnaryOp .Not a pos) (aNP ta):=by
 intro pins s σ H Q I h
 refine UnaryOp_ (thn (ha pins s σ H _ I h) fun v s1 zz0=>?_)
 obtain ⟨x,H1,I1,r1,q1⟩:=zz0
 obtain ⟨c,rfl,q1⟩:=q1
 cases r1
 exact not_of (wpAny_truthy_bool ⟨.bl (!c),H1,I1,rfl,q1⟩)
def tIf(t:TT)(ta tb:TE):TE:=fun σ H Q=>t σ H fun c H1=>if c=true then ta σ H1 Q else tb σ H1 Q
theorem aE4{c:Expr}(hc:PT X c tA)(ha:PE X a ta)(hb:PE X b tb):PE X (.IfExp c a b pos) (tIf tA ta tb):=by
 intro pins s σ H Q I h
 refine wpAny_IfExp (thn (hc pins s σ H _ I h) fun d s1 zz0=>?_)
 obtain ⟨H1,I1,q1⟩:=zz0
 cases d with
 | true=>exact ha pins s1 σ H1 Q I1 q1
 | false=>exact hb pins s1 σ H1 Q I1 q1
end
end L2
namespace L2
open PySem PySem.Spec PyProof.Rows
def SqL(K:Frag)(H:Hp)(a:Addr)(xs:List V):Prop:=
 Rd H a (.lst xs) \/
  ∃ (o:Obj) (its:Array Value) (n:Nat),K.lookup a=some o/\o.cls=.type "list"/\o.dict=none/\o.data=.seq its n/\its.size<=sizeLine/\bA xs its.toList
def SqT(K:Frag)(H:Hp)(a:Addr)(xs:List V):Prop:=
 Rd H a (.tup xs) \/
  ∃ (o:Obj) (its:Array Value) (n:Nat),K.lookup a=some o/\(o.cls=.type "tuple"/\o.dict=none)/\o.data=.seq its n/\its.size<=sizeLine/\bA xs its.toList
noncomputable def aOZ:Value->Option V
 | .none=>some .non
 | .bool b=>some (.bl b)
 | .int i _=>some (.int i)
 | .str x _=>some (.str x)
 | .bytes b _=>some (.byt b)
 | .float b _=>some (.flt b)
 | .ref a=>some (.ref a)
 | .type n=>some (.ty n)
 | _=>none
theorem a9.abs{x:V}{u:Value}(r:a9 x u):aOZ u=some x:=by
 cases x with
 | non=>cases r;rfl
 | bl _=>cases r;rfl
 | int _=>obtain ⟨t,rfl⟩:=r;rfl
 | str _=>obtain ⟨t,rfl⟩:=r;rfl
 | byt _=>obtain ⟨t,rfl⟩:=r;rfl
 | flt _=>obtain ⟨t,rfl⟩:=r;rfl
 | ref _=>cases r;rfl
 | ty _=>cases r;rfl
theorem a9.inj{x y:V}{u:Value}(r:a9 x u)(q:a9 y u):x=y:=Option.some.inj (r.abs.symm.trans q.abs)
theorem bA.inj:∀ {xs ys:List V} {us:List Value},bA xs us->bA ys us->xs=ys
 | _,_,_,.nil,.nil=>rfl
 | _,_,_,.cons r t,.cons r' t'=>by rw[r.inj r',bA.inj t t']
section
variable{X:Cx}{pins:List (Addr×Obj)}{σ:St}{H:Hp}{s:Shared}{a:Addr}{xs ys:List V}
theorem SqL.of{K:Frag}(h:H a=some (.lst xs)):SqL K H a xs:=.inl (.inl h)
theorem SqT.of{K:Frag}(h:H a=some (.tup xs)):SqT K H a xs:=.inl (.inl h)
theorem Inv.list(I:Inv X pins σ H s)(h:SqL X.K H a xs):∃ its:List Value,bA xs its/\PlainL s.heap a its.toArray/\xs.length<=sizeLine:=by
 rcases h with h|⟨o,its,n,hk,hc,hd,hs,hz,r⟩
 ·obtain ⟨z,its,n,r,e⟩:=h.ok I.hok
  exact ⟨its,r,⟨_,n,e,rfl,rfl,rfl⟩,z⟩
 ·refine ⟨its.toList,r,⟨o,n,I.kIn a o hk,hc,hd,by simpa using hs⟩,?_⟩
  have e:=r.length
  simp only[Array.length_toList] at e
  omega
theorem Inv.tuple(I:Inv X pins σ H s)(h:SqT X.K H a xs):∃ its:List Value,bA xs its/\IsTup s.heap a its.toArray/\xs.length<=sizeLine:=by
 rcases h with h|⟨o,its,n,hk,hc,hs,hz,r⟩
 ·obtain ⟨z,its,r,p⟩:=h.ok I.hok
  exact ⟨its,r,p.t,z⟩
 ·refine ⟨its.toList,r,⟨o,I.kIn a o hk,hc.1,n,by simpa using hs⟩,?_⟩
  have e:=r.length
  simp only[Array.length_toList] at e
  omega
theorem Inv.list_inj(I:Inv X pins σ H s)(h:SqL X.K H a xs)(h':SqL X.K H a ys):xs=ys:=by
 obtain ⟨its,r,⟨o,n,e,_,_,d⟩,_⟩:=I.list h
 obtain ⟨its',r',⟨o',n',e',_,_,d'⟩,_⟩:=I.list h'
 rw[e] at e';cases e'
 rw[d] at d'
 injection d' with d1 _
 have:its=its':=by simpa using congrArg Array.toList d1
 subst this
 exact r.inj r'
theorem Inv.tuple_inj(I:Inv X pins σ H s)(h:SqT X.K H a xs)(h':SqT X.K H a ys):xs=ys:=by
 obtain ⟨its,r,⟨o,e,_,n,d⟩,_⟩:=I.tuple h
 obtain ⟨its',r',⟨o',e',_,n',d'⟩,_⟩:=I.tuple h'
 rw[e] at e';cases e'
 rw[d] at d'
 injection d' with d1 _
 have:its=its':=by simpa using congrArg Array.toList d1
 subst this
 exact r.inj r'
end
abbrev Cx.wish(X:Cx)(E:Value->Shared->Prop):Cx:={X with xe:=E}
abbrev Cx.nox(X:Cx):Cx:=X.wish fun _ _=>False
theorem Cx.Ok.wish{X:Cx}(ok:X.Ok)(E:Value->Shared->Prop):(X.wish E).Ok:=
 ⟨ok.mod,ok.kind,ok.glob,ok.blt,ok.above,ok.inj,ok.has,ok.cab,ok.hd,ok.frames,ok.stk,ok.exf,ok.bs,ok.bsz,ok.noex,ok.exfs,ok.funs,ok.frf⟩
theorem Cx.Ok.unwish{X:Cx}{E:Value->Shared->Prop}(ok:(X.wish E).Ok):X.Ok:=
 ⟨ok.mod,ok.kind,ok.glob,ok.blt,ok.above,ok.inj,ok.has,ok.cab,ok.hd,ok.frames,ok.stk,ok.exf,ok.bs,ok.bsz,ok.noex,ok.exfs,ok.funs,ok.frf⟩
section
variable{X:Cx}{pins:List (Addr×Obj)}{σ:St}{H:Hp}{s:Shared}{E:Value->Shared->Prop}
theorem Inv.wish(I:Inv X pins σ H s)(E:Value->Shared->Prop):Inv (X.wish E) pins σ H s:=⟨I.ok.wish E,I.os,I.bare,I.base,I.loc,I.cell,I.free,I.freeC,I.pin,I.hok,I.len⟩
theorem Inv.unwish(I:Inv (X.wish E) pins σ H s):Inv X pins σ H s:=⟨I.ok.unwish,I.os,I.bare,I.base,I.loc,I.cell,I.free,I.freeC,I.pin,I.hok,I.len⟩
theorem SP.unwish{D:jD}{f:Flow}{s':Shared}(h:SP (X.wish E) pins D f s'):SP X pins D f s':=by
 cases f with
 | next=>obtain ⟨σ',H',I,q⟩:=h;exact ⟨σ',H',I.unwish,q⟩
 | brk=>obtain ⟨σ',H',I,q⟩:=h;exact ⟨σ',H',I.unwish,q⟩
 | cont=>obtain ⟨σ',H',I,q⟩:=h;exact ⟨σ',H',I.unwish,q⟩
 | ret u=>obtain ⟨v,σ',H',I,r,q⟩:=h;exact ⟨v,σ',H',I.unwish,r,q⟩
theorem PE.nox{e:Expr}{t:TE}(h:PE X.nox e t):PE X e t:=fun pins s σ H Q I hw=>
 wpAny_mono (h pins s σ H Q (I.wish _) hw) (fun _ _ ⟨v,H',I',r,q⟩=>⟨v,H',I'.unwish,r,q⟩) fun _ _ z=>False.elim z
theorem PT.nox{e:Expr}{t:TT}(h:PT X.nox e t):PT X e t:=fun pins s σ H Q I hw=>
 wpAny_mono (h pins s σ H Q (I.wish _) hw) (fun _ _ ⟨H',I',q⟩=>⟨H',I'.unwish,q⟩) fun _ _ z=>False.elim z
theorem PSs.nox{st:List Stmt}{t:TS}(h:PSs X.nox st t):PSs X st t:=fun pins s σ H D I hw=>
 wpAny_mono (h pins s σ H D (I.wish _) hw) (fun _ _ q=>q.unwish) fun _ _ z=>False.elim z
end
section
variable{X:Cx}{st:Stmt}{rest:List Stmt}{t u:TS}{e:Expr}{te:TE}{pos:Pos}
def aNQ:TS:=fun D σ H=>D.nx σ H
def aO0(t u:TS):TS:=fun D σ H=>t {D with nx:=u D} σ H
theorem dG:PSs X [] aNQ:=fun _ _ σ H _ I h=>wpAny_execs_nil ⟨σ,H,I,h⟩
theorem aJ(h1:PS X st t)(h2:PSs X rest u):PSs X (st::rest) (aO0 t u):=by
 intro pins s σ H D I h
 refine wpAny_execs_cons (thn (h1 pins s σ H {D with nx:=u D} I h) fun f s1 q=>?_)
 cases f with
 | next=>
  obtain ⟨σ',H',I',q⟩:=q
  exact h2 pins s1 σ' H' D I' q
 | ret v=>exact q
 | brk=>exact q
 | cont=>exact q
theorem aS(h1:PS X st t):PSs X [st] t:=by
 intro pins s σ H D I h
 refine wpAny_execs_cons (thn (h1 pins s σ H D I h) fun f s1 q=>?_)
 cases f with
 | next=>exact wpAny_execs_nil q
 | ret v=>exact q
 | brk=>exact q
 | cont=>exact q
theorem Inv.quiet{pins:List (Addr×Obj)}{σ:St}{H:Hp}{s:Shared}(I:Inv X pins σ H s):interactive X.env=false:=by simp[interactive,I.ok.kind]
def vZ(te:TE):TS:=fun D σ H=>te σ H fun _ H1=>D.nx σ H1
theorem fX(he:PE X e te)(hs:swapsWith e none pos.line X.env=pure false:=by rfl):PS X (.Expr e pos) (vZ te):=by
 intro pins s σ H D I h
 exact wpAny_Expr_any (thn (he pins s σ H _ I h) fun v s1 ⟨x,H1,I1,r1,q1⟩=>⟨σ,H1,I1,q1⟩) I.quiet hs
def aO1(te:TE):TS:=fun D σ H=>te σ H D.rt
theorem bP(he:PE X e te):PS X (.Return (some e) pos) (aO1 te):=by
 intro pins s σ H D I h
 exact wpAny_Return_some (thn (he pins s σ H _ I h) fun v s1 ⟨x,H1,I1,r1,q1⟩=>⟨x,σ,H1,I1,r1,q1⟩)
def aO2(c:TT)(t u:TS):TS:=fun D σ H=>c σ H fun b H1=>if b=true then t D σ H1 else u D σ H1
theorem eW{c:Expr}{a b:List Stmt}{tc:TT}(hc:PT X c tc)(ha:PSs X a t)(hb:PSs X b u):PS X (.If c a b pos) (aO2 tc t u):=by
 intro pins s σ H D I h
 refine wpAny_If (thn (hc pins s σ H _ I h) fun d s1 zz0=>?_)
 obtain ⟨H1,I1,q1⟩:=zz0
 cases d with
 | true=>exact ha pins s1 σ H1 D I1 q1
 | false=>exact hb pins s1 σ H1 D I1 q1
end
abbrev TG:=V->St->Hp->(St->Hp->Prop)->Prop
abbrev TGs:=List V->St->Hp->(St->Hp->Prop)->Prop
def PG(X:Cx)(target:Expr)(t:TG):Prop:=
 ∀ (pins:List (Addr×Obj)) (s:Shared) (σ:St) (H:Hp) (v:V) (u:Value) (Q:St->Hp->Prop),Inv X pins σ H s->a9 v u->t v σ H Q->
  wpAny (model X.prog X.w) X.A (assign target X.env u) (fun _ s'=>∃ σ' H',Inv X pins σ' H' s'/\Q σ' H') X.xe s
def PGs(X:Cx)(ts:List Expr)(t:TGs):Prop:=
 ∀ (pins:List (Addr×Obj)) (s:Shared) (σ:St) (H:Hp) (vs:List V) (us:List Value) (Q:St->Hp->Prop),Inv X pins σ H s->bA vs us->t vs σ H Q->
  wpAny (model X.prog X.w) X.A (assignInOrder ((assignEach ts X.env).map (·.2)) us) (fun _ s'=>∃ σ' H',Inv X pins σ' H' s'/\Q σ' H') X.xe s
abbrev aAV:=V->V->V->Hp->(Hp->Prop)->Prop
def aKZ(X:Cx)(t:aAV):Prop:=
 ∀ (pins:List (Addr×Obj)) (s:Shared) (σ:St) (H:Hp) (o i v:V) (ov iv u:Value) (Q:Hp->Prop),Inv X pins σ H s->a9 o ov->a9 i iv->a9 v u->t o i v H Q->
  wpAny (model X.prog X.w) X.A (setItem ov iv u) (fun _ s'=>∃ H',Inv X pins σ H' s'/\Q H') X.xe s
abbrev TIp:=V->V->Hp->VK->Prop
def PIp(X:Cx)(op:Operator)(t:TIp):Prop:=
 ∀ (pins:List (Addr×Obj)) (s:Shared) (σ:St) (H:Hp) (x y:V) (v u:Value) (Q:VK),Inv X pins σ H s->a9 x v->a9 y u->t x y H Q->
  wpAny (model X.prog X.w) X.A (inplaceOp op v u) (EP X pins σ Q) X.xe s
section
variable{X:Cx}{pos:Pos}
def iA(i:Nat):TG:=fun v σ H Q=>Q (σ.set i (some v)) H
theorem bD{i:Nat}{x:Str}(hN:X.N.Nodup)(hi:X.N[i]? = some x)(hx:Loc X.env.scope x)(hf:X.fn x=true\/X.env.scope.names.lookup x=some .local:=by first|exact .inl rfl|exact .inr rfl):PG X (.Name x pos) (iA i):=by
 intro pins s σ H v u Q I r h
 exact wpAny_assign_Name (nC I hN hi hx r (fun s' I'=>⟨_,H,I',h⟩) hf)
def aE5:TGs:=fun vs σ H Q=>vs=[]/\Q σ H
def aHI(t:TG)(u:TGs):TGs:=fun vs σ H Q=>∃ v r,vs=v::r/\t v σ H fun σ' H'=>u r σ' H' Q
theorem kP:PGs X [] aE5:=by
 intro pins s σ H vs us Q I r h
 obtain ⟨e,h⟩:=h
 subst e
 cases r
 exact assignInOrder_nil ⟨σ,H,I,h⟩
theorem eH{e:Expr}{es:List Expr}{t:TG}{u:TGs}(h1:PG X e t)(h2:PGs X es u)
  (hs:(assignEach (e::es) X.env).map (·.2)=assign e X.env::(assignEach es X.env).map (·.2):=by rfl):PGs X (e::es) (aHI t u):=by
 intro pins s σ H vs us Q I r h
 obtain ⟨v,vr,e1,h⟩:=h
 subst e1
 cases r with
 | cons r rr=>
  rw[hs]
  refine assignInOrder_cons (thn (h1 pins s σ H _ _ _ I r h) fun _ s1 zz0=>?_)
  obtain ⟨σ1,H1,I1,q1⟩:=zz0
  exact h2 pins s1 σ1 H1 _ _ Q I1 rr q1
def aK0(K:Frag)(n:Nat)(t:TGs):TG:=fun v σ H Q=>∃ a xs,v=.ref a/\SqT K H a xs/\xs.length=n/\t xs σ H Q
theorem mM{es:List Expr}{k:Nat}{t:TGs}{n:Nat}(hc:X.calm=true)(h:PGs X es t)
  (hn:(assignEach es X.env).length=n:=by rfl) (hst:(assignEach es X.env).findIdx? (·.1)=none:=by rfl):PG X (.Tuple es k pos) (aK0 X.K n t):=by
 intro pins s σ H v u Q I r hw
 obtain ⟨a,xs,e1,hq,hl,hw⟩:=hw
 subst e1
 cases r
 obtain ⟨its,rv,ht,hz⟩:=I.tuple hq
 refine assign_Tuple_tuple (I.ok.hd hc) ht (by simp[hn,<-hl,rv.length]) hst fun h' hx=>?_
 have I1:Inv X pins σ H {s with heap:=h'}:=I.kept (t':=s.toks) fun b o e=>hx b o (Nat.ne_of_lt (Heap.lt_size e)) e
 exact h pins _ σ H xs _ Q I1 (by simpa using rv) hw
def aK1(to ti:TE)(t:aAV):TG:=fun v σ H Q=>to σ H fun o H1=>ti σ H1 fun i H2=>t o i v H2 fun H3=>Q σ H3
theorem wI{o i:Expr}{to ti:TE}{t:aAV}(ho:PE X o to)(hi:PE X i ti)(hs:aKZ X t)
  (ha:∀ v,assign (.Subscript o i pos) X.env v=(do
   let ov <-holding [v] (eval o X.env)
   let iv <-holding [v,ov] (eval i X.env)
   standAt pos
   holding [v,ov,iv] (setItem ov iv v)
   release [v,ov,iv] []):=by intro _;rfl):PG X (.Subscript o i pos) (aK1 to ti t):=by
 intro pins s σ H v u Q I r h
 rw[ha]
 refine wpAny_bind (wpAny_holding (thn (ho pins s σ H _ I h) fun ov s1 zz0=>?_))
 obtain ⟨x,H1,I1,r1,q1⟩:=zz0
 refine wpAny_bind (wpAny_holding (thn (hi pins s1 σ H1 _ I1 q1) fun iv s2 zz0=>?_))
 obtain ⟨y,H2,I2,r2,q2⟩:=zz0
 refine wpAny_bind (wpAny_standAt (wpAny_bind (wpAny_holding (thn (hs pins s2 σ H2 x y v ov iv u _ I2 r1 r2 r q2) fun _ s3 zz0=>?_))))
 obtain ⟨H3,I3,q3⟩:=zz0
 exact wpAny_release ⟨σ,H3,I3,q3⟩
def kB(te:TE)(g:TG):TS:=fun D σ H=>te σ H fun x H1=>g x σ H1 D.nx
theorem r9{tg e:Expr}{te:TE}{g:TG}(he:PE X e te)(hg:PG X tg g)(hs:swapsWithSole [tg] e pos.line X.env=pure false:=by rfl)(hw:swappedStores [tg] e X.env=pure none:=by rfl)
  (h1:(assignEach [tg] X.env).map (·.2)=[assign tg X.env]:=by rfl):PS X (.Assign [tg] e pos) (kB te g):=by
 intro pins s σ H D I h
 refine wpAny_Assign_stores (thn (he pins s σ H _ I h) fun v s1 zz0=>?_) hs hw
 obtain ⟨x,H1,I1,r1,q1⟩:=zz0
 rw[h1]
 exact thn (hg pins s1 σ H1 x v _ I1 r1 q1) fun _ s2 q=>q
theorem aR{i:Nat}{x:Str}{e:Expr}{te:TE}{pos':Pos}(hN:X.N.Nodup)(hi:X.N[i]? = some x)(hx:Loc X.env.scope x)(he:PE X e te)(hs:swapsWith e (some (.Name x pos')) pos.line X.env=pure false:=by rfl)(hf:X.fn x=true\/X.env.scope.names.lookup x=some .local:=by exact .inl rfl) :
  PS X (.Assign [.Name x pos'] e pos) (kB te (iA i)):=by
 intro pins s σ H D I h
 refine wpAny_Assign_Name (thn (he pins s σ H _ I h) fun v s1 zz0=>?_) hs
 obtain ⟨y,H1,I1,r1,q1⟩:=zz0
 exact nC I1 hN hi hx r1 (fun s2 I2=>⟨_,H1,I2,q1⟩) hf
def aK2(i:Nat)(te:TE)(ti:TIp):TS:=fun D σ H=>∃ x,σ[i]? = some (some x)/\te σ H fun y H1=>ti x y H1 fun z H2=>D.nx (σ.set i (some z)) H2
theorem wJ{i:Nat}{x:Str}{e:Expr}{te:TE}{op:Operator}{ti:TIp}{pos':Pos}(hN:X.N.Nodup)(hi:X.N[i]? = some x)(hx:Loc X.env.scope x)(he:PE X e te)(ho:PIp X op ti)(hf:X.fn x=true\/X.env.scope.names.lookup x=some .local:=by first|exact .inl rfl|exact .inr rfl) :
  PS X (.AugAssign (.Name x pos') op e pos) (aK2 i te ti):=by
 intro pins s σ H D I h
 obtain ⟨v,e1,h⟩:=h
 obtain ⟨m,hn,hl⟩:=I.loc
 have vis:Vis X.env.scope x:=by rcases hx with k|k;exact .inl k;exact .inr (.inl k)
 obtain ⟨u,r,l⟩:=hl i x v hi e1 vis
 refine wpAny_AugAssign_Name ?_
 have go:wpAny (model X.prog X.w) X.A (eval e X.env) (fun w s₂=>wpAny (model X.prog X.w) X.A (inplaceOp op u w) (fun r s₃=>wpAny (model X.prog X.w) X.A (storeName X.env x r) (fun _=>SP X pins D .next) X.xe s₃) X.xe s₂) X.xe s:=by
  refine thn (he pins s σ H _ I h) fun w s1 zz0=>?_
  obtain ⟨y,H1,I1,r1,q1⟩:=zz0
  refine thn (ho pins s1 σ H1 v y u w _ I1 r r1 q1) fun z s2 zz0=>?_
  obtain ⟨zv,H2,I2,r2,q2⟩:=zz0
  exact nC I2 hN hi hx r2 (fun s3 I3=>⟨_,H2,I3,q2⟩) hf
 rcases l with ⟨hk,hm⟩|⟨hk,c,hc,hcell⟩
 ·exact wpAny_loadName_local I.ok.kind hk hn hm go
 ·rcases hk with hk|hk
  ·exact wpAny_loadName_cell I.ok.kind hk hc hcell go
  ·rcases hx with k|k
   ·have:X.env.scope.names.lookup x=some .free:=hk
    rw[k] at this;cases this
   ·have:X.env.scope.names.lookup x=some .free:=hk
    rw[k] at this;cases this
def ipI(f:Int->Int->Int):TIp:=fun x y H Q=>∃ i j,x=.int i/\y=.int j/\Q (.int (f i j)) H
theorem aK3:PIp X .Add (ipI fun i j=>i+j):=by
 intro pins s σ H x y v u Q I r1 r2 h
 obtain ⟨i,j,e1,e2,q⟩:=h
 subst e1;subst e2
 obtain ⟨t,rfl⟩:=r1
 obtain ⟨t',rfl⟩:=r2
 exact iadd_int ⟨.int _,H,I.tok _,⟨_,rfl⟩,q⟩
end
section
variable{X:Cx}{pos:Pos}
def aCL(c:TT)(tb:TS):TS:=fun D σ H=>∃ W:Nat->St->Hp->Prop,(∃ m,W m σ H)/\∀ m σ H,W m σ H->
 c σ H fun b H1=>if b=true then ∃ N:St->Hp->Prop,(∀ σ' H',N σ' H'->∃ m',m' < m/\W m' σ' H')/\tb {D with nx:=N,ct:=N,bk:=D.nx} σ H1 else D.nx σ H1
theorem iD{c:Expr}{body:List Stmt}{tc:TT}{tb:TS}(hp:PassesOwn (model X.prog X.w) X.A X.env X.xe)(hc:PT X c tc)(hb:PSs X body tb):PS X (.While c body [] pos) (aCL tc tb):=by
 intro pins s σ H D I h
 obtain ⟨W,⟨m0,w0⟩,turn⟩:=h
 refine wpAny_While (codeAny_whileLoop (fun n s'=>∃ σ' H',Inv X pins σ' H' s'/\W n σ' H') ?_ m0 ⟨σ,H,I,w0⟩)
 rintro n s1 ⟨σ1,H1,I1,w1⟩
 refine wpAny_passesOwn hp (thn (hc pins s1 σ1 H1 _ I1 (turn n σ1 H1 w1)) fun b s2 zz0=>?_)
 obtain ⟨H2,I2,q2⟩:=zz0
 cases b with
 | true=>
  obtain ⟨N,hN,q2⟩:=q2
  rw[if_pos rfl]
  refine wpAny_passesOwn hp (thn (hb pins s2 σ1 H2 _ I2 q2) fun f s3 q3=>?_)
  cases f with
  | next=>
   obtain ⟨σ3,H3,I3,n3⟩:=q3
   obtain ⟨m',hm,w3⟩:=hN σ3 H3 n3
   exact ⟨m',hm,σ3,H3,I3,w3⟩
  | cont=>
   obtain ⟨σ3,H3,I3,n3⟩:=q3
   obtain ⟨m',hm,w3⟩:=hN σ3 H3 n3
   exact ⟨m',hm,σ3,H3,I3,w3⟩
  | brk=>exact q3
  | ret v=>exact q3
 | false=>
  rw[if_neg Bool.false_ne_true]
  exact wpAny_execs_nil ⟨σ1,H2,I2,q2⟩
end
structure It where
 go:Nat->Hp->Prop
 yld:Nat->Hp->V->Hp->Prop
 stop:Nat->Hp->Prop
def gG(X:Cx)(pins:List (Addr×Obj))(H:Hp)(b:Addr):Prop:=
 H b=none/\b≠X.env.locals/\b∉X.fs/\(b∈X.ex\/X.s₀.heap.objs.size<=b)/\(∀ x c,X.env.cells.lookup x=some c->c≠b)/\∀ p∈X.pn++pins,p.1≠b
theorem Inv.fpOk{X:Cx}{pins:List (Addr×Obj)}{σ:St}{H H':Hp}{s:Shared}{b:Addr}(I:Inv X pins σ H s)(hb:s.heap.objs.size<=b)(hn:H' b=none):gG X pins H' b:=by
 refine ⟨hn,Nat.ne_of_gt (Nat.lt_of_lt_of_le I.lt hb),I.nofs hb,.inr (Nat.le_trans I.sz hb),fun x c e z=>?_,fun p hp z=>?_⟩
 ·obtain ⟨v,q⟩:=I.cell x c e
  exact absurd (Nat.lt_of_lt_of_le q.lt (by rw[z];exact hb)) (Nat.lt_irrefl _)
 ·exact absurd (Nat.lt_of_lt_of_le (Heap.lt_size (I.pin p hp).1) (by rw[z];exact hb)) (Nat.lt_irrefl _)
structure Turn(P:Program)(w:World)(K:Frag)(tg:Expr)(J:It)(fp:List Addr)(it:Addr)(tn:Nat->Heap->Prop):Prop where
 mem:it∈fp
 obj:∀ i h,tn i h->∀ b∈fp,∃ o,h.get? b=some o/\∀ v,o.data≠.cell v
 keep:∀ i h h',tn i h->(∀ b∈fp,∀ o,h.get? b=some o->h'.get? b=some o)->tn i h'
 item:∀ (X:Cx),X.prog=P->X.w=w->X.K=K->X.calm=true->∀ (i:Nat) (pins:List (Addr×Obj)) (s:Shared) (σ:St) (H:Hp) (E:Value->Shared->Prop),Inv X pins σ H s->(∀ b∈fp,gG X pins H b)->tn i s.heap->J.go i H->
  wpAny (model P w) X.A (pyNext (.ref it)) (fun r s1=>∃ u,r=some u /\
   wpAny (model P w) X.A (letOwnedTupleGo tg (.ref it) u) (fun _ s2=>∃ x H',Inv X pins σ H' s2/\a9 x u/\J.yld i H x H'/\tn (i+1) s2.heap/\∀ b∈fp,H' b=none) E s1) E s
 done:∀ (X:Cx),X.prog=P->X.w=w->X.K=K->X.calm=true->∀ (i:Nat) (pins:List (Addr×Obj)) (s:Shared) (σ:St) (H:Hp) (E:Value->Shared->Prop),Inv X pins σ H s->(∀ b∈fp,gG X pins H b)->tn i s.heap->J.stop i H->
  wpAny (model P w) X.A (pyNext (.ref it)) (fun r s1=>r=none/\Inv X pins σ H s1) E s
 self:∀ (A:Around) (i:Nat) (s:Shared) (Q:Value->Shared->Prop) (E:Value->Shared->Prop),tn i s.heap->Q (.ref it) s->wpAny (model P w) A (pyIter (.ref it)) Q E s
abbrev TI:=St->Hp->(It->Hp->Prop)->Prop
def PIE(X:Cx)(pins:List (Addr×Obj))(σ:St)(tg:Expr)(R:It->Hp->Prop)(itv:Value)(s2:Shared):Prop:=
 ∃ (it:Addr) (fp:List Addr) (tn:Nat->Heap->Prop) (J:It) (H':Hp),itv=.ref it/\Inv X pins σ H' s2/\Turn X.prog X.w X.K tg J fp it tn/\tn 0 s2.heap/\(∀ b∈fp,gG X pins H' b)/\R J H'
def PI(X:Cx)(tg iter:Expr)(wi:TI):Prop:=
 ∀ (pins:List (Addr×Obj)) (s:Shared) (σ:St) (H:Hp) (R:It->Hp->Prop),Inv X pins σ H s->wi σ H R->
  wpAny (model X.prog X.w) X.A (eval iter X.env) (fun v s1=>wpAny (model X.prog X.w) X.A (pyIter v) (PIE X pins σ tg R) X.xe s1) X.xe s
theorem v0 {M : Model} {A : Around} {E : Value -> Shared -> Prop} {s : Shared} {tg : Expr} {it : Addr} {u : Value} {o : Obj} {n : String} {vs : Array Value} {Q : Unit -> Shared -> Prop} (ho : s.heap.get? it = some o) (hc : o.cls = .type n) (hd : o.data = .fields vs)
    (hn : ["enumerate", "zip", "dict_itemiterator", "dict_reverseitemiterator", "odict_iterator", "itertools.zip_longest", "itertools.pairwise"].contains n = false) (hQ : Q () s) : wpAny M A (letOwnedTupleGo tg (.ref it) u) Q E s := by
  unfold letOwnedTupleGo
  cases tg <;> first
    | exact wpAny_pure hQ
    | (cases u <;> first
        | exact wpAny_pure hQ
        | (refine wpAny_bind (wpAny_load ho ?_)
           rw [hc, hd]
           show wpAny M A (if (["enumerate", "zip", "dict_itemiterator", "dict_reverseitemiterator", "odict_iterator", "itertools.zip_longest", "itertools.pairwise"].contains n && vs[0]? == some (rawInt _)) = true then _ else _) Q E s
           rw [if_neg (by intro h; rw [hn, Bool.false_and] at h; cases h)]
           exact wpAny_pure hQ))
def Itl(K:Frag)(a:Addr):It:=
 ⟨fun i H=>∃ xs x,SqL K H a xs/\xs[i]? = some x,fun i H x H'=>H'=H/\∀ xs,SqL K H a xs->xs[i]? = some x,fun i H=>∃ xs,SqL K H a xs/\xs.length<=i⟩
def Itt(K:Frag)(a:Addr):It:=
 ⟨fun i H=>∃ xs x,SqT K H a xs/\xs[i]? = some x,fun i H x H'=>H'=H/\∀ xs,SqT K H a xs->xs[i]? = some x,fun i H=>∃ xs,SqT K H a xs/\xs.length<=i⟩
noncomputable def Itr(lo:Int)(n:Nat):It:=⟨fun i _=>i < n,fun i H x H'=>H'=H/\x=.int (lo+i),fun i _=>n<=i⟩
theorem aCM{P:Program}{w:World}{K:Frag}{tg:Expr}(a it:Addr):Turn P w K tg (Itl K a) [it] it (fun i h=>h.IsListIter it a i) where
 mem:=by simp
 obj:=fun i h st b hb=>by
  have e:b=it:=by simpa using hb
  subst e
  obtain ⟨o,e,c,d⟩:=st
  exact ⟨o,e,fun v z=>by rw[d] at z;cases z⟩
 keep:=fun i h h' st k=>st.at fun o e=>k it (by simp) o e
 item:=by
  intro X hP hw hK hc i pins s σ H E I hf st hg
  subst hP hw hK
  obtain ⟨xs,x,hq,hx⟩:=hg
  obtain ⟨its,rv,p,hz⟩:=I.list hq
  obtain ⟨u,hu,ru⟩:=rv.get hx
  obtain ⟨f0,f1,f2,f3,f4,f5⟩:=hf it (by simp)
  refine wpAny_pyNext_list_item st p.isList (x:=u) (by simpa using hu) fun h' st' sb=>?_
  have I1:Inv X pins σ H {s with heap:=h'}:=I.turned (t':=s.toks) (fun b o hb e=>(sb.2 b hb).trans e) f0 f1 f3 f4 f5
  obtain ⟨o,e,c,d⟩:=id st'
  exact ⟨u,rfl,v0 (s:={s with heap:=h'}) e c d (by decide) ⟨x,H,I1,ru,⟨rfl,fun ys hy=>by rw[I.list_inj hy hq];exact hx⟩,st',fun b hb=>(hf b hb).1⟩⟩
 done:=by
  intro X hP hw hK hc i pins s σ H E I hf st hg
  subst hP hw hK
  obtain ⟨xs,hq,hx⟩:=hg
  obtain ⟨its,rv,p,hz⟩:=I.list hq
  obtain ⟨f0,f1,f2,f3,f4,f5⟩:=hf it (by simp)
  have hl:=rv.length
  exact wpAny_pyNext_list_end (I.ok.hd hc) st p.isList (by simp;omega) fun h' eb=>⟨rfl,I.turned (t':=s.toks) (fun b o hb e=>eb b o hb e) f0 f1 f3 f4 f5⟩
 self:=fun _ _ _ _ _ st h=>wpAny_pyIter_listiter st h
theorem aAW{P:Program}{w:World}{K:Frag}{tg:Expr}(a it:Addr):Turn P w K tg (Itt K a) [it] it (fun i h=>h.IsTupleIter it a i) where
 mem:=by simp
 obj:=fun i h st b hb=>by
  have e:b=it:=by simpa using hb
  subst e
  obtain ⟨o,e,c,d⟩:=st
  exact ⟨o,e,fun v z=>by rw[d] at z;cases z⟩
 keep:=fun i h h' st k=>st.at fun o e=>k it (by simp) o e
 item:=by
  intro X hP hw hK hc i pins s σ H E I hf st hg
  subst hP hw hK
  obtain ⟨xs,x,hq,hx⟩:=hg
  obtain ⟨its,rv,p,hz⟩:=I.tuple hq
  obtain ⟨u,hu,ru⟩:=rv.get hx
  obtain ⟨f0,f1,f2,f3,f4,f5⟩:=hf it (by simp)
  refine wpAny_pyNext_tuple_item st (show s.heap.IsTuple a its.toArray from p) (x:=u) (by simpa using hu) fun h' st' sb=>?_
  have I1:Inv X pins σ H {s with heap:=h'}:=I.turned (t':=s.toks) (fun b o hb e=>(sb.2 b hb).trans e) f0 f1 f3 f4 f5
  obtain ⟨o,e,c,d⟩:=id st'
  exact ⟨u,rfl,v0 (s:={s with heap:=h'}) e c d (by decide) ⟨x,H,I1,ru,⟨rfl,fun ys hy=>by rw[I.tuple_inj hy hq];exact hx⟩,st',fun b hb=>(hf b hb).1⟩⟩
 done:=by
  intro X hP hw hK hc i pins s σ H E I hf st hg
  subst hP hw hK
  obtain ⟨xs,hq,hx⟩:=hg
  obtain ⟨its,rv,p,hz⟩:=I.tuple hq
  obtain ⟨f0,f1,f2,f3,f4,f5⟩:=hf it (by simp)
  have hl:=rv.length
  exact wpAny_pyNext_tuple_end (I.ok.hd hc) st (show s.heap.IsTuple a its.toArray from p) (by simp;omega) fun h' eb=>⟨rfl,I.turned (t':=s.toks) (fun b o hb e=>eb b o hb e) f0 f1 f3 f4 f5⟩
 self:=fun _ _ _ _ _ st h=>wpAny_pyIter_tupleiter st h
theorem aAX{P:Program}{w:World}{K:Frag}{tg:Expr}(it:Addr)(lo:Int)(n:Nat):Turn P w K tg (Itr lo n) [it] it (fun i h=>IsRangeIter h it (lo+(i:Nat) * 1) ((n:Int) - (i:Nat)) 1) where
 mem:=by simp
 obj:=fun i h st b hb=>by
  have e:b=it:=by simpa using hb
  subst e
  exact ⟨_,st,fun v z=>by
   have z':Data.fields _=Data.cell v:=z
   cases z'⟩
 keep:=fun i h h' st k=>k it (by simp) _ st
 item:=by
  intro X hP hw hK hc i pins s σ H E I hf st hg
  subst hP hw hK
  obtain ⟨f0,f1,f2,f3,f4,f5⟩:=hf it (by simp)
  have W:=Walks.range (prog:=X.prog) (w:=X.w) (I.ok.hd hc) it lo 1 n
  refine W.item i s _ _ hg st fun v h' tk hv st' kk=>?_
  obtain ⟨t,rfl⟩:=hv
  have I1:Inv X pins σ H {s with heap:=h',toks:=tk}:=I.turned (fun b o hb e=>kk b o (by simpa using hb) e) f0 f1 f3 f4 f5
  refine ⟨_,rfl,v0 (s:={s with heap:=h',toks:=tk}) (n:="range_iterator") st' rfl rfl (by decide) ⟨.int (lo+i),H,I1,⟨t,?_⟩,⟨rfl,rfl⟩,st',fun b hb=>(hf b hb).1⟩⟩
  rw[Int.mul_one]
 done:=by
  intro X hP hw hK hc i pins s σ H E I hf st hg
  subst hP hw hK
  obtain ⟨f0,f1,f2,f3,f4,f5⟩:=hf it (by simp)
  exact wpAny_pyNext_range_end (I.ok.hd hc) st (by have:n<=i:=hg;omega) fun h' eb=>⟨rfl,I.turned (t':=s.toks) (fun b o hb e=>eb b o hb e) f0 f1 f3 f4 f5⟩
 self:=fun _ _ _ _ _ st h=>wpAny_pyIter_rangeiter st h
end L2
namespace L2
open PySem PySem.Spec PyProof.Rows
section
variable{X:Cx}{tg:Expr}
theorem aE6{pins:List (Addr×Obj)}{σ:St}{H:Hp}{s:Shared}{R:It->Hp->Prop}{E:Value->Shared->Prop}{lo hi:Int}{t u v:Tok}{tk:Nat}(I:Inv X pins σ H s)(h1 : -(2 ^ 62)<=lo)(h2:lo < 2 ^ 62)(h3 : -(2 ^ 62)<=hi)(h4:hi < 2 ^ 62)
  (q:R (Itr lo (hi - lo).toNat) H):wpAny (model X.prog X.w) X.A (pyIter (.ref s.heap.objs.size)) (PIE X pins σ tg R) E {s with heap:=s.heap.push {cls:=.type "range",data:=.fields #[.int lo t,.int hi u,.int 1 v]},toks:=tk}:=by
 refine wpAny_pyIter_range (IsRange.new ..) (small_one h1 h2 h3 h4) ?_
 have I1:Inv X pins σ H {s with heap:=s.heap.push {cls:=.type "range",data:=.fields #[.int lo t,.int hi u,.int 1 v]},toks:=tk}:=I.kept fun b o e=>Heap.get?_push_of_some _ e
 refine ⟨(s.heap.push {cls:=.type "range",data:=.fields #[.int lo t,.int hi u,.int 1 v]}).objs.size,[(s.heap.push {cls:=.type "range",data:=.fields #[.int lo t,.int hi u,.int 1 v]}).objs.size],_,_,H,rfl,
  I1.kept (t':=tk) fun b o e=>Heap.get?_push_of_some _ e,aAX _ lo (hi - lo).toNat,?_,fun b hb=>?_,q⟩
 ·have e1:lo+((0:Nat):Int) * 1=lo:=by simp
  have e2:(((hi - lo).toNat:Nat):Int) - ((0:Nat):Int)=Builtin.Range.rangeSize lo hi 1:=by rw[rangeSize_one];split<;>omega
  show IsRangeIter _ _ (lo+((0:Nat):Int) * 1) ((((hi - lo).toNat:Nat):Int) - ((0:Nat):Int)) 1
  rw[e1,e2]
  exact Heap.get?_push_size _ rfl
 ·have e:b=(s.heap.push {cls:=.type "range",data:=.fields #[.int lo t,.int hi u,.int 1 v]}).objs.size:=by simpa using hb
  subst e
  exact I1.fpOk (Nat.le_refl _) (I1.hok.fresh (Nat.le_refl _))
def aHJ(ta:TA):TI:=fun σ H R=>ta σ H fun vs H1=>∃ j:Int,vs=[.int j] /\ -(2 ^ 62)<=j/\j < 2 ^ 62/\R (Itr 0 j.toNat) H1
theorem fP{a:Expr}{ta:TA}{p pos:Pos}(hg:Gl X "range")(hm:X.mg "range"=none)(ha:PA X [a] ta)(hs:starEach [a] X.env=[(false,eval a X.env)]:=by rfl):PI X tg (.Call (.Name "range" p) [a] [] pos) (aHJ ta):=by
 intro pins s σ H R I h
 refine Call_ (kW I hg hm boot_range (PyProof.Rows.callWith_type1 (thn (ha pos pins s σ H _ I h) fun us s1 zz0=>?_) hs rfl))
 obtain ⟨vs,H1,I1,r1,q1⟩:=zz0
 obtain ⟨j,e,q1,q2,q⟩:=q1
 subst e
 cases r1 with
 | cons r rr=>
  cases rr
  obtain ⟨t,rfl⟩:=r
  exact call_range_1 (aE6 I1 (by omega) (by omega) q1 q2 (by simpa using q))
def aK4(wi:TI)(g:TG)(tb:TS):TS:=fun D σ H=>wi σ H fun J H1=>∃ W:Nat->Nat->St->Hp->Prop,(∃ m,W 0 m σ H1)/\∀ i m σ H,W i m σ H->
 (J.stop i H/\D.nx σ H)\/(J.go i H/\∃ N:St->Hp->Prop,(∀ σ' H',N σ' H'->∃ m',m' < m/\W (i+1) m' σ' H')/\∀ x H',J.yld i H x H'->g x σ H' fun σ2 H2=>tb {D with nx:=N,ct:=N,bk:=D.nx} σ2 H2)
noncomputable def oN(fp:List Addr)(h:Heap):List (Addr×Obj):=fp.filterMap fun b=>(h.get? b).map fun o=>(b,o)
theorem iS{fp:List Addr}{h:Heap}{b:Addr}{o:Obj}(hb:b∈fp)(e:h.get? b=some o):(b,o)∈oN fp h:=List.mem_filterMap.mpr ⟨b,hb,by rw[e];rfl⟩
theorem aCN{fp:List Addr}{h:Heap}{p:Addr×Obj}(hp:p∈oN fp h):p.1∈fp/\h.get? p.1=some p.2:=by
 obtain ⟨b,hb,e⟩:=List.mem_filterMap.mp hp
 cases q:h.get? b with
 | none=>rw[q] at e;cases e
 | some o=>
  rw[q] at e
  have e':(b,o)=p:=Option.some.inj e
  subst e'
  exact ⟨hb,q⟩
theorem Inv.pinned{pins:List (Addr×Obj)}{σ:St}{H:Hp}{s:Shared}{fp:List Addr}(I:Inv X pins σ H s)(hf:∀ b∈fp,gG X pins H b)(ho:∀ b∈fp,∃ o,s.heap.get? b=some o/\∀ v,o.data≠.cell v):Inv X (pins++oN fp s.heap) σ H s:=
 I.pins_of fun p hp=>(List.mem_append.mp hp).elim (fun z=>I.pin p (List.mem_append_right _ z)) fun z=>by
  obtain ⟨hb,e⟩:=aCN z
  obtain ⟨f0,f1,f2,_⟩:=hf p.1 hb
  obtain ⟨o,e',d⟩:=ho p.1 hb
  rw[e] at e';cases e'
  exact ⟨e,f0,f1,f2,d⟩
theorem Inv.unpinned{pins pl:List (Addr×Obj)}{σ:St}{H:Hp}{s:Shared}(I:Inv X (pins++pl) σ H s):Inv X pins σ H s:=I.pins_of fun p hp=>I.pin p (List.mem_append_right _ (List.mem_append_left _ hp))
theorem d8{iter:Expr}{body:List Stmt}{wi:TI}{g:TG}{tb:TS}{pos:Pos}(hp:PassesOwn (model X.prog X.w) X.A X.env X.xe)(hc:X.calm=true)(hi:PI X tg iter wi)(hg:PG X tg g)(hb:PSs X body tb)
  (hs:∀ x,foldedSetIterable iter X.env x=pure x:=by intro _;rfl):PS X (.For tg iter body [] pos) (aK4 wi g tb):=by
 intro pins s σ H D I h
 refine wpAny_For (thn (hi pins s σ H _ I h) fun v s1 h1=>thn h1 fun itv s2 h2=>?_) hs
 obtain ⟨it,fp,tn,J,H2,e,I2,T,st2,f2,W,⟨m0,w0⟩,turn⟩:=h2
 subst e
 have stat:∀ {H':Hp},(∀ b∈fp,H' b=none)->∀ b∈fp,gG X pins H' b:=fun hn b hb=>⟨hn b hb,(f2 b hb).2⟩
 refine codeAny_forLoop_any (fun n s'=>∃ i σ' H',Inv X pins σ' H' s'/\tn i s'.heap/\(∀ b∈fp,H' b=none)/\W i n σ' H') ?_ m0 ⟨0,σ,H2,I2,st2,fun b hb=>(f2 b hb).1,w0⟩
 rintro n s3 ⟨i,σ3,H3,I3,st3,fr3,w3⟩
 rcases turn i n σ3 H3 w3 with ⟨stop,qn⟩|⟨go,N,hN,step⟩
 ·refine wpAny_passesOwn hp (thn (T.done X rfl rfl rfl hc i pins s3 σ3 H3 X.xe I3 (stat fr3) st3 stop) fun r s4 zz0=>?_)
  obtain ⟨hr,I4⟩:=zz0
  subst hr
  exact wpAny_execs_nil ⟨σ3,H3,I4,qn⟩
 ·refine wpAny_passesOwn hp (thn (T.item X rfl rfl rfl hc i pins s3 σ3 H3 X.xe I3 (stat fr3) st3 go) fun r s4 zz0=>?_)
  obtain ⟨u,hr,h4⟩:=zz0
  subst hr
  refine wpAny_passesOwn hp (thn h4 fun _ s5 zz0=>?_)
  obtain ⟨x,H5,I5,r5,y5,st5,fr5⟩:=zz0
  have I5':=I5.pinned (stat fr5) (T.obj _ _ st5)
  refine wpAny_passesOwn hp (thn (hg _ s5 σ3 H5 x u _ I5' r5 (step x H5 y5)) fun _ s6 zz0=>?_)
  obtain ⟨σ6,H6,I6,q6⟩:=zz0
  refine wpAny_passesOwn hp (thn (hb _ s6 σ6 H6 _ I6 q6) fun f s7 q7=>?_)
  have again:∀ {σ7:St} {H7:Hp},Inv X (pins++oN fp s5.heap) σ7 H7 s7->N σ7 H7->∃ m,m < n/\∃ i σ' H',Inv X pins σ' H' s7/\tn i s7.heap/\(∀ b∈fp,H' b=none)/\W i m σ' H':=fun {σ7 H7} I7 n7=>by
   obtain ⟨m',hm,w7⟩:=hN σ7 H7 n7
   refine ⟨m',hm,i+1,σ7,H7,I7.unpinned,T.keep _ _ _ st5 fun b hb o e=>(I7.pin (b,o) (List.mem_append_right _ (List.mem_append_right _ (iS hb e)))).1,fun b hb=>?_,w7⟩
   obtain ⟨o,e,d⟩:=T.obj _ _ st5 b hb
   exact (I7.pin (b,o) (List.mem_append_right _ (List.mem_append_right _ (iS hb e)))).2.1
  cases f with
  | next=>obtain ⟨σ7,H7,I7,n7⟩:=q7;exact again I7 n7
  | cont=>obtain ⟨σ7,H7,I7,n7⟩:=q7;exact again I7 n7
  | brk=>obtain ⟨σ7,H7,I7,q7⟩:=q7;exact ⟨σ7,H7,I7.unpinned,q7⟩
  | ret v=>obtain ⟨x7,σ7,H7,I7,r7,q7⟩:=q7;exact ⟨x7,σ7,H7,I7.unpinned,r7,q7⟩
end
end L2
namespace L2
open PySem PySem.Spec PyProof.Rows
abbrev R2:=V->V->Hp->VK->Prop
def OpR(X:Cx)(f:Value->Value->Sem Value)(r:R2):Prop:=
 ∀ (pins:List (Addr×Obj)) (s:Shared) (σ:St) (H:Hp) (x y:V) (v u:Value) (Q:VK),Inv X pins σ H s->a9 x v->a9 y u->r x y H Q->
  wpAny (model X.prog X.w) X.A (f v u) (EP X pins σ Q) X.xe s
def UnR(X:Cx)(f:Value->Sem Value)(r:V->Hp->VK->Prop):Prop:=
 ∀ (pins:List (Addr×Obj)) (s:Shared) (σ:St) (H:Hp) (x:V) (v:Value) (Q:VK),Inv X pins σ H s->a9 x v->r x H Q->
  wpAny (model X.prog X.w) X.A (f v) (EP X pins σ Q) X.xe s
def gA(X:Cx)(f:Value)(r:List V->Hp->VK->Prop):Prop:=
 ∀ (pins:List (Addr×Obj)) (s:Shared) (σ:St) (H:Hp) (xs:List V) (us:List Value) (Q:VK),Inv X pins σ H s->bA xs us->r xs H Q->
  wpAny (model X.prog X.w) X.A (call f us) (EP X pins σ Q) X.xe s
def tOp(r:R2)(ta tb:TE):TE:=fun σ H Q=>ta σ H fun x H1=>tb σ H1 fun y H2=>r x y H2 Q
def tUn(r:V->Hp->VK->Prop)(ta:TE):TE:=fun σ H Q=>ta σ H fun x H1=>r x H1 Q
def rI(C:Int->Int->Prop)(g:Int->Int->V):R2:=fun x y H Q=>∃ i j,x=.int i/\y=.int j/\C i j/\Q (g i j) H
def rI0(g:Int->Int->V):R2:=fun x y H Q=>∃ i j,x=.int i/\y=.int j/\Q (g i j) H
def rU(g:Int->V):V->Hp->VK->Prop:=fun x H Q=>∃ i,x=.int i/\Q (g i) H
section
variable{X:Cx}{a b c:Expr}{ta tb tc:TE}{pos:Pos}
theorem aE7(ha:PE X a ta)(hb:PE X b tb){pins:List (Addr×Obj)}{s:Shared}{σ:St}{H:Hp}{R:V->V->Hp->Prop}(I:Inv X pins σ H s)
  (h:ta σ H fun x H1=>tb σ H1 fun y H2=>R x y H2) {Q:Value->Shared->Prop} {f:Value->Value->Sem Value}
  (hf:∀ v u s2 x y H2,Inv X pins σ H2 s2->a9 x v->a9 y u->R x y H2->wpAny (model X.prog X.w) X.A (f v u) Q X.xe s2) :
  wpAny (model X.prog X.w) X.A (eval a X.env) (fun v s₁=>wpAny (model X.prog X.w) X.A (eval b X.env) (fun u s₂=>wpAny (model X.prog X.w) X.A (f v u) Q X.xe s₂) X.xe s₁) X.xe s:=by
 refine thn (ha pins s σ H _ I h) fun v s1 zz0=>?_
 obtain ⟨x,H1,I1,r1,q1⟩:=zz0
 refine thn (hb pins s1 σ H1 _ I1 q1) fun u s2 zz0=>?_
 obtain ⟨y,H2,I2,r2,q2⟩:=zz0
 exact hf v u s2 x y H2 I2 r1 r2 q2
theorem aHK{op:Operator}{r:R2}(ho:OpR X (binaryOp op) r)(ha:PE X a ta)(hb:PE X b tb):PE X (.BinOp a op b pos) (tOp r ta tb):=by
 intro pins s σ H Q I h
 exact wpAny_BinOp (aE7 ha hb I h fun v u s2 x y H2 I2 rx ry q=>ho pins s2 σ H2 x y v u Q I2 rx ry q)
theorem aNR{op:UnaryOp}{r:V->Hp->VK->Prop}(ho:UnR X (unaryOp op) r)(ha:PE X a ta):PE X (.UnaryOp op a pos) (tUn r ta):=by
 intro pins s σ H Q I h
 exact UnaryOp_ (thn (ha pins s σ H _ I h) fun v s1 ⟨x,H1,I1,r1,q1⟩=>ho pins s1 σ H1 x v Q I1 r1 q1)
theorem opI{f:Value->Value->Sem Value}{C:Int->Int->Prop}{g:Int->Int->Int}
  (rule:∀ (i j:Int) (t u:Tok) (s:Shared) (Q:Value->Shared->Prop) (E:Value->Shared->Prop),C i j->Q (.int (g i j) s.toks) {s with toks:=s.toks+1}->wpAny (model X.prog X.w) X.A (f (.int i t) (.int j u)) Q E s) :
  OpR X f (rI C fun i j=>.int (g i j)):=by
 intro pins s σ H x y v u Q I rx ry h
 obtain ⟨i,j,rfl,rfl,hc,q⟩:=h
 obtain ⟨t,rfl⟩:=rx
 obtain ⟨t',rfl⟩:=ry
 exact rule i j t t' s _ _ hc ⟨.int (g i j),H,I.tok _,⟨_,rfl⟩,q⟩
theorem aK5{f:Value->Value->Sem Value}{g:Int->Int->Int}
  (rule:∀ (i j:Int) (t u:Tok) (s:Shared) (Q:Value->Shared->Prop) (E:Value->Shared->Prop),Q (.int (g i j) s.toks) {s with toks:=s.toks+1}->wpAny (model X.prog X.w) X.A (f (.int i t) (.int j u)) Q E s) :
  OpR X f (rI0 fun i j=>.int (g i j)):=by
 intro pins s σ H x y v u Q I rx ry h
 obtain ⟨i,j,rfl,rfl,q⟩:=h
 obtain ⟨t,rfl⟩:=rx
 obtain ⟨t',rfl⟩:=ry
 exact rule i j t t' s _ _ ⟨.int (g i j),H,I.tok _,⟨_,rfl⟩,q⟩
theorem aAY{f:Value->Value->Sem Value}{g:Int->Int->Bool}
  (rule:∀ (i j:Int) (t u:Tok) (s:Shared) (Q:Value->Shared->Prop) (E:Value->Shared->Prop),Q (.bool (g i j)) s->wpAny (model X.prog X.w) X.A (f (.int i t) (.int j u)) Q E s) :
  OpR X f (rI0 fun i j=>.bl (g i j)):=by
 intro pins s σ H x y v u Q I rx ry h
 obtain ⟨i,j,rfl,rfl,q⟩:=h
 obtain ⟨t,rfl⟩:=rx
 obtain ⟨t',rfl⟩:=ry
 exact rule i j t t' s _ _ ⟨.bl (g i j),H,I,rfl,q⟩
def aE8(i j:Int):Prop:=(-(2 ^ 64) < i/\i < 2 ^ 64)\/(-(2 ^ 64) < j/\j < 2 ^ 64)
theorem aE8.ok{i j:Int}(h:aE8 i j):IntMulOk i j:=by
 rcases h with ⟨h1,h2⟩|⟨h1,h2⟩
 · exact .of_left (intBits_le_64 h1 h2)
 · exact .of_right (intBits_le_64 h1 h2)
theorem aK6:OpR X (binaryOp .Add) (rI0 fun i j=>.int (i+j)):=aK5 fun _ _ _ _ _ _ _ q=>add_int q
theorem aK7:OpR X (binaryOp .Sub) (rI0 fun i j=>.int (i - j)):=aK5 fun _ _ _ _ _ _ _ q=>sub_int q
theorem aK8:OpR X (binaryOp .Mult) (rI aE8 fun i j=>.int (i * j)):=opI fun _ _ _ _ _ _ _ hc q=>mul_int q hc.ok
theorem aK9:OpR X (binaryOp .Mod) (rI (fun _ j=>0 < j) fun i j=>.int (i % j)):=opI fun i j _ _ _ _ _ hc q=>by
 have h1:(0:Int) < j:=hc
 exact mod_int' (by omega) (by rw[Int.fmod_eq_emod_of_nonneg i (by omega)];exact q)
theorem unI{f:Value->Sem Value}{g:Int->Int}
  (rule:∀ (i:Int) (t:Tok) (s:Shared) (Q:Value->Shared->Prop) (E:Value->Shared->Prop),Q (.int (g i) s.toks) {s with toks:=s.toks+1}->wpAny (model X.prog X.w) X.A (f (.int i t)) Q E s) :
  UnR X f (rU fun i=>.int (g i)):=by
 intro pins s σ H x v Q I rx h
 obtain ⟨i,rfl,q⟩:=h
 obtain ⟨t,rfl⟩:=rx
 exact rule i t s _ _ ⟨.int (g i),H,I.tok _,⟨_,rfl⟩,q⟩
theorem aLA:UnR X (unaryOp .USub) (rU fun i=>.int (-i)):=unI fun _ _ _ _ _ q=>neg_int q
end
section
variable{X:Cx}{a b c:Expr}{ta tb tc:TE}{pos:Pos}
theorem wK{pins:List (Addr×Obj)}{σ:St}{H:Hp}{s:Shared}{Q:VK}{k k':Bool}(I:Inv X pins σ H s)(q:Q (.bl k) H)(e:k=k'):EP X pins σ Q (.bool k') s:=by
 subst e
 exact ⟨.bl k,H,I,rfl,q⟩
theorem aNS:OpR X (compareOp .Lt) (rI0 fun i j=>.bl (decide (i < j))):=aAY fun _ _ _ _ _ _ _ q=>lt_int q
theorem aNT:OpR X (compareOp .LtE) (rI0 fun i j=>.bl (decide (i<=j))):=aAY fun _ _ _ _ _ _ _ q=>le_int q
theorem aNU:OpR X (compareOp .Gt) (rI0 fun i j=>.bl (decide (j < i))):=aAY fun _ _ _ _ _ _ _ q=>gt_int q
theorem aNV:OpR X (compareOp .GtE) (rI0 fun i j=>.bl (decide (j<=i))):=aAY fun _ _ _ _ _ _ _ q=>ge_int q
theorem aLB:OpR X (compareOp .Is) (fun x y H Q=>y=.non/\Q (.bl (decide (x=.non))) H):=by
 intro pins s σ H x y v u Q I rx ry h
 obtain ⟨rfl,q⟩:=h
 cases ry
 refine is_none_gen (wK I q ?_)
 cases x<;>first
  | (cases rx;rfl)
  | (obtain ⟨t,rfl⟩:=rx;rfl)
theorem aH9:OpR X (compareOp .IsNot) (fun x y H Q=>y=.non/\Q (.bl (!decide (x=.non))) H):=by
 intro pins s σ H x y v u Q I rx ry h
 obtain ⟨rfl,q⟩:=h
 cases ry
 refine isnot_none_gen (wK I q ?_)
 cases x<;>first
  | (cases rx;rfl)
  | (obtain ⟨t,rfl⟩:=rx;rfl)
theorem wL:OpR X (compareOp .NotIn) (fun x y H Q=>∃ i j,x=.str i/\y=.str j/\Q (.bl (!(!(Builtin.Str.occurrences j i 0 j.length 1).isEmpty))) H):=by
 intro pins s σ H x y v u Q I rx ry h
 obtain ⟨i,j,rfl,rfl,q⟩:=h
 obtain ⟨t,rfl⟩:=rx
 obtain ⟨t',rfl⟩:=ry
 exact notIn_str (wK I q rfl)
theorem dA(b:Expr){op:CmpOp}(h:op≠.In:=by decide)(h2:op≠.NotIn:=by decide):behindInMarks op b=false:=by
 have e1:(op == CmpOp.In)=false:=by cases op<;>first|rfl|exact absurd rfl h
 have e2:(op == CmpOp.NotIn)=false:=by cases op<;>first|rfl|exact absurd rfl h2
 cases b<;>simp[behindInMarks,e1,e2]
theorem aIA{op:CmpOp}{r:R2}(ho:OpR X (compareOp op) r)(ha:PE X a ta)(hb:PE X b tb)(hm:behindInMarks op b=false):PE X (.Compare a [op] [b] pos) (tOp r ta tb):=by
 intro pins s σ H Q I h
 exact wpAny_Compare1 (aE7 ha hb I h fun v u s2 x y H2 I2 rx ry q=>ho pins s2 σ H2 x y v u Q I2 rx ry q) hm
def aAZ(t:TE):TT:=fun σ H Q=>t σ H fun x H'=>∃ k,x=.bl k/\Q k H'
theorem pQ{op:CmpOp}{r:R2}(ho:OpR X (compareOp op) r)(ha:PE X a ta)(hb:PE X b tb)(hm:behindInMarks op b=false):PT X (.Compare a [op] [b] pos) (aAZ (tOp r ta tb)):=by
 intro pins s σ H Q I h
 refine wpAny_isTrue_Compare1 (thn (ha pins s σ H _ I h) fun v s1 ⟨x,H1,I1,r1,q1⟩=>thn (hb pins s1 σ H1 _ I1 q1) fun u s2 ⟨y,H2,I2,r2,q2⟩=>
  thn (ho pins s2 σ H2 x y v u _ I2 r1 r2 q2) fun c s3 ⟨z,H3,I3,r3,k,e,q3⟩=>?_) hm
 subst e
 cases r3
 exact wpAny_truthy_bool ⟨H3,I3,q3⟩
def tChain(r r':R2)(ta tb tc:TE):TE:=fun σ H Q=>ta σ H fun x H1=>tb σ H1 fun y H2=>r x y H2 fun z H3=>∃ k,z=.bl k /\
 (if k=true then tc σ H3 fun w' H4=>r' y w' H4 Q else Q (.bl false) H3)
theorem aE9{op op':CmpOp}{r r':R2}(ho:OpR X (compareOp op) r)(ho':OpR X (compareOp op') r')(ha:PE X a ta)(hb:PE X b tb)(hc:PE X c tc)
  (hm:lastMarks [op,op'] [b,c]=false:=by with_unfolding_all rfl):PE X (.Compare a [op,op'] [b,c] pos) (tChain r r' ta tb tc):=by
 intro pins s σ H Q I h
 refine Compare_chain (thn (ha pins s σ H _ I h) fun v s1 ⟨x,H1,I1,r1,q1⟩=>chain_link (thn (hb pins s1 σ H1 _ I1 q1) fun u s2 ⟨y,H2,I2,r2,q2⟩=>
  thn (ho pins s2 σ H2 x y v u _ I2 r1 r2 q2) fun d s3 ⟨z,H3,I3,r3,k,e,q3⟩=>?_)) hm
 subst e
 cases r3
 refine wpAny_truthy_bool ?_
 cases k with
 | false=>exact ite_ff ⟨.bl false,H3,I3,rfl,q3⟩
 | true=>exact ite_tt (chain_last (thn (hc pins s3 σ H3 _ I3 q3) fun w' s4 ⟨z',H4,I4,r4,q4⟩=>ho' pins s4 σ H4 y z' u w' Q I4 r2 r4 q4))
theorem qZ{op op':CmpOp}{r r':R2}(ho:OpR X (compareOp op) r)(ho':OpR X (compareOp op') r')(ha:PE X a ta)(hb:PE X b tb)(hc:PE X c tc)
  (hm:lastMarks [op,op'] [b,c]=false:=by with_unfolding_all rfl):PT X (.Compare a [op,op'] [b,c] pos) (aAZ (tChain r r' ta tb tc)):=by
 intro pins s σ H Q I h
 refine isTrue_chain (thn (ha pins s σ H _ I h) fun v s1 ⟨x,H1,I1,r1,q1⟩=>test_link (thn (hb pins s1 σ H1 _ I1 q1) fun u s2 ⟨y,H2,I2,r2,q2⟩=>
  thn (ho pins s2 σ H2 x y v u _ I2 r1 r2 q2) fun d s3 ⟨z,H3,I3,r3,k,e,q3⟩=>?_)) hm
 subst e
 cases r3
 refine wpAny_truthy_bool ?_
 cases k with
 | false=>
  obtain ⟨k',e',q'⟩:=q3
  cases e'
  exact ite_ff ⟨H3,I3,q'⟩
 | true=>
  refine ite_tt (test_last (thn (hc pins s3 σ H3 _ I3 q3) fun w' s4 ⟨z',H4,I4,r4,q4⟩=>thn (ho' pins s4 σ H4 y z' u w' _ I4 r2 r4 q4) fun d' s5 zz0=>?_))
  obtain ⟨z2,H5,I5,r5,k2,e2,q5⟩:=zz0
  subst e2
  cases r5
  exact wpAny_truthy_bool ⟨H5,I5,q5⟩
theorem sA:(sizeLine:Nat) < 2 ^ 63:=by rw[sizeLine_eq];decide
theorem aA0:OpR X (binaryOp .Add) (fun x y H Q=>∃ i j,x=.str i/\y=.str j/\i.length+j.length<=sizeLine/\Q (.str (i++j)) H):=by
 intro pins s σ H x y v u Q I rx ry h
 obtain ⟨i,j,rfl,rfl,hz,q⟩:=h
 obtain ⟨t,rfl⟩:=rx
 obtain ⟨t',rfl⟩:=ry
 exact add_str (fun t' tk=>⟨.str (i++j),H,I.tok _,⟨_,rfl⟩,q⟩) hz
theorem iB{x:V}{us:List Value}(r:bA [x] us):∃ u,us=[u]/\a9 x u:=by
 cases r with
 | cons r1 r2=>cases r2;exact ⟨_,rfl,r1⟩
theorem aA1{x y:V}{us:List Value}(r:bA [x,y] us):∃ u w',us=[u,w']/\a9 x u/\a9 y w':=by
 cases r with
 | cons r1 r2=>
  cases r2 with
  | cons r3 r4=>cases r4;exact ⟨_,_,rfl,r1,r3⟩
theorem aCO:gA X (.type "int") (fun xs H Q=>(∃ i,xs=[.int i]/\Q (.int i) H)\/∃ k,xs=[.bl k]/\Q (.int (if k then 1 else 0)) H):=by
 intro pins s σ H xs us Q I r h
 rcases h with ⟨i,rfl,q⟩|⟨k,rfl,q⟩
 ·obtain ⟨u,rfl,t,rfl⟩:=iB r
  exact call_int_int ⟨.int i,H,I,⟨_,rfl⟩,q⟩
 ·obtain ⟨u,rfl,r1⟩:=iB r
  cases r1
  exact call_int_bool ⟨.int (if k then 1 else 0),H,I.tok _,⟨_,rfl⟩,q⟩
def aLC(K:Frag)(x:V)(H:Hp)(n:Nat):Prop:=
 match x with
 | .str y=>y.length<=sizeLine/\n=y.length
 | .byt y=>y.size<=sizeLine/\n=y.size
 | .ref p=>(∃ xs,SqL K H p xs/\n=xs.length)\/∃ xs,SqT K H p xs/\n=xs.length
 | _=>False
theorem dB:gA X (.builtin "len") (fun xs H Q=>∃ x n,xs=[x]/\aLC X.K x H n/\Q (.int n) H):=by
 intro pins s σ H xs us Q I r h
 obtain ⟨x,n,rfl,e,q⟩:=h
 obtain ⟨u,rfl,rx⟩:=iB r
 have hl:=sA
 have hs:sizeLine=16777216:=sizeLine_eq
 cases x with
 | str y=>
  obtain ⟨t,rfl⟩:=rx
  obtain ⟨hy,e'⟩:y.length<=sizeLine/\n=y.length:=e
  subst e'
  exact len_str (by omega) ⟨.int _,H,I.tok _,⟨_,rfl⟩,q⟩
 | byt y=>
  obtain ⟨t,rfl⟩:=rx
  obtain ⟨hy,e'⟩:y.size<=sizeLine/\n=y.size:=e
  subst e'
  exact PySem.W.len_bytes (by omega) ⟨.int _,H,I.tok _,⟨_,rfl⟩,q⟩
 | ref p=>
  cases rx
  have e':(∃ xs,SqL X.K H p xs/\n=xs.length)\/∃ xs,SqT X.K H p xs/\n=xs.length:=e
  rcases e' with ⟨xs,hx,e'⟩|⟨xs,hx,e'⟩
  ·subst e'
   obtain ⟨its,r',pl,hz⟩:=I.list hx
   have hlen:=r'.length
   exact Calls.call_len_list pl.isList (by simp only[List.size_toArray];omega) ⟨.int xs.length,H,I.tok _,⟨_,by simp only[List.size_toArray];rw[hlen]⟩,q⟩
  ·subst e'
   obtain ⟨its,r',pl,hz⟩:=I.tuple hx
   have hlen:=r'.length
   exact len_tuple pl (by simp only[List.size_toArray];omega) ⟨.int xs.length,H,I.tok _,⟨_,by simp only[List.size_toArray];rw[hlen]⟩,q⟩
 | _=>exact (show False from e).elim
end
end L2
namespace L2
open PySem PySem.Spec PyProof.Rows
structure ObjM(h:Heap)(x dx C:Addr)(mA:Str->Option Value):Prop where
 obj:h.get? x=some (PySem.W.instObj C dx)
 ns:h.Ns1 dx mA
 ne:dx≠x
theorem oO{h:Heap}{dx:Addr}{mA:Str->Option Value}(n:h.Ns1 dx mA):∃ od,h.get? dx=some od/\∀ name,PySem.W.lookIn name od=some (mA name):=by
 obtain ⟨o,es,ep,ho,hd,hk,_,hm⟩:=n
 refine ⟨o,ho,fun name=>?_⟩
 have e:=hm name
 unfold nsFind findBy at e
 rw[<-Array.find?_toList] at e
 unfold PySem.W.lookIn
 rw[hd]
 dsimp only
 split
 ·rename_i y q
  rw[q] at e
  exact congrArg some e
 ·rename_i q
  rw[q] at e
  have a:es.toList.any (·.refKey)=false:=by
   rw[List.any_eq_false]
   intro y hy
   obtain ⟨z,t,hkey⟩:=hk y (Array.mem_toList_iff.mp hy)
   simp[DictEntry.refKey,hkey]
  have a':¬ es.toList.any (·.refKey)=true:=by rw[a];exact Bool.false_ne_true
  rw[if_neg a']
  exact congrArg some e
theorem ObjM.look{h:Heap}{x dx C:Addr}{mA:Str->Option Value}(I:ObjM h x dx C mA):∃ od,PySem.W.InstAt h x (PySem.W.instObj C dx) C (some od)/\∀ name,PySem.W.lookIn name od=some (mA name):=
 let ⟨od,ho,hl⟩:=oO I.ns
 ⟨od,⟨I.obj,rfl,rfl,ho⟩,hl⟩
section
variable{prog:Program}{w:World}{A:Around}{E:Value->Shared->Prop}{s:Shared}{K:Frag}{x dx C f:Addr}{mA:Str->Option Value}{name:Str}{v:Value}
end
noncomputable def tN(f:Str)(v:V):List (Str×V)->List (Str×V)
 | []=>[(f,v)]
 | (g,x)::r=>if g=f then (g,v)::r else (g,x)::tN f v r
theorem qM(f g:Str)(v:V):∀ fs:List (Str×V),(tN f v fs).lookup g=if g=f then some v else fs.lookup g
 | []=>by
  show List.lookup g [(f,v)]=_
  by_cases h:g=f
  ·have hb:(g == f)=true:=beq_iff_eq.mpr h
   simp only[List.lookup,hb,if_pos h]
  ·have hb:(g == f)=false:=beq_eq_false_iff_ne.mpr h
   simp only[List.lookup,hb,if_neg h]
 | (k,x)::r=>by
  have ih:=qM f g v r
  rw[show tN f v ((k,x)::r)=(if k=f then (k,v)::r else (k,x)::tN f v r) from rfl]
  by_cases hk:k=f
  ·rw[if_pos hk]
   by_cases h:g=k
   ·have hb:(g == k)=true:=beq_iff_eq.mpr h
    simp only[List.lookup,hb,if_pos (h.trans hk)]
   ·have hb:(g == k)=false:=beq_eq_false_iff_ne.mpr h
    simp only[List.lookup,hb,if_neg (fun e:g=f=>h (e.trans hk.symm))]
  ·rw[if_neg hk]
   by_cases h:g=k
   ·have hb:(g == k)=true:=beq_iff_eq.mpr h
    simp only[List.lookup,hb,if_neg (fun e:g=f=>hk (h.symm.trans e))]
   ·have hb:(g == k)=false:=beq_eq_false_iff_ne.mpr h
    simp only[List.lookup,hb]
    exact ih
theorem f6.some_of{v:V}{o:Option Value}(r:f6 (some v) o):∃ u,o=some u/\a9 v u:=by
 cases o with
 | none=>exact (show False from r).elim
 | some u=>exact ⟨u,rfl,r⟩
theorem f6.none_of{o:Option Value}(r:f6 none o):o=none:=by
 cases o with
 | none=>rfl
 | some u=>exact (show False from r).elim
section
variable{P:Program}{w:World}{H H':Hp}{h h':Heap}{a C dx:Addr}{fs fs':List (Str×V)}
theorem aIB(hok:HOk P w H h)(e:H a=some (.ins C dx fs)):∃ mA,ObjM h a dx C mA/\(∀ f,f6 (fs.lookup f) (mA f))/\PySem.Within mA (fs.map (·.1))/\fs.length<=1000/\H dx=some (.own a):=by
 obtain ⟨d,z,ne,ob,mA,n,r,q⟩:=(show b5 P w H h a (.ins C dx fs) from hok a _ e)
 exact ⟨mA,⟨ob,n,ne⟩,r,q,z,d⟩
end
structure Cls(K:Frag)(C:Addr):Prop where
 pg:PySem.W.plainGet K C Str.empty=true
 hd:PySem.W.hasDictIn K C=true
 po:PySem.W.plainOver K C=true
 sa:PySem.W.findIn K (.ref C) "__setattr__"=some (some (.builtin "object.__setattr__"))
theorem Cls.get{K:Frag}{C:Addr}(c:Cls K C)(f:Str):PySem.W.plainGet K C f=true:=c.pg
structure Con(K:Frag)(C:Addr)(f:Str)(v:V)(u:Value):Prop where
 at_:PySem.W.findIn K (.ref C) f=some (some u)
 rel:a9 v u
 get:PySem.W.specialIn K u "__get__"=some none
 cp:PySem.W.copiedNames.contains f=false
structure Meth(K:Frag)(C:Addr)(m:Str)(f:Addr):Prop where
 at_:PySem.W.findIn K (.ref C) m=some (some (.ref f))
 fn:PySem.W.isFn K (.ref f)=true
 kp:PySem.W.keepIn K (.ref f)=true
section
variable{X:Cx}{pins:List (Addr×Obj)}{σ:St}{H:Hp}{s:Shared}{a C dx:Addr}{fs:List (Str×V)}{f:Str}{v:V}{A:Around}{E:Value->Shared->Prop}
end
section
variable{X:Cx}{pins:List (Addr×Obj)}{σ:St}{H:Hp}{s:Shared}{A:Around}{E:Value->Shared->Prop}{Q:Value->Shared->Prop}{c:Value}{b:Bool}
inductive TyOf(K:Frag)(H:Hp):V->Value->Prop where
 | non:TyOf K H .non (.type "NoneType")
 | bl (x:Bool):TyOf K H (.bl x) (.type "bool")
 | int (i:Int):TyOf K H (.int i) (.type "int")
 | str (x:Str):TyOf K H (.str x) (.type "str")
 | flt (x:UInt64):TyOf K H (.flt x) (.type "float")
 | lst {a:Addr} {xs:List V} (e:H a=some (.lst xs)):TyOf K H (.ref a) (.type "list")
 | frz {a:Addr} {o:Obj} {xs:List V} (e:H a=some (.frz o (.lst xs))):TyOf K H (.ref a) (.type "list")
 | tup {a:Addr} {xs:List V} (e:H a=some (.tup xs)):TyOf K H (.ref a) (.type "tuple")
 | dK {a:Addr} {kvs:List (Key×V)} (e:H a=some (.dK kvs)):TyOf K H (.ref a) (.type "dict")
 | dT {a:Addr} {kvs:List (List Key×V)} (e:H a=some (.dT kvs)):TyOf K H (.ref a) (.type "dict")
 | ins {a C dx:Addr} {fs:List (Str×V)} (e:H a=some (.ins C dx fs)) (cl:Cls K C) (ha:PySem.W.findIn K (.ref C) "__class__"=some (some (.builtin "object.__class__")))
  (hn:PySem.W.specialIn K (.builtin "object.__class__") "__get__"=some (some (.builtin "getset_descriptor.__get__"))) (htk:PySem.W.takesIn K (.builtin "object.__class__")=some true)
  (hm:PySem.W.mroIn K C (.type "object")=some true):TyOf K H (.ref a) (.ref C)
theorem aCP{x:V}{u t:Value}(I:Inv X pins σ H s)(rx:a9 x u)(ty:TyOf X.K H x t)(e:PySem.W.kitOne X.K t c=some b)(h:∀ tk,Q (.bool b) {s with toks:=tk}) :
  wpAny (model X.prog X.w) A (call (.builtin "isinstance") [u,c]) Q E s:=by
 cases ty with
 | non=>cases (show u=Value.none from rx);exact PySem.W.kia_one PySem.W.kitx_none I.kIn True.intro e (fun z=>nomatch z) h
 | bl y=>cases (show u=Value.bool y from rx);exact PySem.W.kia_one PySem.W.kitx_bool I.kIn True.intro e (fun z=>nomatch z) h
 | int i=>obtain ⟨t,q⟩:=(show ∃ t,u=Value.int i t from rx);cases q;exact PySem.W.kia_one PySem.W.kitx_int I.kIn True.intro e (fun z=>nomatch z) h
 | str y=>obtain ⟨t,q⟩:=(show ∃ t,u=Value.str y t from rx);cases q;exact PySem.W.kia_one PySem.W.kitx_str I.kIn True.intro e (fun z=>nomatch z) h
 | flt y=>obtain ⟨t,q⟩:=(show ∃ t,u=Value.float y t from rx);cases q;exact PySem.W.kia_one PySem.W.kitx_float I.kIn True.intro e (fun z=>nomatch z) h
 | @lst a xs ea=>
  cases (show u=Value.ref a from rx)
  obtain ⟨_,_,n,_,h1⟩:=(show b5 X.prog X.w H s.heap a (.lst xs) from I.hok a _ ea)
  exact PySem.W.kia_one PySem.W.kitx_list I.kIn ⟨_,h1,rfl⟩ e (fun z=>nomatch z) h
 | @frz a ob xs ea=>
  cases (show u=Value.ref a from rx)
  obtain ⟨_,_,_,n,_,h1⟩:=(show b5 X.prog X.w H s.heap a (.frz ob (.lst xs)) from I.hok a _ ea)
  exact PySem.W.kia_one PySem.W.kitx_list I.kIn ⟨_,h1,rfl⟩ e (fun z=>nomatch z) h
 | @tup a xs ea=>
  cases (show u=Value.ref a from rx)
  obtain ⟨_,_,_,p⟩:=(show b5 X.prog X.w H s.heap a (.tup xs) from I.hok a _ ea)
  obtain ⟨o,h1,h2,_⟩:=p
  exact PySem.W.kia_one PySem.W.kitx_tuple I.kIn ⟨o,h1,h2.1⟩ e (fun z=>nomatch z) h
 | @dK a kvs ea=>
  cases (show u=Value.ref a from rx)
  obtain ⟨_,_,vs,_,p⟩:=(show b5 X.prog X.w H s.heap a (.dK kvs) from I.hok a _ ea)
  obtain ⟨o,es,ep,h1,h2,_⟩:=p
  exact PySem.W.kia_one PySem.W.kitx_dict I.kIn ⟨o,h1,h2.1⟩ e (fun z=>nomatch z) h
 | @dT a kvs ea=>
  cases (show u=Value.ref a from rx)
  obtain ⟨_,_,xs,_,o,es,ep,h1,h2,_⟩:=(show b5 X.prog X.w H s.heap a (.dT kvs) from I.hok a _ ea)
  exact PySem.W.kia_one PySem.W.kitx_dict I.kIn ⟨o,h1,h2.1⟩ e (fun z=>nomatch z) h
 | @ins a C dx fs ea cl ha hn htk hm=>
  cases (show u=Value.ref a from rx)
  obtain ⟨mA,O,_⟩:=aIB I.hok ea
  obtain ⟨od,J,_⟩:=O.look
  exact PySem.W.kia_one (PySem.W.kitx_own (cl.get _) cl.hd ha hn htk hm) I.kIn J e (fun z=>nomatch z) h
end
end L2
namespace L2
open PySem PySem.Spec PyProof.Rows
structure Room(k:Nat)(A:Around):Prop where
 hd:A.handled=none
 dp:A.depth+3 * k+5 < recursionLimit
 un:A.units+16 * k+200 < cLine
theorem Room.mono{j k:Nat}{A:Around}(r:Room k A)(h:j<=k):Room j A:=⟨r.hd,by have:=r.dp;omega,by have:=r.un;omega⟩
theorem Room.deeper{k:Nat}{A:Around}(r:Room (k+1) A)(env:Env):Room k (A.deeper env):=
 ⟨r.hd,by have:=r.dp;show A.depth+1+3 * k+5 < _;omega,by have:=r.un;show A.units+3+16 * k+200 < _;omega⟩
theorem aA2{A:Around}{C:Addr}{us:List Value}{kw:List (Str×Value)}:(A.under (.builtin "type.__call__" ⟨.ref C::us,kw⟩)).depth=A.depth+1:=by
 first|rfl|simp[Around.under,Code.weight,Code.isCreation,Code.isGuard,Code.isCaller,Code.frames,Code.isFrame,guardIds]
theorem aA3{A:Around}{C:Addr}{us:List Value}{kw:List (Str×Value)}:(A.under (.builtin "type.__call__" ⟨.ref C::us,kw⟩)).units=A.units+1:=by
 first|rfl|simp[Around.under,Code.cUnits,Code.frames,Code.isFrame]
theorem Room.make{k:Nat}{A:Around}(r:Room (k+1) A)(C:Addr)(us:List Value)(kw:List (Str×Value)):Room k (A.under (.builtin "type.__call__" ⟨.ref C::us,kw⟩)):=
 ⟨r.hd,by have:=r.dp;rw[aA2];omega,by have:=r.un;rw[aA3];omega⟩
theorem Room.depth{k:Nat}{A:Around}(r:Room k A):A.depth < recursionLimit:=by have:=r.dp;omega
theorem Room.units{k:Nat}{A:Around}(r:Room k A):A.units+64 < cLine:=by have:=r.un;omega
def gH:TA:=fun _ H Q=>Q [] H
def eX(ta:TE)(tr:TA):TA:=fun σ H Q=>ta σ H fun x H1=>tr σ H1 fun xs H2=>Q (x::xs) H2
section
variable{X:Cx}{e:Expr}{es:List Expr}{te:TE}{t:TA}{pos:Pos}
theorem aW:PA X [] gH:=fun _ _ _ _ H Q I h=>Calls.spliced_nil ⟨[],H,I,.nil,h⟩
theorem aP(ha:PE X e te)(hr:PA X es t)(hs:starEach (e::es) X.env=(false,eval e X.env)::starEach es X.env:=by rfl):PA X (e::es) (eX te t):=by
 intro pos pins s σ H Q I h
 rw[hs]
 show wpAny _ _ (spliced ((false,eval e X.env)::backTo pos (starEach es X.env))) _ _ s
 refine Calls.spliced_cons (thn (ha pins s σ H _ I h) fun u s1 zz0=>?_)
 obtain ⟨x,H1,I1,r1,q1⟩:=zz0
 exact thn (hr pos pins s1 σ H1 _ I1 q1) fun us s2 ⟨xs,H2,I2,r2,q2⟩=>⟨x::xs,H2,I2,.cons r1 r2,q2⟩
def aO3(t:TA):TE:=fun σ H Q=>t σ H fun xs H1=>xs.length<=sizeLine/\∀ p,H1 p=none->Q (.ref p) (upd H1 p (.tup xs))
def aO4(t:TA):TE:=fun σ H Q=>t σ H fun xs H1=>xs.length<=sizeLine/\∀ p,H1 p=none->Q (.ref p) (upd H1 p (.lst xs))
theorem aLD{x1}(h:PA X es t):PE X (.Tuple es x1 pos) (aO3 t):=by
 intro pins s σ H Q I hq
 refine wpAny_Tuple_spliced (thn (h pos pins s σ H _ I hq) fun us s1 ⟨xs,H1,I1,r,z,q⟩=>⟨by rw[<-r.length];exact z,?_⟩)
 have hf:H1 s1.heap.objs.size=none:=I1.hok.fresh (Nat.le_refl _)
 refine ⟨.ref s1.heap.objs.size,upd H1 s1.heap.objs.size (.tup xs),I1.laid (t':=s1.toks) (fun b u e=>Heap.get?_push_of_some _ e) (Nat.le_refl _) ?_,rfl,q _ hf⟩
 exact ⟨z,us,r,⟨_,Heap.get?_push_size _ rfl,⟨rfl,rfl⟩,_,rfl⟩⟩
theorem aLE(h:PA X es t):PE X (.List es pos) (aO4 t):=by
 intro pins s σ H Q I hq
 refine wpAny_List_spliced (thn (h pos pins s σ H _ I hq) fun us s1 ⟨xs,H1,I1,r,z,q⟩=>⟨by rw[<-r.length];exact z,?_⟩)
 have hf:H1 s1.heap.objs.size=none:=I1.hok.fresh (Nat.le_refl _)
 refine ⟨.ref s1.heap.objs.size,upd H1 s1.heap.objs.size (.lst xs),I1.laid (t':=s1.toks) (fun b u e=>Heap.get?_push_of_some _ e) (Nat.le_refl _) ?_,rfl,q _ hf⟩
 exact ⟨z,us,0,r,Heap.get?_push_size _ rfl⟩
end
abbrev Sp:=List V->Hp->VK->XK->Prop
abbrev CXT:=List Env->Hp->Shared->XK->Value->Shared->Prop
structure Env0(P:Program)(w:World)(K:Frag)(mg:Str->Option Value)(base:Heap)(A:Around)(outer:List Env)(s:Shared)(H:Hp):Prop where
 frames:A.frames=some outer
 mod:Mod K mg base
 bs:∀ b o,base.get? b=some o->s.heap.get? b=some o/\H b=none
 bsz:base.objs.size<=s.heap.objs.size
 funs:s.heap.FunFrames base outer
 frf:∀ b∈frs outer,H b=none
 hok:HOk P w H s.heap
 bare:AllBare s.gens
def CE(outer:List Env)(P:Program)(w:World)(H:Hp)(s:Shared)(Q:VK)(u:Value)(s':Shared):Prop:=
 ∃ v H',s'.os=s.os/\AllBare s'.gens/\Un (frs outer) [] H H' s.heap s'.heap/\HOk P w H' s'.heap/\a9 v u/\Q v H'
def CR(CX:CXT)(outer:List Env)(P:Program)(w:World)(H:Hp)(s:Shared)(Q:VK)(E:XK)(r:Result)(s':Shared):Prop:=
 match r with
 | .ok (.ret u)=>CE outer P w H s Q u s'
 | .ok _=>False
 | .error e=>CX outer H s E e s'
structure FnOk(P:Program)(w:World)(K:Frag)(mg:Str->Option Value)(base:Heap)(CX:CXT)(k:Nat)(f:Addr)(fd:FuncData)(ps:List Str)(sp:Sp):Prop where
 len:∀ vs H Q E,sp vs H Q E->vs.length=ps.length
 run:∀ (A:Around) (outer:List Env) (s:Shared) (H:Hp) (args:Args) (us:List Value) (vs:List V) (Q:VK) (E:XK),Room k A->Env0 P w K mg base A outer s H->BindsTo s fd args (ps.zip us)->bA vs us->sp vs H Q E->
  codeAny (model P w) A (.call (.ref f) args) (CR CX outer P w H s Q E) s
theorem FnOk.imp{P:Program}{w:World}{K:Frag}{mg:Str->Option Value}{base:Heap}{CX:CXT}{k:Nat}{f:Addr}{fd:FuncData}{ps:List Str}{sp sp':Sp}(F:FnOk P w K mg base CX k f fd ps sp)
  (h:∀ vs H Q E,sp' vs H Q E->sp vs H Q E):FnOk P w K mg base CX k f fd ps sp':=
 ⟨fun vs H Q E q=>F.len vs H Q E (h _ _ _ _ q),fun A outer s H args us vs Q E hr he hb hv hs=>F.run A outer s H args us vs Q E hr he hb hv (h _ _ _ _ hs)⟩
theorem Env0.make{P:Program}{w:World}{K:Frag}{mg:Str->Option Value}{base:Heap}{A:Around}{outer:List Env}{s:Shared}{H:Hp}(e:Env0 P w K mg base A outer s H)(C:Addr)(us:List Value)(kw:List (Str×Value)) :
 Env0 P w K mg base (A.under (.builtin "type.__call__" ⟨.ref C::us,kw⟩)) outer s H:=⟨by first|exact e.frames|(simpa[Around.under,Code.envs,Code.isFrame,pushEnvs] using e.frames),e.mod,e.bs,e.bsz,e.funs,e.frf,e.hok,e.bare⟩
section
variable{X:Cx}{pins:List (Addr×Obj)}{σ:St}{H:Hp}{s s':Shared}
theorem Inv.env0(I:Inv X pins σ H s):Env0 X.prog X.w X.K X.mg X.base X.A X.stack s H:=
 ⟨I.ok.frames,I.ok.mod,I.bs,Nat.le_trans I.ok.bsz I.sz,I.stack,I.stkFree,I.hok,I.bare⟩
theorem Inv.after{Q:VK}{u:Value}(I:Inv X pins σ H s)(h:CE X.stack X.prog X.w H s Q u s'):EP X pins σ Q u s':=by
 obtain ⟨v,H',os,bare,un,hok,r,q⟩:=h
 obtain ⟨hh,g,d,t,os'⟩:=s'
 obtain rfl:os'=s.os:=os
 exact ⟨v,H',I.call (h':=hh) (g':=g) (d':=d) (t':=t) (ch:=[]) un hok bare (fun b z=>absurd z (by simp)),r,q⟩
end
def aA4(sp:Sp)(dvs:List V)(E:XK)(t:TA):TE:=fun σ H Q=>t σ H fun vs H1=>sp (vs++dvs) H1 Q E
def fQ(K:Frag)(fd:FuncData)(ps:List Str)(ds:List Value):Prop:=
 ∀ (s:Shared) (us:List Value),K.In s.heap->(us++ds).length=ps.length->BindsTo s fd ⟨us,[]⟩ (ps.zip (us++ds))
theorem fQ.all{K:Frag}{fd:FuncData}{ps:List Str}(h:∀ us:List Value,us.length=ps.length->bindArgs fd ⟨us,[]⟩=pure (ps.zip us)):fQ K fd ps []:=fun s us _ hl=>by
 rw[List.append_nil] at hl ⊢
 exact .of_eq (h us hl)
def oP(CX:CXT)(X:Cx)(E:XK):Prop:=∀ (pins:List (Addr×Obj)) (σ:St) (H:Hp) (s:Shared) (e:Value) (s':Shared),Inv X pins σ H s->CX X.stack H s E e s'->X.xe e s'
section
variable{X:Cx}{CX:CXT}{k:Nat}{f C:Addr}{fd:FuncData}{ps:List Str}{sp:Sp}{dvs:List V}{ds:List Value}{E:XK}{x m:Str}{p pos apos:Pos}{e o:Expr}{es:List Expr}{ta:TE}{t:TA}
theorem aLF{pins:List (Addr×Obj)}{σ:St}{H:Hp}{s:Shared}{Q:VK}{us:List Value}{vs:List V}(F:FnOk X.prog X.w X.K X.mg X.base CX k f fd ps sp)(hr:Room k X.A)(hb:fQ X.K fd ps ds)(hd:bA dvs ds)(hx:oP CX X E)
  (I:Inv X pins σ H s) (r:bA vs us) (h:sp (vs++dvs) H Q E):wpAny (model X.prog X.w) X.A (call (.ref f) us) (EP X pins σ Q) X.xe s:=by
 have r2:bA (vs++dvs) (us++ds):=r.append hd
 have hl:(us++ds).length=ps.length:=by rw[<-r2.length];exact F.len _ _ _ _ h
 refine wpAny_call (codeAny_mono (F.run X.A X.stack s H ⟨us,[]⟩ (us++ds) (vs++dvs) Q E hr I.env0 (hb s us I.kIn hl) r2 h) fun r s' hq=>?_)
 cases r with
 | error e=>exact hx pins σ H s e s' I hq
 | ok fl=>
  cases fl with
  | ret u=>exact I.after hq
  | next=>exact False.elim hq
  | brk=>exact False.elim hq
  | cont=>exact False.elim hq
theorem aIC(F:FnOk X.prog X.w X.K X.mg X.base CX k f fd ps sp)(hr:Room k X.A)(hg:Gl X x)(hm:X.mg x=some (.ref f))(hk:PySem.W.keepIn X.K (.ref f)=true)(hb:fQ X.K fd ps ds)(hd:bA dvs ds)(hx:oP CX X E)
  (ha:PA X (e::es) t) (hdb:(x == ("__debug__":Str))=false:=by decide) (he:starEach (e::es) X.env=(false,eval e X.env)::starEach es X.env:=by rfl) (hpl:(backTo pos (starEach es X.env)).any (·.1)=false:=by rfl) :
  PE X (.Call (.Name x p) (e::es) [] pos) (aA4 sp dvs E t):=by
 intro pins s σ H Q I h
 refine wpAny_Call_Name_kw (mH I hg hm ?_ hdb)
 refine PySem.W.callWith_K (h₀:=X.base) I.ok.mod.kin hk (thn (ha pos pins s σ H _ I h) fun us s1 ⟨vs,H1,I1,r,q⟩=>⟨I1.kIn,?_⟩) he hpl
 exact aLF F hr hb hd hx I1 r q
structure Mk(K:Frag)(C f:Addr):Prop where
 makes:PySem.W.makesIn K C=true
 init:PySem.W.findIn K (.ref C) "__init__"=some (some (.ref f))
 fn:PySem.W.isFn K (.ref f)=true
 kp:PySem.W.keepIn K (.ref C)=true
end
section
variable{X:Cx}{CX:CXT}{k:Nat}{f C:Addr}{fd:FuncData}{ps ks:List Str}{sp:Sp}{E:XK}{x m:Str}{p pos apos kpos:Pos}{e o:Expr}{es:List Expr}{kws:List Keyword}{te ta:TE}{t tk:TA}{nm:Option Str}
structure KBinds(K:Frag)(fd:FuncData)(ps ks:List Str)(g:List Value->List Value->List Value)(gV:List V->List V->List V):Prop where
 to:∀ (s:Shared) (us ws:List Value),K.In s.heap->(g us ws).length=ps.length->BindsTo s fd ⟨us,ks.zip ws⟩ (ps.zip (g us ws))
 rel:∀ {vs:List V} {us:List Value} {zs:List V} {ws:List Value},bA vs us->bA zs ws->bA (gV vs zs) (g us ws)
variable{g:List Value->List Value->List Value}{gV:List V->List V->List V}
end
structure FnScope(N P:List Str)(sc:Scope):Prop where
 kind:sc.kind=.function
 co:sc.isCoroutine=false
 gen:sc.isGenerator=false
 nd:N.Nodup
 pre:N.take P.length=P
 par:∀ x∈P,sc.names.lookup x=some .local\/sc.names.lookup x=some .cell
 nofree:∀ y∈sc.names,y.2≠.free
theorem uU{kindOf:Str->Option NameKind}{x:Str}:∀ {binds:List (Str×Value)} {m:Str->Option Value},(∀ v,(x,v)∉binds)->bindL kindOf binds m x=m x
 | [],_,_=>rfl
 | (n,v)::r,m,h=>by
  unfold bindL
  rw[uU fun w hw=>h w (List.mem_cons_of_mem _ hw)]
  split
  ·have:x≠n:=by rintro rfl;exact h v List.mem_cons_self
   simp[this]
  ·rfl
theorem uV{kindOf:Str->Option NameKind}{x:Str}:∀ {binds:List (Str×Value)} {m:Str->Option Value},(∀ v,(x,v)∉binds)->bindC kindOf binds m x=m x
 | [],_,_=>rfl
 | (n,v)::r,m,h=>by
  unfold bindC
  rw[uV fun w hw=>h w (List.mem_cons_of_mem _ hw)]
  split
  ·rfl
  ·have:x≠n:=by rintro rfl;exact h v List.mem_cons_self
   simp[this]
theorem uW{kindOf:Str->Option NameKind}{x:Str}{v:Value}:∀ {P:List Str} {vs:List Value} {i:Nat} {m:Str->Option Value},P.Nodup->P[i]? = some x->vs[i]? = some v->kindOf x=some .local->
  bindL kindOf (P.zip vs) m x=some v
 | [],_,_,_,_,h,_,_=>by simp at h
 | _::_,[],_,_,_,_,h,_=>by simp at h
 | p::P,w::vs,0,m,nd,h1,h2,hk=>by
  simp at h1 h2;subst h1;subst h2
  show bindL kindOf ((p,w)::P.zip vs) m p=_
  unfold bindL
  rw[uU fun v hv=>(List.nodup_cons.mp nd).1 (List.of_mem_zip hv).1,if_pos hk]
  simp
 | p::P,w::vs,i+1,m,nd,h1,h2,hk=>by
  show bindL kindOf ((p,w)::P.zip vs) m x=_
  unfold bindL
  exact uW (i:=i) (List.nodup_cons.mp nd).2 (by simpa using h1) (by simpa using h2) hk
theorem uX{kindOf:Str->Option NameKind}{x:Str}{v:Value}:∀ {P:List Str} {vs:List Value} {i:Nat} {m:Str->Option Value},P.Nodup->P[i]? = some x->vs[i]? = some v->kindOf x≠some .local->
  bindC kindOf (P.zip vs) m x=some v
 | [],_,_,_,_,h,_,_=>by simp at h
 | _::_,[],_,_,_,_,h,_=>by simp at h
 | p::P,w::vs,0,m,nd,h1,h2,hk=>by
  simp at h1 h2;subst h1;subst h2
  show bindC kindOf ((p,w)::P.zip vs) m p=_
  unfold bindC
  rw[uV fun v hv=>(List.nodup_cons.mp nd).1 (List.of_mem_zip hv).1,if_neg hk]
  simp
 | p::P,w::vs,i+1,m,nd,h1,h2,hk=>by
  show bindC kindOf ((p,w)::P.zip vs) m x=_
  unfold bindC
  exact uX (i:=i) (List.nodup_cons.mp nd).2 (by simpa using h1) (by simpa using h2) hk
noncomputable def start(N:List Str)(vs:List V):St:=vs.map some++List.replicate (N.length - vs.length) none
noncomputable def iT(CX:CXT)(P:Program)(w:World)(K:Frag)(mg:Str->Option Value)(base:Heap)(N:List Str)(qual:Str)(scope:Scope)(f:Addr)(cd:Value)(A:Around)(outer:List Env)(s:Shared)(H:Hp)(E:XK):Cx where
 prog:=P
 w:=w
 K:=K
 mg:=mg
 base:=base
 A:=A.deeper (envOfC qual scope s.heap.objs.size f cd)
 N:=N
 s₀:=s
 H₀:=H
 env:=envOfC qual scope s.heap.objs.size f cd
 outer:=outer
 stack:=envOfC qual scope s.heap.objs.size f cd::outer
 ex:=[]
 calm:=true
 fn:=fun _=>true
 pn:=[]
 xe:=fun e s'=>wpAny (model P w) (A.deeper (envOfC qual scope s.heap.objs.size f cd)) (leaving (envOfC qual scope s.heap.objs.size f cd) e) (fun _ s''=>CX outer H s E e s'') (fun e' s''=>CX outer H s E e' s'') s'
theorem wM{sc:Scope}{n:Nat}{x:Str}(h:sc.names.lookup x=some .cell):∃ c,(cellsFrom n sc.names []).lookup x=some c:=by
 have q:=PySem.W.cellsFrom_some sc.names n [] (.inl h)
 exact Option.isSome_iff_exists.mp q
theorem aCQ{CX:CXT}{P:Program}{w:World}{K:Frag}{mg:Str->Option Value}{base:Heap}{N ps:List Str}{qual:Str}{scope:Scope}{f:Addr}{cd:Value}{A:Around}{outer:List Env}{s s1:Shared}{H:Hp}{E:XK}{us:List Value}{vs:List V}
  (S:FnScope N ps scope) (hd:A.handled=none) (e0:Env0 P w K mg base A outer s H) (hl:vs.length=ps.length) (r:bA vs us)
  (x:InCallC s s.heap.objs.size (bindL (envOfC qual scope s.heap.objs.size f cd).kindOf (ps.zip us) fun _=>none) (cellsFrom (s.heap.objs.size+1) scope.names []) (bindC (envOfC qual scope s.heap.objs.size f cd).kindOf (ps.zip us) fun _=>none) s1) :
  Inv (iT CX P w K mg base N qual scope f cd A outer s H E) [] (start N vs) H s1:=by
 have hpl:ps.length<=N.length:=by have:=congrArg List.length S.pre;rw[List.length_take] at this;omega
 obtain ⟨h1,tk,rfl,hk⟩:=x.done
 have noA:∀ b:Addr,b∉(iT CX P w K mg base N qual scope f cd A outer s H E).ex:=fun b z=>absurd (show b∈([]:List Addr) from z) (by simp)
 refine ⟨⟨e0.mod,S.kind,rfl,rfl,Nat.le_refl _,fun y z c h1 h2=>?_,fun y hy=>?_,fun y c _ h=>?_,fun _=>hd,Around.frames_deeper e0.frames,.inr ⟨rfl,rfl⟩,fun b z=>absurd z (noA b),e0.bs,e0.bsz,fun b _ _=>noA b,fun b z=>absurd z (noA b),e0.funs,e0.frf⟩,
  rfl,e0.bare,Un.kept hk,⟨_,x.toInCall.ns,fun i y v h1 h2 h3=>?_⟩,fun y c h=>⟨_,x.cell y c h⟩,e0.hok.fresh (Nat.le_refl _),fun y c h=>?_,fun p hp=>absurd (show p∈([]:List (Addr×Obj)) from hp) (by simp),e0.hok.kept hk,?_⟩
 ·exact name_of_addr x.apart (PySem.mem_of_lookup h1) (PySem.mem_of_lookup h2)
 ·have hy:scope.names.lookup y=some .cell\/scope.names.lookup y=some .free:=hy
  rcases hy with hy|hy
  ·exact wM hy
  ·exact absurd rfl (S.nofree _ (PySem.mem_of_lookup hy))
 ·exact Nat.le_of_lt (x.above y c (PySem.mem_of_lookup h))
 ·have hi:i < vs.length:=by
   unfold start at h2
   by_cases hi:i < vs.length
   ·exact hi
   ·rw[List.getElem?_append_right (by simpa using hi)] at h2
    rw[List.getElem?_replicate] at h2
    split at h2<;>cases h2
  have ha:vs[i]? = some v:=by
   unfold start at h2
   rw[List.getElem?_append_left (by simpa using hi),List.getElem?_map] at h2
   cases e:vs[i]? with
   | none=>rw[e] at h2;cases h2
   | some a=>rw[e] at h2;cases h2;rfl
  obtain ⟨u,hu,rv⟩:=r.get ha
  have hp:ps[i]? = some y:=by
   rw[<-S.pre,List.getElem?_take_of_lt (by omega)];exact h1
  have ndP:ps.Nodup:=by rw[<-S.pre];exact S.nd.sublist (List.take_sublist _ _)
  refine ⟨u,rv,?_⟩
  rcases S.par y (List.mem_of_getElem? hp) with k|k
  ·exact .inl ⟨k,uW ndP hp hu k⟩
  ·obtain ⟨c,e⟩:=wM (n:=s.heap.objs.size+1) k
   refine .inr ⟨.inl k,c,e,?_⟩
   have q:=x.cell y c e
   rw[uX ndP hp hu (by show scope.names.lookup y≠_;rw[k];decide)] at q
   exact q
 ·exact e0.hok.fresh (Nat.le_of_lt (x.above y c (PySem.mem_of_lookup h)))
 ·unfold start
  show _=N.length
  rw[List.length_append,List.length_map,List.length_replicate]
  omega
theorem aHL{CX:CXT}{P:Program}{w:World}{K:Frag}{mg:Str->Option Value}{base:Heap}{k:Nat}{f:Addr}{name qual:Str}{params:Arguments}{body:List Stmt}{scope:Scope}{dV kV doc pm cdv ct oc:Value}{an od:Option Addr}
  {osl:Array (Option Value)} {N ps:List Str} {sp:Sp} (lk:K.lookup f=some ⟨oc,od,.func (PySem.W.fnOf name qual params body scope dV kV doc pm an cdv ct),osl⟩) (hcd:PySem.W.codeIn K cdv qual=true) (S:FnScope N ps scope)
  (len:∀ vs H Q E,sp vs H Q E->vs.length=ps.length)
  (hbody:∀ (A:Around) (outer:List Env) (s:Shared) (H:Hp) (vs:List V) (Q:VK) (E:XK),Room k (A.deeper (envOfC qual scope s.heap.objs.size f cdv))->sp vs H Q E->
   ∃ t,PSs (iT CX P w K mg base N qual scope f cdv A outer s H E) body t/\t {nx:=fun _ H'=>Q .non H',rt:=Q} (start N vs) H) :
  FnOk P w K mg base CX (k+1) f (PySem.W.fnOf name qual params body scope dV kV doc pm an cdv ct) ps sp:=by
 refine ⟨len,fun A outer s H args us vs Q E hr e0 hb r hsp=>?_⟩
 have hl:=len _ _ _ _ hsp
 have KX:K.In s.heap:=e0.mod.kin.keeps fun b o e=>(e0.bs b o e).1
 have lim:s.heap.NoLimit:=e0.mod.nolimit.keeps fun b o e=>(e0.bs b o e).1
 have hkind:∀ y∈ps.zip us,scope.names.lookup y.1=some .local\/(scope.names.lookup y.1=some .cell/\((cellsFrom (s.heap.objs.size+1) scope.names []).lookup y.1).isSome=true):=fun zz0 hy=>by
  obtain ⟨n,v⟩:=zz0
  rcases S.par n (List.of_mem_zip hy).1 with q|q
  ·exact .inl q
  ·exact .inr ⟨q,PySem.W.cellsFrom_some _ _ _ (.inl q)⟩
 refine codeAny_call_function hr.depth (KX _ _ lk) rfl S.co S.gen rfl (PySem.W.codeRec_of KX hcd) (hb _ _ _ _ ?_)
 refine wpAny_newFunctionEnv_cells S.kind hkind fun env he s1 x=>?_
 subst he
 refine ⟨lim.keeps x.toInCall.keep,codeAny_func ?_⟩
 obtain ⟨t,ht,hq⟩:=hbody A outer s H vs Q E (hr.deeper _) hsp
 have I:Inv (iT CX P w K mg base N qual scope f cdv A outer s H E) [] (start N vs) H s1:=aCQ S hr.hd e0 hl r x
 refine wpAny_mono (ht [] s1 (start N vs) H _ I hq) (fun fl s' hs=>?_) fun e s' hs=>hs
 have fin:∀ {σ':St} {H':Hp} {v:V} {u:Value},Inv (iT CX P w K mg base N qual scope f cdv A outer s H E) [] σ' H' s'->a9 v u->Q v H'->CE outer P w H s Q u s':=
  fun {σ' H' v u} J rv q=>⟨v,H',J.os,J.bare,J.base,J.hok,rv,q⟩
 cases fl with
 | ret u=>
  obtain ⟨v,σ',H',J,rv,q⟩:=hs
  exact fin J rv q
 | next=>
  obtain ⟨σ',H',J,q⟩:=hs
  exact fin (v:=V.non) (u:=Value.none) J rfl q
 | brk=>
  obtain ⟨_,_,_,q⟩:=hs
  exact False.elim q
 | cont=>
  obtain ⟨_,_,_,q⟩:=hs
  exact False.elim q
end L2
namespace L2
open PySem PySem.Spec PyProof.Rows
section
variable{X:Cx}{x:Str}{p pos:Pos}{e:Expr}{es:List Expr}{t:TA}{id T:String}{r:List V->Hp->VK->Prop}
def tCB(r:List V->Hp->VK->Prop)(t:TA):TE:=fun σ H Q=>t σ H fun vs H1=>r vs H1 Q
theorem cB(hc:gA X (.builtin id) r)(hg:Gl X x)(hm:X.mg x=none)(hv:bootBuiltins x=some (.builtin id))(ha:PA X (e::es) t)(hn:x≠"__name__":=by decide)(hdb:(x == ("__debug__":Str))=false:=by decide)
  (he:starEach (e::es) X.env=(false,eval e X.env)::starEach es X.env:=by rfl) (hpl:(backTo pos (starEach es X.env)).any (·.1)=false:=by rfl):PE X (.Call (.Name x p) (e::es) [] pos) (tCB r t):=by
 intro pins s σ H Q I h
 refine wpAny_Call_Name_kw (kW I hg hm hv ?_ hn hdb)
 exact PyProof.Rows.callWith_builtin1 (thn (ha pos pins s σ H _ I h) fun us s1 ⟨vs,H1,I1,r1,q1⟩=>hc pins s1 σ H1 vs us Q I1 r1 q1) he hpl
theorem cP(hc:gA X (.type T) r)(hg:Gl X x)(hm:X.mg x=none)(hv:bootBuiltins x=some (.type T))(ha:PA X (e::es) t)(hn:x≠"__name__":=by decide)(hdb:(x == ("__debug__":Str))=false:=by decide)
  (he:starEach (e::es) X.env=(false,eval e X.env)::starEach es X.env:=by rfl) (hpl:(backTo pos (starEach es X.env)).any (·.1)=false:=by rfl):PE X (.Call (.Name x p) (e::es) [] pos) (tCB r t):=by
 intro pins s σ H Q I h
 refine wpAny_Call_Name_kw (kW I hg hm hv ?_ hn hdb)
 exact PyProof.Rows.callWith_type1 (thn (ha pos pins s σ H _ I h) fun us s1 ⟨vs,H1,I1,r1,q1⟩=>hc pins s1 σ H1 vs us Q I1 r1 q1) he hpl
end
end L2
namespace HT
open PySem PyProof.Rows
section
open PySem.SeqAt
open PySem.AutoSeq1 (wpAny_loadPart')
open PySem.MeetsSeq PySem.MeetsSeq2 PySem.MeetsSeq3
end
section
variable{prog:Program}{w:World}{A:Around}{E:Value->Shared->Prop}{s:Shared}
theorem aID{t b:Addr}{vs ws:List Value}{Q:Value->Shared->Prop}(ht:IsTup s.heap t vs.toArray)(hb:IsTup s.heap b ws.toArray)(hv:vs≠[])
  (h1:ws=[]->Q (.ref t) s) (h2:ws≠[]->Q (.ref s.heap.objs.size) {s with heap:=s.heap.push {cls:=.type "tuple",data:=.seq (vs++ws).toArray}})
  (hsz:vs.length+ws.length<=sizeLine):wpAny (model prog w) A (binaryOp .Add (.ref t) (.ref b)) Q E s:=by
 obtain ⟨⟨cls,dd,data,sl⟩,ho,hc,n,hd⟩:=id ht
 obtain ⟨⟨cls2,dd2,data2,sl2⟩,ho2,hc2,n2,hd2⟩:=id hb
 simp only at hc hd hc2 hd2
 subst hc hd hc2 hd2
 have e:vs.toArray++ws.toArray=(vs++ws).toArray:=by simp
 by_cases hw:ws=[]
 ·exact concat_meets ⟨_,ho,rfl⟩ ⟨_,ho2,rfl⟩ noFill_tuple_add seq_tuple_add PySem.F.slot_tuple_add PySem.F.entry_tuple_add (PySem.F.args_tuple_add_2 _ _)
   (tuple_addW1 t b vs.toArray ws.toArray n n2 dd dd2 sl sl2 (by simpa using hv) (by simp[hw])) ⟨ho,ho2,h1 hw⟩
 ·refine concat_meets ⟨_,ho,rfl⟩ ⟨_,ho2,rfl⟩ noFill_tuple_add seq_tuple_add PySem.F.slot_tuple_add PySem.F.entry_tuple_add (PySem.F.args_tuple_add_2 _ _)
   (tuple_addW2 t b vs.toArray ws.toArray n n2 dd dd2 sl sl2 (by simpa using hv) (by simpa using hw) (by rw[List.size_toArray,List.size_toArray];exact hsz)) ⟨ho,ho2,?_⟩
  rw[e]
  exact h2 hw
noncomputable def sIx(n d:Nat):Option Int->Nat
 | none=>d
 | some v=>if v < 0 then (v+(n:Int)).toNat else min v.toNat n
theorem aLG(n d:Nat)(hd:d<=n)(o:Option Int):sIx n d o<=n:=by
 cases o with
 | none=>exact hd
 | some v=>
  show (if v < 0 then (v+(n:Int)).toNat else min v.toNat n)<=n
  by_cases hv:v < 0
  · rw [if_pos hv]; omega
  · rw [if_neg hv]; exact Nat.min_le_right _ _
theorem zK(v:Int)(n d:Nat):(if v < 0 then max (v+(n:Int)) 0 else min v (n:Int))=((sIx n d (some v):Nat):Int):=by
 show (if v < 0 then max (v+(n:Int)) 0 else min v (n:Int))=(((if v < 0 then (v+(n:Int)).toNat else min v.toNat n):Nat):Int)
 by_cases hv:v < 0
 · simp only [if_pos hv]; omega
 · simp only [if_neg hv]; omega
theorem aA5(lo hi:Option Int)(n:Nat):Builtin.Slice.sliceAdjust lo hi 1 (n:Int)=(((sIx n 0 lo:Nat):Int),((sIx n n hi:Nat):Int)):=by
 have h1:¬ ((1:Int) < 0):=by omega
 unfold Builtin.Slice.sliceAdjust
 simp only[h1,if_false]
 refine Prod.ext ?_ ?_
 ·cases lo with
  | none=>rfl
  | some v=>exact zK v n 0
 ·cases hi with
  | none=>rfl
  | some v=>exact zK v n n
theorem aA6(i j:Nat):Builtin.Slice.slicePlaces (i:Int) (j:Int) 1=j - i:=by
 unfold Builtin.Slice.slicePlaces
 have h1:(1:Int) > 0:=by omega
 simp only[h1,if_true,Int.ediv_one]
 split<;>omega
theorem sB{v:Value}{o:Option Int}{Q:Option Int->Shared->Prop}(p:IsPart v o)(h:Q o s):wpAny (model prog w) A (Builtin.Slice.slicePartIndex v) Q E s:=by
 cases p with
 | none=>exact slicePart_none h
 | int i t=>exact slicePart_int h
theorem q9{sl:Addr}{vl vu:Value}{lo hi:Option Int}{n:Nat}{Q:Int×Int×Nat->Shared->Prop}(hs:s.heap.IsSliceOf sl vl vu .none)(pl:IsPart vl lo)(pu:IsPart vu hi)
  (h:Q (((sIx n 0 lo:Nat):Int),1,sIx n n hi - sIx n 0 lo) s):wpAny (model prog w) A (Builtin.Slice.sliceApplied (.ref sl) (pure (n:Int))) Q E s:=by
 obtain ⟨os,hos,hcs,hds⟩:=id hs
 unfold Builtin.Slice.sliceApplied Builtin.Slice.sliceFields
 refine wpAny_bind (wpAny_bind (wpAny_field hos hds (x:=vl) rfl (wpAny_bind (wpAny_field hos hds (x:=vu) rfl (wpAny_bind (wpAny_field hos hds (x:=.none) rfl (wpAny_pure ?_)))))))
 refine wpAny_bind (slicePart_none ?_)
 show wpAny _ _ (if ((1:Int) == 0)=true then _ else _) _ _ s
 rw[if_neg (by decide)]
 refine wpAny_bind (sB pl (wpAny_bind (sB pu (wpAny_bind (wpAny_pure ?_)))))
 show wpAny _ _ (match Builtin.Slice.sliceAdjust lo hi 1 (n:Int) with|(lo,hi)=>pure (lo,(1:Int),Builtin.Slice.slicePlaces lo hi 1)) _ _ s
 rw[aA5 lo hi n]
 show wpAny _ _ (pure (((sIx n 0 lo:Nat):Int),(1:Int),Builtin.Slice.slicePlaces ((sIx n 0 lo:Nat):Int) ((sIx n n hi:Nat):Int) 1)) _ _ s
 rw[aA6]
 exact wpAny_pure h
theorem aFA(xs:Array Value)(i k:Nat):((List.range k).filterMap fun (m:Nat)=>xs[((i:Int)+(m:Int) * 1).toNat]?).toArray=((xs.toList.drop i).take k).toArray:=by
 have e:(fun (m:Nat)=>xs[((i:Int)+(m:Int) * 1).toNat]?)=fun m=>xs[i+m]?:=by
  funext m
  have:((i:Int)+(m:Int) * 1).toNat=i+m:=by omega
  rw[this]
 rw[e]
 have:=pick_run xs i k
 rw[List.filterMap_map] at this
 have e2:((fun x=>xs[x]?)∘fun x=>i+x)=fun m=>xs[i+m]?:=rfl
 rw[e2] at this
 rw[this]
theorem qI{t sl:Addr}{items:Array Value}{vl vu:Value}{lo hi:Option Int}{Q:Value->Shared->Prop}(ht:IsTup s.heap t items)(hs:s.heap.IsSliceOf sl vl vu .none)(pl:IsPart vl lo)(pu:IsPart vu hi)
  (hw:¬ (sIx items.size 0 lo=0/\sIx items.size items.size hi=items.size))
  (h:Q (.ref s.heap.objs.size) {s with heap:=s.heap.push {cls:=.type "tuple",data:=.seq ((items.toList.drop (sIx items.size 0 lo)).take (sIx items.size items.size hi - sIx items.size 0 lo)).toArray}})
  (hsz:items.size<=sizeLine):wpAny (model prog w) A (getItem (.ref t) (.ref sl)) Q E s:=by
 have htake:sizeOk (.seq ((items.toList.drop (sIx items.size 0 lo)).take (sIx items.size items.size hi - sIx items.size 0 lo)).toArray):=by
  show ((items.toList.drop (sIx items.size 0 lo)).take (sIx items.size items.size hi - sIx items.size 0 lo)).toArray.size<=sizeLine
  rw[List.size_toArray,List.length_take,List.length_drop,Array.length_toList]
  omega
 have hj:sIx items.size items.size hi<=items.size:=aLG _ _ (Nat.le_refl _) hi
 obtain ⟨os,hos,hcs,hds⟩:=id hs
 have hTs:s.TypeIs (.ref sl) "slice":=⟨os,hos,hcs⟩
 unfold getItem
 try with_reducible refine wpAny_holding ?_
 first|refine wpAny_bind (wpAny_pure ?_)|skip
 refine wpAny_bind (wpAny_sequenceKey ht.typeIs (by decide) ?_)
 refine wpAny_bind (wpAny_callSpecial?_slot (name:=Str.ofString "__getitem__") ht.typeIs PyProof.Rows.slot_tuple_getitem
  (wpAny_call_entry PyProof.Rows.slot_tuple_getitem ht.typeIs entry_tuple_getitem ?_ (args_tuple_getitem _ _)))
 show wpAny _ _ (Builtin.Tuple.tupleItemsOf (.ref t) >>= _) _ _ s
 refine wpAny_bind (tupleItemsOf_ ht ?_)
 refine wpAny_bind (wpAny_typeOf hTs ?_)
 rw[if_pos (by decide)]
 refine wpAny_bind (q9 hs pl pu ?_)
 have hno:¬ ((((sIx items.size 0 lo:Nat):Int) == 0 && (1:Int) == 1 && (sIx items.size items.size hi - sIx items.size 0 lo) == items.size)=true):=by
  intro q
  rw[Bool.and_eq_true,Bool.and_eq_true] at q
  have q1:((sIx items.size 0 lo:Nat):Int)=0:=eq_of_beq q.1.1
  have q2:sIx items.size items.size hi - sIx items.size 0 lo=items.size:=eq_of_beq q.2
  exact hw ⟨by omega,by omega⟩
 show wpAny _ _ (if (((sIx items.size 0 lo:Nat):Int) == 0 && (1:Int) == 1 && (sIx items.size items.size hi - sIx items.size 0 lo) == items.size)=true then _ else _) _ _ s
 rw[if_neg hno,aFA]
 first
  | exact wpAny_bind (m:=Builtin.Tuple.tupleExact _) (wpAny_newObj_type (wpAny_pure ⟨_,rfl,wpAny_pure h⟩) htake)
  | exact wpAny_bind (m:=Builtin.Tuple.tupleExact _) (wpAny_newObj_type (wpAny_bind (wpAny_pure (wpAny_pure ⟨_,rfl,wpAny_pure h⟩))) htake)
  | exact wpAny_bind (wpAny_bind (m:=Builtin.Tuple.tupleExact _) (wpAny_newObj_type (wpAny_pure (wpAny_pure ⟨_,rfl,wpAny_pure h⟩)) htake))
  | exact wpAny_bind (wpAny_bind (m:=Builtin.Tuple.tupleExact _) (wpAny_newObj_type (wpAny_pure ⟨_,rfl,wpAny_pure h⟩) htake))
end
end HT
namespace L2
open PySem PySem.Spec PyProof.Rows
abbrev TO:=St->Hp->(Option Int->Hp->Prop)->Prop
def PO(X:Cx)(e:Option Expr)(t:TO):Prop:=
 ∀ (pins:List (Addr×Obj)) (s:Shared) (σ:St) (H:Hp) (Q:Option Int->Hp->Prop),Inv X pins σ H s->t σ H Q->
  wpAny (model X.prog X.w) X.A (evalPart e X.env) (fun u s'=>∃ o H',Inv X pins σ H' s'/\IsPart u o/\Q o H') X.xe s
def aIE:TO:=fun _ H Q=>Q none H
def aNW(t:TE):TO:=fun σ H Q=>t σ H fun x H1=>∃ i,x=.int i/\Q (some i) H1
section
variable{X:Cx}{e:Expr}{te:TE}{lo hi:Option Expr}{tl th:TO}{pos p2:Pos}
theorem aIF:PO X none aIE:=by
 intro pins s σ H Q I h
 rw[evalPart_none]
 exact wpAny_pure ⟨none,H,I,.none,h⟩
theorem aIG(h:PE X e te):PO X (some e) (aNW te):=by
 intro pins s σ H Q I hw
 rw[evalPart_some]
 refine thn (h pins s σ H _ I hw) fun u s1 zz0=>?_
 obtain ⟨x,H1,I1,r1,q1⟩:=zz0
 obtain ⟨i,rfl,q⟩:=q1
 obtain ⟨t,rfl⟩:=r1
 exact ⟨some i,H1,I1,.int i t,q⟩
def SlR(X:Cx)(r:V->Option Int->Option Int->Hp->VK->Prop):Prop:=
 ∀ (pins:List (Addr×Obj)) (s:Shared) (σ:St) (H:Hp) (x:V) (v vl vu:Value) (lo hi:Option Int) (sl:Addr) (Q:VK),Inv X pins σ H s->a9 x v->s.heap.IsSliceOf sl vl vu .none->IsPart vl lo->IsPart vu hi->r x lo hi H Q->
  ∃ T id,typeLookup (.type T) "__getitem__"=pure (some (.builtin id))/\s.TypeIs v T/\wpAny (model X.prog X.w) X.A (getItem v (.ref sl)) (EP X pins σ Q) X.xe s
def tSl(r:V->Option Int->Option Int->Hp->VK->Prop)(te:TE)(tl th:TO):TE:=fun σ H Q=>te σ H fun x H1=>tl σ H1 fun l H2=>th σ H2 fun u H3=>r x l u H3 Q
theorem aFB{r:V->Option Int->Option Int->Hp->VK->Prop}(hr:SlR X r)(he:PE X e te)(hl:PO X lo tl)(hu:PO X hi th):PE X (.Subscript e (.Slice lo hi none p2) pos) (tSl r te tl th):=by
 intro pins s σ H Q I h
 refine Subscript_ (thn (he pins s σ H _ I h) fun v s1 zz0=>?_)
 obtain ⟨x,H1,I1,r1,q1⟩:=zz0
 refine wpAny_Slice (thn (hl pins s1 σ H1 _ I1 q1) fun vl s2 ⟨l,H2,I2,pl,q2⟩=>thn (hu pins s2 σ H2 _ I2 q2) fun vu s3 zz0=>?_)
 obtain ⟨u,H3,I3,pu,q3⟩:=zz0
 rw[evalPart_none]
 refine wpAny_pure ?_
 have I4:Inv X pins σ H3 {s3 with heap:=s3.heap.push {cls:=.type "slice",data:=.fields #[vl,vu,.none]}}:=I3.kept (t':=s3.toks) fun b ob q=>Heap.get?_push_of_some _ q
 obtain ⟨T,id,hT,ht,hg⟩:=hr pins {s3 with heap:=s3.heap.push {cls:=.type "slice",data:=.fields #[vl,vu,.none]}} σ H3 x v vl vu l u s3.heap.objs.size Q I4 r1 (Heap.IsSliceOf.new ..) pl pu q3
 show wpAny (model X.prog X.w) X.A (subscriptTail e (.Slice lo hi none p2) v (.ref s3.heap.objs.size)) (EP X pins σ Q) X.xe {s3 with heap:=s3.heap.push {cls:=.type "slice",data:=.fields #[vl,vu,.none]}}
 exact tail_any (ops:=[.ref s3.heap.objs.size,v]) ht hT hg (by with_unfolding_all rfl)
noncomputable def oQ(xs:List V)(lo hi:Option Int):List V:=(xs.drop (HT.sIx xs.length 0 lo)).take (HT.sIx xs.length xs.length hi - HT.sIx xs.length 0 lo)
theorem qN(xs:List V)(lo hi:Option Int):(oQ xs lo hi).length<=xs.length:=by
 unfold oQ
 rw[List.length_take,List.length_drop]
 omega
def aO5(K:Frag):V->Option Int->Option Int->Hp->VK->Prop:=fun x lo hi H Q=>∃ a xs,x=.ref a/\SqT K H a xs /\
 ¬ (HT.sIx xs.length 0 lo=0/\HT.sIx xs.length xs.length hi=xs.length)/\∀ p,H p=none->Q (.ref p) (upd H p (.tup (oQ xs lo hi)))
theorem aLH:SlR X (aO5 X.K):=by
 intro pins s σ H x v vl vu lo hi sl Q I rx hs pl pu h
 obtain ⟨a,xs,rfl,hx,hw,q⟩:=h
 cases rx
 obtain ⟨its,r,ht,hz⟩:=I.tuple hx
 have hlen:its.toArray.size=xs.length:=by rw[List.size_toArray];exact r.length.symm
 refine ⟨"tuple",_,PyProof.Rows.slot_tuple_getitem.lookup,ht.typeIs,?_⟩
 refine HT.qI ht hs pl pu (by rw[hlen];exact hw) ?_ (by rw[hlen];exact hz)
 rw[hlen]
 refine ⟨.ref s.heap.objs.size,_,I.laid (t':=s.toks) (o:=.tup (oQ xs lo hi)) (fun b ob q=>Heap.get?_push_of_some _ q) (Nat.le_refl _) ?_,rfl,q _ (I.hok.fresh (Nat.le_refl _))⟩
 exact ⟨Nat.le_trans (qN xs lo hi) hz,_,(r.drop (HT.sIx xs.length 0 lo)).take (HT.sIx xs.length xs.length hi - HT.sIx xs.length 0 lo),j4.new _ _⟩
def aNX(K:Frag):R2:=fun x y H Q=>∃ a b xs ys,x=.ref a/\y=.ref b/\SqT K H a xs/\SqT K H b ys/\xs≠[]/\xs.length+ys.length<=sizeLine /\
 (ys=[]->Q (.ref a) H)/\(ys≠[]->∀ p,H p=none->Q (.ref p) (upd H p (.tup (xs++ys))))
theorem bA.nil_iff{xs:List V}{us:List Value}(r:bA xs us):us=[]↔xs=[]:=by
 cases r with
 | nil=>simp
 | cons _ _=>simp
theorem aIH:OpR X (binaryOp .Add) (aNX X.K):=by
 intro pins s σ H x y v u Q I rx ry h
 obtain ⟨a,b,xs,ys,rfl,rfl,ha,hb,hx,hz,q1,q2⟩:=h
 cases rx
 cases ry
 obtain ⟨its,r1,p1,_⟩:=I.tuple ha
 obtain ⟨its2,r2,p2,_⟩:=I.tuple hb
 refine HT.aID p1 p2 (fun z=>hx (r1.nil_iff.mp z)) (fun z=>⟨.ref a,H,I,rfl,q1 (r2.nil_iff.mp z)⟩) (fun z=>?_) (by rw[<-r1.length,<-r2.length];exact hz)
 refine ⟨.ref s.heap.objs.size,_,I.laid (t':=s.toks) (o:=.tup (xs++ys)) (fun b ob q=>Heap.get?_push_of_some _ q) (Nat.le_refl _) ?_,rfl,q2 (fun w=>z (r2.nil_iff.mpr w)) _ (I.hok.fresh (Nat.le_refl _))⟩
 exact ⟨by rw[List.length_append];exact hz,_,r1.append r2,j4.new _ _⟩
end
end L2
namespace L2
open PySem PySem.Spec PyProof.Rows
noncomputable def ixN(n:Nat)(i:Int):Option Nat:=if 0<=i then (if i < n then some i.toNat else none) else if -(n:Int)<=i then some (i+n).toNat else none
noncomputable def atI{α:Type}(xs:List α)(i:Int):Option α:=(ixN xs.length i).bind fun j=>xs[j]?
theorem aII{n:Nat}{i:Int}{j:Nat}(h:ixN n i=some j):seqIndex? i n=some j/\j < n /\ -(n:Int)<=i/\i < n:=by
 unfold ixN at h
 by_cases h0:0<=i
 ·rw[if_pos h0] at h
  by_cases h1:i < n
  ·rw[if_pos h1] at h
   have e:i.toNat=j:=Option.some.inj h
   exact ⟨by rw[seqIndex_of h0 h1,e],by omega,by omega,h1⟩
  ·rw[if_neg h1] at h;cases h
 ·rw[if_neg h0] at h
  by_cases h1 : -(n:Int)<=i
  ·rw[if_pos h1] at h
   have e:(i+n).toNat=j:=Option.some.inj h
   exact ⟨by rw[seqIndex_neg (by omega) h1,e],by omega,h1,by omega⟩
  ·rw[if_neg h1] at h;cases h
theorem tO{α:Type}{xs:List α}{i:Int}{v:α}(h:atI xs i=some v):∃ j,seqIndex? i xs.length=some j/\xs[j]? = some v/\j < xs.length /\ -(xs.length:Int)<=i/\i < xs.length:=by
 unfold atI at h
 cases e:ixN xs.length i with
 | none=>rw[e] at h;cases h
 | some j=>
  rw[e] at h
  obtain ⟨h1,h2,h3,h4⟩:=aII e
  exact ⟨j,h1,h,h2,h3,h4⟩
theorem eN{α:Type}{xs:List α}{j:Nat}{v:α}(h:xs[j]? = some v):atI xs (j:Int)=some v:=by
 have hj:j < xs.length:=(List.getElem?_eq_some_iff.mp h).1
 have e:ixN xs.length (j:Int)=some j:=by
  unfold ixN
  rw[if_pos (by omega),if_pos (by omega)];simp
 unfold atI;rw[e];exact h
def zL(b:Expr):Prop:=∀ o i,subscripted b false o i=operate [o,i] (getItem o i)
def IxR(X:Cx)(r:R2):Prop:=
 ∀ (value slice:Expr) (pins:List (Addr×Obj)) (s:Shared) (σ:St) (H:Hp) (x y:V) (v u:Value) (Q:VK),Inv X pins σ H s->a9 x v->a9 y u->r x y H Q->
  subscripted slice false v u=operate [v,u] (getItem v u)->wpAny (model X.prog X.w) X.A (subscriptTail value slice v u) (EP X pins σ Q) X.xe s
def MtR(X:Cx)(id:String)(r:V->List V->Hp->VK->Prop):Prop:=
 ∀ (pins:List (Addr×Obj)) (s:Shared) (σ:St) (H:Hp) (x:V) (xs:List V) (v:Value) (us:List Value) (Q:VK),Inv X pins σ H s->a9 x v->bA xs us->r x xs H Q->
  wpAny (model X.prog X.w) X.A (call (.builtin id) (v::us)) (EP X pins σ Q) X.xe s
section
variable{X:Cx}{a b:Expr}{ta tb:TE}{pos:Pos}
theorem IxR.or{r r':R2}(h:IxR X r)(h':IxR X r'):IxR X (fun x y H Q=>r x y H Q\/r' x y H Q):=by
 intro value slice pins s σ H x y v u Q I rx ry q hs
 rcases q with q|q
 · exact h value slice pins s σ H x y v u Q I rx ry q hs
 · exact h' value slice pins s σ H x y v u Q I rx ry q hs
theorem aHM{r:R2}(hr:IxR X r)(ha:PE X a ta)(hb:PE X b tb)(hs:zL b):PE X (.Subscript a b pos) (tOp r ta tb):=by
 intro pins s σ H Q I h
 exact Subscript_ (aE7 ha hb I h fun v u s2 x y H2 I2 rx ry q=>hr a b pins s2 σ H2 x y v u Q I2 rx ry q (hs _ _))
def aLI(K:Frag):R2:=fun x y H Q=>∃ p xs i v,x=.ref p/\y=.int i/\SqL K H p xs/\atI xs i=some v/\Q v H
def aLJ(K:Frag):R2:=fun x y H Q=>∃ p xs i v,x=.ref p/\y=.int i/\SqT K H p xs/\atI xs i=some v/\Q v H
def aLK:R2:=fun x y H Q=>∃ z i c,x=.str z/\y=.int i/\z.length<=sizeLine/\atI z.cps.toList i=some c/\Q (.str ⟨#[c]⟩) H
theorem zM:IxR X (aLI X.K):=by
 intro value slice pins s σ H x y v u Q I rx ry h hs
 obtain ⟨p,xs,i,z,rfl,rfl,hq,he,q⟩:=h
 cases rx
 obtain ⟨t,rfl⟩:=ry
 obtain ⟨its,r,pl,hz⟩:=I.list hq
 obtain ⟨j,h1,h2,h3,h4,h5⟩:=tO he
 obtain ⟨w,ew,rw'⟩:=r.get h2
 have hl:=r.length
 have hn:=sA
 have fin:EP X pins σ Q w s:=⟨z,H,I,rw',q⟩
 by_cases h0:0<=i
 ·have hj:i.toNat=j:=by
   rw[seqIndex_of h0 h5] at h1
   exact Option.some.inj h1
  exact item_listR pl.isList h0 (by omega) (by rw[hj];simpa using ew) fin hs
 ·have hj:(i+(its.toArray.size:Int)).toNat=j:=by
   rw[seqIndex_neg (by omega) h4] at h1
   rw[List.size_toArray,<-hl]
   exact Option.some.inj h1
  exact subscriptTail_builtinR (x:=w) pl.isList.typeIs slot_list_getitem.lookup
   (wpAny_getItem_list_neg (Q:=fun r s'=>r=w/\EP X pins σ Q r s') pl.isList (by omega) (by rw[List.size_toArray]<;>omega) (by omega) (by rw[hj];simpa using ew) ⟨rfl,fin⟩) hs
theorem aCR:IxR X (aLJ X.K):=by
 intro value slice pins s σ H x y v u Q I rx ry h hs
 obtain ⟨p,xs,i,z,rfl,rfl,hq,he,q⟩:=h
 cases rx
 obtain ⟨t,rfl⟩:=ry
 obtain ⟨its,r,pl,hz⟩:=I.tuple hq
 obtain ⟨j,h1,h2,h3,h4,h5⟩:=tO he
 obtain ⟨w,ew,rw'⟩:=r.get h2
 have hl:=r.length
 have hn:=sA
 have fin:EP X pins σ Q w s:=⟨z,H,I,rw',q⟩
 exact subscriptTail_builtinR (x:=w) pl.typeIs slot_tuple_getitem.lookup
  (getItem_tuple (j:=j) (Q:=fun r s'=>r=w/\EP X pins σ Q r s') pl (by omega) (by omega) (by rw[List.size_toArray,<-hl];exact h1) (by simpa using ew) ⟨rfl,fin⟩) hs
theorem aCS:IxR X aLK:=by
 intro value slice pins s σ H x y v u Q I rx ry h hs
 obtain ⟨z,i,c,rfl,rfl,hz,he,q⟩:=h
 obtain ⟨t,rfl⟩:=rx
 obtain ⟨t',rfl⟩:=ry
 obtain ⟨j,h1,h2,h3,h4,h5⟩:=tO he
 have hl:z.cps.toList.length=z.length:=by simp[Str.length]
 rw[hl] at h1 h4 h5
 have hn:=sA
 exact tail_any (typeIs_str s z t) slot_str_getitem.lookup (getItem_str (c:=c) (by
  have e1:decide (i < -(2 ^ 63:Int))=false:=decide_eq_false (by omega)
  have e2:decide (i>=2 ^ 63)=false:=decide_eq_false (by omega)
  rw[e1,e2,Bool.or_false]) (by rw[h1];simpa using h2) ⟨.str ⟨#[c]⟩,H,I.tok _,⟨_,rfl⟩,q⟩) hs
def rIx(K:Frag):R2:=fun x y H Q=>aLI K x y H Q\/aLJ K x y H Q\/aLK x y H Q
theorem aLL:IxR X (rIx X.K):=zM.or (aCR.or aCS)
theorem Inv.lst{pins:List (Addr×Obj)}{σ:St}{H:Hp}{s:Shared}{p:Addr}{xs:List V}(I:Inv X pins σ H s)(h:H p=some (.lst xs)) :
  ∃ (its:List Value) (n:Nat),bA xs its/\s.heap.get? p=some {cls:=.type "list",data:=.seq its.toArray n}/\xs.length<=sizeLine:=by
 obtain ⟨z,its,n,r,e⟩:=I.hok p _ h
 exact ⟨its,n,r,e,z⟩
theorem wN(lo hi:Option Int)(n:Nat):(sliceBounds lo hi none n).1=((HT.sIx n 0 lo:Nat):Int)/\(sliceBounds lo hi none n).2.1=((HT.sIx n n hi:Nat):Int)/\(sliceBounds lo hi none n).2.2=1:=by
 refine ⟨?_,?_,rfl⟩
 ·cases lo with
  | none=>simp[sliceBounds,HT.sIx]
  | some i=>
   simp only[sliceBounds,HT.sIx,Option.getD_none,show (1:Int) > 0 by decide,if_true]
   by_cases h:i < 0
   · simp only [h, if_true] <;> omega
   · simp only [h, if_false] <;> omega
 ·cases hi with
  | none=>simp[sliceBounds,HT.sIx]
  | some i=>
   simp only[sliceBounds,HT.sIx,Option.getD_none,show (1:Int) > 0 by decide,if_true]
   by_cases h:i < 0
   · simp only [h, if_true] <;> omega
   · simp only [h, if_false] <;> omega
theorem vO(its:List Value)(lo hi:Option Int):slicePick its.toArray lo hi none=((its.drop (HT.sIx its.length 0 lo)).take (HT.sIx its.length its.length hi - HT.sIx its.length 0 lo)).toArray:=by
 obtain ⟨h1,h2,h3⟩:=wN lo hi its.toArray.size
 unfold slicePick
 rw[h1,h2,h3]
 simp only[sliceRange_one,pick_run,List.size_toArray]<;>rfl
def aO6(K:Frag):V->Option Int->Option Int->Hp->VK->Prop:=fun x lo hi H Q=>∃ a xs,x=.ref a/\SqL K H a xs/\∀ p,H p=none->Q (.ref p) (upd H p (.lst (oQ xs lo hi)))
theorem aIJ:SlR X (aO6 X.K):=by
 intro pins s σ H x v vl vu lo hi sl Q I rx hs pl pu h
 obtain ⟨a,xs,rfl,hx,q⟩:=h
 cases rx
 obtain ⟨its,r,ht,hz⟩:=I.list hx
 have hlen:=r.length
 refine ⟨"list",_,slot_list_getitem.lookup,ht.isList.typeIs,?_⟩
 refine wpAny_getItem_list_slice ht.isList hs pl pu .none (by simp) ?_ (by rw[List.size_toArray]<;>omega)
 rw[vO,<-hlen]
 refine ⟨.ref s.heap.objs.size,_,I.laid (t':=s.toks) (o:=.lst (oQ xs lo hi)) (fun b ob q=>Heap.get?_push_of_some _ q) (Nat.le_refl _) ?_,rfl,q _ (I.hok.fresh (Nat.le_refl _))⟩
 exact ⟨Nat.le_trans (qN xs lo hi) hz,_,0,(r.drop (HT.sIx xs.length 0 lo)).take (HT.sIx xs.length xs.length hi - HT.sIx xs.length 0 lo),Heap.get?_push_size _ rfl⟩
theorem wO:gA X (.type "list") (fun xs H Q=>∃ p ys,xs=[.ref p]/\(SqL X.K H p ys\/SqT X.K H p ys)/\∀ l,H l=none->Q (.ref l) (upd H l (.lst ys))):=by
 intro pins s σ H xs us Q I r h
 obtain ⟨p,ys,rfl,hq,q⟩:=h
 obtain ⟨u,rfl,rx⟩:=iB r
 cases rx
 have fin:∀ (its:List Value),bA ys its->ys.length<=sizeLine->∀ (h':Heap) (c':Nat),(∀ b o',s.heap.get? b=some o'->h'.get? b=some o')->
   h'.get? s.heap.objs.size=some {cls:=.type "list",dict:=none,data:=.seq its.toArray c',slots:=#[]}->EP X pins σ Q (.ref s.heap.objs.size) {s with heap:=h'}:=fun its r' hz h' c' kp e=>
  ⟨.ref s.heap.objs.size,_,I.laid (t':=s.toks) kp (Nat.le_refl _) (show b5 X.prog X.w _ h' _ (.lst ys) from ⟨hz,its,c',r',e⟩),rfl,q _ (I.hok.fresh (Nat.le_refl _))⟩
 rcases hq with hq|hq
 ·obtain ⟨its,r',pl,hz⟩:=I.list hq
  have hlen:=r'.length
  obtain ⟨o,ho,hc,n,hd⟩:=pl.isList
  exact call_list_seq p (.inl rfl) ho hc hd (fun h' c' kp e=>fin its r' hz h' c' kp e) (by simp only[List.size_toArray]<;>omega)
 ·obtain ⟨its,r',pl,hz⟩:=I.tuple hq
  have hlen:=r'.length
  obtain ⟨o,ho,hc,n,hd⟩:=pl
  exact call_list_seq p (.inr rfl) ho hc hd (fun h' c' kp e=>fin its r' hz h' c' kp e) (by simp only[List.size_toArray]<;>omega)
theorem cW:gA X (.type "tuple") (fun xs H Q=>∃ p ys,xs=[.ref p]/\((SqL X.K H p ys/\∀ l,H l=none->Q (.ref l) (upd H l (.tup ys)))\/(SqT X.K H p ys/\Q (.ref p) H))):=by
 intro pins s σ H xs us Q I r h
 obtain ⟨p,ys,rfl,h⟩:=h
 obtain ⟨u,rfl,rx⟩:=iB r
 cases rx
 rcases h with ⟨hq,q⟩|⟨hq,q⟩
 ·obtain ⟨its,r',pl,hz⟩:=I.list hq
  have hlen:=r'.length
  refine call_tuple_list pl.isList (fun h' kp=>?_) (by simp only[List.size_toArray]<;>omega)
  have I1:Inv X pins σ H {s with heap:=h'}:=I.kept (t':=s.toks) kp
  have I2:Inv X pins σ (upd H h'.objs.size (.tup ys)) {s with heap:=h'.push {cls:=.type "tuple",data:=.seq its.toArray}}:=
   I1.laid (t':=s.toks) (fun b o e=>Heap.get?_push_of_some _ e) (Nat.le_refl _) (show b5 X.prog X.w _ _ _ (.tup ys) from ⟨hz,its,r',j4.new _ _⟩)
  exact ⟨.ref h'.objs.size,_,I2,rfl,q _ (I1.hok.fresh (Nat.le_refl _))⟩
 ·obtain ⟨its,r',pl,hz⟩:=I.tuple hq
  exact call_tuple_same pl ⟨.ref p,H,I,rfl,q⟩
def tyV(K:Frag)(T:String)(x:V)(H:Hp):Prop:=match x with
 | .str _=>T="str"
 | .int _=>T="int"
 | .ref p=>(T="list"/\∃ xs,SqL K H p xs)\/(T="tuple"/\∃ o,K.lookup p=some o/\o.cls=.type "tuple"/\o.dict=none) \/
  (T="dict"/\((∃ kvs,H p=some (.dK kvs))\/∃ kvs,H p=some (.dT kvs)))\/(T="set"/\∃ S n,H p=some (.set S n))
 | _=>False
theorem aCT{pins:List (Addr×Obj)}{σ:St}{H:Hp}{s:Shared}{T:String}{x:V}{v:Value}(I:Inv X pins σ H s)(r:a9 x v)(ty:tyV X.K T x H) :
  s.TypeIs v T/\∀ a,v=.ref a->∃ ob,s.heap.get? a=some ob/\ob.dict=none:=by
 cases x with
 | str z=>
  obtain ⟨t,rfl⟩:=r
  cases (show T="str" from ty)
  exact ⟨typeIs_str s z t,fun _ e=>nomatch e⟩
 | int i=>
  obtain ⟨t,rfl⟩:=r
  cases (show T="int" from ty)
  exact ⟨typeIs_int s i t,fun _ e=>nomatch e⟩
 | ref p=>
  cases r
  rcases ty with ⟨rfl,xs,hq⟩|⟨rfl,o,hk,hc,hd⟩|⟨rfl,hk⟩|⟨rfl,S,n,hk⟩
  ·obtain ⟨its,_,pl,_⟩:=I.list hq
   refine ⟨pl.isList.typeIs,fun a e=>?_⟩
   cases e
   obtain ⟨o,n,e,c,hd,_⟩:=pl
   exact ⟨o,e,hd⟩
  ·refine ⟨⟨o,I.kIn p o hk,hc⟩,fun a e=>?_⟩
   cases e
   exact ⟨o,I.kIn _ o hk,hd⟩
  ·have z:∃ o,s.heap.get? p=some o/\o.ExactDict:=by
    rcases hk with ⟨kvs,hk⟩|⟨kvs,hk⟩
    ·obtain ⟨_,_,_,_,o,_,_,e,ex,_⟩:=I.hok p _ hk
     exact ⟨o,e,ex⟩
    ·obtain ⟨_,_,_,_,o,_,_,e,ex,_⟩:=I.hok p _ hk
     exact ⟨o,e,ex⟩
   obtain ⟨o,e,ex⟩:=z
   refine ⟨⟨o,e,ex.1⟩,fun a e2=>?_⟩
   cases e2
   exact ⟨o,e,ex.2.1⟩
  ·obtain ⟨o,_,_,_,e,ex,_⟩:=I.hok p _ hk
   refine ⟨⟨o,e,ex.1⟩,fun a e2=>?_⟩
   cases e2
   exact ⟨o,e,ex.2.1⟩
 | _=>exact False.elim ty
def aLM(K:Frag)(T:String)(r:V->List V->Hp->VK->Prop)(to:TE):TE:=fun σ H Q=>to σ H fun x H1=>tyV K T x H1/\r x [] H1 Q
def tBM(K:Frag)(T:String)(r:V->List V->Hp->VK->Prop)(to:TE)(t:TA):TE:=fun σ H Q=>to σ H fun x H1=>tyV K T x H1/\t σ H1 fun xs H2=>r x xs H2 Q
variable{o e:Expr}{es:List Expr}{to:TE}{t:TA}{name:Str}{apos cpos:Pos}{T id:String}{r:V->List V->Hp->VK->Prop}
theorem aLN(pa:PlainAttrs T)(slot:Slot T name id)(hty:typeOf (.builtin id)=pure (.type "method_descriptor"))(hm:MtR X id r)(ho:PE X o to)
  (hbase:attributeBase o name X.env (eval o X.env)=eval o X.env:=by rfl) (hline:(apos.endLine == cpos.line)=true:=by rfl):PE X (.Call (.Attribute o name apos) [] [] cpos) (aLM X.K T r to):=by
 intro pins s σ H Q I h
 refine wpAny_Call_method0_late hbase hline (thn (ho pins s σ H _ I h) fun v s1 zz0=>?_)
 obtain ⟨x,H1,I1,r1,ty,q1⟩:=zz0
 obtain ⟨h1,h2⟩:=aCT I1 r1 ty
 exact ⟨T,id,pa,slot,hty,h1,h2,Calls.callWith_builtin rfl (PySem.evalArgs_none (hm pins s1 σ H1 x [] v [] Q I1 r1 .nil q1))⟩
theorem lQ(pa:PlainAttrs T)(slot:Slot T name id)(hty:typeOf (.builtin id)=pure (.type "method_descriptor"))(hm:MtR X id r)(ho:PE X o to)(ha:PA X (e::es) t)
  (hbase:attributeBase o name X.env (eval o X.env)=eval o X.env:=by rfl)
  (hfew:((backTo cpos (starEach (e::es) X.env)).all (fun x=>!x.1) && (backToKw cpos (keywordEach [] X.env)).all (fun x=>x.1.isSome)
   && decide ((e::es).length+([]:List Keyword).length+(if ([]:List Keyword).isEmpty then 0 else 1) < 30))=true:=by rfl)
  (hline:(apos.endLine == cpos.line)=true:=by rfl) (hs:starEach (e::es) X.env=(false,eval e X.env)::starEach es X.env:=by rfl) (hplain:(backTo cpos (starEach es X.env)).any (·.1)=false:=by rfl) :
  PE X (.Call (.Attribute o name apos) (e::es) [] cpos) (tBM X.K T r to t):=by
 intro pins s σ H Q I h
 refine wpAny_Call_method_late hbase hfew hline rfl (thn (ho pins s σ H _ I h) fun v s1 zz0=>?_)
 obtain ⟨x,H1,I1,r1,ty,q1⟩:=zz0
 obtain ⟨h1,h2⟩:=aCT I1 r1 ty
 refine ⟨T,id,pa,slot,hty,h1,h2,?_⟩
 have hA:=ha cpos pins s1 σ H1 _ I1 q1
 rw[hs] at hA ⊢
 refine Calls.callWith_builtin (by show (false || (backTo cpos (starEach es X.env)).any (·.1))=false;rw[hplain]<;>rfl) (Calls.evalArgs_plain ?_)
 exact thn hA fun us s2 ⟨vs,H2,I2,r2,q2⟩=>hm pins s2 σ H2 x vs v us Q I2 r1 r2 q2
end
end L2
namespace L2
open PySem PySem.Spec PyProof.Rows
def MtM(X:Cx)(id:String)(r:V->List V->Hp->VK->Prop):Prop:=
 ∀ (pins:List (Addr×Obj)) (s:Shared) (σ:St) (H:Hp) (x:V) (xs:List V) (v:Value) (us:List Value) (Q:VK),Inv X pins σ H s->a9 x v->bA xs us->r x xs H Q->
  wpAny (model X.prog X.w) X.A (call (.builtin id) (v::us)) (EP X pins σ Q) X.xe s
theorem bA.one:∀ {x:V} {us:List Value},bA [x] us->∃ u,us=[u]/\a9 x u
 | _,_,.cons r .nil=>⟨_,rfl,r⟩
theorem bA.zero:∀ {us:List Value},bA [] us->us=[]
 | _,.nil=>rfl
theorem bA.reverse{xs:List V}{us:List Value}(h:bA xs us):bA xs.reverse us.reverse:=by
 induction h with
 | nil=>exact .nil
 | cons r t ih=>rw[List.reverse_cons,List.reverse_cons];exact bA.append ih (.cons r .nil)
section
variable{X:Cx}{pins:List (Addr×Obj)}{σ:St}{H:Hp}{s:Shared}{l b:Addr}{xs ys zs:List V}
theorem Inv.lset{its its':List Value}{n:Nat}{f:Array Value->Array Value}{t':Nat}(I:Inv X pins σ H s)(hH:H l=some (.lst xs))
  (e:s.heap.get? l=some {cls:=.type "list",data:=.seq its.toArray n}) (hf:f its.toArray=its'.toArray) (hv:bA ys its') (hz:ys.length<=sizeLine) :
  Inv X pins σ (upd H l (.lst ys)) {s with heap:=s.heap.update l (Obj.mapSeq f),toks:=t'}:=by
 have q:=PySem.IsL.update e f
 rw[hf] at q
 refine I.write (x:=l) (e:=l) (by rw[hH];exact trivial) (.inl rfl) (fun b' u hb hu=>(Heap.get?_update_other s.heap (Obj.mapSeq f) (Ne.symm hb)).trans hu) ⟨_,q⟩ ?_
 exact ⟨hz,its',_,hv,q⟩
theorem Inv.lnew{its:List Value}{t':Nat}(I:Inv X pins σ H s)(hv:bA ys its)(hz:ys.length<=sizeLine) :
  Inv X pins σ (upd H s.heap.objs.size (.lst ys)) {s with heap:=s.heap.push {cls:=.type "list",data:=.seq its.toArray},toks:=t'}:=
 I.laid (fun _ _ q=>Heap.get?_push_of_some _ q) (Nat.le_refl _) ⟨hz,its,0,hv,Heap.get?_push_size _ rfl⟩
theorem Inv.fresh(I:Inv X pins σ H s):H s.heap.objs.size=none:=I.hok.fresh (Nat.le_refl _)
theorem Inv.lstM(I:Inv X pins σ H s)(hH:H l=some (.lst xs)):xs.length<=sizeLine/\∃ (its:List Value) (n:Nat),bA xs its/\xs.length=its.length/\s.heap.get? l=some {cls:=.type "list",data:=.seq its.toArray n}:=by
 obtain ⟨z,its,n,r,e⟩:=I.hok l _ hH
 exact ⟨z,its,n,r,r.length,e⟩
end
section
variable{X:Cx}
def zN:V->List V->Hp->VK->Prop:=fun x vs H Q=>∃ l xs y,x=.ref l/\vs=[y]/\H l=some (.lst xs)/\xs.length < sizeLine/\Q .non (upd H l (.lst (xs++[y])))
theorem iM:MtM X "list.append" zN:=by
 intro pins s σ H x vs v us Q I rx rv h
 obtain ⟨l,xs,y,rfl,rfl,hH,hz,q⟩:=h
 cases rx
 obtain ⟨u,rfl,ru⟩:=rv.one
 obtain ⟨z,its,n,r,hl,e⟩:=I.lstM hH
 refine call_meets F.slot_list_append ⟨_,e,rfl⟩ F.entry_list_append (F.args_list_append_2 _ _) (PySem.list_append l its.toArray n u (by rw[List.size_toArray];omega)) ⟨e,?_⟩
 refine ⟨.non,_,I.lset (its':=its++[u]) hH e (by simp) (r.append (.cons ru .nil)) ?_,rfl,q⟩
 rw[List.length_append,List.length_singleton]
 omega
def aCU:V->List V->Hp->VK->Prop:=fun x vs H Q=>∃ l xs,x=.ref l/\vs=[]/\H l=some (.lst xs)/\Q .non (upd H l (.lst []))
theorem aFC:MtM X "list.clear" aCU:=by
 intro pins s σ H x vs v us Q I rx rv h
 obtain ⟨l,xs,rfl,rfl,hH,q⟩:=h
 cases rx
 have hus:=rv.zero
 subst hus
 obtain ⟨z,its,n,r,hl,e⟩:=I.lstM hH
 refine call_meets F.slot_list_clear ⟨_,e,rfl⟩ F.entry_list_clear (F.args_list_clear_1 _) (AutoSeq1.list_clear_list_0 l its.toArray n (by rw[List.size_toArray];omega)) ⟨e,?_⟩
 exact ⟨.non,_,I.lset (its':=[]) (ys:=[]) hH e rfl .nil (Nat.zero_le _),rfl,q⟩
end
end L2
namespace Att
open PySem PySem.W PySem.Calls PyProof.Rows
theorem sC{P:Params}{h:Heap}:∀ (ns:List Int) (vs:List Value),WellAll P h vs (ns.map WData.int)->IntsAre vs ns:=by
 intro ns
 induction ns with
 | nil=>
  intro vs w
  rw[List.map_nil] at w
  cases w
  exact .nil
 | cons n ns ih=>
  intro vs w
  rw[List.map_cons] at w
  cases w with
  | cons a b=>
   cases a
   exact .cons _ _ (ih _ b)
theorem aCV{l:OpenLaw}{n:Nat}(hn:l.most=some n){P:Params}{h:Heap}{args:List WData}{vals:List Value}
  (hpre:l.row.toRowW.claim.pre args=true) (hwl:WellAll P h vals args) :
  ∃ a vs ns,vals=[Value.ref a]/\args=[WData.list (ns.map WData.int)]/\h.get? a=some {cls:=.type "list",data:=.seq vs.toArray}/\IntsAre vs ns/\ns.length<=n:=by
 have hsh:WShape.hasAll [] args [.list .int]=true:=(pre_splitW hpre).1
 have hc:l.pre.holds [] {args:=args}=true:=(pre_splitW hpre).2
 obtain ⟨d,r,rfl,h1,h2⟩:=hasAllW_cons hsh
 obtain rfl:=hasAllW_nil h2
 obtain ⟨xs,rfl,h3⟩:=hasW_list h1
 obtain ⟨ns,rfl⟩:=items_int h3
 have hlen:ns.length<=n:=by
  unfold OpenLaw.pre at hc
  have h4:(WTm.not (.lt (.lit (.int (n:Int))) (.len (.arg 0)))).holds [] {args:=[.list (ns.map .int)]}=true:=by
   have h4:=(holds_andW hc).1
   rw[hn] at h4
   exact h4
  have h5:=condW_of h4 (w_not (w_lt w_lit (w_len_list (w_arg rfl))))
  rw[List.length_map] at h5
  refine Nat.le_of_not_lt fun q=>?_
  have q':(n:Int) < ((ns.length:Nat):Int):=by omega
  first
   | (rw[decide_eq_true q'] at h5;exact absurd h5 (by decide))
   | (simp at h5;omega)
 cases hwl with
 | cons w1 w2=>
  cases w2
  cases w1 with
  | list ho hall=>exact ⟨_,_,ns,rfl,rfl,ho,sC ns _ hall,hlen⟩
theorem aCW(l:OpenLaw)(args:List WData):l.row.toRowW.claim.post args (.bool true) args=true:=
 postW_of (r:=l.row.toRowW) (X:=(true == true))
  (show WShape.has [] (.bool true) .bool=true by first|rfl|decide|simp[WShape.has,WShape.arms,WShape.armsAll])
  (show (WTm.eq .res (.lit (.bool true))).value [] {args:=args,res:=some (.bool true),after:=args}=some (.bool (true == true)) from w_eq_bool (w_res rfl) w_lit) rfl
theorem attach_call{l:OpenLaw}{n:Nat}{q:Program}{loose:List Str}{XP:(Str->Option Value)->Heap->Prop}{YP:World->Heap->Prop}{d:DefRec}
  (hn:l.most=some n) (hdf:d.params.defaults=[])
  (call:∀ (w:World) (s₀ s₁:Shared) (mg mb:Str->Option Value) (fa:Addr) (o:Obj) (pm cd doc:Value) (a:Addr) (vs:List Value) (ns:List Int),
   Ground q loose [] XP w s₀ mg mb s₁.heap->YP w s₁.heap->
   s₁.heap.get? fa=some o->o.data=.func (docDef d.name d.params d.body d.scope pm cd doc)->s₁.heap.CodeRec cd d.name->mg d.name=some (.ref fa)->
   s₁.heap.get? a=some {cls:=.type "list",data:=.seq vs.toArray}->IntsAre vs ns->ns.length<=n->s₁.gens = #[]->
   codeAny (model l.prog w) callerA (.call (.ref fa) ⟨[.ref a],[]⟩) (fun r s'=>r=.ok (.ret (.bool true))/\OldK s₁.heap s'.heap/\s'.os=s₁.os/\AllBare s'.gens) s₁) :
  WalkO q loose XP YP l.row.toRowW d [] (fun f vs=>PySem.call f vs):=by
 intro w s₀ s₁ mg mb G Y fa o pm cd doc dV kV ho hd hcd hD hmg hg args vals as hpre hlay hrd hwl hlo
 obtain rfl:dV=.none:=Dflts.none hD hdf
 obtain rfl:kV=.none:=Dflts.noKw hD
 obtain ⟨a,vs,ns,rfl,rfl,hobj,hints,hlen⟩:=aCV hn hpre hwl
 refine enter_call (codeAny_mono (call w s₀ s₁ mg mb fa o pm cd doc a vs ns G Y ho (fd_plain hd) hcd hmg hobj hints hlen hg) fun r s' hq=>?_)
 obtain ⟨rfl,h2,h3,h4⟩:=hq
 exact ⟨.inl ⟨.bool true,.bool true,[],rfl,fun _=>rfl,.bool true,aCW l _,fun _=>⟨List.Pairwise.nil,fun _ hm=>(nomatch hm)⟩⟩,h2,h3,h4⟩
section
variable{prog:Program}{w:World}{A:Around}{E:Value->Shared->Prop}{s:Shared}{K:Frag}
noncomputable def aP6(h:Heap)(L d:Addr):List (Addr×Obj):=(List.range h.objs.size).filterMap fun a=>if a=L\/a=d then none else (h.get? a).map fun o=>(a,o)
end
end Att
namespace L2
open PySem PySem.Spec PyProof.Rows
theorem uY:∀ {vs:List Value} {ns:List Int},IntsAre vs ns->bA (ns.map V.int) vs
 | _,_,.nil=>.nil
 | _,_,.cons n t h=>.cons ⟨t,rfl⟩ (uY h)
def aFD(H:Hp):Prop:=∀ b,H b=none\/∃ o xs,H b=some (.frz o (.lst xs))
theorem aFE{P:Program}{w:World}{K:Frag}{mg mb:Str->Option Value}{CX:CXT}{k:Nat}{fa a:Addr}{fd:FuncData}{x:Str}{sp:Sp}{s₁:Shared}{vs:List Value}{ns:List Int}
  (KX:K.In s₁.heap) (hns:s₁.heap.Ns mainGlobals mg) (hb:s₁.heap.Ns builtinsNs mb) (hbb:∀ x:Str,x≠"__name__"->mb x=bootBuiltins x) (hlim:s₁.heap.NoLimit) (hg:s₁.gens = #[])
  (ha:s₁.heap.get? a=some {cls:=.type "list",data:=.seq vs.toArray}) (hi:IntsAre vs ns) (hl:ns.length<=sizeLine) (hr:Room k callerA)
  (F:∀ base:Heap,K.In base->base.Ns mainGlobals mg->FnOk P w K mg base CX k fa fd [x] sp) (hbind:∀ (s:Shared) (u:Value),BindsTo s fd ⟨[u],[]⟩ [(x,u)])
  (hsp:∀ H:Hp,aFD H->SqL K H a (ns.map V.int)->sp [.ref a] H (fun v _=>v=.bl true) fun _ _ _=>False)
  (hCX:∀ H e s',CX [] H s₁ (fun _ _ _=>False) e s'->False) :
  codeAny (model P w) callerA (.call (.ref fa) ⟨[.ref a],[]⟩) (fun r s'=>r=.ok (.ret (.bool true))/\OldK s₁.heap s'.heap/\s'.os=s₁.os/\AllBare s'.gens) s₁:=by
 have rv:=uY hi
 have lenV:=hi.length
 have core:∀ H:Hp,aFD H->SqL K H a (ns.map V.int)->HOk P w H s₁.heap->(∀ b,H b≠none->b=a)->(H a≠none->K.lookup a=none)->
   codeAny (model P w) callerA (.call (.ref fa) ⟨[.ref a],[]⟩) (fun r s'=>r=.ok (.ret (.bool true))/\OldK s₁.heap s'.heap/\s'.os=s₁.os/\AllBare s'.gens) s₁:=by
  intro H hO hS hok hA hK
  have base_of:∀ {b:Addr} {o:Obj},s₁.heap.get? b=some o->H b=none->(nB s₁.heap H).get? b=some o:=fun e n=>aE2 e n
  have noA:∀ {b:Addr} {o:Obj} {es:Array DictEntry} {ep:Nat},s₁.heap.get? b=some o->o.data=.dict es ep->H b=none:=fun {b o es ep} e d=>by
   cases q:H b with
   | none=>rfl
   | some u=>
    have e':b=a:=hA b (by rw[q];simp)
    subst e'
    rw[ha] at e;cases e
    have d':Data.seq vs.toArray _=Data.dict es ep:=d
    cases d'
  have nsK:∀ {b:Addr} {m:Str->Option Value},s₁.heap.Ns b m->(nB s₁.heap H).Ns b m:=fun {b m} ⟨o,es,ep,e,d,r⟩=>⟨o,es,ep,base_of e (noA e d),d,r⟩
  have hKb:K.In (nB s₁.heap H):=fun b o e=>base_of (KX b o e) (by
   cases q:H b with
   | none=>rfl
   | some u=>
    have e':b=a:=hA b (by rw[q];simp)
    subst e'
    rw[hK (by rw[q];simp)] at e;cases e)
  have hM:Mod K mg (nB s₁.heap H):=⟨hKb,nsK hns,⟨mb,nsK hb,hbb⟩,let ⟨mc,h1,h2⟩:=hlim;⟨mc,nsK h1,h2⟩⟩
  have e0:Env0 P w K mg (nB s₁.heap H) callerA [] s₁ H:=⟨rfl,hM,fun b o e=>aH7 e,Nat.le_of_eq (aCJ _ _),trivial,fun b hb=>absurd (show b∈([]:List Addr) from hb) (by simp),hok,.of_eq hg⟩
  refine codeAny_mono ((F _ hKb (nsK hns)).run callerA [] s₁ H ⟨[.ref a],[]⟩ [.ref a] [.ref a] _ _ hr e0 (hbind s₁ (.ref a)) (.cons rfl .nil) (hsp H hO hS)) fun r s' h=>?_
  cases r with
  | error e=>exact (hCX H e s' h).elim
  | ok fl=>
   cases fl with
   | next=>exact False.elim h
   | brk=>exact False.elim h
   | cont=>exact False.elim h
   | ret u=>
    obtain ⟨v,H',os,bare,un,hok',r',q⟩:=h
    have q':v=.bl true:=q
    subst q'
    obtain rfl:u=Value.bool true:=r'
    refine ⟨rfl,OldK.of_keep fun b o e=>?_,os,bare⟩
    cases q:H b with
    | none=>exact un.keep b o e q (by intro z;exact absurd (show b∈([]:List Addr) from z) (by simp)) (by simp)
    | some u=>
     rcases hO b with z|⟨ob,xs,z⟩
     ·rw[q] at z;cases z
     ·have z2:=un.frzs b ob _ z
      obtain ⟨e1,_⟩:=hok b _ z
      obtain ⟨e2,_⟩:=hok' b _ z2
      rw[e] at e1;cases e1
      exact e2
 cases hk:K.lookup a with
 | some o=>
  have e:=KX a o hk
  rw[ha] at e
  cases e
  refine core (fun _=>none) (fun _=>.inl rfl) (.inr ⟨_,vs.toArray,_,hk,rfl,rfl,rfl,by rw[List.size_toArray,lenV];exact hl,by simpa using rv⟩) (fun b u z=>by have z':(none:Option HO)=some u:=z;cases z') (fun b z=>absurd rfl z) fun z=>absurd rfl z
 | none=>
  refine core (fun b=>if b=a then some (.frz {cls:=.type "list",data:=.seq vs.toArray} (.lst (ns.map V.int))) else none) (fun b=>?_) (.inl (.inr ⟨{cls:=.type "list",data:=.seq vs.toArray},if_pos rfl⟩)) (fun b u z=>?_) (fun b z=>?_) fun _=>hk
  ·by_cases hb:b=a
   ·exact .inr ⟨_,_,if_pos hb⟩
   ·exact .inl (if_neg hb)
  ·by_cases hb:b=a
   ·have z':=(if_pos hb).symm.trans z
    cases z'
    subst hb
    exact ⟨ha,by rw[List.length_map];exact hl,vs,_,rv,ha⟩
   ·have z':=(if_neg hb).symm.trans z
    cases z'
  ·by_cases hb:b=a
   ·exact hb
   ·exact absurd (if_neg hb) z
end L2
namespace L2
open PySem PySem.Spec PyProof.Rows
abbrev KOf{K:Frag}{h:Heap}(_:K.In h):Frag:=K
theorem walk_of{l:PySem.W.OpenLaw}{n k:Nat}{q:Program}{loose:List Str}{XP:(Str->Option Value)->Heap->Prop}{YP:World->Heap->Prop}{d:DefRec}{K:Params->Frag}{CX:World->CXT}{sp:World->Sp}{x:Str}
  (hn:l.most=some n) (hn2:n<=sizeLine) (hdf:d.params.defaults=[]) (hr:Room k callerA)
  (hY:∀ (w:World) (h:Heap),YP w h->(K w.params).In h)
  (F:∀ (w:World) (mg:Str->Option Value) (fa:Addr) (h:Heap),(K w.params).In h->h.Ns mainGlobals mg->mg d.name=some (.ref fa)->
   ∃ fd:FuncData,(∀ (s:Shared) (u:Value),BindsTo s fd ⟨[u],[]⟩ [(x,u)]) /\
    ∀ base:Heap,(K w.params).In base->base.Ns mainGlobals mg->FnOk l.prog w (K w.params) mg base (CX w) k fa fd [x] (sp w))
  (hsp:∀ (w:World) (H:Hp) (a:Addr) (ns:List Int),ns.length<=n->aFD H->SqL (K w.params) H a (ns.map V.int)->sp w [.ref a] H (fun v _=>v=.bl true) fun _ _ _=>False)
  (hCX:∀ (w:World) (H:Hp) (s:Shared) (e:Value) (s':Shared),CX w [] H s (fun _ _ _=>False) e s'->False) :
  PySem.W.WalkO q loose XP YP l.row.toRowW d [] (fun f vs=>PySem.call f vs):=by
 refine Att.attach_call hn hdf fun w s₀ s₁ mg mb fa o pm cd doc a vs ns G Y ho hd hcd hmg hobj hints hlen hg=>?_
 have KX:=hY w _ Y
 obtain ⟨fd,hb,hF⟩:=F w mg fa _ KX G.T.g hmg
 exact aFE KX G.T.g G.T.b G.T.builtins G.T.nolimit hg hobj hints (Nat.le_trans hlen hn2) hr hF hb (fun H hO hS=>hsp w H a ns hlen hO hS) fun H e s'=>hCX w H s₁ e s'
end L2
namespace L2
open PySem PySem.Spec PyProof.Rows
noncomputable def jJ(s:Stmt)(j:Nat):Stmt:=match s with
 | .ClassDef _ _ _ body _ _ _ _ _ _ _=>body.getD j (.Pass ⟨0,0,0,0⟩)
 | _=>.Pass ⟨0,0,0,0⟩
noncomputable def fY(s:Stmt):Arguments:=match s with
 | .FunctionDef _ a _ _ _ _ _ _ _ _=>a
 | _=>{posonlyargs:=[],args:=[],vararg:=none,kwonlyargs:=[],kw_defaults:=[],kwarg:=none,defaults:=[]}
noncomputable def dN(s:Stmt):List Stmt:=match s with
 | .FunctionDef _ _ b _ _ _ _ _ _ _=>b
 | _=>[]
noncomputable def aQ(s:Stmt):Scope:=match s with
 | .FunctionDef _ _ _ _ _ _ sc _ _ _=>sc
 | _=>{kind:=.function,names:=[],isGenerator:=false,isCoroutine:=false}
abbrev CX0:CXT:=fun _ _ _ _ _ _=>False
abbrev E0:XK:=fun _ _ _=>False
structure Fun(K:Frag)(x qual:Str)(st:Stmt)(f:Addr)(fd:FuncData):Prop where
 ex:∃ (oc:Value) (od:Option Addr) (kV doc pm:Value) (an:Option Addr) (cdv ct:Value) (osl:Array (Option Value)),
  fd=PySem.W.fnOf x qual (fY st) (dN st) (aQ st) .none kV doc pm an cdv ct/\K.lookup f=some ⟨oc,od,.func fd,osl⟩/\PySem.W.codeIn K cdv qual=true
 kp:PySem.W.keepIn K (.ref f)=true
section
variable{P:Program}{w:World}{K:Frag}{mg:Str->Option Value}{base:Heap}
theorem Fun.ok{x qual:Str}{st:Stmt}{f:Addr}{fd:FuncData}{N ps:List Str}{k:Nat}{sp:Sp}(F:Fun K x qual st f fd)(S:FnScope N ps (aQ st))(len:∀ vs H Q E,sp vs H Q E->vs.length=ps.length)
  (hbody:∀ (cdv:Value) (A:Around) (outer:List Env) (s:Shared) (H:Hp) (vs:List V) (Q:VK) (E:XK),Room k (A.deeper (envOfC qual (aQ st) s.heap.objs.size f cdv))->sp vs H Q E->
   ∃ t,PSs (iT CX0 P w K mg base N qual (aQ st) f cdv A outer s H E).nox (dN st) t/\t {nx:=fun _ H'=>Q .non H',rt:=Q} (start N vs) H):FnOk P w K mg base CX0 (k+1) f fd ps sp:=by
 obtain ⟨oc,od,kV,doc,pm,an,cdv,ct,osl,rfl,lk,hcd⟩:=F.ex
 refine aHL lk hcd S len fun A outer s H vs Q E hr hsp=>?_
 obtain ⟨t,h,q⟩:=hbody cdv A outer s H vs Q E hr hsp
 exact ⟨t,h.nox,q⟩
theorem Fun.binds{x qual:Str}{st:Stmt}{f:Addr}{fd:FuncData}{ps:List Str}(F:Fun K x qual st f fd)
  (h:∀ (kV doc pm:Value) (an:Option Addr) (cdv ct:Value) (us:List Value),us.length=ps.length->bindArgs (PySem.W.fnOf x qual (fY st) (dN st) (aQ st) .none kV doc pm an cdv ct) ⟨us,[]⟩=pure (ps.zip us)):fQ K fd ps []:=by
 obtain ⟨oc,od,kV,doc,pm,an,cdv,ct,osl,rfl,lk,hcd⟩:=F.ex
 exact .all (h kV doc pm an cdv ct)
theorem wP{x qual:Str}{st:Stmt}{f:Addr}{oc:Value}{od an:Option Addr}{osl:Array (Option Value)}{kV doc pm cdv ct:Value}(l:K.lookup f=some ⟨oc,od,.func (PySem.W.fnOf x qual (fY st) (dN st) (aQ st) .none kV doc pm an cdv ct),osl⟩)
 (c:PySem.W.codeIn K cdv qual=true) (k:PySem.W.keepIn K (.ref f)=true):Fun K x qual st f (PySem.W.fnOf x qual (fY st) (dN st) (aQ st) .none kV doc pm an cdv ct):=⟨⟨oc,od,kV,doc,pm,an,cdv,ct,osl,rfl,l,c⟩,k⟩
end
section
variable{X:Cx}
theorem pv(i:Nat){x:Str}{pos:Pos}(hN:X.N[i]? = some x:=by rfl)(hv:Vis X.env.scope x:=by first|exact Or.inl rfl|exact Or.inr (Or.inl rfl)|exact Or.inr (Or.inr rfl))(hd:(x == ("__debug__":Str))=false:=by decide)
 (hcd:(x == ("__classdict__":Str))=false:=by decide):PE X (.Name x pos) (jI i):=aKT hN hv hd hcd
end
theorem tP{A B:Prop}(h:B):if false=true then A else B:=by
 rw[if_neg Bool.false_ne_true]
 exact h
theorem tQ{A B:Prop}(h:A):if true=true then A else B:=by
 rw[if_pos rfl]
 exact h
def aF(H H':Hp):Prop:=∀ b o,H b=some o->H' b=some o
theorem aF.trans{H H1 H2:Hp}(a:aF H H1)(b:aF H1 H2):aF H H2:=fun c o h=>b c o (a c o h)
theorem aF.free{H H':Hp}(e:aF H H'){l:Addr}(h:H' l=Option.none):H l=Option.none:=by
 cases q:H l with
 | none=>rfl
 | some o=>
  rw[e l o q] at h
  cases h
theorem aF.seq{K:Frag}{H H':Hp}{a:Addr}{xs:List V}(e:aF H H')(h:SqL K H a xs):SqL K H' a xs:=by
 rcases h with (h|⟨o,h⟩)|h
 · exact .inl (.inl (e _ _ h))
 · exact .inl (.inr ⟨o, e _ _ h⟩)
 · exact .inr h
end L2
namespace L2
open PySem PySem.Spec PyProof.Rows
theorem aA7{env:Env}:∀ (names:List (Str×NameKind)) (acc:List (Str×Addr)),(∀ x∈names,x.2=.free->∃ c,env.cells.lookup x.1=some c)->
  (∀ x c,acc.lookup x=some c->env.cells.lookup x=some c)->
  ∃ cl,(forIn names acc fun x r=>(if (x.2 == NameKind.free)=true then (do let a <-cellOf env x.1;pure (ForInStep.yield ((x.1,a)::r))) else pure (ForInStep.yield r)):Sem (List (Str×Addr)))=pure cl /\
   (∀ x c,cl.lookup x=some c->env.cells.lookup x=some c)/\(∀ x∈names,x.2=.free->∃ c,cl.lookup x.1=some c)/\∀ x c,acc.lookup x=some c->∃ c',cl.lookup x=some c':=by
 intro names
 induction names with
 | nil=>intro acc _ h;exact ⟨acc,rfl,h,fun x hx=>absurd hx (by simp),fun x c e=>⟨c,e⟩⟩
 | cons x r ih=>
  intro acc hf h
  obtain ⟨n,k⟩:=x
  by_cases hk:k=.free
  ·subst hk
   obtain ⟨c,hc⟩:=hf (n,.free) List.mem_cons_self rfl
   have hc:env.cells.lookup n=some c:=hc
   obtain ⟨cl,e1,e2,e3,e4⟩:=ih ((n,c)::acc) (fun y hy=>hf y (List.mem_cons_of_mem _ hy)) (fun y d e=>by
    rw[List.lookup_cons] at e
    cases q:y == n with
    | true=>rw[q] at e;cases e;have:=eq_of_beq q;subst this;exact hc
    | false=>rw[q] at e;exact h y d e)
   refine ⟨cl,?_,e2,fun y hy hyf=>?_,fun y d e=>?_⟩
   ·rw[List.forIn_cons]
    simp only[beq_self_eq_true,if_true]
    unfold cellOf
    simp only[hc,pure_bind]
    exact e1
   ·rcases List.mem_cons.mp hy with z|z
    ·subst z
     exact e4 n c (by rw[List.lookup_cons];simp)
    ·exact e3 y z hyf
   ·by_cases q:y=n
    ·subst q;exact e4 y c (by rw[List.lookup_cons];simp)
    ·exact e4 y d (by rw[List.lookup_cons,beq_false_of_ne q];exact e)
  ·obtain ⟨cl,e1,e2,e3,e4⟩:=ih acc (fun y hy=>hf y (List.mem_cons_of_mem _ hy)) h
   refine ⟨cl,?_,e2,fun y hy hyf=>?_,e4⟩
   ·rw[List.forIn_cons]
    have:(k == NameKind.free)=false:=by simpa using hk
    simp only[this,Bool.false_eq_true,if_false,pure_bind]
    exact e1
   ·rcases List.mem_cons.mp hy with z|z
    ·subst z;exact absurd hyf hk
    ·exact e3 y z hyf
theorem sD{env:Env}{scope:Scope}(hf:∀ x∈scope.names,x.2=.free->∃ c,env.cells.lookup x.1=some c) :
  ∃ cl,closureFor scope env=pure cl/\(∀ x c,cl.lookup x=some c->env.cells.lookup x=some c)/\∀ x∈scope.names,x.2=.free->∃ c,cl.lookup x.1=some c:=by
 obtain ⟨cl,e1,e2,e3,_⟩:=aA7 scope.names [] hf (fun x c e=>by simp at e)
 refine ⟨cl,?_,e2,e3⟩
 unfold closureFor
 first
  | exact e1
  | (rw[<-e1];rfl)
  | (simp only[bind_pure];exact e1)
theorem fF{env:Env}:∀ {names:List (Str×NameKind)} {x:Str} {k:NameKind},
  (names.map fun (n,k)=>if (k == NameKind.free && env.scope.kind == .function && env.kindOf n == some .cell) then (n,NameKind.cell) else (n,k)).lookup x=some k->
  k=.cell\/k=.free->(∀ y∈names,y.2≠.cell)->(x,NameKind.free)∈names
 | [],_,_,h,_,_=>by simp at h
 | (n,k0)::r,x,k,h,hk,hc=>by
  have ih:=@fF env r x k
  rw[List.map_cons] at h
  dsimp only at h
  by_cases hx:x=n
  ·subst hx
   by_cases hcond:(k0 == NameKind.free && env.scope.kind == .function && env.kindOf x == some .cell)=true
   ·have:k0=.free:=by
     simp only[Bool.and_eq_true] at hcond
     exact eq_of_beq hcond.1.1
    subst this
    exact List.mem_cons_self
   ·rw[if_neg hcond,List.lookup_cons] at h
    simp only[beq_self_eq_true] at h
    cases h
    rcases hk with rfl|rfl
    ·exact absurd rfl (hc _ List.mem_cons_self)
    ·exact List.mem_cons_self
  ·have hb:(x == n)=false:=beq_false_of_ne hx
   refine List.mem_cons_of_mem _ (ih ?_ hk fun y hy=>hc y (List.mem_cons_of_mem _ hy))
   split at h
   ·rw[List.lookup_cons,hb] at h;exact h
   ·rw[List.lookup_cons,hb] at h;exact h
noncomputable def eP(X:Cx)(N:List Str)(scope:Scope)(cl:List (Str×Addr))(C:Addr)(s:Shared)(H:Hp)(fp:List Addr):Cx where
 prog:=X.prog
 w:=X.w
 K:=X.K
 mg:=X.mg
 base:=X.base
 A:=X.A
 N:=N
 s₀:=s
 H₀:=H
 env:=compEnvC scope cl C X.env
 outer:=X.stack
 stack:=X.stack
 ex:=fp
 calm:=X.calm
 fn:=fun _=>false
 pn:=[]
 xe:=fun _ _=>False
inductive Caps(X:Cx)(scope:Scope):List Str->List (Option Nat)->Prop
 | nil:Caps X scope [] []
 | own {x:Str} {N:List Str} {js:List (Option Nat)} (t:Caps X scope N js):Caps X scope (x::N) (none::js)
 | cap {x:Str} {j:Nat} {N:List Str} {js:List (Option Nat)} (h1:X.N[j]? = some x) (h2:X.env.kindOf x=some .cell\/X.env.kindOf x=some .free)
  (h3:(relabel scope X.env).names.lookup x=some .cell\/(relabel scope X.env).names.lookup x=some .free) (t:Caps X scope N js):Caps X scope (x::N) (some j::js)
theorem Caps.len{X:Cx}{scope:Scope}{N:List Str}{js:List (Option Nat)}(c:Caps X scope N js):js.length=N.length:=by
 induction c with
 | nil=>rfl
 | own _ ih=>simp[ih]
 | cap _ _ _ _ ih=>simp[ih]
theorem Caps.get{X:Cx}{scope:Scope}{N:List Str}{js:List (Option Nat)}(c:Caps X scope N js):∀ {i j:Nat} {x:Str},js[i]? = some (some j)->N[i]? = some x->
  X.N[j]? = some x/\(X.env.kindOf x=some .cell\/X.env.kindOf x=some .free)/\((relabel scope X.env).names.lookup x=some .cell\/(relabel scope X.env).names.lookup x=some .free):=by
 induction c with
 | nil=>intro i j x h;simp at h
 | own _ ih=>
  intro i j x h1 h2
  cases i with
  | zero=>simp at h1
  | succ i=>exact ih (by simpa using h1) (by simpa using h2)
 | cap a b d _ ih=>
  intro i j x h1 h2
  cases i with
  | zero=>
   simp at h1 h2
   subst h1 h2
   exact ⟨a,b,d⟩
  | succ i=>exact ih (by simpa using h1) (by simpa using h2)
noncomputable def iU(js:List (Option Nat))(σ:St):St:=js.map fun o=>o.bind fun j=>(σ[j]?).join
def c7(σ σ':St):Prop:=σ'.length=σ.length/\∀ (i:Nat) v,σ[i]? = some (some v)->σ'[i]? = some (some v)
theorem c7.refl(σ:St):c7 σ σ:=⟨rfl,fun _ _ h=>h⟩
theorem c7.set{σ:St}{i:Nat}{v:Option V}(h:σ[i]? = some none):c7 σ (σ.set i v):=by
 refine ⟨List.length_set,fun j u e=>?_⟩
 by_cases q:i=j
 · subst q; rw [h] at e; cases e
 · rw [List.getElem?_set_ne q]; exact e
theorem c7.trans{a b c:St}(h:c7 a b)(k:c7 b c):c7 a c:=⟨k.1.trans h.1,fun i v e=>k.2 i v (h.2 i v e)⟩
section
variable{X:Cx}
def PIf(X:Cx)(ifs:List Expr)(t:TT):Prop:=
 ∀ (pins:List (Addr×Obj)) (s:Shared) (σ:St) (H:Hp) (Q:Bool->Hp->Prop),Inv X pins σ H s->t σ H Q->
  wpAny (model X.prog X.w) X.A (forIn ifs true fun c r=>if r=true then do let ok <-isTrue c X.env (eval c X.env);pure (ForInStep.yield ok) else pure (ForInStep.yield r)) (TP X pins σ Q) X.xe s
def aLO:TT:=fun _ H Q=>Q true H
theorem cJ:PIf X [] aLO:=by
 intro pins s σ H Q I h
 show wpAny _ _ (pure true) _ _ s
 exact wpAny_pure ⟨H,I,h⟩
end
def tR(X:Cx)(N:List Str)(scope:Scope)(js:List (Option Nat))(tg elt:Expr)(ifs:List Expr)(σ:St)(x:V)(H:Hp)(R:Option V->Hp->Prop):Prop:=
 ∀ (cl:List (Str×Addr)) (C:Addr) (s:Shared) (H0:Hp) (fp:List Addr),∃ (g:TG) (tt:TT) (te:TE),PG (eP X N scope cl C s H0 fp) tg g/\PIf (eP X N scope cl C s H0 fp) ifs tt/\PE (eP X N scope cl C s H0 fp) elt te /\
  ∀ σ0,c7 (iU js σ) σ0->g x σ0 H fun σ2 H2=>c7 (iU js σ) σ2/\tt σ2 H2 fun b H3=>if b=true then te σ2 H3 fun y H4=>R (some y) H4 else R none H3
def compK(X:Cx)(N:List Str)(scope:Scope)(js:List (Option Nat))(tg elt:Expr)(ifs:List Expr)(σ:St)(Q:VK)(J:It)(H1:Hp):Prop:=∃ (n:Nat) (W:Nat->List V->Hp->Prop),n<=sizeLine/\W 0 [] H1 /\
 ∀ i ys H,W i ys H->ys.length<=i/\((J.stop i H/\∀ p,H p=none->Q (.ref p) (upd H p (.lst ys)))\/(J.go i H/\i < n/\∃ R:Option V->Hp->Prop,(∀ y H2,R (some y) H2->W (i+1) (ys++[y]) H2)/\(∀ H2,R none H2->W (i+1) ys H2) /\
  ∀ x H',J.yld i H x H'->tR X N scope js tg elt ifs σ x H' R))
def pR(X:Cx)(N:List Str)(scope:Scope)(js:List (Option Nat))(tg elt:Expr)(ifs:List Expr)(wi:TI):TE:=fun σ H Q=>wi σ H (compK X N scope js tg elt ifs σ Q)
end L2
namespace L2
open PySem PySem.Spec PyProof.Rows
section
variable{prog:Program}{w:World}{A:Around}{R:Result->Shared->Prop}{s:Shared}
theorem wQ{elt target iter:Expr}{ifs:List Expr}{scope:Scope}{pos:Pos}{it acc:Value}{env:Env}(I:Nat->Shared->Prop)
  (turn:∀ n s,I n s->wpAny (model prog w) A (pyNext it) (fun r s1=>match r with
   | none=>R (.ok .next) s1
   | some v=>wpAny (model prog w) A (letOwnedTupleGo target it v) (fun _ s1'=>wpAny (model prog w) A (assign target env v) (fun _ s2=>
    wpAny (model prog w) A (forIn ifs true fun c r=>if r=true then do let ok <-isTrue c env (eval c env);pure (ForInStep.yield ok) else pure (ForInStep.yield r)) (fun ok s3=>
     if ok=true then wpAny (model prog w) A (eval elt env) (fun x s4=>
      wpAny (model prog w) A (call (.builtin "list.append") [acc,x]) (fun _ s5=>∃ m,m < n/\I m s5) (fun _ _=>False) s4) (fun _ _=>False) s3
     else ∃ m,m < n/\I m s3) (fun _ _=>False) s2) (fun _ _=>False) s1') (fun _ _=>False) s1) (fun _ _=>False) s)
  (n:Nat) (h:I n s) :
  codeAny (model prog w) A (.compLoop (.ListComp elt [⟨target,iter,ifs,0⟩] scope pos) 0 it acc env) R s:=by
 refine codeAny_loop rfl I (fun n s hI=>?_) n h
 show wpAny _ A ((compTurn (.ListComp elt [⟨target,iter,ifs,0⟩] scope pos) 0 it acc env).onRaise (fun x=>do noteFrame x env;theTreesLotGoes x)) _ _ s
 refine wpAny_noted ?_
 rw[compTurn_list]
 have nr:∀ {α:Type} {t:Sem α} {Q:α->Shared->Prop} {E':Value->Shared->Prop} {s:Shared},wpAny (model prog w) A t Q (fun _ _=>False) s->wpAny (model prog w) A t Q E' s:=fun h=>wpAny_mono h (fun _ _ q=>q) fun _ _ f=>f.elim
 refine wpAny_bind (wpAny_standAt (wpAny_bind (wpAny_mono (turn n s hI) (fun r s₁ h₁=>?_) fun _ _ h'=>h'.elim)))
 cases r with
 | none=>exact wpAny_pure h₁
 | some v=>
  refine wpAny_bind (wpAny_mono h₁ (fun _ s1' h1'=>?_) fun _ _ f=>f.elim)
  refine wpAny_bind (wpAny_mono h1' (fun _ s₂ h₂=>wpAny_bind (wpAny_mono h₂ (fun ok s₃ h₃=>?_) fun _ _ h'=>h'.elim)) fun _ _ h'=>h'.elim)
  cases ok with
  | false=>exact wpAny_pure ⟨rfl,h₃⟩
  | true=>
   exact wpAny_bind (wpAny_bind (wpAny_mono h₃ (fun x s₄ h₄=>wpAny_bind (wpAny_mono h₄ (fun _ s₅ h₅=>wpAny_pure (wpAny_pure ⟨rfl,h₅⟩)) fun _ _ h'=>h'.elim)) fun _ _ h'=>h'.elim))
end
theorem HOk.track{P:Program}{w:World}{H:Hp}{h:Heap}{a:Addr}{o:HO}(x:HOk P w H h)(hn:H a=none)(new:b5 P w (upd H a o) h a o):HOk P w (upd H a o) h:=fun b u e=>by
 by_cases hb:b=a
 ·subst hb;rw[aL] at e;cases e;exact new
 ·rw[aD hb] at e
  exact (x b u e).stay (fun c v _ q=>q) (fun c q=>by rw[aD (bB q hn)];exact q) (fun c xs q=>by rw[aD (bB q hn)];exact q) fun c xs q=>by rw[aD (bB q hn)];exact q
section
variable{X:Cx}{pins:List (Addr×Obj)}{σ:St}
structure CompEnd(X:Cx)(pins:List (Addr×Obj))(σ:St)(D C:Addr)(ys:List V)(H':Hp)(s':Shared):Prop where
 inv:Inv X pins σ (upd H' D (.lst ys)) s'
 ns:∃ m,s'.heap.Ns C m
 fp:gG X pins (upd H' D (.lst ys)) C
 nD:H' D=none
theorem CompEnd.gone{D C:Addr}{ys:List V}{H H':Hp}{s':Shared}{h'':Heap}{σ':St}(I:Inv X pins σ' H s')(fp:gG X pins H C)(hs:Heap.SameBut C s'.heap h''):Inv X pins σ' H {s' with heap:=h''}:=
 I.turned (it:=C) (t':=s'.toks) (fun b o hb e=>(hs.2 b hb).trans e) fp.1 fp.2.1 fp.2.2.2.1 fp.2.2.2.2.1 fp.2.2.2.2.2
theorem wR{prog:Program}{w:World}{A:Around}{E:Value->Shared->Prop}{s:Shared}{l:Addr}{items:Array Value}{nn:Nat}{x:Value}{Q:Value->Shared->Prop}(e:s.heap.get? l=some {cls:=.type "list",dict:=none,data:=.seq items nn})(hz:items.size<=sizeLine)
  (hQ:∀ nn' h',h'.get? l=some {cls:=.type "list",dict:=none,data:=.seq (items.push x) nn'}->Heap.SameBut l s.heap h'->Q .none {s with heap:=h'}) :
  wpAny (model prog w) A (call (.builtin "list.append") [.ref l,x]) Q E s:=by
 refine call_meets F.slot_list_append ⟨_,e,rfl⟩ F.entry_list_append (F.args_list_append_2 _ _) (PySem.list_append l items nn x (by omega)) ⟨e,?_⟩
 exact hQ _ _ (Heap.get?_update_self _ e rfl) (Heap.SameBut.update ..)
theorem sE{N:List Str}{js:List (Option Nat)}{scope:Scope}{tg elt iter:Expr}{ifs:List Expr}{cl:List (Str×Addr)}{pos:Pos}{it:Addr}{fp:List Addr}{tn:Nat->Heap->Prop}{J:It}{s2:Shared}{H2:Hp}{E:Value->Shared->Prop}
  {RR:Value->Addr->Result->Shared->Prop} {Q:VK} (hc:X.calm=true) (caps:Caps X scope N js) (hkind:scope.kind=.function) (hcell:∀ y∈scope.names,y.2≠.cell)
  (hcl1:∀ x c,cl.lookup x=some c->X.env.cells.lookup x=some c) (hcl2:∀ x∈scope.names,x.2=.free->∃ c,cl.lookup x.1=some c)
  (I:Inv X pins σ H2 s2) (T:Turn X.prog X.w X.K tg J fp it tn) (st2:tn 0 s2.heap) (f2:∀ b∈fp,gG X pins H2 b) (n:Nat) (W:Nat->List V->Hp->Prop) (hn:n<=sizeLine) (w0:W 0 [] H2)
  (turn:∀ i ys H,W i ys H->ys.length<=i/\((J.stop i H/\∀ p,H p=none->Q (.ref p) (upd H p (.lst ys)))\/(J.go i H/\i < n/\∃ R:Option V->Hp->Prop,(∀ y H2,R (some y) H2->W (i+1) (ys++[y]) H2)/\(∀ H2,R none H2->W (i+1) ys H2) /\
   ∀ x H',J.yld i H x H'->tR X N scope js tg elt ifs σ x H' R)))
  (hRR:∀ D C ys H' s',CompEnd X pins σ D C ys H' s'->Q (.ref D) (upd H' D (.lst ys))->RR (.ref D) C (.ok .next) s') :
  wpAny (model X.prog X.w) X.A (newList []) (fun acc s3=>wpAny (model X.prog X.w) X.A (newFunctionEnv scope X.env.globals cl [] X.env.qual none .none (some X.env)) (fun cenv s4=>
   codeAny (model X.prog X.w) X.A (.compStart (.ListComp elt [⟨tg,iter,ifs,0⟩] scope pos) 0 (.ref it) acc {cenv with scope:=relabel scope X.env}) (RR acc cenv.locals) s4) E s3) E s2:=by
 refine wpAny_newObj_type (wpAny_newFunctionEnv hcell (by intro y hy;simp at hy) (fun h₁ hns₁ hsb₁=>?_) hkind)
 dsimp only at hns₁ hsb₁ ⊢
 generalize hHh:s2.heap.push {cls:=.type "list",dict:=none,data:=.seq ([]:List Value).toArray}=Hh at hns₁ hsb₁ ⊢
 have hC:Hh.objs.size=s2.heap.objs.size+1:=by rw[<-hHh,Heap.size_push]
 have hDC:s2.heap.objs.size≠Hh.objs.size:=by rw[hC];exact Nat.ne_of_lt (Nat.lt_succ_self _)
 have hCle:s2.heap.objs.size<=Hh.objs.size:=by rw[hC];exact Nat.le_succ _
 have old:∀ b o,s2.heap.get? b=some o->h₁.get? b=some o:=fun b o e=>hsb₁.extBut b o (by rw[hC];exact Nat.ne_of_lt (Nat.lt_succ_of_lt (Heap.lt_size e))) (Heap.get?_push_of_some _ (hHh▸Heap.get?_push_of_some _ e))
 have haccO:h₁.get? s2.heap.objs.size=some {cls:=.type "list",dict:=none,data:=.seq ([]:List Value).toArray}:=hsb₁.extBut _ _ hDC (Heap.get?_push_of_some _ (hHh▸Heap.get?_push_size _ rfl))
 have st1:tn 0 h₁:=T.keep _ _ _ st2 fun b hb o e=>old b o e
 have fplt:∀ b∈fp,b < s2.heap.objs.size:=fun b hb=>by
  obtain ⟨o,e,_⟩:=T.obj _ _ st2 b hb
  exact Heap.lt_size e
 have fsIn:∀ b∈frs X.stack,b < s2.heap.objs.size:=fun b hb=>by
  rcases List.mem_cons.mp (I.stkSub b hb) with z|z
  ·rw[z];exact I.lt
  ·refine Nat.lt_of_not_le fun hle=>I.nofs hle z
 have fpC:∀ b∈fp,b≠Hh.objs.size:=fun b hb z=>Nat.lt_irrefl _ (Nat.lt_of_lt_of_le (fplt b hb) (z▸hCle))
 generalize hD:s2.heap.objs.size=D at *
 generalize hCc:Hh.objs.size=C at *
 let X':=eP X N scope cl C s2 H2 fp
 have ok':X'.Ok:=by
  refine ⟨I.ok.mod,hkind,I.ok.glob,I.ok.blt,by show s2.heap.objs.size<=C;rw[hD];exact hCle,fun x y c e1 e2=>I.ok.inj x y c (hcl1 x c e1) (hcl1 y c e2),fun x hx=>?_,fun x c z=>absurd (show false=true from z) Bool.false_ne_true,I.ok.hd,I.ok.frames,.inl rfl,fun b hb=>?_,
   I.bs,Nat.le_trans I.ok.bsz I.sz,fun b o e hb=>?_,fun b hb z=>?_,I.stack,I.stkFree⟩
  ·have hm:(x,NameKind.free)∈scope.names:=by
    rcases hx with z|z
    ·exact fF (env:=X.env) z (.inl rfl) hcell
    ·exact fF (env:=X.env) z (.inr rfl) hcell
   exact hcl2 _ hm rfl
  ·exact ⟨fpC b hb,fun x c e=>(f2 b hb).2.2.2.2.1 x c (hcl1 x c e)⟩
  ·rcases (f2 b hb).2.2.2.1 with z|z
   ·exact I.ok.noex b o e z
   ·exact absurd (Heap.lt_size (I.ok.bs b o e).1) (Nat.not_lt.mpr z)
  ·rcases List.mem_cons.mp (I.stkSub b z) with q|q
   ·exact (f2 b hb).2.1 q
   ·exact (f2 b hb).2.2.1 q
 have hσl:(iU js σ).length=N.length:=by unfold iU;rw[List.length_map,caps.len]
 have freeC:H2 C=none:=I.hok.fresh (by rw[hD];exact hCle)
 have freeD:H2 D=none:=I.hok.fresh (by rw[hD];exact Nat.le_refl _)
 have DnotFs:D∉frs X.stack:=fun z=>Nat.lt_irrefl _ (fsIn D z)
 have DnotFp:D∉fp:=fun z=>Nat.lt_irrefl _ (fplt D z)
 have I0:∀ tk,Inv X' [] (iU js σ) H2 {s2 with heap:=h₁,toks:=tk}:=fun tk=>by
  refine ⟨ok',rfl,I.bare,Un.kept old,⟨_,hns₁,fun i x v e1 e2 e3=>?_⟩,fun x c e=>?_,freeC,fun x c e=>I.freeC x c (hcl1 x c e),fun p hp=>absurd hp (by show ¬ p∈([]++[]:List (Addr×Obj));simp),I.hok.kept old,hσl⟩
  ·unfold iU at e2
   rw[List.getElem?_map] at e2
   cases q:js[i]? with
   | none=>rw[q] at e2;cases e2
   | some o=>
    rw[q] at e2
    cases o with
    | none=>cases e2
    | some j=>
     have e2':(σ[j]?).join=some v:=Option.some.inj e2
     obtain ⟨c1,c2,c3⟩:=caps.get q e1
     have e4:σ[j]? = some (some v):=by
      cases z:σ[j]? with
      | none=>rw[z] at e2';cases e2'
      | some u=>rw[z] at e2';have:u=some v:=e2';rw[this]
     obtain ⟨m,hm,hl⟩:=I.loc
     have vis:Vis X.env.scope x:=by
      rcases c2 with z|z
      · exact .inr (.inl z)
      · exact .inr (.inr z)
     obtain ⟨u,r,l⟩:=hl j x v c1 e4 vis
     refine ⟨u,r,.inr ⟨c3,?_⟩⟩
     have lc:∃ c,X.env.cells.lookup x=some c/\s2.heap.IsCell c (some u):=by
      rcases l with ⟨k,_⟩|⟨_,z⟩
      · rcases c2 with z | z <;> (rw [k] at z; cases z)
      · exact z
     obtain ⟨c,e5,o,ho,hd⟩:=lc
     have hm2:(x,NameKind.free)∈scope.names:=by
      rcases c3 with z|z
      · exact fF (env := X.env) z (.inl rfl) hcell
      · exact fF (env := X.env) z (.inr rfl) hcell
     obtain ⟨c',e6⟩:=hcl2 _ hm2 rfl
     have e7:=hcl1 _ _ e6
     rw[e5] at e7;cases e7
     exact ⟨c,e6,o,old c o ho,hd⟩
  ·obtain ⟨v,o,ho,hd⟩:=I.cell x c (hcl1 x c e)
   exact ⟨v,o,old c o ho,hd⟩
 have fpok:∀ {H':Hp} {pl:List (Addr×Obj)},(∀ b∈fp,H' b=none)->(∀ b∈fp,∀ p∈pl,p.1≠b)->∀ b∈fp,gG X' pl H' b:=fun {H' pl} hn hpl b hb=>by
  refine ⟨hn b hb,fpC b hb,ok'.exfs b hb,.inl hb,fun x c e=>(f2 b hb).2.2.2.2.1 x c (hcl1 x c e),fun p hp=>hpl b hb p ?_⟩
  have hp':p∈[]++pl:=hp
  simpa using hp'
 let LI:Nat->Shared->Prop:=fun k s'=>∃ i ys its nn σ' H',k=n+1 - i/\i<=n/\W i ys H'/\tn i s'.heap/\(∀ b∈fp,H' b=none)/\bA ys its/\c7 (iU js σ) σ' /\
  Inv X' [(D,{cls:=.type "list",dict:=none,data:=.seq its.toArray nn})] σ' H' s'
 have loop:∀ tk,codeAny (model X.prog X.w) X.A (.compLoop (.ListComp elt [⟨tg,iter,ifs,0⟩] scope pos) 0 (.ref it) (.ref D) (compEnvC scope cl C X.env)) (RR (.ref D) C) {s2 with heap:=h₁,toks:=tk}:=by
  intro tk
  refine wQ LI ?_ (n+1) ⟨0,[],[],0,iU js σ,H2,rfl,Nat.zero_le _,w0,st1,fun b hb=>(f2 b hb).1,.nil,c7.refl _,?_⟩
  ·rintro k s3 ⟨i,ys,its,nn,σ3,H3,rfl,hin,w3,st3,fr3,r3,ks,I3⟩
   obtain ⟨hyl,tr⟩:=turn i ys H3 w3
   have fpk:=fpok (pl:=[(D,{cls:=.type "list",dict:=none,data:=.seq its.toArray nn})]) fr3 (fun b hb p hp z=>by
    rw[List.mem_singleton.mp hp] at z
    exact DnotFp ((show D=b from z)▸hb))
   rcases tr with ⟨stop,q⟩|⟨go,hlt,RW,hR1,hR2,step⟩
   ·refine thn (T.done X' rfl rfl rfl hc i _ s3 σ3 H3 _ I3 fpk st3 stop) fun r s4 zz0=>?_
    obtain ⟨hr,I4⟩:=zz0
    subst hr
    show RR (.ref D) C (.ok .next) s4
    obtain ⟨pe,pn,p1,p2,p3⟩:=I4.pin (D,{cls:=.type "list",dict:=none,data:=.seq its.toArray nn}) (by show _∈[]++_;simp)
    refine hRR D C ys H3 s4 ?_ (q D pn)
    have hok4:HOk X.prog X.w (upd H3 D (.lst ys)) s4.heap:=HOk.track I4.hok pn ⟨Nat.le_trans hyl (Nat.le_trans hin hn),its,nn,r3,pe⟩
    have ltD:∀ b u,H2 b=some u->b≠D:=fun b u e z=>by rw[z,freeD] at e;cases e
    have un4:Un (frs X.stack) fp H2 (upd H3 D (.lst ys)) s2.heap s4.heap:=by
     have ub:=I4.base
     refine ⟨ub.keep,ub.slot,fun b o e nn' hx=>?_,ub.there,fun b xs e=>?_,fun b o u e=>?_,fun b ps e=>?_⟩
     ·rw[aD (fun z=>by have:=Heap.lt_size e;rw[hD,z] at this;exact Nat.lt_irrefl _ this)]
      exact ub.free b o e nn' hx
     ·rw[aD (ltD b _ e)];exact ub.tups b xs e
     ·rw[aD (ltD b _ e)];exact ub.frzs b o u e
     ·rw[aD (ltD b _ e)];exact ub.tbls b ps e
    refine ⟨I.call' I4.os un4 hok4 I4.bare fun b hb=>⟨(f2 b hb).2.2.2.1,(f2 b hb).2.1,(f2 b hb).2.2.2.2.1,(f2 b hb).2.2.2.2.2⟩,?_,?_,pn⟩
    ·obtain ⟨m,hm,_⟩:=I4.loc
     exact ⟨m,hm⟩
    ·refine I.fpOk (by rw[hD];exact hCle) ?_
     rw[aD (Ne.symm hDC)]
     exact I4.free
   ·refine thn (T.item X' rfl rfl rfl hc i _ s3 σ3 H3 _ I3 fpk st3 go) fun r s4 zz0=>?_
    obtain ⟨u,hr,h4⟩:=zz0
    subst hr
    show wpAny _ _ (letOwnedTupleGo tg (.ref it) u) _ _ s4
    refine thn h4 fun _ s5 zz0=>?_
    obtain ⟨x,H5,I5,r5,y5,st5,fr5⟩:=zz0
    obtain ⟨g,tt,te,hg,ht,he,hq⟩:=step x H5 y5 cl C s2 H2 fp
    have fpk5:=fpok (pl:=[(D,{cls:=.type "list",dict:=none,data:=.seq its.toArray nn})]) fr5 (fun b hb p hp z=>by
     rw[List.mem_singleton.mp hp] at z
     exact DnotFp ((show D=b from z)▸hb))
    have I5':=I5.pinned fpk5 (T.obj _ _ st5)
    refine thn (hg _ s5 σ3 H5 x u _ I5' r5 (hq σ3 ks)) fun _ s6 zz0=>?_
    obtain ⟨σ6,H6,I6,ks6,q6⟩:=zz0
    refine thn (ht _ s6 σ6 H6 _ I6 q6) fun b s7 zz0=>?_
    obtain ⟨H7,I7,q7⟩:=zz0
    have stK:∀ {s':Shared} {H':Hp} {σ':St},Inv X' ([(D,{cls:=.type "list",dict:=none,data:=.seq its.toArray nn})]++oN fp s5.heap) σ' H' s'->tn (i+1) s'.heap/\(∀ b∈fp,H' b=none):=fun {s' H' σ'} I'=>by
     refine ⟨T.keep _ _ _ st5 fun b hb o e=>(I'.pin (b,o) (List.mem_append_right _ (List.mem_append_right _ (iS hb e)))).1,fun b hb=>?_⟩
     obtain ⟨o,e,d⟩:=T.obj _ _ st5 b hb
     exact (I'.pin (b,o) (List.mem_append_right _ (List.mem_append_right _ (iS hb e)))).2.1
    cases b with
    | false=>
     rw[if_neg Bool.false_ne_true] at q7 ⊢
     obtain ⟨a1,a2⟩:=stK I7
     exact ⟨n+1 - (i+1),by omega,i+1,ys,its,nn,σ6,H7,rfl,hlt,hR2 _ q7,a1,a2,r3,ks6,I7.unpinned⟩
    | true=>
     rw[if_pos rfl] at q7 ⊢
     refine thn (he _ s7 σ6 H7 _ I7 q7) fun yv s8 zz0=>?_
     obtain ⟨y,H8,I8,r8,q8⟩:=zz0
     obtain ⟨a1,a2⟩:=stK I8
     have I8u:=I8.unpinned
     obtain ⟨pe,pn,p1,p2,p3⟩:=I8u.pin (D,{cls:=.type "list",dict:=none,data:=.seq its.toArray nn}) (by show _∈[]++_;simp)
     have hl8:s8.heap.IsList D its.toArray:=PySem.IsL.isList pe
     have isz:its.length<=sizeLine:=by rw[<-r3.length];exact Nat.le_trans hyl (Nat.le_trans hin hn)
     refine wR pe (by simpa using isz) fun nn' h9 e9 hs9=>?_
     have I9:Inv X' [] σ6 H8 {s8 with heap:=h9,toks:=s8.toks}:=by
      refine Inv.turned (pins:=[]) (it:=D) (t':=s8.toks) (I8u.pins_of (pins':=[]) fun p hp=>absurd hp (by simp)) (fun b o hb e=>(hs9.2 b hb).trans e) pn hDC (.inr (by show s2.heap.objs.size<=D;rw[hD];exact Nat.le_refl _)) (fun x c e z=>?_) fun p hp=>absurd hp (by show ¬ p∈([]++[]:List (Addr×Obj));simp)
      obtain ⟨v,o,ho,hd⟩:=I.cell x c (hcl1 x c e)
      have:=Heap.lt_size ho
      rw[hD,z] at this
      exact Nat.lt_irrefl _ this
     refine ⟨n+1 - (i+1),by omega,i+1,ys++[y],its++[yv],nn',σ6,H8,rfl,hlt,hR1 _ _ q8,?_,a2,bA.append r3 (.cons r8 .nil),ks6,?_⟩
     ·exact T.keep _ _ _ a1 fun b hb o e=>(hs9.2 b (fun z=>DnotFp (z▸hb))).trans e
     ·refine I9.pins_of fun p hp=>?_
      obtain rfl:=List.mem_singleton.mp hp
      exact ⟨by simpa using e9,pn,p1,p2,by simp⟩
  ·refine (I0 tk).pins_of fun p hp=>?_
   obtain rfl:=List.mem_singleton.mp hp
   exact ⟨haccO,freeD,hDC,DnotFs,by simp⟩
 exact codeAny_compStart_list (loop _) (T.self X.A 0 _ _ _ st1 (loop _))
noncomputable def d9(names:List (Str×NameKind))(outer:Str->Option NameKind):Bool:=
 names.all (fun y=>y.2 != .cell) && names.all (fun y=>y.2 != .local || names.lookup y.1 == some .local) && names.all (fun y=>y.2 != .free || outer y.1 == some .cell || outer y.1 == some .free)
theorem d9.cell{names:List (Str×NameKind)}{outer:Str->Option NameKind}(h:d9 names outer=true):∀ y∈names,y.2≠.cell:=fun y hy=>by
 unfold d9 at h
 simp only[Bool.and_eq_true,List.all_eq_true] at h
 simpa using h.1.1 y hy
theorem d9.names{names:List (Str×NameKind)}{outer:Str->Option NameKind}(h:d9 names outer=true):∀ y∈names,y.2=.local->names.lookup y.1=some .local:=fun y hy e=>by
 unfold d9 at h
 simp only[Bool.and_eq_true,List.all_eq_true] at h
 have:=h.1.2 y hy
 rw[e] at this
 simpa using this
theorem d9.free{names:List (Str×NameKind)}{outer:Str->Option NameKind}(h:d9 names outer=true):∀ y∈names,y.2=.free->outer y.1=some .cell\/outer y.1=some .free:=fun y hy e=>by
 unfold d9 at h
 simp only[Bool.and_eq_true,List.all_eq_true] at h
 have:=h.2 y hy
 rw[e] at this
 simpa using this
theorem dS{N:List Str}{js:List (Option Nat)}{scope:Scope}{tg elt iter:Expr}{ifs:List Expr}{pos:Pos}{wi:TI}(hc:X.calm=true)(caps:Caps X scope N js)(hok:d9 scope.names X.env.kindOf=true)
  (hi:PI X tg iter wi) (hkind:scope.kind=.function:=by rfl) (hs:∀ x,foldedSetIterable iter X.env x=pure x:=by intro _;rfl) :
  PE X (.ListComp elt [⟨tg,iter,ifs,0⟩] scope pos) (pR X N scope js tg elt ifs wi):=by
 intro pins s σ H Q I h
 obtain ⟨cl,e1,e2,e3⟩:=sD (env:=X.env) (scope:=scope) fun x hx hf=>I.ok.has _ (d9.free hok x hx hf)
 rw[eval_ListComp]
 refine wpAny_comprehension_free (use:=none) rfl hs e1 hkind (d9.names hok) (thn (hi pins s σ H _ I h) fun v s1 h1=>thn h1 fun itv s2 h2=>?_)
 obtain ⟨it,fp,tn,J,H2,rfl,I2,T,st2,f2,n,W,hn,w0,turn⟩:=h2
 refine sE (RR:=fun acc C=>compPost (model X.prog X.w) X.A X.xe none (EP X pins σ Q) acc C) (Q:=Q) hc caps hkind (d9.cell hok) e2 e3 I2 T st2 f2 n W hn w0 turn ?_
 intro D C ys H' s' ce q
 obtain ⟨m,hm⟩:=ce.ns
 exact ⟨m,hm,fun h' hs'=>⟨.ref D,_,CompEnd.gone (D:=D) (ys:=ys) (H':=H') ce.inv ce.fp hs',rfl,q⟩⟩
theorem iV{i:Nat}{x:Str}{N:List Str}{js:List (Option Nat)}{scope:Scope}{tg elt iter:Expr}{ifs:List Expr}{pos pos' spos:Pos}{wi:TI}(hN:X.N.Nodup)(hi':X.N[i]? = some x)(hx:Loc X.env.scope x)
  (hsw:swapsWith (.ListComp elt [⟨tg,iter,ifs,0⟩] scope pos) (some (.Name x pos')) spos.line X.env=pure true) (hc:X.calm=true) (caps:Caps X scope N js) (hok:d9 scope.names X.env.kindOf=true)
  (hi:PI X tg iter wi) (hkind:scope.kind=.function:=by rfl) (hf:X.fn x=true\/X.env.scope.names.lookup x=some .local:=by exact .inl rfl) (hs:∀ x,foldedSetIterable iter X.env x=pure x:=by intro _;rfl) :
  PS X (.Assign [.Name x pos'] (.ListComp elt [⟨tg,iter,ifs,0⟩] scope pos) spos) (kB (pR X N scope js tg elt ifs wi) (iA i)):=by
 intro pins s σ H D I h
 obtain ⟨cl,e1,e2,e3⟩:=sD (env:=X.env) (scope:=scope) fun x hx hf=>I.ok.has _ (d9.free hok x hx hf)
 rw[exec_Assign_Name_used _ _ _ _ hsw]
 refine wpAny_bind (wpAny_standAt (wpAny_bind ?_))
 show wpAny _ X.A (do let _ <-comprehension (.ListComp elt [⟨tg,iter,ifs,0⟩] scope pos) scope X.env _ (newList []) false (eval iter X.env) (some (assign (.Name x pos') X.env))) _ _ s
 refine wpAny_bind (wpAny_mono (wpAny_comprehension_free (use:=some (assign (.Name x pos') X.env)) (Q:=fun _ s'=>SP X pins D .next s') rfl hs e1 hkind (d9.names hok)
  (thn (hi pins s σ H _ I h) fun v s1 h1=>thn h1 fun itv s2 h2=>?_)) (fun _ s' hq=>wpAny_pure (wpAny_pure hq)) fun _ _ e=>e)
 obtain ⟨it,fp,tn,J,H2,rfl,I2,T,st2,f2,n,W,hn,w0,turn⟩:=h2
 refine sE (RR:=fun acc C=>compPost (model X.prog X.w) X.A X.xe (some (assign (.Name x pos') X.env)) (fun _ s'=>SP X pins D .next s') acc C) (Q:=fun v H'=>D.nx (σ.set i (some v)) H') hc caps hkind (d9.cell hok) e2 e3 I2 T st2 f2 n W hn w0 turn ?_
 intro L C ys H' s' ce q
 show wpAny _ X.A (assign (.Name x pos') X.env (.ref L)) _ _ s'
 refine wpAny_assign_Name (uT (v:=.ref L) ce.inv hN hi' hx rfl (fun s'' I'' sb=>?_) hf)
 obtain ⟨a,hsa,ha⟩:=sb
 have hCa:C≠a:=by
  rcases ha with z|z
  · rw [z]; exact ce.fp.2.1
  · exact fun z' => ce.fp.2.2.2.2.1 x a z z'.symm
 obtain ⟨m,hm⟩:=ce.ns
 exact ⟨m,hm.sameBut hsa hCa,fun h' hs'=>⟨_,_,CompEnd.gone (D:=L) (ys:=ys) (H':=H') I'' ce.fp hs',q⟩⟩
end
noncomputable def aHN(W:Nat->List V->Hp->Prop)(i:Nat)(ys:List V):Option V->Hp->Prop
 | some y,H=>W (i+1) (ys++[y]) H
 | none,H=>W (i+1) ys H
theorem zO{X:Cx}{J:It}{N:List Str}{scope:Scope}{js:List (Option Nat)}{tg elt:Expr}{ifs:List Expr}{σ:St}{Q:VK}{n:Nat}{H1:Hp}(W:Nat->List V->Hp->Prop)(hz:n<=sizeLine)(w0:W 0 [] H1)
  (hl:∀ i ys H,i<=n->W i ys H->ys.length<=i) (hgo:∀ i ys H,i < n->W i ys H->J.go i H) (hst:∀ ys H,W n ys H->J.stop n H)
  (step:∀ i x ys H H',i < n->W i ys H->J.yld i H x H'->tR X N scope js tg elt ifs σ x H' (aHN W i ys))
  (done:∀ ys H,W n ys H->∀ p,H p=none->Q (.ref p) (upd H p (.lst ys))) :
  compK X N scope js tg elt ifs σ Q J H1:=by
 refine ⟨n,fun i ys H=>i<=n/\W i ys H,hz,⟨Nat.zero_le _,w0⟩,?_⟩
 rintro i ys H ⟨hi,w⟩
 refine ⟨hl i ys H hi w,?_⟩
 by_cases hlt:i < n
 ·exact .inr ⟨hgo i ys H hlt w,hlt,aHN W i ys,fun y H2 q=>⟨hlt,q⟩,fun H2 q=>⟨hlt,q⟩,fun x H' y=>step i x ys H H' hlt w y⟩
 ·have e:i=n:=by omega
  subst e
  exact .inl ⟨hst ys H w,done ys H w⟩
end L2
namespace L2
open PySem PySem.Spec PyProof.Rows
mutual
inductive DatV(K:Frag)(H:Hp):V->PyData->Prop
 | non:DatV K H .non .none
 | bl (b:Bool):DatV K H (.bl b) (.bool b)
 | int (i:Int):DatV K H (.int i) (.int i)
 | str (x:Str):DatV K H (.str x) (.str x)
 | lst {a:Addr} {xs:List V} {ds:List PyData}:SqL K H a xs->DatVs K H xs ds->DatV K H (.ref a) (.list ds)
 | tup {a:Addr} {xs:List V} {ds:List PyData}:SqT K H a xs->DatVs K H xs ds->DatV K H (.ref a) (.tuple ds)
 | pl {a:Addr} {ns:List Int}:H a=some (.lst (ns.map V.int))->DatV K H (.ref a) (.dict [(.list (ns.map .int),.none)])
inductive DatVs(K:Frag)(H:Hp):List V->List PyData->Prop
 | nil:DatVs K H [] []
 | cons {x:V} {d:PyData} {xs:List V} {ds:List PyData}:DatV K H x d->DatVs K H xs ds->DatVs K H (x::xs) (d::ds)
end
section
variable{X:Cx}{pins:List (Addr×Obj)}{σ:St}{H:Hp}{s:Shared}
mutual
theorem DatV.reads(I:Inv X pins σ H s):∀ {x:V} {d:PyData} {u:Value},DatV X.K H x d->d.canLay0=true->a9 x u->∃ as,Reads s.heap u d as
 | _,_,_,.non,_,r=>by cases r;exact ⟨_,.none⟩
 | _,_,_,.bl b,_,r=>by cases r;exact ⟨_,.bool b⟩
 | _,_,_,.int i,_,r=>by obtain ⟨t,rfl⟩:=r;exact ⟨_,.int i t⟩
 | _,_,_,.str x,_,r=>by obtain ⟨t,rfl⟩:=r;exact ⟨_,.str x t⟩
 | _,_,_,.pl _,y,_=>by cases y
 | _,_,_,.lst h ds,y,r=>by
  cases r
  obtain ⟨its,rv,⟨o,e,c,n,d⟩,hz⟩:∃ its:List Value,bA _ its/\s.heap.IsList _ its.toArray/\_:=by
   obtain ⟨its,rv,p,hz⟩:=I.list h
   exact ⟨its,rv,p.isList,hz⟩
  obtain ⟨as,q⟩:=DatVs.reads I ds y rv
  exact ⟨_,.list e c d (by simpa using q)⟩
 | _,_,_,.tup h ds,y,r=>by
  cases r
  obtain ⟨its,rv,p,hz⟩:=I.tuple h
  obtain ⟨o,e,c,n,d⟩:=p
  obtain ⟨as,q⟩:=DatVs.reads I ds y rv
  exact ⟨_,.tuple e c d (by simpa using q)⟩
theorem DatVs.reads(I:Inv X pins σ H s):∀ {xs:List V} {ds:List PyData} {us:List Value},DatVs X.K H xs ds->PyData.canLayAll0 ds=true->bA xs us->∃ as,ReadsAll s.heap us ds as
 | _,_,_,.nil,_,r=>by cases r;exact ⟨_,.nil⟩
 | _,_,_,.cons (d:=d0) (ds:=ds0) h t,y,r=>by
  have y':(d0.canLay0 && PyData.canLayAll0 ds0)=true:=y
  rw[Bool.and_eq_true] at y'
  cases r with
  | cons r1 r2=>
   obtain ⟨as,q⟩:=DatV.reads I h y'.1 r1
   obtain ⟨bs,q2⟩:=DatVs.reads I t y'.2 r2
   exact ⟨_,.cons q q2⟩
end
theorem pS{d:PyData}(h:SeqAt.shaped d=true):d.canLay0=true:=by
 have h':(d.canLay0 && decide (d.depth<=64))=true:=h
 rw[Bool.and_eq_true] at h'
 exact h'.1
theorem aLP(hu:X.A.units+64 < cLine):OpR X (compareOp .Eq) (fun x y H Q=>∃ d e,DatV X.K H x d/\DatV X.K H y e/\SeqAt.shaped d=true/\SeqAt.shaped e=true/\Q (.bl (PyData.eqv d e)) H):=by
 intro pins s σ H x y u v Q I rx ry h
 obtain ⟨d,e,hx,hy,sd,se,q⟩:=h
 obtain ⟨as,r1⟩:=hx.reads I (pS sd) rx
 obtain ⟨bs,r2⟩:=hy.reads I (pS se) ry
 exact eq_dataH r1 r2 sd se hu ⟨.bl _,H,I,rfl,q⟩
theorem aLQ(hu:X.A.units+64 < cLine):OpR X (compareOp .NotEq) (fun x y H Q=>∃ d e,DatV X.K H x d/\DatV X.K H y e/\SeqAt.shaped d=true/\SeqAt.shaped e=true/\Q (.bl (!PyData.eqv d e)) H):=by
 intro pins s σ H x y u v Q I rx ry h
 obtain ⟨d,e,hx,hy,sd,se,q⟩:=h
 obtain ⟨as,r1⟩:=hx.reads I (pS sd) rx
 obtain ⟨bs,r2⟩:=hy.reads I (pS se) ry
 exact ne_dataH r1 r2 sd se hu ⟨.bl _,H,I,rfl,q⟩
end
theorem SqL.same{K:Frag}{H H':Hp}{a:Addr}{xs:List V}(e:aF H H')(h:SqL K H a xs):SqL K H' a xs:=aF.seq e h
theorem SqT.same{K:Frag}{H H':Hp}{a:Addr}{xs:List V}(e:aF H H')(h:SqT K H a xs):SqT K H' a xs:=by
 rcases h with (h|⟨o,h⟩)|h
 · exact .inl (.inl (e _ _ h))
 · exact .inl (.inr ⟨o, e _ _ h⟩)
 · exact .inr h
theorem DatV.same{K:Frag}{H H':Hp}(e:aF H H'){x:V}{d:PyData}(h:DatV K H x d):DatV K H' x d:=
 DatV.rec (motive_1:=fun x d _=>DatV K H' x d) (motive_2:=fun xs ds _=>DatVs K H' xs ds) .non .bl .int .str (fun h _ q=>.lst (h.same e) q) (fun h _ q=>.tup (h.same e) q) (fun h=>.pl (e _ _ h)) .nil (fun _ _ p q=>.cons p q) h
theorem DatVs.same{K:Frag}{H H':Hp}(e:aF H H'){xs:List V}{ds:List PyData}(h:DatVs K H xs ds):DatVs K H' xs ds:=
 DatVs.rec (motive_1:=fun x d _=>DatV K H' x d) (motive_2:=fun xs ds _=>DatVs K H' xs ds) .non .bl .int .str (fun h _ q=>.lst (h.same e) q) (fun h _ q=>.tup (h.same e) q) (fun h=>.pl (e _ _ h)) .nil (fun _ _ p q=>.cons p q) h
theorem aF.upd{H:Hp}{a:Addr}{o:HO}(h:H a=none):aF H (upd H a o):=fun b u e=>by rw[aD (bB e h)];exact e
theorem DatVs.length{K:Frag}{H:Hp}:∀ {xs:List V} {ds:List PyData},DatVs K H xs ds->xs.length=ds.length
 | _,_,.nil=>rfl
 | _,_,.cons _ t=>by simp[DatVs.length t]
theorem DatVs.append{K:Frag}{H:Hp}:∀ {xs ys:List V} {ds es:List PyData},DatVs K H xs ds->DatVs K H ys es->DatVs K H (xs++ys) (ds++es)
 | _,_,_,_,.nil,h=>h
 | _,_,_,_,.cons a t,h=>.cons a (DatVs.append t h)
theorem DatVs.get{K:Frag}{H:Hp}:∀ {xs:List V} {ds:List PyData} {i:Nat} {x:V},DatVs K H xs ds->xs[i]? = some x->∃ d,ds[i]? = some d/\DatV K H x d
 | _,_,_,_,.nil,e=>by simp at e
 | _,_,0,_,.cons a t,e=>by simp at e;subst e;exact ⟨_,by simp,a⟩
 | _,_,i+1,x,.cons a t,e=>by
  obtain ⟨d,h1,h2⟩:=DatVs.get (i:=i) (x:=x) t (by simpa using e)
  exact ⟨d,by simpa using h1,h2⟩
theorem DatVs.get'{K:Frag}{H:Hp}:∀ {xs:List V} {ds:List PyData} {i:Nat} {d:PyData},DatVs K H xs ds->ds[i]? = some d->∃ x,xs[i]? = some x/\DatV K H x d
 | _,_,_,_,.nil,e=>by simp at e
 | _,_,0,_,.cons a t,e=>by simp at e;subst e;exact ⟨_,by simp,a⟩
 | _,_,i+1,x,.cons a t,e=>by
  obtain ⟨d,h1,h2⟩:=DatVs.get' (i:=i) (d:=x) t (by simpa using e)
  exact ⟨d,by simpa using h1,h2⟩
theorem DatVs.drop{K:Frag}{H:Hp}:∀ {xs:List V} {ds:List PyData} (n:Nat),DatVs K H xs ds->DatVs K H (xs.drop n) (ds.drop n)
 | _,_,0,h=>h
 | _,_,_+1,.nil=>.nil
 | _,_,n+1,.cons _ t=>DatVs.drop n t
theorem DatVs.take{K:Frag}{H:Hp}:∀ {xs:List V} {ds:List PyData} (n:Nat),DatVs K H xs ds->DatVs K H (xs.take n) (ds.take n)
 | _,_,0,_=>.nil
 | _,_,_+1,.nil=>.nil
 | _,_,n+1,.cons a t=>.cons a (DatVs.take n t)
def Ite(K:Frag)(a:Addr):It:=
 ⟨fun i H=>∃ xs x,SqL K H a xs/\xs[i]? = some x,fun i H x H'=>∃ p v,H p=none/\x=.ref p/\H'=upd H p (.tup [.int i,v])/\∀ xs,SqL K H a xs->xs[i]? = some v,fun i H=>∃ xs,SqL K H a xs/\xs.length<=i⟩
theorem aCX{P:Program}{w:World}{K:Frag}{es:List Expr}{k1}{tpos:Pos}(a e it:Addr)(hei:e≠it):Turn P w K (.Tuple es k1 tpos) (Ite K a) [e,it] e (fun i h=>(∃ old,IsEnum h e it i old)/\h.IsListIter it a i) where
 mem:=by simp
 obj:=fun i h st b hb=>by
  obtain ⟨⟨old,s1⟩,o,e2,c,d⟩:=st
  rcases List.mem_cons.mp hb with z|z
  ·subst z
   exact ⟨_,s1,fun v z=>by
    have z':Data.fields _=Data.cell v:=z
    cases z'⟩
  ·obtain rfl:b=it:=by simpa using z
   exact ⟨o,e2,fun v z=>by rw[d] at z;cases z⟩
 keep:=fun i h h' st k=>by
  obtain ⟨⟨old,s1⟩,s2⟩:=st
  exact ⟨⟨old,k e (by simp) _ s1⟩,s2.at fun o q=>k it (by simp) o q⟩
 item:=by
  intro X hP hw hK hc i pins s σ H E I hf st hg
  subst hP hw hK
  obtain ⟨⟨old,s1⟩,s2⟩:=st
  obtain ⟨xs,x,hq,hx⟩:=hg
  obtain ⟨its,rv,p,hz⟩:=I.list hq
  obtain ⟨u,hu,ru⟩:=rv.get hx
  obtain ⟨f0,f1,f2,f3,f4,f5⟩:=hf e (by simp)
  obtain ⟨g0,g1,g2,g3,g4,g5⟩:=hf it (by simp)
  refine wpAny_pyNext_enum_item s1 s2 p.isList (x:=u) (by simpa using hu) hei fun h' so si st hz' kp=>?_
  refine ⟨_,rfl,wpAny_letOwnedTupleGo_enum so fun h2 se sb=>?_⟩
  have ne1:s.heap.objs.size≠e:=Nat.ne_of_gt (Heap.lt_size s1)
  have hT2:h2.get? s.heap.objs.size=some {cls:=.type "tuple",data:=.seq #[.int i s.toks,u]}:=(sb.2 _ ne1).trans st
  have fT:H s.heap.objs.size=none:=I.hok.fresh (Nat.le_refl _)
  have kp2:∀ b o,b≠e->b≠it->s.heap.get? b=some o->h2.get? b=some o:=fun b o h1 h2' q=>(sb.2 b h1).trans (kp b o h1 h2' q)
  have hok2:HOk X.prog X.w H h2:=fun b uu q=>by
   refine (I.hok b uu q).stay (fun c v hc q'=>kp2 c v ?_ ?_ q') (fun _ q=>q) (fun _ _ q=>q) fun _ _ q=>q
   ·rcases hc with z|z
    ·rw[z];exact fun zz=>by rw[zz,f0] at q;cases q
    ·exact fun zz=>by rw[zz,f0] at z;cases z
   ·rcases hc with z|z
    ·rw[z];exact fun zz=>by rw[zz,g0] at q;cases q
    ·exact fun zz=>by rw[zz,g0] at z;cases z
  have hokT:HOk X.prog X.w (upd H s.heap.objs.size (.tup [.int i,x])) h2:=HOk.track hok2 fT ⟨by show 2<=sizeLine;decide,[.int i s.toks,u],.cons ⟨_,rfl⟩ (.cons ru .nil),⟨_,hT2,⟨rfl,rfl⟩,_,rfl⟩⟩
  have ltT:∀ b uu,H b=some uu->b≠s.heap.objs.size:=fun b uu q=>bB q fT
  have I2:Inv X pins σ (upd H s.heap.objs.size (.tup [.int i,x])) {s with heap:=h2,gens:=s.gens,drawn:=s.drawn,toks:=s.toks+1}:=by
   refine I.step (ch:=[e,it]) (fun b hb=>?_) (fun b o _ _ hc q _=>kp2 b o (fun z=>hc (by simp[z])) (fun z=>hc (by simp[z])) q) (fun b o _ _ hc q _=>⟨o.slots,kp2 b o (fun z=>hc (by simp[z])) (fun z=>hc (by simp[z])) q⟩)
    (fun b o _ q n=>by rw[aD (Nat.ne_of_lt (Heap.lt_size q))];exact n) (fun b o hc q=>⟨o,kp2 b o (fun z=>hc (by simp[z])) (fun z=>hc (by simp[z])) q⟩) (fun b ys q=>by rw[aD (ltT b _ q)];exact q) (fun b o uu q=>by rw[aD (ltT b _ q)];exact q)
    (fun b ps q=>by rw[aD (ltT b _ q)];exact q) (fun m hm=>?_) hokT I.bare
   ·rcases List.mem_cons.mp hb with z|z
    ·subst z;exact ⟨f3,f1,f4,f5⟩
    ·obtain rfl:b=it:=by simpa using z
     exact ⟨g3,g1,g4,g5⟩
   ·obtain ⟨o,es',ep,ho,r⟩:=hm
    exact ⟨o,es',ep,kp2 _ o (Ne.symm f1) (Ne.symm g1) ho,r⟩
  refine ⟨.ref s.heap.objs.size,_,I2,rfl,⟨_,x,fT,rfl,rfl,fun ys hy=>by rw[I.list_inj hy hq];exact hx⟩,⟨⟨u,by simpa using se⟩,si.at fun o q=>(sb.2 it hei.symm).trans q⟩,fun b hb=>?_⟩
  rcases List.mem_cons.mp hb with z|z
  ·subst z;rw[aD (Ne.symm ne1)];exact f0
  ·obtain rfl:b=it:=by simpa using z
   obtain ⟨o,q,_⟩:=s2
   rw[aD (Nat.ne_of_lt (Heap.lt_size q))];exact g0
 done:=by
  intro X hP hw hK hc i pins s σ H E I hf st hg
  subst hP hw hK
  obtain ⟨⟨old,s1⟩,s2⟩:=st
  obtain ⟨xs,hq,hx⟩:=hg
  obtain ⟨its,rv,p,hz⟩:=I.list hq
  obtain ⟨g0,g1,g2,g3,g4,g5⟩:=hf it (by simp)
  have hl:=rv.length
  exact wpAny_pyNext_enum_end (I.ok.hd hc) s1 s2 p.isList (by simp;omega) fun h' eb=>⟨rfl,I.turned (t':=s.toks) (fun b o hb q=>eb b o hb q) g0 g1 g3 g4 g5⟩
 self:=fun _ _ _ _ _ st h=>wpAny_pyIter_enum st.1.choose_spec h
def aHO(K:Frag)(ta:TA):TI:=fun σ H R=>ta σ H fun vs H1=>∃ a,vs=[.ref a]/\(∃ xs,SqL K H1 a xs)/\R (Ite K a) H1
theorem aIK{X:Cx}{es:List Expr}{k1}{tpos:Pos}{a:Expr}{ta:TA}{p pos:Pos}(hg:Gl X "enumerate")(hm:X.mg "enumerate"=none)(ha:PA X [a] ta)(hs:starEach [a] X.env=[(false,eval a X.env)]:=by rfl) :
  PI X (.Tuple es k1 tpos) (.Call (.Name "enumerate" p) [a] [] pos) (aHO X.K ta):=by
 intro pins s σ H R I h
 refine Call_ (kW I hg hm PyProof.Rows.boot_enumerate (PyProof.Rows.callWith_type1 (thn (ha pos pins s σ H _ I h) fun us s1 zz0=>?_) hs rfl))
 obtain ⟨vs,H1,I1,r1,q1⟩:=zz0
 obtain ⟨j,e,⟨xs,hq⟩,q⟩:=q1
 subst e
 obtain ⟨u,rfl,ru⟩:=iB r1
 cases ru
 obtain ⟨its,rv,pl,hz⟩:=I1.list hq
 refine call_enumerate_list pl.isList fun h' se si hz' kp=>?_
 have I2:Inv X pins σ H1 {s1 with heap:=h'}:=I1.kept (t':=s1.toks) kp
 refine wpAny_pyIter_enum se ?_
 refine ⟨s1.heap.objs.size+1,[s1.heap.objs.size+1,s1.heap.objs.size],_,_,H1,rfl,I2,aCX j _ _ (Nat.ne_of_gt (Nat.lt_succ_self _)),⟨⟨_,se⟩,si⟩,fun b hb=>?_,q⟩
 rcases List.mem_cons.mp hb with z|z
 ·subst z
  exact I1.fpOk (Nat.le_succ _) (I1.hok.fresh (Nat.le_succ _))
 ·obtain rfl:b=s1.heap.objs.size:=by simpa using z
  exact I1.fpOk (Nat.le_refl _) (I1.hok.fresh (Nat.le_refl _))
end L2
namespace SX
open PySem PySem.W
section
variable{prog:Program}{w:World}{A:Around}{E:Value->Shared->Prop}{h:Heap}{g:Array GenState}{d:Drawn}{t:Nat}{os:OsState}{K:Frag}
variable{nm q:Str}{C N:Addr}{bs bm bmB:List Value}{hdct:Bool}{sn:List Str}{sub:List Value}{ab:Bool}{col:Option Bool}{dd:Option Addr}{k0 k1 k2 k3 k5:Option Value}{B newId initId:String}
structure BmOk(B:String)(bm:List Value):Prop where
 hasB:bm.contains (.type B)=true
 hasBase:bm.contains (.type "BaseException")=true
 noAttr:bm.contains (.type "AttributeError")=false
 noName:bm.contains (.type "NameError")=false
theorem aA8(F:ExcBaseFacts B newId initId bmB)(T:BmOk B bm){M:Model}{rest:List Value}{Q:Unit->Shared->Prop}(hC:h.get? C=some (excClassObj nm q C N bs bm hdct sn sub ab col dd k0 k1 k2 k3 k5 newId))
  (hq:Q () ⟨h,g,d,t,os⟩):wpAny M A (checkBuiltinCall newId ⟨.ref C::rest,[]⟩) Q E ⟨h,g,d,t,os⟩:=by
 have hcont:(Value.ref C::bm).contains (.type B)=true:=by rw[List.contains_cons,T.hasB,Bool.or_true]
 have hstar:=F.noStar
 simp only[checkBuiltinCall,F.newKind,F.newSplit,F.newRow]
 repeat (first|refine wpAny_loadPart_at hC ?_|(refine wpAny_isSubtype_exc hC ?_;rw[hcont])|refine wpAny_staticBase_exc hC ?_|refine wpAny_madeBy_exc hC ?_|simp only[bne_self_eq_false,Bool.false_eq_true,if_false]|wp_step)
 exact hq
theorem aFF(F:ExcBaseFacts B newId initId bmB)(T:BmOk B bm){R:Result->Shared->Prop}{rest:List Value}(hC:h.get? C=some (excClassObj nm q C N bs bm hdct sn sub ab col dd k0 k1 k2 k3 k5 newId))
  (hq:R (.ok (.ret (.ref (h.objs.size+1)))) ⟨(h.push {cls:=.type "tuple",data:=.seq rest.toArray}).push
   {cls:=.ref C,data:=.fields #[.ref h.objs.size,.none,.none,.none,.bool false,.none]},g,d,t,os⟩) (hrest:rest.length<=sizeLine) :
  codeAny (model prog w) A (.builtin newId ⟨.ref C::rest,[]⟩) R ⟨h,g,d,t,os⟩:=by
 have hends:=F.ends
 have hcB:(Value.ref C::bm).contains (.type B)=true:=by rw[List.contains_cons,T.hasB,Bool.or_true]
 have hcA:(Value.ref C::bm).contains (.type "AttributeError")=false:=by rw[List.contains_cons,T.noAttr];rfl
 have hcN:(Value.ref C::bm).contains (.type "NameError")=false:=by rw[List.contains_cons,T.noName];rfl
 refine codeAny_builtinAt F.entry ?_
 unfold Builtin.«BaseException.__new__»
 refine wpAt_bind ?_
 show wpAt _ _ _ (stack >>= _) _ _ _
 refine wpAt_bind (wpAt_stack fun p below=>wpAt_of_wpAny ?_)
 wp_walk
 refine wpAt_of_wpAny ?_
 rw[F.owner]
 repeat (first|with_reducible refine wpAny_madeHere_exc F.canon hC ?_|with_reducible refine wpAny_loadPart_at hC ?_|(with_reducible refine wpAny_isSubtype_exc hC ?_;first|rw[hcB]|rw[hcA]|rw[hcN])|wp_step)
 show R _ _
 rw[Heap.size_push]
 exact hq
theorem wS(F:ExcBaseFacts B newId initId bmB)(T:BmOk B bm)(X:K.In h){rest:List Value}{fI:Addr}{Q:Fin->Shared->Prop}
  (hC:h.get? C=some (excClassObj nm q C N bs bm hdct sn sub ab col dd k0 k1 k2 k3 k5 newId)) (hi:findIn K (.ref C) "__init__"=some (some (.ref fI))) (hf:typeIn K (.ref fI)=some (.type "function"))
  (hq:∀ h' e,Heap.MadeExcOf h h' e (.ref C) rest->h.objs.size<=e->
   wpAny (model prog w) A (call (.ref fI) (.ref e::rest)) (fun r s'=>r=.none/\Q (.done (.ret (.ref e))) s') E ⟨h',g,d,t,os⟩) (hrest:rest.length<=sizeLine) :
  wpAny (model prog w) A (Builtin.«type.__call__» ⟨.ref C::rest,[]⟩) Q E ⟨h,g,d,t,os⟩:=by
 repeat (first|with_reducible refine wpAny_loadPart_at hC ?_|with_reducible refine wpAny_madeBy_exc hC ?_|wp_step)
 refine codeAny_call_builtin_code (Code.quiet_builtin _ F.quiet) (aA8 F T hC ?_)
 refine aFF F T hC ?_ hrest
 show wpAny _ _ _ _ _ _
 have kp:∀ b o,h.get? b=some o->((h.push {cls:=.type "tuple",data:=.seq rest.toArray}).push {cls:=.ref C,data:=.fields #[.ref h.objs.size,.none,.none,.none,.bool false,.none]}).get? b=some o:=fun b o e=>Heap.get?_push_of_some _ (Heap.get?_push_of_some _ e)
 have hC₁:=kp _ _ hC
 have X₁:=X.keeps kp
 have hget:((h.push {cls:=.type "tuple",data:=.seq rest.toArray}).push
   {cls:=.ref C,data:=.fields #[.ref h.objs.size,.none,.none,.none,.bool false,.none]}).get? (h.objs.size+1)=some
   {cls:=.ref C,data:=.fields #[.ref h.objs.size,.none,.none,.none,.bool false,.none]}:=by heap_get
 have hcC:(Value.ref C::bm).contains (.ref C)=true:=by simp
 unfold isInstance
 repeat (first|with_reducible refine wpAny_loadPart_at hget ?_|(with_reducible refine wpAny_isSubtype_exc hC₁ ?_;rw[hcC])|wp_step)
 show wpAny _ _ (typeLookup (.ref C) _) _ _ _
 refine (looks_findIn (M:=model prog w) X₁ hi).at ?_
 refine wpAny_holding (wpAny_bind ?_)
 refine (bind_fn (M:=model prog w) X₁ _ hf).at ?_
 refine wpAny_bind (wpAny_mono (hq _ (h.objs.size+1) ⟨kp,Heap.get?_none_of_le (Nat.le_succ _),h.objs.size,hget,Heap.get?_none_of_le (Nat.le_refl _),?_⟩ (Nat.le_succ _)) (fun r s' hr=>?_) fun _ _ x=>x)
 ·exact Heap.get?_push_of_some _ (Heap.get?_push_at rfl rfl)
 ·obtain ⟨rfl,hQ⟩:=hr
  wp_walk
  exact hQ
theorem aFG(F:ExcBaseFacts B newId initId bmB)(T:BmOk B bm)(X:K.In h){rest:List Value}{fI:Addr}{Q:Value->Shared->Prop}
  (hC:h.get? C=some (excClassObj nm q C N bs bm hdct sn sub ab col dd k0 k1 k2 k3 k5 newId)) (hi:findIn K (.ref C) "__init__"=some (some (.ref fI))) (hf:typeIn K (.ref fI)=some (.type "function"))
  (hq:∀ h' e,Heap.MadeExcOf h h' e (.ref C) rest->h.objs.size<=e->
   wpAny (model prog w) (A.under (.builtin "type.__call__" ⟨.ref C::rest,[]⟩)) (call (.ref fI) (.ref e::rest)) (fun r s'=>r=.none/\Q (.ref e) s') E ⟨h',g,d,t,os⟩) (hrest:rest.length<=sizeLine) :
  wpAny (model prog w) A (call (.ref C) rest) Q E ⟨h,g,d,t,os⟩:=by
 have f1:=tc_lookup
 have f2:=tc_bind (.ref C)
 have hT:(⟨h,g,d,t,os⟩:Shared).TypeIs (.ref C) "type":=⟨_,hC,rfl⟩
 refine wpAny_call (codeAny_of_tree ?_)
 show wpAny _ _ (callAny (.ref C) _) _ _ _
 repeat (any_goals (first|assumption|with_reducible refine wpAny_loadPart_at hC ?_|wp_step))
 refine ⟨rfl,?_⟩
 refine codeAny_call_builtin_at (Code.quiet_builtin _ (by decide +kernel)) entry_typeCall (wpAny_check_type_call_sub hC (wS F T X hC hi hf (fun h' e hm hle=>?_) hrest))
 exact hq h' e hm hle
theorem kG{M:Model}{env:Env}{s:Shared}{x:Sem Value}{Q:Flow->Shared->Prop}(T:BmOk B bm)(hh:A.handled=none)
  (hx:wpAny M A x (fun v s₁=>∃ e od vs,v=.ref e/\s₁.heap.get? C=some (excClassObj nm q C N bs bm hdct sn sub ab col dd k0 k1 k2 k3 k5 newId) /\
   s₁.heap.get? e=some {cls:=.ref C,dict:=od,data:=.fields vs}/\vs[1]? = some .none/\E (.ref e) s₁) E s) :
  wpAny M A (raiseStmt env (some x) none) Q E s:=by
 have hcB:(Value.ref C::bm).contains (.type "BaseException")=true:=by rw[List.contains_cons,T.hasBase,Bool.or_true]
 unfold raiseStmt
 refine wpAny_bind (wpAny_mono hx (fun v s₁ h₁=>?_) fun _ _ x=>x)
 obtain ⟨e,od,vs,rfl,hC,he,h1,hE⟩:=h₁
 obtain ⟨hp,g,d,tk,os⟩:=s₁
 repeat (first|with_reducible refine wpAny_loadPart_at he ?_|with_reducible refine wpAny_loadPart_at hC ?_|(with_reducible refine wpAny_isSubtype_exc hC ?_;rw[hcB])|(with_reducible refine wpAny_field he rfl h1 ?_)|wp_step)
 exact wpAny_raiseNew_none hh hE
end
end SX
namespace SX
open PySem PySem.W PySem.Builtin PySem.Builtin.ObjectAttr
abbrev fR:List Value:=[.type "ValueError",.type "Exception",.type "BaseException",.type "object"]
structure ExcC(K:Frag)(W C:Addr):Prop where
 lk:∃ nm q N bs sn sub ab col dd k0 k1 k2 k3 k5,K.lookup C=some (excClassObj nm q C N bs (.ref W::fR) true sn sub ab col dd k0 k1 k2 k3 k5 "ValueError.__new__")
 sa:findIn K (.ref C) "__setattr__"=some (some (.builtin "object.__setattr__"))
 ga:findIn K (.ref C) "__getattribute__"=some (some (.builtin "BaseException.__getattribute__"))
 gh:findIn K (.ref C) "__getattr__"=some none
 cl:findIn K (.ref C) "__class__"=some (some (.builtin "object.__class__"))
 clg:specialIn K (.builtin "object.__class__") "__get__"=some (some (.builtin "getset_descriptor.__get__"))
 clt:takesIn K (.builtin "object.__class__")=some true
 kp:keepIn K (.ref C)=true
theorem tS(W:Addr):BmOk "ValueError" (.ref W::fR):=⟨by simp[fR],by simp[fR],by simp[fR],by simp[fR]⟩
theorem passes(self:Value)(C W:Addr):refuseLoop self "__setattr__" (.ref C::.ref W::fR)=pure ():=by
 rw[refuseLoop_ref,refuseLoop_ref]
 exact PySem.F.store_ValueError.passes self
theorem ExcC.cls{K:Frag}{W C:Addr}(c:ExcC K W C):∃ cd:ClassData,clsIn K C=some cd/\cd.hasDict=true/\cd.mro=.ref C::.ref W::fR:=by
 obtain ⟨nm,q,N,bs,sn,sub,ab,col,dd,k0,k1,k2,k3,k5,e⟩:=c.lk
 exact ⟨_,by unfold clsIn;rw[e],rfl,rfl⟩
theorem ExcC.mro{K:Frag}{W C:Addr}(c:ExcC K W C)(b:Value):mroIn K C b=some ((Value.ref C::.ref W::fR).contains b):=by
 obtain ⟨cd,h1,_,h3⟩:=c.cls
 unfold mroIn
 rw[h1,Option.bind_some,h3]
 rfl
section
variable{prog:Program}{w:World}{A:Around}{E:Value->Shared->Prop}{s:Shared}{K:Frag}{W C x:Addr}{name:Str}{v:Value}{vs:Array Value}
theorem zP{od:Option Addr}{o:Option Obj}{tk:Tok}{R:Result->Shared->Prop}(X:K.In s.heap)(c:ExcC K W C)(na:findIn K (.ref C) name=some none)(I:InstAt s.heap x ⟨.ref C,od,.fields vs,#[]⟩ C o)
  (h:wpAny (model prog w) A.in1 (storeInOwnDict (.ref x) (.ref C) (.str name tk) name v false)
   (fun fin s'=>match fin with | .done f=>R (.ok f) s' | .again c'=>c'.quiet=true/\codeAny (model prog w) A c' R s') (fun e s'=>R (.error e) s') s) :
  codeAny (model prog w) A (.call (.builtin "object.__setattr__") ⟨[.ref x,.str name tk,v],[]⟩) R s:=by
 have SF:=PySem.F.store_object
 obtain ⟨cd,hc,hdct,hmro⟩:=c.cls
 have sub:Looks (model prog w) s.heap (isInstance (.ref x) (.type "object")) true:=I.type.andThen (looks_mroIn X (by rw[c.mro];simp[fR]))
 refine codeAny_call_builtin SF.slot.plain SF.entry (@check_slot (model prog w) _ _ s "object.__setattr__" "object" "__setattr__" (.ref x) [.str name tk,v] [] _ SF.kind SF.split sub (SF.args (.ref x) (.str name tk) v) ?_)
 have hm:Looks (model prog w) s.heap (mroOf (.ref C)) cd.mro:=(looks_clsIn X hc).andThen .now
 rw[osa_eq,refuse_eq]
 refine wpAny_bind (wpAny_bind (I.type.here (wpAny_bind (hm.here ?_))))
 rw[hmro,passes]
 exact wpAny_pure (wpAny_bind (I.type.here (wpAny_bind ((looks_findIn X na).here (wpAny_bind (wpAny_pure h))))))
theorem aCY{Q:Unit->Shared->Prop}(X:K.In s.heap)(c:ExcC K W C)(na:findIn K (.ref C) name=some none)(hx:s.heap.get? x=some ⟨.ref C,none,.fields vs,#[]⟩)
  (h:∀ h' tk',h'.get? x=some ⟨.ref C,some s.heap.objs.size,.fields vs,#[]⟩->h'.Ns1 s.heap.objs.size (fun y=>if y=name then some v else none)->(∀ b o,b≠x->s.heap.get? b=some o->h'.get? b=some o)->Q () {s with heap:=h',toks:=tk'}) :
  wpAny (model prog w) A (setAttr (.ref x) name v) Q E s:=by
 have I:InstAt s.heap x ⟨.ref C,none,.fields vs,#[]⟩ C none:=⟨hx,rfl,rfl,trivial⟩
 refine set_plain X I c.sa (zP (s:={s with toks:=s.toks+1}) X c na I ?_)
 obtain ⟨cd,hc,hdct,hmro⟩:=c.cls
 obtain ⟨hp,g,d,t,os⟩:=s
 have hx:hp.get? x=some ⟨.ref C,none,.fields vs,#[]⟩:=hx
 unfold storeInOwnDict
 refine wpAny_bind (wpAny_pure ?_)
 show wpAny _ _ (ownDictForStores (.ref x) >>= _) _ _ _
 refine wpAny_bind ?_
 show wpAny _ _ (instanceDict x true) _ _ _
 unfold instanceDict
 refine wpAny_bind (wpAny_loadPart hx (wpAny_bind ((looks_clsIn (M:=model prog w) X hc).at ?_)))
 rw[hdct]
 have hx₁:(hp.push {cls:=.type "dict",data:=.dict #[]}).get? x=some ⟨.ref C,none,.fields vs,#[]⟩:=Heap.get?_push_of_some _ hx
 have hxs:x≠hp.objs.size:=Nat.ne_of_lt (Heap.lt_size hx)
 refine wpAny_bind (wpAny_alloc' ?_)
 refine wpAny_bind (wpAny_update' hx₁ ?_)
 refine wpAny_pure ?_
 have hgd:((hp.push {cls:=.type "dict",data:=.dict #[]}).update x fun o=>{cls:=o.cls,dict:=some hp.objs.size,data:=o.data,slots:=o.slots}).get? hp.objs.size
   = some {cls:=.type "dict",data:=.dict #[]}:=
  (Heap.get?_update_ne _ _ _ _ hxs.symm).trans (Heap.get?_push_at rfl rfl)
 have hnd:((hp.push {cls:=.type "dict",data:=.dict #[]}).update x fun o=>{cls:=o.cls,dict:=some hp.objs.size,data:=o.data,slots:=o.slots}).Ns hp.objs.size (fun _=>none):=
  ⟨_,#[],_,hgd,rfl,fun e he=>absurd he (by simp),fun _=>rfl⟩
 show wpAny _ _ (storeInDict hp.objs.size (.str name t) name v) _ _ _
 unfold storeInDict newKeyGuard
 refine wpAny_bind (wpAny_pure (wpAny_bind (wpAny_nsSet1 (Heap.Ns1.of_empty hnd) fun h' hn' hs=>?_)))
 obtain ⟨oD,esD,epD,hoD,hdD,hcD⟩:=hn'.count (Within.cons name v Within.nil)
 refine wpAny_bind (wpAny_lookBehind hoD (by rw[hdD];exact pastItsLine_dict (Nat.le_trans hcD (by rw[List.length_cons,List.length_nil,sizeLine_eq];omega))) ?_)
 refine wpAny_pure (h h' _ ?_ hn' fun b o hbx hb=>?_)
 ·exact (hs.2 x hxs).trans (Heap.get?_update_self _ hx₁ rfl)
 ·exact (hs.2 b (Nat.ne_of_lt (Heap.lt_size hb))).trans ((Heap.get?_update_ne _ _ _ _ hbx).trans (Heap.get?_push_of_some _ hb))
theorem aFH{Q:Unit->Shared->Prop}{dx:Addr}{mA:Str->Option Value}{ns:List Str}(X:K.In s.heap)(c:ExcC K W C)(na:findIn K (.ref C) name=some none)(hx:s.heap.get? x=some ⟨.ref C,some dx,.fields vs,#[]⟩)
  (hne:dx≠x) (hns:s.heap.Ns1 dx mA) (hw:Within mA ns) (hsz:ns.length<=sizeLine)
  (h:∀ h' tk',h'.Ns1 dx (fun y=>if y=name then some v else mA y)->Heap.SameBut dx s.heap h'->Q () {s with heap:=h',toks:=tk'}) :
  wpAny (model prog w) A (setAttr (.ref x) name v) Q E s:=by
 obtain ⟨od,hod,_⟩:=L2.oO hns
 have I:InstAt s.heap x ⟨.ref C,some dx,.fields vs,#[]⟩ C (some od):=⟨hx,rfl,rfl,hod⟩
 refine set_plain X I c.sa (zP (s:={s with toks:=s.toks+1}) X c na I ?_)
 obtain ⟨cd,hc,hdct,hmro⟩:=c.cls
 obtain ⟨hp,g,d,t,os⟩:=s
 have hx:hp.get? x=some ⟨.ref C,some dx,.fields vs,#[]⟩:=hx
 unfold storeInOwnDict
 refine wpAny_bind (wpAny_pure ?_)
 show wpAny _ _ (ownDictForStores (.ref x) >>= _) _ _ _
 refine wpAny_bind ?_
 show wpAny _ _ (instanceDict x true) _ _ _
 unfold instanceDict
 refine wpAny_bind (wpAny_loadPart hx (wpAny_bind ((looks_clsIn (M:=model prog w) X hc).at ?_)))
 rw[hdct]
 refine wpAny_pure ?_
 show wpAny _ _ (storeInDict dx (.str name t) name v) _ _ _
 unfold storeInDict newKeyGuard
 refine wpAny_bind (wpAny_pure (wpAny_bind (wpAny_nsSet1 hns fun h' hn' hs=>?_)))
 obtain ⟨oD,esD,epD,hoD,hdD,hcD⟩:=hn'.count (Within.cons name v hw)
 refine wpAny_bind (wpAny_lookBehind hoD (by rw[hdD];exact pastItsLine_dict (Nat.le_trans hcD (by rw[List.length_cons];omega))) ?_)
 exact wpAny_pure (h h' _ hn' hs)
theorem aCZ{od:Option Addr}{o:Option Obj}{Q:Option Value->Shared->Prop}(X:K.In s.heap)(c:ExcC K W C)(I:InstAt s.heap x ⟨.ref C,od,.fields vs,#[]⟩ C o)(h:Q (some (.ref C)) {s with toks:=s.toks+1}) :
  wpAny (model prog w) A (getAttr? (.ref x) "__class__") Q E s:=by
 obtain ⟨hp,g,d,t,os⟩:=s
 obtain ⟨cd,hcd,hdct,hmro⟩:=c.cls
 have L0:=I.type (M:=model prog w)
 have L1:=looks_findIn (M:=model prog w) X c.ga
 have L2:=looks_findIn (M:=model prog w) X c.gh
 have sub:Looks (model prog w) hp (isInstance (.ref x) (.type "BaseException")) true:=L0.andThen (looks_mroIn X (by rw[c.mro];simp[fR]))
 have hf:findObj K C o "__class__"=some (.bind (.builtin "getset_descriptor.__get__") (.builtin "object.__class__")):=by
  unfold findObj
  rw[hcd,Option.bind_some,c.cl,Option.bind_some]
  simp only[c.clg,c.clt,Option.bind_some]
 have L3:=looks_find (M:=model prog w) X I hf
 unfold getAttr?
 refine wpAny_bind (wpAny_mkText ?_)
 unfold getAttrBy?
 refine wpAny_bind (wpAny_attempt ?_)
 unfold getAttrBy
 refine wpAny_holding (wpAny_bind (L0.at (wpAny_bind (L1.at ?_))))
 show wpAny _ _ (getAttrByItsOwn _ _ _ _ _ _) _ _ _
 unfold getAttrByItsOwn
 refine wpAny_bind ?_
 show wpAny _ _ (typeLookup (.ref C) "__getattr__") _ _ _
 refine L2.at (wpAny_bind (wpAny_attempt (wpAny_holding ?_)))
 unfold callGetattribute
 rw[show (false && onTheHeap (Value.builtin "BaseException.__getattribute__"))=false from rfl,if_neg Bool.false_ne_true]
 unfold boundAndCalled
 rw[PySem.F.excAttr_ValueError.ga.bind]
 refine wpAny_bind (wpAny_pure ?_)
 have hk:builtinKind "BaseException.__getattribute__"=some .slot:=by decide +kernel
 have hsplit:splitId "BaseException.__getattribute__"=some ("BaseException","__getattribute__"):=by decide +kernel
 refine wpAny_call (codeAny_call_builtin PySem.F.excAttr_ValueError.ga.plain PySem.F.entry_bexc_ga (@check_slot (model prog w) _ _ _ "BaseException.__getattribute__" "BaseException" "__getattribute__" (.ref x) [.str "__class__" t] [] _ hk hsplit sub (PySem.F.args_bexc_ga (.ref x) (.str "__class__" t)) ?_))
 refine wpAny_bind (wpAny_pure (wpAny_bind (wpAny_pure ?_)))
 refine wpAny_bind (L0.at (wpAny_bind (L3.at ?_)))
 show wpAny _ _ (holding [.builtin "object.__class__"] (call (.builtin "getset_descriptor.__get__") [.builtin "object.__class__",.ref x,.ref C]) >>= ret) _ _ _
 refine wpAny_bind (wpAny_holding (wpAny_call (class_get (s:=⟨hp,g,d,t+1,os⟩) X I (by rw[c.mro];simp[fR]) ?_)))
 refine wpAny_pure ?_
 show wpAny _ _ (handedOut (.ref C)) _ _ _
 exact wpAny_pure (wpAny_pure h)
theorem aFI{od:Option Addr}{o:Option Obj}(c:ExcC K W C):KitX K (.ref x) (.ref C) (fun h=>InstAt h x ⟨.ref C,od,.fields vs,#[]⟩ C o) where
 ty:=fun _ _ _ I=>I.type
 it:=fun _ _ X _=>by
  obtain ⟨nm,q,N,bs,sn,sub,ab,col,dd,k0,k1,k2,k3,k5,e⟩:=c.lk
  intro A' Q' E' s' k q
  unfold isType loadHead
  exact wpAny_bind (wpAny_loadPart (k _ _ (X _ _ e)) (wpAny_pure q))
 ne:=fun h tp dd its n sl X htp=>by
  obtain ⟨nm,q,N,bs,sn,sub,ab,col,dd,k0,k1,k2,k3,k5,e⟩:=c.lk
  refine Bool.eq_false_iff.mpr fun q=>?_
  have e':C=tp:=Value.ref.inj (beq_iff_eq.mp q)
  subst e'
  have z:=(X _ _ e).symm.trans htp
  have z':Value.type "type"=Value.type "tuple":=congrArg Obj.cls (Option.some.inj z)
  exact absurd (Value.type.inj z') (by decide)
 ca:=fun X I k=>aCZ X c I k
theorem sG{od:Option Addr}{o:Option Obj}{cv:Value}{b:Bool}{Q:Value->Shared->Prop}(X:K.In s.heap)(c:ExcC K W C)(I:InstAt s.heap x ⟨.ref C,od,.fields vs,#[]⟩ C o)(e:kitOne K (.ref C) cv=some b)(h:∀ tk,Q (.bool b) {s with toks:=tk}) :
 wpAny (model prog w) A (call (.builtin "isinstance") [.ref x,cv]) Q E s:=kia_one (aFI c) X I e (fun z=>nomatch z) h
end
end SX
namespace SX
open PySem PySem.W
def rA(h:Heap)(vs:Array Value)(e:Addr)(T:Option Addr):Prop:=
 match T with
 | none=>vs[1]? = some .none
 | some t=>vs[1]? = some (.ref t)/\t≠e/\∃ oT ts x,h.get? t=some oT/\oT.data=.fields ts/\ts[3]? = some x
section
variable{M:Model}{A:Around}{E:Value->Shared->Prop}{s:Shared}
structure Noted(FL:List Addr)(e:Addr)(T:Option Addr)(C:Addr)(od:Option Addr)(h h':Heap)(T':Option Addr):Prop where
 keep:∀ b o,b∉FL->b≠e->(∀ t,T=some t->b≠t)->h.get? b=some o->h'.get? b=some o
 slot:∀ b o,b∈FL->h.get? b=some o->∃ sl,h'.get? b=some {o with slots:=sl}
 exc:∃ vs,h'.get? e=some ⟨.ref C,od,.fields vs,#[]⟩/\rA h' vs e T'
 new:(∃ t,T'=some t/\h.objs.size<=t)\/(T'=T/\T≠none)
 there:∀ t o,T=some t->h.get? t=some o->∃ o',h'.get? t=some o'
theorem aFJ{base:Heap}{env:Env}{outer:List Env}{L e C:Addr}{od:Option Addr}{vs:Array Value}{T:Option Addr}{Q:Unit->Shared->Prop}
  (hfr:A.frames=some (env::outer)) (hl:s.heap.FunFrames base (env::outer)) (hf:env.frame=some L) (he:s.heap.get? e=some ⟨.ref C,od,.fields vs,#[]⟩) (ht:rA s.heap vs e T)
  (h:∀ h' T',T'≠none->Noted ((env::outer).filterMap (·.frame)) e T C od s.heap h' T'->Q () {s with heap:=h'}) :
  wpAny M A (noteFrame (.ref e) env) Q E s:=by
 have frF:∀ b∈(env::outer).filterMap (·.frame),∃ o,s.heap.get? b=some o/\∀ vs,o.data≠.fields vs:=fun b hb=>(hl.mem hb).2
 have hene:e∉(env::outer).filterMap (·.frame):=fun hm=>by
  obtain ⟨o,ho,hnf⟩:=frF e hm
  rw[he] at ho;injection ho with ho;subst ho;exact hnf vs rfl
 have h1s:1 < vs.size:=by
  unfold rA at ht
  cases T with
  | none=>exact (Array.getElem?_eq_some_iff.mp ht).1
  | some t=>exact (Array.getElem?_eq_some_iff.mp ht.1).1
 have make:∀ (hp:Heap) (head:Value) (hadNext:Bool),hp.FunFrames base (env::outer)->hp.objs.size=s.heap.objs.size->hp.get? e=some ⟨.ref C,od,.fields vs,#[]⟩->
   (∀ b o,(∀ t,T=some t->b≠t)->s.heap.get? b=some o->hp.get? b=some o)->(∀ t o,T=some t->s.heap.get? t=some o->∃ o',hp.get? t=some o'/\t∉(env::outer).filterMap (·.frame)/\t≠e)->
   wpAny M A (do let a <-frameOf env;let pl <-entryPlaceOf L hadNext;let b <-EntryCells.newEntry head a .none (rawInt L) .none pl;setField (.ref e) 1 b) Q E {s with heap:=hp}:=by
  intro hp head hadNext hlp hsz hep kp tp
  refine wpAny_bind (wpAny_frameOf_fun (s:={s with heap:=hp}) hfr hlp hf fun h₁ hs₁=>?_)
  refine wpAny_bind (wpAny_entryPlaceOf fun pl hpl=>?_)
  unfold EntryCells.newEntry newFields
  refine wpAny_bind (wpAny_newObj_type ?_ (hpl.sizeOk5 _ _ _ _ _))
  have he₁:h₁.get? e=some ⟨.ref C,od,.fields vs,#[]⟩:=(hs₁.2.1 e hene).trans hep
  have he₂:=Heap.get?_push_of_some (h:=h₁) {cls:=.type "traceback",dict:=none,data:=.fields ([head,.ref L,.none,rawInt L,.none]++(if pl.isEmpty then List.replicate 6 Value.none else pl)).toArray} he₁
  refine wpAny_setField he₂ rfl h1s ?_
  have hTe:h₁.objs.size≠e:=Nat.ne_of_gt (Heap.lt_size he₁)
  have he₃:=Heap.get?_update_self (Obj.mapFields (·.setIfInBounds 1 (Value.ref h₁.objs.size))) he₂ rfl
  have hT₃:=(Heap.get?_update_other (h₁.push {cls:=.type "traceback",dict:=none,data:=.fields ([head,.ref L,.none,rawInt L,.none]++(if pl.isEmpty then List.replicate 6 Value.none else pl)).toArray})
   (Obj.mapFields (·.setIfInBounds 1 (Value.ref h₁.objs.size))) (Ne.symm hTe)).trans (Heap.get?_push_size h₁ rfl)
  have keep:∀ b o,b≠e->h₁.get? b=some o->
    ((h₁.push {cls:=.type "traceback",dict:=none,data:=.fields ([head,.ref L,.none,rawInt L,.none]++(if pl.isEmpty then List.replicate 6 Value.none else pl)).toArray}).update e (Obj.mapFields (·.setIfInBounds 1 (Value.ref h₁.objs.size)))).get? b=some o:=
   fun b o hbe hb=>by
    rw[Heap.get?_update_other _ _ (Ne.symm hbe)]
    exact Heap.get?_push_of_some _ hb
  refine h _ (some h₁.objs.size) (by simp) ⟨fun b o hb hbe hbt q=>?_,fun b o hb q=>?_,⟨vs.setIfInBounds 1 (.ref h₁.objs.size),?_,?_⟩,.inl ⟨_,rfl,by rw[hs₁.1,hsz];exact Nat.le_refl _⟩,fun t o e1 e2=>?_⟩
  ·exact keep b o hbe ((hs₁.2.1 b hb).trans (kp b o hbt q))
  ·have hbt:∀ t,T=some t->b≠t:=fun t e1 z=>by
    obtain ⟨o',q',z2,_⟩:=tp t o e1 (z▸q)
    exact z2 (z▸hb)
   obtain ⟨sl,q'⟩:=hs₁.2.2 b o (kp b o hbt q)
   exact ⟨sl,keep b _ (fun z=>hene (z▸hb)) q'⟩
  ·exact he₃
  ·refine ⟨by simp[h1s],hTe,_,_,rawInt L,hT₃,rfl,by first|(simp;done)|(rcases hpl with rfl|⟨_,_,_,_,_,_,_,rfl⟩<;>simp)⟩
  ·obtain ⟨o',q',z2,z3⟩:=tp t o e1 e2
   exact ⟨o',keep t o' z3 ((hs₁.2.1 t z2).trans q')⟩
 unfold noteFrame
 simp only[hf]
 cases T with
 | none=>
  refine wpAny_bind (wpAny_field he rfl ht ?_)
  rw[if_neg (by decide)]
  exact make s.heap .none _ hl rfl he (fun b o _ q=>q) (fun t o e1=>nomatch e1)
 | some t=>
  obtain ⟨ht1,hte,oT,ts,x,hT,hdT,h3⟩:=ht
  have tFL:t∉(env::outer).filterMap (·.frame):=fun hm=>by
   obtain ⟨o,ho,hnf⟩:=frF t hm
   rw[hT] at ho;injection ho with ho;subst ho;exact hnf ts hdT
  refine wpAny_bind (wpAny_field he rfl ht1 ?_)
  rw[if_pos (show (Value.ref t != Value.none)=true from by simp)]
  refine wpAny_bind (wpAny_field hT hdT h3 ?_)
  by_cases hx:(x == rawInt L)=true
  ·rw[if_pos hx]
   refine wpAny_pure (h s.heap (some t) (by simp) ⟨fun b o _ _ _ q=>q,fun b o _ q=>⟨o.slots,q⟩,⟨vs,he,ht1,hte,oT,ts,x,hT,hdT,h3⟩,.inr ⟨rfl,by simp⟩,fun t' o e1 q=>⟨o,q⟩⟩)
  ·rw[if_neg hx]
   refine wpAny_bind (wpAny_setField hT hdT (Array.getElem?_eq_some_iff.mp h3).1 ?_)
   have other:∀ b,b≠t->(s.heap.update t (Obj.mapFields (·.setIfInBounds 3 Value.none))).get? b=s.heap.get? b:=fun b hb=>Heap.get?_update_other _ _ (Ne.symm hb)
   have hT':=Heap.get?_update_self (Obj.mapFields (·.setIfInBounds 3 Value.none)) hT (Obj.isFreed_of_fields (Obj.data_mapFields hdT _))
   refine make (s.heap.update t (Obj.mapFields (·.setIfInBounds 3 Value.none))) _ _ (hl.of_keeps fun b o hb hnf=>⟨o,(other b fun q=>?_).trans hb,rfl⟩) (Heap.SameBut.update ..).1 ((other e (Ne.symm hte)).trans he) (fun b o hb q=>(other b (hb t rfl)).trans q) (fun t' o e1 q=>?_)
   ·rw[q,hT] at hb;injection hb with hb;subst hb;exact hnf ts hdT
   ·cases e1
    exact ⟨_,hT',tFL,hte⟩
theorem aA9{e C t:Addr}{od:Option Addr}{vs:Array Value}{fr:Option Addr}{Q:Unit->Shared->Prop}(he:s.heap.get? e=some ⟨.ref C,od,.fields vs,#[]⟩)(ht:rA s.heap vs e (some t))
  (h:∀ h',Heap.SameBut t s.heap h'->rA h' vs e (some t)->Q () {s with heap:=h'}):wpAny M A (setFlight (.ref e) fr) Q E s:=by
 obtain ⟨ht1,hte,oT,ts,x,hT,hdT,h3⟩:=ht
 unfold setFlight
 refine wpAny_bind (wpAny_field he rfl ht1 ?_)
 rw[if_pos (show (Value.ref t != Value.none)=true from by simp)]
 have hsz:=(Array.getElem?_eq_some_iff.mp h3).1
 refine wpAny_setField hT hdT hsz (h _ (Heap.SameBut.update ..) ⟨ht1,hte,_,_,_,Heap.get?_update_self _ hT (Obj.isFreed_of_fields (Obj.data_mapFields hdT _)),Obj.data_mapFields hdT _,Array.getElem?_setIfInBounds_self_of_lt hsz⟩)
end
end SX
namespace L2
open PySem PySem.Spec PyProof.Rows
def ExN(e C:Addr)(od:Option Addr):HO:=.ext fun h=>∃ vs,h.get? e=some ⟨.ref C,od,.fields vs,#[]⟩/\vs[1]? = some .none
def ExO(e C:Addr)(od:Option Addr):HO:=.ext fun h=>∃ vs,h.get? e=some ⟨.ref C,od,.fields vs,#[]⟩
section
variable{P:Program}{w:World}{H:Hp}{h:Heap}{e C:Addr}{od:Option Addr}
theorem aC0{vs:Array Value}(a:h.get? e=some ⟨.ref C,od,.fields vs,#[]⟩)(b:vs[1]? = some .none):b5 P w H h e (ExN e C od):=
 ⟨⟨vs,a,b⟩,⟨_,a⟩,fun h1 h2 ⟨vs,a,b⟩ k=>⟨vs,k _ a,b⟩⟩
theorem wT{vs:Array Value}(a:h.get? e=some ⟨.ref C,od,.fields vs,#[]⟩):b5 P w H h e (ExO e C od):=
 ⟨⟨vs,a⟩,⟨_,a⟩,fun h1 h2 ⟨vs,a⟩ k=>⟨vs,k _ a⟩⟩
theorem wU(ok:HOk P w H h)(q:H e=some (ExN e C od)):∃ vs,h.get? e=some ⟨.ref C,od,.fields vs,#[]⟩/\vs[1]? = some .none:=(ok e _ q).1
theorem wV(ok:HOk P w H h)(q:H e=some (ExO e C od)):∃ vs,h.get? e=some ⟨.ref C,od,.fields vs,#[]⟩:=(ok e _ q).1
end
structure FlyAt(X:Cx)(H:Hp)(h:Heap)(e C:Addr)(od:Option Addr)(traced:Bool):Prop where
 tr:H e=some (ExO e C od)
 tb:∃ vs T,h.get? e=some ⟨.ref C,od,.fields vs,#[]⟩/\SX.rA h vs e T/\(∀ t,T=some t->H t=none/\X.s₀.heap.objs.size<=t/\∀ p∈X.pn,p.1≠t)/\(traced=true->T≠none)
def Fly(X:Cx)(E:XK)(ev:Value)(s':Shared):Prop:=∃ e C od σ H',ev=.ref e/\Inv X [] σ H' s'/\FlyAt X H' s'.heap e C od false/\E (.ref C) (some e) H'
abbrev Cx.fly(X:Cx)(E:XK):Cx:=X.wish (Fly X E)
def pT(X:Cx):Prop:=X.stack=X.env::X.outer/\X.env.frame=some X.env.locals
section
variable{X:Cx}{σ:St}{H:Hp}{s:Shared}{e C:Addr}{od:Option Addr}{b:Bool}
theorem wW(I:Inv X [] σ H s){t:Addr}{oT:Obj}{ts:Array Value}(hT:s.heap.get? t=some oT)(hd:oT.data=.fields ts):t≠X.env.locals/\(∀ x c,X.env.cells.lookup x=some c->c≠t):=by
 refine ⟨fun z=>?_,fun x c q z=>?_⟩
 ·obtain ⟨m,⟨o,es,ep,ho,hd',_⟩,_⟩:=I.loc
  rw[<-z,hT] at ho;cases ho;rw[hd] at hd';cases hd'
 ·obtain ⟨v,o,ho,hd'⟩:=I.cell x c q
  rw[z,hT] at ho;cases ho;rw[hd] at hd';cases hd'
theorem rB{Q:Unit->Shared->Prop}{E':Value->Shared->Prop}(hO:pT X)(I:Inv X [] σ H s)(f:FlyAt X H s.heap e C od b)(h:∀ s',Inv X [] σ H s'->FlyAt X H s'.heap e C od true->Q () s') :
  wpAny (model X.prog X.w) X.A (noteFrame (.ref e) X.env) Q E' s:=by
 obtain ⟨hst,hfm⟩:=hO
 obtain ⟨vs,T,he,ht,hT,_⟩:=f.tb
 have hfr:X.A.frames=some (X.env::X.outer):=by rw[<-hst];exact I.ok.frames
 have hl:s.heap.FunFrames X.base (X.env::X.outer):=by have:=I.stack;rw[hst] at this;exact this
 have hFL:(X.env::X.outer).filterMap (·.frame)=X.env.locals::X.fs:=by rw[List.filterMap_cons,hfm];rfl
 refine SX.aFJ (T:=T) hfr hl hfm he ht fun h' T' hT' N=>?_
 rw[hFL] at N
 have trk:∀ c u,H c=some u->c∉X.env.locals::X.fs:=fun c u q z=>by
  have:=I.stkFree c (by unfold frs;rw[hst,hFL];exact z)
  rw[q] at this;cases this
 have nT:∀ c u,H c=some u->∀ t,T=some t->c≠t:=fun c u q t e1 z=>by
  have:=(hT t e1).1
  rw[<-z,q] at this;cases this
 have hok':HOk X.prog X.w H h':=fun c u q=>by
  by_cases hc:c=e
  ·subst hc
   rw[f.tr] at q;cases q
   obtain ⟨vs',q',_⟩:=N.exc
   exact wT q'
  ·refine (I.hok c u q).stay (fun c' v hc' q'=>N.keep c' v ?_ ?_ ?_ q') (fun _ q=>q) (fun _ _ q=>q) fun _ _ q=>q
   ·rcases hc' with z|z
    ·rw[z];exact trk c u q
    ·exact trk c' _ z
   ·rcases hc' with z|z
    ·rw[z];exact hc
    ·intro zz;rw[zz,f.tr] at z;cases z
   ·rcases hc' with z|z
    ·rw[z];exact nT c u q
    ·exact nT c' _ z
 have I':Inv X [] σ H {s with heap:=h',gens:=s.gens,drawn:=s.drawn,toks:=s.toks}:=by
  refine I.step (ch:=T.toList) (fun c hc=>?_) (fun c o h1 h2 h3 q n=>?_) (fun c o h1 h2 h3 q n=>N.slot c o (List.mem_cons_of_mem _ h2) q) (fun _ _ _ _ n=>n) (fun c o h3 q=>?_) (fun _ _ q=>q) (fun _ _ _ q=>q) (fun _ _ q=>q) (fun m hm=>?_) hok' I.bare
  ·have e1:T=some c:=by cases T<;>simp at hc;rw[hc]
   obtain ⟨t1,t2,t3⟩:=hT c e1
   rw[e1] at ht
   obtain ⟨_,_,oT,ts,x,hTo,hTd,_⟩:=ht
   obtain ⟨a1,a2⟩:=wW I hTo hTd
   exact ⟨.inr t2,a1,a2,fun p hp=>t3 p (by simpa using hp)⟩
  ·refine N.keep c o ?_ ?_ ?_ q
   ·intro z
    rcases List.mem_cons.mp z with z|z
    ·exact h1 z
    ·exact h2 z
   ·intro z;rw[z,f.tr] at n;cases n
   ·intro t e1 z;exact h3 (by rw[e1,z];simp)
  ·by_cases hc:c=e
   ·subst hc
    obtain ⟨vs',q',_⟩:=N.exc
    exact ⟨_,q'⟩
   ·by_cases hF:c∈X.env.locals::X.fs
    ·obtain ⟨sl,q'⟩:=N.slot c o hF q
     exact ⟨_,q'⟩
    ·exact ⟨o,N.keep c o hF hc (fun t e1 z=>h3 (by rw[e1,z];simp)) q⟩
  ·obtain ⟨o,es,ep,ho,r⟩:=hm
   obtain ⟨sl,q'⟩:=N.slot _ o List.mem_cons_self ho
   exact ⟨_,es,ep,q',r⟩
 refine h _ I' ⟨f.tr,?_⟩
 obtain ⟨vs',q',t'⟩:=N.exc
 refine ⟨vs',T',q',t',fun t e1=>?_,fun _=>hT'⟩
 rcases N.new with ⟨t2,e2,hle⟩|⟨e2,_⟩
 ·rw[e1] at e2;cases e2
  refine ⟨I.hok.fresh hle,Nat.le_trans I.sz hle,fun p hp z=>?_⟩
  have:=Heap.lt_size (I.pin p (List.mem_append_left _ hp)).1
  rw[z] at this
  exact absurd (Nat.lt_of_lt_of_le this hle) (Nat.lt_irrefl _)
 ·exact hT t (e2▸e1)
theorem pU{Q:Unit->Shared->Prop}{E':Value->Shared->Prop}{fr:Option Addr}{A:Around}(I:Inv X [] σ H s)(f:FlyAt X H s.heap e C od true)(h:∀ s',Inv X [] σ H s'->FlyAt X H s'.heap e C od true->Q () s') :
  wpAny (model X.prog X.w) A (setFlight (.ref e) fr) Q E' s:=by
 obtain ⟨vs,T,he,ht,hT,hn⟩:=f.tb
 cases T with
 | none=>exact absurd rfl (hn rfl)
 | some t=>
  obtain ⟨t1,t2,t3⟩:=hT t rfl
  refine SX.aA9 he ht fun h' sb ht'=>?_
  obtain ⟨_,hte,oT,ts,x,hTo,hTd,_⟩:=ht
  obtain ⟨a1,a2⟩:=wW I hTo hTd
  have I':Inv X [] σ H {s with heap:=h'}:=I.turned (t':=s.toks) (it:=t) (fun b o hb q=>(sb.2 b hb).trans q) t1 a1 (.inr t2) a2 fun p hp=>t3 p (by simpa using hp)
  exact h _ I' ⟨f.tr,vs,some t,(sb.2 e (Ne.symm hte)).trans he,ht',fun t' e1=>by cases e1;exact ⟨t1,t2,t3⟩,fun _=>by simp⟩
theorem aC1{Q:Value->Shared->Prop}{E':Value->Shared->Prop}{A:Around}(f:FlyAt X H s.heap e C od true)(h:∀ t,Q (.ref t) s):wpAny (model X.prog X.w) A (field (.ref e) 1) Q E' s:=by
 obtain ⟨vs,T,he,ht,hT,hn⟩:=f.tb
 cases T with
 | none=>exact absurd rfl (hn rfl)
 | some t=>exact wpAny_field he rfl ht.1 (h t)
theorem fG{E:XK}(hO:pT X):PassesOwn (model X.prog X.w) X.A X.env (Fly X E):=by
 rintro ev s' ⟨e,C,od,σ,H,rfl,I,f,q⟩
 refine rB hO I f fun s2 I2 f2=>?_
 unfold cameBackBy
 refine wpAny_bind (aC1 f2 fun t=>?_)
 rw[if_neg (by simp)]
 exact pU I2 f2 fun s3 I3 f3=>⟨e,C,od,σ,H,rfl,I3,⟨f3.tr,let ⟨vs,T,a,b,c,_⟩:=f3.tb;⟨vs,T,a,b,c,fun z=>nomatch z⟩⟩,q⟩
end
def CXe(P:Program)(w:World):CXT:=fun outer H s E ev s'=>∃ e C od H',ev=.ref e/\s'.os=s.os/\AllBare s'.gens/\Un (frs outer) [] H H' s.heap s'.heap/\HOk P w H' s'.heap/\H' e=some (ExO e C od) /\
 (∃ vs T,s'.heap.get? e=some ⟨.ref C,od,.fields vs,#[]⟩/\SX.rA s'.heap vs e T/\∀ t,T=some t->H' t=none/\s.heap.objs.size<=t)/\E (.ref C) (some e) H'
section
variable{X:Cx}
theorem dJ{E E':XK}(hE:∀ c e H,E c e H->E' c e H):oP (CXe X.prog X.w) (X.fly E') E:=by
 rintro pins σ H s ev s' I ⟨e,C,od,H',rfl,os,bare,un,hok,he,⟨vs,T,q1,q2,q3⟩,q⟩
 have I0:Inv X pins σ H s:=I.unwish
 have I1:Inv X [] σ H s:=I0.pins_of fun p hp=>absurd hp (by simp)
 have I2:Inv X [] σ H' s':=I1.call' os un hok bare (fun b hb=>absurd hb (by simp))
 refine ⟨e,C,od,σ,H',rfl,I2,⟨he,vs,T,q1,q2,fun t e1=>?_,fun z=>nomatch z⟩,hE _ _ _ q⟩
 obtain ⟨t1,t2⟩:=q3 t e1
 refine ⟨t1,Nat.le_trans I0.sz t2,fun p hp z=>?_⟩
 have:=Heap.lt_size (I0.pin p (List.mem_append_left _ hp)).1
 rw[z] at this
 exact absurd (Nat.lt_of_lt_of_le this t2) (Nat.lt_irrefl _)
theorem PSs.unfly{E:XK}{st:List Stmt}{t:TS}(h:PSs (X.fly E) st t)(hx:∀ e s',Fly X E e s'->X.xe e s'):PSs X st t:=fun pins s σ H D I hw=>
 wpAny_mono (h pins s σ H D (I.wish _) hw) (fun f s' q=>SP.unwish q) hx
end
theorem aC2{P:Program}{w:World}{K:Frag}{mg:Str->Option Value}{base:Heap}{N:List Str}{qual:Str}{scope:Scope}{f:Addr}{cd:Value}{A:Around}{outer:List Env}{s:Shared}{H:Hp}{E:XK}{ev:Value}{s':Shared}
  (h:Fly (iT (CXe P w) P w K mg base N qual scope f cd A outer s H E) E ev s'):(iT (CXe P w) P w K mg base N qual scope f cd A outer s H E).xe ev s':=by
 obtain ⟨e,C,od,σ,H',rfl,I,fl,q⟩:=h
 show wpAny (model P w) _ (leaving _ (.ref e)) _ _ s'
 unfold leaving
 have hO:pT (iT (CXe P w) P w K mg base N qual scope f cd A outer s H E):=⟨rfl,rfl⟩
 refine wpAny_bind (rB hO I fl fun s2 I2 f2=>pU I2 f2 fun s3 I3 f3=>?_)
 obtain ⟨vs,T,a,b,c,_⟩:=f3.tb
 exact ⟨e,C,od,H',rfl,I3.os,I3.bare,I3.base,I3.hok,f3.tr,⟨vs,T,a,b,fun t e1=>⟨(c t e1).1,(c t e1).2.1⟩⟩,q⟩
section
variable{P:Program}{w:World}{K:Frag}{mg:Str->Option Value}{base:Heap}
theorem Fun.okX{x qual:Str}{st:Stmt}{f:Addr}{fd:FuncData}{N ps:List Str}{k:Nat}{sp:Sp}(F:Fun K x qual st f fd)(S:FnScope N ps (aQ st))(len:∀ vs H Q E,sp vs H Q E->vs.length=ps.length)
  (hbody:∀ (cdv:Value) (A:Around) (outer:List Env) (s:Shared) (H:Hp) (vs:List V) (Q:VK) (E:XK),Room k (A.deeper (envOfC qual (aQ st) s.heap.objs.size f cdv))->sp vs H Q E->
   ∃ t,PSs ((iT (CXe P w) P w K mg base N qual (aQ st) f cdv A outer s H E).fly E) (dN st) t/\t {nx:=fun _ H'=>Q .non H',rt:=Q} (start N vs) H):FnOk P w K mg base (CXe P w) (k+1) f fd ps sp:=by
 obtain ⟨oc,od,kV,doc,pm,an,cdv,ct,osl,rfl,lk,hcd⟩:=F.ex
 refine aHL lk hcd S len fun A outer s H vs Q E hr hsp=>?_
 obtain ⟨t,h,q⟩:=hbody cdv A outer s H vs Q E hr hsp
 exact ⟨t,h.unfly fun _ _ z=>aC2 z,q⟩
end
end L2
namespace L2
open PySem PySem.Spec PyProof.Rows
theorem Inv.xdw{X:Cx}{pins:List (Addr×Obj)}{σ:St}{H:Hp}{s:Shared}{h':Heap}{d:Addr}{fs fs':List (Str×V)}{t':Nat}(I:Inv X pins σ H s)(hd:H d=some (.xd fs))(sb:Heap.SameBut d s.heap h')
  (new:b5 X.prog X.w (upd H d (.xd fs')) h' d (.xd fs')):Inv X pins σ (upd H d (.xd fs')) {s with heap:=h',toks:=t'}:=by
 have nd:∀ b (u:Obj),H b=none->b≠d:=fun b u e z=>by rw[z,hd] at e;cases e
 refine I.un ⟨fun b o q n _ _=>(sb.2 b (nd b o n)).trans q,fun b o q n hb=>?_,fun b o q n _=>by rw[aD (nd b o n)];exact n,fun b o q _=>?_,fun b xs q=>?_,fun b o u q=>?_,fun b ps q=>?_⟩ fun b u q=>?_
 ·exact fun _=>⟨o.slots,(sb.2 b (nd b o n)).trans q⟩
 ·by_cases z:b=d
  ·obtain ⟨o',e⟩:=(show ∃ o',h'.get? d=some o' from let ⟨mA,⟨o,_,_,e,_⟩,_⟩:=new;⟨o,e⟩)
   exact ⟨o',z▸e⟩
  ·exact ⟨o,(sb.2 b z).trans q⟩
 ·rw[aD (fun z=>by rw[z,hd] at q;cases q)];exact q
 ·rw[aD (fun z=>by rw[z,hd] at q;cases q)];exact q
 ·rw[aD (fun z=>by rw[z,hd] at q;cases q)];exact q
 ·by_cases z:b=d
  ·subst z;rw[aL] at q;cases q;exact new
  ·rw[aD z] at q
   refine (I.hok b u q).stay (fun c v hc r=>(sb.2 c ?_).trans r) (fun c r=>?_) (fun c xs r=>?_) fun c xs r=>?_
   ·rcases hc with z2|z2
    · rw [z2]; exact z
    · intro z3; rw [z3, hd] at z2; cases z2
   ·rw[aD (fun z3=>by rw[z3,hd] at r;cases r)];exact r
   ·rw[aD (fun z3=>by rw[z3,hd] at r;cases r)];exact r
   ·rw[aD (fun z3=>by rw[z3,hd] at r;cases r)];exact r
def aNY(K:Frag)(ta tv:TE)(f:Str):TS:=fun D σ H=>tv σ H fun y H1=>ta σ H1 fun x H2=>∃ a W C,x=.ref a/\SX.ExcC K W C/\PySem.W.findIn K (.ref C) f=some none /\
 ((H2 a=some (ExN a C none)/\∀ d,H2 d=none->d≠a->D.nx σ (upd (upd H2 a (ExN a C (some d))) d (.xd [(f,y)]))) \/
  (∃ d fs,H2 a=some (ExN a C (some d))/\H2 d=some (.xd fs)/\fs.length < 1000/\D.nx σ (upd H2 d (.xd (tN f y fs)))))
section
variable{X:Cx}{o e value:Expr}{f:Str}{pos pos':Pos}{ta tv:TE}
theorem aC3{fs:List (Str×V)}{mA:Str->Option Value}(r:∀ f,f6 (fs.lookup f) (mA f)):PySem.Within mA (fs.map (·.1)):=fun y hy=>by
 cases q:fs.lookup y with
 | none=>exact absurd (f6.none_of (by rw[<-q];exact r y)) hy
 | some v=>exact List.mem_map.mpr ⟨(y,v),PySem.mem_of_lookup q,rfl⟩
theorem aIL(ha:PE X o ta)(hv:PE X value tv)(hs:swapsWith value (some (.Attribute o f pos')) pos.line X.env=pure false):PS X (.Assign [.Attribute o f pos'] value pos) (aNY X.K ta tv f):=by
 intro pins s σ H D I h
 refine plainObj_wpAny_Assign_Attribute (thn (hv pins s σ H _ I h) fun u s1 ⟨y,H1,I1,ry,q⟩=>thn (ha pins s1 σ H1 _ I1 q) fun ov s2 zz0=>?_) hs
 obtain ⟨x,H2,I2,rx,a,W,C,ex,c,n,q2⟩:=zz0
 subst ex
 obtain rfl:ov=Value.ref a:=rx
 rcases q2 with ⟨ea,q2⟩|⟨d,fs,ea,ed,hl,q2⟩
 ·obtain ⟨vs,hx,h1⟩:=wU I2.hok ea
  refine SX.aCY I2.kIn c n hx fun h' tk' hx' hns kp=>?_
  have fd:H2 s2.heap.objs.size=none:=I2.hok.fresh (Nat.le_refl _)
  have ne:s2.heap.objs.size≠a:=Nat.ne_of_gt (Heap.lt_size hx)
  refine ⟨σ,_,?_,q2 s2.heap.objs.size fd ne⟩
  have nea:∀ b (u:Obj),H2 b=none->b≠a:=fun b u z zz=>by rw[zz,ea] at z;cases z
  have ned:∀ b u,H2 b=some u->b≠s2.heap.objs.size:=fun b u z=>bB z fd
  have hokA:HOk X.prog X.w (upd (upd H2 a (ExN a C (some s2.heap.objs.size))) s2.heap.objs.size (.xd [(f,y)])) h':=fun b u z=>by
   by_cases hb:b=s2.heap.objs.size
   ·subst hb;rw[aL] at z;cases z
    refine ⟨_,hns,fun g=>?_⟩
    show f6 (List.lookup g [(f,y)]) (if g=f then some u else none)
    rw[List.lookup_cons]
    by_cases hg:g=f
    ·subst hg;rw[if_pos rfl];simp only[beq_self_eq_true];exact ry
    ·rw[if_neg hg,beq_false_of_ne hg];exact True.intro
   ·rw[aD hb] at z
    by_cases hb2:b=a
    ·subst hb2;rw[aL] at z;cases z
     exact aC0 hx' h1
    ·rw[aD hb2] at z
     refine (I2.hok b u z).stay (fun c' v hc r=>kp c' v ?_ r) (fun c' r=>?_) (fun c' xs r=>?_) fun c' xs r=>?_
     ·rcases hc with z2|z2
      · rw [z2]; exact hb2
      · intro z3; rw [z3, ea] at z2; cases z2
     ·rw[aD (ned c' _ r),aD (fun z3=>by rw[z3,ea] at r;cases r)];exact r
     ·rw[aD (ned c' _ r),aD (fun z3=>by rw[z3,ea] at r;cases r)];exact r
     ·rw[aD (ned c' _ r),aD (fun z3=>by rw[z3,ea] at r;cases r)];exact r
  refine I2.un (t':=tk') ⟨fun b ob q n _ _=>kp b ob (nea b ob n) q,fun b ob q n _ _=>⟨ob.slots,kp b ob (nea b ob n) q⟩,fun b ob q n _=>by rw[aD (Nat.ne_of_lt (Heap.lt_size q)),aD (nea b ob n)];exact n,fun b ob q _=>?_,fun b xs q=>?_,fun b ob u' q=>?_,fun b ps q=>?_⟩ hokA
  ·by_cases z:b=a
   ·subst z;exact ⟨_,hx'⟩
   ·exact ⟨ob,kp b ob z q⟩
  ·rw[aD (ned b _ q),aD (fun z3=>by rw[z3,ea] at q;cases q)];exact q
  ·rw[aD (ned b _ q),aD (fun z3=>by rw[z3,ea] at q;cases q)];exact q
  ·rw[aD (ned b _ q),aD (fun z3=>by rw[z3,ea] at q;cases q)];exact q
 ·obtain ⟨vs,hx,h1⟩:=wU I2.hok ea
  obtain ⟨mA,hns,r⟩:=(show b5 X.prog X.w H2 s2.heap d (.xd fs) from I2.hok d _ ed)
  have ne:d≠a:=fun z=>by rw[z,ea] at ed;cases ed
  refine SX.aFH (ns:=fs.map (·.1)) I2.kIn c n hx ne hns (aC3 r) (by rw[List.length_map,sizeLine_eq];omega) fun h' tk' hns' sb=>?_
  refine ⟨σ,_,I2.xdw (t':=tk') ed sb ⟨_,hns',fun g=>?_⟩,q2⟩
  show f6 ((tN f y fs).lookup g) (if g=f then some u else mA g)
  rw[qM]
  by_cases q:g=f
  ·rw[if_pos q,if_pos q];exact ry
  ·rw[if_neg q,if_neg q];exact r g
end
inductive TyX(K:Frag)(H:Hp):V->Value->Prop where
 | pl {x:V} {t:Value} (h:TyOf K H x t):TyX K H x t
 | exc {a W C:Addr} {d:Addr} {fs:List (Str×V)} (c:SX.ExcC K W C) (e:H a=some (ExO a C (some d))) (ed:H d=some (.xd fs)):TyX K H (.ref a) (.ref C)
 | exc0 {a W C:Addr} (c:SX.ExcC K W C) (e:H a=some (ExO a C none)):TyX K H (.ref a) (.ref C)
def aBA:V->Option Value
 | .ty n=>some (.type n)
 | .ref a=>some (.ref a)
 | _=>none
theorem tT{x:V}{u v:Value}(h:aBA x=some v)(r:a9 x u):u=v:=by
 cases x with
 | ty n=>cases h;exact r
 | ref a=>cases h;exact r
 | _=>cases h
theorem jT{X:Cx}:gA X (.builtin "isinstance") (fun xs H Q=>∃ x c t cv b,xs=[x,c]/\TyX X.K H x t/\aBA c=some cv/\PySem.W.kitOne X.K t cv=some b/\Q (.bl b) H):=by
 intro pins s σ H xs us Q I r h
 obtain ⟨x,c,t,cv,b,rfl,ty,hc,e,q⟩:=h
 obtain ⟨u,v,rfl,ru,rv⟩:=aA1 r
 obtain rfl:=tT hc rv
 cases ty with
 | pl ty=>exact aCP I ru ty e fun tk=>⟨.bl b,H,I.tok _,rfl,q⟩
 | @exc a W C d fs cc ea ed=>
  cases (show u=Value.ref a from ru)
  obtain ⟨vs,hx⟩:=wV I.hok ea
  obtain ⟨mA,hns,r⟩:=(show b5 X.prog X.w H s.heap d (.xd fs) from I.hok d _ ed)
  obtain ⟨od,hod,_⟩:=oO hns
  exact SX.sG (o:=some od) I.kIn cc ⟨hx,rfl,rfl,hod⟩ e fun tk=>⟨.bl b,H,I.tok _,rfl,q⟩
 | @exc0 a W C cc ea=>
  cases (show u=Value.ref a from ru)
  obtain ⟨vs,hx⟩:=wV I.hok ea
  exact SX.sG (o:=none) I.kIn cc ⟨hx,rfl,rfl,True.intro⟩ e fun tk=>⟨.bl b,H,I.tok _,rfl,q⟩
def wX(C:Addr)(spI:Sp)(E:XK)(ta:TA):TS:=fun _ σ H=>ta σ H fun vs H1=>vs.length<=1000/\∀ e,H1 e=none->
 spI (.ref e::vs) (upd H1 e (ExN e C none)) (fun v H2=>v=.non/\∃ od,H2 e=some (ExN e C od)/\E (.ref C) (some e) (upd H2 e (ExO e C od))) E0
section
variable{X:Cx}{E:XK}{W C fI:Addr}{fdI:FuncData}{ps:List Str}{spI:Sp}{k:Nat}{x:Str}{np cpos pos:Pos}{e0:Expr}{rest:List Expr}{ta:TA}
theorem rC(hc:X.calm=true)(c:SX.ExcC X.K W C)(hg:Gl X x)(hm:X.mg x=some (.ref C))(FI:FnOk X.prog X.w X.K X.mg X.base CX0 k fI fdI ps spI)(hi:PySem.W.findIn X.K (.ref C) "__init__"=some (some (.ref fI)))
  (hf:PySem.W.typeIn X.K (.ref fI)=some (.type "function")) (hb:fQ X.K fdI ps []) (hr:Room (k+1) X.A) (ha:PA (X.fly E) (e0::rest) ta) (hdb:(x == ("__debug__":Str))=false:=by decide)
  (he:starEach (e0::rest) X.env=(false,eval e0 X.env)::starEach rest X.env:=by rfl) (hpl:(backTo cpos (starEach rest X.env)).any (·.1)=false:=by rfl) :
  PS (X.fly E) (.Raise (some (.Call (.Name x np) (e0::rest) [] cpos)) none pos) (wX C spI E ta):=by
 intro pins s σ H D I h
 obtain ⟨nm,q,N,bs,sn,sub,ab,col,dd,k0,k1,k2,k3,k5,lk⟩:=c.lk
 have core:wpAny (model X.prog X.w) X.A (eval (.Call (.Name x np) (e0::rest) [] cpos) X.env) (fun v s1=>∃ e od vs,v=.ref e/\s1.heap.get? C=some (excClassObj nm q C N bs (.ref W::SX.fR) true sn sub ab col dd k0 k1 k2 k3 k5 "ValueError.__new__") /\
   s1.heap.get? e=some {cls:=.ref C,dict:=od,data:=.fields vs}/\vs[1]? = some .none/\Fly X E (.ref e) s1) (Fly X E) s:=by
  refine wpAny_Call_Name_kw (mH (X:=X) I.unwish hg hm ?_ hdb)
  refine PySem.W.callWith_K (h₀:=X.base) I.ok.mod.kin c.kp (thn (ha cpos pins s σ H _ I h) fun us s1 ⟨vs,H1,I1',r,hz,q1⟩=>⟨I1'.kIn,?_⟩) he hpl
  have I1:Inv X pins σ H1 s1:=I1'.unwish
  obtain ⟨hp,g,d,tk,os⟩:=s1
  have hz':us.length<=sizeLine:=by rw[<-r.length,sizeLine_eq];omega
  refine SX.aFG PySem.F.excBase_ValueError (SX.tS W) I1.kIn (I1.kIn _ _ lk) hi hf (fun h' e hm' hle=>?_) hz'
  obtain ⟨t,het,_,_⟩:=hm'.there
  have I2:Inv X pins σ (upd H1 e (ExN e C none)) ⟨h',g,d,tk,os⟩:=I1.laid (t':=tk) hm'.keeps hle (aC0 het rfl)
  have q2:=q1 e (I1.hok.fresh hle)
  have r2:bA (V.ref e::vs) (Value.ref e::us):=.cons rfl r
  have hl:(Value.ref e::us++[]).length=ps.length:=by
   have z:=r2.length
   rw[FI.len _ _ _ _ q2] at z
   rw[List.append_nil]
   exact z.symm
  have hl':(Value.ref e::us).length=ps.length:=by rw[List.append_nil] at hl;exact hl
  have bb:=hb ⟨h',g,d,tk,os⟩ (Value.ref e::us) I2.kIn hl
  rw[List.append_nil] at bb
  refine wpAny_call (codeAny_mono (FI.run _ X.stack ⟨h',g,d,tk,os⟩ _ ⟨Value.ref e::us,[]⟩ (Value.ref e::us) (V.ref e::vs) _ E0 (hr.make C us []) (I2.env0.make C us []) bb r2 q2) fun res s' hq=>?_)
  cases res with
  | error e=>exact False.elim hq
  | ok fl=>
   cases fl with
   | next=>exact False.elim hq
   | brk=>exact False.elim hq
   | cont=>exact False.elim hq
   | ret u=>
    obtain ⟨v,H3,I3,rv,ev,od,ee,q3⟩:=I2.after hq
    subst ev
    obtain ⟨vs',hx,h1⟩:=wU I3.hok ee
    refine ⟨rv,e,od,vs',rfl,I3.kIn _ _ lk,hx,h1,?_⟩
    have I4:Inv X pins σ (upd H3 e (ExO e C od)) {s' with heap:=s'.heap,toks:=s'.toks}:=I3.write (x:=e) (e:=e) (by rw[ee];exact True.intro) (.inl rfl) (fun b u _ z=>z) ⟨_,hx⟩ (wT hx)
    have I5:Inv X [] σ (upd H3 e (ExO e C od)) s':=(show Inv X pins σ _ s' from I4).pins_of fun p hp=>absurd hp (by simp)
    exact ⟨e,C,od,σ,_,rfl,I5,⟨aL,vs',none,hx,h1,(fun t z=>nomatch z),(fun z=>nomatch z)⟩,q3⟩
 show wpAny (model X.prog X.w) X.A (exec (.Raise (some (.Call (.Name x np) (e0::rest) [] cpos)) none pos) X.env) _ (Fly X E) s
 rw[arm_exec_Raise]
 first
  | refine wpAny_bind (wpAny_standAt (SX.kG (SX.tS W) (I.ok.hd hc) (wpAny_bind (wpAny_mono core (fun v s1 h1=>wpAny_bind (wpAny_standAt (wpAny_pure h1))) fun _ _ z=>z))))
  | (simp only[evalOpt,Option.map];refine wpAny_bind (wpAny_standAt (SX.kG (SX.tS W) (I.ok.hd hc) (wpAny_bind (wpAny_mono core (fun v s1 h1=>wpAny_bind (wpAny_standAt (wpAny_pure h1))) fun _ _ z=>z)))))
end
end L2
namespace SX
open PySem PySem.W
structure ExcAny(K:Frag)(C:Addr)(bm:List Value):Prop where
 lk:∃ nm q N bs hd sn sub ab col dd k0 k1 k2 k3 k5 newId,K.lookup C=some (excClassObj nm q C N bs bm hd sn sub ab col dd k0 k1 k2 k3 k5 newId)
 base:bm.contains (.type "BaseException")=true
theorem ExcC.any{K:Frag}{W C:Addr}(c:ExcC K W C):ExcAny K C (.ref W::fR):=by
 obtain ⟨nm,q,N,bs,sn,sub,ab,col,dd,k0,k1,k2,k3,k5,e⟩:=c.lk
 exact ⟨⟨_,_,_,_,_,_,_,_,_,_,_,_,_,_,_,_,e⟩,(tS W).hasBase⟩
theorem y7{M:Model}{A:Around}{E:Value->Shared->Prop}{K:Frag}{C W:Addr}{bmC bmW:List Value}{s:Shared}{e:Addr}{oe:Obj}{Q:Bool->Shared->Prop}(X:K.In s.heap)(c:ExcAny K C bmC)(w:ExcAny K W bmW)
  (he:s.heap.get? e=some oe) (hcls:oe.cls=.ref C) (hq:Q ((Value.ref C::bmC).contains (.ref W)) s):wpAny M A (excMatches (.ref e) (.ref W)) Q E s:=by
 obtain ⟨nm,q,N,bs,hd,sn,sub,ab,col,dd,k0,k1,k2,k3,k5,nid,lC⟩:=c.lk
 obtain ⟨nm',q',N',bs',hd',sn',sub',ab',col',dd',k0',k1',k2',k3',k5',nid',lW⟩:=w.lk
 have hC:=X _ _ lC
 have hW:=X _ _ lW
 have hcB:(Value.ref W::bmW).contains (.type "BaseException")=true:=by rw[List.contains_cons,w.base,Bool.or_true]
 have f:=tc_notTuple
 obtain ⟨hp,g,d,t,os⟩:=s
 unfold excMatches
 repeat (first|(with_reducible refine wpAny_loadPart_at he ?_;rw[hcls])|with_reducible refine wpAny_loadPart_at hW ?_|(with_reducible refine wpAny_isSubtype_exc hW ?_;rw[hcB])|with_reducible refine wpAny_isSubtype_exc hC ?_|wp_step)
 cases hb:(Value.ref C::bmC).contains (.ref W)<;>(rw[hb] at hq;wp_walk;exact hq)
end SX
namespace L2
open PySem PySem.Spec PyProof.Rows
abbrev Cx.pnw(X:Cx)(pn:List (Addr×Obj)):Cx:={X with pn:=pn}
noncomputable abbrev Cx.inH(X:Cx)(e:Addr):Cx:={X with A:=X.A.mark (some (.ref e)),calm:=false,xe:=fun _ _=>False}
section
variable{X:Cx}{pins:List (Addr×Obj)}{σ:St}{H:Hp}{s:Shared}{e:Addr}
theorem Cx.Ok.pnw{X:Cx}(ok:X.Ok)(pn:List (Addr×Obj)):(X.pnw pn).Ok:=
 ⟨ok.mod,ok.kind,ok.glob,ok.blt,ok.above,ok.inj,ok.has,ok.cab,ok.hd,ok.frames,ok.stk,ok.exf,ok.bs,ok.bsz,ok.noex,ok.exfs,ok.funs,ok.frf⟩
theorem Cx.Ok.unpn{X:Cx}{pn:List (Addr×Obj)}(ok:(X.pnw pn).Ok):X.Ok:=
 ⟨ok.mod,ok.kind,ok.glob,ok.blt,ok.above,ok.inj,ok.has,ok.cab,ok.hd,ok.frames,ok.stk,ok.exf,ok.bs,ok.bsz,ok.noex,ok.exfs,ok.funs,ok.frf⟩
theorem Inv.toPn(I:Inv X pins σ H s):Inv (X.pnw (X.pn++pins)) [] σ H s:=
 ⟨I.ok.pnw _,I.os,I.bare,I.base,I.loc,I.cell,I.free,I.freeC,fun p hp=>I.pin p (by
  have z:p∈(X.pn++pins)++[]:=hp
  rw[List.append_nil] at z
  exact z),I.hok,I.len⟩
theorem Inv.ofPn{pl:List (Addr×Obj)}(I:Inv (X.pnw (X.pn++pins)) pl σ H s):Inv X pins σ H s:=
 ⟨I.ok.unpn,I.os,I.bare,I.base,I.loc,I.cell,I.free,I.freeC,fun p hp=>I.pin p (List.mem_append_left _ hp),I.hok,I.len⟩
theorem SP.ofPn{pl:List (Addr×Obj)}{E:Value->Shared->Prop}{D:jD}{f:Flow}{s':Shared}(h:SP ((X.pnw (X.pn++pins)).wish E) pl D f s'):SP X pins D f s':=by
 cases f with
 | next=>obtain ⟨a,b,c,d⟩:=h;exact ⟨a,b,c.unwish.ofPn,d⟩
 | brk=>obtain ⟨a,b,c,d⟩:=h;exact ⟨a,b,c.unwish.ofPn,d⟩
 | cont=>obtain ⟨a,b,c,d⟩:=h;exact ⟨a,b,c.unwish.ofPn,d⟩
 | ret u=>obtain ⟨v,a,b,c,d⟩:=h;exact ⟨v,a,b,c.unwish.ofPn,d⟩
theorem Cx.Ok.inH{X:Cx}(ok:X.Ok)(e:Addr):(X.inH e).Ok:=
 ⟨ok.mod,ok.kind,ok.glob,ok.blt,ok.above,ok.inj,ok.has,ok.cab,(fun z=>nomatch z),ok.frames,ok.stk,ok.exf,ok.bs,ok.bsz,ok.noex,ok.exfs,ok.funs,ok.frf⟩
theorem Inv.inH(I:Inv X pins σ H s)(e:Addr):Inv (X.inH e) pins σ H s:=
 ⟨I.ok.inH e,I.os,I.bare,I.base,I.loc,I.cell,I.free,I.freeC,I.pin,I.hok,I.len⟩
theorem Inv.ofH(ok:X.Ok)(I:Inv (X.inH e) pins σ H s):Inv X pins σ H s:=
 ⟨ok,I.os,I.bare,I.base,I.loc,I.cell,I.free,I.freeC,I.pin,I.hok,I.len⟩
end
end L2
namespace L2
open PySem PySem.Spec PyProof.Rows
section
variable{X:Cx}
theorem aC4(hc:X.calm=true):gA X (.builtin "all") (fun xs H Q=>∃ (a:Addr) (bs:List Bool),xs=[.ref a]/\SqL X.K H a (bs.map V.bl)/\Q (.bl (bs.all id)) H):=by
 intro pins s σ H xs us Q I r h
 obtain ⟨a,bs,rfl,hq,q⟩:=h
 obtain ⟨u,rfl,ru⟩:=iB r
 cases (show u=Value.ref a from ru)
 obtain ⟨its,rv,p,hz⟩:=I.list hq
 have hl:its.length=bs.length:=by rw[<-rv.length,List.length_map]
 refine call_all_walk (wpAny_pyIter_list p.isList ?_)
 have ne:a≠s.heap.objs.size:=by
  obtain ⟨o,e,_⟩:=p.isList
  exact Nat.ne_of_lt (Heap.lt_size e)
 refine ⟨_,_,_,_,_,_,fun i=>bs.getD i true,rfl,Walks.list (show X.A.in1.handled=none from I.ok.hd hc) s.heap.objs.size a ne its.toArray,⟨⟨_,Heap.get?_push_size _ rfl,rfl,rfl⟩,p.isList.at fun o e=>Heap.get?_push_of_some _ e⟩,?_,?_⟩
 ·intro i v s' Q' E' hP hQ
  have hP:its.toArray[i]? = some v:=hP
  have hi:its[i]? = some v:=by simpa using hP
  have hlt:i < bs.length:=by rw[<-hl];exact (List.getElem?_eq_some_iff.mp hi).1
  have hb:(bs.map V.bl)[i]? = some (V.bl bs[i]):=by simp[hlt]
  obtain ⟨u',hu,ru'⟩:=rv.get hb
  rw[hi] at hu;cases hu
  cases (show v=Value.bool bs[i] from ru')
  refine wpAny_truthy_bool ?_
  have e:bs.getD i true=bs[i]:=by rw[List.getD_eq_getElem?_getD,List.getElem?_eq_getElem hlt];rfl
  rw[<-e];exact hQ
 ·intro h' tk kp
  have e:(List.range its.toArray.size).all (fun i=>bs.getD i true)=bs.all id:=by
   rw[List.size_toArray,hl,Bool.eq_iff_iff,List.all_eq_true,List.all_eq_true]
   constructor
   ·intro h x hx
    obtain ⟨i,hi,rfl⟩:=List.mem_iff_getElem.mp hx
    have:=h i (List.mem_range.mpr hi)
    rw[List.getD_eq_getElem?_getD,List.getElem?_eq_getElem hi] at this
    exact this
   ·intro h i hi
    have hi:=List.mem_range.mp hi
    rw[List.getD_eq_getElem?_getD,List.getElem?_eq_getElem hi]
    exact h _ (List.getElem_mem hi)
  rw[e]
  refine ⟨.bl _,H,?_,rfl,q⟩
  exact I.kept (t':=tk) fun b o e=>kp b o (fun z=>by
   have:=Heap.lt_size e
   rw[List.mem_singleton.mp z] at this
   exact Nat.lt_irrefl _ this) (Heap.get?_push_of_some _ e)
end
end L2
namespace L2
open PySem PySem.Spec PyProof.Rows
structure Blt(mg:Str->Option Value):Prop where
 b_len:mg "len"=none
 b_isinstance:mg "isinstance"=none
 b_all:mg "all"=none
 b_max:mg "max"=none
 b_min:mg "min"=none
 b_int:mg "int"=none
 b_str:mg "str"=none
 b_bool:mg "bool"=none
 b_tuple:mg "tuple"=none
 b_list:mg "list"=none
 b_range:mg "range"=none
 b_enumerate:mg "enumerate"=none
 b_ValueError:mg "ValueError"=none
structure DefAt(K:Frag)(mg:Str->Option Value)(x:Str)(st:Stmt)(ps:List Str):Prop where
 ex:∃ f fd,Fun K x x st f fd/\fQ K fd ps []/\mg x=some (.ref f)
def Calls(P:Program)(w:World)(K:Frag)(mg:Str->Option Value)(base:Heap)(CX:CXT)(k:Nat)(x:Str)(ps:List Str)(sp:Sp):Prop:=
 ∃ f fd,FnOk P w K mg base CX k f fd ps sp/\fQ K fd ps []/\mg x=some (.ref f)/\PySem.W.keepIn K (.ref f)=true
section
variable{P:Program}{w:World}{K:Frag}{mg:Str->Option Value}{base:Heap}{x:Str}{st:Stmt}{N ps:List Str}{k:Nat}{sp:Sp}
theorem DefAt.ok(D:DefAt K mg x st ps)(S:FnScope N ps (aQ st))(len:∀ vs H Q E,sp vs H Q E->vs.length=ps.length)
  (hbody:∀ (f:Addr) (cdv:Value) (A:Around) (outer:List Env) (s:Shared) (H:Hp) (vs:List V) (Q:VK) (E:XK),Room k (A.deeper (envOfC x (aQ st) s.heap.objs.size f cdv))->sp vs H Q E->
   ∃ t,PSs (iT CX0 P w K mg base N x (aQ st) f cdv A outer s H E).nox (dN st) t/\t {nx:=fun _ H'=>Q .non H',rt:=Q} (start N vs) H):Calls P w K mg base CX0 (k+1) x ps sp:=by
 obtain ⟨f,fd,F,b,m⟩:=D.ex
 exact ⟨f,fd,F.ok S len (hbody f),b,m,F.kp⟩
theorem DefAt.okX(D:DefAt K mg x st ps)(S:FnScope N ps (aQ st))(len:∀ vs H Q E,sp vs H Q E->vs.length=ps.length)
  (hbody:∀ (f:Addr) (cdv:Value) (A:Around) (outer:List Env) (s:Shared) (H:Hp) (vs:List V) (Q:VK) (E:XK),Room k (A.deeper (envOfC x (aQ st) s.heap.objs.size f cdv))->sp vs H Q E->
   ∃ t,PSs ((iT (CXe P w) P w K mg base N x (aQ st) f cdv A outer s H E).fly E) (dN st) t/\t {nx:=fun _ H'=>Q .non H',rt:=Q} (start N vs) H):Calls P w K mg base (CXe P w) (k+1) x ps sp:=by
 obtain ⟨f,fd,F,b,m⟩:=D.ex
 exact ⟨f,fd,F.okX S len (hbody f),b,m,F.kp⟩
theorem Calls.imp{CX:CXT}{sp':Sp}(C:Calls P w K mg base CX k x ps sp)(h:∀ vs H Q E,sp' vs H Q E->sp vs H Q E):Calls P w K mg base CX k x ps sp':=by
 obtain ⟨f,fd,F,b,m,kp⟩:=C
 exact ⟨f,fd,F.imp h,b,m,kp⟩
end
section
variable{X:Cx}{CX:CXT}{k:Nat}{x:Str}{ps:List Str}{sp:Sp}{E:XK}{p pos:Pos}{e:Expr}{es:List Expr}{t:TA}
theorem cG(C:Calls X.prog X.w X.K X.mg X.base CX k x ps sp)(hr:Room k X.A)(hg:Gl X x)(hx:oP CX X E)(ha:PA X (e::es) t)(hdb:(x == ("__debug__":Str))=false:=by decide)
  (he:starEach (e::es) X.env=(false,eval e X.env)::starEach es X.env:=by rfl) (hpl:(backTo pos (starEach es X.env)).any (·.1)=false:=by rfl):PE X (.Call (.Name x p) (e::es) [] pos) (aA4 sp [] E t):=by
 obtain ⟨f,fd,F,b,m,kp⟩:=C
 exact aIC F hr hg m kp b .nil hx ha hdb he hpl
end
def spI(C:Addr)(fs:List Str):Sp:=fun vs H Q _=>∃ e xs,vs=.ref e::xs/\xs.length=fs.length/\H e=some (ExN e C none)/\∀ d,H d=none->d≠e->Q .non (upd (upd H e (ExN e C (some d))) d (.xd (fs.zip xs)))
structure ErrAt(P:Program)(w:World)(K:Frag)(mg:Str->Option Value)(base:Heap)(x:Str)(fs:List Str)(W C:Addr):Prop where
 c:SX.ExcC K W C
 m:mg x=some (.ref C)
 na:∀ f∈fs,PySem.W.findIn K (.ref C) f=some none
 i:∃ fI fdI,FnOk P w K mg base CX0 1 fI fdI ("self"::fs) (spI C fs)/\PySem.W.findIn K (.ref C) "__init__"=some (some (.ref fI))/\PySem.W.typeIn K (.ref fI)=some (.type "function")/\fQ K fdI ("self"::fs) []
theorem aFK{H:Hp}{a b:Addr}{o u:HO}(h:a≠b):upd (upd H a o) b u=upd (upd H b u) a o:=by
 funext c
 unfold upd
 by_cases h1:c=a
 · subst h1; rw [if_neg h, if_pos rfl, if_pos rfl]
 · rw [if_neg h1, if_neg h1]
theorem aC5{X:Cx}{E:XK}{fs:List Str}{W C:Addr}{x:Str}{np cpos pos:Pos}{e0:Expr}{rest:List Expr}{ta:TA}(hc:X.calm=true)(er:ErrAt X.prog X.w X.K X.mg X.base x fs W C)(hg:Gl X x)(hr:Room 2 X.A)(ha:PA (X.fly E) (e0::rest) ta)
  (hdb:(x == ("__debug__":Str))=false:=by decide) (he:starEach (e0::rest) X.env=(false,eval e0 X.env)::starEach rest X.env:=by rfl) (hpl:(backTo cpos (starEach rest X.env)).any (·.1)=false:=by rfl) :
  PS (X.fly E) (.Raise (some (.Call (.Name x np) (e0::rest) [] cpos)) none pos) (wX C (spI C fs) E ta):=by
 obtain ⟨fI,fdI,FI,hi,hf,hb⟩:=er.i
 exact rC hc er.c hg er.m FI hi hf hb hr ha hdb he hpl
theorem aBB{C:Addr}{fs:List Str}{vs:List V}{E:XK}{H1:Hp}(hl:vs.length=fs.length)(hz:vs.length<=1000)
  (h:∀ e d,H1 e=none->H1 d=none->d≠e->E (.ref C) (some e) (upd (upd H1 e (ExO e C (some d))) d (.xd (fs.zip vs)))) :
  vs.length<=1000/\∀ e,H1 e=none->spI C fs (.ref e::vs) (upd H1 e (ExN e C none)) (fun v H2=>v=.non/\∃ od,H2 e=some (ExN e C od)/\E (.ref C) (some e) (upd H2 e (ExO e C od))) E0:=by
 refine ⟨hz,fun e he=>⟨e,vs,rfl,hl,aL,fun d hd hde=>⟨rfl,some d,?_,?_⟩⟩⟩
 ·rw[aD (Ne.symm hde),aL]
 ·have hd':H1 d=none:=by rw[aD hde] at hd;exact hd
  have:=h e d he hd' hde
  rw[kN,aFK (a:=d) (b:=e) hde,kN]
  exact this
theorem DatV.tup_of{K:Frag}{H:Hp}{v:V}{ds:List PyData}(h:DatV K H v (.tuple ds)):∃ a xs,v=.ref a/\SqT K H a xs/\DatVs K H xs ds:=by
 cases h with
 | tup h1 h2=>exact ⟨_,_,rfl,h1,h2⟩
theorem DatV.lst_of{K:Frag}{H:Hp}{v:V}{ds:List PyData}(h:DatV K H v (.list ds)):∃ a xs,v=.ref a/\SqL K H a xs/\DatVs K H xs ds:=by
 cases h with
 | lst h1 h2=>exact ⟨_,_,rfl,h1,h2⟩
theorem DatV.int_of{K:Frag}{H:Hp}{v:V}{i:Int}(h:DatV K H v (.int i)):v=.int i:=by cases h;rfl
theorem DatV.str_of{K:Frag}{H:Hp}{v:V}{i:Str}(h:DatV K H v (.str i)):v=.str i:=by cases h;rfl
theorem DatVs.cons_of{K:Frag}{H:Hp}{xs:List V}{d:PyData}{ds:List PyData}(h:DatVs K H xs (d::ds)):∃ x t,xs=x::t/\DatV K H x d/\DatVs K H t ds:=by
 cases h with
 | cons h1 h2=>exact ⟨_,_,rfl,h1,h2⟩
theorem DatVs.nil_of{K:Frag}{H:Hp}{xs:List V}(h:DatVs K H xs []):xs=[]:=by cases h;rfl
theorem c7.nil:c7 [] []:=⟨rfl,fun _ _ h=>by simp at h⟩
theorem c7.own{τ ρ:St}{u:Option V}(h:c7 τ ρ):c7 (none::τ) (u::ρ):=⟨by simp[h.1],fun i v e=>by
 cases i with
 | zero=>simp at e
 | succ i=>simpa using h.2 i v (by simpa using e)⟩
theorem c7.nil_of{σ:St}(h:c7 [] σ):σ=[]:=List.length_eq_zero_iff.mp h.1
def SqS(K:Frag)(H:Hp)(a:Addr)(xs:List V):Prop:=SqL K H a xs\/SqT K H a xs
theorem SqS.same{K:Frag}{H H':Hp}{a:Addr}{xs:List V}(e:aF H H')(h:SqS K H a xs):SqS K H' a xs:=h.imp (SqL.same e) (SqT.same e)
theorem PI.or{X:Cx}{tg iter:Expr}{w1 w2:TI}(h1:PI X tg iter w1)(h2:PI X tg iter w2):PI X tg iter (fun σ H R=>w1 σ H R\/w2 σ H R):=fun pins s σ H R I h=>h.elim (h1 pins s σ H R I) (h2 pins s σ H R I)
def aO7(K:Frag)(tl:TE):TI:=fun σ H R=>tl σ H fun x H1=>∃ a,x=.ref a/\(((∃ xs,SqL K H1 a xs)/\R (Itl K a) H1)\/((∃ xs,SqT K H1 a xs)/\R (Itt K a) H1))
theorem aC6{X:Cx}{tg l:Expr}{tl:TE}(hl:PE X l tl):PI X tg l (aO7 X.K tl):=by
 intro pins s σ H R I h
 refine thn (hl pins s σ H _ I h) fun v s1 zz0=>?_
 obtain ⟨x,H1,I1,r1,q1⟩:=zz0
 obtain ⟨a,e,q⟩:=q1
 subst e
 cases r1
 rcases q with ⟨⟨xs,hq⟩,q⟩|⟨⟨xs,hq⟩,q⟩
 ·obtain ⟨its,rv,p,hz⟩:=I1.list hq
  refine wpAny_pyIter_list p.isList ?_
  refine ⟨s1.heap.objs.size,[s1.heap.objs.size],_,_,H1,rfl,I1.kept (t':=s1.toks) fun b o e=>Heap.get?_push_of_some _ e,aCM a _,⟨_,Heap.get?_push_size _ rfl,rfl,rfl⟩,fun b hb=>?_,q⟩
  obtain rfl:=List.mem_singleton.mp hb
  exact I1.fpOk (Nat.le_refl _) (I1.hok.fresh (Nat.le_refl _))
 ·obtain ⟨its,rv,p,hz⟩:=I1.tuple hq
  refine wpAny_pyIter_tuple (show s1.heap.IsTuple a its.toArray from p) ?_
  refine ⟨s1.heap.objs.size,[s1.heap.objs.size],_,_,H1,rfl,I1.kept (t':=s1.toks) fun b o e=>Heap.get?_push_of_some _ e,aAW a _,⟨_,Heap.get?_push_size _ rfl,rfl,rfl⟩,fun b hb=>?_,q⟩
  obtain rfl:=List.mem_singleton.mp hb
  exact I1.fpOk (Nat.le_refl _) (I1.hok.fresh (Nat.le_refl _))
end L2
namespace L2
open PySem PySem.Spec PyProof.Rows
def aNZ(i j:Int):Prop:=0 < j/\j < 2 ^ 64
theorem aFL{X:Cx}:OpR X (binaryOp .FloorDiv) (rI aNZ fun i j=>.int (i / j)):=opI fun i j _ _ _ _ _ hc q=>by
 have h1:(0:Int) < j:=hc.1
 have h2:j < 2 ^ 64:=hc.2
 have h3:j.natAbs < 2 ^ 64:=by omega
 have h4:j.natAbs.log2 < 64:=(Nat.log2_lt (by omega)).mpr h3
 exact floordiv_int (by omega) (by rw[Int.fdiv_eq_ediv_of_nonneg i (by omega)];exact q) (.inl (PyProof.noPylong_of_log2 (by omega)))
theorem lR{X:Cx}{P:Program}{w:World}:oP (CXe P w) X E0:=by
 rintro pins σ H s ev s' I ⟨e,C,od,H',rfl,os,bare,un,hok,he,hv,q⟩
 exact q.elim
section
variable{X:Cx}
def aO8:V->Option Int->Option Int->Hp->VK->Prop:=fun x lo hi H Q=>∃ z,x=.str z/\z.length<=sizeLine/\Q (.str (Txt.slice z lo hi)) H
theorem zQ{v:Value}{o:Option Int}(h:IsPart v o):∃ l:Option (Int×Tok),partValue l=v/\l.map (·.1)=o:=by
 cases h with
 | none=>exact ⟨none,rfl,rfl⟩
 | int i t=>exact ⟨some (i,t),rfl,rfl⟩
theorem aLR:SlR X aO8:=by
 intro pins s σ H x v vl vu lo hi sl Q I rx hs pl pu h
 obtain ⟨z,rfl,hz,q⟩:=h
 obtain ⟨t,rfl⟩:=rx
 obtain ⟨l,rfl,el⟩:=zQ pl
 obtain ⟨u,rfl,eu⟩:=zQ pu
 obtain ⟨o,ho,hc,hd⟩:=hs
 refine ⟨"str",_,PyProof.Rows.slot_str_getitem.lookup,rfl,?_⟩
 refine wpAny_getItem_str_slice (l:=l) (u:=u) (st:=none) ⟨o,ho,hc,hd⟩ rfl ?_
 have le:=Txt.slice_le z lo hi
 unfold Txt.slice at q le
 unfold sliceMade slicePicked
 rw[el,eu]
 simp only[beq_self_eq_true,Bool.true_and,Option.map_none,Option.getD_none] at q le ⊢
 by_cases hb:((Builtin.Str.strSliceIndices lo hi 1 z.length).length == z.length)=true
 ·rw[if_pos hb] at q ⊢
  exact ⟨.str z,H,I,⟨t,rfl⟩,q⟩
 ·rw[if_neg hb] at q le ⊢
  exact ⟨Nat.le_trans le hz,.str _,H,I.tok _,⟨_,rfl⟩,q⟩
def aC7:V->List V->Hp->VK->Prop:=fun x vs H Q=>∃ z y i rest,x=.str z/\vs=[.str y]/\Builtin.Str.occurrences z y 0 z.length 1=i::rest/\Q (.int i) H
theorem wY:MtR X "str.index" aC7:=by
 intro pins s σ H x vs v us Q I rx rv h
 obtain ⟨z,y,i,rest,rfl,rfl,ho,q⟩:=h
 obtain ⟨t,rfl⟩:=rx
 obtain ⟨u,rfl,tu,rfl⟩:=rv.one
 exact call_gives F.slot_str_index rfl F.entry_str_index (F.args_str_index_2 _ _) (gives_str_index z y t tu i rest ho) ⟨.int i,H,I.tok _,⟨_,rfl⟩,q⟩
def Ity(z:Str):It:=
 ⟨fun i _=>i < z.cps.size,fun i H x H'=>∃ p c,H p=none/\x=.ref p/\H'=upd H p (.tup [.int i,.str ⟨#[c]⟩])/\z.cps[i]? = some c,fun i _=>i=z.cps.size⟩
theorem aBC{P:Program}{w:World}{K:Frag}{es:List Expr}{k1}{tpos:Pos}(z:Str)(t:Tok)(T:String)(hT:∀ A:Around,A.handled=none->∀ it,Draws P w A it [it] z.cps.size (fun i v=>∃ c u,z.cps[i]? = some c/\v=Value.str {cps:=#[c]} u) fun i h=>h.IsStrIter it T z t i)
  (e it:Addr) (hei:e≠it):Turn P w K (.Tuple es k1 tpos) (Ity z) [e,it] e (fun i h=>(∃ old,IsEnum h e it i old)/\h.IsStrIter it T z t i) where
 mem:=by simp
 obj:=fun i h st b hb=>by
  obtain ⟨⟨old,s1⟩,o,e2,c,d⟩:=st
  rcases List.mem_cons.mp hb with z|z
  ·subst z
   exact ⟨_,s1,fun v z=>by
    have z':Data.fields _=Data.cell v:=z
    cases z'⟩
  ·obtain rfl:b=it:=by simpa using z
   exact ⟨o,e2,fun v z=>by rw[d] at z;cases z⟩
 keep:=fun i h h' st k=>by
  obtain ⟨⟨old,s1⟩,o,e2,c,d⟩:=st
  exact ⟨⟨old,k e (by simp) _ s1⟩,o,k it (by simp) o e2,c,d⟩
 item:=by
  intro X hP hw hK hc i pins s σ H E I hf st hg
  subst hP hw hK
  obtain ⟨⟨old,s1⟩,s2⟩:=st
  obtain ⟨f0,f1,f2,f3,f4,f5⟩:=hf e (by simp)
  obtain ⟨g0,g1,g2,g3,g4,g5⟩:=hf it (by simp)
  refine wpAny_pyNext_enum_itemD (hT X.A.in1 (I.ok.hd hc) it) s1 s2 hg hei (by simpa using hei) fun u h' tk zz0 so si st hz' kp=>?_
  obtain ⟨c,tc,hcc,hu⟩:=zz0
  subst hu
  refine ⟨_,rfl,wpAny_letOwnedTupleGo_enum so fun h2 se sb=>?_⟩
  have ne1:s.heap.objs.size≠e:=Nat.ne_of_gt (Heap.lt_size s1)
  have hT2:h2.get? s.heap.objs.size=some {cls:=.type "tuple",data:=.seq #[.int i tk,.str ⟨#[c]⟩ tc]}:=(sb.2 _ ne1).trans st
  have fT:H s.heap.objs.size=none:=I.hok.fresh (Nat.le_refl _)
  have kp2:∀ b o,b≠e->b≠it->s.heap.get? b=some o->h2.get? b=some o:=fun b o h1 h2' q=>(sb.2 b h1).trans (kp b o h1 h2' q)
  have hok2:HOk X.prog X.w H h2:=fun b uu q=>by
   refine (I.hok b uu q).stay (fun c v hc q'=>kp2 c v ?_ ?_ q') (fun _ q=>q) (fun _ _ q=>q) fun _ _ q=>q
   ·rcases hc with z|z
    ·rw[z];exact fun zz=>by rw[zz,f0] at q;cases q
    ·exact fun zz=>by rw[zz,f0] at z;cases z
   ·rcases hc with z|z
    ·rw[z];exact fun zz=>by rw[zz,g0] at q;cases q
    ·exact fun zz=>by rw[zz,g0] at z;cases z
  have hokT:HOk X.prog X.w (upd H s.heap.objs.size (.tup [.int i,.str ⟨#[c]⟩])) h2:=HOk.track hok2 fT ⟨by show 2<=sizeLine;decide,[.int i tk,.str ⟨#[c]⟩ tc],.cons ⟨_,rfl⟩ (.cons ⟨_,rfl⟩ .nil),⟨_,hT2,⟨rfl,rfl⟩,_,rfl⟩⟩
  have ltT:∀ b uu,H b=some uu->b≠s.heap.objs.size:=fun b uu q=>bB q fT
  have I2:Inv X pins σ (upd H s.heap.objs.size (.tup [.int i,.str ⟨#[c]⟩])) {s with heap:=h2,gens:=s.gens,drawn:=s.drawn,toks:=tk+1}:=by
   refine I.step (ch:=[e,it]) (fun b hb=>?_) (fun b o _ _ hc q _=>kp2 b o (fun z=>hc (by simp[z])) (fun z=>hc (by simp[z])) q) (fun b o _ _ hc q _=>⟨o.slots,kp2 b o (fun z=>hc (by simp[z])) (fun z=>hc (by simp[z])) q⟩)
    (fun b o _ q n=>by rw[aD (Nat.ne_of_lt (Heap.lt_size q))];exact n) (fun b o hc q=>⟨o,kp2 b o (fun z=>hc (by simp[z])) (fun z=>hc (by simp[z])) q⟩) (fun b ys q=>by rw[aD (ltT b _ q)];exact q) (fun b o uu q=>by rw[aD (ltT b _ q)];exact q)
    (fun b ps q=>by rw[aD (ltT b _ q)];exact q) (fun m hm=>?_) hokT I.bare
   ·rcases List.mem_cons.mp hb with z|z
    ·subst z;exact ⟨f3,f1,f4,f5⟩
    ·obtain rfl:b=it:=by simpa using z
     exact ⟨g3,g1,g4,g5⟩
   ·obtain ⟨o,es',ep,ho,r⟩:=hm
    exact ⟨o,es',ep,kp2 _ o (Ne.symm f1) (Ne.symm g1) ho,r⟩
  refine ⟨.ref s.heap.objs.size,_,I2,rfl,⟨_,c,fT,rfl,rfl,hcc⟩,⟨⟨_,by simpa using se⟩,?_⟩,fun b hb=>?_⟩
  ·obtain ⟨o,q1,q2,q3⟩:=si
   exact ⟨o,(sb.2 it hei.symm).trans q1,q2,q3⟩
  ·rcases List.mem_cons.mp hb with z|z
   ·subst z;rw[aD (Ne.symm ne1)];exact f0
   ·obtain rfl:b=it:=by simpa using z
    obtain ⟨o,q,_⟩:=s2
    rw[aD (Nat.ne_of_lt (Heap.lt_size q))];exact g0
 done:=by
  intro X hP hw hK hc i pins s σ H E I hf st hg
  subst hP hw hK
  obtain ⟨⟨old,s1⟩,s2⟩:=st
  obtain ⟨g0,g1,g2,g3,g4,g5⟩:=hf it (by simp)
  have hg:i=z.cps.size:=hg
  subst hg
  exact wpAny_pyNext_enum_endD (hT X.A.in1 (I.ok.hd hc) it) s1 s2 fun h' eb=>⟨rfl,I.turned (t':=s.toks) (fun b o hb q=>eb b o hb q) g0 g1 g3 g4 g5⟩
 self:=fun _ _ _ _ _ st h=>wpAny_pyIter_enum st.1.choose_spec h
def aC8(ta:TA):TI:=fun σ H R=>ta σ H fun vs H1=>∃ z,vs=[.str z]/\R (Ity z) H1
theorem aFM{es:List Expr}{k1}{tpos:Pos}{a:Expr}{ta:TA}{p pos:Pos}(hg:Gl X "enumerate")(hm:X.mg "enumerate"=none)(ha:PA X [a] ta)(hs:starEach [a] X.env=[(false,eval a X.env)]:=by rfl) :
  PI X (.Tuple es k1 tpos) (.Call (.Name "enumerate" p) [a] [] pos) (aC8 ta):=by
 intro pins s σ H R I h
 refine Call_ (kW I hg hm PyProof.Rows.boot_enumerate (PyProof.Rows.callWith_type1 (thn (ha pos pins s σ H _ I h) fun us s1 zz0=>?_) hs rfl))
 obtain ⟨vs,H1,I1,r1,q1⟩:=zz0
 obtain ⟨z,e,q⟩:=q1
 subst e
 obtain ⟨u,rfl,t,rfl⟩:=iB r1
 have hT:∀ A:Around,A.handled=none->∀ it,Draws X.prog X.w A it [it] z.cps.size (fun i v=>∃ c u,z.cps[i]? = some c/\v=Value.str {cps:=#[c]} u) fun i h=>h.IsStrIter it (strIterType z) z t i:=fun A hA it=>by
  unfold strIterType
  split
  · exact Draws.strAscii hA it z t
  · exact Draws.strWide hA it z t
 refine call_enumerate_str fun h' se si hz' kp=>?_
 have I2:Inv X pins σ H1 {s1 with heap:=h'}:=I1.kept (t':=s1.toks) kp
 refine wpAny_pyIter_enum se ?_
 refine ⟨s1.heap.objs.size+1,[s1.heap.objs.size+1,s1.heap.objs.size],_,_,H1,rfl,I2,aBC z t _ hT _ _ (Nat.ne_of_gt (Nat.lt_succ_self _)),⟨⟨_,se⟩,si⟩,fun b hb=>?_,q⟩
 rcases List.mem_cons.mp hb with z|z
 ·subst z
  exact I1.fpOk (Nat.le_succ _) (I1.hok.fresh (Nat.le_succ _))
 ·obtain rfl:b=s1.heap.objs.size:=by simpa using z
  exact I1.fpOk (Nat.le_refl _) (I1.hok.fresh (Nat.le_refl _))
end
theorem wZ{X:Cx}:gA X (.builtin "isinstance") (fun xs H Q=>∃ a ys c cv b,xs=[.ref a,c]/\SqT X.K H a ys/\aBA c=some cv/\PySem.W.kitOne X.K (.type "tuple") cv=some b/\Q (.bl b) H):=by
 intro pins s σ H xs us Q I r h
 obtain ⟨a,ys,c,cv,b,rfl,ha,hc,e,q⟩:=h
 obtain ⟨u,v,rfl,ru,rv⟩:=aA1 r
 obtain rfl:=tT hc rv
 cases (show u=Value.ref a from ru)
 obtain ⟨its,_,⟨o,h1,h2,_⟩,_⟩:=I.tuple ha
 exact PySem.W.kia_one PySem.W.kitx_tuple I.kIn ⟨o,h1,h2⟩ e (fun z=>nomatch z) fun tk=>⟨.bl b,H,I.tok _,rfl,q⟩
structure RoomH(k:Nat)(A:Around):Prop where
 dp:A.depth+3 * k+5 < recursionLimit
 un:A.units+16 * k+200 < cLine
theorem Room.h{k:Nat}{A:Around}(r:Room k A):RoomH k A:=⟨r.dp,r.un⟩
structure FnOkH(P:Program)(w:World)(K:Frag)(mg:Str->Option Value)(base:Heap)(k:Nat)(f:Addr)(fd:FuncData)(ps:List Str)(sp:Sp):Prop where
 len:∀ vs H Q E,sp vs H Q E->vs.length=ps.length
 run:∀ (A:Around) (outer:List Env) (s:Shared) (H:Hp) (args:Args) (us:List Value) (vs:List V) (Q:VK),RoomH k A->Env0 P w K mg base A outer s H->BindsTo s fd args (ps.zip us)->bA vs us->sp vs H Q E0->
  codeAny (model P w) A (.call (.ref f) args) (CR CX0 outer P w H s Q E0) s
theorem FnOkH.ok{P:Program}{w:World}{K:Frag}{mg:Str->Option Value}{base:Heap}{k:Nat}{f:Addr}{fd:FuncData}{ps:List Str}{sp:Sp}(F:FnOkH P w K mg base k f fd ps sp)(hE:∀ vs H Q E,sp vs H Q E->sp vs H Q E0):FnOk P w K mg base CX0 k f fd ps sp:=
 ⟨F.len,fun A outer s H args us vs Q E hr he hb hv hs=>codeAny_mono (F.run A outer s H args us vs Q hr.h he hb hv (hE _ _ _ _ hs)) fun r s' h=>by
  cases r with
  | error e=>exact h
  | ok fl=>cases fl<;>exact h⟩
end L2
namespace Mc
open PySem L2 PyProof.Rows
inductive Tn where
 | n (i:Int)|w (x:Str)
noncomputable def Tn.v:Tn->V
 | .n i=>.int i
 | .w x=>.str x
noncomputable def Tn.d:Tn->PyData
 | .n i=>.int i
 | .w x=>.str x
structure Rw where
 l:Tn
 c:List (Int×Int)
 r:Tn
def d6(c:Int×Int):PyData:=.tuple [.int c.1,.int c.2]
def eB(r:Rw):PyData:=.tuple [r.l.d,.tuple (r.c.map d6),r.r.d]
def bE(rs:List Rw):PyData:=.tuple (rs.map eB)
inductive CellsAt(K:Frag)(H:Hp):List V->List (Int×Int)->Prop
 | nil:CellsAt K H [] []
 | cons {q:Addr} {a b:Int} {xs:List V} {cs:List (Int×Int)} (h:SqS K H q [.int a,.int b]) (t:CellsAt K H xs cs):CellsAt K H (.ref q::xs) ((a,b)::cs)
def v6(K:Frag)(H:Hp)(v:V)(r:Rw):Prop:=∃ p b cs,v=.ref p/\SqS K H p [r.l.v,.ref b,r.r.v]/\SqS K H b cs/\CellsAt K H cs r.c
inductive RowsAt(K:Frag)(H:Hp):List V->List Rw->Prop
 | nil:RowsAt K H [] []
 | cons {v:V} {r:Rw} {xs:List V} {rs:List Rw} (h:v6 K H v r) (t:RowsAt K H xs rs):RowsAt K H (v::xs) (r::rs)
section
variable{K:Frag}{H H':Hp}
theorem CellsAt.same(e:aF H H'):∀ {xs:List V} {cs:List (Int×Int)},CellsAt K H xs cs->CellsAt K H' xs cs
 | _,_,.nil=>.nil
 | _,_,.cons h t=>.cons (h.same e) (t.same e)
theorem CellsAt.len:∀ {xs:List V} {cs:List (Int×Int)},CellsAt K H xs cs->xs.length=cs.length
 | _,_,.nil=>rfl
 | _,_,.cons h t=>by simp[t.len]
theorem v6.same(e:aF H H'){v:V}{r:Rw}(h:v6 K H v r):v6 K H' v r:=by
 obtain ⟨p,b,cs,h1,h2,h3,h4⟩:=h
 exact ⟨p,b,cs,h1,h2.same e,h3.same e,h4.same e⟩
theorem RowsAt.same(e:aF H H'):∀ {xs:List V} {rs:List Rw},RowsAt K H xs rs->RowsAt K H' xs rs
 | _,_,.nil=>.nil
 | _,_,.cons h t=>.cons (h.same e) (t.same e)
theorem RowsAt.len:∀ {xs:List V} {rs:List Rw},RowsAt K H xs rs->xs.length=rs.length
 | _,_,.nil=>rfl
 | _,_,.cons h t=>by simp[t.len]
end
theorem qO:∀ {xs:List PyData},(∀ x∈xs,x.eqv x=true)->PyData.eqvAll xs xs=true
 | [],_=>by rw[PyData.eqvAll.eq_1]
 | x::t,h=>by rw[PyData.eqvAll.eq_2,h x (List.mem_cons_self ..),qO fun y hy=>h y (List.mem_cons_of_mem _ hy)];rfl
theorem pV{xs:List PyData}(h:∀ x∈xs,x.eqv x=true):(PyData.tuple xs).eqv (.tuple xs)=true:=by
 show PyData.eqvAll xs xs=true
 exact qO h
theorem zR(i:Int):(PyData.int i).eqv (.int i)=true:=by rw[PyData.eqv.eq_5];simp
theorem aFN(c:Int×Int):(d6 c).eqv (d6 c)=true:=pV fun x hx=>by
 rcases List.mem_cons.mp hx with z|z
 · rw [z]; exact zR _
 · rw [List.mem_singleton.mp z]; exact zR _
noncomputable def Tn.ok:Tn->Prop
 | .n _=>True
 | .w x=>PyData.strOk x=true
def Rw.ok(r:Rw):Prop:=r.l.ok/\r.r.ok
theorem tU:∀ {xs:List PyData},(∀ x∈xs,x.canLay0=true)->PyData.canLayAll0 xs=true
 | [],_=>by rfl
 | x::t,h=>by
  show (x.canLay0 && PyData.canLayAll0 t)=true
  rw[h x (List.mem_cons_self ..),tU fun y hy=>h y (List.mem_cons_of_mem _ hy)];rfl
theorem oR{n:Nat}:∀ {xs:List PyData},(∀ x∈xs,x.depth<=n)->PyData.depthAll xs<=n
 | [],_=>Nat.zero_le _
 | x::t,h=>by
  show max x.depth (PyData.depthAll t)<=n
  exact Nat.max_le.mpr ⟨h x (List.mem_cons_self ..),oR fun y hy=>h y (List.mem_cons_of_mem _ hy)⟩
def Sh(n:Nat)(d:PyData):Prop:=d.canLay0=true/\d.depth<=n
theorem j5{n:Nat}{xs:List PyData}(h:∀ x∈xs,Sh n x):Sh (n+1) (.tuple xs):=⟨tU fun x hx=>(h x hx).1,by
 have:=oR fun x hx=>(h x hx).2
 show PyData.depthAll xs+1<=n+1
 omega⟩
theorem sh_lst{n:Nat}{xs:List PyData}(h:∀ x∈xs,Sh n x):Sh (n+1) (.list xs):=⟨tU fun x hx=>(h x hx).1,by
 have:=oR fun x hx=>(h x hx).2
 show PyData.depthAll xs+1<=n+1
 omega⟩
theorem oS(n:Nat)(i:Int):Sh n (.int i):=⟨rfl,Nat.zero_le _⟩
theorem Sh.shaped{n:Nat}{d:PyData}(h:Sh n d)(hn:n<=64):SeqAt.shaped d=true:=by
 show (d.canLay0 && decide (d.depth<=64))=true
 rw[h.1,decide_eq_true (Nat.le_trans h.2 hn)];rfl
section
variable{K:Frag}{H:Hp}{p q:Addr}{xs ys:List V}{o:HO}
inductive NoL:PyData->Prop where
 | int (i:Int):NoL (.int i)
 | str (i:Str):NoL (.str i)
 | tup {ds:List PyData} (h:∀ d∈ds,NoL d):NoL (.tuple ds)
end
section
variable{K:Frag}{H:Hp}
theorem cells_of:∀ {xs:List V} {cs:List (Int×Int)},DatVs K H xs (cs.map d6)->CellsAt K H xs cs
 | xs,[],h=>by obtain rfl:=h.nil_of;exact .nil
 | xs,c::cs,h=>by
  obtain ⟨x,t,rfl,h1,h2⟩:=h.cons_of
  obtain ⟨a,ys,rfl,h3,h4⟩:=h1.tup_of
  obtain ⟨y0,t0,rfl,h5,h6⟩:=h4.cons_of
  obtain ⟨y1,t1,rfl,h7,h8⟩:=h6.cons_of
  obtain rfl:=h8.nil_of
  obtain rfl:=h5.int_of
  obtain rfl:=h7.int_of
  exact .cons (.inr h3) (cells_of h2)
end
section
variable{K:Frag}{h:Heap}{mg:Str->Option Value}
theorem bX{x:Str}{st:Stmt}{ps:List Str}{f:Addr}{oc:Value}{od an:Option Addr}{osl:Array (Option Value)}{kV doc pm cdv ct:Value}(X:K.In h)(G:h.Ns mainGlobals mg)
  (a:PySem.W.nsIn K mainGlobals x=some (some (.ref f))) (l:K.lookup f=some ⟨oc,od,.func (PySem.W.fnOf x x (fY st) (dN st) (aQ st) .none kV doc pm an cdv ct),osl⟩)
  (c:PySem.W.codeIn K cdv x=true) (k:PySem.W.keepIn K (.ref f)=true)
  (b:∀ (kV doc pm:Value) (an:Option Addr) (cdv ct:Value) (us:List Value),us.length=ps.length->bindArgs (PySem.W.fnOf x x (fY st) (dN st) (aQ st) .none kV doc pm an cdv ct) ⟨us,[]⟩=pure (ps.zip us)):DefAt K mg x st ps:=by
 have F:=wP (st:=st) l c k
 exact ⟨f,_,F,F.binds b,PySem.W.mg_of X G a⟩
end
section
variable{K:Frag}{h:Heap}{mg:Str->Option Value}
theorem zS{W C N:Addr}{bs sub:List Value}{nm q:Str}{ab:Bool}{sn:List Str}{col:Option Bool}{dd:Option Addr}{k0 k1 k2 k3 k5:Option Value}(l:K.lookup C=some (excClassObj nm q C N bs (.ref W::SX.fR) true sn sub ab col dd k0 k1 k2 k3 k5 "ValueError.__new__"))
 (sa:PySem.W.findIn K (.ref C) "__setattr__"=some (some (.builtin "object.__setattr__"))) (ga:PySem.W.findIn K (.ref C) "__getattribute__"=some (some (.builtin "BaseException.__getattribute__"))) (gh:PySem.W.findIn K (.ref C) "__getattr__"=some none) (cl:PySem.W.findIn K (.ref C) "__class__"=some (some (.builtin "object.__class__")))
 (clg:PySem.W.specialIn K (.builtin "object.__class__") "__get__"=some (some (.builtin "getset_descriptor.__get__"))) (clt:PySem.W.takesIn K (.builtin "object.__class__")=some true) (kp:PySem.W.keepIn K (.ref C)=true):SX.ExcC K W C:=⟨⟨_,_,_,_,_,_,_,_,_,_,_,_,_,_,l⟩,sa,ga,gh,cl,clg,clt,kp⟩
end
end Mc
namespace Mc
open PySem L2 PyProof.Rows
noncomputable def cN(n c:Nat):Bool:=decide (97<=c/\c < 97+n)
noncomputable def jU(n:Nat):Nat->List Nat->Option Nat
 | _,[]=>none
 | i,c::t=>if cN n c=true then jU n (i+1) t else some i
theorem sH(n i c:Nat)(t:List Nat):jU n i (c::t)=if cN n c=true then jU n (i+1) t else some i:=rfl
theorem occ_one(x:Str)(c:Nat):(Builtin.Str.occurrences x ⟨#[c]⟩ 0 x.length 1=[]/\∀ i:Nat,x.cps.toList[i]? ≠ some c)\/∃ (i:Nat) (r:List Nat),Builtin.Str.occurrences x ⟨#[c]⟩ 0 x.length 1=i::r/\x.cps.toList[i]? = some c/\∀ k:Nat,k < i->x.cps.toList[k]? ≠ some c:=by
 rcases StrLaws.occ_head x ⟨#[c]⟩ 1 (Nat.le_refl _) with ⟨h1,h2⟩|⟨i,r,h1,h2,h3⟩
 · exact .inl ⟨h1, fun i e => h2 i ((StrLaws.subAt_one x c i).mpr e)⟩
 · exact .inr ⟨i, r, h1, (StrLaws.subAt_one x c i).mp h2, fun k hk e => h3 k hk ((StrLaws.subAt_one x c k).mpr e)⟩
theorem zT{n:Nat}(h1:1<=n)(h2:n<=3):(Txt.slice "abc" none (some (n:Int))).cps.toList=[97,98,99].take n:=by
 obtain rfl|rfl|rfl:n=1\/n=2\/n=3:=by omega
 all_goals decide +kernel
theorem lS{n c:Nat}(h1:1<=n)(h2:n<=3):cN n c=true↔∃ i:Nat,(([97,98,99]:List Nat).take n)[i]? = some c:=by
 unfold cN
 rw[decide_eq_true_iff]
 constructor
 ·intro h
  refine ⟨c - 97,?_⟩
  obtain rfl|rfl|rfl:n=1\/n=2\/n=3:=by omega
  ·obtain rfl:c=97:=by omega
   rfl
  ·obtain rfl|rfl:c=97\/c=98:=by omega
   all_goals rfl
  ·obtain rfl|rfl|rfl:c=97\/c=98\/c=99:=by omega
   all_goals rfl
 ·rintro ⟨i,e⟩
  obtain ⟨hi,he⟩:=List.getElem?_eq_some_iff.mp e
  have hm:=List.getElem_mem hi
  rw[he] at hm
  obtain rfl|rfl|rfl:n=1\/n=2\/n=3:=by omega
  all_goals
   simp at hm
   omega
theorem aFO{n c:Nat}(h1:1<=n)(h2:n<=3):(!(!(Builtin.Str.occurrences (Txt.slice "abc" none (some (n:Int))) ⟨#[c]⟩ 0 (Txt.slice "abc" none (some (n:Int))).length 1).isEmpty)) = !cN n c:=by
 have e:=zT h1 h2
 rcases occ_one (Txt.slice "abc" none (some (n:Int))) c with ⟨a,b⟩|⟨i,r,a,b,_⟩
 ·rw[a]
  have:cN n c=false:=Bool.eq_false_iff.mpr fun z=>by
   obtain ⟨i,hi⟩:=(lS h1 h2).mp z
   rw[e] at b
   exact b i hi
  rw[this];rfl
 ·rw[a]
  rw[e] at b
  rw[(lS h1 h2).mpr ⟨i,b⟩];rfl
theorem aC9{c:Nat}(h:cN 3 c=true):∃ r,Builtin.Str.occurrences "abc" ⟨#[c]⟩ 0 ("abc":Str).length 1=(c - 97)::r:=by
 have h:=of_decide_eq_true h
 refine ⟨[],?_⟩
 obtain rfl|rfl|rfl:c=97\/c=98\/c=99:=by omega
 all_goals decide +kernel
def fH(s q:Int):PyData:=.tuple [.int s,.int q]
def nE(f a:List PyData):PyData:=.tuple [.tuple f,.tuple a]
def iN(d:PyData):Prop:=d=.none\/∃ s q,d=fH s q
def aDA(n:Nat):List PyData:=(List.range n).map fun i:Nat=>fH 1 (i:Int)
def aDB(n:Nat):List PyData:=(List.range n).map fun i:Nat=>fH (-1) (i:Int)
def v7(k:Nat)(rs:List Rw):List PyData:=rs.map fun r=>fH (r.c.getD k (0,0)).2 (r.c.getD k (0,0)).1
theorem aIM:(PyData.none).eqv .none=true:=by rfl
theorem uZ{d:PyData}(h:iN d):d.eqv d=true:=by
 rcases h with rfl|⟨s,q,rfl⟩
 · exact aIM
 · exact aFN (s, q)
theorem aIN{f a:List PyData}(hf:∀ d∈f,iN d)(ha:∀ d∈a,iN d):(nE f a).eqv (nE f a)=true:=pV fun x hx=>by
 rcases List.mem_cons.mp hx with z|hx
 · rw [z]; exact pV fun y hy => uZ (hf y hy)
 · rw [List.mem_singleton.mp hx]; exact pV fun y hy => uZ (ha y hy)
theorem w4(n:Nat){d:PyData}(h:iN d):Sh (n+1) d:=by
 rcases h with rfl|⟨s,q,rfl⟩
 ·exact ⟨rfl,Nat.zero_le _⟩
 ·refine j5 fun x hx=>?_
  rcases List.mem_cons.mp hx with z|z
  · rw [z]; exact oS _ _
  · rw [List.mem_singleton.mp z]; exact oS _ _
theorem aBD{f a:List PyData}(hf:∀ d∈f,iN d)(ha:∀ d∈a,iN d):SeqAt.shaped (nE f a)=true:=by
 refine Sh.shaped (n:=3) (j5 fun x hx=>?_) (by decide)
 rcases List.mem_cons.mp hx with z|hx
 · rw [z]; exact j5 fun y hy => w4 0 (hf y hy)
 · rw [List.mem_singleton.mp hx]; exact j5 fun y hy => w4 0 (ha y hy)
end Mc
namespace L2
open PySem PySem.Spec PyProof.Rows
section
variable{κ:Type}[DecidableEq κ]
theorem f6.getD{o:Option V}{u:Option Value}{d:V}{d':Value}(r:f6 o u)(rd:a9 d d'):a9 (o.getD d) (u.getD d'):=by
 cases o with
 | none=>cases u with
  | none=>exact rd
  | some _=>exact (show False from r).elim
 | some _=>cases u with
  | none=>exact (show False from r).elim
  | some _=>exact r
theorem KV.length{kvs:List (κ×V)}{vs:List (κ×Value)}(r:KV kvs vs):kvs.length=vs.length:=Paired.length r
end
theorem aHP{P:Program}{w:World}{k:Key}{u:Value}(r:a9 (kV k) u):(dE P w).is k u=true:=by
 cases k with
 | inl i=>obtain ⟨t,e⟩:=(show ∃ t,u=Value.int i t from r);subst e;exact y4 P w i t
 | inr x=>obtain ⟨t,e⟩:=(show ∃ t,u=Value.str x t from r);subst e;exact y6 P w x t
section
variable{X:Cx}{pins:List (Addr×Obj)}{σ:St}{H:Hp}{s:Shared}{a:Addr}{y v:V}{u r:Value}{o:Option V}{A:Around}{E:Value->Shared->Prop}
theorem Inv.big(I:Inv X pins σ H s):sysModules < s.heap.objs.size:=by
 have h:mainGlobals < s.heap.objs.size:=(I.mod.glob.keeps I.bk).lt
 exact Nat.lt_trans (by decide) h
theorem kQ{h':Heap}{t':Nat}{ob:HO}(I:Inv X pins σ H s)(mu:Mut (H a))(hs:Heap.SameBut a s.heap h')(he:∃ q,h'.get? a=some q)(new:b5 X.prog X.w (upd H a ob) h' a ob) :
  Inv X pins σ (upd H a ob) {s with heap:=h',toks:=t'}:=
 I.write (x:=a) (e:=a) mu (.inl rfl) (fun b q hb z=>(hs.2 b hb).trans z) he new
end
def aLS(i:Expr):Prop:=∀ ov iv,subscripted i false ov iv=operate [ov,iv] (getItem ov iv)
theorem aIO{prog:Program}{w:World}{A:Around}{E:Value->Shared->Prop}{s:Shared}{env:Env}{value slice:Expr}{pos:Pos}{T id:String}{Q:Value->Shared->Prop}
  (hl:typeLookup (.type T) "__getitem__"=pure (some (.builtin id))) (hs:aLS slice)
  (h:wpAny (model prog w) A (eval value env) (fun o s₁=>wpAny (model prog w) A (eval slice env) (fun i s₂=>s₂.TypeIs o T/\wpAny (model prog w) A (getItem o i) Q E s₂) E s₁) E s) :
  wpAny (model prog w) A (eval (.Subscript value slice pos) env) Q E s:=by
 refine Subscript_ (wpAny_mono h (fun o s₁ h₁=>wpAny_mono h₁ (fun i s₂ h₂=>?_) fun _ _ x=>x) fun _ _ x=>x)
 obtain ⟨hT,h₂⟩:=h₂
 unfold subscriptTail
 refine wpAny_bind ?_
 rw[getitemInPython_of_ne hT.not_modules]
 refine wpAny_bind (wpAny_specialOf hT hl ?_)
 have fin:wpAny (model prog w) A (subscripted slice false o i) (fun r s₃=>wpAny (model prog w) A (letTemporaryGo value o r >>= fun _=>pure r) Q E s₃) E s₂:=by
  rw[hs o i]
  exact wpAny_operating (wpAny_mono h₂ (fun r s₃ h₃=>wpAny_bind (wpAny_letTemporaryGo (wpAny_pure h₃))) fun _ _ x=>x)
 first
  | exact wpAny_pure (wpAny_bind fin)
  | exact wpAny_bind (wpAny_pure (wpAny_bind fin))
  | exact wpAny_bind fin
structure M1(X:Cx)(o:Expr)(m:Str)(apos:Pos)(e:Expr)(cpos:Pos):Prop where
 base:attributeBase o m X.env (eval o X.env)=eval o X.env
 few:((backTo cpos (starEach [e] X.env)).all (fun x=>!x.1) && (backToKw cpos (keywordEach [] X.env)).all (fun x=>x.1.isSome)
  && decide (([e]:List Expr).length+([]:List Keyword).length+(if ([]:List Keyword).isEmpty then 0 else 1) < 30))=true
 line:(apos.endLine == cpos.line)=true
 trees:backTo cpos (starEach [e] X.env)=[(false,eval e X.env)]
structure M2(X:Cx)(o:Expr)(m:Str)(apos:Pos)(e f:Expr)(cpos:Pos):Prop where
 base:attributeBase o m X.env (eval o X.env)=eval o X.env
 few:((backTo cpos (starEach [e,f] X.env)).all (fun x=>!x.1) && (backToKw cpos (keywordEach [] X.env)).all (fun x=>x.1.isSome)
  && decide (([e,f]:List Expr).length+([]:List Keyword).length+(if ([]:List Keyword).isEmpty then 0 else 1) < 30))=true
 line:(apos.endLine == cpos.line)=true
 trees:backTo cpos (starEach [e,f] X.env)=[(false,eval e X.env),(false,eval f X.env)]
end L2
namespace L2
open PySem PySem.Spec PyProof.Rows
end L2
namespace L2
open PySem PySem.Spec PyProof.Rows
theorem hu1{A:Around}{k:Nat}(hr:Room k A):A.units+1 < cLine:=Nat.lt_of_le_of_lt (Nat.add_le_add_left (by decide:1<=64) _) hr.units
def mO(K:Frag)(H:Hp)(ks:List (List Key×Addr)):Prop:=∀ p∈ks,SqT K H p.2 (p.1.map kV)
theorem mO.same{K:Frag}{H H':Hp}{ks:List (List Key×Addr)}(e:aF H H')(h:mO K H ks):mO K H' ks:=fun p hp=>SqT.same e (h p hp)
theorem SqT.ext{K:Frag}{H:Hp}{a q:Addr}{φ:Heap->Prop}{o:HO}{xs:List V}(h:SqT K H q xs)(ha:H a=some (.ext φ)):SqT K (upd H a o) q xs:=by
 rcases h with (h|⟨u,h⟩)|h
 ·refine .inl (.inl ?_)
  rw[aD (fun z=>by rw[z,ha] at h;cases h)];exact h
 ·refine .inl (.inr ⟨u,?_⟩)
  rw[aD (fun z=>by rw[z,ha] at h;cases h)];exact h
 ·exact .inr h
theorem SqL.ext{K:Frag}{H:Hp}{a q:Addr}{φ:Heap->Prop}{o:HO}{xs:List V}(h:SqL K H q xs)(ha:H a=some (.ext φ)):SqL K (upd H a o) q xs:=by
 rcases h with (h|⟨u,h⟩)|h
 ·refine .inl (.inl ?_)
  rw[aD (fun z=>by rw[z,ha] at h;cases h)];exact h
 ·refine .inl (.inr ⟨u,?_⟩)
  rw[aD (fun z=>by rw[z,ha] at h;cases h)];exact h
 ·exact .inr h
mutual
theorem DatV.ext{K:Frag}{H:Hp}{a:Addr}{φ:Heap->Prop}{o:HO}(ha:H a=some (.ext φ)):∀ {x:V} {d:PyData},DatV K H x d->DatV K (upd H a o) x d
 | _,_,.non=>.non
 | _,_,.bl b=>.bl b
 | _,_,.int i=>.int i
 | _,_,.str x=>.str x
 | _,_,.lst h ds=>.lst (h.ext ha) (DatVs.ext ha ds)
 | _,_,.tup h ds=>.tup (h.ext ha) (DatVs.ext ha ds)
 | _,_,.pl h=>.pl (by rw[aD (fun z=>by rw[z,ha] at h;cases h)];exact h)
theorem DatVs.ext{K:Frag}{H:Hp}{a:Addr}{φ:Heap->Prop}{o:HO}(ha:H a=some (.ext φ)):∀ {xs:List V} {ds:List PyData},DatVs K H xs ds->DatVs K (upd H a o) xs ds
 | _,_,.nil=>.nil
 | _,_,.cons h t=>.cons (DatV.ext ha h) (DatVs.ext ha t)
end
theorem mO.ext{K:Frag}{H:Hp}{a:Addr}{φ:Heap->Prop}{o:HO}{ks:List (List Key×Addr)}(h:mO K H ks)(ha:H a=some (.ext φ)):mO K (upd H a o) ks:=fun p hp=>SqT.ext (h p hp) ha
end L2
namespace Mc
open PySem L2 PyProof.Rows
def Tn.good(n:Int):Tn->Prop
 | .n i=>0<=i/\i < n
 | .w x=>x="by"\/x="out"
def kY(n:Int)(c:Int×Int):Prop:=0<=c.1/\c.1 < n/\(c.2=1\/c.2 = -1)
def Rw.good(n:Int)(r:Rw):Prop:=r.l.good n/\r.r.good n/\∀ c∈r.c,kY n c
theorem Tn.good.ok{n:Int}{t:Tn}(h:t.good n):t.ok:=by
 cases t with
 | n i=>trivial
 | w x=>
  rcases h with rfl|rfl
  · exact (show PyData.strOk _ = true by decide +kernel)
  · exact (show PyData.strOk _ = true by decide +kernel)
theorem Rw.good.ok{n:Int}{r:Rw}(h:r.good n):r.ok:=⟨h.1.ok,h.2.1.ok⟩
structure Mach(rs:List Rw)(sg:Nat):Prop where
 len:1<=rs.length
 len2:rs.length<=1000
 sg1:1<=sg
 sg3:sg<=3
 row:∀ r∈rs,r.good rs.length/\r.c.length=sg
def bC(sg:Nat)(z:List Nat):Prop:=z.length<=1000/\∀ c∈z,cN sg c=true
theorem w5{sg:Nat}:∀ {z:List Nat} {i:Nat},(∀ c∈z,cN sg c=true)->jU sg i z=none
 | [],_,_=>rfl
 | c::t,i,h=>by
  rw[sH,if_pos (h c (by simp))]
  exact w5 fun x hx=>h x (by simp[hx])
noncomputable def dL(rs:List Rw)(q:Int):Rw:=rs.getD q.toNat ⟨.n 0,[],.n 0⟩
noncomputable def oU(rs:List Rw)(z:List Nat)(st:Int×Int):Tn×Int:=
 if st.1=0 then ((dL rs st.2).l,1) else if st.1=(z.length:Int)+1 then ((dL rs st.2).r,-1) else
  (.n ((dL rs st.2).c.getD (z.getD (st.1.toNat - 1) 97 - 97) (0,0)).1,((dL rs st.2).c.getD (z.getD (st.1.toNat - 1) 97 - 97) (0,0)).2)
def aBE(rs:List Rw)(z:List Nat)(st:Int×Int):Option (Int×Int):=
 match (oU rs z st).1 with
 | .w _=>none
 | .n q=>some (st.1+(oU rs z st).2,q)
def pW(rs:List Rw)(z:List Nat)(st:Int×Int):Prop:=0<=st.1/\st.1<=(z.length:Int)+1/\0<=st.2/\st.2 < (rs.length:Int)
theorem oV{rs:List Rw}{q:Int}(h0:0<=q)(h1:q < rs.length):rs[q.toNat]? = some (dL rs q):=by
 have h:q.toNat < rs.length:=by omega
 unfold dL
 rw[List.getD_eq_getElem?_getD,List.getElem?_eq_getElem h];rfl
theorem zU{rs:List Rw}{sg:Nat}{z:List Nat}{st:Int×Int}(S:bC sg z)(V:pW rs z st)(h0:st.1≠0)(h1:st.1≠(z.length:Int)+1):∃ c,z[st.1.toNat - 1]? = some c/\cN sg c=true/\z.getD (st.1.toNat - 1) 97=c:=by
 obtain ⟨a,b,_,_⟩:=V
 have hl:st.1.toNat - 1 < z.length:=by omega
 refine ⟨z[st.1.toNat - 1],by simp[hl],S.2 _ (List.getElem_mem hl),by rw[List.getD_eq_getElem?_getD,List.getElem?_eq_getElem hl];rfl⟩
theorem aFP{rs:List Rw}{sg:Nat}{z:List Nat}{st:Int×Int}(M:Mach rs sg)(S:bC sg z)(V:pW rs z st)(h0:st.1≠0)(h1:st.1≠(z.length:Int)+1) :
  ∃ c,(dL rs st.2).c[z.getD (st.1.toNat - 1) 97 - 97]? = some c/\(dL rs st.2).c.getD (z.getD (st.1.toNat - 1) 97 - 97) (0,0)=c/\kY rs.length c:=by
 obtain ⟨c,_,hs,e⟩:=zU S V h0 h1
 rw[e]
 have hs:=of_decide_eq_true hs
 have hr:=M.row _ (List.mem_of_getElem? (oV V.2.2.1 V.2.2.2))
 have hl:c - 97 < (dL rs st.2).c.length:=by rw[hr.2];omega
 refine ⟨(dL rs st.2).c[c - 97],by simp[hl],by rw[List.getD_eq_getElem?_getD,List.getElem?_eq_getElem hl];rfl,hr.1.2.2 _ (List.getElem_mem hl)⟩
theorem oW:∀ (N:Nat) (l:List Nat),l.Nodup->(∀ x∈l,x < N)->l.length<=N
 | 0,l,_,h=>by
  cases l with
  | nil=>exact Nat.le_refl _
  | cons a t=>exact absurd (h a (by simp)) (by omega)
 | N+1,l,hn,h=>by
  have ih:=oW N (l.erase N) (hn.erase N) (fun x hx=>by
   have:=(hn.mem_erase_iff).mp hx
   have h2:=h x this.2
   omega)
  have:=List.length_erase (a:=N) (l:=l)
  split at this<;>omega
theorem sI{rs:List Rw}{z:List Nat}{l:List (Int×Int)}(hn:l.Nodup)(hv:∀ st∈l,pW rs z st):l.length<=(z.length+2) * rs.length:=by
 have h:=oW ((z.length+2) * rs.length) (l.map fun st=>st.1.toNat * rs.length+st.2.toNat) ?_ ?_
 ·rw[List.length_map] at h;exact h
 ·unfold List.Nodup
  rw[List.pairwise_map]
  refine List.Pairwise.imp_of_mem (fun {a b} ha hb hab e=>hab ?_) hn
  obtain ⟨a1,a2,a3,a4⟩:=hv a ha
  obtain ⟨b1,b2,b3,b4⟩:=hv b hb
  have hm:0 < rs.length:=by omega
  have e1:(a.1.toNat * rs.length+a.2.toNat) / rs.length=(b.1.toNat * rs.length+b.2.toNat) / rs.length:=by rw[e]
  have e2:(a.1.toNat * rs.length+a.2.toNat) % rs.length=(b.1.toNat * rs.length+b.2.toNat) % rs.length:=by rw[e]
  have ha2:a.2.toNat < rs.length:=by omega
  have hb2:b.2.toNat < rs.length:=by omega
  rw[Nat.mul_comm,Nat.mul_add_div hm,Nat.mul_comm b.1.toNat,Nat.mul_add_div hm,Nat.div_eq_of_lt ha2,Nat.div_eq_of_lt hb2] at e1
  rw[Nat.mul_comm,Nat.mul_add_mod,Nat.mul_comm b.1.toNat,Nat.mul_add_mod,Nat.mod_eq_of_lt ha2,Nat.mod_eq_of_lt hb2] at e2
  exact Prod.ext (by omega) (by omega)
 ·intro x hx
  obtain ⟨st,hst,rfl⟩:=List.mem_map.mp hx
  obtain ⟨a1,a2,a3,a4⟩:=hv st hst
  have h1:st.1.toNat+1<=z.length+2:=by omega
  have h2:st.2.toNat < rs.length:=by omega
  calc st.1.toNat * rs.length+st.2.toNat < st.1.toNat * rs.length+rs.length:=by omega
   _=(st.1.toNat+1) * rs.length:=by rw[Nat.add_mul];omega
   _<=(z.length+2) * rs.length:=Nat.mul_le_mul_right _ h1
noncomputable def aBF(rs:List Rw)(z:List Nat):Nat->List (Int×Int)->Int×Int->List (Int×Int)
 | 0,ps,st=>ps++[st]
 | k+1,ps,st=>if st∈ps then ps++[st] else match aBE rs z st with
  | none=>ps++[st]
  | some st'=>aBF rs z k (ps++[st]) st'
def aHQ(rs:List Rw)(z:List Nat):Nat:=(z.length+2) * rs.length
def aN0(rs:List Rw)(z:List Nat):List (Int×Int):=aBF rs z (aHQ rs z) [] (0,0)
structure Way(rs:List Rw)(z:List Nat)(ps:List (Int×Int))(st:Int×Int)(k:Nat):Prop where
 nd:ps.Nodup
 val:∀ s∈ps++[st],pW rs z s
 num:ps.length+k=aHQ rs z
 res:aBF rs z k ps st=aN0 rs z
end Mc
namespace Mc
open PySem L2 PyProof.Rows
noncomputable def one(c:Nat):Str:=⟨#[c]⟩
end Mc
namespace Mc
open PySem L2 PyProof.Rows
section
variable{S O:Type}
inductive Ex(st:S->Option (S⊕O)):Nat->S->O->Prop
 | out {s:S} {o:O} (h:st s=some (.inr o)):Ex st 0 s o
 | go {s s':S} {o:O} {n:Nat} (h:st s=some (.inl s')) (t:Ex st n s' o):Ex st (n+1) s o
inductive Rc(st:S->Option (S⊕O)):Nat->S->S->Prop
 | nil {s:S}:Rc st 0 s s
 | cons {s s' s'':S} {n:Nat} (h:st s=some (.inl s')) (t:Rc st n s' s''):Rc st (n+1) s s''
variable{st:S->Option (S⊕O)}
theorem Ex.det{n n':Nat}{s:S}{o o':O}(a:Ex st n s o)(b:Ex st n' s o'):n=n'/\o=o':=by
 induction a generalizing n' o' with
 | out h=>
  cases b with
  | out h'=>rw[h] at h';cases h';exact ⟨rfl,rfl⟩
  | go h' t=>rw[h] at h';cases h'
 | go h t ih=>
  cases b with
  | out h'=>rw[h] at h';cases h'
  | go h' t'=>
   rw[h] at h';cases h'
   obtain ⟨e,e'⟩:=ih t'
   exact ⟨by omega,e'⟩
theorem Rc.ex{k n:Nat}{s s':S}{o:O}(a:Rc st k s s')(b:Ex st n s o):∃ n',n=n'+k/\Ex st n' s' o:=by
 induction a generalizing n with
 | nil=>exact ⟨n,rfl,b⟩
 | cons h t ih=>
  cases b with
  | out h'=>rw[h] at h';cases h'
  | go h' t'=>
   rw[h] at h';cases h'
   obtain ⟨n',e,q⟩:=ih t'
   exact ⟨n',by omega,q⟩
theorem Rc.to{k n:Nat}{s s':S}{o:O}(a:Rc st k s s')(b:Ex st n s' o):Ex st (n+k) s o:=by
 induction a with
 | nil=>exact b
 | cons h t ih=>exact .go h (ih b)
theorem Rc.snoc{k:Nat}{s s' s'':S}(a:Rc st k s s')(h:st s'=some (.inl s'')):Rc st (k+1) s s'':=by
 induction a with
 | nil=>exact .cons h .nil
 | cons h' t ih=>exact .cons h' (ih h)
theorem Rc.round{m n:Nat}{s:S}{o:O}(a:Rc st (m+1) s s):¬ Ex st n s o:=fun b=>by
 obtain ⟨n',e,q⟩:=a.ex b
 have:=(b.det q).1
 omega
def Res(st:S->Option (S⊕O))(s:S)(r:Option O):Prop:=∀ o,r=some o↔∃ n,Ex st n s o
theorem Res.det{s:S}{r r':Option O}(a:Res st s r)(b:Res st s r'):r=r':=by
 apply Option.ext
 intro o
 exact (a o).trans (b o).symm
theorem Res.out{s:S}{o:O}(h:st s=some (.inr o)):Res st s (some o):=fun o'=>by
 constructor
 · intro e; cases e; exact ⟨0, .out h⟩
 · rintro ⟨n, q⟩; rw [((Ex.out h).det q).2]
theorem Res.stuck{s:S}(h:st s=none):Res st s none:=fun o'=>by
 constructor
 ·intro e;cases e
 ·rintro ⟨n,q⟩
  cases q with
  | out h'=>rw[h] at h';cases h'
  | go h' t=>rw[h] at h';cases h'
theorem Res.step{s s':S}{r:Option O}(h:st s=some (.inl s'))(a:Res st s' r):Res st s r:=fun o=>by
 rw[a o]
 constructor
 ·rintro ⟨n,q⟩;exact ⟨n+1,.go h q⟩
 ·rintro ⟨n,q⟩
  cases q with
  | out h'=>rw[h] at h';cases h'
  | go h' t=>rw[h] at h';cases h';exact ⟨_,t⟩
theorem Res.round{s:S}{m:Nat}(a:Rc st (m+1) s s):Res st s none:=fun o=>by
 constructor
 · intro e; cases e
 · rintro ⟨n, q⟩; exact absurd q a.round
open Classical in
noncomputable def bQ(st:S->Option (S⊕O))(s:S):Option O:=if h:∃ o n,Ex st n s o then some h.choose else none
theorem eZ(st:S->Option (S⊕O))(s:S):Res st s (bQ st s):=fun o=>by
 unfold bQ
 by_cases h:∃ o n,Ex st n s o
 ·rw[dif_pos h]
  obtain ⟨n,q⟩:=h.choose_spec
  constructor
  · intro e; cases e; exact ⟨n, q⟩
  · rintro ⟨n', q'⟩; rw [(q.det q').2]
 ·rw[dif_neg h]
  constructor
  · intro e; cases e
  · rintro ⟨n, q⟩; exact absurd ⟨o, n, q⟩ h
theorem Res.eq{s:S}{r:Option O}(a:Res st s r):r=bQ st s:=a.det (eZ st s)
theorem jV{S':Type}{st':S'->Option (S'⊕O)}{s:S}{s':S'}(h:∀ o,(∃ n,Ex st n s o)↔∃ n,Ex st' n s' o):bQ st s=bQ st' s':=
 Option.ext fun o=>((eZ st s) o).trans ((h o).trans ((eZ st' s') o).symm)
structure Und2(st:S->Option (S⊕O))(s0:S)(ps:List S)(s:S):Prop where
 nd:ps.Nodup
 back:∀ p∈ps,∃ m,Rc st (m+1) p s
 res:∀ r,Res st s r->Res st s0 r
theorem Und2.start{s0:S}:Und2 st s0 [] s0:=⟨List.nodup_nil,fun p hp=>by simp at hp,fun r h=>h⟩
theorem Und2.next{s0 s s':S}{ps:List S}(U:Und2 st s0 ps s)(hn:s∉ps)(h:st s=some (.inl s')):Und2 st s0 (ps++[s]) s' where
 nd:=by
  rw[List.nodup_append]
  exact ⟨U.nd,by simp,fun a ha b hb e=>by rw[List.mem_singleton.mp hb] at e;exact hn (e▸ha)⟩
 back:=fun p hp=>by
  rcases List.mem_append.mp hp with q|q
  · obtain ⟨m, r⟩ := U.back p q; exact ⟨m + 1, r.snoc h⟩
  · rw [List.mem_singleton.mp q]; exact ⟨0, .cons h .nil⟩
 res:=fun r a=>U.res r (a.step h)
theorem Und2.met{s0 s:S}{ps:List S}(U:Und2 st s0 ps s)(h:s∈ps):bQ st s0=none:=by
 obtain ⟨m,r⟩:=U.back s h
 exact ((U.res _ (Res.round r)).eq).symm
theorem Und2.outs{s0 s:S}{ps:List S}{o:O}(U:Und2 st s0 ps s)(h:st s=some (.inr o)):bQ st s0=some o:=((U.res _ (Res.out h)).eq).symm
theorem Und2.sticks{s0 s:S}{ps:List S}(U:Und2 st s0 ps s)(h:st s=none):bQ st s0=none:=((U.res _ (Res.stuck h)).eq).symm
end
abbrev Th:=Option (Int×Int)
structure Tb where
 f:List Th
 a:List Th
def Tb.at(t:Tb)(w q:Int):Th:=(if w=1 then t.f else t.a).getD q.toNat none
def oX(m:Nat):Th->Prop
 | none=>True
 | some (d,q)=>(d=1\/d = -1)/\0<=q/\q < (m:Int)
structure Tb.good(m:Nat)(t:Tb):Prop where
 lf:t.f.length=m
 la:t.a.length=m
 gf:∀ x∈t.f,oX m x
 ga:∀ x∈t.a,oX m x
theorem Tb.good.at{m:Nat}{t:Tb}(h:t.good m){w q:Int}(h0:0<=q)(h1:q < m):(if w=1 then t.f else t.a)[q.toNat]? = some (t.at w q)/\oX m (t.at w q):=by
 have hl:q.toNat < (if w=1 then t.f else t.a).length:=by
  split
  · rw [h.lf]; omega
  · rw [h.la]; omega
 have e:(if w=1 then t.f else t.a)[q.toNat]? = some (t.at w q):=by
  unfold Tb.at
  rw[List.getD_eq_getElem?_getD,List.getElem?_eq_getElem hl];rfl
 refine ⟨e,?_⟩
 have hm:=List.mem_of_getElem? e
 split at hm
 ·exact h.gf _ hm
 ·exact h.ga _ hm
def aN(ts:List Tb)(s:Int×Int×Int):Option ((Int×Int×Int)⊕(Int×Int)):=
 match (ts.getD s.1.toNat ⟨[],[]⟩).at s.2.1 s.2.2 with
 | none=>none
 | some (w,q)=>if 0<=s.1+w/\s.1+w < (ts.length:Int) then some (.inl (s.1+w,w,q)) else some (.inr (w,q))
noncomputable def aT(m:Nat)(ts:List Tb):Tb:=⟨(List.range m).map fun q:Nat=>bQ (aN ts) (0,1,(q:Int)),(List.range m).map fun q:Nat=>bQ (aN ts) ((ts.length:Int) - 1,-1,(q:Int))⟩
theorem lT{m:Nat}{ts:List Tb}{w q:Int}(h0:0<=q)(h1:q < m):(aT m ts).at w q=if w=1 then bQ (aN ts) (0,1,q) else bQ (aN ts) ((ts.length:Int) - 1,-1,q):=by
 unfold Tb.at aT
 have hl:q.toNat < m:=by omega
 have e:((q.toNat:Nat):Int)=q:=by omega
 by_cases h:w=1
 ·rw[if_pos h,if_pos h,List.getD_eq_getElem?_getD,List.getElem?_map,List.getElem?_range hl]
  show (some (bQ (aN ts) (0,1,((q.toNat:Nat):Int)))).getD none=_
  rw[e];rfl
 ·rw[if_neg h,if_neg h,List.getD_eq_getElem?_getD,List.getElem?_map,List.getElem?_range hl]
  show (some (bQ (aN ts) ((ts.length:Int) - 1,-1,((q.toNat:Nat):Int)))).getD none=_
  rw[e];rfl
def iE(m:Nat)(ts:List Tb)(s:Int×Int×Int):Prop:=0<=s.1/\s.1 < (ts.length:Int)/\(s.2.1=1\/s.2.1 = -1)/\0<=s.2.2/\s.2.2 < (m:Int)
theorem pX{ts:List Tb}{i:Int}(h0:0<=i)(h1:i < ts.length):∃ t,ts[i.toNat]? = some t/\ts.getD i.toNat ⟨[],[]⟩=t:=by
 have hl:i.toNat < ts.length:=by omega
 exact ⟨ts[i.toNat],by simp[hl],by rw[List.getD_eq_getElem?_getD,List.getElem?_eq_getElem hl];rfl⟩
theorem box_step{m:Nat}{ts:List Tb}(hg:∀ t∈ts,t.good m){s:Int×Int×Int}(V:iE m ts s):(aN ts s=none)\/(∃ s',aN ts s=some (.inl s')/\iE m ts s')\/∃ w q,aN ts s=some (.inr (w,q))/\(w=1\/w = -1)/\0<=q/\q < (m:Int):=by
 obtain ⟨v1,v2,v3,v4,v5⟩:=V
 obtain ⟨t,ht,e⟩:=pX v1 v2
 have g:=((hg t (List.mem_of_getElem? ht)).at (w:=s.2.1) v4 v5).2
 unfold aN
 rw[e]
 cases ha:t.at s.2.1 s.2.2 with
 | none=>exact .inl rfl
 | some x=>
  obtain ⟨w,q⟩:=x
  rw[ha] at g
  obtain ⟨g1,g2,g3⟩:=g
  by_cases hi:0<=s.1+w/\s.1+w < (ts.length:Int)
  · exact .inr (.inl ⟨(s.1 + w, w, q), by simp only [if_pos hi], hi.1, hi.2, g1, g2, g3⟩)
  · exact .inr (.inr ⟨w, q, by simp only [if_neg hi], g1, g2, g3⟩)
theorem mP{m:Nat}{ts:List Tb}(hg:∀ t∈ts,t.good m){n:Nat}{s:Int×Int×Int}{o:Int×Int}(V:iE m ts s)(h:Ex (aN ts) n s o):(o.1=1\/o.1 = -1)/\0<=o.2/\o.2 < (m:Int):=by
 induction h with
 | out h=>
  rcases box_step hg V with e|⟨s',e,_⟩|⟨w,q,e,g⟩
  · rw [h] at e; cases e
  · rw [h] at e; cases e
  · rw [h] at e; cases e; exact g
 | go h t ih=>
  rcases box_step hg V with e|⟨s',e,V'⟩|⟨w,q,e,g⟩
  · rw [h] at e; cases e
  · rw [h] at e; cases e; exact ih V'
  · rw [h] at e; cases e
theorem hU{m:Nat}{ts:List Tb}(hg:∀ t∈ts,t.good m)(hl:1<=ts.length):(aT m ts).good m where
 lf:=by unfold aT;simp
 la:=by unfold aT;simp
 gf:=fun x hx=>by
  obtain ⟨q,hq,rfl⟩:=List.mem_map.mp hx
  have hq:=List.mem_range.mp hq
  cases e:bQ (aN ts) (0,1,(q:Int)) with
  | none=>trivial
  | some o=>
   obtain ⟨n,h⟩:=((eZ (aN ts) _) o).mp e
   exact mP hg ⟨by show (0:Int)<=0;decide,by show (0:Int) < _;omega,.inl rfl,by show (0:Int)<=(q:Int);omega,by show (q:Int) < _;omega⟩ h
 ga:=fun x hx=>by
  obtain ⟨q,hq,rfl⟩:=List.mem_map.mp hx
  have hq:=List.mem_range.mp hq
  cases e:bQ (aN ts) ((ts.length:Int) - 1,-1,(q:Int)) with
  | none=>trivial
  | some o=>
   obtain ⟨n,h⟩:=((eZ (aN ts) _) o).mp e
   exact mP hg ⟨by show (0:Int)<=(ts.length:Int) - 1;omega,by show (ts.length:Int) - 1 < _;omega,.inr rfl,by show (0:Int)<=(q:Int);omega,by show (q:Int) < _;omega⟩ h
def eD(k n:Int)(s:Int×Int×Int):Int×Int×Int:=(if s.1 < k then s.1 else if s.1=k then (if s.2.1=1 then k else k+n - 1) else s.1+n - 1,s.2.1,s.2.2)
theorem oY{α:Type}{l1 l2:List α}{i:Nat}{d:α}(h:i < l1.length):(l1++l2).getD i d=l1.getD i d:=by
 rw[List.getD_eq_getElem?_getD,List.getD_eq_getElem?_getD,List.getElem?_append_left h]
theorem lU{α:Type}{l1 l2:List α}{i:Nat}{d:α}(h:l1.length<=i):(l1++l2).getD i d=l2.getD (i - l1.length) d:=by
 rw[List.getD_eq_getElem?_getD,List.getD_eq_getElem?_getD,List.getElem?_append_right h]
section
variable{m:Nat}{l1 mid l2:List Tb}
theorem j6(i:Int)(h0:0<=i)(h1:i < mid.length):(l1++mid++l2).getD ((l1.length:Int)+i).toNat ⟨[],[]⟩=mid.getD i.toNat ⟨[],[]⟩:=by
 have e:((l1.length:Int)+i).toNat=l1.length+i.toNat:=by omega
 rw[e,List.append_assoc,lU (by omega),show l1.length+i.toNat - l1.length=i.toNat by omega,oY (by omega)]
theorem rD(c:Tb)(s:Int×Int×Int)(h0:0<=s.1)(h1:s.1≠(l1.length:Int))(hm:1<=mid.length):(l1++[c]++l2).getD s.1.toNat ⟨[],[]⟩=(l1++mid++l2).getD (eD l1.length mid.length s).1.toNat ⟨[],[]⟩:=by
 unfold eD
 by_cases h:s.1 < (l1.length:Int)
 ·simp only[if_pos h]
  rw[List.append_assoc,List.append_assoc,oY (by omega),oY (by omega)]
 ·simp only[if_neg h,if_neg h1]
  have e:(s.1+(mid.length:Int) - 1).toNat=s.1.toNat+mid.length - 1:=by omega
  have e1:(l1++[c]).length=l1.length+1:=by simp
  have e2:(l1++mid).length=l1.length+mid.length:=by simp
  rw[e,lU (by rw[e1];omega),lU (by rw[e2];omega),e1,e2]
  congr 1
  omega
theorem tW(c:Tb):(l1++[c]++l2).getD ((l1.length:Int)).toNat ⟨[],[]⟩=c:=by
 rw[List.append_assoc,lU (by omega)]
 have:(l1.length:Int).toNat - l1.length=0:=by omega
 rw[this];rfl
theorem zV(hg:∀ t∈mid,t.good m){k:Nat}{i w q:Int}{o:Int×Int}(V:iE m mid (i,w,q))(h:Ex (aN mid) k (i,w,q) o):∃ i' w' q',iE m mid (i',w',q')/\Rc (aN (l1++mid++l2)) k ((l1.length:Int)+i,w,q) ((l1.length:Int)+i',w',q') /\
  (mid.getD i'.toNat ⟨[],[]⟩).at w' q'=some o/\¬ (0<=i'+o.1/\i'+o.1 < (mid.length:Int)):=by
 generalize hs:((i,w,q):Int×Int×Int)=s at h V
 induction h generalizing i w q with
 | @out s o h=>
  subst hs
  refine ⟨i,w,q,V,.nil,?_⟩
  unfold aN at h
  dsimp only at h
  cases ha:(mid.getD i.toNat ⟨[],[]⟩).at w q with
  | none=>rw[ha] at h;cases h
  | some x=>
   obtain ⟨w1,q1⟩:=x
   rw[ha] at h
   dsimp only at h
   by_cases hi:0<=i+w1/\i+w1 < (mid.length:Int)
   ·rw[if_pos hi] at h;cases h
   ·rw[if_neg hi] at h;cases h;exact ⟨rfl,hi⟩
 | @go s s' o n h t ih=>
  subst hs
  have V':iE m mid s':=by
   rcases box_step hg V with e|⟨s1,e,V'⟩|⟨_,_,e,_⟩
   ·rw[h] at e;cases e
   ·rw[h] at e;cases e;exact V'
   ·rw[h] at e;cases e
  obtain ⟨i1,w1,q1⟩:=s'
  obtain ⟨i',w',q',a,b,c⟩:=ih (i:=i1) (w:=w1) (q:=q1) rfl V'
  refine ⟨i',w',q',a,.cons ?_ b,c⟩
  unfold aN at h ⊢
  dsimp only at h ⊢
  rw[j6 i V.1 V.2.1]
  cases ha:(mid.getD i.toNat ⟨[],[]⟩).at w q with
  | none=>rw[ha] at h;cases h
  | some x=>
   obtain ⟨w2,q2⟩:=x
   rw[ha] at h
   dsimp only at h ⊢
   by_cases hi:0<=i+w2/\i+w2 < (mid.length:Int)
   ·rw[if_pos hi] at h
    cases h
    rw[if_pos]
    · rw [show (l1.length : Int) + i + w1 = (l1.length : Int) + (i + w1) by omega]
    · simp only [List.length_append]; omega
   ·rw[if_neg hi] at h;cases h
theorem aLT(hg:∀ t∈mid,t.good m){n:Nat}{i w q:Int}{o:Int×Int}(V:iE m mid (i,w,q))(h:Ex (aN (l1++mid++l2)) n ((l1.length:Int)+i,w,q) o) :
  ∃ k i' w' q' o',Ex (aN mid) k (i,w,q) o'/\iE m mid (i',w',q')/\(mid.getD i'.toNat ⟨[],[]⟩).at w' q'=some o'/\¬ (0<=i'+o'.1/\i'+o'.1 < (mid.length:Int))/\∃ j,j<=n/\Ex (aN (l1++mid++l2)) j ((l1.length:Int)+i',w',q') o:=by
 induction n generalizing i w q with
 | zero=>
  cases ha:(mid.getD i.toNat ⟨[],[]⟩).at w q with
  | none=>
   cases h with
   | out h=>unfold aN at h;dsimp only at h;rw[j6 i V.1 V.2.1,ha] at h;cases h
  | some x=>
   obtain ⟨w1,q1⟩:=x
   by_cases hi:0<=i+w1/\i+w1 < (mid.length:Int)
   ·cases h with
    | out h=>
     unfold aN at h;dsimp only at h
     rw[j6 i V.1 V.2.1,ha] at h
     dsimp only at h
     rw[if_pos (by simp only[List.length_append];omega)] at h
     cases h
   ·refine ⟨0,i,w,q,(w1,q1),.out ?_,V,ha,hi,0,Nat.le_refl _,h⟩
    unfold aN;dsimp only
    rw[ha];dsimp only;rw[if_neg hi]
 | succ n ih=>
  cases ha:(mid.getD i.toNat ⟨[],[]⟩).at w q with
  | none=>
   cases h with
   | go h t=>unfold aN at h;dsimp only at h;rw[j6 i V.1 V.2.1,ha] at h;cases h
  | some x=>
   obtain ⟨w1,q1⟩:=x
   by_cases hi:0<=i+w1/\i+w1 < (mid.length:Int)
   ·have hs:aN mid (i,w,q)=some (.inl (i+w1,w1,q1)):=by
     unfold aN;dsimp only;rw[ha];dsimp only;rw[if_pos hi]
    have V':iE m mid (i+w1,w1,q1):=by
     rcases box_step hg V with e|⟨s1,e,V'⟩|⟨_,_,e,_⟩
     · rw [hs] at e; cases e
     · rw [hs] at e; cases e; exact V'
     · rw [hs] at e; cases e
    cases h with
    | go h t=>
     unfold aN at h;dsimp only at h
     rw[j6 i V.1 V.2.1,ha] at h
     dsimp only at h
     rw[if_pos (by simp only[List.length_append];omega)] at h
     cases h
     rw[show (l1.length:Int)+i+w1=(l1.length:Int)+(i+w1) by omega] at t
     obtain ⟨k,i',w',q',o',a,b,c,d,j,hj,e⟩:=ih V' t
     exact ⟨k+1,i',w',q',o',.go hs a,b,c,d,j,by omega,e⟩
   ·refine ⟨0,i,w,q,(w1,q1),.out ?_,V,ha,hi,n+1,Nat.le_refl _,h⟩
    unfold aN;dsimp only
    rw[ha];dsimp only;rw[if_neg hi]
theorem lV(c:Tb)(hm:1<=mid.length){s:Int×Int×Int}{w' q':Int}(hi:s.1≠(l1.length:Int))(h0:0<=s.1)(h1:s.1 < ((l1++[c]++l2).length:Int))(hw:w'=1\/w' = -1) :
  (0<=s.1+w'/\s.1+w' < ((l1++[c]++l2).length:Int)↔0<=(eD l1.length mid.length s).1+w'/\(eD l1.length mid.length s).1+w' < ((l1++mid++l2).length:Int)) /\
  (0<=s.1+w'/\s.1+w' < ((l1++[c]++l2).length:Int)->eD l1.length mid.length (s.1+w',w',q')=((eD l1.length mid.length s).1+w',w',q')):=by
 simp only[List.length_append,List.length_cons,List.length_nil] at h1 ⊢
 unfold eD
 dsimp only
 refine ⟨?_,fun hh=>?_⟩
 ·by_cases h:s.1 < (l1.length:Int)
  ·rw[if_pos h];omega
  ·rw[if_neg h,if_neg hi];omega
 ·refine Prod.ext ?_ rfl
  show (if s.1+w' < (l1.length:Int) then s.1+w' else if s.1+w'=(l1.length:Int) then (if w'=1 then (l1.length:Int) else (l1.length:Int)+(mid.length:Int) - 1) else s.1+w'+(mid.length:Int) - 1)=(if s.1 < (l1.length:Int) then s.1 else if s.1=(l1.length:Int) then (if s.2.1=1 then (l1.length:Int) else (l1.length:Int)+(mid.length:Int) - 1) else s.1+(mid.length:Int) - 1)+w'
  rw[if_neg hi]
  rcases hw with rfl|rfl
  ·by_cases h:s.1 < (l1.length:Int)
   ·rw[if_pos h]
    by_cases h2:s.1+1 < (l1.length:Int)
    · rw [if_pos h2]
    · rw [if_neg h2, if_pos (by omega), if_pos rfl]; omega
   ·rw[if_neg h,if_neg (by omega),if_neg (by omega)];omega
  ·by_cases h:s.1 < (l1.length:Int)
   ·rw[if_pos h,if_pos (by omega)]
   ·rw[if_neg h,if_neg (by omega)]
    by_cases h2:s.1 + -1=(l1.length:Int)
    · rw [if_pos h2, if_neg (by decide)]; omega
    · rw [if_neg h2]; omega
theorem aFQ{w q:Int}(hw:w=1\/w = -1)(h0:0<=q)(h1:q < (m:Int))(hm:1<=mid.length):(aT m mid).at w q=bQ (aN mid) ((if w=1 then 0 else (mid.length:Int) - 1),w,q):=by
 rw[lT h0 h1]
 rcases hw with rfl|rfl
 · rw [if_pos rfl, if_pos rfl]
 · rw [if_neg (by decide), if_neg (by decide)]
theorem w6(hg1:∀ t∈l1,t.good m)(hg:∀ t∈mid,t.good m)(hg2:∀ t∈l2,t.good m)(hm:1<=mid.length){s:Int×Int×Int}{o:Int×Int}(V:iE m (l1++[aT m mid]++l2) s) :
  (∃ n,Ex (aN (l1++[aT m mid]++l2)) n s o)↔∃ n,Ex (aN (l1++mid++l2)) n (eD l1.length mid.length s) o:=by
 have hgs:∀ t∈l1++[aT m mid]++l2,t.good m:=fun t ht=>by
  rcases List.mem_append.mp ht with y|y
  ·rcases List.mem_append.mp y with y|y
   ·exact hg1 t y
   ·rw[List.mem_singleton.mp y];exact hU hg hm
  ·exact hg2 t y
 have Lm:∀ {s:Int×Int×Int},s.1=(l1.length:Int)->eD l1.length mid.length s=((l1.length:Int)+(if s.2.1=1 then 0 else (mid.length:Int) - 1),s.2.1,s.2.2):=fun {s} h=>by
  unfold eD
  rw[if_neg (by omega),if_pos h]
  by_cases h1:s.2.1=1
  ·rw[if_pos h1,if_pos h1,Int.add_zero]
  ·rw[if_neg h1,if_neg h1,Int.add_sub_assoc]
 have Vm:∀ {s:Int×Int×Int},iE m (l1++[aT m mid]++l2) s->iE m mid ((if s.2.1=1 then 0 else (mid.length:Int) - 1),s.2.1,s.2.2):=fun {s} V=>by
  obtain ⟨_,_,v3,v4,v5⟩:=V
  refine ⟨?_,?_,v3,v4,v5⟩
  ·show (0:Int)<=if s.2.1=1 then 0 else (mid.length:Int) - 1;split<;>omega
  ·show (if s.2.1=1 then (0:Int) else (mid.length:Int) - 1) < _;split<;>omega
 have leave:∀ {i':Int} {o':Int×Int},0<=i'->i' < (mid.length:Int)->(o'.1=1\/o'.1 = -1)->¬ (0<=i'+o'.1/\i'+o'.1 < (mid.length:Int))->
   (0<=(l1.length:Int)+o'.1/\(l1.length:Int)+o'.1 < ((l1++[aT m mid]++l2).length:Int)↔0<=(l1.length:Int)+i'+o'.1/\(l1.length:Int)+i'+o'.1 < ((l1++mid++l2).length:Int)) /\
   eD l1.length mid.length ((l1.length:Int)+o'.1,o'.1,o'.2)=((l1.length:Int)+i'+o'.1,o'.1,o'.2):=fun {i' o'} a b hw h=>by
  simp only[List.length_append,List.length_cons,List.length_nil]
  refine ⟨by rcases hw with e|e<;>rw[e] at h ⊢<;>omega,?_⟩
  unfold eD
  refine Prod.ext ?_ rfl
  show (if (l1.length:Int)+o'.1 < (l1.length:Int) then (l1.length:Int)+o'.1 else if (l1.length:Int)+o'.1=(l1.length:Int) then (if o'.1=1 then (l1.length:Int) else (l1.length:Int)+(mid.length:Int) - 1) else (l1.length:Int)+o'.1+(mid.length:Int) - 1)=(l1.length:Int)+i'+o'.1
  rcases hw with e|e
  ·rw[e] at h ⊢;rw[if_neg (by omega),if_neg (by omega)];omega
  ·rw[e] at h ⊢;rw[if_pos (by omega)];omega
 constructor
 ·rintro ⟨n,h⟩
  induction h with
  | @out s o h=>
   by_cases hi:s.1=(l1.length:Int)
   ·unfold aN at h
    rw[hi,tW,aFQ V.2.2.1 V.2.2.2.1 V.2.2.2.2 hm] at h
    cases hr:bQ (aN mid) ((if s.2.1=1 then 0 else (mid.length:Int) - 1),s.2.1,s.2.2) with
    | none=>rw[hr] at h;cases h
    | some o'=>
     rw[hr] at h
     obtain ⟨k,hk⟩:=((eZ (aN mid) _) o').mp hr
     have ho:=mP hg (Vm V) hk
     obtain ⟨i',w',q',V',rc,ha,hn⟩:=zV (l1:=l1) (l2:=l2) hg (Vm V) hk
     obtain ⟨lv1,lv2⟩:=leave V'.1 V'.2.1 ho.1 hn
     obtain ⟨ow,oq⟩:=o'
     dsimp only at h
     by_cases hin:0<=(l1.length:Int)+ow/\(l1.length:Int)+ow < ((l1++[aT m mid]++l2).length:Int)
     ·rw[if_pos hin] at h;cases h
     ·rw[if_neg hin] at h;cases h
      rw[Lm hi]
      refine ⟨0+k,rc.to (.out ?_)⟩
      unfold aN;dsimp only
      rw[j6 i' V'.1 V'.2.1,ha];dsimp only
      rw[if_neg fun z=>hin (lv1.mpr z)]
   ·refine ⟨0,.out ?_⟩
    have hs:=h
    unfold aN at h ⊢
    rw[<-rD (aT m mid) s V.1 hi hm]
    show (match ((l1++[aT m mid]++l2).getD s.1.toNat ⟨[],[]⟩).at s.2.1 s.2.2 with|none=>none|some (w,q)=>if 0<=(eD l1.length mid.length s).1+w/\(eD l1.length mid.length s).1+w < ((l1++mid++l2).length:Int) then some (Sum.inl ((eD l1.length mid.length s).1+w,w,q)) else some (Sum.inr (w,q)))=_
    have gd:∃ t,t.good m/\(l1++[aT m mid]++l2).getD s.1.toNat ⟨[],[]⟩=t:=by
     obtain ⟨t,ht,e⟩:=pX V.1 V.2.1
     exact ⟨t,hgs t (List.mem_of_getElem? ht),e⟩
    obtain ⟨t,tg,te⟩:=gd
    rw[te] at h ⊢
    have g:=(tg.at (w:=s.2.1) V.2.2.2.1 V.2.2.2.2).2
    cases ha:t.at s.2.1 s.2.2 with
    | none=>rw[ha] at h;cases h
    | some x=>
     obtain ⟨w1,q1⟩:=x
     rw[ha] at h g
     obtain ⟨l1s,_⟩:=lV (l2:=l2) (aT m mid) hm (q':=q1) hi V.1 V.2.1 g.1
     dsimp only at h ⊢
     by_cases hin:0<=s.1+w1/\s.1+w1 < ((l1++[aT m mid]++l2).length:Int)
     ·rw[if_pos hin] at h;cases h
     ·rw[if_neg hin] at h;cases h
      rw[if_neg fun z=>hin (l1s.mpr z)]
  | @go s s' o n h t ih=>
   have V':iE m (l1++[aT m mid]++l2) s':=by
    rcases box_step hgs V with e|⟨s1,e,V'⟩|⟨_,_,e,_⟩
    ·rw[h] at e;cases e
    ·rw[h] at e;cases e;exact V'
    ·rw[h] at e;cases e
   obtain ⟨j,hj⟩:=ih V'
   by_cases hi:s.1=(l1.length:Int)
   ·unfold aN at h
    rw[hi,tW,aFQ V.2.2.1 V.2.2.2.1 V.2.2.2.2 hm] at h
    cases hr:bQ (aN mid) ((if s.2.1=1 then 0 else (mid.length:Int) - 1),s.2.1,s.2.2) with
    | none=>rw[hr] at h;cases h
    | some o'=>
     rw[hr] at h
     obtain ⟨k,hk⟩:=((eZ (aN mid) _) o').mp hr
     have ho:=mP hg (Vm V) hk
     obtain ⟨i',w',q',Vi,rc,ha,hn⟩:=zV (l1:=l1) (l2:=l2) hg (Vm V) hk
     obtain ⟨lv1,lv2⟩:=leave Vi.1 Vi.2.1 ho.1 hn
     obtain ⟨ow,oq⟩:=o'
     dsimp only at h lv2
     by_cases hin:0<=(l1.length:Int)+ow/\(l1.length:Int)+ow < ((l1++[aT m mid]++l2).length:Int)
     ·rw[if_pos hin] at h;cases h
      rw[lv2] at hj
      rw[Lm hi]
      refine ⟨j+1+k,rc.to (.go ?_ hj)⟩
      unfold aN;dsimp only
      rw[j6 i' Vi.1 Vi.2.1,ha];dsimp only
      rw[if_pos (lv1.mp hin)]
     ·rw[if_neg hin] at h;cases h
   ·refine ⟨j+1,.go ?_ hj⟩
    unfold aN at h ⊢
    rw[<-rD (aT m mid) s V.1 hi hm]
    show (match ((l1++[aT m mid]++l2).getD s.1.toNat ⟨[],[]⟩).at s.2.1 s.2.2 with|none=>none|some (w,q)=>if 0<=(eD l1.length mid.length s).1+w/\(eD l1.length mid.length s).1+w < ((l1++mid++l2).length:Int) then some (Sum.inl ((eD l1.length mid.length s).1+w,w,q)) else some (Sum.inr (w,q)))=_
    obtain ⟨t',ht',te⟩:=pX V.1 V.2.1
    have tg:=hgs t' (List.mem_of_getElem? ht')
    rw[te] at h ⊢
    have g:=(tg.at (w:=s.2.1) V.2.2.2.1 V.2.2.2.2).2
    cases ha:t'.at s.2.1 s.2.2 with
    | none=>rw[ha] at h;cases h
    | some x=>
     obtain ⟨w1,q1⟩:=x
     rw[ha] at h g
     obtain ⟨l1s,l2s⟩:=lV (l2:=l2) (aT m mid) hm (q':=q1) hi V.1 V.2.1 g.1
     dsimp only at h ⊢
     by_cases hin:0<=s.1+w1/\s.1+w1 < ((l1++[aT m mid]++l2).length:Int)
     ·rw[if_pos hin] at h;cases h
      rw[if_pos (l1s.mp hin),l2s hin]
     ·rw[if_neg hin] at h;cases h
 ·rintro ⟨n,h⟩
  induction n using Nat.strongRecOn generalizing s with
  | _ n ih=>
   by_cases hi:s.1=(l1.length:Int)
   ·rw[Lm hi] at h
    obtain ⟨k,i',w',q',o',hk,Vi,ha,hn,j,hj,he⟩:=aLT (l1:=l1) (l2:=l2) hg (Vm V) h
    have ho:=mP hg (Vm V) hk
    obtain ⟨lv1,lv2⟩:=leave Vi.1 Vi.2.1 ho.1 hn
    have hr:bQ (aN mid) ((if s.2.1=1 then 0 else (mid.length:Int) - 1),s.2.1,s.2.2)=some o':=((eZ (aN mid) _) o').mpr ⟨k,hk⟩
    have hst:aN (l1++[aT m mid]++l2) s=if 0<=s.1+o'.1/\s.1+o'.1 < ((l1++[aT m mid]++l2).length:Int) then some (Sum.inl (s.1+o'.1,o'.1,o'.2)) else some (Sum.inr (o'.1,o'.2)):=by
     unfold aN
     rw[show (l1++[aT m mid]++l2).getD s.1.toNat ⟨[],[]⟩=aT m mid by rw[hi];exact tW _,aFQ V.2.2.1 V.2.2.2.1 V.2.2.2.2 hm,hr]
    have hlg:aN (l1++mid++l2) ((l1.length:Int)+i',w',q')=if 0<=(l1.length:Int)+i'+o'.1/\(l1.length:Int)+i'+o'.1 < ((l1++mid++l2).length:Int) then some (Sum.inl ((l1.length:Int)+i'+o'.1,o'.1,o'.2)) else some (Sum.inr (o'.1,o'.2)):=by
     unfold aN;dsimp only
     rw[j6 i' Vi.1 Vi.2.1,ha]
    rw[hi] at hst
    by_cases hin:0<=(l1.length:Int)+o'.1/\(l1.length:Int)+o'.1 < ((l1++[aT m mid]++l2).length:Int)
    ·rw[if_pos hin] at hst
     rw[if_pos (lv1.mp hin)] at hlg
     have V':iE m (l1++[aT m mid]++l2) ((l1.length:Int)+o'.1,o'.1,o'.2):=⟨hin.1,hin.2,ho.1,ho.2.1,ho.2.2⟩
     cases he with
     | out h'=>rw[hlg] at h';cases h'
     | @go _ _ _ j' h' t=>
      rw[hlg] at h';cases h'
      rw[<-lv2] at t
      obtain ⟨r,hr'⟩:=ih j' (by omega) V' t
      exact ⟨r+1,.go hst hr'⟩
    ·rw[if_neg hin] at hst
     rw[if_neg fun z=>hin (lv1.mpr z)] at hlg
     cases he with
     | out h'=>rw[hlg] at h';cases h';exact ⟨0,.out hst⟩
     | go h' t=>rw[hlg] at h';cases h'
   ·obtain ⟨t',ht',te⟩:=pX V.1 V.2.1
    have tg:=hgs t' (List.mem_of_getElem? ht')
    have g:=(tg.at (w:=s.2.1) V.2.2.2.1 V.2.2.2.2).2
    have hlg:∀ x,aN (l1++mid++l2) (eD l1.length mid.length s)=x->(match t'.at s.2.1 s.2.2 with|none=>none|some (w,q)=>if 0<=(eD l1.length mid.length s).1+w/\(eD l1.length mid.length s).1+w < ((l1++mid++l2).length:Int) then some (Sum.inl ((eD l1.length mid.length s).1+w,w,q)) else some (Sum.inr (w,q)))=x:=fun x hx=>by
     unfold aN at hx
     rw[<-rD (aT m mid) s V.1 hi hm,te] at hx
     exact hx
    cases h with
    | @out _ _ h=>
     have h':=hlg _ h
     refine ⟨0,.out ?_⟩
     unfold aN
     rw[te]
     cases ha:t'.at s.2.1 s.2.2 with
     | none=>rw[ha] at h';cases h'
     | some x=>
      obtain ⟨w1,q1⟩:=x
      rw[ha] at h' g
      obtain ⟨l1s,l2s⟩:=lV (l2:=l2) (aT m mid) hm (q':=q1) hi V.1 V.2.1 g.1
      dsimp only at h' ⊢
      by_cases hin:0<=s.1+w1/\s.1+w1 < ((l1++[aT m mid]++l2).length:Int)
      ·rw[if_pos (l1s.mp hin)] at h';cases h'
      ·rw[if_neg fun z=>hin (l1s.mpr z)] at h';cases h'
       rw[if_neg hin]
    | @go _ s' _ n' h t=>
     have h':=hlg _ h
     cases ha:t'.at s.2.1 s.2.2 with
     | none=>rw[ha] at h';cases h'
     | some x=>
      obtain ⟨w1,q1⟩:=x
      rw[ha] at h' g
      obtain ⟨l1s,l2s⟩:=lV (l2:=l2) (aT m mid) hm (q':=q1) hi V.1 V.2.1 g.1
      dsimp only at h'
      by_cases hin:0<=s.1+w1/\s.1+w1 < ((l1++[aT m mid]++l2).length:Int)
      ·rw[if_pos (l1s.mp hin),<-l2s hin] at h';cases h'
       have V':iE m (l1++[aT m mid]++l2) (s.1+w1,w1,q1):=⟨hin.1,hin.2,g.1,g.2.1,g.2.2⟩
       obtain ⟨r,hr'⟩:=ih n' (by omega) V' t
       refine ⟨r+1,.go ?_ hr'⟩
       unfold aN
       rw[te,ha];dsimp only
       rw[if_pos hin]
      ·rw[if_neg fun z=>hin (l1s.mpr z)] at h';cases h'
theorem rE(hg1:∀ t∈l1,t.good m)(hg:∀ t∈mid,t.good m)(hg2:∀ t∈l2,t.good m)(hm:1<=mid.length):aT m (l1++[aT m mid]++l2)=aT m (l1++mid++l2):=by
 have hl:((l1++[aT m mid]++l2).length:Int)=(l1.length:Int)+1+(l2.length:Int):=by simp;omega
 have hl2:((l1++mid++l2).length:Int)=(l1.length:Int)+(mid.length:Int)+(l2.length:Int):=by simp;omega
 unfold aT
 congr 1
 ·refine List.map_congr_left fun q hq=>jV fun o=>?_
  have hq:=List.mem_range.mp hq
  rw[<-aT,w6 hg1 hg hg2 hm ⟨by show (0:Int)<=0;decide,by show (0:Int) < _;omega,.inl rfl,by show (0:Int)<=(q:Int);omega,by show (q:Int) < _;omega⟩]
  have e:eD l1.length mid.length (0,1,(q:Int))=(0,1,(q:Int)):=by
   unfold eD
   refine Prod.ext ?_ rfl
   show (if (0:Int) < (l1.length:Int) then (0:Int) else if (0:Int)=(l1.length:Int) then (if (1:Int)=1 then (l1.length:Int) else (l1.length:Int)+(mid.length:Int) - 1) else 0+(mid.length:Int) - 1)=0
   by_cases h:(0:Int) < (l1.length:Int)
   · rw [if_pos h]
   · rw [if_neg h, if_pos (by omega), if_pos rfl]; omega
  rw[e]
 ·refine List.map_congr_left fun q hq=>jV fun o=>?_
  have hq:=List.mem_range.mp hq
  rw[<-aT,w6 hg1 hg hg2 hm ⟨by show (0:Int)<=_ - 1;omega,by show _ - 1 < _;omega,.inr rfl,by show (0:Int)<=(q:Int);omega,by show (q:Int) < _;omega⟩]
  have e:eD l1.length mid.length (((l1++[aT m mid]++l2).length:Int) - 1,-1,(q:Int))=(((l1++mid++l2).length:Int) - 1,-1,(q:Int)):=by
   unfold eD
   refine Prod.ext ?_ rfl
   show (if ((l1++[aT m mid]++l2).length:Int) - 1 < (l1.length:Int) then ((l1++[aT m mid]++l2).length:Int) - 1 else if ((l1++[aT m mid]++l2).length:Int) - 1=(l1.length:Int) then (if (-1:Int)=1 then (l1.length:Int) else (l1.length:Int)+(mid.length:Int) - 1) else ((l1++[aT m mid]++l2).length:Int) - 1+(mid.length:Int) - 1)=((l1++mid++l2).length:Int) - 1
   rw[hl,hl2,if_neg (by omega)]
   by_cases h:(l2.length:Int)=0
   · rw [if_pos (by omega), if_neg (by decide)]; omega
   · rw [if_neg (by omega)]; omega
  rw[e]
end
end Mc
namespace Mc
open PySem L2 PyProof.Rows
theorem u1{S:Type}(f:S->Nat)(N:Nat)(l:List S)(hn:l.Nodup)(hf:∀ s∈l,f s < N)(hi:∀ a∈l,∀ b∈l,f a=f b->a=b):l.length<=N:=by
 have h:=oW N (l.map f) ?_ ?_
 ·rw[List.length_map] at h;exact h
 ·unfold List.Nodup
  rw[List.pairwise_map]
  exact List.Pairwise.imp_of_mem (fun {a b} ha hb hab e=>hab (hi a ha b hb e)) hn
 ·intro x hx
  obtain ⟨s,hs,rfl⟩:=List.mem_map.mp hx
  exact hf s hs
def nF(m:Nat)(s:Int×Int):Prop:=(s.1=1\/s.1 = -1)/\0<=s.2/\s.2 < (m:Int)
theorem w8{m:Nat}{l:List (Int×Int)}(hn:l.Nodup)(hv:∀ s∈l,nF m s):l.length<=2 * m:=by
 refine u1 (fun s=>(if s.1=1 then 0 else m)+s.2.toNat) (2 * m) l hn (fun s hs=>?_) (fun a ha b hb e=>?_)
 ·obtain ⟨h1,h2,h3⟩:=hv s hs
  split<;>omega
 ·obtain ⟨a1,a2,a3⟩:=hv a ha
  obtain ⟨b1,b2,b3⟩:=hv b hb
  refine Prod.ext ?_ ?_
  ·rcases a1 with a1|a1<;>rcases b1 with b1|b1<;>rw[a1,b1] at e ⊢
   · rw [if_pos rfl, if_neg (by decide)] at e; omega
   · rw [if_neg (by decide), if_pos rfl] at e; omega
  ·rcases a1 with a1|a1<;>rcases b1 with b1|b1<;>rw[a1,b1] at e
   · omega
   · rw [if_pos rfl, if_neg (by decide)] at e; omega
   · rw [if_neg (by decide), if_pos rfl] at e; omega
   · omega
def dR(a b:Tb)(s:Int×Int):Option ((Int×Int)⊕(Int×Int)):=
 match (if s.1=1 then b.at 1 s.2 else a.at (-1) s.2) with
 | none=>none
 | some (w,q)=>if w = -s.1 then some (.inl (w,q)) else some (.inr (w,q))
def fW(s:Int×Int):Int×Int×Int:=((if s.1=1 then 1 else 0),s.1,s.2)
theorem gone_box{a b:Tb}{m:Nat}(ha:a.good m)(hb:b.good m){s:Int×Int}(V:nF m s):(dR a b s=none/\aN [a,b] (fW s)=none)\/(∃ s',dR a b s=some (.inl s')/\aN [a,b] (fW s)=some (.inl (fW s'))/\nF m s')\/∃ o,dR a b s=some (.inr o)/\aN [a,b] (fW s)=some (.inr o):=by
 obtain ⟨w,q⟩:=s
 obtain ⟨v1,v2,v3⟩:=V
 dsimp only at v1 v2 v3
 have e0:([a,b].getD (0:Int).toNat ⟨[],[]⟩)=a:=rfl
 have e1:([a,b].getD (1:Int).toNat ⟨[],[]⟩)=b:=rfl
 rcases v1 with rfl|rfl
 ·have g:=(hb.at (w:=1) v2 v3).2
  cases h:b.at 1 q with
  | none=>exact .inl ⟨by unfold dR;dsimp only;rw[if_pos rfl,h],by unfold aN fW;dsimp only;rw[if_pos rfl,e1,h]⟩
  | some x=>
   obtain ⟨w',q'⟩:=x
   rw[h] at g
   obtain ⟨g1,g2,g3⟩:=g
   rcases g1 with rfl|rfl
   ·refine .inr (.inr ⟨(1,q'),by unfold dR;dsimp only;rw[if_pos rfl,h];dsimp only;rw[if_neg (by decide)],?_⟩)
    unfold aN fW;dsimp only;rw[if_pos rfl,e1,h];dsimp only
    rw[if_neg (by show ¬ (0<=(1:Int)+1/\(1:Int)+1 < 2);decide)]
   ·refine .inr (.inl ⟨(-1,q'),by unfold dR;dsimp only;rw[if_pos rfl,h];dsimp only;rw[if_pos rfl],?_,.inr rfl,g2,g3⟩)
    unfold aN fW;dsimp only;rw[if_pos rfl,e1,h];dsimp only
    rw[if_pos (by show (0<=(1:Int) + -1/\(1:Int) + -1 < 2);decide),if_neg (by decide)];rfl
 ·have g:=(ha.at (w:=-1) v2 v3).2
  cases h:a.at (-1) q with
  | none=>exact .inl ⟨by unfold dR;dsimp only;rw[if_neg (by decide),h],by unfold aN fW;dsimp only;rw[if_neg (by decide),e0,h]⟩
  | some x=>
   obtain ⟨w',q'⟩:=x
   rw[h] at g
   obtain ⟨g1,g2,g3⟩:=g
   rcases g1 with rfl|rfl
   ·refine .inr (.inl ⟨(1,q'),by unfold dR;dsimp only;rw[if_neg (by decide),h];dsimp only;rw[if_pos (by decide)],?_,.inl rfl,g2,g3⟩)
    unfold aN fW;dsimp only;rw[if_neg (by decide),e0,h];dsimp only
    rw[if_pos (by show (0<=(0:Int)+1/\(0:Int)+1 < 2);decide),if_pos rfl];rfl
   ·refine .inr (.inr ⟨(-1,q'),by unfold dR;dsimp only;rw[if_neg (by decide),h];dsimp only;rw[if_neg (by decide)],?_⟩)
    unfold aN fW;dsimp only;rw[if_neg (by decide),e0,h];dsimp only
    rw[if_neg (by show ¬ (0<=(0:Int) + -1/\(0:Int) + -1 < 2);decide)]
theorem w9{a b:Tb}{m:Nat}(ha:a.good m)(hb:b.good m){s:Int×Int}(V:nF m s):bQ (dR a b) s=bQ (aN [a,b]) (fW s):=by
 refine jV fun o=>⟨?_,?_⟩
 ·rintro ⟨n,h⟩
  refine ⟨n,?_⟩
  induction h with
  | out h=>
   rcases gone_box ha hb V with ⟨e,_⟩|⟨s',e,_⟩|⟨o',e,g⟩
   · rw [h] at e; cases e
   · rw [h] at e; cases e
   · rw [h] at e; cases e; exact .out g
  | go h t ih=>
   rcases gone_box ha hb V with ⟨e,_⟩|⟨s',e,g,V'⟩|⟨o',e,g⟩
   · rw [h] at e; cases e
   · rw [h] at e; cases e; exact .go g (ih V')
   · rw [h] at e; cases e
 ·rintro ⟨n,h⟩
  refine ⟨n,?_⟩
  generalize hs:fW s=p at h
  induction h generalizing s with
  | out h=>
   subst hs
   rcases gone_box ha hb V with ⟨_,e⟩|⟨s',_,e,_⟩|⟨o',g,e⟩
   · rw [h] at e; cases e
   · rw [h] at e; cases e
   · rw [h] at e; cases e; exact .out g
  | go h t ih=>
   subst hs
   rcases gone_box ha hb V with ⟨_,e⟩|⟨s',g,e,V'⟩|⟨o',_,e⟩
   · rw [h] at e; cases e
   · rw [h] at e; cases e; exact .go g (ih V' rfl)
   · rw [h] at e; cases e
noncomputable def iC(a b:Tb)(th:Th)(w:Int):Th:=
 match th with
 | none=>none
 | some (d,q)=>if d=w then bQ (dR a b) (d,q) else some (d,q)
theorem jK{S O:Type}{st:S->Option (S⊕O)}{s s':S}(h:st s=some (.inl s')):bQ st s=bQ st s':=(((eZ st s').step h).eq).symm
theorem gI{S O:Type}{st:S->Option (S⊕O)}{s:S}{o:O}(h:st s=some (.inr o)):bQ st s=some o:=((Res.out h).eq).symm
theorem iW{S O:Type}{st:S->Option (S⊕O)}{s:S}(h:st s=none):bQ st s=none:=((Res.stuck h).eq).symm
theorem aDC{a b:Tb}{m:Nat}(ha:a.good m)(hb:b.good m){q:Int}(h0:0<=q)(h1:q < (m:Int)):iC a b (a.at 1 q) 1=bQ (aN [a,b]) (0,1,q):=by
 have g:=(ha.at (w:=1) h0 h1).2
 have e:([a,b].getD (0:Int).toNat ⟨[],[]⟩)=a:=rfl
 cases h:a.at 1 q with
 | none=>
  rw[iW (by unfold aN;dsimp only;rw[e,h])];rfl
 | some x=>
  obtain ⟨w,q'⟩:=x
  rw[h] at g
  obtain ⟨g1,g2,g3⟩:=g
  rcases g1 with rfl|rfl
  ·rw[jK (s':=(1,1,q')) (by unfold aN;dsimp only;rw[e,h];dsimp only;rw[if_pos (by show (0<=(0:Int)+1/\(0:Int)+1 < 2);decide)];rfl)]
   show (if (1:Int)=1 then bQ (dR a b) (1,q') else some (1,q'))=_
   rw[if_pos rfl,w9 ha hb ⟨.inl rfl,g2,g3⟩];rfl
  ·rw[gI (o:=(-1,q')) (by unfold aN;dsimp only;rw[e,h];dsimp only;rw[if_neg (by show ¬ (0<=(0:Int) + -1/\(0:Int) + -1 < 2);decide)])]
   show (if (-1:Int)=1 then bQ (dR a b) (-1,q') else some (-1,q'))=_
   rw[if_neg (by decide)]
theorem aFR{a b:Tb}{m:Nat}(ha:a.good m)(hb:b.good m){q:Int}(h0:0<=q)(h1:q < (m:Int)):iC a b (b.at (-1) q) (-1)=bQ (aN [a,b]) (1,-1,q):=by
 have g:=(hb.at (w:=-1) h0 h1).2
 have e:([a,b].getD (1:Int).toNat ⟨[],[]⟩)=b:=rfl
 cases h:b.at (-1) q with
 | none=>
  rw[iW (by unfold aN;dsimp only;rw[e,h])];rfl
 | some x=>
  obtain ⟨w,q'⟩:=x
  rw[h] at g
  obtain ⟨g1,g2,g3⟩:=g
  rcases g1 with rfl|rfl
  ·rw[gI (o:=(1,q')) (by unfold aN;dsimp only;rw[e,h];dsimp only;rw[if_neg (by show ¬ (0<=(1:Int)+1/\(1:Int)+1 < 2);decide)])]
   show (if (1:Int) = -1 then bQ (dR a b) (1,q') else some (1,q'))=_
   rw[if_neg (by decide)]
  ·rw[jK (s':=(0,-1,q')) (by unfold aN;dsimp only;rw[e,h];dsimp only;rw[if_pos (by show (0<=(1:Int) + -1/\(1:Int) + -1 < 2);decide)];rfl)]
   show (if (-1:Int) = -1 then bQ (dR a b) (-1,q') else some (-1,q'))=_
   rw[if_pos rfl,w9 ha hb ⟨.inr rfl,g2,g3⟩];rfl
theorem aFS{a b:Tb}{m:Nat}(ha:a.good m)(hb:b.good m):a.f.map (fun th=>iC a b th 1)=(aT m [a,b]).f:=by
 refine List.ext_getElem? fun i=>?_
 show _=((List.range m).map _)[i]?
 rw[List.getElem?_map,List.getElem?_map]
 by_cases hi:i < m
 ·rw[List.getElem?_range hi]
  have:=(ha.at (w:=1) (q:=(i:Int)) (by omega) (by omega)).1
  rw[if_pos rfl] at this
  rw[show ((i:Int)).toNat=i by omega] at this
  rw[this]
  show some (iC a b (a.at 1 (i:Int)) 1)=_
  rw[aDC ha hb (by omega) (by omega)];rfl
 ·rw[List.getElem?_eq_none (by rw[ha.lf];omega),List.getElem?_eq_none (by simp;omega)];rfl
theorem aFT{a b:Tb}{m:Nat}(ha:a.good m)(hb:b.good m):b.a.map (fun th=>iC a b th (-1))=(aT m [a,b]).a:=by
 refine List.ext_getElem? fun i=>?_
 show _=((List.range m).map _)[i]?
 rw[List.getElem?_map,List.getElem?_map]
 by_cases hi:i < m
 ·rw[List.getElem?_range hi]
  have:=(hb.at (w:=-1) (q:=(i:Int)) (by omega) (by omega)).1
  rw[if_neg (by decide)] at this
  rw[show ((i:Int)).toNat=i by omega] at this
  rw[this]
  show some (iC a b (b.at (-1) (i:Int)) (-1))=_
  rw[aFR ha hb (by omega) (by omega)];rfl
 ·rw[List.getElem?_eq_none (by rw[hb.la];omega),List.getElem?_eq_none (by simp;omega)];rfl
def thD:Th->PyData
 | none=>.none
 | some (d,q)=>fH d q
def tbD(t:Tb):PyData:=nE (t.f.map thD) (t.a.map thD)
theorem aFU(x:Th):iN (thD x):=by
 cases x with
 | none=>exact .inl rfl
 | some o=>exact .inr ⟨o.1,o.2,rfl⟩
theorem lX(l:List Th):∀ d∈l.map thD,iN d:=fun d hd=>by
 obtain ⟨x,_,rfl⟩:=List.mem_map.mp hd
 exact aFU x
def bM(m:Nat):Tb:=⟨(List.range m).map fun q:Nat=>some (1,(q:Int)),(List.range m).map fun q:Nat=>some (-1,(q:Int))⟩
theorem aIP(m:Nat):tbD (bM m)=nE (aDA m) (aDB m):=by
 unfold tbD bM aDA aDB
 rw[List.map_map,List.map_map];rfl
theorem nG(m:Nat):(bM m).good m where
 lf:=by unfold bM;simp
 la:=by unfold bM;simp
 gf:=fun x hx=>by
  obtain ⟨q,hq,rfl⟩:=List.mem_map.mp hx
  have:=List.mem_range.mp hq
  exact ⟨.inl rfl,by omega,by omega⟩
 ga:=fun x hx=>by
  obtain ⟨q,hq,rfl⟩:=List.mem_map.mp hx
  have:=List.mem_range.mp hq
  exact ⟨.inr rfl,by omega,by omega⟩
theorem nH{m:Nat}{w q:Int}(hw:w=1\/w = -1)(h0:0<=q)(h1:q < (m:Int)):(bM m).at w q=some (w,q):=by
 unfold Tb.at bM
 have hl:q.toNat < m:=by omega
 have e:((q.toNat:Nat):Int)=q:=by omega
 rcases hw with rfl|rfl
 ·rw[if_pos rfl,List.getD_eq_getElem?_getD,List.getElem?_map,List.getElem?_range hl]
  show (some (some ((1:Int),((q.toNat:Nat):Int)))).getD none=_
  rw[e];rfl
 ·rw[if_neg (by decide),List.getD_eq_getElem?_getD,List.getElem?_map,List.getElem?_range hl]
  show (some (some ((-1:Int),((q.toNat:Nat):Int)))).getD none=_
  rw[e];rfl
theorem xA{m:Nat}{a b:Tb}(ha:a.good m)(hb:b.good m)(h:∀ (w q:Int),(w=1\/w = -1)->0<=q->q < (m:Int)->a.at w q=b.at w q):a=b:=by
 have key:∀ w:Int,(w=1\/w = -1)->(if w=1 then a.f else a.a)=(if w=1 then b.f else b.a):=fun w hw=>by
  refine List.ext_getElem? fun i=>?_
  by_cases hi:i < m
  ·have e1:=(ha.at (w:=w) (q:=(i:Int)) (by omega) (by omega)).1
   have e2:=(hb.at (w:=w) (q:=(i:Int)) (by omega) (by omega)).1
   rw[show ((i:Int)).toNat=i by omega] at e1 e2
   rw[e1,e2,h w i hw (by omega) (by omega)]
  ·rw[List.getElem?_eq_none (by split;rw[ha.lf];omega;rw[ha.la];omega),List.getElem?_eq_none (by split;rw[hb.lf];omega;rw[hb.la];omega)]
 have f:=key 1 (.inl rfl)
 have g:=key (-1) (.inr rfl)
 rw[if_pos rfl,if_pos rfl] at f
 rw[if_neg (by decide),if_neg (by decide)] at g
 cases a;cases b
 dsimp only at f g
 rw[f,g]
theorem aIQ{m:Nat}{t:Tb}(h:t.good m):aT m [t]=t:=by
 refine xA (hU (fun x hx=>by rw[List.mem_singleton.mp hx];exact h) (by simp)) h fun w q hw h0 h1=>?_
 rw[lT h0 h1]
 have g:=(h.at (w:=w) h0 h1).2
 have key:bQ (aN [t]) (0,w,q)=t.at w q:=by
  have e:([t].getD (0:Int).toNat ⟨[],[]⟩)=t:=rfl
  cases hh:t.at w q with
  | none=>exact iW (by unfold aN;dsimp only;rw[e,hh])
  | some x=>
   obtain ⟨w',q'⟩:=x
   rw[hh] at g
   refine gI (by unfold aN;dsimp only;rw[e,hh];dsimp only;rw[if_neg];rcases g.1 with rfl|rfl<;>(show ¬ (0<=(0:Int)+_/\(0:Int)+_ < 1);decide))
 rcases hw with rfl|rfl
 ·rw[if_pos rfl];exact key
 ·rw[if_neg (by decide)];exact key
theorem aBG{m:Nat}{t:Tb}(h:t.good m):aT m [bM m,t]=t:=by
 have hg:∀ x∈[bM m,t],x.good m:=fun x hx=>by
  rcases List.mem_cons.mp hx with z|z
  ·rw[z];exact nG m
  ·rw[List.mem_singleton.mp z];exact h
 have e0:([bM m,t].getD (0:Int).toNat ⟨[],[]⟩)=bM m:=rfl
 have e1:([bM m,t].getD (1:Int).toNat ⟨[],[]⟩)=t:=rfl
 refine xA (hU hg (by simp)) h fun w q hw h0 h1=>?_
 have inner:∀ w:Int,bQ (aN [bM m,t]) (1,w,q)=t.at w q:=fun w=>by
  have g:=(h.at (w:=w) h0 h1).2
  cases hh:t.at w q with
  | none=>exact iW (by unfold aN;dsimp only;rw[e1,hh])
  | some x=>
   obtain ⟨w',q'⟩:=x
   rw[hh] at g
   obtain ⟨g1,g2,g3⟩:=g
   rcases g1 with rfl|rfl
   ·exact gI (by unfold aN;dsimp only;rw[e1,hh];dsimp only;rw[if_neg (by show ¬ (0<=(1:Int)+1/\(1:Int)+1 < 2);decide)])
   ·rw[jK (s':=(0,-1,q')) (by unfold aN;dsimp only;rw[e1,hh];dsimp only;rw[if_pos (by show (0<=(1:Int) + -1/\(1:Int) + -1 < 2);decide)];rfl)]
    exact gI (by unfold aN;dsimp only;rw[e0,nH (.inr rfl) g2 g3];dsimp only;rw[if_neg (by show ¬ (0<=(0:Int) + -1/\(0:Int) + -1 < 2);decide)])
 rw[lT h0 h1]
 rcases hw with rfl|rfl
 ·rw[if_pos rfl,jK (s':=(1,1,q)) (by unfold aN;dsimp only;rw[e0,nH (.inl rfl) h0 h1];dsimp only;rw[if_pos (by show (0<=(0:Int)+1/\(0:Int)+1 < 2);decide)];rfl)]
  exact inner 1
 ·rw[if_neg (by decide)];exact inner (-1)
theorem y8{m:Nat}{t:Tb}(h:t.good m):aT m [t,bM m]=t:=by
 have hg:∀ x∈[t,bM m],x.good m:=fun x hx=>by
  rcases List.mem_cons.mp hx with z|z
  ·rw[z];exact h
  ·rw[List.mem_singleton.mp z];exact nG m
 have e0:([t,bM m].getD (0:Int).toNat ⟨[],[]⟩)=t:=rfl
 have e1:([t,bM m].getD (1:Int).toNat ⟨[],[]⟩)=bM m:=rfl
 refine xA (hU hg (by simp)) h fun w q hw h0 h1=>?_
 have inner:∀ w:Int,bQ (aN [t,bM m]) (0,w,q)=t.at w q:=fun w=>by
  have g:=(h.at (w:=w) h0 h1).2
  cases hh:t.at w q with
  | none=>exact iW (by unfold aN;dsimp only;rw[e0,hh])
  | some x=>
   obtain ⟨w',q'⟩:=x
   rw[hh] at g
   obtain ⟨g1,g2,g3⟩:=g
   rcases g1 with rfl|rfl
   ·rw[jK (s':=(1,1,q')) (by unfold aN;dsimp only;rw[e0,hh];dsimp only;rw[if_pos (by show (0<=(0:Int)+1/\(0:Int)+1 < 2);decide)];rfl)]
    exact gI (by unfold aN;dsimp only;rw[e1,nH (.inl rfl) g2 g3];dsimp only;rw[if_neg (by show ¬ (0<=(1:Int)+1/\(1:Int)+1 < 2);decide)])
   ·exact gI (by unfold aN;dsimp only;rw[e0,hh];dsimp only;rw[if_neg (by show ¬ (0<=(0:Int) + -1/\(0:Int) + -1 < 2);decide)])
 rw[lT h0 h1]
 rcases hw with rfl|rfl
 ·rw[if_pos rfl];exact inner 1
 ·rw[if_neg (by decide),jK (s':=(0,-1,q)) (by unfold aN;dsimp only;show (match ([t,bM m].getD (1:Int).toNat ⟨[],[]⟩).at (-1) q with|none=>none|some (w,q)=>if 0<=(2:Int) - 1+w/\(2:Int) - 1+w < 2 then some (Sum.inl ((2:Int) - 1+w,w,q)) else some (Sum.inr (w,q)))=_;rw[e1,nH (.inr rfl) h0 h1];rfl)]
  exact inner (-1)
end Mc
namespace L2
open PySem PySem.Spec PyProof.Rows
def Its(z:Str):It:=⟨fun i _=>i < z.cps.size,fun i H x H'=>H'=H/\∃ c,z.cps[i]? = some c/\x=.str ⟨#[c]⟩,fun i _=>i=z.cps.size⟩
theorem xB{P:Program}{w:World}{K:Frag}{tg:Expr}(z:Str)(t:Tok)(T:String)(hT:∀ A:Around,A.handled=none->∀ it,Walks P w A it [it] [it] z.cps.size (SignAt z) fun i h=>h.IsStrIter it T z t i)
  (hself:∀ (A:Around) (it:Addr) (i:Nat) (s:Shared) (Q E:Value->Shared->Prop),s.heap.IsStrIter it T z t i->Q (.ref it) s->wpAny (model P w) A (pyIter (.ref it)) Q E s)
  (hno:["enumerate","zip","dict_itemiterator","dict_reverseitemiterator","odict_iterator","itertools.zip_longest","itertools.pairwise"].contains T=false) (it:Addr):Turn P w K tg (Its z) [it] it (fun i h=>h.IsStrIter it T z t i) where
 mem:=by simp
 obj:=fun i h st b hb=>by
  obtain rfl:b=it:=by simpa using hb
  obtain ⟨o,e,c,d⟩:=st
  exact ⟨o,e,fun v z=>by rw[d] at z;cases z⟩
 keep:=fun i h h' st k=>by
  obtain ⟨o,e,c,d⟩:=st
  exact ⟨o,k it (by simp) o e,c,d⟩
 item:=by
  intro X hP hw hK hc i pins s σ H E I hf st hg
  subst hP hw hK
  obtain ⟨f0,f1,f2,f3,f4,f5⟩:=hf it (by simp)
  refine (hT X.A (I.ok.hd hc) it).item i s _ E hg st fun v h' tk hv st' kp=>?_
  obtain ⟨c,tc,hcc,rfl⟩:=hv
  have I1:Inv X pins σ H {s with heap:=h',toks:=tk}:=I.turned (t':=tk) (it:=it) (fun b o hb e=>kp b o (by simpa using hb) e) f0 f1 f3 f4 f5
  obtain ⟨o,e,cc,d⟩:=id st'
  exact ⟨_,rfl,v0 (s:={s with heap:=h',toks:=tk}) e cc d hno ⟨.str ⟨#[c]⟩,H,I1,⟨_,rfl⟩,⟨rfl,c,hcc,rfl⟩,st',fun b hb=>(hf b hb).1⟩⟩
 done:=by
  intro X hP hw hK hc i pins s σ H E I hf st hg
  subst hP hw hK
  obtain ⟨f0,f1,f2,f3,f4,f5⟩:=hf it (by simp)
  have hg:i=z.cps.size:=hg
  subst hg
  exact (hT X.A (I.ok.hd hc) it).done s _ E st fun h' tk kp=>⟨rfl,I.turned (t':=tk) (it:=it) (fun b o hb e=>kp b o (by simpa using hb) e) f0 f1 f3 f4 f5⟩
 self:=fun A i s Q E st h=>hself A it i s Q E st h
def aO9(te:TE):TI:=fun σ H R=>te σ H fun x H1=>∃ z,x=.str z/\R (Its z) H1
theorem aDD{X:Cx}{tg l:Expr}{tl:TE}(hl:PE X l tl):PI X tg l (aO9 tl):=by
 intro pins s σ H R I h
 refine thn (hl pins s σ H _ I h) fun v s1 zz0=>?_
 obtain ⟨x,H1,I1,r1,q1⟩:=zz0
 obtain ⟨z,e,q⟩:=q1
 subst e
 obtain ⟨t,rfl⟩:=r1
 refine wpAny_pyIter_strU ?_
 have I2:Inv X pins σ H1 {s1 with heap:=s1.heap.push {cls:=.type (strIterType z),data:=.fields #[.str z t,.int 0 0]}}:=I1.kept (t':=s1.toks) fun b o e=>Heap.get?_push_of_some _ e
 have st:(s1.heap.push {cls:=.type (strIterType z),data:=.fields #[.str z t,.int 0 0]}).IsStrIter s1.heap.objs.size (strIterType z) z t 0:=⟨_,Heap.get?_push_size _ rfl,rfl,rfl⟩
 have fin:∀ b∈[s1.heap.objs.size],gG X pins H1 b:=fun b hb=>by
  obtain rfl:=List.mem_singleton.mp hb
  exact I1.fpOk (Nat.le_refl _) (I1.hok.fresh (Nat.le_refl _))
 by_cases ha:(z.cps.all fun x=>decide (x < 128))=true
 ·have eT:strIterType z="str_ascii_iterator":=by unfold strIterType;rw[if_pos ha]
  rw[eT] at st I2 ⊢
  exact ⟨s1.heap.objs.size,[s1.heap.objs.size],_,_,H1,rfl,I2,xB z t "str_ascii_iterator" (fun A hA it=>Walks.strAscii hA it z t) (fun A it i s Q E st h=>wpAny_pyIter_striter_ascii st h) (by decide) _,st,fin,q⟩
 ·have eT:strIterType z="str_iterator":=by unfold strIterType;rw[if_neg ha]
  rw[eT] at st I2 ⊢
  exact ⟨s1.heap.objs.size,[s1.heap.objs.size],_,_,H1,rfl,I2,xB z t "str_iterator" (fun A hA it=>Walks.strWide hA it z t) (fun A it i s Q E st h=>wpAny_pyIter_striter_wide st h) (by decide) _,st,fin,q⟩
theorem zW:∀ {xs:List V} {ys:List Value},xs.length=ys.length->(∀ (i:Nat) x y,xs[i]? = some x->ys[i]? = some y->a9 x y)->bA xs ys
 | [],[],_,_=>.nil
 | [],_::_,h,_=>by simp at h
 | _::_,[],h,_=>by simp at h
 | x::xs,y::ys,h,f=>.cons (f 0 x y rfl rfl) (zW (by simpa using h) fun i a b h1 h2=>f (i+1) a b (by simpa using h1) (by simpa using h2))
theorem y9{X:Cx}:gA X (.type "range") (fun xs H Q=>∃ n:Nat,xs=[.int n]/\n<=1000000/\∀ p,H p=none->Q (.ref p) (upd H p (.rng 0 n))):=by
 intro pins s σ H xs us Q I r h
 obtain ⟨n,rfl,hn,q⟩:=h
 obtain ⟨u,rfl,t,rfl⟩:=iB r
 refine call_range_1 ?_
 refine ⟨.ref s.heap.objs.size,_,I.laid (o:=.rng 0 n) (fun b ob q=>Heap.get?_push_of_some _ q) (Nat.le_refl _) ⟨_,_,_,Heap.get?_push_size _ rfl⟩,rfl,q _ (I.hok.fresh (Nat.le_refl _))⟩
theorem vP{X:Cx}(hc:X.calm=true):gA X (.type "list") (fun xs H Q=>∃ (p:Addr) (n:Nat),xs=[.ref p]/\H p=some (.rng 0 n)/\n<=1000000/\∀ l,H l=none->Q (.ref l) (upd H l (.lst ((List.range n).map fun i:Nat=>V.int (i:Int))))):=by
 intro pins s σ H xs us Q I r h
 obtain ⟨p,n,rfl,hp,hn,q⟩:=h
 obtain ⟨u,rfl,ru⟩:=iB r
 cases (show u=Value.ref p from ru)
 obtain ⟨t,u,v,hr⟩:=(show b5 X.prog X.w H s.heap p (.rng 0 n) from I.hok p _ hp)
 refine call_list_range (a:=0) (b:=(n:Int)) (c:=1) (n:=n) (I.ok.hd hc) hr (small_one (by omega) (by omega) (by omega) (by omega)) (by rw[rangeSize_one];split<;>omega) (by omega) fun h' tk acc c kp e it=>?_
 have hv:bA ((List.range n).map fun i:Nat=>V.int (i:Int)) acc.toList:=by
  refine zW (by rw[List.length_map,List.length_range,Array.length_toList,it.1]) fun i x y h1 h2=>?_
  rw[List.getElem?_map] at h1
  cases e':(List.range n)[i]? with
  | none=>rw[e'] at h1;cases h1
  | some k=>
   rw[e'] at h1
   cases h1
   have hk:k=i:=by
    obtain ⟨hl,he⟩:=List.getElem?_eq_some_iff.mp e'
    rw[<-he];simp
   obtain ⟨t',rfl⟩:=it.2 i y (by rw[<-h2,Array.getElem?_toList])
   refine ⟨t',?_⟩
   rw[hk,show (0:Int)+(i:Int) * 1=(i:Int) by omega]
 refine ⟨.ref s.heap.objs.size,_,I.laid (t':=tk) (o:=.lst ((List.range n).map fun i:Nat=>V.int (i:Int))) kp (Nat.le_refl _) ⟨by simp;exact Nat.le_trans hn (by decide),acc.toList,c,hv,by simpa using e⟩,rfl,q _ (I.hok.fresh (Nat.le_refl _))⟩
end L2
namespace L2
open PySem PySem.Spec PyProof.Rows
structure InK(env:Env)(s₀:Shared)(m cm:Str->Option Value)(s:Shared):Prop where
 ic:InCall s₀ env.locals m s
 cell:∀ n c,env.cells.lookup n=some c->s.heap.IsCell c (cm n)
 inj:∀ n n' c,env.cells.lookup n=some c->env.cells.lookup n'=some c->n=n'
 ne:∀ n c,env.cells.lookup n=some c->c≠env.locals
 up:∀ n c,env.kindOf n=some .cell->env.cells.lookup n=some c->env.locals < c
structure ClAt(h:Heap)(scope:Scope)(cl:List (Str×Addr))(cm:Str->Option Value):Prop where
 cell:∀ n c,cl.lookup n=some c->h.IsCell c (cm n)
 inj:∀ n n' c,cl.lookup n=some c->cl.lookup n'=some c->n=n'
 off:∀ y∈scope.names,y.2=.cell->cl.lookup y.1=none
end L2
namespace L2
open PySem PySem.Spec PyProof.Rows
def FnO(f:Addr)(o:Obj):HO:=.ext fun h=>h.get? f=some o
def aFV(c:Addr)(o:Obj)(v:V):HO:=.frz o (.ext fun h=>∃ u,a9 v u/\h.IsCell c (some u))
section
variable{P:Program}{w:World}{H:Hp}{h:Heap}
theorem FnO.get{f:Addr}{o:Obj}(x:HOk P w H h)(e:H f=some (FnO f o)):h.get? f=some o:=(x f _ e).1
theorem FnO.ok{f:Addr}{o:Obj}(e:h.get? f=some o):b5 P w H h f (FnO f o):=⟨e,⟨o,e⟩,fun h1 h2 q k=>k o q⟩
theorem aFV.ok{c:Addr}{o:Obj}{v:V}{u:Value}(r:a9 v u)(e:h.get? c=some o)(hd:o.data=.cell (some u)):b5 P w H h c (aFV c o v):=
 ⟨e,⟨u,r,o,e,hd⟩,⟨o,e⟩,fun h1 h2 ⟨u,r,o,ho,hd⟩ k=>⟨u,r,o,k o ho,hd⟩⟩
end
structure CloScope(N ps fr:List Str)(sc:Scope):Prop where
 kind:sc.kind=.function
 co:sc.isCoroutine=false
 gen:sc.isGenerator=false
 nd:N.Nodup
 pre:N.take (ps++fr).length=ps++fr
 par:∀ x∈ps,sc.names.lookup x=some .local\/sc.names.lookup x=some .cell
 cap:∀ x∈fr,sc.names.lookup x=some .free
 only:∀ y∈sc.names,y.2=.free->y.1∈fr
 off:∀ y∈sc.names,y.2=.cell->y.1∉fr
structure CapAt(H:Hp)(fr:List Str)(cl:List (Str×Addr))(vs:List V):Prop where
 len:vs.length=fr.length
 only:∀ n c,cl.lookup n=some c->n∈fr
 inj:∀ n n' c,cl.lookup n=some c->cl.lookup n'=some c->n=n'
 at':∀ (i:Nat) x v,fr[i]? = some x->vs[i]? = some v->∃ c o,cl.lookup x=some c/\H c=some (aFV c o v)
noncomputable def aIR(fr:List Str)(cl:List (Str×Addr)):List Addr:=fr.filterMap fun x=>cl.lookup x
theorem CapAt.same{H H':Hp}{fr:List Str}{cl:List (Str×Addr)}{vs:List V}(a:CapAt H fr cl vs)(s:aF H H'):CapAt H' fr cl vs:=⟨a.len,a.only,a.inj,fun i x v h1 h2=>let ⟨c,o,e,q⟩:=a.at' i x v h1 h2;⟨c,o,e,s _ _ q⟩⟩
end L2
namespace L2
open PySem PySem.Spec PyProof.Rows
structure ClSt where
 name:Str
 qual:Str
 params:Arguments
 body:FuncBody
 scope:Scope
noncomputable def ClSt.fd(S:ClSt)(cl:List (Str×Addr))(doc pm:Value)(c:Addr)(ct:Value):FuncData:=
 {name:=S.name,qualname:=S.qual,params:=S.params,body:=S.body,scope:=S.scope,globals:=mainGlobals,closure:=cl,defaults:=.none,kwdefaults:=.none,doc:=doc,pyModule:=pm,annotations:=none,code:=.ref c,closureTuple:=ct,builtins:=builtinsNs}
abbrev ClSt.obj(S:ClSt)(cl:List (Str×Addr))(doc pm:Value)(c:Addr)(ct:Value):Obj:={cls:=.type "function",data:=.func (S.fd cl doc pm c ct)}
end L2
namespace L2
open PySem PySem.Spec PyProof.Rows
structure ClOf(cells:List (Str×Addr))(sc:Scope)(cl:List (Str×Addr)):Prop where
 of:∀ x c,cl.lookup x=some c->cells.lookup x=some c
 all:∀ x∈sc.names,x.2=.free->∃ c,cl.lookup x.1=some c
 only:∀ x c,cl.lookup x=some c->(x,NameKind.free)∈sc.names
structure Tb(mg:Str->Option Value)(base:Heap)(c0 P0:Addr):Prop where
 hd:PySem.W.CodeHd base c0 P0
 bt:∃ bm ob,mg "__builtins__"=some (.ref bm)/\bm≠builtinsNs/\base.get? bm=some ob/\ob.cls=.type "module"/\ob.dict=some builtinsNs/\ob.data=.plain
end L2
namespace L2
open PySem PySem.Spec PyProof.Rows
abbrev Cv:=List (Addr×Obj×V)
noncomputable def aPA(cv:Cv):List Addr:=cv.map (·.1)
structure PubRel(X:Cx)(σ:St)(H:Hp)(js:List Nat)(cv:Cv):Prop where
 at':∀ b o v,cv.lookup b=some (o,v)->∃ x j,j∈js/\X.N[j]? = some x/\X.env.cells.lookup x=some b/\σ[j]? = some (some v)
 all:∀ j∈js,∃ x c o v,X.N[j]? = some x/\X.env.cells.lookup x=some c/\σ[j]? = some (some v)/\cv.lookup c=some (o,v)
 free:∀ b∈aPA cv,H b=none
 inj:∀ x y c,X.env.cells.lookup x=some c->X.env.cells.lookup y=some c->x=y
end L2
namespace L2
open PySem PySem.Spec PyProof.Rows
end L2
namespace Fl
open PySem L2 PyProof.Rows
mutual
noncomputable def dU:PyData->Bool
 | .none=>true
 | .int _=>true
 | .str x=>PyData.strOk x
 | .tuple xs=>dP xs
 | _=>false
noncomputable def dP:List PyData->Bool
 | []=>true
 | x::t=>dU x && dP t
end
mutual
noncomputable def gC(w:World):PyData->Int
 | .none=>reduceHash 0xFCA86420
 | .int i=>hashInt i
 | .str x=>hashStr w x
 | .tuple xs=>reduceHash (Builtin.Tuple.tupleHashOf (kR w xs))
 | _=>0
noncomputable def kR(w:World):List PyData->List Int
 | []=>[]
 | x::t=>gC w x::kR w t
end
mutual
noncomputable def fJ:PyData->Nat
 | .tuple xs=>kZ xs+1
 | _=>1
noncomputable def kZ:List PyData->Nat
 | []=>0
 | x::t=>fJ x+kZ t
end
mutual
theorem mQ:∀ {d:PyData},dU d=true->d.canLay0=true
 | .none,_=>rfl
 | .int _,_=>rfl
 | .str x,h=>h
 | .tuple xs,h=>by
  have h':dP xs=true:=h
  exact xC h'
theorem xC:∀ {xs:List PyData},dP xs=true->PyData.canLayAll0 xs=true
 | [],_=>rfl
 | x::t,h=>by
  have h':(dU x && dP t)=true:=h
  rw[Bool.and_eq_true] at h'
  show (x.canLay0 && PyData.canLayAll0 t)=true
  rw[mQ h'.1,xC h'.2];rfl
end
mutual
theorem tX:∀ {d e:PyData},dU d=true->dU e=true->(PyData.eqv d e=true↔d=e)
 | .none,e,_,he=>by cases e<;>simp[PyData.eqv]<;>cases he
 | .int i,e,_,he=>by cases e<;>simp[PyData.eqv]<;>cases he
 | .str x,e,_,he=>by cases e<;>simp[PyData.eqv]<;>cases he
 | .tuple xs,e,hd,he=>by
  have hd':dP xs=true:=hd
  cases e with
  | tuple ys=>
   have he':dP ys=true:=he
   have:=xD hd' he'
   show PyData.eqvAll xs ys=true↔_
   rw[this]
   exact ⟨fun z=>by rw[z],fun z=>by cases z;rfl⟩
  | _=>simp[PyData.eqv]<;>cases he
theorem xD:∀ {xs ys:List PyData},dP xs=true->dP ys=true->(PyData.eqvAll xs ys=true↔xs=ys)
 | [],ys,_,_=>by cases ys<;>simp[PyData.eqvAll]
 | x::t,ys,hx,hy=>by
  have hx':(dU x && dP t)=true:=hx
  rw[Bool.and_eq_true] at hx'
  cases ys with
  | nil=>simp[PyData.eqvAll]
  | cons y u=>
   have hy':(dU y && dP u)=true:=hy
   rw[Bool.and_eq_true] at hy'
   rw[PyData.eqvAll,Bool.and_eq_true,tX hx'.1 hy'.1,xD hx'.2 hy'.2]
   exact ⟨fun ⟨a,b⟩=>by rw[a,b],fun z=>by cases z;exact ⟨rfl,rfl⟩⟩
end
noncomputable instance decPyData:DecidableEq PyData:=fun a b=>Classical.propDecidable (a=b)
theorem aIS{d e:PyData}(hd:dU d=true)(he:dU e=true):PyData.eqv d e=decide (d=e):=by
 by_cases h:d=e
 ·rw[decide_eq_true h,(tX hd he).mpr h]
 ·rw[decide_eq_false h]
  cases q:PyData.eqv d e with
  | false=>rfl
  | true=>exact absurd ((tX hd he).mp q) h
end Fl
namespace Fl
open PySem L2 PyProof.Rows
theorem aBH(xs:List PyData):fJ (.tuple xs)=kZ xs+1:=by rw[fJ]
theorem u2(A:Around):A.in1.units=A.units+1:=rfl
def j7(prog:Program)(w:World)(E:Value->Shared->Prop)(d:PyData):Prop:=∀ (v:Value) (as:List Addr) (A:Around) (s:Shared) (Q:Int->Shared->Prop),dU d=true->Reads s.heap v d as->A.units+d.depth < cLine->Q (gC w d) {s with toks:=s.toks+fJ d}->
 wpAny (model prog w) A (pyHash v) Q E s
theorem aLU{prog:Program}{w:World}{E:Value->Shared->Prop}:∀ (xs:List PyData) (ih:∀ x∈xs,j7 prog w E x) (vs:List Value) (as:List Addr) (A:Around) (s:Shared) (b:Array Int) (Q:Array Int->Shared->Prop),dP xs=true->ReadsAll s.heap vs xs as->A.units+PyData.depthAll xs < cLine->
  (∀ b',b'.toList=b.toList++kR w xs->Q b' {s with toks:=s.toks+kZ xs})->
  wpAny (model prog w) A (forIn vs b fun x r=>do let h <-pyHash x;pure PUnit.unit;pure (ForInStep.yield (r.push h))) Q E s:=by
 intro xs
 induction xs with
 | nil=>
  intro ih vs as A s b Q _ x _ h
  cases x
  exact wpAny_pure (h b (by simp[kR]))
 | cons k xs ih0=>
  intro ih vs as A s b Q hk x hu h
  cases x with
  | @cons v vs _ _ as bs x1 x2=>
   have hk':(dU k && dP xs)=true:=hk
   rw[Bool.and_eq_true] at hk'
   have hu':A.units+max k.depth (PyData.depthAll xs) < cLine:=hu
   rw[List.forIn_cons]
   refine wpAny_bind (wpAny_bind (ih k List.mem_cons_self _ _ A s _ hk'.1 x1 (by omega) ?_))
   refine wpAny_bind (wpAny_pure (wpAny_pure ?_))
   refine ih0 (fun x hx=>ih x (List.mem_cons_of_mem _ hx)) _ _ A {s with toks:=s.toks+fJ k} _ Q hk'.2 x2 (by omega) fun b' hb=>?_
   have q:=h b' (by rw[hb];simp[kR])
   rw[show kZ (k::xs)=fJ k+kZ xs by rw[kZ],<-Nat.add_assoc] at q
   exact q
end Fl
namespace Fl
open PySem L2 PyProof.Rows
theorem u7(w:World)(i:Int):gC w (.int i)=hashInt i:=by rw[gC]
theorem u8(w:World)(i:Str):gC w (.str i)=hashStr w i:=by rw[gC]
theorem aDE(w:World)(xs:List PyData):gC w (.tuple xs)=reduceHash (Builtin.Tuple.tupleHashOf (kR w xs)):=by rw[gC]
theorem aBI(i:Int):fJ (.int i)=1:=by unfold fJ;rfl
theorem aBJ(i:Str):fJ (.str i)=1:=by unfold fJ;rfl
theorem aFW{prog:Program}{w:World}{E:Value->Shared->Prop}(i:Int):j7 prog w E (.int i):=fun v as A s Q _ r _ h=>by
 rw[u7,aBI] at h
 cases r
 exact wpAny_pyHash_int h
theorem aFX{prog:Program}{w:World}{E:Value->Shared->Prop}(i:Str):j7 prog w E (.str i):=fun v as A s Q _ r _ h=>by
 rw[u8,aBJ] at h
 cases r
 exact wpAny_pyHash_str h
theorem aFY{prog:Program}{w:World}{E:Value->Shared->Prop}(xs:List PyData)(ih:∀ x∈xs,j7 prog w E x):j7 prog w E (.tuple xs):=fun v as A s Q hk r hu h=>by
 rw[aDE,aBH] at h
 cases r with
 | @tuple a o vs n _ as h1 h2 h3 h4=>
  have hk':dP xs=true:=hk
  have hu':A.units+(PyData.depthAll xs+1) < cLine:=hu
  refine PySem.W.pyHash_slot (T:="tuple") ⟨o,h1,h2⟩ F.slot_tuple_hash F.entry_tuple_hash (F.args_tuple_hash_1 _) (beq_builtin_none _) (.inr (by omega)) ?_
  show wpAny _ _ (Builtin.Tuple.tupleItemsOf (.ref a) >>= _) _ _ s
  refine wpAny_bind (wpAny_tupleItemsOf h1 h3 ?_)
  refine wpAny_bind ?_
  rw[<-Array.forIn_toList]
  refine aLU xs ih vs.toList as A.in1 s #[] _ hk' h4 (by rw[u2];omega) fun b hb=>?_
  show wpAny _ _ (retInt (Builtin.Tuple.tupleHashOf b.toList)) _ _ _
  rw[hb]
  exact wpAny_bind (wpAny_mkInt (wpAny_pure ⟨_,_,rfl,h⟩))
end Fl
namespace Fl
open PySem L2 PyProof.Rows
theorem aBK(w:World):gC w .none=reduceHash 0xFCA86420:=by rw[gC]
theorem zA:fJ .none=1:=by unfold fJ;rfl
theorem aFZ{prog:Program}{w:World}{E:Value->Shared->Prop}:j7 prog w E .none:=fun v as A s Q _ r hu h=>by
 rw[aBK,zA] at h
 generalize hg:reduceHash 0xFCA86420=g at h
 cases r
 refine PySem.W.pyHash_slot (T:="NoneType") rfl F.slot_NoneType_hash F.entry_NoneType_hash (F.args_NoneType_hash_1 _) (beq_builtin_none _) (.inr (by omega)) (wpAny_bind (wpAny_pure (wpAny_bind (wpAny_mkInt (wpAny_pure ⟨0xFCA86420,_,rfl,?_⟩)))))
 rw[hg]
 exact h
end Fl
namespace Fl
open PySem L2 PyProof.Rows
theorem aLV{prog:Program}{w:World}{E:Value->Shared->Prop}:∀ (n:Nat) (d:PyData),sizeOf d<=n->j7 prog w E d:=by
 intro n
 induction n with
 | zero=>intro d h;cases d<;>simp at h
 | succ n ih=>
  intro d h
  cases d with
  | none=>exact aFZ
  | int i=>exact aFW i
  | str x=>exact aFX x
  | tuple xs=>
   refine aFY xs fun x hx=>ih x ?_
   have:=List.sizeOf_lt_of_mem hx
   simp only[PyData.tuple.sizeOf_spec] at h
   omega
  | bool b=>exact fun v as A s Q hk=>nomatch hk
  | list xs=>exact fun v as A s Q hk=>nomatch hk
  | dict xs=>exact fun v as A s Q hk=>nomatch hk
theorem aLW{prog:Program}{w:World}{E:Value->Shared->Prop}(d:PyData):j7 prog w E d:=aLV (sizeOf d) d (Nat.le_refl _)
theorem aIT{M:Model}{A:Around}{E:Value->Shared->Prop}{s:Shared}:∀ (n:Nat) (d:PyData) (v:Value) (as:List Addr) (Q:Bool->Shared->Prop),dU d=true->Reads s.heap v d as->d.depth<=n->Q true s->wpAny M A (eqIsQuiet n v) Q E s:=by
 intro n
 induction n with
 | zero=>
  intro d v as Q hk r hd h
  cases d with
  | none=>cases r;rw[eqIsQuiet_byValue _ rfl];exact wpAny_pure h
  | int i=>cases r;rw[eqIsQuiet_byValue _ rfl];exact wpAny_pure h
  | str x=>cases r;rw[eqIsQuiet_byValue _ rfl];exact wpAny_pure h
  | tuple xs=>
   have hd':PyData.depthAll xs+1<=0:=hd
   omega
  | bool b=>exact nomatch hk
  | list xs=>exact nomatch hk
  | dict xs=>exact nomatch hk
 | succ n ih=>
  intro d v as Q hk r hd h
  cases d with
  | none=>cases r;rw[eqIsQuiet_byValue _ rfl];exact wpAny_pure h
  | int i=>cases r;rw[eqIsQuiet_byValue _ rfl];exact wpAny_pure h
  | str x=>cases r;rw[eqIsQuiet_byValue _ rfl];exact wpAny_pure h
  | bool b=>exact nomatch hk
  | list xs=>exact nomatch hk
  | dict xs=>exact nomatch hk
  | tuple xs=>
   cases r with
   | @tuple a o vs m _ as h1 h2 h3 h4=>
    have hk':dP xs=true:=hk
    have hd':PyData.depthAll xs+1<=n+1:=hd
    have hT:s.TypeIs (.ref a) "tuple":=⟨o,h1,h2⟩
    unfold eqIsQuiet
    refine wpAny_bind (wpAny_specialOf hT F.slot_tuple_eq.lookup ?_)
    show wpAny _ _ (isInstance (.ref a) (.type "tuple") >>= _) _ _ s
    refine wpAny_bind (wpAny_isInstance hT isSubtype_tuple_tuple ?_)
    simp only[Bool.not_true,Bool.false_eq_true,if_false]
    refine wpAny_bind (wpAny_seqItems h1 h3 ?_)
    refine wpAny_bind ?_
    show wpAny _ _ (forIn vs _ _) _ _ s
    rw[<-Array.forIn_toList]
    refine wpAny_forIn_list _ (fun rest r s'=>r.1=none/\s'=s/\∃ ys bs,dP ys=true/\PyData.depthAll ys<=n/\ReadsAll s.heap rest ys bs) _ ?_ ?_ _ _ ⟨rfl,rfl,xs,_,hk',by omega,h4⟩
    ·rintro v rest r s' ⟨hr,rfl,ys,bs,hy,hdy,ry⟩
     cases ry with
     | @cons _ _ y yt cs ds r1 r2=>
      have hy':(dU y && dP yt)=true:=hy
      rw[Bool.and_eq_true] at hy'
      have hdy':max y.depth (PyData.depthAll yt)<=n:=hdy
      refine wpAny_bind (ih y v _ _ hy'.1 r1 (by omega) ?_)
      simp only[Bool.not_true,Bool.false_eq_true,if_false]
      exact wpAny_pure ⟨rfl,rfl,yt,_,hy'.2,by omega,r2⟩
    ·rintro ⟨r1,r2⟩ s' ⟨hr,rfl,_⟩
     simp only at hr
     subst hr
     exact wpAny_pure h
def aPB(h:Heap)(d:PyData)(a:Addr):Prop:=dU d=true/\d.depth<=8/\∃ as,Reads h (.ref a) d as
theorem aBL{h h':Heap}{a:Addr}{o:Obj}{es:Array DictEntry}{ep:Nat}(ho:h.get? a=some o)(hd:o.data=.dict es ep)(hs:Heap.SameBut a h h'){v:Value}{d:PyData}{as:List Addr}(hk:dU d=true)(r:Reads h v d as):Reads h' v d as:=by
 refine Reads.rec (motive_1:=fun v d as _=>dU d=true->Reads h' v d as) (motive_2:=fun vs xs as _=>dP xs=true->ReadsAll h' vs xs as) ?_ ?_ ?_ ?_ ?_ ?_ ?_ ?_ ?_ r hk
 ·exact fun _=>.none
 ·intro b hk;cases hk
 ·exact fun i t _=>.int i t
 ·exact fun i t _=>.str i t
 ·intro b o' vs n xs as h1 h2 h3 h4 ih hk;cases hk
 ·intro b o' vs n xs as h1 h2 h3 h4 ih hk
  exact .tuple ((hs.2 b (fun z=>by subst z;rw[ho] at h1;cases h1;rw[hd] at h3;cases h3)).trans h1) h2 h3 (ih hk)
 ·intro b o' es' n kvs as bs h1 h2 h3 h4 h5 i1 i2 hk;cases hk
 ·exact fun _=>.nil
 ·intro v vs d ds as bs r1 r2 i1 i2 hk
  exact .cons (i1 ((Bool.and_eq_true ..).mp hk).1) (i2 ((Bool.and_eq_true ..).mp hk).2)
noncomputable def gJ(prog:Program)(w:World):HeapKind prog w PyData where
 is:=aPB
 hash:=gC w
 draws:=fJ
 room:=fun A=>A.units+9 < cLine
 inj:=fun {h a x y} hx hy=>by
  obtain ⟨k1,_,as,r1⟩:=hx
  obtain ⟨k2,_,bs,r2⟩:=hy
  exact PySem.SeqAt.Reads.unique x y _ _ _ (mQ k1) r1 r2
 keeps:=fun {h h' k a d o es ep} hx ho hd hs=>by
  obtain ⟨k1,k2,as,r1⟩:=hx
  exact ⟨k1,k2,as,aBL ho hd hs k1 r1⟩
 pyHash:=fun {A E s k a Q} hu hk h=>by
  obtain ⟨k1,k2,as,r1⟩:=hk
  exact aLW k _ as A s Q k1 r1 (by omega) h
 eqBool:=fun {A E s x y a b Q} hu hx hy h=>by
  obtain ⟨k1,k2,as,r1⟩:=hx
  obtain ⟨l1,l2,bs,r2⟩:=hy
  refine PySem.SeqAt.eqAt_reads x y A s _ _ as bs r1 r2 (mQ k1) (mQ l1) ?_ prog w E Q ?_
  ·have:min x.depth y.depth<=8:=Nat.le_trans (Nat.min_le_left _ _) k2
   omega
  ·rw[aIS k1 l1];exact h
 quiet:=fun {A E s k a Q} hk h=>by
  obtain ⟨k1,k2,as,r1⟩:=hk
  exact aIT 8 k _ as Q k1 r1 k2 h
end Fl
namespace Fl
open PySem L2 PyProof.Rows
abbrev Ent:=PyData×V×V
def pY(w:World)(p:Ent)(en:DictEntry):Prop:=en.hash=gC w p.1/\a9 p.2.1 en.key/\a9 p.2.2 en.val
def cD(w:World)(a:Addr)(es:List Ent)(ep:Nat):HO:=.ext fun h=>(a == sysModules)=false/\∃ o ar,h.get? a=some o/\o.ExactDict/\o.data=.dict ar ep/\Paired (pY w) es ar.toList
theorem gQ{P:Program}{w:World}{H:Hp}{h:Heap}{a:Addr}{es:List Ent}{ep:Nat}(hd:(a == sysModules)=false)(hh:∃ o ar,h.get? a=some o/\o.ExactDict/\o.data=.dict ar ep/\Paired (pY w) es ar.toList):b5 P w H h a (cD w a es ep):=
 ⟨⟨hd,hh⟩,let ⟨o,_,e,_⟩:=hh;⟨o,e⟩,fun h1 h2 ⟨q,o,es,e,r⟩ kp=>⟨q,o,es,kp _ e,r⟩⟩
noncomputable def g6:PyData->Bool
 | .tuple xs=>dU (.tuple xs) && decide ((PyData.tuple xs).depth<=8)
 | _=>false
noncomputable def aBM:PyData->Bool
 | .int _=>true
 | .str _=>true
 | _=>false
def cO(k:PyData)(ks:List PyData):Bool:=(g6 k && ks.all g6) || (aBM k && ks.all aBM)
theorem aIU{d:PyData}(h:g6 d=true):∃ xs,d=.tuple xs/\dU d=true/\d.depth<=8:=by
 cases d with
 | tuple xs=>
  have h':(dU (.tuple xs) && decide ((PyData.tuple xs).depth<=8))=true:=h
  rw[Bool.and_eq_true] at h'
  exact ⟨xs,rfl,h'.1,of_decide_eq_true h'.2⟩
 | _=>cases h
def iX:Key->PyData
 | .inl i=>.int i
 | .inr x=>.str x
theorem zX{d:PyData}(h:aBM d=true):∃ k,d=iX k:=by
 cases d with
 | int i=>exact ⟨.inl i,rfl⟩
 | str i=>exact ⟨.inr i,rfl⟩
 | _=>cases h
theorem u9{a b:Key}(h:iX a=iX b):a=b:=by
 cases a<;>cases b<;>cases h<;>rfl
theorem zY{K:Frag}{H:Hp}{v:V}{k:Key}(h:DatV K H v (iX k)):v=kV k:=by
 cases k with
 | inl i=>exact h.int_of
 | inr x=>exact h.str_of
theorem xE{P:Program}{w:World}(k:Key):gC w (iX k)=(dE P w).hash k:=by
 cases k with
 | inl i=>exact u7 w i
 | inr x=>exact u8 w x
def tY:Ent->(PyData×Addr×Value)->Prop:=fun e x=>e.1=x.1/\e.2.1=.ref x.2.1/\a9 e.2.2 x.2.2
def tZ:Ent->(Key×Value)->Prop:=fun e x=>e.1=iX x.1/\e.2.1=kV x.1/\a9 e.2.2 x.2
theorem aDF{P:Program}{w:World}:∀ {es:List Ent} {ens:List DictEntry},Paired (pY w) es ens->(∀ e∈es,∃ b,e.2.1=.ref b)->∃ xs,ens=xs.map (entryOfKey (gJ P w))/\Paired tY es xs
 | _,_,.nil,_=>⟨[],rfl,.nil⟩
 | e::es,en::ens,.cons h t,hb=>by
  obtain ⟨xs,h1,h2⟩:=aDF (P:=P) t fun e he=>hb e (List.mem_cons_of_mem _ he)
  obtain ⟨b,hb'⟩:=hb e List.mem_cons_self
  obtain ⟨q1,q2,q3⟩:=h
  rw[hb'] at q2
  obtain ⟨hash,key,val⟩:=en
  have q2':key=Value.ref b:=q2
  have q1':hash=gC w e.1:=q1
  subst q2' q1'
  exact ⟨(e.1,b,val)::xs,by rw[List.map_cons,h1];rfl,.cons ⟨rfl,hb',q3⟩ h2⟩
theorem nI{P:Program}{w:World}:∀ {es:List Ent} {xs:List (PyData×Addr×Value)},Paired tY es xs->Paired (pY w) es (xs.map (entryOfKey (gJ P w)))
 | _,_,.nil=>.nil
 | _,_,.cons h t=>.cons ⟨by rw[h.1];rfl,by rw[h.2.1];rfl,h.2.2⟩ (nI t)
theorem aDG{P:Program}{w:World}:∀ {es:List Ent} {ens:List DictEntry},Paired (pY w) es ens->(∀ e∈es,∃ k,e.1=iX k/\e.2.1=kV k)->∃ xs,Pairs (dE P w) ens xs/\Paired tZ es xs/\∀ en∈ens,∃ k,(dE P w).is k en.key=true/\en.hash=(dE P w).hash k
 | _,_,.nil,_=>⟨[],.nil,.nil,fun _ h=>by cases h⟩
 | e::es,en::ens,.cons h t,hb=>by
  obtain ⟨xs,h1,h2,h3⟩:=aDG (P:=P) t fun e he=>hb e (List.mem_cons_of_mem _ he)
  obtain ⟨k,hk1,hk2⟩:=hb e List.mem_cons_self
  obtain ⟨q1,q2,q3⟩:=h
  have hi:(dE P w).is k en.key=true:=aHP (by rw[<-hk2];exact q2)
  refine ⟨(k,en.val)::xs,.cons hi rfl h1,.cons ⟨hk1,hk2,q3⟩ h2,fun en' hen=>?_⟩
  rcases List.mem_cons.mp hen with z|z
  · subst z; exact ⟨k, hi, by rw [q1, hk1, xE (P := P)]⟩
  · exact h3 en' z
theorem aIV{P:Program}{w:World}{k:Key}{v:Value}(h:(dE P w).is k v=true):a9 (kV k) v:=by
 rcases keyIs_shape h with ⟨i,t,rfl,rfl⟩|⟨x,t,rfl,rfl⟩
 · exact ⟨t, rfl⟩
 · exact ⟨t, rfl⟩
theorem nJ{P:Program}{w:World}:∀ {es:List Ent} {xs:List (Key×Value)} {ens:List DictEntry},Paired tZ es xs->Pairs (dE P w) ens xs->(∀ en∈ens,∃ k,(dE P w).is k en.key=true/\en.hash=(dE P w).hash k)->Paired (pY w) es ens
 | _,_,_,.nil,.nil,_=>.nil
 | _,_,_,.cons h t,.cons p1 p2 ps,hk=>by
  obtain ⟨k,hk1,hk2⟩:=hk _ List.mem_cons_self
  obtain rfl:=(dE P w).inj _ _ _ hk1 p1
  refine .cons ⟨by rw[hk2,h.1,xE (P:=P)],by rw[h.2.1];exact aIV hk1,by rw[p2];exact h.2.2⟩ (nJ t ps fun en he=>hk en (List.mem_cons_of_mem _ he))
noncomputable def atE(es:List Ent)(k:PyData):Option V:=(es.find? fun e=>decide (e.1=k)).map (·.2.2)
noncomputable def jL(es:List Ent)(k:PyData)(kv v:V):List Ent:=if (atE es k).isSome then es.map (fun e=>if e.1=k then (e.1,e.2.1,v) else e) else es++[(k,kv,v)]
theorem oZ{k:PyData}:∀ {es:List Ent} {xs:List (PyData×Addr×Value)},Paired tY es xs->f6 (atE es k) ((atKey xs k).map (·.2))
 | _,_,.nil=>trivial
 | e::es,x::xs,.cons h t=>by
  have ih:=oZ (k:=k) t
  unfold atE atKey at ih ⊢
  rw[List.find?_cons,List.find?_cons,h.1]
  by_cases q:x.1=k
  · rw [decide_eq_true q]; exact h.2.2
  · rw [decide_eq_false q]; exact ih
theorem o0{k:Key}:∀ {es:List Ent} {xs:List (Key×Value)},Paired tZ es xs->f6 (atE es (iX k)) (valueAt xs k)
 | _,_,.nil=>trivial
 | e::es,x::xs,.cons h t=>by
  have ih:=o0 (k:=k) t
  unfold atE valueAt at ih ⊢
  rw[List.find?_cons,List.find?_cons,h.1]
  by_cases q:x.1=k
  · rw [decide_eq_true q, decide_eq_true (by rw [q])]; exact h.2.2
  · rw [decide_eq_false q, decide_eq_false (fun z => q (u9 z))]; exact ih
theorem iO{o:Option V}{u:Option Value}(h:f6 o u):o.isSome=u.isSome:=by
 cases o<;>cases u<;>first|rfl|exact h.elim
theorem nK{α β:Type}{f:α->β->Prop}{g:α->α}{k:β->β}(hg:∀ a b,f a b->f (g a) (k b)):∀ {xs:List α} {ys:List β},Paired f xs ys->Paired f (xs.map g) (ys.map k)
 | _,_,.nil=>.nil
 | _,_,.cons h t=>.cons (hg _ _ h) (nK hg t)
theorem nL{α β:Type}{f:α->β->Prop}{a:α}{b:β}(h:f a b):∀ {xs:List α} {ys:List β},Paired f xs ys->Paired f (xs++[a]) (ys++[b])
 | _,_,.nil=>.cons h .nil
 | _,_,.cons q t=>.cons q (nL h t)
theorem aBN{k:PyData}{b:Addr}{v:V}{u:Value}{es:List Ent}{xs:List (PyData×Addr×Value)}(r:a9 v u)(h:Paired tY es xs):Paired tY (jL es k (.ref b) v) (storedH xs k b u):=by
 have q:=iO (oZ (k:=k) h)
 rw[Option.isSome_map] at q
 unfold jL storedH
 rw[q]
 cases (atKey xs k).isSome with
 | true=>
  rw[if_pos rfl,if_pos rfl]
  refine nK (fun e x hx=>?_) h
  unfold putAt
  rw[hx.1]
  by_cases z:x.1=k
  · rw [if_pos z, if_pos z]; exact ⟨rfl, hx.2.1, r⟩
  · rw [if_neg z, if_neg z]; exact hx
 | false=>rw[if_neg (by decide),if_neg (by decide)];exact nL ⟨rfl,rfl,r⟩ h
theorem aHR{k:Key}:∀ {xs:List (Key×Value)},xs.any (fun kv=>decide (kv.1=k))=(valueAt xs k).isSome
 | []=>rfl
 | x::xs=>by
  have ih:=aHR (k:=k) (xs:=xs)
  unfold valueAt at ih ⊢
  rw[List.any_cons,List.find?_cons]
  by_cases q:x.1=k
  · rw [decide_eq_true q]; rfl
  · rw [decide_eq_false q, Bool.false_or]; exact ih
theorem aBO{k:Key}{v:V}{u:Value}{es:List Ent}{xs:List (Key×Value)}(r:a9 v u)(h:Paired tZ es xs):Paired tZ (jL es (iX k) (kV k) v) (stored xs k u):=by
 have q:=iO (o0 (k:=k) h)
 unfold jL stored
 rw[q,aHR]
 cases (valueAt xs k).isSome with
 | true=>
  rw[if_pos rfl,if_pos rfl]
  refine nK (fun e x hx=>?_) h
  by_cases z:x.1=k
  · rw [if_pos z, if_pos (by rw [hx.1, z])]; exact ⟨by rw [hx.1], hx.2.1, r⟩
  · rw [if_neg z, if_neg (fun y => z (u9 (hx.1.symm.trans y)))]; exact hx
 | false=>rw[if_neg (by decide),if_neg (by decide)];exact nL ⟨rfl,rfl,r⟩ h
section
variable{X:Cx}{pins:List (Addr×Obj)}{σ:L2.St}{H:Hp}{s:Shared}{a:Addr}{es:List Ent}{k:PyData}{kv v:V}{ku u:Value}{A:Around}{E:Value->Shared->Prop}
structure DicAt(X:Cx)(H:Hp)(a:Addr)(es:List Ent)(k:PyData)(kv:V):Prop where
 o:∃ ep,H a=some (cD X.w a es ep)
 ks:∀ e∈es,DatV X.K H e.2.1 e.1
 nd:(es.map (·.1)).Nodup
 dk:DatV X.K H kv k
 one:cO k (es.map (·.1))=true
theorem sJ{α β:Type}{f:α->β->Prop}{y:β}:∀ {xs:List α} {ys:List β},Paired f xs ys->y∈ys->∃ x,x∈xs/\f x y
 | _,_,.nil,h=>by cases h
 | _,_,.cons q t,h=>by
  rcases List.mem_cons.mp h with z|z
  ·subst z;exact ⟨_,List.mem_cons_self,q⟩
  ·obtain ⟨x,h1,h2⟩:=sJ t z
   exact ⟨x,List.mem_cons_of_mem _ h1,h2⟩
theorem nM{α β γ:Type}{f:α->β->Prop}{g:α->γ}{k:β->γ}(h:∀ a b,f a b->g a=k b):∀ {xs:List α} {ys:List β},Paired f xs ys->xs.map g=ys.map k
 | _,_,.nil=>rfl
 | _,_,.cons q t=>by rw[List.map_cons,List.map_cons,h _ _ q,nM h t]
theorem vA{α β:Type}{f:α->β}:∀ {xs:List α},(xs.map f).Nodup->xs.Nodup
 | [],_=>List.nodup_nil
 | x::t,h=>by
  rw[List.map_cons,List.nodup_cons] at h
  exact List.nodup_cons.mpr ⟨fun z=>h.1 (List.mem_map_of_mem z),vA h.2⟩
theorem DicAt.cases (D : DicAt X H a es k kv) (I : Inv X pins σ H s) (rk : a9 kv ku) : (a == sysModules) = false /\
    ((∃ b xs, kv = .ref b /\ ku = .ref b /\ Paired tY es xs /\ (gJ X.prog X.w).is s.heap k b /\ s.heap.DictOfH (gJ X.prog X.w) a xs) \/
     (∃ kk xs, k = iX kk /\ kv = kV kk /\ Paired tZ es xs /\ (dE X.prog X.w).is kk ku = true /\ s.heap.DictOf (dE X.prog X.w) a xs)) := by
  obtain ⟨ep, hO⟩ := D.o
  obtain ⟨⟨hd, o, ar, h1, h2, h3, h4⟩, _, _⟩ := (show b5 X.prog X.w H s.heap a (cD X.w a es ep) from I.hok a _ hO)
  refine ⟨hd, ?_⟩
  have hone := D.one
  unfold cO at hone
  rw [Bool.or_eq_true, Bool.and_eq_true, Bool.and_eq_true, List.all_eq_true, List.all_eq_true] at hone
  rcases hone with ⟨hk, ha⟩ | ⟨hk, ha⟩
  · have key : ∀ (d : PyData) (v : V), g6 d = true -> DatV X.K H v d -> ∃ b', v = .ref b' /\ (gJ X.prog X.w).is s.heap d b' := fun d v hd hv => by
      obtain ⟨ws, rfl, q1, q2⟩ := aIU hd
      obtain ⟨b', vs, rfl, _, _⟩ := hv.tup_of
      obtain ⟨as, r⟩ := hv.reads I (mQ q1) (u := .ref b') rfl
      exact ⟨b', rfl, q1, q2, as, r⟩
    obtain ⟨b, rfl, hkb⟩ := key _ _ hk D.dk
    cases (show ku = Value.ref b from rk)
    obtain ⟨xs, hx1, hx2⟩ := aDF (P := X.prog) h4 fun e he => by
      obtain ⟨b', e1, _⟩ := key e.1 e.2.1 (ha _ (List.mem_map_of_mem he)) (D.ks e he)
      exact ⟨b', e1⟩
    refine .inl ⟨b, xs, rfl, rfl, hx2, hkb, o, ar, ep, h1, h2, h3, hx1, fun x hx => ?_, ?_⟩
    · obtain ⟨e, he, hex⟩ := sJ hx2 hx
      obtain ⟨b', e1, q⟩ := key e.1 e.2.1 (ha _ (List.mem_map_of_mem he)) (D.ks e he)
      rw [hex.2.1] at e1
      cases e1
      rw [<- hex.1]; exact q
    · rw [<- nM (g := fun e : Ent => e.1) (fun a b h => h.1) hx2]; exact D.nd
  · obtain ⟨kk, rfl⟩ := zX hk
    have hkv := zY D.dk
    obtain ⟨xs, hx1, hx2, hx3⟩ := aDG (P := X.prog) h4 fun e he => by
      obtain ⟨k', hk'⟩ := zX (ha _ (List.mem_map_of_mem he))
      have q := D.ks e he
      rw [hk'] at q
      exact ⟨k', hk', zY q⟩
    refine .inr ⟨kk, xs, rfl, hkv, hx2, aHP (by rw [<- hkv]; exact rk), o, ar, ep, h1, h2, h3, fun en hen => hx3 en (by simpa using hen), hx1, ?_⟩
    have : es.map (·.1) = (xs.map (·.1)).map iX := by rw [List.map_map]; exact nM (g := fun e : Ent => e.1) (fun a b h => h.1) hx2
    have nd := D.nd
    rw [this] at nd
    exact vA nd
theorem lY{A:Around}(hu:A.units+64 < cLine):(gJ X.prog X.w).room A.in1:=by show A.in1.units+9 < cLine;rw[u2];omega
theorem aLX{Q:Value->Shared->Prop}(hu:A.units+64 < cLine)(D:DicAt X H a es k kv)(I:Inv X pins σ H s)(rk:a9 kv ku)(h:∀ s',Inv X pins σ H s'->Q (.bool (atE es k).isSome) s'):wpAny (model X.prog X.w) A (compareOp .In ku (.ref a)) Q E s:=by
 obtain ⟨hd,⟨b,xs,rfl,rfl,hx,hk,dd⟩|⟨kk,xs,rfl,rfl,hx,hk,dd⟩⟩:=D.cases I rk
 ·refine wpAny_in_heap (lY hu) hk hd dd ?_
  have q:=iO (oZ (k:=k) hx)
  rw[Option.isSome_map] at q
  rw[<-q];exact h _ (I.tok _)
 ·refine wpAny_in_of hk hd dd.mapOf ?_
  rw[<-iO (o0 (k:=kk) hx)];exact h _ (I.tok _)
theorem aIW{Q:Value->Shared->Prop}(hu:A.units+64 < cLine)(D:DicAt X H a es k kv)(I:Inv X pins σ H s)(rk:a9 kv ku)(h:∀ s',Inv X pins σ H s'->Q (.bool (!(atE es k).isSome)) s'):wpAny (model X.prog X.w) A (compareOp .NotIn ku (.ref a)) Q E s:=by
 obtain ⟨hd,⟨b,xs,rfl,rfl,hx,hk,dd⟩|⟨kk,xs,rfl,rfl,hx,hk,dd⟩⟩:=D.cases I rk
 ·refine wpAny_notIn_heap (lY hu) hk hd dd ?_
  have q:=iO (oZ (k:=k) hx)
  rw[Option.isSome_map] at q
  rw[<-q];exact h _ (I.tok _)
 ·refine wpAny_notIn_of hk hd dd.mapOf ?_
  rw[<-iO (o0 (k:=kk) hx)];exact h _ (I.tok _)
theorem aIX{Q:Value->Shared->Prop}(hu:A.units+64 < cLine)(D:DicAt X H a es k kv)(I:Inv X pins σ H s)(rk:a9 kv ku)(hv:atE es k=some v)(h:∀ w' s',Inv X pins σ H s'->a9 v w'->Q w' s'):wpAny (model X.prog X.w) A (getItem (.ref a) ku) Q E s:=by
 obtain ⟨hd,⟨b,xs,rfl,rfl,hx,hk,dd⟩|⟨kk,xs,rfl,rfl,hx,hk,dd⟩⟩:=D.cases I rk
 ·have q:=oZ (k:=k) hx
  rw[hv] at q
  obtain ⟨w',hw,rw'⟩:=f6.some_of q
  obtain ⟨p,hp,hp2⟩:=Option.map_eq_some_iff.mp hw
  refine wpAny_getItem_heap (lY hu) hk dd hp ?_
  rw[hp2];exact h w' _ (I.tok _) rw'
 ·have q:=o0 (k:=kk) hx
  rw[hv] at q
  obtain ⟨w',hw,rw'⟩:=f6.some_of q
  exact wpAny_getItem_of hk dd.mapOf hw (h w' _ (I.tok _) rw')
theorem aIY{Q:Unit->Shared->Prop}(hu:A.units+64 < cLine)(D:DicAt X H a es k kv)(I:Inv X pins σ H s)(rk:a9 kv ku)(rv:a9 v u)(hz:es.length<=sizeLine)(h:∀ ep s',Inv X pins σ (upd H a (cD X.w a (jL es k kv v) ep)) s'->Q () s') :
  wpAny (model X.prog X.w) A (setItem (.ref a) ku u) Q E s:=by
 obtain ⟨hd,⟨b,xs,rfl,rfl,hx,hk,dd⟩|⟨kk,xs,rfl,rfl,hx,hk,dd⟩⟩:=D.cases I rk
 ·have hl:xs.length<=sizeLine:=by rw[<-Paired.length hx];exact hz
  refine wpAny_setItem_heap (hsz:=hl) (lY hu) hk dd fun h' dd' hs=>?_
  obtain ⟨q',ar,ep,hq,h2,h3,h4,_,h5⟩:=dd'
  obtain ⟨ep0,hO⟩:=D.o
  refine h ep _ (kQ I (by rw[hO];exact True.intro) hs ⟨q',hq⟩ (gQ hd ⟨q',ar,hq,h2,h3,?_⟩))
  rw[h4]
  exact nI (aBN rv hx)
 ·have hl:xs.length<=sizeLine:=by rw[<-Paired.length hx];exact hz
  refine wpAny_setItem_pairs (hsz:=hl) hk dd fun h' dd' hs=>?_
  obtain ⟨q',ar,ep,hq,h2,h3,h4,h5,_⟩:=dd'
  obtain ⟨ep0,hO⟩:=D.o
  refine h ep _ (kQ I (by rw[hO];exact True.intro) hs ⟨q',hq⟩ (gQ hd ⟨q',ar,hq,h2,h3,?_⟩))
  exact nJ (aBO rv hx) h5 fun en hen=>h4 en (by simpa using hen)
end
end Fl
namespace Fl
open PySem L2 PyProof.Rows
structure Er where
 c:Str
 fs:List (Str×PyData)
inductive R(α:Type) where
 | bad|ok (a:α)|ex (e:Er)
noncomputable def R.bind{α β:Type}:R α->(α->R β)->R β
 | .bad,_=>.bad
 | .ok a,f=>f a
 | .ex e,_=>.ex e
@[simp] theorem R.bind_ok{α β:Type}(a:α)(f:α->R β):(R.ok a).bind f=f a:=id rfl
@[simp] theorem R.bind_bad{α β:Type}(f:α->R β):(R.bad:R α).bind f=.bad:=id rfl
@[simp] theorem R.bind_ex{α β:Type}(e:Er)(f:α->R β):(R.ex e:R α).bind f=.ex e:=id rfl
inductive A where
 | d (x:PyData)|l (xs:List PyData)|m (kvs:List (PyData×PyData))|x (e:Er)|g (k n:Nat) (f:List PyData->R PyData)|k (q:Str)|f (kvs:List (PyData×PyData))|o (e:Er)
abbrev Sg:=List (Option A)
structure Gb where
 B:Addr->Hp->Nat->Nat->(List PyData->R PyData)->Prop
 T:Hp
 w:World
structure Ct where
 K:Frag
 mg:Str->Option Value
 w:World
 F0:Hp
 H0:Hp
 g:Gb
 cells:List (Str×Addr)
 cls:Str->Option ClSt
theorem xF{w:World}{p:Addr}{es:List Ent}{ep:Nat}{q:Str}(h:cD w p es ep=.cod q):False:=by unfold cD at h;cases h
theorem bV(H:Hp):aF H H:=fun _ _ h=>h
theorem bG{H H':Hp}(s:aF H H'){a:Addr}(h:H' a=none):H a=none:=by
 cases e:H a with
 | none=>rfl
 | some o=>rw[s a o e] at h;cases h
def pZ(H:Hp)(a:Addr):Prop:=H a=none\/∃ q,H a=some (.cod q)
theorem pZ.back{H H1:Hp}{a:Addr}(s:aF H H1)(h:pZ H1 a):pZ H a:=by
 cases e:H a with
 | none=>exact .inl e
 | some o=>
  have e1:=s a o e
  rcases h with z|⟨q,z⟩
  · rw [e1] at z; cases z
  · rw [e1] at z; cases z; exact .inr ⟨q, e⟩
structure Ext(F H F' H':Hp):Prop where
 hh:aF H H'
 ff:aF F F'
 fh:aF F' H'
 nw:∀ a,F a=none->F' a≠none->pZ H a
theorem Ext.refl{F H:Hp}(h:aF F H):Ext F H F H:=⟨bV H,bV F,h,fun a e n=>absurd e n⟩
theorem Ext.trans{F H F1 H1 F2 H2:Hp}(a:Ext F H F1 H1)(b:Ext F1 H1 F2 H2):Ext F H F2 H2:=
 ⟨fun x o e=>b.hh x o (a.hh x o e),fun x o e=>b.ff x o (a.ff x o e),b.fh,fun x e n=>by
  cases q:F1 x with
  | none=>exact (b.nw x q n).back a.hh
  | some o=>exact a.nw x e (by rw[q];exact fun z=>nomatch z)⟩
theorem Ext.stay{F H F' H':Hp}(s:Ext F H F' H'){p:Addr}{o:HO}(h3:F p=none)(h2:H p=some o)(hno:∀ q,o≠.cod q):F' p=none:=by
 cases q:F' p with
 | none=>rfl
 | some o=>
  rcases s.nw p h3 (by rw[q];exact fun z=>nomatch z) with z|⟨q',z⟩
  · rw [z] at h2; cases h2
  · rw [z] at h2; cases h2; exact absurd rfl (hno _)
theorem aF0{F H:Hp}{p:Addr}{o:HO}(s:aF F H):aF (upd F p o) (upd H p o):=fun a u e=>by
 by_cases q:a=p
 · subst q; rw [aL] at e ⊢; exact e
 · rw [aD q] at e ⊢; exact s a u e
theorem Ext.new{F H:Hp}{p:Addr}{o:HO}(s:aF F H)(hp:H p=none):Ext F H (upd F p o) (upd H p o):=
 ⟨aF.upd hp,aF.upd (bG s hp),aF0 s,fun a e n=>by
  by_cases q:a=p
  · subst q; exact .inl hp
  · rw [aD q] at n; exact absurd e n⟩
theorem Ext.own{F H:Hp}{p:Addr}{o:HO}(s:aF F H)(hp:H p=none):Ext F H F (upd H p o):=
 ⟨aF.upd hp,bV F,fun a u e=>by
  rw[aD (bB (s a u e) hp)];exact s a u e,fun a e n=>absurd e n⟩
def k6(K:Frag)(mg:Str->Option Value)(F:Hp)(e:Er)(a C:Addr):Prop:=mg e.c=some (.ref C)/\∃ od,F a=some (ExO a C od)/\((e.fs=[]/\od=none)\/∃ d fvs,od=some d/\F d=some (.xd fvs)/\fvs.map (·.1)=e.fs.map (·.1)/\DatVs K F (fvs.map (·.2)) (e.fs.map (·.2)))
theorem k6.same{K:Frag}{mg:Str->Option Value}{F F':Hp}{e:Er}{a C:Addr}(s:aF F F')(h:k6 K mg F e a C):k6 K mg F' e a C:=by
 obtain ⟨m,od,h1,h2⟩:=h
 refine ⟨m,od,s _ _ h1,h2.imp id ?_⟩
 rintro ⟨d,fvs,e1,e2,e3,e4⟩
 exact ⟨d,fvs,e1,s _ _ e2,e3,e4.same s⟩
def aBP(K:Frag)(mg:Str->Option Value)(F:Hp)(e:Er)(a:Addr):Prop:=∃ C dx fvs,mg e.c=some (.ref C)/\F a=some (.ins C dx fvs)/\fvs.map (·.1)=e.fs.map (·.1)/\DatVs K F (fvs.map (·.2)) (e.fs.map (·.2))
theorem aBP.same{K:Frag}{mg:Str->Option Value}{F F':Hp}{e:Er}{a:Addr}(s:aF F F')(h:aBP K mg F e a):aBP K mg F' e a:=by
 obtain ⟨C,dx,fvs,h1,h2,h3,h4⟩:=h
 exact ⟨C,dx,fvs,h1,s _ _ h2,h3,h4.same s⟩
structure MapRel(K:Frag)(F:Hp)(es:List Ent)(kvs:List (PyData×PyData)):Prop where
 k1:es.map (·.1)=kvs.map (·.1)
 k2:DatVs K F (es.map (·.2.1)) (kvs.map (·.1))
 vs:DatVs K F (es.map (·.2.2)) (kvs.map (·.2))
 nd:(kvs.map (·.1)).Nodup
theorem MapRel.same{K:Frag}{F F':Hp}{es:List Ent}{kvs:List (PyData×PyData)}(s:aF F F')(h:MapRel K F es kvs):MapRel K F' es kvs:=⟨h.k1,h.k2.same s,h.vs.same s,h.nd⟩
def AF(g:Gb)(K:Frag)(mg:Str->Option Value)(F:Hp):A->V->Prop
 | .d x,v=>DatV K F v x
 | .x e,v=>∃ a C,v=.ref a/\k6 K mg F e a C
 | .g k n G,v=>∃ f F1,v=.ref f/\aF F1 F/\g.B f F1 k n G
 | .f kvs,v=>∃ p es,v=.ref p/\(∃ ep,F p=some (cD g.w p es ep))/\MapRel K F es kvs
 | .o e,v=>∃ a,v=.ref a/\aBP K mg F e a
 | _,_=>False
theorem AF.same{g:Gb}{K:Frag}{mg:Str->Option Value}{F F':Hp}(s:aF F F'):∀ {a:A} {v:V},AF g K mg F a v->AF g K mg F' a v
 | .d x,v,h=>DatV.same s h
 | .x e,v,⟨a,C,h1,h2⟩=>⟨a,C,h1,h2.same s⟩
 | .g k n G,v,⟨f,F1,h1,h2,h3⟩=>⟨f,F1,h1,fun a o z=>s a o (h2 a o z),h3⟩
 | .f kvs,v,⟨p,es,h1,⟨ep,h2⟩,h3⟩=>⟨p,es,h1,⟨ep,s _ _ h2⟩,h3.same s⟩
 | .o e,v,⟨a,h1,h2⟩=>⟨a,h1,h2.same s⟩
noncomputable def A.own:A->Bool
 | .l _=>true
 | .m _=>true
 | _=>false
def AO(c:Ct)(F H:Hp):A->V->Prop
 | .l xs,v=>∃ p vs,v=.ref p/\H p=some (.lst vs)/\F p=none/\c.H0 p=none/\DatVs c.K F vs xs
 | .m kvs,v=>∃ p es,v=.ref p/\(∃ ep,H p=some (cD c.w p es ep))/\F p=none/\c.H0 p=none/\MapRel c.K F es kvs
 | .k q,v=>∃ S f cl doc pm cc ct,c.cls q=some S/\v=.ref f/\F f=some (FnO f (S.obj cl doc pm cc ct))/\F cc=some (.cod S.qual)/\ClOf c.cells S.scope cl
 | a,v=>AF c.g c.K c.mg F a v
theorem AO.ext{c:Ct}{F H F' H':Hp}(s:Ext F H F' H'):∀ {a:A} {v:V},AO c F H a v->AO c F' H' a v
 | .d x,v,h=>DatV.same s.ff h
 | .x e,v,h=>AF.same (g:=c.g) (K:=c.K) (mg:=c.mg) (a:=.x e) s.ff h
 | .g k n G,v,h=>AF.same (g:=c.g) (K:=c.K) (mg:=c.mg) (a:=.g k n G) s.ff h
 | .f kvs,v,h=>AF.same (g:=c.g) (K:=c.K) (mg:=c.mg) (a:=.f kvs) s.ff h
 | .o e,v,h=>AF.same (g:=c.g) (K:=c.K) (mg:=c.mg) (a:=.o e) s.ff h
 | .k q,v,⟨S,f,cl,doc,pm,cc,ct,h0,h1,h2,h3,h4⟩=>⟨S,f,cl,doc,pm,cc,ct,h0,h1,s.ff _ _ h2,s.ff _ _ h3,h4⟩
 | .l xs,v,⟨p,vs,h1,h2,h3,h4,h5⟩=>⟨p,vs,h1,s.hh _ _ h2,s.stay h3 h2 (fun _ z=>nomatch z),h4,h5.same s.ff⟩
 | .m kvs,v,⟨p,vs,h1,⟨ep,h2⟩,h3,h4,h5⟩=>⟨p,vs,h1,⟨ep,s.hh _ _ h2⟩,s.stay h3 h2 (fun _ z=>xF z),h4,h5.same s.ff⟩
theorem AO.at{c:Ct}{F H:Hp}{a:A}{v:V}(h:AO c F H a v)(o:a.own=true):∃ p o,v=.ref p/\H p=some o/\F p=none/\c.H0 p=none:=by
 cases a with
 | l xs=>obtain ⟨p,vs,h1,h2,h3,h4,h5⟩:=h;exact ⟨p,_,h1,h2,h3,h4⟩
 | m xs=>obtain ⟨p,vs,h1,⟨ep,h2⟩,h3,h4,h5⟩:=h;exact ⟨p,_,h1,h2,h3,h4⟩
 | d x=>cases o
 | x e=>cases o
 | g k n f=>cases o
 | k S=>cases o
 | f S=>cases o
 | o S=>cases o
theorem AO.off{c:Ct}{F H:Hp}{p:Addr}{o:HO}:∀ {a:A} {v:V},AO c F H a v->v≠.ref p->AO c F (upd H p o) a v
 | .l xs,v,⟨q,vs,h1,h2,h3,h4,h5⟩,n=>⟨q,vs,h1,by rw[aD (fun z=>n (by rw[h1,z]))];exact h2,h3,h4,h5⟩
 | .m xs,v,⟨q,vs,h1,⟨ep,h2⟩,h3,h4,h5⟩,n=>⟨q,vs,h1,⟨ep,by rw[aD (fun z=>n (by rw[h1,z]))];exact h2⟩,h3,h4,h5⟩
 | .d x,v,h,_=>h
 | .x e,v,h,_=>h
 | .g k n G,v,h,_=>h
 | .k S,v,h,_=>h
 | .f S,v,h,_=>h
 | .o S,v,h,_=>h
structure Ab(c:Ct)(ρ:Sg)(σ:L2.St)(F H:Hp):Prop where
 len:ρ.length=σ.length
 fh:aF F H
 slot:∀ (i:Nat) (a:A),ρ[i]? = some (some a)->∃ v,σ[i]? = some (some v)/\AO c F H a v
 apart:∀ (i j:Nat) (a b:A),i≠j->ρ[i]? = some (some a)->ρ[j]? = some (some b)->a.own=true->b.own=true->σ[i]? ≠ σ[j]?
 f0:aF c.F0 F
 h0:aF c.H0 H
 n0:∀ a,c.F0 a=none->F a≠none->pZ c.H0 a
 t0:aF c.g.T c.F0
theorem Ab.all{c:Ct}{ρ:Sg}{σ:L2.St}{F H:Hp}(b:Ab c ρ σ F H):Ext c.F0 c.H0 F H:=⟨b.h0,b.f0,b.fh,b.n0⟩
theorem Ab.ext{c:Ct}{ρ:Sg}{σ:L2.St}{F H F' H':Hp}(b:Ab c ρ σ F H)(e:Ext F H F' H'):Ab c ρ σ F' H' where
 len:=b.len
 fh:=e.fh
 slot:=fun i a h=>let ⟨v,h1,h2⟩:=b.slot i a h;⟨v,h1,h2.ext e⟩
 apart:=b.apart
 f0:=fun x o h=>e.ff x o (b.f0 x o h)
 h0:=fun x o h=>e.hh x o (b.h0 x o h)
 n0:=fun a h n=>by
  cases q:F a with
  | none=>exact (e.nw a q n).back b.h0
  | some o=>exact b.n0 a h (by rw[q];exact fun z=>nomatch z)
 t0:=b.t0
def XW(c:Ct)(E:XK)(e:Er):Prop:=∀ a C F' H',Ext c.F0 c.H0 F' H'->k6 c.K c.mg F' e a C->E (.ref C) (some a) H'
def Rk{α:Type}(c:Ct)(E:XK)(F H:Hp)(r:R α)(k:α->Prop):Prop:=match r with
 | .bad=>False
 | .ok a=>k a
 | .ex e=>XW c E e
abbrev VR(α:Type):=α->V->Hp->Hp->Hp->Prop
def tV{α:Type}(Rel:VR α)(c:Ct)(E:XK)(f:Sg->R α):TE:=fun σ H Q=>∃ ρ F,Ab c ρ σ F H/\Rk c E F H (f ρ) fun d=>∀ v F' H',Ext F H F' H'->Rel d v H F' H'->Q v H'
def b6(c:Ct):VR PyData:=fun d v _ F _=>DatV c.K F v d
def aX(K:Frag)(F H:Hp)(v:V)(d:PyData):Prop:=DatV K F v d\/∃ p vs xs,v=.ref p/\d=.list xs/\H p=some (.lst vs)/\DatVs K F vs xs
def a8(c:Ct):VR PyData:=fun d v _ F H=>aX c.K F H v d
def aF1(c:Ct):VR A:=fun a v _ F _=>AF c.g c.K c.mg F a v
def rF(c:Ct):VR (List PyData):=fun xs v H F H'=>∃ p vs,v=.ref p/\H p=none/\H' p=some (.lst vs)/\F p=none/\DatVs c.K F vs xs
abbrev PD(X:Cx)(c:Ct)(E:XK)(e:Expr)(f:Sg->R PyData):Prop:=PE X e (tV (b6 c) c E f)
abbrev PR(X:Cx)(c:Ct)(E:XK)(e:Expr)(f:Sg->R PyData):Prop:=PE X e (tV (a8 c) c E f)
abbrev PV(X:Cx)(c:Ct)(E:XK)(e:Expr)(f:Sg->R A):Prop:=PE X e (tV (aF1 c) c E f)
abbrev PN(X:Cx)(c:Ct)(E:XK)(e:Expr)(f:Sg->R (List PyData)):Prop:=PE X e (tV (rF c) c E f)
theorem PE.imp{X:Cx}{e:Expr}{t t':TE}(h:PE X e t)(i:∀ σ H Q,t' σ H Q->t σ H Q):PE X e t':=fun pins s σ H Q I q=>h pins s σ H Q I (i σ H Q q)
theorem PT.imp{X:Cx}{e:Expr}{t t':TT}(h:PT X e t)(i:∀ σ H Q,t' σ H Q->t σ H Q):PT X e t':=fun pins s σ H Q I q=>h pins s σ H Q I (i σ H Q q)
theorem PS.imp{X:Cx}{e:Stmt}{t t':TS}(h:PS X e t)(i:∀ D σ H,t' D σ H->t D σ H):PS X e t':=fun pins s σ H D I q=>h pins s σ H D I (i D σ H q)
theorem PSs.imp{X:Cx}{e:List Stmt}{t t':TS}(h:PSs X e t)(i:∀ D σ H,t' D σ H->t D σ H):PSs X e t':=fun pins s σ H D I q=>h pins s σ H D I (i D σ H q)
def aHS{α:Type}(Rel:VR α):Prop:=∀ d v H F H1 F2 H2,Ext F H1 F2 H2->Rel d v H F H1->Rel d v H F2 H2
theorem aX.ext{K:Frag}{F H F' H':Hp}{v:V}{d:PyData}(e:Ext F H F' H')(h:aX K F H v d):aX K F' H' v d:=by
 rcases h with h|⟨p,vs,xs,h1,h2,h3,h4⟩
 · exact .inl (h.same e.ff)
 · exact .inr ⟨p, vs, xs, h1, h2, e.hh _ _ h3, h4.same e.ff⟩
theorem o3(c:Ct):aHS (a8 c):=fun d v H F H1 F2 H2 e h=>aX.ext e h
theorem aX.heap{K:Frag}{F H:Hp}{v:V}{d:PyData}(s:aF F H)(h:aX K F H v d):DatV K H v d:=by
 rcases h with h|⟨p,vs,xs,h1,h2,h3,h4⟩
 · exact h.same s
 · subst h1 h2; exact .lst (SqL.of h3) (h4.same s)
section
variable{X:Cx}{c:Ct}{E:XK}{α β γ:Type}{Ra:VR α}{Rb:VR β}{Rc:VR γ}{σ:L2.St}{H:Hp}{Q:VK}
theorem Rk.ok{F:Hp}{a:α}{k:α->Prop}(h:Rk c E F H (.ok a) k):k a:=h
theorem Rk.imp{F:Hp}{r:R α}{k k':α->Prop}(h:Rk c E F H r k)(i:∀ a,r=.ok a->k a->k' a):Rk c E F H r k':=by
 cases r with
 | bad=>exact h
 | ok a=>exact i a rfl h
 | ex e=>exact h
theorem Rk.bind{F:Hp}{r:R α}{f:α->R β}{k:β->Prop}(h:Rk c E F H (r.bind f) k):Rk c E F H r fun a=>Rk c E F H (f a) k:=by
 cases r with
 | bad=>exact h
 | ok a=>exact h
 | ex e=>exact h
theorem Rk.ext{F F' H':Hp}{r:R α}{k:α->Prop}(e:Ext F H F' H')(h:Rk c E F H r k):Rk c E F' H' r k:=by
 cases r with
 | bad=>exact h
 | ok a=>exact h
 | ex x=>exact h
end
def xG{α:Type}(Rel:VR α):Prop:=∀ d v H H1 F' H',aF H H1->Rel d v H1 F' H'->Rel d v H F' H'
theorem jW(c:Ct):xG (b6 c):=fun _ _ _ _ _ _ _ h=>h
theorem aN1(c:Ct):xG (rF c):=fun _ _ _ _ _ _ s h=>by
 obtain ⟨p,vs,h1,h2,h3⟩:=h
 exact ⟨p,vs,h1,bG s h2,h3⟩
section
variable{X:Cx}{c:Ct}{E:XK}{α β γ:Type}{Ra:VR α}{Rb:VR β}{Rc:VR γ}
def Op1(c:Ct)(Ra:VR α)(Rb:VR β)(g:α->R β)(r:V->Hp->VK->Prop):Prop:=
 ∀ (H0 F H:Hp) (a:α) (b:β) (v:V) (Q:VK),aF F H->Ra a v H0 F H->g a=.ok b->(∀ w F' H',Ext F H F' H'->Rb b w H F' H'->Q w H')->r v H Q
def Op2(c:Ct)(Ra:VR α)(Rb:VR β)(Rc:VR γ)(g:α->β->R γ)(r:R2):Prop:=
 ∀ (H0 H1 F H:Hp) (a:α) (b:β) (d:γ) (v u:V) (Q:VK),aF F H->Ra a v H0 F H->Rb b u H1 F H->g a b=.ok d->(∀ w F' H',Ext F H F' H'->Rc d w H F' H'->Q w H')->r v u H Q
def k7(g:α->R β):Prop:=∀ a e,g a≠.ex e
def cE(g:α->β->R γ):Prop:=∀ a b e,g a b≠.ex e
theorem tV1{f:Sg->R α}{g:α->R β}{r:V->Hp->VK->Prop}(ho:Op1 c Ra Rb g r)(hp:k7 g)(kb:xG Rb){σ:L2.St}{H:Hp}{Q:VK}(h:tV Rb c E (fun ρ=>(f ρ).bind g) σ H Q) :
  tV Ra c E f σ H fun v H1=>r v H1 Q:=by
 obtain ⟨ρ,F,ab,h⟩:=h
 refine ⟨ρ,F,ab,(Rk.bind h).imp fun a ea q v F1 H1 e1 rv=>?_⟩
 cases eg:g a with
 | bad=>rw[eg] at q;exact q.elim
 | ex e=>exact absurd eg (hp a e)
 | ok b=>
  rw[eg] at q
  exact ho H F1 H1 a b v Q e1.fh rv eg fun w F' H' e2 rw'=>q w F' H' (e1.trans e2) (kb _ _ _ _ _ _ e1.hh rw')
theorem tV2{f:Sg->R α}{f':Sg->R β}{g:α->β->R γ}{r:R2}(ho:Op2 c Ra Rb Rc g r)(hp:cE g)(ka:aHS Ra)(kb:xG Rc){σ:L2.St}{H:Hp}{Q:VK}(h:tV Rc c E (fun ρ=>(f ρ).bind fun a=>(f' ρ).bind fun b=>g a b) σ H Q) :
  tOp r (tV Ra c E f) (tV Rb c E f') σ H Q:=by
 obtain ⟨ρ,F,ab,h⟩:=h
 refine ⟨ρ,F,ab,(Rk.bind h).imp fun a ea q v F1 H1 e1 rv=>?_⟩
 refine ⟨ρ,F1,ab.ext e1,((Rk.bind q).ext e1).imp fun b eb q u F2 H2 e2 ru=>?_⟩
 cases eg:g a b with
 | bad=>rw[eg] at q;exact q.elim
 | ex e=>exact absurd eg (hp a b e)
 | ok d=>
  rw[eg] at q
  exact ho H H1 F2 H2 a b d v u Q e2.fh (ka _ _ _ _ _ _ _ e2 rv) ru eg fun w F' H' e3 rw'=>q w F' H' ((e1.trans e2).trans e3) (kb _ _ _ _ _ _ (fun x o z=>e2.hh x o (e1.hh x o z)) rw')
end
end Fl
namespace Fl
open PySem L2 PyProof.Rows
section
variable{K:Frag}{F H:Hp}{v:V}
theorem DatV.bl_of{b:Bool}(h:DatV K H v (.bool b)):v=.bl b:=by cases h;rfl
theorem DatV.non_of(h:DatV K H v .none):v=.non:=by cases h;rfl
theorem aX.int_of{i:Int}(h:aX K F H v (.int i)):v=.int i:=by
 rcases h with h|⟨_,_,_,_,h,_⟩
 · exact h.int_of
 · cases h
theorem aX.str_of{i:Str}(h:aX K F H v (.str i)):v=.str i:=by
 rcases h with h|⟨_,_,_,_,h,_⟩
 · exact h.str_of
 · cases h
theorem aX.bl_of{i:Bool}(h:aX K F H v (.bool i)):v=.bl i:=by
 rcases h with h|⟨_,_,_,_,h,_⟩
 · exact DatV.bl_of h
 · cases h
theorem aX.non_of(h:aX K F H v .none):v=.non:=by
 rcases h with h|⟨_,_,_,_,h,_⟩
 · exact DatV.non_of h
 · cases h
theorem aX.tup_of{xs:List PyData}(s:aF F H)(h:aX K F H v (.tuple xs)):∃ a vs,v=.ref a/\SqT K F a vs/\SqT K H a vs/\DatVs K F vs xs:=by
 rcases h with h|⟨_,_,_,_,h,_⟩
 ·obtain ⟨a,vs,h1,h2,h3⟩:=h.tup_of
  exact ⟨a,vs,h1,h2,h2.same s,h3⟩
 ·cases h
theorem aX.lst_of{xs:List PyData}(s:aF F H)(h:aX K F H v (.list xs)):∃ a vs,v=.ref a/\SqL K H a vs/\DatVs K F vs xs:=by
 rcases h with h|⟨p,vs,ys,h1,h2,h3,h4⟩
 ·obtain ⟨a,vs,h1,h2,h3⟩:=h.lst_of
  exact ⟨a,vs,h1,h2.same s,h3⟩
 ·cases h2
  exact ⟨p,vs,h1,SqL.of h3,h4⟩
theorem xH{vs:List V}{xs:List PyData}{i:Int}{d:PyData}(h:DatVs K F vs xs)(e:atI xs i=some d):∃ x,atI vs i=some x/\DatV K F x d:=by
 unfold atI at e ⊢
 rw[h.length]
 cases q:ixN xs.length i with
 | none=>rw[q] at e;cases e
 | some j=>
  rw[q] at e
  exact h.get' (i:=j) e
end
noncomputable def eV(i:Nat):Sg->R PyData:=fun ρ=>match ρ[i]? with
 | some (some (.d x))=>.ok x
 | _=>.bad
noncomputable def rV(i:Nat):Sg->R PyData:=fun ρ=>match ρ[i]? with
 | some (some (.d x))=>.ok x
 | some (some (.l xs))=>.ok (.list xs)
 | _=>.bad
noncomputable def vV(i:Nat):Sg->R A:=fun ρ=>match ρ[i]? with
 | some (some (.d x))=>.ok (.d x)
 | some (some (.x e))=>.ok (.x e)
 | some (some (.g k n f))=>.ok (.g k n f)
 | some (some (.f kvs))=>.ok (.f kvs)
 | _=>.bad
def eC(d:PyData):Sg->R PyData:=fun _=>.ok d
section
variable{X:Cx}{c:Ct}{E:XK}{e a b:Expr}
theorem bT{i:Nat}(h:PE X e (jI i)):PD X c E e (eV i):=PE.imp h fun σ H Q ⟨ρ,F,ab,k⟩=>by
 unfold eV at k
 split at k
 ·rename_i x hx
  obtain ⟨v,h1,h2⟩:=ab.slot i _ hx
  exact ⟨v,h1,k v F H (Ext.refl ab.fh) h2⟩
 ·exact k.elim
theorem aC{i:Nat}(h:PE X e (jI i)):PR X c E e (rV i):=PE.imp h fun σ H Q ⟨ρ,F,ab,k⟩=>by
 unfold rV at k
 split at k
 ·rename_i x hx
  obtain ⟨v,h1,h2⟩:=ab.slot i _ hx
  exact ⟨v,h1,k v F H (Ext.refl ab.fh) (.inl h2)⟩
 ·rename_i x hx
  obtain ⟨v,h1,p,vs,h2,h3,h4,h5,h6⟩:=ab.slot i _ hx
  exact ⟨v,h1,k v F H (Ext.refl ab.fh) (.inr ⟨p,vs,x,h2,rfl,h3,h6⟩)⟩
 ·exact k.elim
theorem a6{i:Nat}(h:PE X e (jI i)):PV X c E e (vV i):=PE.imp h fun σ H Q ⟨ρ,F,ab,k⟩=>by
 unfold vV at k
 split at k
 ·rename_i x hx
  obtain ⟨v,h1,h2⟩:=ab.slot i _ hx
  exact ⟨v,h1,k v F H (Ext.refl ab.fh) h2⟩
 ·rename_i x hx
  obtain ⟨v,h1,h2⟩:=ab.slot i _ hx
  exact ⟨v,h1,k v F H (Ext.refl ab.fh) h2⟩
 ·rename_i kk nn ff hx
  obtain ⟨v,h1,h2⟩:=ab.slot i _ hx
  exact ⟨v,h1,k v F H (Ext.refl ab.fh) h2⟩
 ·rename_i kvs hx
  obtain ⟨v,h1,h2⟩:=ab.slot i _ hx
  exact ⟨v,h1,k v F H (Ext.refl ab.fh) h2⟩
 ·exact k.elim
theorem fS{v:V}{d:PyData}(h:PE X e (tC v))(hd:∀ F,DatV c.K F v d):PD X c E e (eC d):=PE.imp h fun σ H Q ⟨ρ,F,ab,k⟩=>k v F H (Ext.refl ab.fh) (hd F)
theorem aE{i j pos}:PD X c E (.Constant (.int i) j pos) (eC (.int i)):=fS aCK fun _=>.int i
theorem jX{i j pos}:PD X c E (.Constant (.bool i) j pos) (eC (.bool i)):=fS aNN fun _=>.bl i
theorem mR{i j pos}:PD X c E (.Constant (.str i) j pos) (eC (.str i)):=fS wH fun _=>.str i
theorem k8{j pos}:PD X c E (.Constant .none j pos) (eC .none):=fS aKU fun _=>.non
theorem aB{f:Sg->R PyData}(h:PD X c E e f):PR X c E e f:=PE.imp h fun σ H Q ⟨ρ,F,ab,k⟩=>⟨ρ,F,ab,k.imp fun d _ q v F' H' s r=>q v F' H' s (.inl r)⟩
def vD(f:Sg->R PyData):Sg->R A:=fun ρ=>(f ρ).bind fun x=>.ok (.d x)
theorem aV{f:Sg->R PyData}(h:PD X c E e f):PV X c E e (vD f):=PE.imp h fun σ H Q ⟨ρ,F,ab,k⟩=>⟨ρ,F,ab,(Rk.bind k).imp fun d _ q v F' H' s r=>Rk.ok q v F' H' s r⟩
def getD:A->R PyData
 | .d x=>.ok x
 | _=>.bad
def eA(f:Sg->R A):Sg->R PyData:=fun ρ=>(f ρ).bind getD
theorem dQ{f:Sg->R A}(h:PV X c E e f):PD X c E e (eA f):=PE.imp h fun σ H Q ⟨ρ,F,ab,k⟩=>⟨ρ,F,ab,(Rk.bind k).imp fun d _ q v F' H' s r=>by
 cases d with
 | d x=>exact Rk.ok q v F' H' s r
 | _=>exact False.elim q⟩
def eL(f:Sg->R (List PyData)):Sg->R PyData:=fun ρ=>(f ρ).bind fun xs=>.ok (.list xs)
theorem eQ{f:Sg->R (List PyData)}(h:PN X c E e f):PD X c E e (eL f):=PE.imp h fun σ H Q ⟨ρ,F,ab,k⟩=>⟨ρ,F,ab,(Rk.bind k).imp fun xs _ q v F' H' s r=>by
 obtain ⟨p,vs,h1,h2,h3,h4,h5⟩:=r
 subst h1
 refine Rk.ok q (.ref p) (upd F' p (.lst vs)) H' ⟨s.hh,fun a o z=>?_,fun a o z=>?_,fun a z n=>?_⟩ (.lst (SqL.of aL) (h5.same (aF.upd h4)))
 ·rw[aD (bB (s.ff a o z) h4)];exact s.ff a o z
 ·by_cases w:a=p
  · subst w; rw [aL] at z; rw [h3]; exact z
  · rw [aD w] at z; exact s.fh a o z
 ·by_cases w:a=p
  · subst w; exact .inl h2
  · rw [aD w] at n; exact s.nw a z n⟩
def e1{α β:Type}(g:α->R β)(f:Sg->R α):Sg->R β:=fun ρ=>(f ρ).bind g
def e2{α β γ:Type}(g:α->β->R γ)(f:Sg->R α)(f':Sg->R β):Sg->R γ:=fun ρ=>(f ρ).bind fun x=>(f' ρ).bind fun y=>g x y
noncomputable def cC:PyData->PyData->R PyData
 | .int i,.int j=>.ok (.int (i+j))
 | .str x,.str y=>if x.length+y.length<=sizeLine then .ok (.str (x++y)) else .bad
 | .tuple xs,.tuple ys=>if xs.isEmpty=false/\xs.length+ys.length<=sizeLine then .ok (.tuple (xs++ys)) else .bad
 | _,_=>.bad
def dSub:PyData->PyData->R PyData
 | .int i,.int j=>.ok (.int (i - j))
 | _,_=>.bad
noncomputable def dMul:PyData->PyData->R PyData
 | .int i,.int j=>if (-18446744073709551616 < i/\i < 18446744073709551616)\/(-18446744073709551616 < j/\j < 18446744073709551616) then .ok (.int (i * j)) else .bad
 | _,_=>.bad
def dDiv:PyData->PyData->R PyData
 | .int i,.int j=>if 0 < j/\j < 18446744073709551616 then .ok (.int (i / j)) else .bad
 | _,_=>.bad
def dMod:PyData->PyData->R PyData
 | .int i,.int j=>if 0 < j then .ok (.int (i % j)) else .bad
 | _,_=>.bad
def dNeg:PyData->R PyData
 | .int i=>.ok (.int (-i))
 | _=>.bad
def dLt:PyData->PyData->R PyData
 | .int i,.int j=>.ok (.bool (decide (i < j)))
 | _,_=>.bad
def dLe:PyData->PyData->R PyData
 | .int i,.int j=>.ok (.bool (decide (i<=j)))
 | _,_=>.bad
def dGt:PyData->PyData->R PyData
 | .int i,.int j=>.ok (.bool (decide (j < i)))
 | _,_=>.bad
def dGe:PyData->PyData->R PyData
 | .int i,.int j=>.ok (.bool (decide (j<=i)))
 | _,_=>.bad
def dEq(x y:PyData):R PyData:=if SeqAt.shaped x=true/\SeqAt.shaped y=true then .ok (.bool (PyData.eqv x y)) else .bad
def dNe(x y:PyData):R PyData:=if SeqAt.shaped x=true/\SeqAt.shaped y=true then .ok (.bool (!PyData.eqv x y)) else .bad
def fU:PyData->Bool
 | .none=>true
 | _=>false
def dIs(x y:PyData):R PyData:=if fU y=true then .ok (.bool (fU x)) else .bad
def dIsnt(x y:PyData):R PyData:=if fU y=true then .ok (.bool (!fU x)) else .bad
noncomputable def inD:PyData->PyData->Option Bool
 | .str i,.str j=>some (!(Builtin.Str.occurrences j i 0 j.length 1).isEmpty)
 | x,.list xs=>if SeqAt.shaped x=true/\SeqAt.shaped (.list xs)=true then some (xs.any fun y=>PyData.eqv y x) else none
 | x,.tuple xs=>if SeqAt.shaped x=true/\SeqAt.shaped (.tuple xs)=true then some (xs.any fun y=>PyData.eqv y x) else none
 | _,_=>none
def dNin(x y:PyData):R PyData:=match inD x y with
 | some b=>.ok (.bool (!b))
 | none=>.bad
noncomputable def dIx:PyData->PyData->R PyData
 | .list xs,.int i=>match atI xs i with
  | some v=>.ok v
  | none=>.bad
 | .tuple xs,.int i=>match atI xs i with
  | some v=>.ok v
  | none=>.bad
 | .str z,.int i=>if z.length<=sizeLine then match atI z.cps.toList i with
  | some u=>.ok (.str ⟨#[u]⟩)
  | none=>.bad else .bad
 | _,_=>.bad
end
end Fl
namespace Fl
open PySem L2 PyProof.Rows
section
variable{X:Cx}{c:Ct}{E:XK}{e a b:Expr}{α β γ:Type}{Ra:VR α}{Rb:VR β}{Rc:VR γ}{pos:Pos}
def r2D(Ra:VR α)(Rb:VR β)(Rc:VR γ)(g:α->β->R γ):R2:=fun v u H Q=>∃ H0 H1 F a b d,aF F H/\Ra a v H0 F H/\Rb b u H1 F H/\g a b=.ok d/\∀ w F' H',Ext F H F' H'->Rc d w H F' H'->Q w H'
def r1D(Ra:VR α)(Rb:VR β)(g:α->R β):V->Hp->VK->Prop:=fun v H Q=>∃ H0 F a b,aF F H/\Ra a v H0 F H/\g a=.ok b/\∀ w F' H',Ext F H F' H'->Rb b w H F' H'->Q w H'
theorem sK{g:α->β->R γ}:Op2 c Ra Rb Rc g (r2D Ra Rb Rc g):=fun H0 H1 F H a b d v u Q sf ra rb eg q=>⟨H0,H1,F,a,b,d,sf,ra,rb,eg,q⟩
theorem sL{g:α->R β}:Op1 c Ra Rb g (r1D Ra Rb g):=fun H0 F H a b v Q sf ra eg q=>⟨H0,F,a,b,sf,ra,eg,q⟩
theorem aO{op:Operator}{g:PyData->PyData->R PyData}{fa fb:Sg->R PyData}(ho:OpR X (binaryOp op) (r2D (a8 c) (a8 c) (b6 c) g))(hp:cE g)(ha:PR X c E a fa)(hb:PR X c E b fb):PD X c E (.BinOp a op b pos) (e2 g fa fb):=
 PE.imp (aHK ho ha hb) fun σ H Q h=>tV2 sK hp (o3 c) (jW c) h
theorem v8{op:UnaryOp}{g:PyData->R PyData}{fa:Sg->R PyData}(ho:UnR X (unaryOp op) (r1D (a8 c) (b6 c) g))(hp:k7 g)(ha:PR X c E a fa):PD X c E (.UnaryOp op a pos) (e1 g fa):=
 PE.imp (aNR ho ha) fun σ H Q h=>tV1 sL hp (jW c) h
theorem xI{op:CmpOp}{g:PyData->PyData->R PyData}{fa fb:Sg->R PyData}(ho:OpR X (compareOp op) (r2D (a8 c) (a8 c) (b6 c) g))(hp:cE g)(ha:PR X c E a fa)(hb:PR X c E b fb)(hm:behindInMarks op b=false):PD X c E (.Compare a [op] [b] pos) (e2 g fa fb):=
 PE.imp (aIA ho ha hb hm) fun σ H Q h=>tV2 sK hp (o3 c) (jW c) h
theorem bN{g:PyData->PyData->R PyData}{fa fb:Sg->R PyData}(ho:IxR X (r2D (a8 c) (a8 c) (b6 c) g))(hp:cE g)(ha:PR X c E a fa)(hb:PR X c E b fb)(hs:zL b:=by exact fun _ _=>rfl):PD X c E (.Subscript a b pos) (e2 g fa fb):=
 PE.imp (L2.aHM ho ha hb hs) fun σ H Q h=>tV2 sK hp (o3 c) (jW c) h
theorem cX(hK:X.K=c.K):OpR X (binaryOp .Add) (r2D (a8 c) (a8 c) (b6 c) cC):=by
 intro pins s σ H v u x y Q I rx ry h
 obtain ⟨H0,H1,F,a,b,d,sf,ra,rb,eg,q⟩:=h
 unfold cC at eg
 split at eg
 ·rename_i i j
  cases eg
  obtain rfl:=aX.int_of ra
  obtain rfl:=aX.int_of rb
  exact aK6 pins s σ H _ _ x y Q I rx ry ⟨i,j,rfl,rfl,q _ F H (Ext.refl sf) (.int _)⟩
 ·rename_i i j
  split at eg
  ·rename_i hz
   cases eg
   obtain rfl:=aX.str_of ra
   obtain rfl:=aX.str_of rb
   exact aA0 pins s σ H _ _ x y Q I rx ry ⟨i,j,rfl,rfl,hz,q _ F H (Ext.refl sf) (.str _)⟩
  ·cases eg
 ·rename_i xs ys
  split at eg
  ·rename_i hz
   cases eg
   obtain ⟨pa,vs,rfl,fa,ha,da⟩:=aX.tup_of sf ra
   obtain ⟨pb,us,rfl,fb,hb,db⟩:=aX.tup_of sf rb
   rw[<-hK] at ha hb
   refine aIH pins s σ H _ _ x y Q I rx ry ⟨pa,pb,vs,us,rfl,rfl,ha,hb,?_,by rw[da.length,db.length];exact hz.2,fun z=>?_,fun z p hp=>?_⟩
   ·intro z;subst z;obtain rfl:xs=[]:=by cases da;rfl
    exact absurd hz.1 (by decide)
   ·subst z
    obtain rfl:ys=[]:=by cases db;rfl
    exact q _ F H (Ext.refl sf) (by rw[List.append_nil];exact .tup fa da)
   ·exact q _ _ _ (Ext.new sf hp) (.tup (SqT.of aL) ((da.append db).same (aF.upd (bG sf hp))))
  ·cases eg
 ·cases eg
theorem b8:cE cC:=by
 intro a b e h
 unfold cC at h
 split at h<;>(try split at h)<;>cases h
theorem j8{f:Value->Value->Sem Value}{g:PyData->PyData->R PyData}{C:Int->Int->Prop}{k:Int->Int->PyData}{kv:Int->Int->V}(ho:OpR X f (rI C kv))(hk:∀ i j F,DatV c.K F (kv i j) (k i j))
  (hg:∀ a b d,g a b=.ok d->∃ i j,a=.int i/\b=.int j/\C i j/\d=k i j):OpR X f (r2D (a8 c) (a8 c) (b6 c) g):=by
 intro pins s σ H v u x y Q I rx ry h
 obtain ⟨H0,H1,F,a,b,d,sf,ra,rb,eg,q⟩:=h
 obtain ⟨i,j,rfl,rfl,hc,rfl⟩:=hg a b d eg
 obtain rfl:=aX.int_of ra
 obtain rfl:=aX.int_of rb
 exact ho pins s σ H _ _ x y Q I rx ry ⟨i,j,rfl,rfl,hc,q _ F H (Ext.refl sf) (hk i j F)⟩
theorem sM{f:Value->Value->Sem Value}{kv:Int->Int->V}(ho:OpR X f (rI0 kv)):OpR X f (rI (fun _ _=>True) kv):=fun pins s σ H x y v u Q I rx ry ⟨i,j,h1,h2,_,q⟩=>ho pins s σ H x y v u Q I rx ry ⟨i,j,h1,h2,q⟩
theorem p4:OpR X (binaryOp .Sub) (r2D (a8 c) (a8 c) (b6 c) dSub):=j8 (sM aK7) (fun _ _ _=>.int _) fun a b d h=>by
 unfold dSub at h;split at h
 · cases h; exact ⟨_, _, rfl, rfl, trivial, rfl⟩
 · cases h
theorem fK:OpR X (binaryOp .Mult) (r2D (a8 c) (a8 c) (b6 c) dMul):=j8 aK8 (fun _ _ _=>.int _) fun a b d h=>by
 unfold dMul at h;split at h
 ·split at h
  · rename_i hc; cases h; exact ⟨_, _, rfl, rfl, hc, rfl⟩
  · cases h
 ·cases h
theorem dW:OpR X (binaryOp .FloorDiv) (r2D (a8 c) (a8 c) (b6 c) dDiv):=j8 aFL (fun _ _ _=>.int _) fun a b d h=>by
 unfold dDiv at h;split at h
 ·split at h
  · rename_i hc; cases h; exact ⟨_, _, rfl, rfl, hc, rfl⟩
  · cases h
 ·cases h
theorem b7:OpR X (binaryOp .Mod) (r2D (a8 c) (a8 c) (b6 c) dMod):=j8 aK9 (fun _ _ _=>.int _) fun a b d h=>by
 unfold dMod at h;split at h
 ·split at h
  · rename_i hc; cases h; exact ⟨_, _, rfl, rfl, hc, rfl⟩
  · cases h
 ·cases h
theorem sN:OpR X (compareOp .Lt) (r2D (a8 c) (a8 c) (b6 c) dLt):=j8 (sM aNS) (fun _ _ _=>.bl _) fun a b d h=>by
 unfold dLt at h;split at h
 · cases h; exact ⟨_, _, rfl, rfl, trivial, rfl⟩
 · cases h
theorem xJ:OpR X (compareOp .LtE) (r2D (a8 c) (a8 c) (b6 c) dLe):=j8 (sM aNT) (fun _ _ _=>.bl _) fun a b d h=>by
 unfold dLe at h;split at h
 · cases h; exact ⟨_, _, rfl, rfl, trivial, rfl⟩
 · cases h
theorem o4:OpR X (compareOp .Gt) (r2D (a8 c) (a8 c) (b6 c) dGt):=j8 (sM aNU) (fun _ _ _=>.bl _) fun a b d h=>by
 unfold dGt at h;split at h
 · cases h; exact ⟨_, _, rfl, rfl, trivial, rfl⟩
 · cases h
theorem aLY:OpR X (compareOp .GtE) (r2D (a8 c) (a8 c) (b6 c) dGe):=j8 (sM aNV) (fun _ _ _=>.bl _) fun a b d h=>by
 unfold dGe at h;split at h
 · cases h; exact ⟨_, _, rfl, rfl, trivial, rfl⟩
 · cases h
theorem lZ:cE dSub:=by intro a b e h;unfold dSub at h;split at h<;>cases h
theorem eE:cE dMul:=by intro a b e h;unfold dMul at h;split at h<;>(try split at h)<;>cases h
theorem cQ:cE dDiv:=by intro a b e h;unfold dDiv at h;split at h<;>(try split at h)<;>cases h
theorem bK:cE dMod:=by intro a b e h;unfold dMod at h;split at h<;>(try split at h)<;>cases h
theorem nN:cE dLt:=by intro a b e h;unfold dLt at h;split at h<;>cases h
theorem rG:cE dLe:=by intro a b e h;unfold dLe at h;split at h<;>cases h
theorem k9:cE dGt:=by intro a b e h;unfold dGt at h;split at h<;>cases h
theorem aF2:cE dGe:=by intro a b e h;unfold dGe at h;split at h<;>cases h
theorem jM:cE dEq:=by intro a b e h;unfold dEq at h;split at h<;>cases h
theorem rH:cE dNe:=by intro a b e h;unfold dNe at h;split at h<;>cases h
theorem xK:cE dIs:=by intro a b e h;unfold dIs at h;split at h<;>cases h
theorem aBQ:cE dIsnt:=by intro a b e h;unfold dIsnt at h;split at h<;>cases h
theorem aDH:cE dNin:=by intro a b e h;unfold dNin at h;split at h<;>cases h
theorem l0:k7 dNeg:=by intro a e h;unfold dNeg at h;split at h<;>cases h
theorem aU:cE dIx:=by
 intro a b e h
 unfold dIx at h
 split at h<;>(try split at h)<;>(try split at h)<;>cases h
theorem p6:UnR X (unaryOp .USub) (r1D (a8 c) (b6 c) dNeg):=by
 intro pins s σ H v x Q I rx h
 obtain ⟨H0,F,a,d,sf,ra,eg,q⟩:=h
 unfold dNeg at eg
 split at eg
 ·rename_i i
  cases eg
  obtain rfl:=aX.int_of ra
  exact aLA pins s σ H _ x Q I rx ⟨i,rfl,q _ F H (Ext.refl sf) (.int _)⟩
 ·cases eg
theorem mS(hK:X.K=c.K)(hu:X.A.units+64 < cLine):OpR X (compareOp .Eq) (r2D (a8 c) (a8 c) (b6 c) dEq):=by
 intro pins s σ H v u x y Q I rx ry h
 obtain ⟨H0,H1,F,a,b,d,sf,ra,rb,eg,q⟩:=h
 unfold dEq at eg
 split at eg
 ·rename_i hs
  cases eg
  exact aLP hu pins s σ H _ _ x y Q I rx ry ⟨a,b,by rw[hK];exact aX.heap sf ra,by rw[hK];exact aX.heap sf rb,hs.1,hs.2,q _ F H (Ext.refl sf) (.bl _)⟩
 ·cases eg
theorem xL(hK:X.K=c.K)(hu:X.A.units+64 < cLine):OpR X (compareOp .NotEq) (r2D (a8 c) (a8 c) (b6 c) dNe):=by
 intro pins s σ H v u x y Q I rx ry h
 obtain ⟨H0,H1,F,a,b,d,sf,ra,rb,eg,q⟩:=h
 unfold dNe at eg
 split at eg
 ·rename_i hs
  cases eg
  exact aLQ hu pins s σ H _ _ x y Q I rx ry ⟨a,b,by rw[hK];exact aX.heap sf ra,by rw[hK];exact aX.heap sf rb,hs.1,hs.2,q _ F H (Ext.refl sf) (.bl _)⟩
 ·cases eg
theorem l3{K:Frag}{F H:Hp}{v:V}{d:PyData}(h:aX K F H v d):decide (v=.non)=fU d:=by
 rcases h with h|⟨p,vs,xs,h1,h2,_⟩
 · cases h <;> rfl
 · subst h1 h2; rfl
theorem aDI:OpR X (compareOp .Is) (r2D (a8 c) (a8 c) (b6 c) dIs):=by
 intro pins s σ H v u x y Q I rx ry h
 obtain ⟨H0,H1,F,a,b,d,sf,ra,rb,eg,q⟩:=h
 unfold dIs at eg
 split at eg
 ·rename_i hs
  cases eg
  have e2:=l3 rb
  rw[hs] at e2
  refine aLB pins s σ H _ _ x y Q I rx ry ⟨of_decide_eq_true e2,q _ F H (Ext.refl sf) ?_⟩
  rw[l3 ra];exact .bl _
 ·cases eg
theorem aF3:OpR X (compareOp .IsNot) (r2D (a8 c) (a8 c) (b6 c) dIsnt):=by
 intro pins s σ H v u x y Q I rx ry h
 obtain ⟨H0,H1,F,a,b,d,sf,ra,rb,eg,q⟩:=h
 unfold dIsnt at eg
 split at eg
 ·rename_i hs
  cases eg
  have e2:=l3 rb
  rw[hs] at e2
  refine aH9 pins s σ H _ _ x y Q I rx ry ⟨of_decide_eq_true e2,q _ F H (Ext.refl sf) ?_⟩
  rw[l3 ra];exact .bl _
 ·cases eg
theorem aBR{xs:List PyData}(h:SeqAt.shaped (.list xs)=true):PyData.canLayAll0 xs=true/\PyData.depthAll xs<=63:=by
 have h':(PyData.canLay0 (.list xs) && decide ((PyData.list xs).depth<=64))=true:=h
 rw[Bool.and_eq_true] at h'
 have hd:PyData.depthAll xs+1<=64:=of_decide_eq_true h'.2
 exact ⟨h'.1,by omega⟩
theorem zB{xs:List PyData}(h:SeqAt.shaped (.tuple xs)=true):PyData.canLayAll0 xs=true/\PyData.depthAll xs<=63:=by
 have h':(PyData.canLay0 (.tuple xs) && decide ((PyData.tuple xs).depth<=64))=true:=h
 rw[Bool.and_eq_true] at h'
 have hd:PyData.depthAll xs+1<=64:=of_decide_eq_true h'.2
 exact ⟨h'.1,by omega⟩
theorem gR{d:PyData}(h:SeqAt.shaped d=true):d.canLay0=true:=by
 have h':(PyData.canLay0 d && decide (d.depth<=64))=true:=h
 rw[Bool.and_eq_true] at h'
 exact h'.1
theorem inD_cases{x y:PyData}{b:Bool}(h:inD x y=some b):(∃ i j,x=.str i/\y=.str j/\b = !(Builtin.Str.occurrences j i 0 j.length 1).isEmpty) \/
  (∃ xs,y=.list xs/\SeqAt.shaped x=true/\SeqAt.shaped (.list xs)=true/\b=xs.any fun z=>PyData.eqv z x)\/(∃ xs,y=.tuple xs/\SeqAt.shaped x=true/\SeqAt.shaped (.tuple xs)=true/\b=xs.any fun z=>PyData.eqv z x):=by
 unfold inD at h
 split at h
 ·cases h;exact .inl ⟨_,_,rfl,rfl,rfl⟩
 ·split at h
  · rename_i hs; cases h; exact .inr (.inl ⟨_, rfl, hs.1, hs.2, rfl⟩)
  · cases h
 ·split at h
  · rename_i hs; cases h; exact .inr (.inr ⟨_, rfl, hs.1, hs.2, rfl⟩)
  · cases h
 ·cases h
theorem xM{a b:Nat}(h:a<=63):min a b<=63:=Nat.le_trans (Nat.min_le_left _ _) h
theorem aIZ(hK:X.K=c.K)(hu:X.A.units+64 < cLine):OpR X (compareOp .NotIn) (r2D (a8 c) (a8 c) (b6 c) dNin):=by
 intro pins s σ H v u x y Q I rx ry h
 obtain ⟨H0,H1,F,a,b,d,sf,ra,rb,eg,q⟩:=h
 unfold dNin at eg
 split at eg
 ·rename_i bb hb
  cases eg
  have fin:EP X pins σ Q (.bool (!bb)) s:=⟨.bl (!bb),H,I,rfl,q _ F H (Ext.refl sf) (.bl _)⟩
  rcases inD_cases hb with ⟨i,j,rfl,rfl,rfl⟩|⟨xs,rfl,h1,h2,rfl⟩|⟨xs,rfl,h1,h2,rfl⟩
  ·obtain rfl:=aX.str_of ra
   obtain rfl:=aX.str_of rb
   exact wL pins s σ H _ _ x y Q I rx ry ⟨i,j,rfl,rfl,q _ F H (Ext.refl sf) (.bl _)⟩
  ·obtain ⟨as,r1⟩:=DatV.reads I (by rw[hK];exact aX.heap sf ra) (gR h1) rx
   obtain ⟨bs,r2⟩:=DatV.reads I (by rw[hK];exact aX.heap sf rb) (gR h2) ry
   have hs:=aBR h2
   have hm:=xM (b:=a.depth) hs.2
   exact SeqAt.notIn_list_reads r2 r1 hs.1 (gR h1) (by omega) fin
  ·obtain ⟨as,r1⟩:=DatV.reads I (by rw[hK];exact aX.heap sf ra) (gR h1) rx
   obtain ⟨bs,r2⟩:=DatV.reads I (by rw[hK];exact aX.heap sf rb) (gR h2) ry
   have hs:=zB h2
   have hm:=xM (b:=a.depth) hs.2
   exact SeqAt.notIn_tuple_reads r2 r1 hs.1 (gR h1) (by omega) fin
 ·cases eg
theorem bO(hK:X.K=c.K):IxR X (r2D (a8 c) (a8 c) (b6 c) dIx):=by
 intro value slice pins s σ H v u x y Q I rx ry h hs
 obtain ⟨H0,H1,F,a,b,d,sf,ra,rb,eg,q⟩:=h
 unfold dIx at eg
 split at eg
 ·rename_i xs i
  split at eg
  ·rename_i w hw
   cases eg
   obtain ⟨p,vs,rfl,h1,h2⟩:=aX.lst_of sf ra
   obtain rfl:=aX.int_of rb
   obtain ⟨z,h3,h4⟩:=xH h2 hw
   rw[<-hK] at h1
   exact zM value slice pins s σ H _ _ x y Q I rx ry ⟨p,vs,i,z,rfl,rfl,h1,h3,q _ F H (Ext.refl sf) h4⟩ hs
  ·cases eg
 ·rename_i xs i
  split at eg
  ·rename_i w hw
   cases eg
   obtain ⟨p,vs,rfl,_,h1,h2⟩:=aX.tup_of sf ra
   obtain rfl:=aX.int_of rb
   obtain ⟨z,h3,h4⟩:=xH h2 hw
   rw[<-hK] at h1
   exact aCR value slice pins s σ H _ _ x y Q I rx ry ⟨p,vs,i,z,rfl,rfl,h1,h3,q _ F H (Ext.refl sf) h4⟩ hs
  ·cases eg
 ·rename_i z i
  split at eg
  ·rename_i hz
   split at eg
   ·rename_i w hw
    cases eg
    obtain rfl:=aX.str_of ra
    obtain rfl:=aX.int_of rb
    exact aCS value slice pins s σ H _ _ x y Q I rx ry ⟨z,i,w,rfl,rfl,hz,hw,q _ F H (Ext.refl sf) (.str _)⟩ hs
   ·cases eg
  ·cases eg
 ·cases eg
def tTf(c:Ct)(E:XK)(f:Sg->R Bool):TT:=fun σ H Q=>∃ ρ F,Ab c ρ σ F H/\Rk c E F H (f ρ) fun b=>∀ F' H',Ext F H F' H'->Q b H'
abbrev PTf(X:Cx)(c:Ct)(E:XK)(e:Expr)(f:Sg->R Bool):Prop:=PT X e (tTf c E f)
def asB:PyData->R Bool
 | .bool b=>.ok b
 | _=>.bad
theorem p7{f:Sg->R PyData}{σ:L2.St}{H:Hp}{Q:Bool->Hp->Prop}(h:tTf c E (e1 asB f) σ H Q):tV (b6 c) c E f σ H fun x H'=>∃ k,x=.bl k/\Q k H':=by
 obtain ⟨ρ,F,ab,h⟩:=h
 refine ⟨ρ,F,ab,(Rk.bind h).imp fun d _ q v F' H' s r=>?_⟩
 cases d with
 | bool b=>exact ⟨b,DatV.bl_of r,Rk.ok q F' H' s⟩
 | _=>exact False.elim q
theorem dF{op:CmpOp}{g:PyData->PyData->R PyData}{fa fb:Sg->R PyData}(ho:OpR X (compareOp op) (r2D (a8 c) (a8 c) (b6 c) g))(hp:cE g)(ha:PR X c E a fa)(hb:PR X c E b fb)(hm:behindInMarks op b=false):PTf X c E (.Compare a [op] [b] pos) (e1 asB (e2 g fa fb)):=
 PT.imp (pQ ho ha hb hm) fun σ H Q h=>tV2 sK hp (o3 c) (jW c) (p7 h)
theorem kX{f:Sg->R PyData}(h:PD X c E e f)(he:∀ whole,isTrue e X.env whole=(do let v <-whole;standAt e.pos;holding [v] (truthy v)):=by intro _;rfl):PTf X c E e (e1 asB f):=
 PT.imp (L2.kX h he) fun σ H Q h=>p7 h
def jN(f g:Sg->R Bool):Sg->R Bool:=fun ρ=>(f ρ).bind fun b=>if b=true then g ρ else .ok false
def bOr(f g:Sg->R Bool):Sg->R Bool:=fun ρ=>(f ρ).bind fun b=>if b=true then .ok true else g ρ
def mE(f:Sg->R Bool):Sg->R Bool:=fun ρ=>(f ρ).bind fun b=>.ok (!b)
abbrev PWf(X:Cx)(c:Ct)(E:XK)(e:Expr)(f:Sg->R Bool):Prop:=PW X e (tTf c E f)
theorem PW.imp{X:Cx}{e:Expr}{t t':TT}(h:PW X e t)(i:∀ σ H Q,t' σ H Q->t σ H Q):PW X e t':=fun whole pins s σ H Q I q=>h whole pins s σ H Q I (i σ H Q q)
theorem aPC{f g:Sg->R Bool}{σ:L2.St}{H:Hp}{Q:Bool->Hp->Prop}(h:tTf c E (jN f g) σ H Q):aKV (tTf c E f) (tTf c E g) σ H Q:=by
 obtain ⟨ρ,F,ab,h⟩:=h
 refine ⟨ρ,F,ab,(Rk.bind h).imp fun b _ q F' H' s=>?_⟩
 cases b with
 | true=>exact ⟨ρ,F',ab.ext s,(Rk.ext s q).imp fun d _ z F2 H2 s2=>z F2 H2 (s.trans s2)⟩
 | false=>exact Rk.ok q F' H' s
theorem tor{f g:Sg->R Bool}{σ:L2.St}{H:Hp}{Q:Bool->Hp->Prop}(h:tTf c E (bOr f g) σ H Q):tOr (tTf c E f) (tTf c E g) σ H Q:=by
 obtain ⟨ρ,F,ab,h⟩:=h
 refine ⟨ρ,F,ab,(Rk.bind h).imp fun b _ q F' H' s=>?_⟩
 cases b with
 | false=>exact ⟨ρ,F',ab.ext s,(Rk.ext s q).imp fun d _ z F2 H2 s2=>z F2 H2 (s.trans s2)⟩
 | true=>exact Rk.ok q F' H' s
theorem mJ{f:Sg->R Bool}(h:PTf X c E a f):PWf X c E (.BoolOp .And [a] pos) f:=L2.mJ h
theorem oM{f:Sg->R Bool}(h:PTf X c E a f):PWf X c E (.BoolOp .Or [a] pos) f:=L2.oM h
theorem mK{f g:Sg->R Bool}{rest:List Expr}(h:PTf X c E a f)(h2:PWf X c E (.BoolOp .And (b::rest) pos) g):PWf X c E (.BoolOp .And (a::b::rest) pos) (jN f g):=PW.imp (L2.mK h h2) fun _ _ _ q=>aPC q
theorem r6{f g:Sg->R Bool}{rest:List Expr}(h:PTf X c E a f)(h2:PWf X c E (.BoolOp .Or (b::rest) pos) g):PWf X c E (.BoolOp .Or (a::b::rest) pos) (bOr f g):=PW.imp (L2.r6 h h2) fun _ _ _ q=>tor q
theorem mL{f:Sg->R Bool}(h:PTf X c E a f):PTf X c E (.UnaryOp .Not a pos) (mE f):=PT.imp (L2.mL h) fun σ H Q ⟨ρ,F,ab,k⟩=>⟨ρ,F,ab,(Rk.bind k).imp fun b _ q F' H' s=>Rk.ok q F' H' s⟩
noncomputable def t4(f g:Sg->R PyData):Sg->R PyData:=fun ρ=>(f ρ).bind fun x=>(asB x).bind fun b=>if b=true then g ρ else .ok (.bool false)
def eOr(f g:Sg->R PyData):Sg->R PyData:=fun ρ=>(f ρ).bind fun x=>(asB x).bind fun b=>if b=true then .ok (.bool true) else g ρ
def aF4(f:Sg->R PyData):Sg->R PyData:=fun ρ=>(f ρ).bind fun x=>(asB x).bind fun b=>.ok (.bool (!b))
def eIf{α:Type}(t:Sg->R Bool)(f g:Sg->R α):Sg->R α:=fun ρ=>(t ρ).bind fun b=>if b=true then f ρ else g ρ
theorem aDJ{op}{f:Sg->R PyData}(h:PD X c E a f):PD X c E (.BoolOp op [a] pos) f:=aKW h
theorem aDK{f g:Sg->R PyData}{rest:List Expr}(h:PD X c E a f)(h2:PD X c E (.BoolOp .And (b::rest) pos) g):PD X c E (.BoolOp .And (a::b::rest) pos) (t4 f g):=PE.imp (aKX h h2) fun σ H Q zz0=>by
 obtain ⟨ρ,F,ab,k⟩:=zz0
 refine ⟨ρ,F,ab,(Rk.bind k).imp fun d _ q v F' H' s r=>?_⟩
 cases d with
 | bool b=>
  refine ⟨b,DatV.bl_of r,?_⟩
  cases b with
  | true=>exact tQ ⟨ρ,F',ab.ext s,(Rk.ext s q).imp fun d _ z v F2 H2 s2=>z v F2 H2 (s.trans s2)⟩
  | false=>exact tP (Rk.ok q (.bl false) F' H' s (.bl false))
 | _=>exact False.elim q
theorem aLZ{f:Sg->R PyData}(h:PD X c E a f):PD X c E (.UnaryOp .Not a pos) (aF4 f):=PE.imp (aKY h) fun σ H Q zz0=>by
 obtain ⟨ρ,F,ab,k⟩:=zz0
 refine ⟨ρ,F,ab,(Rk.bind k).imp fun d _ q v F' H' s r=>?_⟩
 cases d with
 | bool b=>exact ⟨b,DatV.bl_of r,Rk.ok q _ F' H' s (.bl _)⟩
 | _=>exact False.elim q
theorem aHT{t:Sg->R Bool}{f g:Sg->R PyData}{q:Expr}(hq:PTf X c E q t)(h:PD X c E a f)(h2:PD X c E b g):PD X c E (.IfExp q a b pos) (eIf t f g):=PE.imp (aE4 hq h h2) fun σ H Q zz0=>by
 obtain ⟨ρ,F,ab,k⟩:=zz0
 refine ⟨ρ,F,ab,(Rk.bind k).imp fun b _ q F' H' s=>?_⟩
 cases b with
 | true=>exact tQ ⟨ρ,F',ab.ext s,(Rk.ext s q).imp fun d _ z v F2 H2 s2=>z v F2 H2 (s.trans s2)⟩
 | false=>exact tP ⟨ρ,F',ab.ext s,(Rk.ext s q).imp fun d _ z v F2 H2 s2=>z v F2 H2 (s.trans s2)⟩
noncomputable def eCh(g g':PyData->PyData->R PyData)(fa fb fc:Sg->R PyData):Sg->R PyData:=fun ρ=>(fa ρ).bind fun x=>(fb ρ).bind fun y=>(g x y).bind fun z=>(asB z).bind fun k=>if k=true then (fc ρ).bind fun w=>g' y w else .ok (.bool false)
theorem aDL{g g':PyData->PyData->R PyData}(hp:cE g)(hp':cE g'){fa fb fc:Sg->R PyData}{σ:L2.St}{H:Hp}{Q:VK}(h:tV (b6 c) c E (eCh g g' fa fb fc) σ H Q) :
  tChain (r2D (a8 c) (a8 c) (b6 c) g) (r2D (a8 c) (a8 c) (b6 c) g') (tV (a8 c) c E fa) (tV (a8 c) c E fb) (tV (a8 c) c E fc) σ H Q:=by
 obtain ⟨ρ,F,ab,h⟩:=h
 refine ⟨ρ,F,ab,(Rk.bind h).imp fun x _ q v F1 H1 s1 rv=>?_⟩
 refine ⟨ρ,F1,ab.ext s1,((Rk.bind q).ext s1).imp fun y _ q u F2 H2 s2 ru=>?_⟩
 cases eg:g x y with
 | bad=>rw[eg] at q;exact q.elim
 | ex e=>exact absurd eg (hp x y e)
 | ok z=>
  rw[eg] at q
  refine ⟨H,H1,F2,x,y,z,s2.fh,aX.ext s2 rv,ru,eg,fun w F3 H3 s3 rw'=>?_⟩
  have s13:=(s1.trans s2).trans s3
  cases z with
  | bool k=>
   refine ⟨k,DatV.bl_of rw',?_⟩
   cases k with
   | false=>exact tP (Rk.ok q (.bl false) F3 H3 s13 (.bl false))
   | true=>
    have q':Rk c E F H ((fc ρ).bind fun w=>g' y w) (fun d=>∀ v F' H',Ext F H F' H'->b6 c d v H F' H'->Q v H'):=q
    refine tQ ⟨ρ,F3,ab.ext s13,((Rk.bind q').ext s13).imp fun w _ q v' F4 H4 s4 rw2=>?_⟩
    cases eg2:g' y w with
    | bad=>rw[eg2] at q;exact q.elim
    | ex e=>exact absurd eg2 (hp' y w e)
    | ok z2=>
     rw[eg2] at q
     exact ⟨H1,H3,F4,y,w,z2,s4.fh,aX.ext (s3.trans s4) ru,rw2,eg2,fun w' F5 H5 s5 r5=>Rk.ok q w' F5 H5 ((s13.trans s4).trans s5) r5⟩
  | _=>exact False.elim q
theorem aF5{op op':CmpOp}{g g':PyData->PyData->R PyData}{cc:Expr}{fa fb fc:Sg->R PyData}(ho:OpR X (compareOp op) (r2D (a8 c) (a8 c) (b6 c) g))(hp:cE g)(ho':OpR X (compareOp op') (r2D (a8 c) (a8 c) (b6 c) g'))(hp':cE g')
  (ha:PR X c E a fa) (hb:PR X c E b fb) (hc:PR X c E cc fc) (hm:lastMarks [op,op'] [b,cc]=false:=by with_unfolding_all rfl):PD X c E (.Compare a [op,op'] [b,cc] pos) (eCh g g' fa fb fc):=
 PE.imp (aE9 ho ho' ha hb hc hm) fun σ H Q h=>aDL hp hp' h
theorem qZ{op op':CmpOp}{g g':PyData->PyData->R PyData}{cc:Expr}{fa fb fc:Sg->R PyData}(ho:OpR X (compareOp op) (r2D (a8 c) (a8 c) (b6 c) g))(hp:cE g)(ho':OpR X (compareOp op') (r2D (a8 c) (a8 c) (b6 c) g'))(hp':cE g')
  (ha:PR X c E a fa) (hb:PR X c E b fb) (hc:PR X c E cc fc) (hm:lastMarks [op,op'] [b,cc]=false:=by with_unfolding_all rfl):PTf X c E (.Compare a [op,op'] [b,cc] pos) (e1 asB (eCh g g' fa fb fc)):=
 PT.imp (L2.qZ ho ho' ha hb hc hm) fun σ H Q h=>aDL hp hp' (p7 h)
end
end Fl
namespace Fl
open PySem L2 PyProof.Rows
def AFs(g:Gb)(K:Frag)(mg:Str->Option Value)(F:Hp):List A->List V->Prop
 | [],[]=>True
 | a::as,v::vs=>AF g K mg F a v/\AFs g K mg F as vs
 | _,_=>False
theorem AFs.same{g:Gb}{K:Frag}{mg:Str->Option Value}{F F':Hp}(s:aF F F'):∀ {as:List A} {vs:List V},AFs g K mg F as vs->AFs g K mg F' as vs
 | [],[],_=>trivial
 | a::as,v::vs,h=>⟨AF.same s h.1,AFs.same s h.2⟩
theorem AFs.len{g:Gb}{K:Frag}{mg:Str->Option Value}{F:Hp}:∀ {as:List A} {vs:List V},AFs g K mg F as vs->vs.length=as.length
 | [],[],_=>rfl
 | a::as,v::vs,h=>by rw[List.length_cons,List.length_cons,AFs.len h.2]
theorem PA.imp{X:Cx}{es:List Expr}{t t':TA}(h:PA X es t)(i:∀ σ H Q,t' σ H Q->t σ H Q):PA X es t':=fun pos pins s σ H Q I q=>h pos pins s σ H Q I (i σ H Q q)
def tAd(c:Ct)(E:XK)(f:Sg->R (List PyData)):TA:=fun σ H Q=>∃ ρ F,Ab c ρ σ F H/\Rk c E F H (f ρ) fun ds=>∀ vs F' H',Ext F H F' H'->DatVs c.K F' vs ds->Q vs H'
def tAv(c:Ct)(E:XK)(f:Sg->R (List A)):TA:=fun σ H Q=>∃ ρ F,Ab c ρ σ F H/\Rk c E F H (f ρ) fun ds=>∀ vs F' H',Ext F H F' H'->AFs c.g c.K c.mg F' ds vs->Q vs H'
abbrev PAd(X:Cx)(c:Ct)(E:XK)(es:List Expr)(f:Sg->R (List PyData)):Prop:=PA X es (tAd c E f)
abbrev PAv(X:Cx)(c:Ct)(E:XK)(es:List Expr)(f:Sg->R (List A)):Prop:=PA X es (tAv c E f)
noncomputable def aH{α:Type}:Sg->R (List α):=fun _=>.ok []
def aA{α:Type}(f:Sg->R α)(g:Sg->R (List α)):Sg->R (List α):=fun ρ=>(f ρ).bind fun x=>(g ρ).bind fun xs=>.ok (x::xs)
section
variable{X:Cx}{c:Ct}{E:XK}{e a b:Expr}{es:List Expr}{pos:Pos}
theorem bJ:PAd X c E [] aH:=PA.imp aW fun σ H Q ⟨ρ,F,ab,k⟩=>Rk.ok k [] F H (Ext.refl ab.fh) .nil
theorem bL:PAv X c E [] aH:=PA.imp aW fun σ H Q ⟨ρ,F,ab,k⟩=>Rk.ok k [] F H (Ext.refl ab.fh) trivial
theorem aM{f:Sg->R PyData}{g:Sg->R (List PyData)}(h:PD X c E e f)(h2:PAd X c E es g)(hs:starEach (e::es) X.env=(false,eval e X.env)::starEach es X.env:=by rfl):PAd X c E (e::es) (aA f g):=PA.imp (aP h h2 hs) fun σ H Q zz0=>by
 obtain ⟨ρ,F,ab,k⟩:=zz0
 refine ⟨ρ,F,ab,(Rk.bind k).imp fun x _ q v F1 H1 s1 r1=>⟨ρ,F1,ab.ext s1,((Rk.bind q).ext s1).imp fun xs _ q vs F2 H2 s2 r2=>?_⟩⟩
 exact Rk.ok q (v::vs) F2 H2 (s1.trans s2) (.cons (DatV.same s2.ff r1) r2)
theorem aG{f:Sg->R A}{g:Sg->R (List A)}(h:PV X c E e f)(h2:PAv X c E es g)(hs:starEach (e::es) X.env=(false,eval e X.env)::starEach es X.env:=by rfl):PAv X c E (e::es) (aA f g):=PA.imp (aP h h2 hs) fun σ H Q zz0=>by
 obtain ⟨ρ,F,ab,k⟩:=zz0
 refine ⟨ρ,F,ab,(Rk.bind k).imp fun x _ q v F1 H1 s1 r1=>⟨ρ,F1,ab.ext s1,((Rk.bind q).ext s1).imp fun xs _ q vs F2 H2 s2 r2=>?_⟩⟩
 exact Rk.ok q (v::vs) F2 H2 (s1.trans s2) ⟨AF.same s2.ff r1,r2⟩
def bR(f:Sg->R (List PyData)):Sg->R PyData:=fun ρ=>(f ρ).bind fun xs=>if xs.length<=16777216 then .ok (.tuple xs) else .bad
def g7(f:Sg->R (List PyData)):Sg->R (List PyData):=fun ρ=>(f ρ).bind fun xs=>if xs.length<=16777216 then .ok xs else .bad
theorem cY:sizeLine=16777216:=sizeLine_eq
theorem cR{x1}{f:Sg->R (List PyData)}(h:PAd X c E es f):PD X c E (.Tuple es x1 pos) (bR f):=PE.imp (aLD h) fun σ H Q zz0=>by
 obtain ⟨ρ,F,ab,k⟩:=zz0
 refine ⟨ρ,F,ab,(Rk.bind k).imp fun xs _ q vs F1 H1 s1 r1=>?_⟩
 by_cases hz:xs.length<=16777216
 ·rw[if_pos hz] at q
  refine ⟨by rw[r1.length,cY];exact hz,fun p hp=>?_⟩
  exact Rk.ok q (.ref p) _ _ (s1.trans (Ext.new s1.fh hp)) (.tup (SqT.of aL) (r1.same (aF.upd (bG s1.fh hp))))
 ·rw[if_neg hz] at q;exact q.elim
theorem j9{f:Sg->R (List PyData)}(h:PAd X c E es f):PN X c E (.List es pos) (g7 f):=PE.imp (aLE h) fun σ H Q zz0=>by
 obtain ⟨ρ,F,ab,k⟩:=zz0
 refine ⟨ρ,F,ab,(Rk.bind k).imp fun xs _ q vs F1 H1 s1 r1=>?_⟩
 by_cases hz:xs.length<=16777216
 ·rw[if_pos hz] at q
  refine ⟨by rw[r1.length,cY];exact hz,fun p hp=>?_⟩
  exact Rk.ok q (.ref p) _ _ (s1.trans (Ext.own s1.fh hp)) ⟨p,vs,rfl,bG s1.hh hp,aL,bG s1.fh hp,r1⟩
 ·rw[if_neg hz] at q;exact q.elim
noncomputable def dLen:PyData->R PyData
 | .str z=>if z.length<=16777216 then .ok (.int z.length) else .bad
 | .list xs=>.ok (.int xs.length)
 | .tuple xs=>.ok (.int xs.length)
 | _=>.bad
theorem plain_len:k7 dLen:=by intro a e h;unfold dLen at h;split at h<;>(try split at h)<;>cases h
theorem eR{fa:Sg->R PyData}(hK:X.K=c.K)(h0:PE X e (tCB (fun xs H Q=>∃ x n,xs=[x]/\aLC X.K x H n/\Q (.int n) H) (eX (tV (a8 c) c E fa) gH))):PD X c E e (e1 dLen fa):=
 PE.imp h0 fun σ H Q h=>by
  obtain ⟨ρ,F,ab,k⟩:=tV1 (Ra:=a8 c) sL plain_len (jW c) h
  refine ⟨ρ,F,ab,k.imp fun d _ q v F' H' s r=>?_⟩
  obtain ⟨H0,F1,a,d',sf,ra,eg,q⟩:=q v F' H' s r
  unfold dLen at eg
  split at eg
  ·rename_i z
   split at eg
   ·rename_i hz
    cases eg
    obtain rfl:=aX.str_of ra
    exact ⟨_,_,rfl,⟨by rw[cY];exact hz,rfl⟩,q _ F1 H' (Ext.refl sf) (.int _)⟩
   ·cases eg
  ·cases eg
   obtain ⟨p,vs,rfl,h1,h2⟩:=aX.lst_of sf ra
   rw[<-hK] at h1
   exact ⟨_,vs.length,rfl,.inl ⟨vs,h1,rfl⟩,q _ F1 H' (Ext.refl sf) (by rw[h2.length];exact .int _)⟩
  ·cases eg
   obtain ⟨p,vs,rfl,_,h1,h2⟩:=aX.tup_of sf ra
   rw[<-hK] at h1
   exact ⟨_,vs.length,rfl,.inr ⟨vs,h1,rfl⟩,q _ F1 H' (Ext.refl sf) (by rw[h2.length];exact .int _)⟩
  ·cases eg
noncomputable def dTup:PyData->R PyData
 | .list xs=>.ok (.tuple xs)
 | .tuple xs=>.ok (.tuple xs)
 | _=>.bad
theorem aDM:k7 dTup:=by intro a e h;unfold dTup at h;split at h<;>cases h
theorem fB{fa:Sg->R PyData}(hK:X.K=c.K)(h0:PE X e (tCB (fun xs H Q=>∃ p ys,xs=[.ref p]/\((SqL X.K H p ys/\∀ l,H l=none->Q (.ref l) (upd H l (.tup ys)))\/(SqT X.K H p ys/\Q (.ref p) H))) (eX (tV (a8 c) c E fa) gH))):PD X c E e (e1 dTup fa):=
 PE.imp h0 fun σ H Q h=>by
  obtain ⟨ρ,F,ab,k⟩:=tV1 (Ra:=a8 c) sL aDM (jW c) h
  refine ⟨ρ,F,ab,k.imp fun d _ q v F' H' s r=>?_⟩
  obtain ⟨H0,F1,a,d',sf,ra,eg,q⟩:=q v F' H' s r
  unfold dTup at eg
  split at eg
  ·cases eg
   obtain ⟨p,vs,rfl,h1,h2⟩:=aX.lst_of sf ra
   rw[<-hK] at h1
   exact ⟨p,vs,rfl,.inl ⟨h1,fun l hl=>q _ _ _ (Ext.new sf hl) (.tup (SqT.of aL) (h2.same (aF.upd (bG sf hl))))⟩⟩
  ·cases eg
   obtain ⟨p,vs,rfl,f1,h1,h2⟩:=aX.tup_of sf ra
   rw[<-hK] at h1
   exact ⟨p,vs,rfl,.inr ⟨h1,q _ F1 H' (Ext.refl sf) (.tup f1 h2)⟩⟩
  ·cases eg
noncomputable def aL0:PyData->R (List PyData)
 | .list xs=>.ok xs
 | .tuple xs=>.ok xs
 | _=>.bad
noncomputable def dInt:PyData->R PyData
 | .int i=>.ok (.int i)
 | .bool b=>.ok (.int (if b=true then 1 else 0))
 | _=>.bad
theorem aDN:k7 dInt:=by intro a e h;unfold dInt at h;split at h<;>cases h
theorem aI0{fa:Sg->R PyData}(h0:PE X e (tCB (fun xs H Q=>(∃ i,xs=[.int i]/\Q (.int i) H)\/∃ k,xs=[.bl k]/\Q (.int (if k then 1 else 0)) H) (eX (tV (a8 c) c E fa) gH))):PD X c E e (e1 dInt fa):=
 PE.imp h0 fun σ H Q h=>by
  obtain ⟨ρ,F,ab,k⟩:=tV1 (Ra:=a8 c) sL aDN (jW c) h
  refine ⟨ρ,F,ab,k.imp fun d _ q v F' H' s r=>?_⟩
  obtain ⟨H0,F1,a,d',sf,ra,eg,q⟩:=q v F' H' s r
  unfold dInt at eg
  split at eg
  ·cases eg
   obtain rfl:=aX.int_of ra
   exact .inl ⟨_,rfl,q _ F1 H' (Ext.refl sf) (.int _)⟩
  ·rename_i b
   cases eg
   obtain rfl:=aX.bl_of ra
   exact .inr ⟨b,rfl,q _ F1 H' (Ext.refl sf) (by cases b<;>exact .int _)⟩
  ·cases eg
noncomputable def nO:List PyData->Option (List Bool)
 | []=>some []
 | .bool b::t=>(nO t).map (b :: ·)
 | _=>none
def dAll:PyData->R PyData
 | .list xs=>match nO xs with
  | some bs=>.ok (.bool (bs.all id))
  | none=>.bad
 | _=>.bad
theorem aDO:k7 dAll:=by intro a e h;unfold dAll at h;split at h<;>(try split at h)<;>cases h
theorem xN{K:Frag}{F:Hp}:∀ {vs:List V} {xs:List PyData} {bs:List Bool},DatVs K F vs xs->nO xs=some bs->vs=bs.map V.bl
 | _,_,bs,.nil,e=>by cases e;rfl
 | _,_,bs,.cons (d:=d) (ds:=t) h h2,e=>by
  cases d with
  | bool b=>
   unfold nO at e
   cases q:nO t with
   | none=>rw[q] at e;cases e
   | some cs=>
    rw[q] at e
    cases e
    rw[xN h2 q,DatV.bl_of h];rfl
  | _=>cases e
theorem aL1{fa:Sg->R PyData}(hK:X.K=c.K)(h0:PE X e (tCB (fun xs H Q=>∃ (a:Addr) (bs:List Bool),xs=[.ref a]/\SqL X.K H a (bs.map V.bl)/\Q (.bl (bs.all id)) H) (eX (tV (a8 c) c E fa) gH))):PD X c E e (e1 dAll fa):=
 PE.imp h0 fun σ H Q h=>by
  obtain ⟨ρ,F,ab,k⟩:=tV1 (Ra:=a8 c) sL aDO (jW c) h
  refine ⟨ρ,F,ab,k.imp fun d _ q v F' H' s r=>?_⟩
  obtain ⟨H0,F1,a,d',sf,ra,eg,q⟩:=q v F' H' s r
  unfold dAll at eg
  split at eg
  ·split at eg
   ·rename_i bs hb
    cases eg
    obtain ⟨p,vs,rfl,h1,h2⟩:=aX.lst_of sf ra
    rw[<-hK] at h1
    obtain rfl:=xN h2 hb
    exact ⟨p,bs,rfl,h1,q _ F1 H' (Ext.refl sf) (.bl _)⟩
   ·cases eg
  ·cases eg
end
end Fl
namespace Fl
open PySem L2 PyProof.Rows
inductive Fw where
 | nx (ρ:Sg)|bk (ρ:Sg)|ct (ρ:Sg)|rt (a:A)
def AR(g:Gb)(K:Frag)(mg:Str->Option Value)(H F' H':Hp):A->V->Prop
 | .l xs,v=>∃ p us,v=.ref p/\H p=none/\H' p=some (.lst us)/\F' p=none/\DatVs K F' us xs
 | a,v=>AF g K mg F' a v
theorem AR.of{g:Gb}{K:Frag}{mg:Str->Option Value}{H F' H':Hp}{a:A}{v:V}(h:AF g K mg F' a v):AR g K mg H F' H' a v:=by
 cases a with
 | l xs=>exact False.elim h
 | _=>exact h
def f7(c:Ct)(F:Hp)(D:jD):Fw->Prop
 | .nx ρ=>∀ σ' F' H',aF F F'->Ab c ρ σ' F' H'->D.nx σ' H'
 | .bk ρ=>∀ σ' F' H',aF F F'->Ab c ρ σ' F' H'->D.bk σ' H'
 | .ct ρ=>∀ σ' F' H',aF F F'->Ab c ρ σ' F' H'->D.ct σ' H'
 | .rt a=>∀ v F' H',Ext c.F0 c.H0 F' H'->AR c.g c.K c.mg c.H0 F' H' a v->D.rt v H'
theorem f7.same{c:Ct}{F F1:Hp}{D:jD}(s:aF F F1):∀ {w:Fw},f7 c F D w->f7 c F1 D w
 | .nx ρ,h=>fun σ' F' H' s' ab=>h σ' F' H' (fun a o z=>s' a o (s a o z)) ab
 | .bk ρ,h=>fun σ' F' H' s' ab=>h σ' F' H' (fun a o z=>s' a o (s a o z)) ab
 | .ct ρ,h=>fun σ' F' H' s' ab=>h σ' F' H' (fun a o z=>s' a o (s a o z)) ab
 | .rt a,h=>h
def tSf(c:Ct)(E:XK)(f:Sg->R Fw):TS:=fun D σ H=>∃ ρ F,Ab c ρ σ F H/\Rk c E F H (f ρ) (f7 c F D)
abbrev PSf(X:Cx)(c:Ct)(E:XK)(st:Stmt)(f:Sg->R Fw):Prop:=PS X st (tSf c E f)
abbrev nP(X:Cx)(c:Ct)(E:XK)(st:List Stmt)(f:Sg->R Fw):Prop:=PSs X st (tSf c E f)
theorem get_set{α:Type}{l:List α}{i j:Nat}{x y:α}(h:(l.set i x)[j]? = some y):(i=j/\y=x/\i < l.length)\/(i≠j/\l[j]? = some y):=by
 by_cases e:i=j
 ·subst e
  by_cases hl:i < l.length
  · rw [List.getElem?_set_self hl] at h; exact .inl ⟨rfl, (Option.some.inj h).symm, hl⟩
  · rw [List.getElem?_eq_none_iff.mpr (by rw [List.length_set]; omega)] at h; cases h
 ·rw[List.getElem?_set_ne e] at h;exact .inr ⟨e,h⟩
theorem Ab.setF{c:Ct}{ρ:Sg}{σ:L2.St}{F H:Hp}{i:Nat}{a:A}{v:V}(b:Ab c ρ σ F H)(ha:AO c F H a v)(hn:a.own=true->∀ (j:Nat) (a':A),j≠i->ρ[j]? = some (some a')->a'.own=true->σ[j]? ≠ some (some v)):Ab c (ρ.set i (some a)) (σ.set i (some v)) F H where
 len:=by rw[List.length_set,List.length_set];exact b.len
 fh:=b.fh
 slot:=fun j a' h=>by
  rcases get_set h with ⟨e,q,hl⟩|⟨ne,q⟩
  ·subst e
   cases q
   exact ⟨v,List.getElem?_set_self (by rw[<-b.len];exact hl),ha⟩
  ·rw[List.getElem?_set_ne ne];exact b.slot j a' q
 apart:=fun j k a' b' hjk h1 h2 o1 o2=>by
  rcases get_set h1 with ⟨e,q,hl⟩|⟨ne,q⟩
  ·subst e
   cases q
   rcases get_set h2 with ⟨e',q',hl'⟩|⟨ne',q'⟩
   ·exact absurd e' hjk
   ·rw[List.getElem?_set_self (by rw[<-b.len];exact hl),List.getElem?_set_ne ne']
    exact (hn o1 k b' (Ne.symm hjk) q' o2).symm
  ·rcases get_set h2 with ⟨e',q',hl'⟩|⟨ne',q'⟩
   ·subst e'
    cases q'
    rw[List.getElem?_set_self (by rw[<-b.len];exact hl'),List.getElem?_set_ne ne]
    exact hn o2 j a' hjk q o1
   ·rw[List.getElem?_set_ne ne,List.getElem?_set_ne ne']
    exact b.apart j k a' b' hjk q q' o1 o2
 f0:=b.f0
 h0:=b.h0
 n0:=b.n0
 t0:=b.t0
theorem AO.of{c:Ct}{F H:Hp}:∀ {a:A} {v:V},AF c.g c.K c.mg F a v->AO c F H a v
 | .d x,v,h=>h
 | .x e,v,h=>h
 | .g k n G,v,h=>h
 | .f kvs,v,h=>h
 | .o e,v,h=>h
theorem AF.notOwn{g:Gb}{K:Frag}{mg:Str->Option Value}{F:Hp}:∀ {a:A} {v:V},AF g K mg F a v->a.own=false
 | .d x,v,h=>rfl
 | .x e,v,h=>rfl
 | .g k n G,v,h=>rfl
 | .f kvs,v,h=>rfl
 | .o e,v,h=>rfl
theorem Ab.setA{c:Ct}{ρ:Sg}{σ:L2.St}{F H:Hp}{i:Nat}{a:A}{v:V}(b:Ab c ρ σ F H)(ha:AF c.g c.K c.mg F a v):Ab c (ρ.set i (some a)) (σ.set i (some v)) F H:=
 b.setF (AO.of ha) fun z=>by rw[AF.notOwn ha] at z;cases z
theorem Ab.setN{c:Ct}{ρ:Sg}{σ:L2.St}{F H F' H':Hp}{i:Nat}{xs:List PyData}{v:V}(b:Ab c ρ σ F H)(e:Ext F H F' H')(h:rF c xs v H F' H'):Ab c (ρ.set i (some (.l xs))) (σ.set i (some v)) F' H':=by
 obtain ⟨p,vs,rfl,h1,h2,h3,h4⟩:=h
 refine (b.ext e).setF ⟨p,vs,rfl,h2,h3,bG b.h0 h1,h4⟩ fun _ j a' _ ha' ho=>?_
 obtain ⟨w,hw,q⟩:=b.slot j a' ha'
 rw[hw]
 intro z
 cases z
 obtain ⟨p',o',e',q1,_⟩:=q.at ho
 cases e'
 rw[h1] at q1
 cases q1
theorem Ab.putO{c:Ct}{ρ:Sg}{σ:L2.St}{F H:Hp}{i:Nat}{a a':A}{p:Addr}{o:HO}(b:Ab c ρ σ F H)(hi:ρ[i]? = some (some a))(ho:a.own=true)(hp:σ[i]? = some (some (.ref p)))(ho':a'.own=true)(hy:AO c F (upd H p o) a' (.ref p)) :
  Ab c (ρ.set i (some a')) σ F (upd H p o):=by
 obtain ⟨v,h1,q⟩:=b.slot i _ hi
 rw[hp] at h1
 cases h1
 obtain ⟨p',o',e',h2,h3,h4⟩:=q.at ho
 cases e'
 have other:∀ (j:Nat) (a:A) (w:V),j≠i->ρ[j]? = some (some a)->σ[j]? = some (some w)->AO c F H a w->AO c F (upd H p o) a w:=by
  intro j a2 w hj ha hw q2
  by_cases own:a2.own=true
  ·refine q2.off fun z=>?_
   subst z
   exact b.apart j i _ _ hj ha hi own ho (by rw[hw,hp])
  ·cases a2 with
   | l zs=>exact absurd rfl own
   | m zs=>exact absurd rfl own
   | d x=>exact q2
   | x e=>exact q2
   | g k n f=>exact q2
   | k S=>exact q2
   | f S=>exact q2
   | o S=>exact q2
 exact {
  len:=by rw[List.length_set];exact b.len
  fh:=fun a o z=>by rw[aD (fun w=>by subst w;rw[h3] at z;cases z)];exact b.fh a o z
  slot:=fun j a h=>by
   rcases get_set h with ⟨e,q,hl⟩|⟨ne,q⟩
   ·subst e
    cases q
    exact ⟨_,hp,hy⟩
   ·obtain ⟨w,hw,q2⟩:=b.slot j a q
    exact ⟨w,hw,other j a w (Ne.symm ne) q hw q2⟩
  apart:=fun j k a' b' hjk h1 h2 o1 o2=>by
   rcases get_set h1 with ⟨e,q,hl⟩|⟨ne,q⟩
   ·subst e
    cases q
    rcases get_set h2 with ⟨e',q',hl'⟩|⟨ne',q'⟩
    ·exact absurd e' hjk
    ·exact b.apart _ k _ b' hjk hi q' ho o2
   ·rcases get_set h2 with ⟨e',q',hl'⟩|⟨ne',q'⟩
    ·subst e'
     exact b.apart j _ a' _ hjk q hi o1 ho
    ·exact b.apart j k a' b' hjk q q' o1 o2
  f0:=b.f0
  h0:=fun a o z=>by rw[aD (fun w=>by subst w;rw[h4] at z;cases z)];exact b.h0 a o z
  n0:=b.n0
  t0:=b.t0}
theorem Ab.putL{c:Ct}{ρ:Sg}{σ:L2.St}{F H:Hp}{i:Nat}{xs ys:List PyData}{p:Addr}{vs:List V}(b:Ab c ρ σ F H)(hi:ρ[i]? = some (some (.l xs)))(hp:σ[i]? = some (some (.ref p)))(hy:DatVs c.K F vs ys) :
  Ab c (ρ.set i (some (.l ys))) σ F (upd H p (.lst vs)):=by
 obtain ⟨v,h1,p',us,rfl,h2,h3,h4,h5⟩:=b.slot i _ hi
 rw[hp] at h1
 cases h1
 exact b.putO hi rfl hp rfl ⟨p,vs,rfl,aL,h3,h4,hy⟩
theorem Ab.putM{c:Ct}{ρ:Sg}{σ:L2.St}{F H:Hp}{i:Nat}{kvs kvs':List (PyData×PyData)}{p:Addr}{es:List Ent}{ep:Nat}(b:Ab c ρ σ F H)(hi:ρ[i]? = some (some (.m kvs)))(hp:σ[i]? = some (some (.ref p)))(hy:MapRel c.K F es kvs') :
  Ab c (ρ.set i (some (.m kvs'))) σ F (upd H p (cD c.w p es ep)):=by
 obtain ⟨v,h1,p',us,rfl,h2,h3,h4,h5⟩:=b.slot i _ hi
 rw[hp] at h1
 cases h1
 exact b.putO hi rfl hp rfl ⟨p,es,rfl,⟨ep,aL⟩,h3,h4,hy⟩
theorem Ab.setM{c:Ct}{ρ:Sg}{σ:L2.St}{F H F' H':Hp}{i:Nat}{kvs:List (PyData×PyData)}{p:Addr}{es:List Ent}{ep:Nat}(b:Ab c ρ σ F H)(e:Ext F H F' H')(h1:H p=none)(h2:H' p=some (cD c.w p es ep))(h3:F' p=none)(h4:MapRel c.K F' es kvs):Ab c (ρ.set i (some (.m kvs))) (σ.set i (some (.ref p))) F' H':=by
 refine (b.ext e).setF ⟨p,es,rfl,⟨ep,h2⟩,h3,bG b.h0 h1,h4⟩ fun _ j a' _ ha' ho=>?_
 obtain ⟨w,hw,q⟩:=b.slot j a' ha'
 rw[hw]
 intro z
 cases z
 obtain ⟨p',o',e',q1,_⟩:=q.at ho
 cases e'
 rw[h1] at q1
 cases q1
noncomputable def fz(i:Nat)(ρ:Sg):Sg:=match ρ[i]? with
 | some (some (.l xs))=>ρ.set i (some (.d (.list xs)))
 | _=>ρ
theorem Ab.publ{c:Ct}{ρ:Sg}{σ:L2.St}{F H:Hp}{i:Nat}{a0 a1:A}{p:Addr}{o:HO}(b:Ab c ρ σ F H)(hi:ρ[i]? = some (some a0))(hp:σ[i]? = some (some (.ref p)))(ow:a0.own=true)(h2:H p=some o)(h3:F p=none)(h4:c.H0 p=none)(no:a1.own=false)(hr:AO c (upd F p o) H a1 (.ref p)):Ab c (ρ.set i (some a1)) σ (upd F p o) H:=by
 have sf:aF F (upd F p o):=aF.upd h3
 exact {
  len:=by rw[List.length_set];exact b.len
  fh:=fun a o' z=>by
   by_cases w:a=p
   ·subst w;rw[aL] at z;rw[h2];exact z
   ·rw[aD w] at z;exact b.fh a o' z
  slot:=fun j a h=>by
   rcases get_set h with ⟨e,q,hl⟩|⟨ne,q⟩
   ·subst e
    cases q
    exact ⟨_,hp,hr⟩
   ·obtain ⟨w,hw,q2⟩:=b.slot j a q
    refine ⟨w,hw,?_⟩
    have off:∀ r,a.own=true->w=.ref r->F r=none->upd F p o r=none:=fun r oa e f=>by
     rw[aD]
     ·exact f
     ·intro z
      subst z
      exact b.apart j i _ _ (Ne.symm ne) q hi oa ow (by rw[hw,hp,e])
    cases a with
    | l zs=>obtain ⟨r,ws,e,q1,q2,q3,q4⟩:=q2;exact ⟨r,ws,e,q1,off r rfl e q2,q3,q4.same sf⟩
    | m kvs=>obtain ⟨r,ws,e,q1,q2,q3,q4⟩:=q2;exact ⟨r,ws,e,q1,off r rfl e q2,q3,q4.same sf⟩
    | d x=>exact DatV.same sf q2
    | x e=>exact AF.same (g:=c.g) (K:=c.K) (mg:=c.mg) (a:=.x e) sf q2
    | g k n f=>exact AF.same (g:=c.g) (K:=c.K) (mg:=c.mg) (a:=.g k n f) sf q2
    | k S=>obtain ⟨S,f,cl,doc,pm,cc,ct,h0,h1,h2,h3,h4⟩:=q2;exact ⟨S,f,cl,doc,pm,cc,ct,h0,h1,sf _ _ h2,sf _ _ h3,h4⟩
    | f kvs=>exact AF.same (g:=c.g) (K:=c.K) (mg:=c.mg) (a:=.f kvs) sf q2
    | o e=>exact AF.same (g:=c.g) (K:=c.K) (mg:=c.mg) (a:=.o e) sf q2
  apart:=fun j k a' b' hjk h1 h2 o1 o2=>by
   rcases get_set h1 with ⟨e,q,hl⟩|⟨ne,q⟩
   ·cases q;rw[no] at o1;cases o1
   ·rcases get_set h2 with ⟨e',q',hl'⟩|⟨ne',q'⟩
    ·cases q';rw[no] at o2;cases o2
    ·exact b.apart j k a' b' hjk q q' o1 o2
  f0:=fun a o z=>sf a o (b.f0 a o z)
  h0:=b.h0
  n0:=fun a z n=>by
   by_cases w:a=p
   ·subst w;exact .inl h4
   ·rw[aD w] at n;exact b.n0 a z n
  t0:=b.t0}
theorem Ab.frz{c:Ct}{ρ:Sg}{σ:L2.St}{F H:Hp}(b:Ab c ρ σ F H)(i:Nat):∃ F',aF F F'/\Ab c (fz i ρ) σ F' H:=by
 unfold fz
 split
 ·rename_i xs hi
  obtain ⟨v,hp,p,vs,rfl,h2,h3,h4,h5⟩:=b.slot i _ hi
  exact ⟨_,aF.upd h3,b.publ hi hp rfl h2 h3 h4 rfl (.lst (SqL.of aL) (h5.same (aF.upd h3)))⟩
 ·exact ⟨F,bV F,b⟩
noncomputable def nQ:PyData->PyData->R PyData
 | .int i,.int j=>.ok (.int (i+j))
 | _,_=>.bad
section
variable{X:Cx}{c:Ct}{E:XK}{e a b:Expr}{st:Stmt}{rest:List Stmt}{pos:Pos}
def sFz(i:Nat)(f:Sg->R Fw):Sg->R Fw:=fun ρ=>f (fz i ρ)
theorem v9(i:Nat){f:Sg->R Fw}(h:PSf X c E st f):PSf X c E st (sFz i f):=PS.imp h fun D σ H zz0=>by
 obtain ⟨ρ,F,ab,k⟩:=zz0
 obtain ⟨F',s,ab'⟩:=ab.frz i
 refine ⟨fz i ρ,F',ab',?_⟩
 have k':Rk c E F H (f (fz i ρ)) (f7 c F D):=k
 cases q:f (fz i ρ) with
 | bad=>rw[q] at k';exact k'
 | ok w=>rw[q] at k';exact f7.same s k'
 | ex e=>rw[q] at k';exact k'
noncomputable def sNx:Sg->R Fw:=fun ρ=>.ok (.nx ρ)
def aK(f g:Sg->R Fw):Sg->R Fw:=fun ρ=>(f ρ).bind fun w=>match w with
 | .nx ρ'=>g ρ'
 | w=>.ok w
theorem dG:nP X c E [] sNx:=PSs.imp L2.dG fun D σ H ⟨ρ,F,ab,k⟩=>Rk.ok k σ F H (bV F) ab
theorem aS{f:Sg->R Fw}(h:PSf X c E st f):nP X c E [st] f:=L2.aS h
theorem aJ{f g:Sg->R Fw}(h:PSf X c E st f)(h2:nP X c E rest g):nP X c E (st::rest) (aK f g):=PSs.imp (L2.aJ h h2) fun D σ H zz0=>by
 obtain ⟨ρ,F,ab,k⟩:=zz0
 refine ⟨ρ,F,ab,(Rk.bind k).imp fun w _ q=>?_⟩
 cases w with
 | nx ρ'=>
  intro σ' F' H' s ab'
  refine ⟨ρ',F',ab',?_⟩
  have q':Rk c E F H (g ρ') (f7 c F D):=q
  cases eg:g ρ' with
  | bad=>rw[eg] at q';exact q'
  | ok w=>rw[eg] at q';exact f7.same s q'
  | ex e=>rw[eg] at q';exact q'
 | bk ρ'=>exact q
 | ct ρ'=>exact q
 | rt a=>exact q
def bH(f:Sg->R A):Sg->R Fw:=fun ρ=>(f ρ).bind fun a=>.ok (.rt a)
theorem bP{f:Sg->R A}(h:PV X c E e f):PSf X c E (.Return (some e) pos) (bH f):=PS.imp (L2.bP h) fun D σ H ⟨ρ,F,ab,k⟩=>
 ⟨ρ,F,ab,(Rk.bind k).imp fun a _ q v F' H' s r=>Rk.ok q v F' H' (ab.all.trans s) (AR.of r)⟩
noncomputable def aN2:Sg->R Fw:=fun _=>.ok (.rt (.d .none))
def sIf(t:Sg->R Bool)(f g:Sg->R Fw):Sg->R Fw:=fun ρ=>(t ρ).bind fun b=>if b=true then f ρ else g ρ
theorem Rk.fw{F F1 H H1:Hp}{D:jD}{r:R Fw}(s:aF F F1)(k:Rk c E F H r (f7 c F D)):Rk c E F1 H1 r (f7 c F1 D):=by
 cases r with
 | bad=>exact k
 | ok w=>exact f7.same s k
 | ex e=>exact k
theorem eW{q:Expr}{sa sb:List Stmt}{t:Sg->R Bool}{f g:Sg->R Fw}(hq:PTf X c E q t)(ha:nP X c E sa f)(hb:nP X c E sb g):PSf X c E (.If q sa sb pos) (sIf t f g):=PS.imp (L2.eW hq ha hb) fun D σ H zz0=>by
 obtain ⟨ρ,F,ab,k⟩:=zz0
 refine ⟨ρ,F,ab,(Rk.bind k).imp fun b _ q F' H' s=>?_⟩
 cases b with
 | true=>exact tQ ⟨ρ,F',ab.ext s,Rk.fw s.ff q⟩
 | false=>exact tP ⟨ρ,F',ab.ext s,Rk.fw s.ff q⟩
def b9(i:Nat)(f:Sg->R A):Sg->R Fw:=fun ρ=>(f ρ).bind fun a=>.ok (.nx (ρ.set i (some a)))
theorem aR{i:Nat}{f:Sg->R A}(h:PS X st (kB (tV (aF1 c) c E f) (iA i))):PSf X c E st (b9 i f):=PS.imp h fun D σ H ⟨ρ,F,ab,k⟩=>
 ⟨ρ,F,ab,(Rk.bind k).imp fun a _ q v F' H' s r=>Rk.ok q _ F' H' s.ff ((ab.ext s).setA r)⟩
def dM(i:Nat)(f:Sg->R (List PyData)):Sg->R Fw:=fun ρ=>(f ρ).bind fun xs=>.ok (.nx (ρ.set i (some (.l xs))))
theorem gS{i:Nat}{f:Sg->R (List PyData)}(h:PS X st (kB (tV (rF c) c E f) (iA i))):PSf X c E st (dM i f):=PS.imp h fun D σ H ⟨ρ,F,ab,k⟩=>
 ⟨ρ,F,ab,(Rk.bind k).imp fun a _ q v F' H' s r=>Rk.ok q _ F' H' s.ff (ab.setN s r)⟩
def aBS(f:Sg->R A):Sg->R Fw:=fun ρ=>(f ρ).bind fun _=>.ok (.nx ρ)
theorem fX{f:Sg->R A}(h:PS X st (vZ (tV (aF1 c) c E f))):PSf X c E st (aBS f):=PS.imp h fun D σ H ⟨ρ,F,ab,k⟩=>
 ⟨ρ,F,ab,(Rk.bind k).imp fun a _ q v F' H' s r=>Rk.ok q _ F' H' s.ff (ab.ext s)⟩
def gK(i:Nat)(f:Sg->R PyData):Sg->R Fw:=fun ρ=>match ρ[i]? with
 | some (some (.l xs))=>(f ρ).bind fun x=>if xs.length < 16777216 then .ok (.nx (ρ.set i (some (.l (xs++[x]))))) else .bad
 | _=>.bad
theorem mT{i:Nat}{f:Sg->R PyData}(hK:X.K=c.K)(h:PS X st (vZ (tBM X.K "list" zN (jI i) (eX (tV (b6 c) c E f) gH)))):PSf X c E st (gK i f):=PS.imp h fun D σ H ⟨ρ,F,ab,k⟩=>by
 unfold gK at k
 split at k
 ·rename_i xs hi
  obtain ⟨v,hp,p,vs,rfl,h2,h3,h4,h5⟩:=ab.slot i _ hi
  refine ⟨_,hp,.inl ⟨rfl,vs,SqL.of h2⟩,ρ,F,ab,(Rk.bind k).imp fun x _ q u F1 H1 s1 r1=>?_⟩
  by_cases hz:xs.length < 16777216
  ·rw[if_pos hz] at q
   refine ⟨p,vs,u,rfl,rfl,s1.hh _ _ h2,by rw[h5.length,cY];exact hz,?_⟩
   exact Rk.ok q σ F1 _ s1.ff ((ab.ext s1).putL hi hp ((h5.same s1.ff).append (.cons r1 .nil)))
  ·rw[if_neg hz] at q;exact q.elim
 ·exact k.elim
def aBT(i:Nat)(g:PyData->PyData->R PyData)(f:Sg->R PyData):Sg->R Fw:=fun ρ=>(eV i ρ).bind fun x=>(f ρ).bind fun y=>(g x y).bind fun z=>.ok (.nx (ρ.set i (some (.d z))))
theorem wJ{i:Nat}{k:Int->Int->Int}{g:PyData->PyData->R PyData}{f:Sg->R PyData}(hg:∀ x y,(∃ i j,x=.int i/\y=.int j/\g x y=.ok (.int (k i j)))\/g x y=.bad)(h:PS X st (aK2 i (tV (a8 c) c E f) (ipI k))):PSf X c E st (aBT i g f):=PS.imp h fun D σ H ⟨ρ,F,ab,k⟩=>by
 have k':=Rk.bind k
 unfold eV at k'
 split at k'
 ·rename_i x hx
  obtain ⟨v,h1,h2⟩:=ab.slot i _ hx
  refine ⟨v,h1,ρ,F,ab,(Rk.bind k').imp fun y _ q u F1 H1 s1 r1=>?_⟩
  rcases hg x y with ⟨m,n,rfl,rfl,e⟩|e
  ·rw[e] at q
   obtain rfl:=DatV.int_of h2
   obtain rfl:=aX.int_of r1
   exact ⟨m,n,rfl,rfl,Rk.ok q _ F1 H1 s1.ff ((ab.ext s1).setA (a:=.d _) (.int _))⟩
  ·rw[e] at q;exact q.elim
 ·exact k'.elim
theorem aI1(x y:PyData):(∃ i j,x=.int i/\y=.int j/\nQ x y=.ok (.int (i+j)))\/nQ x y=.bad:=by
 unfold nQ
 split
 · exact .inl ⟨_, _, rfl, rfl, rfl⟩
 · exact .inr rfl
end
end Fl
namespace Fl
open PySem L2 PyProof.Rows
def Tg(c:Ct)(g:TG)(fs:PyData->Sg->Option Sg)(is:List Nat):Prop:=∀ (v:V) (x:PyData) (ρ ρ':Sg) (σ:L2.St) (F H:Hp) (Q:L2.St->Hp->Prop),Ab c ρ σ F H->DatV c.K F v x->fs x ρ=some ρ'->
 (∀ σ':L2.St,σ'.length=σ.length->(∀ j:Nat,j∉is->σ'[j]? = σ[j]?)->Ab c ρ' σ' F H->Q σ' H)->g v σ H Q
noncomputable def stN(i:Nat):PyData->Sg->Option Sg:=fun x ρ=>some (ρ.set i (some (.d x)))
theorem bF{c:Ct}(i:Nat):Tg c (iA i) (stN i) [i]:=fun v x ρ ρ' σ F H Q ab r e q=>by
 cases e
 exact q _ List.length_set (fun j hj=>List.getElem?_set_ne (by intro z;subst z;exact hj (by simp))) (ab.setA (a:=.d x) r)
noncomputable def stL:List (PyData->Sg->Option Sg)->List PyData->Sg->Option Sg
 | [],[],ρ=>some ρ
 | f::fs,x::xs,ρ=>(f x ρ).bind (stL fs xs)
 | _,_,_=>none
def Tgs(c:Ct)(g:TGs)(fs:List (PyData->Sg->Option Sg))(is:List Nat):Prop:=∀ (vs:List V) (xs:List PyData) (ρ ρ':Sg) (σ:L2.St) (F H:Hp) (Q:L2.St->Hp->Prop),Ab c ρ σ F H->DatVs c.K F vs xs->stL fs xs ρ=some ρ'->
 (∀ σ':L2.St,σ'.length=σ.length->(∀ j:Nat,j∉is->σ'[j]? = σ[j]?)->Ab c ρ' σ' F H->Q σ' H)->g vs σ H Q
theorem kS{c:Ct}:Tgs c aE5 [] []:=fun vs xs ρ ρ' σ F H Q ab r e q=>by
 cases xs with
 | nil=>cases e;exact ⟨by cases r;rfl,q σ rfl (fun _ _=>rfl) ab⟩
 | cons x t=>cases e
theorem eI{c:Ct}{g:TG}{gs:TGs}{f:PyData->Sg->Option Sg}{fs:List (PyData->Sg->Option Sg)}{is js:List Nat}(h:Tg c g f is)(h2:Tgs c gs fs js):Tgs c (aHI g gs) (f::fs) (is++js):=fun vs xs ρ ρ' σ F H Q ab r e q=>by
 cases r with
 | nil=>cases e
 | cons r1 r2=>
  rename_i x d vs ds
  have e':(f d ρ).bind (stL fs ds)=some ρ':=e
  cases e1:f d ρ with
  | none=>rw[e1] at e';cases e'
  | some ρ1=>
   rw[e1] at e'
   refine ⟨_,_,rfl,h _ _ ρ ρ1 σ F H _ ab r1 e1 fun σ1 l1 k1 ab1=>h2 _ _ ρ1 ρ' σ1 F H _ ab1 r2 e' fun σ2 l2 k2 ab2=>q σ2 (l2.trans l1) (fun j hj=>?_) ab2⟩
   rw[List.mem_append,not_or] at hj
   exact (k2 j hj.2).trans (k1 j hj.1)
noncomputable def stT(fs:List (PyData->Sg->Option Sg)):PyData->Sg->Option Sg:=fun x ρ=>match x with
 | .tuple xs=>stL fs xs ρ
 | _=>none
theorem zZ:∀ {fs:List (PyData->Sg->Option Sg)} {xs:List PyData} {ρ ρ':Sg},stL fs xs ρ=some ρ'->xs.length=fs.length
 | [],[],_,_,_=>rfl
 | [],_::_,_,_,h=>by cases h
 | _::_,[],_,_,h=>by cases h
 | f::fs,x::xs,ρ,ρ',h=>by
  have h':(f x ρ).bind (stL fs xs)=some ρ':=h
  cases e:f x ρ with
  | none=>rw[e] at h';cases h'
  | some ρ1=>
   rw[e] at h'
   have:=zZ (fs:=fs) (xs:=xs) h'
   simp[this]
theorem mU{c:Ct}{gs:TGs}{fs:List (PyData->Sg->Option Sg)}{is:List Nat}{n:Nat}{K:Frag}(hK:K=c.K)(h:Tgs c gs fs is)(hn:fs.length=n):Tg c (aK0 K n gs) (stT fs) is:=fun v x ρ ρ' σ F H Q ab r e q=>by
 cases x with
 | tuple xs=>
  obtain ⟨a,vs,rfl,h1,h2⟩:=r.tup_of
  subst hK
  exact ⟨a,vs,rfl,h1.same ab.fh,by rw[h2.length,zZ e,hn],h vs xs ρ ρ' σ F H Q ab h2 e q⟩
 | _=>cases e
structure Yld(K:Frag)(J:It)(F B:Hp)(xs:List PyData):Prop where
 len:xs.length<=sizeLine
 go:∀ (i:Nat) F1 H1,aF F F1->aF F1 H1->aF B H1->i < xs.length->J.go i H1
 yld:∀ (i:Nat) F1 H1 v H2 x,aF F F1->aF F1 H1->aF B H1->J.yld i H1 v H2->xs[i]? = some x->∃ F2,Ext F1 H1 F2 H2/\DatV K F2 v x
 stop:∀ F1 H1,aF F F1->aF F1 H1->aF B H1->J.stop xs.length H1
def tI(c:Ct)(E:XK)(f:Sg->R (List PyData)):TI:=fun σ H Rr=>∃ ρ F,Ab c ρ σ F H/\Rk c E F H (f ρ) fun xs=>∀ J B F' H',Ext F H F' H'->aF B H'->Yld c.K J F' B xs->Rr J H'
def tI0(c:Ct)(E:XK)(f:Sg->R (List PyData)):TI:=fun σ H Rr=>∃ ρ F,Ab c ρ σ F H/\Rk c E F H (f ρ) fun xs=>∀ J F' H',Ext F H F' H'->Yld c.K J F' (fun _=>none) xs->Rr J H'
theorem PI.imp{X:Cx}{tg e:Expr}{t t':TI}(h:PI X tg e t)(i:∀ σ H Q,t' σ H Q->t σ H Q):PI X tg e t':=fun pins s σ H Q I q=>h pins s σ H Q I (i σ H Q q)
abbrev PIf(X:Cx)(c:Ct)(E:XK)(tg e:Expr)(f:Sg->R (List PyData)):Prop:=PI X tg e (tI c E f)
abbrev PI0(X:Cx)(c:Ct)(E:XK)(tg e:Expr)(f:Sg->R (List PyData)):Prop:=PI X tg e (tI0 c E f)
theorem sO{X:Cx}{c:Ct}{E:XK}{tg e:Expr}{f:Sg->R (List PyData)}(h:PI0 X c E tg e f):PIf X c E tg e f:=PI.imp h fun σ H Q ⟨ρ,F,ab,k⟩=>
 ⟨ρ,F,ab,k.imp fun xs _ q J F' H' s y=>q J (fun _=>none) F' H' s (fun _ _ z=>nomatch z) y⟩
def o5{H:Hp}:aF (fun _=>none) H:=fun _ _ z=>nomatch z
noncomputable def aY:PyData->R (List PyData)
 | .list xs=>if xs.length<=16777216 then .ok xs else .bad
 | .tuple xs=>if xs.length<=16777216 then .ok xs else .bad
 | .str z=>if z.cps.toList.length<=16777216 then .ok (z.cps.toList.map fun u=>.str ⟨#[u]⟩) else .bad
 | _=>.bad
theorem xO{K:Frag}{F B H:Hp}{a:Addr}{vs:List V}{xs:List PyData}(hz:xs.length<=16777216)(hs:∀ H1,aF F H1->aF B H1->SqL K H1 a vs)(hd:DatVs K F vs xs):Yld K (Itl K a) F B xs where
 len:=by rw[cY];exact hz
 go:=fun i F1 H1 h1 h2 h3 hi=>by
  have q:=hs H1 (fun x o z=>h2 x o (h1 x o z)) h3
  exact ⟨vs,vs[i]'(by rw[hd.length];exact hi),q,by simp⟩
 yld:=fun i F1 H1 v H2 x h1 h2 h3 y e=>by
  obtain ⟨rfl,y⟩:=y
  have q:=y vs (hs _ (fun x o z=>h2 x o (h1 x o z)) h3)
  obtain ⟨d,e2,r⟩:=hd.get q
  rw[e] at e2
  cases e2
  exact ⟨F1,Ext.refl h2,r.same h1⟩
 stop:=fun F1 H1 h1 h2 h3=>⟨vs,hs H1 (fun x o z=>h2 x o (h1 x o z)) h3,by rw[hd.length];exact Nat.le_refl _⟩
theorem z0{K:Frag}{F B:Hp}{a:Addr}{vs:List V}{xs:List PyData}(hz:xs.length<=16777216)(hs:SqT K F a vs)(hd:DatVs K F vs xs):Yld K (Itt K a) F B xs where
 len:=by rw[cY];exact hz
 go:=fun i F1 H1 h1 h2 h3 hi=>by
  have q:=hs.same (H':=H1) (fun x o z=>h2 x o (h1 x o z))
  exact ⟨vs,vs[i]'(by rw[hd.length];exact hi),q,by simp⟩
 yld:=fun i F1 H1 v H2 x h1 h2 h3 y e=>by
  obtain ⟨rfl,y⟩:=y
  have q:=y vs (hs.same (fun x o z=>h2 x o (h1 x o z)))
  obtain ⟨d,e2,r⟩:=hd.get q
  rw[e] at e2
  cases e2
  exact ⟨F1,Ext.refl h2,r.same h1⟩
 stop:=fun F1 H1 h1 h2 h3=>⟨vs,hs.same (fun x o z=>h2 x o (h1 x o z)),by rw[hd.length];exact Nat.le_refl _⟩
theorem z4{K:Frag}{F B:Hp}{z:Str}(hz:z.cps.toList.length<=16777216):Yld K (Its z) F B (z.cps.toList.map fun u=>.str ⟨#[u]⟩) where
 len:=by rw[cY,List.length_map];exact hz
 go:=fun i F1 H1 h1 h2 h3 hi=>by
  rw[List.length_map,Array.length_toList] at hi
  exact hi
 yld:=fun i F1 H1 v H2 x h1 h2 h3 y e=>by
  obtain ⟨rfl,u,hu,rfl⟩:=y
  rw[List.getElem?_map,Array.getElem?_toList,hu] at e
  cases e
  exact ⟨F1,Ext.refl h2,.str _⟩
 stop:=fun F1 H1 h1 h2 h3=>by
  show (z.cps.toList.map _).length=z.cps.size
  rw[List.length_map,Array.length_toList]
section
variable{X:Cx}{c:Ct}{E:XK}{tg e a b:Expr}{pos:Pos}
theorem aBU{f:Sg->R PyData}(hK:X.K=c.K)(h:PD X c E e f):PI0 X c E tg e (e1 aY f):=PI.imp (PI.or (aC6 h) (aDD h)) fun σ H Q ⟨ρ,F,ab,k⟩=>by
 have k':=Rk.bind k
 cases hf:f ρ with
 | bad=>rw[hf] at k';exact k'.elim
 | ex x=>rw[hf] at k';exact .inl ⟨ρ,F,ab,by rw[hf];exact k'⟩
 | ok d=>
  rw[hf] at k'
  have k2:=Rk.ok k'
  unfold aY at k2
  split at k2
  ·rename_i xs
   split at k2
   ·rename_i hz
    refine .inl ⟨ρ,F,ab,?_⟩
    rw[hf]
    intro v F' H' s r
    obtain ⟨p,vs,rfl,h1,h2⟩:=DatV.lst_of r
    refine ⟨p,rfl,.inl ⟨⟨vs,?_⟩,?_⟩⟩
    · rw [hK]; exact h1.same s.fh
    · rw [hK]; exact Rk.ok k2 _ F' H' s (xO (H := H') hz (fun H1 q _ => h1.same q) h2)
   ·exact k2.elim
  ·rename_i xs
   split at k2
   ·rename_i hz
    refine .inl ⟨ρ,F,ab,?_⟩
    rw[hf]
    intro v F' H' s r
    obtain ⟨p,vs,rfl,h1,h2⟩:=DatV.tup_of r
    refine ⟨p,rfl,.inr ⟨⟨vs,?_⟩,?_⟩⟩
    · rw [hK]; exact h1.same s.fh
    · rw [hK]; exact Rk.ok k2 _ F' H' s (z0 hz h1 h2)
   ·exact k2.elim
  ·rename_i z
   split at k2
   ·rename_i hz
    refine .inr ⟨ρ,F,ab,?_⟩
    rw[hf]
    intro v F' H' s r
    obtain rfl:=DatV.str_of r
    exact ⟨z,rfl,Rk.ok k2 _ F' H' s (z4 hz)⟩
   ·exact k2.elim
  ·exact k2.elim
theorem iY{f:Sg->R PyData}(hK:X.K=c.K)(h:PR X c E e f):PIf X c E tg e (e1 aY f):=PI.imp (PI.or (aC6 h) (aDD h)) fun σ H Q ⟨ρ,F,ab,k⟩=>by
 have k':=Rk.bind k
 cases hf:f ρ with
 | bad=>rw[hf] at k';exact k'.elim
 | ex x=>rw[hf] at k';exact .inl ⟨ρ,F,ab,by rw[hf];exact k'⟩
 | ok d=>
  rw[hf] at k'
  have k2:=Rk.ok k'
  unfold aY at k2
  split at k2
  ·rename_i xs
   split at k2
   ·rename_i hz
    refine .inl ⟨ρ,F,ab,?_⟩
    rw[hf]
    intro v F' H' s r
    obtain ⟨p,vs,rfl,h1,h2⟩:=aX.lst_of s.fh r
    refine ⟨p,rfl,.inl ⟨⟨vs,?_⟩,?_⟩⟩
    · rw [hK]; exact h1
    · rw [hK]; exact Rk.ok k2 _ H' F' H' s (bV _) (xO (H := H') hz (fun H1 _ q => h1.same q) h2)
   ·exact k2.elim
  ·rename_i xs
   split at k2
   ·rename_i hz
    refine .inl ⟨ρ,F,ab,?_⟩
    rw[hf]
    intro v F' H' s r
    obtain ⟨p,vs,rfl,h1,_,h2⟩:=aX.tup_of s.fh r
    refine ⟨p,rfl,.inr ⟨⟨vs,?_⟩,?_⟩⟩
    · rw [hK]; exact h1.same s.fh
    · rw [hK]; exact Rk.ok k2 _ H' F' H' s (bV _) (z0 hz h1 h2)
   ·exact k2.elim
  ·rename_i z
   split at k2
   ·rename_i hz
    refine .inr ⟨ρ,F,ab,?_⟩
    rw[hf]
    intro v F' H' s r
    obtain rfl:=aX.str_of r
    exact ⟨z,rfl,Rk.ok k2 _ H' F' H' s (bV _) (z4 hz)⟩
   ·exact k2.elim
  ·exact k2.elim
noncomputable def lA(lo:Int)(n:Nat):List PyData:=(List.range n).map fun i:Nat=>.int (lo+i)
def iZ(lo hi:Int):R (List PyData):=if -4611686018427387904<=lo/\lo < 4611686018427387904 /\ -4611686018427387904<=hi/\hi < 4611686018427387904/\hi - lo<=16777216 then .ok (lA lo (hi - lo).toNat) else .bad
def eO(f:Sg->R PyData):Sg->R (List PyData):=fun ρ=>(f ρ).bind fun x=>match x with
 | .int j=>iZ 0 j
 | _=>.bad
def aI2(f g:Sg->R PyData):Sg->R (List PyData):=fun ρ=>(f ρ).bind fun x=>(g ρ).bind fun y=>match x,y with
 | .int i,.int j=>iZ i j
 | _,_=>.bad
theorem aDP{K:Frag}{F B:Hp}{lo:Int}{n:Nat}(hz:n<=16777216):Yld K (Itr lo n) F B (lA lo n) where
 len:=by unfold lA;rw[cY,List.length_map,List.length_range];exact hz
 go:=fun i F1 H1 h1 h2 h3 hi=>by unfold lA at hi;rw[List.length_map,List.length_range] at hi;exact hi
 yld:=fun i F1 H1 v H2 x h1 h2 h3 y e=>by
  obtain ⟨rfl,rfl⟩:=y
  unfold lA at e
  rw[List.getElem?_map] at e
  cases q:(List.range n)[i]? with
  | none=>rw[q] at e;cases e
  | some j=>
   rw[q] at e
   cases e
   obtain ⟨hl,hv⟩:=List.getElem?_eq_some_iff.mp q
   rw[List.getElem_range] at hv
   subst hv
   exact ⟨F1,Ext.refl h2,.int _⟩
 stop:=fun F1 H1 h1 h2 h3=>by show n<=_;unfold lA;rw[List.length_map,List.length_range];exact Nat.le_refl _
theorem iP{f:Sg->R PyData}(h:PI X tg e (aHJ (eX (tV (a8 c) c E f) gH))):PI0 X c E tg e (eO f):=PI.imp h fun σ H Q ⟨ρ,F,ab,k⟩=>by
 refine ⟨ρ,F,ab,(Rk.bind k).imp fun x _ q v F' H' s r=>?_⟩
 cases x with
 | int j=>
  have q':Rk c E F H (iZ 0 j) _:=q
  unfold iZ at q'
  split at q'
  ·rename_i hz
   obtain rfl:=aX.int_of r
   refine ⟨j,rfl,by omega,by omega,?_⟩
   have e0:(j - 0).toNat=j.toNat:=by rw[Int.sub_zero]
   rw[<-e0]
   exact Rk.ok q' _ F' H' s (aDP (by omega))
  ·exact q'.elim
 | _=>exact q.elim
end
end Fl
namespace Fl
open PySem L2 PyProof.Rows
noncomputable def fM(js:List (Option Nat))(ρ:Sg):Sg:=js.map fun o=>o.bind fun j=>(ρ[j]?).join
theorem t5{α:Type}{js:List (Option Nat)}{ρ:List (Option α)}{i:Nat}{a:α}(h:(js.map fun o=>o.bind fun j=>(ρ[j]?).join)[i]? = some (some a)):∃ j,js[i]? = some (some j)/\ρ[j]? = some (some a):=by
 rw[List.getElem?_map] at h
 cases e:js[i]? with
 | none=>rw[e] at h;cases h
 | some o=>
  rw[e] at h
  have h':(o.bind fun j=>(ρ[j]?).join)=some a:=Option.some.inj h
  cases o with
  | none=>cases h'
  | some j=>
   have h2:(ρ[j]?).join=some a:=h'
   cases e2:ρ[j]? with
   | none=>rw[e2] at h2;cases h2
   | some o2=>rw[e2] at h2;have:o2=some a:=h2;subst this;exact ⟨j,rfl,e2⟩
theorem t6{α:Type}{js:List (Option Nat)}{ρ:List (Option α)}{i j:Nat}{a:α}(h:js[i]? = some (some j))(h2:ρ[j]? = some (some a)):(js.map fun o=>o.bind fun j=>(ρ[j]?).join)[i]? = some (some a):=by
 rw[List.getElem?_map,h]
 show some ((ρ[j]?).join)=_
 rw[h2];rfl
def t7(js:List (Option Nat)):Prop:=∀ (i k j:Nat),js[i]? = some (some j)->js[k]? = some (some j)->i=k
theorem sP{js:List (Option Nat)}(h:js.Pairwise fun a b=>a=none\/a≠b):t7 js:=fun i k j h1 h2=>by
 obtain ⟨l1,e1⟩:=List.getElem?_eq_some_iff.mp h1
 obtain ⟨l2,e2⟩:=List.getElem?_eq_some_iff.mp h2
 rw[List.pairwise_iff_getElem] at h
 rcases Nat.lt_trichotomy i k with q|q|q
 ·rcases h i k l1 l2 q with z|z
  · rw [e1] at z; cases z
  · exact absurd (e1.trans e2.symm) z
 ·exact q
 ·rcases h k i l2 l1 q with z|z
  · rw [e2] at z; cases z
  · exact absurd (e2.trans e1.symm) z
theorem Ab.cap{c:Ct}{ρ:Sg}{σ σ0:L2.St}{F H:Hp}{js:List (Option Nat)}(b:Ab c ρ σ F H)(ho:t7 js)(k:c7 (iU js σ) σ0):Ab c (fM js ρ) σ0 F H where
 len:=by rw[k.1];unfold fM iU;rw[List.length_map,List.length_map]
 fh:=b.fh
 slot:=fun i a h=>by
  obtain ⟨j,h1,h2⟩:=t5 h
  obtain ⟨v,h3,h4⟩:=b.slot j a h2
  exact ⟨v,k.2 i v (t6 h1 h3),h4⟩
 apart:=fun i i' a a' hne h h' o o'=>by
  obtain ⟨j,h1,h2⟩:=t5 h
  obtain ⟨j',h1',h2'⟩:=t5 h'
  have hj:j≠j':=fun z=>hne (ho i i' j h1 (by rw[h1',z]))
  obtain ⟨v,h3,_⟩:=b.slot j a h2
  obtain ⟨v',h3',_⟩:=b.slot j' a' h2'
  rw[k.2 i v (t6 h1 h3),k.2 i' v' (t6 h1' h3'),<-h3,<-h3']
  exact b.apart j j' a a' hj h2 h2' o o'
 f0:=b.f0
 h0:=b.h0
 n0:=b.n0
 t0:=b.t0
noncomputable def R.noEx{α:Type}:R α->R α
 | .ex _=>.bad
 | r=>r
@[simp] theorem R.noEx_ok{α:Type}(a:α):(R.ok a).noEx=.ok a:=id rfl
noncomputable def xP{α:Type}:Option α->R α
 | some a=>.ok a
 | none=>.bad
@[simp] theorem o6{α:Type}(a:α):xP (some a)=.ok a:=id rfl
noncomputable def compL(fs:PyData->Sg->Option Sg)(ft:Sg->R Bool)(fe:Sg->R PyData)(ρ0:Sg):List PyData->R (List PyData)
 | []=>.ok []
 | x::t=>(xP (fs x ρ0)).bind fun ρ1=>(ft ρ1).noEx.bind fun b=>if b=true then (fe ρ1).noEx.bind fun y=>(compL fs ft fe ρ0 t).bind fun ys=>.ok (y::ys) else compL fs ft fe ρ0 t
theorem nR{fs:PyData->Sg->Option Sg}{ft:Sg->R Bool}{fe:Sg->R PyData}{ρ0:Sg}{e:Er}:∀ {xs:List PyData},compL fs ft fe ρ0 xs≠.ex e
 | []=>fun h=>by cases h
 | x::t=>fun h=>by
  unfold compL at h
  cases h1:fs x ρ0 with
  | none=>rw[h1] at h;cases h
  | some ρ1=>
   rw[h1] at h
   have h:((ft ρ1).noEx.bind fun b=>if b=true then (fe ρ1).noEx.bind fun y=>(compL fs ft fe ρ0 t).bind fun ys=>.ok (y::ys) else compL fs ft fe ρ0 t)=.ex e:=h
   cases h2:ft ρ1 with
   | bad=>rw[h2] at h;cases h
   | ex _=>rw[h2] at h;cases h
   | ok b=>
    rw[h2] at h
    have h:(if b=true then (fe ρ1).noEx.bind fun y=>(compL fs ft fe ρ0 t).bind fun ys=>.ok (y::ys) else compL fs ft fe ρ0 t)=.ex e:=h
    cases b with
    | false=>exact nR (xs:=t) h
    | true=>
     have h:((fe ρ1).noEx.bind fun y=>(compL fs ft fe ρ0 t).bind fun ys=>.ok (y::ys))=.ex e:=h
     cases h3:fe ρ1 with
     | bad=>rw[h3] at h;cases h
     | ex _=>rw[h3] at h;cases h
     | ok y=>
      rw[h3] at h
      have h:((compL fs ft fe ρ0 t).bind fun ys=>.ok (y::ys))=.ex e:=h
      cases h4:compL fs ft fe ρ0 t with
      | bad=>rw[h4] at h;cases h
      | ex e'=>exact nR (xs:=t) (e:=e') h4
      | ok ys=>rw[h4] at h;cases h
theorem aBV{fs:PyData->Sg->Option Sg}{ft:Sg->R Bool}{fe:Sg->R PyData}{ρ0:Sg}{x:PyData}{t ys:List PyData}(h:compL fs ft fe ρ0 (x::t)=.ok ys) :
  ∃ ρ1 b,fs x ρ0=some ρ1/\ft ρ1=.ok b/\((b=true/\∃ y zs,fe ρ1=.ok y/\compL fs ft fe ρ0 t=.ok zs/\ys=y::zs)\/(b=false/\compL fs ft fe ρ0 t=.ok ys)):=by
 unfold compL at h
 cases h1:fs x ρ0 with
 | none=>rw[h1] at h;cases h
 | some ρ1=>
  rw[h1] at h
  have h:((ft ρ1).noEx.bind fun b=>if b=true then (fe ρ1).noEx.bind fun y=>(compL fs ft fe ρ0 t).bind fun ys=>.ok (y::ys) else compL fs ft fe ρ0 t)=.ok ys:=h
  cases h2:ft ρ1 with
  | bad=>rw[h2] at h;cases h
  | ex _=>rw[h2] at h;cases h
  | ok b=>
   rw[h2] at h
   have h:(if b=true then (fe ρ1).noEx.bind fun y=>(compL fs ft fe ρ0 t).bind fun ys=>.ok (y::ys) else compL fs ft fe ρ0 t)=.ok ys:=h
   refine ⟨ρ1,b,rfl,h2,?_⟩
   cases b with
   | false=>exact .inr ⟨rfl,h⟩
   | true=>
    refine .inl ⟨rfl,?_⟩
    have h:((fe ρ1).noEx.bind fun y=>(compL fs ft fe ρ0 t).bind fun ys=>.ok (y::ys))=.ok ys:=h
    cases h3:fe ρ1 with
    | bad=>rw[h3] at h;cases h
    | ex _=>rw[h3] at h;cases h
    | ok y=>
     rw[h3] at h
     have h:((compL fs ft fe ρ0 t).bind fun ys=>.ok (y::ys))=.ok ys:=h
     cases h4:compL fs ft fe ρ0 t with
     | bad=>rw[h4] at h;cases h
     | ex e'=>rw[h4] at h;cases h
     | ok zs=>rw[h4] at h;cases h;exact ⟨y,zs,rfl,rfl,rfl⟩
def cK(js:List (Option Nat))(fi:Sg->R (List PyData))(fs:PyData->Sg->Option Sg)(ft:Sg->R Bool)(fe:Sg->R PyData):Sg->R (List PyData):=fun ρ=>(fi ρ).bind fun xs=>compL fs ft fe (fM js ρ) xs
noncomputable def cS:Sg->R Bool:=fun _=>.ok true
section
variable{X:Cx}{c:Ct}{E:XK}{e a b:Expr}{pos:Pos}
theorem cJ:L2.PIf X [] (tTf c E cS):=fun pins s σ H Q I ⟨ρ,F,ab,k⟩=>L2.cJ pins s σ H Q I (Rk.ok k F H (Ext.refl ab.fh))
theorem xQ{js:List (Option Nat)}{is:List Nat}{σ σ0 σ1:L2.St}(k:c7 (iU js σ) σ0)(hl:σ1.length=σ0.length)(h:∀ j:Nat,j∉is->σ1[j]? = σ0[j]?)(hi:∀ i∈is,js[i]? = some none):c7 (iU js σ) σ1:=
 ⟨hl.trans k.1,fun i v e=>by
  by_cases q:i∈is
  ·unfold iU at e
   rw[List.getElem?_map,hi i q] at e
   cases e
  ·rw[h i q];exact k.2 i v e⟩
theorem vB{N:List Str}{js:List (Option Nat)}{scope:Scope}{tg elt:Expr}{ifs:List Expr}{fi:Sg->R (List PyData)}{fs:PyData->Sg->Option Sg}{ft:Sg->R Bool}{fe:Sg->R PyData}{is:List Nat}(ho:t7 js)(hi:∀ i∈is,js[i]? = some none)
  (hb:∀ (cl:List (Str×Addr)) (C:Addr) (s:Shared) (H0:Hp) (fp:List Addr),∃ g,PG (eP X N scope cl C s H0 fp) tg g/\Tg c g fs is/\L2.PIf (eP X N scope cl C s H0 fp) ifs (tTf c E0 ft)/\PD (eP X N scope cl C s H0 fp) c E0 elt fe)
  {σ:L2.St} {H:Hp} {Q:VK} (h:tV (rF c) c E (cK js fi fs ft fe) σ H Q):pR X N scope js tg elt ifs (tI c E fi) σ H Q:=by
 obtain ⟨ρ,F,ab,k⟩:=h
 refine ⟨ρ,F,ab,(Rk.bind k).imp fun xs _ q J B F1 H1 s1 sb yl=>?_⟩
 cases hc:compL fs ft fe (fM js ρ) xs with
 | bad=>rw[hc] at q;exact q.elim
 | ex e=>exact absurd hc nR
 | ok ys=>
  rw[hc] at q
  refine zO (n:=xs.length) (fun i acc H'=>∃ F',Ext F1 H1 F' H'/\acc.length<=i/\∃ zs rest,DatVs c.K F' acc zs/\compL fs ft fe (fM js ρ) (xs.drop i)=.ok rest/\zs++rest=ys) yl.len ⟨F1,Ext.refl s1.fh,Nat.le_refl _,[],ys,.nil,hc,rfl⟩ ?_ ?_ ?_ ?_ ?_
  ·rintro i acc H' _ ⟨F',_,h,_⟩;exact h
  ·rintro i acc H' hlt ⟨F',e1,_⟩
   exact yl.go i F' H' e1.ff e1.fh (fun a o z=>e1.hh a o (sb a o z)) hlt
  ·rintro acc H' ⟨F',e1,_⟩
   exact yl.stop F' H' e1.ff e1.fh (fun a o z=>e1.hh a o (sb a o z))
  ·rintro i v acc Ha Hb hlt ⟨F',e1,hlen,zs,rest,hd,hr,hz⟩ hy
   obtain ⟨F2,e2,rx⟩:=yl.yld i F' Ha v Hb xs[i] e1.ff e1.fh (fun a o z=>e1.hh a o (sb a o z)) hy (List.getElem?_eq_getElem hlt)
   have hdr:xs.drop i=xs[i]::xs.drop (i+1):=List.drop_eq_getElem_cons hlt
   rw[hdr] at hr
   obtain ⟨ρ1,bb,hs,ht,hcase⟩:=aBV hr
   intro cl C s H0 fp
   obtain ⟨g,hg,tg',hif,he⟩:=hb cl C s H0 fp
   refine ⟨g,_,_,hg,hif,he,fun σ0 k0=>?_⟩
   have ab0:Ab c (fM js ρ) σ0 F2 Hb:=(ab.ext (s1.trans (e1.trans e2))).cap ho k0
   refine tg' v xs[i] _ ρ1 σ0 F2 Hb _ ab0 rx hs fun σ1 hl1 hk1 ab1=>⟨xQ k0 hl1 hk1 hi,ρ1,F2,ab1,?_⟩
   rw[ht]
   intro F3 H3 e3
   rcases hcase with ⟨rfl,y,ws,hy1,hy2,rfl⟩|⟨rfl,hy2⟩
   ·refine tQ ⟨ρ1,F3,ab1.ext e3,?_⟩
    rw[hy1]
    intro w F4 H4 e4 rw'
    refine ⟨F4,e1.trans (e2.trans (e3.trans e4)),by rw[List.length_append,List.length_singleton];omega,zs++[y],ws,(hd.same (e2.trans (e3.trans e4)).ff).append (.cons rw' .nil),hy2,by rw[List.append_assoc];exact hz⟩
   ·exact tP ⟨F3,e1.trans (e2.trans e3),by omega,zs,rest,hd.same (e2.trans e3).ff,hy2,hz⟩
  ·rintro acc H' ⟨F',e1,_,zs,rest,hd,hr,hz⟩ p hp
   rw[List.drop_length] at hr
   cases hr
   rw[List.append_nil] at hz
   subst hz
   exact Rk.ok q (.ref p) F' _ (s1.trans (e1.trans (Ext.own e1.fh hp))) ⟨p,acc,rfl,bG (s1.trans e1).hh hp,aL,bG e1.fh hp,hd⟩
theorem dX{N:List Str}{js:List (Option Nat)}{scope:Scope}{tg elt:Expr}{ifs:List Expr}{fi:Sg->R (List PyData)}{fs:PyData->Sg->Option Sg}{ft:Sg->R Bool}{fe:Sg->R PyData}{is:List Nat}(h:PE X e (pR X N scope js tg elt ifs (tI c E fi)))(ho:js.Pairwise fun a b=>a=none\/a≠b)(hi:∀ i∈is,js[i]? = some none)
 (hb:∀ (cl:List (Str×Addr)) (C:Addr) (s:Shared) (H0:Hp) (fp:List Addr),∃ g,PG (eP X N scope cl C s H0 fp) tg g/\Tg c g fs is/\L2.PIf (eP X N scope cl C s H0 fp) ifs (tTf c E0 ft)/\PD (eP X N scope cl C s H0 fp) c E0 elt fe) :
 PN X c E e (cK js fi fs ft fe):=PE.imp h fun σ H Q q=>vB (sP ho) hi hb q
theorem p8{i:Nat}{st:Stmt}{N:List Str}{js:List (Option Nat)}{scope:Scope}{tg elt:Expr}{ifs:List Expr}{fi:Sg->R (List PyData)}{fs:PyData->Sg->Option Sg}{ft:Sg->R Bool}{fe:Sg->R PyData}{is:List Nat}(h:PS X st (kB (pR X N scope js tg elt ifs (tI c E fi)) (iA i)))(ho:js.Pairwise fun a b=>a=none\/a≠b)(hi:∀ i∈is,js[i]? = some none)
 (hb:∀ (cl:List (Str×Addr)) (C:Addr) (s:Shared) (H0:Hp) (fp:List Addr),∃ g,PG (eP X N scope cl C s H0 fp) tg g/\Tg c g fs is/\L2.PIf (eP X N scope cl C s H0 fp) ifs (tTf c E0 ft)/\PD (eP X N scope cl C s H0 fp) c E0 elt fe) :
 PSf X c E st (dM i (cK js fi fs ft fe)):=gS (PS.imp h fun D σ H q=>vB (sP ho) hi hb q)
end
noncomputable def kC(fs:PyData->Sg->Option Sg)(fb:Sg->R Fw):List PyData->Sg->R Fw
 | [],ρ=>.ok (.nx ρ)
 | x::t,ρ=>(xP (fs x ρ)).bind fun ρ1=>(fb ρ1).bind fun w=>match w with
  | .nx ρ2=>kC fs fb t ρ2
  | .ct ρ2=>kC fs fb t ρ2
  | .bk ρ2=>.ok (.nx ρ2)
  | .rt a=>.ok (.rt a)
def i9(fi:Sg->R (List PyData))(fs:PyData->Sg->Option Sg)(fb:Sg->R Fw):Sg->R Fw:=fun ρ=>(fi ρ).bind fun xs=>kC fs fb xs ρ
section
variable{X:Cx}{c:Ct}{E:XK}{e a b:Expr}{pos:Pos}{st:Stmt}
theorem d8{g:TG}{fi:Sg->R (List PyData)}{fs:PyData->Sg->Option Sg}{is:List Nat}{fb:Sg->R Fw}(hg:Tg c g fs is)(h:PS X st (aK4 (tI0 c E fi) g (tSf c E fb))):PSf X c E st (i9 fi fs fb):=PS.imp h fun D σ H zz0=>by
 obtain ⟨ρ,F,ab,k⟩:=zz0
 refine ⟨ρ,F,ab,(Rk.bind k).imp fun xs _ q J F1 H1 s1 yl=>?_⟩
 refine ⟨fun i m σ H=>m=xs.length - i/\i<=xs.length/\∃ ρ' F',aF F1 F'/\Ab c ρ' σ F' H/\Rk c E F' H (kC fs fb (xs.drop i) ρ') (f7 c F D),⟨xs.length,by simp,Nat.zero_le _,ρ,F1,bV _,ab.ext s1,Rk.ext s1 q⟩,?_⟩
 rintro i m σ2 H2 ⟨rfl,hi,ρ2,F2,s2,ab2,k2⟩
 by_cases hlt:i < xs.length
 ·refine .inr ⟨yl.go i F2 H2 s2 ab2.fh o5 hlt,fun σ' H'=>∃ ρ' F',aF F1 F'/\Ab c ρ' σ' F' H'/\Rk c E F' H' (kC fs fb (xs.drop (i+1)) ρ') (f7 c F D),fun σ' H' w=>⟨xs.length - (i+1),by omega,rfl,hlt,w⟩,fun v H3 y=>?_⟩
  obtain ⟨F3,e3,rv⟩:=yl.yld i F2 H2 v H3 xs[i] s2 ab2.fh o5 y (List.getElem?_eq_getElem hlt)
  have hdr:xs.drop i=xs[i]::xs.drop (i+1):=List.drop_eq_getElem_cons hlt
  rw[hdr] at k2
  unfold kC at k2
  cases h1:fs xs[i] ρ2 with
  | none=>rw[h1] at k2;exact k2.elim
  | some ρ3=>
   rw[h1] at k2
   refine hg v xs[i] ρ2 ρ3 σ2 F3 H3 _ (ab2.ext e3) rv h1 fun σ3 _ _ ab3=>⟨ρ3,F3,ab3,?_⟩
   have k3:Rk c E F2 H2 (fb ρ3) _:=Rk.bind k2
   cases h2:fb ρ3 with
   | bad=>rw[h2] at k3;exact k3.elim
   | ex e=>rw[h2] at k3;exact k3
   | ok w=>
    rw[h2] at k3
    have k4:=Rk.ok k3
    have sF:aF F F3:=fun a o z=>e3.ff a o (s2 a o (s1.ff a o z))
    cases w with
    | nx ρ4=>exact fun σ' F' H' s' ab'=>⟨ρ4,F',fun a o z=>s' a o (e3.ff a o (s2 a o z)),ab',k4⟩
    | ct ρ4=>exact fun σ' F' H' s' ab'=>⟨ρ4,F',fun a o z=>s' a o (e3.ff a o (s2 a o z)),ab',k4⟩
    | bk ρ4=>exact fun σ' F' H' s' ab'=>Rk.ok k4 σ' F' H' (fun a o z=>s' a o (sF a o z)) ab'
    | rt a=>exact fun v F' H' z r=>Rk.ok k4 v F' H' z r
 ·have e:i=xs.length:=by omega
  subst e
  rw[List.drop_length] at k2
  exact .inl ⟨yl.stop F2 H2 s2 ab2.fh o5,Rk.ok k2 σ2 F2 H2 (fun a o z=>s2 a o (s1.ff a o z)) ab2⟩
end
noncomputable def cF(t:Sg->R Bool)(b:Sg->R Fw):Nat->Sg->R Fw
 | 0,_=>.bad
 | n+1,ρ=>(t ρ).bind fun k=>if k=true then (b ρ).bind fun w=>match w with
   | .nx ρ'=>cF t b n ρ'
   | .ct ρ'=>cF t b n ρ'
   | .bk ρ'=>.ok (.nx ρ')
   | .rt a=>.ok (.rt a)
  else .ok (.nx ρ)
open Classical in
noncomputable def bS(t:Sg->R Bool)(b:Sg->R Fw):Sg->R Fw:=fun ρ=>if h:∃ n,cF t b n ρ≠.bad then cF t b h.choose ρ else .bad
theorem R.bind_mono{α β:Type}{r:R α}{f g:α->R β}(h:r.bind f≠.bad)(hfg:∀ a,f a≠.bad->g a=f a):r.bind g=r.bind f:=by
 cases r with
 | bad=>rfl
 | ex e=>rfl
 | ok a=>exact hfg a h
theorem jY{t:Sg->R Bool}{b:Sg->R Fw}:∀ {n m:Nat} {ρ:Sg},n<=m->cF t b n ρ≠.bad->cF t b m ρ=cF t b n ρ
 | 0,_,_,_,h=>absurd rfl h
 | n+1,0,_,hm,_=>absurd hm (by omega)
 | n+1,m+1,ρ,hm,h=>by
  unfold cF at h ⊢
  refine R.bind_mono h fun k hk=>?_
  cases k with
  | false=>rfl
  | true=>
   refine R.bind_mono (r:=b ρ) hk fun w hw=>?_
   cases w with
   | nx ρ'=>exact jY (by omega) hw
   | ct ρ'=>exact jY (by omega) hw
   | bk ρ'=>rfl
   | rt a=>rfl
theorem o7{t:Sg->R Bool}{b:Sg->R Fw}{ρ:Sg}{n:Nat}(h:cF t b n ρ≠.bad):bS t b ρ=cF t b n ρ:=by
 have hx:∃ n,cF t b n ρ≠.bad:=⟨n,h⟩
 unfold bS
 rw[dif_pos hx]
 have hc:=hx.choose_spec
 rcases Nat.le_total n hx.choose with q|q
 · exact jY q h
 · exact (jY q hc).symm
theorem l5 (t : Sg -> R Bool) (b : Sg -> R Fw) (ρ : Sg) : bS t b ρ = (t ρ).bind fun k => if k = true then (b ρ).bind fun w => match w with
      | .nx ρ' => bS t b ρ'
      | .ct ρ' => bS t b ρ'
      | .bk ρ' => .ok (.nx ρ')
      | .rt a => .ok (.rt a)
    else .ok (.nx ρ) := by
  have key : ∀ n, (∀ k, t ρ = .ok k -> k = true -> ∀ w, b ρ = .ok w -> ∀ ρ', (w = .nx ρ' \/ w = .ct ρ') -> bS t b ρ' = cF t b n ρ') -> cF t b (n + 1) ρ = (t ρ).bind fun k => if k = true then (b ρ).bind fun w => match w with
      | .nx ρ' => bS t b ρ'
      | .ct ρ' => bS t b ρ'
      | .bk ρ' => .ok (.nx ρ')
      | .rt a => .ok (.rt a)
    else .ok (.nx ρ) := by
    intro n h
    unfold cF
    cases ht : t ρ with
    | bad => rfl
    | ex e => rfl
    | ok k =>
      cases k with
      | false => rfl
      | true =>
        show ((b ρ).bind _) = ((b ρ).bind _)
        cases hb : b ρ with
        | bad => rfl
        | ex e => rfl
        | ok w =>
          cases w with
          | nx ρ' => exact (h true ht rfl _ hb ρ' (.inl rfl)).symm
          | ct ρ' => exact (h true ht rfl _ hb ρ' (.inr rfl)).symm
          | bk ρ' => rfl
          | rt a => rfl
  by_cases hx : ∃ n, cF t b n ρ ≠ .bad
  · obtain ⟨n, hn⟩ := hx
    cases n with
    | zero => exact absurd rfl hn
    | succ n =>
      rw [o7 hn]
      refine key n fun k ht hk w hb ρ' hw => ?_
      subst hk
      refine o7 fun z => hn ?_
      unfold cF
      rw [ht]
      show ((b ρ).bind _) = _
      rw [hb]
      rcases hw with rfl | rfl
      · exact z
      · exact z
  · have h0 : bS t b ρ = .bad := by unfold bS; rw [dif_neg hx]
    rw [h0]
    have hall : ∀ n, cF t b n ρ = .bad := fun n => Classical.byContradiction fun z => hx ⟨n, z⟩
    cases ht : t ρ with
    | bad => rfl
    | ex e => have := hall 1; unfold cF at this; rw [ht] at this; cases this
    | ok k =>
      cases k with
      | false => have := hall 1; unfold cF at this; rw [ht] at this; cases this
      | true =>
        show R.bad = ((b ρ).bind _)
        cases hb : b ρ with
        | bad => rfl
        | ex e => have := hall 1; unfold cF at this; rw [ht] at this; change ((b ρ).bind _) = _ at this; rw [hb] at this; cases this
        | ok w =>
          have nxt : ∀ ρ', (w = .nx ρ' \/ w = .ct ρ') -> bS t b ρ' = .bad := fun ρ' hw => by
            unfold bS
            rw [dif_neg]
            rintro ⟨n, hn⟩
            refine hn ?_
            have := hall (n + 1)
            unfold cF at this
            rw [ht] at this
            change ((b ρ).bind _) = _ at this
            rw [hb] at this
            rcases hw with rfl | rfl <;> exact this
          cases w with
          | nx ρ' => exact (nxt ρ' (.inl rfl)).symm
          | ct ρ' => exact (nxt ρ' (.inr rfl)).symm
          | bk ρ' => have := hall 1; unfold cF at this; rw [ht] at this; change ((b ρ).bind _) = _ at this; rw [hb] at this; cases this
          | rt a => have := hall 1; unfold cF at this; rw [ht] at this; change ((b ρ).bind _) = _ at this; rw [hb] at this; cases this
section
variable{X:Cx}{c:Ct}{E:XK}{st:Stmt}
theorem iD{t:Sg->R Bool}{fb:Sg->R Fw}(h:PS X st (aCL (tTf c E t) (tSf c E fb))):PSf X c E st (bS t fb):=PS.imp h fun D σ H zz0=>by
 obtain ⟨ρ,F,ab,k⟩:=zz0
 have hx:∃ n,cF t fb n ρ≠.bad:=Classical.byContradiction fun z=>by
  have:bS t fb ρ=.bad:=by unfold bS;rw[dif_neg z]
  rw[this] at k
  exact k
 obtain ⟨n,hn⟩:=hx
 rw[o7 hn] at k
 refine ⟨fun m σ H=>∃ ρ' F',aF F F'/\Ab c ρ' σ F' H/\Rk c E F' H (cF t fb m ρ') (f7 c F D),⟨n,ρ,F,bV F,ab,k⟩,?_⟩
 rintro m σ1 H1 ⟨ρ1,F1,s1,ab1,k1⟩
 cases m with
 | zero=>exact k1.elim
 | succ m=>
  unfold cF at k1
  refine ⟨ρ1,F1,ab1,(Rk.bind k1).imp fun b _ q F2 H2 e2=>?_⟩
  have ab2:=ab1.ext e2
  cases b with
  | false=>exact tP (Rk.ok q σ1 F2 H2 (fun a o z=>e2.ff a o (s1 a o z)) ab2)
  | true=>
   refine tQ ⟨fun σ' H'=>∃ ρ' F',aF F F'/\Ab c ρ' σ' F' H'/\Rk c E F' H' (cF t fb m ρ') (f7 c F D),fun σ' H' w=>⟨m,by omega,w⟩,ρ1,F2,ab2,?_⟩
   have q':Rk c E F1 H1 (fb ρ1) _:=Rk.bind (r:=fb ρ1) q
   cases h2:fb ρ1 with
   | bad=>rw[h2] at q';exact q'.elim
   | ex e=>rw[h2] at q';exact q'
   | ok w=>
    rw[h2] at q'
    have k4:=Rk.ok q'
    have sF:aF F F2:=fun a o z=>e2.ff a o (s1 a o z)
    cases w with
    | nx ρ4=>exact fun σ' F' H' s' ab'=>⟨ρ4,F',fun a o z=>s' a o (sF a o z),ab',k4⟩
    | ct ρ4=>exact fun σ' F' H' s' ab'=>⟨ρ4,F',fun a o z=>s' a o (sF a o z),ab',k4⟩
    | bk ρ4=>exact fun σ' F' H' s' ab'=>Rk.ok k4 σ' F' H' (fun a o z=>s' a o (sF a o z)) ab'
    | rt a=>exact fun v F' H' z r=>Rk.ok k4 v F' H' z r
end
end Fl
namespace Fl
open PySem L2 PyProof.Rows
def spG(K:Frag)(mg:Str->Option Value)(T F1:Hp)(n:Nat)(G:List PyData->R PyData):Sp:=fun vs H Q E=>∃ F ds,aF F1 F/\aF T F/\aF F H/\DatVs K F vs ds/\ds.length=n/\match G ds with
 | .bad=>False
 | .ok d=>∀ v F' H',Ext F H F' H'->DatV K F' v d->Q v H'
 | .ex e=>∀ a C F' H',Ext F H F' H'->k6 K mg F' e a C->E (.ref C) (some a) H'
def Beh(P:Program)(w:World)(K:Frag)(mg:Str->Option Value)(base:Heap)(T:Hp)(f:Addr)(F1:Hp)(k n:Nat)(G:List PyData->R PyData):Prop:=
 ∃ fd ps,ps.length=n/\fQ K fd ps []/\FnOk P w K mg base (CXe P w) k f fd ps (spG K mg T F1 n G)/\(PySem.W.keepIn K (.ref f)=true\/∃ oc od fd' sl,F1 f=some (FnO f ⟨oc,od,.func fd',sl⟩))
def gOf(P:Program)(w:World)(K:Frag)(mg:Str->Option Value)(base:Heap)(T:Hp):Gb:=⟨Beh P w K mg base T,T,w⟩
def spF(g:Gb)(K:Frag)(mg:Str->Option Value)(n:Nat)(G:List A->R A):Sp:=fun vs H Q E=>∃ F as,aF g.T F/\aF F H/\AFs g K mg F as vs/\as.length=n/\match G as with
 | .bad=>False
 | .ok a=>∀ v F' H',Ext F H F' H'->AF g K mg F' a v->Q v H'
 | .ex e=>∀ a C F' H',Ext F H F' H'->k6 K mg F' e a C->E (.ref C) (some a) H'
def aZ(P:Program)(w:World)(K:Frag)(mg:Str->Option Value)(base:Heap)(T:Hp)(k:Nat)(x:Str)(ps:List Str)(G:List A->R A):Prop:=Calls P w K mg base (CXe P w) k x ps (spF (gOf P w K mg base T) K mg ps.length G)
def a5(n:Nat)(G:List A->R A)(f:Sg->R (List A)):Sg->R A:=fun ρ=>(f ρ).bind fun as=>if as.length=n then G as else .bad
theorem cH{X:Cx}{c:Ct}{E:XK}{e:Expr}{n:Nat}{G:List A->R A}{g:Gb}{K:Frag}{mg:Str->Option Value}{f:Sg->R (List A)}(hG:g=c.g)(hK:K=c.K)(hM:mg=c.mg)(h:PE X e (aA4 (spF g K mg n G) [] E (tAv c E f))):PV X c E e (a5 n G f):=PE.imp h fun σ H Q zz0=>by
 obtain ⟨ρ,F,ab,k⟩:=zz0
 subst hG hK hM
 refine ⟨ρ,F,ab,(Rk.bind k).imp fun as _ q vs F1 H1 s1 r1=>?_⟩
 by_cases hn:as.length=n
 ·rw[if_pos hn] at q
  refine ⟨F1,as,fun a o z=>s1.ff a o (ab.f0 a o (ab.t0 a o z)),s1.fh,by rw[List.append_nil];exact r1,hn,?_⟩
  cases hg:G as with
  | bad=>rw[hg] at q;exact q
  | ok a=>rw[hg] at q;exact fun v F' H' s r=>Rk.ok q v F' H' (s1.trans s) r
  | ex e=>rw[hg] at q;exact fun a C F' H' s r=>q a C F' H' ((ab.all.trans s1).trans s) r
 ·rw[if_neg hn] at q;exact q.elim
def fnF(n:Nat)(fb:Sg->R Fw):List A->R A:=fun as=>(fb (as.map some++List.replicate (n - as.length) none)).bind fun w=>match w with
 | .rt (.l _)=>.bad
 | .rt a=>.ok a
 | .nx _=>.ok (.d .none)
 | _=>.bad
theorem AFs.get{g:Gb}{K:Frag}{mg:Str->Option Value}{F:Hp}:∀ {as:List A} {vs:List V} {i:Nat} {a:A},AFs g K mg F as vs->as[i]? = some a->∃ v,vs[i]? = some v/\AF g K mg F a v
 | [],[],_,_,_,h=>by simp at h
 | a::as,v::vs,0,_,h,e=>by simp at e;subst e;exact ⟨v,rfl,h.1⟩
 | a::as,v::vs,i+1,_,h,e=>by
  obtain ⟨w,h1,h2⟩:=AFs.get (i:=i) h.2 (by simpa using e)
  exact ⟨w,by simpa using h1,h2⟩
theorem o8{α:Type}{as:List α}{n i:Nat}{a:α}(h:(as.map some++List.replicate n none)[i]? = some (some a)):as[i]? = some a:=by
 by_cases hi:i < as.length
 ·rw[List.getElem?_append_left (by rw[List.length_map];exact hi),List.getElem?_map] at h
  cases e:as[i]? with
  | none=>rw[e] at h;cases h
  | some b=>rw[e] at h;cases h;rfl
 ·rw[List.getElem?_append_right (by rw[List.length_map];omega),List.getElem?_replicate] at h
  split at h
  · cases h
  · cases h
theorem xR{g:Gb}{cells:List (Str×Addr)}{cls:Str->Option ClSt}{K:Frag}{mg:Str->Option Value}{w:World}{F H:Hp}{as:List A}{vs:List V}{n:Nat}(s0:aF g.T F)(s:aF F H)(h:AFs g K mg F as vs):Ab ⟨K,mg,w,F,H,g,cells,cls⟩ (as.map some++List.replicate (n - as.length) none) (vs.map some++List.replicate (n - vs.length) none) F H where
 len:=by rw[List.length_append,List.length_append,List.length_map,List.length_map,List.length_replicate,List.length_replicate,h.len]
 fh:=s
 slot:=fun i a e=>by
  obtain ⟨v,h1,h2⟩:=h.get (o8 e)
  refine ⟨v,?_,AO.of h2⟩
  have hi:i < vs.length:=(List.getElem?_eq_some_iff.mp h1).1
  rw[List.getElem?_append_left (by rw[List.length_map];exact hi),List.getElem?_map,h1];rfl
 apart:=fun i j a b _ e1 _ o _=>by
  obtain ⟨v,h1,h2⟩:=h.get (o8 e1)
  rw[AF.notOwn h2] at o
  cases o
 f0:=bV F
 h0:=bV H
 n0:=fun a e n=>absurd e n
 t0:=s0
theorem aI3{g:Gb}{cells:List (Str×Addr)}{cls:Str->Option ClSt}{K:Frag}{mg:Str->Option Value}{w:World}{n:Nat}{fb:Sg->R Fw}{vs:List V}{as:List A}{F H:Hp}{Q:VK}{E:XK}(h0:aF g.T F)(h1:aF F H)(h2:AFs g K mg F as vs)(h4:match fnF n fb as with
 | .bad=>False
 | .ok a=>∀ v F' H',Ext F H F' H'->AF g K mg F' a v->Q v H'
 | .ex e=>∀ a C F' H',Ext F H F' H'->k6 K mg F' e a C->E (.ref C) (some a) H'):tSf ⟨K,mg,w,F,H,g,cells,cls⟩ E fb {nx:=fun _ H'=>Q .non H',rt:=Q} (vs.map some++List.replicate (n - vs.length) none) H:=by
 refine ⟨_,F,xR h0 h1 h2,?_⟩
 unfold fnF at h4
 cases e:fb (as.map some++List.replicate (n - as.length) none) with
 | bad=>rw[e] at h4;exact h4
 | ex x=>rw[e] at h4;exact h4
 | ok w=>
  rw[e] at h4
  cases w with
  | nx ρ'=>exact fun σ' F' H' s ab=>h4 .non F' H' ab.all .non
  | rt a=>
   cases a with
   | l xs=>exact h4.elim
   | _=>exact h4
  | bk ρ'=>exact h4.elim
  | ct ρ'=>exact h4.elim
section
variable{P:Program}{w:World}{K:Frag}{mg:Str->Option Value}{base:Heap}{T:Hp}{x:Str}{st:Stmt}{N ps:List Str}{k:Nat}
theorem cT{fb:Sg->R Fw}(D:DefAt K mg x st ps)(S:FnScope N ps (aQ st))
  (hbody:∀ (f:Addr) (cdv:Value) (A:Around) (outer:List Env) (s:Shared) (H F:Hp) (E:XK),Room k (A.deeper (envOfC x (aQ st) s.heap.objs.size f cdv))->
   nP ((iT (CXe P w) P w K mg base N x (aQ st) f cdv A outer s H E).fly E) ⟨K,mg,w,F,H,gOf P w K mg base T,(envOfC x (aQ st) s.heap.objs.size f cdv).cells,fun _=>none⟩ E (dN st) fb):aZ P w K mg base T (k+1) x ps (fnF N.length fb):=by
 refine D.okX S (fun vs H Q E h=>?_) (fun f cdv A outer s H vs Q E hr h=>?_)
 ·obtain ⟨F,as,_,_,h2,h3,_⟩:=h
  rw[h2.len,h3]
 ·obtain ⟨F,as,h0,h1,h2,h3,h4⟩:=h
  exact ⟨_,hbody f cdv A outer s H F E hr,aI3 h0 h1 h2 h4⟩
theorem aZ.imp{G G':List A->R A}(C:aZ P w K mg base T k x ps G)(h:∀ as,G' as≠.bad->G as=G' as):aZ P w K mg base T k x ps G':=Calls.imp C fun vs H Q E=>by
 rintro ⟨F,as,h0,h1,h2,h3,h4⟩
 refine ⟨F,as,h0,h1,h2,h3,?_⟩
 cases e:G' as with
 | bad=>rw[e] at h4;exact h4.elim
 | ok a=>rw[h as (by rw[e];exact fun z=>nomatch z),e];rw[e] at h4;exact h4
 | ex x=>rw[h as (by rw[e];exact fun z=>nomatch z),e];rw[e] at h4;exact h4
end
def sQ(cn:Str)(fs:List Str)(f:Sg->R (List PyData)):Sg->R Fw:=fun ρ=>(f ρ).bind fun xs=>if xs.length=fs.length then .ex ⟨cn,fs.zip xs⟩ else .bad
theorem t8{α β:Type}:∀ {xs:List α} {ys:List β},ys.length=xs.length->(xs.zip ys).map (·.1)=xs
 | [],_,_=>by simp
 | x::xs,[],h=>by simp at h
 | x::xs,y::ys,h=>by simp at h;simp[t8 h]
theorem t9{α β:Type}:∀ {xs:List α} {ys:List β},ys.length=xs.length->(xs.zip ys).map (·.2)=ys
 | [],[],_=>by simp
 | [],_::_,h=>by simp at h
 | x::xs,[],h=>by simp at h
 | x::xs,y::ys,h=>by simp at h;simp[t9 h]
theorem rC{X:Cx}{c:Ct}{E:XK}{st:Stmt}{cn:Str}{C:Addr}{fs:List Str}{f:Sg->R (List PyData)}(hm:c.mg cn=some (.ref C))(hl:fs.length<=1000)(h:PS X st (wX C (spI C fs) E (tAd c E f))):PSf X c E st (sQ cn fs f):=PS.imp h fun D σ H zz0=>by
 obtain ⟨ρ,F,ab,k⟩:=zz0
 refine ⟨ρ,F,ab,(Rk.bind k).imp fun xs _ q vs F1 H1 s1 r1=>?_⟩
 by_cases hn:xs.length=fs.length
 ·rw[if_pos hn] at q
  have hv:vs.length=fs.length:=by rw[r1.length,hn]
  refine aBB hv (by rw[hv];exact hl) fun e d he hd hne=>?_
  have s2:Ext F1 H1 (upd F1 e (ExO e C (some d))) (upd H1 e (ExO e C (some d))):=Ext.new s1.fh he
  have s3:Ext _ _ (upd (upd F1 e (ExO e C (some d))) d (.xd (fs.zip vs))) (upd (upd H1 e (ExO e C (some d))) d (.xd (fs.zip vs))):=Ext.new s2.fh (by rw[aD hne];exact hd)
  refine q e C _ _ ((ab.all.trans s1).trans (s2.trans s3)) ⟨hm,some d,?_,.inr ⟨d,fs.zip vs,rfl,aL,?_,?_⟩⟩
  ·rw[aD (Ne.symm hne),aL]
  ·show _=(fs.zip xs).map (·.1)
   rw[t8 hv,t8 hn]
  ·show DatVs _ _ _ ((fs.zip xs).map (·.2))
   rw[t9 hv,t9 hn]
   exact r1.same (s2.trans s3).ff
 ·rw[if_neg hn] at q;exact q.elim
end Fl
namespace Fl
open PySem L2 PyProof.Rows
def tPf(c:Ct)(E:XK)(f:Sg->R (Option Int)):TO:=fun σ H Q=>∃ ρ F,Ab c ρ σ F H/\Rk c E F H (f ρ) fun o=>∀ F' H',Ext F H F' H'->Q o H'
noncomputable def oNo:Sg->R (Option Int):=fun _=>.ok none
def oSo(f:Sg->R PyData):Sg->R (Option Int):=fun ρ=>(f ρ).bind fun x=>match x with
 | .int i=>.ok (some i)
 | _=>.bad
noncomputable def lB{α:Type}(xs:List α)(lo hi:Option Int):List α:=(xs.drop (HT.sIx xs.length 0 lo)).take (HT.sIx xs.length xs.length hi - HT.sIx xs.length 0 lo)
noncomputable def dSl:PyData->Option Int->Option Int->R PyData
 | .list xs,lo,hi=>.ok (.list (lB xs lo hi))
 | .tuple xs,lo,hi=>if ¬ (HT.sIx xs.length 0 lo=0/\HT.sIx xs.length xs.length hi=xs.length) then .ok (.tuple (lB xs lo hi)) else .bad
 | .str z,lo,hi=>if z.length<=16777216 then .ok (.str (Txt.slice z lo hi)) else .bad
 | _,_,_=>.bad
def eSl{α:Type}(g:PyData->Option Int->Option Int->R α)(f:Sg->R PyData)(lo hi:Sg->R (Option Int)):Sg->R α:=fun ρ=>(f ρ).bind fun x=>(lo ρ).bind fun l=>(hi ρ).bind fun h=>g x l h
theorem xS{K:Frag}{F:Hp}{vs:List V}{xs:List PyData}(h:DatVs K F vs xs)(lo hi:Option Int):DatVs K F (oQ vs lo hi) (lB xs lo hi):=by
 unfold oQ lB
 rw[h.length]
 exact (h.drop _).take _
theorem PO.imp{X:Cx}{e:Option Expr}{t t':TO}(h:PO X e t)(i:∀ σ H Q,t' σ H Q->t σ H Q):PO X e t':=fun pins s σ H Q I q=>h pins s σ H Q I (i σ H Q q)
section
variable{X:Cx}{c:Ct}{E:XK}{e a b:Expr}{pos p2:Pos}{lo hi:Option Expr}
theorem wA:PO X none (tPf c E oNo):=PO.imp aIF fun σ H Q ⟨ρ,F,ab,k⟩=>Rk.ok k F H (Ext.refl ab.fh)
theorem p9{f:Sg->R PyData}(h:PR X c E e f):PO X (some e) (tPf c E (oSo f)):=PO.imp (aIG h) fun σ H Q ⟨ρ,F,ab,k⟩=>⟨ρ,F,ab,(Rk.bind k).imp fun x _ q v F' H' s r=>by
 cases x with
 | int i=>exact ⟨i,aX.int_of r,Rk.ok q F' H' s⟩
 | _=>exact q.elim⟩
def aL2(c:Ct){α:Type}(Rb:VR α)(g:PyData->Option Int->Option Int->R α):V->Option Int->Option Int->Hp->VK->Prop:=fun v lo hi H Q=>∃ F x d,aF F H/\aX c.K F H v x/\g x lo hi=.ok d/\∀ w F' H',Ext F H F' H'->Rb d w H F' H'->Q w H'
theorem aN3(hK:X.K=c.K):SlR X (aL2 c (b6 c) dSl):=by
 intro pins s σ H v x vl vu lo hi sl Q I rx hs pl pu h
 obtain ⟨F,d,w,sf,ra,eg,q⟩:=h
 unfold dSl at eg
 split at eg
 ·cases eg
  obtain ⟨p,vs,rfl,h1,h2⟩:=aX.lst_of sf ra
  rw[<-hK] at h1
  exact aIJ pins s σ H _ x vl vu lo hi sl Q I rx hs pl pu ⟨p,vs,rfl,h1,fun l hl=>q _ _ _ (Ext.new sf hl) (.lst (SqL.of aL) ((xS h2 lo hi).same (aF.upd (bG sf hl))))⟩
 ·rename_i xs _ _
  split at eg
  ·rename_i hw
   cases eg
   obtain ⟨p,vs,rfl,_,h1,h2⟩:=aX.tup_of sf ra
   rw[<-hK] at h1
   exact aLH pins s σ H _ x vl vu lo hi sl Q I rx hs pl pu ⟨p,vs,rfl,h1,by rw[h2.length];exact hw,fun l hl=>q _ _ _ (Ext.new sf hl) (.tup (SqT.of aL) ((xS h2 lo hi).same (aF.upd (bG sf hl))))⟩
  ·cases eg
 ·split at eg
  ·rename_i hz
   cases eg
   obtain rfl:=aX.str_of ra
   exact aLR pins s σ H _ x vl vu lo hi sl Q I rx hs pl pu ⟨_,rfl,by rw[cY];exact hz,q _ F H (Ext.refl sf) (.str _)⟩
  ·cases eg
 ·cases eg
theorem aI4{α:Type}{Rb:VR α}{g:PyData->Option Int->Option Int->R α}(hp:∀ x l h e,g x l h≠.ex e)(kb:xG Rb){f:Sg->R PyData}{fl fh:Sg->R (Option Int)}{σ:L2.St}{H:Hp}{Q:VK}(h:tV Rb c E (eSl g f fl fh) σ H Q) :
  tSl (aL2 c Rb g) (tV (a8 c) c E f) (tPf c E fl) (tPf c E fh) σ H Q:=by
 obtain ⟨ρ,F,ab,k⟩:=h
 refine ⟨ρ,F,ab,(Rk.bind k).imp fun x _ q v F1 H1 s1 r1=>⟨ρ,F1,ab.ext s1,((Rk.bind q).ext s1).imp fun l _ q F2 H2 s2=>⟨ρ,F2,ab.ext (s1.trans s2),((Rk.bind q).ext (s1.trans s2)).imp fun hh _ q F3 H3 s3=>?_⟩⟩⟩
 cases eg:g x l hh with
 | bad=>rw[eg] at q;exact q.elim
 | ex e=>exact absurd eg (hp x l hh e)
 | ok d=>
  rw[eg] at q
  have s13:=(s1.trans s2).trans s3
  exact ⟨F3,x,d,s3.fh,aX.ext (s2.trans s3) r1,eg,fun w F' H' s r=>Rk.ok q w F' H' (s13.trans s) (kb _ _ _ _ _ _ s13.hh r)⟩
theorem aF6:∀ x l h e,dSl x l h≠.ex e:=by intro x l h e q;unfold dSl at q;split at q<;>(try split at q)<;>cases q
theorem lD{f:Sg->R PyData}{fl fh:Sg->R (Option Int)}(hK:X.K=c.K)(he:PR X c E e f)(hl:PO X lo (tPf c E fl))(hh:PO X hi (tPf c E fh)):PD X c E (.Subscript e (.Slice lo hi none p2) pos) (eSl dSl f fl fh):=
 PE.imp (aFB (aN3 hK) he hl hh) fun σ H Q h=>aI4 aF6 (jW c) h
noncomputable def tyN:PyData->String
 | .none=>"NoneType"
 | .bool _=>"bool"
 | .int _=>"int"
 | .str _=>"str"
 | .list _=>"list"
 | .tuple _=>"tuple"
 | .dict _=>"dict"
noncomputable def gL(t T:String):Bool:=t == T || (T == "int" && t == "bool")
noncomputable def fV(T:String)(x:PyData):R PyData:=match x with
 | .dict _=>.bad
 | x=>.ok (.bool (gL (tyN x) T))
structure Kit(K:Frag)(T:String):Prop where
 non:PySem.W.kitOne K (.type "NoneType") (.type T)=some (gL "NoneType" T)
 bl:PySem.W.kitOne K (.type "bool") (.type T)=some (gL "bool" T)
 int:PySem.W.kitOne K (.type "int") (.type T)=some (gL "int" T)
 str:PySem.W.kitOne K (.type "str") (.type T)=some (gL "str" T)
 lst:PySem.W.kitOne K (.type "list") (.type T)=some (gL "list" T)
 tup:PySem.W.kitOne K (.type "tuple") (.type T)=some (gL "tuple" T)
theorem aI5(K:Frag):Kit K "int":=⟨rfl,rfl,rfl,rfl,rfl,rfl⟩
theorem aF7(K:Frag):Kit K "bool":=⟨rfl,rfl,rfl,rfl,rfl,rfl⟩
theorem aI6(K:Frag):Kit K "str":=⟨rfl,rfl,rfl,rfl,rfl,rfl⟩
theorem xT(K:Frag):Kit K "list":=⟨rfl,rfl,rfl,rfl,rfl,rfl⟩
theorem aF8{X:Cx}:gA X (.builtin "isinstance") (fun xs H Q=>∃ a ys c cv b,xs=[.ref a,c]/\SqL X.K H a ys/\aBA c=some cv/\PySem.W.kitOne X.K (.type "list") cv=some b/\Q (.bl b) H):=by
 intro pins s σ H xs us Q I r h
 obtain ⟨a,ys,c,cv,b,rfl,ha,hc,e,q⟩:=h
 obtain ⟨u,v,rfl,ru,rv⟩:=aA1 r
 obtain rfl:=tT hc rv
 cases (show u=Value.ref a from ru)
 obtain ⟨its,_,pl,_⟩:=I.list ha
 obtain ⟨o,h1,h2,_⟩:=pl.isList
 exact PySem.W.kia_one PySem.W.kitx_list I.kIn ⟨o,h1,h2⟩ e (fun z=>nomatch z) fun tk=>⟨.bl b,H,I.tok _,rfl,q⟩
def aF9(c:Ct)(T:String):List V->Hp->VK->Prop:=fun xs H Q=>∃ F x v d,xs=[v,.ty T]/\aF F H/\aX c.K F H v x/\fV T x=.ok d/\∀ w F' H',Ext F H F' H'->DatV c.K F' w d->Q w H'
theorem lE(hK:X.K=c.K){T:String}(k:Kit X.K T):gA X (.builtin "isinstance") (aF9 c T):=by
 intro pins s σ H xs us Q I r h
 obtain ⟨F,x,v,d,rfl,sf,ra,eg,q⟩:=h
 cases x with
 | dict _=>cases eg
 | none=>
  cases eg
  obtain rfl:=aX.non_of ra
  exact jT pins s σ H _ us Q I r ⟨_,_,_,_,_,rfl,.pl .non,rfl,k.non,q _ F H (Ext.refl sf) (.bl _)⟩
 | bool b=>
  cases eg
  obtain rfl:=aX.bl_of ra
  exact jT pins s σ H _ us Q I r ⟨_,_,_,_,_,rfl,.pl (.bl b),rfl,k.bl,q _ F H (Ext.refl sf) (.bl _)⟩
 | int b=>
  cases eg
  obtain rfl:=aX.int_of ra
  exact jT pins s σ H _ us Q I r ⟨_,_,_,_,_,rfl,.pl (.int b),rfl,k.int,q _ F H (Ext.refl sf) (.bl _)⟩
 | str b=>
  cases eg
  obtain rfl:=aX.str_of ra
  exact jT pins s σ H _ us Q I r ⟨_,_,_,_,_,rfl,.pl (.str b),rfl,k.str,q _ F H (Ext.refl sf) (.bl _)⟩
 | tuple xs=>
  cases eg
  obtain ⟨p,vs,rfl,_,h1,h2⟩:=aX.tup_of sf ra
  rw[<-hK] at h1
  exact wZ pins s σ H _ us Q I r ⟨p,vs,_,_,_,rfl,h1,rfl,k.tup,q _ F H (Ext.refl sf) (.bl _)⟩
 | list xs=>
  cases eg
  obtain ⟨p,vs,rfl,h1,h2⟩:=aX.lst_of sf ra
  rw[<-hK] at h1
  exact aF8 pins s σ H _ us Q I r ⟨p,vs,_,_,_,rfl,h1,rfl,k.lst,q _ F H (Ext.refl sf) (.bl _)⟩
theorem o9{T:String}{f:Sg->R PyData}(h:PE X e (tCB (aF9 c T) (eX (tV (a8 c) c E f) (eX (tC (.ty T)) gH)))):PD X c E e (e1 (fV T) f):=PE.imp h fun σ H Q zz0=>by
 obtain ⟨ρ,F,ab,k⟩:=zz0
 refine ⟨ρ,F,ab,(Rk.bind k).imp fun x _ q v F1 H1 s1 r1=>?_⟩
 show aF9 c T [v,.ty T] H1 Q
 cases x with
 | dict _=>exact q.elim
 | none=>exact ⟨F1,_,v,_,rfl,s1.fh,r1,rfl,fun w F' H' s r=>Rk.ok q w F' H' (s1.trans s) r⟩
 | bool _=>exact ⟨F1,_,v,_,rfl,s1.fh,r1,rfl,fun w F' H' s r=>Rk.ok q w F' H' (s1.trans s) r⟩
 | int _=>exact ⟨F1,_,v,_,rfl,s1.fh,r1,rfl,fun w F' H' s r=>Rk.ok q w F' H' (s1.trans s) r⟩
 | str _=>exact ⟨F1,_,v,_,rfl,s1.fh,r1,rfl,fun w F' H' s r=>Rk.ok q w F' H' (s1.trans s) r⟩
 | list _=>exact ⟨F1,_,v,_,rfl,s1.fh,r1,rfl,fun w F' H' s r=>Rk.ok q w F' H' (s1.trans s) r⟩
 | tuple _=>exact ⟨F1,_,v,_,rfl,s1.fh,r1,rfl,fun w F' H' s r=>Rk.ok q w F' H' (s1.trans s) r⟩
noncomputable def lF:PyData->PyData->R PyData
 | .str z,.str y=>match Builtin.Str.occurrences z y 0 z.length 1 with
  | i::_=>.ok (.int i)
  | []=>.bad
 | _,_=>.bad
theorem xU{f g:Sg->R PyData}(h:PE X e (tBM X.K "str" aC7 (tV (a8 c) c E f) (eX (tV (a8 c) c E g) gH)))(hs:∀ ρ x,f ρ=.ok x->∃ z,x=.str z):PD X c E e (e2 lF f g):=PE.imp h fun σ H Q ⟨ρ,F,ab,k⟩=>by
 refine ⟨ρ,F,ab,(Rk.bind k).imp fun x ex q v F1 H1 s1 r1=>?_⟩
 obtain ⟨z,rfl⟩:=hs ρ x ex
 obtain rfl:=aX.str_of r1
 refine ⟨rfl,ρ,F1,ab.ext s1,((Rk.bind q).ext s1).imp fun y _ q u F2 H2 s2 r2=>?_⟩
 cases y with
 | str y=>
  have q':Rk c E F H (match Builtin.Str.occurrences z y 0 z.length 1 with
   | i::_=>R.ok (PyData.int i)
   | []=>.bad) (fun d=>∀ v F' H',Ext F H F' H'->b6 c d v H F' H'->Q v H'):=q
  split at q'
  ·rename_i i rest ho
   obtain rfl:=aX.str_of r2
   exact ⟨z,y,i,rest,rfl,rfl,ho,Rk.ok q' _ F2 H2 (s1.trans s2) (.int _)⟩
  ·exact q'.elim
 | _=>exact q.elim
noncomputable def iF:Nat->List PyData->List PyData
 | _,[]=>[]
 | i,x::t=>.tuple [.int i,x]::iF (i+1) t
theorem iG:∀ (i:Nat) (xs:List PyData),(iF i xs).length=xs.length
 | _,[]=>rfl
 | i,x::t=>by rw[iF,List.length_cons,List.length_cons,iG]
theorem rJ:∀ (k i:Nat) (xs:List PyData),(iF k xs)[i]? = (xs[i]?).map fun x=>.tuple [.int ((k+i:Nat):Int),x]
 | k,i,[]=>by simp[iF]
 | k,0,x::t=>by simp[iF]
 | k,i+1,x::t=>by rw[iF,List.getElem?_cons_succ,List.getElem?_cons_succ,rJ,show k+1+i=k+(i+1) by omega]
noncomputable def wB:PyData->R (List PyData)
 | .list xs=>if xs.length<=16777216 then .ok (iF 0 xs) else .bad
 | .str z=>if z.cps.toList.length<=16777216 then .ok (iF 0 (z.cps.toList.map fun u=>.str ⟨#[u]⟩)) else .bad
 | _=>.bad
theorem aGA{K:Frag}{F B:Hp}{a:Addr}{vs:List V}{xs:List PyData}(hz:xs.length<=16777216)(hs:∀ H1,aF F H1->aF B H1->SqL K H1 a vs)(hd:DatVs K F vs xs):Yld K (Ite K a) F B (iF 0 xs) where
 len:=by rw[cY,iG];exact hz
 go:=fun i F1 H1 h1 h2 h3 hi=>by
  rw[iG] at hi
  exact ⟨vs,vs[i]'(by rw[hd.length];exact hi),hs H1 (fun x o z=>h2 x o (h1 x o z)) h3,by simp⟩
 yld:=fun i F1 H1 v H2 x h1 h2 h3 y e=>by
  obtain ⟨p,w,hp,rfl,rfl,y⟩:=y
  have q:=y vs (hs _ (fun x o z=>h2 x o (h1 x o z)) h3)
  obtain ⟨d,e2,r⟩:=hd.get q
  rw[rJ,e2] at e
  cases e
  refine ⟨_,Ext.new h2 hp,.tup (SqT.of aL) (.cons ?_ (.cons ((r.same h1).same (aF.upd (bG h2 hp))) .nil))⟩
  rw[Nat.zero_add];exact .int _
 stop:=fun F1 H1 h1 h2 h3=>⟨vs,hs H1 (fun x o z=>h2 x o (h1 x o z)) h3,by rw[hd.length,iG];exact Nat.le_refl _⟩
theorem aDQ{K:Frag}{F B:Hp}{z:Str}(hz:z.cps.toList.length<=16777216):Yld K (Ity z) F B (iF 0 (z.cps.toList.map fun u=>.str ⟨#[u]⟩)) where
 len:=by rw[cY,iG,List.length_map];exact hz
 go:=fun i F1 H1 h1 h2 h3 hi=>by
  rw[iG,List.length_map,Array.length_toList] at hi
  exact hi
 yld:=fun i F1 H1 v H2 x h1 h2 h3 y e=>by
  obtain ⟨p,u,hp,rfl,rfl,hu⟩:=y
  rw[rJ,List.getElem?_map,Array.getElem?_toList,hu] at e
  cases e
  refine ⟨_,Ext.new h2 hp,.tup (SqT.of aL) (.cons ?_ (.cons (.str _) .nil))⟩
  rw[Nat.zero_add];exact .int _
 stop:=fun F1 H1 h1 h2 h3=>by
  show (iF 0 _).length=z.cps.size
  rw[iG,List.length_map,Array.length_toList]
theorem aL3{tg:Expr}{f:Sg->R PyData}(hK:X.K=c.K)(h:PI X tg e (aHO X.K (eX (tV (b6 c) c E f) gH)))(h':PI X tg e (aC8 (eX (tV (b6 c) c E f) gH))):PI0 X c E tg e (e1 wB f):=PI.imp (PI.or h h') fun σ H Q ⟨ρ,F,ab,k⟩=>by
 have k':=Rk.bind k
 cases hf:f ρ with
 | bad=>rw[hf] at k';exact k'.elim
 | ex x=>rw[hf] at k';exact .inl ⟨ρ,F,ab,by rw[hf];exact k'⟩
 | ok d=>
  rw[hf] at k'
  have k2:=Rk.ok k'
  unfold wB at k2
  split at k2
  ·rename_i xs
   split at k2
   ·rename_i hz
    refine .inl ⟨ρ,F,ab,?_⟩
    rw[hf]
    intro v F' H' s r
    obtain ⟨p,vs,rfl,h1,h2⟩:=DatV.lst_of r
    refine ⟨p,rfl,⟨vs,?_⟩,?_⟩
    · rw [hK]; exact h1.same s.fh
    · rw [hK]; exact Rk.ok k2 _ F' H' s (aGA hz (fun H1 q _ => h1.same q) h2)
   ·exact k2.elim
  ·rename_i z
   split at k2
   ·rename_i hz
    refine .inr ⟨ρ,F,ab,?_⟩
    rw[hf]
    intro v F' H' s r
    obtain rfl:=DatV.str_of r
    exact ⟨z,rfl,Rk.ok k2 _ F' H' s (aDQ hz)⟩
   ·exact k2.elim
  ·exact k2.elim
end
end Fl
namespace Fl
open PySem L2 PyProof.Rows
noncomputable def f8(kvs:List (PyData×PyData))(k:PyData):Option PyData:=(kvs.find? fun p=>decide (p.1=k)).map (·.2)
noncomputable def dY(kvs:List (PyData×PyData))(k:PyData):Bool:=(f8 kvs k).isSome
noncomputable def putM(kvs:List (PyData×PyData))(k v:PyData):List (PyData×PyData):=if dY kvs k=true then kvs.map (fun p=>if p.1=k then (p.1,v) else p) else kvs++[(k,v)]
theorem z5{K:Frag}{F:Hp}{k:PyData}:∀ {es:List Ent} {kvs:List (PyData×PyData)},es.map (·.1)=kvs.map (·.1)->DatVs K F (es.map (·.2.2)) (kvs.map (·.2))->
  (atE es k=none/\f8 kvs k=none)\/∃ v d,atE es k=some v/\f8 kvs k=some d/\DatV K F v d
 | [],[],_,_=>.inl ⟨rfl,rfl⟩
 | [],_::_,h,_=>by cases h
 | _::_,[],h,_=>by cases h
 | e::es,p::kvs,h,r=>by
  rw[List.map_cons,List.map_cons] at h r
  injection h with h1 h2
  obtain ⟨v,t,e1,r1,r2⟩:=r.cons_of
  rw[List.cons.injEq] at e1
  obtain ⟨rfl,rfl⟩:=e1
  have ih:=z5 (k:=k) h2 r2
  unfold atE f8 at ih ⊢
  rw[List.find?_cons,List.find?_cons,h1]
  by_cases q:p.1=k
  · rw [decide_eq_true q]; exact .inr ⟨_, _, rfl, rfl, r1⟩
  · rw [decide_eq_false q]; exact ih
theorem MapRel.get{K:Frag}{F:Hp}{es:List Ent}{kvs:List (PyData×PyData)}(m:MapRel K F es kvs)(k:PyData):(atE es k=none/\f8 kvs k=none)\/∃ v d,atE es k=some v/\f8 kvs k=some d/\DatV K F v d:=z5 m.k1 m.vs
theorem MapRel.has{K:Frag}{F:Hp}{es:List Ent}{kvs:List (PyData×PyData)}(m:MapRel K F es kvs)(k:PyData):(atE es k).isSome=dY kvs k:=by
 unfold dY
 rcases m.get k with ⟨a,b⟩|⟨v,d,a,b,_⟩<;>rw[a,b]<;>rfl
theorem xV{kvs:List (PyData×PyData)}{k:PyData}:dY kvs k=true↔k∈kvs.map (·.1):=by
 unfold dY f8
 rw[Option.isSome_map]
 induction kvs with
 | nil=>simp
 | cons p t ih=>
  rw[List.find?_cons]
  by_cases q:p.1=k
  ·rw[decide_eq_true q];simp[q]
  ·rw[decide_eq_false q,ih,List.map_cons]
   exact ⟨fun z=>List.mem_cons_of_mem _ z,fun z=>(List.mem_cons.mp z).resolve_left (fun w=>q w.symm)⟩
theorem aDR{kvs:List (PyData×PyData)}{k v:PyData}:(putM kvs k v).map (·.1)=if dY kvs k=true then kvs.map (·.1) else kvs.map (·.1)++[k]:=by
 unfold putM
 cases h:dY kvs k with
 | true=>
  rw[if_pos rfl,if_pos rfl,List.map_map]
  refine List.map_congr_left fun p _=>?_
  show (if p.1=k then (p.1,v) else p).1=p.1
  split<;>rfl
 | false=>rw[if_neg (by decide),if_neg (by decide),List.map_append];rfl
theorem z6{K:Frag}{F:Hp}{k d:PyData}{v:V}(r:DatV K F v d):∀ {es:List Ent} {kvs:List (PyData×PyData)},es.map (·.1)=kvs.map (·.1)->DatVs K F (es.map (·.2.1)) (kvs.map (·.1))->DatVs K F (es.map (·.2.2)) (kvs.map (·.2))->
  (es.map fun e=>if e.1=k then (e.1,e.2.1,v) else e).map (·.1)=(kvs.map fun p=>if p.1=k then (p.1,d) else p).map (·.1) /\
  DatVs K F ((es.map fun e=>if e.1=k then (e.1,e.2.1,v) else e).map (·.2.1)) ((kvs.map fun p=>if p.1=k then (p.1,d) else p).map (·.1)) /\
  DatVs K F ((es.map fun e=>if e.1=k then (e.1,e.2.1,v) else e).map (·.2.2)) ((kvs.map fun p=>if p.1=k then (p.1,d) else p).map (·.2))
 | [],[],_,_,_=>⟨rfl,.nil,.nil⟩
 | [],_::_,h,_,_=>by cases h
 | _::_,[],h,_,_=>by cases h
 | e::es,p::kvs,h,rk,rv=>by
  rw[List.map_cons,List.map_cons] at h rk rv
  injection h with h1 h2
  obtain ⟨_,_,e1,r1,r2⟩:=rk.cons_of
  rw[List.cons.injEq] at e1
  obtain ⟨rfl,rfl⟩:=e1
  obtain ⟨_,_,e1,q1,q2⟩:=rv.cons_of
  rw[List.cons.injEq] at e1
  obtain ⟨rfl,rfl⟩:=e1
  obtain ⟨a1,a2,a3⟩:=z6 r h2 r2 q2
  simp only[List.map_cons]
  rw[h1,a1]
  by_cases q:p.1=k
  · rw [if_pos q, if_pos q]; exact ⟨rfl, .cons r1 a2, .cons r a3⟩
  · rw [if_neg q, if_neg q]; exact ⟨by rw [h1], .cons r1 a2, .cons q1 a3⟩
theorem MapRel.put{K:Frag}{F:Hp}{es:List Ent}{kvs:List (PyData×PyData)}{k d:PyData}{kv v:V}(m:MapRel K F es kvs)(rk:DatV K F kv k)(r:DatV K F v d):MapRel K F (jL es k kv v) (putM kvs k d):=by
 have hh:=m.has k
 have nd:((putM kvs k d).map (·.1)).Nodup:=by
  rw[aDR]
  cases h:dY kvs k with
  | true=>rw[if_pos rfl];exact m.nd
  | false=>
   rw[if_neg (by decide),List.nodup_append]
   refine ⟨m.nd,by simp,fun a ha b hb z=>?_⟩
   rw[List.mem_singleton] at hb
   subst hb z
   rw[xV.mpr ha] at h
   cases h
 unfold jL
 rw[hh]
 unfold putM at nd ⊢
 cases h:dY kvs k with
 | true=>
  rw[h,if_pos rfl] at nd
  rw[if_pos rfl,if_pos rfl]
  obtain ⟨a1,a2,a3⟩:=z6 (k:=k) r m.k1 m.k2 m.vs
  exact ⟨a1,a2,a3,nd⟩
 | false=>
  rw[h,if_neg (by decide)] at nd
  rw[if_neg (by decide),if_neg (by decide)]
  refine ⟨by rw[List.map_append,List.map_append,m.k1];rfl,?_,?_,nd⟩
  ·rw[List.map_append,List.map_append];exact m.k2.append (.cons rk .nil)
  ·rw[List.map_append,List.map_append];exact m.vs.append (.cons r .nil)
theorem kA{K:Frag}{F:Hp}:∀ {es:List Ent} {kvs:List (PyData×PyData)},es.map (·.1)=kvs.map (·.1)->DatVs K F (es.map (·.2.1)) (kvs.map (·.1))->∀ e∈es,DatV K F e.2.1 e.1
 | [],_,_,_,e,he=>by cases he
 | _::_,[],h,_,_,_=>by cases h
 | e0::es,p::kvs,h,rk,e,he=>by
  rw[List.map_cons,List.map_cons] at h rk
  injection h with h1 h2
  obtain ⟨_,_,e1,r1,r2⟩:=rk.cons_of
  rw[List.cons.injEq] at e1
  obtain ⟨rfl,rfl⟩:=e1
  rcases List.mem_cons.mp he with z|z
  · subst z; rw [h1]; exact r1
  · exact kA h2 r2 e z
section
variable{X:Cx}{c:Ct}{E:XK}{e a b:Expr}{st:Stmt}{pos:Pos}
theorem aBW{ρ:Sg}{σ:L2.St}{F H:Hp}{i:Nat}{kvs:List (PyData×PyData)}{k:PyData}{kv:V}(hK:X.K=c.K)(hW:X.w=c.w)(ab:Ab c ρ σ F H)(hi:ρ[i]? = some (some (.m kvs)))(hk:DatV c.K F kv k)(hs:cO k (kvs.map (·.1))=true) :
  ∃ p es,σ[i]? = some (some (.ref p))/\DicAt X H p es k kv/\MapRel c.K F es kvs:=by
 obtain ⟨v,hp,p,es,rfl,⟨ep,h2⟩,h3,h4,h5⟩:=ab.slot i _ hi
 refine ⟨p,es,hp,⟨⟨ep,by rw[hW];exact h2⟩,fun e he=>by rw[hK];exact (kA h5.k1 h5.k2 e he).same ab.fh,by rw[h5.k1];exact h5.nd,by rw[hK];exact hk.same ab.fh,by rw[h5.k1];exact hs⟩,h5⟩
theorem aDS{ρ:Sg}{σ:L2.St}{F H:Hp}{i:Nat}{kvs:List (PyData×PyData)}{k:PyData}{kv:V}(hK:X.K=c.K)(hW:X.w=c.g.w)(ab:Ab c ρ σ F H)(hi:ρ[i]? = some (some (.f kvs)))(hk:DatV c.K F kv k)(hs:cO k (kvs.map (·.1))=true) :
  ∃ p es,σ[i]? = some (some (.ref p))/\DicAt X H p es k kv/\MapRel c.K F es kvs:=by
 obtain ⟨v,hp,p,es,rfl,⟨ep,h2⟩,h5⟩:=ab.slot i _ hi
 refine ⟨p,es,hp,⟨⟨ep,by rw[hW];exact ab.fh _ _ h2⟩,fun e he=>by rw[hK];exact (kA h5.k1 h5.k2 e he).same ab.fh,by rw[h5.k1];exact h5.nd,by rw[hK];exact hk.same ab.fh,by rw[h5.k1];exact hs⟩,h5⟩
def aHU(w:World):TE:=fun _ H Q=>∀ p,H p=none->Q (.ref p) (upd H p (cD w p [] 0))
theorem z7:PE X (.Dict [] [] pos) (aHU X.w):=fun pins s σ H Q I h=>
 wpAny_Dict_empty ⟨.ref s.heap.objs.size,_,I.laid (a:=s.heap.objs.size) (o:=cD X.w s.heap.objs.size [] 0) (t':=s.toks) (fun _ _ q=>Heap.get?_push_of_some _ q) (Nat.le_refl _)
  (gQ (beq_eq_false_iff_ne.mpr (Ne.symm (Nat.ne_of_lt I.big))) ⟨_,#[],Heap.get?_push_size _ rfl,⟨rfl,rfl,rfl⟩,rfl,.nil⟩),rfl,h _ (I.hok.fresh (Nat.le_refl _))⟩
noncomputable def nS(i:Nat):Sg->R Fw:=fun ρ=>.ok (.nx (ρ.set i (some (.m []))))
theorem z8{i:Nat}{w:World}(hW:w=c.w)(h:PS X st (kB (aHU w) (iA i))):PSf X c E st (nS i):=PS.imp h fun D σ H ⟨ρ,F,ab,k⟩=>fun p hp=>by
 subst hW
 exact Rk.ok k _ F _ (bV F) (ab.setM (Ext.own ab.fh hp) hp aL (bG ab.fh hp) ⟨rfl,.nil,.nil,List.nodup_nil⟩)
noncomputable def mF(neg:Bool)(i:Nat)(f:Sg->R PyData):Sg->R PyData:=fun ρ=>(f ρ).bind fun k=>match ρ[i]? with
 | some (some (.m kvs))=>if cO k (kvs.map (·.1))=true then .ok (.bool (if neg=true then !dY kvs k else dY kvs k)) else .bad
 | some (some (.f kvs))=>if cO k (kvs.map (·.1))=true then .ok (.bool (if neg=true then !dY kvs k else dY kvs k)) else .bad
 | _=>.bad
def aBX(X:Cx)(neg:Bool):R2:=fun y x H Q=>∃ p es k,x=.ref p/\DicAt X H p es k y/\Q (.bl (if neg=true then !(atE es k).isSome else (atE es k).isSome)) H
theorem z9(hu:X.A.units+64 < cLine):OpR X (compareOp .In) (aBX X false):=by
 intro pins s σ H y x v u Q I ry rx h
 obtain ⟨p,es,k,rfl,D,q⟩:=h
 cases (show u=Value.ref p from rx)
 exact aLX hu D I ry fun s' I'=>⟨.bl _,H,I',rfl,q⟩
theorem aGB(hu:X.A.units+64 < cLine):OpR X (compareOp .NotIn) (aBX X true):=by
 intro pins s σ H y x v u Q I ry rx h
 obtain ⟨p,es,k,rfl,D,q⟩:=h
 cases (show u=Value.ref p from rx)
 exact aIW hu D I ry fun s' I'=>⟨.bl _,H,I',rfl,q⟩
theorem aGC{i:Nat}{neg:Bool}{f:Sg->R PyData}(hK:X.K=c.K)(hW:X.w=c.w)(hg:c.w=c.g.w){σ:L2.St}{H:Hp}{Q:VK}(h:tV (b6 c) c E (mF neg i f) σ H Q):tOp (aBX X neg) (tV (b6 c) c E f) (jI i) σ H Q:=by
 obtain ⟨ρ,F,ab,k⟩:=h
 refine ⟨ρ,F,ab,(Rk.bind k).imp fun d _ q v F1 H1 s1 r1=>?_⟩
 split at q
 ·rename_i kvs hi
  split at q
  ·rename_i hs
   obtain ⟨p,es,hp,D,m⟩:=aBW hK hW (ab.ext s1) hi r1 hs
   refine ⟨_,hp,p,es,d,rfl,D,?_⟩
   rw[m.has]
   exact Rk.ok q _ F1 H1 s1 (.bl _)
  ·exact q.elim
 ·rename_i kvs hi
  split at q
  ·rename_i hs
   obtain ⟨p,es,hp,D,m⟩:=aDS hK (hW.trans hg) (ab.ext s1) hi r1 hs
   refine ⟨_,hp,p,es,d,rfl,D,?_⟩
   rw[m.has]
   exact Rk.ok q _ F1 H1 s1 (.bl _)
  ·exact q.elim
 ·exact q.elim
theorem xW{i:Nat}{neg:Bool}{f:Sg->R PyData}(hK:X.K=c.K)(hW:X.w=c.w)(h:PT X e (aAZ (tOp (aBX X neg) (tV (b6 c) c E f) (jI i))))(hg:c.w=c.g.w:=by rfl):PTf X c E e (e1 asB (mF neg i f)):=PT.imp h fun σ H Q q=>aGC hK hW hg (p7 q)
noncomputable def sR(i:Nat)(f:Sg->R PyData):Sg->R PyData:=fun ρ=>match ρ[i]? with
 | some (some (.m kvs))=>(f ρ).bind fun k=>if cO k (kvs.map (·.1))=true then match f8 kvs k with
  | some v=>.ok v
  | none=>.bad else .bad
 | some (some (.f kvs))=>(f ρ).bind fun k=>if cO k (kvs.map (·.1))=true then match f8 kvs k with
  | some v=>.ok v
  | none=>.bad else .bad
 | _=>.bad
def aHV(X:Cx)(td ty:TE):TE:=fun σ H Q=>td σ H fun x H1=>ty σ H1 fun y H2=>∃ p es k v,x=.ref p/\DicAt X H2 p es k y/\atE es k=some v/\Q v H2
theorem aI7{o i:Expr}{td ty:TE}(hu:X.A.units+64 < cLine)(ho:PE X o td)(hi:PE X i ty)(hs:aLS i):PE X (.Subscript o i pos) (aHV X td ty):=by
 intro pins s σ H Q I h
 refine aIO PySem.F.slot_dict_getitem.lookup hs (thn (ho pins s σ H _ I h) fun u s1 ⟨x,H1,I1,rx,q1⟩=>thn (hi pins s1 σ H1 _ I1 q1) fun iv s2 zz0=>?_)
 obtain ⟨y,H2,I2,ry,p,es,k,v,ex,D,hv,q2⟩:=zz0
 subst ex
 obtain rfl:u=Value.ref p:=rx
 obtain ⟨ep,hO⟩:=D.o
 obtain ⟨⟨_,o',ar,h1,h2,_⟩,_,_⟩:=(show b5 X.prog X.w H2 s2.heap p (cD X.w p es ep) from I2.hok p _ hO)
 exact ⟨⟨o',h1,h2.1⟩,aIX hu D I2 ry hv fun w' s3 I3 rw'=>⟨v,H2,I3,rw',q2⟩⟩
theorem aI8{i:Nat}{f:Sg->R PyData}(hK:X.K=c.K)(hW:X.w=c.w)(h:PE X e (aHV X (jI i) (tV (b6 c) c E f)))(hg:c.w=c.g.w:=by rfl):PD X c E e (sR i f):=PE.imp h fun σ H Q ⟨ρ,F,ab,k⟩=>by
 unfold sR at k
 split at k
 ·rename_i kvs hi
  obtain ⟨_,hp,p,es,rfl,_⟩:=ab.slot i _ hi
  refine ⟨_,hp,ρ,F,ab,(Rk.bind k).imp fun d _ q v F1 H1 s1 r1=>?_⟩
  split at q
  ·rename_i hs
   obtain ⟨p',es',hp',D,m⟩:=aBW hK hW (ab.ext s1) hi r1 hs
   rw[hp] at hp'
   cases hp'
   split at q
   ·rename_i w hw
    rcases m.get d with ⟨_,z⟩|⟨v',d',h1,h2,h3⟩
    ·rw[hw] at z;cases z
    ·rw[hw] at h2
     cases h2
     exact ⟨p,es',d,v',rfl,D,h1,Rk.ok q v' F1 H1 s1 h3⟩
   ·exact q.elim
  ·exact q.elim
 ·rename_i kvs hi
  obtain ⟨_,hp,p,es,rfl,_⟩:=ab.slot i _ hi
  refine ⟨_,hp,ρ,F,ab,(Rk.bind k).imp fun d _ q v F1 H1 s1 r1=>?_⟩
  split at q
  ·rename_i hs
   obtain ⟨p',es',hp',D,m⟩:=aDS hK (hW.trans hg) (ab.ext s1) hi r1 hs
   rw[hp] at hp'
   cases hp'
   split at q
   ·rename_i w hw
    rcases m.get d with ⟨_,z⟩|⟨v',d',h1,h2,h3⟩
    ·rw[hw] at z;cases z
    ·rw[hw] at h2
     cases h2
     exact ⟨p,es',d,v',rfl,D,h1,Rk.ok q v' F1 H1 s1 h3⟩
   ·exact q.elim
  ·exact q.elim
 ·exact k.elim
noncomputable def kH(i:Nat)(f g:Sg->R PyData):Sg->R Fw:=fun ρ=>(g ρ).bind fun v=>match ρ[i]? with
 | some (some (.m kvs))=>(f ρ).bind fun k=>if cO k (kvs.map (·.1))=true/\kvs.length<=16777216 then .ok (.nx (ρ.set i (some (.m (putM kvs k v))))) else .bad
 | _=>.bad
def aHW(X:Cx):aAV:=fun o i v H Q=>∃ p es k,o=.ref p/\DicAt X H p es k i/\es.length<=sizeLine/\∀ ep,Q (upd H p (cD X.w p (jL es k i v) ep))
theorem rK(hu:X.A.units+64 < cLine):aKZ X (aHW X):=by
 intro pins s σ H o i v ov iv u Q I ro ri rv h
 obtain ⟨p,es,k,rfl,D,hz,q⟩:=h
 cases (show ov=Value.ref p from ro)
 exact aIY hu D I ri rv hz fun ep s' I'=>⟨_,I',q ep⟩
theorem uA{i:Nat}{f g:Sg->R PyData}(hK:X.K=c.K)(hW:X.w=c.w)(h:PS X st (kB (tV (b6 c) c E g) (aK1 (jI i) (tV (b6 c) c E f) (aHW X)))):PSf X c E st (kH i f g):=PS.imp h fun D σ H ⟨ρ,F,ab,k⟩=>by
 refine ⟨ρ,F,ab,(Rk.bind k).imp fun x _ q v F1 H1 s1 r1=>?_⟩
 split at q
 ·rename_i kvs hi
  have ab1:=ab.ext s1
  obtain ⟨_,hp,p,es,rfl,_⟩:=ab1.slot i _ hi
  refine ⟨_,hp,ρ,F1,ab1,((Rk.bind q).ext s1).imp fun d _ q u F2 H2 s2 r2=>?_⟩
  have ab2:=ab1.ext s2
  split at q
  ·rename_i hs
   obtain ⟨p',es',hp',D',m⟩:=aBW hK hW ab2 hi r2 hs.1
   rw[hp] at hp'
   cases hp'
   refine ⟨p,es',d,rfl,D',?_,?_⟩
   ·have:es'.length=kvs.length:=by have:=congrArg List.length m.k1;simpa using this
    rw[this,cY];exact hs.2
   ·intro ep
    rw[hW]
    exact Rk.ok q σ F2 _ (s1.trans s2).ff (ab2.putM hi hp (m.put r2 (DatV.same s2.ff r1)))
  ·exact q.elim
 ·exact q.elim
end
end Fl
namespace Fl
open PySem L2 PyProof.Rows
section
variable{X:Cx}{c:Ct}{E:XK}{e a b:Expr}{st:Stmt}{pos p2:Pos}
def xX(fs:PyData->Sg->Option Sg)(f:Sg->R PyData):Sg->R Fw:=fun ρ=>(f ρ).bind fun x=>(xP (fs x ρ)).bind fun ρ'=>.ok (.nx ρ')
theorem aL4{g:TG}{fs:PyData->Sg->Option Sg}{is:List Nat}{f:Sg->R PyData}(hg:Tg c g fs is)(h:PS X st (kB (tV (b6 c) c E f) g)):PSf X c E st (xX fs f):=PS.imp h fun D σ H zz0=>by
 obtain ⟨ρ,F,ab,k⟩:=zz0
 refine ⟨ρ,F,ab,(Rk.bind k).imp fun x _ q v F1 H1 s1 r1=>?_⟩
 cases h1:fs x ρ with
 | none=>rw[h1] at q;exact q.elim
 | some ρ'=>
  rw[h1] at q
  exact hg v x ρ ρ' σ F1 H1 _ (ab.ext s1) r1 h1 fun σ' _ _ ab'=>Rk.ok q σ' F1 H1 s1.ff ab'
noncomputable def aL5:PyData->R PyData
 | .str z=>if z.length<=16777216 then .ok (.str ⟨z.cps.toList.reverse.toArray⟩) else .bad
 | _=>.bad
def aPD(f:Sg->R PyData)(g:Sg->R (Option Int)):Sg->R PyData:=fun ρ=>(f ρ).bind fun x=>(g ρ).bind fun o=>if o=some (-1) then aL5 x else .bad
end
end Fl
namespace Fl
open PySem L2 PyProof.Rows
def wC(K:Frag)(T:Hp):Sp:=fun vs H Q _=>∃ (a:Addr) (ns:List Int),vs=[.ref a]/\ns.length<=63/\aF T H/\SqL K H a (ns.map V.int)/\∀ H',Q (.bl true) H'
theorem lG{K:Frag}{H:Hp}:∀ (ns:List Int),DatVs K H (ns.map V.int) (ns.map PyData.int)
 | []=>.nil
 | n::t=>.cons (.int n) (lG t)
theorem aN4(P:Program)(w:World)(H:Hp)(s:Shared)(e:Value)(s':Shared)(h:CXe P w [] H s (fun _ _ _=>False) e s'):False:=by
 obtain ⟨_,_,_,_,_,_,_,_,_,_,_,q⟩:=h
 exact q
theorem aL6{l:PySem.W.OpenLaw}{k:Nat}{q:Program}{loose:List Str}{XP:(Str->Option Value)->Heap->Prop}{YP:World->Heap->Prop}{d:DefRec}{K:Params->Frag}{x:Str}
  (hn:l.most=some 63) (hdf:d.params.defaults=[]) (hr:Room k callerA)
  (hY:∀ (w:World) (h:Heap),YP w h->(K w.params).In h)
  (F:∀ (w:World) (mg:Str->Option Value) (fa:Addr) (h:Heap),(K w.params).In h->h.Ns mainGlobals mg->mg d.name=some (.ref fa)->
   ∃ fd:FuncData,(∀ (s:Shared) (u:Value),BindsTo s fd ⟨[u],[]⟩ [(x,u)]) /\
    ∀ base:Heap,(K w.params).In base->base.Ns mainGlobals mg->FnOk l.prog w (K w.params) mg base (CXe l.prog w) k fa fd [x] (wC (K w.params) fun _=>none)) :
  PySem.W.WalkO q loose XP YP l.row.toRowW d [] (fun f vs=>PySem.call f vs):=
 walk_of (K:=K) (CX:=fun w=>CXe l.prog w) (sp:=fun w=>wC (K w.params) fun _=>none) hn (by decide) hdf hr hY F (fun w H a ns hl hO hS=>⟨a,ns,rfl,hl,fun _ _ z=>(nomatch z),hS,fun _=>rfl⟩) fun w H s e s' z=>aN4 _ w H s e s' z
end Fl
namespace Fl
open PySem L2 PyProof.Rows
variable{X:Cx}{c:Ct}{E:XK}{e:Expr}
noncomputable def d2(G:Int->Int->Int):PyData->PyData->R PyData
 | .int i,.int j=>.ok (.int (G i j))
 | _,_=>.bad
noncomputable def d1(G:Int->Int):PyData->R PyData
 | .int i=>.ok (.int (G i))
 | _=>.bad
end Fl
namespace L2
open PySem PyProof.Rows
variable{X:Cx}
end L2
namespace Fl
open PySem L2 PyProof.Rows
variable{X:Cx}{c:Ct}{E:XK}{e:Expr}
end Fl
namespace Fl
open PySem L2 PyProof.Rows
variable{X:Cx}{c:Ct}{E:XK}{e:Expr}{st:Stmt}
end Fl
namespace L2
open PySem PyProof.Rows
theorem aI9{prog:Program}{w:World}{A:Around}{E:Value->Shared->Prop}{s:Shared}{t b:Addr}{vs ws:List Value}{Q:Value->Shared->Prop}(ht:PlainL s.heap t vs.toArray)(hb:PlainL s.heap b ws.toArray)
  (h2:Q (.ref s.heap.objs.size) {s with heap:=s.heap.push {cls:=.type "list",data:=.seq (vs++ws).toArray}})
  (hsz:vs.length+ws.length<=sizeLine):wpAny (model prog w) A (binaryOp .Add (.ref t) (.ref b)) Q E s:=by
 obtain ⟨⟨cls,dd,data,sl⟩,n,ho,hc,_,hd⟩:=id ht
 obtain ⟨⟨cls2,dd2,data2,sl2⟩,n2,ho2,hc2,_,hd2⟩:=id hb
 simp only at hc hd hc2 hd2
 subst hc hd hc2 hd2
 have e:vs.toArray++ws.toArray=(vs++ws).toArray:=by simp
 refine concat_meets ⟨_,ho,rfl⟩ ⟨_,ho2,rfl⟩ noFill_list_add seq_list_add PySem.F.slot_list_add PySem.F.entry_list_add (PySem.F.args_list_add_2 _ _)
   (list_addW t b vs.toArray ws.toArray n n2 dd dd2 sl sl2 (by rw[List.size_toArray,List.size_toArray];exact hsz)) ⟨ho,ho2,?_⟩
 rw[e]
 exact h2
end L2
namespace Fl
open PySem L2 PyProof.Rows
section
variable{X:Cx}{c:Ct}{E:XK}{e a b:Expr}{pos:Pos}
noncomputable def pA:PyData->PyData->R (List PyData)
 | .list xs,.list ys=>if xs.length+ys.length<=sizeLine then .ok (xs++ys) else .bad
 | _,_=>.bad
theorem aJA(hK:X.K=c.K):OpR X (binaryOp .Add) (r2D (a8 c) (a8 c) (rF c) pA):=by
 intro pins s σ H v u x y Q I rx ry h
 obtain ⟨H0,H1,F,a,b,d,sf,ra,rb,eg,q⟩:=h
 unfold pA at eg
 split at eg
 ·rename_i xs ys
  split at eg
  ·rename_i hz
   cases eg
   obtain ⟨pa,vs,rfl,ha,da⟩:=aX.lst_of sf ra
   obtain ⟨pb,us,rfl,hb,db⟩:=aX.lst_of sf rb
   rw[<-hK] at ha hb
   cases rx
   cases ry
   obtain ⟨its,r1,p1,_⟩:=I.list ha
   obtain ⟨its2,r2,p2,_⟩:=I.list hb
   have hz':vs.length+us.length<=sizeLine:=by rw[da.length,db.length];exact hz
   have hp:=I.fresh
   refine aI9 p1 p2 ?_ (by rw[<-r1.length,<-r2.length];exact hz')
   exact ⟨.ref _,_,I.lnew (t':=s.toks) (r1.append r2) (by rw[List.length_append];exact hz'),rfl,q _ F _ (Ext.own sf hp) ⟨_,_,rfl,hp,aL,bG sf hp,da.append db⟩⟩
  ·cases eg
 ·cases eg
theorem aDT:cE pA:=by
 intro a b e h
 unfold pA at h
 split at h<;>(try split at h)<;>cases h
theorem aL7(hK:X.K=c.K){fa fb:Sg->R PyData}(ha:PR X c E a fa)(hb:PR X c E b fb):PN X c E (.BinOp a .Add b pos) (e2 pA fa fb):=
 PE.imp (aHK (aJA hK) ha hb) fun σ H Q h=>tV2 sK aDT (o3 c) (aN1 c) h
end
end Fl
namespace Fl
open PySem L2 PyProof.Rows
theorem kN{H:Hp}{p:Addr}{a b:HO}:upd (upd H p a) p b=upd H p b:=by
 funext x
 by_cases q:x=p
 · subst q; rw [aL, aL]
 · rw [aD q, aD q, aD q]
section
variable{X:Cx}{pins:List (Addr×Obj)}{σ:L2.St}{H:Hp}{s:Shared}{a:Addr}{es:List Ent}{k:PyData}{kv v:V}{ku u:Value}{A:Around}{E:Value->Shared->Prop}
theorem aBY{A:Around}(hu:A.units+64 < cLine):(gJ X.prog X.w).room A:=by show A.units+9 < cLine;omega
theorem aJB{Q:Unit->Shared->Prop}(hu:A.units+64 < cLine)(D:DicAt X H a es k kv)(I:Inv X pins σ H s)(rk:a9 kv ku)(rv:a9 v u)(hz:es.length<=sizeLine)(h:∀ ep s',Inv X pins σ (upd H a (cD X.w a (jL es k kv v) ep)) s'->Q () s') :
  wpAny (model X.prog X.w) A (dictSet a ku u) Q E s:=by
 obtain ⟨hd,⟨b,xs,rfl,rfl,hx,hk,dd⟩|⟨kk,xs,rfl,rfl,hx,hk,dd⟩⟩:=D.cases I rk
 ·have hl:xs.length<=sizeLine:=by rw[<-Paired.length hx];exact hz
  refine wpAny_dictSet_heap (a:=b) (aBY hu) hk dd (fun h' dd' hs=>?_) hl
  obtain ⟨q',ar,ep,hq,h2,h3,h4,_,h5⟩:=dd'
  obtain ⟨ep0,hO⟩:=D.o
  refine h ep _ (kQ I (by rw[hO];exact True.intro) hs ⟨q',hq⟩ (gQ hd ⟨q',ar,hq,h2,h3,?_⟩))
  rw[h4]
  exact nI (aBN rv hx)
 ·have hl:xs.length<=sizeLine:=by rw[<-Paired.length hx];exact hz
  refine wpAny_dictSet_pairs hk dd (fun h' dd' hs=>?_) hl
  obtain ⟨q',ar,ep,hq,h2,h3,h4,h5,_⟩:=dd'
  obtain ⟨ep0,hO⟩:=D.o
  refine h ep _ (kQ I (by rw[hO];exact True.intro) hs ⟨q',hq⟩ (gQ hd ⟨q',ar,hq,h2,h3,?_⟩))
  exact nJ (aBO rv hx) h5 fun en hen=>h4 en (by simpa using hen)
end
abbrev TP:=L2.St->Hp->(List (V×V)->Hp->Prop)->Prop
def aL8(p:V×V)(u:Value×Value):Prop:=a9 p.1 u.1/\a9 p.2 u.2
def PPr(X:Cx)(keys:List (Option Expr))(vals:List Expr)(t:TP):Prop:=∀ (pos:Pos) (pins:List (Addr×Obj)) (s:Shared) (σ:L2.St) (H:Hp) (Q:List (V×V)->Hp->Prop),Inv X pins σ H s->t σ H Q->
 wpAny (model X.prog X.w) X.A (evalPairs (pairTrees keys vals X.env pos)) (fun vs s'=>∃ ps H',Inv X pins σ H' s'/\Paired aL8 ps vs/\Q ps H') X.xe s
def aN5:TP:=fun _ H Q=>Q [] H
def aL9(tk tv:TE)(t:TP):TP:=fun σ H Q=>tk σ H fun x H1=>tv σ H1 fun y H2=>t σ H2 fun ps H3=>Q ((x,y)::ps) H3
section
variable{X:Cx}{c:Ct}{E:XK}{e a b:Expr}{st:Stmt}{pos:Pos}
theorem aMA:PPr X [] [] aN5:=fun pos pins s σ H Q I h=>evalPairs_nil ⟨[],H,I,.nil,h⟩
theorem aJC{k v:Expr}{ks:List (Option Expr)}{vs:List Expr}{tk tv:TE}{t:TP}(hk:PE X k tk)(hv:PE X v tv)(hr:PPr X ks vs t):PPr X (some k::ks) (v::vs) (aL9 tk tv t):=by
 intro pos pins s σ H Q I h
 rw[pairTrees.eq_1]
 refine evalPairs_cons (thn (hk pins s σ H _ I h) fun ku s1 zz0=>?_)
 obtain ⟨x,H1,I1,r1,q1⟩:=zz0
 refine wpAny_bind (thn (hv pins s1 σ H1 _ I1 q1) fun vu s2 zz0=>?_)
 obtain ⟨y,H2,I2,r2,q2⟩:=zz0
 refine wpAny_bind (wpAny_standAt (wpAny_pure ?_))
 exact thn (hr pos pins s2 σ H2 _ I2 q2) fun vs s3 ⟨ps,H3,I3,r3,q3⟩=>⟨(x,y)::ps,H3,I3,.cons ⟨r1,r2⟩ r3,q3⟩
noncomputable def dH:List (PyData×PyData)->List (PyData×PyData)->R (List (PyData×PyData))
 | acc,[]=>.ok acc
 | acc,(k,v)::t=>if cO k (acc.map (·.1))=true/\acc.length<=16777216 then dH (putM acc k v) t else .bad
def aGD(K:Frag)(F:Hp)(p:V×V)(d:PyData×PyData):Prop:=DatV K F p.1 d.1/\DatV K F p.2 d.2
theorem aDU{pins:List (Addr×Obj)}{σ:L2.St}{p:Addr}{F:Hp}(hu:X.A.units+64 < cLine)(kvs:List (PyData×PyData)):∀ (ps:List (V×V)) (vs:List (Value×Value)) (acc res:List (PyData×PyData)) (es:List Ent) (ep:Nat) (H:Hp) (s:Shared) (Q:Shared->Prop),
  Inv X pins σ H s->aF F H->F p=none->H p=some (cD X.w p es ep)->MapRel X.K F es acc->Paired (aGD X.K F) ps kvs->Paired aL8 ps vs->dH acc kvs=.ok res->
  (∀ es' ep' s',Inv X pins σ (upd H p (cD X.w p es' ep')) s'->MapRel X.K F es' res->Q s')->wpAny (model X.prog X.w) X.A (storeAll p vs) (fun _ s=>Q s) X.xe s:=by
 induction kvs with
 | nil=>
  intro ps vs acc res es ep H s Q I sf hf hp m d r e q
  cases d
  cases r
  cases e
  have hs:storeAll p []=pure PUnit.unit:=by unfold storeAll;rw[List.forIn_nil]
  rw[hs]
  refine wpAny_pure (q es ep s ?_ m)
  have:upd H p (cD X.w p es ep)=H:=by
   funext x
   by_cases z:x=p
   ·subst z;rw[aL,hp]
   ·rw[aD z]
  rw[this];exact I
 | cons kv t ih=>
  obtain ⟨k,v⟩:=kv
  intro ps vs acc res es ep H s Q I sf hf hp m d r e q
  cases d with
  | @cons x _ ps _ d ds=>
   cases r with
   | @cons _ u _ vs r rs=>
    unfold dH at e
    split at e
    ·rename_i hs
     have D:DicAt X H p es k x.1:=⟨⟨ep,hp⟩,fun e he=>(kA m.k1 m.k2 e he).same sf,by rw[m.k1];exact m.nd,d.1.same sf,by rw[m.k1];exact hs.1⟩
     have hl:es.length<=sizeLine:=by
      have:es.length=acc.length:=by simpa using congrArg List.length m.k1
      rw[this,cY];exact hs.2
     have hst:storeAll p (u::vs)=(do dictSet p u.1 u.2;storeAll p vs):=by
      unfold storeAll
      rw[List.forIn_cons]
      simp
     rw[hst]
     refine wpAny_bind (aJB hu D I r.1 r.2 hl fun ep1 s' I'=>?_)
     have m':=m.put d.1 d.2
     have sf':aF F (upd H p (cD X.w p (jL es k x.1 x.2) ep1)):=fun a o z=>by rw[aD (bB z hf)];exact sf a o z
     refine ih ps vs _ res _ _ _ s' Q I' sf' hf aL m' ds rs e fun es' ep' s'' I'' m''=>?_
     rw[kN] at I''
     exact q es' ep' s'' I'' m''
    ·cases e
def aHX(X:Cx)(tp:TP):TE:=fun σ H Q=>∀ p,H p=none->tp σ (upd H p (cD X.w p [] 0)) fun ps H2=>∃ (F:Hp) (kvs res:List (PyData×PyData)),aF F H2/\F p=none/\H2 p=some (cD X.w p [] 0)/\Paired (aGD X.K F) ps kvs/\dH [] kvs=.ok res /\
 ∀ es' ep',MapRel X.K F es' res->Q (.ref p) (upd H2 p (cD X.w p es' ep'))
theorem aJD{keys:List (Option Expr)}{vals:List Expr}{tp:TP}(hu:X.A.units+64 < cLine)(h:PPr X keys vals tp)(h1:(keys.all fun x=>x.isSome)=true:=by rfl)(h2:keys.length=vals.length:=by rfl)(h3:keys≠[]:=by exact fun z=>nomatch z)(h4:keys.length<=15:=by decide):PE X (.Dict keys vals pos) (aHX X tp):=by
 intro pins s σ H Q I q
 have I1:=I.laid (a:=s.heap.objs.size) (o:=cD X.w s.heap.objs.size [] 0) (t':=s.toks) (fun _ _ q=>Heap.get?_push_of_some {cls:=.type "dict",data:=.dict #[]} q) (Nat.le_refl _)
  (gQ (beq_eq_false_iff_ne.mpr (Ne.symm (Nat.ne_of_lt I.big))) ⟨_,#[],Heap.get?_push_size _ rfl,⟨rfl,rfl,rfl⟩,rfl,.nil⟩)
 have q1:=q _ (I.hok.fresh (Nat.le_refl _))
 refine wpAny_Dict_any h1 h2 h3 h4 (thn (h pos pins _ σ _ _ I1 q1) fun vs s2 zz0=>?_)
 obtain ⟨ps,H2,I2,r,F,kvs,res,sf,hf,hp,d,e,z⟩:=zz0
 exact aDU hu kvs ps vs [] res [] 0 H2 s2 _ I2 sf hf hp ⟨rfl,.nil,.nil,List.nodup_nil⟩ d r e fun es' ep' s' I' m=>⟨.ref s.heap.objs.size,_,I',rfl,z es' ep' m⟩
def aMB(c:Ct)(E:XK)(f:Sg->R (List (PyData×PyData))):TP:=fun σ H Q=>∃ ρ F,Ab c ρ σ F H/\Rk c E F H (f ρ) fun kvs=>∀ ps F' H',Ext F H F' H'->Paired (aGD c.K F') ps kvs->Q ps H'
abbrev PPf(X:Cx)(c:Ct)(E:XK)(keys:List (Option Expr))(vals:List Expr)(f:Sg->R (List (PyData×PyData))):Prop:=PPr X keys vals (aMB c E f)
theorem PPr.imp{X:Cx}{ks:List (Option Expr)}{vs:List Expr}{t t':TP}(h:PPr X ks vs t)(i:∀ σ H Q,t' σ H Q->t σ H Q):PPr X ks vs t':=fun pos pins s σ H Q I q=>h pos pins s σ H Q I (i σ H Q q)
noncomputable def xY:Sg->R (List (PyData×PyData)):=fun _=>.ok []
def sS(f g:Sg->R PyData)(r:Sg->R (List (PyData×PyData))):Sg->R (List (PyData×PyData)):=fun ρ=>(f ρ).bind fun x=>(g ρ).bind fun y=>(r ρ).bind fun t=>.ok ((x,y)::t)
theorem aJE:PPf X c E [] [] xY:=PPr.imp aMA fun σ H Q ⟨ρ,F,ab,k⟩=>Rk.ok k [] F H (Ext.refl ab.fh) .nil
theorem aGE{k v:Expr}{ks:List (Option Expr)}{vs:List Expr}{f g:Sg->R PyData}{r:Sg->R (List (PyData×PyData))}(hk:PD X c E k f)(hv:PD X c E v g)(hr:PPf X c E ks vs r):PPf X c E (some k::ks) (v::vs) (sS f g r):=PPr.imp (aJC hk hv hr) fun σ H Q zz0=>by
 obtain ⟨ρ,F,ab,k⟩:=zz0
 refine ⟨ρ,F,ab,(Rk.bind k).imp fun x _ q v F1 H1 s1 r1=>?_⟩
 refine ⟨ρ,F1,ab.ext s1,((Rk.bind q).ext s1).imp fun y _ q u F2 H2 s2 r2=>?_⟩
 refine ⟨ρ,F2,ab.ext (s1.trans s2),((Rk.bind q).ext (s1.trans s2)).imp fun t _ q ps F3 H3 s3 r3=>?_⟩
 exact Rk.ok q _ F3 H3 ((s1.trans s2).trans s3) (.cons ⟨DatV.same (s2.trans s3).ff r1,DatV.same s3.ff r2⟩ r3)
noncomputable def sT(i:Nat)(f:Sg->R (List (PyData×PyData))):Sg->R Fw:=fun ρ=>(f ρ).bind fun kvs=>(dH [] kvs).bind fun res=>.ok (.nx (ρ.set i (some (.m res))))
theorem pB:∀ (kvs acc:List (PyData×PyData)) (x:Er),dH acc kvs≠.ex x
 | [],acc,x,h=>by cases h
 | (k,v)::t,acc,x,h=>by
  unfold dH at h
  split at h
  · exact pB t _ x h
  · cases h
theorem aJF{i:Nat}{f:Sg->R (List (PyData×PyData))}(hK:X.K=c.K)(hW:X.w=c.w)(h:PS X st (kB (aHX X (aMB c E f)) (iA i))):PSf X c E st (sT i f):=PS.imp h fun D σ H ⟨ρ,F,ab,k⟩=>fun p hp=>by
 have e1:=Ext.own (F:=F) (o:=cD X.w p [] 0) ab.fh hp
 refine ⟨ρ,F,ab.ext e1,((Rk.bind k).ext e1).imp fun kvs _ q ps F2 H2 s2 r2=>?_⟩
 have hf:F2 p=none:=s2.stay (bG ab.fh hp) aL (fun _ z=>xF z)
 have h2:H2 p=some (cD X.w p [] 0):=s2.hh _ _ aL
 cases e:dH [] kvs with
 | bad=>rw[e] at q;exact q.elim
 | ex x=>exact absurd e (pB _ _ _)
 | ok res=>
  rw[e] at q
  refine ⟨F2,kvs,res,s2.fh,hf,h2,by rw[hK];exact r2,e,fun es' ep' m=>?_⟩
  have e3:Ext F H F2 (upd H2 p (cD X.w p es' ep')):=by
   refine ⟨fun a o z=>?_,s2.ff,fun a o z=>?_,fun a z n=>?_⟩
   ·have ne:a≠p:=bB z hp
    rw[aD ne]
    exact s2.hh a o (by rw[aD ne];exact z)
   ·rw[aD (bB z hf)];exact s2.fh a o z
   ·have:=s2.nw a z n
    by_cases w:a=p
    · subst w; exact .inl hp
    · unfold pZ at this; rw [aD w] at this; exact this
  rw[hW] at e3 ⊢
  rw[hK] at m
  exact Rk.ok q _ F2 _ s2.ff (ab.setM e3 hp aL hf m)
end
end Fl
namespace Fl
open PySem L2 PyProof.Rows
section
variable{X:Cx}{c:Ct}{E:XK}{e a b:Expr}{st:Stmt}{pos:Pos}
noncomputable def aMC(i:Nat)(f g:Sg->R PyData):Sg->R PyData:=fun ρ=>match ρ[i]? with
 | some (some (.m kvs))=>(f ρ).bind fun k=>(g ρ).bind fun y=>if cO k (kvs.map (·.1))=true then .ok ((f8 kvs k).getD y) else .bad
 | _=>.bad
end
end Fl
namespace L2
open PySem PySem.Spec PyProof.Rows
def uB(X:Cx)(σ0:St)(E:XK)(ev:Value)(s':Shared):Prop:=∃ e C od H',ev=.ref e/\Inv X [] σ0 H' s'/\FlyAt X H' s'.heap e C od false/\E (.ref C) (some e) H'
abbrev Cx.flyS(X:Cx)(σ0:St)(E:XK):Cx:=X.wish (uB X σ0 E)
section
variable{X:Cx}
theorem aN6{E:XK}{σ:St}{pins:List (Addr×Obj)}{H:Hp}{s:Shared}{ev:Value}{s':Shared}(I:Inv (X.flyS σ E) pins σ H s)(h:CXe X.prog X.w X.stack H s E ev s'):uB X σ E ev s':=by
 obtain ⟨e,C,od,H',rfl,os,bare,un,hok,he,⟨vs,T,q1,q2,q3⟩,q⟩:=h
 have I0:Inv X pins σ H s:=I.unwish
 have I1:Inv X [] σ H s:=I0.pins_of fun p hp=>absurd hp (by simp)
 have I2:Inv X [] σ H' s':=I1.call' os un hok bare (fun b hb=>absurd hb (by simp))
 refine ⟨e,C,od,H',rfl,I2,⟨he,vs,T,q1,q2,fun t e1=>?_,fun z=>nomatch z⟩,q⟩
 obtain ⟨t1,t2⟩:=q3 t e1
 refine ⟨t1,Nat.le_trans I0.sz t2,fun p hp z=>?_⟩
 have:=Heap.lt_size (I0.pin p (List.mem_append_left _ hp)).1
 rw[z] at this
 exact absurd (Nat.lt_of_lt_of_le this t2) (Nat.lt_irrefl _)
theorem aJG{CX:CXT}{k:Nat}{f:Addr}{fd:FuncData}{ps:List Str}{sp:Sp}{E:XK}{pins:List (Addr×Obj)}{σ:St}{H:Hp}{s:Shared}{Q:VK}{us:List Value}{vs:List V}{W:Value->Shared->Prop}(F:FnOk X.prog X.w X.K X.mg X.base CX k f fd ps sp)(hr:Room k X.A)(hb:fQ X.K fd ps [])
  (hx:∀ e s',CX X.stack H s E e s'->W e s') (I:Inv X pins σ H s) (r:bA vs us) (h:sp (vs++[]) H Q E):wpAny (model X.prog X.w) X.A (call (.ref f) us) (EP X pins σ Q) W s:=by
 have r2:bA (vs++[]) (us++[]):=r.append .nil
 have hl:(us++[]).length=ps.length:=by rw[<-r2.length];exact F.len _ _ _ _ h
 refine wpAny_call (codeAny_mono (F.run X.A X.stack s H ⟨us,[]⟩ (us++[]) (vs++[]) Q E hr I.env0 (hb s us I.kIn hl) r2 h) fun r s' hq=>?_)
 cases r with
 | error e=>exact hx e s' hq
 | ok fl=>
  cases fl with
  | ret u=>exact I.after hq
  | next=>exact False.elim hq
  | brk=>exact False.elim hq
  | cont=>exact False.elim hq
def PCl(X:Cx)(σ:St)(E:XK)(e:Expr)(t:TE):Prop:=∀ (pins:List (Addr×Obj)) (s:Shared) (H:Hp) (Q:VK),Inv (X.flyS σ E) pins σ H s->t σ H Q->wpAny (model X.prog X.w) X.A (eval e X.env) (EP (X.flyS σ E) pins σ Q) (uB X σ E) s
theorem aGF{e:Expr}{t:TE}{E:XK}{σ:St}{pos pos':Pos}{j:Nat}{y:Str}{pins:List (Addr×Obj)}{s:Shared}{H:Hp}{D:jD}(hc:PCl (X.pnw (X.pn++pins)) σ E e t)(hN:X.N.Nodup)(hj:X.N[j]? = some y)(hx:Loc X.env.scope y)(I:Inv X pins σ H s)(h:t σ H fun v H1=>D.nx (σ.set j (some v)) H1)(hs:swapsWith e (some (.Name y pos')) pos.line X.env=pure false:=by rfl)(hf:X.fn y=true\/X.env.scope.names.lookup y=some .local:=by first|exact .inl rfl|exact .inr rfl) :
  wpAny (model X.prog X.w) X.A (execs [.Assign [.Name y pos'] e pos] X.env) (fun f s1=>SP X pins D f s1) (uB (X.pnw (X.pn++pins)) σ E) s:=by
 have I1:=I.toPn
 have I1':Inv ((X.pnw (X.pn++pins)).flyS σ E) [] σ H s:=I1.wish _
 refine wpAny_execs_cons (thn (Q:=fun f s1=>SP ((X.pnw (X.pn++pins)).flyS σ E) [] D f s1) (wpAny_Assign_Name (thn (hc [] s H _ I1' h) fun v s1 ⟨x,H1,I1,r1,q1⟩=>nC (X:=(X.pnw (X.pn++pins)).flyS σ E) I1 hN hj hx r1 (fun s2 I2=>⟨_,H1,I2,q1⟩) hf) hs) fun f s1 q=>?_)
 have q':=SP.ofPn q
 cases f with
 | next=>exact wpAny_execs_nil q'
 | ret v=>exact q'
 | brk=>exact q'
 | cont=>exact q'
end
end L2
namespace Fl
open PySem L2 PyProof.Rows
def aAA(K:Frag)(mg:Str->Option Value)(Wc:Addr)(cl:List Str):Prop:=∀ nm∈cl,∃ C bm,mg nm=some (.ref C)/\SX.ExcAny K C bm/\(Value.ref C::bm).contains (.ref Wc)=true
section
variable{X:Cx}{c:Ct}{E:XK}
end
end Fl
namespace Fl
open PySem L2 PyProof.Rows
def dLR:PyData->R (List PyData)
 | .int n=>if 0<=n/\n<=1000000 then .ok ((List.range n.toNat).map fun i:Nat=>.int (i:Int)) else .bad
 | _=>.bad
section
variable{X:Cx}{c:Ct}{E:XK}{e:Expr}
theorem sU{K:Frag}{F:Hp}:∀ (xs:List Nat),DatVs K F (xs.map fun i:Nat=>V.int (i:Int)) (xs.map fun i:Nat=>PyData.int (i:Int))
 | []=>.nil
 | x::xs=>.cons (.int _) (sU xs)
theorem aGG{f:Sg->R PyData}(h:PE X e (tCB (fun xs H Q=>∃ (p:Addr) (n:Nat),xs=[.ref p]/\H p=some (.rng 0 n)/\n<=1000000/\∀ l,H l=none->Q (.ref l) (upd H l (.lst ((List.range n).map fun i:Nat=>V.int (i:Int)))))
  (eX (tCB (fun xs H Q=>∃ n:Nat,xs=[.int n]/\n<=1000000/\∀ p,H p=none->Q (.ref p) (upd H p (.rng 0 n))) (eX (tV (a8 c) c E f) gH)) gH))):PN X c E e (e1 dLR f):=PE.imp h fun σ H Q ⟨ρ,F,ab,k⟩=>by
 refine ⟨ρ,F,ab,(Rk.bind k).imp fun d hd q v F1 H1 s1 r1=>?_⟩
 clear hd
 unfold dLR at q
 split at q
 ·rename_i n
  split at q
  ·rename_i hn
   obtain rfl:=aX.int_of r1
   refine ⟨n.toNat,by rw[show ((n.toNat:Nat):Int)=n by omega],by omega,fun p hp=>?_⟩
   refine ⟨p,n.toNat,rfl,aL,by omega,fun l hl=>?_⟩
   have e1:Ext F1 H1 F1 (upd H1 p (.rng 0 (n.toNat:Int))):=Ext.own s1.fh hp
   have e2:Ext F1 _ F1 (upd (upd H1 p (.rng 0 (n.toNat:Int))) l (.lst ((List.range n.toNat).map fun i:Nat=>V.int (i:Int)))):=Ext.own e1.fh hl
   exact Rk.ok q _ F1 _ ((s1.trans e1).trans e2) ⟨l,_,rfl,bG s1.hh (bG e1.hh hl),aL,bG e1.fh hl,sU _⟩
  ·exact q.elim
 ·exact q.elim
end
end Fl
namespace Fl
open PySem L2 PyProof.Rows
section
variable{X:Cx}{c:Ct}{E:XK}{e:Expr}{P:Program}{w:World}{base:Heap}
end
end Fl
namespace L2
open PySem PySem.Spec PyProof.Rows
theorem b5.got{P:Program}{w:World}{H:Hp}{h:Heap}{a:Addr}{o:HO}(x:b5 P w H h a o):∃ u,h.get? a=some u:=by
 cases o with
 | lst xs=>obtain ⟨_,_,_,_,e⟩:=x;exact ⟨_,e⟩
 | tup xs=>obtain ⟨_,_,_,⟨o,e,_⟩⟩:=x;exact ⟨_,e⟩
 | dK kvs=>obtain ⟨_,_,_,_,o,_,_,e,_⟩:=x;exact ⟨_,e⟩
 | dT kvs=>obtain ⟨_,_,_,_,o,_,_,e,_⟩:=x;exact ⟨_,e⟩
 | set S n=>obtain ⟨o,_,_,_,e,_⟩:=x;exact ⟨_,e⟩
 | ins C dx fs=>obtain ⟨_,_,_,e,_⟩:=x;exact ⟨_,e⟩
 | own y=>exact x
 | xd fs=>obtain ⟨_,⟨_,_,_,e,_⟩,_⟩:=x;exact ⟨_,e⟩
 | rng lo hi=>obtain ⟨_,_,_,e⟩:=x;exact ⟨_,e⟩
 | frz ob u=>exact ⟨_,x.1⟩
 | tbl ps=>obtain ⟨_,e,_⟩:=x;exact ⟨_,e⟩
 | cod q=>obtain ⟨c,o,vs,t,e,ho,_⟩:=x;cases e;exact ⟨_,ho⟩
 | met f y=>exact ⟨_,x⟩
 | ext φ=>exact x.2.1
theorem HOk.free{P:Program}{w:World}{H:Hp}{h:Heap}{a:Addr}(x:HOk P w H h)(e:h.get? a=none):H a=none:=by
 cases q:H a with
 | none=>rfl
 | some u=>
  obtain ⟨o,z⟩:=(x a u q).got
  rw[e] at z;cases z
theorem Inv.laidN{X:Cx}{pins:List (Addr×Obj)}{σ:St}{H:Hp}{s:Shared}{h':Heap}{a:Addr}{o:HO}{t':Nat}(I:Inv X pins σ H s)(k:∀ b u,s.heap.get? b=some u->h'.get? b=some u)(hp:s.heap.get? a=none)(new:b5 X.prog X.w (upd H a o) h' a o) :
  Inv X pins σ (upd H a o) {s with heap:=h',toks:=t'}:=by
 have hn:H a=none:=I.hok.free hp
 refine I.un ⟨fun b u q _ _ _=>k b u q,fun b u q _ _ _=>⟨u.slots,k b u q⟩,fun b u q n _=>?_,fun b u q _=>⟨u,k b u q⟩,fun b xs q=>by rw[aD (bB q hn)];exact q,fun b u xs q=>by rw[aD (bB q hn)];exact q,fun b ps q=>by rw[aD (bB q hn)];exact q⟩ fun b u e=>?_
 ·rw[aD (fun z=>by rw[z,hp] at q;cases q)];exact n
 ·by_cases hb:b=a
  ·subst hb;rw[aL] at e;cases e;exact new
  ·rw[aD hb] at e
   exact (I.hok b u e).stay (fun c v _ q=>k c v q) (fun c q=>by rw[aD (bB q hn)];exact q) (fun c xs q=>by rw[aD (bB q hn)];exact q) fun c xs q=>by rw[aD (bB q hn)];exact q
structure ErrP(K:Frag)(mg:Str->Option Value)(x:Str)(W C:Addr):Prop where
 c:SX.ExcC K W C
 m:mg x=some (.ref C)
 lk:∃ nm q N bs sn sub ab col dd k0 k1 k2 k3 k5,K.lookup C=some (excClassObj nm q C N bs (.ref W::SX.fR) true sn sub ab col dd k0 k1 k2 k3 k5 "ValueError.__new__")/\PySem.W.nsOkIn K N=true/\PySem.W.nsIn K N "__init__"=some none
 lw:∃ c0 dd cd sl,K.lookup W=some ⟨c0,dd,.cls cd,sl⟩/\PySem.W.nsOkIn K cd.ns=true/\PySem.W.nsIn K cd.ns "__init__"=some none
def uC(C:Addr)(E:XK)(ta:TA):TS:=fun _ σ H=>ta σ H fun vs H1=>vs.length<=1000/\∀ e,H1 e=none->E (.ref C) (some e) (upd H1 e (ExO e C none))
theorem aHY{K:Frag}{h:Heap}{N:Addr}{n:Str}(X:K.In h)(a:PySem.W.nsOkIn K N=true)(b:PySem.W.nsIn K N n=some none):∃ m,h.Ns N m/\m n=none:=by
 have:=Heap.Ns.of_isNs (PySem.W.isNs_of_in X a)
 exact ⟨_,this,PySem.W.ns_none_of X this b⟩
section
variable{X:Cx}{E:XK}{W C:Addr}{x:Str}{np cpos pos:Pos}{e0:Expr}{rest:List Expr}{ta:TA}
theorem vC(hc:X.calm=true)(er:ErrP X.K X.mg x W C)(hg:Gl X x)(ha:PA (X.fly E) (e0::rest) ta)(hdb:(x == ("__debug__":Str))=false:=by decide)
  (he:starEach (e0::rest) X.env=(false,eval e0 X.env)::starEach rest X.env:=by rfl) (hpl:(backTo cpos (starEach rest X.env)).any (·.1)=false:=by rfl) :
  PS (X.fly E) (.Raise (some (.Call (.Name x np) (e0::rest) [] cpos)) none pos) (uC C E ta):=by
 intro pins s σ H D I h
 obtain ⟨nm,q,N,bs,sn,sub,ab,col,dd,k0,k1,k2,k3,k5,lk,nok,nno⟩:=er.lk
 obtain ⟨c0,dw,cd,sl,lw,wok,wno⟩:=er.lw
 have core:wpAny (model X.prog X.w) X.A (eval (.Call (.Name x np) (e0::rest) [] cpos) X.env) (fun v s1=>∃ e od vs,v=.ref e/\s1.heap.get? C=some (excClassObj nm q C N bs (.ref W::SX.fR) true sn sub ab col dd k0 k1 k2 k3 k5 "ValueError.__new__") /\
   s1.heap.get? e=some {cls:=.ref C,dict:=od,data:=.fields vs}/\vs[1]? = some .none/\Fly X E (.ref e) s1) (Fly X E) s:=by
  refine wpAny_Call_Name_kw (mH (X:=X) I.unwish hg er.m ?_ hdb)
  refine PySem.W.callWith_K (h₀:=X.base) I.ok.mod.kin er.c.kp (thn (ha cpos pins s σ H _ I h) fun us s1 ⟨vs,H1,I1',r,hz,q1⟩=>⟨I1'.kIn,?_⟩) he hpl
  have I1:Inv X pins σ H1 s1:=I1'.unwish
  obtain ⟨hp,g,d,tk,os⟩:=s1
  have hz':us.length<=sizeLine:=by rw[<-r.length,sizeLine_eq];omega
  have kin:X.K.In hp:=I1.kIn
  obtain ⟨mN,hN,hN0⟩:=aHY kin nok nno
  obtain ⟨mW,hW,hW0⟩:=aHY kin wok wno
  refine wpAny_call_exc_subT PySem.F.excBase_ValueError (.own (kin _ _ lw) hW hW0 .base) (kin _ _ lk) hN hN0 (fun h' e hm'=>?_) hz'
  obtain ⟨t,het,_,_⟩:=hm'.there
  have I2:Inv X pins σ (upd H1 e (ExO e C none)) ⟨h',g,d,tk,os⟩:=I1.laidN (t':=tk) hm'.keeps hm'.new (wT het)
  have q2:=q1 e (I1.hok.free hm'.new)
  have I5:Inv X [] σ (upd H1 e (ExO e C none)) ⟨h',g,d,tk,os⟩:=I2.pins_of fun p hp=>absurd hp (by simp)
  exact ⟨e,none,_,rfl,I2.kIn _ _ lk,het,rfl,e,C,none,σ,_,rfl,I5,⟨aL,_,none,het,rfl,(fun t z=>nomatch z),(fun z=>nomatch z)⟩,q2⟩
 show wpAny (model X.prog X.w) X.A (exec (.Raise (some (.Call (.Name x np) (e0::rest) [] cpos)) none pos) X.env) _ (Fly X E) s
 rw[arm_exec_Raise]
 first
  | refine wpAny_bind (wpAny_standAt (SX.kG (SX.tS W) (I.ok.hd hc) (wpAny_bind (wpAny_mono core (fun v s1 h1=>wpAny_bind (wpAny_standAt (wpAny_pure h1))) fun _ _ z=>z))))
  | (simp only[evalOpt,Option.map];refine wpAny_bind (wpAny_standAt (SX.kG (SX.tS W) (I.ok.hd hc) (wpAny_bind (wpAny_mono core (fun v s1 h1=>wpAny_bind (wpAny_standAt (wpAny_pure h1))) fun _ _ z=>z)))))
end
def few(i:Int):Prop:=i=40\/i=60\/i=200\/i=300
theorem aJH{i:Int}(h:few i):(Str.ofString (toString i)).length<=10/\i.natAbs.log2 < 1920:=by
 rcases h with rfl|rfl|rfl|rfl<;>decide +kernel
theorem gU(x y:Str):(x++y).length=x.length+y.length:=by
 show (x.cps++y.cps).size=x.cps.size+y.cps.size
 simp
def aMD(ta:TE):TE:=fun σ H Q=>ta σ H fun x H1=>∃ i:Int,x=.int i/\few i/\∀ z:Str,Q (.str z) H1
theorem aME{X:Cx}{v:Expr}{ta:TE}{a b:Str}{k1 k2:Nat}{p1 p2 p3 pos:Pos}(hv:PE X v ta)(ha:a.length<=1000:=by decide)(hb:b.length<=1000:=by decide) :
  PE X (.JoinedStr [.Constant (.str a) k1 p1,.FormattedValue v (-1) none p2,.Constant (.str b) k2 p3] pos) (aMD ta):=by
 intro pins s σ H Q I h
 have hsz:sizeLine=16777216:=rfl
 have h0:(Str.empty).length=0:=rfl
 refine wpAny_JoinedStr (Joins_cons (thn (wH (X:=X) pins s σ H (fun y H1=>y=.str a/\H1=H) I ⟨rfl,rfl⟩) fun u s1 zz0=>?_))
 obtain ⟨y,H1,I1,r1,e1,e2⟩:=zz0
 subst e1 e2
 obtain ⟨t1,rfl⟩:=r1
 refine ⟨a,t1,rfl,by rw[gU,h0];omega,Joins_cons (wpAny_FormattedValue_plain (thn (hv pins s1 σ _ _ I1 h) fun u s2 zz0=>?_))⟩
 obtain ⟨y,H2,I2,r2,i,e,hf,q⟩:=zz0
 subst e
 obtain ⟨t2,rfl⟩:=r2
 obtain ⟨f1,f2⟩:=aJH hf
 refine wpAny_formatField_int f2 ⟨_,_,rfl,by rw[gU,gU,h0];omega,Joins_cons (thn (wH (X:=X) pins _ σ H2 (fun y H1=>y=.str b/\H1=H2) (I2.tok _) ⟨rfl,rfl⟩) fun u s3 zz0=>?_)⟩
 obtain ⟨y,H3,I3,r3,e1,e2⟩:=zz0
 subst e1 e2
 obtain ⟨t3,rfl⟩:=r3
 refine ⟨b,t3,rfl,by rw[gU,gU,gU,h0];omega,Joins_nil ⟨by rw[gU,gU,gU,h0];omega,?_⟩⟩
 exact ⟨.str _,_,I3.tok _,⟨_,rfl⟩,q _⟩
end L2
namespace L2
open PySem PySem.Spec PyProof.Rows
section
variable{X:Cx}
theorem aMF{x:Str}{Wc:Addr}{bmW:List Value}{body suite:List Stmt}{b0:Stmt}{np hpos pos:Pos}(hO:pT X)
  (hg:Gl X x) (hm:X.mg x=some (.ref Wc)) (hw:SX.ExcAny X.K Wc bmW) (hdb:(x == ("__debug__":Str))=false) {pins:List (Addr×Obj)} {s:Shared} {σ:St} {H:Hp} {D:jD} {E:XK} (I:Inv X pins σ H s)
  (hb:wpAny (model X.prog X.w) X.A (execs body X.env) (fun f s1=>SP X pins D f s1) (uB (X.pnw (X.pn++pins)) σ E) s)
  (hh:∀ (C e:Addr) (H':Hp),(∃ od,H' e=some (ExO e C od))->E (.ref C) (some e) H'->∃ bm,SX.ExcAny X.K C bm/\(Value.ref C::bm).contains (.ref Wc)=true/\∃ ts,PSs (X.inH e) (b0::suite) ts/\ts D σ H') :
  wpAny (model X.prog X.w) X.A (exec (.Try body [.ExceptHandler (some (.Name x np)) none (b0::suite) hpos] [] [] pos) X.env) (SP X pins D) X.xe s:=by
 refine wpAny_Try_except (wpAny_mono hb (fun f s1 q'=>?_) fun ev s1 q=>?_)
 ·cases f with
  | next=>exact wpAny_execs_nil q'
  | brk=>exact q'
  | cont=>exact q'
  | ret u=>exact q'
 ·obtain ⟨e,C,od,H1,rfl,I2,f2,q⟩:=q
  have hO':pT (X.pnw (X.pn++pins)):=hO
  refine rB (X:=X.pnw (X.pn++pins)) hO' I2 f2 fun s3 I3 f3=>pU (X:=X.pnw (X.pn++pins)) I3 f3 fun s4 I4 f4=>?_
  have I4':Inv X pins σ H1 s4:=I4.ofPn
  obtain ⟨bm,cA,hcon,ts,pts,qts⟩:=hh C e H1 ⟨od,f4.tr⟩ q
  refine wpAny_handleBy_cons (codeAny_handlers_test ?_) (by intro z;cases z)
  have IH:Inv (X.inH e) pins σ H1 s4:=I4'.inH e
  refine mH (X:=X.inH e) IH hg hm ?_ hdb
  obtain ⟨vs,hx⟩:=wV I4'.hok f4.tr
  refine SX.y7 I4'.kIn cA hw hx rfl ?_
  rw[hcon]
  refine codeAny_handlers_suite ?_
  refine pU (X:=X.pnw (X.pn++pins)) I4 f4 fun s5 I5 f5=>?_
  have I5':Inv X pins σ H1 s5:=I5.ofPn
  refine wpAny_mono (pts pins s5 σ H1 D (I5'.inH e) qts) (fun f s7 q7=>?_) fun _ _ z=>z.elim
  cases f with
  | next=>
   obtain ⟨σ7,H7,I7,q7⟩:=q7
   exact ⟨σ7,H7,I7.ofH I.ok,q7⟩
  | brk=>
   obtain ⟨σ7,H7,I7,q7⟩:=q7
   exact ⟨σ7,H7,I7.ofH I.ok,q7⟩
  | cont=>
   obtain ⟨σ7,H7,I7,q7⟩:=q7
   exact ⟨σ7,H7,I7.ofH I.ok,q7⟩
  | ret u=>
   obtain ⟨v,σ7,H7,I7,r7,q7⟩:=q7
   exact ⟨v,σ7,H7,I7.ofH I.ok,r7,q7⟩
end
end L2
namespace Fl
open PySem L2 PyProof.Rows
instance (i:Int):Decidable (few i):=by unfold few;infer_instance
def aJI(cn:Str)(f:Sg->R (List PyData)):Sg->R Fw:=fun ρ=>(f ρ).bind fun xs=>if xs.length<=1000 then .ex ⟨cn,[]⟩ else .bad
def qA(cn:Str)(g:Sg->R PyData):Sg->R Fw:=fun ρ=>(g ρ).bind fun x=>match x with
 | .int i=>if few i then .ex ⟨cn,[]⟩ else .bad
 | _=>.bad
section
variable{X:Cx}{c:Ct}{E:XK}{st:Stmt}{cn:Str}{C:Addr}
theorem vC{f:Sg->R (List PyData)}(hm:c.mg cn=some (.ref C))(h:PS X st (uC C E (tAd c E f))):PSf X c E st (aJI cn f):=PS.imp h fun D σ H zz0=>by
 obtain ⟨ρ,F,ab,k⟩:=zz0
 refine ⟨ρ,F,ab,(Rk.bind k).imp fun xs _ q vs F1 H1 s1 r1=>?_⟩
 by_cases hn:xs.length<=1000
 ·rw[if_pos hn] at q
  exact ⟨by rw[r1.length];exact hn,fun e he=>q e C _ _ ((ab.all.trans s1).trans (Ext.new s1.fh he)) ⟨hm,none,aL,.inl ⟨rfl,rfl⟩⟩⟩
 ·rw[if_neg hn] at q;exact q.elim
theorem aDV{g:Sg->R PyData}(hm:c.mg cn=some (.ref C))(h:PS X st (uC C E (eX (aMD (tV (a8 c) c E g)) gH))):PSf X c E st (qA cn g):=PS.imp h fun D σ H ⟨ρ,F,ab,k⟩=>by
 refine ⟨ρ,F,ab,(Rk.bind k).imp fun x hx q v F1 H1 s1 r1=>?_⟩
 clear hx
 split at q
 ·rename_i i
  split at q
  ·rename_i hf
   obtain rfl:=aX.int_of r1
   exact ⟨i,rfl,hf,fun z=>⟨by show 1<=1000;decide,fun e he=>q e C _ _ ((ab.all.trans s1).trans (Ext.new s1.fh he)) ⟨hm,none,aL,.inl ⟨rfl,rfl⟩⟩⟩⟩
  ·exact q.elim
 ·exact q.elim
theorem vQ{K:Frag}{mg:Str->Option Value}{x:Str}{W C:Addr}(er:ErrP K mg x W C):aAA K mg C [x]:=fun nm h=>by
 rw[List.mem_singleton.mp h]
 exact ⟨C,_,er.m,er.c.any,by simp⟩
end
end Fl
namespace L2
open PySem
noncomputable def aMG(e:DictEntry):Bool:=match e.key with
 | .str _ _=>true
 | _=>false
theorem aAB{K:Frag}{N:Addr}{cl:Value}{d:Option Addr}{es:Array DictEntry}{ep:Nat}{sl:Array (Option Value)}(l:K.lookup N=some ⟨cl,d,.dict es ep,sl⟩)(h:es.toList.all aMG=true):PySem.W.nsOkIn K N=true:=by
 unfold PySem.W.nsOkIn
 rw[show List.lookup N K=some ⟨cl,d,.dict es ep,sl⟩ from l]
 show es.all _=true
 rw[<-Array.all_toList]
 exact h
end L2
namespace Fl
open PySem L2 PyProof.Rows
end Fl
namespace HT
open PySem PySem.Spec PyProof.Rows L2
end HT
namespace Fl
open PySem L2 PyProof.Rows
def FnK(K:Frag)(H:Hp)(f:Addr):Prop:=PySem.W.keepIn K (.ref f)=true\/∃ oc od fd sl,H f=some (FnO f ⟨oc,od,.func fd,sl⟩)
theorem FnK.same{K:Frag}{H H':Hp}{f:Addr}(s:aF H H')(h:FnK K H f):FnK K H' f:=h.imp id fun ⟨oc,od,fd,sl,e⟩=>⟨oc,od,fd,sl,s _ _ e⟩
def tCallV(X:Cx)(i:Nat)(E:XK)(t:TA):TE:=fun σ H Q=>∃ f,σ[i]? = some (some (.ref f))/\FnK X.K H f/\t σ H fun vs H1=>FnK X.K H1 f/\∃ k fd ps sp,Room k X.A/\FnOk X.prog X.w X.K X.mg X.base (CXe X.prog X.w) k f fd ps sp/\fQ X.K fd ps []/\sp vs H1 Q E
def aPE(m i:Nat)(f:Sg->R (List PyData)):Sg->R PyData:=fun ρ=>match ρ[i]? with
 | some (some (.g k n G))=>(f ρ).bind fun ds=>if k<=m/\ds.length=n then G ds else .bad
 | _=>.bad
noncomputable def aHZ:PyData->Bool
 | .none=>true
 | .bool _=>true
 | .int _=>true
 | .str _=>true
 | _=>false
def kI(K:Frag)(F H:Hp):List V->List PyData->Prop
 | [],[]=>True
 | v::vs,d::ds=>aX K F H v d/\kI K F H vs ds
 | _,_=>False
theorem kI.ext{K:Frag}{F H F' H':Hp}(e:Ext F H F' H'):∀ {vs:List V} {ds:List PyData},kI K F H vs ds->kI K F' H' vs ds
 | [],[],_=>trivial
 | v::vs,d::ds,h=>⟨aX.ext e h.1,kI.ext e h.2⟩
theorem kI.len{K:Frag}{F H:Hp}:∀ {vs:List V} {ds:List PyData},kI K F H vs ds->vs.length=ds.length
 | [],[],_=>rfl
 | v::vs,d::ds,h=>by rw[List.length_cons,List.length_cons,kI.len h.2]
theorem aPF{K:Frag}{F H:Hp}(s:aF F H):∀ {vs:List V} {ds:List PyData},kI K F H vs ds->∃ FL,aF F FL/\aF FL H/\DatVs K FL vs ds
 | [],[],_=>⟨F,bV F,s,.nil⟩
 | v::vs,d::ds,h=>by
  obtain ⟨FL,a,b,r⟩:=aPF s h.2
  rcases h.1 with q|⟨p,us,xs,rfl,rfl,h1,h2⟩
  ·exact ⟨FL,a,b,.cons (q.same a) r⟩
  ·refine ⟨fun x=>if x=p then some (.lst us) else FL x,fun x o z=>?_,fun x o z=>?_,?_⟩
   ·by_cases hx:x=p
    ·subst hx
     have:=s x o z
     rw[h1] at this;cases this
     exact if_pos rfl
    ·exact (if_neg hx).trans (a x o z)
   ·by_cases hx:x=p
    ·subst hx
     have z':=(if_pos rfl).symm.trans z
     rw[h1];exact z'
    ·exact b x o ((if_neg hx).symm.trans z)
   ·have sm:aF FL (fun x=>if x=p then some (.lst us) else FL x):=fun x o z=>by
     by_cases hx:x=p
     ·subst hx
      have:=b x o z
      rw[h1] at this;cases this
      exact if_pos rfl
     ·exact (if_neg hx).trans z
    exact .cons (.lst (SqL.of (if_pos rfl)) (h2.same fun x o z=>sm x o (a x o z))) (r.same sm)
def aN7(m i:Nat)(f:Sg->R (List PyData)):Sg->R PyData:=fun ρ=>match ρ[i]? with
 | some (some (.g k n G))=>(f ρ).bind fun ds=>if k<=m/\ds.length=n then (match G ds with | .ok d=>if aHZ d=true then .ok d else .bad|_=>.bad) else .bad
 | _=>.bad
end Fl
namespace Fl
open PySem L2 PyProof.Rows
noncomputable def dOf:R A->R PyData
 | .ok (.d x)=>.ok x
 | .ok _=>.bad
 | .ex e=>.ex e
 | .bad=>.bad
def aN8(P:Program)(w:World)(K:Frag)(mg:Str->Option Value)(base:Heap)(T:Hp)(S:ClSt)(fr:List Str)(k n:Nat)(Gm:List A->List PyData->R PyData):Prop:=
 ∀ (F0 F1:Hp) (caps:List A) (cvs:List V) (f:Addr) (cl:List (Str×Addr)) (doc pm ct:Value) (cc:Addr),aF T F0->AFs (gOf P w K mg base T) K mg F0 caps cvs->aF F0 F1->
  F1 f=some (FnO f (S.obj cl doc pm cc ct))->F1 cc=some (.cod S.qual)->CapAt F1 fr cl cvs->(∀ c∈aIR fr cl,F0 c=none)->Beh P w K mg base T f F1 k n (Gm caps)
theorem AFs.data{g:Gb}{K:Frag}{mg:Str->Option Value}{F:Hp}:∀ {vs:List V} {ds:List PyData},DatVs K F vs ds->AFs g K mg F (ds.map .d) vs
 | _,_,.nil=>trivial
 | _,_,.cons h r=>⟨h,AFs.data r⟩
end Fl
namespace Fl
open PySem L2 PyProof.Rows
def wD(c:Ct)(F:Hp)(S:ClSt)(v:V):Prop:=∃ f cl doc pm cc ct,v=.ref f/\F f=some (FnO f (S.obj cl doc pm cc ct))/\F cc=some (.cod S.qual)/\ClOf c.cells S.scope cl
theorem wD.same{c:Ct}{F F':Hp}{S:ClSt}{v:V}(s:aF F F'):wD c F S v->wD c F' S v:=by
 rintro ⟨f,cl,doc,pm,cc,ct,h1,h2,h3,h4⟩
 exact ⟨f,cl,doc,pm,cc,ct,h1,s _ _ h2,s _ _ h3,h4⟩
noncomputable def aN9:Option (Option A)->Option A
 | some (some (.d x))=>some (.d x)
 | some (some (.x e))=>some (.x e)
 | some (some (.g k n G))=>some (.g k n G)
 | _=>none
noncomputable def aDW:List Nat->Sg->Option (List A)
 | [],_=>some []
 | j::js,ρ=>match aN9 ρ[j]?,aDW js ρ with
  | some a,some as=>some (a::as)
  | _,_=>none
def aGH(X:Cx)(T:Hp)(c:Ct)(js:List Nat)(ρ:Sg)(F:Hp)(a:A)(v:V):Prop:=AF c.g c.K c.mg F a v \/
 ∃ S fr sl k n Gm caps,a=.g k n (Gm caps)/\wD c F S v/\aN8 X.prog X.w X.K X.mg X.base T S fr k n Gm/\(∀ y,(y,NameKind.free)∈S.scope.names->y∈fr)/\(∀ y∈fr,(y,NameKind.free)∈S.scope.names)/\sl.map (fun j=>X.N[j]?)=fr.map some/\(∀ j∈sl,j∈js)/\aDW sl ρ=some caps
theorem aGH.same{X:Cx}{T:Hp}{c:Ct}{js:List Nat}{ρ:Sg}{F F':Hp}{a:A}{v:V}(s:aF F F')(h:aGH X T c js ρ F a v):aGH X T c js ρ F' a v:=by
 rcases h with h|⟨S,fr,sl,k,n,Gm,caps,h1,h2,h3⟩
 · exact .inl (AF.same s h)
 · exact .inr ⟨S, fr, sl, k, n, Gm, caps, h1, h2.same s, h3⟩
end Fl
namespace Fl
open PySem L2 PyProof.Rows
section
variable{P:Program}{w:World}{K:Frag}{mg:Str->Option Value}{base:Heap}{T:Hp}
def gF(G:List A->R A):List PyData->R PyData:=fun ds=>dOf (G (ds.map .d))
theorem aDX{k:Nat}{x:Str}{ps:List Str}{G:List A->R A}(C:aZ P w K mg base T k x ps G):∃ f,mg x=some (.ref f)/\∀ F1,Beh P w K mg base T f F1 k ps.length (gF G):=by
 obtain ⟨f,fd,F,b,m,kp⟩:=C
 refine ⟨f,m,fun F1=>⟨fd,ps,rfl,b,F.imp fun vs H Q E h=>?_,.inl kp⟩⟩
 obtain ⟨F,ds,_,h2,h3,h4,h5,h6⟩:=h
 refine ⟨F,ds.map .d,h2,h3,AFs.data h4,by simpa using h5,?_⟩
 unfold gF at h6
 cases e:G (ds.map .d) with
 | bad=>rw[e] at h6;exact h6
 | ok a=>
  rw[e] at h6
  cases a with
  | d x=>exact h6
  | l xs=>exact False.elim h6
  | m xs=>exact False.elim h6
  | x xs=>exact False.elim h6
  | g k n f=>exact False.elim h6
  | k S=>exact False.elim h6
  | f S=>exact False.elim h6
  | o S=>exact False.elim h6
 | ex x=>rw[e] at h6;exact h6
def wE(k n:Nat)(G:List A->R A):Sg->R A:=fun _=>.ok (.g k n (gF G))
theorem aAC{X:Cx}{c:Ct}{E:XK}{k:Nat}{x:Str}{ps:List Str}{G:List A->R A}{p:Pos}(hG:c.g=gOf X.prog X.w X.K X.mg X.base T)(C:aZ X.prog X.w X.K X.mg X.base T k x ps G)(hg:Gl X x)(hdb:(x == ("__debug__":Str))=false:=by decide):PV X c E (.Name x p) (wE k ps.length G):=by
 obtain ⟨f,m,B⟩:=aDX C
 exact PE.imp (kO (v:=.ref f) hg m rfl hdb) fun σ H Q ⟨ρ,F,ab,k⟩=>Rk.ok k (.ref f) F H (Ext.refl ab.fh) ⟨f,F,rfl,bV F,by rw[hG];exact B F⟩
structure DefAtT(K:Frag)(mg:Str->Option Value)(base:Heap)(T:Hp)(qs:List (Pos×Str))(x:Str)(st:Stmt)(ps:List Str):Prop where
 ex:∃ f oc od kV doc pm an c0 ct osl P0,K.lookup f=some ⟨oc,od,.func (PySem.W.fnOf x x (fY st) (dN st) (aQ st) .none kV doc pm an (.ref c0) ct),osl⟩/\PySem.W.codeIn K (.ref c0) x=true/\PySem.W.keepIn K (.ref f)=true /\
  fQ K (PySem.W.fnOf x x (fY st) (dN st) (aQ st) .none kV doc pm an (.ref c0) ct) ps []/\mg x=some (.ref f)/\Tb mg base c0 P0/\T P0=some (.tbl qs)
end
end Fl
namespace Fl
open PySem L2 PyProof.Rows
end Fl
namespace Zp
open PySem
section
variable{prog:Program}{w:World}{A:Around}{E:Value->Shared->Prop}{s:Shared}
theorem qJ{it t:Addr}{i:Nat}{items}{x:Value}{Q:Value->Shared->Prop}(hit:s.heap.IsTupleIter it t i)
  (ht:s.heap.IsTuple t items) (hx:items[i]? = some x) (hQ:∀ h',h'.IsTupleIter it t (i+1)->Heap.SameBut it s.heap h'->Q x {s with heap:=h'}) :
  wpAny (model prog w) A (Builtin.SmallTypes.nextOf (.ref it)) Q E s:=by
 obtain ⟨o,ho,hc,hd⟩:=id hit
 obtain ⟨ol,hol,_,nl,hdl⟩:=ht
 unfold Builtin.SmallTypes.nextOf
 refine wpAny_bind (wpAny_callSpecial?_slot (name:=Str.ofString "__next__") hit.typeIs F.slot_tuple_iterator_next
  (wpAny_call_entry F.slot_tuple_iterator_next hit.typeIs F.entry_tuple_iterator_next ?_ (F.args_tuple_iterator_next_1 _)))
 show wpAny _ _ (field (.ref it) 0 >>= _) _ _ s
 refine wpAny_bind (wpAny_field ho hd (x:=.ref t) rfl ?_)
 show wpAny _ _ (if (Value.ref t == Value.none)=true then _ else _) _ _ s
 rw[if_neg (show ¬ ((Value.ref t == Value.none)=true) from Bool.false_ne_true)]
 show wpAny _ _ (field (.ref it) 1 >>= _) _ _ s
 refine wpAny_bind (wpAny_field ho hd (x:=.int i 0) rfl ?_)
 show wpAny _ _ (seqItems? (.ref t) >>= _) _ _ s
 refine wpAny_bind (wpAny_seqItems hol hdl ?_)
 simp only[Int.toNat_natCast,hx]
 refine wpAny_bind (wpAny_setField ho hd (by simp) (wpAny_pure ⟨x,rfl,wpAny_pure (hQ _ ?_ (Heap.SameBut.update ..))⟩))
 exact ⟨_,Heap.get?_update_self _ ho (Obj.isFreed_of_fields (Obj.data_mapFields hd _)),(Obj.cls_mapFields ..).trans hc,by
  rw[Obj.data_mapFields hd];simp[rawInt]⟩
theorem rL{it t:Addr}{i:Nat}{items}{Q:Value->Shared->Prop}(hh:A.handled=none)
  (hit:s.heap.IsTupleIter it t i) (ht:s.heap.IsTuple t items) (hx:items[i]? = none)
  (hE:∀ h' e,Heap.ExtBut it s.heap h'->(∃ o,h'.get? e=some o/\o.cls=.type "StopIteration")->E (.ref e) {s with heap:=h'}) :
  wpAny (model prog w) A (Builtin.SmallTypes.nextOf (.ref it)) Q E s:=by
 obtain ⟨o,ho,hc,hd⟩:=id hit
 obtain ⟨ol,hol,_,nl,hdl⟩:=ht
 unfold Builtin.SmallTypes.nextOf
 refine wpAny_bind (wpAny_callSpecial?_slot (name:=Str.ofString "__next__") hit.typeIs F.slot_tuple_iterator_next
  (wpAny_call_entry F.slot_tuple_iterator_next hit.typeIs F.entry_tuple_iterator_next ?_ (F.args_tuple_iterator_next_1 _)))
 show wpAny _ _ (field (.ref it) 0 >>= _) _ _ s
 refine wpAny_bind (wpAny_field ho hd (x:=.ref t) rfl ?_)
 show wpAny _ _ (if (Value.ref t == Value.none)=true then _ else _) _ _ s
 rw[if_neg (show ¬ ((Value.ref t == Value.none)=true) from Bool.false_ne_true)]
 show wpAny _ _ (field (.ref it) 1 >>= _) _ _ s
 refine wpAny_bind (wpAny_field ho hd (x:=.int i 0) rfl ?_)
 show wpAny _ _ (seqItems? (.ref t) >>= _) _ _ s
 refine wpAny_bind (wpAny_seqItems hol hdl ?_)
 simp only[Int.toNat_natCast,hx]
 refine wpAny_bind (wpAny_rule (wpAny_bind (wpAny_setField ho hd (by simp) ?_)))
 show wpAny _ _ (newExc (.type "StopIteration") [] >>= _) _ _ _
 refine wpAny_bind ?_
 simp only[newExc,newTuple]
 refine wpAny_bind (wpAny_newObj_type ?_ (by size_fits))
 refine wpAny_bind (m:=firstArgMember _ _) (wpAny_of_eq (a:=Value.none) (by first|rfl|(simp only[firstArgMember];rfl)) ?_)
 refine wpAny_newObj_type ?_ (by size_fits)
 simp only[raiseNew]
 refine wpAny_bind (wpAny_handled ?_)
 first|rw[show A.in1.handled=none from hh]|rw[hh]
 refine wpAny_bind (wpAny_pure (wpAny_throw ?_))
 exact hE _ _ (((Heap.SameBut.update ..).extBut.push _).push _) ⟨_,Heap.get?_push_size _ rfl,rfl⟩
end
theorem zC{prog:Program}{w:World}{A:Around}(hh:A.handled=none)(it l:Addr)(hne:l≠it)(items:Array Value) :
  Draws prog w A it [it,l] items.size (fun i v=>items[i]? = some v) (fun i h=>h.IsTupleIter it l i/\h.IsTuple l items) where
 live:=fun _ _ st=>let ⟨o,ho,_⟩:=st.1;⟨o,ho⟩
 frame:=fun _ _ _ st hk=>⟨let ⟨o,ho,r⟩:=st.1;⟨o,hk it (by simp) o ho,r⟩,let ⟨o,ho,r⟩:=st.2;⟨o,hk l (by simp) o ho,r⟩⟩
 item:=fun i s Q E hi st hQ=>by
  refine qJ st.1 st.2 (x:=items[i]) (by simp[hi]) fun h' hit' hs'=>?_
  exact hQ _ h' s.toks (by simp[hi]) ⟨hit',st.2.extBut hs'.extBut hne⟩ hs'
 done:=fun s Q E st hE=>rL hh st.1 st.2 (by simp) hE
structure Apart(z TI TO i1 i2:Addr)(f1 f2:List Addr):Prop where
 TIz:TI≠z
 TOz:TO≠z
 i1z:i1≠z
 i2z:i2≠z
 TITO:TI≠TO
 TIi1:TI≠i1
 TIi2:TI≠i2
 TOi1:TO≠i1
 TOi2:TO≠i2
 i12:i1≠i2
 z1:z∉f1
 z2:z∉f2
 t1:TO∉f1
 t2:TO∉f2
 i1f2:i1∉f2
 i2f1:i2∉f1
section
variable{prog:Program}{w:World}{A:Around}{E:Value->Shared->Prop}{s:Shared}
abbrev aPG(h:Heap)(z TI TO:Addr)(f0 f1:Value):Prop:=h.get? z=some {cls:=.type "zip",dict:=none,data:=.fields #[f0,f1,.bool false,.ref TI,.ref TO],slots:=#[]}
end
def xZ(v:Value)(o:Obj)(h:Heap):Prop:=∀ (prog:Program) (w:World) (A:Around) (E:Value->Shared->Prop) (s:Shared) (Q:Value->Shared->Prop),s.heap=h->Q (.ref h.objs.size) {s with heap:=h.push o}->wpAny (model prog w) A (pyIter v) Q E s
noncomputable abbrev H2(h:Heap)(o1 o2:Obj):Heap:=(h.push o1).push o2
noncomputable abbrev H3(h:Heap)(o1 o2:Obj):Heap:=(H2 h o1 o2).push {cls:=.type "tuple",data:=.seq #[.ref h.objs.size,.ref (h.push o1).objs.size]}
noncomputable abbrev H4(h:Heap)(o1 o2:Obj):Heap:=(H3 h o1 o2).push {cls:=.type "tuple",data:=.seq #[.none,.none]}
noncomputable abbrev H5(h:Heap)(o1 o2:Obj):Heap:=(H4 h o1 o2).push {cls:=.type "zip",data:=.fields #[.none,.bool false,.bool false,.ref (H2 h o1 o2).objs.size,.ref (H3 h o1 o2).objs.size]}
end Zp
namespace L2
open PySem PySem.Spec PyProof.Rows
abbrev Col:=Hp->List V->Prop
structure ColOk(P:Program)(w:World)(K:Frag)(C:Col)(it:Addr)(tn:Nat->Heap->Prop):Prop where
 obj:∀ i h,tn i h->∃ o,h.get? it=some o/\∀ v,o.data≠.cell v
 keep:∀ i h h',tn i h->(∀ o,h.get? it=some o->h'.get? it=some o)->tn i h'
 one:∀ (X:Cx),X.prog=P->X.w=w->X.K=K->∀ pins s σ H xs ys,Inv X pins σ H s->C H xs->C H ys->xs=ys
 draw:∀ (X:Cx),X.prog=P->X.w=w->X.K=K->∀ (i:Nat) (pins:List (Addr×Obj)) (s:Shared) (σ:St) (H:Hp) (xs:List V) (A:Around),Inv X pins σ H s->gG X pins H it->tn i s.heap->C H xs->A.handled=none->
  ∃ fp Pv St,Draws P w A it fp xs.length Pv St/\St i s.heap/\(∀ j h,St j h->tn j h)/\(∀ j v,Pv j v->∃ x,xs[j]? = some x/\a9 x v)/\∀ b,gG X pins H b->b≠it->b∉fp
theorem aAD{X:Cx}{pins:List (Addr×Obj)}{σ:St}{H:Hp}{s:Shared}{b a:Addr}{o:Obj}(I:Inv X pins σ H s)(hf:gG X pins H b)(e:X.base.get? a=some o):b≠a:=by
 obtain ⟨_,_,_,h4,_⟩:=hf
 intro z
 rcases h4 with z2|z2
 ·exact I.ok.noex a o e (z▸z2)
 ·have h5:=Heap.lt_size e
  have h6:=I.ok.bsz
  rw[z] at z2
  exact absurd (Nat.lt_of_lt_of_le h5 (Nat.le_trans h6 z2)) (Nat.lt_irrefl _)
theorem aDY{X:Cx}{pins:List (Addr×Obj)}{σ:St}{H:Hp}{s:Shared}{b a:Addr}{xs:List V}(I:Inv X pins σ H s)(hf:gG X pins H b)(h:SqL X.K H a xs):b≠a:=by
 rcases h with (h|⟨o,h⟩)|⟨o,vs,n,h,_⟩
 · intro z; rw [<- z, hf.1] at h; cases h
 · intro z; rw [<- z, hf.1] at h; cases h
 · exact aAD I hf (I.ok.mod.kin _ _ h)
theorem aDZ{X:Cx}{pins:List (Addr×Obj)}{σ:St}{H:Hp}{s:Shared}{b a:Addr}{xs:List V}(I:Inv X pins σ H s)(hf:gG X pins H b)(h:SqT X.K H a xs):b≠a:=by
 rcases h with (h|⟨o,h⟩)|⟨o,vs,n,h,_⟩
 · intro z; rw [<- z, hf.1] at h; cases h
 · intro z; rw [<- z, hf.1] at h; cases h
 · exact aAD I hf (I.ok.mod.kin _ _ h)
theorem aGI{P:Program}{w:World}{K:Frag}(a it:Addr):ColOk P w K (fun H xs=>SqL K H a xs) it (fun i h=>h.IsListIter it a i) where
 obj:=fun i h ⟨o,e,c,d⟩=>⟨o,e,fun v z=>by rw[d] at z;cases z⟩
 keep:=fun i h h' st k=>st.at fun o e=>k o e
 one:=by
  intro X hP hw hK pins s σ H xs ys I h1 h2
  subst hK
  exact I.list_inj h1 h2
 draw:=by
  intro X hP hw hK i pins s σ H xs A I hf st hx hh
  subst hP hw hK
  obtain ⟨its,rv,p,hz⟩:=I.list hx
  have hne:=aDY I hf hx
  refine ⟨[it,a],(fun i v=>its.toArray[i]? = some v),(fun i h=>h.IsListIter it a i/\h.IsList a its.toArray),by rw[show xs.length=its.toArray.size by rw[rv.length];simp];exact Draws.list hh it a (Ne.symm hne) its.toArray,⟨st,p.isList⟩,fun j h z=>z.1,fun j v e=>?_,fun b hb nb hm=>?_⟩
  ·have e':its[j]? = some v:=by simpa using e
   have hj:j < xs.length:=by rw[rv.length];exact (List.getElem?_eq_some_iff.mp e').1
   obtain ⟨u,hu,ru⟩:=rv.get (List.getElem?_eq_getElem hj)
   rw[e'] at hu;cases hu
   exact ⟨_,List.getElem?_eq_getElem hj,ru⟩
  ·rcases List.mem_cons.mp hm with z|z
   · exact nb z
   · exact aDY I hb hx (by simpa using z)
theorem aD0{P:Program}{w:World}{K:Frag}(a it:Addr):ColOk P w K (fun H xs=>SqT K H a xs) it (fun i h=>h.IsTupleIter it a i) where
 obj:=fun i h ⟨o,e,c,d⟩=>⟨o,e,fun v z=>by rw[d] at z;cases z⟩
 keep:=fun i h h' ⟨o,e,r⟩ k=>⟨o,k o e,r⟩
 one:=by
  intro X hP hw hK pins s σ H xs ys I h1 h2
  subst hK
  exact I.tuple_inj h1 h2
 draw:=by
  intro X hP hw hK i pins s σ H xs A I hf st hx hh
  subst hP hw hK
  obtain ⟨its,rv,p,hz⟩:=I.tuple hx
  have hne:=aDZ I hf hx
  refine ⟨[it,a],(fun i v=>its.toArray[i]? = some v),(fun i h=>h.IsTupleIter it a i/\h.IsTuple a its.toArray),by rw[show xs.length=its.toArray.size by rw[rv.length];simp];exact Zp.zC hh it a (Ne.symm hne) its.toArray,⟨st,p⟩,fun j h z=>z.1,fun j v e=>?_,fun b hb nb hm=>?_⟩
  ·have e':its[j]? = some v:=by simpa using e
   have hj:j < xs.length:=by rw[rv.length];exact (List.getElem?_eq_some_iff.mp e').1
   obtain ⟨u,hu,ru⟩:=rv.get (List.getElem?_eq_getElem hj)
   rw[e'] at hu;cases hu
   exact ⟨_,List.getElem?_eq_getElem hj,ru⟩
  ·rcases List.mem_cons.mp hm with z|z
   · exact nb z
   · exact aDZ I hb hx (by simpa using z)
noncomputable def uD(z:Str):List V:=z.cps.toList.map fun c=>V.str ⟨#[c]⟩
theorem aJJ{P:Program}{w:World}{K:Frag}(z:Str)(t:Tok)(it:Addr):ColOk P w K (fun _ xs=>xs=uD z) it (fun i h=>h.IsStrIter it (strIterType z) z t i) where
 obj:=fun i h ⟨o,e,c,d⟩=>⟨o,e,fun v z=>by rw[d] at z;cases z⟩
 keep:=fun i h h' ⟨o,e,r⟩ k=>⟨o,k o e,r⟩
 one:=fun _ _ _ _ _ _ _ _ _ _ _ h1 h2=>h1.trans h2.symm
 draw:=by
  intro X hP hw hK i pins s σ H xs A I hf st hx hh
  subst hP hw hK hx
  have hD:Draws X.prog X.w A it [it] z.cps.size (fun i v=>∃ c u,z.cps[i]? = some c/\v=.str ⟨#[c]⟩ u) (fun i h=>h.IsStrIter it (strIterType z) z t i):=by
   unfold strIterType
   split
   · exact Draws.strAscii hh it z t
   · exact Draws.strWide hh it z t
  refine ⟨[it],_,_,by rw[show (uD z).length=z.cps.size by unfold uD;simp];exact hD,st,fun j h z=>z,?_,fun b hb nb hm=>nb (by simpa using hm)⟩
  rintro j v ⟨c,u,hc,rfl⟩
  exact ⟨.str ⟨#[c]⟩,by unfold uD;rw[List.getElem?_map,Array.getElem?_toList,hc];rfl,u,rfl⟩
end L2
namespace L2
open PySem PySem.Spec PyProof.Rows
def aGJ(K:Frag)(H:Hp)(x:V)(C:Col):Prop:=
 (∃ a xs,x=.ref a/\SqL K H a xs/\C=fun H xs=>SqL K H a xs)\/(∃ a xs,x=.ref a/\SqT K H a xs/\C=fun H xs=>SqT K H a xs)\/∃ z,x=.str z/\C=fun _ xs=>xs=uD z
theorem aGK{X:Cx}{pins:List (Addr×Obj)}{σ:St}{H:Hp}{s:Shared}{x:V}{u:Value}{C:Col}(I:Inv X pins σ H s)(r:a9 x u)(h:aGJ X.K H x C) :
  ∃ (o:Obj) (tn:Addr->Nat->Heap->Prop),(∀ h':Heap,(∀ b ob,s.heap.get? b=some ob->h'.get? b=some ob)->Zp.xZ u o h')/\o.isFreed=false/\(∀ it,ColOk X.prog X.w X.K C it (tn it))/\∀ it h',h'.get? it=some o->tn it 0 h':=by
 rcases h with ⟨a,xs,rfl,hq,rfl⟩|⟨a,xs,rfl,hq,rfl⟩|⟨z,rfl,rfl⟩
 ·cases r
  obtain ⟨its,rv,p,hz⟩:=I.list hq
  refine ⟨{cls:=.type "list_iterator",data:=.fields #[.ref a,.int 0 0]},fun it i h=>h.IsListIter it a i,fun h' kp prog w A E s' Q e q=>?_,rfl,fun it=>aGI a it,fun it h' e=>⟨_,e,rfl,rfl⟩⟩
  subst e
  refine wpAny_pyIter_list (l:=a) (items:=its.toArray) ?_ q
  obtain ⟨o,e,r⟩:=p.isList
  exact ⟨o,kp _ _ e,r⟩
 ·cases r
  obtain ⟨its,rv,p,hz⟩:=I.tuple hq
  refine ⟨{cls:=.type "tuple_iterator",data:=.fields #[.ref a,.int 0 0]},fun it i h=>h.IsTupleIter it a i,fun h' kp prog w A E s' Q e q=>?_,rfl,fun it=>aD0 a it,fun it h' e=>⟨_,e,rfl,rfl⟩⟩
  subst e
  refine wpAny_pyIter_tuple (t:=a) (items:=its.toArray) ?_ q
  obtain ⟨o,e,r⟩:=p
  exact ⟨o,kp _ _ e,r⟩
 ·obtain ⟨t,rfl⟩:=r
  refine ⟨{cls:=.type (strIterType z),data:=.fields #[.str z t,.int 0 0]},fun it i h=>h.IsStrIter it (strIterType z) z t i,fun h' kp prog w A E s' Q e q=>?_,rfl,fun it=>aJJ z t it,fun it h' e=>⟨_,e,rfl,rfl⟩⟩
  subst e
  exact wpAny_pyIter_strU q
end L2
namespace Fl
open PySem L2 PyProof.Rows
theorem aBZ{d:PyData}{xs:List PyData}(h:aY d=.ok xs):xs.length<=16777216:=by
 unfold aY at h
 split at h
 ·split at h
  · rename_i hz; cases h; exact hz
  · cases h
 ·split at h
  · rename_i hz; cases h; exact hz
  · cases h
 ·split at h
  · rename_i hz; cases h; rw [List.length_map]; exact hz
  · cases h
 ·cases h
theorem aD1{d:PyData}{e:Er}:aY d≠.ex e:=by
 intro h
 unfold aY at h
 split at h
 · split at h <;> cases h
 · split at h <;> cases h
 · split at h <;> cases h
 · cases h
theorem x3{K:Frag}{F:Hp}:∀ (cs:List Nat),DatVs K F (cs.map fun c=>V.str ⟨#[c]⟩) (cs.map fun c=>PyData.str ⟨#[c]⟩)
 | []=>.nil
 | c::t=>.cons (.str _) (x3 t)
theorem aJK{K:Frag}{F B:Hp}{v:V}{d:PyData}{xs:List PyData}(s:aF F B)(r:aX K F B v d)(h:aY d=.ok xs):∃ C vs,aGJ K B v C/\(∀ H1,aF B H1->C H1 vs)/\DatVs K F vs xs:=by
 unfold aY at h
 split at h
 ·split at h
  ·cases h
   obtain ⟨p,vs,rfl,h1,h2⟩:=aX.lst_of s r
   exact ⟨_,vs,.inl ⟨p,vs,rfl,h1,rfl⟩,fun H1 q=>h1.same q,h2⟩
  ·cases h
 ·split at h
  ·cases h
   obtain ⟨p,vs,rfl,h1,_,h2⟩:=aX.tup_of s r
   exact ⟨_,vs,.inr (.inl ⟨p,vs,rfl,h1.same s,rfl⟩),fun H1 q=>(h1.same s).same q,h2⟩
  ·cases h
 ·rename_i z
  split at h
  ·cases h
   obtain rfl:=aX.str_of r
   exact ⟨_,uD z,.inr (.inr ⟨z,rfl,rfl⟩),fun _ _=>rfl,x3 _⟩
  ·cases h
 ·cases h
end Fl
namespace L2
open PySem PySem.Spec PyProof.Rows
end L2
namespace Fl
open PySem L2 PyProof.Rows
section
variable{X:Cx}{c:Ct}{E:XK}{e a b:Expr}{st:Stmt}{pos:Pos}
noncomputable def aOA(i:Nat)(f g:Sg->R PyData):Sg->R Fw:=fun ρ=>match ρ[i]? with
 | some (some (.m kvs))=>(f ρ).bind fun k=>(g ρ).bind fun y=>if cO k (kvs.map (·.1))=true/\kvs.length<=16777216 then .ok (.nx (if dY kvs k=true then ρ else ρ.set i (some (.m (putM kvs k y))))) else .bad
 | _=>.bad
end
end Fl
namespace Fl
open PySem L2 PyProof.Rows
def aPH(i:Nat):Sg->R Fw:=fun ρ=>match ρ[i]? with
 | some (some (.l xs))=>.ok (.nx (ρ.set i (some (.l xs.reverse))))
 | _=>.bad
end Fl
namespace Zp
open PySem
theorem aD2(v:Value)(o:Obj) :
  Meets (Builtin.«enumerate.__new__» ⟨[.type "enumerate",v],[]⟩) (fun _ R s=>xZ v o s.heap /\
   R (.ok (.ret (.ref (s.heap.push o).objs.size))) {s with heap:=(s.heap.push o).push {cls:=.type "enumerate",data:=.fields #[.none,.bool false,.ref s.heap.objs.size,rawInt 0,.none,.none]}}):=
 .of_wp fun prog w A R s h=>by
  obtain ⟨hp,g,d,tk,os⟩:=s;obtain ⟨hl,h⟩:=h
  have hsub:=sub_enumerate
  have p1:∀ {A:Around} {E:Value->Shared->Prop} {Q:Value->Shared->Prop},Q (.ref hp.objs.size) ⟨hp.push o,g,d,tk,os⟩->wpAny (model prog w) A (pyIter v) Q E ⟨hp,g,d,tk,os⟩:=fun hq=>hl prog w _ _ ⟨hp,g,d,tk,os⟩ _ rfl hq
  wp_walk
  refine wpAny_stack_any fun st=>wpAny_pure ?_
  split
  ·rename_i c _ _ _ _ _
   cases (c == Value.type "enumerate")<;>(wp_walk using p1;exact ⟨_,rfl,h⟩)
  ·wp_walk using p1
   exact ⟨_,rfl,h⟩
theorem aGL{prog:Program}{w:World}{A:Around}{E:Value->Shared->Prop}{s:Shared}{v:Value}{o:Obj}{Q:Value->Shared->Prop}(h1:xZ v o s.heap)(f1:o.isFreed=false)
  (h:∀ h',IsEnum h' (s.heap.objs.size+1) s.heap.objs.size 0 .none->h'.get? s.heap.objs.size=some o->h'.objs.size=s.heap.objs.size+2->(∀ b o,s.heap.get? b=some o->h'.get? b=some o)->Q (.ref (s.heap.objs.size+1)) {s with heap:=h'}) :
  wpAny (model prog w) A (call (.type "enumerate") [v]) Q E s:=by
 refine callType_new F.called_enumerate (by decide) (F.typeCall_enumerate_1 _) (F.newCall_enumerate_1 _) (fun obj=>F.args_object_init_2 obj _) F.entry_enumerate_new (aD2 v o) ⟨h1,?_⟩
 have hz:(s.heap.push o).objs.size=s.heap.objs.size+1:=Heap.size_push ..
 show _/\_
 rw[hz]
 have he:IsEnum ((s.heap.push o).push {cls:=.type "enumerate",data:=.fields #[.none,.bool false,.ref s.heap.objs.size,rawInt 0,.none,.none]}) (s.heap.objs.size+1) s.heap.objs.size 0 .none:=by
  have q:=Heap.get?_push_size (s.heap.push o) (o:={cls:=.type "enumerate",data:=.fields #[.none,.bool false,.ref s.heap.objs.size,rawInt 0,.none,.none]}) rfl
  rw[hz] at q;exact q
 exact ⟨⟨_,he,rfl⟩,h _ he (Heap.get?_push_of_some _ (Heap.get?_push_size _ f1)) (by rw[Heap.size_push,hz]) fun b o y=>Heap.get?_push_of_some _ (Heap.get?_push_of_some _ y)⟩
end Zp
namespace L2
open PySem PySem.Spec PyProof.Rows
def Itn(C:Col):It:=
 ⟨fun i H=>∃ xs,C H xs/\i < xs.length,fun i H x H'=>∃ p v,H p=none/\x=.ref p/\H'=upd H p (.tup [.int i,v])/\∀ xs,C H xs->xs[i]? = some v,fun i H=>∃ xs,C H xs/\i=xs.length⟩
theorem aD3{P:Program}{w:World}{K:Frag}{es:List Expr}{k1}{tpos:Pos}{C:Col}{e it:Addr}{tn:Nat->Heap->Prop}(c:ColOk P w K C it tn)(hei:e≠it) :
  Turn P w K (.Tuple es k1 tpos) (Itn C) [e,it] e (fun i h=>(∃ old,IsEnum h e it i old)/\tn i h) where
 mem:=by simp
 obj:=fun i h st b hb=>by
  obtain ⟨⟨old,s1⟩,s2⟩:=st
  rcases List.mem_cons.mp hb with z|z
  ·subst z
   exact ⟨_,s1,fun v z=>by have z':Data.fields _=Data.cell v:=z;cases z'⟩
  ·obtain rfl:b=it:=by simpa using z
   exact c.obj i h s2
 keep:=fun i h h' st k=>by
  obtain ⟨⟨old,s1⟩,s2⟩:=st
  exact ⟨⟨old,k e (by simp) _ s1⟩,c.keep i h h' s2 fun o q=>k it (by simp) o q⟩
 item:=by
  intro X hP hw hK hc i pins s σ H E I hf st hg
  obtain ⟨⟨old,s1⟩,s2⟩:=st
  obtain ⟨xs,hx,hlt⟩:=hg
  have hhd:X.A.in1.handled=none:=I.ok.hd hc
  obtain ⟨fp,Pv,S,D,a1,a2,a3,a4⟩:=c.draw X hP hw hK i pins s σ H xs X.A.in1 I (hf it (by simp)) s2 hx hhd
  have one:=fun zs (h:C H zs)=>c.one X hP hw hK pins s σ H zs xs I h hx
  subst hP hw hK
  obtain ⟨o2,eo2,_⟩:=c.obj _ _ s2
  refine wpAny_pyNext_enum_itemD D s1 a1 hlt hei (a4 e (hf e (by simp)) hei) fun u h' tk pu so si st hz' kp=>?_
  obtain ⟨x,hux,ru⟩:=a3 i u pu
  refine ⟨_,rfl,wpAny_letOwnedTupleGo_enum so fun h2 se sb=>?_⟩
  have ne1:s.heap.objs.size≠e:=Nat.ne_of_gt (Heap.lt_size s1)
  have hT2:h2.get? s.heap.objs.size=some {cls:=.type "tuple",data:=.seq #[.int i tk,u]}:=(sb.2 _ ne1).trans st
  have fT:H s.heap.objs.size=none:=I.hok.fresh (Nat.le_refl _)
  have kp2:∀ b o,b∉[e,it]->s.heap.get? b=some o->h2.get? b=some o:=fun b o hb q=>by
   simp only[List.mem_cons,List.not_mem_nil,or_false,not_or] at hb
   exact (sb.2 b hb.1).trans (kp b o hb.1 hb.2 q)
  have nfp:∀ b uu,H b=some uu->b∉[e,it]:=fun b uu q z2=>by rw[(hf b z2).1] at q;cases q
  have hok2:HOk X.prog X.w H h2:=fun b uu q=>by
   refine (I.hok b uu q).stay (fun c' v' hc' q'=>kp2 c' v' ?_ q') (fun _ q=>q) (fun _ _ q=>q) fun _ _ q=>q
   rcases hc' with z2|z2
   ·rw[z2];exact nfp b uu q
   ·exact nfp c' _ z2
  have hokT:HOk X.prog X.w (upd H s.heap.objs.size (.tup [.int i,x])) h2:=HOk.track hok2 fT ⟨by show 2<=sizeLine;decide,[.int i tk,u],.cons ⟨_,rfl⟩ (.cons ru .nil),⟨_,hT2,⟨rfl,rfl⟩,_,rfl⟩⟩
  have ltT:∀ b uu,H b=some uu->b≠s.heap.objs.size:=fun b uu q=>bB q fT
  have I2:Inv X pins σ (upd H s.heap.objs.size (.tup [.int i,x])) {s with heap:=h2,gens:=s.gens,drawn:=s.drawn,toks:=tk+1}:=by
   refine I.step (ch:=[e,it]) (fun b hb=>?_) (fun b o _ _ hc' q _=>kp2 b o hc' q) (fun b o _ _ hc' q _=>⟨o.slots,kp2 b o hc' q⟩)
    (fun b o _ q n=>by rw[aD (Nat.ne_of_lt (Heap.lt_size q))];exact n) (fun b o hc' q=>⟨o,kp2 b o hc' q⟩) (fun b ys q=>by rw[aD (ltT b _ q)];exact q) (fun b o uu q=>by rw[aD (ltT b _ q)];exact q)
    (fun b ps q=>by rw[aD (ltT b _ q)];exact q) (fun m hm=>?_) hokT I.bare
   ·obtain ⟨e0,e1,e2,e3,e4,e5⟩:=hf b hb
    exact ⟨e3,e1,e4,e5⟩
   ·obtain ⟨o,es',ep,ho,r⟩:=hm
    exact ⟨o,es',ep,kp2 _ o (fun z2=>(hf _ z2).2.1 rfl) ho,r⟩
  refine ⟨.ref s.heap.objs.size,_,I2,rfl,⟨_,x,fT,rfl,rfl,fun zs hzs=>by rw[one zs hzs];exact hux⟩,⟨⟨_,by simpa using se⟩,c.keep _ _ _ (a2 _ _ si) fun o q=>(sb.2 it hei.symm).trans q⟩,fun b hb=>?_⟩
  rw[aD]
  ·exact (hf b hb).1
  ·intro z2
   have hlt:b < s.heap.objs.size:=by
    simp only[List.mem_cons,List.not_mem_nil,or_false] at hb
    rcases hb with rfl|rfl
    · exact Heap.lt_size s1
    · exact Heap.lt_size eo2
   rw[z2] at hlt
   exact absurd hlt (Nat.lt_irrefl _)
 done:=by
  intro X hP hw hK hc i pins s σ H E I hf st hg
  obtain ⟨⟨old,s1⟩,s2⟩:=st
  obtain ⟨xs,hx,rfl⟩:=hg
  have hhd:X.A.in1.handled=none:=I.ok.hd hc
  obtain ⟨fp,Pv,S,D,a1,a2,a3,a4⟩:=c.draw X hP hw hK _ pins s σ H xs X.A.in1 I (hf it (by simp)) s2 hx hhd
  subst hP hw hK
  obtain ⟨g0,g1,g2,g3,g4,g5⟩:=hf it (by simp)
  exact wpAny_pyNext_enum_endD D s1 a1 fun h' eb=>⟨rfl,I.turned (t':=s.toks) (fun b o hb q=>eb b o hb q) g0 g1 g3 g4 g5⟩
 self:=fun _ _ _ _ _ st h=>wpAny_pyIter_enum st.1.choose_spec h
def aH0(K:Frag)(ta:TA):TI:=fun σ H R=>ta σ H fun vs H1=>∃ x C,vs=[x]/\aGJ K H1 x C/\R (Itn C) H1
theorem aJL{X:Cx}{es:List Expr}{k1}{tpos:Pos}{a:Expr}{ta:TA}{p pos:Pos}(hg:Gl X "enumerate")(hm:X.mg "enumerate"=none)(ha:PA X [a] ta)(hs:starEach [a] X.env=[(false,eval a X.env)]:=by rfl) :
  PI X (.Tuple es k1 tpos) (.Call (.Name "enumerate" p) [a] [] pos) (aH0 X.K ta):=by
 intro pins s σ H R I h
 refine Call_ (kW I hg hm PyProof.Rows.boot_enumerate (PyProof.Rows.callWith_type1 (thn (ha pos pins s σ H _ I h) fun us s1 zz0=>?_) hs rfl))
 obtain ⟨vs,H1,I1,r1,q1⟩:=zz0
 obtain ⟨x,C,rfl,c1,q⟩:=q1
 obtain ⟨u,rfl,ru⟩:=iB r1
 obtain ⟨o1,t1,a1,a2,a3,a4⟩:=aGK I1 ru c1
 refine Zp.aGL (a1 _ fun _ _ e=>e) a2 fun h' se si hz' kp=>?_
 have I2:Inv X pins σ H1 {s1 with heap:=h'}:=I1.kept (t':=s1.toks) kp
 refine wpAny_pyIter_enum se ?_
 refine ⟨s1.heap.objs.size+1,[s1.heap.objs.size+1,s1.heap.objs.size],_,_,H1,rfl,I2,aD3 (a3 _) (Nat.ne_of_gt (Nat.lt_succ_self _)),⟨⟨_,se⟩,a4 _ _ si⟩,fun b hb=>?_,q⟩
 rcases List.mem_cons.mp hb with z|z
 ·subst z
  exact I1.fpOk (Nat.le_succ _) (I1.hok.fresh (Nat.le_succ _))
 ·obtain rfl:b=s1.heap.objs.size:=by simpa using z
  exact I1.fpOk (Nat.le_refl _) (I1.hok.fresh (Nat.le_refl _))
end L2
namespace Fl
open PySem L2 PyProof.Rows
def rM(p:PyData×Nat):PyData:=.tuple [.int (p.2:Int),p.1]
def sV(x:PyData):R (List PyData):=(aY x).bind fun xs=>.ok (xs.zipIdx.map rM)
theorem aJM{K:Frag}{F B:Hp}{C:Col}{us:List V}{xs:List PyData}(hz:xs.length<=16777216)(h1:∀ H1,aF F H1->aF B H1->C H1 us)(d1:DatVs K F us xs):Yld K (Itn C) F B (xs.zipIdx.map rM) where
 len:=by rw[cY,List.length_map,List.length_zipIdx];exact hz
 go:=fun i F1 H1 a1 a2 a3 hi=>by
  rw[List.length_map,List.length_zipIdx] at hi
  have hs:aF F H1:=fun x o z=>a2 x o (a1 x o z)
  exact ⟨us,h1 H1 hs a3,by rw[d1.length];exact hi⟩
 yld:=fun i F1 H1 v H2 x a1 a2 a3 y e=>by
  obtain ⟨p,u,hp,rfl,rfl,y1⟩:=y
  have hs:aF F H1:=fun x o z=>a2 x o (a1 x o z)
  obtain ⟨dx,e1,r1⟩:=d1.get (y1 us (h1 H1 hs a3))
  rw[List.getElem?_map,List.getElem?_zipIdx,e1] at e
  simp only[Option.map_some,Nat.zero_add] at e
  cases e
  have sm:=aF.upd (o:=.tup [.int i,u]) (bG a2 hp)
  exact ⟨_,Ext.new a2 hp,.tup (SqT.of aL) (.cons (.int _) (.cons ((r1.same a1).same sm) .nil))⟩
 stop:=fun F1 H1 a1 a2 a3=>by
  have hs:aF F H1:=fun x o z=>a2 x o (a1 x o z)
  refine ⟨us,h1 H1 hs a3,?_⟩
  rw[List.length_map,List.length_zipIdx,d1.length]
section
variable{X:Cx}{c:Ct}{E:XK}{tg e:Expr}
theorem aJN{f:Sg->R PyData}(hK:X.K=c.K)(h:PI X tg e (aH0 X.K (eX (tV (a8 c) c E f) gH))):PIf X c E tg e (e1 sV f):=PI.imp h fun σ H Q zz0=>by
 obtain ⟨ρ,F,ab,k⟩:=zz0
 refine ⟨ρ,F,ab,(Rk.bind k).imp fun x _ q v F' H' s r=>?_⟩
 unfold sV at q
 cases e1:aY x with
 | bad=>rw[e1] at q;exact q.elim
 | ex e=>exact absurd e1 aD1
 | ok xs=>
  rw[e1] at q
  obtain ⟨C1,us,a1,a2,a3⟩:=aJK s.fh r e1
  rw[hK]
  exact ⟨v,C1,rfl,a1,Rk.ok q _ H' F' H' s (bV _) (aJM (aBZ e1) (fun H1 _ z=>a2 H1 z) a3)⟩
end
end Fl
namespace Fl
open PySem L2 PyProof.Rows
end Fl
namespace Fl
open PySem L2 PyProof.Rows
noncomputable def fzM(i:Nat)(ρ:Sg):Sg:=match ρ[i]? with
 | some (some (.m kvs))=>ρ.set i (some (.f kvs))
 | _=>ρ
def aGM(i:Nat)(f:Sg->R Fw):Sg->R Fw:=fun ρ=>f (fzM i ρ)
theorem Ab.frzM{c:Ct}{ρ:Sg}{σ:L2.St}{F H:Hp}(hw:c.w=c.g.w)(b:Ab c ρ σ F H)(i:Nat):∃ F',aF F F'/\Ab c (fzM i ρ) σ F' H:=by
 unfold fzM
 split
 ·rename_i xs hi
  obtain ⟨v,hp,p,es,rfl,⟨ep,h2⟩,h3,h4,h5⟩:=b.slot i _ hi
  exact ⟨_,aF.upd h3,b.publ hi hp rfl h2 h3 h4 rfl (show AF c.g c.K c.mg _ (.f xs) _ from ⟨p,es,rfl,⟨ep,by rw[aL,hw]⟩,h5.same (aF.upd h3)⟩)⟩
 ·exact ⟨F,bV F,b⟩
section
variable{X:Cx}{c:Ct}{E:XK}{e:Expr}{st:Stmt}
theorem aMH(hw:c.w=c.g.w)(i:Nat){f:Sg->R Fw}(h:PSf X c E st f):PSf X c E st (aGM i f):=PS.imp h fun D σ H zz0=>by
 obtain ⟨ρ,F,ab,k⟩:=zz0
 obtain ⟨F',s,ab'⟩:=ab.frzM hw i
 refine ⟨fzM i ρ,F',ab',?_⟩
 have k':Rk c E F H (f (fzM i ρ)) (f7 c F D):=k
 cases q:f (fzM i ρ) with
 | bad=>rw[q] at k';exact k'
 | ok w=>rw[q] at k';exact f7.same s k'
 | ex e=>rw[q] at k';exact k'
end
end Fl
namespace Zp
open PySem
def Raw(h:Heap)(d:Addr)(ar:Array DictEntry)(ep:Nat):Prop:=∃ o,h.get? d=some o/\o.ExactDict/\o.data=.dict ar ep
end Zp
namespace Fl
open PySem L2 PyProof.Rows
section
variable{X:Cx}{c:Ct}{E:XK}{tg e:Expr}
end
end Fl
namespace Zp
open PySem
end Zp
namespace Zp
open PySem
structure Jz(P1 P2:Nat->Value->Prop)(S1 S2:Nat->Heap->Prop)(s0:Heap)(z TI TO i1 i2 S:Addr)(n:Nat)(acc:Array Value)(h:Heap):Prop where
 size:acc.size<=n
 inc:∀ (j k p q:Nat),j < k->acc[j]? = some (.ref p)->acc[k]? = some (.ref q)->p < q
 top:∀ (j p:Nat),acc[j]? = some (.ref p)->p < h.objs.size
 told:∀ (j:Nat) v,acc[j]? = some v->∃ p x y,v=.ref p/\S < p/\IsPair h p x y/\P1 j x/\P2 j y
 s1:S1 acc.size h
 s2:S2 acc.size h
 ti:IsPair h TI (.ref i1) (.ref i2)
 keep:∀ c o,c≠z->c≠TO->c≠i1->c≠i2->c≠S->s0.get? c=some o->h.get? c=some o
 big:S < h.objs.size
 st:(acc.size=0/\IsZip h z TI TO .none/\∃ a b,IsPair h TO a b)\/(0 < acc.size/\∃ (T:Addr) (bb:Bool) (o:Obj),aPG h z TI TO (rawInt T) (.bool bb)/\h.get? T=some o/\S < T)
end Zp
namespace L2
open PySem PySem.Spec PyProof.Rows
structure LZ(H1 H2:Hp)(xs ys:List V)(l:Addr)(ps:List Addr):Prop where
 same:∀ b o,H1 b=some o->H2 b=some o
 new:H1 l=none
 lst:H2 l=some (.lst (ps.map .ref))
 len:ps.length=min xs.length ys.length
 tup:∀ (j:Nat) p,ps[j]? = some p->H1 p=none/\∃ u v,xs[j]? = some u/\ys[j]? = some v/\H2 p=some (.tup [u,v])
end L2
namespace HT
open PySem PySem.Spec PyProof.Rows L2
end HT
namespace Fl
open PySem L2 PyProof.Rows
end Fl
namespace L2
open PySem PySem.Spec PyProof.Rows
end L2
namespace Mc
open PySem L2 PyProof.Rows Fl
noncomputable def nU:Sg->R Fw:=(bH (vD (e1 dLen (e2 dIx (e2 dIx (rV 0) (eC (.int 0))) (eC (.int 1))))))
noncomputable def d7:List A->R A:=fnF 1 nU
noncomputable def nV:Sg->R Fw:=(bH (vD (eL (cK [none,some 1] (e1 aY (rV 0)) (stN 0) cS (e2 dIx (e2 dIx (rV 0) (eC (.int 1))) (rV 1))))))
noncomputable def jA:List A->R A:=fnF 2 nV
noncomputable def lH:Sg->R Fw:=(aK (b9 2 (vD (eSl dSl (eC (.str "abc")) oNo (oSo (rV 0)))))
 (aK (i9 (e1 wB (eV 1)) (stT [(stN 3),(stN 4)]) (sIf (e1 asB (e2 dNin (rV 4) (rV 2))) (sQ "NoStrip" ["at"] (aA (eV 3) aH)) sNx))
 (bH (vV 1))))
noncomputable def gM:List A->R A:=fnF 5 lH
noncomputable def pC:Sg->R Fw:=(bH (a5 2 gM (aA (a5 1 d7 (aA (vV 0) aH)) (aA (vV 1) aH))))
noncomputable def iQ:List A->R A:=fnF 2 pC
noncomputable def aD4:Sg->R Fw:=(bH (vD (e1 (fV "str") (rV 0))))
noncomputable def aD5:List A->R A:=fnF 1 aD4
noncomputable def uE:Sg->R Fw:=(aK (b9 1 (vD (e1 dTup (eL (cK [none] (eO (rV 0)) (stN 0) cS (bR (aA (eC (.int 1)) (aA (eV 0) aH))))))))
 (aK (b9 2 (vD (e1 dTup (eL (cK [none] (eO (rV 0)) (stN 0) cS (bR (aA (e1 dNeg (eC (.int 1))) (aA (eV 0) aH))))))))
 (bH (vD (bR (aA (eV 1) (aA (eV 2) aH)))))))
noncomputable def jO:List A->R A:=fnF 3 uE
noncomputable def lI:Sg->R Fw:=(aK (aBS (a5 2 iQ (aA (vV 0) (aA (vV 1) aH))))
 (aK (b9 2 (vD (e1 dTup (eL (cK [none] (e1 aY (eA (a5 2 jA (aA (vV 0) (aA (vD (e2 lF (eC (.str "abc")) (rV 1))) aH))))) (stN 0) cS (bR (aA (e2 dIx (rV 0) (eC (.int 1))) (aA (e2 dIx (rV 0) (eC (.int 0))) aH))))))))
 (bH (vD (bR (aA (eV 2) (aA (eV 2) aH)))))))
noncomputable def eF:List A->R A:=fnF 3 lI
noncomputable def nW:Sg->R Fw:=(aK (nS 4)
 (aK (bS (jN (e1 asB (e2 dIsnt (rV 2) (eC .none))) (e1 asB (e2 dEq (e2 dIx (rV 2) (eC (.int 0))) (rV 3)))) (aK (sIf (e1 asB (mF false 4 (eV 2))) (bH (vD (eC .none))) sNx)
 (aK (kH 4 (eV 2) (eC (.bool true)))
 (aK (b9 2 (vD (eIf (e1 asB (e2 dEq (rV 3) (eC (.int 1)))) (e2 dIx (e2 dIx (rV 1) (eC (.int 0))) (e2 dIx (rV 2) (eC (.int 1)))) (e2 dIx (e2 dIx (rV 0) (eC (.int 1))) (e2 dIx (rV 2) (eC (.int 1)))))))
 (b9 3 (vD (e1 dNeg (rV 3))))))))
 (bH (vV 2))))
noncomputable def eM:List A->R A:=fnF 5 nW
noncomputable def rN:Sg->R Fw:=(aK (b9 2 (vD (e1 dTup (eL (cK [none,some 0,some 1] (e1 aY (e2 dIx (rV 0) (eC (.int 0)))) (stN 0) cS (eA (a5 4 eM (aA (vV 1) (aA (vV 2) (aA (vV 0) (aA (vD (eC (.int 1))) aH)))))))))))
 (aK (b9 3 (vD (e1 dTup (eL (cK [none,some 0,some 1] (e1 aY (e2 dIx (rV 1) (eC (.int 1)))) (stN 0) cS (eA (a5 4 eM (aA (vV 1) (aA (vV 2) (aA (vV 0) (aA (vD (e1 dNeg (eC (.int 1)))) aH)))))))))))
 (bH (vD (bR (aA (eV 2) (aA (eV 3) aH)))))))
noncomputable def dZ:List A->R A:=fnF 4 rN
noncomputable def nX:Sg->R Fw:=(aK (dM 2 (cK [none,some 0] (e1 aY (eSl dSl (eC (.str "abc")) oNo (oSo (eA (a5 1 d7 (aA (vV 0) aH)))))) (stN 0) cS (bR (aA (eV 0) (aA (eA (a5 2 eF (aA (vV 1) (aA (vV 0) aH)))) aH)))))
 (aK (dM 3 (g7 (aA (bR (aA (eC (.str "")) (aA (eA (a5 1 jO (aA (vD (e1 dLen (rV 0))) aH))) aH))) aH)))
 (aK (sT 4 (sS (e2 dIx (e2 dIx (rV 3) (eC (.int 0))) (eC (.int 1))) (eC (.bool true)) xY))
 (aK (b9 5 (vD (eC (.int 0))))
 (aK (bS (e1 asB (e2 dLt (rV 5) (e1 dLen (rV 3)))) (aK (sFz 2 (i9 (e1 aY (eV 2)) (stT [(stN 6),(stN 7)]) (aK (b9 8 (a5 2 dZ (aA (vD (e2 dIx (e2 dIx (rV 3) (rV 5)) (eC (.int 1)))) (aA (vV 7) aH))))
 (sIf (e1 asB (mF true 4 (eV 8))) (aK (kH 4 (eV 8) (eC (.bool true)))
 (gK 3 (bR (aA (e2 cC (e2 dIx (e2 dIx (rV 3) (rV 5)) (eC (.int 0))) (rV 6)) (aA (eV 8) aH))))) sNx))))
 (aK (sIf (e1 asB (e2 dGt (e1 dLen (rV 3)) (rV 1))) (qA "TooMany" (rV 1)) sNx)
 (aBT 5 nQ (eC (.int 1))))))
 (sFz 3 (bH (vV 3))))))))
noncomputable def cZ:List A->R A:=fnF 9 nX
noncomputable def jB:Sg->R Fw:=(bH (a5 2 cZ (aA (vV 0) (aA (vD (eC (.int 300))) aH))))
noncomputable def eG:List A->R A:=fnF 1 jB
end Mc
namespace Mc
open PySem L2 PyProof.Rows
def cL(k:Nat)(rs:List Rw):Tb:=⟨rs.map fun r=>some ((r.c.getD k (0,0)).2,(r.c.getD k (0,0)).1),rs.map fun r=>some ((r.c.getD k (0,0)).2,(r.c.getD k (0,0)).1)⟩
theorem aGN(k:Nat)(rs:List Rw):tbD (cL k rs)=nE (v7 k rs) (v7 k rs):=by
 unfold tbD cL v7
 rw[List.map_map];rfl
theorem aAE{rs:List Rw}{sg:Nat}{r:Rw}{k:Nat}(M:Mach rs sg)(hr:r∈rs)(hk:k < sg):r.c[k]? = some (r.c.getD k (0,0))/\kY rs.length (r.c.getD k (0,0)):=by
 have h:=M.row r hr
 have hl:k < r.c.length:=by rw[h.2];exact hk
 have e:r.c[k]? = some (r.c.getD k (0,0)):=by rw[List.getD_eq_getElem?_getD,List.getElem?_eq_getElem hl];rfl
 exact ⟨e,h.1.2.2 _ (List.mem_of_getElem? e)⟩
theorem jZ{rs:List Rw}{sg k:Nat}(M:Mach rs sg)(hk:k < sg):(cL k rs).good rs.length:=by
 have key:∀ x∈rs.map fun r=>some ((r.c.getD k (0,0)).2,(r.c.getD k (0,0)).1),oX rs.length x:=fun x hx=>by
  obtain ⟨r,hr,rfl⟩:=List.mem_map.mp hx
  obtain ⟨_,g1,g2,g3⟩:=aAE M hr hk
  exact ⟨g3,g1,g2⟩
 exact ⟨by unfold cL;simp,by unfold cL;simp,key,key⟩
theorem aD6{rs:List Rw}{k:Nat}{w q:Int}(h0:0<=q)(h1:q < (rs.length:Int)):(cL k rs).at w q=some (((dL rs q).c.getD k (0,0)).2,((dL rs q).c.getD k (0,0)).1):=by
 unfold Tb.at cL
 have e:=oV h0 h1
 rw[ite_self,List.getD_eq_getElem?_getD,List.getElem?_map,e];rfl
def dI(rs:List Rw)(z:List Nat):List Tb:=z.map fun c=>cL (c - 97) rs
theorem pD{rs:List Rw}{sg:Nat}{z:List Nat}(M:Mach rs sg)(S:bC sg z):∀ t∈dI rs z,t.good rs.length:=fun t ht=>by
 obtain ⟨c,hc,rfl⟩:=List.mem_map.mp ht
 have:=of_decide_eq_true (S.2 c hc)
 exact jZ M (by omega)
noncomputable def bZ(rs:List Rw)(z:List Nat):Tb:=if z=[] then bM rs.length else aT rs.length (dI rs z)
theorem fZ{rs:List Rw}{sg:Nat}{z:List Nat}(M:Mach rs sg)(S:bC sg z):(bZ rs z).good rs.length:=by
 unfold bZ
 by_cases h:z=[]
 ·rw[if_pos h];exact nG _
 ·rw[if_neg h]
  refine hU (pD M S) ?_
  unfold dI
  rw[List.length_map]
  exact List.length_pos_iff.mpr h
theorem mG{rs:List Rw}{sg:Nat}{z:List Nat}{c:Nat}(M:Mach rs sg)(S:bC sg z)(hc:cN sg c=true):aT rs.length [bZ rs z,cL (c - 97) rs]=bZ rs (z++[c]):=by
 have hc':=of_decide_eq_true hc
 have gs:(cL (c - 97) rs).good rs.length:=jZ M (by omega)
 have e2:bZ rs (z++[c])=aT rs.length (dI rs z++[cL (c - 97) rs]):=by
  unfold bZ
  rw[if_neg (by simp)]
  unfold dI
  rw[List.map_append];rfl
 rw[e2]
 unfold bZ
 by_cases h:z=[]
 ·rw[if_pos h,aBG gs,h]
  show _=aT rs.length [cL (c - 97) rs]
  rw[aIQ gs]
 ·rw[if_neg h]
  have:=rE (m:=rs.length) (l1:=[]) (mid:=dI rs z) (l2:=[cL (c - 97) rs]) (fun t ht=>by simp at ht) (pD M S) (fun t ht=>by rw[List.mem_singleton.mp ht];exact gs) (by unfold dI;rw[List.length_map];exact List.length_pos_iff.mpr h)
  simpa using this
def hX(rs:List Rw)(z:List Nat)(s:Int×Int):Option ((Int×Int)⊕(Int×Int)):=
 let c:=(dL rs s.2).c.getD (z.getD (s.1.toNat - 1) 97 - 97) (0,0)
 if 0 < s.1+c.2/\s.1+c.2<=(z.length:Int) then some (.inl (s.1+c.2,c.1)) else some (.inr ((if 0 < s.1+c.2 then 1 else -1),c.1))
def j0(rs:List Rw)(z:List Nat)(s:Int×Int):Prop:=1<=s.1/\s.1<=(z.length:Int)/\0<=s.2/\s.2 < (rs.length:Int)
theorem j0.valid{rs:List Rw}{z:List Nat}{s:Int×Int}(h:j0 rs z s):pW rs z s:=⟨by have:=h.1;omega,by have:=h.2.1;omega,h.2.2⟩
theorem vE{rs:List Rw}{sg:Nat}{z:List Nat}{s:Int×Int}(M:Mach rs sg)(S:bC sg z)(V:j0 rs z s):∃ ch cc,z[s.1.toNat - 1]? = some ch/\cN sg ch=true/\z.getD (s.1.toNat - 1) 97=ch/\(dL rs s.2).c[ch - 97]? = some cc/\(dL rs s.2).c.getD (ch - 97) (0,0)=cc/\kY rs.length cc:=by
 have h0:s.1≠0:=by have:=V.1;omega
 have h1:s.1≠(z.length:Int)+1:=by have:=V.2.1;omega
 obtain ⟨ch,a1,a2,a3⟩:=zU S V.valid h0 h1
 obtain ⟨cc,b1,b2,b3⟩:=aFP M S V.valid h0 h1
 rw[a3] at b1 b2
 exact ⟨ch,cc,a1,a2,a3,b1,b2,b3⟩
theorem with_step{rs:List Rw}{sg:Nat}{z:List Nat}{s:Int×Int}(M:Mach rs sg)(S:bC sg z)(V:j0 rs z s)(w:Int) :
  (∃ s',hX rs z s=some (.inl s')/\j0 rs z s'/\∃ w',aN (dI rs z) (s.1 - 1,w,s.2)=some (.inl (s'.1 - 1,w',s'.2)))\/∃ o,hX rs z s=some (.inr o)/\aN (dI rs z) (s.1 - 1,w,s.2)=some (.inr o):=by
 obtain ⟨ch,cc,a1,a2,a3,b1,b2,g1,g2,g3⟩:=vE M S V
 have hl:((dI rs z).length:Int)=(z.length:Int):=by unfold dI;simp
 have hx:(s.1 - 1).toNat=s.1.toNat - 1:=by have:=V.1;omega
 have hb:aN (dI rs z) (s.1 - 1,w,s.2)=if 0<=s.1 - 1+cc.2/\s.1 - 1+cc.2 < (z.length:Int) then some (.inl (s.1 - 1+cc.2,cc.2,cc.1)) else some (.inr (cc.2,cc.1)):=by
  have e:(dI rs z).getD (s.1 - 1).toNat ⟨[],[]⟩=cL (ch - 97) rs:=by
   rw[List.getD_eq_getElem?_getD,hx]
   unfold dI
   rw[List.getElem?_map,a1];rfl
  unfold aN
  dsimp only
  rw[e,aD6 V.2.2.1 V.2.2.2,b2,hl]
 have hw:hX rs z s=if 0 < s.1+cc.2/\s.1+cc.2<=(z.length:Int) then some (.inl (s.1+cc.2,cc.1)) else some (.inr ((if 0 < s.1+cc.2 then 1 else -1),cc.1)):=by
  unfold hX
  rw[a3,b2]
 by_cases hin:0 < s.1+cc.2/\s.1+cc.2<=(z.length:Int)
 ·rw[if_pos hin] at hw
  rw[if_pos (by omega)] at hb
  refine .inl ⟨_,hw,⟨by show 1<=s.1+cc.2;omega,hin.2,g1,g2⟩,cc.2,?_⟩
  rw[hb,show s.1 - 1+cc.2=s.1+cc.2 - 1 by omega]
 ·rw[if_neg hin] at hw
  rw[if_neg (by omega)] at hb
  refine .inr ⟨_,hw,?_⟩
  rw[hb]
  have v1:=V.1
  have v2:=V.2.1
  rcases g3 with g3|g3
  ·rw[if_pos (by omega),g3]
  ·rw[if_neg (by omega),g3]
theorem x4{rs:List Rw}{sg:Nat}{z:List Nat}{s:Int×Int}(M:Mach rs sg)(S:bC sg z)(V:j0 rs z s)(w:Int):bQ (hX rs z) s=bQ (aN (dI rs z)) (s.1 - 1,w,s.2):=by
 refine jV fun o=>⟨?_,?_⟩
 ·rintro ⟨n,h⟩
  refine ⟨n,?_⟩
  induction h generalizing w with
  | out h=>
   rcases with_step M S V w with ⟨s',e,_⟩|⟨o',e,g⟩
   · rw [h] at e; cases e
   · rw [h] at e; cases e; exact .out g
  | go h t ih=>
   rcases with_step M S V w with ⟨s',e,V',w',g⟩|⟨o',e,g⟩
   · rw [h] at e; cases e; exact .go g (ih V' w')
   · rw [h] at e; cases e
 ·rintro ⟨n,h⟩
  refine ⟨n,?_⟩
  generalize hs:(s.1 - 1,w,s.2)=p at h
  induction h generalizing s w with
  | out h=>
   subst hs
   rcases with_step M S V w with ⟨s',_,_,w',e⟩|⟨o',g,e⟩
   · rw [h] at e; cases e
   · rw [h] at e; cases e; exact .out g
  | go h t ih=>
   subst hs
   rcases with_step M S V w with ⟨s',g,V',w',e⟩|⟨o',g,e⟩
   · rw [h] at e; cases e; exact .go g (ih V' w' rfl)
   · rw [h] at e; cases e
noncomputable def gW(rs:List Rw)(z:List Nat)(p q:Int):Th:=if 1<=p/\p<=(z.length:Int) then bQ (hX rs z) (p,q) else some ((if 0 < p then 1 else -1),q)
theorem aB0{rs:List Rw}{sg:Nat}{z:List Nat}(M:Mach rs sg)(S:bC sg z):(bZ rs z).f=(List.range rs.length).map (fun q:Nat=>gW rs z 1 (q:Int))/\(bZ rs z).a=(List.range rs.length).map (fun q:Nat=>gW rs z (z.length:Int) (q:Int)):=by
 unfold bZ
 by_cases h:z=[]
 ·rw[if_pos h]
  subst h
  refine ⟨?_,?_⟩
  ·show (List.range rs.length).map _=_
   refine List.map_congr_left fun q hq=>?_
   unfold gW
   rw[if_neg (by simp),if_pos (by decide)]
  ·show (List.range rs.length).map _=_
   refine List.map_congr_left fun q hq=>?_
   unfold gW
   rw[if_neg (by simp),if_neg (by simp)]
 ·have hl:1<=z.length:=List.length_pos_iff.mpr h
  have hsl:((dI rs z).length:Int)=(z.length:Int):=by unfold dI;simp
  rw[if_neg h]
  refine ⟨?_,?_⟩
  ·show (List.range rs.length).map _=_
   refine List.map_congr_left fun q hq=>?_
   have hq:=List.mem_range.mp hq
   unfold gW
   rw[if_pos (by omega),x4 M S ⟨by show (1:Int)<=1;decide,by show (1:Int)<=_;omega,by show (0:Int)<=(q:Int);omega,by show (q:Int) < _;omega⟩ 1]
   rfl
  ·show (List.range rs.length).map _=_
   refine List.map_congr_left fun q hq=>?_
   have hq:=List.mem_range.mp hq
   unfold gW
   rw[if_pos (by omega),x4 M S ⟨by show (1:Int)<=(z.length:Int);omega,by show (z.length:Int)<=_;omega,by show (0:Int)<=(q:Int);omega,by show (q:Int) < _;omega⟩ (-1),hsl]
end Mc
namespace Fl
open PySem L2 PyProof.Rows
@[simp] theorem nY(d:PyData)(ρ:Sg):eC d ρ=.ok d:=id rfl
@[simp] theorem l6{α β:Type}(g:α->R β)(f:Sg->R α)(ρ:Sg):e1 g f ρ=(f ρ).bind g:=id rfl
@[simp] theorem qB{α β γ:Type}(g:α->β->R γ)(f:Sg->R α)(f':Sg->R β)(ρ:Sg):e2 g f f' ρ=(f ρ).bind fun x=>(f' ρ).bind fun y=>g x y:=id rfl
@[simp] theorem wF(i:Nat)(ρ:Sg):eV i ρ=match ρ[i]? with|some (some (.d x))=>.ok x|_=>.bad:=id rfl
@[simp] theorem j1(i:Nat)(ρ:Sg):rV i ρ=match ρ[i]? with|some (some (.d x))=>.ok x|some (some (.l xs))=>.ok (.list xs)|_=>.bad:=id rfl
@[simp] theorem aOB(i:Nat)(ρ:Sg):vV i ρ=match ρ[i]? with|some (some (.d x))=>.ok (.d x)|some (some (.x e))=>.ok (.x e)|some (some (.g k n f))=>.ok (.g k n f)|some (some (.f kvs))=>.ok (.f kvs)|_=>.bad:=id rfl
@[simp] theorem sW(f:Sg->R PyData)(ρ:Sg):vD f ρ=(f ρ).bind fun x=>.ok (.d x):=id rfl
@[simp] theorem aMI(x:PyData):getD (.d x)=.ok x:=id rfl
@[simp] theorem aOC(f:Sg->R A)(ρ:Sg):eA f ρ=(f ρ).bind getD:=id rfl
@[simp] theorem aOD(f:Sg->R (List PyData))(ρ:Sg):eL f ρ=(f ρ).bind fun xs=>.ok (.list xs):=id rfl
@[simp] theorem kT{α:Type}(ρ:Sg):(aH (α:=α)) ρ=.ok []:=id rfl
@[simp] theorem rO{α:Type}(f:Sg->R α)(g:Sg->R (List α))(ρ:Sg):aA f g ρ=(f ρ).bind fun x=>(g ρ).bind fun xs=>.ok (x::xs):=id rfl
@[simp] theorem aAF(f:Sg->R (List PyData))(ρ:Sg):bR f ρ=(f ρ).bind fun xs=>if xs.length<=16777216 then .ok (.tuple xs) else .bad:=id rfl
@[simp] theorem qD(f:Sg->R (List PyData))(ρ:Sg):g7 f ρ=(f ρ).bind fun xs=>if xs.length<=16777216 then .ok xs else .bad:=id rfl
@[simp] theorem aGO(n:Nat)(G:List A->R A)(f:Sg->R (List A))(ρ:Sg):a5 n G f ρ=(f ρ).bind fun as=>if as.length=n then G as else .bad:=id rfl
@[simp] theorem jC(n:Nat)(fb:Sg->R Fw)(as:List A):fnF n fb as=(fb (as.map some++List.replicate (n - as.length) none)).bind fun w=>match w with | .rt (.l _)=>.bad | .rt a=>.ok a | .nx _=>.ok (.d .none)|_=>.bad:=id rfl
@[simp] theorem aMJ(ρ:Sg):sNx ρ=.ok (.nx ρ):=id rfl
@[simp] theorem bU(f g:Sg->R Fw)(ρ:Sg):aK f g ρ=(f ρ).bind fun w=>match w with | .nx ρ'=>g ρ'|w=>.ok w:=id rfl
@[simp] theorem aJO(f:Sg->R A)(ρ:Sg):bH f ρ=(f ρ).bind fun a=>.ok (.rt a):=id rfl
@[simp] theorem aPI(ρ:Sg):aN2 ρ=.ok (.rt (.d .none)):=id rfl
@[simp] theorem pE(t:Sg->R Bool)(f g:Sg->R Fw)(ρ:Sg):sIf t f g ρ=(t ρ).bind fun b=>if b=true then f ρ else g ρ:=id rfl
@[simp] theorem aMK{α:Type}(t:Sg->R Bool)(f g:Sg->R α)(ρ:Sg):eIf t f g ρ=(t ρ).bind fun b=>if b=true then f ρ else g ρ:=id rfl
@[simp] theorem mV(i:Nat)(f:Sg->R A)(ρ:Sg):b9 i f ρ=(f ρ).bind fun a=>.ok (.nx (ρ.set i (some a))):=id rfl
@[simp] theorem lJ(i:Nat)(f:Sg->R (List PyData))(ρ:Sg):dM i f ρ=(f ρ).bind fun xs=>.ok (.nx (ρ.set i (some (.l xs)))):=id rfl
@[simp] theorem aPJ(f:Sg->R A)(ρ:Sg):aBS f ρ=(f ρ).bind fun _=>.ok (.nx ρ):=id rfl
@[simp] theorem aD7(i:Nat)(f:Sg->R Fw)(ρ:Sg):sFz i f ρ=f (fz i ρ):=id rfl
@[simp] theorem aQP(i:Nat)(ρ:Sg):fz i ρ=match ρ[i]? with|some (some (.l xs))=>ρ.set i (some (.d (.list xs)))|_=>ρ:=id rfl
@[simp] theorem aPP(i:Nat)(f:Sg->R PyData)(ρ:Sg):gK i f ρ=match ρ[i]? with|some (some (.l xs))=>(f ρ).bind fun x=>if xs.length < 16777216 then .ok (.nx (ρ.set i (some (.l (xs++[x]))))) else .bad|_=>.bad:=id rfl
@[simp] theorem aPQ(fs:PyData->Sg->Option Sg)(f:Sg->R PyData)(ρ:Sg):xX fs f ρ=(f ρ).bind fun x=>(xP (fs x ρ)).bind fun ρ'=>.ok (.nx ρ'):=id rfl
@[simp] theorem mX(fi:Sg->R (List PyData))(fs:PyData->Sg->Option Sg)(fb:Sg->R Fw)(ρ:Sg):i9 fi fs fb ρ=(fi ρ).bind fun xs=>kC fs fb xs ρ:=id rfl
@[simp] theorem nZ(js:List (Option Nat))(fi:Sg->R (List PyData))(fs:PyData->Sg->Option Sg)(ft:Sg->R Bool)(fe:Sg->R PyData)(ρ:Sg):cK js fi fs ft fe ρ=(fi ρ).bind fun xs=>compL fs ft fe (fM js ρ) xs:=id rfl
@[simp] theorem aOT(cn:Str)(fs:List Str)(f:Sg->R (List PyData))(ρ:Sg):sQ cn fs f ρ=(f ρ).bind fun xs=>if xs.length=fs.length then .ex ⟨cn,fs.zip xs⟩ else .bad:=id rfl
@[simp] theorem x5(i:Nat)(x:PyData)(ρ:Sg):stN i x ρ=some (ρ.set i (some (.d x))):=id rfl
@[simp] theorem aP7(fs:List (PyData->Sg->Option Sg))(xs:List PyData)(ρ:Sg):stT fs (.tuple xs) ρ=stL fs xs ρ:=id rfl
@[simp] theorem aPR(ρ:Sg):stL [] [] ρ=some ρ:=id rfl
@[simp] theorem aPK(f:PyData->Sg->Option Sg)(fs:List (PyData->Sg->Option Sg))(x:PyData)(xs:List PyData)(ρ:Sg):stL (f::fs) (x::xs) ρ=(f x ρ).bind (stL fs xs):=id rfl
@[simp] theorem aAG(ρ:Sg):cS ρ=.ok true:=id rfl
@[simp] theorem x6(b:Bool):asB (.bool b)=.ok b:=id rfl
@[simp] theorem aPS(f:Sg->R Bool)(ρ:Sg):mE f ρ=(f ρ).bind fun b=>.ok (!b):=id rfl
@[simp] theorem aAH(f g:Sg->R Bool)(ρ:Sg):jN f g ρ=(f ρ).bind fun b=>if b=true then g ρ else .ok false:=id rfl
@[simp] theorem aP8(f g:Sg->R Bool)(ρ:Sg):bOr f g ρ=(f ρ).bind fun b=>if b=true then .ok true else g ρ:=id rfl
@[simp] theorem aPT(f:Sg->R PyData)(ρ:Sg):aF4 f ρ=(f ρ).bind fun x=>(asB x).bind fun b=>.ok (.bool (!b)):=id rfl
@[simp] theorem aPU(f g:Sg->R PyData)(ρ:Sg):t4 f g ρ=(f ρ).bind fun x=>(asB x).bind fun b=>if b=true then g ρ else .ok (.bool false):=id rfl
@[simp] theorem aP9(f g:Sg->R PyData)(ρ:Sg):eOr f g ρ=(f ρ).bind fun x=>(asB x).bind fun b=>if b=true then .ok (.bool true) else g ρ:=id rfl
@[simp] theorem aQA(g g':PyData->PyData->R PyData)(fa fb fc:Sg->R PyData)(ρ:Sg):eCh g g' fa fb fc ρ=(fa ρ).bind fun x=>(fb ρ).bind fun y=>(g x y).bind fun z=>(asB z).bind fun k=>if k=true then (fc ρ).bind fun w=>g' y w else .ok (.bool false):=id rfl
@[simp] theorem aD8{α:Type}(g:PyData->Option Int->Option Int->R α)(f:Sg->R PyData)(lo hi:Sg->R (Option Int))(ρ:Sg):eSl g f lo hi ρ=(f ρ).bind fun x=>(lo ρ).bind fun l=>(hi ρ).bind fun h=>g x l h:=id rfl
@[simp] theorem aD9(ρ:Sg):oNo ρ=.ok none:=id rfl
@[simp] theorem aEA(f:Sg->R PyData)(ρ:Sg):oSo f ρ=(f ρ).bind fun x=>match x with | .int i=>.ok (some i)|_=>.bad:=id rfl
@[simp] theorem n4(f:Sg->R PyData)(ρ:Sg):eO f ρ=(f ρ).bind fun x=>match x with | .int j=>iZ 0 j|_=>.bad:=id rfl
@[simp] theorem aOE(f g:Sg->R PyData)(ρ:Sg):aI2 f g ρ=(f ρ).bind fun x=>(g ρ).bind fun y=>match x,y with | .int i,.int j=>iZ i j|_,_=>.bad:=id rfl
@[simp] theorem aPV(f:Sg->R PyData)(g:Sg->R (Option Int))(ρ:Sg):aPD f g ρ=(f ρ).bind fun x=>(g ρ).bind fun o=>if o=some (-1) then aL5 x else .bad:=id rfl
@[simp] theorem aPW(i:Nat)(g:PyData->PyData->R PyData)(f:Sg->R PyData)(ρ:Sg):aBT i g f ρ=(eV i ρ).bind fun x=>(f ρ).bind fun y=>(g x y).bind fun z=>.ok (.nx (ρ.set i (some (.d z)))):=id rfl
@[simp] theorem x8(i:Nat)(ρ:Sg):nS i ρ=.ok (.nx (ρ.set i (some (.m [])))):=id rfl
@[simp] theorem aJP(neg:Bool)(i:Nat)(f:Sg->R PyData)(ρ:Sg):mF neg i f ρ=(f ρ).bind fun k=>match ρ[i]? with|some (some (.m kvs))=>if cO k (kvs.map (·.1))=true then .ok (.bool (if neg=true then !dY kvs k else dY kvs k)) else .bad|some (some (.f kvs))=>if cO k (kvs.map (·.1))=true then .ok (.bool (if neg=true then !dY kvs k else dY kvs k)) else .bad|_=>.bad:=id rfl
@[simp] theorem aPL(i:Nat)(f:Sg->R PyData)(ρ:Sg):sR i f ρ=match ρ[i]? with|some (some (.m kvs))=>(f ρ).bind fun k=>if cO k (kvs.map (·.1))=true then (match f8 kvs k with|some v=>.ok v|none=>.bad) else .bad|some (some (.f kvs))=>(f ρ).bind fun k=>if cO k (kvs.map (·.1))=true then (match f8 kvs k with|some v=>.ok v|none=>.bad) else .bad|_=>.bad:=id rfl
@[simp] theorem aGP(i:Nat)(f g:Sg->R PyData)(ρ:Sg):kH i f g ρ=(g ρ).bind fun v=>match ρ[i]? with|some (some (.m kvs))=>(f ρ).bind fun k=>if cO k (kvs.map (·.1))=true/\kvs.length<=16777216 then .ok (.nx (ρ.set i (some (.m (putM kvs k v))))) else .bad|_=>.bad:=id rfl
@[simp] theorem sX(i j:Int):cC (.int i) (.int j)=.ok (.int (i+j)):=id rfl
@[simp] theorem aQB(i j:Int):dSub (.int i) (.int j)=.ok (.int (i - j)):=id rfl
@[simp] theorem aPX(i j:Int):nQ (.int i) (.int j)=.ok (.int (i+j)):=id rfl
@[simp] theorem aML(i:Int):dNeg (.int i)=.ok (.int (-i)):=id rfl
@[simp] theorem aH1(i j:Int):dLt (.int i) (.int j)=.ok (.bool (decide (i < j))):=id rfl
@[simp] theorem aQQ(i j:Int):dLe (.int i) (.int j)=.ok (.bool (decide (i<=j))):=id rfl
@[simp] theorem aQR(i j:Int):dGt (.int i) (.int j)=.ok (.bool (decide (j < i))):=id rfl
@[simp] theorem aQS(i j:Int):dGe (.int i) (.int j)=.ok (.bool (decide (j<=i))):=id rfl
theorem cU{i j:Int}(h:0 < j):dMod (.int i) (.int j)=.ok (.int (i % j)):=if_pos h
theorem fN{i j:Int}(h:0 < j)(h2:j < 18446744073709551616):dDiv (.int i) (.int j)=.ok (.int (i / j)):=if_pos ⟨h,h2⟩
theorem lK{i j:Int}(h : -18446744073709551616 < j)(h2:j < 18446744073709551616):dMul (.int i) (.int j)=.ok (.int (i * j)):=if_pos (.inr ⟨h,h2⟩)
theorem sY{i j:Int}(h : -18446744073709551616 < i)(h2:i < 18446744073709551616):dMul (.int i) (.int j)=.ok (.int (i * j)):=if_pos (.inl ⟨h,h2⟩)
@[simp] theorem mY(xs:List PyData):dLen (.list xs)=.ok (.int xs.length):=id rfl
@[simp] theorem aEB(xs:List PyData):dLen (.tuple xs)=.ok (.int xs.length):=id rfl
theorem x9{z:Str}(h:z.length<=16777216):dLen (.str z)=.ok (.int z.length):=if_pos h
@[simp] theorem aMM(xs:List PyData):dTup (.list xs)=.ok (.tuple xs):=id rfl
@[simp] theorem aQC(xs:List PyData):dTup (.tuple xs)=.ok (.tuple xs):=id rfl
@[simp] theorem aQD(xs:List PyData):aL0 (.list xs)=.ok xs:=id rfl
@[simp] theorem aQE(xs:List PyData):aL0 (.tuple xs)=.ok xs:=id rfl
@[simp] theorem aQF(i:Int):dInt (.int i)=.ok (.int i):=id rfl
@[simp] theorem aQG(b:Bool):dInt (.bool b)=.ok (.int (if b=true then 1 else 0)):=id rfl
@[simp] theorem aQT(x:PyData):dIs x .none=.ok (.bool (fU x)):=id rfl
@[simp] theorem aPY(x:PyData):dIsnt x .none=.ok (.bool (!fU x)):=id rfl
@[simp] theorem aPZ:fU .none=true:=id rfl
@[simp] theorem aP0(xs:List PyData):fU (.tuple xs)=false:=id rfl
@[simp] theorem aP1(i:Int):fU (.int i)=false:=id rfl
@[simp] theorem aP2(i:Str):fU (.str i)=false:=id rfl
theorem mZ{α:Type}{xs:List α}{i:Int}{v:α}(h0:0<=i)(h:xs[i.toNat]? = some v):atI xs i=some v:=by
 obtain ⟨j,rfl⟩:∃ j:Nat,i=j:=⟨i.toNat,by omega⟩
 exact eN (j:=j) h
theorem yA{α:Type}(x:α)(t:List α):atI (x::t) 0=some x:=eN (j:=0) rfl
theorem aAI{α:Type}(x y:α)(t:List α):atI (x::y::t) 1=some y:=eN (j:=1) rfl
theorem aJQ{α:Type}(x y z:α)(t:List α):atI (x::y::z::t) 2=some z:=eN (j:=2) rfl
theorem l7{xs:List PyData}{i:Int}{v:PyData}(h:atI xs i=some v):dIx (.tuple xs) (.int i)=.ok v:=by show (match atI xs i with|some v=>R.ok v|none=>.bad)=_;rw[h]
theorem kJ{xs:List PyData}{i:Int}{v:PyData}(h:atI xs i=some v):dIx (.list xs) (.int i)=.ok v:=by show (match atI xs i with|some v=>R.ok v|none=>.bad)=_;rw[h]
theorem aOF{z:Str}{i:Int}{u:Nat}(hz:z.length<=16777216)(h:atI z.cps.toList i=some u):dIx (.str z) (.int i)=.ok (.str ⟨#[u]⟩):=by
 show (if z.length<=sizeLine then match atI z.cps.toList i with|some u=>R.ok (PyData.str ⟨#[u]⟩)|none=>.bad else .bad)=_
 rw[cY,if_pos hz,h]
@[simp] theorem yB(x:PyData)(t:List PyData):dIx (.tuple (x::t)) (.int 0)=.ok x:=l7 (yA x t)
@[simp] theorem aEC(x y:PyData)(t:List PyData):dIx (.tuple (x::y::t)) (.int 1)=.ok y:=l7 (aAI x y t)
@[simp] theorem aQH(x y z:PyData)(t:List PyData):dIx (.tuple (x::y::z::t)) (.int 2)=.ok z:=l7 (aJQ x y z t)
@[simp] theorem aMN(x:PyData)(t:List PyData):dIx (.list (x::t)) (.int 0)=.ok x:=kJ (yA x t)
@[simp] theorem aMO(x y:PyData)(t:List PyData):dIx (.list (x::y::t)) (.int 1)=.ok y:=kJ (aAI x y t)
theorem rP{xs:List PyData}(h:xs.length<=16777216):aY (.tuple xs)=.ok xs:=if_pos h
theorem eJ{xs:List PyData}(h:xs.length<=16777216):aY (.list xs)=.ok xs:=if_pos h
theorem aGQ{z:Str}(h:z.cps.toList.length<=16777216):aY (.str z)=.ok (z.cps.toList.map fun u=>.str ⟨#[u]⟩):=if_pos h
theorem aED{x y:PyData}(hx:SeqAt.shaped x=true)(hy:SeqAt.shaped y=true):dEq x y=.ok (.bool (PyData.eqv x y)):=if_pos ⟨hx,hy⟩
theorem aEE{x y:PyData}(hx:SeqAt.shaped x=true)(hy:SeqAt.shaped y=true):dNe x y=.ok (.bool (!PyData.eqv x y)):=if_pos ⟨hx,hy⟩
@[simp] theorem aQI(T:String)(i:Int):fV T (.int i)=.ok (.bool (gL "int" T)):=id rfl
@[simp] theorem aQJ(T:String)(i:Str):fV T (.str i)=.ok (.bool (gL "str" T)):=id rfl
@[simp] theorem aQK(T:String)(i:List PyData):fV T (.tuple i)=.ok (.bool (gL "tuple" T)):=id rfl
@[simp] theorem aQL(T:String)(i:List PyData):fV T (.list i)=.ok (.bool (gL "list" T)):=id rfl
@[simp] theorem aQM(T:String)(i:Bool):fV T (.bool i)=.ok (.bool (gL "bool" T)):=id rfl
@[simp] theorem aQN(T:String):fV T .none=.ok (.bool (gL "NoneType" T)):=id rfl
theorem aOG{xs:List PyData}{lo hi:Option Int}(h:¬ (HT.sIx xs.length 0 lo=0/\HT.sIx xs.length xs.length hi=xs.length)):dSl (.tuple xs) lo hi=.ok (.tuple (lB xs lo hi)):=by
 unfold dSl;exact if_pos h
theorem aOH(xs:List PyData)(lo hi:Option Int):dSl (.list xs) lo hi=.ok (.list (lB xs lo hi)):=id rfl
theorem aOI{z:Str}{lo hi:Option Int}(h:z.length<=16777216):dSl (.str z) lo hi=.ok (.str (Txt.slice z lo hi)):=by
 unfold dSl;exact if_pos h
theorem aMP{xs ys:List PyData}(h:xs.isEmpty=false)(h2:xs.length+ys.length<=16777216):cC (.tuple xs) (.tuple ys)=.ok (.tuple (xs++ys)):=by
 unfold cC;exact if_pos ⟨h,by rw[cY];exact h2⟩
theorem aEF{x y:Str}(h:x.length+y.length<=16777216):cC (.str x) (.str y)=.ok (.str (x++y)):=by
 unfold cC;exact if_pos (by rw[cY];exact h)
theorem compL_of{α:Type}{fs:PyData->Sg->Option Sg}{fe:Sg->R PyData}{ρ0:Sg}{d:α->PyData}{g:α->PyData}:∀ {xs:List α},(∀ x∈xs,∃ ρ1,fs (d x) ρ0=some ρ1/\fe ρ1=.ok (g x))->compL fs cS fe ρ0 (xs.map d)=.ok (xs.map g)
 | [],_=>rfl
 | x::t,h=>by
  obtain ⟨ρ1,h1,h2⟩:=h x List.mem_cons_self
  rw[List.map_cons]
  unfold compL
  rw[h1,compL_of fun y hy=>h y (List.mem_cons_of_mem _ hy),o6,R.bind_ok,aAG,R.noEx_ok,R.bind_ok,if_pos rfl,h2];rfl
theorem iH{α:Type}{fs:PyData->Sg->Option Sg}{fb:Sg->R Fw}{d:α->PyData}{xs:List α}{ρ:Sg}(J:Nat->Sg->Prop)(h0:J 0 ρ)(hs:∀ (i:Nat) (x:α) (ρ:Sg),xs[i]? = some x->J i ρ->∃ ρ1 ρ2,fs (d x) ρ=some ρ1/\(fb ρ1=.ok (.nx ρ2)\/fb ρ1=.ok (.ct ρ2))/\J (i+1) ρ2) :
  ∃ ρ',kC fs fb (xs.map d) ρ=.ok (.nx ρ')/\J xs.length ρ':=by
 induction xs generalizing ρ J with
 | nil=>exact ⟨ρ,rfl,h0⟩
 | cons x t ih=>
  obtain ⟨ρ1,ρ2,h1,h2,h3⟩:=hs 0 x ρ rfl h0
  obtain ⟨ρ',q1,q2⟩:=ih (ρ:=ρ2) (fun i=>J (i+1)) h3 (fun i y ρ hy hj=>hs (i+1) y ρ (by simpa using hy) hj)
  refine ⟨ρ',?_,q2⟩
  rw[List.map_cons]
  unfold kC
  rw[h1,o6,R.bind_ok]
  rcases h2 with h2|h2<;>rw[h2]<;>exact q1
end Fl
namespace Fl
open PySem L2 PyProof.Rows
theorem pF{t:Sg->R Bool}{b:Sg->R Fw}{ρ ρ':Sg}(h1:t ρ=.ok true)(h2:b ρ=.ok (.nx ρ')):bS t b ρ=bS t b ρ':=by
 rw[l5,h1,R.bind_ok,if_pos rfl,h2];rfl
theorem vF{t:Sg->R Bool}{b:Sg->R Fw}{ρ:Sg}{a:A}(h1:t ρ=.ok true)(h2:b ρ=.ok (.rt a)):bS t b ρ=.ok (.rt a):=by
 rw[l5,h1,R.bind_ok,if_pos rfl,h2];rfl
theorem gN{t:Sg->R Bool}{b:Sg->R Fw}{ρ:Sg}(h1:t ρ=.ok false):bS t b ρ=.ok (.nx ρ):=by
 rw[l5,h1,R.bind_ok,if_neg (by decide)]
def been{α:Type}(d:α->PyData)(ps:List α):List (PyData×PyData):=ps.map fun p=>(d p,.bool true)
theorem pG{α:Type}(d:α->PyData)(ps:List α):(been d ps).map (·.1)=ps.map d:=by unfold been;rw[List.map_map];rfl
theorem n5{α:Type}{d:α->PyData}(hd:∀ a b,d a=d b->a=b){ps:List α}{p:α}:dY (been d ps) (d p)=true↔p∈ps:=by
 rw[xV,pG,List.mem_map]
 exact ⟨fun ⟨q,h1,h2⟩=>hd q p h2▸h1,fun h=>⟨p,h,rfl⟩⟩
theorem l8{α:Type}{d:α->PyData}(hd:∀ a b,d a=d b->a=b){ps:List α}{p:α}(h:p∉ps):dY (been d ps) (d p)=false:=by
 cases q:dY (been d ps) (d p) with
 | false=>rfl
 | true=>exact absurd ((n5 hd).mp q) h
theorem rQ{α:Type}{d:α->PyData}(hd:∀ a b,d a=d b->a=b){ps:List α}{p:α}(h:p∉ps):putM (been d ps) (d p) (.bool true)=been d (ps++[p]):=by
 unfold putM
 rw[l8 hd h,if_neg (by decide)]
 unfold been
 rw[List.map_append];rfl
theorem l9{α:Type}{d:α->PyData}(hk:∀ a,g6 (d a)=true)(ps:List α)(p:α):cO (d p) ((been d ps).map (·.1))=true:=by
 unfold cO
 rw[pG,hk,Bool.true_and,Bool.or_eq_true,List.all_eq_true]
 refine .inl fun x hx=>?_
 obtain ⟨q,_,rfl⟩:=List.mem_map.mp hx
 exact hk q
theorem rR{α:Type}(d:α->PyData)(ps:List α):(been d ps).length=ps.length:=by unfold been;rw[List.length_map]
def prD(p:Int×Int):PyData:=.tuple [.int p.1,.int p.2]
theorem kU(a b:Int×Int)(h:prD a=prD b):a=b:=by
 unfold prD at h
 injection h with h
 injection h with h1 h2
 injection h2 with h2 _
 injection h1 with h1
 injection h2 with h2
 exact Prod.ext h1 h2
theorem qE(a:Int×Int):g6 (prD a)=true:=rfl
end Fl
namespace Mc
open PySem L2 PyProof.Rows Fl
theorem aAJ{r:Rw}{rs:List Rw}:d7 [.d (bE (r::rs))]=.ok (.d (.int r.c.length)):=by
 simp[d7,nU,bE,eB]
theorem aGR{n:Nat}(h1:1<=n)(h3:n<=3)(z:Str):∀ (cs:List Nat) (k:Nat) (u3 u4:Option A),
  kC (stT [stN 3,stN 4]) (sIf (e1 asB (e2 dNin (rV 4) (rV 2))) (sQ "NoStrip" ["at"] (aA (eV 3) aH)) sNx) (iF k (cs.map fun u=>.str ⟨#[u]⟩)) [some (.d (.int n)),some (.d (.str z)),some (.d (.str (Txt.slice "abc" none (some (n:Int))))),u3,u4] =
  match jU n k cs with
  | some i=>.ex ⟨"NoStrip",[("at",.int i)]⟩
  | none=>.ok (.nx [some (.d (.int n)),some (.d (.str z)),some (.d (.str (Txt.slice "abc" none (some (n:Int))))),if cs=[] then u3 else some (.d (.int ((k+cs.length - 1:Nat):Int))),if cs=[] then u4 else (cs.getLast?.map fun u=>A.d (.str ⟨#[u]⟩))]):=by
 intro cs
 induction cs with
 | nil=>intro k u3 u4;rfl
 | cons c t ih=>
  intro k u3 u4
  have hin:dNin (.str ⟨#[c]⟩) (.str (Txt.slice "abc" none (some (n:Int))))=.ok (.bool (!cN n c)):=by
   show R.ok (PyData.bool (!_))=_
   rw[aFO h1 h3]
  rw[List.map_cons,iF]
  unfold kC
  rw[sH]
  cases hs:cN n c with
  | false=>simp[hin,hs]
  | true=>
   simp[hin,hs,ih]
   cases jU n (k+1) t with
   | some i=>rfl
   | none=>
    simp
    cases t with
    | nil=>simp
    | cons c' t'=>simp<;>try omega
theorem aOJ{n:Nat}(h1:1<=n)(h3:n<=3){z:Str}(hz:z.cps.toList.length<=16777216):gM [.d (.int n),.d (.str z)]=match jU n 0 z.cps.toList with
  | some i=>.ex ⟨"NoStrip",[("at",.int i)]⟩
  | none=>.ok (.d (.str z)):=by
 have hs:dSl (.str "abc") none (some (n:Int))=.ok (.str (Txt.slice "abc" none (some (n:Int)))):=by
  show (if ("abc":Str).length<=16777216 then R.ok _ else .bad)=_
  exact if_pos (by decide)
 have hn:wB (.str z)=.ok (iF 0 (z.cps.toList.map fun u=>.str ⟨#[u]⟩)):=by
  show (if z.cps.toList.length<=16777216 then R.ok _ else .bad)=_
  exact if_pos hz
 simp only[gM,lH,jC,bU,mV,sW,aD8,nY,aD9,aEA,R.bind_ok,j1,mX,l6,wF,List.map_cons,List.map_nil,List.cons_append,List.nil_append,List.length_cons,List.length_nil]
 simp only[List.replicate,List.getElem?_cons_zero,List.getElem?_cons_succ,hs,R.bind_ok,List.set_cons_succ,List.set_cons_zero,hn,aGR h1 h3]
 cases jU n 0 z.cps.toList with
 | some i=>rfl
 | none=>rfl
theorem Mach.cons{rs:List Rw}{sg:Nat}(M:Mach rs sg):∃ r t,rs=r::t/\r.c.length=sg:=by
 cases rs with
 | nil=>have:=M.len;simp at this
 | cons r t=>exact ⟨r,t,rfl,(M.row r List.mem_cons_self).2⟩
theorem aMQ{rs:List Rw}{sg:Nat}(M:Mach rs sg){z:Str}(hz:z.cps.toList.length<=16777216):iQ [.d (bE rs),.d (.str z)]=match jU sg 0 z.cps.toList with
  | some i=>.ex ⟨"NoStrip",[("at",.int i)]⟩
  | none=>.ok (.d (.str z)):=by
 obtain ⟨r,t,rfl,hr⟩:=M.cons
 simp[iQ,pC,aAJ,hr,aOJ M.sg1 M.sg3 hz]
 cases jU sg 0 z.cps.toList<;>rfl
theorem aGS{rs:List Rw}{sg:Nat}(M:Mach rs sg){z:Str}(S:bC sg z.cps.toList):iQ [.d (bE rs),.d (.str z)]=.ok (.d (.str z)):=by
 rw[aMQ M (by have:=S.1;omega),w5 S.2]
def ck(k:Nat)(r:Rw):Int×Int:=r.c.getD k (0,0)
theorem aJR{rs:List Rw}{sg k:Nat}(M:Mach rs sg)(hk:k < sg):jA [.d (bE rs),.d (.int k)]=.ok (.d (.list (rs.map fun r=>d6 (ck k r)))):=by
 have h:=compL_of (fs:=stN 0) (fe:=e2 dIx (e2 dIx (rV 0) (eC (.int 1))) (rV 1)) (ρ0:=[none,some (.d (.int k))]) (d:=eB) (g:=fun r=>d6 (ck k r)) (xs:=rs) fun r hr=>by
  refine ⟨_,rfl,?_⟩
  have e:dIx (.tuple (r.c.map d6)) (.int (k:Int))=.ok (d6 (ck k r)):=l7 (eN (j:=k) (by rw[List.getElem?_map,(aAE M hr hk).1];rfl))
  simp[eB,e]
 have hl:(rs.map eB).length<=16777216:=by have:=M.len2;rw[List.length_map];omega
 simp[jA,nV,bE,rP hl,fM,h]
theorem iR{n:Nat}(h:n<=16777216):iZ 0 (n:Int)=.ok ((List.range n).map fun i:Nat=>.int (i:Int)):=by
 unfold iZ
 rw[if_pos (by omega)]
 unfold lA
 simp
theorem aOK{n:Nat}(h:n<=1000):jO [.d (.int n)]=.ok (.d (tbD (bM n))):=by
 have h1:=compL_of (fs:=stN 0) (fe:=bR (aA (eC (.int 1)) (aA (eV 0) aH))) (ρ0:=[none]) (d:=fun i:Nat=>.int (i:Int)) (g:=fun i:Nat=>fH 1 (i:Int)) (xs:=List.range n) fun i _=>⟨_,rfl,by simp[fH]⟩
 have h2:=compL_of (fs:=stN 0) (fe:=bR (aA (e1 dNeg (eC (.int 1))) (aA (eV 0) aH))) (ρ0:=[none]) (d:=fun i:Nat=>.int (i:Int)) (g:=fun i:Nat=>fH (-1) (i:Int)) (xs:=List.range n) fun i _=>⟨_,rfl,by simp[fH]⟩
 have hr:=iR (n:=n) (by omega)
 rw[aIP]
 simp only[jO,uE,jC,bU,mV,sW,l6,aOD,nZ,n4,j1,R.bind_ok,List.map_cons,List.map_nil,List.cons_append,List.nil_append,List.length_cons,List.length_nil,List.replicate,List.getElem?_cons_zero,hr,fM,Option.bind_none,h1,h2,aMM,List.set_cons_succ,List.set_cons_zero,aJO,aAF,rO,kT,wF,List.getElem?_cons_succ]
 rw[if_pos (by decide)]
 rfl
theorem aEG(z y:Str):lF (.str z) (.str y)=match Builtin.Str.occurrences z y 0 z.length 1 with|i::_=>R.ok (PyData.int i)|[]=>.bad:=rfl
theorem aAK{c:Nat}(h:cN 3 c=true):lF (.str "abc") (.str ⟨#[c]⟩)=.ok (.int ((c - 97:Nat):Int)):=by
 obtain ⟨r,e⟩:=aC9 h
 rw[aEG,e]
theorem yC{n c:Nat}(hn:n<=3)(h:cN n c=true):cN 3 c=true:=decide_eq_true (by have:=of_decide_eq_true h;omega)
theorem aEH{sg c:Nat}(hc:cN sg c=true):bC sg (⟨#[c]⟩:Str).cps.toList:=⟨by simp,fun x hx=>by
 have:x=c:=by simpa using hx
 rw[this];exact hc⟩
theorem aOL{rs:List Rw}{sg c:Nat}(M:Mach rs sg)(hc:cN sg c=true):eF [.d (bE rs),.d (.str ⟨#[c]⟩)]=.ok (.d (tbD (cL (c - 97) rs))):=by
 have hk:c - 97 < sg:=by have:=of_decide_eq_true hc;omega
 have h1:=compL_of (fs:=stN 0) (fe:=bR (aA (e2 dIx (rV 0) (eC (.int 1))) (aA (e2 dIx (rV 0) (eC (.int 0))) aH))) (ρ0:=[none]) (d:=fun r:Rw=>d6 (ck (c - 97) r)) (g:=fun r:Rw=>fH (ck (c - 97) r).2 (ck (c - 97) r).1) (xs:=rs) fun r _=>⟨_,rfl,by simp[fH,d6]⟩
 have hl:(rs.map fun r:Rw=>d6 (ck (c - 97) r)).length<=16777216:=by have:=M.len2;rw[List.length_map];omega
 rw[aGN]
 simp[eF,lI,aGS M (aEH hc),aAK (yC M.sg3 hc),aJR M hk,eJ hl,fM,h1,nE]
 unfold v7 ck
 simp
end Mc
namespace Mc
open PySem L2 PyProof.Rows Fl
theorem rS(s:Int×Int):thD (some s)=prD s:=id rfl
theorem kK(i:Int):SeqAt.shaped (.int i)=true:=id rfl
theorem aEI(i j:Int):PyData.eqv (.int i) (.int j)=decide (i=j):=by
 rw[PyData.eqv.eq_5]
 by_cases h:i=j
 · simp [h]
 · simp [h]
theorem hZ(i j:Int):dEq (.int i) (.int j)=.ok (.bool (decide (i=j))):=by rw[aED (kK i) (kK j),aEI]
theorem aMR(s:Int×Int):dIx (prD s) (.int 0)=.ok (.int s.1):=yB _ _
theorem aMS(s:Int×Int):dIx (prD s) (.int 1)=.ok (.int s.2):=aEC _ _ _
theorem aJS(s:Int×Int):fU (prD s)=false:=id rfl
noncomputable def gT:Sg->R Bool:=(jN (e1 asB (e2 dIsnt (rV 2) (eC .none))) (e1 asB (e2 dEq (e2 dIx (rV 2) (eC (.int 0))) (rV 3))))
noncomputable def gB:Sg->R Fw:=(aK (sIf (e1 asB (mF false 4 (eV 2))) (bH (vD (eC .none))) sNx)
 (aK (kH 4 (eV 2) (eC (.bool true)))
 (aK (b9 2 (vD (eIf (e1 asB (e2 dEq (rV 3) (eC (.int 1)))) (e2 dIx (e2 dIx (rV 1) (eC (.int 0))) (e2 dIx (rV 2) (eC (.int 1)))) (e2 dIx (e2 dIx (rV 0) (eC (.int 1))) (e2 dIx (rV 2) (eC (.int 1)))))))
 (b9 3 (vD (e1 dNeg (rV 3)))))))
theorem aGT:nW=aK (nS 4) (aK (bS gT gB) (bH (vV 2))):=id rfl
noncomputable def gρ(a b:Tb)(th:Th)(w:Int)(ps:List (Int×Int)):Sg:=[some (.d (tbD a)),some (.d (tbD b)),some (.d (thD th)),some (.d (.int w)),some (.m (been prD ps))]
theorem aAL(a b:Tb)(w:Int)(ps:List (Int×Int)):gT (gρ a b none w ps)=.ok false:=by simp[gT,gρ,thD]
theorem uF(a b:Tb)(s:Int×Int)(w:Int)(ps:List (Int×Int)):gT (gρ a b (some s) w ps)=.ok (decide (s.1=w)):=by simp[gT,gρ,rS,aJS,aMR,hZ]
theorem aJT{t:Tb}{m:Nat}(h:t.good m){q:Int}(h0:0<=q)(h1:q < m):dIx (.tuple (t.f.map thD)) (.int q)=.ok (thD (t.at 1 q)):=by
 refine l7 (mZ h0 ?_)
 rw[List.getElem?_map]
 have:=(h.at (w:=1) h0 h1).1
 rw[if_pos rfl] at this
 rw[this];rfl
theorem aMT{t:Tb}{m:Nat}(h:t.good m){q:Int}(h0:0<=q)(h1:q < m):dIx (.tuple (t.a.map thD)) (.int q)=.ok (thD (t.at (-1) q)):=by
 refine l7 (mZ h0 ?_)
 rw[List.getElem?_map]
 have:=(h.at (w:=-1) h0 h1).1
 rw[if_neg (by decide)] at this
 rw[this];rfl
theorem aH2(t:Tb):dIx (tbD t) (.int 0)=.ok (.tuple (t.f.map thD)):=yB _ _
theorem aH3(t:Tb):dIx (tbD t) (.int 1)=.ok (.tuple (t.a.map thD)):=aEC _ _ _
theorem aMU{a b:Tb}{s:Int×Int}{w:Int}{ps:List (Int×Int)}(h:s∈ps):gB (gρ a b (some s) w ps)=.ok (.rt (.d .none)):=by
 have h1:=l9 qE ps s
 have h2:=(n5 kU).mpr h
 simp[gB,gρ,rS,h1,h2]
theorem aOM{a b:Tb}{m:Nat}(ha:a.good m)(hb:b.good m){s:Int×Int}{ps:List (Int×Int)}(h:s∉ps)(V:nF m s)(hp:ps.length<=16777216) :
  gB (gρ a b (some s) s.1 ps)=.ok (.nx (gρ a b (if s.1=1 then b.at 1 s.2 else a.at (-1) s.2) (-s.1) (ps++[s]))):=by
 have h1:=l9 qE ps s
 have h2:=l8 kU h
 have h3:=rQ kU h
 have h4:(been prD ps).length<=16777216:=by rw[rR];exact hp
 have i1:=aJT hb V.2.1 V.2.2
 have i2:=aMT ha V.2.1 V.2.2
 simp only[gB,gρ,rS,bU,pE,l6,aJP,wF,List.getElem?_cons_zero,List.getElem?_cons_succ,R.bind_ok,h1,if_true,h2,x6,Bool.false_eq_true,if_false,aMJ,aGP,nY,h4,and_self,h3,List.set_cons_zero,List.set_cons_succ,mV,sW,aMK,qB,j1,hZ,aMS,aH2,aH3,i1,i2,aML,decide_eq_true_eq]
 by_cases q:s.1=1
 ·simp[q,i1]
 ·simp[q,i2]
theorem aEJ{a b:Tb}{m:Nat}(ha:a.good m)(hb:b.good m)(hm:m<=1000){s0:Int×Int}:∀ (n:Nat) (ps:List (Int×Int)) (s:Int×Int),Und2 (dR a b) s0 ps s->(∀ p∈ps,nF m p)->nF m s->2 * m+1<=ps.length+n->
  aK (bS gT gB) (bH (vV 2)) (gρ a b (some s) s.1 ps)=.ok (.rt (.d (thD (bQ (dR a b) s0)))):=by
 intro n
 induction n with
 | zero=>
  intro ps s U hv V hn
  have:=w8 U.nd hv
  omega
 | succ n ih=>
  intro ps s U hv V hn
  have hT:gT (gρ a b (some s) s.1 ps)=.ok true:=by rw[uF,decide_eq_true rfl]
  rw[bU]
  by_cases hs:s∈ps
  ·rw[vF hT (aMU hs),U.met hs];rfl
  ·have hl:ps.length<=2 * m:=w8 U.nd hv
   rw[pF hT (aOM ha hb hs V (by omega))]
   have st:dR a b s=match (if s.1=1 then b.at 1 s.2 else a.at (-1) s.2) with
    | none=>none
    | some (w,q)=>if w = -s.1 then some (.inl (w,q)) else some (.inr (w,q)):=rfl
   rcases gone_box ha hb V with ⟨g,_⟩|⟨s',g,_,V'⟩|⟨o,g,_⟩
   ·cases hx:(if s.1=1 then b.at 1 s.2 else a.at (-1) s.2) with
    | none=>
     rw[gN (aAL _ _ _ _),U.sticks g]
     simp[gρ]
    | some x=>
     rw[st,hx] at g
     obtain ⟨w,q⟩:=x
     simp only at g
     split at g<;>cases g
   ·cases hx:(if s.1=1 then b.at 1 s.2 else a.at (-1) s.2) with
    | none=>rw[st,hx] at g;cases g
    | some x=>
     obtain ⟨w,q⟩:=x
     rw[st,hx] at g
     simp only at g
     split at g
     ·rename_i hw
      cases g
      have:=ih (ps++[s]) (w,q) (U.next hs (by rw[st,hx];simp only;rw[if_pos hw])) (fun p hp=>by
       rcases List.mem_append.mp hp with z|z
       · exact hv p z
       · rw [List.mem_singleton.mp z]; exact V) V' (by rw [List.length_append, List.length_singleton]; omega)
      rw[bU] at this
      rw[<-hw]
      exact this
     ·cases g
   ·cases hx:(if s.1=1 then b.at 1 s.2 else a.at (-1) s.2) with
    | none=>rw[st,hx] at g;cases g
    | some x=>
     obtain ⟨w,q⟩:=x
     rw[U.outs g]
     rw[st,hx] at g
     simp only at g
     split at g
     ·cases g
     ·rename_i hw
      cases g
      rw[gN (by rw[uF,decide_eq_false hw])]
      simp[gρ]
theorem aEK{a b:Tb}{m:Nat}(ha:a.good m)(hb:b.good m)(hm:m<=1000){th:Th}{w:Int}(ht:oX m th)(hw:w=1\/w = -1):eM [.d (tbD a),.d (tbD b),.d (thD th),.d (.int w)]=.ok (.d (thD (iC a b th w))):=by
 have h0:eM [.d (tbD a),.d (tbD b),.d (thD th),.d (.int w)]=(aK (bS gT gB) (bH (vV 2)) (gρ a b th w [])).bind fun w=>match w with | .rt (.l _)=>.bad | .rt a=>.ok a | .nx _=>.ok (.d .none)|_=>.bad:=by
  unfold eM
  rw[jC,aGT,bU]
  simp only[x8,R.bind_ok,List.map_cons,List.map_nil,List.cons_append,List.nil_append,List.length_cons,List.length_nil,List.replicate,List.set_cons_succ,List.set_cons_zero,gρ,been]
  try rfl
 rw[h0]
 cases th with
 | none=>
  rw[bU,gN (aAL _ _ _ _)]
  simp[gρ,iC]
 | some s=>
  by_cases q:s.1=w
  ·subst q
   rw[aEJ ha hb hm (2 * m+1) [] s .start (fun p hp=>by simp at hp) ht (by simp)]
   obtain ⟨d,q⟩:=s
   simp[iC]
  ·rw[bU,gN (by rw[uF,decide_eq_false q])]
   obtain ⟨d,qq⟩:=s
   simp[gρ,iC,show ¬ d=w from q]
theorem aH4{a b:Tb}{m:Nat}(ha:a.good m)(hb:b.good m)(hm:m<=1000):dZ [.d (tbD a),.d (tbD b)]=.ok (.d (tbD (aT m [a,b]))):=by
 have h1:=compL_of (fs:=stN 0) (fe:=eA (a5 4 eM (aA (vV 1) (aA (vV 2) (aA (vV 0) (aA (vD (eC (.int 1))) aH)))))) (ρ0:=[none,some (.d (tbD a)),some (.d (tbD b))]) (d:=thD) (g:=fun th=>thD (iC a b th 1)) (xs:=a.f) fun th hth=>⟨_,rfl,by simp[aEK ha hb hm (ha.gf th hth) (.inl rfl)]⟩
 have h2:=compL_of (fs:=stN 0) (fe:=eA (a5 4 eM (aA (vV 1) (aA (vV 2) (aA (vV 0) (aA (vD (e1 dNeg (eC (.int 1)))) aH)))))) (ρ0:=[none,some (.d (tbD a)),some (.d (tbD b))]) (d:=thD) (g:=fun th=>thD (iC a b th (-1))) (xs:=b.a) fun th hth=>⟨_,rfl,by simp[aEK ha hb hm (hb.ga th hth) (.inr rfl)]⟩
 have l1:(a.f.map thD).length<=16777216:=by rw[List.length_map,ha.lf];omega
 have l2:(b.a.map thD).length<=16777216:=by rw[List.length_map,hb.la];omega
 simp[dZ,rN,aH2,aH3,rP l1,rP l2,fM,h1,h2]
 unfold tbD nE
 rw[<-aFS ha hb,<-aFT ha hb,List.map_map,List.map_map]
 rfl
end Mc
namespace Mc
open PySem L2 PyProof.Rows Fl
end Mc
namespace Mc
open PySem L2 PyProof.Rows Fl
noncomputable def j2:Sg->R Fw:=(aK (b9 2 (vD (eC (.int 0))))
 (aK (sIf (e1 asB (e2 dGt (e1 dLen (rV 0)) (eC (.int 0)))) (b9 2 (vD (e2 dIx (rV 0) (e2 dMod (rV 1) (e1 dLen (rV 0)))))) sNx)
 (aK (b9 3 (vD (e2 dMod (e2 dMul (e2 cC (e2 cC (e2 dMod (rV 2) (eC (.int 2147483647))) (e2 dMul (eC (.int 7919)) (rV 1))) (eC (.int 1))) (eC (.int 48271))) (eC (.int 2147483647)))))
 (bH (vD (e2 cC (e2 dMul (e2 dDiv (rV 2) (eC (.int 2147483647))) (eC (.int 2147483659))) (e2 dMod (e2 cC (e2 dMul (rV 3) (eC (.int 69621))) (e2 dMul (eC (.int 104729)) (rV 1))) (eC (.int 2147483659)))))))))
noncomputable def bY:List A->R A:=fnF 4 j2
noncomputable def kL:Sg->R Fw:=(aK (sIf (e1 asB (e2 dEq (e2 dMod (rV 0) (eC (.int 3))) (eC (.int 0)))) (bH (vD (e2 dIx (eL (g7 (aA (eC (.str "by")) (aA (eC (.str "out")) aH)))) (e2 dMod (e2 dDiv (rV 0) (eC (.int 3))) (eC (.int 2)))))) sNx)
 (bH (vD (e2 dMod (e2 dDiv (rV 0) (eC (.int 3))) (rV 1)))))
noncomputable def fA:List A->R A:=fnF 2 kL
noncomputable def iI:Sg->R Fw:=(aK (b9 3 (vD (e2 dMod (rV 0) (e2 cC (rV 1) (eC (.int 2))))))
 (aK (b9 0 (vD (e2 dDiv (rV 0) (e2 cC (rV 1) (eC (.int 2))))))
 (aK (dM 4 (g7 aH))
 (aK (i9 (eO (rV 2)) (stN 5) (aK (gK 4 (bR (aA (e2 dMod (e2 dDiv (rV 0) (eC (.int 2))) (rV 1)) (aA (e2 dSub (eC (.int 1)) (e2 dMul (e2 dMod (rV 0) (eC (.int 2))) (eC (.int 2)))) aH))))
 (b9 0 (vD (e2 dDiv (rV 0) (e2 dMul (eC (.int 2)) (rV 1)))))))
 (aK (dM 6 (g7 (aA (eV 3) (aA (e2 dMod (rV 0) (e2 cC (rV 1) (eC (.int 2)))) aH))))
 (aK (dM 6 (cK [none,some 1] (e1 aY (rV 6)) (stN 0) cS (eIf (e1 asB (e2 dGe (rV 0) (rV 1))) (e2 dIx (eL (g7 (aA (eC (.str "by")) (aA (eC (.str "out")) aH)))) (e2 dSub (rV 0) (rV 1))) (eV 0))))
 (bH (vD (bR (aA (e2 dIx (rV 6) (eC (.int 0))) (aA (e1 dTup (rV 4)) (aA (e2 dIx (rV 6) (eC (.int 1))) aH))))))))))))
noncomputable def d3:List A->R A:=fnF 7 iI
noncomputable def iJ:Sg->R Fw:=(aK (dM 3 (g7 aH))
 (aK (i9 (eO (e2 cC (rV 2) (eC (.int 2)))) (stN 4) (aK (b9 0 (vD (e2 dMod (e2 cC (e2 dMul (rV 0) (eC (.int 48271))) (eC (.int 7919))) (eC (.int 2147483647)))))
 (gK 3 (e2 dDiv (rV 0) (eC (.int 64))))))
 (aK (b9 5 (vD (e1 dTup (eL (cK [none,some 1] (e1 aY (eSl dSl (rV 3) (oSo (eC (.int 2))) oNo)) (stN 0) cS (bR (aA (e2 dMod (rV 0) (rV 1)) (aA (e2 dSub (eC (.int 1)) (e2 dMul (e2 dDiv (e2 dMod (e2 dDiv (rV 0) (eC (.int 64))) (eC (.int 3))) (eC (.int 2))) (eC (.int 2)))) aH))))))))
 (bH (vD (bR (aA (eA (a5 2 fA (aA (vD (e2 dIx (rV 3) (eC (.int 0)))) (aA (vV 1) aH)))) (aA (eV 5) (aA (eA (a5 2 fA (aA (vD (e2 dIx (rV 3) (eC (.int 1)))) (aA (vV 1) aH)))) aH)))))))))
noncomputable def dC:List A->R A:=fnF 6 iJ
noncomputable def jP:Sg->R Fw:=(aK (dM 4 (g7 aH))
 (aK (i9 (eO (rV 2)) (stN 5) (sIf (jN (e1 asB (e2 dLt (e2 cC (rV 1) (rV 5)) (e1 dLen (rV 0)))) (e1 asB (e2 dEq (e2 dMod (e2 dIx (rV 0) (eC (.int 0))) (eC (.int 2))) (eC (.int 1))))) (gK 4 (eA (a5 3 d3 (aA (vD (e2 dIx (rV 0) (e2 cC (rV 1) (rV 5)))) (aA (vV 2) (aA (vV 3) aH)))))) (aK (b9 6 (a5 3 dC (aA (vD (e2 dMod (eA (a5 2 bY (aA (vV 0) (aA (vD (e2 cC (rV 1) (rV 5))) aH)))) (eC (.int 2147483647)))) (aA (vV 2) (aA (vV 3) aH)))))
 (aK (sIf (jN (e1 asB (e2 dEq (rV 5) (eC (.int 0)))) (jN (e1 asB (e1 (fV "str") (e2 dIx (rV 6) (eC (.int 0))))) (e1 asB (e2 dGt (e2 dMod (e2 dDiv (eA (a5 2 bY (aA (vV 0) (aA (vV 1) aH)))) (eC (.int 8))) (eC (.int 8))) (eC (.int 0)))))) (b9 6 (vD (e2 cC (bR (aA (e2 dMod (e2 dDiv (eA (a5 2 bY (aA (vV 0) (aA (vV 1) aH)))) (eC (.int 64))) (rV 2)) aH)) (eSl dSl (rV 6) (oSo (eC (.int 1))) oNo)))) sNx)
 (gK 4 (eV 6))))))
 (bH (vD (e1 dTup (rV 4))))))
noncomputable def fO:List A->R A:=fnF 7 jP
noncomputable def lL:Sg->R Fw:=(bH (vD (t4 (e1 (fV "int") (rV 0)) (aF4 (e1 (fV "bool") (rV 0))))))
noncomputable def eS:List A->R A:=fnF 1 lL
noncomputable def oC:Sg->R Fw:=(aK (nS 4)
 (aK (bS (e1 asB (eCh dLt dLe (eC (.int 0)) (rV 2) (e1 dLen (rV 1)))) (aK (sIf (e1 asB (mF false 4 (bR (aA (eV 2) (aA (eV 3) aH))))) (bH (vD (eC .none))) sNx)
 (aK (kH 4 (bR (aA (eV 2) (aA (eV 3) aH))) (eC (.bool true)))
 (aK (xX (stT [(stN 3),(stN 5)]) (e2 dIx (e2 dIx (e2 dIx (rV 0) (rV 3)) (eC (.int 1))) (e2 lF (eC (.str "abc")) (e2 dIx (rV 1) (e2 dSub (rV 2) (eC (.int 1)))))))
 (b9 2 (vD (e2 cC (rV 2) (rV 5))))))))
 (bH (vD (bR (aA (e2 dIx (eL (g7 (aA (e1 dNeg (eC (.int 1))) (aA (eC (.int 1)) aH)))) (e1 dInt (e2 dGt (rV 2) (eC (.int 0))))) (aA (eV 3) aH)))))))
noncomputable def eY:List A->R A:=fnF 6 oC
noncomputable def pH:Sg->R Fw:=(aK (dM 2 (e1 dLR (e1 dLen (rV 0))))
 (aK (dM 3 (cK [none,some 0,some 1] (e1 aY (rV 2)) (stN 0) cS (eA (a5 4 eY (aA (vV 1) (aA (vV 2) (aA (vD (eC (.int 1))) (aA (vV 0) aH))))))))
 (aK (dM 4 (cK [none,some 0,some 1] (e1 aY (rV 2)) (stN 0) cS (eA (a5 4 eY (aA (vV 1) (aA (vV 2) (aA (vD (e1 dLen (rV 2))) (aA (vV 0) aH))))))))
 (bH (vD (bR (aA (e1 dTup (rV 3)) (aA (e1 dTup (rV 4)) aH))))))))
noncomputable def lM:List A->R A:=fnF 5 pH
noncomputable def kD:Sg->R Fw:=(aK (nS 4)
 (aK (bS (e1 asB (eCh dLt dLe (eC (.int 0)) (rV 2) (e1 dLen (rV 1)))) (aK (sIf (e1 asB (mF false 4 (bR (aA (eV 2) (aA (eV 3) aH))))) (bH (vD (eC .none))) sNx)
 (aK (kH 4 (bR (aA (eV 2) (aA (eV 3) aH))) (eC (.bool true)))
 (aK (xX (stT [(stN 3),(stN 5)]) (e2 dIx (e2 dIx (e2 dIx (rV 0) (rV 3)) (eC (.int 1))) (e2 lF (eC (.str "abc")) (e2 dIx (rV 1) (e2 dSub (rV 2) (eC (.int 1)))))))
 (b9 2 (vD (e2 cC (rV 2) (rV 5))))))))
 (bH (vD (bR (aA (e2 dIx (eL (g7 (aA (e1 dNeg (eC (.int 1))) (aA (eC (.int 1)) aH)))) (e1 dInt (e2 dGt (rV 2) (eC (.int 0))))) (aA (eV 3) aH)))))))
noncomputable def fE:List A->R A:=fnF 6 kD
noncomputable def lN:Sg->R Fw:=(aK (dM 2 (e1 dLR (e1 dLen (rV 0))))
 (aK (dM 3 (cK [none,some 0,some 1] (e1 aY (rV 2)) (stN 0) cS (eA (a5 4 fE (aA (vV 1) (aA (vV 2) (aA (vD (eC (.int 1))) (aA (vV 0) aH))))))))
 (aK (dM 4 (cK [none,some 0,some 1] (e1 aY (rV 2)) (stN 0) cS (eA (a5 4 fE (aA (vV 1) (aA (vV 2) (aA (vD (e1 dLen (rV 2))) (aA (vV 0) aH))))))))
 (bH (vD (bR (aA (e1 dTup (rV 3)) (aA (e1 dTup (rV 4)) aH))))))))
noncomputable def d4:List A->R A:=fnF 5 lN
end Mc
namespace Mc
open PySem L2 PyProof.Rows Fl
def fC(ns:List Int):PyData:=.list (ns.map .int)
theorem m6(ns:List Int):dLen (fC ns)=.ok (.int ns.length):=by unfold fC;rw[mY,List.length_map]
theorem yD{ns:List Int}{i:Int}(h0:0<=i)(h1:i < ns.length):∃ v,dIx (fC ns) (.int i)=.ok (.int v):=by
 refine ⟨ns[i.toNat]'(by omega),kJ (mZ h0 ?_)⟩
 rw[List.getElem?_map,List.getElem?_eq_getElem (by omega)];rfl
theorem yE(ns:List Int)(k:Int):∃ v,bY [.d (fC ns),.d (.int k)]=.ok (.d (.int v)):=by
 by_cases h:(0:Int) < ns.length
 ·obtain ⟨v,hv⟩:=yD (ns:=ns) (i:=k % (ns.length:Int)) (Int.emod_nonneg _ (by omega)) (Int.emod_lt_of_pos _ h)
  have hm:dMod (.int k) (.int (ns.length:Int))=.ok (.int (k % (ns.length:Int))):=cU h
  have hd:0 < ns.length:=by omega
  refine ⟨v / 2147483647 * 2147483659+((v % 2147483647+7919 * k+1) * 48271 % 2147483647 * 69621+104729 * k) % 2147483659,?_⟩
  unfold bY j2
  simp[m6,hd,hm,hv,cU,lK,sY,fN]
 ·have hd:¬ 0 < ns.length:=by omega
  refine ⟨((7919 * k+1) * 48271 % 2147483647 * 69621+104729 * k) % 2147483659,?_⟩
  unfold bY j2
  simp[m6,hd,cU,lK,sY,fN]
theorem aMV(x y:PyData)(i:Int):∃ z,dIx (.list [x,y]) (.int (i % 2))=.ok z/\(z=x\/z=y):=by
 rcases Int.emod_two_eq i with h|h
 · rw [h]; exact ⟨x, aMN _ _, .inl rfl⟩
 · rw [h]; exact ⟨y, aMO _ _ _, .inr rfl⟩
theorem aH5(x:Int){n:Int}(hn:0 < n):∃ t:Tn,fA [.d (.int x),.d (.int n)]=.ok (.d t.d)/\t.good n:=by
 by_cases h:x % 3=0
 ·obtain ⟨z,hz,hzz⟩:=aMV (.str "by") (.str "out") (x / 3)
  have hd:decide (x % 3=0)=true:=decide_eq_true h
  have e:fA [.d (.int x),.d (.int n)]=.ok (.d z):=by
   unfold fA kL
   simp[cU,fN,hZ,hd,hz]
  rcases hzz with rfl|rfl
  ·exact ⟨.w "by",e,.inl rfl⟩
  ·exact ⟨.w "out",e,.inr rfl⟩
 ·have hd:decide (x % 3=0)=false:=decide_eq_false h
  refine ⟨.n (x / 3 % n),?_,Int.emod_nonneg _ (by omega),Int.emod_lt_of_pos _ hn⟩
  unfold fA kL
  simp[cU,fN,hZ,hd,hn]
  rfl
theorem aAM(x:Int){n:Int}{sg:Nat}(hn:0 < n)(hs:sg<=1000):∃ r:Rw,dC [.d (.int x),.d (.int n),.d (.int sg)]=.ok (.d (eB r))/\r.good n/\r.c.length=sg:=by
 have hr:iZ 0 ((sg:Int)+2)=.ok ((List.range (sg+2)).map fun i:Nat=>.int (i:Int)):=by
  have:=iR (n:=sg+2) (by omega)
  rw[show (((sg+2:Nat)):Int)=(sg:Int)+2 by omega] at this
  exact this
 obtain ⟨ρ',hf,y,ps,u4,hp,rfl⟩:=iH (fs:=stN 4) (fb:=aK (b9 0 (vD (e2 dMod (e2 cC (e2 dMul (rV 0) (eC (.int 48271))) (eC (.int 7919))) (eC (.int 2147483647))))) (gK 3 (e2 dDiv (rV 0) (eC (.int 64)))))
  (d:=fun i:Nat=>.int (i:Int)) (xs:=List.range (sg+2)) (ρ:=[some (.d (.int x)),some (.d (.int n)),some (.d (.int sg)),some (.l []),none,none])
  (fun i ρ=>∃ (y:Int) (ps:List Int) (u4:Option A),ps.length=i/\ρ=[some (.d (.int y)),some (.d (.int n)),some (.d (.int sg)),some (.l (ps.map .int)),u4,none]) ⟨x,[],none,rfl,rfl⟩
  (fun i k ρ hk hρ=>by
   obtain ⟨y,ps,u4,hp,rfl⟩:=hρ
   have hi:i < sg+2:=by have:=(List.getElem?_eq_some_iff.mp hk).1;simpa using this
   refine ⟨_,_,rfl,.inl ?_,(y * 48271+7919) % 2147483647,ps++[(y * 48271+7919) % 2147483647 / 64],some (.d (.int k)),by simp[hp],rfl⟩
   have hl:(ps.map PyData.int).length < 16777216:=by rw[List.length_map,hp];omega
   simp[lK,sY,cU,fN,hl]
   omega)
 rw[List.length_range] at hp
 obtain ⟨p0,p1,qs,rfl,hq⟩:∃ p0 p1 qs,ps=p0::p1::qs/\qs.length=sg:=by
  match ps,hp with
  | p0::p1::qs,hp=>exact ⟨p0,p1,qs,rfl,by simpa using hp⟩
 have hcut:dSl (.list ((p0::p1::qs).map .int)) (some 2) none=.ok (.list (qs.map .int)):=by
  show R.ok (PyData.list (lB _ _ _))=_
  unfold lB HT.sIx
  simp
  rw[List.take_of_length_le (by simp)]
 obtain ⟨t0,e0,g0⟩:=aH5 p0 hn
 obtain ⟨t1,e1',g1⟩:=aH5 p1 hn
 have hc:=compL_of (fs:=stN 0) (fe:=bR (aA (e2 dMod (rV 0) (rV 1)) (aA (e2 dSub (eC (.int 1)) (e2 dMul (e2 dDiv (e2 dMod (e2 dDiv (rV 0) (eC (.int 64))) (eC (.int 3))) (eC (.int 2))) (eC (.int 2)))) aH))) (ρ0:=[none,some (.d (.int n))]) (d:=PyData.int) (g:=fun q=>d6 (q % n,1 - q / 64 % 3 / 2 * 2)) (xs:=qs) fun q _=>⟨_,rfl,by simp[cU,fN,lK,hn,d6]⟩
 have hi:aY (.list (qs.map .int))=.ok (qs.map .int):=eJ (by rw[List.length_map];omega)
 refine ⟨⟨t0,qs.map fun q=>(q % n,1 - q / 64 % 3 / 2 * 2),t1⟩,?_,⟨g0,g1,fun c hc=>?_⟩,by simpa using hq⟩
 ·unfold dC iJ
  simp only[jC,List.map_cons,List.map_nil,List.cons_append,List.nil_append,List.length_cons,List.length_nil,List.replicate,bU,lJ,qD,kT,R.bind_ok]
  simp[hr]
  rw[hf]
  simp at hcut hi hc
  simp[hcut,hi,fM,hc,e0,e1',eB]
 ·obtain ⟨q,_,rfl⟩:=List.mem_map.mp hc
  refine ⟨Int.emod_nonneg _ (by omega),Int.emod_lt_of_pos _ hn,?_⟩
  simp only
  omega
end Mc
namespace Mc
open PySem L2 PyProof.Rows Fl
theorem aJU(x:Int){n:Int}{sg:Nat}(hn:0 < n)(hn2:n<=1000)(hs:sg<=1000):∃ r:Rw,d3 [.d (.int x),.d (.int n),.d (.int sg)]=.ok (.d (eB r))/\r.good n/\r.c.length=sg:=by
 have hr:=iR (n:=sg) (by omega)
 have hn3:(0:Int) < n+2:=by omega
 have hn4:n+2 < 18446744073709551616:=by omega
 have h2n:(0:Int) < 2 * n:=by omega
 have h2n':2 * n < 18446744073709551616:=by omega
 obtain ⟨ρ',hf,y,cs,u5,hp,hg,rfl⟩:=iH (fs:=stN 5) (fb:=aK (gK 4 (bR (aA (e2 dMod (e2 dDiv (rV 0) (eC (.int 2))) (rV 1)) (aA (e2 dSub (eC (.int 1)) (e2 dMul (e2 dMod (rV 0) (eC (.int 2))) (eC (.int 2)))) aH)))) (b9 0 (vD (e2 dDiv (rV 0) (e2 dMul (eC (.int 2)) (rV 1))))))
  (d:=fun i:Nat=>.int (i:Int)) (xs:=List.range sg) (ρ:=[some (.d (.int (x / (n+2)))),some (.d (.int n)),some (.d (.int sg)),some (.d (.int (x % (n+2)))),some (.l []),none,none])
  (fun i ρ=>∃ (y:Int) (cs:List (Int×Int)) (u5:Option A),cs.length=i/\(∀ c∈cs,kY n c)/\ρ=[some (.d (.int y)),some (.d (.int n)),some (.d (.int sg)),some (.d (.int (x % (n+2)))),some (.l (cs.map d6)),u5,none]) ⟨x / (n+2),[],none,rfl,fun c hc=>by simp at hc,rfl⟩
  (fun i k ρ hk hρ=>by
   obtain ⟨y,cs,u5,hp,hg,rfl⟩:=hρ
   have hi:i < sg:=by have:=(List.getElem?_eq_some_iff.mp hk).1;simpa using this
   have hl:(cs.map d6).length < 16777216:=by rw[List.length_map,hp];omega
   refine ⟨_,_,rfl,.inl ?_,y / (2 * n),cs++[(y / 2 % n,1 - y % 2 * 2)],some (.d (.int k)),by simp[hp],fun c hc=>?_,rfl⟩
   ·have hl':cs.length < 16777216:=by omega
    simp[lK,sY,cU,fN,hn,h2n,h2n',d6,hl']
   ·rcases List.mem_append.mp hc with z|z
    ·exact hg c z
    ·rw[List.mem_singleton.mp z]
     refine ⟨Int.emod_nonneg _ (by omega),Int.emod_lt_of_pos _ hn,?_⟩
     simp only;omega)
 rw[List.length_range] at hp
 have key:∀ e:Int,0<=e->e < n+2->∃ t:Tn,(eIf (e1 asB (e2 dGe (rV 0) (rV 1))) (e2 dIx (eL (g7 (aA (eC (.str "by")) (aA (eC (.str "out")) aH)))) (e2 dSub (rV 0) (rV 1))) (eV 0)) [some (.d (.int e)),some (.d (.int n))]=.ok t.d/\t.good n:=fun e h0 h1=>by
  by_cases h:n<=e
  ·obtain rfl|rfl:e=n\/e=n+1:=by omega
   ·exact ⟨.w "by",by simp[Tn.d],.inl rfl⟩
   ·exact ⟨.w "out",by simp[Tn.d,show n+1 - n=1 by omega,show n<=n+1 by omega],.inr rfl⟩
  ·exact ⟨.n e,by simp[Tn.d,h],h0,by omega⟩
 obtain ⟨t0,e0,g0⟩:=key (x % (n+2)) (Int.emod_nonneg _ (by omega)) (Int.emod_lt_of_pos _ hn3)
 obtain ⟨t1,e1',g1⟩:=key (y % (n+2)) (Int.emod_nonneg _ (by omega)) (Int.emod_lt_of_pos _ hn3)
 have hc:compL (stN 0) cS (eIf (e1 asB (e2 dGe (rV 0) (rV 1))) (e2 dIx (eL (g7 (aA (eC (.str "by")) (aA (eC (.str "out")) aH)))) (e2 dSub (rV 0) (rV 1))) (eV 0)) [none,some (.d (.int n))] [.int (x % (n+2)),.int (y % (n+2))]=.ok [t0.d,t1.d]:=by
  simp only[compL,x5,List.set_cons_zero,o6,R.bind_ok,aAG,R.noEx_ok,if_true,e0,e1']
 have hi:∀ a b:PyData,aY (.list [a,b])=.ok [a,b]:=fun a b=>eJ (by simp)
 refine ⟨⟨t0,cs,t1⟩,?_,⟨g0,g1,hg⟩,hp⟩
 unfold d3 iI
 simp only[jC,List.map_cons,List.map_nil,List.cons_append,List.nil_append,List.length_cons,List.length_nil,List.replicate,bU,mV,sW,qB,j1,nY,List.getElem?_cons_zero,List.getElem?_cons_succ,R.bind_ok,sX,cU hn3,fN hn3 hn4,List.set_cons_zero,List.set_cons_succ,lJ,qD,kT,mX,n4,hr]
 simp only[Nat.zero_le,if_true,R.bind_ok,List.set_cons_zero,List.set_cons_succ,List.getElem?_cons_zero,List.getElem?_cons_succ,hr,hf]
 simp only[rO,wF,kT,qB,j1,nY,List.getElem?_cons_zero,List.getElem?_cons_succ,R.bind_ok,sX,cU hn3,nZ,l6,List.set_cons_zero,List.set_cons_succ]
 simp[hi,fM,hc,eB,cU hn3]
theorem aMW{ns:List Int}{at':Int}{n sg:Nat}(hat:0<=at')(h1:1<=n)(h2:n<=1000)(s1:1<=sg)(s3:sg<=3):∃ rs:List Rw,fO [.d (fC ns),.d (.int at'),.d (.int n),.d (.int sg)]=.ok (.d (bE rs))/\Mach rs sg/\rs.length=n:=by
 have hr:=iR (n:=n) (by omega)
 have hn:(0:Int) < (n:Int):=by omega
 obtain ⟨ρ',hf,rs,u5,u6,hp,hg,rfl⟩:=iH (fs:=stN 5) (fb:=(sIf (jN (e1 asB (e2 dLt (e2 cC (rV 1) (rV 5)) (e1 dLen (rV 0)))) (e1 asB (e2 dEq (e2 dMod (e2 dIx (rV 0) (eC (.int 0))) (eC (.int 2))) (eC (.int 1))))) (gK 4 (eA (a5 3 d3 (aA (vD (e2 dIx (rV 0) (e2 cC (rV 1) (rV 5)))) (aA (vV 2) (aA (vV 3) aH)))))) (aK (b9 6 (a5 3 dC (aA (vD (e2 dMod (eA (a5 2 bY (aA (vV 0) (aA (vD (e2 cC (rV 1) (rV 5))) aH)))) (eC (.int 2147483647)))) (aA (vV 2) (aA (vV 3) aH)))))
 (aK (sIf (jN (e1 asB (e2 dEq (rV 5) (eC (.int 0)))) (jN (e1 asB (e1 (fV "str") (e2 dIx (rV 6) (eC (.int 0))))) (e1 asB (e2 dGt (e2 dMod (e2 dDiv (eA (a5 2 bY (aA (vV 0) (aA (vV 1) aH)))) (eC (.int 8))) (eC (.int 8))) (eC (.int 0)))))) (b9 6 (vD (e2 cC (bR (aA (e2 dMod (e2 dDiv (eA (a5 2 bY (aA (vV 0) (aA (vV 1) aH)))) (eC (.int 64))) (rV 2)) aH)) (eSl dSl (rV 6) (oSo (eC (.int 1))) oNo)))) sNx)
 (gK 4 (eV 6))))))
  (d:=fun i:Nat=>.int (i:Int)) (xs:=List.range n) (ρ:=[some (.d (fC ns)),some (.d (.int at')),some (.d (.int n)),some (.d (.int sg)),some (.l []),none,none])
  (fun i ρ=>∃ (rs:List Rw) (u5 u6:Option A),rs.length=i/\(∀ r∈rs,r.good n/\r.c.length=sg)/\ρ=[some (.d (fC ns)),some (.d (.int at')),some (.d (.int n)),some (.d (.int sg)),some (.l (rs.map eB)),u5,u6]) ⟨[],none,none,rfl,fun c hc=>by simp at hc,rfl⟩
  (fun i k ρ hk hρ=>by
   obtain ⟨rs,u5,u6,hp,hg,rfl⟩:=hρ
   have hi:i < n:=by have:=(List.getElem?_eq_some_iff.mp hk).1;simpa using this
   have hl:rs.length < 16777216:=by omega
   have snoc:∀ r:Rw,r.good n/\r.c.length=sg->∀ x∈rs++[r],x.good n/\x.c.length=sg:=fun r hr x hx=>by
    rcases List.mem_append.mp hx with z|z
    ·exact hg x z
    ·rw[List.mem_singleton.mp z];exact hr
   obtain ⟨v,hv⟩:=yE ns (at'+k)
   obtain ⟨r,hr,gr⟩:=aAM (v % 2147483647) (n:=(n:Int)) (sg:=sg) hn (by omega)
   obtain ⟨v2,hv2⟩:=yE ns at'
   have hsl:∀ r:Rw,dSl (eB r) (some 1) none=.ok (.tuple [.tuple (r.c.map d6),r.r.d]):=fun r=>by
    unfold eB
    rw[aOG (by unfold HT.sIx;simp)]
    unfold lB HT.sIx
    simp
   have put:∀ (u5 u6:Option A) (r:Rw),(gK 4 (eV 6)) [some (.d (fC ns)),some (.d (.int at')),some (.d (.int n)),some (.d (.int sg)),some (.l (rs.map eB)),u5,some (.d (eB r))]=.ok (.nx [some (.d (fC ns)),some (.d (.int at')),some (.d (.int n)),some (.d (.int sg)),some (.l ((rs++[r]).map eB)),u5,some (.d (eB r))]):=fun u5 u6 r=>by simp[hl]
   have mixed:∀ ρ2,ρ2=[some (.d (fC ns)),some (.d (.int at')),some (.d (.int n)),some (.d (.int sg)),some (.l (rs.map eB)),some (.d (.int k)),u6]->∃ r2:Rw,(r2.good n/\r2.c.length=sg)/\∃ u6',(aK (b9 6 (a5 3 dC (aA (vD (e2 dMod (eA (a5 2 bY (aA (vV 0) (aA (vD (e2 cC (rV 1) (rV 5))) aH)))) (eC (.int 2147483647)))) (aA (vV 2) (aA (vV 3) aH)))))
     (aK (sIf (jN (e1 asB (e2 dEq (rV 5) (eC (.int 0)))) (jN (e1 asB (e1 (fV "str") (e2 dIx (rV 6) (eC (.int 0))))) (e1 asB (e2 dGt (e2 dMod (e2 dDiv (eA (a5 2 bY (aA (vV 0) (aA (vV 1) aH)))) (eC (.int 8))) (eC (.int 8))) (eC (.int 0)))))) (b9 6 (vD (e2 cC (bR (aA (e2 dMod (e2 dDiv (eA (a5 2 bY (aA (vV 0) (aA (vV 1) aH)))) (eC (.int 64))) (rV 2)) aH)) (eSl dSl (rV 6) (oSo (eC (.int 1))) oNo)))) sNx)
     (gK 4 (eV 6)))) ρ2=.ok (.nx [some (.d (fC ns)),some (.d (.int at')),some (.d (.int n)),some (.d (.int sg)),some (.l ((rs++[r2]).map eB)),some (.d (.int k)),u6']):=by
    rintro ρ2 rfl
    by_cases c1:k=0
    case neg=>
     exact ⟨r,gr,some (.d (eB r)),by simp[hv,cU,hr,c1,hZ,hl]⟩
    subst c1
    obtain ⟨r,hr,gr⟩:=aAM (v2 % 2147483647) (n:=(n:Int)) (sg:=sg) hn (by omega)
    have hix:dIx (eB r) (.int 0)=.ok r.l.d:=yB _ _
    have hty:∃ b,fV "str" r.l.d=.ok (.bool b):=by cases r.l<;>exact ⟨_,rfl⟩
    obtain ⟨b,hb⟩:=hty
    have hadd:cC (.tuple [.int (v2 / 64 % (n:Int))]) (.tuple [.tuple (r.c.map d6),r.r.d])=.ok (eB ⟨.n (v2 / 64 % (n:Int)),r.c,r.r⟩):=by
     rw[aMP rfl (by simp)];rfl
    have good2:(⟨.n (v2 / 64 % (n:Int)),r.c,r.r⟩:Rw).good n/\r.c.length=sg:=⟨⟨⟨Int.emod_nonneg _ (by omega),Int.emod_lt_of_pos _ hn⟩,gr.1.2.1,gr.1.2.2⟩,gr.2⟩
    cases hbb:b with
    | false=>
     subst hbb
     exact ⟨r,gr,some (.d (eB r)),by simp[hv2,cU,hr,hZ,hix,hb,hl]⟩
    | true=>
     subst hbb
     by_cases c3:0 < v2 / 8 % 8
     ·refine ⟨⟨.n (v2 / 64 % (n:Int)),r.c,r.r⟩,good2,some (.d (eB ⟨.n (v2 / 64 % (n:Int)),r.c,r.r⟩)),?_⟩
      simp[hv2,cU,cU hn,hr,hZ,hix,hb,hl,fN,c3,hsl,hadd]
     ·exact ⟨r,gr,some (.d (eB r)),by simp[hv2,cU,hr,hZ,hix,hb,hl,fN,c3]⟩
   obtain ⟨r2,g2,u6',hm⟩:=mixed _ rfl
   by_cases c1:at'+(k:Int) < (ns.length:Int)
   ·obtain ⟨w0,hw0⟩:=yD (ns:=ns) (i:=0) (Int.le_refl _) (by omega)
    by_cases c2:w0 % 2=1
    ·obtain ⟨w1,hw1⟩:=yD (ns:=ns) (i:=at'+k) (by omega) c1
     obtain ⟨r3,hr3,g3⟩:=aJU w1 (n:=(n:Int)) (sg:=sg) hn (by omega) (by omega)
     refine ⟨_,_,rfl,.inl ?_,rs++[r3],some (.d (.int k)),u6,by simp[hp],snoc r3 g3,rfl⟩
     simp[m6,c1,hw0,cU,c2,hZ,hw1,hr3,hl]
    ·refine ⟨_,_,rfl,.inl ?_,rs++[r2],some (.d (.int k)),u6',by simp[hp],snoc r2 g2,rfl⟩
     rw[<-hm]
     simp only[x5,List.set_cons_succ,List.set_cons_zero]
     rw[pE]
     simp only[aAH,l6,qB,j1,nY,List.getElem?_cons_zero,List.getElem?_cons_succ,R.bind_ok,sX,m6,aH1,x6,c1,decide_true,if_true,hw0,cU (show (0:Int) < 2 by decide),hZ,c2,decide_false,Bool.false_eq_true,if_false]
   ·refine ⟨_,_,rfl,.inl ?_,rs++[r2],some (.d (.int k)),u6',by simp[hp],snoc r2 g2,rfl⟩
    rw[<-hm]
    simp only[x5,List.set_cons_succ,List.set_cons_zero]
    rw[pE]
    simp only[aAH,l6,qB,j1,nY,List.getElem?_cons_zero,List.getElem?_cons_succ,R.bind_ok,sX,m6,aH1,x6,c1,decide_false,Bool.false_eq_true,if_false])
 rw[List.length_range] at hp
 refine ⟨rs,?_,⟨by omega,by omega,s1,s3,fun r hr=>by rw[hp];exact hg r hr⟩,hp⟩
 unfold fO jP
 simp only[jC,List.map_cons,List.map_nil,List.cons_append,List.nil_append,List.length_cons,List.length_nil,List.replicate,bU,lJ,qD,kT,R.bind_ok,Nat.zero_le,if_true,List.set_cons_zero,List.set_cons_succ,mX,n4,j1,List.getElem?_cons_zero,List.getElem?_cons_succ,hr,hf]
 simp[bE]
end Mc
namespace Mc
open PySem L2 PyProof.Rows Fl
end Mc
namespace Mc
open PySem L2 PyProof.Rows Fl
theorem vG(t:Tb):SeqAt.shaped (tbD t)=true:=aBD (lX _) (lX _)
theorem aMX(t:Tb):(tbD t).eqv (tbD t)=true:=aIN (lX _) (lX _)
theorem aMY(t:Tb):dNe (tbD t) (tbD t)=.ok (.bool false):=by rw[aEE (vG t) (vG t),aMX];rfl
theorem aJV(i:Int):eS [.d (.int i)]=.ok (.d (.bool true)):=by
 have h1:gL "int" "int"=true:=by decide
 have h2:gL "int" "bool"=false:=by decide
 simp[eS,lL,h1,h2]
theorem yF:∀ (n:Nat),nO (List.replicate n (.bool true))=some (List.replicate n true)
 | 0=>rfl
 | n+1=>by rw[List.replicate_succ,nO,yF n];rfl
theorem aJW(n:Nat):dAll (.list (List.replicate n (.bool true)))=.ok (.bool true):=by
 unfold dAll
 simp only
 rw[yF]
 simp
end Mc
namespace Mc
open PySem L2 PyProof.Rows
def aEL(rs:List Rw)(z:List Nat)(s:Int×Int):Option ((Int×Int)⊕Str):=
 match (oU rs z s).1 with
 | .w x=>some (.inr x)
 | .n q=>some (.inl (s.1+(oU rs z s).2,q))
end Mc
namespace Mc
open PySem L2 PyProof.Rows Fl
theorem aMZ{rs:List Rw}{q:Int}(h0:0<=q)(h1:q < (rs.length:Int)):dIx (bE rs) (.int q)=.ok (eB (dL rs q)):=l7 (mZ h0 (by rw[List.getElem?_map,oV h0 h1];rfl))
theorem jQ(z:Str):z.length=z.cps.toList.length:=by simp[Str.length]
def jD(rs:List Rw)(z:List Nat)(s:Int×Int):Prop:=pW rs z s/\((aBE rs z s=none/\∃ x,(oU rs z s).1=.w x/\bQ (aEL rs z) (0,0)=some x)\/((∃ s',aBE rs z s=some s')/\bQ (aEL rs z) (0,0)=none))
end Mc
namespace Mc
open PySem L2 PyProof.Rows Fl
theorem aB1{rs:List Rw}{sg:Nat}(M:Mach rs sg)(y x:List Nat)(S:bC sg (x++y)):aT rs.length [bZ rs x,bZ rs y]=bZ rs (x++y):=by
 suffices ∀ (r x:List Nat),bC sg (x++r.reverse)->aT rs.length [bZ rs x,bZ rs r.reverse]=bZ rs (x++r.reverse) by
  have:=this y.reverse x (by rw[List.reverse_reverse];exact S)
  rwa [List.reverse_reverse] at this
 clear S x y
 intro r
 induction r with
 | nil=>
  intro x S
  rw[List.reverse_nil,List.append_nil] at S
  rw[List.reverse_nil,List.append_nil]
  have:bZ rs []=bM rs.length:=by unfold bZ;rw[if_pos rfl]
  rw[this,y8 (fZ M S)]
 | cons c r ih=>
  intro x S
  rw[List.reverse_cons] at S ⊢
  generalize r.reverse=y at *
  have Sx:bC sg x:=⟨by have:=S.1;simp at this;omega,fun a ha=>S.2 a (by simp[ha])⟩
  have Sy:bC sg y:=⟨by have:=S.1;simp at this;omega,fun a ha=>S.2 a (by simp[ha])⟩
  have Sxy:bC sg (x++y):=⟨by have:=S.1;simp at this ⊢;omega,fun a ha=>S.2 a (by simp at ha ⊢;rcases ha with h|h<;>simp[h])⟩
  have hc:cN sg c=true:=S.2 c (by simp)
  have gc:(cL (c - 97) rs).good rs.length:=jZ M (by have:=of_decide_eq_true hc;omega)
  have gx:=fZ M Sx
  have gy:=fZ M Sy
  have h1:=rE (m:=rs.length) (l1:=[bZ rs x]) (mid:=[bZ rs y,cL (c - 97) rs]) (l2:=[]) (by simpa using gx) (by simp[gy,gc]) (by simp) (by simp)
  have h2:=rE (m:=rs.length) (l1:=[]) (mid:=[bZ rs x,bZ rs y]) (l2:=[cL (c - 97) rs]) (by simp) (by simp[gx,gy]) (by simpa using gc) (by simp)
  simp only[List.append_nil,List.nil_append,List.cons_append] at h1 h2
  rw[<-mG M Sy hc,h1,<-h2,ih x Sxy,mG M Sxy hc,List.append_assoc]
end Mc
namespace Mc
open PySem L2 PyProof.Rows
section
variable{S T O Q:Type}
structure Gates(st:S->Option (S⊕O))(sub:S->Option (S⊕Q))(ext:Q->T⊕O)(g:T->S)(ent:T->S⊕O)(Dom:S->Prop)(TV:T->Prop):Prop where
 step:∀ s,Dom s->(∃ s',sub s=some (.inl s')/\st s=some (.inl s')/\Dom s')\/(∃ e t,sub s=some (.inr e)/\ext e=.inl t/\st s=some (.inl (g t))/\TV t)\/∃ e o,sub s=some (.inr e)/\ext e=.inr o/\st s=some (.inr o)
 gate:∀ t,TV t->(∃ s,ent t=.inl s/\st (g t)=some (.inl s)/\Dom s)\/∃ o,ent t=.inr o/\st (g t)=some (.inr o)
variable{st:S->Option (S⊕O)}{sub:S->Option (S⊕Q)}{ext:Q->T⊕O}{g:T->S}{ent:T->S⊕O}{Dom:S->Prop}{TV:T->Prop}
end
end Mc
namespace Mc
open PySem L2 PyProof.Rows Fl
noncomputable def oT:Sg->R Bool:=(mE (e1 asB (eA (a5 1 aD5 (aA (vV 2) aH)))))
end Mc
namespace Mc
open PySem L2 PyProof.Rows Fl
end Mc
namespace Mc
open PySem L2 PyProof.Rows Fl
end Mc
namespace Mc
open PySem L2 PyProof.Rows Fl
end Mc
namespace Mc
open PySem L2 PyProof.Rows Fl
end Mc
namespace Fl
open PySem L2 PyProof.Rows
@[simp] theorem aGU(i:Nat)(f:Sg->R (List (PyData×PyData)))(ρ:Sg):sT i f ρ=(f ρ).bind fun kvs=>(dH [] kvs).bind fun res=>.ok (.nx (ρ.set i (some (.m res)))):=id rfl
@[simp] theorem aJX(ρ:Sg):xY ρ=.ok []:=id rfl
@[simp] theorem aGV(f g:Sg->R PyData)(r:Sg->R (List (PyData×PyData)))(ρ:Sg):sS f g r ρ=(f ρ).bind fun x=>(g ρ).bind fun y=>(r ρ).bind fun t=>.ok ((x,y)::t):=id rfl
@[simp] theorem aOU(i:Nat)(f g:Sg->R PyData)(ρ:Sg):aMC i f g ρ=match ρ[i]? with|some (some (.m kvs))=>(f ρ).bind fun k=>(g ρ).bind fun y=>if cO k (kvs.map (·.1))=true then .ok ((f8 kvs k).getD y) else .bad|_=>.bad:=id rfl
end Fl
namespace Mc
open PySem L2 PyProof.Rows Fl
end Mc
namespace Mc
open PySem L2 PyProof.Rows Fl
noncomputable def wnT:Sg->R Bool:=(e1 asB (eCh dLt dLe (eC (.int 0)) (rV 2) (e1 dLen (rV 1))))
noncomputable def wnB:Sg->R Fw:=(aK (sIf (e1 asB (mF false 4 (bR (aA (eV 2) (aA (eV 3) aH))))) (bH (vD (eC .none))) sNx)
 (aK (kH 4 (bR (aA (eV 2) (aA (eV 3) aH))) (eC (.bool true)))
 (aK (xX (stT [(stN 3),(stN 5)]) (e2 dIx (e2 dIx (e2 dIx (rV 0) (rV 3)) (eC (.int 1))) (e2 lF (eC (.str "abc")) (e2 dIx (rV 1) (e2 dSub (rV 2) (eC (.int 1)))))))
 (b9 2 (vD (e2 cC (rV 2) (rV 5)))))))
noncomputable def wnR:Sg->R Fw:=(bH (vD (bR (aA (e2 dIx (eL (g7 (aA (e1 dNeg (eC (.int 1))) (aA (eC (.int 1)) aH)))) (e1 dInt (e2 dGt (rV 2) (eC (.int 0))))) (aA (eV 3) aH)))))
theorem aB2:oC=aK (nS 4) (aK (bS wnT wnB) wnR):=id rfl
noncomputable def wnρ(rs:List Rw)(z:Str)(s:Int×Int)(ps:List (Int×Int))(u:Option A):Sg:=[some (.d (bE rs)),some (.d (.str z)),some (.d (.int s.1)),some (.d (.int s.2)),some (.m (been prD ps)),u]
theorem aEM(p q:Int):PyData.tuple [.int p,.int q]=prD (p,q):=rfl
section
variable{rs:List Rw}{sg:Nat}{z:Str}{s:Int×Int}{ps:List (Int×Int)}{u:Option A}
theorem aEN(hz:z.length<=16777216)(V:j0 rs z.cps.toList s):wnT (wnρ rs z s ps u)=.ok true:=by
 have hl:=x9 hz
 rw[jQ] at hl
 have h1:(0:Int) < s.1:=by have:=V.1;omega
 have h2:=V.2.1
 simp[wnT,wnρ,hl,h1]
 simpa using h2
theorem aAN(hz:z.length<=16777216)(h:¬ (0 < s.1/\s.1<=(z.cps.toList.length:Int))):wnT (wnρ rs z s ps u)=.ok false:=by
 have hl:=x9 hz
 rw[jQ] at hl
 by_cases h1:0 < s.1
 ·have h2:¬ s.1<=(z.cps.toList.length:Int):=fun q=>h ⟨h1,q⟩
  simp[wnT,wnρ,hl,h1]
  simpa using h2
 ·simp[wnT,wnρ,hl,h1]
theorem aJY(h:s∈ps):wnB (wnρ rs z s ps u)=.ok (.rt (.d .none)):=by
 have h1:=l9 qE ps s
 have h2:=(n5 kU).mpr h
 rw[<-aEM] at h1 h2
 simp[wnB,wnρ,h1,h2]
theorem aM0(M:Mach rs sg)(S:bC sg z.cps.toList)(V:j0 rs z.cps.toList s)(h:s∉ps)(hp:ps.length<=2000000):∃ cc:Int×Int,(dL rs s.2).c.getD (z.cps.toList.getD (s.1.toNat - 1) 97 - 97) (0,0)=cc/\wnB (wnρ rs z s ps u)=.ok (.nx (wnρ rs z (s.1+cc.2,cc.1) (ps++[s]) (some (.d (.int cc.2))))):=by
 obtain ⟨ch,cc,a1,a2,a3,b1,b2,b3⟩:=vE M S V
 refine ⟨cc,by rw[a3];exact b2,?_⟩
 have h1:=l9 qE ps s
 have h2:=l8 kU h
 have h3:=rQ kU h
 have h4:(been prD ps).length<=16777216:=by rw[rR];omega
 rw[<-aEM] at h1 h2 h3
 have hr:=aMZ V.2.2.1 V.2.2.2
 have hz:z.length<=16777216:=by rw[jQ];have:=S.1;omega
 have ix:dIx (.str z) (.int (s.1 - 1))=.ok (.str ⟨#[ch]⟩):=aOF hz (mZ (by have:=V.1;omega) (by rw[<-a1];congr 1;have:=V.1;omega))
 have id:=aAK (yC M.sg3 a2)
 have ic:dIx (.tuple ((dL rs s.2).c.map d6)) (.int ((ch - 97:Nat):Int))=.ok (d6 cc):=l7 (eN (by rw[List.getElem?_map,b1];rfl))
 simp[wnB,wnρ,h1,h2,h3,h4,hr,eB,ix,id,ic,d6]
theorem aEO:wnR (wnρ rs z s ps u)=.ok (.rt (.d (thD (some ((if 0 < s.1 then 1 else -1),s.2))))):=by
 by_cases h:0 < s.1
 · simp [wnR, wnρ, h, thD, fH]
 · simp [wnR, wnρ, h, thD, fH]
theorem zD(M:Mach rs sg)(S:bC sg z.cps.toList)(s0:Int×Int):∀ (k:Nat) (ps:List (Int×Int)) (s:Int×Int) (u:Option A),Und2 (hX rs z.cps.toList) s0 ps s->(∀ p∈ps,j0 rs z.cps.toList p)->j0 rs z.cps.toList s->(z.cps.toList.length+2) * rs.length+1<=ps.length+k->
  aK (bS wnT wnB) wnR (wnρ rs z s ps u)=.ok (.rt (.d (thD (bQ (hX rs z.cps.toList) s0)))):=by
 have hz:z.length<=16777216:=by rw[jQ];have:=S.1;omega
 have hB:(z.cps.toList.length+2) * rs.length<=1002 * 1000:=Nat.mul_le_mul (by have:=S.1;omega) M.len2
 intro k
 induction k with
 | zero=>
  intro ps s u U hv V hk
  have:=sI U.nd fun p hp=>(hv p hp).valid
  omega
 | succ k ih=>
  intro ps s u U hv V hk
  have hp:ps.length<=2000000:=by
   have:=sI U.nd fun p hp=>(hv p hp).valid
   omega
  by_cases hs:s∈ps
  ·rw[bU,vF (aEN hz V) (aJY hs),U.met hs];rfl
  ·obtain ⟨cc,hc,hb⟩:=aM0 (u:=u) M S V hs hp
   rw[bU,pF (aEN hz V) hb]
   have hw:hX rs z.cps.toList s=if 0 < s.1+cc.2/\s.1+cc.2<=(z.cps.toList.length:Int) then some (.inl (s.1+cc.2,cc.1)) else some (.inr ((if 0 < s.1+cc.2 then 1 else -1),cc.1)):=by
    unfold hX
    rw[hc]
   by_cases hin:0 < s.1+cc.2/\s.1+cc.2<=(z.cps.toList.length:Int)
   ·rw[if_pos hin] at hw
    rcases with_step M S V 1 with ⟨s',e,V',_⟩|⟨o,e,_⟩
    ·rw[hw] at e
     cases e
     have:=ih (ps++[s]) (s.1+cc.2,cc.1) (some (.d (.int cc.2))) (U.next hs hw) (fun p hp=>by
      rcases List.mem_append.mp hp with q|q
      · exact hv p q
      · rw [List.mem_singleton.mp q]; exact V) V' (by rw [List.length_append, List.length_singleton]; omega)
     rw[bU] at this
     exact this
    ·rw[hw] at e;cases e
   ·rw[if_neg hin] at hw
    rw[gN (aAN hz hin),U.outs hw,R.bind_ok]
    simp only[aEO]
theorem yG(M:Mach rs sg)(S:bC sg z.cps.toList){p q:Int}(hp0:0<=p)(hp1:p<=(z.cps.toList.length:Int)+1)(hq0:0<=q)(hq1:q < (rs.length:Int)):eY [.d (bE rs),.d (.str z),.d (.int p),.d (.int q)]=.ok (.d (thD (gW rs z.cps.toList p q))):=by
 have hz:z.length<=16777216:=by rw[jQ];have:=S.1;omega
 have h:aK (bS wnT wnB) wnR (wnρ rs z (p,q) [] none)=.ok (.rt (.d (thD (gW rs z.cps.toList p q)))):=by
  unfold gW
  by_cases hin:1<=p/\p<=(z.cps.toList.length:Int)
  ·rw[if_pos hin]
   exact zD M S (p,q) ((z.cps.toList.length+2) * rs.length+1) [] (p,q) none Und2.start (fun p hp=>by simp at hp) ⟨hin.1,hin.2,hq0,hq1⟩ (by simp)
  ·rw[if_neg hin,bU,gN (aAN hz (by show ¬ (0 < p/\p<=_);omega)),R.bind_ok]
   simp only[aEO]
 unfold eY
 rw[aB2]
 simp only[jC,bU,x8,R.bind_ok,List.map_cons,List.map_nil,List.cons_append,List.nil_append,List.length_cons,List.length_nil,List.replicate,Nat.reduceAdd,Nat.reduceSub,List.set_cons_zero,List.set_cons_succ]
 rw[bU] at h
 simp only[wnρ,been,List.map_nil] at h
 rw[h];rfl
theorem aM1(M:Mach rs sg)(S:bC sg z.cps.toList):lM [.d (bE rs),.d (.str z)]=.ok (.d (tbD (bZ rs z.cps.toList))):=by
 have hz:z.length<=16777216:=by rw[jQ];have:=S.1;omega
 have hlz:=x9 hz
 rw[jQ] at hlz
 have hlen:dLen (bE rs)=.ok (.int rs.length):=by unfold bE;rw[aEB,List.length_map]
 have hl2:=M.len2
 have hLR:dLR (.int (rs.length:Int))=.ok ((List.range rs.length).map fun i:Nat=>.int (i:Int)):=by
  unfold dLR
  simp only
  rw[if_pos (by omega),Int.toNat_natCast]
 have hit:aY (.list ((List.range rs.length).map fun i:Nat=>PyData.int (i:Int)))=.ok ((List.range rs.length).map fun i:Nat=>.int (i:Int)):=eJ (by simp;omega)
 have hc1:=compL_of (fs:=stN 0) (fe:=(eA (a5 4 eY (aA (vV 1) (aA (vV 2) (aA (vD (eC (.int 1))) (aA (vV 0) aH))))))) (ρ0:=[none,some (.d (bE rs)),some (.d (.str z))]) (d:=fun i:Nat=>PyData.int (i:Int)) (g:=fun q:Nat=>thD (gW rs z.cps.toList 1 (q:Int))) (xs:=List.range rs.length) fun q hq=>⟨_,rfl,by
  have hq:=List.mem_range.mp hq
  have f:=yG (p:=1) (q:=(q:Int)) M S (by omega) (by omega) (by omega) (by omega)
  simp[f]⟩
 have hc2:=compL_of (fs:=stN 0) (fe:=(eA (a5 4 eY (aA (vV 1) (aA (vV 2) (aA (vD (e1 dLen (rV 2))) (aA (vV 0) aH))))))) (ρ0:=[none,some (.d (bE rs)),some (.d (.str z))]) (d:=fun i:Nat=>PyData.int (i:Int)) (g:=fun q:Nat=>thD (gW rs z.cps.toList (z.cps.toList.length:Int) (q:Int))) (xs:=List.range rs.length) fun q hq=>⟨_,rfl,by
  have hq:=List.mem_range.mp hq
  have f:=yG (p:=(z.cps.toList.length:Int)) (q:=(q:Int)) M S (by omega) (by omega) (by omega) (by omega)
  simp only[Array.length_toList] at f hlz
  simp[hlz,f]⟩
 obtain ⟨t1,t2⟩:=aB0 M S
 have e1:(bZ rs z.cps.toList).f.map thD=(List.range rs.length).map fun q:Nat=>thD (gW rs z.cps.toList 1 (q:Int)):=by rw[t1,List.map_map];rfl
 have e2:(bZ rs z.cps.toList).a.map thD=(List.range rs.length).map fun q:Nat=>thD (gW rs z.cps.toList (z.cps.toList.length:Int) (q:Int)):=by rw[t2,List.map_map];rfl
 unfold lM pH tbD nE
 rw[e1,e2]
 simp only[jC,bU,lJ,l6,j1,R.bind_ok,List.map_cons,List.map_nil,List.cons_append,List.nil_append,List.length_cons,List.length_nil,List.replicate,Nat.reduceAdd,Nat.reduceSub,List.set_cons_zero,List.set_cons_succ,List.getElem?_cons_zero,List.getElem?_cons_succ,hlen,hLR,nZ,hit,fM,Option.bind,Option.join_some,hc1,hc2]
 simp
end
end Mc
namespace Mc
open PySem L2 PyProof.Rows Fl
@[simp] theorem aP3(m i:Nat)(f:Sg->R (List PyData))(ρ:Sg):aPE m i f ρ=match ρ[i]? with|some (some (.g k n G))=>(f ρ).bind fun ds=>if k<=m/\ds.length=n then G ds else .bad|_=>.bad:=id rfl
@[simp] theorem aPM(m i:Nat)(f:Sg->R (List PyData))(ρ:Sg):aN7 m i f ρ=match ρ[i]? with|some (some (.g k n G))=>(f ρ).bind fun ds=>if k<=m/\ds.length=n then (match G ds with | .ok d=>if aHZ d=true then .ok d else .bad|_=>.bad) else .bad|_=>.bad:=id rfl
def fD(fs:List PyData):List (PyData×PyData):=fs.zipIdx.map fun p=>(p.1,.int (p.2:Int))
theorem n6(fs:List PyData):(fD fs).map (·.1)=fs:=by
 unfold fD
 rw[List.map_map]
 show fs.zipIdx.map Prod.fst=fs
 exact List.zipIdx_map_fst 0 fs
theorem aJZ(fs:List PyData):(fD fs).length=fs.length:=by unfold fD;rw[List.length_map,List.length_zipIdx]
theorem aGW{fs:List PyData}{x:PyData}(hx:g6 x=true)(h:∀ y∈fs,g6 y=true):cO x ((fD fs).map (·.1))=true:=by
 unfold cO
 rw[n6,hx,Bool.true_and,Bool.or_eq_true,List.all_eq_true]
 exact .inl h
theorem aJ0{fs:List PyData}{x:PyData}(h:x∈fs):∃ i:Nat,f8 (fD fs) x=some (.int (i:Int))/\fs[i]? = some x:=by
 unfold f8
 cases e:(fD fs).find? fun p=>decide (p.1=x) with
 | none=>
  rw[List.find?_eq_none] at e
  rw[<-n6 fs,List.mem_map] at h
  obtain ⟨p,hp,e2⟩:=h
  exact absurd (decide_eq_true e2) (e p hp)
 | some p=>
  have h1:=List.find?_some e
  have h2:=List.mem_of_find?_eq_some e
  unfold fD at h2
  obtain ⟨⟨y,i⟩,hy,rfl⟩:=List.mem_map.mp h2
  refine ⟨i,rfl,?_⟩
  have h1:y=x:=of_decide_eq_true h1
  rw[<-h1]
  exact List.mk_mem_zipIdx_iff_getElem?.mp hy
structure Srch where
 after:PyData->List PyData
 x0:PyData
 good:Nat->PyData->Prop
 lim:Nat
 k1:Nat
 k2:Nat
 G:List PyData->R PyData
 D:List PyData->R PyData
structure Srch.ok(S:Srch):Prop where
 g0:S.good 0 S.x0
 gs:∀ i x,S.good i x->i<=S.lim->∀ y∈S.after x,S.good (i+1) y
 up:∀ i j x,i<=j->S.good i x->S.good j x
 few:∀ xs:List PyData,xs.Nodup->(∀ x∈xs,∃ i,S.good i x)->xs.length<=S.lim
 key:∀ i x,S.good i x->g6 x=true
 hk1:S.k1<=12
 hk2:S.k2<=12
 hG:∀ i x,i<=S.lim->S.good i x->S.G [x]=.ok (.list (S.after x))/\(S.after x).length<=16777216
 hD:∀ (fs:List PyData) (i:Int),fs.length<=S.lim->S.D [.list fs,.int i]=.ok (.bool false)
 hl:S.lim<=16000000
def aON(fs:List PyData)(js:List Nat)(ys:List PyData):Prop:=js.length=ys.length/\∀ (c:Nat) (y:PyData),ys[c]? = some y->∃ j,js[c]? = some j/\fs[j]? = some y
structure Fnd(S:Srch)(fs:List PyData):Prop where
 nd:fs.Nodup
 gd:∀ (i:Nat) (x:PyData),fs[i]? = some x->S.good i x
theorem Fnd.len{S:Srch}(O:S.ok){fs:List PyData}(h:Fnd S fs):fs.length<=S.lim:=O.few fs h.nd fun x hx=>by
 obtain ⟨i,hi⟩:=List.getElem?_of_mem hx
 exact ⟨i,h.gd i x hi⟩
structure Rchd(S:Srch)(fs:List PyData)(gs:List (List Nat)):Prop where
 fnd:Fnd S fs
 len:gs.length=fs.length
 zer:fs[0]? = some S.x0
 row:∀ (i:Nat) (js:List Nat) (x:PyData),gs[i]? = some js->fs[i]? = some x->aON fs js (S.after x)
end Mc
namespace Mc
open PySem L2 PyProof.Rows Fl
end Mc
namespace Mc
open PySem L2 PyProof.Rows Fl
theorem yH:∀ {xs:List PyData},(∀ x∈xs,dU x=true)->dP xs=true
 | [],_=>rfl
 | x::t,h=>by
  show (dU x && dP t)=true
  rw[h x (List.mem_cons_self ..),yH fun y hy=>h y (List.mem_cons_of_mem _ hy)];rfl
end Mc
namespace Mc
open PySem L2 PyProof.Rows Fl
def tc(m:Nat):Tn->Nat
 | .n i=>i.toNat
 | .w x=>if x="by" then m else if x="out" then m+1 else m+2
structure Ctr(rs:List Rw)(sg p q:Nat):Prop where
 len:rs.length=p+1+q
 p1:1<=p
 p5:p<=5
 q1:1<=q
 q5:q<=5
 lef:(dL rs 0).l=.n 0
 mid:(dL rs (p:Int)).l=.n ((p:Int)+1)
 a:∀ i:Nat,i < p->∀ k,k < sg->ck k (dL rs (i:Int))=((((i+(if k=0 then 1 else 0)) % p:Nat):Int),1)
 b:∀ k,k < sg->ck k (dL rs (p:Int))=((p:Int),-1)
 c:∀ j:Nat,j < q->∀ k,k < sg->ck k (dL rs ((p+1+j:Nat):Int))=(((p+1+(j+(if k=sg - 1 then 1 else 0)) % q:Nat):Int),1)
theorem yI{P:List Nat->Prop}(h0:P [])(hs:∀ z c,P z->P (z++[c]))(z:List Nat):P z:=by
 rw[<-List.reverse_reverse z]
 induction z.reverse with
 | nil=>exact h0
 | cons c t ih=>rw[List.reverse_cons];exact hs _ _ ih
theorem sZ{sg c:Nat}{z:List Nat}(S:bC sg (z++[c])):bC sg z/\cN sg c=true:=⟨⟨by have:=S.1;simp at this;omega,fun c hc=>S.2 c (List.mem_append_left _ hc)⟩,S.2 c (by simp)⟩
end Mc
namespace Mb
open Classical
section
variable{τ:Type}(g:τ->Nat->τ)(t0:τ)(cs:List Nat)
def Tt(z:List Nat):τ:=z.foldl g t0
noncomputable def jE(f:List (List Nat))(z:List Nat):List (List Nat):=if Tt g t0 z∈f.map (Tt g t0) then f else f++[z]
noncomputable def cV(f l:List (List Nat)):List (List Nat):=l.foldl (jE g t0) f
def c8(l:List (List Nat)):List (List Nat):=l.flatMap fun z=>cs.map fun c=>z++[c]
def lev:Nat->List (List Nat)
 | 0=>[[]]
 | n+1=>c8 cs (lev n)
noncomputable def f9:Nat->List (List Nat)
 | 0=>[[]]
 | n+1=>cV g t0 (f9 n) (lev cs (n+1))
variable{g t0 cs}
theorem uG(z:List Nat)(c:Nat):Tt g t0 (z++[c])=g (Tt g t0 z) c:=by unfold Tt;rw[List.foldl_append];rfl
theorem aJ1{y z:List Nat}(h:Tt g t0 y=Tt g t0 z)(c:Nat):Tt g t0 (y++[c])=Tt g t0 (z++[c]):=by rw[uG,uG,h]
theorem aB3(f:List (List Nat)):cV g t0 f []=f:=rfl
theorem addAll_cons(f:List (List Nat))(z:List Nat)(l:List (List Nat)):cV g t0 f (z::l)=cV g t0 (jE g t0 f z) l:=rfl
theorem gX(f l l2:List (List Nat)):cV g t0 f (l++l2)=cV g t0 (cV g t0 f l) l2:=by unfold cV;rw[List.foldl_append]
theorem addF_mono{f:List (List Nat)}{z:List Nat}{t:τ}(h:t∈f.map (Tt g t0)):t∈(jE g t0 f z).map (Tt g t0):=by
 unfold jE
 split
 · exact h
 · rw [List.map_append]; exact List.mem_append_left _ h
theorem aGX(f:List (List Nat))(z:List Nat):Tt g t0 z∈(jE g t0 f z).map (Tt g t0):=by
 unfold jE
 split
 · assumption
 · rw [List.map_append]; exact List.mem_append_right _ (by simp)
theorem qP{l:List (List Nat)}:∀ {f:List (List Nat)} {t:τ},t∈f.map (Tt g t0)->t∈(cV g t0 f l).map (Tt g t0):=by
 induction l with
 | nil=>intro f t h;exact h
 | cons z l ih=>intro f t h;rw[addAll_cons];exact ih (addF_mono h)
theorem s9{l:List (List Nat)}:∀ {f:List (List Nat)} {z:List Nat},z∈l->Tt g t0 z∈(cV g t0 f l).map (Tt g t0):=by
 induction l with
 | nil=>intro f z h;cases h
 | cons y l ih=>
  intro f z h
  rw[addAll_cons]
  rcases List.mem_cons.mp h with rfl|h
  · exact qP (aGX f z)
  · exact ih h
theorem yJ{l:List (List Nat)}:∀ {f:List (List Nat)},(∀ z∈l,Tt g t0 z∈f.map (Tt g t0))->cV g t0 f l=f:=by
 induction l with
 | nil=>intro f _;rfl
 | cons z l ih=>
  intro f h
  rw[addAll_cons]
  have:jE g t0 f z=f:=by unfold jE;rw[if_pos (h z List.mem_cons_self)]
  rw[this]
  exact ih fun y hy=>h y (List.mem_cons_of_mem _ hy)
theorem lO(a b:List (List Nat)):c8 cs (a++b)=c8 cs a++c8 cs b:=by unfold c8;rw[List.flatMap_append]
theorem iK{l:List (List Nat)}{x:List Nat}:x∈c8 cs l↔∃ z∈l,∃ c∈cs,x=z++[c]:=by
 unfold c8
 rw[List.mem_flatMap]
 constructor
 ·rintro ⟨z,hz,h⟩
  obtain ⟨c,hc,e⟩:=List.mem_map.mp h
  exact ⟨z,hz,c,hc,e.symm⟩
 ·rintro ⟨z,hz,c,hc,e⟩
  exact ⟨z,hz,List.mem_map.mpr ⟨c,hc,e.symm⟩⟩
theorem skip{f:List (List Nat)}{keep:List Nat->Prop}(r:List (List Nat)):(∀ P1 z P2,r.reverse=P1++z::P2->¬ keep z->∃ y,Tt g t0 y=Tt g t0 z/\((∀ c∈cs,Tt g t0 (y++[c])∈f.map (Tt g t0))\/y∈P1))->
  cV g t0 f (c8 cs r.reverse)=cV g t0 f (c8 cs (r.reverse.filter fun z=>decide (keep z))):=by
 induction r with
 | nil=>intro _;rfl
 | cons z r ih=>
  intro h
  rw[List.reverse_cons] at h ⊢
  have ih':=ih fun P1 y P2 e hk=>h P1 y (P2++[z]) (by rw[e,List.append_assoc];rfl) hk
  rw[lO,gX,List.filter_append]
  by_cases hk:keep z
  ·have:[z].filter (fun z=>decide (keep z))=[z]:=by simp[hk]
   rw[this,lO,gX,ih']
  ·have:[z].filter (fun z=>decide (keep z))=[]:=by simp[hk]
   rw[this,List.append_nil,<-ih']
   obtain ⟨y,hy,hc⟩:=h r.reverse z [] rfl hk
   refine yJ fun x hx=>?_
   obtain ⟨z',hz',c,hcc,rfl⟩:=iK.mp hx
   rw[List.mem_singleton.mp hz',<-aJ1 hy c]
   rcases hc with hc|hc
   · exact qP (hc c hcc)
   · exact s9 (iK.mpr ⟨y, hc, c, hcc, rfl⟩)
variable(g t0) in
noncomputable def jF:List (List Nat)->List (List Nat)->List (List Nat)
 | _,[]=>[]
 | f,z::l=>if Tt g t0 z∈f.map (Tt g t0) then jF f l else z::jF (f++[z]) l
theorem gY:∀ {l f:List (List Nat)},cV g t0 f l=f++jF g t0 f l
 | [],f=>by rw[aB3,jF,List.append_nil]
 | z::l,f=>by
  rw[addAll_cons,jF]
  unfold jE
  split
  · exact gY
  · rw [gY, List.append_assoc]; rfl
theorem lP:∀ {l f:List (List Nat)},(jF g t0 f l).Sublist l
 | [],f=>by rw[jF];exact List.Sublist.refl _
 | z::l,f=>by
  rw[jF]
  split
  · exact lP.cons z
  · exact lP.cons_cons z
theorem rT:∀ {P1:List (List Nat)} {f:List (List Nat)} {z:List Nat} {P2:List (List Nat)},z∉jF g t0 f (P1++z::P2)->∃ y,Tt g t0 y=Tt g t0 z/\(y∈f\/(y∈P1/\y∈jF g t0 f (P1++z::P2)))
 | [],f,z,P2,h=>by
  rw[List.nil_append,jF] at h
  by_cases hk:Tt g t0 z∈f.map (Tt g t0)
  ·obtain ⟨y,hy,e⟩:=List.mem_map.mp hk
   exact ⟨y,e,.inl hy⟩
  ·rw[if_neg hk] at h
   exact absurd List.mem_cons_self h
 | p::P1,f,z,P2,h=>by
  rw[List.cons_append,jF] at h ⊢
  by_cases hk:Tt g t0 p∈f.map (Tt g t0)
  ·rw[if_pos hk] at h ⊢
   obtain ⟨y,e,q⟩:=rT h
   exact ⟨y,e,q.imp id fun q=>⟨List.mem_cons_of_mem _ q.1,q.2⟩⟩
  ·rw[if_neg hk] at h ⊢
   obtain ⟨y,e,q⟩:=rT (fun z=>h (List.mem_cons_of_mem _ z))
   rcases q with q|q
   ·rcases List.mem_append.mp q with q|q
    ·exact ⟨y,e,.inl q⟩
    ·obtain rfl:=List.mem_singleton.mp q
     exact ⟨y,e,.inr ⟨List.mem_cons_self,List.mem_cons_self⟩⟩
   ·exact ⟨y,e,.inr ⟨List.mem_cons_of_mem _ q.1,List.mem_cons_of_mem _ q.2⟩⟩
theorem aJ2{f:List (List Nat)}{z:List Nat}(h:(f.map (Tt g t0)).Nodup):((jE g t0 f z).map (Tt g t0)).Nodup:=by
 unfold jE
 split
 ·exact h
 ·rename_i hn
  rw[List.map_append,List.nodup_append]
  refine ⟨h,by simp,fun a ha b hb e=>?_⟩
  rw[List.map_cons,List.map_nil,List.mem_singleton] at hb
  subst hb e
  exact hn ha
theorem pI:∀ {l f:List (List Nat)},(f.map (Tt g t0)).Nodup->((cV g t0 f l).map (Tt g t0)).Nodup
 | [],_,h=>h
 | z::l,f,h=>by rw[addAll_cons];exact pI (aJ2 h)
theorem aJ3(z:List Nat){c d:Nat}(h:c < d):List.Lex (· < ·) (z++[c]) (z++[d]):=by
 induction z with
 | nil=>exact .rel h
 | cons a z ih=>exact .cons ih
theorem aGY{y z:List Nat}(h:List.Lex (· < ·) y z):y.length=z.length->∀ c d:Nat,List.Lex (· < ·) (y++[c]) (z++[d]):=by
 induction h with
 | nil=>intro e;simp at e
 | rel h=>intro _ c d;exact .rel h
 | cons h ih=>intro e c d;exact .cons (ih (by simpa using e) c d)
theorem aAO:∀ (z:List Nat),¬ List.Lex (· < ·) z z
 | [],h=>by cases h
 | a::z,h=>by
  cases h with
  | rel h=>exact Nat.lt_irrefl _ h
  | cons h=>exact aAO z h
theorem uH{n:Nat}:∀ {z:List Nat},z∈lev cs n->z.length=n:=by
 induction n with
 | zero=>intro z h;rw[List.mem_singleton.mp h];rfl
 | succ n ih=>
  intro z h
  obtain ⟨y,hy,c,_,rfl⟩:=iK.mp h
  rw[List.length_append,ih hy];rfl
theorem aB4(hcs:cs.Pairwise (· < ·))(n:Nat):(lev cs n).Pairwise (List.Lex (· < ·)):=by
 induction n with
 | zero=>exact List.pairwise_singleton _ _
 | succ n ih=>
  show (c8 cs (lev cs n)).Pairwise _
  unfold c8
  rw[List.pairwise_flatMap]
  refine ⟨fun z _=>?_,?_⟩
  ·rw[List.pairwise_map]
   exact hcs.imp fun h=>aJ3 z h
  ·refine List.Pairwise.imp_of_mem (fun {y z} hy hz h=>?_) ih
   intro a ha b hb
   obtain ⟨c,_,rfl⟩:=List.mem_map.mp ha
   obtain ⟨d,_,rfl⟩:=List.mem_map.mp hb
   exact aGY h (by rw[uH hy,uH hz]) c d
theorem aM2(hcs:cs.Pairwise (· < ·))(n:Nat):(lev cs n).Nodup:=(aB4 hcs n).imp fun h e=>by subst e;exact aAO _ h
theorem aB5{s l:List (List Nat)}(h:s.Sublist l):l.Nodup->∀ d:List Nat->Bool,(∀ z,d z=true↔z∈s)->l.filter d=s:=by
 induction h with
 | slnil=>intro _ _ _;rfl
 | @cons s l a h ih=>
  intro nd d hd
  rw[List.nodup_cons] at nd
  have:¬ d a=true:=fun z=>nd.1 (h.subset ((hd a).mp z))
  rw[List.filter_cons,if_neg this]
  exact ih nd.2 d hd
 | @cons_cons s l a h ih=>
  intro nd d hd
  rw[List.nodup_cons] at nd
  rw[List.filter_cons,if_pos ((hd a).mpr List.mem_cons_self)]
  congr 1
  refine (List.filter_congr fun z hz=>?_).trans (ih nd.2 (fun z=>decide (z∈s)) fun z=>by simp)
  have hne:z≠a:=fun q=>nd.1 (q▸hz)
  have h1:=hd z
  rw[List.mem_cons] at h1
  cases hq:d z with
  | true=>rw[hq] at h1;have:=(h1.mp rfl).resolve_left hne;simp[this]
  | false=>
   rw[hq] at h1
   have:¬ z∈s:=fun q=>nomatch (h1.mpr (.inr q))
   simp[this]
variable(g t0 cs) in
noncomputable def aB6:Nat->List (List Nat)
 | 0=>[[]]
 | n+1=>jF g t0 (f9 g t0 cs n) (lev cs (n+1))
theorem pJ(n:Nat):f9 g t0 cs (n+1)=f9 g t0 cs n++aB6 g t0 cs (n+1):=by
 show cV g t0 _ _=_
 rw[gY];rfl
theorem yK(n:Nat):(aB6 g t0 cs n).Sublist (lev cs n):=by
 cases n with
 | zero=>exact List.Sublist.refl _
 | succ n=>exact lP
theorem yL{n:Nat}:∀ {z:List Nat},z∈f9 g t0 cs n->∃ k,k<=n/\z∈lev cs k:=by
 induction n with
 | zero=>intro z h;exact ⟨0,Nat.le_refl _,h⟩
 | succ n ih=>
  intro z h
  rw[pJ] at h
  rcases List.mem_append.mp h with h|h
  ·obtain ⟨k,hk,q⟩:=ih h
   exact ⟨k,by omega,q⟩
  ·exact ⟨n+1,Nat.le_refl _,(yK (n+1)).subset h⟩
theorem vH{n:Nat}{t:τ}(h:t∈(f9 g t0 cs n).map (Tt g t0)):∀ k,t∈(f9 g t0 cs (n+k)).map (Tt g t0)
 | 0=>h
 | k+1=>by
  rw[<-Nat.add_assoc,pJ,List.map_append]
  exact List.mem_append_left _ (vH h k)
theorem yM{n k:Nat}{z:List Nat}(h:z∈lev cs k)(hk:k<=n):Tt g t0 z∈(f9 g t0 cs n).map (Tt g t0):=by
 have:Tt g t0 z∈(f9 g t0 cs k).map (Tt g t0):=by
  cases k with
  | zero=>exact List.mem_map_of_mem h
  | succ k=>exact s9 h
 have:=vH this (n - k)
 rwa [show k+(n - k)=n by omega] at this
theorem aEP (hcs : cs.Pairwise (· < ·)) (n : Nat) : cV g t0 (f9 g t0 cs n) (c8 cs (aB6 g t0 cs n)) = f9 g t0 cs (n + 1) := by
  have sk := skip (g := g) (t0 := t0) (cs := cs) (f := f9 g t0 cs n) (keep := fun z => z ∈ aB6 g t0 cs n) (lev cs n).reverse fun P1 z P2 e hk => by
    rw [List.reverse_reverse] at e
    cases n with
    | zero => exact absurd (show z ∈ [[]] by have : z ∈ lev cs 0 := by rw [e]; simp
                                             exact this) hk
    | succ m =>
      have hk' : z ∉ jF g t0 (f9 g t0 cs m) (P1 ++ z :: P2) := by rw [<- e]; exact hk
      obtain ⟨y, hy, q⟩ := rT hk'
      refine ⟨y, hy, q.imp (fun q c hc => ?_) fun q => q.1⟩
      obtain ⟨k, hkm, hl⟩ := yL q
      exact yM (k := k + 1) (iK.mpr ⟨y, hl, c, hc, rfl⟩) (by omega)
  rw [List.reverse_reverse, aB5 (yK (g := g) (t0 := t0) (cs := cs) n) (aM2 hcs n) _ (fun z => by simp)] at sk
  rw [<- sk]; rfl
theorem aGZ(hcs:cs.Pairwise (· < ·))(n:Nat):cV g t0 [[]] (c8 cs (f9 g t0 cs n))=f9 g t0 cs (n+1):=by
 induction n with
 | zero=>rfl
 | succ n ih=>rw[pJ n,lO,gX,ih,aEP hcs]
theorem qQ(hcs:cs.Pairwise (· < ·)){C:List (List Nat)}(h:C=cV g t0 [[]] (c8 cs C))(n:Nat):∃ e,C=f9 g t0 cs n++e/\∀ x∈e,n < x.length:=by
 induction n with
 | zero=>
  rw[gY] at h
  refine ⟨_,h,fun x hx=>?_⟩
  obtain ⟨z,_,c,_,rfl⟩:=iK.mp (lP.subset hx)
  simp
 | succ n ih=>
  obtain ⟨e,h1,h2⟩:=ih
  rw[h1,lO,gX,aGZ hcs,gY,<-h1] at h
  refine ⟨_,h,fun x hx=>?_⟩
  obtain ⟨z,hz,c,_,rfl⟩:=iK.mp (lP.subset hx)
  have:=h2 z hz
  simp;omega
theorem aJ4{n:Nat}{z:List Nat}(h:z∈f9 g t0 cs n):z.length<=n:=by
 obtain ⟨k,hk,q⟩:=yL h
 rw[uH q];exact hk
theorem oE(hcs:cs.Pairwise (· < ·)){C:List (List Nat)}(h:C=cV g t0 [[]] (c8 cs C))(n:Nat):C.filter (fun x=>decide (x.length<=n))=f9 g t0 cs n:=by
 obtain ⟨e,h1,h2⟩:=qQ hcs h n
 rw[h1,List.filter_append,List.filter_eq_self.mpr (fun x hx=>decide_eq_true (aJ4 hx)),List.filter_eq_nil_iff.mpr (fun x hx=>by have:=h2 x hx;simp;omega),List.append_nil]
theorem vI{C:List (List Nat)}(h:C=cV g t0 [[]] (c8 cs C)):(C.map (Tt g t0)).Nodup:=by
 rw[h];exact pI (by simp)
theorem aB7(hcs:cs.Pairwise (· < ·)){C:List (List Nat)}(h:C=cV g t0 [[]] (c8 cs C)){z:List Nat}{n:Nat}(hz:z∈lev cs n):Tt g t0 z∈C.map (Tt g t0):=by
 obtain ⟨e,h1,_⟩:=qQ hcs h n
 rw[h1,List.map_append]
 exact List.mem_append_left _ (yM hz (Nat.le_refl _))
end
end Mb
namespace Mc
open PySem L2 PyProof.Rows Fl
theorem aM3(x:Th):dU (thD x)=true:=by cases x<;>rfl
theorem aAP(t:Tb):g6 (tbD t)=true:=by
 have h1:dU (tbD t)=true:=by
  show dP [.tuple (t.f.map thD),.tuple (t.a.map thD)]=true
  have k:∀ l:List Th,dU (.tuple (l.map thD))=true:=fun l=>by
   show dP (l.map thD)=true
   exact yH fun x hx=>by
    obtain ⟨y,_,rfl⟩:=List.mem_map.mp hx
    exact aM3 y
  show (dU _ && (dU _ && true))=true
  rw[k,k];rfl
 have h2:Sh 4 (tbD t):=by
  have k:∀ l:List Th,∀ x∈l.map thD,Sh 2 x:=fun l x hx=>by
   obtain ⟨y,_,rfl⟩:=List.mem_map.mp hx
   cases y with
   | none=>exact ⟨rfl,Nat.zero_le _⟩
   | some s=>
    refine j5 fun z hz=>?_
    rcases List.mem_cons.mp hz with q|q
    · rw [q]; exact oS _ _
    · rw [List.mem_singleton.mp q]; exact oS _ _
  refine j5 fun x hx=>?_
  rcases List.mem_cons.mp hx with q|q
  ·rw[q];exact j5 (k _)
  ·rw[List.mem_singleton.mp q];exact j5 (k _)
 show (dU (tbD t) && decide ((tbD t).depth<=8))=true
 rw[h1,decide_eq_true (Nat.le_trans h2.2 (by decide))];rfl
noncomputable def bhB(rs:List Rw)(x:PyData)(c:Nat):PyData:=match dZ [.d x,.d (tbD (cL (c - 97) rs))] with
 | .ok (.d y)=>y
 | _=>.none
noncomputable def tE(rs:List Rw)(z:List Nat):PyData:=Mb.Tt (bhB rs) (tbD (bM rs.length)) z
theorem vJ{rs:List Rw}{sg c:Nat}{z:List Nat}(M:Mach rs sg)(S:bC sg z)(hc:cN sg c=true):dZ [.d (tbD (bZ rs z)),.d (tbD (cL (c - 97) rs))]=.ok (.d (tbD (bZ rs (z++[c])))):=by
 have:=aH4 (fZ M S) (jZ M (show c - 97 < sg by have:=of_decide_eq_true hc;omega)) M.len2
 rw[mG M S hc] at this
 exact this
theorem gO{rs:List Rw}{sg:Nat}(M:Mach rs sg)(z:List Nat):bC sg z->tE rs z=tbD (bZ rs z):=by
 refine yI (P:=fun z=>bC sg z->tE rs z=tbD (bZ rs z)) (fun S=>?_) (fun z c ih S=>?_) z
 ·unfold bZ;rw[if_pos rfl];rfl
 ·obtain ⟨Sz,hc⟩:=sZ S
  unfold tE
  rw[Mb.uG]
  show bhB rs (tE rs z) c=_
  rw[ih Sz]
  unfold bhB
  rw[vJ M Sz hc]
theorem aJ5{rs:List Rw}{sg c:Nat}{z:List Nat}(M:Mach rs sg)(S:bC sg (z++[c])):dZ [.d (tE rs z),.d (tbD (cL (c - 97) rs))]=.ok (.d (tE rs (z++[c]))):=by
 obtain ⟨Sz,hc⟩:=sZ S
 rw[gO M z Sz,gO M _ S,vJ M Sz hc]
theorem yN{rs:List Rw}{sg:Nat}{z:List Nat}(M:Mach rs sg)(S:bC sg z):g6 (tE rs z)=true:=by rw[gO M z S];exact aAP _
def stD(z:List Nat):PyData:=.str ⟨z.toArray⟩
noncomputable def enD(rs:List Rw)(z:List Nat):PyData:=.tuple [stD z,tE rs z]
noncomputable def n8(rs:List Rw)(f:List (List Nat))(z:List Nat):List (List Nat):=Mb.jE (bhB rs) (tbD (bM rs.length)) f z
noncomputable def cI(rs:List Rw)(f l:List (List Nat)):List (List Nat):=Mb.cV (bhB rs) (tbD (bM rs.length)) f l
theorem aJ6{ps:List PyData}{x:PyData}(hx:g6 x=true)(h:∀ y∈ps,g6 y=true):cO x ((been id ps).map (·.1))=true:=by
 unfold cO
 rw[pG,hx,Bool.true_and,Bool.or_eq_true,List.all_eq_true,List.map_id]
 exact .inl h
theorem aM4(ps:List PyData):(been id ps).length=ps.length:=rR id ps
theorem aM5{ps:List PyData}{x:PyData}(h:x∈ps):dY (been id ps) x=true:=(n5 (d:=id) (fun _ _ h=>h)).mpr h
theorem aJ7{ps:List PyData}{x:PyData}(h:x∉ps):dY (been id ps) x=false:=l8 (d:=id) (fun _ _ h=>h) h
theorem aM6{ps:List PyData}{x:PyData}(h:x∉ps):putM (been id ps) x (.bool true)=been id (ps++[x]):=rQ (d:=id) (fun _ _ h=>h) h
noncomputable def gaF:Sg->R Fw:=(aK (b9 8 (a5 2 dZ (aA (vD (e2 dIx (e2 dIx (rV 3) (rV 5)) (eC (.int 1)))) (aA (vV 7) aH))))
 (sIf (e1 asB (mF true 4 (eV 8))) (aK (kH 4 (eV 8) (eC (.bool true)))
 (gK 3 (bR (aA (e2 cC (e2 dIx (e2 dIx (rV 3) (rV 5)) (eC (.int 0))) (rV 6)) (aA (eV 8) aH))))) sNx))
noncomputable def gaT:Sg->R Bool:=(e1 asB (e2 dLt (rV 5) (e1 dLen (rV 3))))
noncomputable def gaB:Sg->R Fw:=(aK (sFz 2 (i9 (e1 aY (eV 2)) (stT [(stN 6),(stN 7)]) gaF))
 (aK (sIf (e1 asB (e2 dGt (e1 dLen (rV 3)) (rV 1))) (qA "TooMany" (rV 1)) sNx)
 (aBT 5 nQ (eC (.int 1)))))
theorem aM7:nX=(aK (dM 2 (cK [none,some 0] (e1 aY (eSl dSl (eC (.str "abc")) oNo (oSo (eA (a5 1 d7 (aA (vV 0) aH)))))) (stN 0) cS (bR (aA (eV 0) (aA (eA (a5 2 eF (aA (vV 1) (aA (vV 0) aH)))) aH)))))
 (aK (dM 3 (g7 (aA (bR (aA (eC (.str "")) (aA (eA (a5 1 jO (aA (vD (e1 dLen (rV 0))) aH))) aH))) aH)))
 (aK (sT 4 (sS (e2 dIx (e2 dIx (rV 3) (eC (.int 0))) (eC (.int 1))) (eC (.bool true)) xY))
 (aK (b9 5 (vD (eC (.int 0))))
 (aK (bS gaT gaB) (sFz 3 (bH (vV 3)))))))):=id rfl
def g8(rs:List Rw)(c:Nat):PyData:=.tuple [.str ⟨#[c]⟩,tbD (cL (c - 97) rs)]
theorem aG0(z:List Nat)(c:Nat)(h:z.length<=1000):cC (stD z) (.str ⟨#[c]⟩)=.ok (stD (z++[c])):=by
 unfold stD
 rw[aEF (by show z.toArray.size+1<=16777216;rw[List.size_toArray];omega)]
 congr 2
 show (⟨z.toArray ++ #[c]⟩:Str)=_
 simp
theorem rW{rs:List Rw}{sg:Nat}{f:List (List Nat)}(M:Mach rs sg)(hS:∀ z∈f,bC sg z):∀ y∈f.map (tE rs),g6 y=true:=fun y hy=>by
 obtain ⟨z,hz,rfl⟩:=List.mem_map.mp hy
 exact yN M (hS z hz)
theorem qF{rs:List Rw}{f:List (List Nat)}{z:List Nat}(h:tE rs z∈f.map (tE rs)):n8 rs f z=f:=by
 unfold n8 Mb.jE;exact if_pos h
theorem n9{rs:List Rw}{f:List (List Nat)}{z:List Nat}(h:tE rs z∉f.map (tE rs)):n8 rs f z=f++[z]:=by
 unfold n8 Mb.jE;exact if_neg h
def sgT(sg:Nat):Str:=Txt.slice "abc" none (some (sg:Int))
theorem qG{sg:Nat}(s1:1<=sg)(s3:sg<=3):(sgT sg).cps.toList=[97,98,99].take sg:=zT s1 s3
theorem yO{sg c:Nat}(s1:1<=sg)(s3:sg<=3)(h:c∈(sgT sg).cps.toList):cN sg c=true:=by
 rw[qG s1 s3] at h
 obtain ⟨i,hi⟩:=List.getElem?_of_mem h
 exact (lS s1 s3).mpr ⟨i,hi⟩
theorem uI{sg:Nat}(s1:1<=sg)(s3:sg<=3):(sgT sg).cps.toList.length<=3:=by rw[qG s1 s3,List.length_take];simp;omega
end Mc
namespace Mc
open PySem L2 PyProof.Rows Fl
theorem aEQ{t:Sg->R Bool}{b:Sg->R Fw}{ρ:Sg}{e:Er}(h1:t ρ=.ok true)(h2:b ρ=.ex e):bS t b ρ=.ex e:=by
 rw[l5,h1,R.bind_ok,if_pos rfl,h2];rfl
theorem addR_mem{rs:List Rw}{f:List (List Nat)}{y x:List Nat}(h:x∈n8 rs f y):x∈f\/x=y:=by
 by_cases q:tE rs y∈f.map (tE rs)
 ·rw[qF q] at h;exact .inl h
 ·rw[n9 q] at h
  rcases List.mem_append.mp h with h|h
  · exact .inl h
  · exact .inr (List.mem_singleton.mp h)
theorem aG1{rs:List Rw}{f:List (List Nat)}{y:List Nat}:(n8 rs f y).length<=f.length+1:=by
 by_cases q:tE rs y∈f.map (tE rs)
 · rw [qF q]; omega
 · rw [n9 q, List.length_append, List.length_singleton]; omega
theorem aG2{rs:List Rw}{f:List (List Nat)}{y:List Nat}:f <+: n8 rs f y:=by
 by_cases q:tE rs y∈f.map (tE rs)
 · rw [qF q]; exact List.prefix_refl _
 · rw [n9 q]; exact List.prefix_append ..
theorem aB8{rs:List Rw}{f l:List (List Nat)}{y:List Nat}:cI rs f (l++[y])=n8 rs (cI rs f l) y:=by
 unfold cI;rw[Mb.gX];rfl
theorem aJ8{α:Type}{f g:List α}{i:Nat}{x:α}(h:f <+: g)(e:f[i]? = some x):g[i]? = some x:=by
 obtain ⟨t,rfl⟩:=h
 rw[List.getElem?_append_left (by rcases Nat.lt_or_ge i f.length with h|h;exact h;rw[List.getElem?_eq_none h] at e;cases e)]
 exact e
structure GaV(sg:Nat)(at':Nat)(f:List (List Nat)):Prop where
 sgn:∀ z∈f,∀ c∈z,cN sg c=true
 len:∀ z∈f,z.length<=at'
theorem GaV.strip{sg at':Nat}{f:List (List Nat)}(h:GaV sg at' f)(ha:at'<=1000):∀ z∈f,bC sg z:=fun z hz=>⟨by have:=h.len z hz;omega,h.sgn z hz⟩
end Mc
namespace Zp
open PySem L2
end Zp
namespace Zp
open PySem
theorem yP:typeLookup (.type "list") "keys"=pure none:=by rw[typeLookup_type,builtinLookup_eq_fast];kernel_rfl
theorem uJ{prog:Program}{w:World}{A:Around}{E:Value->Shared->Prop}{s:Shared}{a:Addr}{xs:Array Value}{k:Nat}{sl:Array (Option Value)}{Q:Option Value->Shared->Prop}
  (hx:s.heap.get? a=some {cls:=.type "list",dict:=none,data:=.seq xs k,slots:=sl}) (hA:A.handled=none)
  (h:∀ h' tk,(∀ b o,s.heap.get? b=some o->h'.get? b=some o)->Q none {s with heap:=h',toks:=tk}) :
  wpAny (model prog w) A (getAttr? (.ref a) "keys") Q E s:=by
 obtain ⟨hp,g,d,tk,os⟩:=s
 have hT:∀ t':Nat,(⟨hp,g,d,t',os⟩:Shared).TypeIs (.ref a) "list":=fun _=>⟨_,hx,rfl⟩
 have f1:=sub_AttributeError
 have f3:=F.slot_list_getattribute.lookup
 have f4:=F.slot_list_getattribute.bind (.ref a)
 have f5:=am_list_getattr_none
 unfold getAttr? getAttrBy? getAttrBy
 repeat (any_goals (first|assumption|exact hT _|((with_reducible show wpAny _ _ (call (Value.builtin "list.__getattribute__") _ _) _ _ _);refine call_meets F.slot_list_getattribute (hT _) am_entry_list_getattribute (F.args_list_getattribute_2 _ _) (meets_getattribute_miss_list a xs k sl "keys" _ yP (by decide +kernel) (by decide)) ⟨hx,hA,fun h' tk' e hx'=>?_⟩)|wp_step))
 obtain ⟨t',u',he⟩:=hx'.there
 have hTe:(⟨h',g,d,tk',os⟩:Shared).TypeIs (.ref e) "AttributeError":=⟨_,he,rfl⟩
 show wpAny _ _ (getattributeRaised _ _ _ _ _ _ _) _ _ _
 unfold getattributeRaised
 repeat (any_goals (first|assumption|wp_step))
 exact h _ _ hx'.keeps
end Zp
namespace Zp
open PySem
theorem vK:entryFor table "dict.update.loop"=some Builtin.«dict.update.loop»:=entryFor_of_tree (by kernel_rfl)
theorem mB:plainId "dict.update.loop"=true:=by decide +kernel
end Zp
namespace Fl
open PySem L2 PyProof.Rows
def oA(p:PyData×PyData):PyData:=.tuple [p.1,p.2]
theorem aG3{K:Frag}{F:Hp}{v:V}{p:PyData×PyData}(h:DatV K F v (oA p)):∃ t x y,v=.ref t/\SqT K F t [x,y]/\DatV K F x p.1/\DatV K F y p.2:=by
 unfold oA at h
 cases h with
 | tup hs hd=>
  cases hd with
  | cons h1 t1=>
   cases t1 with
   | cons h2 t2=>
    cases t2
    exact ⟨_,_,_,rfl,hs,h1,h2⟩
section
variable{X:Cx}{pins:List (Addr×Obj)}{σ:L2.St}
theorem aG4{H:Hp}{s:Shared}{a:Addr}{es:List Ent}{k:PyData}{kv v:V}{ku u:Value}{A:Around}{E:Value->Shared->Prop}{Q:Unit->Shared->Prop}(hu:A.units+9 < cLine)(D:DicAt X H a es k kv)(I:Inv X pins σ H s)(rk:a9 kv ku)(rv:a9 v u)(hz:es.length<=sizeLine)(h:∀ ep s',Inv X pins σ (upd H a (cD X.w a (jL es k kv v) ep)) s'->Q () s') :
  wpAny (model X.prog X.w) A (dictSet a ku u) Q E s:=by
 obtain ⟨hd,⟨b,xs,rfl,rfl,hx,hk,dd⟩|⟨kk,xs,rfl,rfl,hx,hk,dd⟩⟩:=D.cases I rk
 ·have hl:xs.length<=sizeLine:=by rw[<-Paired.length hx];exact hz
  refine wpAny_dictSet_heap (a:=b) (show (gJ X.prog X.w).room A from hu) hk dd (fun h' dd' hs=>?_) hl
  obtain ⟨q',ar,ep,hq,h2,h3,h4,_,h5⟩:=dd'
  obtain ⟨ep0,hO⟩:=D.o
  refine h ep _ (kQ I (by rw[hO];exact True.intro) hs ⟨q',hq⟩ (gQ hd ⟨q',ar,hq,h2,h3,?_⟩))
  rw[h4]
  exact nI (aBN rv hx)
 ·have hl:xs.length<=sizeLine:=by rw[<-Paired.length hx];exact hz
  refine wpAny_dictSet_pairs hk dd (fun h' dd' hs=>?_) hl
  obtain ⟨q',ar,ep,hq,h2,h3,h4,h5,_⟩:=dd'
  obtain ⟨ep0,hO⟩:=D.o
  refine h ep _ (kQ I (by rw[hO];exact True.intro) hs ⟨q',hq⟩ (gQ hd ⟨q',ar,hq,h2,h3,?_⟩))
  exact nJ (aBO rv hx) h5 fun en hen=>h4 en (by simpa using hen)
theorem aG5{p it l:Addr}{F:Hp}{ys:List V}{A:Around}{R:Result->Shared->Prop}(hA:A.handled=none)(hu:A.units+11 < cLine)(hpi:p≠it)(hli:l≠it)(hlp:l≠p)(kvs:List (PyData×PyData)):∀ (i:Nat) (acc res:List (PyData×PyData)) (es:List Ent) (ep:Nat) (H:Hp) (s:Shared),
  Inv X pins σ H s->aF F H->F p=none->H p=some (cD X.w p es ep)->MapRel X.K F es acc->DatVs X.K F (ys.drop i) (kvs.map oA)->SqL X.K H l ys->gG X pins H it->s.heap.IsListIter it l i->i<=ys.length->dH acc kvs=.ok res->
  (∀ es' ep' s',Inv X pins σ (upd H p (cD X.w p es' ep')) s'->MapRel X.K F es' res->R (.ok (.ret .none)) s')->codeAny (model X.prog X.w) A (.builtin "dict.update.loop" ⟨[.ref p,.ref it,rawInt (i:Int),.none],[]⟩) R s:=by
 induction kvs with
 | nil=>
  intro i acc res es ep H s I sf hf hp m d hl fp hit hi e q
  have hlen:ys.length<=i:=by
   have:=d.length
   rw[List.length_drop] at this
   simp at this;omega
  obtain ⟨its,rv,pl,hz⟩:=I.list hl
  have hvl:=rv.length
  have W:=(Walks.list (prog:=X.prog) (w:=X.w) (A:=A.in1) (by exact hA) it l hli its.toArray).toS
  refine codeAny_builtin Zp.vK ?_
  rw[Around.under_plainId Zp.mB _]
  show wpAny _ A.in1 (pyNext (.ref it) >>= _) _ _ s
  have hii:i=its.toArray.size:=by simp;omega
  refine wpAny_bind (W.done s _ _ ⟨by rw[<-hii];exact hit,pl.isList⟩ fun s' M=>?_)
  obtain ⟨hp',g,dd,tk,os⟩:=s'
  obtain ⟨m1,m2,m3,m4,m5⟩:=M
  cases m2;cases m3;cases m4
  obtain ⟨f0,f1,f2,f3,f4,f5⟩:=fp
  have I1:Inv X pins σ H ({s with heap:=hp',toks:=tk}:Shared):=I.turned (fun b o hb e=>m1 b o (by simpa using hb) e) f0 f1 f3 f4 f5
  cases e
  have hu2:upd H p (cD X.w p es ep)=H:=by
   funext x
   by_cases z:x=p
   ·subst z;rw[aL,hp]
   ·rw[aD z]
  refine wpAny_bind (m:=Builtin.Dict.addKeywords p []) (wpAny_pure (wpAny_pure ?_))
  exact q es ep _ (by rw[hu2];exact I1) m
 | cons kv t ih=>
  intro i acc res es ep H s I sf hf hp m d hl fp hit hi e q
  obtain ⟨y,ys',hdr,d1,d2⟩:∃ y ys',ys.drop i=y::ys'/\DatV X.K F y (oA kv)/\DatVs X.K F ys' (t.map oA):=by
   rw[List.map_cons] at d
   generalize ys.drop i=zz at d
   cases d with
   | cons a b=>exact ⟨_,_,rfl,a,b⟩
  have hy:ys[i]? = some y:=by
   have:=congrArg (fun l=>l[0]?) hdr
   simpa using this
  have hil:=(List.getElem?_eq_some_iff.mp hy).1
  have hdr2:ys.drop (i+1)=ys':=by
   have:=congrArg List.tail hdr
   rw[List.tail_drop] at this
   exact this
  obtain ⟨its,rv,pl,hz⟩:=I.list hl
  have hvl:=rv.length
  obtain ⟨u,hu1,ru⟩:=rv.get hy
  have W:=(Walks.list (prog:=X.prog) (w:=X.w) (A:=A.in1) (by exact hA) it l hli its.toArray).toS
  refine codeAny_builtin Zp.vK ?_
  rw[Around.under_plainId Zp.mB _]
  show wpAny _ A.in1 (pyNext (.ref it) >>= _) _ _ s
  refine wpAny_bind (W.item i s _ _ (by simp;omega) ⟨hit,pl.isList⟩ fun v s' hv St M=>?_)
  obtain ⟨hp',g,dd,tk,os⟩:=s'
  obtain ⟨m1,m2,m3,m4,m5⟩:=M
  cases m2;cases m3;cases m4
  have hv:v=u:=by
   simp only[List.getElem?_toArray] at hv
   rw[hu1] at hv
   exact (Option.some.inj hv).symm
  subst hv
  obtain ⟨tt,x1,y1,rfl,hsq,dk,dv⟩:=aG3 d1
  cases (show v=Value.ref tt from ru)
  have fp':=fp
  obtain ⟨f0,f1,f2,f3,f4,f5⟩:=fp
  have I1:Inv X pins σ H ({s with heap:=hp',toks:=tk}:Shared):=I.turned (fun b o hb e=>m1 b o (by simpa using hb) e) f0 f1 f3 f4 f5
  obtain ⟨its2,rv2,⟨ot,ho,hcl,nn,hdt⟩,_⟩:=I1.tuple (hsq.same sf)
  obtain ⟨ku,vu,hits,rk,rvv⟩:∃ ku vu,its2=[ku,vu]/\a9 x1 ku/\a9 y1 vu:=by
   cases rv2 with
   | cons a b=>
    cases b with
    | cons c e=>
     cases e
     exact ⟨_,_,rfl,a,c⟩
  subst hits
  have hty:({s with heap:=hp',toks:=tk}:Shared).TypeIs (.ref tt) "tuple":=⟨ot,ho,hcl⟩
  unfold dH at e
  split at e
  ·rename_i hs
   have hob:∀ b∈[it],∃ o,({s with heap:=hp',toks:=tk}:Shared).heap.get? b=some o/\∀ v,o.data≠.cell v:=fun b hb=>by
    rw[List.mem_singleton.mp hb]
    obtain ⟨o,e1,e2,e3⟩:=St.1
    exact ⟨o,e1,fun v z=>by rw[e3] at z;cases z⟩
   have I2:=I1.pinned (fp:=[it]) (fun b hb=>by rw[List.mem_singleton.mp hb];exact fp') hob
   have D:DicAt X H p es kv.1 x1:=⟨⟨ep,hp⟩,fun e he=>(kA m.k1 m.k2 e he).same sf,by rw[m.k1];exact m.nd,dk.same sf,by rw[m.k1];exact hs.1⟩
   have hel:es.length<=sizeLine:=by
    have:es.length=acc.length:=by simpa using congrArg List.length m.k1
    rw[this,cY];exact hs.2
   refine wpAny_bind (wpAny_holding (wpAny_bind (wpAny_tryCatch ?_)))
   unfold Builtin.Dict.pairItems
   refine wpAny_bind (wpAny_typeOf hty (wpAny_bind (wpAny_seqItems ho hdt (wpAny_pure ?_))))
   show wpAny _ _ (holding [ku,vu] (dictSet p ku vu)) _ _ _
   refine wpAny_holding (aG4 (A:=A.in1) (by show A.units+1+9 < cLine;omega) D I2 rk rvv hel fun ep1 s2 I3=>?_)
   obtain ⟨o,e1,e2,e3⟩:=St.1
   have hit2:s2.heap.IsListIter it l (i+1):=⟨o,(I3.pin (it,o) (List.mem_append_right _ (List.mem_append_right _ (iS (List.mem_singleton.mpr rfl) e1)))).1,e2,e3⟩
   refine wpAny_pure ⟨plainId_quiet Zp.mB _,?_⟩
   have m':=m.put dk dv
   have sf':aF F (upd H p (cD X.w p (jL es kv.1 x1 y1) ep1)):=fun a o z=>by rw[aD (bB z hf)];exact sf a o z
   have hl':SqL X.K (upd H p (cD X.w p (jL es kv.1 x1 y1) ep1)) l ys:=by
    rcases hl with (h|⟨o,h⟩)|h
    ·exact .inl (.inl (by rw[aD hlp];exact h))
    ·exact .inl (.inr ⟨o,by rw[aD hlp];exact h⟩)
    ·exact .inr h
   refine ih (i+1) _ res _ _ _ s2 I3.unpinned sf' hf aL m' (by rw[hdr2];exact d2) hl' ⟨by rw[aD (Ne.symm hpi)];exact f0,f1,f2,f3,f4,f5⟩ hit2 (by omega) e fun es' ep' s'' I'' m''=>?_
   rw[kN] at I''
   exact q es' ep' s'' I'' m''
  ·cases e
def aER(X:Cx):List V->Hp->VK->Prop:=fun xs H Q=>∃ l ys F kvs res,xs=[.ref l]/\SqL X.K H l ys/\aF F H/\DatVs X.K F ys (kvs.map oA)/\dH [] kvs=.ok res/\∀ p es' ep',H p=none->MapRel X.K F es' res->Q (.ref p) (upd H p (cD X.w p es' ep'))
theorem aB9(hc:X.calm=true)(hu:X.A.units+64 < cLine):gA X (.type "dict") (aER X):=by
 intro pins s σ H xs us Q I r h
 obtain ⟨l,ys,F,kvs,res,rfl,hl,sf,d,e,q⟩:=h
 obtain ⟨u,rfl,ru⟩:=iB r
 cases (show u=Value.ref l from ru)
 have hp0:H s.heap.objs.size=none:=I.hok.fresh (Nat.le_refl _)
 have hA:X.A.handled=none:=I.ok.hd hc
 obtain ⟨its,rv,pl,hz⟩:=I.list hl
 have hll:l < s.heap.objs.size:=by obtain ⟨o,e,_⟩:=pl.isList;exact Heap.lt_size e
 refine callType_codes (Q₁:=fun obj s₁=>obj=.ref s.heap.objs.size/\s₁={s with heap:=s.heap.push {cls:=.type "dict",data:=.dict #[]}}) PySem.F.kt_called_dict (PySem.F.kt_typeCall_dict_1 _) PySem.F.entry_dict_init (kt_code_dict_new _ ⟨rfl,rfl⟩) fun obj s₁ hs₁=>?_
 obtain ⟨rfl,rfl⟩:=hs₁
 have hD:(s.heap.push {cls:=.type "dict",data:=.dict #[]}).get? s.heap.objs.size=some {cls:=.type "dict",data:=.dict #[]}:=Heap.get?_push_size _ rfl
 have hty:({s with heap:=s.heap.push {cls:=.type "dict",data:=.dict #[]}}:Shared).TypeIs (.ref s.heap.objs.size) "dict":=⟨_,hD,rfl⟩
 have I1:=I.laid (a:=s.heap.objs.size) (o:=cD X.w s.heap.objs.size [] 0) (t':=s.toks) (fun _ _ q=>Heap.get?_push_of_some {cls:=.type "dict",data:=.dict #[]} q) (Nat.le_refl _)
  (gQ (beq_eq_false_iff_ne.mpr (Ne.symm (Nat.ne_of_lt I.big))) ⟨_,#[],hD,⟨rfl,rfl,rfl⟩,rfl,.nil⟩)
 refine ⟨hty,PySem.F.args_dict_init_2 _ _,?_⟩
 have hl1:SqL X.K (upd H s.heap.objs.size (cD X.w s.heap.objs.size [] 0)) l ys:=by
  rcases hl with (h|⟨o,h⟩)|h
  · exact .inl (.inl (by rw [aD (Nat.ne_of_lt hll)]; exact h))
  · exact .inl (.inr ⟨o, by rw [aD (Nat.ne_of_lt hll)]; exact h⟩)
  · exact .inr h
 generalize hpp:s.heap.objs.size=p at *
 have hsz:(s.heap.push {cls:=.type "dict",data:=.dict #[]}).objs.size=p+1:=by rw[Heap.size_push,hpp]
 generalize s.heap.push {cls:=.type "dict",data:=.dict #[]}=hh at *
 obtain ⟨its1,rv1,pl1,hz1⟩:=I1.list hl1
 unfold Builtin.«dict.__init__» Builtin.Dict.selfAndRest
 refine wpAny_bind (wpAny_bind (wpAny_notOrdered_dict hty (wpAny_bind (wpAny_pure (wpAny_pure ?_)))))
 show wpAny _ _ (Builtin.Dict.updateFrom "dict.__init__" p (.ref l) [] .none) _ _ _
 unfold Builtin.Dict.updateFrom
 obtain ⟨⟨oc,od,odat,osl⟩,nl,hol,hcl,hod,hdl⟩:=pl1
 cases hcl
 cases hod
 cases hdl
 have htl:({s with heap:=hh}:Shared).TypeIs (.ref l) "list":=⟨_,hol,rfl⟩
 refine wpAny_bind (wpAny_typeOf htl ?_)
 show wpAny _ _ (getAttr? (.ref l) "keys" >>= _) _ _ _
 refine wpAny_bind (Zp.uJ (A:=X.A.in1.in1) hol hA fun h' tk kp=>?_)
 have I2:Inv X pins σ (upd H p (cD X.w p [] 0)) ({s with heap:=h',toks:=tk}:Shared):=I1.kept (t':=tk) kp
 have hL2:h'.IsList l its1.toArray:=⟨_,kp _ _ hol,rfl,_,rfl⟩
 refine wpAny_bind (wpAny_rule (wpAny_bind (wpAny_pyIter_list hL2 ?_)))
 have fz:(upd H p (cD X.w p [] 0)) h'.objs.size=none:=I2.hok.fresh (Nat.le_refl _)
 have hpz:p < h'.objs.size:=by
  have:=kp _ _ hD
  exact Heap.lt_size this
 have hlz:l < h'.objs.size:=Heap.lt_size (kp _ _ hol)
 have fp:=I2.fpOk (H':=upd H p (cD X.w p [] 0)) (Nat.le_refl h'.objs.size) fz
 have I3:Inv X pins σ (upd H p (cD X.w p [] 0)) ({s with heap:=h'.push {cls:=.type "list_iterator",data:=.fields #[.ref l,.int 0 0]},toks:=tk}:Shared):=I2.kept (t':=tk) fun b o e=>Heap.get?_push_of_some _ e
 have hfp:F p=none:=bG sf hp0
 have sf1:aF F (upd H p (cD X.w p [] 0)):=fun a o z=>by rw[aD (bB z hfp)];exact sf a o z
 refine wpAny_pure ⟨plainId_quiet Zp.mB _,?_⟩
 refine aG5 (A:=X.A.in1) (p:=p) (it:=h'.objs.size) (l:=l) (F:=F) (ys:=ys) hA (by show X.A.units+1+11 < cLine;omega) (Nat.ne_of_lt hpz) (Nat.ne_of_lt hlz) (Nat.ne_of_lt hll) kvs 0 [] res [] 0 _ _ I3 sf1 hfp aL ⟨rfl,.nil,.nil,List.nodup_nil⟩ (by rw[List.drop_zero];exact d) hl1 fp ⟨_,Heap.get?_push_size _ rfl,rfl,rfl⟩ (Nat.zero_le _) e fun es' ep' s' I' m'=>?_
 rw[kN] at I'
 exact ⟨rfl,.ref p,_,I',rfl,q p es' ep' hp0 m'⟩
end
end Fl
namespace Fl
open PySem L2 PyProof.Rows
def jR:List PyData->Option (List (PyData×PyData))
 | []=>some []
 | .tuple [k,v]::t=>(jR t).map fun r=>(k,v)::r
 | _=>none
theorem qR:∀ {ds:List PyData} {kvs:List (PyData×PyData)},jR ds=some kvs->ds=kvs.map oA
 | [],kvs,h=>by cases h;rfl
 | d::t,kvs,h=>by
  unfold jR at h
  split at h
  ·rename_i h0;cases h0
  ·rename_i k v t' h0
   cases h0
   obtain ⟨r,hr,rfl⟩:=Option.map_eq_some_iff.mp h
   rw[List.map_cons,qR hr];rfl
  ·cases h
noncomputable def yQ(i:Nat)(f:Sg->R (List PyData)):Sg->R Fw:=fun ρ=>(f ρ).bind fun ds=>match jR ds with
 | some kvs=>(dH [] kvs).bind fun res=>.ok (.nx (ρ.set i (some (.m res))))
 | none=>.bad
section
variable{X:Cx}{c:Ct}{E:XK}{st:Stmt}
theorem aG6{i:Nat}{f:Sg->R (List PyData)}(hK:X.K=c.K)(hW:X.w=c.w)(h:PS X st (kB (tCB (aER X) (eX (tV (rF c) c E f) gH)) (iA i))):PSf X c E st (yQ i f):=PS.imp h fun D σ H ⟨ρ,F,ab,k⟩=>by
 refine ⟨ρ,F,ab,(Rk.bind k).imp fun ds _ q v F1 H1 s1 r1=>?_⟩
 obtain ⟨l,vs,rfl,hl0,hl1,hlf,dv⟩:=r1
 split at q
 ·rename_i kvs hkv
  rw[qR hkv] at dv
  cases e:dH [] kvs with
  | bad=>rw[e] at q;exact q.elim
  | ex x=>exact absurd e (pB _ _ _)
  | ok res=>
   rw[e] at q
   refine ⟨l,vs,F1,kvs,res,rfl,SqL.of hl1,s1.fh,by rw[hK];exact dv,e,fun p es' ep' hp m=>?_⟩
   have hf:F1 p=none:=bG s1.fh hp
   have hp0:H p=none:=bG s1.hh hp
   have e3:Ext F H F1 (upd H1 p (cD X.w p es' ep')):=s1.trans (Ext.own s1.fh hp)
   rw[hW] at e3 ⊢
   rw[hK] at m
   exact Rk.ok q _ F1 _ s1.ff (ab.setM e3 hp0 aL hf m)
 ·exact q.elim
end
end Fl
namespace Zp
open PySem
structure Jk(s0:Heap)(d it S:Addr)(ar:Array DictEntry)(ep:Nat)(acc:Array Value)(h:Heap):Prop where
 size:acc.size<=ar.size
 told:acc.toList=(ar.toList.take acc.size).map (·.key)
 iter:h.IsKeyIter it d acc.size ar.size ep
 raw:Raw h d ar ep
 keep:∀ c o,c≠it->c≠S->s0.get? c=some o->h.get? c=some o
end Zp
namespace Zp
open PySem
end Zp
namespace Fl
open PySem L2 PyProof.Rows
def BxK(c:Ct)(E':XK)(σ:L2.St)(D:jD)(F H:Hp):R Unit->Prop
 | .bad=>False
 | .ok _=>∀ F' H',Ext F H F' H'->D.nx σ H'
 | .ex e=>∀ a C F' H',Ext F H F' H'->k6 c.K c.mg F' e a C->E' (.ref C) (some a) H'
theorem BxK.ext{c:Ct}{E':XK}{σ:L2.St}{D:jD}{F H F1 H1:Hp}(s:Ext F H F1 H1):∀ {r:R Unit},BxK c E' σ D F H r->BxK c E' σ D F1 H1 r
 | .bad,h=>h
 | .ok _,h=>fun F' H' e=>h F' H' (s.trans e)
 | .ex _,h=>fun a C F' H' e=>h a C F' H' (s.trans e)
def aE5:Sg->R Unit:=fun _=>.ok ()
end Fl
namespace Fl
open PySem L2 PyProof.Rows
theorem aES{X:Cx}{i:Nat}{x:Str}{E:XK}{σ:L2.St}{p pos:Pos}{e:Expr}{es:List Expr}{t:TA}(hn:PE (X.flyS σ E) (.Name x p) (jI i))(ha:PA (X.flyS σ E) (e::es) t)
  (he:starEach (e::es) X.env=(false,eval e X.env)::starEach es X.env:=by rfl) (hpl:(backTo pos (starEach es X.env)).any (·.1)=false:=by rfl):PCl X σ E (.Call (.Name x p) (e::es) [] pos) (tCallV X i E t):=by
 intro pins s H Q I h
 obtain ⟨f,hf,hk,h⟩:=h
 refine wpAny_Call_Name_kw (thn (hn pins s σ H (fun v H'=>v=.ref f/\H'=H) I ⟨_,hf,rfl,rfl⟩) fun u s0 zz0=>?_)
 obtain ⟨v,H0,I0,rv,e1,e2⟩:=zz0
 subst e1 e2
 obtain rfl:u=Value.ref f:=rv
 have fin:∀ (us:List Value) (s1:Shared),AP (X.flyS σ E) pins σ (fun vs H1=>FnK X.K H1 f/\∃ k fd ps sp,Room k X.A/\FnOk X.prog X.w X.K X.mg X.base (CXe X.prog X.w) k f fd ps sp/\fQ X.K fd ps []/\sp vs H1 Q E) us s1->
   (∃ H1,Inv (X.flyS σ E) pins σ H1 s1/\FnK X.K H1 f)/\wpAny (model X.prog X.w) X.A (call (.ref f) us) (EP (X.flyS σ E) pins σ Q) (uB X σ E) s1:=by
  rintro us s1 ⟨vs,H1,I1,r,hk1,k,fd,ps,sp,hr,F,hb,q⟩
  refine ⟨⟨H1,I1,hk1⟩,aJG (X:=X.flyS σ E) F hr hb (fun e s' z=>aN6 I1 z) I1 r ?_⟩
  rw[List.append_nil];exact q
 rcases hk with hk|⟨oc,od,fd,sl,hk⟩
 ·refine PySem.W.callWith_K (h₀:=X.base) I0.ok.mod.kin hk (thn (ha pos pins s0 σ H0 _ I0 h) fun us s1 hq=>?_) he hpl
  obtain ⟨⟨H1,I1,_⟩,q⟩:=fin us s1 hq
  exact ⟨I1.kIn,q⟩
 ·refine PySem.W.callWith_F ⟨oc,od,fd,sl,FnO.get I0.hok hk⟩ (thn (ha pos pins s0 σ H0 _ I0 h) fun us s1 hq=>?_) he hpl
  obtain ⟨⟨H1,I1,hk1⟩,q⟩:=fin us s1 hq
  refine ⟨?_,q⟩
  rcases hk1 with hk1|⟨oc,od,fd,sl,hk1⟩
  ·cases e:X.K.lookup f with
   | none=>unfold PySem.W.keepIn at hk1;dsimp only at hk1;rw[e] at hk1;cases hk1
   | some o=>
    have e1:=I1.kIn f o e
    exfalso
    have e2:=I0.kIn f o e
    obtain ⟨o',h1,h2⟩:∃ o',H0 f=some (FnO f o')/\True:=⟨_,hk,trivial⟩
    have e3:=I0.bs f o (I0.ok.mod.kin f o e)
    rw[e3.2] at h1;cases h1
  ·exact ⟨oc,od,fd,sl,FnO.get I1.hok hk1⟩
def tD(j m a:Nat)(f:Sg->R (List PyData))(cl:List Str)(fs:Sg->R Fw):Sg->R Fw:=fun ρ=>match ρ[a]? with
 | some (some (.g k n G))=>(match f ρ with
  | .ok ds=>if k<=m/\ds.length=n then (match G ds with
   | .bad=>.bad
   | .ok d=>.ok (.nx (ρ.set j (some (.d d))))
   | .ex e=>if cl.contains e.c=true then fs ρ else .bad) else .bad
  | _=>.bad)
 | _=>.bad
section
variable{X:Cx}{c:Ct}{E:XK}
theorem aET{T:Hp}{a m:Nat}{f:Sg->R (List PyData)}{k n:Nat}{G:List PyData->R PyData}{ds:List PyData}{ρ:Sg}{σ:L2.St}{F H:Hp}{E':XK}{Q:VK}(hG:c.g=gOf X.prog X.w X.K X.mg X.base T)(hK:X.K=c.K)(hM:X.mg=c.mg)(hr:Room m X.A)(ab:Ab c ρ σ F H)
  (hi:ρ[a]? = some (some (.g k n G))) (hf:f ρ=.ok ds) (hn:k<=m/\ds.length=n)
  (hQ:match G ds with | .bad=>False | .ok d=>∀ v F' H',Ext F H F' H'->DatV c.K F' v d->Q v H' | .ex e=>∀ b C F' H',Ext F H F' H'->k6 c.K c.mg F' e b C->E' (.ref C) (some b) H') :
  tCallV X a E' (tAd c E f) σ H Q:=by
 obtain ⟨v,hv,hA⟩:=ab.slot a _ hi
 obtain ⟨fa,F1,rfl,s1,B⟩:=(show AF c.g c.K c.mg F (.g k n G) v from hA)
 rw[hG] at B
 obtain ⟨fd,ps,hps,hb,FO,hk⟩:=(show Beh X.prog X.w X.K X.mg X.base T fa F1 k n G from B)
 have hk1:∀ F' H',aF F F'->aF F' H'->FnK X.K H' fa:=fun F' H' a1 a2=>hk.imp id fun ⟨oc,od,fd,sl,e⟩=>⟨oc,od,fd,sl,a2 _ _ (a1 _ _ (s1 _ _ e))⟩
 refine ⟨fa,hv,hk1 F H (bV F) ab.fh,ρ,F,ab,?_⟩
 rw[hf]
 intro vs F' H' e1 r
 refine ⟨hk1 F' H' e1.ff e1.fh,k,fd,ps,_,hr.mono hn.1,FO,hb,F',ds,fun a o z=>e1.ff a o (s1 a o z),fun a o z=>e1.ff a o (ab.f0 a o (ab.t0 a o (by rw[hG];exact z))),e1.fh,by rw[hK];exact r,hn.2,?_⟩
 cases hg:G ds with
 | bad=>rw[hg] at hQ;exact hQ
 | ok d=>rw[hg] at hQ;exact fun v F2 H2 e2 r2=>hQ v F2 H2 (e1.trans e2) (by rw[hK] at r2;exact r2)
 | ex x=>rw[hg] at hQ;exact fun b C F2 H2 e2 r2=>hQ b C F2 H2 (e1.trans e2) (by rw[hK,hM] at r2;exact r2)
theorem aG7{T:Hp}{j a m:Nat}{x y:Str}{Wc:Addr}{bmW:List Value}{suite:List Stmt}{b0:Stmt}{call:Expr}{np hpos pos epos pos':Pos}{f:Sg->R (List PyData)}{cl:List Str}{fs:Sg->R Fw}(hG:c.g=gOf X.prog X.w X.K X.mg X.base T)(hK:X.K=c.K)(hM:X.mg=c.mg)(hr:Room m X.A)
  (hO:pT X) (hN:X.N.Nodup) (hj:X.N[j]? = some y) (hy:Loc X.env.scope y) (hg:Gl X x) (hm:X.mg x=some (.ref Wc)) (hw:SX.ExcAny X.K Wc bmW) (hcl:aAA X.K X.mg Wc cl)
  (hc:∀ pn σ E',PCl (X.pnw pn) σ E' call (tCallV X a E' (tAd c E f)))
  (hs:∀ e,nP (X.inH e) c E (b0::suite) fs) (hdb:(x == ("__debug__":Str))=false:=by decide) (hsw:swapsWith call (some (.Name y pos')) epos.line X.env=pure false:=by rfl) (hfl:X.fn y=true\/X.env.scope.names.lookup y=some .local:=by first|exact .inl rfl|exact .inr rfl) :
  PSf X c E (.Try [.Assign [.Name y pos'] call epos] [.ExceptHandler (some (.Name x np)) none (b0::suite) hpos] [] [] pos) (tD j m a f cl fs):=by
 intro pins s σ H D I h
 obtain ⟨ρ,F,ab,k⟩:=h
 unfold tD at k
 split at k
 ·rename_i lv n G hga
  cases hf:f ρ with
  | bad=>rw[hf] at k;exact k.elim
  | ex z=>rw[hf] at k;exact k.elim
  | ok ds=>
   rw[hf] at k
   simp only at k
   by_cases hn:lv<=m/\ds.length=n
   ·rw[if_pos hn] at k
    let E':XK:=fun cv oa H'=>∃ C b e F',cv=.ref C/\oa=some b/\Ext F H F' H'/\k6 c.K c.mg F' e b C/\G ds=.ex e
    refine aMF (E:=E') hO hg hm hw hdb I (aGF (hc _ _ _) hN hj hy I (aET hG hK hM hr ab hga hf hn ?_) hsw hfl) ?_
    ·cases hGd:G ds with
     | bad=>rw[hGd] at k;exact k
     | ok d=>
      rw[hGd] at k
      intro v F' H' s' r'
      exact Rk.ok k _ F' H' s'.ff ((ab.ext s').setA (a:=.d d) r')
     | ex e=>
      intro b C F' H' s' r'
      exact ⟨C,b,e,F',rfl,rfl,s',r',hGd⟩
    ·rintro C e H' ⟨od,_⟩ ⟨C',b,er,F',h1,h2,s',r',hGd⟩
     cases h1
     cases h2
     rw[hGd] at k
     simp only at k
     by_cases hc:cl.contains er.c=true
     ·rw[if_pos hc] at k
      obtain ⟨C2,bm,m2,ca,co⟩:=hcl er.c (by simpa using hc)
      obtain ⟨m1,_⟩:=id r'
      rw[hM,m1] at m2
      cases m2
      exact ⟨bm,ca,co,_,hs e,ρ,F',ab.ext s',(k.ext s').imp fun w _ q=>f7.same s'.ff q⟩
     ·rw[if_neg hc] at k;exact k.elim
   ·rw[if_neg hn] at k;exact k.elim
 ·exact k.elim
end
end Fl
namespace Fl
open PySem L2 PyProof.Rows
def pK(ρ:Sg)(σ:L2.St)(p:Addr):Prop:=∀ (j:Nat) (a:A),ρ[j]? = some (some a)->a.own=true->σ[j]? ≠ some (some (.ref p))
theorem Ab.off9{c:Ct}{ρ:Sg}{σ:L2.St}{F H:Hp}{p:Addr}{o:HO}(b:Ab c ρ σ F H)(h3:F p=none)(h4:c.H0 p=none)(hs:pK ρ σ p):Ab c ρ σ F (upd H p o) where
 len:=b.len
 fh:=fun a o' z=>by rw[aD (fun w=>by rw[w,h3] at z;cases z)];exact b.fh a o' z
 slot:=fun j a h=>by
  obtain ⟨v,h1,h2⟩:=b.slot j a h
  refine ⟨v,h1,?_⟩
  cases ho:a.own with
  | true=>exact h2.off fun z=>hs j a h ho (by rw[h1,z])
  | false=>
   cases a with
   | l xs=>cases ho
   | m xs=>cases ho
   | d x=>exact h2
   | x e=>exact h2
   | g k n f=>exact h2
   | k S=>exact h2
   | f S=>exact h2
   | o S=>exact h2
 apart:=b.apart
 f0:=b.f0
 h0:=fun a o' z=>by rw[aD (fun w=>by rw[w,h4] at z;cases z)];exact b.h0 a o' z
 n0:=b.n0
 t0:=b.t0
theorem Ab.pub9{c:Ct}{ρ:Sg}{σ:L2.St}{F H:Hp}{p:Addr}{o:HO}(b:Ab c ρ σ F H)(h2:H p=some o)(h3:F p=none)(h4:c.H0 p=none)(hs:pK ρ σ p):Ab c ρ σ (upd F p o) H:=by
 have sf:aF F (upd F p o):=aF.upd h3
 exact {
  len:=b.len
  fh:=fun a o' z=>by
   by_cases w:a=p
   ·subst w;rw[aL] at z;rw[h2];exact z
   ·rw[aD w] at z;exact b.fh a o' z
  slot:=fun j a h=>by
   obtain ⟨w,hw,q2⟩:=b.slot j a h
   refine ⟨w,hw,?_⟩
   have off:∀ r,a.own=true->w=.ref r->F r=none->upd F p o r=none:=fun r oa e f=>by
    rw[aD]
    ·exact f
    ·intro z
     subst z
     exact hs j a h oa (by rw[hw,e])
   cases a with
   | l zs=>obtain ⟨r,ws,e,q1,q2,q3,q4⟩:=q2;exact ⟨r,ws,e,q1,off r rfl e q2,q3,q4.same sf⟩
   | m kvs=>obtain ⟨r,ws,e,q1,q2,q3,q4⟩:=q2;exact ⟨r,ws,e,q1,off r rfl e q2,q3,q4.same sf⟩
   | d x=>exact DatV.same sf q2
   | x e=>exact AF.same (g:=c.g) (K:=c.K) (mg:=c.mg) (a:=.x e) sf q2
   | g k n f=>exact AF.same (g:=c.g) (K:=c.K) (mg:=c.mg) (a:=.g k n f) sf q2
   | k S=>obtain ⟨S,f,cl,doc,pm,cc,ct,h0,h1,h2,h3,h4⟩:=q2;exact ⟨S,f,cl,doc,pm,cc,ct,h0,h1,sf _ _ h2,sf _ _ h3,h4⟩
   | f kvs=>exact AF.same (g:=c.g) (K:=c.K) (mg:=c.mg) (a:=.f kvs) sf q2
   | o e=>exact AF.same (g:=c.g) (K:=c.K) (mg:=c.mg) (a:=.o e) sf q2
  apart:=b.apart
  f0:=fun a o z=>sf a o (b.f0 a o z)
  h0:=b.h0
  n0:=fun a z n=>by
   by_cases w:a=p
   ·subst w;exact .inl h4
   ·rw[aD w] at n;exact b.n0 a z n
  t0:=b.t0}
theorem rX{α:Type}{l:List α}{i:Nat}{x:α}(h:l[i]? = some x):l.set i x=l:=by
 obtain ⟨hl,e⟩:=List.getElem?_eq_some_iff.mp h
 rw[<-e];exact List.set_getElem_self hl
structure Own9(c:Ct)(F H:Hp)(ρ:Sg)(σ:L2.St)(i:Nat)(p b:Addr)(u:V)(ws:List V):Prop where
 s:σ[i]? = some (some (.ref p))
 ne:p≠b
 hp:H p=some (.lst [u,.ref b])
 hb:H b=some (.lst ws)
 fp:F p=none
 fb:F b=none
 p0:c.H0 p=none
 b0:c.H0 b=none
 np:pK ρ σ p
 nb:pK ρ σ b
theorem Own9.ext{c:Ct}{F H F' H':Hp}{ρ:Sg}{σ:L2.St}{i:Nat}{p b:Addr}{u:V}{ws:List V}(h:Own9 c F H ρ σ i p b u ws)(e:Ext F H F' H'):Own9 c F' H' ρ σ i p b u ws:=
 ⟨h.s,h.ne,e.hh _ _ h.hp,e.hh _ _ h.hb,e.stay h.fp h.hp (fun _ z=>nomatch z),e.stay h.fb h.hb (fun _ z=>nomatch z),h.p0,h.b0,h.np,h.nb⟩
theorem Own9.done{c:Ct}{F H:Hp}{ρ:Sg}{σ:L2.St}{i:Nat}{p b:Addr}{u:V}{ws ws':List V}{d1:PyData}{ys:List PyData}(h:Own9 c F H ρ σ i p b u ws)(ab:Ab c ρ σ F H)(h1:DatV c.K F u d1)(h2:DatVs c.K F ws' ys) :
  ∃ F',aF F F'/\Ab c (ρ.set i (some (.d (.list [d1,.list ys])))) σ F' (upd H b (.lst ws')):=by
 have a1:=(ab.off9 (o:=.lst ws') h.fb h.b0 h.nb).pub9 (p:=b) aL h.fb h.b0 h.nb
 have a2:=a1.pub9 (p:=p) (o:=.lst [u,.ref b]) (by rw[aD h.ne];exact h.hp) (by rw[aD h.ne];exact h.fp) h.p0 h.np
 have s1:aF F (upd F b (.lst ws')):=aF.upd h.fb
 have s2:aF (upd F b (.lst ws')) (upd (upd F b (.lst ws')) p (.lst [u,.ref b])):=aF.upd (by rw[aD h.ne];exact h.fp)
 have a3:=a2.setA (i:=i) (a:=.d (.list [d1,.list ys])) (v:=.ref p) (.lst (SqL.of aL) (.cons ((h1.same s1).same s2) (.cons (.lst (SqL.of (by rw[aD (Ne.symm h.ne)];exact aL)) ((h2.same s1).same s2)) .nil)))
 rw[rX h.s] at a3
 exact ⟨_,fun a o z=>s2 a o (s1 a o z),a3⟩
end Fl
namespace Fl
open PySem L2 PyProof.Rows
def aCA(ρ:Sg):Bool:=ρ.all fun o=>match o with
 | some a=>!a.own
 | none=>true
theorem tF{ρ:Sg}{σ:L2.St}{p:Addr}(h:aCA ρ=true):pK ρ σ p:=fun j a hj ho=>by
 have z:=List.all_eq_true.mp h _ (List.mem_of_getElem? hj)
 simp only[ho] at z
 cases z
structure OwnL(c:Ct)(F H:Hp)(σ:L2.St)(i:Nat)(p:Addr)(qs:List Addr)(vss:List (List V)):Prop where
 s:σ[i]? = some (some (.ref p))
 hp:H p=some (.lst (qs.map V.ref))
 fp:F p=none
 p0:c.H0 p=none
 np:p∉qs
 nd:qs.Nodup
 len:vss.length=qs.length
 q:∀ (j:Nat) (q:Addr) (vs:List V),qs[j]? = some q->vss[j]? = some vs->H q=some (.lst vs)/\F q=none/\c.H0 q=none
theorem OwnL.ext{c:Ct}{F H F' H':Hp}{σ:L2.St}{i:Nat}{p:Addr}{qs:List Addr}{vss:List (List V)}(h:OwnL c F H σ i p qs vss)(e:Ext F H F' H'):OwnL c F' H' σ i p qs vss:=
 ⟨h.s,e.hh _ _ h.hp,e.stay h.fp h.hp (fun _ z=>nomatch z),h.p0,h.np,h.nd,h.len,fun j q vs h1 h2=>by
  obtain ⟨a,b,d⟩:=h.q j q vs h1 h2
  exact ⟨e.hh _ _ a,e.stay b a (fun _ z=>nomatch z),d⟩⟩
theorem aAQ{c:Ct}{ρ:Sg}{σ:L2.St}{H:Hp}(hn:aCA ρ=true):∀ (qs:List Addr) (vss:List (List V)) {F:Hp},Ab c ρ σ F H->qs.Nodup->vss.length=qs.length->(∀ (j:Nat) (q:Addr) (vs:List V),qs[j]? = some q->vss[j]? = some vs->H q=some (.lst vs)/\F q=none/\c.H0 q=none)->
  ∃ F',aF F F'/\Ab c ρ σ F' H/\(∀ (j:Nat) (q:Addr) (vs:List V),qs[j]? = some q->vss[j]? = some vs->F' q=some (.lst vs))/\∀ a,a∉qs->F' a=F a
 | [],_,F,ab,_,_,_=>⟨F,bV F,ab,fun j q vs h=>by simp at h,fun _ _=>rfl⟩
 | q::qs,[],F,ab,_,hl,_=>by simp at hl
 | q::qs,vs::vss,F,ab,nd,hl,h=>by
  obtain ⟨a,b,d⟩:=h 0 q vs rfl rfl
  have ab1:=ab.pub9 a b d (tF hn)
  have nq:q∉qs:=(List.nodup_cons.mp nd).1
  obtain ⟨F',s1,ab2,k1,k2⟩:=aAQ hn qs vss ab1 (List.nodup_cons.mp nd).2 (by simpa using hl) (fun j r ws e1 e2=>by
   obtain ⟨x,y,z⟩:=h (j+1) r ws (by simpa using e1) (by simpa using e2)
   exact ⟨x,by rw[aD (fun w=>nq (by rw[<-w];exact List.mem_of_getElem? e1))];exact y,z⟩)
  refine ⟨F',fun x o z=>s1 x o (aF.upd b x o z),ab2,fun j r ws e1 e2=>?_,fun x hx=>?_⟩
  ·cases j with
   | zero=>simp at e1 e2;subst e1 e2;rw[k2 q nq,aL]
   | succ j=>exact k1 j r ws (by simpa using e1) (by simpa using e2)
  ·rw[List.mem_cons,not_or] at hx
   rw[k2 x hx.2,aD hx.1]
theorem yR{K:Frag}{F F2:Hp}(s:aF F F2):∀ {qs:List Addr} {vss:List (List V)} {xss:List (List PyData)},vss.length=qs.length->xss.length=qs.length->(∀ (j:Nat) (q:Addr) (vs:List V),qs[j]? = some q->vss[j]? = some vs->F2 q=some (.lst vs))->(∀ (j:Nat) vs xs,vss[j]? = some vs->xss[j]? = some xs->DatVs K F vs xs)->DatVs K F2 (qs.map V.ref) (xss.map PyData.list)
 | [],_,[],_,_,_,_=>.nil
 | [],_,_::_,_,h,_,_=>by simp at h
 | q::qs,[],_,h,_,_,_=>by simp at h
 | q::qs,_,[],_,h,_,_=>by simp at h
 | q::qs,vs::vss,xs::xss,h1,h2,h3,h4=>.cons (.lst (SqL.of (h3 0 q vs rfl rfl)) ((h4 0 vs xs rfl rfl).same s)) (yR s (by simpa using h1) (by simpa using h2) (fun j r ws e1 e2=>h3 (j+1) r ws (by simpa using e1) (by simpa using e2)) (fun j r ws e1 e2=>h4 (j+1) r ws (by simpa using e1) (by simpa using e2)))
theorem OwnL.done{c:Ct}{F H:Hp}{ρ:Sg}{σ:L2.St}{i:Nat}{p:Addr}{qs:List Addr}{vss:List (List V)}{xss:List (List PyData)}(h:OwnL c F H σ i p qs vss)(ab:Ab c ρ σ F H)(hn:aCA ρ=true)(hx:xss.length=qs.length)(hd:∀ (j:Nat) vs xs,vss[j]? = some vs->xss[j]? = some xs->DatVs c.K F vs xs) :
  ∃ F',aF F F'/\Ab c (ρ.set i (some (.d (.list (xss.map PyData.list))))) σ F' H:=by
 obtain ⟨F1,s1,ab1,k1,k2⟩:=aAQ hn qs vss ab h.nd h.len h.q
 have fp:F1 p=none:=by rw[k2 p h.np];exact h.fp
 have ab2:=ab1.pub9 h.hp fp h.p0 (tF hn)
 have s2:aF F1 (upd F1 p (.lst (qs.map V.ref))):=aF.upd fp
 have ab3:=ab2.setA (i:=i) (a:=.d (.list (xss.map PyData.list))) (v:=.ref p) (.lst (SqL.of aL) (yR (fun a o z=>s2 a o (s1 a o z)) h.len hx (fun j q vs e1 e2=>s2 _ _ (k1 j q vs e1 e2)) hd))
 rw[rX h.s] at ab3
 exact ⟨_,fun a o z=>s2 a o (s1 a o z),ab3⟩
end Fl
namespace Fl
open PySem L2 PyProof.Rows
mutual
def nlD:PyData->Bool
 | .list _=>false
 | .dict _=>false
 | .tuple xs=>uK xs
 | _=>true
def uK:List PyData->Bool
 | []=>true
 | x::t=>nlD x && uK t
end
def jS(F:Hp)(q:Addr):Hp:=fun a=>if a=q then none else F a
theorem aG8(F:Hp)(q:Addr):aF (jS F q) F:=fun a o e=>by
 unfold jS at e
 split at e
 · cases e
 · exact e
theorem aJ9{F H:Hp}{q:Addr}{o:HO}(s:aF F H):aF (jS F q) (upd H q o):=fun a u e=>by
 unfold jS at e
 split at e
 ·cases e
 ·rename_i n
  rw[aD n];exact s a u e
theorem aKA{K:Frag}{F:Hp}{a q:Addr}{xs vs:List V}(hq:F q=some (.lst vs))(h:SqT K F a xs):SqT K (jS F q) a xs:=by
 unfold SqT at h ⊢
 rcases h with h|h
 ·refine .inl ?_
  have k:∀ u,F a=some u->(∀ ws,u≠.lst ws)->jS F q a=some u:=fun u e n=>by
   unfold jS
   rw[if_neg (by rintro rfl;rw[hq] at e;cases e;exact n _ rfl)]
   exact e
  rcases h with h|⟨o,h⟩
  ·exact .inl (k _ h fun _=>by simp)
  ·exact .inr ⟨o,k _ h fun _=>by simp⟩
 ·exact .inr h
mutual
theorem aAR{K:Frag}{F:Hp}{q:Addr}{vs:List V}(hq:F q=some (.lst vs)):∀ {x:V} {d:PyData},DatV K F x d->nlD d=true->DatV K (jS F q) x d
 | _,_,.non,_=>.non
 | _,_,.bl b,_=>.bl b
 | _,_,.int i,_=>.int i
 | _,_,.str x,_=>.str x
 | _,_,.lst h ds,n=>by cases n
 | _,_,.tup h ds,n=>.tup (aKA hq h) (yS hq ds n)
 | _,_,.pl h,n=>by cases n
theorem yS{K:Frag}{F:Hp}{q:Addr}{vs:List V}(hq:F q=some (.lst vs)):∀ {xs:List V} {ds:List PyData},DatVs K F xs ds->uK ds=true->DatVs K (jS F q) xs ds
 | _,_,.nil,_=>.nil
 | _,_,.cons h t,n=>by
  have n':(nlD _ && uK _)=true:=n
  rw[Bool.and_eq_true] at n'
  exact .cons (aAR hq h n'.1) (yS hq t n'.2)
end
end Fl
namespace Fl
open PySem L2 PyProof.Rows
def dD(ns:List Int):PyData:=.dict [(.list (ns.map .int),.none)]
def jG:List PyData->Option (List Int)
 | []=>some []
 | .int i::t=>match jG t with
  | some r=>some (i::r)
  | none=>none
 | _=>none
theorem rY:∀ {xs:List PyData} {ns:List Int},jG xs=some ns->xs=ns.map .int
 | [],_,h=>by cases h;rfl
 | x::t,ns,h=>by
  cases x with
  | int i=>
   unfold jG at h
   split at h
   ·rename_i r e
    cases h
    rw[rY e];rfl
   ·cases h
  | _=>cases h
theorem aAS{K:Frag}{F:Hp}:∀ {ns:List Int} {vs:List V},DatVs K F vs (ns.map .int)->vs=ns.map V.int
 | [],_,h=>by cases h;rfl
 | n::t,_,h=>by
  obtain ⟨v,r,rfl,h1,h2⟩:=h.cons_of
  rw[h1.int_of,aAS h2];rfl
def eLT(f:Sg->R (List PyData)):Sg->R PyData:=fun ρ=>(f ρ).bind fun xs=>match jG xs with
 | some ns=>.ok (dD ns)
 | none=>.bad
def aCB:PyData->PyData
 | .dict [(x,.none)]=>x
 | x=>x
def rZ:PyData->PyData
 | .dict [(x,.none)]=>x
 | .list xs=>.list (xs.map aCB)
 | x=>x
theorem aG9{K:Frag}{F:Hp}{v:V}{x:PyData}(h:DatV K F v x):DatV K F v (aCB x):=by
 cases h with
 | pl h=>exact .lst (SqL.of h) (lG _)
 | non=>exact .non
 | bl b=>exact .bl b
 | int i=>exact .int i
 | str x=>exact .str x
 | lst h ds=>exact .lst h ds
 | tup h ds=>exact .tup h ds
theorem yT{K:Frag}{F:Hp}:∀ {vs:List V} {xs:List PyData},DatVs K F vs xs->DatVs K F vs (xs.map aCB)
 | _,_,.nil=>.nil
 | _,_,.cons h t=>.cons (aG9 h) (yT t)
theorem aAT{K:Frag}{F:Hp}{v:V}{x:PyData}(h:DatV K F v x):DatV K F v (rZ x):=by
 cases h with
 | pl h=>exact .lst (SqL.of h) (lG _)
 | non=>exact .non
 | bl b=>exact .bl b
 | int i=>exact .int i
 | str x=>exact .str x
 | lst h ds=>exact .lst h (yT ds)
 | tup h ds=>exact .tup h ds
def uL(x:PyData):R PyData:=.ok (rZ x)
def uM(i:Nat)(ρ:Sg):Sg:=match ρ[i]? with
 | some (some (.d x))=>ρ.set i (some (.d (rZ x)))
 | _=>ρ
def aCC(i:Nat)(f:Sg->R Fw):Sg->R Fw:=fun ρ=>f (uM i ρ)
section
variable{X:Cx}{c:Ct}{E:XK}{e:Expr}{st:Stmt}{rest:List Stmt}{pos:Pos}
theorem aKB{f:Sg->R (List PyData)}(h:PN X c E e f):PD X c E e (eLT f):=PE.imp h fun σ H Q ⟨ρ,F,ab,k⟩=>⟨ρ,F,ab,(Rk.bind k).imp fun xs _ q v F' H' s r=>by
 obtain ⟨p,vs,h1,h2,h3,h4,h5⟩:=r
 subst h1
 cases e:jG xs with
 | none=>rw[e] at q;exact q.elim
 | some ns=>
  rw[e] at q
  rw[rY e] at h5
  obtain rfl:=aAS h5
  refine Rk.ok q (.ref p) (upd F' p (.lst (ns.map V.int))) H' ⟨s.hh,fun a o z=>?_,fun a o z=>?_,fun a z n=>?_⟩ (.pl aL)
  ·rw[aD (bB (s.ff a o z) h4)];exact s.ff a o z
  ·by_cases w:a=p
   · subst w; rw [aL] at z; rw [h3]; exact z
   · rw [aD w] at z; exact s.fh a o z
  ·by_cases w:a=p
   · subst w; exact .inl h2
   · rw [aD w] at n; exact s.nw a z n⟩
theorem aEU{f:Sg->R PyData}(h:PD X c E e f):PD X c E e (e1 uL f):=PE.imp h fun σ H Q ⟨ρ,F,ab,k⟩=>⟨ρ,F,ab,(Rk.bind k).imp fun x _ q v F' H' s r=>Rk.ok q v F' H' s (aAT r)⟩
theorem Ab.unt{ρ:Sg}{σ:L2.St}{F H:Hp}(b:Ab c ρ σ F H)(i:Nat):Ab c (uM i ρ) σ F H:=by
 unfold uM
 split
 ·rename_i x hi
  obtain ⟨v,hv,r⟩:=b.slot i _ hi
  have:=b.setA (i:=i) (a:=.d (rZ x)) (v:=v) (aAT r)
  rw[rX hv] at this
  exact this
 ·exact b
theorem aM8(i:Nat){f:Sg->R Fw}(h:PSf X c E st f):PSf X c E st (aCC i f):=PS.imp h fun D σ H ⟨ρ,F,ab,k⟩=>⟨uM i ρ,F,ab.unt i,k⟩
def aCD(c:Ct)(f:Sg->R Fw):TS:=fun D σ H=>∃ ρ F,Ab c ρ σ F H/\f ρ=.ok (.rt (.d (.bool true)))/\∀ H',D.rt (.bl true) H'
theorem gP{f g:Sg->R Fw}(h:PSf X c E st f)(h2:PSs X rest (aCD c g)):PSs X (st::rest) (aCD c (aK f g)):=PSs.imp (L2.aJ h h2) fun D σ H zz0=>by
 obtain ⟨ρ,F,ab,k,q⟩:=zz0
 refine ⟨ρ,F,ab,?_⟩
 have k:(f ρ).bind (fun w=>match w with | .nx ρ'=>g ρ'|w=>.ok w)=.ok (.rt (.d (.bool true))):=k
 cases e:f ρ with
 | bad=>rw[e] at k;cases k
 | ex x=>rw[e] at k;cases k
 | ok w=>
  rw[e] at k
  cases w with
  | nx ρ'=>
   intro σ' F' H' s ab'
   exact ⟨ρ',F',ab',k,q⟩
  | bk ρ'=>cases k
  | ct ρ'=>cases k
  | rt a=>
   cases k
   intro v F' H' _ r
   obtain rfl:=DatV.bl_of r
   exact q H'
def m7:List PyData->Option (List (List Int))
 | []=>some []
 | .dict [(.list xs,.none)]::t=>match jG xs,m7 t with
  | some ns,some r=>some (ns::r)
  | _,_=>none
 | _=>none
def kM(r:List Int):PyData:=.list (r.map .int)
theorem yU{K:Frag}{F:Hp}:∀ {ts:List PyData} {rows:List (List Int)},m7 ts=some rows->ts.length=rows.length/\∀ (i:Nat) r,rows[i]? = some r->ts[i]? = some (dD r)
 | [],_,h=>by cases h;exact ⟨rfl,fun i r z=>by simp at z⟩
 | t::ts,rows,h=>by
  unfold m7 at h
  split at h
  ·rename_i h0;cases h0
  ·rename_i xs t' h0
   cases h0
   split at h
   ·rename_i ns r e1 e2
    cases h
    obtain ⟨l,g⟩:=yU (K:=K) (F:=F) e2
    refine ⟨by simp[l],fun i r' z=>?_⟩
    cases i with
    | zero=>simp at z;subst z;rw[rY e1];rfl
    | succ i=>simpa using g i r' (by simpa using z)
   ·cases h
  ·cases h
theorem aEV{K:Frag}{F:Hp}{v:V}{r:List Int}(h:DatV K F v (dD r)):∃ q,v=.ref q/\F q=some (.lst (r.map V.int)):=by
 unfold dD at h
 generalize hd:PyData.dict [(.list (r.map .int),.none)]=d at h
 cases h with
 | @pl a ns h0=>
  injection hd with hd
  injection hd with hd _
  injection hd with hd _
  injection hd with hd
  have:r=ns:=by
   have inj:∀ (x y:List Int),x.map PyData.int=y.map PyData.int->x=y:=fun x=>by
    induction x with
    | nil=>intro y e;cases y with|nil=>rfl|cons=>cases e
    | cons a t ih=>
     intro y e
     cases y with
     | nil=>cases e
     | cons b u=>injection e with e1 e2;injection e1 with e1;rw[e1,ih u e2]
   exact inj _ _ hd
  subst this
  exact ⟨a,rfl,h0⟩
 | _=>cases hd
def yV(i j k:Nat)(f:Sg->R Fw):Sg->R Fw:=fun ρ=>match ρ[i]?,ρ[k]? with
 | some (some (.d (.list ts))),some (some (.d m))=>match m7 ts with
  | some (r::rows)=>if ts.length<=16777216/\nlD m=true/\i≠j/\k≠j/\j < ρ.length/\k < ρ.length then f (((List.replicate ρ.length none).set k (some (.d m))).set j (some (.d (.list ((r::rows).map kM))))) else .bad
  | _=>.bad
 | _,_=>.bad
theorem aM9{t:Hp->Hp->TS}{sts:List Stmt}(h:∀ F0 H0,PSs X sts (t F0 H0)):PSs X sts (fun D σ H=>∃ F0 H0,t F0 H0 D σ H):=fun pins s σ H D I ⟨F0,H0,q⟩=>h F0 H0 pins s σ H D I q
theorem aKC{st1 st2 st3:Stmt}{i j k:Nat}{N:List Str}{js:List (Option Nat)}{scope:Scope}{tg elt:Expr}{f:Sg->R Fw}(hK:X.K=c.K)(hT:∀ a xs,c.g.T a≠some (.lst xs))
  (h1:PS X st1 (kB (pR X N scope js tg elt [] (tI c E (e1 aY (rV i)))) (iA j))) (hj:js[0]? = some none)
  (hb:∀ (cl:List (Str×Addr)) (C:Addr) (s:Shared) (H0:Hp) (fp:List Addr),PG (eP X N scope cl C s H0 fp) tg (iA 0)/\PE (eP X N scope cl C s H0 fp) elt (tCB (fun xs H Q=>∃ p ys,xs=[.ref p]/\(SqL X.K H p ys\/SqT X.K H p ys)/\∀ l,H l=none->Q (.ref l) (upd H l (.lst ys))) (eX (jI 0) gH)))
  (h2:PS X st2 (vZ (aLM X.K "list" aCU (tOp (rIx X.K) (jI i) (tC (.int 0))))))
  (h3:∀ F0 H0,nP X {c with F0:=F0,H0:=H0} E [st3] f):PSs X [st1,st2,st3] (aCD c (yV i j k f)):=PSs.imp (L2.aJ h1 (L2.aJ h2 (aM9 h3))) fun D σ H ⟨ρ,F,ab,kk,q⟩=>by
 unfold yV at kk
 split at kk
 ·rename_i ts m hi hk
  split at kk
  ·rename_i r0 rows0 hrows
   split at kk
   ·rename_i hc
    obtain ⟨c1,c2,c3,c4,c5,c6⟩:=hc
    obtain ⟨tl,tg'⟩:=yU (K:=c.K) (F:=F) hrows
    generalize hR:r0::rows0=Rr at *
    have hR0:Rr[0]? = some r0:=by rw[<-hR];rfl
    have hit:(e1 aY (rV i)) ρ=.ok ts:=by
     show ((match ρ[i]? with|some (some (.d x))=>R.ok x|some (some (.l xs))=>.ok (.list xs)|_=>.bad).bind aY)=_
     rw[hi]
     show (if ts.length<=16777216 then R.ok ts else .bad)=_
     rw[if_pos c1]
    refine ⟨ρ,F,ab,?_⟩
    rw[hit]
    intro J B F1 H1 s1 sb yl
    refine zO (n:=ts.length) (fun n acc H'=>∃ F' qs,Ext F1 H1 F' H'/\acc=qs.map V.ref/\qs.length=n/\qs.Nodup/\∀ (l:Nat) p row,qs[l]? = some p->Rr[l]? = some row->H1 p=none/\H' p=some (.lst (row.map V.int))/\F' p=none) yl.len ⟨F1,[],Ext.refl s1.fh,rfl,rfl,List.nodup_nil,fun l p row h=>by simp at h⟩ ?_ ?_ ?_ ?_ ?_
    ·rintro n acc H' _ ⟨F',qs,_,rfl,h,_⟩;rw[List.length_map,h];exact Nat.le_refl _
    ·rintro n acc H' hlt ⟨F',qs,e1,_⟩
     exact yl.go n F' H' e1.ff e1.fh (fun a o z=>e1.hh a o (sb a o z)) hlt
    ·rintro acc H' ⟨F',qs,e1,_⟩
     exact yl.stop F' H' e1.ff e1.fh (fun a o z=>e1.hh a o (sb a o z))
    ·rintro n v acc Ha Hb hlt ⟨F',qs,e1,rfl,hlen,nd,hq⟩ hy
     obtain ⟨F2,e2,rx⟩:=yl.yld n F' Ha v Hb ts[n] e1.ff e1.fh (fun a o z=>e1.hh a o (sb a o z)) hy (List.getElem?_eq_getElem hlt)
     have hRn:Rr[n]? = some (Rr[n]'(by omega)):=List.getElem?_eq_getElem (by omega)
     generalize hrow:Rr[n]'(by omega)=row at hRn
     have htn:ts[n]=dD row:=by
      have:=tg' n row hRn
      rw[List.getElem?_eq_getElem hlt] at this
      exact Option.some.inj this
     rw[htn] at rx
     obtain ⟨qv,rfl,hqv⟩:=aEV rx
     intro cl C s H0 fp
     obtain ⟨hpg,hpe⟩:=hb cl C s H0 fp
     refine ⟨_,_,_,hpg,L2.cJ,hpe,fun σ0 k0=>⟨xQ (is:=[0]) k0 List.length_set (fun j hj=>List.getElem?_set_ne (fun z=>hj (by simp[z]))) (fun j hj=>by rw[List.mem_singleton.mp hj];assumption),?_⟩⟩
     dsimp only[aLO]
     rw[if_pos rfl]
     have hl0:0 < σ0.length:=by
      rw[k0.1]
      unfold iU
      rw[List.length_map]
      cases js with
      | nil=>cases hj
      | cons a t=>simp
     refine ⟨.ref qv,List.getElem?_set_self hl0,qv,row.map V.int,rfl,.inl (SqL.of (e2.fh _ _ hqv)),fun r hr=>?_⟩
     have e3:Ext F2 Hb F2 (upd Hb r (.lst (row.map V.int))):=Ext.own e2.fh hr
     refine ⟨F2,qs++[r],e1.trans (e2.trans e3),by rw[List.map_append];rfl,by rw[List.length_append,hlen];rfl,?_,fun l p w hl hw=>?_⟩
     ·rw[List.nodup_append]
      refine ⟨nd,by simp,fun a ha b hb z=>?_⟩
      rw[List.mem_singleton] at hb
      subst hb z
      obtain ⟨l,hl⟩:=List.getElem?_of_mem ha
      have hll:l < qs.length:=(List.getElem?_eq_some_iff.mp hl).1
      have:=e2.hh _ _ (hq l a _ hl (List.getElem?_eq_getElem (by omega))).2.1
      rw[hr] at this
      cases this
     ·rcases Nat.lt_or_ge l qs.length with hll|hll
      ·rw[List.getElem?_append_left hll] at hl
       obtain ⟨y1,y2,y3⟩:=hq l p w hl hw
       have e23:=e2.trans e3
       exact ⟨y1,e23.hh _ _ y2,e23.stay y3 y2 (fun _ z=>nomatch z)⟩
      ·rw[List.getElem?_append_right hll] at hl
       have hl0:l - qs.length=0:=by
        have:=(List.getElem?_eq_some_iff.mp hl).1
        simp at this
        omega
       rw[hl0] at hl
       simp at hl
       subst hl
       have:l=n:=by omega
       subst this
       rw[hRn] at hw
       cases hw
       exact ⟨bG (e1.trans e2).hh hr,aL,bG e2.fh hr⟩
    ·rintro acc H2 ⟨F2,qs,e1,rfl,hlen,nd,hq⟩ p hp
     have e2:Ext F2 H2 F2 (upd H2 p (.lst (qs.map V.ref))):=Ext.own e1.fh hp
     have sF:aF F F2:=fun a o z=>e1.ff a o (s1.ff a o z)
     have hpq:p∉qs:=fun z=>by
      obtain ⟨l,hl⟩:=List.getElem?_of_mem z
      have hll:l < qs.length:=(List.getElem?_eq_some_iff.mp hl).1
      have:=(hq l p _ hl (List.getElem?_eq_getElem (by omega))).2.1
      rw[hp] at this;cases this
     have hsl:j < σ.length:=by rw[<-ab.len];exact c5
     obtain ⟨vf,hvf,rf⟩:=ab.slot i _ hi
     obtain ⟨vm,hvm,rm⟩:=ab.slot k _ hk
     obtain ⟨af,us,rfl,hsq,hus⟩:=DatV.lst_of rf
     have hus0:∃ u0,us[0]? = some u0/\DatV c.K F u0 (dD r0):=by
      obtain ⟨x,g1,g2⟩:=DatVs.get' hus (tg' 0 r0 hR0)
      exact ⟨x,g1,g2⟩
     obtain ⟨u0,hu0,ru0⟩:=hus0
     obtain ⟨q0,rfl,hq0⟩:=aEV ru0
     have hq02:F2 q0=some (.lst (r0.map V.int)):=sF _ _ hq0
     have hH0:H2 q0=some (.lst (r0.map V.int)):=e1.fh _ _ hq02
     have hne:q0≠p:=fun z=>by rw[z,hp] at hH0;cases hH0
     have hnq:q0∉qs:=fun z=>by
      obtain ⟨l,hl⟩:=List.getElem?_of_mem z
      have hll:l < qs.length:=(List.getElem?_eq_some_iff.mp hl).1
      have h1:=(hq l q0 _ hl (List.getElem?_eq_getElem (by omega))).2.2
      rw[hq02] at h1;cases h1
     show ∃ v,(σ.set j (some (.ref p)))[i]? = some (some v)/\_
     refine ⟨.ref af,by rw[List.getElem?_set_ne (Ne.symm c3)];exact hvf,?_⟩
     refine .inl ⟨af,us,0,.ref q0,rfl,rfl,?_,?_,?_⟩
     ·rw[hK];exact (SqL.same sF hsq).same (fun a o z=>e2.hh a o (e1.fh a o z))
     ·have h0:0 < us.length:=(List.getElem?_eq_some_iff.mp hu0).1
      exact eN (j:=0) hu0
     ·refine ⟨.inl ⟨rfl,_,SqL.of (e2.hh _ _ hH0)⟩,q0,r0.map V.int,rfl,rfl,e2.hh _ _ hH0,?_⟩
      let F3:Hp:=fun a=>if a=p\/a∈qs then (upd H2 p (.lst (qs.map V.ref))) a else jS F2 q0 a
      have f3p:F3 p=some (.lst (qs.map V.ref)):=by show (if p=p\/p∈qs then _ else _)=_;rw[if_pos (.inl rfl),aL]
      have f3q:∀ (l:Nat) x row,qs[l]? = some x->Rr[l]? = some row->F3 x=some (.lst (row.map V.int)):=fun l x row h1 h2=>by
       have hx:=List.mem_of_getElem? h1
       show (if x=p\/x∈qs then _ else _)=_
       rw[if_pos (.inr hx),aD (fun z=>hpq (by rw[<-z];exact hx))]
       exact (hq l x row h1 h2).2.1
      have outF:∀ a o,F2 a=some o->¬ (a=p\/a∈qs):=fun a o z w=>by
       rcases w with w|w
       ·subst w
        have:=e1.fh _ _ z
        rw[hp] at this;cases this
       ·obtain ⟨l,hl⟩:=List.getElem?_of_mem w
        have hll:l < qs.length:=(List.getElem?_eq_some_iff.mp hl).1
        have h1:=(hq l a _ hl (List.getElem?_eq_getElem (by omega))).2.2
        rw[z] at h1;cases h1
      have s3:aF (jS F2 q0) F3:=fun a o z=>by
       show (if a=p\/a∈qs then _ else _)=_
       rw[if_neg (outF a o (aG8 F2 q0 a o z))];exact z
      have fh3:aF F3 (upd (upd H2 p (.lst (qs.map V.ref))) q0 (.lst [])):=fun a o z=>by
       have z:(if a=p\/a∈qs then (upd H2 p (.lst (qs.map V.ref))) a else jS F2 q0 a)=some o:=z
       by_cases w:a=p\/a∈qs
       ·rw[if_pos w] at z
        rw[aD]
        ·exact z
        ·rintro rfl
         rcases w with w|w
         ·exact hne w
         ·exact hnq w
       ·rw[if_neg w] at z
        exact aJ9 (fun a o z=>e2.hh a o (e1.fh a o z)) a o z
      have lenqs:qs.length=Rr.length:=by omega
      have dk:DatV c.K F3 (.ref p) (.list (Rr.map kM)):=by
       refine .lst (SqL.of f3p) ?_
       have aux:∀ (qs':List Addr) (R':List (List Int)),qs'.length=R'.length->(∀ (l:Nat) x row,qs'[l]? = some x->R'[l]? = some row->F3 x=some (.lst (row.map V.int)))->DatVs c.K F3 (qs'.map V.ref) (R'.map kM):=fun qs'=>by
        induction qs' with
        | nil=>intro R' hl _;cases R' with|nil=>exact .nil|cons=>simp at hl
        | cons x t ih=>
         intro R' hl h
         cases R' with
         | nil=>simp at hl
         | cons row R''=>exact .cons (.lst (SqL.of (h 0 x row rfl rfl)) (lG row)) (ih R'' (by simpa using hl) fun l y w h1 h2=>h (l+1) y w (by simpa using h1) (by simpa using h2))
       exact aux qs Rr lenqs f3q
      have dm:DatV c.K F3 vm m:=(aAR hq02 (DatV.same sF rm) c2).same s3
      refine ⟨F3,F3,((List.replicate ρ.length none).set k (some (.d m))).set j (some (.d (.list (Rr.map kM)))),F3,?_,?_⟩
      ·exact {
        len:=by rw[List.length_set,List.length_set,List.length_replicate,List.length_set];exact ab.len
        fh:=fh3
        slot:=fun l a h=>by
         rcases get_set h with ⟨e,w,_⟩|⟨ne,w⟩
         ·subst e
          cases w
          exact ⟨.ref p,List.getElem?_set_self hsl,dk⟩
         ·rcases get_set w with ⟨e',w',_⟩|⟨ne',w'⟩
          ·subst e'
           cases w'
           exact ⟨vm,by rw[List.getElem?_set_ne ne];exact hvm,dm⟩
          ·rw[List.getElem?_replicate] at w'
           split at w'<;>cases w'
        apart:=fun l l' a b hll h1 h2 o1 o2=>by
         rcases get_set h1 with ⟨e,w,_⟩|⟨ne,w⟩
         ·cases w;cases o1
         ·rcases get_set w with ⟨e',w',_⟩|⟨ne',w'⟩
          ·cases w';cases o1
          ·rw[List.getElem?_replicate] at w'
           split at w'<;>cases w'
        f0:=bV F3
        h0:=fh3
        n0:=fun a e n=>absurd e n
        t0:=fun a o z=>s3 a o (by
         have z1:F2 a=some o:=sF a o (ab.f0 a o (ab.t0 a o z))
         unfold jS
         rw[if_neg]
         ·exact z1
         ·rintro rfl
          rw[hq02] at z1
          cases z1
          exact hT _ _ z)}
      ·rw[kk]
       intro v F' H' _ r
       obtain rfl:=DatV.bl_of r
       exact q H'
   ·cases kk
  ·cases kk
 ·cases kk
end
def spL(g:Gb)(K:Frag)(mg:Str->Option Value)(n:Nat)(G:List A->R A):Sp:=fun vs H Q _=>∃ F as,aF g.T F/\aF F H/\AFs g K mg F as vs/\as.length=n/\G as=.ok (.d (.bool true))/\∀ H',Q (.bl true) H'
theorem aKD{P:Program}{w:World}{K:Frag}{mg:Str->Option Value}{base:Heap}{T:Hp}{x:Str}{st:Stmt}{N ps:List Str}{k:Nat}{f:Addr}{fd:FuncData}{fb:Sg->R Fw}(FL:Fun K x x st f fd)(S:FnScope N ps (aQ st))
  (hbody:∀ (cdv:Value) (A:Around) (outer:List Env) (s:Shared) (H F:Hp) (E:XK),Room k (A.deeper (envOfC x (aQ st) s.heap.objs.size f cdv))->
   PSs ((iT (CXe P w) P w K mg base N x (aQ st) f cdv A outer s H E).fly E) (dN st) (aCD ⟨K,mg,w,F,H,gOf P w K mg base T,(envOfC x (aQ st) s.heap.objs.size f cdv).cells,fun _=>none⟩ fb)):FnOk P w K mg base (CXe P w) (k+1) f fd ps (spL (gOf P w K mg base T) K mg ps.length (fnF N.length fb)):=by
 refine FL.okX S (fun vs H Q E h=>?_) (fun cdv A outer s H vs Q E hr h=>?_)
 ·obtain ⟨F,as,_,_,h2,h3,_⟩:=h
  rw[h2.len,h3]
 ·obtain ⟨F,as,h0,h1,h2,h3,h4,h5⟩:=h
  refine ⟨_,hbody cdv A outer s H F E hr,_,F,xR h0 h1 h2,?_,h5⟩
  unfold fnF at h4
  cases e:fb (as.map some++List.replicate (N.length - as.length) none) with
  | bad=>rw[e] at h4;cases h4
  | ex x=>rw[e] at h4;cases h4
  | ok w=>
   rw[e] at h4
   cases w with
   | rt a=>
    cases a with
    | d x=>cases h4;rfl
    | _=>cases h4
   | _=>cases h4
theorem aKE{P:Program}{w:World}{K:Frag}{mg:Str->Option Value}{base:Heap}{T:Hp}{k:Nat}{f:Addr}{fd:FuncData}{x:Str}{G:List A->R A}(h:FnOk P w K mg base (CXe P w) k f fd [x] (spL (gOf P w K mg base T) K mg 1 G))
  (hl:∀ ns:List Int,ns.length<=63->G [.d (.list (ns.map .int))]=.ok (.d (.bool true))):FnOk P w K mg base (CXe P w) k f fd [x] (wC K T):=h.imp fun vs H Q E=>by
 rintro ⟨a,ns,rfl,hn,ht,hs,q⟩
 exact ⟨H,[.d (.list (ns.map .int))],ht,bV H,⟨.lst hs (lG ns),trivial⟩,rfl,hl ns hn,q⟩
end Fl
namespace Mc
open PySem L2 PyProof.Rows Fl
noncomputable def adQ(fs:List PyData)(y:PyData):List PyData:=if y∈fs then fs else fs++[y]
noncomputable def adA(fs ys:List PyData):List PyData:=ys.foldl adQ fs
noncomputable def nrQ(fs:List PyData)(y:PyData):Nat:=fs.idxOf y
theorem tG{fs:List PyData}{y:PyData}(hy:y∈fs):fs[nrQ fs y]? = some y:=by
 have h:nrQ fs y < fs.length:=List.idxOf_lt_length_of_mem hy
 rw[List.getElem?_eq_getElem h]
 exact congrArg some (List.getElem_idxOf h)
theorem aOO{α:Type}{xs:List α}(h:xs.Nodup){i j:Nat}{x:α}(h1:xs[i]? = some x)(h2:xs[j]? = some x):i=j:=by
 obtain ⟨l1,e1⟩:=List.getElem?_eq_some_iff.mp h1
 obtain ⟨l2,e2⟩:=List.getElem?_eq_some_iff.mp h2
 rcases Nat.lt_trichotomy i j with q|q|q
 · exact absurd (e1.trans e2.symm) (List.pairwise_iff_getElem.mp h i j l1 l2 q)
 · exact q
 · exact absurd (e2.trans e1.symm) (List.pairwise_iff_getElem.mp h j i l2 l1 q)
theorem aKF{fs:List PyData}{y:PyData}(h:fs.Nodup)(hy:y∈fs):f8 (fD fs) y=some (.int (nrQ fs y:Int)):=by
 obtain ⟨i,h1,h2⟩:=aJ0 hy
 rw[h1,aOO h h2 (tG hy)]
structure Sq where
 after:PyData->List PyData
 x0:PyData
 stop:List PyData->Nat->Bool
 k1:Nat
 k2:Nat
 G:List PyData->R PyData
 D:List PyData->R PyData
noncomputable def bfQ(after:PyData->List PyData)(x0:PyData):Nat->List PyData
 | 0=>[x0]
 | n+1=>match (bfQ after x0 n)[n]? with
  | some x=>adA (bfQ after x0 n) (after x)
  | none=>bfQ after x0 n
structure Sq.ok(S:Sq)(N:Nat):Prop where
 on:∀ m,m < N->m < (bfQ S.after S.x0 m).length/\S.stop (bfQ S.after S.x0 m) m=false
 off:(bfQ S.after S.x0 N).length<=N\/S.stop (bfQ S.after S.x0 N) N=true
 key:(∀ x∈bfQ S.after S.x0 N,g6 x=true)\/(∀ x∈bfQ S.after S.x0 N,aBM x=true)
 len:(bfQ S.after S.x0 N).length<=16000000
 hk1:S.k1<=12
 hk2:S.k2<=12
 hG:∀ m x,m < N->(bfQ S.after S.x0 N)[m]? = some x->(∃ d,S.G [x]=.ok d/\aY d=.ok (S.after x))/\(S.after x).length<=1000
 hD:∀ m,m<=N->m < (bfQ S.after S.x0 m).length->S.D [.list (bfQ S.after S.x0 m),.int (m:Int)]=.ok (.bool (S.stop (bfQ S.after S.x0 m) m))
end Mc
namespace Mc
open PySem L2 PyProof.Rows Fl
noncomputable def g9:Sg->R Fw:=(bH (vD (eLT (cK [none,some 2,some 0] (e1 aY (rV 1)) (stN 0) cS (sR 1 (eA (a5 2 dZ (aA (vV 2) (aA (vV 0) aH)))))))))
noncomputable def dO:List A->R A:=fnF 3 g9
noncomputable def gZ:Sg->R Fw:=(aK (dM 1 (cK [none,none] (e1 aY (eA (a5 2 cZ (aA (vV 0) (aA (vD (eC (.int 40))) aH))))) (stT [(stN 0),(stN 1)]) cS (eV 1)))
 (aK (yQ 2 (cK [none,none] (e1 sV (rV 1)) (stT [(stN 0),(stN 1)]) cS (bR (aA (eV 1) (aA (eV 0) aH)))))
 (aGM 2 (sFz 1 (bH (vD (eL (cK [none,some 1,some 2] (e1 aY (rV 1)) (stN 0) cS (eA (a5 3 dO (aA (vV 0) (aA (vV 1) (aA (vV 2) aH)))))))))))))
noncomputable def bW:List A->R A:=fnF 3 gZ
noncomputable def gD:Sg->R Fw:=(aK (b9 2 (vD (eC .none)))
 (aK (tD 2 12 0 (aA (eV 1) aH) ["TooMany"] (b9 2 (vD (eC .none))))
 (bH (vV 2))))
noncomputable def c9:List A->R A:=fnF 3 gD
noncomputable def hJ:Sg->R Fw:=(aK (sIf (bOr (mE (e1 asB (e1 (fV "list") (rV 0)))) (e1 asB (e2 dNe (e1 dLen (rV 0)) (rV 1)))) (bH (vD (eC (.bool false)))) sNx)
 (aK (i9 (e1 aY (eV 0)) (stN 2) (aK (aCC 2 (sIf (bOr (mE (e1 asB (e1 (fV "list") (rV 2)))) (e1 asB (e2 dNe (e1 dLen (rV 2)) (rV 1)))) (bH (vD (eC (.bool false)))) sNx))
 (sIf (mE (e1 asB (e1 dAll (eL (cK [none,some 1] (e1 aY (rV 2)) (stN 0) cS (t4 (eA (a5 1 eS (aA (vV 0) aH))) (eCh dLe dLt (eC (.int 0)) (rV 0) (rV 1)))))))) (bH (vD (eC (.bool false)))) sNx)))
 (bH (vD (eC (.bool true))))))
noncomputable def eK:List A->R A:=fnF 3 hJ
noncomputable def iL:Sg->R Fw:=(aK (dM 2 (e2 pA (eL (cK [none] (eO (rV 1)) (stN 0) cS (bR (aA (eC (.int 0)) (aA (eV 0) aH))))) (eL (cK [none] (eO (rV 1)) (stN 0) cS (bR (aA (eV 0) (aA (eC (.int 0)) aH)))))))
 (aK (sIf (e1 asB (e2 dLe (rV 1) (eC (.int 8)))) (bH (vD (eL (cK [none,some 1] (eO (e2 dMul (rV 1) (rV 1))) (stN 0) cS (bR (aA (e2 dDiv (rV 0) (rV 1)) (aA (e2 dMod (rV 0) (rV 1)) aH))))))) sNx)
 (aK (i9 (e1 aY (eSl dSl (rV 0) (oSo (eC (.int 5))) (oSo (eC (.int 63))))) (stN 3) (aK (b9 4 (vD (e2 dDiv (e2 dMod (e2 cC (e2 dMul (e2 dMod (rV 3) (eC (.int 2147483647))) (eC (.int 48271))) (eC (.int 7919))) (eC (.int 2147483647))) (eC (.int 64)))))
 (gK 2 (bR (aA (e2 dMod (rV 4) (rV 1)) (aA (e2 dMod (e2 dDiv (rV 4) (eC (.int 64))) (rV 1)) aH))))))
 (sFz 2 (bH (vV 2))))))
noncomputable def eU:List A->R A:=fnF 5 iL
noncomputable def aCE:Sg->R Fw:=(aK (b9 1 (a5 2 bY (aA (vV 0) (aA (vD (eC (.int 0))) aH))))
 (aK (b9 2 (a5 4 fO (aA (vV 0) (aA (vD (eC (.int 1))) (aA (vD (e2 cC (eC (.int 1)) (e2 dMod (rV 1) (eC (.int 3))))) (aA (vD (e2 cC (eC (.int 1)) (e2 dMod (e2 dDiv (rV 1) (eC (.int 3))) (eC (.int 2))))) aH))))))
 (aK (b9 3 (a5 2 c9 (aA (wE 7 1 eG) (aA (vV 2) aH))))
 (aK (b9 4 (a5 2 c9 (aA (wE 7 1 bW) (aA (vV 2) aH))))
 (aK (sIf (bOr (e1 asB (e2 dIs (rV 3) (eC .none))) (e1 asB (e2 dGt (e1 dLen (rV 3)) (eC (.int 40))))) (bH (vD (e2 dIs (rV 4) (eC .none)))) sNx)
 (aK (sIf (mE (e1 asB (eA (a5 2 eK (aA (vV 4) (aA (vD (e1 dLen (rV 3))) aH)))))) (bH (vD (eC (.bool false)))) sNx)
 (aK (i9 (e1 aY (eA (a5 2 eU (aA (vV 0) (aA (vD (e1 dLen (rV 3))) aH))))) (stT [(stN 5),(stN 6)]) (sIf (e1 asB (e2 dNe (e2 dIx (e2 dIx (rV 3) (e2 dIx (e1 uL (e2 dIx (rV 4) (rV 5))) (rV 6))) (eC (.int 1))) (eA (a5 2 d4 (aA (vV 2) (aA (vD (e2 cC (e2 dIx (e2 dIx (rV 3) (rV 5)) (eC (.int 0))) (e2 dIx (e2 dIx (rV 3) (rV 6)) (eC (.int 0))))) aH)))))) (bH (vD (eC (.bool false)))) sNx))
 (yV 4 7 2 (bH (vD (e2 dEq (e1 uL (eA (a5 1 bW (aA (vV 2) aH)))) (rV 7))))))))))))
noncomputable def aCF:List A->R A:=fnF 8 aCE
end Mc
namespace Mc
open PySem L2 PyProof.Rows Fl
def top(i:Nat):Stmt:=PySem.Challenge.pw_striproam_k18_products.main.body.getD i (.Pass ⟨0,0,0,0⟩)
structure Txt(w:World)(K:Frag)(mg:Str->Option Value):Prop where
 b_all:mg "all"=none
 b_bool:mg "bool"=none
 b_dict:mg "dict"=none
 b_enumerate:mg "enumerate"=none
 b_int:mg "int"=none
 b_isinstance:mg "isinstance"=none
 b_len:mg "len"=none
 b_list:mg "list"=none
 b_range:mg "range"=none
 b_str:mg "str"=none
 b_tuple:mg "tuple"=none
 g_MOST_MULTIPLIED:∃ t,mg "MOST_MULTIPLIED"=some (.int 40 t)
 g_MOST_TABLES:∃ t,mg "MOST_TABLES"=some (.int 300 t)
 g_SIGNS:∃ t,mg "SIGNS"=some (.str "abc" t)
section
variable{P:Program}{w:World}{K:Frag}{mg:Str->Option Value}{base:Heap}{TH:Hp}
theorem qS:FnScope ["machine"] ["machine"] (aQ (top 6)):=by constructor<;>first|rfl|decide +kernel
theorem zE(T:Txt w K mg)(D:DefAt K mg "signs_of" (top 6) ["machine"]):aZ P w K mg base TH 1 "signs_of" ["machine"] d7:=
 @cT P w K mg base TH "signs_of" (top 6) ["machine"] ["machine"] 0 nU D qS (fun f cdv A outer s H F E hr=>by
  have nd:=qS.nd
  exact (Fl.aS (Fl.bP (aV (eR rfl (cB dB rfl T.b_len PySem.boot_len (aP (aB (bN (bO rfl) aU (aB (bN (bO rfl) aU (aC (pv 0)) (aB aE))) (aB aE))) aW)))))))
theorem qT:FnScope ["machine","number"] ["machine","number"] (aQ (top 7)):=by constructor<;>first|rfl|decide +kernel
theorem zF(T:Txt w K mg)(D:DefAt K mg "cells_of" (top 7) ["machine","number"]):aZ P w K mg base TH 1 "cells_of" ["machine","number"] jA:=
 @cT P w K mg base TH "cells_of" (top 7) ["machine","number"] ["machine","number"] 0 nV D qT (fun f cdv A outer s H F E hr=>by
  have nd:=qT.nd
  exact (Fl.aS (Fl.bP (aV (eQ (dX (dS (N:=["row","number"]) (js:=[none,some 1]) rfl (.own (.cap rfl (.inl rfl) (.inl rfl) .nil)) (by rfl) (iY rfl (aC (pv 0)))) (by decide) (by decide) (is:=[0]) (fun cl C s0 H0 fp=>⟨_,(bD (i:=0) (show (["row","number"]:List Str).Nodup by decide +kernel) rfl (Or.inl rfl)),(bF 0),Fl.cJ,(bN (bO rfl) aU (aB (bN (bO rfl) aU (aC (pv 0)) (aB aE))) (aC (pv 1)))⟩)))))))
theorem oF:FnScope ["signs","strip","known","at","sign"] ["signs","strip"] (aQ (top 8)):=by constructor<;>first|rfl|decide +kernel
theorem vR(T:Txt w K mg)(D:DefAt K mg "checked_by" (top 8) ["signs","strip"]){W_NoStrip C_NoStrip:Addr}(er_NoStrip:ErrAt P w K mg base "NoStrip" ["at"] W_NoStrip C_NoStrip):aZ P w K mg base TH 3 "checked_by" ["signs","strip"] gM:=
 @cT P w K mg base TH "checked_by" (top 8) ["signs","strip","known","at","sign"] ["signs","strip"] 2 lH D oF (fun f cdv A outer s H F E hr=>by
  have nd:=oF.nd
  exact (Fl.aJ (Fl.aR (L2.aR (i:=2) nd rfl (Or.inl rfl) (aV (lD rfl (aB (fS (kO (v:=.str "abc") rfl T.g_SIGNS.choose_spec ⟨_,rfl⟩) fun _=>.str _)) wA (p9 (aC (pv 0)))))))
   (Fl.aJ (Fl.d8 (mU rfl (eI (bF 3) (eI (bF 4) kS)) rfl) (L2.d8 (fG ⟨rfl,rfl⟩) rfl (aL3 rfl (aIK rfl T.b_enumerate (aP (bT (pv 1)) aW)) (aFM rfl T.b_enumerate (aP (bT (pv 1)) aW))) (mM rfl (eH (bD (i:=3) nd rfl (Or.inl rfl)) (eH (bD (i:=4) nd rfl (Or.inl rfl)) kP)))
   (Fl.aS (Fl.eW (Fl.dF (aIZ rfl hr.units) aDH (aC (pv 4)) (aC (pv 2)) (by with_unfolding_all rfl)) (Fl.aS (Fl.rC er_NoStrip.m (by decide) (aC5 rfl er_NoStrip rfl (hr.mono (by decide)) (aM (bT (pv 3)) bJ)))) Fl.dG))))
   (Fl.aS (Fl.bP (a6 (pv 1)))))))
theorem tH:FnScope ["machine","strip"] ["machine","strip"] (aQ (top 9)):=by constructor<;>first|rfl|decide +kernel
theorem aCG(T:Txt w K mg)(D:DefAt K mg "checked" (top 9) ["machine","strip"])(c_checked_by:aZ P w K mg base TH 3 "checked_by" ["signs","strip"] gM)(c_signs_of:aZ P w K mg base TH 1 "signs_of" ["machine"] d7):aZ P w K mg base TH 4 "checked" ["machine","strip"] iQ:=
 @cT P w K mg base TH "checked" (top 9) ["machine","strip"] ["machine","strip"] 3 pC D tH (fun f cdv A outer s H F E hr=>by
  have nd:=tH.nd
  exact (Fl.aS (Fl.bP (cH rfl rfl rfl (cG c_checked_by (hr.mono (by decide)) rfl (dJ fun _ _ _ h=>h) (aG (cH rfl rfl rfl (cG c_signs_of (hr.mono (by decide)) rfl (dJ fun _ _ _ h=>h) (aG (a6 (pv 0)) bL))) (aG (a6 (pv 1)) bL)))))))
theorem yW:FnScope ["rooms","fore","aft"] ["rooms"] (aQ (top 11)):=by constructor<;>first|rfl|decide +kernel
theorem aHA(T:Txt w K mg)(D:DefAt K mg "still" (top 11) ["rooms"]):aZ P w K mg base TH 1 "still" ["rooms"] jO:=
 @cT P w K mg base TH "still" (top 11) ["rooms","fore","aft"] ["rooms"] 0 uE D yW (fun f cdv A outer s H F E hr=>by
  have nd:=yW.nd
  exact (Fl.aJ (Fl.aR (L2.aR (i:=1) nd rfl (Or.inl rfl) (aV (fB rfl (cP cW rfl T.b_tuple PyProof.Rows.boot_tuple (aP (aB (eQ (dX (dS (N:=["room"]) (js:=[none]) rfl (.own .nil) (by rfl) (sO (iP (fP rfl T.b_range (aP (aC (pv 0)) aW))))) (by decide) (by decide) (is:=[0]) (fun cl C s0 H0 fp=>⟨_,(bD (i:=0) (show (["room"]:List Str).Nodup by decide +kernel) rfl (Or.inl rfl)),(bF 0),Fl.cJ,(cR (aM aE (aM (bT (pv 0)) bJ)))⟩)))) aW))))))
   (Fl.aJ (Fl.aR (L2.aR (i:=2) nd rfl (Or.inl rfl) (aV (fB rfl (cP cW rfl T.b_tuple PyProof.Rows.boot_tuple (aP (aB (eQ (dX (dS (N:=["room"]) (js:=[none]) rfl (.own .nil) (by rfl) (sO (iP (fP rfl T.b_range (aP (aC (pv 0)) aW))))) (by decide) (by decide) (is:=[0]) (fun cl C s0 H0 fp=>⟨_,(bD (i:=0) (show (["room"]:List Str).Nodup by decide +kernel) rfl (Or.inl rfl)),(bF 0),Fl.cJ,(cR (aM (v8 p6 l0 (aB aE)) (aM (bT (pv 0)) bJ)))⟩)))) aW))))))
   (Fl.aS (Fl.bP (aV (cR (aM (bT (pv 1)) (aM (bT (pv 2)) bJ)))))))))
end
end Mc
namespace Mc
open PySem L2 PyProof.Rows Fl
section
variable{P:Program}{w:World}{K:Frag}{mg:Str->Option Value}{base:Heap}{TH:Hp}
theorem oG:FnScope ["machine","sign","things"] ["machine","sign"] (aQ (top 12)):=by constructor<;>first|rfl|decide +kernel
theorem vS(T:Txt w K mg)(D:DefAt K mg "sign_table" (top 12) ["machine","sign"])(c_checked:aZ P w K mg base TH 4 "checked" ["machine","strip"] iQ)(c_cells_of:aZ P w K mg base TH 1 "cells_of" ["machine","number"] jA):aZ P w K mg base TH 5 "sign_table" ["machine","sign"] eF:=
 @cT P w K mg base TH "sign_table" (top 12) ["machine","sign","things"] ["machine","sign"] 4 lI D oG (fun f cdv A outer s H F E hr=>by
  have nd:=oG.nd
  exact (Fl.aJ (Fl.fX (L2.fX (cH rfl rfl rfl (cG c_checked (hr.mono (by decide)) rfl (dJ fun _ _ _ h=>h) (aG (a6 (pv 0)) (aG (a6 (pv 1)) bL))))))
   (Fl.aJ (Fl.aR (L2.aR (i:=2) nd rfl (Or.inl rfl) (aV (fB rfl (cP cW rfl T.b_tuple PyProof.Rows.boot_tuple (aP (aB (eQ (dX (dS (N:=["cell"]) (js:=[none]) rfl (.own .nil) (by rfl) (iY rfl (aB (dQ (cH rfl rfl rfl (cG c_cells_of (hr.mono (by decide)) rfl (dJ fun _ _ _ h=>h) (aG (a6 (pv 0)) (aG (aV (xU (lQ PySem.F.plainAttrs_str PySem.F.slot_str_index PySem.F.type_str_index wY (aB (fS (kO (v:=.str "abc") rfl T.g_SIGNS.choose_spec ⟨_,rfl⟩) fun _=>.str _)) (aP (aC (pv 1)) aW)) (by intro ρ x h;cases h;exact ⟨_,rfl⟩))) bL)))))))) (by decide) (by decide) (is:=[0]) (fun cl C s0 H0 fp=>⟨_,(bD (i:=0) (show (["cell"]:List Str).Nodup by decide +kernel) rfl (Or.inl rfl)),(bF 0),Fl.cJ,(cR (aM (bN (bO rfl) aU (aC (pv 0)) (aB aE)) (aM (bN (bO rfl) aU (aC (pv 0)) (aB aE)) bJ)))⟩)))) aW))))))
   (Fl.aS (Fl.bP (aV (cR (aM (bT (pv 2)) (aM (bT (pv 2)) bJ)))))))))
theorem qU:FnScope ["one","other","thing","inward","been"] ["one","other","thing","inward"] (aQ (top 13)):=by constructor<;>first|rfl|decide +kernel
theorem zG(T:Txt w K mg)(D:DefAt K mg "gone_out" (top 13) ["one","other","thing","inward"]):aZ P w K mg base TH 1 "gone_out" ["one","other","thing","inward"] eM:=
 @cT P w K mg base TH "gone_out" (top 13) ["one","other","thing","inward","been"] ["one","other","thing","inward"] 0 nW D qU (fun f cdv A outer s H F E hr=>by
  have nd:=qU.nd
  exact (Fl.aJ (z8 rfl (L2.aR (i:=4) nd rfl (Or.inl rfl) z7))
   (Fl.aJ (Fl.iD (L2.iD (fG ⟨rfl,rfl⟩) (PW.pt (Fl.mK (Fl.dF aF3 aBQ (aC (pv 2)) (aB k8) (dA _)) (Fl.mJ (Fl.dF (mS rfl hr.units) jM (aB (bN (bO rfl) aU (aC (pv 2)) (aB aE))) (aC (pv 3)) (dA _)))))
   (Fl.aJ (Fl.eW (xW rfl rfl (pQ (z9 hr.units) (bT (pv 2)) (pv 4) (by with_unfolding_all rfl))) (Fl.aS (Fl.bP (aV k8))) Fl.dG)
   (Fl.aJ (Fl.uA rfl rfl (r9 jX (wI (pv 4) (bT (pv 2)) (rK hr.units))))
   (Fl.aJ (Fl.aR (L2.aR (i:=2) nd rfl (Or.inl rfl) (aV (aHT (Fl.dF (mS rfl hr.units) jM (aC (pv 3)) (aB aE) (dA _)) (bN (bO rfl) aU (aB (bN (bO rfl) aU (aC (pv 1)) (aB aE))) (aB (bN (bO rfl) aU (aC (pv 2)) (aB aE)))) (bN (bO rfl) aU (aB (bN (bO rfl) aU (aC (pv 0)) (aB aE))) (aB (bN (bO rfl) aU (aC (pv 2)) (aB aE))))))))
   (Fl.aS (Fl.aR (L2.aR (i:=3) nd rfl (Or.inl rfl) (aV (v8 p6 l0 (aC (pv 3))))))))))))
   (Fl.aS (Fl.bP (a6 (pv 2)))))))
theorem vL:FnScope ["one","other","fore","aft"] ["one","other"] (aQ (top 14)):=by constructor<;>first|rfl|decide +kernel
theorem aEW(T:Txt w K mg)(D:DefAt K mg "behind" (top 14) ["one","other"])(c_gone_out:aZ P w K mg base TH 1 "gone_out" ["one","other","thing","inward"] eM):aZ P w K mg base TH 2 "behind" ["one","other"] dZ:=
 @cT P w K mg base TH "behind" (top 14) ["one","other","fore","aft"] ["one","other"] 1 rN D vL (fun f cdv A outer s H F E hr=>by
  have nd:=vL.nd
  exact (Fl.aJ (Fl.aR (L2.aR (i:=2) nd rfl (Or.inl rfl) (aV (fB rfl (cP cW rfl T.b_tuple PyProof.Rows.boot_tuple (aP (aB (eQ (dX (dS (N:=["thing","one","other"]) (js:=[none,some 0,some 1]) rfl (.own (.cap rfl (.inl rfl) (.inl rfl) (.cap rfl (.inl rfl) (.inl rfl) .nil))) (by rfl) (iY rfl (aB (bN (bO rfl) aU (aC (pv 0)) (aB aE))))) (by decide) (by decide) (is:=[0]) (fun cl C s0 H0 fp=>⟨_,(bD (i:=0) (show (["thing","one","other"]:List Str).Nodup by decide +kernel) rfl (Or.inl rfl)),(bF 0),Fl.cJ,(dQ (cH rfl rfl rfl (cG c_gone_out (hr.mono (by decide)) rfl lR (aG (a6 (pv 1)) (aG (a6 (pv 2)) (aG (a6 (pv 0)) (aG (aV aE) bL)))))))⟩)))) aW))))))
   (Fl.aJ (Fl.aR (L2.aR (i:=3) nd rfl (Or.inl rfl) (aV (fB rfl (cP cW rfl T.b_tuple PyProof.Rows.boot_tuple (aP (aB (eQ (dX (dS (N:=["thing","one","other"]) (js:=[none,some 0,some 1]) rfl (.own (.cap rfl (.inl rfl) (.inl rfl) (.cap rfl (.inl rfl) (.inl rfl) .nil))) (by rfl) (iY rfl (aB (bN (bO rfl) aU (aC (pv 1)) (aB aE))))) (by decide) (by decide) (is:=[0]) (fun cl C s0 H0 fp=>⟨_,(bD (i:=0) (show (["thing","one","other"]:List Str).Nodup by decide +kernel) rfl (Or.inl rfl)),(bF 0),Fl.cJ,(dQ (cH rfl rfl rfl (cG c_gone_out (hr.mono (by decide)) rfl lR (aG (a6 (pv 1)) (aG (a6 (pv 2)) (aG (a6 (pv 0)) (aG (aV (v8 p6 l0 (aB aE))) bL)))))))⟩)))) aW))))))
   (Fl.aS (Fl.bP (aV (cR (aM (bT (pv 2)) (aM (bT (pv 3)) bJ)))))))))
theorem qV:FnScope ["machine","most","ends","found","known","at","sign","end","table"] ["machine","most"] (aQ (top 18)):=by constructor<;>first|rfl|decide +kernel
theorem zH(T:Txt w K mg)(D:DefAt K mg "gathered" (top 18) ["machine","most"])(c_signs_of:aZ P w K mg base TH 1 "signs_of" ["machine"] d7)(c_sign_table:aZ P w K mg base TH 5 "sign_table" ["machine","sign"] eF)(c_still:aZ P w K mg base TH 1 "still" ["rooms"] jO)(c_behind:aZ P w K mg base TH 2 "behind" ["one","other"] dZ){Wp_TooMany Cp_TooMany:Addr}(erp_TooMany:ErrP K mg "TooMany" Wp_TooMany Cp_TooMany):aZ P w K mg base TH 6 "gathered" ["machine","most"] cZ:=
 @cT P w K mg base TH "gathered" (top 18) ["machine","most","ends","found","known","at","sign","end","table"] ["machine","most"] 5 nX D qV (fun f cdv A outer s H F E hr=>by
  have nd:=qV.nd
  exact (Fl.aJ (p8 (L2.iV (i:=2) nd rfl (Or.inl rfl) (by rfl) (N:=["sign","machine"]) (js:=[none,some 0]) rfl (.own (.cap rfl (.inl rfl) (.inl rfl) .nil)) (by rfl) (iY rfl (aB (lD rfl (aB (fS (kO (v:=.str "abc") rfl T.g_SIGNS.choose_spec ⟨_,rfl⟩) fun _=>.str _)) wA (p9 (aB (dQ (cH rfl rfl rfl (cG c_signs_of (hr.mono (by decide)) rfl (dJ fun _ _ _ h=>h) (aG (a6 (pv 0)) bL)))))))))) (by decide) (by decide) (is:=[0]) (fun cl C s0 H0 fp=>⟨_,(bD (i:=0) (show (["sign","machine"]:List Str).Nodup by decide +kernel) rfl (Or.inl rfl)),(bF 0),Fl.cJ,(cR (aM (bT (pv 0)) (aM (dQ (cH rfl rfl rfl (cG c_sign_table (hr.mono (by decide)) rfl lR (aG (a6 (pv 1)) (aG (a6 (pv 0)) bL))))) bJ)))⟩))
   (Fl.aJ (gS (L2.aR (i:=3) nd rfl (Or.inl rfl) (j9 (aM (cR (aM mR (aM (dQ (cH rfl rfl rfl (cG c_still (hr.mono (by decide)) rfl (dJ fun _ _ _ h=>h) (aG (aV (eR rfl (cB dB rfl T.b_len PySem.boot_len (aP (aC (pv 0)) aW)))) bL)))) bJ))) bJ))))
   (Fl.aJ (aJF rfl rfl (L2.aR (i:=4) nd rfl (Or.inl rfl) (aJD hr.units (aGE (bN (bO rfl) aU (aB (bN (bO rfl) aU (aC (pv 3)) (aB aE))) (aB aE)) jX aJE))))
   (Fl.aJ (Fl.aR (L2.aR (i:=5) nd rfl (Or.inl rfl) (aV aE)))
   (Fl.aJ (Fl.iD (L2.iD (fG ⟨rfl,rfl⟩) (Fl.dF sN nN (aC (pv 5)) (aB (eR rfl (cB dB rfl T.b_len PySem.boot_len (aP (aC (pv 3)) aW)))) (dA _))
   (Fl.aJ (v9 2 (Fl.d8 (mU rfl (eI (bF 6) (eI (bF 7) kS)) rfl) (L2.d8 (fG ⟨rfl,rfl⟩) rfl (aBU rfl (bT (pv 2))) (mM rfl (eH (bD (i:=6) nd rfl (Or.inl rfl)) (eH (bD (i:=7) nd rfl (Or.inl rfl)) kP)))
   (Fl.aJ (Fl.aR (L2.aR (i:=8) nd rfl (Or.inl rfl) (cH rfl rfl rfl (cG c_behind (hr.mono (by decide)) rfl (dJ fun _ _ _ h=>h) (aG (aV (bN (bO rfl) aU (aB (bN (bO rfl) aU (aC (pv 3)) (aC (pv 5)))) (aB aE))) (aG (a6 (pv 7)) bL))))))
   (Fl.aS (Fl.eW (xW rfl rfl (pQ (aGB hr.units) (bT (pv 8)) (pv 4) (by with_unfolding_all rfl))) (Fl.aJ (Fl.uA rfl rfl (r9 jX (wI (pv 4) (bT (pv 8)) (rK hr.units))))
   (Fl.aS (mT rfl (L2.fX (lQ PySem.F.plainAttrs_list PySem.F.slot_list_append PySem.F.type_list_append iM (pv 3) (aP (cR (aM (aO (cX rfl) b8 (aB (bN (bO rfl) aU (aB (bN (bO rfl) aU (aC (pv 3)) (aC (pv 5)))) (aB aE))) (aC (pv 6))) (aM (bT (pv 8)) bJ))) aW)))))) Fl.dG))))))
   (Fl.aJ (Fl.eW (Fl.dF o4 k9 (aB (eR rfl (cB dB rfl T.b_len PySem.boot_len (aP (aC (pv 3)) aW)))) (aC (pv 1)) (dA _)) (Fl.aS (aDV erp_TooMany.m (L2.vC rfl erp_TooMany rfl (aP (aME (aC (pv 1))) aW)))) Fl.dG)
   (Fl.aS (Fl.wJ aI1 (L2.wJ (i:=5) nd rfl (Or.inl rfl) (aB aE) aK3)))))))
   (Fl.aS (v9 3 (Fl.bP (a6 (pv 3)))))))))))
theorem oH:FnScope ["machine"] ["machine"] (aQ (top 19)):=by constructor<;>first|rfl|decide +kernel
theorem vT(T:Txt w K mg)(D:DefAt K mg "all_tables" (top 19) ["machine"])(c_gathered:aZ P w K mg base TH 6 "gathered" ["machine","most"] cZ):aZ P w K mg base TH 7 "all_tables" ["machine"] eG:=
 @cT P w K mg base TH "all_tables" (top 19) ["machine"] ["machine"] 6 jB D oH (fun f cdv A outer s H F E hr=>by
  have nd:=oH.nd
  exact (Fl.aS (Fl.bP (cH rfl rfl rfl (cG c_gathered (hr.mono (by decide)) rfl (dJ fun _ _ _ h=>h) (aG (a6 (pv 0)) (aG (aV (fS (kO (v:=.int 300) rfl T.g_MOST_TABLES.choose_spec ⟨_,rfl⟩) fun _=>.int _)) bL)))))))
end
end Mc
namespace Mc
open PySem L2 PyProof.Rows Fl
section
variable{P:Program}{w:World}{K:Frag}{mg:Str->Option Value}{base:Heap}{TH:Hp}
theorem m8:FnScope ["one","tables","numbers"] ["one","tables","numbers"] (aQ (top 20)):=by constructor<;>first|rfl|decide +kernel
theorem uN(T:Txt w K mg)(D:DefAt K mg "products_of" (top 20) ["one","tables","numbers"])(c_behind:aZ P w K mg base TH 2 "behind" ["one","other"] dZ):aZ P w K mg base TH 3 "products_of" ["one","tables","numbers"] dO:=
 @cT P w K mg base TH "products_of" (top 20) ["one","tables","numbers"] ["one","tables","numbers"] 2 g9 D m8 (fun f cdv A outer s H F E hr=>by
  have nd:=m8.nd
  exact (Fl.aS (Fl.bP (aV (aKB (dX (dS (N:=["other","numbers","one"]) (js:=[none,some 2,some 0]) rfl (.own (.cap rfl (.inl rfl) (.inl rfl) (.cap rfl (.inl rfl) (.inl rfl) .nil))) (by rfl) (iY rfl (aC (pv 1)))) (by decide) (by decide) (is:=[0]) (fun cl C s0 H0 fp=>⟨_,(bD (i:=0) (show (["other","numbers","one"]:List Str).Nodup by decide +kernel) rfl (Or.inl rfl)),(bF 0),Fl.cJ,(aI8 rfl rfl (aI7 hr.units (pv 1) (dQ (cH rfl rfl rfl (cG c_behind (hr.mono (by decide)) rfl lR (aG (a6 (pv 2)) (aG (a6 (pv 0)) bL))))) (fun _ _=>rfl)))⟩)))))))
theorem qW:FnScope ["machine","tables","numbers"] ["machine"] (aQ (top 21)):=by constructor<;>first|rfl|decide +kernel
theorem zI(T:Txt w K mg)(D:DefAt K mg "products" (top 21) ["machine"])(c_gathered:aZ P w K mg base TH 6 "gathered" ["machine","most"] cZ)(c_products_of:aZ P w K mg base TH 3 "products_of" ["one","tables","numbers"] dO):aZ P w K mg base TH 7 "products" ["machine"] bW:=
 @cT P w K mg base TH "products" (top 21) ["machine","tables","numbers"] ["machine"] 6 gZ D qW (fun f cdv A outer s H F E hr=>by
  have nd:=qW.nd
  exact (Fl.aJ (gS (L2.aR (i:=1) nd rfl (Or.inr rfl) (dX (dS (N:=["strip","table"]) (js:=[none,none]) rfl (.own (.own .nil)) (by rfl) (iY rfl (aB (dQ (cH rfl rfl rfl (cG c_gathered (hr.mono (by decide)) rfl (dJ fun _ _ _ h=>h) (aG (a6 (pv 0)) (aG (aV (fS (kO (v:=.int 40) rfl T.g_MOST_MULTIPLIED.choose_spec ⟨_,rfl⟩) fun _=>.int _)) bL)))))))) (by decide) (by decide) (is:=[0,1]) (fun cl C s0 H0 fp=>⟨_,(mM rfl (eH (bD (i:=0) (show (["strip","table"]:List Str).Nodup by decide +kernel) rfl (Or.inl rfl)) (eH (bD (i:=1) (show (["strip","table"]:List Str).Nodup by decide +kernel) rfl (Or.inl rfl)) kP))),(mU rfl (eI (bF 0) (eI (bF 1) kS)) rfl),Fl.cJ,(bT (pv 1))⟩))))
   (Fl.aJ (aG6 rfl rfl (L2.aR (i:=2) nd rfl (Or.inr rfl) (cP (aB9 rfl hr.units) rfl T.b_dict PyProof.Rows.boot_dict (aP (dX (dS (N:=["number","table"]) (js:=[none,none]) rfl (.own (.own .nil)) (by rfl) (aJN rfl (L2.aJL rfl T.b_enumerate (aP (aC (pv 1)) aW)))) (by decide) (by decide) (is:=[0,1]) (fun cl C s0 H0 fp=>⟨_,(mM rfl (eH (bD (i:=0) (show (["number","table"]:List Str).Nodup by decide +kernel) rfl (Or.inl rfl)) (eH (bD (i:=1) (show (["number","table"]:List Str).Nodup by decide +kernel) rfl (Or.inl rfl)) kP))),(mU rfl (eI (bF 0) (eI (bF 1) kS)) rfl),Fl.cJ,(cR (aM (bT (pv 1)) (aM (bT (pv 0)) bJ)))⟩)) aW))))
   (Fl.aS (aMH rfl 2 (v9 1 (Fl.bP (aV (eQ (dX (dS (N:=["one","tables","numbers"]) (js:=[none,some 1,some 2]) rfl (.own (.cap rfl (.inl rfl) (.inl rfl) (.cap rfl (.inl rfl) (.inl rfl) .nil))) (by rfl) (iY rfl (aC (pv 1)))) (by decide) (by decide) (is:=[0]) (fun cl C s0 H0 fp=>⟨_,(bD (i:=0) (show (["one","tables","numbers"]:List Str).Nodup by decide +kernel) rfl (Or.inl rfl)),(bF 0),Fl.cJ,(dQ (cH rfl rfl rfl (cG c_products_of (hr.mono (by decide)) rfl lR (aG (a6 (pv 0)) (aG (a6 (pv 1)) (aG (a6 (pv 2)) bL))))))⟩)))))))))))
theorem oI:FnScope ["_law_found"] ["_law_found"] (aQ (top 23)):=by constructor<;>first|rfl|decide +kernel
theorem vU(T:Txt w K mg)(D:DefAt K mg "_law_whole" (top 23) ["_law_found"]):aZ P w K mg base TH 1 "_law_whole" ["_law_found"] eS:=
 @cT P w K mg base TH "_law_whole" (top 23) ["_law_found"] ["_law_found"] 0 lL D oI (fun f cdv A outer s H F E hr=>by
  have nd:=oI.nd
  exact (Fl.aS (Fl.bP (aV (aDK (o9 (cB (lE rfl (aI5 _)) rfl T.b_isinstance PyProof.Rows.boot_isinstance (aP (aC (pv 0)) (aP (mI (v:=.ty "int") rfl T.b_int PyProof.Rows.boot_int rfl) aW)))) (aDJ (aLZ (o9 (cB (lE rfl (aF7 _)) rfl T.b_isinstance PyProof.Rows.boot_isinstance (aP (aC (pv 0)) (aP (mI (v:=.ty "bool") rfl T.b_bool PyProof.Rows.boot_bool rfl) aW)))))))))))
end
end Mc
namespace Mc
open PySem L2 PyProof.Rows Fl
section
variable{P:Program}{w:World}{K:Frag}{mg:Str->Option Value}{base:Heap}{TH:Hp}
theorem pL:FnScope ["_law_script","_law_k","_law_cell_here","_law_mixed"] ["_law_script","_law_k"] (aQ (top 26)):=by constructor<;>first|rfl|decide +kernel
theorem yX(T:Txt w K mg)(D:DefAt K mg "_law_cell" (top 26) ["_law_script","_law_k"]):aZ P w K mg base TH 1 "_law_cell" ["_law_script","_law_k"] bY:=
 @cT P w K mg base TH "_law_cell" (top 26) ["_law_script","_law_k","_law_cell_here","_law_mixed"] ["_law_script","_law_k"] 0 j2 D pL (fun f cdv A outer s H F E hr=>by
  have nd:=pL.nd
  exact (Fl.aJ (Fl.aR (L2.aR (i:=2) nd rfl (Or.inl rfl) (aV aE)))
   (Fl.aJ (Fl.eW (Fl.dF o4 k9 (aB (eR rfl (cB dB rfl T.b_len PySem.boot_len (aP (aC (pv 0)) aW)))) (aB aE) (dA _)) (Fl.aS (Fl.aR (L2.aR (i:=2) nd rfl (Or.inl rfl) (aV (bN (bO rfl) aU (aC (pv 0)) (aB (aO b7 bK (aC (pv 1)) (aB (eR rfl (cB dB rfl T.b_len PySem.boot_len (aP (aC (pv 0)) aW))))))))))) Fl.dG)
   (Fl.aJ (Fl.aR (L2.aR (i:=3) nd rfl (Or.inl rfl) (aV (aO b7 bK (aB (aO fK eE (aB (aO (cX rfl) b8 (aB (aO (cX rfl) b8 (aB (aO b7 bK (aC (pv 2)) (aB aE))) (aB (aO fK eE (aB aE) (aC (pv 1)))))) (aB aE))) (aB aE))) (aB aE)))))
   (Fl.aS (Fl.bP (aV (aO (cX rfl) b8 (aB (aO fK eE (aB (aO dW cQ (aC (pv 2)) (aB aE))) (aB aE))) (aB (aO b7 bK (aB (aO (cX rfl) b8 (aB (aO fK eE (aC (pv 3)) (aB aE))) (aB (aO fK eE (aB aE) (aC (pv 1)))))) (aB aE)))))))))))
theorem qX:FnScope ["_law_number","_law_rooms"] ["_law_number","_law_rooms"] (aQ (top 27)):=by constructor<;>first|rfl|decide +kernel
theorem zJ(T:Txt w K mg)(D:DefAt K mg "_law_end" (top 27) ["_law_number","_law_rooms"]):aZ P w K mg base TH 1 "_law_end" ["_law_number","_law_rooms"] fA:=
 @cT P w K mg base TH "_law_end" (top 27) ["_law_number","_law_rooms"] ["_law_number","_law_rooms"] 0 kL D qX (fun f cdv A outer s H F E hr=>by
  have nd:=qX.nd
  exact (Fl.aJ (Fl.eW (Fl.dF (mS rfl hr.units) jM (aB (aO b7 bK (aC (pv 0)) (aB aE))) (aB aE) (dA _)) (Fl.aS (Fl.bP (aV (bN (bO rfl) aU (aB (eQ (j9 (aM mR (aM mR bJ))))) (aB (aO b7 bK (aB (aO dW cQ (aC (pv 0)) (aB aE))) (aB aE))))))) Fl.dG)
   (Fl.aS (Fl.bP (aV (aO b7 bK (aB (aO dW cQ (aC (pv 0)) (aB aE))) (aC (pv 1))))))))
theorem kE:FnScope ["_law_number","_law_rooms","_law_signs","_law_left","_law_cells","_law_k","_law_ends"] ["_law_number","_law_rooms","_law_signs"] (aQ (top 28)):=by constructor<;>first|rfl|decide +kernel
theorem qK(T:Txt w K mg)(D:DefAt K mg "_law_digit_row" (top 28) ["_law_number","_law_rooms","_law_signs"]):aZ P w K mg base TH 1 "_law_digit_row" ["_law_number","_law_rooms","_law_signs"] d3:=
 @cT P w K mg base TH "_law_digit_row" (top 28) ["_law_number","_law_rooms","_law_signs","_law_left","_law_cells","_law_k","_law_ends"] ["_law_number","_law_rooms","_law_signs"] 0 iI D kE (fun f cdv A outer s H F E hr=>by
  have nd:=kE.nd
  exact (Fl.aJ (Fl.aR (L2.aR (i:=3) nd rfl (Or.inl rfl) (aV (aO b7 bK (aC (pv 0)) (aB (aO (cX rfl) b8 (aC (pv 1)) (aB aE)))))))
   (Fl.aJ (Fl.aR (L2.aR (i:=0) nd rfl (Or.inl rfl) (aV (aO dW cQ (aC (pv 0)) (aB (aO (cX rfl) b8 (aC (pv 1)) (aB aE)))))))
   (Fl.aJ (gS (L2.aR (i:=4) nd rfl (Or.inl rfl) (j9 bJ)))
   (Fl.aJ (Fl.d8 (bF 5) (L2.d8 (fG ⟨rfl,rfl⟩) rfl (iP (fP rfl T.b_range (aP (aC (pv 2)) aW))) (bD (i:=5) nd rfl (Or.inl rfl))
   (Fl.aJ (mT rfl (L2.fX (lQ PySem.F.plainAttrs_list PySem.F.slot_list_append PySem.F.type_list_append iM (pv 4) (aP (cR (aM (aO b7 bK (aB (aO dW cQ (aC (pv 0)) (aB aE))) (aC (pv 1))) (aM (aO p4 lZ (aB aE) (aB (aO fK eE (aB (aO b7 bK (aC (pv 0)) (aB aE))) (aB aE)))) bJ))) aW))))
   (Fl.aS (Fl.aR (L2.aR (i:=0) nd rfl (Or.inl rfl) (aV (aO dW cQ (aC (pv 0)) (aB (aO fK eE (aB aE) (aC (pv 1))))))))))))
   (Fl.aJ (gS (L2.aR (i:=6) nd rfl (Or.inl rfl) (j9 (aM (bT (pv 3)) (aM (aO b7 bK (aC (pv 0)) (aB (aO (cX rfl) b8 (aC (pv 1)) (aB aE)))) bJ)))))
   (Fl.aJ (p8 (L2.iV (i:=6) nd rfl (Or.inl rfl) (by rfl) (N:=["_law_end_here","_law_rooms"]) (js:=[none,some 1]) rfl (.own (.cap rfl (.inl rfl) (.inl rfl) .nil)) (by rfl) (iY rfl (aC (pv 6)))) (by decide) (by decide) (is:=[0]) (fun cl C s0 H0 fp=>⟨_,(bD (i:=0) (show (["_law_end_here","_law_rooms"]:List Str).Nodup by decide +kernel) rfl (Or.inl rfl)),(bF 0),Fl.cJ,(aHT (Fl.dF aLY aF2 (aC (pv 0)) (aC (pv 1)) (dA _)) (bN (bO rfl) aU (aB (eQ (j9 (aM mR (aM mR bJ))))) (aB (aO p4 lZ (aC (pv 0)) (aC (pv 1))))) (bT (pv 0)))⟩))
   (Fl.aS (Fl.bP (aV (cR (aM (bN (bO rfl) aU (aC (pv 6)) (aB aE)) (aM (fB rfl (cP cW rfl T.b_tuple PyProof.Rows.boot_tuple (aP (aC (pv 4)) aW))) (aM (bN (bO rfl) aU (aC (pv 6)) (aB aE)) bJ))))))))))))))
theorem kF:FnScope ["_law_number","_law_rooms","_law_signs","_law_pieces","_law_k","_law_cells"] ["_law_number","_law_rooms","_law_signs"] (aQ (top 29)):=by constructor<;>first|rfl|decide +kernel
theorem qL(T:Txt w K mg)(D:DefAt K mg "_law_mixed_row" (top 29) ["_law_number","_law_rooms","_law_signs"])(c__law_end:aZ P w K mg base TH 1 "_law_end" ["_law_number","_law_rooms"] fA):aZ P w K mg base TH 2 "_law_mixed_row" ["_law_number","_law_rooms","_law_signs"] dC:=
 @cT P w K mg base TH "_law_mixed_row" (top 29) ["_law_number","_law_rooms","_law_signs","_law_pieces","_law_k","_law_cells"] ["_law_number","_law_rooms","_law_signs"] 1 iJ D kF (fun f cdv A outer s H F E hr=>by
  have nd:=kF.nd
  exact (Fl.aJ (gS (L2.aR (i:=3) nd rfl (Or.inl rfl) (j9 bJ)))
   (Fl.aJ (Fl.d8 (bF 4) (L2.d8 (fG ⟨rfl,rfl⟩) rfl (iP (fP rfl T.b_range (aP (aB (aO (cX rfl) b8 (aC (pv 2)) (aB aE))) aW))) (bD (i:=4) nd rfl (Or.inl rfl))
   (Fl.aJ (Fl.aR (L2.aR (i:=0) nd rfl (Or.inl rfl) (aV (aO b7 bK (aB (aO (cX rfl) b8 (aB (aO fK eE (aC (pv 0)) (aB aE))) (aB aE))) (aB aE)))))
   (Fl.aS (mT rfl (L2.fX (lQ PySem.F.plainAttrs_list PySem.F.slot_list_append PySem.F.type_list_append iM (pv 3) (aP (aO dW cQ (aC (pv 0)) (aB aE)) aW))))))))
   (Fl.aJ (Fl.aR (L2.aR (i:=5) nd rfl (Or.inl rfl) (aV (fB rfl (cP cW rfl T.b_tuple PyProof.Rows.boot_tuple (aP (aB (eQ (dX (dS (N:=["_law_piece","_law_rooms"]) (js:=[none,some 1]) rfl (.own (.cap rfl (.inl rfl) (.inl rfl) .nil)) (by rfl) (iY rfl (aB (lD rfl (aC (pv 3)) (p9 (aB aE)) wA)))) (by decide) (by decide) (is:=[0]) (fun cl C s0 H0 fp=>⟨_,(bD (i:=0) (show (["_law_piece","_law_rooms"]:List Str).Nodup by decide +kernel) rfl (Or.inl rfl)),(bF 0),Fl.cJ,(cR (aM (aO b7 bK (aC (pv 0)) (aC (pv 1))) (aM (aO p4 lZ (aB aE) (aB (aO fK eE (aB (aO dW cQ (aB (aO b7 bK (aB (aO dW cQ (aC (pv 0)) (aB aE))) (aB aE))) (aB aE))) (aB aE)))) bJ)))⟩)))) aW))))))
   (Fl.aS (Fl.bP (aV (cR (aM (dQ (cH rfl rfl rfl (cG c__law_end (hr.mono (by decide)) rfl (dJ fun _ _ _ h=>h) (aG (aV (bN (bO rfl) aU (aC (pv 3)) (aB aE))) (aG (a6 (pv 1)) bL))))) (aM (bT (pv 5)) (aM (dQ (cH rfl rfl rfl (cG c__law_end (hr.mono (by decide)) rfl (dJ fun _ _ _ h=>h) (aG (aV (bN (bO rfl) aU (aC (pv 3)) (aB aE))) (aG (a6 (pv 1)) bL))))) bJ)))))))))))
theorem mC:FnScope ["_law_script","_law_at","_law_rooms","_law_signs","_law_rows","_law_room","_law_row"] ["_law_script","_law_at","_law_rooms","_law_signs"] (aQ (top 30)):=by constructor<;>first|rfl|decide +kernel
theorem tJ(T:Txt w K mg)(D:DefAt K mg "_law_machine" (top 30) ["_law_script","_law_at","_law_rooms","_law_signs"])(c__law_digit_row:aZ P w K mg base TH 1 "_law_digit_row" ["_law_number","_law_rooms","_law_signs"] d3)(c__law_mixed_row:aZ P w K mg base TH 2 "_law_mixed_row" ["_law_number","_law_rooms","_law_signs"] dC)(c__law_cell:aZ P w K mg base TH 1 "_law_cell" ["_law_script","_law_k"] bY):aZ P w K mg base TH 3 "_law_machine" ["_law_script","_law_at","_law_rooms","_law_signs"] fO:=
 @cT P w K mg base TH "_law_machine" (top 30) ["_law_script","_law_at","_law_rooms","_law_signs","_law_rows","_law_room","_law_row"] ["_law_script","_law_at","_law_rooms","_law_signs"] 2 jP D mC (fun f cdv A outer s H F E hr=>by
  have nd:=mC.nd
  exact (Fl.aJ (gS (L2.aR (i:=4) nd rfl (Or.inl rfl) (j9 bJ)))
   (Fl.aJ (Fl.d8 (bF 5) (L2.d8 (fG ⟨rfl,rfl⟩) rfl (iP (fP rfl T.b_range (aP (aC (pv 2)) aW))) (bD (i:=5) nd rfl (Or.inl rfl))
   (Fl.aS (Fl.eW (PW.pt (Fl.mK (Fl.dF sN nN (aB (aO (cX rfl) b8 (aC (pv 1)) (aC (pv 5)))) (aB (eR rfl (cB dB rfl T.b_len PySem.boot_len (aP (aC (pv 0)) aW)))) (dA _)) (Fl.mJ (Fl.dF (mS rfl hr.units) jM (aB (aO b7 bK (aB (bN (bO rfl) aU (aC (pv 0)) (aB aE))) (aB aE))) (aB aE) (dA _))))) (Fl.aS (mT rfl (L2.fX (lQ PySem.F.plainAttrs_list PySem.F.slot_list_append PySem.F.type_list_append iM (pv 4) (aP (dQ (cH rfl rfl rfl (cG c__law_digit_row (hr.mono (by decide)) rfl (dJ fun _ _ _ h=>h) (aG (aV (bN (bO rfl) aU (aC (pv 0)) (aB (aO (cX rfl) b8 (aC (pv 1)) (aC (pv 5)))))) (aG (a6 (pv 2)) (aG (a6 (pv 3)) bL)))))) aW))))) (Fl.aJ (Fl.aR (L2.aR (i:=6) nd rfl (Or.inl rfl) (cH rfl rfl rfl (cG c__law_mixed_row (hr.mono (by decide)) rfl (dJ fun _ _ _ h=>h) (aG (aV (aO b7 bK (aB (dQ (cH rfl rfl rfl (cG c__law_cell (hr.mono (by decide)) rfl (dJ fun _ _ _ h=>h) (aG (a6 (pv 0)) (aG (aV (aO (cX rfl) b8 (aC (pv 1)) (aC (pv 5)))) bL)))))) (aB aE))) (aG (a6 (pv 2)) (aG (a6 (pv 3)) bL)))))))
   (Fl.aJ (Fl.eW (PW.pt (Fl.mK (Fl.dF (mS rfl hr.units) jM (aC (pv 5)) (aB aE) (dA _)) (Fl.mK (Fl.kX (o9 (cB (lE rfl (aI6 _)) rfl T.b_isinstance PyProof.Rows.boot_isinstance (aP (aB (bN (bO rfl) aU (aC (pv 6)) (aB aE))) (aP (mI (v:=.ty "str") rfl T.b_str PyProof.Rows.boot_str rfl) aW))))) (Fl.mJ (Fl.dF o4 k9 (aB (aO b7 bK (aB (aO dW cQ (aB (dQ (cH rfl rfl rfl (cG c__law_cell (hr.mono (by decide)) rfl (dJ fun _ _ _ h=>h) (aG (a6 (pv 0)) (aG (a6 (pv 1)) bL)))))) (aB aE))) (aB aE))) (aB aE) (dA _)))))) (Fl.aS (Fl.aR (L2.aR (i:=6) nd rfl (Or.inl rfl) (aV (aO (cX rfl) b8 (aB (cR (aM (aO b7 bK (aB (aO dW cQ (aB (dQ (cH rfl rfl rfl (cG c__law_cell (hr.mono (by decide)) rfl (dJ fun _ _ _ h=>h) (aG (a6 (pv 0)) (aG (a6 (pv 1)) bL)))))) (aB aE))) (aC (pv 2))) bJ))) (aB (lD rfl (aC (pv 6)) (p9 (aB aE)) wA))))))) Fl.dG)
   (Fl.aS (mT rfl (L2.fX (lQ PySem.F.plainAttrs_list PySem.F.slot_list_append PySem.F.type_list_append iM (pv 4) (aP (bT (pv 6)) aW)))))))))))
   (Fl.aS (Fl.bP (aV (fB rfl (cP cW rfl T.b_tuple PyProof.Rows.boot_tuple (aP (aC (pv 4)) aW)))))))))
end
end Mc
namespace Mc
open PySem L2 PyProof.Rows Fl
section
variable{P:Program}{w:World}{K:Frag}{mg:Str->Option Value}{base:Heap}{TH:Hp}
theorem m9:FnScope ["_law_machine_here","_law_strip","_law_place","_law_room","_law_met","_law_step"] ["_law_machine_here","_law_strip","_law_place","_law_room"] (aQ (top 31)):=by constructor<;>first|rfl|decide +kernel
theorem uO(T:Txt w K mg)(D:DefAt K mg "_law_within" (top 31) ["_law_machine_here","_law_strip","_law_place","_law_room"]):aZ P w K mg base TH 1 "_law_within" ["_law_machine_here","_law_strip","_law_place","_law_room"] fE:=
 @cT P w K mg base TH "_law_within" (top 31) ["_law_machine_here","_law_strip","_law_place","_law_room","_law_met","_law_step"] ["_law_machine_here","_law_strip","_law_place","_law_room"] 0 kD D m9 (fun f cdv A outer s H F E hr=>by
  have nd:=m9.nd
  exact (Fl.aJ (z8 rfl (L2.aR (i:=4) nd rfl (Or.inl rfl) z7))
   (Fl.aJ (Fl.iD (L2.iD (fG ⟨rfl,rfl⟩) (Fl.qZ sN nN xJ rG (aB aE) (aC (pv 2)) (aB (eR rfl (cB dB rfl T.b_len PySem.boot_len (aP (aC (pv 1)) aW)))))
   (Fl.aJ (Fl.eW (xW rfl rfl (pQ (z9 hr.units) (cR (aM (bT (pv 2)) (aM (bT (pv 3)) bJ))) (pv 4) (by with_unfolding_all rfl))) (Fl.aS (Fl.bP (aV k8))) Fl.dG)
   (Fl.aJ (Fl.uA rfl rfl (r9 jX (wI (pv 4) (cR (aM (bT (pv 2)) (aM (bT (pv 3)) bJ))) (rK hr.units))))
   (Fl.aJ (aL4 (mU rfl (eI (bF 3) (eI (bF 5) kS)) rfl) (r9 (bN (bO rfl) aU (aB (bN (bO rfl) aU (aB (bN (bO rfl) aU (aC (pv 0)) (aC (pv 3)))) (aB aE))) (aB (xU (lQ PySem.F.plainAttrs_str PySem.F.slot_str_index PySem.F.type_str_index wY (aB mR) (aP (aB (bN (bO rfl) aU (aC (pv 1)) (aB (aO p4 lZ (aC (pv 2)) (aB aE))))) aW)) (by intro ρ x h;cases h;exact ⟨_,rfl⟩)))) (mM rfl (eH (bD (i:=3) nd rfl (Or.inl rfl)) (eH (bD (i:=5) nd rfl (Or.inl rfl)) kP)))))
   (Fl.aS (Fl.aR (L2.aR (i:=2) nd rfl (Or.inl rfl) (aV (aO (cX rfl) b8 (aC (pv 2)) (aC (pv 5))))))))))))
   (Fl.aS (Fl.bP (aV (cR (aM (bN (bO rfl) aU (aB (eQ (j9 (aM (v8 p6 l0 (aB aE)) (aM aE bJ))))) (aB (aI0 (cP aCO rfl T.b_int PyProof.Rows.boot_int (aP (aB (xI o4 k9 (aC (pv 2)) (aB aE) (dA _))) aW))))) (aM (bT (pv 3)) bJ)))))))))
theorem oJ:FnScope ["_law_machine_here","_law_strip","_law_rooms","_law_fore","_law_aft"] ["_law_machine_here","_law_strip"] (aQ (top 32)):=by constructor<;>first|rfl|decide +kernel
theorem vW(T:Txt w K mg)(D:DefAt K mg "_law_table" (top 32) ["_law_machine_here","_law_strip"])(c__law_within:aZ P w K mg base TH 1 "_law_within" ["_law_machine_here","_law_strip","_law_place","_law_room"] fE):aZ P w K mg base TH 2 "_law_table" ["_law_machine_here","_law_strip"] d4:=
 @cT P w K mg base TH "_law_table" (top 32) ["_law_machine_here","_law_strip","_law_rooms","_law_fore","_law_aft"] ["_law_machine_here","_law_strip"] 1 lN D oJ (fun f cdv A outer s H F E hr=>by
  have nd:=oJ.nd
  exact (Fl.aJ (gS (L2.aR (i:=2) nd rfl (Or.inl rfl) (aGG (cP (vP rfl) rfl T.b_list PyProof.Rows.boot_list (aP (cP y9 rfl T.b_range PyProof.Rows.boot_range (aP (aB (eR rfl (cB dB rfl T.b_len PySem.boot_len (aP (aC (pv 0)) aW)))) aW)) aW)))))
   (Fl.aJ (p8 (L2.iV (i:=3) nd rfl (Or.inl rfl) (by rfl) (N:=["_law_room","_law_machine_here","_law_strip"]) (js:=[none,some 0,some 1]) rfl (.own (.cap rfl (.inl rfl) (.inl rfl) (.cap rfl (.inl rfl) (.inl rfl) .nil))) (by rfl) (iY rfl (aC (pv 2)))) (by decide) (by decide) (is:=[0]) (fun cl C s0 H0 fp=>⟨_,(bD (i:=0) (show (["_law_room","_law_machine_here","_law_strip"]:List Str).Nodup by decide +kernel) rfl (Or.inl rfl)),(bF 0),Fl.cJ,(dQ (cH rfl rfl rfl (cG c__law_within (hr.mono (by decide)) rfl lR (aG (a6 (pv 1)) (aG (a6 (pv 2)) (aG (aV aE) (aG (a6 (pv 0)) bL)))))))⟩))
   (Fl.aJ (p8 (L2.iV (i:=4) nd rfl (Or.inl rfl) (by rfl) (N:=["_law_room","_law_machine_here","_law_strip"]) (js:=[none,some 0,some 1]) rfl (.own (.cap rfl (.inl rfl) (.inl rfl) (.cap rfl (.inl rfl) (.inl rfl) .nil))) (by rfl) (iY rfl (aC (pv 2)))) (by decide) (by decide) (is:=[0]) (fun cl C s0 H0 fp=>⟨_,(bD (i:=0) (show (["_law_room","_law_machine_here","_law_strip"]:List Str).Nodup by decide +kernel) rfl (Or.inl rfl)),(bF 0),Fl.cJ,(dQ (cH rfl rfl rfl (cG c__law_within (hr.mono (by decide)) rfl lR (aG (a6 (pv 1)) (aG (a6 (pv 2)) (aG (aV (eR rfl (cB dB rfl T.b_len PySem.boot_len (aP (aC (pv 2)) aW)))) (aG (a6 (pv 0)) bL)))))))⟩))
   (Fl.aS (Fl.bP (aV (cR (aM (fB rfl (cP cW rfl T.b_tuple PyProof.Rows.boot_tuple (aP (aC (pv 3)) aW))) (aM (fB rfl (cP cW rfl T.b_tuple PyProof.Rows.boot_tuple (aP (aC (pv 4)) aW))) bJ))))))))))
theorem pM:FnScope ["_law_way","_law_machine_here","_law_found"] ["_law_way","_law_machine_here"] (aQ (top 33)):=by constructor<;>first|rfl|decide +kernel
theorem yY(T:Txt w K mg)(D:DefAt K mg "_law_told" (top 33) ["_law_way","_law_machine_here"]){Wp_TooMany Cp_TooMany:Addr}(erp_TooMany:ErrP K mg "TooMany" Wp_TooMany Cp_TooMany):aZ P w K mg base TH 13 "_law_told" ["_law_way","_law_machine_here"] c9:=
 @cT P w K mg base TH "_law_told" (top 33) ["_law_way","_law_machine_here","_law_found"] ["_law_way","_law_machine_here"] 12 gD D pM (fun f cdv A outer s H F E hr=>by
  have nd:=pM.nd
  exact (Fl.aJ (Fl.aR (L2.aR (i:=2) nd rfl (Or.inl rfl) (aV k8)))
   (Fl.aJ (aG7 (j:=2) (m:=12) rfl rfl rfl (hr.mono (by decide)) ⟨rfl,rfl⟩ nd rfl (Or.inl rfl) rfl erp_TooMany.m erp_TooMany.c.any (vQ erp_TooMany) (fun pn σ E1=>aES (pv 0) (aM (bT (pv 1)) bJ)) (fun e1=>(Fl.aS (Fl.aR (L2.aR (i:=2) nd rfl (Or.inl rfl) (aV k8))))))
   (Fl.aS (Fl.bP (a6 (pv 2)))))))
theorem nA:FnScope ["_law_found","_law_many","_law_row"] ["_law_found","_law_many"] (aQ (top 34)):=by constructor<;>first|rfl|decide +kernel
theorem uP(T:Txt w K mg)(D:DefAt K mg "_law_square" (top 34) ["_law_found","_law_many"])(c__law_whole:aZ P w K mg base TH 1 "_law_whole" ["_law_found"] eS):aZ P w K mg base TH 2 "_law_square" ["_law_found","_law_many"] eK:=
 @cT P w K mg base TH "_law_square" (top 34) ["_law_found","_law_many","_law_row"] ["_law_found","_law_many"] 1 hJ D nA (fun f cdv A outer s H F E hr=>by
  have nd:=nA.nd
  exact (Fl.aJ (Fl.eW (PW.pt (Fl.r6 (Fl.mL (Fl.kX (o9 (cB (lE rfl (xT _)) rfl T.b_isinstance PyProof.Rows.boot_isinstance (aP (aC (pv 0)) (aP (mI (v:=.ty "list") rfl T.b_list PyProof.Rows.boot_list rfl) aW)))))) (Fl.oM (Fl.dF (xL rfl hr.units) rH (aB (eR rfl (cB dB rfl T.b_len PySem.boot_len (aP (aC (pv 0)) aW)))) (aC (pv 1)) (dA _))))) (Fl.aS (Fl.bP (aV jX))) Fl.dG)
   (Fl.aJ (Fl.d8 (bF 2) (L2.d8 (fG ⟨rfl,rfl⟩) rfl (aBU rfl (bT (pv 0))) (bD (i:=2) nd rfl (Or.inl rfl))
   (Fl.aJ (aM8 2 (Fl.eW (PW.pt (Fl.r6 (Fl.mL (Fl.kX (o9 (cB (lE rfl (xT _)) rfl T.b_isinstance PyProof.Rows.boot_isinstance (aP (aC (pv 2)) (aP (mI (v:=.ty "list") rfl T.b_list PyProof.Rows.boot_list rfl) aW)))))) (Fl.oM (Fl.dF (xL rfl hr.units) rH (aB (eR rfl (cB dB rfl T.b_len PySem.boot_len (aP (aC (pv 2)) aW)))) (aC (pv 1)) (dA _))))) (Fl.aS (Fl.bP (aV jX))) Fl.dG)) (Fl.aS (Fl.eW (Fl.mL (Fl.kX (aL1 rfl (cB (aC4 rfl) rfl T.b_all PyProof.Rows.boot_all (aP (aB (eQ (dX (dS (N:=["_law_number","_law_many"]) (js:=[none,some 1]) rfl (.own (.cap rfl (.inl rfl) (.inl rfl) .nil)) (by rfl) (iY rfl (aC (pv 2)))) (by decide) (by decide) (is:=[0]) (fun cl C s0 H0 fp=>⟨_,(bD (i:=0) (show (["_law_number","_law_many"]:List Str).Nodup by decide +kernel) rfl (Or.inl rfl)),(bF 0),Fl.cJ,(aDK (dQ (cH rfl rfl rfl (cG c__law_whole (hr.mono (by decide)) rfl lR (aG (a6 (pv 0)) bL)))) (aDJ (aF5 xJ rG sN nN (aB aE) (aC (pv 0)) (aC (pv 1)))))⟩)))) aW))))) (Fl.aS (Fl.bP (aV jX))) Fl.dG)))))
   (Fl.aS (Fl.bP (aV jX))))))
theorem oK:FnScope ["_law_script","_law_many","_law_pairs_here","_law_cell_here","_law_mixed"] ["_law_script","_law_many"] (aQ (top 35)):=by constructor<;>first|rfl|decide +kernel
theorem vX(T:Txt w K mg)(D:DefAt K mg "_law_pairs" (top 35) ["_law_script","_law_many"]):aZ P w K mg base TH 1 "_law_pairs" ["_law_script","_law_many"] eU:=
 @cT P w K mg base TH "_law_pairs" (top 35) ["_law_script","_law_many","_law_pairs_here","_law_cell_here","_law_mixed"] ["_law_script","_law_many"] 0 iL D oK (fun f cdv A outer s H F E hr=>by
  have nd:=oK.nd
  exact (Fl.aJ (gS (L2.aR (i:=2) nd rfl (Or.inl rfl) (aL7 rfl (aB (eQ (dX (dS (N:=["_law_k"]) (js:=[none]) rfl (.own .nil) (by rfl) (sO (iP (fP rfl T.b_range (aP (aC (pv 1)) aW))))) (by decide) (by decide) (is:=[0]) (fun cl C s0 H0 fp=>⟨_,(bD (i:=0) (show (["_law_k"]:List Str).Nodup by decide +kernel) rfl (Or.inl rfl)),(bF 0),Fl.cJ,(cR (aM aE (aM (bT (pv 0)) bJ)))⟩)))) (aB (eQ (dX (dS (N:=["_law_k"]) (js:=[none]) rfl (.own .nil) (by rfl) (sO (iP (fP rfl T.b_range (aP (aC (pv 1)) aW))))) (by decide) (by decide) (is:=[0]) (fun cl C s0 H0 fp=>⟨_,(bD (i:=0) (show (["_law_k"]:List Str).Nodup by decide +kernel) rfl (Or.inl rfl)),(bF 0),Fl.cJ,(cR (aM (bT (pv 0)) (aM aE bJ)))⟩)))))))
   (Fl.aJ (Fl.eW (Fl.dF xJ rG (aC (pv 1)) (aB aE) (dA _)) (Fl.aS (Fl.bP (aV (eQ (dX (dS (N:=["_law_k","_law_many"]) (js:=[none,some 1]) rfl (.own (.cap rfl (.inl rfl) (.inl rfl) .nil)) (by rfl) (sO (iP (fP rfl T.b_range (aP (aB (aO fK eE (aC (pv 1)) (aC (pv 1)))) aW))))) (by decide) (by decide) (is:=[0]) (fun cl C s0 H0 fp=>⟨_,(bD (i:=0) (show (["_law_k","_law_many"]:List Str).Nodup by decide +kernel) rfl (Or.inl rfl)),(bF 0),Fl.cJ,(cR (aM (aO dW cQ (aC (pv 0)) (aC (pv 1))) (aM (aO b7 bK (aC (pv 0)) (aC (pv 1))) bJ)))⟩)))))) Fl.dG)
   (Fl.aJ (Fl.d8 (bF 3) (L2.d8 (fG ⟨rfl,rfl⟩) rfl (aBU rfl (lD rfl (aC (pv 0)) (p9 (aB aE)) (p9 (aB aE)))) (bD (i:=3) nd rfl (Or.inl rfl))
   (Fl.aJ (Fl.aR (L2.aR (i:=4) nd rfl (Or.inl rfl) (aV (aO dW cQ (aB (aO b7 bK (aB (aO (cX rfl) b8 (aB (aO fK eE (aB (aO b7 bK (aC (pv 3)) (aB aE))) (aB aE))) (aB aE))) (aB aE))) (aB aE)))))
   (Fl.aS (mT rfl (L2.fX (lQ PySem.F.plainAttrs_list PySem.F.slot_list_append PySem.F.type_list_append iM (pv 2) (aP (cR (aM (aO b7 bK (aC (pv 4)) (aC (pv 1))) (aM (aO b7 bK (aB (aO dW cQ (aC (pv 4)) (aB aE))) (aC (pv 1))) bJ))) aW))))))))
   (Fl.aS (v9 2 (Fl.bP (a6 (pv 2)))))))))
end
end Mc
namespace Mc
open PySem L2 PyProof.Rows Fl
section
variable{P:Program}{w:World}{K:Frag}{mg:Str->Option Value}{base:Heap}{TH:Hp}
theorem aEX:FnScope ["_law_script","_law_first","_law_machine_here","_law_tables","_law_found","_law_i","_law_j","_law_kept"] ["_law_script"] (aQ (top 36)):=by constructor<;>first|rfl|decide +kernel
theorem aNA(T:Txt w K mg){fL:Addr}{fdL:FuncData}(hTH:∀ a xs,TH a≠some (.lst xs))(FL:Fun K "law" "law" (top 36) fL fdL)(c__law_cell:aZ P w K mg base TH 1 "_law_cell" ["_law_script","_law_k"] bY)(c__law_machine:aZ P w K mg base TH 3 "_law_machine" ["_law_script","_law_at","_law_rooms","_law_signs"] fO)(c__law_told:aZ P w K mg base TH 13 "_law_told" ["_law_way","_law_machine_here"] c9)(c_all_tables:aZ P w K mg base TH 7 "all_tables" ["machine"] eG)(c_products:aZ P w K mg base TH 7 "products" ["machine"] bW)(c__law_square:aZ P w K mg base TH 2 "_law_square" ["_law_found","_law_many"] eK)(c__law_pairs:aZ P w K mg base TH 1 "_law_pairs" ["_law_script","_law_many"] eU)(c__law_table:aZ P w K mg base TH 2 "_law_table" ["_law_machine_here","_law_strip"] d4):FnOk P w K mg base (CXe P w) 14 fL fdL ["_law_script"] (spL (gOf P w K mg base TH) K mg 1 aCF):=
 @aKD P w K mg base TH "law" (top 36) ["_law_script","_law_first","_law_machine_here","_law_tables","_law_found","_law_i","_law_j","_law_kept"] ["_law_script"] 13 fL fdL aCE FL aEX (fun cdv A outer s H F E hr=>by
  have nd:=aEX.nd
  exact (gP (E:=E) (Fl.aR (L2.aR (i:=1) nd rfl (Or.inl rfl) (cH rfl rfl rfl (cG c__law_cell (hr.mono (by decide)) rfl (dJ fun _ _ _ h=>h) (aG (a6 (pv 0)) (aG (aV aE) bL))))))
   (gP (E:=E) (Fl.aR (L2.aR (i:=2) nd rfl (Or.inl rfl) (cH rfl rfl rfl (cG c__law_machine (hr.mono (by decide)) rfl (dJ fun _ _ _ h=>h) (aG (a6 (pv 0)) (aG (aV aE) (aG (aV (aO (cX rfl) b8 (aB aE) (aB (aO b7 bK (aC (pv 1)) (aB aE))))) (aG (aV (aO (cX rfl) b8 (aB aE) (aB (aO b7 bK (aB (aO dW cQ (aC (pv 1)) (aB aE))) (aB aE))))) bL))))))))
   (gP (E:=E) (Fl.aR (L2.aR (i:=3) nd rfl (Or.inl rfl) (cH rfl rfl rfl (cG c__law_told (hr.mono (by decide)) rfl (dJ fun _ _ _ h=>h) (aG (aAC (k:=7) (x:="all_tables") (ps:=["machine"]) (G:=eG) rfl c_all_tables rfl) (aG (a6 (pv 2)) bL))))))
   (gP (E:=E) (Fl.aR (L2.aR (i:=4) nd rfl (Or.inl rfl) (cH rfl rfl rfl (cG c__law_told (hr.mono (by decide)) rfl (dJ fun _ _ _ h=>h) (aG (aAC (k:=7) (x:="products") (ps:=["machine"]) (G:=bW) rfl c_products rfl) (aG (a6 (pv 2)) bL))))))
   (gP (E:=E) (Fl.eW (PW.pt (Fl.r6 (Fl.dF aDI xK (aC (pv 3)) (aB k8) (dA _)) (Fl.oM (Fl.dF o4 k9 (aB (eR rfl (cB dB rfl T.b_len PySem.boot_len (aP (aC (pv 3)) aW)))) (aB aE) (dA _))))) (Fl.aS (Fl.bP (aV (xI aDI xK (aC (pv 4)) (aB k8) (dA _))))) Fl.dG)
   (gP (E:=E) (Fl.eW (Fl.mL (Fl.kX (dQ (cH rfl rfl rfl (cG c__law_square (hr.mono (by decide)) rfl (dJ fun _ _ _ h=>h) (aG (a6 (pv 4)) (aG (aV (eR rfl (cB dB rfl T.b_len PySem.boot_len (aP (aC (pv 3)) aW)))) bL))))))) (Fl.aS (Fl.bP (aV jX))) Fl.dG)
   (gP (E:=E) (Fl.d8 (mU rfl (eI (bF 5) (eI (bF 6) kS)) rfl) (L2.d8 (fG ⟨rfl,rfl⟩) rfl (aBU rfl (dQ (cH rfl rfl rfl (cG c__law_pairs (hr.mono (by decide)) rfl (dJ fun _ _ _ h=>h) (aG (a6 (pv 0)) (aG (aV (eR rfl (cB dB rfl T.b_len PySem.boot_len (aP (aC (pv 3)) aW)))) bL)))))) (mM rfl (eH (bD (i:=5) nd rfl (Or.inl rfl)) (eH (bD (i:=6) nd rfl (Or.inl rfl)) kP)))
   (Fl.aS (Fl.eW (Fl.dF (xL rfl hr.units) rH (aB (bN (bO rfl) aU (aB (bN (bO rfl) aU (aC (pv 3)) (aB (bN (bO rfl) aU (aB (aEU (bN (bO rfl) aU (aC (pv 4)) (aC (pv 5))))) (aC (pv 6)))))) (aB aE))) (aB (dQ (cH rfl rfl rfl (cG c__law_table (hr.mono (by decide)) rfl (dJ fun _ _ _ h=>h) (aG (a6 (pv 2)) (aG (aV (aO (cX rfl) b8 (aB (bN (bO rfl) aU (aB (bN (bO rfl) aU (aC (pv 3)) (aC (pv 5)))) (aB aE))) (aB (bN (bO rfl) aU (aB (bN (bO rfl) aU (aC (pv 3)) (aC (pv 6)))) (aB aE))))) bL)))))) (dA _)) (Fl.aS (Fl.bP (aV jX))) Fl.dG))))
   (aKC (E:=E) (k:=2) rfl hTH (L2.iV (i:=7) nd rfl (Or.inl rfl) (by rfl) (N:=["_law_row"]) (js:=[none]) rfl (.own .nil) (by rfl) (iY rfl (aC (pv 4)))) rfl (fun cl C s0 H0 fp=>⟨bD (i:=0) (show (["_law_row"]:List Str).Nodup by decide +kernel) rfl (Or.inl rfl),cP wO rfl T.b_list PyProof.Rows.boot_list (aP (pv 0) aW)⟩)
   (L2.fX (aLN PySem.F.plainAttrs_list PySem.F.slot_list_clear PySem.F.type_list_clear aFC (aHM aLL (pv 4) aCK (fun _ _=>rfl))))
   (fun F0 H0=>(Fl.aS (Fl.bP (aV (xI (mS rfl hr.units) jM (aB (aEU (dQ (cH rfl rfl rfl (cG c_products (hr.mono (by decide)) rfl (dJ fun _ _ _ h=>h) (aG (a6 (pv 2)) bL)))))) (aC (pv 7)) (dA _)))))))))))))))
end
end Mc
namespace Mc
open PySem L2 PyProof.Rows Fl
noncomputable def d5(rs:List Rw)(mo:Nat)(e2:A)(f:List (List Nat))(at':Nat)(u v w:Option A):Sg:=[some (.d (bE rs)),some (.d (.int (mo:Int))),some e2,some (.l (f.map (enD rs))),some (.m (been id (f.map (tE rs)))),some (.d (.int (at':Int))),u,v,w]
theorem aHB{rs:List Rw}{mo sg c at':Nat}{f:List (List Nat)}{z:List Nat}{e2:A}{v:Option A}(M:Mach rs sg)(hS:∀ z∈f,bC sg z)(hl:f.length<=10000)(hz:f[at']? = some z)(Sz:bC sg (z++[c])){w:Option A}(hv:v=some (.d (tbD (cL (c - 97) rs)))) :
  gaF (d5 rs mo e2 f at' (some (.d (.str ⟨#[c]⟩))) v w)=.ok (.nx (d5 rs mo e2 (n8 rs f (z++[c])) at' (some (.d (.str ⟨#[c]⟩))) v (some (.d (tE rs (z++[c])))))):=by
 subst hv
 have ix:dIx (.list (f.map (enD rs))) (.int (at':Int))=.ok (enD rs z):=kJ (eN (by rw[List.getElem?_map,hz];rfl))
 have i0:dIx (enD rs z) (.int 0)=.ok (stD z):=rfl
 have i1:dIx (enD rs z) (.int 1)=.ok (tE rs z):=rfl
 have hb:=aJ5 M Sz
 have hk:=aJ6 (yN M Sz) (rW M hS)
 have hzl:z.length<=1000:=by have:=Sz.1;simp at this;omega
 by_cases h:tE rs (z++[c])∈f.map (tE rs)
 ·rw[qF h]
  have h1:=aM5 h
  simp[gaF,d5,ix,i0,i1,hb,hk,h1]
 ·rw[n9 h]
  have h1:=aJ7 h
  have h2:=aM6 h
  have h3:(been id (f.map (tE rs))).length<=16777216:=by rw[aM4,List.length_map];omega
  have h4:f.length < 16777216:=by omega
  have ad:=aG0 z c hzl
  unfold d5
  rw[List.map_append,List.map_append,List.map_singleton,List.map_singleton,<-h2]
  simp[gaF,ix,i0,i1,hb,hk,h1,h3,h4,ad]
  rfl
theorem aKG{rs:List Rw}{mo sg at':Nat}{f:List (List Nat)}{z:List Nat}{e2:A}{u v w:Option A}(M:Mach rs sg)(hV:GaV sg at' f)(ha:at' < 900)(hl:f.length<=300)(hz:f[at']? = some z) :
  ∃ u' v' w',kC (stT [(stN 6),(stN 7)]) gaF ((sgT sg).cps.toList.map (g8 rs)) (d5 rs mo e2 f at' u v w)=.ok (.nx (d5 rs mo e2 (cI rs f ((sgT sg).cps.toList.map fun c=>z++[c])) at' u' v' w'))/\GaV sg (at'+1) (cI rs f ((sgT sg).cps.toList.map fun c=>z++[c]))/\f <+: cI rs f ((sgT sg).cps.toList.map fun c=>z++[c])/\(cI rs f ((sgT sg).cps.toList.map fun c=>z++[c])).length<=f.length+3:=by
 have s1:=M.sg1
 have s3:=M.sg3
 have hzm:=List.mem_of_getElem? hz
 have hl3:=uI s1 s3
 obtain ⟨ρ',q1,u',v',w',rfl,V,pr,ln⟩:=iH (fs:=stT [(stN 6),(stN 7)]) (fb:=gaF) (d:=g8 rs) (xs:=(sgT sg).cps.toList) (ρ:=d5 rs mo e2 f at' u v w)
  (fun i ρ=>∃ u v w,ρ=d5 rs mo e2 (cI rs f (((sgT sg).cps.toList.take i).map fun c=>z++[c])) at' u v w/\GaV sg (at'+1) (cI rs f (((sgT sg).cps.toList.take i).map fun c=>z++[c]))/\f <+: cI rs f (((sgT sg).cps.toList.take i).map fun c=>z++[c])/\(cI rs f (((sgT sg).cps.toList.take i).map fun c=>z++[c])).length<=f.length+i)
  ⟨u,v,w,rfl,⟨hV.sgn,fun z hz=>by have:=hV.len z hz;omega⟩,List.prefix_refl _,by show f.length<=_;omega⟩ fun i c ρ hc zz0=>by
  obtain ⟨u,v,w,e,V,pr,ln⟩:=zz0
  have hcm:=List.mem_of_getElem? hc
  have hs:=yO s1 s3 hcm
  have hi:i < (sgT sg).cps.toList.length:=by
   rcases Nat.lt_or_ge i (sgT sg).cps.toList.length with h|h
   · exact h
   · rw [List.getElem?_eq_none h] at hc; cases hc
  have ht:(sgT sg).cps.toList.take (i+1)=(sgT sg).cps.toList.take i++[c]:=by rw[List.take_succ,hc];rfl
  have Sz:bC sg (z++[c]):=⟨by have:=hV.len z hzm;rw[List.length_append,List.length_singleton];omega,fun x hx=>by
   rcases List.mem_append.mp hx with h|h
   · exact hV.sgn z hzm x h
   · rw [List.mem_singleton.mp h]; exact hs⟩
  have st:=aHB (mo:=mo) (e2:=e2) (w:=w) (v:=some (.d (tbD (cL (c - 97) rs)))) M (V.strip (by omega)) (by omega) (aJ8 pr hz) Sz rfl
  rw[ht,List.map_append,List.map_singleton,aB8]
  refine ⟨d5 rs mo e2 (cI rs f (((sgT sg).cps.toList.take i).map fun c=>z++[c])) at' (some (.d (.str ⟨#[c]⟩))) (some (.d (tbD (cL (c - 97) rs)))) w,_,by rw[e];simp[d5,g8],.inl st,_,_,_,rfl,⟨fun x hx=>?_,fun x hx=>?_⟩,pr.trans aG2,?_⟩
  ·rcases addR_mem hx with h|rfl
   · exact V.sgn x h
   · exact Sz.2
  ·rcases addR_mem hx with h|rfl
   · exact V.len x h
   · have := hV.len z hzm; rw [List.length_append, List.length_singleton]; omega
  ·have:=aG1 (rs:=rs) (f:=cI rs f (((sgT sg).cps.toList.take i).map fun c=>z++[c])) (y:=z++[c]);omega
 rw[List.take_length] at q1 V pr ln
 exact ⟨u',v',w',q1,V,pr,by omega⟩
theorem aHC{rs:List Rw}{mo sg:Nat}(M:Mach rs sg)(hfew:few (mo:Int))(hmo:mo<=300):∀ (n at':Nat) (f:List (List Nat)) (e0:A) (u v w:Option A),(e0=.l ((sgT sg).cps.toList.map (g8 rs))\/e0=.d (.list ((sgT sg).cps.toList.map (g8 rs))))->GaV sg at' f->at'<=f.length->f.length<=mo->f=cI rs [[]] (Mb.c8 (sgT sg).cps.toList (f.take at'))->mo+1<=at'+n->
  (aK (bS gaT gaB) (sFz 3 (bH (vV 3))) (d5 rs mo e0 f at' u v w)=.ex ⟨"TooMany",[]⟩/\∃ f':List (List Nat),mo < f'.length/\(f'.map (tE rs)).Nodup/\∀ z∈f',bC sg z)\/∃ C,aK (bS gaT gaB) (sFz 3 (bH (vV 3))) (d5 rs mo e0 f at' u v w)=.ok (.rt (.d (.list (C.map (enD rs)))))/\C=cI rs [[]] (Mb.c8 (sgT sg).cps.toList C)/\(∀ z∈C,bC sg z/\z.length<=300)/\C.length<=mo/\[[]] <+: C:=by
 intro n
 induction n with
 | zero=>intro at' f e0 u v w he V h1 h2 h3 h4;omega
 | succ n ih=>
  intro at' f e0 u v w he V h1 h2 h3 h4
  have hT:gaT (d5 rs mo e0 f at' u v w)=.ok (decide (at' < f.length)):=by simp[gaT,d5,mY]
  by_cases hlt:at' < f.length
  ·have hz:f[at']? = some f[at']:=List.getElem?_eq_getElem hlt
   obtain ⟨u',v',w',q,V',pr,ln⟩:=aKG (mo:=mo) (e2:=.d (.list ((sgT sg).cps.toList.map (g8 rs)))) (u:=u) (v:=v) (w:=w) M V (by omega) (by omega) hz
   have hl3:=uI M.sg1 M.sg3
   have hit:=eJ (xs:=(sgT sg).cps.toList.map (g8 rs)) (by rw[List.length_map];omega)
   have hf:fz 2 (d5 rs mo e0 f at' u v w)=d5 rs mo (.d (.list ((sgT sg).cps.toList.map (g8 rs)))) f at' u v w:=by
    rcases he with rfl|rfl<;>rfl
   have hE:(e1 aY (eV 2)) (d5 rs mo (.d (.list ((sgT sg).cps.toList.map (g8 rs)))) f at' u v w)=.ok ((sgT sg).cps.toList.map (g8 rs)):=by simp[d5,hit]
   generalize hf':cI rs f ((sgT sg).cps.toList.map fun c=>f[at']++[c])=f' at q V' pr ln
   have hle:=pr.length_le
   have hcl:f'=cI rs [[]] (Mb.c8 (sgT sg).cps.toList (f'.take (at'+1))):=by
    have ht:f'.take (at'+1)=f.take at'++[f[at']]:=by
     obtain ⟨t,rfl⟩:=pr
     rw[List.take_append_of_le_length (by omega),List.take_succ,hz];rfl
    rw[ht,Mb.lO]
    unfold cI
    rw[Mb.gX]
    show _=cI rs (cI rs [[]] (Mb.c8 (sgT sg).cps.toList (f.take at'))) _
    rw[<-h3]
    unfold Mb.c8
    rw[List.flatMap_singleton,hf']
   have hgt:(e1 asB (e2 dGt (e1 dLen (rV 3)) (rV 1))) (d5 rs mo (.d (.list ((sgT sg).cps.toList.map (g8 rs)))) f' at' u' v' w')=.ok (decide (mo < f'.length)):=by
    simp[d5,mY]
    try omega
   by_cases hm:mo < f'.length
   ·have hB:gaB (d5 rs mo e0 f at' u v w)=.ex ⟨"TooMany",[]⟩:=by
     unfold gaB
     rw[bU,aD7,hf,mX,hE,R.bind_ok,q,R.bind_ok]
     simp only
     rw[bU,pE,hgt,decide_eq_true hm]
     simp[d5,qA,hfew]
    refine .inl ⟨?_,f',hm,?_,V'.strip (by omega)⟩
    ·rw[bU,aEQ (by rw[hT,decide_eq_true hlt]) hB];rfl
    ·rw[hcl]
     exact Mb.pI (List.pairwise_singleton _ _)
   ·have hB:gaB (d5 rs mo e0 f at' u v w)=.ok (.nx (d5 rs mo (.d (.list ((sgT sg).cps.toList.map (g8 rs)))) f' (at'+1) u' v' w')):=by
     unfold gaB
     rw[bU,aD7,hf,mX,hE,R.bind_ok,q,R.bind_ok]
     simp only
     rw[bU,pE,hgt,decide_eq_false hm]
     simp[d5,nQ]
    have:=ih (at'+1) f' _ u' v' w' (.inr rfl) V' (by omega) (by omega) hcl (by omega)
    rw[bU] at this ⊢
    rw[pF (by rw[hT,decide_eq_true hlt]) hB]
    exact this
  ·have hcl:f=cI rs [[]] (Mb.c8 (sgT sg).cps.toList f):=by rwa [List.take_of_length_le (by omega)] at h3
   refine .inr ⟨f,?_,hcl,fun z hz=>⟨V.strip (by omega) z hz,by have:=V.len z hz;omega⟩,h2,?_⟩
   ·rw[bU,gN (by rw[hT,decide_eq_false hlt])]
    simp[d5]
   ·rw[hcl]
    unfold cI
    rw[Mb.gY]
    exact List.prefix_append _ _
theorem F_gathM{rs:List Rw}{mo sg:Nat}(M:Mach rs sg)(hfew:few (mo:Int))(hmo:mo<=300)(hm1:1<=mo):(cZ [.d (bE rs),.d (.int (mo:Int))]=.ex ⟨"TooMany",[]⟩/\∃ f':List (List Nat),mo < f'.length/\(f'.map (tE rs)).Nodup/\∀ z∈f',bC sg z)\/∃ C,cZ [.d (bE rs),.d (.int (mo:Int))]=.ok (.d (.list (C.map (enD rs))))/\C=cI rs [[]] (Mb.c8 (sgT sg).cps.toList C)/\(∀ z∈C,bC sg z/\z.length<=300)/\C.length<=mo/\[[]] <+: C:=by
 obtain ⟨r,t,hrs,hr⟩:=M.cons
 have hsg:d7 [.d (bE rs)]=.ok (.d (.int sg)):=by rw[hrs,aAJ,hr]
 have hsl:dSl (.str "abc") none (some (sg:Int))=.ok (.str (sgT sg)):=aOI (by decide)
 have hl3:=uI M.sg1 M.sg3
 have hi:aY (.str (sgT sg))=.ok ((sgT sg).cps.toList.map fun u:Nat=>PyData.str ⟨#[u]⟩):=aGQ (by omega)
 have hc:=compL_of (fs:=stN 0) (fe:=bR (aA (eV 0) (aA (eA (a5 2 eF (aA (vV 1) (aA (vV 0) aH)))) aH))) (ρ0:=[none,some (.d (bE rs))]) (d:=fun u:Nat=>PyData.str ⟨#[u]⟩) (g:=g8 rs) (xs:=(sgT sg).cps.toList) fun u hu=>⟨_,rfl,by
  have:=aOL M (yO M.sg1 M.sg3 hu)
  simp[this,g8]⟩
 have hlen:dLen (bE rs)=.ok (.int rs.length):=by unfold bE;rw[aEB,List.length_map]
 have hst:=aOK M.len2
 have hk:cO (tbD (bM rs.length)) []=true:=by unfold cO;rw[aAP];rfl
 have hp:Fl.dH [] [(tbD (bM rs.length),.bool true)]=.ok [(tbD (bM rs.length),.bool true)]:=by simp[Fl.dH,hk,putM,dY,f8]
 have key:=aHC M hfew hmo (mo+1) 0 [[]] (.l ((sgT sg).cps.toList.map (g8 rs))) none none none (.inl rfl) ⟨fun z hz=>by rw[List.mem_singleton.mp hz];exact fun c hc=>by simp at hc,fun z hz=>by rw[List.mem_singleton.mp hz];simp⟩ (by simp) (by simpa using hm1) rfl (by omega)
 have e0:([[]]:List (List Nat)).map (enD rs)=[.tuple [.str "",tbD (bM rs.length)]]:=rfl
 have e1':been id (([[]]:List (List Nat)).map (tE rs))=[(tbD (bM rs.length),.bool true)]:=rfl
 unfold cZ
 rw[aM7]
 simp only[d5,e0,e1',Int.natCast_zero] at key
 have run:∀ r,aK (bS gaT gaB) (sFz 3 (bH (vV 3))) [some (.d (bE rs)),some (.d (.int (mo:Int))),some (.l ((sgT sg).cps.toList.map (g8 rs))),some (.l [.tuple [.str "",tbD (bM rs.length)]]),some (.m [(tbD (bM rs.length),.bool true)]),some (.d (.int 0)),none,none,none]=r->fnF 9 (aK (dM 2 (cK [none,some 0] (e1 aY (eSl dSl (eC (.str "abc")) oNo (oSo (eA (a5 1 d7 (aA (vV 0) aH)))))) (stN 0) cS (bR (aA (eV 0) (aA (eA (a5 2 eF (aA (vV 1) (aA (vV 0) aH)))) aH)))))
 (aK (dM 3 (g7 (aA (bR (aA (eC (.str "")) (aA (eA (a5 1 jO (aA (vD (e1 dLen (rV 0))) aH))) aH))) aH)))
 (aK (sT 4 (sS (e2 dIx (e2 dIx (rV 3) (eC (.int 0))) (eC (.int 1))) (eC (.bool true)) xY))
 (aK (b9 5 (vD (eC (.int 0))))
 (aK (bS gaT gaB) (sFz 3 (bH (vV 3)))))))) [.d (bE rs),.d (.int (mo:Int))]=match r with | .bad=>.bad | .ex e=>.ex e | .ok (.rt (.l _))=>.bad | .ok (.rt a)=>.ok a | .ok (.nx _)=>.ok (.d .none) | .ok _=>.bad:=fun r hr=>by
  have i0:dIx (.list [.tuple [.str "",tbD (bM rs.length)]]) (.int 0)=.ok (.tuple [.str "",tbD (bM rs.length)]):=rfl
  have i1:dIx (.tuple [.str "",tbD (bM rs.length)]) (.int 1)=.ok (tbD (bM rs.length)):=rfl
  rw[bU] at hr
  simp only[jC,bU,lJ,nZ,l6,qB,aD8,nY,aD9,aEA,aOC,aGO,rO,kT,aOB,sW,j1,R.bind_ok,List.length_cons,List.length_nil,Nat.reduceAdd,List.map_cons,List.map_nil,List.cons_append,List.nil_append,List.replicate,Nat.reduceSub,List.getElem?_cons_zero,List.getElem?_cons_succ,if_true,hsg,aMI,hsl,hi,fM,Option.bind_none,Option.bind_some,Option.join_some,hc,List.set_cons_zero,List.set_cons_succ,qD,aAF,hlen,hst,Nat.reduceLeDiff,aGU,aGV,aJX,i0,i1,hp,mV,hr]
  cases r with
  | bad=>rfl
  | ex e=>rfl
  | ok w=>
   cases w with
   | rt a=>cases a<;>rfl
   | _=>rfl
 rcases key with ⟨key,hx⟩|⟨C,key,h1⟩
 ·exact .inl ⟨run _ key,hx⟩
 ·exact .inr ⟨C,run _ key,h1⟩
end Mc
namespace Fl
open PySem L2 PyProof.Rows
@[simp] theorem aPN(i:Nat)(f g:Sg->R PyData)(ρ:Sg):aOA i f g ρ=match ρ[i]? with
 | some (some (.m kvs))=>(f ρ).bind fun k=>(g ρ).bind fun y=>if cO k (kvs.map (·.1))=true/\kvs.length<=16777216 then .ok (.nx (if dY kvs k=true then ρ else ρ.set i (some (.m (putM kvs k y))))) else .bad
 | _=>.bad:=id rfl
@[simp] theorem aP4(i:Nat)(ρ:Sg):aPH i ρ=match ρ[i]? with
 | some (some (.l xs))=>.ok (.nx (ρ.set i (some (.l xs.reverse))))
 | _=>.bad:=id rfl
theorem aHD{x:PyData}{xs:List PyData}(h:aY x=.ok xs):sV x=.ok (xs.zipIdx.map rM):=by
 unfold sV;rw[h];rfl
end Fl
namespace Mc
open PySem L2 PyProof.Rows Fl
theorem tK:∀ (l acc:List (PyData×PyData)),(∀ x∈(acc++l).map (·.1),g6 x=true)->((acc++l).map (·.1)).Nodup->(acc++l).length<=1000->Fl.dH acc l=.ok (acc++l)
 | [],acc,_,_,_=>by rw[List.append_nil];rfl
 | (k,v)::t,acc,h1,h2,h3=>by
  have hs:cO k (acc.map (·.1))=true:=by
   unfold cO
   rw[Bool.or_eq_true,Bool.and_eq_true]
   refine .inl ⟨h1 k (List.mem_map.mpr ⟨(k,v),by simp,rfl⟩),List.all_eq_true.mpr fun x hx=>h1 x ?_⟩
   rw[List.map_append]
   exact List.mem_append_left _ hx
  have hn:dY acc k=false:=by
   unfold dY f8
   rw[List.find?_eq_none.mpr]
   ·rfl
   ·intro x hx z
    rw[List.map_append,List.nodup_append] at h2
    exact h2.2.2 x.1 (List.mem_map_of_mem hx) k (by simp) (of_decide_eq_true z)
  have e:acc++(k,v)::t=(acc++[(k,v)])++t:=by rw[List.append_assoc];rfl
  rw[Fl.dH,if_pos ⟨hs,by rw[List.length_append] at h3;omega⟩]
  unfold putM
  rw[hn,if_neg (by decide),e]
  rw[e] at h1 h2 h3
  exact tK t _ h1 h2 h3
@[simp] theorem aOV(i:Nat)(f:Sg->R (List PyData))(ρ:Sg):yQ i f ρ=(f ρ).bind fun ds=>match Fl.jR ds with|some kvs=>(Fl.dH [] kvs).bind fun res=>.ok (.nx (ρ.set i (some (.m res))))|none=>.bad:=id rfl
theorem aHE(i:Nat)(f:Sg->R Fw)(ρ:Sg):aGM i f ρ=f (fzM i ρ):=id rfl
theorem aKH(i:Nat)(ρ:Sg):fzM i ρ=match ρ[i]? with|some (some (.m kvs))=>ρ.set i (some (.f kvs))|_=>ρ:=id rfl
theorem yZ{sg:Nat}(s1:1<=sg)(s3:sg<=3):(sgT sg).cps.toList.Pairwise (· < ·):=by
 rw[qG s1 s3]
 obtain rfl|rfl|rfl:sg=1\/sg=2\/sg=3:=by omega
 all_goals decide
theorem aNB{cs:List Nat}(z:List Nat):(∀ c∈z,c∈cs)->z∈Mb.lev cs z.length:=by
 refine yI (P:=fun z=>(∀ c∈z,c∈cs)->z∈Mb.lev cs z.length) (fun _=>List.mem_singleton.mpr rfl) (fun z c ih h=>?_) z
 rw[List.length_append,List.length_singleton]
 exact Mb.iK.mpr ⟨z,ih fun c hc=>h c (List.mem_append_left _ hc),c,h c (by simp),rfl⟩
theorem aEY{sg:Nat}{z:List Nat}(s1:1<=sg)(s3:sg<=3)(S:bC sg z):z∈Mb.lev (sgT sg).cps.toList z.length:=aNB z fun c hc=>by
 rw[qG s1 s3]
 obtain ⟨i,hi⟩:=(lS s1 s3).mp (S.2 c hc)
 exact List.mem_of_getElem? hi
@[simp] theorem aQO(f:Sg->R (List PyData))(ρ:Sg):eLT f ρ=(f ρ).bind fun xs=>match jG xs with
 | some ns=>.ok (dD ns)
 | none=>.bad:=id rfl
@[simp] theorem aP5(x:PyData):uL x=.ok (rZ x):=id rfl
@[simp] theorem aKI(i:Nat)(f:Sg->R Fw)(ρ:Sg):aCC i f ρ=f (uM i ρ):=id rfl
theorem pN:∀ ns:List Int,jG (ns.map .int)=some ns
 | []=>rfl
 | n::t=>by
  show (match jG (t.map .int) with|some r=>some (n::r)|none=>none)=_
  rw[pN t]
theorem mD{rs:List Rw}{sg:Nat}{C:List (List Nat)}(M:Mach rs sg)(hC:C=cI rs [[]] (Mb.c8 (sgT sg).cps.toList C)){z:List Nat}(S:bC sg z):tE rs z∈C.map (tE rs):=Mb.aB7 (yZ M.sg1 M.sg3) hC (aEY M.sg1 M.sg3 S)
theorem qY{rs:List Rw}{sg:Nat}{C f:List (List Nat)}(M:Mach rs sg)(hC:C=cI rs [[]] (Mb.c8 (sgT sg).cps.toList C))(nd:(f.map (tE rs)).Nodup)(hS:∀ z∈f,bC sg z):f.length<=C.length:=by
 have hin:∀ y∈f.map (tE rs),y∈C.map (tE rs):=fun y hy=>by
  obtain ⟨z,hz,rfl⟩:=List.mem_map.mp hy
  exact mD M hC (hS z hz)
 have:=u1 (fun y=>nrQ (C.map (tE rs)) y) (C.map (tE rs)).length (f.map (tE rs)) nd (fun y hy=>List.idxOf_lt_length_of_mem (hin y hy)) fun a ha b hb e=>by
  have h1:=tG (hin a ha)
  have h2:=tG (hin b hb)
  have e:nrQ (C.map (tE rs)) a=nrQ (C.map (tE rs)) b:=e
  rw[e,h2] at h1
  exact (Option.some.inj h1).symm
 rw[List.length_map,List.length_map] at this
 exact this
theorem aNC{rs:List Rw}{sg:Nat}{x y:List Nat}(M:Mach rs sg)(S:bC sg (x++y)):dZ [.d (tE rs x),.d (tE rs y)]=.ok (.d (tE rs (x++y))):=by
 have Sx:bC sg x:=⟨by have:=S.1;rw[List.length_append] at this;omega,fun c hc=>S.2 c (List.mem_append_left _ hc)⟩
 have Sy:bC sg y:=⟨by have:=S.1;rw[List.length_append] at this;omega,fun c hc=>S.2 c (List.mem_append_right _ hc)⟩
 have h:=aH4 (fZ M Sx) (fZ M Sy) M.len2
 rw[aB1 M y x S] at h
 rw[gO M x Sx,gO M y Sy,gO M _ S]
 exact h
theorem pO{sg:Nat}{x y:List Nat}(hx:bC sg x/\x.length<=300)(hy:bC sg y/\y.length<=300):bC sg (x++y):=⟨by rw[List.length_append];omega,fun c hc=>by
 rcases List.mem_append.mp hc with h|h
 · exact hx.1.2 c h
 · exact hy.1.2 c h⟩
noncomputable def cM(rs:List Rw)(C:List (List Nat))(x:List Nat):List Int:=C.map fun y=>(nrQ (C.map (tE rs)) (tE rs (x++y)):Int)
section
variable{rs:List Rw}{sg:Nat}{C:List (List Nat)}
theorem aOP(M:Mach rs sg)(hC:C=cI rs [[]] (Mb.c8 (sgT sg).cps.toList C))(hS:∀ z∈C,bC sg z/\z.length<=300)(hl:C.length<=40){x:List Nat}(hx:x∈C):dO [.d (tE rs x),.d (.list (C.map (tE rs))),.f (fD (C.map (tE rs)))]=.ok (.d (dD (cM rs C x))):=by
 have hit:aY (.list (C.map (tE rs)))=.ok (C.map (tE rs)):=eJ (by rw[List.length_map];omega)
 have hnd:(C.map (tE rs)).Nodup:=Mb.vI hC
 have hc:=compL_of (fs:=stN 0) (fe:=(sR 1 (eA (a5 2 dZ (aA (vV 2) (aA (vV 0) aH)))))) (ρ0:=[none,some (.f (fD (C.map (tE rs)))),some (.d (tE rs x))]) (d:=tE rs) (g:=fun y=>.int (nrQ (C.map (tE rs)) (tE rs (x++y)):Int)) (xs:=C) fun y hy=>⟨_,rfl,by
  have S:=pO (hS x hx) (hS y hy)
  have hb:=aNC M S
  have hs:=aGW (yN M S) (rW M fun z hz=>(hS z hz).1)
  have hg:=aKF hnd (mD M hC S)
  generalize fD (C.map (tE rs))=NN at *
  simp[hb,hs,hg]⟩
 have hq:jG (C.map fun y=>PyData.int (nrQ (C.map (tE rs)) (tE rs (x++y)):Int))=some (cM rs C x):=by
  have:=pN (cM rs C x)
  unfold cM at this ⊢
  rw[List.map_map] at this
  exact this
 unfold dO g9
 generalize (C.map fun y=>PyData.int (nrQ (C.map (tE rs)) (tE rs (x++y)):Int))=PP at *
 generalize C.map (tE rs)=TT at *
 generalize fD TT=NN at *
 simp[hit,fM,hc,hq]
noncomputable def gE(rs:List Rw)(C:List (List Nat)):PyData:=.list (C.map fun x=>dD (cM rs C x))
theorem aEZ:∀ l:List (PyData×Nat),Fl.jR (l.map fun p=>PyData.tuple [p.1,.int (p.2:Int)])=some (l.map fun p=>(p.1,PyData.int (p.2:Int)))
 | []=>rfl
 | a::t=>by
  show (Fl.jR (t.map fun p=>PyData.tuple [p.1,.int (p.2:Int)])).map _=_
  rw[aEZ t];rfl
theorem aKJ(M:Mach rs sg)(hg:cZ [.d (bE rs),.d (.int 40)]=.ok (.d (.list (C.map (enD rs)))))(hC:C=cI rs [[]] (Mb.c8 (sgT sg).cps.toList C))(hS:∀ z∈C,bC sg z/\z.length<=300)(hl:C.length<=40):bW [.d (bE rs)]=.ok (.d (gE rs C)):=by
 have hnd:(C.map (tE rs)).Nodup:=Mb.vI hC
 have hi1:aY (.list (C.map (enD rs)))=.ok (C.map (enD rs)):=eJ (by rw[List.length_map];omega)
 have hc1:compL (stT [(stN 0),(stN 1)]) cS (eV 1) [none,none] (C.map (enD rs))=.ok (C.map (tE rs)):=compL_of (d:=enD rs) (g:=tE rs) (xs:=C) fun z _=>⟨[some (.d (stD z)),some (.d (tE rs z))],by simp[enD],by simp⟩
 have hit:aY (.list (C.map (tE rs)))=.ok (C.map (tE rs)):=eJ (by rw[List.length_map];omega)
 have hn:=aHD hit
 have hc2:compL (stT [(stN 0),(stN 1)]) cS (bR (aA (eV 1) (aA (eV 0) aH))) [none,none] ((C.map (tE rs)).zipIdx.map rM)=.ok ((C.map (tE rs)).zipIdx.map fun p=>PyData.tuple [p.1,.int (p.2:Int)]):=
  compL_of (d:=rM) (g:=fun p=>PyData.tuple [p.1,.int (p.2:Int)]) (xs:=(C.map (tE rs)).zipIdx) fun p _=>⟨[some (.d (.int (p.2:Int))),some (.d p.1)],by simp[rM],by simp⟩
 have hp:=aEZ (C.map (tE rs)).zipIdx
 rw[show (C.map (tE rs)).zipIdx.map (fun p=>(p.1,PyData.int (p.2:Int)))=fD (C.map (tE rs)) from rfl] at hp
 have hpa:Fl.dH [] (fD (C.map (tE rs)))=.ok (fD (C.map (tE rs))):=tK (fD (C.map (tE rs))) [] (by
  rw[List.nil_append,n6]
  exact rW M fun z hz=>(hS z hz).1) (by rw[List.nil_append,n6];exact hnd) (by rw[List.nil_append,aJZ,List.length_map];omega)
 have hc3:compL (stN 0) cS (eA (a5 3 dO (aA (vV 0) (aA (vV 1) (aA (vV 2) aH))))) [none,some (.d (.list (C.map (tE rs)))),some (.f (fD (C.map (tE rs))))] (C.map (tE rs))=.ok (C.map fun x=>dD (cM rs C x)):=compL_of (d:=tE rs) (g:=fun x=>dD (cM rs C x)) (xs:=C) fun x hx=>⟨[some (.d (tE rs x)),some (.d (.list (C.map (tE rs)))),some (.f (fD (C.map (tE rs))))],by simp,by
  have:=aOP M hC hS hl hx
  generalize fD (C.map (tE rs))=NN at *
  generalize C.map (tE rs)=TT at *
  simp[this]⟩
 unfold bW gZ gE
 generalize (C.map fun x=>dD (cM rs C x))=PP at *
 generalize fD (C.map (tE rs))=NN at *
 generalize ((C.map (tE rs)).zipIdx.map fun p=>PyData.tuple [p.1,.int (p.2:Int)])=YY at *
 generalize (C.map (tE rs)).zipIdx.map rM=ZZ at *
 generalize C.map (tE rs)=TT at *
 generalize C.map (enD rs)=EE at *
 simp[hg,hi1,hc1,hn,hc2,hp,hpa,hit,fM,hc3,fz,aHE,aKH]
end
theorem both18{rs:List Rw}{sg:Nat}(M:Mach rs sg) :
  (eG [.d (bE rs)]=.ex ⟨"TooMany",[]⟩/\bW [.d (bE rs)]=.ex ⟨"TooMany",[]⟩) \/
  ∃ C,eG [.d (bE rs)]=.ok (.d (.list (C.map (enD rs))))/\C=cI rs [[]] (Mb.c8 (sgT sg).cps.toList C)/\(∀ z∈C,bC sg z/\z.length<=300)/\C.length<=300/\[[]] <+: C /\
   ((40 < C.length/\bW [.d (bE rs)]=.ex ⟨"TooMany",[]⟩)\/(C.length<=40/\bW [.d (bE rs)]=.ok (.d (gE rs C)))):=by
 have f3:few ((300:Nat):Int):=by decide
 have f4:few ((40:Nat):Int):=by decide
 have ex40:cZ [.d (bE rs),.d (.int 40)]=.ex ⟨"TooMany",[]⟩->bW [.d (bE rs)]=.ex ⟨"TooMany",[]⟩:=fun h=>by
  unfold bW gZ
  simp[h]
 rcases F_gathM M f3 (by decide) (by decide) with ⟨h,f,hf,nd,hS⟩|⟨C,h,hC,hS,hl,hp⟩
 ·refine .inl ⟨?_,?_⟩
  ·have h:cZ [.d (bE rs),.d (.int 300)]=.ex ⟨"TooMany",[]⟩:=h
   unfold eG jB
   simp[h]
  ·rcases F_gathM M f4 (by decide) (by decide) with ⟨h4,_⟩|⟨C4,h4,hC4,hS4,hl4,hp4⟩
   ·exact ex40 h4
   ·have:=qY M hC4 nd hS
    omega
 ·have h:cZ [.d (bE rs),.d (.int 300)]=.ok (.d (.list (C.map (enD rs)))):=h
  refine .inr ⟨C,by unfold eG jB;simp[h],hC,hS,hl,hp,?_⟩
  rcases F_gathM M f4 (by decide) (by decide) with ⟨h4,f,hf,nd,hSf⟩|⟨C4,h4,hC4,hS4,hl4,hp4⟩
  ·refine .inl ⟨?_,ex40 h4⟩
   have:=qY M hC nd hSf
   omega
  ·have e:C4=C:=by
    have a1:=Mb.oE (yZ M.sg1 M.sg3) hC 300
    have a2:=Mb.oE (yZ M.sg1 M.sg3) hC4 300
    rw[List.filter_eq_self.mpr (fun z hz=>decide_eq_true (hS z hz).2)] at a1
    rw[List.filter_eq_self.mpr (fun z hz=>decide_eq_true (hS4 z hz).2)] at a2
    rw[a1,a2]
   subst e
   have h4:cZ [.d (bE rs),.d (.int 40)]=.ok (.d (.list (C4.map (enD rs)))):=h4
   exact .inr ⟨hl4,aKJ M h4 hC hS hl4⟩
end Mc
namespace Mc
open PySem L2 PyProof.Rows Fl
theorem vM(j m a:Nat)(f:Sg->R (List PyData))(cl:List Str)(fs:Sg->R Fw)(ρ:Sg):tD j m a f cl fs ρ=match ρ[a]? with
 | some (some (.g k n G))=>(match f ρ with
  | .ok ds=>if k<=m/\ds.length=n then (match G ds with
   | .bad=>.bad
   | .ok d=>.ok (.nx (ρ.set j (some (.d d))))
   | .ex e=>if cl.contains e.c=true then fs ρ else .bad) else .bad
  | _=>.bad)
 | _=>.bad:=id rfl
theorem oB(k n:Nat)(G:List A->R A)(ρ:Sg):wE k n G ρ=.ok (.g k n (gF G)):=id rfl
theorem aAU{G:List A->R A}{m d:PyData}(h:G [.d m]=.ok (.d d)):c9 [.g 7 1 (gF G),.d m]=.ok (.d d):=by
 have e:gF G [m]=.ok d:=by
  unfold gF
  rw[List.map_cons,List.map_nil,h];rfl
 unfold c9 gD
 simp[vM,e]
theorem uQ{G:List A->R A}{m:PyData}(h:G [.d m]=.ex ⟨"TooMany",[]⟩):c9 [.g 7 1 (gF G),.d m]=.ok (.d .none):=by
 have e:gF G [m]=.ex ⟨"TooMany",[]⟩:=by
  unfold gF
  rw[List.map_cons,List.map_nil,h];rfl
 unfold c9 gD
 simp[vM,e]
noncomputable def sqB:Sg->R Fw:=(aK (aCC 2 (sIf (bOr (mE (e1 asB (e1 (fV "list") (rV 2)))) (e1 asB (e2 dNe (e1 dLen (rV 2)) (rV 1)))) (bH (vD (eC (.bool false)))) sNx))
 (sIf (mE (e1 asB (e1 dAll (eL (cK [none,some 1] (e1 aY (rV 2)) (stN 0) cS (t4 (eA (a5 1 eS (aA (vV 0) aH))) (eCh dLe dLt (eC (.int 0)) (rV 0) (rV 1)))))))) (bH (vD (eC (.bool false)))) sNx))
theorem aND:hJ=(aK (sIf (bOr (mE (e1 asB (e1 (fV "list") (rV 0)))) (e1 asB (e2 dNe (e1 dLen (rV 0)) (rV 1)))) (bH (vD (eC (.bool false)))) sNx)
 (aK (i9 (e1 aY (eV 0)) (stN 2) sqB)
 (bH (vD (eC (.bool true)))))):=id rfl
theorem aKK(r:List Int):rZ (dD r)=.list (r.map .int):=rfl
theorem aE0(i:Int):dNe (.int i) (.int i)=.ok (.bool false):=by rw[aEE (kK _) (kK _),aEI];simp
section
variable{rs:List Rw}{sg:Nat}{C:List (List Nat)}
theorem aNE(M:Mach rs sg)(hC:C=cI rs [[]] (Mb.c8 (sgT sg).cps.toList C))(hS:∀ z∈C,bC sg z/\z.length<=300){x y:List Nat}(hx:x∈C)(hy:y∈C):nrQ (C.map (tE rs)) (tE rs (x++y)) < C.length:=by
 have:=List.idxOf_lt_length_of_mem (mD M hC (pO (hS x hx) (hS y hy)))
 rw[List.length_map] at this
 exact this
theorem aNF(M:Mach rs sg)(hC:C=cI rs [[]] (Mb.c8 (sgT sg).cps.toList C))(hS:∀ z∈C,bC sg z/\z.length<=300)(hl:C.length<=40){x:List Nat}(hx:x∈C){l:PyData} :
  sqB [some (.d l),some (.d (.int (C.length:Int))),some (.d (dD (cM rs C x)))]=.ok (.nx [some (.d l),some (.d (.int (C.length:Int))),some (.d (.list ((cM rs C x).map .int)))]):=by
 have hu:uM 2 [some (.d l),some (.d (.int (C.length:Int))),some (.d (dD (cM rs C x)))]=[some (.d l),some (.d (.int (C.length:Int))),some (.d (.list ((cM rs C x).map .int)))]:=rfl
 have h1:gL "list" "list"=true:=by decide
 have hrl:(cM rs C x).length=C.length:=by unfold cM;rw[List.length_map]
 have hll:dLen (.list ((cM rs C x).map .int))=.ok (.int (C.length:Int)):=by rw[mY,List.length_map,hrl]
 have hne:=aE0 (C.length:Int)
 have hit:aY (.list ((cM rs C x).map .int))=.ok ((cM rs C x).map .int):=eJ (by rw[List.length_map,hrl];omega)
 have hc:compL (stN 0) cS (t4 (eA (a5 1 eS (aA (vV 0) aH))) (eCh dLe dLt (eC (.int 0)) (rV 0) (rV 1))) [none,some (.d (.int (C.length:Int)))] ((cM rs C x).map .int)=.ok (List.replicate C.length (.bool true)):=by
  unfold cM
  rw[List.map_map]
  show compL _ _ _ _ (C.map fun y=>PyData.int (nrQ (C.map (tE rs)) (tE rs (x++y)):Int))=_
  rw[compL_of (d:=fun y=>PyData.int (nrQ (C.map (tE rs)) (tE rs (x++y)):Int)) (g:=fun _=>.bool true) (xs:=C) fun y hy=>⟨_,rfl,by
   have hlt:=aNE M hC hS hx hy
   generalize nrQ (C.map (tE rs)) (tE rs (x++y))=k at *
   have h0:(0:Int)<=(k:Int):=by omega
   have h2:(k:Int) < (C.length:Int):=by omega
   simp[aJV,h0,h2,hlt]⟩,List.map_const']
 have hall:=aJW C.length
 generalize (cM rs C x).map PyData.int=rw0 at *
 unfold sqB
 rw[bU,aKI,hu]
 simp[h1,hll,hne,hit,fM,hc,hall]
theorem aPO(M:Mach rs sg)(hC:C=cI rs [[]] (Mb.c8 (sgT sg).cps.toList C))(hS:∀ z∈C,bC sg z/\z.length<=300)(hl:C.length<=40):eK [.d (gE rs C),.d (.int (C.length:Int))]=.ok (.d (.bool true)):=by
 have h1:gL "list" "list"=true:=by decide
 have hll:dLen (.list (C.map fun x=>dD (cM rs C x)))=.ok (.int (C.length:Int)):=by rw[mY,List.length_map]
 have hne:=aE0 (C.length:Int)
 have hit:aY (.list (C.map fun x=>dD (cM rs C x)))=.ok (C.map fun x=>dD (cM rs C x)):=eJ (by rw[List.length_map];omega)
 obtain ⟨ρ1,f1,u,rfl⟩:=iH (fs:=stN 2) (fb:=sqB) (d:=fun x=>dD (cM rs C x)) (xs:=C) (ρ:=[some (.d (.list (C.map fun x=>dD (cM rs C x)))),some (.d (.int (C.length:Int))),none])
  (fun i ρ=>∃ u,ρ=[some (.d (.list (C.map fun x=>dD (cM rs C x)))),some (.d (.int (C.length:Int))),u]) ⟨none,rfl⟩ fun i x ρ hx zz0=>by
  obtain ⟨u,e⟩:=zz0
  exact ⟨_,_,by rw[e];rfl,.inl (aNF M hC hS hl (List.mem_of_getElem? hx)),_,rfl⟩
 unfold eK gE
 rw[aND]
 generalize (C.map fun x=>dD (cM rs C x))=PP at *
 simp[h1,hll,hne,hit,f1]
end
def ppD(p:Nat×Nat):PyData:=.tuple [.int (p.1:Int),.int (p.2:Int)]
noncomputable def prB:Sg->R Fw:=(aK (b9 4 (vD (e2 dDiv (e2 dMod (e2 cC (e2 dMul (e2 dMod (rV 3) (eC (.int 2147483647))) (eC (.int 48271))) (eC (.int 7919))) (eC (.int 2147483647))) (eC (.int 64)))))
 (gK 2 (bR (aA (e2 dMod (rV 4) (rV 1)) (aA (e2 dMod (e2 dDiv (rV 4) (eC (.int 64))) (rV 1)) aH)))))
theorem aNG:iL=(aK (dM 2 (e2 pA (eL (cK [none] (eO (rV 1)) (stN 0) cS (bR (aA (eC (.int 0)) (aA (eV 0) aH))))) (eL (cK [none] (eO (rV 1)) (stN 0) cS (bR (aA (eV 0) (aA (eC (.int 0)) aH)))))))
 (aK (sIf (e1 asB (e2 dLe (rV 1) (eC (.int 8)))) (bH (vD (eL (cK [none,some 1] (eO (e2 dMul (rV 1) (rV 1))) (stN 0) cS (bR (aA (e2 dDiv (rV 0) (rV 1)) (aA (e2 dMod (rV 0) (rV 1)) aH))))))) sNx)
 (aK (i9 (e1 aY (eSl dSl (rV 0) (oSo (eC (.int 5))) (oSo (eC (.int 63))))) (stN 3) prB)
 (sFz 2 (bH (vV 2)))))):=id rfl
theorem aOQ{ns:List Int}{n:Nat}(hns:ns.length<=63)(h1:1<=n)(h4:n<=40):∃ ps:List (Nat×Nat),(∀ p∈ps,p.1 < n/\p.2 < n)/\ps.length<=1000000/\eU [.d (fC ns),.d (.int (n:Int))]=.ok (.d (.list (ps.map ppD))):=by
 have hr:=iR (n:=n) (by omega)
 have c1:=compL_of (fs:=stN 0) (fe:=(bR (aA (eC (.int 0)) (aA (eV 0) aH)))) (ρ0:=[none]) (d:=fun i:Nat=>PyData.int (i:Int)) (g:=fun i:Nat=>ppD (0,i)) (xs:=List.range n) fun i _=>⟨_,rfl,by simp[ppD]⟩
 have c2:=compL_of (fs:=stN 0) (fe:=(bR (aA (eV 0) (aA (eC (.int 0)) aH)))) (ρ0:=[none]) (d:=fun i:Nat=>PyData.int (i:Int)) (g:=fun i:Nat=>ppD (i,0)) (xs:=List.range n) fun i _=>⟨_,rfl,by simp[ppD]⟩
 have hcat:pA (.list ((List.range n).map fun i:Nat=>ppD (0,i))) (.list ((List.range n).map fun i:Nat=>ppD (i,0)))=.ok (((List.range n).map (fun i=>(0,i))++(List.range n).map (fun i=>(i,0))).map ppD):=by
  show (if _<=sizeLine then R.ok _ else .bad)=_
  rw[if_pos (by rw[List.length_map,List.length_map,List.length_range,cY];omega),List.map_append,List.map_map,List.map_map];rfl
 have hn0:(0:Int) < (n:Int):=by omega
 unfold eU
 rw[aNG]
 by_cases h8:n<=8
 ·have hr2:=iR (n:=n * n) (by have:=Nat.mul_le_mul h8 h8;omega)
  have c3:=compL_of (fs:=stN 0) (fe:=(bR (aA (e2 dDiv (rV 0) (rV 1)) (aA (e2 dMod (rV 0) (rV 1)) aH)))) (ρ0:=[none,some (.d (.int (n:Int)))]) (d:=fun i:Nat=>PyData.int (i:Int)) (g:=fun i:Nat=>ppD (i / n,i % n)) (xs:=List.range (n * n)) fun i _=>⟨_,rfl,by
   have e1:dDiv (.int (i:Int)) (.int (n:Int))=.ok (.int ((i / n:Nat):Int)):=fN hn0 (by omega)
   have e2:dMod (.int (i:Int)) (.int (n:Int))=.ok (.int ((i % n:Nat):Int)):=cU hn0
   simp[ppD,e1,e2]⟩
  refine ⟨(List.range (n * n)).map fun i=>(i / n,i % n),fun p hp=>?_,by rw[List.length_map,List.length_range];have:=Nat.mul_le_mul h8 h8;omega,?_⟩
  ·obtain ⟨i,hi,rfl⟩:=List.mem_map.mp hp
   have hi:=List.mem_range.mp hi
   exact ⟨Nat.div_lt_of_lt_mul hi,Nat.mod_lt _ h1⟩
  ·have h8':(n:Int)<=8:=by omega
   rw[List.map_map]
   show _=R.ok (A.d (PyData.list ((List.range (n * n)).map fun i:Nat=>ppD (i / n,i % n))))
   generalize ((List.range n).map (fun i=>(0,i))++(List.range n).map (fun i=>(i,0))).map ppD=L0 at *
   generalize ((List.range n).map fun i:Nat=>ppD (0,i))=L1 at *
   generalize ((List.range n).map fun i:Nat=>ppD (i,0))=L2' at *
   generalize ((List.range (n * n)).map fun i:Nat=>ppD (i / n,i % n))=L3 at *
   rw[show (((n * n:Nat):Int))=(n:Int) * (n:Int) by simp] at hr2
   have hmul:dMul (.int (n:Int)) (.int (n:Int))=.ok (.int ((n:Int) * (n:Int))):=lK (by omega) (by omega)
   simp[hr,fM,c1,c2,hcat,h8',hmul,hr2,c3]
 ·obtain ⟨ms,hm,hml⟩:∃ ms:List Int,lB (ns.map PyData.int) (some 5) (some 63)=ms.map PyData.int/\ms.length<=ns.length:=by
   refine ⟨_,by unfold lB;rw[<-List.map_drop,<-List.map_take],?_⟩
   rw[List.length_take,List.length_drop];omega
  have hsl:dSl (fC ns) (some 5) (some 63)=.ok (.list (ms.map .int)):=by
   unfold fC
   rw[aOH,hm]
  have hit:aY (.list (ms.map PyData.int))=.ok (ms.map .int):=eJ (by rw[List.length_map];omega)
  obtain ⟨ρ',f1,ps,u3,u4,rfl,hp,hl⟩:=iH (fs:=stN 3) (fb:=prB) (d:=PyData.int) (xs:=ms) (ρ:=[some (.d (fC ns)),some (.d (.int (n:Int))),some (.l (((List.range n).map (fun i=>(0,i))++(List.range n).map (fun i=>(i,0))).map ppD)),none,none])
   (fun i ρ=>∃ (ps:List (Nat×Nat)) (u3 u4:Option A),ρ=[some (.d (fC ns)),some (.d (.int (n:Int))),some (.l (ps.map ppD)),u3,u4]/\(∀ p∈ps,p.1 < n/\p.2 < n)/\ps.length<=80+i) ⟨_,none,none,rfl,fun p hp=>by
    rcases List.mem_append.mp hp with h|h
    ·obtain ⟨i,hi,rfl⟩:=List.mem_map.mp h
     exact ⟨h1,List.mem_range.mp hi⟩
    ·obtain ⟨i,hi,rfl⟩:=List.mem_map.mp h
     exact ⟨List.mem_range.mp hi,h1⟩,by rw[List.length_append,List.length_map,List.length_map,List.length_range];omega⟩ fun i x ρ hx zz0=>by
   obtain ⟨ps,u3,u4,e,hp,hl⟩:=zz0
   have hi:i < ms.length:=(List.getElem?_eq_some_iff.mp hx).1
   have m1:∀ y:Int,dMod (.int y) (.int 2147483647)=.ok (.int (y % 2147483647)):=fun y=>cU (by decide)
   have d1:∀ y:Int,dDiv (.int y) (.int 64)=.ok (.int (y / 64)):=fun y=>fN (by decide) (by decide)
   have mn:∀ y:Int,dMod (.int y) (.int (n:Int))=.ok (.int (((y % (n:Int)).toNat:Nat):Int)):=fun y=>by
    rw[cU hn0,Int.toNat_of_nonneg (Int.emod_nonneg _ (by omega))]
   have hmul:∀ a:Int,dMul (.int a) (.int 48271)=.ok (.int (a * 48271)):=fun a=>lK (by decide) (by decide)
   have lt:∀ y:Int,(y % (n:Int)).toNat < n:=fun y=>by
    have:=Int.emod_lt_of_pos y hn0
    have:=Int.emod_nonneg y (show (n:Int)≠0 by omega)
    omega
   have hlt:ps.length < 16777216:=by omega
   generalize hmx:(x % 2147483647 * 48271+7919) % 2147483647 / 64=mx
   refine ⟨_,_,by rw[e];rfl,.inl ?_,ps++[((mx % (n:Int)).toNat,(mx / 64 % (n:Int)).toNat)],some (.d (.int x)),some (.d (.int mx)),rfl,fun p h=>?_,by rw[List.length_append,List.length_singleton];omega⟩
   ·rw[List.map_append,List.map_singleton]
    simp[prB,m1,d1,mn,hmul,hmx,hlt,ppD]
   ·rcases List.mem_append.mp h with h|h
    ·exact hp p h
    ·rw[List.mem_singleton.mp h];exact ⟨lt _,lt _⟩
  refine ⟨ps,hp,by omega,?_⟩
  have h8':¬ (n:Int)<=8:=by omega
  generalize ((List.range n).map (fun i=>(0,i))++(List.range n).map (fun i=>(i,0))).map ppD=L0 at *
  generalize ((List.range n).map fun i:Nat=>ppD (0,i))=L1 at *
  generalize ((List.range n).map fun i:Nat=>ppD (i,0))=L2' at *
  simp[hr,fM,c1,c2,hcat,h8',hsl,hit,f1,fz]
end Mc
namespace Mc
open PySem L2 PyProof.Rows Fl
mutual
def nbD:PyData->Bool
 | .bool _=>false
 | .dict _=>false
 | .list xs=>aHF xs
 | .tuple xs=>aHF xs
 | _=>true
def aHF:List PyData->Bool
 | []=>true
 | x::t=>nbD x && aHF t
end
mutual
theorem aE1:∀ d:PyData,d.canLay0=true->d.eqv d=true
 | .none,_=>by rfl
 | .bool b,_=>by simp[PyData.eqv]
 | .int i,_=>by simp[PyData.eqv]
 | .str x,_=>by simp[PyData.eqv]
 | .list xs,h=>by
  show PyData.eqvAll xs xs=true
  exact uR xs h
 | .tuple xs,h=>by
  show PyData.eqvAll xs xs=true
  exact uR xs h
 | .dict _,h=>by cases h
theorem uR:∀ xs:List PyData,PyData.canLayAll0 xs=true->PyData.eqvAll xs xs=true
 | [],_=>by rfl
 | x::t,h=>by
  have h':(x.canLay0 && PyData.canLayAll0 t)=true:=h
  rw[Bool.and_eq_true] at h'
  show (x.eqv x && PyData.eqvAll t t)=true
  rw[aE1 x h'.1,uR t h'.2];rfl
end
theorem aNH{d:PyData}(h:SeqAt.shaped d=true):d.canLay0=true:=by
 have h':(d.canLay0 && decide (d.depth<=64))=true:=h
 rw[Bool.and_eq_true] at h'
 exact h'.1
structure Cp(d:PyData):Prop where
 nb:nbD d=true
 sh:SeqAt.shaped d=true
theorem aNI{x:PyData}(h:SeqAt.shaped x=true):dEq x x=.ok (.bool true):=by rw[aED h h,aE1 x (aNH h)]
end Mc
namespace Mc
open PySem L2 PyProof.Rows Fl
theorem aOR:d4=lM:=id rfl
theorem aOS{rs:List Rw}{sg:Nat}{z:List Nat}(M:Mach rs sg)(S:bC sg z):d4 [.d (bE rs),.d (stD z)]=.ok (.d (tE rs z)):=by
 have:=aM1 (z:=⟨z.toArray⟩) M (by simpa using S)
 rw[aOR,show stD z=.str ⟨z.toArray⟩ from rfl,this,gO M z S]
theorem qH:∀ {xs:List PyData},(∀ x∈xs,nlD x=true)->uK xs=true
 | [],_=>rfl
 | x::t,h=>by
  show (nlD x && uK t)=true
  rw[h x List.mem_cons_self,qH fun y hy=>h y (List.mem_cons_of_mem _ hy)];rfl
theorem aH6(t:Tn):nlD t.d=true:=by cases t<;>rfl
theorem aKL(rs:List Rw):nlD (bE rs)=true:=by
 refine qH fun x hx=>?_
 obtain ⟨r,_,rfl⟩:=List.mem_map.mp hx
 refine qH fun y hy=>?_
 rcases List.mem_cons.mp hy with q|hy
 ·rw[q];exact aH6 _
 rcases List.mem_cons.mp hy with q|hy
 ·rw[q]
  refine qH fun z hz=>?_
  obtain ⟨c,_,rfl⟩:=List.mem_map.mp hz
  rfl
 ·rw[List.mem_singleton.mp hy];exact aH6 _
theorem vN:∀ R:List (List Int),m7 (R.map dD)=some R
 | []=>rfl
 | r::t=>by
  show (match jG (r.map .int),m7 (t.map dD) with|some ns,some q=>some (ns::q)|_,_=>none)=_
  rw[pN,vN t]
theorem aHG(R:List (List Int)):rZ (.list (R.map dD))=.list (R.map kM):=by
 show PyData.list ((R.map dD).map aCB)=_
 rw[List.map_map];rfl
theorem aKM{x y:List Nat}(h:x.length+y.length<=1000):cC (stD x) (stD y)=.ok (stD (x++y)):=by
 unfold stD
 rw[aEF (by show x.toArray.size+y.toArray.size<=16777216;rw[List.size_toArray,List.size_toArray];omega)]
 congr 2
 show (⟨x.toArray++y.toArray⟩:Str)=_
 simp
theorem aKN(R:List (List Int)):SeqAt.shaped (.list (R.map kM))=true:=Sh.shaped (n:=2) (sh_lst fun x hx=>by
 obtain ⟨r,_,rfl⟩:=List.mem_map.mp hx
 exact sh_lst fun y hy=>by
  obtain ⟨i,_,rfl⟩:=List.mem_map.mp hy
  exact oS _ _) (by decide)
noncomputable def plB:Sg->R Fw:=(sIf (e1 asB (e2 dNe (e2 dIx (e2 dIx (rV 3) (e2 dIx (e1 uL (e2 dIx (rV 4) (rV 5))) (rV 6))) (eC (.int 1))) (eA (a5 2 d4 (aA (vV 2) (aA (vD (e2 cC (e2 dIx (e2 dIx (rV 3) (rV 5)) (eC (.int 0))) (e2 dIx (e2 dIx (rV 3) (rV 6)) (eC (.int 0))))) aH)))))) (bH (vD (eC (.bool false)))) sNx)
theorem aNJ{rs:List Rw}{sg:Nat}{C:List (List Nat)}(M:Mach rs sg)(hC:C=cI rs [[]] (Mb.c8 (sgT sg).cps.toList C))(hS:∀ z∈C,bC sg z/\z.length<=300)(hl:C.length<=40){i j:Nat}(hi:i < C.length)(hj:j < C.length){a0 a1 a7:Option A} :
  plB [a0,a1,some (.d (bE rs)),some (.d (.list (C.map (enD rs)))),some (.d (gE rs C)),some (.d (.int (i:Int))),some (.d (.int (j:Int))),a7]=.ok (.nx [a0,a1,some (.d (bE rs)),some (.d (.list (C.map (enD rs)))),some (.d (gE rs C)),some (.d (.int (i:Int))),some (.d (.int (j:Int))),a7]):=by
 obtain ⟨x,ex⟩:∃ x,C[i]? = some x:=⟨C[i],List.getElem?_eq_getElem hi⟩
 obtain ⟨y,ey⟩:∃ y,C[j]? = some y:=⟨C[j],List.getElem?_eq_getElem hj⟩
 have hx:=List.mem_of_getElem? ex
 have hy:=List.mem_of_getElem? ey
 have S:=pO (hS x hx) (hS y hy)
 have hat:=tG (mD M hC S)
 have i1:dIx (gE rs C) (.int (i:Int))=.ok (dD (cM rs C x)):=kJ (eN (by rw[List.getElem?_map,ex];rfl))
 have i2:dIx (.list ((cM rs C x).map .int)) (.int (j:Int))=.ok (.int (nrQ (C.map (tE rs)) (tE rs (x++y)):Int)):=kJ (eN (by unfold cM;rw[List.getElem?_map,List.getElem?_map,ey];rfl))
 rw[List.getElem?_map] at hat
 cases ew:C[nrQ (C.map (tE rs)) (tE rs (x++y))]? with
 | none=>rw[ew] at hat;cases hat
 | some w=>
  rw[ew] at hat
  have hw:tE rs w=tE rs (x++y):=Option.some.inj hat
  have i3:dIx (.list (C.map (enD rs))) (.int (nrQ (C.map (tE rs)) (tE rs (x++y)):Int))=.ok (enD rs w):=kJ (eN (by rw[List.getElem?_map,ew];rfl))
  have i4:dIx (enD rs w) (.int 1)=.ok (tE rs (x++y)):=by rw[<-hw];rfl
  have i5:dIx (.list (C.map (enD rs))) (.int (i:Int))=.ok (enD rs x):=kJ (eN (by rw[List.getElem?_map,ex];rfl))
  have i6:dIx (.list (C.map (enD rs))) (.int (j:Int))=.ok (enD rs y):=kJ (eN (by rw[List.getElem?_map,ey];rfl))
  have i7:dIx (enD rs x) (.int 0)=.ok (stD x):=rfl
  have i8:dIx (enD rs y) (.int 0)=.ok (stD y):=rfl
  have ha:=aKM (x:=x) (y:=y) (by have:=(hS x hx).2;have:=(hS y hy).2;omega)
  have ht:=aOS M S
  have hne:dNe (tE rs (x++y)) (tE rs (x++y))=.ok (.bool false):=by rw[gO M _ S];exact aMY _
  generalize nrQ (C.map (tE rs)) (tE rs (x++y))=k at *
  generalize stD (x++y)=sxy at *
  generalize tE rs (x++y)=txy at *
  generalize enD rs w=ew' at *
  generalize enD rs x=ex' at *
  generalize enD rs y=ey' at *
  generalize stD x=sx at *
  generalize stD y=sy at *
  generalize gE rs C=PP at *
  generalize C.map (enD rs)=EE at *
  generalize hrr:cM rs C x=rr at *
  simp[plB,i1,aKK,i2,i3,i4,i5,i6,i7,i8,ha,ht,hne]
theorem aHH:∀ ns:List Int,ns.length<=63->aCF [.d (.list (ns.map .int))]=.ok (.d (.bool true)):=by
 intro ns hns
 rw[show PyData.list (ns.map .int)=fC ns from rfl]
 obtain ⟨v,hv⟩:=yE ns 0
 obtain ⟨n,hn,n1,n3⟩:∃ n:Nat,1+v % 3=(n:Int)/\1<=n/\n<=3:=⟨(1+v % 3).toNat,by omega,by omega,by omega⟩
 obtain ⟨sg,hs,s1,s2⟩:∃ sg:Nat,1+v / 3 % 2=(sg:Int)/\1<=sg/\sg<=2:=⟨(1+v / 3 % 2).toNat,by omega,by omega,by omega⟩
 obtain ⟨rs,e3,M,hl⟩:=aMW (ns:=ns) (at':=1) (n:=n) (sg:=sg) (by decide) n1 (by omega) s1 (by omega)
 have k3:∀ y:Int,dMod (.int y) (.int 3)=.ok (.int (y % 3)):=fun y=>cU (by decide)
 have k2:∀ y:Int,dMod (.int y) (.int 2)=.ok (.int (y % 2)):=fun y=>cU (by decide)
 have j3:∀ y:Int,dDiv (.int y) (.int 3)=.ok (.int (y / 3)):=fun y=>fN (by decide) (by decide)
 unfold aCF aCE
 rcases both18 M with ⟨h,hp⟩|⟨C,h,hC,hS,hl3,hpre,hpr⟩
 ·have t1:=uQ h
  have t2:=uQ hp
  simp[hv,k3,k2,j3,hn,hs,e3,oB,t1,t2,fU]
 ·have t1:=aAU h
  have nn:fU (.list (C.map (enD rs)))=false:=rfl
  have hll:dLen (.list (C.map (enD rs)))=.ok (.int (C.length:Int)):=by rw[mY,List.length_map]
  rcases hpr with ⟨h40,hp⟩|⟨h40,hp⟩
  ·have t2:=uQ hp
   have hgt:(40:Int) < (C.length:Int):=by omega
   simp[hv,k3,k2,j3,hn,hs,e3,oB,t1,t2,nn,hll,hgt,fU]
  ·have t2:=aAU hp
   have hgt:¬ (40:Int) < (C.length:Int):=by omega
   have hsq:=aPO M hC hS h40
   have c1:1<=C.length:=by
    obtain ⟨t,ht⟩:=hpre
    rw[<-ht];simp
   obtain ⟨ps,hps,hpl,epr⟩:=aOQ (n:=C.length) hns c1 h40
   have hit:=eJ (xs:=ps.map ppD) (by rw[List.length_map];omega)
   obtain ⟨ρ1,f1,u5,u6,rfl⟩:=iH (fs:=stT [(stN 5),(stN 6)]) (fb:=plB) (d:=ppD) (xs:=ps) (ρ:=[some (.d (fC ns)),some (.d (.int v)),some (.d (bE rs)),some (.d (.list (C.map (enD rs)))),some (.d (gE rs C)),none,none,none])
    (fun i ρ=>∃ u5 u6,ρ=[some (.d (fC ns)),some (.d (.int v)),some (.d (bE rs)),some (.d (.list (C.map (enD rs)))),some (.d (gE rs C)),u5,u6,none]) ⟨none,none,rfl⟩ fun i p ρ hp zz0=>by
    obtain ⟨u5,u6,e⟩:=zz0
    obtain ⟨p1,p2⟩:=hps p (List.mem_of_getElem? hp)
    exact ⟨_,_,by rw[e];simp[ppD],.inl (aNJ M hC hS h40 p1 p2),_,_,rfl⟩
   have clr:yV 4 7 2 (bH (vD (e2 dEq (e1 uL (eA (a5 1 bW (aA (vV 2) aH)))) (rV 7)))) [some (.d (fC ns)),some (.d (.int v)),some (.d (bE rs)),some (.d (.list (C.map (enD rs)))),some (.d (gE rs C)),u5,u6,none]=.ok (.rt (.d (.bool true))):=by
    have hR:gE rs C=.list ((C.map (cM rs C)).map dD):=by unfold gE;rw[List.map_map];rfl
    have hrw:=vN (C.map (cM rs C))
    have hun:=aHG (C.map (cM rs C))
    have heq:=aNI (aKN (C.map (cM rs C)))
    rw[hR] at hp ⊢
    obtain ⟨r,rows,hrr⟩:∃ r rows,C.map (cM rs C)=r::rows:=by
     cases hc:C.map (cM rs C) with
     | nil=>exact absurd c1 (by rw[List.map_eq_nil_iff.mp hc];decide)
     | cons r rows=>exact ⟨r,rows,rfl⟩
    have hlen:((C.map (cM rs C)).map dD).length<=16777216:=by rw[List.length_map,List.length_map];omega
    rw[hrr] at hrw hun heq hlen hp ⊢
    unfold yV
    simp only[List.getElem?_cons_zero,List.getElem?_cons_succ]
    rw[hrw]
    simp only
    rw[if_pos ⟨hlen,aKL rs,by decide,by decide,by simp,by simp⟩]
    have hrep:(((List.replicate [some (A.d (fC ns)),some (.d (.int v)),some (.d (bE rs)),some (.d (.list (C.map (enD rs)))),some (.d (.list ((r::rows).map dD))),u5,u6,none].length (none:Option A)).set 2 (some (.d (bE rs)))).set 7 (some (.d (.list ((r::rows).map kM)))))=[none,none,some (.d (bE rs)),none,none,none,none,some (.d (.list ((r::rows).map kM)))]:=rfl
    rw[hrep]
    generalize (r::rows).map dD=TT at *
    generalize (r::rows).map kM=QQ at *
    simp[hp,hun,heq]
   change fnF 8 (aK _ (aK _ (aK _ (aK _ (aK _ (aK _ (aK (i9 _ _ plB) _))))))) _=_
   simp[hv,k3,k2,j3,hn,hs,e3,oB,t1,t2,nn,hll,hgt,hsq,epr,hit,f1,clr]
end Mc
namespace Mc
open PySem L2 PyProof.Rows Fl
section
variable{P:Program}{w:World}{K:Frag}{mg:Str->Option Value}{base:Heap}{TH:Hp}
theorem tL:FnScope ["self","at"] ["self","at"] (aQ (jJ (top 2) 0)):=by constructor<;>first|rfl|decide +kernel
theorem tM{f W C:Addr}{fd:FuncData}(F:Fun K "__init__" "NoStrip.__init__" (jJ (top 2) 0) f fd)(c:SX.ExcC K W C)(n1:PySem.W.findIn K (.ref C) "at"=some none) :
  FnOk P w K mg base CX0 1 f fd ["self","at"] (spI C ["at"]):=by
 refine F.ok tL (fun vs H Q E h=>?_) (fun cdv A outer s H vs Q E hr h=>?_)
 ·obtain ⟨e,xs,rfl,hl,_⟩:=h
  rw[List.length_cons,hl];rfl
 ·obtain ⟨e,xs,rfl,hl,he,q⟩:=h
  obtain ⟨x,rfl⟩:∃ x,xs=[x]:=Mc.bn1 (P:=fun xs=>∃ x,xs=[x]) (fun x=>⟨x,rfl⟩) xs hl
  refine ⟨_,L2.aS (aIL (pv 0) (pv 1) rfl),?_⟩
  refine ⟨_,rfl,_,rfl,e,W,C,rfl,c,n1,.inl ⟨he,fun d hd hne=>?_⟩⟩
  exact q d hd hne
def jH (K : Frag) (mg : Str -> Option Value) : Prop := ∃ W C, SX.ExcC K W C /\ mg "NoStrip" = some (.ref C) /\ PySem.W.findIn K (.ref C) "at" = some none /\
      ∃ fI fdI, Fun K "__init__" "NoStrip.__init__" (jJ (top 2) 0) fI fdI /\ fQ K fdI ["self", "at"] [] /\ PySem.W.findIn K (.ref C) "__init__" = some (some (.ref fI)) /\ PySem.W.typeIn K (.ref fI) = some (.type "function")
theorem uS(h:jH K mg):∃ W C,ErrAt P w K mg base "NoStrip" ["at"] W C:=by
 obtain ⟨W,C,er,m,n1,fI,fdI,FI,bI,aI,tI⟩:=h
 have I:=tM (P:=P) (w:=w) (mg:=mg) (base:=base) FI er n1
 exact ⟨W,C,er,m,fun f hf=>by rw[List.mem_singleton.mp hf];exact n1,fI,fdI,I,aI,tI,bI⟩
theorem aKO(T:Txt w K mg)(hTH:∀ a xs,TH a≠some (HO.lst xs))(Er_NoStrip:jH K mg)(Erp_TooMany:∃ W C,ErrP K mg "TooMany" W C)(D6:DefAt K mg "signs_of" (top 6) ["machine"])(D7:DefAt K mg "cells_of" (top 7) ["machine","number"])(D8:DefAt K mg "checked_by" (top 8) ["signs","strip"])(D9:DefAt K mg "checked" (top 9) ["machine","strip"])(D11:DefAt K mg "still" (top 11) ["rooms"])(D12:DefAt K mg "sign_table" (top 12) ["machine","sign"])(D13:DefAt K mg "gone_out" (top 13) ["one","other","thing","inward"])(D14:DefAt K mg "behind" (top 14) ["one","other"])(D18:DefAt K mg "gathered" (top 18) ["machine","most"])(D19:DefAt K mg "all_tables" (top 19) ["machine"])(D20:DefAt K mg "products_of" (top 20) ["one","tables","numbers"])(D21:DefAt K mg "products" (top 21) ["machine"])(D23:DefAt K mg "_law_whole" (top 23) ["_law_found"])(D26:DefAt K mg "_law_cell" (top 26) ["_law_script","_law_k"])(D27:DefAt K mg "_law_end" (top 27) ["_law_number","_law_rooms"])(D28:DefAt K mg "_law_digit_row" (top 28) ["_law_number","_law_rooms","_law_signs"])(D29:DefAt K mg "_law_mixed_row" (top 29) ["_law_number","_law_rooms","_law_signs"])(D30:DefAt K mg "_law_machine" (top 30) ["_law_script","_law_at","_law_rooms","_law_signs"])(D31:DefAt K mg "_law_within" (top 31) ["_law_machine_here","_law_strip","_law_place","_law_room"])(D32:DefAt K mg "_law_table" (top 32) ["_law_machine_here","_law_strip"])(D33:DefAt K mg "_law_told" (top 33) ["_law_way","_law_machine_here"])(D34:DefAt K mg "_law_square" (top 34) ["_law_found","_law_many"])(D35:DefAt K mg "_law_pairs" (top 35) ["_law_script","_law_many"]){fL:Addr}{fdL:FuncData}(FL:Fun K "law" "law" (top 36) fL fdL):FnOk P w K mg base (CXe P w) 14 fL fdL ["_law_script"] (wC K TH):=by
 obtain ⟨W_NoStrip,C_NoStrip,er_NoStrip⟩:=uS (P:=P) (w:=w) (base:=base) Er_NoStrip
 obtain ⟨Wp_TooMany,Cp_TooMany,erp_TooMany⟩:=Erp_TooMany
 have c_signs_of:=@zE P w K mg base TH T D6
 have c_cells_of:=@zF P w K mg base TH T D7
 have c_checked_by:=vR (P:=P) (w:=w) (base:=base) (TH:=TH) T D8 er_NoStrip
 have c_checked:=@aCG P w K mg base TH T D9 c_checked_by c_signs_of
 have c_still:=@aHA P w K mg base TH T D11
 have c_sign_table:=@vS P w K mg base TH T D12 c_checked c_cells_of
 have c_gone_out:=@zG P w K mg base TH T D13
 have c_behind:=@aEW P w K mg base TH T D14 c_gone_out
 have c_gathered:=zH (P:=P) (w:=w) (base:=base) (TH:=TH) T D18 c_signs_of c_sign_table c_still c_behind erp_TooMany
 have c_all_tables:=@vT P w K mg base TH T D19 c_gathered
 have c_products_of:=@uN P w K mg base TH T D20 c_behind
 have c_products:=@zI P w K mg base TH T D21 c_gathered c_products_of
 have c__law_whole:=@vU P w K mg base TH T D23
 have c__law_cell:=@yX P w K mg base TH T D26
 have c__law_end:=@zJ P w K mg base TH T D27
 have c__law_digit_row:=@qK P w K mg base TH T D28
 have c__law_mixed_row:=@qL P w K mg base TH T D29 c__law_end
 have c__law_machine:=@tJ P w K mg base TH T D30 c__law_digit_row c__law_mixed_row c__law_cell
 have c__law_within:=@uO P w K mg base TH T D31
 have c__law_table:=@vW P w K mg base TH T D32 c__law_within
 have c__law_told:=yY (P:=P) (w:=w) (base:=base) (TH:=TH) T D33 erp_TooMany
 have c__law_square:=@uP P w K mg base TH T D34 c__law_whole
 have c__law_pairs:=@vX P w K mg base TH T D35
 exact aKE (aNA (P:=P) (w:=w) (base:=base) (TH:=TH) T hTH FL c__law_cell c__law_machine c__law_told c_all_tables c_products c__law_square c__law_pairs c__law_table) aHH
end
section
variable{w:World}{K:Frag}{h:Heap}{mg:Str->Option Value}
theorem aNK(X:K.In h)(G:h.Ns mainGlobals mg){t_MOST_MULTIPLIED:Nat}{t_MOST_TABLES:Nat}{t_SIGNS:Nat}(z_all:PySem.W.nsIn K mainGlobals "all"=some none)(z_bool:PySem.W.nsIn K mainGlobals "bool"=some none)(z_dict:PySem.W.nsIn K mainGlobals "dict"=some none)(z_enumerate:PySem.W.nsIn K mainGlobals "enumerate"=some none)(z_int:PySem.W.nsIn K mainGlobals "int"=some none)(z_isinstance:PySem.W.nsIn K mainGlobals "isinstance"=some none)(z_len:PySem.W.nsIn K mainGlobals "len"=some none)(z_list:PySem.W.nsIn K mainGlobals "list"=some none)(z_range:PySem.W.nsIn K mainGlobals "range"=some none)(z_str:PySem.W.nsIn K mainGlobals "str"=some none)(z_tuple:PySem.W.nsIn K mainGlobals "tuple"=some none)(s_MOST_MULTIPLIED:PySem.W.nsIn K mainGlobals "MOST_MULTIPLIED"=some (some (.int 40 t_MOST_MULTIPLIED)))(s_MOST_TABLES:PySem.W.nsIn K mainGlobals "MOST_TABLES"=some (some (.int 300 t_MOST_TABLES)))(s_SIGNS:PySem.W.nsIn K mainGlobals "SIGNS"=some (some (.str "abc" t_SIGNS))):Txt w K mg:=⟨PySem.W.mg_none_of X G z_all,PySem.W.mg_none_of X G z_bool,PySem.W.mg_none_of X G z_dict,PySem.W.mg_none_of X G z_enumerate,PySem.W.mg_none_of X G z_int,PySem.W.mg_none_of X G z_isinstance,PySem.W.mg_none_of X G z_len,PySem.W.mg_none_of X G z_list,PySem.W.mg_none_of X G z_range,PySem.W.mg_none_of X G z_str,PySem.W.mg_none_of X G z_tuple,⟨t_MOST_MULTIPLIED,PySem.W.mg_of X G s_MOST_MULTIPLIED⟩,⟨t_MOST_TABLES,PySem.W.mg_of X G s_MOST_TABLES⟩,⟨t_SIGNS,PySem.W.mg_of X G s_SIGNS⟩⟩
theorem vY(X:K.In h)(G:h.Ns mainGlobals mg){W C fI NC:Addr}{bsC subC:List Value}{nmC qC:Str}{abC:Bool}{snC:List Str}{colC:Option Bool}{ddC:Option Addr}{c0 c1 c2 c3 c5:Option Value}
  {oc:Value} {od an:Option Addr} {osl:Array (Option Value)} {kV doc pm cdv ct:Value}
  (m:PySem.W.nsIn K mainGlobals "NoStrip"=some (some (.ref C)))
  (e1:K.lookup C=some (excClassObj nmC qC C NC bsC (.ref W::SX.fR) true snC subC abC colC ddC c0 c1 c2 c3 c5 "ValueError.__new__"))
  (e2:PySem.W.findIn K (.ref C) "__setattr__"=some (some (.builtin "object.__setattr__"))) (e3:PySem.W.findIn K (.ref C) "__getattribute__"=some (some (.builtin "BaseException.__getattribute__"))) (e4:PySem.W.findIn K (.ref C) "__getattr__"=some none) (e5:PySem.W.findIn K (.ref C) "__class__"=some (some (.builtin "object.__class__")))
  (e6:PySem.W.specialIn K (.builtin "object.__class__") "__get__"=some (some (.builtin "getset_descriptor.__get__"))) (e7:PySem.W.takesIn K (.builtin "object.__class__")=some true) (e8:PySem.W.keepIn K (.ref C)=true)
  (p1:PySem.W.findIn K (.ref C) "at"=some none)
  (i1:PySem.W.findIn K (.ref C) "__init__"=some (some (.ref fI))) (i2:K.lookup fI=some ⟨oc,od,.func (PySem.W.fnOf "__init__" "NoStrip.__init__" (fY (jJ (top 2) 0)) (dN (jJ (top 2) 0)) (aQ (jJ (top 2) 0)) .none kV doc pm an cdv ct),osl⟩) (i3:PySem.W.codeIn K cdv "NoStrip.__init__"=true) (i4:PySem.W.keepIn K (.ref fI)=true) (i5:PySem.W.typeIn K (.ref fI)=some (.type "function")):jH K mg:=by
 have FI:=wP (st:=jJ (top 2) 0) i2 i3 i4
 exact ⟨W,C,zS e1 e2 e3 e4 e5 e6 e7 e8,PySem.W.mg_of X G m,p1,fI,_,FI,FI.binds (ps:=["self","at"]) (fun _ _ _ _ _ _=>Mc.bn2 fun _ _=>rfl),i1,i5⟩
theorem aNL{x:Str}(X:K.In h)(G:h.Ns mainGlobals mg){W C NC:Addr}{bsC subC:List Value}{nmC qC:Str}{abC:Bool}{snC:List Str}{colC:Option Bool}{ddC:Option Addr}{c0 c1 c2 c3 c5:Option Value}{wc:Value}{wd:Option Addr}{cd:ClassData}{wsl:Array (Option Value)}
  (m:PySem.W.nsIn K mainGlobals x=some (some (.ref C)))
  (e1:K.lookup C=some (excClassObj nmC qC C NC bsC (.ref W::SX.fR) true snC subC abC colC ddC c0 c1 c2 c3 c5 "ValueError.__new__"))
  (e2:PySem.W.findIn K (.ref C) "__setattr__"=some (some (.builtin "object.__setattr__"))) (e3:PySem.W.findIn K (.ref C) "__getattribute__"=some (some (.builtin "BaseException.__getattribute__"))) (e4:PySem.W.findIn K (.ref C) "__getattr__"=some none) (e5:PySem.W.findIn K (.ref C) "__class__"=some (some (.builtin "object.__class__")))
  (e6:PySem.W.specialIn K (.builtin "object.__class__") "__get__"=some (some (.builtin "getset_descriptor.__get__"))) (e7:PySem.W.takesIn K (.builtin "object.__class__")=some true) (e8:PySem.W.keepIn K (.ref C)=true)
  (n1:PySem.W.nsOkIn K NC=true) (n2:PySem.W.nsIn K NC "__init__"=some none) (w1:K.lookup W=some ⟨wc,wd,.cls cd,wsl⟩) (w2:PySem.W.nsOkIn K cd.ns=true) (w3:PySem.W.nsIn K cd.ns "__init__"=some none):∃ W C,ErrP K mg x W C:=
 ⟨W,C,zS e1 e2 e3 e4 e5 e6 e7 e8,PySem.W.mg_of X G m,⟨_,_,NC,_,_,_,_,_,_,_,_,_,_,_,e1,n1,n2⟩,⟨_,_,cd,_,w1,w2,w3⟩⟩
theorem aNM{fa f:Addr}{oc:Value}{od an:Option Addr}{osl:Array (Option Value)}{kV doc pm cdv ct:Value}(X:K.In h)(G:h.Ns mainGlobals mg)(hmg:mg "law"=some (.ref fa))(a:PySem.W.nsIn K mainGlobals "law"=some (some (.ref f)))(l:K.lookup f=some ⟨oc,od,.func (PySem.W.fnOf "law" "law" (fY (top 36)) (dN (top 36)) (aQ (top 36)) .none kV doc pm an cdv ct),osl⟩)
  (c:PySem.W.codeIn K cdv "law"=true) (k:PySem.W.keepIn K (.ref f)=true):∃ fd,Fun K "law" "law" (top 36) fa fd/\∀ (s:Shared) (u:Value),BindsTo s fd ⟨[u],[]⟩ [("_law_script",u)]:=by
 have e:=hmg.symm.trans (PySem.W.mg_of X G a)
 cases e
 exact ⟨_,wP (st:=top 36) l c k,fun s u=>.of_eq rfl⟩
end
end Mc
open PySem PySem.W PyProof.Rows
set_option maxRecDepth 100000 in
set_option maxHeartbeats 0 in
theorem PySem.Challenge.cw_striproam_k18_products_holds : PySem.Challenge.rw_striproam_k18_products.Holds := by
 w_on;o_law;k_head;(case hw=>w_witness2)
 k_fill
 refine Fl.aL6 (l:=PySem.Challenge.rw_striproam_k18_products) (k:=14) (x:="_law_script") rfl rfl ⟨rfl,by decide,by decide⟩ (fun w h Y=>PySem.W.kIn_of Y) ?F
 case F=>
  intro w mg fa h KX G hmg
  have D6:L2.DefAt (L2.KOf KX) mg "signs_of" (Mc.top 6) ["machine"]:=by dsimp only[L2.KOf];refine' Mc.bX KX G ?a ?l ?c ?k ?b;(case a=>k_is);(case l=>k_is);(case c=>k_is);(case k=>k_is);(case b=>exact fun _ _ _ _ _ _=>Mc.bn1 fun _=>rfl)
  have D7:L2.DefAt (L2.KOf KX) mg "cells_of" (Mc.top 7) ["machine","number"]:=by dsimp only[L2.KOf];refine' Mc.bX KX G ?a ?l ?c ?k ?b;(case a=>k_is);(case l=>k_is);(case c=>k_is);(case k=>k_is);(case b=>exact fun _ _ _ _ _ _=>Mc.bn2 fun _ _=>rfl)
  have D8:L2.DefAt (L2.KOf KX) mg "checked_by" (Mc.top 8) ["signs","strip"]:=by dsimp only[L2.KOf];refine' Mc.bX KX G ?a ?l ?c ?k ?b;(case a=>k_is);(case l=>k_is);(case c=>k_is);(case k=>k_is);(case b=>exact fun _ _ _ _ _ _=>Mc.bn2 fun _ _=>rfl)
  have D9:L2.DefAt (L2.KOf KX) mg "checked" (Mc.top 9) ["machine","strip"]:=by dsimp only[L2.KOf];refine' Mc.bX KX G ?a ?l ?c ?k ?b;(case a=>k_is);(case l=>k_is);(case c=>k_is);(case k=>k_is);(case b=>exact fun _ _ _ _ _ _=>Mc.bn2 fun _ _=>rfl)
  have D11:L2.DefAt (L2.KOf KX) mg "still" (Mc.top 11) ["rooms"]:=by dsimp only[L2.KOf];refine' Mc.bX KX G ?a ?l ?c ?k ?b;(case a=>k_is);(case l=>k_is);(case c=>k_is);(case k=>k_is);(case b=>exact fun _ _ _ _ _ _=>Mc.bn1 fun _=>rfl)
  have D12:L2.DefAt (L2.KOf KX) mg "sign_table" (Mc.top 12) ["machine","sign"]:=by dsimp only[L2.KOf];refine' Mc.bX KX G ?a ?l ?c ?k ?b;(case a=>k_is);(case l=>k_is);(case c=>k_is);(case k=>k_is);(case b=>exact fun _ _ _ _ _ _=>Mc.bn2 fun _ _=>rfl)
  have D13:L2.DefAt (L2.KOf KX) mg "gone_out" (Mc.top 13) ["one","other","thing","inward"]:=by dsimp only[L2.KOf];refine' Mc.bX KX G ?a ?l ?c ?k ?b;(case a=>k_is);(case l=>k_is);(case c=>k_is);(case k=>k_is);(case b=>exact fun _ _ _ _ _ _=>Mc.bn4 fun _ _ _ _=>rfl)
  have D14:L2.DefAt (L2.KOf KX) mg "behind" (Mc.top 14) ["one","other"]:=by dsimp only[L2.KOf];refine' Mc.bX KX G ?a ?l ?c ?k ?b;(case a=>k_is);(case l=>k_is);(case c=>k_is);(case k=>k_is);(case b=>exact fun _ _ _ _ _ _=>Mc.bn2 fun _ _=>rfl)
  have D18:L2.DefAt (L2.KOf KX) mg "gathered" (Mc.top 18) ["machine","most"]:=by dsimp only[L2.KOf];refine' Mc.bX KX G ?a ?l ?c ?k ?b;(case a=>k_is);(case l=>k_is);(case c=>k_is);(case k=>k_is);(case b=>exact fun _ _ _ _ _ _=>Mc.bn2 fun _ _=>rfl)
  have D19:L2.DefAt (L2.KOf KX) mg "all_tables" (Mc.top 19) ["machine"]:=by dsimp only[L2.KOf];refine' Mc.bX KX G ?a ?l ?c ?k ?b;(case a=>k_is);(case l=>k_is);(case c=>k_is);(case k=>k_is);(case b=>exact fun _ _ _ _ _ _=>Mc.bn1 fun _=>rfl)
  have D20:L2.DefAt (L2.KOf KX) mg "products_of" (Mc.top 20) ["one","tables","numbers"]:=by dsimp only[L2.KOf];refine' Mc.bX KX G ?a ?l ?c ?k ?b;(case a=>k_is);(case l=>k_is);(case c=>k_is);(case k=>k_is);(case b=>exact fun _ _ _ _ _ _=>Mc.bn3 fun _ _ _=>rfl)
  have D21:L2.DefAt (L2.KOf KX) mg "products" (Mc.top 21) ["machine"]:=by dsimp only[L2.KOf];refine' Mc.bX KX G ?a ?l ?c ?k ?b;(case a=>k_is);(case l=>k_is);(case c=>k_is);(case k=>k_is);(case b=>exact fun _ _ _ _ _ _=>Mc.bn1 fun _=>rfl)
  have D23:L2.DefAt (L2.KOf KX) mg "_law_whole" (Mc.top 23) ["_law_found"]:=by dsimp only[L2.KOf];refine' Mc.bX KX G ?a ?l ?c ?k ?b;(case a=>k_is);(case l=>k_is);(case c=>k_is);(case k=>k_is);(case b=>exact fun _ _ _ _ _ _=>Mc.bn1 fun _=>rfl)
  have D26:L2.DefAt (L2.KOf KX) mg "_law_cell" (Mc.top 26) ["_law_script","_law_k"]:=by dsimp only[L2.KOf];refine' Mc.bX KX G ?a ?l ?c ?k ?b;(case a=>k_is);(case l=>k_is);(case c=>k_is);(case k=>k_is);(case b=>exact fun _ _ _ _ _ _=>Mc.bn2 fun _ _=>rfl)
  have D27:L2.DefAt (L2.KOf KX) mg "_law_end" (Mc.top 27) ["_law_number","_law_rooms"]:=by dsimp only[L2.KOf];refine' Mc.bX KX G ?a ?l ?c ?k ?b;(case a=>k_is);(case l=>k_is);(case c=>k_is);(case k=>k_is);(case b=>exact fun _ _ _ _ _ _=>Mc.bn2 fun _ _=>rfl)
  have D28:L2.DefAt (L2.KOf KX) mg "_law_digit_row" (Mc.top 28) ["_law_number","_law_rooms","_law_signs"]:=by dsimp only[L2.KOf];refine' Mc.bX KX G ?a ?l ?c ?k ?b;(case a=>k_is);(case l=>k_is);(case c=>k_is);(case k=>k_is);(case b=>exact fun _ _ _ _ _ _=>Mc.bn3 fun _ _ _=>rfl)
  have D29:L2.DefAt (L2.KOf KX) mg "_law_mixed_row" (Mc.top 29) ["_law_number","_law_rooms","_law_signs"]:=by dsimp only[L2.KOf];refine' Mc.bX KX G ?a ?l ?c ?k ?b;(case a=>k_is);(case l=>k_is);(case c=>k_is);(case k=>k_is);(case b=>exact fun _ _ _ _ _ _=>Mc.bn3 fun _ _ _=>rfl)
  have D30:L2.DefAt (L2.KOf KX) mg "_law_machine" (Mc.top 30) ["_law_script","_law_at","_law_rooms","_law_signs"]:=by dsimp only[L2.KOf];refine' Mc.bX KX G ?a ?l ?c ?k ?b;(case a=>k_is);(case l=>k_is);(case c=>k_is);(case k=>k_is);(case b=>exact fun _ _ _ _ _ _=>Mc.bn4 fun _ _ _ _=>rfl)
  have D31:L2.DefAt (L2.KOf KX) mg "_law_within" (Mc.top 31) ["_law_machine_here","_law_strip","_law_place","_law_room"]:=by dsimp only[L2.KOf];refine' Mc.bX KX G ?a ?l ?c ?k ?b;(case a=>k_is);(case l=>k_is);(case c=>k_is);(case k=>k_is);(case b=>exact fun _ _ _ _ _ _=>Mc.bn4 fun _ _ _ _=>rfl)
  have D32:L2.DefAt (L2.KOf KX) mg "_law_table" (Mc.top 32) ["_law_machine_here","_law_strip"]:=by dsimp only[L2.KOf];refine' Mc.bX KX G ?a ?l ?c ?k ?b;(case a=>k_is);(case l=>k_is);(case c=>k_is);(case k=>k_is);(case b=>exact fun _ _ _ _ _ _=>Mc.bn2 fun _ _=>rfl)
  have D33:L2.DefAt (L2.KOf KX) mg "_law_told" (Mc.top 33) ["_law_way","_law_machine_here"]:=by dsimp only[L2.KOf];refine' Mc.bX KX G ?a ?l ?c ?k ?b;(case a=>k_is);(case l=>k_is);(case c=>k_is);(case k=>k_is);(case b=>exact fun _ _ _ _ _ _=>Mc.bn2 fun _ _=>rfl)
  have D34:L2.DefAt (L2.KOf KX) mg "_law_square" (Mc.top 34) ["_law_found","_law_many"]:=by dsimp only[L2.KOf];refine' Mc.bX KX G ?a ?l ?c ?k ?b;(case a=>k_is);(case l=>k_is);(case c=>k_is);(case k=>k_is);(case b=>exact fun _ _ _ _ _ _=>Mc.bn2 fun _ _=>rfl)
  have D35:L2.DefAt (L2.KOf KX) mg "_law_pairs" (Mc.top 35) ["_law_script","_law_many"]:=by dsimp only[L2.KOf];refine' Mc.bX KX G ?a ?l ?c ?k ?b;(case a=>k_is);(case l=>k_is);(case c=>k_is);(case k=>k_is);(case b=>exact fun _ _ _ _ _ _=>Mc.bn2 fun _ _=>rfl)
  have T:Mc.Txt w (L2.KOf KX) mg:=by
   dsimp only[L2.KOf]
   refine' Mc.aNK KX G ?z_all ?z_bool ?z_dict ?z_enumerate ?z_int ?z_isinstance ?z_len ?z_list ?z_range ?z_str ?z_tuple ?s_MOST_MULTIPLIED ?s_MOST_TABLES ?s_SIGNS
   (case z_all=>k_is);(case z_bool=>k_is);(case z_dict=>k_is);(case z_enumerate=>k_is);(case z_int=>k_is);(case z_isinstance=>k_is);(case z_len=>k_is);(case z_list=>k_is);(case z_range=>k_is);(case z_str=>k_is);(case z_tuple=>k_is);(case s_MOST_MULTIPLIED=>k_is);(case s_MOST_TABLES=>k_is);(case s_SIGNS=>k_is)
  have E_NoStrip:Mc.jH (L2.KOf KX) mg:=by
   dsimp only[L2.KOf]
   refine' Mc.vY KX G ?m ?e1 ?e2 ?e3 ?e4 ?e5 ?e6 ?e7 ?e8 ?p1 ?i1 ?i2 ?i3 ?i4 ?i5
   (case m=>k_is)
   (case e1=>k_is)
   (case e2=>k_is);(case e3=>k_is);(case e4=>k_is);(case e5=>k_is);(case e6=>k_is);(case e7=>k_is);(case e8=>k_is)
   (case p1=>k_is);(case i1=>k_is);(case i2=>k_is);(case i3=>k_is);(case i4=>k_is);(case i5=>k_is)
  have Ep_TooMany:∃ W C,L2.ErrP (L2.KOf KX) mg "TooMany" W C:=by
   dsimp only[L2.KOf]
   refine' Mc.aNL KX G ?m ?e1 ?e2 ?e3 ?e4 ?e5 ?e6 ?e7 ?e8 ?n1 ?n2 ?w1 ?w2 ?w3
   (case m=>k_is)
   (case e1=>k_is)
   (case e2=>k_is);(case e3=>k_is);(case e4=>k_is);(case e5=>k_is);(case e6=>k_is);(case e7=>k_is);(case e8=>k_is)
   (case n2=>k_is);(case w1=>k_is);(case w3=>k_is)
   (case n1=>refine' L2.aAB ?l ?h;(case l=>k_is);(case h=>rfl))
   (case w2=>refine' L2.aAB ?l ?h;(case l=>k_is);(case h=>rfl))
  have LL:∃ fd,L2.Fun (L2.KOf KX) "law" "law" (Mc.top 36) fa fd/\∀ (s:Shared) (u:Value),BindsTo s fd ⟨[u],[]⟩ [("_law_script",u)]:=by
   dsimp only[L2.KOf]
   refine' Mc.aNM KX G hmg ?a4 ?l4 ?c4 ?k4
   (case a4=>k_is);(case l4=>k_is);(case c4=>k_is);(case k4=>k_is)
  obtain ⟨fd,FL,hb⟩:=LL
  exact ⟨fd,hb,fun base _ _=>Mc.aKO (TH:=fun _=>none) T (fun _ _ z=>nomatch z) E_NoStrip Ep_TooMany D6 D7 D8 D9 D11 D12 D13 D14 D18 D19 D20 D21 D23 D26 D27 D28 D29 D30 D31 D32 D33 D34 D35 FL⟩
end
