import PyProof.Rows.All
import Wide.All
import OpenK.AllK
import Wide.FinOn
import Lean
import PyProof.EqAt
import PyProof.EqKinds
import PyProof.TupleCall
import PyProof.ExcInit
import PyProof.InstStoreFacts
import PyProof.StrLawsFirst
import PyProof.StrLawsIn
import KE.KLam
import PyProof.ListMulRoad
import PyProof.Rows.ListMul
import PyProof.ZipIter
import PyProof.Draws
import PyProof.ListStr
import PyProof.DictWalks
import PyProof.DictTruth
import PyProof.ListRange
import PyProof.StrLaws
import PyProof.StrLawsIdx
import PyProof.AttrMissHeap
import PyProof.StrBlock2
import PyProof.SumWalkG
import PySem.Challenge.RW_striproam_k16_all_tables
set_option linter.all false
set_option maxRecDepth 100000
set_option maxHeartbeats 4000000
set_option Elab.async false
set_option linter.all false
set_option maxRecDepth 100000
set_option genSizeOf false
def PySem.W.Fast.tw260532712392172037:=()
def PySem.W.Fast.tw17710226362220986577:=()
def PySem.W.Fast.tw6415622828537826176:=()
def PySem.W.Fast.tw7607528785561360651:=()
def PySem.W.Fast.tw12566492244066599198:=()
def PySem.W.Fast.tw5090808926344153380:=()
def PySem.W.Fast.tw18347219798356123908:=()
def PySem.W.Fast.tw5302609103516604118:=()
def PySem.W.Fast.tw13610832780276970265:=()
def PySem.W.Fast.tw4236922882690710276:=()
theorem Mc.bn1{α:Type}{P:List α->Prop}(h:∀ a,P [a]):∀ us:List α,us.length=1->P us
 | [a],_=>h a
theorem Mc.bn2{α:Type}{P:List α->Prop}(h:∀ a b,P [a,b]):∀ us:List α,us.length=2->P us
 | [a,b],_=>h a b
theorem Mc.bn3{α:Type}{P:List α->Prop}(h:∀ a b c,P [a,b,c]):∀ us:List α,us.length=3->P us
 | [a,b,c],_=>h a b c
theorem Mc.bn4{α:Type}{P:List α->Prop}(h:∀ a b c d,P [a,b,c,d]):∀ us:List α,us.length=4->P us
 | [a,b,c,d],_=>h a b c d
open PySem.W (Frag)
noncomputable section
namespace L2
open PySem PySem.Spec PyProof.Rows
abbrev Key:=Sum Int Str
noncomputable def qR:Key->Value->Bool
 | .inl k,v=>Value.isInt k v
 | .inr x,v=>Value.isStrOf x v
noncomputable def aOH(w:World):Key->Int
 | .inl k=>hashInt k
 | .inr x=>hashStr w x
theorem keyIs_shape:∀ {k:Key} {v:Value},qR k v=true->(∃ i t,k=Sum.inl i/\v=Value.int i t)\/(∃ x t,k=Sum.inr x/\v=Value.str x t)
 | .inl i,v,h=>by
  obtain ⟨t,e⟩:=Value.isInt_shape (k:=i) (v:=v) h
  exact .inl ⟨i,t,rfl,e⟩
 | .inr x,v,h=>by
  obtain ⟨t,e⟩:=Value.isStrOf_shape (x:=x) (v:=v) h
  exact .inr ⟨x,t,rfl,e⟩
theorem aDG(i:Int)(t:Tok):qR (.inl i) (.int i t)=true:=by simp[qR,Value.isInt]
theorem aDH(x:Str)(t:Tok):qR (.inr x) (.str x t)=true:=by simp[qR,Value.isStrOf]
theorem aKB(a b:Int):decide ((Sum.inl a:Key)=Sum.inl b)=(a == b):=by
 by_cases e:a=b
 ·subst e;simp
 ·have h:¬ (Sum.inl a:Key)=Sum.inl b:=fun q=>e (Sum.inl.inj q)
  rw[decide_eq_false h]
  exact (beq_eq_false_iff_ne.mpr e).symm
theorem aKC(a b:Str):decide ((Sum.inr a:Key)=Sum.inr b)=decide (a=b):=by
 by_cases e:a=b
 ·subst e;simp
 ·have h:¬ (Sum.inr a:Key)=Sum.inr b:=fun q=>e (Sum.inr.inj q)
  rw[decide_eq_false h,decide_eq_false e]
theorem aKD(a:Int)(b:Str):decide ((Sum.inl a:Key)=Sum.inr b)=false:=decide_eq_false (fun q=>nomatch q)
theorem aKE(a:Str)(b:Int):decide ((Sum.inr a:Key)=Sum.inl b)=false:=decide_eq_false (fun q=>nomatch q)
noncomputable def dM(prog:Program)(w:World):PySem.KeyKind prog w Key where
 is:=qR
 hash:=aOH w
 inj:=fun v a b ha hb=>by
  rcases keyIs_shape ha with ⟨i,t,rfl,rfl⟩|⟨x,t,rfl,rfl⟩
  ·rcases keyIs_shape hb with ⟨j,u,rfl,e⟩|⟨y,u,rfl,e⟩
   · injection e with e1 _; rw [e1]
   · exact nomatch e
  ·rcases keyIs_shape hb with ⟨j,u,rfl,e⟩|⟨y,u,rfl,e⟩
   · exact nomatch e
   · injection e with e1 _; rw [e1]
 byValue:=fun k v h=>by
  rcases keyIs_shape h with ⟨i,t,rfl,rfl⟩|⟨x,t,rfl,rfl⟩<;>rfl
 pyHash:=fun hv h=>by
  rcases keyIs_shape hv with ⟨i,t,rfl,rfl⟩|⟨x,t,rfl,rfl⟩
  ·exact wpAny_pyHash_int h
  ·exact wpAny_pyHash_str h
 eqBool:=fun hu hv h=>by
  rcases keyIs_shape hu with ⟨i,t,rfl,rfl⟩|⟨x,t,rfl,rfl⟩
  ·rcases keyIs_shape hv with ⟨j,u,rfl,rfl⟩|⟨y,u,rfl,rfl⟩
   · rw [aKB] at h; exact wpAny_eqBool_int h
   · rw [aKD] at h; exact SeqAt.EqAt.int_str i t y u _ _ _ _ h
  ·rcases keyIs_shape hv with ⟨j,u,rfl,rfl⟩|⟨y,u,rfl,rfl⟩
   · rw [aKE] at h; exact SeqAt.EqAt.str_int x t j u _ _ _ _ h
   · rw [aKC] at h; exact wpAny_eqBool_str h
 «strs»:=fun k x t v h=>by
  rcases keyIs_shape h with ⟨i,u,rfl,e⟩|⟨y,u,rfl,e⟩
  ·exact nomatch e
  ·injection e with e1 _
   subst e1
   cases v<;>rfl
theorem z8(prog:Program)(w:World)(i:Int)(t:Tok):(dM prog w).is (.inl i) (.int i t)=true:=aDG i t
theorem z9(prog:Program)(w:World)(x:Str)(t:Tok):(dM prog w).is (.inr x) (.str x t)=true:=aDH x t
end L2
namespace L2
open PySem PySem.Spec PyProof.Rows
inductive V where
 | non|bl (b:Bool)|int (i:Int)|str (x:Str)|byt (b:Array UInt8)|flt (b:UInt64)|ref (a:Addr)|ty (n:String)
 deriving DecidableEq
def bF:V->Value->Prop
 | .non,u=>u=Value.none
 | .bl b,u=>u=Value.bool b
 | .int i,u=>∃ t,u=Value.int i t
 | .str x,u=>∃ t,u=Value.str x t
 | .byt b,u=>∃ t,u=Value.bytes b t
 | .flt b,u=>∃ t,u=Value.float b t
 | .ref a,u=>u=Value.ref a
 | .ty n,u=>u=Value.type n
abbrev bB:List V->List Value->Prop:=Paired bF
theorem bB.length{xs:List V}{us:List Value}(r:bB xs us):xs.length=us.length:=Paired.length r
theorem bB.get:∀ {xs:List V} {us:List Value} {i:Nat} {x:V},bB xs us->xs[i]? = some x->∃ u,us[i]? = some u/\bF x u
 | _,_,_,_,.nil,e=>by simp at e
 | _,_,0,_,.cons r _,e=>by simp at e;subst e;exact ⟨_,rfl,r⟩
 | _,_,i+1,x,.cons _ t,e=>by
  obtain ⟨u,h1,h2⟩:=bB.get (i:=i) (x:=x) t (by simpa using e)
  exact ⟨u,by simpa using h1,h2⟩
theorem bB.set{x:V}{u:Value}(r:bF x u):∀ {xs:List V} {us:List Value} (i:Nat),bB xs us->bB (xs.set i x) (us.set i u)
 | _,_,_,.nil=>.nil
 | _,_,0,.cons _ t=>.cons r t
 | _,_,i+1,.cons q t=>.cons q (bB.set r i t)
theorem bB.append:∀ {xs ys:List V} {us ws:List Value},bB xs us->bB ys ws->bB (xs++ys) (us++ws)
 | _,_,_,_,.nil,s=>s
 | _,_,_,_,.cons r t,s=>.cons r (bB.append t s)
theorem bB.take:∀ {xs:List V} {us:List Value} (n:Nat),bB xs us->bB (xs.take n) (us.take n)
 | _,_,0,_=>.nil
 | _,_,_+1,.nil=>.nil
 | _,_,n+1,.cons r t=>.cons r (bB.take n t)
theorem bB.drop:∀ {xs:List V} {us:List Value} (n:Nat),bB xs us->bB (xs.drop n) (us.drop n)
 | _,_,0,r=>r
 | _,_,_+1,.nil=>.nil
 | _,_,n+1,.cons _ t=>bB.drop n t
def jM:Option V->Option Value->Prop
 | some v,some u=>bF v u
 | none,none=>True
 | _,_=>False
def KV{κ:Type}:List (κ×V)->List (κ×Value)->Prop:=Paired fun (p:κ×V) (q:κ×Value)=>p.1=q.1/\bF p.2 q.2
noncomputable def kV:Key->V
 | .inl i=>.int i
 | .inr x=>.str x
inductive HO where
 | lst (xs:List V)
 | tup (xs:List V)
 | dK (kvs:List (Key×V))|dT (kvs:List (List Key×V))
 | set (S:Int->Bool) (n:Nat)
 | ins (C dx:Addr) (fs:List (Str×V))
 | own (x:Addr)
 | xd (fs:List (Str×V))
 | met (f x:Addr)
 | rng (lo hi:Int)
 | frz (o:Obj) (u:HO)
 | tbl (qs:List (Pos×Str))
 | cod (q:Str)
 | ext (φ:Heap->Prop)
abbrev Hp:=Addr->Option HO
noncomputable def upd(H:Hp)(a:Addr)(o:HO):Hp:=fun b=>if b=a then some o else H b
theorem aT{H:Hp}{a:Addr}{o:HO}:upd H a o a=some o:=by unfold upd;rw[if_pos rfl]
theorem aH{H:Hp}{a b:Addr}{o:HO}(h:b≠a):upd H a o b=H b:=by unfold upd;rw[if_neg h]
theorem qS{H:Hp}{a:Addr}{o u:HO}:upd (upd H a o) a u=upd H a u:=by
 funext b;unfold upd;split<;>rfl
theorem bS{H:Hp}{a b:Addr}{o:HO}(h:H a=some o)(h':H b=none):a≠b:=by
 intro e;subst e;rw[h] at h';cases h'
def kW(h:Heap)(a:Addr)(its:Array Value):Prop:=∃ o,h.get? a=some o/\(o.cls=.type "tuple"/\o.dict=none)/\∃ n,o.data=.seq its n
theorem kW.t{h:Heap}{a:Addr}{its:Array Value}:kW h a its->IsTup h a its:=fun ⟨o,e,c,n,d⟩=>⟨o,e,c.1,n,d⟩
theorem kW.new(h:Heap)(its:Array Value):kW (h.push {cls:=.type "tuple",data:=.seq its}) h.objs.size its:=⟨_,Heap.get?_push_size h rfl,⟨rfl,rfl⟩,_,rfl⟩
section
variable(P:Program)(w:World)
def b8(H:Hp)(h:Heap)(a:Addr):HO->Prop
 | .lst xs=>xs.length<=sizeLine/\∃ (its:List Value) (n:Nat),bB xs its/\h.get? a=some {cls:=.type "list",data:=.seq its.toArray n}
 | .tup xs=>xs.length<=sizeLine/\∃ its:List Value,bB xs its/\kW h a its.toArray
 | .dK kvs=>kvs.length<=sizeLine/\(a == sysModules)=false/\∃ vs,KV kvs vs/\h.DictOf (dM P w) a vs
 | .dT kvs=>kvs.length<=sizeLine/\(a == sysModules)=false/\∃ xs:List (List Key×Addr×Value),
  Paired (fun (p:List Key×V) (q:List Key×Addr×Value)=>p.1=q.1/\H q.2.1=some (.tup (p.1.map kV))/\bF p.2 q.2.2) kvs xs /\
  ∃ o es ep,h.get? a=some o/\o.ExactDict/\o.data=.dict es ep/\es.toList=xs.map (entryOfKey (tupleKind (dM P w)))/\(xs.map (·.1)).Nodup
 | .set S n=>h.SetOf (intKind P w) a S n
 | .ins C dx fs=>H dx=some (.own a)/\fs.length<=1000/\dx≠a/\h.get? a=some (PySem.W.instObj C dx) /\
  ∃ mA,h.Ns1 dx mA/\(∀ f,jM (fs.lookup f) (mA f))/\PySem.Within mA (fs.map (·.1))
 | .own _=>∃ o,h.get? a=some o
 | .xd fs=>∃ mA,h.Ns1 a mA/\∀ f,jM (fs.lookup f) (mA f)
 | .rng lo hi=>∃ t u v,h.get? a=some {cls:=.type "range",data:=.fields #[.int lo t,.int hi u,.int 1 v]}
 | .frz o u=>h.get? a=some o/\b8 H h a u
 | .tbl qs=>∃ ps:Array Value,h.get? a=some {cls:=.none,data:=.fields ps}/\TriplesOk ps.toList/\∀ p∈qs,codeAmong p.1 ps.toList=none\/∃ c,codeAmong p.1 ps.toList=some (.ref c)/\H c=some (.cod p.2)
 | .cod q=>h.CodeRec (.ref a) q
 | .met f x=>h.get? a=some (PySem.W.methodObj (.ref f) (.ref x))
 | .ext φ=>φ h/\(∃ o,h.get? a=some o)/\∀ h1 h2:Heap,φ h1->(∀ o,h1.get? a=some o->h2.get? a=some o)->φ h2
def HOk(H:Hp)(h:Heap):Prop:=∀ a o,H a=some o->b8 P w H h a o
end
section
variable{P:Program}{w:World}{H H':Hp}{h h':Heap}{a:Addr}{o:HO}
theorem b8.lt(x:b8 P w H h a o):a < h.objs.size:=by
 cases o with
 | lst xs=>obtain ⟨_,_,_,_,e⟩:=x;exact Heap.lt_size e
 | tup xs=>obtain ⟨_,_,_,p⟩:=x;exact p.t.lt
 | dK kvs=>obtain ⟨_,_,_,_,o,_,_,e,_⟩:=x;exact Heap.lt_size e
 | dT kvs=>obtain ⟨_,_,_,_,o,_,_,e,_⟩:=x;exact Heap.lt_size e
 | set S n=>obtain ⟨o,_,_,_,e,_⟩:=x;exact Heap.lt_size e
 | ins C dx fs=>obtain ⟨_,_,_,e,_⟩:=x;exact Heap.lt_size e
 | own y=>obtain ⟨_,e⟩:=x;exact Heap.lt_size e
 | xd fs=>obtain ⟨_,⟨_,_,_,e,_⟩,_⟩:=x;exact Heap.lt_size e
 | rng lo hi=>obtain ⟨_,_,_,e⟩:=x;exact Heap.lt_size e
 | frz ob u=>obtain ⟨e,_⟩:=x;exact Heap.lt_size e
 | tbl qs=>obtain ⟨ps,e,_⟩:=x;exact Heap.lt_size e
 | cod q=>obtain ⟨c,o,vs,t,e,ho,_⟩:=x;cases e;exact Heap.lt_size ho
 | met f y=>exact Heap.lt_size (show h.get? a=some _ from x)
 | ext φ=>obtain ⟨_,⟨_,e⟩,_⟩:=x;exact Heap.lt_size e
theorem Paired.mapP{α β:Type}{F G:α->β->Prop}:∀ {l₁:List α} {l₂:List β},Paired F l₁ l₂->(∀ a b,F a b->G a b)->Paired G l₁ l₂
 | _,_,.nil,_=>.nil
 | _,_,.cons r t,f=>.cons (f _ _ r) (Paired.mapP t f)
theorem b8.stay(x:b8 P w H h a o)(k:∀ b u,(b=a\/H b=some (.own a))->h.get? b=some u->h'.get? b=some u)
  (ho:∀ b,H b=some (.own a)->H' b=some (.own a)) (hc:∀ b q,H b=some (.cod q)->H' b=some (.cod q)) (ht:∀ b xs,H b=some (.tup xs)->H' b=some (.tup xs)):b8 P w H' h' a o:=by
 induction o with
 | lst xs=>obtain ⟨z,its,n,r,e⟩:=x;exact ⟨z,its,n,r,k _ _ (.inl rfl) e⟩
 | tup xs=>obtain ⟨z,its,r,ob,e,c⟩:=x;exact ⟨z,its,r,ob,k _ _ (.inl rfl) e,c⟩
 | dK kvs=>obtain ⟨z,y,vs,r,ob,es,ep,e,c⟩:=x;exact ⟨z,y,vs,r,ob,es,ep,k _ _ (.inl rfl) e,c⟩
 | dT kvs=>
  obtain ⟨z,y,xs,r,ob,es,ep,e,c⟩:=x
  exact ⟨z,y,xs,Paired.mapP r fun p q z=>⟨z.1,ht _ _ z.2.1,z.2.2⟩,ob,es,ep,k _ _ (.inl rfl) e,c⟩
 | set S n=>obtain ⟨ob,es,ep,t,e,c⟩:=x;exact ⟨ob,es,ep,t,k _ _ (.inl rfl) e,c⟩
 | ins C dx fs=>
  obtain ⟨d,z,ne,e,mA,⟨od,es,ep,e2,c⟩,r⟩:=x
  exact ⟨ho _ d,z,ne,k _ _ (.inl rfl) e,mA,⟨od,es,ep,k _ _ (.inr d) e2,c⟩,r⟩
 | own y=>obtain ⟨ob,e⟩:=x;exact ⟨ob,k _ _ (.inl rfl) e⟩
 | xd fs=>obtain ⟨mA,⟨od,es,ep,e,c⟩,r⟩:=x;exact ⟨mA,⟨od,es,ep,k _ _ (.inl rfl) e,c⟩,r⟩
 | rng lo hi=>obtain ⟨t,u,v,e⟩:=x;exact ⟨t,u,v,k _ _ (.inl rfl) e⟩
 | frz ob u ih=>obtain ⟨e,q⟩:=x;exact ⟨k _ _ (.inl rfl) e,ih q⟩
 | tbl qs=>
  obtain ⟨ps,e,t,r⟩:=x
  refine ⟨ps,k _ _ (.inl rfl) e,t,fun p hp=>?_⟩
  rcases r p hp with z|⟨c,z,z2⟩
  · exact .inl z
  · exact .inr ⟨c, z, hc _ _ z2⟩
 | cod q=>
  obtain ⟨c,o,vs,t,e,ho,r⟩:=x
  cases e
  exact ⟨_,o,vs,t,rfl,k _ _ (.inl rfl) ho,r⟩
 | met f y=>
  have e:h.get? a=some (PySem.W.methodObj (.ref f) (.ref y)):=x
  show h'.get? a=some (PySem.W.methodObj (.ref f) (.ref y))
  exact k a _ (.inl rfl) e
 | ext φ=>obtain ⟨p,⟨o,e⟩,st⟩:=x;exact ⟨st _ _ p fun o q=>k _ _ (.inl rfl) q,⟨o,k _ _ (.inl rfl) e⟩,st⟩
theorem HOk.lt(x:HOk P w H h)(e:H a=some o):a < h.objs.size:=(x a o e).lt
theorem HOk.fresh(x:HOk P w H h)(e:h.objs.size<=a):H a=none:=by
 cases q:H a with
 | none=>rfl
 | some u=>exact absurd (Nat.lt_of_lt_of_le (x.lt q) e) (Nat.lt_irrefl _)
theorem HOk.kept(x:HOk P w H h)(k:∀ b u,h.get? b=some u->h'.get? b=some u):HOk P w H h':=fun a o e=>
 (x a o e).stay (fun b u _ q=>k b u q) (fun _ q=>q) (fun _ _ q=>q) fun _ _ q=>q
theorem HOk.laid(x:HOk P w H h)(k:∀ b u,h.get? b=some u->h'.get? b=some u)(hp:h.objs.size<=a)(new:b8 P w (upd H a o) h' a o):HOk P w (upd H a o) h':=fun b u e=>by
 have hn:=x.fresh hp
 by_cases hb:b=a
 ·subst hb;rw[aT] at e;cases e;exact new
 ·rw[aH hb] at e
  exact (x b u e).stay (fun c v _ q=>k c v q) (fun c q=>by rw[aH (bS q hn)];exact q) (fun c xs q=>by rw[aH (bS q hn)];exact q) fun c xs q=>by rw[aH (bS q hn)];exact q
end
def Rd(H:Hp)(a:Addr)(u:HO):Prop:=H a=some u\/∃ o,H a=some (.frz o u)
theorem Rd.ok{P:Program}{w:World}{H:Hp}{h:Heap}{a:Addr}{u:HO}(r:Rd H a u)(x:HOk P w H h):b8 P w H h a u:=by
 rcases r with r|⟨o,r⟩
 ·exact x a u r
 ·obtain ⟨_,q⟩:=x a _ r
  exact q
def Mut:Option HO->Prop
 | some (.lst _)=>True
 | some (.dK _)=>True
 | some (.dT _)=>True
 | some (.set _ _)=>True
 | some (.ins _ _ _)=>True
 | some (.ext _)=>True
 | _=>False
section
variable{P:Program}{w:World}{H:Hp}{h h':Heap}{x e:Addr}{o':HO}
theorem HOk.write(ok:HOk P w H h)(mu:Mut (H x))(he:e=x\/H e=some (.own x))(k:∀ b u,b≠e->h.get? b=some u->h'.get? b=some u)(heo:∃ u,h'.get? e=some u)
  (new:b8 P w (upd H x o') h' x o'):HOk P w (upd H x o') h':=fun b u q=>by
 have nown:∀ c y,H c=some (.own y)->c≠x:=fun c y r z=>by subst z;rw[r] at mu;exact mu
 have ntup:∀ c xs,H c=some (.tup xs)->c≠x:=fun c xs r z=>by subst z;rw[r] at mu;exact mu
 have ncod:∀ c xs,H c=some (.cod xs)->c≠x:=fun c xs r z=>by subst z;rw[r] at mu;exact mu
 by_cases hb:b=x
 ·subst hb;rw[aT] at q;cases q;exact new
 ·rw[aH hb] at q
  by_cases hbe:b=e
  ·have q':H b=some (.own x):=by
    rcases he with z|z
    · exact absurd (hbe.trans z) hb
    · rw [hbe]; exact z
   rw[q] at q';cases q'
   obtain ⟨v,hv⟩:=heo
   exact ⟨v,by rw[hbe];exact hv⟩
  ·refine (ok b u q).stay (fun c v hc r=>k c v ?_ r) (fun c r=>by rw[aH (nown c b r)];exact r) (fun c xs r=>by rw[aH (ncod c xs r)];exact r) fun c xs r=>by rw[aH (ntup c xs r)];exact r
   rcases hc with rfl|hc
   ·exact hbe
   ·rintro rfl
    rcases he with z|z
    · exact nown c b hc z
    · rw [hc] at z; cases z; exact hb rfl
end
structure Un(fs ex:List Addr)(H H':Hp)(h h':Heap):Prop where
 keep:∀ b o,h.get? b=some o->H b=none->b∉fs->b∉ex->h'.get? b=some o
 slot:∀ b o,h.get? b=some o->H b=none->b∈fs->b∉ex->∃ sl,h'.get? b=some {o with slots:=sl}
 free:∀ b o,h.get? b=some o->H b=none->b∉ex->H' b=none
 there:∀ b o,h.get? b=some o->b∉ex->∃ o',h'.get? b=some o'
 tups:∀ b xs,H b=some (.tup xs)->H' b=some (.tup xs)
 frzs:∀ b o u,H b=some (.frz o u)->H' b=some (.frz o u)
 tbls:∀ b ps,H b=some (.tbl ps)->H' b=some (.tbl ps)
section
variable{fs fs' ex ex':List Addr}{H H1 H2:Hp}{h h1 h2 h':Heap}{a x e:Addr}{o:HO}
theorem Un.any(u:Un fs ex H H1 h h1){b:Addr}{ob:Obj}(q:h.get? b=some ob)(n:H b=none)(hx:b∉ex):∃ sl,h1.get? b=some {ob with slots:=sl}:=by
 by_cases hb:b∈fs
 · exact u.slot b ob q n hb hx
 · exact ⟨ob.slots, u.keep b ob q n hb hx⟩
theorem Un.trans(a:Un fs ex H H1 h h1)(b:Un fs ex H1 H2 h1 h2):Un fs ex H H2 h h2 where
 keep:=fun c ob q n hc hx=>b.keep c ob (a.keep c ob q n hc hx) (a.free c ob q n hx) hc hx
 slot:=fun c ob q n hc hx=>by
  obtain ⟨sl,e1⟩:=a.slot c ob q n hc hx
  obtain ⟨sl',e2⟩:=b.slot c _ e1 (a.free c ob q n hx) hc hx
  exact ⟨sl',e2⟩
 free:=fun c ob q n hx=>by
  obtain ⟨o',e1⟩:=a.there c ob q hx
  exact b.free c o' e1 (a.free c ob q n hx) hx
 there:=fun c ob q hx=>by
  obtain ⟨o',e1⟩:=a.there c ob q hx
  exact b.there c o' e1 hx
 tups:=fun c xs q=>b.tups c xs (a.tups c xs q)
 frzs:=fun c ob xs q=>b.frzs c ob xs (a.frzs c ob xs q)
 tbls:=fun c ps q=>b.tbls c ps (a.tbls c ps q)
theorem Un.kept(k:∀ b u,h.get? b=some u->h'.get? b=some u):Un fs ex H H h h':=
 ⟨fun b ob q _ _ _=>k b ob q,fun b ob q _ _ _=>⟨ob.slots,k b ob q⟩,fun _ _ _ n _=>n,fun b ob q _=>⟨ob,k b ob q⟩,fun _ _ q=>q,fun _ _ _ q=>q,fun _ _ q=>q⟩
theorem Un.refl:Un fs ex H H h h:=Un.kept fun _ _ q=>q
theorem Un.laid(k:∀ b u,h.get? b=some u->h'.get? b=some u)(hp:h.objs.size<=a)(hn:H a=none):Un fs ex H (upd H a o) h h' where
 keep:=fun b u q _ _ _=>k b u q
 slot:=fun b u q _ _ _=>⟨u.slots,k b u q⟩
 free:=fun b u q n _=>by rw[aH (Nat.ne_of_lt (Nat.lt_of_lt_of_le (Heap.lt_size q) hp))];exact n
 there:=fun b u q _=>⟨u,k b u q⟩
 tups:=fun b xs q=>by rw[aH (bS q hn)];exact q
 frzs:=fun b u xs q=>by rw[aH (bS q hn)];exact q
 tbls:=fun b ps q=>by rw[aH (bS q hn)];exact q
theorem Un.write(mu:Mut (H x))(he:e=x\/H e=some (.own x))(k:∀ b u,b≠e->h.get? b=some u->h'.get? b=some u)(heo:∃ u,h'.get? e=some u):Un fs ex H (upd H x o) h h':=by
 have hx:∀ b,H b=none->b≠x:=fun b n z=>by subst z;rw[n] at mu;exact mu
 have hb:∀ b,H b=none->b≠e:=fun b n z=>by
  subst z
  rcases he with r|r
  · exact hx b n r
  · rw [n] at r; cases r
 have hm:∀ b u,H b=some u->¬ Mut (some u)->b≠x:=fun b u q nm z=>by subst z;rw[q] at mu;exact nm mu
 refine ⟨fun b u q n _ _=>k b u (hb b n) q,fun b u q n _ _=>⟨u.slots,k b u (hb b n) q⟩,fun b u q n _=>by rw[aH (hx b n)];exact n,fun b u q _=>?_,
  fun b xs q=>by rw[aH (hm b _ q fun z=>z)];exact q,fun b u xs q=>by rw[aH (hm b _ q fun z=>z)];exact q,fun b ps q=>by rw[aH (hm b _ q fun z=>z)];exact q⟩
 by_cases hbe:b=e
 ·subst hbe;exact heo
 ·exact ⟨u,k b u hbe q⟩
end
noncomputable def trk(h:Heap)(H:Hp):List Addr:=(List.range h.objs.size).filter fun a=>(H a).isSome
def oO(h:Heap)(H:Hp):Heap:=PySem.W.hideAll h (trk h H)
theorem aDI(h:Heap)(H:Hp):(oO h H).objs.size=h.objs.size:=PySem.W.hideAll_size _ _
theorem aFK{h:Heap}{H:Hp}{b:Addr}{o:Obj}(e:h.get? b=some o)(n:H b=none):(oO h H).get? b=some o:=
 PySem.W.hideAll_get _ e fun hm=>by
  have q:(H b).isSome=true:=(List.mem_filter.mp hm).2
  rw[n] at q;simp at q
theorem aIB{h:Heap}{H:Hp}{b:Addr}{o:Obj}(e:(oO h H).get? b=some o):h.get? b=some o/\H b=none:=by
 have e':h.get? b=some o:=PySem.W.of_hideAll (trk h H) e
 refine ⟨e',?_⟩
 cases q:H b with
 | none=>rfl
 | some x=>
  have hm:b∈trk h H:=List.mem_filter.mpr ⟨List.mem_range.mpr (Heap.lt_size e'),by simp[q]⟩
  have z:(oO h H).get? b=none:=PySem.W.hideAll_none (trk h H) hm
  rw[z] at e;cases e
def aIC(g h:Heap)(L:Addr):List (Addr×Obj):=(List.range h.objs.size).filterMap fun a=>if a=L\/(g.get? a).isSome=true then none else (h.get? a).map fun o=>(a,o)
def rest(g h:Heap)(L d:Addr):List (Addr×Obj):=(aIC g h L).filter fun p=>decide (p.1≠d)
end L2
namespace L2
open PySem PySem.Spec PyProof.Rows
structure Mod(K:Frag)(mg:Str->Option Value)(base:Heap):Prop where
 kin:K.In base
 glob:base.Ns mainGlobals mg
 blt:∃ mb,base.Ns builtinsNs mb/\∀ x:Str,x≠"__name__"->mb x=bootBuiltins x
 nolimit:base.NoLimit
structure Cx where
 prog:Program
 w:World
 K:Frag
 mg:Str->Option Value
 base:Heap
 A:Around
 N:List Str
 s₀:Shared
 H₀:Hp
 env:Env
 outer:List Env
 stack:List Env
 ex:List Addr
 fn:Str->Bool
 calm:Bool
 pn:List (Addr×Obj)
 xe:Value->Shared->Prop
noncomputable def frs(l:List Env):List Addr:=l.filterMap (·.frame)
abbrev Cx.fs(X:Cx):List Addr:=frs X.outer
def Vis(sc:Scope)(x:Str):Prop:=sc.names.lookup x=some .local\/sc.names.lookup x=some .cell\/sc.names.lookup x=some .free
def Loc(sc:Scope)(x:Str):Prop:=sc.names.lookup x=some .local\/sc.names.lookup x=some .cell
def aOI(env:Env)(h:Heap)(m:Str->Option Value)(x:Str)(u:Value):Prop:=
 (env.kindOf x=some .local/\m x=some u)\/((env.kindOf x=some .cell\/env.kindOf x=some .free)/\∃ c,env.cells.lookup x=some c/\h.IsCell c (some u))
structure Cx.Ok(X:Cx):Prop where
 mod:Mod X.K X.mg X.base
 kind:X.env.scope.kind=.function
 glob:X.env.globals=mainGlobals
 blt:X.env.builtins=builtinsNs
 above:X.s₀.heap.objs.size<=X.env.locals
 inj:∀ x y c,X.env.cells.lookup x=some c->X.env.cells.lookup y=some c->x=y
 has:∀ x,(X.env.kindOf x=some .cell\/X.env.kindOf x=some .free)->∃ c,X.env.cells.lookup x=some c
 cab:∀ x c,X.fn x=true->X.env.cells.lookup x=some c->X.s₀.heap.objs.size<=c
 hd:X.calm=true->X.A.handled=none
 frames:X.A.frames=some X.stack
 stk:X.stack=X.outer\/(X.stack=X.env::X.outer/\X.env.frame=some X.env.locals)
 exf:∀ b∈X.ex,b≠X.env.locals/\∀ x c,X.env.cells.lookup x=some c->c≠b
 bs:∀ b o,X.base.get? b=some o->X.s₀.heap.get? b=some o/\X.H₀ b=none
 bsz:X.base.objs.size<=X.s₀.heap.objs.size
 noex:∀ b o,X.base.get? b=some o->b∉X.ex
 exfs:∀ b∈X.ex,b∉X.fs
 funs:X.s₀.heap.FunFrames X.base X.outer
 frf:∀ b∈X.fs,X.H₀ b=none
structure Inv(X:Cx)(pins:List (Addr×Obj))(σ:List (Option V))(H:Hp)(s:Shared):Prop where
 ok:X.Ok
 os:s.os=X.s₀.os
 bare:AllBare s.gens
 base:Un X.fs X.ex X.H₀ H X.s₀.heap s.heap
 loc:∃ m,s.heap.Ns X.env.locals m/\∀ (i:Nat) (x:Str) (v:V),X.N[i]? = some x->σ[i]? = some (some v)->Vis X.env.scope x->∃ u,bF v u/\aOI X.env s.heap m x u
 cell:∀ x c,X.env.cells.lookup x=some c->∃ v,s.heap.IsCell c v
 free:H X.env.locals=none
 freeC:∀ x c,X.env.cells.lookup x=some c->H c=none
 pin:∀ p∈X.pn++pins,s.heap.get? p.1=some p.2/\H p.1=none/\p.1≠X.env.locals/\p.1∉X.fs/\∀ v,p.2.data≠.cell v
 hok:HOk X.prog X.w H s.heap
 len:σ.length=X.N.length
section
variable{X:Cx}{pins:List (Addr×Obj)}{σ:List (Option V)}{H H':Hp}{s:Shared}{h':Heap}
theorem Cx.Ok.nofr(ok:X.Ok){b:Addr}{o:Obj}(e:X.base.get? b=some o):b∉X.fs:=fun hb=>by
 have:=(ok.funs.mem hb).1
 rw[e] at this;cases this
theorem Inv.bs(I:Inv X pins σ H s):∀ b o,X.base.get? b=some o->s.heap.get? b=some o/\H b=none:=fun b o e=>
 ⟨I.base.keep b o (I.ok.bs b o e).1 (I.ok.bs b o e).2 (I.ok.nofr e) (I.ok.noex b o e),I.base.free b o (I.ok.bs b o e).1 (I.ok.bs b o e).2 (I.ok.noex b o e)⟩
theorem Inv.bk(I:Inv X pins σ H s):∀ b o,X.base.get? b=some o->s.heap.get? b=some o:=fun b o e=>(I.bs b o e).1
theorem Inv.mod(I:Inv X pins σ H s):Mod X.K X.mg X.base:=I.ok.mod
theorem Inv.kIn(I:Inv X pins σ H s):X.K.In s.heap:=I.ok.mod.kin.keeps I.bk
theorem Inv.lt(I:Inv X pins σ H s):X.env.locals < s.heap.objs.size:=let ⟨_,hn,_⟩:=I.loc;hn.lt
theorem Inv.sz(I:Inv X pins σ H s):X.s₀.heap.objs.size<=s.heap.objs.size:=Nat.le_trans I.ok.above (Nat.le_of_lt I.lt)
theorem Inv.nofs(I:Inv X pins σ H s){a:Addr}(h:s.heap.objs.size<=a):a∉X.fs:=fun hb=>by
 obtain ⟨_,o,ho,_⟩:=I.ok.funs.mem hb
 exact absurd (Nat.lt_of_lt_of_le (Heap.lt_size ho) (Nat.le_trans I.sz h)) (Nat.lt_irrefl _)
theorem Inv.cne(I:Inv X pins σ H s):∀ x c,X.env.cells.lookup x=some c->c≠X.env.locals:=fun x c e z=>by
 obtain ⟨v,o,ho,hd⟩:=I.cell x c e
 obtain ⟨m,⟨o',es,ep,ho',hd',_⟩,_⟩:=I.loc
 rw[z,ho'] at ho;cases ho;rw[hd'] at hd;cases hd
theorem Inv.funs(I:Inv X pins σ H s):s.heap.FunFrames X.base X.outer:=by
 have all:∀ (l:List Env),(∀ b∈frs l,b∈X.fs)->X.s₀.heap.FunFrames X.base l->s.heap.FunFrames X.base l:=by
  intro l
  induction l with
  | nil=>intro _ _;trivial
  | cons env r ih=>
   intro hs hl
   obtain ⟨hk,⟨L,o,hf,hn,ho,hd⟩,hr⟩:=hl
   have hL:L∈X.fs:=hs L (by unfold frs;rw[List.filterMap_cons,hf];exact List.mem_cons_self)
   obtain ⟨sl,e⟩:=I.base.slot L o ho (I.ok.frf L hL) hL fun z=>I.ok.exfs L z hL
   exact ⟨hk,⟨L,_,hf,hn,e,hd⟩,ih (fun b hb=>hs b (by unfold frs;rw[List.filterMap_cons,hf];exact List.mem_cons_of_mem _ hb)) hr⟩
 exact all X.outer (fun _ hb=>hb) I.ok.funs
theorem Inv.stack(I:Inv X pins σ H s):s.heap.FunFrames X.base X.stack:=by
 rcases I.ok.stk with e|⟨e,hf⟩
 ·rw[e];exact I.funs
 ·rw[e]
  obtain ⟨m,hn,_⟩:=I.loc
  refine .cons (by rw[I.ok.kind];decide) hf hn ?_ I.funs
  exact Heap.get?_none_of_le (Nat.le_trans I.ok.bsz I.ok.above)
theorem Inv.stkSub(I:Inv X pins σ H s):∀ b∈frs X.stack,b∈X.env.locals::X.fs:=fun b hb=>by
 rcases I.ok.stk with e|⟨e,hf⟩
 ·rw[e] at hb;exact List.mem_cons_of_mem _ hb
 ·rw[e] at hb
  unfold frs at hb
  rw[List.filterMap_cons,hf] at hb
  exact hb
theorem Inv.stkFree(I:Inv X pins σ H s):∀ b∈frs X.stack,H b=none:=fun b hb=>by
 rcases List.mem_cons.mp (I.stkSub b hb) with e|hb
 ·rw[e];exact I.free
 ·obtain ⟨_,o,ho,_⟩:=I.ok.funs.mem hb
  exact I.base.free b o ho (I.ok.frf b hb) fun z=>I.ok.exfs b z hb
theorem Inv.step{g':Array GenState}{t':Nat}{d':Drawn}{ch:List Addr}(I:Inv X pins σ H s)
  (hch:∀ b∈ch,(b∈X.ex\/X.s₀.heap.objs.size<=b)/\b≠X.env.locals/\(∀ x c,X.env.cells.lookup x=some c->c≠b)/\∀ p∈X.pn++pins,p.1≠b)
  (keep:∀ b o,b≠X.env.locals->b∉X.fs->b∉ch->s.heap.get? b=some o->H b=none->h'.get? b=some o)
  (slot:∀ b o,b≠X.env.locals->b∈X.fs->b∉ch->s.heap.get? b=some o->H b=none->∃ sl,h'.get? b=some {o with slots:=sl}) (free:∀ b o,b∉ch->s.heap.get? b=some o->H b=none->H' b=none)
  (there:∀ b o,b∉ch->s.heap.get? b=some o->∃ o',h'.get? b=some o')
  (tups:∀ b xs,H b=some (.tup xs)->H' b=some (.tup xs)) (frzs:∀ b o u,H b=some (.frz o u)->H' b=some (.frz o u)) (tbls:∀ b ps,H b=some (.tbl ps)->H' b=some (.tbl ps))
  (ns:∀ m,s.heap.Ns X.env.locals m->h'.Ns X.env.locals m) (hok:HOk X.prog X.w H' h') (hg:AllBare g') :
  Inv X pins σ H' {s with heap:=h',gens:=g',drawn:=d',toks:=t'}:=by
 have neL:∀ b o,X.s₀.heap.get? b=some o->b≠X.env.locals:=fun b o e=>Nat.ne_of_lt (Nat.lt_of_lt_of_le (Heap.lt_size e) I.ok.above)
 have neC:∀ b o,X.s₀.heap.get? b=some o->b∉X.ex->b∉ch:=fun b o e hx hb=>by
  rcases (hch b hb).1 with z|z
  ·exact hx z
  ·exact absurd (Nat.lt_of_lt_of_le (Heap.lt_size e) z) (Nat.lt_irrefl _)
 have cellK:∀ x c,X.env.cells.lookup x=some c->∀ v,s.heap.IsCell c v->h'.IsCell c v:=fun x c e v zz0=>by
  obtain ⟨o,ho,hd⟩:=zz0
  have nch:c∉ch:=fun z=>(hch c z).2.2.1 x c e rfl
  by_cases hc:c∈X.fs
  ·obtain ⟨sl,q⟩:=slot c o (I.cne x c e) hc nch ho (I.freeC x c e)
   exact ⟨_,q,hd⟩
  ·exact ⟨o,keep c o (I.cne x c e) hc nch ho (I.freeC x c e),hd⟩
 refine ⟨I.ok,I.os,hg,⟨fun b o e n hb hx=>?_,fun b o e n hb hx=>?_,fun b o e n hx=>?_,fun b o e hx=>?_,fun b xs e=>tups b xs (I.base.tups b xs e),fun b o xs e=>frzs b o xs (I.base.frzs b o xs e),fun b ps e=>?_⟩,?_,fun x c e=>?_,?_,fun x c e=>?_,fun p hp=>?_,hok,I.len⟩
 ·exact keep b o (neL b o e) hb (neC b o e hx) (I.base.keep b o e n hb hx) (I.base.free b o e n hx)
 ·obtain ⟨sl,e1⟩:=I.base.slot b o e n hb hx
  obtain ⟨sl',e2⟩:=slot b _ (neL b o e) hb (neC b o e hx) e1 (I.base.free b o e n hx)
  exact ⟨sl',e2⟩
 ·obtain ⟨o',e1⟩:=I.base.there b o e hx
  exact free b o' (neC b o e hx) e1 (I.base.free b o e n hx)
 ·obtain ⟨o',e1⟩:=I.base.there b o e hx
  exact there b o' (neC b o e hx) e1
 ·exact tbls b ps (I.base.tbls b ps e)
 ·obtain ⟨m,hn,hl⟩:=I.loc
  refine ⟨m,ns m hn,fun i x v e1 e2 e3=>?_⟩
  obtain ⟨u,r,l⟩:=hl i x v e1 e2 e3
  refine ⟨u,r,?_⟩
  rcases l with l|⟨k,c,e,z⟩
  ·exact .inl l
  ·exact .inr ⟨k,c,e,cellK x c e _ z⟩
 ·obtain ⟨v,z⟩:=I.cell x c e
  exact ⟨v,cellK x c e v z⟩
 ·obtain ⟨m,⟨o,_,_,ho,_⟩,_⟩:=I.loc
  exact free _ o (fun z=>(hch _ z).2.1 rfl) ho I.free
 ·obtain ⟨v,o,ho,hd⟩:=I.cell x c e
  exact free c o (fun z=>(hch c z).2.2.1 x c e rfl) ho (I.freeC x c e)
 ·obtain ⟨e,n,ne,nf,d⟩:=I.pin p hp
  have nch:p.1∉ch:=fun z=>(hch p.1 z).2.2.2 p hp rfl
  exact ⟨keep p.1 p.2 ne nf nch e n,free p.1 p.2 nch e n,ne,nf,d⟩
theorem Inv.un{t':Nat}(I:Inv X pins σ H s)(u:Un X.fs [] H H' s.heap h')(hok:HOk X.prog X.w H' h'):Inv X pins σ H' {s with heap:=h',toks:=t'}:=by
 obtain ⟨m,⟨o,es,ep,ho,r⟩,_⟩:=id I.loc
 obtain ⟨sl,hL⟩:=u.any ho I.free (by simp)
 exact I.step (g':=s.gens) (d':=s.drawn) (ch:=[]) (fun _ z=>nomatch z) (fun b o _ hb _ e n=>u.keep b o e n hb (by simp)) (fun b o _ hb _ e n=>u.slot b o e n hb (by simp)) (fun b o _ e n=>u.free b o e n (by simp)) (fun b o _ e=>u.there b o e (by simp)) u.tups u.frzs u.tbls (fun m' hm=>by
  obtain ⟨o',es',ep',ho',r'⟩:=hm
  rw[ho] at ho';cases ho'
  exact ⟨_,es',ep',hL,r'⟩) hok I.bare
theorem Inv.call{g':Array GenState}{t':Nat}{d':Drawn}{ch:List Addr}(I:Inv X pins σ H s)(u:Un (frs X.stack) ch H H' s.heap h')(hok:HOk X.prog X.w H' h')(hg:AllBare g')
  (hch:∀ b∈ch,(b∈X.ex\/X.s₀.heap.objs.size<=b)/\b≠X.env.locals/\(∀ x c,X.env.cells.lookup x=some c->c≠b)/\∀ p∈X.pn++pins,p.1≠b) :
  Inv X pins σ H' {s with heap:=h',gens:=g',drawn:=d',toks:=t'}:=by
 obtain ⟨m,⟨o,es,ep,ho,r⟩,_⟩:=id I.loc
 obtain ⟨sl,hL⟩:=u.any ho I.free fun z=>(hch _ z).2.1 rfl
 exact I.step (ch:=ch) hch (fun b o hL hb hc e n=>u.keep b o e n (fun z=>(List.mem_cons.mp (I.stkSub b z)).elim hL hb) hc) (fun b o _ _ hc e n=>u.any e n hc) (fun b o hc e n=>u.free b o e n hc) (fun b o hc e=>u.there b o e hc) u.tups u.frzs u.tbls (fun m' hm=>by
  obtain ⟨o',es',ep',ho',r'⟩:=hm
  rw[ho] at ho';cases ho'
  exact ⟨_,es',ep',hL,r'⟩) hok hg
theorem Inv.turned{t':Nat}{it:Addr}(I:Inv X pins σ H s)(k:∀ b o,b≠it->s.heap.get? b=some o->h'.get? b=some o)(hn:H it=none)(hL:it≠X.env.locals)
  (h1:it∈X.ex\/X.s₀.heap.objs.size<=it) (h2:∀ x c,X.env.cells.lookup x=some c->c≠it) (h3:∀ p∈X.pn++pins,p.1≠it):Inv X pins σ H {s with heap:=h',toks:=t'}:=by
 have nit:∀ b u,H b=some u->b≠it:=fun b u e z=>by rw[z,hn] at e;cases e
 refine I.step (g':=s.gens) (d':=s.drawn) (ch:=[it]) (fun b hb=>?_) (fun b o _ _ hc e _=>k b o (fun z=>hc (by simp[z])) e) (fun b o _ _ hc e _=>⟨o.slots,k b o (fun z=>hc (by simp[z])) e⟩) (fun _ _ _ _ n=>n)
  (fun b o hc e=>⟨o,k b o (fun z=>hc (by simp[z])) e⟩) (fun _ _ e=>e) (fun _ _ _ e=>e) (fun _ _ e=>e) (fun m hm=>?_) (fun b u e=>?_) I.bare
 ·have e:b=it:=by simpa using hb
  subst e
  exact ⟨h1,hL,h2,h3⟩
 ·obtain ⟨o,es,ep,ho,r⟩:=hm
  exact ⟨o,es,ep,k _ o (Ne.symm hL) ho,r⟩
 ·refine (I.hok b u e).stay (fun c v hc q=>k c v ?_ q) (fun _ q=>q) (fun _ _ q=>q) fun _ _ q=>q
  rcases hc with z|z
  · rw [z]; exact nit b u e
  · exact nit c _ z
theorem Inv.tok(I:Inv X pins σ H s)(t:Nat):Inv X pins σ H {s with toks:=t}:=I.un (h':=s.heap) (t':=t) Un.refl I.hok
theorem Inv.kept{t':Nat}(I:Inv X pins σ H s)(k:∀ b u,s.heap.get? b=some u->h'.get? b=some u):Inv X pins σ H {s with heap:=h',toks:=t'}:=I.un (Un.kept k) (I.hok.kept k)
theorem Inv.laid{a:Addr}{o:HO}{t':Nat}(I:Inv X pins σ H s)(k:∀ b u,s.heap.get? b=some u->h'.get? b=some u)(hp:s.heap.objs.size<=a)(new:b8 X.prog X.w (upd H a o) h' a o) :
 Inv X pins σ (upd H a o) {s with heap:=h',toks:=t'}:=I.un (Un.laid k hp (I.hok.fresh hp)) (I.hok.laid k hp new)
theorem Inv.write{x e:Addr}{o:HO}{t':Nat}(I:Inv X pins σ H s)(mu:Mut (H x))(he:e=x\/H e=some (.own x))(k:∀ b u,b≠e->s.heap.get? b=some u->h'.get? b=some u)(heo:∃ u,h'.get? e=some u)
 (new:b8 X.prog X.w (upd H x o) h' x o):Inv X pins σ (upd H x o) {s with heap:=h',toks:=t'}:=I.un (Un.write mu he k heo) (I.hok.write mu he k heo new)
theorem Inv.pins_of{pins':List (Addr×Obj)}(I:Inv X pins σ H s)(h:∀ p∈pins',s.heap.get? p.1=some p.2/\H p.1=none/\p.1≠X.env.locals/\p.1∉X.fs/\∀ v,p.2.data≠.cell v):Inv X pins' σ H s:=
 ⟨I.ok,I.os,I.bare,I.base,I.loc,I.cell,I.free,I.freeC,fun p hp=>(List.mem_append.mp hp).elim (fun z=>I.pin p (List.mem_append_left _ z)) (h p),I.hok,I.len⟩
theorem rZ{N:List Str}(hN:N.Nodup){i j:Nat}{x:Str}(a:N[i]? = some x)(b:N[j]? = some x):i=j:=by
 obtain ⟨h1,e1⟩:=List.getElem?_eq_some_iff.mp a
 obtain ⟨h2,e2⟩:=List.getElem?_eq_some_iff.mp b
 exact (List.getElem_inj hN).mp (e1.trans e2.symm)
theorem vX{M:Model}{A:Around}{E:Value->Shared->Prop}{i:Nat}{x:Str}{v:V}{u:Value}{Q:Unit->Shared->Prop}(I:Inv X pins σ H s)(hN:X.N.Nodup)(hi:X.N[i]? = some x)(hx:Loc X.env.scope x)(r:bF v u)
  (h:∀ s',Inv X pins (σ.set i (some v)) H s'->(∃ a,Heap.SameBut a s.heap s'.heap/\(a=X.env.locals\/X.env.cells.lookup x=some a))->Q () s') (hf:X.fn x=true\/X.env.scope.names.lookup x=some .local):wpAny M A (storeName X.env x u) Q E s:=by
 obtain ⟨m,hn,hl⟩:=id I.loc
 have hcls:(X.env.scope.kind == .class || (X.env.scope.kind == .module && X.env.locals != X.env.globals))=false:=by rw[I.ok.kind];rfl
 have hiσ:i < σ.length:=by rw[I.len];exact (List.getElem?_eq_some_iff.mp hi).1
 have cne:=I.cne
 have tracked:∀ {a:Addr} {h':Heap},(∃ o,s.heap.get? a=some o/\H a=none)->Heap.SameBut a s.heap h'->HOk X.prog X.w H h':=fun {a h'} ha hs b ob e=>by
  obtain ⟨_,_,hfree⟩:=ha
  refine (I.hok b ob e).stay (fun c w' hc q=>(hs.2 c ?_).trans q) (fun _ q=>q) (fun _ _ q=>q) fun _ _ q=>q
  rintro rfl
  rcases hc with rfl|hc
  ·rw[hfree] at e;cases e
  ·rw[hfree] at hc;cases hc
 rcases hx with hk|hk
 ·refine wpAny_storeName_local hk hn (fun h' hn' hs=>?_) hcls
  obtain ⟨oL,_,_,hoL,_⟩:=id hn
  refine h _ ⟨I.ok,I.os,I.bare,⟨fun b o e n hb hx=>?_,fun b o e n hb hx=>?_,I.base.free,fun b o e hx=>?_,I.base.tups,I.base.frzs,I.base.tbls⟩,⟨_,hn',fun j y v' e1 e2 e3=>?_⟩,fun y c e=>?_,I.free,I.freeC,fun p hp=>?_,tracked ⟨oL,hoL,I.free⟩ hs,by simpa using I.len⟩ ⟨_,hs,.inl rfl⟩
  ·exact (hs.2 b (Nat.ne_of_lt (Nat.lt_of_lt_of_le (Heap.lt_size e) I.ok.above))).trans (I.base.keep b o e n hb hx)
  ·obtain ⟨sl,e1⟩:=I.base.slot b o e n hb hx
   exact ⟨sl,(hs.2 b (Nat.ne_of_lt (Nat.lt_of_lt_of_le (Heap.lt_size e) I.ok.above))).trans e1⟩
  ·obtain ⟨o',e1⟩:=I.base.there b o e hx
   exact ⟨o',(hs.2 b (Nat.ne_of_lt (Nat.lt_of_lt_of_le (Heap.lt_size e) I.ok.above))).trans e1⟩
  ·by_cases hj:j=i
   ·subst hj
    rw[hi] at e1;cases e1
    rw[List.getElem?_set_self hiσ] at e2
    cases e2
    exact ⟨u,r,.inl ⟨hk,by simp⟩⟩
   ·rw[List.getElem?_set_ne (Ne.symm hj)] at e2
    obtain ⟨u',r',q⟩:=hl j y v' e1 e2 e3
    refine ⟨u',r',?_⟩
    rcases q with ⟨k,e⟩|⟨k,c,e,z⟩
    ·refine .inl ⟨k,?_⟩
     have:y≠x:=fun e=>hj (rZ hN e1 (e▸hi))
     simp[this,e]
    ·exact .inr ⟨k,c,e,z.sameBut hs (cne y c e)⟩
  ·obtain ⟨w',z⟩:=I.cell y c e
   exact ⟨w',z.sameBut hs (cne y c e)⟩
  ·obtain ⟨e,n,ne,nf,d⟩:=I.pin p hp
   exact ⟨(hs.2 p.1 ne).trans e,n,ne,nf,d⟩
 ·have hfn:X.fn x=true:=by
   rcases hf with z|z
   ·exact z
   ·rw[z] at hk;cases hk
  obtain ⟨c,hc⟩:=I.ok.has x (.inl hk)
  obtain ⟨w',z⟩:=I.cell x c hc
  refine wpAny_storeName_cell I.ok.kind hk hc z (fun h' hc' hs=>?_)
  obtain ⟨oc,hoc,hocd⟩:=id z
  refine h {s with heap:=h'} ⟨I.ok,I.os,I.bare,⟨fun b o e n hb hx=>?_,fun b o e n hb hx=>?_,I.base.free,fun b o e hx=>?_,I.base.tups,I.base.frzs,I.base.tbls⟩,⟨m,hn.sameBut hs (Ne.symm (cne x c hc)),fun j y v' e1 e2 e3=>?_⟩,fun y c' e=>?_,I.free,I.freeC,fun p hp=>?_,tracked ⟨oc,hoc,I.freeC x c hc⟩ hs,by simpa using I.len⟩ ⟨c,hs,.inr hc⟩
  ·exact (hs.2 b (Nat.ne_of_lt (Nat.lt_of_lt_of_le (Heap.lt_size e) (I.ok.cab x c hfn hc)))).trans (I.base.keep b o e n hb hx)
  ·obtain ⟨sl,e1⟩:=I.base.slot b o e n hb hx
   exact ⟨sl,(hs.2 b (Nat.ne_of_lt (Nat.lt_of_lt_of_le (Heap.lt_size e) (I.ok.cab x c hfn hc)))).trans e1⟩
  ·obtain ⟨o',e1⟩:=I.base.there b o e hx
   exact ⟨o',(hs.2 b (Nat.ne_of_lt (Nat.lt_of_lt_of_le (Heap.lt_size e) (I.ok.cab x c hfn hc)))).trans e1⟩
  ·by_cases hj:j=i
   ·subst hj
    rw[hi] at e1;cases e1
    rw[List.getElem?_set_self hiσ] at e2
    cases e2
    exact ⟨u,r,.inr ⟨.inl hk,c,hc,hc'⟩⟩
   ·rw[List.getElem?_set_ne (Ne.symm hj)] at e2
    obtain ⟨u',r',q⟩:=hl j y v' e1 e2 e3
    refine ⟨u',r',?_⟩
    rcases q with q|⟨k,c',e,z'⟩
    ·exact .inl q
    ·refine .inr ⟨k,c',e,z'.sameBut hs ?_⟩
     rintro rfl
     exact hj (rZ hN e1 (I.ok.inj _ _ _ e hc▸hi))
  ·by_cases hcc:c'=c
   ·subst hcc;exact ⟨_,hc'⟩
   ·obtain ⟨w2,z2⟩:=I.cell y c' e
    exact ⟨w2,z2.sameBut hs hcc⟩
  ·obtain ⟨e,n,ne,nf,d⟩:=I.pin p hp
   refine ⟨(hs.2 p.1 ?_).trans e,n,ne,nf,d⟩
   intro q
   rw[q,hoc] at e
   have q':oc=p.2:=Option.some.inj e
   exact d w' (by rw[<-q'];exact hocd)
theorem l6{M:Model}{A:Around}{E:Value->Shared->Prop}{i:Nat}{x:Str}{v:V}{u:Value}{Q:Unit->Shared->Prop}(I:Inv X pins σ H s)(hN:X.N.Nodup)(hi:X.N[i]? = some x)(hx:Loc X.env.scope x)(r:bF v u)
  (h:∀ s',Inv X pins (σ.set i (some v)) H s'->Q () s') (hf:X.fn x=true\/X.env.scope.names.lookup x=some .local):wpAny M A (storeName X.env x u) Q E s:=
 vX I hN hi hx r (fun s' I' _=>h s' I') hf
theorem Inv.call'{s':Shared}{ch:List Addr}(I:Inv X pins σ H s)(ho:s'.os=s.os)(u:Un (frs X.stack) ch H H' s.heap s'.heap)(hok:HOk X.prog X.w H' s'.heap)(hg:AllBare s'.gens)
  (hch:∀ b∈ch,(b∈X.ex\/X.s₀.heap.objs.size<=b)/\b≠X.env.locals/\(∀ x c,X.env.cells.lookup x=some c->c≠b)/\∀ p∈X.pn++pins,p.1≠b):Inv X pins σ H' s':=by
 obtain ⟨h',g',d',t',o'⟩:=s'
 have e:o'=s.os:=ho
 subst e
 exact I.call (g':=g') (t':=t') (d':=d') u hok hg hch
end
abbrev XK:=Value->Option Addr->Hp->Prop
abbrev St:=List (Option V)
abbrev VK:=V->Hp->Prop
abbrev TE:=St->Hp->VK->Prop
abbrev TT:=St->Hp->(Bool->Hp->Prop)->Prop
abbrev TA:=St->Hp->(List V->Hp->Prop)->Prop
structure iP where
 nx:St->Hp->Prop
 rt:VK
 bk:St->Hp->Prop:=fun _ _=>False
 ct:St->Hp->Prop:=fun _ _=>False
abbrev TS:=iP->St->Hp->Prop
def EP(X:Cx)(pins:List (Addr×Obj))(σ:St)(Q:VK)(u:Value)(s':Shared):Prop:=∃ v H',Inv X pins σ H' s'/\bF v u/\Q v H'
def TP(X:Cx)(pins:List (Addr×Obj))(σ:St)(Q:Bool->Hp->Prop)(b:Bool)(s':Shared):Prop:=∃ H',Inv X pins σ H' s'/\Q b H'
def AP(X:Cx)(pins:List (Addr×Obj))(σ:St)(Q:List V->Hp->Prop)(us:List Value)(s':Shared):Prop:=∃ vs H',Inv X pins σ H' s'/\bB vs us/\Q vs H'
def SP(X:Cx)(pins:List (Addr×Obj))(D:iP)(f:Flow)(s':Shared):Prop:=
 match f with
 | .next=>∃ σ' H',Inv X pins σ' H' s'/\D.nx σ' H'
 | .brk=>∃ σ' H',Inv X pins σ' H' s'/\D.bk σ' H'
 | .cont=>∃ σ' H',Inv X pins σ' H' s'/\D.ct σ' H'
 | .ret u=>∃ v σ' H',Inv X pins σ' H' s'/\bF v u/\D.rt v H'
def PE(X:Cx)(e:Expr)(t:TE):Prop:=
 ∀ (pins:List (Addr×Obj)) (s:Shared) (σ:St) (H:Hp) (Q:VK),Inv X pins σ H s->t σ H Q->wpAny (model X.prog X.w) X.A (eval e X.env) (EP X pins σ Q) X.xe s
def PT(X:Cx)(e:Expr)(t:TT):Prop:=
 ∀ (pins:List (Addr×Obj)) (s:Shared) (σ:St) (H:Hp) (Q:Bool->Hp->Prop),Inv X pins σ H s->t σ H Q->wpAny (model X.prog X.w) X.A (isTrue e X.env (eval e X.env)) (TP X pins σ Q) X.xe s
def PW(X:Cx)(e:Expr)(t:TT):Prop:=
 ∀ (whole:Sem Value) (pins:List (Addr×Obj)) (s:Shared) (σ:St) (H:Hp) (Q:Bool->Hp->Prop),Inv X pins σ H s->t σ H Q->wpAny (model X.prog X.w) X.A (isTrue e X.env whole) (TP X pins σ Q) X.xe s
theorem PW.pt{X:Cx}{e:Expr}{t:TT}(h:PW X e t):PT X e t:=h _
def PA(X:Cx)(es:List Expr)(t:TA):Prop:=
 ∀ (pos:Pos) (pins:List (Addr×Obj)) (s:Shared) (σ:St) (H:Hp) (Q:List V->Hp->Prop),Inv X pins σ H s->t σ H Q->wpAny (model X.prog X.w) X.A (spliced (backTo pos (starEach es X.env))) (AP X pins σ Q) X.xe s
def PS(X:Cx)(st:Stmt)(t:TS):Prop:=
 ∀ (pins:List (Addr×Obj)) (s:Shared) (σ:St) (H:Hp) (D:iP),Inv X pins σ H s->t D σ H->wpAny (model X.prog X.w) X.A (exec st X.env) (SP X pins D) X.xe s
def PSs(X:Cx)(st:List Stmt)(t:TS):Prop:=
 ∀ (pins:List (Addr×Obj)) (s:Shared) (σ:St) (H:Hp) (D:iP),Inv X pins σ H s->t D σ H->wpAny (model X.prog X.w) X.A (execs st X.env) (SP X pins D) X.xe s
theorem thn{α:Type}{t:Sem α}{Q Q':α->Shared->Prop}{M:Model}{A:Around}{E:Value->Shared->Prop}{s:Shared}(h:wpAny M A t Q E s)(hQ:∀ a s,Q a s->Q' a s):wpAny M A t Q' E s:=wpAny_mono h hQ fun _ _ x=>x
end L2
namespace L2
open PySem PySem.Spec PyProof.Rows
section
variable{X:Cx}
def fM(i:Nat):TE:=fun σ H Q=>∃ v,σ[i]? = some (some v)/\Q v H
def tC(v:V):TE:=fun _ H Q=>Q v H
theorem aKF{i:Nat}{x:Str}{pos:Pos}(hN:X.N[i]? = some x)(hv:Vis X.env.scope x)(hd:(x == ("__debug__":Str))=false:=by decide)(hcd:(x == ("__classdict__":Str))=false:=by decide):PE X (.Name x pos) (fM i):=by
 intro pins s σ H Q I h
 obtain ⟨v,e,h⟩:=h
 obtain ⟨m,hn,hl⟩:=I.loc
 obtain ⟨u,r,l⟩:=hl i x v hN e hv
 have fin:EP X pins σ Q u s:=⟨v,H,I,r,h⟩
 rcases l with ⟨hk,hm⟩|⟨hk,c,hc,hcell⟩
 ·exact wpAny_Name (wpAny_loadName_local I.ok.kind hk hn hm fin) hd
 ·rcases hk with hk|hk
  · exact wpAny_Name (wpAny_loadName_cell I.ok.kind hk hc hcell fin) hd
  · exact wpAny_Name (wpAny_loadName_free I.ok.kind hk hc hcell fin hcd) hd
theorem aKG{i j pos}:PE X (.Constant (.int i) j pos) (tC (.int i)):=fun _ _ _ H _ I h=>wpAny_Constant_int ⟨.int i,H,I.tok _,⟨_,rfl⟩,h⟩
theorem aM8{b j pos}:PE X (.Constant (.bool b) j pos) (tC (.bl b)):=fun _ _ _ H _ I h=>Constant_bool ⟨.bl b,H,I,rfl,h⟩
theorem aKH{j pos}:PE X (.Constant .none j pos) (tC .non):=fun _ _ _ H _ I h=>Constant_none ⟨.non,H,I,rfl,h⟩
theorem xR{x j pos}:PE X (.Constant (.str x) j pos) (tC (.str x)):=fun _ _ _ H _ I h=>Calls.Constant_str ⟨.str x,H,I.tok _,⟨_,rfl⟩,h⟩
def Gl(X:Cx)(x:Str):Prop:=X.env.kindOf x=some .globalImplicit
theorem lR{E:Value->Shared->Prop}{pins:List (Addr×Obj)}{s:Shared}{σ:St}{H:Hp}{x:Str}{u:Value}{pos:Pos}{Q:Value->Shared->Prop}(I:Inv X pins σ H s)(hg:Gl X x)(hm:X.mg x=some u)(h:Q u s)
  (hd:(x == ("__debug__":Str))=false:=by decide):wpAny (model X.prog X.w) X.A (eval (.Name x pos) X.env) Q E s:=
 Calls.Name_function_global I.ok.kind hg (Calls.loadGlobal_global (by rw[I.ok.glob];exact I.mod.glob.keeps I.bk) hm h) hd
theorem nR{E:Value->Shared->Prop}{pins:List (Addr×Obj)}{s:Shared}{σ:St}{H:Hp}{x:Str}{u:Value}{pos:Pos}{Q:Value->Shared->Prop}(I:Inv X pins σ H s)(hg:Gl X x)(hm:X.mg x=none)(hv:bootBuiltins x=some u)(h:Q u s)
  (hn:x≠"__name__":=by decide) (hd:(x == ("__debug__":Str))=false:=by decide):wpAny (model X.prog X.w) X.A (eval (.Name x pos) X.env) Q E s:=by
 obtain ⟨mb,h1,h2⟩:=I.mod.blt
 exact Calls.Name_function_global I.ok.kind hg (Calls.loadGlobal_builtin (by rw[I.ok.glob];exact I.mod.glob.keeps I.bk) hm (by rw[I.ok.blt];exact h1.keeps I.bk) ((h2 x hn).trans hv) h) hd
theorem j7{x:Str}{v:V}{u:Value}{pos:Pos}(hg:Gl X x)(hm:X.mg x=some u)(r:bF v u)(hd:(x == ("__debug__":Str))=false:=by decide):PE X (.Name x pos) (tC v):=
 fun _ _ _ H _ I h=>lR I hg hm ⟨v,H,I,r,h⟩ hd
theorem gF{x:Str}{v:V}{u:Value}{pos:Pos}(hg:Gl X x)(hm:X.mg x=none)(hv:bootBuiltins x=some u)(r:bF v u)(hn:x≠"__name__":=by decide)(hd:(x == ("__debug__":Str))=false:=by decide):PE X (.Name x pos) (tC v):=
 fun _ _ _ H _ I h=>nR I hg hm hv ⟨v,H,I,r,h⟩ hn hd
variable{a b:Expr}{ta tb:TE}{pos:Pos}
def PC(X:Cx)(op:CmpOp)(a b:Expr)(t:TE):Prop:=
 ∀ (pins:List (Addr×Obj)) (s:Shared) (σ:St) (H:Hp) (Q:VK),Inv X pins σ H s->t σ H Q->
  wpAny (model X.prog X.w) X.A (eval a X.env) (fun v s₁=>wpAny (model X.prog X.w) X.A (eval b X.env) (fun u s₂=>wpAny (model X.prog X.w) X.A (compareOp op v u) (EP X pins σ Q) X.xe s₂) X.xe s₁) X.xe s
theorem aFL(b:Expr){op:CmpOp}(h:op≠.In)(h2:op≠.NotIn):behindInMarks op b=false:=by
 have e1:(op == CmpOp.In)=false:=by cases op<;>first|rfl|exact absurd rfl h
 have e2:(op == CmpOp.NotIn)=false:=by cases op<;>first|rfl|exact absurd rfl h2
 cases b<;>simp[behindInMarks,e1,e2]
def tB(t:TE):TT:=fun σ H Q=>t σ H fun x H1=>∃ c,x=.bl c/\Q c H1
theorem cK{op:CmpOp}{t:TE}(h:PC X op a b t)(h1:behindInMarks op b=false:=by first|exact aFL _ (by decide) (by decide)|rfl):PT X (.Compare a [op] [b] pos) (tB t):=by
 intro pins s σ H Q I hw
 refine wpAny_isTrue_Compare1 (thn (h pins s σ H _ I hw) fun v s1 h1=>thn h1 fun u s2 h2=>thn h2 fun c s3 zz0=>?_) h1
 obtain ⟨x,H1,I1,r1,q1⟩:=zz0
 obtain ⟨d,rfl,q⟩:=q1
 cases r1
 exact wpAny_truthy_bool ⟨H1,I1,q⟩
theorem fN{e:Expr}{t:TE}(h:PE X e t)(he:∀ whole,isTrue e X.env whole=(do let v <-whole;standAt e.pos;holding [v] (truthy v)):=by intro _;rfl):PT X e (tB t):=by
 intro pins s σ H Q I hw
 refine isTrue_plain (thn (h pins s σ H _ I hw) fun v s1 zz0=>?_) (he _)
 obtain ⟨x,H1,I1,r1,q1⟩:=zz0
 obtain ⟨d,rfl,q⟩:=q1
 cases r1
 exact wpAny_truthy_bool ⟨H1,I1,q⟩
variable{tA tB':TT}{rest:List Expr}
def aKI(t u:TT):TT:=fun σ H Q=>t σ H fun c H1=>if c=true then u σ H1 Q else Q false H1
def tOr(t u:TT):TT:=fun σ H Q=>t σ H fun c H1=>if c=true then Q true H1 else u σ H1 Q
def aOJ(t:TT):TT:=fun σ H Q=>t σ H fun c H1=>Q (!c) H1
theorem j8(ha:PT X a tA):PW X (.BoolOp .And [a] pos) tA:=by
 intro wh pins s σ H Q I h
 refine isTrue_and (thn (ha pins s σ H Q I h) fun c s1 e=>?_)
 cases c with
 | true=>exact isTrue_and_nil e
 | false=>exact e
theorem kX(ha:PT X a tA):PW X (.BoolOp .Or [a] pos) tA:=by
 intro wh pins s σ H Q I h
 refine isTrue_or (thn (ha pins s σ H Q I h) fun c s1 e=>?_)
 cases c with
 | false=>exact isTrue_or_nil e
 | true=>exact e
theorem kY(ha:PT X a tA)(hb:PW X (.BoolOp .And (b::rest) pos) tB'):PW X (.BoolOp .And (a::b::rest) pos) (aKI tA tB'):=by
 intro wh pins s σ H Q I h
 refine isTrue_and (thn (ha pins s σ H _ I h) fun c s1 zz0=>?_)
 obtain ⟨H1,I1,q1⟩:=zz0
 cases c with
 | true=>exact hb wh pins s1 σ H1 Q I1 q1
 | false=>exact ⟨H1,I1,q1⟩
theorem jN(ha:PT X a tA)(hb:PW X (.BoolOp .Or (b::rest) pos) tB'):PW X (.BoolOp .Or (a::b::rest) pos) (tOr tA tB'):=by
 intro wh pins s σ H Q I h
 refine isTrue_or (thn (ha pins s σ H _ I h) fun c s1 zz0=>?_)
 obtain ⟨H1,I1,q1⟩:=zz0
 cases c with
 | true=>exact ⟨H1,I1,q1⟩
 | false=>exact hb wh pins s1 σ H1 Q I1 q1
theorem f9(ha:PT X a tA):PT X (.UnaryOp .Not a pos) (aOJ tA):=by
 intro pins s σ H Q I h
 exact isTrue_not (ha pins s σ H (fun c H1=>Q (!c) H1) I h)
def aM9(ta tb:TE):TE:=fun σ H Q=>ta σ H fun x H1=>∃ c,x=.bl c/\if c=true then tb σ H1 Q else Q (.bl false) H1
def aNA(ta:TE):TE:=fun σ H Q=>ta σ H fun x H1=>∃ c,x=.bl c/\Q (.bl (!c)) H1
theorem aKJ{op}{t:TE}(h:PE X a t):PE X (.BoolOp op [a] pos) t:=fun pins s σ H Q I hw=>BoolOp_one (h pins s σ H Q I hw)
theorem aKK(ha:PE X a ta)(hb:PE X (.BoolOp .And (b::rest) pos) tb):PE X (.BoolOp .And (a::b::rest) pos) (aM9 ta tb):=by
 intro pins s σ H Q I h
 refine BoolOp_and (thn (ha pins s σ H _ I h) fun v s1 zz0=>?_)
 obtain ⟨x,H1,I1,r1,q1⟩:=zz0
 obtain ⟨c,rfl,q1⟩:=q1
 cases r1
 refine wpAny_truthy_bool ?_
 cases c with
 | true=>exact hb pins s1 σ H1 Q I1 q1
 | false=>exact ⟨.bl false,H1,I1,rfl,q1⟩
theorem aKL(ha:PE X a ta):PE X (.UnaryOp .Not a pos) (aNA ta):=by
 intro pins s σ H Q I h
 refine UnaryOp_ (thn (ha pins s σ H _ I h) fun v s1 zz0=>?_)
 obtain ⟨x,H1,I1,r1,q1⟩:=zz0
 obtain ⟨c,rfl,q1⟩:=q1
 cases r1
 exact not_of (wpAny_truthy_bool ⟨.bl (!c),H1,I1,rfl,q1⟩)
def tIf(t:TT)(ta tb:TE):TE:=fun σ H Q=>t σ H fun c H1=>if c=true then ta σ H1 Q else tb σ H1 Q
theorem aFM{c:Expr}(hc:PT X c tA)(ha:PE X a ta)(hb:PE X b tb):PE X (.IfExp c a b pos) (tIf tA ta tb):=by
 intro pins s σ H Q I h
 refine wpAny_IfExp (thn (hc pins s σ H _ I h) fun d s1 zz0=>?_)
 obtain ⟨H1,I1,q1⟩:=zz0
 cases d with
 | true=>exact ha pins s1 σ H1 Q I1 q1
 | false=>exact hb pins s1 σ H1 Q I1 q1
end
end L2
namespace L2
open PySem PySem.Spec PyProof.Rows
def SqL(K:Frag)(H:Hp)(a:Addr)(xs:List V):Prop:=
 Rd H a (.lst xs) \/
  ∃ (o:Obj) (its:Array Value) (n:Nat),K.lookup a=some o/\o.cls=.type "list"/\o.dict=none/\o.data=.seq its n/\its.size<=sizeLine/\bB xs its.toList
def SqT(K:Frag)(H:Hp)(a:Addr)(xs:List V):Prop:=
 Rd H a (.tup xs) \/
  ∃ (o:Obj) (its:Array Value) (n:Nat),K.lookup a=some o/\(o.cls=.type "tuple"/\o.dict=none)/\o.data=.seq its n/\its.size<=sizeLine/\bB xs its.toList
noncomputable def aOK:Value->Option V
 | .none=>some .non
 | .bool b=>some (.bl b)
 | .int i _=>some (.int i)
 | .str x _=>some (.str x)
 | .bytes b _=>some (.byt b)
 | .float b _=>some (.flt b)
 | .ref a=>some (.ref a)
 | .type n=>some (.ty n)
 | _=>none
theorem bF.abs{x:V}{u:Value}(r:bF x u):aOK u=some x:=by
 cases x with
 | non=>cases r;rfl
 | bl _=>cases r;rfl
 | int _=>obtain ⟨t,rfl⟩:=r;rfl
 | str _=>obtain ⟨t,rfl⟩:=r;rfl
 | byt _=>obtain ⟨t,rfl⟩:=r;rfl
 | flt _=>obtain ⟨t,rfl⟩:=r;rfl
 | ref _=>cases r;rfl
 | ty _=>cases r;rfl
theorem bF.inj{x y:V}{u:Value}(r:bF x u)(q:bF y u):x=y:=Option.some.inj (r.abs.symm.trans q.abs)
theorem bB.inj:∀ {xs ys:List V} {us:List Value},bB xs us->bB ys us->xs=ys
 | _,_,_,.nil,.nil=>rfl
 | _,_,_,.cons r t,.cons r' t'=>by rw[r.inj r',bB.inj t t']
section
variable{X:Cx}{pins:List (Addr×Obj)}{σ:St}{H:Hp}{s:Shared}{a:Addr}{xs ys:List V}
theorem SqL.of{K:Frag}(h:H a=some (.lst xs)):SqL K H a xs:=.inl (.inl h)
theorem SqT.of{K:Frag}(h:H a=some (.tup xs)):SqT K H a xs:=.inl (.inl h)
theorem Inv.list(I:Inv X pins σ H s)(h:SqL X.K H a xs):∃ its:List Value,bB xs its/\PlainL s.heap a its.toArray/\xs.length<=sizeLine:=by
 rcases h with h|⟨o,its,n,hk,hc,hd,hs,hz,r⟩
 ·obtain ⟨z,its,n,r,e⟩:=h.ok I.hok
  exact ⟨its,r,⟨_,n,e,rfl,rfl,rfl⟩,z⟩
 ·refine ⟨its.toList,r,⟨o,n,I.kIn a o hk,hc,hd,by simpa using hs⟩,?_⟩
  have e:=r.length
  simp only[Array.length_toList] at e
  omega
theorem Inv.tuple(I:Inv X pins σ H s)(h:SqT X.K H a xs):∃ its:List Value,bB xs its/\IsTup s.heap a its.toArray/\xs.length<=sizeLine:=by
 rcases h with h|⟨o,its,n,hk,hc,hs,hz,r⟩
 ·obtain ⟨z,its,r,p⟩:=h.ok I.hok
  exact ⟨its,r,p.t,z⟩
 ·refine ⟨its.toList,r,⟨o,I.kIn a o hk,hc.1,n,by simpa using hs⟩,?_⟩
  have e:=r.length
  simp only[Array.length_toList] at e
  omega
theorem Inv.list_inj(I:Inv X pins σ H s)(h:SqL X.K H a xs)(h':SqL X.K H a ys):xs=ys:=by
 obtain ⟨its,r,⟨o,n,e,_,_,d⟩,_⟩:=I.list h
 obtain ⟨its',r',⟨o',n',e',_,_,d'⟩,_⟩:=I.list h'
 rw[e] at e';cases e'
 rw[d] at d'
 injection d' with d1 _
 have:its=its':=by simpa using congrArg Array.toList d1
 subst this
 exact r.inj r'
theorem Inv.tuple_inj(I:Inv X pins σ H s)(h:SqT X.K H a xs)(h':SqT X.K H a ys):xs=ys:=by
 obtain ⟨its,r,⟨o,e,_,n,d⟩,_⟩:=I.tuple h
 obtain ⟨its',r',⟨o',e',_,n',d'⟩,_⟩:=I.tuple h'
 rw[e] at e';cases e'
 rw[d] at d'
 injection d' with d1 _
 have:its=its':=by simpa using congrArg Array.toList d1
 subst this
 exact r.inj r'
end
abbrev Cx.wish(X:Cx)(E:Value->Shared->Prop):Cx:={X with xe:=E}
abbrev Cx.nox(X:Cx):Cx:=X.wish fun _ _=>False
theorem Cx.Ok.wish{X:Cx}(ok:X.Ok)(E:Value->Shared->Prop):(X.wish E).Ok:=
 ⟨ok.mod,ok.kind,ok.glob,ok.blt,ok.above,ok.inj,ok.has,ok.cab,ok.hd,ok.frames,ok.stk,ok.exf,ok.bs,ok.bsz,ok.noex,ok.exfs,ok.funs,ok.frf⟩
theorem Cx.Ok.unwish{X:Cx}{E:Value->Shared->Prop}(ok:(X.wish E).Ok):X.Ok:=
 ⟨ok.mod,ok.kind,ok.glob,ok.blt,ok.above,ok.inj,ok.has,ok.cab,ok.hd,ok.frames,ok.stk,ok.exf,ok.bs,ok.bsz,ok.noex,ok.exfs,ok.funs,ok.frf⟩
section
variable{X:Cx}{pins:List (Addr×Obj)}{σ:St}{H:Hp}{s:Shared}{E:Value->Shared->Prop}
theorem Inv.wish(I:Inv X pins σ H s)(E:Value->Shared->Prop):Inv (X.wish E) pins σ H s:=⟨I.ok.wish E,I.os,I.bare,I.base,I.loc,I.cell,I.free,I.freeC,I.pin,I.hok,I.len⟩
theorem Inv.unwish(I:Inv (X.wish E) pins σ H s):Inv X pins σ H s:=⟨I.ok.unwish,I.os,I.bare,I.base,I.loc,I.cell,I.free,I.freeC,I.pin,I.hok,I.len⟩
theorem SP.unwish{D:iP}{f:Flow}{s':Shared}(h:SP (X.wish E) pins D f s'):SP X pins D f s':=by
 cases f with
 | next=>obtain ⟨σ',H',I,q⟩:=h;exact ⟨σ',H',I.unwish,q⟩
 | brk=>obtain ⟨σ',H',I,q⟩:=h;exact ⟨σ',H',I.unwish,q⟩
 | cont=>obtain ⟨σ',H',I,q⟩:=h;exact ⟨σ',H',I.unwish,q⟩
 | ret u=>obtain ⟨v,σ',H',I,r,q⟩:=h;exact ⟨v,σ',H',I.unwish,r,q⟩
theorem PE.nox{e:Expr}{t:TE}(h:PE X.nox e t):PE X e t:=fun pins s σ H Q I hw=>
 wpAny_mono (h pins s σ H Q (I.wish _) hw) (fun _ _ ⟨v,H',I',r,q⟩=>⟨v,H',I'.unwish,r,q⟩) fun _ _ z=>False.elim z
theorem PT.nox{e:Expr}{t:TT}(h:PT X.nox e t):PT X e t:=fun pins s σ H Q I hw=>
 wpAny_mono (h pins s σ H Q (I.wish _) hw) (fun _ _ ⟨H',I',q⟩=>⟨H',I'.unwish,q⟩) fun _ _ z=>False.elim z
theorem PSs.nox{st:List Stmt}{t:TS}(h:PSs X.nox st t):PSs X st t:=fun pins s σ H D I hw=>
 wpAny_mono (h pins s σ H D (I.wish _) hw) (fun _ _ q=>q.unwish) fun _ _ z=>False.elim z
end
section
variable{X:Cx}{st:Stmt}{rest:List Stmt}{t u:TS}{e:Expr}{te:TE}{pos:Pos}
def aNB:TS:=fun D σ H=>D.nx σ H
def aOL(t u:TS):TS:=fun D σ H=>t {D with nx:=u D} σ H
theorem cD:PSs X [] aNB:=fun _ _ σ H _ I h=>wpAny_execs_nil ⟨σ,H,I,h⟩
theorem aD(h1:PS X st t)(h2:PSs X rest u):PSs X (st::rest) (aOL t u):=by
 intro pins s σ H D I h
 refine wpAny_execs_cons (thn (h1 pins s σ H {D with nx:=u D} I h) fun f s1 q=>?_)
 cases f with
 | next=>
  obtain ⟨σ',H',I',q⟩:=q
  exact h2 pins s1 σ' H' D I' q
 | ret v=>exact q
 | brk=>exact q
 | cont=>exact q
theorem aQ(h1:PS X st t):PSs X [st] t:=by
 intro pins s σ H D I h
 refine wpAny_execs_cons (thn (h1 pins s σ H D I h) fun f s1 q=>?_)
 cases f with
 | next=>exact wpAny_execs_nil q
 | ret v=>exact q
 | brk=>exact q
 | cont=>exact q
theorem Inv.quiet{pins:List (Addr×Obj)}{σ:St}{H:Hp}{s:Shared}(I:Inv X pins σ H s):interactive X.env=false:=by simp[interactive,I.ok.kind]
def xD(te:TE):TS:=fun D σ H=>te σ H fun _ H1=>D.nx σ H1
theorem gG(he:PE X e te)(hs:swapsWith e none pos.line X.env=pure false:=by rfl):PS X (.Expr e pos) (xD te):=by
 intro pins s σ H D I h
 exact wpAny_Expr_any (thn (he pins s σ H _ I h) fun v s1 ⟨x,H1,I1,r1,q1⟩=>⟨σ,H1,I1,q1⟩) I.quiet hs
def aOM(te:TE):TS:=fun D σ H=>te σ H D.rt
theorem bG(he:PE X e te):PS X (.Return (some e) pos) (aOM te):=by
 intro pins s σ H D I h
 exact wpAny_Return_some (thn (he pins s σ H _ I h) fun v s1 ⟨x,H1,I1,r1,q1⟩=>⟨x,σ,H1,I1,r1,q1⟩)
def aON(c:TT)(t u:TS):TS:=fun D σ H=>c σ H fun b H1=>if b=true then t D σ H1 else u D σ H1
theorem dF{c:Expr}{a b:List Stmt}{tc:TT}(hc:PT X c tc)(ha:PSs X a t)(hb:PSs X b u):PS X (.If c a b pos) (aON tc t u):=by
 intro pins s σ H D I h
 refine wpAny_If (thn (hc pins s σ H _ I h) fun d s1 zz0=>?_)
 obtain ⟨H1,I1,q1⟩:=zz0
 cases d with
 | true=>exact ha pins s1 σ H1 D I1 q1
 | false=>exact hb pins s1 σ H1 D I1 q1
end
abbrev TG:=V->St->Hp->(St->Hp->Prop)->Prop
abbrev TGs:=List V->St->Hp->(St->Hp->Prop)->Prop
def PG(X:Cx)(target:Expr)(t:TG):Prop:=
 ∀ (pins:List (Addr×Obj)) (s:Shared) (σ:St) (H:Hp) (v:V) (u:Value) (Q:St->Hp->Prop),Inv X pins σ H s->bF v u->t v σ H Q->
  wpAny (model X.prog X.w) X.A (assign target X.env u) (fun _ s'=>∃ σ' H',Inv X pins σ' H' s'/\Q σ' H') X.xe s
def PGs(X:Cx)(ts:List Expr)(t:TGs):Prop:=
 ∀ (pins:List (Addr×Obj)) (s:Shared) (σ:St) (H:Hp) (vs:List V) (us:List Value) (Q:St->Hp->Prop),Inv X pins σ H s->bB vs us->t vs σ H Q->
  wpAny (model X.prog X.w) X.A (assignInOrder ((assignEach ts X.env).map (·.2)) us) (fun _ s'=>∃ σ' H',Inv X pins σ' H' s'/\Q σ' H') X.xe s
abbrev aBY:=V->V->V->Hp->(Hp->Prop)->Prop
def aKM(X:Cx)(t:aBY):Prop:=
 ∀ (pins:List (Addr×Obj)) (s:Shared) (σ:St) (H:Hp) (o i v:V) (ov iv u:Value) (Q:Hp->Prop),Inv X pins σ H s->bF o ov->bF i iv->bF v u->t o i v H Q->
  wpAny (model X.prog X.w) X.A (setItem ov iv u) (fun _ s'=>∃ H',Inv X pins σ H' s'/\Q H') X.xe s
abbrev TIp:=V->V->Hp->VK->Prop
def PIp(X:Cx)(op:Operator)(t:TIp):Prop:=
 ∀ (pins:List (Addr×Obj)) (s:Shared) (σ:St) (H:Hp) (x y:V) (v u:Value) (Q:VK),Inv X pins σ H s->bF x v->bF y u->t x y H Q->
  wpAny (model X.prog X.w) X.A (inplaceOp op v u) (EP X pins σ Q) X.xe s
section
variable{X:Cx}{pos:Pos}
def jO(i:Nat):TG:=fun v σ H Q=>Q (σ.set i (some v)) H
theorem bJ{i:Nat}{x:Str}(hN:X.N.Nodup)(hi:X.N[i]? = some x)(hx:Loc X.env.scope x)(hf:X.fn x=true\/X.env.scope.names.lookup x=some .local:=by first|exact .inl rfl|exact .inr rfl):PG X (.Name x pos) (jO i):=by
 intro pins s σ H v u Q I r h
 exact wpAny_assign_Name (l6 I hN hi hx r (fun s' I'=>⟨_,H,I',h⟩) hf)
def aBZ:TGs:=fun vs σ H Q=>vs=[]/\Q σ H
def xE(t:TG)(u:TGs):TGs:=fun vs σ H Q=>∃ v r,vs=v::r/\t v σ H fun σ' H'=>u r σ' H' Q
theorem lS:PGs X [] aBZ:=by
 intro pins s σ H vs us Q I r h
 obtain ⟨e,h⟩:=h
 subst e
 cases r
 exact assignInOrder_nil ⟨σ,H,I,h⟩
theorem eD{e:Expr}{es:List Expr}{t:TG}{u:TGs}(h1:PG X e t)(h2:PGs X es u)
  (hs:(assignEach (e::es) X.env).map (·.2)=assign e X.env::(assignEach es X.env).map (·.2):=by rfl):PGs X (e::es) (xE t u):=by
 intro pins s σ H vs us Q I r h
 obtain ⟨v,vr,e1,h⟩:=h
 subst e1
 cases r with
 | cons r rr=>
  rw[hs]
  refine assignInOrder_cons (thn (h1 pins s σ H _ _ _ I r h) fun _ s1 zz0=>?_)
  obtain ⟨σ1,H1,I1,q1⟩:=zz0
  exact h2 pins s1 σ1 H1 _ _ Q I1 rr q1
def aFN(K:Frag)(n:Nat)(t:TGs):TG:=fun v σ H Q=>∃ a xs,v=.ref a/\SqT K H a xs/\xs.length=n/\t xs σ H Q
theorem nS{es:List Expr}{k:Nat}{t:TGs}{n:Nat}(hc:X.calm=true)(h:PGs X es t)
  (hn:(assignEach es X.env).length=n:=by rfl) (hst:(assignEach es X.env).findIdx? (·.1)=none:=by rfl):PG X (.Tuple es k pos) (aFN X.K n t):=by
 intro pins s σ H v u Q I r hw
 obtain ⟨a,xs,e1,hq,hl,hw⟩:=hw
 subst e1
 cases r
 obtain ⟨its,rv,ht,hz⟩:=I.tuple hq
 refine assign_Tuple_tuple (I.ok.hd hc) ht (by simp[hn,<-hl,rv.length]) hst fun h' hx=>?_
 have I1:Inv X pins σ H {s with heap:=h'}:=I.kept (t':=s.toks) fun b o e=>hx b o (Nat.ne_of_lt (Heap.lt_size e)) e
 exact h pins _ σ H xs _ Q I1 (by simpa using rv) hw
def aKN(to ti:TE)(t:aBY):TG:=fun v σ H Q=>to σ H fun o H1=>ti σ H1 fun i H2=>t o i v H2 fun H3=>Q σ H3
theorem nU{o i:Expr}{to ti:TE}{t:aBY}(ho:PE X o to)(hi:PE X i ti)(hs:aKM X t)
  (ha:∀ v,assign (.Subscript o i pos) X.env v=(do
   let ov <-holding [v] (eval o X.env)
   let iv <-holding [v,ov] (eval i X.env)
   standAt pos
   holding [v,ov,iv] (setItem ov iv v)
   release [v,ov,iv] []):=by intro _;rfl):PG X (.Subscript o i pos) (aKN to ti t):=by
 intro pins s σ H v u Q I r h
 rw[ha]
 refine wpAny_bind (wpAny_holding (thn (ho pins s σ H _ I h) fun ov s1 zz0=>?_))
 obtain ⟨x,H1,I1,r1,q1⟩:=zz0
 refine wpAny_bind (wpAny_holding (thn (hi pins s1 σ H1 _ I1 q1) fun iv s2 zz0=>?_))
 obtain ⟨y,H2,I2,r2,q2⟩:=zz0
 refine wpAny_bind (wpAny_standAt (wpAny_bind (wpAny_holding (thn (hs pins s2 σ H2 x y v ov iv u _ I2 r1 r2 r q2) fun _ s3 zz0=>?_))))
 obtain ⟨H3,I3,q3⟩:=zz0
 exact wpAny_release ⟨σ,H3,I3,q3⟩
def l7(te:TE)(g:TG):TS:=fun D σ H=>te σ H fun x H1=>g x σ H1 D.nx
theorem jP{tg e:Expr}{te:TE}{g:TG}(he:PE X e te)(hg:PG X tg g)(hs:swapsWithSole [tg] e pos.line X.env=pure false:=by rfl)(hw:swappedStores [tg] e X.env=pure none:=by rfl)
  (h1:(assignEach [tg] X.env).map (·.2)=[assign tg X.env]:=by rfl):PS X (.Assign [tg] e pos) (l7 te g):=by
 intro pins s σ H D I h
 refine wpAny_Assign_stores (thn (he pins s σ H _ I h) fun v s1 zz0=>?_) hs hw
 obtain ⟨x,H1,I1,r1,q1⟩:=zz0
 rw[h1]
 exact thn (hg pins s1 σ H1 x v _ I1 r1 q1) fun _ s2 q=>q
theorem aN{i:Nat}{x:Str}{e:Expr}{te:TE}{pos':Pos}(hN:X.N.Nodup)(hi:X.N[i]? = some x)(hx:Loc X.env.scope x)(he:PE X e te)(hs:swapsWith e (some (.Name x pos')) pos.line X.env=pure false:=by rfl)(hf:X.fn x=true\/X.env.scope.names.lookup x=some .local:=by exact .inl rfl) :
  PS X (.Assign [.Name x pos'] e pos) (l7 te (jO i)):=by
 intro pins s σ H D I h
 refine wpAny_Assign_Name (thn (he pins s σ H _ I h) fun v s1 zz0=>?_) hs
 obtain ⟨y,H1,I1,r1,q1⟩:=zz0
 exact l6 I1 hN hi hx r1 (fun s2 I2=>⟨_,H1,I2,q1⟩) hf
def aKO(i:Nat)(te:TE)(ti:TIp):TS:=fun D σ H=>∃ x,σ[i]? = some (some x)/\te σ H fun y H1=>ti x y H1 fun z H2=>D.nx (σ.set i (some z)) H2
theorem xS{i:Nat}{x:Str}{e:Expr}{te:TE}{op:Operator}{ti:TIp}{pos':Pos}(hN:X.N.Nodup)(hi:X.N[i]? = some x)(hx:Loc X.env.scope x)(he:PE X e te)(ho:PIp X op ti)(hf:X.fn x=true\/X.env.scope.names.lookup x=some .local:=by first|exact .inl rfl|exact .inr rfl) :
  PS X (.AugAssign (.Name x pos') op e pos) (aKO i te ti):=by
 intro pins s σ H D I h
 obtain ⟨v,e1,h⟩:=h
 obtain ⟨m,hn,hl⟩:=I.loc
 have vis:Vis X.env.scope x:=by rcases hx with k|k;exact .inl k;exact .inr (.inl k)
 obtain ⟨u,r,l⟩:=hl i x v hi e1 vis
 refine wpAny_AugAssign_Name ?_
 have go:wpAny (model X.prog X.w) X.A (eval e X.env) (fun w s₂=>wpAny (model X.prog X.w) X.A (inplaceOp op u w) (fun r s₃=>wpAny (model X.prog X.w) X.A (storeName X.env x r) (fun _=>SP X pins D .next) X.xe s₃) X.xe s₂) X.xe s:=by
  refine thn (he pins s σ H _ I h) fun w s1 zz0=>?_
  obtain ⟨y,H1,I1,r1,q1⟩:=zz0
  refine thn (ho pins s1 σ H1 v y u w _ I1 r r1 q1) fun z s2 zz0=>?_
  obtain ⟨zv,H2,I2,r2,q2⟩:=zz0
  exact l6 I2 hN hi hx r2 (fun s3 I3=>⟨_,H2,I3,q2⟩) hf
 rcases l with ⟨hk,hm⟩|⟨hk,c,hc,hcell⟩
 ·exact wpAny_loadName_local I.ok.kind hk hn hm go
 ·rcases hk with hk|hk
  ·exact wpAny_loadName_cell I.ok.kind hk hc hcell go
  ·rcases hx with k|k
   ·have:X.env.scope.names.lookup x=some .free:=hk
    rw[k] at this;cases this
   ·have:X.env.scope.names.lookup x=some .free:=hk
    rw[k] at this;cases this
def ipI(f:Int->Int->Int):TIp:=fun x y H Q=>∃ i j,x=.int i/\y=.int j/\Q (.int (f i j)) H
theorem aKP:PIp X .Add (ipI fun i j=>i+j):=by
 intro pins s σ H x y v u Q I r1 r2 h
 obtain ⟨i,j,e1,e2,q⟩:=h
 subst e1;subst e2
 obtain ⟨t,rfl⟩:=r1
 obtain ⟨t',rfl⟩:=r2
 exact iadd_int ⟨.int _,H,I.tok _,⟨_,rfl⟩,q⟩
end
section
variable{X:Cx}{pos:Pos}
def aDJ(c:TT)(tb:TS):TS:=fun D σ H=>∃ W:Nat->St->Hp->Prop,(∃ m,W m σ H)/\∀ m σ H,W m σ H->
 c σ H fun b H1=>if b=true then ∃ N:St->Hp->Prop,(∀ σ' H',N σ' H'->∃ m',m' < m/\W m' σ' H')/\tb {D with nx:=N,ct:=N,bk:=D.nx} σ H1 else D.nx σ H1
theorem eK{c:Expr}{body:List Stmt}{tc:TT}{tb:TS}(hp:PassesOwn (model X.prog X.w) X.A X.env X.xe)(hc:PT X c tc)(hb:PSs X body tb):PS X (.While c body [] pos) (aDJ tc tb):=by
 intro pins s σ H D I h
 obtain ⟨W,⟨m0,w0⟩,turn⟩:=h
 refine wpAny_While (codeAny_whileLoop (fun n s'=>∃ σ' H',Inv X pins σ' H' s'/\W n σ' H') ?_ m0 ⟨σ,H,I,w0⟩)
 rintro n s1 ⟨σ1,H1,I1,w1⟩
 refine wpAny_passesOwn hp (thn (hc pins s1 σ1 H1 _ I1 (turn n σ1 H1 w1)) fun b s2 zz0=>?_)
 obtain ⟨H2,I2,q2⟩:=zz0
 cases b with
 | true=>
  obtain ⟨N,hN,q2⟩:=q2
  rw[if_pos rfl]
  refine wpAny_passesOwn hp (thn (hb pins s2 σ1 H2 _ I2 q2) fun f s3 q3=>?_)
  cases f with
  | next=>
   obtain ⟨σ3,H3,I3,n3⟩:=q3
   obtain ⟨m',hm,w3⟩:=hN σ3 H3 n3
   exact ⟨m',hm,σ3,H3,I3,w3⟩
  | cont=>
   obtain ⟨σ3,H3,I3,n3⟩:=q3
   obtain ⟨m',hm,w3⟩:=hN σ3 H3 n3
   exact ⟨m',hm,σ3,H3,I3,w3⟩
  | brk=>exact q3
  | ret v=>exact q3
 | false=>
  rw[if_neg Bool.false_ne_true]
  exact wpAny_execs_nil ⟨σ1,H2,I2,q2⟩
end
structure It where
 go:Nat->Hp->Prop
 yld:Nat->Hp->V->Hp->Prop
 stop:Nat->Hp->Prop
def j9(X:Cx)(pins:List (Addr×Obj))(H:Hp)(b:Addr):Prop:=
 H b=none/\b≠X.env.locals/\b∉X.fs/\(b∈X.ex\/X.s₀.heap.objs.size<=b)/\(∀ x c,X.env.cells.lookup x=some c->c≠b)/\∀ p∈X.pn++pins,p.1≠b
theorem Inv.fpOk{X:Cx}{pins:List (Addr×Obj)}{σ:St}{H H':Hp}{s:Shared}{b:Addr}(I:Inv X pins σ H s)(hb:s.heap.objs.size<=b)(hn:H' b=none):j9 X pins H' b:=by
 refine ⟨hn,Nat.ne_of_gt (Nat.lt_of_lt_of_le I.lt hb),I.nofs hb,.inr (Nat.le_trans I.sz hb),fun x c e z=>?_,fun p hp z=>?_⟩
 ·obtain ⟨v,q⟩:=I.cell x c e
  exact absurd (Nat.lt_of_lt_of_le q.lt (by rw[z];exact hb)) (Nat.lt_irrefl _)
 ·exact absurd (Nat.lt_of_lt_of_le (Heap.lt_size (I.pin p hp).1) (by rw[z];exact hb)) (Nat.lt_irrefl _)
structure Turn(P:Program)(w:World)(K:Frag)(tg:Expr)(J:It)(fp:List Addr)(it:Addr)(tn:Nat->Heap->Prop):Prop where
 mem:it∈fp
 obj:∀ i h,tn i h->∀ b∈fp,∃ o,h.get? b=some o/\∀ v,o.data≠.cell v
 keep:∀ i h h',tn i h->(∀ b∈fp,∀ o,h.get? b=some o->h'.get? b=some o)->tn i h'
 item:∀ (X:Cx),X.prog=P->X.w=w->X.K=K->X.calm=true->∀ (i:Nat) (pins:List (Addr×Obj)) (s:Shared) (σ:St) (H:Hp) (E:Value->Shared->Prop),Inv X pins σ H s->(∀ b∈fp,j9 X pins H b)->tn i s.heap->J.go i H->
  wpAny (model P w) X.A (pyNext (.ref it)) (fun r s1=>∃ u,r=some u /\
   wpAny (model P w) X.A (letOwnedTupleGo tg (.ref it) u) (fun _ s2=>∃ x H',Inv X pins σ H' s2/\bF x u/\J.yld i H x H'/\tn (i+1) s2.heap/\∀ b∈fp,H' b=none) E s1) E s
 done:∀ (X:Cx),X.prog=P->X.w=w->X.K=K->X.calm=true->∀ (i:Nat) (pins:List (Addr×Obj)) (s:Shared) (σ:St) (H:Hp) (E:Value->Shared->Prop),Inv X pins σ H s->(∀ b∈fp,j9 X pins H b)->tn i s.heap->J.stop i H->
  wpAny (model P w) X.A (pyNext (.ref it)) (fun r s1=>r=none/\Inv X pins σ H s1) E s
 self:∀ (A:Around) (i:Nat) (s:Shared) (Q:Value->Shared->Prop) (E:Value->Shared->Prop),tn i s.heap->Q (.ref it) s->wpAny (model P w) A (pyIter (.ref it)) Q E s
abbrev TI:=St->Hp->(It->Hp->Prop)->Prop
def PIE(X:Cx)(pins:List (Addr×Obj))(σ:St)(tg:Expr)(R:It->Hp->Prop)(itv:Value)(s2:Shared):Prop:=
 ∃ (it:Addr) (fp:List Addr) (tn:Nat->Heap->Prop) (J:It) (H':Hp),itv=.ref it/\Inv X pins σ H' s2/\Turn X.prog X.w X.K tg J fp it tn/\tn 0 s2.heap/\(∀ b∈fp,j9 X pins H' b)/\R J H'
def PI(X:Cx)(tg iter:Expr)(wi:TI):Prop:=
 ∀ (pins:List (Addr×Obj)) (s:Shared) (σ:St) (H:Hp) (R:It->Hp->Prop),Inv X pins σ H s->wi σ H R->
  wpAny (model X.prog X.w) X.A (eval iter X.env) (fun v s1=>wpAny (model X.prog X.w) X.A (pyIter v) (PIE X pins σ tg R) X.xe s1) X.xe s
theorem xF {M : Model} {A : Around} {E : Value -> Shared -> Prop} {s : Shared} {tg : Expr} {it : Addr} {u : Value} {o : Obj} {n : String} {vs : Array Value} {Q : Unit -> Shared -> Prop} (ho : s.heap.get? it = some o) (hc : o.cls = .type n) (hd : o.data = .fields vs)
    (hn : ["enumerate", "zip", "dict_itemiterator", "dict_reverseitemiterator", "odict_iterator", "itertools.zip_longest", "itertools.pairwise"].contains n = false) (hQ : Q () s) : wpAny M A (letOwnedTupleGo tg (.ref it) u) Q E s := by
  unfold letOwnedTupleGo
  cases tg <;> first
    | exact wpAny_pure hQ
    | (cases u <;> first
        | exact wpAny_pure hQ
        | (refine wpAny_bind (wpAny_load ho ?_)
           rw [hc, hd]
           show wpAny M A (if (["enumerate", "zip", "dict_itemiterator", "dict_reverseitemiterator", "odict_iterator", "itertools.zip_longest", "itertools.pairwise"].contains n && vs[0]? == some (rawInt _)) = true then _ else _) Q E s
           rw [if_neg (by intro h; rw [hn, Bool.false_and] at h; cases h)]
           exact wpAny_pure hQ))
def Itl(K:Frag)(a:Addr):It:=
 ⟨fun i H=>∃ xs x,SqL K H a xs/\xs[i]? = some x,fun i H x H'=>H'=H/\∀ xs,SqL K H a xs->xs[i]? = some x,fun i H=>∃ xs,SqL K H a xs/\xs.length<=i⟩
def Itt(K:Frag)(a:Addr):It:=
 ⟨fun i H=>∃ xs x,SqT K H a xs/\xs[i]? = some x,fun i H x H'=>H'=H/\∀ xs,SqT K H a xs->xs[i]? = some x,fun i H=>∃ xs,SqT K H a xs/\xs.length<=i⟩
noncomputable def Itr(lo:Int)(n:Nat):It:=⟨fun i _=>i < n,fun i H x H'=>H'=H/\x=.int (lo+i),fun i _=>n<=i⟩
theorem aDK{P:Program}{w:World}{K:Frag}{tg:Expr}(a it:Addr):Turn P w K tg (Itl K a) [it] it (fun i h=>h.IsListIter it a i) where
 mem:=by simp
 obj:=fun i h st b hb=>by
  have e:b=it:=by simpa using hb
  subst e
  obtain ⟨o,e,c,d⟩:=st
  exact ⟨o,e,fun v z=>by rw[d] at z;cases z⟩
 keep:=fun i h h' st k=>st.at fun o e=>k it (by simp) o e
 item:=by
  intro X hP hw hK hc i pins s σ H E I hf st hg
  subst hP hw hK
  obtain ⟨xs,x,hq,hx⟩:=hg
  obtain ⟨its,rv,p,hz⟩:=I.list hq
  obtain ⟨u,hu,ru⟩:=rv.get hx
  obtain ⟨f0,f1,f2,f3,f4,f5⟩:=hf it (by simp)
  refine wpAny_pyNext_list_item st p.isList (x:=u) (by simpa using hu) fun h' st' sb=>?_
  have I1:Inv X pins σ H {s with heap:=h'}:=I.turned (t':=s.toks) (fun b o hb e=>(sb.2 b hb).trans e) f0 f1 f3 f4 f5
  obtain ⟨o,e,c,d⟩:=id st'
  exact ⟨u,rfl,xF (s:={s with heap:=h'}) e c d (by decide) ⟨x,H,I1,ru,⟨rfl,fun ys hy=>by rw[I.list_inj hy hq];exact hx⟩,st',fun b hb=>(hf b hb).1⟩⟩
 done:=by
  intro X hP hw hK hc i pins s σ H E I hf st hg
  subst hP hw hK
  obtain ⟨xs,hq,hx⟩:=hg
  obtain ⟨its,rv,p,hz⟩:=I.list hq
  obtain ⟨f0,f1,f2,f3,f4,f5⟩:=hf it (by simp)
  have hl:=rv.length
  exact wpAny_pyNext_list_end (I.ok.hd hc) st p.isList (by simp;omega) fun h' eb=>⟨rfl,I.turned (t':=s.toks) (fun b o hb e=>eb b o hb e) f0 f1 f3 f4 f5⟩
 self:=fun _ _ _ _ _ st h=>wpAny_pyIter_listiter st h
theorem aB0{P:Program}{w:World}{K:Frag}{tg:Expr}(a it:Addr):Turn P w K tg (Itt K a) [it] it (fun i h=>h.IsTupleIter it a i) where
 mem:=by simp
 obj:=fun i h st b hb=>by
  have e:b=it:=by simpa using hb
  subst e
  obtain ⟨o,e,c,d⟩:=st
  exact ⟨o,e,fun v z=>by rw[d] at z;cases z⟩
 keep:=fun i h h' st k=>st.at fun o e=>k it (by simp) o e
 item:=by
  intro X hP hw hK hc i pins s σ H E I hf st hg
  subst hP hw hK
  obtain ⟨xs,x,hq,hx⟩:=hg
  obtain ⟨its,rv,p,hz⟩:=I.tuple hq
  obtain ⟨u,hu,ru⟩:=rv.get hx
  obtain ⟨f0,f1,f2,f3,f4,f5⟩:=hf it (by simp)
  refine wpAny_pyNext_tuple_item st (show s.heap.IsTuple a its.toArray from p) (x:=u) (by simpa using hu) fun h' st' sb=>?_
  have I1:Inv X pins σ H {s with heap:=h'}:=I.turned (t':=s.toks) (fun b o hb e=>(sb.2 b hb).trans e) f0 f1 f3 f4 f5
  obtain ⟨o,e,c,d⟩:=id st'
  exact ⟨u,rfl,xF (s:={s with heap:=h'}) e c d (by decide) ⟨x,H,I1,ru,⟨rfl,fun ys hy=>by rw[I.tuple_inj hy hq];exact hx⟩,st',fun b hb=>(hf b hb).1⟩⟩
 done:=by
  intro X hP hw hK hc i pins s σ H E I hf st hg
  subst hP hw hK
  obtain ⟨xs,hq,hx⟩:=hg
  obtain ⟨its,rv,p,hz⟩:=I.tuple hq
  obtain ⟨f0,f1,f2,f3,f4,f5⟩:=hf it (by simp)
  have hl:=rv.length
  exact wpAny_pyNext_tuple_end (I.ok.hd hc) st (show s.heap.IsTuple a its.toArray from p) (by simp;omega) fun h' eb=>⟨rfl,I.turned (t':=s.toks) (fun b o hb e=>eb b o hb e) f0 f1 f3 f4 f5⟩
 self:=fun _ _ _ _ _ st h=>wpAny_pyIter_tupleiter st h
theorem aB1{P:Program}{w:World}{K:Frag}{tg:Expr}(it:Addr)(lo:Int)(n:Nat):Turn P w K tg (Itr lo n) [it] it (fun i h=>IsRangeIter h it (lo+(i:Nat) * 1) ((n:Int) - (i:Nat)) 1) where
 mem:=by simp
 obj:=fun i h st b hb=>by
  have e:b=it:=by simpa using hb
  subst e
  exact ⟨_,st,fun v z=>by
   have z':Data.fields _=Data.cell v:=z
   cases z'⟩
 keep:=fun i h h' st k=>k it (by simp) _ st
 item:=by
  intro X hP hw hK hc i pins s σ H E I hf st hg
  subst hP hw hK
  obtain ⟨f0,f1,f2,f3,f4,f5⟩:=hf it (by simp)
  have W:=Walks.range (prog:=X.prog) (w:=X.w) (I.ok.hd hc) it lo 1 n
  refine W.item i s _ _ hg st fun v h' tk hv st' kk=>?_
  obtain ⟨t,rfl⟩:=hv
  have I1:Inv X pins σ H {s with heap:=h',toks:=tk}:=I.turned (fun b o hb e=>kk b o (by simpa using hb) e) f0 f1 f3 f4 f5
  refine ⟨_,rfl,xF (s:={s with heap:=h',toks:=tk}) (n:="range_iterator") st' rfl rfl (by decide) ⟨.int (lo+i),H,I1,⟨t,?_⟩,⟨rfl,rfl⟩,st',fun b hb=>(hf b hb).1⟩⟩
  rw[Int.mul_one]
 done:=by
  intro X hP hw hK hc i pins s σ H E I hf st hg
  subst hP hw hK
  obtain ⟨f0,f1,f2,f3,f4,f5⟩:=hf it (by simp)
  exact wpAny_pyNext_range_end (I.ok.hd hc) st (by have:n<=i:=hg;omega) fun h' eb=>⟨rfl,I.turned (t':=s.toks) (fun b o hb e=>eb b o hb e) f0 f1 f3 f4 f5⟩
 self:=fun _ _ _ _ _ st h=>wpAny_pyIter_rangeiter st h
end L2
namespace L2
open PySem PySem.Spec PyProof.Rows
section
variable{X:Cx}{tg:Expr}
theorem aFO{pins:List (Addr×Obj)}{σ:St}{H:Hp}{s:Shared}{R:It->Hp->Prop}{E:Value->Shared->Prop}{lo hi:Int}{t u v:Tok}{tk:Nat}(I:Inv X pins σ H s)(h1 : -(2 ^ 62)<=lo)(h2:lo < 2 ^ 62)(h3 : -(2 ^ 62)<=hi)(h4:hi < 2 ^ 62)
  (q:R (Itr lo (hi - lo).toNat) H):wpAny (model X.prog X.w) X.A (pyIter (.ref s.heap.objs.size)) (PIE X pins σ tg R) E {s with heap:=s.heap.push {cls:=.type "range",data:=.fields #[.int lo t,.int hi u,.int 1 v]},toks:=tk}:=by
 refine wpAny_pyIter_range (IsRange.new ..) (small_one h1 h2 h3 h4) ?_
 have I1:Inv X pins σ H {s with heap:=s.heap.push {cls:=.type "range",data:=.fields #[.int lo t,.int hi u,.int 1 v]},toks:=tk}:=I.kept fun b o e=>Heap.get?_push_of_some _ e
 refine ⟨(s.heap.push {cls:=.type "range",data:=.fields #[.int lo t,.int hi u,.int 1 v]}).objs.size,[(s.heap.push {cls:=.type "range",data:=.fields #[.int lo t,.int hi u,.int 1 v]}).objs.size],_,_,H,rfl,
  I1.kept (t':=tk) fun b o e=>Heap.get?_push_of_some _ e,aB1 _ lo (hi - lo).toNat,?_,fun b hb=>?_,q⟩
 ·have e1:lo+((0:Nat):Int) * 1=lo:=by simp
  have e2:(((hi - lo).toNat:Nat):Int) - ((0:Nat):Int)=Builtin.Range.rangeSize lo hi 1:=by rw[rangeSize_one];split<;>omega
  show IsRangeIter _ _ (lo+((0:Nat):Int) * 1) ((((hi - lo).toNat:Nat):Int) - ((0:Nat):Int)) 1
  rw[e1,e2]
  exact Heap.get?_push_size _ rfl
 ·have e:b=(s.heap.push {cls:=.type "range",data:=.fields #[.int lo t,.int hi u,.int 1 v]}).objs.size:=by simpa using hb
  subst e
  exact I1.fpOk (Nat.le_refl _) (I1.hok.fresh (Nat.le_refl _))
def aHM(ta:TA):TI:=fun σ H R=>ta σ H fun vs H1=>∃ j:Int,vs=[.int j] /\ -(2 ^ 62)<=j/\j < 2 ^ 62/\R (Itr 0 j.toNat) H1
theorem gQ{a:Expr}{ta:TA}{p pos:Pos}(hg:Gl X "range")(hm:X.mg "range"=none)(ha:PA X [a] ta)(hs:starEach [a] X.env=[(false,eval a X.env)]:=by rfl):PI X tg (.Call (.Name "range" p) [a] [] pos) (aHM ta):=by
 intro pins s σ H R I h
 refine Call_ (nR I hg hm boot_range (PyProof.Rows.callWith_type1 (thn (ha pos pins s σ H _ I h) fun us s1 zz0=>?_) hs rfl))
 obtain ⟨vs,H1,I1,r1,q1⟩:=zz0
 obtain ⟨j,e,q1,q2,q⟩:=q1
 subst e
 cases r1 with
 | cons r rr=>
  cases rr
  obtain ⟨t,rfl⟩:=r
  exact call_range_1 (aFO I1 (by omega) (by omega) q1 q2 (by simpa using q))
def aKQ(wi:TI)(g:TG)(tb:TS):TS:=fun D σ H=>wi σ H fun J H1=>∃ W:Nat->Nat->St->Hp->Prop,(∃ m,W 0 m σ H1)/\∀ i m σ H,W i m σ H->
 (J.stop i H/\D.nx σ H)\/(J.go i H/\∃ N:St->Hp->Prop,(∀ σ' H',N σ' H'->∃ m',m' < m/\W (i+1) m' σ' H')/\∀ x H',J.yld i H x H'->g x σ H' fun σ2 H2=>tb {D with nx:=N,ct:=N,bk:=D.nx} σ2 H2)
noncomputable def pP(fp:List Addr)(h:Heap):List (Addr×Obj):=fp.filterMap fun b=>(h.get? b).map fun o=>(b,o)
theorem lJ{fp:List Addr}{h:Heap}{b:Addr}{o:Obj}(hb:b∈fp)(e:h.get? b=some o):(b,o)∈pP fp h:=List.mem_filterMap.mpr ⟨b,hb,by rw[e];rfl⟩
theorem aDL{fp:List Addr}{h:Heap}{p:Addr×Obj}(hp:p∈pP fp h):p.1∈fp/\h.get? p.1=some p.2:=by
 obtain ⟨b,hb,e⟩:=List.mem_filterMap.mp hp
 cases q:h.get? b with
 | none=>rw[q] at e;cases e
 | some o=>
  rw[q] at e
  have e':(b,o)=p:=Option.some.inj e
  subst e'
  exact ⟨hb,q⟩
theorem Inv.pinned{pins:List (Addr×Obj)}{σ:St}{H:Hp}{s:Shared}{fp:List Addr}(I:Inv X pins σ H s)(hf:∀ b∈fp,j9 X pins H b)(ho:∀ b∈fp,∃ o,s.heap.get? b=some o/\∀ v,o.data≠.cell v):Inv X (pins++pP fp s.heap) σ H s:=
 I.pins_of fun p hp=>(List.mem_append.mp hp).elim (fun z=>I.pin p (List.mem_append_right _ z)) fun z=>by
  obtain ⟨hb,e⟩:=aDL z
  obtain ⟨f0,f1,f2,_⟩:=hf p.1 hb
  obtain ⟨o,e',d⟩:=ho p.1 hb
  rw[e] at e';cases e'
  exact ⟨e,f0,f1,f2,d⟩
theorem Inv.unpinned{pins pl:List (Addr×Obj)}{σ:St}{H:Hp}{s:Shared}(I:Inv X (pins++pl) σ H s):Inv X pins σ H s:=I.pins_of fun p hp=>I.pin p (List.mem_append_right _ (List.mem_append_left _ hp))
theorem c7{iter:Expr}{body:List Stmt}{wi:TI}{g:TG}{tb:TS}{pos:Pos}(hp:PassesOwn (model X.prog X.w) X.A X.env X.xe)(hc:X.calm=true)(hi:PI X tg iter wi)(hg:PG X tg g)(hb:PSs X body tb)
  (hs:∀ x,foldedSetIterable iter X.env x=pure x:=by intro _;rfl):PS X (.For tg iter body [] pos) (aKQ wi g tb):=by
 intro pins s σ H D I h
 refine wpAny_For (thn (hi pins s σ H _ I h) fun v s1 h1=>thn h1 fun itv s2 h2=>?_) hs
 obtain ⟨it,fp,tn,J,H2,e,I2,T,st2,f2,W,⟨m0,w0⟩,turn⟩:=h2
 subst e
 have stat:∀ {H':Hp},(∀ b∈fp,H' b=none)->∀ b∈fp,j9 X pins H' b:=fun hn b hb=>⟨hn b hb,(f2 b hb).2⟩
 refine codeAny_forLoop_any (fun n s'=>∃ i σ' H',Inv X pins σ' H' s'/\tn i s'.heap/\(∀ b∈fp,H' b=none)/\W i n σ' H') ?_ m0 ⟨0,σ,H2,I2,st2,fun b hb=>(f2 b hb).1,w0⟩
 rintro n s3 ⟨i,σ3,H3,I3,st3,fr3,w3⟩
 rcases turn i n σ3 H3 w3 with ⟨stop,qn⟩|⟨go,N,hN,step⟩
 ·refine wpAny_passesOwn hp (thn (T.done X rfl rfl rfl hc i pins s3 σ3 H3 X.xe I3 (stat fr3) st3 stop) fun r s4 zz0=>?_)
  obtain ⟨hr,I4⟩:=zz0
  subst hr
  exact wpAny_execs_nil ⟨σ3,H3,I4,qn⟩
 ·refine wpAny_passesOwn hp (thn (T.item X rfl rfl rfl hc i pins s3 σ3 H3 X.xe I3 (stat fr3) st3 go) fun r s4 zz0=>?_)
  obtain ⟨u,hr,h4⟩:=zz0
  subst hr
  refine wpAny_passesOwn hp (thn h4 fun _ s5 zz0=>?_)
  obtain ⟨x,H5,I5,r5,y5,st5,fr5⟩:=zz0
  have I5':=I5.pinned (stat fr5) (T.obj _ _ st5)
  refine wpAny_passesOwn hp (thn (hg _ s5 σ3 H5 x u _ I5' r5 (step x H5 y5)) fun _ s6 zz0=>?_)
  obtain ⟨σ6,H6,I6,q6⟩:=zz0
  refine wpAny_passesOwn hp (thn (hb _ s6 σ6 H6 _ I6 q6) fun f s7 q7=>?_)
  have again:∀ {σ7:St} {H7:Hp},Inv X (pins++pP fp s5.heap) σ7 H7 s7->N σ7 H7->∃ m,m < n/\∃ i σ' H',Inv X pins σ' H' s7/\tn i s7.heap/\(∀ b∈fp,H' b=none)/\W i m σ' H':=fun {σ7 H7} I7 n7=>by
   obtain ⟨m',hm,w7⟩:=hN σ7 H7 n7
   refine ⟨m',hm,i+1,σ7,H7,I7.unpinned,T.keep _ _ _ st5 fun b hb o e=>(I7.pin (b,o) (List.mem_append_right _ (List.mem_append_right _ (lJ hb e)))).1,fun b hb=>?_,w7⟩
   obtain ⟨o,e,d⟩:=T.obj _ _ st5 b hb
   exact (I7.pin (b,o) (List.mem_append_right _ (List.mem_append_right _ (lJ hb e)))).2.1
  cases f with
  | next=>obtain ⟨σ7,H7,I7,n7⟩:=q7;exact again I7 n7
  | cont=>obtain ⟨σ7,H7,I7,n7⟩:=q7;exact again I7 n7
  | brk=>obtain ⟨σ7,H7,I7,q7⟩:=q7;exact ⟨σ7,H7,I7.unpinned,q7⟩
  | ret v=>obtain ⟨x7,σ7,H7,I7,r7,q7⟩:=q7;exact ⟨x7,σ7,H7,I7.unpinned,r7,q7⟩
end
end L2
namespace L2
open PySem PySem.Spec PyProof.Rows
abbrev R2:=V->V->Hp->VK->Prop
def OpR(X:Cx)(f:Value->Value->Sem Value)(r:R2):Prop:=
 ∀ (pins:List (Addr×Obj)) (s:Shared) (σ:St) (H:Hp) (x y:V) (v u:Value) (Q:VK),Inv X pins σ H s->bF x v->bF y u->r x y H Q->
  wpAny (model X.prog X.w) X.A (f v u) (EP X pins σ Q) X.xe s
def UnR(X:Cx)(f:Value->Sem Value)(r:V->Hp->VK->Prop):Prop:=
 ∀ (pins:List (Addr×Obj)) (s:Shared) (σ:St) (H:Hp) (x:V) (v:Value) (Q:VK),Inv X pins σ H s->bF x v->r x H Q->
  wpAny (model X.prog X.w) X.A (f v) (EP X pins σ Q) X.xe s
def eX(X:Cx)(f:Value)(r:List V->Hp->VK->Prop):Prop:=
 ∀ (pins:List (Addr×Obj)) (s:Shared) (σ:St) (H:Hp) (xs:List V) (us:List Value) (Q:VK),Inv X pins σ H s->bB xs us->r xs H Q->
  wpAny (model X.prog X.w) X.A (call f us) (EP X pins σ Q) X.xe s
def tOp(r:R2)(ta tb:TE):TE:=fun σ H Q=>ta σ H fun x H1=>tb σ H1 fun y H2=>r x y H2 Q
def tUn(r:V->Hp->VK->Prop)(ta:TE):TE:=fun σ H Q=>ta σ H fun x H1=>r x H1 Q
def rI(C:Int->Int->Prop)(g:Int->Int->V):R2:=fun x y H Q=>∃ i j,x=.int i/\y=.int j/\C i j/\Q (g i j) H
def rI0(g:Int->Int->V):R2:=fun x y H Q=>∃ i j,x=.int i/\y=.int j/\Q (g i j) H
def rU(g:Int->V):V->Hp->VK->Prop:=fun x H Q=>∃ i,x=.int i/\Q (g i) H
section
variable{X:Cx}{a b c:Expr}{ta tb tc:TE}{pos:Pos}
theorem aFP(ha:PE X a ta)(hb:PE X b tb){pins:List (Addr×Obj)}{s:Shared}{σ:St}{H:Hp}{R:V->V->Hp->Prop}(I:Inv X pins σ H s)
  (h:ta σ H fun x H1=>tb σ H1 fun y H2=>R x y H2) {Q:Value->Shared->Prop} {f:Value->Value->Sem Value}
  (hf:∀ v u s2 x y H2,Inv X pins σ H2 s2->bF x v->bF y u->R x y H2->wpAny (model X.prog X.w) X.A (f v u) Q X.xe s2) :
  wpAny (model X.prog X.w) X.A (eval a X.env) (fun v s₁=>wpAny (model X.prog X.w) X.A (eval b X.env) (fun u s₂=>wpAny (model X.prog X.w) X.A (f v u) Q X.xe s₂) X.xe s₁) X.xe s:=by
 refine thn (ha pins s σ H _ I h) fun v s1 zz0=>?_
 obtain ⟨x,H1,I1,r1,q1⟩:=zz0
 refine thn (hb pins s1 σ H1 _ I1 q1) fun u s2 zz0=>?_
 obtain ⟨y,H2,I2,r2,q2⟩:=zz0
 exact hf v u s2 x y H2 I2 r1 r2 q2
theorem aNC{op:Operator}{r:R2}(ho:OpR X (binaryOp op) r)(ha:PE X a ta)(hb:PE X b tb):PE X (.BinOp a op b pos) (tOp r ta tb):=by
 intro pins s σ H Q I h
 exact wpAny_BinOp (aFP ha hb I h fun v u s2 x y H2 I2 rx ry q=>ho pins s2 σ H2 x y v u Q I2 rx ry q)
theorem aND{op:UnaryOp}{r:V->Hp->VK->Prop}(ho:UnR X (unaryOp op) r)(ha:PE X a ta):PE X (.UnaryOp op a pos) (tUn r ta):=by
 intro pins s σ H Q I h
 exact UnaryOp_ (thn (ha pins s σ H _ I h) fun v s1 ⟨x,H1,I1,r1,q1⟩=>ho pins s1 σ H1 x v Q I1 r1 q1)
theorem opI{f:Value->Value->Sem Value}{C:Int->Int->Prop}{g:Int->Int->Int}
  (rule:∀ (i j:Int) (t u:Tok) (s:Shared) (Q:Value->Shared->Prop) (E:Value->Shared->Prop),C i j->Q (.int (g i j) s.toks) {s with toks:=s.toks+1}->wpAny (model X.prog X.w) X.A (f (.int i t) (.int j u)) Q E s) :
  OpR X f (rI C fun i j=>.int (g i j)):=by
 intro pins s σ H x y v u Q I rx ry h
 obtain ⟨i,j,rfl,rfl,hc,q⟩:=h
 obtain ⟨t,rfl⟩:=rx
 obtain ⟨t',rfl⟩:=ry
 exact rule i j t t' s _ _ hc ⟨.int (g i j),H,I.tok _,⟨_,rfl⟩,q⟩
theorem aKR{f:Value->Value->Sem Value}{g:Int->Int->Int}
  (rule:∀ (i j:Int) (t u:Tok) (s:Shared) (Q:Value->Shared->Prop) (E:Value->Shared->Prop),Q (.int (g i j) s.toks) {s with toks:=s.toks+1}->wpAny (model X.prog X.w) X.A (f (.int i t) (.int j u)) Q E s) :
  OpR X f (rI0 fun i j=>.int (g i j)):=by
 intro pins s σ H x y v u Q I rx ry h
 obtain ⟨i,j,rfl,rfl,q⟩:=h
 obtain ⟨t,rfl⟩:=rx
 obtain ⟨t',rfl⟩:=ry
 exact rule i j t t' s _ _ ⟨.int (g i j),H,I.tok _,⟨_,rfl⟩,q⟩
theorem aB2{f:Value->Value->Sem Value}{g:Int->Int->Bool}
  (rule:∀ (i j:Int) (t u:Tok) (s:Shared) (Q:Value->Shared->Prop) (E:Value->Shared->Prop),Q (.bool (g i j)) s->wpAny (model X.prog X.w) X.A (f (.int i t) (.int j u)) Q E s) :
  OpR X f (rI0 fun i j=>.bl (g i j)):=by
 intro pins s σ H x y v u Q I rx ry h
 obtain ⟨i,j,rfl,rfl,q⟩:=h
 obtain ⟨t,rfl⟩:=rx
 obtain ⟨t',rfl⟩:=ry
 exact rule i j t t' s _ _ ⟨.bl (g i j),H,I,rfl,q⟩
def aFQ(i j:Int):Prop:=(-(2 ^ 64) < i/\i < 2 ^ 64)\/(-(2 ^ 64) < j/\j < 2 ^ 64)
theorem aFQ.ok{i j:Int}(h:aFQ i j):IntMulOk i j:=by
 rcases h with ⟨h1,h2⟩|⟨h1,h2⟩
 · exact .of_left (intBits_le_64 h1 h2)
 · exact .of_right (intBits_le_64 h1 h2)
theorem aKS:OpR X (binaryOp .Add) (rI0 fun i j=>.int (i+j)):=aKR fun _ _ _ _ _ _ _ q=>add_int q
theorem aKT:OpR X (binaryOp .Sub) (rI0 fun i j=>.int (i - j)):=aKR fun _ _ _ _ _ _ _ q=>sub_int q
theorem aKU:OpR X (binaryOp .Mult) (rI aFQ fun i j=>.int (i * j)):=opI fun _ _ _ _ _ _ _ hc q=>mul_int q hc.ok
theorem aKV:OpR X (binaryOp .Mod) (rI (fun _ j=>0 < j) fun i j=>.int (i % j)):=opI fun i j _ _ _ _ _ hc q=>by
 have h1:(0:Int) < j:=hc
 exact mod_int' (by omega) (by rw[Int.fmod_eq_emod_of_nonneg i (by omega)];exact q)
theorem unI{f:Value->Sem Value}{g:Int->Int}
  (rule:∀ (i:Int) (t:Tok) (s:Shared) (Q:Value->Shared->Prop) (E:Value->Shared->Prop),Q (.int (g i) s.toks) {s with toks:=s.toks+1}->wpAny (model X.prog X.w) X.A (f (.int i t)) Q E s) :
  UnR X f (rU fun i=>.int (g i)):=by
 intro pins s σ H x v Q I rx h
 obtain ⟨i,rfl,q⟩:=h
 obtain ⟨t,rfl⟩:=rx
 exact rule i t s _ _ ⟨.int (g i),H,I.tok _,⟨_,rfl⟩,q⟩
theorem aKW:UnR X (unaryOp .USub) (rU fun i=>.int (-i)):=unI fun _ _ _ _ _ q=>neg_int q
end
section
variable{X:Cx}{a b c:Expr}{ta tb tc:TE}{pos:Pos}
theorem sY{pins:List (Addr×Obj)}{σ:St}{H:Hp}{s:Shared}{Q:VK}{k k':Bool}(I:Inv X pins σ H s)(q:Q (.bl k) H)(e:k=k'):EP X pins σ Q (.bool k') s:=by
 subst e
 exact ⟨.bl k,H,I,rfl,q⟩
theorem aNE:OpR X (compareOp .Lt) (rI0 fun i j=>.bl (decide (i < j))):=aB2 fun _ _ _ _ _ _ _ q=>lt_int q
theorem aNF:OpR X (compareOp .LtE) (rI0 fun i j=>.bl (decide (i<=j))):=aB2 fun _ _ _ _ _ _ _ q=>le_int q
theorem aNG:OpR X (compareOp .Gt) (rI0 fun i j=>.bl (decide (j < i))):=aB2 fun _ _ _ _ _ _ _ q=>gt_int q
theorem aNH:OpR X (compareOp .GtE) (rI0 fun i j=>.bl (decide (j<=i))):=aB2 fun _ _ _ _ _ _ _ q=>ge_int q
theorem aDM:OpR X (compareOp .In) (fun x y H Q=>∃ i j,x=.str i/\y=.str j/\Q (.bl (!(Builtin.Str.occurrences j i 0 j.length 1).isEmpty)) H):=by
 intro pins s σ H x y v u Q I rx ry h
 obtain ⟨i,j,rfl,rfl,q⟩:=h
 obtain ⟨t,rfl⟩:=rx
 obtain ⟨t',rfl⟩:=ry
 exact in_str (sY I q rfl)
theorem aKX:OpR X (compareOp .Is) (fun x y H Q=>y=.non/\Q (.bl (decide (x=.non))) H):=by
 intro pins s σ H x y v u Q I rx ry h
 obtain ⟨rfl,q⟩:=h
 cases ry
 refine is_none_gen (sY I q ?_)
 cases x<;>first
  | (cases rx;rfl)
  | (obtain ⟨t,rfl⟩:=rx;rfl)
theorem aID:OpR X (compareOp .IsNot) (fun x y H Q=>y=.non/\Q (.bl (!decide (x=.non))) H):=by
 intro pins s σ H x y v u Q I rx ry h
 obtain ⟨rfl,q⟩:=h
 cases ry
 refine isnot_none_gen (sY I q ?_)
 cases x<;>first
  | (cases rx;rfl)
  | (obtain ⟨t,rfl⟩:=rx;rfl)
theorem xT:OpR X (compareOp .NotIn) (fun x y H Q=>∃ i j,x=.str i/\y=.str j/\Q (.bl (!(!(Builtin.Str.occurrences j i 0 j.length 1).isEmpty))) H):=by
 intro pins s σ H x y v u Q I rx ry h
 obtain ⟨i,j,rfl,rfl,q⟩:=h
 obtain ⟨t,rfl⟩:=rx
 obtain ⟨t',rfl⟩:=ry
 exact notIn_str (sY I q rfl)
theorem b7(b:Expr){op:CmpOp}(h:op≠.In:=by decide)(h2:op≠.NotIn:=by decide):behindInMarks op b=false:=by
 have e1:(op == CmpOp.In)=false:=by cases op<;>first|rfl|exact absurd rfl h
 have e2:(op == CmpOp.NotIn)=false:=by cases op<;>first|rfl|exact absurd rfl h2
 cases b<;>simp[behindInMarks,e1,e2]
theorem aIE{op:CmpOp}{r:R2}(ho:OpR X (compareOp op) r)(ha:PE X a ta)(hb:PE X b tb)(hm:behindInMarks op b=false):PE X (.Compare a [op] [b] pos) (tOp r ta tb):=by
 intro pins s σ H Q I h
 exact wpAny_Compare1 (aFP ha hb I h fun v u s2 x y H2 I2 rx ry q=>ho pins s2 σ H2 x y v u Q I2 rx ry q) hm
def aB3(t:TE):TT:=fun σ H Q=>t σ H fun x H'=>∃ k,x=.bl k/\Q k H'
theorem jD{op:CmpOp}{r:R2}(ho:OpR X (compareOp op) r)(ha:PE X a ta)(hb:PE X b tb)(hm:behindInMarks op b=false):PT X (.Compare a [op] [b] pos) (aB3 (tOp r ta tb)):=by
 intro pins s σ H Q I h
 refine wpAny_isTrue_Compare1 (thn (ha pins s σ H _ I h) fun v s1 ⟨x,H1,I1,r1,q1⟩=>thn (hb pins s1 σ H1 _ I1 q1) fun u s2 ⟨y,H2,I2,r2,q2⟩=>
  thn (ho pins s2 σ H2 x y v u _ I2 r1 r2 q2) fun c s3 ⟨z,H3,I3,r3,k,e,q3⟩=>?_) hm
 subst e
 cases r3
 exact wpAny_truthy_bool ⟨H3,I3,q3⟩
def tChain(r r':R2)(ta tb tc:TE):TE:=fun σ H Q=>ta σ H fun x H1=>tb σ H1 fun y H2=>r x y H2 fun z H3=>∃ k,z=.bl k /\
 (if k=true then tc σ H3 fun w' H4=>r' y w' H4 Q else Q (.bl false) H3)
theorem oP{op op':CmpOp}{r r':R2}(ho:OpR X (compareOp op) r)(ho':OpR X (compareOp op') r')(ha:PE X a ta)(hb:PE X b tb)(hc:PE X c tc)
  (hm:lastMarks [op,op'] [b,c]=false:=by with_unfolding_all rfl):PT X (.Compare a [op,op'] [b,c] pos) (aB3 (tChain r r' ta tb tc)):=by
 intro pins s σ H Q I h
 refine isTrue_chain (thn (ha pins s σ H _ I h) fun v s1 ⟨x,H1,I1,r1,q1⟩=>test_link (thn (hb pins s1 σ H1 _ I1 q1) fun u s2 ⟨y,H2,I2,r2,q2⟩=>
  thn (ho pins s2 σ H2 x y v u _ I2 r1 r2 q2) fun d s3 ⟨z,H3,I3,r3,k,e,q3⟩=>?_)) hm
 subst e
 cases r3
 refine wpAny_truthy_bool ?_
 cases k with
 | false=>
  obtain ⟨k',e',q'⟩:=q3
  cases e'
  exact ite_ff ⟨H3,I3,q'⟩
 | true=>
  refine ite_tt (test_last (thn (hc pins s3 σ H3 _ I3 q3) fun w' s4 ⟨z',H4,I4,r4,q4⟩=>thn (ho' pins s4 σ H4 y z' u w' _ I4 r2 r4 q4) fun d' s5 zz0=>?_))
  obtain ⟨z2,H5,I5,r5,k2,e2,q5⟩:=zz0
  subst e2
  cases r5
  exact wpAny_truthy_bool ⟨H5,I5,q5⟩
theorem sZ:(sizeLine:Nat) < 2 ^ 63:=by rw[sizeLine_eq];decide
theorem aB4:OpR X (binaryOp .Add) (fun x y H Q=>∃ i j,x=.str i/\y=.str j/\i.length+j.length<=sizeLine/\Q (.str (i++j)) H):=by
 intro pins s σ H x y v u Q I rx ry h
 obtain ⟨i,j,rfl,rfl,hz,q⟩:=h
 obtain ⟨t,rfl⟩:=rx
 obtain ⟨t',rfl⟩:=ry
 exact add_str (fun t' tk=>⟨.str (i++j),H,I.tok _,⟨_,rfl⟩,q⟩) hz
theorem iV{x:V}{us:List Value}(r:bB [x] us):∃ u,us=[u]/\bF x u:=by
 cases r with
 | cons r1 r2=>cases r2;exact ⟨_,rfl,r1⟩
theorem s9{x y:V}{us:List Value}(r:bB [x,y] us):∃ u w',us=[u,w']/\bF x u/\bF y w':=by
 cases r with
 | cons r1 r2=>
  cases r2 with
  | cons r3 r4=>cases r4;exact ⟨_,_,rfl,r1,r3⟩
theorem vY:eX X (.type "int") (fun xs H Q=>(∃ i,xs=[.int i]/\Q (.int i) H)\/∃ k,xs=[.bl k]/\Q (.int (if k then 1 else 0)) H):=by
 intro pins s σ H xs us Q I r h
 rcases h with ⟨i,rfl,q⟩|⟨k,rfl,q⟩
 ·obtain ⟨u,rfl,t,rfl⟩:=iV r
  exact call_int_int ⟨.int i,H,I,⟨_,rfl⟩,q⟩
 ·obtain ⟨u,rfl,r1⟩:=iV r
  cases r1
  exact call_int_bool ⟨.int (if k then 1 else 0),H,I.tok _,⟨_,rfl⟩,q⟩
def aKY(K:Frag)(x:V)(H:Hp)(n:Nat):Prop:=
 match x with
 | .str y=>y.length<=sizeLine/\n=y.length
 | .byt y=>y.size<=sizeLine/\n=y.size
 | .ref p=>(∃ xs,SqL K H p xs/\n=xs.length)\/∃ xs,SqT K H p xs/\n=xs.length
 | _=>False
theorem bW:eX X (.builtin "len") (fun xs H Q=>∃ x n,xs=[x]/\aKY X.K x H n/\Q (.int n) H):=by
 intro pins s σ H xs us Q I r h
 obtain ⟨x,n,rfl,e,q⟩:=h
 obtain ⟨u,rfl,rx⟩:=iV r
 have hl:=sZ
 have hs:sizeLine=16777216:=sizeLine_eq
 cases x with
 | str y=>
  obtain ⟨t,rfl⟩:=rx
  obtain ⟨hy,e'⟩:y.length<=sizeLine/\n=y.length:=e
  subst e'
  exact len_str (by omega) ⟨.int _,H,I.tok _,⟨_,rfl⟩,q⟩
 | byt y=>
  obtain ⟨t,rfl⟩:=rx
  obtain ⟨hy,e'⟩:y.size<=sizeLine/\n=y.size:=e
  subst e'
  exact PySem.W.len_bytes (by omega) ⟨.int _,H,I.tok _,⟨_,rfl⟩,q⟩
 | ref p=>
  cases rx
  have e':(∃ xs,SqL X.K H p xs/\n=xs.length)\/∃ xs,SqT X.K H p xs/\n=xs.length:=e
  rcases e' with ⟨xs,hx,e'⟩|⟨xs,hx,e'⟩
  ·subst e'
   obtain ⟨its,r',pl,hz⟩:=I.list hx
   have hlen:=r'.length
   exact Calls.call_len_list pl.isList (by simp only[List.size_toArray];omega) ⟨.int xs.length,H,I.tok _,⟨_,by simp only[List.size_toArray];rw[hlen]⟩,q⟩
  ·subst e'
   obtain ⟨its,r',pl,hz⟩:=I.tuple hx
   have hlen:=r'.length
   exact len_tuple pl (by simp only[List.size_toArray];omega) ⟨.int xs.length,H,I.tok _,⟨_,by simp only[List.size_toArray];rw[hlen]⟩,q⟩
 | _=>exact (show False from e).elim
end
end L2
namespace L2
open PySem PySem.Spec PyProof.Rows
structure ObjM(h:Heap)(x dx C:Addr)(mA:Str->Option Value):Prop where
 obj:h.get? x=some (PySem.W.instObj C dx)
 ns:h.Ns1 dx mA
 ne:dx≠x
theorem mX{h:Heap}{dx:Addr}{mA:Str->Option Value}(n:h.Ns1 dx mA):∃ od,h.get? dx=some od/\∀ name,PySem.W.lookIn name od=some (mA name):=by
 obtain ⟨o,es,ep,ho,hd,hk,_,hm⟩:=n
 refine ⟨o,ho,fun name=>?_⟩
 have e:=hm name
 unfold nsFind findBy at e
 rw[<-Array.find?_toList] at e
 unfold PySem.W.lookIn
 rw[hd]
 dsimp only
 split
 ·rename_i y q
  rw[q] at e
  exact congrArg some e
 ·rename_i q
  rw[q] at e
  have a:es.toList.any (·.refKey)=false:=by
   rw[List.any_eq_false]
   intro y hy
   obtain ⟨z,t,hkey⟩:=hk y (Array.mem_toList_iff.mp hy)
   simp[DictEntry.refKey,hkey]
  have a':¬ es.toList.any (·.refKey)=true:=by rw[a];exact Bool.false_ne_true
  rw[if_neg a']
  exact congrArg some e
theorem ObjM.look{h:Heap}{x dx C:Addr}{mA:Str->Option Value}(I:ObjM h x dx C mA):∃ od,PySem.W.InstAt h x (PySem.W.instObj C dx) C (some od)/\∀ name,PySem.W.lookIn name od=some (mA name):=
 let ⟨od,ho,hl⟩:=mX I.ns
 ⟨od,⟨I.obj,rfl,rfl,ho⟩,hl⟩
section
variable{prog:Program}{w:World}{A:Around}{E:Value->Shared->Prop}{s:Shared}{K:Frag}{x dx C f:Addr}{mA:Str->Option Value}{name:Str}{v:Value}
end
noncomputable def uU(f:Str)(v:V):List (Str×V)->List (Str×V)
 | []=>[(f,v)]
 | (g,x)::r=>if g=f then (g,v)::r else (g,x)::uU f v r
theorem rM(f g:Str)(v:V):∀ fs:List (Str×V),(uU f v fs).lookup g=if g=f then some v else fs.lookup g
 | []=>by
  show List.lookup g [(f,v)]=_
  by_cases h:g=f
  ·have hb:(g == f)=true:=beq_iff_eq.mpr h
   simp only[List.lookup,hb,if_pos h]
  ·have hb:(g == f)=false:=beq_eq_false_iff_ne.mpr h
   simp only[List.lookup,hb,if_neg h]
 | (k,x)::r=>by
  have ih:=rM f g v r
  rw[show uU f v ((k,x)::r)=(if k=f then (k,v)::r else (k,x)::uU f v r) from rfl]
  by_cases hk:k=f
  ·rw[if_pos hk]
   by_cases h:g=k
   ·have hb:(g == k)=true:=beq_iff_eq.mpr h
    simp only[List.lookup,hb,if_pos (h.trans hk)]
   ·have hb:(g == k)=false:=beq_eq_false_iff_ne.mpr h
    simp only[List.lookup,hb,if_neg (fun e:g=f=>h (e.trans hk.symm))]
  ·rw[if_neg hk]
   by_cases h:g=k
   ·have hb:(g == k)=true:=beq_iff_eq.mpr h
    simp only[List.lookup,hb,if_neg (fun e:g=f=>hk (h.symm.trans e))]
   ·have hb:(g == k)=false:=beq_eq_false_iff_ne.mpr h
    simp only[List.lookup,hb]
    exact ih
theorem jM.none_of{o:Option Value}(r:jM none o):o=none:=by
 cases o with
 | none=>rfl
 | some u=>exact (show False from r).elim
section
variable{P:Program}{w:World}{H H':Hp}{h h':Heap}{a C dx:Addr}{fs fs':List (Str×V)}
theorem aIF(hok:HOk P w H h)(e:H a=some (.ins C dx fs)):∃ mA,ObjM h a dx C mA/\(∀ f,jM (fs.lookup f) (mA f))/\PySem.Within mA (fs.map (·.1))/\fs.length<=1000/\H dx=some (.own a):=by
 obtain ⟨d,z,ne,ob,mA,n,r,q⟩:=(show b8 P w H h a (.ins C dx fs) from hok a _ e)
 exact ⟨mA,⟨ob,n,ne⟩,r,q,z,d⟩
end
structure Cls(K:Frag)(C:Addr):Prop where
 pg:PySem.W.plainGet K C Str.empty=true
 hd:PySem.W.hasDictIn K C=true
 po:PySem.W.plainOver K C=true
 sa:PySem.W.findIn K (.ref C) "__setattr__"=some (some (.builtin "object.__setattr__"))
theorem Cls.get{K:Frag}{C:Addr}(c:Cls K C)(f:Str):PySem.W.plainGet K C f=true:=c.pg
structure Con(K:Frag)(C:Addr)(f:Str)(v:V)(u:Value):Prop where
 at_:PySem.W.findIn K (.ref C) f=some (some u)
 rel:bF v u
 get:PySem.W.specialIn K u "__get__"=some none
 cp:PySem.W.copiedNames.contains f=false
structure Meth(K:Frag)(C:Addr)(m:Str)(f:Addr):Prop where
 at_:PySem.W.findIn K (.ref C) m=some (some (.ref f))
 fn:PySem.W.isFn K (.ref f)=true
 kp:PySem.W.keepIn K (.ref f)=true
section
variable{X:Cx}{pins:List (Addr×Obj)}{σ:St}{H:Hp}{s:Shared}{a C dx:Addr}{fs:List (Str×V)}{f:Str}{v:V}{A:Around}{E:Value->Shared->Prop}
end
section
variable{X:Cx}{pins:List (Addr×Obj)}{σ:St}{H:Hp}{s:Shared}{A:Around}{E:Value->Shared->Prop}{Q:Value->Shared->Prop}{c:Value}{b:Bool}
inductive TyOf(K:Frag)(H:Hp):V->Value->Prop where
 | non:TyOf K H .non (.type "NoneType")
 | bl (x:Bool):TyOf K H (.bl x) (.type "bool")
 | int (i:Int):TyOf K H (.int i) (.type "int")
 | str (x:Str):TyOf K H (.str x) (.type "str")
 | flt (x:UInt64):TyOf K H (.flt x) (.type "float")
 | lst {a:Addr} {xs:List V} (e:H a=some (.lst xs)):TyOf K H (.ref a) (.type "list")
 | frz {a:Addr} {o:Obj} {xs:List V} (e:H a=some (.frz o (.lst xs))):TyOf K H (.ref a) (.type "list")
 | tup {a:Addr} {xs:List V} (e:H a=some (.tup xs)):TyOf K H (.ref a) (.type "tuple")
 | dK {a:Addr} {kvs:List (Key×V)} (e:H a=some (.dK kvs)):TyOf K H (.ref a) (.type "dict")
 | dT {a:Addr} {kvs:List (List Key×V)} (e:H a=some (.dT kvs)):TyOf K H (.ref a) (.type "dict")
 | ins {a C dx:Addr} {fs:List (Str×V)} (e:H a=some (.ins C dx fs)) (cl:Cls K C) (ha:PySem.W.findIn K (.ref C) "__class__"=some (some (.builtin "object.__class__")))
  (hn:PySem.W.specialIn K (.builtin "object.__class__") "__get__"=some (some (.builtin "getset_descriptor.__get__"))) (htk:PySem.W.takesIn K (.builtin "object.__class__")=some true)
  (hm:PySem.W.mroIn K C (.type "object")=some true):TyOf K H (.ref a) (.ref C)
theorem aDN{x:V}{u t:Value}(I:Inv X pins σ H s)(rx:bF x u)(ty:TyOf X.K H x t)(e:PySem.W.kitOne X.K t c=some b)(h:∀ tk,Q (.bool b) {s with toks:=tk}) :
  wpAny (model X.prog X.w) A (call (.builtin "isinstance") [u,c]) Q E s:=by
 cases ty with
 | non=>cases (show u=Value.none from rx);exact PySem.W.kia_one PySem.W.kitx_none I.kIn True.intro e (fun z=>nomatch z) h
 | bl y=>cases (show u=Value.bool y from rx);exact PySem.W.kia_one PySem.W.kitx_bool I.kIn True.intro e (fun z=>nomatch z) h
 | int i=>obtain ⟨t,q⟩:=(show ∃ t,u=Value.int i t from rx);cases q;exact PySem.W.kia_one PySem.W.kitx_int I.kIn True.intro e (fun z=>nomatch z) h
 | str y=>obtain ⟨t,q⟩:=(show ∃ t,u=Value.str y t from rx);cases q;exact PySem.W.kia_one PySem.W.kitx_str I.kIn True.intro e (fun z=>nomatch z) h
 | flt y=>obtain ⟨t,q⟩:=(show ∃ t,u=Value.float y t from rx);cases q;exact PySem.W.kia_one PySem.W.kitx_float I.kIn True.intro e (fun z=>nomatch z) h
 | @lst a xs ea=>
  cases (show u=Value.ref a from rx)
  obtain ⟨_,_,n,_,h1⟩:=(show b8 X.prog X.w H s.heap a (.lst xs) from I.hok a _ ea)
  exact PySem.W.kia_one PySem.W.kitx_list I.kIn ⟨_,h1,rfl⟩ e (fun z=>nomatch z) h
 | @frz a ob xs ea=>
  cases (show u=Value.ref a from rx)
  obtain ⟨_,_,_,n,_,h1⟩:=(show b8 X.prog X.w H s.heap a (.frz ob (.lst xs)) from I.hok a _ ea)
  exact PySem.W.kia_one PySem.W.kitx_list I.kIn ⟨_,h1,rfl⟩ e (fun z=>nomatch z) h
 | @tup a xs ea=>
  cases (show u=Value.ref a from rx)
  obtain ⟨_,_,_,p⟩:=(show b8 X.prog X.w H s.heap a (.tup xs) from I.hok a _ ea)
  obtain ⟨o,h1,h2,_⟩:=p
  exact PySem.W.kia_one PySem.W.kitx_tuple I.kIn ⟨o,h1,h2.1⟩ e (fun z=>nomatch z) h
 | @dK a kvs ea=>
  cases (show u=Value.ref a from rx)
  obtain ⟨_,_,vs,_,p⟩:=(show b8 X.prog X.w H s.heap a (.dK kvs) from I.hok a _ ea)
  obtain ⟨o,es,ep,h1,h2,_⟩:=p
  exact PySem.W.kia_one PySem.W.kitx_dict I.kIn ⟨o,h1,h2.1⟩ e (fun z=>nomatch z) h
 | @dT a kvs ea=>
  cases (show u=Value.ref a from rx)
  obtain ⟨_,_,xs,_,o,es,ep,h1,h2,_⟩:=(show b8 X.prog X.w H s.heap a (.dT kvs) from I.hok a _ ea)
  exact PySem.W.kia_one PySem.W.kitx_dict I.kIn ⟨o,h1,h2.1⟩ e (fun z=>nomatch z) h
 | @ins a C dx fs ea cl ha hn htk hm=>
  cases (show u=Value.ref a from rx)
  obtain ⟨mA,O,_⟩:=aIF I.hok ea
  obtain ⟨od,J,_⟩:=O.look
  exact PySem.W.kia_one (PySem.W.kitx_own (cl.get _) cl.hd ha hn htk hm) I.kIn J e (fun z=>nomatch z) h
end
end L2
namespace L2
open PySem PySem.Spec PyProof.Rows
structure Room(k:Nat)(A:Around):Prop where
 hd:A.handled=none
 dp:A.depth+3 * k+5 < recursionLimit
 un:A.units+16 * k+200 < cLine
theorem Room.mono{j k:Nat}{A:Around}(r:Room k A)(h:j<=k):Room j A:=⟨r.hd,by have:=r.dp;omega,by have:=r.un;omega⟩
theorem Room.deeper{k:Nat}{A:Around}(r:Room (k+1) A)(env:Env):Room k (A.deeper env):=
 ⟨r.hd,by have:=r.dp;show A.depth+1+3 * k+5 < _;omega,by have:=r.un;show A.units+3+16 * k+200 < _;omega⟩
theorem aB5{A:Around}{C:Addr}{us:List Value}{kw:List (Str×Value)}:(A.under (.builtin "type.__call__" ⟨.ref C::us,kw⟩)).depth=A.depth+1:=by
 first|rfl|simp[Around.under,Code.weight,Code.isCreation,Code.isGuard,Code.isCaller,Code.frames,Code.isFrame,guardIds]
theorem aB6{A:Around}{C:Addr}{us:List Value}{kw:List (Str×Value)}:(A.under (.builtin "type.__call__" ⟨.ref C::us,kw⟩)).units=A.units+1:=by
 first|rfl|simp[Around.under,Code.cUnits,Code.frames,Code.isFrame]
theorem Room.make{k:Nat}{A:Around}(r:Room (k+1) A)(C:Addr)(us:List Value)(kw:List (Str×Value)):Room k (A.under (.builtin "type.__call__" ⟨.ref C::us,kw⟩)):=
 ⟨r.hd,by have:=r.dp;rw[aB5];omega,by have:=r.un;rw[aB6];omega⟩
theorem Room.depth{k:Nat}{A:Around}(r:Room k A):A.depth < recursionLimit:=by have:=r.dp;omega
theorem Room.units{k:Nat}{A:Around}(r:Room k A):A.units+64 < cLine:=by have:=r.un;omega
def eR:TA:=fun _ H Q=>Q [] H
def cT(ta:TE)(tr:TA):TA:=fun σ H Q=>ta σ H fun x H1=>tr σ H1 fun xs H2=>Q (x::xs) H2
section
variable{X:Cx}{e:Expr}{es:List Expr}{te:TE}{t:TA}{pos:Pos}
theorem aR:PA X [] eR:=fun _ _ _ _ H Q I h=>Calls.spliced_nil ⟨[],H,I,.nil,h⟩
theorem aE(ha:PE X e te)(hr:PA X es t)(hs:starEach (e::es) X.env=(false,eval e X.env)::starEach es X.env:=by rfl):PA X (e::es) (cT te t):=by
 intro pos pins s σ H Q I h
 rw[hs]
 show wpAny _ _ (spliced ((false,eval e X.env)::backTo pos (starEach es X.env))) _ _ s
 refine Calls.spliced_cons (thn (ha pins s σ H _ I h) fun u s1 zz0=>?_)
 obtain ⟨x,H1,I1,r1,q1⟩:=zz0
 exact thn (hr pos pins s1 σ H1 _ I1 q1) fun us s2 ⟨xs,H2,I2,r2,q2⟩=>⟨x::xs,H2,I2,.cons r1 r2,q2⟩
def aKZ(t:TA):TE:=fun σ H Q=>t σ H fun xs H1=>xs.length<=sizeLine/\∀ p,H1 p=none->Q (.ref p) (upd H1 p (.tup xs))
def aOO(t:TA):TE:=fun σ H Q=>t σ H fun xs H1=>xs.length<=sizeLine/\∀ p,H1 p=none->Q (.ref p) (upd H1 p (.lst xs))
theorem xU{x1}(h:PA X es t):PE X (.Tuple es x1 pos) (aKZ t):=by
 intro pins s σ H Q I hq
 refine wpAny_Tuple_spliced (thn (h pos pins s σ H _ I hq) fun us s1 ⟨xs,H1,I1,r,z,q⟩=>⟨by rw[<-r.length];exact z,?_⟩)
 have hf:H1 s1.heap.objs.size=none:=I1.hok.fresh (Nat.le_refl _)
 refine ⟨.ref s1.heap.objs.size,upd H1 s1.heap.objs.size (.tup xs),I1.laid (t':=s1.toks) (fun b u e=>Heap.get?_push_of_some _ e) (Nat.le_refl _) ?_,rfl,q _ hf⟩
 exact ⟨z,us,r,⟨_,Heap.get?_push_size _ rfl,⟨rfl,rfl⟩,_,rfl⟩⟩
theorem aK0(h:PA X es t):PE X (.List es pos) (aOO t):=by
 intro pins s σ H Q I hq
 refine wpAny_List_spliced (thn (h pos pins s σ H _ I hq) fun us s1 ⟨xs,H1,I1,r,z,q⟩=>⟨by rw[<-r.length];exact z,?_⟩)
 have hf:H1 s1.heap.objs.size=none:=I1.hok.fresh (Nat.le_refl _)
 refine ⟨.ref s1.heap.objs.size,upd H1 s1.heap.objs.size (.lst xs),I1.laid (t':=s1.toks) (fun b u e=>Heap.get?_push_of_some _ e) (Nat.le_refl _) ?_,rfl,q _ hf⟩
 exact ⟨z,us,0,r,Heap.get?_push_size _ rfl⟩
end
abbrev Sp:=List V->Hp->VK->XK->Prop
abbrev CXT:=List Env->Hp->Shared->XK->Value->Shared->Prop
structure Env0(P:Program)(w:World)(K:Frag)(mg:Str->Option Value)(base:Heap)(A:Around)(outer:List Env)(s:Shared)(H:Hp):Prop where
 frames:A.frames=some outer
 mod:Mod K mg base
 bs:∀ b o,base.get? b=some o->s.heap.get? b=some o/\H b=none
 bsz:base.objs.size<=s.heap.objs.size
 funs:s.heap.FunFrames base outer
 frf:∀ b∈frs outer,H b=none
 hok:HOk P w H s.heap
 bare:AllBare s.gens
def CE(outer:List Env)(P:Program)(w:World)(H:Hp)(s:Shared)(Q:VK)(u:Value)(s':Shared):Prop:=
 ∃ v H',s'.os=s.os/\AllBare s'.gens/\Un (frs outer) [] H H' s.heap s'.heap/\HOk P w H' s'.heap/\bF v u/\Q v H'
def CR(CX:CXT)(outer:List Env)(P:Program)(w:World)(H:Hp)(s:Shared)(Q:VK)(E:XK)(r:Result)(s':Shared):Prop:=
 match r with
 | .ok (.ret u)=>CE outer P w H s Q u s'
 | .ok _=>False
 | .error e=>CX outer H s E e s'
structure FnOk(P:Program)(w:World)(K:Frag)(mg:Str->Option Value)(base:Heap)(CX:CXT)(k:Nat)(f:Addr)(fd:FuncData)(ps:List Str)(sp:Sp):Prop where
 len:∀ vs H Q E,sp vs H Q E->vs.length=ps.length
 run:∀ (A:Around) (outer:List Env) (s:Shared) (H:Hp) (args:Args) (us:List Value) (vs:List V) (Q:VK) (E:XK),Room k A->Env0 P w K mg base A outer s H->BindsTo s fd args (ps.zip us)->bB vs us->sp vs H Q E->
  codeAny (model P w) A (.call (.ref f) args) (CR CX outer P w H s Q E) s
theorem FnOk.imp{P:Program}{w:World}{K:Frag}{mg:Str->Option Value}{base:Heap}{CX:CXT}{k:Nat}{f:Addr}{fd:FuncData}{ps:List Str}{sp sp':Sp}(F:FnOk P w K mg base CX k f fd ps sp)
  (h:∀ vs H Q E,sp' vs H Q E->sp vs H Q E):FnOk P w K mg base CX k f fd ps sp':=
 ⟨fun vs H Q E q=>F.len vs H Q E (h _ _ _ _ q),fun A outer s H args us vs Q E hr he hb hv hs=>F.run A outer s H args us vs Q E hr he hb hv (h _ _ _ _ hs)⟩
theorem Env0.make{P:Program}{w:World}{K:Frag}{mg:Str->Option Value}{base:Heap}{A:Around}{outer:List Env}{s:Shared}{H:Hp}(e:Env0 P w K mg base A outer s H)(C:Addr)(us:List Value)(kw:List (Str×Value)) :
 Env0 P w K mg base (A.under (.builtin "type.__call__" ⟨.ref C::us,kw⟩)) outer s H:=⟨by first|exact e.frames|(simpa[Around.under,Code.envs,Code.isFrame,pushEnvs] using e.frames),e.mod,e.bs,e.bsz,e.funs,e.frf,e.hok,e.bare⟩
section
variable{X:Cx}{pins:List (Addr×Obj)}{σ:St}{H:Hp}{s s':Shared}
theorem Inv.env0(I:Inv X pins σ H s):Env0 X.prog X.w X.K X.mg X.base X.A X.stack s H:=
 ⟨I.ok.frames,I.ok.mod,I.bs,Nat.le_trans I.ok.bsz I.sz,I.stack,I.stkFree,I.hok,I.bare⟩
theorem Inv.after{Q:VK}{u:Value}(I:Inv X pins σ H s)(h:CE X.stack X.prog X.w H s Q u s'):EP X pins σ Q u s':=by
 obtain ⟨v,H',os,bare,un,hok,r,q⟩:=h
 obtain ⟨hh,g,d,t,os'⟩:=s'
 obtain rfl:os'=s.os:=os
 exact ⟨v,H',I.call (h':=hh) (g':=g) (d':=d) (t':=t) (ch:=[]) un hok bare (fun b z=>absurd z (by simp)),r,q⟩
end
def mY(sp:Sp)(dvs:List V)(E:XK)(t:TA):TE:=fun σ H Q=>t σ H fun vs H1=>sp (vs++dvs) H1 Q E
def iC(K:Frag)(fd:FuncData)(ps:List Str)(ds:List Value):Prop:=
 ∀ (s:Shared) (us:List Value),K.In s.heap->(us++ds).length=ps.length->BindsTo s fd ⟨us,[]⟩ (ps.zip (us++ds))
theorem iC.all{K:Frag}{fd:FuncData}{ps:List Str}(h:∀ us:List Value,us.length=ps.length->bindArgs fd ⟨us,[]⟩=pure (ps.zip us)):iC K fd ps []:=fun s us _ hl=>by
 rw[List.append_nil] at hl ⊢
 exact .of_eq (h us hl)
def pQ(CX:CXT)(X:Cx)(E:XK):Prop:=∀ (pins:List (Addr×Obj)) (σ:St) (H:Hp) (s:Shared) (e:Value) (s':Shared),Inv X pins σ H s->CX X.stack H s E e s'->X.xe e s'
section
variable{X:Cx}{CX:CXT}{k:Nat}{f C:Addr}{fd:FuncData}{ps:List Str}{sp:Sp}{dvs:List V}{ds:List Value}{E:XK}{x m:Str}{p pos apos:Pos}{e o:Expr}{es:List Expr}{ta:TE}{t:TA}
theorem aK1{pins:List (Addr×Obj)}{σ:St}{H:Hp}{s:Shared}{Q:VK}{us:List Value}{vs:List V}(F:FnOk X.prog X.w X.K X.mg X.base CX k f fd ps sp)(hr:Room k X.A)(hb:iC X.K fd ps ds)(hd:bB dvs ds)(hx:pQ CX X E)
  (I:Inv X pins σ H s) (r:bB vs us) (h:sp (vs++dvs) H Q E):wpAny (model X.prog X.w) X.A (call (.ref f) us) (EP X pins σ Q) X.xe s:=by
 have r2:bB (vs++dvs) (us++ds):=r.append hd
 have hl:(us++ds).length=ps.length:=by rw[<-r2.length];exact F.len _ _ _ _ h
 refine wpAny_call (codeAny_mono (F.run X.A X.stack s H ⟨us,[]⟩ (us++ds) (vs++dvs) Q E hr I.env0 (hb s us I.kIn hl) r2 h) fun r s' hq=>?_)
 cases r with
 | error e=>exact hx pins σ H s e s' I hq
 | ok fl=>
  cases fl with
  | ret u=>exact I.after hq
  | next=>exact False.elim hq
  | brk=>exact False.elim hq
  | cont=>exact False.elim hq
theorem aIG(F:FnOk X.prog X.w X.K X.mg X.base CX k f fd ps sp)(hr:Room k X.A)(hg:Gl X x)(hm:X.mg x=some (.ref f))(hk:PySem.W.keepIn X.K (.ref f)=true)(hb:iC X.K fd ps ds)(hd:bB dvs ds)(hx:pQ CX X E)
  (ha:PA X (e::es) t) (hdb:(x == ("__debug__":Str))=false:=by decide) (he:starEach (e::es) X.env=(false,eval e X.env)::starEach es X.env:=by rfl) (hpl:(backTo pos (starEach es X.env)).any (·.1)=false:=by rfl) :
  PE X (.Call (.Name x p) (e::es) [] pos) (mY sp dvs E t):=by
 intro pins s σ H Q I h
 refine wpAny_Call_Name_kw (lR I hg hm ?_ hdb)
 refine PySem.W.callWith_K (h₀:=X.base) I.ok.mod.kin hk (thn (ha pos pins s σ H _ I h) fun us s1 ⟨vs,H1,I1,r,q⟩=>⟨I1.kIn,?_⟩) he hpl
 exact aK1 F hr hb hd hx I1 r q
structure Mk(K:Frag)(C f:Addr):Prop where
 makes:PySem.W.makesIn K C=true
 init:PySem.W.findIn K (.ref C) "__init__"=some (some (.ref f))
 fn:PySem.W.isFn K (.ref f)=true
 kp:PySem.W.keepIn K (.ref C)=true
end
section
variable{X:Cx}{CX:CXT}{k:Nat}{f C:Addr}{fd:FuncData}{ps ks:List Str}{sp:Sp}{E:XK}{x m:Str}{p pos apos kpos:Pos}{e o:Expr}{es:List Expr}{kws:List Keyword}{te ta:TE}{t tk:TA}{nm:Option Str}
structure KBinds(K:Frag)(fd:FuncData)(ps ks:List Str)(g:List Value->List Value->List Value)(gV:List V->List V->List V):Prop where
 to:∀ (s:Shared) (us ws:List Value),K.In s.heap->(g us ws).length=ps.length->BindsTo s fd ⟨us,ks.zip ws⟩ (ps.zip (g us ws))
 rel:∀ {vs:List V} {us:List Value} {zs:List V} {ws:List Value},bB vs us->bB zs ws->bB (gV vs zs) (g us ws)
variable{g:List Value->List Value->List Value}{gV:List V->List V->List V}
end
structure FnScope(N P:List Str)(sc:Scope):Prop where
 kind:sc.kind=.function
 co:sc.isCoroutine=false
 gen:sc.isGenerator=false
 nd:N.Nodup
 pre:N.take P.length=P
 par:∀ x∈P,sc.names.lookup x=some .local\/sc.names.lookup x=some .cell
 nofree:∀ y∈sc.names,y.2≠.free
theorem vZ{kindOf:Str->Option NameKind}{x:Str}:∀ {binds:List (Str×Value)} {m:Str->Option Value},(∀ v,(x,v)∉binds)->bindL kindOf binds m x=m x
 | [],_,_=>rfl
 | (n,v)::r,m,h=>by
  unfold bindL
  rw[vZ fun w hw=>h w (List.mem_cons_of_mem _ hw)]
  split
  ·have:x≠n:=by rintro rfl;exact h v List.mem_cons_self
   simp[this]
  ·rfl
theorem v6{kindOf:Str->Option NameKind}{x:Str}:∀ {binds:List (Str×Value)} {m:Str->Option Value},(∀ v,(x,v)∉binds)->bindC kindOf binds m x=m x
 | [],_,_=>rfl
 | (n,v)::r,m,h=>by
  unfold bindC
  rw[v6 fun w hw=>h w (List.mem_cons_of_mem _ hw)]
  split
  ·rfl
  ·have:x≠n:=by rintro rfl;exact h v List.mem_cons_self
   simp[this]
theorem v7{kindOf:Str->Option NameKind}{x:Str}{v:Value}:∀ {P:List Str} {vs:List Value} {i:Nat} {m:Str->Option Value},P.Nodup->P[i]? = some x->vs[i]? = some v->kindOf x=some .local->
  bindL kindOf (P.zip vs) m x=some v
 | [],_,_,_,_,h,_,_=>by simp at h
 | _::_,[],_,_,_,_,h,_=>by simp at h
 | p::P,w::vs,0,m,nd,h1,h2,hk=>by
  simp at h1 h2;subst h1;subst h2
  show bindL kindOf ((p,w)::P.zip vs) m p=_
  unfold bindL
  rw[vZ fun v hv=>(List.nodup_cons.mp nd).1 (List.of_mem_zip hv).1,if_pos hk]
  simp
 | p::P,w::vs,i+1,m,nd,h1,h2,hk=>by
  show bindL kindOf ((p,w)::P.zip vs) m x=_
  unfold bindL
  exact v7 (i:=i) (List.nodup_cons.mp nd).2 (by simpa using h1) (by simpa using h2) hk
theorem v8{kindOf:Str->Option NameKind}{x:Str}{v:Value}:∀ {P:List Str} {vs:List Value} {i:Nat} {m:Str->Option Value},P.Nodup->P[i]? = some x->vs[i]? = some v->kindOf x≠some .local->
  bindC kindOf (P.zip vs) m x=some v
 | [],_,_,_,_,h,_,_=>by simp at h
 | _::_,[],_,_,_,_,h,_=>by simp at h
 | p::P,w::vs,0,m,nd,h1,h2,hk=>by
  simp at h1 h2;subst h1;subst h2
  show bindC kindOf ((p,w)::P.zip vs) m p=_
  unfold bindC
  rw[v6 fun v hv=>(List.nodup_cons.mp nd).1 (List.of_mem_zip hv).1,if_neg hk]
  simp
 | p::P,w::vs,i+1,m,nd,h1,h2,hk=>by
  show bindC kindOf ((p,w)::P.zip vs) m x=_
  unfold bindC
  exact v8 (i:=i) (List.nodup_cons.mp nd).2 (by simpa using h1) (by simpa using h2) hk
noncomputable def start(N:List Str)(vs:List V):St:=vs.map some++List.replicate (N.length - vs.length) none
noncomputable def iO(CX:CXT)(P:Program)(w:World)(K:Frag)(mg:Str->Option Value)(base:Heap)(N:List Str)(qual:Str)(scope:Scope)(f:Addr)(cd:Value)(A:Around)(outer:List Env)(s:Shared)(H:Hp)(E:XK):Cx where
 prog:=P
 w:=w
 K:=K
 mg:=mg
 base:=base
 A:=A.deeper (envOfC qual scope s.heap.objs.size f cd)
 N:=N
 s₀:=s
 H₀:=H
 env:=envOfC qual scope s.heap.objs.size f cd
 outer:=outer
 stack:=envOfC qual scope s.heap.objs.size f cd::outer
 ex:=[]
 calm:=true
 fn:=fun _=>true
 pn:=[]
 xe:=fun e s'=>wpAny (model P w) (A.deeper (envOfC qual scope s.heap.objs.size f cd)) (leaving (envOfC qual scope s.heap.objs.size f cd) e) (fun _ s''=>CX outer H s E e s'') (fun e' s''=>CX outer H s E e' s'') s'
theorem xV{sc:Scope}{n:Nat}{x:Str}(h:sc.names.lookup x=some .cell):∃ c,(cellsFrom n sc.names []).lookup x=some c:=by
 have q:=PySem.W.cellsFrom_some sc.names n [] (.inl h)
 exact Option.isSome_iff_exists.mp q
theorem aDO{CX:CXT}{P:Program}{w:World}{K:Frag}{mg:Str->Option Value}{base:Heap}{N ps:List Str}{qual:Str}{scope:Scope}{f:Addr}{cd:Value}{A:Around}{outer:List Env}{s s1:Shared}{H:Hp}{E:XK}{us:List Value}{vs:List V}
  (S:FnScope N ps scope) (hd:A.handled=none) (e0:Env0 P w K mg base A outer s H) (hl:vs.length=ps.length) (r:bB vs us)
  (x:InCallC s s.heap.objs.size (bindL (envOfC qual scope s.heap.objs.size f cd).kindOf (ps.zip us) fun _=>none) (cellsFrom (s.heap.objs.size+1) scope.names []) (bindC (envOfC qual scope s.heap.objs.size f cd).kindOf (ps.zip us) fun _=>none) s1) :
  Inv (iO CX P w K mg base N qual scope f cd A outer s H E) [] (start N vs) H s1:=by
 have hpl:ps.length<=N.length:=by have:=congrArg List.length S.pre;rw[List.length_take] at this;omega
 obtain ⟨h1,tk,rfl,hk⟩:=x.done
 have noA:∀ b:Addr,b∉(iO CX P w K mg base N qual scope f cd A outer s H E).ex:=fun b z=>absurd (show b∈([]:List Addr) from z) (by simp)
 refine ⟨⟨e0.mod,S.kind,rfl,rfl,Nat.le_refl _,fun y z c h1 h2=>?_,fun y hy=>?_,fun y c _ h=>?_,fun _=>hd,Around.frames_deeper e0.frames,.inr ⟨rfl,rfl⟩,fun b z=>absurd z (noA b),e0.bs,e0.bsz,fun b _ _=>noA b,fun b z=>absurd z (noA b),e0.funs,e0.frf⟩,
  rfl,e0.bare,Un.kept hk,⟨_,x.toInCall.ns,fun i y v h1 h2 h3=>?_⟩,fun y c h=>⟨_,x.cell y c h⟩,e0.hok.fresh (Nat.le_refl _),fun y c h=>?_,fun p hp=>absurd (show p∈([]:List (Addr×Obj)) from hp) (by simp),e0.hok.kept hk,?_⟩
 ·exact name_of_addr x.apart (PySem.mem_of_lookup h1) (PySem.mem_of_lookup h2)
 ·have hy:scope.names.lookup y=some .cell\/scope.names.lookup y=some .free:=hy
  rcases hy with hy|hy
  ·exact xV hy
  ·exact absurd rfl (S.nofree _ (PySem.mem_of_lookup hy))
 ·exact Nat.le_of_lt (x.above y c (PySem.mem_of_lookup h))
 ·have hi:i < vs.length:=by
   unfold start at h2
   by_cases hi:i < vs.length
   ·exact hi
   ·rw[List.getElem?_append_right (by simpa using hi)] at h2
    rw[List.getElem?_replicate] at h2
    split at h2<;>cases h2
  have ha:vs[i]? = some v:=by
   unfold start at h2
   rw[List.getElem?_append_left (by simpa using hi),List.getElem?_map] at h2
   cases e:vs[i]? with
   | none=>rw[e] at h2;cases h2
   | some a=>rw[e] at h2;cases h2;rfl
  obtain ⟨u,hu,rv⟩:=r.get ha
  have hp:ps[i]? = some y:=by
   rw[<-S.pre,List.getElem?_take_of_lt (by omega)];exact h1
  have ndP:ps.Nodup:=by rw[<-S.pre];exact S.nd.sublist (List.take_sublist _ _)
  refine ⟨u,rv,?_⟩
  rcases S.par y (List.mem_of_getElem? hp) with k|k
  ·exact .inl ⟨k,v7 ndP hp hu k⟩
  ·obtain ⟨c,e⟩:=xV (n:=s.heap.objs.size+1) k
   refine .inr ⟨.inl k,c,e,?_⟩
   have q:=x.cell y c e
   rw[v8 ndP hp hu (by show scope.names.lookup y≠_;rw[k];decide)] at q
   exact q
 ·exact e0.hok.fresh (Nat.le_of_lt (x.above y c (PySem.mem_of_lookup h)))
 ·unfold start
  show _=N.length
  rw[List.length_append,List.length_map,List.length_replicate]
  omega
theorem aHN{CX:CXT}{P:Program}{w:World}{K:Frag}{mg:Str->Option Value}{base:Heap}{k:Nat}{f:Addr}{name qual:Str}{params:Arguments}{body:List Stmt}{scope:Scope}{dV kV doc pm cdv ct oc:Value}{an od:Option Addr}
  {osl:Array (Option Value)} {N ps:List Str} {sp:Sp} (lk:K.lookup f=some ⟨oc,od,.func (PySem.W.fnOf name qual params body scope dV kV doc pm an cdv ct),osl⟩) (hcd:PySem.W.codeIn K cdv qual=true) (S:FnScope N ps scope)
  (len:∀ vs H Q E,sp vs H Q E->vs.length=ps.length)
  (hbody:∀ (A:Around) (outer:List Env) (s:Shared) (H:Hp) (vs:List V) (Q:VK) (E:XK),Room k (A.deeper (envOfC qual scope s.heap.objs.size f cdv))->sp vs H Q E->
   ∃ t,PSs (iO CX P w K mg base N qual scope f cdv A outer s H E) body t/\t {nx:=fun _ H'=>Q .non H',rt:=Q} (start N vs) H) :
  FnOk P w K mg base CX (k+1) f (PySem.W.fnOf name qual params body scope dV kV doc pm an cdv ct) ps sp:=by
 refine ⟨len,fun A outer s H args us vs Q E hr e0 hb r hsp=>?_⟩
 have hl:=len _ _ _ _ hsp
 have KX:K.In s.heap:=e0.mod.kin.keeps fun b o e=>(e0.bs b o e).1
 have lim:s.heap.NoLimit:=e0.mod.nolimit.keeps fun b o e=>(e0.bs b o e).1
 have hkind:∀ y∈ps.zip us,scope.names.lookup y.1=some .local\/(scope.names.lookup y.1=some .cell/\((cellsFrom (s.heap.objs.size+1) scope.names []).lookup y.1).isSome=true):=fun zz0 hy=>by
  obtain ⟨n,v⟩:=zz0
  rcases S.par n (List.of_mem_zip hy).1 with q|q
  ·exact .inl q
  ·exact .inr ⟨q,PySem.W.cellsFrom_some _ _ _ (.inl q)⟩
 refine codeAny_call_function hr.depth (KX _ _ lk) rfl S.co S.gen rfl (PySem.W.codeRec_of KX hcd) (hb _ _ _ _ ?_)
 refine wpAny_newFunctionEnv_cells S.kind hkind fun env he s1 x=>?_
 subst he
 refine ⟨lim.keeps x.toInCall.keep,codeAny_func ?_⟩
 obtain ⟨t,ht,hq⟩:=hbody A outer s H vs Q E (hr.deeper _) hsp
 have I:Inv (iO CX P w K mg base N qual scope f cdv A outer s H E) [] (start N vs) H s1:=aDO S hr.hd e0 hl r x
 refine wpAny_mono (ht [] s1 (start N vs) H _ I hq) (fun fl s' hs=>?_) fun e s' hs=>hs
 have fin:∀ {σ':St} {H':Hp} {v:V} {u:Value},Inv (iO CX P w K mg base N qual scope f cdv A outer s H E) [] σ' H' s'->bF v u->Q v H'->CE outer P w H s Q u s':=
  fun {σ' H' v u} J rv q=>⟨v,H',J.os,J.bare,J.base,J.hok,rv,q⟩
 cases fl with
 | ret u=>
  obtain ⟨v,σ',H',J,rv,q⟩:=hs
  exact fin J rv q
 | next=>
  obtain ⟨σ',H',J,q⟩:=hs
  exact fin (v:=V.non) (u:=Value.none) J rfl q
 | brk=>
  obtain ⟨_,_,_,q⟩:=hs
  exact False.elim q
 | cont=>
  obtain ⟨_,_,_,q⟩:=hs
  exact False.elim q
end L2
namespace L2
open PySem PySem.Spec PyProof.Rows
section
variable{X:Cx}{x:Str}{p pos:Pos}{e:Expr}{es:List Expr}{t:TA}{id T:String}{r:List V->Hp->VK->Prop}
def tCB(r:List V->Hp->VK->Prop)(t:TA):TE:=fun σ H Q=>t σ H fun vs H1=>r vs H1 Q
theorem a6(hc:eX X (.builtin id) r)(hg:Gl X x)(hm:X.mg x=none)(hv:bootBuiltins x=some (.builtin id))(ha:PA X (e::es) t)(hn:x≠"__name__":=by decide)(hdb:(x == ("__debug__":Str))=false:=by decide)
  (he:starEach (e::es) X.env=(false,eval e X.env)::starEach es X.env:=by rfl) (hpl:(backTo pos (starEach es X.env)).any (·.1)=false:=by rfl):PE X (.Call (.Name x p) (e::es) [] pos) (tCB r t):=by
 intro pins s σ H Q I h
 refine wpAny_Call_Name_kw (nR I hg hm hv ?_ hn hdb)
 exact PyProof.Rows.callWith_builtin1 (thn (ha pos pins s σ H _ I h) fun us s1 ⟨vs,H1,I1,r1,q1⟩=>hc pins s1 σ H1 vs us Q I1 r1 q1) he hpl
theorem cI(hc:eX X (.type T) r)(hg:Gl X x)(hm:X.mg x=none)(hv:bootBuiltins x=some (.type T))(ha:PA X (e::es) t)(hn:x≠"__name__":=by decide)(hdb:(x == ("__debug__":Str))=false:=by decide)
  (he:starEach (e::es) X.env=(false,eval e X.env)::starEach es X.env:=by rfl) (hpl:(backTo pos (starEach es X.env)).any (·.1)=false:=by rfl):PE X (.Call (.Name x p) (e::es) [] pos) (tCB r t):=by
 intro pins s σ H Q I h
 refine wpAny_Call_Name_kw (nR I hg hm hv ?_ hn hdb)
 exact PyProof.Rows.callWith_type1 (thn (ha pos pins s σ H _ I h) fun us s1 ⟨vs,H1,I1,r1,q1⟩=>hc pins s1 σ H1 vs us Q I1 r1 q1) he hpl
end
end L2
namespace HT
open PySem PyProof.Rows
theorem aFR(A:Around)(s:Shared)(a:Int)(t:Tok)(c:Int)(u:Tok):∃ e,SeqAt.EqAt A s (.int a t) (.int c u) e/\(e=true↔a=c):=
 ⟨(a == c),SeqAt.EqAt.int_int a t c u,by simp⟩
section
open PySem.SeqAt
open PySem.AutoSeq1 (wpAny_loadPart')
open PySem.MeetsSeq PySem.MeetsSeq2 PySem.MeetsSeq3
end
section
variable{prog:Program}{w:World}{A:Around}{E:Value->Shared->Prop}{s:Shared}
theorem aIH{t b:Addr}{vs ws:List Value}{Q:Value->Shared->Prop}(ht:IsTup s.heap t vs.toArray)(hb:IsTup s.heap b ws.toArray)(hv:vs≠[])
  (h1:ws=[]->Q (.ref t) s) (h2:ws≠[]->Q (.ref s.heap.objs.size) {s with heap:=s.heap.push {cls:=.type "tuple",data:=.seq (vs++ws).toArray}})
  (hsz:vs.length+ws.length<=sizeLine):wpAny (model prog w) A (binaryOp .Add (.ref t) (.ref b)) Q E s:=by
 obtain ⟨⟨cls,dd,data,sl⟩,ho,hc,n,hd⟩:=id ht
 obtain ⟨⟨cls2,dd2,data2,sl2⟩,ho2,hc2,n2,hd2⟩:=id hb
 simp only at hc hd hc2 hd2
 subst hc hd hc2 hd2
 have e:vs.toArray++ws.toArray=(vs++ws).toArray:=by simp
 by_cases hw:ws=[]
 ·exact concat_meets ⟨_,ho,rfl⟩ ⟨_,ho2,rfl⟩ noFill_tuple_add seq_tuple_add PySem.F.slot_tuple_add PySem.F.entry_tuple_add (PySem.F.args_tuple_add_2 _ _)
   (tuple_addW1 t b vs.toArray ws.toArray n n2 dd dd2 sl sl2 (by simpa using hv) (by simp[hw])) ⟨ho,ho2,h1 hw⟩
 ·refine concat_meets ⟨_,ho,rfl⟩ ⟨_,ho2,rfl⟩ noFill_tuple_add seq_tuple_add PySem.F.slot_tuple_add PySem.F.entry_tuple_add (PySem.F.args_tuple_add_2 _ _)
   (tuple_addW2 t b vs.toArray ws.toArray n n2 dd dd2 sl sl2 (by simpa using hv) (by simpa using hw) (by rw[List.size_toArray,List.size_toArray];exact hsz)) ⟨ho,ho2,?_⟩
  rw[e]
  exact h2 hw
noncomputable def sIx(n d:Nat):Option Int->Nat
 | none=>d
 | some v=>if v < 0 then (v+(n:Int)).toNat else min v.toNat n
theorem aK2(n d:Nat)(hd:d<=n)(o:Option Int):sIx n d o<=n:=by
 cases o with
 | none=>exact hd
 | some v=>
  show (if v < 0 then (v+(n:Int)).toNat else min v.toNat n)<=n
  by_cases hv:v < 0
  · rw [if_pos hv]; omega
  · rw [if_neg hv]; exact Nat.min_le_right _ _
theorem aAL(v:Int)(n d:Nat):(if v < 0 then max (v+(n:Int)) 0 else min v (n:Int))=((sIx n d (some v):Nat):Int):=by
 show (if v < 0 then max (v+(n:Int)) 0 else min v (n:Int))=(((if v < 0 then (v+(n:Int)).toNat else min v.toNat n):Nat):Int)
 by_cases hv:v < 0
 · simp only [if_pos hv]; omega
 · simp only [if_neg hv]; omega
theorem aB7(lo hi:Option Int)(n:Nat):Builtin.Slice.sliceAdjust lo hi 1 (n:Int)=(((sIx n 0 lo:Nat):Int),((sIx n n hi:Nat):Int)):=by
 have h1:¬ ((1:Int) < 0):=by omega
 unfold Builtin.Slice.sliceAdjust
 simp only[h1,if_false]
 refine Prod.ext ?_ ?_
 ·cases lo with
  | none=>rfl
  | some v=>exact aAL v n 0
 ·cases hi with
  | none=>rfl
  | some v=>exact aAL v n n
theorem aB8(i j:Nat):Builtin.Slice.slicePlaces (i:Int) (j:Int) 1=j - i:=by
 unfold Builtin.Slice.slicePlaces
 have h1:(1:Int) > 0:=by omega
 simp only[h1,if_true,Int.ediv_one]
 split<;>omega
theorem tD{v:Value}{o:Option Int}{Q:Option Int->Shared->Prop}(p:IsPart v o)(h:Q o s):wpAny (model prog w) A (Builtin.Slice.slicePartIndex v) Q E s:=by
 cases p with
 | none=>exact slicePart_none h
 | int i t=>exact slicePart_int h
theorem r6{sl:Addr}{vl vu:Value}{lo hi:Option Int}{n:Nat}{Q:Int×Int×Nat->Shared->Prop}(hs:s.heap.IsSliceOf sl vl vu .none)(pl:IsPart vl lo)(pu:IsPart vu hi)
  (h:Q (((sIx n 0 lo:Nat):Int),1,sIx n n hi - sIx n 0 lo) s):wpAny (model prog w) A (Builtin.Slice.sliceApplied (.ref sl) (pure (n:Int))) Q E s:=by
 obtain ⟨os,hos,hcs,hds⟩:=id hs
 unfold Builtin.Slice.sliceApplied Builtin.Slice.sliceFields
 refine wpAny_bind (wpAny_bind (wpAny_field hos hds (x:=vl) rfl (wpAny_bind (wpAny_field hos hds (x:=vu) rfl (wpAny_bind (wpAny_field hos hds (x:=.none) rfl (wpAny_pure ?_)))))))
 refine wpAny_bind (slicePart_none ?_)
 show wpAny _ _ (if ((1:Int) == 0)=true then _ else _) _ _ s
 rw[if_neg (by decide)]
 refine wpAny_bind (tD pl (wpAny_bind (tD pu (wpAny_bind (wpAny_pure ?_)))))
 show wpAny _ _ (match Builtin.Slice.sliceAdjust lo hi 1 (n:Int) with|(lo,hi)=>pure (lo,(1:Int),Builtin.Slice.slicePlaces lo hi 1)) _ _ s
 rw[aB7 lo hi n]
 show wpAny _ _ (pure (((sIx n 0 lo:Nat):Int),(1:Int),Builtin.Slice.slicePlaces ((sIx n 0 lo:Nat):Int) ((sIx n n hi:Nat):Int) 1)) _ _ s
 rw[aB8]
 exact wpAny_pure h
theorem aFS(xs:Array Value)(i k:Nat):((List.range k).filterMap fun (m:Nat)=>xs[((i:Int)+(m:Int) * 1).toNat]?).toArray=((xs.toList.drop i).take k).toArray:=by
 have e:(fun (m:Nat)=>xs[((i:Int)+(m:Int) * 1).toNat]?)=fun m=>xs[i+m]?:=by
  funext m
  have:((i:Int)+(m:Int) * 1).toNat=i+m:=by omega
  rw[this]
 rw[e]
 have:=pick_run xs i k
 rw[List.filterMap_map] at this
 have e2:((fun x=>xs[x]?)∘fun x=>i+x)=fun m=>xs[i+m]?:=rfl
 rw[e2] at this
 rw[this]
theorem rJ{t sl:Addr}{items:Array Value}{vl vu:Value}{lo hi:Option Int}{Q:Value->Shared->Prop}(ht:IsTup s.heap t items)(hs:s.heap.IsSliceOf sl vl vu .none)(pl:IsPart vl lo)(pu:IsPart vu hi)
  (hw:¬ (sIx items.size 0 lo=0/\sIx items.size items.size hi=items.size))
  (h:Q (.ref s.heap.objs.size) {s with heap:=s.heap.push {cls:=.type "tuple",data:=.seq ((items.toList.drop (sIx items.size 0 lo)).take (sIx items.size items.size hi - sIx items.size 0 lo)).toArray}})
  (hsz:items.size<=sizeLine):wpAny (model prog w) A (getItem (.ref t) (.ref sl)) Q E s:=by
 have htake:sizeOk (.seq ((items.toList.drop (sIx items.size 0 lo)).take (sIx items.size items.size hi - sIx items.size 0 lo)).toArray):=by
  show ((items.toList.drop (sIx items.size 0 lo)).take (sIx items.size items.size hi - sIx items.size 0 lo)).toArray.size<=sizeLine
  rw[List.size_toArray,List.length_take,List.length_drop,Array.length_toList]
  omega
 have hj:sIx items.size items.size hi<=items.size:=aK2 _ _ (Nat.le_refl _) hi
 obtain ⟨os,hos,hcs,hds⟩:=id hs
 have hTs:s.TypeIs (.ref sl) "slice":=⟨os,hos,hcs⟩
 unfold getItem
 try with_reducible refine wpAny_holding ?_
 first|refine wpAny_bind (wpAny_pure ?_)|skip
 refine wpAny_bind (wpAny_sequenceKey ht.typeIs (by decide) ?_)
 refine wpAny_bind (wpAny_callSpecial?_slot (name:=Str.ofString "__getitem__") ht.typeIs PyProof.Rows.slot_tuple_getitem
  (wpAny_call_entry PyProof.Rows.slot_tuple_getitem ht.typeIs entry_tuple_getitem ?_ (args_tuple_getitem _ _)))
 show wpAny _ _ (Builtin.Tuple.tupleItemsOf (.ref t) >>= _) _ _ s
 refine wpAny_bind (tupleItemsOf_ ht ?_)
 refine wpAny_bind (wpAny_typeOf hTs ?_)
 rw[if_pos (by decide)]
 refine wpAny_bind (r6 hs pl pu ?_)
 have hno:¬ ((((sIx items.size 0 lo:Nat):Int) == 0 && (1:Int) == 1 && (sIx items.size items.size hi - sIx items.size 0 lo) == items.size)=true):=by
  intro q
  rw[Bool.and_eq_true,Bool.and_eq_true] at q
  have q1:((sIx items.size 0 lo:Nat):Int)=0:=eq_of_beq q.1.1
  have q2:sIx items.size items.size hi - sIx items.size 0 lo=items.size:=eq_of_beq q.2
  exact hw ⟨by omega,by omega⟩
 show wpAny _ _ (if (((sIx items.size 0 lo:Nat):Int) == 0 && (1:Int) == 1 && (sIx items.size items.size hi - sIx items.size 0 lo) == items.size)=true then _ else _) _ _ s
 rw[if_neg hno,aFS]
 first
  | exact wpAny_bind (m:=Builtin.Tuple.tupleExact _) (wpAny_newObj_type (wpAny_pure ⟨_,rfl,wpAny_pure h⟩) htake)
  | exact wpAny_bind (m:=Builtin.Tuple.tupleExact _) (wpAny_newObj_type (wpAny_bind (wpAny_pure (wpAny_pure ⟨_,rfl,wpAny_pure h⟩))) htake)
  | exact wpAny_bind (wpAny_bind (m:=Builtin.Tuple.tupleExact _) (wpAny_newObj_type (wpAny_pure (wpAny_pure ⟨_,rfl,wpAny_pure h⟩)) htake))
  | exact wpAny_bind (wpAny_bind (m:=Builtin.Tuple.tupleExact _) (wpAny_newObj_type (wpAny_pure ⟨_,rfl,wpAny_pure h⟩) htake))
end
end HT
namespace L2
open PySem PySem.Spec PyProof.Rows
abbrev TO:=St->Hp->(Option Int->Hp->Prop)->Prop
def PO(X:Cx)(e:Option Expr)(t:TO):Prop:=
 ∀ (pins:List (Addr×Obj)) (s:Shared) (σ:St) (H:Hp) (Q:Option Int->Hp->Prop),Inv X pins σ H s->t σ H Q->
  wpAny (model X.prog X.w) X.A (evalPart e X.env) (fun u s'=>∃ o H',Inv X pins σ H' s'/\IsPart u o/\Q o H') X.xe s
def aII:TO:=fun _ H Q=>Q none H
def aNI(t:TE):TO:=fun σ H Q=>t σ H fun x H1=>∃ i,x=.int i/\Q (some i) H1
section
variable{X:Cx}{e:Expr}{te:TE}{lo hi:Option Expr}{tl th:TO}{pos p2:Pos}
theorem aIJ:PO X none aII:=by
 intro pins s σ H Q I h
 rw[evalPart_none]
 exact wpAny_pure ⟨none,H,I,.none,h⟩
theorem aIK(h:PE X e te):PO X (some e) (aNI te):=by
 intro pins s σ H Q I hw
 rw[evalPart_some]
 refine thn (h pins s σ H _ I hw) fun u s1 zz0=>?_
 obtain ⟨x,H1,I1,r1,q1⟩:=zz0
 obtain ⟨i,rfl,q⟩:=q1
 obtain ⟨t,rfl⟩:=r1
 exact ⟨some i,H1,I1,.int i t,q⟩
def SlR(X:Cx)(r:V->Option Int->Option Int->Hp->VK->Prop):Prop:=
 ∀ (pins:List (Addr×Obj)) (s:Shared) (σ:St) (H:Hp) (x:V) (v vl vu:Value) (lo hi:Option Int) (sl:Addr) (Q:VK),Inv X pins σ H s->bF x v->s.heap.IsSliceOf sl vl vu .none->IsPart vl lo->IsPart vu hi->r x lo hi H Q->
  ∃ T id,typeLookup (.type T) "__getitem__"=pure (some (.builtin id))/\s.TypeIs v T/\wpAny (model X.prog X.w) X.A (getItem v (.ref sl)) (EP X pins σ Q) X.xe s
def tSl(r:V->Option Int->Option Int->Hp->VK->Prop)(te:TE)(tl th:TO):TE:=fun σ H Q=>te σ H fun x H1=>tl σ H1 fun l H2=>th σ H2 fun u H3=>r x l u H3 Q
theorem aFT{r:V->Option Int->Option Int->Hp->VK->Prop}(hr:SlR X r)(he:PE X e te)(hl:PO X lo tl)(hu:PO X hi th):PE X (.Subscript e (.Slice lo hi none p2) pos) (tSl r te tl th):=by
 intro pins s σ H Q I h
 refine Subscript_ (thn (he pins s σ H _ I h) fun v s1 zz0=>?_)
 obtain ⟨x,H1,I1,r1,q1⟩:=zz0
 refine wpAny_Slice (thn (hl pins s1 σ H1 _ I1 q1) fun vl s2 ⟨l,H2,I2,pl,q2⟩=>thn (hu pins s2 σ H2 _ I2 q2) fun vu s3 zz0=>?_)
 obtain ⟨u,H3,I3,pu,q3⟩:=zz0
 rw[evalPart_none]
 refine wpAny_pure ?_
 have I4:Inv X pins σ H3 {s3 with heap:=s3.heap.push {cls:=.type "slice",data:=.fields #[vl,vu,.none]}}:=I3.kept (t':=s3.toks) fun b ob q=>Heap.get?_push_of_some _ q
 obtain ⟨T,id,hT,ht,hg⟩:=hr pins {s3 with heap:=s3.heap.push {cls:=.type "slice",data:=.fields #[vl,vu,.none]}} σ H3 x v vl vu l u s3.heap.objs.size Q I4 r1 (Heap.IsSliceOf.new ..) pl pu q3
 show wpAny (model X.prog X.w) X.A (subscriptTail e (.Slice lo hi none p2) v (.ref s3.heap.objs.size)) (EP X pins σ Q) X.xe {s3 with heap:=s3.heap.push {cls:=.type "slice",data:=.fields #[vl,vu,.none]}}
 exact tail_any (ops:=[.ref s3.heap.objs.size,v]) ht hT hg (by with_unfolding_all rfl)
noncomputable def pR(xs:List V)(lo hi:Option Int):List V:=(xs.drop (HT.sIx xs.length 0 lo)).take (HT.sIx xs.length xs.length hi - HT.sIx xs.length 0 lo)
theorem rN(xs:List V)(lo hi:Option Int):(pR xs lo hi).length<=xs.length:=by
 unfold pR
 rw[List.length_take,List.length_drop]
 omega
def aOP(K:Frag):V->Option Int->Option Int->Hp->VK->Prop:=fun x lo hi H Q=>∃ a xs,x=.ref a/\SqT K H a xs /\
 ¬ (HT.sIx xs.length 0 lo=0/\HT.sIx xs.length xs.length hi=xs.length)/\∀ p,H p=none->Q (.ref p) (upd H p (.tup (pR xs lo hi)))
theorem aK3:SlR X (aOP X.K):=by
 intro pins s σ H x v vl vu lo hi sl Q I rx hs pl pu h
 obtain ⟨a,xs,rfl,hx,hw,q⟩:=h
 cases rx
 obtain ⟨its,r,ht,hz⟩:=I.tuple hx
 have hlen:its.toArray.size=xs.length:=by rw[List.size_toArray];exact r.length.symm
 refine ⟨"tuple",_,PyProof.Rows.slot_tuple_getitem.lookup,ht.typeIs,?_⟩
 refine HT.rJ ht hs pl pu (by rw[hlen];exact hw) ?_ (by rw[hlen];exact hz)
 rw[hlen]
 refine ⟨.ref s.heap.objs.size,_,I.laid (t':=s.toks) (o:=.tup (pR xs lo hi)) (fun b ob q=>Heap.get?_push_of_some _ q) (Nat.le_refl _) ?_,rfl,q _ (I.hok.fresh (Nat.le_refl _))⟩
 exact ⟨Nat.le_trans (rN xs lo hi) hz,_,(r.drop (HT.sIx xs.length 0 lo)).take (HT.sIx xs.length xs.length hi - HT.sIx xs.length 0 lo),kW.new _ _⟩
def aNJ(K:Frag):R2:=fun x y H Q=>∃ a b xs ys,x=.ref a/\y=.ref b/\SqT K H a xs/\SqT K H b ys/\xs≠[]/\xs.length+ys.length<=sizeLine /\
 (ys=[]->Q (.ref a) H)/\(ys≠[]->∀ p,H p=none->Q (.ref p) (upd H p (.tup (xs++ys))))
theorem bB.nil_iff{xs:List V}{us:List Value}(r:bB xs us):us=[]↔xs=[]:=by
 cases r with
 | nil=>simp
 | cons _ _=>simp
theorem aIL:OpR X (binaryOp .Add) (aNJ X.K):=by
 intro pins s σ H x y v u Q I rx ry h
 obtain ⟨a,b,xs,ys,rfl,rfl,ha,hb,hx,hz,q1,q2⟩:=h
 cases rx
 cases ry
 obtain ⟨its,r1,p1,_⟩:=I.tuple ha
 obtain ⟨its2,r2,p2,_⟩:=I.tuple hb
 refine HT.aIH p1 p2 (fun z=>hx (r1.nil_iff.mp z)) (fun z=>⟨.ref a,H,I,rfl,q1 (r2.nil_iff.mp z)⟩) (fun z=>?_) (by rw[<-r1.length,<-r2.length];exact hz)
 refine ⟨.ref s.heap.objs.size,_,I.laid (t':=s.toks) (o:=.tup (xs++ys)) (fun b ob q=>Heap.get?_push_of_some _ q) (Nat.le_refl _) ?_,rfl,q2 (fun w=>z (r2.nil_iff.mpr w)) _ (I.hok.fresh (Nat.le_refl _))⟩
 exact ⟨by rw[List.length_append];exact hz,_,r1.append r2,kW.new _ _⟩
end
end L2
namespace L2
open PySem PySem.Spec PyProof.Rows
noncomputable def ixN(n:Nat)(i:Int):Option Nat:=if 0<=i then (if i < n then some i.toNat else none) else if -(n:Int)<=i then some (i+n).toNat else none
noncomputable def atI{α:Type}(xs:List α)(i:Int):Option α:=(ixN xs.length i).bind fun j=>xs[j]?
theorem aIM{n:Nat}{i:Int}{j:Nat}(h:ixN n i=some j):seqIndex? i n=some j/\j < n /\ -(n:Int)<=i/\i < n:=by
 unfold ixN at h
 by_cases h0:0<=i
 ·rw[if_pos h0] at h
  by_cases h1:i < n
  ·rw[if_pos h1] at h
   have e:i.toNat=j:=Option.some.inj h
   exact ⟨by rw[seqIndex_of h0 h1,e],by omega,by omega,h1⟩
  ·rw[if_neg h1] at h;cases h
 ·rw[if_neg h0] at h
  by_cases h1 : -(n:Int)<=i
  ·rw[if_pos h1] at h
   have e:(i+n).toNat=j:=Option.some.inj h
   exact ⟨by rw[seqIndex_neg (by omega) h1,e],by omega,h1,by omega⟩
  ·rw[if_neg h1] at h;cases h
theorem uV{α:Type}{xs:List α}{i:Int}{v:α}(h:atI xs i=some v):∃ j,seqIndex? i xs.length=some j/\xs[j]? = some v/\j < xs.length /\ -(xs.length:Int)<=i/\i < xs.length:=by
 unfold atI at h
 cases e:ixN xs.length i with
 | none=>rw[e] at h;cases h
 | some j=>
  rw[e] at h
  obtain ⟨h1,h2,h3,h4⟩:=aIM e
  exact ⟨j,h1,h,h2,h3,h4⟩
theorem iD{α:Type}{xs:List α}{j:Nat}{v:α}(h:xs[j]? = some v):atI xs (j:Int)=some v:=by
 have hj:j < xs.length:=(List.getElem?_eq_some_iff.mp h).1
 have e:ixN xs.length (j:Int)=some j:=by
  unfold ixN
  rw[if_pos (by omega),if_pos (by omega)];simp
 unfold atI;rw[e];exact h
def aAM(b:Expr):Prop:=∀ o i,subscripted b false o i=operate [o,i] (getItem o i)
def IxR(X:Cx)(r:R2):Prop:=
 ∀ (value slice:Expr) (pins:List (Addr×Obj)) (s:Shared) (σ:St) (H:Hp) (x y:V) (v u:Value) (Q:VK),Inv X pins σ H s->bF x v->bF y u->r x y H Q->
  subscripted slice false v u=operate [v,u] (getItem v u)->wpAny (model X.prog X.w) X.A (subscriptTail value slice v u) (EP X pins σ Q) X.xe s
def MtR(X:Cx)(id:String)(r:V->List V->Hp->VK->Prop):Prop:=
 ∀ (pins:List (Addr×Obj)) (s:Shared) (σ:St) (H:Hp) (x:V) (xs:List V) (v:Value) (us:List Value) (Q:VK),Inv X pins σ H s->bF x v->bB xs us->r x xs H Q->
  wpAny (model X.prog X.w) X.A (call (.builtin id) (v::us)) (EP X pins σ Q) X.xe s
section
variable{X:Cx}{a b:Expr}{ta tb:TE}{pos:Pos}
theorem aNK{r:R2}(hr:IxR X r)(ha:PE X a ta)(hb:PE X b tb)(hs:aAM b):PE X (.Subscript a b pos) (tOp r ta tb):=by
 intro pins s σ H Q I h
 exact Subscript_ (aFP ha hb I h fun v u s2 x y H2 I2 rx ry q=>hr a b pins s2 σ H2 x y v u Q I2 rx ry q (hs _ _))
def aOQ(K:Frag):R2:=fun x y H Q=>∃ p xs i v,x=.ref p/\y=.int i/\SqL K H p xs/\atI xs i=some v/\Q v H
def aOR(K:Frag):R2:=fun x y H Q=>∃ p xs i v,x=.ref p/\y=.int i/\SqT K H p xs/\atI xs i=some v/\Q v H
def aOS:R2:=fun x y H Q=>∃ z i c,x=.str z/\y=.int i/\z.length<=sizeLine/\atI z.cps.toList i=some c/\Q (.str ⟨#[c]⟩) H
theorem aIN:IxR X (aOQ X.K):=by
 intro value slice pins s σ H x y v u Q I rx ry h hs
 obtain ⟨p,xs,i,z,rfl,rfl,hq,he,q⟩:=h
 cases rx
 obtain ⟨t,rfl⟩:=ry
 obtain ⟨its,r,pl,hz⟩:=I.list hq
 obtain ⟨j,h1,h2,h3,h4,h5⟩:=uV he
 obtain ⟨w,ew,rw'⟩:=r.get h2
 have hl:=r.length
 have hn:=sZ
 have fin:EP X pins σ Q w s:=⟨z,H,I,rw',q⟩
 by_cases h0:0<=i
 ·have hj:i.toNat=j:=by
   rw[seqIndex_of h0 h5] at h1
   exact Option.some.inj h1
  exact item_listR pl.isList h0 (by omega) (by rw[hj];simpa using ew) fin hs
 ·have hj:(i+(its.toArray.size:Int)).toNat=j:=by
   rw[seqIndex_neg (by omega) h4] at h1
   rw[List.size_toArray,<-hl]
   exact Option.some.inj h1
  exact subscriptTail_builtinR (x:=w) pl.isList.typeIs slot_list_getitem.lookup
   (wpAny_getItem_list_neg (Q:=fun r s'=>r=w/\EP X pins σ Q r s') pl.isList (by omega) (by rw[List.size_toArray]<;>omega) (by omega) (by rw[hj];simpa using ew) ⟨rfl,fin⟩) hs
theorem aK4:IxR X (aOR X.K):=by
 intro value slice pins s σ H x y v u Q I rx ry h hs
 obtain ⟨p,xs,i,z,rfl,rfl,hq,he,q⟩:=h
 cases rx
 obtain ⟨t,rfl⟩:=ry
 obtain ⟨its,r,pl,hz⟩:=I.tuple hq
 obtain ⟨j,h1,h2,h3,h4,h5⟩:=uV he
 obtain ⟨w,ew,rw'⟩:=r.get h2
 have hl:=r.length
 have hn:=sZ
 have fin:EP X pins σ Q w s:=⟨z,H,I,rw',q⟩
 exact subscriptTail_builtinR (x:=w) pl.typeIs slot_tuple_getitem.lookup
  (getItem_tuple (j:=j) (Q:=fun r s'=>r=w/\EP X pins σ Q r s') pl (by omega) (by omega) (by rw[List.size_toArray,<-hl];exact h1) (by simpa using ew) ⟨rfl,fin⟩) hs
theorem aK5:IxR X aOS:=by
 intro value slice pins s σ H x y v u Q I rx ry h hs
 obtain ⟨z,i,c,rfl,rfl,hz,he,q⟩:=h
 obtain ⟨t,rfl⟩:=rx
 obtain ⟨t',rfl⟩:=ry
 obtain ⟨j,h1,h2,h3,h4,h5⟩:=uV he
 have hl:z.cps.toList.length=z.length:=by simp[Str.length]
 rw[hl] at h1 h4 h5
 have hn:=sZ
 exact tail_any (typeIs_str s z t) slot_str_getitem.lookup (getItem_str (c:=c) (by
  have e1:decide (i < -(2 ^ 63:Int))=false:=decide_eq_false (by omega)
  have e2:decide (i>=2 ^ 63)=false:=decide_eq_false (by omega)
  rw[e1,e2,Bool.or_false]) (by rw[h1];simpa using h2) ⟨.str ⟨#[c]⟩,H,I.tok _,⟨_,rfl⟩,q⟩) hs
theorem Inv.lst{pins:List (Addr×Obj)}{σ:St}{H:Hp}{s:Shared}{p:Addr}{xs:List V}(I:Inv X pins σ H s)(h:H p=some (.lst xs)) :
  ∃ (its:List Value) (n:Nat),bB xs its/\s.heap.get? p=some {cls:=.type "list",data:=.seq its.toArray n}/\xs.length<=sizeLine:=by
 obtain ⟨z,its,n,r,e⟩:=I.hok p _ h
 exact ⟨its,n,r,e,z⟩
theorem xW(lo hi:Option Int)(n:Nat):(sliceBounds lo hi none n).1=((HT.sIx n 0 lo:Nat):Int)/\(sliceBounds lo hi none n).2.1=((HT.sIx n n hi:Nat):Int)/\(sliceBounds lo hi none n).2.2=1:=by
 refine ⟨?_,?_,rfl⟩
 ·cases lo with
  | none=>simp[sliceBounds,HT.sIx]
  | some i=>
   simp only[sliceBounds,HT.sIx,Option.getD_none,show (1:Int) > 0 by decide,if_true]
   by_cases h:i < 0
   · simp only [h, if_true] <;> omega
   · simp only [h, if_false] <;> omega
 ·cases hi with
  | none=>simp[sliceBounds,HT.sIx]
  | some i=>
   simp only[sliceBounds,HT.sIx,Option.getD_none,show (1:Int) > 0 by decide,if_true]
   by_cases h:i < 0
   · simp only [h, if_true] <;> omega
   · simp only [h, if_false] <;> omega
theorem wR(its:List Value)(lo hi:Option Int):slicePick its.toArray lo hi none=((its.drop (HT.sIx its.length 0 lo)).take (HT.sIx its.length its.length hi - HT.sIx its.length 0 lo)).toArray:=by
 obtain ⟨h1,h2,h3⟩:=xW lo hi its.toArray.size
 unfold slicePick
 rw[h1,h2,h3]
 simp only[sliceRange_one,pick_run,List.size_toArray]<;>rfl
def aOT(K:Frag):V->Option Int->Option Int->Hp->VK->Prop:=fun x lo hi H Q=>∃ a xs,x=.ref a/\SqL K H a xs/\∀ p,H p=none->Q (.ref p) (upd H p (.lst (pR xs lo hi)))
theorem aIO:SlR X (aOT X.K):=by
 intro pins s σ H x v vl vu lo hi sl Q I rx hs pl pu h
 obtain ⟨a,xs,rfl,hx,q⟩:=h
 cases rx
 obtain ⟨its,r,ht,hz⟩:=I.list hx
 have hlen:=r.length
 refine ⟨"list",_,slot_list_getitem.lookup,ht.isList.typeIs,?_⟩
 refine wpAny_getItem_list_slice ht.isList hs pl pu .none (by simp) ?_ (by rw[List.size_toArray]<;>omega)
 rw[wR,<-hlen]
 refine ⟨.ref s.heap.objs.size,_,I.laid (t':=s.toks) (o:=.lst (pR xs lo hi)) (fun b ob q=>Heap.get?_push_of_some _ q) (Nat.le_refl _) ?_,rfl,q _ (I.hok.fresh (Nat.le_refl _))⟩
 exact ⟨Nat.le_trans (rN xs lo hi) hz,_,0,(r.drop (HT.sIx xs.length 0 lo)).take (HT.sIx xs.length xs.length hi - HT.sIx xs.length 0 lo),Heap.get?_push_size _ rfl⟩
theorem xX:eX X (.type "list") (fun xs H Q=>∃ p ys,xs=[.ref p]/\(SqL X.K H p ys\/SqT X.K H p ys)/\∀ l,H l=none->Q (.ref l) (upd H l (.lst ys))):=by
 intro pins s σ H xs us Q I r h
 obtain ⟨p,ys,rfl,hq,q⟩:=h
 obtain ⟨u,rfl,rx⟩:=iV r
 cases rx
 have fin:∀ (its:List Value),bB ys its->ys.length<=sizeLine->∀ (h':Heap) (c':Nat),(∀ b o',s.heap.get? b=some o'->h'.get? b=some o')->
   h'.get? s.heap.objs.size=some {cls:=.type "list",dict:=none,data:=.seq its.toArray c',slots:=#[]}->EP X pins σ Q (.ref s.heap.objs.size) {s with heap:=h'}:=fun its r' hz h' c' kp e=>
  ⟨.ref s.heap.objs.size,_,I.laid (t':=s.toks) kp (Nat.le_refl _) (show b8 X.prog X.w _ h' _ (.lst ys) from ⟨hz,its,c',r',e⟩),rfl,q _ (I.hok.fresh (Nat.le_refl _))⟩
 rcases hq with hq|hq
 ·obtain ⟨its,r',pl,hz⟩:=I.list hq
  have hlen:=r'.length
  obtain ⟨o,ho,hc,n,hd⟩:=pl.isList
  exact call_list_seq p (.inl rfl) ho hc hd (fun h' c' kp e=>fin its r' hz h' c' kp e) (by simp only[List.size_toArray]<;>omega)
 ·obtain ⟨its,r',pl,hz⟩:=I.tuple hq
  have hlen:=r'.length
  obtain ⟨o,ho,hc,n,hd⟩:=pl
  exact call_list_seq p (.inr rfl) ho hc hd (fun h' c' kp e=>fin its r' hz h' c' kp e) (by simp only[List.size_toArray]<;>omega)
theorem cJ:eX X (.type "tuple") (fun xs H Q=>∃ p ys,xs=[.ref p]/\((SqL X.K H p ys/\∀ l,H l=none->Q (.ref l) (upd H l (.tup ys)))\/(SqT X.K H p ys/\Q (.ref p) H))):=by
 intro pins s σ H xs us Q I r h
 obtain ⟨p,ys,rfl,h⟩:=h
 obtain ⟨u,rfl,rx⟩:=iV r
 cases rx
 rcases h with ⟨hq,q⟩|⟨hq,q⟩
 ·obtain ⟨its,r',pl,hz⟩:=I.list hq
  have hlen:=r'.length
  refine call_tuple_list pl.isList (fun h' kp=>?_) (by simp only[List.size_toArray]<;>omega)
  have I1:Inv X pins σ H {s with heap:=h'}:=I.kept (t':=s.toks) kp
  have I2:Inv X pins σ (upd H h'.objs.size (.tup ys)) {s with heap:=h'.push {cls:=.type "tuple",data:=.seq its.toArray}}:=
   I1.laid (t':=s.toks) (fun b o e=>Heap.get?_push_of_some _ e) (Nat.le_refl _) (show b8 X.prog X.w _ _ _ (.tup ys) from ⟨hz,its,r',kW.new _ _⟩)
  exact ⟨.ref h'.objs.size,_,I2,rfl,q _ (I1.hok.fresh (Nat.le_refl _))⟩
 ·obtain ⟨its,r',pl,hz⟩:=I.tuple hq
  exact call_tuple_same pl ⟨.ref p,H,I,rfl,q⟩
def tyV(K:Frag)(T:String)(x:V)(H:Hp):Prop:=match x with
 | .str _=>T="str"
 | .int _=>T="int"
 | .ref p=>(T="list"/\∃ xs,SqL K H p xs)\/(T="tuple"/\∃ o,K.lookup p=some o/\o.cls=.type "tuple"/\o.dict=none) \/
  (T="dict"/\((∃ kvs,H p=some (.dK kvs))\/∃ kvs,H p=some (.dT kvs)))\/(T="set"/\∃ S n,H p=some (.set S n))
 | _=>False
theorem aDP{pins:List (Addr×Obj)}{σ:St}{H:Hp}{s:Shared}{T:String}{x:V}{v:Value}(I:Inv X pins σ H s)(r:bF x v)(ty:tyV X.K T x H) :
  s.TypeIs v T/\∀ a,v=.ref a->∃ ob,s.heap.get? a=some ob/\ob.dict=none:=by
 cases x with
 | str z=>
  obtain ⟨t,rfl⟩:=r
  cases (show T="str" from ty)
  exact ⟨typeIs_str s z t,fun _ e=>nomatch e⟩
 | int i=>
  obtain ⟨t,rfl⟩:=r
  cases (show T="int" from ty)
  exact ⟨typeIs_int s i t,fun _ e=>nomatch e⟩
 | ref p=>
  cases r
  rcases ty with ⟨rfl,xs,hq⟩|⟨rfl,o,hk,hc,hd⟩|⟨rfl,hk⟩|⟨rfl,S,n,hk⟩
  ·obtain ⟨its,_,pl,_⟩:=I.list hq
   refine ⟨pl.isList.typeIs,fun a e=>?_⟩
   cases e
   obtain ⟨o,n,e,c,hd,_⟩:=pl
   exact ⟨o,e,hd⟩
  ·refine ⟨⟨o,I.kIn p o hk,hc⟩,fun a e=>?_⟩
   cases e
   exact ⟨o,I.kIn _ o hk,hd⟩
  ·have z:∃ o,s.heap.get? p=some o/\o.ExactDict:=by
    rcases hk with ⟨kvs,hk⟩|⟨kvs,hk⟩
    ·obtain ⟨_,_,_,_,o,_,_,e,ex,_⟩:=I.hok p _ hk
     exact ⟨o,e,ex⟩
    ·obtain ⟨_,_,_,_,o,_,_,e,ex,_⟩:=I.hok p _ hk
     exact ⟨o,e,ex⟩
   obtain ⟨o,e,ex⟩:=z
   refine ⟨⟨o,e,ex.1⟩,fun a e2=>?_⟩
   cases e2
   exact ⟨o,e,ex.2.1⟩
  ·obtain ⟨o,_,_,_,e,ex,_⟩:=I.hok p _ hk
   refine ⟨⟨o,e,ex.1⟩,fun a e2=>?_⟩
   cases e2
   exact ⟨o,e,ex.2.1⟩
 | _=>exact False.elim ty
def aK6(K:Frag)(T:String)(r:V->List V->Hp->VK->Prop)(to:TE):TE:=fun σ H Q=>to σ H fun x H1=>tyV K T x H1/\r x [] H1 Q
def tBM(K:Frag)(T:String)(r:V->List V->Hp->VK->Prop)(to:TE)(t:TA):TE:=fun σ H Q=>to σ H fun x H1=>tyV K T x H1/\t σ H1 fun xs H2=>r x xs H2 Q
variable{o e:Expr}{es:List Expr}{to:TE}{t:TA}{name:Str}{apos cpos:Pos}{T id:String}{r:V->List V->Hp->VK->Prop}
theorem aK7(pa:PlainAttrs T)(slot:Slot T name id)(hty:typeOf (.builtin id)=pure (.type "method_descriptor"))(hm:MtR X id r)(ho:PE X o to)
  (hbase:attributeBase o name X.env (eval o X.env)=eval o X.env:=by rfl) (hline:(apos.endLine == cpos.line)=true:=by rfl):PE X (.Call (.Attribute o name apos) [] [] cpos) (aK6 X.K T r to):=by
 intro pins s σ H Q I h
 refine wpAny_Call_method0_late hbase hline (thn (ho pins s σ H _ I h) fun v s1 zz0=>?_)
 obtain ⟨x,H1,I1,r1,ty,q1⟩:=zz0
 obtain ⟨h1,h2⟩:=aDP I1 r1 ty
 exact ⟨T,id,pa,slot,hty,h1,h2,Calls.callWith_builtin rfl (PySem.evalArgs_none (hm pins s1 σ H1 x [] v [] Q I1 r1 .nil q1))⟩
theorem mZ(pa:PlainAttrs T)(slot:Slot T name id)(hty:typeOf (.builtin id)=pure (.type "method_descriptor"))(hm:MtR X id r)(ho:PE X o to)(ha:PA X (e::es) t)
  (hbase:attributeBase o name X.env (eval o X.env)=eval o X.env:=by rfl)
  (hfew:((backTo cpos (starEach (e::es) X.env)).all (fun x=>!x.1) && (backToKw cpos (keywordEach [] X.env)).all (fun x=>x.1.isSome)
   && decide ((e::es).length+([]:List Keyword).length+(if ([]:List Keyword).isEmpty then 0 else 1) < 30))=true:=by rfl)
  (hline:(apos.endLine == cpos.line)=true:=by rfl) (hs:starEach (e::es) X.env=(false,eval e X.env)::starEach es X.env:=by rfl) (hplain:(backTo cpos (starEach es X.env)).any (·.1)=false:=by rfl) :
  PE X (.Call (.Attribute o name apos) (e::es) [] cpos) (tBM X.K T r to t):=by
 intro pins s σ H Q I h
 refine wpAny_Call_method_late hbase hfew hline rfl (thn (ho pins s σ H _ I h) fun v s1 zz0=>?_)
 obtain ⟨x,H1,I1,r1,ty,q1⟩:=zz0
 obtain ⟨h1,h2⟩:=aDP I1 r1 ty
 refine ⟨T,id,pa,slot,hty,h1,h2,?_⟩
 have hA:=ha cpos pins s1 σ H1 _ I1 q1
 rw[hs] at hA ⊢
 refine Calls.callWith_builtin (by show (false || (backTo cpos (starEach es X.env)).any (·.1))=false;rw[hplain]<;>rfl) (Calls.evalArgs_plain ?_)
 exact thn hA fun us s2 ⟨vs,H2,I2,r2,q2⟩=>hm pins s2 σ H2 x vs v us Q I2 r1 r2 q2
end
end L2
namespace L2
open PySem PySem.Spec PyProof.Rows
def MtM(X:Cx)(id:String)(r:V->List V->Hp->VK->Prop):Prop:=
 ∀ (pins:List (Addr×Obj)) (s:Shared) (σ:St) (H:Hp) (x:V) (xs:List V) (v:Value) (us:List Value) (Q:VK),Inv X pins σ H s->bF x v->bB xs us->r x xs H Q->
  wpAny (model X.prog X.w) X.A (call (.builtin id) (v::us)) (EP X pins σ Q) X.xe s
theorem bB.one:∀ {x:V} {us:List Value},bB [x] us->∃ u,us=[u]/\bF x u
 | _,_,.cons r .nil=>⟨_,rfl,r⟩
theorem bB.zero:∀ {us:List Value},bB [] us->us=[]
 | _,.nil=>rfl
theorem bB.dropLast{xs:List V}{us:List Value}(h:bB xs us):bB xs.dropLast us.dropLast:=by
 induction h with
 | nil=>exact .nil
 | cons r t ih=>
  cases t with
  | nil=>exact .nil
  | cons q t'=>exact .cons r ih
theorem bB.reverse{xs:List V}{us:List Value}(h:bB xs us):bB xs.reverse us.reverse:=by
 induction h with
 | nil=>exact .nil
 | cons r t ih=>rw[List.reverse_cons,List.reverse_cons];exact bB.append ih (.cons r .nil)
theorem aB9{α:Type}(l:List α):l.eraseIdx (l.length - 1)=l.dropLast:=by
 induction l with
 | nil=>rfl
 | cons a r ih=>
  cases r with
  | nil=>rfl
  | cons b r=>
   have e:(a::b::r).length - 1=((b::r).length - 1)+1:=by
    have h1:(a::b::r).length=r.length+2:=rfl
    have h2:(b::r).length=r.length+1:=rfl
    omega
   rw[e,List.eraseIdx_cons_succ,ih]
   all_goals rfl
section
variable{X:Cx}{pins:List (Addr×Obj)}{σ:St}{H:Hp}{s:Shared}{l b:Addr}{xs ys zs:List V}
theorem Inv.lset{its its':List Value}{n:Nat}{f:Array Value->Array Value}{t':Nat}(I:Inv X pins σ H s)(hH:H l=some (.lst xs))
  (e:s.heap.get? l=some {cls:=.type "list",data:=.seq its.toArray n}) (hf:f its.toArray=its'.toArray) (hv:bB ys its') (hz:ys.length<=sizeLine) :
  Inv X pins σ (upd H l (.lst ys)) {s with heap:=s.heap.update l (Obj.mapSeq f),toks:=t'}:=by
 have q:=PySem.IsL.update e f
 rw[hf] at q
 refine I.write (x:=l) (e:=l) (by rw[hH];exact trivial) (.inl rfl) (fun b' u hb hu=>(Heap.get?_update_other s.heap (Obj.mapSeq f) (Ne.symm hb)).trans hu) ⟨_,q⟩ ?_
 exact ⟨hz,its',_,hv,q⟩
theorem Inv.lstM(I:Inv X pins σ H s)(hH:H l=some (.lst xs)):xs.length<=sizeLine/\∃ (its:List Value) (n:Nat),bB xs its/\xs.length=its.length/\s.heap.get? l=some {cls:=.type "list",data:=.seq its.toArray n}:=by
 obtain ⟨z,its,n,r,e⟩:=I.hok l _ hH
 exact ⟨z,its,n,r,r.length,e⟩
end
section
variable{X:Cx}
def aAN:V->List V->Hp->VK->Prop:=fun x vs H Q=>∃ l xs y,x=.ref l/\vs=[y]/\H l=some (.lst xs)/\xs.length < sizeLine/\Q .non (upd H l (.lst (xs++[y])))
theorem jE:MtM X "list.append" aAN:=by
 intro pins s σ H x vs v us Q I rx rv h
 obtain ⟨l,xs,y,rfl,rfl,hH,hz,q⟩:=h
 cases rx
 obtain ⟨u,rfl,ru⟩:=rv.one
 obtain ⟨z,its,n,r,hl,e⟩:=I.lstM hH
 refine call_meets F.slot_list_append ⟨_,e,rfl⟩ F.entry_list_append (F.args_list_append_2 _ _) (PySem.list_append l its.toArray n u (by rw[List.size_toArray];omega)) ⟨e,?_⟩
 refine ⟨.non,_,I.lset (its':=its++[u]) hH e (by simp) (r.append (.cons ru .nil)) ?_,rfl,q⟩
 rw[List.length_append,List.length_singleton]
 omega
def aK8:V->List V->Hp->VK->Prop:=fun x vs H Q=>∃ l xs y,x=.ref l/\vs=[]/\H l=some (.lst xs)/\xs[xs.length - 1]? = some y/\Q y (upd H l (.lst xs.dropLast))
theorem aK9:MtM X "list.pop" aK8:=by
 intro pins s σ H x vs v us Q I rx rv h
 obtain ⟨l,xs,y,rfl,rfl,hH,hy,q⟩:=h
 cases rx
 have hus:=rv.zero
 subst hus
 obtain ⟨z,its,n,r,hl,e⟩:=I.lstM hH
 obtain ⟨u,hu,ru⟩:=r.get hy
 have hy':its.toArray[its.toArray.size - 1]? = some u:=by
  show its.toArray[its.length - 1]? = some u
  rw[<-Array.getElem?_toList,<-hl]
  exact hu
 refine call_meets F.slot_list_pop ⟨_,e,rfl⟩ F.entry_list_pop (F.args_list_pop_1 _) (MeetsSeq.list_pop_last l its.toArray n u hy' (by rw[List.size_toArray];omega)) ⟨e,?_⟩
 refine ⟨y,_,I.lset (its':=its.dropLast) hH e ?_ r.dropLast ?_,ru,q⟩
 ·show its.toArray.eraseIdxIfInBounds (its.toArray.size - 1)=its.dropLast.toArray
  rw[List.size_toArray,List.eraseIdxIfInBounds_toArray,aB9]
 ·rw[List.length_dropLast]
  omega
end
end L2
namespace Att
open PySem PySem.W PySem.Calls PyProof.Rows
theorem tF{P:Params}{h:Heap}:∀ (ns:List Int) (vs:List Value),WellAll P h vs (ns.map WData.int)->IntsAre vs ns:=by
 intro ns
 induction ns with
 | nil=>
  intro vs w
  rw[List.map_nil] at w
  cases w
  exact .nil
 | cons n ns ih=>
  intro vs w
  rw[List.map_cons] at w
  cases w with
  | cons a b=>
   cases a
   exact .cons _ _ (ih _ b)
theorem aDQ{l:OpenLaw}{n:Nat}(hn:l.most=some n){P:Params}{h:Heap}{args:List WData}{vals:List Value}
  (hpre:l.row.toRowW.claim.pre args=true) (hwl:WellAll P h vals args) :
  ∃ a vs ns,vals=[Value.ref a]/\args=[WData.list (ns.map WData.int)]/\h.get? a=some {cls:=.type "list",data:=.seq vs.toArray}/\IntsAre vs ns/\ns.length<=n:=by
 have hsh:WShape.hasAll [] args [.list .int]=true:=(pre_splitW hpre).1
 have hc:l.pre.holds [] {args:=args}=true:=(pre_splitW hpre).2
 obtain ⟨d,r,rfl,h1,h2⟩:=hasAllW_cons hsh
 obtain rfl:=hasAllW_nil h2
 obtain ⟨xs,rfl,h3⟩:=hasW_list h1
 obtain ⟨ns,rfl⟩:=items_int h3
 have hlen:ns.length<=n:=by
  unfold OpenLaw.pre at hc
  have h4:(WTm.not (.lt (.lit (.int (n:Int))) (.len (.arg 0)))).holds [] {args:=[.list (ns.map .int)]}=true:=by
   have h4:=(holds_andW hc).1
   rw[hn] at h4
   exact h4
  have h5:=condW_of h4 (w_not (w_lt w_lit (w_len_list (w_arg rfl))))
  rw[List.length_map] at h5
  refine Nat.le_of_not_lt fun q=>?_
  have q':(n:Int) < ((ns.length:Nat):Int):=by omega
  first
   | (rw[decide_eq_true q'] at h5;exact absurd h5 (by decide))
   | (simp at h5;omega)
 cases hwl with
 | cons w1 w2=>
  cases w2
  cases w1 with
  | list ho hall=>exact ⟨_,_,ns,rfl,rfl,ho,tF ns _ hall,hlen⟩
theorem aDR(l:OpenLaw)(args:List WData):l.row.toRowW.claim.post args (.bool true) args=true:=
 postW_of (r:=l.row.toRowW) (X:=(true == true))
  (show WShape.has [] (.bool true) .bool=true by first|rfl|decide|simp[WShape.has,WShape.arms,WShape.armsAll])
  (show (WTm.eq .res (.lit (.bool true))).value [] {args:=args,res:=some (.bool true),after:=args}=some (.bool (true == true)) from w_eq_bool (w_res rfl) w_lit) rfl
theorem attach_call{l:OpenLaw}{n:Nat}{q:Program}{loose:List Str}{XP:(Str->Option Value)->Heap->Prop}{YP:World->Heap->Prop}{d:DefRec}
  (hn:l.most=some n) (hdf:d.params.defaults=[])
  (call:∀ (w:World) (s₀ s₁:Shared) (mg mb:Str->Option Value) (fa:Addr) (o:Obj) (pm cd doc:Value) (a:Addr) (vs:List Value) (ns:List Int),
   Ground q loose [] XP w s₀ mg mb s₁.heap->YP w s₁.heap->
   s₁.heap.get? fa=some o->o.data=.func (docDef d.name d.params d.body d.scope pm cd doc)->s₁.heap.CodeRec cd d.name->mg d.name=some (.ref fa)->
   s₁.heap.get? a=some {cls:=.type "list",data:=.seq vs.toArray}->IntsAre vs ns->ns.length<=n->s₁.gens = #[]->
   codeAny (model l.prog w) callerA (.call (.ref fa) ⟨[.ref a],[]⟩) (fun r s'=>r=.ok (.ret (.bool true))/\OldK s₁.heap s'.heap/\s'.os=s₁.os/\AllBare s'.gens) s₁) :
  WalkO q loose XP YP l.row.toRowW d [] (fun f vs=>PySem.call f vs):=by
 intro w s₀ s₁ mg mb G Y fa o pm cd doc dV kV ho hd hcd hD hmg hg args vals as hpre hlay hrd hwl hlo
 obtain rfl:dV=.none:=Dflts.none hD hdf
 obtain rfl:kV=.none:=Dflts.noKw hD
 obtain ⟨a,vs,ns,rfl,rfl,hobj,hints,hlen⟩:=aDQ hn hpre hwl
 refine enter_call (codeAny_mono (call w s₀ s₁ mg mb fa o pm cd doc a vs ns G Y ho (fd_plain hd) hcd hmg hobj hints hlen hg) fun r s' hq=>?_)
 obtain ⟨rfl,h2,h3,h4⟩:=hq
 exact ⟨.inl ⟨.bool true,.bool true,[],rfl,fun _=>rfl,.bool true,aDR l _,fun _=>⟨List.Pairwise.nil,fun _ hm=>(nomatch hm)⟩⟩,h2,h3,h4⟩
section
variable{prog:Program}{w:World}{A:Around}{E:Value->Shared->Prop}{s:Shared}{K:Frag}
noncomputable def aPZ(h:Heap)(L d:Addr):List (Addr×Obj):=(List.range h.objs.size).filterMap fun a=>if a=L\/a=d then none else (h.get? a).map fun o=>(a,o)
end
end Att
namespace L2
open PySem PySem.Spec PyProof.Rows
theorem v9:∀ {vs:List Value} {ns:List Int},IntsAre vs ns->bB (ns.map V.int) vs
 | _,_,.nil=>.nil
 | _,_,.cons n t h=>.cons ⟨t,rfl⟩ (v9 h)
def aFU(H:Hp):Prop:=∀ b,H b=none\/∃ o xs,H b=some (.frz o (.lst xs))
theorem aFV{P:Program}{w:World}{K:Frag}{mg mb:Str->Option Value}{CX:CXT}{k:Nat}{fa a:Addr}{fd:FuncData}{x:Str}{sp:Sp}{s₁:Shared}{vs:List Value}{ns:List Int}
  (KX:K.In s₁.heap) (hns:s₁.heap.Ns mainGlobals mg) (hb:s₁.heap.Ns builtinsNs mb) (hbb:∀ x:Str,x≠"__name__"->mb x=bootBuiltins x) (hlim:s₁.heap.NoLimit) (hg:s₁.gens = #[])
  (ha:s₁.heap.get? a=some {cls:=.type "list",data:=.seq vs.toArray}) (hi:IntsAre vs ns) (hl:ns.length<=sizeLine) (hr:Room k callerA)
  (F:∀ base:Heap,K.In base->base.Ns mainGlobals mg->FnOk P w K mg base CX k fa fd [x] sp) (hbind:∀ (s:Shared) (u:Value),BindsTo s fd ⟨[u],[]⟩ [(x,u)])
  (hsp:∀ H:Hp,aFU H->SqL K H a (ns.map V.int)->sp [.ref a] H (fun v _=>v=.bl true) fun _ _ _=>False)
  (hCX:∀ H e s',CX [] H s₁ (fun _ _ _=>False) e s'->False) :
  codeAny (model P w) callerA (.call (.ref fa) ⟨[.ref a],[]⟩) (fun r s'=>r=.ok (.ret (.bool true))/\OldK s₁.heap s'.heap/\s'.os=s₁.os/\AllBare s'.gens) s₁:=by
 have rv:=v9 hi
 have lenV:=hi.length
 have core:∀ H:Hp,aFU H->SqL K H a (ns.map V.int)->HOk P w H s₁.heap->(∀ b,H b≠none->b=a)->(H a≠none->K.lookup a=none)->
   codeAny (model P w) callerA (.call (.ref fa) ⟨[.ref a],[]⟩) (fun r s'=>r=.ok (.ret (.bool true))/\OldK s₁.heap s'.heap/\s'.os=s₁.os/\AllBare s'.gens) s₁:=by
  intro H hO hS hok hA hK
  have base_of:∀ {b:Addr} {o:Obj},s₁.heap.get? b=some o->H b=none->(oO s₁.heap H).get? b=some o:=fun e n=>aFK e n
  have noA:∀ {b:Addr} {o:Obj} {es:Array DictEntry} {ep:Nat},s₁.heap.get? b=some o->o.data=.dict es ep->H b=none:=fun {b o es ep} e d=>by
   cases q:H b with
   | none=>rfl
   | some u=>
    have e':b=a:=hA b (by rw[q];simp)
    subst e'
    rw[ha] at e;cases e
    have d':Data.seq vs.toArray _=Data.dict es ep:=d
    cases d'
  have nsK:∀ {b:Addr} {m:Str->Option Value},s₁.heap.Ns b m->(oO s₁.heap H).Ns b m:=fun {b m} ⟨o,es,ep,e,d,r⟩=>⟨o,es,ep,base_of e (noA e d),d,r⟩
  have hKb:K.In (oO s₁.heap H):=fun b o e=>base_of (KX b o e) (by
   cases q:H b with
   | none=>rfl
   | some u=>
    have e':b=a:=hA b (by rw[q];simp)
    subst e'
    rw[hK (by rw[q];simp)] at e;cases e)
  have hM:Mod K mg (oO s₁.heap H):=⟨hKb,nsK hns,⟨mb,nsK hb,hbb⟩,let ⟨mc,h1,h2⟩:=hlim;⟨mc,nsK h1,h2⟩⟩
  have e0:Env0 P w K mg (oO s₁.heap H) callerA [] s₁ H:=⟨rfl,hM,fun b o e=>aIB e,Nat.le_of_eq (aDI _ _),trivial,fun b hb=>absurd (show b∈([]:List Addr) from hb) (by simp),hok,.of_eq hg⟩
  refine codeAny_mono ((F _ hKb (nsK hns)).run callerA [] s₁ H ⟨[.ref a],[]⟩ [.ref a] [.ref a] _ _ hr e0 (hbind s₁ (.ref a)) (.cons rfl .nil) (hsp H hO hS)) fun r s' h=>?_
  cases r with
  | error e=>exact (hCX H e s' h).elim
  | ok fl=>
   cases fl with
   | next=>exact False.elim h
   | brk=>exact False.elim h
   | cont=>exact False.elim h
   | ret u=>
    obtain ⟨v,H',os,bare,un,hok',r',q⟩:=h
    have q':v=.bl true:=q
    subst q'
    obtain rfl:u=Value.bool true:=r'
    refine ⟨rfl,OldK.of_keep fun b o e=>?_,os,bare⟩
    cases q:H b with
    | none=>exact un.keep b o e q (by intro z;exact absurd (show b∈([]:List Addr) from z) (by simp)) (by simp)
    | some u=>
     rcases hO b with z|⟨ob,xs,z⟩
     ·rw[q] at z;cases z
     ·have z2:=un.frzs b ob _ z
      obtain ⟨e1,_⟩:=hok b _ z
      obtain ⟨e2,_⟩:=hok' b _ z2
      rw[e] at e1;cases e1
      exact e2
 cases hk:K.lookup a with
 | some o=>
  have e:=KX a o hk
  rw[ha] at e
  cases e
  refine core (fun _=>none) (fun _=>.inl rfl) (.inr ⟨_,vs.toArray,_,hk,rfl,rfl,rfl,by rw[List.size_toArray,lenV];exact hl,by simpa using rv⟩) (fun b u z=>by have z':(none:Option HO)=some u:=z;cases z') (fun b z=>absurd rfl z) fun z=>absurd rfl z
 | none=>
  refine core (fun b=>if b=a then some (.frz {cls:=.type "list",data:=.seq vs.toArray} (.lst (ns.map V.int))) else none) (fun b=>?_) (.inl (.inr ⟨{cls:=.type "list",data:=.seq vs.toArray},if_pos rfl⟩)) (fun b u z=>?_) (fun b z=>?_) fun _=>hk
  ·by_cases hb:b=a
   ·exact .inr ⟨_,_,if_pos hb⟩
   ·exact .inl (if_neg hb)
  ·by_cases hb:b=a
   ·have z':=(if_pos hb).symm.trans z
    cases z'
    subst hb
    exact ⟨ha,by rw[List.length_map];exact hl,vs,_,rv,ha⟩
   ·have z':=(if_neg hb).symm.trans z
    cases z'
  ·by_cases hb:b=a
   ·exact hb
   ·exact absurd (if_neg hb) z
end L2
namespace L2
open PySem PySem.Spec PyProof.Rows
abbrev KOf{K:Frag}{h:Heap}(_:K.In h):Frag:=K
theorem walk_of{l:PySem.W.OpenLaw}{n k:Nat}{q:Program}{loose:List Str}{XP:(Str->Option Value)->Heap->Prop}{YP:World->Heap->Prop}{d:DefRec}{K:Params->Frag}{CX:World->CXT}{sp:World->Sp}{x:Str}
  (hn:l.most=some n) (hn2:n<=sizeLine) (hdf:d.params.defaults=[]) (hr:Room k callerA)
  (hY:∀ (w:World) (h:Heap),YP w h->(K w.params).In h)
  (F:∀ (w:World) (mg:Str->Option Value) (fa:Addr) (h:Heap),(K w.params).In h->h.Ns mainGlobals mg->mg d.name=some (.ref fa)->
   ∃ fd:FuncData,(∀ (s:Shared) (u:Value),BindsTo s fd ⟨[u],[]⟩ [(x,u)]) /\
    ∀ base:Heap,(K w.params).In base->base.Ns mainGlobals mg->FnOk l.prog w (K w.params) mg base (CX w) k fa fd [x] (sp w))
  (hsp:∀ (w:World) (H:Hp) (a:Addr) (ns:List Int),ns.length<=n->aFU H->SqL (K w.params) H a (ns.map V.int)->sp w [.ref a] H (fun v _=>v=.bl true) fun _ _ _=>False)
  (hCX:∀ (w:World) (H:Hp) (s:Shared) (e:Value) (s':Shared),CX w [] H s (fun _ _ _=>False) e s'->False) :
  PySem.W.WalkO q loose XP YP l.row.toRowW d [] (fun f vs=>PySem.call f vs):=by
 refine Att.attach_call hn hdf fun w s₀ s₁ mg mb fa o pm cd doc a vs ns G Y ho hd hcd hmg hobj hints hlen hg=>?_
 have KX:=hY w _ Y
 obtain ⟨fd,hb,hF⟩:=F w mg fa _ KX G.T.g hmg
 exact aFV KX G.T.g G.T.b G.T.builtins G.T.nolimit hg hobj hints (Nat.le_trans hlen hn2) hr hF hb (fun H hO hS=>hsp w H a ns hlen hO hS) fun H e s'=>hCX w H s₁ e s'
end L2
namespace L2
open PySem PySem.Spec PyProof.Rows
noncomputable def kA(s:Stmt)(j:Nat):Stmt:=match s with
 | .ClassDef _ _ _ body _ _ _ _ _ _ _=>body.getD j (.Pass ⟨0,0,0,0⟩)
 | _=>.Pass ⟨0,0,0,0⟩
noncomputable def gH(s:Stmt):Arguments:=match s with
 | .FunctionDef _ a _ _ _ _ _ _ _ _=>a
 | _=>{posonlyargs:=[],args:=[],vararg:=none,kwonlyargs:=[],kw_defaults:=[],kwarg:=none,defaults:=[]}
noncomputable def dH(s:Stmt):List Stmt:=match s with
 | .FunctionDef _ _ b _ _ _ _ _ _ _=>b
 | _=>[]
noncomputable def aO(s:Stmt):Scope:=match s with
 | .FunctionDef _ _ _ _ _ _ sc _ _ _=>sc
 | _=>{kind:=.function,names:=[],isGenerator:=false,isCoroutine:=false}
abbrev CX0:CXT:=fun _ _ _ _ _ _=>False
abbrev E0:XK:=fun _ _ _=>False
structure Fun(K:Frag)(x qual:Str)(st:Stmt)(f:Addr)(fd:FuncData):Prop where
 ex:∃ (oc:Value) (od:Option Addr) (kV doc pm:Value) (an:Option Addr) (cdv ct:Value) (osl:Array (Option Value)),
  fd=PySem.W.fnOf x qual (gH st) (dH st) (aO st) .none kV doc pm an cdv ct/\K.lookup f=some ⟨oc,od,.func fd,osl⟩/\PySem.W.codeIn K cdv qual=true
 kp:PySem.W.keepIn K (.ref f)=true
section
variable{P:Program}{w:World}{K:Frag}{mg:Str->Option Value}{base:Heap}
theorem Fun.ok{x qual:Str}{st:Stmt}{f:Addr}{fd:FuncData}{N ps:List Str}{k:Nat}{sp:Sp}(F:Fun K x qual st f fd)(S:FnScope N ps (aO st))(len:∀ vs H Q E,sp vs H Q E->vs.length=ps.length)
  (hbody:∀ (cdv:Value) (A:Around) (outer:List Env) (s:Shared) (H:Hp) (vs:List V) (Q:VK) (E:XK),Room k (A.deeper (envOfC qual (aO st) s.heap.objs.size f cdv))->sp vs H Q E->
   ∃ t,PSs (iO CX0 P w K mg base N qual (aO st) f cdv A outer s H E).nox (dH st) t/\t {nx:=fun _ H'=>Q .non H',rt:=Q} (start N vs) H):FnOk P w K mg base CX0 (k+1) f fd ps sp:=by
 obtain ⟨oc,od,kV,doc,pm,an,cdv,ct,osl,rfl,lk,hcd⟩:=F.ex
 refine aHN lk hcd S len fun A outer s H vs Q E hr hsp=>?_
 obtain ⟨t,h,q⟩:=hbody cdv A outer s H vs Q E hr hsp
 exact ⟨t,h.nox,q⟩
theorem Fun.binds{x qual:Str}{st:Stmt}{f:Addr}{fd:FuncData}{ps:List Str}(F:Fun K x qual st f fd)
  (h:∀ (kV doc pm:Value) (an:Option Addr) (cdv ct:Value) (us:List Value),us.length=ps.length->bindArgs (PySem.W.fnOf x qual (gH st) (dH st) (aO st) .none kV doc pm an cdv ct) ⟨us,[]⟩=pure (ps.zip us)):iC K fd ps []:=by
 obtain ⟨oc,od,kV,doc,pm,an,cdv,ct,osl,rfl,lk,hcd⟩:=F.ex
 exact .all (h kV doc pm an cdv ct)
theorem xY{x qual:Str}{st:Stmt}{f:Addr}{oc:Value}{od an:Option Addr}{osl:Array (Option Value)}{kV doc pm cdv ct:Value}(l:K.lookup f=some ⟨oc,od,.func (PySem.W.fnOf x qual (gH st) (dH st) (aO st) .none kV doc pm an cdv ct),osl⟩)
 (c:PySem.W.codeIn K cdv qual=true) (k:PySem.W.keepIn K (.ref f)=true):Fun K x qual st f (PySem.W.fnOf x qual (gH st) (dH st) (aO st) .none kV doc pm an cdv ct):=⟨⟨oc,od,kV,doc,pm,an,cdv,ct,osl,rfl,l,c⟩,k⟩
end
section
variable{X:Cx}
theorem pv(i:Nat){x:Str}{pos:Pos}(hN:X.N[i]? = some x:=by rfl)(hv:Vis X.env.scope x:=by first|exact Or.inl rfl|exact Or.inr (Or.inl rfl)|exact Or.inr (Or.inr rfl))(hd:(x == ("__debug__":Str))=false:=by decide)
 (hcd:(x == ("__classdict__":Str))=false:=by decide):PE X (.Name x pos) (fM i):=aKF hN hv hd hcd
end
theorem uW{A B:Prop}(h:B):if false=true then A else B:=by
 rw[if_neg Bool.false_ne_true]
 exact h
theorem uX{A B:Prop}(h:A):if true=true then A else B:=by
 rw[if_pos rfl]
 exact h
def aM(H H':Hp):Prop:=∀ b o,H b=some o->H' b=some o
theorem aM.trans{H H1 H2:Hp}(a:aM H H1)(b:aM H1 H2):aM H H2:=fun c o h=>b c o (a c o h)
theorem aM.free{H H':Hp}(e:aM H H'){l:Addr}(h:H' l=Option.none):H l=Option.none:=by
 cases q:H l with
 | none=>rfl
 | some o=>
  rw[e l o q] at h
  cases h
theorem aM.seq{K:Frag}{H H':Hp}{a:Addr}{xs:List V}(e:aM H H')(h:SqL K H a xs):SqL K H' a xs:=by
 rcases h with (h|⟨o,h⟩)|h
 · exact .inl (.inl (e _ _ h))
 · exact .inl (.inr ⟨o, e _ _ h⟩)
 · exact .inr h
end L2
namespace L2
open PySem PySem.Spec PyProof.Rows
theorem aCA{env:Env}:∀ (names:List (Str×NameKind)) (acc:List (Str×Addr)),(∀ x∈names,x.2=.free->∃ c,env.cells.lookup x.1=some c)->
  (∀ x c,acc.lookup x=some c->env.cells.lookup x=some c)->
  ∃ cl,(forIn names acc fun x r=>(if (x.2 == NameKind.free)=true then (do let a <-cellOf env x.1;pure (ForInStep.yield ((x.1,a)::r))) else pure (ForInStep.yield r)):Sem (List (Str×Addr)))=pure cl /\
   (∀ x c,cl.lookup x=some c->env.cells.lookup x=some c)/\(∀ x∈names,x.2=.free->∃ c,cl.lookup x.1=some c)/\∀ x c,acc.lookup x=some c->∃ c',cl.lookup x=some c':=by
 intro names
 induction names with
 | nil=>intro acc _ h;exact ⟨acc,rfl,h,fun x hx=>absurd hx (by simp),fun x c e=>⟨c,e⟩⟩
 | cons x r ih=>
  intro acc hf h
  obtain ⟨n,k⟩:=x
  by_cases hk:k=.free
  ·subst hk
   obtain ⟨c,hc⟩:=hf (n,.free) List.mem_cons_self rfl
   have hc:env.cells.lookup n=some c:=hc
   obtain ⟨cl,e1,e2,e3,e4⟩:=ih ((n,c)::acc) (fun y hy=>hf y (List.mem_cons_of_mem _ hy)) (fun y d e=>by
    rw[List.lookup_cons] at e
    cases q:y == n with
    | true=>rw[q] at e;cases e;have:=eq_of_beq q;subst this;exact hc
    | false=>rw[q] at e;exact h y d e)
   refine ⟨cl,?_,e2,fun y hy hyf=>?_,fun y d e=>?_⟩
   ·rw[List.forIn_cons]
    simp only[beq_self_eq_true,if_true]
    unfold cellOf
    simp only[hc,pure_bind]
    exact e1
   ·rcases List.mem_cons.mp hy with z|z
    ·subst z
     exact e4 n c (by rw[List.lookup_cons];simp)
    ·exact e3 y z hyf
   ·by_cases q:y=n
    ·subst q;exact e4 y c (by rw[List.lookup_cons];simp)
    ·exact e4 y d (by rw[List.lookup_cons,beq_false_of_ne q];exact e)
  ·obtain ⟨cl,e1,e2,e3,e4⟩:=ih acc (fun y hy=>hf y (List.mem_cons_of_mem _ hy)) h
   refine ⟨cl,?_,e2,fun y hy hyf=>?_,e4⟩
   ·rw[List.forIn_cons]
    have:(k == NameKind.free)=false:=by simpa using hk
    simp only[this,Bool.false_eq_true,if_false,pure_bind]
    exact e1
   ·rcases List.mem_cons.mp hy with z|z
    ·subst z;exact absurd hyf hk
    ·exact e3 y z hyf
theorem tG{env:Env}{scope:Scope}(hf:∀ x∈scope.names,x.2=.free->∃ c,env.cells.lookup x.1=some c) :
  ∃ cl,closureFor scope env=pure cl/\(∀ x c,cl.lookup x=some c->env.cells.lookup x=some c)/\∀ x∈scope.names,x.2=.free->∃ c,cl.lookup x.1=some c:=by
 obtain ⟨cl,e1,e2,e3,_⟩:=aCA scope.names [] hf (fun x c e=>by simp at e)
 refine ⟨cl,?_,e2,e3⟩
 unfold closureFor
 first
  | exact e1
  | (rw[<-e1];rfl)
  | (simp only[bind_pure];exact e1)
theorem fO{env:Env}:∀ {names:List (Str×NameKind)} {x:Str} {k:NameKind},
  (names.map fun (n,k)=>if (k == NameKind.free && env.scope.kind == .function && env.kindOf n == some .cell) then (n,NameKind.cell) else (n,k)).lookup x=some k->
  k=.cell\/k=.free->(∀ y∈names,y.2≠.cell)->(x,NameKind.free)∈names
 | [],_,_,h,_,_=>by simp at h
 | (n,k0)::r,x,k,h,hk,hc=>by
  have ih:=@fO env r x k
  rw[List.map_cons] at h
  dsimp only at h
  by_cases hx:x=n
  ·subst hx
   by_cases hcond:(k0 == NameKind.free && env.scope.kind == .function && env.kindOf x == some .cell)=true
   ·have:k0=.free:=by
     simp only[Bool.and_eq_true] at hcond
     exact eq_of_beq hcond.1.1
    subst this
    exact List.mem_cons_self
   ·rw[if_neg hcond,List.lookup_cons] at h
    simp only[beq_self_eq_true] at h
    cases h
    rcases hk with rfl|rfl
    ·exact absurd rfl (hc _ List.mem_cons_self)
    ·exact List.mem_cons_self
  ·have hb:(x == n)=false:=beq_false_of_ne hx
   refine List.mem_cons_of_mem _ (ih ?_ hk fun y hy=>hc y (List.mem_cons_of_mem _ hy))
   split at h
   ·rw[List.lookup_cons,hb] at h;exact h
   ·rw[List.lookup_cons,hb] at h;exact h
noncomputable def fP(X:Cx)(N:List Str)(scope:Scope)(cl:List (Str×Addr))(C:Addr)(s:Shared)(H:Hp)(fp:List Addr):Cx where
 prog:=X.prog
 w:=X.w
 K:=X.K
 mg:=X.mg
 base:=X.base
 A:=X.A
 N:=N
 s₀:=s
 H₀:=H
 env:=compEnvC scope cl C X.env
 outer:=X.stack
 stack:=X.stack
 ex:=fp
 calm:=X.calm
 fn:=fun _=>false
 pn:=[]
 xe:=fun _ _=>False
inductive Caps(X:Cx)(scope:Scope):List Str->List (Option Nat)->Prop
 | nil:Caps X scope [] []
 | own {x:Str} {N:List Str} {js:List (Option Nat)} (t:Caps X scope N js):Caps X scope (x::N) (none::js)
 | cap {x:Str} {j:Nat} {N:List Str} {js:List (Option Nat)} (h1:X.N[j]? = some x) (h2:X.env.kindOf x=some .cell\/X.env.kindOf x=some .free)
  (h3:(relabel scope X.env).names.lookup x=some .cell\/(relabel scope X.env).names.lookup x=some .free) (t:Caps X scope N js):Caps X scope (x::N) (some j::js)
theorem Caps.len{X:Cx}{scope:Scope}{N:List Str}{js:List (Option Nat)}(c:Caps X scope N js):js.length=N.length:=by
 induction c with
 | nil=>rfl
 | own _ ih=>simp[ih]
 | cap _ _ _ _ ih=>simp[ih]
theorem Caps.get{X:Cx}{scope:Scope}{N:List Str}{js:List (Option Nat)}(c:Caps X scope N js):∀ {i j:Nat} {x:Str},js[i]? = some (some j)->N[i]? = some x->
  X.N[j]? = some x/\(X.env.kindOf x=some .cell\/X.env.kindOf x=some .free)/\((relabel scope X.env).names.lookup x=some .cell\/(relabel scope X.env).names.lookup x=some .free):=by
 induction c with
 | nil=>intro i j x h;simp at h
 | own _ ih=>
  intro i j x h1 h2
  cases i with
  | zero=>simp at h1
  | succ i=>exact ih (by simpa using h1) (by simpa using h2)
 | cap a b d _ ih=>
  intro i j x h1 h2
  cases i with
  | zero=>
   simp at h1 h2
   subst h1 h2
   exact ⟨a,b,d⟩
  | succ i=>exact ih (by simpa using h1) (by simpa using h2)
noncomputable def kB(js:List (Option Nat))(σ:St):St:=js.map fun o=>o.bind fun j=>(σ[j]?).join
def dE(σ σ':St):Prop:=σ'.length=σ.length/\∀ (i:Nat) v,σ[i]? = some (some v)->σ'[i]? = some (some v)
theorem dE.refl(σ:St):dE σ σ:=⟨rfl,fun _ _ h=>h⟩
theorem dE.set{σ:St}{i:Nat}{v:Option V}(h:σ[i]? = some none):dE σ (σ.set i v):=by
 refine ⟨List.length_set,fun j u e=>?_⟩
 by_cases q:i=j
 · subst q; rw [h] at e; cases e
 · rw [List.getElem?_set_ne q]; exact e
theorem dE.trans{a b c:St}(h:dE a b)(k:dE b c):dE a c:=⟨k.1.trans h.1,fun i v e=>k.2 i v (h.2 i v e)⟩
section
variable{X:Cx}
def PIf(X:Cx)(ifs:List Expr)(t:TT):Prop:=
 ∀ (pins:List (Addr×Obj)) (s:Shared) (σ:St) (H:Hp) (Q:Bool->Hp->Prop),Inv X pins σ H s->t σ H Q->
  wpAny (model X.prog X.w) X.A (forIn ifs true fun c r=>if r=true then do let ok <-isTrue c X.env (eval c X.env);pure (ForInStep.yield ok) else pure (ForInStep.yield r)) (TP X pins σ Q) X.xe s
def aOU:TT:=fun _ H Q=>Q true H
theorem cX:PIf X [] aOU:=by
 intro pins s σ H Q I h
 show wpAny _ _ (pure true) _ _ s
 exact wpAny_pure ⟨H,I,h⟩
end
def uY(X:Cx)(N:List Str)(scope:Scope)(js:List (Option Nat))(tg elt:Expr)(ifs:List Expr)(σ:St)(x:V)(H:Hp)(R:Option V->Hp->Prop):Prop:=
 ∀ (cl:List (Str×Addr)) (C:Addr) (s:Shared) (H0:Hp) (fp:List Addr),∃ (g:TG) (tt:TT) (te:TE),PG (fP X N scope cl C s H0 fp) tg g/\PIf (fP X N scope cl C s H0 fp) ifs tt/\PE (fP X N scope cl C s H0 fp) elt te /\
  ∀ σ0,dE (kB js σ) σ0->g x σ0 H fun σ2 H2=>dE (kB js σ) σ2/\tt σ2 H2 fun b H3=>if b=true then te σ2 H3 fun y H4=>R (some y) H4 else R none H3
def compK(X:Cx)(N:List Str)(scope:Scope)(js:List (Option Nat))(tg elt:Expr)(ifs:List Expr)(σ:St)(Q:VK)(J:It)(H1:Hp):Prop:=∃ (n:Nat) (W:Nat->List V->Hp->Prop),n<=sizeLine/\W 0 [] H1 /\
 ∀ i ys H,W i ys H->ys.length<=i/\((J.stop i H/\∀ p,H p=none->Q (.ref p) (upd H p (.lst ys)))\/(J.go i H/\i < n/\∃ R:Option V->Hp->Prop,(∀ y H2,R (some y) H2->W (i+1) (ys++[y]) H2)/\(∀ H2,R none H2->W (i+1) ys H2) /\
  ∀ x H',J.yld i H x H'->uY X N scope js tg elt ifs σ x H' R))
def tH(X:Cx)(N:List Str)(scope:Scope)(js:List (Option Nat))(tg elt:Expr)(ifs:List Expr)(wi:TI):TE:=fun σ H Q=>wi σ H (compK X N scope js tg elt ifs σ Q)
end L2
namespace L2
open PySem PySem.Spec PyProof.Rows
section
variable{prog:Program}{w:World}{A:Around}{R:Result->Shared->Prop}{s:Shared}
theorem xZ{elt target iter:Expr}{ifs:List Expr}{scope:Scope}{pos:Pos}{it acc:Value}{env:Env}(I:Nat->Shared->Prop)
  (turn:∀ n s,I n s->wpAny (model prog w) A (pyNext it) (fun r s1=>match r with
   | none=>R (.ok .next) s1
   | some v=>wpAny (model prog w) A (letOwnedTupleGo target it v) (fun _ s1'=>wpAny (model prog w) A (assign target env v) (fun _ s2=>
    wpAny (model prog w) A (forIn ifs true fun c r=>if r=true then do let ok <-isTrue c env (eval c env);pure (ForInStep.yield ok) else pure (ForInStep.yield r)) (fun ok s3=>
     if ok=true then wpAny (model prog w) A (eval elt env) (fun x s4=>
      wpAny (model prog w) A (call (.builtin "list.append") [acc,x]) (fun _ s5=>∃ m,m < n/\I m s5) (fun _ _=>False) s4) (fun _ _=>False) s3
     else ∃ m,m < n/\I m s3) (fun _ _=>False) s2) (fun _ _=>False) s1') (fun _ _=>False) s1) (fun _ _=>False) s)
  (n:Nat) (h:I n s) :
  codeAny (model prog w) A (.compLoop (.ListComp elt [⟨target,iter,ifs,0⟩] scope pos) 0 it acc env) R s:=by
 refine codeAny_loop rfl I (fun n s hI=>?_) n h
 show wpAny _ A ((compTurn (.ListComp elt [⟨target,iter,ifs,0⟩] scope pos) 0 it acc env).onRaise (fun x=>do noteFrame x env;theTreesLotGoes x)) _ _ s
 refine wpAny_noted ?_
 rw[compTurn_list]
 have nr:∀ {α:Type} {t:Sem α} {Q:α->Shared->Prop} {E':Value->Shared->Prop} {s:Shared},wpAny (model prog w) A t Q (fun _ _=>False) s->wpAny (model prog w) A t Q E' s:=fun h=>wpAny_mono h (fun _ _ q=>q) fun _ _ f=>f.elim
 refine wpAny_bind (wpAny_standAt (wpAny_bind (wpAny_mono (turn n s hI) (fun r s₁ h₁=>?_) fun _ _ h'=>h'.elim)))
 cases r with
 | none=>exact wpAny_pure h₁
 | some v=>
  refine wpAny_bind (wpAny_mono h₁ (fun _ s1' h1'=>?_) fun _ _ f=>f.elim)
  refine wpAny_bind (wpAny_mono h1' (fun _ s₂ h₂=>wpAny_bind (wpAny_mono h₂ (fun ok s₃ h₃=>?_) fun _ _ h'=>h'.elim)) fun _ _ h'=>h'.elim)
  cases ok with
  | false=>exact wpAny_pure ⟨rfl,h₃⟩
  | true=>
   exact wpAny_bind (wpAny_bind (wpAny_mono h₃ (fun x s₄ h₄=>wpAny_bind (wpAny_mono h₄ (fun _ s₅ h₅=>wpAny_pure (wpAny_pure ⟨rfl,h₅⟩)) fun _ _ h'=>h'.elim)) fun _ _ h'=>h'.elim))
end
theorem HOk.track{P:Program}{w:World}{H:Hp}{h:Heap}{a:Addr}{o:HO}(x:HOk P w H h)(hn:H a=none)(new:b8 P w (upd H a o) h a o):HOk P w (upd H a o) h:=fun b u e=>by
 by_cases hb:b=a
 ·subst hb;rw[aT] at e;cases e;exact new
 ·rw[aH hb] at e
  exact (x b u e).stay (fun c v _ q=>q) (fun c q=>by rw[aH (bS q hn)];exact q) (fun c xs q=>by rw[aH (bS q hn)];exact q) fun c xs q=>by rw[aH (bS q hn)];exact q
section
variable{X:Cx}{pins:List (Addr×Obj)}{σ:St}
structure CompEnd(X:Cx)(pins:List (Addr×Obj))(σ:St)(D C:Addr)(ys:List V)(H':Hp)(s':Shared):Prop where
 inv:Inv X pins σ (upd H' D (.lst ys)) s'
 ns:∃ m,s'.heap.Ns C m
 fp:j9 X pins (upd H' D (.lst ys)) C
 nD:H' D=none
theorem CompEnd.gone{D C:Addr}{ys:List V}{H H':Hp}{s':Shared}{h'':Heap}{σ':St}(I:Inv X pins σ' H s')(fp:j9 X pins H C)(hs:Heap.SameBut C s'.heap h''):Inv X pins σ' H {s' with heap:=h''}:=
 I.turned (it:=C) (t':=s'.toks) (fun b o hb e=>(hs.2 b hb).trans e) fp.1 fp.2.1 fp.2.2.2.1 fp.2.2.2.2.1 fp.2.2.2.2.2
theorem x3{prog:Program}{w:World}{A:Around}{E:Value->Shared->Prop}{s:Shared}{l:Addr}{items:Array Value}{nn:Nat}{x:Value}{Q:Value->Shared->Prop}(e:s.heap.get? l=some {cls:=.type "list",dict:=none,data:=.seq items nn})(hz:items.size<=sizeLine)
  (hQ:∀ nn' h',h'.get? l=some {cls:=.type "list",dict:=none,data:=.seq (items.push x) nn'}->Heap.SameBut l s.heap h'->Q .none {s with heap:=h'}) :
  wpAny (model prog w) A (call (.builtin "list.append") [.ref l,x]) Q E s:=by
 refine call_meets F.slot_list_append ⟨_,e,rfl⟩ F.entry_list_append (F.args_list_append_2 _ _) (PySem.list_append l items nn x (by omega)) ⟨e,?_⟩
 exact hQ _ _ (Heap.get?_update_self _ e rfl) (Heap.SameBut.update ..)
theorem tJ{N:List Str}{js:List (Option Nat)}{scope:Scope}{tg elt iter:Expr}{ifs:List Expr}{cl:List (Str×Addr)}{pos:Pos}{it:Addr}{fp:List Addr}{tn:Nat->Heap->Prop}{J:It}{s2:Shared}{H2:Hp}{E:Value->Shared->Prop}
  {RR:Value->Addr->Result->Shared->Prop} {Q:VK} (hc:X.calm=true) (caps:Caps X scope N js) (hkind:scope.kind=.function) (hcell:∀ y∈scope.names,y.2≠.cell)
  (hcl1:∀ x c,cl.lookup x=some c->X.env.cells.lookup x=some c) (hcl2:∀ x∈scope.names,x.2=.free->∃ c,cl.lookup x.1=some c)
  (I:Inv X pins σ H2 s2) (T:Turn X.prog X.w X.K tg J fp it tn) (st2:tn 0 s2.heap) (f2:∀ b∈fp,j9 X pins H2 b) (n:Nat) (W:Nat->List V->Hp->Prop) (hn:n<=sizeLine) (w0:W 0 [] H2)
  (turn:∀ i ys H,W i ys H->ys.length<=i/\((J.stop i H/\∀ p,H p=none->Q (.ref p) (upd H p (.lst ys)))\/(J.go i H/\i < n/\∃ R:Option V->Hp->Prop,(∀ y H2,R (some y) H2->W (i+1) (ys++[y]) H2)/\(∀ H2,R none H2->W (i+1) ys H2) /\
   ∀ x H',J.yld i H x H'->uY X N scope js tg elt ifs σ x H' R)))
  (hRR:∀ D C ys H' s',CompEnd X pins σ D C ys H' s'->Q (.ref D) (upd H' D (.lst ys))->RR (.ref D) C (.ok .next) s') :
  wpAny (model X.prog X.w) X.A (newList []) (fun acc s3=>wpAny (model X.prog X.w) X.A (newFunctionEnv scope X.env.globals cl [] X.env.qual none .none (some X.env)) (fun cenv s4=>
   codeAny (model X.prog X.w) X.A (.compStart (.ListComp elt [⟨tg,iter,ifs,0⟩] scope pos) 0 (.ref it) acc {cenv with scope:=relabel scope X.env}) (RR acc cenv.locals) s4) E s3) E s2:=by
 refine wpAny_newObj_type (wpAny_newFunctionEnv hcell (by intro y hy;simp at hy) (fun h₁ hns₁ hsb₁=>?_) hkind)
 dsimp only at hns₁ hsb₁ ⊢
 generalize hHh:s2.heap.push {cls:=.type "list",dict:=none,data:=.seq ([]:List Value).toArray}=Hh at hns₁ hsb₁ ⊢
 have hC:Hh.objs.size=s2.heap.objs.size+1:=by rw[<-hHh,Heap.size_push]
 have hDC:s2.heap.objs.size≠Hh.objs.size:=by rw[hC];exact Nat.ne_of_lt (Nat.lt_succ_self _)
 have hCle:s2.heap.objs.size<=Hh.objs.size:=by rw[hC];exact Nat.le_succ _
 have old:∀ b o,s2.heap.get? b=some o->h₁.get? b=some o:=fun b o e=>hsb₁.extBut b o (by rw[hC];exact Nat.ne_of_lt (Nat.lt_succ_of_lt (Heap.lt_size e))) (Heap.get?_push_of_some _ (hHh▸Heap.get?_push_of_some _ e))
 have haccO:h₁.get? s2.heap.objs.size=some {cls:=.type "list",dict:=none,data:=.seq ([]:List Value).toArray}:=hsb₁.extBut _ _ hDC (Heap.get?_push_of_some _ (hHh▸Heap.get?_push_size _ rfl))
 have st1:tn 0 h₁:=T.keep _ _ _ st2 fun b hb o e=>old b o e
 have fplt:∀ b∈fp,b < s2.heap.objs.size:=fun b hb=>by
  obtain ⟨o,e,_⟩:=T.obj _ _ st2 b hb
  exact Heap.lt_size e
 have fsIn:∀ b∈frs X.stack,b < s2.heap.objs.size:=fun b hb=>by
  rcases List.mem_cons.mp (I.stkSub b hb) with z|z
  ·rw[z];exact I.lt
  ·refine Nat.lt_of_not_le fun hle=>I.nofs hle z
 have fpC:∀ b∈fp,b≠Hh.objs.size:=fun b hb z=>Nat.lt_irrefl _ (Nat.lt_of_lt_of_le (fplt b hb) (z▸hCle))
 generalize hD:s2.heap.objs.size=D at *
 generalize hCc:Hh.objs.size=C at *
 let X':=fP X N scope cl C s2 H2 fp
 have ok':X'.Ok:=by
  refine ⟨I.ok.mod,hkind,I.ok.glob,I.ok.blt,by show s2.heap.objs.size<=C;rw[hD];exact hCle,fun x y c e1 e2=>I.ok.inj x y c (hcl1 x c e1) (hcl1 y c e2),fun x hx=>?_,fun x c z=>absurd (show false=true from z) Bool.false_ne_true,I.ok.hd,I.ok.frames,.inl rfl,fun b hb=>?_,
   I.bs,Nat.le_trans I.ok.bsz I.sz,fun b o e hb=>?_,fun b hb z=>?_,I.stack,I.stkFree⟩
  ·have hm:(x,NameKind.free)∈scope.names:=by
    rcases hx with z|z
    ·exact fO (env:=X.env) z (.inl rfl) hcell
    ·exact fO (env:=X.env) z (.inr rfl) hcell
   exact hcl2 _ hm rfl
  ·exact ⟨fpC b hb,fun x c e=>(f2 b hb).2.2.2.2.1 x c (hcl1 x c e)⟩
  ·rcases (f2 b hb).2.2.2.1 with z|z
   ·exact I.ok.noex b o e z
   ·exact absurd (Heap.lt_size (I.ok.bs b o e).1) (Nat.not_lt.mpr z)
  ·rcases List.mem_cons.mp (I.stkSub b z) with q|q
   ·exact (f2 b hb).2.1 q
   ·exact (f2 b hb).2.2.1 q
 have hσl:(kB js σ).length=N.length:=by unfold kB;rw[List.length_map,caps.len]
 have freeC:H2 C=none:=I.hok.fresh (by rw[hD];exact hCle)
 have freeD:H2 D=none:=I.hok.fresh (by rw[hD];exact Nat.le_refl _)
 have DnotFs:D∉frs X.stack:=fun z=>Nat.lt_irrefl _ (fsIn D z)
 have DnotFp:D∉fp:=fun z=>Nat.lt_irrefl _ (fplt D z)
 have I0:∀ tk,Inv X' [] (kB js σ) H2 {s2 with heap:=h₁,toks:=tk}:=fun tk=>by
  refine ⟨ok',rfl,I.bare,Un.kept old,⟨_,hns₁,fun i x v e1 e2 e3=>?_⟩,fun x c e=>?_,freeC,fun x c e=>I.freeC x c (hcl1 x c e),fun p hp=>absurd hp (by show ¬ p∈([]++[]:List (Addr×Obj));simp),I.hok.kept old,hσl⟩
  ·unfold kB at e2
   rw[List.getElem?_map] at e2
   cases q:js[i]? with
   | none=>rw[q] at e2;cases e2
   | some o=>
    rw[q] at e2
    cases o with
    | none=>cases e2
    | some j=>
     have e2':(σ[j]?).join=some v:=Option.some.inj e2
     obtain ⟨c1,c2,c3⟩:=caps.get q e1
     have e4:σ[j]? = some (some v):=by
      cases z:σ[j]? with
      | none=>rw[z] at e2';cases e2'
      | some u=>rw[z] at e2';have:u=some v:=e2';rw[this]
     obtain ⟨m,hm,hl⟩:=I.loc
     have vis:Vis X.env.scope x:=by
      rcases c2 with z|z
      · exact .inr (.inl z)
      · exact .inr (.inr z)
     obtain ⟨u,r,l⟩:=hl j x v c1 e4 vis
     refine ⟨u,r,.inr ⟨c3,?_⟩⟩
     have lc:∃ c,X.env.cells.lookup x=some c/\s2.heap.IsCell c (some u):=by
      rcases l with ⟨k,_⟩|⟨_,z⟩
      · rcases c2 with z | z <;> (rw [k] at z; cases z)
      · exact z
     obtain ⟨c,e5,o,ho,hd⟩:=lc
     have hm2:(x,NameKind.free)∈scope.names:=by
      rcases c3 with z|z
      · exact fO (env := X.env) z (.inl rfl) hcell
      · exact fO (env := X.env) z (.inr rfl) hcell
     obtain ⟨c',e6⟩:=hcl2 _ hm2 rfl
     have e7:=hcl1 _ _ e6
     rw[e5] at e7;cases e7
     exact ⟨c,e6,o,old c o ho,hd⟩
  ·obtain ⟨v,o,ho,hd⟩:=I.cell x c (hcl1 x c e)
   exact ⟨v,o,old c o ho,hd⟩
 have fpok:∀ {H':Hp} {pl:List (Addr×Obj)},(∀ b∈fp,H' b=none)->(∀ b∈fp,∀ p∈pl,p.1≠b)->∀ b∈fp,j9 X' pl H' b:=fun {H' pl} hn hpl b hb=>by
  refine ⟨hn b hb,fpC b hb,ok'.exfs b hb,.inl hb,fun x c e=>(f2 b hb).2.2.2.2.1 x c (hcl1 x c e),fun p hp=>hpl b hb p ?_⟩
  have hp':p∈[]++pl:=hp
  simpa using hp'
 let LI:Nat->Shared->Prop:=fun k s'=>∃ i ys its nn σ' H',k=n+1 - i/\i<=n/\W i ys H'/\tn i s'.heap/\(∀ b∈fp,H' b=none)/\bB ys its/\dE (kB js σ) σ' /\
  Inv X' [(D,{cls:=.type "list",dict:=none,data:=.seq its.toArray nn})] σ' H' s'
 have loop:∀ tk,codeAny (model X.prog X.w) X.A (.compLoop (.ListComp elt [⟨tg,iter,ifs,0⟩] scope pos) 0 (.ref it) (.ref D) (compEnvC scope cl C X.env)) (RR (.ref D) C) {s2 with heap:=h₁,toks:=tk}:=by
  intro tk
  refine xZ LI ?_ (n+1) ⟨0,[],[],0,kB js σ,H2,rfl,Nat.zero_le _,w0,st1,fun b hb=>(f2 b hb).1,.nil,dE.refl _,?_⟩
  ·rintro k s3 ⟨i,ys,its,nn,σ3,H3,rfl,hin,w3,st3,fr3,r3,ks,I3⟩
   obtain ⟨hyl,tr⟩:=turn i ys H3 w3
   have fpk:=fpok (pl:=[(D,{cls:=.type "list",dict:=none,data:=.seq its.toArray nn})]) fr3 (fun b hb p hp z=>by
    rw[List.mem_singleton.mp hp] at z
    exact DnotFp ((show D=b from z)▸hb))
   rcases tr with ⟨stop,q⟩|⟨go,hlt,RW,hR1,hR2,step⟩
   ·refine thn (T.done X' rfl rfl rfl hc i _ s3 σ3 H3 _ I3 fpk st3 stop) fun r s4 zz0=>?_
    obtain ⟨hr,I4⟩:=zz0
    subst hr
    show RR (.ref D) C (.ok .next) s4
    obtain ⟨pe,pn,p1,p2,p3⟩:=I4.pin (D,{cls:=.type "list",dict:=none,data:=.seq its.toArray nn}) (by show _∈[]++_;simp)
    refine hRR D C ys H3 s4 ?_ (q D pn)
    have hok4:HOk X.prog X.w (upd H3 D (.lst ys)) s4.heap:=HOk.track I4.hok pn ⟨Nat.le_trans hyl (Nat.le_trans hin hn),its,nn,r3,pe⟩
    have ltD:∀ b u,H2 b=some u->b≠D:=fun b u e z=>by rw[z,freeD] at e;cases e
    have un4:Un (frs X.stack) fp H2 (upd H3 D (.lst ys)) s2.heap s4.heap:=by
     have ub:=I4.base
     refine ⟨ub.keep,ub.slot,fun b o e nn' hx=>?_,ub.there,fun b xs e=>?_,fun b o u e=>?_,fun b ps e=>?_⟩
     ·rw[aH (fun z=>by have:=Heap.lt_size e;rw[hD,z] at this;exact Nat.lt_irrefl _ this)]
      exact ub.free b o e nn' hx
     ·rw[aH (ltD b _ e)];exact ub.tups b xs e
     ·rw[aH (ltD b _ e)];exact ub.frzs b o u e
     ·rw[aH (ltD b _ e)];exact ub.tbls b ps e
    refine ⟨I.call' I4.os un4 hok4 I4.bare fun b hb=>⟨(f2 b hb).2.2.2.1,(f2 b hb).2.1,(f2 b hb).2.2.2.2.1,(f2 b hb).2.2.2.2.2⟩,?_,?_,pn⟩
    ·obtain ⟨m,hm,_⟩:=I4.loc
     exact ⟨m,hm⟩
    ·refine I.fpOk (by rw[hD];exact hCle) ?_
     rw[aH (Ne.symm hDC)]
     exact I4.free
   ·refine thn (T.item X' rfl rfl rfl hc i _ s3 σ3 H3 _ I3 fpk st3 go) fun r s4 zz0=>?_
    obtain ⟨u,hr,h4⟩:=zz0
    subst hr
    show wpAny _ _ (letOwnedTupleGo tg (.ref it) u) _ _ s4
    refine thn h4 fun _ s5 zz0=>?_
    obtain ⟨x,H5,I5,r5,y5,st5,fr5⟩:=zz0
    obtain ⟨g,tt,te,hg,ht,he,hq⟩:=step x H5 y5 cl C s2 H2 fp
    have fpk5:=fpok (pl:=[(D,{cls:=.type "list",dict:=none,data:=.seq its.toArray nn})]) fr5 (fun b hb p hp z=>by
     rw[List.mem_singleton.mp hp] at z
     exact DnotFp ((show D=b from z)▸hb))
    have I5':=I5.pinned fpk5 (T.obj _ _ st5)
    refine thn (hg _ s5 σ3 H5 x u _ I5' r5 (hq σ3 ks)) fun _ s6 zz0=>?_
    obtain ⟨σ6,H6,I6,ks6,q6⟩:=zz0
    refine thn (ht _ s6 σ6 H6 _ I6 q6) fun b s7 zz0=>?_
    obtain ⟨H7,I7,q7⟩:=zz0
    have stK:∀ {s':Shared} {H':Hp} {σ':St},Inv X' ([(D,{cls:=.type "list",dict:=none,data:=.seq its.toArray nn})]++pP fp s5.heap) σ' H' s'->tn (i+1) s'.heap/\(∀ b∈fp,H' b=none):=fun {s' H' σ'} I'=>by
     refine ⟨T.keep _ _ _ st5 fun b hb o e=>(I'.pin (b,o) (List.mem_append_right _ (List.mem_append_right _ (lJ hb e)))).1,fun b hb=>?_⟩
     obtain ⟨o,e,d⟩:=T.obj _ _ st5 b hb
     exact (I'.pin (b,o) (List.mem_append_right _ (List.mem_append_right _ (lJ hb e)))).2.1
    cases b with
    | false=>
     rw[if_neg Bool.false_ne_true] at q7 ⊢
     obtain ⟨a1,a2⟩:=stK I7
     exact ⟨n+1 - (i+1),by omega,i+1,ys,its,nn,σ6,H7,rfl,hlt,hR2 _ q7,a1,a2,r3,ks6,I7.unpinned⟩
    | true=>
     rw[if_pos rfl] at q7 ⊢
     refine thn (he _ s7 σ6 H7 _ I7 q7) fun yv s8 zz0=>?_
     obtain ⟨y,H8,I8,r8,q8⟩:=zz0
     obtain ⟨a1,a2⟩:=stK I8
     have I8u:=I8.unpinned
     obtain ⟨pe,pn,p1,p2,p3⟩:=I8u.pin (D,{cls:=.type "list",dict:=none,data:=.seq its.toArray nn}) (by show _∈[]++_;simp)
     have hl8:s8.heap.IsList D its.toArray:=PySem.IsL.isList pe
     have isz:its.length<=sizeLine:=by rw[<-r3.length];exact Nat.le_trans hyl (Nat.le_trans hin hn)
     refine x3 pe (by simpa using isz) fun nn' h9 e9 hs9=>?_
     have I9:Inv X' [] σ6 H8 {s8 with heap:=h9,toks:=s8.toks}:=by
      refine Inv.turned (pins:=[]) (it:=D) (t':=s8.toks) (I8u.pins_of (pins':=[]) fun p hp=>absurd hp (by simp)) (fun b o hb e=>(hs9.2 b hb).trans e) pn hDC (.inr (by show s2.heap.objs.size<=D;rw[hD];exact Nat.le_refl _)) (fun x c e z=>?_) fun p hp=>absurd hp (by show ¬ p∈([]++[]:List (Addr×Obj));simp)
      obtain ⟨v,o,ho,hd⟩:=I.cell x c (hcl1 x c e)
      have:=Heap.lt_size ho
      rw[hD,z] at this
      exact Nat.lt_irrefl _ this
     refine ⟨n+1 - (i+1),by omega,i+1,ys++[y],its++[yv],nn',σ6,H8,rfl,hlt,hR1 _ _ q8,?_,a2,bB.append r3 (.cons r8 .nil),ks6,?_⟩
     ·exact T.keep _ _ _ a1 fun b hb o e=>(hs9.2 b (fun z=>DnotFp (z▸hb))).trans e
     ·refine I9.pins_of fun p hp=>?_
      obtain rfl:=List.mem_singleton.mp hp
      exact ⟨by simpa using e9,pn,p1,p2,by simp⟩
  ·refine (I0 tk).pins_of fun p hp=>?_
   obtain rfl:=List.mem_singleton.mp hp
   exact ⟨haccO,freeD,hDC,DnotFs,by simp⟩
 exact codeAny_compStart_list (loop _) (T.self X.A 0 _ _ _ st1 (loop _))
noncomputable def d7(names:List (Str×NameKind))(outer:Str->Option NameKind):Bool:=
 names.all (fun y=>y.2 != .cell) && names.all (fun y=>y.2 != .local || names.lookup y.1 == some .local) && names.all (fun y=>y.2 != .free || outer y.1 == some .cell || outer y.1 == some .free)
theorem d7.cell{names:List (Str×NameKind)}{outer:Str->Option NameKind}(h:d7 names outer=true):∀ y∈names,y.2≠.cell:=fun y hy=>by
 unfold d7 at h
 simp only[Bool.and_eq_true,List.all_eq_true] at h
 simpa using h.1.1 y hy
theorem d7.names{names:List (Str×NameKind)}{outer:Str->Option NameKind}(h:d7 names outer=true):∀ y∈names,y.2=.local->names.lookup y.1=some .local:=fun y hy e=>by
 unfold d7 at h
 simp only[Bool.and_eq_true,List.all_eq_true] at h
 have:=h.1.2 y hy
 rw[e] at this
 simpa using this
theorem d7.free{names:List (Str×NameKind)}{outer:Str->Option NameKind}(h:d7 names outer=true):∀ y∈names,y.2=.free->outer y.1=some .cell\/outer y.1=some .free:=fun y hy e=>by
 unfold d7 at h
 simp only[Bool.and_eq_true,List.all_eq_true] at h
 have:=h.2 y hy
 rw[e] at this
 simpa using this
theorem gI{N:List Str}{js:List (Option Nat)}{scope:Scope}{tg elt iter:Expr}{ifs:List Expr}{pos:Pos}{wi:TI}(hc:X.calm=true)(caps:Caps X scope N js)(hok:d7 scope.names X.env.kindOf=true)
  (hi:PI X tg iter wi) (hkind:scope.kind=.function:=by rfl) (hs:∀ x,foldedSetIterable iter X.env x=pure x:=by intro _;rfl) :
  PE X (.ListComp elt [⟨tg,iter,ifs,0⟩] scope pos) (tH X N scope js tg elt ifs wi):=by
 intro pins s σ H Q I h
 obtain ⟨cl,e1,e2,e3⟩:=tG (env:=X.env) (scope:=scope) fun x hx hf=>I.ok.has _ (d7.free hok x hx hf)
 rw[eval_ListComp]
 refine wpAny_comprehension_free (use:=none) rfl hs e1 hkind (d7.names hok) (thn (hi pins s σ H _ I h) fun v s1 h1=>thn h1 fun itv s2 h2=>?_)
 obtain ⟨it,fp,tn,J,H2,rfl,I2,T,st2,f2,n,W,hn,w0,turn⟩:=h2
 refine tJ (RR:=fun acc C=>compPost (model X.prog X.w) X.A X.xe none (EP X pins σ Q) acc C) (Q:=Q) hc caps hkind (d7.cell hok) e2 e3 I2 T st2 f2 n W hn w0 turn ?_
 intro D C ys H' s' ce q
 obtain ⟨m,hm⟩:=ce.ns
 exact ⟨m,hm,fun h' hs'=>⟨.ref D,_,CompEnd.gone (D:=D) (ys:=ys) (H':=H') ce.inv ce.fp hs',rfl,q⟩⟩
theorem eY{i:Nat}{x:Str}{N:List Str}{js:List (Option Nat)}{scope:Scope}{tg elt iter:Expr}{ifs:List Expr}{pos pos' spos:Pos}{wi:TI}(hN:X.N.Nodup)(hi':X.N[i]? = some x)(hx:Loc X.env.scope x)
  (hsw:swapsWith (.ListComp elt [⟨tg,iter,ifs,0⟩] scope pos) (some (.Name x pos')) spos.line X.env=pure true) (hc:X.calm=true) (caps:Caps X scope N js) (hok:d7 scope.names X.env.kindOf=true)
  (hi:PI X tg iter wi) (hkind:scope.kind=.function:=by rfl) (hf:X.fn x=true\/X.env.scope.names.lookup x=some .local:=by exact .inl rfl) (hs:∀ x,foldedSetIterable iter X.env x=pure x:=by intro _;rfl) :
  PS X (.Assign [.Name x pos'] (.ListComp elt [⟨tg,iter,ifs,0⟩] scope pos) spos) (l7 (tH X N scope js tg elt ifs wi) (jO i)):=by
 intro pins s σ H D I h
 obtain ⟨cl,e1,e2,e3⟩:=tG (env:=X.env) (scope:=scope) fun x hx hf=>I.ok.has _ (d7.free hok x hx hf)
 rw[exec_Assign_Name_used _ _ _ _ hsw]
 refine wpAny_bind (wpAny_standAt (wpAny_bind ?_))
 show wpAny _ X.A (do let _ <-comprehension (.ListComp elt [⟨tg,iter,ifs,0⟩] scope pos) scope X.env _ (newList []) false (eval iter X.env) (some (assign (.Name x pos') X.env))) _ _ s
 refine wpAny_bind (wpAny_mono (wpAny_comprehension_free (use:=some (assign (.Name x pos') X.env)) (Q:=fun _ s'=>SP X pins D .next s') rfl hs e1 hkind (d7.names hok)
  (thn (hi pins s σ H _ I h) fun v s1 h1=>thn h1 fun itv s2 h2=>?_)) (fun _ s' hq=>wpAny_pure (wpAny_pure hq)) fun _ _ e=>e)
 obtain ⟨it,fp,tn,J,H2,rfl,I2,T,st2,f2,n,W,hn,w0,turn⟩:=h2
 refine tJ (RR:=fun acc C=>compPost (model X.prog X.w) X.A X.xe (some (assign (.Name x pos') X.env)) (fun _ s'=>SP X pins D .next s') acc C) (Q:=fun v H'=>D.nx (σ.set i (some v)) H') hc caps hkind (d7.cell hok) e2 e3 I2 T st2 f2 n W hn w0 turn ?_
 intro L C ys H' s' ce q
 show wpAny _ X.A (assign (.Name x pos') X.env (.ref L)) _ _ s'
 refine wpAny_assign_Name (vX (v:=.ref L) ce.inv hN hi' hx rfl (fun s'' I'' sb=>?_) hf)
 obtain ⟨a,hsa,ha⟩:=sb
 have hCa:C≠a:=by
  rcases ha with z|z
  · rw [z]; exact ce.fp.2.1
  · exact fun z' => ce.fp.2.2.2.2.1 x a z z'.symm
 obtain ⟨m,hm⟩:=ce.ns
 exact ⟨m,hm.sameBut hsa hCa,fun h' hs'=>⟨_,_,CompEnd.gone (D:=L) (ys:=ys) (H':=H') I'' ce.fp hs',q⟩⟩
end
noncomputable def aHO(W:Nat->List V->Hp->Prop)(i:Nat)(ys:List V):Option V->Hp->Prop
 | some y,H=>W (i+1) (ys++[y]) H
 | none,H=>W (i+1) ys H
theorem aIP{X:Cx}{J:It}{N:List Str}{scope:Scope}{js:List (Option Nat)}{tg elt:Expr}{ifs:List Expr}{σ:St}{Q:VK}{n:Nat}{H1:Hp}(W:Nat->List V->Hp->Prop)(hz:n<=sizeLine)(w0:W 0 [] H1)
  (hl:∀ i ys H,i<=n->W i ys H->ys.length<=i) (hgo:∀ i ys H,i < n->W i ys H->J.go i H) (hst:∀ ys H,W n ys H->J.stop n H)
  (step:∀ i x ys H H',i < n->W i ys H->J.yld i H x H'->uY X N scope js tg elt ifs σ x H' (aHO W i ys))
  (done:∀ ys H,W n ys H->∀ p,H p=none->Q (.ref p) (upd H p (.lst ys))) :
  compK X N scope js tg elt ifs σ Q J H1:=by
 refine ⟨n,fun i ys H=>i<=n/\W i ys H,hz,⟨Nat.zero_le _,w0⟩,?_⟩
 rintro i ys H ⟨hi,w⟩
 refine ⟨hl i ys H hi w,?_⟩
 by_cases hlt:i < n
 ·exact .inr ⟨hgo i ys H hlt w,hlt,aHO W i ys,fun y H2 q=>⟨hlt,q⟩,fun H2 q=>⟨hlt,q⟩,fun x H' y=>step i x ys H H' hlt w y⟩
 ·have e:i=n:=by omega
  subst e
  exact .inl ⟨hst ys H w,done ys H w⟩
end L2
namespace L2
open PySem PySem.Spec PyProof.Rows
mutual
inductive DatV(K:Frag)(H:Hp):V->PyData->Prop
 | non:DatV K H .non .none
 | bl (b:Bool):DatV K H (.bl b) (.bool b)
 | int (i:Int):DatV K H (.int i) (.int i)
 | str (x:Str):DatV K H (.str x) (.str x)
 | lst {a:Addr} {xs:List V} {ds:List PyData}:SqL K H a xs->DatVs K H xs ds->DatV K H (.ref a) (.list ds)
 | tup {a:Addr} {xs:List V} {ds:List PyData}:SqT K H a xs->DatVs K H xs ds->DatV K H (.ref a) (.tuple ds)
inductive DatVs(K:Frag)(H:Hp):List V->List PyData->Prop
 | nil:DatVs K H [] []
 | cons {x:V} {d:PyData} {xs:List V} {ds:List PyData}:DatV K H x d->DatVs K H xs ds->DatVs K H (x::xs) (d::ds)
end
section
variable{X:Cx}{pins:List (Addr×Obj)}{σ:St}{H:Hp}{s:Shared}
theorem DatV.reads(I:Inv X pins σ H s){x:V}{d:PyData}{u:Value}(h:DatV X.K H x d)(r:bF x u):∃ as,Reads s.heap u d as:=by
 refine DatV.rec (motive_1:=fun x d _=>∀ u,bF x u->∃ as,Reads s.heap u d as) (motive_2:=fun xs ds _=>∀ us,bB xs us->∃ as,ReadsAll s.heap us ds as) ?_ ?_ ?_ ?_ ?_ ?_ ?_ ?_ h u r
 ·intro u r;cases r;exact ⟨_,.none⟩
 ·intro b u r;cases r;exact ⟨_,.bool b⟩
 ·intro i u r;obtain ⟨t,rfl⟩:=r;exact ⟨_,.int i t⟩
 ·intro x u r;obtain ⟨t,rfl⟩:=r;exact ⟨_,.str x t⟩
 ·intro a xs ds h _ ih u r
  cases r
  obtain ⟨its,rv,p,hz⟩:=I.list h
  obtain ⟨o,e,c,n,d⟩:=p.isList
  obtain ⟨as,q⟩:=ih _ rv
  exact ⟨_,.list e c d (by simpa using q)⟩
 ·intro a xs ds h _ ih u r
  cases r
  obtain ⟨its,rv,p,hz⟩:=I.tuple h
  obtain ⟨o,e,c,n,d⟩:=p
  obtain ⟨as,q⟩:=ih _ rv
  exact ⟨_,.tuple e c d (by simpa using q)⟩
 ·intro us r;cases r;exact ⟨_,.nil⟩
 ·intro x d xs ds _ _ i1 i2 us r
  cases r with
  | cons r1 r2=>
   obtain ⟨as,q⟩:=i1 _ r1
   obtain ⟨bs,q2⟩:=i2 _ r2
   exact ⟨_,.cons q q2⟩
theorem aLA(hu:X.A.units+64 < cLine):OpR X (compareOp .Eq) (fun x y H Q=>∃ d e,DatV X.K H x d/\DatV X.K H y e/\SeqAt.shaped d=true/\SeqAt.shaped e=true/\Q (.bl (PyData.eqv d e)) H):=by
 intro pins s σ H x y u v Q I rx ry h
 obtain ⟨d,e,hx,hy,sd,se,q⟩:=h
 obtain ⟨as,r1⟩:=hx.reads I rx
 obtain ⟨bs,r2⟩:=hy.reads I ry
 exact eq_dataH r1 r2 sd se hu ⟨.bl _,H,I,rfl,q⟩
theorem aLB(hu:X.A.units+64 < cLine):OpR X (compareOp .NotEq) (fun x y H Q=>∃ d e,DatV X.K H x d/\DatV X.K H y e/\SeqAt.shaped d=true/\SeqAt.shaped e=true/\Q (.bl (!PyData.eqv d e)) H):=by
 intro pins s σ H x y u v Q I rx ry h
 obtain ⟨d,e,hx,hy,sd,se,q⟩:=h
 obtain ⟨as,r1⟩:=hx.reads I rx
 obtain ⟨bs,r2⟩:=hy.reads I ry
 exact ne_dataH r1 r2 sd se hu ⟨.bl _,H,I,rfl,q⟩
end
theorem SqL.same{K:Frag}{H H':Hp}{a:Addr}{xs:List V}(e:aM H H')(h:SqL K H a xs):SqL K H' a xs:=aM.seq e h
theorem SqT.same{K:Frag}{H H':Hp}{a:Addr}{xs:List V}(e:aM H H')(h:SqT K H a xs):SqT K H' a xs:=by
 rcases h with (h|⟨o,h⟩)|h
 · exact .inl (.inl (e _ _ h))
 · exact .inl (.inr ⟨o, e _ _ h⟩)
 · exact .inr h
theorem DatV.same{K:Frag}{H H':Hp}(e:aM H H'){x:V}{d:PyData}(h:DatV K H x d):DatV K H' x d:=
 DatV.rec (motive_1:=fun x d _=>DatV K H' x d) (motive_2:=fun xs ds _=>DatVs K H' xs ds) .non .bl .int .str (fun h _ q=>.lst (h.same e) q) (fun h _ q=>.tup (h.same e) q) .nil (fun _ _ p q=>.cons p q) h
theorem DatVs.same{K:Frag}{H H':Hp}(e:aM H H'){xs:List V}{ds:List PyData}(h:DatVs K H xs ds):DatVs K H' xs ds:=
 DatVs.rec (motive_1:=fun x d _=>DatV K H' x d) (motive_2:=fun xs ds _=>DatVs K H' xs ds) .non .bl .int .str (fun h _ q=>.lst (h.same e) q) (fun h _ q=>.tup (h.same e) q) .nil (fun _ _ p q=>.cons p q) h
theorem aM.upd{H:Hp}{a:Addr}{o:HO}(h:H a=none):aM H (upd H a o):=fun b u e=>by rw[aH (bS e h)];exact e
theorem DatVs.length{K:Frag}{H:Hp}:∀ {xs:List V} {ds:List PyData},DatVs K H xs ds->xs.length=ds.length
 | _,_,.nil=>rfl
 | _,_,.cons _ t=>by simp[DatVs.length t]
theorem DatVs.append{K:Frag}{H:Hp}:∀ {xs ys:List V} {ds es:List PyData},DatVs K H xs ds->DatVs K H ys es->DatVs K H (xs++ys) (ds++es)
 | _,_,_,_,.nil,h=>h
 | _,_,_,_,.cons a t,h=>.cons a (DatVs.append t h)
theorem DatVs.get{K:Frag}{H:Hp}:∀ {xs:List V} {ds:List PyData} {i:Nat} {x:V},DatVs K H xs ds->xs[i]? = some x->∃ d,ds[i]? = some d/\DatV K H x d
 | _,_,_,_,.nil,e=>by simp at e
 | _,_,0,_,.cons a t,e=>by simp at e;subst e;exact ⟨_,by simp,a⟩
 | _,_,i+1,x,.cons a t,e=>by
  obtain ⟨d,h1,h2⟩:=DatVs.get (i:=i) (x:=x) t (by simpa using e)
  exact ⟨d,by simpa using h1,h2⟩
theorem DatVs.get'{K:Frag}{H:Hp}:∀ {xs:List V} {ds:List PyData} {i:Nat} {d:PyData},DatVs K H xs ds->ds[i]? = some d->∃ x,xs[i]? = some x/\DatV K H x d
 | _,_,_,_,.nil,e=>by simp at e
 | _,_,0,_,.cons a t,e=>by simp at e;subst e;exact ⟨_,by simp,a⟩
 | _,_,i+1,x,.cons a t,e=>by
  obtain ⟨d,h1,h2⟩:=DatVs.get' (i:=i) (d:=x) t (by simpa using e)
  exact ⟨d,by simpa using h1,h2⟩
theorem DatVs.drop{K:Frag}{H:Hp}:∀ {xs:List V} {ds:List PyData} (n:Nat),DatVs K H xs ds->DatVs K H (xs.drop n) (ds.drop n)
 | _,_,0,h=>h
 | _,_,_+1,.nil=>.nil
 | _,_,n+1,.cons _ t=>DatVs.drop n t
theorem DatVs.take{K:Frag}{H:Hp}:∀ {xs:List V} {ds:List PyData} (n:Nat),DatVs K H xs ds->DatVs K H (xs.take n) (ds.take n)
 | _,_,0,_=>.nil
 | _,_,_+1,.nil=>.nil
 | _,_,n+1,.cons a t=>.cons a (DatVs.take n t)
def Ite(K:Frag)(a:Addr):It:=
 ⟨fun i H=>∃ xs x,SqL K H a xs/\xs[i]? = some x,fun i H x H'=>∃ p v,H p=none/\x=.ref p/\H'=upd H p (.tup [.int i,v])/\∀ xs,SqL K H a xs->xs[i]? = some v,fun i H=>∃ xs,SqL K H a xs/\xs.length<=i⟩
theorem aDS{P:Program}{w:World}{K:Frag}{es:List Expr}{k1}{tpos:Pos}(a e it:Addr)(hei:e≠it):Turn P w K (.Tuple es k1 tpos) (Ite K a) [e,it] e (fun i h=>(∃ old,IsEnum h e it i old)/\h.IsListIter it a i) where
 mem:=by simp
 obj:=fun i h st b hb=>by
  obtain ⟨⟨old,s1⟩,o,e2,c,d⟩:=st
  rcases List.mem_cons.mp hb with z|z
  ·subst z
   exact ⟨_,s1,fun v z=>by
    have z':Data.fields _=Data.cell v:=z
    cases z'⟩
  ·obtain rfl:b=it:=by simpa using z
   exact ⟨o,e2,fun v z=>by rw[d] at z;cases z⟩
 keep:=fun i h h' st k=>by
  obtain ⟨⟨old,s1⟩,s2⟩:=st
  exact ⟨⟨old,k e (by simp) _ s1⟩,s2.at fun o q=>k it (by simp) o q⟩
 item:=by
  intro X hP hw hK hc i pins s σ H E I hf st hg
  subst hP hw hK
  obtain ⟨⟨old,s1⟩,s2⟩:=st
  obtain ⟨xs,x,hq,hx⟩:=hg
  obtain ⟨its,rv,p,hz⟩:=I.list hq
  obtain ⟨u,hu,ru⟩:=rv.get hx
  obtain ⟨f0,f1,f2,f3,f4,f5⟩:=hf e (by simp)
  obtain ⟨g0,g1,g2,g3,g4,g5⟩:=hf it (by simp)
  refine wpAny_pyNext_enum_item s1 s2 p.isList (x:=u) (by simpa using hu) hei fun h' so si st hz' kp=>?_
  refine ⟨_,rfl,wpAny_letOwnedTupleGo_enum so fun h2 se sb=>?_⟩
  have ne1:s.heap.objs.size≠e:=Nat.ne_of_gt (Heap.lt_size s1)
  have hT2:h2.get? s.heap.objs.size=some {cls:=.type "tuple",data:=.seq #[.int i s.toks,u]}:=(sb.2 _ ne1).trans st
  have fT:H s.heap.objs.size=none:=I.hok.fresh (Nat.le_refl _)
  have kp2:∀ b o,b≠e->b≠it->s.heap.get? b=some o->h2.get? b=some o:=fun b o h1 h2' q=>(sb.2 b h1).trans (kp b o h1 h2' q)
  have hok2:HOk X.prog X.w H h2:=fun b uu q=>by
   refine (I.hok b uu q).stay (fun c v hc q'=>kp2 c v ?_ ?_ q') (fun _ q=>q) (fun _ _ q=>q) fun _ _ q=>q
   ·rcases hc with z|z
    ·rw[z];exact fun zz=>by rw[zz,f0] at q;cases q
    ·exact fun zz=>by rw[zz,f0] at z;cases z
   ·rcases hc with z|z
    ·rw[z];exact fun zz=>by rw[zz,g0] at q;cases q
    ·exact fun zz=>by rw[zz,g0] at z;cases z
  have hokT:HOk X.prog X.w (upd H s.heap.objs.size (.tup [.int i,x])) h2:=HOk.track hok2 fT ⟨by show 2<=sizeLine;decide,[.int i s.toks,u],.cons ⟨_,rfl⟩ (.cons ru .nil),⟨_,hT2,⟨rfl,rfl⟩,_,rfl⟩⟩
  have ltT:∀ b uu,H b=some uu->b≠s.heap.objs.size:=fun b uu q=>bS q fT
  have I2:Inv X pins σ (upd H s.heap.objs.size (.tup [.int i,x])) {s with heap:=h2,gens:=s.gens,drawn:=s.drawn,toks:=s.toks+1}:=by
   refine I.step (ch:=[e,it]) (fun b hb=>?_) (fun b o _ _ hc q _=>kp2 b o (fun z=>hc (by simp[z])) (fun z=>hc (by simp[z])) q) (fun b o _ _ hc q _=>⟨o.slots,kp2 b o (fun z=>hc (by simp[z])) (fun z=>hc (by simp[z])) q⟩)
    (fun b o _ q n=>by rw[aH (Nat.ne_of_lt (Heap.lt_size q))];exact n) (fun b o hc q=>⟨o,kp2 b o (fun z=>hc (by simp[z])) (fun z=>hc (by simp[z])) q⟩) (fun b ys q=>by rw[aH (ltT b _ q)];exact q) (fun b o uu q=>by rw[aH (ltT b _ q)];exact q)
    (fun b ps q=>by rw[aH (ltT b _ q)];exact q) (fun m hm=>?_) hokT I.bare
   ·rcases List.mem_cons.mp hb with z|z
    ·subst z;exact ⟨f3,f1,f4,f5⟩
    ·obtain rfl:b=it:=by simpa using z
     exact ⟨g3,g1,g4,g5⟩
   ·obtain ⟨o,es',ep,ho,r⟩:=hm
    exact ⟨o,es',ep,kp2 _ o (Ne.symm f1) (Ne.symm g1) ho,r⟩
  refine ⟨.ref s.heap.objs.size,_,I2,rfl,⟨_,x,fT,rfl,rfl,fun ys hy=>by rw[I.list_inj hy hq];exact hx⟩,⟨⟨u,by simpa using se⟩,si.at fun o q=>(sb.2 it hei.symm).trans q⟩,fun b hb=>?_⟩
  rcases List.mem_cons.mp hb with z|z
  ·subst z;rw[aH (Ne.symm ne1)];exact f0
  ·obtain rfl:b=it:=by simpa using z
   obtain ⟨o,q,_⟩:=s2
   rw[aH (Nat.ne_of_lt (Heap.lt_size q))];exact g0
 done:=by
  intro X hP hw hK hc i pins s σ H E I hf st hg
  subst hP hw hK
  obtain ⟨⟨old,s1⟩,s2⟩:=st
  obtain ⟨xs,hq,hx⟩:=hg
  obtain ⟨its,rv,p,hz⟩:=I.list hq
  obtain ⟨g0,g1,g2,g3,g4,g5⟩:=hf it (by simp)
  have hl:=rv.length
  exact wpAny_pyNext_enum_end (I.ok.hd hc) s1 s2 p.isList (by simp;omega) fun h' eb=>⟨rfl,I.turned (t':=s.toks) (fun b o hb q=>eb b o hb q) g0 g1 g3 g4 g5⟩
 self:=fun _ _ _ _ _ st h=>wpAny_pyIter_enum st.1.choose_spec h
def aHP(K:Frag)(ta:TA):TI:=fun σ H R=>ta σ H fun vs H1=>∃ a,vs=[.ref a]/\(∃ xs,SqL K H1 a xs)/\R (Ite K a) H1
theorem aIQ{X:Cx}{es:List Expr}{k1}{tpos:Pos}{a:Expr}{ta:TA}{p pos:Pos}(hg:Gl X "enumerate")(hm:X.mg "enumerate"=none)(ha:PA X [a] ta)(hs:starEach [a] X.env=[(false,eval a X.env)]:=by rfl) :
  PI X (.Tuple es k1 tpos) (.Call (.Name "enumerate" p) [a] [] pos) (aHP X.K ta):=by
 intro pins s σ H R I h
 refine Call_ (nR I hg hm PyProof.Rows.boot_enumerate (PyProof.Rows.callWith_type1 (thn (ha pos pins s σ H _ I h) fun us s1 zz0=>?_) hs rfl))
 obtain ⟨vs,H1,I1,r1,q1⟩:=zz0
 obtain ⟨j,e,⟨xs,hq⟩,q⟩:=q1
 subst e
 obtain ⟨u,rfl,ru⟩:=iV r1
 cases ru
 obtain ⟨its,rv,pl,hz⟩:=I1.list hq
 refine call_enumerate_list pl.isList fun h' se si hz' kp=>?_
 have I2:Inv X pins σ H1 {s1 with heap:=h'}:=I1.kept (t':=s1.toks) kp
 refine wpAny_pyIter_enum se ?_
 refine ⟨s1.heap.objs.size+1,[s1.heap.objs.size+1,s1.heap.objs.size],_,_,H1,rfl,I2,aDS j _ _ (Nat.ne_of_gt (Nat.lt_succ_self _)),⟨⟨_,se⟩,si⟩,fun b hb=>?_,q⟩
 rcases List.mem_cons.mp hb with z|z
 ·subst z
  exact I1.fpOk (Nat.le_succ _) (I1.hok.fresh (Nat.le_succ _))
 ·obtain rfl:b=s1.heap.objs.size:=by simpa using z
  exact I1.fpOk (Nat.le_refl _) (I1.hok.fresh (Nat.le_refl _))
end L2
namespace SX
open PySem PySem.W
section
variable{prog:Program}{w:World}{A:Around}{E:Value->Shared->Prop}{h:Heap}{g:Array GenState}{d:Drawn}{t:Nat}{os:OsState}{K:Frag}
variable{nm q:Str}{C N:Addr}{bs bm bmB:List Value}{hdct:Bool}{sn:List Str}{sub:List Value}{ab:Bool}{col:Option Bool}{dd:Option Addr}{k0 k1 k2 k3 k5:Option Value}{B newId initId:String}
structure BmOk(B:String)(bm:List Value):Prop where
 hasB:bm.contains (.type B)=true
 hasBase:bm.contains (.type "BaseException")=true
 noAttr:bm.contains (.type "AttributeError")=false
 noName:bm.contains (.type "NameError")=false
theorem aCB(F:ExcBaseFacts B newId initId bmB)(T:BmOk B bm){M:Model}{rest:List Value}{Q:Unit->Shared->Prop}(hC:h.get? C=some (excClassObj nm q C N bs bm hdct sn sub ab col dd k0 k1 k2 k3 k5 newId))
  (hq:Q () ⟨h,g,d,t,os⟩):wpAny M A (checkBuiltinCall newId ⟨.ref C::rest,[]⟩) Q E ⟨h,g,d,t,os⟩:=by
 have hcont:(Value.ref C::bm).contains (.type B)=true:=by rw[List.contains_cons,T.hasB,Bool.or_true]
 have hstar:=F.noStar
 simp only[checkBuiltinCall,F.newKind,F.newSplit,F.newRow]
 repeat (first|refine wpAny_loadPart_at hC ?_|(refine wpAny_isSubtype_exc hC ?_;rw[hcont])|refine wpAny_staticBase_exc hC ?_|refine wpAny_madeBy_exc hC ?_|simp only[bne_self_eq_false,Bool.false_eq_true,if_false]|wp_step)
 exact hq
theorem aFW(F:ExcBaseFacts B newId initId bmB)(T:BmOk B bm){R:Result->Shared->Prop}{rest:List Value}(hC:h.get? C=some (excClassObj nm q C N bs bm hdct sn sub ab col dd k0 k1 k2 k3 k5 newId))
  (hq:R (.ok (.ret (.ref (h.objs.size+1)))) ⟨(h.push {cls:=.type "tuple",data:=.seq rest.toArray}).push
   {cls:=.ref C,data:=.fields #[.ref h.objs.size,.none,.none,.none,.bool false,.none]},g,d,t,os⟩) (hrest:rest.length<=sizeLine) :
  codeAny (model prog w) A (.builtin newId ⟨.ref C::rest,[]⟩) R ⟨h,g,d,t,os⟩:=by
 have hends:=F.ends
 have hcB:(Value.ref C::bm).contains (.type B)=true:=by rw[List.contains_cons,T.hasB,Bool.or_true]
 have hcA:(Value.ref C::bm).contains (.type "AttributeError")=false:=by rw[List.contains_cons,T.noAttr];rfl
 have hcN:(Value.ref C::bm).contains (.type "NameError")=false:=by rw[List.contains_cons,T.noName];rfl
 refine codeAny_builtinAt F.entry ?_
 unfold Builtin.«BaseException.__new__»
 refine wpAt_bind ?_
 show wpAt _ _ _ (stack >>= _) _ _ _
 refine wpAt_bind (wpAt_stack fun p below=>wpAt_of_wpAny ?_)
 wp_walk
 refine wpAt_of_wpAny ?_
 rw[F.owner]
 repeat (first|with_reducible refine wpAny_madeHere_exc F.canon hC ?_|with_reducible refine wpAny_loadPart_at hC ?_|(with_reducible refine wpAny_isSubtype_exc hC ?_;first|rw[hcB]|rw[hcA]|rw[hcN])|wp_step)
 show R _ _
 rw[Heap.size_push]
 exact hq
theorem x4(F:ExcBaseFacts B newId initId bmB)(T:BmOk B bm)(X:K.In h){rest:List Value}{fI:Addr}{Q:Fin->Shared->Prop}
  (hC:h.get? C=some (excClassObj nm q C N bs bm hdct sn sub ab col dd k0 k1 k2 k3 k5 newId)) (hi:findIn K (.ref C) "__init__"=some (some (.ref fI))) (hf:typeIn K (.ref fI)=some (.type "function"))
  (hq:∀ h' e,Heap.MadeExcOf h h' e (.ref C) rest->h.objs.size<=e->
   wpAny (model prog w) A (call (.ref fI) (.ref e::rest)) (fun r s'=>r=.none/\Q (.done (.ret (.ref e))) s') E ⟨h',g,d,t,os⟩) (hrest:rest.length<=sizeLine) :
  wpAny (model prog w) A (Builtin.«type.__call__» ⟨.ref C::rest,[]⟩) Q E ⟨h,g,d,t,os⟩:=by
 repeat (first|with_reducible refine wpAny_loadPart_at hC ?_|with_reducible refine wpAny_madeBy_exc hC ?_|wp_step)
 refine codeAny_call_builtin_code (Code.quiet_builtin _ F.quiet) (aCB F T hC ?_)
 refine aFW F T hC ?_ hrest
 show wpAny _ _ _ _ _ _
 have kp:∀ b o,h.get? b=some o->((h.push {cls:=.type "tuple",data:=.seq rest.toArray}).push {cls:=.ref C,data:=.fields #[.ref h.objs.size,.none,.none,.none,.bool false,.none]}).get? b=some o:=fun b o e=>Heap.get?_push_of_some _ (Heap.get?_push_of_some _ e)
 have hC₁:=kp _ _ hC
 have X₁:=X.keeps kp
 have hget:((h.push {cls:=.type "tuple",data:=.seq rest.toArray}).push
   {cls:=.ref C,data:=.fields #[.ref h.objs.size,.none,.none,.none,.bool false,.none]}).get? (h.objs.size+1)=some
   {cls:=.ref C,data:=.fields #[.ref h.objs.size,.none,.none,.none,.bool false,.none]}:=by heap_get
 have hcC:(Value.ref C::bm).contains (.ref C)=true:=by simp
 unfold isInstance
 repeat (first|with_reducible refine wpAny_loadPart_at hget ?_|(with_reducible refine wpAny_isSubtype_exc hC₁ ?_;rw[hcC])|wp_step)
 show wpAny _ _ (typeLookup (.ref C) _) _ _ _
 refine (looks_findIn (M:=model prog w) X₁ hi).at ?_
 refine wpAny_holding (wpAny_bind ?_)
 refine (bind_fn (M:=model prog w) X₁ _ hf).at ?_
 refine wpAny_bind (wpAny_mono (hq _ (h.objs.size+1) ⟨kp,Heap.get?_none_of_le (Nat.le_succ _),h.objs.size,hget,Heap.get?_none_of_le (Nat.le_refl _),?_⟩ (Nat.le_succ _)) (fun r s' hr=>?_) fun _ _ x=>x)
 ·exact Heap.get?_push_of_some _ (Heap.get?_push_at rfl rfl)
 ·obtain ⟨rfl,hQ⟩:=hr
  wp_walk
  exact hQ
theorem aFX(F:ExcBaseFacts B newId initId bmB)(T:BmOk B bm)(X:K.In h){rest:List Value}{fI:Addr}{Q:Value->Shared->Prop}
  (hC:h.get? C=some (excClassObj nm q C N bs bm hdct sn sub ab col dd k0 k1 k2 k3 k5 newId)) (hi:findIn K (.ref C) "__init__"=some (some (.ref fI))) (hf:typeIn K (.ref fI)=some (.type "function"))
  (hq:∀ h' e,Heap.MadeExcOf h h' e (.ref C) rest->h.objs.size<=e->
   wpAny (model prog w) (A.under (.builtin "type.__call__" ⟨.ref C::rest,[]⟩)) (call (.ref fI) (.ref e::rest)) (fun r s'=>r=.none/\Q (.ref e) s') E ⟨h',g,d,t,os⟩) (hrest:rest.length<=sizeLine) :
  wpAny (model prog w) A (call (.ref C) rest) Q E ⟨h,g,d,t,os⟩:=by
 have f1:=tc_lookup
 have f2:=tc_bind (.ref C)
 have hT:(⟨h,g,d,t,os⟩:Shared).TypeIs (.ref C) "type":=⟨_,hC,rfl⟩
 refine wpAny_call (codeAny_of_tree ?_)
 show wpAny _ _ (callAny (.ref C) _) _ _ _
 repeat (any_goals (first|assumption|with_reducible refine wpAny_loadPart_at hC ?_|wp_step))
 refine ⟨rfl,?_⟩
 refine codeAny_call_builtin_at (Code.quiet_builtin _ (by decide +kernel)) entry_typeCall (wpAny_check_type_call_sub hC (x4 F T X hC hi hf (fun h' e hm hle=>?_) hrest))
 exact hq h' e hm hle
theorem lK{M:Model}{env:Env}{s:Shared}{x:Sem Value}{Q:Flow->Shared->Prop}(T:BmOk B bm)(hh:A.handled=none)
  (hx:wpAny M A x (fun v s₁=>∃ e od vs,v=.ref e/\s₁.heap.get? C=some (excClassObj nm q C N bs bm hdct sn sub ab col dd k0 k1 k2 k3 k5 newId) /\
   s₁.heap.get? e=some {cls:=.ref C,dict:=od,data:=.fields vs}/\vs[1]? = some .none/\E (.ref e) s₁) E s) :
  wpAny M A (raiseStmt env (some x) none) Q E s:=by
 have hcB:(Value.ref C::bm).contains (.type "BaseException")=true:=by rw[List.contains_cons,T.hasBase,Bool.or_true]
 unfold raiseStmt
 refine wpAny_bind (wpAny_mono hx (fun v s₁ h₁=>?_) fun _ _ x=>x)
 obtain ⟨e,od,vs,rfl,hC,he,h1,hE⟩:=h₁
 obtain ⟨hp,g,d,tk,os⟩:=s₁
 repeat (first|with_reducible refine wpAny_loadPart_at he ?_|with_reducible refine wpAny_loadPart_at hC ?_|(with_reducible refine wpAny_isSubtype_exc hC ?_;rw[hcB])|(with_reducible refine wpAny_field he rfl h1 ?_)|wp_step)
 exact wpAny_raiseNew_none hh hE
end
end SX
namespace SX
open PySem PySem.W PySem.Builtin PySem.Builtin.ObjectAttr
abbrev fW:List Value:=[.type "ValueError",.type "Exception",.type "BaseException",.type "object"]
structure ExcC(K:Frag)(W C:Addr):Prop where
 lk:∃ nm q N bs sn sub ab col dd k0 k1 k2 k3 k5,K.lookup C=some (excClassObj nm q C N bs (.ref W::fW) true sn sub ab col dd k0 k1 k2 k3 k5 "ValueError.__new__")
 sa:findIn K (.ref C) "__setattr__"=some (some (.builtin "object.__setattr__"))
 ga:findIn K (.ref C) "__getattribute__"=some (some (.builtin "BaseException.__getattribute__"))
 gh:findIn K (.ref C) "__getattr__"=some none
 cl:findIn K (.ref C) "__class__"=some (some (.builtin "object.__class__"))
 clg:specialIn K (.builtin "object.__class__") "__get__"=some (some (.builtin "getset_descriptor.__get__"))
 clt:takesIn K (.builtin "object.__class__")=some true
 kp:keepIn K (.ref C)=true
theorem uZ(W:Addr):BmOk "ValueError" (.ref W::fW):=⟨by simp[fW],by simp[fW],by simp[fW],by simp[fW]⟩
theorem passes(self:Value)(C W:Addr):refuseLoop self "__setattr__" (.ref C::.ref W::fW)=pure ():=by
 rw[refuseLoop_ref,refuseLoop_ref]
 exact PySem.F.store_ValueError.passes self
theorem ExcC.cls{K:Frag}{W C:Addr}(c:ExcC K W C):∃ cd:ClassData,clsIn K C=some cd/\cd.hasDict=true/\cd.mro=.ref C::.ref W::fW:=by
 obtain ⟨nm,q,N,bs,sn,sub,ab,col,dd,k0,k1,k2,k3,k5,e⟩:=c.lk
 exact ⟨_,by unfold clsIn;rw[e],rfl,rfl⟩
theorem ExcC.mro{K:Frag}{W C:Addr}(c:ExcC K W C)(b:Value):mroIn K C b=some ((Value.ref C::.ref W::fW).contains b):=by
 obtain ⟨cd,h1,_,h3⟩:=c.cls
 unfold mroIn
 rw[h1,Option.bind_some,h3]
 rfl
section
variable{prog:Program}{w:World}{A:Around}{E:Value->Shared->Prop}{s:Shared}{K:Frag}{W C x:Addr}{name:Str}{v:Value}{vs:Array Value}
theorem aAO{od:Option Addr}{o:Option Obj}{tk:Tok}{R:Result->Shared->Prop}(X:K.In s.heap)(c:ExcC K W C)(na:findIn K (.ref C) name=some none)(I:InstAt s.heap x ⟨.ref C,od,.fields vs,#[]⟩ C o)
  (h:wpAny (model prog w) A.in1 (storeInOwnDict (.ref x) (.ref C) (.str name tk) name v false)
   (fun fin s'=>match fin with | .done f=>R (.ok f) s' | .again c'=>c'.quiet=true/\codeAny (model prog w) A c' R s') (fun e s'=>R (.error e) s') s) :
  codeAny (model prog w) A (.call (.builtin "object.__setattr__") ⟨[.ref x,.str name tk,v],[]⟩) R s:=by
 have SF:=PySem.F.store_object
 obtain ⟨cd,hc,hdct,hmro⟩:=c.cls
 have sub:Looks (model prog w) s.heap (isInstance (.ref x) (.type "object")) true:=I.type.andThen (looks_mroIn X (by rw[c.mro];simp[fW]))
 refine codeAny_call_builtin SF.slot.plain SF.entry (@check_slot (model prog w) _ _ s "object.__setattr__" "object" "__setattr__" (.ref x) [.str name tk,v] [] _ SF.kind SF.split sub (SF.args (.ref x) (.str name tk) v) ?_)
 have hm:Looks (model prog w) s.heap (mroOf (.ref C)) cd.mro:=(looks_clsIn X hc).andThen .now
 rw[osa_eq,refuse_eq]
 refine wpAny_bind (wpAny_bind (I.type.here (wpAny_bind (hm.here ?_))))
 rw[hmro,passes]
 exact wpAny_pure (wpAny_bind (I.type.here (wpAny_bind ((looks_findIn X na).here (wpAny_bind (wpAny_pure h))))))
theorem aDT{Q:Unit->Shared->Prop}(X:K.In s.heap)(c:ExcC K W C)(na:findIn K (.ref C) name=some none)(hx:s.heap.get? x=some ⟨.ref C,none,.fields vs,#[]⟩)
  (h:∀ h' tk',h'.get? x=some ⟨.ref C,some s.heap.objs.size,.fields vs,#[]⟩->h'.Ns1 s.heap.objs.size (fun y=>if y=name then some v else none)->(∀ b o,b≠x->s.heap.get? b=some o->h'.get? b=some o)->Q () {s with heap:=h',toks:=tk'}) :
  wpAny (model prog w) A (setAttr (.ref x) name v) Q E s:=by
 have I:InstAt s.heap x ⟨.ref C,none,.fields vs,#[]⟩ C none:=⟨hx,rfl,rfl,trivial⟩
 refine set_plain X I c.sa (aAO (s:={s with toks:=s.toks+1}) X c na I ?_)
 obtain ⟨cd,hc,hdct,hmro⟩:=c.cls
 obtain ⟨hp,g,d,t,os⟩:=s
 have hx:hp.get? x=some ⟨.ref C,none,.fields vs,#[]⟩:=hx
 unfold storeInOwnDict
 refine wpAny_bind (wpAny_pure ?_)
 show wpAny _ _ (ownDictForStores (.ref x) >>= _) _ _ _
 refine wpAny_bind ?_
 show wpAny _ _ (instanceDict x true) _ _ _
 unfold instanceDict
 refine wpAny_bind (wpAny_loadPart hx (wpAny_bind ((looks_clsIn (M:=model prog w) X hc).at ?_)))
 rw[hdct]
 have hx₁:(hp.push {cls:=.type "dict",data:=.dict #[]}).get? x=some ⟨.ref C,none,.fields vs,#[]⟩:=Heap.get?_push_of_some _ hx
 have hxs:x≠hp.objs.size:=Nat.ne_of_lt (Heap.lt_size hx)
 refine wpAny_bind (wpAny_alloc' ?_)
 refine wpAny_bind (wpAny_update' hx₁ ?_)
 refine wpAny_pure ?_
 have hgd:((hp.push {cls:=.type "dict",data:=.dict #[]}).update x fun o=>{cls:=o.cls,dict:=some hp.objs.size,data:=o.data,slots:=o.slots}).get? hp.objs.size
   = some {cls:=.type "dict",data:=.dict #[]}:=
  (Heap.get?_update_ne _ _ _ _ hxs.symm).trans (Heap.get?_push_at rfl rfl)
 have hnd:((hp.push {cls:=.type "dict",data:=.dict #[]}).update x fun o=>{cls:=o.cls,dict:=some hp.objs.size,data:=o.data,slots:=o.slots}).Ns hp.objs.size (fun _=>none):=
  ⟨_,#[],_,hgd,rfl,fun e he=>absurd he (by simp),fun _=>rfl⟩
 show wpAny _ _ (storeInDict hp.objs.size (.str name t) name v) _ _ _
 unfold storeInDict newKeyGuard
 refine wpAny_bind (wpAny_pure (wpAny_bind (wpAny_nsSet1 (Heap.Ns1.of_empty hnd) fun h' hn' hs=>?_)))
 obtain ⟨oD,esD,epD,hoD,hdD,hcD⟩:=hn'.count (Within.cons name v Within.nil)
 refine wpAny_bind (wpAny_lookBehind hoD (by rw[hdD];exact pastItsLine_dict (Nat.le_trans hcD (by rw[List.length_cons,List.length_nil,sizeLine_eq];omega))) ?_)
 refine wpAny_pure (h h' _ ?_ hn' fun b o hbx hb=>?_)
 ·exact (hs.2 x hxs).trans (Heap.get?_update_self _ hx₁ rfl)
 ·exact (hs.2 b (Nat.ne_of_lt (Heap.lt_size hb))).trans ((Heap.get?_update_ne _ _ _ _ hbx).trans (Heap.get?_push_of_some _ hb))
theorem aFY{Q:Unit->Shared->Prop}{dx:Addr}{mA:Str->Option Value}{ns:List Str}(X:K.In s.heap)(c:ExcC K W C)(na:findIn K (.ref C) name=some none)(hx:s.heap.get? x=some ⟨.ref C,some dx,.fields vs,#[]⟩)
  (hne:dx≠x) (hns:s.heap.Ns1 dx mA) (hw:Within mA ns) (hsz:ns.length<=sizeLine)
  (h:∀ h' tk',h'.Ns1 dx (fun y=>if y=name then some v else mA y)->Heap.SameBut dx s.heap h'->Q () {s with heap:=h',toks:=tk'}) :
  wpAny (model prog w) A (setAttr (.ref x) name v) Q E s:=by
 obtain ⟨od,hod,_⟩:=L2.mX hns
 have I:InstAt s.heap x ⟨.ref C,some dx,.fields vs,#[]⟩ C (some od):=⟨hx,rfl,rfl,hod⟩
 refine set_plain X I c.sa (aAO (s:={s with toks:=s.toks+1}) X c na I ?_)
 obtain ⟨cd,hc,hdct,hmro⟩:=c.cls
 obtain ⟨hp,g,d,t,os⟩:=s
 have hx:hp.get? x=some ⟨.ref C,some dx,.fields vs,#[]⟩:=hx
 unfold storeInOwnDict
 refine wpAny_bind (wpAny_pure ?_)
 show wpAny _ _ (ownDictForStores (.ref x) >>= _) _ _ _
 refine wpAny_bind ?_
 show wpAny _ _ (instanceDict x true) _ _ _
 unfold instanceDict
 refine wpAny_bind (wpAny_loadPart hx (wpAny_bind ((looks_clsIn (M:=model prog w) X hc).at ?_)))
 rw[hdct]
 refine wpAny_pure ?_
 show wpAny _ _ (storeInDict dx (.str name t) name v) _ _ _
 unfold storeInDict newKeyGuard
 refine wpAny_bind (wpAny_pure (wpAny_bind (wpAny_nsSet1 hns fun h' hn' hs=>?_)))
 obtain ⟨oD,esD,epD,hoD,hdD,hcD⟩:=hn'.count (Within.cons name v hw)
 refine wpAny_bind (wpAny_lookBehind hoD (by rw[hdD];exact pastItsLine_dict (Nat.le_trans hcD (by rw[List.length_cons];omega))) ?_)
 exact wpAny_pure (h h' _ hn' hs)
theorem aDU{od:Option Addr}{o:Option Obj}{Q:Option Value->Shared->Prop}(X:K.In s.heap)(c:ExcC K W C)(I:InstAt s.heap x ⟨.ref C,od,.fields vs,#[]⟩ C o)(h:Q (some (.ref C)) {s with toks:=s.toks+1}) :
  wpAny (model prog w) A (getAttr? (.ref x) "__class__") Q E s:=by
 obtain ⟨hp,g,d,t,os⟩:=s
 obtain ⟨cd,hcd,hdct,hmro⟩:=c.cls
 have L0:=I.type (M:=model prog w)
 have L1:=looks_findIn (M:=model prog w) X c.ga
 have L2:=looks_findIn (M:=model prog w) X c.gh
 have sub:Looks (model prog w) hp (isInstance (.ref x) (.type "BaseException")) true:=L0.andThen (looks_mroIn X (by rw[c.mro];simp[fW]))
 have hf:findObj K C o "__class__"=some (.bind (.builtin "getset_descriptor.__get__") (.builtin "object.__class__")):=by
  unfold findObj
  rw[hcd,Option.bind_some,c.cl,Option.bind_some]
  simp only[c.clg,c.clt,Option.bind_some]
 have L3:=looks_find (M:=model prog w) X I hf
 unfold getAttr?
 refine wpAny_bind (wpAny_mkText ?_)
 unfold getAttrBy?
 refine wpAny_bind (wpAny_attempt ?_)
 unfold getAttrBy
 refine wpAny_holding (wpAny_bind (L0.at (wpAny_bind (L1.at ?_))))
 show wpAny _ _ (getAttrByItsOwn _ _ _ _ _ _) _ _ _
 unfold getAttrByItsOwn
 refine wpAny_bind ?_
 show wpAny _ _ (typeLookup (.ref C) "__getattr__") _ _ _
 refine L2.at (wpAny_bind (wpAny_attempt (wpAny_holding ?_)))
 unfold callGetattribute
 rw[show (false && onTheHeap (Value.builtin "BaseException.__getattribute__"))=false from rfl,if_neg Bool.false_ne_true]
 unfold boundAndCalled
 rw[PySem.F.excAttr_ValueError.ga.bind]
 refine wpAny_bind (wpAny_pure ?_)
 have hk:builtinKind "BaseException.__getattribute__"=some .slot:=by decide +kernel
 have hsplit:splitId "BaseException.__getattribute__"=some ("BaseException","__getattribute__"):=by decide +kernel
 refine wpAny_call (codeAny_call_builtin PySem.F.excAttr_ValueError.ga.plain PySem.F.entry_bexc_ga (@check_slot (model prog w) _ _ _ "BaseException.__getattribute__" "BaseException" "__getattribute__" (.ref x) [.str "__class__" t] [] _ hk hsplit sub (PySem.F.args_bexc_ga (.ref x) (.str "__class__" t)) ?_))
 refine wpAny_bind (wpAny_pure (wpAny_bind (wpAny_pure ?_)))
 refine wpAny_bind (L0.at (wpAny_bind (L3.at ?_)))
 show wpAny _ _ (holding [.builtin "object.__class__"] (call (.builtin "getset_descriptor.__get__") [.builtin "object.__class__",.ref x,.ref C]) >>= ret) _ _ _
 refine wpAny_bind (wpAny_holding (wpAny_call (class_get (s:=⟨hp,g,d,t+1,os⟩) X I (by rw[c.mro];simp[fW]) ?_)))
 refine wpAny_pure ?_
 show wpAny _ _ (handedOut (.ref C)) _ _ _
 exact wpAny_pure (wpAny_pure h)
theorem r9{od:Option Addr}{o:Option Obj}(c:ExcC K W C):KitX K (.ref x) (.ref C) (fun h=>InstAt h x ⟨.ref C,od,.fields vs,#[]⟩ C o) where
 ty:=fun _ _ _ I=>I.type
 it:=fun _ _ X _=>by
  obtain ⟨nm,q,N,bs,sn,sub,ab,col,dd,k0,k1,k2,k3,k5,e⟩:=c.lk
  intro A' Q' E' s' k q
  unfold isType loadHead
  exact wpAny_bind (wpAny_loadPart (k _ _ (X _ _ e)) (wpAny_pure q))
 ne:=fun h tp dd its n sl X htp=>by
  obtain ⟨nm,q,N,bs,sn,sub,ab,col,dd,k0,k1,k2,k3,k5,e⟩:=c.lk
  refine Bool.eq_false_iff.mpr fun q=>?_
  have e':C=tp:=Value.ref.inj (beq_iff_eq.mp q)
  subst e'
  have z:=(X _ _ e).symm.trans htp
  have z':Value.type "type"=Value.type "tuple":=congrArg Obj.cls (Option.some.inj z)
  exact absurd (Value.type.inj z') (by decide)
 ca:=fun X I k=>aDU X c I k
theorem tK{od:Option Addr}{o:Option Obj}{cv:Value}{b:Bool}{Q:Value->Shared->Prop}(X:K.In s.heap)(c:ExcC K W C)(I:InstAt s.heap x ⟨.ref C,od,.fields vs,#[]⟩ C o)(e:kitOne K (.ref C) cv=some b)(h:∀ tk,Q (.bool b) {s with toks:=tk}) :
 wpAny (model prog w) A (call (.builtin "isinstance") [.ref x,cv]) Q E s:=kia_one (r9 c) X I e (fun z=>nomatch z) h
end
end SX
namespace SX
open PySem PySem.W
def sA(h:Heap)(vs:Array Value)(e:Addr)(T:Option Addr):Prop:=
 match T with
 | none=>vs[1]? = some .none
 | some t=>vs[1]? = some (.ref t)/\t≠e/\∃ oT ts x,h.get? t=some oT/\oT.data=.fields ts/\ts[3]? = some x
section
variable{M:Model}{A:Around}{E:Value->Shared->Prop}{s:Shared}
structure Noted(FL:List Addr)(e:Addr)(T:Option Addr)(C:Addr)(od:Option Addr)(h h':Heap)(T':Option Addr):Prop where
 keep:∀ b o,b∉FL->b≠e->(∀ t,T=some t->b≠t)->h.get? b=some o->h'.get? b=some o
 slot:∀ b o,b∈FL->h.get? b=some o->∃ sl,h'.get? b=some {o with slots:=sl}
 exc:∃ vs,h'.get? e=some ⟨.ref C,od,.fields vs,#[]⟩/\sA h' vs e T'
 new:(∃ t,T'=some t/\h.objs.size<=t)\/(T'=T/\T≠none)
 there:∀ t o,T=some t->h.get? t=some o->∃ o',h'.get? t=some o'
theorem aFZ{base:Heap}{env:Env}{outer:List Env}{L e C:Addr}{od:Option Addr}{vs:Array Value}{T:Option Addr}{Q:Unit->Shared->Prop}
  (hfr:A.frames=some (env::outer)) (hl:s.heap.FunFrames base (env::outer)) (hf:env.frame=some L) (he:s.heap.get? e=some ⟨.ref C,od,.fields vs,#[]⟩) (ht:sA s.heap vs e T)
  (h:∀ h' T',T'≠none->Noted ((env::outer).filterMap (·.frame)) e T C od s.heap h' T'->Q () {s with heap:=h'}) :
  wpAny M A (noteFrame (.ref e) env) Q E s:=by
 have frF:∀ b∈(env::outer).filterMap (·.frame),∃ o,s.heap.get? b=some o/\∀ vs,o.data≠.fields vs:=fun b hb=>(hl.mem hb).2
 have hene:e∉(env::outer).filterMap (·.frame):=fun hm=>by
  obtain ⟨o,ho,hnf⟩:=frF e hm
  rw[he] at ho;injection ho with ho;subst ho;exact hnf vs rfl
 have h1s:1 < vs.size:=by
  unfold sA at ht
  cases T with
  | none=>exact (Array.getElem?_eq_some_iff.mp ht).1
  | some t=>exact (Array.getElem?_eq_some_iff.mp ht.1).1
 have make:∀ (hp:Heap) (head:Value) (hadNext:Bool),hp.FunFrames base (env::outer)->hp.objs.size=s.heap.objs.size->hp.get? e=some ⟨.ref C,od,.fields vs,#[]⟩->
   (∀ b o,(∀ t,T=some t->b≠t)->s.heap.get? b=some o->hp.get? b=some o)->(∀ t o,T=some t->s.heap.get? t=some o->∃ o',hp.get? t=some o'/\t∉(env::outer).filterMap (·.frame)/\t≠e)->
   wpAny M A (do let a <-frameOf env;let pl <-entryPlaceOf L hadNext;let b <-EntryCells.newEntry head a .none (rawInt L) .none pl;setField (.ref e) 1 b) Q E {s with heap:=hp}:=by
  intro hp head hadNext hlp hsz hep kp tp
  refine wpAny_bind (wpAny_frameOf_fun (s:={s with heap:=hp}) hfr hlp hf fun h₁ hs₁=>?_)
  refine wpAny_bind (wpAny_entryPlaceOf fun pl hpl=>?_)
  unfold EntryCells.newEntry newFields
  refine wpAny_bind (wpAny_newObj_type ?_ (hpl.sizeOk5 _ _ _ _ _))
  have he₁:h₁.get? e=some ⟨.ref C,od,.fields vs,#[]⟩:=(hs₁.2.1 e hene).trans hep
  have he₂:=Heap.get?_push_of_some (h:=h₁) {cls:=.type "traceback",dict:=none,data:=.fields ([head,.ref L,.none,rawInt L,.none]++(if pl.isEmpty then List.replicate 6 Value.none else pl)).toArray} he₁
  refine wpAny_setField he₂ rfl h1s ?_
  have hTe:h₁.objs.size≠e:=Nat.ne_of_gt (Heap.lt_size he₁)
  have he₃:=Heap.get?_update_self (Obj.mapFields (·.setIfInBounds 1 (Value.ref h₁.objs.size))) he₂ rfl
  have hT₃:=(Heap.get?_update_other (h₁.push {cls:=.type "traceback",dict:=none,data:=.fields ([head,.ref L,.none,rawInt L,.none]++(if pl.isEmpty then List.replicate 6 Value.none else pl)).toArray})
   (Obj.mapFields (·.setIfInBounds 1 (Value.ref h₁.objs.size))) (Ne.symm hTe)).trans (Heap.get?_push_size h₁ rfl)
  have keep:∀ b o,b≠e->h₁.get? b=some o->
    ((h₁.push {cls:=.type "traceback",dict:=none,data:=.fields ([head,.ref L,.none,rawInt L,.none]++(if pl.isEmpty then List.replicate 6 Value.none else pl)).toArray}).update e (Obj.mapFields (·.setIfInBounds 1 (Value.ref h₁.objs.size)))).get? b=some o:=
   fun b o hbe hb=>by
    rw[Heap.get?_update_other _ _ (Ne.symm hbe)]
    exact Heap.get?_push_of_some _ hb
  refine h _ (some h₁.objs.size) (by simp) ⟨fun b o hb hbe hbt q=>?_,fun b o hb q=>?_,⟨vs.setIfInBounds 1 (.ref h₁.objs.size),?_,?_⟩,.inl ⟨_,rfl,by rw[hs₁.1,hsz];exact Nat.le_refl _⟩,fun t o e1 e2=>?_⟩
  ·exact keep b o hbe ((hs₁.2.1 b hb).trans (kp b o hbt q))
  ·have hbt:∀ t,T=some t->b≠t:=fun t e1 z=>by
    obtain ⟨o',q',z2,_⟩:=tp t o e1 (z▸q)
    exact z2 (z▸hb)
   obtain ⟨sl,q'⟩:=hs₁.2.2 b o (kp b o hbt q)
   exact ⟨sl,keep b _ (fun z=>hene (z▸hb)) q'⟩
  ·exact he₃
  ·refine ⟨by simp[h1s],hTe,_,_,rawInt L,hT₃,rfl,by first|(simp;done)|(rcases hpl with rfl|⟨_,_,_,_,_,_,_,rfl⟩<;>simp)⟩
  ·obtain ⟨o',q',z2,z3⟩:=tp t o e1 e2
   exact ⟨o',keep t o' z3 ((hs₁.2.1 t z2).trans q')⟩
 unfold noteFrame
 simp only[hf]
 cases T with
 | none=>
  refine wpAny_bind (wpAny_field he rfl ht ?_)
  rw[if_neg (by decide)]
  exact make s.heap .none _ hl rfl he (fun b o _ q=>q) (fun t o e1=>nomatch e1)
 | some t=>
  obtain ⟨ht1,hte,oT,ts,x,hT,hdT,h3⟩:=ht
  have tFL:t∉(env::outer).filterMap (·.frame):=fun hm=>by
   obtain ⟨o,ho,hnf⟩:=frF t hm
   rw[hT] at ho;injection ho with ho;subst ho;exact hnf ts hdT
  refine wpAny_bind (wpAny_field he rfl ht1 ?_)
  rw[if_pos (show (Value.ref t != Value.none)=true from by simp)]
  refine wpAny_bind (wpAny_field hT hdT h3 ?_)
  by_cases hx:(x == rawInt L)=true
  ·rw[if_pos hx]
   refine wpAny_pure (h s.heap (some t) (by simp) ⟨fun b o _ _ _ q=>q,fun b o _ q=>⟨o.slots,q⟩,⟨vs,he,ht1,hte,oT,ts,x,hT,hdT,h3⟩,.inr ⟨rfl,by simp⟩,fun t' o e1 q=>⟨o,q⟩⟩)
  ·rw[if_neg hx]
   refine wpAny_bind (wpAny_setField hT hdT (Array.getElem?_eq_some_iff.mp h3).1 ?_)
   have other:∀ b,b≠t->(s.heap.update t (Obj.mapFields (·.setIfInBounds 3 Value.none))).get? b=s.heap.get? b:=fun b hb=>Heap.get?_update_other _ _ (Ne.symm hb)
   have hT':=Heap.get?_update_self (Obj.mapFields (·.setIfInBounds 3 Value.none)) hT (Obj.isFreed_of_fields (Obj.data_mapFields hdT _))
   refine make (s.heap.update t (Obj.mapFields (·.setIfInBounds 3 Value.none))) _ _ (hl.of_keeps fun b o hb hnf=>⟨o,(other b fun q=>?_).trans hb,rfl⟩) (Heap.SameBut.update ..).1 ((other e (Ne.symm hte)).trans he) (fun b o hb q=>(other b (hb t rfl)).trans q) (fun t' o e1 q=>?_)
   ·rw[q,hT] at hb;injection hb with hb;subst hb;exact hnf ts hdT
   ·cases e1
    exact ⟨_,hT',tFL,hte⟩
theorem aCC{e C t:Addr}{od:Option Addr}{vs:Array Value}{fr:Option Addr}{Q:Unit->Shared->Prop}(he:s.heap.get? e=some ⟨.ref C,od,.fields vs,#[]⟩)(ht:sA s.heap vs e (some t))
  (h:∀ h',Heap.SameBut t s.heap h'->sA h' vs e (some t)->Q () {s with heap:=h'}):wpAny M A (setFlight (.ref e) fr) Q E s:=by
 obtain ⟨ht1,hte,oT,ts,x,hT,hdT,h3⟩:=ht
 unfold setFlight
 refine wpAny_bind (wpAny_field he rfl ht1 ?_)
 rw[if_pos (show (Value.ref t != Value.none)=true from by simp)]
 have hsz:=(Array.getElem?_eq_some_iff.mp h3).1
 refine wpAny_setField hT hdT hsz (h _ (Heap.SameBut.update ..) ⟨ht1,hte,_,_,_,Heap.get?_update_self _ hT (Obj.isFreed_of_fields (Obj.data_mapFields hdT _)),Obj.data_mapFields hdT _,Array.getElem?_setIfInBounds_self_of_lt hsz⟩)
end
end SX
namespace L2
open PySem PySem.Spec PyProof.Rows
def ExN(e C:Addr)(od:Option Addr):HO:=.ext fun h=>∃ vs,h.get? e=some ⟨.ref C,od,.fields vs,#[]⟩/\vs[1]? = some .none
def ExO(e C:Addr)(od:Option Addr):HO:=.ext fun h=>∃ vs,h.get? e=some ⟨.ref C,od,.fields vs,#[]⟩
section
variable{P:Program}{w:World}{H:Hp}{h:Heap}{e C:Addr}{od:Option Addr}
theorem aDV{vs:Array Value}(a:h.get? e=some ⟨.ref C,od,.fields vs,#[]⟩)(b:vs[1]? = some .none):b8 P w H h e (ExN e C od):=
 ⟨⟨vs,a,b⟩,⟨_,a⟩,fun h1 h2 ⟨vs,a,b⟩ k=>⟨vs,k _ a,b⟩⟩
theorem x5{vs:Array Value}(a:h.get? e=some ⟨.ref C,od,.fields vs,#[]⟩):b8 P w H h e (ExO e C od):=
 ⟨⟨vs,a⟩,⟨_,a⟩,fun h1 h2 ⟨vs,a⟩ k=>⟨vs,k _ a⟩⟩
theorem x6(ok:HOk P w H h)(q:H e=some (ExN e C od)):∃ vs,h.get? e=some ⟨.ref C,od,.fields vs,#[]⟩/\vs[1]? = some .none:=(ok e _ q).1
theorem pS(ok:HOk P w H h)(q:H e=some (ExO e C od)):∃ vs,h.get? e=some ⟨.ref C,od,.fields vs,#[]⟩:=(ok e _ q).1
end
structure FlyAt(X:Cx)(H:Hp)(h:Heap)(e C:Addr)(od:Option Addr)(traced:Bool):Prop where
 tr:H e=some (ExO e C od)
 tb:∃ vs T,h.get? e=some ⟨.ref C,od,.fields vs,#[]⟩/\SX.sA h vs e T/\(∀ t,T=some t->H t=none/\X.s₀.heap.objs.size<=t/\∀ p∈X.pn,p.1≠t)/\(traced=true->T≠none)
def Fly(X:Cx)(E:XK)(ev:Value)(s':Shared):Prop:=∃ e C od σ H',ev=.ref e/\Inv X [] σ H' s'/\FlyAt X H' s'.heap e C od false/\E (.ref C) (some e) H'
abbrev Cx.fly(X:Cx)(E:XK):Cx:=X.wish (Fly X E)
def qT(X:Cx):Prop:=X.stack=X.env::X.outer/\X.env.frame=some X.env.locals
section
variable{X:Cx}{σ:St}{H:Hp}{s:Shared}{e C:Addr}{od:Option Addr}{b:Bool}
theorem x8(I:Inv X [] σ H s){t:Addr}{oT:Obj}{ts:Array Value}(hT:s.heap.get? t=some oT)(hd:oT.data=.fields ts):t≠X.env.locals/\(∀ x c,X.env.cells.lookup x=some c->c≠t):=by
 refine ⟨fun z=>?_,fun x c q z=>?_⟩
 ·obtain ⟨m,⟨o,es,ep,ho,hd',_⟩,_⟩:=I.loc
  rw[<-z,hT] at ho;cases ho;rw[hd] at hd';cases hd'
 ·obtain ⟨v,o,ho,hd'⟩:=I.cell x c q
  rw[z,hT] at ho;cases ho;rw[hd] at hd';cases hd'
theorem sB{Q:Unit->Shared->Prop}{E':Value->Shared->Prop}(hO:qT X)(I:Inv X [] σ H s)(f:FlyAt X H s.heap e C od b)(h:∀ s',Inv X [] σ H s'->FlyAt X H s'.heap e C od true->Q () s') :
  wpAny (model X.prog X.w) X.A (noteFrame (.ref e) X.env) Q E' s:=by
 obtain ⟨hst,hfm⟩:=hO
 obtain ⟨vs,T,he,ht,hT,_⟩:=f.tb
 have hfr:X.A.frames=some (X.env::X.outer):=by rw[<-hst];exact I.ok.frames
 have hl:s.heap.FunFrames X.base (X.env::X.outer):=by have:=I.stack;rw[hst] at this;exact this
 have hFL:(X.env::X.outer).filterMap (·.frame)=X.env.locals::X.fs:=by rw[List.filterMap_cons,hfm];rfl
 refine SX.aFZ (T:=T) hfr hl hfm he ht fun h' T' hT' N=>?_
 rw[hFL] at N
 have trk:∀ c u,H c=some u->c∉X.env.locals::X.fs:=fun c u q z=>by
  have:=I.stkFree c (by unfold frs;rw[hst,hFL];exact z)
  rw[q] at this;cases this
 have nT:∀ c u,H c=some u->∀ t,T=some t->c≠t:=fun c u q t e1 z=>by
  have:=(hT t e1).1
  rw[<-z,q] at this;cases this
 have hok':HOk X.prog X.w H h':=fun c u q=>by
  by_cases hc:c=e
  ·subst hc
   rw[f.tr] at q;cases q
   obtain ⟨vs',q',_⟩:=N.exc
   exact x5 q'
  ·refine (I.hok c u q).stay (fun c' v hc' q'=>N.keep c' v ?_ ?_ ?_ q') (fun _ q=>q) (fun _ _ q=>q) fun _ _ q=>q
   ·rcases hc' with z|z
    ·rw[z];exact trk c u q
    ·exact trk c' _ z
   ·rcases hc' with z|z
    ·rw[z];exact hc
    ·intro zz;rw[zz,f.tr] at z;cases z
   ·rcases hc' with z|z
    ·rw[z];exact nT c u q
    ·exact nT c' _ z
 have I':Inv X [] σ H {s with heap:=h',gens:=s.gens,drawn:=s.drawn,toks:=s.toks}:=by
  refine I.step (ch:=T.toList) (fun c hc=>?_) (fun c o h1 h2 h3 q n=>?_) (fun c o h1 h2 h3 q n=>N.slot c o (List.mem_cons_of_mem _ h2) q) (fun _ _ _ _ n=>n) (fun c o h3 q=>?_) (fun _ _ q=>q) (fun _ _ _ q=>q) (fun _ _ q=>q) (fun m hm=>?_) hok' I.bare
  ·have e1:T=some c:=by cases T<;>simp at hc;rw[hc]
   obtain ⟨t1,t2,t3⟩:=hT c e1
   rw[e1] at ht
   obtain ⟨_,_,oT,ts,x,hTo,hTd,_⟩:=ht
   obtain ⟨a1,a2⟩:=x8 I hTo hTd
   exact ⟨.inr t2,a1,a2,fun p hp=>t3 p (by simpa using hp)⟩
  ·refine N.keep c o ?_ ?_ ?_ q
   ·intro z
    rcases List.mem_cons.mp z with z|z
    ·exact h1 z
    ·exact h2 z
   ·intro z;rw[z,f.tr] at n;cases n
   ·intro t e1 z;exact h3 (by rw[e1,z];simp)
  ·by_cases hc:c=e
   ·subst hc
    obtain ⟨vs',q',_⟩:=N.exc
    exact ⟨_,q'⟩
   ·by_cases hF:c∈X.env.locals::X.fs
    ·obtain ⟨sl,q'⟩:=N.slot c o hF q
     exact ⟨_,q'⟩
    ·exact ⟨o,N.keep c o hF hc (fun t e1 z=>h3 (by rw[e1,z];simp)) q⟩
  ·obtain ⟨o,es,ep,ho,r⟩:=hm
   obtain ⟨sl,q'⟩:=N.slot _ o List.mem_cons_self ho
   exact ⟨_,es,ep,q',r⟩
 refine h _ I' ⟨f.tr,?_⟩
 obtain ⟨vs',q',t'⟩:=N.exc
 refine ⟨vs',T',q',t',fun t e1=>?_,fun _=>hT'⟩
 rcases N.new with ⟨t2,e2,hle⟩|⟨e2,_⟩
 ·rw[e1] at e2;cases e2
  refine ⟨I.hok.fresh hle,Nat.le_trans I.sz hle,fun p hp z=>?_⟩
  have:=Heap.lt_size (I.pin p (List.mem_append_left _ hp)).1
  rw[z] at this
  exact absurd (Nat.lt_of_lt_of_le this hle) (Nat.lt_irrefl _)
 ·exact hT t (e2▸e1)
theorem qU{Q:Unit->Shared->Prop}{E':Value->Shared->Prop}{fr:Option Addr}{A:Around}(I:Inv X [] σ H s)(f:FlyAt X H s.heap e C od true)(h:∀ s',Inv X [] σ H s'->FlyAt X H s'.heap e C od true->Q () s') :
  wpAny (model X.prog X.w) A (setFlight (.ref e) fr) Q E' s:=by
 obtain ⟨vs,T,he,ht,hT,hn⟩:=f.tb
 cases T with
 | none=>exact absurd rfl (hn rfl)
 | some t=>
  obtain ⟨t1,t2,t3⟩:=hT t rfl
  refine SX.aCC he ht fun h' sb ht'=>?_
  obtain ⟨_,hte,oT,ts,x,hTo,hTd,_⟩:=ht
  obtain ⟨a1,a2⟩:=x8 I hTo hTd
  have I':Inv X [] σ H {s with heap:=h'}:=I.turned (t':=s.toks) (it:=t) (fun b o hb q=>(sb.2 b hb).trans q) t1 a1 (.inr t2) a2 fun p hp=>t3 p (by simpa using hp)
  exact h _ I' ⟨f.tr,vs,some t,(sb.2 e (Ne.symm hte)).trans he,ht',fun t' e1=>by cases e1;exact ⟨t1,t2,t3⟩,fun _=>by simp⟩
theorem aDW{Q:Value->Shared->Prop}{E':Value->Shared->Prop}{A:Around}(f:FlyAt X H s.heap e C od true)(h:∀ t,Q (.ref t) s):wpAny (model X.prog X.w) A (field (.ref e) 1) Q E' s:=by
 obtain ⟨vs,T,he,ht,hT,hn⟩:=f.tb
 cases T with
 | none=>exact absurd rfl (hn rfl)
 | some t=>exact wpAny_field he rfl ht.1 (h t)
theorem dX{E:XK}(hO:qT X):PassesOwn (model X.prog X.w) X.A X.env (Fly X E):=by
 rintro ev s' ⟨e,C,od,σ,H,rfl,I,f,q⟩
 refine sB hO I f fun s2 I2 f2=>?_
 unfold cameBackBy
 refine wpAny_bind (aDW f2 fun t=>?_)
 rw[if_neg (by simp)]
 exact qU I2 f2 fun s3 I3 f3=>⟨e,C,od,σ,H,rfl,I3,⟨f3.tr,let ⟨vs,T,a,b,c,_⟩:=f3.tb;⟨vs,T,a,b,c,fun z=>nomatch z⟩⟩,q⟩
end
def CXe(P:Program)(w:World):CXT:=fun outer H s E ev s'=>∃ e C od H',ev=.ref e/\s'.os=s.os/\AllBare s'.gens/\Un (frs outer) [] H H' s.heap s'.heap/\HOk P w H' s'.heap/\H' e=some (ExO e C od) /\
 (∃ vs T,s'.heap.get? e=some ⟨.ref C,od,.fields vs,#[]⟩/\SX.sA s'.heap vs e T/\∀ t,T=some t->H' t=none/\s.heap.objs.size<=t)/\E (.ref C) (some e) H'
section
variable{X:Cx}
theorem cZ{E E':XK}(hE:∀ c e H,E c e H->E' c e H):pQ (CXe X.prog X.w) (X.fly E') E:=by
 rintro pins σ H s ev s' I ⟨e,C,od,H',rfl,os,bare,un,hok,he,⟨vs,T,q1,q2,q3⟩,q⟩
 have I0:Inv X pins σ H s:=I.unwish
 have I1:Inv X [] σ H s:=I0.pins_of fun p hp=>absurd hp (by simp)
 have I2:Inv X [] σ H' s':=I1.call' os un hok bare (fun b hb=>absurd hb (by simp))
 refine ⟨e,C,od,σ,H',rfl,I2,⟨he,vs,T,q1,q2,fun t e1=>?_,fun z=>nomatch z⟩,hE _ _ _ q⟩
 obtain ⟨t1,t2⟩:=q3 t e1
 refine ⟨t1,Nat.le_trans I0.sz t2,fun p hp z=>?_⟩
 have:=Heap.lt_size (I0.pin p (List.mem_append_left _ hp)).1
 rw[z] at this
 exact absurd (Nat.lt_of_lt_of_le this t2) (Nat.lt_irrefl _)
theorem PSs.unfly{E:XK}{st:List Stmt}{t:TS}(h:PSs (X.fly E) st t)(hx:∀ e s',Fly X E e s'->X.xe e s'):PSs X st t:=fun pins s σ H D I hw=>
 wpAny_mono (h pins s σ H D (I.wish _) hw) (fun f s' q=>SP.unwish q) hx
end
theorem aDX{P:Program}{w:World}{K:Frag}{mg:Str->Option Value}{base:Heap}{N:List Str}{qual:Str}{scope:Scope}{f:Addr}{cd:Value}{A:Around}{outer:List Env}{s:Shared}{H:Hp}{E:XK}{ev:Value}{s':Shared}
  (h:Fly (iO (CXe P w) P w K mg base N qual scope f cd A outer s H E) E ev s'):(iO (CXe P w) P w K mg base N qual scope f cd A outer s H E).xe ev s':=by
 obtain ⟨e,C,od,σ,H',rfl,I,fl,q⟩:=h
 show wpAny (model P w) _ (leaving _ (.ref e)) _ _ s'
 unfold leaving
 have hO:qT (iO (CXe P w) P w K mg base N qual scope f cd A outer s H E):=⟨rfl,rfl⟩
 refine wpAny_bind (sB hO I fl fun s2 I2 f2=>qU I2 f2 fun s3 I3 f3=>?_)
 obtain ⟨vs,T,a,b,c,_⟩:=f3.tb
 exact ⟨e,C,od,H',rfl,I3.os,I3.bare,I3.base,I3.hok,f3.tr,⟨vs,T,a,b,fun t e1=>⟨(c t e1).1,(c t e1).2.1⟩⟩,q⟩
section
variable{P:Program}{w:World}{K:Frag}{mg:Str->Option Value}{base:Heap}
theorem Fun.okX{x qual:Str}{st:Stmt}{f:Addr}{fd:FuncData}{N ps:List Str}{k:Nat}{sp:Sp}(F:Fun K x qual st f fd)(S:FnScope N ps (aO st))(len:∀ vs H Q E,sp vs H Q E->vs.length=ps.length)
  (hbody:∀ (cdv:Value) (A:Around) (outer:List Env) (s:Shared) (H:Hp) (vs:List V) (Q:VK) (E:XK),Room k (A.deeper (envOfC qual (aO st) s.heap.objs.size f cdv))->sp vs H Q E->
   ∃ t,PSs ((iO (CXe P w) P w K mg base N qual (aO st) f cdv A outer s H E).fly E) (dH st) t/\t {nx:=fun _ H'=>Q .non H',rt:=Q} (start N vs) H):FnOk P w K mg base (CXe P w) (k+1) f fd ps sp:=by
 obtain ⟨oc,od,kV,doc,pm,an,cdv,ct,osl,rfl,lk,hcd⟩:=F.ex
 refine aHN lk hcd S len fun A outer s H vs Q E hr hsp=>?_
 obtain ⟨t,h,q⟩:=hbody cdv A outer s H vs Q E hr hsp
 exact ⟨t,h.unfly fun _ _ z=>aDX z,q⟩
end
end L2
namespace L2
open PySem PySem.Spec PyProof.Rows
theorem Inv.xdw{X:Cx}{pins:List (Addr×Obj)}{σ:St}{H:Hp}{s:Shared}{h':Heap}{d:Addr}{fs fs':List (Str×V)}{t':Nat}(I:Inv X pins σ H s)(hd:H d=some (.xd fs))(sb:Heap.SameBut d s.heap h')
  (new:b8 X.prog X.w (upd H d (.xd fs')) h' d (.xd fs')):Inv X pins σ (upd H d (.xd fs')) {s with heap:=h',toks:=t'}:=by
 have nd:∀ b (u:Obj),H b=none->b≠d:=fun b u e z=>by rw[z,hd] at e;cases e
 refine I.un ⟨fun b o q n _ _=>(sb.2 b (nd b o n)).trans q,fun b o q n hb=>?_,fun b o q n _=>by rw[aH (nd b o n)];exact n,fun b o q _=>?_,fun b xs q=>?_,fun b o u q=>?_,fun b ps q=>?_⟩ fun b u q=>?_
 ·exact fun _=>⟨o.slots,(sb.2 b (nd b o n)).trans q⟩
 ·by_cases z:b=d
  ·obtain ⟨o',e⟩:=(show ∃ o',h'.get? d=some o' from let ⟨mA,⟨o,_,_,e,_⟩,_⟩:=new;⟨o,e⟩)
   exact ⟨o',z▸e⟩
  ·exact ⟨o,(sb.2 b z).trans q⟩
 ·rw[aH (fun z=>by rw[z,hd] at q;cases q)];exact q
 ·rw[aH (fun z=>by rw[z,hd] at q;cases q)];exact q
 ·rw[aH (fun z=>by rw[z,hd] at q;cases q)];exact q
 ·by_cases z:b=d
  ·subst z;rw[aT] at q;cases q;exact new
  ·rw[aH z] at q
   refine (I.hok b u q).stay (fun c v hc r=>(sb.2 c ?_).trans r) (fun c r=>?_) (fun c xs r=>?_) fun c xs r=>?_
   ·rcases hc with z2|z2
    · rw [z2]; exact z
    · intro z3; rw [z3, hd] at z2; cases z2
   ·rw[aH (fun z3=>by rw[z3,hd] at r;cases r)];exact r
   ·rw[aH (fun z3=>by rw[z3,hd] at r;cases r)];exact r
   ·rw[aH (fun z3=>by rw[z3,hd] at r;cases r)];exact r
def aNL(K:Frag)(ta tv:TE)(f:Str):TS:=fun D σ H=>tv σ H fun y H1=>ta σ H1 fun x H2=>∃ a W C,x=.ref a/\SX.ExcC K W C/\PySem.W.findIn K (.ref C) f=some none /\
 ((H2 a=some (ExN a C none)/\∀ d,H2 d=none->d≠a->D.nx σ (upd (upd H2 a (ExN a C (some d))) d (.xd [(f,y)]))) \/
  (∃ d fs,H2 a=some (ExN a C (some d))/\H2 d=some (.xd fs)/\fs.length < 1000/\D.nx σ (upd H2 d (.xd (uU f y fs)))))
section
variable{X:Cx}{o e value:Expr}{f:Str}{pos pos':Pos}{ta tv:TE}
theorem aDY{fs:List (Str×V)}{mA:Str->Option Value}(r:∀ f,jM (fs.lookup f) (mA f)):PySem.Within mA (fs.map (·.1)):=fun y hy=>by
 cases q:fs.lookup y with
 | none=>exact absurd (jM.none_of (by rw[<-q];exact r y)) hy
 | some v=>exact List.mem_map.mpr ⟨(y,v),PySem.mem_of_lookup q,rfl⟩
theorem aIR(ha:PE X o ta)(hv:PE X value tv)(hs:swapsWith value (some (.Attribute o f pos')) pos.line X.env=pure false):PS X (.Assign [.Attribute o f pos'] value pos) (aNL X.K ta tv f):=by
 intro pins s σ H D I h
 refine plainObj_wpAny_Assign_Attribute (thn (hv pins s σ H _ I h) fun u s1 ⟨y,H1,I1,ry,q⟩=>thn (ha pins s1 σ H1 _ I1 q) fun ov s2 zz0=>?_) hs
 obtain ⟨x,H2,I2,rx,a,W,C,ex,c,n,q2⟩:=zz0
 subst ex
 obtain rfl:ov=Value.ref a:=rx
 rcases q2 with ⟨ea,q2⟩|⟨d,fs,ea,ed,hl,q2⟩
 ·obtain ⟨vs,hx,h1⟩:=x6 I2.hok ea
  refine SX.aDT I2.kIn c n hx fun h' tk' hx' hns kp=>?_
  have fd:H2 s2.heap.objs.size=none:=I2.hok.fresh (Nat.le_refl _)
  have ne:s2.heap.objs.size≠a:=Nat.ne_of_gt (Heap.lt_size hx)
  refine ⟨σ,_,?_,q2 s2.heap.objs.size fd ne⟩
  have nea:∀ b (u:Obj),H2 b=none->b≠a:=fun b u z zz=>by rw[zz,ea] at z;cases z
  have ned:∀ b u,H2 b=some u->b≠s2.heap.objs.size:=fun b u z=>bS z fd
  have hokA:HOk X.prog X.w (upd (upd H2 a (ExN a C (some s2.heap.objs.size))) s2.heap.objs.size (.xd [(f,y)])) h':=fun b u z=>by
   by_cases hb:b=s2.heap.objs.size
   ·subst hb;rw[aT] at z;cases z
    refine ⟨_,hns,fun g=>?_⟩
    show jM (List.lookup g [(f,y)]) (if g=f then some u else none)
    rw[List.lookup_cons]
    by_cases hg:g=f
    ·subst hg;rw[if_pos rfl];simp only[beq_self_eq_true];exact ry
    ·rw[if_neg hg,beq_false_of_ne hg];exact True.intro
   ·rw[aH hb] at z
    by_cases hb2:b=a
    ·subst hb2;rw[aT] at z;cases z
     exact aDV hx' h1
    ·rw[aH hb2] at z
     refine (I2.hok b u z).stay (fun c' v hc r=>kp c' v ?_ r) (fun c' r=>?_) (fun c' xs r=>?_) fun c' xs r=>?_
     ·rcases hc with z2|z2
      · rw [z2]; exact hb2
      · intro z3; rw [z3, ea] at z2; cases z2
     ·rw[aH (ned c' _ r),aH (fun z3=>by rw[z3,ea] at r;cases r)];exact r
     ·rw[aH (ned c' _ r),aH (fun z3=>by rw[z3,ea] at r;cases r)];exact r
     ·rw[aH (ned c' _ r),aH (fun z3=>by rw[z3,ea] at r;cases r)];exact r
  refine I2.un (t':=tk') ⟨fun b ob q n _ _=>kp b ob (nea b ob n) q,fun b ob q n _ _=>⟨ob.slots,kp b ob (nea b ob n) q⟩,fun b ob q n _=>by rw[aH (Nat.ne_of_lt (Heap.lt_size q)),aH (nea b ob n)];exact n,fun b ob q _=>?_,fun b xs q=>?_,fun b ob u' q=>?_,fun b ps q=>?_⟩ hokA
  ·by_cases z:b=a
   ·subst z;exact ⟨_,hx'⟩
   ·exact ⟨ob,kp b ob z q⟩
  ·rw[aH (ned b _ q),aH (fun z3=>by rw[z3,ea] at q;cases q)];exact q
  ·rw[aH (ned b _ q),aH (fun z3=>by rw[z3,ea] at q;cases q)];exact q
  ·rw[aH (ned b _ q),aH (fun z3=>by rw[z3,ea] at q;cases q)];exact q
 ·obtain ⟨vs,hx,h1⟩:=x6 I2.hok ea
  obtain ⟨mA,hns,r⟩:=(show b8 X.prog X.w H2 s2.heap d (.xd fs) from I2.hok d _ ed)
  have ne:d≠a:=fun z=>by rw[z,ea] at ed;cases ed
  refine SX.aFY (ns:=fs.map (·.1)) I2.kIn c n hx ne hns (aDY r) (by rw[List.length_map,sizeLine_eq];omega) fun h' tk' hns' sb=>?_
  refine ⟨σ,_,I2.xdw (t':=tk') ed sb ⟨_,hns',fun g=>?_⟩,q2⟩
  show jM ((uU f y fs).lookup g) (if g=f then some u else mA g)
  rw[rM]
  by_cases q:g=f
  ·rw[if_pos q,if_pos q];exact ry
  ·rw[if_neg q,if_neg q];exact r g
end
inductive TyX(K:Frag)(H:Hp):V->Value->Prop where
 | pl {x:V} {t:Value} (h:TyOf K H x t):TyX K H x t
 | exc {a W C:Addr} {d:Addr} {fs:List (Str×V)} (c:SX.ExcC K W C) (e:H a=some (ExO a C (some d))) (ed:H d=some (.xd fs)):TyX K H (.ref a) (.ref C)
 | exc0 {a W C:Addr} (c:SX.ExcC K W C) (e:H a=some (ExO a C none)):TyX K H (.ref a) (.ref C)
def u0:V->Option Value
 | .ty n=>some (.type n)
 | .ref a=>some (.ref a)
 | _=>none
theorem u1{x:V}{u v:Value}(h:u0 x=some v)(r:bF x u):u=v:=by
 cases x with
 | ty n=>cases h;exact r
 | ref a=>cases h;exact r
 | _=>cases h
theorem gJ{X:Cx}:eX X (.builtin "isinstance") (fun xs H Q=>∃ x c t cv b,xs=[x,c]/\TyX X.K H x t/\u0 c=some cv/\PySem.W.kitOne X.K t cv=some b/\Q (.bl b) H):=by
 intro pins s σ H xs us Q I r h
 obtain ⟨x,c,t,cv,b,rfl,ty,hc,e,q⟩:=h
 obtain ⟨u,v,rfl,ru,rv⟩:=s9 r
 obtain rfl:=u1 hc rv
 cases ty with
 | pl ty=>exact aDN I ru ty e fun tk=>⟨.bl b,H,I.tok _,rfl,q⟩
 | @exc a W C d fs cc ea ed=>
  cases (show u=Value.ref a from ru)
  obtain ⟨vs,hx⟩:=pS I.hok ea
  obtain ⟨mA,hns,r⟩:=(show b8 X.prog X.w H s.heap d (.xd fs) from I.hok d _ ed)
  obtain ⟨od,hod,_⟩:=mX hns
  exact SX.tK (o:=some od) I.kIn cc ⟨hx,rfl,rfl,hod⟩ e fun tk=>⟨.bl b,H,I.tok _,rfl,q⟩
 | @exc0 a W C cc ea=>
  cases (show u=Value.ref a from ru)
  obtain ⟨vs,hx⟩:=pS I.hok ea
  exact SX.tK (o:=none) I.kIn cc ⟨hx,rfl,rfl,True.intro⟩ e fun tk=>⟨.bl b,H,I.tok _,rfl,q⟩
def x9(C:Addr)(spI:Sp)(E:XK)(ta:TA):TS:=fun _ σ H=>ta σ H fun vs H1=>vs.length<=1000/\∀ e,H1 e=none->
 spI (.ref e::vs) (upd H1 e (ExN e C none)) (fun v H2=>v=.non/\∃ od,H2 e=some (ExN e C od)/\E (.ref C) (some e) (upd H2 e (ExO e C od))) E0
section
variable{X:Cx}{E:XK}{W C fI:Addr}{fdI:FuncData}{ps:List Str}{spI:Sp}{k:Nat}{x:Str}{np cpos pos:Pos}{e0:Expr}{rest:List Expr}{ta:TA}
theorem sC(hc:X.calm=true)(c:SX.ExcC X.K W C)(hg:Gl X x)(hm:X.mg x=some (.ref C))(FI:FnOk X.prog X.w X.K X.mg X.base CX0 k fI fdI ps spI)(hi:PySem.W.findIn X.K (.ref C) "__init__"=some (some (.ref fI)))
  (hf:PySem.W.typeIn X.K (.ref fI)=some (.type "function")) (hb:iC X.K fdI ps []) (hr:Room (k+1) X.A) (ha:PA (X.fly E) (e0::rest) ta) (hdb:(x == ("__debug__":Str))=false:=by decide)
  (he:starEach (e0::rest) X.env=(false,eval e0 X.env)::starEach rest X.env:=by rfl) (hpl:(backTo cpos (starEach rest X.env)).any (·.1)=false:=by rfl) :
  PS (X.fly E) (.Raise (some (.Call (.Name x np) (e0::rest) [] cpos)) none pos) (x9 C spI E ta):=by
 intro pins s σ H D I h
 obtain ⟨nm,q,N,bs,sn,sub,ab,col,dd,k0,k1,k2,k3,k5,lk⟩:=c.lk
 have core:wpAny (model X.prog X.w) X.A (eval (.Call (.Name x np) (e0::rest) [] cpos) X.env) (fun v s1=>∃ e od vs,v=.ref e/\s1.heap.get? C=some (excClassObj nm q C N bs (.ref W::SX.fW) true sn sub ab col dd k0 k1 k2 k3 k5 "ValueError.__new__") /\
   s1.heap.get? e=some {cls:=.ref C,dict:=od,data:=.fields vs}/\vs[1]? = some .none/\Fly X E (.ref e) s1) (Fly X E) s:=by
  refine wpAny_Call_Name_kw (lR (X:=X) I.unwish hg hm ?_ hdb)
  refine PySem.W.callWith_K (h₀:=X.base) I.ok.mod.kin c.kp (thn (ha cpos pins s σ H _ I h) fun us s1 ⟨vs,H1,I1',r,hz,q1⟩=>⟨I1'.kIn,?_⟩) he hpl
  have I1:Inv X pins σ H1 s1:=I1'.unwish
  obtain ⟨hp,g,d,tk,os⟩:=s1
  have hz':us.length<=sizeLine:=by rw[<-r.length,sizeLine_eq];omega
  refine SX.aFX PySem.F.excBase_ValueError (SX.uZ W) I1.kIn (I1.kIn _ _ lk) hi hf (fun h' e hm' hle=>?_) hz'
  obtain ⟨t,het,_,_⟩:=hm'.there
  have I2:Inv X pins σ (upd H1 e (ExN e C none)) ⟨h',g,d,tk,os⟩:=I1.laid (t':=tk) hm'.keeps hle (aDV het rfl)
  have q2:=q1 e (I1.hok.fresh hle)
  have r2:bB (V.ref e::vs) (Value.ref e::us):=.cons rfl r
  have hl:(Value.ref e::us++[]).length=ps.length:=by
   have z:=r2.length
   rw[FI.len _ _ _ _ q2] at z
   rw[List.append_nil]
   exact z.symm
  have hl':(Value.ref e::us).length=ps.length:=by rw[List.append_nil] at hl;exact hl
  have bb:=hb ⟨h',g,d,tk,os⟩ (Value.ref e::us) I2.kIn hl
  rw[List.append_nil] at bb
  refine wpAny_call (codeAny_mono (FI.run _ X.stack ⟨h',g,d,tk,os⟩ _ ⟨Value.ref e::us,[]⟩ (Value.ref e::us) (V.ref e::vs) _ E0 (hr.make C us []) (I2.env0.make C us []) bb r2 q2) fun res s' hq=>?_)
  cases res with
  | error e=>exact False.elim hq
  | ok fl=>
   cases fl with
   | next=>exact False.elim hq
   | brk=>exact False.elim hq
   | cont=>exact False.elim hq
   | ret u=>
    obtain ⟨v,H3,I3,rv,ev,od,ee,q3⟩:=I2.after hq
    subst ev
    obtain ⟨vs',hx,h1⟩:=x6 I3.hok ee
    refine ⟨rv,e,od,vs',rfl,I3.kIn _ _ lk,hx,h1,?_⟩
    have I4:Inv X pins σ (upd H3 e (ExO e C od)) {s' with heap:=s'.heap,toks:=s'.toks}:=I3.write (x:=e) (e:=e) (by rw[ee];exact True.intro) (.inl rfl) (fun b u _ z=>z) ⟨_,hx⟩ (x5 hx)
    have I5:Inv X [] σ (upd H3 e (ExO e C od)) s':=(show Inv X pins σ _ s' from I4).pins_of fun p hp=>absurd hp (by simp)
    exact ⟨e,C,od,σ,_,rfl,I5,⟨aT,vs',none,hx,h1,(fun t z=>nomatch z),(fun z=>nomatch z)⟩,q3⟩
 show wpAny (model X.prog X.w) X.A (exec (.Raise (some (.Call (.Name x np) (e0::rest) [] cpos)) none pos) X.env) _ (Fly X E) s
 rw[arm_exec_Raise]
 first
  | refine wpAny_bind (wpAny_standAt (SX.lK (SX.uZ W) (I.ok.hd hc) (wpAny_bind (wpAny_mono core (fun v s1 h1=>wpAny_bind (wpAny_standAt (wpAny_pure h1))) fun _ _ z=>z))))
  | (simp only[evalOpt,Option.map];refine wpAny_bind (wpAny_standAt (SX.lK (SX.uZ W) (I.ok.hd hc) (wpAny_bind (wpAny_mono core (fun v s1 h1=>wpAny_bind (wpAny_standAt (wpAny_pure h1))) fun _ _ z=>z)))))
end
end L2
namespace SX
open PySem PySem.W
structure ExcAny(K:Frag)(C:Addr)(bm:List Value):Prop where
 lk:∃ nm q N bs hd sn sub ab col dd k0 k1 k2 k3 k5 newId,K.lookup C=some (excClassObj nm q C N bs bm hd sn sub ab col dd k0 k1 k2 k3 k5 newId)
 base:bm.contains (.type "BaseException")=true
theorem ExcC.any{K:Frag}{W C:Addr}(c:ExcC K W C):ExcAny K C (.ref W::fW):=by
 obtain ⟨nm,q,N,bs,sn,sub,ab,col,dd,k0,k1,k2,k3,k5,e⟩:=c.lk
 exact ⟨⟨_,_,_,_,_,_,_,_,_,_,_,_,_,_,_,_,e⟩,(uZ W).hasBase⟩
theorem aAA{M:Model}{A:Around}{E:Value->Shared->Prop}{K:Frag}{C W:Addr}{bmC bmW:List Value}{s:Shared}{e:Addr}{oe:Obj}{Q:Bool->Shared->Prop}(X:K.In s.heap)(c:ExcAny K C bmC)(w:ExcAny K W bmW)
  (he:s.heap.get? e=some oe) (hcls:oe.cls=.ref C) (hq:Q ((Value.ref C::bmC).contains (.ref W)) s):wpAny M A (excMatches (.ref e) (.ref W)) Q E s:=by
 obtain ⟨nm,q,N,bs,hd,sn,sub,ab,col,dd,k0,k1,k2,k3,k5,nid,lC⟩:=c.lk
 obtain ⟨nm',q',N',bs',hd',sn',sub',ab',col',dd',k0',k1',k2',k3',k5',nid',lW⟩:=w.lk
 have hC:=X _ _ lC
 have hW:=X _ _ lW
 have hcB:(Value.ref W::bmW).contains (.type "BaseException")=true:=by rw[List.contains_cons,w.base,Bool.or_true]
 have f:=tc_notTuple
 obtain ⟨hp,g,d,t,os⟩:=s
 unfold excMatches
 repeat (first|(with_reducible refine wpAny_loadPart_at he ?_;rw[hcls])|with_reducible refine wpAny_loadPart_at hW ?_|(with_reducible refine wpAny_isSubtype_exc hW ?_;rw[hcB])|with_reducible refine wpAny_isSubtype_exc hC ?_|wp_step)
 cases hb:(Value.ref C::bmC).contains (.ref W)<;>(rw[hb] at hq;wp_walk;exact hq)
end SX
namespace L2
open PySem PySem.Spec PyProof.Rows
abbrev Cx.pnw(X:Cx)(pn:List (Addr×Obj)):Cx:={X with pn:=pn}
noncomputable abbrev Cx.inH(X:Cx)(e:Addr):Cx:={X with A:=X.A.mark (some (.ref e)),calm:=false,xe:=fun _ _=>False}
section
variable{X:Cx}{pins:List (Addr×Obj)}{σ:St}{H:Hp}{s:Shared}{e:Addr}
theorem Cx.Ok.pnw{X:Cx}(ok:X.Ok)(pn:List (Addr×Obj)):(X.pnw pn).Ok:=
 ⟨ok.mod,ok.kind,ok.glob,ok.blt,ok.above,ok.inj,ok.has,ok.cab,ok.hd,ok.frames,ok.stk,ok.exf,ok.bs,ok.bsz,ok.noex,ok.exfs,ok.funs,ok.frf⟩
theorem Cx.Ok.unpn{X:Cx}{pn:List (Addr×Obj)}(ok:(X.pnw pn).Ok):X.Ok:=
 ⟨ok.mod,ok.kind,ok.glob,ok.blt,ok.above,ok.inj,ok.has,ok.cab,ok.hd,ok.frames,ok.stk,ok.exf,ok.bs,ok.bsz,ok.noex,ok.exfs,ok.funs,ok.frf⟩
theorem Inv.toPn(I:Inv X pins σ H s):Inv (X.pnw (X.pn++pins)) [] σ H s:=
 ⟨I.ok.pnw _,I.os,I.bare,I.base,I.loc,I.cell,I.free,I.freeC,fun p hp=>I.pin p (by
  have z:p∈(X.pn++pins)++[]:=hp
  rw[List.append_nil] at z
  exact z),I.hok,I.len⟩
theorem Inv.ofPn{pl:List (Addr×Obj)}(I:Inv (X.pnw (X.pn++pins)) pl σ H s):Inv X pins σ H s:=
 ⟨I.ok.unpn,I.os,I.bare,I.base,I.loc,I.cell,I.free,I.freeC,fun p hp=>I.pin p (List.mem_append_left _ hp),I.hok,I.len⟩
theorem SP.ofPn{pl:List (Addr×Obj)}{E:Value->Shared->Prop}{D:iP}{f:Flow}{s':Shared}(h:SP ((X.pnw (X.pn++pins)).wish E) pl D f s'):SP X pins D f s':=by
 cases f with
 | next=>obtain ⟨a,b,c,d⟩:=h;exact ⟨a,b,c.unwish.ofPn,d⟩
 | brk=>obtain ⟨a,b,c,d⟩:=h;exact ⟨a,b,c.unwish.ofPn,d⟩
 | cont=>obtain ⟨a,b,c,d⟩:=h;exact ⟨a,b,c.unwish.ofPn,d⟩
 | ret u=>obtain ⟨v,a,b,c,d⟩:=h;exact ⟨v,a,b,c.unwish.ofPn,d⟩
theorem Cx.Ok.inH{X:Cx}(ok:X.Ok)(e:Addr):(X.inH e).Ok:=
 ⟨ok.mod,ok.kind,ok.glob,ok.blt,ok.above,ok.inj,ok.has,ok.cab,(fun z=>nomatch z),ok.frames,ok.stk,ok.exf,ok.bs,ok.bsz,ok.noex,ok.exfs,ok.funs,ok.frf⟩
theorem Inv.inH(I:Inv X pins σ H s)(e:Addr):Inv (X.inH e) pins σ H s:=
 ⟨I.ok.inH e,I.os,I.bare,I.base,I.loc,I.cell,I.free,I.freeC,I.pin,I.hok,I.len⟩
theorem Inv.ofH(ok:X.Ok)(I:Inv (X.inH e) pins σ H s):Inv X pins σ H s:=
 ⟨ok,I.os,I.bare,I.base,I.loc,I.cell,I.free,I.freeC,I.pin,I.hok,I.len⟩
theorem m4{i:Nat}{n:Str}{hpos:Pos}{Q:Unit->Shared->Prop}{M:Model}{A:Around}{E':Value->Shared->Prop}(I:Inv X pins σ H s)(hN:X.N.Nodup)(hi:X.N[i]? = some n)(hk:X.env.kindOf n=some .local)
  (h:∀ s',Inv X pins (σ.set i none) H s'->Q () s'):wpAny M A (do bindName X.env n .none;unbindBehindTheSuite X.env n hpos) Q E' s:=by
 obtain ⟨m,hn,hl⟩:=id I.loc
 have hcls:(X.env.scope.kind == .class || (X.env.scope.kind == .module && X.env.locals != X.env.globals))=false:=by rw[I.ok.kind];rfl
 refine wpAny_nameGoes_keeps hk hn hcls fun h' v hn' hs=>h _ ?_
 obtain ⟨oL,_,_,hoL,_⟩:=id hn
 have neL:∀ b o,X.s₀.heap.get? b=some o->b≠X.env.locals:=fun b o e=>Nat.ne_of_lt (Nat.lt_of_lt_of_le (Heap.lt_size e) I.ok.above)
 refine ⟨I.ok,I.os,I.bare,⟨fun b o e n hb hx=>(hs.2 b (neL b o e)).trans (I.base.keep b o e n hb hx),fun b o e n hb hx=>?_,I.base.free,fun b o e hx=>?_,I.base.tups,I.base.frzs,I.base.tbls⟩,⟨_,hn',fun j y v' e1 e2 e3=>?_⟩,fun y c e=>?_,I.free,I.freeC,fun p hp=>?_,fun b ob e=>?_,by simpa using I.len⟩
 ·obtain ⟨sl,e1⟩:=I.base.slot b o e n hb hx
  exact ⟨sl,(hs.2 b (neL b o e)).trans e1⟩
 ·obtain ⟨o',e1⟩:=I.base.there b o e hx
  exact ⟨o',(hs.2 b (neL b o e)).trans e1⟩
 ·by_cases hj:j=i
  ·subst hj
   have hiσ:j < σ.length:=by rw[I.len];exact (List.getElem?_eq_some_iff.mp hi).1
   rw[List.getElem?_set_self hiσ] at e2;cases e2
  ·rw[List.getElem?_set_ne (Ne.symm hj)] at e2
   obtain ⟨u',r',q⟩:=hl j y v' e1 e2 e3
   refine ⟨u',r',?_⟩
   rcases q with ⟨k,e⟩|⟨k,c,e,z⟩
   ·refine .inl ⟨k,?_⟩
    have:y≠n:=fun e=>hj (rZ hN e1 (e▸hi))
    simp[this,e]
   ·exact .inr ⟨k,c,e,z.sameBut hs (I.cne y c e)⟩
 ·obtain ⟨w',z⟩:=I.cell y c e
  exact ⟨w',z.sameBut hs (I.cne y c e)⟩
 ·obtain ⟨e,n,ne,nf,d⟩:=I.pin p hp
  exact ⟨(hs.2 p.1 ne).trans e,n,ne,nf,d⟩
 ·refine (I.hok b ob e).stay (fun c w' hc q=>(hs.2 c ?_).trans q) (fun _ q=>q) (fun _ _ q=>q) fun _ _ q=>q
  rintro rfl
  rcases hc with hc|hc
  ·rw[<-hc,I.free] at e;cases e
  ·rw[I.free] at hc;cases hc
end
end L2
namespace L2
open PySem PySem.Spec PyProof.Rows
section
variable{X:Cx}
theorem pT(hc:X.calm=true):eX X (.builtin "all") (fun xs H Q=>∃ (a:Addr) (bs:List Bool),xs=[.ref a]/\SqL X.K H a (bs.map V.bl)/\Q (.bl (bs.all id)) H):=by
 intro pins s σ H xs us Q I r h
 obtain ⟨a,bs,rfl,hq,q⟩:=h
 obtain ⟨u,rfl,ru⟩:=iV r
 cases (show u=Value.ref a from ru)
 obtain ⟨its,rv,p,hz⟩:=I.list hq
 have hl:its.length=bs.length:=by rw[<-rv.length,List.length_map]
 refine call_all_walk (wpAny_pyIter_list p.isList ?_)
 have ne:a≠s.heap.objs.size:=by
  obtain ⟨o,e,_⟩:=p.isList
  exact Nat.ne_of_lt (Heap.lt_size e)
 refine ⟨_,_,_,_,_,_,fun i=>bs.getD i true,rfl,Walks.list (show X.A.in1.handled=none from I.ok.hd hc) s.heap.objs.size a ne its.toArray,⟨⟨_,Heap.get?_push_size _ rfl,rfl,rfl⟩,p.isList.at fun o e=>Heap.get?_push_of_some _ e⟩,?_,?_⟩
 ·intro i v s' Q' E' hP hQ
  have hP:its.toArray[i]? = some v:=hP
  have hi:its[i]? = some v:=by simpa using hP
  have hlt:i < bs.length:=by rw[<-hl];exact (List.getElem?_eq_some_iff.mp hi).1
  have hb:(bs.map V.bl)[i]? = some (V.bl bs[i]):=by simp[hlt]
  obtain ⟨u',hu,ru'⟩:=rv.get hb
  rw[hi] at hu;cases hu
  cases (show v=Value.bool bs[i] from ru')
  refine wpAny_truthy_bool ?_
  have e:bs.getD i true=bs[i]:=by rw[List.getD_eq_getElem?_getD,List.getElem?_eq_getElem hlt];rfl
  rw[<-e];exact hQ
 ·intro h' tk kp
  have e:(List.range its.toArray.size).all (fun i=>bs.getD i true)=bs.all id:=by
   rw[List.size_toArray,hl,Bool.eq_iff_iff,List.all_eq_true,List.all_eq_true]
   constructor
   ·intro h x hx
    obtain ⟨i,hi,rfl⟩:=List.mem_iff_getElem.mp hx
    have:=h i (List.mem_range.mpr hi)
    rw[List.getD_eq_getElem?_getD,List.getElem?_eq_getElem hi] at this
    exact this
   ·intro h i hi
    have hi:=List.mem_range.mp hi
    rw[List.getD_eq_getElem?_getD,List.getElem?_eq_getElem hi]
    exact h _ (List.getElem_mem hi)
  rw[e]
  refine ⟨.bl _,H,?_,rfl,q⟩
  exact I.kept (t':=tk) fun b o e=>kp b o (fun z=>by
   have:=Heap.lt_size e
   rw[List.mem_singleton.mp z] at this
   exact Nat.lt_irrefl _ this) (Heap.get?_push_of_some _ e)
end
end L2
namespace L2
open PySem PySem.Spec PyProof.Rows
structure Blt(mg:Str->Option Value):Prop where
 b_len:mg "len"=none
 b_isinstance:mg "isinstance"=none
 b_all:mg "all"=none
 b_max:mg "max"=none
 b_min:mg "min"=none
 b_int:mg "int"=none
 b_str:mg "str"=none
 b_bool:mg "bool"=none
 b_tuple:mg "tuple"=none
 b_list:mg "list"=none
 b_range:mg "range"=none
 b_enumerate:mg "enumerate"=none
 b_ValueError:mg "ValueError"=none
structure DefAt(K:Frag)(mg:Str->Option Value)(x:Str)(st:Stmt)(ps:List Str):Prop where
 ex:∃ f fd,Fun K x x st f fd/\iC K fd ps []/\mg x=some (.ref f)
def Calls(P:Program)(w:World)(K:Frag)(mg:Str->Option Value)(base:Heap)(CX:CXT)(k:Nat)(x:Str)(ps:List Str)(sp:Sp):Prop:=
 ∃ f fd,FnOk P w K mg base CX k f fd ps sp/\iC K fd ps []/\mg x=some (.ref f)/\PySem.W.keepIn K (.ref f)=true
section
variable{P:Program}{w:World}{K:Frag}{mg:Str->Option Value}{base:Heap}{x:Str}{st:Stmt}{N ps:List Str}{k:Nat}{sp:Sp}
theorem DefAt.ok(D:DefAt K mg x st ps)(S:FnScope N ps (aO st))(len:∀ vs H Q E,sp vs H Q E->vs.length=ps.length)
  (hbody:∀ (f:Addr) (cdv:Value) (A:Around) (outer:List Env) (s:Shared) (H:Hp) (vs:List V) (Q:VK) (E:XK),Room k (A.deeper (envOfC x (aO st) s.heap.objs.size f cdv))->sp vs H Q E->
   ∃ t,PSs (iO CX0 P w K mg base N x (aO st) f cdv A outer s H E).nox (dH st) t/\t {nx:=fun _ H'=>Q .non H',rt:=Q} (start N vs) H):Calls P w K mg base CX0 (k+1) x ps sp:=by
 obtain ⟨f,fd,F,b,m⟩:=D.ex
 exact ⟨f,fd,F.ok S len (hbody f),b,m,F.kp⟩
theorem DefAt.okX(D:DefAt K mg x st ps)(S:FnScope N ps (aO st))(len:∀ vs H Q E,sp vs H Q E->vs.length=ps.length)
  (hbody:∀ (f:Addr) (cdv:Value) (A:Around) (outer:List Env) (s:Shared) (H:Hp) (vs:List V) (Q:VK) (E:XK),Room k (A.deeper (envOfC x (aO st) s.heap.objs.size f cdv))->sp vs H Q E->
   ∃ t,PSs ((iO (CXe P w) P w K mg base N x (aO st) f cdv A outer s H E).fly E) (dH st) t/\t {nx:=fun _ H'=>Q .non H',rt:=Q} (start N vs) H):Calls P w K mg base (CXe P w) (k+1) x ps sp:=by
 obtain ⟨f,fd,F,b,m⟩:=D.ex
 exact ⟨f,fd,F.okX S len (hbody f),b,m,F.kp⟩
theorem Calls.imp{CX:CXT}{sp':Sp}(C:Calls P w K mg base CX k x ps sp)(h:∀ vs H Q E,sp' vs H Q E->sp vs H Q E):Calls P w K mg base CX k x ps sp':=by
 obtain ⟨f,fd,F,b,m,kp⟩:=C
 exact ⟨f,fd,F.imp h,b,m,kp⟩
end
section
variable{X:Cx}{CX:CXT}{k:Nat}{x:Str}{ps:List Str}{sp:Sp}{E:XK}{p pos:Pos}{e:Expr}{es:List Expr}{t:TA}
theorem bY(C:Calls X.prog X.w X.K X.mg X.base CX k x ps sp)(hr:Room k X.A)(hg:Gl X x)(hx:pQ CX X E)(ha:PA X (e::es) t)(hdb:(x == ("__debug__":Str))=false:=by decide)
  (he:starEach (e::es) X.env=(false,eval e X.env)::starEach es X.env:=by rfl) (hpl:(backTo pos (starEach es X.env)).any (·.1)=false:=by rfl):PE X (.Call (.Name x p) (e::es) [] pos) (mY sp [] E t):=by
 obtain ⟨f,fd,F,b,m,kp⟩:=C
 exact aIG F hr hg m kp b .nil hx ha hdb he hpl
end
def spI(C:Addr)(fs:List Str):Sp:=fun vs H Q _=>∃ e xs,vs=.ref e::xs/\xs.length=fs.length/\H e=some (ExN e C none)/\∀ d,H d=none->d≠e->Q .non (upd (upd H e (ExN e C (some d))) d (.xd (fs.zip xs)))
structure ErrAt(P:Program)(w:World)(K:Frag)(mg:Str->Option Value)(base:Heap)(x:Str)(fs:List Str)(W C:Addr):Prop where
 c:SX.ExcC K W C
 m:mg x=some (.ref C)
 na:∀ f∈fs,PySem.W.findIn K (.ref C) f=some none
 i:∃ fI fdI,FnOk P w K mg base CX0 1 fI fdI ("self"::fs) (spI C fs)/\PySem.W.findIn K (.ref C) "__init__"=some (some (.ref fI))/\PySem.W.typeIn K (.ref fI)=some (.type "function")/\iC K fdI ("self"::fs) []
theorem aF0{H:Hp}{a b:Addr}{o u:HO}(h:a≠b):upd (upd H a o) b u=upd (upd H b u) a o:=by
 funext c
 unfold upd
 by_cases h1:c=a
 · subst h1; rw [if_neg h, if_pos rfl, if_pos rfl]
 · rw [if_neg h1, if_neg h1]
theorem aDZ{X:Cx}{E:XK}{fs:List Str}{W C:Addr}{x:Str}{np cpos pos:Pos}{e0:Expr}{rest:List Expr}{ta:TA}(hc:X.calm=true)(er:ErrAt X.prog X.w X.K X.mg X.base x fs W C)(hg:Gl X x)(hr:Room 2 X.A)(ha:PA (X.fly E) (e0::rest) ta)
  (hdb:(x == ("__debug__":Str))=false:=by decide) (he:starEach (e0::rest) X.env=(false,eval e0 X.env)::starEach rest X.env:=by rfl) (hpl:(backTo cpos (starEach rest X.env)).any (·.1)=false:=by rfl) :
  PS (X.fly E) (.Raise (some (.Call (.Name x np) (e0::rest) [] cpos)) none pos) (x9 C (spI C fs) E ta):=by
 obtain ⟨fI,fdI,FI,hi,hf,hb⟩:=er.i
 exact sC hc er.c hg er.m FI hi hf hb hr ha hdb he hpl
theorem aCD{C:Addr}{fs:List Str}{vs:List V}{E:XK}{H1:Hp}(hl:vs.length=fs.length)(hz:vs.length<=1000)
  (h:∀ e d,H1 e=none->H1 d=none->d≠e->E (.ref C) (some e) (upd (upd H1 e (ExO e C (some d))) d (.xd (fs.zip vs)))) :
  vs.length<=1000/\∀ e,H1 e=none->spI C fs (.ref e::vs) (upd H1 e (ExN e C none)) (fun v H2=>v=.non/\∃ od,H2 e=some (ExN e C od)/\E (.ref C) (some e) (upd H2 e (ExO e C od))) E0:=by
 refine ⟨hz,fun e he=>⟨e,vs,rfl,hl,aT,fun d hd hde=>⟨rfl,some d,?_,?_⟩⟩⟩
 ·rw[aH (Ne.symm hde),aT]
 ·have hd':H1 d=none:=by rw[aH hde] at hd;exact hd
  have:=h e d he hd' hde
  rw[qS,aF0 (a:=d) (b:=e) hde,qS]
  exact this
theorem DatV.tup_of{K:Frag}{H:Hp}{v:V}{ds:List PyData}(h:DatV K H v (.tuple ds)):∃ a xs,v=.ref a/\SqT K H a xs/\DatVs K H xs ds:=by
 cases h with
 | tup h1 h2=>exact ⟨_,_,rfl,h1,h2⟩
theorem DatV.lst_of{K:Frag}{H:Hp}{v:V}{ds:List PyData}(h:DatV K H v (.list ds)):∃ a xs,v=.ref a/\SqL K H a xs/\DatVs K H xs ds:=by
 cases h with
 | lst h1 h2=>exact ⟨_,_,rfl,h1,h2⟩
theorem DatV.int_of{K:Frag}{H:Hp}{v:V}{i:Int}(h:DatV K H v (.int i)):v=.int i:=by cases h;rfl
theorem DatV.str_of{K:Frag}{H:Hp}{v:V}{i:Str}(h:DatV K H v (.str i)):v=.str i:=by cases h;rfl
theorem DatVs.cons_of{K:Frag}{H:Hp}{xs:List V}{d:PyData}{ds:List PyData}(h:DatVs K H xs (d::ds)):∃ x t,xs=x::t/\DatV K H x d/\DatVs K H t ds:=by
 cases h with
 | cons h1 h2=>exact ⟨_,_,rfl,h1,h2⟩
theorem DatVs.nil_of{K:Frag}{H:Hp}{xs:List V}(h:DatVs K H xs []):xs=[]:=by cases h;rfl
theorem dE.nil:dE [] []:=⟨rfl,fun _ _ h=>by simp at h⟩
theorem dE.own{τ ρ:St}{u:Option V}(h:dE τ ρ):dE (none::τ) (u::ρ):=⟨by simp[h.1],fun i v e=>by
 cases i with
 | zero=>simp at e
 | succ i=>simpa using h.2 i v (by simpa using e)⟩
theorem dE.nil_of{σ:St}(h:dE [] σ):σ=[]:=List.length_eq_zero_iff.mp h.1
def SqS(K:Frag)(H:Hp)(a:Addr)(xs:List V):Prop:=SqL K H a xs\/SqT K H a xs
theorem SqS.same{K:Frag}{H H':Hp}{a:Addr}{xs:List V}(e:aM H H')(h:SqS K H a xs):SqS K H' a xs:=h.imp (SqL.same e) (SqT.same e)
theorem PI.or{X:Cx}{tg iter:Expr}{w1 w2:TI}(h1:PI X tg iter w1)(h2:PI X tg iter w2):PI X tg iter (fun σ H R=>w1 σ H R\/w2 σ H R):=fun pins s σ H R I h=>h.elim (h1 pins s σ H R I) (h2 pins s σ H R I)
def aOV(K:Frag)(tl:TE):TI:=fun σ H R=>tl σ H fun x H1=>∃ a,x=.ref a/\(((∃ xs,SqL K H1 a xs)/\R (Itl K a) H1)\/((∃ xs,SqT K H1 a xs)/\R (Itt K a) H1))
theorem aD0{X:Cx}{tg l:Expr}{tl:TE}(hl:PE X l tl):PI X tg l (aOV X.K tl):=by
 intro pins s σ H R I h
 refine thn (hl pins s σ H _ I h) fun v s1 zz0=>?_
 obtain ⟨x,H1,I1,r1,q1⟩:=zz0
 obtain ⟨a,e,q⟩:=q1
 subst e
 cases r1
 rcases q with ⟨⟨xs,hq⟩,q⟩|⟨⟨xs,hq⟩,q⟩
 ·obtain ⟨its,rv,p,hz⟩:=I1.list hq
  refine wpAny_pyIter_list p.isList ?_
  refine ⟨s1.heap.objs.size,[s1.heap.objs.size],_,_,H1,rfl,I1.kept (t':=s1.toks) fun b o e=>Heap.get?_push_of_some _ e,aDK a _,⟨_,Heap.get?_push_size _ rfl,rfl,rfl⟩,fun b hb=>?_,q⟩
  obtain rfl:=List.mem_singleton.mp hb
  exact I1.fpOk (Nat.le_refl _) (I1.hok.fresh (Nat.le_refl _))
 ·obtain ⟨its,rv,p,hz⟩:=I1.tuple hq
  refine wpAny_pyIter_tuple (show s1.heap.IsTuple a its.toArray from p) ?_
  refine ⟨s1.heap.objs.size,[s1.heap.objs.size],_,_,H1,rfl,I1.kept (t':=s1.toks) fun b o e=>Heap.get?_push_of_some _ e,aB0 a _,⟨_,Heap.get?_push_size _ rfl,rfl,rfl⟩,fun b hb=>?_,q⟩
  obtain rfl:=List.mem_singleton.mp hb
  exact I1.fpOk (Nat.le_refl _) (I1.hok.fresh (Nat.le_refl _))
end L2
namespace L2
open PySem PySem.Spec PyProof.Rows
def aNM(i j:Int):Prop:=0 < j/\j < 2 ^ 64
theorem aF1{X:Cx}:OpR X (binaryOp .FloorDiv) (rI aNM fun i j=>.int (i / j)):=opI fun i j _ _ _ _ _ hc q=>by
 have h1:(0:Int) < j:=hc.1
 have h2:j < 2 ^ 64:=hc.2
 have h3:j.natAbs < 2 ^ 64:=by omega
 have h4:j.natAbs.log2 < 64:=(Nat.log2_lt (by omega)).mpr h3
 exact floordiv_int (by omega) (by rw[Int.fdiv_eq_ediv_of_nonneg i (by omega)];exact q) (.inl (PyProof.noPylong_of_log2 (by omega)))
theorem jQ{X:Cx}{P:Program}{w:World}:pQ (CXe P w) X E0:=by
 rintro pins σ H s ev s' I ⟨e,C,od,H',rfl,os,bare,un,hok,he,hv,q⟩
 exact q.elim
section
variable{X:Cx}
def aOW:V->Option Int->Option Int->Hp->VK->Prop:=fun x lo hi H Q=>∃ z,x=.str z/\z.length<=sizeLine/\Q (.str (Txt.slice z lo hi)) H
theorem aAP{v:Value}{o:Option Int}(h:IsPart v o):∃ l:Option (Int×Tok),partValue l=v/\l.map (·.1)=o:=by
 cases h with
 | none=>exact ⟨none,rfl,rfl⟩
 | int i t=>exact ⟨some (i,t),rfl,rfl⟩
theorem aLC:SlR X aOW:=by
 intro pins s σ H x v vl vu lo hi sl Q I rx hs pl pu h
 obtain ⟨z,rfl,hz,q⟩:=h
 obtain ⟨t,rfl⟩:=rx
 obtain ⟨l,rfl,el⟩:=aAP pl
 obtain ⟨u,rfl,eu⟩:=aAP pu
 obtain ⟨o,ho,hc,hd⟩:=hs
 refine ⟨"str",_,PyProof.Rows.slot_str_getitem.lookup,rfl,?_⟩
 refine wpAny_getItem_str_slice (l:=l) (u:=u) (st:=none) ⟨o,ho,hc,hd⟩ rfl ?_
 have le:=Txt.slice_le z lo hi
 unfold Txt.slice at q le
 unfold sliceMade slicePicked
 rw[el,eu]
 simp only[beq_self_eq_true,Bool.true_and,Option.map_none,Option.getD_none] at q le ⊢
 by_cases hb:((Builtin.Str.strSliceIndices lo hi 1 z.length).length == z.length)=true
 ·rw[if_pos hb] at q ⊢
  exact ⟨.str z,H,I,⟨t,rfl⟩,q⟩
 ·rw[if_neg hb] at q le ⊢
  exact ⟨Nat.le_trans le hz,.str _,H,I.tok _,⟨_,rfl⟩,q⟩
def aD1:V->List V->Hp->VK->Prop:=fun x vs H Q=>∃ z y i rest,x=.str z/\vs=[.str y]/\Builtin.Str.occurrences z y 0 z.length 1=i::rest/\Q (.int i) H
theorem yA:MtR X "str.index" aD1:=by
 intro pins s σ H x vs v us Q I rx rv h
 obtain ⟨z,y,i,rest,rfl,rfl,ho,q⟩:=h
 obtain ⟨t,rfl⟩:=rx
 obtain ⟨u,rfl,tu,rfl⟩:=rv.one
 exact call_gives F.slot_str_index rfl F.entry_str_index (F.args_str_index_2 _ _) (gives_str_index z y t tu i rest ho) ⟨.int i,H,I.tok _,⟨_,rfl⟩,q⟩
def Ity(z:Str):It:=
 ⟨fun i _=>i < z.cps.size,fun i H x H'=>∃ p c,H p=none/\x=.ref p/\H'=upd H p (.tup [.int i,.str ⟨#[c]⟩])/\z.cps[i]? = some c,fun i _=>i=z.cps.size⟩
theorem aCE{P:Program}{w:World}{K:Frag}{es:List Expr}{k1}{tpos:Pos}(z:Str)(t:Tok)(T:String)(hT:∀ A:Around,A.handled=none->∀ it,Draws P w A it [it] z.cps.size (fun i v=>∃ c u,z.cps[i]? = some c/\v=Value.str {cps:=#[c]} u) fun i h=>h.IsStrIter it T z t i)
  (e it:Addr) (hei:e≠it):Turn P w K (.Tuple es k1 tpos) (Ity z) [e,it] e (fun i h=>(∃ old,IsEnum h e it i old)/\h.IsStrIter it T z t i) where
 mem:=by simp
 obj:=fun i h st b hb=>by
  obtain ⟨⟨old,s1⟩,o,e2,c,d⟩:=st
  rcases List.mem_cons.mp hb with z|z
  ·subst z
   exact ⟨_,s1,fun v z=>by
    have z':Data.fields _=Data.cell v:=z
    cases z'⟩
  ·obtain rfl:b=it:=by simpa using z
   exact ⟨o,e2,fun v z=>by rw[d] at z;cases z⟩
 keep:=fun i h h' st k=>by
  obtain ⟨⟨old,s1⟩,o,e2,c,d⟩:=st
  exact ⟨⟨old,k e (by simp) _ s1⟩,o,k it (by simp) o e2,c,d⟩
 item:=by
  intro X hP hw hK hc i pins s σ H E I hf st hg
  subst hP hw hK
  obtain ⟨⟨old,s1⟩,s2⟩:=st
  obtain ⟨f0,f1,f2,f3,f4,f5⟩:=hf e (by simp)
  obtain ⟨g0,g1,g2,g3,g4,g5⟩:=hf it (by simp)
  refine wpAny_pyNext_enum_itemD (hT X.A.in1 (I.ok.hd hc) it) s1 s2 hg hei (by simpa using hei) fun u h' tk zz0 so si st hz' kp=>?_
  obtain ⟨c,tc,hcc,hu⟩:=zz0
  subst hu
  refine ⟨_,rfl,wpAny_letOwnedTupleGo_enum so fun h2 se sb=>?_⟩
  have ne1:s.heap.objs.size≠e:=Nat.ne_of_gt (Heap.lt_size s1)
  have hT2:h2.get? s.heap.objs.size=some {cls:=.type "tuple",data:=.seq #[.int i tk,.str ⟨#[c]⟩ tc]}:=(sb.2 _ ne1).trans st
  have fT:H s.heap.objs.size=none:=I.hok.fresh (Nat.le_refl _)
  have kp2:∀ b o,b≠e->b≠it->s.heap.get? b=some o->h2.get? b=some o:=fun b o h1 h2' q=>(sb.2 b h1).trans (kp b o h1 h2' q)
  have hok2:HOk X.prog X.w H h2:=fun b uu q=>by
   refine (I.hok b uu q).stay (fun c v hc q'=>kp2 c v ?_ ?_ q') (fun _ q=>q) (fun _ _ q=>q) fun _ _ q=>q
   ·rcases hc with z|z
    ·rw[z];exact fun zz=>by rw[zz,f0] at q;cases q
    ·exact fun zz=>by rw[zz,f0] at z;cases z
   ·rcases hc with z|z
    ·rw[z];exact fun zz=>by rw[zz,g0] at q;cases q
    ·exact fun zz=>by rw[zz,g0] at z;cases z
  have hokT:HOk X.prog X.w (upd H s.heap.objs.size (.tup [.int i,.str ⟨#[c]⟩])) h2:=HOk.track hok2 fT ⟨by show 2<=sizeLine;decide,[.int i tk,.str ⟨#[c]⟩ tc],.cons ⟨_,rfl⟩ (.cons ⟨_,rfl⟩ .nil),⟨_,hT2,⟨rfl,rfl⟩,_,rfl⟩⟩
  have ltT:∀ b uu,H b=some uu->b≠s.heap.objs.size:=fun b uu q=>bS q fT
  have I2:Inv X pins σ (upd H s.heap.objs.size (.tup [.int i,.str ⟨#[c]⟩])) {s with heap:=h2,gens:=s.gens,drawn:=s.drawn,toks:=tk+1}:=by
   refine I.step (ch:=[e,it]) (fun b hb=>?_) (fun b o _ _ hc q _=>kp2 b o (fun z=>hc (by simp[z])) (fun z=>hc (by simp[z])) q) (fun b o _ _ hc q _=>⟨o.slots,kp2 b o (fun z=>hc (by simp[z])) (fun z=>hc (by simp[z])) q⟩)
    (fun b o _ q n=>by rw[aH (Nat.ne_of_lt (Heap.lt_size q))];exact n) (fun b o hc q=>⟨o,kp2 b o (fun z=>hc (by simp[z])) (fun z=>hc (by simp[z])) q⟩) (fun b ys q=>by rw[aH (ltT b _ q)];exact q) (fun b o uu q=>by rw[aH (ltT b _ q)];exact q)
    (fun b ps q=>by rw[aH (ltT b _ q)];exact q) (fun m hm=>?_) hokT I.bare
   ·rcases List.mem_cons.mp hb with z|z
    ·subst z;exact ⟨f3,f1,f4,f5⟩
    ·obtain rfl:b=it:=by simpa using z
     exact ⟨g3,g1,g4,g5⟩
   ·obtain ⟨o,es',ep,ho,r⟩:=hm
    exact ⟨o,es',ep,kp2 _ o (Ne.symm f1) (Ne.symm g1) ho,r⟩
  refine ⟨.ref s.heap.objs.size,_,I2,rfl,⟨_,c,fT,rfl,rfl,hcc⟩,⟨⟨_,by simpa using se⟩,?_⟩,fun b hb=>?_⟩
  ·obtain ⟨o,q1,q2,q3⟩:=si
   exact ⟨o,(sb.2 it hei.symm).trans q1,q2,q3⟩
  ·rcases List.mem_cons.mp hb with z|z
   ·subst z;rw[aH (Ne.symm ne1)];exact f0
   ·obtain rfl:b=it:=by simpa using z
    obtain ⟨o,q,_⟩:=s2
    rw[aH (Nat.ne_of_lt (Heap.lt_size q))];exact g0
 done:=by
  intro X hP hw hK hc i pins s σ H E I hf st hg
  subst hP hw hK
  obtain ⟨⟨old,s1⟩,s2⟩:=st
  obtain ⟨g0,g1,g2,g3,g4,g5⟩:=hf it (by simp)
  have hg:i=z.cps.size:=hg
  subst hg
  exact wpAny_pyNext_enum_endD (hT X.A.in1 (I.ok.hd hc) it) s1 s2 fun h' eb=>⟨rfl,I.turned (t':=s.toks) (fun b o hb q=>eb b o hb q) g0 g1 g3 g4 g5⟩
 self:=fun _ _ _ _ _ st h=>wpAny_pyIter_enum st.1.choose_spec h
def aD2(ta:TA):TI:=fun σ H R=>ta σ H fun vs H1=>∃ z,vs=[.str z]/\R (Ity z) H1
theorem aF2{es:List Expr}{k1}{tpos:Pos}{a:Expr}{ta:TA}{p pos:Pos}(hg:Gl X "enumerate")(hm:X.mg "enumerate"=none)(ha:PA X [a] ta)(hs:starEach [a] X.env=[(false,eval a X.env)]:=by rfl) :
  PI X (.Tuple es k1 tpos) (.Call (.Name "enumerate" p) [a] [] pos) (aD2 ta):=by
 intro pins s σ H R I h
 refine Call_ (nR I hg hm PyProof.Rows.boot_enumerate (PyProof.Rows.callWith_type1 (thn (ha pos pins s σ H _ I h) fun us s1 zz0=>?_) hs rfl))
 obtain ⟨vs,H1,I1,r1,q1⟩:=zz0
 obtain ⟨z,e,q⟩:=q1
 subst e
 obtain ⟨u,rfl,t,rfl⟩:=iV r1
 have hT:∀ A:Around,A.handled=none->∀ it,Draws X.prog X.w A it [it] z.cps.size (fun i v=>∃ c u,z.cps[i]? = some c/\v=Value.str {cps:=#[c]} u) fun i h=>h.IsStrIter it (strIterType z) z t i:=fun A hA it=>by
  unfold strIterType
  split
  · exact Draws.strAscii hA it z t
  · exact Draws.strWide hA it z t
 refine call_enumerate_str fun h' se si hz' kp=>?_
 have I2:Inv X pins σ H1 {s1 with heap:=h'}:=I1.kept (t':=s1.toks) kp
 refine wpAny_pyIter_enum se ?_
 refine ⟨s1.heap.objs.size+1,[s1.heap.objs.size+1,s1.heap.objs.size],_,_,H1,rfl,I2,aCE z t _ hT _ _ (Nat.ne_of_gt (Nat.lt_succ_self _)),⟨⟨_,se⟩,si⟩,fun b hb=>?_,q⟩
 rcases List.mem_cons.mp hb with z|z
 ·subst z
  exact I1.fpOk (Nat.le_succ _) (I1.hok.fresh (Nat.le_succ _))
 ·obtain rfl:b=s1.heap.objs.size:=by simpa using z
  exact I1.fpOk (Nat.le_refl _) (I1.hok.fresh (Nat.le_refl _))
def aOX(K:Frag):List V->Hp->VK->Prop:=fun xs H Q=>∃ (a W C d:Addr) (fs:List (Str×V)) (p:Addr) (as:List Addr) (b:Bool),xs=[.ref a,.ref p]/\SX.ExcC K W C/\H a=some (ExO a C (some d))/\H d=some (.xd fs)/\SqT K H p (as.map V.ref)/\PySem.W.kitAny K (.ref C) (as.map Value.ref)=some b/\Q (.bl b) H
theorem pU:∀ {as:List Addr} {us:List Value},bB (as.map V.ref) us->us=as.map Value.ref
 | [],_,.nil=>rfl
 | a::as,_,.cons r t=>by rw[pU t];cases r;rfl
theorem yB:eX X (.builtin "isinstance") (aOX X.K):=by
 intro pins s σ H xs us Q I r h
 obtain ⟨a,W,C,d,fs,p,as,b,rfl,cc,ea,ed,hp,e,q⟩:=h
 obtain ⟨u,v,rfl,ru,rv⟩:=s9 r
 cases (show u=Value.ref a from ru)
 cases (show v=Value.ref p from rv)
 obtain ⟨vs,hx⟩:=pS I.hok ea
 obtain ⟨mA,hns,r⟩:=(show b8 X.prog X.w H s.heap d (.xd fs) from I.hok d _ ed)
 obtain ⟨od,hod,_⟩:=mX hns
 obtain ⟨its,r1,ht,_⟩:=I.tuple hp
 obtain ⟨⟨oc,odt,odata,osl⟩,eo,hc,n,hdt⟩:=ht
 cases (show oc=.type "tuple" from hc)
 cases (show odata=.seq its.toArray n from hdt)
 rw[<-pU r1] at e
 exact PySem.W.kia_tup (SX.r9 (vs:=vs) (od:=some d) (o:=some od) cc) I.kIn ⟨hx,rfl,rfl,hod⟩ eo e (fun z=>nomatch z) fun tk=>⟨.bl b,H,I.tok _,rfl,q⟩
end
theorem yC{X:Cx}:eX X (.builtin "isinstance") (fun xs H Q=>∃ a ys c cv b,xs=[.ref a,c]/\SqT X.K H a ys/\u0 c=some cv/\PySem.W.kitOne X.K (.type "tuple") cv=some b/\Q (.bl b) H):=by
 intro pins s σ H xs us Q I r h
 obtain ⟨a,ys,c,cv,b,rfl,ha,hc,e,q⟩:=h
 obtain ⟨u,v,rfl,ru,rv⟩:=s9 r
 obtain rfl:=u1 hc rv
 cases (show u=Value.ref a from ru)
 obtain ⟨its,_,⟨o,h1,h2,_⟩,_⟩:=I.tuple ha
 exact PySem.W.kia_one PySem.W.kitx_tuple I.kIn ⟨o,h1,h2⟩ e (fun z=>nomatch z) fun tk=>⟨.bl b,H,I.tok _,rfl,q⟩
structure RoomH(k:Nat)(A:Around):Prop where
 dp:A.depth+3 * k+5 < recursionLimit
 un:A.units+16 * k+200 < cLine
theorem Room.h{k:Nat}{A:Around}(r:Room k A):RoomH k A:=⟨r.dp,r.un⟩
structure FnOkH(P:Program)(w:World)(K:Frag)(mg:Str->Option Value)(base:Heap)(k:Nat)(f:Addr)(fd:FuncData)(ps:List Str)(sp:Sp):Prop where
 len:∀ vs H Q E,sp vs H Q E->vs.length=ps.length
 run:∀ (A:Around) (outer:List Env) (s:Shared) (H:Hp) (args:Args) (us:List Value) (vs:List V) (Q:VK),RoomH k A->Env0 P w K mg base A outer s H->BindsTo s fd args (ps.zip us)->bB vs us->sp vs H Q E0->
  codeAny (model P w) A (.call (.ref f) args) (CR CX0 outer P w H s Q E0) s
theorem FnOkH.ok{P:Program}{w:World}{K:Frag}{mg:Str->Option Value}{base:Heap}{k:Nat}{f:Addr}{fd:FuncData}{ps:List Str}{sp:Sp}(F:FnOkH P w K mg base k f fd ps sp)(hE:∀ vs H Q E,sp vs H Q E->sp vs H Q E0):FnOk P w K mg base CX0 k f fd ps sp:=
 ⟨F.len,fun A outer s H args us vs Q E hr he hb hv hs=>codeAny_mono (F.run A outer s H args us vs Q hr.h he hb hv (hE _ _ _ _ hs)) fun r s' h=>by
  cases r with
  | error e=>exact h
  | ok fl=>cases fl<;>exact h⟩
end L2
namespace Mc
open PySem L2 PyProof.Rows
inductive Tn where
 | n (i:Int)|w (x:Str)
noncomputable def Tn.v:Tn->V
 | .n i=>.int i
 | .w x=>.str x
noncomputable def Tn.d:Tn->PyData
 | .n i=>.int i
 | .w x=>.str x
structure Rw where
 l:Tn
 c:List (Int×Int)
 r:Tn
def d6(c:Int×Int):PyData:=.tuple [.int c.1,.int c.2]
def d8(r:Rw):PyData:=.tuple [r.l.d,.tuple (r.c.map d6),r.r.d]
def bC(rs:List Rw):PyData:=.tuple (rs.map d8)
inductive CellsAt(K:Frag)(H:Hp):List V->List (Int×Int)->Prop
 | nil:CellsAt K H [] []
 | cons {q:Addr} {a b:Int} {xs:List V} {cs:List (Int×Int)} (h:SqS K H q [.int a,.int b]) (t:CellsAt K H xs cs):CellsAt K H (.ref q::xs) ((a,b)::cs)
def xG(K:Frag)(H:Hp)(v:V)(r:Rw):Prop:=∃ p b cs,v=.ref p/\SqS K H p [r.l.v,.ref b,r.r.v]/\SqS K H b cs/\CellsAt K H cs r.c
inductive RowsAt(K:Frag)(H:Hp):List V->List Rw->Prop
 | nil:RowsAt K H [] []
 | cons {v:V} {r:Rw} {xs:List V} {rs:List Rw} (h:xG K H v r) (t:RowsAt K H xs rs):RowsAt K H (v::xs) (r::rs)
section
variable{K:Frag}{H H':Hp}
theorem CellsAt.same(e:aM H H'):∀ {xs:List V} {cs:List (Int×Int)},CellsAt K H xs cs->CellsAt K H' xs cs
 | _,_,.nil=>.nil
 | _,_,.cons h t=>.cons (h.same e) (t.same e)
theorem CellsAt.len:∀ {xs:List V} {cs:List (Int×Int)},CellsAt K H xs cs->xs.length=cs.length
 | _,_,.nil=>rfl
 | _,_,.cons h t=>by simp[t.len]
theorem xG.same(e:aM H H'){v:V}{r:Rw}(h:xG K H v r):xG K H' v r:=by
 obtain ⟨p,b,cs,h1,h2,h3,h4⟩:=h
 exact ⟨p,b,cs,h1,h2.same e,h3.same e,h4.same e⟩
theorem RowsAt.same(e:aM H H'):∀ {xs:List V} {rs:List Rw},RowsAt K H xs rs->RowsAt K H' xs rs
 | _,_,.nil=>.nil
 | _,_,.cons h t=>.cons (h.same e) (t.same e)
theorem RowsAt.len:∀ {xs:List V} {rs:List Rw},RowsAt K H xs rs->xs.length=rs.length
 | _,_,.nil=>rfl
 | _,_,.cons h t=>by simp[t.len]
end
theorem nM:∀ {xs:List PyData},(∀ x∈xs,x.eqv x=true)->PyData.eqvAll xs xs=true
 | [],_=>by rw[PyData.eqvAll.eq_1]
 | x::t,h=>by rw[PyData.eqvAll.eq_2,h x (List.mem_cons_self ..),nM fun y hy=>h y (List.mem_cons_of_mem _ hy)];rfl
theorem nV{xs:List PyData}(h:∀ x∈xs,x.eqv x=true):(PyData.tuple xs).eqv (.tuple xs)=true:=by
 show PyData.eqvAll xs xs=true
 exact nM h
theorem aIS{xs:List PyData}(h:∀ x∈xs,x.eqv x=true):(PyData.list xs).eqv (.list xs)=true:=by
 show PyData.eqvAll xs xs=true
 exact nM h
theorem aAQ(i:Int):(PyData.int i).eqv (.int i)=true:=by rw[PyData.eqv.eq_5];simp
theorem aAR(i:Str):(PyData.str i).eqv (.str i)=true:=by rw[PyData.eqv.eq_6];simp
theorem aF3(c:Int×Int):(d6 c).eqv (d6 c)=true:=nV fun x hx=>by
 rcases List.mem_cons.mp hx with z|z
 · rw [z]; exact aAQ _
 · rw [List.mem_singleton.mp z]; exact aAQ _
noncomputable def Tn.ok:Tn->Prop
 | .n _=>True
 | .w x=>PyData.strOk x=true
def Rw.ok(r:Rw):Prop:=r.l.ok/\r.r.ok
theorem u2:∀ {xs:List PyData},(∀ x∈xs,x.canLay0=true)->PyData.canLayAll0 xs=true
 | [],_=>by rfl
 | x::t,h=>by
  show (x.canLay0 && PyData.canLayAll0 t)=true
  rw[h x (List.mem_cons_self ..),u2 fun y hy=>h y (List.mem_cons_of_mem _ hy)];rfl
theorem pV{n:Nat}:∀ {xs:List PyData},(∀ x∈xs,x.depth<=n)->PyData.depthAll xs<=n
 | [],_=>Nat.zero_le _
 | x::t,h=>by
  show max x.depth (PyData.depthAll t)<=n
  exact Nat.max_le.mpr ⟨h x (List.mem_cons_self ..),pV fun y hy=>h y (List.mem_cons_of_mem _ hy)⟩
def Sh(n:Nat)(d:PyData):Prop:=d.canLay0=true/\d.depth<=n
theorem fQ{n:Nat}{xs:List PyData}(h:∀ x∈xs,Sh n x):Sh (n+1) (.tuple xs):=⟨u2 fun x hx=>(h x hx).1,by
 have:=pV fun x hx=>(h x hx).2
 show PyData.depthAll xs+1<=n+1
 omega⟩
theorem sh_lst{n:Nat}{xs:List PyData}(h:∀ x∈xs,Sh n x):Sh (n+1) (.list xs):=⟨u2 fun x hx=>(h x hx).1,by
 have:=pV fun x hx=>(h x hx).2
 show PyData.depthAll xs+1<=n+1
 omega⟩
theorem nW(n:Nat)(i:Int):Sh n (.int i):=⟨rfl,Nat.zero_le _⟩
theorem aD3(n:Nat){x:Str}(h:PyData.strOk x=true):Sh n (.str x):=⟨h,Nat.zero_le _⟩
theorem Sh.shaped{n:Nat}{d:PyData}(h:Sh n d)(hn:n<=64):SeqAt.shaped d=true:=by
 show (d.canLay0 && decide (d.depth<=64))=true
 rw[h.1,decide_eq_true (Nat.le_trans h.2 hn)];rfl
section
variable{K:Frag}{H:Hp}{p q:Addr}{xs ys:List V}{o:HO}
inductive NoL:PyData->Prop where
 | int (i:Int):NoL (.int i)
 | str (i:Str):NoL (.str i)
 | tup {ds:List PyData} (h:∀ d∈ds,NoL d):NoL (.tuple ds)
end
section
variable{K:Frag}{H:Hp}
theorem cells_of:∀ {xs:List V} {cs:List (Int×Int)},DatVs K H xs (cs.map d6)->CellsAt K H xs cs
 | xs,[],h=>by obtain rfl:=h.nil_of;exact .nil
 | xs,c::cs,h=>by
  obtain ⟨x,t,rfl,h1,h2⟩:=h.cons_of
  obtain ⟨a,ys,rfl,h3,h4⟩:=h1.tup_of
  obtain ⟨y0,t0,rfl,h5,h6⟩:=h4.cons_of
  obtain ⟨y1,t1,rfl,h7,h8⟩:=h6.cons_of
  obtain rfl:=h8.nil_of
  obtain rfl:=h5.int_of
  obtain rfl:=h7.int_of
  exact .cons (.inr h3) (cells_of h2)
end
section
variable{K:Frag}{h:Heap}{mg:Str->Option Value}
theorem bX{x:Str}{st:Stmt}{ps:List Str}{f:Addr}{oc:Value}{od an:Option Addr}{osl:Array (Option Value)}{kV doc pm cdv ct:Value}(X:K.In h)(G:h.Ns mainGlobals mg)
  (a:PySem.W.nsIn K mainGlobals x=some (some (.ref f))) (l:K.lookup f=some ⟨oc,od,.func (PySem.W.fnOf x x (gH st) (dH st) (aO st) .none kV doc pm an cdv ct),osl⟩)
  (c:PySem.W.codeIn K cdv x=true) (k:PySem.W.keepIn K (.ref f)=true)
  (b:∀ (kV doc pm:Value) (an:Option Addr) (cdv ct:Value) (us:List Value),us.length=ps.length->bindArgs (PySem.W.fnOf x x (gH st) (dH st) (aO st) .none kV doc pm an cdv ct) ⟨us,[]⟩=pure (ps.zip us)):DefAt K mg x st ps:=by
 have F:=xY (st:=st) l c k
 exact ⟨f,_,F,F.binds b,PySem.W.mg_of X G a⟩
end
section
variable{K:Frag}{h:Heap}{mg:Str->Option Value}
theorem aAS{W C N:Addr}{bs sub:List Value}{nm q:Str}{ab:Bool}{sn:List Str}{col:Option Bool}{dd:Option Addr}{k0 k1 k2 k3 k5:Option Value}(l:K.lookup C=some (excClassObj nm q C N bs (.ref W::SX.fW) true sn sub ab col dd k0 k1 k2 k3 k5 "ValueError.__new__"))
 (sa:PySem.W.findIn K (.ref C) "__setattr__"=some (some (.builtin "object.__setattr__"))) (ga:PySem.W.findIn K (.ref C) "__getattribute__"=some (some (.builtin "BaseException.__getattribute__"))) (gh:PySem.W.findIn K (.ref C) "__getattr__"=some none) (cl:PySem.W.findIn K (.ref C) "__class__"=some (some (.builtin "object.__class__")))
 (clg:PySem.W.specialIn K (.builtin "object.__class__") "__get__"=some (some (.builtin "getset_descriptor.__get__"))) (clt:PySem.W.takesIn K (.builtin "object.__class__")=some true) (kp:PySem.W.keepIn K (.ref C)=true):SX.ExcC K W C:=⟨⟨_,_,_,_,_,_,_,_,_,_,_,_,_,_,l⟩,sa,ga,gh,cl,clg,clt,kp⟩
theorem u8{t:Value}{C:Addr}{cd:ClassData}{b:Bool}(h0:(t == Value.ref C)=false)(h1:PySem.W.clsIn K C=some cd)(h2:PySem.W.typeIn K (.ref C)=some (.type "type"))(h3:PySem.W.subIn K t (.ref C)=some b):PySem.W.kitOne K t (.ref C)=some b:=by
 unfold PySem.W.kitOne
 rw[h0,if_neg (by decide)]
 unfold PySem.W.kitCls
 simp only[h1,h2]
 rw[if_pos (by rfl)]
 exact h3
theorem aLD{t:Value}{T:String}{b:Bool}(h0:(t == Value.type T)=false)(h1:PySem.W.kitMeta T=true)(h3:PySem.W.subIn K t (.type T)=some b):PySem.W.kitOne K t (.type T)=some b:=by
 unfold PySem.W.kitOne
 rw[h0,if_neg (by decide)]
 unfold PySem.W.kitCls
 show (if PySem.W.kitMeta T=true then _ else _)=_
 rw[if_pos h1]
 exact h3
end
end Mc
namespace Mc
open PySem L2 PyProof.Rows
noncomputable def cP(n c:Nat):Bool:=decide (97<=c/\c < 97+n)
noncomputable def kO(n:Nat):Nat->List Nat->Option Nat
 | _,[]=>none
 | i,c::t=>if cP n c=true then kO n (i+1) t else some i
theorem tL(n i c:Nat)(t:List Nat):kO n i (c::t)=if cP n c=true then kO n (i+1) t else some i:=rfl
theorem occ_one(x:Str)(c:Nat):(Builtin.Str.occurrences x ⟨#[c]⟩ 0 x.length 1=[]/\∀ i:Nat,x.cps.toList[i]? ≠ some c)\/∃ (i:Nat) (r:List Nat),Builtin.Str.occurrences x ⟨#[c]⟩ 0 x.length 1=i::r/\x.cps.toList[i]? = some c/\∀ k:Nat,k < i->x.cps.toList[k]? ≠ some c:=by
 rcases StrLaws.occ_head x ⟨#[c]⟩ 1 (Nat.le_refl _) with ⟨h1,h2⟩|⟨i,r,h1,h2,h3⟩
 · exact .inl ⟨h1, fun i e => h2 i ((StrLaws.subAt_one x c i).mpr e)⟩
 · exact .inr ⟨i, r, h1, (StrLaws.subAt_one x c i).mp h2, fun k hk e => h3 k hk ((StrLaws.subAt_one x c k).mpr e)⟩
theorem aAT{n:Nat}(h1:1<=n)(h2:n<=3):(Txt.slice "abc" none (some (n:Int))).cps.toList=[97,98,99].take n:=by
 obtain rfl|rfl|rfl:n=1\/n=2\/n=3:=by omega
 all_goals decide +kernel
theorem m5{n c:Nat}(h1:1<=n)(h2:n<=3):cP n c=true↔∃ i:Nat,(([97,98,99]:List Nat).take n)[i]? = some c:=by
 unfold cP
 rw[decide_eq_true_iff]
 constructor
 ·intro h
  refine ⟨c - 97,?_⟩
  obtain rfl|rfl|rfl:n=1\/n=2\/n=3:=by omega
  ·obtain rfl:c=97:=by omega
   rfl
  ·obtain rfl|rfl:c=97\/c=98:=by omega
   all_goals rfl
  ·obtain rfl|rfl|rfl:c=97\/c=98\/c=99:=by omega
   all_goals rfl
 ·rintro ⟨i,e⟩
  obtain ⟨hi,he⟩:=List.getElem?_eq_some_iff.mp e
  have hm:=List.getElem_mem hi
  rw[he] at hm
  obtain rfl|rfl|rfl:n=1\/n=2\/n=3:=by omega
  all_goals
   simp at hm
   omega
theorem yD{n c:Nat}(h1:1<=n)(h2:n<=3):(!(!(Builtin.Str.occurrences (Txt.slice "abc" none (some (n:Int))) ⟨#[c]⟩ 0 (Txt.slice "abc" none (some (n:Int))).length 1).isEmpty)) = !cP n c:=by
 have e:=aAT h1 h2
 rcases occ_one (Txt.slice "abc" none (some (n:Int))) c with ⟨a,b⟩|⟨i,r,a,b,_⟩
 ·rw[a]
  have:cP n c=false:=Bool.eq_false_iff.mpr fun z=>by
   obtain ⟨i,hi⟩:=(m5 h1 h2).mp z
   rw[e] at b
   exact b i hi
  rw[this];rfl
 ·rw[a]
  rw[e] at b
  rw[(m5 h1 h2).mpr ⟨i,b⟩];rfl
theorem aD4{c:Nat}(h:cP 3 c=true):∃ r,Builtin.Str.occurrences "abc" ⟨#[c]⟩ 0 ("abc":Str).length 1=(c - 97)::r:=by
 have h:=of_decide_eq_true h
 refine ⟨[],?_⟩
 obtain rfl|rfl|rfl:c=97\/c=98\/c=99:=by omega
 all_goals decide +kernel
def eM(s q:Int):PyData:=.tuple [.int s,.int q]
def l8(f a:List PyData):PyData:=.tuple [.tuple f,.tuple a]
def jF(d:PyData):Prop:=d=.none\/∃ s q,d=eM s q
def aD5(n:Nat):List PyData:=(List.range n).map fun i:Nat=>eM 1 (i:Int)
def aD6(n:Nat):List PyData:=(List.range n).map fun i:Nat=>eM (-1) (i:Int)
def xH(k:Nat)(rs:List Rw):List PyData:=rs.map fun r=>eM (r.c.getD k (0,0)).2 (r.c.getD k (0,0)).1
theorem aIT:(PyData.none).eqv .none=true:=by rfl
theorem wA{d:PyData}(h:jF d):d.eqv d=true:=by
 rcases h with rfl|⟨s,q,rfl⟩
 · exact aIT
 · exact aF3 (s, q)
theorem aIU{f a:List PyData}(hf:∀ d∈f,jF d)(ha:∀ d∈a,jF d):(l8 f a).eqv (l8 f a)=true:=nV fun x hx=>by
 rcases List.mem_cons.mp hx with z|hx
 · rw [z]; exact nV fun y hy => wA (hf y hy)
 · rw [List.mem_singleton.mp hx]; exact nV fun y hy => wA (ha y hy)
theorem yE(n:Nat){d:PyData}(h:jF d):Sh (n+1) d:=by
 rcases h with rfl|⟨s,q,rfl⟩
 ·exact ⟨rfl,Nat.zero_le _⟩
 ·refine fQ fun x hx=>?_
  rcases List.mem_cons.mp hx with z|z
  · rw [z]; exact nW _ _
  · rw [List.mem_singleton.mp z]; exact nW _ _
theorem aCF{f a:List PyData}(hf:∀ d∈f,jF d)(ha:∀ d∈a,jF d):SeqAt.shaped (l8 f a)=true:=by
 refine Sh.shaped (n:=3) (fQ fun x hx=>?_) (by decide)
 rcases List.mem_cons.mp hx with z|hx
 · rw [z]; exact fQ fun y hy => yE 0 (hf y hy)
 · rw [List.mem_singleton.mp hx]; exact fQ fun y hy => yE 0 (ha y hy)
end Mc
namespace L2
open PySem PySem.Spec PyProof.Rows
section
variable{κ:Type}[DecidableEq κ]
theorem jM.getD{o:Option V}{u:Option Value}{d:V}{d':Value}(r:jM o u)(rd:bF d d'):bF (o.getD d) (u.getD d'):=by
 cases o with
 | none=>cases u with
  | none=>exact rd
  | some _=>exact (show False from r).elim
 | some _=>cases u with
  | none=>exact (show False from r).elim
  | some _=>exact r
theorem KV.length{kvs:List (κ×V)}{vs:List (κ×Value)}(r:KV kvs vs):kvs.length=vs.length:=Paired.length r
end
theorem aHQ{P:Program}{w:World}{k:Key}{u:Value}(r:bF (kV k) u):(dM P w).is k u=true:=by
 cases k with
 | inl i=>obtain ⟨t,e⟩:=(show ∃ t,u=Value.int i t from r);subst e;exact z8 P w i t
 | inr x=>obtain ⟨t,e⟩:=(show ∃ t,u=Value.str x t from r);subst e;exact z9 P w x t
section
variable{X:Cx}{pins:List (Addr×Obj)}{σ:St}{H:Hp}{s:Shared}{a:Addr}{y v:V}{u r:Value}{o:Option V}{A:Around}{E:Value->Shared->Prop}
theorem Inv.big(I:Inv X pins σ H s):sysModules < s.heap.objs.size:=by
 have h:mainGlobals < s.heap.objs.size:=(I.mod.glob.keeps I.bk).lt
 exact Nat.lt_trans (by decide) h
theorem qV{h':Heap}{t':Nat}{ob:HO}(I:Inv X pins σ H s)(mu:Mut (H a))(hs:Heap.SameBut a s.heap h')(he:∃ q,h'.get? a=some q)(new:b8 X.prog X.w (upd H a ob) h' a ob) :
  Inv X pins σ (upd H a ob) {s with heap:=h',toks:=t'}:=
 I.write (x:=a) (e:=a) mu (.inl rfl) (fun b q hb z=>(hs.2 b hb).trans z) he new
end
structure M1(X:Cx)(o:Expr)(m:Str)(apos:Pos)(e:Expr)(cpos:Pos):Prop where
 base:attributeBase o m X.env (eval o X.env)=eval o X.env
 few:((backTo cpos (starEach [e] X.env)).all (fun x=>!x.1) && (backToKw cpos (keywordEach [] X.env)).all (fun x=>x.1.isSome)
  && decide (([e]:List Expr).length+([]:List Keyword).length+(if ([]:List Keyword).isEmpty then 0 else 1) < 30))=true
 line:(apos.endLine == cpos.line)=true
 trees:backTo cpos (starEach [e] X.env)=[(false,eval e X.env)]
structure M2(X:Cx)(o:Expr)(m:Str)(apos:Pos)(e f:Expr)(cpos:Pos):Prop where
 base:attributeBase o m X.env (eval o X.env)=eval o X.env
 few:((backTo cpos (starEach [e,f] X.env)).all (fun x=>!x.1) && (backToKw cpos (keywordEach [] X.env)).all (fun x=>x.1.isSome)
  && decide (([e,f]:List Expr).length+([]:List Keyword).length+(if ([]:List Keyword).isEmpty then 0 else 1) < 30))=true
 line:(apos.endLine == cpos.line)=true
 trees:backTo cpos (starEach [e,f] X.env)=[(false,eval e X.env),(false,eval f X.env)]
end L2
namespace L2
open PySem PySem.Spec PyProof.Rows
end L2
namespace L2
open PySem PySem.Spec PyProof.Rows
def nX(K:Frag)(H:Hp)(ks:List (List Key×Addr)):Prop:=∀ p∈ks,SqT K H p.2 (p.1.map kV)
theorem nX.same{K:Frag}{H H':Hp}{ks:List (List Key×Addr)}(e:aM H H')(h:nX K H ks):nX K H' ks:=fun p hp=>SqT.same e (h p hp)
theorem SqT.ext{K:Frag}{H:Hp}{a q:Addr}{φ:Heap->Prop}{o:HO}{xs:List V}(h:SqT K H q xs)(ha:H a=some (.ext φ)):SqT K (upd H a o) q xs:=by
 rcases h with (h|⟨u,h⟩)|h
 ·refine .inl (.inl ?_)
  rw[aH (fun z=>by rw[z,ha] at h;cases h)];exact h
 ·refine .inl (.inr ⟨u,?_⟩)
  rw[aH (fun z=>by rw[z,ha] at h;cases h)];exact h
 ·exact .inr h
theorem SqL.ext{K:Frag}{H:Hp}{a q:Addr}{φ:Heap->Prop}{o:HO}{xs:List V}(h:SqL K H q xs)(ha:H a=some (.ext φ)):SqL K (upd H a o) q xs:=by
 rcases h with (h|⟨u,h⟩)|h
 ·refine .inl (.inl ?_)
  rw[aH (fun z=>by rw[z,ha] at h;cases h)];exact h
 ·refine .inl (.inr ⟨u,?_⟩)
  rw[aH (fun z=>by rw[z,ha] at h;cases h)];exact h
 ·exact .inr h
mutual
theorem DatV.ext{K:Frag}{H:Hp}{a:Addr}{φ:Heap->Prop}{o:HO}(ha:H a=some (.ext φ)):∀ {x:V} {d:PyData},DatV K H x d->DatV K (upd H a o) x d
 | _,_,.non=>.non
 | _,_,.bl b=>.bl b
 | _,_,.int i=>.int i
 | _,_,.str x=>.str x
 | _,_,.lst h ds=>.lst (h.ext ha) (DatVs.ext ha ds)
 | _,_,.tup h ds=>.tup (h.ext ha) (DatVs.ext ha ds)
theorem DatVs.ext{K:Frag}{H:Hp}{a:Addr}{φ:Heap->Prop}{o:HO}(ha:H a=some (.ext φ)):∀ {xs:List V} {ds:List PyData},DatVs K H xs ds->DatVs K (upd H a o) xs ds
 | _,_,.nil=>.nil
 | _,_,.cons h t=>.cons (DatV.ext ha h) (DatVs.ext ha t)
end
theorem nX.ext{K:Frag}{H:Hp}{a:Addr}{φ:Heap->Prop}{o:HO}{ks:List (List Key×Addr)}(h:nX K H ks)(ha:H a=some (.ext φ)):nX K (upd H a o) ks:=fun p hp=>SqT.ext (h p hp) ha
end L2
namespace Mc
open PySem L2 PyProof.Rows
def Tn.good(n:Int):Tn->Prop
 | .n i=>0<=i/\i < n
 | .w x=>x="by"\/x="out"
def l9(n:Int)(c:Int×Int):Prop:=0<=c.1/\c.1 < n/\(c.2=1\/c.2 = -1)
def Rw.good(n:Int)(r:Rw):Prop:=r.l.good n/\r.r.good n/\∀ c∈r.c,l9 n c
theorem Tn.good.ok{n:Int}{t:Tn}(h:t.good n):t.ok:=by
 cases t with
 | n i=>trivial
 | w x=>
  rcases h with rfl|rfl
  · exact (show PyData.strOk _ = true by decide +kernel)
  · exact (show PyData.strOk _ = true by decide +kernel)
theorem Rw.good.ok{n:Int}{r:Rw}(h:r.good n):r.ok:=⟨h.1.ok,h.2.1.ok⟩
structure Mach(rs:List Rw)(sg:Nat):Prop where
 len:1<=rs.length
 len2:rs.length<=1000
 sg1:1<=sg
 sg3:sg<=3
 row:∀ r∈rs,r.good rs.length/\r.c.length=sg
def bH(sg:Nat)(z:List Nat):Prop:=z.length<=1000/\∀ c∈z,cP sg c=true
theorem yF{sg:Nat}:∀ {z:List Nat} {i:Nat},(∀ c∈z,cP sg c=true)->kO sg i z=none
 | [],_,_=>rfl
 | c::t,i,h=>by
  rw[tL,if_pos (h c (by simp))]
  exact yF fun x hx=>h x (by simp[hx])
noncomputable def dQ(rs:List Rw)(q:Int):Rw:=rs.getD q.toNat ⟨.n 0,[],.n 0⟩
noncomputable def pW(rs:List Rw)(z:List Nat)(st:Int×Int):Tn×Int:=
 if st.1=0 then ((dQ rs st.2).l,1) else if st.1=(z.length:Int)+1 then ((dQ rs st.2).r,-1) else
  (.n ((dQ rs st.2).c.getD (z.getD (st.1.toNat - 1) 97 - 97) (0,0)).1,((dQ rs st.2).c.getD (z.getD (st.1.toNat - 1) 97 - 97) (0,0)).2)
def aCG(rs:List Rw)(z:List Nat)(st:Int×Int):Option (Int×Int):=
 match (pW rs z st).1 with
 | .w _=>none
 | .n q=>some (st.1+(pW rs z st).2,q)
def qW(rs:List Rw)(z:List Nat)(st:Int×Int):Prop:=0<=st.1/\st.1<=(z.length:Int)+1/\0<=st.2/\st.2 < (rs.length:Int)
theorem pX{rs:List Rw}{q:Int}(h0:0<=q)(h1:q < rs.length):rs[q.toNat]? = some (dQ rs q):=by
 have h:q.toNat < rs.length:=by omega
 unfold dQ
 rw[List.getD_eq_getElem?_getD,List.getElem?_eq_getElem h];rfl
theorem aAU{rs:List Rw}{sg:Nat}{z:List Nat}{st:Int×Int}(S:bH sg z)(V:qW rs z st)(h0:st.1≠0)(h1:st.1≠(z.length:Int)+1):∃ c,z[st.1.toNat - 1]? = some c/\cP sg c=true/\z.getD (st.1.toNat - 1) 97=c:=by
 obtain ⟨a,b,_,_⟩:=V
 have hl:st.1.toNat - 1 < z.length:=by omega
 refine ⟨z[st.1.toNat - 1],by simp[hl],S.2 _ (List.getElem_mem hl),by rw[List.getD_eq_getElem?_getD,List.getElem?_eq_getElem hl];rfl⟩
theorem aF4{rs:List Rw}{sg:Nat}{z:List Nat}{st:Int×Int}(M:Mach rs sg)(S:bH sg z)(V:qW rs z st)(h0:st.1≠0)(h1:st.1≠(z.length:Int)+1) :
  ∃ c,(dQ rs st.2).c[z.getD (st.1.toNat - 1) 97 - 97]? = some c/\(dQ rs st.2).c.getD (z.getD (st.1.toNat - 1) 97 - 97) (0,0)=c/\l9 rs.length c:=by
 obtain ⟨c,_,hs,e⟩:=aAU S V h0 h1
 rw[e]
 have hs:=of_decide_eq_true hs
 have hr:=M.row _ (List.mem_of_getElem? (pX V.2.2.1 V.2.2.2))
 have hl:c - 97 < (dQ rs st.2).c.length:=by rw[hr.2];omega
 refine ⟨(dQ rs st.2).c[c - 97],by simp[hl],by rw[List.getD_eq_getElem?_getD,List.getElem?_eq_getElem hl];rfl,hr.1.2.2 _ (List.getElem_mem hl)⟩
theorem pY:∀ (N:Nat) (l:List Nat),l.Nodup->(∀ x∈l,x < N)->l.length<=N
 | 0,l,_,h=>by
  cases l with
  | nil=>exact Nat.le_refl _
  | cons a t=>exact absurd (h a (by simp)) (by omega)
 | N+1,l,hn,h=>by
  have ih:=pY N (l.erase N) (hn.erase N) (fun x hx=>by
   have:=(hn.mem_erase_iff).mp hx
   have h2:=h x this.2
   omega)
  have:=List.length_erase (a:=N) (l:=l)
  split at this<;>omega
theorem tM{rs:List Rw}{z:List Nat}{l:List (Int×Int)}(hn:l.Nodup)(hv:∀ st∈l,qW rs z st):l.length<=(z.length+2) * rs.length:=by
 have h:=pY ((z.length+2) * rs.length) (l.map fun st=>st.1.toNat * rs.length+st.2.toNat) ?_ ?_
 ·rw[List.length_map] at h;exact h
 ·unfold List.Nodup
  rw[List.pairwise_map]
  refine List.Pairwise.imp_of_mem (fun {a b} ha hb hab e=>hab ?_) hn
  obtain ⟨a1,a2,a3,a4⟩:=hv a ha
  obtain ⟨b1,b2,b3,b4⟩:=hv b hb
  have hm:0 < rs.length:=by omega
  have e1:(a.1.toNat * rs.length+a.2.toNat) / rs.length=(b.1.toNat * rs.length+b.2.toNat) / rs.length:=by rw[e]
  have e2:(a.1.toNat * rs.length+a.2.toNat) % rs.length=(b.1.toNat * rs.length+b.2.toNat) % rs.length:=by rw[e]
  have ha2:a.2.toNat < rs.length:=by omega
  have hb2:b.2.toNat < rs.length:=by omega
  rw[Nat.mul_comm,Nat.mul_add_div hm,Nat.mul_comm b.1.toNat,Nat.mul_add_div hm,Nat.div_eq_of_lt ha2,Nat.div_eq_of_lt hb2] at e1
  rw[Nat.mul_comm,Nat.mul_add_mod,Nat.mul_comm b.1.toNat,Nat.mul_add_mod,Nat.mod_eq_of_lt ha2,Nat.mod_eq_of_lt hb2] at e2
  exact Prod.ext (by omega) (by omega)
 ·intro x hx
  obtain ⟨st,hst,rfl⟩:=List.mem_map.mp hx
  obtain ⟨a1,a2,a3,a4⟩:=hv st hst
  have h1:st.1.toNat+1<=z.length+2:=by omega
  have h2:st.2.toNat < rs.length:=by omega
  calc st.1.toNat * rs.length+st.2.toNat < st.1.toNat * rs.length+rs.length:=by omega
   _=(st.1.toNat+1) * rs.length:=by rw[Nat.add_mul];omega
   _<=(z.length+2) * rs.length:=Nat.mul_le_mul_right _ h1
noncomputable def aCH(rs:List Rw)(z:List Nat):Nat->List (Int×Int)->Int×Int->List (Int×Int)
 | 0,ps,st=>ps++[st]
 | k+1,ps,st=>if st∈ps then ps++[st] else match aCG rs z st with
  | none=>ps++[st]
  | some st'=>aCH rs z k (ps++[st]) st'
def aHR(rs:List Rw)(z:List Nat):Nat:=(z.length+2) * rs.length
def aNN(rs:List Rw)(z:List Nat):List (Int×Int):=aCH rs z (aHR rs z) [] (0,0)
structure Way(rs:List Rw)(z:List Nat)(ps:List (Int×Int))(st:Int×Int)(k:Nat):Prop where
 nd:ps.Nodup
 val:∀ s∈ps++[st],qW rs z s
 num:ps.length+k=aHR rs z
 res:aCH rs z k ps st=aNN rs z
end Mc
namespace Mc
open PySem L2 PyProof.Rows
noncomputable def one(c:Nat):Str:=⟨#[c]⟩
end Mc
namespace Mc
open PySem L2 PyProof.Rows
section
variable{S O:Type}
inductive Ex(st:S->Option (S⊕O)):Nat->S->O->Prop
 | out {s:S} {o:O} (h:st s=some (.inr o)):Ex st 0 s o
 | go {s s':S} {o:O} {n:Nat} (h:st s=some (.inl s')) (t:Ex st n s' o):Ex st (n+1) s o
inductive Rc(st:S->Option (S⊕O)):Nat->S->S->Prop
 | nil {s:S}:Rc st 0 s s
 | cons {s s' s'':S} {n:Nat} (h:st s=some (.inl s')) (t:Rc st n s' s''):Rc st (n+1) s s''
variable{st:S->Option (S⊕O)}
theorem Ex.det{n n':Nat}{s:S}{o o':O}(a:Ex st n s o)(b:Ex st n' s o'):n=n'/\o=o':=by
 induction a generalizing n' o' with
 | out h=>
  cases b with
  | out h'=>rw[h] at h';cases h';exact ⟨rfl,rfl⟩
  | go h' t=>rw[h] at h';cases h'
 | go h t ih=>
  cases b with
  | out h'=>rw[h] at h';cases h'
  | go h' t'=>
   rw[h] at h';cases h'
   obtain ⟨e,e'⟩:=ih t'
   exact ⟨by omega,e'⟩
theorem Rc.ex{k n:Nat}{s s':S}{o:O}(a:Rc st k s s')(b:Ex st n s o):∃ n',n=n'+k/\Ex st n' s' o:=by
 induction a generalizing n with
 | nil=>exact ⟨n,rfl,b⟩
 | cons h t ih=>
  cases b with
  | out h'=>rw[h] at h';cases h'
  | go h' t'=>
   rw[h] at h';cases h'
   obtain ⟨n',e,q⟩:=ih t'
   exact ⟨n',by omega,q⟩
theorem Rc.to{k n:Nat}{s s':S}{o:O}(a:Rc st k s s')(b:Ex st n s' o):Ex st (n+k) s o:=by
 induction a with
 | nil=>exact b
 | cons h t ih=>exact .go h (ih b)
theorem Rc.snoc{k:Nat}{s s' s'':S}(a:Rc st k s s')(h:st s'=some (.inl s'')):Rc st (k+1) s s'':=by
 induction a with
 | nil=>exact .cons h .nil
 | cons h' t ih=>exact .cons h' (ih h)
theorem Rc.round{m n:Nat}{s:S}{o:O}(a:Rc st (m+1) s s):¬ Ex st n s o:=fun b=>by
 obtain ⟨n',e,q⟩:=a.ex b
 have:=(b.det q).1
 omega
def Res(st:S->Option (S⊕O))(s:S)(r:Option O):Prop:=∀ o,r=some o↔∃ n,Ex st n s o
theorem Res.det{s:S}{r r':Option O}(a:Res st s r)(b:Res st s r'):r=r':=by
 apply Option.ext
 intro o
 exact (a o).trans (b o).symm
theorem Res.out{s:S}{o:O}(h:st s=some (.inr o)):Res st s (some o):=fun o'=>by
 constructor
 · intro e; cases e; exact ⟨0, .out h⟩
 · rintro ⟨n, q⟩; rw [((Ex.out h).det q).2]
theorem Res.stuck{s:S}(h:st s=none):Res st s none:=fun o'=>by
 constructor
 ·intro e;cases e
 ·rintro ⟨n,q⟩
  cases q with
  | out h'=>rw[h] at h';cases h'
  | go h' t=>rw[h] at h';cases h'
theorem Res.step{s s':S}{r:Option O}(h:st s=some (.inl s'))(a:Res st s' r):Res st s r:=fun o=>by
 rw[a o]
 constructor
 ·rintro ⟨n,q⟩;exact ⟨n+1,.go h q⟩
 ·rintro ⟨n,q⟩
  cases q with
  | out h'=>rw[h] at h';cases h'
  | go h' t=>rw[h] at h';cases h';exact ⟨_,t⟩
theorem Res.round{s:S}{m:Nat}(a:Rc st (m+1) s s):Res st s none:=fun o=>by
 constructor
 · intro e; cases e
 · rintro ⟨n, q⟩; exact absurd q a.round
open Classical in
noncomputable def bT(st:S->Option (S⊕O))(s:S):Option O:=if h:∃ o n,Ex st n s o then some h.choose else none
theorem eZ(st:S->Option (S⊕O))(s:S):Res st s (bT st s):=fun o=>by
 unfold bT
 by_cases h:∃ o n,Ex st n s o
 ·rw[dif_pos h]
  obtain ⟨n,q⟩:=h.choose_spec
  constructor
  · intro e; cases e; exact ⟨n, q⟩
  · rintro ⟨n', q'⟩; rw [(q.det q').2]
 ·rw[dif_neg h]
  constructor
  · intro e; cases e
  · rintro ⟨n, q⟩; exact absurd ⟨o, n, q⟩ h
theorem Res.eq{s:S}{r:Option O}(a:Res st s r):r=bT st s:=a.det (eZ st s)
theorem kP{S':Type}{st':S'->Option (S'⊕O)}{s:S}{s':S'}(h:∀ o,(∃ n,Ex st n s o)↔∃ n,Ex st' n s' o):bT st s=bT st' s':=
 Option.ext fun o=>((eZ st s) o).trans ((h o).trans ((eZ st' s') o).symm)
structure Und2(st:S->Option (S⊕O))(s0:S)(ps:List S)(s:S):Prop where
 nd:ps.Nodup
 back:∀ p∈ps,∃ m,Rc st (m+1) p s
 res:∀ r,Res st s r->Res st s0 r
theorem Und2.start{s0:S}:Und2 st s0 [] s0:=⟨List.nodup_nil,fun p hp=>by simp at hp,fun r h=>h⟩
theorem Und2.next{s0 s s':S}{ps:List S}(U:Und2 st s0 ps s)(hn:s∉ps)(h:st s=some (.inl s')):Und2 st s0 (ps++[s]) s' where
 nd:=by
  rw[List.nodup_append]
  exact ⟨U.nd,by simp,fun a ha b hb e=>by rw[List.mem_singleton.mp hb] at e;exact hn (e▸ha)⟩
 back:=fun p hp=>by
  rcases List.mem_append.mp hp with q|q
  · obtain ⟨m, r⟩ := U.back p q; exact ⟨m + 1, r.snoc h⟩
  · rw [List.mem_singleton.mp q]; exact ⟨0, .cons h .nil⟩
 res:=fun r a=>U.res r (a.step h)
theorem Und2.met{s0 s:S}{ps:List S}(U:Und2 st s0 ps s)(h:s∈ps):bT st s0=none:=by
 obtain ⟨m,r⟩:=U.back s h
 exact ((U.res _ (Res.round r)).eq).symm
theorem Und2.outs{s0 s:S}{ps:List S}{o:O}(U:Und2 st s0 ps s)(h:st s=some (.inr o)):bT st s0=some o:=((U.res _ (Res.out h)).eq).symm
theorem Und2.sticks{s0 s:S}{ps:List S}(U:Und2 st s0 ps s)(h:st s=none):bT st s0=none:=((U.res _ (Res.stuck h)).eq).symm
end
abbrev Th:=Option (Int×Int)
structure Tb where
 f:List Th
 a:List Th
def Tb.at(t:Tb)(w q:Int):Th:=(if w=1 then t.f else t.a).getD q.toNat none
def pZ(m:Nat):Th->Prop
 | none=>True
 | some (d,q)=>(d=1\/d = -1)/\0<=q/\q < (m:Int)
structure Tb.good(m:Nat)(t:Tb):Prop where
 lf:t.f.length=m
 la:t.a.length=m
 gf:∀ x∈t.f,pZ m x
 ga:∀ x∈t.a,pZ m x
theorem Tb.good.at{m:Nat}{t:Tb}(h:t.good m){w q:Int}(h0:0<=q)(h1:q < m):(if w=1 then t.f else t.a)[q.toNat]? = some (t.at w q)/\pZ m (t.at w q):=by
 have hl:q.toNat < (if w=1 then t.f else t.a).length:=by
  split
  · rw [h.lf]; omega
  · rw [h.la]; omega
 have e:(if w=1 then t.f else t.a)[q.toNat]? = some (t.at w q):=by
  unfold Tb.at
  rw[List.getD_eq_getElem?_getD,List.getElem?_eq_getElem hl];rfl
 refine ⟨e,?_⟩
 have hm:=List.mem_of_getElem? e
 split at hm
 ·exact h.gf _ hm
 ·exact h.ga _ hm
def aP(ts:List Tb)(s:Int×Int×Int):Option ((Int×Int×Int)⊕(Int×Int)):=
 match (ts.getD s.1.toNat ⟨[],[]⟩).at s.2.1 s.2.2 with
 | none=>none
 | some (w,q)=>if 0<=s.1+w/\s.1+w < (ts.length:Int) then some (.inl (s.1+w,w,q)) else some (.inr (w,q))
noncomputable def aW(m:Nat)(ts:List Tb):Tb:=⟨(List.range m).map fun q:Nat=>bT (aP ts) (0,1,(q:Int)),(List.range m).map fun q:Nat=>bT (aP ts) ((ts.length:Int) - 1,-1,(q:Int))⟩
theorem m6{m:Nat}{ts:List Tb}{w q:Int}(h0:0<=q)(h1:q < m):(aW m ts).at w q=if w=1 then bT (aP ts) (0,1,q) else bT (aP ts) ((ts.length:Int) - 1,-1,q):=by
 unfold Tb.at aW
 have hl:q.toNat < m:=by omega
 have e:((q.toNat:Nat):Int)=q:=by omega
 by_cases h:w=1
 ·rw[if_pos h,if_pos h,List.getD_eq_getElem?_getD,List.getElem?_map,List.getElem?_range hl]
  show (some (bT (aP ts) (0,1,((q.toNat:Nat):Int)))).getD none=_
  rw[e];rfl
 ·rw[if_neg h,if_neg h,List.getD_eq_getElem?_getD,List.getElem?_map,List.getElem?_range hl]
  show (some (bT (aP ts) ((ts.length:Int) - 1,-1,((q.toNat:Nat):Int)))).getD none=_
  rw[e];rfl
def fR(m:Nat)(ts:List Tb)(s:Int×Int×Int):Prop:=0<=s.1/\s.1 < (ts.length:Int)/\(s.2.1=1\/s.2.1 = -1)/\0<=s.2.2/\s.2.2 < (m:Int)
theorem nY{ts:List Tb}{i:Int}(h0:0<=i)(h1:i < ts.length):∃ t,ts[i.toNat]? = some t/\ts.getD i.toNat ⟨[],[]⟩=t:=by
 have hl:i.toNat < ts.length:=by omega
 exact ⟨ts[i.toNat],by simp[hl],by rw[List.getD_eq_getElem?_getD,List.getElem?_eq_getElem hl];rfl⟩
theorem box_step{m:Nat}{ts:List Tb}(hg:∀ t∈ts,t.good m){s:Int×Int×Int}(V:fR m ts s):(aP ts s=none)\/(∃ s',aP ts s=some (.inl s')/\fR m ts s')\/∃ w q,aP ts s=some (.inr (w,q))/\(w=1\/w = -1)/\0<=q/\q < (m:Int):=by
 obtain ⟨v1,v2,v3,v4,v5⟩:=V
 obtain ⟨t,ht,e⟩:=nY v1 v2
 have g:=((hg t (List.mem_of_getElem? ht)).at (w:=s.2.1) v4 v5).2
 unfold aP
 rw[e]
 cases ha:t.at s.2.1 s.2.2 with
 | none=>exact .inl rfl
 | some x=>
  obtain ⟨w,q⟩:=x
  rw[ha] at g
  obtain ⟨g1,g2,g3⟩:=g
  by_cases hi:0<=s.1+w/\s.1+w < (ts.length:Int)
  · exact .inr (.inl ⟨(s.1 + w, w, q), by simp only [if_pos hi], hi.1, hi.2, g1, g2, g3⟩)
  · exact .inr (.inr ⟨w, q, by simp only [if_neg hi], g1, g2, g3⟩)
theorem nZ{m:Nat}{ts:List Tb}(hg:∀ t∈ts,t.good m){n:Nat}{s:Int×Int×Int}{o:Int×Int}(V:fR m ts s)(h:Ex (aP ts) n s o):(o.1=1\/o.1 = -1)/\0<=o.2/\o.2 < (m:Int):=by
 induction h with
 | out h=>
  rcases box_step hg V with e|⟨s',e,_⟩|⟨w,q,e,g⟩
  · rw [h] at e; cases e
  · rw [h] at e; cases e
  · rw [h] at e; cases e; exact g
 | go h t ih=>
  rcases box_step hg V with e|⟨s',e,V'⟩|⟨w,q,e,g⟩
  · rw [h] at e; cases e
  · rw [h] at e; cases e; exact ih V'
  · rw [h] at e; cases e
theorem iT{m:Nat}{ts:List Tb}(hg:∀ t∈ts,t.good m)(hl:1<=ts.length):(aW m ts).good m where
 lf:=by unfold aW;simp
 la:=by unfold aW;simp
 gf:=fun x hx=>by
  obtain ⟨q,hq,rfl⟩:=List.mem_map.mp hx
  have hq:=List.mem_range.mp hq
  cases e:bT (aP ts) (0,1,(q:Int)) with
  | none=>trivial
  | some o=>
   obtain ⟨n,h⟩:=((eZ (aP ts) _) o).mp e
   exact nZ hg ⟨by show (0:Int)<=0;decide,by show (0:Int) < _;omega,.inl rfl,by show (0:Int)<=(q:Int);omega,by show (q:Int) < _;omega⟩ h
 ga:=fun x hx=>by
  obtain ⟨q,hq,rfl⟩:=List.mem_map.mp hx
  have hq:=List.mem_range.mp hq
  cases e:bT (aP ts) ((ts.length:Int) - 1,-1,(q:Int)) with
  | none=>trivial
  | some o=>
   obtain ⟨n,h⟩:=((eZ (aP ts) _) o).mp e
   exact nZ hg ⟨by show (0:Int)<=(ts.length:Int) - 1;omega,by show (ts.length:Int) - 1 < _;omega,.inr rfl,by show (0:Int)<=(q:Int);omega,by show (q:Int) < _;omega⟩ h
def d9(k n:Int)(s:Int×Int×Int):Int×Int×Int:=(if s.1 < k then s.1 else if s.1=k then (if s.2.1=1 then k else k+n - 1) else s.1+n - 1,s.2.1,s.2.2)
theorem p4{α:Type}{l1 l2:List α}{i:Nat}{d:α}(h:i < l1.length):(l1++l2).getD i d=l1.getD i d:=by
 rw[List.getD_eq_getElem?_getD,List.getD_eq_getElem?_getD,List.getElem?_append_left h]
theorem m7{α:Type}{l1 l2:List α}{i:Nat}{d:α}(h:l1.length<=i):(l1++l2).getD i d=l2.getD (i - l1.length) d:=by
 rw[List.getD_eq_getElem?_getD,List.getD_eq_getElem?_getD,List.getElem?_append_right h]
section
variable{m:Nat}{l1 mid l2:List Tb}
theorem kZ(i:Int)(h0:0<=i)(h1:i < mid.length):(l1++mid++l2).getD ((l1.length:Int)+i).toNat ⟨[],[]⟩=mid.getD i.toNat ⟨[],[]⟩:=by
 have e:((l1.length:Int)+i).toNat=l1.length+i.toNat:=by omega
 rw[e,List.append_assoc,m7 (by omega),show l1.length+i.toNat - l1.length=i.toNat by omega,p4 (by omega)]
theorem sD(c:Tb)(s:Int×Int×Int)(h0:0<=s.1)(h1:s.1≠(l1.length:Int))(hm:1<=mid.length):(l1++[c]++l2).getD s.1.toNat ⟨[],[]⟩=(l1++mid++l2).getD (d9 l1.length mid.length s).1.toNat ⟨[],[]⟩:=by
 unfold d9
 by_cases h:s.1 < (l1.length:Int)
 ·simp only[if_pos h]
  rw[List.append_assoc,List.append_assoc,p4 (by omega),p4 (by omega)]
 ·simp only[if_neg h,if_neg h1]
  have e:(s.1+(mid.length:Int) - 1).toNat=s.1.toNat+mid.length - 1:=by omega
  have e1:(l1++[c]).length=l1.length+1:=by simp
  have e2:(l1++mid).length=l1.length+mid.length:=by simp
  rw[e,m7 (by rw[e1];omega),m7 (by rw[e2];omega),e1,e2]
  congr 1
  omega
theorem u9(c:Tb):(l1++[c]++l2).getD ((l1.length:Int)).toNat ⟨[],[]⟩=c:=by
 rw[List.append_assoc,m7 (by omega)]
 have:(l1.length:Int).toNat - l1.length=0:=by omega
 rw[this];rfl
theorem aAV(hg:∀ t∈mid,t.good m){k:Nat}{i w q:Int}{o:Int×Int}(V:fR m mid (i,w,q))(h:Ex (aP mid) k (i,w,q) o):∃ i' w' q',fR m mid (i',w',q')/\Rc (aP (l1++mid++l2)) k ((l1.length:Int)+i,w,q) ((l1.length:Int)+i',w',q') /\
  (mid.getD i'.toNat ⟨[],[]⟩).at w' q'=some o/\¬ (0<=i'+o.1/\i'+o.1 < (mid.length:Int)):=by
 generalize hs:((i,w,q):Int×Int×Int)=s at h V
 induction h generalizing i w q with
 | @out s o h=>
  subst hs
  refine ⟨i,w,q,V,.nil,?_⟩
  unfold aP at h
  dsimp only at h
  cases ha:(mid.getD i.toNat ⟨[],[]⟩).at w q with
  | none=>rw[ha] at h;cases h
  | some x=>
   obtain ⟨w1,q1⟩:=x
   rw[ha] at h
   dsimp only at h
   by_cases hi:0<=i+w1/\i+w1 < (mid.length:Int)
   ·rw[if_pos hi] at h;cases h
   ·rw[if_neg hi] at h;cases h;exact ⟨rfl,hi⟩
 | @go s s' o n h t ih=>
  subst hs
  have V':fR m mid s':=by
   rcases box_step hg V with e|⟨s1,e,V'⟩|⟨_,_,e,_⟩
   ·rw[h] at e;cases e
   ·rw[h] at e;cases e;exact V'
   ·rw[h] at e;cases e
  obtain ⟨i1,w1,q1⟩:=s'
  obtain ⟨i',w',q',a,b,c⟩:=ih (i:=i1) (w:=w1) (q:=q1) rfl V'
  refine ⟨i',w',q',a,.cons ?_ b,c⟩
  unfold aP at h ⊢
  dsimp only at h ⊢
  rw[kZ i V.1 V.2.1]
  cases ha:(mid.getD i.toNat ⟨[],[]⟩).at w q with
  | none=>rw[ha] at h;cases h
  | some x=>
   obtain ⟨w2,q2⟩:=x
   rw[ha] at h
   dsimp only at h ⊢
   by_cases hi:0<=i+w2/\i+w2 < (mid.length:Int)
   ·rw[if_pos hi] at h
    cases h
    rw[if_pos]
    · rw [show (l1.length : Int) + i + w1 = (l1.length : Int) + (i + w1) by omega]
    · simp only [List.length_append]; omega
   ·rw[if_neg hi] at h;cases h
theorem aLE(hg:∀ t∈mid,t.good m){n:Nat}{i w q:Int}{o:Int×Int}(V:fR m mid (i,w,q))(h:Ex (aP (l1++mid++l2)) n ((l1.length:Int)+i,w,q) o) :
  ∃ k i' w' q' o',Ex (aP mid) k (i,w,q) o'/\fR m mid (i',w',q')/\(mid.getD i'.toNat ⟨[],[]⟩).at w' q'=some o'/\¬ (0<=i'+o'.1/\i'+o'.1 < (mid.length:Int))/\∃ j,j<=n/\Ex (aP (l1++mid++l2)) j ((l1.length:Int)+i',w',q') o:=by
 induction n generalizing i w q with
 | zero=>
  cases ha:(mid.getD i.toNat ⟨[],[]⟩).at w q with
  | none=>
   cases h with
   | out h=>unfold aP at h;dsimp only at h;rw[kZ i V.1 V.2.1,ha] at h;cases h
  | some x=>
   obtain ⟨w1,q1⟩:=x
   by_cases hi:0<=i+w1/\i+w1 < (mid.length:Int)
   ·cases h with
    | out h=>
     unfold aP at h;dsimp only at h
     rw[kZ i V.1 V.2.1,ha] at h
     dsimp only at h
     rw[if_pos (by simp only[List.length_append];omega)] at h
     cases h
   ·refine ⟨0,i,w,q,(w1,q1),.out ?_,V,ha,hi,0,Nat.le_refl _,h⟩
    unfold aP;dsimp only
    rw[ha];dsimp only;rw[if_neg hi]
 | succ n ih=>
  cases ha:(mid.getD i.toNat ⟨[],[]⟩).at w q with
  | none=>
   cases h with
   | go h t=>unfold aP at h;dsimp only at h;rw[kZ i V.1 V.2.1,ha] at h;cases h
  | some x=>
   obtain ⟨w1,q1⟩:=x
   by_cases hi:0<=i+w1/\i+w1 < (mid.length:Int)
   ·have hs:aP mid (i,w,q)=some (.inl (i+w1,w1,q1)):=by
     unfold aP;dsimp only;rw[ha];dsimp only;rw[if_pos hi]
    have V':fR m mid (i+w1,w1,q1):=by
     rcases box_step hg V with e|⟨s1,e,V'⟩|⟨_,_,e,_⟩
     · rw [hs] at e; cases e
     · rw [hs] at e; cases e; exact V'
     · rw [hs] at e; cases e
    cases h with
    | go h t=>
     unfold aP at h;dsimp only at h
     rw[kZ i V.1 V.2.1,ha] at h
     dsimp only at h
     rw[if_pos (by simp only[List.length_append];omega)] at h
     cases h
     rw[show (l1.length:Int)+i+w1=(l1.length:Int)+(i+w1) by omega] at t
     obtain ⟨k,i',w',q',o',a,b,c,d,j,hj,e⟩:=ih V' t
     exact ⟨k+1,i',w',q',o',.go hs a,b,c,d,j,by omega,e⟩
   ·refine ⟨0,i,w,q,(w1,q1),.out ?_,V,ha,hi,n+1,Nat.le_refl _,h⟩
    unfold aP;dsimp only
    rw[ha];dsimp only;rw[if_neg hi]
theorem m8(c:Tb)(hm:1<=mid.length){s:Int×Int×Int}{w' q':Int}(hi:s.1≠(l1.length:Int))(h0:0<=s.1)(h1:s.1 < ((l1++[c]++l2).length:Int))(hw:w'=1\/w' = -1) :
  (0<=s.1+w'/\s.1+w' < ((l1++[c]++l2).length:Int)↔0<=(d9 l1.length mid.length s).1+w'/\(d9 l1.length mid.length s).1+w' < ((l1++mid++l2).length:Int)) /\
  (0<=s.1+w'/\s.1+w' < ((l1++[c]++l2).length:Int)->d9 l1.length mid.length (s.1+w',w',q')=((d9 l1.length mid.length s).1+w',w',q')):=by
 simp only[List.length_append,List.length_cons,List.length_nil] at h1 ⊢
 unfold d9
 dsimp only
 refine ⟨?_,fun hh=>?_⟩
 ·by_cases h:s.1 < (l1.length:Int)
  ·rw[if_pos h];omega
  ·rw[if_neg h,if_neg hi];omega
 ·refine Prod.ext ?_ rfl
  show (if s.1+w' < (l1.length:Int) then s.1+w' else if s.1+w'=(l1.length:Int) then (if w'=1 then (l1.length:Int) else (l1.length:Int)+(mid.length:Int) - 1) else s.1+w'+(mid.length:Int) - 1)=(if s.1 < (l1.length:Int) then s.1 else if s.1=(l1.length:Int) then (if s.2.1=1 then (l1.length:Int) else (l1.length:Int)+(mid.length:Int) - 1) else s.1+(mid.length:Int) - 1)+w'
  rw[if_neg hi]
  rcases hw with rfl|rfl
  ·by_cases h:s.1 < (l1.length:Int)
   ·rw[if_pos h]
    by_cases h2:s.1+1 < (l1.length:Int)
    · rw [if_pos h2]
    · rw [if_neg h2, if_pos (by omega), if_pos rfl]; omega
   ·rw[if_neg h,if_neg (by omega),if_neg (by omega)];omega
  ·by_cases h:s.1 < (l1.length:Int)
   ·rw[if_pos h,if_pos (by omega)]
   ·rw[if_neg h,if_neg (by omega)]
    by_cases h2:s.1 + -1=(l1.length:Int)
    · rw [if_pos h2, if_neg (by decide)]; omega
    · rw [if_neg h2]; omega
theorem aF5{w q:Int}(hw:w=1\/w = -1)(h0:0<=q)(h1:q < (m:Int))(hm:1<=mid.length):(aW m mid).at w q=bT (aP mid) ((if w=1 then 0 else (mid.length:Int) - 1),w,q):=by
 rw[m6 h0 h1]
 rcases hw with rfl|rfl
 · rw [if_pos rfl, if_pos rfl]
 · rw [if_neg (by decide), if_neg (by decide)]
theorem yG(hg1:∀ t∈l1,t.good m)(hg:∀ t∈mid,t.good m)(hg2:∀ t∈l2,t.good m)(hm:1<=mid.length){s:Int×Int×Int}{o:Int×Int}(V:fR m (l1++[aW m mid]++l2) s) :
  (∃ n,Ex (aP (l1++[aW m mid]++l2)) n s o)↔∃ n,Ex (aP (l1++mid++l2)) n (d9 l1.length mid.length s) o:=by
 have hgs:∀ t∈l1++[aW m mid]++l2,t.good m:=fun t ht=>by
  rcases List.mem_append.mp ht with y|y
  ·rcases List.mem_append.mp y with y|y
   ·exact hg1 t y
   ·rw[List.mem_singleton.mp y];exact iT hg hm
  ·exact hg2 t y
 have Lm:∀ {s:Int×Int×Int},s.1=(l1.length:Int)->d9 l1.length mid.length s=((l1.length:Int)+(if s.2.1=1 then 0 else (mid.length:Int) - 1),s.2.1,s.2.2):=fun {s} h=>by
  unfold d9
  rw[if_neg (by omega),if_pos h]
  by_cases h1:s.2.1=1
  ·rw[if_pos h1,if_pos h1,Int.add_zero]
  ·rw[if_neg h1,if_neg h1,Int.add_sub_assoc]
 have Vm:∀ {s:Int×Int×Int},fR m (l1++[aW m mid]++l2) s->fR m mid ((if s.2.1=1 then 0 else (mid.length:Int) - 1),s.2.1,s.2.2):=fun {s} V=>by
  obtain ⟨_,_,v3,v4,v5⟩:=V
  refine ⟨?_,?_,v3,v4,v5⟩
  ·show (0:Int)<=if s.2.1=1 then 0 else (mid.length:Int) - 1;split<;>omega
  ·show (if s.2.1=1 then (0:Int) else (mid.length:Int) - 1) < _;split<;>omega
 have leave:∀ {i':Int} {o':Int×Int},0<=i'->i' < (mid.length:Int)->(o'.1=1\/o'.1 = -1)->¬ (0<=i'+o'.1/\i'+o'.1 < (mid.length:Int))->
   (0<=(l1.length:Int)+o'.1/\(l1.length:Int)+o'.1 < ((l1++[aW m mid]++l2).length:Int)↔0<=(l1.length:Int)+i'+o'.1/\(l1.length:Int)+i'+o'.1 < ((l1++mid++l2).length:Int)) /\
   d9 l1.length mid.length ((l1.length:Int)+o'.1,o'.1,o'.2)=((l1.length:Int)+i'+o'.1,o'.1,o'.2):=fun {i' o'} a b hw h=>by
  simp only[List.length_append,List.length_cons,List.length_nil]
  refine ⟨by rcases hw with e|e<;>rw[e] at h ⊢<;>omega,?_⟩
  unfold d9
  refine Prod.ext ?_ rfl
  show (if (l1.length:Int)+o'.1 < (l1.length:Int) then (l1.length:Int)+o'.1 else if (l1.length:Int)+o'.1=(l1.length:Int) then (if o'.1=1 then (l1.length:Int) else (l1.length:Int)+(mid.length:Int) - 1) else (l1.length:Int)+o'.1+(mid.length:Int) - 1)=(l1.length:Int)+i'+o'.1
  rcases hw with e|e
  ·rw[e] at h ⊢;rw[if_neg (by omega),if_neg (by omega)];omega
  ·rw[e] at h ⊢;rw[if_pos (by omega)];omega
 constructor
 ·rintro ⟨n,h⟩
  induction h with
  | @out s o h=>
   by_cases hi:s.1=(l1.length:Int)
   ·unfold aP at h
    rw[hi,u9,aF5 V.2.2.1 V.2.2.2.1 V.2.2.2.2 hm] at h
    cases hr:bT (aP mid) ((if s.2.1=1 then 0 else (mid.length:Int) - 1),s.2.1,s.2.2) with
    | none=>rw[hr] at h;cases h
    | some o'=>
     rw[hr] at h
     obtain ⟨k,hk⟩:=((eZ (aP mid) _) o').mp hr
     have ho:=nZ hg (Vm V) hk
     obtain ⟨i',w',q',V',rc,ha,hn⟩:=aAV (l1:=l1) (l2:=l2) hg (Vm V) hk
     obtain ⟨lv1,lv2⟩:=leave V'.1 V'.2.1 ho.1 hn
     obtain ⟨ow,oq⟩:=o'
     dsimp only at h
     by_cases hin:0<=(l1.length:Int)+ow/\(l1.length:Int)+ow < ((l1++[aW m mid]++l2).length:Int)
     ·rw[if_pos hin] at h;cases h
     ·rw[if_neg hin] at h;cases h
      rw[Lm hi]
      refine ⟨0+k,rc.to (.out ?_)⟩
      unfold aP;dsimp only
      rw[kZ i' V'.1 V'.2.1,ha];dsimp only
      rw[if_neg fun z=>hin (lv1.mpr z)]
   ·refine ⟨0,.out ?_⟩
    have hs:=h
    unfold aP at h ⊢
    rw[<-sD (aW m mid) s V.1 hi hm]
    show (match ((l1++[aW m mid]++l2).getD s.1.toNat ⟨[],[]⟩).at s.2.1 s.2.2 with|none=>none|some (w,q)=>if 0<=(d9 l1.length mid.length s).1+w/\(d9 l1.length mid.length s).1+w < ((l1++mid++l2).length:Int) then some (Sum.inl ((d9 l1.length mid.length s).1+w,w,q)) else some (Sum.inr (w,q)))=_
    have gd:∃ t,t.good m/\(l1++[aW m mid]++l2).getD s.1.toNat ⟨[],[]⟩=t:=by
     obtain ⟨t,ht,e⟩:=nY V.1 V.2.1
     exact ⟨t,hgs t (List.mem_of_getElem? ht),e⟩
    obtain ⟨t,tg,te⟩:=gd
    rw[te] at h ⊢
    have g:=(tg.at (w:=s.2.1) V.2.2.2.1 V.2.2.2.2).2
    cases ha:t.at s.2.1 s.2.2 with
    | none=>rw[ha] at h;cases h
    | some x=>
     obtain ⟨w1,q1⟩:=x
     rw[ha] at h g
     obtain ⟨l1s,_⟩:=m8 (l2:=l2) (aW m mid) hm (q':=q1) hi V.1 V.2.1 g.1
     dsimp only at h ⊢
     by_cases hin:0<=s.1+w1/\s.1+w1 < ((l1++[aW m mid]++l2).length:Int)
     ·rw[if_pos hin] at h;cases h
     ·rw[if_neg hin] at h;cases h
      rw[if_neg fun z=>hin (l1s.mpr z)]
  | @go s s' o n h t ih=>
   have V':fR m (l1++[aW m mid]++l2) s':=by
    rcases box_step hgs V with e|⟨s1,e,V'⟩|⟨_,_,e,_⟩
    ·rw[h] at e;cases e
    ·rw[h] at e;cases e;exact V'
    ·rw[h] at e;cases e
   obtain ⟨j,hj⟩:=ih V'
   by_cases hi:s.1=(l1.length:Int)
   ·unfold aP at h
    rw[hi,u9,aF5 V.2.2.1 V.2.2.2.1 V.2.2.2.2 hm] at h
    cases hr:bT (aP mid) ((if s.2.1=1 then 0 else (mid.length:Int) - 1),s.2.1,s.2.2) with
    | none=>rw[hr] at h;cases h
    | some o'=>
     rw[hr] at h
     obtain ⟨k,hk⟩:=((eZ (aP mid) _) o').mp hr
     have ho:=nZ hg (Vm V) hk
     obtain ⟨i',w',q',Vi,rc,ha,hn⟩:=aAV (l1:=l1) (l2:=l2) hg (Vm V) hk
     obtain ⟨lv1,lv2⟩:=leave Vi.1 Vi.2.1 ho.1 hn
     obtain ⟨ow,oq⟩:=o'
     dsimp only at h lv2
     by_cases hin:0<=(l1.length:Int)+ow/\(l1.length:Int)+ow < ((l1++[aW m mid]++l2).length:Int)
     ·rw[if_pos hin] at h;cases h
      rw[lv2] at hj
      rw[Lm hi]
      refine ⟨j+1+k,rc.to (.go ?_ hj)⟩
      unfold aP;dsimp only
      rw[kZ i' Vi.1 Vi.2.1,ha];dsimp only
      rw[if_pos (lv1.mp hin)]
     ·rw[if_neg hin] at h;cases h
   ·refine ⟨j+1,.go ?_ hj⟩
    unfold aP at h ⊢
    rw[<-sD (aW m mid) s V.1 hi hm]
    show (match ((l1++[aW m mid]++l2).getD s.1.toNat ⟨[],[]⟩).at s.2.1 s.2.2 with|none=>none|some (w,q)=>if 0<=(d9 l1.length mid.length s).1+w/\(d9 l1.length mid.length s).1+w < ((l1++mid++l2).length:Int) then some (Sum.inl ((d9 l1.length mid.length s).1+w,w,q)) else some (Sum.inr (w,q)))=_
    obtain ⟨t',ht',te⟩:=nY V.1 V.2.1
    have tg:=hgs t' (List.mem_of_getElem? ht')
    rw[te] at h ⊢
    have g:=(tg.at (w:=s.2.1) V.2.2.2.1 V.2.2.2.2).2
    cases ha:t'.at s.2.1 s.2.2 with
    | none=>rw[ha] at h;cases h
    | some x=>
     obtain ⟨w1,q1⟩:=x
     rw[ha] at h g
     obtain ⟨l1s,l2s⟩:=m8 (l2:=l2) (aW m mid) hm (q':=q1) hi V.1 V.2.1 g.1
     dsimp only at h ⊢
     by_cases hin:0<=s.1+w1/\s.1+w1 < ((l1++[aW m mid]++l2).length:Int)
     ·rw[if_pos hin] at h;cases h
      rw[if_pos (l1s.mp hin),l2s hin]
     ·rw[if_neg hin] at h;cases h
 ·rintro ⟨n,h⟩
  induction n using Nat.strongRecOn generalizing s with
  | _ n ih=>
   by_cases hi:s.1=(l1.length:Int)
   ·rw[Lm hi] at h
    obtain ⟨k,i',w',q',o',hk,Vi,ha,hn,j,hj,he⟩:=aLE (l1:=l1) (l2:=l2) hg (Vm V) h
    have ho:=nZ hg (Vm V) hk
    obtain ⟨lv1,lv2⟩:=leave Vi.1 Vi.2.1 ho.1 hn
    have hr:bT (aP mid) ((if s.2.1=1 then 0 else (mid.length:Int) - 1),s.2.1,s.2.2)=some o':=((eZ (aP mid) _) o').mpr ⟨k,hk⟩
    have hst:aP (l1++[aW m mid]++l2) s=if 0<=s.1+o'.1/\s.1+o'.1 < ((l1++[aW m mid]++l2).length:Int) then some (Sum.inl (s.1+o'.1,o'.1,o'.2)) else some (Sum.inr (o'.1,o'.2)):=by
     unfold aP
     rw[show (l1++[aW m mid]++l2).getD s.1.toNat ⟨[],[]⟩=aW m mid by rw[hi];exact u9 _,aF5 V.2.2.1 V.2.2.2.1 V.2.2.2.2 hm,hr]
    have hlg:aP (l1++mid++l2) ((l1.length:Int)+i',w',q')=if 0<=(l1.length:Int)+i'+o'.1/\(l1.length:Int)+i'+o'.1 < ((l1++mid++l2).length:Int) then some (Sum.inl ((l1.length:Int)+i'+o'.1,o'.1,o'.2)) else some (Sum.inr (o'.1,o'.2)):=by
     unfold aP;dsimp only
     rw[kZ i' Vi.1 Vi.2.1,ha]
    rw[hi] at hst
    by_cases hin:0<=(l1.length:Int)+o'.1/\(l1.length:Int)+o'.1 < ((l1++[aW m mid]++l2).length:Int)
    ·rw[if_pos hin] at hst
     rw[if_pos (lv1.mp hin)] at hlg
     have V':fR m (l1++[aW m mid]++l2) ((l1.length:Int)+o'.1,o'.1,o'.2):=⟨hin.1,hin.2,ho.1,ho.2.1,ho.2.2⟩
     cases he with
     | out h'=>rw[hlg] at h';cases h'
     | @go _ _ _ j' h' t=>
      rw[hlg] at h';cases h'
      rw[<-lv2] at t
      obtain ⟨r,hr'⟩:=ih j' (by omega) V' t
      exact ⟨r+1,.go hst hr'⟩
    ·rw[if_neg hin] at hst
     rw[if_neg fun z=>hin (lv1.mpr z)] at hlg
     cases he with
     | out h'=>rw[hlg] at h';cases h';exact ⟨0,.out hst⟩
     | go h' t=>rw[hlg] at h';cases h'
   ·obtain ⟨t',ht',te⟩:=nY V.1 V.2.1
    have tg:=hgs t' (List.mem_of_getElem? ht')
    have g:=(tg.at (w:=s.2.1) V.2.2.2.1 V.2.2.2.2).2
    have hlg:∀ x,aP (l1++mid++l2) (d9 l1.length mid.length s)=x->(match t'.at s.2.1 s.2.2 with|none=>none|some (w,q)=>if 0<=(d9 l1.length mid.length s).1+w/\(d9 l1.length mid.length s).1+w < ((l1++mid++l2).length:Int) then some (Sum.inl ((d9 l1.length mid.length s).1+w,w,q)) else some (Sum.inr (w,q)))=x:=fun x hx=>by
     unfold aP at hx
     rw[<-sD (aW m mid) s V.1 hi hm,te] at hx
     exact hx
    cases h with
    | @out _ _ h=>
     have h':=hlg _ h
     refine ⟨0,.out ?_⟩
     unfold aP
     rw[te]
     cases ha:t'.at s.2.1 s.2.2 with
     | none=>rw[ha] at h';cases h'
     | some x=>
      obtain ⟨w1,q1⟩:=x
      rw[ha] at h' g
      obtain ⟨l1s,l2s⟩:=m8 (l2:=l2) (aW m mid) hm (q':=q1) hi V.1 V.2.1 g.1
      dsimp only at h' ⊢
      by_cases hin:0<=s.1+w1/\s.1+w1 < ((l1++[aW m mid]++l2).length:Int)
      ·rw[if_pos (l1s.mp hin)] at h';cases h'
      ·rw[if_neg fun z=>hin (l1s.mpr z)] at h';cases h'
       rw[if_neg hin]
    | @go _ s' _ n' h t=>
     have h':=hlg _ h
     cases ha:t'.at s.2.1 s.2.2 with
     | none=>rw[ha] at h';cases h'
     | some x=>
      obtain ⟨w1,q1⟩:=x
      rw[ha] at h' g
      obtain ⟨l1s,l2s⟩:=m8 (l2:=l2) (aW m mid) hm (q':=q1) hi V.1 V.2.1 g.1
      dsimp only at h'
      by_cases hin:0<=s.1+w1/\s.1+w1 < ((l1++[aW m mid]++l2).length:Int)
      ·rw[if_pos (l1s.mp hin),<-l2s hin] at h';cases h'
       have V':fR m (l1++[aW m mid]++l2) (s.1+w1,w1,q1):=⟨hin.1,hin.2,g.1,g.2.1,g.2.2⟩
       obtain ⟨r,hr'⟩:=ih n' (by omega) V' t
       refine ⟨r+1,.go ?_ hr'⟩
       unfold aP
       rw[te,ha];dsimp only
       rw[if_pos hin]
      ·rw[if_neg fun z=>hin (l1s.mpr z)] at h';cases h'
theorem sE(hg1:∀ t∈l1,t.good m)(hg:∀ t∈mid,t.good m)(hg2:∀ t∈l2,t.good m)(hm:1<=mid.length):aW m (l1++[aW m mid]++l2)=aW m (l1++mid++l2):=by
 have hl:((l1++[aW m mid]++l2).length:Int)=(l1.length:Int)+1+(l2.length:Int):=by simp;omega
 have hl2:((l1++mid++l2).length:Int)=(l1.length:Int)+(mid.length:Int)+(l2.length:Int):=by simp;omega
 unfold aW
 congr 1
 ·refine List.map_congr_left fun q hq=>kP fun o=>?_
  have hq:=List.mem_range.mp hq
  rw[<-aW,yG hg1 hg hg2 hm ⟨by show (0:Int)<=0;decide,by show (0:Int) < _;omega,.inl rfl,by show (0:Int)<=(q:Int);omega,by show (q:Int) < _;omega⟩]
  have e:d9 l1.length mid.length (0,1,(q:Int))=(0,1,(q:Int)):=by
   unfold d9
   refine Prod.ext ?_ rfl
   show (if (0:Int) < (l1.length:Int) then (0:Int) else if (0:Int)=(l1.length:Int) then (if (1:Int)=1 then (l1.length:Int) else (l1.length:Int)+(mid.length:Int) - 1) else 0+(mid.length:Int) - 1)=0
   by_cases h:(0:Int) < (l1.length:Int)
   · rw [if_pos h]
   · rw [if_neg h, if_pos (by omega), if_pos rfl]; omega
  rw[e]
 ·refine List.map_congr_left fun q hq=>kP fun o=>?_
  have hq:=List.mem_range.mp hq
  rw[<-aW,yG hg1 hg hg2 hm ⟨by show (0:Int)<=_ - 1;omega,by show _ - 1 < _;omega,.inr rfl,by show (0:Int)<=(q:Int);omega,by show (q:Int) < _;omega⟩]
  have e:d9 l1.length mid.length (((l1++[aW m mid]++l2).length:Int) - 1,-1,(q:Int))=(((l1++mid++l2).length:Int) - 1,-1,(q:Int)):=by
   unfold d9
   refine Prod.ext ?_ rfl
   show (if ((l1++[aW m mid]++l2).length:Int) - 1 < (l1.length:Int) then ((l1++[aW m mid]++l2).length:Int) - 1 else if ((l1++[aW m mid]++l2).length:Int) - 1=(l1.length:Int) then (if (-1:Int)=1 then (l1.length:Int) else (l1.length:Int)+(mid.length:Int) - 1) else ((l1++[aW m mid]++l2).length:Int) - 1+(mid.length:Int) - 1)=((l1++mid++l2).length:Int) - 1
   rw[hl,hl2,if_neg (by omega)]
   by_cases h:(l2.length:Int)=0
   · rw [if_pos (by omega), if_neg (by decide)]; omega
   · rw [if_neg (by omega)]; omega
  rw[e]
end
end Mc
namespace Mc
open PySem L2 PyProof.Rows
theorem wB{S:Type}(f:S->Nat)(N:Nat)(l:List S)(hn:l.Nodup)(hf:∀ s∈l,f s < N)(hi:∀ a∈l,∀ b∈l,f a=f b->a=b):l.length<=N:=by
 have h:=pY N (l.map f) ?_ ?_
 ·rw[List.length_map] at h;exact h
 ·unfold List.Nodup
  rw[List.pairwise_map]
  exact List.Pairwise.imp_of_mem (fun {a b} ha hb hab e=>hab (hi a ha b hb e)) hn
 ·intro x hx
  obtain ⟨s,hs,rfl⟩:=List.mem_map.mp hx
  exact hf s hs
def oQ(m:Nat)(s:Int×Int):Prop:=(s.1=1\/s.1 = -1)/\0<=s.2/\s.2 < (m:Int)
theorem yH{m:Nat}{l:List (Int×Int)}(hn:l.Nodup)(hv:∀ s∈l,oQ m s):l.length<=2 * m:=by
 refine wB (fun s=>(if s.1=1 then 0 else m)+s.2.toNat) (2 * m) l hn (fun s hs=>?_) (fun a ha b hb e=>?_)
 ·obtain ⟨h1,h2,h3⟩:=hv s hs
  split<;>omega
 ·obtain ⟨a1,a2,a3⟩:=hv a ha
  obtain ⟨b1,b2,b3⟩:=hv b hb
  refine Prod.ext ?_ ?_
  ·rcases a1 with a1|a1<;>rcases b1 with b1|b1<;>rw[a1,b1] at e ⊢
   · rw [if_pos rfl, if_neg (by decide)] at e; omega
   · rw [if_neg (by decide), if_pos rfl] at e; omega
  ·rcases a1 with a1|a1<;>rcases b1 with b1|b1<;>rw[a1,b1] at e
   · omega
   · rw [if_pos rfl, if_neg (by decide)] at e; omega
   · rw [if_neg (by decide), if_pos rfl] at e; omega
   · omega
def d2(a b:Tb)(s:Int×Int):Option ((Int×Int)⊕(Int×Int)):=
 match (if s.1=1 then b.at 1 s.2 else a.at (-1) s.2) with
 | none=>none
 | some (w,q)=>if w = -s.1 then some (.inl (w,q)) else some (.inr (w,q))
def gA(s:Int×Int):Int×Int×Int:=((if s.1=1 then 1 else 0),s.1,s.2)
theorem gone_box{a b:Tb}{m:Nat}(ha:a.good m)(hb:b.good m){s:Int×Int}(V:oQ m s):(d2 a b s=none/\aP [a,b] (gA s)=none)\/(∃ s',d2 a b s=some (.inl s')/\aP [a,b] (gA s)=some (.inl (gA s'))/\oQ m s')\/∃ o,d2 a b s=some (.inr o)/\aP [a,b] (gA s)=some (.inr o):=by
 obtain ⟨w,q⟩:=s
 obtain ⟨v1,v2,v3⟩:=V
 dsimp only at v1 v2 v3
 have e0:([a,b].getD (0:Int).toNat ⟨[],[]⟩)=a:=rfl
 have e1:([a,b].getD (1:Int).toNat ⟨[],[]⟩)=b:=rfl
 rcases v1 with rfl|rfl
 ·have g:=(hb.at (w:=1) v2 v3).2
  cases h:b.at 1 q with
  | none=>exact .inl ⟨by unfold d2;dsimp only;rw[if_pos rfl,h],by unfold aP gA;dsimp only;rw[if_pos rfl,e1,h]⟩
  | some x=>
   obtain ⟨w',q'⟩:=x
   rw[h] at g
   obtain ⟨g1,g2,g3⟩:=g
   rcases g1 with rfl|rfl
   ·refine .inr (.inr ⟨(1,q'),by unfold d2;dsimp only;rw[if_pos rfl,h];dsimp only;rw[if_neg (by decide)],?_⟩)
    unfold aP gA;dsimp only;rw[if_pos rfl,e1,h];dsimp only
    rw[if_neg (by show ¬ (0<=(1:Int)+1/\(1:Int)+1 < 2);decide)]
   ·refine .inr (.inl ⟨(-1,q'),by unfold d2;dsimp only;rw[if_pos rfl,h];dsimp only;rw[if_pos rfl],?_,.inr rfl,g2,g3⟩)
    unfold aP gA;dsimp only;rw[if_pos rfl,e1,h];dsimp only
    rw[if_pos (by show (0<=(1:Int) + -1/\(1:Int) + -1 < 2);decide),if_neg (by decide)];rfl
 ·have g:=(ha.at (w:=-1) v2 v3).2
  cases h:a.at (-1) q with
  | none=>exact .inl ⟨by unfold d2;dsimp only;rw[if_neg (by decide),h],by unfold aP gA;dsimp only;rw[if_neg (by decide),e0,h]⟩
  | some x=>
   obtain ⟨w',q'⟩:=x
   rw[h] at g
   obtain ⟨g1,g2,g3⟩:=g
   rcases g1 with rfl|rfl
   ·refine .inr (.inl ⟨(1,q'),by unfold d2;dsimp only;rw[if_neg (by decide),h];dsimp only;rw[if_pos (by decide)],?_,.inl rfl,g2,g3⟩)
    unfold aP gA;dsimp only;rw[if_neg (by decide),e0,h];dsimp only
    rw[if_pos (by show (0<=(0:Int)+1/\(0:Int)+1 < 2);decide),if_pos rfl];rfl
   ·refine .inr (.inr ⟨(-1,q'),by unfold d2;dsimp only;rw[if_neg (by decide),h];dsimp only;rw[if_neg (by decide)],?_⟩)
    unfold aP gA;dsimp only;rw[if_neg (by decide),e0,h];dsimp only
    rw[if_neg (by show ¬ (0<=(0:Int) + -1/\(0:Int) + -1 < 2);decide)]
theorem yI{a b:Tb}{m:Nat}(ha:a.good m)(hb:b.good m){s:Int×Int}(V:oQ m s):bT (d2 a b) s=bT (aP [a,b]) (gA s):=by
 refine kP fun o=>⟨?_,?_⟩
 ·rintro ⟨n,h⟩
  refine ⟨n,?_⟩
  induction h with
  | out h=>
   rcases gone_box ha hb V with ⟨e,_⟩|⟨s',e,_⟩|⟨o',e,g⟩
   · rw [h] at e; cases e
   · rw [h] at e; cases e
   · rw [h] at e; cases e; exact .out g
  | go h t ih=>
   rcases gone_box ha hb V with ⟨e,_⟩|⟨s',e,g,V'⟩|⟨o',e,g⟩
   · rw [h] at e; cases e
   · rw [h] at e; cases e; exact .go g (ih V')
   · rw [h] at e; cases e
 ·rintro ⟨n,h⟩
  refine ⟨n,?_⟩
  generalize hs:gA s=p at h
  induction h generalizing s with
  | out h=>
   subst hs
   rcases gone_box ha hb V with ⟨_,e⟩|⟨s',_,e,_⟩|⟨o',g,e⟩
   · rw [h] at e; cases e
   · rw [h] at e; cases e
   · rw [h] at e; cases e; exact .out g
  | go h t ih=>
   subst hs
   rcases gone_box ha hb V with ⟨_,e⟩|⟨s',g,e,V'⟩|⟨o',_,e⟩
   · rw [h] at e; cases e
   · rw [h] at e; cases e; exact .go g (ih V' rfl)
   · rw [h] at e; cases e
noncomputable def iW(a b:Tb)(th:Th)(w:Int):Th:=
 match th with
 | none=>none
 | some (d,q)=>if d=w then bT (d2 a b) (d,q) else some (d,q)
theorem kC{S O:Type}{st:S->Option (S⊕O)}{s s':S}(h:st s=some (.inl s')):bT st s=bT st s':=(((eZ st s').step h).eq).symm
theorem gR{S O:Type}{st:S->Option (S⊕O)}{s:S}{o:O}(h:st s=some (.inr o)):bT st s=some o:=((Res.out h).eq).symm
theorem jR{S O:Type}{st:S->Option (S⊕O)}{s:S}(h:st s=none):bT st s=none:=((Res.stuck h).eq).symm
theorem aD7{a b:Tb}{m:Nat}(ha:a.good m)(hb:b.good m){q:Int}(h0:0<=q)(h1:q < (m:Int)):iW a b (a.at 1 q) 1=bT (aP [a,b]) (0,1,q):=by
 have g:=(ha.at (w:=1) h0 h1).2
 have e:([a,b].getD (0:Int).toNat ⟨[],[]⟩)=a:=rfl
 cases h:a.at 1 q with
 | none=>
  rw[jR (by unfold aP;dsimp only;rw[e,h])];rfl
 | some x=>
  obtain ⟨w,q'⟩:=x
  rw[h] at g
  obtain ⟨g1,g2,g3⟩:=g
  rcases g1 with rfl|rfl
  ·rw[kC (s':=(1,1,q')) (by unfold aP;dsimp only;rw[e,h];dsimp only;rw[if_pos (by show (0<=(0:Int)+1/\(0:Int)+1 < 2);decide)];rfl)]
   show (if (1:Int)=1 then bT (d2 a b) (1,q') else some (1,q'))=_
   rw[if_pos rfl,yI ha hb ⟨.inl rfl,g2,g3⟩];rfl
  ·rw[gR (o:=(-1,q')) (by unfold aP;dsimp only;rw[e,h];dsimp only;rw[if_neg (by show ¬ (0<=(0:Int) + -1/\(0:Int) + -1 < 2);decide)])]
   show (if (-1:Int)=1 then bT (d2 a b) (-1,q') else some (-1,q'))=_
   rw[if_neg (by decide)]
theorem aF6{a b:Tb}{m:Nat}(ha:a.good m)(hb:b.good m){q:Int}(h0:0<=q)(h1:q < (m:Int)):iW a b (b.at (-1) q) (-1)=bT (aP [a,b]) (1,-1,q):=by
 have g:=(hb.at (w:=-1) h0 h1).2
 have e:([a,b].getD (1:Int).toNat ⟨[],[]⟩)=b:=rfl
 cases h:b.at (-1) q with
 | none=>
  rw[jR (by unfold aP;dsimp only;rw[e,h])];rfl
 | some x=>
  obtain ⟨w,q'⟩:=x
  rw[h] at g
  obtain ⟨g1,g2,g3⟩:=g
  rcases g1 with rfl|rfl
  ·rw[gR (o:=(1,q')) (by unfold aP;dsimp only;rw[e,h];dsimp only;rw[if_neg (by show ¬ (0<=(1:Int)+1/\(1:Int)+1 < 2);decide)])]
   show (if (1:Int) = -1 then bT (d2 a b) (1,q') else some (1,q'))=_
   rw[if_neg (by decide)]
  ·rw[kC (s':=(0,-1,q')) (by unfold aP;dsimp only;rw[e,h];dsimp only;rw[if_pos (by show (0<=(1:Int) + -1/\(1:Int) + -1 < 2);decide)];rfl)]
   show (if (-1:Int) = -1 then bT (d2 a b) (-1,q') else some (-1,q'))=_
   rw[if_pos rfl,yI ha hb ⟨.inr rfl,g2,g3⟩];rfl
theorem aF7{a b:Tb}{m:Nat}(ha:a.good m)(hb:b.good m):a.f.map (fun th=>iW a b th 1)=(aW m [a,b]).f:=by
 refine List.ext_getElem? fun i=>?_
 show _=((List.range m).map _)[i]?
 rw[List.getElem?_map,List.getElem?_map]
 by_cases hi:i < m
 ·rw[List.getElem?_range hi]
  have:=(ha.at (w:=1) (q:=(i:Int)) (by omega) (by omega)).1
  rw[if_pos rfl] at this
  rw[show ((i:Int)).toNat=i by omega] at this
  rw[this]
  show some (iW a b (a.at 1 (i:Int)) 1)=_
  rw[aD7 ha hb (by omega) (by omega)];rfl
 ·rw[List.getElem?_eq_none (by rw[ha.lf];omega),List.getElem?_eq_none (by simp;omega)];rfl
theorem aF8{a b:Tb}{m:Nat}(ha:a.good m)(hb:b.good m):b.a.map (fun th=>iW a b th (-1))=(aW m [a,b]).a:=by
 refine List.ext_getElem? fun i=>?_
 show _=((List.range m).map _)[i]?
 rw[List.getElem?_map,List.getElem?_map]
 by_cases hi:i < m
 ·rw[List.getElem?_range hi]
  have:=(hb.at (w:=-1) (q:=(i:Int)) (by omega) (by omega)).1
  rw[if_neg (by decide)] at this
  rw[show ((i:Int)).toNat=i by omega] at this
  rw[this]
  show some (iW a b (b.at (-1) (i:Int)) (-1))=_
  rw[aF6 ha hb (by omega) (by omega)];rfl
 ·rw[List.getElem?_eq_none (by rw[hb.la];omega),List.getElem?_eq_none (by simp;omega)];rfl
def thD:Th->PyData
 | none=>.none
 | some (d,q)=>eM d q
def tbD(t:Tb):PyData:=l8 (t.f.map thD) (t.a.map thD)
theorem aF9(x:Th):jF (thD x):=by
 cases x with
 | none=>exact .inl rfl
 | some o=>exact .inr ⟨o.1,o.2,rfl⟩
theorem m9(l:List Th):∀ d∈l.map thD,jF d:=fun d hd=>by
 obtain ⟨x,_,rfl⟩:=List.mem_map.mp hd
 exact aF9 x
def bL(m:Nat):Tb:=⟨(List.range m).map fun q:Nat=>some (1,(q:Int)),(List.range m).map fun q:Nat=>some (-1,(q:Int))⟩
theorem aIV(m:Nat):tbD (bL m)=l8 (aD5 m) (aD6 m):=by
 unfold tbD bL aD5 aD6
 rw[List.map_map,List.map_map];rfl
theorem oR(m:Nat):(bL m).good m where
 lf:=by unfold bL;simp
 la:=by unfold bL;simp
 gf:=fun x hx=>by
  obtain ⟨q,hq,rfl⟩:=List.mem_map.mp hx
  have:=List.mem_range.mp hq
  exact ⟨.inl rfl,by omega,by omega⟩
 ga:=fun x hx=>by
  obtain ⟨q,hq,rfl⟩:=List.mem_map.mp hx
  have:=List.mem_range.mp hq
  exact ⟨.inr rfl,by omega,by omega⟩
theorem oS{m:Nat}{w q:Int}(hw:w=1\/w = -1)(h0:0<=q)(h1:q < (m:Int)):(bL m).at w q=some (w,q):=by
 unfold Tb.at bL
 have hl:q.toNat < m:=by omega
 have e:((q.toNat:Nat):Int)=q:=by omega
 rcases hw with rfl|rfl
 ·rw[if_pos rfl,List.getD_eq_getElem?_getD,List.getElem?_map,List.getElem?_range hl]
  show (some (some ((1:Int),((q.toNat:Nat):Int)))).getD none=_
  rw[e];rfl
 ·rw[if_neg (by decide),List.getD_eq_getElem?_getD,List.getElem?_map,List.getElem?_range hl]
  show (some (some ((-1:Int),((q.toNat:Nat):Int)))).getD none=_
  rw[e];rfl
theorem yJ{m:Nat}{a b:Tb}(ha:a.good m)(hb:b.good m)(h:∀ (w q:Int),(w=1\/w = -1)->0<=q->q < (m:Int)->a.at w q=b.at w q):a=b:=by
 have key:∀ w:Int,(w=1\/w = -1)->(if w=1 then a.f else a.a)=(if w=1 then b.f else b.a):=fun w hw=>by
  refine List.ext_getElem? fun i=>?_
  by_cases hi:i < m
  ·have e1:=(ha.at (w:=w) (q:=(i:Int)) (by omega) (by omega)).1
   have e2:=(hb.at (w:=w) (q:=(i:Int)) (by omega) (by omega)).1
   rw[show ((i:Int)).toNat=i by omega] at e1 e2
   rw[e1,e2,h w i hw (by omega) (by omega)]
  ·rw[List.getElem?_eq_none (by split;rw[ha.lf];omega;rw[ha.la];omega),List.getElem?_eq_none (by split;rw[hb.lf];omega;rw[hb.la];omega)]
 have f:=key 1 (.inl rfl)
 have g:=key (-1) (.inr rfl)
 rw[if_pos rfl,if_pos rfl] at f
 rw[if_neg (by decide),if_neg (by decide)] at g
 cases a;cases b
 dsimp only at f g
 rw[f,g]
theorem aIW{m:Nat}{t:Tb}(h:t.good m):aW m [t]=t:=by
 refine yJ (iT (fun x hx=>by rw[List.mem_singleton.mp hx];exact h) (by simp)) h fun w q hw h0 h1=>?_
 rw[m6 h0 h1]
 have g:=(h.at (w:=w) h0 h1).2
 have key:bT (aP [t]) (0,w,q)=t.at w q:=by
  have e:([t].getD (0:Int).toNat ⟨[],[]⟩)=t:=rfl
  cases hh:t.at w q with
  | none=>exact jR (by unfold aP;dsimp only;rw[e,hh])
  | some x=>
   obtain ⟨w',q'⟩:=x
   rw[hh] at g
   refine gR (by unfold aP;dsimp only;rw[e,hh];dsimp only;rw[if_neg];rcases g.1 with rfl|rfl<;>(show ¬ (0<=(0:Int)+_/\(0:Int)+_ < 1);decide))
 rcases hw with rfl|rfl
 ·rw[if_pos rfl];exact key
 ·rw[if_neg (by decide)];exact key
theorem aCI{m:Nat}{t:Tb}(h:t.good m):aW m [bL m,t]=t:=by
 have hg:∀ x∈[bL m,t],x.good m:=fun x hx=>by
  rcases List.mem_cons.mp hx with z|z
  ·rw[z];exact oR m
  ·rw[List.mem_singleton.mp z];exact h
 have e0:([bL m,t].getD (0:Int).toNat ⟨[],[]⟩)=bL m:=rfl
 have e1:([bL m,t].getD (1:Int).toNat ⟨[],[]⟩)=t:=rfl
 refine yJ (iT hg (by simp)) h fun w q hw h0 h1=>?_
 have inner:∀ w:Int,bT (aP [bL m,t]) (1,w,q)=t.at w q:=fun w=>by
  have g:=(h.at (w:=w) h0 h1).2
  cases hh:t.at w q with
  | none=>exact jR (by unfold aP;dsimp only;rw[e1,hh])
  | some x=>
   obtain ⟨w',q'⟩:=x
   rw[hh] at g
   obtain ⟨g1,g2,g3⟩:=g
   rcases g1 with rfl|rfl
   ·exact gR (by unfold aP;dsimp only;rw[e1,hh];dsimp only;rw[if_neg (by show ¬ (0<=(1:Int)+1/\(1:Int)+1 < 2);decide)])
   ·rw[kC (s':=(0,-1,q')) (by unfold aP;dsimp only;rw[e1,hh];dsimp only;rw[if_pos (by show (0<=(1:Int) + -1/\(1:Int) + -1 < 2);decide)];rfl)]
    exact gR (by unfold aP;dsimp only;rw[e0,oS (.inr rfl) g2 g3];dsimp only;rw[if_neg (by show ¬ (0<=(0:Int) + -1/\(0:Int) + -1 < 2);decide)])
 rw[m6 h0 h1]
 rcases hw with rfl|rfl
 ·rw[if_pos rfl,kC (s':=(1,1,q)) (by unfold aP;dsimp only;rw[e0,oS (.inl rfl) h0 h1];dsimp only;rw[if_pos (by show (0<=(0:Int)+1/\(0:Int)+1 < 2);decide)];rfl)]
  exact inner 1
 ·rw[if_neg (by decide)];exact inner (-1)
theorem aAB{m:Nat}{t:Tb}(h:t.good m):aW m [t,bL m]=t:=by
 have hg:∀ x∈[t,bL m],x.good m:=fun x hx=>by
  rcases List.mem_cons.mp hx with z|z
  ·rw[z];exact h
  ·rw[List.mem_singleton.mp z];exact oR m
 have e0:([t,bL m].getD (0:Int).toNat ⟨[],[]⟩)=t:=rfl
 have e1:([t,bL m].getD (1:Int).toNat ⟨[],[]⟩)=bL m:=rfl
 refine yJ (iT hg (by simp)) h fun w q hw h0 h1=>?_
 have inner:∀ w:Int,bT (aP [t,bL m]) (0,w,q)=t.at w q:=fun w=>by
  have g:=(h.at (w:=w) h0 h1).2
  cases hh:t.at w q with
  | none=>exact jR (by unfold aP;dsimp only;rw[e0,hh])
  | some x=>
   obtain ⟨w',q'⟩:=x
   rw[hh] at g
   obtain ⟨g1,g2,g3⟩:=g
   rcases g1 with rfl|rfl
   ·rw[kC (s':=(1,1,q')) (by unfold aP;dsimp only;rw[e0,hh];dsimp only;rw[if_pos (by show (0<=(0:Int)+1/\(0:Int)+1 < 2);decide)];rfl)]
    exact gR (by unfold aP;dsimp only;rw[e1,oS (.inl rfl) g2 g3];dsimp only;rw[if_neg (by show ¬ (0<=(1:Int)+1/\(1:Int)+1 < 2);decide)])
   ·exact gR (by unfold aP;dsimp only;rw[e0,hh];dsimp only;rw[if_neg (by show ¬ (0<=(0:Int) + -1/\(0:Int) + -1 < 2);decide)])
 rw[m6 h0 h1]
 rcases hw with rfl|rfl
 ·rw[if_pos rfl];exact inner 1
 ·rw[if_neg (by decide),kC (s':=(0,-1,q)) (by unfold aP;dsimp only;show (match ([t,bL m].getD (1:Int).toNat ⟨[],[]⟩).at (-1) q with|none=>none|some (w,q)=>if 0<=(2:Int) - 1+w/\(2:Int) - 1+w < 2 then some (Sum.inl ((2:Int) - 1+w,w,q)) else some (Sum.inr (w,q)))=_;rw[e1,oS (.inr rfl) h0 h1];rfl)]
  exact inner (-1)
end Mc
namespace L2
open PySem PySem.Spec PyProof.Rows
def Its(z:Str):It:=⟨fun i _=>i < z.cps.size,fun i H x H'=>H'=H/\∃ c,z.cps[i]? = some c/\x=.str ⟨#[c]⟩,fun i _=>i=z.cps.size⟩
theorem yK{P:Program}{w:World}{K:Frag}{tg:Expr}(z:Str)(t:Tok)(T:String)(hT:∀ A:Around,A.handled=none->∀ it,Walks P w A it [it] [it] z.cps.size (SignAt z) fun i h=>h.IsStrIter it T z t i)
  (hself:∀ (A:Around) (it:Addr) (i:Nat) (s:Shared) (Q E:Value->Shared->Prop),s.heap.IsStrIter it T z t i->Q (.ref it) s->wpAny (model P w) A (pyIter (.ref it)) Q E s)
  (hno:["enumerate","zip","dict_itemiterator","dict_reverseitemiterator","odict_iterator","itertools.zip_longest","itertools.pairwise"].contains T=false) (it:Addr):Turn P w K tg (Its z) [it] it (fun i h=>h.IsStrIter it T z t i) where
 mem:=by simp
 obj:=fun i h st b hb=>by
  obtain rfl:b=it:=by simpa using hb
  obtain ⟨o,e,c,d⟩:=st
  exact ⟨o,e,fun v z=>by rw[d] at z;cases z⟩
 keep:=fun i h h' st k=>by
  obtain ⟨o,e,c,d⟩:=st
  exact ⟨o,k it (by simp) o e,c,d⟩
 item:=by
  intro X hP hw hK hc i pins s σ H E I hf st hg
  subst hP hw hK
  obtain ⟨f0,f1,f2,f3,f4,f5⟩:=hf it (by simp)
  refine (hT X.A (I.ok.hd hc) it).item i s _ E hg st fun v h' tk hv st' kp=>?_
  obtain ⟨c,tc,hcc,rfl⟩:=hv
  have I1:Inv X pins σ H {s with heap:=h',toks:=tk}:=I.turned (t':=tk) (it:=it) (fun b o hb e=>kp b o (by simpa using hb) e) f0 f1 f3 f4 f5
  obtain ⟨o,e,cc,d⟩:=id st'
  exact ⟨_,rfl,xF (s:={s with heap:=h',toks:=tk}) e cc d hno ⟨.str ⟨#[c]⟩,H,I1,⟨_,rfl⟩,⟨rfl,c,hcc,rfl⟩,st',fun b hb=>(hf b hb).1⟩⟩
 done:=by
  intro X hP hw hK hc i pins s σ H E I hf st hg
  subst hP hw hK
  obtain ⟨f0,f1,f2,f3,f4,f5⟩:=hf it (by simp)
  have hg:i=z.cps.size:=hg
  subst hg
  exact (hT X.A (I.ok.hd hc) it).done s _ E st fun h' tk kp=>⟨rfl,I.turned (t':=tk) (it:=it) (fun b o hb e=>kp b o (by simpa using hb) e) f0 f1 f3 f4 f5⟩
 self:=fun A i s Q E st h=>hself A it i s Q E st h
def aOY(te:TE):TI:=fun σ H R=>te σ H fun x H1=>∃ z,x=.str z/\R (Its z) H1
theorem aD8{X:Cx}{tg l:Expr}{tl:TE}(hl:PE X l tl):PI X tg l (aOY tl):=by
 intro pins s σ H R I h
 refine thn (hl pins s σ H _ I h) fun v s1 zz0=>?_
 obtain ⟨x,H1,I1,r1,q1⟩:=zz0
 obtain ⟨z,e,q⟩:=q1
 subst e
 obtain ⟨t,rfl⟩:=r1
 refine wpAny_pyIter_strU ?_
 have I2:Inv X pins σ H1 {s1 with heap:=s1.heap.push {cls:=.type (strIterType z),data:=.fields #[.str z t,.int 0 0]}}:=I1.kept (t':=s1.toks) fun b o e=>Heap.get?_push_of_some _ e
 have st:(s1.heap.push {cls:=.type (strIterType z),data:=.fields #[.str z t,.int 0 0]}).IsStrIter s1.heap.objs.size (strIterType z) z t 0:=⟨_,Heap.get?_push_size _ rfl,rfl,rfl⟩
 have fin:∀ b∈[s1.heap.objs.size],j9 X pins H1 b:=fun b hb=>by
  obtain rfl:=List.mem_singleton.mp hb
  exact I1.fpOk (Nat.le_refl _) (I1.hok.fresh (Nat.le_refl _))
 by_cases ha:(z.cps.all fun x=>decide (x < 128))=true
 ·have eT:strIterType z="str_ascii_iterator":=by unfold strIterType;rw[if_pos ha]
  rw[eT] at st I2 ⊢
  exact ⟨s1.heap.objs.size,[s1.heap.objs.size],_,_,H1,rfl,I2,yK z t "str_ascii_iterator" (fun A hA it=>Walks.strAscii hA it z t) (fun A it i s Q E st h=>wpAny_pyIter_striter_ascii st h) (by decide) _,st,fin,q⟩
 ·have eT:strIterType z="str_iterator":=by unfold strIterType;rw[if_neg ha]
  rw[eT] at st I2 ⊢
  exact ⟨s1.heap.objs.size,[s1.heap.objs.size],_,_,H1,rfl,I2,yK z t "str_iterator" (fun A hA it=>Walks.strWide hA it z t) (fun A it i s Q E st h=>wpAny_pyIter_striter_wide st h) (by decide) _,st,fin,q⟩
theorem vA:∀ {xs:List V} {ys:List Value},xs.length=ys.length->(∀ (i:Nat) x y,xs[i]? = some x->ys[i]? = some y->bF x y)->bB xs ys
 | [],[],_,_=>.nil
 | [],_::_,h,_=>by simp at h
 | _::_,[],h,_=>by simp at h
 | x::xs,y::ys,h,f=>.cons (f 0 x y rfl rfl) (vA (by simpa using h) fun i a b h1 h2=>f (i+1) a b (by simpa using h1) (by simpa using h2))
theorem aAC{X:Cx}:eX X (.type "range") (fun xs H Q=>∃ n:Nat,xs=[.int n]/\n<=1000000/\∀ p,H p=none->Q (.ref p) (upd H p (.rng 0 n))):=by
 intro pins s σ H xs us Q I r h
 obtain ⟨n,rfl,hn,q⟩:=h
 obtain ⟨u,rfl,t,rfl⟩:=iV r
 refine call_range_1 ?_
 refine ⟨.ref s.heap.objs.size,_,I.laid (o:=.rng 0 n) (fun b ob q=>Heap.get?_push_of_some _ q) (Nat.le_refl _) ⟨_,_,_,Heap.get?_push_size _ rfl⟩,rfl,q _ (I.hok.fresh (Nat.le_refl _))⟩
theorem wS{X:Cx}(hc:X.calm=true):eX X (.type "list") (fun xs H Q=>∃ (p:Addr) (n:Nat),xs=[.ref p]/\H p=some (.rng 0 n)/\n<=1000000/\∀ l,H l=none->Q (.ref l) (upd H l (.lst ((List.range n).map fun i:Nat=>V.int (i:Int))))):=by
 intro pins s σ H xs us Q I r h
 obtain ⟨p,n,rfl,hp,hn,q⟩:=h
 obtain ⟨u,rfl,ru⟩:=iV r
 cases (show u=Value.ref p from ru)
 obtain ⟨t,u,v,hr⟩:=(show b8 X.prog X.w H s.heap p (.rng 0 n) from I.hok p _ hp)
 refine call_list_range (a:=0) (b:=(n:Int)) (c:=1) (n:=n) (I.ok.hd hc) hr (small_one (by omega) (by omega) (by omega) (by omega)) (by rw[rangeSize_one];split<;>omega) (by omega) fun h' tk acc c kp e it=>?_
 have hv:bB ((List.range n).map fun i:Nat=>V.int (i:Int)) acc.toList:=by
  refine vA (by rw[List.length_map,List.length_range,Array.length_toList,it.1]) fun i x y h1 h2=>?_
  rw[List.getElem?_map] at h1
  cases e':(List.range n)[i]? with
  | none=>rw[e'] at h1;cases h1
  | some k=>
   rw[e'] at h1
   cases h1
   have hk:k=i:=by
    obtain ⟨hl,he⟩:=List.getElem?_eq_some_iff.mp e'
    rw[<-he];simp
   obtain ⟨t',rfl⟩:=it.2 i y (by rw[<-h2,Array.getElem?_toList])
   refine ⟨t',?_⟩
   rw[hk,show (0:Int)+(i:Int) * 1=(i:Int) by omega]
 refine ⟨.ref s.heap.objs.size,_,I.laid (t':=tk) (o:=.lst ((List.range n).map fun i:Nat=>V.int (i:Int))) kp (Nat.le_refl _) ⟨by simp;exact Nat.le_trans hn (by decide),acc.toList,c,hv,by simpa using e⟩,rfl,q _ (I.hok.fresh (Nat.le_refl _))⟩
end L2
namespace L2
open PySem PySem.Spec PyProof.Rows
structure InK(env:Env)(s₀:Shared)(m cm:Str->Option Value)(s:Shared):Prop where
 ic:InCall s₀ env.locals m s
 cell:∀ n c,env.cells.lookup n=some c->s.heap.IsCell c (cm n)
 inj:∀ n n' c,env.cells.lookup n=some c->env.cells.lookup n'=some c->n=n'
 ne:∀ n c,env.cells.lookup n=some c->c≠env.locals
 up:∀ n c,env.kindOf n=some .cell->env.cells.lookup n=some c->env.locals < c
structure ClAt(h:Heap)(scope:Scope)(cl:List (Str×Addr))(cm:Str->Option Value):Prop where
 cell:∀ n c,cl.lookup n=some c->h.IsCell c (cm n)
 inj:∀ n n' c,cl.lookup n=some c->cl.lookup n'=some c->n=n'
 off:∀ y∈scope.names,y.2=.cell->cl.lookup y.1=none
end L2
namespace L2
open PySem PySem.Spec PyProof.Rows
def FnO(f:Addr)(o:Obj):HO:=.ext fun h=>h.get? f=some o
def aGA(c:Addr)(o:Obj)(v:V):HO:=.frz o (.ext fun h=>∃ u,bF v u/\h.IsCell c (some u))
section
variable{P:Program}{w:World}{H:Hp}{h:Heap}
theorem FnO.ok{f:Addr}{o:Obj}(e:h.get? f=some o):b8 P w H h f (FnO f o):=⟨e,⟨o,e⟩,fun h1 h2 q k=>k o q⟩
theorem aGA.ok{c:Addr}{o:Obj}{v:V}{u:Value}(r:bF v u)(e:h.get? c=some o)(hd:o.data=.cell (some u)):b8 P w H h c (aGA c o v):=
 ⟨e,⟨u,r,o,e,hd⟩,⟨o,e⟩,fun h1 h2 ⟨u,r,o,ho,hd⟩ k=>⟨u,r,o,k o ho,hd⟩⟩
end
structure CloScope(N ps fr:List Str)(sc:Scope):Prop where
 kind:sc.kind=.function
 co:sc.isCoroutine=false
 gen:sc.isGenerator=false
 nd:N.Nodup
 pre:N.take (ps++fr).length=ps++fr
 par:∀ x∈ps,sc.names.lookup x=some .local\/sc.names.lookup x=some .cell
 cap:∀ x∈fr,sc.names.lookup x=some .free
 only:∀ y∈sc.names,y.2=.free->y.1∈fr
 off:∀ y∈sc.names,y.2=.cell->y.1∉fr
structure CapAt(H:Hp)(fr:List Str)(cl:List (Str×Addr))(vs:List V):Prop where
 len:vs.length=fr.length
 only:∀ n c,cl.lookup n=some c->n∈fr
 inj:∀ n n' c,cl.lookup n=some c->cl.lookup n'=some c->n=n'
 at':∀ (i:Nat) x v,fr[i]? = some x->vs[i]? = some v->∃ c o,cl.lookup x=some c/\H c=some (aGA c o v)
noncomputable def aIX(fr:List Str)(cl:List (Str×Addr)):List Addr:=fr.filterMap fun x=>cl.lookup x
theorem CapAt.same{H H':Hp}{fr:List Str}{cl:List (Str×Addr)}{vs:List V}(a:CapAt H fr cl vs)(s:aM H H'):CapAt H' fr cl vs:=⟨a.len,a.only,a.inj,fun i x v h1 h2=>let ⟨c,o,e,q⟩:=a.at' i x v h1 h2;⟨c,o,e,s _ _ q⟩⟩
end L2
namespace L2
open PySem PySem.Spec PyProof.Rows
structure ClSt where
 name:Str
 qual:Str
 params:Arguments
 body:FuncBody
 scope:Scope
noncomputable def ClSt.fd(S:ClSt)(cl:List (Str×Addr))(doc pm:Value)(c:Addr)(ct:Value):FuncData:=
 {name:=S.name,qualname:=S.qual,params:=S.params,body:=S.body,scope:=S.scope,globals:=mainGlobals,closure:=cl,defaults:=.none,kwdefaults:=.none,doc:=doc,pyModule:=pm,annotations:=none,code:=.ref c,closureTuple:=ct,builtins:=builtinsNs}
abbrev ClSt.obj(S:ClSt)(cl:List (Str×Addr))(doc pm:Value)(c:Addr)(ct:Value):Obj:={cls:=.type "function",data:=.func (S.fd cl doc pm c ct)}
end L2
namespace L2
open PySem PySem.Spec PyProof.Rows
structure ClOf(cells:List (Str×Addr))(sc:Scope)(cl:List (Str×Addr)):Prop where
 of:∀ x c,cl.lookup x=some c->cells.lookup x=some c
 all:∀ x∈sc.names,x.2=.free->∃ c,cl.lookup x.1=some c
 only:∀ x c,cl.lookup x=some c->(x,NameKind.free)∈sc.names
structure Tb(mg:Str->Option Value)(base:Heap)(c0 P0:Addr):Prop where
 hd:PySem.W.CodeHd base c0 P0
 bt:∃ bm ob,mg "__builtins__"=some (.ref bm)/\bm≠builtinsNs/\base.get? bm=some ob/\ob.cls=.type "module"/\ob.dict=some builtinsNs/\ob.data=.plain
end L2
namespace L2
open PySem PySem.Spec PyProof.Rows
abbrev Cv:=List (Addr×Obj×V)
noncomputable def aOZ(cv:Cv):List Addr:=cv.map (·.1)
structure PubRel(X:Cx)(σ:St)(H:Hp)(js:List Nat)(cv:Cv):Prop where
 at':∀ b o v,cv.lookup b=some (o,v)->∃ x j,j∈js/\X.N[j]? = some x/\X.env.cells.lookup x=some b/\σ[j]? = some (some v)
 all:∀ j∈js,∃ x c o v,X.N[j]? = some x/\X.env.cells.lookup x=some c/\σ[j]? = some (some v)/\cv.lookup c=some (o,v)
 free:∀ b∈aOZ cv,H b=none
 inj:∀ x y c,X.env.cells.lookup x=some c->X.env.cells.lookup y=some c->x=y
end L2
namespace L2
open PySem PySem.Spec PyProof.Rows
end L2
namespace Fl
open PySem L2 PyProof.Rows
mutual
noncomputable def d4:PyData->Bool
 | .none=>true
 | .int _=>true
 | .str x=>PyData.strOk x
 | .tuple xs=>dZ xs
 | _=>false
noncomputable def dZ:List PyData->Bool
 | []=>true
 | x::t=>d4 x && dZ t
end
mutual
noncomputable def gN(w:World):PyData->Int
 | .none=>reduceHash 0xFCA86420
 | .int i=>hashInt i
 | .str x=>hashStr w x
 | .tuple xs=>reduceHash (Builtin.Tuple.tupleHashOf (lT w xs))
 | _=>0
noncomputable def lT(w:World):List PyData->List Int
 | []=>[]
 | x::t=>gN w x::lT w t
end
mutual
noncomputable def fS:PyData->Nat
 | .tuple xs=>mB xs+1
 | _=>1
noncomputable def mB:List PyData->Nat
 | []=>0
 | x::t=>fS x+mB t
end
mutual
theorem qX:∀ {d:PyData},d4 d=true->d.canLay0=true
 | .none,_=>rfl
 | .int _,_=>rfl
 | .str x,h=>h
 | .tuple xs,h=>by
  have h':dZ xs=true:=h
  exact yL h'
theorem yL:∀ {xs:List PyData},dZ xs=true->PyData.canLayAll0 xs=true
 | [],_=>rfl
 | x::t,h=>by
  have h':(d4 x && dZ t)=true:=h
  rw[Bool.and_eq_true] at h'
  show (x.canLay0 && PyData.canLayAll0 t)=true
  rw[qX h'.1,yL h'.2];rfl
end
mutual
theorem vB:∀ {d e:PyData},d4 d=true->d4 e=true->(PyData.eqv d e=true↔d=e)
 | .none,e,_,he=>by cases e<;>simp[PyData.eqv]<;>cases he
 | .int i,e,_,he=>by cases e<;>simp[PyData.eqv]<;>cases he
 | .str x,e,_,he=>by cases e<;>simp[PyData.eqv]<;>cases he
 | .tuple xs,e,hd,he=>by
  have hd':dZ xs=true:=hd
  cases e with
  | tuple ys=>
   have he':dZ ys=true:=he
   have:=yM hd' he'
   show PyData.eqvAll xs ys=true↔_
   rw[this]
   exact ⟨fun z=>by rw[z],fun z=>by cases z;rfl⟩
  | _=>simp[PyData.eqv]<;>cases he
theorem yM:∀ {xs ys:List PyData},dZ xs=true->dZ ys=true->(PyData.eqvAll xs ys=true↔xs=ys)
 | [],ys,_,_=>by cases ys<;>simp[PyData.eqvAll]
 | x::t,ys,hx,hy=>by
  have hx':(d4 x && dZ t)=true:=hx
  rw[Bool.and_eq_true] at hx'
  cases ys with
  | nil=>simp[PyData.eqvAll]
  | cons y u=>
   have hy':(d4 y && dZ u)=true:=hy
   rw[Bool.and_eq_true] at hy'
   rw[PyData.eqvAll,Bool.and_eq_true,vB hx'.1 hy'.1,yM hx'.2 hy'.2]
   exact ⟨fun ⟨a,b⟩=>by rw[a,b],fun z=>by cases z;exact ⟨rfl,rfl⟩⟩
end
noncomputable instance decPyData:DecidableEq PyData:=fun a b=>Classical.propDecidable (a=b)
theorem aIY{d e:PyData}(hd:d4 d=true)(he:d4 e=true):PyData.eqv d e=decide (d=e):=by
 by_cases h:d=e
 ·rw[decide_eq_true h,(vB hd he).mpr h]
 ·rw[decide_eq_false h]
  cases q:PyData.eqv d e with
  | false=>rfl
  | true=>exact absurd ((vB hd he).mp q) h
end Fl
namespace Fl
open PySem L2 PyProof.Rows
theorem aCJ(xs:List PyData):fS (.tuple xs)=mB xs+1:=by rw[fS]
theorem wC(A:Around):A.in1.units=A.units+1:=rfl
def k6(prog:Program)(w:World)(E:Value->Shared->Prop)(d:PyData):Prop:=∀ (v:Value) (as:List Addr) (A:Around) (s:Shared) (Q:Int->Shared->Prop),d4 d=true->Reads s.heap v d as->A.units+d.depth < cLine->Q (gN w d) {s with toks:=s.toks+fS d}->
 wpAny (model prog w) A (pyHash v) Q E s
theorem aLF{prog:Program}{w:World}{E:Value->Shared->Prop}:∀ (xs:List PyData) (ih:∀ x∈xs,k6 prog w E x) (vs:List Value) (as:List Addr) (A:Around) (s:Shared) (b:Array Int) (Q:Array Int->Shared->Prop),dZ xs=true->ReadsAll s.heap vs xs as->A.units+PyData.depthAll xs < cLine->
  (∀ b',b'.toList=b.toList++lT w xs->Q b' {s with toks:=s.toks+mB xs})->
  wpAny (model prog w) A (forIn vs b fun x r=>do let h <-pyHash x;pure PUnit.unit;pure (ForInStep.yield (r.push h))) Q E s:=by
 intro xs
 induction xs with
 | nil=>
  intro ih vs as A s b Q _ x _ h
  cases x
  exact wpAny_pure (h b (by simp[lT]))
 | cons k xs ih0=>
  intro ih vs as A s b Q hk x hu h
  cases x with
  | @cons v vs _ _ as bs x1 x2=>
   have hk':(d4 k && dZ xs)=true:=hk
   rw[Bool.and_eq_true] at hk'
   have hu':A.units+max k.depth (PyData.depthAll xs) < cLine:=hu
   rw[List.forIn_cons]
   refine wpAny_bind (wpAny_bind (ih k List.mem_cons_self _ _ A s _ hk'.1 x1 (by omega) ?_))
   refine wpAny_bind (wpAny_pure (wpAny_pure ?_))
   refine ih0 (fun x hx=>ih x (List.mem_cons_of_mem _ hx)) _ _ A {s with toks:=s.toks+fS k} _ Q hk'.2 x2 (by omega) fun b' hb=>?_
   have q:=h b' (by rw[hb];simp[lT])
   rw[show mB (k::xs)=fS k+mB xs by rw[mB],<-Nat.add_assoc] at q
   exact q
end Fl
namespace Fl
open PySem L2 PyProof.Rows
theorem wD(w:World)(i:Int):gN w (.int i)=hashInt i:=by rw[gN]
theorem wE(w:World)(i:Str):gN w (.str i)=hashStr w i:=by rw[gN]
theorem aD9(w:World)(xs:List PyData):gN w (.tuple xs)=reduceHash (Builtin.Tuple.tupleHashOf (lT w xs)):=by rw[gN]
theorem aCK(i:Int):fS (.int i)=1:=by unfold fS;rfl
theorem aCL(i:Str):fS (.str i)=1:=by unfold fS;rfl
theorem aGB{prog:Program}{w:World}{E:Value->Shared->Prop}(i:Int):k6 prog w E (.int i):=fun v as A s Q _ r _ h=>by
 rw[wD,aCK] at h
 cases r
 exact wpAny_pyHash_int h
theorem aGC{prog:Program}{w:World}{E:Value->Shared->Prop}(i:Str):k6 prog w E (.str i):=fun v as A s Q _ r _ h=>by
 rw[wE,aCL] at h
 cases r
 exact wpAny_pyHash_str h
theorem aGD{prog:Program}{w:World}{E:Value->Shared->Prop}(xs:List PyData)(ih:∀ x∈xs,k6 prog w E x):k6 prog w E (.tuple xs):=fun v as A s Q hk r hu h=>by
 rw[aD9,aCJ] at h
 cases r with
 | @tuple a o vs n _ as h1 h2 h3 h4=>
  have hk':dZ xs=true:=hk
  have hu':A.units+(PyData.depthAll xs+1) < cLine:=hu
  refine PySem.W.pyHash_slot (T:="tuple") ⟨o,h1,h2⟩ F.slot_tuple_hash F.entry_tuple_hash (F.args_tuple_hash_1 _) (beq_builtin_none _) (.inr (by omega)) ?_
  show wpAny _ _ (Builtin.Tuple.tupleItemsOf (.ref a) >>= _) _ _ s
  refine wpAny_bind (wpAny_tupleItemsOf h1 h3 ?_)
  refine wpAny_bind ?_
  rw[<-Array.forIn_toList]
  refine aLF xs ih vs.toList as A.in1 s #[] _ hk' h4 (by rw[wC];omega) fun b hb=>?_
  show wpAny _ _ (retInt (Builtin.Tuple.tupleHashOf b.toList)) _ _ _
  rw[hb]
  exact wpAny_bind (wpAny_mkInt (wpAny_pure ⟨_,_,rfl,h⟩))
end Fl
namespace Fl
open PySem L2 PyProof.Rows
theorem aCM(w:World):gN w .none=reduceHash 0xFCA86420:=by rw[gN]
theorem aAD:fS .none=1:=by unfold fS;rfl
theorem aGE{prog:Program}{w:World}{E:Value->Shared->Prop}:k6 prog w E .none:=fun v as A s Q _ r hu h=>by
 rw[aCM,aAD] at h
 generalize hg:reduceHash 0xFCA86420=g at h
 cases r
 refine PySem.W.pyHash_slot (T:="NoneType") rfl F.slot_NoneType_hash F.entry_NoneType_hash (F.args_NoneType_hash_1 _) (beq_builtin_none _) (.inr (by omega)) (wpAny_bind (wpAny_pure (wpAny_bind (wpAny_mkInt (wpAny_pure ⟨0xFCA86420,_,rfl,?_⟩)))))
 rw[hg]
 exact h
end Fl
namespace Fl
open PySem L2 PyProof.Rows
theorem aLG{prog:Program}{w:World}{E:Value->Shared->Prop}:∀ (n:Nat) (d:PyData),sizeOf d<=n->k6 prog w E d:=by
 intro n
 induction n with
 | zero=>intro d h;cases d<;>simp at h
 | succ n ih=>
  intro d h
  cases d with
  | none=>exact aGE
  | int i=>exact aGB i
  | str x=>exact aGC x
  | tuple xs=>
   refine aGD xs fun x hx=>ih x ?_
   have:=List.sizeOf_lt_of_mem hx
   simp only[PyData.tuple.sizeOf_spec] at h
   omega
  | bool b=>exact fun v as A s Q hk=>nomatch hk
  | list xs=>exact fun v as A s Q hk=>nomatch hk
  | dict xs=>exact fun v as A s Q hk=>nomatch hk
theorem aLH{prog:Program}{w:World}{E:Value->Shared->Prop}(d:PyData):k6 prog w E d:=aLG (sizeOf d) d (Nat.le_refl _)
theorem aIZ{M:Model}{A:Around}{E:Value->Shared->Prop}{s:Shared}:∀ (n:Nat) (d:PyData) (v:Value) (as:List Addr) (Q:Bool->Shared->Prop),d4 d=true->Reads s.heap v d as->d.depth<=n->Q true s->wpAny M A (eqIsQuiet n v) Q E s:=by
 intro n
 induction n with
 | zero=>
  intro d v as Q hk r hd h
  cases d with
  | none=>cases r;rw[eqIsQuiet_byValue _ rfl];exact wpAny_pure h
  | int i=>cases r;rw[eqIsQuiet_byValue _ rfl];exact wpAny_pure h
  | str x=>cases r;rw[eqIsQuiet_byValue _ rfl];exact wpAny_pure h
  | tuple xs=>
   have hd':PyData.depthAll xs+1<=0:=hd
   omega
  | bool b=>exact nomatch hk
  | list xs=>exact nomatch hk
  | dict xs=>exact nomatch hk
 | succ n ih=>
  intro d v as Q hk r hd h
  cases d with
  | none=>cases r;rw[eqIsQuiet_byValue _ rfl];exact wpAny_pure h
  | int i=>cases r;rw[eqIsQuiet_byValue _ rfl];exact wpAny_pure h
  | str x=>cases r;rw[eqIsQuiet_byValue _ rfl];exact wpAny_pure h
  | bool b=>exact nomatch hk
  | list xs=>exact nomatch hk
  | dict xs=>exact nomatch hk
  | tuple xs=>
   cases r with
   | @tuple a o vs m _ as h1 h2 h3 h4=>
    have hk':dZ xs=true:=hk
    have hd':PyData.depthAll xs+1<=n+1:=hd
    have hT:s.TypeIs (.ref a) "tuple":=⟨o,h1,h2⟩
    unfold eqIsQuiet
    refine wpAny_bind (wpAny_specialOf hT F.slot_tuple_eq.lookup ?_)
    show wpAny _ _ (isInstance (.ref a) (.type "tuple") >>= _) _ _ s
    refine wpAny_bind (wpAny_isInstance hT isSubtype_tuple_tuple ?_)
    simp only[Bool.not_true,Bool.false_eq_true,if_false]
    refine wpAny_bind (wpAny_seqItems h1 h3 ?_)
    refine wpAny_bind ?_
    show wpAny _ _ (forIn vs _ _) _ _ s
    rw[<-Array.forIn_toList]
    refine wpAny_forIn_list _ (fun rest r s'=>r.1=none/\s'=s/\∃ ys bs,dZ ys=true/\PyData.depthAll ys<=n/\ReadsAll s.heap rest ys bs) _ ?_ ?_ _ _ ⟨rfl,rfl,xs,_,hk',by omega,h4⟩
    ·rintro v rest r s' ⟨hr,rfl,ys,bs,hy,hdy,ry⟩
     cases ry with
     | @cons _ _ y yt cs ds r1 r2=>
      have hy':(d4 y && dZ yt)=true:=hy
      rw[Bool.and_eq_true] at hy'
      have hdy':max y.depth (PyData.depthAll yt)<=n:=hdy
      refine wpAny_bind (ih y v _ _ hy'.1 r1 (by omega) ?_)
      simp only[Bool.not_true,Bool.false_eq_true,if_false]
      exact wpAny_pure ⟨rfl,rfl,yt,_,hy'.2,by omega,r2⟩
    ·rintro ⟨r1,r2⟩ s' ⟨hr,rfl,_⟩
     simp only at hr
     subst hr
     exact wpAny_pure h
def aO0(h:Heap)(d:PyData)(a:Addr):Prop:=d4 d=true/\d.depth<=8/\∃ as,Reads h (.ref a) d as
theorem aCN{h h':Heap}{a:Addr}{o:Obj}{es:Array DictEntry}{ep:Nat}(ho:h.get? a=some o)(hd:o.data=.dict es ep)(hs:Heap.SameBut a h h'){v:Value}{d:PyData}{as:List Addr}(hk:d4 d=true)(r:Reads h v d as):Reads h' v d as:=by
 refine Reads.rec (motive_1:=fun v d as _=>d4 d=true->Reads h' v d as) (motive_2:=fun vs xs as _=>dZ xs=true->ReadsAll h' vs xs as) ?_ ?_ ?_ ?_ ?_ ?_ ?_ ?_ ?_ r hk
 ·exact fun _=>.none
 ·intro b hk;cases hk
 ·exact fun i t _=>.int i t
 ·exact fun i t _=>.str i t
 ·intro b o' vs n xs as h1 h2 h3 h4 ih hk;cases hk
 ·intro b o' vs n xs as h1 h2 h3 h4 ih hk
  exact .tuple ((hs.2 b (fun z=>by subst z;rw[ho] at h1;cases h1;rw[hd] at h3;cases h3)).trans h1) h2 h3 (ih hk)
 ·intro b o' es' n kvs as bs h1 h2 h3 h4 h5 i1 i2 hk;cases hk
 ·exact fun _=>.nil
 ·intro v vs d ds as bs r1 r2 i1 i2 hk
  exact .cons (i1 ((Bool.and_eq_true ..).mp hk).1) (i2 ((Bool.and_eq_true ..).mp hk).2)
noncomputable def iX(prog:Program)(w:World):HeapKind prog w PyData where
 is:=aO0
 hash:=gN w
 draws:=fS
 room:=fun A=>A.units+9 < cLine
 inj:=fun {h a x y} hx hy=>by
  obtain ⟨k1,_,as,r1⟩:=hx
  obtain ⟨k2,_,bs,r2⟩:=hy
  exact PySem.SeqAt.Reads.unique x y _ _ _ (qX k1) r1 r2
 keeps:=fun {h h' k a d o es ep} hx ho hd hs=>by
  obtain ⟨k1,k2,as,r1⟩:=hx
  exact ⟨k1,k2,as,aCN ho hd hs k1 r1⟩
 pyHash:=fun {A E s k a Q} hu hk h=>by
  obtain ⟨k1,k2,as,r1⟩:=hk
  exact aLH k _ as A s Q k1 r1 (by omega) h
 eqBool:=fun {A E s x y a b Q} hu hx hy h=>by
  obtain ⟨k1,k2,as,r1⟩:=hx
  obtain ⟨l1,l2,bs,r2⟩:=hy
  refine PySem.SeqAt.eqAt_reads x y A s _ _ as bs r1 r2 (qX k1) (qX l1) ?_ prog w E Q ?_
  ·have:min x.depth y.depth<=8:=Nat.le_trans (Nat.min_le_left _ _) k2
   omega
  ·rw[aIY k1 l1];exact h
 quiet:=fun {A E s k a Q} hk h=>by
  obtain ⟨k1,k2,as,r1⟩:=hk
  exact aIZ 8 k _ as Q k1 r1 k2 h
end Fl
namespace Fl
open PySem L2 PyProof.Rows
abbrev Ent:=PyData×V×V
def oU(w:World)(p:Ent)(en:DictEntry):Prop:=en.hash=gN w p.1/\bF p.2.1 en.key/\bF p.2.2 en.val
def dJ(w:World)(a:Addr)(es:List Ent)(ep:Nat):HO:=.ext fun h=>(a == sysModules)=false/\∃ o ar,h.get? a=some o/\o.ExactDict/\o.data=.dict ar ep/\Paired (oU w) es ar.toList
theorem lU{P:Program}{w:World}{H:Hp}{h:Heap}{a:Addr}{es:List Ent}{ep:Nat}(hd:(a == sysModules)=false)(hh:∃ o ar,h.get? a=some o/\o.ExactDict/\o.data=.dict ar ep/\Paired (oU w) es ar.toList):b8 P w H h a (dJ w a es ep):=
 ⟨⟨hd,hh⟩,let ⟨o,_,e,_⟩:=hh;⟨o,e⟩,fun h1 h2 ⟨q,o,es,e,r⟩ kp=>⟨q,o,es,kp _ e,r⟩⟩
noncomputable def kD:PyData->Bool
 | .tuple xs=>d4 (.tuple xs) && decide ((PyData.tuple xs).depth<=8)
 | _=>false
noncomputable def aGF:PyData->Bool
 | .int _=>true
 | .str _=>true
 | _=>false
def dR(k:PyData)(ks:List PyData):Bool:=(kD k && ks.all kD) || (aGF k && ks.all aGF)
theorem aI0{d:PyData}(h:kD d=true):∃ xs,d=.tuple xs/\d4 d=true/\d.depth<=8:=by
 cases d with
 | tuple xs=>
  have h':(d4 (.tuple xs) && decide ((PyData.tuple xs).depth<=8))=true:=h
  rw[Bool.and_eq_true] at h'
  exact ⟨xs,rfl,h'.1,of_decide_eq_true h'.2⟩
 | _=>cases h
def jS:Key->PyData
 | .inl i=>.int i
 | .inr x=>.str x
theorem aAW{d:PyData}(h:aGF d=true):∃ k,d=jS k:=by
 cases d with
 | int i=>exact ⟨.inl i,rfl⟩
 | str i=>exact ⟨.inr i,rfl⟩
 | _=>cases h
theorem wF{a b:Key}(h:jS a=jS b):a=b:=by
 cases a<;>cases b<;>cases h<;>rfl
theorem aAX{K:Frag}{H:Hp}{v:V}{k:Key}(h:DatV K H v (jS k)):v=kV k:=by
 cases k with
 | inl i=>exact h.int_of
 | inr x=>exact h.str_of
theorem yN{P:Program}{w:World}(k:Key):gN w (jS k)=(dM P w).hash k:=by
 cases k with
 | inl i=>exact wD w i
 | inr x=>exact wE w x
def vC:Ent->(PyData×Addr×Value)->Prop:=fun e x=>e.1=x.1/\e.2.1=.ref x.2.1/\bF e.2.2 x.2.2
def vE:Ent->(Key×Value)->Prop:=fun e x=>e.1=jS x.1/\e.2.1=kV x.1/\bF e.2.2 x.2
theorem aEA{P:Program}{w:World}:∀ {es:List Ent} {ens:List DictEntry},Paired (oU w) es ens->(∀ e∈es,∃ b,e.2.1=.ref b)->∃ xs,ens=xs.map (entryOfKey (iX P w))/\Paired vC es xs
 | _,_,.nil,_=>⟨[],rfl,.nil⟩
 | e::es,en::ens,.cons h t,hb=>by
  obtain ⟨xs,h1,h2⟩:=aEA (P:=P) t fun e he=>hb e (List.mem_cons_of_mem _ he)
  obtain ⟨b,hb'⟩:=hb e List.mem_cons_self
  obtain ⟨q1,q2,q3⟩:=h
  rw[hb'] at q2
  obtain ⟨hash,key,val⟩:=en
  have q2':key=Value.ref b:=q2
  have q1':hash=gN w e.1:=q1
  subst q2' q1'
  exact ⟨(e.1,b,val)::xs,by rw[List.map_cons,h1];rfl,.cons ⟨rfl,hb',q3⟩ h2⟩
theorem sG{P:Program}{w:World}:∀ {es:List Ent} {xs:List (PyData×Addr×Value)},Paired vC es xs->Paired (oU w) es (xs.map (entryOfKey (iX P w)))
 | _,_,.nil=>.nil
 | _,_,.cons h t=>.cons ⟨by rw[h.1];rfl,by rw[h.2.1];rfl,h.2.2⟩ (sG t)
theorem aEB{P:Program}{w:World}:∀ {es:List Ent} {ens:List DictEntry},Paired (oU w) es ens->(∀ e∈es,∃ k,e.1=jS k/\e.2.1=kV k)->∃ xs,Pairs (dM P w) ens xs/\Paired vE es xs/\∀ en∈ens,∃ k,(dM P w).is k en.key=true/\en.hash=(dM P w).hash k
 | _,_,.nil,_=>⟨[],.nil,.nil,fun _ h=>by cases h⟩
 | e::es,en::ens,.cons h t,hb=>by
  obtain ⟨xs,h1,h2,h3⟩:=aEB (P:=P) t fun e he=>hb e (List.mem_cons_of_mem _ he)
  obtain ⟨k,hk1,hk2⟩:=hb e List.mem_cons_self
  obtain ⟨q1,q2,q3⟩:=h
  have hi:(dM P w).is k en.key=true:=aHQ (by rw[<-hk2];exact q2)
  refine ⟨(k,en.val)::xs,.cons hi rfl h1,.cons ⟨hk1,hk2,q3⟩ h2,fun en' hen=>?_⟩
  rcases List.mem_cons.mp hen with z|z
  · subst z; exact ⟨k, hi, by rw [q1, hk1, yN (P := P)]⟩
  · exact h3 en' z
theorem aI1{P:Program}{w:World}{k:Key}{v:Value}(h:(dM P w).is k v=true):bF (kV k) v:=by
 rcases keyIs_shape h with ⟨i,t,rfl,rfl⟩|⟨x,t,rfl,rfl⟩
 · exact ⟨t, rfl⟩
 · exact ⟨t, rfl⟩
theorem sH{P:Program}{w:World}:∀ {es:List Ent} {xs:List (Key×Value)} {ens:List DictEntry},Paired vE es xs->Pairs (dM P w) ens xs->(∀ en∈ens,∃ k,(dM P w).is k en.key=true/\en.hash=(dM P w).hash k)->Paired (oU w) es ens
 | _,_,_,.nil,.nil,_=>.nil
 | _,_,_,.cons h t,.cons p1 p2 ps,hk=>by
  obtain ⟨k,hk1,hk2⟩:=hk _ List.mem_cons_self
  obtain rfl:=(dM P w).inj _ _ _ hk1 p1
  refine .cons ⟨by rw[hk2,h.1,yN (P:=P)],by rw[h.2.1];exact aI1 hk1,by rw[p2];exact h.2.2⟩ (sH t ps fun en he=>hk en (List.mem_cons_of_mem _ he))
noncomputable def atE(es:List Ent)(k:PyData):Option V:=(es.find? fun e=>decide (e.1=k)).map (·.2.2)
noncomputable def nN(es:List Ent)(k:PyData)(kv v:V):List Ent:=if (atE es k).isSome then es.map (fun e=>if e.1=k then (e.1,e.2.1,v) else e) else es++[(k,kv,v)]
theorem tN{k:PyData}:∀ {es:List Ent} {xs:List (PyData×Addr×Value)},Paired vC es xs->jM (atE es k) ((atKey xs k).map (·.2))
 | _,_,.nil=>trivial
 | e::es,x::xs,.cons h t=>by
  have ih:=tN (k:=k) t
  unfold atE atKey at ih ⊢
  rw[List.find?_cons,List.find?_cons,h.1]
  by_cases q:x.1=k
  · rw [decide_eq_true q]; exact h.2.2
  · rw [decide_eq_false q]; exact ih
theorem tO{k:Key}:∀ {es:List Ent} {xs:List (Key×Value)},Paired vE es xs->jM (atE es (jS k)) (valueAt xs k)
 | _,_,.nil=>trivial
 | e::es,x::xs,.cons h t=>by
  have ih:=tO (k:=k) t
  unfold atE valueAt at ih ⊢
  rw[List.find?_cons,List.find?_cons,h.1]
  by_cases q:x.1=k
  · rw [decide_eq_true q, decide_eq_true (by rw [q])]; exact h.2.2
  · rw [decide_eq_false q, decide_eq_false (fun z => q (wF z))]; exact ih
theorem jG{o:Option V}{u:Option Value}(h:jM o u):o.isSome=u.isSome:=by
 cases o<;>cases u<;>first|rfl|exact h.elim
theorem oV{α β:Type}{f:α->β->Prop}{g:α->α}{k:β->β}(hg:∀ a b,f a b->f (g a) (k b)):∀ {xs:List α} {ys:List β},Paired f xs ys->Paired f (xs.map g) (ys.map k)
 | _,_,.nil=>.nil
 | _,_,.cons h t=>.cons (hg _ _ h) (oV hg t)
theorem oW{α β:Type}{f:α->β->Prop}{a:α}{b:β}(h:f a b):∀ {xs:List α} {ys:List β},Paired f xs ys->Paired f (xs++[a]) (ys++[b])
 | _,_,.nil=>.cons h .nil
 | _,_,.cons q t=>.cons q (oW h t)
theorem aHS{k:PyData}{b:Addr}{v:V}{u:Value}{es:List Ent}{xs:List (PyData×Addr×Value)}(r:bF v u)(h:Paired vC es xs):Paired vC (nN es k (.ref b) v) (storedH xs k b u):=by
 have q:=jG (tN (k:=k) h)
 rw[Option.isSome_map] at q
 unfold nN storedH
 rw[q]
 cases (atKey xs k).isSome with
 | true=>
  rw[if_pos rfl,if_pos rfl]
  refine oV (fun e x hx=>?_) h
  unfold putAt
  rw[hx.1]
  by_cases z:x.1=k
  · rw [if_pos z, if_pos z]; exact ⟨rfl, hx.2.1, r⟩
  · rw [if_neg z, if_neg z]; exact hx
 | false=>rw[if_neg (by decide),if_neg (by decide)];exact oW ⟨rfl,rfl,r⟩ h
theorem aHT{k:Key}:∀ {xs:List (Key×Value)},xs.any (fun kv=>decide (kv.1=k))=(valueAt xs k).isSome
 | []=>rfl
 | x::xs=>by
  have ih:=aHT (k:=k) (xs:=xs)
  unfold valueAt at ih ⊢
  rw[List.any_cons,List.find?_cons]
  by_cases q:x.1=k
  · rw [decide_eq_true q]; rfl
  · rw [decide_eq_false q, Bool.false_or]; exact ih
theorem aHU{k:Key}{v:V}{u:Value}{es:List Ent}{xs:List (Key×Value)}(r:bF v u)(h:Paired vE es xs):Paired vE (nN es (jS k) (kV k) v) (stored xs k u):=by
 have q:=jG (tO (k:=k) h)
 unfold nN stored
 rw[q,aHT]
 cases (valueAt xs k).isSome with
 | true=>
  rw[if_pos rfl,if_pos rfl]
  refine oV (fun e x hx=>?_) h
  by_cases z:x.1=k
  · rw [if_pos z, if_pos (by rw [hx.1, z])]; exact ⟨by rw [hx.1], hx.2.1, r⟩
  · rw [if_neg z, if_neg (fun y => z (wF (hx.1.symm.trans y)))]; exact hx
 | false=>rw[if_neg (by decide),if_neg (by decide)];exact oW ⟨rfl,rfl,r⟩ h
section
variable{X:Cx}{pins:List (Addr×Obj)}{σ:L2.St}{H:Hp}{s:Shared}{a:Addr}{es:List Ent}{k:PyData}{kv v:V}{ku u:Value}{A:Around}{E:Value->Shared->Prop}
structure DicAt(X:Cx)(H:Hp)(a:Addr)(es:List Ent)(k:PyData)(kv:V):Prop where
 o:∃ ep,H a=some (dJ X.w a es ep)
 ks:∀ e∈es,DatV X.K H e.2.1 e.1
 nd:(es.map (·.1)).Nodup
 dk:DatV X.K H kv k
 one:dR k (es.map (·.1))=true
theorem tP{α β:Type}{f:α->β->Prop}{y:β}:∀ {xs:List α} {ys:List β},Paired f xs ys->y∈ys->∃ x,x∈xs/\f x y
 | _,_,.nil,h=>by cases h
 | _,_,.cons q t,h=>by
  rcases List.mem_cons.mp h with z|z
  ·subst z;exact ⟨_,List.mem_cons_self,q⟩
  ·obtain ⟨x,h1,h2⟩:=tP t z
   exact ⟨x,List.mem_cons_of_mem _ h1,h2⟩
theorem oX{α β γ:Type}{f:α->β->Prop}{g:α->γ}{k:β->γ}(h:∀ a b,f a b->g a=k b):∀ {xs:List α} {ys:List β},Paired f xs ys->xs.map g=ys.map k
 | _,_,.nil=>rfl
 | _,_,.cons q t=>by rw[List.map_cons,List.map_cons,h _ _ q,oX h t]
theorem wG{α β:Type}{f:α->β}:∀ {xs:List α},(xs.map f).Nodup->xs.Nodup
 | [],_=>List.nodup_nil
 | x::t,h=>by
  rw[List.map_cons,List.nodup_cons] at h
  exact List.nodup_cons.mpr ⟨fun z=>h.1 (List.mem_map_of_mem z),wG h.2⟩
theorem DicAt.cases (D : DicAt X H a es k kv) (I : Inv X pins σ H s) (rk : bF kv ku) : (a == sysModules) = false /\
    ((∃ b xs, kv = .ref b /\ ku = .ref b /\ Paired vC es xs /\ (iX X.prog X.w).is s.heap k b /\ s.heap.DictOfH (iX X.prog X.w) a xs) \/
     (∃ kk xs, k = jS kk /\ kv = kV kk /\ Paired vE es xs /\ (dM X.prog X.w).is kk ku = true /\ s.heap.DictOf (dM X.prog X.w) a xs)) := by
  obtain ⟨ep, hO⟩ := D.o
  obtain ⟨⟨hd, o, ar, h1, h2, h3, h4⟩, _, _⟩ := (show b8 X.prog X.w H s.heap a (dJ X.w a es ep) from I.hok a _ hO)
  refine ⟨hd, ?_⟩
  have hone := D.one
  unfold dR at hone
  rw [Bool.or_eq_true, Bool.and_eq_true, Bool.and_eq_true, List.all_eq_true, List.all_eq_true] at hone
  rcases hone with ⟨hk, ha⟩ | ⟨hk, ha⟩
  · have key : ∀ (d : PyData) (v : V), kD d = true -> DatV X.K H v d -> ∃ b', v = .ref b' /\ (iX X.prog X.w).is s.heap d b' := fun d v hd hv => by
      obtain ⟨ws, rfl, q1, q2⟩ := aI0 hd
      obtain ⟨b', vs, rfl, _, _⟩ := hv.tup_of
      obtain ⟨as, r⟩ := hv.reads I (u := .ref b') rfl
      exact ⟨b', rfl, q1, q2, as, r⟩
    obtain ⟨b, rfl, hkb⟩ := key _ _ hk D.dk
    cases (show ku = Value.ref b from rk)
    obtain ⟨xs, hx1, hx2⟩ := aEA (P := X.prog) h4 fun e he => by
      obtain ⟨b', e1, _⟩ := key e.1 e.2.1 (ha _ (List.mem_map_of_mem he)) (D.ks e he)
      exact ⟨b', e1⟩
    refine .inl ⟨b, xs, rfl, rfl, hx2, hkb, o, ar, ep, h1, h2, h3, hx1, fun x hx => ?_, ?_⟩
    · obtain ⟨e, he, hex⟩ := tP hx2 hx
      obtain ⟨b', e1, q⟩ := key e.1 e.2.1 (ha _ (List.mem_map_of_mem he)) (D.ks e he)
      rw [hex.2.1] at e1
      cases e1
      rw [<- hex.1]; exact q
    · rw [<- oX (g := fun e : Ent => e.1) (fun a b h => h.1) hx2]; exact D.nd
  · obtain ⟨kk, rfl⟩ := aAW hk
    have hkv := aAX D.dk
    obtain ⟨xs, hx1, hx2, hx3⟩ := aEB (P := X.prog) h4 fun e he => by
      obtain ⟨k', hk'⟩ := aAW (ha _ (List.mem_map_of_mem he))
      have q := D.ks e he
      rw [hk'] at q
      exact ⟨k', hk', aAX q⟩
    refine .inr ⟨kk, xs, rfl, hkv, hx2, aHQ (by rw [<- hkv]; exact rk), o, ar, ep, h1, h2, h3, fun en hen => hx3 en (by simpa using hen), hx1, ?_⟩
    have : es.map (·.1) = (xs.map (·.1)).map jS := by rw [List.map_map]; exact oX (g := fun e : Ent => e.1) (fun a b h => h.1) hx2
    have nd := D.nd
    rw [this] at nd
    exact wG nd
theorem p6{A:Around}(hu:A.units+64 < cLine):(iX X.prog X.w).room A.in1:=by show A.in1.units+9 < cLine;rw[wC];omega
theorem aLI{Q:Value->Shared->Prop}(hu:A.units+64 < cLine)(D:DicAt X H a es k kv)(I:Inv X pins σ H s)(rk:bF kv ku)(h:∀ s',Inv X pins σ H s'->Q (.bool (atE es k).isSome) s'):wpAny (model X.prog X.w) A (compareOp .In ku (.ref a)) Q E s:=by
 obtain ⟨hd,⟨b,xs,rfl,rfl,hx,hk,dd⟩|⟨kk,xs,rfl,rfl,hx,hk,dd⟩⟩:=D.cases I rk
 ·refine wpAny_in_heap (p6 hu) hk hd dd ?_
  have q:=jG (tN (k:=k) hx)
  rw[Option.isSome_map] at q
  rw[<-q];exact h _ (I.tok _)
 ·refine wpAny_in_of hk hd dd.mapOf ?_
  rw[<-jG (tO (k:=kk) hx)];exact h _ (I.tok _)
theorem aI2{Q:Value->Shared->Prop}(hu:A.units+64 < cLine)(D:DicAt X H a es k kv)(I:Inv X pins σ H s)(rk:bF kv ku)(h:∀ s',Inv X pins σ H s'->Q (.bool (!(atE es k).isSome)) s'):wpAny (model X.prog X.w) A (compareOp .NotIn ku (.ref a)) Q E s:=by
 obtain ⟨hd,⟨b,xs,rfl,rfl,hx,hk,dd⟩|⟨kk,xs,rfl,rfl,hx,hk,dd⟩⟩:=D.cases I rk
 ·refine wpAny_notIn_heap (p6 hu) hk hd dd ?_
  have q:=jG (tN (k:=k) hx)
  rw[Option.isSome_map] at q
  rw[<-q];exact h _ (I.tok _)
 ·refine wpAny_notIn_of hk hd dd.mapOf ?_
  rw[<-jG (tO (k:=kk) hx)];exact h _ (I.tok _)
theorem aI3{Q:Unit->Shared->Prop}(hu:A.units+64 < cLine)(D:DicAt X H a es k kv)(I:Inv X pins σ H s)(rk:bF kv ku)(rv:bF v u)(hz:es.length<=sizeLine)(h:∀ ep s',Inv X pins σ (upd H a (dJ X.w a (nN es k kv v) ep)) s'->Q () s') :
  wpAny (model X.prog X.w) A (setItem (.ref a) ku u) Q E s:=by
 obtain ⟨hd,⟨b,xs,rfl,rfl,hx,hk,dd⟩|⟨kk,xs,rfl,rfl,hx,hk,dd⟩⟩:=D.cases I rk
 ·have hl:xs.length<=sizeLine:=by rw[<-Paired.length hx];exact hz
  refine wpAny_setItem_heap (hsz:=hl) (p6 hu) hk dd fun h' dd' hs=>?_
  obtain ⟨q',ar,ep,hq,h2,h3,h4,_,h5⟩:=dd'
  obtain ⟨ep0,hO⟩:=D.o
  refine h ep _ (qV I (by rw[hO];exact True.intro) hs ⟨q',hq⟩ (lU hd ⟨q',ar,hq,h2,h3,?_⟩))
  rw[h4]
  exact sG (aHS rv hx)
 ·have hl:xs.length<=sizeLine:=by rw[<-Paired.length hx];exact hz
  refine wpAny_setItem_pairs (hsz:=hl) hk dd fun h' dd' hs=>?_
  obtain ⟨q',ar,ep,hq,h2,h3,h4,h5,_⟩:=dd'
  obtain ⟨ep0,hO⟩:=D.o
  refine h ep _ (qV I (by rw[hO];exact True.intro) hs ⟨q',hq⟩ (lU hd ⟨q',ar,hq,h2,h3,?_⟩))
  exact sH (aHU rv hx) h5 fun en hen=>h4 en (by simpa using hen)
end
end Fl
namespace Fl
open PySem L2 PyProof.Rows
structure Er where
 c:Str
 fs:List (Str×PyData)
inductive R(α:Type) where
 | bad|ok (a:α)|ex (e:Er)
noncomputable def R.bind{α β:Type}:R α->(α->R β)->R β
 | .bad,_=>.bad
 | .ok a,f=>f a
 | .ex e,_=>.ex e
@[simp] theorem R.bind_ok{α β:Type}(a:α)(f:α->R β):(R.ok a).bind f=f a:=id rfl
@[simp] theorem R.bind_bad{α β:Type}(f:α->R β):(R.bad:R α).bind f=.bad:=id rfl
@[simp] theorem R.bind_ex{α β:Type}(e:Er)(f:α->R β):(R.ex e:R α).bind f=.ex e:=id rfl
inductive A where
 | d (x:PyData)|l (xs:List PyData)|m (kvs:List (PyData×PyData))|x (e:Er)|g (k n:Nat) (f:List PyData->R PyData)|k (q:Str)|f (kvs:List (PyData×PyData))|o (e:Er)
abbrev Sg:=List (Option A)
structure Gb where
 B:Addr->Hp->Nat->Nat->(List PyData->R PyData)->Prop
 T:Hp
 w:World
structure Ct where
 K:Frag
 mg:Str->Option Value
 w:World
 F0:Hp
 H0:Hp
 g:Gb
 cells:List (Str×Addr)
 cls:Str->Option ClSt
theorem yO{w:World}{p:Addr}{es:List Ent}{ep:Nat}{q:Str}(h:dJ w p es ep=.cod q):False:=by unfold dJ at h;cases h
theorem cU(H:Hp):aM H H:=fun _ _ h=>h
theorem bV{H H':Hp}(s:aM H H'){a:Addr}(h:H' a=none):H a=none:=by
 cases e:H a with
 | none=>rfl
 | some o=>rw[s a o e] at h;cases h
def oY(H:Hp)(a:Addr):Prop:=H a=none\/∃ q,H a=some (.cod q)
theorem oY.back{H H1:Hp}{a:Addr}(s:aM H H1)(h:oY H1 a):oY H a:=by
 cases e:H a with
 | none=>exact .inl e
 | some o=>
  have e1:=s a o e
  rcases h with z|⟨q,z⟩
  · rw [e1] at z; cases z
  · rw [e1] at z; cases z; exact .inr ⟨q, e⟩
structure Ext(F H F' H':Hp):Prop where
 hh:aM H H'
 ff:aM F F'
 fh:aM F' H'
 nw:∀ a,F a=none->F' a≠none->oY H a
theorem Ext.refl{F H:Hp}(h:aM F H):Ext F H F H:=⟨cU H,cU F,h,fun a e n=>absurd e n⟩
theorem Ext.trans{F H F1 H1 F2 H2:Hp}(a:Ext F H F1 H1)(b:Ext F1 H1 F2 H2):Ext F H F2 H2:=
 ⟨fun x o e=>b.hh x o (a.hh x o e),fun x o e=>b.ff x o (a.ff x o e),b.fh,fun x e n=>by
  cases q:F1 x with
  | none=>exact (b.nw x q n).back a.hh
  | some o=>exact a.nw x e (by rw[q];exact fun z=>nomatch z)⟩
theorem Ext.stay{F H F' H':Hp}(s:Ext F H F' H'){p:Addr}{o:HO}(h3:F p=none)(h2:H p=some o)(hno:∀ q,o≠.cod q):F' p=none:=by
 cases q:F' p with
 | none=>rfl
 | some o=>
  rcases s.nw p h3 (by rw[q];exact fun z=>nomatch z) with z|⟨q',z⟩
  · rw [z] at h2; cases h2
  · rw [z] at h2; cases h2; exact absurd rfl (hno _)
theorem aGG{F H:Hp}{p:Addr}{o:HO}(s:aM F H):aM (upd F p o) (upd H p o):=fun a u e=>by
 by_cases q:a=p
 · subst q; rw [aT] at e ⊢; exact e
 · rw [aH q] at e ⊢; exact s a u e
theorem Ext.new{F H:Hp}{p:Addr}{o:HO}(s:aM F H)(hp:H p=none):Ext F H (upd F p o) (upd H p o):=
 ⟨aM.upd hp,aM.upd (bV s hp),aGG s,fun a e n=>by
  by_cases q:a=p
  · subst q; exact .inl hp
  · rw [aH q] at n; exact absurd e n⟩
theorem Ext.own{F H:Hp}{p:Addr}{o:HO}(s:aM F H)(hp:H p=none):Ext F H F (upd H p o):=
 ⟨aM.upd hp,cU F,fun a u e=>by
  rw[aH (bS (s a u e) hp)];exact s a u e,fun a e n=>absurd e n⟩
def kE(K:Frag)(mg:Str->Option Value)(F:Hp)(e:Er)(a C:Addr):Prop:=mg e.c=some (.ref C)/\∃ od,F a=some (ExO a C od)/\((e.fs=[]/\od=none)\/∃ d fvs,od=some d/\F d=some (.xd fvs)/\fvs.map (·.1)=e.fs.map (·.1)/\DatVs K F (fvs.map (·.2)) (e.fs.map (·.2)))
theorem kE.same{K:Frag}{mg:Str->Option Value}{F F':Hp}{e:Er}{a C:Addr}(s:aM F F')(h:kE K mg F e a C):kE K mg F' e a C:=by
 obtain ⟨m,od,h1,h2⟩:=h
 refine ⟨m,od,s _ _ h1,h2.imp id ?_⟩
 rintro ⟨d,fvs,e1,e2,e3,e4⟩
 exact ⟨d,fvs,e1,s _ _ e2,e3,e4.same s⟩
def aCO(K:Frag)(mg:Str->Option Value)(F:Hp)(e:Er)(a:Addr):Prop:=∃ C dx fvs,mg e.c=some (.ref C)/\F a=some (.ins C dx fvs)/\fvs.map (·.1)=e.fs.map (·.1)/\DatVs K F (fvs.map (·.2)) (e.fs.map (·.2))
theorem aCO.same{K:Frag}{mg:Str->Option Value}{F F':Hp}{e:Er}{a:Addr}(s:aM F F')(h:aCO K mg F e a):aCO K mg F' e a:=by
 obtain ⟨C,dx,fvs,h1,h2,h3,h4⟩:=h
 exact ⟨C,dx,fvs,h1,s _ _ h2,h3,h4.same s⟩
structure MapRel(K:Frag)(F:Hp)(es:List Ent)(kvs:List (PyData×PyData)):Prop where
 k1:es.map (·.1)=kvs.map (·.1)
 k2:DatVs K F (es.map (·.2.1)) (kvs.map (·.1))
 vs:DatVs K F (es.map (·.2.2)) (kvs.map (·.2))
 nd:(kvs.map (·.1)).Nodup
theorem MapRel.same{K:Frag}{F F':Hp}{es:List Ent}{kvs:List (PyData×PyData)}(s:aM F F')(h:MapRel K F es kvs):MapRel K F' es kvs:=⟨h.k1,h.k2.same s,h.vs.same s,h.nd⟩
def AF(g:Gb)(K:Frag)(mg:Str->Option Value)(F:Hp):A->V->Prop
 | .d x,v=>DatV K F v x
 | .x e,v=>∃ a C,v=.ref a/\kE K mg F e a C
 | .g k n G,v=>∃ f F1,v=.ref f/\aM F1 F/\g.B f F1 k n G
 | .f kvs,v=>∃ p es,v=.ref p/\(∃ ep,F p=some (dJ g.w p es ep))/\MapRel K F es kvs
 | .o e,v=>∃ a,v=.ref a/\aCO K mg F e a
 | _,_=>False
theorem AF.same{g:Gb}{K:Frag}{mg:Str->Option Value}{F F':Hp}(s:aM F F'):∀ {a:A} {v:V},AF g K mg F a v->AF g K mg F' a v
 | .d x,v,h=>DatV.same s h
 | .x e,v,⟨a,C,h1,h2⟩=>⟨a,C,h1,h2.same s⟩
 | .g k n G,v,⟨f,F1,h1,h2,h3⟩=>⟨f,F1,h1,fun a o z=>s a o (h2 a o z),h3⟩
 | .f kvs,v,⟨p,es,h1,⟨ep,h2⟩,h3⟩=>⟨p,es,h1,⟨ep,s _ _ h2⟩,h3.same s⟩
 | .o e,v,⟨a,h1,h2⟩=>⟨a,h1,h2.same s⟩
noncomputable def A.own:A->Bool
 | .l _=>true
 | .m _=>true
 | _=>false
def AO(c:Ct)(F H:Hp):A->V->Prop
 | .l xs,v=>∃ p vs,v=.ref p/\H p=some (.lst vs)/\F p=none/\c.H0 p=none/\DatVs c.K F vs xs
 | .m kvs,v=>∃ p es,v=.ref p/\(∃ ep,H p=some (dJ c.w p es ep))/\F p=none/\c.H0 p=none/\MapRel c.K F es kvs
 | .k q,v=>∃ S f cl doc pm cc ct,c.cls q=some S/\v=.ref f/\F f=some (FnO f (S.obj cl doc pm cc ct))/\F cc=some (.cod S.qual)/\ClOf c.cells S.scope cl
 | a,v=>AF c.g c.K c.mg F a v
theorem AO.ext{c:Ct}{F H F' H':Hp}(s:Ext F H F' H'):∀ {a:A} {v:V},AO c F H a v->AO c F' H' a v
 | .d x,v,h=>DatV.same s.ff h
 | .x e,v,h=>AF.same (g:=c.g) (K:=c.K) (mg:=c.mg) (a:=.x e) s.ff h
 | .g k n G,v,h=>AF.same (g:=c.g) (K:=c.K) (mg:=c.mg) (a:=.g k n G) s.ff h
 | .f kvs,v,h=>AF.same (g:=c.g) (K:=c.K) (mg:=c.mg) (a:=.f kvs) s.ff h
 | .o e,v,h=>AF.same (g:=c.g) (K:=c.K) (mg:=c.mg) (a:=.o e) s.ff h
 | .k q,v,⟨S,f,cl,doc,pm,cc,ct,h0,h1,h2,h3,h4⟩=>⟨S,f,cl,doc,pm,cc,ct,h0,h1,s.ff _ _ h2,s.ff _ _ h3,h4⟩
 | .l xs,v,⟨p,vs,h1,h2,h3,h4,h5⟩=>⟨p,vs,h1,s.hh _ _ h2,s.stay h3 h2 (fun _ z=>nomatch z),h4,h5.same s.ff⟩
 | .m kvs,v,⟨p,vs,h1,⟨ep,h2⟩,h3,h4,h5⟩=>⟨p,vs,h1,⟨ep,s.hh _ _ h2⟩,s.stay h3 h2 (fun _ z=>yO z),h4,h5.same s.ff⟩
theorem AO.at{c:Ct}{F H:Hp}{a:A}{v:V}(h:AO c F H a v)(o:a.own=true):∃ p o,v=.ref p/\H p=some o/\F p=none/\c.H0 p=none:=by
 cases a with
 | l xs=>obtain ⟨p,vs,h1,h2,h3,h4,h5⟩:=h;exact ⟨p,_,h1,h2,h3,h4⟩
 | m xs=>obtain ⟨p,vs,h1,⟨ep,h2⟩,h3,h4,h5⟩:=h;exact ⟨p,_,h1,h2,h3,h4⟩
 | d x=>cases o
 | x e=>cases o
 | g k n f=>cases o
 | k S=>cases o
 | f S=>cases o
 | o S=>cases o
theorem AO.off{c:Ct}{F H:Hp}{p:Addr}{o:HO}:∀ {a:A} {v:V},AO c F H a v->v≠.ref p->AO c F (upd H p o) a v
 | .l xs,v,⟨q,vs,h1,h2,h3,h4,h5⟩,n=>⟨q,vs,h1,by rw[aH (fun z=>n (by rw[h1,z]))];exact h2,h3,h4,h5⟩
 | .m xs,v,⟨q,vs,h1,⟨ep,h2⟩,h3,h4,h5⟩,n=>⟨q,vs,h1,⟨ep,by rw[aH (fun z=>n (by rw[h1,z]))];exact h2⟩,h3,h4,h5⟩
 | .d x,v,h,_=>h
 | .x e,v,h,_=>h
 | .g k n G,v,h,_=>h
 | .k S,v,h,_=>h
 | .f S,v,h,_=>h
 | .o S,v,h,_=>h
structure Ab(c:Ct)(ρ:Sg)(σ:L2.St)(F H:Hp):Prop where
 len:ρ.length=σ.length
 fh:aM F H
 slot:∀ (i:Nat) (a:A),ρ[i]? = some (some a)->∃ v,σ[i]? = some (some v)/\AO c F H a v
 apart:∀ (i j:Nat) (a b:A),i≠j->ρ[i]? = some (some a)->ρ[j]? = some (some b)->a.own=true->b.own=true->σ[i]? ≠ σ[j]?
 f0:aM c.F0 F
 h0:aM c.H0 H
 n0:∀ a,c.F0 a=none->F a≠none->oY c.H0 a
 t0:aM c.g.T c.F0
theorem Ab.all{c:Ct}{ρ:Sg}{σ:L2.St}{F H:Hp}(b:Ab c ρ σ F H):Ext c.F0 c.H0 F H:=⟨b.h0,b.f0,b.fh,b.n0⟩
theorem Ab.ext{c:Ct}{ρ:Sg}{σ:L2.St}{F H F' H':Hp}(b:Ab c ρ σ F H)(e:Ext F H F' H'):Ab c ρ σ F' H' where
 len:=b.len
 fh:=e.fh
 slot:=fun i a h=>let ⟨v,h1,h2⟩:=b.slot i a h;⟨v,h1,h2.ext e⟩
 apart:=b.apart
 f0:=fun x o h=>e.ff x o (b.f0 x o h)
 h0:=fun x o h=>e.hh x o (b.h0 x o h)
 n0:=fun a h n=>by
  cases q:F a with
  | none=>exact (e.nw a q n).back b.h0
  | some o=>exact b.n0 a h (by rw[q];exact fun z=>nomatch z)
 t0:=b.t0
def XW(c:Ct)(E:XK)(e:Er):Prop:=∀ a C F' H',Ext c.F0 c.H0 F' H'->kE c.K c.mg F' e a C->E (.ref C) (some a) H'
def Rk{α:Type}(c:Ct)(E:XK)(F H:Hp)(r:R α)(k:α->Prop):Prop:=match r with
 | .bad=>False
 | .ok a=>k a
 | .ex e=>XW c E e
abbrev VR(α:Type):=α->V->Hp->Hp->Hp->Prop
def tV{α:Type}(Rel:VR α)(c:Ct)(E:XK)(f:Sg->R α):TE:=fun σ H Q=>∃ ρ F,Ab c ρ σ F H/\Rk c E F H (f ρ) fun d=>∀ v F' H',Ext F H F' H'->Rel d v H F' H'->Q v H'
def cE(c:Ct):VR PyData:=fun d v _ F _=>DatV c.K F v d
def aX(K:Frag)(F H:Hp)(v:V)(d:PyData):Prop:=DatV K F v d\/∃ p vs xs,v=.ref p/\d=.list xs/\H p=some (.lst vs)/\DatVs K F vs xs
def bA(c:Ct):VR PyData:=fun d v _ F H=>aX c.K F H v d
def aGH(c:Ct):VR A:=fun a v _ F _=>AF c.g c.K c.mg F a v
def yP(c:Ct):VR (List PyData):=fun xs v H F H'=>∃ p vs,v=.ref p/\H p=none/\H' p=some (.lst vs)/\F p=none/\DatVs c.K F vs xs
abbrev PD(X:Cx)(c:Ct)(E:XK)(e:Expr)(f:Sg->R PyData):Prop:=PE X e (tV (cE c) c E f)
abbrev PR(X:Cx)(c:Ct)(E:XK)(e:Expr)(f:Sg->R PyData):Prop:=PE X e (tV (bA c) c E f)
abbrev PV(X:Cx)(c:Ct)(E:XK)(e:Expr)(f:Sg->R A):Prop:=PE X e (tV (aGH c) c E f)
abbrev PN(X:Cx)(c:Ct)(E:XK)(e:Expr)(f:Sg->R (List PyData)):Prop:=PE X e (tV (yP c) c E f)
theorem PE.imp{X:Cx}{e:Expr}{t t':TE}(h:PE X e t)(i:∀ σ H Q,t' σ H Q->t σ H Q):PE X e t':=fun pins s σ H Q I q=>h pins s σ H Q I (i σ H Q q)
theorem PT.imp{X:Cx}{e:Expr}{t t':TT}(h:PT X e t)(i:∀ σ H Q,t' σ H Q->t σ H Q):PT X e t':=fun pins s σ H Q I q=>h pins s σ H Q I (i σ H Q q)
theorem PS.imp{X:Cx}{e:Stmt}{t t':TS}(h:PS X e t)(i:∀ D σ H,t' D σ H->t D σ H):PS X e t':=fun pins s σ H D I q=>h pins s σ H D I (i D σ H q)
theorem PSs.imp{X:Cx}{e:List Stmt}{t t':TS}(h:PSs X e t)(i:∀ D σ H,t' D σ H->t D σ H):PSs X e t':=fun pins s σ H D I q=>h pins s σ H D I (i D σ H q)
def aHV{α:Type}(Rel:VR α):Prop:=∀ d v H F H1 F2 H2,Ext F H1 F2 H2->Rel d v H F H1->Rel d v H F2 H2
theorem aX.ext{K:Frag}{F H F' H':Hp}{v:V}{d:PyData}(e:Ext F H F' H')(h:aX K F H v d):aX K F' H' v d:=by
 rcases h with h|⟨p,vs,xs,h1,h2,h3,h4⟩
 · exact .inl (h.same e.ff)
 · exact .inr ⟨p, vs, xs, h1, h2, e.hh _ _ h3, h4.same e.ff⟩
theorem tQ(c:Ct):aHV (bA c):=fun d v H F H1 F2 H2 e h=>aX.ext e h
theorem aX.heap{K:Frag}{F H:Hp}{v:V}{d:PyData}(s:aM F H)(h:aX K F H v d):DatV K H v d:=by
 rcases h with h|⟨p,vs,xs,h1,h2,h3,h4⟩
 · exact h.same s
 · subst h1 h2; exact .lst (SqL.of h3) (h4.same s)
section
variable{X:Cx}{c:Ct}{E:XK}{α β γ:Type}{Ra:VR α}{Rb:VR β}{Rc:VR γ}{σ:L2.St}{H:Hp}{Q:VK}
theorem Rk.ok{F:Hp}{a:α}{k:α->Prop}(h:Rk c E F H (.ok a) k):k a:=h
theorem Rk.imp{F:Hp}{r:R α}{k k':α->Prop}(h:Rk c E F H r k)(i:∀ a,r=.ok a->k a->k' a):Rk c E F H r k':=by
 cases r with
 | bad=>exact h
 | ok a=>exact i a rfl h
 | ex e=>exact h
theorem Rk.bind{F:Hp}{r:R α}{f:α->R β}{k:β->Prop}(h:Rk c E F H (r.bind f) k):Rk c E F H r fun a=>Rk c E F H (f a) k:=by
 cases r with
 | bad=>exact h
 | ok a=>exact h
 | ex e=>exact h
theorem Rk.ext{F F' H':Hp}{r:R α}{k:α->Prop}(e:Ext F H F' H')(h:Rk c E F H r k):Rk c E F' H' r k:=by
 cases r with
 | bad=>exact h
 | ok a=>exact h
 | ex x=>exact h
end
def yQ{α:Type}(Rel:VR α):Prop:=∀ d v H H1 F' H',aM H H1->Rel d v H1 F' H'->Rel d v H F' H'
theorem kQ(c:Ct):yQ (cE c):=fun _ _ _ _ _ _ _ h=>h
theorem aNO(c:Ct):yQ (yP c):=fun _ _ _ _ _ _ s h=>by
 obtain ⟨p,vs,h1,h2,h3⟩:=h
 exact ⟨p,vs,h1,bV s h2,h3⟩
section
variable{X:Cx}{c:Ct}{E:XK}{α β γ:Type}{Ra:VR α}{Rb:VR β}{Rc:VR γ}
def Op1(c:Ct)(Ra:VR α)(Rb:VR β)(g:α->R β)(r:V->Hp->VK->Prop):Prop:=
 ∀ (H0 F H:Hp) (a:α) (b:β) (v:V) (Q:VK),aM F H->Ra a v H0 F H->g a=.ok b->(∀ w F' H',Ext F H F' H'->Rb b w H F' H'->Q w H')->r v H Q
def Op2(c:Ct)(Ra:VR α)(Rb:VR β)(Rc:VR γ)(g:α->β->R γ)(r:R2):Prop:=
 ∀ (H0 H1 F H:Hp) (a:α) (b:β) (d:γ) (v u:V) (Q:VK),aM F H->Ra a v H0 F H->Rb b u H1 F H->g a b=.ok d->(∀ w F' H',Ext F H F' H'->Rc d w H F' H'->Q w H')->r v u H Q
def k7(g:α->R β):Prop:=∀ a e,g a≠.ex e
def cN(g:α->β->R γ):Prop:=∀ a b e,g a b≠.ex e
theorem tV1{f:Sg->R α}{g:α->R β}{r:V->Hp->VK->Prop}(ho:Op1 c Ra Rb g r)(hp:k7 g)(kb:yQ Rb){σ:L2.St}{H:Hp}{Q:VK}(h:tV Rb c E (fun ρ=>(f ρ).bind g) σ H Q) :
  tV Ra c E f σ H fun v H1=>r v H1 Q:=by
 obtain ⟨ρ,F,ab,h⟩:=h
 refine ⟨ρ,F,ab,(Rk.bind h).imp fun a ea q v F1 H1 e1 rv=>?_⟩
 cases eg:g a with
 | bad=>rw[eg] at q;exact q.elim
 | ex e=>exact absurd eg (hp a e)
 | ok b=>
  rw[eg] at q
  exact ho H F1 H1 a b v Q e1.fh rv eg fun w F' H' e2 rw'=>q w F' H' (e1.trans e2) (kb _ _ _ _ _ _ e1.hh rw')
theorem tV2{f:Sg->R α}{f':Sg->R β}{g:α->β->R γ}{r:R2}(ho:Op2 c Ra Rb Rc g r)(hp:cN g)(ka:aHV Ra)(kb:yQ Rc){σ:L2.St}{H:Hp}{Q:VK}(h:tV Rc c E (fun ρ=>(f ρ).bind fun a=>(f' ρ).bind fun b=>g a b) σ H Q) :
  tOp r (tV Ra c E f) (tV Rb c E f') σ H Q:=by
 obtain ⟨ρ,F,ab,h⟩:=h
 refine ⟨ρ,F,ab,(Rk.bind h).imp fun a ea q v F1 H1 e1 rv=>?_⟩
 refine ⟨ρ,F1,ab.ext e1,((Rk.bind q).ext e1).imp fun b eb q u F2 H2 e2 ru=>?_⟩
 cases eg:g a b with
 | bad=>rw[eg] at q;exact q.elim
 | ex e=>exact absurd eg (hp a b e)
 | ok d=>
  rw[eg] at q
  exact ho H H1 F2 H2 a b d v u Q e2.fh (ka _ _ _ _ _ _ _ e2 rv) ru eg fun w F' H' e3 rw'=>q w F' H' ((e1.trans e2).trans e3) (kb _ _ _ _ _ _ (fun x o z=>e2.hh x o (e1.hh x o z)) rw')
end
end Fl
namespace Fl
open PySem L2 PyProof.Rows
section
variable{K:Frag}{F H:Hp}{v:V}
theorem DatV.bl_of{b:Bool}(h:DatV K H v (.bool b)):v=.bl b:=by cases h;rfl
theorem DatV.non_of(h:DatV K H v .none):v=.non:=by cases h;rfl
theorem aX.int_of{i:Int}(h:aX K F H v (.int i)):v=.int i:=by
 rcases h with h|⟨_,_,_,_,h,_⟩
 · exact h.int_of
 · cases h
theorem aX.str_of{i:Str}(h:aX K F H v (.str i)):v=.str i:=by
 rcases h with h|⟨_,_,_,_,h,_⟩
 · exact h.str_of
 · cases h
theorem aX.bl_of{i:Bool}(h:aX K F H v (.bool i)):v=.bl i:=by
 rcases h with h|⟨_,_,_,_,h,_⟩
 · exact DatV.bl_of h
 · cases h
theorem aX.non_of(h:aX K F H v .none):v=.non:=by
 rcases h with h|⟨_,_,_,_,h,_⟩
 · exact DatV.non_of h
 · cases h
theorem aX.tup_of{xs:List PyData}(s:aM F H)(h:aX K F H v (.tuple xs)):∃ a vs,v=.ref a/\SqT K F a vs/\SqT K H a vs/\DatVs K F vs xs:=by
 rcases h with h|⟨_,_,_,_,h,_⟩
 ·obtain ⟨a,vs,h1,h2,h3⟩:=h.tup_of
  exact ⟨a,vs,h1,h2,h2.same s,h3⟩
 ·cases h
theorem aX.lst_of{xs:List PyData}(s:aM F H)(h:aX K F H v (.list xs)):∃ a vs,v=.ref a/\SqL K H a vs/\DatVs K F vs xs:=by
 rcases h with h|⟨p,vs,ys,h1,h2,h3,h4⟩
 ·obtain ⟨a,vs,h1,h2,h3⟩:=h.lst_of
  exact ⟨a,vs,h1,h2.same s,h3⟩
 ·cases h2
  exact ⟨p,vs,h1,SqL.of h3,h4⟩
theorem yR{vs:List V}{xs:List PyData}{i:Int}{d:PyData}(h:DatVs K F vs xs)(e:atI xs i=some d):∃ x,atI vs i=some x/\DatV K F x d:=by
 unfold atI at e ⊢
 rw[h.length]
 cases q:ixN xs.length i with
 | none=>rw[q] at e;cases e
 | some j=>
  rw[q] at e
  exact h.get' (i:=j) e
end
noncomputable def eV(i:Nat):Sg->R PyData:=fun ρ=>match ρ[i]? with
 | some (some (.d x))=>.ok x
 | _=>.bad
noncomputable def rV(i:Nat):Sg->R PyData:=fun ρ=>match ρ[i]? with
 | some (some (.d x))=>.ok x
 | some (some (.l xs))=>.ok (.list xs)
 | _=>.bad
noncomputable def vV(i:Nat):Sg->R A:=fun ρ=>match ρ[i]? with
 | some (some (.d x))=>.ok (.d x)
 | some (some (.x e))=>.ok (.x e)
 | some (some (.g k n f))=>.ok (.g k n f)
 | some (some (.f kvs))=>.ok (.f kvs)
 | _=>.bad
def eC(d:PyData):Sg->R PyData:=fun _=>.ok d
section
variable{X:Cx}{c:Ct}{E:XK}{e a b:Expr}
theorem a9{i:Nat}(h:PE X e (fM i)):PD X c E e (eV i):=PE.imp h fun σ H Q ⟨ρ,F,ab,k⟩=>by
 unfold eV at k
 split at k
 ·rename_i x hx
  obtain ⟨v,h1,h2⟩:=ab.slot i _ hx
  exact ⟨v,h1,k v F H (Ext.refl ab.fh) h2⟩
 ·exact k.elim
theorem aC{i:Nat}(h:PE X e (fM i)):PR X c E e (rV i):=PE.imp h fun σ H Q ⟨ρ,F,ab,k⟩=>by
 unfold rV at k
 split at k
 ·rename_i x hx
  obtain ⟨v,h1,h2⟩:=ab.slot i _ hx
  exact ⟨v,h1,k v F H (Ext.refl ab.fh) (.inl h2)⟩
 ·rename_i x hx
  obtain ⟨v,h1,p,vs,h2,h3,h4,h5,h6⟩:=ab.slot i _ hx
  exact ⟨v,h1,k v F H (Ext.refl ab.fh) (.inr ⟨p,vs,x,h2,rfl,h3,h6⟩)⟩
 ·exact k.elim
theorem aZ{i:Nat}(h:PE X e (fM i)):PV X c E e (vV i):=PE.imp h fun σ H Q ⟨ρ,F,ab,k⟩=>by
 unfold vV at k
 split at k
 ·rename_i x hx
  obtain ⟨v,h1,h2⟩:=ab.slot i _ hx
  exact ⟨v,h1,k v F H (Ext.refl ab.fh) h2⟩
 ·rename_i x hx
  obtain ⟨v,h1,h2⟩:=ab.slot i _ hx
  exact ⟨v,h1,k v F H (Ext.refl ab.fh) h2⟩
 ·rename_i kk nn ff hx
  obtain ⟨v,h1,h2⟩:=ab.slot i _ hx
  exact ⟨v,h1,k v F H (Ext.refl ab.fh) h2⟩
 ·rename_i kvs hx
  obtain ⟨v,h1,h2⟩:=ab.slot i _ hx
  exact ⟨v,h1,k v F H (Ext.refl ab.fh) h2⟩
 ·exact k.elim
theorem gS{v:V}{d:PyData}(h:PE X e (tC v))(hd:∀ F,DatV c.K F v d):PD X c E e (eC d):=PE.imp h fun σ H Q ⟨ρ,F,ab,k⟩=>k v F H (Ext.refl ab.fh) (hd F)
theorem aG{i j pos}:PD X c E (.Constant (.int i) j pos) (eC (.int i)):=gS aKG fun _=>.int i
theorem d0{i j pos}:PD X c E (.Constant (.bool i) j pos) (eC (.bool i)):=gS aM8 fun _=>.bl i
theorem gU{i j pos}:PD X c E (.Constant (.str i) j pos) (eC (.str i)):=gS xR fun _=>.str i
theorem gW{j pos}:PD X c E (.Constant .none j pos) (eC .none):=gS aKH fun _=>.non
theorem aB{f:Sg->R PyData}(h:PD X c E e f):PR X c E e f:=PE.imp h fun σ H Q ⟨ρ,F,ab,k⟩=>⟨ρ,F,ab,k.imp fun d _ q v F' H' s r=>q v F' H' s (.inl r)⟩
def vD(f:Sg->R PyData):Sg->R A:=fun ρ=>(f ρ).bind fun x=>.ok (.d x)
theorem aS{f:Sg->R PyData}(h:PD X c E e f):PV X c E e (vD f):=PE.imp h fun σ H Q ⟨ρ,F,ab,k⟩=>⟨ρ,F,ab,(Rk.bind k).imp fun d _ q v F' H' s r=>Rk.ok q v F' H' s r⟩
def getD:A->R PyData
 | .d x=>.ok x
 | _=>.bad
def eA(f:Sg->R A):Sg->R PyData:=fun ρ=>(f ρ).bind getD
theorem dG{f:Sg->R A}(h:PV X c E e f):PD X c E e (eA f):=PE.imp h fun σ H Q ⟨ρ,F,ab,k⟩=>⟨ρ,F,ab,(Rk.bind k).imp fun d _ q v F' H' s r=>by
 cases d with
 | d x=>exact Rk.ok q v F' H' s r
 | _=>exact False.elim q⟩
def eL(f:Sg->R (List PyData)):Sg->R PyData:=fun ρ=>(f ρ).bind fun xs=>.ok (.list xs)
theorem d3{f:Sg->R (List PyData)}(h:PN X c E e f):PD X c E e (eL f):=PE.imp h fun σ H Q ⟨ρ,F,ab,k⟩=>⟨ρ,F,ab,(Rk.bind k).imp fun xs _ q v F' H' s r=>by
 obtain ⟨p,vs,h1,h2,h3,h4,h5⟩:=r
 subst h1
 refine Rk.ok q (.ref p) (upd F' p (.lst vs)) H' ⟨s.hh,fun a o z=>?_,fun a o z=>?_,fun a z n=>?_⟩ (.lst (SqL.of aT) (h5.same (aM.upd h4)))
 ·rw[aH (bS (s.ff a o z) h4)];exact s.ff a o z
 ·by_cases w:a=p
  · subst w; rw [aT] at z; rw [h3]; exact z
  · rw [aH w] at z; exact s.fh a o z
 ·by_cases w:a=p
  · subst w; exact .inl h2
  · rw [aH w] at n; exact s.nw a z n⟩
def e1{α β:Type}(g:α->R β)(f:Sg->R α):Sg->R β:=fun ρ=>(f ρ).bind g
def e2{α β γ:Type}(g:α->β->R γ)(f:Sg->R α)(f':Sg->R β):Sg->R γ:=fun ρ=>(f ρ).bind fun x=>(f' ρ).bind fun y=>g x y
noncomputable def cH:PyData->PyData->R PyData
 | .int i,.int j=>.ok (.int (i+j))
 | .str x,.str y=>if x.length+y.length<=sizeLine then .ok (.str (x++y)) else .bad
 | .tuple xs,.tuple ys=>if xs.isEmpty=false/\xs.length+ys.length<=sizeLine then .ok (.tuple (xs++ys)) else .bad
 | _,_=>.bad
def dSub:PyData->PyData->R PyData
 | .int i,.int j=>.ok (.int (i - j))
 | _,_=>.bad
noncomputable def dMul:PyData->PyData->R PyData
 | .int i,.int j=>if (-18446744073709551616 < i/\i < 18446744073709551616)\/(-18446744073709551616 < j/\j < 18446744073709551616) then .ok (.int (i * j)) else .bad
 | _,_=>.bad
def dDiv:PyData->PyData->R PyData
 | .int i,.int j=>if 0 < j/\j < 18446744073709551616 then .ok (.int (i / j)) else .bad
 | _,_=>.bad
def dMod:PyData->PyData->R PyData
 | .int i,.int j=>if 0 < j then .ok (.int (i % j)) else .bad
 | _,_=>.bad
def dNeg:PyData->R PyData
 | .int i=>.ok (.int (-i))
 | _=>.bad
def dLt:PyData->PyData->R PyData
 | .int i,.int j=>.ok (.bool (decide (i < j)))
 | _,_=>.bad
def dLe:PyData->PyData->R PyData
 | .int i,.int j=>.ok (.bool (decide (i<=j)))
 | _,_=>.bad
def dGt:PyData->PyData->R PyData
 | .int i,.int j=>.ok (.bool (decide (j < i)))
 | _,_=>.bad
def dGe:PyData->PyData->R PyData
 | .int i,.int j=>.ok (.bool (decide (j<=i)))
 | _,_=>.bad
def dEq(x y:PyData):R PyData:=if SeqAt.shaped x=true/\SeqAt.shaped y=true then .ok (.bool (PyData.eqv x y)) else .bad
def dNe(x y:PyData):R PyData:=if SeqAt.shaped x=true/\SeqAt.shaped y=true then .ok (.bool (!PyData.eqv x y)) else .bad
def gO:PyData->Bool
 | .none=>true
 | _=>false
def dIs(x y:PyData):R PyData:=if gO y=true then .ok (.bool (gO x)) else .bad
def dIsnt(x y:PyData):R PyData:=if gO y=true then .ok (.bool (!gO x)) else .bad
noncomputable def inD:PyData->PyData->Option Bool
 | .str i,.str j=>some (!(Builtin.Str.occurrences j i 0 j.length 1).isEmpty)
 | x,.list xs=>if SeqAt.shaped x=true/\SeqAt.shaped (.list xs)=true then some (xs.any fun y=>PyData.eqv y x) else none
 | x,.tuple xs=>if SeqAt.shaped x=true/\SeqAt.shaped (.tuple xs)=true then some (xs.any fun y=>PyData.eqv y x) else none
 | _,_=>none
def dIn(x y:PyData):R PyData:=match inD x y with
 | some b=>.ok (.bool b)
 | none=>.bad
def dNin(x y:PyData):R PyData:=match inD x y with
 | some b=>.ok (.bool (!b))
 | none=>.bad
noncomputable def dIx:PyData->PyData->R PyData
 | .list xs,.int i=>match atI xs i with
  | some v=>.ok v
  | none=>.bad
 | .tuple xs,.int i=>match atI xs i with
  | some v=>.ok v
  | none=>.bad
 | .str z,.int i=>if z.length<=sizeLine then match atI z.cps.toList i with
  | some u=>.ok (.str ⟨#[u]⟩)
  | none=>.bad else .bad
 | _,_=>.bad
end
end Fl
namespace Fl
open PySem L2 PyProof.Rows
section
variable{X:Cx}{c:Ct}{E:XK}{e a b:Expr}{α β γ:Type}{Ra:VR α}{Rb:VR β}{Rc:VR γ}{pos:Pos}
def r2D(Ra:VR α)(Rb:VR β)(Rc:VR γ)(g:α->β->R γ):R2:=fun v u H Q=>∃ H0 H1 F a b d,aM F H/\Ra a v H0 F H/\Rb b u H1 F H/\g a b=.ok d/\∀ w F' H',Ext F H F' H'->Rc d w H F' H'->Q w H'
def r1D(Ra:VR α)(Rb:VR β)(g:α->R β):V->Hp->VK->Prop:=fun v H Q=>∃ H0 F a b,aM F H/\Ra a v H0 F H/\g a=.ok b/\∀ w F' H',Ext F H F' H'->Rb b w H F' H'->Q w H'
theorem xI{g:α->β->R γ}:Op2 c Ra Rb Rc g (r2D Ra Rb Rc g):=fun H0 H1 F H a b d v u Q sf ra rb eg q=>⟨H0,H1,F,a,b,d,sf,ra,rb,eg,q⟩
theorem qY{g:α->R β}:Op1 c Ra Rb g (r1D Ra Rb g):=fun H0 F H a b v Q sf ra eg q=>⟨H0,F,a,b,sf,ra,eg,q⟩
theorem aV{op:Operator}{g:PyData->PyData->R PyData}{fa fb:Sg->R PyData}(ho:OpR X (binaryOp op) (r2D (bA c) (bA c) (cE c) g))(hp:cN g)(ha:PR X c E a fa)(hb:PR X c E b fb):PD X c E (.BinOp a op b pos) (e2 g fa fb):=
 PE.imp (aNC ho ha hb) fun σ H Q h=>tV2 xI hp (tQ c) (kQ c) h
theorem tR{op:UnaryOp}{g:PyData->R PyData}{fa:Sg->R PyData}(ho:UnR X (unaryOp op) (r1D (bA c) (cE c) g))(hp:k7 g)(ha:PR X c E a fa):PD X c E (.UnaryOp op a pos) (e1 g fa):=
 PE.imp (aND ho ha) fun σ H Q h=>tV1 qY hp (kQ c) h
theorem mC{op:CmpOp}{g:PyData->PyData->R PyData}{fa fb:Sg->R PyData}(ho:OpR X (compareOp op) (r2D (bA c) (bA c) (cE c) g))(hp:cN g)(ha:PR X c E a fa)(hb:PR X c E b fb)(hm:behindInMarks op b=false):PD X c E (.Compare a [op] [b] pos) (e2 g fa fb):=
 PE.imp (aIE ho ha hb hm) fun σ H Q h=>tV2 xI hp (tQ c) (kQ c) h
theorem bN{g:PyData->PyData->R PyData}{fa fb:Sg->R PyData}(ho:IxR X (r2D (bA c) (bA c) (cE c) g))(hp:cN g)(ha:PR X c E a fa)(hb:PR X c E b fb)(hs:aAM b:=by exact fun _ _=>rfl):PD X c E (.Subscript a b pos) (e2 g fa fb):=
 PE.imp (L2.aNK ho ha hb hs) fun σ H Q h=>tV2 xI hp (tQ c) (kQ c) h
theorem dC(hK:X.K=c.K):OpR X (binaryOp .Add) (r2D (bA c) (bA c) (cE c) cH):=by
 intro pins s σ H v u x y Q I rx ry h
 obtain ⟨H0,H1,F,a,b,d,sf,ra,rb,eg,q⟩:=h
 unfold cH at eg
 split at eg
 ·rename_i i j
  cases eg
  obtain rfl:=aX.int_of ra
  obtain rfl:=aX.int_of rb
  exact aKS pins s σ H _ _ x y Q I rx ry ⟨i,j,rfl,rfl,q _ F H (Ext.refl sf) (.int _)⟩
 ·rename_i i j
  split at eg
  ·rename_i hz
   cases eg
   obtain rfl:=aX.str_of ra
   obtain rfl:=aX.str_of rb
   exact aB4 pins s σ H _ _ x y Q I rx ry ⟨i,j,rfl,rfl,hz,q _ F H (Ext.refl sf) (.str _)⟩
  ·cases eg
 ·rename_i xs ys
  split at eg
  ·rename_i hz
   cases eg
   obtain ⟨pa,vs,rfl,fa,ha,da⟩:=aX.tup_of sf ra
   obtain ⟨pb,us,rfl,fb,hb,db⟩:=aX.tup_of sf rb
   rw[<-hK] at ha hb
   refine aIL pins s σ H _ _ x y Q I rx ry ⟨pa,pb,vs,us,rfl,rfl,ha,hb,?_,by rw[da.length,db.length];exact hz.2,fun z=>?_,fun z p hp=>?_⟩
   ·intro z;subst z;obtain rfl:xs=[]:=by cases da;rfl
    exact absurd hz.1 (by decide)
   ·subst z
    obtain rfl:ys=[]:=by cases db;rfl
    exact q _ F H (Ext.refl sf) (by rw[List.append_nil];exact .tup fa da)
   ·exact q _ _ _ (Ext.new sf hp) (.tup (SqT.of aT) ((da.append db).same (aM.upd (bV sf hp))))
  ·cases eg
 ·cases eg
theorem cF:cN cH:=by
 intro a b e h
 unfold cH at h
 split at h<;>(try split at h)<;>cases h
theorem k8{f:Value->Value->Sem Value}{g:PyData->PyData->R PyData}{C:Int->Int->Prop}{k:Int->Int->PyData}{kv:Int->Int->V}(ho:OpR X f (rI C kv))(hk:∀ i j F,DatV c.K F (kv i j) (k i j))
  (hg:∀ a b d,g a b=.ok d->∃ i j,a=.int i/\b=.int j/\C i j/\d=k i j):OpR X f (r2D (bA c) (bA c) (cE c) g):=by
 intro pins s σ H v u x y Q I rx ry h
 obtain ⟨H0,H1,F,a,b,d,sf,ra,rb,eg,q⟩:=h
 obtain ⟨i,j,rfl,rfl,hc,rfl⟩:=hg a b d eg
 obtain rfl:=aX.int_of ra
 obtain rfl:=aX.int_of rb
 exact ho pins s σ H _ _ x y Q I rx ry ⟨i,j,rfl,rfl,hc,q _ F H (Ext.refl sf) (hk i j F)⟩
theorem tS{f:Value->Value->Sem Value}{kv:Int->Int->V}(ho:OpR X f (rI0 kv)):OpR X f (rI (fun _ _=>True) kv):=fun pins s σ H x y v u Q I rx ry ⟨i,j,h1,h2,_,q⟩=>ho pins s σ H x y v u Q I rx ry ⟨i,j,h1,h2,q⟩
theorem n4:OpR X (binaryOp .Sub) (r2D (bA c) (bA c) (cE c) dSub):=k8 (tS aKT) (fun _ _ _=>.int _) fun a b d h=>by
 unfold dSub at h;split at h
 · cases h; exact ⟨_, _, rfl, rfl, trivial, rfl⟩
 · cases h
theorem iE:OpR X (binaryOp .Mult) (r2D (bA c) (bA c) (cE c) dMul):=k8 aKU (fun _ _ _=>.int _) fun a b d h=>by
 unfold dMul at h;split at h
 ·split at h
  · rename_i hc; cases h; exact ⟨_, _, rfl, rfl, hc, rfl⟩
  · cases h
 ·cases h
theorem eU:OpR X (binaryOp .FloorDiv) (r2D (bA c) (bA c) (cE c) dDiv):=k8 aF1 (fun _ _ _=>.int _) fun a b d h=>by
 unfold dDiv at h;split at h
 ·split at h
  · rename_i hc; cases h; exact ⟨_, _, rfl, rfl, hc, rfl⟩
  · cases h
 ·cases h
theorem cY:OpR X (binaryOp .Mod) (r2D (bA c) (bA c) (cE c) dMod):=k8 aKV (fun _ _ _=>.int _) fun a b d h=>by
 unfold dMod at h;split at h
 ·split at h
  · rename_i hc; cases h; exact ⟨_, _, rfl, rfl, hc, rfl⟩
  · cases h
 ·cases h
theorem n5:OpR X (compareOp .Lt) (r2D (bA c) (bA c) (cE c) dLt):=k8 (tS aNE) (fun _ _ _=>.bl _) fun a b d h=>by
 unfold dLt at h;split at h
 · cases h; exact ⟨_, _, rfl, rfl, trivial, rfl⟩
 · cases h
theorem yS:OpR X (compareOp .LtE) (r2D (bA c) (bA c) (cE c) dLe):=k8 (tS aNF) (fun _ _ _=>.bl _) fun a b d h=>by
 unfold dLe at h;split at h
 · cases h; exact ⟨_, _, rfl, rfl, trivial, rfl⟩
 · cases h
theorem n6:OpR X (compareOp .Gt) (r2D (bA c) (bA c) (cE c) dGt):=k8 (tS aNG) (fun _ _ _=>.bl _) fun a b d h=>by
 unfold dGt at h;split at h
 · cases h; exact ⟨_, _, rfl, rfl, trivial, rfl⟩
 · cases h
theorem aLJ:OpR X (compareOp .GtE) (r2D (bA c) (bA c) (cE c) dGe):=k8 (tS aNH) (fun _ _ _=>.bl _) fun a b d h=>by
 unfold dGe at h;split at h
 · cases h; exact ⟨_, _, rfl, rfl, trivial, rfl⟩
 · cases h
theorem k9:cN dSub:=by intro a b e h;unfold dSub at h;split at h<;>cases h
theorem fA:cN dMul:=by intro a b e h;unfold dMul at h;split at h<;>(try split at h)<;>cases h
theorem dY:cN dDiv:=by intro a b e h;unfold dDiv at h;split at h<;>(try split at h)<;>cases h
theorem b9:cN dMod:=by intro a b e h;unfold dMod at h;split at h<;>(try split at h)<;>cases h
theorem kF:cN dLt:=by intro a b e h;unfold dLt at h;split at h<;>cases h
theorem sI:cN dLe:=by intro a b e h;unfold dLe at h;split at h<;>cases h
theorem kG:cN dGt:=by intro a b e h;unfold dGt at h;split at h<;>cases h
theorem aGI:cN dGe:=by intro a b e h;unfold dGe at h;split at h<;>cases h
theorem gX:cN dEq:=by intro a b e h;unfold dEq at h;split at h<;>cases h
theorem mD:cN dNe:=by intro a b e h;unfold dNe at h;split at h<;>cases h
theorem sJ:cN dIs:=by intro a b e h;unfold dIs at h;split at h<;>cases h
theorem tT:cN dIsnt:=by intro a b e h;unfold dIsnt at h;split at h<;>cases h
theorem aGJ:cN dIn:=by intro a b e h;unfold dIn at h;split at h<;>cases h
theorem aEC:cN dNin:=by intro a b e h;unfold dNin at h;split at h<;>cases h
theorem lA:k7 dNeg:=by intro a e h;unfold dNeg at h;split at h<;>cases h
theorem aU:cN dIx:=by
 intro a b e h
 unfold dIx at h
 split at h<;>(try split at h)<;>(try split at h)<;>cases h
theorem n8:UnR X (unaryOp .USub) (r1D (bA c) (cE c) dNeg):=by
 intro pins s σ H v x Q I rx h
 obtain ⟨H0,F,a,d,sf,ra,eg,q⟩:=h
 unfold dNeg at eg
 split at eg
 ·rename_i i
  cases eg
  obtain rfl:=aX.int_of ra
  exact aKW pins s σ H _ x Q I rx ⟨i,rfl,q _ F H (Ext.refl sf) (.int _)⟩
 ·cases eg
theorem lB(hK:X.K=c.K)(hu:X.A.units+64 < cLine):OpR X (compareOp .Eq) (r2D (bA c) (bA c) (cE c) dEq):=by
 intro pins s σ H v u x y Q I rx ry h
 obtain ⟨H0,H1,F,a,b,d,sf,ra,rb,eg,q⟩:=h
 unfold dEq at eg
 split at eg
 ·rename_i hs
  cases eg
  exact aLA hu pins s σ H _ _ x y Q I rx ry ⟨a,b,by rw[hK];exact aX.heap sf ra,by rw[hK];exact aX.heap sf rb,hs.1,hs.2,q _ F H (Ext.refl sf) (.bl _)⟩
 ·cases eg
theorem p7(hK:X.K=c.K)(hu:X.A.units+64 < cLine):OpR X (compareOp .NotEq) (r2D (bA c) (bA c) (cE c) dNe):=by
 intro pins s σ H v u x y Q I rx ry h
 obtain ⟨H0,H1,F,a,b,d,sf,ra,rb,eg,q⟩:=h
 unfold dNe at eg
 split at eg
 ·rename_i hs
  cases eg
  exact aLB hu pins s σ H _ _ x y Q I rx ry ⟨a,b,by rw[hK];exact aX.heap sf ra,by rw[hK];exact aX.heap sf rb,hs.1,hs.2,q _ F H (Ext.refl sf) (.bl _)⟩
 ·cases eg
theorem nA{K:Frag}{F H:Hp}{v:V}{d:PyData}(h:aX K F H v d):decide (v=.non)=gO d:=by
 rcases h with h|⟨p,vs,xs,h1,h2,_⟩
 · cases h <;> rfl
 · subst h1 h2; rfl
theorem yT:OpR X (compareOp .Is) (r2D (bA c) (bA c) (cE c) dIs):=by
 intro pins s σ H v u x y Q I rx ry h
 obtain ⟨H0,H1,F,a,b,d,sf,ra,rb,eg,q⟩:=h
 unfold dIs at eg
 split at eg
 ·rename_i hs
  cases eg
  have e2:=nA rb
  rw[hs] at e2
  refine aKX pins s σ H _ _ x y Q I rx ry ⟨of_decide_eq_true e2,q _ F H (Ext.refl sf) ?_⟩
  rw[nA ra];exact .bl _
 ·cases eg
theorem yU:OpR X (compareOp .IsNot) (r2D (bA c) (bA c) (cE c) dIsnt):=by
 intro pins s σ H v u x y Q I rx ry h
 obtain ⟨H0,H1,F,a,b,d,sf,ra,rb,eg,q⟩:=h
 unfold dIsnt at eg
 split at eg
 ·rename_i hs
  cases eg
  have e2:=nA rb
  rw[hs] at e2
  refine aID pins s σ H _ _ x y Q I rx ry ⟨of_decide_eq_true e2,q _ F H (Ext.refl sf) ?_⟩
  rw[nA ra];exact .bl _
 ·cases eg
theorem tU{xs:List PyData}(h:SeqAt.shaped (.list xs)=true):PyData.canLayAll0 xs=true/\PyData.depthAll xs<=63:=by
 have h':(PyData.canLay0 (.list xs) && decide ((PyData.list xs).depth<=64))=true:=h
 rw[Bool.and_eq_true] at h'
 have hd:PyData.depthAll xs+1<=64:=of_decide_eq_true h'.2
 exact ⟨h'.1,by omega⟩
theorem rO{xs:List PyData}(h:SeqAt.shaped (.tuple xs)=true):PyData.canLayAll0 xs=true/\PyData.depthAll xs<=63:=by
 have h':(PyData.canLay0 (.tuple xs) && decide ((PyData.tuple xs).depth<=64))=true:=h
 rw[Bool.and_eq_true] at h'
 have hd:PyData.depthAll xs+1<=64:=of_decide_eq_true h'.2
 exact ⟨h'.1,by omega⟩
theorem lL{d:PyData}(h:SeqAt.shaped d=true):d.canLay0=true:=by
 have h':(PyData.canLay0 d && decide (d.depth<=64))=true:=h
 rw[Bool.and_eq_true] at h'
 exact h'.1
theorem inD_cases{x y:PyData}{b:Bool}(h:inD x y=some b):(∃ i j,x=.str i/\y=.str j/\b = !(Builtin.Str.occurrences j i 0 j.length 1).isEmpty) \/
  (∃ xs,y=.list xs/\SeqAt.shaped x=true/\SeqAt.shaped (.list xs)=true/\b=xs.any fun z=>PyData.eqv z x)\/(∃ xs,y=.tuple xs/\SeqAt.shaped x=true/\SeqAt.shaped (.tuple xs)=true/\b=xs.any fun z=>PyData.eqv z x):=by
 unfold inD at h
 split at h
 ·cases h;exact .inl ⟨_,_,rfl,rfl,rfl⟩
 ·split at h
  · rename_i hs; cases h; exact .inr (.inl ⟨_, rfl, hs.1, hs.2, rfl⟩)
  · cases h
 ·split at h
  · rename_i hs; cases h; exact .inr (.inr ⟨_, rfl, hs.1, hs.2, rfl⟩)
  · cases h
 ·cases h
theorem oZ{a b:Nat}(h:a<=63):min a b<=63:=Nat.le_trans (Nat.min_le_left _ _) h
theorem aLK(hK:X.K=c.K)(hu:X.A.units+64 < cLine):OpR X (compareOp .In) (r2D (bA c) (bA c) (cE c) dIn):=by
 intro pins s σ H v u x y Q I rx ry h
 obtain ⟨H0,H1,F,a,b,d,sf,ra,rb,eg,q⟩:=h
 unfold dIn at eg
 split at eg
 ·rename_i bb hb
  cases eg
  have fin:EP X pins σ Q (.bool bb) s:=⟨.bl bb,H,I,rfl,q _ F H (Ext.refl sf) (.bl _)⟩
  rcases inD_cases hb with ⟨i,j,rfl,rfl,rfl⟩|⟨xs,rfl,h1,h2,rfl⟩|⟨xs,rfl,h1,h2,rfl⟩
  ·obtain rfl:=aX.str_of ra
   obtain rfl:=aX.str_of rb
   exact aDM pins s σ H _ _ x y Q I rx ry ⟨i,j,rfl,rfl,q _ F H (Ext.refl sf) (.bl _)⟩
  ·obtain ⟨as,r1⟩:=DatV.reads I (by rw[hK];exact aX.heap sf ra) rx
   obtain ⟨bs,r2⟩:=DatV.reads I (by rw[hK];exact aX.heap sf rb) ry
   have hs:=tU h2
   have hm:=oZ (b:=a.depth) hs.2
   exact SeqAt.in_list_reads r2 r1 hs.1 (lL h1) (by omega) fin
  ·obtain ⟨as,r1⟩:=DatV.reads I (by rw[hK];exact aX.heap sf ra) rx
   obtain ⟨bs,r2⟩:=DatV.reads I (by rw[hK];exact aX.heap sf rb) ry
   have hs:=rO h2
   have hm:=oZ (b:=a.depth) hs.2
   exact SeqAt.in_tuple_reads r2 r1 hs.1 (lL h1) (by omega) fin
 ·cases eg
theorem aI4(hK:X.K=c.K)(hu:X.A.units+64 < cLine):OpR X (compareOp .NotIn) (r2D (bA c) (bA c) (cE c) dNin):=by
 intro pins s σ H v u x y Q I rx ry h
 obtain ⟨H0,H1,F,a,b,d,sf,ra,rb,eg,q⟩:=h
 unfold dNin at eg
 split at eg
 ·rename_i bb hb
  cases eg
  have fin:EP X pins σ Q (.bool (!bb)) s:=⟨.bl (!bb),H,I,rfl,q _ F H (Ext.refl sf) (.bl _)⟩
  rcases inD_cases hb with ⟨i,j,rfl,rfl,rfl⟩|⟨xs,rfl,h1,h2,rfl⟩|⟨xs,rfl,h1,h2,rfl⟩
  ·obtain rfl:=aX.str_of ra
   obtain rfl:=aX.str_of rb
   exact xT pins s σ H _ _ x y Q I rx ry ⟨i,j,rfl,rfl,q _ F H (Ext.refl sf) (.bl _)⟩
  ·obtain ⟨as,r1⟩:=DatV.reads I (by rw[hK];exact aX.heap sf ra) rx
   obtain ⟨bs,r2⟩:=DatV.reads I (by rw[hK];exact aX.heap sf rb) ry
   have hs:=tU h2
   have hm:=oZ (b:=a.depth) hs.2
   exact SeqAt.notIn_list_reads r2 r1 hs.1 (lL h1) (by omega) fin
  ·obtain ⟨as,r1⟩:=DatV.reads I (by rw[hK];exact aX.heap sf ra) rx
   obtain ⟨bs,r2⟩:=DatV.reads I (by rw[hK];exact aX.heap sf rb) ry
   have hs:=rO h2
   have hm:=oZ (b:=a.depth) hs.2
   exact SeqAt.notIn_tuple_reads r2 r1 hs.1 (lL h1) (by omega) fin
 ·cases eg
theorem bO(hK:X.K=c.K):IxR X (r2D (bA c) (bA c) (cE c) dIx):=by
 intro value slice pins s σ H v u x y Q I rx ry h hs
 obtain ⟨H0,H1,F,a,b,d,sf,ra,rb,eg,q⟩:=h
 unfold dIx at eg
 split at eg
 ·rename_i xs i
  split at eg
  ·rename_i w hw
   cases eg
   obtain ⟨p,vs,rfl,h1,h2⟩:=aX.lst_of sf ra
   obtain rfl:=aX.int_of rb
   obtain ⟨z,h3,h4⟩:=yR h2 hw
   rw[<-hK] at h1
   exact aIN value slice pins s σ H _ _ x y Q I rx ry ⟨p,vs,i,z,rfl,rfl,h1,h3,q _ F H (Ext.refl sf) h4⟩ hs
  ·cases eg
 ·rename_i xs i
  split at eg
  ·rename_i w hw
   cases eg
   obtain ⟨p,vs,rfl,_,h1,h2⟩:=aX.tup_of sf ra
   obtain rfl:=aX.int_of rb
   obtain ⟨z,h3,h4⟩:=yR h2 hw
   rw[<-hK] at h1
   exact aK4 value slice pins s σ H _ _ x y Q I rx ry ⟨p,vs,i,z,rfl,rfl,h1,h3,q _ F H (Ext.refl sf) h4⟩ hs
  ·cases eg
 ·rename_i z i
  split at eg
  ·rename_i hz
   split at eg
   ·rename_i w hw
    cases eg
    obtain rfl:=aX.str_of ra
    obtain rfl:=aX.int_of rb
    exact aK5 value slice pins s σ H _ _ x y Q I rx ry ⟨z,i,w,rfl,rfl,hz,hw,q _ F H (Ext.refl sf) (.str _)⟩ hs
   ·cases eg
  ·cases eg
 ·cases eg
def tTf(c:Ct)(E:XK)(f:Sg->R Bool):TT:=fun σ H Q=>∃ ρ F,Ab c ρ σ F H/\Rk c E F H (f ρ) fun b=>∀ F' H',Ext F H F' H'->Q b H'
abbrev PTf(X:Cx)(c:Ct)(E:XK)(e:Expr)(f:Sg->R Bool):Prop:=PT X e (tTf c E f)
def asB:PyData->R Bool
 | .bool b=>.ok b
 | _=>.bad
theorem qZ{f:Sg->R PyData}{σ:L2.St}{H:Hp}{Q:Bool->Hp->Prop}(h:tTf c E (e1 asB f) σ H Q):tV (cE c) c E f σ H fun x H'=>∃ k,x=.bl k/\Q k H':=by
 obtain ⟨ρ,F,ab,h⟩:=h
 refine ⟨ρ,F,ab,(Rk.bind h).imp fun d _ q v F' H' s r=>?_⟩
 cases d with
 | bool b=>exact ⟨b,DatV.bl_of r,Rk.ok q F' H' s⟩
 | _=>exact False.elim q
theorem cK{op:CmpOp}{g:PyData->PyData->R PyData}{fa fb:Sg->R PyData}(ho:OpR X (compareOp op) (r2D (bA c) (bA c) (cE c) g))(hp:cN g)(ha:PR X c E a fa)(hb:PR X c E b fb)(hm:behindInMarks op b=false):PTf X c E (.Compare a [op] [b] pos) (e1 asB (e2 g fa fb)):=
 PT.imp (jD ho ha hb hm) fun σ H Q h=>tV2 xI hp (tQ c) (kQ c) (qZ h)
theorem fN{f:Sg->R PyData}(h:PD X c E e f)(he:∀ whole,isTrue e X.env whole=(do let v <-whole;standAt e.pos;holding [v] (truthy v)):=by intro _;rfl):PTf X c E e (e1 asB f):=
 PT.imp (L2.fN h he) fun σ H Q h=>qZ h
def gY(f g:Sg->R Bool):Sg->R Bool:=fun ρ=>(f ρ).bind fun b=>if b=true then g ρ else .ok false
def bOr(f g:Sg->R Bool):Sg->R Bool:=fun ρ=>(f ρ).bind fun b=>if b=true then .ok true else g ρ
def gZ(f:Sg->R Bool):Sg->R Bool:=fun ρ=>(f ρ).bind fun b=>.ok (!b)
abbrev PWf(X:Cx)(c:Ct)(E:XK)(e:Expr)(f:Sg->R Bool):Prop:=PW X e (tTf c E f)
theorem PW.imp{X:Cx}{e:Expr}{t t':TT}(h:PW X e t)(i:∀ σ H Q,t' σ H Q->t σ H Q):PW X e t':=fun whole pins s σ H Q I q=>h whole pins s σ H Q I (i σ H Q q)
theorem aO1{f g:Sg->R Bool}{σ:L2.St}{H:Hp}{Q:Bool->Hp->Prop}(h:tTf c E (gY f g) σ H Q):aKI (tTf c E f) (tTf c E g) σ H Q:=by
 obtain ⟨ρ,F,ab,h⟩:=h
 refine ⟨ρ,F,ab,(Rk.bind h).imp fun b _ q F' H' s=>?_⟩
 cases b with
 | true=>exact ⟨ρ,F',ab.ext s,(Rk.ext s q).imp fun d _ z F2 H2 s2=>z F2 H2 (s.trans s2)⟩
 | false=>exact Rk.ok q F' H' s
theorem tor{f g:Sg->R Bool}{σ:L2.St}{H:Hp}{Q:Bool->Hp->Prop}(h:tTf c E (bOr f g) σ H Q):tOr (tTf c E f) (tTf c E g) σ H Q:=by
 obtain ⟨ρ,F,ab,h⟩:=h
 refine ⟨ρ,F,ab,(Rk.bind h).imp fun b _ q F' H' s=>?_⟩
 cases b with
 | false=>exact ⟨ρ,F',ab.ext s,(Rk.ext s q).imp fun d _ z F2 H2 s2=>z F2 H2 (s.trans s2)⟩
 | true=>exact Rk.ok q F' H' s
theorem j8{f:Sg->R Bool}(h:PTf X c E a f):PWf X c E (.BoolOp .And [a] pos) f:=L2.j8 h
theorem kX{f:Sg->R Bool}(h:PTf X c E a f):PWf X c E (.BoolOp .Or [a] pos) f:=L2.kX h
theorem kY{f g:Sg->R Bool}{rest:List Expr}(h:PTf X c E a f)(h2:PWf X c E (.BoolOp .And (b::rest) pos) g):PWf X c E (.BoolOp .And (a::b::rest) pos) (gY f g):=PW.imp (L2.kY h h2) fun _ _ _ q=>aO1 q
theorem jN{f g:Sg->R Bool}{rest:List Expr}(h:PTf X c E a f)(h2:PWf X c E (.BoolOp .Or (b::rest) pos) g):PWf X c E (.BoolOp .Or (a::b::rest) pos) (bOr f g):=PW.imp (L2.jN h h2) fun _ _ _ q=>tor q
theorem f9{f:Sg->R Bool}(h:PTf X c E a f):PTf X c E (.UnaryOp .Not a pos) (gZ f):=PT.imp (L2.f9 h) fun σ H Q ⟨ρ,F,ab,k⟩=>⟨ρ,F,ab,(Rk.bind k).imp fun b _ q F' H' s=>Rk.ok q F' H' s⟩
noncomputable def p8(f g:Sg->R PyData):Sg->R PyData:=fun ρ=>(f ρ).bind fun x=>(asB x).bind fun b=>if b=true then g ρ else .ok (.bool false)
def eOr(f g:Sg->R PyData):Sg->R PyData:=fun ρ=>(f ρ).bind fun x=>(asB x).bind fun b=>if b=true then .ok (.bool true) else g ρ
def aCP(f:Sg->R PyData):Sg->R PyData:=fun ρ=>(f ρ).bind fun x=>(asB x).bind fun b=>.ok (.bool (!b))
def eIf{α:Type}(t:Sg->R Bool)(f g:Sg->R α):Sg->R α:=fun ρ=>(t ρ).bind fun b=>if b=true then f ρ else g ρ
theorem p9{op}{f:Sg->R PyData}(h:PD X c E a f):PD X c E (.BoolOp op [a] pos) f:=aKJ h
theorem n9{f g:Sg->R PyData}{rest:List Expr}(h:PD X c E a f)(h2:PD X c E (.BoolOp .And (b::rest) pos) g):PD X c E (.BoolOp .And (a::b::rest) pos) (p8 f g):=PE.imp (aKK h h2) fun σ H Q zz0=>by
 obtain ⟨ρ,F,ab,k⟩:=zz0
 refine ⟨ρ,F,ab,(Rk.bind k).imp fun d _ q v F' H' s r=>?_⟩
 cases d with
 | bool b=>
  refine ⟨b,DatV.bl_of r,?_⟩
  cases b with
  | true=>exact uX ⟨ρ,F',ab.ext s,(Rk.ext s q).imp fun d _ z v F2 H2 s2=>z v F2 H2 (s.trans s2)⟩
  | false=>exact uW (Rk.ok q (.bl false) F' H' s (.bl false))
 | _=>exact False.elim q
theorem aED{f:Sg->R PyData}(h:PD X c E a f):PD X c E (.UnaryOp .Not a pos) (aCP f):=PE.imp (aKL h) fun σ H Q zz0=>by
 obtain ⟨ρ,F,ab,k⟩:=zz0
 refine ⟨ρ,F,ab,(Rk.bind k).imp fun d _ q v F' H' s r=>?_⟩
 cases d with
 | bool b=>exact ⟨b,DatV.bl_of r,Rk.ok q _ F' H' s (.bl _)⟩
 | _=>exact False.elim q
theorem aHW{t:Sg->R Bool}{f g:Sg->R PyData}{q:Expr}(hq:PTf X c E q t)(h:PD X c E a f)(h2:PD X c E b g):PD X c E (.IfExp q a b pos) (eIf t f g):=PE.imp (aFM hq h h2) fun σ H Q zz0=>by
 obtain ⟨ρ,F,ab,k⟩:=zz0
 refine ⟨ρ,F,ab,(Rk.bind k).imp fun b _ q F' H' s=>?_⟩
 cases b with
 | true=>exact uX ⟨ρ,F',ab.ext s,(Rk.ext s q).imp fun d _ z v F2 H2 s2=>z v F2 H2 (s.trans s2)⟩
 | false=>exact uW ⟨ρ,F',ab.ext s,(Rk.ext s q).imp fun d _ z v F2 H2 s2=>z v F2 H2 (s.trans s2)⟩
noncomputable def eCh(g g':PyData->PyData->R PyData)(fa fb fc:Sg->R PyData):Sg->R PyData:=fun ρ=>(fa ρ).bind fun x=>(fb ρ).bind fun y=>(g x y).bind fun z=>(asB z).bind fun k=>if k=true then (fc ρ).bind fun w=>g' y w else .ok (.bool false)
theorem aLL{g g':PyData->PyData->R PyData}(hp:cN g)(hp':cN g'){fa fb fc:Sg->R PyData}{σ:L2.St}{H:Hp}{Q:VK}(h:tV (cE c) c E (eCh g g' fa fb fc) σ H Q) :
  tChain (r2D (bA c) (bA c) (cE c) g) (r2D (bA c) (bA c) (cE c) g') (tV (bA c) c E fa) (tV (bA c) c E fb) (tV (bA c) c E fc) σ H Q:=by
 obtain ⟨ρ,F,ab,h⟩:=h
 refine ⟨ρ,F,ab,(Rk.bind h).imp fun x _ q v F1 H1 s1 rv=>?_⟩
 refine ⟨ρ,F1,ab.ext s1,((Rk.bind q).ext s1).imp fun y _ q u F2 H2 s2 ru=>?_⟩
 cases eg:g x y with
 | bad=>rw[eg] at q;exact q.elim
 | ex e=>exact absurd eg (hp x y e)
 | ok z=>
  rw[eg] at q
  refine ⟨H,H1,F2,x,y,z,s2.fh,aX.ext s2 rv,ru,eg,fun w F3 H3 s3 rw'=>?_⟩
  have s13:=(s1.trans s2).trans s3
  cases z with
  | bool k=>
   refine ⟨k,DatV.bl_of rw',?_⟩
   cases k with
   | false=>exact uW (Rk.ok q (.bl false) F3 H3 s13 (.bl false))
   | true=>
    have q':Rk c E F H ((fc ρ).bind fun w=>g' y w) (fun d=>∀ v F' H',Ext F H F' H'->cE c d v H F' H'->Q v H'):=q
    refine uX ⟨ρ,F3,ab.ext s13,((Rk.bind q').ext s13).imp fun w _ q v' F4 H4 s4 rw2=>?_⟩
    cases eg2:g' y w with
    | bad=>rw[eg2] at q;exact q.elim
    | ex e=>exact absurd eg2 (hp' y w e)
    | ok z2=>
     rw[eg2] at q
     exact ⟨H1,H3,F4,y,w,z2,s4.fh,aX.ext (s3.trans s4) ru,rw2,eg2,fun w' F5 H5 s5 r5=>Rk.ok q w' F5 H5 ((s13.trans s4).trans s5) r5⟩
  | _=>exact False.elim q
theorem oP{op op':CmpOp}{g g':PyData->PyData->R PyData}{cc:Expr}{fa fb fc:Sg->R PyData}(ho:OpR X (compareOp op) (r2D (bA c) (bA c) (cE c) g))(hp:cN g)(ho':OpR X (compareOp op') (r2D (bA c) (bA c) (cE c) g'))(hp':cN g')
  (ha:PR X c E a fa) (hb:PR X c E b fb) (hc:PR X c E cc fc) (hm:lastMarks [op,op'] [b,cc]=false:=by with_unfolding_all rfl):PTf X c E (.Compare a [op,op'] [b,cc] pos) (e1 asB (eCh g g' fa fb fc)):=
 PT.imp (L2.oP ho ho' ha hb hc hm) fun σ H Q h=>aLL hp hp' (qZ h)
end
end Fl
namespace Fl
open PySem L2 PyProof.Rows
def AFs(g:Gb)(K:Frag)(mg:Str->Option Value)(F:Hp):List A->List V->Prop
 | [],[]=>True
 | a::as,v::vs=>AF g K mg F a v/\AFs g K mg F as vs
 | _,_=>False
theorem AFs.same{g:Gb}{K:Frag}{mg:Str->Option Value}{F F':Hp}(s:aM F F'):∀ {as:List A} {vs:List V},AFs g K mg F as vs->AFs g K mg F' as vs
 | [],[],_=>trivial
 | a::as,v::vs,h=>⟨AF.same s h.1,AFs.same s h.2⟩
theorem AFs.len{g:Gb}{K:Frag}{mg:Str->Option Value}{F:Hp}:∀ {as:List A} {vs:List V},AFs g K mg F as vs->vs.length=as.length
 | [],[],_=>rfl
 | a::as,v::vs,h=>by rw[List.length_cons,List.length_cons,AFs.len h.2]
theorem PA.imp{X:Cx}{es:List Expr}{t t':TA}(h:PA X es t)(i:∀ σ H Q,t' σ H Q->t σ H Q):PA X es t':=fun pos pins s σ H Q I q=>h pos pins s σ H Q I (i σ H Q q)
def tAd(c:Ct)(E:XK)(f:Sg->R (List PyData)):TA:=fun σ H Q=>∃ ρ F,Ab c ρ σ F H/\Rk c E F H (f ρ) fun ds=>∀ vs F' H',Ext F H F' H'->DatVs c.K F' vs ds->Q vs H'
def tAv(c:Ct)(E:XK)(f:Sg->R (List A)):TA:=fun σ H Q=>∃ ρ F,Ab c ρ σ F H/\Rk c E F H (f ρ) fun ds=>∀ vs F' H',Ext F H F' H'->AFs c.g c.K c.mg F' ds vs->Q vs H'
abbrev PAd(X:Cx)(c:Ct)(E:XK)(es:List Expr)(f:Sg->R (List PyData)):Prop:=PA X es (tAd c E f)
abbrev PAv(X:Cx)(c:Ct)(E:XK)(es:List Expr)(f:Sg->R (List A)):Prop:=PA X es (tAv c E f)
noncomputable def aK{α:Type}:Sg->R (List α):=fun _=>.ok []
def aA{α:Type}(f:Sg->R α)(g:Sg->R (List α)):Sg->R (List α):=fun ρ=>(f ρ).bind fun x=>(g ρ).bind fun xs=>.ok (x::xs)
section
variable{X:Cx}{c:Ct}{E:XK}{e a b:Expr}{es:List Expr}{pos:Pos}
theorem bM:PAd X c E [] aK:=PA.imp aR fun σ H Q ⟨ρ,F,ab,k⟩=>Rk.ok k [] F H (Ext.refl ab.fh) .nil
theorem bE:PAv X c E [] aK:=PA.imp aR fun σ H Q ⟨ρ,F,ab,k⟩=>Rk.ok k [] F H (Ext.refl ab.fh) trivial
theorem aL{f:Sg->R PyData}{g:Sg->R (List PyData)}(h:PD X c E e f)(h2:PAd X c E es g)(hs:starEach (e::es) X.env=(false,eval e X.env)::starEach es X.env:=by rfl):PAd X c E (e::es) (aA f g):=PA.imp (aE h h2 hs) fun σ H Q zz0=>by
 obtain ⟨ρ,F,ab,k⟩:=zz0
 refine ⟨ρ,F,ab,(Rk.bind k).imp fun x _ q v F1 H1 s1 r1=>⟨ρ,F1,ab.ext s1,((Rk.bind q).ext s1).imp fun xs _ q vs F2 H2 s2 r2=>?_⟩⟩
 exact Rk.ok q (v::vs) F2 H2 (s1.trans s2) (.cons (DatV.same s2.ff r1) r2)
theorem aF{f:Sg->R A}{g:Sg->R (List A)}(h:PV X c E e f)(h2:PAv X c E es g)(hs:starEach (e::es) X.env=(false,eval e X.env)::starEach es X.env:=by rfl):PAv X c E (e::es) (aA f g):=PA.imp (aE h h2 hs) fun σ H Q zz0=>by
 obtain ⟨ρ,F,ab,k⟩:=zz0
 refine ⟨ρ,F,ab,(Rk.bind k).imp fun x _ q v F1 H1 s1 r1=>⟨ρ,F1,ab.ext s1,((Rk.bind q).ext s1).imp fun xs _ q vs F2 H2 s2 r2=>?_⟩⟩
 exact Rk.ok q (v::vs) F2 H2 (s1.trans s2) ⟨AF.same s2.ff r1,r2⟩
def bZ(f:Sg->R (List PyData)):Sg->R PyData:=fun ρ=>(f ρ).bind fun xs=>if xs.length<=16777216 then .ok (.tuple xs) else .bad
def eN(f:Sg->R (List PyData)):Sg->R (List PyData):=fun ρ=>(f ρ).bind fun xs=>if xs.length<=16777216 then .ok xs else .bad
theorem dI:sizeLine=16777216:=sizeLine_eq
theorem cW{x1}{f:Sg->R (List PyData)}(h:PAd X c E es f):PD X c E (.Tuple es x1 pos) (bZ f):=PE.imp (xU h) fun σ H Q zz0=>by
 obtain ⟨ρ,F,ab,k⟩:=zz0
 refine ⟨ρ,F,ab,(Rk.bind k).imp fun xs _ q vs F1 H1 s1 r1=>?_⟩
 by_cases hz:xs.length<=16777216
 ·rw[if_pos hz] at q
  refine ⟨by rw[r1.length,dI];exact hz,fun p hp=>?_⟩
  exact Rk.ok q (.ref p) _ _ (s1.trans (Ext.new s1.fh hp)) (.tup (SqT.of aT) (r1.same (aM.upd (bV s1.fh hp))))
 ·rw[if_neg hz] at q;exact q.elim
theorem gC{f:Sg->R (List PyData)}(h:PAd X c E es f):PN X c E (.List es pos) (eN f):=PE.imp (aK0 h) fun σ H Q zz0=>by
 obtain ⟨ρ,F,ab,k⟩:=zz0
 refine ⟨ρ,F,ab,(Rk.bind k).imp fun xs _ q vs F1 H1 s1 r1=>?_⟩
 by_cases hz:xs.length<=16777216
 ·rw[if_pos hz] at q
  refine ⟨by rw[r1.length,dI];exact hz,fun p hp=>?_⟩
  exact Rk.ok q (.ref p) _ _ (s1.trans (Ext.own s1.fh hp)) ⟨p,vs,rfl,bV s1.hh hp,aT,bV s1.fh hp,r1⟩
 ·rw[if_neg hz] at q;exact q.elim
noncomputable def dLen:PyData->R PyData
 | .str z=>if z.length<=16777216 then .ok (.int z.length) else .bad
 | .list xs=>.ok (.int xs.length)
 | .tuple xs=>.ok (.int xs.length)
 | _=>.bad
theorem plain_len:k7 dLen:=by intro a e h;unfold dLen at h;split at h<;>(try split at h)<;>cases h
theorem cO{fa:Sg->R PyData}(hK:X.K=c.K)(h0:PE X e (tCB (fun xs H Q=>∃ x n,xs=[x]/\aKY X.K x H n/\Q (.int n) H) (cT (tV (bA c) c E fa) eR))):PD X c E e (e1 dLen fa):=
 PE.imp h0 fun σ H Q h=>by
  obtain ⟨ρ,F,ab,k⟩:=tV1 (Ra:=bA c) qY plain_len (kQ c) h
  refine ⟨ρ,F,ab,k.imp fun d _ q v F' H' s r=>?_⟩
  obtain ⟨H0,F1,a,d',sf,ra,eg,q⟩:=q v F' H' s r
  unfold dLen at eg
  split at eg
  ·rename_i z
   split at eg
   ·rename_i hz
    cases eg
    obtain rfl:=aX.str_of ra
    exact ⟨_,_,rfl,⟨by rw[dI];exact hz,rfl⟩,q _ F1 H' (Ext.refl sf) (.int _)⟩
   ·cases eg
  ·cases eg
   obtain ⟨p,vs,rfl,h1,h2⟩:=aX.lst_of sf ra
   rw[<-hK] at h1
   exact ⟨_,vs.length,rfl,.inl ⟨vs,h1,rfl⟩,q _ F1 H' (Ext.refl sf) (by rw[h2.length];exact .int _)⟩
  ·cases eg
   obtain ⟨p,vs,rfl,_,h1,h2⟩:=aX.tup_of sf ra
   rw[<-hK] at h1
   exact ⟨_,vs.length,rfl,.inr ⟨vs,h1,rfl⟩,q _ F1 H' (Ext.refl sf) (by rw[h2.length];exact .int _)⟩
  ·cases eg
noncomputable def dTup:PyData->R PyData
 | .list xs=>.ok (.tuple xs)
 | .tuple xs=>.ok (.tuple xs)
 | _=>.bad
theorem aEE:k7 dTup:=by intro a e h;unfold dTup at h;split at h<;>cases h
theorem eE{fa:Sg->R PyData}(hK:X.K=c.K)(h0:PE X e (tCB (fun xs H Q=>∃ p ys,xs=[.ref p]/\((SqL X.K H p ys/\∀ l,H l=none->Q (.ref l) (upd H l (.tup ys)))\/(SqT X.K H p ys/\Q (.ref p) H))) (cT (tV (bA c) c E fa) eR))):PD X c E e (e1 dTup fa):=
 PE.imp h0 fun σ H Q h=>by
  obtain ⟨ρ,F,ab,k⟩:=tV1 (Ra:=bA c) qY aEE (kQ c) h
  refine ⟨ρ,F,ab,k.imp fun d _ q v F' H' s r=>?_⟩
  obtain ⟨H0,F1,a,d',sf,ra,eg,q⟩:=q v F' H' s r
  unfold dTup at eg
  split at eg
  ·cases eg
   obtain ⟨p,vs,rfl,h1,h2⟩:=aX.lst_of sf ra
   rw[<-hK] at h1
   exact ⟨p,vs,rfl,.inl ⟨h1,fun l hl=>q _ _ _ (Ext.new sf hl) (.tup (SqT.of aT) (h2.same (aM.upd (bV sf hl))))⟩⟩
  ·cases eg
   obtain ⟨p,vs,rfl,f1,h1,h2⟩:=aX.tup_of sf ra
   rw[<-hK] at h1
   exact ⟨p,vs,rfl,.inr ⟨h1,q _ F1 H' (Ext.refl sf) (.tup f1 h2)⟩⟩
  ·cases eg
noncomputable def dLst:PyData->R (List PyData)
 | .list xs=>.ok xs
 | .tuple xs=>.ok xs
 | _=>.bad
theorem aEF:k7 dLst:=by intro a e h;unfold dLst at h;split at h<;>cases h
theorem aI5{fa:Sg->R PyData}(hK:X.K=c.K)(h0:PE X e (tCB (fun xs H Q=>∃ p ys,xs=[.ref p]/\(SqL X.K H p ys\/SqT X.K H p ys)/\∀ l,H l=none->Q (.ref l) (upd H l (.lst ys))) (cT (tV (bA c) c E fa) eR))):PN X c E e (e1 dLst fa):=
 PE.imp h0 fun σ H Q h=>by
  obtain ⟨ρ,F,ab,k⟩:=tV1 (Ra:=bA c) qY aEF (aNO c) h
  refine ⟨ρ,F,ab,k.imp fun d _ q v F' H' s r=>?_⟩
  obtain ⟨H0,F1,a,d',sf,ra,eg,q⟩:=q v F' H' s r
  unfold dLst at eg
  split at eg
  ·cases eg
   obtain ⟨p,vs,rfl,h1,h2⟩:=aX.lst_of sf ra
   rw[<-hK] at h1
   exact ⟨p,vs,rfl,.inl h1,fun l hl=>q _ _ _ (Ext.own sf hl) ⟨l,vs,rfl,hl,aT,bV sf hl,h2⟩⟩
  ·cases eg
   obtain ⟨p,vs,rfl,f1,h1,h2⟩:=aX.tup_of sf ra
   rw[<-hK] at h1
   exact ⟨p,vs,rfl,.inr h1,fun l hl=>q _ _ _ (Ext.own sf hl) ⟨l,vs,rfl,hl,aT,bV sf hl,h2⟩⟩
  ·cases eg
noncomputable def dInt:PyData->R PyData
 | .int i=>.ok (.int i)
 | .bool b=>.ok (.int (if b=true then 1 else 0))
 | _=>.bad
theorem aEG:k7 dInt:=by intro a e h;unfold dInt at h;split at h<;>cases h
theorem aAY{fa:Sg->R PyData}(h0:PE X e (tCB (fun xs H Q=>(∃ i,xs=[.int i]/\Q (.int i) H)\/∃ k,xs=[.bl k]/\Q (.int (if k then 1 else 0)) H) (cT (tV (bA c) c E fa) eR))):PD X c E e (e1 dInt fa):=
 PE.imp h0 fun σ H Q h=>by
  obtain ⟨ρ,F,ab,k⟩:=tV1 (Ra:=bA c) qY aEG (kQ c) h
  refine ⟨ρ,F,ab,k.imp fun d _ q v F' H' s r=>?_⟩
  obtain ⟨H0,F1,a,d',sf,ra,eg,q⟩:=q v F' H' s r
  unfold dInt at eg
  split at eg
  ·cases eg
   obtain rfl:=aX.int_of ra
   exact .inl ⟨_,rfl,q _ F1 H' (Ext.refl sf) (.int _)⟩
  ·rename_i b
   cases eg
   obtain rfl:=aX.bl_of ra
   exact .inr ⟨b,rfl,q _ F1 H' (Ext.refl sf) (by cases b<;>exact .int _)⟩
  ·cases eg
noncomputable def nB:List PyData->Option (List Bool)
 | []=>some []
 | .bool b::t=>(nB t).map (b :: ·)
 | _=>none
def dAll:PyData->R PyData
 | .list xs=>match nB xs with
  | some bs=>.ok (.bool (bs.all id))
  | none=>.bad
 | _=>.bad
theorem aEH:k7 dAll:=by intro a e h;unfold dAll at h;split at h<;>(try split at h)<;>cases h
theorem yV{K:Frag}{F:Hp}:∀ {vs:List V} {xs:List PyData} {bs:List Bool},DatVs K F vs xs->nB xs=some bs->vs=bs.map V.bl
 | _,_,bs,.nil,e=>by cases e;rfl
 | _,_,bs,.cons (d:=d) (ds:=t) h h2,e=>by
  cases d with
  | bool b=>
   unfold nB at e
   cases q:nB t with
   | none=>rw[q] at e;cases e
   | some cs=>
    rw[q] at e
    cases e
    rw[yV h2 q,DatV.bl_of h];rfl
  | _=>cases e
theorem yW{fa:Sg->R PyData}(hK:X.K=c.K)(h0:PE X e (tCB (fun xs H Q=>∃ (a:Addr) (bs:List Bool),xs=[.ref a]/\SqL X.K H a (bs.map V.bl)/\Q (.bl (bs.all id)) H) (cT (tV (bA c) c E fa) eR))):PD X c E e (e1 dAll fa):=
 PE.imp h0 fun σ H Q h=>by
  obtain ⟨ρ,F,ab,k⟩:=tV1 (Ra:=bA c) qY aEH (kQ c) h
  refine ⟨ρ,F,ab,k.imp fun d _ q v F' H' s r=>?_⟩
  obtain ⟨H0,F1,a,d',sf,ra,eg,q⟩:=q v F' H' s r
  unfold dAll at eg
  split at eg
  ·split at eg
   ·rename_i bs hb
    cases eg
    obtain ⟨p,vs,rfl,h1,h2⟩:=aX.lst_of sf ra
    rw[<-hK] at h1
    obtain rfl:=yV h2 hb
    exact ⟨p,bs,rfl,h1,q _ F1 H' (Ext.refl sf) (.bl _)⟩
   ·cases eg
  ·cases eg
end
end Fl
namespace Fl
open PySem L2 PyProof.Rows
inductive Fw where
 | nx (ρ:Sg)|bk (ρ:Sg)|ct (ρ:Sg)|rt (a:A)
def AR(g:Gb)(K:Frag)(mg:Str->Option Value)(H F' H':Hp):A->V->Prop
 | .l xs,v=>∃ p us,v=.ref p/\H p=none/\H' p=some (.lst us)/\F' p=none/\DatVs K F' us xs
 | a,v=>AF g K mg F' a v
theorem AR.of{g:Gb}{K:Frag}{mg:Str->Option Value}{H F' H':Hp}{a:A}{v:V}(h:AF g K mg F' a v):AR g K mg H F' H' a v:=by
 cases a with
 | l xs=>exact False.elim h
 | _=>exact h
def iY(c:Ct)(F:Hp)(D:iP):Fw->Prop
 | .nx ρ=>∀ σ' F' H',aM F F'->Ab c ρ σ' F' H'->D.nx σ' H'
 | .bk ρ=>∀ σ' F' H',aM F F'->Ab c ρ σ' F' H'->D.bk σ' H'
 | .ct ρ=>∀ σ' F' H',aM F F'->Ab c ρ σ' F' H'->D.ct σ' H'
 | .rt a=>∀ v F' H',Ext c.F0 c.H0 F' H'->AR c.g c.K c.mg c.H0 F' H' a v->D.rt v H'
theorem iY.same{c:Ct}{F F1:Hp}{D:iP}(s:aM F F1):∀ {w:Fw},iY c F D w->iY c F1 D w
 | .nx ρ,h=>fun σ' F' H' s' ab=>h σ' F' H' (fun a o z=>s' a o (s a o z)) ab
 | .bk ρ,h=>fun σ' F' H' s' ab=>h σ' F' H' (fun a o z=>s' a o (s a o z)) ab
 | .ct ρ,h=>fun σ' F' H' s' ab=>h σ' F' H' (fun a o z=>s' a o (s a o z)) ab
 | .rt a,h=>h
def tSf(c:Ct)(E:XK)(f:Sg->R Fw):TS:=fun D σ H=>∃ ρ F,Ab c ρ σ F H/\Rk c E F H (f ρ) (iY c F D)
abbrev PSf(X:Cx)(c:Ct)(E:XK)(st:Stmt)(f:Sg->R Fw):Prop:=PS X st (tSf c E f)
abbrev nO(X:Cx)(c:Ct)(E:XK)(st:List Stmt)(f:Sg->R Fw):Prop:=PSs X st (tSf c E f)
theorem get_set{α:Type}{l:List α}{i j:Nat}{x y:α}(h:(l.set i x)[j]? = some y):(i=j/\y=x/\i < l.length)\/(i≠j/\l[j]? = some y):=by
 by_cases e:i=j
 ·subst e
  by_cases hl:i < l.length
  · rw [List.getElem?_set_self hl] at h; exact .inl ⟨rfl, (Option.some.inj h).symm, hl⟩
  · rw [List.getElem?_eq_none_iff.mpr (by rw [List.length_set]; omega)] at h; cases h
 ·rw[List.getElem?_set_ne e] at h;exact .inr ⟨e,h⟩
theorem Ab.setF{c:Ct}{ρ:Sg}{σ:L2.St}{F H:Hp}{i:Nat}{a:A}{v:V}(b:Ab c ρ σ F H)(ha:AO c F H a v)(hn:a.own=true->∀ (j:Nat) (a':A),j≠i->ρ[j]? = some (some a')->a'.own=true->σ[j]? ≠ some (some v)):Ab c (ρ.set i (some a)) (σ.set i (some v)) F H where
 len:=by rw[List.length_set,List.length_set];exact b.len
 fh:=b.fh
 slot:=fun j a' h=>by
  rcases get_set h with ⟨e,q,hl⟩|⟨ne,q⟩
  ·subst e
   cases q
   exact ⟨v,List.getElem?_set_self (by rw[<-b.len];exact hl),ha⟩
  ·rw[List.getElem?_set_ne ne];exact b.slot j a' q
 apart:=fun j k a' b' hjk h1 h2 o1 o2=>by
  rcases get_set h1 with ⟨e,q,hl⟩|⟨ne,q⟩
  ·subst e
   cases q
   rcases get_set h2 with ⟨e',q',hl'⟩|⟨ne',q'⟩
   ·exact absurd e' hjk
   ·rw[List.getElem?_set_self (by rw[<-b.len];exact hl),List.getElem?_set_ne ne']
    exact (hn o1 k b' (Ne.symm hjk) q' o2).symm
  ·rcases get_set h2 with ⟨e',q',hl'⟩|⟨ne',q'⟩
   ·subst e'
    cases q'
    rw[List.getElem?_set_self (by rw[<-b.len];exact hl'),List.getElem?_set_ne ne]
    exact hn o2 j a' hjk q o1
   ·rw[List.getElem?_set_ne ne,List.getElem?_set_ne ne']
    exact b.apart j k a' b' hjk q q' o1 o2
 f0:=b.f0
 h0:=b.h0
 n0:=b.n0
 t0:=b.t0
theorem AO.of{c:Ct}{F H:Hp}:∀ {a:A} {v:V},AF c.g c.K c.mg F a v->AO c F H a v
 | .d x,v,h=>h
 | .x e,v,h=>h
 | .g k n G,v,h=>h
 | .f kvs,v,h=>h
 | .o e,v,h=>h
theorem AF.notOwn{g:Gb}{K:Frag}{mg:Str->Option Value}{F:Hp}:∀ {a:A} {v:V},AF g K mg F a v->a.own=false
 | .d x,v,h=>rfl
 | .x e,v,h=>rfl
 | .g k n G,v,h=>rfl
 | .f kvs,v,h=>rfl
 | .o e,v,h=>rfl
theorem Ab.setA{c:Ct}{ρ:Sg}{σ:L2.St}{F H:Hp}{i:Nat}{a:A}{v:V}(b:Ab c ρ σ F H)(ha:AF c.g c.K c.mg F a v):Ab c (ρ.set i (some a)) (σ.set i (some v)) F H:=
 b.setF (AO.of ha) fun z=>by rw[AF.notOwn ha] at z;cases z
theorem Ab.setN{c:Ct}{ρ:Sg}{σ:L2.St}{F H F' H':Hp}{i:Nat}{xs:List PyData}{v:V}(b:Ab c ρ σ F H)(e:Ext F H F' H')(h:yP c xs v H F' H'):Ab c (ρ.set i (some (.l xs))) (σ.set i (some v)) F' H':=by
 obtain ⟨p,vs,rfl,h1,h2,h3,h4⟩:=h
 refine (b.ext e).setF ⟨p,vs,rfl,h2,h3,bV b.h0 h1,h4⟩ fun _ j a' _ ha' ho=>?_
 obtain ⟨w,hw,q⟩:=b.slot j a' ha'
 rw[hw]
 intro z
 cases z
 obtain ⟨p',o',e',q1,_⟩:=q.at ho
 cases e'
 rw[h1] at q1
 cases q1
theorem Ab.putO{c:Ct}{ρ:Sg}{σ:L2.St}{F H:Hp}{i:Nat}{a a':A}{p:Addr}{o:HO}(b:Ab c ρ σ F H)(hi:ρ[i]? = some (some a))(ho:a.own=true)(hp:σ[i]? = some (some (.ref p)))(ho':a'.own=true)(hy:AO c F (upd H p o) a' (.ref p)) :
  Ab c (ρ.set i (some a')) σ F (upd H p o):=by
 obtain ⟨v,h1,q⟩:=b.slot i _ hi
 rw[hp] at h1
 cases h1
 obtain ⟨p',o',e',h2,h3,h4⟩:=q.at ho
 cases e'
 have other:∀ (j:Nat) (a:A) (w:V),j≠i->ρ[j]? = some (some a)->σ[j]? = some (some w)->AO c F H a w->AO c F (upd H p o) a w:=by
  intro j a2 w hj ha hw q2
  by_cases own:a2.own=true
  ·refine q2.off fun z=>?_
   subst z
   exact b.apart j i _ _ hj ha hi own ho (by rw[hw,hp])
  ·cases a2 with
   | l zs=>exact absurd rfl own
   | m zs=>exact absurd rfl own
   | d x=>exact q2
   | x e=>exact q2
   | g k n f=>exact q2
   | k S=>exact q2
   | f S=>exact q2
   | o S=>exact q2
 exact {
  len:=by rw[List.length_set];exact b.len
  fh:=fun a o z=>by rw[aH (fun w=>by subst w;rw[h3] at z;cases z)];exact b.fh a o z
  slot:=fun j a h=>by
   rcases get_set h with ⟨e,q,hl⟩|⟨ne,q⟩
   ·subst e
    cases q
    exact ⟨_,hp,hy⟩
   ·obtain ⟨w,hw,q2⟩:=b.slot j a q
    exact ⟨w,hw,other j a w (Ne.symm ne) q hw q2⟩
  apart:=fun j k a' b' hjk h1 h2 o1 o2=>by
   rcases get_set h1 with ⟨e,q,hl⟩|⟨ne,q⟩
   ·subst e
    cases q
    rcases get_set h2 with ⟨e',q',hl'⟩|⟨ne',q'⟩
    ·exact absurd e' hjk
    ·exact b.apart _ k _ b' hjk hi q' ho o2
   ·rcases get_set h2 with ⟨e',q',hl'⟩|⟨ne',q'⟩
    ·subst e'
     exact b.apart j _ a' _ hjk q hi o1 ho
    ·exact b.apart j k a' b' hjk q q' o1 o2
  f0:=b.f0
  h0:=fun a o z=>by rw[aH (fun w=>by subst w;rw[h4] at z;cases z)];exact b.h0 a o z
  n0:=b.n0
  t0:=b.t0}
theorem Ab.putL{c:Ct}{ρ:Sg}{σ:L2.St}{F H:Hp}{i:Nat}{xs ys:List PyData}{p:Addr}{vs:List V}(b:Ab c ρ σ F H)(hi:ρ[i]? = some (some (.l xs)))(hp:σ[i]? = some (some (.ref p)))(hy:DatVs c.K F vs ys) :
  Ab c (ρ.set i (some (.l ys))) σ F (upd H p (.lst vs)):=by
 obtain ⟨v,h1,p',us,rfl,h2,h3,h4,h5⟩:=b.slot i _ hi
 rw[hp] at h1
 cases h1
 exact b.putO hi rfl hp rfl ⟨p,vs,rfl,aT,h3,h4,hy⟩
theorem Ab.putM{c:Ct}{ρ:Sg}{σ:L2.St}{F H:Hp}{i:Nat}{kvs kvs':List (PyData×PyData)}{p:Addr}{es:List Ent}{ep:Nat}(b:Ab c ρ σ F H)(hi:ρ[i]? = some (some (.m kvs)))(hp:σ[i]? = some (some (.ref p)))(hy:MapRel c.K F es kvs') :
  Ab c (ρ.set i (some (.m kvs'))) σ F (upd H p (dJ c.w p es ep)):=by
 obtain ⟨v,h1,p',us,rfl,h2,h3,h4,h5⟩:=b.slot i _ hi
 rw[hp] at h1
 cases h1
 exact b.putO hi rfl hp rfl ⟨p,es,rfl,⟨ep,aT⟩,h3,h4,hy⟩
theorem Ab.setM{c:Ct}{ρ:Sg}{σ:L2.St}{F H F' H':Hp}{i:Nat}{kvs:List (PyData×PyData)}{p:Addr}{es:List Ent}{ep:Nat}(b:Ab c ρ σ F H)(e:Ext F H F' H')(h1:H p=none)(h2:H' p=some (dJ c.w p es ep))(h3:F' p=none)(h4:MapRel c.K F' es kvs):Ab c (ρ.set i (some (.m kvs))) (σ.set i (some (.ref p))) F' H':=by
 refine (b.ext e).setF ⟨p,es,rfl,⟨ep,h2⟩,h3,bV b.h0 h1,h4⟩ fun _ j a' _ ha' ho=>?_
 obtain ⟨w,hw,q⟩:=b.slot j a' ha'
 rw[hw]
 intro z
 cases z
 obtain ⟨p',o',e',q1,_⟩:=q.at ho
 cases e'
 rw[h1] at q1
 cases q1
noncomputable def fz(i:Nat)(ρ:Sg):Sg:=match ρ[i]? with
 | some (some (.l xs))=>ρ.set i (some (.d (.list xs)))
 | _=>ρ
theorem Ab.publ{c:Ct}{ρ:Sg}{σ:L2.St}{F H:Hp}{i:Nat}{a0 a1:A}{p:Addr}{o:HO}(b:Ab c ρ σ F H)(hi:ρ[i]? = some (some a0))(hp:σ[i]? = some (some (.ref p)))(ow:a0.own=true)(h2:H p=some o)(h3:F p=none)(h4:c.H0 p=none)(no:a1.own=false)(hr:AO c (upd F p o) H a1 (.ref p)):Ab c (ρ.set i (some a1)) σ (upd F p o) H:=by
 have sf:aM F (upd F p o):=aM.upd h3
 exact {
  len:=by rw[List.length_set];exact b.len
  fh:=fun a o' z=>by
   by_cases w:a=p
   ·subst w;rw[aT] at z;rw[h2];exact z
   ·rw[aH w] at z;exact b.fh a o' z
  slot:=fun j a h=>by
   rcases get_set h with ⟨e,q,hl⟩|⟨ne,q⟩
   ·subst e
    cases q
    exact ⟨_,hp,hr⟩
   ·obtain ⟨w,hw,q2⟩:=b.slot j a q
    refine ⟨w,hw,?_⟩
    have off:∀ r,a.own=true->w=.ref r->F r=none->upd F p o r=none:=fun r oa e f=>by
     rw[aH]
     ·exact f
     ·intro z
      subst z
      exact b.apart j i _ _ (Ne.symm ne) q hi oa ow (by rw[hw,hp,e])
    cases a with
    | l zs=>obtain ⟨r,ws,e,q1,q2,q3,q4⟩:=q2;exact ⟨r,ws,e,q1,off r rfl e q2,q3,q4.same sf⟩
    | m kvs=>obtain ⟨r,ws,e,q1,q2,q3,q4⟩:=q2;exact ⟨r,ws,e,q1,off r rfl e q2,q3,q4.same sf⟩
    | d x=>exact DatV.same sf q2
    | x e=>exact AF.same (g:=c.g) (K:=c.K) (mg:=c.mg) (a:=.x e) sf q2
    | g k n f=>exact AF.same (g:=c.g) (K:=c.K) (mg:=c.mg) (a:=.g k n f) sf q2
    | k S=>obtain ⟨S,f,cl,doc,pm,cc,ct,h0,h1,h2,h3,h4⟩:=q2;exact ⟨S,f,cl,doc,pm,cc,ct,h0,h1,sf _ _ h2,sf _ _ h3,h4⟩
    | f kvs=>exact AF.same (g:=c.g) (K:=c.K) (mg:=c.mg) (a:=.f kvs) sf q2
    | o e=>exact AF.same (g:=c.g) (K:=c.K) (mg:=c.mg) (a:=.o e) sf q2
  apart:=fun j k a' b' hjk h1 h2 o1 o2=>by
   rcases get_set h1 with ⟨e,q,hl⟩|⟨ne,q⟩
   ·cases q;rw[no] at o1;cases o1
   ·rcases get_set h2 with ⟨e',q',hl'⟩|⟨ne',q'⟩
    ·cases q';rw[no] at o2;cases o2
    ·exact b.apart j k a' b' hjk q q' o1 o2
  f0:=fun a o z=>sf a o (b.f0 a o z)
  h0:=b.h0
  n0:=fun a z n=>by
   by_cases w:a=p
   ·subst w;exact .inl h4
   ·rw[aH w] at n;exact b.n0 a z n
  t0:=b.t0}
theorem Ab.frz{c:Ct}{ρ:Sg}{σ:L2.St}{F H:Hp}(b:Ab c ρ σ F H)(i:Nat):∃ F',aM F F'/\Ab c (fz i ρ) σ F' H:=by
 unfold fz
 split
 ·rename_i xs hi
  obtain ⟨v,hp,p,vs,rfl,h2,h3,h4,h5⟩:=b.slot i _ hi
  exact ⟨_,aM.upd h3,b.publ hi hp rfl h2 h3 h4 rfl (.lst (SqL.of aT) (h5.same (aM.upd h3)))⟩
 ·exact ⟨F,cU F,b⟩
noncomputable def o0:PyData->PyData->R PyData
 | .int i,.int j=>.ok (.int (i+j))
 | _,_=>.bad
section
variable{X:Cx}{c:Ct}{E:XK}{e a b:Expr}{st:Stmt}{rest:List Stmt}{pos:Pos}
def sFz(i:Nat)(f:Sg->R Fw):Sg->R Fw:=fun ρ=>f (fz i ρ)
theorem aCQ(i:Nat){f:Sg->R Fw}(h:PSf X c E st f):PSf X c E st (sFz i f):=PS.imp h fun D σ H zz0=>by
 obtain ⟨ρ,F,ab,k⟩:=zz0
 obtain ⟨F',s,ab'⟩:=ab.frz i
 refine ⟨fz i ρ,F',ab',?_⟩
 have k':Rk c E F H (f (fz i ρ)) (iY c F D):=k
 cases q:f (fz i ρ) with
 | bad=>rw[q] at k';exact k'
 | ok w=>rw[q] at k';exact iY.same s k'
 | ex e=>rw[q] at k';exact k'
noncomputable def sNx:Sg->R Fw:=fun ρ=>.ok (.nx ρ)
def aJ(f g:Sg->R Fw):Sg->R Fw:=fun ρ=>(f ρ).bind fun w=>match w with
 | .nx ρ'=>g ρ'
 | w=>.ok w
theorem cD:nO X c E [] sNx:=PSs.imp L2.cD fun D σ H ⟨ρ,F,ab,k⟩=>Rk.ok k σ F H (cU F) ab
theorem aQ{f:Sg->R Fw}(h:PSf X c E st f):nO X c E [st] f:=L2.aQ h
theorem aD{f g:Sg->R Fw}(h:PSf X c E st f)(h2:nO X c E rest g):nO X c E (st::rest) (aJ f g):=PSs.imp (L2.aD h h2) fun D σ H zz0=>by
 obtain ⟨ρ,F,ab,k⟩:=zz0
 refine ⟨ρ,F,ab,(Rk.bind k).imp fun w _ q=>?_⟩
 cases w with
 | nx ρ'=>
  intro σ' F' H' s ab'
  refine ⟨ρ',F',ab',?_⟩
  have q':Rk c E F H (g ρ') (iY c F D):=q
  cases eg:g ρ' with
  | bad=>rw[eg] at q';exact q'
  | ok w=>rw[eg] at q';exact iY.same s q'
  | ex e=>rw[eg] at q';exact q'
 | bk ρ'=>exact q
 | ct ρ'=>exact q
 | rt a=>exact q
def bP(f:Sg->R A):Sg->R Fw:=fun ρ=>(f ρ).bind fun a=>.ok (.rt a)
theorem bG{f:Sg->R A}(h:PV X c E e f):PSf X c E (.Return (some e) pos) (bP f):=PS.imp (L2.bG h) fun D σ H ⟨ρ,F,ab,k⟩=>
 ⟨ρ,F,ab,(Rk.bind k).imp fun a _ q v F' H' s r=>Rk.ok q v F' H' (ab.all.trans s) (AR.of r)⟩
noncomputable def aNP:Sg->R Fw:=fun _=>.ok (.rt (.d .none))
def sIf(t:Sg->R Bool)(f g:Sg->R Fw):Sg->R Fw:=fun ρ=>(t ρ).bind fun b=>if b=true then f ρ else g ρ
theorem Rk.fw{F F1 H H1:Hp}{D:iP}{r:R Fw}(s:aM F F1)(k:Rk c E F H r (iY c F D)):Rk c E F1 H1 r (iY c F1 D):=by
 cases r with
 | bad=>exact k
 | ok w=>exact iY.same s k
 | ex e=>exact k
theorem dF{q:Expr}{sa sb:List Stmt}{t:Sg->R Bool}{f g:Sg->R Fw}(hq:PTf X c E q t)(ha:nO X c E sa f)(hb:nO X c E sb g):PSf X c E (.If q sa sb pos) (sIf t f g):=PS.imp (L2.dF hq ha hb) fun D σ H zz0=>by
 obtain ⟨ρ,F,ab,k⟩:=zz0
 refine ⟨ρ,F,ab,(Rk.bind k).imp fun b _ q F' H' s=>?_⟩
 cases b with
 | true=>exact uX ⟨ρ,F',ab.ext s,Rk.fw s.ff q⟩
 | false=>exact uW ⟨ρ,F',ab.ext s,Rk.fw s.ff q⟩
def bU(i:Nat)(f:Sg->R A):Sg->R Fw:=fun ρ=>(f ρ).bind fun a=>.ok (.nx (ρ.set i (some a)))
theorem aN{i:Nat}{f:Sg->R A}(h:PS X st (l7 (tV (aGH c) c E f) (jO i))):PSf X c E st (bU i f):=PS.imp h fun D σ H ⟨ρ,F,ab,k⟩=>
 ⟨ρ,F,ab,(Rk.bind k).imp fun a _ q v F' H' s r=>Rk.ok q _ F' H' s.ff ((ab.ext s).setA r)⟩
def dD(i:Nat)(f:Sg->R (List PyData)):Sg->R Fw:=fun ρ=>(f ρ).bind fun xs=>.ok (.nx (ρ.set i (some (.l xs))))
theorem iF{i:Nat}{f:Sg->R (List PyData)}(h:PS X st (l7 (tV (yP c) c E f) (jO i))):PSf X c E st (dD i f):=PS.imp h fun D σ H ⟨ρ,F,ab,k⟩=>
 ⟨ρ,F,ab,(Rk.bind k).imp fun a _ q v F' H' s r=>Rk.ok q _ F' H' s.ff (ab.setN s r)⟩
def aCR(f:Sg->R A):Sg->R Fw:=fun ρ=>(f ρ).bind fun _=>.ok (.nx ρ)
theorem gG{f:Sg->R A}(h:PS X st (xD (tV (aGH c) c E f))):PSf X c E st (aCR f):=PS.imp h fun D σ H ⟨ρ,F,ab,k⟩=>
 ⟨ρ,F,ab,(Rk.bind k).imp fun a _ q v F' H' s r=>Rk.ok q _ F' H' s.ff (ab.ext s)⟩
def g7(i:Nat)(f:Sg->R PyData):Sg->R Fw:=fun ρ=>match ρ[i]? with
 | some (some (.l xs))=>(f ρ).bind fun x=>if xs.length < 16777216 then .ok (.nx (ρ.set i (some (.l (xs++[x]))))) else .bad
 | _=>.bad
theorem oA{i:Nat}{f:Sg->R PyData}(hK:X.K=c.K)(h:PS X st (xD (tBM X.K "list" aAN (fM i) (cT (tV (cE c) c E f) eR)))):PSf X c E st (g7 i f):=PS.imp h fun D σ H ⟨ρ,F,ab,k⟩=>by
 unfold g7 at k
 split at k
 ·rename_i xs hi
  obtain ⟨v,hp,p,vs,rfl,h2,h3,h4,h5⟩:=ab.slot i _ hi
  refine ⟨_,hp,.inl ⟨rfl,vs,SqL.of h2⟩,ρ,F,ab,(Rk.bind k).imp fun x _ q u F1 H1 s1 r1=>?_⟩
  by_cases hz:xs.length < 16777216
  ·rw[if_pos hz] at q
   refine ⟨p,vs,u,rfl,rfl,s1.hh _ _ h2,by rw[h5.length,dI];exact hz,?_⟩
   exact Rk.ok q σ F1 _ s1.ff ((ab.ext s1).putL hi hp ((h5.same s1.ff).append (.cons r1 .nil)))
  ·rw[if_neg hz] at q;exact q.elim
 ·exact k.elim
def aCS(i:Nat)(g:PyData->PyData->R PyData)(f:Sg->R PyData):Sg->R Fw:=fun ρ=>(eV i ρ).bind fun x=>(f ρ).bind fun y=>(g x y).bind fun z=>.ok (.nx (ρ.set i (some (.d z))))
theorem xS{i:Nat}{k:Int->Int->Int}{g:PyData->PyData->R PyData}{f:Sg->R PyData}(hg:∀ x y,(∃ i j,x=.int i/\y=.int j/\g x y=.ok (.int (k i j)))\/g x y=.bad)(h:PS X st (aKO i (tV (bA c) c E f) (ipI k))):PSf X c E st (aCS i g f):=PS.imp h fun D σ H ⟨ρ,F,ab,k⟩=>by
 have k':=Rk.bind k
 unfold eV at k'
 split at k'
 ·rename_i x hx
  obtain ⟨v,h1,h2⟩:=ab.slot i _ hx
  refine ⟨v,h1,ρ,F,ab,(Rk.bind k').imp fun y _ q u F1 H1 s1 r1=>?_⟩
  rcases hg x y with ⟨m,n,rfl,rfl,e⟩|e
  ·rw[e] at q
   obtain rfl:=DatV.int_of h2
   obtain rfl:=aX.int_of r1
   exact ⟨m,n,rfl,rfl,Rk.ok q _ F1 H1 s1.ff ((ab.ext s1).setA (a:=.d _) (.int _))⟩
  ·rw[e] at q;exact q.elim
 ·exact k'.elim
theorem aI6(x y:PyData):(∃ i j,x=.int i/\y=.int j/\o0 x y=.ok (.int (i+j)))\/o0 x y=.bad:=by
 unfold o0
 split
 · exact .inl ⟨_, _, rfl, rfl, rfl⟩
 · exact .inr rfl
end
end Fl
namespace Fl
open PySem L2 PyProof.Rows
def Tg(c:Ct)(g:TG)(fs:PyData->Sg->Option Sg)(is:List Nat):Prop:=∀ (v:V) (x:PyData) (ρ ρ':Sg) (σ:L2.St) (F H:Hp) (Q:L2.St->Hp->Prop),Ab c ρ σ F H->DatV c.K F v x->fs x ρ=some ρ'->
 (∀ σ':L2.St,σ'.length=σ.length->(∀ j:Nat,j∉is->σ'[j]? = σ[j]?)->Ab c ρ' σ' F H->Q σ' H)->g v σ H Q
noncomputable def stN(i:Nat):PyData->Sg->Option Sg:=fun x ρ=>some (ρ.set i (some (.d x)))
theorem bQ{c:Ct}(i:Nat):Tg c (jO i) (stN i) [i]:=fun v x ρ ρ' σ F H Q ab r e q=>by
 cases e
 exact q _ List.length_set (fun j hj=>List.getElem?_set_ne (by intro z;subst z;exact hj (by simp))) (ab.setA (a:=.d x) r)
noncomputable def stL:List (PyData->Sg->Option Sg)->List PyData->Sg->Option Sg
 | [],[],ρ=>some ρ
 | f::fs,x::xs,ρ=>(f x ρ).bind (stL fs xs)
 | _,_,_=>none
def Tgs(c:Ct)(g:TGs)(fs:List (PyData->Sg->Option Sg))(is:List Nat):Prop:=∀ (vs:List V) (xs:List PyData) (ρ ρ':Sg) (σ:L2.St) (F H:Hp) (Q:L2.St->Hp->Prop),Ab c ρ σ F H->DatVs c.K F vs xs->stL fs xs ρ=some ρ'->
 (∀ σ':L2.St,σ'.length=σ.length->(∀ j:Nat,j∉is->σ'[j]? = σ[j]?)->Ab c ρ' σ' F H->Q σ' H)->g vs σ H Q
theorem oB{c:Ct}:Tgs c aBZ [] []:=fun vs xs ρ ρ' σ F H Q ab r e q=>by
 cases xs with
 | nil=>cases e;exact ⟨by cases r;rfl,q σ rfl (fun _ _=>rfl) ab⟩
 | cons x t=>cases e
theorem fF{c:Ct}{g:TG}{gs:TGs}{f:PyData->Sg->Option Sg}{fs:List (PyData->Sg->Option Sg)}{is js:List Nat}(h:Tg c g f is)(h2:Tgs c gs fs js):Tgs c (xE g gs) (f::fs) (is++js):=fun vs xs ρ ρ' σ F H Q ab r e q=>by
 cases r with
 | nil=>cases e
 | cons r1 r2=>
  rename_i x d vs ds
  have e':(f d ρ).bind (stL fs ds)=some ρ':=e
  cases e1:f d ρ with
  | none=>rw[e1] at e';cases e'
  | some ρ1=>
   rw[e1] at e'
   refine ⟨_,_,rfl,h _ _ ρ ρ1 σ F H _ ab r1 e1 fun σ1 l1 k1 ab1=>h2 _ _ ρ1 ρ' σ1 F H _ ab1 r2 e' fun σ2 l2 k2 ab2=>q σ2 (l2.trans l1) (fun j hj=>?_) ab2⟩
   rw[List.mem_append,not_or] at hj
   exact (k2 j hj.2).trans (k1 j hj.1)
noncomputable def stT(fs:List (PyData->Sg->Option Sg)):PyData->Sg->Option Sg:=fun x ρ=>match x with
 | .tuple xs=>stL fs xs ρ
 | _=>none
theorem aAZ:∀ {fs:List (PyData->Sg->Option Sg)} {xs:List PyData} {ρ ρ':Sg},stL fs xs ρ=some ρ'->xs.length=fs.length
 | [],[],_,_,_=>rfl
 | [],_::_,_,_,h=>by cases h
 | _::_,[],_,_,h=>by cases h
 | f::fs,x::xs,ρ,ρ',h=>by
  have h':(f x ρ).bind (stL fs xs)=some ρ':=h
  cases e:f x ρ with
  | none=>rw[e] at h';cases h'
  | some ρ1=>
   rw[e] at h'
   have:=aAZ (fs:=fs) (xs:=xs) h'
   simp[this]
theorem qA{c:Ct}{gs:TGs}{fs:List (PyData->Sg->Option Sg)}{is:List Nat}{n:Nat}{K:Frag}(hK:K=c.K)(h:Tgs c gs fs is)(hn:fs.length=n):Tg c (aFN K n gs) (stT fs) is:=fun v x ρ ρ' σ F H Q ab r e q=>by
 cases x with
 | tuple xs=>
  obtain ⟨a,vs,rfl,h1,h2⟩:=r.tup_of
  subst hK
  exact ⟨a,vs,rfl,h1.same ab.fh,by rw[h2.length,aAZ e,hn],h vs xs ρ ρ' σ F H Q ab h2 e q⟩
 | _=>cases e
structure Yld(K:Frag)(J:It)(F B:Hp)(xs:List PyData):Prop where
 len:xs.length<=sizeLine
 go:∀ (i:Nat) F1 H1,aM F F1->aM F1 H1->aM B H1->i < xs.length->J.go i H1
 yld:∀ (i:Nat) F1 H1 v H2 x,aM F F1->aM F1 H1->aM B H1->J.yld i H1 v H2->xs[i]? = some x->∃ F2,Ext F1 H1 F2 H2/\DatV K F2 v x
 stop:∀ F1 H1,aM F F1->aM F1 H1->aM B H1->J.stop xs.length H1
def tI(c:Ct)(E:XK)(f:Sg->R (List PyData)):TI:=fun σ H Rr=>∃ ρ F,Ab c ρ σ F H/\Rk c E F H (f ρ) fun xs=>∀ J B F' H',Ext F H F' H'->aM B H'->Yld c.K J F' B xs->Rr J H'
def tI0(c:Ct)(E:XK)(f:Sg->R (List PyData)):TI:=fun σ H Rr=>∃ ρ F,Ab c ρ σ F H/\Rk c E F H (f ρ) fun xs=>∀ J F' H',Ext F H F' H'->Yld c.K J F' (fun _=>none) xs->Rr J H'
theorem PI.imp{X:Cx}{tg e:Expr}{t t':TI}(h:PI X tg e t)(i:∀ σ H Q,t' σ H Q->t σ H Q):PI X tg e t':=fun pins s σ H Q I q=>h pins s σ H Q I (i σ H Q q)
abbrev PIf(X:Cx)(c:Ct)(E:XK)(tg e:Expr)(f:Sg->R (List PyData)):Prop:=PI X tg e (tI c E f)
abbrev PI0(X:Cx)(c:Ct)(E:XK)(tg e:Expr)(f:Sg->R (List PyData)):Prop:=PI X tg e (tI0 c E f)
theorem xJ{X:Cx}{c:Ct}{E:XK}{tg e:Expr}{f:Sg->R (List PyData)}(h:PI0 X c E tg e f):PIf X c E tg e f:=PI.imp h fun σ H Q ⟨ρ,F,ab,k⟩=>
 ⟨ρ,F,ab,k.imp fun xs _ q J F' H' s y=>q J (fun _=>none) F' H' s (fun _ _ z=>nomatch z) y⟩
def qB{H:Hp}:aM (fun _=>none) H:=fun _ _ z=>nomatch z
noncomputable def a8:PyData->R (List PyData)
 | .list xs=>if xs.length<=16777216 then .ok xs else .bad
 | .tuple xs=>if xs.length<=16777216 then .ok xs else .bad
 | .str z=>if z.cps.toList.length<=16777216 then .ok (z.cps.toList.map fun u=>.str ⟨#[u]⟩) else .bad
 | _=>.bad
theorem yX{K:Frag}{F B H:Hp}{a:Addr}{vs:List V}{xs:List PyData}(hz:xs.length<=16777216)(hs:∀ H1,aM F H1->aM B H1->SqL K H1 a vs)(hd:DatVs K F vs xs):Yld K (Itl K a) F B xs where
 len:=by rw[dI];exact hz
 go:=fun i F1 H1 h1 h2 h3 hi=>by
  have q:=hs H1 (fun x o z=>h2 x o (h1 x o z)) h3
  exact ⟨vs,vs[i]'(by rw[hd.length];exact hi),q,by simp⟩
 yld:=fun i F1 H1 v H2 x h1 h2 h3 y e=>by
  obtain ⟨rfl,y⟩:=y
  have q:=y vs (hs _ (fun x o z=>h2 x o (h1 x o z)) h3)
  obtain ⟨d,e2,r⟩:=hd.get q
  rw[e] at e2
  cases e2
  exact ⟨F1,Ext.refl h2,r.same h1⟩
 stop:=fun F1 H1 h1 h2 h3=>⟨vs,hs H1 (fun x o z=>h2 x o (h1 x o z)) h3,by rw[hd.length];exact Nat.le_refl _⟩
theorem aA0{K:Frag}{F B:Hp}{a:Addr}{vs:List V}{xs:List PyData}(hz:xs.length<=16777216)(hs:SqT K F a vs)(hd:DatVs K F vs xs):Yld K (Itt K a) F B xs where
 len:=by rw[dI];exact hz
 go:=fun i F1 H1 h1 h2 h3 hi=>by
  have q:=hs.same (H':=H1) (fun x o z=>h2 x o (h1 x o z))
  exact ⟨vs,vs[i]'(by rw[hd.length];exact hi),q,by simp⟩
 yld:=fun i F1 H1 v H2 x h1 h2 h3 y e=>by
  obtain ⟨rfl,y⟩:=y
  have q:=y vs (hs.same (fun x o z=>h2 x o (h1 x o z)))
  obtain ⟨d,e2,r⟩:=hd.get q
  rw[e] at e2
  cases e2
  exact ⟨F1,Ext.refl h2,r.same h1⟩
 stop:=fun F1 H1 h1 h2 h3=>⟨vs,hs.same (fun x o z=>h2 x o (h1 x o z)),by rw[hd.length];exact Nat.le_refl _⟩
theorem aA1{K:Frag}{F B:Hp}{z:Str}(hz:z.cps.toList.length<=16777216):Yld K (Its z) F B (z.cps.toList.map fun u=>.str ⟨#[u]⟩) where
 len:=by rw[dI,List.length_map];exact hz
 go:=fun i F1 H1 h1 h2 h3 hi=>by
  rw[List.length_map,Array.length_toList] at hi
  exact hi
 yld:=fun i F1 H1 v H2 x h1 h2 h3 y e=>by
  obtain ⟨rfl,u,hu,rfl⟩:=y
  rw[List.getElem?_map,Array.getElem?_toList,hu] at e
  cases e
  exact ⟨F1,Ext.refl h2,.str _⟩
 stop:=fun F1 H1 h1 h2 h3=>by
  show (z.cps.toList.map _).length=z.cps.size
  rw[List.length_map,Array.length_toList]
section
variable{X:Cx}{c:Ct}{E:XK}{tg e a b:Expr}{pos:Pos}
theorem sK{f:Sg->R PyData}(hK:X.K=c.K)(h:PD X c E e f):PI0 X c E tg e (e1 a8 f):=PI.imp (PI.or (aD0 h) (aD8 h)) fun σ H Q ⟨ρ,F,ab,k⟩=>by
 have k':=Rk.bind k
 cases hf:f ρ with
 | bad=>rw[hf] at k';exact k'.elim
 | ex x=>rw[hf] at k';exact .inl ⟨ρ,F,ab,by rw[hf];exact k'⟩
 | ok d=>
  rw[hf] at k'
  have k2:=Rk.ok k'
  unfold a8 at k2
  split at k2
  ·rename_i xs
   split at k2
   ·rename_i hz
    refine .inl ⟨ρ,F,ab,?_⟩
    rw[hf]
    intro v F' H' s r
    obtain ⟨p,vs,rfl,h1,h2⟩:=DatV.lst_of r
    refine ⟨p,rfl,.inl ⟨⟨vs,?_⟩,?_⟩⟩
    · rw [hK]; exact h1.same s.fh
    · rw [hK]; exact Rk.ok k2 _ F' H' s (yX (H := H') hz (fun H1 q _ => h1.same q) h2)
   ·exact k2.elim
  ·rename_i xs
   split at k2
   ·rename_i hz
    refine .inl ⟨ρ,F,ab,?_⟩
    rw[hf]
    intro v F' H' s r
    obtain ⟨p,vs,rfl,h1,h2⟩:=DatV.tup_of r
    refine ⟨p,rfl,.inr ⟨⟨vs,?_⟩,?_⟩⟩
    · rw [hK]; exact h1.same s.fh
    · rw [hK]; exact Rk.ok k2 _ F' H' s (aA0 hz h1 h2)
   ·exact k2.elim
  ·rename_i z
   split at k2
   ·rename_i hz
    refine .inr ⟨ρ,F,ab,?_⟩
    rw[hf]
    intro v F' H' s r
    obtain rfl:=DatV.str_of r
    exact ⟨z,rfl,Rk.ok k2 _ F' H' s (aA1 hz)⟩
   ·exact k2.elim
  ·exact k2.elim
theorem jT{f:Sg->R PyData}(hK:X.K=c.K)(h:PR X c E e f):PIf X c E tg e (e1 a8 f):=PI.imp (PI.or (aD0 h) (aD8 h)) fun σ H Q ⟨ρ,F,ab,k⟩=>by
 have k':=Rk.bind k
 cases hf:f ρ with
 | bad=>rw[hf] at k';exact k'.elim
 | ex x=>rw[hf] at k';exact .inl ⟨ρ,F,ab,by rw[hf];exact k'⟩
 | ok d=>
  rw[hf] at k'
  have k2:=Rk.ok k'
  unfold a8 at k2
  split at k2
  ·rename_i xs
   split at k2
   ·rename_i hz
    refine .inl ⟨ρ,F,ab,?_⟩
    rw[hf]
    intro v F' H' s r
    obtain ⟨p,vs,rfl,h1,h2⟩:=aX.lst_of s.fh r
    refine ⟨p,rfl,.inl ⟨⟨vs,?_⟩,?_⟩⟩
    · rw [hK]; exact h1
    · rw [hK]; exact Rk.ok k2 _ H' F' H' s (cU _) (yX (H := H') hz (fun H1 _ q => h1.same q) h2)
   ·exact k2.elim
  ·rename_i xs
   split at k2
   ·rename_i hz
    refine .inl ⟨ρ,F,ab,?_⟩
    rw[hf]
    intro v F' H' s r
    obtain ⟨p,vs,rfl,h1,_,h2⟩:=aX.tup_of s.fh r
    refine ⟨p,rfl,.inr ⟨⟨vs,?_⟩,?_⟩⟩
    · rw [hK]; exact h1.same s.fh
    · rw [hK]; exact Rk.ok k2 _ H' F' H' s (cU _) (aA0 hz h1 h2)
   ·exact k2.elim
  ·rename_i z
   split at k2
   ·rename_i hz
    refine .inr ⟨ρ,F,ab,?_⟩
    rw[hf]
    intro v F' H' s r
    obtain rfl:=aX.str_of r
    exact ⟨z,rfl,Rk.ok k2 _ H' F' H' s (cU _) (aA1 hz)⟩
   ·exact k2.elim
  ·exact k2.elim
noncomputable def mE(lo:Int)(n:Nat):List PyData:=(List.range n).map fun i:Nat=>.int (lo+i)
def jU(lo hi:Int):R (List PyData):=if -4611686018427387904<=lo/\lo < 4611686018427387904 /\ -4611686018427387904<=hi/\hi < 4611686018427387904/\hi - lo<=16777216 then .ok (mE lo (hi - lo).toNat) else .bad
def iG(f:Sg->R PyData):Sg->R (List PyData):=fun ρ=>(f ρ).bind fun x=>match x with
 | .int j=>jU 0 j
 | _=>.bad
def aI7(f g:Sg->R PyData):Sg->R (List PyData):=fun ρ=>(f ρ).bind fun x=>(g ρ).bind fun y=>match x,y with
 | .int i,.int j=>jU i j
 | _,_=>.bad
theorem aEI{K:Frag}{F B:Hp}{lo:Int}{n:Nat}(hz:n<=16777216):Yld K (Itr lo n) F B (mE lo n) where
 len:=by unfold mE;rw[dI,List.length_map,List.length_range];exact hz
 go:=fun i F1 H1 h1 h2 h3 hi=>by unfold mE at hi;rw[List.length_map,List.length_range] at hi;exact hi
 yld:=fun i F1 H1 v H2 x h1 h2 h3 y e=>by
  obtain ⟨rfl,rfl⟩:=y
  unfold mE at e
  rw[List.getElem?_map] at e
  cases q:(List.range n)[i]? with
  | none=>rw[q] at e;cases e
  | some j=>
   rw[q] at e
   cases e
   obtain ⟨hl,hv⟩:=List.getElem?_eq_some_iff.mp q
   rw[List.getElem_range] at hv
   subst hv
   exact ⟨F1,Ext.refl h2,.int _⟩
 stop:=fun F1 H1 h1 h2 h3=>by show n<=_;unfold mE;rw[List.length_map,List.length_range];exact Nat.le_refl _
theorem kH{f:Sg->R PyData}(h:PI X tg e (aHM (cT (tV (bA c) c E f) eR))):PI0 X c E tg e (iG f):=PI.imp h fun σ H Q ⟨ρ,F,ab,k⟩=>by
 refine ⟨ρ,F,ab,(Rk.bind k).imp fun x _ q v F' H' s r=>?_⟩
 cases x with
 | int j=>
  have q':Rk c E F H (jU 0 j) _:=q
  unfold jU at q'
  split at q'
  ·rename_i hz
   obtain rfl:=aX.int_of r
   refine ⟨j,rfl,by omega,by omega,?_⟩
   have e0:(j - 0).toNat=j.toNat:=by rw[Int.sub_zero]
   rw[<-e0]
   exact Rk.ok q' _ F' H' s (aEI (by omega))
  ·exact q'.elim
 | _=>exact q.elim
end
end Fl
namespace Fl
open PySem L2 PyProof.Rows
noncomputable def eS(js:List (Option Nat))(ρ:Sg):Sg:=js.map fun o=>o.bind fun j=>(ρ[j]?).join
theorem vF{α:Type}{js:List (Option Nat)}{ρ:List (Option α)}{i:Nat}{a:α}(h:(js.map fun o=>o.bind fun j=>(ρ[j]?).join)[i]? = some (some a)):∃ j,js[i]? = some (some j)/\ρ[j]? = some (some a):=by
 rw[List.getElem?_map] at h
 cases e:js[i]? with
 | none=>rw[e] at h;cases h
 | some o=>
  rw[e] at h
  have h':(o.bind fun j=>(ρ[j]?).join)=some a:=Option.some.inj h
  cases o with
  | none=>cases h'
  | some j=>
   have h2:(ρ[j]?).join=some a:=h'
   cases e2:ρ[j]? with
   | none=>rw[e2] at h2;cases h2
   | some o2=>rw[e2] at h2;have:o2=some a:=h2;subst this;exact ⟨j,rfl,e2⟩
theorem vG{α:Type}{js:List (Option Nat)}{ρ:List (Option α)}{i j:Nat}{a:α}(h:js[i]? = some (some j))(h2:ρ[j]? = some (some a)):(js.map fun o=>o.bind fun j=>(ρ[j]?).join)[i]? = some (some a):=by
 rw[List.getElem?_map,h]
 show some ((ρ[j]?).join)=_
 rw[h2];rfl
def vH(js:List (Option Nat)):Prop:=∀ (i k j:Nat),js[i]? = some (some j)->js[k]? = some (some j)->i=k
theorem tW{js:List (Option Nat)}(h:js.Pairwise fun a b=>a=none\/a≠b):vH js:=fun i k j h1 h2=>by
 obtain ⟨l1,e1⟩:=List.getElem?_eq_some_iff.mp h1
 obtain ⟨l2,e2⟩:=List.getElem?_eq_some_iff.mp h2
 rw[List.pairwise_iff_getElem] at h
 rcases Nat.lt_trichotomy i k with q|q|q
 ·rcases h i k l1 l2 q with z|z
  · rw [e1] at z; cases z
  · exact absurd (e1.trans e2.symm) z
 ·exact q
 ·rcases h k i l2 l1 q with z|z
  · rw [e2] at z; cases z
  · exact absurd (e2.trans e1.symm) z
theorem Ab.cap{c:Ct}{ρ:Sg}{σ σ0:L2.St}{F H:Hp}{js:List (Option Nat)}(b:Ab c ρ σ F H)(ho:vH js)(k:dE (kB js σ) σ0):Ab c (eS js ρ) σ0 F H where
 len:=by rw[k.1];unfold eS kB;rw[List.length_map,List.length_map]
 fh:=b.fh
 slot:=fun i a h=>by
  obtain ⟨j,h1,h2⟩:=vF h
  obtain ⟨v,h3,h4⟩:=b.slot j a h2
  exact ⟨v,k.2 i v (vG h1 h3),h4⟩
 apart:=fun i i' a a' hne h h' o o'=>by
  obtain ⟨j,h1,h2⟩:=vF h
  obtain ⟨j',h1',h2'⟩:=vF h'
  have hj:j≠j':=fun z=>hne (ho i i' j h1 (by rw[h1',z]))
  obtain ⟨v,h3,_⟩:=b.slot j a h2
  obtain ⟨v',h3',_⟩:=b.slot j' a' h2'
  rw[k.2 i v (vG h1 h3),k.2 i' v' (vG h1' h3'),<-h3,<-h3']
  exact b.apart j j' a a' hj h2 h2' o o'
 f0:=b.f0
 h0:=b.h0
 n0:=b.n0
 t0:=b.t0
noncomputable def R.noEx{α:Type}:R α->R α
 | .ex _=>.bad
 | r=>r
@[simp] theorem R.noEx_ok{α:Type}(a:α):(R.ok a).noEx=.ok a:=id rfl
noncomputable def yY{α:Type}:Option α->R α
 | some a=>.ok a
 | none=>.bad
@[simp] theorem qD{α:Type}(a:α):yY (some a)=.ok a:=id rfl
noncomputable def compL(fs:PyData->Sg->Option Sg)(ft:Sg->R Bool)(fe:Sg->R PyData)(ρ0:Sg):List PyData->R (List PyData)
 | []=>.ok []
 | x::t=>(yY (fs x ρ0)).bind fun ρ1=>(ft ρ1).noEx.bind fun b=>if b=true then (fe ρ1).noEx.bind fun y=>(compL fs ft fe ρ0 t).bind fun ys=>.ok (y::ys) else compL fs ft fe ρ0 t
theorem o3{fs:PyData->Sg->Option Sg}{ft:Sg->R Bool}{fe:Sg->R PyData}{ρ0:Sg}{e:Er}:∀ {xs:List PyData},compL fs ft fe ρ0 xs≠.ex e
 | []=>fun h=>by cases h
 | x::t=>fun h=>by
  unfold compL at h
  cases h1:fs x ρ0 with
  | none=>rw[h1] at h;cases h
  | some ρ1=>
   rw[h1] at h
   have h:((ft ρ1).noEx.bind fun b=>if b=true then (fe ρ1).noEx.bind fun y=>(compL fs ft fe ρ0 t).bind fun ys=>.ok (y::ys) else compL fs ft fe ρ0 t)=.ex e:=h
   cases h2:ft ρ1 with
   | bad=>rw[h2] at h;cases h
   | ex _=>rw[h2] at h;cases h
   | ok b=>
    rw[h2] at h
    have h:(if b=true then (fe ρ1).noEx.bind fun y=>(compL fs ft fe ρ0 t).bind fun ys=>.ok (y::ys) else compL fs ft fe ρ0 t)=.ex e:=h
    cases b with
    | false=>exact o3 (xs:=t) h
    | true=>
     have h:((fe ρ1).noEx.bind fun y=>(compL fs ft fe ρ0 t).bind fun ys=>.ok (y::ys))=.ex e:=h
     cases h3:fe ρ1 with
     | bad=>rw[h3] at h;cases h
     | ex _=>rw[h3] at h;cases h
     | ok y=>
      rw[h3] at h
      have h:((compL fs ft fe ρ0 t).bind fun ys=>.ok (y::ys))=.ex e:=h
      cases h4:compL fs ft fe ρ0 t with
      | bad=>rw[h4] at h;cases h
      | ex e'=>exact o3 (xs:=t) (e:=e') h4
      | ok ys=>rw[h4] at h;cases h
theorem aCT{fs:PyData->Sg->Option Sg}{ft:Sg->R Bool}{fe:Sg->R PyData}{ρ0:Sg}{x:PyData}{t ys:List PyData}(h:compL fs ft fe ρ0 (x::t)=.ok ys) :
  ∃ ρ1 b,fs x ρ0=some ρ1/\ft ρ1=.ok b/\((b=true/\∃ y zs,fe ρ1=.ok y/\compL fs ft fe ρ0 t=.ok zs/\ys=y::zs)\/(b=false/\compL fs ft fe ρ0 t=.ok ys)):=by
 unfold compL at h
 cases h1:fs x ρ0 with
 | none=>rw[h1] at h;cases h
 | some ρ1=>
  rw[h1] at h
  have h:((ft ρ1).noEx.bind fun b=>if b=true then (fe ρ1).noEx.bind fun y=>(compL fs ft fe ρ0 t).bind fun ys=>.ok (y::ys) else compL fs ft fe ρ0 t)=.ok ys:=h
  cases h2:ft ρ1 with
  | bad=>rw[h2] at h;cases h
  | ex _=>rw[h2] at h;cases h
  | ok b=>
   rw[h2] at h
   have h:(if b=true then (fe ρ1).noEx.bind fun y=>(compL fs ft fe ρ0 t).bind fun ys=>.ok (y::ys) else compL fs ft fe ρ0 t)=.ok ys:=h
   refine ⟨ρ1,b,rfl,h2,?_⟩
   cases b with
   | false=>exact .inr ⟨rfl,h⟩
   | true=>
    refine .inl ⟨rfl,?_⟩
    have h:((fe ρ1).noEx.bind fun y=>(compL fs ft fe ρ0 t).bind fun ys=>.ok (y::ys))=.ok ys:=h
    cases h3:fe ρ1 with
    | bad=>rw[h3] at h;cases h
    | ex _=>rw[h3] at h;cases h
    | ok y=>
     rw[h3] at h
     have h:((compL fs ft fe ρ0 t).bind fun ys=>.ok (y::ys))=.ok ys:=h
     cases h4:compL fs ft fe ρ0 t with
     | bad=>rw[h4] at h;cases h
     | ex e'=>rw[h4] at h;cases h
     | ok zs=>rw[h4] at h;cases h;exact ⟨y,zs,rfl,rfl,rfl⟩
def c6(js:List (Option Nat))(fi:Sg->R (List PyData))(fs:PyData->Sg->Option Sg)(ft:Sg->R Bool)(fe:Sg->R PyData):Sg->R (List PyData):=fun ρ=>(fi ρ).bind fun xs=>compL fs ft fe (eS js ρ) xs
noncomputable def dO:Sg->R Bool:=fun _=>.ok true
section
variable{X:Cx}{c:Ct}{E:XK}{e a b:Expr}{pos:Pos}
theorem cX:L2.PIf X [] (tTf c E dO):=fun pins s σ H Q I ⟨ρ,F,ab,k⟩=>L2.cX pins s σ H Q I (Rk.ok k F H (Ext.refl ab.fh))
theorem aGK{js:List (Option Nat)}{is:List Nat}{σ σ0 σ1:L2.St}(k:dE (kB js σ) σ0)(hl:σ1.length=σ0.length)(h:∀ j:Nat,j∉is->σ1[j]? = σ0[j]?)(hi:∀ i∈is,js[i]? = some none):dE (kB js σ) σ1:=
 ⟨hl.trans k.1,fun i v e=>by
  by_cases q:i∈is
  ·unfold kB at e
   rw[List.getElem?_map,hi i q] at e
   cases e
  ·rw[h i q];exact k.2 i v e⟩
theorem wH{N:List Str}{js:List (Option Nat)}{scope:Scope}{tg elt:Expr}{ifs:List Expr}{fi:Sg->R (List PyData)}{fs:PyData->Sg->Option Sg}{ft:Sg->R Bool}{fe:Sg->R PyData}{is:List Nat}(ho:vH js)(hi:∀ i∈is,js[i]? = some none)
  (hb:∀ (cl:List (Str×Addr)) (C:Addr) (s:Shared) (H0:Hp) (fp:List Addr),∃ g,PG (fP X N scope cl C s H0 fp) tg g/\Tg c g fs is/\L2.PIf (fP X N scope cl C s H0 fp) ifs (tTf c E0 ft)/\PD (fP X N scope cl C s H0 fp) c E0 elt fe)
  {σ:L2.St} {H:Hp} {Q:VK} (h:tV (yP c) c E (c6 js fi fs ft fe) σ H Q):tH X N scope js tg elt ifs (tI c E fi) σ H Q:=by
 obtain ⟨ρ,F,ab,k⟩:=h
 refine ⟨ρ,F,ab,(Rk.bind k).imp fun xs _ q J B F1 H1 s1 sb yl=>?_⟩
 cases hc:compL fs ft fe (eS js ρ) xs with
 | bad=>rw[hc] at q;exact q.elim
 | ex e=>exact absurd hc o3
 | ok ys=>
  rw[hc] at q
  refine aIP (n:=xs.length) (fun i acc H'=>∃ F',Ext F1 H1 F' H'/\acc.length<=i/\∃ zs rest,DatVs c.K F' acc zs/\compL fs ft fe (eS js ρ) (xs.drop i)=.ok rest/\zs++rest=ys) yl.len ⟨F1,Ext.refl s1.fh,Nat.le_refl _,[],ys,.nil,hc,rfl⟩ ?_ ?_ ?_ ?_ ?_
  ·rintro i acc H' _ ⟨F',_,h,_⟩;exact h
  ·rintro i acc H' hlt ⟨F',e1,_⟩
   exact yl.go i F' H' e1.ff e1.fh (fun a o z=>e1.hh a o (sb a o z)) hlt
  ·rintro acc H' ⟨F',e1,_⟩
   exact yl.stop F' H' e1.ff e1.fh (fun a o z=>e1.hh a o (sb a o z))
  ·rintro i v acc Ha Hb hlt ⟨F',e1,hlen,zs,rest,hd,hr,hz⟩ hy
   obtain ⟨F2,e2,rx⟩:=yl.yld i F' Ha v Hb xs[i] e1.ff e1.fh (fun a o z=>e1.hh a o (sb a o z)) hy (List.getElem?_eq_getElem hlt)
   have hdr:xs.drop i=xs[i]::xs.drop (i+1):=List.drop_eq_getElem_cons hlt
   rw[hdr] at hr
   obtain ⟨ρ1,bb,hs,ht,hcase⟩:=aCT hr
   intro cl C s H0 fp
   obtain ⟨g,hg,tg',hif,he⟩:=hb cl C s H0 fp
   refine ⟨g,_,_,hg,hif,he,fun σ0 k0=>?_⟩
   have ab0:Ab c (eS js ρ) σ0 F2 Hb:=(ab.ext (s1.trans (e1.trans e2))).cap ho k0
   refine tg' v xs[i] _ ρ1 σ0 F2 Hb _ ab0 rx hs fun σ1 hl1 hk1 ab1=>⟨aGK k0 hl1 hk1 hi,ρ1,F2,ab1,?_⟩
   rw[ht]
   intro F3 H3 e3
   rcases hcase with ⟨rfl,y,ws,hy1,hy2,rfl⟩|⟨rfl,hy2⟩
   ·refine uX ⟨ρ1,F3,ab1.ext e3,?_⟩
    rw[hy1]
    intro w F4 H4 e4 rw'
    refine ⟨F4,e1.trans (e2.trans (e3.trans e4)),by rw[List.length_append,List.length_singleton];omega,zs++[y],ws,(hd.same (e2.trans (e3.trans e4)).ff).append (.cons rw' .nil),hy2,by rw[List.append_assoc];exact hz⟩
   ·exact uW ⟨F3,e1.trans (e2.trans e3),by omega,zs,rest,hd.same (e2.trans e3).ff,hy2,hz⟩
  ·rintro acc H' ⟨F',e1,_,zs,rest,hd,hr,hz⟩ p hp
   rw[List.drop_length] at hr
   cases hr
   rw[List.append_nil] at hz
   subst hz
   exact Rk.ok q (.ref p) F' _ (s1.trans (e1.trans (Ext.own e1.fh hp))) ⟨p,acc,rfl,bV (s1.trans e1).hh hp,aT,bV e1.fh hp,hd⟩
theorem gK{N:List Str}{js:List (Option Nat)}{scope:Scope}{tg elt:Expr}{ifs:List Expr}{fi:Sg->R (List PyData)}{fs:PyData->Sg->Option Sg}{ft:Sg->R Bool}{fe:Sg->R PyData}{is:List Nat}(h:PE X e (tH X N scope js tg elt ifs (tI c E fi)))(ho:js.Pairwise fun a b=>a=none\/a≠b)(hi:∀ i∈is,js[i]? = some none)
 (hb:∀ (cl:List (Str×Addr)) (C:Addr) (s:Shared) (H0:Hp) (fp:List Addr),∃ g,PG (fP X N scope cl C s H0 fp) tg g/\Tg c g fs is/\L2.PIf (fP X N scope cl C s H0 fp) ifs (tTf c E0 ft)/\PD (fP X N scope cl C s H0 fp) c E0 elt fe) :
 PN X c E e (c6 js fi fs ft fe):=PE.imp h fun σ H Q q=>wH (tW ho) hi hb q
theorem jH{i:Nat}{st:Stmt}{N:List Str}{js:List (Option Nat)}{scope:Scope}{tg elt:Expr}{ifs:List Expr}{fi:Sg->R (List PyData)}{fs:PyData->Sg->Option Sg}{ft:Sg->R Bool}{fe:Sg->R PyData}{is:List Nat}(h:PS X st (l7 (tH X N scope js tg elt ifs (tI c E fi)) (jO i)))(ho:js.Pairwise fun a b=>a=none\/a≠b)(hi:∀ i∈is,js[i]? = some none)
 (hb:∀ (cl:List (Str×Addr)) (C:Addr) (s:Shared) (H0:Hp) (fp:List Addr),∃ g,PG (fP X N scope cl C s H0 fp) tg g/\Tg c g fs is/\L2.PIf (fP X N scope cl C s H0 fp) ifs (tTf c E0 ft)/\PD (fP X N scope cl C s H0 fp) c E0 elt fe) :
 PSf X c E st (dD i (c6 js fi fs ft fe)):=iF (PS.imp h fun D σ H q=>wH (tW ho) hi hb q)
end
noncomputable def jV(fs:PyData->Sg->Option Sg)(fb:Sg->R Fw):List PyData->Sg->R Fw
 | [],ρ=>.ok (.nx ρ)
 | x::t,ρ=>(yY (fs x ρ)).bind fun ρ1=>(fb ρ1).bind fun w=>match w with
  | .nx ρ2=>jV fs fb t ρ2
  | .ct ρ2=>jV fs fb t ρ2
  | .bk ρ2=>.ok (.nx ρ2)
  | .rt a=>.ok (.rt a)
def fX(fi:Sg->R (List PyData))(fs:PyData->Sg->Option Sg)(fb:Sg->R Fw):Sg->R Fw:=fun ρ=>(fi ρ).bind fun xs=>jV fs fb xs ρ
section
variable{X:Cx}{c:Ct}{E:XK}{e a b:Expr}{pos:Pos}{st:Stmt}
theorem c7{g:TG}{fi:Sg->R (List PyData)}{fs:PyData->Sg->Option Sg}{is:List Nat}{fb:Sg->R Fw}(hg:Tg c g fs is)(h:PS X st (aKQ (tI0 c E fi) g (tSf c E fb))):PSf X c E st (fX fi fs fb):=PS.imp h fun D σ H zz0=>by
 obtain ⟨ρ,F,ab,k⟩:=zz0
 refine ⟨ρ,F,ab,(Rk.bind k).imp fun xs _ q J F1 H1 s1 yl=>?_⟩
 refine ⟨fun i m σ H=>m=xs.length - i/\i<=xs.length/\∃ ρ' F',aM F1 F'/\Ab c ρ' σ F' H/\Rk c E F' H (jV fs fb (xs.drop i) ρ') (iY c F D),⟨xs.length,by simp,Nat.zero_le _,ρ,F1,cU _,ab.ext s1,Rk.ext s1 q⟩,?_⟩
 rintro i m σ2 H2 ⟨rfl,hi,ρ2,F2,s2,ab2,k2⟩
 by_cases hlt:i < xs.length
 ·refine .inr ⟨yl.go i F2 H2 s2 ab2.fh qB hlt,fun σ' H'=>∃ ρ' F',aM F1 F'/\Ab c ρ' σ' F' H'/\Rk c E F' H' (jV fs fb (xs.drop (i+1)) ρ') (iY c F D),fun σ' H' w=>⟨xs.length - (i+1),by omega,rfl,hlt,w⟩,fun v H3 y=>?_⟩
  obtain ⟨F3,e3,rv⟩:=yl.yld i F2 H2 v H3 xs[i] s2 ab2.fh qB y (List.getElem?_eq_getElem hlt)
  have hdr:xs.drop i=xs[i]::xs.drop (i+1):=List.drop_eq_getElem_cons hlt
  rw[hdr] at k2
  unfold jV at k2
  cases h1:fs xs[i] ρ2 with
  | none=>rw[h1] at k2;exact k2.elim
  | some ρ3=>
   rw[h1] at k2
   refine hg v xs[i] ρ2 ρ3 σ2 F3 H3 _ (ab2.ext e3) rv h1 fun σ3 _ _ ab3=>⟨ρ3,F3,ab3,?_⟩
   have k3:Rk c E F2 H2 (fb ρ3) _:=Rk.bind k2
   cases h2:fb ρ3 with
   | bad=>rw[h2] at k3;exact k3.elim
   | ex e=>rw[h2] at k3;exact k3
   | ok w=>
    rw[h2] at k3
    have k4:=Rk.ok k3
    have sF:aM F F3:=fun a o z=>e3.ff a o (s2 a o (s1.ff a o z))
    cases w with
    | nx ρ4=>exact fun σ' F' H' s' ab'=>⟨ρ4,F',fun a o z=>s' a o (e3.ff a o (s2 a o z)),ab',k4⟩
    | ct ρ4=>exact fun σ' F' H' s' ab'=>⟨ρ4,F',fun a o z=>s' a o (e3.ff a o (s2 a o z)),ab',k4⟩
    | bk ρ4=>exact fun σ' F' H' s' ab'=>Rk.ok k4 σ' F' H' (fun a o z=>s' a o (sF a o z)) ab'
    | rt a=>exact fun v F' H' z r=>Rk.ok k4 v F' H' z r
 ·have e:i=xs.length:=by omega
  subst e
  rw[List.drop_length] at k2
  exact .inl ⟨yl.stop F2 H2 s2 ab2.fh qB,Rk.ok k2 σ2 F2 H2 (fun a o z=>s2 a o (s1.ff a o z)) ab2⟩
end
noncomputable def cL(t:Sg->R Bool)(b:Sg->R Fw):Nat->Sg->R Fw
 | 0,_=>.bad
 | n+1,ρ=>(t ρ).bind fun k=>if k=true then (b ρ).bind fun w=>match w with
   | .nx ρ'=>cL t b n ρ'
   | .ct ρ'=>cL t b n ρ'
   | .bk ρ'=>.ok (.nx ρ')
   | .rt a=>.ok (.rt a)
  else .ok (.nx ρ)
open Classical in
noncomputable def bR(t:Sg->R Bool)(b:Sg->R Fw):Sg->R Fw:=fun ρ=>if h:∃ n,cL t b n ρ≠.bad then cL t b h.choose ρ else .bad
theorem R.bind_mono{α β:Type}{r:R α}{f g:α->R β}(h:r.bind f≠.bad)(hfg:∀ a,f a≠.bad->g a=f a):r.bind g=r.bind f:=by
 cases r with
 | bad=>rfl
 | ex e=>rfl
 | ok a=>exact hfg a h
theorem kR{t:Sg->R Bool}{b:Sg->R Fw}:∀ {n m:Nat} {ρ:Sg},n<=m->cL t b n ρ≠.bad->cL t b m ρ=cL t b n ρ
 | 0,_,_,_,h=>absurd rfl h
 | n+1,0,_,hm,_=>absurd hm (by omega)
 | n+1,m+1,ρ,hm,h=>by
  unfold cL at h ⊢
  refine R.bind_mono h fun k hk=>?_
  cases k with
  | false=>rfl
  | true=>
   refine R.bind_mono (r:=b ρ) hk fun w hw=>?_
   cases w with
   | nx ρ'=>exact kR (by omega) hw
   | ct ρ'=>exact kR (by omega) hw
   | bk ρ'=>rfl
   | rt a=>rfl
theorem qE{t:Sg->R Bool}{b:Sg->R Fw}{ρ:Sg}{n:Nat}(h:cL t b n ρ≠.bad):bR t b ρ=cL t b n ρ:=by
 have hx:∃ n,cL t b n ρ≠.bad:=⟨n,h⟩
 unfold bR
 rw[dif_pos hx]
 have hc:=hx.choose_spec
 rcases Nat.le_total n hx.choose with q|q
 · exact kR q h
 · exact (kR q hc).symm
theorem nC (t : Sg -> R Bool) (b : Sg -> R Fw) (ρ : Sg) : bR t b ρ = (t ρ).bind fun k => if k = true then (b ρ).bind fun w => match w with
      | .nx ρ' => bR t b ρ'
      | .ct ρ' => bR t b ρ'
      | .bk ρ' => .ok (.nx ρ')
      | .rt a => .ok (.rt a)
    else .ok (.nx ρ) := by
  have key : ∀ n, (∀ k, t ρ = .ok k -> k = true -> ∀ w, b ρ = .ok w -> ∀ ρ', (w = .nx ρ' \/ w = .ct ρ') -> bR t b ρ' = cL t b n ρ') -> cL t b (n + 1) ρ = (t ρ).bind fun k => if k = true then (b ρ).bind fun w => match w with
      | .nx ρ' => bR t b ρ'
      | .ct ρ' => bR t b ρ'
      | .bk ρ' => .ok (.nx ρ')
      | .rt a => .ok (.rt a)
    else .ok (.nx ρ) := by
    intro n h
    unfold cL
    cases ht : t ρ with
    | bad => rfl
    | ex e => rfl
    | ok k =>
      cases k with
      | false => rfl
      | true =>
        show ((b ρ).bind _) = ((b ρ).bind _)
        cases hb : b ρ with
        | bad => rfl
        | ex e => rfl
        | ok w =>
          cases w with
          | nx ρ' => exact (h true ht rfl _ hb ρ' (.inl rfl)).symm
          | ct ρ' => exact (h true ht rfl _ hb ρ' (.inr rfl)).symm
          | bk ρ' => rfl
          | rt a => rfl
  by_cases hx : ∃ n, cL t b n ρ ≠ .bad
  · obtain ⟨n, hn⟩ := hx
    cases n with
    | zero => exact absurd rfl hn
    | succ n =>
      rw [qE hn]
      refine key n fun k ht hk w hb ρ' hw => ?_
      subst hk
      refine qE fun z => hn ?_
      unfold cL
      rw [ht]
      show ((b ρ).bind _) = _
      rw [hb]
      rcases hw with rfl | rfl
      · exact z
      · exact z
  · have h0 : bR t b ρ = .bad := by unfold bR; rw [dif_neg hx]
    rw [h0]
    have hall : ∀ n, cL t b n ρ = .bad := fun n => Classical.byContradiction fun z => hx ⟨n, z⟩
    cases ht : t ρ with
    | bad => rfl
    | ex e => have := hall 1; unfold cL at this; rw [ht] at this; cases this
    | ok k =>
      cases k with
      | false => have := hall 1; unfold cL at this; rw [ht] at this; cases this
      | true =>
        show R.bad = ((b ρ).bind _)
        cases hb : b ρ with
        | bad => rfl
        | ex e => have := hall 1; unfold cL at this; rw [ht] at this; change ((b ρ).bind _) = _ at this; rw [hb] at this; cases this
        | ok w =>
          have nxt : ∀ ρ', (w = .nx ρ' \/ w = .ct ρ') -> bR t b ρ' = .bad := fun ρ' hw => by
            unfold bR
            rw [dif_neg]
            rintro ⟨n, hn⟩
            refine hn ?_
            have := hall (n + 1)
            unfold cL at this
            rw [ht] at this
            change ((b ρ).bind _) = _ at this
            rw [hb] at this
            rcases hw with rfl | rfl <;> exact this
          cases w with
          | nx ρ' => exact (nxt ρ' (.inl rfl)).symm
          | ct ρ' => exact (nxt ρ' (.inr rfl)).symm
          | bk ρ' => have := hall 1; unfold cL at this; rw [ht] at this; change ((b ρ).bind _) = _ at this; rw [hb] at this; cases this
          | rt a => have := hall 1; unfold cL at this; rw [ht] at this; change ((b ρ).bind _) = _ at this; rw [hb] at this; cases this
section
variable{X:Cx}{c:Ct}{E:XK}{st:Stmt}
theorem eK{t:Sg->R Bool}{fb:Sg->R Fw}(h:PS X st (aDJ (tTf c E t) (tSf c E fb))):PSf X c E st (bR t fb):=PS.imp h fun D σ H zz0=>by
 obtain ⟨ρ,F,ab,k⟩:=zz0
 have hx:∃ n,cL t fb n ρ≠.bad:=Classical.byContradiction fun z=>by
  have:bR t fb ρ=.bad:=by unfold bR;rw[dif_neg z]
  rw[this] at k
  exact k
 obtain ⟨n,hn⟩:=hx
 rw[qE hn] at k
 refine ⟨fun m σ H=>∃ ρ' F',aM F F'/\Ab c ρ' σ F' H/\Rk c E F' H (cL t fb m ρ') (iY c F D),⟨n,ρ,F,cU F,ab,k⟩,?_⟩
 rintro m σ1 H1 ⟨ρ1,F1,s1,ab1,k1⟩
 cases m with
 | zero=>exact k1.elim
 | succ m=>
  unfold cL at k1
  refine ⟨ρ1,F1,ab1,(Rk.bind k1).imp fun b _ q F2 H2 e2=>?_⟩
  have ab2:=ab1.ext e2
  cases b with
  | false=>exact uW (Rk.ok q σ1 F2 H2 (fun a o z=>e2.ff a o (s1 a o z)) ab2)
  | true=>
   refine uX ⟨fun σ' H'=>∃ ρ' F',aM F F'/\Ab c ρ' σ' F' H'/\Rk c E F' H' (cL t fb m ρ') (iY c F D),fun σ' H' w=>⟨m,by omega,w⟩,ρ1,F2,ab2,?_⟩
   have q':Rk c E F1 H1 (fb ρ1) _:=Rk.bind (r:=fb ρ1) q
   cases h2:fb ρ1 with
   | bad=>rw[h2] at q';exact q'.elim
   | ex e=>rw[h2] at q';exact q'
   | ok w=>
    rw[h2] at q'
    have k4:=Rk.ok q'
    have sF:aM F F2:=fun a o z=>e2.ff a o (s1 a o z)
    cases w with
    | nx ρ4=>exact fun σ' F' H' s' ab'=>⟨ρ4,F',fun a o z=>s' a o (sF a o z),ab',k4⟩
    | ct ρ4=>exact fun σ' F' H' s' ab'=>⟨ρ4,F',fun a o z=>s' a o (sF a o z),ab',k4⟩
    | bk ρ4=>exact fun σ' F' H' s' ab'=>Rk.ok k4 σ' F' H' (fun a o z=>s' a o (sF a o z)) ab'
    | rt a=>exact fun v F' H' z r=>Rk.ok k4 v F' H' z r
end
end Fl
namespace Fl
open PySem L2 PyProof.Rows
def spG(K:Frag)(mg:Str->Option Value)(T F1:Hp)(n:Nat)(G:List PyData->R PyData):Sp:=fun vs H Q E=>∃ F ds,aM F1 F/\aM T F/\aM F H/\DatVs K F vs ds/\ds.length=n/\match G ds with
 | .bad=>False
 | .ok d=>∀ v F' H',Ext F H F' H'->DatV K F' v d->Q v H'
 | .ex e=>∀ a C F' H',Ext F H F' H'->kE K mg F' e a C->E (.ref C) (some a) H'
def Beh(P:Program)(w:World)(K:Frag)(mg:Str->Option Value)(base:Heap)(T:Hp)(f:Addr)(F1:Hp)(k n:Nat)(G:List PyData->R PyData):Prop:=
 ∃ fd ps,ps.length=n/\iC K fd ps []/\FnOk P w K mg base (CXe P w) k f fd ps (spG K mg T F1 n G)/\(PySem.W.keepIn K (.ref f)=true\/∃ oc od fd' sl,F1 f=some (FnO f ⟨oc,od,.func fd',sl⟩))
def gOf(P:Program)(w:World)(K:Frag)(mg:Str->Option Value)(base:Heap)(T:Hp):Gb:=⟨Beh P w K mg base T,T,w⟩
def spF(g:Gb)(K:Frag)(mg:Str->Option Value)(n:Nat)(G:List A->R A):Sp:=fun vs H Q E=>∃ F as,aM g.T F/\aM F H/\AFs g K mg F as vs/\as.length=n/\match G as with
 | .bad=>False
 | .ok a=>∀ v F' H',Ext F H F' H'->AF g K mg F' a v->Q v H'
 | .ex e=>∀ a C F' H',Ext F H F' H'->kE K mg F' e a C->E (.ref C) (some a) H'
def a7(P:Program)(w:World)(K:Frag)(mg:Str->Option Value)(base:Heap)(T:Hp)(k:Nat)(x:Str)(ps:List Str)(G:List A->R A):Prop:=Calls P w K mg base (CXe P w) k x ps (spF (gOf P w K mg base T) K mg ps.length G)
def aY(n:Nat)(G:List A->R A)(f:Sg->R (List A)):Sg->R A:=fun ρ=>(f ρ).bind fun as=>if as.length=n then G as else .bad
theorem cG{X:Cx}{c:Ct}{E:XK}{e:Expr}{n:Nat}{G:List A->R A}{g:Gb}{K:Frag}{mg:Str->Option Value}{f:Sg->R (List A)}(hG:g=c.g)(hK:K=c.K)(hM:mg=c.mg)(h:PE X e (mY (spF g K mg n G) [] E (tAv c E f))):PV X c E e (aY n G f):=PE.imp h fun σ H Q zz0=>by
 obtain ⟨ρ,F,ab,k⟩:=zz0
 subst hG hK hM
 refine ⟨ρ,F,ab,(Rk.bind k).imp fun as _ q vs F1 H1 s1 r1=>?_⟩
 by_cases hn:as.length=n
 ·rw[if_pos hn] at q
  refine ⟨F1,as,fun a o z=>s1.ff a o (ab.f0 a o (ab.t0 a o z)),s1.fh,by rw[List.append_nil];exact r1,hn,?_⟩
  cases hg:G as with
  | bad=>rw[hg] at q;exact q
  | ok a=>rw[hg] at q;exact fun v F' H' s r=>Rk.ok q v F' H' (s1.trans s) r
  | ex e=>rw[hg] at q;exact fun a C F' H' s r=>q a C F' H' ((ab.all.trans s1).trans s) r
 ·rw[if_neg hn] at q;exact q.elim
def fnF(n:Nat)(fb:Sg->R Fw):List A->R A:=fun as=>(fb (as.map some++List.replicate (n - as.length) none)).bind fun w=>match w with
 | .rt (.l _)=>.bad
 | .rt a=>.ok a
 | .nx _=>.ok (.d .none)
 | _=>.bad
theorem AFs.get{g:Gb}{K:Frag}{mg:Str->Option Value}{F:Hp}:∀ {as:List A} {vs:List V} {i:Nat} {a:A},AFs g K mg F as vs->as[i]? = some a->∃ v,vs[i]? = some v/\AF g K mg F a v
 | [],[],_,_,_,h=>by simp at h
 | a::as,v::vs,0,_,h,e=>by simp at e;subst e;exact ⟨v,rfl,h.1⟩
 | a::as,v::vs,i+1,_,h,e=>by
  obtain ⟨w,h1,h2⟩:=AFs.get (i:=i) h.2 (by simpa using e)
  exact ⟨w,by simpa using h1,h2⟩
theorem qF{α:Type}{as:List α}{n i:Nat}{a:α}(h:(as.map some++List.replicate n none)[i]? = some (some a)):as[i]? = some a:=by
 by_cases hi:i < as.length
 ·rw[List.getElem?_append_left (by rw[List.length_map];exact hi),List.getElem?_map] at h
  cases e:as[i]? with
  | none=>rw[e] at h;cases h
  | some b=>rw[e] at h;cases h;rfl
 ·rw[List.getElem?_append_right (by rw[List.length_map];omega),List.getElem?_replicate] at h
  split at h
  · cases h
  · cases h
theorem sL{g:Gb}{cells:List (Str×Addr)}{cls:Str->Option ClSt}{K:Frag}{mg:Str->Option Value}{w:World}{F H:Hp}{as:List A}{vs:List V}{n:Nat}(s0:aM g.T F)(s:aM F H)(h:AFs g K mg F as vs):Ab ⟨K,mg,w,F,H,g,cells,cls⟩ (as.map some++List.replicate (n - as.length) none) (vs.map some++List.replicate (n - vs.length) none) F H where
 len:=by rw[List.length_append,List.length_append,List.length_map,List.length_map,List.length_replicate,List.length_replicate,h.len]
 fh:=s
 slot:=fun i a e=>by
  obtain ⟨v,h1,h2⟩:=h.get (qF e)
  refine ⟨v,?_,AO.of h2⟩
  have hi:i < vs.length:=(List.getElem?_eq_some_iff.mp h1).1
  rw[List.getElem?_append_left (by rw[List.length_map];exact hi),List.getElem?_map,h1];rfl
 apart:=fun i j a b _ e1 _ o _=>by
  obtain ⟨v,h1,h2⟩:=h.get (qF e1)
  rw[AF.notOwn h2] at o
  cases o
 f0:=cU F
 h0:=cU H
 n0:=fun a e n=>absurd e n
 t0:=s0
theorem aA2{g:Gb}{cells:List (Str×Addr)}{cls:Str->Option ClSt}{K:Frag}{mg:Str->Option Value}{w:World}{n:Nat}{fb:Sg->R Fw}{vs:List V}{as:List A}{F H:Hp}{Q:VK}{E:XK}(h0:aM g.T F)(h1:aM F H)(h2:AFs g K mg F as vs)(h4:match fnF n fb as with
 | .bad=>False
 | .ok a=>∀ v F' H',Ext F H F' H'->AF g K mg F' a v->Q v H'
 | .ex e=>∀ a C F' H',Ext F H F' H'->kE K mg F' e a C->E (.ref C) (some a) H'):tSf ⟨K,mg,w,F,H,g,cells,cls⟩ E fb {nx:=fun _ H'=>Q .non H',rt:=Q} (vs.map some++List.replicate (n - vs.length) none) H:=by
 refine ⟨_,F,sL h0 h1 h2,?_⟩
 unfold fnF at h4
 cases e:fb (as.map some++List.replicate (n - as.length) none) with
 | bad=>rw[e] at h4;exact h4
 | ex x=>rw[e] at h4;exact h4
 | ok w=>
  rw[e] at h4
  cases w with
  | nx ρ'=>exact fun σ' F' H' s ab=>h4 .non F' H' ab.all .non
  | rt a=>
   cases a with
   | l xs=>exact h4.elim
   | _=>exact h4
  | bk ρ'=>exact h4.elim
  | ct ρ'=>exact h4.elim
section
variable{P:Program}{w:World}{K:Frag}{mg:Str->Option Value}{base:Heap}{T:Hp}{x:Str}{st:Stmt}{N ps:List Str}{k:Nat}
theorem c8{fb:Sg->R Fw}(D:DefAt K mg x st ps)(S:FnScope N ps (aO st))
  (hbody:∀ (f:Addr) (cdv:Value) (A:Around) (outer:List Env) (s:Shared) (H F:Hp) (E:XK),Room k (A.deeper (envOfC x (aO st) s.heap.objs.size f cdv))->
   nO ((iO (CXe P w) P w K mg base N x (aO st) f cdv A outer s H E).fly E) ⟨K,mg,w,F,H,gOf P w K mg base T,(envOfC x (aO st) s.heap.objs.size f cdv).cells,fun _=>none⟩ E (dH st) fb):a7 P w K mg base T (k+1) x ps (fnF N.length fb):=by
 refine D.okX S (fun vs H Q E h=>?_) (fun f cdv A outer s H vs Q E hr h=>?_)
 ·obtain ⟨F,as,_,_,h2,h3,_⟩:=h
  rw[h2.len,h3]
 ·obtain ⟨F,as,h0,h1,h2,h3,h4⟩:=h
  exact ⟨_,hbody f cdv A outer s H F E hr,aA2 h0 h1 h2 h4⟩
theorem a7.imp{G G':List A->R A}(C:a7 P w K mg base T k x ps G)(h:∀ as,G' as≠.bad->G as=G' as):a7 P w K mg base T k x ps G':=Calls.imp C fun vs H Q E=>by
 rintro ⟨F,as,h0,h1,h2,h3,h4⟩
 refine ⟨F,as,h0,h1,h2,h3,?_⟩
 cases e:G' as with
 | bad=>rw[e] at h4;exact h4.elim
 | ok a=>rw[h as (by rw[e];exact fun z=>nomatch z),e];rw[e] at h4;exact h4
 | ex x=>rw[h as (by rw[e];exact fun z=>nomatch z),e];rw[e] at h4;exact h4
end
def tX(cn:Str)(fs:List Str)(f:Sg->R (List PyData)):Sg->R Fw:=fun ρ=>(f ρ).bind fun xs=>if xs.length=fs.length then .ex ⟨cn,fs.zip xs⟩ else .bad
theorem vI{α β:Type}:∀ {xs:List α} {ys:List β},ys.length=xs.length->(xs.zip ys).map (·.1)=xs
 | [],_,_=>by simp
 | x::xs,[],h=>by simp at h
 | x::xs,y::ys,h=>by simp at h;simp[vI h]
theorem vJ{α β:Type}:∀ {xs:List α} {ys:List β},ys.length=xs.length->(xs.zip ys).map (·.2)=ys
 | [],[],_=>by simp
 | [],_::_,h=>by simp at h
 | x::xs,[],h=>by simp at h
 | x::xs,y::ys,h=>by simp at h;simp[vJ h]
theorem sC{X:Cx}{c:Ct}{E:XK}{st:Stmt}{cn:Str}{C:Addr}{fs:List Str}{f:Sg->R (List PyData)}(hm:c.mg cn=some (.ref C))(hl:fs.length<=1000)(h:PS X st (x9 C (spI C fs) E (tAd c E f))):PSf X c E st (tX cn fs f):=PS.imp h fun D σ H zz0=>by
 obtain ⟨ρ,F,ab,k⟩:=zz0
 refine ⟨ρ,F,ab,(Rk.bind k).imp fun xs _ q vs F1 H1 s1 r1=>?_⟩
 by_cases hn:xs.length=fs.length
 ·rw[if_pos hn] at q
  have hv:vs.length=fs.length:=by rw[r1.length,hn]
  refine aCD hv (by rw[hv];exact hl) fun e d he hd hne=>?_
  have s2:Ext F1 H1 (upd F1 e (ExO e C (some d))) (upd H1 e (ExO e C (some d))):=Ext.new s1.fh he
  have s3:Ext _ _ (upd (upd F1 e (ExO e C (some d))) d (.xd (fs.zip vs))) (upd (upd H1 e (ExO e C (some d))) d (.xd (fs.zip vs))):=Ext.new s2.fh (by rw[aH hne];exact hd)
  refine q e C _ _ ((ab.all.trans s1).trans (s2.trans s3)) ⟨hm,some d,?_,.inr ⟨d,fs.zip vs,rfl,aT,?_,?_⟩⟩
  ·rw[aH (Ne.symm hne),aT]
  ·show _=(fs.zip xs).map (·.1)
   rw[vI hv,vI hn]
  ·show DatVs _ _ _ ((fs.zip xs).map (·.2))
   rw[vJ hv,vJ hn]
   exact r1.same (s2.trans s3).ff
 ·rw[if_neg hn] at q;exact q.elim
end Fl
namespace Fl
open PySem L2 PyProof.Rows
def tPf(c:Ct)(E:XK)(f:Sg->R (Option Int)):TO:=fun σ H Q=>∃ ρ F,Ab c ρ σ F H/\Rk c E F H (f ρ) fun o=>∀ F' H',Ext F H F' H'->Q o H'
noncomputable def oNo:Sg->R (Option Int):=fun _=>.ok none
def oSo(f:Sg->R PyData):Sg->R (Option Int):=fun ρ=>(f ρ).bind fun x=>match x with
 | .int i=>.ok (some i)
 | _=>.bad
noncomputable def qG{α:Type}(xs:List α)(lo hi:Option Int):List α:=(xs.drop (HT.sIx xs.length 0 lo)).take (HT.sIx xs.length xs.length hi - HT.sIx xs.length 0 lo)
noncomputable def dSl:PyData->Option Int->Option Int->R PyData
 | .list xs,lo,hi=>.ok (.list (qG xs lo hi))
 | .tuple xs,lo,hi=>if ¬ (HT.sIx xs.length 0 lo=0/\HT.sIx xs.length xs.length hi=xs.length) then .ok (.tuple (qG xs lo hi)) else .bad
 | .str z,lo,hi=>if z.length<=16777216 then .ok (.str (Txt.slice z lo hi)) else .bad
 | _,_,_=>.bad
def eSl{α:Type}(g:PyData->Option Int->Option Int->R α)(f:Sg->R PyData)(lo hi:Sg->R (Option Int)):Sg->R α:=fun ρ=>(f ρ).bind fun x=>(lo ρ).bind fun l=>(hi ρ).bind fun h=>g x l h
theorem yZ{K:Frag}{F:Hp}{vs:List V}{xs:List PyData}(h:DatVs K F vs xs)(lo hi:Option Int):DatVs K F (pR vs lo hi) (qG xs lo hi):=by
 unfold pR qG
 rw[h.length]
 exact (h.drop _).take _
theorem PO.imp{X:Cx}{e:Option Expr}{t t':TO}(h:PO X e t)(i:∀ σ H Q,t' σ H Q->t σ H Q):PO X e t':=fun pins s σ H Q I q=>h pins s σ H Q I (i σ H Q q)
section
variable{X:Cx}{c:Ct}{E:XK}{e a b:Expr}{pos p2:Pos}{lo hi:Option Expr}
theorem o4:PO X none (tPf c E oNo):=PO.imp aIJ fun σ H Q ⟨ρ,F,ab,k⟩=>Rk.ok k F H (Ext.refl ab.fh)
theorem o5{f:Sg->R PyData}(h:PR X c E e f):PO X (some e) (tPf c E (oSo f)):=PO.imp (aIK h) fun σ H Q ⟨ρ,F,ab,k⟩=>⟨ρ,F,ab,(Rk.bind k).imp fun x _ q v F' H' s r=>by
 cases x with
 | int i=>exact ⟨i,aX.int_of r,Rk.ok q F' H' s⟩
 | _=>exact q.elim⟩
def aLM(c:Ct){α:Type}(Rb:VR α)(g:PyData->Option Int->Option Int->R α):V->Option Int->Option Int->Hp->VK->Prop:=fun v lo hi H Q=>∃ F x d,aM F H/\aX c.K F H v x/\g x lo hi=.ok d/\∀ w F' H',Ext F H F' H'->Rb d w H F' H'->Q w H'
theorem aNQ(hK:X.K=c.K):SlR X (aLM c (cE c) dSl):=by
 intro pins s σ H v x vl vu lo hi sl Q I rx hs pl pu h
 obtain ⟨F,d,w,sf,ra,eg,q⟩:=h
 unfold dSl at eg
 split at eg
 ·cases eg
  obtain ⟨p,vs,rfl,h1,h2⟩:=aX.lst_of sf ra
  rw[<-hK] at h1
  exact aIO pins s σ H _ x vl vu lo hi sl Q I rx hs pl pu ⟨p,vs,rfl,h1,fun l hl=>q _ _ _ (Ext.new sf hl) (.lst (SqL.of aT) ((yZ h2 lo hi).same (aM.upd (bV sf hl))))⟩
 ·rename_i xs _ _
  split at eg
  ·rename_i hw
   cases eg
   obtain ⟨p,vs,rfl,_,h1,h2⟩:=aX.tup_of sf ra
   rw[<-hK] at h1
   exact aK3 pins s σ H _ x vl vu lo hi sl Q I rx hs pl pu ⟨p,vs,rfl,h1,by rw[h2.length];exact hw,fun l hl=>q _ _ _ (Ext.new sf hl) (.tup (SqT.of aT) ((yZ h2 lo hi).same (aM.upd (bV sf hl))))⟩
  ·cases eg
 ·split at eg
  ·rename_i hz
   cases eg
   obtain rfl:=aX.str_of ra
   exact aLC pins s σ H _ x vl vu lo hi sl Q I rx hs pl pu ⟨_,rfl,by rw[dI];exact hz,q _ F H (Ext.refl sf) (.str _)⟩
  ·cases eg
 ·cases eg
theorem aI8{α:Type}{Rb:VR α}{g:PyData->Option Int->Option Int->R α}(hp:∀ x l h e,g x l h≠.ex e)(kb:yQ Rb){f:Sg->R PyData}{fl fh:Sg->R (Option Int)}{σ:L2.St}{H:Hp}{Q:VK}(h:tV Rb c E (eSl g f fl fh) σ H Q) :
  tSl (aLM c Rb g) (tV (bA c) c E f) (tPf c E fl) (tPf c E fh) σ H Q:=by
 obtain ⟨ρ,F,ab,k⟩:=h
 refine ⟨ρ,F,ab,(Rk.bind k).imp fun x _ q v F1 H1 s1 r1=>⟨ρ,F1,ab.ext s1,((Rk.bind q).ext s1).imp fun l _ q F2 H2 s2=>⟨ρ,F2,ab.ext (s1.trans s2),((Rk.bind q).ext (s1.trans s2)).imp fun hh _ q F3 H3 s3=>?_⟩⟩⟩
 cases eg:g x l hh with
 | bad=>rw[eg] at q;exact q.elim
 | ex e=>exact absurd eg (hp x l hh e)
 | ok d=>
  rw[eg] at q
  have s13:=(s1.trans s2).trans s3
  exact ⟨F3,x,d,s3.fh,aX.ext (s2.trans s3) r1,eg,fun w F' H' s r=>Rk.ok q w F' H' (s13.trans s) (kb _ _ _ _ _ _ s13.hh r)⟩
theorem aGL:∀ x l h e,dSl x l h≠.ex e:=by intro x l h e q;unfold dSl at q;split at q<;>(try split at q)<;>cases q
theorem iZ{f:Sg->R PyData}{fl fh:Sg->R (Option Int)}(hK:X.K=c.K)(he:PR X c E e f)(hl:PO X lo (tPf c E fl))(hh:PO X hi (tPf c E fh)):PD X c E (.Subscript e (.Slice lo hi none p2) pos) (eSl dSl f fl fh):=
 PE.imp (aFT (aNQ hK) he hl hh) fun σ H Q h=>aI8 aGL (kQ c) h
noncomputable def tyN:PyData->String
 | .none=>"NoneType"
 | .bool _=>"bool"
 | .int _=>"int"
 | .str _=>"str"
 | .list _=>"list"
 | .tuple _=>"tuple"
 | .dict _=>"dict"
noncomputable def gL(t T:String):Bool:=t == T || (T == "int" && t == "bool")
noncomputable def eB(T:String)(x:PyData):R PyData:=match x with
 | .dict _=>.bad
 | x=>.ok (.bool (gL (tyN x) T))
structure Kit(K:Frag)(T:String):Prop where
 non:PySem.W.kitOne K (.type "NoneType") (.type T)=some (gL "NoneType" T)
 bl:PySem.W.kitOne K (.type "bool") (.type T)=some (gL "bool" T)
 int:PySem.W.kitOne K (.type "int") (.type T)=some (gL "int" T)
 str:PySem.W.kitOne K (.type "str") (.type T)=some (gL "str" T)
 lst:PySem.W.kitOne K (.type "list") (.type T)=some (gL "list" T)
 tup:PySem.W.kitOne K (.type "tuple") (.type T)=some (gL "tuple" T)
theorem aI9(K:Frag):Kit K "int":=⟨rfl,rfl,rfl,rfl,rfl,rfl⟩
theorem aGM(K:Frag):Kit K "bool":=⟨rfl,rfl,rfl,rfl,rfl,rfl⟩
theorem aA3(K:Frag):Kit K "str":=⟨rfl,rfl,rfl,rfl,rfl,rfl⟩
theorem aGN(K:Frag):Kit K "list":=⟨rfl,rfl,rfl,rfl,rfl,rfl⟩
theorem nE(K:Frag):Kit K "tuple":=⟨rfl,rfl,rfl,rfl,rfl,rfl⟩
theorem aGO{X:Cx}:eX X (.builtin "isinstance") (fun xs H Q=>∃ a ys c cv b,xs=[.ref a,c]/\SqL X.K H a ys/\u0 c=some cv/\PySem.W.kitOne X.K (.type "list") cv=some b/\Q (.bl b) H):=by
 intro pins s σ H xs us Q I r h
 obtain ⟨a,ys,c,cv,b,rfl,ha,hc,e,q⟩:=h
 obtain ⟨u,v,rfl,ru,rv⟩:=s9 r
 obtain rfl:=u1 hc rv
 cases (show u=Value.ref a from ru)
 obtain ⟨its,_,pl,_⟩:=I.list ha
 obtain ⟨o,h1,h2,_⟩:=pl.isList
 exact PySem.W.kia_one PySem.W.kitx_list I.kIn ⟨o,h1,h2⟩ e (fun z=>nomatch z) fun tk=>⟨.bl b,H,I.tok _,rfl,q⟩
def aGP(c:Ct)(T:String):List V->Hp->VK->Prop:=fun xs H Q=>∃ F x v d,xs=[v,.ty T]/\aM F H/\aX c.K F H v x/\eB T x=.ok d/\∀ w F' H',Ext F H F' H'->DatV c.K F' w d->Q w H'
theorem fY(hK:X.K=c.K){T:String}(k:Kit X.K T):eX X (.builtin "isinstance") (aGP c T):=by
 intro pins s σ H xs us Q I r h
 obtain ⟨F,x,v,d,rfl,sf,ra,eg,q⟩:=h
 cases x with
 | dict _=>cases eg
 | none=>
  cases eg
  obtain rfl:=aX.non_of ra
  exact gJ pins s σ H _ us Q I r ⟨_,_,_,_,_,rfl,.pl .non,rfl,k.non,q _ F H (Ext.refl sf) (.bl _)⟩
 | bool b=>
  cases eg
  obtain rfl:=aX.bl_of ra
  exact gJ pins s σ H _ us Q I r ⟨_,_,_,_,_,rfl,.pl (.bl b),rfl,k.bl,q _ F H (Ext.refl sf) (.bl _)⟩
 | int b=>
  cases eg
  obtain rfl:=aX.int_of ra
  exact gJ pins s σ H _ us Q I r ⟨_,_,_,_,_,rfl,.pl (.int b),rfl,k.int,q _ F H (Ext.refl sf) (.bl _)⟩
 | str b=>
  cases eg
  obtain rfl:=aX.str_of ra
  exact gJ pins s σ H _ us Q I r ⟨_,_,_,_,_,rfl,.pl (.str b),rfl,k.str,q _ F H (Ext.refl sf) (.bl _)⟩
 | tuple xs=>
  cases eg
  obtain ⟨p,vs,rfl,_,h1,h2⟩:=aX.tup_of sf ra
  rw[<-hK] at h1
  exact yC pins s σ H _ us Q I r ⟨p,vs,_,_,_,rfl,h1,rfl,k.tup,q _ F H (Ext.refl sf) (.bl _)⟩
 | list xs=>
  cases eg
  obtain ⟨p,vs,rfl,h1,h2⟩:=aX.lst_of sf ra
  rw[<-hK] at h1
  exact aGO pins s σ H _ us Q I r ⟨p,vs,_,_,_,rfl,h1,rfl,k.lst,q _ F H (Ext.refl sf) (.bl _)⟩
theorem jW{T:String}{f:Sg->R PyData}(h:PE X e (tCB (aGP c T) (cT (tV (bA c) c E f) (cT (tC (.ty T)) eR)))):PD X c E e (e1 (eB T) f):=PE.imp h fun σ H Q zz0=>by
 obtain ⟨ρ,F,ab,k⟩:=zz0
 refine ⟨ρ,F,ab,(Rk.bind k).imp fun x _ q v F1 H1 s1 r1=>?_⟩
 show aGP c T [v,.ty T] H1 Q
 cases x with
 | dict _=>exact q.elim
 | none=>exact ⟨F1,_,v,_,rfl,s1.fh,r1,rfl,fun w F' H' s r=>Rk.ok q w F' H' (s1.trans s) r⟩
 | bool _=>exact ⟨F1,_,v,_,rfl,s1.fh,r1,rfl,fun w F' H' s r=>Rk.ok q w F' H' (s1.trans s) r⟩
 | int _=>exact ⟨F1,_,v,_,rfl,s1.fh,r1,rfl,fun w F' H' s r=>Rk.ok q w F' H' (s1.trans s) r⟩
 | str _=>exact ⟨F1,_,v,_,rfl,s1.fh,r1,rfl,fun w F' H' s r=>Rk.ok q w F' H' (s1.trans s) r⟩
 | list _=>exact ⟨F1,_,v,_,rfl,s1.fh,r1,rfl,fun w F' H' s r=>Rk.ok q w F' H' (s1.trans s) r⟩
 | tuple _=>exact ⟨F1,_,v,_,rfl,s1.fh,r1,rfl,fun w F' H' s r=>Rk.ok q w F' H' (s1.trans s) r⟩
noncomputable def mF:PyData->PyData->R PyData
 | .str z,.str y=>match Builtin.Str.occurrences z y 0 z.length 1 with
  | i::_=>.ok (.int i)
  | []=>.bad
 | _,_=>.bad
theorem y2{f g:Sg->R PyData}(h:PE X e (tBM X.K "str" aD1 (tV (bA c) c E f) (cT (tV (bA c) c E g) eR)))(hs:∀ ρ x,f ρ=.ok x->∃ z,x=.str z):PD X c E e (e2 mF f g):=PE.imp h fun σ H Q ⟨ρ,F,ab,k⟩=>by
 refine ⟨ρ,F,ab,(Rk.bind k).imp fun x ex q v F1 H1 s1 r1=>?_⟩
 obtain ⟨z,rfl⟩:=hs ρ x ex
 obtain rfl:=aX.str_of r1
 refine ⟨rfl,ρ,F1,ab.ext s1,((Rk.bind q).ext s1).imp fun y _ q u F2 H2 s2 r2=>?_⟩
 cases y with
 | str y=>
  have q':Rk c E F H (match Builtin.Str.occurrences z y 0 z.length 1 with
   | i::_=>R.ok (PyData.int i)
   | []=>.bad) (fun d=>∀ v F' H',Ext F H F' H'->cE c d v H F' H'->Q v H'):=q
  split at q'
  ·rename_i i rest ho
   obtain rfl:=aX.str_of r2
   exact ⟨z,y,i,rest,rfl,rfl,ho,Rk.ok q' _ F2 H2 (s1.trans s2) (.int _)⟩
  ·exact q'.elim
 | _=>exact q.elim
noncomputable def i6:Nat->List PyData->List PyData
 | _,[]=>[]
 | i,x::t=>.tuple [.int i,x]::i6 (i+1) t
theorem i7:∀ (i:Nat) (xs:List PyData),(i6 i xs).length=xs.length
 | _,[]=>rfl
 | i,x::t=>by rw[i6,List.length_cons,List.length_cons,i7]
theorem sM:∀ (k i:Nat) (xs:List PyData),(i6 k xs)[i]? = (xs[i]?).map fun x=>.tuple [.int ((k+i:Nat):Int),x]
 | k,i,[]=>by simp[i6]
 | k,0,x::t=>by simp[i6]
 | k,i+1,x::t=>by rw[i6,List.getElem?_cons_succ,List.getElem?_cons_succ,sM,show k+1+i=k+(i+1) by omega]
noncomputable def xK:PyData->R (List PyData)
 | .list xs=>if xs.length<=16777216 then .ok (i6 0 xs) else .bad
 | .str z=>if z.cps.toList.length<=16777216 then .ok (i6 0 (z.cps.toList.map fun u=>.str ⟨#[u]⟩)) else .bad
 | _=>.bad
theorem aGQ{K:Frag}{F B:Hp}{a:Addr}{vs:List V}{xs:List PyData}(hz:xs.length<=16777216)(hs:∀ H1,aM F H1->aM B H1->SqL K H1 a vs)(hd:DatVs K F vs xs):Yld K (Ite K a) F B (i6 0 xs) where
 len:=by rw[dI,i7];exact hz
 go:=fun i F1 H1 h1 h2 h3 hi=>by
  rw[i7] at hi
  exact ⟨vs,vs[i]'(by rw[hd.length];exact hi),hs H1 (fun x o z=>h2 x o (h1 x o z)) h3,by simp⟩
 yld:=fun i F1 H1 v H2 x h1 h2 h3 y e=>by
  obtain ⟨p,w,hp,rfl,rfl,y⟩:=y
  have q:=y vs (hs _ (fun x o z=>h2 x o (h1 x o z)) h3)
  obtain ⟨d,e2,r⟩:=hd.get q
  rw[sM,e2] at e
  cases e
  refine ⟨_,Ext.new h2 hp,.tup (SqT.of aT) (.cons ?_ (.cons ((r.same h1).same (aM.upd (bV h2 hp))) .nil))⟩
  rw[Nat.zero_add];exact .int _
 stop:=fun F1 H1 h1 h2 h3=>⟨vs,hs H1 (fun x o z=>h2 x o (h1 x o z)) h3,by rw[hd.length,i7];exact Nat.le_refl _⟩
theorem aEJ{K:Frag}{F B:Hp}{z:Str}(hz:z.cps.toList.length<=16777216):Yld K (Ity z) F B (i6 0 (z.cps.toList.map fun u=>.str ⟨#[u]⟩)) where
 len:=by rw[dI,i7,List.length_map];exact hz
 go:=fun i F1 H1 h1 h2 h3 hi=>by
  rw[i7,List.length_map,Array.length_toList] at hi
  exact hi
 yld:=fun i F1 H1 v H2 x h1 h2 h3 y e=>by
  obtain ⟨p,u,hp,rfl,rfl,hu⟩:=y
  rw[sM,List.getElem?_map,Array.getElem?_toList,hu] at e
  cases e
  refine ⟨_,Ext.new h2 hp,.tup (SqT.of aT) (.cons ?_ (.cons (.str _) .nil))⟩
  rw[Nat.zero_add];exact .int _
 stop:=fun F1 H1 h1 h2 h3=>by
  show (i6 0 _).length=z.cps.size
  rw[i7,List.length_map,Array.length_toList]
theorem aLN{tg:Expr}{f:Sg->R PyData}(hK:X.K=c.K)(h:PI X tg e (aHP X.K (cT (tV (cE c) c E f) eR)))(h':PI X tg e (aD2 (cT (tV (cE c) c E f) eR))):PI0 X c E tg e (e1 xK f):=PI.imp (PI.or h h') fun σ H Q ⟨ρ,F,ab,k⟩=>by
 have k':=Rk.bind k
 cases hf:f ρ with
 | bad=>rw[hf] at k';exact k'.elim
 | ex x=>rw[hf] at k';exact .inl ⟨ρ,F,ab,by rw[hf];exact k'⟩
 | ok d=>
  rw[hf] at k'
  have k2:=Rk.ok k'
  unfold xK at k2
  split at k2
  ·rename_i xs
   split at k2
   ·rename_i hz
    refine .inl ⟨ρ,F,ab,?_⟩
    rw[hf]
    intro v F' H' s r
    obtain ⟨p,vs,rfl,h1,h2⟩:=DatV.lst_of r
    refine ⟨p,rfl,⟨vs,?_⟩,?_⟩
    · rw [hK]; exact h1.same s.fh
    · rw [hK]; exact Rk.ok k2 _ F' H' s (aGQ hz (fun H1 q _ => h1.same q) h2)
   ·exact k2.elim
  ·rename_i z
   split at k2
   ·rename_i hz
    refine .inr ⟨ρ,F,ab,?_⟩
    rw[hf]
    intro v F' H' s r
    obtain rfl:=DatV.str_of r
    exact ⟨z,rfl,Rk.ok k2 _ F' H' s (aEJ hz)⟩
   ·exact k2.elim
  ·exact k2.elim
end
end Fl
namespace Fl
open PySem L2 PyProof.Rows
noncomputable def jX(kvs:List (PyData×PyData))(k:PyData):Option PyData:=(kvs.find? fun p=>decide (p.1=k)).map (·.2)
noncomputable def eO(kvs:List (PyData×PyData))(k:PyData):Bool:=(jX kvs k).isSome
noncomputable def putM(kvs:List (PyData×PyData))(k v:PyData):List (PyData×PyData):=if eO kvs k=true then kvs.map (fun p=>if p.1=k then (p.1,v) else p) else kvs++[(k,v)]
theorem aA4{K:Frag}{F:Hp}{k:PyData}:∀ {es:List Ent} {kvs:List (PyData×PyData)},es.map (·.1)=kvs.map (·.1)->DatVs K F (es.map (·.2.2)) (kvs.map (·.2))->
  (atE es k=none/\jX kvs k=none)\/∃ v d,atE es k=some v/\jX kvs k=some d/\DatV K F v d
 | [],[],_,_=>.inl ⟨rfl,rfl⟩
 | [],_::_,h,_=>by cases h
 | _::_,[],h,_=>by cases h
 | e::es,p::kvs,h,r=>by
  rw[List.map_cons,List.map_cons] at h r
  injection h with h1 h2
  obtain ⟨v,t,e1,r1,r2⟩:=r.cons_of
  rw[List.cons.injEq] at e1
  obtain ⟨rfl,rfl⟩:=e1
  have ih:=aA4 (k:=k) h2 r2
  unfold atE jX at ih ⊢
  rw[List.find?_cons,List.find?_cons,h1]
  by_cases q:p.1=k
  · rw [decide_eq_true q]; exact .inr ⟨_, _, rfl, rfl, r1⟩
  · rw [decide_eq_false q]; exact ih
theorem MapRel.get{K:Frag}{F:Hp}{es:List Ent}{kvs:List (PyData×PyData)}(m:MapRel K F es kvs)(k:PyData):(atE es k=none/\jX kvs k=none)\/∃ v d,atE es k=some v/\jX kvs k=some d/\DatV K F v d:=aA4 m.k1 m.vs
theorem MapRel.has{K:Frag}{F:Hp}{es:List Ent}{kvs:List (PyData×PyData)}(m:MapRel K F es kvs)(k:PyData):(atE es k).isSome=eO kvs k:=by
 unfold eO
 rcases m.get k with ⟨a,b⟩|⟨v,d,a,b,_⟩<;>rw[a,b]<;>rfl
theorem y3{kvs:List (PyData×PyData)}{k:PyData}:eO kvs k=true↔k∈kvs.map (·.1):=by
 unfold eO jX
 rw[Option.isSome_map]
 induction kvs with
 | nil=>simp
 | cons p t ih=>
  rw[List.find?_cons]
  by_cases q:p.1=k
  ·rw[decide_eq_true q];simp[q]
  ·rw[decide_eq_false q,ih,List.map_cons]
   exact ⟨fun z=>List.mem_cons_of_mem _ z,fun z=>(List.mem_cons.mp z).resolve_left (fun w=>q w.symm)⟩
theorem aEK{kvs:List (PyData×PyData)}{k v:PyData}:(putM kvs k v).map (·.1)=if eO kvs k=true then kvs.map (·.1) else kvs.map (·.1)++[k]:=by
 unfold putM
 cases h:eO kvs k with
 | true=>
  rw[if_pos rfl,if_pos rfl,List.map_map]
  refine List.map_congr_left fun p _=>?_
  show (if p.1=k then (p.1,v) else p).1=p.1
  split<;>rfl
 | false=>rw[if_neg (by decide),if_neg (by decide),List.map_append];rfl
theorem aA5{K:Frag}{F:Hp}{k d:PyData}{v:V}(r:DatV K F v d):∀ {es:List Ent} {kvs:List (PyData×PyData)},es.map (·.1)=kvs.map (·.1)->DatVs K F (es.map (·.2.1)) (kvs.map (·.1))->DatVs K F (es.map (·.2.2)) (kvs.map (·.2))->
  (es.map fun e=>if e.1=k then (e.1,e.2.1,v) else e).map (·.1)=(kvs.map fun p=>if p.1=k then (p.1,d) else p).map (·.1) /\
  DatVs K F ((es.map fun e=>if e.1=k then (e.1,e.2.1,v) else e).map (·.2.1)) ((kvs.map fun p=>if p.1=k then (p.1,d) else p).map (·.1)) /\
  DatVs K F ((es.map fun e=>if e.1=k then (e.1,e.2.1,v) else e).map (·.2.2)) ((kvs.map fun p=>if p.1=k then (p.1,d) else p).map (·.2))
 | [],[],_,_,_=>⟨rfl,.nil,.nil⟩
 | [],_::_,h,_,_=>by cases h
 | _::_,[],h,_,_=>by cases h
 | e::es,p::kvs,h,rk,rv=>by
  rw[List.map_cons,List.map_cons] at h rk rv
  injection h with h1 h2
  obtain ⟨_,_,e1,r1,r2⟩:=rk.cons_of
  rw[List.cons.injEq] at e1
  obtain ⟨rfl,rfl⟩:=e1
  obtain ⟨_,_,e1,q1,q2⟩:=rv.cons_of
  rw[List.cons.injEq] at e1
  obtain ⟨rfl,rfl⟩:=e1
  obtain ⟨a1,a2,a3⟩:=aA5 r h2 r2 q2
  simp only[List.map_cons]
  rw[h1,a1]
  by_cases q:p.1=k
  · rw [if_pos q, if_pos q]; exact ⟨rfl, .cons r1 a2, .cons r a3⟩
  · rw [if_neg q, if_neg q]; exact ⟨by rw [h1], .cons r1 a2, .cons q1 a3⟩
theorem MapRel.put{K:Frag}{F:Hp}{es:List Ent}{kvs:List (PyData×PyData)}{k d:PyData}{kv v:V}(m:MapRel K F es kvs)(rk:DatV K F kv k)(r:DatV K F v d):MapRel K F (nN es k kv v) (putM kvs k d):=by
 have hh:=m.has k
 have nd:((putM kvs k d).map (·.1)).Nodup:=by
  rw[aEK]
  cases h:eO kvs k with
  | true=>rw[if_pos rfl];exact m.nd
  | false=>
   rw[if_neg (by decide),List.nodup_append]
   refine ⟨m.nd,by simp,fun a ha b hb z=>?_⟩
   rw[List.mem_singleton] at hb
   subst hb z
   rw[y3.mpr ha] at h
   cases h
 unfold nN
 rw[hh]
 unfold putM at nd ⊢
 cases h:eO kvs k with
 | true=>
  rw[h,if_pos rfl] at nd
  rw[if_pos rfl,if_pos rfl]
  obtain ⟨a1,a2,a3⟩:=aA5 (k:=k) r m.k1 m.k2 m.vs
  exact ⟨a1,a2,a3,nd⟩
 | false=>
  rw[h,if_neg (by decide)] at nd
  rw[if_neg (by decide),if_neg (by decide)]
  refine ⟨by rw[List.map_append,List.map_append,m.k1];rfl,?_,?_,nd⟩
  ·rw[List.map_append,List.map_append];exact m.k2.append (.cons rk .nil)
  ·rw[List.map_append,List.map_append];exact m.vs.append (.cons r .nil)
theorem nF{K:Frag}{F:Hp}:∀ {es:List Ent} {kvs:List (PyData×PyData)},es.map (·.1)=kvs.map (·.1)->DatVs K F (es.map (·.2.1)) (kvs.map (·.1))->∀ e∈es,DatV K F e.2.1 e.1
 | [],_,_,_,e,he=>by cases he
 | _::_,[],h,_,_,_=>by cases h
 | e0::es,p::kvs,h,rk,e,he=>by
  rw[List.map_cons,List.map_cons] at h rk
  injection h with h1 h2
  obtain ⟨_,_,e1,r1,r2⟩:=rk.cons_of
  rw[List.cons.injEq] at e1
  obtain ⟨rfl,rfl⟩:=e1
  rcases List.mem_cons.mp he with z|z
  · subst z; rw [h1]; exact r1
  · exact nF h2 r2 e z
section
variable{X:Cx}{c:Ct}{E:XK}{e a b:Expr}{st:Stmt}{pos:Pos}
theorem aHX{ρ:Sg}{σ:L2.St}{F H:Hp}{i:Nat}{kvs:List (PyData×PyData)}{k:PyData}{kv:V}(hK:X.K=c.K)(hW:X.w=c.w)(ab:Ab c ρ σ F H)(hi:ρ[i]? = some (some (.m kvs)))(hk:DatV c.K F kv k)(hs:dR k (kvs.map (·.1))=true) :
  ∃ p es,σ[i]? = some (some (.ref p))/\DicAt X H p es k kv/\MapRel c.K F es kvs:=by
 obtain ⟨v,hp,p,es,rfl,⟨ep,h2⟩,h3,h4,h5⟩:=ab.slot i _ hi
 refine ⟨p,es,hp,⟨⟨ep,by rw[hW];exact h2⟩,fun e he=>by rw[hK];exact (nF h5.k1 h5.k2 e he).same ab.fh,by rw[h5.k1];exact h5.nd,by rw[hK];exact hk.same ab.fh,by rw[h5.k1];exact hs⟩,h5⟩
theorem aLO{ρ:Sg}{σ:L2.St}{F H:Hp}{i:Nat}{kvs:List (PyData×PyData)}{k:PyData}{kv:V}(hK:X.K=c.K)(hW:X.w=c.g.w)(ab:Ab c ρ σ F H)(hi:ρ[i]? = some (some (.f kvs)))(hk:DatV c.K F kv k)(hs:dR k (kvs.map (·.1))=true) :
  ∃ p es,σ[i]? = some (some (.ref p))/\DicAt X H p es k kv/\MapRel c.K F es kvs:=by
 obtain ⟨v,hp,p,es,rfl,⟨ep,h2⟩,h5⟩:=ab.slot i _ hi
 refine ⟨p,es,hp,⟨⟨ep,by rw[hW];exact ab.fh _ _ h2⟩,fun e he=>by rw[hK];exact (nF h5.k1 h5.k2 e he).same ab.fh,by rw[h5.k1];exact h5.nd,by rw[hK];exact hk.same ab.fh,by rw[h5.k1];exact hs⟩,h5⟩
def aHY(w:World):TE:=fun _ H Q=>∀ p,H p=none->Q (.ref p) (upd H p (dJ w p [] 0))
theorem q9:PE X (.Dict [] [] pos) (aHY X.w):=fun pins s σ H Q I h=>
 wpAny_Dict_empty ⟨.ref s.heap.objs.size,_,I.laid (a:=s.heap.objs.size) (o:=dJ X.w s.heap.objs.size [] 0) (t':=s.toks) (fun _ _ q=>Heap.get?_push_of_some _ q) (Nat.le_refl _)
  (lU (beq_eq_false_iff_ne.mpr (Ne.symm (Nat.ne_of_lt I.big))) ⟨_,#[],Heap.get?_push_size _ rfl,⟨rfl,rfl,rfl⟩,rfl,.nil⟩),rfl,h _ (I.hok.fresh (Nat.le_refl _))⟩
noncomputable def jY(i:Nat):Sg->R Fw:=fun ρ=>.ok (.nx (ρ.set i (some (.m []))))
theorem rA{i:Nat}{w:World}(hW:w=c.w)(h:PS X st (l7 (aHY w) (jO i))):PSf X c E st (jY i):=PS.imp h fun D σ H ⟨ρ,F,ab,k⟩=>fun p hp=>by
 subst hW
 exact Rk.ok k _ F _ (cU F) (ab.setM (Ext.own ab.fh hp) hp aT (bV ab.fh hp) ⟨rfl,.nil,.nil,List.nodup_nil⟩)
noncomputable def gM(neg:Bool)(i:Nat)(f:Sg->R PyData):Sg->R PyData:=fun ρ=>(f ρ).bind fun k=>match ρ[i]? with
 | some (some (.m kvs))=>if dR k (kvs.map (·.1))=true then .ok (.bool (if neg=true then !eO kvs k else eO kvs k)) else .bad
 | some (some (.f kvs))=>if dR k (kvs.map (·.1))=true then .ok (.bool (if neg=true then !eO kvs k else eO kvs k)) else .bad
 | _=>.bad
def aCU(X:Cx)(neg:Bool):R2:=fun y x H Q=>∃ p es k,x=.ref p/\DicAt X H p es k y/\Q (.bl (if neg=true then !(atE es k).isSome else (atE es k).isSome)) H
theorem vK(hu:X.A.units+64 < cLine):OpR X (compareOp .In) (aCU X false):=by
 intro pins s σ H y x v u Q I ry rx h
 obtain ⟨p,es,k,rfl,D,q⟩:=h
 cases (show u=Value.ref p from rx)
 exact aLI hu D I ry fun s' I'=>⟨.bl _,H,I',rfl,q⟩
theorem o6(hu:X.A.units+64 < cLine):OpR X (compareOp .NotIn) (aCU X true):=by
 intro pins s σ H y x v u Q I ry rx h
 obtain ⟨p,es,k,rfl,D,q⟩:=h
 cases (show u=Value.ref p from rx)
 exact aI2 hu D I ry fun s' I'=>⟨.bl _,H,I',rfl,q⟩
theorem aGR{i:Nat}{neg:Bool}{f:Sg->R PyData}(hK:X.K=c.K)(hW:X.w=c.w)(hg:c.w=c.g.w){σ:L2.St}{H:Hp}{Q:VK}(h:tV (cE c) c E (gM neg i f) σ H Q):tOp (aCU X neg) (tV (cE c) c E f) (fM i) σ H Q:=by
 obtain ⟨ρ,F,ab,k⟩:=h
 refine ⟨ρ,F,ab,(Rk.bind k).imp fun d _ q v F1 H1 s1 r1=>?_⟩
 split at q
 ·rename_i kvs hi
  split at q
  ·rename_i hs
   obtain ⟨p,es,hp,D,m⟩:=aHX hK hW (ab.ext s1) hi r1 hs
   refine ⟨_,hp,p,es,d,rfl,D,?_⟩
   rw[m.has]
   exact Rk.ok q _ F1 H1 s1 (.bl _)
  ·exact q.elim
 ·rename_i kvs hi
  split at q
  ·rename_i hs
   obtain ⟨p,es,hp,D,m⟩:=aLO hK (hW.trans hg) (ab.ext s1) hi r1 hs
   refine ⟨_,hp,p,es,d,rfl,D,?_⟩
   rw[m.has]
   exact Rk.ok q _ F1 H1 s1 (.bl _)
  ·exact q.elim
 ·exact q.elim
theorem mG{i:Nat}{neg:Bool}{f:Sg->R PyData}(hK:X.K=c.K)(hW:X.w=c.w)(h:PT X e (aB3 (tOp (aCU X neg) (tV (cE c) c E f) (fM i))))(hg:c.w=c.g.w:=by rfl):PTf X c E e (e1 asB (gM neg i f)):=PT.imp h fun σ H Q q=>aGR hK hW hg (qZ q)
noncomputable def aNR(i:Nat)(f:Sg->R PyData):Sg->R PyData:=fun ρ=>match ρ[i]? with
 | some (some (.m kvs))=>(f ρ).bind fun k=>if dR k (kvs.map (·.1))=true then match jX kvs k with
  | some v=>.ok v
  | none=>.bad else .bad
 | some (some (.f kvs))=>(f ρ).bind fun k=>if dR k (kvs.map (·.1))=true then match jX kvs k with
  | some v=>.ok v
  | none=>.bad else .bad
 | _=>.bad
noncomputable def fZ(i:Nat)(f g:Sg->R PyData):Sg->R Fw:=fun ρ=>(g ρ).bind fun v=>match ρ[i]? with
 | some (some (.m kvs))=>(f ρ).bind fun k=>if dR k (kvs.map (·.1))=true/\kvs.length<=16777216 then .ok (.nx (ρ.set i (some (.m (putM kvs k v))))) else .bad
 | _=>.bad
def aHZ(X:Cx):aBY:=fun o i v H Q=>∃ p es k,o=.ref p/\DicAt X H p es k i/\es.length<=sizeLine/\∀ ep,Q (upd H p (dJ X.w p (nN es k i v) ep))
theorem kI(hu:X.A.units+64 < cLine):aKM X (aHZ X):=by
 intro pins s σ H o i v ov iv u Q I ro ri rv h
 obtain ⟨p,es,k,rfl,D,hz,q⟩:=h
 cases (show ov=Value.ref p from ro)
 exact aI3 hu D I ri rv hz fun ep s' I'=>⟨_,I',q ep⟩
theorem lV{i:Nat}{f g:Sg->R PyData}(hK:X.K=c.K)(hW:X.w=c.w)(h:PS X st (l7 (tV (cE c) c E g) (aKN (fM i) (tV (cE c) c E f) (aHZ X)))):PSf X c E st (fZ i f g):=PS.imp h fun D σ H ⟨ρ,F,ab,k⟩=>by
 refine ⟨ρ,F,ab,(Rk.bind k).imp fun x _ q v F1 H1 s1 r1=>?_⟩
 split at q
 ·rename_i kvs hi
  have ab1:=ab.ext s1
  obtain ⟨_,hp,p,es,rfl,_⟩:=ab1.slot i _ hi
  refine ⟨_,hp,ρ,F1,ab1,((Rk.bind q).ext s1).imp fun d _ q u F2 H2 s2 r2=>?_⟩
  have ab2:=ab1.ext s2
  split at q
  ·rename_i hs
   obtain ⟨p',es',hp',D',m⟩:=aHX hK hW ab2 hi r2 hs.1
   rw[hp] at hp'
   cases hp'
   refine ⟨p,es',d,rfl,D',?_,?_⟩
   ·have:es'.length=kvs.length:=by have:=congrArg List.length m.k1;simpa using this
    rw[this,dI];exact hs.2
   ·intro ep
    rw[hW]
    exact Rk.ok q σ F2 _ (s1.trans s2).ff (ab2.putM hi hp (m.put r2 (DatV.same s2.ff r1)))
  ·exact q.elim
 ·exact q.elim
end
end Fl
namespace Fl
open PySem L2 PyProof.Rows
section
variable{X:Cx}{c:Ct}{E:XK}{e a b:Expr}{st:Stmt}{pos p2:Pos}
def sN(fs:PyData->Sg->Option Sg)(f:Sg->R PyData):Sg->R Fw:=fun ρ=>(f ρ).bind fun x=>(yY (fs x ρ)).bind fun ρ'=>.ok (.nx ρ')
theorem aEL{g:TG}{fs:PyData->Sg->Option Sg}{is:List Nat}{f:Sg->R PyData}(hg:Tg c g fs is)(h:PS X st (l7 (tV (cE c) c E f) g)):PSf X c E st (sN fs f):=PS.imp h fun D σ H zz0=>by
 obtain ⟨ρ,F,ab,k⟩:=zz0
 refine ⟨ρ,F,ab,(Rk.bind k).imp fun x _ q v F1 H1 s1 r1=>?_⟩
 cases h1:fs x ρ with
 | none=>rw[h1] at q;exact q.elim
 | some ρ'=>
  rw[h1] at q
  exact hg v x ρ ρ' σ F1 H1 _ (ab.ext s1) r1 h1 fun σ' _ _ ab'=>Rk.ok q σ' F1 H1 s1.ff ab'
noncomputable def aLP:PyData->R PyData
 | .str z=>if z.length<=16777216 then .ok (.str ⟨z.cps.toList.reverse.toArray⟩) else .bad
 | _=>.bad
def aO2(f:Sg->R PyData)(g:Sg->R (Option Int)):Sg->R PyData:=fun ρ=>(f ρ).bind fun x=>(g ρ).bind fun o=>if o=some (-1) then aLP x else .bad
end
end Fl
namespace Fl
open PySem L2 PyProof.Rows
theorem aLQ{P:Program}{w:World}{K:Frag}{mg:Str->Option Value}{base:Heap}{T:Hp}{x:Str}{st:Stmt}{N ps:List Str}{k:Nat}{f:Addr}{fd:FuncData}{fb:Sg->R Fw}(FL:Fun K x x st f fd)(S:FnScope N ps (aO st))
  (hbody:∀ (cdv:Value) (A:Around) (outer:List Env) (s:Shared) (H F:Hp) (E:XK),Room k (A.deeper (envOfC x (aO st) s.heap.objs.size f cdv))->
   nO ((iO (CXe P w) P w K mg base N x (aO st) f cdv A outer s H E).fly E) ⟨K,mg,w,F,H,gOf P w K mg base T,(envOfC x (aO st) s.heap.objs.size f cdv).cells,fun _=>none⟩ E (dH st) fb):FnOk P w K mg base (CXe P w) (k+1) f fd ps (spF (gOf P w K mg base T) K mg ps.length (fnF N.length fb)):=by
 refine FL.okX S (fun vs H Q E h=>?_) (fun cdv A outer s H vs Q E hr h=>?_)
 ·obtain ⟨F,as,_,_,h2,h3,_⟩:=h
  rw[h2.len,h3]
 ·obtain ⟨F,as,h0,h1,h2,h3,h4⟩:=h
  exact ⟨_,hbody cdv A outer s H F E hr,aA2 h0 h1 h2 h4⟩
def xL(K:Frag)(T:Hp):Sp:=fun vs H Q _=>∃ (a:Addr) (ns:List Int),vs=[.ref a]/\ns.length<=63/\aM T H/\SqL K H a (ns.map V.int)/\∀ H',Q (.bl true) H'
theorem y4{K:Frag}{H:Hp}:∀ (ns:List Int),DatVs K H (ns.map V.int) (ns.map PyData.int)
 | []=>.nil
 | n::t=>.cons (.int n) (y4 t)
theorem aLR{P:Program}{w:World}{K:Frag}{mg:Str->Option Value}{base:Heap}{T:Hp}{k:Nat}{f:Addr}{fd:FuncData}{x:Str}{G:List A->R A}(h:FnOk P w K mg base (CXe P w) k f fd [x] (spF (gOf P w K mg base T) K mg 1 G))
  (hl:∀ ns:List Int,ns.length<=63->G [.d (.list (ns.map .int))]=.ok (.d (.bool true))):FnOk P w K mg base (CXe P w) k f fd [x] (xL K T):=h.imp fun vs H Q E=>by
 rintro ⟨a,ns,rfl,hn,ht,hs,q⟩
 refine ⟨H,[.d (.list (ns.map .int))],ht,cU H,⟨.lst hs (y4 ns),trivial⟩,rfl,?_⟩
 rw[hl ns hn]
 intro v F' H' _ r
 obtain rfl:=DatV.bl_of r
 exact q H'
theorem aNS(P:Program)(w:World)(H:Hp)(s:Shared)(e:Value)(s':Shared)(h:CXe P w [] H s (fun _ _ _=>False) e s'):False:=by
 obtain ⟨_,_,_,_,_,_,_,_,_,_,_,q⟩:=h
 exact q
theorem aLS{l:PySem.W.OpenLaw}{k:Nat}{q:Program}{loose:List Str}{XP:(Str->Option Value)->Heap->Prop}{YP:World->Heap->Prop}{d:DefRec}{K:Params->Frag}{x:Str}
  (hn:l.most=some 63) (hdf:d.params.defaults=[]) (hr:Room k callerA)
  (hY:∀ (w:World) (h:Heap),YP w h->(K w.params).In h)
  (F:∀ (w:World) (mg:Str->Option Value) (fa:Addr) (h:Heap),(K w.params).In h->h.Ns mainGlobals mg->mg d.name=some (.ref fa)->
   ∃ fd:FuncData,(∀ (s:Shared) (u:Value),BindsTo s fd ⟨[u],[]⟩ [(x,u)]) /\
    ∀ base:Heap,(K w.params).In base->base.Ns mainGlobals mg->FnOk l.prog w (K w.params) mg base (CXe l.prog w) k fa fd [x] (xL (K w.params) fun _=>none)) :
  PySem.W.WalkO q loose XP YP l.row.toRowW d [] (fun f vs=>PySem.call f vs):=
 walk_of (K:=K) (CX:=fun w=>CXe l.prog w) (sp:=fun w=>xL (K w.params) fun _=>none) hn (by decide) hdf hr hY F (fun w H a ns hl hO hS=>⟨a,ns,rfl,hl,fun _ _ z=>(nomatch z),hS,fun _=>rfl⟩) fun w H s e s' z=>aNS _ w H s e s' z
end Fl
namespace Fl
open PySem L2 PyProof.Rows
variable{X:Cx}{c:Ct}{E:XK}{e:Expr}
noncomputable def d1(G:Int->Int):PyData->R PyData
 | .int i=>.ok (.int (G i))
 | _=>.bad
end Fl
namespace L2
open PySem PyProof.Rows
variable{X:Cx}
end L2
namespace Fl
open PySem L2 PyProof.Rows
variable{X:Cx}{c:Ct}{E:XK}{e:Expr}
end Fl
namespace Fl
open PySem L2 PyProof.Rows
variable{X:Cx}{c:Ct}{E:XK}{e:Expr}{st:Stmt}
end Fl
namespace Fl
open PySem L2 PyProof.Rows
theorem qS{H:Hp}{p:Addr}{a b:HO}:upd (upd H p a) p b=upd H p b:=by
 funext x
 by_cases q:x=p
 · subst q; rw [aT, aT]
 · rw [aH q, aH q, aH q]
section
variable{X:Cx}{pins:List (Addr×Obj)}{σ:L2.St}{H:Hp}{s:Shared}{a:Addr}{es:List Ent}{k:PyData}{kv v:V}{ku u:Value}{A:Around}{E:Value->Shared->Prop}
theorem aCV{A:Around}(hu:A.units+64 < cLine):(iX X.prog X.w).room A:=by show A.units+9 < cLine;omega
theorem aJA{Q:Unit->Shared->Prop}(hu:A.units+64 < cLine)(D:DicAt X H a es k kv)(I:Inv X pins σ H s)(rk:bF kv ku)(rv:bF v u)(hz:es.length<=sizeLine)(h:∀ ep s',Inv X pins σ (upd H a (dJ X.w a (nN es k kv v) ep)) s'->Q () s') :
  wpAny (model X.prog X.w) A (dictSet a ku u) Q E s:=by
 obtain ⟨hd,⟨b,xs,rfl,rfl,hx,hk,dd⟩|⟨kk,xs,rfl,rfl,hx,hk,dd⟩⟩:=D.cases I rk
 ·have hl:xs.length<=sizeLine:=by rw[<-Paired.length hx];exact hz
  refine wpAny_dictSet_heap (a:=b) (aCV hu) hk dd (fun h' dd' hs=>?_) hl
  obtain ⟨q',ar,ep,hq,h2,h3,h4,_,h5⟩:=dd'
  obtain ⟨ep0,hO⟩:=D.o
  refine h ep _ (qV I (by rw[hO];exact True.intro) hs ⟨q',hq⟩ (lU hd ⟨q',ar,hq,h2,h3,?_⟩))
  rw[h4]
  exact sG (aHS rv hx)
 ·have hl:xs.length<=sizeLine:=by rw[<-Paired.length hx];exact hz
  refine wpAny_dictSet_pairs hk dd (fun h' dd' hs=>?_) hl
  obtain ⟨q',ar,ep,hq,h2,h3,h4,h5,_⟩:=dd'
  obtain ⟨ep0,hO⟩:=D.o
  refine h ep _ (qV I (by rw[hO];exact True.intro) hs ⟨q',hq⟩ (lU hd ⟨q',ar,hq,h2,h3,?_⟩))
  exact sH (aHU rv hx) h5 fun en hen=>h4 en (by simpa using hen)
end
abbrev TP:=L2.St->Hp->(List (V×V)->Hp->Prop)->Prop
def aLT(p:V×V)(u:Value×Value):Prop:=bF p.1 u.1/\bF p.2 u.2
def PPr(X:Cx)(keys:List (Option Expr))(vals:List Expr)(t:TP):Prop:=∀ (pos:Pos) (pins:List (Addr×Obj)) (s:Shared) (σ:L2.St) (H:Hp) (Q:List (V×V)->Hp->Prop),Inv X pins σ H s->t σ H Q->
 wpAny (model X.prog X.w) X.A (evalPairs (pairTrees keys vals X.env pos)) (fun vs s'=>∃ ps H',Inv X pins σ H' s'/\Paired aLT ps vs/\Q ps H') X.xe s
def aNT:TP:=fun _ H Q=>Q [] H
def aLU(tk tv:TE)(t:TP):TP:=fun σ H Q=>tk σ H fun x H1=>tv σ H1 fun y H2=>t σ H2 fun ps H3=>Q ((x,y)::ps) H3
section
variable{X:Cx}{c:Ct}{E:XK}{e a b:Expr}{st:Stmt}{pos:Pos}
theorem aLV:PPr X [] [] aNT:=fun pos pins s σ H Q I h=>evalPairs_nil ⟨[],H,I,.nil,h⟩
theorem aJB{k v:Expr}{ks:List (Option Expr)}{vs:List Expr}{tk tv:TE}{t:TP}(hk:PE X k tk)(hv:PE X v tv)(hr:PPr X ks vs t):PPr X (some k::ks) (v::vs) (aLU tk tv t):=by
 intro pos pins s σ H Q I h
 rw[pairTrees.eq_1]
 refine evalPairs_cons (thn (hk pins s σ H _ I h) fun ku s1 zz0=>?_)
 obtain ⟨x,H1,I1,r1,q1⟩:=zz0
 refine wpAny_bind (thn (hv pins s1 σ H1 _ I1 q1) fun vu s2 zz0=>?_)
 obtain ⟨y,H2,I2,r2,q2⟩:=zz0
 refine wpAny_bind (wpAny_standAt (wpAny_pure ?_))
 exact thn (hr pos pins s2 σ H2 _ I2 q2) fun vs s3 ⟨ps,H3,I3,r3,q3⟩=>⟨(x,y)::ps,H3,I3,.cons ⟨r1,r2⟩ r3,q3⟩
noncomputable def g8:List (PyData×PyData)->List (PyData×PyData)->R (List (PyData×PyData))
 | acc,[]=>.ok acc
 | acc,(k,v)::t=>if dR k (acc.map (·.1))=true/\acc.length<=16777216 then g8 (putM acc k v) t else .bad
def aGS(K:Frag)(F:Hp)(p:V×V)(d:PyData×PyData):Prop:=DatV K F p.1 d.1/\DatV K F p.2 d.2
theorem aEM{pins:List (Addr×Obj)}{σ:L2.St}{p:Addr}{F:Hp}(hu:X.A.units+64 < cLine)(kvs:List (PyData×PyData)):∀ (ps:List (V×V)) (vs:List (Value×Value)) (acc res:List (PyData×PyData)) (es:List Ent) (ep:Nat) (H:Hp) (s:Shared) (Q:Shared->Prop),
  Inv X pins σ H s->aM F H->F p=none->H p=some (dJ X.w p es ep)->MapRel X.K F es acc->Paired (aGS X.K F) ps kvs->Paired aLT ps vs->g8 acc kvs=.ok res->
  (∀ es' ep' s',Inv X pins σ (upd H p (dJ X.w p es' ep')) s'->MapRel X.K F es' res->Q s')->wpAny (model X.prog X.w) X.A (storeAll p vs) (fun _ s=>Q s) X.xe s:=by
 induction kvs with
 | nil=>
  intro ps vs acc res es ep H s Q I sf hf hp m d r e q
  cases d
  cases r
  cases e
  have hs:storeAll p []=pure PUnit.unit:=by unfold storeAll;rw[List.forIn_nil]
  rw[hs]
  refine wpAny_pure (q es ep s ?_ m)
  have:upd H p (dJ X.w p es ep)=H:=by
   funext x
   by_cases z:x=p
   ·subst z;rw[aT,hp]
   ·rw[aH z]
  rw[this];exact I
 | cons kv t ih=>
  obtain ⟨k,v⟩:=kv
  intro ps vs acc res es ep H s Q I sf hf hp m d r e q
  cases d with
  | @cons x _ ps _ d ds=>
   cases r with
   | @cons _ u _ vs r rs=>
    unfold g8 at e
    split at e
    ·rename_i hs
     have D:DicAt X H p es k x.1:=⟨⟨ep,hp⟩,fun e he=>(nF m.k1 m.k2 e he).same sf,by rw[m.k1];exact m.nd,d.1.same sf,by rw[m.k1];exact hs.1⟩
     have hl:es.length<=sizeLine:=by
      have:es.length=acc.length:=by simpa using congrArg List.length m.k1
      rw[this,dI];exact hs.2
     have hst:storeAll p (u::vs)=(do dictSet p u.1 u.2;storeAll p vs):=by
      unfold storeAll
      rw[List.forIn_cons]
      simp
     rw[hst]
     refine wpAny_bind (aJA hu D I r.1 r.2 hl fun ep1 s' I'=>?_)
     have m':=m.put d.1 d.2
     have sf':aM F (upd H p (dJ X.w p (nN es k x.1 x.2) ep1)):=fun a o z=>by rw[aH (bS z hf)];exact sf a o z
     refine ih ps vs _ res _ _ _ s' Q I' sf' hf aT m' ds rs e fun es' ep' s'' I'' m''=>?_
     rw[qS] at I''
     exact q es' ep' s'' I'' m''
    ·cases e
def aH0(X:Cx)(tp:TP):TE:=fun σ H Q=>∀ p,H p=none->tp σ (upd H p (dJ X.w p [] 0)) fun ps H2=>∃ (F:Hp) (kvs res:List (PyData×PyData)),aM F H2/\F p=none/\H2 p=some (dJ X.w p [] 0)/\Paired (aGS X.K F) ps kvs/\g8 [] kvs=.ok res /\
 ∀ es' ep',MapRel X.K F es' res->Q (.ref p) (upd H2 p (dJ X.w p es' ep'))
theorem aA6{keys:List (Option Expr)}{vals:List Expr}{tp:TP}(hu:X.A.units+64 < cLine)(h:PPr X keys vals tp)(h1:(keys.all fun x=>x.isSome)=true:=by rfl)(h2:keys.length=vals.length:=by rfl)(h3:keys≠[]:=by exact fun z=>nomatch z)(h4:keys.length<=15:=by decide):PE X (.Dict keys vals pos) (aH0 X tp):=by
 intro pins s σ H Q I q
 have I1:=I.laid (a:=s.heap.objs.size) (o:=dJ X.w s.heap.objs.size [] 0) (t':=s.toks) (fun _ _ q=>Heap.get?_push_of_some {cls:=.type "dict",data:=.dict #[]} q) (Nat.le_refl _)
  (lU (beq_eq_false_iff_ne.mpr (Ne.symm (Nat.ne_of_lt I.big))) ⟨_,#[],Heap.get?_push_size _ rfl,⟨rfl,rfl,rfl⟩,rfl,.nil⟩)
 have q1:=q _ (I.hok.fresh (Nat.le_refl _))
 refine wpAny_Dict_any h1 h2 h3 h4 (thn (h pos pins _ σ _ _ I1 q1) fun vs s2 zz0=>?_)
 obtain ⟨ps,H2,I2,r,F,kvs,res,sf,hf,hp,d,e,z⟩:=zz0
 exact aEM hu kvs ps vs [] res [] 0 H2 s2 _ I2 sf hf hp ⟨rfl,.nil,.nil,List.nodup_nil⟩ d r e fun es' ep' s' I' m=>⟨.ref s.heap.objs.size,_,I',rfl,z es' ep' m⟩
def aLW(c:Ct)(E:XK)(f:Sg->R (List (PyData×PyData))):TP:=fun σ H Q=>∃ ρ F,Ab c ρ σ F H/\Rk c E F H (f ρ) fun kvs=>∀ ps F' H',Ext F H F' H'->Paired (aGS c.K F') ps kvs->Q ps H'
abbrev PPf(X:Cx)(c:Ct)(E:XK)(keys:List (Option Expr))(vals:List Expr)(f:Sg->R (List (PyData×PyData))):Prop:=PPr X keys vals (aLW c E f)
theorem PPr.imp{X:Cx}{ks:List (Option Expr)}{vs:List Expr}{t t':TP}(h:PPr X ks vs t)(i:∀ σ H Q,t' σ H Q->t σ H Q):PPr X ks vs t':=fun pos pins s σ H Q I q=>h pos pins s σ H Q I (i σ H Q q)
noncomputable def vL:Sg->R (List (PyData×PyData)):=fun _=>.ok []
def rB(f g:Sg->R PyData)(r:Sg->R (List (PyData×PyData))):Sg->R (List (PyData×PyData)):=fun ρ=>(f ρ).bind fun x=>(g ρ).bind fun y=>(r ρ).bind fun t=>.ok ((x,y)::t)
theorem aA7:PPf X c E [] [] vL:=PPr.imp aLV fun σ H Q ⟨ρ,F,ab,k⟩=>Rk.ok k [] F H (Ext.refl ab.fh) .nil
theorem y6{k v:Expr}{ks:List (Option Expr)}{vs:List Expr}{f g:Sg->R PyData}{r:Sg->R (List (PyData×PyData))}(hk:PD X c E k f)(hv:PD X c E v g)(hr:PPf X c E ks vs r):PPf X c E (some k::ks) (v::vs) (rB f g r):=PPr.imp (aJB hk hv hr) fun σ H Q zz0=>by
 obtain ⟨ρ,F,ab,k⟩:=zz0
 refine ⟨ρ,F,ab,(Rk.bind k).imp fun x _ q v F1 H1 s1 r1=>?_⟩
 refine ⟨ρ,F1,ab.ext s1,((Rk.bind q).ext s1).imp fun y _ q u F2 H2 s2 r2=>?_⟩
 refine ⟨ρ,F2,ab.ext (s1.trans s2),((Rk.bind q).ext (s1.trans s2)).imp fun t _ q ps F3 H3 s3 r3=>?_⟩
 exact Rk.ok q _ F3 H3 ((s1.trans s2).trans s3) (.cons ⟨DatV.same (s2.trans s3).ff r1,DatV.same s3.ff r2⟩ r3)
noncomputable def rC(i:Nat)(f:Sg->R (List (PyData×PyData))):Sg->R Fw:=fun ρ=>(f ρ).bind fun kvs=>(g8 [] kvs).bind fun res=>.ok (.nx (ρ.set i (some (.m res))))
theorem wI:∀ (kvs acc:List (PyData×PyData)) (x:Er),g8 acc kvs≠.ex x
 | [],acc,x,h=>by cases h
 | (k,v)::t,acc,x,h=>by
  unfold g8 at h
  split at h
  · exact wI t _ x h
  · cases h
theorem aA8{i:Nat}{f:Sg->R (List (PyData×PyData))}(hK:X.K=c.K)(hW:X.w=c.w)(h:PS X st (l7 (aH0 X (aLW c E f)) (jO i))):PSf X c E st (rC i f):=PS.imp h fun D σ H ⟨ρ,F,ab,k⟩=>fun p hp=>by
 have e1:=Ext.own (F:=F) (o:=dJ X.w p [] 0) ab.fh hp
 refine ⟨ρ,F,ab.ext e1,((Rk.bind k).ext e1).imp fun kvs _ q ps F2 H2 s2 r2=>?_⟩
 have hf:F2 p=none:=s2.stay (bV ab.fh hp) aT (fun _ z=>yO z)
 have h2:H2 p=some (dJ X.w p [] 0):=s2.hh _ _ aT
 cases e:g8 [] kvs with
 | bad=>rw[e] at q;exact q.elim
 | ex x=>exact absurd e (wI _ _ _)
 | ok res=>
  rw[e] at q
  refine ⟨F2,kvs,res,s2.fh,hf,h2,by rw[hK];exact r2,e,fun es' ep' m=>?_⟩
  have e3:Ext F H F2 (upd H2 p (dJ X.w p es' ep')):=by
   refine ⟨fun a o z=>?_,s2.ff,fun a o z=>?_,fun a z n=>?_⟩
   ·have ne:a≠p:=bS z hp
    rw[aH ne]
    exact s2.hh a o (by rw[aH ne];exact z)
   ·rw[aH (bS z hf)];exact s2.fh a o z
   ·have:=s2.nw a z n
    by_cases w:a=p
    · subst w; exact .inl hp
    · unfold oY at this; rw [aH w] at this; exact this
  rw[hW] at e3 ⊢
  rw[hK] at m
  exact Rk.ok q _ F2 _ s2.ff (ab.setM e3 hp aT hf m)
end
end Fl
namespace Fl
open PySem L2 PyProof.Rows
section
variable{X:Cx}{c:Ct}{E:XK}{e a b:Expr}{st:Stmt}{pos:Pos}
noncomputable def aLX(i:Nat)(f g:Sg->R PyData):Sg->R PyData:=fun ρ=>match ρ[i]? with
 | some (some (.m kvs))=>(f ρ).bind fun k=>(g ρ).bind fun y=>if dR k (kvs.map (·.1))=true then .ok ((jX kvs k).getD y) else .bad
 | _=>.bad
end
end Fl
namespace L2
open PySem PySem.Spec PyProof.Rows
def y7(X:Cx)(σ0:St)(E:XK)(ev:Value)(s':Shared):Prop:=∃ e C od H',ev=.ref e/\Inv X [] σ0 H' s'/\FlyAt X H' s'.heap e C od false/\E (.ref C) (some e) H'
abbrev Cx.flyS(X:Cx)(σ0:St)(E:XK):Cx:=X.wish (y7 X σ0 E)
section
variable{X:Cx}
theorem aNU{E:XK}{σ:St}{pins:List (Addr×Obj)}{H:Hp}{s:Shared}{ev:Value}{s':Shared}(I:Inv (X.flyS σ E) pins σ H s)(h:CXe X.prog X.w X.stack H s E ev s'):y7 X σ E ev s':=by
 obtain ⟨e,C,od,H',rfl,os,bare,un,hok,he,⟨vs,T,q1,q2,q3⟩,q⟩:=h
 have I0:Inv X pins σ H s:=I.unwish
 have I1:Inv X [] σ H s:=I0.pins_of fun p hp=>absurd hp (by simp)
 have I2:Inv X [] σ H' s':=I1.call' os un hok bare (fun b hb=>absurd hb (by simp))
 refine ⟨e,C,od,H',rfl,I2,⟨he,vs,T,q1,q2,fun t e1=>?_,fun z=>nomatch z⟩,q⟩
 obtain ⟨t1,t2⟩:=q3 t e1
 refine ⟨t1,Nat.le_trans I0.sz t2,fun p hp z=>?_⟩
 have:=Heap.lt_size (I0.pin p (List.mem_append_left _ hp)).1
 rw[z] at this
 exact absurd (Nat.lt_of_lt_of_le this t2) (Nat.lt_irrefl _)
theorem aJC{CX:CXT}{k:Nat}{f:Addr}{fd:FuncData}{ps:List Str}{sp:Sp}{E:XK}{pins:List (Addr×Obj)}{σ:St}{H:Hp}{s:Shared}{Q:VK}{us:List Value}{vs:List V}{W:Value->Shared->Prop}(F:FnOk X.prog X.w X.K X.mg X.base CX k f fd ps sp)(hr:Room k X.A)(hb:iC X.K fd ps [])
  (hx:∀ e s',CX X.stack H s E e s'->W e s') (I:Inv X pins σ H s) (r:bB vs us) (h:sp (vs++[]) H Q E):wpAny (model X.prog X.w) X.A (call (.ref f) us) (EP X pins σ Q) W s:=by
 have r2:bB (vs++[]) (us++[]):=r.append .nil
 have hl:(us++[]).length=ps.length:=by rw[<-r2.length];exact F.len _ _ _ _ h
 refine wpAny_call (codeAny_mono (F.run X.A X.stack s H ⟨us,[]⟩ (us++[]) (vs++[]) Q E hr I.env0 (hb s us I.kIn hl) r2 h) fun r s' hq=>?_)
 cases r with
 | error e=>exact hx e s' hq
 | ok fl=>
  cases fl with
  | ret u=>exact I.after hq
  | next=>exact False.elim hq
  | brk=>exact False.elim hq
  | cont=>exact False.elim hq
def PCl(X:Cx)(σ:St)(E:XK)(e:Expr)(t:TE):Prop:=∀ (pins:List (Addr×Obj)) (s:Shared) (H:Hp) (Q:VK),Inv (X.flyS σ E) pins σ H s->t σ H Q->wpAny (model X.prog X.w) X.A (eval e X.env) (EP (X.flyS σ E) pins σ Q) (y7 X σ E) s
theorem aLY{k:Nat}{x:Str}{ps:List Str}{sp:Sp}{E:XK}{σ:St}{e:Expr}{es:List Expr}{t:TA}{p pos:Pos}(C:Calls X.prog X.w X.K X.mg X.base (CXe X.prog X.w) k x ps sp)(hr:Room k X.A)(hg:Gl X x)(ha:PA (X.flyS σ E) (e::es) t)(hdb:(x == ("__debug__":Str))=false:=by decide)
  (he:starEach (e::es) X.env=(false,eval e X.env)::starEach es X.env:=by rfl) (hpl:(backTo pos (starEach es X.env)).any (·.1)=false:=by rfl):PCl X σ E (.Call (.Name x p) (e::es) [] pos) (mY sp [] E t):=by
 obtain ⟨f,fd,F,b,m,kp⟩:=C
 intro pins s H Q I h
 refine wpAny_Call_Name_kw (lR (X:=X.flyS σ E) I hg m ?_ hdb)
 refine PySem.W.callWith_K (h₀:=X.base) I.ok.mod.kin kp (thn (ha pos pins s σ H _ I h) fun us s1 ⟨vs,H1,I1,r,q⟩=>⟨I1.kIn,?_⟩) he hpl
 exact aJC (X:=X.flyS σ E) F hr b (fun e s' z=>aNU I1 z) I1 r q
theorem aNV{i:Nat}{n x:Str}{Wc:Addr}{bmW:List Value}{body suite:List Stmt}{b0:Stmt}{np hpos pos:Pos}(hO:qT X)(hN:X.N.Nodup)(hi:X.N[i]? = some n)(hk:X.env.scope.names.lookup n=some .local)
  (hg:Gl X x) (hm:X.mg x=some (.ref Wc)) (hw:SX.ExcAny X.K Wc bmW) (hdb:(x == ("__debug__":Str))=false) {pins:List (Addr×Obj)} {s:Shared} {σ:St} {H:Hp} {D:iP} {E:XK} (I:Inv X pins σ H s)
  (hb:wpAny (model X.prog X.w) X.A (execs body X.env) (fun f s1=>SP X pins D f s1) (y7 (X.pnw (X.pn++pins)) σ E) s)
  (hh:∀ (C e:Addr) (H':Hp),(∃ od,H' e=some (ExO e C od))->E (.ref C) (some e) H'->∃ bm,SX.ExcAny X.K C bm/\(Value.ref C::bm).contains (.ref Wc)=true /\
   ∃ ts,PSs (X.inH e) (b0::suite) ts/\ts {nx:=fun σ2 H2=>D.nx (σ2.set i none) H2,rt:=D.rt,bk:=fun σ2 H2=>D.bk (σ2.set i none) H2,ct:=fun σ2 H2=>D.ct (σ2.set i none) H2} (σ.set i (some (.ref e))) H') :
  wpAny (model X.prog X.w) X.A (exec (.Try body [.ExceptHandler (some (.Name x np)) (some n) (b0::suite) hpos] [] [] pos) X.env) (SP X pins D) X.xe s:=by
 refine wpAny_Try_except (wpAny_mono hb (fun f s1 q'=>?_) fun ev s1 q=>?_)
 ·cases f with
  | next=>exact wpAny_execs_nil q'
  | brk=>exact q'
  | cont=>exact q'
  | ret u=>exact q'
 ·obtain ⟨e,C,od,H1,rfl,I2,f2,q⟩:=q
  have hO':qT (X.pnw (X.pn++pins)):=hO
  refine sB (X:=X.pnw (X.pn++pins)) hO' I2 f2 fun s3 I3 f3=>qU (X:=X.pnw (X.pn++pins)) I3 f3 fun s4 I4 f4=>?_
  have I4':Inv X pins σ H1 s4:=I4.ofPn
  obtain ⟨bm,cA,hcon,ts,pts,qts⟩:=hh C e H1 ⟨od,f4.tr⟩ q
  refine wpAny_handleBy_cons (codeAny_handlers_test ?_) (by intro z;cases z)
  have IH:Inv (X.inH e) pins σ H1 s4:=I4'.inH e
  refine lR (X:=X.inH e) IH hg hm ?_ hdb
  obtain ⟨vs,hx⟩:=pS I4'.hok f4.tr
  refine SX.aAA I4'.kIn cA hw hx rfl ?_
  rw[hcon]
  refine codeAny_handlers_suite_as ?_
  refine qU (X:=X.pnw (X.pn++pins)) I4 f4 fun s5 I5 f5=>?_
  have I5':Inv X pins σ H1 s5:=I5.ofPn
  refine l6 (X:=X.inH e) (v:=.ref e) (I5'.inH e) hN hi (.inl hk) rfl (fun s6 I6=>?_) (.inr hk)
  refine wpAny_mono (pts pins s6 _ H1 _ I6 qts) (fun f s7 q7=>?_) fun _ _ z=>z.elim
  show wpAny _ _ (do bindName X.env n .none;unbindBehindTheSuite X.env n hpos) _ _ s7
  cases f with
  | next=>
   obtain ⟨σ7,H7,I7,q7⟩:=q7
   exact m4 (I7.ofH I.ok) hN hi hk fun s8 I8=>⟨_,_,I8,q7⟩
  | brk=>
   obtain ⟨σ7,H7,I7,q7⟩:=q7
   exact m4 (I7.ofH I.ok) hN hi hk fun s8 I8=>⟨_,_,I8,q7⟩
  | cont=>
   obtain ⟨σ7,H7,I7,q7⟩:=q7
   exact m4 (I7.ofH I.ok) hN hi hk fun s8 I8=>⟨_,_,I8,q7⟩
  | ret u=>
   obtain ⟨v,σ7,H7,I7,r7,q7⟩:=q7
   exact m4 (I7.ofH I.ok) hN hi hk fun s8 I8=>⟨v,_,_,I8,r7,q7⟩
theorem aGT{e:Expr}{t:TE}{E:XK}{σ:St}{pos pos':Pos}{j:Nat}{y:Str}{pins:List (Addr×Obj)}{s:Shared}{H:Hp}{D:iP}(hc:PCl (X.pnw (X.pn++pins)) σ E e t)(hN:X.N.Nodup)(hj:X.N[j]? = some y)(hx:Loc X.env.scope y)(I:Inv X pins σ H s)(h:t σ H fun v H1=>D.nx (σ.set j (some v)) H1)(hs:swapsWith e (some (.Name y pos')) pos.line X.env=pure false:=by rfl)(hf:X.fn y=true\/X.env.scope.names.lookup y=some .local:=by first|exact .inl rfl|exact .inr rfl) :
  wpAny (model X.prog X.w) X.A (execs [.Assign [.Name y pos'] e pos] X.env) (fun f s1=>SP X pins D f s1) (y7 (X.pnw (X.pn++pins)) σ E) s:=by
 have I1:=I.toPn
 have I1':Inv ((X.pnw (X.pn++pins)).flyS σ E) [] σ H s:=I1.wish _
 refine wpAny_execs_cons (thn (Q:=fun f s1=>SP ((X.pnw (X.pn++pins)).flyS σ E) [] D f s1) (wpAny_Assign_Name (thn (hc [] s H _ I1' h) fun v s1 ⟨x,H1,I1,r1,q1⟩=>l6 (X:=(X.pnw (X.pn++pins)).flyS σ E) I1 hN hj hx r1 (fun s2 I2=>⟨_,H1,I2,q1⟩) hf) hs) fun f s1 q=>?_)
 have q':=SP.ofPn q
 cases f with
 | next=>exact wpAny_execs_nil q'
 | ret v=>exact q'
 | brk=>exact q'
 | cont=>exact q'
end
end L2
namespace Fl
open PySem L2 PyProof.Rows
theorem Ab.off'{c:Ct}{ρ:Sg}{σ:L2.St}{F H:Hp}(b:Ab c ρ σ F H)(i:Nat):Ab c (ρ.set i none) (σ.set i none) F H where
 len:=by rw[List.length_set,List.length_set];exact b.len
 fh:=b.fh
 slot:=fun j a h=>by
  rcases get_set h with ⟨e,q,hl⟩|⟨ne,q⟩
  ·cases q
  ·obtain ⟨v,h1,h2⟩:=b.slot j a q
   exact ⟨v,by rw[List.getElem?_set_ne ne];exact h1,h2⟩
 apart:=fun j k a a' hne h1 h2 o1 o2=>by
  rcases get_set h1 with ⟨e,q,hl⟩|⟨ne,q⟩
  ·cases q
  ·rcases get_set h2 with ⟨e',q',hl'⟩|⟨ne',q'⟩
   ·cases q'
   ·rw[List.getElem?_set_ne ne,List.getElem?_set_ne ne']
    exact b.apart j k a a' hne q q' o1 o2
 f0:=b.f0
 h0:=b.h0
 n0:=b.n0
 t0:=b.t0
noncomputable def aGU(i:Nat):Fw->Fw
 | .nx ρ=>.nx (ρ.set i none)
 | .bk ρ=>.bk (ρ.set i none)
 | .ct ρ=>.ct (ρ.set i none)
 | .rt a=>.rt a
def aA9(K:Frag)(mg:Str->Option Value)(Wc:Addr)(cl:List Str):Prop:=∀ nm∈cl,∃ C bm,mg nm=some (.ref C)/\SX.ExcAny K C bm/\(Value.ref C::bm).contains (.ref Wc)=true
section
variable{X:Cx}{c:Ct}{E:XK}
end
end Fl
namespace Fl
open PySem L2 PyProof.Rows
def dLR:PyData->R (List PyData)
 | .int n=>if 0<=n/\n<=1000000 then .ok ((List.range n.toNat).map fun i:Nat=>.int (i:Int)) else .bad
 | _=>.bad
section
variable{X:Cx}{c:Ct}{E:XK}{e:Expr}
theorem tY{K:Frag}{F:Hp}:∀ (xs:List Nat),DatVs K F (xs.map fun i:Nat=>V.int (i:Int)) (xs.map fun i:Nat=>PyData.int (i:Int))
 | []=>.nil
 | x::xs=>.cons (.int _) (tY xs)
theorem aGV{f:Sg->R PyData}(h:PE X e (tCB (fun xs H Q=>∃ (p:Addr) (n:Nat),xs=[.ref p]/\H p=some (.rng 0 n)/\n<=1000000/\∀ l,H l=none->Q (.ref l) (upd H l (.lst ((List.range n).map fun i:Nat=>V.int (i:Int)))))
  (cT (tCB (fun xs H Q=>∃ n:Nat,xs=[.int n]/\n<=1000000/\∀ p,H p=none->Q (.ref p) (upd H p (.rng 0 n))) (cT (tV (bA c) c E f) eR)) eR))):PN X c E e (e1 dLR f):=PE.imp h fun σ H Q ⟨ρ,F,ab,k⟩=>by
 refine ⟨ρ,F,ab,(Rk.bind k).imp fun d hd q v F1 H1 s1 r1=>?_⟩
 clear hd
 unfold dLR at q
 split at q
 ·rename_i n
  split at q
  ·rename_i hn
   obtain rfl:=aX.int_of r1
   refine ⟨n.toNat,by rw[show ((n.toNat:Nat):Int)=n by omega],by omega,fun p hp=>?_⟩
   refine ⟨p,n.toNat,rfl,aT,by omega,fun l hl=>?_⟩
   have e1:Ext F1 H1 F1 (upd H1 p (.rng 0 (n.toNat:Int))):=Ext.own s1.fh hp
   have e2:Ext F1 _ F1 (upd (upd H1 p (.rng 0 (n.toNat:Int))) l (.lst ((List.range n.toNat).map fun i:Nat=>V.int (i:Int)))):=Ext.own e1.fh hl
   exact Rk.ok q _ F1 _ ((s1.trans e1).trans e2) ⟨l,_,rfl,bV s1.hh (bV e1.hh hl),aT,bV e1.fh hl,tY _⟩
  ·exact q.elim
 ·exact q.elim
end
end Fl
namespace Fl
open PySem L2 PyProof.Rows
def Is1(K:Frag)(mg:Str->Option Value)(nm q:Str)(b:Bool):Prop:=∃ D C,mg q=some (.ref D)/\mg nm=some (.ref C)/\PySem.W.kitOne K (.ref C) (.ref D)=some b
def y8(K:Frag)(mg:Str->Option Value)(nm:Str)(T:String)(b:Bool):Prop:=∃ C,mg nm=some (.ref C)/\PySem.W.kitOne K (.ref C) (.type T)=some b
section
variable{X:Cx}{c:Ct}{E:XK}{e:Expr}{P:Program}{w:World}{base:Heap}
theorem aEN{K:Frag}{t:Value}{a b:Value}(h1:PySem.W.kitOne K t a=some false)(h2:PySem.W.kitOne K t b=some false):PySem.W.kitAny K t [a,b]=some false:=by
 simp[PySem.W.kitAny,h1,h2]
end
end Fl
namespace Fl
open PySem L2 PyProof.Rows
theorem aJD:bootBuiltins "ValueError"=some (.type "ValueError"):=by rfl
end Fl
namespace L2
open PySem PySem.Spec PyProof.Rows
theorem b8.got{P:Program}{w:World}{H:Hp}{h:Heap}{a:Addr}{o:HO}(x:b8 P w H h a o):∃ u,h.get? a=some u:=by
 cases o with
 | lst xs=>obtain ⟨_,_,_,_,e⟩:=x;exact ⟨_,e⟩
 | tup xs=>obtain ⟨_,_,_,⟨o,e,_⟩⟩:=x;exact ⟨_,e⟩
 | dK kvs=>obtain ⟨_,_,_,_,o,_,_,e,_⟩:=x;exact ⟨_,e⟩
 | dT kvs=>obtain ⟨_,_,_,_,o,_,_,e,_⟩:=x;exact ⟨_,e⟩
 | set S n=>obtain ⟨o,_,_,_,e,_⟩:=x;exact ⟨_,e⟩
 | ins C dx fs=>obtain ⟨_,_,_,e,_⟩:=x;exact ⟨_,e⟩
 | own y=>exact x
 | xd fs=>obtain ⟨_,⟨_,_,_,e,_⟩,_⟩:=x;exact ⟨_,e⟩
 | rng lo hi=>obtain ⟨_,_,_,e⟩:=x;exact ⟨_,e⟩
 | frz ob u=>exact ⟨_,x.1⟩
 | tbl ps=>obtain ⟨_,e,_⟩:=x;exact ⟨_,e⟩
 | cod q=>obtain ⟨c,o,vs,t,e,ho,_⟩:=x;cases e;exact ⟨_,ho⟩
 | met f y=>exact ⟨_,x⟩
 | ext φ=>exact x.2.1
theorem HOk.free{P:Program}{w:World}{H:Hp}{h:Heap}{a:Addr}(x:HOk P w H h)(e:h.get? a=none):H a=none:=by
 cases q:H a with
 | none=>rfl
 | some u=>
  obtain ⟨o,z⟩:=(x a u q).got
  rw[e] at z;cases z
theorem Inv.laidN{X:Cx}{pins:List (Addr×Obj)}{σ:St}{H:Hp}{s:Shared}{h':Heap}{a:Addr}{o:HO}{t':Nat}(I:Inv X pins σ H s)(k:∀ b u,s.heap.get? b=some u->h'.get? b=some u)(hp:s.heap.get? a=none)(new:b8 X.prog X.w (upd H a o) h' a o) :
  Inv X pins σ (upd H a o) {s with heap:=h',toks:=t'}:=by
 have hn:H a=none:=I.hok.free hp
 refine I.un ⟨fun b u q _ _ _=>k b u q,fun b u q _ _ _=>⟨u.slots,k b u q⟩,fun b u q n _=>?_,fun b u q _=>⟨u,k b u q⟩,fun b xs q=>by rw[aH (bS q hn)];exact q,fun b u xs q=>by rw[aH (bS q hn)];exact q,fun b ps q=>by rw[aH (bS q hn)];exact q⟩ fun b u e=>?_
 ·rw[aH (fun z=>by rw[z,hp] at q;cases q)];exact n
 ·by_cases hb:b=a
  ·subst hb;rw[aT] at e;cases e;exact new
  ·rw[aH hb] at e
   exact (I.hok b u e).stay (fun c v _ q=>k c v q) (fun c q=>by rw[aH (bS q hn)];exact q) (fun c xs q=>by rw[aH (bS q hn)];exact q) fun c xs q=>by rw[aH (bS q hn)];exact q
structure ErrP(K:Frag)(mg:Str->Option Value)(x:Str)(W C:Addr):Prop where
 c:SX.ExcC K W C
 m:mg x=some (.ref C)
 lk:∃ nm q N bs sn sub ab col dd k0 k1 k2 k3 k5,K.lookup C=some (excClassObj nm q C N bs (.ref W::SX.fW) true sn sub ab col dd k0 k1 k2 k3 k5 "ValueError.__new__")/\PySem.W.nsOkIn K N=true/\PySem.W.nsIn K N "__init__"=some none
 lw:∃ c0 dd cd sl,K.lookup W=some ⟨c0,dd,.cls cd,sl⟩/\PySem.W.nsOkIn K cd.ns=true/\PySem.W.nsIn K cd.ns "__init__"=some none
def vM(C:Addr)(E:XK)(ta:TA):TS:=fun _ σ H=>ta σ H fun vs H1=>vs.length<=1000/\∀ e,H1 e=none->E (.ref C) (some e) (upd H1 e (ExO e C none))
theorem aH1{K:Frag}{h:Heap}{N:Addr}{n:Str}(X:K.In h)(a:PySem.W.nsOkIn K N=true)(b:PySem.W.nsIn K N n=some none):∃ m,h.Ns N m/\m n=none:=by
 have:=Heap.Ns.of_isNs (PySem.W.isNs_of_in X a)
 exact ⟨_,this,PySem.W.ns_none_of X this b⟩
section
variable{X:Cx}{E:XK}{W C:Addr}{x:Str}{np cpos pos:Pos}{e0:Expr}{rest:List Expr}{ta:TA}
theorem wJ(hc:X.calm=true)(er:ErrP X.K X.mg x W C)(hg:Gl X x)(ha:PA (X.fly E) (e0::rest) ta)(hdb:(x == ("__debug__":Str))=false:=by decide)
  (he:starEach (e0::rest) X.env=(false,eval e0 X.env)::starEach rest X.env:=by rfl) (hpl:(backTo cpos (starEach rest X.env)).any (·.1)=false:=by rfl) :
  PS (X.fly E) (.Raise (some (.Call (.Name x np) (e0::rest) [] cpos)) none pos) (vM C E ta):=by
 intro pins s σ H D I h
 obtain ⟨nm,q,N,bs,sn,sub,ab,col,dd,k0,k1,k2,k3,k5,lk,nok,nno⟩:=er.lk
 obtain ⟨c0,dw,cd,sl,lw,wok,wno⟩:=er.lw
 have core:wpAny (model X.prog X.w) X.A (eval (.Call (.Name x np) (e0::rest) [] cpos) X.env) (fun v s1=>∃ e od vs,v=.ref e/\s1.heap.get? C=some (excClassObj nm q C N bs (.ref W::SX.fW) true sn sub ab col dd k0 k1 k2 k3 k5 "ValueError.__new__") /\
   s1.heap.get? e=some {cls:=.ref C,dict:=od,data:=.fields vs}/\vs[1]? = some .none/\Fly X E (.ref e) s1) (Fly X E) s:=by
  refine wpAny_Call_Name_kw (lR (X:=X) I.unwish hg er.m ?_ hdb)
  refine PySem.W.callWith_K (h₀:=X.base) I.ok.mod.kin er.c.kp (thn (ha cpos pins s σ H _ I h) fun us s1 ⟨vs,H1,I1',r,hz,q1⟩=>⟨I1'.kIn,?_⟩) he hpl
  have I1:Inv X pins σ H1 s1:=I1'.unwish
  obtain ⟨hp,g,d,tk,os⟩:=s1
  have hz':us.length<=sizeLine:=by rw[<-r.length,sizeLine_eq];omega
  have kin:X.K.In hp:=I1.kIn
  obtain ⟨mN,hN,hN0⟩:=aH1 kin nok nno
  obtain ⟨mW,hW,hW0⟩:=aH1 kin wok wno
  refine wpAny_call_exc_subT PySem.F.excBase_ValueError (.own (kin _ _ lw) hW hW0 .base) (kin _ _ lk) hN hN0 (fun h' e hm'=>?_) hz'
  obtain ⟨t,het,_,_⟩:=hm'.there
  have I2:Inv X pins σ (upd H1 e (ExO e C none)) ⟨h',g,d,tk,os⟩:=I1.laidN (t':=tk) hm'.keeps hm'.new (x5 het)
  have q2:=q1 e (I1.hok.free hm'.new)
  have I5:Inv X [] σ (upd H1 e (ExO e C none)) ⟨h',g,d,tk,os⟩:=I2.pins_of fun p hp=>absurd hp (by simp)
  exact ⟨e,none,_,rfl,I2.kIn _ _ lk,het,rfl,e,C,none,σ,_,rfl,I5,⟨aT,_,none,het,rfl,(fun t z=>nomatch z),(fun z=>nomatch z)⟩,q2⟩
 show wpAny (model X.prog X.w) X.A (exec (.Raise (some (.Call (.Name x np) (e0::rest) [] cpos)) none pos) X.env) _ (Fly X E) s
 rw[arm_exec_Raise]
 first
  | refine wpAny_bind (wpAny_standAt (SX.lK (SX.uZ W) (I.ok.hd hc) (wpAny_bind (wpAny_mono core (fun v s1 h1=>wpAny_bind (wpAny_standAt (wpAny_pure h1))) fun _ _ z=>z))))
  | (simp only[evalOpt,Option.map];refine wpAny_bind (wpAny_standAt (SX.lK (SX.uZ W) (I.ok.hd hc) (wpAny_bind (wpAny_mono core (fun v s1 h1=>wpAny_bind (wpAny_standAt (wpAny_pure h1))) fun _ _ z=>z)))))
end
def few(i:Int):Prop:=i=40\/i=60\/i=200\/i=300
theorem aJE{i:Int}(h:few i):(Str.ofString (toString i)).length<=10/\i.natAbs.log2 < 1920:=by
 rcases h with rfl|rfl|rfl|rfl<;>decide +kernel
theorem iH(x y:Str):(x++y).length=x.length+y.length:=by
 show (x.cps++y.cps).size=x.cps.size+y.cps.size
 simp
def aLZ(ta:TE):TE:=fun σ H Q=>ta σ H fun x H1=>∃ i:Int,x=.int i/\few i/\∀ z:Str,Q (.str z) H1
theorem aL0{X:Cx}{v:Expr}{ta:TE}{a b:Str}{k1 k2:Nat}{p1 p2 p3 pos:Pos}(hv:PE X v ta)(ha:a.length<=1000:=by decide)(hb:b.length<=1000:=by decide) :
  PE X (.JoinedStr [.Constant (.str a) k1 p1,.FormattedValue v (-1) none p2,.Constant (.str b) k2 p3] pos) (aLZ ta):=by
 intro pins s σ H Q I h
 have hsz:sizeLine=16777216:=rfl
 have h0:(Str.empty).length=0:=rfl
 refine wpAny_JoinedStr (Joins_cons (thn (xR (X:=X) pins s σ H (fun y H1=>y=.str a/\H1=H) I ⟨rfl,rfl⟩) fun u s1 zz0=>?_))
 obtain ⟨y,H1,I1,r1,e1,e2⟩:=zz0
 subst e1 e2
 obtain ⟨t1,rfl⟩:=r1
 refine ⟨a,t1,rfl,by rw[iH,h0];omega,Joins_cons (wpAny_FormattedValue_plain (thn (hv pins s1 σ _ _ I1 h) fun u s2 zz0=>?_))⟩
 obtain ⟨y,H2,I2,r2,i,e,hf,q⟩:=zz0
 subst e
 obtain ⟨t2,rfl⟩:=r2
 obtain ⟨f1,f2⟩:=aJE hf
 refine wpAny_formatField_int f2 ⟨_,_,rfl,by rw[iH,iH,h0];omega,Joins_cons (thn (xR (X:=X) pins _ σ H2 (fun y H1=>y=.str b/\H1=H2) (I2.tok _) ⟨rfl,rfl⟩) fun u s3 zz0=>?_)⟩
 obtain ⟨y,H3,I3,r3,e1,e2⟩:=zz0
 subst e1 e2
 obtain ⟨t3,rfl⟩:=r3
 refine ⟨b,t3,rfl,by rw[iH,iH,iH,h0];omega,Joins_nil ⟨by rw[iH,iH,iH,h0];omega,?_⟩⟩
 exact ⟨.str _,_,I3.tok _,⟨_,rfl⟩,q _⟩
end L2
namespace Fl
open PySem L2 PyProof.Rows
instance (i:Int):Decidable (few i):=by unfold few;infer_instance
def aJF(cn:Str)(f:Sg->R (List PyData)):Sg->R Fw:=fun ρ=>(f ρ).bind fun xs=>if xs.length<=1000 then .ex ⟨cn,[]⟩ else .bad
def rD(cn:Str)(g:Sg->R PyData):Sg->R Fw:=fun ρ=>(g ρ).bind fun x=>match x with
 | .int i=>if few i then .ex ⟨cn,[]⟩ else .bad
 | _=>.bad
section
variable{X:Cx}{c:Ct}{E:XK}{st:Stmt}{cn:Str}{C:Addr}
theorem wJ{f:Sg->R (List PyData)}(hm:c.mg cn=some (.ref C))(h:PS X st (vM C E (tAd c E f))):PSf X c E st (aJF cn f):=PS.imp h fun D σ H zz0=>by
 obtain ⟨ρ,F,ab,k⟩:=zz0
 refine ⟨ρ,F,ab,(Rk.bind k).imp fun xs _ q vs F1 H1 s1 r1=>?_⟩
 by_cases hn:xs.length<=1000
 ·rw[if_pos hn] at q
  exact ⟨by rw[r1.length];exact hn,fun e he=>q e C _ _ ((ab.all.trans s1).trans (Ext.new s1.fh he)) ⟨hm,none,aT,.inl ⟨rfl,rfl⟩⟩⟩
 ·rw[if_neg hn] at q;exact q.elim
theorem aEO{g:Sg->R PyData}(hm:c.mg cn=some (.ref C))(h:PS X st (vM C E (cT (aLZ (tV (bA c) c E g)) eR))):PSf X c E st (rD cn g):=PS.imp h fun D σ H ⟨ρ,F,ab,k⟩=>by
 refine ⟨ρ,F,ab,(Rk.bind k).imp fun x hx q v F1 H1 s1 r1=>?_⟩
 clear hx
 split at q
 ·rename_i i
  split at q
  ·rename_i hf
   obtain rfl:=aX.int_of r1
   exact ⟨i,rfl,hf,fun z=>⟨by show 1<=1000;decide,fun e he=>q e C _ _ ((ab.all.trans s1).trans (Ext.new s1.fh he)) ⟨hm,none,aT,.inl ⟨rfl,rfl⟩⟩⟩⟩
  ·exact q.elim
 ·exact q.elim
def jZ(i:Nat)(nm:Str)(b:Bool):Sg->R PyData:=fun ρ=>match ρ[i]? with
 | some (some (.x e))=>if e.c=nm/\e.fs.isEmpty=true then .ok (.bool b) else .bad
 | _=>.bad
theorem wT{K:Frag}{mg:Str->Option Value}{x:Str}{W C:Addr}(er:ErrP K mg x W C):aA9 K mg C [x]:=fun nm h=>by
 rw[List.mem_singleton.mp h]
 exact ⟨C,_,er.m,er.c.any,by simp⟩
theorem aL1{i:Nat}{ρ:Sg}{σ:L2.St}{F H:Hp}{er:Er}{nm:Str}{W C:Addr}(hM:X.mg=c.mg)(hc:SX.ExcC X.K W C)(hm:X.mg nm=some (.ref C))(ab:Ab c ρ σ F H)(hi:ρ[i]? = some (some (.x er)))(h:er.c=nm) :
  ∃ a,σ[i]? = some (some (.ref a))/\TyX X.K H (.ref a) (.ref C):=by
 obtain ⟨v,hv,a,C2,rfl,m,od,h1,h2⟩:=ab.slot i _ hi
 rw[h,<-hM,hm] at m
 cases m
 rcases h2 with ⟨_,rfl⟩|⟨dd,fvs,e1,e2,e3,e4⟩
 ·exact ⟨a,hv,.exc0 hc (ab.fh _ _ h1)⟩
 ·subst e1
  exact ⟨a,hv,.exc hc (ab.fh _ _ h1) (ab.fh _ _ e2)⟩
theorem aJG{i:Nat}{nm q:Str}{W C:Addr}{b:Bool}{e:Expr}(hM:X.mg=c.mg)(er':ErrP X.K X.mg nm W C)(is:Is1 X.K X.mg nm q b)
  (h:PE X e (tCB (fun xs H Q=>∃ x c t cv b,xs=[x,c]/\TyX X.K H x t/\u0 c=some cv/\PySem.W.kitOne X.K t cv=some b/\Q (.bl b) H) (cT (fM i) (cT (tC (.ref is.choose)) eR)))):PD X c E e (jZ i nm b):=PE.imp h fun σ H Q ⟨ρ,F,ab,k⟩=>by
 unfold jZ at k
 split at k
 ·rename_i er hi
  split at k
  ·rename_i hc
   obtain ⟨a,h1,h2⟩:=aL1 hM er'.c er'.m ab hi hc.1
   obtain ⟨C2,_,m2,kk⟩:=is.choose_spec
   rw[er'.m] at m2
   cases m2
   exact ⟨_,h1,_,_,_,_,b,rfl,h2,rfl,kk,Rk.ok k _ F H (Ext.refl ab.fh) (.bl b)⟩
  ·exact k.elim
 ·exact k.elim
theorem aGW{i:Nat}{nm:Str}{T:String}{W C:Addr}{b:Bool}{e:Expr}(hM:X.mg=c.mg)(er':ErrP X.K X.mg nm W C)(is:y8 X.K X.mg nm T b)
  (h:PE X e (tCB (fun xs H Q=>∃ x c t cv b,xs=[x,c]/\TyX X.K H x t/\u0 c=some cv/\PySem.W.kitOne X.K t cv=some b/\Q (.bl b) H) (cT (fM i) (cT (tC (.ty T)) eR)))):PD X c E e (jZ i nm b):=PE.imp h fun σ H Q ⟨ρ,F,ab,k⟩=>by
 unfold jZ at k
 split at k
 ·rename_i er hi
  split at k
  ·rename_i hc
   obtain ⟨a,h1,h2⟩:=aL1 hM er'.c er'.m ab hi hc.1
   obtain ⟨C2,m2,kk⟩:=is
   rw[er'.m] at m2
   cases m2
   exact ⟨_,h1,_,_,_,_,b,rfl,h2,rfl,kk,Rk.ok k _ F H (Ext.refl ab.fh) (.bl b)⟩
  ·exact k.elim
 ·exact k.elim
end
end Fl
namespace L2
open PySem
noncomputable def aL2(e:DictEntry):Bool:=match e.key with
 | .str _ _=>true
 | _=>false
theorem aBA{K:Frag}{N:Addr}{cl:Value}{d:Option Addr}{es:Array DictEntry}{ep:Nat}{sl:Array (Option Value)}(l:K.lookup N=some ⟨cl,d,.dict es ep,sl⟩)(h:es.toList.all aL2=true):PySem.W.nsOkIn K N=true:=by
 unfold PySem.W.nsOkIn
 rw[show List.lookup N K=some ⟨cl,d,.dict es ep,sl⟩ from l]
 show es.all _=true
 rw[<-Array.all_toList]
 exact h
end L2
namespace Fl
open PySem L2 PyProof.Rows
end Fl
namespace HT
open PySem PySem.Spec PyProof.Rows L2
end HT
namespace Fl
open PySem L2 PyProof.Rows
theorem aBB{K:Frag}{F:Hp}{vs:List V}{i:Int}{x:Str}(h:DatVs K F vs [.int i,.str x]):vs=[.int i,.str x]:=by
 obtain ⟨v,t,rfl,h1,h2⟩:=h.cons_of
 obtain ⟨u,t',rfl,h3,h4⟩:=h2.cons_of
 obtain rfl:=h1.int_of
 obtain rfl:=h3.str_of
 cases h4
 rfl
end Fl
namespace Fl
open PySem L2 PyProof.Rows
def FnK(K:Frag)(H:Hp)(f:Addr):Prop:=PySem.W.keepIn K (.ref f)=true\/∃ oc od fd sl,H f=some (FnO f ⟨oc,od,.func fd,sl⟩)
theorem FnK.same{K:Frag}{H H':Hp}{f:Addr}(s:aM H H')(h:FnK K H f):FnK K H' f:=h.imp id fun ⟨oc,od,fd,sl,e⟩=>⟨oc,od,fd,sl,s _ _ e⟩
def aO3(m i:Nat)(f:Sg->R (List PyData)):Sg->R PyData:=fun ρ=>match ρ[i]? with
 | some (some (.g k n G))=>(f ρ).bind fun ds=>if k<=m/\ds.length=n then G ds else .bad
 | _=>.bad
noncomputable def aH2:PyData->Bool
 | .none=>true
 | .bool _=>true
 | .int _=>true
 | .str _=>true
 | _=>false
def lM(K:Frag)(F H:Hp):List V->List PyData->Prop
 | [],[]=>True
 | v::vs,d::ds=>aX K F H v d/\lM K F H vs ds
 | _,_=>False
theorem lM.ext{K:Frag}{F H F' H':Hp}(e:Ext F H F' H'):∀ {vs:List V} {ds:List PyData},lM K F H vs ds->lM K F' H' vs ds
 | [],[],_=>trivial
 | v::vs,d::ds,h=>⟨aX.ext e h.1,lM.ext e h.2⟩
theorem lM.len{K:Frag}{F H:Hp}:∀ {vs:List V} {ds:List PyData},lM K F H vs ds->vs.length=ds.length
 | [],[],_=>rfl
 | v::vs,d::ds,h=>by rw[List.length_cons,List.length_cons,lM.len h.2]
theorem aO4{K:Frag}{F H:Hp}(s:aM F H):∀ {vs:List V} {ds:List PyData},lM K F H vs ds->∃ FL,aM F FL/\aM FL H/\DatVs K FL vs ds
 | [],[],_=>⟨F,cU F,s,.nil⟩
 | v::vs,d::ds,h=>by
  obtain ⟨FL,a,b,r⟩:=aO4 s h.2
  rcases h.1 with q|⟨p,us,xs,rfl,rfl,h1,h2⟩
  ·exact ⟨FL,a,b,.cons (q.same a) r⟩
  ·refine ⟨fun x=>if x=p then some (.lst us) else FL x,fun x o z=>?_,fun x o z=>?_,?_⟩
   ·by_cases hx:x=p
    ·subst hx
     have:=s x o z
     rw[h1] at this;cases this
     exact if_pos rfl
    ·exact (if_neg hx).trans (a x o z)
   ·by_cases hx:x=p
    ·subst hx
     have z':=(if_pos rfl).symm.trans z
     rw[h1];exact z'
    ·exact b x o ((if_neg hx).symm.trans z)
   ·have sm:aM FL (fun x=>if x=p then some (.lst us) else FL x):=fun x o z=>by
     by_cases hx:x=p
     ·subst hx
      have:=b x o z
      rw[h1] at this;cases this
      exact if_pos rfl
     ·exact (if_neg hx).trans z
    exact .cons (.lst (SqL.of (if_pos rfl)) (h2.same fun x o z=>sm x o (a x o z))) (r.same sm)
def aNW(m i:Nat)(f:Sg->R (List PyData)):Sg->R PyData:=fun ρ=>match ρ[i]? with
 | some (some (.g k n G))=>(f ρ).bind fun ds=>if k<=m/\ds.length=n then (match G ds with | .ok d=>if aH2 d=true then .ok d else .bad|_=>.bad) else .bad
 | _=>.bad
end Fl
namespace Fl
open PySem L2 PyProof.Rows
def aNX(P:Program)(w:World)(K:Frag)(mg:Str->Option Value)(base:Heap)(T:Hp)(S:ClSt)(fr:List Str)(k n:Nat)(Gm:List A->List PyData->R PyData):Prop:=
 ∀ (F0 F1:Hp) (caps:List A) (cvs:List V) (f:Addr) (cl:List (Str×Addr)) (doc pm ct:Value) (cc:Addr),aM T F0->AFs (gOf P w K mg base T) K mg F0 caps cvs->aM F0 F1->
  F1 f=some (FnO f (S.obj cl doc pm cc ct))->F1 cc=some (.cod S.qual)->CapAt F1 fr cl cvs->(∀ c∈aIX fr cl,F0 c=none)->Beh P w K mg base T f F1 k n (Gm caps)
theorem AFs.data{g:Gb}{K:Frag}{mg:Str->Option Value}{F:Hp}:∀ {vs:List V} {ds:List PyData},DatVs K F vs ds->AFs g K mg F (ds.map .d) vs
 | _,_,.nil=>trivial
 | _,_,.cons h r=>⟨h,AFs.data r⟩
end Fl
namespace Fl
open PySem L2 PyProof.Rows
def xM(c:Ct)(F:Hp)(S:ClSt)(v:V):Prop:=∃ f cl doc pm cc ct,v=.ref f/\F f=some (FnO f (S.obj cl doc pm cc ct))/\F cc=some (.cod S.qual)/\ClOf c.cells S.scope cl
theorem xM.same{c:Ct}{F F':Hp}{S:ClSt}{v:V}(s:aM F F'):xM c F S v->xM c F' S v:=by
 rintro ⟨f,cl,doc,pm,cc,ct,h1,h2,h3,h4⟩
 exact ⟨f,cl,doc,pm,cc,ct,h1,s _ _ h2,s _ _ h3,h4⟩
noncomputable def aNY:Option (Option A)->Option A
 | some (some (.d x))=>some (.d x)
 | some (some (.x e))=>some (.x e)
 | some (some (.g k n G))=>some (.g k n G)
 | _=>none
noncomputable def aEP:List Nat->Sg->Option (List A)
 | [],_=>some []
 | j::js,ρ=>match aNY ρ[j]?,aEP js ρ with
  | some a,some as=>some (a::as)
  | _,_=>none
def aGX(X:Cx)(T:Hp)(c:Ct)(js:List Nat)(ρ:Sg)(F:Hp)(a:A)(v:V):Prop:=AF c.g c.K c.mg F a v \/
 ∃ S fr sl k n Gm caps,a=.g k n (Gm caps)/\xM c F S v/\aNX X.prog X.w X.K X.mg X.base T S fr k n Gm/\(∀ y,(y,NameKind.free)∈S.scope.names->y∈fr)/\(∀ y∈fr,(y,NameKind.free)∈S.scope.names)/\sl.map (fun j=>X.N[j]?)=fr.map some/\(∀ j∈sl,j∈js)/\aEP sl ρ=some caps
theorem aGX.same{X:Cx}{T:Hp}{c:Ct}{js:List Nat}{ρ:Sg}{F F':Hp}{a:A}{v:V}(s:aM F F')(h:aGX X T c js ρ F a v):aGX X T c js ρ F' a v:=by
 rcases h with h|⟨S,fr,sl,k,n,Gm,caps,h1,h2,h3⟩
 · exact .inl (AF.same s h)
 · exact .inr ⟨S, fr, sl, k, n, Gm, caps, h1, h2.same s, h3⟩
end Fl
namespace Fl
open PySem L2 PyProof.Rows
section
variable{P:Program}{w:World}{K:Frag}{mg:Str->Option Value}{base:Heap}{T:Hp}
structure DefAtT(K:Frag)(mg:Str->Option Value)(base:Heap)(T:Hp)(qs:List (Pos×Str))(x:Str)(st:Stmt)(ps:List Str):Prop where
 ex:∃ f oc od kV doc pm an c0 ct osl P0,K.lookup f=some ⟨oc,od,.func (PySem.W.fnOf x x (gH st) (dH st) (aO st) .none kV doc pm an (.ref c0) ct),osl⟩/\PySem.W.codeIn K (.ref c0) x=true/\PySem.W.keepIn K (.ref f)=true /\
  iC K (PySem.W.fnOf x x (gH st) (dH st) (aO st) .none kV doc pm an (.ref c0) ct) ps []/\mg x=some (.ref f)/\Tb mg base c0 P0/\T P0=some (.tbl qs)
end
end Fl
namespace Fl
open PySem L2 PyProof.Rows
end Fl
namespace Zp
open PySem
structure Apart(z TI TO i1 i2:Addr)(f1 f2:List Addr):Prop where
 TIz:TI≠z
 TOz:TO≠z
 i1z:i1≠z
 i2z:i2≠z
 TITO:TI≠TO
 TIi1:TI≠i1
 TIi2:TI≠i2
 TOi1:TO≠i1
 TOi2:TO≠i2
 i12:i1≠i2
 z1:z∉f1
 z2:z∉f2
 t1:TO∉f1
 t2:TO∉f2
 i1f2:i1∉f2
 i2f1:i2∉f1
section
variable{prog:Program}{w:World}{A:Around}{E:Value->Shared->Prop}{s:Shared}
abbrev aO5(h:Heap)(z TI TO:Addr)(f0 f1:Value):Prop:=h.get? z=some {cls:=.type "zip",dict:=none,data:=.fields #[f0,f1,.bool false,.ref TI,.ref TO],slots:=#[]}
end
noncomputable abbrev H2(h:Heap)(o1 o2:Obj):Heap:=(h.push o1).push o2
noncomputable abbrev H3(h:Heap)(o1 o2:Obj):Heap:=(H2 h o1 o2).push {cls:=.type "tuple",data:=.seq #[.ref h.objs.size,.ref (h.push o1).objs.size]}
noncomputable abbrev H4(h:Heap)(o1 o2:Obj):Heap:=(H3 h o1 o2).push {cls:=.type "tuple",data:=.seq #[.none,.none]}
noncomputable abbrev H5(h:Heap)(o1 o2:Obj):Heap:=(H4 h o1 o2).push {cls:=.type "zip",data:=.fields #[.none,.bool false,.bool false,.ref (H2 h o1 o2).objs.size,.ref (H3 h o1 o2).objs.size]}
end Zp
namespace L2
open PySem PySem.Spec PyProof.Rows
abbrev Col:=Hp->List V->Prop
structure ColOk(P:Program)(w:World)(K:Frag)(C:Col)(it:Addr)(tn:Nat->Heap->Prop):Prop where
 obj:∀ i h,tn i h->∃ o,h.get? it=some o/\∀ v,o.data≠.cell v
 keep:∀ i h h',tn i h->(∀ o,h.get? it=some o->h'.get? it=some o)->tn i h'
 one:∀ (X:Cx),X.prog=P->X.w=w->X.K=K->∀ pins s σ H xs ys,Inv X pins σ H s->C H xs->C H ys->xs=ys
 draw:∀ (X:Cx),X.prog=P->X.w=w->X.K=K->∀ (i:Nat) (pins:List (Addr×Obj)) (s:Shared) (σ:St) (H:Hp) (xs:List V) (A:Around),Inv X pins σ H s->j9 X pins H it->tn i s.heap->C H xs->A.handled=none->
  ∃ fp Pv St,Draws P w A it fp xs.length Pv St/\St i s.heap/\(∀ j h,St j h->tn j h)/\(∀ j v,Pv j v->∃ x,xs[j]? = some x/\bF x v)/\∀ b,j9 X pins H b->b≠it->b∉fp
end L2
namespace L2
open PySem PySem.Spec PyProof.Rows
end L2
namespace Fl
open PySem L2 PyProof.Rows
end Fl
namespace Fl
open PySem L2 PyProof.Rows
end Fl
namespace Zp
open PySem
end Zp
namespace Fl
open PySem L2 PyProof.Rows
end Fl
namespace Fl
open PySem L2 PyProof.Rows
end Fl
namespace Zp
open PySem
def Raw(h:Heap)(d:Addr)(ar:Array DictEntry)(ep:Nat):Prop:=∃ o,h.get? d=some o/\o.ExactDict/\o.data=.dict ar ep
section
variable{prog:Program}{w:World}{A:Around}{E:Value->Shared->Prop}{s:Shared}{d it:Addr}{ar:Array DictEntry}{ep i:Nat}
theorem aGY{Q:Value->Shared->Prop}(hd:(d == sysModules)=false)(hm:Raw s.heap d ar ep)(q:Q (.ref s.heap.objs.size) {s with heap:=s.heap.push {cls:=.type "dict_keyiterator",data:=.fields #[.ref d,.int 0 0,.int ar.size 0,.int ep 0]}}) :
  wpAny (model prog w) A (pyIter (.ref d)) Q E s:=by
 obtain ⟨o,ho,hc,hdat⟩:=hm
 have hT:s.TypeIs (.ref d) "dict":=⟨o,ho,hc.1⟩
 refine wpAny_pyIter_slot hT F.slot_dict_iter (wpAny_call_entry F.slot_dict_iter hT F.entry_dict_iter ?_ (F.args_dict_iter_1 _))
 unfold Builtin.«dict.__iter__»
 refine wpAny_bind ?_
 unfold Builtin.Dict.dictSlotNone
 refine wpAny_bind (wpAny_notOrdered_dict hT (wpAny_pure ?_))
 show wpAny _ _ (Builtin.Dict.showsAll d >>= _) _ _ s
 unfold Builtin.Dict.showsAll
 rw[if_neg (by rw[hd];exact Bool.false_ne_true)]
 refine wpAny_bind (wpAny_pure (wpAny_bind (wpAny_dictEntries ho hdat (wpAny_bind (wpAny_dictEpoch ho hdat ?_)))))
 refine wpAny_bind (wpAny_newObj_type (wpAny_pure ⟨_,rfl,"dict_keyiterator",_,⟨_,Heap.get?_push_size _ rfl,rfl⟩,F.slot_dict_keyiterator_next.lookup,?_⟩))
 simpa[rawInt] using q
theorem aGZ{Q:Option Value->Shared->Prop}{en:DictEntry}(hit:s.heap.IsKeyIter it d i ar.size ep)(hm:Raw s.heap d ar ep)(hx:ar[i]? = some en)
  (q:∀ h',h'.IsKeyIter it d (i+1) ar.size ep->Heap.SameBut it s.heap h'->Q (some en.key) {s with heap:=h'}):wpAny (model prog w) A (pyNext (.ref it)) Q E s:=by
 obtain ⟨o,ho,hc,hd⟩:=id hit
 obtain ⟨od,hod,hcd,hdd⟩:=hm
 unfold pyNext
 refine wpAny_bind (wpAny_attempt (wpAny_callSpecial?_slot (name:=Str.ofString "__next__") hit.typeIs F.slot_dict_keyiterator_next
  (wpAny_call_entry F.slot_dict_keyiterator_next hit.typeIs F.entry_dict_keyiterator_next ?_ (F.args_dict_keyiterator_next_1 _))))
 refine wpAny_bind (wpAny_pure (wpAny_bind (wpAny_bind ?_)))
 first|refine wpAny_bind (wpAny_typeNameOfWhole_keyiter hit.typeIs (wpAny_pure ?_))|refine wpAny_bind (wpAny_typeNameOf_keyiter hit.typeIs (wpAny_pure ?_))
 refine wpAny_bind (wpAny_fieldsOf ho hd ?_)
 simp only[show Builtin.Dict_items.ownsTuple "dict_keyiterator"=false by decide,Bool.false_eq_true,if_false]
 show wpAny _ _ (if (Value.ref d == Value.none)=true then _ else _) _ _ s
 rw[if_neg (show ¬ ((Value.ref d == Value.none)=true) from Bool.false_ne_true)]
 refine wpAny_bind (wpAny_pure (wpAny_bind (wpAny_dictEntries hod hdd ?_)))
 rw[if_neg (by simp)]
 refine wpAny_bind (wpAny_pure (wpAny_bind (wpAny_dictEpoch hod hdd ?_)))
 rw[if_neg (by simp)]
 refine wpAny_pure ?_
 simp only[show ¬ ((i:Int) < 0) from by omega,if_false,Int.toNat_natCast,hx]
 refine wpAny_bind ?_
 first|refine wpAny_bind (wpAny_typeNameOfWhole_keyiter hit.typeIs (wpAny_pure ?_))|refine wpAny_bind (wpAny_typeNameOf_keyiter hit.typeIs (wpAny_pure ?_))
 refine wpAny_bind (wpAny_isOneOf_keyiter hit.typeIs ?_)
 show wpAny _ _ (setField (.ref it) 1 (rawInt ((i:Int)+1)) >>= _) _ _ s
 refine wpAny_bind (wpAny_setField ho hd (by simp) ?_)
 have hit':(s.heap.update it (Obj.mapFields (·.setIfInBounds 1 (rawInt ((i:Int)+1))))).IsKeyIter it d (i+1) ar.size ep:=
  ⟨_,Heap.get?_update_self _ ho (Obj.isFreed_of_fields (Obj.data_mapFields hd _)),(Obj.cls_mapFields ..).trans hc,by rw[Obj.data_mapFields hd];simp[rawInt]⟩
 refine wpAny_bind (wpAny_holding (wpAny_bind (wpAny_isOneOf_keyiter (s:={s with heap:=s.heap.update it (Obj.mapFields (·.setIfInBounds 1 (rawInt ((i:Int)+1))))}) hit'.typeIs ?_)))
 show wpAny _ _ (pure en.key) _ _ _
 exact wpAny_pure (wpAny_pure ⟨_,rfl,wpAny_pure (q _ hit' (Heap.SameBut.update ..))⟩)
theorem aJH{Q:Option Value->Shared->Prop}(hh:A.handled=none)(hit:s.heap.IsKeyIter it d i ar.size ep)(hm:Raw s.heap d ar ep)(hx:ar.size<=i)
  (q:∀ h',Heap.ExtBut it s.heap h'->Q none {s with heap:=h'}):wpAny (model prog w) A (pyNext (.ref it)) Q E s:=by
 obtain ⟨o,ho,hc,hd⟩:=id hit
 obtain ⟨od,hod,hcd,hdd⟩:=hm
 unfold pyNext
 refine wpAny_bind (wpAny_attempt (wpAny_callSpecial?_slot (name:=Str.ofString "__next__") hit.typeIs F.slot_dict_keyiterator_next
  (wpAny_call_entry F.slot_dict_keyiterator_next hit.typeIs F.entry_dict_keyiterator_next ?_ (F.args_dict_keyiterator_next_1 _))))
 refine wpAny_bind (wpAny_pure (wpAny_bind (wpAny_bind ?_)))
 first|refine wpAny_bind (wpAny_typeNameOfWhole_keyiter hit.typeIs (wpAny_pure ?_))|refine wpAny_bind (wpAny_typeNameOf_keyiter hit.typeIs (wpAny_pure ?_))
 refine wpAny_bind (wpAny_fieldsOf ho hd ?_)
 simp only[show Builtin.Dict_items.ownsTuple "dict_keyiterator"=false by decide,Bool.false_eq_true,if_false]
 show wpAny _ _ (if (Value.ref d == Value.none)=true then _ else _) _ _ s
 rw[if_neg (show ¬ ((Value.ref d == Value.none)=true) from Bool.false_ne_true)]
 refine wpAny_bind (wpAny_pure (wpAny_bind (wpAny_dictEntries hod hdd ?_)))
 rw[if_neg (by simp)]
 refine wpAny_bind (wpAny_pure (wpAny_bind (wpAny_dictEpoch hod hdd ?_)))
 rw[if_neg (by simp)]
 refine wpAny_pure ?_
 simp only[show ¬ ((i:Int) < 0) from by omega,if_false,Int.toNat_natCast,Array.getElem?_eq_none hx]
 refine wpAny_bind ?_
 first|refine wpAny_bind (wpAny_typeNameOfWhole_keyiter hit.typeIs (wpAny_pure ?_))|refine wpAny_bind (wpAny_typeNameOf_keyiter hit.typeIs (wpAny_pure ?_))
 show wpAny _ _ (setField (.ref it) 0 .none >>= _) _ _ s
 refine wpAny_bind (wpAny_setField ho hd (by simp) ?_)
 show wpAny _ _ (newExc (.type "StopIteration") [] >>= _) _ _ _
 refine wpAny_bind ?_
 simp only[newExc,newTuple]
 refine wpAny_bind (wpAny_newObj_type ?_ (by size_fits))
 refine wpAny_bind (m:=firstArgMember _ _) (wpAny_of_eq (a:=Value.none) (by first|rfl|(simp only[firstArgMember];rfl)) ?_)
 refine wpAny_newObj_type ?_ (by size_fits)
 simp only[raiseNew]
 refine wpAny_bind (wpAny_handled ?_)
 rw[show A.in1.handled=none from hh]
 refine wpAny_bind (wpAny_pure (wpAny_throw ?_))
 refine wpAny_bind (wpAny_isInstance (T:="StopIteration") (b:=true) ⟨_,Heap.get?_push_size _ rfl,rfl⟩ isSubtype_stop ?_)
 exact wpAny_pure (q _ (((Heap.SameBut.update ..).extBut.push _).push _))
end
end Zp
namespace Fl
open PySem L2 PyProof.Rows
theorem tZ{α β:Type}{f:α->β->Prop}:∀ {xs:List α} {ys:List β} {i:Nat} {x:α},Paired f xs ys->xs[i]? = some x->∃ y,ys[i]? = some y/\f x y
 | _,_,_,_,.nil,h=>by simp at h
 | _,_,0,_,.cons q t,h=>by simp at h;subst h;exact ⟨_,rfl,q⟩
 | _,_,i+1,_,.cons q t,h=>by
  obtain ⟨y,h1,h2⟩:=tZ (i:=i) t (by simpa using h)
  exact ⟨y,by simpa using h1,h2⟩
theorem aBC{X:Cx}{pins:List (Addr×Obj)}{σ:L2.St}{H:Hp}{s:Shared}{d:Addr}{es:List Ent}{ep:Nat}(I:Inv X pins σ H s)(h:H d=some (dJ X.w d es ep)):(d == sysModules)=false/\∃ ar,Zp.Raw s.heap d ar ep/\Paired (oU X.w) es ar.toList:=by
 obtain ⟨⟨hd,o,ar,h1,h2,h3,h4⟩,_,_⟩:=(show b8 X.prog X.w H s.heap d (dJ X.w d es ep) from I.hok d _ h)
 exact ⟨hd,ar,⟨o,h1,h2,h3⟩,h4⟩
section
variable{X:Cx}{c:Ct}{E:XK}{tg e:Expr}
def t5(i:Nat):Sg->R PyData:=fun ρ=>match ρ[i]? with
 | some (some (.m kvs))=>if kvs.length<=16777216 then .ok (.int (kvs.length:Int)) else .bad
 | some (some (.f kvs))=>if kvs.length<=16777216 then .ok (.int (kvs.length:Int)) else .bad
 | _=>.bad
end
end Fl
namespace Zp
open PySem
end Zp
namespace Zp
open PySem
abbrev sO(h:Heap)(S:Addr)(acc:Array Value)(c:Nat):Prop:=h.get? S=some {cls:=.type "list",dict:=none,data:=.seq acc c,slots:=#[]}
theorem aG0{prog:Program}{w:World}{A:Around}{R:Result->Shared->Prop}{I S:Addr}{n:Nat}{res:Value}(J Jf:Array Value->Heap->Prop)(hn:n<=sizeLine)
  (size:∀ acc h,J acc h->acc.size<=n)
  (frame:∀ acc h h',J acc h->h'.objs.size=h.objs.size->(∀ b o,b≠S->h.get? b=some o->h'.get? b=some o)->J acc h')
  (item:∀ acc (s:Shared) (c:Nat) (Q:Option Value->Shared->Prop) (E:Value->Shared->Prop),acc.size < n->J acc s.heap->sO s.heap S acc c->(∀ v h' tk,J (acc.push v) h'->sO h' S acc c->Q (some v) {s with heap:=h',toks:=tk})->wpAny (model prog w) A.in1 (pyNext (.ref I)) Q E s)
  (done:∀ acc (s:Shared) (c:Nat) (Q:Option Value->Shared->Prop) (E:Value->Shared->Prop),acc.size=n->J acc s.heap->sO s.heap S acc c->(∀ h' tk,Jf acc h'->sO h' S acc c->Q none {s with heap:=h',toks:=tk})->wpAny (model prog w) A.in1 (pyNext (.ref I)) Q E s) :
  ∀ (k:Nat) (s:Shared) (acc:Array Value) (c:Nat),n - acc.size=k->J acc s.heap->sO s.heap S acc c->(∀ h' tk acc' c',Jf acc' h'->acc'.size=n->sO h' S acc' c'->R (.ok (.ret res)) {s with heap:=h',toks:=tk})->
  codeAny (model prog w) A (.builtin "list.extend.loop" ⟨[.ref S,.ref I,res],[]⟩) R s:=by
 intro k
 induction k with
 | zero=>
  intro s acc c hk hJ hS hR
  have:=size acc _ hJ
  refine codeAny_builtin F.entry_extend_loop ?_
  rw[Around.under_plainId F.plain_extend_loop _]
  show wpAny _ A.in1 (pyNext (.ref I) >>= _) _ _ s
  exact wpAny_bind (done acc s c _ _ (by omega) hJ hS fun h' tk hJ' hS'=>wpAny_pure (hR h' tk acc c hJ' (by omega) hS'))
 | succ k ih=>
  intro s acc c hk hJ hS hR
  refine codeAny_builtin F.entry_extend_loop ?_
  rw[Around.under_plainId F.plain_extend_loop _]
  show wpAny _ A.in1 (pyNext (.ref I) >>= _) _ _ s
  refine wpAny_bind (item acc s c _ _ (by omega) hJ hS fun v h' tk hJ' hS'=>?_)
  show wpAny _ A.in1 (updateSeq S (·.push v) >>= _) _ _ _
  refine wpAny_bind (wpAny_updateSeq hS' rfl (wpAny_pure ⟨plainId_quiet F.plain_extend_loop _,ih _ (acc.push v) _ (by rw[Array.size_push];omega) (frame _ _ _ hJ' (Heap.size_update ..) fun b o hb e=>?_) (Heap.get?_update_self _ hS' rfl) fun h2 tk2 acc' c' a1 a2 a3=>hR h2 tk2 acc' c' a1 a2 a3⟩) (by omega) (by show (acc.push v).size<=sizeLine+1;rw[Array.size_push];omega))
  exact (Heap.get?_update_other _ _ (fun h:S=b=>hb h.symm)).trans e
end Zp
namespace Zp
open PySem
structure Jz(P1 P2:Nat->Value->Prop)(S1 S2:Nat->Heap->Prop)(s0:Heap)(z TI TO i1 i2 S:Addr)(n:Nat)(acc:Array Value)(h:Heap):Prop where
 size:acc.size<=n
 inc:∀ (j k p q:Nat),j < k->acc[j]? = some (.ref p)->acc[k]? = some (.ref q)->p < q
 top:∀ (j p:Nat),acc[j]? = some (.ref p)->p < h.objs.size
 told:∀ (j:Nat) v,acc[j]? = some v->∃ p x y,v=.ref p/\S < p/\IsPair h p x y/\P1 j x/\P2 j y
 s1:S1 acc.size h
 s2:S2 acc.size h
 ti:IsPair h TI (.ref i1) (.ref i2)
 keep:∀ c o,c≠z->c≠TO->c≠i1->c≠i2->c≠S->s0.get? c=some o->h.get? c=some o
 big:S < h.objs.size
 st:(acc.size=0/\IsZip h z TI TO .none/\∃ a b,IsPair h TO a b)\/(0 < acc.size/\∃ (T:Addr) (bb:Bool) (o:Obj),aO5 h z TI TO (rawInt T) (.bool bb)/\h.get? T=some o/\S < T)
end Zp
namespace L2
open PySem PySem.Spec PyProof.Rows
structure LZ(H1 H2:Hp)(xs ys:List V)(l:Addr)(ps:List Addr):Prop where
 same:∀ b o,H1 b=some o->H2 b=some o
 new:H1 l=none
 lst:H2 l=some (.lst (ps.map .ref))
 len:ps.length=min xs.length ys.length
 tup:∀ (j:Nat) p,ps[j]? = some p->H1 p=none/\∃ u v,xs[j]? = some u/\ys[j]? = some v/\H2 p=some (.tup [u,v])
end L2
namespace HT
open PySem PySem.Spec PyProof.Rows L2
end HT
namespace Fl
open PySem L2 PyProof.Rows
def lN(i:Nat):Sg->R Fw:=fun ρ=>match ρ[i]? with
 | some (some (.l xs))=>.ok (.rt (.l xs))
 | _=>.bad
theorem aJI{X:Cx}{c:Ct}{E:XK}{e:Expr}{pos:Pos}{i:Nat}(h:PE X e (fM i)):PSf X c E (.Return (some e) pos) (lN i):=PS.imp (L2.bG h) fun D σ H ⟨ρ,F,ab,k⟩=>by
 unfold lN at k
 split at k
 ·rename_i xs hi
  obtain ⟨v,hv,p,vs,rfl,h2,h3,h4,h5⟩:=ab.slot i _ hi
  exact ⟨_,hv,Rk.ok k _ F H ab.all ⟨p,vs,rfl,h4,h2,h3,h5⟩⟩
 ·exact k.elim
def fnN(n:Nat)(fb:Sg->R Fw):List A->R (List PyData):=fun as=>(fb (as.map some++List.replicate (n - as.length) none)).bind fun w=>match w with
 | .rt (.l xs)=>.ok xs
 | _=>.bad
def spN(g:Gb)(K:Frag)(mg:Str->Option Value)(n:Nat)(G:List A->R (List PyData)):Sp:=fun vs H Q E=>∃ F as,aM g.T F/\aM F H/\AFs g K mg F as vs/\as.length=n/\match G as with
 | .bad=>False
 | .ok xs=>∀ v F' H',Ext F H F' H'->AR g K mg H F' H' (.l xs) v->Q v H'
 | .ex e=>∀ a C F' H',Ext F H F' H'->kE K mg F' e a C->E (.ref C) (some a) H'
def oC(P:Program)(w:World)(K:Frag)(mg:Str->Option Value)(base:Heap)(T:Hp)(k:Nat)(x:Str)(ps:List Str)(G:List A->R (List PyData)):Prop:=Calls P w K mg base (CXe P w) k x ps (spN (gOf P w K mg base T) K mg ps.length G)
def xN(n:Nat)(G:List A->R (List PyData))(f:Sg->R (List A)):Sg->R (List PyData):=fun ρ=>(f ρ).bind fun as=>if as.length=n then G as else .bad
theorem aH3{X:Cx}{c:Ct}{E:XK}{e:Expr}{n:Nat}{G:List A->R (List PyData)}{g:Gb}{K:Frag}{mg:Str->Option Value}{f:Sg->R (List A)}(hG:g=c.g)(hK:K=c.K)(hM:mg=c.mg)(h:PE X e (mY (spN g K mg n G) [] E (tAv c E f))):PN X c E e (xN n G f):=PE.imp h fun σ H Q zz0=>by
 obtain ⟨ρ,F,ab,k⟩:=zz0
 subst hG hK hM
 refine ⟨ρ,F,ab,(Rk.bind k).imp fun as _ q vs F1 H1 s1 r1=>?_⟩
 by_cases hn:as.length=n
 ·rw[if_pos hn] at q
  refine ⟨F1,as,fun a o z=>s1.ff a o (ab.f0 a o (ab.t0 a o z)),s1.fh,by rw[List.append_nil];exact r1,hn,?_⟩
  cases hg:G as with
  | bad=>rw[hg] at q;exact q
  | ok a=>
   rw[hg] at q
   intro v F' H' s r
   obtain ⟨p,us,e1,e2,e3,e4,e5⟩:=r
   have e0:H p=none:=by
    cases z:H p with
    | none=>rfl
    | some o=>rw[s1.hh p o z] at e2;cases e2
   exact Rk.ok q v F' H' (s1.trans s) ⟨p,us,e1,e0,e3,e4,e5⟩
  | ex e=>rw[hg] at q;exact fun a C F' H' s r=>q a C F' H' ((ab.all.trans s1).trans s) r
 ·rw[if_neg hn] at q;exact q.elim
theorem aG1{g:Gb}{cells:List (Str×Addr)}{cls:Str->Option ClSt}{K:Frag}{mg:Str->Option Value}{w:World}{n:Nat}{fb:Sg->R Fw}{vs:List V}{as:List A}{F H:Hp}{Q:VK}{E:XK}(h0:aM g.T F)(h1:aM F H)(h2:AFs g K mg F as vs)(h4:match fnN n fb as with
 | .bad=>False
 | .ok xs=>∀ v F' H',Ext F H F' H'->AR g K mg H F' H' (.l xs) v->Q v H'
 | .ex e=>∀ a C F' H',Ext F H F' H'->kE K mg F' e a C->E (.ref C) (some a) H'):tSf ⟨K,mg,w,F,H,g,cells,cls⟩ E fb {nx:=fun _ H'=>Q .non H',rt:=Q} (vs.map some++List.replicate (n - vs.length) none) H:=by
 refine ⟨_,F,sL h0 h1 h2,?_⟩
 unfold fnN at h4
 cases e:fb (as.map some++List.replicate (n - as.length) none) with
 | bad=>rw[e] at h4;exact h4
 | ex x=>rw[e] at h4;exact h4
 | ok w=>
  rw[e] at h4
  cases w with
  | nx ρ'=>exact h4.elim
  | rt a=>
   cases a with
   | l xs=>exact h4
   | _=>exact h4.elim
  | bk ρ'=>exact h4.elim
  | ct ρ'=>exact h4.elim
section
variable{P:Program}{w:World}{K:Frag}{mg:Str->Option Value}{base:Heap}{T:Hp}{x:Str}{st:Stmt}{N ps:List Str}{k:Nat}
theorem aBD{fb:Sg->R Fw}(D:DefAt K mg x st ps)(S:FnScope N ps (aO st))
  (hbody:∀ (f:Addr) (cdv:Value) (A:Around) (outer:List Env) (s:Shared) (H F:Hp) (E:XK),Room k (A.deeper (envOfC x (aO st) s.heap.objs.size f cdv))->
   nO ((iO (CXe P w) P w K mg base N x (aO st) f cdv A outer s H E).fly E) ⟨K,mg,w,F,H,gOf P w K mg base T,(envOfC x (aO st) s.heap.objs.size f cdv).cells,fun _=>none⟩ E (dH st) fb):oC P w K mg base T (k+1) x ps (fnN N.length fb):=by
 refine D.okX S (fun vs H Q E h=>?_) (fun f cdv A outer s H vs Q E hr h=>?_)
 ·obtain ⟨F,as,_,_,h2,h3,_⟩:=h
  rw[h2.len,h3]
 ·obtain ⟨F,as,h0,h1,h2,h3,h4⟩:=h
  exact ⟨_,hbody f cdv A outer s H F E hr,aG1 h0 h1 h2 h4⟩
end
end Fl
namespace L2
open PySem PySem.Spec PyProof.Rows
end L2
namespace Zp
open PySem PySem.Spec PyProof.Rows
section
variable{prog:Program}{w:World}{A:Around}{E:Value->Shared->Prop}{s:Shared}{d:Addr}{ar:Array DictEntry}{ep:Nat}
theorem wU(hd:(d == sysModules)=false) :
  MeetsIn prog w (Builtin.«dict.__len__» ⟨[.ref d],[]⟩) (fun _ R s=>∃ ar ep,Raw s.heap d ar ep/\R (.ok (.ret (.int ar.size s.toks))) {s with toks:=s.toks+1}):=
 .of_wp fun A R s zz0=>by
  obtain ⟨ar,ep,hm,h⟩:=zz0
  obtain ⟨o,ho,hc,hdat⟩:=hm
  show wpAny _ _ (dictSize d >>= _) _ _ s
  unfold dictSize
  refine wpAny_bind (wpAny_bind (wpAny_dictEntries ho hdat (wpAny_pure ?_)))
  show wpAny _ _ (Builtin.Dict.pendingCount d >>= _) _ _ s
  refine wpAny_bind (wpAny_pendingCount_other hd ?_)
  refine wpAny_ret_mkInt ?_
  rw[Nat.add_zero];exact h
theorem aJJ{Q:Value->Shared->Prop}(hd:(d == sysModules)=false)(hm:Raw s.heap d ar ep)(hfit:(ar.size:Int) < 2 ^ 63)
  (h:∀ t t',Q (.int ar.size t) {s with toks:=t'}):wpAny (model prog w) A (call (.builtin "len") [.ref d]) Q E s:=by
 have hT:s.TypeIs (.ref d) "dict":=by
  obtain ⟨o,ho,hc,hdat⟩:=id hm
  exact ⟨o,ho,hc.1⟩
 refine Calls.call_function_entry kind_len plain_len entry_len (args_len1 _) ?_
 unfold Builtin.«len»
 refine wpAny_bind (m:=oneArg "len" _) (wpAny_pure ?_)
 refine wpAny_bind (m:=callSpecial? (.ref d) (Str.ofString "__len__")) (wpAny_callSpecial?_slot (name:=Str.ofString "__len__") hT F.slot_dict_len
  (call_meetsIn F.slot_dict_len hT F.entry_dict_len (F.args_dict_len_1 _) (wU hd) ⟨ar,ep,hm,?_⟩))
 show wpAny _ _ _ _ _ {s with toks:=s.toks+1}
 refine wpAny_bind (wpAny_holding (wpAny_pure ?_))
 refine wpAny_bind (wpAny_letGo ?_)
 show wpAny _ _ (if ((ar.size:Nat):Int) < 0 then _ else _) _ _ _
 rw[if_neg (by omega)]
 show wpAny _ _ (if ((ar.size:Nat):Int)>=2 ^ 63 then _ else _) _ _ _
 rw[if_neg (by omega)]
 exact wpAny_bind (wpAny_mkInt (wpAny_pure ⟨_,rfl,h _ _⟩))
end
end Zp
namespace Fl
open PySem L2 PyProof.Rows
section
variable{X:Cx}{c:Ct}{E:XK}{e:Expr}
theorem aEQ:eX X (.builtin "len") (fun xs H Q=>∃ d es ep,xs=[.ref d]/\H d=some (dJ X.w d es ep)/\es.length<=16777216/\Q (.int (es.length:Int)) H):=by
 intro pins s σ H xs us Q I r h
 obtain ⟨d,es,ep,rfl,hO,hl,q⟩:=h
 obtain ⟨u,rfl,ru⟩:=iV r
 cases (show u=Value.ref d from ru)
 obtain ⟨hd,ar,hr,hp⟩:=aBC I hO
 have hsz:ar.size=es.length:=by rw[Paired.length hp];simp
 refine Zp.aJJ hd hr (by rw[hsz];omega) fun t t'=>?_
 rw[hsz]
 exact ⟨.int (es.length:Int),H,I.tok _,⟨t,rfl⟩,q⟩
theorem aJK{i:Nat}(hW:X.w=c.g.w)(hW2:X.w=c.w)(h:PE X e (tCB (fun xs H Q=>∃ d es ep,xs=[.ref d]/\H d=some (dJ X.w d es ep)/\es.length<=16777216/\Q (.int (es.length:Int)) H) (cT (fM i) eR))):PD X c E e (t5 i):=PE.imp h fun σ H Q ⟨ρ,F,ab,k⟩=>by
 unfold t5 at k
 split at k
 ·rename_i kvs hi
  split at k
  ·rename_i hz
   obtain ⟨v,hp,p,es,rfl,⟨ep,h2⟩,h3,h4,h5⟩:=ab.slot i _ hi
   have hl:es.length=kvs.length:=by simpa using congrArg List.length h5.k1
   refine ⟨_,hp,p,es,ep,rfl,by rw[hW2];exact h2,by omega,?_⟩
   rw[hl]
   exact Rk.ok k _ F H (Ext.refl ab.fh) (.int _)
  ·exact k.elim
 ·rename_i kvs hi
  split at k
  ·rename_i hz
   obtain ⟨v,hp,p,es,rfl,⟨ep,h2⟩,h5⟩:=ab.slot i _ hi
   have hl:es.length=kvs.length:=by simpa using congrArg List.length h5.k1
   refine ⟨_,hp,p,es,ep,rfl,by rw[hW];exact ab.fh _ _ h2,by omega,?_⟩
   rw[hl]
   exact Rk.ok k _ F H (Ext.refl ab.fh) (.int _)
  ·exact k.elim
 ·exact k.elim
end
end Fl
namespace Mc
open PySem L2 PyProof.Rows Fl
noncomputable def o7:Sg->R Fw:=(bP (vD (e1 dLen (e2 dIx (e2 dIx (rV 0) (eC (.int 0))) (eC (.int 1))))))
noncomputable def eH:List A->R A:=fnF 1 o7
noncomputable def o8:Sg->R Fw:=(bP (vD (eL (c6 [none,some 1] (e1 a8 (rV 0)) (stN 0) dO (e2 dIx (e2 dIx (rV 0) (eC (.int 1))) (rV 1))))))
noncomputable def j0:List A->R A:=fnF 2 o8
noncomputable def mH:Sg->R Fw:=(aJ (bU 2 (vD (eSl dSl (eC (.str "abc")) oNo (oSo (rV 0)))))
 (aJ (fX (e1 xK (eV 1)) (stT [(stN 3),(stN 4)]) (sIf (e1 asB (e2 dNin (rV 4) (rV 2))) (tX "NoStrip" ["at"] (aA (eV 3) aK)) sNx))
 (bP (vV 1))))
noncomputable def g9:List A->R A:=fnF 5 mH
noncomputable def qH:Sg->R Fw:=(bP (aY 2 g9 (aA (aY 1 eH (aA (vV 0) aK)) (aA (vV 1) aK))))
noncomputable def jI:List A->R A:=fnF 2 qH
noncomputable def aER:Sg->R Fw:=(bP (vD (e1 (eB "str") (rV 0))))
noncomputable def aES:List A->R A:=fnF 1 aER
noncomputable def vN:Sg->R Fw:=(aJ (bU 1 (vD (e1 dTup (eL (c6 [none] (iG (rV 0)) (stN 0) dO (bZ (aA (eC (.int 1)) (aA (eV 0) aK))))))))
 (aJ (bU 2 (vD (e1 dTup (eL (c6 [none] (iG (rV 0)) (stN 0) dO (bZ (aA (e1 dNeg (eC (.int 1))) (aA (eV 0) aK))))))))
 (bP (vD (bZ (aA (eV 1) (aA (eV 2) aK)))))))
noncomputable def lX:List A->R A:=fnF 3 vN
noncomputable def mI:Sg->R Fw:=(aJ (aCR (aY 2 jI (aA (vV 0) (aA (vV 1) aK))))
 (aJ (bU 2 (vD (e1 dTup (eL (c6 [none] (e1 a8 (eA (aY 2 j0 (aA (vV 0) (aA (vD (e2 mF (eC (.str "abc")) (rV 1))) aK))))) (stN 0) dO (bZ (aA (e2 dIx (rV 0) (eC (.int 1))) (aA (e2 dIx (rV 0) (eC (.int 0))) aK))))))))
 (bP (vD (bZ (aA (eV 2) (aA (eV 2) aK)))))))
noncomputable def eP:List A->R A:=fnF 3 mI
noncomputable def o9:Sg->R Fw:=(aJ (jY 4)
 (aJ (bR (gY (e1 asB (e2 dIsnt (rV 2) (eC .none))) (e1 asB (e2 dEq (e2 dIx (rV 2) (eC (.int 0))) (rV 3)))) (aJ (sIf (e1 asB (gM false 4 (eV 2))) (bP (vD (eC .none))) sNx)
 (aJ (fZ 4 (eV 2) (eC (.bool true)))
 (aJ (bU 2 (vD (eIf (e1 asB (e2 dEq (rV 3) (eC (.int 1)))) (e2 dIx (e2 dIx (rV 1) (eC (.int 0))) (e2 dIx (rV 2) (eC (.int 1)))) (e2 dIx (e2 dIx (rV 0) (eC (.int 1))) (e2 dIx (rV 2) (eC (.int 1)))))))
 (bU 3 (vD (e1 dNeg (rV 3))))))))
 (bP (vV 2))))
noncomputable def eI:List A->R A:=fnF 5 o9
noncomputable def sP:Sg->R Fw:=(aJ (bU 2 (vD (e1 dTup (eL (c6 [none,some 0,some 1] (e1 a8 (e2 dIx (rV 0) (eC (.int 0)))) (stN 0) dO (eA (aY 4 eI (aA (vV 1) (aA (vV 2) (aA (vV 0) (aA (vD (eC (.int 1))) aK)))))))))))
 (aJ (bU 3 (vD (e1 dTup (eL (c6 [none,some 0,some 1] (e1 a8 (e2 dIx (rV 1) (eC (.int 1)))) (stN 0) dO (eA (aY 4 eI (aA (vV 1) (aA (vV 2) (aA (vV 0) (aA (vD (e1 dNeg (eC (.int 1)))) aK)))))))))))
 (bP (vD (bZ (aA (eV 2) (aA (eV 3) aK)))))))
noncomputable def f6:List A->R A:=fnF 4 sP
end Mc
namespace Mc
open PySem L2 PyProof.Rows
def cQ(k:Nat)(rs:List Rw):Tb:=⟨rs.map fun r=>some ((r.c.getD k (0,0)).2,(r.c.getD k (0,0)).1),rs.map fun r=>some ((r.c.getD k (0,0)).2,(r.c.getD k (0,0)).1)⟩
theorem aG2(k:Nat)(rs:List Rw):tbD (cQ k rs)=l8 (xH k rs) (xH k rs):=by
 unfold tbD cQ xH
 rw[List.map_map];rfl
theorem aBE{rs:List Rw}{sg:Nat}{r:Rw}{k:Nat}(M:Mach rs sg)(hr:r∈rs)(hk:k < sg):r.c[k]? = some (r.c.getD k (0,0))/\l9 rs.length (r.c.getD k (0,0)):=by
 have h:=M.row r hr
 have hl:k < r.c.length:=by rw[h.2];exact hk
 have e:r.c[k]? = some (r.c.getD k (0,0)):=by rw[List.getD_eq_getElem?_getD,List.getElem?_eq_getElem hl];rfl
 exact ⟨e,h.1.2.2 _ (List.mem_of_getElem? e)⟩
theorem kS{rs:List Rw}{sg k:Nat}(M:Mach rs sg)(hk:k < sg):(cQ k rs).good rs.length:=by
 have key:∀ x∈rs.map fun r=>some ((r.c.getD k (0,0)).2,(r.c.getD k (0,0)).1),pZ rs.length x:=fun x hx=>by
  obtain ⟨r,hr,rfl⟩:=List.mem_map.mp hx
  obtain ⟨_,g1,g2,g3⟩:=aBE M hr hk
  exact ⟨g3,g1,g2⟩
 exact ⟨by unfold cQ;simp,by unfold cQ;simp,key,key⟩
theorem aET{rs:List Rw}{k:Nat}{w q:Int}(h0:0<=q)(h1:q < (rs.length:Int)):(cQ k rs).at w q=some (((dQ rs q).c.getD k (0,0)).2,((dQ rs q).c.getD k (0,0)).1):=by
 unfold Tb.at cQ
 have e:=pX h0 h1
 rw[ite_self,List.getD_eq_getElem?_getD,List.getElem?_map,e];rfl
def dN(rs:List Rw)(z:List Nat):List Tb:=z.map fun c=>cQ (c - 97) rs
theorem qI{rs:List Rw}{sg:Nat}{z:List Nat}(M:Mach rs sg)(S:bH sg z):∀ t∈dN rs z,t.good rs.length:=fun t ht=>by
 obtain ⟨c,hc,rfl⟩:=List.mem_map.mp ht
 have:=of_decide_eq_true (S.2 c hc)
 exact kS M (by omega)
noncomputable def b6(rs:List Rw)(z:List Nat):Tb:=if z=[] then bL rs.length else aW rs.length (dN rs z)
theorem fG{rs:List Rw}{sg:Nat}{z:List Nat}(M:Mach rs sg)(S:bH sg z):(b6 rs z).good rs.length:=by
 unfold b6
 by_cases h:z=[]
 ·rw[if_pos h];exact oR _
 ·rw[if_neg h]
  refine iT (qI M S) ?_
  unfold dN
  rw[List.length_map]
  exact List.length_pos_iff.mpr h
theorem nP{rs:List Rw}{sg:Nat}{z:List Nat}{c:Nat}(M:Mach rs sg)(S:bH sg z)(hc:cP sg c=true):aW rs.length [b6 rs z,cQ (c - 97) rs]=b6 rs (z++[c]):=by
 have hc':=of_decide_eq_true hc
 have gs:(cQ (c - 97) rs).good rs.length:=kS M (by omega)
 have e2:b6 rs (z++[c])=aW rs.length (dN rs z++[cQ (c - 97) rs]):=by
  unfold b6
  rw[if_neg (by simp)]
  unfold dN
  rw[List.map_append];rfl
 rw[e2]
 unfold b6
 by_cases h:z=[]
 ·rw[if_pos h,aCI gs,h]
  show _=aW rs.length [cQ (c - 97) rs]
  rw[aIW gs]
 ·rw[if_neg h]
  have:=sE (m:=rs.length) (l1:=[]) (mid:=dN rs z) (l2:=[cQ (c - 97) rs]) (fun t ht=>by simp at ht) (qI M S) (fun t ht=>by rw[List.mem_singleton.mp ht];exact gs) (by unfold dN;rw[List.length_map];exact List.length_pos_iff.mpr h)
  simpa using this
def iU(rs:List Rw)(z:List Nat)(s:Int×Int):Option ((Int×Int)⊕(Int×Int)):=
 let c:=(dQ rs s.2).c.getD (z.getD (s.1.toNat - 1) 97 - 97) (0,0)
 if 0 < s.1+c.2/\s.1+c.2<=(z.length:Int) then some (.inl (s.1+c.2,c.1)) else some (.inr ((if 0 < s.1+c.2 then 1 else -1),c.1))
def kT(rs:List Rw)(z:List Nat)(s:Int×Int):Prop:=1<=s.1/\s.1<=(z.length:Int)/\0<=s.2/\s.2 < (rs.length:Int)
theorem kT.valid{rs:List Rw}{z:List Nat}{s:Int×Int}(h:kT rs z s):qW rs z s:=⟨by have:=h.1;omega,by have:=h.2.1;omega,h.2.2⟩
theorem wK{rs:List Rw}{sg:Nat}{z:List Nat}{s:Int×Int}(M:Mach rs sg)(S:bH sg z)(V:kT rs z s):∃ ch cc,z[s.1.toNat - 1]? = some ch/\cP sg ch=true/\z.getD (s.1.toNat - 1) 97=ch/\(dQ rs s.2).c[ch - 97]? = some cc/\(dQ rs s.2).c.getD (ch - 97) (0,0)=cc/\l9 rs.length cc:=by
 have h0:s.1≠0:=by have:=V.1;omega
 have h1:s.1≠(z.length:Int)+1:=by have:=V.2.1;omega
 obtain ⟨ch,a1,a2,a3⟩:=aAU S V.valid h0 h1
 obtain ⟨cc,b1,b2,b3⟩:=aF4 M S V.valid h0 h1
 rw[a3] at b1 b2
 exact ⟨ch,cc,a1,a2,a3,b1,b2,b3⟩
theorem with_step{rs:List Rw}{sg:Nat}{z:List Nat}{s:Int×Int}(M:Mach rs sg)(S:bH sg z)(V:kT rs z s)(w:Int) :
  (∃ s',iU rs z s=some (.inl s')/\kT rs z s'/\∃ w',aP (dN rs z) (s.1 - 1,w,s.2)=some (.inl (s'.1 - 1,w',s'.2)))\/∃ o,iU rs z s=some (.inr o)/\aP (dN rs z) (s.1 - 1,w,s.2)=some (.inr o):=by
 obtain ⟨ch,cc,a1,a2,a3,b1,b2,g1,g2,g3⟩:=wK M S V
 have hl:((dN rs z).length:Int)=(z.length:Int):=by unfold dN;simp
 have hx:(s.1 - 1).toNat=s.1.toNat - 1:=by have:=V.1;omega
 have hb:aP (dN rs z) (s.1 - 1,w,s.2)=if 0<=s.1 - 1+cc.2/\s.1 - 1+cc.2 < (z.length:Int) then some (.inl (s.1 - 1+cc.2,cc.2,cc.1)) else some (.inr (cc.2,cc.1)):=by
  have e:(dN rs z).getD (s.1 - 1).toNat ⟨[],[]⟩=cQ (ch - 97) rs:=by
   rw[List.getD_eq_getElem?_getD,hx]
   unfold dN
   rw[List.getElem?_map,a1];rfl
  unfold aP
  dsimp only
  rw[e,aET V.2.2.1 V.2.2.2,b2,hl]
 have hw:iU rs z s=if 0 < s.1+cc.2/\s.1+cc.2<=(z.length:Int) then some (.inl (s.1+cc.2,cc.1)) else some (.inr ((if 0 < s.1+cc.2 then 1 else -1),cc.1)):=by
  unfold iU
  rw[a3,b2]
 by_cases hin:0 < s.1+cc.2/\s.1+cc.2<=(z.length:Int)
 ·rw[if_pos hin] at hw
  rw[if_pos (by omega)] at hb
  refine .inl ⟨_,hw,⟨by show 1<=s.1+cc.2;omega,hin.2,g1,g2⟩,cc.2,?_⟩
  rw[hb,show s.1 - 1+cc.2=s.1+cc.2 - 1 by omega]
 ·rw[if_neg hin] at hw
  rw[if_neg (by omega)] at hb
  refine .inr ⟨_,hw,?_⟩
  rw[hb]
  have v1:=V.1
  have v2:=V.2.1
  rcases g3 with g3|g3
  ·rw[if_pos (by omega),g3]
  ·rw[if_neg (by omega),g3]
theorem y9{rs:List Rw}{sg:Nat}{z:List Nat}{s:Int×Int}(M:Mach rs sg)(S:bH sg z)(V:kT rs z s)(w:Int):bT (iU rs z) s=bT (aP (dN rs z)) (s.1 - 1,w,s.2):=by
 refine kP fun o=>⟨?_,?_⟩
 ·rintro ⟨n,h⟩
  refine ⟨n,?_⟩
  induction h generalizing w with
  | out h=>
   rcases with_step M S V w with ⟨s',e,_⟩|⟨o',e,g⟩
   · rw [h] at e; cases e
   · rw [h] at e; cases e; exact .out g
  | go h t ih=>
   rcases with_step M S V w with ⟨s',e,V',w',g⟩|⟨o',e,g⟩
   · rw [h] at e; cases e; exact .go g (ih V' w')
   · rw [h] at e; cases e
 ·rintro ⟨n,h⟩
  refine ⟨n,?_⟩
  generalize hs:(s.1 - 1,w,s.2)=p at h
  induction h generalizing s w with
  | out h=>
   subst hs
   rcases with_step M S V w with ⟨s',_,_,w',e⟩|⟨o',g,e⟩
   · rw [h] at e; cases e
   · rw [h] at e; cases e; exact .out g
  | go h t ih=>
   subst hs
   rcases with_step M S V w with ⟨s',g,V',w',e⟩|⟨o',g,e⟩
   · rw [h] at e; cases e; exact .go g (ih V' w' rfl)
   · rw [h] at e; cases e
noncomputable def iI(rs:List Rw)(z:List Nat)(p q:Int):Th:=if 1<=p/\p<=(z.length:Int) then bT (iU rs z) (p,q) else some ((if 0 < p then 1 else -1),q)
theorem aCW{rs:List Rw}{sg:Nat}{z:List Nat}(M:Mach rs sg)(S:bH sg z):(b6 rs z).f=(List.range rs.length).map (fun q:Nat=>iI rs z 1 (q:Int))/\(b6 rs z).a=(List.range rs.length).map (fun q:Nat=>iI rs z (z.length:Int) (q:Int)):=by
 unfold b6
 by_cases h:z=[]
 ·rw[if_pos h]
  subst h
  refine ⟨?_,?_⟩
  ·show (List.range rs.length).map _=_
   refine List.map_congr_left fun q hq=>?_
   unfold iI
   rw[if_neg (by simp),if_pos (by decide)]
  ·show (List.range rs.length).map _=_
   refine List.map_congr_left fun q hq=>?_
   unfold iI
   rw[if_neg (by simp),if_neg (by simp)]
 ·have hl:1<=z.length:=List.length_pos_iff.mpr h
  have hsl:((dN rs z).length:Int)=(z.length:Int):=by unfold dN;simp
  rw[if_neg h]
  refine ⟨?_,?_⟩
  ·show (List.range rs.length).map _=_
   refine List.map_congr_left fun q hq=>?_
   have hq:=List.mem_range.mp hq
   unfold iI
   rw[if_pos (by omega),y9 M S ⟨by show (1:Int)<=1;decide,by show (1:Int)<=_;omega,by show (0:Int)<=(q:Int);omega,by show (q:Int) < _;omega⟩ 1]
   rfl
  ·show (List.range rs.length).map _=_
   refine List.map_congr_left fun q hq=>?_
   have hq:=List.mem_range.mp hq
   unfold iI
   rw[if_pos (by omega),y9 M S ⟨by show (1:Int)<=(z.length:Int);omega,by show (z.length:Int)<=_;omega,by show (0:Int)<=(q:Int);omega,by show (q:Int) < _;omega⟩ (-1),hsl]
end Mc
namespace Fl
open PySem L2 PyProof.Rows
@[simp] theorem lO(d:PyData)(ρ:Sg):eC d ρ=.ok d:=id rfl
@[simp] theorem j1{α β:Type}(g:α->R β)(f:Sg->R α)(ρ:Sg):e1 g f ρ=(f ρ).bind g:=id rfl
@[simp] theorem pA{α β γ:Type}(g:α->β->R γ)(f:Sg->R α)(f':Sg->R β)(ρ:Sg):e2 g f f' ρ=(f ρ).bind fun x=>(f' ρ).bind fun y=>g x y:=id rfl
@[simp] theorem t6(i:Nat)(ρ:Sg):eV i ρ=match ρ[i]? with|some (some (.d x))=>.ok x|_=>.bad:=id rfl
@[simp] theorem iJ(i:Nat)(ρ:Sg):rV i ρ=match ρ[i]? with|some (some (.d x))=>.ok x|some (some (.l xs))=>.ok (.list xs)|_=>.bad:=id rfl
@[simp] theorem aH4(i:Nat)(ρ:Sg):vV i ρ=match ρ[i]? with|some (some (.d x))=>.ok (.d x)|some (some (.x e))=>.ok (.x e)|some (some (.g k n f))=>.ok (.g k n f)|some (some (.f kvs))=>.ok (.f kvs)|_=>.bad:=id rfl
@[simp] theorem rE(f:Sg->R PyData)(ρ:Sg):vD f ρ=(f ρ).bind fun x=>.ok (.d x):=id rfl
@[simp] theorem zA(x:PyData):getD (.d x)=.ok x:=id rfl
@[simp] theorem aH5(f:Sg->R A)(ρ:Sg):eA f ρ=(f ρ).bind getD:=id rfl
@[simp] theorem aH6(f:Sg->R (List PyData))(ρ:Sg):eL f ρ=(f ρ).bind fun xs=>.ok (.list xs):=id rfl
@[simp] theorem kJ{α:Type}(ρ:Sg):(aK (α:=α)) ρ=.ok []:=id rfl
@[simp] theorem pB{α:Type}(f:Sg->R α)(g:Sg->R (List α))(ρ:Sg):aA f g ρ=(f ρ).bind fun x=>(g ρ).bind fun xs=>.ok (x::xs):=id rfl
@[simp] theorem aBF(f:Sg->R (List PyData))(ρ:Sg):bZ f ρ=(f ρ).bind fun xs=>if xs.length<=16777216 then .ok (.tuple xs) else .bad:=id rfl
@[simp] theorem oE(f:Sg->R (List PyData))(ρ:Sg):eN f ρ=(f ρ).bind fun xs=>if xs.length<=16777216 then .ok xs else .bad:=id rfl
@[simp] theorem zB(n:Nat)(G:List A->R A)(f:Sg->R (List A))(ρ:Sg):aY n G f ρ=(f ρ).bind fun as=>if as.length=n then G as else .bad:=id rfl
@[simp] theorem gD(n:Nat)(fb:Sg->R Fw)(as:List A):fnF n fb as=(fb (as.map some++List.replicate (n - as.length) none)).bind fun w=>match w with | .rt (.l _)=>.bad | .rt a=>.ok a | .nx _=>.ok (.d .none)|_=>.bad:=id rfl
@[simp] theorem aL3(ρ:Sg):sNx ρ=.ok (.nx ρ):=id rfl
@[simp] theorem bD(f g:Sg->R Fw)(ρ:Sg):aJ f g ρ=(f ρ).bind fun w=>match w with | .nx ρ'=>g ρ'|w=>.ok w:=id rfl
@[simp] theorem aJL(f:Sg->R A)(ρ:Sg):bP f ρ=(f ρ).bind fun a=>.ok (.rt a):=id rfl
@[simp] theorem aO6(ρ:Sg):aNP ρ=.ok (.rt (.d .none)):=id rfl
@[simp] theorem qJ(t:Sg->R Bool)(f g:Sg->R Fw)(ρ:Sg):sIf t f g ρ=(t ρ).bind fun b=>if b=true then f ρ else g ρ:=id rfl
@[simp] theorem aL4{α:Type}(t:Sg->R Bool)(f g:Sg->R α)(ρ:Sg):eIf t f g ρ=(t ρ).bind fun b=>if b=true then f ρ else g ρ:=id rfl
@[simp] theorem lY(i:Nat)(f:Sg->R A)(ρ:Sg):bU i f ρ=(f ρ).bind fun a=>.ok (.nx (ρ.set i (some a))):=id rfl
@[simp] theorem hU(i:Nat)(f:Sg->R (List PyData))(ρ:Sg):dD i f ρ=(f ρ).bind fun xs=>.ok (.nx (ρ.set i (some (.l xs)))):=id rfl
@[simp] theorem aO7(f:Sg->R A)(ρ:Sg):aCR f ρ=(f ρ).bind fun _=>.ok (.nx ρ):=id rfl
@[simp] theorem t7(i:Nat)(f:Sg->R Fw)(ρ:Sg):sFz i f ρ=f (fz i ρ):=id rfl
@[simp] theorem aQG(i:Nat)(ρ:Sg):fz i ρ=match ρ[i]? with|some (some (.l xs))=>ρ.set i (some (.d (.list xs)))|_=>ρ:=id rfl
@[simp] theorem aPH(i:Nat)(f:Sg->R PyData)(ρ:Sg):g7 i f ρ=match ρ[i]? with|some (some (.l xs))=>(f ρ).bind fun x=>if xs.length < 16777216 then .ok (.nx (ρ.set i (some (.l (xs++[x]))))) else .bad|_=>.bad:=id rfl
@[simp] theorem aPI(fs:PyData->Sg->Option Sg)(f:Sg->R PyData)(ρ:Sg):sN fs f ρ=(f ρ).bind fun x=>(yY (fs x ρ)).bind fun ρ'=>.ok (.nx ρ'):=id rfl
@[simp] theorem jJ(fi:Sg->R (List PyData))(fs:PyData->Sg->Option Sg)(fb:Sg->R Fw)(ρ:Sg):fX fi fs fb ρ=(fi ρ).bind fun xs=>jV fs fb xs ρ:=id rfl
@[simp] theorem i8(js:List (Option Nat))(fi:Sg->R (List PyData))(fs:PyData->Sg->Option Sg)(ft:Sg->R Bool)(fe:Sg->R PyData)(ρ:Sg):c6 js fi fs ft fe ρ=(fi ρ).bind fun xs=>compL fs ft fe (eS js ρ) xs:=id rfl
@[simp] theorem aOF(cn:Str)(fs:List Str)(f:Sg->R (List PyData))(ρ:Sg):tX cn fs f ρ=(f ρ).bind fun xs=>if xs.length=fs.length then .ex ⟨cn,fs.zip xs⟩ else .bad:=id rfl
@[simp] theorem zC(i:Nat)(x:PyData)(ρ:Sg):stN i x ρ=some (ρ.set i (some (.d x))):=id rfl
@[simp] theorem aP0(fs:List (PyData->Sg->Option Sg))(xs:List PyData)(ρ:Sg):stT fs (.tuple xs) ρ=stL fs xs ρ:=id rfl
@[simp] theorem aPJ(ρ:Sg):stL [] [] ρ=some ρ:=id rfl
@[simp] theorem aO8(f:PyData->Sg->Option Sg)(fs:List (PyData->Sg->Option Sg))(x:PyData)(xs:List PyData)(ρ:Sg):stL (f::fs) (x::xs) ρ=(f x ρ).bind (stL fs xs):=id rfl
@[simp] theorem aBG(ρ:Sg):dO ρ=.ok true:=id rfl
@[simp] theorem zD(b:Bool):asB (.bool b)=.ok b:=id rfl
@[simp] theorem aPK(f:Sg->R Bool)(ρ:Sg):gZ f ρ=(f ρ).bind fun b=>.ok (!b):=id rfl
@[simp] theorem aBH(f g:Sg->R Bool)(ρ:Sg):gY f g ρ=(f ρ).bind fun b=>if b=true then g ρ else .ok false:=id rfl
@[simp] theorem aP1(f g:Sg->R Bool)(ρ:Sg):bOr f g ρ=(f ρ).bind fun b=>if b=true then .ok true else g ρ:=id rfl
@[simp] theorem aPL(f:Sg->R PyData)(ρ:Sg):aCP f ρ=(f ρ).bind fun x=>(asB x).bind fun b=>.ok (.bool (!b)):=id rfl
@[simp] theorem aPM(f g:Sg->R PyData)(ρ:Sg):p8 f g ρ=(f ρ).bind fun x=>(asB x).bind fun b=>if b=true then g ρ else .ok (.bool false):=id rfl
@[simp] theorem aP2(f g:Sg->R PyData)(ρ:Sg):eOr f g ρ=(f ρ).bind fun x=>(asB x).bind fun b=>if b=true then .ok (.bool true) else g ρ:=id rfl
@[simp] theorem aP3(g g':PyData->PyData->R PyData)(fa fb fc:Sg->R PyData)(ρ:Sg):eCh g g' fa fb fc ρ=(fa ρ).bind fun x=>(fb ρ).bind fun y=>(g x y).bind fun z=>(asB z).bind fun k=>if k=true then (fc ρ).bind fun w=>g' y w else .ok (.bool false):=id rfl
@[simp] theorem t8{α:Type}(g:PyData->Option Int->Option Int->R α)(f:Sg->R PyData)(lo hi:Sg->R (Option Int))(ρ:Sg):eSl g f lo hi ρ=(f ρ).bind fun x=>(lo ρ).bind fun l=>(hi ρ).bind fun h=>g x l h:=id rfl
@[simp] theorem t9(ρ:Sg):oNo ρ=.ok none:=id rfl
@[simp] theorem uA(f:Sg->R PyData)(ρ:Sg):oSo f ρ=(f ρ).bind fun x=>match x with | .int i=>.ok (some i)|_=>.bad:=id rfl
@[simp] theorem lP(f:Sg->R PyData)(ρ:Sg):iG f ρ=(f ρ).bind fun x=>match x with | .int j=>jU 0 j|_=>.bad:=id rfl
@[simp] theorem aNZ(f g:Sg->R PyData)(ρ:Sg):aI7 f g ρ=(f ρ).bind fun x=>(g ρ).bind fun y=>match x,y with | .int i,.int j=>jU i j|_,_=>.bad:=id rfl
@[simp] theorem aPN(f:Sg->R PyData)(g:Sg->R (Option Int))(ρ:Sg):aO2 f g ρ=(f ρ).bind fun x=>(g ρ).bind fun o=>if o=some (-1) then aLP x else .bad:=id rfl
@[simp] theorem aPO(i:Nat)(g:PyData->PyData->R PyData)(f:Sg->R PyData)(ρ:Sg):aCS i g f ρ=(eV i ρ).bind fun x=>(f ρ).bind fun y=>(g x y).bind fun z=>.ok (.nx (ρ.set i (some (.d z)))):=id rfl
@[simp] theorem pC(i:Nat)(ρ:Sg):jY i ρ=.ok (.nx (ρ.set i (some (.m [])))):=id rfl
@[simp] theorem aJM(neg:Bool)(i:Nat)(f:Sg->R PyData)(ρ:Sg):gM neg i f ρ=(f ρ).bind fun k=>match ρ[i]? with|some (some (.m kvs))=>if dR k (kvs.map (·.1))=true then .ok (.bool (if neg=true then !eO kvs k else eO kvs k)) else .bad|some (some (.f kvs))=>if dR k (kvs.map (·.1))=true then .ok (.bool (if neg=true then !eO kvs k else eO kvs k)) else .bad|_=>.bad:=id rfl
@[simp] theorem aO9(i:Nat)(f:Sg->R PyData)(ρ:Sg):aNR i f ρ=match ρ[i]? with|some (some (.m kvs))=>(f ρ).bind fun k=>if dR k (kvs.map (·.1))=true then (match jX kvs k with|some v=>.ok v|none=>.bad) else .bad|some (some (.f kvs))=>(f ρ).bind fun k=>if dR k (kvs.map (·.1))=true then (match jX kvs k with|some v=>.ok v|none=>.bad) else .bad|_=>.bad:=id rfl
@[simp] theorem aG3(i:Nat)(f g:Sg->R PyData)(ρ:Sg):fZ i f g ρ=(g ρ).bind fun v=>match ρ[i]? with|some (some (.m kvs))=>(f ρ).bind fun k=>if dR k (kvs.map (·.1))=true/\kvs.length<=16777216 then .ok (.nx (ρ.set i (some (.m (putM kvs k v))))) else .bad|_=>.bad:=id rfl
@[simp] theorem uB(i j:Int):cH (.int i) (.int j)=.ok (.int (i+j)):=id rfl
@[simp] theorem aP4(i j:Int):dSub (.int i) (.int j)=.ok (.int (i - j)):=id rfl
@[simp] theorem aPP(i j:Int):o0 (.int i) (.int j)=.ok (.int (i+j)):=id rfl
@[simp] theorem aL5(i:Int):dNeg (.int i)=.ok (.int (-i)):=id rfl
@[simp] theorem aH7(i j:Int):dLt (.int i) (.int j)=.ok (.bool (decide (i < j))):=id rfl
@[simp] theorem aQH(i j:Int):dLe (.int i) (.int j)=.ok (.bool (decide (i<=j))):=id rfl
@[simp] theorem aQI(i j:Int):dGt (.int i) (.int j)=.ok (.bool (decide (j < i))):=id rfl
@[simp] theorem aQJ(i j:Int):dGe (.int i) (.int j)=.ok (.bool (decide (j<=i))):=id rfl
theorem dS{i j:Int}(h:0 < j):dMod (.int i) (.int j)=.ok (.int (i % j)):=if_pos h
theorem hZ{i j:Int}(h:0 < j)(h2:j < 18446744073709551616):dDiv (.int i) (.int j)=.ok (.int (i / j)):=if_pos ⟨h,h2⟩
theorem qK{i j:Int}(h : -18446744073709551616 < j)(h2:j < 18446744073709551616):dMul (.int i) (.int j)=.ok (.int (i * j)):=if_pos (.inr ⟨h,h2⟩)
theorem uC{i j:Int}(h : -18446744073709551616 < i)(h2:i < 18446744073709551616):dMul (.int i) (.int j)=.ok (.int (i * j)):=if_pos (.inl ⟨h,h2⟩)
@[simp] theorem eQ(xs:List PyData):dLen (.list xs)=.ok (.int xs.length):=id rfl
@[simp] theorem uD(xs:List PyData):dLen (.tuple xs)=.ok (.int xs.length):=id rfl
theorem uE{z:Str}(h:z.length<=16777216):dLen (.str z)=.ok (.int z.length):=if_pos h
@[simp] theorem aL6(xs:List PyData):dTup (.list xs)=.ok (.tuple xs):=id rfl
@[simp] theorem aP5(xs:List PyData):dTup (.tuple xs)=.ok (.tuple xs):=id rfl
@[simp] theorem aP6(xs:List PyData):dLst (.list xs)=.ok xs:=id rfl
@[simp] theorem aP7(xs:List PyData):dLst (.tuple xs)=.ok xs:=id rfl
@[simp] theorem aP8(i:Int):dInt (.int i)=.ok (.int i):=id rfl
@[simp] theorem aP9(b:Bool):dInt (.bool b)=.ok (.int (if b=true then 1 else 0)):=id rfl
@[simp] theorem aQK(x:PyData):dIs x .none=.ok (.bool (gO x)):=id rfl
@[simp] theorem aPQ(x:PyData):dIsnt x .none=.ok (.bool (!gO x)):=id rfl
@[simp] theorem aPR:gO .none=true:=id rfl
@[simp] theorem aPS(xs:List PyData):gO (.tuple xs)=false:=id rfl
@[simp] theorem aPT(i:Int):gO (.int i)=false:=id rfl
@[simp] theorem aPU(i:Str):gO (.str i)=false:=id rfl
theorem lZ{α:Type}{xs:List α}{i:Int}{v:α}(h0:0<=i)(h:xs[i.toNat]? = some v):atI xs i=some v:=by
 obtain ⟨j,rfl⟩:∃ j:Nat,i=j:=⟨i.toNat,by omega⟩
 exact iD (j:=j) h
theorem zE{α:Type}(x:α)(t:List α):atI (x::t) 0=some x:=iD (j:=0) rfl
theorem aBI{α:Type}(x y:α)(t:List α):atI (x::y::t) 1=some y:=iD (j:=1) rfl
theorem aJN{α:Type}(x y z:α)(t:List α):atI (x::y::z::t) 2=some z:=iD (j:=2) rfl
theorem nG{xs:List PyData}{i:Int}{v:PyData}(h:atI xs i=some v):dIx (.tuple xs) (.int i)=.ok v:=by show (match atI xs i with|some v=>R.ok v|none=>.bad)=_;rw[h]
theorem pD{xs:List PyData}{i:Int}{v:PyData}(h:atI xs i=some v):dIx (.list xs) (.int i)=.ok v:=by show (match atI xs i with|some v=>R.ok v|none=>.bad)=_;rw[h]
theorem aN0{z:Str}{i:Int}{u:Nat}(hz:z.length<=16777216)(h:atI z.cps.toList i=some u):dIx (.str z) (.int i)=.ok (.str ⟨#[u]⟩):=by
 show (if z.length<=sizeLine then match atI z.cps.toList i with|some u=>R.ok (PyData.str ⟨#[u]⟩)|none=>.bad else .bad)=_
 rw[dI,if_pos hz,h]
@[simp] theorem zF(x:PyData)(t:List PyData):dIx (.tuple (x::t)) (.int 0)=.ok x:=nG (zE x t)
@[simp] theorem aEU(x y:PyData)(t:List PyData):dIx (.tuple (x::y::t)) (.int 1)=.ok y:=nG (aBI x y t)
@[simp] theorem aQA(x y z:PyData)(t:List PyData):dIx (.tuple (x::y::z::t)) (.int 2)=.ok z:=nG (aJN x y z t)
@[simp] theorem aL7(x:PyData)(t:List PyData):dIx (.list (x::t)) (.int 0)=.ok x:=pD (zE x t)
@[simp] theorem aL8(x y:PyData)(t:List PyData):dIx (.list (x::y::t)) (.int 1)=.ok y:=pD (aBI x y t)
theorem i9{xs:List PyData}(h:xs.length<=16777216):a8 (.tuple xs)=.ok xs:=if_pos h
theorem fH{xs:List PyData}(h:xs.length<=16777216):a8 (.list xs)=.ok xs:=if_pos h
theorem sQ{z:Str}(h:z.cps.toList.length<=16777216):a8 (.str z)=.ok (z.cps.toList.map fun u=>.str ⟨#[u]⟩):=if_pos h
theorem aEV{x y:PyData}(hx:SeqAt.shaped x=true)(hy:SeqAt.shaped y=true):dEq x y=.ok (.bool (PyData.eqv x y)):=if_pos ⟨hx,hy⟩
theorem qL{x y:PyData}(hx:SeqAt.shaped x=true)(hy:SeqAt.shaped y=true):dNe x y=.ok (.bool (!PyData.eqv x y)):=if_pos ⟨hx,hy⟩
@[simp] theorem aQB(T:String)(i:Int):eB T (.int i)=.ok (.bool (gL "int" T)):=id rfl
@[simp] theorem aL9(T:String)(i:Str):eB T (.str i)=.ok (.bool (gL "str" T)):=id rfl
@[simp] theorem aEW(T:String)(i:List PyData):eB T (.tuple i)=.ok (.bool (gL "tuple" T)):=id rfl
@[simp] theorem aQC(T:String)(i:List PyData):eB T (.list i)=.ok (.bool (gL "list" T)):=id rfl
@[simp] theorem aQD(T:String)(i:Bool):eB T (.bool i)=.ok (.bool (gL "bool" T)):=id rfl
@[simp] theorem aQE(T:String):eB T .none=.ok (.bool (gL "NoneType" T)):=id rfl
theorem aN1{xs:List PyData}{lo hi:Option Int}(h:¬ (HT.sIx xs.length 0 lo=0/\HT.sIx xs.length xs.length hi=xs.length)):dSl (.tuple xs) lo hi=.ok (.tuple (qG xs lo hi)):=by
 unfold dSl;exact if_pos h
theorem aCX{z:Str}{lo hi:Option Int}(h:z.length<=16777216):dSl (.str z) lo hi=.ok (.str (Txt.slice z lo hi)):=by
 unfold dSl;exact if_pos h
theorem aMA{xs ys:List PyData}(h:xs.isEmpty=false)(h2:xs.length+ys.length<=16777216):cH (.tuple xs) (.tuple ys)=.ok (.tuple (xs++ys)):=by
 unfold cH;exact if_pos ⟨h,by rw[dI];exact h2⟩
theorem aMB{x y:Str}(h:x.length+y.length<=16777216):cH (.str x) (.str y)=.ok (.str (x++y)):=by
 unfold cH;exact if_pos (by rw[dI];exact h)
theorem cV{α:Type}{fs:PyData->Sg->Option Sg}{fe:Sg->R PyData}{ρ0:Sg}{d:α->PyData}{g:α->PyData}:∀ {xs:List α},(∀ x∈xs,∃ ρ1,fs (d x) ρ0=some ρ1/\fe ρ1=.ok (g x))->compL fs dO fe ρ0 (xs.map d)=.ok (xs.map g)
 | [],_=>rfl
 | x::t,h=>by
  obtain ⟨ρ1,h1,h2⟩:=h x List.mem_cons_self
  rw[List.map_cons]
  unfold compL
  rw[h1,cV fun y hy=>h y (List.mem_cons_of_mem _ hy),qD,R.bind_ok,aBG,R.noEx_ok,R.bind_ok,if_pos rfl,h2];rfl
theorem f7{α:Type}{fs:PyData->Sg->Option Sg}{fb:Sg->R Fw}{d:α->PyData}{xs:List α}{ρ:Sg}(J:Nat->Sg->Prop)(h0:J 0 ρ)(hs:∀ (i:Nat) (x:α) (ρ:Sg),xs[i]? = some x->J i ρ->∃ ρ1 ρ2,fs (d x) ρ=some ρ1/\(fb ρ1=.ok (.nx ρ2)\/fb ρ1=.ok (.ct ρ2))/\J (i+1) ρ2) :
  ∃ ρ',jV fs fb (xs.map d) ρ=.ok (.nx ρ')/\J xs.length ρ':=by
 induction xs generalizing ρ J with
 | nil=>exact ⟨ρ,rfl,h0⟩
 | cons x t ih=>
  obtain ⟨ρ1,ρ2,h1,h2,h3⟩:=hs 0 x ρ rfl h0
  obtain ⟨ρ',q1,q2⟩:=ih (ρ:=ρ2) (fun i=>J (i+1)) h3 (fun i y ρ hy hj=>hs (i+1) y ρ (by simpa using hy) hj)
  refine ⟨ρ',?_,q2⟩
  rw[List.map_cons]
  unfold jV
  rw[h1,qD,R.bind_ok]
  rcases h2 with h2|h2<;>rw[h2]<;>exact q1
end Fl
namespace Fl
open PySem L2 PyProof.Rows
theorem jK{t:Sg->R Bool}{b:Sg->R Fw}{ρ ρ':Sg}(h1:t ρ=.ok true)(h2:b ρ=.ok (.nx ρ')):bR t b ρ=bR t b ρ':=by
 rw[nC,h1,R.bind_ok,if_pos rfl,h2];rfl
theorem nH{t:Sg->R Bool}{b:Sg->R Fw}{ρ:Sg}{a:A}(h1:t ρ=.ok true)(h2:b ρ=.ok (.rt a)):bR t b ρ=.ok (.rt a):=by
 rw[nC,h1,R.bind_ok,if_pos rfl,h2];rfl
theorem eJ{t:Sg->R Bool}{b:Sg->R Fw}{ρ:Sg}(h1:t ρ=.ok false):bR t b ρ=.ok (.nx ρ):=by
 rw[nC,h1,R.bind_ok,if_neg (by decide)]
def been{α:Type}(d:α->PyData)(ps:List α):List (PyData×PyData):=ps.map fun p=>(d p,.bool true)
theorem nI{α:Type}(d:α->PyData)(ps:List α):(been d ps).map (·.1)=ps.map d:=by unfold been;rw[List.map_map];rfl
theorem mJ{α:Type}{d:α->PyData}(hd:∀ a b,d a=d b->a=b){ps:List α}{p:α}:eO (been d ps) (d p)=true↔p∈ps:=by
 rw[y3,nI,List.mem_map]
 exact ⟨fun ⟨q,h1,h2⟩=>hd q p h2▸h1,fun h=>⟨p,h,rfl⟩⟩
theorem lD{α:Type}{d:α->PyData}(hd:∀ a b,d a=d b->a=b){ps:List α}{p:α}(h:p∉ps):eO (been d ps) (d p)=false:=by
 cases q:eO (been d ps) (d p) with
 | false=>rfl
 | true=>exact absurd ((mJ hd).mp q) h
theorem pE{α:Type}{d:α->PyData}(hd:∀ a b,d a=d b->a=b){ps:List α}{p:α}(h:p∉ps):putM (been d ps) (d p) (.bool true)=been d (ps++[p]):=by
 unfold putM
 rw[lD hd h,if_neg (by decide)]
 unfold been
 rw[List.map_append];rfl
theorem jL{α:Type}{d:α->PyData}(hk:∀ a,kD (d a)=true)(ps:List α)(p:α):dR (d p) ((been d ps).map (·.1))=true:=by
 unfold dR
 rw[nI,hk,Bool.true_and,Bool.or_eq_true,List.all_eq_true]
 refine .inl fun x hx=>?_
 obtain ⟨q,_,rfl⟩:=List.mem_map.mp hx
 exact hk q
theorem pF{α:Type}(d:α->PyData)(ps:List α):(been d ps).length=ps.length:=by unfold been;rw[List.length_map]
def prD(p:Int×Int):PyData:=.tuple [.int p.1,.int p.2]
theorem l0(a b:Int×Int)(h:prD a=prD b):a=b:=by
 unfold prD at h
 injection h with h
 injection h with h1 h2
 injection h2 with h2 _
 injection h1 with h1
 injection h2 with h2
 exact Prod.ext h1 h2
theorem rF(a:Int×Int):kD (prD a)=true:=rfl
end Fl
namespace Mc
open PySem L2 PyProof.Rows Fl
theorem aBJ{r:Rw}{rs:List Rw}:eH [.d (bC (r::rs))]=.ok (.d (.int r.c.length)):=by
 simp[eH,o7,bC,d8]
theorem aG4{n:Nat}(h1:1<=n)(h3:n<=3)(z:Str):∀ (cs:List Nat) (k:Nat) (u3 u4:Option A),
  jV (stT [stN 3,stN 4]) (sIf (e1 asB (e2 dNin (rV 4) (rV 2))) (tX "NoStrip" ["at"] (aA (eV 3) aK)) sNx) (i6 k (cs.map fun u=>.str ⟨#[u]⟩)) [some (.d (.int n)),some (.d (.str z)),some (.d (.str (Txt.slice "abc" none (some (n:Int))))),u3,u4] =
  match kO n k cs with
  | some i=>.ex ⟨"NoStrip",[("at",.int i)]⟩
  | none=>.ok (.nx [some (.d (.int n)),some (.d (.str z)),some (.d (.str (Txt.slice "abc" none (some (n:Int))))),if cs=[] then u3 else some (.d (.int ((k+cs.length - 1:Nat):Int))),if cs=[] then u4 else (cs.getLast?.map fun u=>A.d (.str ⟨#[u]⟩))]):=by
 intro cs
 induction cs with
 | nil=>intro k u3 u4;rfl
 | cons c t ih=>
  intro k u3 u4
  have hin:dNin (.str ⟨#[c]⟩) (.str (Txt.slice "abc" none (some (n:Int))))=.ok (.bool (!cP n c)):=by
   show R.ok (PyData.bool (!_))=_
   rw[yD h1 h3]
  rw[List.map_cons,i6]
  unfold jV
  rw[tL]
  cases hs:cP n c with
  | false=>simp[hin,hs]
  | true=>
   simp[hin,hs,ih]
   cases kO n (k+1) t with
   | some i=>rfl
   | none=>
    simp
    cases t with
    | nil=>simp
    | cons c' t'=>simp<;>try omega
theorem aN2{n:Nat}(h1:1<=n)(h3:n<=3){z:Str}(hz:z.cps.toList.length<=16777216):g9 [.d (.int n),.d (.str z)]=match kO n 0 z.cps.toList with
  | some i=>.ex ⟨"NoStrip",[("at",.int i)]⟩
  | none=>.ok (.d (.str z)):=by
 have hs:dSl (.str "abc") none (some (n:Int))=.ok (.str (Txt.slice "abc" none (some (n:Int)))):=by
  show (if ("abc":Str).length<=16777216 then R.ok _ else .bad)=_
  exact if_pos (by decide)
 have hn:xK (.str z)=.ok (i6 0 (z.cps.toList.map fun u=>.str ⟨#[u]⟩)):=by
  show (if z.cps.toList.length<=16777216 then R.ok _ else .bad)=_
  exact if_pos hz
 simp only[g9,mH,gD,bD,lY,rE,t8,lO,t9,uA,R.bind_ok,iJ,jJ,j1,t6,List.map_cons,List.map_nil,List.cons_append,List.nil_append,List.length_cons,List.length_nil]
 simp only[List.replicate,List.getElem?_cons_zero,List.getElem?_cons_succ,hs,R.bind_ok,List.set_cons_succ,List.set_cons_zero,hn,aG4 h1 h3]
 cases kO n 0 z.cps.toList with
 | some i=>rfl
 | none=>rfl
theorem Mach.cons{rs:List Rw}{sg:Nat}(M:Mach rs sg):∃ r t,rs=r::t/\r.c.length=sg:=by
 cases rs with
 | nil=>have:=M.len;simp at this
 | cons r t=>exact ⟨r,t,rfl,(M.row r List.mem_cons_self).2⟩
theorem aMC{rs:List Rw}{sg:Nat}(M:Mach rs sg){z:Str}(hz:z.cps.toList.length<=16777216):jI [.d (bC rs),.d (.str z)]=match kO sg 0 z.cps.toList with
  | some i=>.ex ⟨"NoStrip",[("at",.int i)]⟩
  | none=>.ok (.d (.str z)):=by
 obtain ⟨r,t,rfl,hr⟩:=M.cons
 simp[jI,qH,aBJ,hr,aN2 M.sg1 M.sg3 hz]
 cases kO sg 0 z.cps.toList<;>rfl
theorem aG5{rs:List Rw}{sg:Nat}(M:Mach rs sg){z:Str}(S:bH sg z.cps.toList):jI [.d (bC rs),.d (.str z)]=.ok (.d (.str z)):=by
 rw[aMC M (by have:=S.1;omega),yF S.2]
def ck(k:Nat)(r:Rw):Int×Int:=r.c.getD k (0,0)
theorem aJO{rs:List Rw}{sg k:Nat}(M:Mach rs sg)(hk:k < sg):j0 [.d (bC rs),.d (.int k)]=.ok (.d (.list (rs.map fun r=>d6 (ck k r)))):=by
 have h:=cV (fs:=stN 0) (fe:=e2 dIx (e2 dIx (rV 0) (eC (.int 1))) (rV 1)) (ρ0:=[none,some (.d (.int k))]) (d:=d8) (g:=fun r=>d6 (ck k r)) (xs:=rs) fun r hr=>by
  refine ⟨_,rfl,?_⟩
  have e:dIx (.tuple (r.c.map d6)) (.int (k:Int))=.ok (d6 (ck k r)):=nG (iD (j:=k) (by rw[List.getElem?_map,(aBE M hr hk).1];rfl))
  simp[d8,e]
 have hl:(rs.map d8).length<=16777216:=by have:=M.len2;rw[List.length_map];omega
 simp[j0,o8,bC,i9 hl,eS,h]
theorem lE{n:Nat}(h:n<=16777216):jU 0 (n:Int)=.ok ((List.range n).map fun i:Nat=>.int (i:Int)):=by
 unfold jU
 rw[if_pos (by omega)]
 unfold mE
 simp
theorem aN3{n:Nat}(h:n<=1000):lX [.d (.int n)]=.ok (.d (tbD (bL n))):=by
 have h1:=cV (fs:=stN 0) (fe:=bZ (aA (eC (.int 1)) (aA (eV 0) aK))) (ρ0:=[none]) (d:=fun i:Nat=>.int (i:Int)) (g:=fun i:Nat=>eM 1 (i:Int)) (xs:=List.range n) fun i _=>⟨_,rfl,by simp[eM]⟩
 have h2:=cV (fs:=stN 0) (fe:=bZ (aA (e1 dNeg (eC (.int 1))) (aA (eV 0) aK))) (ρ0:=[none]) (d:=fun i:Nat=>.int (i:Int)) (g:=fun i:Nat=>eM (-1) (i:Int)) (xs:=List.range n) fun i _=>⟨_,rfl,by simp[eM]⟩
 have hr:=lE (n:=n) (by omega)
 rw[aIV]
 simp only[lX,vN,gD,bD,lY,rE,j1,aH6,i8,lP,iJ,R.bind_ok,List.map_cons,List.map_nil,List.cons_append,List.nil_append,List.length_cons,List.length_nil,List.replicate,List.getElem?_cons_zero,hr,eS,Option.bind_none,h1,h2,aL6,List.set_cons_succ,List.set_cons_zero,aJL,aBF,pB,kJ,t6,List.getElem?_cons_succ]
 rw[if_pos (by decide)]
 rfl
theorem aEX(z y:Str):mF (.str z) (.str y)=match Builtin.Str.occurrences z y 0 z.length 1 with|i::_=>R.ok (PyData.int i)|[]=>.bad:=rfl
theorem aBK{c:Nat}(h:cP 3 c=true):mF (.str "abc") (.str ⟨#[c]⟩)=.ok (.int ((c - 97:Nat):Int)):=by
 obtain ⟨r,e⟩:=aD4 h
 rw[aEX,e]
theorem zG{n c:Nat}(hn:n<=3)(h:cP n c=true):cP 3 c=true:=decide_eq_true (by have:=of_decide_eq_true h;omega)
theorem aEY{sg c:Nat}(hc:cP sg c=true):bH sg (⟨#[c]⟩:Str).cps.toList:=⟨by simp,fun x hx=>by
 have:x=c:=by simpa using hx
 rw[this];exact hc⟩
theorem aN4{rs:List Rw}{sg c:Nat}(M:Mach rs sg)(hc:cP sg c=true):eP [.d (bC rs),.d (.str ⟨#[c]⟩)]=.ok (.d (tbD (cQ (c - 97) rs))):=by
 have hk:c - 97 < sg:=by have:=of_decide_eq_true hc;omega
 have h1:=cV (fs:=stN 0) (fe:=bZ (aA (e2 dIx (rV 0) (eC (.int 1))) (aA (e2 dIx (rV 0) (eC (.int 0))) aK))) (ρ0:=[none]) (d:=fun r:Rw=>d6 (ck (c - 97) r)) (g:=fun r:Rw=>eM (ck (c - 97) r).2 (ck (c - 97) r).1) (xs:=rs) fun r _=>⟨_,rfl,by simp[eM,d6]⟩
 have hl:(rs.map fun r:Rw=>d6 (ck (c - 97) r)).length<=16777216:=by have:=M.len2;rw[List.length_map];omega
 rw[aG2]
 simp[eP,mI,aG5 M (aEY hc),aBK (zG M.sg3 hc),aJO M hk,fH hl,eS,h1,l8]
 unfold xH ck
 simp
end Mc
namespace Mc
open PySem L2 PyProof.Rows Fl
theorem kK(s:Int×Int):thD (some s)=prD s:=id rfl
theorem fB(i:Int):SeqAt.shaped (.int i)=true:=id rfl
theorem uF(i j:Int):PyData.eqv (.int i) (.int j)=decide (i=j):=by
 rw[PyData.eqv.eq_5]
 by_cases h:i=j
 · simp [h]
 · simp [h]
theorem gE(i j:Int):dEq (.int i) (.int j)=.ok (.bool (decide (i=j))):=by rw[aEV (fB i) (fB j),uF]
theorem aMD(s:Int×Int):dIx (prD s) (.int 0)=.ok (.int s.1):=zF _ _
theorem aME(s:Int×Int):dIx (prD s) (.int 1)=.ok (.int s.2):=aEU _ _ _
theorem vO(s:Int×Int):gO (prD s)=false:=id rfl
noncomputable def gT:Sg->R Bool:=(gY (e1 asB (e2 dIsnt (rV 2) (eC .none))) (e1 asB (e2 dEq (e2 dIx (rV 2) (eC (.int 0))) (rV 3))))
noncomputable def gB:Sg->R Fw:=(aJ (sIf (e1 asB (gM false 4 (eV 2))) (bP (vD (eC .none))) sNx)
 (aJ (fZ 4 (eV 2) (eC (.bool true)))
 (aJ (bU 2 (vD (eIf (e1 asB (e2 dEq (rV 3) (eC (.int 1)))) (e2 dIx (e2 dIx (rV 1) (eC (.int 0))) (e2 dIx (rV 2) (eC (.int 1)))) (e2 dIx (e2 dIx (rV 0) (eC (.int 1))) (e2 dIx (rV 2) (eC (.int 1)))))))
 (bU 3 (vD (e1 dNeg (rV 3)))))))
theorem aG6:o9=aJ (jY 4) (aJ (bR gT gB) (bP (vV 2))):=id rfl
noncomputable def gρ(a b:Tb)(th:Th)(w:Int)(ps:List (Int×Int)):Sg:=[some (.d (tbD a)),some (.d (tbD b)),some (.d (thD th)),some (.d (.int w)),some (.m (been prD ps))]
theorem aBL(a b:Tb)(w:Int)(ps:List (Int×Int)):gT (gρ a b none w ps)=.ok false:=by simp[gT,gρ,thD]
theorem vP(a b:Tb)(s:Int×Int)(w:Int)(ps:List (Int×Int)):gT (gρ a b (some s) w ps)=.ok (decide (s.1=w)):=by simp[gT,gρ,kK,vO,aMD,gE]
theorem aBM{t:Tb}{m:Nat}(h:t.good m){q:Int}(h0:0<=q)(h1:q < m):dIx (.tuple (t.f.map thD)) (.int q)=.ok (thD (t.at 1 q)):=by
 refine nG (lZ h0 ?_)
 rw[List.getElem?_map]
 have:=(h.at (w:=1) h0 h1).1
 rw[if_pos rfl] at this
 rw[this];rfl
theorem aEZ{t:Tb}{m:Nat}(h:t.good m){q:Int}(h0:0<=q)(h1:q < m):dIx (.tuple (t.a.map thD)) (.int q)=.ok (thD (t.at (-1) q)):=by
 refine nG (lZ h0 ?_)
 rw[List.getElem?_map]
 have:=(h.at (w:=-1) h0 h1).1
 rw[if_neg (by decide)] at this
 rw[this];rfl
theorem xO(t:Tb):dIx (tbD t) (.int 0)=.ok (.tuple (t.f.map thD)):=zF _ _
theorem xP(t:Tb):dIx (tbD t) (.int 1)=.ok (.tuple (t.a.map thD)):=aEU _ _ _
theorem aMF{a b:Tb}{s:Int×Int}{w:Int}{ps:List (Int×Int)}(h:s∈ps):gB (gρ a b (some s) w ps)=.ok (.rt (.d .none)):=by
 have h1:=jL rF ps s
 have h2:=(mJ l0).mpr h
 simp[gB,gρ,kK,h1,h2]
theorem aN5{a b:Tb}{m:Nat}(ha:a.good m)(hb:b.good m){s:Int×Int}{ps:List (Int×Int)}(h:s∉ps)(V:oQ m s)(hp:ps.length<=16777216) :
  gB (gρ a b (some s) s.1 ps)=.ok (.nx (gρ a b (if s.1=1 then b.at 1 s.2 else a.at (-1) s.2) (-s.1) (ps++[s]))):=by
 have h1:=jL rF ps s
 have h2:=lD l0 h
 have h3:=pE l0 h
 have h4:(been prD ps).length<=16777216:=by rw[pF];exact hp
 have i1:=aBM hb V.2.1 V.2.2
 have i2:=aEZ ha V.2.1 V.2.2
 simp only[gB,gρ,kK,bD,qJ,j1,aJM,t6,List.getElem?_cons_zero,List.getElem?_cons_succ,R.bind_ok,h1,if_true,h2,zD,Bool.false_eq_true,if_false,aL3,aG3,lO,h4,and_self,h3,List.set_cons_zero,List.set_cons_succ,lY,rE,aL4,pA,iJ,gE,aME,xO,xP,i1,i2,aL5,decide_eq_true_eq]
 by_cases q:s.1=1
 ·simp[q,i1]
 ·simp[q,i2]
theorem aE0{a b:Tb}{m:Nat}(ha:a.good m)(hb:b.good m)(hm:m<=1000){s0:Int×Int}:∀ (n:Nat) (ps:List (Int×Int)) (s:Int×Int),Und2 (d2 a b) s0 ps s->(∀ p∈ps,oQ m p)->oQ m s->2 * m+1<=ps.length+n->
  aJ (bR gT gB) (bP (vV 2)) (gρ a b (some s) s.1 ps)=.ok (.rt (.d (thD (bT (d2 a b) s0)))):=by
 intro n
 induction n with
 | zero=>
  intro ps s U hv V hn
  have:=yH U.nd hv
  omega
 | succ n ih=>
  intro ps s U hv V hn
  have hT:gT (gρ a b (some s) s.1 ps)=.ok true:=by rw[vP,decide_eq_true rfl]
  rw[bD]
  by_cases hs:s∈ps
  ·rw[nH hT (aMF hs),U.met hs];rfl
  ·have hl:ps.length<=2 * m:=yH U.nd hv
   rw[jK hT (aN5 ha hb hs V (by omega))]
   have st:d2 a b s=match (if s.1=1 then b.at 1 s.2 else a.at (-1) s.2) with
    | none=>none
    | some (w,q)=>if w = -s.1 then some (.inl (w,q)) else some (.inr (w,q)):=rfl
   rcases gone_box ha hb V with ⟨g,_⟩|⟨s',g,_,V'⟩|⟨o,g,_⟩
   ·cases hx:(if s.1=1 then b.at 1 s.2 else a.at (-1) s.2) with
    | none=>
     rw[eJ (aBL _ _ _ _),U.sticks g]
     simp[gρ]
    | some x=>
     rw[st,hx] at g
     obtain ⟨w,q⟩:=x
     simp only at g
     split at g<;>cases g
   ·cases hx:(if s.1=1 then b.at 1 s.2 else a.at (-1) s.2) with
    | none=>rw[st,hx] at g;cases g
    | some x=>
     obtain ⟨w,q⟩:=x
     rw[st,hx] at g
     simp only at g
     split at g
     ·rename_i hw
      cases g
      have:=ih (ps++[s]) (w,q) (U.next hs (by rw[st,hx];simp only;rw[if_pos hw])) (fun p hp=>by
       rcases List.mem_append.mp hp with z|z
       · exact hv p z
       · rw [List.mem_singleton.mp z]; exact V) V' (by rw [List.length_append, List.length_singleton]; omega)
      rw[bD] at this
      rw[<-hw]
      exact this
     ·cases g
   ·cases hx:(if s.1=1 then b.at 1 s.2 else a.at (-1) s.2) with
    | none=>rw[st,hx] at g;cases g
    | some x=>
     obtain ⟨w,q⟩:=x
     rw[U.outs g]
     rw[st,hx] at g
     simp only at g
     split at g
     ·cases g
     ·rename_i hw
      cases g
      rw[eJ (by rw[vP,decide_eq_false hw])]
      simp[gρ]
theorem aE1{a b:Tb}{m:Nat}(ha:a.good m)(hb:b.good m)(hm:m<=1000){th:Th}{w:Int}(ht:pZ m th)(hw:w=1\/w = -1):eI [.d (tbD a),.d (tbD b),.d (thD th),.d (.int w)]=.ok (.d (thD (iW a b th w))):=by
 have h0:eI [.d (tbD a),.d (tbD b),.d (thD th),.d (.int w)]=(aJ (bR gT gB) (bP (vV 2)) (gρ a b th w [])).bind fun w=>match w with | .rt (.l _)=>.bad | .rt a=>.ok a | .nx _=>.ok (.d .none)|_=>.bad:=by
  unfold eI
  rw[gD,aG6,bD]
  simp only[pC,R.bind_ok,List.map_cons,List.map_nil,List.cons_append,List.nil_append,List.length_cons,List.length_nil,List.replicate,List.set_cons_succ,List.set_cons_zero,gρ,been]
  try rfl
 rw[h0]
 cases th with
 | none=>
  rw[bD,eJ (aBL _ _ _ _)]
  simp[gρ,iW]
 | some s=>
  by_cases q:s.1=w
  ·subst q
   rw[aE0 ha hb hm (2 * m+1) [] s .start (fun p hp=>by simp at hp) ht (by simp)]
   obtain ⟨d,q⟩:=s
   simp[iW]
  ·rw[bD,eJ (by rw[vP,decide_eq_false q])]
   obtain ⟨d,qq⟩:=s
   simp[gρ,iW,show ¬ d=w from q]
theorem aN6{a b:Tb}{m:Nat}(ha:a.good m)(hb:b.good m)(hm:m<=1000):f6 [.d (tbD a),.d (tbD b)]=.ok (.d (tbD (aW m [a,b]))):=by
 have h1:=cV (fs:=stN 0) (fe:=eA (aY 4 eI (aA (vV 1) (aA (vV 2) (aA (vV 0) (aA (vD (eC (.int 1))) aK)))))) (ρ0:=[none,some (.d (tbD a)),some (.d (tbD b))]) (d:=thD) (g:=fun th=>thD (iW a b th 1)) (xs:=a.f) fun th hth=>⟨_,rfl,by simp[aE1 ha hb hm (ha.gf th hth) (.inl rfl)]⟩
 have h2:=cV (fs:=stN 0) (fe:=eA (aY 4 eI (aA (vV 1) (aA (vV 2) (aA (vV 0) (aA (vD (e1 dNeg (eC (.int 1)))) aK)))))) (ρ0:=[none,some (.d (tbD a)),some (.d (tbD b))]) (d:=thD) (g:=fun th=>thD (iW a b th (-1))) (xs:=b.a) fun th hth=>⟨_,rfl,by simp[aE1 ha hb hm (hb.ga th hth) (.inr rfl)]⟩
 have l1:(a.f.map thD).length<=16777216:=by rw[List.length_map,ha.lf];omega
 have l2:(b.a.map thD).length<=16777216:=by rw[List.length_map,hb.la];omega
 simp[f6,sP,xO,xP,i9 l1,i9 l2,eS,h1,h2]
 unfold tbD l8
 rw[<-aF7 ha hb,<-aF8 ha hb,List.map_map,List.map_map]
 rfl
end Mc
namespace Mc
open PySem L2 PyProof.Rows Fl
end Mc
namespace Mc
open PySem L2 PyProof.Rows Fl
noncomputable def kU:Sg->R Fw:=(aJ (bU 2 (vD (eC (.int 0))))
 (aJ (sIf (e1 asB (e2 dGt (e1 dLen (rV 0)) (eC (.int 0)))) (bU 2 (vD (e2 dIx (rV 0) (e2 dMod (rV 1) (e1 dLen (rV 0)))))) sNx)
 (aJ (bU 3 (vD (e2 dMod (e2 dMul (e2 cH (e2 cH (e2 dMod (rV 2) (eC (.int 2147483647))) (e2 dMul (eC (.int 7919)) (rV 1))) (eC (.int 1))) (eC (.int 48271))) (eC (.int 2147483647)))))
 (bP (vD (e2 cH (e2 dMul (e2 dDiv (rV 2) (eC (.int 2147483647))) (eC (.int 2147483659))) (e2 dMod (e2 cH (e2 dMul (rV 3) (eC (.int 69621))) (e2 dMul (eC (.int 104729)) (rV 1))) (eC (.int 2147483659)))))))))
noncomputable def cB:List A->R A:=fnF 4 kU
noncomputable def lQ:Sg->R Fw:=(aJ (sIf (e1 asB (e2 dEq (e2 dMod (rV 0) (eC (.int 3))) (eC (.int 0)))) (bP (vD (e2 dIx (eL (eN (aA (eC (.str "by")) (aA (eC (.str "out")) aK)))) (e2 dMod (e2 dDiv (rV 0) (eC (.int 3))) (eC (.int 2)))))) sNx)
 (bP (vD (e2 dMod (e2 dDiv (rV 0) (eC (.int 3))) (rV 1)))))
noncomputable def fC:List A->R A:=fnF 2 lQ
noncomputable def jA:Sg->R Fw:=(aJ (bU 3 (vD (e2 dMod (rV 0) (e2 cH (rV 1) (eC (.int 2))))))
 (aJ (bU 0 (vD (e2 dDiv (rV 0) (e2 cH (rV 1) (eC (.int 2))))))
 (aJ (dD 4 (eN aK))
 (aJ (fX (iG (rV 2)) (stN 5) (aJ (g7 4 (bZ (aA (e2 dMod (e2 dDiv (rV 0) (eC (.int 2))) (rV 1)) (aA (e2 dSub (eC (.int 1)) (e2 dMul (e2 dMod (rV 0) (eC (.int 2))) (eC (.int 2)))) aK))))
 (bU 0 (vD (e2 dDiv (rV 0) (e2 dMul (eC (.int 2)) (rV 1)))))))
 (aJ (dD 6 (eN (aA (eV 3) (aA (e2 dMod (rV 0) (e2 cH (rV 1) (eC (.int 2)))) aK))))
 (aJ (dD 6 (c6 [none,some 1] (e1 a8 (rV 6)) (stN 0) dO (eIf (e1 asB (e2 dGe (rV 0) (rV 1))) (e2 dIx (eL (eN (aA (eC (.str "by")) (aA (eC (.str "out")) aK)))) (e2 dSub (rV 0) (rV 1))) (eV 0))))
 (bP (vD (bZ (aA (e2 dIx (rV 6) (eC (.int 0))) (aA (e1 dTup (rV 4)) (aA (e2 dIx (rV 6) (eC (.int 1))) aK))))))))))))
noncomputable def d5:List A->R A:=fnF 7 jA
noncomputable def jB:Sg->R Fw:=(aJ (dD 3 (eN aK))
 (aJ (fX (iG (e2 cH (rV 2) (eC (.int 2)))) (stN 4) (aJ (bU 0 (vD (e2 dMod (e2 cH (e2 dMul (rV 0) (eC (.int 48271))) (eC (.int 7919))) (eC (.int 2147483647)))))
 (g7 3 (e2 dDiv (rV 0) (eC (.int 64))))))
 (aJ (bU 5 (vD (e1 dTup (eL (c6 [none,some 1] (e1 a8 (eSl dSl (rV 3) (oSo (eC (.int 2))) oNo)) (stN 0) dO (bZ (aA (e2 dMod (rV 0) (rV 1)) (aA (e2 dSub (eC (.int 1)) (e2 dMul (e2 dDiv (e2 dMod (e2 dDiv (rV 0) (eC (.int 64))) (eC (.int 3))) (eC (.int 2))) (eC (.int 2)))) aK))))))))
 (bP (vD (bZ (aA (eA (aY 2 fC (aA (vD (e2 dIx (rV 3) (eC (.int 0)))) (aA (vV 1) aK)))) (aA (eV 5) (aA (eA (aY 2 fC (aA (vD (e2 dIx (rV 3) (eC (.int 1)))) (aA (vV 1) aK)))) aK)))))))))
noncomputable def dL:List A->R A:=fnF 6 jB
noncomputable def kL:Sg->R Fw:=(aJ (dD 4 (eN aK))
 (aJ (fX (iG (rV 2)) (stN 5) (sIf (gY (e1 asB (e2 dLt (e2 cH (rV 1) (rV 5)) (e1 dLen (rV 0)))) (e1 asB (e2 dEq (e2 dMod (e2 dIx (rV 0) (eC (.int 0))) (eC (.int 2))) (eC (.int 1))))) (g7 4 (eA (aY 3 d5 (aA (vD (e2 dIx (rV 0) (e2 cH (rV 1) (rV 5)))) (aA (vV 2) (aA (vV 3) aK)))))) (aJ (bU 6 (aY 3 dL (aA (vD (e2 dMod (eA (aY 2 cB (aA (vV 0) (aA (vD (e2 cH (rV 1) (rV 5))) aK)))) (eC (.int 2147483647)))) (aA (vV 2) (aA (vV 3) aK)))))
 (aJ (sIf (gY (e1 asB (e2 dEq (rV 5) (eC (.int 0)))) (gY (e1 asB (e1 (eB "str") (e2 dIx (rV 6) (eC (.int 0))))) (e1 asB (e2 dGt (e2 dMod (e2 dDiv (eA (aY 2 cB (aA (vV 0) (aA (vV 1) aK)))) (eC (.int 8))) (eC (.int 8))) (eC (.int 0)))))) (bU 6 (vD (e2 cH (bZ (aA (e2 dMod (e2 dDiv (eA (aY 2 cB (aA (vV 0) (aA (vV 1) aK)))) (eC (.int 64))) (rV 2)) aK)) (eSl dSl (rV 6) (oSo (eC (.int 1))) oNo)))) sNx)
 (g7 4 (eV 6))))))
 (bP (vD (e1 dTup (rV 4))))))
noncomputable def fU:List A->R A:=fnF 7 kL
noncomputable def mK:Sg->R Fw:=(bP (vD (p8 (e1 (eB "int") (rV 0)) (aCP (e1 (eB "bool") (rV 0))))))
noncomputable def fV:List A->R A:=fnF 1 mK
noncomputable def gP:Sg->R Fw:=(aJ (sIf (e1 asB (e2 dIs (rV 0) (eC .none))) (bP (vD (eC (.bool true)))) sNx)
 (bP (vD (p8 (e1 (eB "tuple") (rV 0)) (p8 (e2 dEq (e1 dLen (rV 0)) (eC (.int 2))) (e1 dAll (eL (c6 [none] (e1 a8 (rV 0)) (stN 0) dO (eA (aY 1 fV (aA (vV 0) aK)))))))))))
noncomputable def dU:List A->R A:=fnF 1 gP
noncomputable def j2:Sg->R Fw:=(aJ (sIf (bOr (gZ (e1 asB (e1 (eB "tuple") (rV 0)))) (bOr (e1 asB (e2 dNe (e1 dLen (rV 0)) (eC (.int 2)))) (e1 asB (e2 dNe (rV 0) (rV 1))))) (bP (vD (eC (.bool false)))) sNx)
 (aJ (fX (e1 a8 (eV 0)) (stN 2) (sIf (bOr (gZ (e1 asB (e1 (eB "tuple") (rV 2)))) (gZ (e1 asB (e1 dAll (eL (c6 [none] (e1 a8 (rV 2)) (stN 0) dO (eA (aY 1 dU (aA (vV 0) aK))))))))) (bP (vD (eC (.bool false)))) sNx))
 (bP (vD (eC (.bool true))))))
noncomputable def dW:List A->R A:=fnF 3 j2
noncomputable def pH:Sg->R Fw:=(aJ (jY 4)
 (aJ (bR (e1 asB (eCh dLt dLe (eC (.int 0)) (rV 2) (e1 dLen (rV 1)))) (aJ (sIf (e1 asB (gM false 4 (bZ (aA (eV 2) (aA (eV 3) aK))))) (bP (vD (eC .none))) sNx)
 (aJ (fZ 4 (bZ (aA (eV 2) (aA (eV 3) aK))) (eC (.bool true)))
 (aJ (sN (stT [(stN 3),(stN 5)]) (e2 dIx (e2 dIx (e2 dIx (rV 0) (rV 3)) (eC (.int 1))) (e2 mF (eC (.str "abc")) (e2 dIx (rV 1) (e2 dSub (rV 2) (eC (.int 1)))))))
 (bU 2 (vD (e2 cH (rV 2) (rV 5))))))))
 (bP (vD (bZ (aA (e2 dIx (eL (eN (aA (e1 dNeg (eC (.int 1))) (aA (eC (.int 1)) aK)))) (e1 dInt (e2 dGt (rV 2) (eC (.int 0))))) (aA (eV 3) aK)))))))
noncomputable def eW:List A->R A:=fnF 6 pH
noncomputable def qM:Sg->R Fw:=(aJ (dD 2 (e1 dLR (e1 dLen (rV 0))))
 (aJ (dD 3 (c6 [none,some 0,some 1] (e1 a8 (rV 2)) (stN 0) dO (eA (aY 4 eW (aA (vV 1) (aA (vV 2) (aA (vD (eC (.int 1))) (aA (vV 0) aK))))))))
 (aJ (dD 4 (c6 [none,some 0,some 1] (e1 a8 (rV 2)) (stN 0) dO (eA (aY 4 eW (aA (vV 1) (aA (vV 2) (aA (vD (e1 dLen (rV 2))) (aA (vV 0) aK))))))))
 (bP (vD (bZ (aA (e1 dTup (rV 3)) (aA (e1 dTup (rV 4)) aK))))))))
noncomputable def mL:List A->R A:=fnF 5 qM
noncomputable def pG:Sg->R Fw:=(aJ (jY 4)
 (aJ (bR (e1 asB (eCh dLe dLt (eC (.int 0)) (rV 1) (e1 dLen (rV 0)))) (aJ (sIf (e1 asB (gM false 4 (bZ (aA (eV 1) (aA (eV 2) (aA (eV 3) aK)))))) (bP (vD (eC .none))) sNx)
 (aJ (fZ 4 (bZ (aA (eV 1) (aA (eV 2) (aA (eV 3) aK)))) (eC (.bool true)))
 (aJ (bU 5 (vD (e2 dIx (e2 dIx (e2 dIx (rV 0) (rV 1)) (e1 dInt (e2 dLt (rV 2) (eC (.int 0))))) (rV 3))))
 (aJ (sIf (e1 asB (e2 dIs (rV 5) (eC .none))) (bP (vD (eC .none))) sNx)
 (aJ (sN (stT [(stN 2),(stN 3)]) (eV 5))
 (bU 1 (vD (e2 cH (rV 1) (rV 2))))))))))
 (bP (vD (bZ (aA (eV 2) (aA (eV 3) aK)))))))
noncomputable def fD:List A->R A:=fnF 6 pG
noncomputable def mM:Sg->R Fw:=(aJ (dD 2 (c6 [none,some 0] (iG (rV 1)) (stN 0) dO (eA (aY 4 fD (aA (vV 1) (aA (vD (eC (.int 0))) (aA (vD (eC (.int 1))) (aA (vV 0) aK))))))))
 (aJ (dD 3 (c6 [none,some 0] (iG (rV 1)) (stN 0) dO (eA (aY 4 fD (aA (vV 1) (aA (vD (e2 dSub (e1 dLen (rV 1)) (eC (.int 1)))) (aA (vD (e1 dNeg (eC (.int 1)))) (aA (vV 0) aK))))))))
 (bP (vD (bZ (aA (e1 dTup (rV 2)) (aA (e1 dTup (rV 3)) aK)))))))
noncomputable def cR:List A->R A:=fnF 4 mM
noncomputable def lG:Sg->R Fw:=(aJ (jY 4)
 (aJ (bR (e1 asB (eCh dLt dLe (eC (.int 0)) (rV 2) (e1 dLen (rV 1)))) (aJ (sIf (e1 asB (gM false 4 (bZ (aA (eV 2) (aA (eV 3) aK))))) (bP (vD (eC .none))) sNx)
 (aJ (fZ 4 (bZ (aA (eV 2) (aA (eV 3) aK))) (eC (.bool true)))
 (aJ (sN (stT [(stN 3),(stN 5)]) (e2 dIx (e2 dIx (e2 dIx (rV 0) (rV 3)) (eC (.int 1))) (e2 mF (eC (.str "abc")) (e2 dIx (rV 1) (e2 dSub (rV 2) (eC (.int 1)))))))
 (bU 2 (vD (e2 cH (rV 2) (rV 5))))))))
 (bP (vD (bZ (aA (e2 dIx (eL (eN (aA (e1 dNeg (eC (.int 1))) (aA (eC (.int 1)) aK)))) (e1 dInt (e2 dGt (rV 2) (eC (.int 0))))) (aA (eV 3) aK)))))))
noncomputable def fK:List A->R A:=fnF 6 lG
noncomputable def mO:Sg->R Fw:=(aJ (dD 2 (e1 dLR (e1 dLen (rV 0))))
 (aJ (dD 3 (c6 [none,some 0,some 1] (e1 a8 (rV 2)) (stN 0) dO (eA (aY 4 fK (aA (vV 1) (aA (vV 2) (aA (vD (eC (.int 1))) (aA (vV 0) aK))))))))
 (aJ (dD 4 (c6 [none,some 0,some 1] (e1 a8 (rV 2)) (stN 0) dO (eA (aY 4 fK (aA (vV 1) (aA (vV 2) (aA (vD (e1 dLen (rV 2))) (aA (vV 0) aK))))))))
 (bP (vD (bZ (aA (e1 dTup (rV 3)) (aA (e1 dTup (rV 4)) aK))))))))
noncomputable def bK:List A->R A:=fnF 5 mO
end Mc
namespace Mc
open PySem L2 PyProof.Rows Fl
def lF(ns:List Int):PyData:=.list (ns.map .int)
theorem oF(ns:List Int):dLen (lF ns)=.ok (.int ns.length):=by unfold lF;rw[eQ,List.length_map]
theorem zH{ns:List Int}{i:Int}(h0:0<=i)(h1:i < ns.length):∃ v,dIx (lF ns) (.int i)=.ok (.int v):=by
 refine ⟨ns[i.toNat]'(by omega),pD (lZ h0 ?_)⟩
 rw[List.getElem?_map,List.getElem?_eq_getElem (by omega)];rfl
theorem zI(ns:List Int)(k:Int):∃ v,cB [.d (lF ns),.d (.int k)]=.ok (.d (.int v)):=by
 by_cases h:(0:Int) < ns.length
 ·obtain ⟨v,hv⟩:=zH (ns:=ns) (i:=k % (ns.length:Int)) (Int.emod_nonneg _ (by omega)) (Int.emod_lt_of_pos _ h)
  have hm:dMod (.int k) (.int (ns.length:Int))=.ok (.int (k % (ns.length:Int))):=dS h
  have hd:0 < ns.length:=by omega
  refine ⟨v / 2147483647 * 2147483659+((v % 2147483647+7919 * k+1) * 48271 % 2147483647 * 69621+104729 * k) % 2147483659,?_⟩
  unfold cB kU
  simp[oF,hd,hm,hv,dS,qK,uC,hZ]
 ·have hd:¬ 0 < ns.length:=by omega
  refine ⟨((7919 * k+1) * 48271 % 2147483647 * 69621+104729 * k) % 2147483659,?_⟩
  unfold cB kU
  simp[oF,hd,dS,qK,uC,hZ]
theorem aMG(x y:PyData)(i:Int):∃ z,dIx (.list [x,y]) (.int (i % 2))=.ok z/\(z=x\/z=y):=by
 rcases Int.emod_two_eq i with h|h
 · rw [h]; exact ⟨x, aL7 _ _, .inl rfl⟩
 · rw [h]; exact ⟨y, aL8 _ _ _, .inr rfl⟩
theorem aH8(x:Int){n:Int}(hn:0 < n):∃ t:Tn,fC [.d (.int x),.d (.int n)]=.ok (.d t.d)/\t.good n:=by
 by_cases h:x % 3=0
 ·obtain ⟨z,hz,hzz⟩:=aMG (.str "by") (.str "out") (x / 3)
  have hd:decide (x % 3=0)=true:=decide_eq_true h
  have e:fC [.d (.int x),.d (.int n)]=.ok (.d z):=by
   unfold fC lQ
   simp[dS,hZ,gE,hd,hz]
  rcases hzz with rfl|rfl
  ·exact ⟨.w "by",e,.inl rfl⟩
  ·exact ⟨.w "out",e,.inr rfl⟩
 ·have hd:decide (x % 3=0)=false:=decide_eq_false h
  refine ⟨.n (x / 3 % n),?_,Int.emod_nonneg _ (by omega),Int.emod_lt_of_pos _ hn⟩
  unfold fC lQ
  simp[dS,hZ,gE,hd,hn]
  rfl
theorem aBN(x:Int){n:Int}{sg:Nat}(hn:0 < n)(hs:sg<=1000):∃ r:Rw,dL [.d (.int x),.d (.int n),.d (.int sg)]=.ok (.d (d8 r))/\r.good n/\r.c.length=sg:=by
 have hr:jU 0 ((sg:Int)+2)=.ok ((List.range (sg+2)).map fun i:Nat=>.int (i:Int)):=by
  have:=lE (n:=sg+2) (by omega)
  rw[show (((sg+2:Nat)):Int)=(sg:Int)+2 by omega] at this
  exact this
 obtain ⟨ρ',hf,y,ps,u4,hp,rfl⟩:=f7 (fs:=stN 4) (fb:=aJ (bU 0 (vD (e2 dMod (e2 cH (e2 dMul (rV 0) (eC (.int 48271))) (eC (.int 7919))) (eC (.int 2147483647))))) (g7 3 (e2 dDiv (rV 0) (eC (.int 64)))))
  (d:=fun i:Nat=>.int (i:Int)) (xs:=List.range (sg+2)) (ρ:=[some (.d (.int x)),some (.d (.int n)),some (.d (.int sg)),some (.l []),none,none])
  (fun i ρ=>∃ (y:Int) (ps:List Int) (u4:Option A),ps.length=i/\ρ=[some (.d (.int y)),some (.d (.int n)),some (.d (.int sg)),some (.l (ps.map .int)),u4,none]) ⟨x,[],none,rfl,rfl⟩
  (fun i k ρ hk hρ=>by
   obtain ⟨y,ps,u4,hp,rfl⟩:=hρ
   have hi:i < sg+2:=by have:=(List.getElem?_eq_some_iff.mp hk).1;simpa using this
   refine ⟨_,_,rfl,.inl ?_,(y * 48271+7919) % 2147483647,ps++[(y * 48271+7919) % 2147483647 / 64],some (.d (.int k)),by simp[hp],rfl⟩
   have hl:(ps.map PyData.int).length < 16777216:=by rw[List.length_map,hp];omega
   simp[qK,uC,dS,hZ,hl]
   omega)
 rw[List.length_range] at hp
 obtain ⟨p0,p1,qs,rfl,hq⟩:∃ p0 p1 qs,ps=p0::p1::qs/\qs.length=sg:=by
  match ps,hp with
  | p0::p1::qs,hp=>exact ⟨p0,p1,qs,rfl,by simpa using hp⟩
 have hcut:dSl (.list ((p0::p1::qs).map .int)) (some 2) none=.ok (.list (qs.map .int)):=by
  show R.ok (PyData.list (qG _ _ _))=_
  unfold qG HT.sIx
  simp
  rw[List.take_of_length_le (by simp)]
 obtain ⟨t0,e0,g0⟩:=aH8 p0 hn
 obtain ⟨t1,e1',g1⟩:=aH8 p1 hn
 have hc:=cV (fs:=stN 0) (fe:=bZ (aA (e2 dMod (rV 0) (rV 1)) (aA (e2 dSub (eC (.int 1)) (e2 dMul (e2 dDiv (e2 dMod (e2 dDiv (rV 0) (eC (.int 64))) (eC (.int 3))) (eC (.int 2))) (eC (.int 2)))) aK))) (ρ0:=[none,some (.d (.int n))]) (d:=PyData.int) (g:=fun q=>d6 (q % n,1 - q / 64 % 3 / 2 * 2)) (xs:=qs) fun q _=>⟨_,rfl,by simp[dS,hZ,qK,hn,d6]⟩
 have hi:a8 (.list (qs.map .int))=.ok (qs.map .int):=fH (by rw[List.length_map];omega)
 refine ⟨⟨t0,qs.map fun q=>(q % n,1 - q / 64 % 3 / 2 * 2),t1⟩,?_,⟨g0,g1,fun c hc=>?_⟩,by simpa using hq⟩
 ·unfold dL jB
  simp only[gD,List.map_cons,List.map_nil,List.cons_append,List.nil_append,List.length_cons,List.length_nil,List.replicate,bD,hU,oE,kJ,R.bind_ok]
  simp[hr]
  rw[hf]
  simp at hcut hi hc
  simp[hcut,hi,eS,hc,e0,e1',d8]
 ·obtain ⟨q,_,rfl⟩:=List.mem_map.mp hc
  refine ⟨Int.emod_nonneg _ (by omega),Int.emod_lt_of_pos _ hn,?_⟩
  simp only
  omega
end Mc
namespace Mc
open PySem L2 PyProof.Rows Fl
theorem aJP(x:Int){n:Int}{sg:Nat}(hn:0 < n)(hn2:n<=1000)(hs:sg<=1000):∃ r:Rw,d5 [.d (.int x),.d (.int n),.d (.int sg)]=.ok (.d (d8 r))/\r.good n/\r.c.length=sg:=by
 have hr:=lE (n:=sg) (by omega)
 have hn3:(0:Int) < n+2:=by omega
 have hn4:n+2 < 18446744073709551616:=by omega
 have h2n:(0:Int) < 2 * n:=by omega
 have h2n':2 * n < 18446744073709551616:=by omega
 obtain ⟨ρ',hf,y,cs,u5,hp,hg,rfl⟩:=f7 (fs:=stN 5) (fb:=aJ (g7 4 (bZ (aA (e2 dMod (e2 dDiv (rV 0) (eC (.int 2))) (rV 1)) (aA (e2 dSub (eC (.int 1)) (e2 dMul (e2 dMod (rV 0) (eC (.int 2))) (eC (.int 2)))) aK)))) (bU 0 (vD (e2 dDiv (rV 0) (e2 dMul (eC (.int 2)) (rV 1))))))
  (d:=fun i:Nat=>.int (i:Int)) (xs:=List.range sg) (ρ:=[some (.d (.int (x / (n+2)))),some (.d (.int n)),some (.d (.int sg)),some (.d (.int (x % (n+2)))),some (.l []),none,none])
  (fun i ρ=>∃ (y:Int) (cs:List (Int×Int)) (u5:Option A),cs.length=i/\(∀ c∈cs,l9 n c)/\ρ=[some (.d (.int y)),some (.d (.int n)),some (.d (.int sg)),some (.d (.int (x % (n+2)))),some (.l (cs.map d6)),u5,none]) ⟨x / (n+2),[],none,rfl,fun c hc=>by simp at hc,rfl⟩
  (fun i k ρ hk hρ=>by
   obtain ⟨y,cs,u5,hp,hg,rfl⟩:=hρ
   have hi:i < sg:=by have:=(List.getElem?_eq_some_iff.mp hk).1;simpa using this
   have hl:(cs.map d6).length < 16777216:=by rw[List.length_map,hp];omega
   refine ⟨_,_,rfl,.inl ?_,y / (2 * n),cs++[(y / 2 % n,1 - y % 2 * 2)],some (.d (.int k)),by simp[hp],fun c hc=>?_,rfl⟩
   ·have hl':cs.length < 16777216:=by omega
    simp[qK,uC,dS,hZ,hn,h2n,h2n',d6,hl']
   ·rcases List.mem_append.mp hc with z|z
    ·exact hg c z
    ·rw[List.mem_singleton.mp z]
     refine ⟨Int.emod_nonneg _ (by omega),Int.emod_lt_of_pos _ hn,?_⟩
     simp only;omega)
 rw[List.length_range] at hp
 have key:∀ e:Int,0<=e->e < n+2->∃ t:Tn,(eIf (e1 asB (e2 dGe (rV 0) (rV 1))) (e2 dIx (eL (eN (aA (eC (.str "by")) (aA (eC (.str "out")) aK)))) (e2 dSub (rV 0) (rV 1))) (eV 0)) [some (.d (.int e)),some (.d (.int n))]=.ok t.d/\t.good n:=fun e h0 h1=>by
  by_cases h:n<=e
  ·obtain rfl|rfl:e=n\/e=n+1:=by omega
   ·exact ⟨.w "by",by simp[Tn.d],.inl rfl⟩
   ·exact ⟨.w "out",by simp[Tn.d,show n+1 - n=1 by omega,show n<=n+1 by omega],.inr rfl⟩
  ·exact ⟨.n e,by simp[Tn.d,h],h0,by omega⟩
 obtain ⟨t0,e0,g0⟩:=key (x % (n+2)) (Int.emod_nonneg _ (by omega)) (Int.emod_lt_of_pos _ hn3)
 obtain ⟨t1,e1',g1⟩:=key (y % (n+2)) (Int.emod_nonneg _ (by omega)) (Int.emod_lt_of_pos _ hn3)
 have hc:compL (stN 0) dO (eIf (e1 asB (e2 dGe (rV 0) (rV 1))) (e2 dIx (eL (eN (aA (eC (.str "by")) (aA (eC (.str "out")) aK)))) (e2 dSub (rV 0) (rV 1))) (eV 0)) [none,some (.d (.int n))] [.int (x % (n+2)),.int (y % (n+2))]=.ok [t0.d,t1.d]:=by
  simp only[compL,zC,List.set_cons_zero,qD,R.bind_ok,aBG,R.noEx_ok,if_true,e0,e1']
 have hi:∀ a b:PyData,a8 (.list [a,b])=.ok [a,b]:=fun a b=>fH (by simp)
 refine ⟨⟨t0,cs,t1⟩,?_,⟨g0,g1,hg⟩,hp⟩
 unfold d5 jA
 simp only[gD,List.map_cons,List.map_nil,List.cons_append,List.nil_append,List.length_cons,List.length_nil,List.replicate,bD,lY,rE,pA,iJ,lO,List.getElem?_cons_zero,List.getElem?_cons_succ,R.bind_ok,uB,dS hn3,hZ hn3 hn4,List.set_cons_zero,List.set_cons_succ,hU,oE,kJ,jJ,lP,hr]
 simp only[Nat.zero_le,if_true,R.bind_ok,List.set_cons_zero,List.set_cons_succ,List.getElem?_cons_zero,List.getElem?_cons_succ,hr,hf]
 simp only[pB,t6,kJ,pA,iJ,lO,List.getElem?_cons_zero,List.getElem?_cons_succ,R.bind_ok,uB,dS hn3,i8,j1,List.set_cons_zero,List.set_cons_succ]
 simp[hi,eS,hc,d8,dS hn3]
theorem aMH{ns:List Int}{at':Int}{n sg:Nat}(hat:0<=at')(h1:1<=n)(h2:n<=1000)(s1:1<=sg)(s3:sg<=3):∃ rs:List Rw,fU [.d (lF ns),.d (.int at'),.d (.int n),.d (.int sg)]=.ok (.d (bC rs))/\Mach rs sg/\rs.length=n:=by
 have hr:=lE (n:=n) (by omega)
 have hn:(0:Int) < (n:Int):=by omega
 obtain ⟨ρ',hf,rs,u5,u6,hp,hg,rfl⟩:=f7 (fs:=stN 5) (fb:=(sIf (gY (e1 asB (e2 dLt (e2 cH (rV 1) (rV 5)) (e1 dLen (rV 0)))) (e1 asB (e2 dEq (e2 dMod (e2 dIx (rV 0) (eC (.int 0))) (eC (.int 2))) (eC (.int 1))))) (g7 4 (eA (aY 3 d5 (aA (vD (e2 dIx (rV 0) (e2 cH (rV 1) (rV 5)))) (aA (vV 2) (aA (vV 3) aK)))))) (aJ (bU 6 (aY 3 dL (aA (vD (e2 dMod (eA (aY 2 cB (aA (vV 0) (aA (vD (e2 cH (rV 1) (rV 5))) aK)))) (eC (.int 2147483647)))) (aA (vV 2) (aA (vV 3) aK)))))
 (aJ (sIf (gY (e1 asB (e2 dEq (rV 5) (eC (.int 0)))) (gY (e1 asB (e1 (eB "str") (e2 dIx (rV 6) (eC (.int 0))))) (e1 asB (e2 dGt (e2 dMod (e2 dDiv (eA (aY 2 cB (aA (vV 0) (aA (vV 1) aK)))) (eC (.int 8))) (eC (.int 8))) (eC (.int 0)))))) (bU 6 (vD (e2 cH (bZ (aA (e2 dMod (e2 dDiv (eA (aY 2 cB (aA (vV 0) (aA (vV 1) aK)))) (eC (.int 64))) (rV 2)) aK)) (eSl dSl (rV 6) (oSo (eC (.int 1))) oNo)))) sNx)
 (g7 4 (eV 6))))))
  (d:=fun i:Nat=>.int (i:Int)) (xs:=List.range n) (ρ:=[some (.d (lF ns)),some (.d (.int at')),some (.d (.int n)),some (.d (.int sg)),some (.l []),none,none])
  (fun i ρ=>∃ (rs:List Rw) (u5 u6:Option A),rs.length=i/\(∀ r∈rs,r.good n/\r.c.length=sg)/\ρ=[some (.d (lF ns)),some (.d (.int at')),some (.d (.int n)),some (.d (.int sg)),some (.l (rs.map d8)),u5,u6]) ⟨[],none,none,rfl,fun c hc=>by simp at hc,rfl⟩
  (fun i k ρ hk hρ=>by
   obtain ⟨rs,u5,u6,hp,hg,rfl⟩:=hρ
   have hi:i < n:=by have:=(List.getElem?_eq_some_iff.mp hk).1;simpa using this
   have hl:rs.length < 16777216:=by omega
   have snoc:∀ r:Rw,r.good n/\r.c.length=sg->∀ x∈rs++[r],x.good n/\x.c.length=sg:=fun r hr x hx=>by
    rcases List.mem_append.mp hx with z|z
    ·exact hg x z
    ·rw[List.mem_singleton.mp z];exact hr
   obtain ⟨v,hv⟩:=zI ns (at'+k)
   obtain ⟨r,hr,gr⟩:=aBN (v % 2147483647) (n:=(n:Int)) (sg:=sg) hn (by omega)
   obtain ⟨v2,hv2⟩:=zI ns at'
   have hsl:∀ r:Rw,dSl (d8 r) (some 1) none=.ok (.tuple [.tuple (r.c.map d6),r.r.d]):=fun r=>by
    unfold d8
    rw[aN1 (by unfold HT.sIx;simp)]
    unfold qG HT.sIx
    simp
   have put:∀ (u5 u6:Option A) (r:Rw),(g7 4 (eV 6)) [some (.d (lF ns)),some (.d (.int at')),some (.d (.int n)),some (.d (.int sg)),some (.l (rs.map d8)),u5,some (.d (d8 r))]=.ok (.nx [some (.d (lF ns)),some (.d (.int at')),some (.d (.int n)),some (.d (.int sg)),some (.l ((rs++[r]).map d8)),u5,some (.d (d8 r))]):=fun u5 u6 r=>by simp[hl]
   have mixed:∀ ρ2,ρ2=[some (.d (lF ns)),some (.d (.int at')),some (.d (.int n)),some (.d (.int sg)),some (.l (rs.map d8)),some (.d (.int k)),u6]->∃ r2:Rw,(r2.good n/\r2.c.length=sg)/\∃ u6',(aJ (bU 6 (aY 3 dL (aA (vD (e2 dMod (eA (aY 2 cB (aA (vV 0) (aA (vD (e2 cH (rV 1) (rV 5))) aK)))) (eC (.int 2147483647)))) (aA (vV 2) (aA (vV 3) aK)))))
     (aJ (sIf (gY (e1 asB (e2 dEq (rV 5) (eC (.int 0)))) (gY (e1 asB (e1 (eB "str") (e2 dIx (rV 6) (eC (.int 0))))) (e1 asB (e2 dGt (e2 dMod (e2 dDiv (eA (aY 2 cB (aA (vV 0) (aA (vV 1) aK)))) (eC (.int 8))) (eC (.int 8))) (eC (.int 0)))))) (bU 6 (vD (e2 cH (bZ (aA (e2 dMod (e2 dDiv (eA (aY 2 cB (aA (vV 0) (aA (vV 1) aK)))) (eC (.int 64))) (rV 2)) aK)) (eSl dSl (rV 6) (oSo (eC (.int 1))) oNo)))) sNx)
     (g7 4 (eV 6)))) ρ2=.ok (.nx [some (.d (lF ns)),some (.d (.int at')),some (.d (.int n)),some (.d (.int sg)),some (.l ((rs++[r2]).map d8)),some (.d (.int k)),u6']):=by
    rintro ρ2 rfl
    by_cases c1:k=0
    case neg=>
     exact ⟨r,gr,some (.d (d8 r)),by simp[hv,dS,hr,c1,gE,hl]⟩
    subst c1
    obtain ⟨r,hr,gr⟩:=aBN (v2 % 2147483647) (n:=(n:Int)) (sg:=sg) hn (by omega)
    have hix:dIx (d8 r) (.int 0)=.ok r.l.d:=zF _ _
    have hty:∃ b,eB "str" r.l.d=.ok (.bool b):=by cases r.l<;>exact ⟨_,rfl⟩
    obtain ⟨b,hb⟩:=hty
    have hadd:cH (.tuple [.int (v2 / 64 % (n:Int))]) (.tuple [.tuple (r.c.map d6),r.r.d])=.ok (d8 ⟨.n (v2 / 64 % (n:Int)),r.c,r.r⟩):=by
     rw[aMA rfl (by simp)];rfl
    have good2:(⟨.n (v2 / 64 % (n:Int)),r.c,r.r⟩:Rw).good n/\r.c.length=sg:=⟨⟨⟨Int.emod_nonneg _ (by omega),Int.emod_lt_of_pos _ hn⟩,gr.1.2.1,gr.1.2.2⟩,gr.2⟩
    cases hbb:b with
    | false=>
     subst hbb
     exact ⟨r,gr,some (.d (d8 r)),by simp[hv2,dS,hr,gE,hix,hb,hl]⟩
    | true=>
     subst hbb
     by_cases c3:0 < v2 / 8 % 8
     ·refine ⟨⟨.n (v2 / 64 % (n:Int)),r.c,r.r⟩,good2,some (.d (d8 ⟨.n (v2 / 64 % (n:Int)),r.c,r.r⟩)),?_⟩
      simp[hv2,dS,dS hn,hr,gE,hix,hb,hl,hZ,c3,hsl,hadd]
     ·exact ⟨r,gr,some (.d (d8 r)),by simp[hv2,dS,hr,gE,hix,hb,hl,hZ,c3]⟩
   obtain ⟨r2,g2,u6',hm⟩:=mixed _ rfl
   by_cases c1:at'+(k:Int) < (ns.length:Int)
   ·obtain ⟨w0,hw0⟩:=zH (ns:=ns) (i:=0) (Int.le_refl _) (by omega)
    by_cases c2:w0 % 2=1
    ·obtain ⟨w1,hw1⟩:=zH (ns:=ns) (i:=at'+k) (by omega) c1
     obtain ⟨r3,hr3,g3⟩:=aJP w1 (n:=(n:Int)) (sg:=sg) hn (by omega) (by omega)
     refine ⟨_,_,rfl,.inl ?_,rs++[r3],some (.d (.int k)),u6,by simp[hp],snoc r3 g3,rfl⟩
     simp[oF,c1,hw0,dS,c2,gE,hw1,hr3,hl]
    ·refine ⟨_,_,rfl,.inl ?_,rs++[r2],some (.d (.int k)),u6',by simp[hp],snoc r2 g2,rfl⟩
     rw[<-hm]
     simp only[zC,List.set_cons_succ,List.set_cons_zero]
     rw[qJ]
     simp only[aBH,j1,pA,iJ,lO,List.getElem?_cons_zero,List.getElem?_cons_succ,R.bind_ok,uB,oF,aH7,zD,c1,decide_true,if_true,hw0,dS (show (0:Int) < 2 by decide),gE,c2,decide_false,Bool.false_eq_true,if_false]
   ·refine ⟨_,_,rfl,.inl ?_,rs++[r2],some (.d (.int k)),u6',by simp[hp],snoc r2 g2,rfl⟩
    rw[<-hm]
    simp only[zC,List.set_cons_succ,List.set_cons_zero]
    rw[qJ]
    simp only[aBH,j1,pA,iJ,lO,List.getElem?_cons_zero,List.getElem?_cons_succ,R.bind_ok,uB,oF,aH7,zD,c1,decide_false,Bool.false_eq_true,if_false])
 rw[List.length_range] at hp
 refine ⟨rs,?_,⟨by omega,by omega,s1,s3,fun r hr=>by rw[hp];exact hg r hr⟩,hp⟩
 unfold fU kL
 simp only[gD,List.map_cons,List.map_nil,List.cons_append,List.nil_append,List.length_cons,List.length_nil,List.replicate,bD,hU,oE,kJ,R.bind_ok,Nat.zero_le,if_true,List.set_cons_zero,List.set_cons_succ,jJ,lP,iJ,List.getElem?_cons_zero,List.getElem?_cons_succ,hr,hf]
 simp[bC]
end Mc
namespace Mc
open PySem L2 PyProof.Rows Fl
end Mc
namespace Mc
open PySem L2 PyProof.Rows Fl
theorem wL(t:Tb):SeqAt.shaped (tbD t)=true:=aCF (m9 _) (m9 _)
theorem aE2(t:Tb):(tbD t).eqv (tbD t)=true:=aIU (m9 _) (m9 _)
theorem aMI(t:Tb):dNe (tbD t) (tbD t)=.ok (.bool false):=by rw[qL (wL t) (wL t),aE2];rfl
theorem aJQ(i:Int):fV [.d (.int i)]=.ok (.d (.bool true)):=by
 have h1:gL "int" "int"=true:=by decide
 have h2:gL "int" "bool"=false:=by decide
 simp[fV,mK,h1,h2]
theorem aMJ(th:Th):dU [.d (thD th)]=.ok (.d (.bool true)):=by
 cases th with
 | none=>simp[dU,gP,thD]
 | some s=>
  obtain ⟨w,q⟩:=s
  have h1:gL "tuple" "tuple"=true:=by decide
  have hi:a8 (eM w q)=.ok [.int w,.int q]:=i9 (by simp)
  have hc:=cV (fs:=stN 0) (fe:=eA (aY 1 fV (aA (vV 0) aK))) (ρ0:=[none]) (d:=PyData.int) (g:=fun _=>.bool true) (xs:=[w,q]) fun i _=>⟨_,rfl,by simp[aJQ]⟩
  simp at hc
  have hb:nB [.bool true,.bool true]=some [true,true]:=rfl
  simp[dU,gP,thD,eM,h1,gE] at hi ⊢
  simp[hi,eS,hc,dAll,hb]
theorem zJ:∀ (n:Nat),nB (List.replicate n (.bool true))=some (List.replicate n true)
 | 0=>rfl
 | n+1=>by rw[List.replicate_succ,nB,zJ n];rfl
theorem aBO(n:Nat):dAll (.list (List.replicate n (.bool true)))=.ok (.bool true):=by
 unfold dAll
 simp only
 rw[zJ]
 simp
theorem aN7{t:Tb}{m:Nat}(h:t.good m)(hm:m<=1000):dW [.d (tbD t),.d (tbD t)]=.ok (.d (.bool true)):=by
 have h1:gL "tuple" "tuple"=true:=by decide
 have hd:eB "tuple" (tbD t)=.ok (.bool true):=by unfold tbD l8;rw[aEW,h1]
 have hl:dLen (tbD t)=.ok (.int 2):=uD _
 have hne2:dNe (.int 2) (.int 2)=.ok (.bool false):=by rw[qL (fB 2) (fB 2),uF];rfl
 have hit:a8 (tbD t)=.ok [.tuple (t.f.map thD),.tuple (t.a.map thD)]:=i9 (by simp)
 have hc:∀ l:List Th,compL (stN 0) dO (eA (aY 1 dU (aA (vV 0) aK))) [none] (l.map thD)=.ok (List.replicate l.length (.bool true)):=fun l=>by
  rw[cV (d:=thD) (g:=fun _=>.bool true) (xs:=l) fun th _=>⟨_,rfl,by simp[aMJ]⟩,List.map_const']
 have l1:a8 (.tuple (t.f.map thD))=.ok (t.f.map thD):=i9 (by rw[List.length_map,h.lf];omega)
 have l2:a8 (.tuple (t.a.map thD))=.ok (t.a.map thD):=i9 (by rw[List.length_map,h.la];omega)
 simp[dW,j2,hd,hl,hne2,aMI,hit,jV,h1,l1,l2,eS,hc,aBO]
end Mc
namespace Mc
open PySem L2 PyProof.Rows
def aE3(rs:List Rw)(z:List Nat)(s:Int×Int):Option ((Int×Int)⊕Str):=
 match (pW rs z s).1 with
 | .w x=>some (.inr x)
 | .n q=>some (.inl (s.1+(pW rs z s).2,q))
end Mc
namespace Mc
open PySem L2 PyProof.Rows Fl
theorem aMK{rs:List Rw}{q:Int}(h0:0<=q)(h1:q < (rs.length:Int)):dIx (bC rs) (.int q)=.ok (d8 (dQ rs q)):=nG (lZ h0 (by rw[List.getElem?_map,pX h0 h1];rfl))
theorem iK(z:Str):z.length=z.cps.toList.length:=by simp[Str.length]
def iP(rs:List Rw)(z:List Nat)(s:Int×Int):Prop:=qW rs z s/\((aCG rs z s=none/\∃ x,(pW rs z s).1=.w x/\bT (aE3 rs z) (0,0)=some x)\/((∃ s',aCG rs z s=some s')/\bT (aE3 rs z) (0,0)=none))
end Mc
namespace Mc
open PySem L2 PyProof.Rows Fl
theorem aCY{rs:List Rw}{sg:Nat}(M:Mach rs sg)(y x:List Nat)(S:bH sg (x++y)):aW rs.length [b6 rs x,b6 rs y]=b6 rs (x++y):=by
 suffices ∀ (r x:List Nat),bH sg (x++r.reverse)->aW rs.length [b6 rs x,b6 rs r.reverse]=b6 rs (x++r.reverse) by
  have:=this y.reverse x (by rw[List.reverse_reverse];exact S)
  rwa [List.reverse_reverse] at this
 clear S x y
 intro r
 induction r with
 | nil=>
  intro x S
  rw[List.reverse_nil,List.append_nil] at S
  rw[List.reverse_nil,List.append_nil]
  have:b6 rs []=bL rs.length:=by unfold b6;rw[if_pos rfl]
  rw[this,aAB (fG M S)]
 | cons c r ih=>
  intro x S
  rw[List.reverse_cons] at S ⊢
  generalize r.reverse=y at *
  have Sx:bH sg x:=⟨by have:=S.1;simp at this;omega,fun a ha=>S.2 a (by simp[ha])⟩
  have Sy:bH sg y:=⟨by have:=S.1;simp at this;omega,fun a ha=>S.2 a (by simp[ha])⟩
  have Sxy:bH sg (x++y):=⟨by have:=S.1;simp at this ⊢;omega,fun a ha=>S.2 a (by simp at ha ⊢;rcases ha with h|h<;>simp[h])⟩
  have hc:cP sg c=true:=S.2 c (by simp)
  have gc:(cQ (c - 97) rs).good rs.length:=kS M (by have:=of_decide_eq_true hc;omega)
  have gx:=fG M Sx
  have gy:=fG M Sy
  have h1:=sE (m:=rs.length) (l1:=[b6 rs x]) (mid:=[b6 rs y,cQ (c - 97) rs]) (l2:=[]) (by simpa using gx) (by simp[gy,gc]) (by simp) (by simp)
  have h2:=sE (m:=rs.length) (l1:=[]) (mid:=[b6 rs x,b6 rs y]) (l2:=[cQ (c - 97) rs]) (by simp) (by simp[gx,gy]) (by simpa using gc) (by simp)
  simp only[List.append_nil,List.nil_append,List.cons_append] at h1 h2
  rw[<-nP M Sy hc,h1,<-h2,ih x Sxy,nP M Sxy hc,List.append_assoc]
end Mc
namespace Mc
open PySem L2 PyProof.Rows
section
variable{S T O Q:Type}
structure Gates(st:S->Option (S⊕O))(sub:S->Option (S⊕Q))(ext:Q->T⊕O)(g:T->S)(ent:T->S⊕O)(Dom:S->Prop)(TV:T->Prop):Prop where
 step:∀ s,Dom s->(∃ s',sub s=some (.inl s')/\st s=some (.inl s')/\Dom s')\/(∃ e t,sub s=some (.inr e)/\ext e=.inl t/\st s=some (.inl (g t))/\TV t)\/∃ e o,sub s=some (.inr e)/\ext e=.inr o/\st s=some (.inr o)
 gate:∀ t,TV t->(∃ s,ent t=.inl s/\st (g t)=some (.inl s)/\Dom s)\/∃ o,ent t=.inr o/\st (g t)=some (.inr o)
variable{st:S->Option (S⊕O)}{sub:S->Option (S⊕Q)}{ext:Q->T⊕O}{g:T->S}{ent:T->S⊕O}{Dom:S->Prop}{TV:T->Prop}
end
end Mc
namespace Mc
open PySem L2 PyProof.Rows Fl
noncomputable def oT:Sg->R Bool:=(gZ (e1 asB (eA (aY 1 aES (aA (vV 2) aK)))))
end Mc
namespace Mc
open PySem L2 PyProof.Rows Fl
end Mc
namespace Mc
open PySem L2 PyProof.Rows Fl
end Mc
namespace Mc
open PySem L2 PyProof.Rows Fl
end Mc
namespace Mc
open PySem L2 PyProof.Rows Fl
end Mc
namespace Fl
open PySem L2 PyProof.Rows
@[simp] theorem zK(i:Nat)(f:Sg->R (List (PyData×PyData)))(ρ:Sg):rC i f ρ=(f ρ).bind fun kvs=>(g8 [] kvs).bind fun res=>.ok (.nx (ρ.set i (some (.m res)))):=id rfl
@[simp] theorem aBP(ρ:Sg):vL ρ=.ok []:=id rfl
@[simp] theorem zL(f g:Sg->R PyData)(r:Sg->R (List (PyData×PyData)))(ρ:Sg):rB f g r ρ=(f ρ).bind fun x=>(g ρ).bind fun y=>(r ρ).bind fun t=>.ok ((x,y)::t):=id rfl
@[simp] theorem aOG(i:Nat)(f g:Sg->R PyData)(ρ:Sg):aLX i f g ρ=match ρ[i]? with|some (some (.m kvs))=>(f ρ).bind fun k=>(g ρ).bind fun y=>if dR k (kvs.map (·.1))=true then .ok ((jX kvs k).getD y) else .bad|_=>.bad:=id rfl
end Fl
namespace Mc
open PySem L2 PyProof.Rows Fl
end Mc
namespace Mc
open PySem L2 PyProof.Rows Fl
noncomputable def wnT:Sg->R Bool:=(e1 asB (eCh dLt dLe (eC (.int 0)) (rV 2) (e1 dLen (rV 1))))
noncomputable def wnB:Sg->R Fw:=(aJ (sIf (e1 asB (gM false 4 (bZ (aA (eV 2) (aA (eV 3) aK))))) (bP (vD (eC .none))) sNx)
 (aJ (fZ 4 (bZ (aA (eV 2) (aA (eV 3) aK))) (eC (.bool true)))
 (aJ (sN (stT [(stN 3),(stN 5)]) (e2 dIx (e2 dIx (e2 dIx (rV 0) (rV 3)) (eC (.int 1))) (e2 mF (eC (.str "abc")) (e2 dIx (rV 1) (e2 dSub (rV 2) (eC (.int 1)))))))
 (bU 2 (vD (e2 cH (rV 2) (rV 5)))))))
noncomputable def wnR:Sg->R Fw:=(bP (vD (bZ (aA (e2 dIx (eL (eN (aA (e1 dNeg (eC (.int 1))) (aA (eC (.int 1)) aK)))) (e1 dInt (e2 dGt (rV 2) (eC (.int 0))))) (aA (eV 3) aK)))))
theorem aCZ:pH=aJ (jY 4) (aJ (bR wnT wnB) wnR):=id rfl
noncomputable def wnρ(rs:List Rw)(z:Str)(s:Int×Int)(ps:List (Int×Int))(u:Option A):Sg:=[some (.d (bC rs)),some (.d (.str z)),some (.d (.int s.1)),some (.d (.int s.2)),some (.m (been prD ps)),u]
theorem aE4(p q:Int):PyData.tuple [.int p,.int q]=prD (p,q):=rfl
section
variable{rs:List Rw}{sg:Nat}{z:Str}{s:Int×Int}{ps:List (Int×Int)}{u:Option A}
theorem aE5(hz:z.length<=16777216)(V:kT rs z.cps.toList s):wnT (wnρ rs z s ps u)=.ok true:=by
 have hl:=uE hz
 rw[iK] at hl
 have h1:(0:Int) < s.1:=by have:=V.1;omega
 have h2:=V.2.1
 simp[wnT,wnρ,hl,h1]
 simpa using h2
theorem aBQ(hz:z.length<=16777216)(h:¬ (0 < s.1/\s.1<=(z.cps.toList.length:Int))):wnT (wnρ rs z s ps u)=.ok false:=by
 have hl:=uE hz
 rw[iK] at hl
 by_cases h1:0 < s.1
 ·have h2:¬ s.1<=(z.cps.toList.length:Int):=fun q=>h ⟨h1,q⟩
  simp[wnT,wnρ,hl,h1]
  simpa using h2
 ·simp[wnT,wnρ,hl,h1]
theorem aJR(h:s∈ps):wnB (wnρ rs z s ps u)=.ok (.rt (.d .none)):=by
 have h1:=jL rF ps s
 have h2:=(mJ l0).mpr h
 rw[<-aE4] at h1 h2
 simp[wnB,wnρ,h1,h2]
theorem aML(M:Mach rs sg)(S:bH sg z.cps.toList)(V:kT rs z.cps.toList s)(h:s∉ps)(hp:ps.length<=2000000):∃ cc:Int×Int,(dQ rs s.2).c.getD (z.cps.toList.getD (s.1.toNat - 1) 97 - 97) (0,0)=cc/\wnB (wnρ rs z s ps u)=.ok (.nx (wnρ rs z (s.1+cc.2,cc.1) (ps++[s]) (some (.d (.int cc.2))))):=by
 obtain ⟨ch,cc,a1,a2,a3,b1,b2,b3⟩:=wK M S V
 refine ⟨cc,by rw[a3];exact b2,?_⟩
 have h1:=jL rF ps s
 have h2:=lD l0 h
 have h3:=pE l0 h
 have h4:(been prD ps).length<=16777216:=by rw[pF];omega
 rw[<-aE4] at h1 h2 h3
 have hr:=aMK V.2.2.1 V.2.2.2
 have hz:z.length<=16777216:=by rw[iK];have:=S.1;omega
 have ix:dIx (.str z) (.int (s.1 - 1))=.ok (.str ⟨#[ch]⟩):=aN0 hz (lZ (by have:=V.1;omega) (by rw[<-a1];congr 1;have:=V.1;omega))
 have id:=aBK (zG M.sg3 a2)
 have ic:dIx (.tuple ((dQ rs s.2).c.map d6)) (.int ((ch - 97:Nat):Int))=.ok (d6 cc):=nG (iD (by rw[List.getElem?_map,b1];rfl))
 simp[wnB,wnρ,h1,h2,h3,h4,hr,d8,ix,id,ic,d6]
theorem aE6:wnR (wnρ rs z s ps u)=.ok (.rt (.d (thD (some ((if 0 < s.1 then 1 else -1),s.2))))):=by
 by_cases h:0 < s.1
 · simp [wnR, wnρ, h, thD, eM]
 · simp [wnR, wnρ, h, thD, eM]
theorem aAE(M:Mach rs sg)(S:bH sg z.cps.toList)(s0:Int×Int):∀ (k:Nat) (ps:List (Int×Int)) (s:Int×Int) (u:Option A),Und2 (iU rs z.cps.toList) s0 ps s->(∀ p∈ps,kT rs z.cps.toList p)->kT rs z.cps.toList s->(z.cps.toList.length+2) * rs.length+1<=ps.length+k->
  aJ (bR wnT wnB) wnR (wnρ rs z s ps u)=.ok (.rt (.d (thD (bT (iU rs z.cps.toList) s0)))):=by
 have hz:z.length<=16777216:=by rw[iK];have:=S.1;omega
 have hB:(z.cps.toList.length+2) * rs.length<=1002 * 1000:=Nat.mul_le_mul (by have:=S.1;omega) M.len2
 intro k
 induction k with
 | zero=>
  intro ps s u U hv V hk
  have:=tM U.nd fun p hp=>(hv p hp).valid
  omega
 | succ k ih=>
  intro ps s u U hv V hk
  have hp:ps.length<=2000000:=by
   have:=tM U.nd fun p hp=>(hv p hp).valid
   omega
  by_cases hs:s∈ps
  ·rw[bD,nH (aE5 hz V) (aJR hs),U.met hs];rfl
  ·obtain ⟨cc,hc,hb⟩:=aML (u:=u) M S V hs hp
   rw[bD,jK (aE5 hz V) hb]
   have hw:iU rs z.cps.toList s=if 0 < s.1+cc.2/\s.1+cc.2<=(z.cps.toList.length:Int) then some (.inl (s.1+cc.2,cc.1)) else some (.inr ((if 0 < s.1+cc.2 then 1 else -1),cc.1)):=by
    unfold iU
    rw[hc]
   by_cases hin:0 < s.1+cc.2/\s.1+cc.2<=(z.cps.toList.length:Int)
   ·rw[if_pos hin] at hw
    rcases with_step M S V 1 with ⟨s',e,V',_⟩|⟨o,e,_⟩
    ·rw[hw] at e
     cases e
     have:=ih (ps++[s]) (s.1+cc.2,cc.1) (some (.d (.int cc.2))) (U.next hs hw) (fun p hp=>by
      rcases List.mem_append.mp hp with q|q
      · exact hv p q
      · rw [List.mem_singleton.mp q]; exact V) V' (by rw [List.length_append, List.length_singleton]; omega)
     rw[bD] at this
     exact this
    ·rw[hw] at e;cases e
   ·rw[if_neg hin] at hw
    rw[eJ (aBQ hz hin),U.outs hw,R.bind_ok]
    simp only[aE6]
theorem zM(M:Mach rs sg)(S:bH sg z.cps.toList){p q:Int}(hp0:0<=p)(hp1:p<=(z.cps.toList.length:Int)+1)(hq0:0<=q)(hq1:q < (rs.length:Int)):eW [.d (bC rs),.d (.str z),.d (.int p),.d (.int q)]=.ok (.d (thD (iI rs z.cps.toList p q))):=by
 have hz:z.length<=16777216:=by rw[iK];have:=S.1;omega
 have h:aJ (bR wnT wnB) wnR (wnρ rs z (p,q) [] none)=.ok (.rt (.d (thD (iI rs z.cps.toList p q)))):=by
  unfold iI
  by_cases hin:1<=p/\p<=(z.cps.toList.length:Int)
  ·rw[if_pos hin]
   exact aAE M S (p,q) ((z.cps.toList.length+2) * rs.length+1) [] (p,q) none Und2.start (fun p hp=>by simp at hp) ⟨hin.1,hin.2,hq0,hq1⟩ (by simp)
  ·rw[if_neg hin,bD,eJ (aBQ hz (by show ¬ (0 < p/\p<=_);omega)),R.bind_ok]
   simp only[aE6]
 unfold eW
 rw[aCZ]
 simp only[gD,bD,pC,R.bind_ok,List.map_cons,List.map_nil,List.cons_append,List.nil_append,List.length_cons,List.length_nil,List.replicate,Nat.reduceAdd,Nat.reduceSub,List.set_cons_zero,List.set_cons_succ]
 rw[bD] at h
 simp only[wnρ,been,List.map_nil] at h
 rw[h];rfl
theorem aMM(M:Mach rs sg)(S:bH sg z.cps.toList):mL [.d (bC rs),.d (.str z)]=.ok (.d (tbD (b6 rs z.cps.toList))):=by
 have hz:z.length<=16777216:=by rw[iK];have:=S.1;omega
 have hlz:=uE hz
 rw[iK] at hlz
 have hlen:dLen (bC rs)=.ok (.int rs.length):=by unfold bC;rw[uD,List.length_map]
 have hl2:=M.len2
 have hLR:dLR (.int (rs.length:Int))=.ok ((List.range rs.length).map fun i:Nat=>.int (i:Int)):=by
  unfold dLR
  simp only
  rw[if_pos (by omega),Int.toNat_natCast]
 have hit:a8 (.list ((List.range rs.length).map fun i:Nat=>PyData.int (i:Int)))=.ok ((List.range rs.length).map fun i:Nat=>.int (i:Int)):=fH (by simp;omega)
 have hc1:=cV (fs:=stN 0) (fe:=(eA (aY 4 eW (aA (vV 1) (aA (vV 2) (aA (vD (eC (.int 1))) (aA (vV 0) aK))))))) (ρ0:=[none,some (.d (bC rs)),some (.d (.str z))]) (d:=fun i:Nat=>PyData.int (i:Int)) (g:=fun q:Nat=>thD (iI rs z.cps.toList 1 (q:Int))) (xs:=List.range rs.length) fun q hq=>⟨_,rfl,by
  have hq:=List.mem_range.mp hq
  have f:=zM (p:=1) (q:=(q:Int)) M S (by omega) (by omega) (by omega) (by omega)
  simp[f]⟩
 have hc2:=cV (fs:=stN 0) (fe:=(eA (aY 4 eW (aA (vV 1) (aA (vV 2) (aA (vD (e1 dLen (rV 2))) (aA (vV 0) aK))))))) (ρ0:=[none,some (.d (bC rs)),some (.d (.str z))]) (d:=fun i:Nat=>PyData.int (i:Int)) (g:=fun q:Nat=>thD (iI rs z.cps.toList (z.cps.toList.length:Int) (q:Int))) (xs:=List.range rs.length) fun q hq=>⟨_,rfl,by
  have hq:=List.mem_range.mp hq
  have f:=zM (p:=(z.cps.toList.length:Int)) (q:=(q:Int)) M S (by omega) (by omega) (by omega) (by omega)
  simp only[Array.length_toList] at f hlz
  simp[hlz,f]⟩
 obtain ⟨t1,t2⟩:=aCW M S
 have e1:(b6 rs z.cps.toList).f.map thD=(List.range rs.length).map fun q:Nat=>thD (iI rs z.cps.toList 1 (q:Int)):=by rw[t1,List.map_map];rfl
 have e2:(b6 rs z.cps.toList).a.map thD=(List.range rs.length).map fun q:Nat=>thD (iI rs z.cps.toList (z.cps.toList.length:Int) (q:Int)):=by rw[t2,List.map_map];rfl
 unfold mL qM tbD l8
 rw[e1,e2]
 simp only[gD,bD,hU,j1,iJ,R.bind_ok,List.map_cons,List.map_nil,List.cons_append,List.nil_append,List.length_cons,List.length_nil,List.replicate,Nat.reduceAdd,Nat.reduceSub,List.set_cons_zero,List.set_cons_succ,List.getElem?_cons_zero,List.getElem?_cons_succ,hlen,hLR,i8,hit,eS,Option.bind,Option.join_some,hc1,hc2]
 simp
end
end Mc
namespace Mc
open PySem L2 PyProof.Rows Fl
@[simp] theorem aPV(m i:Nat)(f:Sg->R (List PyData))(ρ:Sg):aO3 m i f ρ=match ρ[i]? with|some (some (.g k n G))=>(f ρ).bind fun ds=>if k<=m/\ds.length=n then G ds else .bad|_=>.bad:=id rfl
@[simp] theorem aPA(m i:Nat)(f:Sg->R (List PyData))(ρ:Sg):aNW m i f ρ=match ρ[i]? with|some (some (.g k n G))=>(f ρ).bind fun ds=>if k<=m/\ds.length=n then (match G ds with | .ok d=>if aH2 d=true then .ok d else .bad|_=>.bad) else .bad|_=>.bad:=id rfl
structure Srch where
 after:PyData->List PyData
 x0:PyData
 good:Nat->PyData->Prop
 lim:Nat
 k1:Nat
 k2:Nat
 G:List PyData->R PyData
 D:List PyData->R PyData
structure Srch.ok(S:Srch):Prop where
 g0:S.good 0 S.x0
 gs:∀ i x,S.good i x->i<=S.lim->∀ y∈S.after x,S.good (i+1) y
 up:∀ i j x,i<=j->S.good i x->S.good j x
 few:∀ xs:List PyData,xs.Nodup->(∀ x∈xs,∃ i,S.good i x)->xs.length<=S.lim
 key:∀ i x,S.good i x->kD x=true
 hk1:S.k1<=12
 hk2:S.k2<=12
 hG:∀ i x,i<=S.lim->S.good i x->S.G [x]=.ok (.list (S.after x))/\(S.after x).length<=16777216
 hD:∀ (fs:List PyData) (i:Int),fs.length<=S.lim->S.D [.list fs,.int i]=.ok (.bool false)
 hl:S.lim<=16000000
def aN8(fs:List PyData)(js:List Nat)(ys:List PyData):Prop:=js.length=ys.length/\∀ (c:Nat) (y:PyData),ys[c]? = some y->∃ j,js[c]? = some j/\fs[j]? = some y
structure Fnd(S:Srch)(fs:List PyData):Prop where
 nd:fs.Nodup
 gd:∀ (i:Nat) (x:PyData),fs[i]? = some x->S.good i x
theorem Fnd.len{S:Srch}(O:S.ok){fs:List PyData}(h:Fnd S fs):fs.length<=S.lim:=O.few fs h.nd fun x hx=>by
 obtain ⟨i,hi⟩:=List.getElem?_of_mem hx
 exact ⟨i,h.gd i x hi⟩
structure Rchd(S:Srch)(fs:List PyData)(gs:List (List Nat)):Prop where
 fnd:Fnd S fs
 len:gs.length=fs.length
 zer:fs[0]? = some S.x0
 row:∀ (i:Nat) (js:List Nat) (x:PyData),gs[i]? = some js->fs[i]? = some x->aN8 fs js (S.after x)
end Mc
namespace Mc
open PySem L2 PyProof.Rows Fl
end Mc
namespace Mc
open PySem L2 PyProof.Rows Fl
theorem zN:∀ {xs:List PyData},(∀ x∈xs,d4 x=true)->dZ xs=true
 | [],_=>rfl
 | x::t,h=>by
  show (d4 x && dZ t)=true
  rw[h x (List.mem_cons_self ..),zN fun y hy=>h y (List.mem_cons_of_mem _ hy)];rfl
end Mc
namespace Mc
open PySem L2 PyProof.Rows Fl
def tc(m:Nat):Tn->Nat
 | .n i=>i.toNat
 | .w x=>if x="by" then m else if x="out" then m+1 else m+2
structure Ctr(rs:List Rw)(sg p q:Nat):Prop where
 len:rs.length=p+1+q
 p1:1<=p
 p5:p<=5
 q1:1<=q
 q5:q<=5
 lef:(dQ rs 0).l=.n 0
 mid:(dQ rs (p:Int)).l=.n ((p:Int)+1)
 a:∀ i:Nat,i < p->∀ k,k < sg->ck k (dQ rs (i:Int))=((((i+(if k=0 then 1 else 0)) % p:Nat):Int),1)
 b:∀ k,k < sg->ck k (dQ rs (p:Int))=((p:Int),-1)
 c:∀ j:Nat,j < q->∀ k,k < sg->ck k (dQ rs ((p+1+j:Nat):Int))=(((p+1+(j+(if k=sg - 1 then 1 else 0)) % q:Nat):Int),1)
theorem zO{P:List Nat->Prop}(h0:P [])(hs:∀ z c,P z->P (z++[c]))(z:List Nat):P z:=by
 rw[<-List.reverse_reverse z]
 induction z.reverse with
 | nil=>exact h0
 | cons c t ih=>rw[List.reverse_cons];exact hs _ _ ih
theorem uG{sg c:Nat}{z:List Nat}(S:bH sg (z++[c])):bH sg z/\cP sg c=true:=⟨⟨by have:=S.1;simp at this;omega,fun c hc=>S.2 c (List.mem_append_left _ hc)⟩,S.2 c (by simp)⟩
end Mc
namespace Mb
open Classical
section
variable{τ:Type}(g:τ->Nat->τ)(t0:τ)(cs:List Nat)
def Tt(z:List Nat):τ:=z.foldl g t0
noncomputable def j4(f:List (List Nat))(z:List Nat):List (List Nat):=if Tt g t0 z∈f.map (Tt g t0) then f else f++[z]
noncomputable def c9(f l:List (List Nat)):List (List Nat):=l.foldl (j4 g t0) f
def dP(l:List (List Nat)):List (List Nat):=l.flatMap fun z=>cs.map fun c=>z++[c]
def lev:Nat->List (List Nat)
 | 0=>[[]]
 | n+1=>dP cs (lev n)
noncomputable def f8:Nat->List (List Nat)
 | 0=>[[]]
 | n+1=>c9 g t0 (f8 n) (lev cs (n+1))
variable{g t0 cs}
theorem vQ(z:List Nat)(c:Nat):Tt g t0 (z++[c])=g (Tt g t0 z) c:=by unfold Tt;rw[List.foldl_append];rfl
theorem aJS{y z:List Nat}(h:Tt g t0 y=Tt g t0 z)(c:Nat):Tt g t0 (y++[c])=Tt g t0 (z++[c]):=by rw[vQ,vQ,h]
theorem aC0(f:List (List Nat)):c9 g t0 f []=f:=rfl
theorem addAll_cons(f:List (List Nat))(z:List Nat)(l:List (List Nat)):c9 g t0 f (z::l)=c9 g t0 (j4 g t0 f z) l:=rfl
theorem iL(f l l2:List (List Nat)):c9 g t0 f (l++l2)=c9 g t0 (c9 g t0 f l) l2:=by unfold c9;rw[List.foldl_append]
theorem addF_mono{f:List (List Nat)}{z:List Nat}{t:τ}(h:t∈f.map (Tt g t0)):t∈(j4 g t0 f z).map (Tt g t0):=by
 unfold j4
 split
 · exact h
 · rw [List.map_append]; exact List.mem_append_left _ h
theorem aG7(f:List (List Nat))(z:List Nat):Tt g t0 z∈(j4 g t0 f z).map (Tt g t0):=by
 unfold j4
 split
 · assumption
 · rw [List.map_append]; exact List.mem_append_right _ (by simp)
theorem rP{l:List (List Nat)}:∀ {f:List (List Nat)} {t:τ},t∈f.map (Tt g t0)->t∈(c9 g t0 f l).map (Tt g t0):=by
 induction l with
 | nil=>intro f t h;exact h
 | cons z l ih=>intro f t h;rw[addAll_cons];exact ih (addF_mono h)
theorem uH{l:List (List Nat)}:∀ {f:List (List Nat)} {z:List Nat},z∈l->Tt g t0 z∈(c9 g t0 f l).map (Tt g t0):=by
 induction l with
 | nil=>intro f z h;cases h
 | cons y l ih=>
  intro f z h
  rw[addAll_cons]
  rcases List.mem_cons.mp h with rfl|h
  · exact rP (aG7 f z)
  · exact ih h
theorem zP{l:List (List Nat)}:∀ {f:List (List Nat)},(∀ z∈l,Tt g t0 z∈f.map (Tt g t0))->c9 g t0 f l=f:=by
 induction l with
 | nil=>intro f _;rfl
 | cons z l ih=>
  intro f h
  rw[addAll_cons]
  have:j4 g t0 f z=f:=by unfold j4;rw[if_pos (h z List.mem_cons_self)]
  rw[this]
  exact ih fun y hy=>h y (List.mem_cons_of_mem _ hy)
theorem mP(a b:List (List Nat)):dP cs (a++b)=dP cs a++dP cs b:=by unfold dP;rw[List.flatMap_append]
theorem jC{l:List (List Nat)}{x:List Nat}:x∈dP cs l↔∃ z∈l,∃ c∈cs,x=z++[c]:=by
 unfold dP
 rw[List.mem_flatMap]
 constructor
 ·rintro ⟨z,hz,h⟩
  obtain ⟨c,hc,e⟩:=List.mem_map.mp h
  exact ⟨z,hz,c,hc,e.symm⟩
 ·rintro ⟨z,hz,c,hc,e⟩
  exact ⟨z,hz,List.mem_map.mpr ⟨c,hc,e.symm⟩⟩
theorem skip{f:List (List Nat)}{keep:List Nat->Prop}(r:List (List Nat)):(∀ P1 z P2,r.reverse=P1++z::P2->¬ keep z->∃ y,Tt g t0 y=Tt g t0 z/\((∀ c∈cs,Tt g t0 (y++[c])∈f.map (Tt g t0))\/y∈P1))->
  c9 g t0 f (dP cs r.reverse)=c9 g t0 f (dP cs (r.reverse.filter fun z=>decide (keep z))):=by
 induction r with
 | nil=>intro _;rfl
 | cons z r ih=>
  intro h
  rw[List.reverse_cons] at h ⊢
  have ih':=ih fun P1 y P2 e hk=>h P1 y (P2++[z]) (by rw[e,List.append_assoc];rfl) hk
  rw[mP,iL,List.filter_append]
  by_cases hk:keep z
  ·have:[z].filter (fun z=>decide (keep z))=[z]:=by simp[hk]
   rw[this,mP,iL,ih']
  ·have:[z].filter (fun z=>decide (keep z))=[]:=by simp[hk]
   rw[this,List.append_nil,<-ih']
   obtain ⟨y,hy,hc⟩:=h r.reverse z [] rfl hk
   refine zP fun x hx=>?_
   obtain ⟨z',hz',c,hcc,rfl⟩:=jC.mp hx
   rw[List.mem_singleton.mp hz',<-aJS hy c]
   rcases hc with hc|hc
   · exact rP (hc c hcc)
   · exact uH (jC.mpr ⟨y, hc, c, hcc, rfl⟩)
variable(g t0) in
noncomputable def j5:List (List Nat)->List (List Nat)->List (List Nat)
 | _,[]=>[]
 | f,z::l=>if Tt g t0 z∈f.map (Tt g t0) then j5 f l else z::j5 (f++[z]) l
theorem iM:∀ {l f:List (List Nat)},c9 g t0 f l=f++j5 g t0 f l
 | [],f=>by rw[aC0,j5,List.append_nil]
 | z::l,f=>by
  rw[addAll_cons,j5]
  unfold j4
  split
  · exact iM
  · rw [iM, List.append_assoc]; rfl
theorem mQ:∀ {l f:List (List Nat)},(j5 g t0 f l).Sublist l
 | [],f=>by rw[j5];exact List.Sublist.refl _
 | z::l,f=>by
  rw[j5]
  split
  · exact mQ.cons z
  · exact mQ.cons_cons z
theorem sR:∀ {P1:List (List Nat)} {f:List (List Nat)} {z:List Nat} {P2:List (List Nat)},z∉j5 g t0 f (P1++z::P2)->∃ y,Tt g t0 y=Tt g t0 z/\(y∈f\/(y∈P1/\y∈j5 g t0 f (P1++z::P2)))
 | [],f,z,P2,h=>by
  rw[List.nil_append,j5] at h
  by_cases hk:Tt g t0 z∈f.map (Tt g t0)
  ·obtain ⟨y,hy,e⟩:=List.mem_map.mp hk
   exact ⟨y,e,.inl hy⟩
  ·rw[if_neg hk] at h
   exact absurd List.mem_cons_self h
 | p::P1,f,z,P2,h=>by
  rw[List.cons_append,j5] at h ⊢
  by_cases hk:Tt g t0 p∈f.map (Tt g t0)
  ·rw[if_pos hk] at h ⊢
   obtain ⟨y,e,q⟩:=sR h
   exact ⟨y,e,q.imp id fun q=>⟨List.mem_cons_of_mem _ q.1,q.2⟩⟩
  ·rw[if_neg hk] at h ⊢
   obtain ⟨y,e,q⟩:=sR (fun z=>h (List.mem_cons_of_mem _ z))
   rcases q with q|q
   ·rcases List.mem_append.mp q with q|q
    ·exact ⟨y,e,.inl q⟩
    ·obtain rfl:=List.mem_singleton.mp q
     exact ⟨y,e,.inr ⟨List.mem_cons_self,List.mem_cons_self⟩⟩
   ·exact ⟨y,e,.inr ⟨List.mem_cons_of_mem _ q.1,List.mem_cons_of_mem _ q.2⟩⟩
theorem aJT{f:List (List Nat)}{z:List Nat}(h:(f.map (Tt g t0)).Nodup):((j4 g t0 f z).map (Tt g t0)).Nodup:=by
 unfold j4
 split
 ·exact h
 ·rename_i hn
  rw[List.map_append,List.nodup_append]
  refine ⟨h,by simp,fun a ha b hb e=>?_⟩
  rw[List.map_cons,List.map_nil,List.mem_singleton] at hb
  subst hb e
  exact hn ha
theorem wM:∀ {l f:List (List Nat)},(f.map (Tt g t0)).Nodup->((c9 g t0 f l).map (Tt g t0)).Nodup
 | [],_,h=>h
 | z::l,f,h=>by rw[addAll_cons];exact wM (aJT h)
theorem aJU(z:List Nat){c d:Nat}(h:c < d):List.Lex (· < ·) (z++[c]) (z++[d]):=by
 induction z with
 | nil=>exact .rel h
 | cons a z ih=>exact .cons ih
theorem aG8{y z:List Nat}(h:List.Lex (· < ·) y z):y.length=z.length->∀ c d:Nat,List.Lex (· < ·) (y++[c]) (z++[d]):=by
 induction h with
 | nil=>intro e;simp at e
 | rel h=>intro _ c d;exact .rel h
 | cons h ih=>intro e c d;exact .cons (ih (by simpa using e) c d)
theorem vR:∀ (z:List Nat),¬ List.Lex (· < ·) z z
 | [],h=>by cases h
 | a::z,h=>by
  cases h with
  | rel h=>exact Nat.lt_irrefl _ h
  | cons h=>exact vR z h
theorem l3{n:Nat}:∀ {z:List Nat},z∈lev cs n->z.length=n:=by
 induction n with
 | zero=>intro z h;rw[List.mem_singleton.mp h];rfl
 | succ n ih=>
  intro z h
  obtain ⟨y,hy,c,_,rfl⟩:=jC.mp h
  rw[List.length_append,ih hy];rfl
theorem uI(hcs:cs.Pairwise (· < ·))(n:Nat):(lev cs n).Pairwise (List.Lex (· < ·)):=by
 induction n with
 | zero=>exact List.pairwise_singleton _ _
 | succ n ih=>
  show (dP cs (lev cs n)).Pairwise _
  unfold dP
  rw[List.pairwise_flatMap]
  refine ⟨fun z _=>?_,?_⟩
  ·rw[List.pairwise_map]
   exact hcs.imp fun h=>aJU z h
  ·refine List.Pairwise.imp_of_mem (fun {y z} hy hz h=>?_) ih
   intro a ha b hb
   obtain ⟨c,_,rfl⟩:=List.mem_map.mp ha
   obtain ⟨d,_,rfl⟩:=List.mem_map.mp hb
   exact aG8 h (by rw[l3 hy,l3 hz]) c d
theorem aMN(hcs:cs.Pairwise (· < ·))(n:Nat):(lev cs n).Nodup:=(uI hcs n).imp fun h e=>by subst e;exact vR _ h
theorem aC1{s l:List (List Nat)}(h:s.Sublist l):l.Nodup->∀ d:List Nat->Bool,(∀ z,d z=true↔z∈s)->l.filter d=s:=by
 induction h with
 | slnil=>intro _ _ _;rfl
 | @cons s l a h ih=>
  intro nd d hd
  rw[List.nodup_cons] at nd
  have:¬ d a=true:=fun z=>nd.1 (h.subset ((hd a).mp z))
  rw[List.filter_cons,if_neg this]
  exact ih nd.2 d hd
 | @cons_cons s l a h ih=>
  intro nd d hd
  rw[List.nodup_cons] at nd
  rw[List.filter_cons,if_pos ((hd a).mpr List.mem_cons_self)]
  congr 1
  refine (List.filter_congr fun z hz=>?_).trans (ih nd.2 (fun z=>decide (z∈s)) fun z=>by simp)
  have hne:z≠a:=fun q=>nd.1 (q▸hz)
  have h1:=hd z
  rw[List.mem_cons] at h1
  cases hq:d z with
  | true=>rw[hq] at h1;have:=(h1.mp rfl).resolve_left hne;simp[this]
  | false=>
   rw[hq] at h1
   have:¬ z∈s:=fun q=>nomatch (h1.mpr (.inr q))
   simp[this]
variable(g t0 cs) in
noncomputable def aC2:Nat->List (List Nat)
 | 0=>[[]]
 | n+1=>j5 g t0 (f8 g t0 cs n) (lev cs (n+1))
theorem nJ(n:Nat):f8 g t0 cs (n+1)=f8 g t0 cs n++aC2 g t0 cs (n+1):=by
 show c9 g t0 _ _=_
 rw[iM];rfl
theorem kM(n:Nat):(aC2 g t0 cs n).Sublist (lev cs n):=by
 cases n with
 | zero=>exact List.Sublist.refl _
 | succ n=>exact mQ
theorem zQ{n:Nat}:∀ {z:List Nat},z∈f8 g t0 cs n->∃ k,k<=n/\z∈lev cs k:=by
 induction n with
 | zero=>intro z h;exact ⟨0,Nat.le_refl _,h⟩
 | succ n ih=>
  intro z h
  rw[nJ] at h
  rcases List.mem_append.mp h with h|h
  ·obtain ⟨k,hk,q⟩:=ih h
   exact ⟨k,by omega,q⟩
  ·exact ⟨n+1,Nat.le_refl _,(kM (n+1)).subset h⟩
theorem wN{n:Nat}{t:τ}(h:t∈(f8 g t0 cs n).map (Tt g t0)):∀ k,t∈(f8 g t0 cs (n+k)).map (Tt g t0)
 | 0=>h
 | k+1=>by
  rw[<-Nat.add_assoc,nJ,List.map_append]
  exact List.mem_append_left _ (wN h k)
theorem zR{n k:Nat}{z:List Nat}(h:z∈lev cs k)(hk:k<=n):Tt g t0 z∈(f8 g t0 cs n).map (Tt g t0):=by
 have:Tt g t0 z∈(f8 g t0 cs k).map (Tt g t0):=by
  cases k with
  | zero=>exact List.mem_map_of_mem h
  | succ k=>exact uH h
 have:=wN this (n - k)
 rwa [show k+(n - k)=n by omega] at this
theorem aE7 (hcs : cs.Pairwise (· < ·)) (n : Nat) : c9 g t0 (f8 g t0 cs n) (dP cs (aC2 g t0 cs n)) = f8 g t0 cs (n + 1) := by
  have sk := skip (g := g) (t0 := t0) (cs := cs) (f := f8 g t0 cs n) (keep := fun z => z ∈ aC2 g t0 cs n) (lev cs n).reverse fun P1 z P2 e hk => by
    rw [List.reverse_reverse] at e
    cases n with
    | zero => exact absurd (show z ∈ [[]] by have : z ∈ lev cs 0 := by rw [e]; simp
                                             exact this) hk
    | succ m =>
      have hk' : z ∉ j5 g t0 (f8 g t0 cs m) (P1 ++ z :: P2) := by rw [<- e]; exact hk
      obtain ⟨y, hy, q⟩ := sR hk'
      refine ⟨y, hy, q.imp (fun q c hc => ?_) fun q => q.1⟩
      obtain ⟨k, hkm, hl⟩ := zQ q
      exact zR (k := k + 1) (jC.mpr ⟨y, hl, c, hc, rfl⟩) (by omega)
  rw [List.reverse_reverse, aC1 (kM (g := g) (t0 := t0) (cs := cs) n) (aMN hcs n) _ (fun z => by simp)] at sk
  rw [<- sk]; rfl
theorem aG9(hcs:cs.Pairwise (· < ·))(n:Nat):c9 g t0 [[]] (dP cs (f8 g t0 cs n))=f8 g t0 cs (n+1):=by
 induction n with
 | zero=>rfl
 | succ n ih=>rw[nJ n,mP,iL,ih,aE7 hcs]
theorem rQ(hcs:cs.Pairwise (· < ·)){C:List (List Nat)}(h:C=c9 g t0 [[]] (dP cs C))(n:Nat):∃ e,C=f8 g t0 cs n++e/\∀ x∈e,n < x.length:=by
 induction n with
 | zero=>
  rw[iM] at h
  refine ⟨_,h,fun x hx=>?_⟩
  obtain ⟨z,_,c,_,rfl⟩:=jC.mp (mQ.subset hx)
  simp
 | succ n ih=>
  obtain ⟨e,h1,h2⟩:=ih
  rw[h1,mP,iL,aG9 hcs,iM,<-h1] at h
  refine ⟨_,h,fun x hx=>?_⟩
  obtain ⟨z,hz,c,_,rfl⟩:=jC.mp (mQ.subset hx)
  have:=h2 z hz
  simp;omega
theorem aBR{n:Nat}{z:List Nat}(h:z∈f8 g t0 cs n):z.length<=n:=by
 obtain ⟨k,hk,q⟩:=zQ h
 rw[l3 q];exact hk
theorem wV(hcs:cs.Pairwise (· < ·)){C:List (List Nat)}(h:C=c9 g t0 [[]] (dP cs C))(n:Nat):C.filter (fun x=>decide (x.length<=n))=f8 g t0 cs n:=by
 obtain ⟨e,h1,h2⟩:=rQ hcs h n
 rw[h1,List.filter_append,List.filter_eq_self.mpr (fun x hx=>decide_eq_true (aBR hx)),List.filter_eq_nil_iff.mpr (fun x hx=>by have:=h2 x hx;simp;omega),List.append_nil]
theorem aE8{C:List (List Nat)}(h:C=c9 g t0 [[]] (dP cs C)):(C.map (Tt g t0)).Nodup:=by
 rw[h];exact wM (by simp)
theorem aC3(hcs:cs.Pairwise (· < ·)){C:List (List Nat)}(h:C=c9 g t0 [[]] (dP cs C)){z:List Nat}{n:Nat}(hz:z∈lev cs n):Tt g t0 z∈C.map (Tt g t0):=by
 obtain ⟨e,h1,_⟩:=rQ hcs h n
 rw[h1,List.map_append]
 exact List.mem_append_left _ (zR hz (Nat.le_refl _))
end
end Mb
namespace Mc
open PySem L2 PyProof.Rows Fl
theorem aMO(x:Th):d4 (thD x)=true:=by cases x<;>rfl
theorem aBS(t:Tb):kD (tbD t)=true:=by
 have h1:d4 (tbD t)=true:=by
  show dZ [.tuple (t.f.map thD),.tuple (t.a.map thD)]=true
  have k:∀ l:List Th,d4 (.tuple (l.map thD))=true:=fun l=>by
   show dZ (l.map thD)=true
   exact zN fun x hx=>by
    obtain ⟨y,_,rfl⟩:=List.mem_map.mp hx
    exact aMO y
  show (d4 _ && (d4 _ && true))=true
  rw[k,k];rfl
 have h2:Sh 4 (tbD t):=by
  have k:∀ l:List Th,∀ x∈l.map thD,Sh 2 x:=fun l x hx=>by
   obtain ⟨y,_,rfl⟩:=List.mem_map.mp hx
   cases y with
   | none=>exact ⟨rfl,Nat.zero_le _⟩
   | some s=>
    refine fQ fun z hz=>?_
    rcases List.mem_cons.mp hz with q|q
    · rw [q]; exact nW _ _
    · rw [List.mem_singleton.mp q]; exact nW _ _
  refine fQ fun x hx=>?_
  rcases List.mem_cons.mp hx with q|q
  ·rw[q];exact fQ (k _)
  ·rw[List.mem_singleton.mp q];exact fQ (k _)
 show (d4 (tbD t) && decide ((tbD t).depth<=8))=true
 rw[h1,decide_eq_true (Nat.le_trans h2.2 (by decide))];rfl
noncomputable def bhB(rs:List Rw)(x:PyData)(c:Nat):PyData:=match f6 [.d x,.d (tbD (cQ (c - 97) rs))] with
 | .ok (.d y)=>y
 | _=>.none
noncomputable def tE(rs:List Rw)(z:List Nat):PyData:=Mb.Tt (bhB rs) (tbD (bL rs.length)) z
theorem wO{rs:List Rw}{sg c:Nat}{z:List Nat}(M:Mach rs sg)(S:bH sg z)(hc:cP sg c=true):f6 [.d (tbD (b6 rs z)),.d (tbD (cQ (c - 97) rs))]=.ok (.d (tbD (b6 rs (z++[c])))):=by
 have:=aN6 (fG M S) (kS M (show c - 97 < sg by have:=of_decide_eq_true hc;omega)) M.len2
 rw[nP M S hc] at this
 exact this
theorem fJ{rs:List Rw}{sg:Nat}(M:Mach rs sg)(z:List Nat):bH sg z->tE rs z=tbD (b6 rs z):=by
 refine zO (P:=fun z=>bH sg z->tE rs z=tbD (b6 rs z)) (fun S=>?_) (fun z c ih S=>?_) z
 ·unfold b6;rw[if_pos rfl];rfl
 ·obtain ⟨Sz,hc⟩:=uG S
  unfold tE
  rw[Mb.vQ]
  show bhB rs (tE rs z) c=_
  rw[ih Sz]
  unfold bhB
  rw[wO M Sz hc]
theorem aJV{rs:List Rw}{sg c:Nat}{z:List Nat}(M:Mach rs sg)(S:bH sg (z++[c])):f6 [.d (tE rs z),.d (tbD (cQ (c - 97) rs))]=.ok (.d (tE rs (z++[c]))):=by
 obtain ⟨Sz,hc⟩:=uG S
 rw[fJ M z Sz,fJ M _ S,wO M Sz hc]
theorem oG{rs:List Rw}{sg:Nat}{z:List Nat}(M:Mach rs sg)(S:bH sg z):kD (tE rs z)=true:=by rw[fJ M z S];exact aBS _
def stD(z:List Nat):PyData:=.str ⟨z.toArray⟩
noncomputable def enD(rs:List Rw)(z:List Nat):PyData:=.tuple [stD z,tE rs z]
noncomputable def nQ(rs:List Rw)(f:List (List Nat))(z:List Nat):List (List Nat):=Mb.j4 (bhB rs) (tbD (bL rs.length)) f z
noncomputable def cC(rs:List Rw)(f l:List (List Nat)):List (List Nat):=Mb.c9 (bhB rs) (tbD (bL rs.length)) f l
theorem oH{ps:List PyData}{x:PyData}(hx:kD x=true)(h:∀ y∈ps,kD y=true):dR x ((been id ps).map (·.1))=true:=by
 unfold dR
 rw[nI,hx,Bool.true_and,Bool.or_eq_true,List.all_eq_true,List.map_id]
 exact .inl h
theorem uJ(ps:List PyData):(been id ps).length=ps.length:=pF id ps
theorem uK{ps:List PyData}{x:PyData}(h:x∈ps):eO (been id ps) x=true:=(mJ (d:=id) (fun _ _ h=>h)).mpr h
theorem aBT{ps:List PyData}{x:PyData}(h:x∉ps):eO (been id ps) x=false:=lD (d:=id) (fun _ _ h=>h) h
theorem zS{ps:List PyData}{x:PyData}(h:x∉ps):putM (been id ps) x (.bool true)=been id (ps++[x]):=pE (d:=id) (fun _ _ h=>h) h
noncomputable def gaF:Sg->R Fw:=(aJ (bU 8 (aY 2 f6 (aA (vD (e2 dIx (e2 dIx (rV 3) (rV 5)) (eC (.int 1)))) (aA (vV 7) aK))))
 (sIf (e1 asB (gM true 4 (eV 8))) (aJ (fZ 4 (eV 8) (eC (.bool true)))
 (g7 3 (bZ (aA (e2 cH (e2 dIx (e2 dIx (rV 3) (rV 5)) (eC (.int 0))) (rV 6)) (aA (eV 8) aK))))) sNx))
noncomputable def gaT:Sg->R Bool:=(e1 asB (e2 dLt (rV 5) (e1 dLen (rV 3))))
noncomputable def gaB:Sg->R Fw:=(aJ (sFz 2 (fX (e1 a8 (eV 2)) (stT [(stN 6),(stN 7)]) gaF))
 (aJ (sIf (e1 asB (e2 dGt (e1 dLen (rV 3)) (rV 1))) (rD "TooMany" (rV 1)) sNx)
 (aCS 5 o0 (eC (.int 1)))))
def iQ(rs:List Rw)(c:Nat):PyData:=.tuple [.str ⟨#[c]⟩,tbD (cQ (c - 97) rs)]
noncomputable def gaρ(rs:List Rw)(e2:A)(f:List (List Nat))(at':Nat)(u v w:Option A):Sg:=[some (.d (bC rs)),some (.d (.int 300)),some e2,some (.l (f.map (enD rs))),some (.m (been id (f.map (tE rs)))),some (.d (.int (at':Int))),u,v,w]
theorem aHA(z:List Nat)(c:Nat)(h:z.length<=1000):cH (stD z) (.str ⟨#[c]⟩)=.ok (stD (z++[c])):=by
 unfold stD
 rw[aMB (by show z.toArray.size+1<=16777216;rw[List.size_toArray];omega)]
 congr 2
 show (⟨z.toArray ++ #[c]⟩:Str)=_
 simp
theorem mR{rs:List Rw}{sg:Nat}{f:List (List Nat)}(M:Mach rs sg)(hS:∀ z∈f,bH sg z):∀ y∈f.map (tE rs),kD y=true:=fun y hy=>by
 obtain ⟨z,hz,rfl⟩:=List.mem_map.mp hy
 exact oG M (hS z hz)
theorem oI{rs:List Rw}{f:List (List Nat)}{z:List Nat}(h:tE rs z∈f.map (tE rs)):nQ rs f z=f:=by
 unfold nQ Mb.j4;exact if_pos h
theorem mS{rs:List Rw}{f:List (List Nat)}{z:List Nat}(h:tE rs z∉f.map (tE rs)):nQ rs f z=f++[z]:=by
 unfold nQ Mb.j4;exact if_neg h
theorem aJW{rs:List Rw}{sg c at':Nat}{f:List (List Nat)}{z:List Nat}{e2:A}{v:Option A}(M:Mach rs sg)(hS:∀ z∈f,bH sg z)(hl:f.length<=10000)(hz:f[at']? = some z)(Sz:bH sg (z++[c])){w:Option A}(hv:v=some (.d (tbD (cQ (c - 97) rs)))) :
  gaF (gaρ rs e2 f at' (some (.d (.str ⟨#[c]⟩))) v w)=.ok (.nx (gaρ rs e2 (nQ rs f (z++[c])) at' (some (.d (.str ⟨#[c]⟩))) v (some (.d (tE rs (z++[c])))))):=by
 subst hv
 have ix:dIx (.list (f.map (enD rs))) (.int (at':Int))=.ok (enD rs z):=pD (iD (by rw[List.getElem?_map,hz];rfl))
 have i0:dIx (enD rs z) (.int 0)=.ok (stD z):=rfl
 have i1:dIx (enD rs z) (.int 1)=.ok (tE rs z):=rfl
 have hb:=aJV M Sz
 have hk:=oH (oG M Sz) (mR M hS)
 have hzl:z.length<=1000:=by have:=Sz.1;simp at this;omega
 by_cases h:tE rs (z++[c])∈f.map (tE rs)
 ·rw[oI h]
  have h1:=uK h
  simp[gaF,gaρ,ix,i0,i1,hb,hk,h1]
 ·rw[mS h]
  have h1:=aBT h
  have h2:=zS h
  have h3:(been id (f.map (tE rs))).length<=16777216:=by rw[uJ,List.length_map];omega
  have h4:f.length < 16777216:=by omega
  have ad:=aHA z c hzl
  unfold gaρ
  rw[List.map_append,List.map_append,List.map_singleton,List.map_singleton,<-h2]
  simp[gaF,ix,i0,i1,hb,hk,h1,h3,h4,ad]
  rfl
def sgT(sg:Nat):Str:=Txt.slice "abc" none (some (sg:Int))
theorem rG{sg:Nat}(s1:1<=sg)(s3:sg<=3):(sgT sg).cps.toList=[97,98,99].take sg:=aAT s1 s3
theorem kN{sg c:Nat}(s1:1<=sg)(s3:sg<=3)(h:c∈(sgT sg).cps.toList):cP sg c=true:=by
 rw[rG s1 s3] at h
 obtain ⟨i,hi⟩:=List.getElem?_of_mem h
 exact (m5 s1 s3).mpr ⟨i,hi⟩
theorem l5{sg:Nat}(s1:1<=sg)(s3:sg<=3):(sgT sg).cps.toList.length<=3:=by rw[rG s1 s3,List.length_take];simp;omega
end Mc
namespace Mc
open PySem L2 PyProof.Rows Fl
theorem aE9{t:Sg->R Bool}{b:Sg->R Fw}{ρ:Sg}{e:Er}(h1:t ρ=.ok true)(h2:b ρ=.ex e):bR t b ρ=.ex e:=by
 rw[nC,h1,R.bind_ok,if_pos rfl,h2];rfl
theorem addR_mem{rs:List Rw}{f:List (List Nat)}{y x:List Nat}(h:x∈nQ rs f y):x∈f\/x=y:=by
 by_cases q:tE rs y∈f.map (tE rs)
 ·rw[oI q] at h;exact .inl h
 ·rw[mS q] at h
  rcases List.mem_append.mp h with h|h
  · exact .inl h
  · exact .inr (List.mem_singleton.mp h)
theorem zT{rs:List Rw}{f:List (List Nat)}{y:List Nat}:(nQ rs f y).length<=f.length+1:=by
 by_cases q:tE rs y∈f.map (tE rs)
 · rw [oI q]; omega
 · rw [mS q, List.length_append, List.length_singleton]; omega
theorem zU{rs:List Rw}{f:List (List Nat)}{y:List Nat}:f <+: nQ rs f y:=by
 by_cases q:tE rs y∈f.map (tE rs)
 · rw [oI q]; exact List.prefix_refl _
 · rw [mS q]; exact List.prefix_append ..
theorem uL{rs:List Rw}{f l:List (List Nat)}{y:List Nat}:cC rs f (l++[y])=nQ rs (cC rs f l) y:=by
 unfold cC;rw[Mb.iL];rfl
theorem aBU{α:Type}{f g:List α}{i:Nat}{x:α}(h:f <+: g)(e:f[i]? = some x):g[i]? = some x:=by
 obtain ⟨t,rfl⟩:=h
 rw[List.getElem?_append_left (by rcases Nat.lt_or_ge i f.length with h|h;exact h;rw[List.getElem?_eq_none h] at e;cases e)]
 exact e
structure GaV(sg:Nat)(at':Nat)(f:List (List Nat)):Prop where
 sgn:∀ z∈f,∀ c∈z,cP sg c=true
 len:∀ z∈f,z.length<=at'
theorem GaV.strip{sg at':Nat}{f:List (List Nat)}(h:GaV sg at' f)(ha:at'<=1000):∀ z∈f,bH sg z:=fun z hz=>⟨by have:=h.len z hz;omega,h.sgn z hz⟩
theorem aMP{rs:List Rw}{sg at':Nat}{f:List (List Nat)}{z:List Nat}{e2:A}{u v w:Option A}(M:Mach rs sg)(hV:GaV sg at' f)(ha:at' < 900)(hl:f.length<=300)(hz:f[at']? = some z) :
  ∃ u' v' w',jV (stT [(stN 6),(stN 7)]) gaF ((sgT sg).cps.toList.map (iQ rs)) (gaρ rs e2 f at' u v w)=.ok (.nx (gaρ rs e2 (cC rs f ((sgT sg).cps.toList.map fun c=>z++[c])) at' u' v' w'))/\GaV sg (at'+1) (cC rs f ((sgT sg).cps.toList.map fun c=>z++[c]))/\f <+: cC rs f ((sgT sg).cps.toList.map fun c=>z++[c])/\(cC rs f ((sgT sg).cps.toList.map fun c=>z++[c])).length<=f.length+3:=by
 have s1:=M.sg1
 have s3:=M.sg3
 have hzm:=List.mem_of_getElem? hz
 have hl3:=l5 s1 s3
 obtain ⟨ρ',q1,u',v',w',rfl,V,pr,ln⟩:=f7 (fs:=stT [(stN 6),(stN 7)]) (fb:=gaF) (d:=iQ rs) (xs:=(sgT sg).cps.toList) (ρ:=gaρ rs e2 f at' u v w)
  (fun i ρ=>∃ u v w,ρ=gaρ rs e2 (cC rs f (((sgT sg).cps.toList.take i).map fun c=>z++[c])) at' u v w/\GaV sg (at'+1) (cC rs f (((sgT sg).cps.toList.take i).map fun c=>z++[c]))/\f <+: cC rs f (((sgT sg).cps.toList.take i).map fun c=>z++[c])/\(cC rs f (((sgT sg).cps.toList.take i).map fun c=>z++[c])).length<=f.length+i)
  ⟨u,v,w,rfl,⟨hV.sgn,fun z hz=>by have:=hV.len z hz;omega⟩,List.prefix_refl _,by show f.length<=_;omega⟩ fun i c ρ hc zz0=>by
  obtain ⟨u,v,w,e,V,pr,ln⟩:=zz0
  have hcm:=List.mem_of_getElem? hc
  have hs:=kN s1 s3 hcm
  have hi:i < (sgT sg).cps.toList.length:=by
   rcases Nat.lt_or_ge i (sgT sg).cps.toList.length with h|h
   · exact h
   · rw [List.getElem?_eq_none h] at hc; cases hc
  have ht:(sgT sg).cps.toList.take (i+1)=(sgT sg).cps.toList.take i++[c]:=by rw[List.take_succ,hc];rfl
  have Sz:bH sg (z++[c]):=⟨by have:=hV.len z hzm;rw[List.length_append,List.length_singleton];omega,fun x hx=>by
   rcases List.mem_append.mp hx with h|h
   · exact hV.sgn z hzm x h
   · rw [List.mem_singleton.mp h]; exact hs⟩
  have st:=aJW (e2:=e2) (w:=w) (v:=some (.d (tbD (cQ (c - 97) rs)))) M (V.strip (by omega)) (by omega) (aBU pr hz) Sz rfl
  rw[ht,List.map_append,List.map_singleton,uL]
  refine ⟨gaρ rs e2 (cC rs f (((sgT sg).cps.toList.take i).map fun c=>z++[c])) at' (some (.d (.str ⟨#[c]⟩))) (some (.d (tbD (cQ (c - 97) rs)))) w,_,by rw[e];simp[gaρ,iQ],.inl st,_,_,_,rfl,⟨fun x hx=>?_,fun x hx=>?_⟩,pr.trans zU,?_⟩
  ·rcases addR_mem hx with h|rfl
   · exact V.sgn x h
   · exact Sz.2
  ·rcases addR_mem hx with h|rfl
   · exact V.len x h
   · have := hV.len z hzm; rw [List.length_append, List.length_singleton]; omega
  ·have:=zT (rs:=rs) (f:=cC rs f (((sgT sg).cps.toList.take i).map fun c=>z++[c])) (y:=z++[c]);omega
 rw[List.take_length] at q1 V pr ln
 exact ⟨u',v',w',q1,V,pr,by omega⟩
end Mc
namespace Zp
open PySem L2
end Zp
namespace Fl
open PySem L2 PyProof.Rows
end Fl
namespace Zp
open PySem
structure Jk(s0:Heap)(d it S:Addr)(ar:Array DictEntry)(ep:Nat)(acc:Array Value)(h:Heap):Prop where
 size:acc.size<=ar.size
 told:acc.toList=(ar.toList.take acc.size).map (·.key)
 iter:h.IsKeyIter it d acc.size ar.size ep
 raw:Raw h d ar ep
 keep:∀ c o,c≠it->c≠S->s0.get? c=some o->h.get? c=some o
theorem aHB:typeLookup (.type "dict") "__len__"=pure (some (.builtin "dict.__len__")):=by rw[typeLookup_type,builtinLookup_eq_fast];kernel_rfl
theorem aFA{prog:Program}{w:World}{A:Around}{E:Value->Shared->Prop}{s:Shared}{d:Addr}{ar:Array DictEntry}{ep:Nat}{Q:Value->Shared->Prop}(hh:A.handled=none)(hd:(d == sysModules)=false)(hm:Raw s.heap d ar ep)(hn:ar.size<=sizeLine)
  (hQ:∀ h' tk acc c,(∀ b o,s.heap.get? b=some o->h'.get? b=some o)->sO h' s.heap.objs.size acc c->acc.toList=ar.toList.map (·.key)->Q (.ref s.heap.objs.size) {s with heap:=h',toks:=tk}) :
  wpAny (model prog w) A (call (.type "list") [.ref d]) Q E s:=by
 have hdl:d < s.heap.objs.size:=by obtain ⟨o,ho,_⟩:=hm;exact Heap.lt_size ho
 refine callType_codes (Q₁:=fun obj s₁=>obj=.ref s.heap.objs.size/\s₁={s with heap:=s.heap.push {cls:=.type "list",data:=.seq #[]}}) F.called_list (F.typeCall_list_1 _) F.entry_list_init
  (code_list_new _ ⟨rfl,rfl⟩) fun obj s₁ hs₁=>?_
 obtain ⟨rfl,rfl⟩:=hs₁
 have hS:(s.heap.push {cls:=.type "list",data:=.seq #[]}).get? s.heap.objs.size=some {cls:=.type "list",data:=.seq #[]}:=Heap.get?_push_size _ rfl
 refine ⟨⟨_,hS,rfl⟩,F.args_list_init_2 _ _,?_⟩
 generalize hSS:s.heap.objs.size=S at *
 show wpAny _ _ (do let old <-Builtin.List.listItems (.ref S);Builtin.List.listUpdate (.ref S) (fun _=>#[]);letGo old.toList.reverse;Builtin.List.listExtendWith (.ref S) (.ref d) .none) _ _ _
 refine wpAny_bind ?_
 unfold Builtin.List.listItems
 refine wpAny_bind (wpAny_seqItems hS rfl (wpAny_pure ?_))
 show wpAny _ _ (updateSeq S (fun _=>#[]) >>= fun _=>letGo (#[]:Array Value).toList.reverse >>= fun _=>Builtin.List.listExtendWith (.ref S) (.ref d) .none) _ _ _
 refine wpAny_bind (wpAny_updateSeq hS rfl (wpAny_bind (wpAny_letGo ?_)))
 have g1:=Heap.get?_update_self (Obj.mapSeq (fun _=>(#[]:Array Value))) hS rfl
 have g2:∀ c o,c≠S->s.heap.get? c=some o->((s.heap.push {cls:=.type "list",data:=.seq #[]}).update S (Obj.mapSeq (fun _=>(#[]:Array Value)))).get? c=some o:=
  fun c o hc e=>(Heap.get?_update_other _ _ (Ne.symm hc)).trans (Heap.get?_push_of_some _ e)
 have g3:((s.heap.push {cls:=.type "list",data:=.seq #[]}).update S (Obj.mapSeq (fun _=>(#[]:Array Value)))).objs.size=S+1:=by rw[Heap.size_update,Heap.size_push,hSS]
 generalize (s.heap.push {cls:=.type "list",data:=.seq #[]}).update S (Obj.mapSeq (fun _=>(#[]:Array Value)))=hp at *
 have nd:d≠S:=Nat.ne_of_lt hdl
 have hm1:Raw hp d ar ep:=by obtain ⟨o,ho,r⟩:=hm;exact ⟨o,g2 _ _ nd ho,r⟩
 have hty:(({s with heap:=hp}:Shared)).TypeIs (.ref d) "dict":=by obtain ⟨o,ho,hc,_⟩:=hm1;exact ⟨o,ho,hc.1⟩
 unfold Builtin.List.listExtendWith
 refine wpAny_bind (wpAny_typeOf hty ?_)
 have e1:Builtin.List.listSameRef (.ref S) (.ref d)=false:=by simp[Builtin.List.listSameRef,Ne.symm nd]
 simp only[e1,show (Value.type "dict" == Value.type "list")=false by decide,show (Value.type "dict" == Value.type "tuple")=false by decide,Bool.or_false,Bool.false_eq_true,if_false]
 refine wpAny_bind (aGY (s:={s with heap:=hp}) hd hm1 (wpAny_bind (wpAny_holding ?_)))
 have hit0:(hp.push {cls:=.type "dict_keyiterator",data:=.fields #[.ref d,.int 0 0,.int ar.size 0,.int ep 0]}).IsKeyIter hp.objs.size d 0 ar.size ep:=⟨_,Heap.get?_push_size _ rfl,rfl,rfl⟩
 have kp0:∀ c o,hp.get? c=some o->(hp.push {cls:=.type "dict_keyiterator",data:=.fields #[.ref d,.int 0 0,.int ar.size 0,.int ep 0]}).get? c=some o:=fun c o e=>Heap.get?_push_of_some _ e
 rw[g3] at hit0
 show wpAny _ _ (Builtin.List.listLengthHint (.ref d)) _ _ ({s with heap:=hp.push {cls:=.type "dict_keyiterator",data:=.fields #[.ref d,.int 0 0,.int ar.size 0,.int ep 0]}}:Shared)
 generalize hp.push {cls:=.type "dict_keyiterator",data:=.fields #[.ref d,.int 0 0,.int ar.size 0,.int ep 0]}=hq at *
 have hm2:Raw hq d ar ep:=by obtain ⟨o,ho,r⟩:=hm1;exact ⟨o,kp0 _ _ ho,r⟩
 have hty2:(({s with heap:=hq}:Shared)).TypeIs (.ref d) "dict":=by obtain ⟨o,ho,hc,_⟩:=hm2;exact ⟨o,ho,hc.1⟩
 unfold Builtin.List.listLengthHint
 refine wpAny_bind (wpAny_specialOf hty2 aHB ?_)
 have hsp:splitId "dict.__len__"=some ("dict","__len__"):=by decide +kernel
 simp only[hsp]
 refine wpAny_bind (wpAny_isInstance (b:=true) hty2 isSubtype_dict_dict ?_)
 simp only[Bool.not_true,Bool.false_eq_true,if_false]
 rw[if_pos (by decide +kernel)]
 refine wpAny_bind (wpAny_typeOf hty2 (wpAny_pure ?_))
 simp only[Bool.false_or]
 rw[if_pos (by decide +kernel)]
 have hS2:=kp0 _ _ g1
 rw[g3]
 refine wpAny_bind (wpAny_rule (wpAny_bind ?_))
 show wpAny _ _ (updateSeq S (·.push .none) >>= fun _=>updateSeq S (·.pop)) _ _ _
 refine wpAny_bind (wpAny_updateSeq hS2 rfl ?_)
 have g4:=Heap.get?_update_self (Obj.mapSeq (·.push Value.none)) hS2 rfl
 refine wpAny_updateSeq g4 rfl ?_
 have g5:=Heap.get?_update_self (Obj.mapSeq (·.pop)) g4 rfl
 have g6:∀ c o,c≠S->hq.get? c=some o->((hq.update S (Obj.mapSeq (·.push Value.none))).update S (Obj.mapSeq (·.pop))).get? c=some o:=
  fun c o hc e=>(Heap.get?_update_other _ _ (Ne.symm hc)).trans ((Heap.get?_update_other _ _ (Ne.symm hc)).trans e)
 generalize (hq.update S (Obj.mapSeq (·.push Value.none))).update S (Obj.mapSeq (·.pop))=hr at *
 have nit:S+1≠S:=Nat.succ_ne_self S
 refine wpAny_pure ⟨plainId_quiet F.plain_extend_loop _,aG0 (A:=A.in1) (I:=S+1) (S:=S) (n:=ar.size) (Jk s.heap d (S+1) S ar ep) (fun acc h=>acc.toList=ar.toList.map (·.key)/\∀ c o,c≠S+1->c≠S->s.heap.get? c=some o->h.get? c=some o) hn (fun acc h J=>J.size) (fun acc h h' J hsz hk=>?_) (fun acc s' c Q' E' hlt J hL hq'=>?_) (fun acc s' c Q' E' heq J hL hq'=>?_) ar.size _ #[] _ (by simp) ?_ g5 fun h' tk acc c J hsz hL=>?_⟩
 ·obtain ⟨o,ho,r⟩:=J.iter
  obtain ⟨o2,ho2,r2⟩:=J.raw
  exact ⟨J.size,J.told,⟨o,hk _ _ nit ho,r⟩,⟨o2,hk _ _ nd ho2,r2⟩,fun c o c1 c2 e=>hk _ _ c2 (J.keep c o c1 c2 e)⟩
 ·have hx:ar[acc.size]? = some ar[acc.size]:=Array.getElem?_eq_getElem hlt
  refine aGZ J.iter J.raw hx fun h2 st sb=>?_
  have hd1:d≠S+1:=fun z=>by rw[z] at hdl;exact absurd hdl (Nat.not_lt.mpr (Nat.le_succ S))
  refine hq' _ h2 s'.toks ⟨by rw[Array.size_push];omega,?_,by rw[Array.size_push];exact st,?_,fun c o c1 c2 e=>sb.extBut _ _ c1 (J.keep c o c1 c2 e)⟩ (sb.extBut _ _ (Ne.symm nit) hL)
  ·rw[Array.toList_push,J.told,Array.size_push,List.take_add_one,List.map_append]
   congr 1
   rw[Array.getElem?_toList,hx];rfl
  ·obtain ⟨o2,ho2,r2⟩:=J.raw
   exact ⟨o2,sb.extBut _ _ hd1 ho2,r2⟩
 ·refine aJH (A:=A.in1.in1) hh J.iter J.raw (by omega) fun h2 eb=>?_
  refine hq' h2 s'.toks ⟨?_,fun c o c1 c2 e=>eb c o c1 (J.keep c o c1 c2 e)⟩ (eb _ _ (Ne.symm nit) hL)
  have:=J.told
  rw[heq,List.take_of_length_le (by simp)] at this
  exact this
 ·obtain ⟨o,ho,r⟩:=hit0
  obtain ⟨o2,ho2,r2⟩:=hm2
  exact ⟨Nat.zero_le _,by simp,⟨o,g6 _ _ nit ho,r⟩,⟨o2,g6 _ _ nd ho2,r2⟩,fun c o c1 c2 e=>g6 _ _ c2 (kp0 _ _ (g2 _ _ c2 e))⟩
 ·refine ⟨rfl,hQ h' tk acc c (fun b o e=>?_) hL J.1⟩
  have hb:=Heap.lt_size e
  rw[hSS] at hb
  exact J.2 b o (Nat.ne_of_lt (Nat.lt_succ_of_lt hb)) (Nat.ne_of_lt hb) e
end Zp
namespace Fl
open PySem L2 PyProof.Rows
section
variable{X:Cx}{c:Ct}{E:XK}{e:Expr}
theorem aC4(hc:X.calm=true):eX X (.type "list") (fun xs H Q=>∃ d es ep,xs=[.ref d]/\H d=some (dJ X.w d es ep)/\es.length<=16777216/\∀ l,H l=none->Q (.ref l) (upd H l (.lst (es.map (·.2.1))))):=by
 intro pins s σ H xs us Q I r h
 obtain ⟨d,es,ep,rfl,hO,hl,q⟩:=h
 obtain ⟨u,rfl,ru⟩:=iV r
 cases (show u=Value.ref d from ru)
 obtain ⟨hd,ar,hr,hp⟩:=aBC I hO
 have hsz:es.length=ar.size:=by rw[Paired.length hp];simp
 refine Zp.aFA (I.ok.hd hc) hd hr (by rw[<-hsz,dI];exact hl) fun h' tk acc k kp hL hacc=>?_
 refine ⟨.ref s.heap.objs.size,_,I.laid (t':=tk) (o:=.lst (es.map (·.2.1))) kp (Nat.le_refl _) ⟨by rw[List.length_map,dI];exact hl,acc.toList,k,?_,by simpa using hL⟩,rfl,q _ (I.hok.fresh (Nat.le_refl _))⟩
 rw[hacc]
 refine vA (by simp[hsz]) fun i x y h1 h2=>?_
 rw[List.getElem?_map] at h1 h2
 cases e1:es[i]? with
 | none=>rw[e1] at h1;cases h1
 | some en=>
  obtain ⟨y',g1,g2,g3,g4⟩:=tZ hp e1
  rw[e1] at h1
  rw[g1] at h2
  cases h1
  cases h2
  exact g3
end
end Fl
namespace Zp
open PySem
end Zp
namespace Fl
open PySem L2 PyProof.Rows
def BxK(c:Ct)(E':XK)(σ:L2.St)(D:iP)(F H:Hp):R Unit->Prop
 | .bad=>False
 | .ok _=>∀ F' H',Ext F H F' H'->D.nx σ H'
 | .ex e=>∀ a C F' H',Ext F H F' H'->kE c.K c.mg F' e a C->E' (.ref C) (some a) H'
theorem BxK.ext{c:Ct}{E':XK}{σ:L2.St}{D:iP}{F H F1 H1:Hp}(s:Ext F H F1 H1):∀ {r:R Unit},BxK c E' σ D F H r->BxK c E' σ D F1 H1 r
 | .bad,h=>h
 | .ok _,h=>fun F' H' e=>h F' H' (s.trans e)
 | .ex _,h=>fun a C F' H' e=>h a C F' H' (s.trans e)
def aBZ:Sg->R Unit:=fun _=>.ok ()
end Fl
namespace Fl
open PySem L2 PyProof.Rows
def uM(ρ:Sg)(σ:L2.St)(p:Addr):Prop:=∀ (j:Nat) (a:A),ρ[j]? = some (some a)->a.own=true->σ[j]? ≠ some (some (.ref p))
theorem Ab.off9{c:Ct}{ρ:Sg}{σ:L2.St}{F H:Hp}{p:Addr}{o:HO}(b:Ab c ρ σ F H)(h3:F p=none)(h4:c.H0 p=none)(hs:uM ρ σ p):Ab c ρ σ F (upd H p o) where
 len:=b.len
 fh:=fun a o' z=>by rw[aH (fun w=>by rw[w,h3] at z;cases z)];exact b.fh a o' z
 slot:=fun j a h=>by
  obtain ⟨v,h1,h2⟩:=b.slot j a h
  refine ⟨v,h1,?_⟩
  cases ho:a.own with
  | true=>exact h2.off fun z=>hs j a h ho (by rw[h1,z])
  | false=>
   cases a with
   | l xs=>cases ho
   | m xs=>cases ho
   | d x=>exact h2
   | x e=>exact h2
   | g k n f=>exact h2
   | k S=>exact h2
   | f S=>exact h2
   | o S=>exact h2
 apart:=b.apart
 f0:=b.f0
 h0:=fun a o' z=>by rw[aH (fun w=>by rw[w,h4] at z;cases z)];exact b.h0 a o' z
 n0:=b.n0
 t0:=b.t0
theorem Ab.pub9{c:Ct}{ρ:Sg}{σ:L2.St}{F H:Hp}{p:Addr}{o:HO}(b:Ab c ρ σ F H)(h2:H p=some o)(h3:F p=none)(h4:c.H0 p=none)(hs:uM ρ σ p):Ab c ρ σ (upd F p o) H:=by
 have sf:aM F (upd F p o):=aM.upd h3
 exact {
  len:=b.len
  fh:=fun a o' z=>by
   by_cases w:a=p
   ·subst w;rw[aT] at z;rw[h2];exact z
   ·rw[aH w] at z;exact b.fh a o' z
  slot:=fun j a h=>by
   obtain ⟨w,hw,q2⟩:=b.slot j a h
   refine ⟨w,hw,?_⟩
   have off:∀ r,a.own=true->w=.ref r->F r=none->upd F p o r=none:=fun r oa e f=>by
    rw[aH]
    ·exact f
    ·intro z
     subst z
     exact hs j a h oa (by rw[hw,e])
   cases a with
   | l zs=>obtain ⟨r,ws,e,q1,q2,q3,q4⟩:=q2;exact ⟨r,ws,e,q1,off r rfl e q2,q3,q4.same sf⟩
   | m kvs=>obtain ⟨r,ws,e,q1,q2,q3,q4⟩:=q2;exact ⟨r,ws,e,q1,off r rfl e q2,q3,q4.same sf⟩
   | d x=>exact DatV.same sf q2
   | x e=>exact AF.same (g:=c.g) (K:=c.K) (mg:=c.mg) (a:=.x e) sf q2
   | g k n f=>exact AF.same (g:=c.g) (K:=c.K) (mg:=c.mg) (a:=.g k n f) sf q2
   | k S=>obtain ⟨S,f,cl,doc,pm,cc,ct,h0,h1,h2,h3,h4⟩:=q2;exact ⟨S,f,cl,doc,pm,cc,ct,h0,h1,sf _ _ h2,sf _ _ h3,h4⟩
   | f kvs=>exact AF.same (g:=c.g) (K:=c.K) (mg:=c.mg) (a:=.f kvs) sf q2
   | o e=>exact AF.same (g:=c.g) (K:=c.K) (mg:=c.mg) (a:=.o e) sf q2
  apart:=b.apart
  f0:=fun a o z=>sf a o (b.f0 a o z)
  h0:=b.h0
  n0:=fun a z n=>by
   by_cases w:a=p
   ·subst w;exact .inl h4
   ·rw[aH w] at n;exact b.n0 a z n
  t0:=b.t0}
theorem aHC{α:Type}{l:List α}{i:Nat}{x:α}(h:l[i]? = some x):l.set i x=l:=by
 obtain ⟨hl,e⟩:=List.getElem?_eq_some_iff.mp h
 rw[<-e];exact List.set_getElem_self hl
structure Own9(c:Ct)(F H:Hp)(ρ:Sg)(σ:L2.St)(i:Nat)(p b:Addr)(u:V)(ws:List V):Prop where
 s:σ[i]? = some (some (.ref p))
 ne:p≠b
 hp:H p=some (.lst [u,.ref b])
 hb:H b=some (.lst ws)
 fp:F p=none
 fb:F b=none
 p0:c.H0 p=none
 b0:c.H0 b=none
 np:uM ρ σ p
 nb:uM ρ σ b
theorem Own9.ext{c:Ct}{F H F' H':Hp}{ρ:Sg}{σ:L2.St}{i:Nat}{p b:Addr}{u:V}{ws:List V}(h:Own9 c F H ρ σ i p b u ws)(e:Ext F H F' H'):Own9 c F' H' ρ σ i p b u ws:=
 ⟨h.s,h.ne,e.hh _ _ h.hp,e.hh _ _ h.hb,e.stay h.fp h.hp (fun _ z=>nomatch z),e.stay h.fb h.hb (fun _ z=>nomatch z),h.p0,h.b0,h.np,h.nb⟩
theorem Own9.done{c:Ct}{F H:Hp}{ρ:Sg}{σ:L2.St}{i:Nat}{p b:Addr}{u:V}{ws ws':List V}{d1:PyData}{ys:List PyData}(h:Own9 c F H ρ σ i p b u ws)(ab:Ab c ρ σ F H)(h1:DatV c.K F u d1)(h2:DatVs c.K F ws' ys) :
  ∃ F',aM F F'/\Ab c (ρ.set i (some (.d (.list [d1,.list ys])))) σ F' (upd H b (.lst ws')):=by
 have a1:=(ab.off9 (o:=.lst ws') h.fb h.b0 h.nb).pub9 (p:=b) aT h.fb h.b0 h.nb
 have a2:=a1.pub9 (p:=p) (o:=.lst [u,.ref b]) (by rw[aH h.ne];exact h.hp) (by rw[aH h.ne];exact h.fp) h.p0 h.np
 have s1:aM F (upd F b (.lst ws')):=aM.upd h.fb
 have s2:aM (upd F b (.lst ws')) (upd (upd F b (.lst ws')) p (.lst [u,.ref b])):=aM.upd (by rw[aH h.ne];exact h.fp)
 have a3:=a2.setA (i:=i) (a:=.d (.list [d1,.list ys])) (v:=.ref p) (.lst (SqL.of aT) (.cons ((h1.same s1).same s2) (.cons (.lst (SqL.of (by rw[aH (Ne.symm h.ne)];exact aT)) ((h2.same s1).same s2)) .nil)))
 rw[aHC h.s] at a3
 exact ⟨_,fun a o z=>s2 a o (s1 a o z),a3⟩
end Fl
namespace Fl
open PySem L2 PyProof.Rows
def sS(F:Hp)(q:Addr):Hp:=fun a=>if a=q then none else F a
theorem aFB(F:Hp)(q:Addr):sS F q q=none:=if_pos rfl
theorem aBV{F:Hp}{a q:Addr}(h:a≠q):sS F q a=F a:=if_neg h
theorem aFC(F:Hp)(q:Addr):aM (sS F q) F:=fun a o e=>by
 unfold sS at e
 split at e
 · cases e
 · exact e
def aC5(c:Ct)(F:Hp)(D:iP)(s0:Option (Option V)):Fw->Prop
 | .nx ρ=>∀ σ' F' H',σ'[0]? = s0->aM F F'->Ab c ρ σ' F' H'->D.nx σ' H'
 | _=>False
theorem aC5.same{c:Ct}{F F1:Hp}{D:iP}{s0:Option (Option V)}(s:aM F F1):∀ {w:Fw},aC5 c F D s0 w->aC5 c F1 D s0 w
 | .nx ρ,h=>fun σ' F' H' e s' ab=>h σ' F' H' e (fun a o z=>s' a o (s a o z)) ab
 | .bk _,h=>h
 | .ct _,h=>h
 | .rt _,h=>h
structure ExtM(F H:Hp)(p:Addr)(F' H':Hp):Prop where
 ff:aM F F'
 hh:aM (sS H p) H'
 fh:aM F' H'
 nw:∀ a,F a=none->F' a≠none->oY (sS H p) a
section
variable{X:Cx}{c:Ct}{E:XK}{st:Stmt}
def rH:A->Bool
 | .d (.int _)=>true
 | .d .none=>true
 | .d (.bool _)=>true
 | .d (.str _)=>true
 | _=>false
theorem aHD{g:Gb}{K:Frag}{mg:Str->Option Value}{F F':Hp}{a:A}{v:V}(h:rH a=true)(r:AF g K mg F a v):AF g K mg F' a v:=by
 cases a with
 | d x=>
  cases x with
  | int i=>obtain rfl:=DatV.int_of r;exact .int _
  | none=>obtain rfl:=(show v=.non by cases r;rfl);exact .non
  | bool i=>obtain rfl:=DatV.bl_of r;exact .bl _
  | str i=>obtain rfl:=(show v=.str i by cases r;rfl);exact .str _
  | _=>cases h
 | _=>cases h
end
end Fl
namespace L2
open PySem PySem.Spec PyProof.Rows
section
variable{X:Cx}
def aH9(K:Frag):List V->Hp->VK->Prop:=fun xs H Q=>∃ (a W C:Addr) (p:Addr) (as:List Addr) (b:Bool),xs=[.ref a,.ref p]/\SX.ExcC K W C/\(H a=some (ExO a C none)\/∃ d fs,H a=some (ExO a C (some d))/\H d=some (.xd fs))/\SqT K H p (as.map V.ref)/\PySem.W.kitAny K (.ref C) (as.map Value.ref)=some b/\Q (.bl b) H
theorem wW:eX X (.builtin "isinstance") (aH9 X.K):=by
 intro pins s σ H xs us Q I r h
 obtain ⟨a,W,C,p,as,b,rfl,cc,ea,hp,e,q⟩:=h
 obtain ⟨u,v,rfl,ru,rv⟩:=s9 r
 cases (show u=Value.ref a from ru)
 cases (show v=Value.ref p from rv)
 rcases ea with ea|⟨d,fs,ea,ed⟩
 ·obtain ⟨vs,hx⟩:=pS I.hok ea
  obtain ⟨its,r1,ht,_⟩:=I.tuple hp
  obtain ⟨⟨oc,odt,odata,osl⟩,eo,hc,n,hdt⟩:=ht
  cases (show oc=.type "tuple" from hc)
  cases (show odata=.seq its.toArray n from hdt)
  rw[<-pU r1] at e
  exact PySem.W.kia_tup (SX.r9 (vs:=vs) (od:=none) (o:=none) cc) I.kIn ⟨hx,rfl,rfl,True.intro⟩ eo e (fun z=>nomatch z) fun tk=>⟨.bl b,H,I.tok _,rfl,q⟩
 ·exact yB pins s σ H _ _ Q I r ⟨a,W,C,d,fs,p,as,b,rfl,cc,ea,ed,hp,e,q⟩
end
end L2
namespace Fl
open PySem L2 PyProof.Rows
section
variable{X:Cx}{c:Ct}{E:XK}{e:Expr}{st:Stmt}{rest:List Stmt}{pos:Pos}
theorem aHE{i:Nat}{nm q q':Str}{W C:Addr}(hM:X.mg=c.mg)(er':ErrP X.K X.mg nm W C)(is:Is1 X.K X.mg nm q false)(is':Is1 X.K X.mg nm q' false)
  (h:PE X e (tCB (aH9 X.K) (cT (fM i) (cT (aKZ (cT (tC (.ref is.choose)) (cT (tC (.ref is'.choose)) eR))) eR)))):PD X c E e (jZ i nm false):=PE.imp h fun σ H Q ⟨ρ,F,ab,k⟩=>by
 unfold jZ at k
 split at k
 ·rename_i er hi
  split at k
  ·rename_i hc
   obtain ⟨v,hv,a,C0,rfl,m,od,h1,h2⟩:=ab.slot i _ hi
   rw[hc.1,<-hM,er'.m] at m
   cases m
   obtain ⟨C2,_,m2,kk⟩:=is.choose_spec
   obtain ⟨C3,_,m3,kk'⟩:=is'.choose_spec
   rw[er'.m] at m2 m3
   cases m2
   cases m3
   refine ⟨_,hv,by show 2<=sizeLine;decide,fun p hp=>?_⟩
   have ex:Ext F H F (upd H p (.tup [.ref is.choose,.ref is'.choose])):=Ext.own ab.fh hp
   refine ⟨a,W,_,p,[is.choose,is'.choose],false,rfl,er'.c,?_,SqT.of aT,aEN kk kk',Rk.ok k _ F _ ex (.bl false)⟩
   rcases h2 with ⟨_,rfl⟩|⟨dd,fvs,rfl,e2,e3,e4⟩
   · exact .inl (ex.hh _ _ (ab.fh _ _ h1))
   · exact .inr ⟨dd, fvs, ex.hh _ _ (ab.fh _ _ h1), ex.hh _ _ (ab.fh _ _ e2)⟩
  ·exact k.elim
 ·exact k.elim
def aC6(f:Sg->R (List PyData)):Sg->R Fw:=fun ρ=>(f ρ).bind fun xs=>.ok (.rt (.l xs))
theorem aJX{f:Sg->R (List PyData)}(h:PN X c E e f):PSf X c E (.Return (some e) pos) (aC6 f):=PS.imp (L2.bG h) fun D σ H ⟨ρ,F,ab,k⟩=>⟨ρ,F,ab,(Rk.bind k).imp fun xs _ q v F' H' s r=>by
 obtain ⟨p,us,e1,e2,e3,e4,e5⟩:=r
 exact Rk.ok q v F' H' (ab.all.trans s) ⟨p,us,e1,bV ab.h0 e2,e3,e4,e5⟩⟩
def aC7(i:Nat):Sg->R Fw:=fun ρ=>match ρ[i]? with
 | some (some (.l xs))=>if xs.isEmpty=true then .bad else .ok (.nx (ρ.set i (some (.l xs.dropLast))))
 | _=>.bad
theorem uN{K:Frag}{F:Hp}:∀ {vs:List V} {xs:List PyData},DatVs K F vs xs->DatVs K F vs.dropLast xs.dropLast
 | _,_,.nil=>.nil
 | _,_,.cons h .nil=>.nil
 | _,_,.cons h (.cons h2 t)=>.cons h (uN (.cons h2 t))
theorem aMQ{i:Nat}(h:PS X st (xD (aK6 X.K "list" aK8 (fM i)))):PSf X c E st (aC7 i):=PS.imp h fun D σ H ⟨ρ,F,ab,k⟩=>by
 unfold aC7 at k
 split at k
 ·rename_i xs hi
  split at k
  ·exact k.elim
  ·rename_i hne
   obtain ⟨v,hp,p,vs,rfl,h2,h3,h4,h5⟩:=ab.slot i _ hi
   have hl:vs.length=xs.length:=h5.length
   have h0:0 < xs.length:=by
    cases xs with
    | nil=>exact absurd rfl hne
    | cons=>simp
   refine ⟨_,hp,.inl ⟨rfl,vs,SqL.of h2⟩,p,vs,vs[vs.length - 1]'(by omega),rfl,rfl,h2,List.getElem?_eq_getElem (by omega),?_⟩
   exact Rk.ok k σ F _ (cU F) (ab.putL hi hp (uN h5))
 ·exact k.elim
def xQ(i j n:Nat)(G:List A->R (List PyData))(f:Sg->R (List A))(cl:List Str)(fs:Sg->R Fw):Sg->R Fw:=fun ρ=>match f ρ with
 | .ok as=>if as.length=n then (match G as with
  | .bad=>.bad
  | .ok xs=>.ok (.nx (ρ.set j (some (.l xs))))
  | .ex e=>if cl.contains e.c=true then (fs (ρ.set i (some (.x e)))).bind fun w=>.ok (aGU i w) else .bad) else .bad
 | _=>.bad
theorem aJY{i n j:Nat}{nx x y:Str}{Wc:Addr}{bmW:List Value}{suite:List Stmt}{b0:Stmt}{call:Expr}{np hpos pos epos pos':Pos}{G:List A->R (List PyData)}{f:Sg->R (List A)}{cl:List Str}{fs:Sg->R Fw}(hK:X.K=c.K)(hM:X.mg=c.mg)
  (hO:qT X) (hN:X.N.Nodup) (hj:X.N[j]? = some y) (hy:Loc X.env.scope y) (hi:X.N[i]? = some nx) (hk:X.env.scope.names.lookup nx=some .local) (hg:Gl X x) (hm:X.mg x=some (.ref Wc)) (hw:SX.ExcAny X.K Wc bmW) (hcl:aA9 X.K X.mg Wc cl)
  (hc:∀ pn σ E',PCl (X.pnw pn) σ E' call (mY (spN c.g X.K X.mg n G) [] E' (tAv c E f)))
  (hs:∀ e,nO (X.inH e) c E (b0::suite) fs) (hdb:(x == ("__debug__":Str))=false:=by decide) (hsw:swapsWith call (some (.Name y pos')) epos.line X.env=pure false:=by rfl) (hf:X.fn y=true\/X.env.scope.names.lookup y=some .local:=by first|exact .inl rfl|exact .inr rfl) :
  PSf X c E (.Try [.Assign [.Name y pos'] call epos] [.ExceptHandler (some (.Name x np)) (some nx) (b0::suite) hpos] [] [] pos) (xQ i j n G f cl fs):=by
 intro pins s σ H D I h
 obtain ⟨ρ,F,ab,k⟩:=h
 unfold xQ at k
 cases hf0:f ρ with
 | bad=>rw[hf0] at k;exact k.elim
 | ex z=>rw[hf0] at k;exact k.elim
 | ok as=>
  rw[hf0] at k
  simp only at k
  by_cases hn:as.length=n
  ·rw[if_pos hn] at k
   let E':XK:=fun cv oa H'=>∃ C a e F',cv=.ref C/\oa=some a/\Ext F H F' H'/\kE c.K c.mg F' e a C/\G as=.ex e
   refine aNV (E:=E') hO hN hi hk hg hm hw hdb I (aGT (hc _ _ E') hN hj hy I ?_ hsw hf) ?_
   ·refine ⟨ρ,F,ab,?_⟩
    rw[hf0]
    intro vs F1 H1 s1 r1
    refine ⟨F1,as,fun a o z=>s1.ff a o (ab.f0 a o (ab.t0 a o z)),s1.fh,by rw[List.append_nil,hK,hM];exact r1,hn,?_⟩
    cases hG:G as with
    | bad=>rw[hG] at k;exact k
    | ok xs=>
     rw[hG] at k
     intro v F' H' s' r'
     obtain ⟨p,us,e1,e2,e3,e4,e5⟩:=r'
     rw[hK] at e5
     exact Rk.ok k _ F' H' (s1.trans s').ff (ab.setN (s1.trans s') ⟨p,us,e1,bV s1.hh e2,e3,e4,e5⟩)
    | ex e=>
     intro a C F' H' s' r'
     rw[hK,hM] at r'
     exact ⟨C,a,e,F',rfl,rfl,s1.trans s',r',hG⟩
   ·rintro C e H' ⟨od,_⟩ ⟨C',a,er,F',h1,h2,s',r',hG⟩
    cases h1
    cases h2
    rw[hG] at k
    simp only at k
    by_cases hc:cl.contains er.c=true
    ·rw[if_pos hc] at k
     obtain ⟨C2,bm,m2,ca,co⟩:=hcl er.c (by simpa using hc)
     obtain ⟨m1,_⟩:=id r'
     rw[hM,m1] at m2
     cases m2
     refine ⟨bm,ca,co,_,hs e,ρ.set i (some (.x er)),F',(ab.ext s').setA ⟨e,C,rfl,r'⟩,?_⟩
     have k':=(Rk.bind k).ext s'
     refine k'.imp fun w _ q=>?_
     cases w with
     | nx ρ2=>exact fun σ2 F2 H2 s2 ab2=>Rk.ok q _ F2 H2 (fun a o z=>s2 a o (s'.ff a o z)) (ab2.off' i)
     | bk ρ2=>exact fun σ2 F2 H2 s2 ab2=>Rk.ok q _ F2 H2 (fun a o z=>s2 a o (s'.ff a o z)) (ab2.off' i)
     | ct ρ2=>exact fun σ2 F2 H2 s2 ab2=>Rk.ok q _ F2 H2 (fun a o z=>s2 a o (s'.ff a o z)) (ab2.off' i)
     | rt a=>exact fun v F2 H2 s2 r2=>Rk.ok q v F2 H2 s2 r2
    ·rw[if_neg hc] at k;exact k.elim
  ·rw[if_neg hn] at k;exact k.elim
def RP(g:Gb)(K:Frag)(mg:Str->Option Value)(H F' H':Hp)(d:A×PyData)(v:V):Prop:=∃ t u w,v=.ref t/\SqT K H' t [u,w]/\AR g K mg H F' H' d.1 u/\DatV K F' w d.2
def aC8(c:Ct)(E:XK)(f:Sg->R (A×PyData)):TS:=fun D σ H=>∃ ρ F,Ab c ρ σ F H/\Rk c E F H (f ρ) fun d=>∀ v F' H',Ext c.F0 c.H0 F' H'->RP c.g c.K c.mg c.H0 F' H' d v->D.rt v H'
def zV(f:Sg->R Fw)(g:Sg->R (A×PyData)):Sg->R (A×PyData):=fun ρ=>(f ρ).bind fun w=>match w with
 | .nx ρ'=>g ρ'
 | _=>.bad
def aC9(i j:Nat):Sg->R (A×PyData):=fun ρ=>match ρ[i]?,ρ[j]? with
 | some (some (.l xs)),some (some (.d y))=>.ok (.l xs,y)
 | some (some (.d x)),some (some (.d y))=>.ok (.d x,y)
 | _,_=>.bad
theorem qN{f:Sg->R Fw}{g:Sg->R (A×PyData)}(h:PSf X c E st f)(h2:PSs X rest (aC8 c E g)):PSs X (st::rest) (aC8 c E (zV f g)):=PSs.imp (L2.aD h h2) fun D σ H zz0=>by
 obtain ⟨ρ,F,ab,k⟩:=zz0
 refine ⟨ρ,F,ab,(Rk.bind k).imp fun w _ q=>?_⟩
 cases w with
 | nx ρ'=>
  intro σ' F' H' s ab'
  refine ⟨ρ',F',ab',?_⟩
  have q':Rk c E F H (g ρ') _:=q
  cases eg:g ρ' with
  | bad=>rw[eg] at q';exact q'
  | ok w=>rw[eg] at q';exact q'
  | ex e=>rw[eg] at q';exact q'
 | bk ρ'=>exact q.elim
 | ct ρ'=>exact q.elim
 | rt a=>exact q.elim
theorem aHF{i j:Nat}{es:List Expr}{x1}{lp:Pos}(h:PA X es (cT (fM i) (cT (fM j) eR))):PSs X [.Return (some (.Tuple es x1 lp)) pos] (aC8 c E (aC9 i j)):=PSs.imp (L2.aQ (L2.bG (xU h))) fun D σ H ⟨ρ,F,ab,k⟩=>by
 unfold aC9 at k
 split at k
 ·rename_i xs y hi hj
  obtain ⟨_,hv,a,us,rfl,a2,a3,a4,a5⟩:=ab.slot i _ hi
  obtain ⟨w,hw,q⟩:=ab.slot j _ hj
  refine ⟨_,hv,_,hw,by show 2<=sizeLine;decide,fun p hp=>?_⟩
  have hne:a≠p:=fun z=>by rw[z,hp] at a2;cases a2
  exact Rk.ok k (.ref p) F _ (ab.all.trans (Ext.own ab.fh hp)) ⟨p,_,_,rfl,SqT.of aT,⟨a,us,rfl,a4,by rw[aH hne];exact a2,a3,a5⟩,q⟩
 ·rename_i x y hi hj
  obtain ⟨u,hv,q0⟩:=ab.slot i _ hi
  obtain ⟨w,hw,q⟩:=ab.slot j _ hj
  refine ⟨_,hv,_,hw,by show 2<=sizeLine;decide,fun p hp=>?_⟩
  exact Rk.ok k (.ref p) F _ (ab.all.trans (Ext.own ab.fh hp)) ⟨p,_,_,rfl,SqT.of aT,q0,q⟩
 ·exact k.elim
end
def fnP(n:Nat)(fb:Sg->R (A×PyData)):List A->R (A×PyData):=fun as=>fb (as.map some++List.replicate (n - as.length) none)
def spP(g:Gb)(K:Frag)(mg:Str->Option Value)(n:Nat)(G:List A->R (A×PyData)):Sp:=fun vs H Q E=>∃ F as,aM g.T F/\aM F H/\AFs g K mg F as vs/\as.length=n/\match G as with
 | .bad=>False
 | .ok d=>∀ v F' H',Ext F H F' H'->RP g K mg H F' H' d v->Q v H'
 | .ex e=>∀ a C F' H',Ext F H F' H'->kE K mg F' e a C->E (.ref C) (some a) H'
def zW(P:Program)(w:World)(K:Frag)(mg:Str->Option Value)(base:Heap)(T:Hp)(k:Nat)(x:Str)(ps:List Str)(G:List A->R (A×PyData)):Prop:=Calls P w K mg base (CXe P w) k x ps (spP (gOf P w K mg base T) K mg ps.length G)
theorem aJZ{P:Program}{w:World}{K:Frag}{mg:Str->Option Value}{base:Heap}{T:Hp}{x:Str}{st:Stmt}{N ps:List Str}{k:Nat}{fb:Sg->R (A×PyData)}(D:DefAt K mg x st ps)(S:FnScope N ps (aO st))
  (hbody:∀ (f:Addr) (cdv:Value) (A:Around) (outer:List Env) (s:Shared) (H F:Hp) (E:XK),Room k (A.deeper (envOfC x (aO st) s.heap.objs.size f cdv))->
   PSs ((iO (CXe P w) P w K mg base N x (aO st) f cdv A outer s H E).fly E) (dH st) (aC8 ⟨K,mg,w,F,H,gOf P w K mg base T,(envOfC x (aO st) s.heap.objs.size f cdv).cells,fun _=>none⟩ E fb)):zW P w K mg base T (k+1) x ps (fnP N.length fb):=by
 refine D.okX S (fun vs H Q E h=>?_) (fun f cdv A outer s H vs Q E hr h=>?_)
 ·obtain ⟨F,as,_,_,h2,h3,_⟩:=h
  rw[h2.len,h3]
 ·obtain ⟨F,as,h0,h1,h2,h3,h4⟩:=h
  refine ⟨_,hbody f cdv A outer s H F E hr,_,F,sL h0 h1 h2,?_⟩
  unfold fnP at h4
  cases e:fb (as.map some++List.replicate (N.length - as.length) none) with
  | bad=>rw[e] at h4;exact h4
  | ex x=>rw[e] at h4;exact h4
  | ok w=>rw[e] at h4;exact h4
def aDA(i j n:Nat)(G:List A->R (A×PyData))(fa:Sg->R (List A)):Sg->R Fw:=fun ρ=>(fa ρ).bind fun as=>if as.length=n then (G as).bind fun d=>.ok (.nx ((ρ.set i (some d.1)).set j (some (.d d.2)))) else .bad
section
variable{X:Cx}{c:Ct}{E:XK}{e:Expr}{st:Stmt}
theorem Ab.setR{ρ:Sg}{σ:L2.St}{F H F' H':Hp}{i:Nat}{a:A}{v:V}(b:Ab c ρ σ F H)(s:Ext F H F' H')(r:AR c.g c.K c.mg H F' H' a v):Ab c (ρ.set i (some a)) (σ.set i (some v)) F' H':=by
 cases a with
 | l xs=>exact b.setN s r
 | _=>exact (b.ext s).setA r
theorem aJ0{i j n:Nat}{G:List A->R (A×PyData)}{g:Gb}{K:Frag}{mg:Str->Option Value}{fa:Sg->R (List A)}(hG:g=c.g)(hK:K=c.K)(hM:mg=c.mg)(hX:X.K=c.K)(h:PS X st (l7 (mY (spP g K mg n G) [] E (tAv c E fa)) (aFN X.K 2 (xE (jO i) (xE (jO j) L2.aBZ))))):PSf X c E st (aDA i j n G fa):=PS.imp h fun D σ H zz0=>by
 obtain ⟨ρ,F,ab,k⟩:=zz0
 subst hG hK hM
 refine ⟨ρ,F,ab,(Rk.bind k).imp fun as _ q vs F1 H1 s1 r1=>?_⟩
 by_cases hn:as.length=n
 ·rw[if_pos hn] at q
  refine ⟨F1,as,fun a o z=>s1.ff a o (ab.f0 a o (ab.t0 a o z)),s1.fh,by rw[List.append_nil];exact r1,hn,?_⟩
  cases hg:G as with
  | bad=>rw[hg] at q;exact q
  | ok d=>
   rw[hg] at q
   intro v F' H' s r
   obtain ⟨t,u,w,rfl,sq,ra,rd⟩:=r
   refine ⟨t,[u,w],rfl,by rw[hX];exact sq,rfl,u,[w],rfl,w,[],rfl,rfl,?_⟩
   exact Rk.ok q _ F' H' (s1.trans s).ff (((ab.ext s1).setR s ra).setA rd)
  | ex e=>rw[hg] at q;exact fun a C F' H' s r=>q a C F' H' ((ab.all.trans s1).trans s) r
 ·rw[if_neg hn] at q;exact q.elim
def oJ(j i n:Nat)(G:List A->R A)(fa:Sg->R (List A)):Sg->R A:=fun ρ=>match ρ[j]?,ρ[i]? with
 | some (some (.d y)),some (some (.l xs))=>(fa ρ).bind fun as=>if as.length+2=n then (match G (.d y::.d (.list xs)::as) with | .ok a=>if rH a=true then .ok a else .bad|_=>.bad) else .bad
 | _,_=>.bad
theorem aBW{j i n:Nat}{G:List A->R A}{g:Gb}{K:Frag}{mg:Str->Option Value}{fa:Sg->R (List A)}(hG:g=c.g)(hK:K=c.K)(hM:mg=c.mg)(h:PE X e (mY (spF g K mg n G) [] E (cT (fM j) (cT (fM i) (tAv c E fa))))):PV X c E e (oJ j i n G fa):=PE.imp h fun σ H Q ⟨ρ,F,ab,k⟩=>by
 subst hG hK hM
 unfold oJ at k
 split at k
 ·rename_i y xs hj hi
  obtain ⟨v0,hv0,r0⟩:=ab.slot j _ hj
  obtain ⟨v,hp,p,us,rfl,h2,h3,h4,h5⟩:=ab.slot i _ hi
  refine ⟨_,hv0,_,hp,ρ,F,ab,(Rk.bind k).imp fun as _ q vs F1 H1 s1 r1=>?_⟩
  by_cases hn:as.length+2=n
  ·rw[if_pos hn] at q
   have fp:F1 p=none:=s1.stay h3 h2 (fun _ z=>nomatch z)
   have hp1:H1 p=some (.lst us):=s1.hh _ _ h2
   have sp:aM F1 (upd F1 p (.lst us)):=aM.upd fp
   refine ⟨upd F1 p (.lst us),.d y::.d (.list xs)::as,fun a o z=>sp a o (s1.ff a o (ab.f0 a o (ab.t0 a o z))),fun a o z=>?_,?_,hn,?_⟩
   ·by_cases w:a=p
    ·subst w;rw[aT] at z;rw[hp1];exact z
    ·rw[aH w] at z;exact s1.fh a o z
   ·rw[List.append_nil]
    exact ⟨(DatV.same s1.ff r0).same sp,.lst (SqL.of aT) ((h5.same s1.ff).same sp),r1.same sp⟩
   ·cases hg:G (.d y::.d (.list xs)::as) with
    | bad=>rw[hg] at q;exact q
    | ex e=>rw[hg] at q;exact q.elim
    | ok a=>
     rw[hg] at q
     have q':Rk c E F H (if rH a=true then R.ok a else .bad) _:=q
     by_cases ha:rH a=true
     ·rw[if_pos ha] at q'
      intro v F' H' s r
      have e:Ext F1 H1 (sS F' p) H':=⟨s.hh,fun x o z=>by
        by_cases w:x=p
        ·subst w;rw[fp] at z;cases z
        ·rw[aBV w];exact s.ff x o (by rw[aH w];exact z),
       fun x o z=>s.fh x o (aFC F' p x o z),fun x z n=>by
        by_cases w:x=p
        ·subst w;exact absurd (aFB F' x) n
        ·rw[aBV w] at n
         exact s.nw x (by rw[aH w];exact z) n⟩
      exact Rk.ok q' v _ H' (s1.trans e) (aHD ha r)
     ·rw[if_neg ha] at q';exact q'.elim
  ·rw[if_neg hn] at q;exact q.elim
 ·exact k.elim
noncomputable def qO(i:Nat):Sg->R (List PyData):=fun ρ=>match ρ[i]? with
 | some (some (.m kvs))=>if kvs.length<=16777216 then .ok (kvs.map (·.1)) else .bad
 | _=>.bad
theorem aHG{i:Nat}(hW:X.w=c.w)(h:PE X e (tCB (fun xs H Q=>∃ d es ep,xs=[.ref d]/\H d=some (dJ X.w d es ep)/\es.length<=16777216/\∀ l,H l=none->Q (.ref l) (upd H l (.lst (es.map (·.2.1))))) (cT (fM i) eR))):PN X c E e (qO i):=PE.imp h fun σ H Q ⟨ρ,F,ab,k⟩=>by
 unfold qO at k
 split at k
 ·rename_i kvs hi
  split at k
  ·rename_i hn
   obtain ⟨v,hv,p,es,rfl,⟨ep,h2⟩,h3,h4,m⟩:=ab.slot i _ hi
   have hl:es.length=kvs.length:=by simpa using congrArg List.length m.k1
   refine ⟨_,hv,p,es,ep,rfl,by rw[hW];exact h2,by omega,fun l hl0=>?_⟩
   exact Rk.ok k _ F _ (Ext.own ab.fh hl0) ⟨l,_,rfl,hl0,aT,bV ab.fh hl0,m.k2⟩
  ·exact k.elim
 ·exact k.elim
end
end Fl
namespace HT
open PySem PySem.Spec PyProof.Rows L2
def le2(i j:Int)(x y:Str):Bool:=if i=j then (if x=y then true else (!decide (y.cps.toList < x.cps.toList))) else decide (i<=j)
section
open PySem.SeqAt
open PySem.AutoSeq1 (wpAny_loadPart')
open PySem.MeetsSeq PySem.MeetsSeq2 PySem.MeetsSeq3
theorem aN9(A:Around)(s:Shared)(a:Int)(t:Tok)(c:Int)(u:Tok)(prog:Program)(w:World)(E:Value->Shared->Prop)(Q:Value->Shared->Prop)(h:Q (.bool (decide (a<=c))) s) :
  wpAny (model prog w) A (richCompare .LtE (.int a t) (.int c u)) Q E s:=
 (PyProof.Rows.le_int h:wpAny (model prog w) A (compareOp .LtE (.int a t) (.int c u)) Q E s)
theorem aOA(A:Around)(s:Shared)(a:Str)(t:Tok)(c:Str)(u:Tok)(prog:Program)(w:World)(E:Value->Shared->Prop)(Q:Value->Shared->Prop)(h:Q (.bool (!decide (c.cps.toList < a.cps.toList))) s) :
  wpAny (model prog w) A (richCompare .LtE (.str a t) (.str c u)) Q E s:=
 (PySem.P.le_str h:wpAny (model prog w) A (compareOp .LtE (.str a t) (.str c u)) Q E s)
theorem wX(l b:Addr)(n n2:Nat)(dd dd2:Option Addr)(sl sl2:Array (Option Value))(i j:Int)(x y:Str)(t1 t2 t3 t4:Tok) :
  Meets (Builtin.«tuple.__le__» ⟨[.ref l,.ref b],[]⟩)
   (fun _ R s=>s.heap.get? l=some {cls:=.type "tuple",dict:=dd,data:=.seq #[.int i t1,.str x t2] n,slots:=sl}/\s.heap.get? b=some {cls:=.type "tuple",dict:=dd2,data:=.seq #[.int j t3,.str y t4] n2,slots:=sl2} /\
    R (.ok (.ret (.bool (le2 i j x y)))) s):=
 .of_wp fun prog w A R s h=>by
  obtain ⟨hp,g,d,tk,os⟩:=s;obtain ⟨hl,hb,h⟩:=h
  have f2:=AutoSeq1.sub_tuple_tuple
  wp_walk using wpAny_loadPart' hl,wpAny_loadPart' hb,wpAny_forIn_list _ (fun rest b s'=>b.1=none/\s'=(⟨hp,g,d,tk,os⟩:Shared)/\(rest=[((Value.int i t1,Value.int j t3):Value×Value),(Value.str x t2,Value.str y t4)]\/(rest=[((Value.str x t2,Value.str y t4):Value×Value)]/\i=j)\/(rest=[]/\i=j/\x=y))) _
  case turn=>
   rintro ⟨u,v⟩ rest b s' ⟨hb',rfl,hr⟩
   rcases hr with hr|⟨hr,hij⟩|⟨hr,_⟩
   ·injection hr with h1 h2
    injection h1 with h3 h4
    subst h3 h4 h2
    obtain ⟨e,he,hiff⟩:=aFR A.in1 ⟨hp,g,d,tk,os⟩ i t1 j t3
    refine wpAny_bind (he prog w _ _ ?_)
    cases e with
    | true=>
     have hij:=hiff.mp rfl
     wp_walk
     exact ⟨rfl,rfl,.inr (.inl ⟨rfl,hij⟩)⟩
    | false=>
     have hij:¬ i=j:=fun q=>absurd (hiff.mpr q) Bool.false_ne_true
     have hri:=aN9 A.in1 ⟨hp,g,d,tk,os⟩ i t1 j t3 prog w
     wp_walk using hri
     exact ⟨_,rfl,by simpa[le2,hij] using h⟩
   ·injection hr with h1 h2
    injection h1 with h3 h4
    subst h3 h4 h2
    have he:SeqAt.EqAt A.in1 (⟨hp,g,d,tk,os⟩:Shared) (.str x t2) (.str y t4) (x == y):=SeqAt.EqAt.str_str x t2 y t4
    refine wpAny_bind (he prog w _ _ ?_)
    cases hxy:(x == y) with
    | true=>
     have hxy':x=y:=by simpa using hxy
     wp_walk
     exact ⟨rfl,rfl,.inr (.inr ⟨rfl,hij,hxy'⟩)⟩
    | false=>
     have hxy':¬ x=y:=by simpa using hxy
     have hri:=aOA A.in1 ⟨hp,g,d,tk,os⟩ x t2 y t4 prog w
     wp_walk using hri
     exact ⟨_,rfl,by simpa[le2,hij,hxy'] using h⟩
   ·cases hr
  case fin=>
   rintro ⟨b1,b2⟩ s' ⟨hb',rfl,hr⟩
   simp only at hb'
   subst hb'
   rcases hr with hr|⟨hr,_⟩|⟨_,hij,hxy⟩
   ·cases hr
   ·cases hr
   ·wp_walk
    exact ⟨_,rfl,by simpa[Builtin.Tuple.tupleCompareSizes,le2,hij,hxy] using h⟩
  case h=>exact ⟨rfl,rfl,.inl rfl⟩
end
theorem aDB{prog:Program}{w:World}{A:Around}{E:Value->Shared->Prop}{s:Shared}{l b:Addr}{i j:Int}{x y:Str}{t1 t2 t3 t4:Tok}{Q:Value->Shared->Prop}(hl:IsTup s.heap l #[.int i t1,.str x t2])(hb:IsTup s.heap b #[.int j t3,.str y t4])
  (hu:A.units < cLine) (h:Q (.bool (le2 i j x y)) s):wpAny (model prog w) A (compareOp .LtE (.ref l) (.ref b)) Q E s:=by
 obtain ⟨⟨cls,dd,data,sl⟩,ho,hc,n,hd⟩:=id hl
 obtain ⟨⟨cls2,dd2,data2,sl2⟩,ho2,hc2,n2,hd2⟩:=id hb
 simp only at hc hd hc2 hd2
 subst hc hd hc2 hd2
 exact richCompare_meets_room (op:=.LtE) ⟨_,ho,rfl⟩ ⟨_,ho2,rfl⟩ PySem.F.slot_tuple_le PySem.F.entry_tuple_le (PySem.F.args_tuple_le_2 _ _) (wX l b n n2 dd dd2 sl sl2 i j x y t1 t2 t3 t4)
  ⟨ho,ho2,show Value.bool (le2 i j x y)≠Value.notImplemented/\Q (.bool (le2 i j x y)) s from ⟨(fun x=>nomatch x),h⟩⟩ hu
end HT
namespace Fl
open PySem L2 PyProof.Rows
def sT:PyData->PyData->R PyData
 | .tuple [.int i,.str x],.tuple [.int j,.str y]=>.ok (.bool (HT.le2 i j x y))
 | _,_=>.bad
theorem aFD:cN sT:=by
 intro a b e h
 unfold sT at h
 split at h<;>cases h
theorem aJ1{X:Cx}{c:Ct}(hK:X.K=c.K)(hu:X.A.units+64 < cLine):OpR X (compareOp .LtE) (r2D (bA c) (bA c) (cE c) sT):=by
 intro pins s σ H v u x y Q I rx ry h
 obtain ⟨H0,H1,F,a,b,d,sf,ra,rb,eg,q⟩:=h
 unfold sT at eg
 split at eg
 ·rename_i i z j w
  cases eg
  obtain ⟨pa,vs,rfl,fa,ha,da⟩:=aX.tup_of sf ra
  obtain ⟨pb,us,rfl,fb,hb,db⟩:=aX.tup_of sf rb
  rw[<-hK] at ha hb
  obtain rfl:=aBB da
  obtain rfl:=aBB db
  cases rx
  cases ry
  obtain ⟨its,r1,p1,_⟩:=I.tuple ha
  obtain ⟨its2,r2,p2,_⟩:=I.tuple hb
  cases r1 with
  | cons k1 r1=>cases r1 with
   | cons k2 r1=>cases r1 with
    | nil=>
     cases r2 with
     | cons k3 r2=>cases r2 with
      | cons k4 r2=>cases r2 with
       | nil=>
        obtain ⟨t1,rfl⟩:=k1
        obtain ⟨t2,rfl⟩:=k2
        obtain ⟨t3,rfl⟩:=k3
        obtain ⟨t4,rfl⟩:=k4
        exact HT.aDB p1 p2 (by omega) ⟨.bl _,H,I,rfl,q _ F H (Ext.refl sf) (.bl _)⟩
 ·cases eg
end Fl
namespace Mc
open PySem L2 PyProof.Rows Fl
noncomputable def mT:Sg->R Fw:=(aJ (dD 2 (c6 [none,some 0] (e1 a8 (eSl dSl (eC (.str "abc")) oNo (oSo (eA (aY 1 eH (aA (vV 0) aK)))))) (stN 0) dO (bZ (aA (eV 0) (aA (eA (aY 2 eP (aA (vV 1) (aA (vV 0) aK)))) aK)))))
 (aJ (dD 3 (eN (aA (bZ (aA (eC (.str "")) (aA (eA (aY 1 lX (aA (vD (e1 dLen (rV 0))) aK))) aK))) aK)))
 (aJ (rC 4 (rB (e2 dIx (e2 dIx (rV 3) (eC (.int 0))) (eC (.int 1))) (eC (.bool true)) vL))
 (aJ (bU 5 (vD (eC (.int 0))))
 (aJ (bR (e1 asB (e2 dLt (rV 5) (e1 dLen (rV 3)))) (aJ (sFz 2 (fX (e1 a8 (eV 2)) (stT [(stN 6),(stN 7)]) (aJ (bU 8 (aY 2 f6 (aA (vD (e2 dIx (e2 dIx (rV 3) (rV 5)) (eC (.int 1)))) (aA (vV 7) aK))))
 (sIf (e1 asB (gM true 4 (eV 8))) (aJ (fZ 4 (eV 8) (eC (.bool true)))
 (g7 3 (bZ (aA (e2 cH (e2 dIx (e2 dIx (rV 3) (rV 5)) (eC (.int 0))) (rV 6)) (aA (eV 8) aK))))) sNx))))
 (aJ (sIf (e1 asB (e2 dGt (e1 dLen (rV 3)) (rV 1))) (rD "TooMany" (rV 1)) sNx)
 (aCS 5 o0 (eC (.int 1))))))
 (lN 3))))))
noncomputable def iA:List A->R (List PyData):=fnN 9 mT
noncomputable def iN:Sg->R Fw:=(aC6 (xN 2 iA (aA (vV 0) (aA (vD (eC (.int 300))) aK))))
noncomputable def cM:List A->R (List PyData):=fnN 1 iN
noncomputable def iB:Sg->R Fw:=(aJ (dD 3 (c6 [none,some 0] (e1 a8 (eSl dSl (eC (.str "abc")) oNo (oSo (rV 1)))) (stN 0) dO (eA (aY 2 bK (aA (vV 1) (aA (vV 0) aK))))))
 (aJ (dD 4 (eN (aA (eA (aY 2 bK (aA (vV 0) (aA (vD (eC (.str ""))) aK)))) aK)))
 (aJ (rC 5 (rB (e2 dIx (rV 4) (eC (.int 0))) (eC (.bool true)) vL))
 (aJ (bU 6 (vD (eC (.int 0))))
 (aJ (bR (gY (e1 asB (e2 dLt (rV 6) (e1 dLen (rV 4)))) (e1 asB (e2 dLe (e1 dLen (rV 4)) (rV 2)))) (aJ (sFz 3 (fX (e1 a8 (eV 3)) (stN 7) (aJ (bU 8 (aY 2 cR (aA (vD (eL (eN (aA (e2 dIx (rV 4) (rV 6)) (aA (eV 7) aK))))) (aA (vD (e1 dLen (rV 0))) aK))))
 (sIf (e1 asB (gM true 5 (eV 8))) (aJ (fZ 5 (eV 8) (eC (.bool true)))
 (g7 4 (eV 8))) sNx))))
 (bU 6 (vD (e2 cH (rV 6) (eC (.int 1)))))))
 (bP (vD (e1 dLen (rV 4)))))))))
noncomputable def dA:List A->R A:=fnF 9 iB
noncomputable def fE:Sg->R (A×PyData):=(zV (bU 1 (vD (eC .none)))
 (zV (bU 2 (vD (eC (.bool false))))
 (zV (xQ 3 1 1 cM (aA (vV 0) aK) ["TooMany"] (aJ (bU 4 (vD (p8 (jZ 3 "TooMany" true) (jZ 3 "TooMany" true))))
 (bU 2 (vD (p8 (eV 4) (aCP (jZ 3 "TooMany" false)))))))
 (aC9 1 2))))
noncomputable def dB:List A->R (A×PyData):=fnP 5 fE
noncomputable def iR:Sg->R Fw:=(aJ (bU 3 (vD (eC .none)))
 (aJ (fX (e1 a8 (eV 1)) (stN 4) (aJ (sIf (bOr (gZ (e1 asB (e1 (eB "tuple") (rV 4)))) (bOr (e1 asB (e2 dNe (e1 dLen (rV 4)) (eC (.int 2)))) (gZ (e1 asB (e1 (eB "str") (e2 dIx (rV 4) (eC (.int 0)))))))) (bP (vD (eC (.bool false)))) sNx)
 (aJ (sIf (bOr (gZ (e1 asB (e1 dAll (eL (c6 [none,some 2] (e1 a8 (e2 dIx (rV 4) (eC (.int 0)))) (stN 0) dO (e2 dIn (rV 0) (eSl dSl (eC (.str "abc")) oNo (oSo (rV 1))))))))) (e1 asB (e2 dGt (e1 dLen (e2 dIx (rV 4) (eC (.int 0)))) (eC (.int 300))))) (bP (vD (eC (.bool false)))) sNx)
 (aJ (sIf (gY (e1 asB (e2 dIsnt (rV 3) (eC .none))) (e1 asB (e2 sT (bZ (aA (e1 dLen (e2 dIx (rV 4) (eC (.int 0)))) (aA (e2 dIx (rV 4) (eC (.int 0))) aK))) (rV 3)))) (bP (vD (eC (.bool false)))) sNx)
 (aJ (bU 3 (vD (bZ (aA (e1 dLen (e2 dIx (rV 4) (eC (.int 0)))) (aA (e2 dIx (rV 4) (eC (.int 0))) aK)))))
 (sIf (gZ (e1 asB (eA (aY 2 dW (aA (vD (e2 dIx (rV 4) (eC (.int 1)))) (aA (aY 2 bK (aA (vV 0) (aA (vD (e2 dIx (rV 4) (eC (.int 0)))) aK))) aK)))))) (bP (vD (eC (.bool false)))) sNx))))))
 (bP (vD (eC (.bool true))))))
noncomputable def eF:List A->R A:=fnF 5 iR
noncomputable def iS:Sg->R Fw:=(aJ (jY 3)
 (aJ (fX (e1 a8 (eV 1)) (stT [(stN 4),(stN 5)]) (fZ 3 (eV 5) (eC (.bool true))))
 (aJ (dD 6 (c6 [none,some 0] (e1 a8 (eSl dSl (eC (.str "abc")) oNo (oSo (rV 2)))) (stN 0) dO (eA (aY 2 bK (aA (vV 1) (aA (vV 0) aK))))))
 (aJ (fX (e1 a8 (eL (qO 3))) (stN 5) (sFz 6 (fX (e1 a8 (eV 6)) (stN 7) (aJ (sIf (e1 asB (gM true 3 (eA (aY 2 cR (aA (vD (eL (eN (aA (eV 5) (aA (eV 7) aK))))) (aA (vD (e1 dLen (rV 0))) aK)))))) (bP (vD (eC (.bool false)))) sNx)
 (sIf (e1 asB (gM true 3 (eA (aY 2 cR (aA (vD (eL (eN (aA (eV 7) (aA (eV 5) aK))))) (aA (vD (e1 dLen (rV 0))) aK)))))) (bP (vD (eC (.bool false)))) sNx)))))
 (bP (vD (e2 dEq (t5 3) (e1 dLen (rV 1)))))))))
noncomputable def eG:List A->R A:=fnF 8 iS
noncomputable def aDC:Sg->R Fw:=(aJ (bU 1 (aY 2 cB (aA (vV 0) (aA (vD (eC (.int 0))) aK))))
 (aJ (bU 2 (vD (e2 cH (eC (.int 1)) (e2 dMod (rV 1) (eC (.int 3))))))
 (aJ (bU 3 (vD (e2 cH (eC (.int 1)) (e2 dMod (e2 dDiv (rV 1) (eC (.int 3))) (eC (.int 3))))))
 (aJ (bU 4 (aY 4 fU (aA (vV 0) (aA (vD (eC (.int 1))) (aA (vV 2) (aA (vV 3) aK))))))
 (aJ (bU 5 (aY 3 dA (aA (vV 4) (aA (vV 3) (aA (vD (eC (.int 300))) aK)))))
 (aJ (aDA 6 7 1 dB (aA (vV 4) aK))
 (aJ (sIf (e1 asB (e2 dGt (rV 5) (eC (.int 300)))) (bP (vD (p8 (e2 dIs (rV 6) (eC .none)) (eV 7)))) sNx)
 (aJ (sIf (bOr (gZ (e1 asB (e1 (eB "list") (rV 6)))) (bOr (e1 asB (e2 dNe (e1 dLen (rV 6)) (rV 5))) (e1 asB (e2 dNe (e2 dIx (e2 dIx (rV 6) (eC (.int 0))) (eC (.int 0))) (eC (.str "")))))) (bP (vD (eC (.bool false)))) sNx)
 (aJ (sIf (bOr (gZ (e1 asB (eA (oJ 4 6 3 eF (aA (vV 3) aK))))) (gZ (e1 asB (eA (oJ 4 6 3 eG (aA (vV 3) aK)))))) (bP (vD (eC (.bool false)))) sNx)
 (aJ (dD 8 (e1 dLst (rV 6)))
 (aJ (aC7 6)
 (bP (vD (e2 dEq (eL (xN 1 cM (aA (vV 4) aK))) (rV 8)))))))))))))))
noncomputable def aDD:List A->R A:=fnF 9 aDC
end Mc
namespace Mc
open PySem L2 PyProof.Rows Fl
def top(i:Nat):Stmt:=PySem.Challenge.pw_striproam_k16_all_tables.main.body.getD i (.Pass ⟨0,0,0,0⟩)
structure Txt(w:World)(K:Frag)(mg:Str->Option Value):Prop where
 b_ValueError:mg "ValueError"=none
 b_all:mg "all"=none
 b_bool:mg "bool"=none
 b_enumerate:mg "enumerate"=none
 b_int:mg "int"=none
 b_isinstance:mg "isinstance"=none
 b_len:mg "len"=none
 b_list:mg "list"=none
 b_range:mg "range"=none
 b_str:mg "str"=none
 b_tuple:mg "tuple"=none
 g_MOST_TABLES:∃ t,mg "MOST_TABLES"=some (.int 300 t)
 g_SIGNS:∃ t,mg "SIGNS"=some (.str "abc" t)
section
variable{P:Program}{w:World}{K:Frag}{mg:Str->Option Value}{base:Heap}{TH:Hp}
theorem rR:FnScope ["machine"] ["machine"] (aO (top 7)):=by constructor<;>first|rfl|decide +kernel
theorem aAF(T:Txt w K mg)(D:DefAt K mg "signs_of" (top 7) ["machine"]):a7 P w K mg base TH 1 "signs_of" ["machine"] eH:=
 @c8 P w K mg base TH "signs_of" (top 7) ["machine"] ["machine"] 0 o7 D rR (fun f cdv A outer s H F E hr=>by
  have nd:=rR.nd
  exact (Fl.aQ (Fl.bG (aS (cO rfl (a6 bW rfl T.b_len PySem.boot_len (aE (aB (bN (bO rfl) aU (aB (bN (bO rfl) aU (aC (pv 0)) (aB aG))) (aB aG))) aR)))))))
theorem rS:FnScope ["machine","number"] ["machine","number"] (aO (top 8)):=by constructor<;>first|rfl|decide +kernel
theorem aAG(T:Txt w K mg)(D:DefAt K mg "cells_of" (top 8) ["machine","number"]):a7 P w K mg base TH 1 "cells_of" ["machine","number"] j0:=
 @c8 P w K mg base TH "cells_of" (top 8) ["machine","number"] ["machine","number"] 0 o8 D rS (fun f cdv A outer s H F E hr=>by
  have nd:=rS.nd
  exact (Fl.aQ (Fl.bG (aS (d3 (gK (gI (N:=["row","number"]) (js:=[none,some 1]) rfl (.own (.cap rfl (.inl rfl) (.inl rfl) .nil)) (by rfl) (jT rfl (aC (pv 0)))) (by decide) (by decide) (is:=[0]) (fun cl C s0 H0 fp=>⟨_,(bJ (i:=0) (show (["row","number"]:List Str).Nodup by decide +kernel) rfl (Or.inl rfl)),(bQ 0),Fl.cX,(bN (bO rfl) aU (aB (bN (bO rfl) aU (aC (pv 0)) (aB aG))) (aC (pv 1)))⟩)))))))
theorem pI:FnScope ["signs","strip","known","at","sign"] ["signs","strip"] (aO (top 9)):=by constructor<;>first|rfl|decide +kernel
theorem wY(T:Txt w K mg)(D:DefAt K mg "checked_by" (top 9) ["signs","strip"]){W_NoStrip C_NoStrip:Addr}(er_NoStrip:ErrAt P w K mg base "NoStrip" ["at"] W_NoStrip C_NoStrip):a7 P w K mg base TH 3 "checked_by" ["signs","strip"] g9:=
 @c8 P w K mg base TH "checked_by" (top 9) ["signs","strip","known","at","sign"] ["signs","strip"] 2 mH D pI (fun f cdv A outer s H F E hr=>by
  have nd:=pI.nd
  exact (Fl.aD (Fl.aN (L2.aN (i:=2) nd rfl (Or.inl rfl) (aS (iZ rfl (aB (gS (j7 (v:=.str "abc") rfl T.g_SIGNS.choose_spec ⟨_,rfl⟩) fun _=>.str _)) o4 (o5 (aC (pv 0)))))))
   (Fl.aD (Fl.c7 (qA rfl (fF (bQ 3) (fF (bQ 4) oB)) rfl) (L2.c7 (dX ⟨rfl,rfl⟩) rfl (aLN rfl (aIQ rfl T.b_enumerate (aE (a9 (pv 1)) aR)) (aF2 rfl T.b_enumerate (aE (a9 (pv 1)) aR))) (nS rfl (eD (bJ (i:=3) nd rfl (Or.inl rfl)) (eD (bJ (i:=4) nd rfl (Or.inl rfl)) lS)))
   (Fl.aQ (Fl.dF (Fl.cK (aI4 rfl hr.units) aEC (aC (pv 4)) (aC (pv 2)) (by with_unfolding_all rfl)) (Fl.aQ (Fl.sC er_NoStrip.m (by decide) (aDZ rfl er_NoStrip rfl (hr.mono (by decide)) (aL (a9 (pv 3)) bM)))) Fl.cD))))
   (Fl.aQ (Fl.bG (aZ (pv 1)))))))
theorem uO:FnScope ["machine","strip"] ["machine","strip"] (aO (top 10)):=by constructor<;>first|rfl|decide +kernel
theorem aDE(T:Txt w K mg)(D:DefAt K mg "checked" (top 10) ["machine","strip"])(c_checked_by:a7 P w K mg base TH 3 "checked_by" ["signs","strip"] g9)(c_signs_of:a7 P w K mg base TH 1 "signs_of" ["machine"] eH):a7 P w K mg base TH 4 "checked" ["machine","strip"] jI:=
 @c8 P w K mg base TH "checked" (top 10) ["machine","strip"] ["machine","strip"] 3 qH D uO (fun f cdv A outer s H F E hr=>by
  have nd:=uO.nd
  exact (Fl.aQ (Fl.bG (cG rfl rfl rfl (bY c_checked_by (hr.mono (by decide)) rfl (cZ fun _ _ _ h=>h) (aF (cG rfl rfl rfl (bY c_signs_of (hr.mono (by decide)) rfl (cZ fun _ _ _ h=>h) (aF (aZ (pv 0)) bE))) (aF (aZ (pv 1)) bE)))))))
theorem zX:FnScope ["rooms","fore","aft"] ["rooms"] (aO (top 12)):=by constructor<;>first|rfl|decide +kernel
theorem aHH(T:Txt w K mg)(D:DefAt K mg "still" (top 12) ["rooms"]):a7 P w K mg base TH 1 "still" ["rooms"] lX:=
 @c8 P w K mg base TH "still" (top 12) ["rooms","fore","aft"] ["rooms"] 0 vN D zX (fun f cdv A outer s H F E hr=>by
  have nd:=zX.nd
  exact (Fl.aD (Fl.aN (L2.aN (i:=1) nd rfl (Or.inl rfl) (aS (eE rfl (cI cJ rfl T.b_tuple PyProof.Rows.boot_tuple (aE (aB (d3 (gK (gI (N:=["room"]) (js:=[none]) rfl (.own .nil) (by rfl) (xJ (kH (gQ rfl T.b_range (aE (aC (pv 0)) aR))))) (by decide) (by decide) (is:=[0]) (fun cl C s0 H0 fp=>⟨_,(bJ (i:=0) (show (["room"]:List Str).Nodup by decide +kernel) rfl (Or.inl rfl)),(bQ 0),Fl.cX,(cW (aL aG (aL (a9 (pv 0)) bM)))⟩)))) aR))))))
   (Fl.aD (Fl.aN (L2.aN (i:=2) nd rfl (Or.inl rfl) (aS (eE rfl (cI cJ rfl T.b_tuple PyProof.Rows.boot_tuple (aE (aB (d3 (gK (gI (N:=["room"]) (js:=[none]) rfl (.own .nil) (by rfl) (xJ (kH (gQ rfl T.b_range (aE (aC (pv 0)) aR))))) (by decide) (by decide) (is:=[0]) (fun cl C s0 H0 fp=>⟨_,(bJ (i:=0) (show (["room"]:List Str).Nodup by decide +kernel) rfl (Or.inl rfl)),(bQ 0),Fl.cX,(cW (aL (tR n8 lA (aB aG)) (aL (a9 (pv 0)) bM)))⟩)))) aR))))))
   (Fl.aQ (Fl.bG (aS (cW (aL (a9 (pv 1)) (aL (a9 (pv 2)) bM)))))))))
end
end Mc
namespace Mc
open PySem L2 PyProof.Rows Fl
section
variable{P:Program}{w:World}{K:Frag}{mg:Str->Option Value}{base:Heap}{TH:Hp}
theorem pJ:FnScope ["machine","sign","things"] ["machine","sign"] (aO (top 13)):=by constructor<;>first|rfl|decide +kernel
theorem wZ(T:Txt w K mg)(D:DefAt K mg "sign_table" (top 13) ["machine","sign"])(c_checked:a7 P w K mg base TH 4 "checked" ["machine","strip"] jI)(c_cells_of:a7 P w K mg base TH 1 "cells_of" ["machine","number"] j0):a7 P w K mg base TH 5 "sign_table" ["machine","sign"] eP:=
 @c8 P w K mg base TH "sign_table" (top 13) ["machine","sign","things"] ["machine","sign"] 4 mI D pJ (fun f cdv A outer s H F E hr=>by
  have nd:=pJ.nd
  exact (Fl.aD (Fl.gG (L2.gG (cG rfl rfl rfl (bY c_checked (hr.mono (by decide)) rfl (cZ fun _ _ _ h=>h) (aF (aZ (pv 0)) (aF (aZ (pv 1)) bE))))))
   (Fl.aD (Fl.aN (L2.aN (i:=2) nd rfl (Or.inl rfl) (aS (eE rfl (cI cJ rfl T.b_tuple PyProof.Rows.boot_tuple (aE (aB (d3 (gK (gI (N:=["cell"]) (js:=[none]) rfl (.own .nil) (by rfl) (jT rfl (aB (dG (cG rfl rfl rfl (bY c_cells_of (hr.mono (by decide)) rfl (cZ fun _ _ _ h=>h) (aF (aZ (pv 0)) (aF (aS (y2 (mZ PySem.F.plainAttrs_str PySem.F.slot_str_index PySem.F.type_str_index yA (aB (gS (j7 (v:=.str "abc") rfl T.g_SIGNS.choose_spec ⟨_,rfl⟩) fun _=>.str _)) (aE (aC (pv 1)) aR)) (by intro ρ x h;cases h;exact ⟨_,rfl⟩))) bE)))))))) (by decide) (by decide) (is:=[0]) (fun cl C s0 H0 fp=>⟨_,(bJ (i:=0) (show (["cell"]:List Str).Nodup by decide +kernel) rfl (Or.inl rfl)),(bQ 0),Fl.cX,(cW (aL (bN (bO rfl) aU (aC (pv 0)) (aB aG)) (aL (bN (bO rfl) aU (aC (pv 0)) (aB aG)) bM)))⟩)))) aR))))))
   (Fl.aQ (Fl.bG (aS (cW (aL (a9 (pv 2)) (aL (a9 (pv 2)) bM)))))))))
theorem rT:FnScope ["one","other","thing","inward","been"] ["one","other","thing","inward"] (aO (top 14)):=by constructor<;>first|rfl|decide +kernel
theorem aAH(T:Txt w K mg)(D:DefAt K mg "gone_out" (top 14) ["one","other","thing","inward"]):a7 P w K mg base TH 1 "gone_out" ["one","other","thing","inward"] eI:=
 @c8 P w K mg base TH "gone_out" (top 14) ["one","other","thing","inward","been"] ["one","other","thing","inward"] 0 o9 D rT (fun f cdv A outer s H F E hr=>by
  have nd:=rT.nd
  exact (Fl.aD (rA rfl (L2.aN (i:=4) nd rfl (Or.inl rfl) q9))
   (Fl.aD (Fl.eK (L2.eK (dX ⟨rfl,rfl⟩) (PW.pt (Fl.kY (Fl.cK yU tT (aC (pv 2)) (aB gW) (b7 _)) (Fl.j8 (Fl.cK (lB rfl hr.units) gX (aB (bN (bO rfl) aU (aC (pv 2)) (aB aG))) (aC (pv 3)) (b7 _)))))
   (Fl.aD (Fl.dF (mG rfl rfl (jD (vK hr.units) (a9 (pv 2)) (pv 4) (by with_unfolding_all rfl))) (Fl.aQ (Fl.bG (aS gW))) Fl.cD)
   (Fl.aD (Fl.lV rfl rfl (jP d0 (nU (pv 4) (a9 (pv 2)) (kI hr.units))))
   (Fl.aD (Fl.aN (L2.aN (i:=2) nd rfl (Or.inl rfl) (aS (aHW (Fl.cK (lB rfl hr.units) gX (aC (pv 3)) (aB aG) (b7 _)) (bN (bO rfl) aU (aB (bN (bO rfl) aU (aC (pv 1)) (aB aG))) (aB (bN (bO rfl) aU (aC (pv 2)) (aB aG)))) (bN (bO rfl) aU (aB (bN (bO rfl) aU (aC (pv 0)) (aB aG))) (aB (bN (bO rfl) aU (aC (pv 2)) (aB aG))))))))
   (Fl.aQ (Fl.aN (L2.aN (i:=3) nd rfl (Or.inl rfl) (aS (tR n8 lA (aC (pv 3))))))))))))
   (Fl.aQ (Fl.bG (aZ (pv 2)))))))
theorem wP:FnScope ["one","other","fore","aft"] ["one","other"] (aO (top 15)):=by constructor<;>first|rfl|decide +kernel
theorem aFE(T:Txt w K mg)(D:DefAt K mg "behind" (top 15) ["one","other"])(c_gone_out:a7 P w K mg base TH 1 "gone_out" ["one","other","thing","inward"] eI):a7 P w K mg base TH 2 "behind" ["one","other"] f6:=
 @c8 P w K mg base TH "behind" (top 15) ["one","other","fore","aft"] ["one","other"] 1 sP D wP (fun f cdv A outer s H F E hr=>by
  have nd:=wP.nd
  exact (Fl.aD (Fl.aN (L2.aN (i:=2) nd rfl (Or.inl rfl) (aS (eE rfl (cI cJ rfl T.b_tuple PyProof.Rows.boot_tuple (aE (aB (d3 (gK (gI (N:=["thing","one","other"]) (js:=[none,some 0,some 1]) rfl (.own (.cap rfl (.inl rfl) (.inl rfl) (.cap rfl (.inl rfl) (.inl rfl) .nil))) (by rfl) (jT rfl (aB (bN (bO rfl) aU (aC (pv 0)) (aB aG))))) (by decide) (by decide) (is:=[0]) (fun cl C s0 H0 fp=>⟨_,(bJ (i:=0) (show (["thing","one","other"]:List Str).Nodup by decide +kernel) rfl (Or.inl rfl)),(bQ 0),Fl.cX,(dG (cG rfl rfl rfl (bY c_gone_out (hr.mono (by decide)) rfl jQ (aF (aZ (pv 1)) (aF (aZ (pv 2)) (aF (aZ (pv 0)) (aF (aS aG) bE)))))))⟩)))) aR))))))
   (Fl.aD (Fl.aN (L2.aN (i:=3) nd rfl (Or.inl rfl) (aS (eE rfl (cI cJ rfl T.b_tuple PyProof.Rows.boot_tuple (aE (aB (d3 (gK (gI (N:=["thing","one","other"]) (js:=[none,some 0,some 1]) rfl (.own (.cap rfl (.inl rfl) (.inl rfl) (.cap rfl (.inl rfl) (.inl rfl) .nil))) (by rfl) (jT rfl (aB (bN (bO rfl) aU (aC (pv 1)) (aB aG))))) (by decide) (by decide) (is:=[0]) (fun cl C s0 H0 fp=>⟨_,(bJ (i:=0) (show (["thing","one","other"]:List Str).Nodup by decide +kernel) rfl (Or.inl rfl)),(bQ 0),Fl.cX,(dG (cG rfl rfl rfl (bY c_gone_out (hr.mono (by decide)) rfl jQ (aF (aZ (pv 1)) (aF (aZ (pv 2)) (aF (aZ (pv 0)) (aF (aS (tR n8 lA (aB aG))) bE)))))))⟩)))) aR))))))
   (Fl.aQ (Fl.bG (aS (cW (aL (a9 (pv 2)) (aL (a9 (pv 3)) bM)))))))))
theorem rW:FnScope ["machine","most","ends","found","known","at","sign","end","table"] ["machine","most"] (aO (top 18)):=by constructor<;>first|rfl|decide +kernel
theorem aAI(T:Txt w K mg)(D:DefAt K mg "gathered" (top 18) ["machine","most"])(c_signs_of:a7 P w K mg base TH 1 "signs_of" ["machine"] eH)(c_sign_table:a7 P w K mg base TH 5 "sign_table" ["machine","sign"] eP)(c_still:a7 P w K mg base TH 1 "still" ["rooms"] lX)(c_behind:a7 P w K mg base TH 2 "behind" ["one","other"] f6){Wp_TooMany Cp_TooMany:Addr}(erp_TooMany:ErrP K mg "TooMany" Wp_TooMany Cp_TooMany):oC P w K mg base TH 6 "gathered" ["machine","most"] iA:=
 @aBD P w K mg base TH "gathered" (top 18) ["machine","most","ends","found","known","at","sign","end","table"] ["machine","most"] 5 mT D rW (fun f cdv A outer s H F E hr=>by
  have nd:=rW.nd
  exact (Fl.aD (jH (L2.eY (i:=2) nd rfl (Or.inl rfl) (by rfl) (N:=["sign","machine"]) (js:=[none,some 0]) rfl (.own (.cap rfl (.inl rfl) (.inl rfl) .nil)) (by rfl) (jT rfl (aB (iZ rfl (aB (gS (j7 (v:=.str "abc") rfl T.g_SIGNS.choose_spec ⟨_,rfl⟩) fun _=>.str _)) o4 (o5 (aB (dG (cG rfl rfl rfl (bY c_signs_of (hr.mono (by decide)) rfl (cZ fun _ _ _ h=>h) (aF (aZ (pv 0)) bE)))))))))) (by decide) (by decide) (is:=[0]) (fun cl C s0 H0 fp=>⟨_,(bJ (i:=0) (show (["sign","machine"]:List Str).Nodup by decide +kernel) rfl (Or.inl rfl)),(bQ 0),Fl.cX,(cW (aL (a9 (pv 0)) (aL (dG (cG rfl rfl rfl (bY c_sign_table (hr.mono (by decide)) rfl jQ (aF (aZ (pv 1)) (aF (aZ (pv 0)) bE))))) bM)))⟩))
   (Fl.aD (iF (L2.aN (i:=3) nd rfl (Or.inl rfl) (gC (aL (cW (aL gU (aL (dG (cG rfl rfl rfl (bY c_still (hr.mono (by decide)) rfl (cZ fun _ _ _ h=>h) (aF (aS (cO rfl (a6 bW rfl T.b_len PySem.boot_len (aE (aC (pv 0)) aR)))) bE)))) bM))) bM))))
   (Fl.aD (aA8 rfl rfl (L2.aN (i:=4) nd rfl (Or.inl rfl) (aA6 hr.units (y6 (bN (bO rfl) aU (aB (bN (bO rfl) aU (aC (pv 3)) (aB aG))) (aB aG)) d0 aA7))))
   (Fl.aD (Fl.aN (L2.aN (i:=5) nd rfl (Or.inl rfl) (aS aG)))
   (Fl.aD (Fl.eK (L2.eK (dX ⟨rfl,rfl⟩) (Fl.cK n5 kF (aC (pv 5)) (aB (cO rfl (a6 bW rfl T.b_len PySem.boot_len (aE (aC (pv 3)) aR)))) (b7 _))
   (Fl.aD (aCQ 2 (Fl.c7 (qA rfl (fF (bQ 6) (fF (bQ 7) oB)) rfl) (L2.c7 (dX ⟨rfl,rfl⟩) rfl (sK rfl (a9 (pv 2))) (nS rfl (eD (bJ (i:=6) nd rfl (Or.inl rfl)) (eD (bJ (i:=7) nd rfl (Or.inl rfl)) lS)))
   (Fl.aD (Fl.aN (L2.aN (i:=8) nd rfl (Or.inl rfl) (cG rfl rfl rfl (bY c_behind (hr.mono (by decide)) rfl (cZ fun _ _ _ h=>h) (aF (aS (bN (bO rfl) aU (aB (bN (bO rfl) aU (aC (pv 3)) (aC (pv 5)))) (aB aG))) (aF (aZ (pv 7)) bE))))))
   (Fl.aQ (Fl.dF (mG rfl rfl (jD (o6 hr.units) (a9 (pv 8)) (pv 4) (by with_unfolding_all rfl))) (Fl.aD (Fl.lV rfl rfl (jP d0 (nU (pv 4) (a9 (pv 8)) (kI hr.units))))
   (Fl.aQ (oA rfl (L2.gG (mZ PySem.F.plainAttrs_list PySem.F.slot_list_append PySem.F.type_list_append jE (pv 3) (aE (cW (aL (aV (dC rfl) cF (aB (bN (bO rfl) aU (aB (bN (bO rfl) aU (aC (pv 3)) (aC (pv 5)))) (aB aG))) (aC (pv 6))) (aL (a9 (pv 8)) bM))) aR)))))) Fl.cD))))))
   (Fl.aD (Fl.dF (Fl.cK n6 kG (aB (cO rfl (a6 bW rfl T.b_len PySem.boot_len (aE (aC (pv 3)) aR)))) (aC (pv 1)) (b7 _)) (Fl.aQ (aEO erp_TooMany.m (L2.wJ rfl erp_TooMany rfl (aE (aL0 (aC (pv 1))) aR)))) Fl.cD)
   (Fl.aQ (Fl.xS aI6 (L2.xS (i:=5) nd rfl (Or.inl rfl) (aB aG) aKP)))))))
   (Fl.aQ (aJI (pv 3)))))))))
theorem pK:FnScope ["machine"] ["machine"] (aO (top 19)):=by constructor<;>first|rfl|decide +kernel
theorem w4(T:Txt w K mg)(D:DefAt K mg "all_tables" (top 19) ["machine"])(c_gathered:oC P w K mg base TH 6 "gathered" ["machine","most"] iA):oC P w K mg base TH 7 "all_tables" ["machine"] cM:=
 @aBD P w K mg base TH "all_tables" (top 19) ["machine"] ["machine"] 6 iN D pK (fun f cdv A outer s H F E hr=>by
  have nd:=pK.nd
  exact (Fl.aQ (aJX (aH3 rfl rfl rfl (bY c_gathered (hr.mono (by decide)) rfl (cZ fun _ _ _ h=>h) (aF (aZ (pv 0)) (aF (aS (gS (j7 (v:=.int 300) rfl T.g_MOST_TABLES.choose_spec ⟨_,rfl⟩) fun _=>.int _)) bE)))))))
end
end Mc
namespace Mc
open PySem L2 PyProof.Rows Fl
section
variable{P:Program}{w:World}{K:Frag}{mg:Str->Option Value}{base:Heap}{TH:Hp}
theorem pL:FnScope ["_law_found"] ["_law_found"] (aO (top 21)):=by constructor<;>first|rfl|decide +kernel
theorem w8(T:Txt w K mg)(D:DefAt K mg "_law_whole" (top 21) ["_law_found"]):a7 P w K mg base TH 1 "_law_whole" ["_law_found"] fV:=
 @c8 P w K mg base TH "_law_whole" (top 21) ["_law_found"] ["_law_found"] 0 mK D pL (fun f cdv A outer s H F E hr=>by
  have nd:=pL.nd
  exact (Fl.aQ (Fl.bG (aS (n9 (jW (a6 (fY rfl (aI9 _)) rfl T.b_isinstance PyProof.Rows.boot_isinstance (aE (aC (pv 0)) (aE (gF (v:=.ty "int") rfl T.b_int PyProof.Rows.boot_int rfl) aR)))) (p9 (aED (jW (a6 (fY rfl (aGM _)) rfl T.b_isinstance PyProof.Rows.boot_isinstance (aE (aC (pv 0)) (aE (gF (v:=.ty "bool") rfl T.b_bool PyProof.Rows.boot_bool rfl) aR)))))))))))
theorem mU:FnScope ["_law_found"] ["_law_found"] (aO (top 22)):=by constructor<;>first|rfl|decide +kernel
theorem sU(T:Txt w K mg)(D:DefAt K mg "_law_is_thing" (top 22) ["_law_found"])(c__law_whole:a7 P w K mg base TH 1 "_law_whole" ["_law_found"] fV):a7 P w K mg base TH 2 "_law_is_thing" ["_law_found"] dU:=
 @c8 P w K mg base TH "_law_is_thing" (top 22) ["_law_found"] ["_law_found"] 1 gP D mU (fun f cdv A outer s H F E hr=>by
  have nd:=mU.nd
  exact (Fl.aD (Fl.dF (Fl.cK yT sJ (aC (pv 0)) (aB gW) (b7 _)) (Fl.aQ (Fl.bG (aS d0))) Fl.cD)
   (Fl.aQ (Fl.bG (aS (n9 (jW (a6 (fY rfl (nE _)) rfl T.b_isinstance PyProof.Rows.boot_isinstance (aE (aC (pv 0)) (aE (gF (v:=.ty "tuple") rfl T.b_tuple PyProof.Rows.boot_tuple rfl) aR)))) (n9 (mC (lB rfl hr.units) gX (aB (cO rfl (a6 bW rfl T.b_len PySem.boot_len (aE (aC (pv 0)) aR)))) (aB aG) (b7 _)) (p9 (yW rfl (a6 (pT rfl) rfl T.b_all PyProof.Rows.boot_all (aE (aB (d3 (gK (gI (N:=["_law_number"]) (js:=[none]) rfl (.own .nil) (by rfl) (jT rfl (aC (pv 0)))) (by decide) (by decide) (is:=[0]) (fun cl C s0 H0 fp=>⟨_,(bJ (i:=0) (show (["_law_number"]:List Str).Nodup by decide +kernel) rfl (Or.inl rfl)),(bQ 0),Fl.cX,(dG (cG rfl rfl rfl (bY c__law_whole (hr.mono (by decide)) rfl jQ (aF (aZ (pv 0)) bE))))⟩)))) aR)))))))))))
theorem mV:FnScope ["_law_found","_law_due","_law_things"] ["_law_found","_law_due"] (aO (top 23)):=by constructor<;>first|rfl|decide +kernel
theorem sV(T:Txt w K mg)(D:DefAt K mg "_law_is_table" (top 23) ["_law_found","_law_due"])(c__law_is_thing:a7 P w K mg base TH 2 "_law_is_thing" ["_law_found"] dU):a7 P w K mg base TH 3 "_law_is_table" ["_law_found","_law_due"] dW:=
 @c8 P w K mg base TH "_law_is_table" (top 23) ["_law_found","_law_due","_law_things"] ["_law_found","_law_due"] 2 j2 D mV (fun f cdv A outer s H F E hr=>by
  have nd:=mV.nd
  exact (Fl.aD (Fl.dF (PW.pt (Fl.jN (Fl.f9 (Fl.fN (jW (a6 (fY rfl (nE _)) rfl T.b_isinstance PyProof.Rows.boot_isinstance (aE (aC (pv 0)) (aE (gF (v:=.ty "tuple") rfl T.b_tuple PyProof.Rows.boot_tuple rfl) aR)))))) (Fl.jN (Fl.cK (p7 rfl hr.units) mD (aB (cO rfl (a6 bW rfl T.b_len PySem.boot_len (aE (aC (pv 0)) aR)))) (aB aG) (b7 _)) (Fl.kX (Fl.cK (p7 rfl hr.units) mD (aC (pv 0)) (aC (pv 1)) (b7 _)))))) (Fl.aQ (Fl.bG (aS d0))) Fl.cD)
   (Fl.aD (Fl.c7 (bQ 2) (L2.c7 (dX ⟨rfl,rfl⟩) rfl (sK rfl (a9 (pv 0))) (bJ (i:=2) nd rfl (Or.inl rfl))
   (Fl.aQ (Fl.dF (PW.pt (Fl.jN (Fl.f9 (Fl.fN (jW (a6 (fY rfl (nE _)) rfl T.b_isinstance PyProof.Rows.boot_isinstance (aE (aC (pv 2)) (aE (gF (v:=.ty "tuple") rfl T.b_tuple PyProof.Rows.boot_tuple rfl) aR)))))) (Fl.kX (Fl.f9 (Fl.fN (yW rfl (a6 (pT rfl) rfl T.b_all PyProof.Rows.boot_all (aE (aB (d3 (gK (gI (N:=["_law_thing"]) (js:=[none]) rfl (.own .nil) (by rfl) (jT rfl (aC (pv 2)))) (by decide) (by decide) (is:=[0]) (fun cl C s0 H0 fp=>⟨_,(bJ (i:=0) (show (["_law_thing"]:List Str).Nodup by decide +kernel) rfl (Or.inl rfl)),(bQ 0),Fl.cX,(dG (cG rfl rfl rfl (bY c__law_is_thing (hr.mono (by decide)) rfl jQ (aF (aZ (pv 0)) bE))))⟩)))) aR)))))))) (Fl.aQ (Fl.bG (aS d0))) Fl.cD))))
   (Fl.aQ (Fl.bG (aS d0))))))
theorem qP:FnScope ["_law_script","_law_k","_law_cell_here","_law_mixed"] ["_law_script","_law_k"] (aO (top 24)):=by constructor<;>first|rfl|decide +kernel
theorem zY(T:Txt w K mg)(D:DefAt K mg "_law_cell" (top 24) ["_law_script","_law_k"]):a7 P w K mg base TH 1 "_law_cell" ["_law_script","_law_k"] cB:=
 @c8 P w K mg base TH "_law_cell" (top 24) ["_law_script","_law_k","_law_cell_here","_law_mixed"] ["_law_script","_law_k"] 0 kU D qP (fun f cdv A outer s H F E hr=>by
  have nd:=qP.nd
  exact (Fl.aD (Fl.aN (L2.aN (i:=2) nd rfl (Or.inl rfl) (aS aG)))
   (Fl.aD (Fl.dF (Fl.cK n6 kG (aB (cO rfl (a6 bW rfl T.b_len PySem.boot_len (aE (aC (pv 0)) aR)))) (aB aG) (b7 _)) (Fl.aQ (Fl.aN (L2.aN (i:=2) nd rfl (Or.inl rfl) (aS (bN (bO rfl) aU (aC (pv 0)) (aB (aV cY b9 (aC (pv 1)) (aB (cO rfl (a6 bW rfl T.b_len PySem.boot_len (aE (aC (pv 0)) aR))))))))))) Fl.cD)
   (Fl.aD (Fl.aN (L2.aN (i:=3) nd rfl (Or.inl rfl) (aS (aV cY b9 (aB (aV iE fA (aB (aV (dC rfl) cF (aB (aV (dC rfl) cF (aB (aV cY b9 (aC (pv 2)) (aB aG))) (aB (aV iE fA (aB aG) (aC (pv 1)))))) (aB aG))) (aB aG))) (aB aG)))))
   (Fl.aQ (Fl.bG (aS (aV (dC rfl) cF (aB (aV iE fA (aB (aV eU dY (aC (pv 2)) (aB aG))) (aB aG))) (aB (aV cY b9 (aB (aV (dC rfl) cF (aB (aV iE fA (aC (pv 3)) (aB aG))) (aB (aV iE fA (aB aG) (aC (pv 1)))))) (aB aG)))))))))))
theorem rX:FnScope ["_law_number","_law_rooms"] ["_law_number","_law_rooms"] (aO (top 25)):=by constructor<;>first|rfl|decide +kernel
theorem aAJ(T:Txt w K mg)(D:DefAt K mg "_law_end" (top 25) ["_law_number","_law_rooms"]):a7 P w K mg base TH 1 "_law_end" ["_law_number","_law_rooms"] fC:=
 @c8 P w K mg base TH "_law_end" (top 25) ["_law_number","_law_rooms"] ["_law_number","_law_rooms"] 0 lQ D rX (fun f cdv A outer s H F E hr=>by
  have nd:=rX.nd
  exact (Fl.aD (Fl.dF (Fl.cK (lB rfl hr.units) gX (aB (aV cY b9 (aC (pv 0)) (aB aG))) (aB aG) (b7 _)) (Fl.aQ (Fl.bG (aS (bN (bO rfl) aU (aB (d3 (gC (aL gU (aL gU bM))))) (aB (aV cY b9 (aB (aV eU dY (aC (pv 0)) (aB aG))) (aB aG))))))) Fl.cD)
   (Fl.aQ (Fl.bG (aS (aV cY b9 (aB (aV eU dY (aC (pv 0)) (aB aG))) (aC (pv 1))))))))
end
end Mc
namespace Mc
open PySem L2 PyProof.Rows Fl
section
variable{P:Program}{w:World}{K:Frag}{mg:Str->Option Value}{base:Heap}{TH:Hp}
theorem lH:FnScope ["_law_number","_law_rooms","_law_signs","_law_left","_law_cells","_law_k","_law_ends"] ["_law_number","_law_rooms","_law_signs"] (aO (top 26)):=by constructor<;>first|rfl|decide +kernel
theorem rK(T:Txt w K mg)(D:DefAt K mg "_law_digit_row" (top 26) ["_law_number","_law_rooms","_law_signs"]):a7 P w K mg base TH 1 "_law_digit_row" ["_law_number","_law_rooms","_law_signs"] d5:=
 @c8 P w K mg base TH "_law_digit_row" (top 26) ["_law_number","_law_rooms","_law_signs","_law_left","_law_cells","_law_k","_law_ends"] ["_law_number","_law_rooms","_law_signs"] 0 jA D lH (fun f cdv A outer s H F E hr=>by
  have nd:=lH.nd
  exact (Fl.aD (Fl.aN (L2.aN (i:=3) nd rfl (Or.inl rfl) (aS (aV cY b9 (aC (pv 0)) (aB (aV (dC rfl) cF (aC (pv 1)) (aB aG)))))))
   (Fl.aD (Fl.aN (L2.aN (i:=0) nd rfl (Or.inl rfl) (aS (aV eU dY (aC (pv 0)) (aB (aV (dC rfl) cF (aC (pv 1)) (aB aG)))))))
   (Fl.aD (iF (L2.aN (i:=4) nd rfl (Or.inl rfl) (gC bM)))
   (Fl.aD (Fl.c7 (bQ 5) (L2.c7 (dX ⟨rfl,rfl⟩) rfl (kH (gQ rfl T.b_range (aE (aC (pv 2)) aR))) (bJ (i:=5) nd rfl (Or.inl rfl))
   (Fl.aD (oA rfl (L2.gG (mZ PySem.F.plainAttrs_list PySem.F.slot_list_append PySem.F.type_list_append jE (pv 4) (aE (cW (aL (aV cY b9 (aB (aV eU dY (aC (pv 0)) (aB aG))) (aC (pv 1))) (aL (aV n4 k9 (aB aG) (aB (aV iE fA (aB (aV cY b9 (aC (pv 0)) (aB aG))) (aB aG)))) bM))) aR))))
   (Fl.aQ (Fl.aN (L2.aN (i:=0) nd rfl (Or.inl rfl) (aS (aV eU dY (aC (pv 0)) (aB (aV iE fA (aB aG) (aC (pv 1))))))))))))
   (Fl.aD (iF (L2.aN (i:=6) nd rfl (Or.inl rfl) (gC (aL (a9 (pv 3)) (aL (aV cY b9 (aC (pv 0)) (aB (aV (dC rfl) cF (aC (pv 1)) (aB aG)))) bM)))))
   (Fl.aD (jH (L2.eY (i:=6) nd rfl (Or.inl rfl) (by rfl) (N:=["_law_end_here","_law_rooms"]) (js:=[none,some 1]) rfl (.own (.cap rfl (.inl rfl) (.inl rfl) .nil)) (by rfl) (jT rfl (aC (pv 6)))) (by decide) (by decide) (is:=[0]) (fun cl C s0 H0 fp=>⟨_,(bJ (i:=0) (show (["_law_end_here","_law_rooms"]:List Str).Nodup by decide +kernel) rfl (Or.inl rfl)),(bQ 0),Fl.cX,(aHW (Fl.cK aLJ aGI (aC (pv 0)) (aC (pv 1)) (b7 _)) (bN (bO rfl) aU (aB (d3 (gC (aL gU (aL gU bM))))) (aB (aV n4 k9 (aC (pv 0)) (aC (pv 1))))) (a9 (pv 0)))⟩))
   (Fl.aQ (Fl.bG (aS (cW (aL (bN (bO rfl) aU (aC (pv 6)) (aB aG)) (aL (eE rfl (cI cJ rfl T.b_tuple PyProof.Rows.boot_tuple (aE (aC (pv 4)) aR))) (aL (bN (bO rfl) aU (aC (pv 6)) (aB aG)) bM))))))))))))))
theorem lI:FnScope ["_law_number","_law_rooms","_law_signs","_law_pieces","_law_k","_law_cells"] ["_law_number","_law_rooms","_law_signs"] (aO (top 27)):=by constructor<;>first|rfl|decide +kernel
theorem rL(T:Txt w K mg)(D:DefAt K mg "_law_mixed_row" (top 27) ["_law_number","_law_rooms","_law_signs"])(c__law_end:a7 P w K mg base TH 1 "_law_end" ["_law_number","_law_rooms"] fC):a7 P w K mg base TH 2 "_law_mixed_row" ["_law_number","_law_rooms","_law_signs"] dL:=
 @c8 P w K mg base TH "_law_mixed_row" (top 27) ["_law_number","_law_rooms","_law_signs","_law_pieces","_law_k","_law_cells"] ["_law_number","_law_rooms","_law_signs"] 1 jB D lI (fun f cdv A outer s H F E hr=>by
  have nd:=lI.nd
  exact (Fl.aD (iF (L2.aN (i:=3) nd rfl (Or.inl rfl) (gC bM)))
   (Fl.aD (Fl.c7 (bQ 4) (L2.c7 (dX ⟨rfl,rfl⟩) rfl (kH (gQ rfl T.b_range (aE (aB (aV (dC rfl) cF (aC (pv 2)) (aB aG))) aR))) (bJ (i:=4) nd rfl (Or.inl rfl))
   (Fl.aD (Fl.aN (L2.aN (i:=0) nd rfl (Or.inl rfl) (aS (aV cY b9 (aB (aV (dC rfl) cF (aB (aV iE fA (aC (pv 0)) (aB aG))) (aB aG))) (aB aG)))))
   (Fl.aQ (oA rfl (L2.gG (mZ PySem.F.plainAttrs_list PySem.F.slot_list_append PySem.F.type_list_append jE (pv 3) (aE (aV eU dY (aC (pv 0)) (aB aG)) aR))))))))
   (Fl.aD (Fl.aN (L2.aN (i:=5) nd rfl (Or.inl rfl) (aS (eE rfl (cI cJ rfl T.b_tuple PyProof.Rows.boot_tuple (aE (aB (d3 (gK (gI (N:=["_law_piece","_law_rooms"]) (js:=[none,some 1]) rfl (.own (.cap rfl (.inl rfl) (.inl rfl) .nil)) (by rfl) (jT rfl (aB (iZ rfl (aC (pv 3)) (o5 (aB aG)) o4)))) (by decide) (by decide) (is:=[0]) (fun cl C s0 H0 fp=>⟨_,(bJ (i:=0) (show (["_law_piece","_law_rooms"]:List Str).Nodup by decide +kernel) rfl (Or.inl rfl)),(bQ 0),Fl.cX,(cW (aL (aV cY b9 (aC (pv 0)) (aC (pv 1))) (aL (aV n4 k9 (aB aG) (aB (aV iE fA (aB (aV eU dY (aB (aV cY b9 (aB (aV eU dY (aC (pv 0)) (aB aG))) (aB aG))) (aB aG))) (aB aG)))) bM)))⟩)))) aR))))))
   (Fl.aQ (Fl.bG (aS (cW (aL (dG (cG rfl rfl rfl (bY c__law_end (hr.mono (by decide)) rfl (cZ fun _ _ _ h=>h) (aF (aS (bN (bO rfl) aU (aC (pv 3)) (aB aG))) (aF (aZ (pv 1)) bE))))) (aL (a9 (pv 5)) (aL (dG (cG rfl rfl rfl (bY c__law_end (hr.mono (by decide)) rfl (cZ fun _ _ _ h=>h) (aF (aS (bN (bO rfl) aU (aC (pv 3)) (aB aG))) (aF (aZ (pv 1)) bE))))) bM)))))))))))
theorem nK:FnScope ["_law_script","_law_at","_law_rooms","_law_signs","_law_rows","_law_room","_law_row"] ["_law_script","_law_at","_law_rooms","_law_signs"] (aO (top 28)):=by constructor<;>first|rfl|decide +kernel
theorem uP(T:Txt w K mg)(D:DefAt K mg "_law_machine" (top 28) ["_law_script","_law_at","_law_rooms","_law_signs"])(c__law_digit_row:a7 P w K mg base TH 1 "_law_digit_row" ["_law_number","_law_rooms","_law_signs"] d5)(c__law_mixed_row:a7 P w K mg base TH 2 "_law_mixed_row" ["_law_number","_law_rooms","_law_signs"] dL)(c__law_cell:a7 P w K mg base TH 1 "_law_cell" ["_law_script","_law_k"] cB):a7 P w K mg base TH 3 "_law_machine" ["_law_script","_law_at","_law_rooms","_law_signs"] fU:=
 @c8 P w K mg base TH "_law_machine" (top 28) ["_law_script","_law_at","_law_rooms","_law_signs","_law_rows","_law_room","_law_row"] ["_law_script","_law_at","_law_rooms","_law_signs"] 2 kL D nK (fun f cdv A outer s H F E hr=>by
  have nd:=nK.nd
  exact (Fl.aD (iF (L2.aN (i:=4) nd rfl (Or.inl rfl) (gC bM)))
   (Fl.aD (Fl.c7 (bQ 5) (L2.c7 (dX ⟨rfl,rfl⟩) rfl (kH (gQ rfl T.b_range (aE (aC (pv 2)) aR))) (bJ (i:=5) nd rfl (Or.inl rfl))
   (Fl.aQ (Fl.dF (PW.pt (Fl.kY (Fl.cK n5 kF (aB (aV (dC rfl) cF (aC (pv 1)) (aC (pv 5)))) (aB (cO rfl (a6 bW rfl T.b_len PySem.boot_len (aE (aC (pv 0)) aR)))) (b7 _)) (Fl.j8 (Fl.cK (lB rfl hr.units) gX (aB (aV cY b9 (aB (bN (bO rfl) aU (aC (pv 0)) (aB aG))) (aB aG))) (aB aG) (b7 _))))) (Fl.aQ (oA rfl (L2.gG (mZ PySem.F.plainAttrs_list PySem.F.slot_list_append PySem.F.type_list_append jE (pv 4) (aE (dG (cG rfl rfl rfl (bY c__law_digit_row (hr.mono (by decide)) rfl (cZ fun _ _ _ h=>h) (aF (aS (bN (bO rfl) aU (aC (pv 0)) (aB (aV (dC rfl) cF (aC (pv 1)) (aC (pv 5)))))) (aF (aZ (pv 2)) (aF (aZ (pv 3)) bE)))))) aR))))) (Fl.aD (Fl.aN (L2.aN (i:=6) nd rfl (Or.inl rfl) (cG rfl rfl rfl (bY c__law_mixed_row (hr.mono (by decide)) rfl (cZ fun _ _ _ h=>h) (aF (aS (aV cY b9 (aB (dG (cG rfl rfl rfl (bY c__law_cell (hr.mono (by decide)) rfl (cZ fun _ _ _ h=>h) (aF (aZ (pv 0)) (aF (aS (aV (dC rfl) cF (aC (pv 1)) (aC (pv 5)))) bE)))))) (aB aG))) (aF (aZ (pv 2)) (aF (aZ (pv 3)) bE)))))))
   (Fl.aD (Fl.dF (PW.pt (Fl.kY (Fl.cK (lB rfl hr.units) gX (aC (pv 5)) (aB aG) (b7 _)) (Fl.kY (Fl.fN (jW (a6 (fY rfl (aA3 _)) rfl T.b_isinstance PyProof.Rows.boot_isinstance (aE (aB (bN (bO rfl) aU (aC (pv 6)) (aB aG))) (aE (gF (v:=.ty "str") rfl T.b_str PyProof.Rows.boot_str rfl) aR))))) (Fl.j8 (Fl.cK n6 kG (aB (aV cY b9 (aB (aV eU dY (aB (dG (cG rfl rfl rfl (bY c__law_cell (hr.mono (by decide)) rfl (cZ fun _ _ _ h=>h) (aF (aZ (pv 0)) (aF (aZ (pv 1)) bE)))))) (aB aG))) (aB aG))) (aB aG) (b7 _)))))) (Fl.aQ (Fl.aN (L2.aN (i:=6) nd rfl (Or.inl rfl) (aS (aV (dC rfl) cF (aB (cW (aL (aV cY b9 (aB (aV eU dY (aB (dG (cG rfl rfl rfl (bY c__law_cell (hr.mono (by decide)) rfl (cZ fun _ _ _ h=>h) (aF (aZ (pv 0)) (aF (aZ (pv 1)) bE)))))) (aB aG))) (aC (pv 2))) bM))) (aB (iZ rfl (aC (pv 6)) (o5 (aB aG)) o4))))))) Fl.cD)
   (Fl.aQ (oA rfl (L2.gG (mZ PySem.F.plainAttrs_list PySem.F.slot_list_append PySem.F.type_list_append jE (pv 4) (aE (a9 (pv 6)) aR)))))))))))
   (Fl.aQ (Fl.bG (aS (eE rfl (cI cJ rfl T.b_tuple PyProof.Rows.boot_tuple (aE (aC (pv 4)) aR)))))))))
theorem oK:FnScope ["_law_machine_here","_law_strip","_law_place","_law_room","_law_met","_law_step"] ["_law_machine_here","_law_strip","_law_place","_law_room"] (aO (top 29)):=by constructor<;>first|rfl|decide +kernel
theorem vS(T:Txt w K mg)(D:DefAt K mg "_law_within" (top 29) ["_law_machine_here","_law_strip","_law_place","_law_room"]):a7 P w K mg base TH 1 "_law_within" ["_law_machine_here","_law_strip","_law_place","_law_room"] fK:=
 @c8 P w K mg base TH "_law_within" (top 29) ["_law_machine_here","_law_strip","_law_place","_law_room","_law_met","_law_step"] ["_law_machine_here","_law_strip","_law_place","_law_room"] 0 lG D oK (fun f cdv A outer s H F E hr=>by
  have nd:=oK.nd
  exact (Fl.aD (rA rfl (L2.aN (i:=4) nd rfl (Or.inl rfl) q9))
   (Fl.aD (Fl.eK (L2.eK (dX ⟨rfl,rfl⟩) (Fl.oP n5 kF yS sI (aB aG) (aC (pv 2)) (aB (cO rfl (a6 bW rfl T.b_len PySem.boot_len (aE (aC (pv 1)) aR)))))
   (Fl.aD (Fl.dF (mG rfl rfl (jD (vK hr.units) (cW (aL (a9 (pv 2)) (aL (a9 (pv 3)) bM))) (pv 4) (by with_unfolding_all rfl))) (Fl.aQ (Fl.bG (aS gW))) Fl.cD)
   (Fl.aD (Fl.lV rfl rfl (jP d0 (nU (pv 4) (cW (aL (a9 (pv 2)) (aL (a9 (pv 3)) bM))) (kI hr.units))))
   (Fl.aD (aEL (qA rfl (fF (bQ 3) (fF (bQ 5) oB)) rfl) (jP (bN (bO rfl) aU (aB (bN (bO rfl) aU (aB (bN (bO rfl) aU (aC (pv 0)) (aC (pv 3)))) (aB aG))) (aB (y2 (mZ PySem.F.plainAttrs_str PySem.F.slot_str_index PySem.F.type_str_index yA (aB gU) (aE (aB (bN (bO rfl) aU (aC (pv 1)) (aB (aV n4 k9 (aC (pv 2)) (aB aG))))) aR)) (by intro ρ x h;cases h;exact ⟨_,rfl⟩)))) (nS rfl (eD (bJ (i:=3) nd rfl (Or.inl rfl)) (eD (bJ (i:=5) nd rfl (Or.inl rfl)) lS)))))
   (Fl.aQ (Fl.aN (L2.aN (i:=2) nd rfl (Or.inl rfl) (aS (aV (dC rfl) cF (aC (pv 2)) (aC (pv 5))))))))))))
   (Fl.aQ (Fl.bG (aS (cW (aL (bN (bO rfl) aU (aB (d3 (gC (aL (tR n8 lA (aB aG)) (aL aG bM))))) (aB (aAY (cI vY rfl T.b_int PyProof.Rows.boot_int (aE (aB (mC n6 kG (aC (pv 2)) (aB aG) (b7 _))) aR))))) (aL (a9 (pv 3)) bM)))))))))
theorem pM:FnScope ["_law_machine_here","_law_strip","_law_rooms","_law_fore","_law_aft"] ["_law_machine_here","_law_strip"] (aO (top 30)):=by constructor<;>first|rfl|decide +kernel
theorem w9(T:Txt w K mg)(D:DefAt K mg "_law_table" (top 30) ["_law_machine_here","_law_strip"])(c__law_within:a7 P w K mg base TH 1 "_law_within" ["_law_machine_here","_law_strip","_law_place","_law_room"] fK):a7 P w K mg base TH 2 "_law_table" ["_law_machine_here","_law_strip"] bK:=
 @c8 P w K mg base TH "_law_table" (top 30) ["_law_machine_here","_law_strip","_law_rooms","_law_fore","_law_aft"] ["_law_machine_here","_law_strip"] 1 mO D pM (fun f cdv A outer s H F E hr=>by
  have nd:=pM.nd
  exact (Fl.aD (iF (L2.aN (i:=2) nd rfl (Or.inl rfl) (aGV (cI (wS rfl) rfl T.b_list PyProof.Rows.boot_list (aE (cI aAC rfl T.b_range PyProof.Rows.boot_range (aE (aB (cO rfl (a6 bW rfl T.b_len PySem.boot_len (aE (aC (pv 0)) aR)))) aR)) aR)))))
   (Fl.aD (jH (L2.eY (i:=3) nd rfl (Or.inl rfl) (by rfl) (N:=["_law_room","_law_machine_here","_law_strip"]) (js:=[none,some 0,some 1]) rfl (.own (.cap rfl (.inl rfl) (.inl rfl) (.cap rfl (.inl rfl) (.inl rfl) .nil))) (by rfl) (jT rfl (aC (pv 2)))) (by decide) (by decide) (is:=[0]) (fun cl C s0 H0 fp=>⟨_,(bJ (i:=0) (show (["_law_room","_law_machine_here","_law_strip"]:List Str).Nodup by decide +kernel) rfl (Or.inl rfl)),(bQ 0),Fl.cX,(dG (cG rfl rfl rfl (bY c__law_within (hr.mono (by decide)) rfl jQ (aF (aZ (pv 1)) (aF (aZ (pv 2)) (aF (aS aG) (aF (aZ (pv 0)) bE)))))))⟩))
   (Fl.aD (jH (L2.eY (i:=4) nd rfl (Or.inl rfl) (by rfl) (N:=["_law_room","_law_machine_here","_law_strip"]) (js:=[none,some 0,some 1]) rfl (.own (.cap rfl (.inl rfl) (.inl rfl) (.cap rfl (.inl rfl) (.inl rfl) .nil))) (by rfl) (jT rfl (aC (pv 2)))) (by decide) (by decide) (is:=[0]) (fun cl C s0 H0 fp=>⟨_,(bJ (i:=0) (show (["_law_room","_law_machine_here","_law_strip"]:List Str).Nodup by decide +kernel) rfl (Or.inl rfl)),(bQ 0),Fl.cX,(dG (cG rfl rfl rfl (bY c__law_within (hr.mono (by decide)) rfl jQ (aF (aZ (pv 1)) (aF (aZ (pv 2)) (aF (aS (cO rfl (a6 bW rfl T.b_len PySem.boot_len (aE (aC (pv 2)) aR)))) (aF (aZ (pv 0)) bE)))))))⟩))
   (Fl.aQ (Fl.bG (aS (cW (aL (eE rfl (cI cJ rfl T.b_tuple PyProof.Rows.boot_tuple (aE (aC (pv 3)) aR))) (aL (eE rfl (cI cJ rfl T.b_tuple PyProof.Rows.boot_tuple (aE (aC (pv 4)) aR))) bM))))))))))
end
end Mc
namespace Mc
open PySem L2 PyProof.Rows Fl
section
variable{P:Program}{w:World}{K:Frag}{mg:Str->Option Value}{base:Heap}{TH:Hp}
theorem rY:FnScope ["_law_tables","_law_at","_law_way","_law_room","_law_met","_law_thing"] ["_law_tables","_law_at","_law_way","_law_room"] (aO (top 31)):=by constructor<;>first|rfl|decide +kernel
theorem aAK(T:Txt w K mg)(D:DefAt K mg "_law_out" (top 31) ["_law_tables","_law_at","_law_way","_law_room"]):a7 P w K mg base TH 1 "_law_out" ["_law_tables","_law_at","_law_way","_law_room"] fD:=
 @c8 P w K mg base TH "_law_out" (top 31) ["_law_tables","_law_at","_law_way","_law_room","_law_met","_law_thing"] ["_law_tables","_law_at","_law_way","_law_room"] 0 pG D rY (fun f cdv A outer s H F E hr=>by
  have nd:=rY.nd
  exact (Fl.aD (rA rfl (L2.aN (i:=4) nd rfl (Or.inl rfl) q9))
   (Fl.aD (Fl.eK (L2.eK (dX ⟨rfl,rfl⟩) (Fl.oP yS sI n5 kF (aB aG) (aC (pv 1)) (aB (cO rfl (a6 bW rfl T.b_len PySem.boot_len (aE (aC (pv 0)) aR)))))
   (Fl.aD (Fl.dF (mG rfl rfl (jD (vK hr.units) (cW (aL (a9 (pv 1)) (aL (a9 (pv 2)) (aL (a9 (pv 3)) bM)))) (pv 4) (by with_unfolding_all rfl))) (Fl.aQ (Fl.bG (aS gW))) Fl.cD)
   (Fl.aD (Fl.lV rfl rfl (jP d0 (nU (pv 4) (cW (aL (a9 (pv 1)) (aL (a9 (pv 2)) (aL (a9 (pv 3)) bM)))) (kI hr.units))))
   (Fl.aD (Fl.aN (L2.aN (i:=5) nd rfl (Or.inl rfl) (aS (bN (bO rfl) aU (aB (bN (bO rfl) aU (aB (bN (bO rfl) aU (aC (pv 0)) (aC (pv 1)))) (aB (aAY (cI vY rfl T.b_int PyProof.Rows.boot_int (aE (aB (mC n5 kF (aC (pv 2)) (aB aG) (b7 _))) aR)))))) (aC (pv 3))))))
   (Fl.aD (Fl.dF (Fl.cK yT sJ (aC (pv 5)) (aB gW) (b7 _)) (Fl.aQ (Fl.bG (aS gW))) Fl.cD)
   (Fl.aD (aEL (qA rfl (fF (bQ 2) (fF (bQ 3) oB)) rfl) (jP (a9 (pv 5)) (nS rfl (eD (bJ (i:=2) nd rfl (Or.inl rfl)) (eD (bJ (i:=3) nd rfl (Or.inl rfl)) lS)))))
   (Fl.aQ (Fl.aN (L2.aN (i:=1) nd rfl (Or.inl rfl) (aS (aV (dC rfl) cF (aC (pv 1)) (aC (pv 2))))))))))))))
   (Fl.aQ (Fl.bG (aS (cW (aL (a9 (pv 2)) (aL (a9 (pv 3)) bM)))))))))
theorem pN:FnScope ["_law_tables","_law_rooms","_law_fore","_law_aft"] ["_law_tables","_law_rooms"] (aO (top 32)):=by constructor<;>first|rfl|decide +kernel
theorem xA(T:Txt w K mg)(D:DefAt K mg "_law_boxes" (top 32) ["_law_tables","_law_rooms"])(c__law_out:a7 P w K mg base TH 1 "_law_out" ["_law_tables","_law_at","_law_way","_law_room"] fD):a7 P w K mg base TH 2 "_law_boxes" ["_law_tables","_law_rooms"] cR:=
 @c8 P w K mg base TH "_law_boxes" (top 32) ["_law_tables","_law_rooms","_law_fore","_law_aft"] ["_law_tables","_law_rooms"] 1 mM D pN (fun f cdv A outer s H F E hr=>by
  have nd:=pN.nd
  exact (Fl.aD (jH (L2.eY (i:=2) nd rfl (Or.inl rfl) (by rfl) (N:=["_law_room","_law_tables"]) (js:=[none,some 0]) rfl (.own (.cap rfl (.inl rfl) (.inl rfl) .nil)) (by rfl) (xJ (kH (gQ rfl T.b_range (aE (aC (pv 1)) aR))))) (by decide) (by decide) (is:=[0]) (fun cl C s0 H0 fp=>⟨_,(bJ (i:=0) (show (["_law_room","_law_tables"]:List Str).Nodup by decide +kernel) rfl (Or.inl rfl)),(bQ 0),Fl.cX,(dG (cG rfl rfl rfl (bY c__law_out (hr.mono (by decide)) rfl jQ (aF (aZ (pv 1)) (aF (aS aG) (aF (aS aG) (aF (aZ (pv 0)) bE)))))))⟩))
   (Fl.aD (jH (L2.eY (i:=3) nd rfl (Or.inl rfl) (by rfl) (N:=["_law_room","_law_tables"]) (js:=[none,some 0]) rfl (.own (.cap rfl (.inl rfl) (.inl rfl) .nil)) (by rfl) (xJ (kH (gQ rfl T.b_range (aE (aC (pv 1)) aR))))) (by decide) (by decide) (is:=[0]) (fun cl C s0 H0 fp=>⟨_,(bJ (i:=0) (show (["_law_room","_law_tables"]:List Str).Nodup by decide +kernel) rfl (Or.inl rfl)),(bQ 0),Fl.cX,(dG (cG rfl rfl rfl (bY c__law_out (hr.mono (by decide)) rfl jQ (aF (aZ (pv 1)) (aF (aS (aV n4 k9 (aB (cO rfl (a6 bW rfl T.b_len PySem.boot_len (aE (aC (pv 1)) aR)))) (aB aG))) (aF (aS (tR n8 lA (aB aG))) (aF (aZ (pv 0)) bE)))))))⟩))
   (Fl.aQ (Fl.bG (aS (cW (aL (eE rfl (cI cJ rfl T.b_tuple PyProof.Rows.boot_tuple (aE (aC (pv 2)) aR))) (aL (eE rfl (cI cJ rfl T.b_tuple PyProof.Rows.boot_tuple (aE (aC (pv 3)) aR))) bM)))))))))
theorem nL:FnScope ["_law_machine_here","_law_signs","_law_most","_law_ones","_law_waiting","_law_met","_law_at","_law_one","_law_fresh"] ["_law_machine_here","_law_signs","_law_most"] (aO (top 33)):=by constructor<;>first|rfl|decide +kernel
theorem uQ(T:Txt w K mg)(D:DefAt K mg "_law_counted" (top 33) ["_law_machine_here","_law_signs","_law_most"])(c__law_table:a7 P w K mg base TH 2 "_law_table" ["_law_machine_here","_law_strip"] bK)(c__law_boxes:a7 P w K mg base TH 2 "_law_boxes" ["_law_tables","_law_rooms"] cR):a7 P w K mg base TH 3 "_law_counted" ["_law_machine_here","_law_signs","_law_most"] dA:=
 @c8 P w K mg base TH "_law_counted" (top 33) ["_law_machine_here","_law_signs","_law_most","_law_ones","_law_waiting","_law_met","_law_at","_law_one","_law_fresh"] ["_law_machine_here","_law_signs","_law_most"] 2 iB D nL (fun f cdv A outer s H F E hr=>by
  have nd:=nL.nd
  exact (Fl.aD (jH (L2.eY (i:=3) nd rfl (Or.inl rfl) (by rfl) (N:=["_law_sign","_law_machine_here"]) (js:=[none,some 0]) rfl (.own (.cap rfl (.inl rfl) (.inl rfl) .nil)) (by rfl) (jT rfl (aB (iZ rfl (aB gU) o4 (o5 (aC (pv 1))))))) (by decide) (by decide) (is:=[0]) (fun cl C s0 H0 fp=>⟨_,(bJ (i:=0) (show (["_law_sign","_law_machine_here"]:List Str).Nodup by decide +kernel) rfl (Or.inl rfl)),(bQ 0),Fl.cX,(dG (cG rfl rfl rfl (bY c__law_table (hr.mono (by decide)) rfl jQ (aF (aZ (pv 1)) (aF (aZ (pv 0)) bE)))))⟩))
   (Fl.aD (iF (L2.aN (i:=4) nd rfl (Or.inl rfl) (gC (aL (dG (cG rfl rfl rfl (bY c__law_table (hr.mono (by decide)) rfl (cZ fun _ _ _ h=>h) (aF (aZ (pv 0)) (aF (aS gU) bE))))) bM))))
   (Fl.aD (aA8 rfl rfl (L2.aN (i:=5) nd rfl (Or.inl rfl) (aA6 hr.units (y6 (bN (bO rfl) aU (aC (pv 4)) (aB aG)) d0 aA7))))
   (Fl.aD (Fl.aN (L2.aN (i:=6) nd rfl (Or.inl rfl) (aS aG)))
   (Fl.aD (Fl.eK (L2.eK (dX ⟨rfl,rfl⟩) (PW.pt (Fl.kY (Fl.cK n5 kF (aC (pv 6)) (aB (cO rfl (a6 bW rfl T.b_len PySem.boot_len (aE (aC (pv 4)) aR)))) (b7 _)) (Fl.j8 (Fl.cK yS sI (aB (cO rfl (a6 bW rfl T.b_len PySem.boot_len (aE (aC (pv 4)) aR)))) (aC (pv 2)) (b7 _)))))
   (Fl.aD (aCQ 3 (Fl.c7 (bQ 7) (L2.c7 (dX ⟨rfl,rfl⟩) rfl (sK rfl (a9 (pv 3))) (bJ (i:=7) nd rfl (Or.inl rfl))
   (Fl.aD (Fl.aN (L2.aN (i:=8) nd rfl (Or.inl rfl) (cG rfl rfl rfl (bY c__law_boxes (hr.mono (by decide)) rfl (cZ fun _ _ _ h=>h) (aF (aS (d3 (gC (aL (bN (bO rfl) aU (aC (pv 4)) (aC (pv 6))) (aL (a9 (pv 7)) bM))))) (aF (aS (cO rfl (a6 bW rfl T.b_len PySem.boot_len (aE (aC (pv 0)) aR)))) bE))))))
   (Fl.aQ (Fl.dF (mG rfl rfl (jD (o6 hr.units) (a9 (pv 8)) (pv 5) (by with_unfolding_all rfl))) (Fl.aD (Fl.lV rfl rfl (jP d0 (nU (pv 5) (a9 (pv 8)) (kI hr.units))))
   (Fl.aQ (oA rfl (L2.gG (mZ PySem.F.plainAttrs_list PySem.F.slot_list_append PySem.F.type_list_append jE (pv 4) (aE (a9 (pv 8)) aR)))))) Fl.cD))))))
   (Fl.aQ (Fl.aN (L2.aN (i:=6) nd rfl (Or.inl rfl) (aS (aV (dC rfl) cF (aC (pv 6)) (aB aG)))))))))
   (Fl.aQ (Fl.bG (aS (cO rfl (a6 bW rfl T.b_len PySem.boot_len (aE (aC (pv 4)) aR))))))))))))
theorem pO:FnScope ["_law_machine_here","_law_found","_law_refused","error","_law_plain"] ["_law_machine_here"] (aO (top 34)):=by constructor<;>first|rfl|decide +kernel
theorem xB(T:Txt w K mg)(D:DefAt K mg "_law_asked" (top 34) ["_law_machine_here"])(c_all_tables:oC P w K mg base TH 7 "all_tables" ["machine"] cM){Wp_TooMany Cp_TooMany:Addr}(erp_TooMany:ErrP K mg "TooMany" Wp_TooMany Cp_TooMany)(J_TooMany_ValueError:y8 K mg "TooMany" "ValueError" true)(I_TooMany_WayError:Is1 K mg "TooMany" "WayError" true)(I_TooMany_NoStrip:Is1 K mg "TooMany" "NoStrip" false)(I_TooMany_NotLike:Is1 K mg "TooMany" "NotLike" false):zW P w K mg base TH 8 "_law_asked" ["_law_machine_here"] dB:=
 @aJZ P w K mg base TH "_law_asked" (top 34) ["_law_machine_here","_law_found","_law_refused","error","_law_plain"] ["_law_machine_here"] 7 fE D pO (fun f cdv A outer s H F E hr=>by
  have nd:=pO.nd
  exact (qN (Fl.aN (L2.aN (i:=1) nd rfl (Or.inl rfl) (aS gW)))
   (qN (Fl.aN (L2.aN (i:=2) nd rfl (Or.inl rfl) (aS d0)))
   (qN (aJY (i:=3) (j:=1) rfl rfl ⟨rfl,rfl⟩ nd rfl (Or.inl rfl) rfl rfl rfl erp_TooMany.m erp_TooMany.c.any (wT erp_TooMany) (fun pn σ E1=>aLY c_all_tables (hr.mono (by decide)) rfl (aF (aZ (pv 0)) bE)) (fun e1=>(Fl.aD (Fl.aN (L2.aN (i:=4) nd rfl (Or.inl rfl) (aS (n9 (aJG rfl erp_TooMany I_TooMany_WayError (a6 gJ rfl T.b_isinstance PyProof.Rows.boot_isinstance (aE (pv 3) (aE (j7 (v:=.ref I_TooMany_WayError.choose) rfl I_TooMany_WayError.choose_spec.choose_spec.1 rfl) aR)))) (p9 (aGW rfl erp_TooMany J_TooMany_ValueError (a6 gJ rfl T.b_isinstance PyProof.Rows.boot_isinstance (aE (pv 3) (aE (gF (v:=.ty "ValueError") rfl T.b_ValueError aJD rfl) aR)))))))))
   (Fl.aQ (Fl.aN (L2.aN (i:=2) nd rfl (Or.inl rfl) (aS (n9 (a9 (pv 4)) (p9 (aED (aHE rfl erp_TooMany I_TooMany_NoStrip I_TooMany_NotLike (a6 wW rfl T.b_isinstance PyProof.Rows.boot_isinstance (aE (pv 3) (aE (xU (aE (j7 (v:=.ref I_TooMany_NoStrip.choose) rfl I_TooMany_NoStrip.choose_spec.choose_spec.1 rfl) (aE (j7 (v:=.ref I_TooMany_NotLike.choose) rfl I_TooMany_NotLike.choose_spec.choose_spec.1 rfl) aR))) aR))))))))))))))
   (aHF (aE (pv 1) (aE (pv 2) aR)))))))
theorem oM:FnScope ["_law_machine_here","_law_found","_law_signs","_law_ahead","_law_one"] ["_law_machine_here","_law_found","_law_signs"] (aO (top 35)):=by constructor<;>first|rfl|decide +kernel
theorem vT(T:Txt w K mg)(D:DefAt K mg "_law_listed" (top 35) ["_law_machine_here","_law_found","_law_signs"])(c__law_is_table:a7 P w K mg base TH 3 "_law_is_table" ["_law_found","_law_due"] dW)(c__law_table:a7 P w K mg base TH 2 "_law_table" ["_law_machine_here","_law_strip"] bK):a7 P w K mg base TH 4 "_law_listed" ["_law_machine_here","_law_found","_law_signs"] eF:=
 @c8 P w K mg base TH "_law_listed" (top 35) ["_law_machine_here","_law_found","_law_signs","_law_ahead","_law_one"] ["_law_machine_here","_law_found","_law_signs"] 3 iR D oM (fun f cdv A outer s H F E hr=>by
  have nd:=oM.nd
  exact (Fl.aD (Fl.aN (L2.aN (i:=3) nd rfl (Or.inl rfl) (aS gW)))
   (Fl.aD (Fl.c7 (bQ 4) (L2.c7 (dX ⟨rfl,rfl⟩) rfl (sK rfl (a9 (pv 1))) (bJ (i:=4) nd rfl (Or.inl rfl))
   (Fl.aD (Fl.dF (PW.pt (Fl.jN (Fl.f9 (Fl.fN (jW (a6 (fY rfl (nE _)) rfl T.b_isinstance PyProof.Rows.boot_isinstance (aE (aC (pv 4)) (aE (gF (v:=.ty "tuple") rfl T.b_tuple PyProof.Rows.boot_tuple rfl) aR)))))) (Fl.jN (Fl.cK (p7 rfl hr.units) mD (aB (cO rfl (a6 bW rfl T.b_len PySem.boot_len (aE (aC (pv 4)) aR)))) (aB aG) (b7 _)) (Fl.kX (Fl.f9 (Fl.fN (jW (a6 (fY rfl (aA3 _)) rfl T.b_isinstance PyProof.Rows.boot_isinstance (aE (aB (bN (bO rfl) aU (aC (pv 4)) (aB aG))) (aE (gF (v:=.ty "str") rfl T.b_str PyProof.Rows.boot_str rfl) aR)))))))))) (Fl.aQ (Fl.bG (aS d0))) Fl.cD)
   (Fl.aD (Fl.dF (PW.pt (Fl.jN (Fl.f9 (Fl.fN (yW rfl (a6 (pT rfl) rfl T.b_all PyProof.Rows.boot_all (aE (aB (d3 (gK (gI (N:=["_law_sign","_law_signs"]) (js:=[none,some 2]) rfl (.own (.cap rfl (.inl rfl) (.inl rfl) .nil)) (by rfl) (jT rfl (aB (bN (bO rfl) aU (aC (pv 4)) (aB aG))))) (by decide) (by decide) (is:=[0]) (fun cl C s0 H0 fp=>⟨_,(bJ (i:=0) (show (["_law_sign","_law_signs"]:List Str).Nodup by decide +kernel) rfl (Or.inl rfl)),(bQ 0),Fl.cX,(mC (aLK rfl hr.units) aGJ (aC (pv 0)) (aB (iZ rfl (aB gU) o4 (o5 (aC (pv 1))))) (by with_unfolding_all rfl))⟩)))) aR))))) (Fl.kX (Fl.cK n6 kG (aB (cO rfl (a6 bW rfl T.b_len PySem.boot_len (aE (aB (bN (bO rfl) aU (aC (pv 4)) (aB aG))) aR)))) (aB aG) (b7 _))))) (Fl.aQ (Fl.bG (aS d0))) Fl.cD)
   (Fl.aD (Fl.dF (PW.pt (Fl.kY (Fl.cK yU tT (aC (pv 3)) (aB gW) (b7 _)) (Fl.j8 (Fl.cK (aJ1 rfl hr.units) aFD (aB (cW (aL (cO rfl (a6 bW rfl T.b_len PySem.boot_len (aE (aB (bN (bO rfl) aU (aC (pv 4)) (aB aG))) aR))) (aL (bN (bO rfl) aU (aC (pv 4)) (aB aG)) bM)))) (aC (pv 3)) (b7 _))))) (Fl.aQ (Fl.bG (aS d0))) Fl.cD)
   (Fl.aD (Fl.aN (L2.aN (i:=3) nd rfl (Or.inl rfl) (aS (cW (aL (cO rfl (a6 bW rfl T.b_len PySem.boot_len (aE (aB (bN (bO rfl) aU (aC (pv 4)) (aB aG))) aR))) (aL (bN (bO rfl) aU (aC (pv 4)) (aB aG)) bM))))))
   (Fl.aQ (Fl.dF (Fl.f9 (Fl.fN (dG (cG rfl rfl rfl (bY c__law_is_table (hr.mono (by decide)) rfl (cZ fun _ _ _ h=>h) (aF (aS (bN (bO rfl) aU (aC (pv 4)) (aB aG))) (aF (cG rfl rfl rfl (bY c__law_table (hr.mono (by decide)) rfl (cZ fun _ _ _ h=>h) (aF (aZ (pv 0)) (aF (aS (bN (bO rfl) aU (aC (pv 4)) (aB aG))) bE)))) bE))))))) (Fl.aQ (Fl.bG (aS d0))) Fl.cD))))))))
   (Fl.aQ (Fl.bG (aS d0))))))
end
end Mc
namespace Mc
open PySem L2 PyProof.Rows Fl
section
variable{P:Program}{w:World}{K:Frag}{mg:Str->Option Value}{base:Heap}{TH:Hp}
theorem oN:FnScope ["_law_machine_here","_law_found","_law_signs","_law_tables","_law_strip","_law_table_here","_law_ones","_law_one"] ["_law_machine_here","_law_found","_law_signs"] (aO (top 36)):=by constructor<;>first|rfl|decide +kernel
theorem vU(T:Txt w K mg)(D:DefAt K mg "_law_closed" (top 36) ["_law_machine_here","_law_found","_law_signs"])(c__law_table:a7 P w K mg base TH 2 "_law_table" ["_law_machine_here","_law_strip"] bK)(c__law_boxes:a7 P w K mg base TH 2 "_law_boxes" ["_law_tables","_law_rooms"] cR):a7 P w K mg base TH 3 "_law_closed" ["_law_machine_here","_law_found","_law_signs"] eG:=
 @c8 P w K mg base TH "_law_closed" (top 36) ["_law_machine_here","_law_found","_law_signs","_law_tables","_law_strip","_law_table_here","_law_ones","_law_one"] ["_law_machine_here","_law_found","_law_signs"] 2 iS D oN (fun f cdv A outer s H F E hr=>by
  have nd:=oN.nd
  exact (Fl.aD (rA rfl (L2.aN (i:=3) nd rfl (Or.inl rfl) q9))
   (Fl.aD (Fl.c7 (qA rfl (fF (bQ 4) (fF (bQ 5) oB)) rfl) (L2.c7 (dX ⟨rfl,rfl⟩) rfl (sK rfl (a9 (pv 1))) (nS rfl (eD (bJ (i:=4) nd rfl (Or.inl rfl)) (eD (bJ (i:=5) nd rfl (Or.inl rfl)) lS)))
   (Fl.aQ (Fl.lV rfl rfl (jP d0 (nU (pv 3) (a9 (pv 5)) (kI hr.units)))))))
   (Fl.aD (jH (L2.eY (i:=6) nd rfl (Or.inl rfl) (by rfl) (N:=["_law_sign","_law_machine_here"]) (js:=[none,some 0]) rfl (.own (.cap rfl (.inl rfl) (.inl rfl) .nil)) (by rfl) (jT rfl (aB (iZ rfl (aB gU) o4 (o5 (aC (pv 2))))))) (by decide) (by decide) (is:=[0]) (fun cl C s0 H0 fp=>⟨_,(bJ (i:=0) (show (["_law_sign","_law_machine_here"]:List Str).Nodup by decide +kernel) rfl (Or.inl rfl)),(bQ 0),Fl.cX,(dG (cG rfl rfl rfl (bY c__law_table (hr.mono (by decide)) rfl jQ (aF (aZ (pv 1)) (aF (aZ (pv 0)) bE)))))⟩))
   (Fl.aD (Fl.c7 (bQ 5) (L2.c7 (dX ⟨rfl,rfl⟩) rfl (sK rfl (d3 (aHG rfl (cI (aC4 rfl) rfl T.b_list PyProof.Rows.boot_list (aE (pv 3) aR))))) (bJ (i:=5) nd rfl (Or.inl rfl))
   (Fl.aQ (aCQ 6 (Fl.c7 (bQ 7) (L2.c7 (dX ⟨rfl,rfl⟩) rfl (sK rfl (a9 (pv 6))) (bJ (i:=7) nd rfl (Or.inl rfl))
   (Fl.aD (Fl.dF (mG rfl rfl (jD (o6 hr.units) (dG (cG rfl rfl rfl (bY c__law_boxes (hr.mono (by decide)) rfl (cZ fun _ _ _ h=>h) (aF (aS (d3 (gC (aL (a9 (pv 5)) (aL (a9 (pv 7)) bM))))) (aF (aS (cO rfl (a6 bW rfl T.b_len PySem.boot_len (aE (aC (pv 0)) aR)))) bE))))) (pv 3) (by with_unfolding_all rfl))) (Fl.aQ (Fl.bG (aS d0))) Fl.cD)
   (Fl.aQ (Fl.dF (mG rfl rfl (jD (o6 hr.units) (dG (cG rfl rfl rfl (bY c__law_boxes (hr.mono (by decide)) rfl (cZ fun _ _ _ h=>h) (aF (aS (d3 (gC (aL (a9 (pv 7)) (aL (a9 (pv 5)) bM))))) (aF (aS (cO rfl (a6 bW rfl T.b_len PySem.boot_len (aE (aC (pv 0)) aR)))) bE))))) (pv 3) (by with_unfolding_all rfl))) (Fl.aQ (Fl.bG (aS d0))) Fl.cD)))))))))
   (Fl.aQ (Fl.bG (aS (mC (lB rfl hr.units) gX (aB (aJK rfl rfl (a6 aEQ rfl T.b_len PySem.boot_len (aE (pv 3) aR)))) (aB (cO rfl (a6 bW rfl T.b_len PySem.boot_len (aE (aC (pv 1)) aR)))) (b7 _))))))))))
theorem aFF:FnScope ["_law_script","_law_first","_law_rooms","_law_signs","_law_machine_here","_law_many","_law_found","_law_refused","_law_kept"] ["_law_script"] (aO (top 37)):=by constructor<;>first|rfl|decide +kernel
theorem aMR(T:Txt w K mg){fL:Addr}{fdL:FuncData}(FL:Fun K "law" "law" (top 37) fL fdL)(c__law_cell:a7 P w K mg base TH 1 "_law_cell" ["_law_script","_law_k"] cB)(c__law_machine:a7 P w K mg base TH 3 "_law_machine" ["_law_script","_law_at","_law_rooms","_law_signs"] fU)(c__law_counted:a7 P w K mg base TH 3 "_law_counted" ["_law_machine_here","_law_signs","_law_most"] dA)(c__law_asked:zW P w K mg base TH 8 "_law_asked" ["_law_machine_here"] dB)(c__law_closed:a7 P w K mg base TH 3 "_law_closed" ["_law_machine_here","_law_found","_law_signs"] eG)(c__law_listed:a7 P w K mg base TH 4 "_law_listed" ["_law_machine_here","_law_found","_law_signs"] eF)(c_all_tables:oC P w K mg base TH 7 "all_tables" ["machine"] cM):FnOk P w K mg base (CXe P w) 9 fL fdL ["_law_script"] (spF (gOf P w K mg base TH) K mg 1 aDD):=
 @aLQ P w K mg base TH "law" (top 37) ["_law_script","_law_first","_law_rooms","_law_signs","_law_machine_here","_law_many","_law_found","_law_refused","_law_kept"] ["_law_script"] 8 fL fdL aDC FL aFF (fun cdv A outer s H F E hr=>by
  have nd:=aFF.nd
  exact (Fl.aD (Fl.aN (L2.aN (i:=1) nd rfl (Or.inl rfl) (cG rfl rfl rfl (bY c__law_cell (hr.mono (by decide)) rfl (cZ fun _ _ _ h=>h) (aF (aZ (pv 0)) (aF (aS aG) bE))))))
   (Fl.aD (Fl.aN (L2.aN (i:=2) nd rfl (Or.inl rfl) (aS (aV (dC rfl) cF (aB aG) (aB (aV cY b9 (aC (pv 1)) (aB aG)))))))
   (Fl.aD (Fl.aN (L2.aN (i:=3) nd rfl (Or.inl rfl) (aS (aV (dC rfl) cF (aB aG) (aB (aV cY b9 (aB (aV eU dY (aC (pv 1)) (aB aG))) (aB aG)))))))
   (Fl.aD (Fl.aN (L2.aN (i:=4) nd rfl (Or.inl rfl) (cG rfl rfl rfl (bY c__law_machine (hr.mono (by decide)) rfl (cZ fun _ _ _ h=>h) (aF (aZ (pv 0)) (aF (aS aG) (aF (aZ (pv 2)) (aF (aZ (pv 3)) bE))))))))
   (Fl.aD (Fl.aN (L2.aN (i:=5) nd rfl (Or.inl rfl) (cG rfl rfl rfl (bY c__law_counted (hr.mono (by decide)) rfl (cZ fun _ _ _ h=>h) (aF (aZ (pv 4)) (aF (aZ (pv 3)) (aF (aS aG) bE)))))))
   (Fl.aD (aJ0 rfl rfl rfl rfl (jP (bY c__law_asked (hr.mono (by decide)) rfl (cZ fun _ _ _ h=>h) (aF (aZ (pv 4)) bE)) (nS rfl (eD (bJ (i:=6) nd rfl (Or.inl rfl)) (eD (bJ (i:=7) nd rfl (Or.inl rfl)) lS)))))
   (Fl.aD (Fl.dF (Fl.cK n6 kG (aC (pv 5)) (aB aG) (b7 _)) (Fl.aQ (Fl.bG (aS (n9 (mC yT sJ (aC (pv 6)) (aB gW) (b7 _)) (p9 (a9 (pv 7))))))) Fl.cD)
   (Fl.aD (Fl.dF (PW.pt (Fl.jN (Fl.f9 (Fl.fN (jW (a6 (fY rfl (aGN _)) rfl T.b_isinstance PyProof.Rows.boot_isinstance (aE (aC (pv 6)) (aE (gF (v:=.ty "list") rfl T.b_list PyProof.Rows.boot_list rfl) aR)))))) (Fl.jN (Fl.cK (p7 rfl hr.units) mD (aB (cO rfl (a6 bW rfl T.b_len PySem.boot_len (aE (aC (pv 6)) aR)))) (aC (pv 5)) (b7 _)) (Fl.kX (Fl.cK (p7 rfl hr.units) mD (aB (bN (bO rfl) aU (aB (bN (bO rfl) aU (aC (pv 6)) (aB aG))) (aB aG))) (aB gU) (b7 _)))))) (Fl.aQ (Fl.bG (aS d0))) Fl.cD)
   (Fl.aD (Fl.dF (PW.pt (Fl.jN (Fl.f9 (Fl.fN (dG (aBW rfl rfl rfl (bY c__law_listed (hr.mono (by decide)) rfl (cZ fun _ _ _ h=>h) (aE (pv 4) (aE (pv 6) (aF (aZ (pv 3)) bE)))))))) (Fl.kX (Fl.f9 (Fl.fN (dG (aBW rfl rfl rfl (bY c__law_closed (hr.mono (by decide)) rfl (cZ fun _ _ _ h=>h) (aE (pv 4) (aE (pv 6) (aF (aZ (pv 3)) bE))))))))))) (Fl.aQ (Fl.bG (aS d0))) Fl.cD)
   (Fl.aD (iF (L2.aN (i:=8) nd rfl (Or.inl rfl) (aI5 rfl (cI xX rfl T.b_list PyProof.Rows.boot_list (aE (aC (pv 6)) aR)))))
   (Fl.aD (aMQ (L2.gG (aK7 PySem.F.plainAttrs_list PySem.F.slot_list_pop PySem.F.type_list_pop aK9 (pv 6))))
   (Fl.aQ (Fl.bG (aS (mC (lB rfl hr.units) gX (aB (d3 (aH3 rfl rfl rfl (bY c_all_tables (hr.mono (by decide)) rfl (cZ fun _ _ _ h=>h) (aF (aZ (pv 4)) bE))))) (aC (pv 8)) (b7 _)))))))))))))))))
end
end Mc
namespace Mc
open PySem L2 PyProof.Rows Fl
theorem aBX{m:Nat}{ts:List Tb}{l:List (Int×Int×Int)}(hn:l.Nodup)(hv:∀ s∈l,fR m ts s):l.length<=ts.length * (2 * m):=by
 refine wB (fun s=>s.1.toNat * (2 * m)+((if s.2.1=1 then 0 else m)+s.2.2.toNat)) (ts.length * (2 * m)) l hn (fun s hs=>?_) (fun a ha b hb e=>?_)
 ·obtain ⟨h1,h2,h3,h4,h5⟩:=hv s hs
  have hx:(if s.2.1=1 then 0 else m)+s.2.2.toNat < 2 * m:=by split<;>omega
  have h6:s.1.toNat+1<=ts.length:=by omega
  calc s.1.toNat * (2 * m)+((if s.2.1=1 then 0 else m)+s.2.2.toNat) < s.1.toNat * (2 * m)+2 * m:=by omega
   _=(s.1.toNat+1) * (2 * m):=by rw[Nat.add_mul];omega
   _<=ts.length * (2 * m):=Nat.mul_le_mul_right _ h6
 ·obtain ⟨a1,a2,a3,a4,a5⟩:=hv a ha
  obtain ⟨b1,b2,b3,b4,b5⟩:=hv b hb
  have hxa:(if a.2.1=1 then 0 else m)+a.2.2.toNat < 2 * m:=by split<;>omega
  have hxb:(if b.2.1=1 then 0 else m)+b.2.2.toNat < 2 * m:=by split<;>omega
  have hm:0 < 2 * m:=by omega
  have e:a.1.toNat * (2 * m)+((if a.2.1=1 then 0 else m)+a.2.2.toNat)=b.1.toNat * (2 * m)+((if b.2.1=1 then 0 else m)+b.2.2.toNat):=e
  have e1:(a.1.toNat * (2 * m)+((if a.2.1=1 then 0 else m)+a.2.2.toNat)) / (2 * m)=(b.1.toNat * (2 * m)+((if b.2.1=1 then 0 else m)+b.2.2.toNat)) / (2 * m):=by rw[e]
  rw[Nat.mul_comm,Nat.mul_add_div hm,Nat.mul_comm b.1.toNat,Nat.mul_add_div hm,Nat.div_eq_of_lt hxa,Nat.div_eq_of_lt hxb] at e1
  have e2:(if a.2.1=1 then 0 else m)+a.2.2.toNat=(if b.2.1=1 then 0 else m)+b.2.2.toNat:=by
   have:a.1.toNat=b.1.toNat:=by omega
   rw[this] at e;omega
  refine Prod.ext (by omega) ?_
  refine Prod.ext ?_ ?_
  ·rcases a3 with a3|a3<;>rcases b3 with b3|b3<;>rw[a3,b3] at e2 ⊢
   · rw [if_pos rfl, if_neg (by decide)] at e2; omega
   · rw [if_neg (by decide), if_pos rfl] at e2; omega
  ·rcases a3 with a3|a3<;>rcases b3 with b3|b3<;>rw[a3,b3] at e2
   · omega
   · rw [if_pos rfl, if_neg (by decide)] at e2; omega
   · rw [if_neg (by decide), if_pos rfl] at e2; omega
   · omega
def qQ(p:Int×Int×Int):PyData:=.tuple [.int p.1,.int p.2.1,.int p.2.2]
theorem sW(a b:Int×Int×Int)(h:qQ a=qQ b):a=b:=by
 unfold qQ at h
 injection h with h
 injection h with h1 h
 injection h with h2 h
 injection h with h3 h
 injection h1 with h1
 injection h2 with h2
 injection h3 with h3
 exact Prod.ext h1 (Prod.ext h2 h3)
theorem zZ(a:Int×Int×Int):kD (qQ a)=true:=rfl
noncomputable def otT:Sg->R Bool:=(e1 asB (eCh dLe dLt (eC (.int 0)) (rV 1) (e1 dLen (rV 0))))
noncomputable def otB:Sg->R Fw:=(aJ (sIf (e1 asB (gM false 4 (bZ (aA (eV 1) (aA (eV 2) (aA (eV 3) aK)))))) (bP (vD (eC .none))) sNx)
 (aJ (fZ 4 (bZ (aA (eV 1) (aA (eV 2) (aA (eV 3) aK)))) (eC (.bool true)))
 (aJ (bU 5 (vD (e2 dIx (e2 dIx (e2 dIx (rV 0) (rV 1)) (e1 dInt (e2 dLt (rV 2) (eC (.int 0))))) (rV 3))))
 (aJ (sIf (e1 asB (e2 dIs (rV 5) (eC .none))) (bP (vD (eC .none))) sNx)
 (aJ (sN (stT [(stN 2),(stN 3)]) (eV 5))
 (bU 1 (vD (e2 cH (rV 1) (rV 2)))))))))
noncomputable def otR:Sg->R Fw:=(bP (vD (bZ (aA (eV 2) (aA (eV 3) aK)))))
theorem aJ2:pG=aJ (jY 4) (aJ (bR otT otB) otR):=id rfl
noncomputable def otρ(ts:List Tb)(s:Int×Int×Int)(ps:List (Int×Int×Int))(u:Option A):Sg:=[some (.d (.list (ts.map tbD))),some (.d (.int s.1)),some (.d (.int s.2.1)),some (.d (.int s.2.2)),some (.m (been qQ ps)),u]
section
variable{ts:List Tb}{m:Nat}{s:Int×Int×Int}{ps:List (Int×Int×Int)}{u:Option A}
theorem z0(h0:0<=s.1)(h1:s.1 < (ts.length:Int)):otT (otρ ts s ps u)=.ok true:=by
 simp[otT,otρ,eQ,h0,h1]
theorem aJ3(h:¬ (0<=s.1/\s.1 < (ts.length:Int))):otT (otρ ts s ps u)=.ok false:=by
 by_cases h1:0<=s.1
 ·have h2:¬ s.1 < (ts.length:Int):=fun q=>h ⟨h1,q⟩
  simp[otT,otρ,eQ,h1]
  omega
 ·simp[otT,otρ,eQ,h1]
theorem aJ4(h:s∈ps):otB (otρ ts s ps u)=.ok (.rt (.d .none)):=by
 have h1:=jL zZ ps s
 have h2:=(mJ sW).mpr h
 rw[show qQ s=.tuple [.int s.1,.int s.2.1,.int s.2.2] from rfl] at h1 h2
 simp[otB,otρ,h1,h2]
theorem otB_go(hg:∀ t∈ts,t.good m)(V:fR m ts s)(h:s∉ps)(hp:ps.length<=2000000) :
  (aP ts s=none/\otB (otρ ts s ps u)=.ok (.rt (.d .none)))\/∃ w q:Int,aP ts s=(if 0<=s.1+w/\s.1+w < (ts.length:Int) then some (.inl (s.1+w,w,q)) else some (.inr (w,q)))/\otB (otρ ts s ps u)=.ok (.nx (otρ ts (s.1+w,w,q) (ps++[s]) (some (.d (prD (w,q)))))):=by
 obtain ⟨v1,v2,v3,v4,v5⟩:=V
 obtain ⟨t,ht,e⟩:=nY v1 v2
 have gt:=hg t (List.mem_of_getElem? ht)
 have h1:=jL zZ ps s
 have h2:=lD sW h
 have h3:=pE sW h
 have h4:(been qQ ps).length<=16777216:=by rw[pF];omega
 rw[show qQ s=.tuple [.int s.1,.int s.2.1,.int s.2.2] from rfl] at h1 h2 h3
 have i0:dIx (.list (ts.map tbD)) (.int s.1)=.ok (tbD t):=pD (lZ v1 (by rw[List.getElem?_map,ht];rfl))
 have i1:=aBM gt v4 v5
 have i2:=aEZ gt v4 v5
 have st:aP ts s=match t.at s.2.1 s.2.2 with
  | none=>none
  | some (w,q)=>if 0<=s.1+w/\s.1+w < (ts.length:Int) then some (.inl (s.1+w,w,q)) else some (.inr (w,q)):=by unfold aP;rw[e];try rfl
 obtain ⟨s1,s2,s3⟩:=s
 simp only at *
 cases hx:t.at s2 s3 with
 | none=>
  refine .inl ⟨by rw[st,hx],?_⟩
  rcases v3 with rfl|rfl
  ·rw[hx] at i1
   simp[otB,otρ,h1,h2,h3,h4,i0,xO,i1,thD]
  ·rw[hx] at i2
   simp[otB,otρ,h1,h2,h3,h4,i0,xP,i2,thD]
 | some x=>
  obtain ⟨w,q⟩:=x
  refine .inr ⟨w,q,by rw[st,hx],?_⟩
  rcases v3 with rfl|rfl
  ·rw[hx] at i1
   simp[otB,otρ,h1,h2,h3,h4,i0,xO,i1,kK,vO]
   simp[prD]
  ·rw[hx] at i2
   simp[otB,otρ,h1,h2,h3,h4,i0,xP,i2,kK,vO]
   simp[prD]
theorem aMS:otR (otρ ts s ps u)=.ok (.rt (.d (thD (some s.2)))):=by simp[otR,otρ,kK,prD]
theorem aHI(hg:∀ t∈ts,t.good m)(hm:m<=1000)(hts:ts.length<=100)(s0:Int×Int×Int):∀ (k:Nat) (ps:List (Int×Int×Int)) (s:Int×Int×Int) (u:Option A),Und2 (aP ts) s0 ps s->(∀ p∈ps,fR m ts p)->fR m ts s->ts.length * (2 * m)+1<=ps.length+k->
  aJ (bR otT otB) otR (otρ ts s ps u)=.ok (.rt (.d (thD (bT (aP ts) s0)))):=by
 have hB:ts.length * (2 * m)<=100 * 2000:=Nat.mul_le_mul hts (by omega)
 intro k
 induction k with
 | zero=>
  intro ps s u U hv V hk
  have:=aBX U.nd hv
  omega
 | succ k ih=>
  intro ps s u U hv V hk
  have hp:ps.length<=2000000:=by have:=aBX U.nd hv;omega
  by_cases hs:s∈ps
  ·rw[bD,nH (z0 V.1 V.2.1) (aJ4 hs),U.met hs];rfl
  ·rcases otB_go (u:=u) hg V hs hp with ⟨e,hb⟩|⟨w,q,e,hb⟩
   ·rw[bD,nH (z0 V.1 V.2.1) hb,U.sticks e];rfl
   ·rw[bD,jK (z0 V.1 V.2.1) hb]
    by_cases hin:0<=s.1+w/\s.1+w < (ts.length:Int)
    ·rw[if_pos hin] at e
     rcases box_step hg V with e'|⟨s',e',V'⟩|⟨w',q',e',_⟩
     ·rw[e] at e';cases e'
     ·rw[e] at e'
      cases e'
      have:=ih (ps++[s]) (s.1+w,w,q) (some (.d (prD (w,q)))) (U.next hs e) (fun p hp=>by
       rcases List.mem_append.mp hp with z|z
       · exact hv p z
       · rw [List.mem_singleton.mp z]; exact V) V' (by rw [List.length_append, List.length_singleton]; omega)
      rw[bD] at this
      exact this
     ·rw[e] at e';cases e'
    ·rw[if_neg hin] at e
     rw[eJ (aJ3 hin),U.outs e,R.bind_ok]
     simp only[aMS]
theorem aFG(hg:∀ t∈ts,t.good m)(hm:m<=1000)(hts:ts.length<=100)(V:fR m ts s):fD [.d (.list (ts.map tbD)),.d (.int s.1),.d (.int s.2.1),.d (.int s.2.2)]=.ok (.d (thD (bT (aP ts) s))):=by
 have h:=aHI hg hm hts s (ts.length * (2 * m)+1) [] s none Und2.start (fun p hp=>by simp at hp) V (by simp)
 unfold fD
 rw[aJ2]
 simp only[gD,bD,pC,R.bind_ok,List.map_cons,List.map_nil,List.cons_append,List.nil_append,List.length_cons,List.length_nil,List.replicate,Nat.reduceAdd,Nat.reduceSub,List.set_cons_zero,List.set_cons_succ]
 rw[bD] at h
 simp only[otρ,been,List.map_nil] at h
 rw[h];rfl
theorem aMT(hg:∀ t∈ts,t.good m)(hm:m<=1000)(hts:ts.length<=100)(h1:1<=ts.length):cR [.d (.list (ts.map tbD)),.d (.int (m:Int))]=.ok (.d (tbD (aW m ts))):=by
 have hrg:=lE (n:=m) (by omega)
 have hl:dLen (.list (ts.map tbD))=.ok (.int (ts.length:Int)):=by rw[eQ,List.length_map]
 have hc1:=cV (fs:=stN 0) (fe:=(eA (aY 4 fD (aA (vV 1) (aA (vD (eC (.int 0))) (aA (vD (eC (.int 1))) (aA (vV 0) aK))))))) (ρ0:=[none,some (.d (.list (ts.map tbD)))]) (d:=fun i:Nat=>PyData.int (i:Int)) (g:=fun q:Nat=>thD (bT (aP ts) (0,1,(q:Int)))) (xs:=List.range m) fun q hq=>⟨_,rfl,by
  have hq:=List.mem_range.mp hq
  have f:=aFG (s:=(0,1,(q:Int))) hg hm hts ⟨by show (0:Int)<=0;omega,by show (0:Int) < _;omega,.inl rfl,by show (0:Int)<=(q:Int);omega,by show (q:Int) < _;omega⟩
  simp only at f
  simp[f]⟩
 have hc2:=cV (fs:=stN 0) (fe:=(eA (aY 4 fD (aA (vV 1) (aA (vD (e2 dSub (e1 dLen (rV 1)) (eC (.int 1)))) (aA (vD (e1 dNeg (eC (.int 1)))) (aA (vV 0) aK))))))) (ρ0:=[none,some (.d (.list (ts.map tbD)))]) (d:=fun i:Nat=>PyData.int (i:Int)) (g:=fun q:Nat=>thD (bT (aP ts) ((ts.length:Int) - 1,-1,(q:Int)))) (xs:=List.range m) fun q hq=>⟨_,rfl,by
  have hq:=List.mem_range.mp hq
  have f:=aFG (s:=((ts.length:Int) - 1,-1,(q:Int))) hg hm hts ⟨by show (0:Int)<=_ - 1;omega,by show (_:Int) - 1 < _;omega,.inr rfl,by show (0:Int)<=(q:Int);omega,by show (q:Int) < _;omega⟩
  simp only at f
  simp[hl,f]⟩
 have hd:tbD (aW m ts)=.tuple [.tuple ((List.range m).map fun q:Nat=>thD (bT (aP ts) (0,1,(q:Int)))),.tuple ((List.range m).map fun q:Nat=>thD (bT (aP ts) ((ts.length:Int) - 1,-1,(q:Int))))]:=by
  unfold tbD l8 aW
  rw[List.map_map,List.map_map]
  rfl
 rw[hd]
 unfold cR mM
 simp only[gD,bD,hU,j1,iJ,R.bind_ok,List.map_cons,List.map_nil,List.cons_append,List.nil_append,List.length_cons,List.length_nil,List.replicate,Nat.reduceAdd,Nat.reduceSub,List.set_cons_zero,List.set_cons_succ,List.getElem?_cons_zero,List.getElem?_cons_succ,lP,hrg,i8,eS,Option.bind,Option.join_some,hc1,hc2]
 simp
 try rfl
end
end Mc
namespace Mc
open PySem L2 PyProof.Rows Fl
theorem aPB:bK=mL:=id rfl
theorem uR{rs:List Rw}{sg:Nat}{z:List Nat}(M:Mach rs sg)(S:bH sg z):bK [.d (bC rs),.d (stD z)]=.ok (.d (tE rs z)):=by
 have:=aMM (z:=⟨z.toArray⟩) M (by simpa using S)
 rw[aPB,show stD z=.str ⟨z.toArray⟩ from rfl,this,fJ M z S]
theorem z4{rs:List Rw}{sg:Nat}{x y:List Nat}(M:Mach rs sg)(S:bH sg (x++y)):cR [.d (.list [tE rs x,tE rs y]),.d (.int (rs.length:Int))]=.ok (.d (tE rs (x++y))):=by
 have Sx:bH sg x:=⟨by have:=S.1;rw[List.length_append] at this;omega,fun c hc=>S.2 c (List.mem_append_left _ hc)⟩
 have Sy:bH sg y:=⟨by have:=S.1;rw[List.length_append] at this;omega,fun c hc=>S.2 c (List.mem_append_right _ hc)⟩
 have h:=aMT (ts:=[b6 rs x,b6 rs y]) (m:=rs.length) (fun t ht=>by
  rcases List.mem_cons.mp ht with rfl|ht
  · exact fG M Sx
  · rw [List.mem_singleton.mp ht]; exact fG M Sy) M.len2 (by simp) (by simp)
 rw[aCY M y x S] at h
 rw[fJ M x Sx,fJ M y Sy,fJ M _ S]
 exact h
noncomputable def ctF:Sg->R Fw:=(aJ (bU 8 (aY 2 cR (aA (vD (eL (eN (aA (e2 dIx (rV 4) (rV 6)) (aA (eV 7) aK))))) (aA (vD (e1 dLen (rV 0))) aK))))
 (sIf (e1 asB (gM true 5 (eV 8))) (aJ (fZ 5 (eV 8) (eC (.bool true)))
 (g7 4 (eV 8))) sNx))
noncomputable def ctT:Sg->R Bool:=(gY (e1 asB (e2 dLt (rV 6) (e1 dLen (rV 4)))) (e1 asB (e2 dLe (e1 dLen (rV 4)) (rV 2))))
noncomputable def ctB:Sg->R Fw:=(aJ (sFz 3 (fX (e1 a8 (eV 3)) (stN 7) ctF))
 (bU 6 (vD (e2 cH (rV 6) (eC (.int 1))))))
noncomputable def ctR:Sg->R Fw:=(bP (vD (e1 dLen (rV 4))))
theorem aMU:iB=(aJ (dD 3 (c6 [none,some 0] (e1 a8 (eSl dSl (eC (.str "abc")) oNo (oSo (rV 1)))) (stN 0) dO (eA (aY 2 bK (aA (vV 1) (aA (vV 0) aK))))))
 (aJ (dD 4 (eN (aA (eA (aY 2 bK (aA (vV 0) (aA (vD (eC (.str ""))) aK)))) aK)))
 (aJ (rC 5 (rB (e2 dIx (rV 4) (eC (.int 0))) (eC (.bool true)) vL))
 (aJ (bU 6 (vD (eC (.int 0))))
 (aJ (bR ctT ctB) ctR))))):=id rfl
noncomputable def cS(rs:List Rw)(c:Nat):PyData:=tE rs [c]
noncomputable def ctρ(rs:List Rw)(sg:Nat)(e2:A)(f:List (List Nat))(at':Nat)(u v:Option A):Sg:=[some (.d (bC rs)),some (.d (.int (sg:Int))),some (.d (.int 300)),some e2,some (.l (f.map (tE rs))),some (.m (been id (f.map (tE rs)))),some (.d (.int (at':Int))),u,v]
theorem sX(rs:List Rw):dLen (bC rs)=.ok (.int rs.length):=by unfold bC;rw[uD,List.length_map]
theorem aJ5{rs:List Rw}{sg c at':Nat}{f:List (List Nat)}{z:List Nat}{e2:A}(M:Mach rs sg)(hS:∀ z∈f,bH sg z)(hl:f.length<=10000)(hz:f[at']? = some z)(Sz:bH sg (z++[c])){w:Option A} :
  ctF (ctρ rs sg e2 f at' (some (.d (cS rs c))) w)=.ok (.nx (ctρ rs sg e2 (nQ rs f (z++[c])) at' (some (.d (cS rs c))) (some (.d (tE rs (z++[c])))))):=by
 have ix:dIx (.list (f.map (tE rs))) (.int (at':Int))=.ok (tE rs z):=pD (iD (by rw[List.getElem?_map,hz];rfl))
 have hb:=z4 M Sz
 have hk:=oH (oG M Sz) (mR M hS)
 have hml:=sX rs
 unfold cS
 by_cases h:tE rs (z++[c])∈f.map (tE rs)
 ·rw[oI h]
  have h1:=uK h
  simp[ctF,ctρ,ix,hml,hb,hk,h1]
 ·rw[mS h]
  have h1:=aBT h
  have h2:=zS h
  have h3:(been id (f.map (tE rs))).length<=16777216:=by rw[uJ,List.length_map];omega
  have h4:f.length < 16777216:=by omega
  unfold ctρ
  rw[List.map_append,List.map_singleton,<-h2]
  simp[ctF,ix,hml,hb,hk,h1,h3,h4]
  try rfl
theorem aMV{rs:List Rw}{sg at':Nat}{f:List (List Nat)}{z:List Nat}{e2:A}{u v:Option A}(M:Mach rs sg)(hV:GaV sg at' f)(ha:at' < 900)(hl:f.length<=300)(hz:f[at']? = some z) :
  ∃ u' v',jV (stN 7) ctF ((sgT sg).cps.toList.map (cS rs)) (ctρ rs sg e2 f at' u v)=.ok (.nx (ctρ rs sg e2 (cC rs f ((sgT sg).cps.toList.map fun c=>z++[c])) at' u' v')):=by
 have s1:=M.sg1
 have s3:=M.sg3
 have hzm:=List.mem_of_getElem? hz
 have hl3:=l5 s1 s3
 obtain ⟨ρ',q1,u',v',rfl,V,pr,ln⟩:=f7 (fs:=stN 7) (fb:=ctF) (d:=cS rs) (xs:=(sgT sg).cps.toList) (ρ:=ctρ rs sg e2 f at' u v)
  (fun i ρ=>∃ u v,ρ=ctρ rs sg e2 (cC rs f (((sgT sg).cps.toList.take i).map fun c=>z++[c])) at' u v/\GaV sg (at'+1) (cC rs f (((sgT sg).cps.toList.take i).map fun c=>z++[c]))/\f <+: cC rs f (((sgT sg).cps.toList.take i).map fun c=>z++[c])/\(cC rs f (((sgT sg).cps.toList.take i).map fun c=>z++[c])).length<=f.length+i)
  ⟨u,v,rfl,⟨hV.sgn,fun z hz=>by have:=hV.len z hz;omega⟩,List.prefix_refl _,by show f.length<=_;omega⟩ fun i c ρ hc zz0=>by
  obtain ⟨u,v,e,V,pr,ln⟩:=zz0
  have hcm:=List.mem_of_getElem? hc
  have hs:=kN s1 s3 hcm
  have hi:i < (sgT sg).cps.toList.length:=by
   rcases Nat.lt_or_ge i (sgT sg).cps.toList.length with h|h
   · exact h
   · rw [List.getElem?_eq_none h] at hc; cases hc
  have ht:(sgT sg).cps.toList.take (i+1)=(sgT sg).cps.toList.take i++[c]:=by rw[List.take_succ,hc];rfl
  have Sz:bH sg (z++[c]):=⟨by have:=hV.len z hzm;rw[List.length_append,List.length_singleton];omega,fun x hx=>by
   rcases List.mem_append.mp hx with h|h
   · exact hV.sgn z hzm x h
   · rw [List.mem_singleton.mp h]; exact hs⟩
  have st:=aJ5 (e2:=e2) (w:=v) M (V.strip (by omega)) (by omega) (aBU pr hz) Sz
  rw[ht,List.map_append,List.map_singleton,uL]
  refine ⟨ctρ rs sg e2 (cC rs f (((sgT sg).cps.toList.take i).map fun c=>z++[c])) at' (some (.d (cS rs c))) v,_,by rw[e];simp[ctρ],.inl st,_,_,rfl,⟨fun x hx=>?_,fun x hx=>?_⟩,pr.trans zU,?_⟩
  ·rcases addR_mem hx with h|rfl
   · exact V.sgn x h
   · exact Sz.2
  ·rcases addR_mem hx with h|rfl
   · exact V.len x h
   · have := hV.len z hzm; rw [List.length_append, List.length_singleton]; omega
  ·have:=zT (rs:=rs) (f:=cC rs f (((sgT sg).cps.toList.take i).map fun c=>z++[c])) (y:=z++[c]);omega
 rw[List.take_length] at q1
 exact ⟨u',v',q1⟩
theorem aFH{rs:List Rw}{sg:Nat}(M:Mach rs sg):∀ (n at':Nat) (f:List (List Nat)) (e0 k0:A) (u v w p q:Option A),(e0=.l ((sgT sg).cps.toList.map (iQ rs))\/e0=.d (.list ((sgT sg).cps.toList.map (iQ rs))))->(k0=.l ((sgT sg).cps.toList.map (cS rs))\/k0=.d (.list ((sgT sg).cps.toList.map (cS rs))))->GaV sg at' f->at'<=f.length->f.length<=300->f=cC rs [[]] (Mb.dP (sgT sg).cps.toList (f.take at'))->301<=at'+n->
  (aJ (bR gaT gaB) (lN 3) (gaρ rs e0 f at' u v w)=.ex ⟨"TooMany",[]⟩/\∃ k:Nat,300 < k/\aJ (bR ctT ctB) ctR (ctρ rs sg k0 f at' p q)=.ok (.rt (.d (.int (k:Int))))) \/
  ∃ C,aJ (bR gaT gaB) (lN 3) (gaρ rs e0 f at' u v w)=.ok (.rt (.l (C.map (enD rs))))/\aJ (bR ctT ctB) ctR (ctρ rs sg k0 f at' p q)=.ok (.rt (.d (.int (C.length:Int))))/\C=cC rs [[]] (Mb.dP (sgT sg).cps.toList C)/\(∀ z∈C,bH sg z/\z.length<=300)/\C.length<=300/\[[]] <+: C:=by
 intro n
 induction n with
 | zero=>intro at' f e0 k0 u v w p q he hk V h1 h2 h3 h4;omega
 | succ n ih=>
  intro at' f e0 k0 u v w p q he hk V h1 h2 h3 h4
  have hT:gaT (gaρ rs e0 f at' u v w)=.ok (decide (at' < f.length)):=by simp[gaT,gaρ,eQ]
  have hT2:ctT (ctρ rs sg k0 f at' p q)=.ok (decide (at' < f.length)):=by
   by_cases h:at' < f.length
   ·simp[ctT,ctρ,eQ,h];omega
   ·simp[ctT,ctρ,eQ,h]
  by_cases hlt:at' < f.length
  ·have hz:f[at']? = some f[at']:=List.getElem?_eq_getElem hlt
   obtain ⟨u',v',w',q1,V',pr,ln⟩:=aMP (e2:=.d (.list ((sgT sg).cps.toList.map (iQ rs)))) (u:=u) (v:=v) (w:=w) M V (by omega) h2 hz
   obtain ⟨p',q',q2⟩:=aMV (e2:=.d (.list ((sgT sg).cps.toList.map (cS rs)))) (u:=p) (v:=q) M V (by omega) h2 hz
   have hl3:=l5 M.sg1 M.sg3
   have hit:=fH (xs:=(sgT sg).cps.toList.map (iQ rs)) (by rw[List.length_map];omega)
   have hit2:=fH (xs:=(sgT sg).cps.toList.map (cS rs)) (by rw[List.length_map];omega)
   have hf:fz 2 (gaρ rs e0 f at' u v w)=gaρ rs (.d (.list ((sgT sg).cps.toList.map (iQ rs)))) f at' u v w:=by
    rcases he with rfl|rfl<;>rfl
   have hf2:fz 3 (ctρ rs sg k0 f at' p q)=ctρ rs sg (.d (.list ((sgT sg).cps.toList.map (cS rs)))) f at' p q:=by
    rcases hk with rfl|rfl<;>rfl
   have hE:(e1 a8 (eV 2)) (gaρ rs (.d (.list ((sgT sg).cps.toList.map (iQ rs)))) f at' u v w)=.ok ((sgT sg).cps.toList.map (iQ rs)):=by simp[gaρ,hit]
   have hE2:(e1 a8 (eV 3)) (ctρ rs sg (.d (.list ((sgT sg).cps.toList.map (cS rs)))) f at' p q)=.ok ((sgT sg).cps.toList.map (cS rs)):=by simp[ctρ,hit2]
   generalize hf':cC rs f ((sgT sg).cps.toList.map fun c=>f[at']++[c])=f' at q1 q2 V' pr ln
   have hle:=pr.length_le
   have hcl:f'=cC rs [[]] (Mb.dP (sgT sg).cps.toList (f'.take (at'+1))):=by
    have ht:f'.take (at'+1)=f.take at'++[f[at']]:=by
     obtain ⟨t,rfl⟩:=pr
     rw[List.take_append_of_le_length (by omega),List.take_succ,hz];rfl
    rw[ht,Mb.mP]
    unfold cC
    rw[Mb.iL]
    show _=cC rs (cC rs [[]] (Mb.dP (sgT sg).cps.toList (f.take at'))) _
    rw[<-h3]
    unfold Mb.dP
    rw[List.flatMap_singleton,hf']
   have hgt:(e1 asB (e2 dGt (e1 dLen (rV 3)) (rV 1))) (gaρ rs (.d (.list ((sgT sg).cps.toList.map (iQ rs)))) f' at' u' v' w')=.ok (decide (300 < f'.length)):=by
    simp[gaρ,eQ]
    omega
   have hB2:ctB (ctρ rs sg k0 f at' p q)=.ok (.nx (ctρ rs sg (.d (.list ((sgT sg).cps.toList.map (cS rs)))) f' (at'+1) p' q')):=by
    unfold ctB
    rw[bD,t7,hf2,jJ,hE2,R.bind_ok,q2,R.bind_ok]
    simp[ctρ]
   by_cases hm:300 < f'.length
   ·have hB:gaB (gaρ rs e0 f at' u v w)=.ex ⟨"TooMany",[]⟩:=by
     unfold gaB
     rw[bD,t7,hf,jJ,hE,R.bind_ok,q1,R.bind_ok]
     simp only
     rw[bD,qJ,hgt,decide_eq_true hm]
     simp[gaρ,rD,few]
    refine .inl ⟨?_,f'.length,hm,?_⟩
    ·rw[bD,aE9 (by rw[hT,decide_eq_true hlt]) hB];rfl
    ·have hT3:ctT (ctρ rs sg (.d (.list ((sgT sg).cps.toList.map (cS rs)))) f' (at'+1) p' q')=.ok false:=by
      by_cases h:at'+1 < f'.length
      ·have h':(at':Int)+1 < (f'.length:Int):=by omega
       simp[ctT,ctρ,eQ,h'];omega
      ·have h':¬ (at':Int)+1 < (f'.length:Int):=by omega
       simp[ctT,ctρ,eQ,h']
     rw[bD,jK (by rw[hT2,decide_eq_true hlt]) hB2,eJ hT3]
     simp[ctR,ctρ,eQ]
   ·have hB:gaB (gaρ rs e0 f at' u v w)=.ok (.nx (gaρ rs (.d (.list ((sgT sg).cps.toList.map (iQ rs)))) f' (at'+1) u' v' w')):=by
     unfold gaB
     rw[bD,t7,hf,jJ,hE,R.bind_ok,q1,R.bind_ok]
     simp only
     rw[bD,qJ,hgt,decide_eq_false hm]
     simp[gaρ,o0]
    have:=ih (at'+1) f' _ _ u' v' w' p' q' (.inr rfl) (.inr rfl) V' (by omega) (by omega) hcl (by omega)
    rw[bD,bD] at this ⊢
    rw[jK (by rw[hT,decide_eq_true hlt]) hB,jK (by rw[hT2,decide_eq_true hlt]) hB2]
    exact this
  ·have hcl:f=cC rs [[]] (Mb.dP (sgT sg).cps.toList f):=by rwa [List.take_of_length_le (by omega)] at h3
   refine .inr ⟨f,?_,?_,hcl,fun z hz=>⟨V.strip (by omega) z hz,by have:=V.len z hz;omega⟩,h2,?_⟩
   ·rw[bD,eJ (by rw[hT,decide_eq_false hlt])]
    simp[gaρ,lN]
   ·rw[bD,eJ (by rw[hT2,decide_eq_false hlt])]
    simp[ctR,ctρ,eQ]
   ·rw[hcl]
    unfold cC
    rw[Mb.iM]
    exact List.prefix_append _ _
end Mc
namespace Mc
open PySem L2 PyProof.Rows Fl
@[simp] theorem aPC(i:Nat)(ρ:Sg):lN i ρ=match ρ[i]? with|some (some (.l xs))=>.ok (.rt (.l xs))|_=>.bad:=id rfl
@[simp] theorem aPD(n:Nat)(G:List A->R (List PyData))(f:Sg->R (List A))(ρ:Sg):xN n G f ρ=(f ρ).bind fun as=>if as.length=n then G as else .bad:=id rfl
@[simp] theorem aMW(n:Nat)(fb:Sg->R Fw)(as:List A):fnN n fb as=(fb (as.map some++List.replicate (n - as.length) none)).bind fun w=>match w with | .rt (.l xs)=>.ok xs|_=>.bad:=id rfl
end Mc
namespace Mc
open PySem L2 PyProof.Rows Fl
@[simp] theorem aPE(f:Sg->R (List PyData))(ρ:Sg):aC6 f ρ=(f ρ).bind fun xs=>.ok (.rt (.l xs)):=id rfl
@[simp] theorem aPW(i:Nat)(ρ:Sg):aC7 i ρ=match ρ[i]? with
 | some (some (.l xs))=>if xs.isEmpty=true then .bad else .ok (.nx (ρ.set i (some (.l xs.dropLast))))
 | _=>.bad:=id rfl
@[simp] theorem aPF(i j n:Nat)(G:List A->R (List PyData))(f:Sg->R (List A))(cl:List Str)(fs:Sg->R Fw)(ρ:Sg):xQ i j n G f cl fs ρ=match f ρ with
 | .ok as=>if as.length=n then (match G as with
  | .bad=>.bad
  | .ok xs=>.ok (.nx (ρ.set j (some (.l xs))))
  | .ex e=>if cl.contains e.c=true then (fs (ρ.set i (some (.x e)))).bind fun w=>.ok (aGU i w) else .bad) else .bad
 | _=>.bad:=id rfl
@[simp] theorem aPX(f:Sg->R Fw)(g:Sg->R (A×PyData))(ρ:Sg):zV f g ρ=(f ρ).bind fun w=>match w with
 | .nx ρ'=>g ρ'
 | _=>.bad:=id rfl
@[simp] theorem aPY(i j:Nat)(ρ:Sg):aC9 i j ρ=match ρ[i]?,ρ[j]? with
 | some (some (.l xs)),some (some (.d y))=>.ok (.l xs,y)
 | some (some (.d x)),some (some (.d y))=>.ok (.d x,y)
 | _,_=>.bad:=id rfl
@[simp] theorem aQF(n:Nat)(fb:Sg->R (A×PyData))(as:List A):fnP n fb as=fb (as.map some++List.replicate (n - as.length) none):=id rfl
@[simp] theorem aPG(i j n:Nat)(G:List A->R (A×PyData))(fa:Sg->R (List A))(ρ:Sg):aDA i j n G fa ρ=(fa ρ).bind fun as=>if as.length=n then (G as).bind fun d=>.ok (.nx ((ρ.set i (some d.1)).set j (some (.d d.2)))) else .bad:=id rfl
@[simp] theorem aOB(j i n:Nat)(G:List A->R A)(fa:Sg->R (List A))(ρ:Sg):oJ j i n G fa ρ=match ρ[j]?,ρ[i]? with
 | some (some (.d y)),some (some (.l xs))=>(fa ρ).bind fun as=>if as.length+2=n then (match G (.d y::.d (.list xs)::as) with | .ok a=>if rH a=true then .ok a else .bad|_=>.bad) else .bad
 | _,_=>.bad:=id rfl
@[simp] theorem aFI(i:Nat)(ρ:Sg):qO i ρ=match ρ[i]? with
 | some (some (.m kvs))=>if kvs.length<=16777216 then .ok (kvs.map (·.1)) else .bad
 | _=>.bad:=id rfl
theorem aMX:mT=(aJ (dD 2 (c6 [none,some 0] (e1 a8 (eSl dSl (eC (.str "abc")) oNo (oSo (eA (aY 1 eH (aA (vV 0) aK)))))) (stN 0) dO (bZ (aA (eV 0) (aA (eA (aY 2 eP (aA (vV 1) (aA (vV 0) aK)))) aK)))))
 (aJ (dD 3 (eN (aA (bZ (aA (eC (.str "")) (aA (eA (aY 1 lX (aA (vD (e1 dLen (rV 0))) aK))) aK))) aK)))
 (aJ (rC 4 (rB (e2 dIx (e2 dIx (rV 3) (eC (.int 0))) (eC (.int 1))) (eC (.bool true)) vL))
 (aJ (bU 5 (vD (eC (.int 0))))
 (aJ (bR gaT gaB) (lN 3)))))):=id rfl
theorem aMY(rs:List Rw):tE rs []=tbD (bL rs.length):=rfl
theorem both{rs:List Rw}{sg:Nat}(M:Mach rs sg) :
  (cM [.d (bC rs)]=.ex ⟨"TooMany",[]⟩/\∃ k:Nat,300 < k/\dA [.d (bC rs),.d (.int (sg:Int)),.d (.int 300)]=.ok (.d (.int (k:Int)))) \/
  ∃ C,cM [.d (bC rs)]=.ok (C.map (enD rs))/\dA [.d (bC rs),.d (.int (sg:Int)),.d (.int 300)]=.ok (.d (.int (C.length:Int)))/\C=cC rs [[]] (Mb.dP (sgT sg).cps.toList C)/\(∀ z∈C,bH sg z/\z.length<=300)/\C.length<=300/\[[]] <+: C:=by
 obtain ⟨r,t,hrs,hr⟩:=M.cons
 have hsg:eH [.d (bC rs)]=.ok (.d (.int sg)):=by rw[hrs,aBJ,hr]
 have hsl:dSl (.str "abc") none (some (sg:Int))=.ok (.str (sgT sg)):=aCX (by decide)
 have hl3:=l5 M.sg1 M.sg3
 have hi:a8 (.str (sgT sg))=.ok ((sgT sg).cps.toList.map fun u:Nat=>PyData.str ⟨#[u]⟩):=sQ (by omega)
 have hc:=cV (fs:=stN 0) (fe:=bZ (aA (eV 0) (aA (eA (aY 2 eP (aA (vV 1) (aA (vV 0) aK)))) aK))) (ρ0:=[none,some (.d (bC rs))]) (d:=fun u:Nat=>PyData.str ⟨#[u]⟩) (g:=iQ rs) (xs:=(sgT sg).cps.toList) fun u hu=>⟨_,rfl,by
  have:=aN4 M (kN M.sg1 M.sg3 hu)
  simp[this,iQ]⟩
 have hc2:=cV (fs:=stN 0) (fe:=(eA (aY 2 bK (aA (vV 1) (aA (vV 0) aK))))) (ρ0:=[none,some (.d (bC rs))]) (d:=fun u:Nat=>PyData.str ⟨#[u]⟩) (g:=cS rs) (xs:=(sgT sg).cps.toList) fun u hu=>⟨_,rfl,by
  have hs:=kN M.sg1 M.sg3 hu
  have:=uR (z:=[u]) M ⟨by simp,fun x hx=>by rw[List.mem_singleton.mp hx];exact hs⟩
  rw[show stD [u]=.str ⟨#[u]⟩ from rfl] at this
  simp[this,cS]⟩
 have hlen:=sX rs
 have hst:=aN3 M.len2
 have hk:dR (tbD (bL rs.length)) []=true:=by unfold dR;rw[aBS];rfl
 have hp:Fl.g8 [] [(tbD (bL rs.length),.bool true)]=.ok [(tbD (bL rs.length),.bool true)]:=by simp[Fl.g8,hk,putM,eO,jX]
 have h00:=uR (z:=[]) M ⟨by simp,fun x hx=>by simp at hx⟩
 rw[show stD []=.str "" from rfl,aMY] at h00
 have key:=aFH M 301 0 [[]] (.l ((sgT sg).cps.toList.map (iQ rs))) (.l ((sgT sg).cps.toList.map (cS rs))) none none none none none (.inl rfl) (.inl rfl) ⟨fun z hz=>by rw[List.mem_singleton.mp hz];exact fun c hc=>by simp at hc,fun z hz=>by rw[List.mem_singleton.mp hz];simp⟩ (by simp) (by simp) rfl (by omega)
 have e0:([[]]:List (List Nat)).map (enD rs)=[.tuple [.str "",tbD (bL rs.length)]]:=rfl
 have e00:([[]]:List (List Nat)).map (tE rs)=[tbD (bL rs.length)]:=rfl
 have e1':been id ([tbD (bL rs.length)]:List PyData)=[(tbD (bL rs.length),.bool true)]:=rfl
 simp only[gaρ,ctρ,e0,e00,e1',Int.natCast_zero] at key
 have i0:dIx (.list [.tuple [.str "",tbD (bL rs.length)]]) (.int 0)=.ok (.tuple [.str "",tbD (bL rs.length)]):=rfl
 have i1:dIx (.tuple [.str "",tbD (bL rs.length)]) (.int 1)=.ok (tbD (bL rs.length)):=rfl
 have i2:dIx (.list [tbD (bL rs.length)]) (.int 0)=.ok (tbD (bL rs.length)):=rfl
 have run:∀ r,aJ (bR gaT gaB) (lN 3) [some (.d (bC rs)),some (.d (.int 300)),some (.l ((sgT sg).cps.toList.map (iQ rs))),some (.l [.tuple [.str "",tbD (bL rs.length)]]),some (.m [(tbD (bL rs.length),.bool true)]),some (.d (.int 0)),none,none,none]=r->iA [.d (bC rs),.d (.int 300)]=r.bind fun w=>match w with | .rt (.l xs)=>.ok xs|_=>.bad:=fun r hr=>by
  unfold iA
  rw[aMX]
  rw[bD] at hr
  simp only[aMW,bD,hU,i8,j1,pA,t8,lO,t9,uA,aH5,zB,pB,kJ,aH4,rE,iJ,R.bind_ok,List.length_cons,List.length_nil,Nat.reduceAdd,List.map_cons,List.map_nil,List.cons_append,List.nil_append,List.replicate,Nat.reduceSub,List.getElem?_cons_zero,List.getElem?_cons_succ,if_true,hsg,zA,hsl,hi,eS,Option.bind_none,Option.bind_some,Option.join_some,hc,List.set_cons_zero,List.set_cons_succ,oE,aBF,hlen,hst,Nat.reduceLeDiff,zK,zL,aBP,i0,i1,hp,lY,hr]
  try rfl
 have run2:∀ r,aJ (bR ctT ctB) ctR [some (.d (bC rs)),some (.d (.int (sg:Int))),some (.d (.int 300)),some (.l ((sgT sg).cps.toList.map (cS rs))),some (.l [tbD (bL rs.length)]),some (.m [(tbD (bL rs.length),.bool true)]),some (.d (.int 0)),none,none]=.ok (.rt (.d r))->dA [.d (bC rs),.d (.int (sg:Int)),.d (.int 300)]=.ok (.d r):=fun r hr=>by
  unfold dA
  rw[aMU]
  rw[bD] at hr
  simp only[gD,bD,hU,i8,j1,pA,t8,lO,t9,uA,aH5,zB,pB,kJ,aH4,rE,iJ,R.bind_ok,List.length_cons,List.length_nil,Nat.reduceAdd,List.map_cons,List.map_nil,List.cons_append,List.nil_append,List.replicate,Nat.reduceSub,List.getElem?_cons_zero,List.getElem?_cons_succ,if_true,zA,hsl,hi,eS,Option.bind_none,Option.bind_some,Option.join_some,hc2,List.set_cons_zero,List.set_cons_succ,oE,h00,Nat.reduceLeDiff,zK,zL,aBP,i2,hp,lY,hr]
 rcases key with ⟨k1,k,hk3,k2⟩|⟨C,k1,k2,h1,h2,h3,h4⟩
 ·refine .inl ⟨?_,k,hk3,run2 _ k2⟩
  have:=run _ k1
  unfold cM iN
  simp[this]
 ·refine .inr ⟨C,?_,run2 _ k2,h1,h2,h3,h4⟩
  have:=run _ k1
  unfold cM iN
  simp[this]
theorem aHJ{rs:List Rw}{C:List (List Nat)}(h:cM [.d (bC rs)]=.ok (C.map (enD rs))):dB [.d (bC rs)]=.ok (.l (C.map (enD rs)),.bool false):=by
 unfold dB fE
 simp[h]
theorem aHK{rs:List Rw}(h:cM [.d (bC rs)]=.ex ⟨"TooMany",[]⟩):dB [.d (bC rs)]=.ok (.d .none,.bool true):=by
 have q:∀ (b:Bool) (ρ:Sg),ρ[3]? = some (some (.x ⟨"TooMany",[]⟩))->jZ 3 "TooMany" b ρ=.ok (.bool b):=fun b ρ hρ=>by unfold jZ;rw[hρ];rfl
 unfold dB fE
 simp[h,q,aGU]
end Mc
namespace Mc
open PySem L2 PyProof.Rows Fl
theorem aJ6{sg:Nat}{z:List Nat}(s3:sg<=3)(S:bH sg z):PyData.strOk ⟨z.toArray⟩=true:=by
 unfold PyData.strOk
 rw[List.all_toArray,List.all_eq_true]
 intro c hc
 have:=of_decide_eq_true (S.2 c hc)
 exact decide_eq_true (by omega)
theorem aIA{rs:List Rw}{sg:Nat}{z:List Nat}(M:Mach rs sg)(S:bH sg z):Sh 5 (enD rs z)/\(enD rs z).eqv (enD rs z)=true:=by
 have h2:Sh 4 (tE rs z):=by
  rw[fJ M z S]
  have k:∀ l:List Th,∀ x∈l.map thD,Sh 2 x:=fun l x hx=>by
   obtain ⟨y,_,rfl⟩:=List.mem_map.mp hx
   cases y with
   | none=>exact ⟨rfl,Nat.zero_le _⟩
   | some s=>
    refine fQ fun z hz=>?_
    rcases List.mem_cons.mp hz with q|q
    · rw [q]; exact nW _ _
    · rw [List.mem_singleton.mp q]; exact nW _ _
  refine fQ fun x hx=>?_
  rcases List.mem_cons.mp hx with q|q
  ·rw[q];exact fQ (k _)
  ·rw[List.mem_singleton.mp q];exact fQ (k _)
 refine ⟨fQ fun x hx=>?_,nV fun x hx=>?_⟩
 ·rcases List.mem_cons.mp hx with q|q
  ·rw[q];exact aD3 _ (aJ6 M.sg3 S)
  ·rw[List.mem_singleton.mp q];exact h2
 ·rcases List.mem_cons.mp hx with q|q
  ·rw[q];unfold stD;rw[aAR]
  ·rw[List.mem_singleton.mp q,fJ M z S];exact aE2 _
theorem aJ7{rs:List Rw}{sg:Nat}{l:List (List Nat)}(M:Mach rs sg)(hS:∀ z∈l,bH sg z):dEq (.list (l.map (enD rs))) (.list (l.map (enD rs)))=.ok (.bool true):=by
 have hs:SeqAt.shaped (.list (l.map (enD rs)))=true:=Sh.shaped (n:=6) (sh_lst fun x hx=>by
  obtain ⟨z,hz,rfl⟩:=List.mem_map.mp hx
  exact (aIA M (hS z hz)).1) (by decide)
 have he:(PyData.list (l.map (enD rs))).eqv (.list (l.map (enD rs)))=true:=aIS fun x hx=>by
  obtain ⟨z,hz,rfl⟩:=List.mem_map.mp hx
  exact (aIA M (hS z hz)).2
 rw[aEV hs hs,he]
theorem z5{sg:Nat}(s1:1<=sg)(s3:sg<=3):(sgT sg).cps.toList.Pairwise (· < ·):=by
 rw[rG s1 s3]
 obtain rfl|rfl|rfl:sg=1\/sg=2\/sg=3:=by omega
 all_goals decide
theorem aMZ{cs:List Nat}(z:List Nat):(∀ c∈z,c∈cs)->z∈Mb.lev cs z.length:=by
 refine zO (P:=fun z=>(∀ c∈z,c∈cs)->z∈Mb.lev cs z.length) (fun _=>List.mem_singleton.mpr rfl) (fun z c ih h=>?_) z
 rw[List.length_append,List.length_singleton]
 exact Mb.jC.mpr ⟨z,ih fun c hc=>h c (List.mem_append_left _ hc),c,h c (by simp),rfl⟩
theorem aFJ{sg:Nat}{z:List Nat}(s1:1<=sg)(s3:sg<=3)(S:bH sg z):z∈Mb.lev (sgT sg).cps.toList z.length:=aMZ z fun c hc=>by
 rw[rG s1 s3]
 obtain ⟨i,hi⟩:=(m5 s1 s3).mp (S.2 c hc)
 exact List.mem_of_getElem? hi
def Ord(x y:List Nat):Prop:=x.length < y.length\/(x.length=y.length/\List.Lex (· < ·) x y)
theorem z6{τ:Type}[DecidableEq τ]{g:τ->Nat->τ}{t0:τ}{cs:List Nat}(hcs:cs.Pairwise (· < ·)):∀ n,(Mb.f8 g t0 cs n).Pairwise Ord
 | 0=>List.pairwise_singleton _ _
 | n+1=>by
  rw[Mb.nJ]
  refine List.pairwise_append.mpr ⟨z6 hcs n,?_,fun x hx y hy=>?_⟩
  ·refine List.Pairwise.imp_of_mem (fun {a b} ha hb h=>?_) ((Mb.uI hcs (n+1)).sublist (Mb.kM (n+1)))
   exact .inr ⟨by rw[Mb.l3 ((Mb.kM (n+1)).subset ha),Mb.l3 ((Mb.kM (n+1)).subset hb)],h⟩
  ·have h1:=Mb.aBR hx
   have h2:=Mb.l3 ((Mb.kM (n+1)).subset hy)
   exact .inl (by omega)
theorem aDF{rs:List Rw}{sg:Nat}{C:List (List Nat)}(s1:1<=sg)(s3:sg<=3)(hC:C=cC rs [[]] (Mb.dP (sgT sg).cps.toList C))(hl:∀ z∈C,z.length<=300):C.Pairwise Ord:=by
 have h:=Mb.wV (z5 s1 s3) hC 300
 rw[List.filter_eq_self.mpr (fun z hz=>decide_eq_true (hl z hz))] at h
 rw[h]
 exact z6 (z5 s1 s3) 300
theorem aM0{y x:List Nat}(h:Ord y x):HT.le2 (x.length:Int) (y.length:Int) ⟨x.toArray⟩ ⟨y.toArray⟩=false:=by
 unfold HT.le2
 rcases h with h|⟨h,h2⟩
 ·rw[if_neg (by omega)];exact decide_eq_false (by omega)
 ·rw[if_pos (by omega),if_neg (fun e=>by
   have e:x.toArray=y.toArray:=congrArg Str.cps e
   have e:x=y:=by simpa using congrArg Array.toList e
   subst e
   exact Mb.vR _ h2)]
  have:(⟨y.toArray⟩:Str).cps.toList < (⟨x.toArray⟩:Str).cps.toList:=h2
  rw[decide_eq_true this];rfl
end Mc
namespace Mc
open PySem L2 PyProof.Rows Fl
noncomputable def lsB:Sg->R Fw:=(aJ (sIf (bOr (gZ (e1 asB (e1 (eB "tuple") (rV 4)))) (bOr (e1 asB (e2 dNe (e1 dLen (rV 4)) (eC (.int 2)))) (gZ (e1 asB (e1 (eB "str") (e2 dIx (rV 4) (eC (.int 0)))))))) (bP (vD (eC (.bool false)))) sNx)
 (aJ (sIf (bOr (gZ (e1 asB (e1 dAll (eL (c6 [none,some 2] (e1 a8 (e2 dIx (rV 4) (eC (.int 0)))) (stN 0) dO (e2 dIn (rV 0) (eSl dSl (eC (.str "abc")) oNo (oSo (rV 1))))))))) (e1 asB (e2 dGt (e1 dLen (e2 dIx (rV 4) (eC (.int 0)))) (eC (.int 300))))) (bP (vD (eC (.bool false)))) sNx)
 (aJ (sIf (gY (e1 asB (e2 dIsnt (rV 3) (eC .none))) (e1 asB (e2 sT (bZ (aA (e1 dLen (e2 dIx (rV 4) (eC (.int 0)))) (aA (e2 dIx (rV 4) (eC (.int 0))) aK))) (rV 3)))) (bP (vD (eC (.bool false)))) sNx)
 (aJ (bU 3 (vD (bZ (aA (e1 dLen (e2 dIx (rV 4) (eC (.int 0)))) (aA (e2 dIx (rV 4) (eC (.int 0))) aK)))))
 (sIf (gZ (e1 asB (eA (aY 2 dW (aA (vD (e2 dIx (rV 4) (eC (.int 1)))) (aA (aY 2 bK (aA (vV 0) (aA (vD (e2 dIx (rV 4) (eC (.int 0)))) aK))) aK)))))) (bP (vD (eC (.bool false)))) sNx)))))
theorem aM1:iR=(aJ (bU 3 (vD (eC .none)))
 (aJ (fX (e1 a8 (eV 1)) (stN 4) lsB)
 (bP (vD (eC (.bool true)))))):=id rfl
def ahD:Option (List Nat)->PyData
 | none=>.none
 | some y=>.tuple [.int (y.length:Int),stD y]
theorem aJ8{rs:List Rw}{sg:Nat}{z:List Nat}{p:Option (List Nat)}{l:PyData}(M:Mach rs sg)(S:bH sg z)(hz:z.length<=300)(ho:∀ y,p=some y->Ord y z) :
  lsB [some (.d (bC rs)),some (.d l),some (.d (.int (sg:Int))),some (.d (ahD p)),some (.d (enD rs z))]=.ok (.nx [some (.d (bC rs)),some (.d l),some (.d (.int (sg:Int))),some (.d (ahD (some z))),some (.d (enD rs z))]):=by
 have t1:eB "tuple" (enD rs z)=.ok (.bool true):=by unfold enD;rw[aEW];rfl
 have t2:dLen (enD rs z)=.ok (.int 2):=by unfold enD;rw[uD];rfl
 have t3:dNe (.int 2) (.int 2)=.ok (.bool false):=by rw[qL (fB 2) (fB 2),uF];rfl
 have i0:dIx (enD rs z) (.int 0)=.ok (stD z):=rfl
 have i1:dIx (enD rs z) (.int 1)=.ok (tE rs z):=rfl
 have t4:eB "str" (stD z)=.ok (.bool true):=by unfold stD;rw[aL9];rfl
 have hsl:dSl (.str "abc") none (some (sg:Int))=.ok (.str (sgT sg)):=aCX (by decide)
 have hi:a8 (stD z)=.ok (z.map fun u:Nat=>PyData.str ⟨#[u]⟩):=by
  have:=sQ (z:=⟨z.toArray⟩) (by simpa using (by omega:z.length<=16777216))
  simpa[stD] using this
 have hc:compL (stN 0) dO (e2 dIn (rV 0) (eSl dSl (eC (.str "abc")) oNo (oSo (rV 1)))) [none,some (.d (.int (sg:Int)))] (z.map fun u:Nat=>PyData.str ⟨#[u]⟩)=.ok (List.replicate z.length (.bool true)):=by
  rw[cV (d:=fun u:Nat=>PyData.str ⟨#[u]⟩) (g:=fun _=>.bool true) (xs:=z) fun u hu=>⟨_,rfl,by
   have h:dIn (.str ⟨#[u]⟩) (.str (sgT sg))=.ok (.bool true):=by
    have hk:=yD (c:=u) M.sg1 M.sg3
    rw[S.2 u hu] at hk
    show R.ok (PyData.bool (!(Builtin.Str.occurrences (sgT sg) ⟨#[u]⟩ 0 (sgT sg).length 1).isEmpty))=_
    congr 2
    unfold sgT
    simpa using hk
   simp[hsl,h]⟩,List.map_const']
 have dl:dLen (stD z)=.ok (.int (z.length:Int)):=by
  have:=uE (z:=⟨z.toArray⟩) (by rw[iK];simpa using (by omega:z.length<=16777216))
  rw[iK] at this
  simpa[stD] using this
 have hgt:¬ (300:Int) < (z.length:Int):=by omega
 have ht:=uR M S
 have hist:dW [.d (tE rs z),.d (tE rs z)]=.ok (.d (.bool true)):=by rw[fJ M z S];exact aN7 (fG M S) M.len2
 have hall:=aBO z.length
 have hle:gO (ahD p)=true\/(gO (ahD p)=false/\sT (.tuple [.int (z.length:Int),stD z]) (ahD p)=.ok (.bool false)):=by
  cases p with
  | none=>exact .inl rfl
  | some y=>
   refine .inr ⟨rfl,?_⟩
   show R.ok (PyData.bool (HT.le2 _ _ _ _))=_
   rw[aM0 (ho y rfl)]
 rw[show ahD (some z)=.tuple [.int (z.length:Int),stD z] from rfl]
 generalize hen:enD rs z=en at *
 generalize hst:stD z=sz at *
 generalize hap:ahD p=ap at *
 rcases hle with h|⟨h,h2⟩
 ·simp[lsB,t1,t2,t3,t4,i0,i1,hi,eS,hc,hall,dl,hgt,h,ht,hist]
 ·simp[lsB,t1,t2,t3,t4,i0,i1,hi,eS,hc,hall,dl,hgt,h,h2,ht,hist]
theorem aOC{rs:List Rw}{sg:Nat}{C:List (List Nat)}(M:Mach rs sg)(hC:C=cC rs [[]] (Mb.dP (sgT sg).cps.toList C))(hS:∀ z∈C,bH sg z/\z.length<=300)(hl:C.length<=300):eF [.d (bC rs),.d (.list (C.map (enD rs))),.d (.int (sg:Int))]=.ok (.d (.bool true)):=by
 have ho:=aDF M.sg1 M.sg3 hC fun z hz=>(hS z hz).2
 have hit:=fH (xs:=C.map (enD rs)) (by rw[List.length_map];omega)
 obtain ⟨ρ1,f1,u,rfl⟩:=f7 (fs:=stN 4) (fb:=lsB) (d:=enD rs) (xs:=C) (ρ:=[some (.d (bC rs)),some (.d (.list (C.map (enD rs)))),some (.d (.int (sg:Int))),some (.d (ahD none)),none])
  (fun i ρ=>∃ u,ρ=[some (.d (bC rs)),some (.d (.list (C.map (enD rs)))),some (.d (.int (sg:Int))),some (.d (ahD (if i=0 then none else C[i - 1]?))),u]) ⟨none,rfl⟩ fun i z ρ hz ⟨u,e⟩=>by
  have hzm:=List.mem_of_getElem? hz
  refine ⟨[some (.d (bC rs)),some (.d (.list (C.map (enD rs)))),some (.d (.int (sg:Int))),some (.d (ahD (if i=0 then none else C[i - 1]?))),some (.d (enD rs z))],_,by rw[e];rfl,.inl (aJ8 M (hS z hzm).1 (hS z hzm).2 fun y hy=>?_),some (.d (enD rs z)),?_⟩
  ·split at hy
   ·cases hy
   ·rename_i h0
    obtain ⟨l1,e1⟩:=List.getElem?_eq_some_iff.mp hy
    obtain ⟨l2,e2⟩:=List.getElem?_eq_some_iff.mp hz
    have:=List.pairwise_iff_getElem.mp ho (i - 1) i l1 l2 (by omega)
    rw[e1,e2] at this
    exact this
  ·rw[if_neg (by omega),Nat.add_sub_cancel,hz]
 unfold eF
 rw[aM1]
 simp only[ahD] at f1
 simp[hit,f1]
end Mc
namespace Mc
open PySem L2 PyProof.Rows Fl
@[simp] theorem aOD(i:Nat)(ρ:Sg):t5 i ρ=match ρ[i]? with
 | some (some (.m kvs))=>if kvs.length<=16777216 then .ok (.int (kvs.length:Int)) else .bad
 | some (some (.f kvs))=>if kvs.length<=16777216 then .ok (.int (kvs.length:Int)) else .bad
 | _=>.bad:=id rfl
noncomputable def clA:Sg->R Fw:=(fZ 3 (eV 5) (eC (.bool true)))
noncomputable def clC:Sg->R Fw:=(aJ (sIf (e1 asB (gM true 3 (eA (aY 2 cR (aA (vD (eL (eN (aA (eV 5) (aA (eV 7) aK))))) (aA (vD (e1 dLen (rV 0))) aK)))))) (bP (vD (eC (.bool false)))) sNx)
 (sIf (e1 asB (gM true 3 (eA (aY 2 cR (aA (vD (eL (eN (aA (eV 7) (aA (eV 5) aK))))) (aA (vD (e1 dLen (rV 0))) aK)))))) (bP (vD (eC (.bool false)))) sNx))
noncomputable def clM:Sg->R Fw:=(sFz 6 (fX (e1 a8 (eV 6)) (stN 7) clC))
theorem aM2:iS=(aJ (jY 3)
 (aJ (fX (e1 a8 (eV 1)) (stT [(stN 4),(stN 5)]) clA)
 (aJ (dD 6 (c6 [none,some 0] (e1 a8 (eSl dSl (eC (.str "abc")) oNo (oSo (rV 2)))) (stN 0) dO (eA (aY 2 bK (aA (vV 1) (aA (vV 0) aK))))))
 (aJ (fX (e1 a8 (eL (qO 3))) (stN 5) clM)
 (bP (vD (e2 dEq (t5 3) (e1 dLen (rV 1))))))))):=id rfl
section
variable{rs:List Rw}{sg:Nat}{C:List (List Nat)}{l:PyData}
theorem wQ(M:Mach rs sg)(hC:C=cC rs [[]] (Mb.dP (sgT sg).cps.toList C)){z:List Nat}(S:bH sg z):tE rs z∈C.map (tE rs):=Mb.aC3 (z5 M.sg1 M.sg3) hC (aFJ M.sg1 M.sg3 S)
theorem aM3(M:Mach rs sg)(hC:C=cC rs [[]] (Mb.dP (sgT sg).cps.toList C))(hS:∀ z∈C,bH sg z/\z.length<=300){z:List Nat}{c:Nat}(hz:bH sg z/\z.length<=300)(hc:cP sg c=true){u4:Option A}{e6:A} :
  clC [some (.d (bC rs)),some (.d l),some (.d (.int (sg:Int))),some (.m (been id (C.map (tE rs)))),u4,some (.d (tE rs z)),some e6,some (.d (cS rs c))]=.ok (.nx [some (.d (bC rs)),some (.d l),some (.d (.int (sg:Int))),some (.m (been id (C.map (tE rs)))),u4,some (.d (tE rs z)),some e6,some (.d (cS rs c))]):=by
 have S1:bH sg (z++[c]):=⟨by rw[List.length_append,List.length_singleton];omega,fun x hx=>by
  rcases List.mem_append.mp hx with h|h
  · exact hz.1.2 x h
  · rw [List.mem_singleton.mp h]; exact hc⟩
 have S2:bH sg ([c]++z):=⟨by rw[List.length_append,List.length_singleton];omega,fun x hx=>by
  rcases List.mem_append.mp hx with h|h
  · rw [List.mem_singleton.mp h]; exact hc
  · exact hz.1.2 x h⟩
 have b1:=z4 M S1
 have b2:=z4 M S2
 have hml:=sX rs
 have k1:=oH (oG M S1) (mR M fun z hz=>(hS z hz).1)
 have k2:=oH (oG M S2) (mR M fun z hz=>(hS z hz).1)
 have h1:=uK (wQ M hC S1)
 have h2:=uK (wQ M hC S2)
 unfold cS
 generalize tE rs (z++[c])=t1 at *
 generalize tE rs ([c]++z)=t2 at *
 simp[clC,hml,b1,b2,k1,k2,h1,h2]
theorem aM4(M:Mach rs sg)(hC:C=cC rs [[]] (Mb.dP (sgT sg).cps.toList C))(hS:∀ z∈C,bH sg z/\z.length<=300){z:List Nat}(hz:bH sg z/\z.length<=300){u4 u7:Option A}{e6:A}(h6:e6=.l ((sgT sg).cps.toList.map (cS rs))\/e6=.d (.list ((sgT sg).cps.toList.map (cS rs)))) :
  ∃ u7',clM [some (.d (bC rs)),some (.d l),some (.d (.int (sg:Int))),some (.m (been id (C.map (tE rs)))),u4,some (.d (tE rs z)),some e6,u7]=.ok (.nx [some (.d (bC rs)),some (.d l),some (.d (.int (sg:Int))),some (.m (been id (C.map (tE rs)))),u4,some (.d (tE rs z)),some (.d (.list ((sgT sg).cps.toList.map (cS rs)))),u7']):=by
 have hl3:=l5 M.sg1 M.sg3
 have hit:=fH (xs:=(sgT sg).cps.toList.map (cS rs)) (by rw[List.length_map];omega)
 obtain ⟨ρ',q1,u7',rfl⟩:=f7 (fs:=stN 7) (fb:=clC) (d:=cS rs) (xs:=(sgT sg).cps.toList) (ρ:=[some (.d (bC rs)),some (.d l),some (.d (.int (sg:Int))),some (.m (been id (C.map (tE rs)))),u4,some (.d (tE rs z)),some (.d (.list ((sgT sg).cps.toList.map (cS rs)))),u7])
  (fun i ρ=>∃ u7,ρ=[some (.d (bC rs)),some (.d l),some (.d (.int (sg:Int))),some (.m (been id (C.map (tE rs)))),u4,some (.d (tE rs z)),some (.d (.list ((sgT sg).cps.toList.map (cS rs)))),u7]) ⟨u7,rfl⟩ fun i c ρ hc zz0=>by
  obtain ⟨u7,e⟩:=zz0
  have hs:=kN M.sg1 M.sg3 (List.mem_of_getElem? hc)
  exact ⟨_,_,by rw[e];rfl,.inl (aM3 M hC hS hz hs),some (.d (cS rs c)),rfl⟩
 refine ⟨u7',?_⟩
 have hf:fz 6 [some (.d (bC rs)),some (.d l),some (.d (.int (sg:Int))),some (.m (been id (C.map (tE rs)))),u4,some (.d (tE rs z)),some e6,u7]=[some (.d (bC rs)),some (.d l),some (.d (.int (sg:Int))),some (.m (been id (C.map (tE rs)))),u4,some (.d (tE rs z)),some (.d (.list ((sgT sg).cps.toList.map (cS rs)))),u7]:=by
  rcases h6 with rfl|rfl<;>rfl
 unfold clM
 rw[t7,hf,jJ]
 have hE:(e1 a8 (eV 6)) [some (.d (bC rs)),some (.d l),some (.d (.int (sg:Int))),some (.m (been id (C.map (tE rs)))),u4,some (.d (tE rs z)),some (.d (.list ((sgT sg).cps.toList.map (cS rs)))),u7]=.ok ((sgT sg).cps.toList.map (cS rs)):=by simp[hit]
 rw[hE,R.bind_ok,q1]
theorem aOE(M:Mach rs sg)(hC:C=cC rs [[]] (Mb.dP (sgT sg).cps.toList C))(hS:∀ z∈C,bH sg z/\z.length<=300)(hl:C.length<=300):eG [.d (bC rs),.d (.list (C.map (enD rs))),.d (.int (sg:Int))]=.ok (.d (.bool true)):=by
 have hit:=fH (xs:=C.map (enD rs)) (by rw[List.length_map];omega)
 have hnd:(C.map (tE rs)).Nodup:=Mb.aE8 hC
 obtain ⟨ρ1,f1,u4,u5,rfl⟩:=f7 (fs:=stT [(stN 4),(stN 5)]) (fb:=clA) (d:=enD rs) (xs:=C) (ρ:=[some (.d (bC rs)),some (.d (.list (C.map (enD rs)))),some (.d (.int (sg:Int))),some (.m []),none,none,none,none])
  (fun i ρ=>∃ u4 u5,ρ=[some (.d (bC rs)),some (.d (.list (C.map (enD rs)))),some (.d (.int (sg:Int))),some (.m (been id ((C.take i).map (tE rs)))),u4,u5,none,none]) ⟨none,none,rfl⟩ fun i z ρ hz zz0=>by
  obtain ⟨u4,u5,e⟩:=zz0
  have hi:i < C.length:=by
   rcases Nat.lt_or_ge i C.length with h|h
   · exact h
   · rw [List.getElem?_eq_none h] at hz; cases hz
  have ht:C.take (i+1)=C.take i++[z]:=by rw[List.take_succ,hz];rfl
  have hzm:=List.mem_of_getElem? hz
  have hno:tE rs z∉(C.take i).map (tE rs):=fun q=>by
   have h1:(C.take (i+1)).map (tE rs)=(C.take i).map (tE rs)++[tE rs z]:=by rw[ht,List.map_append];rfl
   have h2:((C.take (i+1)).map (tE rs)).Nodup:=(List.Sublist.map _ (List.take_sublist _ _)).nodup hnd
   rw[h1,List.nodup_append] at h2
   exact h2.2.2 _ q _ (List.mem_singleton.mpr rfl) rfl
  have hk:=oH (oG M (hS z hzm).1) (mR (f:=C.take i) M fun y hy=>(hS y (List.mem_of_mem_take hy)).1)
  have hp:=zS hno
  have hln:(been id ((C.take i).map (tE rs))).length<=16777216:=by rw[uJ,List.length_map,List.length_take];omega
  refine ⟨[some (.d (bC rs)),some (.d (.list (C.map (enD rs)))),some (.d (.int (sg:Int))),some (.m (been id ((C.take i).map (tE rs)))),some (.d (stD z)),some (.d (tE rs z)),none,none],_,by rw[e];simp[enD],.inl ?_,some (.d (stD z)),some (.d (tE rs z)),rfl⟩
  rw[ht,List.map_append,List.map_singleton,<-hp]
  generalize been id ((C.take i).map (tE rs))=bb at *
  simp[clA,hk,hln]
 rw[List.take_length] at f1
 have hsl:dSl (.str "abc") none (some (sg:Int))=.ok (.str (sgT sg)):=aCX (by decide)
 have hl3:=l5 M.sg1 M.sg3
 have hi:a8 (.str (sgT sg))=.ok ((sgT sg).cps.toList.map fun u:Nat=>PyData.str ⟨#[u]⟩):=sQ (by omega)
 have hc2:=cV (fs:=stN 0) (fe:=(eA (aY 2 bK (aA (vV 1) (aA (vV 0) aK))))) (ρ0:=[none,some (.d (bC rs))]) (d:=fun u:Nat=>PyData.str ⟨#[u]⟩) (g:=cS rs) (xs:=(sgT sg).cps.toList) fun u hu=>⟨_,rfl,by
  have hs:=kN M.sg1 M.sg3 hu
  have:=uR (z:=[u]) M ⟨by simp,fun x hx=>by rw[List.mem_singleton.mp hx];exact hs⟩
  rw[show stD [u]=.str ⟨#[u]⟩ from rfl] at this
  simp[this,cS]⟩
 obtain ⟨ρ2,f2,w5,w6,w7,rfl,_⟩:=f7 (fs:=stN 5) (fb:=clM) (d:=tE rs) (xs:=C) (ρ:=[some (.d (bC rs)),some (.d (.list (C.map (enD rs)))),some (.d (.int (sg:Int))),some (.m (been id (C.map (tE rs)))),u4,u5,some (.l ((sgT sg).cps.toList.map (cS rs))),none])
  (fun i ρ=>∃ u5 e6 u7,ρ=[some (.d (bC rs)),some (.d (.list (C.map (enD rs)))),some (.d (.int (sg:Int))),some (.m (been id (C.map (tE rs)))),u4,u5,some e6,u7]/\(e6=.l ((sgT sg).cps.toList.map (cS rs))\/e6=.d (.list ((sgT sg).cps.toList.map (cS rs))))) ⟨u5,_,none,rfl,.inl rfl⟩ fun i z ρ hz zz0=>by
  obtain ⟨u5,e6,u7,e,h6⟩:=zz0
  obtain ⟨u7',q⟩:=aM4 (l:=.list (C.map (enD rs))) (u4:=u4) (u7:=u7) M hC hS (hS z (List.mem_of_getElem? hz)) h6
  exact ⟨_,_,by rw[e];rfl,.inl q,some (.d (tE rs z)),_,u7',rfl,.inr rfl⟩
 have hkeys:(been id (C.map (tE rs))).map (·.1)=C.map (tE rs):=by rw[nI];simp
 have hbl:(been id (C.map (tE rs))).length=C.length:=by rw[uJ,List.length_map]
 have hbl2:C.length<=16777216:=by omega
 have hit2:=fH (xs:=C.map (tE rs)) (by rw[List.length_map];omega)
 unfold eG
 rw[aM2]
 simp only[gD,bD,pC,jJ,j1,t6,R.bind_ok,List.length_cons,List.length_nil,Nat.reduceAdd,List.map_cons,List.map_nil,List.cons_append,List.nil_append,List.replicate,Nat.reduceSub,List.getElem?_cons_zero,List.getElem?_cons_succ,List.set_cons_zero,List.set_cons_succ,hit,f1,hU,i8,t8,lO,t9,uA,iJ,zA,hsl,hi,eS,Option.bind_none,Option.bind_some,Option.join_some,hc2,aH6,aFI,hbl,hbl2,if_true,hkeys,hit2,f2]
 simp[hbl,hbl2,eQ,gE]
end
end Mc
namespace Mc
open PySem L2 PyProof.Rows Fl
theorem aHL:∀ ns:List Int,ns.length<=63->aDD [.d (.list (ns.map .int))]=.ok (.d (.bool true)):=by
 intro ns hns
 rw[show PyData.list (ns.map .int)=lF ns from rfl]
 obtain ⟨v,hv⟩:=zI ns 0
 obtain ⟨n,hn,n1,n3⟩:∃ n:Nat,1+v % 3=(n:Int)/\1<=n/\n<=3:=⟨(1+v % 3).toNat,by omega,by omega,by omega⟩
 obtain ⟨sg,hs,s1,s3⟩:∃ sg:Nat,1+v / 3 % 3=(sg:Int)/\1<=sg/\sg<=3:=⟨(1+v / 3 % 3).toNat,by omega,by omega,by omega⟩
 obtain ⟨rs,e3,M,hl⟩:=aMH (ns:=ns) (at':=1) (n:=n) (sg:=sg) (by decide) n1 (by omega) s1 s3
 have k3:∀ y:Int,dMod (.int y) (.int 3)=.ok (.int (y % 3)):=fun y=>dS (by decide)
 have j3:∀ y:Int,dDiv (.int y) (.int 3)=.ok (.int (y / 3)):=fun y=>hZ (by decide) (by decide)
 unfold aDD aDC
 rcases both M with ⟨h,k,hk,hc⟩|⟨C,h,hc,hC,hS,hl3,hpre⟩
 ·have ha:=aHK h
  have hgt:(300:Int) < (k:Int):=by omega
  simp[hv,k3,j3,hn,hs,e3,hc,ha,hgt]
  try rfl
 ·have ha:=aHJ h
  have hgt:¬ (300:Int) < (C.length:Int):=by omega
  have hls:=aOC M hC hS hl3
  have hcl:=aOE M hC hS hl3
  have heq:=aJ7 M fun z hz=>(hS z hz).1
  have hit:gL "list" "list"=true:=by decide
  have hll:dLen (.list (C.map (enD rs)))=.ok (.int (C.length:Int)):=by rw[eQ,List.length_map]
  have hne:dNe (.int (C.length:Int)) (.int (C.length:Int))=.ok (.bool false):=by rw[qL (fB _) (fB _),uF];simp
  obtain ⟨t,ht⟩:=hpre
  have hix:dIx (.list (C.map (enD rs))) (.int 0)=.ok (enD rs []):=pD (iD (j:=0) (by rw[<-ht];rfl))
  have hi0:dIx (enD rs []) (.int 0)=.ok (.str ""):=rfl
  have hn0:dNe (.str "") (.str "")=.ok (.bool false):=by
   have hs:SeqAt.shaped (.str "")=true:=Sh.shaped (n:=1) (aD3 1 (by decide +kernel)) (by decide)
   rw[qL hs hs,aAR];simp
  have hemp:C≠[]:=by rw[<-ht];simp
  have hat:rH (.d (.bool true))=true:=rfl
  simp[hv,k3,j3,hn,hs,e3,hc,ha,hgt,hit,hll,hne,hix,hi0,hn0,hls,hcl,hat,h,heq,hemp]
  try rfl
end Mc
namespace Mc
open PySem L2 PyProof.Rows Fl
section
variable{P:Program}{w:World}{K:Frag}{mg:Str->Option Value}{base:Heap}{TH:Hp}
theorem uS:FnScope ["self","at"] ["self","at"] (aO (kA (top 2) 0)):=by constructor<;>first|rfl|decide +kernel
theorem uT{f W C:Addr}{fd:FuncData}(F:Fun K "__init__" "NoStrip.__init__" (kA (top 2) 0) f fd)(c:SX.ExcC K W C)(n1:PySem.W.findIn K (.ref C) "at"=some none) :
  FnOk P w K mg base CX0 1 f fd ["self","at"] (spI C ["at"]):=by
 refine F.ok uS (fun vs H Q E h=>?_) (fun cdv A outer s H vs Q E hr h=>?_)
 ·obtain ⟨e,xs,rfl,hl,_⟩:=h
  rw[List.length_cons,hl];rfl
 ·obtain ⟨e,xs,rfl,hl,he,q⟩:=h
  obtain ⟨x,rfl⟩:∃ x,xs=[x]:=Mc.bn1 (P:=fun xs=>∃ x,xs=[x]) (fun x=>⟨x,rfl⟩) xs hl
  refine ⟨_,L2.aQ (aIR (pv 0) (pv 1) rfl),?_⟩
  refine ⟨_,rfl,_,rfl,e,W,C,rfl,c,n1,.inl ⟨he,fun d hd hne=>?_⟩⟩
  exact q d hd hne
def j6 (K : Frag) (mg : Str -> Option Value) : Prop := ∃ W C, SX.ExcC K W C /\ mg "NoStrip" = some (.ref C) /\ PySem.W.findIn K (.ref C) "at" = some none /\
      ∃ fI fdI, Fun K "__init__" "NoStrip.__init__" (kA (top 2) 0) fI fdI /\ iC K fdI ["self", "at"] [] /\ PySem.W.findIn K (.ref C) "__init__" = some (some (.ref fI)) /\ PySem.W.typeIn K (.ref fI) = some (.type "function")
theorem vW(h:j6 K mg):∃ W C,ErrAt P w K mg base "NoStrip" ["at"] W C:=by
 obtain ⟨W,C,er,m,n1,fI,fdI,FI,bI,aI,tI⟩:=h
 have I:=uT (P:=P) (w:=w) (mg:=mg) (base:=base) FI er n1
 exact ⟨W,C,er,m,fun f hf=>by rw[List.mem_singleton.mp hf];exact n1,fI,fdI,I,aI,tI,bI⟩
theorem aJ9(T:Txt w K mg)(Er_NoStrip:j6 K mg)(Erp_TooMany:∃ W C,ErrP K mg "TooMany" W C)(J_TooMany_ValueError:y8 K mg "TooMany" "ValueError" true)(I_TooMany_WayError:Is1 K mg "TooMany" "WayError" true)(I_TooMany_NoStrip:Is1 K mg "TooMany" "NoStrip" false)(I_TooMany_NotLike:Is1 K mg "TooMany" "NotLike" false)(D7:DefAt K mg "signs_of" (top 7) ["machine"])(D8:DefAt K mg "cells_of" (top 8) ["machine","number"])(D9:DefAt K mg "checked_by" (top 9) ["signs","strip"])(D10:DefAt K mg "checked" (top 10) ["machine","strip"])(D12:DefAt K mg "still" (top 12) ["rooms"])(D13:DefAt K mg "sign_table" (top 13) ["machine","sign"])(D14:DefAt K mg "gone_out" (top 14) ["one","other","thing","inward"])(D15:DefAt K mg "behind" (top 15) ["one","other"])(D18:DefAt K mg "gathered" (top 18) ["machine","most"])(D19:DefAt K mg "all_tables" (top 19) ["machine"])(D21:DefAt K mg "_law_whole" (top 21) ["_law_found"])(D22:DefAt K mg "_law_is_thing" (top 22) ["_law_found"])(D23:DefAt K mg "_law_is_table" (top 23) ["_law_found","_law_due"])(D24:DefAt K mg "_law_cell" (top 24) ["_law_script","_law_k"])(D25:DefAt K mg "_law_end" (top 25) ["_law_number","_law_rooms"])(D26:DefAt K mg "_law_digit_row" (top 26) ["_law_number","_law_rooms","_law_signs"])(D27:DefAt K mg "_law_mixed_row" (top 27) ["_law_number","_law_rooms","_law_signs"])(D28:DefAt K mg "_law_machine" (top 28) ["_law_script","_law_at","_law_rooms","_law_signs"])(D29:DefAt K mg "_law_within" (top 29) ["_law_machine_here","_law_strip","_law_place","_law_room"])(D30:DefAt K mg "_law_table" (top 30) ["_law_machine_here","_law_strip"])(D31:DefAt K mg "_law_out" (top 31) ["_law_tables","_law_at","_law_way","_law_room"])(D32:DefAt K mg "_law_boxes" (top 32) ["_law_tables","_law_rooms"])(D33:DefAt K mg "_law_counted" (top 33) ["_law_machine_here","_law_signs","_law_most"])(D34:DefAt K mg "_law_asked" (top 34) ["_law_machine_here"])(D35:DefAt K mg "_law_listed" (top 35) ["_law_machine_here","_law_found","_law_signs"])(D36:DefAt K mg "_law_closed" (top 36) ["_law_machine_here","_law_found","_law_signs"]){fL:Addr}{fdL:FuncData}(FL:Fun K "law" "law" (top 37) fL fdL):FnOk P w K mg base (CXe P w) 9 fL fdL ["_law_script"] (xL K TH):=by
 obtain ⟨W_NoStrip,C_NoStrip,er_NoStrip⟩:=vW (P:=P) (w:=w) (base:=base) Er_NoStrip
 obtain ⟨Wp_TooMany,Cp_TooMany,erp_TooMany⟩:=Erp_TooMany
 have c_signs_of:=@aAF P w K mg base TH T D7
 have c_cells_of:=@aAG P w K mg base TH T D8
 have c_checked_by:=wY (P:=P) (w:=w) (base:=base) (TH:=TH) T D9 er_NoStrip
 have c_checked:=@aDE P w K mg base TH T D10 c_checked_by c_signs_of
 have c_still:=@aHH P w K mg base TH T D12
 have c_sign_table:=@wZ P w K mg base TH T D13 c_checked c_cells_of
 have c_gone_out:=@aAH P w K mg base TH T D14
 have c_behind:=@aFE P w K mg base TH T D15 c_gone_out
 have c_gathered:=aAI (P:=P) (w:=w) (base:=base) (TH:=TH) T D18 c_signs_of c_sign_table c_still c_behind erp_TooMany
 have c_all_tables:=@w4 P w K mg base TH T D19 c_gathered
 have c__law_whole:=@w8 P w K mg base TH T D21
 have c__law_is_thing:=@sU P w K mg base TH T D22 c__law_whole
 have c__law_is_table:=@sV P w K mg base TH T D23 c__law_is_thing
 have c__law_cell:=@zY P w K mg base TH T D24
 have c__law_end:=@aAJ P w K mg base TH T D25
 have c__law_digit_row:=@rK P w K mg base TH T D26
 have c__law_mixed_row:=@rL P w K mg base TH T D27 c__law_end
 have c__law_machine:=@uP P w K mg base TH T D28 c__law_digit_row c__law_mixed_row c__law_cell
 have c__law_within:=@vS P w K mg base TH T D29
 have c__law_table:=@w9 P w K mg base TH T D30 c__law_within
 have c__law_out:=@aAK P w K mg base TH T D31
 have c__law_boxes:=@xA P w K mg base TH T D32 c__law_out
 have c__law_counted:=@uQ P w K mg base TH T D33 c__law_table c__law_boxes
 have c__law_asked:=xB (P:=P) (w:=w) (base:=base) (TH:=TH) T D34 c_all_tables erp_TooMany J_TooMany_ValueError I_TooMany_WayError I_TooMany_NoStrip I_TooMany_NotLike
 have c__law_listed:=@vT P w K mg base TH T D35 c__law_is_table c__law_table
 have c__law_closed:=@vU P w K mg base TH T D36 c__law_table c__law_boxes
 exact aLR (aMR (P:=P) (w:=w) (base:=base) (TH:=TH) T FL c__law_cell c__law_machine c__law_counted c__law_asked c__law_closed c__law_listed c_all_tables) aHL
end
section
variable{w:World}{K:Frag}{h:Heap}{mg:Str->Option Value}
theorem aM5(X:K.In h)(G:h.Ns mainGlobals mg){t_MOST_TABLES:Nat}{t_SIGNS:Nat}(z_ValueError:PySem.W.nsIn K mainGlobals "ValueError"=some none)(z_all:PySem.W.nsIn K mainGlobals "all"=some none)(z_bool:PySem.W.nsIn K mainGlobals "bool"=some none)(z_enumerate:PySem.W.nsIn K mainGlobals "enumerate"=some none)(z_int:PySem.W.nsIn K mainGlobals "int"=some none)(z_isinstance:PySem.W.nsIn K mainGlobals "isinstance"=some none)(z_len:PySem.W.nsIn K mainGlobals "len"=some none)(z_list:PySem.W.nsIn K mainGlobals "list"=some none)(z_range:PySem.W.nsIn K mainGlobals "range"=some none)(z_str:PySem.W.nsIn K mainGlobals "str"=some none)(z_tuple:PySem.W.nsIn K mainGlobals "tuple"=some none)(s_MOST_TABLES:PySem.W.nsIn K mainGlobals "MOST_TABLES"=some (some (.int 300 t_MOST_TABLES)))(s_SIGNS:PySem.W.nsIn K mainGlobals "SIGNS"=some (some (.str "abc" t_SIGNS))):Txt w K mg:=⟨PySem.W.mg_none_of X G z_ValueError,PySem.W.mg_none_of X G z_all,PySem.W.mg_none_of X G z_bool,PySem.W.mg_none_of X G z_enumerate,PySem.W.mg_none_of X G z_int,PySem.W.mg_none_of X G z_isinstance,PySem.W.mg_none_of X G z_len,PySem.W.mg_none_of X G z_list,PySem.W.mg_none_of X G z_range,PySem.W.mg_none_of X G z_str,PySem.W.mg_none_of X G z_tuple,⟨t_MOST_TABLES,PySem.W.mg_of X G s_MOST_TABLES⟩,⟨t_SIGNS,PySem.W.mg_of X G s_SIGNS⟩⟩
theorem xC(X:K.In h)(G:h.Ns mainGlobals mg){W C fI NC:Addr}{bsC subC:List Value}{nmC qC:Str}{abC:Bool}{snC:List Str}{colC:Option Bool}{ddC:Option Addr}{c0 c1 c2 c3 c5:Option Value}
  {oc:Value} {od an:Option Addr} {osl:Array (Option Value)} {kV doc pm cdv ct:Value}
  (m:PySem.W.nsIn K mainGlobals "NoStrip"=some (some (.ref C)))
  (e1:K.lookup C=some (excClassObj nmC qC C NC bsC (.ref W::SX.fW) true snC subC abC colC ddC c0 c1 c2 c3 c5 "ValueError.__new__"))
  (e2:PySem.W.findIn K (.ref C) "__setattr__"=some (some (.builtin "object.__setattr__"))) (e3:PySem.W.findIn K (.ref C) "__getattribute__"=some (some (.builtin "BaseException.__getattribute__"))) (e4:PySem.W.findIn K (.ref C) "__getattr__"=some none) (e5:PySem.W.findIn K (.ref C) "__class__"=some (some (.builtin "object.__class__")))
  (e6:PySem.W.specialIn K (.builtin "object.__class__") "__get__"=some (some (.builtin "getset_descriptor.__get__"))) (e7:PySem.W.takesIn K (.builtin "object.__class__")=some true) (e8:PySem.W.keepIn K (.ref C)=true)
  (p1:PySem.W.findIn K (.ref C) "at"=some none)
  (i1:PySem.W.findIn K (.ref C) "__init__"=some (some (.ref fI))) (i2:K.lookup fI=some ⟨oc,od,.func (PySem.W.fnOf "__init__" "NoStrip.__init__" (gH (kA (top 2) 0)) (dH (kA (top 2) 0)) (aO (kA (top 2) 0)) .none kV doc pm an cdv ct),osl⟩) (i3:PySem.W.codeIn K cdv "NoStrip.__init__"=true) (i4:PySem.W.keepIn K (.ref fI)=true) (i5:PySem.W.typeIn K (.ref fI)=some (.type "function")):j6 K mg:=by
 have FI:=xY (st:=kA (top 2) 0) i2 i3 i4
 exact ⟨W,C,aAS e1 e2 e3 e4 e5 e6 e7 e8,PySem.W.mg_of X G m,p1,fI,_,FI,FI.binds (ps:=["self","at"]) (fun _ _ _ _ _ _=>Mc.bn2 fun _ _=>rfl),i1,i5⟩
theorem aM6{x:Str}(X:K.In h)(G:h.Ns mainGlobals mg){W C NC:Addr}{bsC subC:List Value}{nmC qC:Str}{abC:Bool}{snC:List Str}{colC:Option Bool}{ddC:Option Addr}{c0 c1 c2 c3 c5:Option Value}{wc:Value}{wd:Option Addr}{cd:ClassData}{wsl:Array (Option Value)}
  (m:PySem.W.nsIn K mainGlobals x=some (some (.ref C)))
  (e1:K.lookup C=some (excClassObj nmC qC C NC bsC (.ref W::SX.fW) true snC subC abC colC ddC c0 c1 c2 c3 c5 "ValueError.__new__"))
  (e2:PySem.W.findIn K (.ref C) "__setattr__"=some (some (.builtin "object.__setattr__"))) (e3:PySem.W.findIn K (.ref C) "__getattribute__"=some (some (.builtin "BaseException.__getattribute__"))) (e4:PySem.W.findIn K (.ref C) "__getattr__"=some none) (e5:PySem.W.findIn K (.ref C) "__class__"=some (some (.builtin "object.__class__")))
  (e6:PySem.W.specialIn K (.builtin "object.__class__") "__get__"=some (some (.builtin "getset_descriptor.__get__"))) (e7:PySem.W.takesIn K (.builtin "object.__class__")=some true) (e8:PySem.W.keepIn K (.ref C)=true)
  (n1:PySem.W.nsOkIn K NC=true) (n2:PySem.W.nsIn K NC "__init__"=some none) (w1:K.lookup W=some ⟨wc,wd,.cls cd,wsl⟩) (w2:PySem.W.nsOkIn K cd.ns=true) (w3:PySem.W.nsIn K cd.ns "__init__"=some none):∃ W C,ErrP K mg x W C:=
 ⟨W,C,aAS e1 e2 e3 e4 e5 e6 e7 e8,PySem.W.mg_of X G m,⟨_,_,NC,_,_,_,_,_,_,_,_,_,_,_,e1,n1,n2⟩,⟨_,_,cd,_,w1,w2,w3⟩⟩
theorem z7{nm q:Str}{b:Bool}(X:K.In h)(G:h.Ns mainGlobals mg){C D:Addr}(a:PySem.W.nsIn K mainGlobals q=some (some (.ref D)))(m:PySem.W.nsIn K mainGlobals nm=some (some (.ref C)))(k:PySem.W.kitOne K (.ref C) (.ref D)=some b):Is1 K mg nm q b:=⟨D,C,PySem.W.mg_of X G a,PySem.W.mg_of X G m,k⟩
theorem aKA{nm:Str}{q:String}{b:Bool}(X:K.In h)(G:h.Ns mainGlobals mg){C:Addr}(m:PySem.W.nsIn K mainGlobals nm=some (some (.ref C)))(k:PySem.W.kitOne K (.ref C) (.type q)=some b):y8 K mg nm q b:=⟨C,PySem.W.mg_of X G m,k⟩
theorem aM7{fa f:Addr}{oc:Value}{od an:Option Addr}{osl:Array (Option Value)}{kV doc pm cdv ct:Value}(X:K.In h)(G:h.Ns mainGlobals mg)(hmg:mg "law"=some (.ref fa))(a:PySem.W.nsIn K mainGlobals "law"=some (some (.ref f)))(l:K.lookup f=some ⟨oc,od,.func (PySem.W.fnOf "law" "law" (gH (top 37)) (dH (top 37)) (aO (top 37)) .none kV doc pm an cdv ct),osl⟩)
  (c:PySem.W.codeIn K cdv "law"=true) (k:PySem.W.keepIn K (.ref f)=true):∃ fd,Fun K "law" "law" (top 37) fa fd/\∀ (s:Shared) (u:Value),BindsTo s fd ⟨[u],[]⟩ [("_law_script",u)]:=by
 have e:=hmg.symm.trans (PySem.W.mg_of X G a)
 cases e
 exact ⟨_,xY (st:=top 37) l c k,fun s u=>.of_eq rfl⟩
end
end Mc
open PySem PySem.W PyProof.Rows
set_option maxRecDepth 100000 in
set_option maxHeartbeats 0 in
theorem PySem.Challenge.cw_striproam_k16_all_tables_holds : PySem.Challenge.rw_striproam_k16_all_tables.Holds := by
 w_on;o_law;k_head;(case hw=>w_witness2)
 k_fill
 refine Fl.aLS (l:=PySem.Challenge.rw_striproam_k16_all_tables) (k:=9) (x:="_law_script") rfl rfl ⟨rfl,by decide,by decide⟩ (fun w h Y=>PySem.W.kIn_of Y) ?F
 case F=>
  intro w mg fa h KX G hmg
  have D7:L2.DefAt (L2.KOf KX) mg "signs_of" (Mc.top 7) ["machine"]:=by dsimp only[L2.KOf];refine' Mc.bX KX G ?a ?l ?c ?k ?b;(case a=>k_is);(case l=>k_is);(case c=>k_is);(case k=>k_is);(case b=>exact fun _ _ _ _ _ _=>Mc.bn1 fun _=>rfl)
  have D8:L2.DefAt (L2.KOf KX) mg "cells_of" (Mc.top 8) ["machine","number"]:=by dsimp only[L2.KOf];refine' Mc.bX KX G ?a ?l ?c ?k ?b;(case a=>k_is);(case l=>k_is);(case c=>k_is);(case k=>k_is);(case b=>exact fun _ _ _ _ _ _=>Mc.bn2 fun _ _=>rfl)
  have D9:L2.DefAt (L2.KOf KX) mg "checked_by" (Mc.top 9) ["signs","strip"]:=by dsimp only[L2.KOf];refine' Mc.bX KX G ?a ?l ?c ?k ?b;(case a=>k_is);(case l=>k_is);(case c=>k_is);(case k=>k_is);(case b=>exact fun _ _ _ _ _ _=>Mc.bn2 fun _ _=>rfl)
  have D10:L2.DefAt (L2.KOf KX) mg "checked" (Mc.top 10) ["machine","strip"]:=by dsimp only[L2.KOf];refine' Mc.bX KX G ?a ?l ?c ?k ?b;(case a=>k_is);(case l=>k_is);(case c=>k_is);(case k=>k_is);(case b=>exact fun _ _ _ _ _ _=>Mc.bn2 fun _ _=>rfl)
  have D12:L2.DefAt (L2.KOf KX) mg "still" (Mc.top 12) ["rooms"]:=by dsimp only[L2.KOf];refine' Mc.bX KX G ?a ?l ?c ?k ?b;(case a=>k_is);(case l=>k_is);(case c=>k_is);(case k=>k_is);(case b=>exact fun _ _ _ _ _ _=>Mc.bn1 fun _=>rfl)
  have D13:L2.DefAt (L2.KOf KX) mg "sign_table" (Mc.top 13) ["machine","sign"]:=by dsimp only[L2.KOf];refine' Mc.bX KX G ?a ?l ?c ?k ?b;(case a=>k_is);(case l=>k_is);(case c=>k_is);(case k=>k_is);(case b=>exact fun _ _ _ _ _ _=>Mc.bn2 fun _ _=>rfl)
  have D14:L2.DefAt (L2.KOf KX) mg "gone_out" (Mc.top 14) ["one","other","thing","inward"]:=by dsimp only[L2.KOf];refine' Mc.bX KX G ?a ?l ?c ?k ?b;(case a=>k_is);(case l=>k_is);(case c=>k_is);(case k=>k_is);(case b=>exact fun _ _ _ _ _ _=>Mc.bn4 fun _ _ _ _=>rfl)
  have D15:L2.DefAt (L2.KOf KX) mg "behind" (Mc.top 15) ["one","other"]:=by dsimp only[L2.KOf];refine' Mc.bX KX G ?a ?l ?c ?k ?b;(case a=>k_is);(case l=>k_is);(case c=>k_is);(case k=>k_is);(case b=>exact fun _ _ _ _ _ _=>Mc.bn2 fun _ _=>rfl)
  have D18:L2.DefAt (L2.KOf KX) mg "gathered" (Mc.top 18) ["machine","most"]:=by dsimp only[L2.KOf];refine' Mc.bX KX G ?a ?l ?c ?k ?b;(case a=>k_is);(case l=>k_is);(case c=>k_is);(case k=>k_is);(case b=>exact fun _ _ _ _ _ _=>Mc.bn2 fun _ _=>rfl)
  have D19:L2.DefAt (L2.KOf KX) mg "all_tables" (Mc.top 19) ["machine"]:=by dsimp only[L2.KOf];refine' Mc.bX KX G ?a ?l ?c ?k ?b;(case a=>k_is);(case l=>k_is);(case c=>k_is);(case k=>k_is);(case b=>exact fun _ _ _ _ _ _=>Mc.bn1 fun _=>rfl)
  have D21:L2.DefAt (L2.KOf KX) mg "_law_whole" (Mc.top 21) ["_law_found"]:=by dsimp only[L2.KOf];refine' Mc.bX KX G ?a ?l ?c ?k ?b;(case a=>k_is);(case l=>k_is);(case c=>k_is);(case k=>k_is);(case b=>exact fun _ _ _ _ _ _=>Mc.bn1 fun _=>rfl)
  have D22:L2.DefAt (L2.KOf KX) mg "_law_is_thing" (Mc.top 22) ["_law_found"]:=by dsimp only[L2.KOf];refine' Mc.bX KX G ?a ?l ?c ?k ?b;(case a=>k_is);(case l=>k_is);(case c=>k_is);(case k=>k_is);(case b=>exact fun _ _ _ _ _ _=>Mc.bn1 fun _=>rfl)
  have D23:L2.DefAt (L2.KOf KX) mg "_law_is_table" (Mc.top 23) ["_law_found","_law_due"]:=by dsimp only[L2.KOf];refine' Mc.bX KX G ?a ?l ?c ?k ?b;(case a=>k_is);(case l=>k_is);(case c=>k_is);(case k=>k_is);(case b=>exact fun _ _ _ _ _ _=>Mc.bn2 fun _ _=>rfl)
  have D24:L2.DefAt (L2.KOf KX) mg "_law_cell" (Mc.top 24) ["_law_script","_law_k"]:=by dsimp only[L2.KOf];refine' Mc.bX KX G ?a ?l ?c ?k ?b;(case a=>k_is);(case l=>k_is);(case c=>k_is);(case k=>k_is);(case b=>exact fun _ _ _ _ _ _=>Mc.bn2 fun _ _=>rfl)
  have D25:L2.DefAt (L2.KOf KX) mg "_law_end" (Mc.top 25) ["_law_number","_law_rooms"]:=by dsimp only[L2.KOf];refine' Mc.bX KX G ?a ?l ?c ?k ?b;(case a=>k_is);(case l=>k_is);(case c=>k_is);(case k=>k_is);(case b=>exact fun _ _ _ _ _ _=>Mc.bn2 fun _ _=>rfl)
  have D26:L2.DefAt (L2.KOf KX) mg "_law_digit_row" (Mc.top 26) ["_law_number","_law_rooms","_law_signs"]:=by dsimp only[L2.KOf];refine' Mc.bX KX G ?a ?l ?c ?k ?b;(case a=>k_is);(case l=>k_is);(case c=>k_is);(case k=>k_is);(case b=>exact fun _ _ _ _ _ _=>Mc.bn3 fun _ _ _=>rfl)
  have D27:L2.DefAt (L2.KOf KX) mg "_law_mixed_row" (Mc.top 27) ["_law_number","_law_rooms","_law_signs"]:=by dsimp only[L2.KOf];refine' Mc.bX KX G ?a ?l ?c ?k ?b;(case a=>k_is);(case l=>k_is);(case c=>k_is);(case k=>k_is);(case b=>exact fun _ _ _ _ _ _=>Mc.bn3 fun _ _ _=>rfl)
  have D28:L2.DefAt (L2.KOf KX) mg "_law_machine" (Mc.top 28) ["_law_script","_law_at","_law_rooms","_law_signs"]:=by dsimp only[L2.KOf];refine' Mc.bX KX G ?a ?l ?c ?k ?b;(case a=>k_is);(case l=>k_is);(case c=>k_is);(case k=>k_is);(case b=>exact fun _ _ _ _ _ _=>Mc.bn4 fun _ _ _ _=>rfl)
  have D29:L2.DefAt (L2.KOf KX) mg "_law_within" (Mc.top 29) ["_law_machine_here","_law_strip","_law_place","_law_room"]:=by dsimp only[L2.KOf];refine' Mc.bX KX G ?a ?l ?c ?k ?b;(case a=>k_is);(case l=>k_is);(case c=>k_is);(case k=>k_is);(case b=>exact fun _ _ _ _ _ _=>Mc.bn4 fun _ _ _ _=>rfl)
  have D30:L2.DefAt (L2.KOf KX) mg "_law_table" (Mc.top 30) ["_law_machine_here","_law_strip"]:=by dsimp only[L2.KOf];refine' Mc.bX KX G ?a ?l ?c ?k ?b;(case a=>k_is);(case l=>k_is);(case c=>k_is);(case k=>k_is);(case b=>exact fun _ _ _ _ _ _=>Mc.bn2 fun _ _=>rfl)
  have D31:L2.DefAt (L2.KOf KX) mg "_law_out" (Mc.top 31) ["_law_tables","_law_at","_law_way","_law_room"]:=by dsimp only[L2.KOf];refine' Mc.bX KX G ?a ?l ?c ?k ?b;(case a=>k_is);(case l=>k_is);(case c=>k_is);(case k=>k_is);(case b=>exact fun _ _ _ _ _ _=>Mc.bn4 fun _ _ _ _=>rfl)
  have D32:L2.DefAt (L2.KOf KX) mg "_law_boxes" (Mc.top 32) ["_law_tables","_law_rooms"]:=by dsimp only[L2.KOf];refine' Mc.bX KX G ?a ?l ?c ?k ?b;(case a=>k_is);(case l=>k_is);(case c=>k_is);(case k=>k_is);(case b=>exact fun _ _ _ _ _ _=>Mc.bn2 fun _ _=>rfl)
  have D33:L2.DefAt (L2.KOf KX) mg "_law_counted" (Mc.top 33) ["_law_machine_here","_law_signs","_law_most"]:=by dsimp only[L2.KOf];refine' Mc.bX KX G ?a ?l ?c ?k ?b;(case a=>k_is);(case l=>k_is);(case c=>k_is);(case k=>k_is);(case b=>exact fun _ _ _ _ _ _=>Mc.bn3 fun _ _ _=>rfl)
  have D34:L2.DefAt (L2.KOf KX) mg "_law_asked" (Mc.top 34) ["_law_machine_here"]:=by dsimp only[L2.KOf];refine' Mc.bX KX G ?a ?l ?c ?k ?b;(case a=>k_is);(case l=>k_is);(case c=>k_is);(case k=>k_is);(case b=>exact fun _ _ _ _ _ _=>Mc.bn1 fun _=>rfl)
  have D35:L2.DefAt (L2.KOf KX) mg "_law_listed" (Mc.top 35) ["_law_machine_here","_law_found","_law_signs"]:=by dsimp only[L2.KOf];refine' Mc.bX KX G ?a ?l ?c ?k ?b;(case a=>k_is);(case l=>k_is);(case c=>k_is);(case k=>k_is);(case b=>exact fun _ _ _ _ _ _=>Mc.bn3 fun _ _ _=>rfl)
  have D36:L2.DefAt (L2.KOf KX) mg "_law_closed" (Mc.top 36) ["_law_machine_here","_law_found","_law_signs"]:=by dsimp only[L2.KOf];refine' Mc.bX KX G ?a ?l ?c ?k ?b;(case a=>k_is);(case l=>k_is);(case c=>k_is);(case k=>k_is);(case b=>exact fun _ _ _ _ _ _=>Mc.bn3 fun _ _ _=>rfl)
  have T:Mc.Txt w (L2.KOf KX) mg:=by
   dsimp only[L2.KOf]
   refine' Mc.aM5 KX G ?z_ValueError ?z_all ?z_bool ?z_enumerate ?z_int ?z_isinstance ?z_len ?z_list ?z_range ?z_str ?z_tuple ?s_MOST_TABLES ?s_SIGNS
   (case z_ValueError=>k_is);(case z_all=>k_is);(case z_bool=>k_is);(case z_enumerate=>k_is);(case z_int=>k_is);(case z_isinstance=>k_is);(case z_len=>k_is);(case z_list=>k_is);(case z_range=>k_is);(case z_str=>k_is);(case z_tuple=>k_is);(case s_MOST_TABLES=>k_is);(case s_SIGNS=>k_is)
  have E_NoStrip:Mc.j6 (L2.KOf KX) mg:=by
   dsimp only[L2.KOf]
   refine' Mc.xC KX G ?m ?e1 ?e2 ?e3 ?e4 ?e5 ?e6 ?e7 ?e8 ?p1 ?i1 ?i2 ?i3 ?i4 ?i5
   (case m=>k_is)
   (case e1=>k_is)
   (case e2=>k_is);(case e3=>k_is);(case e4=>k_is);(case e5=>k_is);(case e6=>k_is);(case e7=>k_is);(case e8=>k_is)
   (case p1=>k_is);(case i1=>k_is);(case i2=>k_is);(case i3=>k_is);(case i4=>k_is);(case i5=>k_is)
  have Ep_TooMany:∃ W C,L2.ErrP (L2.KOf KX) mg "TooMany" W C:=by
   dsimp only[L2.KOf]
   refine' Mc.aM6 KX G ?m ?e1 ?e2 ?e3 ?e4 ?e5 ?e6 ?e7 ?e8 ?n1 ?n2 ?w1 ?w2 ?w3
   (case m=>k_is)
   (case e1=>k_is)
   (case e2=>k_is);(case e3=>k_is);(case e4=>k_is);(case e5=>k_is);(case e6=>k_is);(case e7=>k_is);(case e8=>k_is)
   (case n2=>k_is);(case w1=>k_is);(case w3=>k_is)
   (case n1=>refine' L2.aBA ?l ?h;(case l=>k_is);(case h=>rfl))
   (case w2=>refine' L2.aBA ?l ?h;(case l=>k_is);(case h=>rfl))
  have J_TooMany_ValueError:Fl.y8 (L2.KOf KX) mg "TooMany" "ValueError" true:=by
   dsimp only[L2.KOf]
   refine' Mc.aKA KX G ?m ?k
   (case m=>k_is)
   (case k=>refine' Mc.aLD (by decide) (by decide) ?c;(case c=>k_is))
  have I_TooMany_WayError:Fl.Is1 (L2.KOf KX) mg "TooMany" "WayError" true:=by
   dsimp only[L2.KOf]
   refine' Mc.z7 KX G ?a ?m ?k
   (case a=>k_is);(case m=>k_is)
   (case k=>refine' Mc.u8 (by decide) ?a ?b ?c;(case a=>k_is);(case b=>k_is);(case c=>k_is))
  have I_TooMany_NoStrip:Fl.Is1 (L2.KOf KX) mg "TooMany" "NoStrip" false:=by
   dsimp only[L2.KOf]
   refine' Mc.z7 KX G ?a ?m ?k
   (case a=>k_is);(case m=>k_is)
   (case k=>refine' Mc.u8 (by decide) ?a ?b ?c;(case a=>k_is);(case b=>k_is);(case c=>k_is))
  have I_TooMany_NotLike:Fl.Is1 (L2.KOf KX) mg "TooMany" "NotLike" false:=by
   dsimp only[L2.KOf]
   refine' Mc.z7 KX G ?a ?m ?k
   (case a=>k_is);(case m=>k_is)
   (case k=>refine' Mc.u8 (by decide) ?a ?b ?c;(case a=>k_is);(case b=>k_is);(case c=>k_is))
  have LL:∃ fd,L2.Fun (L2.KOf KX) "law" "law" (Mc.top 37) fa fd/\∀ (s:Shared) (u:Value),BindsTo s fd ⟨[u],[]⟩ [("_law_script",u)]:=by
   dsimp only[L2.KOf]
   refine' Mc.aM7 KX G hmg ?a4 ?l4 ?c4 ?k4
   (case a4=>k_is);(case l4=>k_is);(case c4=>k_is);(case k4=>k_is)
  obtain ⟨fd,FL,hb⟩:=LL
  exact ⟨fd,hb,fun base _ _=>Mc.aJ9 T E_NoStrip Ep_TooMany J_TooMany_ValueError I_TooMany_WayError I_TooMany_NoStrip I_TooMany_NotLike D7 D8 D9 D10 D12 D13 D14 D15 D18 D19 D21 D22 D23 D24 D25 D26 D27 D28 D29 D30 D31 D32 D33 D34 D35 D36 FL⟩
end
