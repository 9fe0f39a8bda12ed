import PyProof.Rows.All
import Wide.All
import OpenK.AllK
import Wide.FinOn
import Lean
import PyProof.EqAt
import PyProof.EqKinds
import PyProof.TupleCall
import PyProof.ExcInit
import PyProof.InstStoreFacts
import PyProof.StrLawsFirst
import PyProof.StrLawsIn
import KE.KLam
import PyProof.ListMulRoad
import PyProof.Rows.ListMul
import PyProof.ZipIter
import PyProof.Draws
import PyProof.ListStr
import PyProof.DictWalks
import PyProof.DictTruth
import PyProof.ListRange
import PyProof.StrLaws
import PyProof.StrLawsIdx
import PySem.Challenge.RW_striproam_k24_least_by_parting
set_option linter.all false
set_option maxRecDepth 100000
set_option maxHeartbeats 4000000
set_option Elab.async false
set_option linter.all false
set_option maxRecDepth 100000
set_option genSizeOf false
theorem Mc.bn1{α:Type}{P:List α->Prop}(h:∀ a,P [a]):∀ us:List α,us.length=1->P us
 | [a],_=>h a
theorem Mc.bn2{α:Type}{P:List α->Prop}(h:∀ a b,P [a,b]):∀ us:List α,us.length=2->P us
 | [a,b],_=>h a b
theorem Mc.bn3{α:Type}{P:List α->Prop}(h:∀ a b c,P [a,b,c]):∀ us:List α,us.length=3->P us
 | [a,b,c],_=>h a b c
theorem Mc.bn5{α:Type}{P:List α->Prop}(h:∀ a b c d e,P [a,b,c,d,e]):∀ us:List α,us.length=5->P us
 | [a,b,c,d,e],_=>h a b c d e
open PySem.W (Frag)
noncomputable section
namespace L2
open PySem PySem.Spec PyProof.Rows
abbrev Key:=Sum Int Str
noncomputable def gI:Key->Value->Bool
 | .inl k,v=>Value.isInt k v
 | .inr x,v=>Value.isStrOf x v
noncomputable def aKQ(w:World):Key->Int
 | .inl k=>hashInt k
 | .inr x=>hashStr w x
theorem keyIs_shape:∀ {k:Key} {v:Value},gI k v=true->(∃ i t,k=Sum.inl i/\v=Value.int i t)\/(∃ x t,k=Sum.inr x/\v=Value.str x t)
 | .inl i,v,h=>by
  obtain ⟨t,e⟩:=Value.isInt_shape (k:=i) (v:=v) h
  exact .inl ⟨i,t,rfl,e⟩
 | .inr x,v,h=>by
  obtain ⟨t,e⟩:=Value.isStrOf_shape (x:=x) (v:=v) h
  exact .inr ⟨x,t,rfl,e⟩
theorem y4(i:Int)(t:Tok):gI (.inl i) (.int i t)=true:=by simp[gI,Value.isInt]
theorem y6(x:Str)(t:Tok):gI (.inr x) (.str x t)=true:=by simp[gI,Value.isStrOf]
theorem aGU(a b:Int):decide ((Sum.inl a:Key)=Sum.inl b)=(a == b):=by
 by_cases e:a=b
 ·subst e;simp
 ·have h:¬ (Sum.inl a:Key)=Sum.inl b:=fun q=>e (Sum.inl.inj q)
  rw[decide_eq_false h]
  exact (beq_eq_false_iff_ne.mpr e).symm
theorem aGV(a b:Str):decide ((Sum.inr a:Key)=Sum.inr b)=decide (a=b):=by
 by_cases e:a=b
 ·subst e;simp
 ·have h:¬ (Sum.inr a:Key)=Sum.inr b:=fun q=>e (Sum.inr.inj q)
  rw[decide_eq_false h,decide_eq_false e]
theorem aGW(a:Int)(b:Str):decide ((Sum.inl a:Key)=Sum.inr b)=false:=decide_eq_false (fun q=>nomatch q)
theorem aGX(a:Str)(b:Int):decide ((Sum.inr a:Key)=Sum.inl b)=false:=decide_eq_false (fun q=>nomatch q)
noncomputable def bT(prog:Program)(w:World):PySem.KeyKind prog w Key where
 is:=gI
 hash:=aKQ w
 inj:=fun v a b ha hb=>by
  rcases keyIs_shape ha with ⟨i,t,rfl,rfl⟩|⟨x,t,rfl,rfl⟩
  ·rcases keyIs_shape hb with ⟨j,u,rfl,e⟩|⟨y,u,rfl,e⟩
   · injection e with e1 _; rw [e1]
   · exact nomatch e
  ·rcases keyIs_shape hb with ⟨j,u,rfl,e⟩|⟨y,u,rfl,e⟩
   · exact nomatch e
   · injection e with e1 _; rw [e1]
 byValue:=fun k v h=>by
  rcases keyIs_shape h with ⟨i,t,rfl,rfl⟩|⟨x,t,rfl,rfl⟩<;>rfl
 pyHash:=fun hv h=>by
  rcases keyIs_shape hv with ⟨i,t,rfl,rfl⟩|⟨x,t,rfl,rfl⟩
  ·exact wpAny_pyHash_int h
  ·exact wpAny_pyHash_str h
 eqBool:=fun hu hv h=>by
  rcases keyIs_shape hu with ⟨i,t,rfl,rfl⟩|⟨x,t,rfl,rfl⟩
  ·rcases keyIs_shape hv with ⟨j,u,rfl,rfl⟩|⟨y,u,rfl,rfl⟩
   · rw [aGU] at h; exact wpAny_eqBool_int h
   · rw [aGW] at h; exact SeqAt.EqAt.int_str i t y u _ _ _ _ h
  ·rcases keyIs_shape hv with ⟨j,u,rfl,rfl⟩|⟨y,u,rfl,rfl⟩
   · rw [aGX] at h; exact SeqAt.EqAt.str_int x t j u _ _ _ _ h
   · rw [aGV] at h; exact wpAny_eqBool_str h
 «strs»:=fun k x t v h=>by
  rcases keyIs_shape h with ⟨i,u,rfl,e⟩|⟨y,u,rfl,e⟩
  ·exact nomatch e
  ·injection e with e1 _
   subst e1
   cases v<;>rfl
theorem vB(prog:Program)(w:World)(i:Int)(t:Tok):(bT prog w).is (.inl i) (.int i t)=true:=y4 i t
theorem vC(prog:Program)(w:World)(x:Str)(t:Tok):(bT prog w).is (.inr x) (.str x t)=true:=y6 x t
end L2
namespace L2
open PySem PySem.Spec PyProof.Rows
inductive V where
 | non|bl (b:Bool)|int (i:Int)|str (x:Str)|byt (b:Array UInt8)|flt (b:UInt64)|ref (a:Addr)|ty (n:String)
 deriving DecidableEq
def aQ:V->Value->Prop
 | .non,u=>u=Value.none
 | .bl b,u=>u=Value.bool b
 | .int i,u=>∃ t,u=Value.int i t
 | .str x,u=>∃ t,u=Value.str x t
 | .byt b,u=>∃ t,u=Value.bytes b t
 | .flt b,u=>∃ t,u=Value.float b t
 | .ref a,u=>u=Value.ref a
 | .ty n,u=>u=Value.type n
abbrev aY:List V->List Value->Prop:=Paired aQ
theorem aY.length{xs:List V}{us:List Value}(r:aY xs us):xs.length=us.length:=Paired.length r
theorem aY.get:∀ {xs:List V} {us:List Value} {i:Nat} {x:V},aY xs us->xs[i]? = some x->∃ u,us[i]? = some u/\aQ x u
 | _,_,_,_,.nil,e=>by simp at e
 | _,_,0,_,.cons r _,e=>by simp at e;subst e;exact ⟨_,rfl,r⟩
 | _,_,i+1,x,.cons _ t,e=>by
  obtain ⟨u,h1,h2⟩:=aY.get (i:=i) (x:=x) t (by simpa using e)
  exact ⟨u,by simpa using h1,h2⟩
theorem aY.set{x:V}{u:Value}(r:aQ x u):∀ {xs:List V} {us:List Value} (i:Nat),aY xs us->aY (xs.set i x) (us.set i u)
 | _,_,_,.nil=>.nil
 | _,_,0,.cons _ t=>.cons r t
 | _,_,i+1,.cons q t=>.cons q (aY.set r i t)
theorem aY.append:∀ {xs ys:List V} {us ws:List Value},aY xs us->aY ys ws->aY (xs++ys) (us++ws)
 | _,_,_,_,.nil,s=>s
 | _,_,_,_,.cons r t,s=>.cons r (aY.append t s)
theorem aY.take:∀ {xs:List V} {us:List Value} (n:Nat),aY xs us->aY (xs.take n) (us.take n)
 | _,_,0,_=>.nil
 | _,_,_+1,.nil=>.nil
 | _,_,n+1,.cons r t=>.cons r (aY.take n t)
theorem aY.drop:∀ {xs:List V} {us:List Value} (n:Nat),aY xs us->aY (xs.drop n) (us.drop n)
 | _,_,0,r=>r
 | _,_,_+1,.nil=>.nil
 | _,_,n+1,.cons _ t=>aY.drop n t
def i6:Option V->Option Value->Prop
 | some v,some u=>aQ v u
 | none,none=>True
 | _,_=>False
def KV{κ:Type}:List (κ×V)->List (κ×Value)->Prop:=Paired fun (p:κ×V) (q:κ×Value)=>p.1=q.1/\aQ p.2 q.2
noncomputable def kV:Key->V
 | .inl i=>.int i
 | .inr x=>.str x
inductive HO where
 | lst (xs:List V)
 | tup (xs:List V)
 | dK (kvs:List (Key×V))|dT (kvs:List (List Key×V))
 | set (S:Int->Bool) (n:Nat)
 | ins (C dx:Addr) (fs:List (Str×V))
 | own (x:Addr)
 | xd (fs:List (Str×V))
 | met (f x:Addr)
 | rng (lo hi:Int)
 | frz (o:Obj) (u:HO)
 | tbl (qs:List (Pos×Str))
 | cod (q:Str)
 | ext (φ:Heap->Prop)
abbrev Hp:=Addr->Option HO
noncomputable def upd(H:Hp)(a:Addr)(o:HO):Hp:=fun b=>if b=a then some o else H b
theorem aU{H:Hp}{a:Addr}{o:HO}:upd H a o a=some o:=by unfold upd;rw[if_pos rfl]
theorem aI{H:Hp}{a b:Addr}{o:HO}(h:b≠a):upd H a o b=H b:=by unfold upd;rw[if_neg h]
theorem vJ{H:Hp}{a:Addr}{o u:HO}:upd (upd H a o) a u=upd H a u:=by
 funext b;unfold upd;split<;>rfl
theorem bI{H:Hp}{a b:Addr}{o:HO}(h:H a=some o)(h':H b=none):a≠b:=by
 intro e;subst e;rw[h] at h';cases h'
section
variable(P:Program)(w:World)
def bN(H:Hp)(h:Heap)(a:Addr):HO->Prop
 | .lst xs=>xs.length<=sizeLine/\∃ (its:List Value) (n:Nat),aY xs its/\h.get? a=some {cls:=.type "list",data:=.seq its.toArray n}
 | .tup xs=>xs.length<=sizeLine/\∃ its:List Value,aY xs its/\IsTup h a its.toArray
 | .dK kvs=>kvs.length<=sizeLine/\(a == sysModules)=false/\∃ vs,KV kvs vs/\h.DictOf (bT P w) a vs
 | .dT kvs=>kvs.length<=sizeLine/\(a == sysModules)=false/\∃ xs:List (List Key×Addr×Value),
  Paired (fun (p:List Key×V) (q:List Key×Addr×Value)=>p.1=q.1/\H q.2.1=some (.tup (p.1.map kV))/\aQ p.2 q.2.2) kvs xs /\
  ∃ o es ep,h.get? a=some o/\o.ExactDict/\o.data=.dict es ep/\es.toList=xs.map (entryOfKey (tupleKind (bT P w)))/\(xs.map (·.1)).Nodup
 | .set S n=>h.SetOf (intKind P w) a S n
 | .ins C dx fs=>H dx=some (.own a)/\fs.length<=1000/\dx≠a/\h.get? a=some (PySem.W.instObj C dx) /\
  ∃ mA,h.Ns1 dx mA/\(∀ f,i6 (fs.lookup f) (mA f))/\PySem.Within mA (fs.map (·.1))
 | .own _=>∃ o,h.get? a=some o
 | .xd fs=>∃ mA,h.Ns1 a mA/\∀ f,i6 (fs.lookup f) (mA f)
 | .rng lo hi=>∃ t u v,h.get? a=some {cls:=.type "range",data:=.fields #[.int lo t,.int hi u,.int 1 v]}
 | .frz o u=>h.get? a=some o/\bN H h a u
 | .tbl qs=>∃ ps:Array Value,h.get? a=some {cls:=.none,data:=.fields ps}/\TriplesOk ps.toList/\∀ p∈qs,codeAmong p.1 ps.toList=none\/∃ c,codeAmong p.1 ps.toList=some (.ref c)/\H c=some (.cod p.2)
 | .cod q=>h.CodeRec (.ref a) q
 | .met f x=>h.get? a=some (PySem.W.methodObj (.ref f) (.ref x))
 | .ext φ=>φ h/\(∃ o,h.get? a=some o)/\∀ h1 h2:Heap,φ h1->(∀ o,h1.get? a=some o->h2.get? a=some o)->φ h2
def HOk(H:Hp)(h:Heap):Prop:=∀ a o,H a=some o->bN P w H h a o
end
section
variable{P:Program}{w:World}{H H':Hp}{h h':Heap}{a:Addr}{o:HO}
theorem bN.lt(x:bN P w H h a o):a < h.objs.size:=by
 cases o with
 | lst xs=>obtain ⟨_,_,_,_,e⟩:=x;exact Heap.lt_size e
 | tup xs=>obtain ⟨_,_,_,p⟩:=x;exact p.lt
 | dK kvs=>obtain ⟨_,_,_,_,o,_,_,e,_⟩:=x;exact Heap.lt_size e
 | dT kvs=>obtain ⟨_,_,_,_,o,_,_,e,_⟩:=x;exact Heap.lt_size e
 | set S n=>obtain ⟨o,_,_,_,e,_⟩:=x;exact Heap.lt_size e
 | ins C dx fs=>obtain ⟨_,_,_,e,_⟩:=x;exact Heap.lt_size e
 | own y=>obtain ⟨_,e⟩:=x;exact Heap.lt_size e
 | xd fs=>obtain ⟨_,⟨_,_,_,e,_⟩,_⟩:=x;exact Heap.lt_size e
 | rng lo hi=>obtain ⟨_,_,_,e⟩:=x;exact Heap.lt_size e
 | frz ob u=>obtain ⟨e,_⟩:=x;exact Heap.lt_size e
 | tbl qs=>obtain ⟨ps,e,_⟩:=x;exact Heap.lt_size e
 | cod q=>obtain ⟨c,o,vs,t,e,ho,_⟩:=x;cases e;exact Heap.lt_size ho
 | met f y=>exact Heap.lt_size (show h.get? a=some _ from x)
 | ext φ=>obtain ⟨_,⟨_,e⟩,_⟩:=x;exact Heap.lt_size e
theorem Paired.mapP{α β:Type}{F G:α->β->Prop}:∀ {l₁:List α} {l₂:List β},Paired F l₁ l₂->(∀ a b,F a b->G a b)->Paired G l₁ l₂
 | _,_,.nil,_=>.nil
 | _,_,.cons r t,f=>.cons (f _ _ r) (Paired.mapP t f)
theorem bN.stay(x:bN P w H h a o)(k:∀ b u,(b=a\/H b=some (.own a))->h.get? b=some u->h'.get? b=some u)
  (ho:∀ b,H b=some (.own a)->H' b=some (.own a)) (hc:∀ b q,H b=some (.cod q)->H' b=some (.cod q)) (ht:∀ b xs,H b=some (.tup xs)->H' b=some (.tup xs)):bN P w H' h' a o:=by
 induction o with
 | lst xs=>obtain ⟨z,its,n,r,e⟩:=x;exact ⟨z,its,n,r,k _ _ (.inl rfl) e⟩
 | tup xs=>obtain ⟨z,its,r,ob,e,c⟩:=x;exact ⟨z,its,r,ob,k _ _ (.inl rfl) e,c⟩
 | dK kvs=>obtain ⟨z,y,vs,r,ob,es,ep,e,c⟩:=x;exact ⟨z,y,vs,r,ob,es,ep,k _ _ (.inl rfl) e,c⟩
 | dT kvs=>
  obtain ⟨z,y,xs,r,ob,es,ep,e,c⟩:=x
  exact ⟨z,y,xs,Paired.mapP r fun p q z=>⟨z.1,ht _ _ z.2.1,z.2.2⟩,ob,es,ep,k _ _ (.inl rfl) e,c⟩
 | set S n=>obtain ⟨ob,es,ep,t,e,c⟩:=x;exact ⟨ob,es,ep,t,k _ _ (.inl rfl) e,c⟩
 | ins C dx fs=>
  obtain ⟨d,z,ne,e,mA,⟨od,es,ep,e2,c⟩,r⟩:=x
  exact ⟨ho _ d,z,ne,k _ _ (.inl rfl) e,mA,⟨od,es,ep,k _ _ (.inr d) e2,c⟩,r⟩
 | own y=>obtain ⟨ob,e⟩:=x;exact ⟨ob,k _ _ (.inl rfl) e⟩
 | xd fs=>obtain ⟨mA,⟨od,es,ep,e,c⟩,r⟩:=x;exact ⟨mA,⟨od,es,ep,k _ _ (.inl rfl) e,c⟩,r⟩
 | rng lo hi=>obtain ⟨t,u,v,e⟩:=x;exact ⟨t,u,v,k _ _ (.inl rfl) e⟩
 | frz ob u ih=>obtain ⟨e,q⟩:=x;exact ⟨k _ _ (.inl rfl) e,ih q⟩
 | tbl qs=>
  obtain ⟨ps,e,t,r⟩:=x
  refine ⟨ps,k _ _ (.inl rfl) e,t,fun p hp=>?_⟩
  rcases r p hp with z|⟨c,z,z2⟩
  · exact .inl z
  · exact .inr ⟨c, z, hc _ _ z2⟩
 | cod q=>
  obtain ⟨c,o,vs,t,e,ho,r⟩:=x
  cases e
  exact ⟨_,o,vs,t,rfl,k _ _ (.inl rfl) ho,r⟩
 | met f y=>
  have e:h.get? a=some (PySem.W.methodObj (.ref f) (.ref y)):=x
  show h'.get? a=some (PySem.W.methodObj (.ref f) (.ref y))
  exact k a _ (.inl rfl) e
 | ext φ=>obtain ⟨p,⟨o,e⟩,st⟩:=x;exact ⟨st _ _ p fun o q=>k _ _ (.inl rfl) q,⟨o,k _ _ (.inl rfl) e⟩,st⟩
theorem HOk.lt(x:HOk P w H h)(e:H a=some o):a < h.objs.size:=(x a o e).lt
theorem HOk.fresh(x:HOk P w H h)(e:h.objs.size<=a):H a=none:=by
 cases q:H a with
 | none=>rfl
 | some u=>exact absurd (Nat.lt_of_lt_of_le (x.lt q) e) (Nat.lt_irrefl _)
theorem HOk.kept(x:HOk P w H h)(k:∀ b u,h.get? b=some u->h'.get? b=some u):HOk P w H h':=fun a o e=>
 (x a o e).stay (fun b u _ q=>k b u q) (fun _ q=>q) (fun _ _ q=>q) fun _ _ q=>q
theorem HOk.laid(x:HOk P w H h)(k:∀ b u,h.get? b=some u->h'.get? b=some u)(hp:h.objs.size<=a)(new:bN P w (upd H a o) h' a o):HOk P w (upd H a o) h':=fun b u e=>by
 have hn:=x.fresh hp
 by_cases hb:b=a
 ·subst hb;rw[aU] at e;cases e;exact new
 ·rw[aI hb] at e
  exact (x b u e).stay (fun c v _ q=>k c v q) (fun c q=>by rw[aI (bI q hn)];exact q) (fun c xs q=>by rw[aI (bI q hn)];exact q) fun c xs q=>by rw[aI (bI q hn)];exact q
end
def Rd(H:Hp)(a:Addr)(u:HO):Prop:=H a=some u\/∃ o,H a=some (.frz o u)
theorem Rd.ok{P:Program}{w:World}{H:Hp}{h:Heap}{a:Addr}{u:HO}(r:Rd H a u)(x:HOk P w H h):bN P w H h a u:=by
 rcases r with r|⟨o,r⟩
 ·exact x a u r
 ·obtain ⟨_,q⟩:=x a _ r
  exact q
def Mut:Option HO->Prop
 | some (.lst _)=>True
 | some (.dK _)=>True
 | some (.dT _)=>True
 | some (.set _ _)=>True
 | some (.ins _ _ _)=>True
 | some (.ext _)=>True
 | _=>False
section
variable{P:Program}{w:World}{H:Hp}{h h':Heap}{x e:Addr}{o':HO}
theorem HOk.write(ok:HOk P w H h)(mu:Mut (H x))(he:e=x\/H e=some (.own x))(k:∀ b u,b≠e->h.get? b=some u->h'.get? b=some u)(heo:∃ u,h'.get? e=some u)
  (new:bN P w (upd H x o') h' x o'):HOk P w (upd H x o') h':=fun b u q=>by
 have nown:∀ c y,H c=some (.own y)->c≠x:=fun c y r z=>by subst z;rw[r] at mu;exact mu
 have ntup:∀ c xs,H c=some (.tup xs)->c≠x:=fun c xs r z=>by subst z;rw[r] at mu;exact mu
 have ncod:∀ c xs,H c=some (.cod xs)->c≠x:=fun c xs r z=>by subst z;rw[r] at mu;exact mu
 by_cases hb:b=x
 ·subst hb;rw[aU] at q;cases q;exact new
 ·rw[aI hb] at q
  by_cases hbe:b=e
  ·have q':H b=some (.own x):=by
    rcases he with z|z
    · exact absurd (hbe.trans z) hb
    · rw [hbe]; exact z
   rw[q] at q';cases q'
   obtain ⟨v,hv⟩:=heo
   exact ⟨v,by rw[hbe];exact hv⟩
  ·refine (ok b u q).stay (fun c v hc r=>k c v ?_ r) (fun c r=>by rw[aI (nown c b r)];exact r) (fun c xs r=>by rw[aI (ncod c xs r)];exact r) fun c xs r=>by rw[aI (ntup c xs r)];exact r
   rcases hc with rfl|hc
   ·exact hbe
   ·rintro rfl
    rcases he with z|z
    · exact nown c b hc z
    · rw [hc] at z; cases z; exact hb rfl
end
structure Un(fs ex:List Addr)(H H':Hp)(h h':Heap):Prop where
 keep:∀ b o,h.get? b=some o->H b=none->b∉fs->b∉ex->h'.get? b=some o
 slot:∀ b o,h.get? b=some o->H b=none->b∈fs->b∉ex->∃ sl,h'.get? b=some {o with slots:=sl}
 free:∀ b o,h.get? b=some o->H b=none->b∉ex->H' b=none
 there:∀ b o,h.get? b=some o->b∉ex->∃ o',h'.get? b=some o'
 tups:∀ b xs,H b=some (.tup xs)->H' b=some (.tup xs)
 frzs:∀ b o u,H b=some (.frz o u)->H' b=some (.frz o u)
 tbls:∀ b ps,H b=some (.tbl ps)->H' b=some (.tbl ps)
section
variable{fs fs' ex ex':List Addr}{H H1 H2:Hp}{h h1 h2 h':Heap}{a x e:Addr}{o:HO}
theorem Un.any(u:Un fs ex H H1 h h1){b:Addr}{ob:Obj}(q:h.get? b=some ob)(n:H b=none)(hx:b∉ex):∃ sl,h1.get? b=some {ob with slots:=sl}:=by
 by_cases hb:b∈fs
 · exact u.slot b ob q n hb hx
 · exact ⟨ob.slots, u.keep b ob q n hb hx⟩
theorem Un.trans(a:Un fs ex H H1 h h1)(b:Un fs ex H1 H2 h1 h2):Un fs ex H H2 h h2 where
 keep:=fun c ob q n hc hx=>b.keep c ob (a.keep c ob q n hc hx) (a.free c ob q n hx) hc hx
 slot:=fun c ob q n hc hx=>by
  obtain ⟨sl,e1⟩:=a.slot c ob q n hc hx
  obtain ⟨sl',e2⟩:=b.slot c _ e1 (a.free c ob q n hx) hc hx
  exact ⟨sl',e2⟩
 free:=fun c ob q n hx=>by
  obtain ⟨o',e1⟩:=a.there c ob q hx
  exact b.free c o' e1 (a.free c ob q n hx) hx
 there:=fun c ob q hx=>by
  obtain ⟨o',e1⟩:=a.there c ob q hx
  exact b.there c o' e1 hx
 tups:=fun c xs q=>b.tups c xs (a.tups c xs q)
 frzs:=fun c ob xs q=>b.frzs c ob xs (a.frzs c ob xs q)
 tbls:=fun c ps q=>b.tbls c ps (a.tbls c ps q)
theorem Un.kept(k:∀ b u,h.get? b=some u->h'.get? b=some u):Un fs ex H H h h':=
 ⟨fun b ob q _ _ _=>k b ob q,fun b ob q _ _ _=>⟨ob.slots,k b ob q⟩,fun _ _ _ n _=>n,fun b ob q _=>⟨ob,k b ob q⟩,fun _ _ q=>q,fun _ _ _ q=>q,fun _ _ q=>q⟩
theorem Un.refl:Un fs ex H H h h:=Un.kept fun _ _ q=>q
theorem Un.laid(k:∀ b u,h.get? b=some u->h'.get? b=some u)(hp:h.objs.size<=a)(hn:H a=none):Un fs ex H (upd H a o) h h' where
 keep:=fun b u q _ _ _=>k b u q
 slot:=fun b u q _ _ _=>⟨u.slots,k b u q⟩
 free:=fun b u q n _=>by rw[aI (Nat.ne_of_lt (Nat.lt_of_lt_of_le (Heap.lt_size q) hp))];exact n
 there:=fun b u q _=>⟨u,k b u q⟩
 tups:=fun b xs q=>by rw[aI (bI q hn)];exact q
 frzs:=fun b u xs q=>by rw[aI (bI q hn)];exact q
 tbls:=fun b ps q=>by rw[aI (bI q hn)];exact q
theorem Un.write(mu:Mut (H x))(he:e=x\/H e=some (.own x))(k:∀ b u,b≠e->h.get? b=some u->h'.get? b=some u)(heo:∃ u,h'.get? e=some u):Un fs ex H (upd H x o) h h':=by
 have hx:∀ b,H b=none->b≠x:=fun b n z=>by subst z;rw[n] at mu;exact mu
 have hb:∀ b,H b=none->b≠e:=fun b n z=>by
  subst z
  rcases he with r|r
  · exact hx b n r
  · rw [n] at r; cases r
 have hm:∀ b u,H b=some u->¬ Mut (some u)->b≠x:=fun b u q nm z=>by subst z;rw[q] at mu;exact nm mu
 refine ⟨fun b u q n _ _=>k b u (hb b n) q,fun b u q n _ _=>⟨u.slots,k b u (hb b n) q⟩,fun b u q n _=>by rw[aI (hx b n)];exact n,fun b u q _=>?_,
  fun b xs q=>by rw[aI (hm b _ q fun z=>z)];exact q,fun b u xs q=>by rw[aI (hm b _ q fun z=>z)];exact q,fun b ps q=>by rw[aI (hm b _ q fun z=>z)];exact q⟩
 by_cases hbe:b=e
 ·subst hbe;exact heo
 ·exact ⟨u,k b u hbe q⟩
end
noncomputable def trk(h:Heap)(H:Hp):List Addr:=(List.range h.objs.size).filter fun a=>(H a).isSome
def kU(h:Heap)(H:Hp):Heap:=PySem.W.hideAll h (trk h H)
theorem y7(h:Heap)(H:Hp):(kU h H).objs.size=h.objs.size:=PySem.W.hideAll_size _ _
theorem aBT{h:Heap}{H:Hp}{b:Addr}{o:Obj}(e:h.get? b=some o)(n:H b=none):(kU h H).get? b=some o:=
 PySem.W.hideAll_get _ e fun hm=>by
  have q:(H b).isSome=true:=(List.mem_filter.mp hm).2
  rw[n] at q;simp at q
theorem aEF{h:Heap}{H:Hp}{b:Addr}{o:Obj}(e:(kU h H).get? b=some o):h.get? b=some o/\H b=none:=by
 have e':h.get? b=some o:=PySem.W.of_hideAll (trk h H) e
 refine ⟨e',?_⟩
 cases q:H b with
 | none=>rfl
 | some x=>
  have hm:b∈trk h H:=List.mem_filter.mpr ⟨List.mem_range.mpr (Heap.lt_size e'),by simp[q]⟩
  have z:(kU h H).get? b=none:=PySem.W.hideAll_none (trk h H) hm
  rw[z] at e;cases e
def aEG(g h:Heap)(L:Addr):List (Addr×Obj):=(List.range h.objs.size).filterMap fun a=>if a=L\/(g.get? a).isSome=true then none else (h.get? a).map fun o=>(a,o)
def rest(g h:Heap)(L d:Addr):List (Addr×Obj):=(aEG g h L).filter fun p=>decide (p.1≠d)
end L2
namespace L2
open PySem PySem.Spec PyProof.Rows
structure Mod(K:Frag)(mg:Str->Option Value)(base:Heap):Prop where
 kin:K.In base
 glob:base.Ns mainGlobals mg
 blt:∃ mb,base.Ns builtinsNs mb/\∀ x:Str,x≠"__name__"->mb x=bootBuiltins x
 nolimit:base.NoLimit
structure Cx where
 prog:Program
 w:World
 K:Frag
 mg:Str->Option Value
 base:Heap
 A:Around
 N:List Str
 s₀:Shared
 H₀:Hp
 env:Env
 outer:List Env
 stack:List Env
 ex:List Addr
 fn:Str->Bool
 calm:Bool
 pn:List (Addr×Obj)
 xe:Value->Shared->Prop
noncomputable def frs(l:List Env):List Addr:=l.filterMap (·.frame)
abbrev Cx.fs(X:Cx):List Addr:=frs X.outer
def Vis(sc:Scope)(x:Str):Prop:=sc.names.lookup x=some .local\/sc.names.lookup x=some .cell\/sc.names.lookup x=some .free
def Loc(sc:Scope)(x:Str):Prop:=sc.names.lookup x=some .local\/sc.names.lookup x=some .cell
def aKR(env:Env)(h:Heap)(m:Str->Option Value)(x:Str)(u:Value):Prop:=
 (env.kindOf x=some .local/\m x=some u)\/((env.kindOf x=some .cell\/env.kindOf x=some .free)/\∃ c,env.cells.lookup x=some c/\h.IsCell c (some u))
structure Cx.Ok(X:Cx):Prop where
 mod:Mod X.K X.mg X.base
 kind:X.env.scope.kind=.function
 glob:X.env.globals=mainGlobals
 blt:X.env.builtins=builtinsNs
 above:X.s₀.heap.objs.size<=X.env.locals
 inj:∀ x y c,X.env.cells.lookup x=some c->X.env.cells.lookup y=some c->x=y
 has:∀ x,(X.env.kindOf x=some .cell\/X.env.kindOf x=some .free)->∃ c,X.env.cells.lookup x=some c
 cab:∀ x c,X.fn x=true->X.env.cells.lookup x=some c->X.s₀.heap.objs.size<=c
 hd:X.calm=true->X.A.handled=none
 frames:X.A.frames=some X.stack
 stk:X.stack=X.outer\/(X.stack=X.env::X.outer/\X.env.frame=some X.env.locals)
 exf:∀ b∈X.ex,b≠X.env.locals/\∀ x c,X.env.cells.lookup x=some c->c≠b
 bs:∀ b o,X.base.get? b=some o->X.s₀.heap.get? b=some o/\X.H₀ b=none
 bsz:X.base.objs.size<=X.s₀.heap.objs.size
 noex:∀ b o,X.base.get? b=some o->b∉X.ex
 exfs:∀ b∈X.ex,b∉X.fs
 funs:X.s₀.heap.FunFrames X.base X.outer
 frf:∀ b∈X.fs,X.H₀ b=none
structure Inv(X:Cx)(pins:List (Addr×Obj))(σ:List (Option V))(H:Hp)(s:Shared):Prop where
 ok:X.Ok
 os:s.os=X.s₀.os
 bare:AllBare s.gens
 base:Un X.fs X.ex X.H₀ H X.s₀.heap s.heap
 loc:∃ m,s.heap.Ns X.env.locals m/\∀ (i:Nat) (x:Str) (v:V),X.N[i]? = some x->σ[i]? = some (some v)->Vis X.env.scope x->∃ u,aQ v u/\aKR X.env s.heap m x u
 cell:∀ x c,X.env.cells.lookup x=some c->∃ v,s.heap.IsCell c v
 free:H X.env.locals=none
 freeC:∀ x c,X.env.cells.lookup x=some c->H c=none
 pin:∀ p∈X.pn++pins,s.heap.get? p.1=some p.2/\H p.1=none/\p.1≠X.env.locals/\p.1∉X.fs/\∀ v,p.2.data≠.cell v
 hok:HOk X.prog X.w H s.heap
 len:σ.length=X.N.length
section
variable{X:Cx}{pins:List (Addr×Obj)}{σ:List (Option V)}{H H':Hp}{s:Shared}{h':Heap}
theorem Cx.Ok.nofr(ok:X.Ok){b:Addr}{o:Obj}(e:X.base.get? b=some o):b∉X.fs:=fun hb=>by
 have:=(ok.funs.mem hb).1
 rw[e] at this;cases this
theorem Inv.bs(I:Inv X pins σ H s):∀ b o,X.base.get? b=some o->s.heap.get? b=some o/\H b=none:=fun b o e=>
 ⟨I.base.keep b o (I.ok.bs b o e).1 (I.ok.bs b o e).2 (I.ok.nofr e) (I.ok.noex b o e),I.base.free b o (I.ok.bs b o e).1 (I.ok.bs b o e).2 (I.ok.noex b o e)⟩
theorem Inv.bk(I:Inv X pins σ H s):∀ b o,X.base.get? b=some o->s.heap.get? b=some o:=fun b o e=>(I.bs b o e).1
theorem Inv.mod(I:Inv X pins σ H s):Mod X.K X.mg X.base:=I.ok.mod
theorem Inv.kIn(I:Inv X pins σ H s):X.K.In s.heap:=I.ok.mod.kin.keeps I.bk
theorem Inv.lt(I:Inv X pins σ H s):X.env.locals < s.heap.objs.size:=let ⟨_,hn,_⟩:=I.loc;hn.lt
theorem Inv.sz(I:Inv X pins σ H s):X.s₀.heap.objs.size<=s.heap.objs.size:=Nat.le_trans I.ok.above (Nat.le_of_lt I.lt)
theorem Inv.nofs(I:Inv X pins σ H s){a:Addr}(h:s.heap.objs.size<=a):a∉X.fs:=fun hb=>by
 obtain ⟨_,o,ho,_⟩:=I.ok.funs.mem hb
 exact absurd (Nat.lt_of_lt_of_le (Heap.lt_size ho) (Nat.le_trans I.sz h)) (Nat.lt_irrefl _)
theorem Inv.cne(I:Inv X pins σ H s):∀ x c,X.env.cells.lookup x=some c->c≠X.env.locals:=fun x c e z=>by
 obtain ⟨v,o,ho,hd⟩:=I.cell x c e
 obtain ⟨m,⟨o',es,ep,ho',hd',_⟩,_⟩:=I.loc
 rw[z,ho'] at ho;cases ho;rw[hd'] at hd;cases hd
theorem Inv.funs(I:Inv X pins σ H s):s.heap.FunFrames X.base X.outer:=by
 have all:∀ (l:List Env),(∀ b∈frs l,b∈X.fs)->X.s₀.heap.FunFrames X.base l->s.heap.FunFrames X.base l:=by
  intro l
  induction l with
  | nil=>intro _ _;trivial
  | cons env r ih=>
   intro hs hl
   obtain ⟨hk,⟨L,o,hf,hn,ho,hd⟩,hr⟩:=hl
   have hL:L∈X.fs:=hs L (by unfold frs;rw[List.filterMap_cons,hf];exact List.mem_cons_self)
   obtain ⟨sl,e⟩:=I.base.slot L o ho (I.ok.frf L hL) hL fun z=>I.ok.exfs L z hL
   exact ⟨hk,⟨L,_,hf,hn,e,hd⟩,ih (fun b hb=>hs b (by unfold frs;rw[List.filterMap_cons,hf];exact List.mem_cons_of_mem _ hb)) hr⟩
 exact all X.outer (fun _ hb=>hb) I.ok.funs
theorem Inv.stack(I:Inv X pins σ H s):s.heap.FunFrames X.base X.stack:=by
 rcases I.ok.stk with e|⟨e,hf⟩
 ·rw[e];exact I.funs
 ·rw[e]
  obtain ⟨m,hn,_⟩:=I.loc
  refine .cons (by rw[I.ok.kind];decide) hf hn ?_ I.funs
  exact Heap.get?_none_of_le (Nat.le_trans I.ok.bsz I.ok.above)
theorem Inv.stkSub(I:Inv X pins σ H s):∀ b∈frs X.stack,b∈X.env.locals::X.fs:=fun b hb=>by
 rcases I.ok.stk with e|⟨e,hf⟩
 ·rw[e] at hb;exact List.mem_cons_of_mem _ hb
 ·rw[e] at hb
  unfold frs at hb
  rw[List.filterMap_cons,hf] at hb
  exact hb
theorem Inv.stkFree(I:Inv X pins σ H s):∀ b∈frs X.stack,H b=none:=fun b hb=>by
 rcases List.mem_cons.mp (I.stkSub b hb) with e|hb
 ·rw[e];exact I.free
 ·obtain ⟨_,o,ho,_⟩:=I.ok.funs.mem hb
  exact I.base.free b o ho (I.ok.frf b hb) fun z=>I.ok.exfs b z hb
theorem Inv.step{g':Array GenState}{t':Nat}{d':Drawn}{ch:List Addr}(I:Inv X pins σ H s)
  (hch:∀ b∈ch,(b∈X.ex\/X.s₀.heap.objs.size<=b)/\b≠X.env.locals/\(∀ x c,X.env.cells.lookup x=some c->c≠b)/\∀ p∈X.pn++pins,p.1≠b)
  (keep:∀ b o,b≠X.env.locals->b∉X.fs->b∉ch->s.heap.get? b=some o->H b=none->h'.get? b=some o)
  (slot:∀ b o,b≠X.env.locals->b∈X.fs->b∉ch->s.heap.get? b=some o->H b=none->∃ sl,h'.get? b=some {o with slots:=sl}) (free:∀ b o,b∉ch->s.heap.get? b=some o->H b=none->H' b=none)
  (there:∀ b o,b∉ch->s.heap.get? b=some o->∃ o',h'.get? b=some o')
  (tups:∀ b xs,H b=some (.tup xs)->H' b=some (.tup xs)) (frzs:∀ b o u,H b=some (.frz o u)->H' b=some (.frz o u)) (tbls:∀ b ps,H b=some (.tbl ps)->H' b=some (.tbl ps))
  (ns:∀ m,s.heap.Ns X.env.locals m->h'.Ns X.env.locals m) (hok:HOk X.prog X.w H' h') (hg:AllBare g') :
  Inv X pins σ H' {s with heap:=h',gens:=g',drawn:=d',toks:=t'}:=by
 have neL:∀ b o,X.s₀.heap.get? b=some o->b≠X.env.locals:=fun b o e=>Nat.ne_of_lt (Nat.lt_of_lt_of_le (Heap.lt_size e) I.ok.above)
 have neC:∀ b o,X.s₀.heap.get? b=some o->b∉X.ex->b∉ch:=fun b o e hx hb=>by
  rcases (hch b hb).1 with z|z
  ·exact hx z
  ·exact absurd (Nat.lt_of_lt_of_le (Heap.lt_size e) z) (Nat.lt_irrefl _)
 have cellK:∀ x c,X.env.cells.lookup x=some c->∀ v,s.heap.IsCell c v->h'.IsCell c v:=fun x c e v zz0=>by
  obtain ⟨o,ho,hd⟩:=zz0
  have nch:c∉ch:=fun z=>(hch c z).2.2.1 x c e rfl
  by_cases hc:c∈X.fs
  ·obtain ⟨sl,q⟩:=slot c o (I.cne x c e) hc nch ho (I.freeC x c e)
   exact ⟨_,q,hd⟩
  ·exact ⟨o,keep c o (I.cne x c e) hc nch ho (I.freeC x c e),hd⟩
 refine ⟨I.ok,I.os,hg,⟨fun b o e n hb hx=>?_,fun b o e n hb hx=>?_,fun b o e n hx=>?_,fun b o e hx=>?_,fun b xs e=>tups b xs (I.base.tups b xs e),fun b o xs e=>frzs b o xs (I.base.frzs b o xs e),fun b ps e=>?_⟩,?_,fun x c e=>?_,?_,fun x c e=>?_,fun p hp=>?_,hok,I.len⟩
 ·exact keep b o (neL b o e) hb (neC b o e hx) (I.base.keep b o e n hb hx) (I.base.free b o e n hx)
 ·obtain ⟨sl,e1⟩:=I.base.slot b o e n hb hx
  obtain ⟨sl',e2⟩:=slot b _ (neL b o e) hb (neC b o e hx) e1 (I.base.free b o e n hx)
  exact ⟨sl',e2⟩
 ·obtain ⟨o',e1⟩:=I.base.there b o e hx
  exact free b o' (neC b o e hx) e1 (I.base.free b o e n hx)
 ·obtain ⟨o',e1⟩:=I.base.there b o e hx
  exact there b o' (neC b o e hx) e1
 ·exact tbls b ps (I.base.tbls b ps e)
 ·obtain ⟨m,hn,hl⟩:=I.loc
  refine ⟨m,ns m hn,fun i x v e1 e2 e3=>?_⟩
  obtain ⟨u,r,l⟩:=hl i x v e1 e2 e3
  refine ⟨u,r,?_⟩
  rcases l with l|⟨k,c,e,z⟩
  ·exact .inl l
  ·exact .inr ⟨k,c,e,cellK x c e _ z⟩
 ·obtain ⟨v,z⟩:=I.cell x c e
  exact ⟨v,cellK x c e v z⟩
 ·obtain ⟨m,⟨o,_,_,ho,_⟩,_⟩:=I.loc
  exact free _ o (fun z=>(hch _ z).2.1 rfl) ho I.free
 ·obtain ⟨v,o,ho,hd⟩:=I.cell x c e
  exact free c o (fun z=>(hch c z).2.2.1 x c e rfl) ho (I.freeC x c e)
 ·obtain ⟨e,n,ne,nf,d⟩:=I.pin p hp
  have nch:p.1∉ch:=fun z=>(hch p.1 z).2.2.2 p hp rfl
  exact ⟨keep p.1 p.2 ne nf nch e n,free p.1 p.2 nch e n,ne,nf,d⟩
theorem Inv.un{t':Nat}(I:Inv X pins σ H s)(u:Un X.fs [] H H' s.heap h')(hok:HOk X.prog X.w H' h'):Inv X pins σ H' {s with heap:=h',toks:=t'}:=by
 obtain ⟨m,⟨o,es,ep,ho,r⟩,_⟩:=id I.loc
 obtain ⟨sl,hL⟩:=u.any ho I.free (by simp)
 exact I.step (g':=s.gens) (d':=s.drawn) (ch:=[]) (fun _ z=>nomatch z) (fun b o _ hb _ e n=>u.keep b o e n hb (by simp)) (fun b o _ hb _ e n=>u.slot b o e n hb (by simp)) (fun b o _ e n=>u.free b o e n (by simp)) (fun b o _ e=>u.there b o e (by simp)) u.tups u.frzs u.tbls (fun m' hm=>by
  obtain ⟨o',es',ep',ho',r'⟩:=hm
  rw[ho] at ho';cases ho'
  exact ⟨_,es',ep',hL,r'⟩) hok I.bare
theorem Inv.call{g':Array GenState}{t':Nat}{d':Drawn}{ch:List Addr}(I:Inv X pins σ H s)(u:Un (frs X.stack) ch H H' s.heap h')(hok:HOk X.prog X.w H' h')(hg:AllBare g')
  (hch:∀ b∈ch,(b∈X.ex\/X.s₀.heap.objs.size<=b)/\b≠X.env.locals/\(∀ x c,X.env.cells.lookup x=some c->c≠b)/\∀ p∈X.pn++pins,p.1≠b) :
  Inv X pins σ H' {s with heap:=h',gens:=g',drawn:=d',toks:=t'}:=by
 obtain ⟨m,⟨o,es,ep,ho,r⟩,_⟩:=id I.loc
 obtain ⟨sl,hL⟩:=u.any ho I.free fun z=>(hch _ z).2.1 rfl
 exact I.step (ch:=ch) hch (fun b o hL hb hc e n=>u.keep b o e n (fun z=>(List.mem_cons.mp (I.stkSub b z)).elim hL hb) hc) (fun b o _ _ hc e n=>u.any e n hc) (fun b o hc e n=>u.free b o e n hc) (fun b o hc e=>u.there b o e hc) u.tups u.frzs u.tbls (fun m' hm=>by
  obtain ⟨o',es',ep',ho',r'⟩:=hm
  rw[ho] at ho';cases ho'
  exact ⟨_,es',ep',hL,r'⟩) hok hg
theorem Inv.turned{t':Nat}{it:Addr}(I:Inv X pins σ H s)(k:∀ b o,b≠it->s.heap.get? b=some o->h'.get? b=some o)(hn:H it=none)(hL:it≠X.env.locals)
  (h1:it∈X.ex\/X.s₀.heap.objs.size<=it) (h2:∀ x c,X.env.cells.lookup x=some c->c≠it) (h3:∀ p∈X.pn++pins,p.1≠it):Inv X pins σ H {s with heap:=h',toks:=t'}:=by
 have nit:∀ b u,H b=some u->b≠it:=fun b u e z=>by rw[z,hn] at e;cases e
 refine I.step (g':=s.gens) (d':=s.drawn) (ch:=[it]) (fun b hb=>?_) (fun b o _ _ hc e _=>k b o (fun z=>hc (by simp[z])) e) (fun b o _ _ hc e _=>⟨o.slots,k b o (fun z=>hc (by simp[z])) e⟩) (fun _ _ _ _ n=>n)
  (fun b o hc e=>⟨o,k b o (fun z=>hc (by simp[z])) e⟩) (fun _ _ e=>e) (fun _ _ _ e=>e) (fun _ _ e=>e) (fun m hm=>?_) (fun b u e=>?_) I.bare
 ·have e:b=it:=by simpa using hb
  subst e
  exact ⟨h1,hL,h2,h3⟩
 ·obtain ⟨o,es,ep,ho,r⟩:=hm
  exact ⟨o,es,ep,k _ o (Ne.symm hL) ho,r⟩
 ·refine (I.hok b u e).stay (fun c v hc q=>k c v ?_ q) (fun _ q=>q) (fun _ _ q=>q) fun _ _ q=>q
  rcases hc with z|z
  · rw [z]; exact nit b u e
  · exact nit c _ z
theorem Inv.tok(I:Inv X pins σ H s)(t:Nat):Inv X pins σ H {s with toks:=t}:=I.un (h':=s.heap) (t':=t) Un.refl I.hok
theorem Inv.kept{t':Nat}(I:Inv X pins σ H s)(k:∀ b u,s.heap.get? b=some u->h'.get? b=some u):Inv X pins σ H {s with heap:=h',toks:=t'}:=I.un (Un.kept k) (I.hok.kept k)
theorem Inv.laid{a:Addr}{o:HO}{t':Nat}(I:Inv X pins σ H s)(k:∀ b u,s.heap.get? b=some u->h'.get? b=some u)(hp:s.heap.objs.size<=a)(new:bN X.prog X.w (upd H a o) h' a o) :
 Inv X pins σ (upd H a o) {s with heap:=h',toks:=t'}:=I.un (Un.laid k hp (I.hok.fresh hp)) (I.hok.laid k hp new)
theorem Inv.write{x e:Addr}{o:HO}{t':Nat}(I:Inv X pins σ H s)(mu:Mut (H x))(he:e=x\/H e=some (.own x))(k:∀ b u,b≠e->s.heap.get? b=some u->h'.get? b=some u)(heo:∃ u,h'.get? e=some u)
 (new:bN X.prog X.w (upd H x o) h' x o):Inv X pins σ (upd H x o) {s with heap:=h',toks:=t'}:=I.un (Un.write mu he k heo) (I.hok.write mu he k heo new)
theorem Inv.pins_of{pins':List (Addr×Obj)}(I:Inv X pins σ H s)(h:∀ p∈pins',s.heap.get? p.1=some p.2/\H p.1=none/\p.1≠X.env.locals/\p.1∉X.fs/\∀ v,p.2.data≠.cell v):Inv X pins' σ H s:=
 ⟨I.ok,I.os,I.bare,I.base,I.loc,I.cell,I.free,I.freeC,fun p hp=>(List.mem_append.mp hp).elim (fun z=>I.pin p (List.mem_append_left _ z)) (h p),I.hok,I.len⟩
theorem sL{N:List Str}(hN:N.Nodup){i j:Nat}{x:Str}(a:N[i]? = some x)(b:N[j]? = some x):i=j:=by
 obtain ⟨h1,e1⟩:=List.getElem?_eq_some_iff.mp a
 obtain ⟨h2,e2⟩:=List.getElem?_eq_some_iff.mp b
 exact (List.getElem_inj hN).mp (e1.trans e2.symm)
theorem y8{M:Model}{A:Around}{E:Value->Shared->Prop}{i:Nat}{x:Str}{v:V}{u:Value}{Q:Unit->Shared->Prop}(I:Inv X pins σ H s)(hN:X.N.Nodup)(hi:X.N[i]? = some x)(hx:Loc X.env.scope x)(r:aQ v u)
  (h:∀ s',Inv X pins (σ.set i (some v)) H s'->(∃ a,Heap.SameBut a s.heap s'.heap/\(a=X.env.locals\/X.env.cells.lookup x=some a))->Q () s') (hf:X.fn x=true\/X.env.scope.names.lookup x=some .local):wpAny M A (storeName X.env x u) Q E s:=by
 obtain ⟨m,hn,hl⟩:=id I.loc
 have hcls:(X.env.scope.kind == .class || (X.env.scope.kind == .module && X.env.locals != X.env.globals))=false:=by rw[I.ok.kind];rfl
 have hiσ:i < σ.length:=by rw[I.len];exact (List.getElem?_eq_some_iff.mp hi).1
 have cne:=I.cne
 have tracked:∀ {a:Addr} {h':Heap},(∃ o,s.heap.get? a=some o/\H a=none)->Heap.SameBut a s.heap h'->HOk X.prog X.w H h':=fun {a h'} ha hs b ob e=>by
  obtain ⟨_,_,hfree⟩:=ha
  refine (I.hok b ob e).stay (fun c w' hc q=>(hs.2 c ?_).trans q) (fun _ q=>q) (fun _ _ q=>q) fun _ _ q=>q
  rintro rfl
  rcases hc with rfl|hc
  ·rw[hfree] at e;cases e
  ·rw[hfree] at hc;cases hc
 rcases hx with hk|hk
 ·refine wpAny_storeName_local hk hn (fun h' hn' hs=>?_) hcls
  obtain ⟨oL,_,_,hoL,_⟩:=id hn
  refine h _ ⟨I.ok,I.os,I.bare,⟨fun b o e n hb hx=>?_,fun b o e n hb hx=>?_,I.base.free,fun b o e hx=>?_,I.base.tups,I.base.frzs,I.base.tbls⟩,⟨_,hn',fun j y v' e1 e2 e3=>?_⟩,fun y c e=>?_,I.free,I.freeC,fun p hp=>?_,tracked ⟨oL,hoL,I.free⟩ hs,by simpa using I.len⟩ ⟨_,hs,.inl rfl⟩
  ·exact (hs.2 b (Nat.ne_of_lt (Nat.lt_of_lt_of_le (Heap.lt_size e) I.ok.above))).trans (I.base.keep b o e n hb hx)
  ·obtain ⟨sl,e1⟩:=I.base.slot b o e n hb hx
   exact ⟨sl,(hs.2 b (Nat.ne_of_lt (Nat.lt_of_lt_of_le (Heap.lt_size e) I.ok.above))).trans e1⟩
  ·obtain ⟨o',e1⟩:=I.base.there b o e hx
   exact ⟨o',(hs.2 b (Nat.ne_of_lt (Nat.lt_of_lt_of_le (Heap.lt_size e) I.ok.above))).trans e1⟩
  ·by_cases hj:j=i
   ·subst hj
    rw[hi] at e1;cases e1
    rw[List.getElem?_set_self hiσ] at e2
    cases e2
    exact ⟨u,r,.inl ⟨hk,by simp⟩⟩
   ·rw[List.getElem?_set_ne (Ne.symm hj)] at e2
    obtain ⟨u',r',q⟩:=hl j y v' e1 e2 e3
    refine ⟨u',r',?_⟩
    rcases q with ⟨k,e⟩|⟨k,c,e,z⟩
    ·refine .inl ⟨k,?_⟩
     have:y≠x:=fun e=>hj (sL hN e1 (e▸hi))
     simp[this,e]
    ·exact .inr ⟨k,c,e,z.sameBut hs (cne y c e)⟩
  ·obtain ⟨w',z⟩:=I.cell y c e
   exact ⟨w',z.sameBut hs (cne y c e)⟩
  ·obtain ⟨e,n,ne,nf,d⟩:=I.pin p hp
   exact ⟨(hs.2 p.1 ne).trans e,n,ne,nf,d⟩
 ·have hfn:X.fn x=true:=by
   rcases hf with z|z
   ·exact z
   ·rw[z] at hk;cases hk
  obtain ⟨c,hc⟩:=I.ok.has x (.inl hk)
  obtain ⟨w',z⟩:=I.cell x c hc
  refine wpAny_storeName_cell I.ok.kind hk hc z (fun h' hc' hs=>?_)
  obtain ⟨oc,hoc,hocd⟩:=id z
  refine h {s with heap:=h'} ⟨I.ok,I.os,I.bare,⟨fun b o e n hb hx=>?_,fun b o e n hb hx=>?_,I.base.free,fun b o e hx=>?_,I.base.tups,I.base.frzs,I.base.tbls⟩,⟨m,hn.sameBut hs (Ne.symm (cne x c hc)),fun j y v' e1 e2 e3=>?_⟩,fun y c' e=>?_,I.free,I.freeC,fun p hp=>?_,tracked ⟨oc,hoc,I.freeC x c hc⟩ hs,by simpa using I.len⟩ ⟨c,hs,.inr hc⟩
  ·exact (hs.2 b (Nat.ne_of_lt (Nat.lt_of_lt_of_le (Heap.lt_size e) (I.ok.cab x c hfn hc)))).trans (I.base.keep b o e n hb hx)
  ·obtain ⟨sl,e1⟩:=I.base.slot b o e n hb hx
   exact ⟨sl,(hs.2 b (Nat.ne_of_lt (Nat.lt_of_lt_of_le (Heap.lt_size e) (I.ok.cab x c hfn hc)))).trans e1⟩
  ·obtain ⟨o',e1⟩:=I.base.there b o e hx
   exact ⟨o',(hs.2 b (Nat.ne_of_lt (Nat.lt_of_lt_of_le (Heap.lt_size e) (I.ok.cab x c hfn hc)))).trans e1⟩
  ·by_cases hj:j=i
   ·subst hj
    rw[hi] at e1;cases e1
    rw[List.getElem?_set_self hiσ] at e2
    cases e2
    exact ⟨u,r,.inr ⟨.inl hk,c,hc,hc'⟩⟩
   ·rw[List.getElem?_set_ne (Ne.symm hj)] at e2
    obtain ⟨u',r',q⟩:=hl j y v' e1 e2 e3
    refine ⟨u',r',?_⟩
    rcases q with q|⟨k,c',e,z'⟩
    ·exact .inl q
    ·refine .inr ⟨k,c',e,z'.sameBut hs ?_⟩
     rintro rfl
     exact hj (sL hN e1 (I.ok.inj _ _ _ e hc▸hi))
  ·by_cases hcc:c'=c
   ·subst hcc;exact ⟨_,hc'⟩
   ·obtain ⟨w2,z2⟩:=I.cell y c' e
    exact ⟨w2,z2.sameBut hs hcc⟩
  ·obtain ⟨e,n,ne,nf,d⟩:=I.pin p hp
   refine ⟨(hs.2 p.1 ?_).trans e,n,ne,nf,d⟩
   intro q
   rw[q,hoc] at e
   have q':oc=p.2:=Option.some.inj e
   exact d w' (by rw[<-q'];exact hocd)
theorem oD{M:Model}{A:Around}{E:Value->Shared->Prop}{i:Nat}{x:Str}{v:V}{u:Value}{Q:Unit->Shared->Prop}(I:Inv X pins σ H s)(hN:X.N.Nodup)(hi:X.N[i]? = some x)(hx:Loc X.env.scope x)(r:aQ v u)
  (h:∀ s',Inv X pins (σ.set i (some v)) H s'->Q () s') (hf:X.fn x=true\/X.env.scope.names.lookup x=some .local):wpAny M A (storeName X.env x u) Q E s:=
 y8 I hN hi hx r (fun s' I' _=>h s' I') hf
theorem Inv.call'{s':Shared}{ch:List Addr}(I:Inv X pins σ H s)(ho:s'.os=s.os)(u:Un (frs X.stack) ch H H' s.heap s'.heap)(hok:HOk X.prog X.w H' s'.heap)(hg:AllBare s'.gens)
  (hch:∀ b∈ch,(b∈X.ex\/X.s₀.heap.objs.size<=b)/\b≠X.env.locals/\(∀ x c,X.env.cells.lookup x=some c->c≠b)/\∀ p∈X.pn++pins,p.1≠b):Inv X pins σ H' s':=by
 obtain ⟨h',g',d',t',o'⟩:=s'
 have e:o'=s.os:=ho
 subst e
 exact I.call (g':=g') (t':=t') (d':=d') u hok hg hch
end
abbrev XK:=Value->Option Addr->Hp->Prop
abbrev St:=List (Option V)
abbrev VK:=V->Hp->Prop
abbrev TE:=St->Hp->VK->Prop
abbrev TT:=St->Hp->(Bool->Hp->Prop)->Prop
abbrev TA:=St->Hp->(List V->Hp->Prop)->Prop
structure mK where
 nx:St->Hp->Prop
 rt:VK
 bk:St->Hp->Prop:=fun _ _=>False
 ct:St->Hp->Prop:=fun _ _=>False
abbrev TS:=mK->St->Hp->Prop
def EP(X:Cx)(pins:List (Addr×Obj))(σ:St)(Q:VK)(u:Value)(s':Shared):Prop:=∃ v H',Inv X pins σ H' s'/\aQ v u/\Q v H'
def TP(X:Cx)(pins:List (Addr×Obj))(σ:St)(Q:Bool->Hp->Prop)(b:Bool)(s':Shared):Prop:=∃ H',Inv X pins σ H' s'/\Q b H'
def AP(X:Cx)(pins:List (Addr×Obj))(σ:St)(Q:List V->Hp->Prop)(us:List Value)(s':Shared):Prop:=∃ vs H',Inv X pins σ H' s'/\aY vs us/\Q vs H'
def SP(X:Cx)(pins:List (Addr×Obj))(D:mK)(f:Flow)(s':Shared):Prop:=
 match f with
 | .next=>∃ σ' H',Inv X pins σ' H' s'/\D.nx σ' H'
 | .brk=>∃ σ' H',Inv X pins σ' H' s'/\D.bk σ' H'
 | .cont=>∃ σ' H',Inv X pins σ' H' s'/\D.ct σ' H'
 | .ret u=>∃ v σ' H',Inv X pins σ' H' s'/\aQ v u/\D.rt v H'
def PE(X:Cx)(e:Expr)(t:TE):Prop:=
 ∀ (pins:List (Addr×Obj)) (s:Shared) (σ:St) (H:Hp) (Q:VK),Inv X pins σ H s->t σ H Q->wpAny (model X.prog X.w) X.A (eval e X.env) (EP X pins σ Q) X.xe s
def PT(X:Cx)(e:Expr)(t:TT):Prop:=
 ∀ (pins:List (Addr×Obj)) (s:Shared) (σ:St) (H:Hp) (Q:Bool->Hp->Prop),Inv X pins σ H s->t σ H Q->wpAny (model X.prog X.w) X.A (isTrue e X.env (eval e X.env)) (TP X pins σ Q) X.xe s
def PW(X:Cx)(e:Expr)(t:TT):Prop:=
 ∀ (whole:Sem Value) (pins:List (Addr×Obj)) (s:Shared) (σ:St) (H:Hp) (Q:Bool->Hp->Prop),Inv X pins σ H s->t σ H Q->wpAny (model X.prog X.w) X.A (isTrue e X.env whole) (TP X pins σ Q) X.xe s
theorem PW.pt{X:Cx}{e:Expr}{t:TT}(h:PW X e t):PT X e t:=h _
def PA(X:Cx)(es:List Expr)(t:TA):Prop:=
 ∀ (pos:Pos) (pins:List (Addr×Obj)) (s:Shared) (σ:St) (H:Hp) (Q:List V->Hp->Prop),Inv X pins σ H s->t σ H Q->wpAny (model X.prog X.w) X.A (spliced (backTo pos (starEach es X.env))) (AP X pins σ Q) X.xe s
def PS(X:Cx)(st:Stmt)(t:TS):Prop:=
 ∀ (pins:List (Addr×Obj)) (s:Shared) (σ:St) (H:Hp) (D:mK),Inv X pins σ H s->t D σ H->wpAny (model X.prog X.w) X.A (exec st X.env) (SP X pins D) X.xe s
def PSs(X:Cx)(st:List Stmt)(t:TS):Prop:=
 ∀ (pins:List (Addr×Obj)) (s:Shared) (σ:St) (H:Hp) (D:mK),Inv X pins σ H s->t D σ H->wpAny (model X.prog X.w) X.A (execs st X.env) (SP X pins D) X.xe s
theorem thn{α:Type}{t:Sem α}{Q Q':α->Shared->Prop}{M:Model}{A:Around}{E:Value->Shared->Prop}{s:Shared}(h:wpAny M A t Q E s)(hQ:∀ a s,Q a s->Q' a s):wpAny M A t Q' E s:=wpAny_mono h hQ fun _ _ x=>x
end L2
namespace L2
open PySem PySem.Spec PyProof.Rows
section
variable{X:Cx}
def fQ(i:Nat):TE:=fun σ H Q=>∃ v,σ[i]? = some (some v)/\Q v H
def tC(v:V):TE:=fun _ H Q=>Q v H
theorem aGY{i:Nat}{x:Str}{pos:Pos}(hN:X.N[i]? = some x)(hv:Vis X.env.scope x)(hd:(x == ("__debug__":Str))=false:=by decide)(hcd:(x == ("__classdict__":Str))=false:=by decide):PE X (.Name x pos) (fQ i):=by
 intro pins s σ H Q I h
 obtain ⟨v,e,h⟩:=h
 obtain ⟨m,hn,hl⟩:=I.loc
 obtain ⟨u,r,l⟩:=hl i x v hN e hv
 have fin:EP X pins σ Q u s:=⟨v,H,I,r,h⟩
 rcases l with ⟨hk,hm⟩|⟨hk,c,hc,hcell⟩
 ·exact wpAny_Name (wpAny_loadName_local I.ok.kind hk hn hm fin) hd
 ·rcases hk with hk|hk
  · exact wpAny_Name (wpAny_loadName_cell I.ok.kind hk hc hcell fin) hd
  · exact wpAny_Name (wpAny_loadName_free I.ok.kind hk hc hcell fin hcd) hd
theorem aGZ{i j pos}:PE X (.Constant (.int i) j pos) (tC (.int i)):=fun _ _ _ H _ I h=>wpAny_Constant_int ⟨.int i,H,I.tok _,⟨_,rfl⟩,h⟩
theorem aJL{b j pos}:PE X (.Constant (.bool b) j pos) (tC (.bl b)):=fun _ _ _ H _ I h=>Constant_bool ⟨.bl b,H,I,rfl,h⟩
theorem aG0{j pos}:PE X (.Constant .none j pos) (tC .non):=fun _ _ _ H _ I h=>Constant_none ⟨.non,H,I,rfl,h⟩
theorem aG1{x j pos}:PE X (.Constant (.str x) j pos) (tC (.str x)):=fun _ _ _ H _ I h=>Calls.Constant_str ⟨.str x,H,I.tok _,⟨_,rfl⟩,h⟩
def Gl(X:Cx)(x:Str):Prop:=X.env.kindOf x=some .globalImplicit
theorem pW{E:Value->Shared->Prop}{pins:List (Addr×Obj)}{s:Shared}{σ:St}{H:Hp}{x:Str}{u:Value}{pos:Pos}{Q:Value->Shared->Prop}(I:Inv X pins σ H s)(hg:Gl X x)(hm:X.mg x=some u)(h:Q u s)
  (hd:(x == ("__debug__":Str))=false:=by decide):wpAny (model X.prog X.w) X.A (eval (.Name x pos) X.env) Q E s:=
 Calls.Name_function_global I.ok.kind hg (Calls.loadGlobal_global (by rw[I.ok.glob];exact I.mod.glob.keeps I.bk) hm h) hd
theorem iT{E:Value->Shared->Prop}{pins:List (Addr×Obj)}{s:Shared}{σ:St}{H:Hp}{x:Str}{u:Value}{pos:Pos}{Q:Value->Shared->Prop}(I:Inv X pins σ H s)(hg:Gl X x)(hm:X.mg x=none)(hv:bootBuiltins x=some u)(h:Q u s)
  (hn:x≠"__name__":=by decide) (hd:(x == ("__debug__":Str))=false:=by decide):wpAny (model X.prog X.w) X.A (eval (.Name x pos) X.env) Q E s:=by
 obtain ⟨mb,h1,h2⟩:=I.mod.blt
 exact Calls.Name_function_global I.ok.kind hg (Calls.loadGlobal_builtin (by rw[I.ok.glob];exact I.mod.glob.keeps I.bk) hm (by rw[I.ok.blt];exact h1.keeps I.bk) ((h2 x hn).trans hv) h) hd
theorem aEH{x:Str}{v:V}{u:Value}{pos:Pos}(hg:Gl X x)(hm:X.mg x=some u)(r:aQ v u)(hd:(x == ("__debug__":Str))=false:=by decide):PE X (.Name x pos) (tC v):=
 fun _ _ _ H _ I h=>pW I hg hm ⟨v,H,I,r,h⟩ hd
theorem jJ{x:Str}{v:V}{u:Value}{pos:Pos}(hg:Gl X x)(hm:X.mg x=none)(hv:bootBuiltins x=some u)(r:aQ v u)(hn:x≠"__name__":=by decide)(hd:(x == ("__debug__":Str))=false:=by decide):PE X (.Name x pos) (tC v):=
 fun _ _ _ H _ I h=>iT I hg hm hv ⟨v,H,I,r,h⟩ hn hd
variable{a b:Expr}{ta tb:TE}{pos:Pos}
def PC(X:Cx)(op:CmpOp)(a b:Expr)(t:TE):Prop:=
 ∀ (pins:List (Addr×Obj)) (s:Shared) (σ:St) (H:Hp) (Q:VK),Inv X pins σ H s->t σ H Q->
  wpAny (model X.prog X.w) X.A (eval a X.env) (fun v s₁=>wpAny (model X.prog X.w) X.A (eval b X.env) (fun u s₂=>wpAny (model X.prog X.w) X.A (compareOp op v u) (EP X pins σ Q) X.xe s₂) X.xe s₁) X.xe s
theorem aBU(b:Expr){op:CmpOp}(h:op≠.In)(h2:op≠.NotIn):behindInMarks op b=false:=by
 have e1:(op == CmpOp.In)=false:=by cases op<;>first|rfl|exact absurd rfl h
 have e2:(op == CmpOp.NotIn)=false:=by cases op<;>first|rfl|exact absurd rfl h2
 cases b<;>simp[behindInMarks,e1,e2]
def tB(t:TE):TT:=fun σ H Q=>t σ H fun x H1=>∃ c,x=.bl c/\Q c H1
theorem dI{op:CmpOp}{t:TE}(h:PC X op a b t)(h1:behindInMarks op b=false:=by first|exact aBU _ (by decide) (by decide)|rfl):PT X (.Compare a [op] [b] pos) (tB t):=by
 intro pins s σ H Q I hw
 refine wpAny_isTrue_Compare1 (thn (h pins s σ H _ I hw) fun v s1 h1=>thn h1 fun u s2 h2=>thn h2 fun c s3 zz0=>?_) h1
 obtain ⟨x,H1,I1,r1,q1⟩:=zz0
 obtain ⟨d,rfl,q⟩:=q1
 cases r1
 exact wpAny_truthy_bool ⟨H1,I1,q⟩
theorem fR{e:Expr}{t:TE}(h:PE X e t)(he:∀ whole,isTrue e X.env whole=(do let v <-whole;standAt e.pos;holding [v] (truthy v)):=by intro _;rfl):PT X e (tB t):=by
 intro pins s σ H Q I hw
 refine isTrue_plain (thn (h pins s σ H _ I hw) fun v s1 zz0=>?_) (he _)
 obtain ⟨x,H1,I1,r1,q1⟩:=zz0
 obtain ⟨d,rfl,q⟩:=q1
 cases r1
 exact wpAny_truthy_bool ⟨H1,I1,q⟩
variable{tA tB':TT}{rest:List Expr}
def aG2(t u:TT):TT:=fun σ H Q=>t σ H fun c H1=>if c=true then u σ H1 Q else Q false H1
def tOr(t u:TT):TT:=fun σ H Q=>t σ H fun c H1=>if c=true then Q true H1 else u σ H1 Q
def aKS(t:TT):TT:=fun σ H Q=>t σ H fun c H1=>Q (!c) H1
theorem k8(ha:PT X a tA):PW X (.BoolOp .And [a] pos) tA:=by
 intro wh pins s σ H Q I h
 refine isTrue_and (thn (ha pins s σ H Q I h) fun c s1 e=>?_)
 cases c with
 | true=>exact isTrue_and_nil e
 | false=>exact e
theorem k9(ha:PT X a tA):PW X (.BoolOp .Or [a] pos) tA:=by
 intro wh pins s σ H Q I h
 refine isTrue_or (thn (ha pins s σ H Q I h) fun c s1 e=>?_)
 cases c with
 | false=>exact isTrue_or_nil e
 | true=>exact e
theorem mS(ha:PT X a tA)(hb:PW X (.BoolOp .And (b::rest) pos) tB'):PW X (.BoolOp .And (a::b::rest) pos) (aG2 tA tB'):=by
 intro wh pins s σ H Q I h
 refine isTrue_and (thn (ha pins s σ H _ I h) fun c s1 zz0=>?_)
 obtain ⟨H1,I1,q1⟩:=zz0
 cases c with
 | true=>exact hb wh pins s1 σ H1 Q I1 q1
 | false=>exact ⟨H1,I1,q1⟩
theorem kF(ha:PT X a tA)(hb:PW X (.BoolOp .Or (b::rest) pos) tB'):PW X (.BoolOp .Or (a::b::rest) pos) (tOr tA tB'):=by
 intro wh pins s σ H Q I h
 refine isTrue_or (thn (ha pins s σ H _ I h) fun c s1 zz0=>?_)
 obtain ⟨H1,I1,q1⟩:=zz0
 cases c with
 | true=>exact ⟨H1,I1,q1⟩
 | false=>exact hb wh pins s1 σ H1 Q I1 q1
theorem hZ(ha:PT X a tA):PT X (.UnaryOp .Not a pos) (aKS tA):=by
 intro pins s σ H Q I h
 exact isTrue_not (ha pins s σ H (fun c H1=>Q (!c) H1) I h)
def aJM(ta tb:TE):TE:=fun σ H Q=>ta σ H fun x H1=>∃ c,x=.bl c/\if c=true then tb σ H1 Q else Q (.bl false) H1
theorem aG3{op}{t:TE}(h:PE X a t):PE X (.BoolOp op [a] pos) t:=fun pins s σ H Q I hw=>BoolOp_one (h pins s σ H Q I hw)
theorem aG4(ha:PE X a ta)(hb:PE X (.BoolOp .And (b::rest) pos) tb):PE X (.BoolOp .And (a::b::rest) pos) (aJM ta tb):=by
 intro pins s σ H Q I h
 refine BoolOp_and (thn (ha pins s σ H _ I h) fun v s1 zz0=>?_)
 obtain ⟨x,H1,I1,r1,q1⟩:=zz0
 obtain ⟨c,rfl,q1⟩:=q1
 cases r1
 refine wpAny_truthy_bool ?_
 cases c with
 | true=>exact hb pins s1 σ H1 Q I1 q1
 | false=>exact ⟨.bl false,H1,I1,rfl,q1⟩
end
end L2
namespace L2
open PySem PySem.Spec PyProof.Rows
def SqL(K:Frag)(H:Hp)(a:Addr)(xs:List V):Prop:=
 Rd H a (.lst xs) \/
  ∃ (o:Obj) (its:Array Value) (n:Nat),K.lookup a=some o/\o.cls=.type "list"/\o.dict=none/\o.data=.seq its n/\its.size<=sizeLine/\aY xs its.toList
def SqT(K:Frag)(H:Hp)(a:Addr)(xs:List V):Prop:=
 Rd H a (.tup xs) \/
  ∃ (o:Obj) (its:Array Value) (n:Nat),K.lookup a=some o/\o.cls=.type "tuple"/\o.data=.seq its n/\its.size<=sizeLine/\aY xs its.toList
noncomputable def aKT:Value->Option V
 | .none=>some .non
 | .bool b=>some (.bl b)
 | .int i _=>some (.int i)
 | .str x _=>some (.str x)
 | .bytes b _=>some (.byt b)
 | .float b _=>some (.flt b)
 | .ref a=>some (.ref a)
 | .type n=>some (.ty n)
 | _=>none
theorem aQ.abs{x:V}{u:Value}(r:aQ x u):aKT u=some x:=by
 cases x with
 | non=>cases r;rfl
 | bl _=>cases r;rfl
 | int _=>obtain ⟨t,rfl⟩:=r;rfl
 | str _=>obtain ⟨t,rfl⟩:=r;rfl
 | byt _=>obtain ⟨t,rfl⟩:=r;rfl
 | flt _=>obtain ⟨t,rfl⟩:=r;rfl
 | ref _=>cases r;rfl
 | ty _=>cases r;rfl
theorem aQ.inj{x y:V}{u:Value}(r:aQ x u)(q:aQ y u):x=y:=Option.some.inj (r.abs.symm.trans q.abs)
theorem aY.inj:∀ {xs ys:List V} {us:List Value},aY xs us->aY ys us->xs=ys
 | _,_,_,.nil,.nil=>rfl
 | _,_,_,.cons r t,.cons r' t'=>by rw[r.inj r',aY.inj t t']
section
variable{X:Cx}{pins:List (Addr×Obj)}{σ:St}{H:Hp}{s:Shared}{a:Addr}{xs ys:List V}
theorem SqL.of{K:Frag}(h:H a=some (.lst xs)):SqL K H a xs:=.inl (.inl h)
theorem SqT.of{K:Frag}(h:H a=some (.tup xs)):SqT K H a xs:=.inl (.inl h)
theorem Inv.list(I:Inv X pins σ H s)(h:SqL X.K H a xs):∃ its:List Value,aY xs its/\PlainL s.heap a its.toArray/\xs.length<=sizeLine:=by
 rcases h with h|⟨o,its,n,hk,hc,hd,hs,hz,r⟩
 ·obtain ⟨z,its,n,r,e⟩:=h.ok I.hok
  exact ⟨its,r,⟨_,n,e,rfl,rfl,rfl⟩,z⟩
 ·refine ⟨its.toList,r,⟨o,n,I.kIn a o hk,hc,hd,by simpa using hs⟩,?_⟩
  have e:=r.length
  simp only[Array.length_toList] at e
  omega
theorem Inv.tuple(I:Inv X pins σ H s)(h:SqT X.K H a xs):∃ its:List Value,aY xs its/\IsTup s.heap a its.toArray/\xs.length<=sizeLine:=by
 rcases h with h|⟨o,its,n,hk,hc,hs,hz,r⟩
 ·obtain ⟨z,its,r,p⟩:=h.ok I.hok
  exact ⟨its,r,p,z⟩
 ·refine ⟨its.toList,r,⟨o,I.kIn a o hk,hc,n,by simpa using hs⟩,?_⟩
  have e:=r.length
  simp only[Array.length_toList] at e
  omega
theorem Inv.list_inj(I:Inv X pins σ H s)(h:SqL X.K H a xs)(h':SqL X.K H a ys):xs=ys:=by
 obtain ⟨its,r,⟨o,n,e,_,_,d⟩,_⟩:=I.list h
 obtain ⟨its',r',⟨o',n',e',_,_,d'⟩,_⟩:=I.list h'
 rw[e] at e';cases e'
 rw[d] at d'
 injection d' with d1 _
 have:its=its':=by simpa using congrArg Array.toList d1
 subst this
 exact r.inj r'
theorem Inv.tuple_inj(I:Inv X pins σ H s)(h:SqT X.K H a xs)(h':SqT X.K H a ys):xs=ys:=by
 obtain ⟨its,r,⟨o,e,_,n,d⟩,_⟩:=I.tuple h
 obtain ⟨its',r',⟨o',e',_,n',d'⟩,_⟩:=I.tuple h'
 rw[e] at e';cases e'
 rw[d] at d'
 injection d' with d1 _
 have:its=its':=by simpa using congrArg Array.toList d1
 subst this
 exact r.inj r'
end
abbrev Cx.wish(X:Cx)(E:Value->Shared->Prop):Cx:={X with xe:=E}
abbrev Cx.nox(X:Cx):Cx:=X.wish fun _ _=>False
theorem Cx.Ok.wish{X:Cx}(ok:X.Ok)(E:Value->Shared->Prop):(X.wish E).Ok:=
 ⟨ok.mod,ok.kind,ok.glob,ok.blt,ok.above,ok.inj,ok.has,ok.cab,ok.hd,ok.frames,ok.stk,ok.exf,ok.bs,ok.bsz,ok.noex,ok.exfs,ok.funs,ok.frf⟩
theorem Cx.Ok.unwish{X:Cx}{E:Value->Shared->Prop}(ok:(X.wish E).Ok):X.Ok:=
 ⟨ok.mod,ok.kind,ok.glob,ok.blt,ok.above,ok.inj,ok.has,ok.cab,ok.hd,ok.frames,ok.stk,ok.exf,ok.bs,ok.bsz,ok.noex,ok.exfs,ok.funs,ok.frf⟩
section
variable{X:Cx}{pins:List (Addr×Obj)}{σ:St}{H:Hp}{s:Shared}{E:Value->Shared->Prop}
theorem Inv.wish(I:Inv X pins σ H s)(E:Value->Shared->Prop):Inv (X.wish E) pins σ H s:=⟨I.ok.wish E,I.os,I.bare,I.base,I.loc,I.cell,I.free,I.freeC,I.pin,I.hok,I.len⟩
theorem Inv.unwish(I:Inv (X.wish E) pins σ H s):Inv X pins σ H s:=⟨I.ok.unwish,I.os,I.bare,I.base,I.loc,I.cell,I.free,I.freeC,I.pin,I.hok,I.len⟩
theorem SP.unwish{D:mK}{f:Flow}{s':Shared}(h:SP (X.wish E) pins D f s'):SP X pins D f s':=by
 cases f with
 | next=>obtain ⟨σ',H',I,q⟩:=h;exact ⟨σ',H',I.unwish,q⟩
 | brk=>obtain ⟨σ',H',I,q⟩:=h;exact ⟨σ',H',I.unwish,q⟩
 | cont=>obtain ⟨σ',H',I,q⟩:=h;exact ⟨σ',H',I.unwish,q⟩
 | ret u=>obtain ⟨v,σ',H',I,r,q⟩:=h;exact ⟨v,σ',H',I.unwish,r,q⟩
theorem PE.nox{e:Expr}{t:TE}(h:PE X.nox e t):PE X e t:=fun pins s σ H Q I hw=>
 wpAny_mono (h pins s σ H Q (I.wish _) hw) (fun _ _ ⟨v,H',I',r,q⟩=>⟨v,H',I'.unwish,r,q⟩) fun _ _ z=>False.elim z
theorem PT.nox{e:Expr}{t:TT}(h:PT X.nox e t):PT X e t:=fun pins s σ H Q I hw=>
 wpAny_mono (h pins s σ H Q (I.wish _) hw) (fun _ _ ⟨H',I',q⟩=>⟨H',I'.unwish,q⟩) fun _ _ z=>False.elim z
theorem PSs.nox{st:List Stmt}{t:TS}(h:PSs X.nox st t):PSs X st t:=fun pins s σ H D I hw=>
 wpAny_mono (h pins s σ H D (I.wish _) hw) (fun _ _ q=>q.unwish) fun _ _ z=>False.elim z
end
section
variable{X:Cx}{st:Stmt}{rest:List Stmt}{t u:TS}{e:Expr}{te:TE}{pos:Pos}
def aJN:TS:=fun D σ H=>D.nx σ H
def aKU(t u:TS):TS:=fun D σ H=>t {D with nx:=u D} σ H
theorem dA:PSs X [] aJN:=fun _ _ σ H _ I h=>wpAny_execs_nil ⟨σ,H,I,h⟩
theorem aE(h1:PS X st t)(h2:PSs X rest u):PSs X (st::rest) (aKU t u):=by
 intro pins s σ H D I h
 refine wpAny_execs_cons (thn (h1 pins s σ H {D with nx:=u D} I h) fun f s1 q=>?_)
 cases f with
 | next=>
  obtain ⟨σ',H',I',q⟩:=q
  exact h2 pins s1 σ' H' D I' q
 | ret v=>exact q
 | brk=>exact q
 | cont=>exact q
theorem aO(h1:PS X st t):PSs X [st] t:=by
 intro pins s σ H D I h
 refine wpAny_execs_cons (thn (h1 pins s σ H D I h) fun f s1 q=>?_)
 cases f with
 | next=>exact wpAny_execs_nil q
 | ret v=>exact q
 | brk=>exact q
 | cont=>exact q
theorem Inv.quiet{pins:List (Addr×Obj)}{σ:St}{H:Hp}{s:Shared}(I:Inv X pins σ H s):interactive X.env=false:=by simp[interactive,I.ok.kind]
def o5(te:TE):TS:=fun D σ H=>te σ H fun _ H1=>D.nx σ H1
theorem dZ(he:PE X e te)(hs:swapsWith e none pos.line X.env=pure false:=by rfl):PS X (.Expr e pos) (o5 te):=by
 intro pins s σ H D I h
 exact wpAny_Expr_any (thn (he pins s σ H _ I h) fun v s1 ⟨x,H1,I1,r1,q1⟩=>⟨σ,H1,I1,q1⟩) I.quiet hs
def aKV(te:TE):TS:=fun D σ H=>te σ H D.rt
theorem cH(he:PE X e te):PS X (.Return (some e) pos) (aKV te):=by
 intro pins s σ H D I h
 exact wpAny_Return_some (thn (he pins s σ H _ I h) fun v s1 ⟨x,H1,I1,r1,q1⟩=>⟨x,σ,H1,I1,r1,q1⟩)
def aKW(c:TT)(t u:TS):TS:=fun D σ H=>c σ H fun b H1=>if b=true then t D σ H1 else u D σ H1
theorem eO{c:Expr}{a b:List Stmt}{tc:TT}(hc:PT X c tc)(ha:PSs X a t)(hb:PSs X b u):PS X (.If c a b pos) (aKW tc t u):=by
 intro pins s σ H D I h
 refine wpAny_If (thn (hc pins s σ H _ I h) fun d s1 zz0=>?_)
 obtain ⟨H1,I1,q1⟩:=zz0
 cases d with
 | true=>exact ha pins s1 σ H1 D I1 q1
 | false=>exact hb pins s1 σ H1 D I1 q1
end
abbrev TG:=V->St->Hp->(St->Hp->Prop)->Prop
abbrev TGs:=List V->St->Hp->(St->Hp->Prop)->Prop
def PG(X:Cx)(target:Expr)(t:TG):Prop:=
 ∀ (pins:List (Addr×Obj)) (s:Shared) (σ:St) (H:Hp) (v:V) (u:Value) (Q:St->Hp->Prop),Inv X pins σ H s->aQ v u->t v σ H Q->
  wpAny (model X.prog X.w) X.A (assign target X.env u) (fun _ s'=>∃ σ' H',Inv X pins σ' H' s'/\Q σ' H') X.xe s
def PGs(X:Cx)(ts:List Expr)(t:TGs):Prop:=
 ∀ (pins:List (Addr×Obj)) (s:Shared) (σ:St) (H:Hp) (vs:List V) (us:List Value) (Q:St->Hp->Prop),Inv X pins σ H s->aY vs us->t vs σ H Q->
  wpAny (model X.prog X.w) X.A (assignInOrder ((assignEach ts X.env).map (·.2)) us) (fun _ s'=>∃ σ' H',Inv X pins σ' H' s'/\Q σ' H') X.xe s
abbrev xB:=V->V->V->Hp->(Hp->Prop)->Prop
def aG5(X:Cx)(t:xB):Prop:=
 ∀ (pins:List (Addr×Obj)) (s:Shared) (σ:St) (H:Hp) (o i v:V) (ov iv u:Value) (Q:Hp->Prop),Inv X pins σ H s->aQ o ov->aQ i iv->aQ v u->t o i v H Q->
  wpAny (model X.prog X.w) X.A (setItem ov iv u) (fun _ s'=>∃ H',Inv X pins σ H' s'/\Q H') X.xe s
section
variable{X:Cx}{pos:Pos}
def jE(i:Nat):TG:=fun v σ H Q=>Q (σ.set i (some v)) H
theorem bP{i:Nat}{x:Str}(hN:X.N.Nodup)(hi:X.N[i]? = some x)(hx:Loc X.env.scope x)(hf:X.fn x=true\/X.env.scope.names.lookup x=some .local:=by first|exact .inl rfl|exact .inr rfl):PG X (.Name x pos) (jE i):=by
 intro pins s σ H v u Q I r h
 exact wpAny_assign_Name (oD I hN hi hx r (fun s' I'=>⟨_,H,I',h⟩) hf)
def aG6:TGs:=fun vs σ H Q=>vs=[]/\Q σ H
def aDN(t:TG)(u:TGs):TGs:=fun vs σ H Q=>∃ v r,vs=v::r/\t v σ H fun σ' H'=>u r σ' H' Q
theorem iD:PGs X [] aG6:=by
 intro pins s σ H vs us Q I r h
 obtain ⟨e,h⟩:=h
 subst e
 cases r
 exact assignInOrder_nil ⟨σ,H,I,h⟩
theorem c6{e:Expr}{es:List Expr}{t:TG}{u:TGs}(h1:PG X e t)(h2:PGs X es u)
  (hs:(assignEach (e::es) X.env).map (·.2)=assign e X.env::(assignEach es X.env).map (·.2):=by rfl):PGs X (e::es) (aDN t u):=by
 intro pins s σ H vs us Q I r h
 obtain ⟨v,vr,e1,h⟩:=h
 subst e1
 cases r with
 | cons r rr=>
  rw[hs]
  refine assignInOrder_cons (thn (h1 pins s σ H _ _ _ I r h) fun _ s1 zz0=>?_)
  obtain ⟨σ1,H1,I1,q1⟩:=zz0
  exact h2 pins s1 σ1 H1 _ _ Q I1 rr q1
def aG7(K:Frag)(n:Nat)(t:TGs):TG:=fun v σ H Q=>∃ a xs,v=.ref a/\SqT K H a xs/\xs.length=n/\t xs σ H Q
theorem jS{es:List Expr}{k:Nat}{t:TGs}{n:Nat}(hc:X.calm=true)(h:PGs X es t)
  (hn:(assignEach es X.env).length=n:=by rfl) (hst:(assignEach es X.env).findIdx? (·.1)=none:=by rfl):PG X (.Tuple es k pos) (aG7 X.K n t):=by
 intro pins s σ H v u Q I r hw
 obtain ⟨a,xs,e1,hq,hl,hw⟩:=hw
 subst e1
 cases r
 obtain ⟨its,rv,ht,hz⟩:=I.tuple hq
 refine assign_Tuple_tuple (I.ok.hd hc) ht (by simp[hn,<-hl,rv.length]) hst fun h' hx=>?_
 have I1:Inv X pins σ H {s with heap:=h'}:=I.kept (t':=s.toks) fun b o e=>hx b o (Nat.ne_of_lt (Heap.lt_size e)) e
 exact h pins _ σ H xs _ Q I1 (by simpa using rv) hw
def aG8(to ti:TE)(t:xB):TG:=fun v σ H Q=>to σ H fun o H1=>ti σ H1 fun i H2=>t o i v H2 fun H3=>Q σ H3
theorem y9{o i:Expr}{to ti:TE}{t:xB}(ho:PE X o to)(hi:PE X i ti)(hs:aG5 X t)
  (ha:∀ v,assign (.Subscript o i pos) X.env v=(do
   let ov <-holding [v] (eval o X.env)
   let iv <-holding [v,ov] (eval i X.env)
   standAt pos
   holding [v,ov,iv] (setItem ov iv v)
   release [v,ov,iv] []):=by intro _;rfl):PG X (.Subscript o i pos) (aG8 to ti t):=by
 intro pins s σ H v u Q I r h
 rw[ha]
 refine wpAny_bind (wpAny_holding (thn (ho pins s σ H _ I h) fun ov s1 zz0=>?_))
 obtain ⟨x,H1,I1,r1,q1⟩:=zz0
 refine wpAny_bind (wpAny_holding (thn (hi pins s1 σ H1 _ I1 q1) fun iv s2 zz0=>?_))
 obtain ⟨y,H2,I2,r2,q2⟩:=zz0
 refine wpAny_bind (wpAny_standAt (wpAny_bind (wpAny_holding (thn (hs pins s2 σ H2 x y v ov iv u _ I2 r1 r2 r q2) fun _ s3 zz0=>?_))))
 obtain ⟨H3,I3,q3⟩:=zz0
 exact wpAny_release ⟨σ,H3,I3,q3⟩
def kW(te:TE)(g:TG):TS:=fun D σ H=>te σ H fun x H1=>g x σ H1 D.nx
theorem mT{tg e:Expr}{te:TE}{g:TG}(he:PE X e te)(hg:PG X tg g)(hs:swapsWithSole [tg] e pos.line X.env=pure false:=by rfl)(hw:swappedStores [tg] e X.env=pure none:=by rfl)
  (h1:(assignEach [tg] X.env).map (·.2)=[assign tg X.env]:=by rfl):PS X (.Assign [tg] e pos) (kW te g):=by
 intro pins s σ H D I h
 refine wpAny_Assign_stores (thn (he pins s σ H _ I h) fun v s1 zz0=>?_) hs hw
 obtain ⟨x,H1,I1,r1,q1⟩:=zz0
 rw[h1]
 exact thn (hg pins s1 σ H1 x v _ I1 r1 q1) fun _ s2 q=>q
theorem aH{i:Nat}{x:Str}{e:Expr}{te:TE}{pos':Pos}(hN:X.N.Nodup)(hi:X.N[i]? = some x)(hx:Loc X.env.scope x)(he:PE X e te)(hs:swapsWith e (some (.Name x pos')) pos.line X.env=pure false:=by rfl)(hf:X.fn x=true\/X.env.scope.names.lookup x=some .local:=by exact .inl rfl) :
  PS X (.Assign [.Name x pos'] e pos) (kW te (jE i)):=by
 intro pins s σ H D I h
 refine wpAny_Assign_Name (thn (he pins s σ H _ I h) fun v s1 zz0=>?_) hs
 obtain ⟨y,H1,I1,r1,q1⟩:=zz0
 exact oD I1 hN hi hx r1 (fun s2 I2=>⟨_,H1,I2,q1⟩) hf
end
section
variable{X:Cx}{pos:Pos}
def zA(c:TT)(tb:TS):TS:=fun D σ H=>∃ W:Nat->St->Hp->Prop,(∃ m,W m σ H)/\∀ m σ H,W m σ H->
 c σ H fun b H1=>if b=true then ∃ N:St->Hp->Prop,(∀ σ' H',N σ' H'->∃ m',m' < m/\W m' σ' H')/\tb {D with nx:=N,ct:=N,bk:=D.nx} σ H1 else D.nx σ H1
theorem eB{c:Expr}{body:List Stmt}{tc:TT}{tb:TS}(hp:PassesOwn (model X.prog X.w) X.A X.env X.xe)(hc:PT X c tc)(hb:PSs X body tb):PS X (.While c body [] pos) (zA tc tb):=by
 intro pins s σ H D I h
 obtain ⟨W,⟨m0,w0⟩,turn⟩:=h
 refine wpAny_While (codeAny_whileLoop (fun n s'=>∃ σ' H',Inv X pins σ' H' s'/\W n σ' H') ?_ m0 ⟨σ,H,I,w0⟩)
 rintro n s1 ⟨σ1,H1,I1,w1⟩
 refine wpAny_passesOwn hp (thn (hc pins s1 σ1 H1 _ I1 (turn n σ1 H1 w1)) fun b s2 zz0=>?_)
 obtain ⟨H2,I2,q2⟩:=zz0
 cases b with
 | true=>
  obtain ⟨N,hN,q2⟩:=q2
  rw[if_pos rfl]
  refine wpAny_passesOwn hp (thn (hb pins s2 σ1 H2 _ I2 q2) fun f s3 q3=>?_)
  cases f with
  | next=>
   obtain ⟨σ3,H3,I3,n3⟩:=q3
   obtain ⟨m',hm,w3⟩:=hN σ3 H3 n3
   exact ⟨m',hm,σ3,H3,I3,w3⟩
  | cont=>
   obtain ⟨σ3,H3,I3,n3⟩:=q3
   obtain ⟨m',hm,w3⟩:=hN σ3 H3 n3
   exact ⟨m',hm,σ3,H3,I3,w3⟩
  | brk=>exact q3
  | ret v=>exact q3
 | false=>
  rw[if_neg Bool.false_ne_true]
  exact wpAny_execs_nil ⟨σ1,H2,I2,q2⟩
end
structure It where
 go:Nat->Hp->Prop
 yld:Nat->Hp->V->Hp->Prop
 stop:Nat->Hp->Prop
def gB(X:Cx)(pins:List (Addr×Obj))(H:Hp)(b:Addr):Prop:=
 H b=none/\b≠X.env.locals/\b∉X.fs/\(b∈X.ex\/X.s₀.heap.objs.size<=b)/\(∀ x c,X.env.cells.lookup x=some c->c≠b)/\∀ p∈X.pn++pins,p.1≠b
theorem Inv.fpOk{X:Cx}{pins:List (Addr×Obj)}{σ:St}{H H':Hp}{s:Shared}{b:Addr}(I:Inv X pins σ H s)(hb:s.heap.objs.size<=b)(hn:H' b=none):gB X pins H' b:=by
 refine ⟨hn,Nat.ne_of_gt (Nat.lt_of_lt_of_le I.lt hb),I.nofs hb,.inr (Nat.le_trans I.sz hb),fun x c e z=>?_,fun p hp z=>?_⟩
 ·obtain ⟨v,q⟩:=I.cell x c e
  exact absurd (Nat.lt_of_lt_of_le q.lt (by rw[z];exact hb)) (Nat.lt_irrefl _)
 ·exact absurd (Nat.lt_of_lt_of_le (Heap.lt_size (I.pin p hp).1) (by rw[z];exact hb)) (Nat.lt_irrefl _)
structure Turn(P:Program)(w:World)(K:Frag)(tg:Expr)(J:It)(fp:List Addr)(it:Addr)(tn:Nat->Heap->Prop):Prop where
 mem:it∈fp
 obj:∀ i h,tn i h->∀ b∈fp,∃ o,h.get? b=some o/\∀ v,o.data≠.cell v
 keep:∀ i h h',tn i h->(∀ b∈fp,∀ o,h.get? b=some o->h'.get? b=some o)->tn i h'
 item:∀ (X:Cx),X.prog=P->X.w=w->X.K=K->X.calm=true->∀ (i:Nat) (pins:List (Addr×Obj)) (s:Shared) (σ:St) (H:Hp) (E:Value->Shared->Prop),Inv X pins σ H s->(∀ b∈fp,gB X pins H b)->tn i s.heap->J.go i H->
  wpAny (model P w) X.A (pyNext (.ref it)) (fun r s1=>∃ u,r=some u /\
   wpAny (model P w) X.A (letOwnedTupleGo tg (.ref it) u) (fun _ s2=>∃ x H',Inv X pins σ H' s2/\aQ x u/\J.yld i H x H'/\tn (i+1) s2.heap/\∀ b∈fp,H' b=none) E s1) E s
 done:∀ (X:Cx),X.prog=P->X.w=w->X.K=K->X.calm=true->∀ (i:Nat) (pins:List (Addr×Obj)) (s:Shared) (σ:St) (H:Hp) (E:Value->Shared->Prop),Inv X pins σ H s->(∀ b∈fp,gB X pins H b)->tn i s.heap->J.stop i H->
  wpAny (model P w) X.A (pyNext (.ref it)) (fun r s1=>r=none/\Inv X pins σ H s1) E s
 self:∀ (A:Around) (i:Nat) (s:Shared) (Q:Value->Shared->Prop) (E:Value->Shared->Prop),tn i s.heap->Q (.ref it) s->wpAny (model P w) A (pyIter (.ref it)) Q E s
abbrev TI:=St->Hp->(It->Hp->Prop)->Prop
def PIE(X:Cx)(pins:List (Addr×Obj))(σ:St)(tg:Expr)(R:It->Hp->Prop)(itv:Value)(s2:Shared):Prop:=
 ∃ (it:Addr) (fp:List Addr) (tn:Nat->Heap->Prop) (J:It) (H':Hp),itv=.ref it/\Inv X pins σ H' s2/\Turn X.prog X.w X.K tg J fp it tn/\tn 0 s2.heap/\(∀ b∈fp,gB X pins H' b)/\R J H'
def PI(X:Cx)(tg iter:Expr)(wi:TI):Prop:=
 ∀ (pins:List (Addr×Obj)) (s:Shared) (σ:St) (H:Hp) (R:It->Hp->Prop),Inv X pins σ H s->wi σ H R->
  wpAny (model X.prog X.w) X.A (eval iter X.env) (fun v s1=>wpAny (model X.prog X.w) X.A (pyIter v) (PIE X pins σ tg R) X.xe s1) X.xe s
theorem o6 {M : Model} {A : Around} {E : Value -> Shared -> Prop} {s : Shared} {tg : Expr} {it : Addr} {u : Value} {o : Obj} {n : String} {vs : Array Value} {Q : Unit -> Shared -> Prop} (ho : s.heap.get? it = some o) (hc : o.cls = .type n) (hd : o.data = .fields vs)
    (hn : ["enumerate", "zip", "dict_itemiterator", "dict_reverseitemiterator", "odict_iterator", "itertools.zip_longest", "itertools.pairwise"].contains n = false) (hQ : Q () s) : wpAny M A (letOwnedTupleGo tg (.ref it) u) Q E s := by
  unfold letOwnedTupleGo
  cases tg <;> first
    | exact wpAny_pure hQ
    | (cases u <;> first
        | exact wpAny_pure hQ
        | (refine wpAny_bind (wpAny_load ho ?_)
           rw [hc, hd]
           show wpAny M A (if (["enumerate", "zip", "dict_itemiterator", "dict_reverseitemiterator", "odict_iterator", "itertools.zip_longest", "itertools.pairwise"].contains n && vs[0]? == some (rawInt _)) = true then _ else _) Q E s
           rw [if_neg (by intro h; rw [hn, Bool.false_and] at h; cases h)]
           exact wpAny_pure hQ))
def Itl(K:Frag)(a:Addr):It:=
 ⟨fun i H=>∃ xs x,SqL K H a xs/\xs[i]? = some x,fun i H x H'=>H'=H/\∀ xs,SqL K H a xs->xs[i]? = some x,fun i H=>∃ xs,SqL K H a xs/\xs.length<=i⟩
def Itt(K:Frag)(a:Addr):It:=
 ⟨fun i H=>∃ xs x,SqT K H a xs/\xs[i]? = some x,fun i H x H'=>H'=H/\∀ xs,SqT K H a xs->xs[i]? = some x,fun i H=>∃ xs,SqT K H a xs/\xs.length<=i⟩
noncomputable def Itr(lo:Int)(n:Nat):It:=⟨fun i _=>i < n,fun i H x H'=>H'=H/\x=.int (lo+i),fun i _=>n<=i⟩
theorem zB{P:Program}{w:World}{K:Frag}{tg:Expr}(a it:Addr):Turn P w K tg (Itl K a) [it] it (fun i h=>h.IsListIter it a i) where
 mem:=by simp
 obj:=fun i h st b hb=>by
  have e:b=it:=by simpa using hb
  subst e
  obtain ⟨o,e,c,d⟩:=st
  exact ⟨o,e,fun v z=>by rw[d] at z;cases z⟩
 keep:=fun i h h' st k=>st.at fun o e=>k it (by simp) o e
 item:=by
  intro X hP hw hK hc i pins s σ H E I hf st hg
  subst hP hw hK
  obtain ⟨xs,x,hq,hx⟩:=hg
  obtain ⟨its,rv,p,hz⟩:=I.list hq
  obtain ⟨u,hu,ru⟩:=rv.get hx
  obtain ⟨f0,f1,f2,f3,f4,f5⟩:=hf it (by simp)
  refine wpAny_pyNext_list_item st p.isList (x:=u) (by simpa using hu) fun h' st' sb=>?_
  have I1:Inv X pins σ H {s with heap:=h'}:=I.turned (t':=s.toks) (fun b o hb e=>(sb.2 b hb).trans e) f0 f1 f3 f4 f5
  obtain ⟨o,e,c,d⟩:=id st'
  exact ⟨u,rfl,o6 (s:={s with heap:=h'}) e c d (by decide) ⟨x,H,I1,ru,⟨rfl,fun ys hy=>by rw[I.list_inj hy hq];exact hx⟩,st',fun b hb=>(hf b hb).1⟩⟩
 done:=by
  intro X hP hw hK hc i pins s σ H E I hf st hg
  subst hP hw hK
  obtain ⟨xs,hq,hx⟩:=hg
  obtain ⟨its,rv,p,hz⟩:=I.list hq
  obtain ⟨f0,f1,f2,f3,f4,f5⟩:=hf it (by simp)
  have hl:=rv.length
  exact wpAny_pyNext_list_end (I.ok.hd hc) st p.isList (by simp;omega) fun h' eb=>⟨rfl,I.turned (t':=s.toks) (fun b o hb e=>eb b o hb e) f0 f1 f3 f4 f5⟩
 self:=fun _ _ _ _ _ st h=>wpAny_pyIter_listiter st h
theorem xC{P:Program}{w:World}{K:Frag}{tg:Expr}(a it:Addr):Turn P w K tg (Itt K a) [it] it (fun i h=>h.IsTupleIter it a i) where
 mem:=by simp
 obj:=fun i h st b hb=>by
  have e:b=it:=by simpa using hb
  subst e
  obtain ⟨o,e,c,d⟩:=st
  exact ⟨o,e,fun v z=>by rw[d] at z;cases z⟩
 keep:=fun i h h' st k=>st.at fun o e=>k it (by simp) o e
 item:=by
  intro X hP hw hK hc i pins s σ H E I hf st hg
  subst hP hw hK
  obtain ⟨xs,x,hq,hx⟩:=hg
  obtain ⟨its,rv,p,hz⟩:=I.tuple hq
  obtain ⟨u,hu,ru⟩:=rv.get hx
  obtain ⟨f0,f1,f2,f3,f4,f5⟩:=hf it (by simp)
  refine wpAny_pyNext_tuple_item st (show s.heap.IsTuple a its.toArray from p) (x:=u) (by simpa using hu) fun h' st' sb=>?_
  have I1:Inv X pins σ H {s with heap:=h'}:=I.turned (t':=s.toks) (fun b o hb e=>(sb.2 b hb).trans e) f0 f1 f3 f4 f5
  obtain ⟨o,e,c,d⟩:=id st'
  exact ⟨u,rfl,o6 (s:={s with heap:=h'}) e c d (by decide) ⟨x,H,I1,ru,⟨rfl,fun ys hy=>by rw[I.tuple_inj hy hq];exact hx⟩,st',fun b hb=>(hf b hb).1⟩⟩
 done:=by
  intro X hP hw hK hc i pins s σ H E I hf st hg
  subst hP hw hK
  obtain ⟨xs,hq,hx⟩:=hg
  obtain ⟨its,rv,p,hz⟩:=I.tuple hq
  obtain ⟨f0,f1,f2,f3,f4,f5⟩:=hf it (by simp)
  have hl:=rv.length
  exact wpAny_pyNext_tuple_end (I.ok.hd hc) st (show s.heap.IsTuple a its.toArray from p) (by simp;omega) fun h' eb=>⟨rfl,I.turned (t':=s.toks) (fun b o hb e=>eb b o hb e) f0 f1 f3 f4 f5⟩
 self:=fun _ _ _ _ _ st h=>wpAny_pyIter_tupleiter st h
theorem xD{P:Program}{w:World}{K:Frag}{tg:Expr}(it:Addr)(lo:Int)(n:Nat):Turn P w K tg (Itr lo n) [it] it (fun i h=>IsRangeIter h it (lo+(i:Nat) * 1) ((n:Int) - (i:Nat)) 1) where
 mem:=by simp
 obj:=fun i h st b hb=>by
  have e:b=it:=by simpa using hb
  subst e
  exact ⟨_,st,fun v z=>by
   have z':Data.fields _=Data.cell v:=z
   cases z'⟩
 keep:=fun i h h' st k=>k it (by simp) _ st
 item:=by
  intro X hP hw hK hc i pins s σ H E I hf st hg
  subst hP hw hK
  obtain ⟨f0,f1,f2,f3,f4,f5⟩:=hf it (by simp)
  have W:=Walks.range (prog:=X.prog) (w:=X.w) (I.ok.hd hc) it lo 1 n
  refine W.item i s _ _ hg st fun v h' tk hv st' kk=>?_
  obtain ⟨t,rfl⟩:=hv
  have I1:Inv X pins σ H {s with heap:=h',toks:=tk}:=I.turned (fun b o hb e=>kk b o (by simpa using hb) e) f0 f1 f3 f4 f5
  refine ⟨_,rfl,o6 (s:={s with heap:=h',toks:=tk}) (n:="range_iterator") st' rfl rfl (by decide) ⟨.int (lo+i),H,I1,⟨t,?_⟩,⟨rfl,rfl⟩,st',fun b hb=>(hf b hb).1⟩⟩
  rw[Int.mul_one]
 done:=by
  intro X hP hw hK hc i pins s σ H E I hf st hg
  subst hP hw hK
  obtain ⟨f0,f1,f2,f3,f4,f5⟩:=hf it (by simp)
  exact wpAny_pyNext_range_end (I.ok.hd hc) st (by have:n<=i:=hg;omega) fun h' eb=>⟨rfl,I.turned (t':=s.toks) (fun b o hb e=>eb b o hb e) f0 f1 f3 f4 f5⟩
 self:=fun _ _ _ _ _ st h=>wpAny_pyIter_rangeiter st h
end L2
namespace L2
open PySem PySem.Spec PyProof.Rows
section
variable{X:Cx}{tg:Expr}
theorem aBV{pins:List (Addr×Obj)}{σ:St}{H:Hp}{s:Shared}{R:It->Hp->Prop}{E:Value->Shared->Prop}{lo hi:Int}{t u v:Tok}{tk:Nat}(I:Inv X pins σ H s)(h1 : -(2 ^ 62)<=lo)(h2:lo < 2 ^ 62)(h3 : -(2 ^ 62)<=hi)(h4:hi < 2 ^ 62)
  (q:R (Itr lo (hi - lo).toNat) H):wpAny (model X.prog X.w) X.A (pyIter (.ref s.heap.objs.size)) (PIE X pins σ tg R) E {s with heap:=s.heap.push {cls:=.type "range",data:=.fields #[.int lo t,.int hi u,.int 1 v]},toks:=tk}:=by
 refine wpAny_pyIter_range (IsRange.new ..) (small_one h1 h2 h3 h4) ?_
 have I1:Inv X pins σ H {s with heap:=s.heap.push {cls:=.type "range",data:=.fields #[.int lo t,.int hi u,.int 1 v]},toks:=tk}:=I.kept fun b o e=>Heap.get?_push_of_some _ e
 refine ⟨(s.heap.push {cls:=.type "range",data:=.fields #[.int lo t,.int hi u,.int 1 v]}).objs.size,[(s.heap.push {cls:=.type "range",data:=.fields #[.int lo t,.int hi u,.int 1 v]}).objs.size],_,_,H,rfl,
  I1.kept (t':=tk) fun b o e=>Heap.get?_push_of_some _ e,xD _ lo (hi - lo).toNat,?_,fun b hb=>?_,q⟩
 ·have e1:lo+((0:Nat):Int) * 1=lo:=by simp
  have e2:(((hi - lo).toNat:Nat):Int) - ((0:Nat):Int)=Builtin.Range.rangeSize lo hi 1:=by rw[rangeSize_one];split<;>omega
  show IsRangeIter _ _ (lo+((0:Nat):Int) * 1) ((((hi - lo).toNat:Nat):Int) - ((0:Nat):Int)) 1
  rw[e1,e2]
  exact Heap.get?_push_size _ rfl
 ·have e:b=(s.heap.push {cls:=.type "range",data:=.fields #[.int lo t,.int hi u,.int 1 v]}).objs.size:=by simpa using hb
  subst e
  exact I1.fpOk (Nat.le_refl _) (I1.hok.fresh (Nat.le_refl _))
def aDO(ta:TA):TI:=fun σ H R=>ta σ H fun vs H1=>∃ j:Int,vs=[.int j] /\ -(2 ^ 62)<=j/\j < 2 ^ 62/\R (Itr 0 j.toNat) H1
theorem gS{a:Expr}{ta:TA}{p pos:Pos}(hg:Gl X "range")(hm:X.mg "range"=none)(ha:PA X [a] ta)(hs:starEach [a] X.env=[(false,eval a X.env)]:=by rfl):PI X tg (.Call (.Name "range" p) [a] [] pos) (aDO ta):=by
 intro pins s σ H R I h
 refine Call_ (iT I hg hm boot_range (PyProof.Rows.callWith_type1 (thn (ha pos pins s σ H _ I h) fun us s1 zz0=>?_) hs rfl))
 obtain ⟨vs,H1,I1,r1,q1⟩:=zz0
 obtain ⟨j,e,q1,q2,q⟩:=q1
 subst e
 cases r1 with
 | cons r rr=>
  cases rr
  obtain ⟨t,rfl⟩:=r
  exact call_range_1 (aBV I1 (by omega) (by omega) q1 q2 (by simpa using q))
def aG9(wi:TI)(g:TG)(tb:TS):TS:=fun D σ H=>wi σ H fun J H1=>∃ W:Nat->Nat->St->Hp->Prop,(∃ m,W 0 m σ H1)/\∀ i m σ H,W i m σ H->
 (J.stop i H/\D.nx σ H)\/(J.go i H/\∃ N:St->Hp->Prop,(∀ σ' H',N σ' H'->∃ m',m' < m/\W (i+1) m' σ' H')/\∀ x H',J.yld i H x H'->g x σ H' fun σ2 H2=>tb {D with nx:=N,ct:=N,bk:=D.nx} σ2 H2)
noncomputable def mU(fp:List Addr)(h:Heap):List (Addr×Obj):=fp.filterMap fun b=>(h.get? b).map fun o=>(b,o)
theorem jF{fp:List Addr}{h:Heap}{b:Addr}{o:Obj}(hb:b∈fp)(e:h.get? b=some o):(b,o)∈mU fp h:=List.mem_filterMap.mpr ⟨b,hb,by rw[e];rfl⟩
theorem zC{fp:List Addr}{h:Heap}{p:Addr×Obj}(hp:p∈mU fp h):p.1∈fp/\h.get? p.1=some p.2:=by
 obtain ⟨b,hb,e⟩:=List.mem_filterMap.mp hp
 cases q:h.get? b with
 | none=>rw[q] at e;cases e
 | some o=>
  rw[q] at e
  have e':(b,o)=p:=Option.some.inj e
  subst e'
  exact ⟨hb,q⟩
theorem Inv.pinned{pins:List (Addr×Obj)}{σ:St}{H:Hp}{s:Shared}{fp:List Addr}(I:Inv X pins σ H s)(hf:∀ b∈fp,gB X pins H b)(ho:∀ b∈fp,∃ o,s.heap.get? b=some o/\∀ v,o.data≠.cell v):Inv X (pins++mU fp s.heap) σ H s:=
 I.pins_of fun p hp=>(List.mem_append.mp hp).elim (fun z=>I.pin p (List.mem_append_right _ z)) fun z=>by
  obtain ⟨hb,e⟩:=zC z
  obtain ⟨f0,f1,f2,_⟩:=hf p.1 hb
  obtain ⟨o,e',d⟩:=ho p.1 hb
  rw[e] at e';cases e'
  exact ⟨e,f0,f1,f2,d⟩
theorem Inv.unpinned{pins pl:List (Addr×Obj)}{σ:St}{H:Hp}{s:Shared}(I:Inv X (pins++pl) σ H s):Inv X pins σ H s:=I.pins_of fun p hp=>I.pin p (List.mem_append_right _ (List.mem_append_left _ hp))
theorem cD{iter:Expr}{body:List Stmt}{wi:TI}{g:TG}{tb:TS}{pos:Pos}(hp:PassesOwn (model X.prog X.w) X.A X.env X.xe)(hc:X.calm=true)(hi:PI X tg iter wi)(hg:PG X tg g)(hb:PSs X body tb)
  (hs:∀ x,foldedSetIterable iter X.env x=pure x:=by intro _;rfl):PS X (.For tg iter body [] pos) (aG9 wi g tb):=by
 intro pins s σ H D I h
 refine wpAny_For (thn (hi pins s σ H _ I h) fun v s1 h1=>thn h1 fun itv s2 h2=>?_) hs
 obtain ⟨it,fp,tn,J,H2,e,I2,T,st2,f2,W,⟨m0,w0⟩,turn⟩:=h2
 subst e
 have stat:∀ {H':Hp},(∀ b∈fp,H' b=none)->∀ b∈fp,gB X pins H' b:=fun hn b hb=>⟨hn b hb,(f2 b hb).2⟩
 refine codeAny_forLoop_any (fun n s'=>∃ i σ' H',Inv X pins σ' H' s'/\tn i s'.heap/\(∀ b∈fp,H' b=none)/\W i n σ' H') ?_ m0 ⟨0,σ,H2,I2,st2,fun b hb=>(f2 b hb).1,w0⟩
 rintro n s3 ⟨i,σ3,H3,I3,st3,fr3,w3⟩
 rcases turn i n σ3 H3 w3 with ⟨stop,qn⟩|⟨go,N,hN,step⟩
 ·refine wpAny_passesOwn hp (thn (T.done X rfl rfl rfl hc i pins s3 σ3 H3 X.xe I3 (stat fr3) st3 stop) fun r s4 zz0=>?_)
  obtain ⟨hr,I4⟩:=zz0
  subst hr
  exact wpAny_execs_nil ⟨σ3,H3,I4,qn⟩
 ·refine wpAny_passesOwn hp (thn (T.item X rfl rfl rfl hc i pins s3 σ3 H3 X.xe I3 (stat fr3) st3 go) fun r s4 zz0=>?_)
  obtain ⟨u,hr,h4⟩:=zz0
  subst hr
  refine wpAny_passesOwn hp (thn h4 fun _ s5 zz0=>?_)
  obtain ⟨x,H5,I5,r5,y5,st5,fr5⟩:=zz0
  have I5':=I5.pinned (stat fr5) (T.obj _ _ st5)
  refine wpAny_passesOwn hp (thn (hg _ s5 σ3 H5 x u _ I5' r5 (step x H5 y5)) fun _ s6 zz0=>?_)
  obtain ⟨σ6,H6,I6,q6⟩:=zz0
  refine wpAny_passesOwn hp (thn (hb _ s6 σ6 H6 _ I6 q6) fun f s7 q7=>?_)
  have again:∀ {σ7:St} {H7:Hp},Inv X (pins++mU fp s5.heap) σ7 H7 s7->N σ7 H7->∃ m,m < n/\∃ i σ' H',Inv X pins σ' H' s7/\tn i s7.heap/\(∀ b∈fp,H' b=none)/\W i m σ' H':=fun {σ7 H7} I7 n7=>by
   obtain ⟨m',hm,w7⟩:=hN σ7 H7 n7
   refine ⟨m',hm,i+1,σ7,H7,I7.unpinned,T.keep _ _ _ st5 fun b hb o e=>(I7.pin (b,o) (List.mem_append_right _ (List.mem_append_right _ (jF hb e)))).1,fun b hb=>?_,w7⟩
   obtain ⟨o,e,d⟩:=T.obj _ _ st5 b hb
   exact (I7.pin (b,o) (List.mem_append_right _ (List.mem_append_right _ (jF hb e)))).2.1
  cases f with
  | next=>obtain ⟨σ7,H7,I7,n7⟩:=q7;exact again I7 n7
  | cont=>obtain ⟨σ7,H7,I7,n7⟩:=q7;exact again I7 n7
  | brk=>obtain ⟨σ7,H7,I7,q7⟩:=q7;exact ⟨σ7,H7,I7.unpinned,q7⟩
  | ret v=>obtain ⟨x7,σ7,H7,I7,r7,q7⟩:=q7;exact ⟨x7,σ7,H7,I7.unpinned,r7,q7⟩
end
end L2
namespace L2
open PySem PySem.Spec PyProof.Rows
abbrev R2:=V->V->Hp->VK->Prop
def OpR(X:Cx)(f:Value->Value->Sem Value)(r:R2):Prop:=
 ∀ (pins:List (Addr×Obj)) (s:Shared) (σ:St) (H:Hp) (x y:V) (v u:Value) (Q:VK),Inv X pins σ H s->aQ x v->aQ y u->r x y H Q->
  wpAny (model X.prog X.w) X.A (f v u) (EP X pins σ Q) X.xe s
def fK(X:Cx)(f:Value)(r:List V->Hp->VK->Prop):Prop:=
 ∀ (pins:List (Addr×Obj)) (s:Shared) (σ:St) (H:Hp) (xs:List V) (us:List Value) (Q:VK),Inv X pins σ H s->aY xs us->r xs H Q->
  wpAny (model X.prog X.w) X.A (call f us) (EP X pins σ Q) X.xe s
def tOp(r:R2)(ta tb:TE):TE:=fun σ H Q=>ta σ H fun x H1=>tb σ H1 fun y H2=>r x y H2 Q
def rI(C:Int->Int->Prop)(g:Int->Int->V):R2:=fun x y H Q=>∃ i j,x=.int i/\y=.int j/\C i j/\Q (g i j) H
def rI0(g:Int->Int->V):R2:=fun x y H Q=>∃ i j,x=.int i/\y=.int j/\Q (g i j) H
section
variable{X:Cx}{a b c:Expr}{ta tb tc:TE}{pos:Pos}
theorem aBW(ha:PE X a ta)(hb:PE X b tb){pins:List (Addr×Obj)}{s:Shared}{σ:St}{H:Hp}{R:V->V->Hp->Prop}(I:Inv X pins σ H s)
  (h:ta σ H fun x H1=>tb σ H1 fun y H2=>R x y H2) {Q:Value->Shared->Prop} {f:Value->Value->Sem Value}
  (hf:∀ v u s2 x y H2,Inv X pins σ H2 s2->aQ x v->aQ y u->R x y H2->wpAny (model X.prog X.w) X.A (f v u) Q X.xe s2) :
  wpAny (model X.prog X.w) X.A (eval a X.env) (fun v s₁=>wpAny (model X.prog X.w) X.A (eval b X.env) (fun u s₂=>wpAny (model X.prog X.w) X.A (f v u) Q X.xe s₂) X.xe s₁) X.xe s:=by
 refine thn (ha pins s σ H _ I h) fun v s1 zz0=>?_
 obtain ⟨x,H1,I1,r1,q1⟩:=zz0
 refine thn (hb pins s1 σ H1 _ I1 q1) fun u s2 zz0=>?_
 obtain ⟨y,H2,I2,r2,q2⟩:=zz0
 exact hf v u s2 x y H2 I2 r1 r2 q2
theorem aJO{op:Operator}{r:R2}(ho:OpR X (binaryOp op) r)(ha:PE X a ta)(hb:PE X b tb):PE X (.BinOp a op b pos) (tOp r ta tb):=by
 intro pins s σ H Q I h
 exact wpAny_BinOp (aBW ha hb I h fun v u s2 x y H2 I2 rx ry q=>ho pins s2 σ H2 x y v u Q I2 rx ry q)
theorem opI{f:Value->Value->Sem Value}{C:Int->Int->Prop}{g:Int->Int->Int}
  (rule:∀ (i j:Int) (t u:Tok) (s:Shared) (Q:Value->Shared->Prop) (E:Value->Shared->Prop),C i j->Q (.int (g i j) s.toks) {s with toks:=s.toks+1}->wpAny (model X.prog X.w) X.A (f (.int i t) (.int j u)) Q E s) :
  OpR X f (rI C fun i j=>.int (g i j)):=by
 intro pins s σ H x y v u Q I rx ry h
 obtain ⟨i,j,rfl,rfl,hc,q⟩:=h
 obtain ⟨t,rfl⟩:=rx
 obtain ⟨t',rfl⟩:=ry
 exact rule i j t t' s _ _ hc ⟨.int (g i j),H,I.tok _,⟨_,rfl⟩,q⟩
theorem aHA{f:Value->Value->Sem Value}{g:Int->Int->Int}
  (rule:∀ (i j:Int) (t u:Tok) (s:Shared) (Q:Value->Shared->Prop) (E:Value->Shared->Prop),Q (.int (g i j) s.toks) {s with toks:=s.toks+1}->wpAny (model X.prog X.w) X.A (f (.int i t) (.int j u)) Q E s) :
  OpR X f (rI0 fun i j=>.int (g i j)):=by
 intro pins s σ H x y v u Q I rx ry h
 obtain ⟨i,j,rfl,rfl,q⟩:=h
 obtain ⟨t,rfl⟩:=rx
 obtain ⟨t',rfl⟩:=ry
 exact rule i j t t' s _ _ ⟨.int (g i j),H,I.tok _,⟨_,rfl⟩,q⟩
theorem aHB{f:Value->Value->Sem Value}{g:Int->Int->Bool}
  (rule:∀ (i j:Int) (t u:Tok) (s:Shared) (Q:Value->Shared->Prop) (E:Value->Shared->Prop),Q (.bool (g i j)) s->wpAny (model X.prog X.w) X.A (f (.int i t) (.int j u)) Q E s) :
  OpR X f (rI0 fun i j=>.bl (g i j)):=by
 intro pins s σ H x y v u Q I rx ry h
 obtain ⟨i,j,rfl,rfl,q⟩:=h
 obtain ⟨t,rfl⟩:=rx
 obtain ⟨t',rfl⟩:=ry
 exact rule i j t t' s _ _ ⟨.bl (g i j),H,I,rfl,q⟩
def aBX(i j:Int):Prop:=(-(2 ^ 64) < i/\i < 2 ^ 64)\/(-(2 ^ 64) < j/\j < 2 ^ 64)
theorem aBX.ok{i j:Int}(h:aBX i j):IntMulOk i j:=by
 rcases h with ⟨h1,h2⟩|⟨h1,h2⟩
 · exact .of_left (intBits_le_64 h1 h2)
 · exact .of_right (intBits_le_64 h1 h2)
theorem aHC:OpR X (binaryOp .Add) (rI0 fun i j=>.int (i+j)):=aHA fun _ _ _ _ _ _ _ q=>add_int q
theorem aHD:OpR X (binaryOp .Sub) (rI0 fun i j=>.int (i - j)):=aHA fun _ _ _ _ _ _ _ q=>sub_int q
theorem aHE:OpR X (binaryOp .Mult) (rI aBX fun i j=>.int (i * j)):=opI fun _ _ _ _ _ _ _ hc q=>mul_int q hc.ok
theorem aHF:OpR X (binaryOp .Mod) (rI (fun _ j=>0 < j) fun i j=>.int (i % j)):=opI fun i j _ _ _ _ _ hc q=>by
 have h1:(0:Int) < j:=hc
 exact mod_int' (by omega) (by rw[Int.fmod_eq_emod_of_nonneg i (by omega)];exact q)
end
section
variable{X:Cx}{a b c:Expr}{ta tb tc:TE}{pos:Pos}
theorem sM{pins:List (Addr×Obj)}{σ:St}{H:Hp}{s:Shared}{Q:VK}{k k':Bool}(I:Inv X pins σ H s)(q:Q (.bl k) H)(e:k=k'):EP X pins σ Q (.bool k') s:=by
 subst e
 exact ⟨.bl k,H,I,rfl,q⟩
theorem aJP:OpR X (compareOp .Lt) (rI0 fun i j=>.bl (decide (i < j))):=aHB fun _ _ _ _ _ _ _ q=>lt_int q
theorem aJQ:OpR X (compareOp .Gt) (rI0 fun i j=>.bl (decide (j < i))):=aHB fun _ _ _ _ _ _ _ q=>gt_int q
theorem aHG:OpR X (compareOp .Is) (fun x y H Q=>y=.non/\Q (.bl (decide (x=.non))) H):=by
 intro pins s σ H x y v u Q I rx ry h
 obtain ⟨rfl,q⟩:=h
 cases ry
 refine is_none_gen (sM I q ?_)
 cases x<;>first
  | (cases rx;rfl)
  | (obtain ⟨t,rfl⟩:=rx;rfl)
theorem aEI:OpR X (compareOp .IsNot) (fun x y H Q=>y=.non/\Q (.bl (!decide (x=.non))) H):=by
 intro pins s σ H x y v u Q I rx ry h
 obtain ⟨rfl,q⟩:=h
 cases ry
 refine isnot_none_gen (sM I q ?_)
 cases x<;>first
  | (cases rx;rfl)
  | (obtain ⟨t,rfl⟩:=rx;rfl)
theorem sN:OpR X (compareOp .NotIn) (fun x y H Q=>∃ i j,x=.str i/\y=.str j/\Q (.bl (!(!(Builtin.Str.occurrences j i 0 j.length 1).isEmpty))) H):=by
 intro pins s σ H x y v u Q I rx ry h
 obtain ⟨i,j,rfl,rfl,q⟩:=h
 obtain ⟨t,rfl⟩:=rx
 obtain ⟨t',rfl⟩:=ry
 exact notIn_str (sM I q rfl)
theorem cM(b:Expr){op:CmpOp}(h:op≠.In:=by decide)(h2:op≠.NotIn:=by decide):behindInMarks op b=false:=by
 have e1:(op == CmpOp.In)=false:=by cases op<;>first|rfl|exact absurd rfl h
 have e2:(op == CmpOp.NotIn)=false:=by cases op<;>first|rfl|exact absurd rfl h2
 cases b<;>simp[behindInMarks,e1,e2]
theorem aEJ{op:CmpOp}{r:R2}(ho:OpR X (compareOp op) r)(ha:PE X a ta)(hb:PE X b tb)(hm:behindInMarks op b=false):PE X (.Compare a [op] [b] pos) (tOp r ta tb):=by
 intro pins s σ H Q I h
 exact wpAny_Compare1 (aBW ha hb I h fun v u s2 x y H2 I2 rx ry q=>ho pins s2 σ H2 x y v u Q I2 rx ry q) hm
def aDP(t:TE):TT:=fun σ H Q=>t σ H fun x H'=>∃ k,x=.bl k/\Q k H'
theorem pX{op:CmpOp}{r:R2}(ho:OpR X (compareOp op) r)(ha:PE X a ta)(hb:PE X b tb)(hm:behindInMarks op b=false):PT X (.Compare a [op] [b] pos) (aDP (tOp r ta tb)):=by
 intro pins s σ H Q I h
 refine wpAny_isTrue_Compare1 (thn (ha pins s σ H _ I h) fun v s1 ⟨x,H1,I1,r1,q1⟩=>thn (hb pins s1 σ H1 _ I1 q1) fun u s2 ⟨y,H2,I2,r2,q2⟩=>
  thn (ho pins s2 σ H2 x y v u _ I2 r1 r2 q2) fun c s3 ⟨z,H3,I3,r3,k,e,q3⟩=>?_) hm
 subst e
 cases r3
 exact wpAny_truthy_bool ⟨H3,I3,q3⟩
theorem o7:(sizeLine:Nat) < 2 ^ 63:=by rw[sizeLine_eq];decide
theorem xE:OpR X (binaryOp .Add) (fun x y H Q=>∃ i j,x=.str i/\y=.str j/\i.length+j.length<=sizeLine/\Q (.str (i++j)) H):=by
 intro pins s σ H x y v u Q I rx ry h
 obtain ⟨i,j,rfl,rfl,hz,q⟩:=h
 obtain ⟨t,rfl⟩:=rx
 obtain ⟨t',rfl⟩:=ry
 exact add_str (fun t' tk=>⟨.str (i++j),H,I.tok _,⟨_,rfl⟩,q⟩) hz
theorem kG{x:V}{us:List Value}(r:aY [x] us):∃ u,us=[u]/\aQ x u:=by
 cases r with
 | cons r1 r2=>cases r2;exact ⟨_,rfl,r1⟩
theorem o8{x y:V}{us:List Value}(r:aY [x,y] us):∃ u w',us=[u,w']/\aQ x u/\aQ y w':=by
 cases r with
 | cons r1 r2=>
  cases r2 with
  | cons r3 r4=>cases r4;exact ⟨_,_,rfl,r1,r3⟩
theorem zD(hc:X.calm=true):fK X (.builtin "max") (fun xs H Q=>∃ i j,xs=[.int i,.int j]/\Q (.int (if j > i then j else i)) H):=by
 intro pins s σ H xs us Q I r h
 obtain ⟨i,j,rfl,q⟩:=h
 obtain ⟨u,w',rfl,⟨t,rfl⟩,⟨t',rfl⟩⟩:=o8 r
 refine max_two_ints (I.ok.hd hc) fun h' tk k=>⟨_,H,I.kept k,?_,q⟩
 by_cases hj:j > i
 · rw [if_pos hj, if_pos hj]; exact ⟨_, rfl⟩
 · rw [if_neg hj, if_neg hj]; exact ⟨_, rfl⟩
theorem zE(hc:X.calm=true):fK X (.builtin "min") (fun xs H Q=>∃ i j,xs=[.int i,.int j]/\Q (.int (if j < i then j else i)) H):=by
 intro pins s σ H xs us Q I r h
 obtain ⟨i,j,rfl,q⟩:=h
 obtain ⟨u,w',rfl,⟨t,rfl⟩,⟨t',rfl⟩⟩:=o8 r
 refine min_two_ints (I.ok.hd hc) fun h' tk k=>⟨_,H,I.kept k,?_,q⟩
 by_cases hj:j < i
 · rw [if_pos hj, if_pos hj]; exact ⟨_, rfl⟩
 · rw [if_neg hj, if_neg hj]; exact ⟨_, rfl⟩
def aHH(K:Frag)(x:V)(H:Hp)(n:Nat):Prop:=
 match x with
 | .str y=>y.length<=sizeLine/\n=y.length
 | .byt y=>y.size<=sizeLine/\n=y.size
 | .ref p=>(∃ xs,SqL K H p xs/\n=xs.length)\/∃ xs,SqT K H p xs/\n=xs.length
 | _=>False
theorem bM:fK X (.builtin "len") (fun xs H Q=>∃ x n,xs=[x]/\aHH X.K x H n/\Q (.int n) H):=by
 intro pins s σ H xs us Q I r h
 obtain ⟨x,n,rfl,e,q⟩:=h
 obtain ⟨u,rfl,rx⟩:=kG r
 have hl:=o7
 have hs:sizeLine=16777216:=sizeLine_eq
 cases x with
 | str y=>
  obtain ⟨t,rfl⟩:=rx
  obtain ⟨hy,e'⟩:y.length<=sizeLine/\n=y.length:=e
  subst e'
  exact len_str (by omega) ⟨.int _,H,I.tok _,⟨_,rfl⟩,q⟩
 | byt y=>
  obtain ⟨t,rfl⟩:=rx
  obtain ⟨hy,e'⟩:y.size<=sizeLine/\n=y.size:=e
  subst e'
  exact PySem.W.len_bytes (by omega) ⟨.int _,H,I.tok _,⟨_,rfl⟩,q⟩
 | ref p=>
  cases rx
  have e':(∃ xs,SqL X.K H p xs/\n=xs.length)\/∃ xs,SqT X.K H p xs/\n=xs.length:=e
  rcases e' with ⟨xs,hx,e'⟩|⟨xs,hx,e'⟩
  ·subst e'
   obtain ⟨its,r',pl,hz⟩:=I.list hx
   have hlen:=r'.length
   exact Calls.call_len_list pl.isList (by simp only[List.size_toArray];omega) ⟨.int xs.length,H,I.tok _,⟨_,by simp only[List.size_toArray];rw[hlen]⟩,q⟩
  ·subst e'
   obtain ⟨its,r',pl,hz⟩:=I.tuple hx
   have hlen:=r'.length
   exact len_tuple pl (by simp only[List.size_toArray];omega) ⟨.int xs.length,H,I.tok _,⟨_,by simp only[List.size_toArray];rw[hlen]⟩,q⟩
 | _=>exact (show False from e).elim
end
end L2
namespace L2
open PySem PySem.Spec PyProof.Rows
structure ObjM(h:Heap)(x dx C:Addr)(mA:Str->Option Value):Prop where
 obj:h.get? x=some (PySem.W.instObj C dx)
 ns:h.Ns1 dx mA
 ne:dx≠x
theorem rB{h:Heap}{dx:Addr}{mA:Str->Option Value}(n:h.Ns1 dx mA):∃ od,h.get? dx=some od/\∀ name,PySem.W.lookIn name od=some (mA name):=by
 obtain ⟨o,es,ep,ho,hd,hk,_,hm⟩:=n
 refine ⟨o,ho,fun name=>?_⟩
 have e:=hm name
 unfold nsFind findBy at e
 rw[<-Array.find?_toList] at e
 unfold PySem.W.lookIn
 rw[hd]
 dsimp only
 split
 ·rename_i y q
  rw[q] at e
  exact congrArg some e
 ·rename_i q
  rw[q] at e
  have a:es.toList.any (·.refKey)=false:=by
   rw[List.any_eq_false]
   intro y hy
   obtain ⟨z,t,hkey⟩:=hk y (Array.mem_toList_iff.mp hy)
   simp[DictEntry.refKey,hkey]
  have a':¬ es.toList.any (·.refKey)=true:=by rw[a];exact Bool.false_ne_true
  rw[if_neg a']
  exact congrArg some e
theorem ObjM.look{h:Heap}{x dx C:Addr}{mA:Str->Option Value}(I:ObjM h x dx C mA):∃ od,PySem.W.InstAt h x (PySem.W.instObj C dx) C (some od)/\∀ name,PySem.W.lookIn name od=some (mA name):=
 let ⟨od,ho,hl⟩:=rB I.ns
 ⟨od,⟨I.obj,rfl,rfl,ho⟩,hl⟩
section
variable{prog:Program}{w:World}{A:Around}{E:Value->Shared->Prop}{s:Shared}{K:Frag}{x dx C f:Addr}{mA:Str->Option Value}{name:Str}{v:Value}
end
theorem i6.some_of{v:V}{o:Option Value}(r:i6 (some v) o):∃ u,o=some u/\aQ v u:=by
 cases o with
 | none=>exact (show False from r).elim
 | some u=>exact ⟨u,rfl,r⟩
section
variable{P:Program}{w:World}{H H':Hp}{h h':Heap}{a C dx:Addr}{fs fs':List (Str×V)}
theorem aEK(hok:HOk P w H h)(e:H a=some (.ins C dx fs)):∃ mA,ObjM h a dx C mA/\(∀ f,i6 (fs.lookup f) (mA f))/\PySem.Within mA (fs.map (·.1))/\fs.length<=1000/\H dx=some (.own a):=by
 obtain ⟨d,z,ne,ob,mA,n,r,q⟩:=(show bN P w H h a (.ins C dx fs) from hok a _ e)
 exact ⟨mA,⟨ob,n,ne⟩,r,q,z,d⟩
end
structure Cls(K:Frag)(C:Addr):Prop where
 pg:PySem.W.plainGet K C Str.empty=true
 hd:PySem.W.hasDictIn K C=true
 po:PySem.W.plainOver K C=true
 sa:PySem.W.findIn K (.ref C) "__setattr__"=some (some (.builtin "object.__setattr__"))
theorem Cls.get{K:Frag}{C:Addr}(c:Cls K C)(f:Str):PySem.W.plainGet K C f=true:=c.pg
structure Con(K:Frag)(C:Addr)(f:Str)(v:V)(u:Value):Prop where
 at_:PySem.W.findIn K (.ref C) f=some (some u)
 rel:aQ v u
 get:PySem.W.specialIn K u "__get__"=some none
 cp:PySem.W.copiedNames.contains f=false
structure Meth(K:Frag)(C:Addr)(m:Str)(f:Addr):Prop where
 at_:PySem.W.findIn K (.ref C) m=some (some (.ref f))
 fn:PySem.W.isFn K (.ref f)=true
 kp:PySem.W.keepIn K (.ref f)=true
section
variable{X:Cx}{pins:List (Addr×Obj)}{σ:St}{H:Hp}{s:Shared}{a C dx:Addr}{fs:List (Str×V)}{f:Str}{v:V}{A:Around}{E:Value->Shared->Prop}
end
section
variable{X:Cx}{pins:List (Addr×Obj)}{σ:St}{H:Hp}{s:Shared}{A:Around}{E:Value->Shared->Prop}{Q:Value->Shared->Prop}{c:Value}{b:Bool}
inductive TyOf(K:Frag)(H:Hp):V->Value->Prop where
 | non:TyOf K H .non (.type "NoneType")
 | bl (x:Bool):TyOf K H (.bl x) (.type "bool")
 | int (i:Int):TyOf K H (.int i) (.type "int")
 | str (x:Str):TyOf K H (.str x) (.type "str")
 | flt (x:UInt64):TyOf K H (.flt x) (.type "float")
 | lst {a:Addr} {xs:List V} (e:H a=some (.lst xs)):TyOf K H (.ref a) (.type "list")
 | frz {a:Addr} {o:Obj} {xs:List V} (e:H a=some (.frz o (.lst xs))):TyOf K H (.ref a) (.type "list")
 | tup {a:Addr} {xs:List V} (e:H a=some (.tup xs)):TyOf K H (.ref a) (.type "tuple")
 | dK {a:Addr} {kvs:List (Key×V)} (e:H a=some (.dK kvs)):TyOf K H (.ref a) (.type "dict")
 | dT {a:Addr} {kvs:List (List Key×V)} (e:H a=some (.dT kvs)):TyOf K H (.ref a) (.type "dict")
 | ins {a C dx:Addr} {fs:List (Str×V)} (e:H a=some (.ins C dx fs)) (cl:Cls K C) (ha:PySem.W.findIn K (.ref C) "__class__"=some (some (.builtin "object.__class__")))
  (hn:PySem.W.specialIn K (.builtin "object.__class__") "__get__"=some (some (.builtin "getset_descriptor.__get__"))) (htk:PySem.W.takesIn K (.builtin "object.__class__")=some true)
  (hm:PySem.W.mroIn K C (.type "object")=some true):TyOf K H (.ref a) (.ref C)
theorem zF{x:V}{u t:Value}(I:Inv X pins σ H s)(rx:aQ x u)(ty:TyOf X.K H x t)(e:PySem.W.kitOne X.K t c=some b)(h:∀ tk,Q (.bool b) {s with toks:=tk}) :
  wpAny (model X.prog X.w) A (call (.builtin "isinstance") [u,c]) Q E s:=by
 cases ty with
 | non=>cases (show u=Value.none from rx);exact PySem.W.kia_one PySem.W.kitx_none I.kIn True.intro e (fun z=>nomatch z) h
 | bl y=>cases (show u=Value.bool y from rx);exact PySem.W.kia_one PySem.W.kitx_bool I.kIn True.intro e (fun z=>nomatch z) h
 | int i=>obtain ⟨t,q⟩:=(show ∃ t,u=Value.int i t from rx);cases q;exact PySem.W.kia_one PySem.W.kitx_int I.kIn True.intro e (fun z=>nomatch z) h
 | str y=>obtain ⟨t,q⟩:=(show ∃ t,u=Value.str y t from rx);cases q;exact PySem.W.kia_one PySem.W.kitx_str I.kIn True.intro e (fun z=>nomatch z) h
 | flt y=>obtain ⟨t,q⟩:=(show ∃ t,u=Value.float y t from rx);cases q;exact PySem.W.kia_one PySem.W.kitx_float I.kIn True.intro e (fun z=>nomatch z) h
 | @lst a xs ea=>
  cases (show u=Value.ref a from rx)
  obtain ⟨_,_,n,_,h1⟩:=(show bN X.prog X.w H s.heap a (.lst xs) from I.hok a _ ea)
  exact PySem.W.kia_one PySem.W.kitx_list I.kIn ⟨_,h1,rfl⟩ e (fun z=>nomatch z) h
 | @frz a ob xs ea=>
  cases (show u=Value.ref a from rx)
  obtain ⟨_,_,_,n,_,h1⟩:=(show bN X.prog X.w H s.heap a (.frz ob (.lst xs)) from I.hok a _ ea)
  exact PySem.W.kia_one PySem.W.kitx_list I.kIn ⟨_,h1,rfl⟩ e (fun z=>nomatch z) h
 | @tup a xs ea=>
  cases (show u=Value.ref a from rx)
  obtain ⟨_,_,_,p⟩:=(show bN X.prog X.w H s.heap a (.tup xs) from I.hok a _ ea)
  obtain ⟨o,h1,h2,_⟩:=p
  exact PySem.W.kia_one PySem.W.kitx_tuple I.kIn ⟨o,h1,h2⟩ e (fun z=>nomatch z) h
 | @dK a kvs ea=>
  cases (show u=Value.ref a from rx)
  obtain ⟨_,_,vs,_,p⟩:=(show bN X.prog X.w H s.heap a (.dK kvs) from I.hok a _ ea)
  obtain ⟨o,es,ep,h1,h2,_⟩:=p
  exact PySem.W.kia_one PySem.W.kitx_dict I.kIn ⟨o,h1,h2.1⟩ e (fun z=>nomatch z) h
 | @dT a kvs ea=>
  cases (show u=Value.ref a from rx)
  obtain ⟨_,_,xs,_,o,es,ep,h1,h2,_⟩:=(show bN X.prog X.w H s.heap a (.dT kvs) from I.hok a _ ea)
  exact PySem.W.kia_one PySem.W.kitx_dict I.kIn ⟨o,h1,h2.1⟩ e (fun z=>nomatch z) h
 | @ins a C dx fs ea cl ha hn htk hm=>
  cases (show u=Value.ref a from rx)
  obtain ⟨mA,O,_⟩:=aEK I.hok ea
  obtain ⟨od,J,_⟩:=O.look
  exact PySem.W.kia_one (PySem.W.kitx_own (cl.get _) cl.hd ha hn htk hm) I.kIn J e (fun z=>nomatch z) h
end
end L2
namespace L2
open PySem PySem.Spec PyProof.Rows
structure Room(k:Nat)(A:Around):Prop where
 hd:A.handled=none
 dp:A.depth+3 * k+5 < recursionLimit
 un:A.units+16 * k+200 < cLine
theorem Room.mono{j k:Nat}{A:Around}(r:Room k A)(h:j<=k):Room j A:=⟨r.hd,by have:=r.dp;omega,by have:=r.un;omega⟩
theorem Room.deeper{k:Nat}{A:Around}(r:Room (k+1) A)(env:Env):Room k (A.deeper env):=
 ⟨r.hd,by have:=r.dp;show A.depth+1+3 * k+5 < _;omega,by have:=r.un;show A.units+3+16 * k+200 < _;omega⟩
theorem Room.depth{k:Nat}{A:Around}(r:Room k A):A.depth < recursionLimit:=by have:=r.dp;omega
theorem Room.units{k:Nat}{A:Around}(r:Room k A):A.units+64 < cLine:=by have:=r.un;omega
def fS:TA:=fun _ H Q=>Q [] H
def dF(ta:TE)(tr:TA):TA:=fun σ H Q=>ta σ H fun x H1=>tr σ H1 fun xs H2=>Q (x::xs) H2
section
variable{X:Cx}{e:Expr}{es:List Expr}{te:TE}{t:TA}{pos:Pos}
theorem aJ:PA X [] fS:=fun _ _ _ _ H Q I h=>Calls.spliced_nil ⟨[],H,I,.nil,h⟩
theorem aF(ha:PE X e te)(hr:PA X es t)(hs:starEach (e::es) X.env=(false,eval e X.env)::starEach es X.env:=by rfl):PA X (e::es) (dF te t):=by
 intro pos pins s σ H Q I h
 rw[hs]
 show wpAny _ _ (spliced ((false,eval e X.env)::backTo pos (starEach es X.env))) _ _ s
 refine Calls.spliced_cons (thn (ha pins s σ H _ I h) fun u s1 zz0=>?_)
 obtain ⟨x,H1,I1,r1,q1⟩:=zz0
 exact thn (hr pos pins s1 σ H1 _ I1 q1) fun us s2 ⟨xs,H2,I2,r2,q2⟩=>⟨x::xs,H2,I2,.cons r1 r2,q2⟩
def aKX(t:TA):TE:=fun σ H Q=>t σ H fun xs H1=>xs.length<=sizeLine/\∀ p,H1 p=none->Q (.ref p) (upd H1 p (.tup xs))
def aKY(t:TA):TE:=fun σ H Q=>t σ H fun xs H1=>xs.length<=sizeLine/\∀ p,H1 p=none->Q (.ref p) (upd H1 p (.lst xs))
theorem aHI{x1}(h:PA X es t):PE X (.Tuple es x1 pos) (aKX t):=by
 intro pins s σ H Q I hq
 refine wpAny_Tuple_spliced (thn (h pos pins s σ H _ I hq) fun us s1 ⟨xs,H1,I1,r,z,q⟩=>⟨by rw[<-r.length];exact z,?_⟩)
 have hf:H1 s1.heap.objs.size=none:=I1.hok.fresh (Nat.le_refl _)
 refine ⟨.ref s1.heap.objs.size,upd H1 s1.heap.objs.size (.tup xs),I1.laid (t':=s1.toks) (fun b u e=>Heap.get?_push_of_some _ e) (Nat.le_refl _) ?_,rfl,q _ hf⟩
 exact ⟨z,us,r,⟨_,Heap.get?_push_size _ rfl,rfl,_,rfl⟩⟩
theorem aHJ(h:PA X es t):PE X (.List es pos) (aKY t):=by
 intro pins s σ H Q I hq
 refine wpAny_List_spliced (thn (h pos pins s σ H _ I hq) fun us s1 ⟨xs,H1,I1,r,z,q⟩=>⟨by rw[<-r.length];exact z,?_⟩)
 have hf:H1 s1.heap.objs.size=none:=I1.hok.fresh (Nat.le_refl _)
 refine ⟨.ref s1.heap.objs.size,upd H1 s1.heap.objs.size (.lst xs),I1.laid (t':=s1.toks) (fun b u e=>Heap.get?_push_of_some _ e) (Nat.le_refl _) ?_,rfl,q _ hf⟩
 exact ⟨z,us,0,r,Heap.get?_push_size _ rfl⟩
end
abbrev Sp:=List V->Hp->VK->XK->Prop
abbrev CXT:=List Env->Hp->Shared->XK->Value->Shared->Prop
structure Env0(P:Program)(w:World)(K:Frag)(mg:Str->Option Value)(base:Heap)(A:Around)(outer:List Env)(s:Shared)(H:Hp):Prop where
 frames:A.frames=some outer
 mod:Mod K mg base
 bs:∀ b o,base.get? b=some o->s.heap.get? b=some o/\H b=none
 bsz:base.objs.size<=s.heap.objs.size
 funs:s.heap.FunFrames base outer
 frf:∀ b∈frs outer,H b=none
 hok:HOk P w H s.heap
 bare:AllBare s.gens
def CE(outer:List Env)(P:Program)(w:World)(H:Hp)(s:Shared)(Q:VK)(u:Value)(s':Shared):Prop:=
 ∃ v H',s'.os=s.os/\AllBare s'.gens/\Un (frs outer) [] H H' s.heap s'.heap/\HOk P w H' s'.heap/\aQ v u/\Q v H'
def CR(CX:CXT)(outer:List Env)(P:Program)(w:World)(H:Hp)(s:Shared)(Q:VK)(E:XK)(r:Result)(s':Shared):Prop:=
 match r with
 | .ok (.ret u)=>CE outer P w H s Q u s'
 | .ok _=>False
 | .error e=>CX outer H s E e s'
structure FnOk(P:Program)(w:World)(K:Frag)(mg:Str->Option Value)(base:Heap)(CX:CXT)(k:Nat)(f:Addr)(fd:FuncData)(ps:List Str)(sp:Sp):Prop where
 len:∀ vs H Q E,sp vs H Q E->vs.length=ps.length
 run:∀ (A:Around) (outer:List Env) (s:Shared) (H:Hp) (args:Args) (us:List Value) (vs:List V) (Q:VK) (E:XK),Room k A->Env0 P w K mg base A outer s H->BindsTo s fd args (ps.zip us)->aY vs us->sp vs H Q E->
  codeAny (model P w) A (.call (.ref f) args) (CR CX outer P w H s Q E) s
theorem FnOk.imp{P:Program}{w:World}{K:Frag}{mg:Str->Option Value}{base:Heap}{CX:CXT}{k:Nat}{f:Addr}{fd:FuncData}{ps:List Str}{sp sp':Sp}(F:FnOk P w K mg base CX k f fd ps sp)
  (h:∀ vs H Q E,sp' vs H Q E->sp vs H Q E):FnOk P w K mg base CX k f fd ps sp':=
 ⟨fun vs H Q E q=>F.len vs H Q E (h _ _ _ _ q),fun A outer s H args us vs Q E hr he hb hv hs=>F.run A outer s H args us vs Q E hr he hb hv (h _ _ _ _ hs)⟩
section
variable{X:Cx}{pins:List (Addr×Obj)}{σ:St}{H:Hp}{s s':Shared}
theorem Inv.env0(I:Inv X pins σ H s):Env0 X.prog X.w X.K X.mg X.base X.A X.stack s H:=
 ⟨I.ok.frames,I.ok.mod,I.bs,Nat.le_trans I.ok.bsz I.sz,I.stack,I.stkFree,I.hok,I.bare⟩
theorem Inv.after{Q:VK}{u:Value}(I:Inv X pins σ H s)(h:CE X.stack X.prog X.w H s Q u s'):EP X pins σ Q u s':=by
 obtain ⟨v,H',os,bare,un,hok,r,q⟩:=h
 obtain ⟨hh,g,d,t,os'⟩:=s'
 obtain rfl:os'=s.os:=os
 exact ⟨v,H',I.call (h':=hh) (g':=g) (d':=d) (t':=t) (ch:=[]) un hok bare (fun b z=>absurd z (by simp)),r,q⟩
end
def xF(sp:Sp)(dvs:List V)(E:XK)(t:TA):TE:=fun σ H Q=>t σ H fun vs H1=>sp (vs++dvs) H1 Q E
def gJ(K:Frag)(fd:FuncData)(ps:List Str)(ds:List Value):Prop:=
 ∀ (s:Shared) (us:List Value),K.In s.heap->(us++ds).length=ps.length->BindsTo s fd ⟨us,[]⟩ (ps.zip (us++ds))
theorem gJ.all{K:Frag}{fd:FuncData}{ps:List Str}(h:∀ us:List Value,us.length=ps.length->bindArgs fd ⟨us,[]⟩=pure (ps.zip us)):gJ K fd ps []:=fun s us _ hl=>by
 rw[List.append_nil] at hl ⊢
 exact .of_eq (h us hl)
def jT(CX:CXT)(X:Cx)(E:XK):Prop:=∀ (pins:List (Addr×Obj)) (σ:St) (H:Hp) (s:Shared) (e:Value) (s':Shared),Inv X pins σ H s->CX X.stack H s E e s'->X.xe e s'
section
variable{X:Cx}{CX:CXT}{k:Nat}{f C:Addr}{fd:FuncData}{ps:List Str}{sp:Sp}{dvs:List V}{ds:List Value}{E:XK}{x m:Str}{p pos apos:Pos}{e o:Expr}{es:List Expr}{ta:TE}{t:TA}
theorem zG{pins:List (Addr×Obj)}{σ:St}{H:Hp}{s:Shared}{Q:VK}{us:List Value}{vs:List V}(F:FnOk X.prog X.w X.K X.mg X.base CX k f fd ps sp)(hr:Room k X.A)(hb:gJ X.K fd ps ds)(hd:aY dvs ds)(hx:jT CX X E)
  (I:Inv X pins σ H s) (r:aY vs us) (h:sp (vs++dvs) H Q E):wpAny (model X.prog X.w) X.A (call (.ref f) us) (EP X pins σ Q) X.xe s:=by
 have r2:aY (vs++dvs) (us++ds):=r.append hd
 have hl:(us++ds).length=ps.length:=by rw[<-r2.length];exact F.len _ _ _ _ h
 refine wpAny_call (codeAny_mono (F.run X.A X.stack s H ⟨us,[]⟩ (us++ds) (vs++dvs) Q E hr I.env0 (hb s us I.kIn hl) r2 h) fun r s' hq=>?_)
 cases r with
 | error e=>exact hx pins σ H s e s' I hq
 | ok fl=>
  cases fl with
  | ret u=>exact I.after hq
  | next=>exact False.elim hq
  | brk=>exact False.elim hq
  | cont=>exact False.elim hq
theorem aEL(F:FnOk X.prog X.w X.K X.mg X.base CX k f fd ps sp)(hr:Room k X.A)(hg:Gl X x)(hm:X.mg x=some (.ref f))(hk:PySem.W.keepIn X.K (.ref f)=true)(hb:gJ X.K fd ps ds)(hd:aY dvs ds)(hx:jT CX X E)
  (ha:PA X (e::es) t) (hdb:(x == ("__debug__":Str))=false:=by decide) (he:starEach (e::es) X.env=(false,eval e X.env)::starEach es X.env:=by rfl) (hpl:(backTo pos (starEach es X.env)).any (·.1)=false:=by rfl) :
  PE X (.Call (.Name x p) (e::es) [] pos) (xF sp dvs E t):=by
 intro pins s σ H Q I h
 refine wpAny_Call_Name_kw (pW I hg hm ?_ hdb)
 refine PySem.W.callWith_K (h₀:=X.base) I.ok.mod.kin hk (thn (ha pos pins s σ H _ I h) fun us s1 ⟨vs,H1,I1,r,q⟩=>⟨I1.kIn,?_⟩) he hpl
 exact zG F hr hb hd hx I1 r q
structure Mk(K:Frag)(C f:Addr):Prop where
 makes:PySem.W.makesIn K C=true
 init:PySem.W.findIn K (.ref C) "__init__"=some (some (.ref f))
 fn:PySem.W.isFn K (.ref f)=true
 kp:PySem.W.keepIn K (.ref C)=true
end
section
variable{X:Cx}{CX:CXT}{k:Nat}{f C:Addr}{fd:FuncData}{ps ks:List Str}{sp:Sp}{E:XK}{x m:Str}{p pos apos kpos:Pos}{e o:Expr}{es:List Expr}{kws:List Keyword}{te ta:TE}{t tk:TA}{nm:Option Str}
structure KBinds(K:Frag)(fd:FuncData)(ps ks:List Str)(g:List Value->List Value->List Value)(gV:List V->List V->List V):Prop where
 to:∀ (s:Shared) (us ws:List Value),K.In s.heap->(g us ws).length=ps.length->BindsTo s fd ⟨us,ks.zip ws⟩ (ps.zip (g us ws))
 rel:∀ {vs:List V} {us:List Value} {zs:List V} {ws:List Value},aY vs us->aY zs ws->aY (gV vs zs) (g us ws)
variable{g:List Value->List Value->List Value}{gV:List V->List V->List V}
end
structure FnScope(N P:List Str)(sc:Scope):Prop where
 kind:sc.kind=.function
 co:sc.isCoroutine=false
 gen:sc.isGenerator=false
 nd:N.Nodup
 pre:N.take P.length=P
 par:∀ x∈P,sc.names.lookup x=some .local\/sc.names.lookup x=some .cell
 nofree:∀ y∈sc.names,y.2≠.free
theorem rC{kindOf:Str->Option NameKind}{x:Str}:∀ {binds:List (Str×Value)} {m:Str->Option Value},(∀ v,(x,v)∉binds)->bindL kindOf binds m x=m x
 | [],_,_=>rfl
 | (n,v)::r,m,h=>by
  unfold bindL
  rw[rC fun w hw=>h w (List.mem_cons_of_mem _ hw)]
  split
  ·have:x≠n:=by rintro rfl;exact h v List.mem_cons_self
   simp[this]
  ·rfl
theorem rD{kindOf:Str->Option NameKind}{x:Str}:∀ {binds:List (Str×Value)} {m:Str->Option Value},(∀ v,(x,v)∉binds)->bindC kindOf binds m x=m x
 | [],_,_=>rfl
 | (n,v)::r,m,h=>by
  unfold bindC
  rw[rD fun w hw=>h w (List.mem_cons_of_mem _ hw)]
  split
  ·rfl
  ·have:x≠n:=by rintro rfl;exact h v List.mem_cons_self
   simp[this]
theorem mV{kindOf:Str->Option NameKind}{x:Str}{v:Value}:∀ {P:List Str} {vs:List Value} {i:Nat} {m:Str->Option Value},P.Nodup->P[i]? = some x->vs[i]? = some v->kindOf x=some .local->
  bindL kindOf (P.zip vs) m x=some v
 | [],_,_,_,_,h,_,_=>by simp at h
 | _::_,[],_,_,_,_,h,_=>by simp at h
 | p::P,w::vs,0,m,nd,h1,h2,hk=>by
  simp at h1 h2;subst h1;subst h2
  show bindL kindOf ((p,w)::P.zip vs) m p=_
  unfold bindL
  rw[rC fun v hv=>(List.nodup_cons.mp nd).1 (List.of_mem_zip hv).1,if_pos hk]
  simp
 | p::P,w::vs,i+1,m,nd,h1,h2,hk=>by
  show bindL kindOf ((p,w)::P.zip vs) m x=_
  unfold bindL
  exact mV (i:=i) (List.nodup_cons.mp nd).2 (by simpa using h1) (by simpa using h2) hk
theorem mW{kindOf:Str->Option NameKind}{x:Str}{v:Value}:∀ {P:List Str} {vs:List Value} {i:Nat} {m:Str->Option Value},P.Nodup->P[i]? = some x->vs[i]? = some v->kindOf x≠some .local->
  bindC kindOf (P.zip vs) m x=some v
 | [],_,_,_,_,h,_,_=>by simp at h
 | _::_,[],_,_,_,_,h,_=>by simp at h
 | p::P,w::vs,0,m,nd,h1,h2,hk=>by
  simp at h1 h2;subst h1;subst h2
  show bindC kindOf ((p,w)::P.zip vs) m p=_
  unfold bindC
  rw[rD fun v hv=>(List.nodup_cons.mp nd).1 (List.of_mem_zip hv).1,if_neg hk]
  simp
 | p::P,w::vs,i+1,m,nd,h1,h2,hk=>by
  show bindC kindOf ((p,w)::P.zip vs) m x=_
  unfold bindC
  exact mW (i:=i) (List.nodup_cons.mp nd).2 (by simpa using h1) (by simpa using h2) hk
noncomputable def eI(N:List Str)(vs:List V):St:=vs.map some++List.replicate (N.length - vs.length) none
noncomputable def gL(CX:CXT)(P:Program)(w:World)(K:Frag)(mg:Str->Option Value)(base:Heap)(N:List Str)(qual:Str)(scope:Scope)(f:Addr)(cd:Value)(A:Around)(outer:List Env)(s:Shared)(H:Hp)(E:XK):Cx where
 prog:=P
 w:=w
 K:=K
 mg:=mg
 base:=base
 A:=A.deeper (envOfC qual scope s.heap.objs.size f cd)
 N:=N
 s₀:=s
 H₀:=H
 env:=envOfC qual scope s.heap.objs.size f cd
 outer:=outer
 stack:=envOfC qual scope s.heap.objs.size f cd::outer
 ex:=[]
 calm:=true
 fn:=fun _=>true
 pn:=[]
 xe:=fun e s'=>wpAny (model P w) (A.deeper (envOfC qual scope s.heap.objs.size f cd)) (leaving (envOfC qual scope s.heap.objs.size f cd) e) (fun _ s''=>CX outer H s E e s'') (fun e' s''=>CX outer H s E e' s'') s'
theorem jU{sc:Scope}{n:Nat}{x:Str}(h:sc.names.lookup x=some .cell):∃ c,(cellsFrom n sc.names []).lookup x=some c:=by
 have q:=PySem.W.cellsFrom_some sc.names n [] (.inl h)
 exact Option.isSome_iff_exists.mp q
theorem zH{CX:CXT}{P:Program}{w:World}{K:Frag}{mg:Str->Option Value}{base:Heap}{N ps:List Str}{qual:Str}{scope:Scope}{f:Addr}{cd:Value}{A:Around}{outer:List Env}{s s1:Shared}{H:Hp}{E:XK}{us:List Value}{vs:List V}
  (S:FnScope N ps scope) (hd:A.handled=none) (e0:Env0 P w K mg base A outer s H) (hl:vs.length=ps.length) (r:aY vs us)
  (x:InCallC s s.heap.objs.size (bindL (envOfC qual scope s.heap.objs.size f cd).kindOf (ps.zip us) fun _=>none) (cellsFrom (s.heap.objs.size+1) scope.names []) (bindC (envOfC qual scope s.heap.objs.size f cd).kindOf (ps.zip us) fun _=>none) s1) :
  Inv (gL CX P w K mg base N qual scope f cd A outer s H E) [] (eI N vs) H s1:=by
 have hpl:ps.length<=N.length:=by have:=congrArg List.length S.pre;rw[List.length_take] at this;omega
 obtain ⟨h1,tk,rfl,hk⟩:=x.done
 have noA:∀ b:Addr,b∉(gL CX P w K mg base N qual scope f cd A outer s H E).ex:=fun b z=>absurd (show b∈([]:List Addr) from z) (by simp)
 refine ⟨⟨e0.mod,S.kind,rfl,rfl,Nat.le_refl _,fun y z c h1 h2=>?_,fun y hy=>?_,fun y c _ h=>?_,fun _=>hd,Around.frames_deeper e0.frames,.inr ⟨rfl,rfl⟩,fun b z=>absurd z (noA b),e0.bs,e0.bsz,fun b _ _=>noA b,fun b z=>absurd z (noA b),e0.funs,e0.frf⟩,
  rfl,e0.bare,Un.kept hk,⟨_,x.toInCall.ns,fun i y v h1 h2 h3=>?_⟩,fun y c h=>⟨_,x.cell y c h⟩,e0.hok.fresh (Nat.le_refl _),fun y c h=>?_,fun p hp=>absurd (show p∈([]:List (Addr×Obj)) from hp) (by simp),e0.hok.kept hk,?_⟩
 ·exact name_of_addr x.apart (PySem.mem_of_lookup h1) (PySem.mem_of_lookup h2)
 ·have hy:scope.names.lookup y=some .cell\/scope.names.lookup y=some .free:=hy
  rcases hy with hy|hy
  ·exact jU hy
  ·exact absurd rfl (S.nofree _ (PySem.mem_of_lookup hy))
 ·exact Nat.le_of_lt (x.above y c (PySem.mem_of_lookup h))
 ·have hi:i < vs.length:=by
   unfold eI at h2
   by_cases hi:i < vs.length
   ·exact hi
   ·rw[List.getElem?_append_right (by simpa using hi)] at h2
    rw[List.getElem?_replicate] at h2
    split at h2<;>cases h2
  have ha:vs[i]? = some v:=by
   unfold eI at h2
   rw[List.getElem?_append_left (by simpa using hi),List.getElem?_map] at h2
   cases e:vs[i]? with
   | none=>rw[e] at h2;cases h2
   | some a=>rw[e] at h2;cases h2;rfl
  obtain ⟨u,hu,rv⟩:=r.get ha
  have hp:ps[i]? = some y:=by
   rw[<-S.pre,List.getElem?_take_of_lt (by omega)];exact h1
  have ndP:ps.Nodup:=by rw[<-S.pre];exact S.nd.sublist (List.take_sublist _ _)
  refine ⟨u,rv,?_⟩
  rcases S.par y (List.mem_of_getElem? hp) with k|k
  ·exact .inl ⟨k,mV ndP hp hu k⟩
  ·obtain ⟨c,e⟩:=jU (n:=s.heap.objs.size+1) k
   refine .inr ⟨.inl k,c,e,?_⟩
   have q:=x.cell y c e
   rw[mW ndP hp hu (by show scope.names.lookup y≠_;rw[k];decide)] at q
   exact q
 ·exact e0.hok.fresh (Nat.le_of_lt (x.above y c (PySem.mem_of_lookup h)))
 ·unfold eI
  show _=N.length
  rw[List.length_append,List.length_map,List.length_replicate]
  omega
theorem xG{CX:CXT}{P:Program}{w:World}{K:Frag}{mg:Str->Option Value}{base:Heap}{k:Nat}{f:Addr}{name qual:Str}{params:Arguments}{body:List Stmt}{scope:Scope}{dV kV doc pm cdv ct oc:Value}{an od:Option Addr}
  {osl:Array (Option Value)} {N ps:List Str} {sp:Sp} (lk:K.lookup f=some ⟨oc,od,.func (PySem.W.fnOf name qual params body scope dV kV doc pm an cdv ct),osl⟩) (hcd:PySem.W.codeIn K cdv qual=true) (S:FnScope N ps scope)
  (len:∀ vs H Q E,sp vs H Q E->vs.length=ps.length)
  (hbody:∀ (A:Around) (outer:List Env) (s:Shared) (H:Hp) (vs:List V) (Q:VK) (E:XK),Room k (A.deeper (envOfC qual scope s.heap.objs.size f cdv))->sp vs H Q E->
   ∃ t,PSs (gL CX P w K mg base N qual scope f cdv A outer s H E) body t/\t {nx:=fun _ H'=>Q .non H',rt:=Q} (eI N vs) H) :
  FnOk P w K mg base CX (k+1) f (PySem.W.fnOf name qual params body scope dV kV doc pm an cdv ct) ps sp:=by
 refine ⟨len,fun A outer s H args us vs Q E hr e0 hb r hsp=>?_⟩
 have hl:=len _ _ _ _ hsp
 have KX:K.In s.heap:=e0.mod.kin.keeps fun b o e=>(e0.bs b o e).1
 have lim:s.heap.NoLimit:=e0.mod.nolimit.keeps fun b o e=>(e0.bs b o e).1
 have hkind:∀ y∈ps.zip us,scope.names.lookup y.1=some .local\/(scope.names.lookup y.1=some .cell/\((cellsFrom (s.heap.objs.size+1) scope.names []).lookup y.1).isSome=true):=fun zz0 hy=>by
  obtain ⟨n,v⟩:=zz0
  rcases S.par n (List.of_mem_zip hy).1 with q|q
  ·exact .inl q
  ·exact .inr ⟨q,PySem.W.cellsFrom_some _ _ _ (.inl q)⟩
 refine codeAny_call_function hr.depth (KX _ _ lk) rfl S.co S.gen rfl (PySem.W.codeRec_of KX hcd) (hb _ _ _ _ ?_)
 refine wpAny_newFunctionEnv_cells S.kind hkind fun env he s1 x=>?_
 subst he
 refine ⟨lim.keeps x.toInCall.keep,codeAny_func ?_⟩
 obtain ⟨t,ht,hq⟩:=hbody A outer s H vs Q E (hr.deeper _) hsp
 have I:Inv (gL CX P w K mg base N qual scope f cdv A outer s H E) [] (eI N vs) H s1:=zH S hr.hd e0 hl r x
 refine wpAny_mono (ht [] s1 (eI N vs) H _ I hq) (fun fl s' hs=>?_) fun e s' hs=>hs
 have fin:∀ {σ':St} {H':Hp} {v:V} {u:Value},Inv (gL CX P w K mg base N qual scope f cdv A outer s H E) [] σ' H' s'->aQ v u->Q v H'->CE outer P w H s Q u s':=
  fun {σ' H' v u} J rv q=>⟨v,H',J.os,J.bare,J.base,J.hok,rv,q⟩
 cases fl with
 | ret u=>
  obtain ⟨v,σ',H',J,rv,q⟩:=hs
  exact fin J rv q
 | next=>
  obtain ⟨σ',H',J,q⟩:=hs
  exact fin (v:=V.non) (u:=Value.none) J rfl q
 | brk=>
  obtain ⟨_,_,_,q⟩:=hs
  exact False.elim q
 | cont=>
  obtain ⟨_,_,_,q⟩:=hs
  exact False.elim q
end L2
namespace L2
open PySem PySem.Spec PyProof.Rows
section
variable{X:Cx}{x:Str}{p pos:Pos}{e:Expr}{es:List Expr}{t:TA}{id T:String}{r:List V->Hp->VK->Prop}
def tCB(r:List V->Hp->VK->Prop)(t:TA):TE:=fun σ H Q=>t σ H fun vs H1=>r vs H1 Q
theorem aZ(hc:fK X (.builtin id) r)(hg:Gl X x)(hm:X.mg x=none)(hv:bootBuiltins x=some (.builtin id))(ha:PA X (e::es) t)(hn:x≠"__name__":=by decide)(hdb:(x == ("__debug__":Str))=false:=by decide)
  (he:starEach (e::es) X.env=(false,eval e X.env)::starEach es X.env:=by rfl) (hpl:(backTo pos (starEach es X.env)).any (·.1)=false:=by rfl):PE X (.Call (.Name x p) (e::es) [] pos) (tCB r t):=by
 intro pins s σ H Q I h
 refine wpAny_Call_Name_kw (iT I hg hm hv ?_ hn hdb)
 exact PyProof.Rows.callWith_builtin1 (thn (ha pos pins s σ H _ I h) fun us s1 ⟨vs,H1,I1,r1,q1⟩=>hc pins s1 σ H1 vs us Q I1 r1 q1) he hpl
theorem cN(hc:fK X (.type T) r)(hg:Gl X x)(hm:X.mg x=none)(hv:bootBuiltins x=some (.type T))(ha:PA X (e::es) t)(hn:x≠"__name__":=by decide)(hdb:(x == ("__debug__":Str))=false:=by decide)
  (he:starEach (e::es) X.env=(false,eval e X.env)::starEach es X.env:=by rfl) (hpl:(backTo pos (starEach es X.env)).any (·.1)=false:=by rfl):PE X (.Call (.Name x p) (e::es) [] pos) (tCB r t):=by
 intro pins s σ H Q I h
 refine wpAny_Call_Name_kw (iT I hg hm hv ?_ hn hdb)
 exact PyProof.Rows.callWith_type1 (thn (ha pos pins s σ H _ I h) fun us s1 ⟨vs,H1,I1,r1,q1⟩=>hc pins s1 σ H1 vs us Q I1 r1 q1) he hpl
end
end L2
namespace HT
open PySem PyProof.Rows
theorem aBY(A:Around)(s:Shared)(a:Int)(t:Tok)(c:Int)(u:Tok):∃ e,SeqAt.EqAt A s (.int a t) (.int c u) e/\(e=true↔a=c):=
 ⟨(a == c),SeqAt.EqAt.int_int a t c u,by simp⟩
section
open PySem.SeqAt
open PySem.AutoSeq1 (wpAny_loadPart')
open PySem.MeetsSeq PySem.MeetsSeq2 PySem.MeetsSeq3
end
section
variable{prog:Program}{w:World}{A:Around}{E:Value->Shared->Prop}{s:Shared}
theorem aEM{t b:Addr}{vs ws:List Value}{Q:Value->Shared->Prop}(ht:IsTup s.heap t vs.toArray)(hb:IsTup s.heap b ws.toArray)(hv:vs≠[])
  (h1:ws=[]->Q (.ref t) s) (h2:ws≠[]->Q (.ref s.heap.objs.size) {s with heap:=s.heap.push {cls:=.type "tuple",data:=.seq (vs++ws).toArray}})
  (hsz:vs.length+ws.length<=sizeLine):wpAny (model prog w) A (binaryOp .Add (.ref t) (.ref b)) Q E s:=by
 obtain ⟨⟨cls,dd,data,sl⟩,ho,hc,n,hd⟩:=id ht
 obtain ⟨⟨cls2,dd2,data2,sl2⟩,ho2,hc2,n2,hd2⟩:=id hb
 simp only at hc hd hc2 hd2
 subst hc hd hc2 hd2
 have e:vs.toArray++ws.toArray=(vs++ws).toArray:=by simp
 by_cases hw:ws=[]
 ·exact concat_meets ⟨_,ho,rfl⟩ ⟨_,ho2,rfl⟩ noFill_tuple_add seq_tuple_add PySem.F.slot_tuple_add PySem.F.entry_tuple_add (PySem.F.args_tuple_add_2 _ _)
   (tuple_addW1 t b vs.toArray ws.toArray n n2 dd dd2 sl sl2 (by simpa using hv) (by simp[hw])) ⟨ho,ho2,h1 hw⟩
 ·refine concat_meets ⟨_,ho,rfl⟩ ⟨_,ho2,rfl⟩ noFill_tuple_add seq_tuple_add PySem.F.slot_tuple_add PySem.F.entry_tuple_add (PySem.F.args_tuple_add_2 _ _)
   (tuple_addW2 t b vs.toArray ws.toArray n n2 dd dd2 sl sl2 (by simpa using hv) (by simpa using hw) (by rw[List.size_toArray,List.size_toArray];exact hsz)) ⟨ho,ho2,?_⟩
  rw[e]
  exact h2 hw
end
end HT
namespace L2
open PySem PySem.Spec PyProof.Rows
abbrev TO:=St->Hp->(Option Int->Hp->Prop)->Prop
def PO(X:Cx)(e:Option Expr)(t:TO):Prop:=
 ∀ (pins:List (Addr×Obj)) (s:Shared) (σ:St) (H:Hp) (Q:Option Int->Hp->Prop),Inv X pins σ H s->t σ H Q->
  wpAny (model X.prog X.w) X.A (evalPart e X.env) (fun u s'=>∃ o H',Inv X pins σ H' s'/\IsPart u o/\Q o H') X.xe s
section
variable{X:Cx}{e:Expr}{te:TE}{lo hi:Option Expr}{tl th:TO}{pos p2:Pos}
def aJR(K:Frag):R2:=fun x y H Q=>∃ a b xs ys,x=.ref a/\y=.ref b/\SqT K H a xs/\SqT K H b ys/\xs≠[]/\xs.length+ys.length<=sizeLine /\
 (ys=[]->Q (.ref a) H)/\(ys≠[]->∀ p,H p=none->Q (.ref p) (upd H p (.tup (xs++ys))))
theorem aY.nil_iff{xs:List V}{us:List Value}(r:aY xs us):us=[]↔xs=[]:=by
 cases r with
 | nil=>simp
 | cons _ _=>simp
theorem aEN:OpR X (binaryOp .Add) (aJR X.K):=by
 intro pins s σ H x y v u Q I rx ry h
 obtain ⟨a,b,xs,ys,rfl,rfl,ha,hb,hx,hz,q1,q2⟩:=h
 cases rx
 cases ry
 obtain ⟨its,r1,p1,_⟩:=I.tuple ha
 obtain ⟨its2,r2,p2,_⟩:=I.tuple hb
 refine HT.aEM p1 p2 (fun z=>hx (r1.nil_iff.mp z)) (fun z=>⟨.ref a,H,I,rfl,q1 (r2.nil_iff.mp z)⟩) (fun z=>?_) (by rw[<-r1.length,<-r2.length];exact hz)
 refine ⟨.ref s.heap.objs.size,_,I.laid (t':=s.toks) (o:=.tup (xs++ys)) (fun b ob q=>Heap.get?_push_of_some _ q) (Nat.le_refl _) ?_,rfl,q2 (fun w=>z (r2.nil_iff.mpr w)) _ (I.hok.fresh (Nat.le_refl _))⟩
 exact ⟨by rw[List.length_append];exact hz,_,r1.append r2,IsTup.new _ _⟩
end
end L2
namespace L2
open PySem PySem.Spec PyProof.Rows
noncomputable def ixN(n:Nat)(i:Int):Option Nat:=if 0<=i then (if i < n then some i.toNat else none) else if -(n:Int)<=i then some (i+n).toNat else none
noncomputable def atI{α:Type}(xs:List α)(i:Int):Option α:=(ixN xs.length i).bind fun j=>xs[j]?
theorem aEO{n:Nat}{i:Int}{j:Nat}(h:ixN n i=some j):seqIndex? i n=some j/\j < n /\ -(n:Int)<=i/\i < n:=by
 unfold ixN at h
 by_cases h0:0<=i
 ·rw[if_pos h0] at h
  by_cases h1:i < n
  ·rw[if_pos h1] at h
   have e:i.toNat=j:=Option.some.inj h
   exact ⟨by rw[seqIndex_of h0 h1,e],by omega,by omega,h1⟩
  ·rw[if_neg h1] at h;cases h
 ·rw[if_neg h0] at h
  by_cases h1 : -(n:Int)<=i
  ·rw[if_pos h1] at h
   have e:(i+n).toNat=j:=Option.some.inj h
   exact ⟨by rw[seqIndex_neg (by omega) h1,e],by omega,h1,by omega⟩
  ·rw[if_neg h1] at h;cases h
theorem pY{α:Type}{xs:List α}{i:Int}{v:α}(h:atI xs i=some v):∃ j,seqIndex? i xs.length=some j/\xs[j]? = some v/\j < xs.length /\ -(xs.length:Int)<=i/\i < xs.length:=by
 unfold atI at h
 cases e:ixN xs.length i with
 | none=>rw[e] at h;cases h
 | some j=>
  rw[e] at h
  obtain ⟨h1,h2,h3,h4⟩:=aEO e
  exact ⟨j,h1,h,h2,h3,h4⟩
theorem dB{α:Type}{xs:List α}{j:Nat}{v:α}(h:xs[j]? = some v):atI xs (j:Int)=some v:=by
 have hj:j < xs.length:=(List.getElem?_eq_some_iff.mp h).1
 have e:ixN xs.length (j:Int)=some j:=by
  unfold ixN
  rw[if_pos (by omega),if_pos (by omega)];simp
 unfold atI;rw[e];exact h
def vK(b:Expr):Prop:=∀ o i,subscripted b false o i=operate [o,i] (getItem o i)
def IxR(X:Cx)(r:R2):Prop:=
 ∀ (value slice:Expr) (pins:List (Addr×Obj)) (s:Shared) (σ:St) (H:Hp) (x y:V) (v u:Value) (Q:VK),Inv X pins σ H s->aQ x v->aQ y u->r x y H Q->
  subscripted slice false v u=operate [v,u] (getItem v u)->wpAny (model X.prog X.w) X.A (subscriptTail value slice v u) (EP X pins σ Q) X.xe s
def MtR(X:Cx)(id:String)(r:V->List V->Hp->VK->Prop):Prop:=
 ∀ (pins:List (Addr×Obj)) (s:Shared) (σ:St) (H:Hp) (x:V) (xs:List V) (v:Value) (us:List Value) (Q:VK),Inv X pins σ H s->aQ x v->aY xs us->r x xs H Q->
  wpAny (model X.prog X.w) X.A (call (.builtin id) (v::us)) (EP X pins σ Q) X.xe s
section
variable{X:Cx}{a b:Expr}{ta tb:TE}{pos:Pos}
theorem aJS{r:R2}(hr:IxR X r)(ha:PE X a ta)(hb:PE X b tb)(hs:vK b):PE X (.Subscript a b pos) (tOp r ta tb):=by
 intro pins s σ H Q I h
 exact Subscript_ (aBW ha hb I h fun v u s2 x y H2 I2 rx ry q=>hr a b pins s2 σ H2 x y v u Q I2 rx ry q (hs _ _))
def aKZ(K:Frag):R2:=fun x y H Q=>∃ p xs i v,x=.ref p/\y=.int i/\SqL K H p xs/\atI xs i=some v/\Q v H
def aK0(K:Frag):R2:=fun x y H Q=>∃ p xs i v,x=.ref p/\y=.int i/\SqT K H p xs/\atI xs i=some v/\Q v H
def aK1:R2:=fun x y H Q=>∃ z i c,x=.str z/\y=.int i/\z.length<=sizeLine/\atI z.cps.toList i=some c/\Q (.str ⟨#[c]⟩) H
theorem aEP:IxR X (aKZ X.K):=by
 intro value slice pins s σ H x y v u Q I rx ry h hs
 obtain ⟨p,xs,i,z,rfl,rfl,hq,he,q⟩:=h
 cases rx
 obtain ⟨t,rfl⟩:=ry
 obtain ⟨its,r,pl,hz⟩:=I.list hq
 obtain ⟨j,h1,h2,h3,h4,h5⟩:=pY he
 obtain ⟨w,ew,rw'⟩:=r.get h2
 have hl:=r.length
 have hn:=o7
 have fin:EP X pins σ Q w s:=⟨z,H,I,rw',q⟩
 by_cases h0:0<=i
 ·have hj:i.toNat=j:=by
   rw[seqIndex_of h0 h5] at h1
   exact Option.some.inj h1
  exact item_listR pl.isList h0 (by omega) (by rw[hj];simpa using ew) fin hs
 ·have hj:(i+(its.toArray.size:Int)).toNat=j:=by
   rw[seqIndex_neg (by omega) h4] at h1
   rw[List.size_toArray,<-hl]
   exact Option.some.inj h1
  exact subscriptTail_builtinR (x:=w) pl.isList.typeIs slot_list_getitem.lookup
   (wpAny_getItem_list_neg (Q:=fun r s'=>r=w/\EP X pins σ Q r s') pl.isList (by omega) (by rw[List.size_toArray]<;>omega) (by omega) (by rw[hj];simpa using ew) ⟨rfl,fin⟩) hs
theorem aHK:IxR X (aK0 X.K):=by
 intro value slice pins s σ H x y v u Q I rx ry h hs
 obtain ⟨p,xs,i,z,rfl,rfl,hq,he,q⟩:=h
 cases rx
 obtain ⟨t,rfl⟩:=ry
 obtain ⟨its,r,pl,hz⟩:=I.tuple hq
 obtain ⟨j,h1,h2,h3,h4,h5⟩:=pY he
 obtain ⟨w,ew,rw'⟩:=r.get h2
 have hl:=r.length
 have hn:=o7
 have fin:EP X pins σ Q w s:=⟨z,H,I,rw',q⟩
 exact subscriptTail_builtinR (x:=w) pl.typeIs slot_tuple_getitem.lookup
  (getItem_tuple (j:=j) (Q:=fun r s'=>r=w/\EP X pins σ Q r s') pl (by omega) (by omega) (by rw[List.size_toArray,<-hl];exact h1) (by simpa using ew) ⟨rfl,fin⟩) hs
theorem aHL:IxR X aK1:=by
 intro value slice pins s σ H x y v u Q I rx ry h hs
 obtain ⟨z,i,c,rfl,rfl,hz,he,q⟩:=h
 obtain ⟨t,rfl⟩:=rx
 obtain ⟨t',rfl⟩:=ry
 obtain ⟨j,h1,h2,h3,h4,h5⟩:=pY he
 have hl:z.cps.toList.length=z.length:=by simp[Str.length]
 rw[hl] at h1 h4 h5
 have hn:=o7
 exact tail_any (typeIs_str s z t) slot_str_getitem.lookup (getItem_str (c:=c) (by
  have e1:decide (i < -(2 ^ 63:Int))=false:=decide_eq_false (by omega)
  have e2:decide (i>=2 ^ 63)=false:=decide_eq_false (by omega)
  rw[e1,e2,Bool.or_false]) (by rw[h1];simpa using h2) ⟨.str ⟨#[c]⟩,H,I.tok _,⟨_,rfl⟩,q⟩) hs
theorem Inv.lst{pins:List (Addr×Obj)}{σ:St}{H:Hp}{s:Shared}{p:Addr}{xs:List V}(I:Inv X pins σ H s)(h:H p=some (.lst xs)) :
  ∃ (its:List Value) (n:Nat),aY xs its/\s.heap.get? p=some {cls:=.type "list",data:=.seq its.toArray n}/\xs.length<=sizeLine:=by
 obtain ⟨z,its,n,r,e⟩:=I.hok p _ h
 exact ⟨its,n,r,e,z⟩
theorem sO:fK X (.type "list") (fun xs H Q=>∃ p ys,xs=[.ref p]/\(SqL X.K H p ys\/SqT X.K H p ys)/\∀ l,H l=none->Q (.ref l) (upd H l (.lst ys))):=by
 intro pins s σ H xs us Q I r h
 obtain ⟨p,ys,rfl,hq,q⟩:=h
 obtain ⟨u,rfl,rx⟩:=kG r
 cases rx
 have fin:∀ (its:List Value),aY ys its->ys.length<=sizeLine->∀ (h':Heap) (c':Nat),(∀ b o',s.heap.get? b=some o'->h'.get? b=some o')->
   h'.get? s.heap.objs.size=some {cls:=.type "list",dict:=none,data:=.seq its.toArray c',slots:=#[]}->EP X pins σ Q (.ref s.heap.objs.size) {s with heap:=h'}:=fun its r' hz h' c' kp e=>
  ⟨.ref s.heap.objs.size,_,I.laid (t':=s.toks) kp (Nat.le_refl _) (show bN X.prog X.w _ h' _ (.lst ys) from ⟨hz,its,c',r',e⟩),rfl,q _ (I.hok.fresh (Nat.le_refl _))⟩
 rcases hq with hq|hq
 ·obtain ⟨its,r',pl,hz⟩:=I.list hq
  have hlen:=r'.length
  obtain ⟨o,ho,hc,n,hd⟩:=pl.isList
  exact call_list_seq p (.inl rfl) ho hc hd (fun h' c' kp e=>fin its r' hz h' c' kp e) (by simp only[List.size_toArray]<;>omega)
 ·obtain ⟨its,r',pl,hz⟩:=I.tuple hq
  have hlen:=r'.length
  obtain ⟨o,ho,hc,n,hd⟩:=pl
  exact call_list_seq p (.inr rfl) ho hc hd (fun h' c' kp e=>fin its r' hz h' c' kp e) (by simp only[List.size_toArray]<;>omega)
theorem cE:fK X (.type "tuple") (fun xs H Q=>∃ p ys,xs=[.ref p]/\((SqL X.K H p ys/\∀ l,H l=none->Q (.ref l) (upd H l (.tup ys)))\/(SqT X.K H p ys/\Q (.ref p) H))):=by
 intro pins s σ H xs us Q I r h
 obtain ⟨p,ys,rfl,h⟩:=h
 obtain ⟨u,rfl,rx⟩:=kG r
 cases rx
 rcases h with ⟨hq,q⟩|⟨hq,q⟩
 ·obtain ⟨its,r',pl,hz⟩:=I.list hq
  have hlen:=r'.length
  refine call_tuple_list pl.isList (fun h' kp=>?_) (by simp only[List.size_toArray]<;>omega)
  have I1:Inv X pins σ H {s with heap:=h'}:=I.kept (t':=s.toks) kp
  have I2:Inv X pins σ (upd H h'.objs.size (.tup ys)) {s with heap:=h'.push {cls:=.type "tuple",data:=.seq its.toArray}}:=
   I1.laid (t':=s.toks) (fun b o e=>Heap.get?_push_of_some _ e) (Nat.le_refl _) (show bN X.prog X.w _ _ _ (.tup ys) from ⟨hz,its,r',IsTup.new _ _⟩)
  exact ⟨.ref h'.objs.size,_,I2,rfl,q _ (I1.hok.fresh (Nat.le_refl _))⟩
 ·obtain ⟨its,r',pl,hz⟩:=I.tuple hq
  exact call_tuple_same pl ⟨.ref p,H,I,rfl,q⟩
def tyV(K:Frag)(T:String)(x:V)(H:Hp):Prop:=match x with
 | .str _=>T="str"
 | .int _=>T="int"
 | .ref p=>(T="list"/\∃ xs,SqL K H p xs)\/(T="tuple"/\∃ o,K.lookup p=some o/\o.cls=.type "tuple"/\o.dict=none) \/
  (T="dict"/\((∃ kvs,H p=some (.dK kvs))\/∃ kvs,H p=some (.dT kvs)))\/(T="set"/\∃ S n,H p=some (.set S n))
 | _=>False
theorem aHM{pins:List (Addr×Obj)}{σ:St}{H:Hp}{s:Shared}{T:String}{x:V}{v:Value}(I:Inv X pins σ H s)(r:aQ x v)(ty:tyV X.K T x H) :
  s.TypeIs v T/\∀ a,v=.ref a->∃ ob,s.heap.get? a=some ob/\ob.dict=none:=by
 cases x with
 | str z=>
  obtain ⟨t,rfl⟩:=r
  cases (show T="str" from ty)
  exact ⟨typeIs_str s z t,fun _ e=>nomatch e⟩
 | int i=>
  obtain ⟨t,rfl⟩:=r
  cases (show T="int" from ty)
  exact ⟨typeIs_int s i t,fun _ e=>nomatch e⟩
 | ref p=>
  cases r
  rcases ty with ⟨rfl,xs,hq⟩|⟨rfl,o,hk,hc,hd⟩|⟨rfl,hk⟩|⟨rfl,S,n,hk⟩
  ·obtain ⟨its,_,pl,_⟩:=I.list hq
   refine ⟨pl.isList.typeIs,fun a e=>?_⟩
   cases e
   obtain ⟨o,n,e,c,hd,_⟩:=pl
   exact ⟨o,e,hd⟩
  ·refine ⟨⟨o,I.kIn p o hk,hc⟩,fun a e=>?_⟩
   cases e
   exact ⟨o,I.kIn _ o hk,hd⟩
  ·have z:∃ o,s.heap.get? p=some o/\o.ExactDict:=by
    rcases hk with ⟨kvs,hk⟩|⟨kvs,hk⟩
    ·obtain ⟨_,_,_,_,o,_,_,e,ex,_⟩:=I.hok p _ hk
     exact ⟨o,e,ex⟩
    ·obtain ⟨_,_,_,_,o,_,_,e,ex,_⟩:=I.hok p _ hk
     exact ⟨o,e,ex⟩
   obtain ⟨o,e,ex⟩:=z
   refine ⟨⟨o,e,ex.1⟩,fun a e2=>?_⟩
   cases e2
   exact ⟨o,e,ex.2.1⟩
  ·obtain ⟨o,_,_,_,e,ex,_⟩:=I.hok p _ hk
   refine ⟨⟨o,e,ex.1⟩,fun a e2=>?_⟩
   cases e2
   exact ⟨o,e,ex.2.1⟩
 | _=>exact False.elim ty
def tBM(K:Frag)(T:String)(r:V->List V->Hp->VK->Prop)(to:TE)(t:TA):TE:=fun σ H Q=>to σ H fun x H1=>tyV K T x H1/\t σ H1 fun xs H2=>r x xs H2 Q
variable{o e:Expr}{es:List Expr}{to:TE}{t:TA}{name:Str}{apos cpos:Pos}{T id:String}{r:V->List V->Hp->VK->Prop}
theorem h8(pa:PlainAttrs T)(slot:Slot T name id)(hty:typeOf (.builtin id)=pure (.type "method_descriptor"))(hm:MtR X id r)(ho:PE X o to)(ha:PA X (e::es) t)
  (hbase:attributeBase o name X.env (eval o X.env)=eval o X.env:=by rfl)
  (hfew:((backTo cpos (starEach (e::es) X.env)).all (fun x=>!x.1) && (backToKw cpos (keywordEach [] X.env)).all (fun x=>x.1.isSome)
   && decide ((e::es).length+([]:List Keyword).length+(if ([]:List Keyword).isEmpty then 0 else 1) < 30))=true:=by rfl)
  (hline:(apos.endLine == cpos.line)=true:=by rfl) (hs:starEach (e::es) X.env=(false,eval e X.env)::starEach es X.env:=by rfl) (hplain:(backTo cpos (starEach es X.env)).any (·.1)=false:=by rfl) :
  PE X (.Call (.Attribute o name apos) (e::es) [] cpos) (tBM X.K T r to t):=by
 intro pins s σ H Q I h
 refine wpAny_Call_method_late hbase hfew hline rfl (thn (ho pins s σ H _ I h) fun v s1 zz0=>?_)
 obtain ⟨x,H1,I1,r1,ty,q1⟩:=zz0
 obtain ⟨h1,h2⟩:=aHM I1 r1 ty
 refine ⟨T,id,pa,slot,hty,h1,h2,?_⟩
 have hA:=ha cpos pins s1 σ H1 _ I1 q1
 rw[hs] at hA ⊢
 refine Calls.callWith_builtin (by show (false || (backTo cpos (starEach es X.env)).any (·.1))=false;rw[hplain]<;>rfl) (Calls.evalArgs_plain ?_)
 exact thn hA fun us s2 ⟨vs,H2,I2,r2,q2⟩=>hm pins s2 σ H2 x vs v us Q I2 r1 r2 q2
end
end L2
namespace L2
open PySem PySem.Spec PyProof.Rows
def MtM(X:Cx)(id:String)(r:V->List V->Hp->VK->Prop):Prop:=
 ∀ (pins:List (Addr×Obj)) (s:Shared) (σ:St) (H:Hp) (x:V) (xs:List V) (v:Value) (us:List Value) (Q:VK),Inv X pins σ H s->aQ x v->aY xs us->r x xs H Q->
  wpAny (model X.prog X.w) X.A (call (.builtin id) (v::us)) (EP X pins σ Q) X.xe s
theorem aY.one:∀ {x:V} {us:List Value},aY [x] us->∃ u,us=[u]/\aQ x u
 | _,_,.cons r .nil=>⟨_,rfl,r⟩
theorem aY.reverse{xs:List V}{us:List Value}(h:aY xs us):aY xs.reverse us.reverse:=by
 induction h with
 | nil=>exact .nil
 | cons r t ih=>rw[List.reverse_cons,List.reverse_cons];exact aY.append ih (.cons r .nil)
section
variable{X:Cx}{pins:List (Addr×Obj)}{σ:St}{H:Hp}{s:Shared}{l b:Addr}{xs ys zs:List V}
theorem Inv.lset{its its':List Value}{n:Nat}{f:Array Value->Array Value}{t':Nat}(I:Inv X pins σ H s)(hH:H l=some (.lst xs))
  (e:s.heap.get? l=some {cls:=.type "list",data:=.seq its.toArray n}) (hf:f its.toArray=its'.toArray) (hv:aY ys its') (hz:ys.length<=sizeLine) :
  Inv X pins σ (upd H l (.lst ys)) {s with heap:=s.heap.update l (Obj.mapSeq f),toks:=t'}:=by
 have q:=PySem.IsL.update e f
 rw[hf] at q
 refine I.write (x:=l) (e:=l) (by rw[hH];exact trivial) (.inl rfl) (fun b' u hb hu=>(Heap.get?_update_other s.heap (Obj.mapSeq f) (Ne.symm hb)).trans hu) ⟨_,q⟩ ?_
 exact ⟨hz,its',_,hv,q⟩
theorem Inv.lstM(I:Inv X pins σ H s)(hH:H l=some (.lst xs)):xs.length<=sizeLine/\∃ (its:List Value) (n:Nat),aY xs its/\xs.length=its.length/\s.heap.get? l=some {cls:=.type "list",data:=.seq its.toArray n}:=by
 obtain ⟨z,its,n,r,e⟩:=I.hok l _ hH
 exact ⟨z,its,n,r,r.length,e⟩
end
section
variable{X:Cx}
def pZ:V->List V->Hp->VK->Prop:=fun x vs H Q=>∃ l xs y,x=.ref l/\vs=[y]/\H l=some (.lst xs)/\xs.length < sizeLine/\Q .non (upd H l (.lst (xs++[y])))
theorem dQ:MtM X "list.append" pZ:=by
 intro pins s σ H x vs v us Q I rx rv h
 obtain ⟨l,xs,y,rfl,rfl,hH,hz,q⟩:=h
 cases rx
 obtain ⟨u,rfl,ru⟩:=rv.one
 obtain ⟨z,its,n,r,hl,e⟩:=I.lstM hH
 refine call_meets F.slot_list_append ⟨_,e,rfl⟩ F.entry_list_append (F.args_list_append_2 _ _) (PySem.list_append l its.toArray n u (by rw[List.size_toArray];omega)) ⟨e,?_⟩
 refine ⟨.non,_,I.lset (its':=its++[u]) hH e (by simp) (r.append (.cons ru .nil)) ?_,rfl,q⟩
 rw[List.length_append,List.length_singleton]
 omega
end
end L2
namespace Att
open PySem PySem.W PySem.Calls PyProof.Rows
theorem o9{P:Params}{h:Heap}:∀ (ns:List Int) (vs:List Value),WellAll P h vs (ns.map WData.int)->IntsAre vs ns:=by
 intro ns
 induction ns with
 | nil=>
  intro vs w
  rw[List.map_nil] at w
  cases w
  exact .nil
 | cons n ns ih=>
  intro vs w
  rw[List.map_cons] at w
  cases w with
  | cons a b=>
   cases a
   exact .cons _ _ (ih _ b)
theorem zI{l:OpenLaw}{n:Nat}(hn:l.most=some n){P:Params}{h:Heap}{args:List WData}{vals:List Value}
  (hpre:l.row.toRowW.claim.pre args=true) (hwl:WellAll P h vals args) :
  ∃ a vs ns,vals=[Value.ref a]/\args=[WData.list (ns.map WData.int)]/\h.get? a=some {cls:=.type "list",data:=.seq vs.toArray}/\IntsAre vs ns/\ns.length<=n:=by
 have hsh:WShape.hasAll [] args [.list .int]=true:=(pre_splitW hpre).1
 have hc:l.pre.holds [] {args:=args}=true:=(pre_splitW hpre).2
 obtain ⟨d,r,rfl,h1,h2⟩:=hasAllW_cons hsh
 obtain rfl:=hasAllW_nil h2
 obtain ⟨xs,rfl,h3⟩:=hasW_list h1
 obtain ⟨ns,rfl⟩:=items_int h3
 have hlen:ns.length<=n:=by
  unfold OpenLaw.pre at hc
  have h4:(WTm.not (.lt (.lit (.int (n:Int))) (.len (.arg 0)))).holds [] {args:=[.list (ns.map .int)]}=true:=by
   have h4:=(holds_andW hc).1
   rw[hn] at h4
   exact h4
  have h5:=condW_of h4 (w_not (w_lt w_lit (w_len_list (w_arg rfl))))
  rw[List.length_map] at h5
  refine Nat.le_of_not_lt fun q=>?_
  have q':(n:Int) < ((ns.length:Nat):Int):=by omega
  first
   | (rw[decide_eq_true q'] at h5;exact absurd h5 (by decide))
   | (simp at h5;omega)
 cases hwl with
 | cons w1 w2=>
  cases w2
  cases w1 with
  | list ho hall=>exact ⟨_,_,ns,rfl,rfl,ho,o9 ns _ hall,hlen⟩
theorem zJ(l:OpenLaw)(args:List WData):l.row.toRowW.claim.post args (.bool true) args=true:=
 postW_of (r:=l.row.toRowW) (X:=(true == true))
  (show WShape.has [] (.bool true) .bool=true by first|rfl|decide|simp[WShape.has,WShape.arms,WShape.armsAll])
  (show (WTm.eq .res (.lit (.bool true))).value [] {args:=args,res:=some (.bool true),after:=args}=some (.bool (true == true)) from w_eq_bool (w_res rfl) w_lit) rfl
theorem attach_call{l:OpenLaw}{n:Nat}{q:Program}{loose:List Str}{XP:(Str->Option Value)->Heap->Prop}{YP:World->Heap->Prop}{d:DefRec}
  (hn:l.most=some n) (hdf:d.params.defaults=[])
  (call:∀ (w:World) (s₀ s₁:Shared) (mg mb:Str->Option Value) (fa:Addr) (o:Obj) (pm cd doc:Value) (a:Addr) (vs:List Value) (ns:List Int),
   Ground q loose [] XP w s₀ mg mb s₁.heap->YP w s₁.heap->
   s₁.heap.get? fa=some o->o.data=.func (docDef d.name d.params d.body d.scope pm cd doc)->s₁.heap.CodeRec cd d.name->mg d.name=some (.ref fa)->
   s₁.heap.get? a=some {cls:=.type "list",data:=.seq vs.toArray}->IntsAre vs ns->ns.length<=n->s₁.gens = #[]->
   codeAny (model l.prog w) callerA (.call (.ref fa) ⟨[.ref a],[]⟩) (fun r s'=>r=.ok (.ret (.bool true))/\OldK s₁.heap s'.heap/\s'.os=s₁.os/\AllBare s'.gens) s₁) :
  WalkO q loose XP YP l.row.toRowW d [] (fun f vs=>PySem.call f vs):=by
 intro w s₀ s₁ mg mb G Y fa o pm cd doc dV kV ho hd hcd hD hmg hg args vals as hpre hlay hrd hwl hlo
 obtain rfl:dV=.none:=Dflts.none hD hdf
 obtain rfl:kV=.none:=Dflts.noKw hD
 obtain ⟨a,vs,ns,rfl,rfl,hobj,hints,hlen⟩:=zI hn hpre hwl
 refine enter_call (codeAny_mono (call w s₀ s₁ mg mb fa o pm cd doc a vs ns G Y ho (fd_plain hd) hcd hmg hobj hints hlen hg) fun r s' hq=>?_)
 obtain ⟨rfl,h2,h3,h4⟩:=hq
 exact ⟨.inl ⟨.bool true,.bool true,[],rfl,fun _=>rfl,.bool true,zJ l _,fun _=>⟨List.Pairwise.nil,fun _ hm=>(nomatch hm)⟩⟩,h2,h3,h4⟩
section
variable{prog:Program}{w:World}{A:Around}{E:Value->Shared->Prop}{s:Shared}{K:Frag}
noncomputable def aMJ(h:Heap)(L d:Addr):List (Addr×Obj):=(List.range h.objs.size).filterMap fun a=>if a=L\/a=d then none else (h.get? a).map fun o=>(a,o)
end
end Att
namespace L2
open PySem PySem.Spec PyProof.Rows
theorem rE:∀ {vs:List Value} {ns:List Int},IntsAre vs ns->aY (ns.map V.int) vs
 | _,_,.nil=>.nil
 | _,_,.cons n t h=>.cons ⟨t,rfl⟩ (rE h)
end L2
namespace L2
open PySem PySem.Spec PyProof.Rows
abbrev KOf{K:Frag}{h:Heap}(_:K.In h):Frag:=K
end L2
namespace L2
open PySem PySem.Spec PyProof.Rows
noncomputable def fD(s:Stmt):Arguments:=match s with
 | .FunctionDef _ a _ _ _ _ _ _ _ _=>a
 | _=>{posonlyargs:=[],args:=[],vararg:=none,kwonlyargs:=[],kw_defaults:=[],kwarg:=none,defaults:=[]}
noncomputable def cO(s:Stmt):List Stmt:=match s with
 | .FunctionDef _ _ b _ _ _ _ _ _ _=>b
 | _=>[]
noncomputable def aM(s:Stmt):Scope:=match s with
 | .FunctionDef _ _ _ _ _ _ sc _ _ _=>sc
 | _=>{kind:=.function,names:=[],isGenerator:=false,isCoroutine:=false}
abbrev CX0:CXT:=fun _ _ _ _ _ _=>False
abbrev E0:XK:=fun _ _ _=>False
structure Fun(K:Frag)(x qual:Str)(st:Stmt)(f:Addr)(fd:FuncData):Prop where
 ex:∃ (oc:Value) (od:Option Addr) (kV doc pm:Value) (an:Option Addr) (cdv ct:Value) (osl:Array (Option Value)),
  fd=PySem.W.fnOf x qual (fD st) (cO st) (aM st) .none kV doc pm an cdv ct/\K.lookup f=some ⟨oc,od,.func fd,osl⟩/\PySem.W.codeIn K cdv qual=true
 kp:PySem.W.keepIn K (.ref f)=true
section
variable{P:Program}{w:World}{K:Frag}{mg:Str->Option Value}{base:Heap}
theorem Fun.ok{x qual:Str}{st:Stmt}{f:Addr}{fd:FuncData}{N ps:List Str}{k:Nat}{sp:Sp}(F:Fun K x qual st f fd)(S:FnScope N ps (aM st))(len:∀ vs H Q E,sp vs H Q E->vs.length=ps.length)
  (hbody:∀ (cdv:Value) (A:Around) (outer:List Env) (s:Shared) (H:Hp) (vs:List V) (Q:VK) (E:XK),Room k (A.deeper (envOfC qual (aM st) s.heap.objs.size f cdv))->sp vs H Q E->
   ∃ t,PSs (gL CX0 P w K mg base N qual (aM st) f cdv A outer s H E).nox (cO st) t/\t {nx:=fun _ H'=>Q .non H',rt:=Q} (eI N vs) H):FnOk P w K mg base CX0 (k+1) f fd ps sp:=by
 obtain ⟨oc,od,kV,doc,pm,an,cdv,ct,osl,rfl,lk,hcd⟩:=F.ex
 refine xG lk hcd S len fun A outer s H vs Q E hr hsp=>?_
 obtain ⟨t,h,q⟩:=hbody cdv A outer s H vs Q E hr hsp
 exact ⟨t,h.nox,q⟩
theorem Fun.binds{x qual:Str}{st:Stmt}{f:Addr}{fd:FuncData}{ps:List Str}(F:Fun K x qual st f fd)
  (h:∀ (kV doc pm:Value) (an:Option Addr) (cdv ct:Value) (us:List Value),us.length=ps.length->bindArgs (PySem.W.fnOf x qual (fD st) (cO st) (aM st) .none kV doc pm an cdv ct) ⟨us,[]⟩=pure (ps.zip us)):gJ K fd ps []:=by
 obtain ⟨oc,od,kV,doc,pm,an,cdv,ct,osl,rfl,lk,hcd⟩:=F.ex
 exact .all (h kV doc pm an cdv ct)
theorem zK{x qual:Str}{st:Stmt}{f:Addr}{oc:Value}{od an:Option Addr}{osl:Array (Option Value)}{kV doc pm cdv ct:Value}(l:K.lookup f=some ⟨oc,od,.func (PySem.W.fnOf x qual (fD st) (cO st) (aM st) .none kV doc pm an cdv ct),osl⟩)
 (c:PySem.W.codeIn K cdv qual=true) (k:PySem.W.keepIn K (.ref f)=true):Fun K x qual st f (PySem.W.fnOf x qual (fD st) (cO st) (aM st) .none kV doc pm an cdv ct):=⟨⟨oc,od,kV,doc,pm,an,cdv,ct,osl,rfl,l,c⟩,k⟩
end
section
variable{X:Cx}
theorem pv(i:Nat){x:Str}{pos:Pos}(hN:X.N[i]? = some x:=by rfl)(hv:Vis X.env.scope x:=by first|exact Or.inl rfl|exact Or.inr (Or.inl rfl)|exact Or.inr (Or.inr rfl))(hd:(x == ("__debug__":Str))=false:=by decide)
 (hcd:(x == ("__classdict__":Str))=false:=by decide):PE X (.Name x pos) (fQ i):=aGY hN hv hd hcd
end
theorem xH{A B:Prop}(h:B):if false=true then A else B:=by
 rw[if_neg Bool.false_ne_true]
 exact h
theorem xI{A B:Prop}(h:A):if true=true then A else B:=by
 rw[if_pos rfl]
 exact h
def aG(H H':Hp):Prop:=∀ b o,H b=some o->H' b=some o
theorem aG.trans{H H1 H2:Hp}(a:aG H H1)(b:aG H1 H2):aG H H2:=fun c o h=>b c o (a c o h)
theorem aG.free{H H':Hp}(e:aG H H'){l:Addr}(h:H' l=Option.none):H l=Option.none:=by
 cases q:H l with
 | none=>rfl
 | some o=>
  rw[e l o q] at h
  cases h
theorem aG.seq{K:Frag}{H H':Hp}{a:Addr}{xs:List V}(e:aG H H')(h:SqL K H a xs):SqL K H' a xs:=by
 rcases h with (h|⟨o,h⟩)|h
 · exact .inl (.inl (e _ _ h))
 · exact .inl (.inr ⟨o, e _ _ h⟩)
 · exact .inr h
end L2
namespace L2
open PySem PySem.Spec PyProof.Rows
theorem xJ{env:Env}:∀ (names:List (Str×NameKind)) (acc:List (Str×Addr)),(∀ x∈names,x.2=.free->∃ c,env.cells.lookup x.1=some c)->
  (∀ x c,acc.lookup x=some c->env.cells.lookup x=some c)->
  ∃ cl,(forIn names acc fun x r=>(if (x.2 == NameKind.free)=true then (do let a <-cellOf env x.1;pure (ForInStep.yield ((x.1,a)::r))) else pure (ForInStep.yield r)):Sem (List (Str×Addr)))=pure cl /\
   (∀ x c,cl.lookup x=some c->env.cells.lookup x=some c)/\(∀ x∈names,x.2=.free->∃ c,cl.lookup x.1=some c)/\∀ x c,acc.lookup x=some c->∃ c',cl.lookup x=some c':=by
 intro names
 induction names with
 | nil=>intro acc _ h;exact ⟨acc,rfl,h,fun x hx=>absurd hx (by simp),fun x c e=>⟨c,e⟩⟩
 | cons x r ih=>
  intro acc hf h
  obtain ⟨n,k⟩:=x
  by_cases hk:k=.free
  ·subst hk
   obtain ⟨c,hc⟩:=hf (n,.free) List.mem_cons_self rfl
   have hc:env.cells.lookup n=some c:=hc
   obtain ⟨cl,e1,e2,e3,e4⟩:=ih ((n,c)::acc) (fun y hy=>hf y (List.mem_cons_of_mem _ hy)) (fun y d e=>by
    rw[List.lookup_cons] at e
    cases q:y == n with
    | true=>rw[q] at e;cases e;have:=eq_of_beq q;subst this;exact hc
    | false=>rw[q] at e;exact h y d e)
   refine ⟨cl,?_,e2,fun y hy hyf=>?_,fun y d e=>?_⟩
   ·rw[List.forIn_cons]
    simp only[beq_self_eq_true,if_true]
    unfold cellOf
    simp only[hc,pure_bind]
    exact e1
   ·rcases List.mem_cons.mp hy with z|z
    ·subst z
     exact e4 n c (by rw[List.lookup_cons];simp)
    ·exact e3 y z hyf
   ·by_cases q:y=n
    ·subst q;exact e4 y c (by rw[List.lookup_cons];simp)
    ·exact e4 y d (by rw[List.lookup_cons,beq_false_of_ne q];exact e)
  ·obtain ⟨cl,e1,e2,e3,e4⟩:=ih acc (fun y hy=>hf y (List.mem_cons_of_mem _ hy)) h
   refine ⟨cl,?_,e2,fun y hy hyf=>?_,e4⟩
   ·rw[List.forIn_cons]
    have:(k == NameKind.free)=false:=by simpa using hk
    simp only[this,Bool.false_eq_true,if_false,pure_bind]
    exact e1
   ·rcases List.mem_cons.mp hy with z|z
    ·subst z;exact absurd hyf hk
    ·exact e3 y z hyf
theorem xK{env:Env}{scope:Scope}(hf:∀ x∈scope.names,x.2=.free->∃ c,env.cells.lookup x.1=some c) :
  ∃ cl,closureFor scope env=pure cl/\(∀ x c,cl.lookup x=some c->env.cells.lookup x=some c)/\∀ x∈scope.names,x.2=.free->∃ c,cl.lookup x.1=some c:=by
 obtain ⟨cl,e1,e2,e3,_⟩:=xJ scope.names [] hf (fun x c e=>by simp at e)
 refine ⟨cl,?_,e2,e3⟩
 unfold closureFor
 first
  | exact e1
  | (rw[<-e1];rfl)
  | (simp only[bind_pure];exact e1)
theorem eQ{env:Env}:∀ {names:List (Str×NameKind)} {x:Str} {k:NameKind},
  (names.map fun (n,k)=>if (k == NameKind.free && env.scope.kind == .function && env.kindOf n == some .cell) then (n,NameKind.cell) else (n,k)).lookup x=some k->
  k=.cell\/k=.free->(∀ y∈names,y.2≠.cell)->(x,NameKind.free)∈names
 | [],_,_,h,_,_=>by simp at h
 | (n,k0)::r,x,k,h,hk,hc=>by
  have ih:=@eQ env r x k
  rw[List.map_cons] at h
  dsimp only at h
  by_cases hx:x=n
  ·subst hx
   by_cases hcond:(k0 == NameKind.free && env.scope.kind == .function && env.kindOf x == some .cell)=true
   ·have:k0=.free:=by
     simp only[Bool.and_eq_true] at hcond
     exact eq_of_beq hcond.1.1
    subst this
    exact List.mem_cons_self
   ·rw[if_neg hcond,List.lookup_cons] at h
    simp only[beq_self_eq_true] at h
    cases h
    rcases hk with rfl|rfl
    ·exact absurd rfl (hc _ List.mem_cons_self)
    ·exact List.mem_cons_self
  ·have hb:(x == n)=false:=beq_false_of_ne hx
   refine List.mem_cons_of_mem _ (ih ?_ hk fun y hy=>hc y (List.mem_cons_of_mem _ hy))
   split at h
   ·rw[List.lookup_cons,hb] at h;exact h
   ·rw[List.lookup_cons,hb] at h;exact h
noncomputable def gE(X:Cx)(N:List Str)(scope:Scope)(cl:List (Str×Addr))(C:Addr)(s:Shared)(H:Hp)(fp:List Addr):Cx where
 prog:=X.prog
 w:=X.w
 K:=X.K
 mg:=X.mg
 base:=X.base
 A:=X.A
 N:=N
 s₀:=s
 H₀:=H
 env:=compEnvC scope cl C X.env
 outer:=X.stack
 stack:=X.stack
 ex:=fp
 calm:=X.calm
 fn:=fun _=>false
 pn:=[]
 xe:=fun _ _=>False
inductive Caps(X:Cx)(scope:Scope):List Str->List (Option Nat)->Prop
 | nil:Caps X scope [] []
 | own {x:Str} {N:List Str} {js:List (Option Nat)} (t:Caps X scope N js):Caps X scope (x::N) (none::js)
 | cap {x:Str} {j:Nat} {N:List Str} {js:List (Option Nat)} (h1:X.N[j]? = some x) (h2:X.env.kindOf x=some .cell\/X.env.kindOf x=some .free)
  (h3:(relabel scope X.env).names.lookup x=some .cell\/(relabel scope X.env).names.lookup x=some .free) (t:Caps X scope N js):Caps X scope (x::N) (some j::js)
theorem Caps.len{X:Cx}{scope:Scope}{N:List Str}{js:List (Option Nat)}(c:Caps X scope N js):js.length=N.length:=by
 induction c with
 | nil=>rfl
 | own _ ih=>simp[ih]
 | cap _ _ _ _ ih=>simp[ih]
theorem Caps.get{X:Cx}{scope:Scope}{N:List Str}{js:List (Option Nat)}(c:Caps X scope N js):∀ {i j:Nat} {x:Str},js[i]? = some (some j)->N[i]? = some x->
  X.N[j]? = some x/\(X.env.kindOf x=some .cell\/X.env.kindOf x=some .free)/\((relabel scope X.env).names.lookup x=some .cell\/(relabel scope X.env).names.lookup x=some .free):=by
 induction c with
 | nil=>intro i j x h;simp at h
 | own _ ih=>
  intro i j x h1 h2
  cases i with
  | zero=>simp at h1
  | succ i=>exact ih (by simpa using h1) (by simpa using h2)
 | cap a b d _ ih=>
  intro i j x h1 h2
  cases i with
  | zero=>
   simp at h1 h2
   subst h1 h2
   exact ⟨a,b,d⟩
  | succ i=>exact ih (by simpa using h1) (by simpa using h2)
noncomputable def iE(js:List (Option Nat))(σ:St):St:=js.map fun o=>o.bind fun j=>(σ[j]?).join
def c7(σ σ':St):Prop:=σ'.length=σ.length/\∀ (i:Nat) v,σ[i]? = some (some v)->σ'[i]? = some (some v)
theorem c7.refl(σ:St):c7 σ σ:=⟨rfl,fun _ _ h=>h⟩
theorem c7.set{σ:St}{i:Nat}{v:Option V}(h:σ[i]? = some none):c7 σ (σ.set i v):=by
 refine ⟨List.length_set,fun j u e=>?_⟩
 by_cases q:i=j
 · subst q; rw [h] at e; cases e
 · rw [List.getElem?_set_ne q]; exact e
theorem c7.trans{a b c:St}(h:c7 a b)(k:c7 b c):c7 a c:=⟨k.1.trans h.1,fun i v e=>k.2 i v (h.2 i v e)⟩
section
variable{X:Cx}
def PIf(X:Cx)(ifs:List Expr)(t:TT):Prop:=
 ∀ (pins:List (Addr×Obj)) (s:Shared) (σ:St) (H:Hp) (Q:Bool->Hp->Prop),Inv X pins σ H s->t σ H Q->
  wpAny (model X.prog X.w) X.A (forIn ifs true fun c r=>if r=true then do let ok <-isTrue c X.env (eval c X.env);pure (ForInStep.yield ok) else pure (ForInStep.yield r)) (TP X pins σ Q) X.xe s
def aK2:TT:=fun _ H Q=>Q true H
theorem gT:PIf X [] aK2:=by
 intro pins s σ H Q I h
 show wpAny _ _ (pure true) _ _ s
 exact wpAny_pure ⟨H,I,h⟩
end
def p0(X:Cx)(N:List Str)(scope:Scope)(js:List (Option Nat))(tg elt:Expr)(ifs:List Expr)(σ:St)(x:V)(H:Hp)(R:Option V->Hp->Prop):Prop:=
 ∀ (cl:List (Str×Addr)) (C:Addr) (s:Shared) (H0:Hp) (fp:List Addr),∃ (g:TG) (tt:TT) (te:TE),PG (gE X N scope cl C s H0 fp) tg g/\PIf (gE X N scope cl C s H0 fp) ifs tt/\PE (gE X N scope cl C s H0 fp) elt te /\
  ∀ σ0,c7 (iE js σ) σ0->g x σ0 H fun σ2 H2=>c7 (iE js σ) σ2/\tt σ2 H2 fun b H3=>if b=true then te σ2 H3 fun y H4=>R (some y) H4 else R none H3
def compK(X:Cx)(N:List Str)(scope:Scope)(js:List (Option Nat))(tg elt:Expr)(ifs:List Expr)(σ:St)(Q:VK)(J:It)(H1:Hp):Prop:=∃ (n:Nat) (W:Nat->List V->Hp->Prop),n<=sizeLine/\W 0 [] H1 /\
 ∀ i ys H,W i ys H->ys.length<=i/\((J.stop i H/\∀ p,H p=none->Q (.ref p) (upd H p (.lst ys)))\/(J.go i H/\i < n/\∃ R:Option V->Hp->Prop,(∀ y H2,R (some y) H2->W (i+1) (ys++[y]) H2)/\(∀ H2,R none H2->W (i+1) ys H2) /\
  ∀ x H',J.yld i H x H'->p0 X N scope js tg elt ifs σ x H' R))
def xL(X:Cx)(N:List Str)(scope:Scope)(js:List (Option Nat))(tg elt:Expr)(ifs:List Expr)(wi:TI):TE:=fun σ H Q=>wi σ H (compK X N scope js tg elt ifs σ Q)
end L2
namespace L2
open PySem PySem.Spec PyProof.Rows
section
variable{prog:Program}{w:World}{A:Around}{R:Result->Shared->Prop}{s:Shared}
theorem sP{elt target iter:Expr}{ifs:List Expr}{scope:Scope}{pos:Pos}{it acc:Value}{env:Env}(I:Nat->Shared->Prop)
  (turn:∀ n s,I n s->wpAny (model prog w) A (pyNext it) (fun r s1=>match r with
   | none=>R (.ok .next) s1
   | some v=>wpAny (model prog w) A (letOwnedTupleGo target it v) (fun _ s1'=>wpAny (model prog w) A (assign target env v) (fun _ s2=>
    wpAny (model prog w) A (forIn ifs true fun c r=>if r=true then do let ok <-isTrue c env (eval c env);pure (ForInStep.yield ok) else pure (ForInStep.yield r)) (fun ok s3=>
     if ok=true then wpAny (model prog w) A (eval elt env) (fun x s4=>
      wpAny (model prog w) A (call (.builtin "list.append") [acc,x]) (fun _ s5=>∃ m,m < n/\I m s5) (fun _ _=>False) s4) (fun _ _=>False) s3
     else ∃ m,m < n/\I m s3) (fun _ _=>False) s2) (fun _ _=>False) s1') (fun _ _=>False) s1) (fun _ _=>False) s)
  (n:Nat) (h:I n s) :
  codeAny (model prog w) A (.compLoop (.ListComp elt [⟨target,iter,ifs,0⟩] scope pos) 0 it acc env) R s:=by
 refine codeAny_loop rfl I (fun n s hI=>?_) n h
 show wpAny _ A ((compTurn (.ListComp elt [⟨target,iter,ifs,0⟩] scope pos) 0 it acc env).onRaise (fun x=>do noteFrame x env;theTreesLotGoes x)) _ _ s
 refine wpAny_noted ?_
 rw[compTurn_list]
 have nr:∀ {α:Type} {t:Sem α} {Q:α->Shared->Prop} {E':Value->Shared->Prop} {s:Shared},wpAny (model prog w) A t Q (fun _ _=>False) s->wpAny (model prog w) A t Q E' s:=fun h=>wpAny_mono h (fun _ _ q=>q) fun _ _ f=>f.elim
 refine wpAny_bind (wpAny_standAt (wpAny_bind (wpAny_mono (turn n s hI) (fun r s₁ h₁=>?_) fun _ _ h'=>h'.elim)))
 cases r with
 | none=>exact wpAny_pure h₁
 | some v=>
  refine wpAny_bind (wpAny_mono h₁ (fun _ s1' h1'=>?_) fun _ _ f=>f.elim)
  refine wpAny_bind (wpAny_mono h1' (fun _ s₂ h₂=>wpAny_bind (wpAny_mono h₂ (fun ok s₃ h₃=>?_) fun _ _ h'=>h'.elim)) fun _ _ h'=>h'.elim)
  cases ok with
  | false=>exact wpAny_pure ⟨rfl,h₃⟩
  | true=>
   exact wpAny_bind (wpAny_bind (wpAny_mono h₃ (fun x s₄ h₄=>wpAny_bind (wpAny_mono h₄ (fun _ s₅ h₅=>wpAny_pure (wpAny_pure ⟨rfl,h₅⟩)) fun _ _ h'=>h'.elim)) fun _ _ h'=>h'.elim))
end
theorem HOk.track{P:Program}{w:World}{H:Hp}{h:Heap}{a:Addr}{o:HO}(x:HOk P w H h)(hn:H a=none)(new:bN P w (upd H a o) h a o):HOk P w (upd H a o) h:=fun b u e=>by
 by_cases hb:b=a
 ·subst hb;rw[aU] at e;cases e;exact new
 ·rw[aI hb] at e
  exact (x b u e).stay (fun c v _ q=>q) (fun c q=>by rw[aI (bI q hn)];exact q) (fun c xs q=>by rw[aI (bI q hn)];exact q) fun c xs q=>by rw[aI (bI q hn)];exact q
section
variable{X:Cx}{pins:List (Addr×Obj)}{σ:St}
structure CompEnd(X:Cx)(pins:List (Addr×Obj))(σ:St)(D C:Addr)(ys:List V)(H':Hp)(s':Shared):Prop where
 inv:Inv X pins σ (upd H' D (.lst ys)) s'
 ns:∃ m,s'.heap.Ns C m
 fp:gB X pins (upd H' D (.lst ys)) C
 nD:H' D=none
theorem CompEnd.gone{D C:Addr}{ys:List V}{H H':Hp}{s':Shared}{h'':Heap}{σ':St}(I:Inv X pins σ' H s')(fp:gB X pins H C)(hs:Heap.SameBut C s'.heap h''):Inv X pins σ' H {s' with heap:=h''}:=
 I.turned (it:=C) (t':=s'.toks) (fun b o hb e=>(hs.2 b hb).trans e) fp.1 fp.2.1 fp.2.2.2.1 fp.2.2.2.2.1 fp.2.2.2.2.2
theorem sQ{prog:Program}{w:World}{A:Around}{E:Value->Shared->Prop}{s:Shared}{l:Addr}{items:Array Value}{nn:Nat}{x:Value}{Q:Value->Shared->Prop}(e:s.heap.get? l=some {cls:=.type "list",dict:=none,data:=.seq items nn})(hz:items.size<=sizeLine)
  (hQ:∀ nn' h',h'.get? l=some {cls:=.type "list",dict:=none,data:=.seq (items.push x) nn'}->Heap.SameBut l s.heap h'->Q .none {s with heap:=h'}) :
  wpAny (model prog w) A (call (.builtin "list.append") [.ref l,x]) Q E s:=by
 refine call_meets F.slot_list_append ⟨_,e,rfl⟩ F.entry_list_append (F.args_list_append_2 _ _) (PySem.list_append l items nn x (by omega)) ⟨e,?_⟩
 exact hQ _ _ (Heap.get?_update_self _ e rfl) (Heap.SameBut.update ..)
theorem xM{N:List Str}{js:List (Option Nat)}{scope:Scope}{tg elt iter:Expr}{ifs:List Expr}{cl:List (Str×Addr)}{pos:Pos}{it:Addr}{fp:List Addr}{tn:Nat->Heap->Prop}{J:It}{s2:Shared}{H2:Hp}{E:Value->Shared->Prop}
  {RR:Value->Addr->Result->Shared->Prop} {Q:VK} (hc:X.calm=true) (caps:Caps X scope N js) (hkind:scope.kind=.function) (hcell:∀ y∈scope.names,y.2≠.cell)
  (hcl1:∀ x c,cl.lookup x=some c->X.env.cells.lookup x=some c) (hcl2:∀ x∈scope.names,x.2=.free->∃ c,cl.lookup x.1=some c)
  (I:Inv X pins σ H2 s2) (T:Turn X.prog X.w X.K tg J fp it tn) (st2:tn 0 s2.heap) (f2:∀ b∈fp,gB X pins H2 b) (n:Nat) (W:Nat->List V->Hp->Prop) (hn:n<=sizeLine) (w0:W 0 [] H2)
  (turn:∀ i ys H,W i ys H->ys.length<=i/\((J.stop i H/\∀ p,H p=none->Q (.ref p) (upd H p (.lst ys)))\/(J.go i H/\i < n/\∃ R:Option V->Hp->Prop,(∀ y H2,R (some y) H2->W (i+1) (ys++[y]) H2)/\(∀ H2,R none H2->W (i+1) ys H2) /\
   ∀ x H',J.yld i H x H'->p0 X N scope js tg elt ifs σ x H' R)))
  (hRR:∀ D C ys H' s',CompEnd X pins σ D C ys H' s'->Q (.ref D) (upd H' D (.lst ys))->RR (.ref D) C (.ok .next) s') :
  wpAny (model X.prog X.w) X.A (newList []) (fun acc s3=>wpAny (model X.prog X.w) X.A (newFunctionEnv scope X.env.globals cl [] X.env.qual none .none (some X.env)) (fun cenv s4=>
   codeAny (model X.prog X.w) X.A (.compStart (.ListComp elt [⟨tg,iter,ifs,0⟩] scope pos) 0 (.ref it) acc {cenv with scope:=relabel scope X.env}) (RR acc cenv.locals) s4) E s3) E s2:=by
 refine wpAny_newObj_type (wpAny_newFunctionEnv hcell (by intro y hy;simp at hy) (fun h₁ hns₁ hsb₁=>?_) hkind)
 dsimp only at hns₁ hsb₁ ⊢
 generalize hHh:s2.heap.push {cls:=.type "list",dict:=none,data:=.seq ([]:List Value).toArray}=Hh at hns₁ hsb₁ ⊢
 have hC:Hh.objs.size=s2.heap.objs.size+1:=by rw[<-hHh,Heap.size_push]
 have hDC:s2.heap.objs.size≠Hh.objs.size:=by rw[hC];exact Nat.ne_of_lt (Nat.lt_succ_self _)
 have hCle:s2.heap.objs.size<=Hh.objs.size:=by rw[hC];exact Nat.le_succ _
 have old:∀ b o,s2.heap.get? b=some o->h₁.get? b=some o:=fun b o e=>hsb₁.extBut b o (by rw[hC];exact Nat.ne_of_lt (Nat.lt_succ_of_lt (Heap.lt_size e))) (Heap.get?_push_of_some _ (hHh▸Heap.get?_push_of_some _ e))
 have haccO:h₁.get? s2.heap.objs.size=some {cls:=.type "list",dict:=none,data:=.seq ([]:List Value).toArray}:=hsb₁.extBut _ _ hDC (Heap.get?_push_of_some _ (hHh▸Heap.get?_push_size _ rfl))
 have st1:tn 0 h₁:=T.keep _ _ _ st2 fun b hb o e=>old b o e
 have fplt:∀ b∈fp,b < s2.heap.objs.size:=fun b hb=>by
  obtain ⟨o,e,_⟩:=T.obj _ _ st2 b hb
  exact Heap.lt_size e
 have fsIn:∀ b∈frs X.stack,b < s2.heap.objs.size:=fun b hb=>by
  rcases List.mem_cons.mp (I.stkSub b hb) with z|z
  ·rw[z];exact I.lt
  ·refine Nat.lt_of_not_le fun hle=>I.nofs hle z
 have fpC:∀ b∈fp,b≠Hh.objs.size:=fun b hb z=>Nat.lt_irrefl _ (Nat.lt_of_lt_of_le (fplt b hb) (z▸hCle))
 generalize hD:s2.heap.objs.size=D at *
 generalize hCc:Hh.objs.size=C at *
 let X':=gE X N scope cl C s2 H2 fp
 have ok':X'.Ok:=by
  refine ⟨I.ok.mod,hkind,I.ok.glob,I.ok.blt,by show s2.heap.objs.size<=C;rw[hD];exact hCle,fun x y c e1 e2=>I.ok.inj x y c (hcl1 x c e1) (hcl1 y c e2),fun x hx=>?_,fun x c z=>absurd (show false=true from z) Bool.false_ne_true,I.ok.hd,I.ok.frames,.inl rfl,fun b hb=>?_,
   I.bs,Nat.le_trans I.ok.bsz I.sz,fun b o e hb=>?_,fun b hb z=>?_,I.stack,I.stkFree⟩
  ·have hm:(x,NameKind.free)∈scope.names:=by
    rcases hx with z|z
    ·exact eQ (env:=X.env) z (.inl rfl) hcell
    ·exact eQ (env:=X.env) z (.inr rfl) hcell
   exact hcl2 _ hm rfl
  ·exact ⟨fpC b hb,fun x c e=>(f2 b hb).2.2.2.2.1 x c (hcl1 x c e)⟩
  ·rcases (f2 b hb).2.2.2.1 with z|z
   ·exact I.ok.noex b o e z
   ·exact absurd (Heap.lt_size (I.ok.bs b o e).1) (Nat.not_lt.mpr z)
  ·rcases List.mem_cons.mp (I.stkSub b z) with q|q
   ·exact (f2 b hb).2.1 q
   ·exact (f2 b hb).2.2.1 q
 have hσl:(iE js σ).length=N.length:=by unfold iE;rw[List.length_map,caps.len]
 have freeC:H2 C=none:=I.hok.fresh (by rw[hD];exact hCle)
 have freeD:H2 D=none:=I.hok.fresh (by rw[hD];exact Nat.le_refl _)
 have DnotFs:D∉frs X.stack:=fun z=>Nat.lt_irrefl _ (fsIn D z)
 have DnotFp:D∉fp:=fun z=>Nat.lt_irrefl _ (fplt D z)
 have I0:∀ tk,Inv X' [] (iE js σ) H2 {s2 with heap:=h₁,toks:=tk}:=fun tk=>by
  refine ⟨ok',rfl,I.bare,Un.kept old,⟨_,hns₁,fun i x v e1 e2 e3=>?_⟩,fun x c e=>?_,freeC,fun x c e=>I.freeC x c (hcl1 x c e),fun p hp=>absurd hp (by show ¬ p∈([]++[]:List (Addr×Obj));simp),I.hok.kept old,hσl⟩
  ·unfold iE at e2
   rw[List.getElem?_map] at e2
   cases q:js[i]? with
   | none=>rw[q] at e2;cases e2
   | some o=>
    rw[q] at e2
    cases o with
    | none=>cases e2
    | some j=>
     have e2':(σ[j]?).join=some v:=Option.some.inj e2
     obtain ⟨c1,c2,c3⟩:=caps.get q e1
     have e4:σ[j]? = some (some v):=by
      cases z:σ[j]? with
      | none=>rw[z] at e2';cases e2'
      | some u=>rw[z] at e2';have:u=some v:=e2';rw[this]
     obtain ⟨m,hm,hl⟩:=I.loc
     have vis:Vis X.env.scope x:=by
      rcases c2 with z|z
      · exact .inr (.inl z)
      · exact .inr (.inr z)
     obtain ⟨u,r,l⟩:=hl j x v c1 e4 vis
     refine ⟨u,r,.inr ⟨c3,?_⟩⟩
     have lc:∃ c,X.env.cells.lookup x=some c/\s2.heap.IsCell c (some u):=by
      rcases l with ⟨k,_⟩|⟨_,z⟩
      · rcases c2 with z | z <;> (rw [k] at z; cases z)
      · exact z
     obtain ⟨c,e5,o,ho,hd⟩:=lc
     have hm2:(x,NameKind.free)∈scope.names:=by
      rcases c3 with z|z
      · exact eQ (env := X.env) z (.inl rfl) hcell
      · exact eQ (env := X.env) z (.inr rfl) hcell
     obtain ⟨c',e6⟩:=hcl2 _ hm2 rfl
     have e7:=hcl1 _ _ e6
     rw[e5] at e7;cases e7
     exact ⟨c,e6,o,old c o ho,hd⟩
  ·obtain ⟨v,o,ho,hd⟩:=I.cell x c (hcl1 x c e)
   exact ⟨v,o,old c o ho,hd⟩
 have fpok:∀ {H':Hp} {pl:List (Addr×Obj)},(∀ b∈fp,H' b=none)->(∀ b∈fp,∀ p∈pl,p.1≠b)->∀ b∈fp,gB X' pl H' b:=fun {H' pl} hn hpl b hb=>by
  refine ⟨hn b hb,fpC b hb,ok'.exfs b hb,.inl hb,fun x c e=>(f2 b hb).2.2.2.2.1 x c (hcl1 x c e),fun p hp=>hpl b hb p ?_⟩
  have hp':p∈[]++pl:=hp
  simpa using hp'
 let LI:Nat->Shared->Prop:=fun k s'=>∃ i ys its nn σ' H',k=n+1 - i/\i<=n/\W i ys H'/\tn i s'.heap/\(∀ b∈fp,H' b=none)/\aY ys its/\c7 (iE js σ) σ' /\
  Inv X' [(D,{cls:=.type "list",dict:=none,data:=.seq its.toArray nn})] σ' H' s'
 have loop:∀ tk,codeAny (model X.prog X.w) X.A (.compLoop (.ListComp elt [⟨tg,iter,ifs,0⟩] scope pos) 0 (.ref it) (.ref D) (compEnvC scope cl C X.env)) (RR (.ref D) C) {s2 with heap:=h₁,toks:=tk}:=by
  intro tk
  refine sP LI ?_ (n+1) ⟨0,[],[],0,iE js σ,H2,rfl,Nat.zero_le _,w0,st1,fun b hb=>(f2 b hb).1,.nil,c7.refl _,?_⟩
  ·rintro k s3 ⟨i,ys,its,nn,σ3,H3,rfl,hin,w3,st3,fr3,r3,ks,I3⟩
   obtain ⟨hyl,tr⟩:=turn i ys H3 w3
   have fpk:=fpok (pl:=[(D,{cls:=.type "list",dict:=none,data:=.seq its.toArray nn})]) fr3 (fun b hb p hp z=>by
    rw[List.mem_singleton.mp hp] at z
    exact DnotFp ((show D=b from z)▸hb))
   rcases tr with ⟨stop,q⟩|⟨go,hlt,RW,hR1,hR2,step⟩
   ·refine thn (T.done X' rfl rfl rfl hc i _ s3 σ3 H3 _ I3 fpk st3 stop) fun r s4 zz0=>?_
    obtain ⟨hr,I4⟩:=zz0
    subst hr
    show RR (.ref D) C (.ok .next) s4
    obtain ⟨pe,pn,p1,p2,p3⟩:=I4.pin (D,{cls:=.type "list",dict:=none,data:=.seq its.toArray nn}) (by show _∈[]++_;simp)
    refine hRR D C ys H3 s4 ?_ (q D pn)
    have hok4:HOk X.prog X.w (upd H3 D (.lst ys)) s4.heap:=HOk.track I4.hok pn ⟨Nat.le_trans hyl (Nat.le_trans hin hn),its,nn,r3,pe⟩
    have ltD:∀ b u,H2 b=some u->b≠D:=fun b u e z=>by rw[z,freeD] at e;cases e
    have un4:Un (frs X.stack) fp H2 (upd H3 D (.lst ys)) s2.heap s4.heap:=by
     have ub:=I4.base
     refine ⟨ub.keep,ub.slot,fun b o e nn' hx=>?_,ub.there,fun b xs e=>?_,fun b o u e=>?_,fun b ps e=>?_⟩
     ·rw[aI (fun z=>by have:=Heap.lt_size e;rw[hD,z] at this;exact Nat.lt_irrefl _ this)]
      exact ub.free b o e nn' hx
     ·rw[aI (ltD b _ e)];exact ub.tups b xs e
     ·rw[aI (ltD b _ e)];exact ub.frzs b o u e
     ·rw[aI (ltD b _ e)];exact ub.tbls b ps e
    refine ⟨I.call' I4.os un4 hok4 I4.bare fun b hb=>⟨(f2 b hb).2.2.2.1,(f2 b hb).2.1,(f2 b hb).2.2.2.2.1,(f2 b hb).2.2.2.2.2⟩,?_,?_,pn⟩
    ·obtain ⟨m,hm,_⟩:=I4.loc
     exact ⟨m,hm⟩
    ·refine I.fpOk (by rw[hD];exact hCle) ?_
     rw[aI (Ne.symm hDC)]
     exact I4.free
   ·refine thn (T.item X' rfl rfl rfl hc i _ s3 σ3 H3 _ I3 fpk st3 go) fun r s4 zz0=>?_
    obtain ⟨u,hr,h4⟩:=zz0
    subst hr
    show wpAny _ _ (letOwnedTupleGo tg (.ref it) u) _ _ s4
    refine thn h4 fun _ s5 zz0=>?_
    obtain ⟨x,H5,I5,r5,y5,st5,fr5⟩:=zz0
    obtain ⟨g,tt,te,hg,ht,he,hq⟩:=step x H5 y5 cl C s2 H2 fp
    have fpk5:=fpok (pl:=[(D,{cls:=.type "list",dict:=none,data:=.seq its.toArray nn})]) fr5 (fun b hb p hp z=>by
     rw[List.mem_singleton.mp hp] at z
     exact DnotFp ((show D=b from z)▸hb))
    have I5':=I5.pinned fpk5 (T.obj _ _ st5)
    refine thn (hg _ s5 σ3 H5 x u _ I5' r5 (hq σ3 ks)) fun _ s6 zz0=>?_
    obtain ⟨σ6,H6,I6,ks6,q6⟩:=zz0
    refine thn (ht _ s6 σ6 H6 _ I6 q6) fun b s7 zz0=>?_
    obtain ⟨H7,I7,q7⟩:=zz0
    have stK:∀ {s':Shared} {H':Hp} {σ':St},Inv X' ([(D,{cls:=.type "list",dict:=none,data:=.seq its.toArray nn})]++mU fp s5.heap) σ' H' s'->tn (i+1) s'.heap/\(∀ b∈fp,H' b=none):=fun {s' H' σ'} I'=>by
     refine ⟨T.keep _ _ _ st5 fun b hb o e=>(I'.pin (b,o) (List.mem_append_right _ (List.mem_append_right _ (jF hb e)))).1,fun b hb=>?_⟩
     obtain ⟨o,e,d⟩:=T.obj _ _ st5 b hb
     exact (I'.pin (b,o) (List.mem_append_right _ (List.mem_append_right _ (jF hb e)))).2.1
    cases b with
    | false=>
     rw[if_neg Bool.false_ne_true] at q7 ⊢
     obtain ⟨a1,a2⟩:=stK I7
     exact ⟨n+1 - (i+1),by omega,i+1,ys,its,nn,σ6,H7,rfl,hlt,hR2 _ q7,a1,a2,r3,ks6,I7.unpinned⟩
    | true=>
     rw[if_pos rfl] at q7 ⊢
     refine thn (he _ s7 σ6 H7 _ I7 q7) fun yv s8 zz0=>?_
     obtain ⟨y,H8,I8,r8,q8⟩:=zz0
     obtain ⟨a1,a2⟩:=stK I8
     have I8u:=I8.unpinned
     obtain ⟨pe,pn,p1,p2,p3⟩:=I8u.pin (D,{cls:=.type "list",dict:=none,data:=.seq its.toArray nn}) (by show _∈[]++_;simp)
     have hl8:s8.heap.IsList D its.toArray:=PySem.IsL.isList pe
     have isz:its.length<=sizeLine:=by rw[<-r3.length];exact Nat.le_trans hyl (Nat.le_trans hin hn)
     refine sQ pe (by simpa using isz) fun nn' h9 e9 hs9=>?_
     have I9:Inv X' [] σ6 H8 {s8 with heap:=h9,toks:=s8.toks}:=by
      refine Inv.turned (pins:=[]) (it:=D) (t':=s8.toks) (I8u.pins_of (pins':=[]) fun p hp=>absurd hp (by simp)) (fun b o hb e=>(hs9.2 b hb).trans e) pn hDC (.inr (by show s2.heap.objs.size<=D;rw[hD];exact Nat.le_refl _)) (fun x c e z=>?_) fun p hp=>absurd hp (by show ¬ p∈([]++[]:List (Addr×Obj));simp)
      obtain ⟨v,o,ho,hd⟩:=I.cell x c (hcl1 x c e)
      have:=Heap.lt_size ho
      rw[hD,z] at this
      exact Nat.lt_irrefl _ this
     refine ⟨n+1 - (i+1),by omega,i+1,ys++[y],its++[yv],nn',σ6,H8,rfl,hlt,hR1 _ _ q8,?_,a2,aY.append r3 (.cons r8 .nil),ks6,?_⟩
     ·exact T.keep _ _ _ a1 fun b hb o e=>(hs9.2 b (fun z=>DnotFp (z▸hb))).trans e
     ·refine I9.pins_of fun p hp=>?_
      obtain rfl:=List.mem_singleton.mp hp
      exact ⟨by simpa using e9,pn,p1,p2,by simp⟩
  ·refine (I0 tk).pins_of fun p hp=>?_
   obtain rfl:=List.mem_singleton.mp hp
   exact ⟨haccO,freeD,hDC,DnotFs,by simp⟩
 exact codeAny_compStart_list (loop _) (T.self X.A 0 _ _ _ st1 (loop _))
noncomputable def eR(names:List (Str×NameKind))(outer:Str->Option NameKind):Bool:=
 names.all (fun y=>y.2 != .cell) && names.all (fun y=>y.2 != .local || names.lookup y.1 == some .local) && names.all (fun y=>y.2 != .free || outer y.1 == some .cell || outer y.1 == some .free)
theorem eR.cell{names:List (Str×NameKind)}{outer:Str->Option NameKind}(h:eR names outer=true):∀ y∈names,y.2≠.cell:=fun y hy=>by
 unfold eR at h
 simp only[Bool.and_eq_true,List.all_eq_true] at h
 simpa using h.1.1 y hy
theorem eR.names{names:List (Str×NameKind)}{outer:Str->Option NameKind}(h:eR names outer=true):∀ y∈names,y.2=.local->names.lookup y.1=some .local:=fun y hy e=>by
 unfold eR at h
 simp only[Bool.and_eq_true,List.all_eq_true] at h
 have:=h.1.2 y hy
 rw[e] at this
 simpa using this
theorem eR.free{names:List (Str×NameKind)}{outer:Str->Option NameKind}(h:eR names outer=true):∀ y∈names,y.2=.free->outer y.1=some .cell\/outer y.1=some .free:=fun y hy e=>by
 unfold eR at h
 simp only[Bool.and_eq_true,List.all_eq_true] at h
 have:=h.2 y hy
 rw[e] at this
 simpa using this
theorem jK{N:List Str}{js:List (Option Nat)}{scope:Scope}{tg elt iter:Expr}{ifs:List Expr}{pos:Pos}{wi:TI}(hc:X.calm=true)(caps:Caps X scope N js)(hok:eR scope.names X.env.kindOf=true)
  (hi:PI X tg iter wi) (hkind:scope.kind=.function:=by rfl) (hs:∀ x,foldedSetIterable iter X.env x=pure x:=by intro _;rfl) :
  PE X (.ListComp elt [⟨tg,iter,ifs,0⟩] scope pos) (xL X N scope js tg elt ifs wi):=by
 intro pins s σ H Q I h
 obtain ⟨cl,e1,e2,e3⟩:=xK (env:=X.env) (scope:=scope) fun x hx hf=>I.ok.has _ (eR.free hok x hx hf)
 rw[eval_ListComp]
 refine wpAny_comprehension_free (use:=none) rfl hs e1 hkind (eR.names hok) (thn (hi pins s σ H _ I h) fun v s1 h1=>thn h1 fun itv s2 h2=>?_)
 obtain ⟨it,fp,tn,J,H2,rfl,I2,T,st2,f2,n,W,hn,w0,turn⟩:=h2
 refine xM (RR:=fun acc C=>compPost (model X.prog X.w) X.A X.xe none (EP X pins σ Q) acc C) (Q:=Q) hc caps hkind (eR.cell hok) e2 e3 I2 T st2 f2 n W hn w0 turn ?_
 intro D C ys H' s' ce q
 obtain ⟨m,hm⟩:=ce.ns
 exact ⟨m,hm,fun h' hs'=>⟨.ref D,_,CompEnd.gone (D:=D) (ys:=ys) (H':=H') ce.inv ce.fp hs',rfl,q⟩⟩
end
noncomputable def aDQ(W:Nat->List V->Hp->Prop)(i:Nat)(ys:List V):Option V->Hp->Prop
 | some y,H=>W (i+1) (ys++[y]) H
 | none,H=>W (i+1) ys H
theorem aEQ{X:Cx}{J:It}{N:List Str}{scope:Scope}{js:List (Option Nat)}{tg elt:Expr}{ifs:List Expr}{σ:St}{Q:VK}{n:Nat}{H1:Hp}(W:Nat->List V->Hp->Prop)(hz:n<=sizeLine)(w0:W 0 [] H1)
  (hl:∀ i ys H,i<=n->W i ys H->ys.length<=i) (hgo:∀ i ys H,i < n->W i ys H->J.go i H) (hst:∀ ys H,W n ys H->J.stop n H)
  (step:∀ i x ys H H',i < n->W i ys H->J.yld i H x H'->p0 X N scope js tg elt ifs σ x H' (aDQ W i ys))
  (done:∀ ys H,W n ys H->∀ p,H p=none->Q (.ref p) (upd H p (.lst ys))) :
  compK X N scope js tg elt ifs σ Q J H1:=by
 refine ⟨n,fun i ys H=>i<=n/\W i ys H,hz,⟨Nat.zero_le _,w0⟩,?_⟩
 rintro i ys H ⟨hi,w⟩
 refine ⟨hl i ys H hi w,?_⟩
 by_cases hlt:i < n
 ·exact .inr ⟨hgo i ys H hlt w,hlt,aDQ W i ys,fun y H2 q=>⟨hlt,q⟩,fun H2 q=>⟨hlt,q⟩,fun x H' y=>step i x ys H H' hlt w y⟩
 ·have e:i=n:=by omega
  subst e
  exact .inl ⟨hst ys H w,done ys H w⟩
end L2
namespace L2
open PySem PySem.Spec PyProof.Rows
mutual
inductive DatV(K:Frag)(H:Hp):V->PyData->Prop
 | non:DatV K H .non .none
 | bl (b:Bool):DatV K H (.bl b) (.bool b)
 | int (i:Int):DatV K H (.int i) (.int i)
 | str (x:Str):DatV K H (.str x) (.str x)
 | lst {a:Addr} {xs:List V} {ds:List PyData}:SqL K H a xs->DatVs K H xs ds->DatV K H (.ref a) (.list ds)
 | tup {a:Addr} {xs:List V} {ds:List PyData}:SqT K H a xs->DatVs K H xs ds->DatV K H (.ref a) (.tuple ds)
inductive DatVs(K:Frag)(H:Hp):List V->List PyData->Prop
 | nil:DatVs K H [] []
 | cons {x:V} {d:PyData} {xs:List V} {ds:List PyData}:DatV K H x d->DatVs K H xs ds->DatVs K H (x::xs) (d::ds)
end
section
variable{X:Cx}{pins:List (Addr×Obj)}{σ:St}{H:Hp}{s:Shared}
theorem DatV.reads(I:Inv X pins σ H s){x:V}{d:PyData}{u:Value}(h:DatV X.K H x d)(r:aQ x u):∃ as,Reads s.heap u d as:=by
 refine DatV.rec (motive_1:=fun x d _=>∀ u,aQ x u->∃ as,Reads s.heap u d as) (motive_2:=fun xs ds _=>∀ us,aY xs us->∃ as,ReadsAll s.heap us ds as) ?_ ?_ ?_ ?_ ?_ ?_ ?_ ?_ h u r
 ·intro u r;cases r;exact ⟨_,.none⟩
 ·intro b u r;cases r;exact ⟨_,.bool b⟩
 ·intro i u r;obtain ⟨t,rfl⟩:=r;exact ⟨_,.int i t⟩
 ·intro x u r;obtain ⟨t,rfl⟩:=r;exact ⟨_,.str x t⟩
 ·intro a xs ds h _ ih u r
  cases r
  obtain ⟨its,rv,p,hz⟩:=I.list h
  obtain ⟨o,e,c,n,d⟩:=p.isList
  obtain ⟨as,q⟩:=ih _ rv
  exact ⟨_,.list e c d (by simpa using q)⟩
 ·intro a xs ds h _ ih u r
  cases r
  obtain ⟨its,rv,p,hz⟩:=I.tuple h
  obtain ⟨o,e,c,n,d⟩:=p
  obtain ⟨as,q⟩:=ih _ rv
  exact ⟨_,.tuple e c d (by simpa using q)⟩
 ·intro us r;cases r;exact ⟨_,.nil⟩
 ·intro x d xs ds _ _ i1 i2 us r
  cases r with
  | cons r1 r2=>
   obtain ⟨as,q⟩:=i1 _ r1
   obtain ⟨bs,q2⟩:=i2 _ r2
   exact ⟨_,.cons q q2⟩
theorem aHN(hu:X.A.units+64 < cLine):OpR X (compareOp .Eq) (fun x y H Q=>∃ d e,DatV X.K H x d/\DatV X.K H y e/\SeqAt.shaped d=true/\SeqAt.shaped e=true/\Q (.bl (PyData.eqv d e)) H):=by
 intro pins s σ H x y u v Q I rx ry h
 obtain ⟨d,e,hx,hy,sd,se,q⟩:=h
 obtain ⟨as,r1⟩:=hx.reads I rx
 obtain ⟨bs,r2⟩:=hy.reads I ry
 exact eq_dataH r1 r2 sd se hu ⟨.bl _,H,I,rfl,q⟩
theorem aHO(hu:X.A.units+64 < cLine):OpR X (compareOp .NotEq) (fun x y H Q=>∃ d e,DatV X.K H x d/\DatV X.K H y e/\SeqAt.shaped d=true/\SeqAt.shaped e=true/\Q (.bl (!PyData.eqv d e)) H):=by
 intro pins s σ H x y u v Q I rx ry h
 obtain ⟨d,e,hx,hy,sd,se,q⟩:=h
 obtain ⟨as,r1⟩:=hx.reads I rx
 obtain ⟨bs,r2⟩:=hy.reads I ry
 exact ne_dataH r1 r2 sd se hu ⟨.bl _,H,I,rfl,q⟩
end
theorem SqL.same{K:Frag}{H H':Hp}{a:Addr}{xs:List V}(e:aG H H')(h:SqL K H a xs):SqL K H' a xs:=aG.seq e h
theorem SqT.same{K:Frag}{H H':Hp}{a:Addr}{xs:List V}(e:aG H H')(h:SqT K H a xs):SqT K H' a xs:=by
 rcases h with (h|⟨o,h⟩)|h
 · exact .inl (.inl (e _ _ h))
 · exact .inl (.inr ⟨o, e _ _ h⟩)
 · exact .inr h
theorem DatV.same{K:Frag}{H H':Hp}(e:aG H H'){x:V}{d:PyData}(h:DatV K H x d):DatV K H' x d:=
 DatV.rec (motive_1:=fun x d _=>DatV K H' x d) (motive_2:=fun xs ds _=>DatVs K H' xs ds) .non .bl .int .str (fun h _ q=>.lst (h.same e) q) (fun h _ q=>.tup (h.same e) q) .nil (fun _ _ p q=>.cons p q) h
theorem DatVs.same{K:Frag}{H H':Hp}(e:aG H H'){xs:List V}{ds:List PyData}(h:DatVs K H xs ds):DatVs K H' xs ds:=
 DatVs.rec (motive_1:=fun x d _=>DatV K H' x d) (motive_2:=fun xs ds _=>DatVs K H' xs ds) .non .bl .int .str (fun h _ q=>.lst (h.same e) q) (fun h _ q=>.tup (h.same e) q) .nil (fun _ _ p q=>.cons p q) h
theorem aG.upd{H:Hp}{a:Addr}{o:HO}(h:H a=none):aG H (upd H a o):=fun b u e=>by rw[aI (bI e h)];exact e
theorem DatVs.length{K:Frag}{H:Hp}:∀ {xs:List V} {ds:List PyData},DatVs K H xs ds->xs.length=ds.length
 | _,_,.nil=>rfl
 | _,_,.cons _ t=>by simp[DatVs.length t]
theorem DatVs.append{K:Frag}{H:Hp}:∀ {xs ys:List V} {ds es:List PyData},DatVs K H xs ds->DatVs K H ys es->DatVs K H (xs++ys) (ds++es)
 | _,_,_,_,.nil,h=>h
 | _,_,_,_,.cons a t,h=>.cons a (DatVs.append t h)
theorem DatVs.get{K:Frag}{H:Hp}:∀ {xs:List V} {ds:List PyData} {i:Nat} {x:V},DatVs K H xs ds->xs[i]? = some x->∃ d,ds[i]? = some d/\DatV K H x d
 | _,_,_,_,.nil,e=>by simp at e
 | _,_,0,_,.cons a t,e=>by simp at e;subst e;exact ⟨_,by simp,a⟩
 | _,_,i+1,x,.cons a t,e=>by
  obtain ⟨d,h1,h2⟩:=DatVs.get (i:=i) (x:=x) t (by simpa using e)
  exact ⟨d,by simpa using h1,h2⟩
theorem DatVs.get'{K:Frag}{H:Hp}:∀ {xs:List V} {ds:List PyData} {i:Nat} {d:PyData},DatVs K H xs ds->ds[i]? = some d->∃ x,xs[i]? = some x/\DatV K H x d
 | _,_,_,_,.nil,e=>by simp at e
 | _,_,0,_,.cons a t,e=>by simp at e;subst e;exact ⟨_,by simp,a⟩
 | _,_,i+1,x,.cons a t,e=>by
  obtain ⟨d,h1,h2⟩:=DatVs.get' (i:=i) (d:=x) t (by simpa using e)
  exact ⟨d,by simpa using h1,h2⟩
theorem DatVs.drop{K:Frag}{H:Hp}:∀ {xs:List V} {ds:List PyData} (n:Nat),DatVs K H xs ds->DatVs K H (xs.drop n) (ds.drop n)
 | _,_,0,h=>h
 | _,_,_+1,.nil=>.nil
 | _,_,n+1,.cons _ t=>DatVs.drop n t
theorem DatVs.take{K:Frag}{H:Hp}:∀ {xs:List V} {ds:List PyData} (n:Nat),DatVs K H xs ds->DatVs K H (xs.take n) (ds.take n)
 | _,_,0,_=>.nil
 | _,_,_+1,.nil=>.nil
 | _,_,n+1,.cons a t=>.cons a (DatVs.take n t)
end L2
namespace SX
open PySem PySem.W
section
variable{prog:Program}{w:World}{A:Around}{E:Value->Shared->Prop}{h:Heap}{g:Array GenState}{d:Drawn}{t:Nat}{os:OsState}{K:Frag}
variable{nm q:Str}{C N:Addr}{bs bm bmB:List Value}{hdct:Bool}{sn:List Str}{sub:List Value}{ab:Bool}{col:Option Bool}{dd:Option Addr}{k0 k1 k2 k3 k5:Option Value}{B newId initId:String}
structure BmOk(B:String)(bm:List Value):Prop where
 hasB:bm.contains (.type B)=true
 hasBase:bm.contains (.type "BaseException")=true
 noAttr:bm.contains (.type "AttributeError")=false
 noName:bm.contains (.type "NameError")=false
end
end SX
namespace SX
open PySem PySem.W PySem.Builtin PySem.Builtin.ObjectAttr
abbrev iF:List Value:=[.type "ValueError",.type "Exception",.type "BaseException",.type "object"]
structure ExcC(K:Frag)(W C:Addr):Prop where
 lk:∃ nm q N bs sn sub ab col dd k0 k1 k2 k3 k5,K.lookup C=some (excClassObj nm q C N bs (.ref W::iF) true sn sub ab col dd k0 k1 k2 k3 k5 "ValueError.__new__")
 sa:findIn K (.ref C) "__setattr__"=some (some (.builtin "object.__setattr__"))
 ga:findIn K (.ref C) "__getattribute__"=some (some (.builtin "BaseException.__getattribute__"))
 gh:findIn K (.ref C) "__getattr__"=some none
 cl:findIn K (.ref C) "__class__"=some (some (.builtin "object.__class__"))
 clg:specialIn K (.builtin "object.__class__") "__get__"=some (some (.builtin "getset_descriptor.__get__"))
 clt:takesIn K (.builtin "object.__class__")=some true
 kp:keepIn K (.ref C)=true
theorem aK3(W:Addr):BmOk "ValueError" (.ref W::iF):=⟨by simp[iF],by simp[iF],by simp[iF],by simp[iF]⟩
theorem passes(self:Value)(C W:Addr):refuseLoop self "__setattr__" (.ref C::.ref W::iF)=pure ():=by
 rw[refuseLoop_ref,refuseLoop_ref]
 exact PySem.F.store_ValueError.passes self
theorem ExcC.cls{K:Frag}{W C:Addr}(c:ExcC K W C):∃ cd:ClassData,clsIn K C=some cd/\cd.hasDict=true/\cd.mro=.ref C::.ref W::iF:=by
 obtain ⟨nm,q,N,bs,sn,sub,ab,col,dd,k0,k1,k2,k3,k5,e⟩:=c.lk
 exact ⟨_,by unfold clsIn;rw[e],rfl,rfl⟩
theorem ExcC.mro{K:Frag}{W C:Addr}(c:ExcC K W C)(b:Value):mroIn K C b=some ((Value.ref C::.ref W::iF).contains b):=by
 obtain ⟨cd,h1,_,h3⟩:=c.cls
 unfold mroIn
 rw[h1,Option.bind_some,h3]
 rfl
section
variable{prog:Program}{w:World}{A:Around}{E:Value->Shared->Prop}{s:Shared}{K:Frag}{W C x:Addr}{name:Str}{v:Value}{vs:Array Value}
theorem zL{od:Option Addr}{o:Option Obj}{Q:Option Value->Shared->Prop}(X:K.In s.heap)(c:ExcC K W C)(I:InstAt s.heap x ⟨.ref C,od,.fields vs,#[]⟩ C o)(h:Q (some (.ref C)) {s with toks:=s.toks+1}) :
  wpAny (model prog w) A (getAttr? (.ref x) "__class__") Q E s:=by
 obtain ⟨hp,g,d,t,os⟩:=s
 obtain ⟨cd,hcd,hdct,hmro⟩:=c.cls
 have L0:=I.type (M:=model prog w)
 have L1:=looks_findIn (M:=model prog w) X c.ga
 have L2:=looks_findIn (M:=model prog w) X c.gh
 have sub:Looks (model prog w) hp (isInstance (.ref x) (.type "BaseException")) true:=L0.andThen (looks_mroIn X (by rw[c.mro];simp[iF]))
 have hf:findObj K C o "__class__"=some (.bind (.builtin "getset_descriptor.__get__") (.builtin "object.__class__")):=by
  unfold findObj
  rw[hcd,Option.bind_some,c.cl,Option.bind_some]
  simp only[c.clg,c.clt,Option.bind_some]
 have L3:=looks_find (M:=model prog w) X I hf
 unfold getAttr?
 refine wpAny_bind (wpAny_mkText ?_)
 unfold getAttrBy?
 refine wpAny_bind (wpAny_attempt ?_)
 unfold getAttrBy
 refine wpAny_holding (wpAny_bind (L0.at (wpAny_bind (L1.at ?_))))
 show wpAny _ _ (getAttrByItsOwn _ _ _ _ _ _) _ _ _
 unfold getAttrByItsOwn
 refine wpAny_bind ?_
 show wpAny _ _ (typeLookup (.ref C) "__getattr__") _ _ _
 refine L2.at (wpAny_bind (wpAny_attempt (wpAny_holding ?_)))
 unfold callGetattribute
 rw[show (false && onTheHeap (Value.builtin "BaseException.__getattribute__"))=false from rfl,if_neg Bool.false_ne_true]
 unfold boundAndCalled
 rw[PySem.F.excAttr_ValueError.ga.bind]
 refine wpAny_bind (wpAny_pure ?_)
 have hk:builtinKind "BaseException.__getattribute__"=some .slot:=by decide +kernel
 have hsplit:splitId "BaseException.__getattribute__"=some ("BaseException","__getattribute__"):=by decide +kernel
 refine wpAny_call (codeAny_call_builtin PySem.F.excAttr_ValueError.ga.plain PySem.F.entry_bexc_ga (@check_slot (model prog w) _ _ _ "BaseException.__getattribute__" "BaseException" "__getattribute__" (.ref x) [.str "__class__" t] [] _ hk hsplit sub (PySem.F.args_bexc_ga (.ref x) (.str "__class__" t)) ?_))
 refine wpAny_bind (wpAny_pure (wpAny_bind (wpAny_pure ?_)))
 refine wpAny_bind (L0.at (wpAny_bind (L3.at ?_)))
 show wpAny _ _ (holding [.builtin "object.__class__"] (call (.builtin "getset_descriptor.__get__") [.builtin "object.__class__",.ref x,.ref C]) >>= ret) _ _ _
 refine wpAny_bind (wpAny_holding (wpAny_call (class_get (s:=⟨hp,g,d,t+1,os⟩) X I (by rw[c.mro];simp[iF]) ?_)))
 refine wpAny_pure ?_
 show wpAny _ _ (handedOut (.ref C)) _ _ _
 exact wpAny_pure (wpAny_pure h)
theorem aBZ{od:Option Addr}{o:Option Obj}(c:ExcC K W C):KitX K (.ref x) (.ref C) (fun h=>InstAt h x ⟨.ref C,od,.fields vs,#[]⟩ C o) where
 ty:=fun _ _ _ I=>I.type
 it:=fun _ _ X _=>by
  obtain ⟨nm,q,N,bs,sn,sub,ab,col,dd,k0,k1,k2,k3,k5,e⟩:=c.lk
  intro A' Q' E' s' k q
  unfold isType loadHead
  exact wpAny_bind (wpAny_loadPart (k _ _ (X _ _ e)) (wpAny_pure q))
 ne:=fun h tp dd its n sl X htp=>by
  obtain ⟨nm,q,N,bs,sn,sub,ab,col,dd,k0,k1,k2,k3,k5,e⟩:=c.lk
  refine Bool.eq_false_iff.mpr fun q=>?_
  have e':C=tp:=Value.ref.inj (beq_iff_eq.mp q)
  subst e'
  have z:=(X _ _ e).symm.trans htp
  have z':Value.type "type"=Value.type "tuple":=congrArg Obj.cls (Option.some.inj z)
  exact absurd (Value.type.inj z') (by decide)
 ca:=fun X I k=>zL X c I k
theorem pA{od:Option Addr}{o:Option Obj}{cv:Value}{b:Bool}{Q:Value->Shared->Prop}(X:K.In s.heap)(c:ExcC K W C)(I:InstAt s.heap x ⟨.ref C,od,.fields vs,#[]⟩ C o)(e:kitOne K (.ref C) cv=some b)(h:∀ tk,Q (.bool b) {s with toks:=tk}) :
 wpAny (model prog w) A (call (.builtin "isinstance") [.ref x,cv]) Q E s:=kia_one (aBZ c) X I e (fun z=>nomatch z) h
end
end SX
namespace SX
open PySem PySem.W
def oE(h:Heap)(vs:Array Value)(e:Addr)(T:Option Addr):Prop:=
 match T with
 | none=>vs[1]? = some .none
 | some t=>vs[1]? = some (.ref t)/\t≠e/\∃ oT ts x,h.get? t=some oT/\oT.data=.fields ts/\ts[3]? = some x
section
variable{M:Model}{A:Around}{E:Value->Shared->Prop}{s:Shared}
structure Noted(FL:List Addr)(e:Addr)(T:Option Addr)(C:Addr)(od:Option Addr)(h h':Heap)(T':Option Addr):Prop where
 keep:∀ b o,b∉FL->b≠e->(∀ t,T=some t->b≠t)->h.get? b=some o->h'.get? b=some o
 slot:∀ b o,b∈FL->h.get? b=some o->∃ sl,h'.get? b=some {o with slots:=sl}
 exc:∃ vs,h'.get? e=some ⟨.ref C,od,.fields vs,#[]⟩/\oE h' vs e T'
 new:(∃ t,T'=some t/\h.objs.size<=t)\/(T'=T/\T≠none)
 there:∀ t o,T=some t->h.get? t=some o->∃ o',h'.get? t=some o'
theorem aB0{base:Heap}{env:Env}{outer:List Env}{L e C:Addr}{od:Option Addr}{vs:Array Value}{T:Option Addr}{Q:Unit->Shared->Prop}
  (hfr:A.frames=some (env::outer)) (hl:s.heap.FunFrames base (env::outer)) (hf:env.frame=some L) (he:s.heap.get? e=some ⟨.ref C,od,.fields vs,#[]⟩) (ht:oE s.heap vs e T)
  (h:∀ h' T',T'≠none->Noted ((env::outer).filterMap (·.frame)) e T C od s.heap h' T'->Q () {s with heap:=h'}) :
  wpAny M A (noteFrame (.ref e) env) Q E s:=by
 have frF:∀ b∈(env::outer).filterMap (·.frame),∃ o,s.heap.get? b=some o/\∀ vs,o.data≠.fields vs:=fun b hb=>(hl.mem hb).2
 have hene:e∉(env::outer).filterMap (·.frame):=fun hm=>by
  obtain ⟨o,ho,hnf⟩:=frF e hm
  rw[he] at ho;injection ho with ho;subst ho;exact hnf vs rfl
 have h1s:1 < vs.size:=by
  unfold oE at ht
  cases T with
  | none=>exact (Array.getElem?_eq_some_iff.mp ht).1
  | some t=>exact (Array.getElem?_eq_some_iff.mp ht.1).1
 have make:∀ (hp:Heap) (head:Value) (hadNext:Bool),hp.FunFrames base (env::outer)->hp.objs.size=s.heap.objs.size->hp.get? e=some ⟨.ref C,od,.fields vs,#[]⟩->
   (∀ b o,(∀ t,T=some t->b≠t)->s.heap.get? b=some o->hp.get? b=some o)->(∀ t o,T=some t->s.heap.get? t=some o->∃ o',hp.get? t=some o'/\t∉(env::outer).filterMap (·.frame)/\t≠e)->
   wpAny M A (do let a <-frameOf env;let pl <-entryPlaceOf L hadNext;let b <-EntryCells.newEntry head a .none (rawInt L) .none pl;setField (.ref e) 1 b) Q E {s with heap:=hp}:=by
  intro hp head hadNext hlp hsz hep kp tp
  refine wpAny_bind (wpAny_frameOf_fun (s:={s with heap:=hp}) hfr hlp hf fun h₁ hs₁=>?_)
  refine wpAny_bind (wpAny_entryPlaceOf fun pl hpl=>?_)
  unfold EntryCells.newEntry newFields
  refine wpAny_bind (wpAny_newObj_type ?_ (hpl.sizeOk5 _ _ _ _ _))
  have he₁:h₁.get? e=some ⟨.ref C,od,.fields vs,#[]⟩:=(hs₁.2.1 e hene).trans hep
  have he₂:=Heap.get?_push_of_some (h:=h₁) {cls:=.type "traceback",dict:=none,data:=.fields ([head,.ref L,.none,rawInt L,.none]++(if pl.isEmpty then List.replicate 6 Value.none else pl)).toArray} he₁
  refine wpAny_setField he₂ rfl h1s ?_
  have hTe:h₁.objs.size≠e:=Nat.ne_of_gt (Heap.lt_size he₁)
  have he₃:=Heap.get?_update_self (Obj.mapFields (·.setIfInBounds 1 (Value.ref h₁.objs.size))) he₂ rfl
  have hT₃:=(Heap.get?_update_other (h₁.push {cls:=.type "traceback",dict:=none,data:=.fields ([head,.ref L,.none,rawInt L,.none]++(if pl.isEmpty then List.replicate 6 Value.none else pl)).toArray})
   (Obj.mapFields (·.setIfInBounds 1 (Value.ref h₁.objs.size))) (Ne.symm hTe)).trans (Heap.get?_push_size h₁ rfl)
  have keep:∀ b o,b≠e->h₁.get? b=some o->
    ((h₁.push {cls:=.type "traceback",dict:=none,data:=.fields ([head,.ref L,.none,rawInt L,.none]++(if pl.isEmpty then List.replicate 6 Value.none else pl)).toArray}).update e (Obj.mapFields (·.setIfInBounds 1 (Value.ref h₁.objs.size)))).get? b=some o:=
   fun b o hbe hb=>by
    rw[Heap.get?_update_other _ _ (Ne.symm hbe)]
    exact Heap.get?_push_of_some _ hb
  refine h _ (some h₁.objs.size) (by simp) ⟨fun b o hb hbe hbt q=>?_,fun b o hb q=>?_,⟨vs.setIfInBounds 1 (.ref h₁.objs.size),?_,?_⟩,.inl ⟨_,rfl,by rw[hs₁.1,hsz];exact Nat.le_refl _⟩,fun t o e1 e2=>?_⟩
  ·exact keep b o hbe ((hs₁.2.1 b hb).trans (kp b o hbt q))
  ·have hbt:∀ t,T=some t->b≠t:=fun t e1 z=>by
    obtain ⟨o',q',z2,_⟩:=tp t o e1 (z▸q)
    exact z2 (z▸hb)
   obtain ⟨sl,q'⟩:=hs₁.2.2 b o (kp b o hbt q)
   exact ⟨sl,keep b _ (fun z=>hene (z▸hb)) q'⟩
  ·exact he₃
  ·refine ⟨by simp[h1s],hTe,_,_,rawInt L,hT₃,rfl,by first|(simp;done)|(rcases hpl with rfl|⟨_,_,_,_,_,_,_,rfl⟩<;>simp)⟩
  ·obtain ⟨o',q',z2,z3⟩:=tp t o e1 e2
   exact ⟨o',keep t o' z3 ((hs₁.2.1 t z2).trans q')⟩
 unfold noteFrame
 simp only[hf]
 cases T with
 | none=>
  refine wpAny_bind (wpAny_field he rfl ht ?_)
  rw[if_neg (by decide)]
  exact make s.heap .none _ hl rfl he (fun b o _ q=>q) (fun t o e1=>nomatch e1)
 | some t=>
  obtain ⟨ht1,hte,oT,ts,x,hT,hdT,h3⟩:=ht
  have tFL:t∉(env::outer).filterMap (·.frame):=fun hm=>by
   obtain ⟨o,ho,hnf⟩:=frF t hm
   rw[hT] at ho;injection ho with ho;subst ho;exact hnf ts hdT
  refine wpAny_bind (wpAny_field he rfl ht1 ?_)
  rw[if_pos (show (Value.ref t != Value.none)=true from by simp)]
  refine wpAny_bind (wpAny_field hT hdT h3 ?_)
  by_cases hx:(x == rawInt L)=true
  ·rw[if_pos hx]
   refine wpAny_pure (h s.heap (some t) (by simp) ⟨fun b o _ _ _ q=>q,fun b o _ q=>⟨o.slots,q⟩,⟨vs,he,ht1,hte,oT,ts,x,hT,hdT,h3⟩,.inr ⟨rfl,by simp⟩,fun t' o e1 q=>⟨o,q⟩⟩)
  ·rw[if_neg hx]
   refine wpAny_bind (wpAny_setField hT hdT (Array.getElem?_eq_some_iff.mp h3).1 ?_)
   have other:∀ b,b≠t->(s.heap.update t (Obj.mapFields (·.setIfInBounds 3 Value.none))).get? b=s.heap.get? b:=fun b hb=>Heap.get?_update_other _ _ (Ne.symm hb)
   have hT':=Heap.get?_update_self (Obj.mapFields (·.setIfInBounds 3 Value.none)) hT (Obj.isFreed_of_fields (Obj.data_mapFields hdT _))
   refine make (s.heap.update t (Obj.mapFields (·.setIfInBounds 3 Value.none))) _ _ (hl.of_keeps fun b o hb hnf=>⟨o,(other b fun q=>?_).trans hb,rfl⟩) (Heap.SameBut.update ..).1 ((other e (Ne.symm hte)).trans he) (fun b o hb q=>(other b (hb t rfl)).trans q) (fun t' o e1 q=>?_)
   ·rw[q,hT] at hb;injection hb with hb;subst hb;exact hnf ts hdT
   ·cases e1
    exact ⟨_,hT',tFL,hte⟩
theorem xN{e C t:Addr}{od:Option Addr}{vs:Array Value}{fr:Option Addr}{Q:Unit->Shared->Prop}(he:s.heap.get? e=some ⟨.ref C,od,.fields vs,#[]⟩)(ht:oE s.heap vs e (some t))
  (h:∀ h',Heap.SameBut t s.heap h'->oE h' vs e (some t)->Q () {s with heap:=h'}):wpAny M A (setFlight (.ref e) fr) Q E s:=by
 obtain ⟨ht1,hte,oT,ts,x,hT,hdT,h3⟩:=ht
 unfold setFlight
 refine wpAny_bind (wpAny_field he rfl ht1 ?_)
 rw[if_pos (show (Value.ref t != Value.none)=true from by simp)]
 have hsz:=(Array.getElem?_eq_some_iff.mp h3).1
 refine wpAny_setField hT hdT hsz (h _ (Heap.SameBut.update ..) ⟨ht1,hte,_,_,_,Heap.get?_update_self _ hT (Obj.isFreed_of_fields (Obj.data_mapFields hdT _)),Obj.data_mapFields hdT _,Array.getElem?_setIfInBounds_self_of_lt hsz⟩)
end
end SX
namespace L2
open PySem PySem.Spec PyProof.Rows
def ExN(e C:Addr)(od:Option Addr):HO:=.ext fun h=>∃ vs,h.get? e=some ⟨.ref C,od,.fields vs,#[]⟩/\vs[1]? = some .none
def ExO(e C:Addr)(od:Option Addr):HO:=.ext fun h=>∃ vs,h.get? e=some ⟨.ref C,od,.fields vs,#[]⟩
section
variable{P:Program}{w:World}{H:Hp}{h:Heap}{e C:Addr}{od:Option Addr}
theorem aHP{vs:Array Value}(a:h.get? e=some ⟨.ref C,od,.fields vs,#[]⟩):bN P w H h e (ExO e C od):=
 ⟨⟨vs,a⟩,⟨_,a⟩,fun h1 h2 ⟨vs,a⟩ k=>⟨vs,k _ a⟩⟩
theorem zM(ok:HOk P w H h)(q:H e=some (ExO e C od)):∃ vs,h.get? e=some ⟨.ref C,od,.fields vs,#[]⟩:=(ok e _ q).1
end
structure FlyAt(X:Cx)(H:Hp)(h:Heap)(e C:Addr)(od:Option Addr)(traced:Bool):Prop where
 tr:H e=some (ExO e C od)
 tb:∃ vs T,h.get? e=some ⟨.ref C,od,.fields vs,#[]⟩/\SX.oE h vs e T/\(∀ t,T=some t->H t=none/\X.s₀.heap.objs.size<=t/\∀ p∈X.pn,p.1≠t)/\(traced=true->T≠none)
def Fly(X:Cx)(E:XK)(ev:Value)(s':Shared):Prop:=∃ e C od σ H',ev=.ref e/\Inv X [] σ H' s'/\FlyAt X H' s'.heap e C od false/\E (.ref C) (some e) H'
abbrev Cx.fly(X:Cx)(E:XK):Cx:=X.wish (Fly X E)
def sC(X:Cx):Prop:=X.stack=X.env::X.outer/\X.env.frame=some X.env.locals
section
variable{X:Cx}{σ:St}{H:Hp}{s:Shared}{e C:Addr}{od:Option Addr}{b:Bool}
theorem sR(I:Inv X [] σ H s){t:Addr}{oT:Obj}{ts:Array Value}(hT:s.heap.get? t=some oT)(hd:oT.data=.fields ts):t≠X.env.locals/\(∀ x c,X.env.cells.lookup x=some c->c≠t):=by
 refine ⟨fun z=>?_,fun x c q z=>?_⟩
 ·obtain ⟨m,⟨o,es,ep,ho,hd',_⟩,_⟩:=I.loc
  rw[<-z,hT] at ho;cases ho;rw[hd] at hd';cases hd'
 ·obtain ⟨v,o,ho,hd'⟩:=I.cell x c q
  rw[z,hT] at ho;cases ho;rw[hd] at hd';cases hd'
theorem oF{Q:Unit->Shared->Prop}{E':Value->Shared->Prop}(hO:sC X)(I:Inv X [] σ H s)(f:FlyAt X H s.heap e C od b)(h:∀ s',Inv X [] σ H s'->FlyAt X H s'.heap e C od true->Q () s') :
  wpAny (model X.prog X.w) X.A (noteFrame (.ref e) X.env) Q E' s:=by
 obtain ⟨hst,hfm⟩:=hO
 obtain ⟨vs,T,he,ht,hT,_⟩:=f.tb
 have hfr:X.A.frames=some (X.env::X.outer):=by rw[<-hst];exact I.ok.frames
 have hl:s.heap.FunFrames X.base (X.env::X.outer):=by have:=I.stack;rw[hst] at this;exact this
 have hFL:(X.env::X.outer).filterMap (·.frame)=X.env.locals::X.fs:=by rw[List.filterMap_cons,hfm];rfl
 refine SX.aB0 (T:=T) hfr hl hfm he ht fun h' T' hT' N=>?_
 rw[hFL] at N
 have trk:∀ c u,H c=some u->c∉X.env.locals::X.fs:=fun c u q z=>by
  have:=I.stkFree c (by unfold frs;rw[hst,hFL];exact z)
  rw[q] at this;cases this
 have nT:∀ c u,H c=some u->∀ t,T=some t->c≠t:=fun c u q t e1 z=>by
  have:=(hT t e1).1
  rw[<-z,q] at this;cases this
 have hok':HOk X.prog X.w H h':=fun c u q=>by
  by_cases hc:c=e
  ·subst hc
   rw[f.tr] at q;cases q
   obtain ⟨vs',q',_⟩:=N.exc
   exact aHP q'
  ·refine (I.hok c u q).stay (fun c' v hc' q'=>N.keep c' v ?_ ?_ ?_ q') (fun _ q=>q) (fun _ _ q=>q) fun _ _ q=>q
   ·rcases hc' with z|z
    ·rw[z];exact trk c u q
    ·exact trk c' _ z
   ·rcases hc' with z|z
    ·rw[z];exact hc
    ·intro zz;rw[zz,f.tr] at z;cases z
   ·rcases hc' with z|z
    ·rw[z];exact nT c u q
    ·exact nT c' _ z
 have I':Inv X [] σ H {s with heap:=h',gens:=s.gens,drawn:=s.drawn,toks:=s.toks}:=by
  refine I.step (ch:=T.toList) (fun c hc=>?_) (fun c o h1 h2 h3 q n=>?_) (fun c o h1 h2 h3 q n=>N.slot c o (List.mem_cons_of_mem _ h2) q) (fun _ _ _ _ n=>n) (fun c o h3 q=>?_) (fun _ _ q=>q) (fun _ _ _ q=>q) (fun _ _ q=>q) (fun m hm=>?_) hok' I.bare
  ·have e1:T=some c:=by cases T<;>simp at hc;rw[hc]
   obtain ⟨t1,t2,t3⟩:=hT c e1
   rw[e1] at ht
   obtain ⟨_,_,oT,ts,x,hTo,hTd,_⟩:=ht
   obtain ⟨a1,a2⟩:=sR I hTo hTd
   exact ⟨.inr t2,a1,a2,fun p hp=>t3 p (by simpa using hp)⟩
  ·refine N.keep c o ?_ ?_ ?_ q
   ·intro z
    rcases List.mem_cons.mp z with z|z
    ·exact h1 z
    ·exact h2 z
   ·intro z;rw[z,f.tr] at n;cases n
   ·intro t e1 z;exact h3 (by rw[e1,z];simp)
  ·by_cases hc:c=e
   ·subst hc
    obtain ⟨vs',q',_⟩:=N.exc
    exact ⟨_,q'⟩
   ·by_cases hF:c∈X.env.locals::X.fs
    ·obtain ⟨sl,q'⟩:=N.slot c o hF q
     exact ⟨_,q'⟩
    ·exact ⟨o,N.keep c o hF hc (fun t e1 z=>h3 (by rw[e1,z];simp)) q⟩
  ·obtain ⟨o,es,ep,ho,r⟩:=hm
   obtain ⟨sl,q'⟩:=N.slot _ o List.mem_cons_self ho
   exact ⟨_,es,ep,q',r⟩
 refine h _ I' ⟨f.tr,?_⟩
 obtain ⟨vs',q',t'⟩:=N.exc
 refine ⟨vs',T',q',t',fun t e1=>?_,fun _=>hT'⟩
 rcases N.new with ⟨t2,e2,hle⟩|⟨e2,_⟩
 ·rw[e1] at e2;cases e2
  refine ⟨I.hok.fresh hle,Nat.le_trans I.sz hle,fun p hp z=>?_⟩
  have:=Heap.lt_size (I.pin p (List.mem_append_left _ hp)).1
  rw[z] at this
  exact absurd (Nat.lt_of_lt_of_le this hle) (Nat.lt_irrefl _)
 ·exact hT t (e2▸e1)
theorem p4{Q:Unit->Shared->Prop}{E':Value->Shared->Prop}{fr:Option Addr}{A:Around}(I:Inv X [] σ H s)(f:FlyAt X H s.heap e C od true)(h:∀ s',Inv X [] σ H s'->FlyAt X H s'.heap e C od true->Q () s') :
  wpAny (model X.prog X.w) A (setFlight (.ref e) fr) Q E' s:=by
 obtain ⟨vs,T,he,ht,hT,hn⟩:=f.tb
 cases T with
 | none=>exact absurd rfl (hn rfl)
 | some t=>
  obtain ⟨t1,t2,t3⟩:=hT t rfl
  refine SX.xN he ht fun h' sb ht'=>?_
  obtain ⟨_,hte,oT,ts,x,hTo,hTd,_⟩:=ht
  obtain ⟨a1,a2⟩:=sR I hTo hTd
  have I':Inv X [] σ H {s with heap:=h'}:=I.turned (t':=s.toks) (it:=t) (fun b o hb q=>(sb.2 b hb).trans q) t1 a1 (.inr t2) a2 fun p hp=>t3 p (by simpa using hp)
  exact h _ I' ⟨f.tr,vs,some t,(sb.2 e (Ne.symm hte)).trans he,ht',fun t' e1=>by cases e1;exact ⟨t1,t2,t3⟩,fun _=>by simp⟩
theorem zN{Q:Value->Shared->Prop}{E':Value->Shared->Prop}{A:Around}(f:FlyAt X H s.heap e C od true)(h:∀ t,Q (.ref t) s):wpAny (model X.prog X.w) A (field (.ref e) 1) Q E' s:=by
 obtain ⟨vs,T,he,ht,hT,hn⟩:=f.tb
 cases T with
 | none=>exact absurd rfl (hn rfl)
 | some t=>exact wpAny_field he rfl ht.1 (h t)
theorem cW{E:XK}(hO:sC X):PassesOwn (model X.prog X.w) X.A X.env (Fly X E):=by
 rintro ev s' ⟨e,C,od,σ,H,rfl,I,f,q⟩
 refine oF hO I f fun s2 I2 f2=>?_
 unfold cameBackBy
 refine wpAny_bind (zN f2 fun t=>?_)
 rw[if_neg (by simp)]
 exact p4 I2 f2 fun s3 I3 f3=>⟨e,C,od,σ,H,rfl,I3,⟨f3.tr,let ⟨vs,T,a,b,c,_⟩:=f3.tb;⟨vs,T,a,b,c,fun z=>nomatch z⟩⟩,q⟩
end
def CXe(P:Program)(w:World):CXT:=fun outer H s E ev s'=>∃ e C od H',ev=.ref e/\s'.os=s.os/\AllBare s'.gens/\Un (frs outer) [] H H' s.heap s'.heap/\HOk P w H' s'.heap/\H' e=some (ExO e C od) /\
 (∃ vs T,s'.heap.get? e=some ⟨.ref C,od,.fields vs,#[]⟩/\SX.oE s'.heap vs e T/\∀ t,T=some t->H' t=none/\s.heap.objs.size<=t)/\E (.ref C) (some e) H'
section
variable{X:Cx}
theorem c5{E E':XK}(hE:∀ c e H,E c e H->E' c e H):jT (CXe X.prog X.w) (X.fly E') E:=by
 rintro pins σ H s ev s' I ⟨e,C,od,H',rfl,os,bare,un,hok,he,⟨vs,T,q1,q2,q3⟩,q⟩
 have I0:Inv X pins σ H s:=I.unwish
 have I1:Inv X [] σ H s:=I0.pins_of fun p hp=>absurd hp (by simp)
 have I2:Inv X [] σ H' s':=I1.call' os un hok bare (fun b hb=>absurd hb (by simp))
 refine ⟨e,C,od,σ,H',rfl,I2,⟨he,vs,T,q1,q2,fun t e1=>?_,fun z=>nomatch z⟩,hE _ _ _ q⟩
 obtain ⟨t1,t2⟩:=q3 t e1
 refine ⟨t1,Nat.le_trans I0.sz t2,fun p hp z=>?_⟩
 have:=Heap.lt_size (I0.pin p (List.mem_append_left _ hp)).1
 rw[z] at this
 exact absurd (Nat.lt_of_lt_of_le this t2) (Nat.lt_irrefl _)
theorem PSs.unfly{E:XK}{st:List Stmt}{t:TS}(h:PSs (X.fly E) st t)(hx:∀ e s',Fly X E e s'->X.xe e s'):PSs X st t:=fun pins s σ H D I hw=>
 wpAny_mono (h pins s σ H D (I.wish _) hw) (fun f s' q=>SP.unwish q) hx
end
theorem rF{P:Program}{w:World}{K:Frag}{mg:Str->Option Value}{base:Heap}{N:List Str}{qual:Str}{scope:Scope}{f:Addr}{cd:Value}{A:Around}{outer:List Env}{s:Shared}{H:Hp}{E:XK}{ev:Value}{s':Shared}
  (h:Fly (gL (CXe P w) P w K mg base N qual scope f cd A outer s H E) E ev s'):(gL (CXe P w) P w K mg base N qual scope f cd A outer s H E).xe ev s':=by
 obtain ⟨e,C,od,σ,H',rfl,I,fl,q⟩:=h
 show wpAny (model P w) _ (leaving _ (.ref e)) _ _ s'
 unfold leaving
 have hO:sC (gL (CXe P w) P w K mg base N qual scope f cd A outer s H E):=⟨rfl,rfl⟩
 refine wpAny_bind (oF hO I fl fun s2 I2 f2=>p4 I2 f2 fun s3 I3 f3=>?_)
 obtain ⟨vs,T,a,b,c,_⟩:=f3.tb
 exact ⟨e,C,od,H',rfl,I3.os,I3.bare,I3.base,I3.hok,f3.tr,⟨vs,T,a,b,fun t e1=>⟨(c t e1).1,(c t e1).2.1⟩⟩,q⟩
section
variable{P:Program}{w:World}{K:Frag}{mg:Str->Option Value}{base:Heap}
theorem Fun.okX{x qual:Str}{st:Stmt}{f:Addr}{fd:FuncData}{N ps:List Str}{k:Nat}{sp:Sp}(F:Fun K x qual st f fd)(S:FnScope N ps (aM st))(len:∀ vs H Q E,sp vs H Q E->vs.length=ps.length)
  (hbody:∀ (cdv:Value) (A:Around) (outer:List Env) (s:Shared) (H:Hp) (vs:List V) (Q:VK) (E:XK),Room k (A.deeper (envOfC qual (aM st) s.heap.objs.size f cdv))->sp vs H Q E->
   ∃ t,PSs ((gL (CXe P w) P w K mg base N qual (aM st) f cdv A outer s H E).fly E) (cO st) t/\t {nx:=fun _ H'=>Q .non H',rt:=Q} (eI N vs) H):FnOk P w K mg base (CXe P w) (k+1) f fd ps sp:=by
 obtain ⟨oc,od,kV,doc,pm,an,cdv,ct,osl,rfl,lk,hcd⟩:=F.ex
 refine xG lk hcd S len fun A outer s H vs Q E hr hsp=>?_
 obtain ⟨t,h,q⟩:=hbody cdv A outer s H vs Q E hr hsp
 exact ⟨t,h.unfly fun _ _ z=>rF z,q⟩
end
end L2
namespace L2
open PySem PySem.Spec PyProof.Rows
inductive TyX(K:Frag)(H:Hp):V->Value->Prop where
 | pl {x:V} {t:Value} (h:TyOf K H x t):TyX K H x t
 | exc {a W C:Addr} {d:Addr} {fs:List (Str×V)} (c:SX.ExcC K W C) (e:H a=some (ExO a C (some d))) (ed:H d=some (.xd fs)):TyX K H (.ref a) (.ref C)
 | exc0 {a W C:Addr} (c:SX.ExcC K W C) (e:H a=some (ExO a C none)):TyX K H (.ref a) (.ref C)
def xO:V->Option Value
 | .ty n=>some (.type n)
 | .ref a=>some (.ref a)
 | _=>none
theorem p6{x:V}{u v:Value}(h:xO x=some v)(r:aQ x u):u=v:=by
 cases x with
 | ty n=>cases h;exact r
 | ref a=>cases h;exact r
 | _=>cases h
theorem iO{X:Cx}:fK X (.builtin "isinstance") (fun xs H Q=>∃ x c t cv b,xs=[x,c]/\TyX X.K H x t/\xO c=some cv/\PySem.W.kitOne X.K t cv=some b/\Q (.bl b) H):=by
 intro pins s σ H xs us Q I r h
 obtain ⟨x,c,t,cv,b,rfl,ty,hc,e,q⟩:=h
 obtain ⟨u,v,rfl,ru,rv⟩:=o8 r
 obtain rfl:=p6 hc rv
 cases ty with
 | pl ty=>exact zF I ru ty e fun tk=>⟨.bl b,H,I.tok _,rfl,q⟩
 | @exc a W C d fs cc ea ed=>
  cases (show u=Value.ref a from ru)
  obtain ⟨vs,hx⟩:=zM I.hok ea
  obtain ⟨mA,hns,r⟩:=(show bN X.prog X.w H s.heap d (.xd fs) from I.hok d _ ed)
  obtain ⟨od,hod,_⟩:=rB hns
  exact SX.pA (o:=some od) I.kIn cc ⟨hx,rfl,rfl,hod⟩ e fun tk=>⟨.bl b,H,I.tok _,rfl,q⟩
 | @exc0 a W C cc ea=>
  cases (show u=Value.ref a from ru)
  obtain ⟨vs,hx⟩:=zM I.hok ea
  exact SX.pA (o:=none) I.kIn cc ⟨hx,rfl,rfl,True.intro⟩ e fun tk=>⟨.bl b,H,I.tok _,rfl,q⟩
end L2
namespace SX
open PySem PySem.W
structure ExcAny(K:Frag)(C:Addr)(bm:List Value):Prop where
 lk:∃ nm q N bs hd sn sub ab col dd k0 k1 k2 k3 k5 newId,K.lookup C=some (excClassObj nm q C N bs bm hd sn sub ab col dd k0 k1 k2 k3 k5 newId)
 base:bm.contains (.type "BaseException")=true
theorem ExcC.any{K:Frag}{W C:Addr}(c:ExcC K W C):ExcAny K C (.ref W::iF):=by
 obtain ⟨nm,q,N,bs,sn,sub,ab,col,dd,k0,k1,k2,k3,k5,e⟩:=c.lk
 exact ⟨⟨_,_,_,_,_,_,_,_,_,_,_,_,_,_,_,_,e⟩,(aK3 W).hasBase⟩
end SX
namespace L2
open PySem PySem.Spec PyProof.Rows
end L2
namespace L2
open PySem PySem.Spec PyProof.Rows
structure Blt(mg:Str->Option Value):Prop where
 b_len:mg "len"=none
 b_isinstance:mg "isinstance"=none
 b_all:mg "all"=none
 b_max:mg "max"=none
 b_min:mg "min"=none
 b_int:mg "int"=none
 b_str:mg "str"=none
 b_bool:mg "bool"=none
 b_tuple:mg "tuple"=none
 b_list:mg "list"=none
 b_range:mg "range"=none
 b_enumerate:mg "enumerate"=none
 b_ValueError:mg "ValueError"=none
structure DefAt(K:Frag)(mg:Str->Option Value)(x:Str)(st:Stmt)(ps:List Str):Prop where
 ex:∃ f fd,Fun K x x st f fd/\gJ K fd ps []/\mg x=some (.ref f)
def Calls(P:Program)(w:World)(K:Frag)(mg:Str->Option Value)(base:Heap)(CX:CXT)(k:Nat)(x:Str)(ps:List Str)(sp:Sp):Prop:=
 ∃ f fd,FnOk P w K mg base CX k f fd ps sp/\gJ K fd ps []/\mg x=some (.ref f)/\PySem.W.keepIn K (.ref f)=true
section
variable{P:Program}{w:World}{K:Frag}{mg:Str->Option Value}{base:Heap}{x:Str}{st:Stmt}{N ps:List Str}{k:Nat}{sp:Sp}
theorem DefAt.ok(D:DefAt K mg x st ps)(S:FnScope N ps (aM st))(len:∀ vs H Q E,sp vs H Q E->vs.length=ps.length)
  (hbody:∀ (f:Addr) (cdv:Value) (A:Around) (outer:List Env) (s:Shared) (H:Hp) (vs:List V) (Q:VK) (E:XK),Room k (A.deeper (envOfC x (aM st) s.heap.objs.size f cdv))->sp vs H Q E->
   ∃ t,PSs (gL CX0 P w K mg base N x (aM st) f cdv A outer s H E).nox (cO st) t/\t {nx:=fun _ H'=>Q .non H',rt:=Q} (eI N vs) H):Calls P w K mg base CX0 (k+1) x ps sp:=by
 obtain ⟨f,fd,F,b,m⟩:=D.ex
 exact ⟨f,fd,F.ok S len (hbody f),b,m,F.kp⟩
theorem DefAt.okX(D:DefAt K mg x st ps)(S:FnScope N ps (aM st))(len:∀ vs H Q E,sp vs H Q E->vs.length=ps.length)
  (hbody:∀ (f:Addr) (cdv:Value) (A:Around) (outer:List Env) (s:Shared) (H:Hp) (vs:List V) (Q:VK) (E:XK),Room k (A.deeper (envOfC x (aM st) s.heap.objs.size f cdv))->sp vs H Q E->
   ∃ t,PSs ((gL (CXe P w) P w K mg base N x (aM st) f cdv A outer s H E).fly E) (cO st) t/\t {nx:=fun _ H'=>Q .non H',rt:=Q} (eI N vs) H):Calls P w K mg base (CXe P w) (k+1) x ps sp:=by
 obtain ⟨f,fd,F,b,m⟩:=D.ex
 exact ⟨f,fd,F.okX S len (hbody f),b,m,F.kp⟩
theorem Calls.imp{CX:CXT}{sp':Sp}(C:Calls P w K mg base CX k x ps sp)(h:∀ vs H Q E,sp' vs H Q E->sp vs H Q E):Calls P w K mg base CX k x ps sp':=by
 obtain ⟨f,fd,F,b,m,kp⟩:=C
 exact ⟨f,fd,F.imp h,b,m,kp⟩
end
section
variable{X:Cx}{CX:CXT}{k:Nat}{x:Str}{ps:List Str}{sp:Sp}{E:XK}{p pos:Pos}{e:Expr}{es:List Expr}{t:TA}
theorem dG(C:Calls X.prog X.w X.K X.mg X.base CX k x ps sp)(hr:Room k X.A)(hg:Gl X x)(hx:jT CX X E)(ha:PA X (e::es) t)(hdb:(x == ("__debug__":Str))=false:=by decide)
  (he:starEach (e::es) X.env=(false,eval e X.env)::starEach es X.env:=by rfl) (hpl:(backTo pos (starEach es X.env)).any (·.1)=false:=by rfl):PE X (.Call (.Name x p) (e::es) [] pos) (xF sp [] E t):=by
 obtain ⟨f,fd,F,b,m,kp⟩:=C
 exact aEL F hr hg m kp b .nil hx ha hdb he hpl
end
def spI(C:Addr)(fs:List Str):Sp:=fun vs H Q _=>∃ e xs,vs=.ref e::xs/\xs.length=fs.length/\H e=some (ExN e C none)/\∀ d,H d=none->d≠e->Q .non (upd (upd H e (ExN e C (some d))) d (.xd (fs.zip xs)))
structure ErrAt(P:Program)(w:World)(K:Frag)(mg:Str->Option Value)(base:Heap)(x:Str)(fs:List Str)(W C:Addr):Prop where
 c:SX.ExcC K W C
 m:mg x=some (.ref C)
 na:∀ f∈fs,PySem.W.findIn K (.ref C) f=some none
 i:∃ fI fdI,FnOk P w K mg base CX0 1 fI fdI ("self"::fs) (spI C fs)/\PySem.W.findIn K (.ref C) "__init__"=some (some (.ref fI))/\PySem.W.typeIn K (.ref fI)=some (.type "function")/\gJ K fdI ("self"::fs) []
theorem DatV.tup_of{K:Frag}{H:Hp}{v:V}{ds:List PyData}(h:DatV K H v (.tuple ds)):∃ a xs,v=.ref a/\SqT K H a xs/\DatVs K H xs ds:=by
 cases h with
 | tup h1 h2=>exact ⟨_,_,rfl,h1,h2⟩
theorem DatV.lst_of{K:Frag}{H:Hp}{v:V}{ds:List PyData}(h:DatV K H v (.list ds)):∃ a xs,v=.ref a/\SqL K H a xs/\DatVs K H xs ds:=by
 cases h with
 | lst h1 h2=>exact ⟨_,_,rfl,h1,h2⟩
theorem DatV.int_of{K:Frag}{H:Hp}{v:V}{i:Int}(h:DatV K H v (.int i)):v=.int i:=by cases h;rfl
theorem DatV.str_of{K:Frag}{H:Hp}{v:V}{i:Str}(h:DatV K H v (.str i)):v=.str i:=by cases h;rfl
theorem DatVs.cons_of{K:Frag}{H:Hp}{xs:List V}{d:PyData}{ds:List PyData}(h:DatVs K H xs (d::ds)):∃ x t,xs=x::t/\DatV K H x d/\DatVs K H t ds:=by
 cases h with
 | cons h1 h2=>exact ⟨_,_,rfl,h1,h2⟩
theorem DatVs.nil_of{K:Frag}{H:Hp}{xs:List V}(h:DatVs K H xs []):xs=[]:=by cases h;rfl
theorem c7.nil:c7 [] []:=⟨rfl,fun _ _ h=>by simp at h⟩
theorem c7.nil_of{σ:St}(h:c7 [] σ):σ=[]:=List.length_eq_zero_iff.mp h.1
def SqS(K:Frag)(H:Hp)(a:Addr)(xs:List V):Prop:=SqL K H a xs\/SqT K H a xs
theorem PI.or{X:Cx}{tg iter:Expr}{w1 w2:TI}(h1:PI X tg iter w1)(h2:PI X tg iter w2):PI X tg iter (fun σ H R=>w1 σ H R\/w2 σ H R):=fun pins s σ H R I h=>h.elim (h1 pins s σ H R I) (h2 pins s σ H R I)
def aK4(K:Frag)(tl:TE):TI:=fun σ H R=>tl σ H fun x H1=>∃ a,x=.ref a/\(((∃ xs,SqL K H1 a xs)/\R (Itl K a) H1)\/((∃ xs,SqT K H1 a xs)/\R (Itt K a) H1))
theorem zP{X:Cx}{tg l:Expr}{tl:TE}(hl:PE X l tl):PI X tg l (aK4 X.K tl):=by
 intro pins s σ H R I h
 refine thn (hl pins s σ H _ I h) fun v s1 zz0=>?_
 obtain ⟨x,H1,I1,r1,q1⟩:=zz0
 obtain ⟨a,e,q⟩:=q1
 subst e
 cases r1
 rcases q with ⟨⟨xs,hq⟩,q⟩|⟨⟨xs,hq⟩,q⟩
 ·obtain ⟨its,rv,p,hz⟩:=I1.list hq
  refine wpAny_pyIter_list p.isList ?_
  refine ⟨s1.heap.objs.size,[s1.heap.objs.size],_,_,H1,rfl,I1.kept (t':=s1.toks) fun b o e=>Heap.get?_push_of_some _ e,zB a _,⟨_,Heap.get?_push_size _ rfl,rfl,rfl⟩,fun b hb=>?_,q⟩
  obtain rfl:=List.mem_singleton.mp hb
  exact I1.fpOk (Nat.le_refl _) (I1.hok.fresh (Nat.le_refl _))
 ·obtain ⟨its,rv,p,hz⟩:=I1.tuple hq
  refine wpAny_pyIter_tuple (show s1.heap.IsTuple a its.toArray from p) ?_
  refine ⟨s1.heap.objs.size,[s1.heap.objs.size],_,_,H1,rfl,I1.kept (t':=s1.toks) fun b o e=>Heap.get?_push_of_some _ e,xC a _,⟨_,Heap.get?_push_size _ rfl,rfl,rfl⟩,fun b hb=>?_,q⟩
  obtain rfl:=List.mem_singleton.mp hb
  exact I1.fpOk (Nat.le_refl _) (I1.hok.fresh (Nat.le_refl _))
end L2
namespace L2
open PySem PySem.Spec PyProof.Rows
def aJT(i j:Int):Prop:=0 < j/\j < 2 ^ 64
theorem aB1{X:Cx}:OpR X (binaryOp .FloorDiv) (rI aJT fun i j=>.int (i / j)):=opI fun i j _ _ _ _ _ hc q=>by
 have h1:(0:Int) < j:=hc.1
 have h2:j < 2 ^ 64:=hc.2
 have h3:j.natAbs < 2 ^ 64:=by omega
 have h4:j.natAbs.log2 < 64:=(Nat.log2_lt (by omega)).mpr h3
 exact floordiv_int (by omega) (by rw[Int.fdiv_eq_ediv_of_nonneg i (by omega)];exact q) (.inl (PyProof.noPylong_of_log2 (by omega)))
theorem aJU{X:Cx}{P:Program}{w:World}:jT (CXe P w) X E0:=by
 rintro pins σ H s ev s' I ⟨e,C,od,H',rfl,os,bare,un,hok,he,hv,q⟩
 exact q.elim
section
variable{X:Cx}
end
theorem sS{X:Cx}:fK X (.builtin "isinstance") (fun xs H Q=>∃ a ys c cv b,xs=[.ref a,c]/\SqT X.K H a ys/\xO c=some cv/\PySem.W.kitOne X.K (.type "tuple") cv=some b/\Q (.bl b) H):=by
 intro pins s σ H xs us Q I r h
 obtain ⟨a,ys,c,cv,b,rfl,ha,hc,e,q⟩:=h
 obtain ⟨u,v,rfl,ru,rv⟩:=o8 r
 obtain rfl:=p6 hc rv
 cases (show u=Value.ref a from ru)
 obtain ⟨its,_,⟨o,h1,h2,_⟩,_⟩:=I.tuple ha
 exact PySem.W.kia_one PySem.W.kitx_tuple I.kIn ⟨o,h1,h2⟩ e (fun z=>nomatch z) fun tk=>⟨.bl b,H,I.tok _,rfl,q⟩
structure RoomH(k:Nat)(A:Around):Prop where
 dp:A.depth+3 * k+5 < recursionLimit
 un:A.units+16 * k+200 < cLine
theorem Room.h{k:Nat}{A:Around}(r:Room k A):RoomH k A:=⟨r.dp,r.un⟩
structure FnOkH(P:Program)(w:World)(K:Frag)(mg:Str->Option Value)(base:Heap)(k:Nat)(f:Addr)(fd:FuncData)(ps:List Str)(sp:Sp):Prop where
 len:∀ vs H Q E,sp vs H Q E->vs.length=ps.length
 run:∀ (A:Around) (outer:List Env) (s:Shared) (H:Hp) (args:Args) (us:List Value) (vs:List V) (Q:VK),RoomH k A->Env0 P w K mg base A outer s H->BindsTo s fd args (ps.zip us)->aY vs us->sp vs H Q E0->
  codeAny (model P w) A (.call (.ref f) args) (CR CX0 outer P w H s Q E0) s
theorem FnOkH.ok{P:Program}{w:World}{K:Frag}{mg:Str->Option Value}{base:Heap}{k:Nat}{f:Addr}{fd:FuncData}{ps:List Str}{sp:Sp}(F:FnOkH P w K mg base k f fd ps sp)(hE:∀ vs H Q E,sp vs H Q E->sp vs H Q E0):FnOk P w K mg base CX0 k f fd ps sp:=
 ⟨F.len,fun A outer s H args us vs Q E hr he hb hv hs=>codeAny_mono (F.run A outer s H args us vs Q hr.h he hb hv (hE _ _ _ _ hs)) fun r s' h=>by
  cases r with
  | error e=>exact h
  | ok fl=>cases fl<;>exact h⟩
end L2
namespace Mc
open PySem L2 PyProof.Rows
inductive Tn where
 | n (i:Int)|w (x:Str)
noncomputable def Tn.v:Tn->V
 | .n i=>.int i
 | .w x=>.str x
noncomputable def Tn.d:Tn->PyData
 | .n i=>.int i
 | .w x=>.str x
structure Rw where
 l:Tn
 c:List (Int×Int)
 r:Tn
def aJV(c:Int×Int):PyData:=.tuple [.int c.1,.int c.2]
inductive CellsAt(K:Frag)(H:Hp):List V->List (Int×Int)->Prop
 | nil:CellsAt K H [] []
 | cons {q:Addr} {a b:Int} {xs:List V} {cs:List (Int×Int)} (h:SqS K H q [.int a,.int b]) (t:CellsAt K H xs cs):CellsAt K H (.ref q::xs) ((a,b)::cs)
def aJW(K:Frag)(H:Hp)(v:V)(r:Rw):Prop:=∃ p b cs,v=.ref p/\SqS K H p [r.l.v,.ref b,r.r.v]/\SqS K H b cs/\CellsAt K H cs r.c
inductive RowsAt(K:Frag)(H:Hp):List V->List Rw->Prop
 | nil:RowsAt K H [] []
 | cons {v:V} {r:Rw} {xs:List V} {rs:List Rw} (h:aJW K H v r) (t:RowsAt K H xs rs):RowsAt K H (v::xs) (r::rs)
noncomputable def Tn.ok:Tn->Prop
 | .n _=>True
 | .w x=>PyData.strOk x=true
def Rw.ok(r:Rw):Prop:=r.l.ok/\r.r.ok
theorem p7:∀ {xs:List PyData},(∀ x∈xs,x.canLay0=true)->PyData.canLayAll0 xs=true
 | [],_=>by rfl
 | x::t,h=>by
  show (x.canLay0 && PyData.canLayAll0 t)=true
  rw[h x (List.mem_cons_self ..),p7 fun y hy=>h y (List.mem_cons_of_mem _ hy)];rfl
theorem mX{n:Nat}:∀ {xs:List PyData},(∀ x∈xs,x.depth<=n)->PyData.depthAll xs<=n
 | [],_=>Nat.zero_le _
 | x::t,h=>by
  show max x.depth (PyData.depthAll t)<=n
  exact Nat.max_le.mpr ⟨h x (List.mem_cons_self ..),mX fun y hy=>h y (List.mem_cons_of_mem _ hy)⟩
def Sh(n:Nat)(d:PyData):Prop:=d.canLay0=true/\d.depth<=n
theorem iU{n:Nat}{xs:List PyData}(h:∀ x∈xs,Sh n x):Sh (n+1) (.tuple xs):=⟨p7 fun x hx=>(h x hx).1,by
 have:=mX fun x hx=>(h x hx).2
 show PyData.depthAll xs+1<=n+1
 omega⟩
theorem sh_lst{n:Nat}{xs:List PyData}(h:∀ x∈xs,Sh n x):Sh (n+1) (.list xs):=⟨p7 fun x hx=>(h x hx).1,by
 have:=mX fun x hx=>(h x hx).2
 show PyData.depthAll xs+1<=n+1
 omega⟩
theorem lA(n:Nat)(i:Int):Sh n (.int i):=⟨rfl,Nat.zero_le _⟩
theorem zQ(n:Nat){x:Str}(h:PyData.strOk x=true):Sh n (.str x):=⟨h,Nat.zero_le _⟩
theorem Sh.shaped{n:Nat}{d:PyData}(h:Sh n d)(hn:n<=64):SeqAt.shaped d=true:=by
 show (d.canLay0 && decide (d.depth<=64))=true
 rw[h.1,decide_eq_true (Nat.le_trans h.2 hn)];rfl
section
variable{K:Frag}{H:Hp}{p q:Addr}{xs ys:List V}{o:HO}
inductive NoL:PyData->Prop where
 | int (i:Int):NoL (.int i)
 | str (i:Str):NoL (.str i)
 | tup {ds:List PyData} (h:∀ d∈ds,NoL d):NoL (.tuple ds)
end
section
variable{K:Frag}{H:Hp}
theorem CellsAt.drop:∀ {xs:List V} {cs:List (Int×Int)} (n:Nat),CellsAt K H xs cs->CellsAt K H (xs.drop n) (cs.drop n)
 | _,_,0,h=>h
 | _,_,_+1,.nil=>.nil
 | _,_,n+1,.cons _ t=>CellsAt.drop n t
theorem CellsAt.take:∀ {xs:List V} {cs:List (Int×Int)} (n:Nat),CellsAt K H xs cs->CellsAt K H (xs.take n) (cs.take n)
 | _,_,0,_=>.nil
 | _,_,_+1,.nil=>.nil
 | _,_,n+1,.cons a t=>.cons a (CellsAt.take n t)
end
section
variable{K:Frag}{h:Heap}{mg:Str->Option Value}
theorem cU{x:Str}{st:Stmt}{ps:List Str}{f:Addr}{oc:Value}{od an:Option Addr}{osl:Array (Option Value)}{kV doc pm cdv ct:Value}(X:K.In h)(G:h.Ns mainGlobals mg)
  (a:PySem.W.nsIn K mainGlobals x=some (some (.ref f))) (l:K.lookup f=some ⟨oc,od,.func (PySem.W.fnOf x x (fD st) (cO st) (aM st) .none kV doc pm an cdv ct),osl⟩)
  (c:PySem.W.codeIn K cdv x=true) (k:PySem.W.keepIn K (.ref f)=true)
  (b:∀ (kV doc pm:Value) (an:Option Addr) (cdv ct:Value) (us:List Value),us.length=ps.length->bindArgs (PySem.W.fnOf x x (fD st) (cO st) (aM st) .none kV doc pm an cdv ct) ⟨us,[]⟩=pure (ps.zip us)):DefAt K mg x st ps:=by
 have F:=zK (st:=st) l c k
 exact ⟨f,_,F,F.binds b,PySem.W.mg_of X G a⟩
end
end Mc
namespace Mc
open PySem L2 PyProof.Rows
noncomputable def eD(n c:Nat):Bool:=decide (97<=c/\c < 97+n)
end Mc
namespace L2
open PySem PySem.Spec PyProof.Rows
section
variable{κ:Type}[DecidableEq κ]
def aDR(kvs:List (κ×V))(k:κ):List (κ×V):=kvs.filter fun kv=>decide (kv.1≠k)
theorem i6.getD{o:Option V}{u:Option Value}{d:V}{d':Value}(r:i6 o u)(rd:aQ d d'):aQ (o.getD d) (u.getD d'):=by
 cases o with
 | none=>cases u with
  | none=>exact rd
  | some _=>exact (show False from r).elim
 | some _=>cases u with
  | none=>exact (show False from r).elim
  | some _=>exact r
theorem KV.any{kvs:List (κ×V)}{vs:List (κ×Value)}(r:KV kvs vs)(k:κ):(kvs.any fun kv=>decide (kv.1=k))=vs.any fun kv=>decide (kv.1=k):=by
 unfold KV at r
 induction r with
 | nil=>rfl
 | cons h t ih=>rw[List.any_cons,List.any_cons,ih,h.1]
theorem KV.drop{kvs:List (κ×V)}{vs:List (κ×Value)}(r:KV kvs vs)(k:κ):KV (aDR kvs k) (without vs k):=by
 unfold KV at r ⊢
 unfold aDR without
 induction r with
 | nil=>exact .nil
 | @cons p q ps qs h t ih=>
  obtain ⟨h1,h2⟩:=h
  rw[List.filter_cons,List.filter_cons]
  by_cases e:p.1=k
  ·have a:¬ decide (p.1≠k)=true:=by simp[e]
   have b:¬ decide (q.1≠k)=true:=by simp[h1.symm.trans e]
   rw[if_neg a,if_neg b];exact ih
  ·have e':¬ q.1=k:=fun z=>e (h1.trans z)
   have a:decide (p.1≠k)=true:=by simp[e]
   have b:decide (q.1≠k)=true:=by simp[e']
   rw[if_pos a,if_pos b];exact .cons ⟨h1,h2⟩ ih
theorem KV.length{kvs:List (κ×V)}{vs:List (κ×Value)}(r:KV kvs vs):kvs.length=vs.length:=Paired.length r
end
theorem aDS{P:Program}{w:World}{k:Key}{u:Value}(r:aQ (kV k) u):(bT P w).is k u=true:=by
 cases k with
 | inl i=>obtain ⟨t,e⟩:=(show ∃ t,u=Value.int i t from r);subst e;exact vB P w i t
 | inr x=>obtain ⟨t,e⟩:=(show ∃ t,u=Value.str x t from r);subst e;exact vC P w x t
section
variable{X:Cx}{pins:List (Addr×Obj)}{σ:St}{H:Hp}{s:Shared}{a:Addr}{y v:V}{u r:Value}{o:Option V}{A:Around}{E:Value->Shared->Prop}
theorem Inv.big(I:Inv X pins σ H s):sysModules < s.heap.objs.size:=by
 have h:mainGlobals < s.heap.objs.size:=(I.mod.glob.keeps I.bk).lt
 exact Nat.lt_trans (by decide) h
theorem jL{h':Heap}{t':Nat}{ob:HO}(I:Inv X pins σ H s)(mu:Mut (H a))(hs:Heap.SameBut a s.heap h')(he:∃ q,h'.get? a=some q)(new:bN X.prog X.w (upd H a ob) h' a ob) :
  Inv X pins σ (upd H a ob) {s with heap:=h',toks:=t'}:=
 I.write (x:=a) (e:=a) mu (.inl rfl) (fun b q hb z=>(hs.2 b hb).trans z) he new
end
def aHQ(i:Expr):Prop:=∀ ov iv,subscripted i false ov iv=operate [ov,iv] (getItem ov iv)
theorem aER{prog:Program}{w:World}{A:Around}{E:Value->Shared->Prop}{s:Shared}{env:Env}{value slice:Expr}{pos:Pos}{T id:String}{Q:Value->Shared->Prop}
  (hl:typeLookup (.type T) "__getitem__"=pure (some (.builtin id))) (hs:aHQ slice)
  (h:wpAny (model prog w) A (eval value env) (fun o s₁=>wpAny (model prog w) A (eval slice env) (fun i s₂=>s₂.TypeIs o T/\wpAny (model prog w) A (getItem o i) Q E s₂) E s₁) E s) :
  wpAny (model prog w) A (eval (.Subscript value slice pos) env) Q E s:=by
 refine Subscript_ (wpAny_mono h (fun o s₁ h₁=>wpAny_mono h₁ (fun i s₂ h₂=>?_) fun _ _ x=>x) fun _ _ x=>x)
 obtain ⟨hT,h₂⟩:=h₂
 unfold subscriptTail
 refine wpAny_bind ?_
 rw[getitemInPython_of_ne hT.not_modules]
 refine wpAny_bind (wpAny_specialOf hT hl ?_)
 have fin:wpAny (model prog w) A (subscripted slice false o i) (fun r s₃=>wpAny (model prog w) A (letTemporaryGo value o r >>= fun _=>pure r) Q E s₃) E s₂:=by
  rw[hs o i]
  exact wpAny_operating (wpAny_mono h₂ (fun r s₃ h₃=>wpAny_bind (wpAny_letTemporaryGo (wpAny_pure h₃))) fun _ _ x=>x)
 first
  | exact wpAny_pure (wpAny_bind fin)
  | exact wpAny_bind (wpAny_pure (wpAny_bind fin))
  | exact wpAny_bind fin
structure M1(X:Cx)(o:Expr)(m:Str)(apos:Pos)(e:Expr)(cpos:Pos):Prop where
 base:attributeBase o m X.env (eval o X.env)=eval o X.env
 few:((backTo cpos (starEach [e] X.env)).all (fun x=>!x.1) && (backToKw cpos (keywordEach [] X.env)).all (fun x=>x.1.isSome)
  && decide (([e]:List Expr).length+([]:List Keyword).length+(if ([]:List Keyword).isEmpty then 0 else 1) < 30))=true
 line:(apos.endLine == cpos.line)=true
 trees:backTo cpos (starEach [e] X.env)=[(false,eval e X.env)]
structure M2(X:Cx)(o:Expr)(m:Str)(apos:Pos)(e f:Expr)(cpos:Pos):Prop where
 base:attributeBase o m X.env (eval o X.env)=eval o X.env
 few:((backTo cpos (starEach [e,f] X.env)).all (fun x=>!x.1) && (backToKw cpos (keywordEach [] X.env)).all (fun x=>x.1.isSome)
  && decide (([e,f]:List Expr).length+([]:List Keyword).length+(if ([]:List Keyword).isEmpty then 0 else 1) < 30))=true
 line:(apos.endLine == cpos.line)=true
 trees:backTo cpos (starEach [e,f] X.env)=[(false,eval e X.env),(false,eval f X.env)]
end L2
namespace L2
open PySem PySem.Spec PyProof.Rows
end L2
namespace L2
open PySem PySem.Spec PyProof.Rows
def kX(ks:List (List Key×Addr))(k:List Key):Bool:=ks.any fun p=>decide (p.1=k)
def sT(K:Frag)(H:Hp)(ks:List (List Key×Addr)):Prop:=∀ p∈ks,SqT K H p.2 (p.1.map kV)
theorem SqT.ext{K:Frag}{H:Hp}{a q:Addr}{φ:Heap->Prop}{o:HO}{xs:List V}(h:SqT K H q xs)(ha:H a=some (.ext φ)):SqT K (upd H a o) q xs:=by
 rcases h with (h|⟨u,h⟩)|h
 ·refine .inl (.inl ?_)
  rw[aI (fun z=>by rw[z,ha] at h;cases h)];exact h
 ·refine .inl (.inr ⟨u,?_⟩)
  rw[aI (fun z=>by rw[z,ha] at h;cases h)];exact h
 ·exact .inr h
theorem SqL.ext{K:Frag}{H:Hp}{a q:Addr}{φ:Heap->Prop}{o:HO}{xs:List V}(h:SqL K H q xs)(ha:H a=some (.ext φ)):SqL K (upd H a o) q xs:=by
 rcases h with (h|⟨u,h⟩)|h
 ·refine .inl (.inl ?_)
  rw[aI (fun z=>by rw[z,ha] at h;cases h)];exact h
 ·refine .inl (.inr ⟨u,?_⟩)
  rw[aI (fun z=>by rw[z,ha] at h;cases h)];exact h
 ·exact .inr h
mutual
theorem DatV.ext{K:Frag}{H:Hp}{a:Addr}{φ:Heap->Prop}{o:HO}(ha:H a=some (.ext φ)):∀ {x:V} {d:PyData},DatV K H x d->DatV K (upd H a o) x d
 | _,_,.non=>.non
 | _,_,.bl b=>.bl b
 | _,_,.int i=>.int i
 | _,_,.str x=>.str x
 | _,_,.lst h ds=>.lst (h.ext ha) (DatVs.ext ha ds)
 | _,_,.tup h ds=>.tup (h.ext ha) (DatVs.ext ha ds)
theorem DatVs.ext{K:Frag}{H:Hp}{a:Addr}{φ:Heap->Prop}{o:HO}(ha:H a=some (.ext φ)):∀ {xs:List V} {ds:List PyData},DatVs K H xs ds->DatVs K (upd H a o) xs ds
 | _,_,.nil=>.nil
 | _,_,.cons h t=>.cons (DatV.ext ha h) (DatVs.ext ha t)
end
theorem sT.ext{K:Frag}{H:Hp}{a:Addr}{φ:Heap->Prop}{o:HO}{ks:List (List Key×Addr)}(h:sT K H ks)(ha:H a=some (.ext φ)):sT K (upd H a o) ks:=fun p hp=>SqT.ext (h p hp) ha
end L2
namespace Mc
open PySem L2 PyProof.Rows
def Tn.good(n:Int):Tn->Prop
 | .n i=>0<=i/\i < n
 | .w x=>x="by"\/x="out"
def aB2(n:Int)(c:Int×Int):Prop:=0<=c.1/\c.1 < n/\(c.2=1\/c.2 = -1)
def Rw.good(n:Int)(r:Rw):Prop:=r.l.good n/\r.r.good n/\∀ c∈r.c,aB2 n c
theorem Tn.good.ok{n:Int}{t:Tn}(h:t.good n):t.ok:=by
 cases t with
 | n i=>trivial
 | w x=>
  rcases h with rfl|rfl
  · exact (show PyData.strOk _ = true by decide +kernel)
  · exact (show PyData.strOk _ = true by decide +kernel)
theorem Rw.good.ok{n:Int}{r:Rw}(h:r.good n):r.ok:=⟨h.1.ok,h.2.1.ok⟩
structure Mach(rs:List Rw)(sg:Nat):Prop where
 len:1<=rs.length
 len2:rs.length<=1000
 sg1:1<=sg
 sg3:sg<=3
 row:∀ r∈rs,r.good rs.length/\r.c.length=sg
def sD(sg:Nat)(z:List Nat):Prop:=z.length<=1000/\∀ c∈z,eD sg c=true
noncomputable def jG(rs:List Rw)(q:Int):Rw:=rs.getD q.toNat ⟨.n 0,[],.n 0⟩
noncomputable def iV(rs:List Rw)(z:List Nat)(st:Int×Int):Tn×Int:=
 if st.1=0 then ((jG rs st.2).l,1) else if st.1=(z.length:Int)+1 then ((jG rs st.2).r,-1) else
  (.n ((jG rs st.2).c.getD (z.getD (st.1.toNat - 1) 97 - 97) (0,0)).1,((jG rs st.2).c.getD (z.getD (st.1.toNat - 1) 97 - 97) (0,0)).2)
def xP(rs:List Rw)(z:List Nat)(st:Int×Int):Option (Int×Int):=
 match (iV rs z st).1 with
 | .w _=>none
 | .n q=>some (st.1+(iV rs z st).2,q)
def aDT(rs:List Rw)(z:List Nat)(st:Int×Int):Prop:=0<=st.1/\st.1<=(z.length:Int)+1/\0<=st.2/\st.2 < (rs.length:Int)
theorem rG:∀ (N:Nat) (l:List Nat),l.Nodup->(∀ x∈l,x < N)->l.length<=N
 | 0,l,_,h=>by
  cases l with
  | nil=>exact Nat.le_refl _
  | cons a t=>exact absurd (h a (by simp)) (by omega)
 | N+1,l,hn,h=>by
  have ih:=rG N (l.erase N) (hn.erase N) (fun x hx=>by
   have:=(hn.mem_erase_iff).mp hx
   have h2:=h x this.2
   omega)
  have:=List.length_erase (a:=N) (l:=l)
  split at this<;>omega
noncomputable def xQ(rs:List Rw)(z:List Nat):Nat->List (Int×Int)->Int×Int->List (Int×Int)
 | 0,ps,st=>ps++[st]
 | k+1,ps,st=>if st∈ps then ps++[st] else match xP rs z st with
  | none=>ps++[st]
  | some st'=>xQ rs z k (ps++[st]) st'
def aDU(rs:List Rw)(z:List Nat):Nat:=(z.length+2) * rs.length
def aJX(rs:List Rw)(z:List Nat):List (Int×Int):=xQ rs z (aDU rs z) [] (0,0)
structure Way(rs:List Rw)(z:List Nat)(ps:List (Int×Int))(st:Int×Int)(k:Nat):Prop where
 nd:ps.Nodup
 val:∀ s∈ps++[st],aDT rs z s
 num:ps.length+k=aDU rs z
 res:xQ rs z k ps st=aJX rs z
end Mc
namespace Mc
open PySem L2 PyProof.Rows
noncomputable def one(c:Nat):Str:=⟨#[c]⟩
end Mc
namespace Mc
open PySem L2 PyProof.Rows
section
variable{S O:Type}
inductive Ex(st:S->Option (S⊕O)):Nat->S->O->Prop
 | out {s:S} {o:O} (h:st s=some (.inr o)):Ex st 0 s o
 | go {s s':S} {o:O} {n:Nat} (h:st s=some (.inl s')) (t:Ex st n s' o):Ex st (n+1) s o
inductive Rc(st:S->Option (S⊕O)):Nat->S->S->Prop
 | nil {s:S}:Rc st 0 s s
 | cons {s s' s'':S} {n:Nat} (h:st s=some (.inl s')) (t:Rc st n s' s''):Rc st (n+1) s s''
variable{st:S->Option (S⊕O)}
theorem Rc.ex{k n:Nat}{s s':S}{o:O}(a:Rc st k s s')(b:Ex st n s o):∃ n',n=n'+k/\Ex st n' s' o:=by
 induction a generalizing n with
 | nil=>exact ⟨n,rfl,b⟩
 | cons h t ih=>
  cases b with
  | out h'=>rw[h] at h';cases h'
  | go h' t'=>
   rw[h] at h';cases h'
   obtain ⟨n',e,q⟩:=ih t'
   exact ⟨n',by omega,q⟩
def Res(st:S->Option (S⊕O))(s:S)(r:Option O):Prop:=∀ o,r=some o↔∃ n,Ex st n s o
open Classical in
noncomputable def xR(st:S->Option (S⊕O))(s:S):Option O:=if h:∃ o n,Ex st n s o then some h.choose else none
structure Und2(st:S->Option (S⊕O))(s0:S)(ps:List S)(s:S):Prop where
 nd:ps.Nodup
 back:∀ p∈ps,∃ m,Rc st (m+1) p s
 res:∀ r,Res st s r->Res st s0 r
end
abbrev Th:=Option (Int×Int)
structure Tb where
 f:List Th
 a:List Th
def zR(m:Nat):Th->Prop
 | none=>True
 | some (d,q)=>(d=1\/d = -1)/\0<=q/\q < (m:Int)
structure Tb.good(m:Nat)(t:Tb):Prop where
 lf:t.f.length=m
 la:t.a.length=m
 gf:∀ x∈t.f,zR m x
 ga:∀ x∈t.a,zR m x
def aNP(k n:Int)(s:Int×Int×Int):Int×Int×Int:=(if s.1 < k then s.1 else if s.1=k then (if s.2.1=1 then k else k+n - 1) else s.1+n - 1,s.2.1,s.2.2)
end Mc
namespace Mc
open PySem L2 PyProof.Rows
theorem rH{S:Type}(f:S->Nat)(N:Nat)(l:List S)(hn:l.Nodup)(hf:∀ s∈l,f s < N)(hi:∀ a∈l,∀ b∈l,f a=f b->a=b):l.length<=N:=by
 have h:=rG N (l.map f) ?_ ?_
 ·rw[List.length_map] at h;exact h
 ·unfold List.Nodup
  rw[List.pairwise_map]
  exact List.Pairwise.imp_of_mem (fun {a b} ha hb hab e=>hab (hi a ha b hb e)) hn
 ·intro x hx
  obtain ⟨s,hs,rfl⟩:=List.mem_map.mp hx
  exact hf s hs
end Mc
namespace L2
open PySem PySem.Spec PyProof.Rows
def Its(z:Str):It:=⟨fun i _=>i < z.cps.size,fun i H x H'=>H'=H/\∃ c,z.cps[i]? = some c/\x=.str ⟨#[c]⟩,fun i _=>i=z.cps.size⟩
theorem sU{P:Program}{w:World}{K:Frag}{tg:Expr}(z:Str)(t:Tok)(T:String)(hT:∀ A:Around,A.handled=none->∀ it,Walks P w A it [it] [it] z.cps.size (SignAt z) fun i h=>h.IsStrIter it T z t i)
  (hself:∀ (A:Around) (it:Addr) (i:Nat) (s:Shared) (Q E:Value->Shared->Prop),s.heap.IsStrIter it T z t i->Q (.ref it) s->wpAny (model P w) A (pyIter (.ref it)) Q E s)
  (hno:["enumerate","zip","dict_itemiterator","dict_reverseitemiterator","odict_iterator","itertools.zip_longest","itertools.pairwise"].contains T=false) (it:Addr):Turn P w K tg (Its z) [it] it (fun i h=>h.IsStrIter it T z t i) where
 mem:=by simp
 obj:=fun i h st b hb=>by
  obtain rfl:b=it:=by simpa using hb
  obtain ⟨o,e,c,d⟩:=st
  exact ⟨o,e,fun v z=>by rw[d] at z;cases z⟩
 keep:=fun i h h' st k=>by
  obtain ⟨o,e,c,d⟩:=st
  exact ⟨o,k it (by simp) o e,c,d⟩
 item:=by
  intro X hP hw hK hc i pins s σ H E I hf st hg
  subst hP hw hK
  obtain ⟨f0,f1,f2,f3,f4,f5⟩:=hf it (by simp)
  refine (hT X.A (I.ok.hd hc) it).item i s _ E hg st fun v h' tk hv st' kp=>?_
  obtain ⟨c,tc,hcc,rfl⟩:=hv
  have I1:Inv X pins σ H {s with heap:=h',toks:=tk}:=I.turned (t':=tk) (it:=it) (fun b o hb e=>kp b o (by simpa using hb) e) f0 f1 f3 f4 f5
  obtain ⟨o,e,cc,d⟩:=id st'
  exact ⟨_,rfl,o6 (s:={s with heap:=h',toks:=tk}) e cc d hno ⟨.str ⟨#[c]⟩,H,I1,⟨_,rfl⟩,⟨rfl,c,hcc,rfl⟩,st',fun b hb=>(hf b hb).1⟩⟩
 done:=by
  intro X hP hw hK hc i pins s σ H E I hf st hg
  subst hP hw hK
  obtain ⟨f0,f1,f2,f3,f4,f5⟩:=hf it (by simp)
  have hg:i=z.cps.size:=hg
  subst hg
  exact (hT X.A (I.ok.hd hc) it).done s _ E st fun h' tk kp=>⟨rfl,I.turned (t':=tk) (it:=it) (fun b o hb e=>kp b o (by simpa using hb) e) f0 f1 f3 f4 f5⟩
 self:=fun A i s Q E st h=>hself A it i s Q E st h
def aK5(te:TE):TI:=fun σ H R=>te σ H fun x H1=>∃ z,x=.str z/\R (Its z) H1
theorem zS{X:Cx}{tg l:Expr}{tl:TE}(hl:PE X l tl):PI X tg l (aK5 tl):=by
 intro pins s σ H R I h
 refine thn (hl pins s σ H _ I h) fun v s1 zz0=>?_
 obtain ⟨x,H1,I1,r1,q1⟩:=zz0
 obtain ⟨z,e,q⟩:=q1
 subst e
 obtain ⟨t,rfl⟩:=r1
 refine wpAny_pyIter_strU ?_
 have I2:Inv X pins σ H1 {s1 with heap:=s1.heap.push {cls:=.type (strIterType z),data:=.fields #[.str z t,.int 0 0]}}:=I1.kept (t':=s1.toks) fun b o e=>Heap.get?_push_of_some _ e
 have st:(s1.heap.push {cls:=.type (strIterType z),data:=.fields #[.str z t,.int 0 0]}).IsStrIter s1.heap.objs.size (strIterType z) z t 0:=⟨_,Heap.get?_push_size _ rfl,rfl,rfl⟩
 have fin:∀ b∈[s1.heap.objs.size],gB X pins H1 b:=fun b hb=>by
  obtain rfl:=List.mem_singleton.mp hb
  exact I1.fpOk (Nat.le_refl _) (I1.hok.fresh (Nat.le_refl _))
 by_cases ha:(z.cps.all fun x=>decide (x < 128))=true
 ·have eT:strIterType z="str_ascii_iterator":=by unfold strIterType;rw[if_pos ha]
  rw[eT] at st I2 ⊢
  exact ⟨s1.heap.objs.size,[s1.heap.objs.size],_,_,H1,rfl,I2,sU z t "str_ascii_iterator" (fun A hA it=>Walks.strAscii hA it z t) (fun A it i s Q E st h=>wpAny_pyIter_striter_ascii st h) (by decide) _,st,fin,q⟩
 ·have eT:strIterType z="str_iterator":=by unfold strIterType;rw[if_neg ha]
  rw[eT] at st I2 ⊢
  exact ⟨s1.heap.objs.size,[s1.heap.objs.size],_,_,H1,rfl,I2,sU z t "str_iterator" (fun A hA it=>Walks.strWide hA it z t) (fun A it i s Q E st h=>wpAny_pyIter_striter_wide st h) (by decide) _,st,fin,q⟩
theorem vL:∀ {xs:List V} {ys:List Value},xs.length=ys.length->(∀ (i:Nat) x y,xs[i]? = some x->ys[i]? = some y->aQ x y)->aY xs ys
 | [],[],_,_=>.nil
 | [],_::_,h,_=>by simp at h
 | _::_,[],h,_=>by simp at h
 | x::xs,y::ys,h,f=>.cons (f 0 x y rfl rfl) (vL (by simpa using h) fun i a b h1 h2=>f (i+1) a b (by simpa using h1) (by simpa using h2))
theorem vE{X:Cx}:fK X (.type "range") (fun xs H Q=>∃ n:Nat,xs=[.int n]/\n<=1000000/\∀ p,H p=none->Q (.ref p) (upd H p (.rng 0 n))):=by
 intro pins s σ H xs us Q I r h
 obtain ⟨n,rfl,hn,q⟩:=h
 obtain ⟨u,rfl,t,rfl⟩:=kG r
 refine call_range_1 ?_
 refine ⟨.ref s.heap.objs.size,_,I.laid (o:=.rng 0 n) (fun b ob q=>Heap.get?_push_of_some _ q) (Nat.le_refl _) ⟨_,_,_,Heap.get?_push_size _ rfl⟩,rfl,q _ (I.hok.fresh (Nat.le_refl _))⟩
theorem r6{X:Cx}(hc:X.calm=true):fK X (.type "list") (fun xs H Q=>∃ (p:Addr) (n:Nat),xs=[.ref p]/\H p=some (.rng 0 n)/\n<=1000000/\∀ l,H l=none->Q (.ref l) (upd H l (.lst ((List.range n).map fun i:Nat=>V.int (i:Int))))):=by
 intro pins s σ H xs us Q I r h
 obtain ⟨p,n,rfl,hp,hn,q⟩:=h
 obtain ⟨u,rfl,ru⟩:=kG r
 cases (show u=Value.ref p from ru)
 obtain ⟨t,u,v,hr⟩:=(show bN X.prog X.w H s.heap p (.rng 0 n) from I.hok p _ hp)
 refine call_list_range (a:=0) (b:=(n:Int)) (c:=1) (n:=n) (I.ok.hd hc) hr (small_one (by omega) (by omega) (by omega) (by omega)) (by rw[rangeSize_one];split<;>omega) (by omega) fun h' tk acc c kp e it=>?_
 have hv:aY ((List.range n).map fun i:Nat=>V.int (i:Int)) acc.toList:=by
  refine vL (by rw[List.length_map,List.length_range,Array.length_toList,it.1]) fun i x y h1 h2=>?_
  rw[List.getElem?_map] at h1
  cases e':(List.range n)[i]? with
  | none=>rw[e'] at h1;cases h1
  | some k=>
   rw[e'] at h1
   cases h1
   have hk:k=i:=by
    obtain ⟨hl,he⟩:=List.getElem?_eq_some_iff.mp e'
    rw[<-he];simp
   obtain ⟨t',rfl⟩:=it.2 i y (by rw[<-h2,Array.getElem?_toList])
   refine ⟨t',?_⟩
   rw[hk,show (0:Int)+(i:Int) * 1=(i:Int) by omega]
 refine ⟨.ref s.heap.objs.size,_,I.laid (t':=tk) (o:=.lst ((List.range n).map fun i:Nat=>V.int (i:Int))) kp (Nat.le_refl _) ⟨by simp;exact Nat.le_trans hn (by decide),acc.toList,c,hv,by simpa using e⟩,rfl,q _ (I.hok.fresh (Nat.le_refl _))⟩
end L2
namespace L2
open PySem PySem.Spec PyProof.Rows
structure InK(env:Env)(s₀:Shared)(m cm:Str->Option Value)(s:Shared):Prop where
 ic:InCall s₀ env.locals m s
 cell:∀ n c,env.cells.lookup n=some c->s.heap.IsCell c (cm n)
 inj:∀ n n' c,env.cells.lookup n=some c->env.cells.lookup n'=some c->n=n'
 ne:∀ n c,env.cells.lookup n=some c->c≠env.locals
 up:∀ n c,env.kindOf n=some .cell->env.cells.lookup n=some c->env.locals < c
section
variable{M:Model}{A:Around}{E:Value->Shared->Prop}{s₀ s:Shared}{m cm:Str->Option Value}{env:Env}
theorem InK.stL{n:Str}{v:Value}{Q:Unit->Shared->Prop}(x:InK env s₀ m cm s)(hk:env.scope.kind=.function)(hl:env.kindOf n=some .local)
  (h:∀ s',InK env s₀ (fun y=>if y=n then some v else m y) cm s'->Q () s'):wpAny M A (storeName env n v) Q E s:=by
 refine wpAny_storeName_local hl x.ic.ns (fun h' hn' hs'=>h _ ⟨⟨?_,hn',fun b o e=>?_,x.ic.fresh⟩,fun k c hc=>?_,x.inj,x.ne,x.up⟩) (by rw[hk];rfl)
 ·obtain ⟨h₁,tk,rfl⟩:=x.ic.same
  exact ⟨h',_,rfl⟩
 ·exact hs'.extBut b o (Nat.ne_of_lt (Nat.lt_of_lt_of_le (Heap.lt_size e) x.ic.fresh)) (x.ic.keep b o e)
 ·exact (x.cell k c hc).sameBut hs' (x.ne k c hc)
theorem InK.stC{n:Str}{c:Addr}{v:Value}{Q:Unit->Shared->Prop}(x:InK env s₀ m cm s)(hk:env.scope.kind=.function)(hl:env.kindOf n=some .cell)
  (hc:env.cells.lookup n=some c)
  (h:∀ s',InK env s₀ m (fun y=>if y=n then some v else cm y) s'->Q () s'):wpAny M A (storeName env n v) Q E s:=by
 have hLc:=x.up n c hl hc
 refine wpAny_storeName_cell hk hl hc (x.cell n c hc) fun h' hc' hs'=>h _ ⟨⟨?_,x.ic.ns.sameBut hs' (Nat.ne_of_lt hLc),fun b o e=>?_,x.ic.fresh⟩,fun k c' hk'=>?_,x.inj,x.ne,x.up⟩
 ·obtain ⟨h₁,tk,rfl⟩:=x.ic.same
  exact ⟨h',_,rfl⟩
 ·exact hs'.extBut b o (Nat.ne_of_lt (Nat.lt_trans (Nat.lt_of_lt_of_le (Heap.lt_size e) x.ic.fresh) hLc)) (x.ic.keep b o e)
 ·by_cases hkn:k=n
  ·subst hkn
   rw[hc] at hk';cases hk'
   simpa using hc'
  ·rw[if_neg hkn]
   exact (x.cell k c' hk').sameBut hs' fun e=>hkn (x.inj k n c' hk' (e▸hc))
theorem InK.binds(f:Str×Value->PUnit->Sem (ForInStep PUnit))(hf:∀ n v u,f (n,v) u=(do storeName env n v;pure (.yield ⟨⟩)))(hk:env.scope.kind=.function) :
  ∀ (binds:List (Str×Value)) (m cm:Str->Option Value) (s:Shared) (Q:PUnit->Shared->Prop),InK env s₀ m cm s->
   (∀ x∈binds,env.kindOf x.1=some .local\/(env.kindOf x.1=some .cell/\(env.cells.lookup x.1).isSome=true))->
   (∀ s',InK env s₀ (bindL env.kindOf binds m) (bindC env.kindOf binds cm) s'->Q ⟨⟩ s')->wpAny M A (forIn binds ⟨⟩ f) Q E s
 | [],m,cm,s,Q,x,_,h=>by rw[List.forIn_nil];exact wpAny_pure (h s x)
 | (n,v)::r,m,cm,s,Q,x,hkind,h=>by
  rw[List.forIn_cons,hf]
  have hr:∀ y∈r,env.kindOf y.1=some .local\/(env.kindOf y.1=some .cell/\(env.cells.lookup y.1).isSome=true):=fun y hy=>hkind y (List.mem_cons_of_mem _ hy)
  rcases hkind (n,v) List.mem_cons_self with hl|⟨hl,hc⟩
  ·refine wpAny_bind (wpAny_bind (x.stL hk hl fun s' x'=>wpAny_pure (InK.binds f hf hk r _ _ s' Q x' hr fun s'' x''=>h s'' ?_)))
   unfold bindL bindC;rw[if_pos hl,if_pos hl];exact x''
  ·obtain ⟨c,hc⟩:=Option.isSome_iff_exists.mp hc
   have hnl:¬ env.kindOf n=some .local:=by rw[hl];decide
   refine wpAny_bind (wpAny_bind (x.stC hk hl hc fun s' x'=>wpAny_pure (InK.binds f hf hk r _ _ s' Q x' hr fun s'' x''=>h s'' ?_)))
   unfold bindL bindC;rw[if_neg hnl,if_neg hnl];exact x''
end
theorem gU:∀ (names:List (Str×NameKind)) (n:Nat) (acc:List (Str×Addr)),cellsFrom n names acc=cellsFrom n names []++acc
 | [],_,_=>rfl
 | (x,k)::r,n,acc=>by
  unfold cellsFrom
  split
  · rw [gU r (n + 1) ((x, n) :: acc), gU r (n + 1) [(x, n)], List.append_assoc]; rfl
  · exact gU r n acc
theorem kH:∀ (names:List (Str×NameKind)) (n:Nat) {x:Str} {c:Addr},(x,c)∈cellsFrom n names []->(x,NameKind.cell)∈names
 | [],_,_,_,h=>by simp[cellsFrom] at h
 | (y,k)::r,n,x,c,h=>by
  unfold cellsFrom at h
  split at h
  ·rename_i hk
   rw[gU] at h
   rcases List.mem_append.mp h with h|h
   ·exact List.mem_cons_of_mem _ (kH r _ h)
   ·have:(x,c)=(y,n):=by simpa using h
    cases this
    rw[eq_of_beq hk];exact List.mem_cons_self
  ·exact List.mem_cons_of_mem _ (kH r _ h)
theorem lU{α:Type}{x:Str}:∀ {l l':List (Str×α)},(l++l').lookup x=(l.lookup x).or (l'.lookup x)
 | [],l'=>by simp
 | (y,v)::r,l'=>by
  rw[List.cons_append,List.lookup_cons,List.lookup_cons]
  cases x == y with
  | true=>rfl
  | false=>exact lU
theorem zT{α:Type}{x:Str}{l:List (Str×α)}(h:∀ v,(x,v)∉l):l.lookup x=none:=by
 cases e:l.lookup x with
 | none=>rfl
 | some v=>exact absurd (PySem.mem_of_lookup e) (h v)
noncomputable def cF(qual:Str)(scope:Scope)(L f:Addr)(cd:Value)(cl:List (Str×Addr)):Env:=newEnv scope L mainGlobals (cellsFrom (L+1) scope.names cl) (qual++".<locals>.") (some f) cd none builtinsNs
structure ClAt(h:Heap)(scope:Scope)(cl:List (Str×Addr))(cm:Str->Option Value):Prop where
 cell:∀ n c,cl.lookup n=some c->h.IsCell c (cm n)
 inj:∀ n n' c,cl.lookup n=some c->cl.lookup n'=some c->n=n'
 off:∀ y∈scope.names,y.2=.cell->cl.lookup y.1=none
section
variable{M:Model}{A:Around}{E:Value->Shared->Prop}{s:Shared}
theorem aES{scope:Scope}{binds:List (Str×Value)}{qual:Str}{f:Addr}{cd:Value}{cl:List (Str×Addr)}{cm:Str->Option Value}{Q:Env->Shared->Prop}
  (hk:scope.kind=.function) (C:ClAt s.heap scope cl cm)
  (hkind:∀ x∈binds,scope.names.lookup x.1=some .local\/scope.names.lookup x.1=some .cell)
  (hQ:∀ s',InK (cF qual scope s.heap.objs.size f cd cl) s (bindL (cF qual scope s.heap.objs.size f cd cl).kindOf binds fun _=>none) (bindC (cF qual scope s.heap.objs.size f cd cl).kindOf binds fun n=>if (cl.lookup n).isSome then cm n else none) s'->Q (cF qual scope s.heap.objs.size f cd cl) s') :
  wpAny M A (newFunctionEnv scope mainGlobals cl binds (qual++".<locals>.") (some f) cd none builtinsNs) Q E s:=by
 simp only[newFunctionEnv,Option.isSome_none,Bool.false_eq_true,if_false]
 refine wpAny_bind (wpAny_alloc ?_)
 refine wpAny_bind (wpAny_layCells _ (fun name kind cells=>by cases hkc:kind == NameKind.cell<;>simp[hkc]) _ _ _ _ ?_)
 have ok:=cellsFrom_ok scope.names (s.heap.push {cls:=.type "frame",data:=.dict #[]}) (s.heap.objs.size+1) [] ⟨fun _ _ hm=>(nomatch hm),List.Pairwise.nil⟩ (by rw[Heap.size_push];exact Nat.le_refl _)
 rw[Heap.size_push] at ok
 rw[show ({s with heap:=s.heap.push {cls:=.type "frame",data:=.dict #[]}}:Shared).heap.objs.size=s.heap.objs.size+1 from Heap.size_push ..]
 have keep:∀ b o,s.heap.get? b=some o->(pushCells (s.heap.push {cls:=.type "frame",data:=.dict #[]}) scope.names).get? b=some o:=fun b o e=>pushCells_keeps _ _ b o (Heap.get?_push_of_some _ e)
 have hcells:(cF qual scope s.heap.objs.size f cd cl).cells=cellsFrom (s.heap.objs.size+1) scope.names []++cl:=gU _ _ _
 have two:∀ n c,(cF qual scope s.heap.objs.size f cd cl).cells.lookup n=some c->((cellsFrom (s.heap.objs.size+1) scope.names []).lookup n=some c/\cl.lookup n=none)\/((cellsFrom (s.heap.objs.size+1) scope.names []).lookup n=none/\cl.lookup n=some c):=fun n c e=>by
  rw[hcells,lU] at e
  cases q:(cellsFrom (s.heap.objs.size+1) scope.names []).lookup n with
  | none=>rw[q] at e;exact .inr ⟨rfl,by simpa using e⟩
  | some d=>
   rw[q] at e
   have e':some d=some c:=by simpa using e
   cases e'
   exact .inl ⟨rfl,C.off (n,.cell) (kH _ _ (PySem.mem_of_lookup q)) rfl⟩
 have big:∀ n c,(cellsFrom (s.heap.objs.size+1) scope.names []).lookup n=some c->s.heap.objs.size < c:=fun n c e=>(ok.empty n c (PySem.mem_of_lookup e)).2
 have small:∀ n c,cl.lookup n=some c->c < s.heap.objs.size:=fun n c e=>(C.cell n c e).lt
 refine wpAny_bind (InK.binds (s₀:=s) (env:=cF qual scope s.heap.objs.size f cd cl)
  _ (fun _ _ _=>rfl) hk binds (fun _=>none) (fun n=>if (cl.lookup n).isSome then cm n else none) _ _
  ⟨⟨⟨_,_,rfl⟩,(Heap.Ns.new s.heap (.type "frame")).keeps (pushCells_keeps _ _),keep,Nat.le_refl _⟩,fun n c e=>?_,fun n n' c e e'=>?_,fun n c e=>?_,fun n c hc e=>?_⟩
  (fun x hx=>?_) fun s' x=>wpAny_pure (hQ s' x))
 ·rcases two n c e with ⟨q,q'⟩|⟨q,q'⟩
  ·rw[q'];exact (ok.empty n c (PySem.mem_of_lookup q)).1
  ·rw[q'];exact (C.cell n c q').keeps keep
 ·rcases two n c e with ⟨q,q'⟩|⟨q,q'⟩<;>rcases two n' c e' with ⟨r,r'⟩|⟨r,r'⟩
  ·exact name_of_addr ok.apart (PySem.mem_of_lookup q) (PySem.mem_of_lookup r)
  ·exact absurd (big _ _ q) (Nat.not_lt.mpr (Nat.le_of_lt (small _ _ r')))
  ·exact absurd (big _ _ r) (Nat.not_lt.mpr (Nat.le_of_lt (small _ _ q')))
  ·exact C.inj n n' c q' r'
 ·show c≠s.heap.objs.size
  rcases two n c e with ⟨q,q'⟩|⟨q,q'⟩
  ·exact Nat.ne_of_gt (big _ _ q)
  ·exact Nat.ne_of_lt (small _ _ q')
 ·show s.heap.objs.size < c
  rcases two n c e with ⟨q,q'⟩|⟨q,q'⟩
  ·exact big _ _ q
  ·rw[C.off (n,.cell) (PySem.mem_of_lookup hc) rfl] at q';cases q'
 ·rcases hkind x hx with q|q
  ·exact .inl q
  ·refine .inr ⟨q,?_⟩
   obtain ⟨c,e⟩:=jU (n:=s.heap.objs.size+1) q
   rw[hcells,lU,e];rfl
end
end L2
namespace L2
open PySem PySem.Spec PyProof.Rows
noncomputable def hid(cs:List Addr)(H:Hp):Hp:=fun b=>if b∈cs then none else H b
noncomputable def shw(cs:List Addr)(H H':Hp):Hp:=fun b=>if b∈cs then H b else H' b
theorem lB{cs:List Addr}{H:Hp}{b:Addr}(h:b∈cs):hid cs H b=none:=if_pos h
theorem bH{cs:List Addr}{H:Hp}{b:Addr}(h:b∉cs):hid cs H b=H b:=if_neg h
theorem mY{cs:List Addr}{H H':Hp}{b:Addr}(h:b∈cs):shw cs H H' b=H b:=if_pos h
theorem dJ{cs:List Addr}{H H':Hp}{b:Addr}(h:b∉cs):shw cs H H' b=H' b:=if_neg h
theorem fU{cs:List Addr}{H:Hp}{b:Addr}(h:H b=none):hid cs H b=none:=by
 by_cases q:b∈cs
 · exact lB q
 · rw [bH q]; exact h
theorem lV{cs:List Addr}{H:Hp}{b:Addr}{o:HO}(h:hid cs H b=some o):H b=some o/\b∉cs:=by
 by_cases q:b∈cs
 · rw [lB q] at h; cases h
 · rw [bH q] at h; exact ⟨h, q⟩
def FnO(f:Addr)(o:Obj):HO:=.ext fun h=>h.get? f=some o
def dL(c:Addr)(o:Obj)(v:V):HO:=.frz o (.ext fun h=>∃ u,aQ v u/\h.IsCell c (some u))
section
variable{P:Program}{w:World}{H:Hp}{h:Heap}
theorem FnO.get{f:Addr}{o:Obj}(x:HOk P w H h)(e:H f=some (FnO f o)):h.get? f=some o:=(x f _ e).1
theorem dL.get{c:Addr}{o:Obj}{v:V}(x:HOk P w H h)(e:H c=some (dL c o v)):h.get? c=some o/\∃ u,aQ v u/\h.IsCell c (some u):=⟨(x c _ e).1,(x c _ e).2.1⟩
theorem FnO.ok{f:Addr}{o:Obj}(e:h.get? f=some o):bN P w H h f (FnO f o):=⟨e,⟨o,e⟩,fun h1 h2 q k=>k o q⟩
theorem dL.ok{c:Addr}{o:Obj}{v:V}{u:Value}(r:aQ v u)(e:h.get? c=some o)(hd:o.data=.cell (some u)):bN P w H h c (dL c o v):=
 ⟨e,⟨u,r,o,e,hd⟩,⟨o,e⟩,fun h1 h2 ⟨u,r,o,ho,hd⟩ k=>⟨u,r,o,k o ho,hd⟩⟩
end
def Celd(cs:List Addr)(H:Hp):Prop:=∀ c∈cs,∃ o v,H c=some (dL c o v)
theorem Celd.out{cs:List Addr}{H:Hp}(h:Celd cs H){b:Addr}{o:HO}(e:H b=some o)(n:∀ o' v,o≠dL b o' v):b∉cs:=fun z=>by
 obtain ⟨o',v,q⟩:=h b z
 rw[q] at e;cases e
 exact n o' v rfl
theorem HOk.hid{P:Program}{w:World}{H:Hp}{h:Heap}{cs:List Addr}(x:HOk P w H h)(hc:Celd cs H):HOk P w (hid cs H) h:=fun b u e=>by
 obtain ⟨e1,_⟩:=lV e
 exact (x b u e1).stay (fun _ _ _ q=>q) (fun c q=>by rw[bH (hc.out q fun _ v z=>nomatch z)];exact q) (fun c _ q=>by rw[bH (hc.out q fun _ v z=>nomatch z)];exact q) fun c _ q=>by rw[bH (hc.out q fun _ v z=>nomatch z)];exact q
structure CloScope(N ps fr:List Str)(sc:Scope):Prop where
 kind:sc.kind=.function
 co:sc.isCoroutine=false
 gen:sc.isGenerator=false
 nd:N.Nodup
 pre:N.take (ps++fr).length=ps++fr
 par:∀ x∈ps,sc.names.lookup x=some .local\/sc.names.lookup x=some .cell
 cap:∀ x∈fr,sc.names.lookup x=some .free
 only:∀ y∈sc.names,y.2=.free->y.1∈fr
 off:∀ y∈sc.names,y.2=.cell->y.1∉fr
structure CapAt(H:Hp)(fr:List Str)(cl:List (Str×Addr))(vs:List V):Prop where
 len:vs.length=fr.length
 only:∀ n c,cl.lookup n=some c->n∈fr
 inj:∀ n n' c,cl.lookup n=some c->cl.lookup n'=some c->n=n'
 at':∀ (i:Nat) x v,fr[i]? = some x->vs[i]? = some v->∃ c o,cl.lookup x=some c/\H c=some (dL c o v)
theorem CapAt.get{H:Hp}{fr:List Str}{cl:List (Str×Addr)}{vs:List V}(a:CapAt H fr cl vs){n:Str}{c:Addr}(e:cl.lookup n=some c):∃ o v,H c=some (dL c o v):=by
 obtain ⟨i,hi,hx⟩:=List.mem_iff_getElem.mp (a.only n c e)
 obtain ⟨c',o,e',q⟩:=a.at' i n (vs[i]'(by rw[a.len];exact hi)) (by rw[List.getElem?_eq_getElem hi,hx]) (List.getElem?_eq_getElem _)
 rw[e] at e';cases e'
 exact ⟨_,_,q⟩
noncomputable def aX(fr:List Str)(cl:List (Str×Addr)):List Addr:=fr.filterMap fun x=>cl.lookup x
theorem CapAt.celd{H:Hp}{fr:List Str}{cl:List (Str×Addr)}{vs:List V}(a:CapAt H fr cl vs):Celd (aX fr cl) H:=fun c hc=>by
 obtain ⟨x,_,e⟩:=List.mem_filterMap.mp hc
 exact a.get e
theorem CapAt.same{H H':Hp}{fr:List Str}{cl:List (Str×Addr)}{vs:List V}(a:CapAt H fr cl vs)(s:aG H H'):CapAt H' fr cl vs:=⟨a.len,a.only,a.inj,fun i x v h1 h2=>let ⟨c,o,e,q⟩:=a.at' i x v h1 h2;⟨c,o,e,s _ _ q⟩⟩
noncomputable def iP(CX:CXT)(P:Program)(w:World)(K:Frag)(mg:Str->Option Value)(base:Heap)(N fr:List Str)(qual:Str)(scope:Scope)(f:Addr)(cd:Value)(cl:List (Str×Addr))(A:Around)(outer:List Env)(s:Shared)(H:Hp)(E:XK):Cx where
 prog:=P
 w:=w
 K:=K
 mg:=mg
 base:=base
 A:=A.deeper (cF qual scope s.heap.objs.size f cd cl)
 N:=N
 s₀:=s
 H₀:=hid (aX fr cl) H
 env:=cF qual scope s.heap.objs.size f cd cl
 outer:=outer
 stack:=cF qual scope s.heap.objs.size f cd cl::outer
 ex:=[]
 calm:=true
 fn:=fun x=>(cl.lookup x).isNone
 pn:=[]
 xe:=fun e s'=>wpAny (model P w) (A.deeper (cF qual scope s.heap.objs.size f cd cl)) (leaving (cF qual scope s.heap.objs.size f cd cl) e) (fun _ s''=>CX outer H s E e s'') (fun e' s''=>CX outer H s E e' s'') s'
section
variable{CX:CXT}{P:Program}{w:World}{K:Frag}{mg:Str->Option Value}{base:Heap}{N ps fr:List Str}{qual:Str}{scope:Scope}{f:Addr}{cd:Value}{cl:List (Str×Addr)}{A:Around}{outer:List Env}{s s1:Shared}{H:Hp}{E:XK}{us:List Value}{vs cvs:List V}
theorem aET{h:Heap}(hok:HOk P w H h)(C:CapAt H fr cl cvs):∃ cm:Str->Option Value,(∀ n c,cl.lookup n=some c->∃ v u,(∃ o,H c=some (dL c o v))/\aQ v u/\cm n=some u/\h.IsCell c (some u)):=by
 have key:∀ n,∃ x:Option Value,∀ c,cl.lookup n=some c->∃ v u,(∃ o,H c=some (dL c o v))/\aQ v u/\x=some u/\h.IsCell c (some u):=fun n=>by
  cases e:cl.lookup n with
  | none=>exact ⟨none,fun c z=>nomatch z⟩
  | some c=>
   obtain ⟨o,v,q⟩:=C.get e
   obtain ⟨_,u,r,z⟩:=dL.get hok q
   exact ⟨some u,fun c' e'=>by cases e';exact ⟨v,u,⟨o,q⟩,r,rfl,z⟩⟩
 exact ⟨fun n=>(key n).choose,fun n c e=>(key n).choose_spec c e⟩
theorem lW{n:Str}{L:Nat}:(cF qual scope L f cd cl).cells.lookup n=((cellsFrom (L+1) scope.names []).lookup n).or (cl.lookup n):=by
 rw[show (cF qual scope L f cd cl).cells=cellsFrom (L+1) scope.names []++cl from gU _ _ _,lU]
theorem nR{n:Str}{c:Addr}{L:Nat}(S:CloScope N ps fr scope)(C:CapAt H fr cl cvs)(e:cl.lookup n=some c):(cF qual scope L f cd cl).cells.lookup n=some c:=by
 rw[lW,zT fun v hv=>S.off (n,.cell) (kH _ _ hv) rfl (C.only n c e)]
 simpa using e
theorem xS{cm:Str->Option Value}(S:CloScope N ps fr scope)(C:CapAt H fr cl cvs)(hd:A.handled=none)(e0:Env0 P w K mg base A outer s H)(hl:vs.length=ps.length)(r:aY vs us)
  (hcm:∀ n c,cl.lookup n=some c->∃ v u,(∃ o,H c=some (dL c o v))/\aQ v u/\cm n=some u/\s.heap.IsCell c (some u))
  (x:InK (cF qual scope s.heap.objs.size f cd cl) s (bindL (cF qual scope s.heap.objs.size f cd cl).kindOf (ps.zip us) fun _=>none) (bindC (cF qual scope s.heap.objs.size f cd cl).kindOf (ps.zip us) fun n=>if (cl.lookup n).isSome then cm n else none) s1) :
  Inv (iP CX P w K mg base N fr qual scope f cd cl A outer s H E) [] (eI N (vs++cvs)) (hid (aX fr cl) H) s1:=by
 have hpl:(ps++fr).length<=N.length:=by have:=congrArg List.length S.pre;rw[List.length_take] at this;omega
 have hvl:(vs++cvs).length=(ps++fr).length:=by rw[List.length_append,List.length_append,hl,C.len]
 obtain ⟨h1,tk,rfl,hk⟩:=x.ic.done
 have noA:∀ b:Addr,b∉(iP CX P w K mg base N fr qual scope f cd cl A outer s H E).ex:=fun b z=>absurd (show b∈([]:List Addr) from z) (by simp)
 have cab:∀ y c,cl.lookup y=none->(cF qual scope s.heap.objs.size f cd cl).cells.lookup y=some c->s.heap.objs.size < c:=fun y c n e=>by
  rw[lW,n] at e
  have e':(cellsFrom (s.heap.objs.size+1) scope.names []).lookup y=some c:=by simpa using e
  have ok:=cellsFrom_ok scope.names (s.heap.push {cls:=.type "frame",data:=.dict #[]}) (s.heap.objs.size+1) [] ⟨fun _ _ hm=>(nomatch hm),List.Pairwise.nil⟩ (by rw[Heap.size_push];exact Nat.le_refl _)
  rw[Heap.size_push] at ok
  exact (ok.empty y c (PySem.mem_of_lookup e')).2
 refine ⟨⟨e0.mod,S.kind,rfl,rfl,Nat.le_refl _,fun y z c h1 h2=>x.inj y z c h1 h2,fun y hy=>?_,fun y c hf h=>?_,fun _=>hd,Around.frames_deeper e0.frames,.inr ⟨rfl,rfl⟩,fun b z=>absurd z (noA b),fun b o e=>⟨(e0.bs b o e).1,fU (e0.bs b o e).2⟩,e0.bsz,fun b _ _=>noA b,fun b z=>absurd z (noA b),e0.funs,fun b hb=>fU (e0.frf b hb)⟩,
  rfl,e0.bare,Un.kept hk,⟨_,x.ic.ns,fun i y v h1 h2 h3=>?_⟩,fun y c h=>⟨_,x.cell y c h⟩,fU (e0.hok.fresh (Nat.le_refl _)),fun y c h=>?_,fun p hp=>absurd (show p∈([]:List (Addr×Obj)) from hp) (by simp),(e0.hok.hid C.celd).kept hk,?_⟩
 ·have hy:scope.names.lookup y=some .cell\/scope.names.lookup y=some .free:=hy
  rcases hy with hy|hy
  ·obtain ⟨c,e⟩:=jU (n:=s.heap.objs.size+1) hy
   exact ⟨c,by show (cF qual scope s.heap.objs.size f cd cl).cells.lookup y=_;rw[lW,e];rfl⟩
  ·obtain ⟨i,hi,hx⟩:=List.mem_iff_getElem.mp (S.only _ (PySem.mem_of_lookup hy) rfl)
   obtain ⟨c,_,e,_⟩:=C.at' i y (cvs[i]'(by rw[C.len];exact hi)) (by rw[List.getElem?_eq_getElem hi,hx]) (List.getElem?_eq_getElem _)
   exact ⟨c,nR S C e⟩
 ·have hf:(cl.lookup y).isNone=true:=hf
  exact Nat.le_of_lt (cab y c (Option.isNone_iff_eq_none.mp hf) h)
 ·have hi:i < (vs++cvs).length:=by
   unfold eI at h2
   by_cases hi:i < (vs++cvs).length
   ·exact hi
   ·rw[List.getElem?_append_right (by simpa using hi)] at h2
    rw[List.getElem?_replicate] at h2
    split at h2<;>cases h2
  have ha:(vs++cvs)[i]? = some v:=by
   unfold eI at h2
   rw[List.getElem?_append_left (by simpa using hi),List.getElem?_map] at h2
   cases e:(vs++cvs)[i]? with
   | none=>rw[e] at h2;cases h2
   | some a=>rw[e] at h2;cases h2;rfl
  have hp:(ps++fr)[i]? = some y:=by
   rw[<-S.pre,List.getElem?_take_of_lt (by omega)];exact h1
  have ndA:(ps++fr).Nodup:=by rw[<-S.pre];exact S.nd.sublist (List.take_sublist _ _)
  have ndP:ps.Nodup:=(List.nodup_append.mp ndA).1
  by_cases hip:i < ps.length
  ·rw[List.getElem?_append_left (by omega)] at ha
   rw[List.getElem?_append_left hip] at hp
   obtain ⟨u,hu,rv⟩:=r.get ha
   refine ⟨u,rv,?_⟩
   rcases S.par y (List.mem_of_getElem? hp) with k|k
   ·exact .inl ⟨k,mV ndP hp hu k⟩
   ·obtain ⟨c,e⟩:=jU (n:=s.heap.objs.size+1) k
    have e':(cF qual scope s.heap.objs.size f cd cl).cells.lookup y=some c:=by rw[lW,e];rfl
    refine .inr ⟨.inl k,c,e',?_⟩
    have q:=x.cell y c e'
    rw[mW ndP hp hu (by show scope.names.lookup y≠_;rw[k];decide)] at q
    exact q
  ·rw[List.getElem?_append_right (by omega)] at ha
   rw[List.getElem?_append_right (by omega)] at hp
   rw[hl] at ha
   obtain ⟨c,o,e,q⟩:=C.at' _ y v hp ha
   obtain ⟨_,u2,r2,z2⟩:=dL.get e0.hok q
   have e':=nR (qual:=qual) (f:=f) (cd:=cd) (L:=s.heap.objs.size) S C e
   have hfree:scope.names.lookup y=some .free:=S.cap y (List.mem_of_getElem? hp)
   refine ⟨u2,r2,.inr ⟨.inr hfree,c,e',?_⟩⟩
   exact z2.keeps hk
 ·cases e:cl.lookup y with
  | none=>exact fU (e0.hok.fresh (Nat.le_of_lt (cab y c e h)))
  | some c'=>
   have h':=nR (qual:=qual) (f:=f) (cd:=cd) (L:=s.heap.objs.size) S C e
   have h:(cF qual scope s.heap.objs.size f cd cl).cells.lookup y=some c:=h
   rw[h] at h';cases h'
   exact lB (List.mem_filterMap.mpr ⟨y,C.only y c e,e⟩)
 ·unfold eI
  show _=N.length
  rw[List.length_append,List.length_map,List.length_replicate]
  omega
theorem sV{pins:List (Addr×Obj)}{σ:St}{H':Hp}{s':Shared}(S:CloScope N ps fr scope)(C:CapAt H fr cl cvs)(e0:Env0 P w K mg base A outer s H)(J:Inv (iP CX P w K mg base N fr qual scope f cd cl A outer s H E) pins σ H' s') :
  (∀ c∈aX fr cl,H' c=none)/\Un (frs outer) [] H (shw (aX fr cl) H H') s.heap s'.heap/\HOk P w (shw (aX fr cl) H H') s'.heap:=by
 have un:Un (frs outer) [] (hid (aX fr cl) H) H' s.heap s'.heap:=J.base
 have fr':∀ c∈aX fr cl,H' c=none:=fun c hc=>by
  obtain ⟨x,_,e⟩:=List.mem_filterMap.mp hc
  exact J.freeC x c (nR S C e)
 have out:∀ b,H b=none->b∉aX fr cl:=fun b n z=>by
  obtain ⟨o,v,q⟩:=C.celd b z
  rw[n] at q;cases q
 refine ⟨fr',⟨fun b o e n h1 h2=>un.keep b o e (fU n) h1 h2,fun b o e n h1 h2=>un.slot b o e (fU n) h1 h2,fun b o e n h2=>by rw[dJ (out b n)];exact un.free b o e (fU n) h2,un.there,
  fun b xs q=>?_,fun b o u q=>?_,fun b ps q=>?_⟩,fun b u e=>?_⟩
 ·have hb:=C.celd.out q fun _ v z=>nomatch z
  rw[dJ hb];exact un.tups b xs (by rw[bH hb];exact q)
 ·by_cases hb:b∈aX fr cl
  ·rw[mY hb];exact q
  ·rw[dJ hb];exact un.frzs b o u (by rw[bH hb];exact q)
 ·have hb:=C.celd.out q fun _ v z=>nomatch z
  rw[dJ hb];exact un.tbls b ps (by rw[bH hb];exact q)
 ·by_cases hb:b∈aX fr cl
  ·rw[mY hb] at e
   obtain ⟨o,v,q⟩:=C.celd b hb
   rw[q] at e;cases e
   obtain ⟨ho,u,r,o2,ho2,hd⟩:=dL.get e0.hok q
   rw[ho] at ho2;cases ho2
   exact dL.ok r (un.keep b o ho (lB hb) (fun z=>by have:=e0.frf b z;rw[q] at this;cases this) (by simp)) hd
  ·rw[dJ hb] at e
   have ne:∀ c o,H' c=some o->c∉aX fr cl:=fun c o q z=>by rw[fr' c z] at q;cases q
   exact (J.hok b u e).stay (fun _ _ _ q=>q) (fun c q=>by rw[dJ (ne c _ q)];exact q) (fun c _ q=>by rw[dJ (ne c _ q)];exact q) fun c _ q=>by rw[dJ (ne c _ q)];exact q
end
section
variable{P:Program}{w:World}{K:Frag}{mg:Str->Option Value}{base:Heap}{N ps fr:List Str}{qual:Str}{scope:Scope}{f:Addr}{cd:Value}{cl:List (Str×Addr)}{A:Around}{outer:List Env}{s:Shared}{H:Hp}{E:XK}{cvs:List V}
theorem xT{ev:Value}{s':Shared}(S:CloScope N ps fr scope)(C:CapAt H fr cl cvs)(e0:Env0 P w K mg base A outer s H)
  (h:Fly (iP (CXe P w) P w K mg base N fr qual scope f cd cl A outer s H E) (fun c e H'=>(∀ a∈aX fr cl,H' a=none)->E c e (shw (aX fr cl) H H')) ev s'):(iP (CXe P w) P w K mg base N fr qual scope f cd cl A outer s H E).xe ev s':=by
 obtain ⟨e,C',od,σ,H',rfl,I,fl,q⟩:=h
 show wpAny (model P w) _ (leaving _ (.ref e)) _ _ s'
 unfold leaving
 have hO:sC (iP (CXe P w) P w K mg base N fr qual scope f cd cl A outer s H E):=⟨rfl,rfl⟩
 refine wpAny_bind (oF hO I fl fun s2 I2 f2=>p4 I2 f2 fun s3 I3 f3=>?_)
 obtain ⟨vs,T,a,b,c,_⟩:=f3.tb
 obtain ⟨fr',un,hok⟩:=sV S C e0 I3
 have ne:∀ c o,H' c=some o->c∉aX fr cl:=fun c o q z=>by rw[fr' c z] at q;cases q
 refine ⟨e,C',od,_,rfl,I3.os,I3.bare,un,hok,by rw[dJ (ne _ _ f3.tr)];exact f3.tr,⟨vs,T,a,b,fun t e1=>⟨?_,(c t e1).2.1⟩⟩,q fr'⟩
 rw[dJ]
 ·exact (c t e1).1
 ·intro z
  obtain ⟨o,v,q⟩:=C.celd t z
  exact absurd (Nat.lt_of_lt_of_le (e0.hok.lt q) (c t e1).2.1) (Nat.lt_irrefl _)
end
end L2
namespace L2
open PySem PySem.Spec PyProof.Rows
structure ClSt where
 name:Str
 qual:Str
 params:Arguments
 body:FuncBody
 scope:Scope
noncomputable def ClSt.fd(S:ClSt)(cl:List (Str×Addr))(doc pm:Value)(c:Addr)(ct:Value):FuncData:=
 {name:=S.name,qualname:=S.qual,params:=S.params,body:=S.body,scope:=S.scope,globals:=mainGlobals,closure:=cl,defaults:=.none,kwdefaults:=.none,doc:=doc,pyModule:=pm,annotations:=none,code:=.ref c,closureTuple:=ct,builtins:=builtinsNs}
abbrev ClSt.obj(S:ClSt)(cl:List (Str×Addr))(doc pm:Value)(c:Addr)(ct:Value):Obj:={cls:=.type "function",data:=.func (S.fd cl doc pm c ct)}
section
variable{P:Program}{w:World}{K:Frag}{mg:Str->Option Value}{base:Heap}{N ps fr:List Str}{S:ClSt}{f c:Addr}{cl:List (Str×Addr)}{A:Around}{outer:List Env}{s:Shared}{H:Hp}{E:XK}{Q:VK}{cvs vs:List V}{us:List Value}{args:Args}{doc pm ct:Value}{k:Nat}
theorem aB3(Sc:CloScope N ps fr S.scope):∀ y∈ps.zip us,S.scope.names.lookup y.1=some .local\/S.scope.names.lookup y.1=some .cell:=fun ⟨n,v⟩ hy=>Sc.par n (List.of_mem_zip hy).1
theorem aHR{h:Heap}(hok:HOk P w H h)(Sc:CloScope N ps fr S.scope)(C:CapAt H fr cl cvs){cm:Str->Option Value}(hcm:∀ n c,cl.lookup n=some c->∃ v u,(∃ o,H c=some (dL c o v))/\aQ v u/\cm n=some u/\h.IsCell c (some u)):ClAt h S.scope cl cm where
 cell:=fun n c e=>by
  obtain ⟨v,u,_,_,e1,z⟩:=hcm n c e
  rw[e1];exact z
 inj:=C.inj
 off:=fun y hy hc=>by
  cases e:cl.lookup y.1 with
  | none=>rfl
  | some c=>exact absurd (C.only _ _ e) (Sc.off y hy hc)
theorem zU{body:List Stmt}(hb:S.body=.stmts body)(hf:H f=some (FnO f (S.obj cl doc pm c ct)))(hc:H c=some (.cod S.qual))(Sc:CloScope N ps fr S.scope)(C:CapAt H fr cl cvs)(hr:Room (k+1) A)
  (e0:Env0 P w K mg base A outer s H) (hbi:BindsTo s (S.fd cl doc pm c ct) args (ps.zip us)) (r:aY vs us) (hl:vs.length=ps.length)
  (hbody:Room k (A.deeper (cF S.qual S.scope s.heap.objs.size f (.ref c) cl))->∃ t,PSs ((iP (CXe P w) P w K mg base N fr S.qual S.scope f (.ref c) cl A outer s H E).fly fun c e H'=>(∀ a∈aX fr cl,H' a=none)->E c e (shw (aX fr cl) H H')) body t /\
   t {nx:=fun _ H'=>(∀ a∈aX fr cl,H' a=none)->Q .non (shw (aX fr cl) H H'),rt:=fun v H'=>(∀ a∈aX fr cl,H' a=none)->Q v (shw (aX fr cl) H H')} (eI N (vs++cvs)) (hid (aX fr cl) H)) :
  codeAny (model P w) A (.call (.ref f) args) (CR (CXe P w) outer P w H s Q E) s:=by
 have lim:s.heap.NoLimit:=e0.mod.nolimit.keeps fun b o e=>(e0.bs b o e).1
 obtain ⟨cm,hcm⟩:=aET e0.hok C
 have hcr:s.heap.CodeRec (.ref c) S.qual:=e0.hok c _ hc
 refine codeAny_call_function hr.depth (FnO.get e0.hok hf) rfl Sc.co Sc.gen hb hcr (hbi _ _ _ _ ?_)
 refine aES (cm:=cm) Sc.kind (aHR e0.hok Sc C hcm) (aB3 Sc) fun s1 x=>?_
 refine ⟨lim.keeps x.ic.keep,codeAny_func ?_⟩
 obtain ⟨t,ht,hq⟩:=hbody (hr.deeper _)
 have I:Inv (iP (CXe P w) P w K mg base N fr S.qual S.scope f (.ref c) cl A outer s H E) [] (eI N (vs++cvs)) (hid (aX fr cl) H) s1:=xS Sc C hr.hd e0 hl r hcm x
 have ht':=ht.unfly fun _ _ z=>xT Sc C e0 z
 refine wpAny_mono (ht' [] s1 _ _ _ I hq) (fun fl s' hs=>?_) fun e s' hs=>hs
 have fin:∀ {σ':St} {H':Hp} {v:V} {u:Value},Inv (iP (CXe P w) P w K mg base N fr S.qual S.scope f (.ref c) cl A outer s H E) [] σ' H' s'->aQ v u->((∀ a∈aX fr cl,H' a=none)->Q v (shw (aX fr cl) H H'))->CE outer P w H s Q u s':=
  fun {σ' H' v u} J rv q=>by
   obtain ⟨hn,un,hok⟩:=sV Sc C e0 J
   exact ⟨v,_,J.os,J.bare,un,hok,rv,q hn⟩
 cases fl with
 | ret u=>
  obtain ⟨v,σ',H',J,rv,q⟩:=hs
  exact fin J rv q
 | next=>
  obtain ⟨σ',H',J,q⟩:=hs
  exact fin (v:=V.non) (u:=Value.none) J rfl q
 | brk=>
  obtain ⟨_,_,_,q⟩:=hs
  exact False.elim q
 | cont=>
  obtain ⟨_,_,_,q⟩:=hs
  exact False.elim q
end
end L2
namespace L2
open PySem PySem.Spec PyProof.Rows
theorem xU{env:Env}:∀ (names:List (Str×NameKind)) (acc:List (Str×Addr)),(∀ x∈names,x.2=.free->∃ c,env.cells.lookup x.1=some c)->
  (∀ x c,acc.lookup x=some c->env.cells.lookup x=some c)->
  ∃ cl,(forIn names acc fun x r=>(if (x.2 == NameKind.free)=true then (do let a <-cellOf env x.1;pure (ForInStep.yield ((x.1,a)::r))) else pure (ForInStep.yield r)):Sem (List (Str×Addr)))=pure cl /\
   (∀ x c,cl.lookup x=some c->env.cells.lookup x=some c)/\(∀ x∈names,x.2=.free->∃ c,cl.lookup x.1=some c)/\(∀ x c,acc.lookup x=some c->∃ c',cl.lookup x=some c') /\
   (∀ x c,cl.lookup x=some c->(∃ c',acc.lookup x=some c')\/(x,NameKind.free)∈names):=by
 intro names
 induction names with
 | nil=>intro acc _ h;exact ⟨acc,rfl,h,fun x hx=>absurd hx (by simp),fun x c e=>⟨c,e⟩,fun x c e=>.inl ⟨c,e⟩⟩
 | cons x r ih=>
  intro acc hf h
  obtain ⟨n,k⟩:=x
  by_cases hk:k=.free
  ·subst hk
   obtain ⟨c,hc⟩:=hf (n,.free) List.mem_cons_self rfl
   have hc:env.cells.lookup n=some c:=hc
   obtain ⟨cl,e1,e2,e3,e4,e5⟩:=ih ((n,c)::acc) (fun y hy=>hf y (List.mem_cons_of_mem _ hy)) (fun y d e=>by
    rw[List.lookup_cons] at e
    cases q:y == n with
    | true=>rw[q] at e;cases e;have:=eq_of_beq q;subst this;exact hc
    | false=>rw[q] at e;exact h y d e)
   refine ⟨cl,?_,e2,fun y hy hyf=>?_,fun y d e=>?_,fun y d e=>?_⟩
   ·rw[List.forIn_cons]
    simp only[beq_self_eq_true,if_true]
    unfold cellOf
    simp only[hc,pure_bind]
    exact e1
   ·rcases List.mem_cons.mp hy with z|z
    ·subst z
     exact e4 n c (by rw[List.lookup_cons];simp)
    ·exact e3 y z hyf
   ·by_cases q:y=n
    ·subst q;exact e4 y c (by rw[List.lookup_cons];simp)
    ·exact e4 y d (by rw[List.lookup_cons,beq_false_of_ne q];exact e)
   ·rcases e5 y d e with ⟨c',z⟩|z
    ·by_cases q:y=n
     ·subst q;exact .inr List.mem_cons_self
     ·rw[List.lookup_cons,beq_false_of_ne q] at z
      exact .inl ⟨c',z⟩
    ·exact .inr (List.mem_cons_of_mem _ z)
  ·obtain ⟨cl,e1,e2,e3,e4,e5⟩:=ih acc (fun y hy=>hf y (List.mem_cons_of_mem _ hy)) h
   refine ⟨cl,?_,e2,fun y hy hyf=>?_,e4,fun y d e=>(e5 y d e).imp id fun z=>List.mem_cons_of_mem _ z⟩
   ·rw[List.forIn_cons]
    have:(k == NameKind.free)=false:=by simpa using hk
    simp only[this,Bool.false_eq_true,if_false,pure_bind]
    exact e1
   ·rcases List.mem_cons.mp hy with z|z
    ·subst z;exact absurd hyf hk
    ·exact e3 y z hyf
structure ClOf(cells:List (Str×Addr))(sc:Scope)(cl:List (Str×Addr)):Prop where
 of:∀ x c,cl.lookup x=some c->cells.lookup x=some c
 all:∀ x∈sc.names,x.2=.free->∃ c,cl.lookup x.1=some c
 only:∀ x c,cl.lookup x=some c->(x,NameKind.free)∈sc.names
theorem sW{env:Env}{scope:Scope}(hf:∀ x∈scope.names,x.2=.free->∃ c,env.cells.lookup x.1=some c) :
  ∃ cl,closureFor scope env=pure cl/\ClOf env.cells scope cl:=by
 obtain ⟨cl,e1,e2,e3,_,e5⟩:=xU scope.names [] hf (fun x c e=>by simp at e)
 refine ⟨cl,?_,e2,e3,fun x c e=>?_⟩
 ·unfold closureFor
  first
   | exact e1
   | (rw[<-e1];rfl)
   | (simp only[bind_pure];exact e1)
 ·rcases e5 x c e with ⟨c',z⟩|z
  ·simp at z
  ·exact z
theorem zV{pos:Pos}{r:List Value}(l:List Value)(h:TriplesOk l):codeAmong pos (l++r)=(codeAmong pos l).or (codeAmong pos r):=by
 fun_induction TriplesOk l with
 | case1=>simp[codeAmong]
 | case2 a t b u x rest ih=>
  simp only[List.cons_append,codeAmong]
  split
  · rfl
  · exact ih h
 | case3 l h1 h2=>exact h.elim
structure Tb(mg:Str->Option Value)(base:Heap)(c0 P0:Addr):Prop where
 hd:PySem.W.CodeHd base c0 P0
 bt:∃ bm ob,mg "__builtins__"=some (.ref bm)/\bm≠builtinsNs/\base.get? bm=some ob/\ob.cls=.type "module"/\ob.dict=some builtinsNs/\ob.data=.plain
section
variable{X:Cx}{pins:List (Addr×Obj)}{σ:St}{H:Hp}{s:Shared}{c0 P0:Addr}{qs:List (Pos×Str)}{pos:Pos}{q:Str}
theorem zW{ps:Array Value}{c:Addr}{h h':Heap}(hk:HOk X.prog X.w H h)(hP:H P0=some (.tbl qs))(hps:h.get? P0=some (PySem.W.tabObj ps))(ht:TriplesOk ps.toList)(hall:∀ p∈qs,codeAmong p.1 ps.toList=none\/∃ c,codeAmong p.1 ps.toList=some (.ref c)/\H c=some (.cod p.2))
  (hu:∀ p∈qs,p.1.line=pos.line->p.1.col=pos.col->p.2=q) (hnf:codeAmong pos ps.toList=none) (hn:H c=none) (hx:Heap.ExtBut P0 h h') (hcr:h'.CodeRec (.ref c) q) (hP':h'.get? P0=some (PySem.W.tabObj (ps ++ #[rawInt pos.line,rawInt pos.col,.ref c]))) :
  HOk X.prog X.w (upd H c (.cod q)) h':=fun b u e=>by
 have hcP:P0≠c:=fun z=>by rw[<-z,hP] at hn;cases hn
 by_cases hb:b=c
 ·subst hb;rw[aU] at e;cases e;exact hcr
 ·rw[aI hb] at e
  by_cases hbP:b=P0
  ·subst hbP
   rw[hP] at e;cases e
   refine ⟨_,hP',?_,fun p hp=>?_⟩
   ·rw[Array.toList_append];exact TriplesOk_snoc _ _ _ _ ht
   ·rw[Array.toList_append,zV _ ht]
    rcases hall p hp with z|⟨d,z,zd⟩
    ·rw[z]
     show (codeAmong p.1 [rawInt pos.line,rawInt pos.col,.ref c])=none\/_
     by_cases hq:p.1.line=pos.line/\p.1.col=pos.col
     ·refine .inr ⟨c,?_,?_⟩
      ·show codeAmong p.1 [rawInt pos.line,rawInt pos.col,.ref c]=_
       rw[<-hq.1,<-hq.2]
       exact codeAmong_snoc [] trivial rfl
      ·rw[hu p hp hq.1 hq.2];exact aU
     ·refine .inl ?_
      simp only[codeAmong,rawInt]
      rw[if_neg]
      simp only[Bool.and_eq_true,beq_iff_eq]
      intro z2
      exact hq ⟨by omega,by omega⟩
    ·refine .inr ⟨d,by rw[z];rfl,?_⟩
     rw[aI (bI zd hn)];exact zd
  ·refine (hk b u e).stay (fun d v hd r=>hx d v ?_ r) (fun d r=>by rw[aI (bI r hn)];exact r) (fun d _ r=>by rw[aI (bI r hn)];exact r) fun d _ r=>by rw[aI (bI r hn)];exact r
   rcases hd with z|z
   ·rw[z];exact hbP
   ·intro z2;rw[z2,hP] at z;cases z
def Mkd(H:Hp)(q:Str)(c:Addr)(H1:Hp):Prop:=(H c=some (.cod q)/\H1=H)\/(H c=none/\H1=upd H c (.cod q))
theorem aEU {S : ClSt} {M : Model} {A : Around} {E : Value -> Shared -> Prop} {Q : Value -> Shared -> Prop} {firstLine : Nat} (I : Inv X pins σ H s) (hcode : X.env.code = .ref c0) (T : Tb X.mg X.base c0 P0) (hP : H P0 = some (.tbl qs)) (hq : (pos, S.qual) ∈ qs)
    (hu : ∀ p ∈ qs, p.1.line = pos.line -> p.1.col = pos.col -> p.2 = S.qual) (hfree : ∀ x ∈ S.scope.names, x.2 = .free -> ∃ c, X.env.cells.lookup x.1 = some c)
    (h : ∀ f c cl doc pm ct H1 s', Mkd H S.qual c H1 -> H1 f = none -> ClOf X.env.cells S.scope cl -> Inv X pins σ (upd H1 f (FnO f (S.obj cl doc pm c ct))) s' -> Q (.ref f) s') :
    wpAny M A (makeFunction S.name S.qual S.params S.body S.scope X.env [] [] [] pos firstLine) Q E s := by
  obtain ⟨cl, hcl, hco⟩ := sW hfree
  obtain ⟨ps, hps, ht, hall⟩ := (show bN X.prog X.w H s.heap P0 (.tbl qs) from I.hok P0 _ hP)
  have C : PySem.W.CodeHd s.heap c0 P0 := T.hd.keeps I.bk
  have hg : s.heap.Ns mainGlobals X.mg := I.mod.glob.keeps I.bk
  have hgP : mainGlobals ≠ P0 := fun z => by
    obtain ⟨o, es, ep, e, hd, _⟩ := hg
    rw [z, hps] at e; cases e; cases hd
  obtain ⟨bm, ob, b1, b2, b3, b4, b5, b6⟩ := T.bt
  have b3' := I.bk _ _ b3
  have hbP : bm ≠ P0 := fun z => by rw [z, hps] at b3'; cases b3'; cases b4
  have hbG : bm ≠ mainGlobals := fun z => by
    obtain ⟨o, es, ep, e, hd, _⟩ := hg
    rw [z, e] at b3'; cases b3'; rw [hd] at b6; cases b6
  have hB : s.heap.BuiltinsAt X.mg P0 := ⟨bm, ob, b1, b2, hbG, hbP, b3', b4, b5, b6⟩
  rcases hall _ hq with hnf | ⟨c, hf, hc⟩
  · have fin : ∀ (c' : Addr) (ctv doc : Value) (h' : Heap) (tk : Tok), Heap.ExtBut P0 s.heap h' -> s.heap.objs.size <= c' -> c' < h'.objs.size -> h'.CodeRec (.ref c') S.qual -> h'.get? P0 = some (PySem.W.tabObj (ps ++ #[rawInt pos.line, rawInt pos.col, .ref c'])) ->
        Q (.ref h'.objs.size) { s with heap := h'.push (S.obj cl doc ((X.mg "__name__").getD .none) c' ctv), toks := tk } := by
      intro c' ctv doc h' tk hx hge hlt hrec htb
      have hn : H c' = none := I.hok.fresh hge
      have hok1 : HOk X.prog X.w (upd H c' (.cod S.qual)) h' := zW I.hok hP hps ht hall hu hnf hn hx hrec htb
      have hnf' : (upd H c' (.cod S.qual)) h'.objs.size = none := hok1.fresh (Nat.le_refl _)
      refine h h'.objs.size c' cl doc ((X.mg "__name__").getD .none) ctv _ _ (.inr ⟨hn, rfl⟩) hnf' hco ?_
      have ne : ∀ b o, H b = some o -> b ≠ c' /\ b ≠ h'.objs.size := fun b o e => ⟨bI e hn, fun z => by
        rw [z] at e
        rw [aI (Nat.ne_of_gt hlt), e] at hnf'; cases hnf'⟩
      have nP : ∀ b, H b = none -> b ≠ P0 := fun b n z => by rw [z, hP] at n; cases n
      refine I.un ⟨fun b o e n _ _ => Heap.get?_push_of_some _ (hx b o (nP b n) e), fun b o e n _ _ => ⟨o.slots, Heap.get?_push_of_some _ (hx b o (nP b n) e)⟩, fun b o e n _ => ?_, fun b o e _ => ?_, fun b xs e => ?_, fun b o u e => ?_, fun b qs e => ?_⟩ ?_
      · have hb := Heap.lt_size e
        rw [aI (Nat.ne_of_lt (Nat.lt_of_lt_of_le hb (Nat.le_trans hge (Nat.le_of_lt hlt)))), aI (Nat.ne_of_lt (Nat.lt_of_lt_of_le hb hge))]; exact n
      · by_cases z : b = P0
        · subst z; exact ⟨_, Heap.get?_push_of_some _ htb⟩
        · exact ⟨o, Heap.get?_push_of_some _ (hx b o z e)⟩
      · rw [aI (ne b _ e).2, aI (ne b _ e).1]; exact e
      · rw [aI (ne b _ e).2, aI (ne b _ e).1]; exact e
      · rw [aI (ne b _ e).2, aI (ne b _ e).1]; exact e
      · exact hok1.laid (fun b u e => Heap.get?_push_of_some _ e) (Nat.le_refl _) (FnO.ok (Heap.get?_push_size _ rfl))
    obtain ⟨name, qual, params, body, scope⟩ := S
    cases body with
    | stmts body => exact PySem.W.makeFunction_K hcl I.ok.glob hg hcode C hps ht hnf hgP hB fin
    | expr body => exact PySem.W.kla_makeFunction hcl I.ok.glob hg hcode C hps ht hnf hgP hB fun c' ctv h' tk => fin c' ctv .none h' tk
  · have fin : ∀ (ctv doc : Value) (h' : Heap) (tk : Tok), (∀ b o, s.heap.get? b = some o -> h'.get? b = some o) -> s.heap.objs.size <= h'.objs.size ->
        Q (.ref h'.objs.size) { s with heap := h'.push (S.obj cl doc ((X.mg "__name__").getD .none) c ctv), toks := tk } := by
      intro ctv doc h' tk hk hsz
      refine h h'.objs.size c cl doc ((X.mg "__name__").getD .none) ctv H _ (.inl ⟨hc, rfl⟩) (I.hok.fresh hsz) hco ?_
      exact I.laid (fun b u e => Heap.get?_push_of_some _ (hk b u e)) hsz (FnO.ok (Heap.get?_push_size _ rfl))
    obtain ⟨name, qual, params, body, scope⟩ := S
    cases body with
    | stmts body => exact PySem.W.makeFunction_hit hcl I.ok.glob hg hcode C hps ht hf hB fin
    | expr body => exact PySem.W.kla_makeFunctionHit hcl I.ok.glob hg hcode C hps ht hf hB fun ctv h' tk => fin ctv .none h' tk
def tMk(cells:List (Str×Addr))(S:ClSt)(P0:Addr)(qs:List (Pos×Str)):TE:=fun σ H Q=>H P0=some (.tbl qs)/\∀ f c cl doc pm ct H1,Mkd H S.qual c H1->H1 f=none->ClOf cells S.scope cl->Q (.ref f) (upd H1 f (FnO f (S.obj cl doc pm c ct)))
theorem aHS{i:Nat}{x:Str}{params:Arguments}{body:List Stmt}{scope:Scope}(hcode:X.env.code=.ref c0)(T:Tb X.mg X.base c0 P0)(hqn:qualnameIn X.env x x=q)(hq:(pos,q)∈qs)
  (hu:∀ p∈qs,p.1.line=pos.line->p.1.col=pos.col->p.2=q) (hfree:∀ y∈scope.names,y.2=.free->X.env.kindOf y.1=some .cell\/X.env.kindOf y.1=some .free)
  (hd0:params.defaults=[]) (hk0:params.kw_defaults=[]) (ha:annTrees params none X.env=[])
  (hN:X.N.Nodup) (hi:X.N[i]? = some x) (hx:Loc X.env.scope x) (hf:X.fn x=true\/X.env.scope.names.lookup x=some .local:=by exact .inl rfl) :
  PS X (.FunctionDef x params body [] none [] scope none x pos) (kW (tMk X.env.cells ⟨x,q,params,.stmts body,scope⟩ P0 qs) (jE i)):=by
 intro pins s σ H D I h
 obtain ⟨hP,h⟩:=h
 refine PySem.W.nestDef_K hd0 hk0 ha ?_
 rw[hqn]
 refine aEU (S:=⟨x,q,params,.stmts body,scope⟩) I hcode T hP hq hu (fun y hy hyf=>I.ok.has _ (hfree y hy hyf)) fun f c cl doc pm ct H1 s' hm hn hc I'=>?_
 exact oD I' hN hi hx (v:=.ref f) rfl (fun s'' I''=>⟨_,_,I'',h f c cl doc pm ct H1 hm hn hc⟩) hf
end
end L2
namespace L2
open PySem PySem.Spec PyProof.Rows
abbrev Cv:=List (Addr×Obj×V)
noncomputable def pub(cv:Cv)(H:Hp):Hp:=fun b=>match cv.lookup b with
 | some p=>some (dL b p.1 p.2)
 | none=>H b
noncomputable def cK(cv:Cv):List Addr:=cv.map (·.1)
theorem fE{cv:Cv}{b:Addr}:b∈cK cv↔∃ p,cv.lookup b=some p:=by
 unfold cK
 induction cv with
 | nil=>simp
 | cons a r ih=>
  obtain ⟨x,p⟩:=a
  rw[List.map_cons,List.mem_cons,ih,List.lookup_cons]
  by_cases h:b=x
  ·subst h;simp
  ·rw[beq_false_of_ne h]
   simp[h]
theorem mZ{cv:Cv}{H:Hp}{b:Addr}{p:Obj×V}(h:cv.lookup b=some p):pub cv H b=some (dL b p.1 p.2):=by unfold pub;rw[h]
theorem dM{cv:Cv}{H:Hp}{b:Addr}(h:b∉cK cv):pub cv H b=H b:=by
 unfold pub
 cases e:cv.lookup b with
 | none=>rfl
 | some p=>exact absurd (fE.mpr ⟨p,e⟩) h
theorem iG{cv:Cv}{H:Hp}(hd:∀ b∈cK cv,H b=none):aG H (pub cv H):=fun b o e=>by
 rw[dM fun z=>by rw[hd b z] at e;cases e];exact e
theorem aDV{P:Program}{w:World}{fs:List Addr}{cv:Cv}{H H1:Hp}{h h':Heap}(hd:∀ b∈cK cv,H b=none)(hk:HOk P w (pub cv H) h)(un:Un fs [] (pub cv H) H1 h h')(hk1:HOk P w H1 h') :
  Un fs [] H (hid (cK cv) H1) h h'/\HOk P w (hid (cK cv) H1) h':=by
 have inn:∀ b,b∈cK cv->∃ o v,h.get? b=some o/\h'.get? b=some o/\H1 b=some (dL b o v):=fun b hb=>by
  obtain ⟨⟨o,v⟩,e⟩:=fE.mp hb
  have z:=mZ (H:=H) e
  have z1:=un.frzs b o _ z
  exact ⟨o,v,(dL.get hk z).1,(dL.get hk1 z1).1,z1⟩
 have out:∀ b u,H b=some u->b∉cK cv:=fun b u e z=>by rw[hd b z] at e;cases e
 refine ⟨⟨fun b o e n h1 h2=>?_,fun b o e n h1 h2=>?_,fun b o e n h2=>?_,un.there,fun b xs q=>?_,fun b o u q=>?_,fun b ps q=>?_⟩,fun b u e=>?_⟩
 ·by_cases hb:b∈cK cv
  ·obtain ⟨o',v,q1,q2,_⟩:=inn b hb
   rw[e] at q1;cases q1;exact q2
  ·exact un.keep b o e (by rw[dM hb];exact n) h1 h2
 ·by_cases hb:b∈cK cv
  ·obtain ⟨o',v,q1,q2,_⟩:=inn b hb
   rw[e] at q1;cases q1;exact ⟨o.slots,q2⟩
  ·exact un.slot b o e (by rw[dM hb];exact n) h1 h2
 ·by_cases hb:b∈cK cv
  ·exact lB hb
  ·rw[bH hb];exact un.free b o e (by rw[dM hb];exact n) h2
 ·have hb:=out b _ q
  rw[bH hb];exact un.tups b xs (by rw[dM hb];exact q)
 ·have hb:=out b _ q
  rw[bH hb];exact un.frzs b o u (by rw[dM hb];exact q)
 ·have hb:=out b _ q
  rw[bH hb];exact un.tbls b ps (by rw[dM hb];exact q)
 ·obtain ⟨e1,hb⟩:=lV e
  have ne:∀ c o,H1 c=some o->(∀ o' v,o≠dL c o' v)->c∉cK cv:=fun c o q n z=>by
   obtain ⟨o',v,_,_,z1⟩:=inn c z
   rw[q] at z1;cases z1;exact n o' v rfl
  exact (hk1 b u e1).stay (fun _ _ _ q=>q) (fun c q=>by rw[bH (ne c _ q fun _ _ z=>nomatch z)];exact q) (fun c _ q=>by rw[bH (ne c _ q fun _ _ z=>nomatch z)];exact q) fun c _ q=>by rw[bH (ne c _ q fun _ _ z=>nomatch z)];exact q
structure PubRel(X:Cx)(σ:St)(H:Hp)(js:List Nat)(cv:Cv):Prop where
 at':∀ b o v,cv.lookup b=some (o,v)->∃ x j,j∈js/\X.N[j]? = some x/\X.env.cells.lookup x=some b/\σ[j]? = some (some v)
 all:∀ j∈js,∃ x c o v,X.N[j]? = some x/\X.env.cells.lookup x=some c/\σ[j]? = some (some v)/\cv.lookup c=some (o,v)
 free:∀ b∈cK cv,H b=none
 inj:∀ x y c,X.env.cells.lookup x=some c->X.env.cells.lookup y=some c->x=y
section
variable{X:Cx}{pins:List (Addr×Obj)}{σ:St}{H:Hp}{s:Shared}
def sX(X:Cx)(σ:St)(j:Nat):Prop:=∃ x v,X.N[j]? = some x/\X.env.kindOf x=some .cell/\X.fn x=true/\σ[j]? = some (some v)
theorem zX(I:Inv X pins σ H s):∀ (js:List Nat),(∀ j∈js,sX X σ j)->∃ cv,PubRel X σ H js cv/\∀ b o v,cv.lookup b=some (o,v)->(∃ u,s.heap.get? b=some o/\o.data=.cell (some u)/\aQ v u)/\X.s₀.heap.objs.size<=b/\∃ x,X.env.cells.lookup x=some b
 | [],_=>⟨[],⟨fun b o v e=>by simp at e,fun j hj=>by simp at hj,fun b hb=>by simp[cK] at hb,I.ok.inj⟩,fun b o v e=>by simp at e⟩
 | j::js,hj=>by
  obtain ⟨cv,R,ok⟩:=zX I js fun j' h'=>hj j' (List.mem_cons_of_mem _ h')
  obtain ⟨x,v,hN,hk,hf,hv⟩:=hj j List.mem_cons_self
  obtain ⟨m,hn,hl⟩:=I.loc
  obtain ⟨u,r,l⟩:=hl j x v hN hv (.inr (.inl hk))
  rcases l with ⟨hk',_⟩|⟨_,c,hc,o,ho,hd⟩
  ·rw[hk] at hk';cases hk'
  ·have hcab:=I.ok.cab x c hf hc
   by_cases hin:c∈cK cv
   ·obtain ⟨⟨o',v'⟩,e⟩:=fE.mp hin
    obtain ⟨x',j',hj',hN',hc',hv'⟩:=R.at' c o' v' e
    have hxx:x=x':=I.ok.inj x x' c hc hc'
    subst hxx
    refine ⟨cv,⟨fun b o v e=>?_,fun k hk=>?_,R.free,R.inj⟩,ok⟩
    ·obtain ⟨x,j,h1,h2⟩:=R.at' b o v e
     exact ⟨x,j,List.mem_cons_of_mem _ h1,h2⟩
    ·rcases List.mem_cons.mp hk with z|z
     ·subst z
      obtain ⟨u2,r2,l2⟩:=hl j' x v' hN' hv' (.inr (.inl (by assumption)))
      obtain ⟨⟨u3,q1,q2,q3⟩,_⟩:=ok c o' v' e
      rw[ho] at q1;cases q1
      rw[hd] at q2
      have:u=u3:=by cases q2;rfl
      subst this
      have hvv:v=v':=aQ.inj r q3
      subst hvv
      exact ⟨x,c,_,v,hN,hc,hv,e⟩
     ·exact R.all k z
   ·refine ⟨(c,o,v)::cv,⟨fun b o' v' e=>?_,fun k hk=>?_,fun b hb=>?_,R.inj⟩,fun b o' v' e=>?_⟩
    ·rw[List.lookup_cons] at e
     by_cases hb:b=c
     ·subst hb
      simp only[beq_self_eq_true] at e
      cases e
      exact ⟨x,j,List.mem_cons_self,hN,hc,hv⟩
     ·rw[beq_false_of_ne hb] at e
      obtain ⟨x,j,h1,h2⟩:=R.at' b o' v' e
      exact ⟨x,j,List.mem_cons_of_mem _ h1,h2⟩
    ·rcases List.mem_cons.mp hk with z|z
     ·subst z
      exact ⟨x,c,o,v,hN,hc,hv,by rw[List.lookup_cons];simp⟩
     ·obtain ⟨x',c',o',v',h1,h2,h3,h4⟩:=R.all k z
      refine ⟨x',c',o',v',h1,h2,h3,?_⟩
      rw[List.lookup_cons,beq_false_of_ne (show c'≠c from fun z=>by rw[z] at h4;exact hin (fE.mpr ⟨_,h4⟩))];exact h4
    ·have hb':b=c\/b∈cK cv:=by simpa[cK] using hb
     rcases hb' with z|z
     ·subst z;exact I.freeC x b hc
     ·exact R.free b z
    ·rw[List.lookup_cons] at e
     by_cases hb:b=c
     ·subst hb
      simp only[beq_self_eq_true] at e
      cases e
      exact ⟨⟨u,ho,hd,r⟩,hcab,x,hc⟩
     ·rw[beq_false_of_ne hb] at e
      exact ok b o' v' e
theorem aEV(I:Inv X pins σ H s){js:List Nat}{cv:Cv}(R:PubRel X σ H js cv)(ok:∀ b o v,cv.lookup b=some (o,v)->(∃ u,s.heap.get? b=some o/\o.data=.cell (some u)/\aQ v u)/\X.s₀.heap.objs.size<=b/\∃ x,X.env.cells.lookup x=some b) :
  Env0 X.prog X.w X.K X.mg X.base X.A X.stack s (pub cv H) where
 frames:=I.ok.frames
 mod:=I.ok.mod
 bs:=fun b o e=>⟨(I.bs b o e).1,by
  rw[dM]
  ·exact (I.bs b o e).2
  ·intro z
   obtain ⟨⟨o',v⟩,q⟩:=fE.mp z
   have h1:=(ok b o' v q).2.1
   have h2:=Heap.lt_size e
   exact absurd (Nat.lt_of_lt_of_le h2 (Nat.le_trans I.ok.bsz h1)) (Nat.lt_irrefl _)⟩
 bsz:=Nat.le_trans I.ok.bsz I.sz
 funs:=I.stack
 frf:=fun b hb=>by
  rw[dM]
  ·exact I.stkFree b hb
  ·intro z
   obtain ⟨⟨o',v⟩,q⟩:=fE.mp z
   obtain ⟨_,h1,x,hx⟩:=ok b o' v q
   rcases List.mem_cons.mp (I.stkSub b hb) with z2|z2
   ·exact I.cne x b hx z2
   ·obtain ⟨_,o,ho,_⟩:=I.ok.funs.mem z2
    exact absurd (Nat.lt_of_lt_of_le (Heap.lt_size ho) h1) (Nat.lt_irrefl _)
 hok:=fun b u e=>by
  by_cases hb:b∈cK cv
  ·obtain ⟨⟨o,v⟩,q⟩:=fE.mp hb
   rw[mZ q] at e;cases e
   obtain ⟨⟨u,h1,h2,h3⟩,_⟩:=ok b o v q
   exact dL.ok h3 h1 h2
  ·rw[dM hb] at e
   exact (I.hok b u e).stay (fun _ _ _ q=>q) (fun c q=>iG R.free _ _ q) (fun c _ q=>iG R.free _ _ q) fun c _ q=>iG R.free _ _ q
 bare:=I.bare
def zY(X:Cx)(js:List Nat)(sp:Sp)(E:XK)(t:TA):TE:=fun σ H Q=>t σ H fun vs H1=>(∀ j∈js,sX X σ j)/\∀ cv,PubRel X σ H1 js cv->sp vs (pub cv H1) (fun v H2=>Q v (hid (cK cv) H2)) (fun c e H2=>E c e (hid (cK cv) H2)/\∀ a,e=some a->a∉cK cv)
theorem aHT{k:Nat}{x:Str}{ps:List Str}{sp:Sp}{E:XK}{p pos:Pos}{e:Expr}{es:List Expr}{t:TA}{js:List Nat}(C:Calls X.prog X.w X.K X.mg X.base (CXe X.prog X.w) k x ps sp)(hr:Room k X.A)(hg:Gl X x)(hx:jT (CXe X.prog X.w) X E)(ha:PA X (e::es) t)(hdb:(x == ("__debug__":Str))=false:=by decide)
  (he:starEach (e::es) X.env=(false,eval e X.env)::starEach es X.env:=by rfl) (hpl:(backTo pos (starEach es X.env)).any (·.1)=false:=by rfl):PE X (.Call (.Name x p) (e::es) [] pos) (zY X js sp E t):=by
 obtain ⟨f,fd,F,b,m,kp⟩:=C
 intro pins s σ H Q I h
 refine wpAny_Call_Name_kw (pW I hg m ?_ hdb)
 refine PySem.W.callWith_K (h₀:=X.base) I.ok.mod.kin kp (thn (ha pos pins s σ H _ I h) fun us s1 ⟨vs,H1,I1,r,hcs,q⟩=>⟨I1.kIn,?_⟩) he hpl
 obtain ⟨cv,R,ok⟩:=zX I1 js hcs
 have hsp:=q cv R
 have e0:=aEV I1 R ok
 have hl:us.length=ps.length:=by rw[<-r.length];exact F.len _ _ _ _ hsp
 have hb:=b s1 us I1.kIn (by simpa using hl)
 rw[List.append_nil] at hb
 refine wpAny_call (codeAny_mono (F.run X.A X.stack s1 _ ⟨us,[]⟩ us vs _ _ hr e0 hb r hsp) fun r' s' hq=>?_)
 cases r' with
 | error ev=>
  obtain ⟨e,C,od,H',rfl,os,bare,un,hok,hee,⟨vs',T,q1,q2,q3⟩,q4,q5⟩:=hq
  obtain ⟨un',hok'⟩:=aDV R.free e0.hok un hok
  refine hx pins σ H1 s1 (.ref e) s' I1 ⟨e,C,od,hid (cK cv) H',rfl,os,bare,un',hok',?_,⟨vs',T,q1,q2,fun t e1=>?_⟩,q4⟩
  ·rw[bH (q5 e rfl)];exact hee
  ·exact ⟨fU (q3 t e1).1,(q3 t e1).2⟩
 | ok fl=>
  cases fl with
  | ret u=>
   obtain ⟨v,H',os,bare,un,hok,rv,q'⟩:=hq
   obtain ⟨un',hok'⟩:=aDV R.free e0.hok un hok
   exact I1.after ⟨v,hid (cK cv) H',os,bare,un',hok',rv,q'⟩
  | next=>exact False.elim hq
  | brk=>exact False.elim hq
  | cont=>exact False.elim hq
end
end L2
namespace L2
open PySem PySem.Spec PyProof.Rows
noncomputable def sY(Ps:List Addr)(qs:List (Pos×Str)):Hp:=fun b=>if b∈Ps then some (.tbl qs) else none
def sZ(mg:Str->Option Value)(h base:Heap)(T:Hp)(qs:List (Pos×Str))(xs:List Str):Prop:=
 ∀ x∈xs,∃ c0 P0,T P0=some (.tbl qs)/\Tb mg base c0 P0/\∀ f o fd,mg x=some (.ref f)->h.get? f=some o->o.data=.func fd->fd.code=.ref c0
theorem zZ{P:Program}{w:World}{K:Frag}{mg mb:Str->Option Value}{CX:CXT}{k:Nat}{fa a:Addr}{fd:FuncData}{x:Str}{s₁:Shared}{vs:List Value}{ns:List Int}{qs:List (Pos×Str)}{xs:List Str}{tb:Str->Addr×Addr}
  (hT:∀ x∈xs,PySem.W.CodeHd s₁.heap (tb x).1 (tb x).2/\s₁.heap.get? (tb x).2=some (PySem.W.tabObj #[])) (hlk:∀ x∈xs,∀ f o fd,mg x=some (.ref f)->s₁.heap.get? f=some o->o.data=.func fd->fd.code=.ref (tb x).1)
  (hbt:∃ bm ob,mg "__builtins__"=some (.ref bm)/\bm≠builtinsNs/\s₁.heap.get? bm=some ob/\ob.cls=.type "module"/\ob.dict=some builtinsNs/\ob.data=.plain) (hNT:PySem.W.noTabs K=true)
  (KX:K.In s₁.heap) (hns:s₁.heap.Ns mainGlobals mg) (hb:s₁.heap.Ns builtinsNs mb) (hbb:∀ x:Str,x≠"__name__"->mb x=bootBuiltins x) (hlim:s₁.heap.NoLimit) (hg:s₁.gens = #[])
  (ha:s₁.heap.get? a=some {cls:=.type "list",data:=.seq vs.toArray}) (hi:IntsAre vs ns) (hl:ns.length<=sizeLine) (hr:Room k callerA)
  (F:∀ (base:Heap) (T:Hp),K.In base->base.Ns mainGlobals mg->sZ mg s₁.heap base T qs xs->∃ sp,FnOk P w K mg base CX k fa fd [x] sp/\∀ H:Hp,aG T H->SqL K H a (ns.map V.int)->sp [.ref a] H (fun v _=>v=.bl true) fun _ _ _=>False) (hbind:∀ (s:Shared) (u:Value),BindsTo s fd ⟨[u],[]⟩ [(x,u)])
  (hCX:∀ H e s',CX [] H s₁ (fun _ _ _=>False) e s'->False) :
  codeAny (model P w) callerA (.call (.ref fa) ⟨[.ref a],[]⟩) (fun r s'=>r=.ok (.ret (.bool true))/\OldK s₁.heap s'.heap/\s'.os=s₁.os/\AllBare s'.gens) s₁:=by
 have rv:=rE hi
 have lenV:=hi.length
 let Ps:List Addr:=xs.map fun x=>(tb x).2
 have hPs:∀ b∈Ps,s₁.heap.get? b=some (PySem.W.tabObj #[])/\isCodeTable s₁.heap b:=fun b hb=>by
  obtain ⟨y,hy,rfl⟩:=List.mem_map.mp hb
  exact ⟨(hT y hy).2,((hT y hy).1.tab (hT y hy).2).isCodeTable⟩
 have haP:a∉Ps:=fun z=>by have:=(hPs a z).1;rw[ha] at this;cases this
 have hKP:∀ b∈Ps,K.lookup b=none:=fun b hb=>by
  cases e:K.lookup b with
  | none=>rfl
  | some o=>
   have e2:=KX b o e
   rw[(hPs b hb).1] at e2
   cases e2
   have h2:=List.all_eq_true.mp hNT (b,_) (PySem.W.mem_of_lookupK e)
   exact absurd (show false=true from h2) Bool.false_ne_true
 have core:∀ H:Hp,(∀ b∈Ps,H b=some (.tbl qs))->(∀ b,H b≠none->b=a\/b∈Ps)->(H a=none\/∃ o xs,H a=some (.frz o (.lst xs)))->SqL K H a (ns.map V.int)->HOk P w H s₁.heap->(H a≠none->K.lookup a=none)->
   codeAny (model P w) callerA (.call (.ref fa) ⟨[.ref a],[]⟩) (fun r s'=>r=.ok (.ret (.bool true))/\OldK s₁.heap s'.heap/\s'.os=s₁.os/\AllBare s'.gens) s₁:=by
  intro H hP hA hO hS hok hK
  have base_of:∀ {b:Addr} {o:Obj},s₁.heap.get? b=some o->H b=none->(kU s₁.heap H).get? b=some o:=fun e n=>aBT e n
  have free_of:∀ {b:Addr} {o:Obj},s₁.heap.get? b=some o->(∀ vs,o.data≠.seq vs)->o≠PySem.W.tabObj #[]->H b=none:=fun {b o} e d d2=>by
   cases q:H b with
   | none=>rfl
   | some u=>
    rcases hA b (by rw[q];simp) with e'|e'
    ·subst e'
     rw[ha] at e;cases e
     exact absurd rfl (d _)
    ·rw[(hPs b e').1] at e;cases e;exact absurd rfl d2
  have noA:∀ {b:Addr} {o:Obj} {es:Array DictEntry} {ep:Nat},s₁.heap.get? b=some o->o.data=.dict es ep->H b=none:=fun {b o es ep} e d=>free_of e (fun vs z=>by rw[d] at z;cases z) fun z=>by rw[z] at d;cases d
  have nsK:∀ {b:Addr} {m:Str->Option Value},s₁.heap.Ns b m->(kU s₁.heap H).Ns b m:=fun {b m} ⟨o,es,ep,e,d,r⟩=>⟨o,es,ep,base_of e (noA e d),d,r⟩
  have hKb:K.In (kU s₁.heap H):=fun b o e=>base_of (KX b o e) (by
   cases q:H b with
   | none=>rfl
   | some u=>
    rcases hA b (by rw[q];simp) with e'|e'
    ·subst e'
     rw[hK (by rw[q];simp)] at e;cases e
    ·rw[hKP b e'] at e;cases e)
  have hM:Mod K mg (kU s₁.heap H):=⟨hKb,nsK hns,⟨mb,nsK hb,hbb⟩,let ⟨mc,h1,h2⟩:=hlim;⟨mc,nsK h1,h2⟩⟩
  have e0:Env0 P w K mg (kU s₁.heap H) callerA [] s₁ H:=⟨rfl,hM,fun b o e=>aEF e,Nat.le_of_eq (y7 _ _),trivial,fun b hb=>absurd (show b∈([]:List Addr) from hb) (by simp),hok,.of_eq hg⟩
  have hTL:sZ mg s₁.heap (kU s₁.heap H) (sY Ps qs) qs xs:=fun y hy=>by
   refine ⟨(tb y).1,(tb y).2,if_pos (List.mem_map.mpr ⟨y,hy,rfl⟩),⟨?_,?_⟩,hlk y hy⟩
   ·obtain ⟨o,vs,file,tf,flags,tg,inF,text,tt,e1,r1,r2,r3⟩:=(hT y hy).1
    exact ⟨o,vs,file,tf,flags,tg,inF,text,tt,base_of e1 (free_of e1 (fun vs z=>by rw[r2] at z;cases z) fun z=>by rw[z] at r1;cases r1),r1,r2,r3⟩
   ·obtain ⟨bm,ob,b1,b2,b3,b4,b5,b6⟩:=hbt
    exact ⟨bm,ob,b1,b2,base_of b3 (free_of b3 (fun vs z=>by rw[b6] at z;cases z) fun z=>by rw[z] at b4;cases b4),b4,b5,b6⟩
  have hTH:aG (sY Ps qs) H:=fun b o e=>by
   unfold sY at e
   split at e
   ·rename_i hb;cases e;exact hP b hb
   ·cases e
  obtain ⟨sp,FO,hsp⟩:=F _ _ hKb (nsK hns) hTL
  refine codeAny_mono (FO.run callerA [] s₁ H ⟨[.ref a],[]⟩ [.ref a] [.ref a] _ _ hr e0 (hbind s₁ (.ref a)) (.cons rfl .nil) (hsp H hTH hS)) fun r s' h=>?_
  cases r with
  | error e=>exact (hCX H e s' h).elim
  | ok fl=>
   cases fl with
   | next=>exact False.elim h
   | brk=>exact False.elim h
   | cont=>exact False.elim h
   | ret u=>
    obtain ⟨v,H',os,bare,un,hok',r',q⟩:=h
    have q':v=.bl true:=q
    subst q'
    obtain rfl:u=Value.bool true:=r'
    have kept:∀ b o,s₁.heap.get? b=some o->b∉Ps->s'.heap.get? b=some o:=fun b o e hb=>by
     cases q:H b with
     | none=>exact un.keep b o e q (by intro z;exact absurd (show b∈([]:List Addr) from z) (by simp)) (by simp)
     | some u=>
      rcases hA b (by rw[q];simp) with z|z
      ·subst z
       rcases hO with z|⟨ob,xs,z⟩
       ·rw[q] at z;cases z
       ·have z2:=un.frzs b ob _ z
        obtain ⟨e1,_⟩:=hok b _ z
        obtain ⟨e2,_⟩:=hok' b _ z2
        rw[e] at e1;cases e1
        exact e2
      ·exact absurd z hb
    refine ⟨rfl,⟨fun b o e=>?_,fun b o e=>?_⟩,os,bare⟩
    ·by_cases hb:b∈Ps
     ·obtain ⟨ps,e2,_⟩:=(show bN P w H' s'.heap b (.tbl qs) from hok' b _ (un.tbls b _ (hP b hb)))
      have e1:=(hPs b hb).1
      rw[e] at e1;cases e1
      exact .inr (.inl ⟨(hPs b hb).2,rfl,#[],ps,rfl,by rw[Array.empty_append];exact e2⟩)
     ·exact .inl (kept b o e hb)
    ·by_cases hb:b∈Ps
     ·obtain ⟨ps,e2,_⟩:=(show bN P w H' s'.heap b (.tbl qs) from hok' b _ (un.tbls b _ (hP b hb)))
      exact ⟨_,e2⟩
     ·exact ⟨o,kept b o e hb⟩
 have tabOk:∀ (H:Hp) b,b∈Ps->bN P w H s₁.heap b (.tbl qs):=fun H b hb=>⟨#[],(hPs b hb).1,trivial,fun p _=>.inl rfl⟩
 cases hk:K.lookup a with
 | some o=>
  have e:=KX a o hk
  rw[ha] at e
  cases e
  refine core (sY Ps qs) (fun b hb=>if_pos hb) (fun b z=>?_) (.inl (if_neg haP)) (.inr ⟨_,vs.toArray,_,hk,rfl,rfl,rfl,by rw[List.size_toArray,lenV];exact hl,by simpa using rv⟩) (fun b u z=>?_) fun z=>absurd (if_neg haP) z
  ·by_cases hb:b∈Ps
   ·exact .inr hb
   ·exact absurd (if_neg hb) z
  ·by_cases hb:b∈Ps
   ·have z':=(if_pos hb).symm.trans z
    cases z'
    exact tabOk _ b hb
   ·have z':=(if_neg hb).symm.trans z
    cases z'
 | none=>
  refine core (fun b=>if b=a then some (.frz {cls:=.type "list",data:=.seq vs.toArray} (.lst (ns.map V.int))) else sY Ps qs b) (fun b hb=>?_) (fun b z=>?_) (.inr ⟨_,_,if_pos rfl⟩) (.inl (.inr ⟨{cls:=.type "list",data:=.seq vs.toArray},if_pos rfl⟩)) (fun b u z=>?_) fun _=>hk
  ·rw[if_neg (show ¬ b=a from fun z=>haP (by rw[<-z];exact hb))];exact if_pos hb
  ·by_cases hb:b=a
   ·exact .inl hb
   ·rw[if_neg hb] at z
    by_cases hb2:b∈Ps
    ·exact .inr hb2
    ·exact absurd (if_neg hb2) z
  ·by_cases hb:b=a
   ·have z':=(if_pos hb).symm.trans z
    cases z'
    subst hb
    exact ⟨ha,by rw[List.length_map];exact hl,vs,_,rv,ha⟩
   ·have z':=(if_neg hb).symm.trans z
    by_cases hb2:b∈Ps
    ·have z2:=(if_pos hb2).symm.trans z'
     cases z2
     exact tabOk _ b hb2
    ·have z2:=(if_neg hb2).symm.trans z'
     cases z2
theorem aEW{p:Program}{loose:List Str}{mean:ExcName->Option Value}{mg mb:Str->Option Value}{h:Heap}(T:Top p loose mean mg mb h)(xs:List Str)(hx:∀ x∈xs,∃ d∈recsOf p,d.name=x) :
  ∃ tb:Str->Addr×Addr,(∀ x∈xs,PySem.W.CodeHd h (tb x).1 (tb x).2/\h.get? (tb x).2=some (PySem.W.tabObj #[]))/\∀ x∈xs,∀ f o fd,mg x=some (.ref f)->h.get? f=some o->o.data=.func fd->fd.code=.ref (tb x).1:=by
 have key:∀ x,∃ t:Addr×Addr,x∈xs->(PySem.W.CodeHd h t.1 t.2/\h.get? t.2=some (PySem.W.tabObj #[]))/\∀ f o fd,mg x=some (.ref f)->h.get? f=some o->o.data=.func fd->fd.code=.ref t.1:=fun x=>by
  by_cases hm:x∈xs
  ·obtain ⟨d,hd,rfl⟩:=hx x hm
   obtain ⟨a,o,fd,c,P',h1,h2,h3,h4,h5,h6⟩:=T.tab d hd
   refine ⟨(c,P'),fun _=>⟨⟨PySem.W.CodeHd.of h5 h6,h6.2⟩,fun f o' fd' e1 e2 e3=>?_⟩⟩
   rw[h1] at e1;cases e1
   rw[h2] at e2;cases e2
   rw[h3] at e3;cases e3
   exact h4
  ·exact ⟨(0,0),fun z=>absurd z hm⟩
 exact ⟨fun x=>(key x).choose,fun x hx=>((key x).choose_spec hx).1,fun x hx=>((key x).choose_spec hx).2⟩
theorem walk_ofT{l:PySem.W.OpenLaw}{n k:Nat}{q:Program}{loose:List Str}{XP:(Str->Option Value)->Heap->Prop}{YP:World->Heap->Prop}{d:DefRec}{K:Params->Frag}{CX:World->CXT}{x:Str}{qs:List (Pos×Str)}{xs:List Str}
  (hxs:∀ x∈xs,∃ d∈recsOf q,d.name=x) (hNT:∀ w:World,PySem.W.noTabs (K w.params)=true)
  (hn:l.most=some n) (hn2:n<=sizeLine) (hdf:d.params.defaults=[]) (hr:Room k callerA)
  (hY:∀ (w:World) (h:Heap),YP w h->(K w.params).In h)
  (F:∀ (w:World) (mg:Str->Option Value) (fa:Addr) (h:Heap),(K w.params).In h->h.Ns mainGlobals mg->mg d.name=some (.ref fa)->
   ∃ fd:FuncData,(∀ (s:Shared) (u:Value),BindsTo s fd ⟨[u],[]⟩ [(x,u)]) /\
    ∀ (base:Heap) (T:Hp),(K w.params).In base->base.Ns mainGlobals mg->sZ mg h base T qs xs->∃ sp,FnOk l.prog w (K w.params) mg base (CX w) k fa fd [x] sp /\
     ∀ (H:Hp) (a:Addr) (ns:List Int),ns.length<=n->aG T H->SqL (K w.params) H a (ns.map V.int)->sp [.ref a] H (fun v _=>v=.bl true) fun _ _ _=>False)
  (hCX:∀ (w:World) (H:Hp) (s:Shared) (e:Value) (s':Shared),CX w [] H s (fun _ _ _=>False) e s'->False) :
  PySem.W.WalkO q loose XP YP l.row.toRowW d [] (fun f vs=>PySem.call f vs):=by
 refine Att.attach_call hn hdf fun w s₀ s₁ mg mb fa o pm cd doc a vs ns G Y ho hd hcd hmg hobj hints hlen hg=>?_
 have KX:=hY w _ Y
 obtain ⟨fd,hb,hF⟩:=F w mg fa _ KX G.T.g hmg
 obtain ⟨tb,hT,hlk⟩:=aEW G.T xs hxs
 refine zZ (qs:=qs) hT hlk G.T.bmain (hNT w) KX G.T.g G.T.b G.T.builtins G.T.nolimit hg hobj hints (Nat.le_trans hlen hn2) hr (fun base T kb nb TL=>?_) hb fun H e s'=>hCX w H s₁ e s'
 obtain ⟨sp,FO,hs⟩:=hF base T kb nb TL
 exact ⟨sp,FO,fun H h1 h2=>hs H a ns hlen h1 h2⟩
end L2
namespace Fl
open PySem L2 PyProof.Rows
mutual
noncomputable def keyD:PyData->Bool
 | .none=>true
 | .int _=>true
 | .str x=>PyData.strOk x
 | .tuple xs=>b7 xs
 | _=>false
noncomputable def b7:List PyData->Bool
 | []=>true
 | x::t=>keyD x && b7 t
end
mutual
noncomputable def fM(w:World):PyData->Int
 | .none=>reduceHash 0xFCA86420
 | .int i=>hashInt i
 | .str x=>hashStr w x
 | .tuple xs=>reduceHash (Builtin.Tuple.tupleHashOf (jM w xs))
 | _=>0
noncomputable def jM(w:World):List PyData->List Int
 | []=>[]
 | x::t=>fM w x::jM w t
end
mutual
noncomputable def eS:PyData->Nat
 | .tuple xs=>jV xs+1
 | _=>1
noncomputable def jV:List PyData->Nat
 | []=>0
 | x::t=>eS x+jV t
end
mutual
theorem nS:∀ {d:PyData},keyD d=true->d.canLay0=true
 | .none,_=>rfl
 | .int _,_=>rfl
 | .str x,h=>h
 | .tuple xs,h=>by
  have h':b7 xs=true:=h
  exact s9 h'
theorem s9:∀ {xs:List PyData},b7 xs=true->PyData.canLayAll0 xs=true
 | [],_=>rfl
 | x::t,h=>by
  have h':(keyD x && b7 t)=true:=h
  rw[Bool.and_eq_true] at h'
  show (x.canLay0 && PyData.canLayAll0 t)=true
  rw[nS h'.1,s9 h'.2];rfl
end
mutual
theorem p8:∀ {d e:PyData},keyD d=true->keyD e=true->(PyData.eqv d e=true↔d=e)
 | .none,e,_,he=>by cases e<;>simp[PyData.eqv]<;>cases he
 | .int i,e,_,he=>by cases e<;>simp[PyData.eqv]<;>cases he
 | .str x,e,_,he=>by cases e<;>simp[PyData.eqv]<;>cases he
 | .tuple xs,e,hd,he=>by
  have hd':b7 xs=true:=hd
  cases e with
  | tuple ys=>
   have he':b7 ys=true:=he
   have:=tD hd' he'
   show PyData.eqvAll xs ys=true↔_
   rw[this]
   exact ⟨fun z=>by rw[z],fun z=>by cases z;rfl⟩
  | _=>simp[PyData.eqv]<;>cases he
theorem tD:∀ {xs ys:List PyData},b7 xs=true->b7 ys=true->(PyData.eqvAll xs ys=true↔xs=ys)
 | [],ys,_,_=>by cases ys<;>simp[PyData.eqvAll]
 | x::t,ys,hx,hy=>by
  have hx':(keyD x && b7 t)=true:=hx
  rw[Bool.and_eq_true] at hx'
  cases ys with
  | nil=>simp[PyData.eqvAll]
  | cons y u=>
   have hy':(keyD y && b7 u)=true:=hy
   rw[Bool.and_eq_true] at hy'
   rw[PyData.eqvAll,Bool.and_eq_true,p8 hx'.1 hy'.1,tD hx'.2 hy'.2]
   exact ⟨fun ⟨a,b⟩=>by rw[a,b],fun z=>by cases z;exact ⟨rfl,rfl⟩⟩
end
noncomputable instance decPyData:DecidableEq PyData:=fun a b=>Classical.propDecidable (a=b)
theorem aEX{d e:PyData}(hd:keyD d=true)(he:keyD e=true):PyData.eqv d e=decide (d=e):=by
 by_cases h:d=e
 ·rw[decide_eq_true h,(p8 hd he).mpr h]
 ·rw[decide_eq_false h]
  cases q:PyData.eqv d e with
  | false=>rfl
  | true=>exact absurd ((p8 hd he).mp q) h
end Fl
namespace Fl
open PySem L2 PyProof.Rows
theorem xV(xs:List PyData):eS (.tuple xs)=jV xs+1:=by rw[eS]
theorem rJ(A:Around):A.in1.units=A.units+1:=rfl
def iW(prog:Program)(w:World)(E:Value->Shared->Prop)(d:PyData):Prop:=∀ (v:Value) (as:List Addr) (A:Around) (s:Shared) (Q:Int->Shared->Prop),keyD d=true->Reads s.heap v d as->A.units+d.depth < cLine->Q (fM w d) {s with toks:=s.toks+eS d}->
 wpAny (model prog w) A (pyHash v) Q E s
theorem aHU{prog:Program}{w:World}{E:Value->Shared->Prop}:∀ (xs:List PyData) (ih:∀ x∈xs,iW prog w E x) (vs:List Value) (as:List Addr) (A:Around) (s:Shared) (b:Array Int) (Q:Array Int->Shared->Prop),b7 xs=true->ReadsAll s.heap vs xs as->A.units+PyData.depthAll xs < cLine->
  (∀ b',b'.toList=b.toList++jM w xs->Q b' {s with toks:=s.toks+jV xs})->
  wpAny (model prog w) A (forIn vs b fun x r=>do let h <-pyHash x;pure PUnit.unit;pure (ForInStep.yield (r.push h))) Q E s:=by
 intro xs
 induction xs with
 | nil=>
  intro ih vs as A s b Q _ x _ h
  cases x
  exact wpAny_pure (h b (by simp[jM]))
 | cons k xs ih0=>
  intro ih vs as A s b Q hk x hu h
  cases x with
  | @cons v vs _ _ as bs x1 x2=>
   have hk':(keyD k && b7 xs)=true:=hk
   rw[Bool.and_eq_true] at hk'
   have hu':A.units+max k.depth (PyData.depthAll xs) < cLine:=hu
   rw[List.forIn_cons]
   refine wpAny_bind (wpAny_bind (ih k List.mem_cons_self _ _ A s _ hk'.1 x1 (by omega) ?_))
   refine wpAny_bind (wpAny_pure (wpAny_pure ?_))
   refine ih0 (fun x hx=>ih x (List.mem_cons_of_mem _ hx)) _ _ A {s with toks:=s.toks+eS k} _ Q hk'.2 x2 (by omega) fun b' hb=>?_
   have q:=h b' (by rw[hb];simp[jM])
   rw[show jV (k::xs)=eS k+jV xs by rw[jV],<-Nat.add_assoc] at q
   exact q
end Fl
namespace Fl
open PySem L2 PyProof.Rows
theorem rK(w:World)(i:Int):fM w (.int i)=hashInt i:=by rw[fM]
theorem rL(w:World)(i:Str):fM w (.str i)=hashStr w i:=by rw[fM]
theorem z0(w:World)(xs:List PyData):fM w (.tuple xs)=reduceHash (Builtin.Tuple.tupleHashOf (jM w xs)):=by rw[fM]
theorem xW(i:Int):eS (.int i)=1:=by unfold eS;rfl
theorem xX(i:Str):eS (.str i)=1:=by unfold eS;rfl
theorem aB4{prog:Program}{w:World}{E:Value->Shared->Prop}(i:Int):iW prog w E (.int i):=fun v as A s Q _ r _ h=>by
 rw[rK,xW] at h
 cases r
 exact wpAny_pyHash_int h
theorem aB5{prog:Program}{w:World}{E:Value->Shared->Prop}(i:Str):iW prog w E (.str i):=fun v as A s Q _ r _ h=>by
 rw[rL,xX] at h
 cases r
 exact wpAny_pyHash_str h
theorem aB6{prog:Program}{w:World}{E:Value->Shared->Prop}(xs:List PyData)(ih:∀ x∈xs,iW prog w E x):iW prog w E (.tuple xs):=fun v as A s Q hk r hu h=>by
 rw[z0,xV] at h
 cases r with
 | @tuple a o vs n _ as h1 h2 h3 h4=>
  have hk':b7 xs=true:=hk
  have hu':A.units+(PyData.depthAll xs+1) < cLine:=hu
  refine PySem.W.pyHash_slot (T:="tuple") ⟨o,h1,h2⟩ F.slot_tuple_hash F.entry_tuple_hash (F.args_tuple_hash_1 _) (beq_builtin_none _) (.inr (by omega)) ?_
  show wpAny _ _ (Builtin.Tuple.tupleItemsOf (.ref a) >>= _) _ _ s
  refine wpAny_bind (wpAny_tupleItemsOf h1 h3 ?_)
  refine wpAny_bind ?_
  rw[<-Array.forIn_toList]
  refine aHU xs ih vs.toList as A.in1 s #[] _ hk' h4 (by rw[rJ];omega) fun b hb=>?_
  show wpAny _ _ (retInt (Builtin.Tuple.tupleHashOf b.toList)) _ _ _
  rw[hb]
  exact wpAny_bind (wpAny_mkInt (wpAny_pure ⟨_,_,rfl,h⟩))
end Fl
namespace Fl
open PySem L2 PyProof.Rows
theorem xY(w:World):fM w .none=reduceHash 0xFCA86420:=by rw[fM]
theorem vF:eS .none=1:=by unfold eS;rfl
theorem aB7{prog:Program}{w:World}{E:Value->Shared->Prop}:iW prog w E .none:=fun v as A s Q _ r hu h=>by
 rw[xY,vF] at h
 generalize hg:reduceHash 0xFCA86420=g at h
 cases r
 refine PySem.W.pyHash_slot (T:="NoneType") rfl F.slot_NoneType_hash F.entry_NoneType_hash (F.args_NoneType_hash_1 _) (beq_builtin_none _) (.inr (by omega)) (wpAny_bind (wpAny_pure (wpAny_bind (wpAny_mkInt (wpAny_pure ⟨0xFCA86420,_,rfl,?_⟩)))))
 rw[hg]
 exact h
end Fl
namespace Fl
open PySem L2 PyProof.Rows
theorem aHV{prog:Program}{w:World}{E:Value->Shared->Prop}:∀ (n:Nat) (d:PyData),sizeOf d<=n->iW prog w E d:=by
 intro n
 induction n with
 | zero=>intro d h;cases d<;>simp at h
 | succ n ih=>
  intro d h
  cases d with
  | none=>exact aB7
  | int i=>exact aB4 i
  | str x=>exact aB5 x
  | tuple xs=>
   refine aB6 xs fun x hx=>ih x ?_
   have:=List.sizeOf_lt_of_mem hx
   simp only[PyData.tuple.sizeOf_spec] at h
   omega
  | bool b=>exact fun v as A s Q hk=>nomatch hk
  | list xs=>exact fun v as A s Q hk=>nomatch hk
  | dict xs=>exact fun v as A s Q hk=>nomatch hk
theorem aHW{prog:Program}{w:World}{E:Value->Shared->Prop}(d:PyData):iW prog w E d:=aHV (sizeOf d) d (Nat.le_refl _)
theorem aEY{M:Model}{A:Around}{E:Value->Shared->Prop}{s:Shared}:∀ (n:Nat) (d:PyData) (v:Value) (as:List Addr) (Q:Bool->Shared->Prop),keyD d=true->Reads s.heap v d as->d.depth<=n->Q true s->wpAny M A (eqIsQuiet n v) Q E s:=by
 intro n
 induction n with
 | zero=>
  intro d v as Q hk r hd h
  cases d with
  | none=>cases r;rw[eqIsQuiet_byValue _ rfl];exact wpAny_pure h
  | int i=>cases r;rw[eqIsQuiet_byValue _ rfl];exact wpAny_pure h
  | str x=>cases r;rw[eqIsQuiet_byValue _ rfl];exact wpAny_pure h
  | tuple xs=>
   have hd':PyData.depthAll xs+1<=0:=hd
   omega
  | bool b=>exact nomatch hk
  | list xs=>exact nomatch hk
  | dict xs=>exact nomatch hk
 | succ n ih=>
  intro d v as Q hk r hd h
  cases d with
  | none=>cases r;rw[eqIsQuiet_byValue _ rfl];exact wpAny_pure h
  | int i=>cases r;rw[eqIsQuiet_byValue _ rfl];exact wpAny_pure h
  | str x=>cases r;rw[eqIsQuiet_byValue _ rfl];exact wpAny_pure h
  | bool b=>exact nomatch hk
  | list xs=>exact nomatch hk
  | dict xs=>exact nomatch hk
  | tuple xs=>
   cases r with
   | @tuple a o vs m _ as h1 h2 h3 h4=>
    have hk':b7 xs=true:=hk
    have hd':PyData.depthAll xs+1<=n+1:=hd
    have hT:s.TypeIs (.ref a) "tuple":=⟨o,h1,h2⟩
    unfold eqIsQuiet
    refine wpAny_bind (wpAny_specialOf hT F.slot_tuple_eq.lookup ?_)
    show wpAny _ _ (isInstance (.ref a) (.type "tuple") >>= _) _ _ s
    refine wpAny_bind (wpAny_isInstance hT isSubtype_tuple_tuple ?_)
    simp only[Bool.not_true,Bool.false_eq_true,if_false]
    refine wpAny_bind (wpAny_seqItems h1 h3 ?_)
    refine wpAny_bind ?_
    show wpAny _ _ (forIn vs _ _) _ _ s
    rw[<-Array.forIn_toList]
    refine wpAny_forIn_list _ (fun rest r s'=>r.1=none/\s'=s/\∃ ys bs,b7 ys=true/\PyData.depthAll ys<=n/\ReadsAll s.heap rest ys bs) _ ?_ ?_ _ _ ⟨rfl,rfl,xs,_,hk',by omega,h4⟩
    ·rintro v rest r s' ⟨hr,rfl,ys,bs,hy,hdy,ry⟩
     cases ry with
     | @cons _ _ y yt cs ds r1 r2=>
      have hy':(keyD y && b7 yt)=true:=hy
      rw[Bool.and_eq_true] at hy'
      have hdy':max y.depth (PyData.depthAll yt)<=n:=hdy
      refine wpAny_bind (ih y v _ _ hy'.1 r1 (by omega) ?_)
      simp only[Bool.not_true,Bool.false_eq_true,if_false]
      exact wpAny_pure ⟨rfl,rfl,yt,_,hy'.2,by omega,r2⟩
    ·rintro ⟨r1,r2⟩ s' ⟨hr,rfl,_⟩
     simp only at hr
     subst hr
     exact wpAny_pure h
def aK6(h:Heap)(d:PyData)(a:Addr):Prop:=keyD d=true/\d.depth<=8/\∃ as,Reads h (.ref a) d as
theorem xZ{h h':Heap}{a:Addr}{o:Obj}{es:Array DictEntry}{ep:Nat}(ho:h.get? a=some o)(hd:o.data=.dict es ep)(hs:Heap.SameBut a h h'){v:Value}{d:PyData}{as:List Addr}(hk:keyD d=true)(r:Reads h v d as):Reads h' v d as:=by
 refine Reads.rec (motive_1:=fun v d as _=>keyD d=true->Reads h' v d as) (motive_2:=fun vs xs as _=>b7 xs=true->ReadsAll h' vs xs as) ?_ ?_ ?_ ?_ ?_ ?_ ?_ ?_ ?_ r hk
 ·exact fun _=>.none
 ·intro b hk;cases hk
 ·exact fun i t _=>.int i t
 ·exact fun i t _=>.str i t
 ·intro b o' vs n xs as h1 h2 h3 h4 ih hk;cases hk
 ·intro b o' vs n xs as h1 h2 h3 h4 ih hk
  exact .tuple ((hs.2 b (fun z=>by subst z;rw[ho] at h1;cases h1;rw[hd] at h3;cases h3)).trans h1) h2 h3 (ih hk)
 ·intro b o' es' n kvs as bs h1 h2 h3 h4 h5 i1 i2 hk;cases hk
 ·exact fun _=>.nil
 ·intro v vs d ds as bs r1 r2 i1 i2 hk
  exact .cons (i1 ((Bool.and_eq_true ..).mp hk).1) (i2 ((Bool.and_eq_true ..).mp hk).2)
noncomputable def gM(prog:Program)(w:World):HeapKind prog w PyData where
 is:=aK6
 hash:=fM w
 draws:=eS
 room:=fun A=>A.units+9 < cLine
 inj:=fun {h a x y} hx hy=>by
  obtain ⟨k1,_,as,r1⟩:=hx
  obtain ⟨k2,_,bs,r2⟩:=hy
  exact PySem.SeqAt.Reads.unique x y _ _ _ (nS k1) r1 r2
 keeps:=fun {h h' k a d o es ep} hx ho hd hs=>by
  obtain ⟨k1,k2,as,r1⟩:=hx
  exact ⟨k1,k2,as,xZ ho hd hs k1 r1⟩
 pyHash:=fun {A E s k a Q} hu hk h=>by
  obtain ⟨k1,k2,as,r1⟩:=hk
  exact aHW k _ as A s Q k1 r1 (by omega) h
 eqBool:=fun {A E s x y a b Q} hu hx hy h=>by
  obtain ⟨k1,k2,as,r1⟩:=hx
  obtain ⟨l1,l2,bs,r2⟩:=hy
  refine PySem.SeqAt.eqAt_reads x y A s _ _ as bs r1 r2 (nS k1) (nS l1) ?_ prog w E Q ?_
  ·have:min x.depth y.depth<=8:=Nat.le_trans (Nat.min_le_left _ _) k2
   omega
  ·rw[aEX k1 l1];exact h
 quiet:=fun {A E s k a Q} hk h=>by
  obtain ⟨k1,k2,as,r1⟩:=hk
  exact aEY 8 k _ as Q k1 r1 k2 h
end Fl
namespace Fl
open PySem L2 PyProof.Rows
abbrev Ent:=PyData×V×V
def lX(w:World)(p:Ent)(en:DictEntry):Prop:=en.hash=fM w p.1/\aQ p.2.1 en.key/\aQ p.2.2 en.val
def cC(w:World)(a:Addr)(es:List Ent)(ep:Nat):HO:=.ext fun h=>(a == sysModules)=false/\∃ o ar,h.get? a=some o/\o.ExactDict/\o.data=.dict ar ep/\Paired (lX w) es ar.toList
theorem gW{P:Program}{w:World}{H:Hp}{h:Heap}{a:Addr}{es:List Ent}{ep:Nat}(hd:(a == sysModules)=false)(hh:∃ o ar,h.get? a=some o/\o.ExactDict/\o.data=.dict ar ep/\Paired (lX w) es ar.toList):bN P w H h a (cC w a es ep):=
 ⟨⟨hd,hh⟩,let ⟨o,_,e,_⟩:=hh;⟨o,e⟩,fun h1 h2 ⟨q,o,es,e,r⟩ kp=>⟨q,o,es,kp _ e,r⟩⟩
noncomputable def fF:PyData->Bool
 | .tuple xs=>keyD (.tuple xs) && decide ((PyData.tuple xs).depth<=8)
 | _=>false
noncomputable def kY:PyData->Bool
 | .int _=>true
 | .str _=>true
 | _=>false
def bS(k:PyData)(ks:List PyData):Bool:=(fF k && ks.all fF) || (kY k && ks.all kY)
theorem aEZ{d:PyData}(h:fF d=true):∃ xs,d=.tuple xs/\keyD d=true/\d.depth<=8:=by
 cases d with
 | tuple xs=>
  have h':(keyD (.tuple xs) && decide ((PyData.tuple xs).depth<=8))=true:=h
  rw[Bool.and_eq_true] at h'
  exact ⟨xs,rfl,h'.1,of_decide_eq_true h'.2⟩
 | _=>cases h
def fN:Key->PyData
 | .inl i=>.int i
 | .inr x=>.str x
theorem vM{d:PyData}(h:kY d=true):∃ k,d=fN k:=by
 cases d with
 | int i=>exact ⟨.inl i,rfl⟩
 | str i=>exact ⟨.inr i,rfl⟩
 | _=>cases h
theorem rM{a b:Key}(h:fN a=fN b):a=b:=by
 cases a<;>cases b<;>cases h<;>rfl
theorem vN{K:Frag}{H:Hp}{v:V}{k:Key}(h:DatV K H v (fN k)):v=kV k:=by
 cases k with
 | inl i=>exact h.int_of
 | inr x=>exact h.str_of
theorem tE{P:Program}{w:World}(k:Key):fM w (fN k)=(bT P w).hash k:=by
 cases k with
 | inl i=>exact rK w i
 | inr x=>exact rL w x
def p9:Ent->(PyData×Addr×Value)->Prop:=fun e x=>e.1=x.1/\e.2.1=.ref x.2.1/\aQ e.2.2 x.2.2
def qA:Ent->(Key×Value)->Prop:=fun e x=>e.1=fN x.1/\e.2.1=kV x.1/\aQ e.2.2 x.2
theorem z7{P:Program}{w:World}:∀ {es:List Ent} {ens:List DictEntry},Paired (lX w) es ens->(∀ e∈es,∃ b,e.2.1=.ref b)->∃ xs,ens=xs.map (entryOfKey (gM P w))/\Paired p9 es xs
 | _,_,.nil,_=>⟨[],rfl,.nil⟩
 | e::es,en::ens,.cons h t,hb=>by
  obtain ⟨xs,h1,h2⟩:=z7 (P:=P) t fun e he=>hb e (List.mem_cons_of_mem _ he)
  obtain ⟨b,hb'⟩:=hb e List.mem_cons_self
  obtain ⟨q1,q2,q3⟩:=h
  rw[hb'] at q2
  obtain ⟨hash,key,val⟩:=en
  have q2':key=Value.ref b:=q2
  have q1':hash=fM w e.1:=q1
  subst q2' q1'
  exact ⟨(e.1,b,val)::xs,by rw[List.map_cons,h1];rfl,.cons ⟨rfl,hb',q3⟩ h2⟩
theorem lY{P:Program}{w:World}:∀ {es:List Ent} {xs:List (PyData×Addr×Value)},Paired p9 es xs->Paired (lX w) es (xs.map (entryOfKey (gM P w)))
 | _,_,.nil=>.nil
 | _,_,.cons h t=>.cons ⟨by rw[h.1];rfl,by rw[h.2.1];rfl,h.2.2⟩ (lY t)
theorem z8{P:Program}{w:World}:∀ {es:List Ent} {ens:List DictEntry},Paired (lX w) es ens->(∀ e∈es,∃ k,e.1=fN k/\e.2.1=kV k)->∃ xs,Pairs (bT P w) ens xs/\Paired qA es xs/\∀ en∈ens,∃ k,(bT P w).is k en.key=true/\en.hash=(bT P w).hash k
 | _,_,.nil,_=>⟨[],.nil,.nil,fun _ h=>by cases h⟩
 | e::es,en::ens,.cons h t,hb=>by
  obtain ⟨xs,h1,h2,h3⟩:=z8 (P:=P) t fun e he=>hb e (List.mem_cons_of_mem _ he)
  obtain ⟨k,hk1,hk2⟩:=hb e List.mem_cons_self
  obtain ⟨q1,q2,q3⟩:=h
  have hi:(bT P w).is k en.key=true:=aDS (by rw[<-hk2];exact q2)
  refine ⟨(k,en.val)::xs,.cons hi rfl h1,.cons ⟨hk1,hk2,q3⟩ h2,fun en' hen=>?_⟩
  rcases List.mem_cons.mp hen with z|z
  · subst z; exact ⟨k, hi, by rw [q1, hk1, tE (P := P)]⟩
  · exact h3 en' z
theorem aE0{P:Program}{w:World}{k:Key}{v:Value}(h:(bT P w).is k v=true):aQ (kV k) v:=by
 rcases keyIs_shape h with ⟨i,t,rfl,rfl⟩|⟨x,t,rfl,rfl⟩
 · exact ⟨t, rfl⟩
 · exact ⟨t, rfl⟩
theorem lZ{P:Program}{w:World}:∀ {es:List Ent} {xs:List (Key×Value)} {ens:List DictEntry},Paired qA es xs->Pairs (bT P w) ens xs->(∀ en∈ens,∃ k,(bT P w).is k en.key=true/\en.hash=(bT P w).hash k)->Paired (lX w) es ens
 | _,_,_,.nil,.nil,_=>.nil
 | _,_,_,.cons h t,.cons p1 p2 ps,hk=>by
  obtain ⟨k,hk1,hk2⟩:=hk _ List.mem_cons_self
  obtain rfl:=(bT P w).inj _ _ _ hk1 p1
  refine .cons ⟨by rw[hk2,h.1,tE (P:=P)],by rw[h.2.1];exact aE0 hk1,by rw[p2];exact h.2.2⟩ (lZ t ps fun en he=>hk en (List.mem_cons_of_mem _ he))
noncomputable def atE(es:List Ent)(k:PyData):Option V:=(es.find? fun e=>decide (e.1=k)).map (·.2.2)
noncomputable def i7(es:List Ent)(k:PyData)(kv v:V):List Ent:=if (atE es k).isSome then es.map (fun e=>if e.1=k then (e.1,e.2.1,v) else e) else es++[(k,kv,v)]
theorem m7{k:PyData}:∀ {es:List Ent} {xs:List (PyData×Addr×Value)},Paired p9 es xs->i6 (atE es k) ((atKey xs k).map (·.2))
 | _,_,.nil=>trivial
 | e::es,x::xs,.cons h t=>by
  have ih:=m7 (k:=k) t
  unfold atE atKey at ih ⊢
  rw[List.find?_cons,List.find?_cons,h.1]
  by_cases q:x.1=k
  · rw [decide_eq_true q]; exact h.2.2
  · rw [decide_eq_false q]; exact ih
theorem m8{k:Key}:∀ {es:List Ent} {xs:List (Key×Value)},Paired qA es xs->i6 (atE es (fN k)) (valueAt xs k)
 | _,_,.nil=>trivial
 | e::es,x::xs,.cons h t=>by
  have ih:=m8 (k:=k) t
  unfold atE valueAt at ih ⊢
  rw[List.find?_cons,List.find?_cons,h.1]
  by_cases q:x.1=k
  · rw [decide_eq_true q, decide_eq_true (by rw [q])]; exact h.2.2
  · rw [decide_eq_false q, decide_eq_false (fun z => q (rM z))]; exact ih
theorem kI{o:Option V}{u:Option Value}(h:i6 o u):o.isSome=u.isSome:=by
 cases o<;>cases u<;>first|rfl|exact h.elim
theorem l5{α β:Type}{f:α->β->Prop}{g:α->α}{k:β->β}(hg:∀ a b,f a b->f (g a) (k b)):∀ {xs:List α} {ys:List β},Paired f xs ys->Paired f (xs.map g) (ys.map k)
 | _,_,.nil=>.nil
 | _,_,.cons h t=>.cons (hg _ _ h) (l5 hg t)
theorem l6{α β:Type}{f:α->β->Prop}{a:α}{b:β}(h:f a b):∀ {xs:List α} {ys:List β},Paired f xs ys->Paired f (xs++[a]) (ys++[b])
 | _,_,.nil=>.cons h .nil
 | _,_,.cons q t=>.cons q (l6 h t)
theorem x3{k:PyData}{b:Addr}{v:V}{u:Value}{es:List Ent}{xs:List (PyData×Addr×Value)}(r:aQ v u)(h:Paired p9 es xs):Paired p9 (i7 es k (.ref b) v) (storedH xs k b u):=by
 have q:=kI (m7 (k:=k) h)
 rw[Option.isSome_map] at q
 unfold i7 storedH
 rw[q]
 cases (atKey xs k).isSome with
 | true=>
  rw[if_pos rfl,if_pos rfl]
  refine l5 (fun e x hx=>?_) h
  unfold putAt
  rw[hx.1]
  by_cases z:x.1=k
  · rw [if_pos z, if_pos z]; exact ⟨rfl, hx.2.1, r⟩
  · rw [if_neg z, if_neg z]; exact hx
 | false=>rw[if_neg (by decide),if_neg (by decide)];exact l6 ⟨rfl,rfl,r⟩ h
theorem aDW{k:Key}:∀ {xs:List (Key×Value)},xs.any (fun kv=>decide (kv.1=k))=(valueAt xs k).isSome
 | []=>rfl
 | x::xs=>by
  have ih:=aDW (k:=k) (xs:=xs)
  unfold valueAt at ih ⊢
  rw[List.any_cons,List.find?_cons]
  by_cases q:x.1=k
  · rw [decide_eq_true q]; rfl
  · rw [decide_eq_false q, Bool.false_or]; exact ih
theorem x4{k:Key}{v:V}{u:Value}{es:List Ent}{xs:List (Key×Value)}(r:aQ v u)(h:Paired qA es xs):Paired qA (i7 es (fN k) (kV k) v) (stored xs k u):=by
 have q:=kI (m8 (k:=k) h)
 unfold i7 stored
 rw[q,aDW]
 cases (valueAt xs k).isSome with
 | true=>
  rw[if_pos rfl,if_pos rfl]
  refine l5 (fun e x hx=>?_) h
  by_cases z:x.1=k
  · rw [if_pos z, if_pos (by rw [hx.1, z])]; exact ⟨by rw [hx.1], hx.2.1, r⟩
  · rw [if_neg z, if_neg (fun y => z (rM (hx.1.symm.trans y)))]; exact hx
 | false=>rw[if_neg (by decide),if_neg (by decide)];exact l6 ⟨rfl,rfl,r⟩ h
section
variable{X:Cx}{pins:List (Addr×Obj)}{σ:L2.St}{H:Hp}{s:Shared}{a:Addr}{es:List Ent}{k:PyData}{kv v:V}{ku u:Value}{A:Around}{E:Value->Shared->Prop}
structure DicAt(X:Cx)(H:Hp)(a:Addr)(es:List Ent)(k:PyData)(kv:V):Prop where
 o:∃ ep,H a=some (cC X.w a es ep)
 ks:∀ e∈es,DatV X.K H e.2.1 e.1
 nd:(es.map (·.1)).Nodup
 dk:DatV X.K H kv k
 one:bS k (es.map (·.1))=true
theorem pB{α β:Type}{f:α->β->Prop}{y:β}:∀ {xs:List α} {ys:List β},Paired f xs ys->y∈ys->∃ x,x∈xs/\f x y
 | _,_,.nil,h=>by cases h
 | _,_,.cons q t,h=>by
  rcases List.mem_cons.mp h with z|z
  ·subst z;exact ⟨_,List.mem_cons_self,q⟩
  ·obtain ⟨x,h1,h2⟩:=pB t z
   exact ⟨x,List.mem_cons_of_mem _ h1,h2⟩
theorem l7{α β γ:Type}{f:α->β->Prop}{g:α->γ}{k:β->γ}(h:∀ a b,f a b->g a=k b):∀ {xs:List α} {ys:List β},Paired f xs ys->xs.map g=ys.map k
 | _,_,.nil=>rfl
 | _,_,.cons q t=>by rw[List.map_cons,List.map_cons,h _ _ q,l7 h t]
theorem rN{α β:Type}{f:α->β}:∀ {xs:List α},(xs.map f).Nodup->xs.Nodup
 | [],_=>List.nodup_nil
 | x::t,h=>by
  rw[List.map_cons,List.nodup_cons] at h
  exact List.nodup_cons.mpr ⟨fun z=>h.1 (List.mem_map_of_mem z),rN h.2⟩
theorem DicAt.cases (D : DicAt X H a es k kv) (I : Inv X pins σ H s) (rk : aQ kv ku) : (a == sysModules) = false /\
    ((∃ b xs, kv = .ref b /\ ku = .ref b /\ Paired p9 es xs /\ (gM X.prog X.w).is s.heap k b /\ s.heap.DictOfH (gM X.prog X.w) a xs) \/
     (∃ kk xs, k = fN kk /\ kv = kV kk /\ Paired qA es xs /\ (bT X.prog X.w).is kk ku = true /\ s.heap.DictOf (bT X.prog X.w) a xs)) := by
  obtain ⟨ep, hO⟩ := D.o
  obtain ⟨⟨hd, o, ar, h1, h2, h3, h4⟩, _, _⟩ := (show bN X.prog X.w H s.heap a (cC X.w a es ep) from I.hok a _ hO)
  refine ⟨hd, ?_⟩
  have hone := D.one
  unfold bS at hone
  rw [Bool.or_eq_true, Bool.and_eq_true, Bool.and_eq_true, List.all_eq_true, List.all_eq_true] at hone
  rcases hone with ⟨hk, ha⟩ | ⟨hk, ha⟩
  · have key : ∀ (d : PyData) (v : V), fF d = true -> DatV X.K H v d -> ∃ b', v = .ref b' /\ (gM X.prog X.w).is s.heap d b' := fun d v hd hv => by
      obtain ⟨ws, rfl, q1, q2⟩ := aEZ hd
      obtain ⟨b', vs, rfl, _, _⟩ := hv.tup_of
      obtain ⟨as, r⟩ := hv.reads I (u := .ref b') rfl
      exact ⟨b', rfl, q1, q2, as, r⟩
    obtain ⟨b, rfl, hkb⟩ := key _ _ hk D.dk
    cases (show ku = Value.ref b from rk)
    obtain ⟨xs, hx1, hx2⟩ := z7 (P := X.prog) h4 fun e he => by
      obtain ⟨b', e1, _⟩ := key e.1 e.2.1 (ha _ (List.mem_map_of_mem he)) (D.ks e he)
      exact ⟨b', e1⟩
    refine .inl ⟨b, xs, rfl, rfl, hx2, hkb, o, ar, ep, h1, h2, h3, hx1, fun x hx => ?_, ?_⟩
    · obtain ⟨e, he, hex⟩ := pB hx2 hx
      obtain ⟨b', e1, q⟩ := key e.1 e.2.1 (ha _ (List.mem_map_of_mem he)) (D.ks e he)
      rw [hex.2.1] at e1
      cases e1
      rw [<- hex.1]; exact q
    · rw [<- l7 (g := fun e : Ent => e.1) (fun a b h => h.1) hx2]; exact D.nd
  · obtain ⟨kk, rfl⟩ := vM hk
    have hkv := vN D.dk
    obtain ⟨xs, hx1, hx2, hx3⟩ := z8 (P := X.prog) h4 fun e he => by
      obtain ⟨k', hk'⟩ := vM (ha _ (List.mem_map_of_mem he))
      have q := D.ks e he
      rw [hk'] at q
      exact ⟨k', hk', vN q⟩
    refine .inr ⟨kk, xs, rfl, hkv, hx2, aDS (by rw [<- hkv]; exact rk), o, ar, ep, h1, h2, h3, fun en hen => hx3 en (by simpa using hen), hx1, ?_⟩
    have : es.map (·.1) = (xs.map (·.1)).map fN := by rw [List.map_map]; exact l7 (g := fun e : Ent => e.1) (fun a b h => h.1) hx2
    have nd := D.nd
    rw [this] at nd
    exact rN nd
theorem kJ{A:Around}(hu:A.units+64 < cLine):(gM X.prog X.w).room A.in1:=by show A.in1.units+9 < cLine;rw[rJ];omega
theorem aE1{Q:Value->Shared->Prop}(hu:A.units+64 < cLine)(D:DicAt X H a es k kv)(I:Inv X pins σ H s)(rk:aQ kv ku)(h:∀ s',Inv X pins σ H s'->Q (.bool (!(atE es k).isSome)) s'):wpAny (model X.prog X.w) A (compareOp .NotIn ku (.ref a)) Q E s:=by
 obtain ⟨hd,⟨b,xs,rfl,rfl,hx,hk,dd⟩|⟨kk,xs,rfl,rfl,hx,hk,dd⟩⟩:=D.cases I rk
 ·refine wpAny_notIn_heap (kJ hu) hk hd dd ?_
  have q:=kI (m7 (k:=k) hx)
  rw[Option.isSome_map] at q
  rw[<-q];exact h _ (I.tok _)
 ·refine wpAny_notIn_of hk hd dd.mapOf ?_
  rw[<-kI (m8 (k:=kk) hx)];exact h _ (I.tok _)
theorem aE2{Q:Value->Shared->Prop}(hu:A.units+64 < cLine)(D:DicAt X H a es k kv)(I:Inv X pins σ H s)(rk:aQ kv ku)(hv:atE es k=some v)(h:∀ w' s',Inv X pins σ H s'->aQ v w'->Q w' s'):wpAny (model X.prog X.w) A (getItem (.ref a) ku) Q E s:=by
 obtain ⟨hd,⟨b,xs,rfl,rfl,hx,hk,dd⟩|⟨kk,xs,rfl,rfl,hx,hk,dd⟩⟩:=D.cases I rk
 ·have q:=m7 (k:=k) hx
  rw[hv] at q
  obtain ⟨w',hw,rw'⟩:=i6.some_of q
  obtain ⟨p,hp,hp2⟩:=Option.map_eq_some_iff.mp hw
  refine wpAny_getItem_heap (kJ hu) hk dd hp ?_
  rw[hp2];exact h w' _ (I.tok _) rw'
 ·have q:=m8 (k:=kk) hx
  rw[hv] at q
  obtain ⟨w',hw,rw'⟩:=i6.some_of q
  exact wpAny_getItem_of hk dd.mapOf hw (h w' _ (I.tok _) rw')
theorem aE3{Q:Unit->Shared->Prop}(hu:A.units+64 < cLine)(D:DicAt X H a es k kv)(I:Inv X pins σ H s)(rk:aQ kv ku)(rv:aQ v u)(hz:es.length<=sizeLine)(h:∀ ep s',Inv X pins σ (upd H a (cC X.w a (i7 es k kv v) ep)) s'->Q () s') :
  wpAny (model X.prog X.w) A (setItem (.ref a) ku u) Q E s:=by
 obtain ⟨hd,⟨b,xs,rfl,rfl,hx,hk,dd⟩|⟨kk,xs,rfl,rfl,hx,hk,dd⟩⟩:=D.cases I rk
 ·have hl:xs.length<=sizeLine:=by rw[<-Paired.length hx];exact hz
  refine wpAny_setItem_heap (hsz:=hl) (kJ hu) hk dd fun h' dd' hs=>?_
  obtain ⟨q',ar,ep,hq,h2,h3,h4,_,h5⟩:=dd'
  obtain ⟨ep0,hO⟩:=D.o
  refine h ep _ (jL I (by rw[hO];exact True.intro) hs ⟨q',hq⟩ (gW hd ⟨q',ar,hq,h2,h3,?_⟩))
  rw[h4]
  exact lY (x3 rv hx)
 ·have hl:xs.length<=sizeLine:=by rw[<-Paired.length hx];exact hz
  refine wpAny_setItem_pairs (hsz:=hl) hk dd fun h' dd' hs=>?_
  obtain ⟨q',ar,ep,hq,h2,h3,h4,h5,_⟩:=dd'
  obtain ⟨ep0,hO⟩:=D.o
  refine h ep _ (jL I (by rw[hO];exact True.intro) hs ⟨q',hq⟩ (gW hd ⟨q',ar,hq,h2,h3,?_⟩))
  exact lZ (x4 rv hx) h5 fun en hen=>h4 en (by simpa using hen)
end
end Fl
namespace Fl
open PySem L2 PyProof.Rows
structure Er where
 c:Str
 fs:List (Str×PyData)
inductive R(α:Type) where
 | bad|ok (a:α)|ex (e:Er)
noncomputable def R.bind{α β:Type}:R α->(α->R β)->R β
 | .bad,_=>.bad
 | .ok a,f=>f a
 | .ex e,_=>.ex e
@[simp] theorem R.bind_ok{α β:Type}(a:α)(f:α->R β):(R.ok a).bind f=f a:=id rfl
@[simp] theorem R.bind_bad{α β:Type}(f:α->R β):(R.bad:R α).bind f=.bad:=id rfl
@[simp] theorem R.bind_ex{α β:Type}(e:Er)(f:α->R β):(R.ex e:R α).bind f=.ex e:=id rfl
inductive A where
 | d (x:PyData)|l (xs:List PyData)|m (kvs:List (PyData×PyData))|x (e:Er)|g (k n:Nat) (f:List PyData->R PyData)|k (q:Str)|f (kvs:List (PyData×PyData))
abbrev Sg:=List (Option A)
structure Gb where
 B:Addr->Hp->Nat->Nat->(List PyData->R PyData)->Prop
 T:Hp
 w:World
structure Ct where
 K:Frag
 mg:Str->Option Value
 w:World
 F0:Hp
 H0:Hp
 g:Gb
 cells:List (Str×Addr)
 cls:Str->Option ClSt
theorem tF{w:World}{p:Addr}{es:List Ent}{ep:Nat}{q:Str}(h:cC w p es ep=.cod q):False:=by unfold cC at h;cases h
theorem bK(H:Hp):aG H H:=fun _ _ h=>h
theorem bG{H H':Hp}(s:aG H H'){a:Addr}(h:H' a=none):H a=none:=by
 cases e:H a with
 | none=>rfl
 | some o=>rw[s a o e] at h;cases h
def kK(H:Hp)(a:Addr):Prop:=H a=none\/∃ q,H a=some (.cod q)
theorem kK.back{H H1:Hp}{a:Addr}(s:aG H H1)(h:kK H1 a):kK H a:=by
 cases e:H a with
 | none=>exact .inl e
 | some o=>
  have e1:=s a o e
  rcases h with z|⟨q,z⟩
  · rw [e1] at z; cases z
  · rw [e1] at z; cases z; exact .inr ⟨q, e⟩
structure Ext(F H F' H':Hp):Prop where
 hh:aG H H'
 ff:aG F F'
 fh:aG F' H'
 nw:∀ a,F a=none->F' a≠none->kK H a
theorem Ext.refl{F H:Hp}(h:aG F H):Ext F H F H:=⟨bK H,bK F,h,fun a e n=>absurd e n⟩
theorem Ext.trans{F H F1 H1 F2 H2:Hp}(a:Ext F H F1 H1)(b:Ext F1 H1 F2 H2):Ext F H F2 H2:=
 ⟨fun x o e=>b.hh x o (a.hh x o e),fun x o e=>b.ff x o (a.ff x o e),b.fh,fun x e n=>by
  cases q:F1 x with
  | none=>exact (b.nw x q n).back a.hh
  | some o=>exact a.nw x e (by rw[q];exact fun z=>nomatch z)⟩
theorem Ext.stay{F H F' H':Hp}(s:Ext F H F' H'){p:Addr}{o:HO}(h3:F p=none)(h2:H p=some o)(hno:∀ q,o≠.cod q):F' p=none:=by
 cases q:F' p with
 | none=>rfl
 | some o=>
  rcases s.nw p h3 (by rw[q];exact fun z=>nomatch z) with z|⟨q',z⟩
  · rw [z] at h2; cases h2
  · rw [z] at h2; cases h2; exact absurd rfl (hno _)
theorem aB8{F H:Hp}{p:Addr}{o:HO}(s:aG F H):aG (upd F p o) (upd H p o):=fun a u e=>by
 by_cases q:a=p
 · subst q; rw [aU] at e ⊢; exact e
 · rw [aI q] at e ⊢; exact s a u e
theorem Ext.new{F H:Hp}{p:Addr}{o:HO}(s:aG F H)(hp:H p=none):Ext F H (upd F p o) (upd H p o):=
 ⟨aG.upd hp,aG.upd (bG s hp),aB8 s,fun a e n=>by
  by_cases q:a=p
  · subst q; exact .inl hp
  · rw [aI q] at n; exact absurd e n⟩
theorem Ext.own{F H:Hp}{p:Addr}{o:HO}(s:aG F H)(hp:H p=none):Ext F H F (upd H p o):=
 ⟨aG.upd hp,bK F,fun a u e=>by
  rw[aI (bI (s a u e) hp)];exact s a u e,fun a e n=>absurd e n⟩
def i8(K:Frag)(mg:Str->Option Value)(F:Hp)(e:Er)(a C:Addr):Prop:=mg e.c=some (.ref C)/\∃ od,F a=some (ExO a C od)/\((e.fs=[]/\od=none)\/∃ d fvs,od=some d/\F d=some (.xd fvs)/\fvs.map (·.1)=e.fs.map (·.1)/\DatVs K F (fvs.map (·.2)) (e.fs.map (·.2)))
theorem i8.same{K:Frag}{mg:Str->Option Value}{F F':Hp}{e:Er}{a C:Addr}(s:aG F F')(h:i8 K mg F e a C):i8 K mg F' e a C:=by
 obtain ⟨m,od,h1,h2⟩:=h
 refine ⟨m,od,s _ _ h1,h2.imp id ?_⟩
 rintro ⟨d,fvs,e1,e2,e3,e4⟩
 exact ⟨d,fvs,e1,s _ _ e2,e3,e4.same s⟩
structure MapRel(K:Frag)(F:Hp)(es:List Ent)(kvs:List (PyData×PyData)):Prop where
 k1:es.map (·.1)=kvs.map (·.1)
 k2:DatVs K F (es.map (·.2.1)) (kvs.map (·.1))
 vs:DatVs K F (es.map (·.2.2)) (kvs.map (·.2))
 nd:(kvs.map (·.1)).Nodup
theorem MapRel.same{K:Frag}{F F':Hp}{es:List Ent}{kvs:List (PyData×PyData)}(s:aG F F')(h:MapRel K F es kvs):MapRel K F' es kvs:=⟨h.k1,h.k2.same s,h.vs.same s,h.nd⟩
def AF(g:Gb)(K:Frag)(mg:Str->Option Value)(F:Hp):A->V->Prop
 | .d x,v=>DatV K F v x
 | .x e,v=>∃ a C,v=.ref a/\i8 K mg F e a C
 | .g k n G,v=>∃ f F1,v=.ref f/\aG F1 F/\g.B f F1 k n G
 | .f kvs,v=>∃ p es,v=.ref p/\(∃ ep,F p=some (cC g.w p es ep))/\MapRel K F es kvs
 | _,_=>False
theorem AF.same{g:Gb}{K:Frag}{mg:Str->Option Value}{F F':Hp}(s:aG F F'):∀ {a:A} {v:V},AF g K mg F a v->AF g K mg F' a v
 | .d x,v,h=>DatV.same s h
 | .x e,v,⟨a,C,h1,h2⟩=>⟨a,C,h1,h2.same s⟩
 | .g k n G,v,⟨f,F1,h1,h2,h3⟩=>⟨f,F1,h1,fun a o z=>s a o (h2 a o z),h3⟩
 | .f kvs,v,⟨p,es,h1,⟨ep,h2⟩,h3⟩=>⟨p,es,h1,⟨ep,s _ _ h2⟩,h3.same s⟩
noncomputable def A.own:A->Bool
 | .l _=>true
 | .m _=>true
 | _=>false
def AO(c:Ct)(F H:Hp):A->V->Prop
 | .l xs,v=>∃ p vs,v=.ref p/\H p=some (.lst vs)/\F p=none/\c.H0 p=none/\DatVs c.K F vs xs
 | .m kvs,v=>∃ p es,v=.ref p/\(∃ ep,H p=some (cC c.w p es ep))/\F p=none/\c.H0 p=none/\MapRel c.K F es kvs
 | .k q,v=>∃ S f cl doc pm cc ct,c.cls q=some S/\v=.ref f/\F f=some (FnO f (S.obj cl doc pm cc ct))/\F cc=some (.cod S.qual)/\ClOf c.cells S.scope cl
 | a,v=>AF c.g c.K c.mg F a v
theorem AO.ext{c:Ct}{F H F' H':Hp}(s:Ext F H F' H'):∀ {a:A} {v:V},AO c F H a v->AO c F' H' a v
 | .d x,v,h=>DatV.same s.ff h
 | .x e,v,h=>AF.same (g:=c.g) (K:=c.K) (mg:=c.mg) (a:=.x e) s.ff h
 | .g k n G,v,h=>AF.same (g:=c.g) (K:=c.K) (mg:=c.mg) (a:=.g k n G) s.ff h
 | .f kvs,v,h=>AF.same (g:=c.g) (K:=c.K) (mg:=c.mg) (a:=.f kvs) s.ff h
 | .k q,v,⟨S,f,cl,doc,pm,cc,ct,h0,h1,h2,h3,h4⟩=>⟨S,f,cl,doc,pm,cc,ct,h0,h1,s.ff _ _ h2,s.ff _ _ h3,h4⟩
 | .l xs,v,⟨p,vs,h1,h2,h3,h4,h5⟩=>⟨p,vs,h1,s.hh _ _ h2,s.stay h3 h2 (fun _ z=>nomatch z),h4,h5.same s.ff⟩
 | .m kvs,v,⟨p,vs,h1,⟨ep,h2⟩,h3,h4,h5⟩=>⟨p,vs,h1,⟨ep,s.hh _ _ h2⟩,s.stay h3 h2 (fun _ z=>tF z),h4,h5.same s.ff⟩
theorem AO.at{c:Ct}{F H:Hp}{a:A}{v:V}(h:AO c F H a v)(o:a.own=true):∃ p o,v=.ref p/\H p=some o/\F p=none/\c.H0 p=none:=by
 cases a with
 | l xs=>obtain ⟨p,vs,h1,h2,h3,h4,h5⟩:=h;exact ⟨p,_,h1,h2,h3,h4⟩
 | m xs=>obtain ⟨p,vs,h1,⟨ep,h2⟩,h3,h4,h5⟩:=h;exact ⟨p,_,h1,h2,h3,h4⟩
 | d x=>cases o
 | x e=>cases o
 | g k n f=>cases o
 | k S=>cases o
 | f S=>cases o
theorem AO.off{c:Ct}{F H:Hp}{p:Addr}{o:HO}:∀ {a:A} {v:V},AO c F H a v->v≠.ref p->AO c F (upd H p o) a v
 | .l xs,v,⟨q,vs,h1,h2,h3,h4,h5⟩,n=>⟨q,vs,h1,by rw[aI (fun z=>n (by rw[h1,z]))];exact h2,h3,h4,h5⟩
 | .m xs,v,⟨q,vs,h1,⟨ep,h2⟩,h3,h4,h5⟩,n=>⟨q,vs,h1,⟨ep,by rw[aI (fun z=>n (by rw[h1,z]))];exact h2⟩,h3,h4,h5⟩
 | .d x,v,h,_=>h
 | .x e,v,h,_=>h
 | .g k n G,v,h,_=>h
 | .k S,v,h,_=>h
 | .f S,v,h,_=>h
structure Ab(c:Ct)(ρ:Sg)(σ:L2.St)(F H:Hp):Prop where
 len:ρ.length=σ.length
 fh:aG F H
 slot:∀ (i:Nat) (a:A),ρ[i]? = some (some a)->∃ v,σ[i]? = some (some v)/\AO c F H a v
 apart:∀ (i j:Nat) (a b:A),i≠j->ρ[i]? = some (some a)->ρ[j]? = some (some b)->a.own=true->b.own=true->σ[i]? ≠ σ[j]?
 f0:aG c.F0 F
 h0:aG c.H0 H
 n0:∀ a,c.F0 a=none->F a≠none->kK c.H0 a
 t0:aG c.g.T c.F0
theorem Ab.all{c:Ct}{ρ:Sg}{σ:L2.St}{F H:Hp}(b:Ab c ρ σ F H):Ext c.F0 c.H0 F H:=⟨b.h0,b.f0,b.fh,b.n0⟩
theorem Ab.ext{c:Ct}{ρ:Sg}{σ:L2.St}{F H F' H':Hp}(b:Ab c ρ σ F H)(e:Ext F H F' H'):Ab c ρ σ F' H' where
 len:=b.len
 fh:=e.fh
 slot:=fun i a h=>let ⟨v,h1,h2⟩:=b.slot i a h;⟨v,h1,h2.ext e⟩
 apart:=b.apart
 f0:=fun x o h=>e.ff x o (b.f0 x o h)
 h0:=fun x o h=>e.hh x o (b.h0 x o h)
 n0:=fun a h n=>by
  cases q:F a with
  | none=>exact (e.nw a q n).back b.h0
  | some o=>exact b.n0 a h (by rw[q];exact fun z=>nomatch z)
 t0:=b.t0
def XW(c:Ct)(E:XK)(e:Er):Prop:=∀ a C F' H',Ext c.F0 c.H0 F' H'->i8 c.K c.mg F' e a C->E (.ref C) (some a) H'
def Rk{α:Type}(c:Ct)(E:XK)(F H:Hp)(r:R α)(k:α->Prop):Prop:=match r with
 | .bad=>False
 | .ok a=>k a
 | .ex e=>XW c E e
abbrev VR(α:Type):=α->V->Hp->Hp->Hp->Prop
def tV{α:Type}(Rel:VR α)(c:Ct)(E:XK)(f:Sg->R α):TE:=fun σ H Q=>∃ ρ F,Ab c ρ σ F H/\Rk c E F H (f ρ) fun d=>∀ v F' H',Ext F H F' H'->Rel d v H F' H'->Q v H'
def cL(c:Ct):VR PyData:=fun d v _ F _=>DatV c.K F v d
def aS(K:Frag)(F H:Hp)(v:V)(d:PyData):Prop:=DatV K F v d\/∃ p vs xs,v=.ref p/\d=.list xs/\H p=some (.lst vs)/\DatVs K F vs xs
def bJ(c:Ct):VR PyData:=fun d v _ F H=>aS c.K F H v d
def aB9(c:Ct):VR A:=fun a v _ F _=>AF c.g c.K c.mg F a v
def tG(c:Ct):VR (List PyData):=fun xs v H F H'=>∃ p vs,v=.ref p/\H p=none/\H' p=some (.lst vs)/\F p=none/\DatVs c.K F vs xs
abbrev PD(X:Cx)(c:Ct)(E:XK)(e:Expr)(f:Sg->R PyData):Prop:=PE X e (tV (cL c) c E f)
abbrev PR(X:Cx)(c:Ct)(E:XK)(e:Expr)(f:Sg->R PyData):Prop:=PE X e (tV (bJ c) c E f)
abbrev PV(X:Cx)(c:Ct)(E:XK)(e:Expr)(f:Sg->R A):Prop:=PE X e (tV (aB9 c) c E f)
abbrev PN(X:Cx)(c:Ct)(E:XK)(e:Expr)(f:Sg->R (List PyData)):Prop:=PE X e (tV (tG c) c E f)
theorem PE.imp{X:Cx}{e:Expr}{t t':TE}(h:PE X e t)(i:∀ σ H Q,t' σ H Q->t σ H Q):PE X e t':=fun pins s σ H Q I q=>h pins s σ H Q I (i σ H Q q)
theorem PT.imp{X:Cx}{e:Expr}{t t':TT}(h:PT X e t)(i:∀ σ H Q,t' σ H Q->t σ H Q):PT X e t':=fun pins s σ H Q I q=>h pins s σ H Q I (i σ H Q q)
theorem PS.imp{X:Cx}{e:Stmt}{t t':TS}(h:PS X e t)(i:∀ D σ H,t' D σ H->t D σ H):PS X e t':=fun pins s σ H D I q=>h pins s σ H D I (i D σ H q)
theorem PSs.imp{X:Cx}{e:List Stmt}{t t':TS}(h:PSs X e t)(i:∀ D σ H,t' D σ H->t D σ H):PSs X e t':=fun pins s σ H D I q=>h pins s σ H D I (i D σ H q)
def aDX{α:Type}(Rel:VR α):Prop:=∀ d v H F H1 F2 H2,Ext F H1 F2 H2->Rel d v H F H1->Rel d v H F2 H2
theorem aS.ext{K:Frag}{F H F' H':Hp}{v:V}{d:PyData}(e:Ext F H F' H')(h:aS K F H v d):aS K F' H' v d:=by
 rcases h with h|⟨p,vs,xs,h1,h2,h3,h4⟩
 · exact .inl (h.same e.ff)
 · exact .inr ⟨p, vs, xs, h1, h2, e.hh _ _ h3, h4.same e.ff⟩
theorem pC(c:Ct):aDX (bJ c):=fun d v H F H1 F2 H2 e h=>aS.ext e h
theorem aS.heap{K:Frag}{F H:Hp}{v:V}{d:PyData}(s:aG F H)(h:aS K F H v d):DatV K H v d:=by
 rcases h with h|⟨p,vs,xs,h1,h2,h3,h4⟩
 · exact h.same s
 · subst h1 h2; exact .lst (SqL.of h3) (h4.same s)
section
variable{X:Cx}{c:Ct}{E:XK}{α β γ:Type}{Ra:VR α}{Rb:VR β}{Rc:VR γ}{σ:L2.St}{H:Hp}{Q:VK}
theorem Rk.ok{F:Hp}{a:α}{k:α->Prop}(h:Rk c E F H (.ok a) k):k a:=h
theorem Rk.imp{F:Hp}{r:R α}{k k':α->Prop}(h:Rk c E F H r k)(i:∀ a,r=.ok a->k a->k' a):Rk c E F H r k':=by
 cases r with
 | bad=>exact h
 | ok a=>exact i a rfl h
 | ex e=>exact h
theorem Rk.bind{F:Hp}{r:R α}{f:α->R β}{k:β->Prop}(h:Rk c E F H (r.bind f) k):Rk c E F H r fun a=>Rk c E F H (f a) k:=by
 cases r with
 | bad=>exact h
 | ok a=>exact h
 | ex e=>exact h
theorem Rk.ext{F F' H':Hp}{r:R α}{k:α->Prop}(e:Ext F H F' H')(h:Rk c E F H r k):Rk c E F' H' r k:=by
 cases r with
 | bad=>exact h
 | ok a=>exact h
 | ex x=>exact h
end
def x5{α:Type}(Rel:VR α):Prop:=∀ d v H H1 F' H',aG H H1->Rel d v H1 F' H'->Rel d v H F' H'
theorem l8(c:Ct):x5 (cL c):=fun _ _ _ _ _ _ _ h=>h
theorem aJY(c:Ct):x5 (tG c):=fun _ _ _ _ _ _ s h=>by
 obtain ⟨p,vs,h1,h2,h3⟩:=h
 exact ⟨p,vs,h1,bG s h2,h3⟩
section
variable{X:Cx}{c:Ct}{E:XK}{α β γ:Type}{Ra:VR α}{Rb:VR β}{Rc:VR γ}
def Op1(c:Ct)(Ra:VR α)(Rb:VR β)(g:α->R β)(r:V->Hp->VK->Prop):Prop:=
 ∀ (H0 F H:Hp) (a:α) (b:β) (v:V) (Q:VK),aG F H->Ra a v H0 F H->g a=.ok b->(∀ w F' H',Ext F H F' H'->Rb b w H F' H'->Q w H')->r v H Q
def Op2(c:Ct)(Ra:VR α)(Rb:VR β)(Rc:VR γ)(g:α->β->R γ)(r:R2):Prop:=
 ∀ (H0 H1 F H:Hp) (a:α) (b:β) (d:γ) (v u:V) (Q:VK),aG F H->Ra a v H0 F H->Rb b u H1 F H->g a b=.ok d->(∀ w F' H',Ext F H F' H'->Rc d w H F' H'->Q w H')->r v u H Q
def m9(g:α->R β):Prop:=∀ a e,g a≠.ex e
def c8(g:α->β->R γ):Prop:=∀ a b e,g a b≠.ex e
theorem tV1{f:Sg->R α}{g:α->R β}{r:V->Hp->VK->Prop}(ho:Op1 c Ra Rb g r)(hp:m9 g)(kb:x5 Rb){σ:L2.St}{H:Hp}{Q:VK}(h:tV Rb c E (fun ρ=>(f ρ).bind g) σ H Q) :
  tV Ra c E f σ H fun v H1=>r v H1 Q:=by
 obtain ⟨ρ,F,ab,h⟩:=h
 refine ⟨ρ,F,ab,(Rk.bind h).imp fun a ea q v F1 H1 e1 rv=>?_⟩
 cases eg:g a with
 | bad=>rw[eg] at q;exact q.elim
 | ex e=>exact absurd eg (hp a e)
 | ok b=>
  rw[eg] at q
  exact ho H F1 H1 a b v Q e1.fh rv eg fun w F' H' e2 rw'=>q w F' H' (e1.trans e2) (kb _ _ _ _ _ _ e1.hh rw')
theorem tV2{f:Sg->R α}{f':Sg->R β}{g:α->β->R γ}{r:R2}(ho:Op2 c Ra Rb Rc g r)(hp:c8 g)(ka:aDX Ra)(kb:x5 Rc){σ:L2.St}{H:Hp}{Q:VK}(h:tV Rc c E (fun ρ=>(f ρ).bind fun a=>(f' ρ).bind fun b=>g a b) σ H Q) :
  tOp r (tV Ra c E f) (tV Rb c E f') σ H Q:=by
 obtain ⟨ρ,F,ab,h⟩:=h
 refine ⟨ρ,F,ab,(Rk.bind h).imp fun a ea q v F1 H1 e1 rv=>?_⟩
 refine ⟨ρ,F1,ab.ext e1,((Rk.bind q).ext e1).imp fun b eb q u F2 H2 e2 ru=>?_⟩
 cases eg:g a b with
 | bad=>rw[eg] at q;exact q.elim
 | ex e=>exact absurd eg (hp a b e)
 | ok d=>
  rw[eg] at q
  exact ho H H1 F2 H2 a b d v u Q e2.fh (ka _ _ _ _ _ _ _ e2 rv) ru eg fun w F' H' e3 rw'=>q w F' H' ((e1.trans e2).trans e3) (kb _ _ _ _ _ _ (fun x o z=>e2.hh x o (e1.hh x o z)) rw')
end
end Fl
namespace Fl
open PySem L2 PyProof.Rows
section
variable{K:Frag}{F H:Hp}{v:V}
theorem DatV.bl_of{b:Bool}(h:DatV K H v (.bool b)):v=.bl b:=by cases h;rfl
theorem DatV.non_of(h:DatV K H v .none):v=.non:=by cases h;rfl
theorem aS.int_of{i:Int}(h:aS K F H v (.int i)):v=.int i:=by
 rcases h with h|⟨_,_,_,_,h,_⟩
 · exact h.int_of
 · cases h
theorem aS.str_of{i:Str}(h:aS K F H v (.str i)):v=.str i:=by
 rcases h with h|⟨_,_,_,_,h,_⟩
 · exact h.str_of
 · cases h
theorem aS.bl_of{i:Bool}(h:aS K F H v (.bool i)):v=.bl i:=by
 rcases h with h|⟨_,_,_,_,h,_⟩
 · exact DatV.bl_of h
 · cases h
theorem aS.non_of(h:aS K F H v .none):v=.non:=by
 rcases h with h|⟨_,_,_,_,h,_⟩
 · exact DatV.non_of h
 · cases h
theorem aS.tup_of{xs:List PyData}(s:aG F H)(h:aS K F H v (.tuple xs)):∃ a vs,v=.ref a/\SqT K F a vs/\SqT K H a vs/\DatVs K F vs xs:=by
 rcases h with h|⟨_,_,_,_,h,_⟩
 ·obtain ⟨a,vs,h1,h2,h3⟩:=h.tup_of
  exact ⟨a,vs,h1,h2,h2.same s,h3⟩
 ·cases h
theorem aS.lst_of{xs:List PyData}(s:aG F H)(h:aS K F H v (.list xs)):∃ a vs,v=.ref a/\SqL K H a vs/\DatVs K F vs xs:=by
 rcases h with h|⟨p,vs,ys,h1,h2,h3,h4⟩
 ·obtain ⟨a,vs,h1,h2,h3⟩:=h.lst_of
  exact ⟨a,vs,h1,h2.same s,h3⟩
 ·cases h2
  exact ⟨p,vs,h1,SqL.of h3,h4⟩
theorem tH{vs:List V}{xs:List PyData}{i:Int}{d:PyData}(h:DatVs K F vs xs)(e:atI xs i=some d):∃ x,atI vs i=some x/\DatV K F x d:=by
 unfold atI at e ⊢
 rw[h.length]
 cases q:ixN xs.length i with
 | none=>rw[q] at e;cases e
 | some j=>
  rw[q] at e
  exact h.get' (i:=j) e
end
noncomputable def eV(i:Nat):Sg->R PyData:=fun ρ=>match ρ[i]? with
 | some (some (.d x))=>.ok x
 | _=>.bad
noncomputable def rV(i:Nat):Sg->R PyData:=fun ρ=>match ρ[i]? with
 | some (some (.d x))=>.ok x
 | some (some (.l xs))=>.ok (.list xs)
 | _=>.bad
noncomputable def vV(i:Nat):Sg->R A:=fun ρ=>match ρ[i]? with
 | some (some (.d x))=>.ok (.d x)
 | some (some (.x e))=>.ok (.x e)
 | some (some (.g k n f))=>.ok (.g k n f)
 | some (some (.f kvs))=>.ok (.f kvs)
 | _=>.bad
def eC(d:PyData):Sg->R PyData:=fun _=>.ok d
section
variable{X:Cx}{c:Ct}{E:XK}{e a b:Expr}
theorem bR{i:Nat}(h:PE X e (fQ i)):PD X c E e (eV i):=PE.imp h fun σ H Q ⟨ρ,F,ab,k⟩=>by
 unfold eV at k
 split at k
 ·rename_i x hx
  obtain ⟨v,h1,h2⟩:=ab.slot i _ hx
  exact ⟨v,h1,k v F H (Ext.refl ab.fh) h2⟩
 ·exact k.elim
theorem aC{i:Nat}(h:PE X e (fQ i)):PR X c E e (rV i):=PE.imp h fun σ H Q ⟨ρ,F,ab,k⟩=>by
 unfold rV at k
 split at k
 ·rename_i x hx
  obtain ⟨v,h1,h2⟩:=ab.slot i _ hx
  exact ⟨v,h1,k v F H (Ext.refl ab.fh) (.inl h2)⟩
 ·rename_i x hx
  obtain ⟨v,h1,p,vs,h2,h3,h4,h5,h6⟩:=ab.slot i _ hx
  exact ⟨v,h1,k v F H (Ext.refl ab.fh) (.inr ⟨p,vs,x,h2,rfl,h3,h6⟩)⟩
 ·exact k.elim
theorem bO{i:Nat}(h:PE X e (fQ i)):PV X c E e (vV i):=PE.imp h fun σ H Q ⟨ρ,F,ab,k⟩=>by
 unfold vV at k
 split at k
 ·rename_i x hx
  obtain ⟨v,h1,h2⟩:=ab.slot i _ hx
  exact ⟨v,h1,k v F H (Ext.refl ab.fh) h2⟩
 ·rename_i x hx
  obtain ⟨v,h1,h2⟩:=ab.slot i _ hx
  exact ⟨v,h1,k v F H (Ext.refl ab.fh) h2⟩
 ·rename_i kk nn ff hx
  obtain ⟨v,h1,h2⟩:=ab.slot i _ hx
  exact ⟨v,h1,k v F H (Ext.refl ab.fh) h2⟩
 ·rename_i kvs hx
  obtain ⟨v,h1,h2⟩:=ab.slot i _ hx
  exact ⟨v,h1,k v F H (Ext.refl ab.fh) h2⟩
 ·exact k.elim
theorem l9{v:V}{d:PyData}(h:PE X e (tC v))(hd:∀ F,DatV c.K F v d):PD X c E e (eC d):=PE.imp h fun σ H Q ⟨ρ,F,ab,k⟩=>k v F H (Ext.refl ab.fh) (hd F)
theorem aL{i j pos}:PD X c E (.Constant (.int i) j pos) (eC (.int i)):=l9 aGZ fun _=>.int i
theorem nU{i j pos}:PD X c E (.Constant (.bool i) j pos) (eC (.bool i)):=l9 aJL fun _=>.bl i
theorem nA{i j pos}:PD X c E (.Constant (.str i) j pos) (eC (.str i)):=l9 aG1 fun _=>.str i
theorem tJ{j pos}:PD X c E (.Constant .none j pos) (eC .none):=l9 aG0 fun _=>.non
theorem aB{f:Sg->R PyData}(h:PD X c E e f):PR X c E e f:=PE.imp h fun σ H Q ⟨ρ,F,ab,k⟩=>⟨ρ,F,ab,k.imp fun d _ q v F' H' s r=>q v F' H' s (.inl r)⟩
def vD(f:Sg->R PyData):Sg->R A:=fun ρ=>(f ρ).bind fun x=>.ok (.d x)
theorem a8{f:Sg->R PyData}(h:PD X c E e f):PV X c E e (vD f):=PE.imp h fun σ H Q ⟨ρ,F,ab,k⟩=>⟨ρ,F,ab,(Rk.bind k).imp fun d _ q v F' H' s r=>Rk.ok q v F' H' s r⟩
def getD:A->R PyData
 | .d x=>.ok x
 | _=>.bad
def eA(f:Sg->R A):Sg->R PyData:=fun ρ=>(f ρ).bind getD
theorem gK{f:Sg->R A}(h:PV X c E e f):PD X c E e (eA f):=PE.imp h fun σ H Q ⟨ρ,F,ab,k⟩=>⟨ρ,F,ab,(Rk.bind k).imp fun d _ q v F' H' s r=>by
 cases d with
 | d x=>exact Rk.ok q v F' H' s r
 | _=>exact False.elim q⟩
def eL(f:Sg->R (List PyData)):Sg->R PyData:=fun ρ=>(f ρ).bind fun xs=>.ok (.list xs)
theorem iX{f:Sg->R (List PyData)}(h:PN X c E e f):PD X c E e (eL f):=PE.imp h fun σ H Q ⟨ρ,F,ab,k⟩=>⟨ρ,F,ab,(Rk.bind k).imp fun xs _ q v F' H' s r=>by
 obtain ⟨p,vs,h1,h2,h3,h4,h5⟩:=r
 subst h1
 refine Rk.ok q (.ref p) (upd F' p (.lst vs)) H' ⟨s.hh,fun a o z=>?_,fun a o z=>?_,fun a z n=>?_⟩ (.lst (SqL.of aU) (h5.same (aG.upd h4)))
 ·rw[aI (bI (s.ff a o z) h4)];exact s.ff a o z
 ·by_cases w:a=p
  · subst w; rw [aU] at z; rw [h3]; exact z
  · rw [aI w] at z; exact s.fh a o z
 ·by_cases w:a=p
  · subst w; exact .inl h2
  · rw [aI w] at n; exact s.nw a z n⟩
def e1{α β:Type}(g:α->R β)(f:Sg->R α):Sg->R β:=fun ρ=>(f ρ).bind g
def e2{α β γ:Type}(g:α->β->R γ)(f:Sg->R α)(f':Sg->R β):Sg->R γ:=fun ρ=>(f ρ).bind fun x=>(f' ρ).bind fun y=>g x y
noncomputable def bX:PyData->PyData->R PyData
 | .int i,.int j=>.ok (.int (i+j))
 | .str x,.str y=>if x.length+y.length<=sizeLine then .ok (.str (x++y)) else .bad
 | .tuple xs,.tuple ys=>if xs.isEmpty=false/\xs.length+ys.length<=sizeLine then .ok (.tuple (xs++ys)) else .bad
 | _,_=>.bad
def dSub:PyData->PyData->R PyData
 | .int i,.int j=>.ok (.int (i - j))
 | _,_=>.bad
noncomputable def dMul:PyData->PyData->R PyData
 | .int i,.int j=>if (-18446744073709551616 < i/\i < 18446744073709551616)\/(-18446744073709551616 < j/\j < 18446744073709551616) then .ok (.int (i * j)) else .bad
 | _,_=>.bad
def dDiv:PyData->PyData->R PyData
 | .int i,.int j=>if 0 < j/\j < 18446744073709551616 then .ok (.int (i / j)) else .bad
 | _,_=>.bad
def dMod:PyData->PyData->R PyData
 | .int i,.int j=>if 0 < j then .ok (.int (i % j)) else .bad
 | _,_=>.bad
def aK7:PyData->R PyData
 | .int i=>.ok (.int (-i))
 | _=>.bad
def dLt:PyData->PyData->R PyData
 | .int i,.int j=>.ok (.bool (decide (i < j)))
 | _,_=>.bad
def dLe:PyData->PyData->R PyData
 | .int i,.int j=>.ok (.bool (decide (i<=j)))
 | _,_=>.bad
def dGt:PyData->PyData->R PyData
 | .int i,.int j=>.ok (.bool (decide (j < i)))
 | _,_=>.bad
def dGe:PyData->PyData->R PyData
 | .int i,.int j=>.ok (.bool (decide (j<=i)))
 | _,_=>.bad
def dEq(x y:PyData):R PyData:=if SeqAt.shaped x=true/\SeqAt.shaped y=true then .ok (.bool (PyData.eqv x y)) else .bad
def dNe(x y:PyData):R PyData:=if SeqAt.shaped x=true/\SeqAt.shaped y=true then .ok (.bool (!PyData.eqv x y)) else .bad
def f7:PyData->Bool
 | .none=>true
 | _=>false
def dIs(x y:PyData):R PyData:=if f7 y=true then .ok (.bool (f7 x)) else .bad
def dIsnt(x y:PyData):R PyData:=if f7 y=true then .ok (.bool (!f7 x)) else .bad
noncomputable def inD:PyData->PyData->Option Bool
 | .str i,.str j=>some (!(Builtin.Str.occurrences j i 0 j.length 1).isEmpty)
 | x,.list xs=>if SeqAt.shaped x=true/\SeqAt.shaped (.list xs)=true then some (xs.any fun y=>PyData.eqv y x) else none
 | x,.tuple xs=>if SeqAt.shaped x=true/\SeqAt.shaped (.tuple xs)=true then some (xs.any fun y=>PyData.eqv y x) else none
 | _,_=>none
def dNin(x y:PyData):R PyData:=match inD x y with
 | some b=>.ok (.bool (!b))
 | none=>.bad
noncomputable def dIx:PyData->PyData->R PyData
 | .list xs,.int i=>match atI xs i with
  | some v=>.ok v
  | none=>.bad
 | .tuple xs,.int i=>match atI xs i with
  | some v=>.ok v
  | none=>.bad
 | .str z,.int i=>if z.length<=sizeLine then match atI z.cps.toList i with
  | some u=>.ok (.str ⟨#[u]⟩)
  | none=>.bad else .bad
 | _,_=>.bad
end
end Fl
namespace Fl
open PySem L2 PyProof.Rows
section
variable{X:Cx}{c:Ct}{E:XK}{e a b:Expr}{α β γ:Type}{Ra:VR α}{Rb:VR β}{Rc:VR γ}{pos:Pos}
def r2D(Ra:VR α)(Rb:VR β)(Rc:VR γ)(g:α->β->R γ):R2:=fun v u H Q=>∃ H0 H1 F a b d,aG F H/\Ra a v H0 F H/\Rb b u H1 F H/\g a b=.ok d/\∀ w F' H',Ext F H F' H'->Rc d w H F' H'->Q w H'
def r1D(Ra:VR α)(Rb:VR β)(g:α->R β):V->Hp->VK->Prop:=fun v H Q=>∃ H0 F a b,aG F H/\Ra a v H0 F H/\g a=.ok b/\∀ w F' H',Ext F H F' H'->Rb b w H F' H'->Q w H'
theorem sE{g:α->β->R γ}:Op2 c Ra Rb Rc g (r2D Ra Rb Rc g):=fun H0 H1 F H a b d v u Q sf ra rb eg q=>⟨H0,H1,F,a,b,d,sf,ra,rb,eg,q⟩
theorem sG{g:α->R β}:Op1 c Ra Rb g (r1D Ra Rb g):=fun H0 F H a b v Q sf ra eg q=>⟨H0,F,a,b,sf,ra,eg,q⟩
theorem aW{op:Operator}{g:PyData->PyData->R PyData}{fa fb:Sg->R PyData}(ho:OpR X (binaryOp op) (r2D (bJ c) (bJ c) (cL c) g))(hp:c8 g)(ha:PR X c E a fa)(hb:PR X c E b fb):PD X c E (.BinOp a op b pos) (e2 g fa fb):=
 PE.imp (aJO ho ha hb) fun σ H Q h=>tV2 sE hp (pC c) (l8 c) h
theorem lC{op:CmpOp}{g:PyData->PyData->R PyData}{fa fb:Sg->R PyData}(ho:OpR X (compareOp op) (r2D (bJ c) (bJ c) (cL c) g))(hp:c8 g)(ha:PR X c E a fa)(hb:PR X c E b fb)(hm:behindInMarks op b=false):PD X c E (.Compare a [op] [b] pos) (e2 g fa fb):=
 PE.imp (aEJ ho ha hb hm) fun σ H Q h=>tV2 sE hp (pC c) (l8 c) h
theorem bD{g:PyData->PyData->R PyData}{fa fb:Sg->R PyData}(ho:IxR X (r2D (bJ c) (bJ c) (cL c) g))(hp:c8 g)(ha:PR X c E a fa)(hb:PR X c E b fb)(hs:vK b:=by exact fun _ _=>rfl):PD X c E (.Subscript a b pos) (e2 g fa fb):=
 PE.imp (L2.aJS ho ha hb hs) fun σ H Q h=>tV2 sE hp (pC c) (l8 c) h
theorem cP(hK:X.K=c.K):OpR X (binaryOp .Add) (r2D (bJ c) (bJ c) (cL c) bX):=by
 intro pins s σ H v u x y Q I rx ry h
 obtain ⟨H0,H1,F,a,b,d,sf,ra,rb,eg,q⟩:=h
 unfold bX at eg
 split at eg
 ·rename_i i j
  cases eg
  obtain rfl:=aS.int_of ra
  obtain rfl:=aS.int_of rb
  exact aHC pins s σ H _ _ x y Q I rx ry ⟨i,j,rfl,rfl,q _ F H (Ext.refl sf) (.int _)⟩
 ·rename_i i j
  split at eg
  ·rename_i hz
   cases eg
   obtain rfl:=aS.str_of ra
   obtain rfl:=aS.str_of rb
   exact xE pins s σ H _ _ x y Q I rx ry ⟨i,j,rfl,rfl,hz,q _ F H (Ext.refl sf) (.str _)⟩
  ·cases eg
 ·rename_i xs ys
  split at eg
  ·rename_i hz
   cases eg
   obtain ⟨pa,vs,rfl,fa,ha,da⟩:=aS.tup_of sf ra
   obtain ⟨pb,us,rfl,fb,hb,db⟩:=aS.tup_of sf rb
   rw[<-hK] at ha hb
   refine aEN pins s σ H _ _ x y Q I rx ry ⟨pa,pb,vs,us,rfl,rfl,ha,hb,?_,by rw[da.length,db.length];exact hz.2,fun z=>?_,fun z p hp=>?_⟩
   ·intro z;subst z;obtain rfl:xs=[]:=by cases da;rfl
    exact absurd hz.1 (by decide)
   ·subst z
    obtain rfl:ys=[]:=by cases db;rfl
    exact q _ F H (Ext.refl sf) (by rw[List.append_nil];exact .tup fa da)
   ·exact q _ _ _ (Ext.new sf hp) (.tup (SqT.of aU) ((da.append db).same (aG.upd (bG sf hp))))
  ·cases eg
 ·cases eg
theorem bZ:c8 bX:=by
 intro a b e h
 unfold bX at h
 split at h<;>(try split at h)<;>cases h
theorem lD{f:Value->Value->Sem Value}{g:PyData->PyData->R PyData}{C:Int->Int->Prop}{k:Int->Int->PyData}{kv:Int->Int->V}(ho:OpR X f (rI C kv))(hk:∀ i j F,DatV c.K F (kv i j) (k i j))
  (hg:∀ a b d,g a b=.ok d->∃ i j,a=.int i/\b=.int j/\C i j/\d=k i j):OpR X f (r2D (bJ c) (bJ c) (cL c) g):=by
 intro pins s σ H v u x y Q I rx ry h
 obtain ⟨H0,H1,F,a,b,d,sf,ra,rb,eg,q⟩:=h
 obtain ⟨i,j,rfl,rfl,hc,rfl⟩:=hg a b d eg
 obtain rfl:=aS.int_of ra
 obtain rfl:=aS.int_of rb
 exact ho pins s σ H _ _ x y Q I rx ry ⟨i,j,rfl,rfl,hc,q _ F H (Ext.refl sf) (hk i j F)⟩
theorem x6{f:Value->Value->Sem Value}{kv:Int->Int->V}(ho:OpR X f (rI0 kv)):OpR X f (rI (fun _ _=>True) kv):=fun pins s σ H x y v u Q I rx ry ⟨i,j,h1,h2,_,q⟩=>ho pins s σ H x y v u Q I rx ry ⟨i,j,h1,h2,q⟩
theorem aE4:OpR X (binaryOp .Sub) (r2D (bJ c) (bJ c) (cL c) dSub):=lD (x6 aHD) (fun _ _ _=>.int _) fun a b d h=>by
 unfold dSub at h;split at h
 · cases h; exact ⟨_, _, rfl, rfl, trivial, rfl⟩
 · cases h
theorem jN:OpR X (binaryOp .Mult) (r2D (bJ c) (bJ c) (cL c) dMul):=lD aHE (fun _ _ _=>.int _) fun a b d h=>by
 unfold dMul at h;split at h
 ·split at h
  · rename_i hc; cases h; exact ⟨_, _, rfl, rfl, hc, rfl⟩
  · cases h
 ·cases h
theorem lE:OpR X (binaryOp .FloorDiv) (r2D (bJ c) (bJ c) (cL c) dDiv):=lD aB1 (fun _ _ _=>.int _) fun a b d h=>by
 unfold dDiv at h;split at h
 ·split at h
  · rename_i hc; cases h; exact ⟨_, _, rfl, rfl, hc, rfl⟩
  · cases h
 ·cases h
theorem cX:OpR X (binaryOp .Mod) (r2D (bJ c) (bJ c) (cL c) dMod):=lD aHF (fun _ _ _=>.int _) fun a b d h=>by
 unfold dMod at h;split at h
 ·split at h
  · rename_i hc; cases h; exact ⟨_, _, rfl, rfl, hc, rfl⟩
  · cases h
 ·cases h
theorem nB:OpR X (compareOp .Lt) (r2D (bJ c) (bJ c) (cL c) dLt):=lD (x6 aJP) (fun _ _ _=>.bl _) fun a b d h=>by
 unfold dLt at h;split at h
 · cases h; exact ⟨_, _, rfl, rfl, trivial, rfl⟩
 · cases h
theorem z9:OpR X (compareOp .Gt) (r2D (bJ c) (bJ c) (cL c) dGt):=lD (x6 aJQ) (fun _ _ _=>.bl _) fun a b d h=>by
 unfold dGt at h;split at h
 · cases h; exact ⟨_, _, rfl, rfl, trivial, rfl⟩
 · cases h
theorem aAA:c8 dSub:=by intro a b e h;unfold dSub at h;split at h<;>cases h
theorem gX:c8 dMul:=by intro a b e h;unfold dMul at h;split at h<;>(try split at h)<;>cases h
theorem iY:c8 dDiv:=by intro a b e h;unfold dDiv at h;split at h<;>(try split at h)<;>cases h
theorem cA:c8 dMod:=by intro a b e h;unfold dMod at h;split at h<;>(try split at h)<;>cases h
theorem jW:c8 dLt:=by intro a b e h;unfold dLt at h;split at h<;>cases h
theorem tK:c8 dGt:=by intro a b e h;unfold dGt at h;split at h<;>cases h
theorem gN:c8 dEq:=by intro a b e h;unfold dEq at h;split at h<;>cases h
theorem jX:c8 dNe:=by intro a b e h;unfold dNe at h;split at h<;>cases h
theorem aCA:c8 dIs:=by intro a b e h;unfold dIs at h;split at h<;>cases h
theorem x8:c8 dIsnt:=by intro a b e h;unfold dIsnt at h;split at h<;>cases h
theorem aAB:c8 dNin:=by intro a b e h;unfold dNin at h;split at h<;>cases h
theorem aN:c8 dIx:=by
 intro a b e h
 unfold dIx at h
 split at h<;>(try split at h)<;>(try split at h)<;>cases h
theorem jY(hK:X.K=c.K)(hu:X.A.units+64 < cLine):OpR X (compareOp .Eq) (r2D (bJ c) (bJ c) (cL c) dEq):=by
 intro pins s σ H v u x y Q I rx ry h
 obtain ⟨H0,H1,F,a,b,d,sf,ra,rb,eg,q⟩:=h
 unfold dEq at eg
 split at eg
 ·rename_i hs
  cases eg
  exact aHN hu pins s σ H _ _ x y Q I rx ry ⟨a,b,by rw[hK];exact aS.heap sf ra,by rw[hK];exact aS.heap sf rb,hs.1,hs.2,q _ F H (Ext.refl sf) (.bl _)⟩
 ·cases eg
theorem nC(hK:X.K=c.K)(hu:X.A.units+64 < cLine):OpR X (compareOp .NotEq) (r2D (bJ c) (bJ c) (cL c) dNe):=by
 intro pins s σ H v u x y Q I rx ry h
 obtain ⟨H0,H1,F,a,b,d,sf,ra,rb,eg,q⟩:=h
 unfold dNe at eg
 split at eg
 ·rename_i hs
  cases eg
  exact aHO hu pins s σ H _ _ x y Q I rx ry ⟨a,b,by rw[hK];exact aS.heap sf ra,by rw[hK];exact aS.heap sf rb,hs.1,hs.2,q _ F H (Ext.refl sf) (.bl _)⟩
 ·cases eg
theorem kL{K:Frag}{F H:Hp}{v:V}{d:PyData}(h:aS K F H v d):decide (v=.non)=f7 d:=by
 rcases h with h|⟨p,vs,xs,h1,h2,_⟩
 · cases h <;> rfl
 · subst h1 h2; rfl
theorem aHX:OpR X (compareOp .Is) (r2D (bJ c) (bJ c) (cL c) dIs):=by
 intro pins s σ H v u x y Q I rx ry h
 obtain ⟨H0,H1,F,a,b,d,sf,ra,rb,eg,q⟩:=h
 unfold dIs at eg
 split at eg
 ·rename_i hs
  cases eg
  have e2:=kL rb
  rw[hs] at e2
  refine aHG pins s σ H _ _ x y Q I rx ry ⟨of_decide_eq_true e2,q _ F H (Ext.refl sf) ?_⟩
  rw[kL ra];exact .bl _
 ·cases eg
theorem aCB:OpR X (compareOp .IsNot) (r2D (bJ c) (bJ c) (cL c) dIsnt):=by
 intro pins s σ H v u x y Q I rx ry h
 obtain ⟨H0,H1,F,a,b,d,sf,ra,rb,eg,q⟩:=h
 unfold dIsnt at eg
 split at eg
 ·rename_i hs
  cases eg
  have e2:=kL rb
  rw[hs] at e2
  refine aEI pins s σ H _ _ x y Q I rx ry ⟨of_decide_eq_true e2,q _ F H (Ext.refl sf) ?_⟩
  rw[kL ra];exact .bl _
 ·cases eg
theorem x9{xs:List PyData}(h:SeqAt.shaped (.list xs)=true):PyData.canLayAll0 xs=true/\PyData.depthAll xs<=63:=by
 have h':(PyData.canLay0 (.list xs) && decide ((PyData.list xs).depth<=64))=true:=h
 rw[Bool.and_eq_true] at h'
 have hd:PyData.depthAll xs+1<=64:=of_decide_eq_true h'.2
 exact ⟨h'.1,by omega⟩
theorem vG{xs:List PyData}(h:SeqAt.shaped (.tuple xs)=true):PyData.canLayAll0 xs=true/\PyData.depthAll xs<=63:=by
 have h':(PyData.canLay0 (.tuple xs) && decide ((PyData.tuple xs).depth<=64))=true:=h
 rw[Bool.and_eq_true] at h'
 have hd:PyData.depthAll xs+1<=64:=of_decide_eq_true h'.2
 exact ⟨h'.1,by omega⟩
theorem pD{d:PyData}(h:SeqAt.shaped d=true):d.canLay0=true:=by
 have h':(PyData.canLay0 d && decide (d.depth<=64))=true:=h
 rw[Bool.and_eq_true] at h'
 exact h'.1
theorem inD_cases{x y:PyData}{b:Bool}(h:inD x y=some b):(∃ i j,x=.str i/\y=.str j/\b = !(Builtin.Str.occurrences j i 0 j.length 1).isEmpty) \/
  (∃ xs,y=.list xs/\SeqAt.shaped x=true/\SeqAt.shaped (.list xs)=true/\b=xs.any fun z=>PyData.eqv z x)\/(∃ xs,y=.tuple xs/\SeqAt.shaped x=true/\SeqAt.shaped (.tuple xs)=true/\b=xs.any fun z=>PyData.eqv z x):=by
 unfold inD at h
 split at h
 ·cases h;exact .inl ⟨_,_,rfl,rfl,rfl⟩
 ·split at h
  · rename_i hs; cases h; exact .inr (.inl ⟨_, rfl, hs.1, hs.2, rfl⟩)
  · cases h
 ·split at h
  · rename_i hs; cases h; exact .inr (.inr ⟨_, rfl, hs.1, hs.2, rfl⟩)
  · cases h
 ·cases h
theorem tL{a b:Nat}(h:a<=63):min a b<=63:=Nat.le_trans (Nat.min_le_left _ _) h
theorem aE5(hK:X.K=c.K)(hu:X.A.units+64 < cLine):OpR X (compareOp .NotIn) (r2D (bJ c) (bJ c) (cL c) dNin):=by
 intro pins s σ H v u x y Q I rx ry h
 obtain ⟨H0,H1,F,a,b,d,sf,ra,rb,eg,q⟩:=h
 unfold dNin at eg
 split at eg
 ·rename_i bb hb
  cases eg
  have fin:EP X pins σ Q (.bool (!bb)) s:=⟨.bl (!bb),H,I,rfl,q _ F H (Ext.refl sf) (.bl _)⟩
  rcases inD_cases hb with ⟨i,j,rfl,rfl,rfl⟩|⟨xs,rfl,h1,h2,rfl⟩|⟨xs,rfl,h1,h2,rfl⟩
  ·obtain rfl:=aS.str_of ra
   obtain rfl:=aS.str_of rb
   exact sN pins s σ H _ _ x y Q I rx ry ⟨i,j,rfl,rfl,q _ F H (Ext.refl sf) (.bl _)⟩
  ·obtain ⟨as,r1⟩:=DatV.reads I (by rw[hK];exact aS.heap sf ra) rx
   obtain ⟨bs,r2⟩:=DatV.reads I (by rw[hK];exact aS.heap sf rb) ry
   have hs:=x9 h2
   have hm:=tL (b:=a.depth) hs.2
   exact SeqAt.notIn_list_reads r2 r1 hs.1 (pD h1) (by omega) fin
  ·obtain ⟨as,r1⟩:=DatV.reads I (by rw[hK];exact aS.heap sf ra) rx
   obtain ⟨bs,r2⟩:=DatV.reads I (by rw[hK];exact aS.heap sf rb) ry
   have hs:=vG h2
   have hm:=tL (b:=a.depth) hs.2
   exact SeqAt.notIn_tuple_reads r2 r1 hs.1 (pD h1) (by omega) fin
 ·cases eg
theorem bE(hK:X.K=c.K):IxR X (r2D (bJ c) (bJ c) (cL c) dIx):=by
 intro value slice pins s σ H v u x y Q I rx ry h hs
 obtain ⟨H0,H1,F,a,b,d,sf,ra,rb,eg,q⟩:=h
 unfold dIx at eg
 split at eg
 ·rename_i xs i
  split at eg
  ·rename_i w hw
   cases eg
   obtain ⟨p,vs,rfl,h1,h2⟩:=aS.lst_of sf ra
   obtain rfl:=aS.int_of rb
   obtain ⟨z,h3,h4⟩:=tH h2 hw
   rw[<-hK] at h1
   exact aEP value slice pins s σ H _ _ x y Q I rx ry ⟨p,vs,i,z,rfl,rfl,h1,h3,q _ F H (Ext.refl sf) h4⟩ hs
  ·cases eg
 ·rename_i xs i
  split at eg
  ·rename_i w hw
   cases eg
   obtain ⟨p,vs,rfl,_,h1,h2⟩:=aS.tup_of sf ra
   obtain rfl:=aS.int_of rb
   obtain ⟨z,h3,h4⟩:=tH h2 hw
   rw[<-hK] at h1
   exact aHK value slice pins s σ H _ _ x y Q I rx ry ⟨p,vs,i,z,rfl,rfl,h1,h3,q _ F H (Ext.refl sf) h4⟩ hs
  ·cases eg
 ·rename_i z i
  split at eg
  ·rename_i hz
   split at eg
   ·rename_i w hw
    cases eg
    obtain rfl:=aS.str_of ra
    obtain rfl:=aS.int_of rb
    exact aHL value slice pins s σ H _ _ x y Q I rx ry ⟨z,i,w,rfl,rfl,hz,hw,q _ F H (Ext.refl sf) (.str _)⟩ hs
   ·cases eg
  ·cases eg
 ·cases eg
def tTf(c:Ct)(E:XK)(f:Sg->R Bool):TT:=fun σ H Q=>∃ ρ F,Ab c ρ σ F H/\Rk c E F H (f ρ) fun b=>∀ F' H',Ext F H F' H'->Q b H'
abbrev PTf(X:Cx)(c:Ct)(E:XK)(e:Expr)(f:Sg->R Bool):Prop:=PT X e (tTf c E f)
def asB:PyData->R Bool
 | .bool b=>.ok b
 | _=>.bad
theorem qB{f:Sg->R PyData}{σ:L2.St}{H:Hp}{Q:Bool->Hp->Prop}(h:tTf c E (e1 asB f) σ H Q):tV (cL c) c E f σ H fun x H'=>∃ k,x=.bl k/\Q k H':=by
 obtain ⟨ρ,F,ab,h⟩:=h
 refine ⟨ρ,F,ab,(Rk.bind h).imp fun d _ q v F' H' s r=>?_⟩
 cases d with
 | bool b=>exact ⟨b,DatV.bl_of r,Rk.ok q F' H' s⟩
 | _=>exact False.elim q
theorem dI{op:CmpOp}{g:PyData->PyData->R PyData}{fa fb:Sg->R PyData}(ho:OpR X (compareOp op) (r2D (bJ c) (bJ c) (cL c) g))(hp:c8 g)(ha:PR X c E a fa)(hb:PR X c E b fb)(hm:behindInMarks op b=false):PTf X c E (.Compare a [op] [b] pos) (e1 asB (e2 g fa fb)):=
 PT.imp (pX ho ha hb hm) fun σ H Q h=>tV2 sE hp (pC c) (l8 c) (qB h)
theorem fR{f:Sg->R PyData}(h:PD X c E e f)(he:∀ whole,isTrue e X.env whole=(do let v <-whole;standAt e.pos;holding [v] (truthy v)):=by intro _;rfl):PTf X c E e (e1 asB f):=
 PT.imp (L2.fR h he) fun σ H Q h=>qB h
def kZ(f g:Sg->R Bool):Sg->R Bool:=fun ρ=>(f ρ).bind fun b=>if b=true then g ρ else .ok false
def bOr(f g:Sg->R Bool):Sg->R Bool:=fun ρ=>(f ρ).bind fun b=>if b=true then .ok true else g ρ
def fG(f:Sg->R Bool):Sg->R Bool:=fun ρ=>(f ρ).bind fun b=>.ok (!b)
abbrev PWf(X:Cx)(c:Ct)(E:XK)(e:Expr)(f:Sg->R Bool):Prop:=PW X e (tTf c E f)
theorem PW.imp{X:Cx}{e:Expr}{t t':TT}(h:PW X e t)(i:∀ σ H Q,t' σ H Q->t σ H Q):PW X e t':=fun whole pins s σ H Q I q=>h whole pins s σ H Q I (i σ H Q q)
theorem aK8{f g:Sg->R Bool}{σ:L2.St}{H:Hp}{Q:Bool->Hp->Prop}(h:tTf c E (kZ f g) σ H Q):aG2 (tTf c E f) (tTf c E g) σ H Q:=by
 obtain ⟨ρ,F,ab,h⟩:=h
 refine ⟨ρ,F,ab,(Rk.bind h).imp fun b _ q F' H' s=>?_⟩
 cases b with
 | true=>exact ⟨ρ,F',ab.ext s,(Rk.ext s q).imp fun d _ z F2 H2 s2=>z F2 H2 (s.trans s2)⟩
 | false=>exact Rk.ok q F' H' s
theorem tor{f g:Sg->R Bool}{σ:L2.St}{H:Hp}{Q:Bool->Hp->Prop}(h:tTf c E (bOr f g) σ H Q):tOr (tTf c E f) (tTf c E g) σ H Q:=by
 obtain ⟨ρ,F,ab,h⟩:=h
 refine ⟨ρ,F,ab,(Rk.bind h).imp fun b _ q F' H' s=>?_⟩
 cases b with
 | false=>exact ⟨ρ,F',ab.ext s,(Rk.ext s q).imp fun d _ z F2 H2 s2=>z F2 H2 (s.trans s2)⟩
 | true=>exact Rk.ok q F' H' s
theorem k8{f:Sg->R Bool}(h:PTf X c E a f):PWf X c E (.BoolOp .And [a] pos) f:=L2.k8 h
theorem k9{f:Sg->R Bool}(h:PTf X c E a f):PWf X c E (.BoolOp .Or [a] pos) f:=L2.k9 h
theorem mS{f g:Sg->R Bool}{rest:List Expr}(h:PTf X c E a f)(h2:PWf X c E (.BoolOp .And (b::rest) pos) g):PWf X c E (.BoolOp .And (a::b::rest) pos) (kZ f g):=PW.imp (L2.mS h h2) fun _ _ _ q=>aK8 q
theorem kF{f g:Sg->R Bool}{rest:List Expr}(h:PTf X c E a f)(h2:PWf X c E (.BoolOp .Or (b::rest) pos) g):PWf X c E (.BoolOp .Or (a::b::rest) pos) (bOr f g):=PW.imp (L2.kF h h2) fun _ _ _ q=>tor q
theorem hZ{f:Sg->R Bool}(h:PTf X c E a f):PTf X c E (.UnaryOp .Not a pos) (fG f):=PT.imp (L2.hZ h) fun σ H Q ⟨ρ,F,ab,k⟩=>⟨ρ,F,ab,(Rk.bind k).imp fun b _ q F' H' s=>Rk.ok q F' H' s⟩
noncomputable def k6(f g:Sg->R PyData):Sg->R PyData:=fun ρ=>(f ρ).bind fun x=>(asB x).bind fun b=>if b=true then g ρ else .ok (.bool false)
def eOr(f g:Sg->R PyData):Sg->R PyData:=fun ρ=>(f ρ).bind fun x=>(asB x).bind fun b=>if b=true then .ok (.bool true) else g ρ
def aK9(f:Sg->R PyData):Sg->R PyData:=fun ρ=>(f ρ).bind fun x=>(asB x).bind fun b=>.ok (.bool (!b))
def eIf{α:Type}(t:Sg->R Bool)(f g:Sg->R α):Sg->R α:=fun ρ=>(t ρ).bind fun b=>if b=true then f ρ else g ρ
theorem tM{op}{f:Sg->R PyData}(h:PD X c E a f):PD X c E (.BoolOp op [a] pos) f:=aG3 h
theorem pE{f g:Sg->R PyData}{rest:List Expr}(h:PD X c E a f)(h2:PD X c E (.BoolOp .And (b::rest) pos) g):PD X c E (.BoolOp .And (a::b::rest) pos) (k6 f g):=PE.imp (aG4 h h2) fun σ H Q zz0=>by
 obtain ⟨ρ,F,ab,k⟩:=zz0
 refine ⟨ρ,F,ab,(Rk.bind k).imp fun d _ q v F' H' s r=>?_⟩
 cases d with
 | bool b=>
  refine ⟨b,DatV.bl_of r,?_⟩
  cases b with
  | true=>exact xI ⟨ρ,F',ab.ext s,(Rk.ext s q).imp fun d _ z v F2 H2 s2=>z v F2 H2 (s.trans s2)⟩
  | false=>exact xH (Rk.ok q (.bl false) F' H' s (.bl false))
 | _=>exact False.elim q
noncomputable def eCh(g g':PyData->PyData->R PyData)(fa fb fc:Sg->R PyData):Sg->R PyData:=fun ρ=>(fa ρ).bind fun x=>(fb ρ).bind fun y=>(g x y).bind fun z=>(asB z).bind fun k=>if k=true then (fc ρ).bind fun w=>g' y w else .ok (.bool false)
end
end Fl
namespace Fl
open PySem L2 PyProof.Rows
def AFs(g:Gb)(K:Frag)(mg:Str->Option Value)(F:Hp):List A->List V->Prop
 | [],[]=>True
 | a::as,v::vs=>AF g K mg F a v/\AFs g K mg F as vs
 | _,_=>False
theorem AFs.same{g:Gb}{K:Frag}{mg:Str->Option Value}{F F':Hp}(s:aG F F'):∀ {as:List A} {vs:List V},AFs g K mg F as vs->AFs g K mg F' as vs
 | [],[],_=>trivial
 | a::as,v::vs,h=>⟨AF.same s h.1,AFs.same s h.2⟩
theorem AFs.len{g:Gb}{K:Frag}{mg:Str->Option Value}{F:Hp}:∀ {as:List A} {vs:List V},AFs g K mg F as vs->vs.length=as.length
 | [],[],_=>rfl
 | a::as,v::vs,h=>by rw[List.length_cons,List.length_cons,AFs.len h.2]
theorem PA.imp{X:Cx}{es:List Expr}{t t':TA}(h:PA X es t)(i:∀ σ H Q,t' σ H Q->t σ H Q):PA X es t':=fun pos pins s σ H Q I q=>h pos pins s σ H Q I (i σ H Q q)
def tAd(c:Ct)(E:XK)(f:Sg->R (List PyData)):TA:=fun σ H Q=>∃ ρ F,Ab c ρ σ F H/\Rk c E F H (f ρ) fun ds=>∀ vs F' H',Ext F H F' H'->DatVs c.K F' vs ds->Q vs H'
def tAv(c:Ct)(E:XK)(f:Sg->R (List A)):TA:=fun σ H Q=>∃ ρ F,Ab c ρ σ F H/\Rk c E F H (f ρ) fun ds=>∀ vs F' H',Ext F H F' H'->AFs c.g c.K c.mg F' ds vs->Q vs H'
abbrev PAd(X:Cx)(c:Ct)(E:XK)(es:List Expr)(f:Sg->R (List PyData)):Prop:=PA X es (tAd c E f)
abbrev PAv(X:Cx)(c:Ct)(E:XK)(es:List Expr)(f:Sg->R (List A)):Prop:=PA X es (tAv c E f)
noncomputable def aK{α:Type}:Sg->R (List α):=fun _=>.ok []
def aA{α:Type}(f:Sg->R α)(g:Sg->R (List α)):Sg->R (List α):=fun ρ=>(f ρ).bind fun x=>(g ρ).bind fun xs=>.ok (x::xs)
section
variable{X:Cx}{c:Ct}{E:XK}{e a b:Expr}{es:List Expr}{pos:Pos}
theorem bV:PAd X c E [] aK:=PA.imp aJ fun σ H Q ⟨ρ,F,ab,k⟩=>Rk.ok k [] F H (Ext.refl ab.fh) .nil
theorem cB:PAv X c E [] aK:=PA.imp aJ fun σ H Q ⟨ρ,F,ab,k⟩=>Rk.ok k [] F H (Ext.refl ab.fh) trivial
theorem a9{f:Sg->R PyData}{g:Sg->R (List PyData)}(h:PD X c E e f)(h2:PAd X c E es g)(hs:starEach (e::es) X.env=(false,eval e X.env)::starEach es X.env:=by rfl):PAd X c E (e::es) (aA f g):=PA.imp (aF h h2 hs) fun σ H Q zz0=>by
 obtain ⟨ρ,F,ab,k⟩:=zz0
 refine ⟨ρ,F,ab,(Rk.bind k).imp fun x _ q v F1 H1 s1 r1=>⟨ρ,F1,ab.ext s1,((Rk.bind q).ext s1).imp fun xs _ q vs F2 H2 s2 r2=>?_⟩⟩
 exact Rk.ok q (v::vs) F2 H2 (s1.trans s2) (.cons (DatV.same s2.ff r1) r2)
theorem aP{f:Sg->R A}{g:Sg->R (List A)}(h:PV X c E e f)(h2:PAv X c E es g)(hs:starEach (e::es) X.env=(false,eval e X.env)::starEach es X.env:=by rfl):PAv X c E (e::es) (aA f g):=PA.imp (aF h h2 hs) fun σ H Q zz0=>by
 obtain ⟨ρ,F,ab,k⟩:=zz0
 refine ⟨ρ,F,ab,(Rk.bind k).imp fun x _ q v F1 H1 s1 r1=>⟨ρ,F1,ab.ext s1,((Rk.bind q).ext s1).imp fun xs _ q vs F2 H2 s2 r2=>?_⟩⟩
 exact Rk.ok q (v::vs) F2 H2 (s1.trans s2) ⟨AF.same s2.ff r1,r2⟩
def cS(f:Sg->R (List PyData)):Sg->R PyData:=fun ρ=>(f ρ).bind fun xs=>if xs.length<=16777216 then .ok (.tuple xs) else .bad
def dD(f:Sg->R (List PyData)):Sg->R (List PyData):=fun ρ=>(f ρ).bind fun xs=>if xs.length<=16777216 then .ok xs else .bad
theorem cQ:sizeLine=16777216:=sizeLine_eq
theorem fB{x1}{f:Sg->R (List PyData)}(h:PAd X c E es f):PD X c E (.Tuple es x1 pos) (cS f):=PE.imp (aHI h) fun σ H Q zz0=>by
 obtain ⟨ρ,F,ab,k⟩:=zz0
 refine ⟨ρ,F,ab,(Rk.bind k).imp fun xs _ q vs F1 H1 s1 r1=>?_⟩
 by_cases hz:xs.length<=16777216
 ·rw[if_pos hz] at q
  refine ⟨by rw[r1.length,cQ];exact hz,fun p hp=>?_⟩
  exact Rk.ok q (.ref p) _ _ (s1.trans (Ext.new s1.fh hp)) (.tup (SqT.of aU) (r1.same (aG.upd (bG s1.fh hp))))
 ·rw[if_neg hz] at q;exact q.elim
theorem fC{f:Sg->R (List PyData)}(h:PAd X c E es f):PN X c E (.List es pos) (dD f):=PE.imp (aHJ h) fun σ H Q zz0=>by
 obtain ⟨ρ,F,ab,k⟩:=zz0
 refine ⟨ρ,F,ab,(Rk.bind k).imp fun xs _ q vs F1 H1 s1 r1=>?_⟩
 by_cases hz:xs.length<=16777216
 ·rw[if_pos hz] at q
  refine ⟨by rw[r1.length,cQ];exact hz,fun p hp=>?_⟩
  exact Rk.ok q (.ref p) _ _ (s1.trans (Ext.own s1.fh hp)) ⟨p,vs,rfl,bG s1.hh hp,aU,bG s1.fh hp,r1⟩
 ·rw[if_neg hz] at q;exact q.elim
noncomputable def dLen:PyData->R PyData
 | .str z=>if z.length<=16777216 then .ok (.int z.length) else .bad
 | .list xs=>.ok (.int xs.length)
 | .tuple xs=>.ok (.int xs.length)
 | _=>.bad
theorem rO:m9 dLen:=by intro a e h;unfold dLen at h;split at h<;>(try split at h)<;>cases h
theorem cG{fa:Sg->R PyData}(hK:X.K=c.K)(h0:PE X e (tCB (fun xs H Q=>∃ x n,xs=[x]/\aHH X.K x H n/\Q (.int n) H) (dF (tV (bJ c) c E fa) fS))):PD X c E e (e1 dLen fa):=
 PE.imp h0 fun σ H Q h=>by
  obtain ⟨ρ,F,ab,k⟩:=tV1 (Ra:=bJ c) sG rO (l8 c) h
  refine ⟨ρ,F,ab,k.imp fun d _ q v F' H' s r=>?_⟩
  obtain ⟨H0,F1,a,d',sf,ra,eg,q⟩:=q v F' H' s r
  unfold dLen at eg
  split at eg
  ·rename_i z
   split at eg
   ·rename_i hz
    cases eg
    obtain rfl:=aS.str_of ra
    exact ⟨_,_,rfl,⟨by rw[cQ];exact hz,rfl⟩,q _ F1 H' (Ext.refl sf) (.int _)⟩
   ·cases eg
  ·cases eg
   obtain ⟨p,vs,rfl,h1,h2⟩:=aS.lst_of sf ra
   rw[<-hK] at h1
   exact ⟨_,vs.length,rfl,.inl ⟨vs,h1,rfl⟩,q _ F1 H' (Ext.refl sf) (by rw[h2.length];exact .int _)⟩
  ·cases eg
   obtain ⟨p,vs,rfl,_,h1,h2⟩:=aS.tup_of sf ra
   rw[<-hK] at h1
   exact ⟨_,vs.length,rfl,.inr ⟨vs,h1,rfl⟩,q _ F1 H' (Ext.refl sf) (by rw[h2.length];exact .int _)⟩
  ·cases eg
noncomputable def dTup:PyData->R PyData
 | .list xs=>.ok (.tuple xs)
 | .tuple xs=>.ok (.tuple xs)
 | _=>.bad
theorem aAC:m9 dTup:=by intro a e h;unfold dTup at h;split at h<;>cases h
theorem eE{fa:Sg->R PyData}(hK:X.K=c.K)(h0:PE X e (tCB (fun xs H Q=>∃ p ys,xs=[.ref p]/\((SqL X.K H p ys/\∀ l,H l=none->Q (.ref l) (upd H l (.tup ys)))\/(SqT X.K H p ys/\Q (.ref p) H))) (dF (tV (bJ c) c E fa) fS))):PD X c E e (e1 dTup fa):=
 PE.imp h0 fun σ H Q h=>by
  obtain ⟨ρ,F,ab,k⟩:=tV1 (Ra:=bJ c) sG aAC (l8 c) h
  refine ⟨ρ,F,ab,k.imp fun d _ q v F' H' s r=>?_⟩
  obtain ⟨H0,F1,a,d',sf,ra,eg,q⟩:=q v F' H' s r
  unfold dTup at eg
  split at eg
  ·cases eg
   obtain ⟨p,vs,rfl,h1,h2⟩:=aS.lst_of sf ra
   rw[<-hK] at h1
   exact ⟨p,vs,rfl,.inl ⟨h1,fun l hl=>q _ _ _ (Ext.new sf hl) (.tup (SqT.of aU) (h2.same (aG.upd (bG sf hl))))⟩⟩
  ·cases eg
   obtain ⟨p,vs,rfl,f1,h1,h2⟩:=aS.tup_of sf ra
   rw[<-hK] at h1
   exact ⟨p,vs,rfl,.inr ⟨h1,q _ F1 H' (Ext.refl sf) (.tup f1 h2)⟩⟩
  ·cases eg
noncomputable def dLst:PyData->R (List PyData)
 | .list xs=>.ok xs
 | .tuple xs=>.ok xs
 | _=>.bad
theorem aAD:m9 dLst:=by intro a e h;unfold dLst at h;split at h<;>cases h
theorem aE6{fa:Sg->R PyData}(hK:X.K=c.K)(h0:PE X e (tCB (fun xs H Q=>∃ p ys,xs=[.ref p]/\(SqL X.K H p ys\/SqT X.K H p ys)/\∀ l,H l=none->Q (.ref l) (upd H l (.lst ys))) (dF (tV (bJ c) c E fa) fS))):PN X c E e (e1 dLst fa):=
 PE.imp h0 fun σ H Q h=>by
  obtain ⟨ρ,F,ab,k⟩:=tV1 (Ra:=bJ c) sG aAD (aJY c) h
  refine ⟨ρ,F,ab,k.imp fun d _ q v F' H' s r=>?_⟩
  obtain ⟨H0,F1,a,d',sf,ra,eg,q⟩:=q v F' H' s r
  unfold dLst at eg
  split at eg
  ·cases eg
   obtain ⟨p,vs,rfl,h1,h2⟩:=aS.lst_of sf ra
   rw[<-hK] at h1
   exact ⟨p,vs,rfl,.inl h1,fun l hl=>q _ _ _ (Ext.own sf hl) ⟨l,vs,rfl,hl,aU,bG sf hl,h2⟩⟩
  ·cases eg
   obtain ⟨p,vs,rfl,f1,h1,h2⟩:=aS.tup_of sf ra
   rw[<-hK] at h1
   exact ⟨p,vs,rfl,.inr h1,fun l hl=>q _ _ _ (Ext.own sf hl) ⟨l,vs,rfl,hl,aU,bG sf hl,h2⟩⟩
  ·cases eg
noncomputable def aHY:PyData->R PyData
 | .int i=>.ok (.int i)
 | .bool b=>.ok (.int (if b=true then 1 else 0))
 | _=>.bad
noncomputable def aJZ:List PyData->Option (List Bool)
 | []=>some []
 | .bool b::t=>(aJZ t).map (b :: ·)
 | _=>none
end
end Fl
namespace Fl
open PySem L2 PyProof.Rows
inductive Fw where
 | nx (ρ:Sg)|bk (ρ:Sg)|ct (ρ:Sg)|rt (a:A)
def AR(g:Gb)(K:Frag)(mg:Str->Option Value)(H F' H':Hp):A->V->Prop
 | .l xs,v=>∃ p us,v=.ref p/\H p=none/\H' p=some (.lst us)/\F' p=none/\DatVs K F' us xs
 | a,v=>AF g K mg F' a v
theorem AR.of{g:Gb}{K:Frag}{mg:Str->Option Value}{H F' H':Hp}{a:A}{v:V}(h:AF g K mg F' a v):AR g K mg H F' H' a v:=by
 cases a with
 | l xs=>exact False.elim h
 | _=>exact h
def fV(c:Ct)(F:Hp)(D:mK):Fw->Prop
 | .nx ρ=>∀ σ' F' H',aG F F'->Ab c ρ σ' F' H'->D.nx σ' H'
 | .bk ρ=>∀ σ' F' H',aG F F'->Ab c ρ σ' F' H'->D.bk σ' H'
 | .ct ρ=>∀ σ' F' H',aG F F'->Ab c ρ σ' F' H'->D.ct σ' H'
 | .rt a=>∀ v F' H',Ext c.F0 c.H0 F' H'->AR c.g c.K c.mg c.H0 F' H' a v->D.rt v H'
theorem fV.same{c:Ct}{F F1:Hp}{D:mK}(s:aG F F1):∀ {w:Fw},fV c F D w->fV c F1 D w
 | .nx ρ,h=>fun σ' F' H' s' ab=>h σ' F' H' (fun a o z=>s' a o (s a o z)) ab
 | .bk ρ,h=>fun σ' F' H' s' ab=>h σ' F' H' (fun a o z=>s' a o (s a o z)) ab
 | .ct ρ,h=>fun σ' F' H' s' ab=>h σ' F' H' (fun a o z=>s' a o (s a o z)) ab
 | .rt a,h=>h
def tSf(c:Ct)(E:XK)(f:Sg->R Fw):TS:=fun D σ H=>∃ ρ F,Ab c ρ σ F H/\Rk c E F H (f ρ) (fV c F D)
abbrev PSf(X:Cx)(c:Ct)(E:XK)(st:Stmt)(f:Sg->R Fw):Prop:=PS X st (tSf c E f)
abbrev k7(X:Cx)(c:Ct)(E:XK)(st:List Stmt)(f:Sg->R Fw):Prop:=PSs X st (tSf c E f)
theorem get_set{α:Type}{l:List α}{i j:Nat}{x y:α}(h:(l.set i x)[j]? = some y):(i=j/\y=x/\i < l.length)\/(i≠j/\l[j]? = some y):=by
 by_cases e:i=j
 ·subst e
  by_cases hl:i < l.length
  · rw [List.getElem?_set_self hl] at h; exact .inl ⟨rfl, (Option.some.inj h).symm, hl⟩
  · rw [List.getElem?_eq_none_iff.mpr (by rw [List.length_set]; omega)] at h; cases h
 ·rw[List.getElem?_set_ne e] at h;exact .inr ⟨e,h⟩
theorem Ab.setF{c:Ct}{ρ:Sg}{σ:L2.St}{F H:Hp}{i:Nat}{a:A}{v:V}(b:Ab c ρ σ F H)(ha:AO c F H a v)(hn:a.own=true->∀ (j:Nat) (a':A),j≠i->ρ[j]? = some (some a')->a'.own=true->σ[j]? ≠ some (some v)):Ab c (ρ.set i (some a)) (σ.set i (some v)) F H where
 len:=by rw[List.length_set,List.length_set];exact b.len
 fh:=b.fh
 slot:=fun j a' h=>by
  rcases get_set h with ⟨e,q,hl⟩|⟨ne,q⟩
  ·subst e
   cases q
   exact ⟨v,List.getElem?_set_self (by rw[<-b.len];exact hl),ha⟩
  ·rw[List.getElem?_set_ne ne];exact b.slot j a' q
 apart:=fun j k a' b' hjk h1 h2 o1 o2=>by
  rcases get_set h1 with ⟨e,q,hl⟩|⟨ne,q⟩
  ·subst e
   cases q
   rcases get_set h2 with ⟨e',q',hl'⟩|⟨ne',q'⟩
   ·exact absurd e' hjk
   ·rw[List.getElem?_set_self (by rw[<-b.len];exact hl),List.getElem?_set_ne ne']
    exact (hn o1 k b' (Ne.symm hjk) q' o2).symm
  ·rcases get_set h2 with ⟨e',q',hl'⟩|⟨ne',q'⟩
   ·subst e'
    cases q'
    rw[List.getElem?_set_self (by rw[<-b.len];exact hl'),List.getElem?_set_ne ne]
    exact hn o2 j a' hjk q o1
   ·rw[List.getElem?_set_ne ne,List.getElem?_set_ne ne']
    exact b.apart j k a' b' hjk q q' o1 o2
 f0:=b.f0
 h0:=b.h0
 n0:=b.n0
 t0:=b.t0
theorem AO.of{c:Ct}{F H:Hp}:∀ {a:A} {v:V},AF c.g c.K c.mg F a v->AO c F H a v
 | .d x,v,h=>h
 | .x e,v,h=>h
 | .g k n G,v,h=>h
 | .f kvs,v,h=>h
theorem AF.notOwn{g:Gb}{K:Frag}{mg:Str->Option Value}{F:Hp}:∀ {a:A} {v:V},AF g K mg F a v->a.own=false
 | .d x,v,h=>rfl
 | .x e,v,h=>rfl
 | .g k n G,v,h=>rfl
 | .f kvs,v,h=>rfl
theorem Ab.setA{c:Ct}{ρ:Sg}{σ:L2.St}{F H:Hp}{i:Nat}{a:A}{v:V}(b:Ab c ρ σ F H)(ha:AF c.g c.K c.mg F a v):Ab c (ρ.set i (some a)) (σ.set i (some v)) F H:=
 b.setF (AO.of ha) fun z=>by rw[AF.notOwn ha] at z;cases z
theorem Ab.setN{c:Ct}{ρ:Sg}{σ:L2.St}{F H F' H':Hp}{i:Nat}{xs:List PyData}{v:V}(b:Ab c ρ σ F H)(e:Ext F H F' H')(h:tG c xs v H F' H'):Ab c (ρ.set i (some (.l xs))) (σ.set i (some v)) F' H':=by
 obtain ⟨p,vs,rfl,h1,h2,h3,h4⟩:=h
 refine (b.ext e).setF ⟨p,vs,rfl,h2,h3,bG b.h0 h1,h4⟩ fun _ j a' _ ha' ho=>?_
 obtain ⟨w,hw,q⟩:=b.slot j a' ha'
 rw[hw]
 intro z
 cases z
 obtain ⟨p',o',e',q1,_⟩:=q.at ho
 cases e'
 rw[h1] at q1
 cases q1
theorem Ab.putO{c:Ct}{ρ:Sg}{σ:L2.St}{F H:Hp}{i:Nat}{a a':A}{p:Addr}{o:HO}(b:Ab c ρ σ F H)(hi:ρ[i]? = some (some a))(ho:a.own=true)(hp:σ[i]? = some (some (.ref p)))(ho':a'.own=true)(hy:AO c F (upd H p o) a' (.ref p)) :
  Ab c (ρ.set i (some a')) σ F (upd H p o):=by
 obtain ⟨v,h1,q⟩:=b.slot i _ hi
 rw[hp] at h1
 cases h1
 obtain ⟨p',o',e',h2,h3,h4⟩:=q.at ho
 cases e'
 have other:∀ (j:Nat) (a:A) (w:V),j≠i->ρ[j]? = some (some a)->σ[j]? = some (some w)->AO c F H a w->AO c F (upd H p o) a w:=by
  intro j a2 w hj ha hw q2
  by_cases own:a2.own=true
  ·refine q2.off fun z=>?_
   subst z
   exact b.apart j i _ _ hj ha hi own ho (by rw[hw,hp])
  ·cases a2 with
   | l zs=>exact absurd rfl own
   | m zs=>exact absurd rfl own
   | d x=>exact q2
   | x e=>exact q2
   | g k n f=>exact q2
   | k S=>exact q2
   | f S=>exact q2
 exact {
  len:=by rw[List.length_set];exact b.len
  fh:=fun a o z=>by rw[aI (fun w=>by subst w;rw[h3] at z;cases z)];exact b.fh a o z
  slot:=fun j a h=>by
   rcases get_set h with ⟨e,q,hl⟩|⟨ne,q⟩
   ·subst e
    cases q
    exact ⟨_,hp,hy⟩
   ·obtain ⟨w,hw,q2⟩:=b.slot j a q
    exact ⟨w,hw,other j a w (Ne.symm ne) q hw q2⟩
  apart:=fun j k a' b' hjk h1 h2 o1 o2=>by
   rcases get_set h1 with ⟨e,q,hl⟩|⟨ne,q⟩
   ·subst e
    cases q
    rcases get_set h2 with ⟨e',q',hl'⟩|⟨ne',q'⟩
    ·exact absurd e' hjk
    ·exact b.apart _ k _ b' hjk hi q' ho o2
   ·rcases get_set h2 with ⟨e',q',hl'⟩|⟨ne',q'⟩
    ·subst e'
     exact b.apart j _ a' _ hjk q hi o1 ho
    ·exact b.apart j k a' b' hjk q q' o1 o2
  f0:=b.f0
  h0:=fun a o z=>by rw[aI (fun w=>by subst w;rw[h4] at z;cases z)];exact b.h0 a o z
  n0:=b.n0
  t0:=b.t0}
theorem Ab.putL{c:Ct}{ρ:Sg}{σ:L2.St}{F H:Hp}{i:Nat}{xs ys:List PyData}{p:Addr}{vs:List V}(b:Ab c ρ σ F H)(hi:ρ[i]? = some (some (.l xs)))(hp:σ[i]? = some (some (.ref p)))(hy:DatVs c.K F vs ys) :
  Ab c (ρ.set i (some (.l ys))) σ F (upd H p (.lst vs)):=by
 obtain ⟨v,h1,p',us,rfl,h2,h3,h4,h5⟩:=b.slot i _ hi
 rw[hp] at h1
 cases h1
 exact b.putO hi rfl hp rfl ⟨p,vs,rfl,aU,h3,h4,hy⟩
theorem Ab.putM{c:Ct}{ρ:Sg}{σ:L2.St}{F H:Hp}{i:Nat}{kvs kvs':List (PyData×PyData)}{p:Addr}{es:List Ent}{ep:Nat}(b:Ab c ρ σ F H)(hi:ρ[i]? = some (some (.m kvs)))(hp:σ[i]? = some (some (.ref p)))(hy:MapRel c.K F es kvs') :
  Ab c (ρ.set i (some (.m kvs'))) σ F (upd H p (cC c.w p es ep)):=by
 obtain ⟨v,h1,p',us,rfl,h2,h3,h4,h5⟩:=b.slot i _ hi
 rw[hp] at h1
 cases h1
 exact b.putO hi rfl hp rfl ⟨p,es,rfl,⟨ep,aU⟩,h3,h4,hy⟩
theorem Ab.setM{c:Ct}{ρ:Sg}{σ:L2.St}{F H F' H':Hp}{i:Nat}{kvs:List (PyData×PyData)}{p:Addr}{es:List Ent}{ep:Nat}(b:Ab c ρ σ F H)(e:Ext F H F' H')(h1:H p=none)(h2:H' p=some (cC c.w p es ep))(h3:F' p=none)(h4:MapRel c.K F' es kvs):Ab c (ρ.set i (some (.m kvs))) (σ.set i (some (.ref p))) F' H':=by
 refine (b.ext e).setF ⟨p,es,rfl,⟨ep,h2⟩,h3,bG b.h0 h1,h4⟩ fun _ j a' _ ha' ho=>?_
 obtain ⟨w,hw,q⟩:=b.slot j a' ha'
 rw[hw]
 intro z
 cases z
 obtain ⟨p',o',e',q1,_⟩:=q.at ho
 cases e'
 rw[h1] at q1
 cases q1
noncomputable def fz(i:Nat)(ρ:Sg):Sg:=match ρ[i]? with
 | some (some (.l xs))=>ρ.set i (some (.d (.list xs)))
 | _=>ρ
theorem Ab.publ{c:Ct}{ρ:Sg}{σ:L2.St}{F H:Hp}{i:Nat}{a0 a1:A}{p:Addr}{o:HO}(b:Ab c ρ σ F H)(hi:ρ[i]? = some (some a0))(hp:σ[i]? = some (some (.ref p)))(ow:a0.own=true)(h2:H p=some o)(h3:F p=none)(h4:c.H0 p=none)(no:a1.own=false)(hr:AO c (upd F p o) H a1 (.ref p)):Ab c (ρ.set i (some a1)) σ (upd F p o) H:=by
 have sf:aG F (upd F p o):=aG.upd h3
 exact {
  len:=by rw[List.length_set];exact b.len
  fh:=fun a o' z=>by
   by_cases w:a=p
   ·subst w;rw[aU] at z;rw[h2];exact z
   ·rw[aI w] at z;exact b.fh a o' z
  slot:=fun j a h=>by
   rcases get_set h with ⟨e,q,hl⟩|⟨ne,q⟩
   ·subst e
    cases q
    exact ⟨_,hp,hr⟩
   ·obtain ⟨w,hw,q2⟩:=b.slot j a q
    refine ⟨w,hw,?_⟩
    have off:∀ r,a.own=true->w=.ref r->F r=none->upd F p o r=none:=fun r oa e f=>by
     rw[aI]
     ·exact f
     ·intro z
      subst z
      exact b.apart j i _ _ (Ne.symm ne) q hi oa ow (by rw[hw,hp,e])
    cases a with
    | l zs=>obtain ⟨r,ws,e,q1,q2,q3,q4⟩:=q2;exact ⟨r,ws,e,q1,off r rfl e q2,q3,q4.same sf⟩
    | m kvs=>obtain ⟨r,ws,e,q1,q2,q3,q4⟩:=q2;exact ⟨r,ws,e,q1,off r rfl e q2,q3,q4.same sf⟩
    | d x=>exact DatV.same sf q2
    | x e=>exact AF.same (g:=c.g) (K:=c.K) (mg:=c.mg) (a:=.x e) sf q2
    | g k n f=>exact AF.same (g:=c.g) (K:=c.K) (mg:=c.mg) (a:=.g k n f) sf q2
    | k S=>obtain ⟨S,f,cl,doc,pm,cc,ct,h0,h1,h2,h3,h4⟩:=q2;exact ⟨S,f,cl,doc,pm,cc,ct,h0,h1,sf _ _ h2,sf _ _ h3,h4⟩
    | f kvs=>exact AF.same (g:=c.g) (K:=c.K) (mg:=c.mg) (a:=.f kvs) sf q2
  apart:=fun j k a' b' hjk h1 h2 o1 o2=>by
   rcases get_set h1 with ⟨e,q,hl⟩|⟨ne,q⟩
   ·cases q;rw[no] at o1;cases o1
   ·rcases get_set h2 with ⟨e',q',hl'⟩|⟨ne',q'⟩
    ·cases q';rw[no] at o2;cases o2
    ·exact b.apart j k a' b' hjk q q' o1 o2
  f0:=fun a o z=>sf a o (b.f0 a o z)
  h0:=b.h0
  n0:=fun a z n=>by
   by_cases w:a=p
   ·subst w;exact .inl h4
   ·rw[aI w] at n;exact b.n0 a z n
  t0:=b.t0}
theorem Ab.frz{c:Ct}{ρ:Sg}{σ:L2.St}{F H:Hp}(b:Ab c ρ σ F H)(i:Nat):∃ F',aG F F'/\Ab c (fz i ρ) σ F' H:=by
 unfold fz
 split
 ·rename_i xs hi
  obtain ⟨v,hp,p,vs,rfl,h2,h3,h4,h5⟩:=b.slot i _ hi
  exact ⟨_,aG.upd h3,b.publ hi hp rfl h2 h3 h4 rfl (.lst (SqL.of aU) (h5.same (aG.upd h3)))⟩
 ·exact ⟨F,bK F,b⟩
noncomputable def aJ0:PyData->PyData->R PyData
 | .int i,.int j=>.ok (.int (i+j))
 | _,_=>.bad
section
variable{X:Cx}{c:Ct}{E:XK}{e a b:Expr}{st:Stmt}{rest:List Stmt}{pos:Pos}
def sFz(i:Nat)(f:Sg->R Fw):Sg->R Fw:=fun ρ=>f (fz i ρ)
theorem yA(i:Nat){f:Sg->R Fw}(h:PSf X c E st f):PSf X c E st (sFz i f):=PS.imp h fun D σ H zz0=>by
 obtain ⟨ρ,F,ab,k⟩:=zz0
 obtain ⟨F',s,ab'⟩:=ab.frz i
 refine ⟨fz i ρ,F',ab',?_⟩
 have k':Rk c E F H (f (fz i ρ)) (fV c F D):=k
 cases q:f (fz i ρ) with
 | bad=>rw[q] at k';exact k'
 | ok w=>rw[q] at k';exact fV.same s k'
 | ex e=>rw[q] at k';exact k'
noncomputable def sNx:Sg->R Fw:=fun ρ=>.ok (.nx ρ)
def aD(f g:Sg->R Fw):Sg->R Fw:=fun ρ=>(f ρ).bind fun w=>match w with
 | .nx ρ'=>g ρ'
 | w=>.ok w
theorem dA:k7 X c E [] sNx:=PSs.imp L2.dA fun D σ H ⟨ρ,F,ab,k⟩=>Rk.ok k σ F H (bK F) ab
theorem aO{f:Sg->R Fw}(h:PSf X c E st f):k7 X c E [st] f:=L2.aO h
theorem aE{f g:Sg->R Fw}(h:PSf X c E st f)(h2:k7 X c E rest g):k7 X c E (st::rest) (aD f g):=PSs.imp (L2.aE h h2) fun D σ H zz0=>by
 obtain ⟨ρ,F,ab,k⟩:=zz0
 refine ⟨ρ,F,ab,(Rk.bind k).imp fun w _ q=>?_⟩
 cases w with
 | nx ρ'=>
  intro σ' F' H' s ab'
  refine ⟨ρ',F',ab',?_⟩
  have q':Rk c E F H (g ρ') (fV c F D):=q
  cases eg:g ρ' with
  | bad=>rw[eg] at q';exact q'
  | ok w=>rw[eg] at q';exact fV.same s q'
  | ex e=>rw[eg] at q';exact q'
 | bk ρ'=>exact q
 | ct ρ'=>exact q
 | rt a=>exact q
def bL(f:Sg->R A):Sg->R Fw:=fun ρ=>(f ρ).bind fun a=>.ok (.rt a)
theorem cH{f:Sg->R A}(h:PV X c E e f):PSf X c E (.Return (some e) pos) (bL f):=PS.imp (L2.cH h) fun D σ H ⟨ρ,F,ab,k⟩=>
 ⟨ρ,F,ab,(Rk.bind k).imp fun a _ q v F' H' s r=>Rk.ok q v F' H' (ab.all.trans s) (AR.of r)⟩
noncomputable def aJ1:Sg->R Fw:=fun _=>.ok (.rt (.d .none))
def sIf(t:Sg->R Bool)(f g:Sg->R Fw):Sg->R Fw:=fun ρ=>(t ρ).bind fun b=>if b=true then f ρ else g ρ
theorem Rk.fw{F F1 H H1:Hp}{D:mK}{r:R Fw}(s:aG F F1)(k:Rk c E F H r (fV c F D)):Rk c E F1 H1 r (fV c F1 D):=by
 cases r with
 | bad=>exact k
 | ok w=>exact fV.same s k
 | ex e=>exact k
theorem eO{q:Expr}{sa sb:List Stmt}{t:Sg->R Bool}{f g:Sg->R Fw}(hq:PTf X c E q t)(ha:k7 X c E sa f)(hb:k7 X c E sb g):PSf X c E (.If q sa sb pos) (sIf t f g):=PS.imp (L2.eO hq ha hb) fun D σ H zz0=>by
 obtain ⟨ρ,F,ab,k⟩:=zz0
 refine ⟨ρ,F,ab,(Rk.bind k).imp fun b _ q F' H' s=>?_⟩
 cases b with
 | true=>exact xI ⟨ρ,F',ab.ext s,Rk.fw s.ff q⟩
 | false=>exact xH ⟨ρ,F',ab.ext s,Rk.fw s.ff q⟩
def aR(i:Nat)(f:Sg->R A):Sg->R Fw:=fun ρ=>(f ρ).bind fun a=>.ok (.nx (ρ.set i (some a)))
theorem aH{i:Nat}{f:Sg->R A}(h:PS X st (kW (tV (aB9 c) c E f) (jE i))):PSf X c E st (aR i f):=PS.imp h fun D σ H ⟨ρ,F,ab,k⟩=>
 ⟨ρ,F,ab,(Rk.bind k).imp fun a _ q v F' H' s r=>Rk.ok q _ F' H' s.ff ((ab.ext s).setA r)⟩
def cJ(i:Nat)(f:Sg->R (List PyData)):Sg->R Fw:=fun ρ=>(f ρ).bind fun xs=>.ok (.nx (ρ.set i (some (.l xs))))
theorem eH{i:Nat}{f:Sg->R (List PyData)}(h:PS X st (kW (tV (tG c) c E f) (jE i))):PSf X c E st (cJ i f):=PS.imp h fun D σ H ⟨ρ,F,ab,k⟩=>
 ⟨ρ,F,ab,(Rk.bind k).imp fun a _ q v F' H' s r=>Rk.ok q _ F' H' s.ff (ab.setN s r)⟩
def aDY(f:Sg->R A):Sg->R Fw:=fun ρ=>(f ρ).bind fun _=>.ok (.nx ρ)
theorem dZ{f:Sg->R A}(h:PS X st (o5 (tV (aB9 c) c E f))):PSf X c E st (aDY f):=PS.imp h fun D σ H ⟨ρ,F,ab,k⟩=>
 ⟨ρ,F,ab,(Rk.bind k).imp fun a _ q v F' H' s r=>Rk.ok q _ F' H' s.ff (ab.ext s)⟩
def dY(i:Nat)(f:Sg->R PyData):Sg->R Fw:=fun ρ=>match ρ[i]? with
 | some (some (.l xs))=>(f ρ).bind fun x=>if xs.length < 16777216 then .ok (.nx (ρ.set i (some (.l (xs++[x]))))) else .bad
 | _=>.bad
theorem gG{i:Nat}{f:Sg->R PyData}(hK:X.K=c.K)(h:PS X st (o5 (tBM X.K "list" pZ (fQ i) (dF (tV (cL c) c E f) fS)))):PSf X c E st (dY i f):=PS.imp h fun D σ H ⟨ρ,F,ab,k⟩=>by
 unfold dY at k
 split at k
 ·rename_i xs hi
  obtain ⟨v,hp,p,vs,rfl,h2,h3,h4,h5⟩:=ab.slot i _ hi
  refine ⟨_,hp,.inl ⟨rfl,vs,SqL.of h2⟩,ρ,F,ab,(Rk.bind k).imp fun x _ q u F1 H1 s1 r1=>?_⟩
  by_cases hz:xs.length < 16777216
  ·rw[if_pos hz] at q
   refine ⟨p,vs,u,rfl,rfl,s1.hh _ _ h2,by rw[h5.length,cQ];exact hz,?_⟩
   exact Rk.ok q σ F1 _ s1.ff ((ab.ext s1).putL hi hp ((h5.same s1.ff).append (.cons r1 .nil)))
  ·rw[if_neg hz] at q;exact q.elim
 ·exact k.elim
def aLA(i:Nat)(g:PyData->PyData->R PyData)(f:Sg->R PyData):Sg->R Fw:=fun ρ=>(eV i ρ).bind fun x=>(f ρ).bind fun y=>(g x y).bind fun z=>.ok (.nx (ρ.set i (some (.d z))))
end
end Fl
namespace Fl
open PySem L2 PyProof.Rows
def Tg(c:Ct)(g:TG)(fs:PyData->Sg->Option Sg)(is:List Nat):Prop:=∀ (v:V) (x:PyData) (ρ ρ':Sg) (σ:L2.St) (F H:Hp) (Q:L2.St->Hp->Prop),Ab c ρ σ F H->DatV c.K F v x->fs x ρ=some ρ'->
 (∀ σ':L2.St,σ'.length=σ.length->(∀ j:Nat,j∉is->σ'[j]? = σ[j]?)->Ab c ρ' σ' F H->Q σ' H)->g v σ H Q
noncomputable def stN(i:Nat):PyData->Sg->Option Sg:=fun x ρ=>some (ρ.set i (some (.d x)))
theorem bQ{c:Ct}(i:Nat):Tg c (jE i) (stN i) [i]:=fun v x ρ ρ' σ F H Q ab r e q=>by
 cases e
 exact q _ List.length_set (fun j hj=>List.getElem?_set_ne (by intro z;subst z;exact hj (by simp))) (ab.setA (a:=.d x) r)
noncomputable def stL:List (PyData->Sg->Option Sg)->List PyData->Sg->Option Sg
 | [],[],ρ=>some ρ
 | f::fs,x::xs,ρ=>(f x ρ).bind (stL fs xs)
 | _,_,_=>none
def Tgs(c:Ct)(g:TGs)(fs:List (PyData->Sg->Option Sg))(is:List Nat):Prop:=∀ (vs:List V) (xs:List PyData) (ρ ρ':Sg) (σ:L2.St) (F H:Hp) (Q:L2.St->Hp->Prop),Ab c ρ σ F H->DatVs c.K F vs xs->stL fs xs ρ=some ρ'->
 (∀ σ':L2.St,σ'.length=σ.length->(∀ j:Nat,j∉is->σ'[j]? = σ[j]?)->Ab c ρ' σ' F H->Q σ' H)->g vs σ H Q
theorem iH{c:Ct}:Tgs c aG6 [] []:=fun vs xs ρ ρ' σ F H Q ab r e q=>by
 cases xs with
 | nil=>cases e;exact ⟨by cases r;rfl,q σ rfl (fun _ _=>rfl) ab⟩
 | cons x t=>cases e
theorem c9{c:Ct}{g:TG}{gs:TGs}{f:PyData->Sg->Option Sg}{fs:List (PyData->Sg->Option Sg)}{is js:List Nat}(h:Tg c g f is)(h2:Tgs c gs fs js):Tgs c (aDN g gs) (f::fs) (is++js):=fun vs xs ρ ρ' σ F H Q ab r e q=>by
 cases r with
 | nil=>cases e
 | cons r1 r2=>
  rename_i x d vs ds
  have e':(f d ρ).bind (stL fs ds)=some ρ':=e
  cases e1:f d ρ with
  | none=>rw[e1] at e';cases e'
  | some ρ1=>
   rw[e1] at e'
   refine ⟨_,_,rfl,h _ _ ρ ρ1 σ F H _ ab r1 e1 fun σ1 l1 k1 ab1=>h2 _ _ ρ1 ρ' σ1 F H _ ab1 r2 e' fun σ2 l2 k2 ab2=>q σ2 (l2.trans l1) (fun j hj=>?_) ab2⟩
   rw[List.mem_append,not_or] at hj
   exact (k2 j hj.2).trans (k1 j hj.1)
noncomputable def stT(fs:List (PyData->Sg->Option Sg)):PyData->Sg->Option Sg:=fun x ρ=>match x with
 | .tuple xs=>stL fs xs ρ
 | _=>none
theorem vO:∀ {fs:List (PyData->Sg->Option Sg)} {xs:List PyData} {ρ ρ':Sg},stL fs xs ρ=some ρ'->xs.length=fs.length
 | [],[],_,_,_=>rfl
 | [],_::_,_,_,h=>by cases h
 | _::_,[],_,_,h=>by cases h
 | f::fs,x::xs,ρ,ρ',h=>by
  have h':(f x ρ).bind (stL fs xs)=some ρ':=h
  cases e:f x ρ with
  | none=>rw[e] at h';cases h'
  | some ρ1=>
   rw[e] at h'
   have:=vO (fs:=fs) (xs:=xs) h'
   simp[this]
theorem jZ{c:Ct}{gs:TGs}{fs:List (PyData->Sg->Option Sg)}{is:List Nat}{n:Nat}{K:Frag}(hK:K=c.K)(h:Tgs c gs fs is)(hn:fs.length=n):Tg c (aG7 K n gs) (stT fs) is:=fun v x ρ ρ' σ F H Q ab r e q=>by
 cases x with
 | tuple xs=>
  obtain ⟨a,vs,rfl,h1,h2⟩:=r.tup_of
  subst hK
  exact ⟨a,vs,rfl,h1.same ab.fh,by rw[h2.length,vO e,hn],h vs xs ρ ρ' σ F H Q ab h2 e q⟩
 | _=>cases e
structure Yld(K:Frag)(J:It)(F B:Hp)(xs:List PyData):Prop where
 len:xs.length<=sizeLine
 go:∀ (i:Nat) F1 H1,aG F F1->aG F1 H1->aG B H1->i < xs.length->J.go i H1
 yld:∀ (i:Nat) F1 H1 v H2 x,aG F F1->aG F1 H1->aG B H1->J.yld i H1 v H2->xs[i]? = some x->∃ F2,Ext F1 H1 F2 H2/\DatV K F2 v x
 stop:∀ F1 H1,aG F F1->aG F1 H1->aG B H1->J.stop xs.length H1
def tI(c:Ct)(E:XK)(f:Sg->R (List PyData)):TI:=fun σ H Rr=>∃ ρ F,Ab c ρ σ F H/\Rk c E F H (f ρ) fun xs=>∀ J B F' H',Ext F H F' H'->aG B H'->Yld c.K J F' B xs->Rr J H'
def tI0(c:Ct)(E:XK)(f:Sg->R (List PyData)):TI:=fun σ H Rr=>∃ ρ F,Ab c ρ σ F H/\Rk c E F H (f ρ) fun xs=>∀ J F' H',Ext F H F' H'->Yld c.K J F' (fun _=>none) xs->Rr J H'
theorem PI.imp{X:Cx}{tg e:Expr}{t t':TI}(h:PI X tg e t)(i:∀ σ H Q,t' σ H Q->t σ H Q):PI X tg e t':=fun pins s σ H Q I q=>h pins s σ H Q I (i σ H Q q)
abbrev PIf(X:Cx)(c:Ct)(E:XK)(tg e:Expr)(f:Sg->R (List PyData)):Prop:=PI X tg e (tI c E f)
abbrev PI0(X:Cx)(c:Ct)(E:XK)(tg e:Expr)(f:Sg->R (List PyData)):Prop:=PI X tg e (tI0 c E f)
theorem aJ2{X:Cx}{c:Ct}{E:XK}{tg e:Expr}{f:Sg->R (List PyData)}(h:PI0 X c E tg e f):PIf X c E tg e f:=PI.imp h fun σ H Q ⟨ρ,F,ab,k⟩=>
 ⟨ρ,F,ab,k.imp fun xs _ q J F' H' s y=>q J (fun _=>none) F' H' s (fun _ _ z=>nomatch z) y⟩
def nE{H:Hp}:aG (fun _=>none) H:=fun _ _ z=>nomatch z
noncomputable def aT:PyData->R (List PyData)
 | .list xs=>if xs.length<=16777216 then .ok xs else .bad
 | .tuple xs=>if xs.length<=16777216 then .ok xs else .bad
 | .str z=>if z.cps.toList.length<=16777216 then .ok (z.cps.toList.map fun u=>.str ⟨#[u]⟩) else .bad
 | _=>.bad
theorem tN{K:Frag}{F B H:Hp}{a:Addr}{vs:List V}{xs:List PyData}(hz:xs.length<=16777216)(hs:∀ H1,aG F H1->aG B H1->SqL K H1 a vs)(hd:DatVs K F vs xs):Yld K (Itl K a) F B xs where
 len:=by rw[cQ];exact hz
 go:=fun i F1 H1 h1 h2 h3 hi=>by
  have q:=hs H1 (fun x o z=>h2 x o (h1 x o z)) h3
  exact ⟨vs,vs[i]'(by rw[hd.length];exact hi),q,by simp⟩
 yld:=fun i F1 H1 v H2 x h1 h2 h3 y e=>by
  obtain ⟨rfl,y⟩:=y
  have q:=y vs (hs _ (fun x o z=>h2 x o (h1 x o z)) h3)
  obtain ⟨d,e2,r⟩:=hd.get q
  rw[e] at e2
  cases e2
  exact ⟨F1,Ext.refl h2,r.same h1⟩
 stop:=fun F1 H1 h1 h2 h3=>⟨vs,hs H1 (fun x o z=>h2 x o (h1 x o z)) h3,by rw[hd.length];exact Nat.le_refl _⟩
theorem vP{K:Frag}{F B:Hp}{a:Addr}{vs:List V}{xs:List PyData}(hz:xs.length<=16777216)(hs:SqT K F a vs)(hd:DatVs K F vs xs):Yld K (Itt K a) F B xs where
 len:=by rw[cQ];exact hz
 go:=fun i F1 H1 h1 h2 h3 hi=>by
  have q:=hs.same (H':=H1) (fun x o z=>h2 x o (h1 x o z))
  exact ⟨vs,vs[i]'(by rw[hd.length];exact hi),q,by simp⟩
 yld:=fun i F1 H1 v H2 x h1 h2 h3 y e=>by
  obtain ⟨rfl,y⟩:=y
  have q:=y vs (hs.same (fun x o z=>h2 x o (h1 x o z)))
  obtain ⟨d,e2,r⟩:=hd.get q
  rw[e] at e2
  cases e2
  exact ⟨F1,Ext.refl h2,r.same h1⟩
 stop:=fun F1 H1 h1 h2 h3=>⟨vs,hs.same (fun x o z=>h2 x o (h1 x o z)),by rw[hd.length];exact Nat.le_refl _⟩
theorem vQ{K:Frag}{F B:Hp}{z:Str}(hz:z.cps.toList.length<=16777216):Yld K (Its z) F B (z.cps.toList.map fun u=>.str ⟨#[u]⟩) where
 len:=by rw[cQ,List.length_map];exact hz
 go:=fun i F1 H1 h1 h2 h3 hi=>by
  rw[List.length_map,Array.length_toList] at hi
  exact hi
 yld:=fun i F1 H1 v H2 x h1 h2 h3 y e=>by
  obtain ⟨rfl,u,hu,rfl⟩:=y
  rw[List.getElem?_map,Array.getElem?_toList,hu] at e
  cases e
  exact ⟨F1,Ext.refl h2,.str _⟩
 stop:=fun F1 H1 h1 h2 h3=>by
  show (z.cps.toList.map _).length=z.cps.size
  rw[List.length_map,Array.length_toList]
section
variable{X:Cx}{c:Ct}{E:XK}{tg e a b:Expr}{pos:Pos}
theorem yB{f:Sg->R PyData}(hK:X.K=c.K)(h:PD X c E e f):PI0 X c E tg e (e1 aT f):=PI.imp (PI.or (zP h) (zS h)) fun σ H Q ⟨ρ,F,ab,k⟩=>by
 have k':=Rk.bind k
 cases hf:f ρ with
 | bad=>rw[hf] at k';exact k'.elim
 | ex x=>rw[hf] at k';exact .inl ⟨ρ,F,ab,by rw[hf];exact k'⟩
 | ok d=>
  rw[hf] at k'
  have k2:=Rk.ok k'
  unfold aT at k2
  split at k2
  ·rename_i xs
   split at k2
   ·rename_i hz
    refine .inl ⟨ρ,F,ab,?_⟩
    rw[hf]
    intro v F' H' s r
    obtain ⟨p,vs,rfl,h1,h2⟩:=DatV.lst_of r
    refine ⟨p,rfl,.inl ⟨⟨vs,?_⟩,?_⟩⟩
    · rw [hK]; exact h1.same s.fh
    · rw [hK]; exact Rk.ok k2 _ F' H' s (tN (H := H') hz (fun H1 q _ => h1.same q) h2)
   ·exact k2.elim
  ·rename_i xs
   split at k2
   ·rename_i hz
    refine .inl ⟨ρ,F,ab,?_⟩
    rw[hf]
    intro v F' H' s r
    obtain ⟨p,vs,rfl,h1,h2⟩:=DatV.tup_of r
    refine ⟨p,rfl,.inr ⟨⟨vs,?_⟩,?_⟩⟩
    · rw [hK]; exact h1.same s.fh
    · rw [hK]; exact Rk.ok k2 _ F' H' s (vP hz h1 h2)
   ·exact k2.elim
  ·rename_i z
   split at k2
   ·rename_i hz
    refine .inr ⟨ρ,F,ab,?_⟩
    rw[hf]
    intro v F' H' s r
    obtain rfl:=DatV.str_of r
    exact ⟨z,rfl,Rk.ok k2 _ F' H' s (vQ hz)⟩
   ·exact k2.elim
  ·exact k2.elim
theorem yC{f:Sg->R PyData}(hK:X.K=c.K)(h:PR X c E e f):PIf X c E tg e (e1 aT f):=PI.imp (PI.or (zP h) (zS h)) fun σ H Q ⟨ρ,F,ab,k⟩=>by
 have k':=Rk.bind k
 cases hf:f ρ with
 | bad=>rw[hf] at k';exact k'.elim
 | ex x=>rw[hf] at k';exact .inl ⟨ρ,F,ab,by rw[hf];exact k'⟩
 | ok d=>
  rw[hf] at k'
  have k2:=Rk.ok k'
  unfold aT at k2
  split at k2
  ·rename_i xs
   split at k2
   ·rename_i hz
    refine .inl ⟨ρ,F,ab,?_⟩
    rw[hf]
    intro v F' H' s r
    obtain ⟨p,vs,rfl,h1,h2⟩:=aS.lst_of s.fh r
    refine ⟨p,rfl,.inl ⟨⟨vs,?_⟩,?_⟩⟩
    · rw [hK]; exact h1
    · rw [hK]; exact Rk.ok k2 _ H' F' H' s (bK _) (tN (H := H') hz (fun H1 _ q => h1.same q) h2)
   ·exact k2.elim
  ·rename_i xs
   split at k2
   ·rename_i hz
    refine .inl ⟨ρ,F,ab,?_⟩
    rw[hf]
    intro v F' H' s r
    obtain ⟨p,vs,rfl,h1,_,h2⟩:=aS.tup_of s.fh r
    refine ⟨p,rfl,.inr ⟨⟨vs,?_⟩,?_⟩⟩
    · rw [hK]; exact h1.same s.fh
    · rw [hK]; exact Rk.ok k2 _ H' F' H' s (bK _) (vP hz h1 h2)
   ·exact k2.elim
  ·rename_i z
   split at k2
   ·rename_i hz
    refine .inr ⟨ρ,F,ab,?_⟩
    rw[hf]
    intro v F' H' s r
    obtain rfl:=aS.str_of r
    exact ⟨z,rfl,Rk.ok k2 _ H' F' H' s (bK _) (vQ hz)⟩
   ·exact k2.elim
  ·exact k2.elim
noncomputable def j2(lo:Int)(n:Nat):List PyData:=(List.range n).map fun i:Nat=>.int (lo+i)
def iA(lo hi:Int):R (List PyData):=if -4611686018427387904<=lo/\lo < 4611686018427387904 /\ -4611686018427387904<=hi/\hi < 4611686018427387904/\hi - lo<=16777216 then .ok (j2 lo (hi - lo).toNat) else .bad
def cR(f:Sg->R PyData):Sg->R (List PyData):=fun ρ=>(f ρ).bind fun x=>match x with
 | .int j=>iA 0 j
 | _=>.bad
def aE7(f g:Sg->R PyData):Sg->R (List PyData):=fun ρ=>(f ρ).bind fun x=>(g ρ).bind fun y=>match x,y with
 | .int i,.int j=>iA i j
 | _,_=>.bad
theorem aAE{K:Frag}{F B:Hp}{lo:Int}{n:Nat}(hz:n<=16777216):Yld K (Itr lo n) F B (j2 lo n) where
 len:=by unfold j2;rw[cQ,List.length_map,List.length_range];exact hz
 go:=fun i F1 H1 h1 h2 h3 hi=>by unfold j2 at hi;rw[List.length_map,List.length_range] at hi;exact hi
 yld:=fun i F1 H1 v H2 x h1 h2 h3 y e=>by
  obtain ⟨rfl,rfl⟩:=y
  unfold j2 at e
  rw[List.getElem?_map] at e
  cases q:(List.range n)[i]? with
  | none=>rw[q] at e;cases e
  | some j=>
   rw[q] at e
   cases e
   obtain ⟨hl,hv⟩:=List.getElem?_eq_some_iff.mp q
   rw[List.getElem_range] at hv
   subst hv
   exact ⟨F1,Ext.refl h2,.int _⟩
 stop:=fun F1 H1 h1 h2 h3=>by show n<=_;unfold j2;rw[List.length_map,List.length_range];exact Nat.le_refl _
theorem jO{f:Sg->R PyData}(h:PI X tg e (aDO (dF (tV (bJ c) c E f) fS))):PI0 X c E tg e (cR f):=PI.imp h fun σ H Q ⟨ρ,F,ab,k⟩=>by
 refine ⟨ρ,F,ab,(Rk.bind k).imp fun x _ q v F' H' s r=>?_⟩
 cases x with
 | int j=>
  have q':Rk c E F H (iA 0 j) _:=q
  unfold iA at q'
  split at q'
  ·rename_i hz
   obtain rfl:=aS.int_of r
   refine ⟨j,rfl,by omega,by omega,?_⟩
   have e0:(j - 0).toNat=j.toNat:=by rw[Int.sub_zero]
   rw[<-e0]
   exact Rk.ok q' _ F' H' s (aAE (by omega))
  ·exact q'.elim
 | _=>exact q.elim
end
end Fl
namespace Fl
open PySem L2 PyProof.Rows
noncomputable def gO(js:List (Option Nat))(ρ:Sg):Sg:=js.map fun o=>o.bind fun j=>(ρ[j]?).join
theorem qC{α:Type}{js:List (Option Nat)}{ρ:List (Option α)}{i:Nat}{a:α}(h:(js.map fun o=>o.bind fun j=>(ρ[j]?).join)[i]? = some (some a)):∃ j,js[i]? = some (some j)/\ρ[j]? = some (some a):=by
 rw[List.getElem?_map] at h
 cases e:js[i]? with
 | none=>rw[e] at h;cases h
 | some o=>
  rw[e] at h
  have h':(o.bind fun j=>(ρ[j]?).join)=some a:=Option.some.inj h
  cases o with
  | none=>cases h'
  | some j=>
   have h2:(ρ[j]?).join=some a:=h'
   cases e2:ρ[j]? with
   | none=>rw[e2] at h2;cases h2
   | some o2=>rw[e2] at h2;have:o2=some a:=h2;subst this;exact ⟨j,rfl,e2⟩
theorem qD{α:Type}{js:List (Option Nat)}{ρ:List (Option α)}{i j:Nat}{a:α}(h:js[i]? = some (some j))(h2:ρ[j]? = some (some a)):(js.map fun o=>o.bind fun j=>(ρ[j]?).join)[i]? = some (some a):=by
 rw[List.getElem?_map,h]
 show some ((ρ[j]?).join)=_
 rw[h2];rfl
def qE(js:List (Option Nat)):Prop:=∀ (i k j:Nat),js[i]? = some (some j)->js[k]? = some (some j)->i=k
theorem yD{js:List (Option Nat)}(h:js.Pairwise fun a b=>a=none\/a≠b):qE js:=fun i k j h1 h2=>by
 obtain ⟨l1,e1⟩:=List.getElem?_eq_some_iff.mp h1
 obtain ⟨l2,e2⟩:=List.getElem?_eq_some_iff.mp h2
 rw[List.pairwise_iff_getElem] at h
 rcases Nat.lt_trichotomy i k with q|q|q
 ·rcases h i k l1 l2 q with z|z
  · rw [e1] at z; cases z
  · exact absurd (e1.trans e2.symm) z
 ·exact q
 ·rcases h k i l2 l1 q with z|z
  · rw [e2] at z; cases z
  · exact absurd (e2.trans e1.symm) z
theorem Ab.cap{c:Ct}{ρ:Sg}{σ σ0:L2.St}{F H:Hp}{js:List (Option Nat)}(b:Ab c ρ σ F H)(ho:qE js)(k:c7 (iE js σ) σ0):Ab c (gO js ρ) σ0 F H where
 len:=by rw[k.1];unfold gO iE;rw[List.length_map,List.length_map]
 fh:=b.fh
 slot:=fun i a h=>by
  obtain ⟨j,h1,h2⟩:=qC h
  obtain ⟨v,h3,h4⟩:=b.slot j a h2
  exact ⟨v,k.2 i v (qD h1 h3),h4⟩
 apart:=fun i i' a a' hne h h' o o'=>by
  obtain ⟨j,h1,h2⟩:=qC h
  obtain ⟨j',h1',h2'⟩:=qC h'
  have hj:j≠j':=fun z=>hne (ho i i' j h1 (by rw[h1',z]))
  obtain ⟨v,h3,_⟩:=b.slot j a h2
  obtain ⟨v',h3',_⟩:=b.slot j' a' h2'
  rw[k.2 i v (qD h1 h3),k.2 i' v' (qD h1' h3'),<-h3,<-h3']
  exact b.apart j j' a a' hj h2 h2' o o'
 f0:=b.f0
 h0:=b.h0
 n0:=b.n0
 t0:=b.t0
noncomputable def R.noEx{α:Type}:R α->R α
 | .ex _=>.bad
 | r=>r
@[simp] theorem R.noEx_ok{α:Type}(a:α):(R.ok a).noEx=.ok a:=id rfl
noncomputable def tO{α:Type}:Option α->R α
 | some a=>.ok a
 | none=>.bad
@[simp] theorem nF{α:Type}(a:α):tO (some a)=.ok a:=id rfl
noncomputable def compL(fs:PyData->Sg->Option Sg)(ft:Sg->R Bool)(fe:Sg->R PyData)(ρ0:Sg):List PyData->R (List PyData)
 | []=>.ok []
 | x::t=>(tO (fs x ρ0)).bind fun ρ1=>(ft ρ1).noEx.bind fun b=>if b=true then (fe ρ1).noEx.bind fun y=>(compL fs ft fe ρ0 t).bind fun ys=>.ok (y::ys) else compL fs ft fe ρ0 t
theorem mB{fs:PyData->Sg->Option Sg}{ft:Sg->R Bool}{fe:Sg->R PyData}{ρ0:Sg}{e:Er}:∀ {xs:List PyData},compL fs ft fe ρ0 xs≠.ex e
 | []=>fun h=>by cases h
 | x::t=>fun h=>by
  unfold compL at h
  cases h1:fs x ρ0 with
  | none=>rw[h1] at h;cases h
  | some ρ1=>
   rw[h1] at h
   have h:((ft ρ1).noEx.bind fun b=>if b=true then (fe ρ1).noEx.bind fun y=>(compL fs ft fe ρ0 t).bind fun ys=>.ok (y::ys) else compL fs ft fe ρ0 t)=.ex e:=h
   cases h2:ft ρ1 with
   | bad=>rw[h2] at h;cases h
   | ex _=>rw[h2] at h;cases h
   | ok b=>
    rw[h2] at h
    have h:(if b=true then (fe ρ1).noEx.bind fun y=>(compL fs ft fe ρ0 t).bind fun ys=>.ok (y::ys) else compL fs ft fe ρ0 t)=.ex e:=h
    cases b with
    | false=>exact mB (xs:=t) h
    | true=>
     have h:((fe ρ1).noEx.bind fun y=>(compL fs ft fe ρ0 t).bind fun ys=>.ok (y::ys))=.ex e:=h
     cases h3:fe ρ1 with
     | bad=>rw[h3] at h;cases h
     | ex _=>rw[h3] at h;cases h
     | ok y=>
      rw[h3] at h
      have h:((compL fs ft fe ρ0 t).bind fun ys=>.ok (y::ys))=.ex e:=h
      cases h4:compL fs ft fe ρ0 t with
      | bad=>rw[h4] at h;cases h
      | ex e'=>exact mB (xs:=t) (e:=e') h4
      | ok ys=>rw[h4] at h;cases h
theorem yE{fs:PyData->Sg->Option Sg}{ft:Sg->R Bool}{fe:Sg->R PyData}{ρ0:Sg}{x:PyData}{t ys:List PyData}(h:compL fs ft fe ρ0 (x::t)=.ok ys) :
  ∃ ρ1 b,fs x ρ0=some ρ1/\ft ρ1=.ok b/\((b=true/\∃ y zs,fe ρ1=.ok y/\compL fs ft fe ρ0 t=.ok zs/\ys=y::zs)\/(b=false/\compL fs ft fe ρ0 t=.ok ys)):=by
 unfold compL at h
 cases h1:fs x ρ0 with
 | none=>rw[h1] at h;cases h
 | some ρ1=>
  rw[h1] at h
  have h:((ft ρ1).noEx.bind fun b=>if b=true then (fe ρ1).noEx.bind fun y=>(compL fs ft fe ρ0 t).bind fun ys=>.ok (y::ys) else compL fs ft fe ρ0 t)=.ok ys:=h
  cases h2:ft ρ1 with
  | bad=>rw[h2] at h;cases h
  | ex _=>rw[h2] at h;cases h
  | ok b=>
   rw[h2] at h
   have h:(if b=true then (fe ρ1).noEx.bind fun y=>(compL fs ft fe ρ0 t).bind fun ys=>.ok (y::ys) else compL fs ft fe ρ0 t)=.ok ys:=h
   refine ⟨ρ1,b,rfl,h2,?_⟩
   cases b with
   | false=>exact .inr ⟨rfl,h⟩
   | true=>
    refine .inl ⟨rfl,?_⟩
    have h:((fe ρ1).noEx.bind fun y=>(compL fs ft fe ρ0 t).bind fun ys=>.ok (y::ys))=.ok ys:=h
    cases h3:fe ρ1 with
    | bad=>rw[h3] at h;cases h
    | ex _=>rw[h3] at h;cases h
    | ok y=>
     rw[h3] at h
     have h:((compL fs ft fe ρ0 t).bind fun ys=>.ok (y::ys))=.ok ys:=h
     cases h4:compL fs ft fe ρ0 t with
     | bad=>rw[h4] at h;cases h
     | ex e'=>rw[h4] at h;cases h
     | ok zs=>rw[h4] at h;cases h;exact ⟨y,zs,rfl,rfl,rfl⟩
def f8(js:List (Option Nat))(fi:Sg->R (List PyData))(fs:PyData->Sg->Option Sg)(ft:Sg->R Bool)(fe:Sg->R PyData):Sg->R (List PyData):=fun ρ=>(fi ρ).bind fun xs=>compL fs ft fe (gO js ρ) xs
noncomputable def iI:Sg->R Bool:=fun _=>.ok true
section
variable{X:Cx}{c:Ct}{E:XK}{e a b:Expr}{pos:Pos}
theorem gT:L2.PIf X [] (tTf c E iI):=fun pins s σ H Q I ⟨ρ,F,ab,k⟩=>L2.gT pins s σ H Q I (Rk.ok k F H (Ext.refl ab.fh))
theorem aCC{js:List (Option Nat)}{is:List Nat}{σ σ0 σ1:L2.St}(k:c7 (iE js σ) σ0)(hl:σ1.length=σ0.length)(h:∀ j:Nat,j∉is->σ1[j]? = σ0[j]?)(hi:∀ i∈is,js[i]? = some none):c7 (iE js σ) σ1:=
 ⟨hl.trans k.1,fun i v e=>by
  by_cases q:i∈is
  ·unfold iE at e
   rw[List.getElem?_map,hi i q] at e
   cases e
  ·rw[h i q];exact k.2 i v e⟩
theorem aAF{N:List Str}{js:List (Option Nat)}{scope:Scope}{tg elt:Expr}{ifs:List Expr}{fi:Sg->R (List PyData)}{fs:PyData->Sg->Option Sg}{ft:Sg->R Bool}{fe:Sg->R PyData}{is:List Nat}(ho:qE js)(hi:∀ i∈is,js[i]? = some none)
  (hb:∀ (cl:List (Str×Addr)) (C:Addr) (s:Shared) (H0:Hp) (fp:List Addr),∃ g,PG (gE X N scope cl C s H0 fp) tg g/\Tg c g fs is/\L2.PIf (gE X N scope cl C s H0 fp) ifs (tTf c E0 ft)/\PD (gE X N scope cl C s H0 fp) c E0 elt fe)
  {σ:L2.St} {H:Hp} {Q:VK} (h:tV (tG c) c E (f8 js fi fs ft fe) σ H Q):xL X N scope js tg elt ifs (tI c E fi) σ H Q:=by
 obtain ⟨ρ,F,ab,k⟩:=h
 refine ⟨ρ,F,ab,(Rk.bind k).imp fun xs _ q J B F1 H1 s1 sb yl=>?_⟩
 cases hc:compL fs ft fe (gO js ρ) xs with
 | bad=>rw[hc] at q;exact q.elim
 | ex e=>exact absurd hc mB
 | ok ys=>
  rw[hc] at q
  refine aEQ (n:=xs.length) (fun i acc H'=>∃ F',Ext F1 H1 F' H'/\acc.length<=i/\∃ zs rest,DatVs c.K F' acc zs/\compL fs ft fe (gO js ρ) (xs.drop i)=.ok rest/\zs++rest=ys) yl.len ⟨F1,Ext.refl s1.fh,Nat.le_refl _,[],ys,.nil,hc,rfl⟩ ?_ ?_ ?_ ?_ ?_
  ·rintro i acc H' _ ⟨F',_,h,_⟩;exact h
  ·rintro i acc H' hlt ⟨F',e1,_⟩
   exact yl.go i F' H' e1.ff e1.fh (fun a o z=>e1.hh a o (sb a o z)) hlt
  ·rintro acc H' ⟨F',e1,_⟩
   exact yl.stop F' H' e1.ff e1.fh (fun a o z=>e1.hh a o (sb a o z))
  ·rintro i v acc Ha Hb hlt ⟨F',e1,hlen,zs,rest,hd,hr,hz⟩ hy
   obtain ⟨F2,e2,rx⟩:=yl.yld i F' Ha v Hb xs[i] e1.ff e1.fh (fun a o z=>e1.hh a o (sb a o z)) hy (List.getElem?_eq_getElem hlt)
   have hdr:xs.drop i=xs[i]::xs.drop (i+1):=List.drop_eq_getElem_cons hlt
   rw[hdr] at hr
   obtain ⟨ρ1,bb,hs,ht,hcase⟩:=yE hr
   intro cl C s H0 fp
   obtain ⟨g,hg,tg',hif,he⟩:=hb cl C s H0 fp
   refine ⟨g,_,_,hg,hif,he,fun σ0 k0=>?_⟩
   have ab0:Ab c (gO js ρ) σ0 F2 Hb:=(ab.ext (s1.trans (e1.trans e2))).cap ho k0
   refine tg' v xs[i] _ ρ1 σ0 F2 Hb _ ab0 rx hs fun σ1 hl1 hk1 ab1=>⟨aCC k0 hl1 hk1 hi,ρ1,F2,ab1,?_⟩
   rw[ht]
   intro F3 H3 e3
   rcases hcase with ⟨rfl,y,ws,hy1,hy2,rfl⟩|⟨rfl,hy2⟩
   ·refine xI ⟨ρ1,F3,ab1.ext e3,?_⟩
    rw[hy1]
    intro w F4 H4 e4 rw'
    refine ⟨F4,e1.trans (e2.trans (e3.trans e4)),by rw[List.length_append,List.length_singleton];omega,zs++[y],ws,(hd.same (e2.trans (e3.trans e4)).ff).append (.cons rw' .nil),hy2,by rw[List.append_assoc];exact hz⟩
   ·exact xH ⟨F3,e1.trans (e2.trans e3),by omega,zs,rest,hd.same (e2.trans e3).ff,hy2,hz⟩
  ·rintro acc H' ⟨F',e1,_,zs,rest,hd,hr,hz⟩ p hp
   rw[List.drop_length] at hr
   cases hr
   rw[List.append_nil] at hz
   subst hz
   exact Rk.ok q (.ref p) F' _ (s1.trans (e1.trans (Ext.own e1.fh hp))) ⟨p,acc,rfl,bG (s1.trans e1).hh hp,aU,bG e1.fh hp,hd⟩
theorem jP{N:List Str}{js:List (Option Nat)}{scope:Scope}{tg elt:Expr}{ifs:List Expr}{fi:Sg->R (List PyData)}{fs:PyData->Sg->Option Sg}{ft:Sg->R Bool}{fe:Sg->R PyData}{is:List Nat}(h:PE X e (xL X N scope js tg elt ifs (tI c E fi)))(ho:js.Pairwise fun a b=>a=none\/a≠b)(hi:∀ i∈is,js[i]? = some none)
 (hb:∀ (cl:List (Str×Addr)) (C:Addr) (s:Shared) (H0:Hp) (fp:List Addr),∃ g,PG (gE X N scope cl C s H0 fp) tg g/\Tg c g fs is/\L2.PIf (gE X N scope cl C s H0 fp) ifs (tTf c E0 ft)/\PD (gE X N scope cl C s H0 fp) c E0 elt fe) :
 PN X c E e (f8 js fi fs ft fe):=PE.imp h fun σ H Q q=>aAF (yD ho) hi hb q
end
noncomputable def gC(fs:PyData->Sg->Option Sg)(fb:Sg->R Fw):List PyData->Sg->R Fw
 | [],ρ=>.ok (.nx ρ)
 | x::t,ρ=>(tO (fs x ρ)).bind fun ρ1=>(fb ρ1).bind fun w=>match w with
  | .nx ρ2=>gC fs fb t ρ2
  | .ct ρ2=>gC fs fb t ρ2
  | .bk ρ2=>.ok (.nx ρ2)
  | .rt a=>.ok (.rt a)
def dE(fi:Sg->R (List PyData))(fs:PyData->Sg->Option Sg)(fb:Sg->R Fw):Sg->R Fw:=fun ρ=>(fi ρ).bind fun xs=>gC fs fb xs ρ
section
variable{X:Cx}{c:Ct}{E:XK}{e a b:Expr}{pos:Pos}{st:Stmt}
theorem cD{g:TG}{fi:Sg->R (List PyData)}{fs:PyData->Sg->Option Sg}{is:List Nat}{fb:Sg->R Fw}(hg:Tg c g fs is)(h:PS X st (aG9 (tI0 c E fi) g (tSf c E fb))):PSf X c E st (dE fi fs fb):=PS.imp h fun D σ H zz0=>by
 obtain ⟨ρ,F,ab,k⟩:=zz0
 refine ⟨ρ,F,ab,(Rk.bind k).imp fun xs _ q J F1 H1 s1 yl=>?_⟩
 refine ⟨fun i m σ H=>m=xs.length - i/\i<=xs.length/\∃ ρ' F',aG F1 F'/\Ab c ρ' σ F' H/\Rk c E F' H (gC fs fb (xs.drop i) ρ') (fV c F D),⟨xs.length,by simp,Nat.zero_le _,ρ,F1,bK _,ab.ext s1,Rk.ext s1 q⟩,?_⟩
 rintro i m σ2 H2 ⟨rfl,hi,ρ2,F2,s2,ab2,k2⟩
 by_cases hlt:i < xs.length
 ·refine .inr ⟨yl.go i F2 H2 s2 ab2.fh nE hlt,fun σ' H'=>∃ ρ' F',aG F1 F'/\Ab c ρ' σ' F' H'/\Rk c E F' H' (gC fs fb (xs.drop (i+1)) ρ') (fV c F D),fun σ' H' w=>⟨xs.length - (i+1),by omega,rfl,hlt,w⟩,fun v H3 y=>?_⟩
  obtain ⟨F3,e3,rv⟩:=yl.yld i F2 H2 v H3 xs[i] s2 ab2.fh nE y (List.getElem?_eq_getElem hlt)
  have hdr:xs.drop i=xs[i]::xs.drop (i+1):=List.drop_eq_getElem_cons hlt
  rw[hdr] at k2
  unfold gC at k2
  cases h1:fs xs[i] ρ2 with
  | none=>rw[h1] at k2;exact k2.elim
  | some ρ3=>
   rw[h1] at k2
   refine hg v xs[i] ρ2 ρ3 σ2 F3 H3 _ (ab2.ext e3) rv h1 fun σ3 _ _ ab3=>⟨ρ3,F3,ab3,?_⟩
   have k3:Rk c E F2 H2 (fb ρ3) _:=Rk.bind k2
   cases h2:fb ρ3 with
   | bad=>rw[h2] at k3;exact k3.elim
   | ex e=>rw[h2] at k3;exact k3
   | ok w=>
    rw[h2] at k3
    have k4:=Rk.ok k3
    have sF:aG F F3:=fun a o z=>e3.ff a o (s2 a o (s1.ff a o z))
    cases w with
    | nx ρ4=>exact fun σ' F' H' s' ab'=>⟨ρ4,F',fun a o z=>s' a o (e3.ff a o (s2 a o z)),ab',k4⟩
    | ct ρ4=>exact fun σ' F' H' s' ab'=>⟨ρ4,F',fun a o z=>s' a o (e3.ff a o (s2 a o z)),ab',k4⟩
    | bk ρ4=>exact fun σ' F' H' s' ab'=>Rk.ok k4 σ' F' H' (fun a o z=>s' a o (sF a o z)) ab'
    | rt a=>exact fun v F' H' z r=>Rk.ok k4 v F' H' z r
 ·have e:i=xs.length:=by omega
  subst e
  rw[List.drop_length] at k2
  exact .inl ⟨yl.stop F2 H2 s2 ab2.fh nE,Rk.ok k2 σ2 F2 H2 (fun a o z=>s2 a o (s1.ff a o z)) ab2⟩
end
noncomputable def b8(t:Sg->R Bool)(b:Sg->R Fw):Nat->Sg->R Fw
 | 0,_=>.bad
 | n+1,ρ=>(t ρ).bind fun k=>if k=true then (b ρ).bind fun w=>match w with
   | .nx ρ'=>b8 t b n ρ'
   | .ct ρ'=>b8 t b n ρ'
   | .bk ρ'=>.ok (.nx ρ')
   | .rt a=>.ok (.rt a)
  else .ok (.nx ρ)
open Classical in
noncomputable def bA(t:Sg->R Bool)(b:Sg->R Fw):Sg->R Fw:=fun ρ=>if h:∃ n,b8 t b n ρ≠.bad then b8 t b h.choose ρ else .bad
theorem R.bind_mono{α β:Type}{r:R α}{f g:α->R β}(h:r.bind f≠.bad)(hfg:∀ a,f a≠.bad->g a=f a):r.bind g=r.bind f:=by
 cases r with
 | bad=>rfl
 | ex e=>rfl
 | ok a=>exact hfg a h
theorem iQ{t:Sg->R Bool}{b:Sg->R Fw}:∀ {n m:Nat} {ρ:Sg},n<=m->b8 t b n ρ≠.bad->b8 t b m ρ=b8 t b n ρ
 | 0,_,_,_,h=>absurd rfl h
 | n+1,0,_,hm,_=>absurd hm (by omega)
 | n+1,m+1,ρ,hm,h=>by
  unfold b8 at h ⊢
  refine R.bind_mono h fun k hk=>?_
  cases k with
  | false=>rfl
  | true=>
   refine R.bind_mono (r:=b ρ) hk fun w hw=>?_
   cases w with
   | nx ρ'=>exact iQ (by omega) hw
   | ct ρ'=>exact iQ (by omega) hw
   | bk ρ'=>rfl
   | rt a=>rfl
theorem nG{t:Sg->R Bool}{b:Sg->R Fw}{ρ:Sg}{n:Nat}(h:b8 t b n ρ≠.bad):bA t b ρ=b8 t b n ρ:=by
 have hx:∃ n,b8 t b n ρ≠.bad:=⟨n,h⟩
 unfold bA
 rw[dif_pos hx]
 have hc:=hx.choose_spec
 rcases Nat.le_total n hx.choose with q|q
 · exact iQ q h
 · exact (iQ q hc).symm
theorem rP (t : Sg -> R Bool) (b : Sg -> R Fw) (ρ : Sg) : bA t b ρ = (t ρ).bind fun k => if k = true then (b ρ).bind fun w => match w with
      | .nx ρ' => bA t b ρ'
      | .ct ρ' => bA t b ρ'
      | .bk ρ' => .ok (.nx ρ')
      | .rt a => .ok (.rt a)
    else .ok (.nx ρ) := by
  have key : ∀ n, (∀ k, t ρ = .ok k -> k = true -> ∀ w, b ρ = .ok w -> ∀ ρ', (w = .nx ρ' \/ w = .ct ρ') -> bA t b ρ' = b8 t b n ρ') -> b8 t b (n + 1) ρ = (t ρ).bind fun k => if k = true then (b ρ).bind fun w => match w with
      | .nx ρ' => bA t b ρ'
      | .ct ρ' => bA t b ρ'
      | .bk ρ' => .ok (.nx ρ')
      | .rt a => .ok (.rt a)
    else .ok (.nx ρ) := by
    intro n h
    unfold b8
    cases ht : t ρ with
    | bad => rfl
    | ex e => rfl
    | ok k =>
      cases k with
      | false => rfl
      | true =>
        show ((b ρ).bind _) = ((b ρ).bind _)
        cases hb : b ρ with
        | bad => rfl
        | ex e => rfl
        | ok w =>
          cases w with
          | nx ρ' => exact (h true ht rfl _ hb ρ' (.inl rfl)).symm
          | ct ρ' => exact (h true ht rfl _ hb ρ' (.inr rfl)).symm
          | bk ρ' => rfl
          | rt a => rfl
  by_cases hx : ∃ n, b8 t b n ρ ≠ .bad
  · obtain ⟨n, hn⟩ := hx
    cases n with
    | zero => exact absurd rfl hn
    | succ n =>
      rw [nG hn]
      refine key n fun k ht hk w hb ρ' hw => ?_
      subst hk
      refine nG fun z => hn ?_
      unfold b8
      rw [ht]
      show ((b ρ).bind _) = _
      rw [hb]
      rcases hw with rfl | rfl
      · exact z
      · exact z
  · have h0 : bA t b ρ = .bad := by unfold bA; rw [dif_neg hx]
    rw [h0]
    have hall : ∀ n, b8 t b n ρ = .bad := fun n => Classical.byContradiction fun z => hx ⟨n, z⟩
    cases ht : t ρ with
    | bad => rfl
    | ex e => have := hall 1; unfold b8 at this; rw [ht] at this; cases this
    | ok k =>
      cases k with
      | false => have := hall 1; unfold b8 at this; rw [ht] at this; cases this
      | true =>
        show R.bad = ((b ρ).bind _)
        cases hb : b ρ with
        | bad => rfl
        | ex e => have := hall 1; unfold b8 at this; rw [ht] at this; change ((b ρ).bind _) = _ at this; rw [hb] at this; cases this
        | ok w =>
          have nxt : ∀ ρ', (w = .nx ρ' \/ w = .ct ρ') -> bA t b ρ' = .bad := fun ρ' hw => by
            unfold bA
            rw [dif_neg]
            rintro ⟨n, hn⟩
            refine hn ?_
            have := hall (n + 1)
            unfold b8 at this
            rw [ht] at this
            change ((b ρ).bind _) = _ at this
            rw [hb] at this
            rcases hw with rfl | rfl <;> exact this
          cases w with
          | nx ρ' => exact (nxt ρ' (.inl rfl)).symm
          | ct ρ' => exact (nxt ρ' (.inr rfl)).symm
          | bk ρ' => have := hall 1; unfold b8 at this; rw [ht] at this; change ((b ρ).bind _) = _ at this; rw [hb] at this; cases this
          | rt a => have := hall 1; unfold b8 at this; rw [ht] at this; change ((b ρ).bind _) = _ at this; rw [hb] at this; cases this
section
variable{X:Cx}{c:Ct}{E:XK}{st:Stmt}
theorem eB{t:Sg->R Bool}{fb:Sg->R Fw}(h:PS X st (zA (tTf c E t) (tSf c E fb))):PSf X c E st (bA t fb):=PS.imp h fun D σ H zz0=>by
 obtain ⟨ρ,F,ab,k⟩:=zz0
 have hx:∃ n,b8 t fb n ρ≠.bad:=Classical.byContradiction fun z=>by
  have:bA t fb ρ=.bad:=by unfold bA;rw[dif_neg z]
  rw[this] at k
  exact k
 obtain ⟨n,hn⟩:=hx
 rw[nG hn] at k
 refine ⟨fun m σ H=>∃ ρ' F',aG F F'/\Ab c ρ' σ F' H/\Rk c E F' H (b8 t fb m ρ') (fV c F D),⟨n,ρ,F,bK F,ab,k⟩,?_⟩
 rintro m σ1 H1 ⟨ρ1,F1,s1,ab1,k1⟩
 cases m with
 | zero=>exact k1.elim
 | succ m=>
  unfold b8 at k1
  refine ⟨ρ1,F1,ab1,(Rk.bind k1).imp fun b _ q F2 H2 e2=>?_⟩
  have ab2:=ab1.ext e2
  cases b with
  | false=>exact xH (Rk.ok q σ1 F2 H2 (fun a o z=>e2.ff a o (s1 a o z)) ab2)
  | true=>
   refine xI ⟨fun σ' H'=>∃ ρ' F',aG F F'/\Ab c ρ' σ' F' H'/\Rk c E F' H' (b8 t fb m ρ') (fV c F D),fun σ' H' w=>⟨m,by omega,w⟩,ρ1,F2,ab2,?_⟩
   have q':Rk c E F1 H1 (fb ρ1) _:=Rk.bind (r:=fb ρ1) q
   cases h2:fb ρ1 with
   | bad=>rw[h2] at q';exact q'.elim
   | ex e=>rw[h2] at q';exact q'
   | ok w=>
    rw[h2] at q'
    have k4:=Rk.ok q'
    have sF:aG F F2:=fun a o z=>e2.ff a o (s1 a o z)
    cases w with
    | nx ρ4=>exact fun σ' F' H' s' ab'=>⟨ρ4,F',fun a o z=>s' a o (sF a o z),ab',k4⟩
    | ct ρ4=>exact fun σ' F' H' s' ab'=>⟨ρ4,F',fun a o z=>s' a o (sF a o z),ab',k4⟩
    | bk ρ4=>exact fun σ' F' H' s' ab'=>Rk.ok k4 σ' F' H' (fun a o z=>s' a o (sF a o z)) ab'
    | rt a=>exact fun v F' H' z r=>Rk.ok k4 v F' H' z r
end
end Fl
namespace Fl
open PySem L2 PyProof.Rows
def spG(K:Frag)(mg:Str->Option Value)(T F1:Hp)(n:Nat)(G:List PyData->R PyData):Sp:=fun vs H Q E=>∃ F ds,aG F1 F/\aG T F/\aG F H/\DatVs K F vs ds/\ds.length=n/\match G ds with
 | .bad=>False
 | .ok d=>∀ v F' H',Ext F H F' H'->DatV K F' v d->Q v H'
 | .ex e=>∀ a C F' H',Ext F H F' H'->i8 K mg F' e a C->E (.ref C) (some a) H'
def Beh(P:Program)(w:World)(K:Frag)(mg:Str->Option Value)(base:Heap)(T:Hp)(f:Addr)(F1:Hp)(k n:Nat)(G:List PyData->R PyData):Prop:=
 ∃ fd ps,ps.length=n/\gJ K fd ps []/\FnOk P w K mg base (CXe P w) k f fd ps (spG K mg T F1 n G)/\(PySem.W.keepIn K (.ref f)=true\/∃ oc od fd' sl,F1 f=some (FnO f ⟨oc,od,.func fd',sl⟩))
def gOf(P:Program)(w:World)(K:Frag)(mg:Str->Option Value)(base:Heap)(T:Hp):Gb:=⟨Beh P w K mg base T,T,w⟩
def spF(g:Gb)(K:Frag)(mg:Str->Option Value)(n:Nat)(G:List A->R A):Sp:=fun vs H Q E=>∃ F as,aG g.T F/\aG F H/\AFs g K mg F as vs/\as.length=n/\match G as with
 | .bad=>False
 | .ok a=>∀ v F' H',Ext F H F' H'->AF g K mg F' a v->Q v H'
 | .ex e=>∀ a C F' H',Ext F H F' H'->i8 K mg F' e a C->E (.ref C) (some a) H'
def bB(P:Program)(w:World)(K:Frag)(mg:Str->Option Value)(base:Heap)(T:Hp)(k:Nat)(x:Str)(ps:List Str)(G:List A->R A):Prop:=Calls P w K mg base (CXe P w) k x ps (spF (gOf P w K mg base T) K mg ps.length G)
def bC(n:Nat)(G:List A->R A)(f:Sg->R (List A)):Sg->R A:=fun ρ=>(f ρ).bind fun as=>if as.length=n then G as else .bad
theorem dH{X:Cx}{c:Ct}{E:XK}{e:Expr}{n:Nat}{G:List A->R A}{g:Gb}{K:Frag}{mg:Str->Option Value}{f:Sg->R (List A)}(hG:g=c.g)(hK:K=c.K)(hM:mg=c.mg)(h:PE X e (xF (spF g K mg n G) [] E (tAv c E f))):PV X c E e (bC n G f):=PE.imp h fun σ H Q zz0=>by
 obtain ⟨ρ,F,ab,k⟩:=zz0
 subst hG hK hM
 refine ⟨ρ,F,ab,(Rk.bind k).imp fun as _ q vs F1 H1 s1 r1=>?_⟩
 by_cases hn:as.length=n
 ·rw[if_pos hn] at q
  refine ⟨F1,as,fun a o z=>s1.ff a o (ab.f0 a o (ab.t0 a o z)),s1.fh,by rw[List.append_nil];exact r1,hn,?_⟩
  cases hg:G as with
  | bad=>rw[hg] at q;exact q
  | ok a=>rw[hg] at q;exact fun v F' H' s r=>Rk.ok q v F' H' (s1.trans s) r
  | ex e=>rw[hg] at q;exact fun a C F' H' s r=>q a C F' H' ((ab.all.trans s1).trans s) r
 ·rw[if_neg hn] at q;exact q.elim
def fnF(n:Nat)(fb:Sg->R Fw):List A->R A:=fun as=>(fb (as.map some++List.replicate (n - as.length) none)).bind fun w=>match w with
 | .rt (.l _)=>.bad
 | .rt a=>.ok a
 | .nx _=>.ok (.d .none)
 | _=>.bad
theorem AFs.get{g:Gb}{K:Frag}{mg:Str->Option Value}{F:Hp}:∀ {as:List A} {vs:List V} {i:Nat} {a:A},AFs g K mg F as vs->as[i]? = some a->∃ v,vs[i]? = some v/\AF g K mg F a v
 | [],[],_,_,_,h=>by simp at h
 | a::as,v::vs,0,_,h,e=>by simp at e;subst e;exact ⟨v,rfl,h.1⟩
 | a::as,v::vs,i+1,_,h,e=>by
  obtain ⟨w,h1,h2⟩:=AFs.get (i:=i) h.2 (by simpa using e)
  exact ⟨w,by simpa using h1,h2⟩
theorem nH{α:Type}{as:List α}{n i:Nat}{a:α}(h:(as.map some++List.replicate n none)[i]? = some (some a)):as[i]? = some a:=by
 by_cases hi:i < as.length
 ·rw[List.getElem?_append_left (by rw[List.length_map];exact hi),List.getElem?_map] at h
  cases e:as[i]? with
  | none=>rw[e] at h;cases h
  | some b=>rw[e] at h;cases h;rfl
 ·rw[List.getElem?_append_right (by rw[List.length_map];omega),List.getElem?_replicate] at h
  split at h
  · cases h
  · cases h
theorem aCD{g:Gb}{cells:List (Str×Addr)}{cls:Str->Option ClSt}{K:Frag}{mg:Str->Option Value}{w:World}{F H:Hp}{as:List A}{vs:List V}{n:Nat}(s0:aG g.T F)(s:aG F H)(h:AFs g K mg F as vs):Ab ⟨K,mg,w,F,H,g,cells,cls⟩ (as.map some++List.replicate (n - as.length) none) (vs.map some++List.replicate (n - vs.length) none) F H where
 len:=by rw[List.length_append,List.length_append,List.length_map,List.length_map,List.length_replicate,List.length_replicate,h.len]
 fh:=s
 slot:=fun i a e=>by
  obtain ⟨v,h1,h2⟩:=h.get (nH e)
  refine ⟨v,?_,AO.of h2⟩
  have hi:i < vs.length:=(List.getElem?_eq_some_iff.mp h1).1
  rw[List.getElem?_append_left (by rw[List.length_map];exact hi),List.getElem?_map,h1];rfl
 apart:=fun i j a b _ e1 _ o _=>by
  obtain ⟨v,h1,h2⟩:=h.get (nH e1)
  rw[AF.notOwn h2] at o
  cases o
 f0:=bK F
 h0:=bK H
 n0:=fun a e n=>absurd e n
 t0:=s0
theorem nV{g:Gb}{cells:List (Str×Addr)}{cls:Str->Option ClSt}{K:Frag}{mg:Str->Option Value}{w:World}{n:Nat}{fb:Sg->R Fw}{vs:List V}{as:List A}{F H:Hp}{Q:VK}{E:XK}(h0:aG g.T F)(h1:aG F H)(h2:AFs g K mg F as vs)(h4:match fnF n fb as with
 | .bad=>False
 | .ok a=>∀ v F' H',Ext F H F' H'->AF g K mg F' a v->Q v H'
 | .ex e=>∀ a C F' H',Ext F H F' H'->i8 K mg F' e a C->E (.ref C) (some a) H'):tSf ⟨K,mg,w,F,H,g,cells,cls⟩ E fb {nx:=fun _ H'=>Q .non H',rt:=Q} (vs.map some++List.replicate (n - vs.length) none) H:=by
 refine ⟨_,F,aCD h0 h1 h2,?_⟩
 unfold fnF at h4
 cases e:fb (as.map some++List.replicate (n - as.length) none) with
 | bad=>rw[e] at h4;exact h4
 | ex x=>rw[e] at h4;exact h4
 | ok w=>
  rw[e] at h4
  cases w with
  | nx ρ'=>exact fun σ' F' H' s ab=>h4 .non F' H' ab.all .non
  | rt a=>
   cases a with
   | l xs=>exact h4.elim
   | _=>exact h4
  | bk ρ'=>exact h4.elim
  | ct ρ'=>exact h4.elim
section
variable{P:Program}{w:World}{K:Frag}{mg:Str->Option Value}{base:Heap}{T:Hp}{x:Str}{st:Stmt}{N ps:List Str}{k:Nat}
theorem eJ{fb:Sg->R Fw}(D:DefAt K mg x st ps)(S:FnScope N ps (aM st))
  (hbody:∀ (f:Addr) (cdv:Value) (A:Around) (outer:List Env) (s:Shared) (H F:Hp) (E:XK),Room k (A.deeper (envOfC x (aM st) s.heap.objs.size f cdv))->
   k7 ((gL (CXe P w) P w K mg base N x (aM st) f cdv A outer s H E).fly E) ⟨K,mg,w,F,H,gOf P w K mg base T,(envOfC x (aM st) s.heap.objs.size f cdv).cells,fun _=>none⟩ E (cO st) fb):bB P w K mg base T (k+1) x ps (fnF N.length fb):=by
 refine D.okX S (fun vs H Q E h=>?_) (fun f cdv A outer s H vs Q E hr h=>?_)
 ·obtain ⟨F,as,_,_,h2,h3,_⟩:=h
  rw[h2.len,h3]
 ·obtain ⟨F,as,h0,h1,h2,h3,h4⟩:=h
  exact ⟨_,hbody f cdv A outer s H F E hr,nV h0 h1 h2 h4⟩
theorem bB.imp{G G':List A->R A}(C:bB P w K mg base T k x ps G)(h:∀ as,G' as≠.bad->G as=G' as):bB P w K mg base T k x ps G':=Calls.imp C fun vs H Q E=>by
 rintro ⟨F,as,h0,h1,h2,h3,h4⟩
 refine ⟨F,as,h0,h1,h2,h3,?_⟩
 cases e:G' as with
 | bad=>rw[e] at h4;exact h4.elim
 | ok a=>rw[h as (by rw[e];exact fun z=>nomatch z),e];rw[e] at h4;exact h4
 | ex x=>rw[h as (by rw[e];exact fun z=>nomatch z),e];rw[e] at h4;exact h4
end
def aHZ(cn:Str)(fs:List Str)(f:Sg->R (List PyData)):Sg->R Fw:=fun ρ=>(f ρ).bind fun xs=>if xs.length=fs.length then .ex ⟨cn,fs.zip xs⟩ else .bad
end Fl
namespace Fl
open PySem L2 PyProof.Rows
noncomputable def oNo:Sg->R (Option Int):=fun _=>.ok none
def oSo(f:Sg->R PyData):Sg->R (Option Int):=fun ρ=>(f ρ).bind fun x=>match x with
 | .int i=>.ok (some i)
 | _=>.bad
def eSl{α:Type}(g:PyData->Option Int->Option Int->R α)(f:Sg->R PyData)(lo hi:Sg->R (Option Int)):Sg->R α:=fun ρ=>(f ρ).bind fun x=>(lo ρ).bind fun l=>(hi ρ).bind fun h=>g x l h
theorem PO.imp{X:Cx}{e:Option Expr}{t t':TO}(h:PO X e t)(i:∀ σ H Q,t' σ H Q->t σ H Q):PO X e t':=fun pins s σ H Q I q=>h pins s σ H Q I (i σ H Q q)
section
variable{X:Cx}{c:Ct}{E:XK}{e a b:Expr}{pos p2:Pos}{lo hi:Option Expr}
noncomputable def tyN:PyData->String
 | .none=>"NoneType"
 | .bool _=>"bool"
 | .int _=>"int"
 | .str _=>"str"
 | .list _=>"list"
 | .tuple _=>"tuple"
 | .dict _=>"dict"
noncomputable def gP(t T:String):Bool:=t == T || (T == "int" && t == "bool")
noncomputable def eF(T:String)(x:PyData):R PyData:=match x with
 | .dict _=>.bad
 | x=>.ok (.bool (gP (tyN x) T))
structure Kit(K:Frag)(T:String):Prop where
 non:PySem.W.kitOne K (.type "NoneType") (.type T)=some (gP "NoneType" T)
 bl:PySem.W.kitOne K (.type "bool") (.type T)=some (gP "bool" T)
 int:PySem.W.kitOne K (.type "int") (.type T)=some (gP "int" T)
 str:PySem.W.kitOne K (.type "str") (.type T)=some (gP "str" T)
 lst:PySem.W.kitOne K (.type "list") (.type T)=some (gP "list" T)
 tup:PySem.W.kitOne K (.type "tuple") (.type T)=some (gP "tuple" T)
theorem aE8(K:Frag):Kit K "int":=⟨rfl,rfl,rfl,rfl,rfl,rfl⟩
theorem aCE(K:Frag):Kit K "bool":=⟨rfl,rfl,rfl,rfl,rfl,rfl⟩
theorem kM(K:Frag):Kit K "tuple":=⟨rfl,rfl,rfl,rfl,rfl,rfl⟩
theorem aCF{X:Cx}:fK X (.builtin "isinstance") (fun xs H Q=>∃ a ys c cv b,xs=[.ref a,c]/\SqL X.K H a ys/\xO c=some cv/\PySem.W.kitOne X.K (.type "list") cv=some b/\Q (.bl b) H):=by
 intro pins s σ H xs us Q I r h
 obtain ⟨a,ys,c,cv,b,rfl,ha,hc,e,q⟩:=h
 obtain ⟨u,v,rfl,ru,rv⟩:=o8 r
 obtain rfl:=p6 hc rv
 cases (show u=Value.ref a from ru)
 obtain ⟨its,_,pl,_⟩:=I.list ha
 obtain ⟨o,h1,h2,_⟩:=pl.isList
 exact PySem.W.kia_one PySem.W.kitx_list I.kIn ⟨o,h1,h2⟩ e (fun z=>nomatch z) fun tk=>⟨.bl b,H,I.tok _,rfl,q⟩
def aCG(c:Ct)(T:String):List V->Hp->VK->Prop:=fun xs H Q=>∃ F x v d,xs=[v,.ty T]/\aG F H/\aS c.K F H v x/\eF T x=.ok d/\∀ w F' H',Ext F H F' H'->DatV c.K F' w d->Q w H'
theorem iJ(hK:X.K=c.K){T:String}(k:Kit X.K T):fK X (.builtin "isinstance") (aCG c T):=by
 intro pins s σ H xs us Q I r h
 obtain ⟨F,x,v,d,rfl,sf,ra,eg,q⟩:=h
 cases x with
 | dict _=>cases eg
 | none=>
  cases eg
  obtain rfl:=aS.non_of ra
  exact iO pins s σ H _ us Q I r ⟨_,_,_,_,_,rfl,.pl .non,rfl,k.non,q _ F H (Ext.refl sf) (.bl _)⟩
 | bool b=>
  cases eg
  obtain rfl:=aS.bl_of ra
  exact iO pins s σ H _ us Q I r ⟨_,_,_,_,_,rfl,.pl (.bl b),rfl,k.bl,q _ F H (Ext.refl sf) (.bl _)⟩
 | int b=>
  cases eg
  obtain rfl:=aS.int_of ra
  exact iO pins s σ H _ us Q I r ⟨_,_,_,_,_,rfl,.pl (.int b),rfl,k.int,q _ F H (Ext.refl sf) (.bl _)⟩
 | str b=>
  cases eg
  obtain rfl:=aS.str_of ra
  exact iO pins s σ H _ us Q I r ⟨_,_,_,_,_,rfl,.pl (.str b),rfl,k.str,q _ F H (Ext.refl sf) (.bl _)⟩
 | tuple xs=>
  cases eg
  obtain ⟨p,vs,rfl,_,h1,h2⟩:=aS.tup_of sf ra
  rw[<-hK] at h1
  exact sS pins s σ H _ us Q I r ⟨p,vs,_,_,_,rfl,h1,rfl,k.tup,q _ F H (Ext.refl sf) (.bl _)⟩
 | list xs=>
  cases eg
  obtain ⟨p,vs,rfl,h1,h2⟩:=aS.lst_of sf ra
  rw[<-hK] at h1
  exact aCF pins s σ H _ us Q I r ⟨p,vs,_,_,_,rfl,h1,rfl,k.lst,q _ F H (Ext.refl sf) (.bl _)⟩
theorem lF{T:String}{f:Sg->R PyData}(h:PE X e (tCB (aCG c T) (dF (tV (bJ c) c E f) (dF (tC (.ty T)) fS)))):PD X c E e (e1 (eF T) f):=PE.imp h fun σ H Q zz0=>by
 obtain ⟨ρ,F,ab,k⟩:=zz0
 refine ⟨ρ,F,ab,(Rk.bind k).imp fun x _ q v F1 H1 s1 r1=>?_⟩
 show aCG c T [v,.ty T] H1 Q
 cases x with
 | dict _=>exact q.elim
 | none=>exact ⟨F1,_,v,_,rfl,s1.fh,r1,rfl,fun w F' H' s r=>Rk.ok q w F' H' (s1.trans s) r⟩
 | bool _=>exact ⟨F1,_,v,_,rfl,s1.fh,r1,rfl,fun w F' H' s r=>Rk.ok q w F' H' (s1.trans s) r⟩
 | int _=>exact ⟨F1,_,v,_,rfl,s1.fh,r1,rfl,fun w F' H' s r=>Rk.ok q w F' H' (s1.trans s) r⟩
 | str _=>exact ⟨F1,_,v,_,rfl,s1.fh,r1,rfl,fun w F' H' s r=>Rk.ok q w F' H' (s1.trans s) r⟩
 | list _=>exact ⟨F1,_,v,_,rfl,s1.fh,r1,rfl,fun w F' H' s r=>Rk.ok q w F' H' (s1.trans s) r⟩
 | tuple _=>exact ⟨F1,_,v,_,rfl,s1.fh,r1,rfl,fun w F' H' s r=>Rk.ok q w F' H' (s1.trans s) r⟩
end
end Fl
namespace Fl
open PySem L2 PyProof.Rows
noncomputable def bY(kvs:List (PyData×PyData))(k:PyData):Option PyData:=(kvs.find? fun p=>decide (p.1=k)).map (·.2)
noncomputable def bW(kvs:List (PyData×PyData))(k:PyData):Bool:=(bY kvs k).isSome
noncomputable def putM(kvs:List (PyData×PyData))(k v:PyData):List (PyData×PyData):=if bW kvs k=true then kvs.map (fun p=>if p.1=k then (p.1,v) else p) else kvs++[(k,v)]
theorem nW{K:Frag}{F:Hp}{k:PyData}:∀ {es:List Ent} {kvs:List (PyData×PyData)},es.map (·.1)=kvs.map (·.1)->DatVs K F (es.map (·.2.2)) (kvs.map (·.2))->
  (atE es k=none/\bY kvs k=none)\/∃ v d,atE es k=some v/\bY kvs k=some d/\DatV K F v d
 | [],[],_,_=>.inl ⟨rfl,rfl⟩
 | [],_::_,h,_=>by cases h
 | _::_,[],h,_=>by cases h
 | e::es,p::kvs,h,r=>by
  rw[List.map_cons,List.map_cons] at h r
  injection h with h1 h2
  obtain ⟨v,t,e1,r1,r2⟩:=r.cons_of
  rw[List.cons.injEq] at e1
  obtain ⟨rfl,rfl⟩:=e1
  have ih:=nW (k:=k) h2 r2
  unfold atE bY at ih ⊢
  rw[List.find?_cons,List.find?_cons,h1]
  by_cases q:p.1=k
  · rw [decide_eq_true q]; exact .inr ⟨_, _, rfl, rfl, r1⟩
  · rw [decide_eq_false q]; exact ih
theorem MapRel.get{K:Frag}{F:Hp}{es:List Ent}{kvs:List (PyData×PyData)}(m:MapRel K F es kvs)(k:PyData):(atE es k=none/\bY kvs k=none)\/∃ v d,atE es k=some v/\bY kvs k=some d/\DatV K F v d:=nW m.k1 m.vs
theorem MapRel.has{K:Frag}{F:Hp}{es:List Ent}{kvs:List (PyData×PyData)}(m:MapRel K F es kvs)(k:PyData):(atE es k).isSome=bW kvs k:=by
 unfold bW
 rcases m.get k with ⟨a,b⟩|⟨v,d,a,b,_⟩<;>rw[a,b]<;>rfl
theorem oG{kvs:List (PyData×PyData)}{k:PyData}:bW kvs k=true↔k∈kvs.map (·.1):=by
 unfold bW bY
 rw[Option.isSome_map]
 induction kvs with
 | nil=>simp
 | cons p t ih=>
  rw[List.find?_cons]
  by_cases q:p.1=k
  ·rw[decide_eq_true q];simp[q]
  ·rw[decide_eq_false q,ih,List.map_cons]
   exact ⟨fun z=>List.mem_cons_of_mem _ z,fun z=>(List.mem_cons.mp z).resolve_left (fun w=>q w.symm)⟩
theorem aAG{kvs:List (PyData×PyData)}{k v:PyData}:(putM kvs k v).map (·.1)=if bW kvs k=true then kvs.map (·.1) else kvs.map (·.1)++[k]:=by
 unfold putM
 cases h:bW kvs k with
 | true=>
  rw[if_pos rfl,if_pos rfl,List.map_map]
  refine List.map_congr_left fun p _=>?_
  show (if p.1=k then (p.1,v) else p).1=p.1
  split<;>rfl
 | false=>rw[if_neg (by decide),if_neg (by decide),List.map_append];rfl
theorem vR{K:Frag}{F:Hp}{k d:PyData}{v:V}(r:DatV K F v d):∀ {es:List Ent} {kvs:List (PyData×PyData)},es.map (·.1)=kvs.map (·.1)->DatVs K F (es.map (·.2.1)) (kvs.map (·.1))->DatVs K F (es.map (·.2.2)) (kvs.map (·.2))->
  (es.map fun e=>if e.1=k then (e.1,e.2.1,v) else e).map (·.1)=(kvs.map fun p=>if p.1=k then (p.1,d) else p).map (·.1) /\
  DatVs K F ((es.map fun e=>if e.1=k then (e.1,e.2.1,v) else e).map (·.2.1)) ((kvs.map fun p=>if p.1=k then (p.1,d) else p).map (·.1)) /\
  DatVs K F ((es.map fun e=>if e.1=k then (e.1,e.2.1,v) else e).map (·.2.2)) ((kvs.map fun p=>if p.1=k then (p.1,d) else p).map (·.2))
 | [],[],_,_,_=>⟨rfl,.nil,.nil⟩
 | [],_::_,h,_,_=>by cases h
 | _::_,[],h,_,_=>by cases h
 | e::es,p::kvs,h,rk,rv=>by
  rw[List.map_cons,List.map_cons] at h rk rv
  injection h with h1 h2
  obtain ⟨_,_,e1,r1,r2⟩:=rk.cons_of
  rw[List.cons.injEq] at e1
  obtain ⟨rfl,rfl⟩:=e1
  obtain ⟨_,_,e1,q1,q2⟩:=rv.cons_of
  rw[List.cons.injEq] at e1
  obtain ⟨rfl,rfl⟩:=e1
  obtain ⟨a1,a2,a3⟩:=vR r h2 r2 q2
  simp only[List.map_cons]
  rw[h1,a1]
  by_cases q:p.1=k
  · rw [if_pos q, if_pos q]; exact ⟨rfl, .cons r1 a2, .cons r a3⟩
  · rw [if_neg q, if_neg q]; exact ⟨by rw [h1], .cons r1 a2, .cons q1 a3⟩
theorem MapRel.put{K:Frag}{F:Hp}{es:List Ent}{kvs:List (PyData×PyData)}{k d:PyData}{kv v:V}(m:MapRel K F es kvs)(rk:DatV K F kv k)(r:DatV K F v d):MapRel K F (i7 es k kv v) (putM kvs k d):=by
 have hh:=m.has k
 have nd:((putM kvs k d).map (·.1)).Nodup:=by
  rw[aAG]
  cases h:bW kvs k with
  | true=>rw[if_pos rfl];exact m.nd
  | false=>
   rw[if_neg (by decide),List.nodup_append]
   refine ⟨m.nd,by simp,fun a ha b hb z=>?_⟩
   rw[List.mem_singleton] at hb
   subst hb z
   rw[oG.mpr ha] at h
   cases h
 unfold i7
 rw[hh]
 unfold putM at nd ⊢
 cases h:bW kvs k with
 | true=>
  rw[h,if_pos rfl] at nd
  rw[if_pos rfl,if_pos rfl]
  obtain ⟨a1,a2,a3⟩:=vR (k:=k) r m.k1 m.k2 m.vs
  exact ⟨a1,a2,a3,nd⟩
 | false=>
  rw[h,if_neg (by decide)] at nd
  rw[if_neg (by decide),if_neg (by decide)]
  refine ⟨by rw[List.map_append,List.map_append,m.k1];rfl,?_,?_,nd⟩
  ·rw[List.map_append,List.map_append];exact m.k2.append (.cons rk .nil)
  ·rw[List.map_append,List.map_append];exact m.vs.append (.cons r .nil)
theorem kN{K:Frag}{F:Hp}:∀ {es:List Ent} {kvs:List (PyData×PyData)},es.map (·.1)=kvs.map (·.1)->DatVs K F (es.map (·.2.1)) (kvs.map (·.1))->∀ e∈es,DatV K F e.2.1 e.1
 | [],_,_,_,e,he=>by cases he
 | _::_,[],h,_,_,_=>by cases h
 | e0::es,p::kvs,h,rk,e,he=>by
  rw[List.map_cons,List.map_cons] at h rk
  injection h with h1 h2
  obtain ⟨_,_,e1,r1,r2⟩:=rk.cons_of
  rw[List.cons.injEq] at e1
  obtain ⟨rfl,rfl⟩:=e1
  rcases List.mem_cons.mp he with z|z
  · subst z; rw [h1]; exact r1
  · exact kN h2 r2 e z
section
variable{X:Cx}{c:Ct}{E:XK}{e a b:Expr}{st:Stmt}{pos:Pos}
theorem pF{ρ:Sg}{σ:L2.St}{F H:Hp}{i:Nat}{kvs:List (PyData×PyData)}{k:PyData}{kv:V}(hK:X.K=c.K)(hW:X.w=c.w)(ab:Ab c ρ σ F H)(hi:ρ[i]? = some (some (.m kvs)))(hk:DatV c.K F kv k)(hs:bS k (kvs.map (·.1))=true) :
  ∃ p es,σ[i]? = some (some (.ref p))/\DicAt X H p es k kv/\MapRel c.K F es kvs:=by
 obtain ⟨v,hp,p,es,rfl,⟨ep,h2⟩,h3,h4,h5⟩:=ab.slot i _ hi
 refine ⟨p,es,hp,⟨⟨ep,by rw[hW];exact h2⟩,fun e he=>by rw[hK];exact (kN h5.k1 h5.k2 e he).same ab.fh,by rw[h5.k1];exact h5.nd,by rw[hK];exact hk.same ab.fh,by rw[h5.k1];exact hs⟩,h5⟩
theorem aAH{ρ:Sg}{σ:L2.St}{F H:Hp}{i:Nat}{kvs:List (PyData×PyData)}{k:PyData}{kv:V}(hK:X.K=c.K)(hW:X.w=c.g.w)(ab:Ab c ρ σ F H)(hi:ρ[i]? = some (some (.f kvs)))(hk:DatV c.K F kv k)(hs:bS k (kvs.map (·.1))=true) :
  ∃ p es,σ[i]? = some (some (.ref p))/\DicAt X H p es k kv/\MapRel c.K F es kvs:=by
 obtain ⟨v,hp,p,es,rfl,⟨ep,h2⟩,h5⟩:=ab.slot i _ hi
 refine ⟨p,es,hp,⟨⟨ep,by rw[hW];exact ab.fh _ _ h2⟩,fun e he=>by rw[hK];exact (kN h5.k1 h5.k2 e he).same ab.fh,by rw[h5.k1];exact h5.nd,by rw[hK];exact hk.same ab.fh,by rw[h5.k1];exact hs⟩,h5⟩
def aDZ(w:World):TE:=fun _ H Q=>∀ p,H p=none->Q (.ref p) (upd H p (cC w p [] 0))
theorem vS:PE X (.Dict [] [] pos) (aDZ X.w):=fun pins s σ H Q I h=>
 wpAny_Dict_empty ⟨.ref s.heap.objs.size,_,I.laid (a:=s.heap.objs.size) (o:=cC X.w s.heap.objs.size [] 0) (t':=s.toks) (fun _ _ q=>Heap.get?_push_of_some _ q) (Nat.le_refl _)
  (gW (beq_eq_false_iff_ne.mpr (Ne.symm (Nat.ne_of_lt I.big))) ⟨_,#[],Heap.get?_push_size _ rfl,⟨rfl,rfl,rfl⟩,rfl,.nil⟩),rfl,h _ (I.hok.fresh (Nat.le_refl _))⟩
noncomputable def mC(i:Nat):Sg->R Fw:=fun ρ=>.ok (.nx (ρ.set i (some (.m []))))
theorem vT{i:Nat}{w:World}(hW:w=c.w)(h:PS X st (kW (aDZ w) (jE i))):PSf X c E st (mC i):=PS.imp h fun D σ H ⟨ρ,F,ab,k⟩=>fun p hp=>by
 subst hW
 exact Rk.ok k _ F _ (bK F) (ab.setM (Ext.own ab.fh hp) hp aU (bG ab.fh hp) ⟨rfl,.nil,.nil,List.nodup_nil⟩)
noncomputable def mD(neg:Bool)(i:Nat)(f:Sg->R PyData):Sg->R PyData:=fun ρ=>(f ρ).bind fun k=>match ρ[i]? with
 | some (some (.m kvs))=>if bS k (kvs.map (·.1))=true then .ok (.bool (if neg=true then !bW kvs k else bW kvs k)) else .bad
 | some (some (.f kvs))=>if bS k (kvs.map (·.1))=true then .ok (.bool (if neg=true then !bW kvs k else bW kvs k)) else .bad
 | _=>.bad
def aCH(X:Cx)(neg:Bool):R2:=fun y x H Q=>∃ p es k,x=.ref p/\DicAt X H p es k y/\Q (.bl (if neg=true then !(atE es k).isSome else (atE es k).isSome)) H
theorem tP(hu:X.A.units+64 < cLine):OpR X (compareOp .NotIn) (aCH X true):=by
 intro pins s σ H y x v u Q I ry rx h
 obtain ⟨p,es,k,rfl,D,q⟩:=h
 cases (show u=Value.ref p from rx)
 exact aE1 hu D I ry fun s' I'=>⟨.bl _,H,I',rfl,q⟩
theorem aCI{i:Nat}{neg:Bool}{f:Sg->R PyData}(hK:X.K=c.K)(hW:X.w=c.w)(hg:c.w=c.g.w){σ:L2.St}{H:Hp}{Q:VK}(h:tV (cL c) c E (mD neg i f) σ H Q):tOp (aCH X neg) (tV (cL c) c E f) (fQ i) σ H Q:=by
 obtain ⟨ρ,F,ab,k⟩:=h
 refine ⟨ρ,F,ab,(Rk.bind k).imp fun d _ q v F1 H1 s1 r1=>?_⟩
 split at q
 ·rename_i kvs hi
  split at q
  ·rename_i hs
   obtain ⟨p,es,hp,D,m⟩:=pF hK hW (ab.ext s1) hi r1 hs
   refine ⟨_,hp,p,es,d,rfl,D,?_⟩
   rw[m.has]
   exact Rk.ok q _ F1 H1 s1 (.bl _)
  ·exact q.elim
 ·rename_i kvs hi
  split at q
  ·rename_i hs
   obtain ⟨p,es,hp,D,m⟩:=aAH hK (hW.trans hg) (ab.ext s1) hi r1 hs
   refine ⟨_,hp,p,es,d,rfl,D,?_⟩
   rw[m.has]
   exact Rk.ok q _ F1 H1 s1 (.bl _)
  ·exact q.elim
 ·exact q.elim
theorem aAI{i:Nat}{neg:Bool}{f:Sg->R PyData}(hK:X.K=c.K)(hW:X.w=c.w)(h:PT X e (aDP (tOp (aCH X neg) (tV (cL c) c E f) (fQ i))))(hg:c.w=c.g.w:=by rfl):PTf X c E e (e1 asB (mD neg i f)):=PT.imp h fun σ H Q q=>aCI hK hW hg (qB q)
noncomputable def f9(i:Nat)(f:Sg->R PyData):Sg->R PyData:=fun ρ=>match ρ[i]? with
 | some (some (.m kvs))=>(f ρ).bind fun k=>if bS k (kvs.map (·.1))=true then match bY kvs k with
  | some v=>.ok v
  | none=>.bad else .bad
 | some (some (.f kvs))=>(f ρ).bind fun k=>if bS k (kvs.map (·.1))=true then match bY kvs k with
  | some v=>.ok v
  | none=>.bad else .bad
 | _=>.bad
def aD0(X:Cx)(td ty:TE):TE:=fun σ H Q=>td σ H fun x H1=>ty σ H1 fun y H2=>∃ p es k v,x=.ref p/\DicAt X H2 p es k y/\atE es k=some v/\Q v H2
theorem nX{o i:Expr}{td ty:TE}(hu:X.A.units+64 < cLine)(ho:PE X o td)(hi:PE X i ty)(hs:aHQ i):PE X (.Subscript o i pos) (aD0 X td ty):=by
 intro pins s σ H Q I h
 refine aER PySem.F.slot_dict_getitem.lookup hs (thn (ho pins s σ H _ I h) fun u s1 ⟨x,H1,I1,rx,q1⟩=>thn (hi pins s1 σ H1 _ I1 q1) fun iv s2 zz0=>?_)
 obtain ⟨y,H2,I2,ry,p,es,k,v,ex,D,hv,q2⟩:=zz0
 subst ex
 obtain rfl:u=Value.ref p:=rx
 obtain ⟨ep,hO⟩:=D.o
 obtain ⟨⟨_,o',ar,h1,h2,_⟩,_,_⟩:=(show bN X.prog X.w H2 s2.heap p (cC X.w p es ep) from I2.hok p _ hO)
 exact ⟨⟨o',h1,h2.1⟩,aE2 hu D I2 ry hv fun w' s3 I3 rw'=>⟨v,H2,I3,rw',q2⟩⟩
theorem nY{i:Nat}{f:Sg->R PyData}(hK:X.K=c.K)(hW:X.w=c.w)(h:PE X e (aD0 X (fQ i) (tV (cL c) c E f)))(hg:c.w=c.g.w:=by rfl):PD X c E e (f9 i f):=PE.imp h fun σ H Q ⟨ρ,F,ab,k⟩=>by
 unfold f9 at k
 split at k
 ·rename_i kvs hi
  obtain ⟨_,hp,p,es,rfl,_⟩:=ab.slot i _ hi
  refine ⟨_,hp,ρ,F,ab,(Rk.bind k).imp fun d _ q v F1 H1 s1 r1=>?_⟩
  split at q
  ·rename_i hs
   obtain ⟨p',es',hp',D,m⟩:=pF hK hW (ab.ext s1) hi r1 hs
   rw[hp] at hp'
   cases hp'
   split at q
   ·rename_i w hw
    rcases m.get d with ⟨_,z⟩|⟨v',d',h1,h2,h3⟩
    ·rw[hw] at z;cases z
    ·rw[hw] at h2
     cases h2
     exact ⟨p,es',d,v',rfl,D,h1,Rk.ok q v' F1 H1 s1 h3⟩
   ·exact q.elim
  ·exact q.elim
 ·rename_i kvs hi
  obtain ⟨_,hp,p,es,rfl,_⟩:=ab.slot i _ hi
  refine ⟨_,hp,ρ,F,ab,(Rk.bind k).imp fun d _ q v F1 H1 s1 r1=>?_⟩
  split at q
  ·rename_i hs
   obtain ⟨p',es',hp',D,m⟩:=aAH hK (hW.trans hg) (ab.ext s1) hi r1 hs
   rw[hp] at hp'
   cases hp'
   split at q
   ·rename_i w hw
    rcases m.get d with ⟨_,z⟩|⟨v',d',h1,h2,h3⟩
    ·rw[hw] at z;cases z
    ·rw[hw] at h2
     cases h2
     exact ⟨p,es',d,v',rfl,D,h1,Rk.ok q v' F1 H1 s1 h3⟩
   ·exact q.elim
  ·exact q.elim
 ·exact k.elim
noncomputable def kO(i:Nat)(f g:Sg->R PyData):Sg->R Fw:=fun ρ=>(g ρ).bind fun v=>match ρ[i]? with
 | some (some (.m kvs))=>(f ρ).bind fun k=>if bS k (kvs.map (·.1))=true/\kvs.length<=16777216 then .ok (.nx (ρ.set i (some (.m (putM kvs k v))))) else .bad
 | _=>.bad
def aD1(X:Cx):xB:=fun o i v H Q=>∃ p es k,o=.ref p/\DicAt X H p es k i/\es.length<=sizeLine/\∀ ep,Q (upd H p (cC X.w p (i7 es k i v) ep))
theorem tQ(hu:X.A.units+64 < cLine):aG5 X (aD1 X):=by
 intro pins s σ H o i v ov iv u Q I ro ri rv h
 obtain ⟨p,es,k,rfl,D,hz,q⟩:=h
 cases (show ov=Value.ref p from ro)
 exact aE3 hu D I ri rv hz fun ep s' I'=>⟨_,I',q ep⟩
theorem vU{i:Nat}{f g:Sg->R PyData}(hK:X.K=c.K)(hW:X.w=c.w)(h:PS X st (kW (tV (cL c) c E g) (aG8 (fQ i) (tV (cL c) c E f) (aD1 X)))):PSf X c E st (kO i f g):=PS.imp h fun D σ H ⟨ρ,F,ab,k⟩=>by
 refine ⟨ρ,F,ab,(Rk.bind k).imp fun x _ q v F1 H1 s1 r1=>?_⟩
 split at q
 ·rename_i kvs hi
  have ab1:=ab.ext s1
  obtain ⟨_,hp,p,es,rfl,_⟩:=ab1.slot i _ hi
  refine ⟨_,hp,ρ,F1,ab1,((Rk.bind q).ext s1).imp fun d _ q u F2 H2 s2 r2=>?_⟩
  have ab2:=ab1.ext s2
  split at q
  ·rename_i hs
   obtain ⟨p',es',hp',D',m⟩:=pF hK hW ab2 hi r2 hs.1
   rw[hp] at hp'
   cases hp'
   refine ⟨p,es',d,rfl,D',?_,?_⟩
   ·have:es'.length=kvs.length:=by have:=congrArg List.length m.k1;simpa using this
    rw[this,cQ];exact hs.2
   ·intro ep
    rw[hW]
    exact Rk.ok q σ F2 _ (s1.trans s2).ff (ab2.putM hi hp (m.put r2 (DatV.same s2.ff r1)))
  ·exact q.elim
 ·exact q.elim
end
end Fl
namespace Fl
open PySem L2 PyProof.Rows
section
variable{X:Cx}{c:Ct}{E:XK}{e a b:Expr}{st:Stmt}{pos p2:Pos}
def mE(fs:PyData->Sg->Option Sg)(f:Sg->R PyData):Sg->R Fw:=fun ρ=>(f ρ).bind fun x=>(tO (fs x ρ)).bind fun ρ'=>.ok (.nx ρ')
theorem tR{g:TG}{fs:PyData->Sg->Option Sg}{is:List Nat}{f:Sg->R PyData}(hg:Tg c g fs is)(h:PS X st (kW (tV (cL c) c E f) g)):PSf X c E st (mE fs f):=PS.imp h fun D σ H zz0=>by
 obtain ⟨ρ,F,ab,k⟩:=zz0
 refine ⟨ρ,F,ab,(Rk.bind k).imp fun x _ q v F1 H1 s1 r1=>?_⟩
 cases h1:fs x ρ with
 | none=>rw[h1] at q;exact q.elim
 | some ρ'=>
  rw[h1] at q
  exact hg v x ρ ρ' σ F1 H1 _ (ab.ext s1) r1 h1 fun σ' _ _ ab'=>Rk.ok q σ' F1 H1 s1.ff ab'
noncomputable def aH0:PyData->R PyData
 | .str z=>if z.length<=16777216 then .ok (.str ⟨z.cps.toList.reverse.toArray⟩) else .bad
 | _=>.bad
def aLB(f:Sg->R PyData)(g:Sg->R (Option Int)):Sg->R PyData:=fun ρ=>(f ρ).bind fun x=>(g ρ).bind fun o=>if o=some (-1) then aH0 x else .bad
end
end Fl
namespace Fl
open PySem L2 PyProof.Rows
theorem aH1{P:Program}{w:World}{K:Frag}{mg:Str->Option Value}{base:Heap}{T:Hp}{x:Str}{st:Stmt}{N ps:List Str}{k:Nat}{f:Addr}{fd:FuncData}{fb:Sg->R Fw}(FL:Fun K x x st f fd)(S:FnScope N ps (aM st))
  (hbody:∀ (cdv:Value) (A:Around) (outer:List Env) (s:Shared) (H F:Hp) (E:XK),Room k (A.deeper (envOfC x (aM st) s.heap.objs.size f cdv))->
   k7 ((gL (CXe P w) P w K mg base N x (aM st) f cdv A outer s H E).fly E) ⟨K,mg,w,F,H,gOf P w K mg base T,(envOfC x (aM st) s.heap.objs.size f cdv).cells,fun _=>none⟩ E (cO st) fb):FnOk P w K mg base (CXe P w) (k+1) f fd ps (spF (gOf P w K mg base T) K mg ps.length (fnF N.length fb)):=by
 refine FL.okX S (fun vs H Q E h=>?_) (fun cdv A outer s H vs Q E hr h=>?_)
 ·obtain ⟨F,as,_,_,h2,h3,_⟩:=h
  rw[h2.len,h3]
 ·obtain ⟨F,as,h0,h1,h2,h3,h4⟩:=h
  exact ⟨_,hbody cdv A outer s H F E hr,nV h0 h1 h2 h4⟩
def yF(K:Frag)(T:Hp):Sp:=fun vs H Q _=>∃ (a:Addr) (ns:List Int),vs=[.ref a]/\ns.length<=63/\aG T H/\SqL K H a (ns.map V.int)/\∀ H',Q (.bl true) H'
theorem tS{K:Frag}{H:Hp}:∀ (ns:List Int),DatVs K H (ns.map V.int) (ns.map PyData.int)
 | []=>.nil
 | n::t=>.cons (.int n) (tS t)
theorem aH2{P:Program}{w:World}{K:Frag}{mg:Str->Option Value}{base:Heap}{T:Hp}{k:Nat}{f:Addr}{fd:FuncData}{x:Str}{G:List A->R A}(h:FnOk P w K mg base (CXe P w) k f fd [x] (spF (gOf P w K mg base T) K mg 1 G))
  (hl:∀ ns:List Int,ns.length<=63->G [.d (.list (ns.map .int))]=.ok (.d (.bool true))):FnOk P w K mg base (CXe P w) k f fd [x] (yF K T):=h.imp fun vs H Q E=>by
 rintro ⟨a,ns,rfl,hn,ht,hs,q⟩
 refine ⟨H,[.d (.list (ns.map .int))],ht,bK H,⟨.lst hs (tS ns),trivial⟩,rfl,?_⟩
 rw[hl ns hn]
 intro v F' H' _ r
 obtain rfl:=DatV.bl_of r
 exact q H'
theorem aJ3(P:Program)(w:World)(H:Hp)(s:Shared)(e:Value)(s':Shared)(h:CXe P w [] H s (fun _ _ _=>False) e s'):False:=by
 obtain ⟨_,_,_,_,_,_,_,_,_,_,_,q⟩:=h
 exact q
theorem aE9{l:PySem.W.OpenLaw}{k:Nat}{q:Program}{loose:List Str}{XP:(Str->Option Value)->Heap->Prop}{YP:World->Heap->Prop}{d:DefRec}{K:Params->Frag}{x:Str}{qs:List (Pos×Str)}{xs:List Str}
  (hxs:∀ x∈xs,∃ d∈recsOf q,d.name=x) (hNT:∀ w:World,PySem.W.noTabs (K w.params)=true)
  (hn:l.most=some 63) (hdf:d.params.defaults=[]) (hr:Room k callerA)
  (hY:∀ (w:World) (h:Heap),YP w h->(K w.params).In h)
  (F:∀ (w:World) (mg:Str->Option Value) (fa:Addr) (h:Heap),(K w.params).In h->h.Ns mainGlobals mg->mg d.name=some (.ref fa)->
   ∃ fd:FuncData,(∀ (s:Shared) (u:Value),BindsTo s fd ⟨[u],[]⟩ [(x,u)]) /\
    ∀ (base:Heap) (T:Hp),(K w.params).In base->base.Ns mainGlobals mg->sZ mg h base T qs xs->FnOk l.prog w (K w.params) mg base (CXe l.prog w) k fa fd [x] (yF (K w.params) T)) :
  PySem.W.WalkO q loose XP YP l.row.toRowW d [] (fun f vs=>PySem.call f vs):=
 walk_ofT (K:=K) (CX:=fun w=>CXe l.prog w) (qs:=qs) (xs:=xs) hxs hNT hn (by decide) hdf hr hY (fun w mg fa h h1 h2 h3=>by
  obtain ⟨fd,hb,hF⟩:=F w mg fa h h1 h2 h3
  exact ⟨fd,hb,fun base T h1 h2 h3=>⟨_,hF base T h1 h2 h3,fun H a ns hl hT hS=>⟨a,ns,rfl,hl,hT,hS,fun _=>rfl⟩⟩⟩) fun w H s e s' z=>aJ3 _ w H s e s' z
end Fl
namespace Fl
open PySem L2 PyProof.Rows
variable{X:Cx}{c:Ct}{E:XK}{e:Expr}
noncomputable def d2(G:Int->Int->Int):PyData->PyData->R PyData
 | .int i,.int j=>.ok (.int (G i j))
 | _,_=>.bad
noncomputable def d1(G:Int->Int):PyData->R PyData
 | .int i=>.ok (.int (G i))
 | _=>.bad
noncomputable def j3(i j:Int):Int:=if j > i then j else i
noncomputable def iK(i j:Int):Int:=if j < i then j else i
theorem aAJ{G:Int->Int->Int}{f g:Sg->R PyData}(h0:PE X e (tCB (fun xs H Q=>∃ i j,xs=[.int i,.int j]/\Q (.int (G i j)) H) (dF (tV (bJ c) c E f) (dF (tV (bJ c) c E g) fS)))):PD X c E e (e2 (d2 G) f g):=PE.imp h0 fun σ H Q zz0=>by
 obtain ⟨ρ,F,ab,k⟩:=zz0
 refine ⟨ρ,F,ab,(Rk.bind k).imp fun x ex q v F1 H1 s1 r1=>?_⟩
 refine ⟨ρ,F1,ab.ext s1,((Rk.bind q).ext s1).imp fun y _ q u F2 H2 s2 r2=>?_⟩
 cases x with
 | int i=>
  cases y with
  | int j=>
   obtain rfl:=aS.int_of r1
   obtain rfl:=aS.int_of r2
   exact ⟨i,j,rfl,Rk.ok q _ F2 H2 (s1.trans s2) (.int _)⟩
  | _=>exact q.elim
 | _=>exact q.elim
end Fl
namespace L2
open PySem PyProof.Rows
variable{X:Cx}
end L2
namespace Fl
open PySem L2 PyProof.Rows
variable{X:Cx}{c:Ct}{E:XK}{e:Expr}
end Fl
namespace Fl
open PySem L2 PyProof.Rows
variable{X:Cx}{c:Ct}{E:XK}{e:Expr}{st:Stmt}
end Fl
namespace Fl
open PySem L2 PyProof.Rows
theorem vJ{H:Hp}{p:Addr}{a b:HO}:upd (upd H p a) p b=upd H p b:=by
 funext x
 by_cases q:x=p
 · subst q; rw [aU, aU]
 · rw [aI q, aI q, aI q]
section
variable{X:Cx}{pins:List (Addr×Obj)}{σ:L2.St}{H:Hp}{s:Shared}{a:Addr}{es:List Ent}{k:PyData}{kv v:V}{ku u:Value}{A:Around}{E:Value->Shared->Prop}
theorem yG{A:Around}(hu:A.units+64 < cLine):(gM X.prog X.w).room A:=by show A.units+9 < cLine;omega
theorem aFA{Q:Unit->Shared->Prop}(hu:A.units+64 < cLine)(D:DicAt X H a es k kv)(I:Inv X pins σ H s)(rk:aQ kv ku)(rv:aQ v u)(hz:es.length<=sizeLine)(h:∀ ep s',Inv X pins σ (upd H a (cC X.w a (i7 es k kv v) ep)) s'->Q () s') :
  wpAny (model X.prog X.w) A (dictSet a ku u) Q E s:=by
 obtain ⟨hd,⟨b,xs,rfl,rfl,hx,hk,dd⟩|⟨kk,xs,rfl,rfl,hx,hk,dd⟩⟩:=D.cases I rk
 ·have hl:xs.length<=sizeLine:=by rw[<-Paired.length hx];exact hz
  refine wpAny_dictSet_heap (a:=b) (yG hu) hk dd (fun h' dd' hs=>?_) hl
  obtain ⟨q',ar,ep,hq,h2,h3,h4,_,h5⟩:=dd'
  obtain ⟨ep0,hO⟩:=D.o
  refine h ep _ (jL I (by rw[hO];exact True.intro) hs ⟨q',hq⟩ (gW hd ⟨q',ar,hq,h2,h3,?_⟩))
  rw[h4]
  exact lY (x3 rv hx)
 ·have hl:xs.length<=sizeLine:=by rw[<-Paired.length hx];exact hz
  refine wpAny_dictSet_pairs hk dd (fun h' dd' hs=>?_) hl
  obtain ⟨q',ar,ep,hq,h2,h3,h4,h5,_⟩:=dd'
  obtain ⟨ep0,hO⟩:=D.o
  refine h ep _ (jL I (by rw[hO];exact True.intro) hs ⟨q',hq⟩ (gW hd ⟨q',ar,hq,h2,h3,?_⟩))
  exact lZ (x4 rv hx) h5 fun en hen=>h4 en (by simpa using hen)
end
abbrev TP:=L2.St->Hp->(List (V×V)->Hp->Prop)->Prop
def aH3(p:V×V)(u:Value×Value):Prop:=aQ p.1 u.1/\aQ p.2 u.2
def PPr(X:Cx)(keys:List (Option Expr))(vals:List Expr)(t:TP):Prop:=∀ (pos:Pos) (pins:List (Addr×Obj)) (s:Shared) (σ:L2.St) (H:Hp) (Q:List (V×V)->Hp->Prop),Inv X pins σ H s->t σ H Q->
 wpAny (model X.prog X.w) X.A (evalPairs (pairTrees keys vals X.env pos)) (fun vs s'=>∃ ps H',Inv X pins σ H' s'/\Paired aH3 ps vs/\Q ps H') X.xe s
def aJ4:TP:=fun _ H Q=>Q [] H
def aH4(tk tv:TE)(t:TP):TP:=fun σ H Q=>tk σ H fun x H1=>tv σ H1 fun y H2=>t σ H2 fun ps H3=>Q ((x,y)::ps) H3
section
variable{X:Cx}{c:Ct}{E:XK}{e a b:Expr}{st:Stmt}{pos:Pos}
theorem aH5:PPr X [] [] aJ4:=fun pos pins s σ H Q I h=>evalPairs_nil ⟨[],H,I,.nil,h⟩
theorem aFB{k v:Expr}{ks:List (Option Expr)}{vs:List Expr}{tk tv:TE}{t:TP}(hk:PE X k tk)(hv:PE X v tv)(hr:PPr X ks vs t):PPr X (some k::ks) (v::vs) (aH4 tk tv t):=by
 intro pos pins s σ H Q I h
 rw[pairTrees.eq_1]
 refine evalPairs_cons (thn (hk pins s σ H _ I h) fun ku s1 zz0=>?_)
 obtain ⟨x,H1,I1,r1,q1⟩:=zz0
 refine wpAny_bind (thn (hv pins s1 σ H1 _ I1 q1) fun vu s2 zz0=>?_)
 obtain ⟨y,H2,I2,r2,q2⟩:=zz0
 refine wpAny_bind (wpAny_standAt (wpAny_pure ?_))
 exact thn (hr pos pins s2 σ H2 _ I2 q2) fun vs s3 ⟨ps,H3,I3,r3,q3⟩=>⟨(x,y)::ps,H3,I3,.cons ⟨r1,r2⟩ r3,q3⟩
noncomputable def eU:List (PyData×PyData)->List (PyData×PyData)->R (List (PyData×PyData))
 | acc,[]=>.ok acc
 | acc,(k,v)::t=>if bS k (acc.map (·.1))=true/\acc.length<=16777216 then eU (putM acc k v) t else .bad
def aCJ(K:Frag)(F:Hp)(p:V×V)(d:PyData×PyData):Prop:=DatV K F p.1 d.1/\DatV K F p.2 d.2
theorem aAK{pins:List (Addr×Obj)}{σ:L2.St}{p:Addr}{F:Hp}(hu:X.A.units+64 < cLine)(kvs:List (PyData×PyData)):∀ (ps:List (V×V)) (vs:List (Value×Value)) (acc res:List (PyData×PyData)) (es:List Ent) (ep:Nat) (H:Hp) (s:Shared) (Q:Shared->Prop),
  Inv X pins σ H s->aG F H->F p=none->H p=some (cC X.w p es ep)->MapRel X.K F es acc->Paired (aCJ X.K F) ps kvs->Paired aH3 ps vs->eU acc kvs=.ok res->
  (∀ es' ep' s',Inv X pins σ (upd H p (cC X.w p es' ep')) s'->MapRel X.K F es' res->Q s')->wpAny (model X.prog X.w) X.A (storeAll p vs) (fun _ s=>Q s) X.xe s:=by
 induction kvs with
 | nil=>
  intro ps vs acc res es ep H s Q I sf hf hp m d r e q
  cases d
  cases r
  cases e
  have hs:storeAll p []=pure PUnit.unit:=by unfold storeAll;rw[List.forIn_nil]
  rw[hs]
  refine wpAny_pure (q es ep s ?_ m)
  have:upd H p (cC X.w p es ep)=H:=by
   funext x
   by_cases z:x=p
   ·subst z;rw[aU,hp]
   ·rw[aI z]
  rw[this];exact I
 | cons kv t ih=>
  obtain ⟨k,v⟩:=kv
  intro ps vs acc res es ep H s Q I sf hf hp m d r e q
  cases d with
  | @cons x _ ps _ d ds=>
   cases r with
   | @cons _ u _ vs r rs=>
    unfold eU at e
    split at e
    ·rename_i hs
     have D:DicAt X H p es k x.1:=⟨⟨ep,hp⟩,fun e he=>(kN m.k1 m.k2 e he).same sf,by rw[m.k1];exact m.nd,d.1.same sf,by rw[m.k1];exact hs.1⟩
     have hl:es.length<=sizeLine:=by
      have:es.length=acc.length:=by simpa using congrArg List.length m.k1
      rw[this,cQ];exact hs.2
     have hst:storeAll p (u::vs)=(do dictSet p u.1 u.2;storeAll p vs):=by
      unfold storeAll
      rw[List.forIn_cons]
      simp
     rw[hst]
     refine wpAny_bind (aFA hu D I r.1 r.2 hl fun ep1 s' I'=>?_)
     have m':=m.put d.1 d.2
     have sf':aG F (upd H p (cC X.w p (i7 es k x.1 x.2) ep1)):=fun a o z=>by rw[aI (bI z hf)];exact sf a o z
     refine ih ps vs _ res _ _ _ s' Q I' sf' hf aU m' ds rs e fun es' ep' s'' I'' m''=>?_
     rw[vJ] at I''
     exact q es' ep' s'' I'' m''
    ·cases e
def aD2(X:Cx)(tp:TP):TE:=fun σ H Q=>∀ p,H p=none->tp σ (upd H p (cC X.w p [] 0)) fun ps H2=>∃ (F:Hp) (kvs res:List (PyData×PyData)),aG F H2/\F p=none/\H2 p=some (cC X.w p [] 0)/\Paired (aCJ X.K F) ps kvs/\eU [] kvs=.ok res /\
 ∀ es' ep',MapRel X.K F es' res->Q (.ref p) (upd H2 p (cC X.w p es' ep'))
theorem vW{keys:List (Option Expr)}{vals:List Expr}{tp:TP}(hu:X.A.units+64 < cLine)(h:PPr X keys vals tp)(h1:(keys.all fun x=>x.isSome)=true:=by rfl)(h2:keys.length=vals.length:=by rfl)(h3:keys≠[]:=by exact fun z=>nomatch z)(h4:keys.length<=15:=by decide):PE X (.Dict keys vals pos) (aD2 X tp):=by
 intro pins s σ H Q I q
 have I1:=I.laid (a:=s.heap.objs.size) (o:=cC X.w s.heap.objs.size [] 0) (t':=s.toks) (fun _ _ q=>Heap.get?_push_of_some {cls:=.type "dict",data:=.dict #[]} q) (Nat.le_refl _)
  (gW (beq_eq_false_iff_ne.mpr (Ne.symm (Nat.ne_of_lt I.big))) ⟨_,#[],Heap.get?_push_size _ rfl,⟨rfl,rfl,rfl⟩,rfl,.nil⟩)
 have q1:=q _ (I.hok.fresh (Nat.le_refl _))
 refine wpAny_Dict_any h1 h2 h3 h4 (thn (h pos pins _ σ _ _ I1 q1) fun vs s2 zz0=>?_)
 obtain ⟨ps,H2,I2,r,F,kvs,res,sf,hf,hp,d,e,z⟩:=zz0
 exact aAK hu kvs ps vs [] res [] 0 H2 s2 _ I2 sf hf hp ⟨rfl,.nil,.nil,List.nodup_nil⟩ d r e fun es' ep' s' I' m=>⟨.ref s.heap.objs.size,_,I',rfl,z es' ep' m⟩
def aH6(c:Ct)(E:XK)(f:Sg->R (List (PyData×PyData))):TP:=fun σ H Q=>∃ ρ F,Ab c ρ σ F H/\Rk c E F H (f ρ) fun kvs=>∀ ps F' H',Ext F H F' H'->Paired (aCJ c.K F') ps kvs->Q ps H'
abbrev PPf(X:Cx)(c:Ct)(E:XK)(keys:List (Option Expr))(vals:List Expr)(f:Sg->R (List (PyData×PyData))):Prop:=PPr X keys vals (aH6 c E f)
theorem PPr.imp{X:Cx}{ks:List (Option Expr)}{vs:List Expr}{t t':TP}(h:PPr X ks vs t)(i:∀ σ H Q,t' σ H Q->t σ H Q):PPr X ks vs t':=fun pos pins s σ H Q I q=>h pos pins s σ H Q I (i σ H Q q)
noncomputable def oH:Sg->R (List (PyData×PyData)):=fun _=>.ok []
def mF(f g:Sg->R PyData)(r:Sg->R (List (PyData×PyData))):Sg->R (List (PyData×PyData)):=fun ρ=>(f ρ).bind fun x=>(g ρ).bind fun y=>(r ρ).bind fun t=>.ok ((x,y)::t)
theorem vX:PPf X c E [] [] oH:=PPr.imp aH5 fun σ H Q ⟨ρ,F,ab,k⟩=>Rk.ok k [] F H (Ext.refl ab.fh) .nil
theorem tT{k v:Expr}{ks:List (Option Expr)}{vs:List Expr}{f g:Sg->R PyData}{r:Sg->R (List (PyData×PyData))}(hk:PD X c E k f)(hv:PD X c E v g)(hr:PPf X c E ks vs r):PPf X c E (some k::ks) (v::vs) (mF f g r):=PPr.imp (aFB hk hv hr) fun σ H Q zz0=>by
 obtain ⟨ρ,F,ab,k⟩:=zz0
 refine ⟨ρ,F,ab,(Rk.bind k).imp fun x _ q v F1 H1 s1 r1=>?_⟩
 refine ⟨ρ,F1,ab.ext s1,((Rk.bind q).ext s1).imp fun y _ q u F2 H2 s2 r2=>?_⟩
 refine ⟨ρ,F2,ab.ext (s1.trans s2),((Rk.bind q).ext (s1.trans s2)).imp fun t _ q ps F3 H3 s3 r3=>?_⟩
 exact Rk.ok q _ F3 H3 ((s1.trans s2).trans s3) (.cons ⟨DatV.same (s2.trans s3).ff r1,DatV.same s3.ff r2⟩ r3)
noncomputable def mG(i:Nat)(f:Sg->R (List (PyData×PyData))):Sg->R Fw:=fun ρ=>(f ρ).bind fun kvs=>(eU [] kvs).bind fun res=>.ok (.nx (ρ.set i (some (.m res))))
theorem rQ:∀ (kvs acc:List (PyData×PyData)) (x:Er),eU acc kvs≠.ex x
 | [],acc,x,h=>by cases h
 | (k,v)::t,acc,x,h=>by
  unfold eU at h
  split at h
  · exact rQ t _ x h
  · cases h
theorem vY{i:Nat}{f:Sg->R (List (PyData×PyData))}(hK:X.K=c.K)(hW:X.w=c.w)(h:PS X st (kW (aD2 X (aH6 c E f)) (jE i))):PSf X c E st (mG i f):=PS.imp h fun D σ H ⟨ρ,F,ab,k⟩=>fun p hp=>by
 have e1:=Ext.own (F:=F) (o:=cC X.w p [] 0) ab.fh hp
 refine ⟨ρ,F,ab.ext e1,((Rk.bind k).ext e1).imp fun kvs _ q ps F2 H2 s2 r2=>?_⟩
 have hf:F2 p=none:=s2.stay (bG ab.fh hp) aU (fun _ z=>tF z)
 have h2:H2 p=some (cC X.w p [] 0):=s2.hh _ _ aU
 cases e:eU [] kvs with
 | bad=>rw[e] at q;exact q.elim
 | ex x=>exact absurd e (rQ _ _ _)
 | ok res=>
  rw[e] at q
  refine ⟨F2,kvs,res,s2.fh,hf,h2,by rw[hK];exact r2,e,fun es' ep' m=>?_⟩
  have e3:Ext F H F2 (upd H2 p (cC X.w p es' ep')):=by
   refine ⟨fun a o z=>?_,s2.ff,fun a o z=>?_,fun a z n=>?_⟩
   ·have ne:a≠p:=bI z hp
    rw[aI ne]
    exact s2.hh a o (by rw[aI ne];exact z)
   ·rw[aI (bI z hf)];exact s2.fh a o z
   ·have:=s2.nw a z n
    by_cases w:a=p
    · subst w; exact .inl hp
    · unfold kK at this; rw [aI w] at this; exact this
  rw[hW] at e3 ⊢
  rw[hK] at m
  exact Rk.ok q _ F2 _ s2.ff (ab.setM e3 hp aU hf m)
end
end Fl
namespace L2
open PySem PySem.Spec PyProof.Rows
def aCK(X:Cx)(T:String)(r:V->List V->Hp->VK->Prop)(to:TE)(t:TA):TE:=fun σ H Q=>to σ H fun x H1=>(∀ (pins:List (Addr×Obj)) (s:Shared) (v:Value),Inv X pins σ H1 s->aQ x v->s.TypeIs v T/\∀ a,v=.ref a->∃ ob,s.heap.get? a=some ob/\ob.dict=none)/\t σ H1 fun xs H2=>r x xs H2 Q
theorem aAL{X:Cx}{o e:Expr}{es:List Expr}{to:TE}{t:TA}{name:Str}{apos cpos:Pos}{T id:String}{r:V->List V->Hp->VK->Prop}(pa:PlainAttrs T)(slot:Slot T name id)(hty:typeOf (.builtin id)=pure (.type "method_descriptor"))(hm:MtR X id r)(ho:PE X o to)(ha:PA X (e::es) t)
  (hbase:attributeBase o name X.env (eval o X.env)=eval o X.env:=by rfl)
  (hfew:((backTo cpos (starEach (e::es) X.env)).all (fun x=>!x.1) && (backToKw cpos (keywordEach [] X.env)).all (fun x=>x.1.isSome)
   && decide ((e::es).length+([]:List Keyword).length+(if ([]:List Keyword).isEmpty then 0 else 1) < 30))=true:=by rfl)
  (hline:(apos.endLine == cpos.line)=true:=by rfl) (hs:starEach (e::es) X.env=(false,eval e X.env)::starEach es X.env:=by rfl) (hplain:(backTo cpos (starEach es X.env)).any (·.1)=false:=by rfl) :
  PE X (.Call (.Attribute o name apos) (e::es) [] cpos) (aCK X T r to t):=by
 intro pins s σ H Q I h
 refine wpAny_Call_method_late hbase hfew hline rfl (thn (ho pins s σ H _ I h) fun v s1 zz0=>?_)
 obtain ⟨x,H1,I1,r1,ty,q1⟩:=zz0
 obtain ⟨h1,h2⟩:=ty pins s1 v I1 r1
 refine ⟨T,id,pa,slot,hty,h1,h2,?_⟩
 have hA:=ha cpos pins s1 σ H1 _ I1 q1
 rw[hs] at hA ⊢
 refine Calls.callWith_builtin (by show (false || (backTo cpos (starEach es X.env)).any (·.1))=false;rw[hplain]<;>rfl) (Calls.evalArgs_plain ?_)
 exact thn hA fun us s2 ⟨vs,H2,I2,r2,q2⟩=>hm pins s2 σ H2 x vs v us Q I2 r1 r2 q2
end L2
namespace Fl
open PySem L2 PyProof.Rows
section
variable{X:Cx}{c:Ct}{E:XK}{e a b:Expr}{st:Stmt}{pos:Pos}
noncomputable def aH7(i:Nat)(f g:Sg->R PyData):Sg->R PyData:=fun ρ=>match ρ[i]? with
 | some (some (.m kvs))=>(f ρ).bind fun k=>(g ρ).bind fun y=>if bS k (kvs.map (·.1))=true then .ok ((bY kvs k).getD y) else .bad
 | _=>.bad
end
end Fl
namespace Fl
open PySem L2 PyProof.Rows
section
variable{X:Cx}{c:Ct}{E:XK}
end
end Fl
namespace Fl
open PySem L2 PyProof.Rows
def dLR:PyData->R (List PyData)
 | .int n=>if 0<=n/\n<=1000000 then .ok ((List.range n.toNat).map fun i:Nat=>.int (i:Int)) else .bad
 | _=>.bad
section
variable{X:Cx}{c:Ct}{E:XK}{e:Expr}
theorem pG{K:Frag}{F:Hp}:∀ (xs:List Nat),DatVs K F (xs.map fun i:Nat=>V.int (i:Int)) (xs.map fun i:Nat=>PyData.int (i:Int))
 | []=>.nil
 | x::xs=>.cons (.int _) (pG xs)
theorem aCL{f:Sg->R PyData}(h:PE X e (tCB (fun xs H Q=>∃ (p:Addr) (n:Nat),xs=[.ref p]/\H p=some (.rng 0 n)/\n<=1000000/\∀ l,H l=none->Q (.ref l) (upd H l (.lst ((List.range n).map fun i:Nat=>V.int (i:Int)))))
  (dF (tCB (fun xs H Q=>∃ n:Nat,xs=[.int n]/\n<=1000000/\∀ p,H p=none->Q (.ref p) (upd H p (.rng 0 n))) (dF (tV (bJ c) c E f) fS)) fS))):PN X c E e (e1 dLR f):=PE.imp h fun σ H Q ⟨ρ,F,ab,k⟩=>by
 refine ⟨ρ,F,ab,(Rk.bind k).imp fun d hd q v F1 H1 s1 r1=>?_⟩
 clear hd
 unfold dLR at q
 split at q
 ·rename_i n
  split at q
  ·rename_i hn
   obtain rfl:=aS.int_of r1
   refine ⟨n.toNat,by rw[show ((n.toNat:Nat):Int)=n by omega],by omega,fun p hp=>?_⟩
   refine ⟨p,n.toNat,rfl,aU,by omega,fun l hl=>?_⟩
   have e1:Ext F1 H1 F1 (upd H1 p (.rng 0 (n.toNat:Int))):=Ext.own s1.fh hp
   have e2:Ext F1 _ F1 (upd (upd H1 p (.rng 0 (n.toNat:Int))) l (.lst ((List.range n.toNat).map fun i:Nat=>V.int (i:Int)))):=Ext.own e1.fh hl
   exact Rk.ok q _ F1 _ ((s1.trans e1).trans e2) ⟨l,_,rfl,bG s1.hh (bG e1.hh hl),aU,bG e1.fh hl,pG _⟩
  ·exact q.elim
 ·exact q.elim
end
end Fl
namespace Fl
open PySem L2 PyProof.Rows
section
variable{X:Cx}{c:Ct}{E:XK}{e:Expr}{P:Program}{w:World}{base:Heap}
end
end Fl
namespace L2
open PySem PySem.Spec PyProof.Rows
theorem bN.got{P:Program}{w:World}{H:Hp}{h:Heap}{a:Addr}{o:HO}(x:bN P w H h a o):∃ u,h.get? a=some u:=by
 cases o with
 | lst xs=>obtain ⟨_,_,_,_,e⟩:=x;exact ⟨_,e⟩
 | tup xs=>obtain ⟨_,_,_,⟨o,e,_⟩⟩:=x;exact ⟨_,e⟩
 | dK kvs=>obtain ⟨_,_,_,_,o,_,_,e,_⟩:=x;exact ⟨_,e⟩
 | dT kvs=>obtain ⟨_,_,_,_,o,_,_,e,_⟩:=x;exact ⟨_,e⟩
 | set S n=>obtain ⟨o,_,_,_,e,_⟩:=x;exact ⟨_,e⟩
 | ins C dx fs=>obtain ⟨_,_,_,e,_⟩:=x;exact ⟨_,e⟩
 | own y=>exact x
 | xd fs=>obtain ⟨_,⟨_,_,_,e,_⟩,_⟩:=x;exact ⟨_,e⟩
 | rng lo hi=>obtain ⟨_,_,_,e⟩:=x;exact ⟨_,e⟩
 | frz ob u=>exact ⟨_,x.1⟩
 | tbl ps=>obtain ⟨_,e,_⟩:=x;exact ⟨_,e⟩
 | cod q=>obtain ⟨c,o,vs,t,e,ho,_⟩:=x;cases e;exact ⟨_,ho⟩
 | met f y=>exact ⟨_,x⟩
 | ext φ=>exact x.2.1
theorem HOk.free{P:Program}{w:World}{H:Hp}{h:Heap}{a:Addr}(x:HOk P w H h)(e:h.get? a=none):H a=none:=by
 cases q:H a with
 | none=>rfl
 | some u=>
  obtain ⟨o,z⟩:=(x a u q).got
  rw[e] at z;cases z
structure ErrP(K:Frag)(mg:Str->Option Value)(x:Str)(W C:Addr):Prop where
 c:SX.ExcC K W C
 m:mg x=some (.ref C)
 lk:∃ nm q N bs sn sub ab col dd k0 k1 k2 k3 k5,K.lookup C=some (excClassObj nm q C N bs (.ref W::SX.iF) true sn sub ab col dd k0 k1 k2 k3 k5 "ValueError.__new__")/\PySem.W.nsOkIn K N=true/\PySem.W.nsIn K N "__init__"=some none
 lw:∃ c0 dd cd sl,K.lookup W=some ⟨c0,dd,.cls cd,sl⟩/\PySem.W.nsOkIn K cd.ns=true/\PySem.W.nsIn K cd.ns "__init__"=some none
def few(i:Int):Prop:=i=40\/i=60\/i=200\/i=300
end L2
namespace Fl
open PySem L2 PyProof.Rows
instance (i:Int):Decidable (few i):=by unfold few;infer_instance
section
variable{X:Cx}{c:Ct}{E:XK}{st:Stmt}{cn:Str}{C:Addr}
end
end Fl
namespace Fl
open PySem L2 PyProof.Rows
end Fl
namespace HT
open PySem PySem.Spec PyProof.Rows L2
end HT
namespace Fl
open PySem L2 PyProof.Rows
theorem vZ{K:Frag}{F:Hp}{vs:List V}{i:Int}{x:Str}(h:DatVs K F vs [.int i,.str x]):vs=[.int i,.str x]:=by
 obtain ⟨v,t,rfl,h1,h2⟩:=h.cons_of
 obtain ⟨u,t',rfl,h3,h4⟩:=h2.cons_of
 obtain rfl:=h1.int_of
 obtain rfl:=h3.str_of
 cases h4
 rfl
end Fl
namespace Fl
open PySem L2 PyProof.Rows
def FnK(K:Frag)(H:Hp)(f:Addr):Prop:=PySem.W.keepIn K (.ref f)=true\/∃ oc od fd sl,H f=some (FnO f ⟨oc,od,.func fd,sl⟩)
def tU(X:Cx)(i:Nat)(E:XK)(t:TA):TE:=fun σ H Q=>∃ f,σ[i]? = some (some (.ref f))/\FnK X.K H f/\t σ H fun vs H1=>FnK X.K H1 f/\∃ k fd ps sp,Room k X.A/\FnOk X.prog X.w X.K X.mg X.base (CXe X.prog X.w) k f fd ps sp/\gJ X.K fd ps []/\sp vs H1 Q E
theorem tW{X:Cx}{i:Nat}{x:Str}{E:XK}{p pos:Pos}{e:Expr}{es:List Expr}{t:TA}(hn:PE X (.Name x p) (fQ i))(hx:jT (CXe X.prog X.w) X E)(ha:PA X (e::es) t)
  (he:starEach (e::es) X.env=(false,eval e X.env)::starEach es X.env:=by rfl) (hpl:(backTo pos (starEach es X.env)).any (·.1)=false:=by rfl):PE X (.Call (.Name x p) (e::es) [] pos) (tU X i E t):=by
 intro pins s σ H Q I h
 obtain ⟨f,hf,hk,h⟩:=h
 refine wpAny_Call_Name_kw (thn (hn pins s σ H (fun v H'=>v=.ref f/\H'=H) I ⟨_,hf,rfl,rfl⟩) fun u s0 zz0=>?_)
 obtain ⟨v,H0,I0,rv,e1,e2⟩:=zz0
 subst e1 e2
 obtain rfl:u=Value.ref f:=rv
 have fin:∀ (us:List Value) (s1:Shared),AP X pins σ (fun vs H1=>FnK X.K H1 f/\∃ k fd ps sp,Room k X.A/\FnOk X.prog X.w X.K X.mg X.base (CXe X.prog X.w) k f fd ps sp/\gJ X.K fd ps []/\sp vs H1 Q E) us s1->
   (∃ H1,Inv X pins σ H1 s1/\FnK X.K H1 f)/\wpAny (model X.prog X.w) X.A (call (.ref f) us) (EP X pins σ Q) X.xe s1:=by
  rintro us s1 ⟨vs,H1,I1,r,hk1,k,fd,ps,sp,hr,F,hb,q⟩
  refine ⟨⟨H1,I1,hk1⟩,zG (dvs:=[]) (ds:=[]) F hr hb .nil hx I1 r ?_⟩
  rw[List.append_nil];exact q
 rcases hk with hk|⟨oc,od,fd,sl,hk⟩
 ·refine PySem.W.callWith_K (h₀:=X.base) I0.ok.mod.kin hk (thn (ha pos pins s0 σ H0 _ I0 h) fun us s1 hq=>?_) he hpl
  obtain ⟨⟨H1,I1,_⟩,q⟩:=fin us s1 hq
  exact ⟨I1.kIn,q⟩
 ·refine PySem.W.callWith_F ⟨oc,od,fd,sl,FnO.get I0.hok hk⟩ (thn (ha pos pins s0 σ H0 _ I0 h) fun us s1 hq=>?_) he hpl
  obtain ⟨⟨H1,I1,hk1⟩,q⟩:=fin us s1 hq
  refine ⟨?_,q⟩
  rcases hk1 with hk1|⟨oc,od,fd,sl,hk1⟩
  ·cases e:X.K.lookup f with
   | none=>unfold PySem.W.keepIn at hk1;dsimp only at hk1;rw[e] at hk1;cases hk1
   | some o=>
    have e1:=I1.kIn f o e
    exfalso
    have e2:=I0.kIn f o e
    obtain ⟨o',h1,h2⟩:∃ o',H0 f=some (FnO f o')/\True:=⟨_,hk,trivial⟩
    have e3:=I0.bs f o (I0.ok.mod.kin f o e)
    rw[e3.2] at h1;cases h1
  ·exact ⟨oc,od,fd,sl,FnO.get I1.hok hk1⟩
def tX(m i:Nat)(f:Sg->R (List PyData)):Sg->R PyData:=fun ρ=>match ρ[i]? with
 | some (some (.g k n G))=>(f ρ).bind fun ds=>if k<=m/\ds.length=n then G ds else .bad
 | _=>.bad
theorem aH8{X:Cx}{c:Ct}{E:XK}{e:Expr}{m i:Nat}{T:Hp}{f:Sg->R (List PyData)}(hG:c.g=gOf X.prog X.w X.K X.mg X.base T)(hK:X.K=c.K)(hM:X.mg=c.mg)(hr:Room m X.A)(h:PE X e (tU X i E (tAd c E f))):PD X c E e (tX m i f):=PE.imp h fun σ H Q ⟨ρ,F,ab,k⟩=>by
 unfold tX at k
 split at k
 ·rename_i lv n G hi
  obtain ⟨v,hv,hA⟩:=ab.slot i _ hi
  obtain ⟨fa,F1,rfl,s1,B⟩:=(show AF c.g c.K c.mg F (.g lv n G) v from hA)
  rw[hG] at B
  obtain ⟨fd,ps,hps,hb,FO,hk⟩:=(show Beh X.prog X.w X.K X.mg X.base T fa F1 lv n G from B)
  have hk1:∀ F' H',aG F F'->aG F' H'->FnK X.K H' fa:=fun F' H' a1 a2=>hk.imp id fun ⟨oc,od,fd,sl,e⟩=>⟨oc,od,fd,sl,a2 _ _ (a1 _ _ (s1 _ _ e))⟩
  refine ⟨fa,hv,hk1 F H (bK F) ab.fh,ρ,F,ab,(Rk.bind k).imp fun ds _ q vs F' H' e1 r=>?_⟩
  refine ⟨hk1 F' H' e1.ff e1.fh,?_⟩
  by_cases hn:lv<=m/\ds.length=n
  ·rw[if_pos hn] at q
   refine ⟨lv,fd,ps,_,hr.mono hn.1,FO,hb,F',ds,fun a o z=>e1.ff a o (s1 a o z),fun a o z=>e1.ff a o (ab.f0 a o (ab.t0 a o (by rw[hG];exact z))),e1.fh,by rw[hK];exact r,hn.2,?_⟩
   cases hg:G ds with
   | bad=>rw[hg] at q;exact q
   | ok d=>rw[hg] at q;exact fun v F2 H2 e2 r2=>Rk.ok q v F2 H2 (e1.trans e2) (by rw[hK] at r2;exact r2)
   | ex x=>rw[hg] at q;exact fun a C F2 H2 e2 r2=>q a C F2 H2 ((ab.all.trans e1).trans e2) (by rw[hK,hM] at r2;exact r2)
  ·rw[if_neg hn] at q;exact q.elim
 ·exact k.elim
noncomputable def nZ:PyData->Bool
 | .none=>true
 | .bool _=>true
 | .int _=>true
 | .str _=>true
 | _=>false
theorem aCM{K:Frag}{F F':Hp}{v:V}{d:PyData}(h:nZ d=true)(r:DatV K F v d):DatV K F' v d:=by
 cases d with
 | none=>cases r;exact .non
 | bool b=>cases r;exact .bl b
 | int i=>cases r;exact .int i
 | str x=>cases r;exact .str x
 | list xs=>cases h
 | tuple xs=>cases h
 | dict xs=>cases h
def mH(K:Frag)(F H:Hp):List V->List PyData->Prop
 | [],[]=>True
 | v::vs,d::ds=>aS K F H v d/\mH K F H vs ds
 | _,_=>False
theorem mH.ext{K:Frag}{F H F' H':Hp}(e:Ext F H F' H'):∀ {vs:List V} {ds:List PyData},mH K F H vs ds->mH K F' H' vs ds
 | [],[],_=>trivial
 | v::vs,d::ds,h=>⟨aS.ext e h.1,mH.ext e h.2⟩
def tAr(c:Ct)(E:XK)(f:Sg->R (List PyData)):TA:=fun σ H Q=>∃ ρ F,Ab c ρ σ F H/\Rk c E F H (f ρ) fun ds=>∀ vs F' H',Ext F H F' H'->mH c.K F' H' vs ds->Q vs H'
theorem aFC{X:Cx}{c:Ct}{E:XK}:PA X [] (tAr c E aK):=PA.imp aJ fun σ H Q ⟨ρ,F,ab,k⟩=>Rk.ok k [] F H (Ext.refl ab.fh) trivial
theorem tY{X:Cx}{c:Ct}{E:XK}{e:Expr}{es:List Expr}{f:Sg->R PyData}{g:Sg->R (List PyData)}(h:PR X c E e f)(h2:PA X es (tAr c E g))(hs:starEach (e::es) X.env=(false,eval e X.env)::starEach es X.env:=by rfl):PA X (e::es) (tAr c E (aA f g)):=PA.imp (aF h h2 hs) fun σ H Q zz0=>by
 obtain ⟨ρ,F,ab,k⟩:=zz0
 refine ⟨ρ,F,ab,(Rk.bind k).imp fun x _ q v F1 H1 s1 r1=>⟨ρ,F1,ab.ext s1,((Rk.bind q).ext s1).imp fun xs _ q vs F2 H2 s2 r2=>?_⟩⟩
 exact Rk.ok q (v::vs) F2 H2 (s1.trans s2) ⟨aS.ext s2 r1,r2⟩
theorem aH9{K:Frag}{F H:Hp}(s:aG F H):∀ {vs:List V} {ds:List PyData},mH K F H vs ds->∃ FL,aG F FL/\aG FL H/\DatVs K FL vs ds
 | [],[],_=>⟨F,bK F,s,.nil⟩
 | v::vs,d::ds,h=>by
  obtain ⟨FL,a,b,r⟩:=aH9 s h.2
  rcases h.1 with q|⟨p,us,xs,rfl,rfl,h1,h2⟩
  ·exact ⟨FL,a,b,.cons (q.same a) r⟩
  ·refine ⟨fun x=>if x=p then some (.lst us) else FL x,fun x o z=>?_,fun x o z=>?_,?_⟩
   ·by_cases hx:x=p
    ·subst hx
     have:=s x o z
     rw[h1] at this;cases this
     exact if_pos rfl
    ·exact (if_neg hx).trans (a x o z)
   ·by_cases hx:x=p
    ·subst hx
     have z':=(if_pos rfl).symm.trans z
     rw[h1];exact z'
    ·exact b x o ((if_neg hx).symm.trans z)
   ·have sm:aG FL (fun x=>if x=p then some (.lst us) else FL x):=fun x o z=>by
     by_cases hx:x=p
     ·subst hx
      have:=b x o z
      rw[h1] at this;cases this
      exact if_pos rfl
     ·exact (if_neg hx).trans z
    exact .cons (.lst (SqL.of (if_pos rfl)) (h2.same fun x o z=>sm x o (a x o z))) (r.same sm)
def pH(m i:Nat)(f:Sg->R (List PyData)):Sg->R PyData:=fun ρ=>match ρ[i]? with
 | some (some (.g k n G))=>(f ρ).bind fun ds=>if k<=m/\ds.length=n then (match G ds with | .ok d=>if nZ d=true then .ok d else .bad|_=>.bad) else .bad
 | _=>.bad
theorem aFD{X:Cx}{c:Ct}{E:XK}{e:Expr}{m i:Nat}{T:Hp}{f:Sg->R (List PyData)}(hG:c.g=gOf X.prog X.w X.K X.mg X.base T)(hK:X.K=c.K)(hM:X.mg=c.mg)(hr:Room m X.A)(h:PE X e (tU X i E (tAr c E f))):PD X c E e (pH m i f):=PE.imp h fun σ H Q ⟨ρ,F,ab,k⟩=>by
 unfold pH at k
 split at k
 ·rename_i lv n G hi
  obtain ⟨v,hv,hA⟩:=ab.slot i _ hi
  obtain ⟨fa,F1,rfl,s1,B⟩:=(show AF c.g c.K c.mg F (.g lv n G) v from hA)
  rw[hG] at B
  obtain ⟨fd,ps,hps,hb,FO,hk⟩:=(show Beh X.prog X.w X.K X.mg X.base T fa F1 lv n G from B)
  have hk1:∀ F' H',aG F F'->aG F' H'->FnK X.K H' fa:=fun F' H' a1 a2=>hk.imp id fun ⟨oc,od,fd,sl,e⟩=>⟨oc,od,fd,sl,a2 _ _ (a1 _ _ (s1 _ _ e))⟩
  refine ⟨fa,hv,hk1 F H (bK F) ab.fh,ρ,F,ab,(Rk.bind k).imp fun ds _ q vs F' H' e1 r=>?_⟩
  refine ⟨hk1 F' H' e1.ff e1.fh,?_⟩
  by_cases hn:lv<=m/\ds.length=n
  ·rw[if_pos hn] at q
   obtain ⟨FL,a,b,r'⟩:=aH9 e1.fh r
   refine ⟨lv,fd,ps,_,hr.mono hn.1,FO,hb,FL,ds,fun x o z=>a x o (e1.ff x o (s1 x o z)),fun x o z=>a x o (e1.ff x o (ab.f0 x o (ab.t0 x o (by rw[hG];exact z)))),b,by rw[hK];exact r',hn.2,?_⟩
   cases hg:G ds with
   | bad=>rw[hg] at q;exact q
   | ok d=>
    rw[hg] at q
    intro v F2 H2 e2 r2
    have q':Rk c E F H (if nZ d=true then R.ok d else .bad) _:=q
    by_cases hf:nZ d=true
    ·rw[if_pos hf] at q'
     refine Rk.ok q' v F' H2 (e1.trans ⟨e2.hh,bK F',fun x o z=>e2.hh x o (e1.fh x o z),fun x z n=>absurd z n⟩) (by rw[hK] at r2;exact aCM hf r2)
    ·rw[if_neg hf] at q';exact q'.elim
   | ex x=>rw[hg] at q;exact q.elim
  ·rw[if_neg hn] at q;exact q.elim
 ·exact k.elim
end Fl
namespace Fl
open PySem L2 PyProof.Rows
theorem aFE{K:Frag}{F:Hp}{cs:List Addr}{a:Addr}{xs:List V}(hc:Celd cs F)(h:SqL K F a xs):SqL K (hid cs F) a xs:=by
 rcases h with (h|⟨o,h⟩)|h
 · exact .inl (.inl (by rw [bH (hc.out h fun _ v z => nomatch z)]; exact h))
 · exact .inl (.inr ⟨o, by rw [bH (hc.out h fun _ v z => by unfold dL at z; cases z)]; exact h⟩)
 · exact .inr h
theorem aFF{K:Frag}{F:Hp}{cs:List Addr}{a:Addr}{xs:List V}(hc:Celd cs F)(h:SqT K F a xs):SqT K (hid cs F) a xs:=by
 rcases h with (h|⟨o,h⟩)|h
 · exact .inl (.inl (by rw [bH (hc.out h fun _ v z => nomatch z)]; exact h))
 · exact .inl (.inr ⟨o, by rw [bH (hc.out h fun _ v z => by unfold dL at z; cases z)]; exact h⟩)
 · exact .inr h
mutual
theorem v4{K:Frag}{F:Hp}{cs:List Addr}(hc:Celd cs F):∀ {v:V} {d:PyData},DatV K F v d->DatV K (hid cs F) v d
 | _,_,.non=>.non
 | _,_,.bl b=>.bl b
 | _,_,.int i=>.int i
 | _,_,.str x=>.str x
 | _,_,.lst h r=>.lst (aFE hc h) (j4 hc r)
 | _,_,.tup h r=>.tup (aFF hc h) (j4 hc r)
theorem j4{K:Frag}{F:Hp}{cs:List Addr}(hc:Celd cs F):∀ {vs:List V} {ds:List PyData},DatVs K F vs ds->DatVs K (hid cs F) vs ds
 | _,_,.nil=>.nil
 | _,_,.cons h r=>.cons (v4 hc h) (j4 hc r)
end
theorem aFG{e C b:Addr}{od:Option Addr}{o:Obj}{v:V}(h:ExO e C od=dL b o v):False:=by unfold ExO dL at h;cases h
theorem aCN{K:Frag}{mg:Str->Option Value}{F:Hp}{e:Er}{a C:Addr}{cs:List Addr}(hc:Celd cs F)(h:i8 K mg F e a C):i8 K mg (hid cs F) e a C/\a∉cs:=by
 obtain ⟨m,od,h1,h2⟩:=h
 have ha:=hc.out h1 fun _ v z=>aFG z
 refine ⟨⟨m,od,by rw[bH ha];exact h1,h2.imp id ?_⟩,ha⟩
 rintro ⟨d,fvs,e1,e2,e3,e4⟩
 exact ⟨d,fvs,e1,by rw[bH (hc.out e2 fun _ v z=>nomatch z)];exact e2,e3,j4 hc e4⟩
theorem tZ{cv:Cv}{H F2:Hp}(s:aG (pub cv H) F2):Celd (cK cv) F2:=fun b hb=>by
 obtain ⟨p,e⟩:=fE.mp hb
 exact ⟨p.1,p.2,s _ _ (mZ e)⟩
theorem aCO{cv:Cv}{F H:Hp}(s:aG F H):aG (pub cv F) (pub cv H):=fun b o e=>by
 by_cases hb:b∈cK cv
 ·obtain ⟨p,q⟩:=fE.mp hb
  rw[mZ q] at e ⊢;exact e
 ·rw[dM hb] at e ⊢;exact s b o e
theorem rR{cv:Cv}{F H F2 H2:Hp}(hd:∀ b∈cK cv,H b=none)(s:aG F H)(e:Ext (pub cv F) (pub cv H) F2 H2):Ext F H (hid (cK cv) F2) (hid (cK cv) H2):=by
 have hF:∀ b∈cK cv,F b=none:=fun b hb=>bG s (hd b hb)
 have outH:∀ b o,H b=some o->b∉cK cv:=fun b o q z=>by rw[hd b z] at q;cases q
 have outF:∀ b o,F b=some o->b∉cK cv:=fun b o q z=>by rw[hF b z] at q;cases q
 refine ⟨fun b o q=>?_,fun b o q=>?_,fun b o q=>?_,fun b q n=>?_⟩
 ·have hb:=outH b o q
  rw[bH hb];exact e.hh b o (by rw[dM hb];exact q)
 ·have hb:=outF b o q
  rw[bH hb];exact e.ff b o (by rw[dM hb];exact q)
 ·obtain ⟨q1,hb⟩:=lV q
  rw[bH hb];exact e.fh b o q1
 ·by_cases hb:b∈cK cv
  ·exact absurd (lB hb) n
  ·rw[bH hb] at n
   have:=e.nw b (by rw[dM hb];exact q) n
   unfold kK at this ⊢
   rw[dM hb] at this;exact this
noncomputable def dOf:R A->R PyData
 | .ok (.d x)=>.ok x
 | .ok _=>.bad
 | .ex e=>.ex e
 | .bad=>.bad
def CloOk(P:Program)(w:World)(K:Frag)(mg:Str->Option Value)(base:Heap)(T:Hp)(S:ClSt)(fr:List Str)(k n:Nat)(Gm:List A->List PyData->R PyData):Prop:=
 ∀ (F0 F1:Hp) (caps:List A) (cvs:List V) (f:Addr) (cl:List (Str×Addr)) (doc pm ct:Value) (cc:Addr),aG T F0->AFs (gOf P w K mg base T) K mg F0 caps cvs->aG F0 F1->
  F1 f=some (FnO f (S.obj cl doc pm cc ct))->F1 cc=some (.cod S.qual)->CapAt F1 fr cl cvs->(∀ c∈aX fr cl,F0 c=none)->Beh P w K mg base T f F1 k n (Gm caps)
theorem wA{cs:List Addr}{F H F2 H2:Hp}(s:aG F H)(hc:Celd cs F)(hn:∀ c∈cs,H2 c=none)(e:Ext (hid cs F) (hid cs H) F2 H2):Ext F H (shw cs F F2) (shw cs H H2)/\aG F2 (shw cs F F2):=by
 have hF:∀ c∈cs,F2 c=none:=fun c h=>bG e.fh (hn c h)
 refine ⟨⟨fun b o q=>?_,fun b o q=>?_,fun b o q=>?_,fun b q n=>?_⟩,fun b o q=>?_⟩
 ·by_cases hb:b∈cs
  ·rw[mY hb];exact q
  ·rw[dJ hb];exact e.hh b o (by rw[bH hb];exact q)
 ·by_cases hb:b∈cs
  ·rw[mY hb];exact q
  ·rw[dJ hb];exact e.ff b o (by rw[bH hb];exact q)
 ·by_cases hb:b∈cs
  ·rw[mY hb] at q ⊢;exact s b o q
  ·rw[dJ hb] at q ⊢;exact e.fh b o q
 ·by_cases hb:b∈cs
  ·obtain ⟨o,v,z⟩:=hc b hb
   rw[z] at q;cases q
  ·rw[dJ hb] at n
   have:=e.nw b (by rw[bH hb];exact q) n
   unfold kK at this ⊢
   rw[bH hb] at this;exact this
 ·rw[dJ fun z=>by rw[hF b z] at q;cases q];exact q
theorem AFs.data{g:Gb}{K:Frag}{mg:Str->Option Value}{F:Hp}:∀ {vs:List V} {ds:List PyData},DatVs K F vs ds->AFs g K mg F (ds.map .d) vs
 | _,_,.nil=>trivial
 | _,_,.cons h r=>⟨h,AFs.data r⟩
theorem AFs.append{g:Gb}{K:Frag}{mg:Str->Option Value}{F:Hp}:∀ {as bs:List A} {vs us:List V},AFs g K mg F as vs->AFs g K mg F bs us->AFs g K mg F (as++bs) (vs++us)
 | [],_,[],_,_,h=>h
 | a::as,bs,v::vs,us,h,h2=>⟨h.1,AFs.append h.2 h2⟩
section
variable{P:Program}{w:World}{K:Frag}{mg:Str->Option Value}{base:Heap}{T:Hp}{S:ClSt}{N ps fr:List Str}{k:Nat}
theorem aAM{F0 F1 F H:Hp}{caps:List A}{cvs vs:List V}{ds:List PyData}{cl:List (Str×Addr)}(hT0:aG T F0)(hcap:AFs (gOf P w K mg base T) K mg F0 caps cvs)(h01:aG F0 F1)(h1F:aG F1 F)(hFH:aG F H)(C:CapAt F1 fr cl cvs)(hno:∀ c∈aX fr cl,F0 c=none)(hd:DatVs K F vs ds) :
  Celd (aX fr cl) F/\aG T (hid (aX fr cl) F)/\aG (hid (aX fr cl) F) (hid (aX fr cl) H)/\AFs (gOf P w K mg base T) K mg (hid (aX fr cl) F) (ds.map .d++caps) (vs++cvs):=by
 have hc:Celd (aX fr cl) F:=(C.same h1F).celd
 have h0:aG F0 (hid (aX fr cl) F):=fun b o q=>by
  rw[bH fun z=>by rw[hno b z] at q;cases q];exact h1F b o (h01 b o q)
 refine ⟨hc,fun b o q=>h0 b o (hT0 b o q),fun b o q=>?_,(AFs.data (j4 hc hd)).append (hcap.same h0)⟩
 obtain ⟨q1,hb⟩:=lV q
 rw[bH hb];exact hFH b o q1
def oI(n:Nat)(fb:Sg->R Fw):List A->List PyData->R PyData:=fun caps ds=>dOf (fnF n fb (ds.map .d++caps))
theorem aFH{F H:Hp}{cs:List Addr}{Q:VK}{E:XK}{r:R A}(hFH:aG F H)(hc:Celd cs F)(h:match dOf r with
 | .bad=>False
 | .ok d=>∀ v F' H',Ext F H F' H'->DatV K F' v d->Q v H'
 | .ex e=>∀ a C F' H',Ext F H F' H'->i8 K mg F' e a C->E (.ref C) (some a) H'):match (generalizing:=false) r with
 | .bad=>False
 | .ok a=>∀ v F' H',Ext (hid cs F) (hid cs H) F' H'->AF (gOf P w K mg base T) K mg F' a v->(∀ a∈cs,H' a=none)->Q v (shw cs H H')
 | .ex e=>∀ a C F' H',Ext (hid cs F) (hid cs H) F' H'->i8 K mg F' e a C->(∀ a∈cs,H' a=none)->E (.ref C) (some a) (shw cs H H'):=by
 cases r with
 | bad=>exact h
 | ok a=>
  cases a with
  | d x=>
   intro v F' H' e q hn
   obtain ⟨e2,sm⟩:=wA hFH hc hn e
   exact h v _ _ e2 (DatV.same sm q)
  | l xs=>exact False.elim h
  | m xs=>exact False.elim h
  | x e=>exact False.elim h
  | g k n f=>exact False.elim h
  | k S=>exact False.elim h
  | f S=>exact False.elim h
 | ex x=>
  intro a C F' H' e q hn
  obtain ⟨e2,sm⟩:=wA hFH hc hn e
  exact h a C _ _ e2 (q.same sm)
theorem aIA{body:List Stmt}{fb:Sg->R Fw}(hb:S.body=.stmts body)(Sc:CloScope N ps fr S.scope)(hbi:∀ (cl:List (Str×Addr)) (doc pm:Value) (cc:Addr) (ct:Value) (us:List Value),us.length=ps.length->bindArgs (S.fd cl doc pm cc ct) ⟨us,[]⟩=pure (ps.zip us))
  (hbody:∀ (f cc:Addr) (cl:List (Str×Addr)) (A:Around) (outer:List Env) (s:Shared) (H F:Hp) (E E':XK),Room k (A.deeper (cF S.qual S.scope s.heap.objs.size f (.ref cc) cl))->
   k7 ((iP (CXe P w) P w K mg base N fr S.qual S.scope f (.ref cc) cl A outer s H E').fly E) ⟨K,mg,w,F,hid (aX fr cl) H,gOf P w K mg base T,(cF S.qual S.scope s.heap.objs.size f (.ref cc) cl).cells,fun _=>none⟩ E body fb) :
  CloOk P w K mg base T S fr (k+1) ps.length (oI N.length fb):=by
 intro F0 F1 caps cvs f cl doc pm ct cc hT0 hcap h01 hf hcc C hno
 refine ⟨S.fd cl doc pm cc ct,ps,rfl,.all (hbi cl doc pm cc ct),⟨fun vs H Q E h=>?_,fun A outer s H args us vs Q E hr e0 hbn rv hsp=>?_⟩,.inr ⟨_,_,_,_,hf⟩⟩
 ·obtain ⟨F,ds,_,_,_,h1,h2,_⟩:=h
  rw[h1.length,h2]
 ·obtain ⟨F,ds,h1,h2,h3,h4,h5,h6⟩:=hsp
  obtain ⟨hc,a1,a2,a3⟩:=aAM hT0 hcap h01 h1 h3 C hno h4
  refine zU hb (h3 _ _ (h1 _ _ hf)) (h3 _ _ (h1 _ _ hcc)) Sc (C.same fun b o z=>h3 b o (h1 b o z)) hr e0 hbn rv (by rw[h4.length,h5]) fun hr'=>⟨_,hbody f cc cl A outer s H (hid (aX fr cl) F) _ E hr',?_⟩
  have h7:=aFH (P:=P) (w:=w) (base:=base) (T:=T) (r:=fnF N.length fb (ds.map .d++caps)) h3 hc h6
  refine nV (n:=N.length) (fb:=fb) (Q:=fun v H'=>(∀ a∈aX fr cl,H' a=none)->Q v (shw (aX fr cl) H H')) (E:=fun c e H'=>(∀ a∈aX fr cl,H' a=none)->E c e (shw (aX fr cl) H H')) a1 a2 a3 ?_
  cases e:fnF N.length fb (ds.map .d++caps) with
  | bad=>rw[e] at h7;exact h7
  | ok a=>rw[e] at h7;exact h7
  | ex x=>rw[e] at h7;exact h7
end
end Fl
namespace Fl
open PySem L2 PyProof.Rows
def mI(c:Ct)(F:Hp)(S:ClSt)(v:V):Prop:=∃ f cl doc pm cc ct,v=.ref f/\F f=some (FnO f (S.obj cl doc pm cc ct))/\F cc=some (.cod S.qual)/\ClOf c.cells S.scope cl
theorem mI.same{c:Ct}{F F':Hp}{S:ClSt}{v:V}(s:aG F F'):mI c F S v->mI c F' S v:=by
 rintro ⟨f,cl,doc,pm,cc,ct,h1,h2,h3,h4⟩
 exact ⟨f,cl,doc,pm,cc,ct,h1,s _ _ h2,s _ _ h3,h4⟩
theorem aFI{c:Ct}{S:ClSt}{P0:Addr}{qs:List (Pos×Str)}{cells:List (Str×Addr)}{ρ:Sg}{σ:L2.St}{F H:Hp}{Q:VK}(hcl:cells=c.cells)(hT:c.g.T P0=some (.tbl qs))(ab:Ab c ρ σ F H)(h:∀ v F' H',Ext F H F' H'->mI c F' S v->Q v H'):tMk cells S P0 qs σ H Q:=by
 subst hcl
 refine ⟨ab.fh _ _ (ab.f0 _ _ (ab.t0 _ _ hT)),fun f cc cl doc pm ct H1 hm hn hco=>?_⟩
 have e1:∃ F1,Ext F H F1 H1/\F1 cc=some (.cod S.qual):=by
  rcases hm with ⟨q,rfl⟩|⟨q,rfl⟩
  ·refine ⟨upd F cc (.cod S.qual),⟨bK _,fun a o z=>?_,fun a o z=>?_,fun a z n=>?_⟩,aU⟩
   ·by_cases w:a=cc
    ·subst w
     have:=ab.fh a o z
     rw[q] at this;cases this
     exact aU
    ·rw[aI w];exact z
   ·by_cases w:a=cc
    ·subst w;rw[aU] at z;rw[q];exact z
    ·rw[aI w] at z;exact ab.fh a o z
   ·by_cases w:a=cc
    ·subst w;exact .inr ⟨_,q⟩
    ·rw[aI w] at n;exact absurd z n
  ·exact ⟨upd F cc (.cod S.qual),Ext.new ab.fh q,aU⟩
 obtain ⟨F1,e1,hc1⟩:=e1
 have e2:Ext F1 H1 (upd F1 f (FnO f (S.obj cl doc pm cc ct))) (upd H1 f (FnO f (S.obj cl doc pm cc ct))):=Ext.new e1.fh hn
 exact h (.ref f) _ _ (e1.trans e2) ⟨f,cl,doc,pm,cc,ct,rfl,aU,e2.ff _ _ hc1,hco⟩
noncomputable def yH(i:Nat)(q:Str):Sg->R Fw:=fun ρ=>.ok (.nx (ρ.set i (some (.k q))))
theorem aFJ{X:Cx}{c:Ct}{E:XK}{st:Stmt}{i:Nat}{q:Str}{S:ClSt}{P0:Addr}{qs:List (Pos×Str)}{cells:List (Str×Addr)}(hcl:cells=c.cells)(hS:c.cls q=some S)(hT:c.g.T P0=some (.tbl qs))(h:PS X st (kW (tMk cells S P0 qs) (jE i))):PSf X c E st (yH i q):=PS.imp h fun D σ H zz0=>by
 obtain ⟨ρ,F,ab,k⟩:=zz0
 refine aFI hcl hT ab fun v F' H' e hc=>?_
 exact Rk.ok k _ F' H' e.ff ((ab.ext e).setF (a:=.k q) (let ⟨f,cl,doc,pm,cc,ct,h⟩:=hc;⟨S,f,cl,doc,pm,cc,ct,hS,h⟩) fun z=>nomatch z)
noncomputable def sH:Option (Option A)->Option A
 | some (some (.d x))=>some (.d x)
 | some (some (.x e))=>some (.x e)
 | some (some (.g k n G))=>some (.g k n G)
 | _=>none
noncomputable def fW:List Nat->Sg->Option (List A)
 | [],_=>some []
 | j::js,ρ=>match sH ρ[j]?,fW js ρ with
  | some a,some as=>some (a::as)
  | _,_=>none
theorem pI{o:Option (Option A)}{a:A}(h:sH o=some a):o=some (some a)/\∀ {c:Ct} {F H:Hp} {v:V},AO c F H a v->AF c.g c.K c.mg F a v:=by
 unfold sH at h
 split at h<;>cases h
 · exact ⟨rfl, fun z => z⟩
 · exact ⟨rfl, fun z => z⟩
 · exact ⟨rfl, fun z => z⟩
theorem wB{c:Ct}{ρ:Sg}{σ:L2.St}{F H:Hp}(ab:Ab c ρ σ F H):∀ {js:List Nat} {caps:List A},fW js ρ=some caps->∃ cvs,AFs c.g c.K c.mg F caps cvs/\cvs.length=js.length/\∀ (i:Nat) j,js[i]? = some j->∃ v,cvs[i]? = some v/\σ[j]? = some (some v)
 | [],_,h=>by cases h;exact ⟨[],trivial,rfl,fun i j z=>by simp at z⟩
 | j::js,caps,h=>by
  unfold fW at h
  split at h
  ·rename_i a as h1 h2
   cases h
   obtain ⟨cvs,r,l,g⟩:=wB ab h2
   obtain ⟨q1,q2⟩:=pI h1
   obtain ⟨v,hv,hA⟩:=ab.slot j a q1
   refine ⟨v::cvs,⟨q2 hA,r⟩,by simp[l],fun i j' e=>?_⟩
   cases i with
   | zero=>simp at e;subst e;exact ⟨v,rfl,hv⟩
   | succ i=>obtain ⟨v',a1,a2⟩:=g i j' (by simpa using e);exact ⟨v',by simpa using a1,a2⟩
  ·cases h
def t5(X:Cx)(T:Hp)(c:Ct)(js:List Nat)(ρ:Sg)(F:Hp)(a:A)(v:V):Prop:=AF c.g c.K c.mg F a v \/
 ∃ S fr sl k n Gm caps,a=.g k n (Gm caps)/\mI c F S v/\CloOk X.prog X.w X.K X.mg X.base T S fr k n Gm/\(∀ y,(y,NameKind.free)∈S.scope.names->y∈fr)/\(∀ y∈fr,(y,NameKind.free)∈S.scope.names)/\sl.map (fun j=>X.N[j]?)=fr.map some/\(∀ j∈sl,j∈js)/\fW sl ρ=some caps
theorem t5.same{X:Cx}{T:Hp}{c:Ct}{js:List Nat}{ρ:Sg}{F F':Hp}{a:A}{v:V}(s:aG F F')(h:t5 X T c js ρ F a v):t5 X T c js ρ F' a v:=by
 rcases h with h|⟨S,fr,sl,k,n,Gm,caps,h1,h2,h3⟩
 · exact .inl (AF.same s h)
 · exact .inr ⟨S, fr, sl, k, n, Gm, caps, h1, h2.same s, h3⟩
def yI(X:Cx)(T:Hp)(c:Ct)(js:List Nat)(ρ:Sg)(F:Hp):List A->List V->Prop
 | [],[]=>True
 | a::as,v::vs=>t5 X T c js ρ F a v/\yI X T c js ρ F as vs
 | _,_=>False
def tK1(X:Cx)(T:Hp)(c:Ct)(js:List Nat)(E:XK)(f:Sg->R A):TE:=fun σ H Q=>∃ ρ F,Ab c ρ σ F H/\Rk c E F H (f ρ) fun a=>∀ v F' H',Ext F H F' H'->t5 X T c js ρ F' a v->Q v H'
def tKs(X:Cx)(T:Hp)(c:Ct)(js:List Nat)(E:XK)(f:Sg->R (List A)):TA:=fun σ H Q=>∃ ρ F,Ab c ρ σ F H/\Rk c E F H (f ρ) fun as=>∀ vs F' H',Ext F H F' H'->yI X T c js ρ F' as vs->Q vs H'
section
variable{X:Cx}{T:Hp}{c:Ct}{js:List Nat}{E:XK}{e:Expr}{es:List Expr}
theorem aD3{f:Sg->R A}(h:PV X c E e f):PE X e (tK1 X T c js E f):=PE.imp h fun σ H Q ⟨ρ,F,ab,k⟩=>⟨ρ,F,ab,k.imp fun a _ q v F' H' e1 r=>q v F' H' e1 (.inl r)⟩
def sI(q:Str)(sl:List Nat)(k n:Nat)(Gm:List A->List PyData->R PyData)(i:Nat):Sg->R A:=fun ρ=>match ρ[i]?,fW sl ρ with
 | some (some (.k q')),some caps=>if q'=q then .ok (.g k n (Gm caps)) else .bad
 | _,_=>.bad
theorem aFK{q:Str}{S:ClSt}{fr:List Str}{sl:List Nat}{k n i:Nat}{Gm:List A->List PyData->R PyData}(hS:c.cls q=some S)(M:CloOk X.prog X.w X.K X.mg X.base T S fr k n Gm)(h1:∀ y,(y,NameKind.free)∈S.scope.names->y∈fr)(h2:∀ y∈fr,(y,NameKind.free)∈S.scope.names)
  (h3:sl.map (fun j=>X.N[j]?)=fr.map some) (h4:∀ j∈sl,j∈js) (h:PE X e (fQ i)):PE X e (tK1 X T c js E (sI q sl k n Gm i)):=PE.imp h fun σ H Q ⟨ρ,F,ab,k⟩=>by
 unfold sI at k
 split at k
 ·rename_i q' caps hi hc
  by_cases hq:q'=q
  ·rw[if_pos hq] at k
   subst hq
   obtain ⟨v,hv,S',f,cl,doc,pm,cc,ct,h0,hA⟩:=ab.slot i _ hi
   rw[hS] at h0;cases h0
   have hA:mI c F S v:=⟨f,cl,doc,pm,cc,ct,hA⟩
   exact ⟨v,hv,Rk.ok k v F H (Ext.refl ab.fh) (.inr ⟨_,fr,sl,_,_,Gm,caps,rfl,hA,M,h1,h2,h3,h4,hc⟩)⟩
  ·rw[if_neg hq] at k;exact k.elim
 ·exact k.elim
def aLC(sl:List Nat)(k n:Nat)(Gm:List A->List PyData->R PyData):Sg->R A:=fun ρ=>match fW sl ρ with
 | some caps=>.ok (.g k n (Gm caps))
 | none=>.bad
theorem aFL:PA X [] (tKs X T c js E aK):=PA.imp aJ fun σ H Q ⟨ρ,F,ab,k⟩=>Rk.ok k [] F H (Ext.refl ab.fh) trivial
end
end Fl
namespace Fl
open PySem L2 PyProof.Rows
section
variable{X:Cx}{T:Hp}{c:Ct}{js:List Nat}{E:XK}{e:Expr}{es:List Expr}
theorem oJ{f:Sg->R A}{g:Sg->R (List A)}(h:PE X e (tK1 X T c js E f))(h2:PA X es (tKs X T c js E g))(hs:starEach (e::es) X.env=(false,eval e X.env)::starEach es X.env:=by rfl):PA X (e::es) (tKs X T c js E (aA f g)):=PA.imp (aF h h2 hs) fun σ H Q zz0=>by
 obtain ⟨ρ,F,ab,k⟩:=zz0
 refine ⟨ρ,F,ab,(Rk.bind k).imp fun x _ q v F1 H1 s1 r1=>⟨ρ,F1,ab.ext s1,((Rk.bind q).ext s1).imp fun xs _ q vs F2 H2 s2 r2=>?_⟩⟩
 exact Rk.ok q (v::vs) F2 H2 (s1.trans s2) ⟨r1.same s2.ff,r2⟩
theorem t6:∀ {js:List Nat} {ρ:Sg} {caps:List A},fW js ρ=some caps->∀ j∈js,∃ a,ρ[j]? = some (some a)
 | [],_,_,_,j,hj=>by simp at hj
 | i::js,ρ,caps,h,j,hj=>by
  unfold fW at h
  split at h
  ·rename_i a as h1 h2
   rcases List.mem_cons.mp hj with z|z
   · subst z; exact ⟨a, (pI h1).1⟩
   · exact t6 h2 j z
  ·cases h
theorem aFM{α:Type}{N:List α}{sl:List Nat}{fr:List α}(h:sl.map (fun j=>N[j]?)=fr.map some):sl.length=fr.length/\∀ (i:Nat) x,fr[i]? = some x->∃ j,sl[i]? = some j/\N[j]? = some x:=by
 have hl:sl.length=fr.length:=by have:=congrArg List.length h;simpa using this
 refine ⟨hl,fun i x e=>?_⟩
 have hi:i < fr.length:=(List.getElem?_eq_some_iff.mp e).1
 have h2:(sl.map (fun j=>N[j]?))[i]? = (fr.map some)[i]?:=by rw[h]
 rw[List.getElem?_map,List.getElem?_map,e,List.getElem?_eq_getElem (by omega)] at h2
 exact ⟨sl[i],List.getElem?_eq_getElem _,Option.some.inj h2⟩
theorem aCP{S:ClSt}{fr:List Str}{sl:List Nat}{k n:Nat}{Gm:List A->List PyData->R PyData}{caps:List A}{ρ:Sg}{σ:L2.St}{F H:Hp}{cv:Cv}{v:V}(hG:c.g=gOf X.prog X.w X.K X.mg X.base T)(hK:X.K=c.K)(hM:X.mg=c.mg)(hcl:X.env.cells=c.cells)(ab:Ab c ρ σ F H)(R:PubRel X σ H js cv)
  (hA:mI c F S v) (M:CloOk X.prog X.w X.K X.mg X.base T S fr k n Gm) (h1:∀ y,(y,NameKind.free)∈S.scope.names->y∈fr) (h2:∀ y∈fr,(y,NameKind.free)∈S.scope.names)
  (h3:sl.map (fun j=>X.N[j]?)=fr.map some) (h4:∀ j∈sl,j∈js) (hc:fW sl ρ=some caps):AF c.g c.K c.mg (pub cv F) (.g k n (Gm caps)) v:=by
 obtain ⟨f,cl,doc,pm,cc,ct,rfl,q1,q2,q3⟩:=hA
 obtain ⟨cvs,r,l,gt⟩:=wB ab hc
 obtain ⟨l3,g3⟩:=aFM h3
 have hdF:∀ b∈cK cv,F b=none:=fun b hb=>bG ab.fh (R.free b hb)
 have hs:aG F (pub cv F):=iG hdF
 have key:∀ (i:Nat) x v,fr[i]? = some x->cvs[i]? = some v->∃ a o,cl.lookup x=some a/\cv.lookup a=some (o,v):=fun i x v e1 e2=>by
  obtain ⟨j,e3,e4⟩:=g3 i x e1
  obtain ⟨v',e5,e6⟩:=gt i j e3
  rw[e2] at e5;cases e5
  obtain ⟨x',a,o,v2,e7,e8,e9,e10⟩:=R.all j (h4 j (List.mem_of_getElem? e3))
  rw[e4] at e7;cases e7
  rw[e6] at e9;cases e9
  obtain ⟨a',e11⟩:=q3.all (x,.free) (h2 x (List.mem_of_getElem? e1)) rfl
  have e12:=q3.of _ _ e11
  rw[<-hcl] at e12
  have e12':X.env.cells.lookup x=some a':=e12
  rw[e8] at e12';cases e12'
  exact ⟨a,o,e11,e10⟩
 refine ⟨f,pub cv F,rfl,bK _,?_⟩
 rw[hG]
 refine M F (pub cv F) caps cvs f cl doc pm ct cc (fun a o z=>ab.f0 a o (ab.t0 a o (by rw[hG];exact z))) (by rw[hK,hM,<-hK,<-hM];rw[hG] at r;rw[<-hK,<-hM] at r;exact r) hs (hs _ _ q1) (hs _ _ q2) ⟨l.trans l3,fun n c e=>h1 n (q3.only n c e),fun n n' c e e'=>R.inj n n' c (by rw[hcl];exact q3.of _ _ e) (by rw[hcl];exact q3.of _ _ e'),fun i x v e1 e2=>?_⟩ fun a ha=>?_
 ·obtain ⟨a,o,e3,e4⟩:=key i x v e1 e2
  exact ⟨a,o,e3,mZ e4⟩
 ·obtain ⟨x,hx,e⟩:=List.mem_filterMap.mp ha
  obtain ⟨i,hi,hxi⟩:=List.mem_iff_getElem.mp hx
  obtain ⟨a',o,e3,e4⟩:=key i x (cvs[i]'(by rw[l,l3];exact hi)) (by rw[List.getElem?_eq_getElem hi,hxi]) (List.getElem?_eq_getElem _)
  rw[e] at e3;cases e3
  exact hdF a (fE.mpr ⟨_,e4⟩)
theorem rS{ρ:Sg}{σ:L2.St}{F H:Hp}{cv:Cv}(hG:c.g=gOf X.prog X.w X.K X.mg X.base T)(hK:X.K=c.K)(hM:X.mg=c.mg)(hcl:X.env.cells=c.cells)(ab:Ab c ρ σ F H)(R:PubRel X σ H js cv):∀ {as:List A} {vs:List V},yI X T c js ρ F as vs->AFs c.g c.K c.mg (pub cv F) as vs
 | [],[],_=>trivial
 | a::as,v::vs,h=>by
  refine ⟨?_,rS hG hK hM hcl ab R h.2⟩
  rcases h.1 with q|⟨S,fr,sl,k,n,Gm,caps,rfl,q1,q2,q3,q4,q5,q6,q7⟩
  · exact AF.same (iG fun b hb => bG ab.fh (R.free b hb)) q
  · exact aCP hG hK hM hcl ab R q1 q2 q3 q4 q5 q6 q7
def pJ(js:List Nat)(n:Nat)(G:List A->R A)(f:Sg->R (List A)):Sg->R A:=fun ρ=>match fW js ρ with
 | some _=>(f ρ).bind fun as=>if as.length=n then (dOf (G as)).bind fun x=>.ok (.d x) else .bad
 | none=>.bad
theorem aIB{n:Nat}{G:List A->R A}{g:Gb}{K:Frag}{mg:Str->Option Value}{f:Sg->R (List A)}(hG:c.g=gOf X.prog X.w X.K X.mg X.base T)(hK:X.K=c.K)(hM:X.mg=c.mg)(hcl:X.env.cells=c.cells)(hg:g=c.g)(hk:K=c.K)(hm:mg=c.mg)
  (hcs:∀ j∈js,∃ x,X.N[j]? = some x/\X.env.kindOf x=some .cell/\X.fn x=true) (h:PE X e (zY X js (spF g K mg n G) E (tKs X T c js E f))):PV X c E e (pJ js n G f):=PE.imp h fun σ H Q ⟨ρ,F,ab,k⟩=>by
 subst hg hk hm
 unfold pJ at k
 split at k
 ·rename_i caps hc
  refine ⟨ρ,F,ab,(Rk.bind k).imp fun as _ q vs F1 H1 e1 r1=>⟨fun j hj=>?_,fun cv R=>?_⟩⟩
  ·obtain ⟨x,a1,a2,a3⟩:=hcs j hj
   obtain ⟨a,ha⟩:=t6 hc j hj
   obtain ⟨v,hv,_⟩:=ab.slot j a ha
   exact ⟨x,v,a1,a2,a3,hv⟩
  ·by_cases hn:as.length=n
   ·rw[if_pos hn] at q
    have ab1:=ab.ext e1
    have hdF:∀ b∈cK cv,F1 b=none:=fun b hb=>bG e1.fh (R.free b hb)
    refine ⟨pub cv F1,as,fun a o z=>iG hdF a o (e1.ff a o (ab.f0 a o (ab.t0 a o z))),aCO e1.fh,rS hG hK hM hcl ab1 R r1,hn,?_⟩
    cases hgg:G as with
    | bad=>rw[hgg] at q;exact q
    | ok a=>
     rw[hgg] at q
     cases a with
     | d x=>
      intro v F2 H2 e2 r2
      exact Rk.ok q v _ _ (e1.trans (rR R.free e1.fh e2)) (v4 (tZ e2.ff) r2)
     | l xs=>exact False.elim q
     | m xs=>exact False.elim q
     | x xs=>exact False.elim q
     | g k n f=>exact False.elim q
     | k S=>exact False.elim q
     | f S=>exact False.elim q
    | ex x=>
     rw[hgg] at q
     intro a C F2 H2 e2 r2
     obtain ⟨q1,q2⟩:=aCN (tZ e2.ff) r2
     exact ⟨q a C _ _ ((ab.all.trans e1).trans (rR R.free e1.fh e2)) q1,fun b hb=>by cases hb;exact q2⟩
   ·rw[if_neg hn] at q;exact q.elim
 ·exact k.elim
end
section
variable{P:Program}{w:World}{K:Frag}{mg:Str->Option Value}{base:Heap}{T:Hp}
def gF(G:List A->R A):List PyData->R PyData:=fun ds=>dOf (G (ds.map .d))
theorem aAN{k:Nat}{x:Str}{ps:List Str}{G:List A->R A}(C:bB P w K mg base T k x ps G):∃ f,mg x=some (.ref f)/\∀ F1,Beh P w K mg base T f F1 k ps.length (gF G):=by
 obtain ⟨f,fd,F,b,m,kp⟩:=C
 refine ⟨f,m,fun F1=>⟨fd,ps,rfl,b,F.imp fun vs H Q E h=>?_,.inl kp⟩⟩
 obtain ⟨F,ds,_,h2,h3,h4,h5,h6⟩:=h
 refine ⟨F,ds.map .d,h2,h3,AFs.data h4,by simpa using h5,?_⟩
 unfold gF at h6
 cases e:G (ds.map .d) with
 | bad=>rw[e] at h6;exact h6
 | ok a=>
  rw[e] at h6
  cases a with
  | d x=>exact h6
  | l xs=>exact False.elim h6
  | m xs=>exact False.elim h6
  | x xs=>exact False.elim h6
  | g k n f=>exact False.elim h6
  | k S=>exact False.elim h6
  | f S=>exact False.elim h6
 | ex x=>rw[e] at h6;exact h6
def yJ(k n:Nat)(G:List A->R A):Sg->R A:=fun _=>.ok (.g k n (gF G))
theorem aFN{X:Cx}{c:Ct}{E:XK}{k:Nat}{x:Str}{ps:List Str}{G:List A->R A}{p:Pos}(hG:c.g=gOf X.prog X.w X.K X.mg X.base T)(C:bB X.prog X.w X.K X.mg X.base T k x ps G)(hg:Gl X x)(hdb:(x == ("__debug__":Str))=false:=by decide):PV X c E (.Name x p) (yJ k ps.length G):=by
 obtain ⟨f,m,B⟩:=aAN C
 exact PE.imp (aEH (v:=.ref f) hg m rfl hdb) fun σ H Q ⟨ρ,F,ab,k⟩=>Rk.ok k (.ref f) F H (Ext.refl ab.fh) ⟨f,F,rfl,bK F,by rw[hG];exact B F⟩
structure DefAtT(K:Frag)(mg:Str->Option Value)(base:Heap)(T:Hp)(qs:List (Pos×Str))(x:Str)(st:Stmt)(ps:List Str):Prop where
 ex:∃ f oc od kV doc pm an c0 ct osl P0,K.lookup f=some ⟨oc,od,.func (PySem.W.fnOf x x (fD st) (cO st) (aM st) .none kV doc pm an (.ref c0) ct),osl⟩/\PySem.W.codeIn K (.ref c0) x=true/\PySem.W.keepIn K (.ref f)=true /\
  gJ K (PySem.W.fnOf x x (fD st) (cO st) (aM st) .none kV doc pm an (.ref c0) ct) ps []/\mg x=some (.ref f)/\Tb mg base c0 P0/\T P0=some (.tbl qs)
theorem aLD{h:Heap}{qs:List (Pos×Str)}{xs:List Str}{x:Str}{st:Stmt}{ps:List Str}(D:DefAt K mg x st ps)(KX:K.In h)(TL:sZ mg h base T qs xs)(hx:x∈xs):DefAtT K mg base T qs x st ps:=by
 obtain ⟨f,fd,F,b,m⟩:=D.ex
 obtain ⟨oc,od,kV,doc,pm,an,cdv,ct,osl,rfl,lk,hcd⟩:=F.ex
 obtain ⟨c0,P0,t1,t2,t3⟩:=TL x hx
 have e:cdv=.ref c0:=t3 f _ _ m (KX _ _ lk) rfl
 subst e
 exact ⟨f,oc,od,kV,doc,pm,an,c0,ct,osl,P0,lk,hcd,F.kp,b,m,t2,t1⟩
theorem aFO{x:Str}{st:Stmt}{N ps:List Str}{k:Nat}{qs:List (Pos×Str)}{cls:Str->Option ClSt}{fb:Sg->R Fw}(D:DefAtT K mg base T qs x st ps)(S:FnScope N ps (aM st))
  (hbody:∀ (f c0 P0:Addr) (A:Around) (outer:List Env) (s:Shared) (H F:Hp) (E:XK),Tb mg base c0 P0->T P0=some (.tbl qs)->Room k (A.deeper (envOfC x (aM st) s.heap.objs.size f (.ref c0)))->
   k7 ((gL (CXe P w) P w K mg base N x (aM st) f (.ref c0) A outer s H E).fly E) ⟨K,mg,w,F,H,gOf P w K mg base T,(envOfC x (aM st) s.heap.objs.size f (.ref c0)).cells,cls⟩ E (cO st) fb):bB P w K mg base T (k+1) x ps (fnF N.length fb):=by
 obtain ⟨f,oc,od,kV,doc,pm,an,c0,ct,osl,P0,lk,hcd,kp,b,m,t2,t1⟩:=D.ex
 refine ⟨f,_,xG lk hcd S (fun vs H Q E h=>?_) (fun A outer s H vs Q E hr h=>?_),b,m,kp⟩
 ·obtain ⟨F,as,_,_,h2,h3,_⟩:=h
  rw[h2.len,h3]
 ·obtain ⟨F,as,h0,h1,h2,h3,h4⟩:=h
  exact ⟨_,(hbody f c0 P0 A outer s H F E t2 t1 hr).unfly fun _ _ z=>rF z,nV h0 h1 h2 h4⟩
end
end Fl
namespace Fl
open PySem L2 PyProof.Rows
noncomputable def clS(q:Str):Stmt->ClSt
 | .FunctionDef x a b _ _ _ sc _ _ _=>⟨x,q,a,.stmts b,sc⟩
 | s=>⟨"",q,fD s,.stmts [],aM s⟩
noncomputable def aLE:Stmt->Pos
 | .FunctionDef _ _ _ _ _ _ _ _ _ p=>p
 | _=>⟨0,0,0,0⟩
theorem aIC{X:Cx}:∀ j∈([]:List Nat),∃ x,X.N[j]? = some x/\X.env.kindOf x=some .cell/\X.fn x=true:=fun j h=>by simp at h
theorem wC{X:Cx}{i:Nat}{js:List Nat}(h:∃ x,X.N[i]? = some x/\X.env.kindOf x=some .cell/\X.fn x=true)(t:∀ j∈js,∃ x,X.N[j]? = some x/\X.env.kindOf x=some .cell/\X.fn x=true):∀ j∈i::js,∃ x,X.N[j]? = some x/\X.env.kindOf x=some .cell/\X.fn x=true:=fun j hj=>by
 rcases List.mem_cons.mp hj with z|z
 · subst z; exact h
 · exact t j z
end Fl
namespace Zp
open PySem
section
variable{prog:Program}{w:World}{A:Around}{E:Value->Shared->Prop}{s:Shared}
theorem oC{it t:Addr}{i:Nat}{items}{x:Value}{Q:Value->Shared->Prop}(hit:s.heap.IsTupleIter it t i)
  (ht:s.heap.IsTuple t items) (hx:items[i]? = some x) (hQ:∀ h',h'.IsTupleIter it t (i+1)->Heap.SameBut it s.heap h'->Q x {s with heap:=h'}) :
  wpAny (model prog w) A (Builtin.SmallTypes.nextOf (.ref it)) Q E s:=by
 obtain ⟨o,ho,hc,hd⟩:=id hit
 obtain ⟨ol,hol,_,nl,hdl⟩:=ht
 unfold Builtin.SmallTypes.nextOf
 refine wpAny_bind (wpAny_callSpecial?_slot (name:=Str.ofString "__next__") hit.typeIs F.slot_tuple_iterator_next
  (wpAny_call_entry F.slot_tuple_iterator_next hit.typeIs F.entry_tuple_iterator_next ?_ (F.args_tuple_iterator_next_1 _)))
 show wpAny _ _ (field (.ref it) 0 >>= _) _ _ s
 refine wpAny_bind (wpAny_field ho hd (x:=.ref t) rfl ?_)
 show wpAny _ _ (if (Value.ref t == Value.none)=true then _ else _) _ _ s
 rw[if_neg (show ¬ ((Value.ref t == Value.none)=true) from Bool.false_ne_true)]
 show wpAny _ _ (field (.ref it) 1 >>= _) _ _ s
 refine wpAny_bind (wpAny_field ho hd (x:=.int i 0) rfl ?_)
 show wpAny _ _ (seqItems? (.ref t) >>= _) _ _ s
 refine wpAny_bind (wpAny_seqItems hol hdl ?_)
 simp only[Int.toNat_natCast,hx]
 refine wpAny_bind (wpAny_setField ho hd (by simp) (wpAny_pure ⟨x,rfl,wpAny_pure (hQ _ ?_ (Heap.SameBut.update ..))⟩))
 exact ⟨_,Heap.get?_update_self _ ho (Obj.isFreed_of_fields (Obj.data_mapFields hd _)),(Obj.cls_mapFields ..).trans hc,by
  rw[Obj.data_mapFields hd];simp[rawInt]⟩
theorem oK{it t:Addr}{i:Nat}{items}{Q:Value->Shared->Prop}(hh:A.handled=none)
  (hit:s.heap.IsTupleIter it t i) (ht:s.heap.IsTuple t items) (hx:items[i]? = none)
  (hE:∀ h' e,Heap.ExtBut it s.heap h'->(∃ o,h'.get? e=some o/\o.cls=.type "StopIteration")->E (.ref e) {s with heap:=h'}) :
  wpAny (model prog w) A (Builtin.SmallTypes.nextOf (.ref it)) Q E s:=by
 obtain ⟨o,ho,hc,hd⟩:=id hit
 obtain ⟨ol,hol,_,nl,hdl⟩:=ht
 unfold Builtin.SmallTypes.nextOf
 refine wpAny_bind (wpAny_callSpecial?_slot (name:=Str.ofString "__next__") hit.typeIs F.slot_tuple_iterator_next
  (wpAny_call_entry F.slot_tuple_iterator_next hit.typeIs F.entry_tuple_iterator_next ?_ (F.args_tuple_iterator_next_1 _)))
 show wpAny _ _ (field (.ref it) 0 >>= _) _ _ s
 refine wpAny_bind (wpAny_field ho hd (x:=.ref t) rfl ?_)
 show wpAny _ _ (if (Value.ref t == Value.none)=true then _ else _) _ _ s
 rw[if_neg (show ¬ ((Value.ref t == Value.none)=true) from Bool.false_ne_true)]
 show wpAny _ _ (field (.ref it) 1 >>= _) _ _ s
 refine wpAny_bind (wpAny_field ho hd (x:=.int i 0) rfl ?_)
 show wpAny _ _ (seqItems? (.ref t) >>= _) _ _ s
 refine wpAny_bind (wpAny_seqItems hol hdl ?_)
 simp only[Int.toNat_natCast,hx]
 refine wpAny_bind (wpAny_rule (wpAny_bind (wpAny_setField ho hd (by simp) ?_)))
 show wpAny _ _ (newExc (.type "StopIteration") [] >>= _) _ _ _
 refine wpAny_bind ?_
 simp only[newExc,newTuple]
 refine wpAny_bind (wpAny_newObj_type ?_ (by size_fits))
 refine wpAny_bind (m:=firstArgMember _ _) (wpAny_of_eq (a:=Value.none) (by first|rfl|(simp only[firstArgMember];rfl)) ?_)
 refine wpAny_newObj_type ?_ (by size_fits)
 simp only[raiseNew]
 refine wpAny_bind (wpAny_handled ?_)
 first|rw[show A.in1.handled=none from hh]|rw[hh]
 refine wpAny_bind (wpAny_pure (wpAny_throw ?_))
 exact hE _ _ (((Heap.SameBut.update ..).extBut.push _).push _) ⟨_,Heap.get?_push_size _ rfl,rfl⟩
end
theorem vH{prog:Program}{w:World}{A:Around}(hh:A.handled=none)(it l:Addr)(hne:l≠it)(items:Array Value) :
  Draws prog w A it [it,l] items.size (fun i v=>items[i]? = some v) (fun i h=>h.IsTupleIter it l i/\h.IsTuple l items) where
 live:=fun _ _ st=>let ⟨o,ho,_⟩:=st.1;⟨o,ho⟩
 frame:=fun _ _ _ st hk=>⟨let ⟨o,ho,r⟩:=st.1;⟨o,hk it (by simp) o ho,r⟩,let ⟨o,ho,r⟩:=st.2;⟨o,hk l (by simp) o ho,r⟩⟩
 item:=fun i s Q E hi st hQ=>by
  refine oC st.1 st.2 (x:=items[i]) (by simp[hi]) fun h' hit' hs'=>?_
  exact hQ _ h' s.toks (by simp[hi]) ⟨hit',st.2.extBut hs'.extBut hne⟩ hs'
 done:=fun s Q E st hE=>oK hh st.1 st.2 (by simp) hE
structure Apart(z TI TO i1 i2:Addr)(f1 f2:List Addr):Prop where
 TIz:TI≠z
 TOz:TO≠z
 i1z:i1≠z
 i2z:i2≠z
 TITO:TI≠TO
 TIi1:TI≠i1
 TIi2:TI≠i2
 TOi1:TO≠i1
 TOi2:TO≠i2
 i12:i1≠i2
 z1:z∉f1
 z2:z∉f2
 t1:TO∉f1
 t2:TO∉f2
 i1f2:i1∉f2
 i2f1:i2∉f1
section
variable{prog:Program}{w:World}{A:Around}{E:Value->Shared->Prop}{s:Shared}
theorem aCQ{z TI TO i1 i2:Addr}{f1 f2:List Addr}{n1 n2 i:Nat}{P1 P2:Nat->Value->Prop}{S1 S2:Nat->Heap->Prop}{a b:Value}{Q:Value->Shared->Prop}(D:Apart z TI TO i1 i2 f1 f2)
  (D1:Draws prog w A i1 f1 n1 P1 S1) (D2:Draws prog w A i2 f2 n2 P2 S2)
  (hz:IsZip s.heap z TI TO .none) (hTI:IsPair s.heap TI (.ref i1) (.ref i2)) (hTO:IsPair s.heap TO a b) (h1:S1 i s.heap) (h2:S2 i s.heap) (l1:i < n1) (l2:i < n2)
  (hQ:∀ x y h' tk,P1 i x->P2 i y->IsZip h' z TI TO (rawInt s.heap.objs.size)->IsPair h' TO x y->S1 (i+1) h'->S2 (i+1) h'->IsPair h' s.heap.objs.size x y->h'.objs.size=s.heap.objs.size+1->
   (∀ c o,c≠z->c≠TO->c≠i1->c≠i2->s.heap.get? c=some o->h'.get? c=some o)->Q (.ref s.heap.objs.size) {s with heap:=h',toks:=tk}) :
  wpAny (model prog w) A (Builtin.«zip.__next__» ⟨[.ref z],[]⟩) (fun fin s'=>∃ v,fin=.done (.ret v)/\Q v s') E s:=by
 show wpAny _ _ (field (.ref z) 2 >>= _) _ _ _
 refine wpAny_bind (wpAny_field hz rfl (x:=.bool false) rfl ?_)
 show wpAny _ _ (field (.ref z) 3 >>= _) _ _ _
 refine wpAny_bind (wpAny_field hz rfl (x:=.ref TI) rfl ?_)
 refine wpAny_bind (wpAny_seqItems hTI rfl ?_)
 show wpAny _ _ (Builtin.SmallTypes.ownedTupleIsFree (.ref z) >>= _) _ _ _
 refine wpAny_bind ?_
 unfold Builtin.SmallTypes.ownedTupleIsFree
 refine wpAny_bind (wpAny_field hz rfl (x:=.none) rfl (wpAny_pure ?_))
 simp only[if_true]
 refine wpAny_bind (wpAny_rule ?_)
 refine wpAny_bind (wpAny_field hz rfl (x:=.ref TO) rfl ?_)
 refine wpAny_bind (wpAny_setField_rec hz (by simp) fun h₁ hz₁ hs₁=>?_)
 replace hz₁:IsZip h₁ z TI TO .ellipsis:=hz₁
 refine wpAny_bind ?_
 simp only[List.zipIdx_cons,List.zipIdx_nil,List.forIn_cons,List.forIn_nil]
 have fr:∀ {f:List Addr} {c:Addr} {g g':Heap},Heap.SameBut c g g'->c∉f->∀ b∈f,∀ o,g.get? b=some o->g'.get? b=some o:=fun hs hc b hb o e=>hs.extBut _ _ (fun z=>hc (z▸hb)) e
 refine wpAny_bind (wpAny_bind (wpAny_onRaise ?_))
 show wpAny _ _ (Builtin.SmallTypes.nextOf (.ref i1) >>= _) _ _ _
 refine wpAny_bind (D1.item i {s with heap:=h₁} _ _ l1 (D1.frame _ _ _ h1 (fr hs₁ D.z1)) fun x h₂ tk1 px h1₂ hs₂=>wpAny_pure ?_)
 have hTO₂:IsPair h₂ TO a b:=hs₂.extBut _ _ D.TOi1 (hs₁.extBut _ _ D.TOz hTO)
 refine wpAny_bind (wpAny_seqItems hTO₂ rfl ?_)
 refine wpAny_bind (wpAny_updateSeq_pair hTO₂ fun h₃ hTO₃ hs₃=>?_)
 replace hTO₃:IsPair h₃ TO x b:=hTO₃
 refine wpAny_bind (wpAny_letGo (wpAny_pure ?_))
 refine wpAny_bind (wpAny_bind (wpAny_onRaise ?_))
 show wpAny _ _ (Builtin.SmallTypes.nextOf (.ref i2) >>= _) _ _ _
 refine wpAny_bind (D2.item i {s with heap:=h₃,toks:=tk1} _ _ l2 (D2.frame _ _ _ (D2.frame _ _ _ (D2.frame _ _ _ h2 (fr hs₁ D.z2)) (fr hs₂ D.i1f2)) (fr hs₃ D.t2)) fun y h₄ tk2 py h2₄ hs₄=>wpAny_pure ?_)
 have hs₄:Heap.SameBut i2 h₃ h₄:=hs₄
 have hs₂:Heap.SameBut i1 h₁ h₂:=hs₂
 have hTO₄:IsPair h₄ TO x b:=hs₄.extBut _ _ D.TOi2 hTO₃
 refine wpAny_bind (wpAny_seqItems hTO₄ rfl ?_)
 refine wpAny_bind (wpAny_updateSeq_pair hTO₄ fun h₅ hTO₅ hs₅=>?_)
 replace hTO₅:IsPair h₅ TO x y:=hTO₅
 refine wpAny_bind (wpAny_letGo (wpAny_pure (wpAny_pure ?_)))
 refine wpAny_bind (wpAny_seqItems hTO₅ rfl ?_)
 refine wpAny_bind (wpAny_newTuple ?_)
 have hsz:h₅.objs.size=s.heap.objs.size:=by rw[hs₅.1];show h₄.objs.size=_;rw[hs₄.1,hs₃.1];show h₂.objs.size=_;rw[hs₂.1,hs₁.1]
 have hs₃:Heap.SameBut TO h₂ h₃:=hs₃
 have hs₅:Heap.SameBut TO h₄ h₅:=hs₅
 have hz₅:IsZip h₅ z TI TO .ellipsis:=hs₅.extBut _ _ D.TOz.symm (hs₄.extBut _ _ D.i2z.symm (hs₃.extBut _ _ D.TOz.symm (hs₂.extBut _ _ D.i1z.symm hz₁)))
 have hk₅:∀ c o,c≠z->c≠TO->c≠i1->c≠i2->s.heap.get? c=some o->h₅.get? c=some o:=fun c o c1 c2 c3 c4 e=>
  hs₅.extBut _ _ c2 (hs₄.extBut _ _ c4 (hs₃.extBut _ _ c2 (hs₂.extBut _ _ c3 (hs₁.extBut _ _ c1 e))))
 have h1₅:S1 (i+1) h₅:=D1.frame _ _ _ (D1.frame _ _ _ (D1.frame _ _ _ h1₂ (fr hs₃ D.t1)) (fr hs₄ D.i2f1)) (fr hs₅ D.t1)
 have h2₅:S2 (i+1) h₅:=D2.frame _ _ _ h2₄ (fr hs₅ D.t2)
 have hzlt:z < h₅.objs.size:=Heap.lt_size hz₅
 show wpAny _ _ (Builtin.SmallTypes.ownedTupleHandOut (.ref z) (.ref h₅.objs.size) >>= _) _ _ _
 refine wpAny_bind ?_
 unfold Builtin.SmallTypes.ownedTupleHandOut
 have hz₆:IsZip (h₅.push {cls:=.type "tuple",data:=.seq #[x,y]}) z TI TO .ellipsis:=Heap.get?_push_of_some _ hz₅
 refine wpAny_bind (wpAny_setField_rec hz₆ (by simp) fun h₇ hz₇ hs₇=>?_)
 replace hz₇:IsZip h₇ z TI TO (rawInt h₅.objs.size):=hz₇
 refine wpAny_setField_rec hz₇ (by simp) fun h₈ hz₈ hs₈=>?_
 replace hz₈:IsZip h₈ z TI TO (rawInt h₅.objs.size):=hz₈
 have up:∀ c o,c≠z->h₅.get? c=some o->h₈.get? c=some o:=fun c o c1 e=>hs₈.extBut _ _ c1 (hs₇.extBut _ _ c1 (Heap.get?_push_of_some _ e))
 have hT₈:IsPair h₈ h₅.objs.size x y:=hs₈.extBut _ _ (Nat.ne_of_gt hzlt) (hs₇.extBut _ _ (Nat.ne_of_gt hzlt) (Heap.get?_push_size _ rfl))
 have hz8:h₈.objs.size=h₅.objs.size+1:=by rw[hs₈.1,hs₇.1,Heap.size_push]
 rw[hsz] at hz₈ hT₈ hz8
 refine wpAny_pure ⟨_,rfl,?_⟩
 show Q (.ref h₅.objs.size) _
 rw[hsz]
 exact hQ x y h₈ tk2 px py hz₈ (up _ _ D.TOz hTO₅) (D1.frame _ _ _ h1₅ fun b hb o e=>up b o (fun q=>D.z1 (q▸hb)) e) (D2.frame _ _ _ h2₅ fun b hb o e=>up b o (fun q=>D.z2 (q▸hb)) e) hT₈ hz8 fun c o c1 c2 c3 c4 e=>up c o c1 (hk₅ c o c1 c2 c3 c4 e)
theorem aFP{z TI TO i1 i2:Addr}{f1 f2:List Addr}{n1 n2 i:Nat}{P1 P2:Nat->Value->Prop}{S1 S2:Nat->Heap->Prop}{a b:Value}{Q:Fin->Shared->Prop}(D:Apart z TI TO i1 i2 f1 f2)
  (D1:Draws prog w A i1 f1 n1 P1 S1) (D2:Draws prog w A i2 f2 n2 P2 S2)
  (hz:IsZip s.heap z TI TO .none) (hTI:IsPair s.heap TI (.ref i1) (.ref i2)) (hTO:IsPair s.heap TO a b) (h1:S1 i s.heap) (h2:S2 i s.heap) (hend:i=n1\/(i < n1/\i=n2))
  (hE:∀ h' tk e,(∀ c o,c≠z->c≠TO->c≠i1->c≠i2->s.heap.get? c=some o->h'.get? c=some o)->(∃ o,h'.get? e=some o/\o.cls=.type "StopIteration")->E (.ref e) {s with heap:=h',toks:=tk}) :
  wpAny (model prog w) A (Builtin.«zip.__next__» ⟨[.ref z],[]⟩) Q E s:=by
 show wpAny _ _ (field (.ref z) 2 >>= _) _ _ _
 refine wpAny_bind (wpAny_field hz rfl (x:=.bool false) rfl ?_)
 show wpAny _ _ (field (.ref z) 3 >>= _) _ _ _
 refine wpAny_bind (wpAny_field hz rfl (x:=.ref TI) rfl ?_)
 refine wpAny_bind (wpAny_seqItems hTI rfl ?_)
 show wpAny _ _ (Builtin.SmallTypes.ownedTupleIsFree (.ref z) >>= _) _ _ _
 refine wpAny_bind ?_
 unfold Builtin.SmallTypes.ownedTupleIsFree
 refine wpAny_bind (wpAny_field hz rfl (x:=.none) rfl (wpAny_pure ?_))
 simp only[if_true]
 refine wpAny_bind (wpAny_rule ?_)
 refine wpAny_bind (wpAny_field hz rfl (x:=.ref TO) rfl ?_)
 refine wpAny_bind (wpAny_setField_rec hz (by simp) fun h₁ hz₁ hs₁=>?_)
 replace hz₁:IsZip h₁ z TI TO .ellipsis:=hz₁
 refine wpAny_bind ?_
 simp only[List.zipIdx_cons,List.zipIdx_nil,List.forIn_cons,List.forIn_nil]
 have fr:∀ {f:List Addr} {c:Addr} {g g':Heap},Heap.SameBut c g g'->c∉f->∀ b∈f,∀ o,g.get? b=some o->g'.get? b=some o:=fun hs hc b hb o e=>hs.extBut _ _ (fun z=>hc (z▸hb)) e
 refine wpAny_bind (wpAny_bind (wpAny_onRaise ?_))
 show wpAny _ _ (Builtin.SmallTypes.nextOf (.ref i1) >>= _) _ _ _
 rcases hend with rfl|⟨l1,rfl⟩
 ·refine wpAny_bind (D1.done {s with heap:=h₁} _ _ (D1.frame _ _ _ h1 (fr hs₁ D.z1)) fun h₂ e hs₂ he=>?_)
  obtain ⟨oe,hoe,hce⟩:=he
  have hz₂:IsZip h₂ z TI TO .ellipsis:=hs₂ _ _ D.i1z.symm hz₁
  have hez:e≠z:=fun x=>by subst x;rw[hz₂] at hoe;cases hoe;simp at hce
  refine wpAny_setField_rec hz₂ (by simp) fun h₃ _ hs₃=>hE h₃ s.toks e (fun c o c1 _ c3 _ x=>hs₃.extBut _ _ c1 (hs₂ _ _ c3 (hs₁.extBut _ _ c1 x))) ⟨oe,hs₃.extBut _ _ hez hoe,hce⟩
 ·refine wpAny_bind (D1.item i {s with heap:=h₁} _ _ l1 (D1.frame _ _ _ h1 (fr hs₁ D.z1)) fun x h₂ tk1 px h1₂ hs₂=>wpAny_pure ?_)
  have hs₂:Heap.SameBut i1 h₁ h₂:=hs₂
  have hTO₂:IsPair h₂ TO a b:=hs₂.extBut _ _ D.TOi1 (hs₁.extBut _ _ D.TOz hTO)
  refine wpAny_bind (wpAny_seqItems hTO₂ rfl ?_)
  refine wpAny_bind (wpAny_updateSeq_pair hTO₂ fun h₃ hTO₃ hs₃=>?_)
  have hs₃:Heap.SameBut TO h₂ h₃:=hs₃
  refine wpAny_bind (wpAny_letGo (wpAny_pure ?_))
  refine wpAny_bind (wpAny_bind (wpAny_onRaise ?_))
  show wpAny _ _ (Builtin.SmallTypes.nextOf (.ref i2) >>= _) _ _ _
  refine wpAny_bind (D2.done {s with heap:=h₃,toks:=tk1} _ _ (D2.frame _ _ _ (D2.frame _ _ _ (D2.frame _ _ _ h2 (fr hs₁ D.z2)) (fr hs₂ D.i1f2)) (fr hs₃ D.t2)) fun h₄ e hs₄ he=>?_)
  have hs₄:Heap.ExtBut i2 h₃ h₄:=hs₄
  obtain ⟨oe,hoe,hce⟩:=he
  have hz₄:IsZip h₄ z TI TO .ellipsis:=hs₄ _ _ D.i2z.symm (hs₃.extBut _ _ D.TOz.symm (hs₂.extBut _ _ D.i1z.symm hz₁))
  have hez:e≠z:=fun x=>by subst x;rw[hz₄] at hoe;cases hoe;simp at hce
  refine wpAny_setField_rec hz₄ (by simp) fun h₅ _ hs₅=>hE h₅ tk1 e (fun c o c1 c2 c3 c4 x=>hs₅.extBut _ _ c1 (hs₄ _ _ c4 (hs₃.extBut _ _ c2 (hs₂.extBut _ _ c3 (hs₁.extBut _ _ c1 x))))) ⟨oe,hs₅.extBut _ _ hez hoe,hce⟩
theorem aAO{z TI TO i1 i2:Addr}{f1 f2:List Addr}{n1 n2 i:Nat}{P1 P2:Nat->Value->Prop}{S1 S2:Nat->Heap->Prop}{a b:Value}{Q:Option Value->Shared->Prop}(D:Apart z TI TO i1 i2 f1 f2)
  (D1:Draws prog w A.in1 i1 f1 n1 P1 S1) (D2:Draws prog w A.in1 i2 f2 n2 P2 S2)
  (hz:IsZip s.heap z TI TO .none) (hTI:IsPair s.heap TI (.ref i1) (.ref i2)) (hTO:IsPair s.heap TO a b) (h1:S1 i s.heap) (h2:S2 i s.heap) (l1:i < n1) (l2:i < n2)
  (hQ:∀ x y h' tk,P1 i x->P2 i y->IsZip h' z TI TO (rawInt s.heap.objs.size)->IsPair h' TO x y->S1 (i+1) h'->S2 (i+1) h'->IsPair h' s.heap.objs.size x y->h'.objs.size=s.heap.objs.size+1->
   (∀ c o,c≠z->c≠TO->c≠i1->c≠i2->s.heap.get? c=some o->h'.get? c=some o)->Q (some (.ref s.heap.objs.size)) {s with heap:=h',toks:=tk}) :
  wpAny (model prog w) A (pyNext (.ref z)) Q E s:=by
 have hT:s.TypeIs (.ref z) "zip":=⟨_,hz,rfl⟩
 unfold pyNext
 exact wpAny_bind (wpAny_attempt (wpAny_callSpecial?_slot (name:=Str.ofString "__next__") hT F.slot_zip_next
  (wpAny_call_entry F.slot_zip_next hT F.entry_zip_next
   (aCQ D D1 D2 hz hTI hTO h1 h2 l1 l2 fun x y h' tk p1 p2 a1 a2 a3 a4 a5 a6 a7=>wpAny_pure (hQ x y h' tk p1 p2 a1 a2 a3 a4 a5 a6 a7)) (F.args_zip_next_1 _))))
theorem aCR{z TI TO i1 i2:Addr}{f1 f2:List Addr}{n1 n2 i:Nat}{P1 P2:Nat->Value->Prop}{S1 S2:Nat->Heap->Prop}{a b:Value}{Q:Option Value->Shared->Prop}(D:Apart z TI TO i1 i2 f1 f2)
  (D1:Draws prog w A.in1 i1 f1 n1 P1 S1) (D2:Draws prog w A.in1 i2 f2 n2 P2 S2)
  (hz:IsZip s.heap z TI TO .none) (hTI:IsPair s.heap TI (.ref i1) (.ref i2)) (hTO:IsPair s.heap TO a b) (h1:S1 i s.heap) (h2:S2 i s.heap) (hend:i=n1\/(i < n1/\i=n2))
  (hQ:∀ h' tk,(∀ c o,c≠z->c≠TO->c≠i1->c≠i2->s.heap.get? c=some o->h'.get? c=some o)->Q none {s with heap:=h',toks:=tk}):wpAny (model prog w) A (pyNext (.ref z)) Q E s:=by
 have hT:s.TypeIs (.ref z) "zip":=⟨_,hz,rfl⟩
 unfold pyNext
 refine wpAny_bind (wpAny_attempt (wpAny_callSpecial?_slot (name:=Str.ofString "__next__") hT F.slot_zip_next
  (wpAny_call_entry F.slot_zip_next hT F.entry_zip_next (aFP D D1 D2 hz hTI hTO h1 h2 hend fun h' tk e hk he=>?_) (F.args_zip_next_1 _))))
 obtain ⟨o,ho,hc⟩:=he
 refine wpAny_bind (wpAny_isInstance (T:="StopIteration") (b:=true) ⟨o,ho,hc⟩ isSubtype_stop ?_)
 exact wpAny_pure (hQ _ _ hk)
end
def j5(v:Value)(o:Obj)(h:Heap):Prop:=∀ (prog:Program) (w:World) (A:Around) (E:Value->Shared->Prop) (s:Shared) (Q:Value->Shared->Prop),s.heap=h->Q (.ref h.objs.size) {s with heap:=h.push o}->wpAny (model prog w) A (pyIter v) Q E s
noncomputable abbrev H2(h:Heap)(o1 o2:Obj):Heap:=(h.push o1).push o2
noncomputable abbrev H3(h:Heap)(o1 o2:Obj):Heap:=(H2 h o1 o2).push {cls:=.type "tuple",data:=.seq #[.ref h.objs.size,.ref (h.push o1).objs.size]}
noncomputable abbrev H4(h:Heap)(o1 o2:Obj):Heap:=(H3 h o1 o2).push {cls:=.type "tuple",data:=.seq #[.none,.none]}
noncomputable abbrev H5(h:Heap)(o1 o2:Obj):Heap:=(H4 h o1 o2).push {cls:=.type "zip",data:=.fields #[.none,.bool false,.bool false,.ref (H2 h o1 o2).objs.size,.ref (H3 h o1 o2).objs.size]}
theorem aAP(v1 v2:Value)(o1 o2:Obj) :
  Meets (Builtin.«zip.__new__» ⟨[.type "zip",v1,v2],[]⟩) (fun _ R s=>j5 v1 o1 s.heap/\j5 v2 o2 (s.heap.push o1) /\
   R (.ok (.ret (.ref (H4 s.heap o1 o2).objs.size))) {s with heap:=H5 s.heap o1 o2}):=
 .of_wp fun prog w A R s h=>by
  obtain ⟨hp,g,d,tk,os⟩:=s;obtain ⟨hl1,hl2,h⟩:=h
  have hsub:=sub_zip
  have p1:∀ {A:Around} {E:Value->Shared->Prop} {Q:Value->Shared->Prop},Q (.ref hp.objs.size) ⟨hp.push o1,g,d,tk,os⟩->wpAny (model prog w) A (pyIter v1) Q E ⟨hp,g,d,tk,os⟩:=fun hq=>hl1 prog w _ _ ⟨hp,g,d,tk,os⟩ _ rfl hq
  have p2:∀ {A:Around} {E:Value->Shared->Prop} {Q:Value->Shared->Prop},Q (.ref (hp.push o1).objs.size) ⟨(hp.push o1).push o2,g,d,tk,os⟩->wpAny (model prog w) A (pyIter v2) Q E ⟨hp.push o1,g,d,tk,os⟩:=fun hq=>hl2 prog w _ _ ⟨hp.push o1,g,d,tk,os⟩ _ rfl hq
  wp_walk using p1,p2
  exact ⟨_,rfl,h⟩
end Zp
namespace Zp
open PySem
section
variable{prog:Program}{w:World}{A:Around}{E:Value->Shared->Prop}{s:Shared}
theorem aCS{v1 v2:Value}{o1 o2:Obj}{Q:Value->Shared->Prop}(h1:j5 v1 o1 s.heap)(h2:j5 v2 o2 (s.heap.push o1))(f1:o1.isFreed=false)(f2:o2.isFreed=false)
  (h:∀ h',IsZip h' (s.heap.objs.size+4) (s.heap.objs.size+2) (s.heap.objs.size+3) .none->IsPair h' (s.heap.objs.size+2) (.ref s.heap.objs.size) (.ref (s.heap.objs.size+1))->
   IsPair h' (s.heap.objs.size+3) .none .none->h'.get? s.heap.objs.size=some o1->h'.get? (s.heap.objs.size+1)=some o2->h'.objs.size=s.heap.objs.size+5->
   (∀ c o,s.heap.get? c=some o->h'.get? c=some o)->Q (.ref (s.heap.objs.size+4)) {s with heap:=h'}) :
  wpAny (model prog w) A (call (.type "zip") [v1,v2]) Q E s:=by
 refine callType_new F.called_zip (by decide) (F.typeCall_zip_2 _ _) (F.newCall_zip_2 _ _) (fun obj=>F.args_object_init_3 obj _ _) F.entry_zip_new
  (aAP v1 v2 o1 o2) ⟨h1,h2,?_⟩
 have z1:(s.heap.push o1).objs.size=s.heap.objs.size+1:=Heap.size_push ..
 have z2:(H2 s.heap o1 o2).objs.size=s.heap.objs.size+2:=by rw[Heap.size_push,z1]
 have z3:(H3 s.heap o1 o2).objs.size=s.heap.objs.size+3:=by rw[Heap.size_push,z2]
 have z4:(H4 s.heap o1 o2).objs.size=s.heap.objs.size+4:=by rw[Heap.size_push,z3]
 have z5:(H5 s.heap o1 o2).objs.size=s.heap.objs.size+5:=by rw[Heap.size_push,z4]
 have g5:(H5 s.heap o1 o2).get? (H4 s.heap o1 o2).objs.size=some _:=Heap.get?_push_size _ rfl
 have g4:(H5 s.heap o1 o2).get? (H3 s.heap o1 o2).objs.size=some _:=Heap.get?_push_of_some _ (Heap.get?_push_size _ rfl)
 have g3:(H5 s.heap o1 o2).get? (H2 s.heap o1 o2).objs.size=some _:=Heap.get?_push_of_some _ (Heap.get?_push_of_some _ (Heap.get?_push_size _ rfl))
 have g2:(H5 s.heap o1 o2).get? (s.heap.push o1).objs.size=some o2:=Heap.get?_push_of_some _ (Heap.get?_push_of_some _ (Heap.get?_push_of_some _ (Heap.get?_push_size _ f2)))
 have g1:(H5 s.heap o1 o2).get? s.heap.objs.size=some o1:=Heap.get?_push_of_some _ (Heap.get?_push_of_some _ (Heap.get?_push_of_some _ (Heap.get?_push_of_some _ (Heap.get?_push_size _ f1))))
 show _/\_
 rw[z2,z3,z4] at g5
 rw[z1,z2] at g3
 rw[z3] at g4
 rw[z1] at g2
 rw[z4]
 exact ⟨⟨_,g5,rfl⟩,h _ g5 g3 g4 g1 g2 z5 fun c o x=>
  Heap.get?_push_of_some _ (Heap.get?_push_of_some _ (Heap.get?_push_of_some _ (Heap.get?_push_of_some _ (Heap.get?_push_of_some _ x))))⟩
end
end Zp
namespace L2
open PySem PySem.Spec PyProof.Rows
abbrev Col:=Hp->List V->Prop
structure ColOk(P:Program)(w:World)(K:Frag)(C:Col)(it:Addr)(tn:Nat->Heap->Prop):Prop where
 obj:∀ i h,tn i h->∃ o,h.get? it=some o/\∀ v,o.data≠.cell v
 keep:∀ i h h',tn i h->(∀ o,h.get? it=some o->h'.get? it=some o)->tn i h'
 one:∀ (X:Cx),X.prog=P->X.w=w->X.K=K->∀ pins s σ H xs ys,Inv X pins σ H s->C H xs->C H ys->xs=ys
 draw:∀ (X:Cx),X.prog=P->X.w=w->X.K=K->∀ (i:Nat) (pins:List (Addr×Obj)) (s:Shared) (σ:St) (H:Hp) (xs:List V) (A:Around),Inv X pins σ H s->gB X pins H it->tn i s.heap->C H xs->A.handled=none->
  ∃ fp Pv St,Draws P w A it fp xs.length Pv St/\St i s.heap/\(∀ j h,St j h->tn j h)/\(∀ j v,Pv j v->∃ x,xs[j]? = some x/\aQ x v)/\∀ b,gB X pins H b->b≠it->b∉fp
theorem wD{X:Cx}{pins:List (Addr×Obj)}{σ:St}{H:Hp}{s:Shared}{b a:Addr}{o:Obj}(I:Inv X pins σ H s)(hf:gB X pins H b)(e:X.base.get? a=some o):b≠a:=by
 obtain ⟨_,_,_,h4,_⟩:=hf
 intro z
 rcases h4 with z2|z2
 ·exact I.ok.noex a o e (z▸z2)
 ·have h5:=Heap.lt_size e
  have h6:=I.ok.bsz
  rw[z] at z2
  exact absurd (Nat.lt_of_lt_of_le h5 (Nat.le_trans h6 z2)) (Nat.lt_irrefl _)
theorem aAQ{X:Cx}{pins:List (Addr×Obj)}{σ:St}{H:Hp}{s:Shared}{b a:Addr}{xs:List V}(I:Inv X pins σ H s)(hf:gB X pins H b)(h:SqL X.K H a xs):b≠a:=by
 rcases h with (h|⟨o,h⟩)|⟨o,vs,n,h,_⟩
 · intro z; rw [<- z, hf.1] at h; cases h
 · intro z; rw [<- z, hf.1] at h; cases h
 · exact wD I hf (I.ok.mod.kin _ _ h)
theorem aAR{X:Cx}{pins:List (Addr×Obj)}{σ:St}{H:Hp}{s:Shared}{b a:Addr}{xs:List V}(I:Inv X pins σ H s)(hf:gB X pins H b)(h:SqT X.K H a xs):b≠a:=by
 rcases h with (h|⟨o,h⟩)|⟨o,vs,n,h,_⟩
 · intro z; rw [<- z, hf.1] at h; cases h
 · intro z; rw [<- z, hf.1] at h; cases h
 · exact wD I hf (I.ok.mod.kin _ _ h)
theorem aCT{P:Program}{w:World}{K:Frag}(a it:Addr):ColOk P w K (fun H xs=>SqL K H a xs) it (fun i h=>h.IsListIter it a i) where
 obj:=fun i h ⟨o,e,c,d⟩=>⟨o,e,fun v z=>by rw[d] at z;cases z⟩
 keep:=fun i h h' st k=>st.at fun o e=>k o e
 one:=by
  intro X hP hw hK pins s σ H xs ys I h1 h2
  subst hK
  exact I.list_inj h1 h2
 draw:=by
  intro X hP hw hK i pins s σ H xs A I hf st hx hh
  subst hP hw hK
  obtain ⟨its,rv,p,hz⟩:=I.list hx
  have hne:=aAQ I hf hx
  refine ⟨[it,a],(fun i v=>its.toArray[i]? = some v),(fun i h=>h.IsListIter it a i/\h.IsList a its.toArray),by rw[show xs.length=its.toArray.size by rw[rv.length];simp];exact Draws.list hh it a (Ne.symm hne) its.toArray,⟨st,p.isList⟩,fun j h z=>z.1,fun j v e=>?_,fun b hb nb hm=>?_⟩
  ·have e':its[j]? = some v:=by simpa using e
   have hj:j < xs.length:=by rw[rv.length];exact (List.getElem?_eq_some_iff.mp e').1
   obtain ⟨u,hu,ru⟩:=rv.get (List.getElem?_eq_getElem hj)
   rw[e'] at hu;cases hu
   exact ⟨_,List.getElem?_eq_getElem hj,ru⟩
  ·rcases List.mem_cons.mp hm with z|z
   · exact nb z
   · exact aAQ I hb hx (by simpa using z)
theorem aAS{P:Program}{w:World}{K:Frag}(a it:Addr):ColOk P w K (fun H xs=>SqT K H a xs) it (fun i h=>h.IsTupleIter it a i) where
 obj:=fun i h ⟨o,e,c,d⟩=>⟨o,e,fun v z=>by rw[d] at z;cases z⟩
 keep:=fun i h h' ⟨o,e,r⟩ k=>⟨o,k o e,r⟩
 one:=by
  intro X hP hw hK pins s σ H xs ys I h1 h2
  subst hK
  exact I.tuple_inj h1 h2
 draw:=by
  intro X hP hw hK i pins s σ H xs A I hf st hx hh
  subst hP hw hK
  obtain ⟨its,rv,p,hz⟩:=I.tuple hx
  have hne:=aAR I hf hx
  refine ⟨[it,a],(fun i v=>its.toArray[i]? = some v),(fun i h=>h.IsTupleIter it a i/\h.IsTuple a its.toArray),by rw[show xs.length=its.toArray.size by rw[rv.length];simp];exact Zp.vH hh it a (Ne.symm hne) its.toArray,⟨st,p⟩,fun j h z=>z.1,fun j v e=>?_,fun b hb nb hm=>?_⟩
  ·have e':its[j]? = some v:=by simpa using e
   have hj:j < xs.length:=by rw[rv.length];exact (List.getElem?_eq_some_iff.mp e').1
   obtain ⟨u,hu,ru⟩:=rv.get (List.getElem?_eq_getElem hj)
   rw[e'] at hu;cases hu
   exact ⟨_,List.getElem?_eq_getElem hj,ru⟩
  ·rcases List.mem_cons.mp hm with z|z
   · exact nb z
   · exact aAR I hb hx (by simpa using z)
noncomputable def oM(z:Str):List V:=z.cps.toList.map fun c=>V.str ⟨#[c]⟩
theorem aFQ{P:Program}{w:World}{K:Frag}(z:Str)(t:Tok)(it:Addr):ColOk P w K (fun _ xs=>xs=oM z) it (fun i h=>h.IsStrIter it (strIterType z) z t i) where
 obj:=fun i h ⟨o,e,c,d⟩=>⟨o,e,fun v z=>by rw[d] at z;cases z⟩
 keep:=fun i h h' ⟨o,e,r⟩ k=>⟨o,k o e,r⟩
 one:=fun _ _ _ _ _ _ _ _ _ _ _ h1 h2=>h1.trans h2.symm
 draw:=by
  intro X hP hw hK i pins s σ H xs A I hf st hx hh
  subst hP hw hK hx
  have hD:Draws X.prog X.w A it [it] z.cps.size (fun i v=>∃ c u,z.cps[i]? = some c/\v=.str ⟨#[c]⟩ u) (fun i h=>h.IsStrIter it (strIterType z) z t i):=by
   unfold strIterType
   split
   · exact Draws.strAscii hh it z t
   · exact Draws.strWide hh it z t
  refine ⟨[it],_,_,by rw[show (oM z).length=z.cps.size by unfold oM;simp];exact hD,st,fun j h z=>z,?_,fun b hb nb hm=>nb (by simpa using hm)⟩
  rintro j v ⟨c,u,hc,rfl⟩
  exact ⟨.str ⟨#[c]⟩,by unfold oM;rw[List.getElem?_map,Array.getElem?_toList,hc];rfl,u,rfl⟩
def Itz(C1 C2:Col):It:=
 ⟨fun i H=>∃ xs ys,C1 H xs/\C2 H ys/\i < xs.length/\i < ys.length,fun i H x H'=>∃ p u v,H p=none/\x=.ref p/\H'=upd H p (.tup [u,v])/\(∀ xs,C1 H xs->xs[i]? = some u)/\∀ ys,C2 H ys->ys[i]? = some v,
  fun i H=>∃ xs ys,C1 H xs/\C2 H ys/\(i=xs.length\/(i < xs.length/\i=ys.length))⟩
theorem aCU{P:Program}{w:World}{K:Frag}{es:List Expr}{k1}{tpos:Pos}{C1 C2:Col}{z TI TO i1 i2:Addr}{t1 t2:Nat->Heap->Prop}(c1:ColOk P w K C1 i1 t1)(c2:ColOk P w K C2 i2 t2)(hd:[z,TI,TO,i1,i2].Nodup) :
  Turn P w K (.Tuple es k1 tpos) (Itz C1 C2) [z,TI,TO,i1,i2] z (fun i h=>IsZip h z TI TO .none/\IsPair h TI (.ref i1) (.ref i2)/\(∃ a b,IsPair h TO a b)/\t1 i h/\t2 i h) where
 mem:=by simp
 obj:=fun i h zz0 c hc=>by
  obtain ⟨s1,s2,⟨a,b,s3⟩,s4,s5⟩:=zz0
  simp only[List.mem_cons,List.not_mem_nil,or_false] at hc
  rcases hc with rfl|rfl|rfl|rfl|rfl
  ·exact ⟨_,s1,fun v z=>by have z':Data.fields _=Data.cell v:=z;cases z'⟩
  ·exact ⟨_,s2,fun v z=>by have z':Data.seq _ _=Data.cell v:=z;cases z'⟩
  ·exact ⟨_,s3,fun v z=>by have z':Data.seq _ _=Data.cell v:=z;cases z'⟩
  ·exact c1.obj i h s4
  ·exact c2.obj i h s5
 keep:=fun i h h' ⟨s1,s2,⟨a,b,s3⟩,s4,s5⟩ k=>⟨k z (by simp) _ s1,k TI (by simp) _ s2,⟨a,b,k TO (by simp) _ s3⟩,c1.keep i h h' s4 fun o e=>k i1 (by simp) o e,c2.keep i h h' s5 fun o e=>k i2 (by simp) o e⟩
 item:=by
  intro X hP hw hK hc i pins s σ H E I hf st hg
  obtain ⟨s1,s2,⟨a,b,s3⟩,s4,s5⟩:=st
  obtain ⟨xs,ys,q1,q2,l1,l2⟩:=hg
  simp only[List.nodup_cons,List.mem_cons,List.not_mem_nil,or_false,not_or,List.nodup_nil,and_true,not_false_eq_true] at hd
  obtain ⟨⟨d1,d2,d3,d4⟩,⟨d5,d6,d7⟩,⟨d8,d9⟩,d10⟩:=hd
  have hhd:X.A.in1.handled=none:=I.ok.hd hc
  obtain ⟨f1,P1,S1,D1,a1,a2,a3,a4⟩:=c1.draw X hP hw hK i pins s σ H xs X.A.in1 I (hf i1 (by simp)) s4 q1 hhd
  obtain ⟨f2,P2,S2,D2,b1,b2,b3,b4⟩:=c2.draw X hP hw hK i pins s σ H ys X.A.in1 I (hf i2 (by simp)) s5 q2 hhd
  have one1:=fun zs (h:C1 H zs)=>c1.one X hP hw hK pins s σ H zs xs I h q1
  have one2:=fun zs (h:C2 H zs)=>c2.one X hP hw hK pins s σ H zs ys I h q2
  subst hP hw hK
  have D:Zp.Apart z TI TO i1 i2 f1 f2:=⟨Ne.symm d1,Ne.symm d2,Ne.symm d3,Ne.symm d4,d5,d6,d7,d8,d9,d10,a4 z (hf z (by simp)) d3,b4 z (hf z (by simp)) d4,a4 TO (hf TO (by simp)) d8,b4 TO (hf TO (by simp)) d9,b4 i1 (hf i1 (by simp)) d10,a4 i2 (hf i2 (by simp)) (Ne.symm d10)⟩
  refine Zp.aAO D D1 D2 s1 s2 s3 a1 b1 l1 l2 fun x y h' tk px py g1 g2 g3 g4 g5 g6 kp=>?_
  obtain ⟨u,hu,ru⟩:=a3 i x px
  obtain ⟨v,hv,rv⟩:=b3 i y py
  refine ⟨_,rfl,wpAny_letOwnedTupleGo_zip g1 fun h2 se sb=>?_⟩
  have ne1:s.heap.objs.size≠z:=Nat.ne_of_gt (Heap.lt_size s1)
  have hT2:h2.get? s.heap.objs.size=some {cls:=.type "tuple",data:=.seq #[x,y]}:=(sb.2 _ ne1).trans g5
  have fT:H s.heap.objs.size=none:=I.hok.fresh (Nat.le_refl _)
  have kp2:∀ c o,c∉[z,TI,TO,i1,i2]->s.heap.get? c=some o->h2.get? c=some o:=fun c o hc' q=>by
   simp only[List.mem_cons,List.not_mem_nil,or_false,not_or] at hc'
   exact (sb.2 c hc'.1).trans (kp c o hc'.1 hc'.2.2.1 hc'.2.2.2.1 hc'.2.2.2.2 q)
  have nfp:∀ c uu,H c=some uu->c∉[z,TI,TO,i1,i2]:=fun c uu q z2=>by rw[(hf c z2).1] at q;cases q
  have hok2:HOk X.prog X.w H h2:=fun c uu q=>by
   refine (I.hok c uu q).stay (fun c' v' hc' q'=>kp2 c' v' ?_ q') (fun _ q=>q) (fun _ _ q=>q) fun _ _ q=>q
   rcases hc' with z2|z2
   ·rw[z2];exact nfp c uu q
   ·exact nfp c' _ z2
  have hokT:HOk X.prog X.w (upd H s.heap.objs.size (.tup [u,v])) h2:=HOk.track hok2 fT ⟨by show 2<=sizeLine;decide,[x,y],.cons ru (.cons rv .nil),⟨_,hT2,rfl,_,rfl⟩⟩
  have ltT:∀ c uu,H c=some uu->c≠s.heap.objs.size:=fun c uu q=>bI q fT
  have I2:Inv X pins σ (upd H s.heap.objs.size (.tup [u,v])) {s with heap:=h2,gens:=s.gens,drawn:=s.drawn,toks:=tk}:=by
   refine I.step (ch:=[z,TI,TO,i1,i2]) (fun c hc'=>?_) (fun c o _ _ hc' q _=>kp2 c o hc' q) (fun c o _ _ hc' q _=>⟨o.slots,kp2 c o hc' q⟩)
    (fun c o _ q n=>by rw[aI (Nat.ne_of_lt (Heap.lt_size q))];exact n) (fun c o hc' q=>⟨o,kp2 c o hc' q⟩) (fun c ys q=>by rw[aI (ltT c _ q)];exact q) (fun c o uu q=>by rw[aI (ltT c _ q)];exact q)
    (fun c ps q=>by rw[aI (ltT c _ q)];exact q) (fun m hm=>?_) hokT I.bare
   ·obtain ⟨e0,e1,e2,e3,e4,e5⟩:=hf c hc'
    exact ⟨e3,e1,e4,e5⟩
   ·obtain ⟨o,es',ep,ho,r⟩:=hm
    exact ⟨o,es',ep,kp2 _ o (fun z2=>(hf _ z2).2.1 rfl) ho,r⟩
  refine ⟨.ref s.heap.objs.size,_,I2,rfl,⟨_,u,v,fT,rfl,rfl,fun zs hzs=>by rw[one1 zs hzs];exact hu,fun zs hzs=>by rw[one2 zs hzs];exact hv⟩,⟨se,(sb.2 TI (Ne.symm d1)).trans (kp TI _ (Ne.symm d1) d5 d6 d7 s2),⟨x,y,(sb.2 TO (Ne.symm d2)).trans g2⟩,c1.keep _ _ _ (a2 _ _ g3) fun o e=>(sb.2 i1 (Ne.symm d3)).trans e,c2.keep _ _ _ (b2 _ _ g4) fun o e=>(sb.2 i2 (Ne.symm d4)).trans e⟩,fun c hc'=>?_⟩
  rw[aI]
  ·exact (hf c hc').1
  ·intro z2
   have hlt:c < s.heap.objs.size:=by
    simp only[List.mem_cons,List.not_mem_nil,or_false] at hc'
    rcases hc' with rfl|rfl|rfl|rfl|rfl
    · exact Heap.lt_size s1
    · exact Heap.lt_size s2
    · exact Heap.lt_size s3
    · obtain ⟨o, e, _⟩ := c1.obj _ _ s4; exact Heap.lt_size e
    · obtain ⟨o, e, _⟩ := c2.obj _ _ s5; exact Heap.lt_size e
   rw[z2] at hlt
   exact absurd hlt (Nat.lt_irrefl _)
 done:=by
  intro X hP hw hK hc i pins s σ H E I hf st hg
  obtain ⟨s1,s2,⟨a,b,s3⟩,s4,s5⟩:=st
  obtain ⟨xs,ys,q1,q2,hend⟩:=hg
  simp only[List.nodup_cons,List.mem_cons,List.not_mem_nil,or_false,not_or,List.nodup_nil,and_true,not_false_eq_true] at hd
  obtain ⟨⟨d1,d2,d3,d4⟩,⟨d5,d6,d7⟩,⟨d8,d9⟩,d10⟩:=hd
  have hhd:X.A.in1.handled=none:=I.ok.hd hc
  obtain ⟨f1,P1,S1,D1,a1,a2,a3,a4⟩:=c1.draw X hP hw hK i pins s σ H xs X.A.in1 I (hf i1 (by simp)) s4 q1 hhd
  obtain ⟨f2,P2,S2,D2,b1,b2,b3,b4⟩:=c2.draw X hP hw hK i pins s σ H ys X.A.in1 I (hf i2 (by simp)) s5 q2 hhd
  subst hP hw hK
  have D:Zp.Apart z TI TO i1 i2 f1 f2:=⟨Ne.symm d1,Ne.symm d2,Ne.symm d3,Ne.symm d4,d5,d6,d7,d8,d9,d10,a4 z (hf z (by simp)) d3,b4 z (hf z (by simp)) d4,a4 TO (hf TO (by simp)) d8,b4 TO (hf TO (by simp)) d9,b4 i1 (hf i1 (by simp)) d10,a4 i2 (hf i2 (by simp)) (Ne.symm d10)⟩
  refine Zp.aCR D D1 D2 s1 s2 s3 a1 b1 hend fun h' tk kp=>⟨rfl,?_⟩
  have kp2:∀ c o,c∉[z,TI,TO,i1,i2]->s.heap.get? c=some o->h'.get? c=some o:=fun c o hc' q=>by
   simp only[List.mem_cons,List.not_mem_nil,or_false,not_or] at hc'
   exact kp c o hc'.1 hc'.2.2.1 hc'.2.2.2.1 hc'.2.2.2.2 q
  have nfp:∀ c uu,H c=some uu->c∉[z,TI,TO,i1,i2]:=fun c uu q z2=>by rw[(hf c z2).1] at q;cases q
  have hthere:∀ c o,s.heap.get? c=some o->c∈[TI]->h'.get? c=some o:=fun c o e hm=>by
   have:c=TI:=by simpa using hm
   subst this
   exact kp c o (Ne.symm d1) d5 d6 d7 e
  refine I.step (g':=s.gens) (d':=s.drawn) (ch:=[z,TI,TO,i1,i2]) (fun c hc'=>?_) (fun c o _ _ hc' q _=>kp2 c o hc' q) (fun c o _ _ hc' q _=>⟨o.slots,kp2 c o hc' q⟩) (fun _ _ _ _ n=>n) (fun c o hc' q=>⟨o,kp2 c o hc' q⟩) (fun _ _ q=>q) (fun _ _ _ q=>q) (fun _ _ q=>q) (fun m hm=>?_) (fun c uu q=>?_) I.bare
  ·obtain ⟨e0,e1,e2,e3,e4,e5⟩:=hf c hc'
   exact ⟨e3,e1,e4,e5⟩
  ·obtain ⟨o,es',ep,ho,r⟩:=hm
   exact ⟨o,es',ep,kp2 _ o (fun z2=>(hf _ z2).2.1 rfl) ho,r⟩
  ·refine (I.hok c uu q).stay (fun c' v' hc' q'=>kp2 c' v' ?_ q') (fun _ q=>q) (fun _ _ q=>q) fun _ _ q=>q
   rcases hc' with z2|z2
   ·rw[z2];exact nfp c uu q
   ·exact nfp c' _ z2
 self:=fun _ _ _ _ _ st h=>wpAny_pyIter_zip st.1 h
end L2
namespace L2
open PySem PySem.Spec PyProof.Rows
def qF(K:Frag)(H:Hp)(x:V)(C:Col):Prop:=
 (∃ a xs,x=.ref a/\SqL K H a xs/\C=fun H xs=>SqL K H a xs)\/(∃ a xs,x=.ref a/\SqT K H a xs/\C=fun H xs=>SqT K H a xs)\/∃ z,x=.str z/\C=fun _ xs=>xs=oM z
theorem oN{X:Cx}{pins:List (Addr×Obj)}{σ:St}{H:Hp}{s:Shared}{x:V}{u:Value}{C:Col}(I:Inv X pins σ H s)(r:aQ x u)(h:qF X.K H x C) :
  ∃ (o:Obj) (tn:Addr->Nat->Heap->Prop),(∀ h':Heap,(∀ b ob,s.heap.get? b=some ob->h'.get? b=some ob)->Zp.j5 u o h')/\o.isFreed=false/\(∀ it,ColOk X.prog X.w X.K C it (tn it))/\∀ it h',h'.get? it=some o->tn it 0 h':=by
 rcases h with ⟨a,xs,rfl,hq,rfl⟩|⟨a,xs,rfl,hq,rfl⟩|⟨z,rfl,rfl⟩
 ·cases r
  obtain ⟨its,rv,p,hz⟩:=I.list hq
  refine ⟨{cls:=.type "list_iterator",data:=.fields #[.ref a,.int 0 0]},fun it i h=>h.IsListIter it a i,fun h' kp prog w A E s' Q e q=>?_,rfl,fun it=>aCT a it,fun it h' e=>⟨_,e,rfl,rfl⟩⟩
  subst e
  refine wpAny_pyIter_list (l:=a) (items:=its.toArray) ?_ q
  obtain ⟨o,e,r⟩:=p.isList
  exact ⟨o,kp _ _ e,r⟩
 ·cases r
  obtain ⟨its,rv,p,hz⟩:=I.tuple hq
  refine ⟨{cls:=.type "tuple_iterator",data:=.fields #[.ref a,.int 0 0]},fun it i h=>h.IsTupleIter it a i,fun h' kp prog w A E s' Q e q=>?_,rfl,fun it=>aAS a it,fun it h' e=>⟨_,e,rfl,rfl⟩⟩
  subst e
  refine wpAny_pyIter_tuple (t:=a) (items:=its.toArray) ?_ q
  obtain ⟨o,e,r⟩:=p
  exact ⟨o,kp _ _ e,r⟩
 ·obtain ⟨t,rfl⟩:=r
  refine ⟨{cls:=.type (strIterType z),data:=.fields #[.str z t,.int 0 0]},fun it i h=>h.IsStrIter it (strIterType z) z t i,fun h' kp prog w A E s' Q e q=>?_,rfl,fun it=>aFQ z t it,fun it h' e=>⟨_,e,rfl,rfl⟩⟩
  subst e
  exact wpAny_pyIter_strU q
def aID(K:Frag)(ta:TA):TI:=fun σ H R=>ta σ H fun vs H1=>∃ x y C1 C2,vs=[x,y]/\qF K H1 x C1/\qF K H1 y C2/\R (Itz C1 C2) H1
theorem aIE{X:Cx}{es:List Expr}{k1}{tpos:Pos}{a b:Expr}{ta:TA}{p pos:Pos}(hg:Gl X "zip")(hm:X.mg "zip"=none)(ha:PA X [a,b] ta)(hs:starEach [a,b] X.env=[(false,eval a X.env),(false,eval b X.env)]:=by rfl)(hs2:starEach [b] X.env=[(false,eval b X.env)]:=by rfl) :
  PI X (.Tuple es k1 tpos) (.Call (.Name "zip" p) [a,b] [] pos) (aID X.K ta):=by
 intro pins s σ H R I h
 refine Call_ (iT I hg hm PyProof.Rows.boot_zip (PyProof.Rows.callWith_type1 (thn (ha pos pins s σ H _ I h) fun us s1 ⟨vs,H1,I1,r1,q1⟩=>?_) (by rw[hs,hs2]) (by rw[hs2];rfl)))
 obtain ⟨x,y,C1,C2,rfl,c1,c2,q⟩:=q1
 cases r1 with
 | cons ru rr=>
  cases rr with
  | cons rv rr=>
   cases rr
   rename_i u1 _ u2
   obtain ⟨o1,t1,a1,a2,a3,a4⟩:=oN I1 ru c1
   obtain ⟨o2,t2,b1,b2,b3,b4⟩:=oN I1 rv c2
   refine Zp.aCS (a1 _ fun _ _ e=>e) (b1 _ fun _ _ e=>Heap.get?_push_of_some _ e) a2 b2 fun h' z1 z2 z3 z4 z5 z6 kp=>?_
   have I2:Inv X pins σ H1 {s1 with heap:=h'}:=I1.kept (t':=s1.toks) kp
   refine wpAny_pyIter_zip z1 ?_
   refine ⟨s1.heap.objs.size+4,[s1.heap.objs.size+4,s1.heap.objs.size+2,s1.heap.objs.size+3,s1.heap.objs.size,s1.heap.objs.size+1],_,_,H1,rfl,I2,aCU (a3 _) (b3 _) ?_,⟨z1,z2,⟨_,_,z3⟩,a4 _ _ z4,b4 _ _ z5⟩,fun c hc=>?_,q⟩
   ·simp only[List.nodup_cons,List.mem_cons,List.not_mem_nil,or_false,not_or,List.nodup_nil,and_true,not_false_eq_true]
    refine ⟨⟨?_,?_,?_,?_⟩,⟨?_,?_,?_⟩,⟨?_,?_⟩,?_⟩<;>(intro z;have z':=congrArg (fun x:Nat=>x - s1.heap.objs.size) z;simp at z')
   ·have hle:s1.heap.objs.size<=c:=by
     simp only[List.mem_cons,List.not_mem_nil,or_false] at hc
     rcases hc with rfl|rfl|rfl|rfl|rfl
     · exact Nat.le_add_right _ _
     · exact Nat.le_add_right _ _
     · exact Nat.le_add_right _ _
     · exact Nat.le_refl _
     · exact Nat.le_add_right _ _
    exact I1.fpOk hle (I1.hok.fresh hle)
end L2
namespace Fl
open PySem L2 PyProof.Rows
noncomputable def aD4(p:PyData×PyData):PyData:=.tuple [p.1,p.2]
noncomputable def t7(x y:PyData):R (List PyData):=(aT x).bind fun xs=>(aT y).bind fun ys=>.ok ((xs.zip ys).map aD4)
theorem pK{d:PyData}{xs:List PyData}(h:aT d=.ok xs):xs.length<=16777216:=by
 unfold aT at h
 split at h
 ·split at h
  · rename_i hz; cases h; exact hz
  · cases h
 ·split at h
  · rename_i hz; cases h; exact hz
  · cases h
 ·split at h
  · rename_i hz; cases h; rw [List.length_map]; exact hz
  · cases h
 ·cases h
theorem nI{d:PyData}{e:Er}:aT d≠.ex e:=by
 intro h
 unfold aT at h
 split at h
 · split at h <;> cases h
 · split at h <;> cases h
 · split at h <;> cases h
 · cases h
theorem oO{K:Frag}{F:Hp}:∀ (cs:List Nat),DatVs K F (cs.map fun c=>V.str ⟨#[c]⟩) (cs.map fun c=>PyData.str ⟨#[c]⟩)
 | []=>.nil
 | c::t=>.cons (.str _) (oO t)
theorem wE{K:Frag}{F B:Hp}{v:V}{d:PyData}{xs:List PyData}(s:aG F B)(r:aS K F B v d)(h:aT d=.ok xs):∃ C vs,qF K B v C/\(∀ H1,aG B H1->C H1 vs)/\DatVs K F vs xs:=by
 unfold aT at h
 split at h
 ·split at h
  ·cases h
   obtain ⟨p,vs,rfl,h1,h2⟩:=aS.lst_of s r
   exact ⟨_,vs,.inl ⟨p,vs,rfl,h1,rfl⟩,fun H1 q=>h1.same q,h2⟩
  ·cases h
 ·split at h
  ·cases h
   obtain ⟨p,vs,rfl,h1,_,h2⟩:=aS.tup_of s r
   exact ⟨_,vs,.inr (.inl ⟨p,vs,rfl,h1.same s,rfl⟩),fun H1 q=>(h1.same s).same q,h2⟩
  ·cases h
 ·rename_i z
  split at h
  ·cases h
   obtain rfl:=aS.str_of r
   exact ⟨_,oM z,.inr (.inr ⟨z,rfl,rfl⟩),fun _ _=>rfl,oO _⟩
  ·cases h
 ·cases h
theorem aCV{K:Frag}{F B:Hp}{v:V}{d:PyData}{xs:List PyData}(s:aG F B)(r:DatV K F v d)(h:aT d=.ok xs):∃ C vs,qF K B v C/\(∀ H1,aG F H1->C H1 vs)/\DatVs K F vs xs:=by
 unfold aT at h
 split at h
 ·split at h
  ·cases h
   obtain ⟨p,vs,rfl,h1,h2⟩:=DatV.lst_of r
   exact ⟨_,vs,.inl ⟨p,vs,rfl,h1.same s,rfl⟩,fun H1 q=>h1.same q,h2⟩
  ·cases h
 ·split at h
  ·cases h
   obtain ⟨p,vs,rfl,h1,h2⟩:=DatV.tup_of r
   exact ⟨_,vs,.inr (.inl ⟨p,vs,rfl,h1.same s,rfl⟩),fun H1 q=>h1.same q,h2⟩
  ·cases h
 ·rename_i z
  split at h
  ·cases h
   obtain rfl:=DatV.str_of r
   exact ⟨_,oM z,.inr (.inr ⟨z,rfl,rfl⟩),fun _ _=>rfl,oO _⟩
  ·cases h
 ·cases h
theorem wF{α β:Type}:∀ {xs:List α} {ys:List β} {i:Nat} {x:α} {y:β},xs[i]? = some x->ys[i]? = some y->(xs.zip ys)[i]? = some (x,y)
 | [],_,_,_,_,h,_=>by simp at h
 | _::_,[],_,_,_,_,h=>by simp at h
 | x::xs,y::ys,0,_,_,h1,h2=>by simp at h1 h2;subst h1 h2;rfl
 | x::xs,y::ys,i+1,_,_,h1,h2=>by
  show (xs.zip ys)[i]? = _
  exact wF (by simpa using h1) (by simpa using h2)
theorem aFR{K:Frag}{F B:Hp}{C1 C2:Col}{us vs:List V}{xs ys:List PyData}(hz:xs.length<=16777216)(h1:∀ H1,aG F H1->aG B H1->C1 H1 us)(h2:∀ H1,aG F H1->aG B H1->C2 H1 vs)(d1:DatVs K F us xs)(d2:DatVs K F vs ys) :
  Yld K (Itz C1 C2) F B ((xs.zip ys).map aD4) where
 len:=by rw[cQ,List.length_map,List.length_zip];omega
 go:=fun i F1 H1 a1 a2 a3 hi=>by
  rw[List.length_map,List.length_zip] at hi
  have hs:aG F H1:=fun x o z=>a2 x o (a1 x o z)
  exact ⟨us,vs,h1 H1 hs a3,h2 H1 hs a3,by rw[d1.length];omega,by rw[d2.length];omega⟩
 yld:=fun i F1 H1 v H2 x a1 a2 a3 y e=>by
  obtain ⟨p,u,w,hp,rfl,rfl,y1,y2⟩:=y
  have hs:aG F H1:=fun x o z=>a2 x o (a1 x o z)
  obtain ⟨dx,e1,r1⟩:=d1.get (y1 us (h1 H1 hs a3))
  obtain ⟨dy,e2,r2⟩:=d2.get (y2 vs (h2 H1 hs a3))
  rw[List.getElem?_map,wF e1 e2] at e
  cases e
  have sm:=aG.upd (o:=.tup [u,w]) (bG a2 hp)
  exact ⟨_,Ext.new a2 hp,.tup (SqT.of aU) (.cons ((r1.same a1).same sm) (.cons ((r2.same a1).same sm) .nil))⟩
 stop:=fun F1 H1 a1 a2 a3=>by
  have hs:aG F H1:=fun x o z=>a2 x o (a1 x o z)
  refine ⟨us,vs,h1 H1 hs a3,h2 H1 hs a3,?_⟩
  rw[List.length_map,List.length_zip,d1.length,d2.length]
  omega
section
variable{X:Cx}{c:Ct}{E:XK}{tg e:Expr}
theorem aFS{f g:Sg->R PyData}(hK:X.K=c.K)(h:PI X tg e (aID X.K (dF (tV (bJ c) c E f) (dF (tV (bJ c) c E g) fS)))):PIf X c E tg e (fun ρ=>(f ρ).bind fun x=>(g ρ).bind fun y=>t7 x y):=PI.imp h fun σ H Q zz0=>by
 obtain ⟨ρ,F,ab,k⟩:=zz0
 refine ⟨ρ,F,ab,(Rk.bind k).imp fun x _ q v F1 H1 s1 r1=>⟨ρ,F1,ab.ext s1,((Rk.bind q).ext s1).imp fun y _ q w F' H' s r=>?_⟩⟩
 unfold t7 at q
 cases e1:aT x with
 | bad=>rw[e1] at q;exact q.elim
 | ex e=>exact absurd e1 nI
 | ok xs=>
  rw[e1] at q
  cases e2:aT y with
  | bad=>rw[R.bind_ok,e2] at q;exact q.elim
  | ex e=>exact absurd e2 nI
  | ok ys=>
   rw[R.bind_ok,e2] at q
   have r1':aS c.K F' H' v x:=aS.ext s r1
   obtain ⟨C1,us,a1,a2,a3⟩:=wE s.fh r1' e1
   obtain ⟨C2,vs,b1,b2,b3⟩:=wE s.fh r e2
   rw[hK]
   exact ⟨v,w,C1,C2,rfl,a1,b1,Rk.ok q _ H' F' H' (s1.trans s) (bK _) (aFR (pK e1) (fun H1 _ z=>a2 H1 z) (fun H1 _ z=>b2 H1 z) a3 b3)⟩
end
end Fl
namespace L2
open PySem PySem.Spec PyProof.Rows
end L2
namespace L2
open PySem PySem.Spec PyProof.Rows
section
variable{K:Type}[DecidableEq K]{prog:Program}{w:World}{knd:KeyKind prog w K}{A:Around}{E:Value->Shared->Prop}{s:Shared}
theorem lG{kvs:List (K×Value)}{k:K}(h:valueAt kvs k=none):k∉kvs.map (·.1):=fun q=>by
 obtain ⟨kv,hkv,e⟩:=List.mem_map.mp q
 unfold valueAt at h
 have h:=Option.map_eq_none_iff.mp h
 rw[List.find?_eq_none] at h
 exact h kv hkv (decide_eq_true e)
theorem aCW{d:Addr}{kvs:List (K×Value)}{k:K}{key y:Value}{Q:Value->Shared->Prop}(hkey:knd.is k key=true)(hm:s.heap.DictOf knd d kvs)
  (h1:∀ v,valueAt kvs k=some v->Q v {s with toks:=s.toks+1})
  (h2:valueAt kvs k=none->∀ h',h'.DictOf knd d (kvs++[(k,y)])->Heap.SameBut d s.heap h'->Q y {s with heap:=h',toks:=s.toks+1})
  (hsz:kvs.length<=sizeLine):wpAny (model prog w) A (dictSetDefault d key y) Q E s:=by
 have hz:s.heap.DictLe d sizeLine:=fun o es ep ho hd=>by
  obtain ⟨o',es',ep',a,_,b,_,hp,_⟩:=hm
  rw[ho] at a;cases a
  rw[hd] at b;cases b
  have e1:=hp.length
  have e2:es.toList.length=es.size:=by simp
  omega
 cases e:valueAt kvs k with
 | some v=>exact wpAny_dictSetDefault_of (hz:=hz) hkey hm.mapOf (fun v' hv=>h1 v' hv) fun hn=>by rw[e] at hn;cases hn
 | none=>
  have hno:=lG e
  obtain ⟨o,es,ep,ho,hc,hd,hk,hp,hn⟩:=hm
  have hi:(es.findIdx? fun e=>knd.is k e.key)=none:=by
   have q:(es.findIdx? fun e=>knd.is k e.key)=kvs.findIdx? fun kv=>decide (kv.1=k):=by rw[<-hp.findIdx k];obtain ⟨l⟩:=es;simp
   rw[q,List.findIdx?_eq_none_iff]
   intro kv hkv
   exact decide_eq_false fun z=>hno (List.mem_map.mpr ⟨kv,hkv,z⟩)
  unfold dictSetDefault
  try with_reducible refine wpAny_holding ?_
  refine wpAny_bind (knd.pyHash hkey (wpAny_bind (wpAny_dictFind_of (s:={s with toks:=s.toks+1}) hkey ho hd hk ?_)))
  rw[hi]
  have hs:=hz _ _ _ ho hd
  refine wpAny_bind (wpAny_rule (wpAny_bind (wpAny_updateDictKeys (hz:=hs) (s:={s with toks:=s.toks+1}) ho hd (wpAny_pure (h2 e _ ⟨_,_,ep+1,Heap.get?_update_self _ ho (Obj.isFreed_of_dict (Obj.data_mapDictKeys hd _)),hc.mapDictKeys _,Obj.data_mapDictKeys hd _,hk.push hkey _,?_,?_⟩ (Heap.SameBut.update ..))))))
  ·have q:=hp.append hkey (knd.hash k) y
   obtain ⟨l⟩:=es
   simpa using q
  ·rw[List.map_append,List.nodup_append]
   refine ⟨hn,by simp,fun x hx z hz'=>?_⟩
   rw[show z=k by simpa using hz']
   exact fun q=>hno (q▸hx)
end
section
variable{K:Type}[DecidableEq K]{prog:Program}{w:World}{knd:HeapKind prog w K}{A:Around}{E:Value->Shared->Prop}{s:Shared}
theorem aFT{d a:Addr}{xs:List (K×Addr×Value)}{k:K}{y:Value}{Q:Value->Shared->Prop}(hu:knd.room A)(hkey:knd.is s.heap k a)(hm:s.heap.DictOfH knd d xs)
  (h1:∀ p,atKey xs k=some p->Q p.2 {s with toks:=s.toks+knd.draws k})
  (h2:atKey xs k=none->∀ h',h'.DictOfH knd d (storedH xs k a y)->Heap.SameBut d s.heap h'->Q y {s with heap:=h',toks:=s.toks+knd.draws k})
  (hsz:xs.length<=sizeLine):wpAny (model prog w) A (dictSetDefault d (.ref a) y) Q E s:=by
 obtain ⟨o,es,ep,ho,hc,hd,he,his,hn⟩:=hm
 unfold dictSetDefault
 try with_reducible refine wpAny_holding ?_
 refine wpAny_bind (knd.pyHash hu hkey (wpAny_bind (wpAny_dictFind_heap (s:={s with toks:=s.toks+knd.draws k}) hu hkey ho hd he his hn (fun hno=>?_) (fun j p hj=>?_))))
 ·have hnot:k∉xs.map (·.1):=not_mem_keys_of_get hno
  have hnn:=atKey_none_of_get hno
  have h2:=h2 hnn
  rw[storedH_new hnn] at h2
  have hes:es.size<=sizeLine:=by have e:=size_of_entries he;omega
  refine wpAny_bind (wpAny_rule (wpAny_bind (wpAny_updateDictKeys (hz:=hes) (s:={s with toks:=s.toks+knd.draws k}) ho hd (wpAny_pure (h2 _ ⟨_,_,ep+1,Heap.get?_update_self _ ho (Obj.isFreed_of_dict (Obj.data_mapDictKeys hd _)),hc.mapDictKeys _,Obj.data_mapDictKeys hd _,by simp[he,entryOfKey],fun x hx=>?_,?_⟩ (Heap.SameBut.update ..))))))
  ·rcases List.mem_append.mp hx with hx|hx
   · exact knd.keeps (his x hx) ho hd (Heap.SameBut.update ..)
   · rw [List.mem_singleton.mp hx]; exact knd.keeps hkey ho hd (Heap.SameBut.update ..)
  ·rw[List.map_append,List.nodup_append]
   refine ⟨hn,by simp,fun x hx z hz'=>?_⟩
   rw[show z=k by simpa using hz']
   exact fun q=>hnot (q▸hx)
 ·refine wpAny_bind (wpAny_dictEntries (s:={s with toks:=s.toks+knd.draws k}) ho hd ?_)
  rw[entry_at he j,hj]
  exact wpAny_bind (wpAny_rule (wpAny_pure (h1 p (atKey_of_get hn hj))))
end
theorem t8{prog:Program}{w:World}{d:Addr}{key y:Value}(hd:(d == sysModules)=false) :
  MeetsIn prog w (Builtin.«dict.setdefault» ⟨[.ref d,key,y],[]⟩) (fun A R s=>s.TypeIs (.ref d) "dict"/\wpAny (model prog w) A.in1 (dictSetDefault d key y) (fun v s'=>R (.ok (.ret v)) s') (fun e s'=>R (.error e) s') s):=
 .of_wp fun A R s zz0=>by
  obtain ⟨ht,h⟩:=zz0
  unfold Builtin.«dict.setdefault»
  refine wpAny_bind ?_
  unfold Builtin.Dict.keyAndDefault
  refine wpAny_bind (wpAny_notOrdered_dict ht ?_)
  show wpAny _ _ (pure (d,key,some y)) _ _ s
  refine wpAny_pure ?_
  show wpAny _ _ (if (d == sysModules)=true then _ else (dictSetDefault d key y >>= _)) _ _ s
  rw[if_neg (by rw[hd];exact Bool.false_ne_true)]
  exact wpAny_bind (wpAny_mono h (fun v s' q=>wpAny_pure ⟨v,rfl,q⟩) fun _ _ q=>q)
end L2
namespace Fl
open PySem L2 PyProof.Rows
def aCX(X:Cx):V->List V->Hp->VK->Prop:=fun x xs H Q=>∃ p es k kv y,x=.ref p/\xs=[kv,y]/\DicAt X H p es k kv/\es.length<=sizeLine/\(∀ v,atE es k=some v->Q v H)/\(atE es k=none->∀ ep,Q y (upd H p (cC X.w p (i7 es k kv y) ep)))
section
variable{X:Cx}{c:Ct}{E:XK}{e a b:Expr}{st:Stmt}{pos:Pos}
theorem aAT(hu:X.A.units+64 < cLine):MtR X "dict.setdefault" (aCX X):=by
 intro pins s σ H x xs v us Q I rx rv h
 obtain ⟨p,es,k,kv,y,rfl,rfl,D,hz,q1,q2⟩:=h
 cases (show v=Value.ref p from rx)
 cases rv with
 | @cons _ ku _ us r1 t=>
  cases t with
  | @cons _ yu _ us r2 t=>
   cases t
   have hty:s.TypeIs (.ref p) "dict":=by
    obtain ⟨ep,hO⟩:=D.o
    obtain ⟨⟨_,o,ar,h1,h2,_⟩,_,_⟩:=(show bN X.prog X.w H s.heap p (cC X.w p es ep) from I.hok p _ hO)
    exact ⟨o,h1,h2.1⟩
   obtain ⟨hd,⟨b,xs,rfl,rfl,hx,hk,dd⟩|⟨kk,xs,rfl,rfl,hx,hk,dd⟩⟩:=D.cases I r1
   ·have hl:xs.length<=sizeLine:=by rw[<-Paired.length hx];exact hz
    have ro:=m7 (k:=k) hx
    refine call_meetsIn PySem.F.slot_dict_setdefault hty PySem.F.entry_dict_setdefault (PySem.F.args_dict_setdefault_3 _ _ _) (t8 hd) ⟨hty,aFT (kJ hu) hk dd (fun pr hp=>?_) (fun hp h' dd' hs=>?_) hl⟩
    ·rw[hp] at ro
     cases e:atE es k with
     | none=>rw[e] at ro;cases ro
     | some z=>
      rw[e] at ro
      exact ⟨_,H,I.tok _,ro,q1 z e⟩
    ·rw[hp] at ro
     have e:atE es k=none:=by
      cases e:atE es k with
      | none=>rfl
      | some z=>rw[e] at ro;cases ro
     obtain ⟨q',ar,ep,hq,h2,h3,h4,_,h5⟩:=dd'
     obtain ⟨ep0,hO⟩:=D.o
     refine ⟨y,_,jL I (by rw[hO];exact True.intro) hs ⟨q',hq⟩ (gW (ep:=ep) hd ⟨q',ar,hq,h2,h3,?_⟩),r2,q2 e ep⟩
     rw[h4]
     exact lY (x3 r2 hx)
   ·have hl:xs.length<=sizeLine:=by rw[<-Paired.length hx];exact hz
    have ro:=m8 (k:=kk) hx
    refine call_meetsIn PySem.F.slot_dict_setdefault hty PySem.F.entry_dict_setdefault (PySem.F.args_dict_setdefault_3 _ _ _) (t8 hd) ⟨hty,aCW hk dd (fun v hv=>?_) (fun hv h' dd' hs=>?_) hl⟩
    ·rw[hv] at ro
     cases e:atE es (fN kk) with
     | none=>rw[e] at ro;cases ro
     | some z=>
      rw[e] at ro
      exact ⟨_,H,I.tok _,ro,q1 z e⟩
    ·rw[hv] at ro
     have e:atE es (fN kk)=none:=by
      cases e:atE es (fN kk) with
      | none=>rfl
      | some z=>rw[e] at ro;cases ro
     have pv:=x4 (k:=kk) r2 hx
     have hst:stored xs kk yu=xs++[(kk,yu)]:=by
      unfold stored
      rw[if_neg]
      intro z
      obtain ⟨kv,h1,h2⟩:=List.any_eq_true.mp z
      exact lG hv (List.mem_map.mpr ⟨kv,h1,of_decide_eq_true h2⟩)
     rw[hst] at pv
     obtain ⟨q',ar,ep,hq,h2,h3,h4,h5,_⟩:=dd'
     obtain ⟨ep0,hO⟩:=D.o
     refine ⟨y,_,jL I (by rw[hO];exact True.intro) hs ⟨q',hq⟩ (gW (ep:=ep) hd ⟨q',ar,hq,h2,h3,?_⟩),r2,q2 e ep⟩
     exact lZ pv h5 fun en hen=>h4 en (by simpa using hen)
noncomputable def n4(i:Nat)(f g:Sg->R PyData):Sg->R Fw:=fun ρ=>match ρ[i]? with
 | some (some (.m kvs))=>(f ρ).bind fun k=>(g ρ).bind fun y=>if bS k (kvs.map (·.1))=true/\kvs.length<=16777216 then .ok (.nx (if bW kvs k=true then ρ else ρ.set i (some (.m (putM kvs k y))))) else .bad
 | _=>.bad
theorem aFU{i:Nat}{f g:Sg->R PyData}(hK:X.K=c.K)(hW:X.w=c.w)(h:PS X st (o5 (aCK X "dict" (aCX X) (fQ i) (dF (tV (cL c) c E f) (dF (tV (cL c) c E g) fS))))):PSf X c E st (n4 i f g):=PS.imp h fun D σ H ⟨ρ,F,ab,k⟩=>by
 unfold n4 at k
 split at k
 ·rename_i kvs hi
  obtain ⟨_,hp,p,es,rfl,⟨ep,hd⟩,_⟩:=ab.slot i _ hi
  refine ⟨_,hp,fun pins s v I r=>?_,ρ,F,ab,(Rk.bind k).imp fun d _ q v F1 H1 s1 r1=>?_⟩
  ·cases (show v=Value.ref p from r)
   rw[<-hW] at hd
   obtain ⟨⟨_,o,ar,h1,h2,_⟩,_,_⟩:=(show bN X.prog X.w H s.heap p (cC X.w p es ep) from I.hok p _ hd)
   exact ⟨⟨o,h1,h2.1⟩,fun a z=>by cases z;exact ⟨o,h1,h2.2.1⟩⟩
  ·refine ⟨ρ,F1,ab.ext s1,((Rk.bind q).ext s1).imp fun y _ q u F2 H2 s2 r2=>?_⟩
   split at q
   ·rename_i hs
    have s12:=s1.trans s2
    have ab2:=ab.ext s12
    obtain ⟨p',es',hp',D',m⟩:=pF hK hW ab2 hi (DatV.same s2.ff r1) hs.1
    rw[hp] at hp'
    cases hp'
    have gr:=nW (k:=d) m.k1 m.vs
    refine ⟨p,es',d,v,u,rfl,rfl,D',?_,fun z hz=>?_,fun hz=>?_⟩
    ·have:es'.length=kvs.length:=by have:=congrArg List.length m.k1;simpa using this
     rw[this,cQ];exact hs.2
    ·have hh:bW kvs d=true:=by
      rcases gr with ⟨g1,_⟩|⟨_,_,_,g2,_⟩
      · rw [g1] at hz; cases hz
      · unfold bW; rw [g2]; rfl
     rw[if_pos hh] at q
     exact Rk.ok q σ F2 _ s12.ff ab2
    ·have hh:¬ bW kvs d=true:=by
      rcases gr with ⟨_,g2⟩|⟨_,_,g1,_,_⟩
      · unfold bW; rw [g2]; intro z; cases z
      · rw [g1] at hz; cases hz
     rw[if_neg hh] at q
     intro ep
     rw[hW]
     exact Rk.ok q σ F2 _ s12.ff (ab2.putM hi hp (m.put (DatV.same s2.ff r1) r2))
   ·exact q.elim
 ·exact k.elim
end
end Fl
namespace Fl
open PySem L2 PyProof.Rows
def aLF(i:Nat):Sg->R Fw:=fun ρ=>match ρ[i]? with
 | some (some (.l xs))=>.ok (.nx (ρ.set i (some (.l xs.reverse))))
 | _=>.bad
end Fl
namespace Zp
open PySem
theorem aAU(v:Value)(o:Obj) :
  Meets (Builtin.«enumerate.__new__» ⟨[.type "enumerate",v],[]⟩) (fun _ R s=>j5 v o s.heap /\
   R (.ok (.ret (.ref (s.heap.push o).objs.size))) {s with heap:=(s.heap.push o).push {cls:=.type "enumerate",data:=.fields #[.none,.bool false,.ref s.heap.objs.size,rawInt 0,.none,.none]}}):=
 .of_wp fun prog w A R s h=>by
  obtain ⟨hp,g,d,tk,os⟩:=s;obtain ⟨hl,h⟩:=h
  have hsub:=sub_enumerate
  have p1:∀ {A:Around} {E:Value->Shared->Prop} {Q:Value->Shared->Prop},Q (.ref hp.objs.size) ⟨hp.push o,g,d,tk,os⟩->wpAny (model prog w) A (pyIter v) Q E ⟨hp,g,d,tk,os⟩:=fun hq=>hl prog w _ _ ⟨hp,g,d,tk,os⟩ _ rfl hq
  wp_walk
  refine wpAny_stack_any fun st=>wpAny_pure ?_
  split
  ·rename_i c _ _ _ _ _
   cases (c == Value.type "enumerate")<;>(wp_walk using p1;exact ⟨_,rfl,h⟩)
  ·wp_walk using p1
   exact ⟨_,rfl,h⟩
theorem aCY{prog:Program}{w:World}{A:Around}{E:Value->Shared->Prop}{s:Shared}{v:Value}{o:Obj}{Q:Value->Shared->Prop}(h1:j5 v o s.heap)(f1:o.isFreed=false)
  (h:∀ h',IsEnum h' (s.heap.objs.size+1) s.heap.objs.size 0 .none->h'.get? s.heap.objs.size=some o->h'.objs.size=s.heap.objs.size+2->(∀ b o,s.heap.get? b=some o->h'.get? b=some o)->Q (.ref (s.heap.objs.size+1)) {s with heap:=h'}) :
  wpAny (model prog w) A (call (.type "enumerate") [v]) Q E s:=by
 refine callType_new F.called_enumerate (by decide) (F.typeCall_enumerate_1 _) (F.newCall_enumerate_1 _) (fun obj=>F.args_object_init_2 obj _) F.entry_enumerate_new (aAU v o) ⟨h1,?_⟩
 have hz:(s.heap.push o).objs.size=s.heap.objs.size+1:=Heap.size_push ..
 show _/\_
 rw[hz]
 have he:IsEnum ((s.heap.push o).push {cls:=.type "enumerate",data:=.fields #[.none,.bool false,.ref s.heap.objs.size,rawInt 0,.none,.none]}) (s.heap.objs.size+1) s.heap.objs.size 0 .none:=by
  have q:=Heap.get?_push_size (s.heap.push o) (o:={cls:=.type "enumerate",data:=.fields #[.none,.bool false,.ref s.heap.objs.size,rawInt 0,.none,.none]}) rfl
  rw[hz] at q;exact q
 exact ⟨⟨_,he,rfl⟩,h _ he (Heap.get?_push_of_some _ (Heap.get?_push_size _ f1)) (by rw[Heap.size_push,hz]) fun b o y=>Heap.get?_push_of_some _ (Heap.get?_push_of_some _ y)⟩
end Zp
namespace L2
open PySem PySem.Spec PyProof.Rows
def Itn(C:Col):It:=
 ⟨fun i H=>∃ xs,C H xs/\i < xs.length,fun i H x H'=>∃ p v,H p=none/\x=.ref p/\H'=upd H p (.tup [.int i,v])/\∀ xs,C H xs->xs[i]? = some v,fun i H=>∃ xs,C H xs/\i=xs.length⟩
theorem aAV{P:Program}{w:World}{K:Frag}{es:List Expr}{k1}{tpos:Pos}{C:Col}{e it:Addr}{tn:Nat->Heap->Prop}(c:ColOk P w K C it tn)(hei:e≠it) :
  Turn P w K (.Tuple es k1 tpos) (Itn C) [e,it] e (fun i h=>(∃ old,IsEnum h e it i old)/\tn i h) where
 mem:=by simp
 obj:=fun i h st b hb=>by
  obtain ⟨⟨old,s1⟩,s2⟩:=st
  rcases List.mem_cons.mp hb with z|z
  ·subst z
   exact ⟨_,s1,fun v z=>by have z':Data.fields _=Data.cell v:=z;cases z'⟩
  ·obtain rfl:b=it:=by simpa using z
   exact c.obj i h s2
 keep:=fun i h h' st k=>by
  obtain ⟨⟨old,s1⟩,s2⟩:=st
  exact ⟨⟨old,k e (by simp) _ s1⟩,c.keep i h h' s2 fun o q=>k it (by simp) o q⟩
 item:=by
  intro X hP hw hK hc i pins s σ H E I hf st hg
  obtain ⟨⟨old,s1⟩,s2⟩:=st
  obtain ⟨xs,hx,hlt⟩:=hg
  have hhd:X.A.in1.handled=none:=I.ok.hd hc
  obtain ⟨fp,Pv,S,D,a1,a2,a3,a4⟩:=c.draw X hP hw hK i pins s σ H xs X.A.in1 I (hf it (by simp)) s2 hx hhd
  have one:=fun zs (h:C H zs)=>c.one X hP hw hK pins s σ H zs xs I h hx
  subst hP hw hK
  obtain ⟨o2,eo2,_⟩:=c.obj _ _ s2
  refine wpAny_pyNext_enum_itemD D s1 a1 hlt hei (a4 e (hf e (by simp)) hei) fun u h' tk pu so si st hz' kp=>?_
  obtain ⟨x,hux,ru⟩:=a3 i u pu
  refine ⟨_,rfl,wpAny_letOwnedTupleGo_enum so fun h2 se sb=>?_⟩
  have ne1:s.heap.objs.size≠e:=Nat.ne_of_gt (Heap.lt_size s1)
  have hT2:h2.get? s.heap.objs.size=some {cls:=.type "tuple",data:=.seq #[.int i tk,u]}:=(sb.2 _ ne1).trans st
  have fT:H s.heap.objs.size=none:=I.hok.fresh (Nat.le_refl _)
  have kp2:∀ b o,b∉[e,it]->s.heap.get? b=some o->h2.get? b=some o:=fun b o hb q=>by
   simp only[List.mem_cons,List.not_mem_nil,or_false,not_or] at hb
   exact (sb.2 b hb.1).trans (kp b o hb.1 hb.2 q)
  have nfp:∀ b uu,H b=some uu->b∉[e,it]:=fun b uu q z2=>by rw[(hf b z2).1] at q;cases q
  have hok2:HOk X.prog X.w H h2:=fun b uu q=>by
   refine (I.hok b uu q).stay (fun c' v' hc' q'=>kp2 c' v' ?_ q') (fun _ q=>q) (fun _ _ q=>q) fun _ _ q=>q
   rcases hc' with z2|z2
   ·rw[z2];exact nfp b uu q
   ·exact nfp c' _ z2
  have hokT:HOk X.prog X.w (upd H s.heap.objs.size (.tup [.int i,x])) h2:=HOk.track hok2 fT ⟨by show 2<=sizeLine;decide,[.int i tk,u],.cons ⟨_,rfl⟩ (.cons ru .nil),⟨_,hT2,rfl,_,rfl⟩⟩
  have ltT:∀ b uu,H b=some uu->b≠s.heap.objs.size:=fun b uu q=>bI q fT
  have I2:Inv X pins σ (upd H s.heap.objs.size (.tup [.int i,x])) {s with heap:=h2,gens:=s.gens,drawn:=s.drawn,toks:=tk+1}:=by
   refine I.step (ch:=[e,it]) (fun b hb=>?_) (fun b o _ _ hc' q _=>kp2 b o hc' q) (fun b o _ _ hc' q _=>⟨o.slots,kp2 b o hc' q⟩)
    (fun b o _ q n=>by rw[aI (Nat.ne_of_lt (Heap.lt_size q))];exact n) (fun b o hc' q=>⟨o,kp2 b o hc' q⟩) (fun b ys q=>by rw[aI (ltT b _ q)];exact q) (fun b o uu q=>by rw[aI (ltT b _ q)];exact q)
    (fun b ps q=>by rw[aI (ltT b _ q)];exact q) (fun m hm=>?_) hokT I.bare
   ·obtain ⟨e0,e1,e2,e3,e4,e5⟩:=hf b hb
    exact ⟨e3,e1,e4,e5⟩
   ·obtain ⟨o,es',ep,ho,r⟩:=hm
    exact ⟨o,es',ep,kp2 _ o (fun z2=>(hf _ z2).2.1 rfl) ho,r⟩
  refine ⟨.ref s.heap.objs.size,_,I2,rfl,⟨_,x,fT,rfl,rfl,fun zs hzs=>by rw[one zs hzs];exact hux⟩,⟨⟨_,by simpa using se⟩,c.keep _ _ _ (a2 _ _ si) fun o q=>(sb.2 it hei.symm).trans q⟩,fun b hb=>?_⟩
  rw[aI]
  ·exact (hf b hb).1
  ·intro z2
   have hlt:b < s.heap.objs.size:=by
    simp only[List.mem_cons,List.not_mem_nil,or_false] at hb
    rcases hb with rfl|rfl
    · exact Heap.lt_size s1
    · exact Heap.lt_size eo2
   rw[z2] at hlt
   exact absurd hlt (Nat.lt_irrefl _)
 done:=by
  intro X hP hw hK hc i pins s σ H E I hf st hg
  obtain ⟨⟨old,s1⟩,s2⟩:=st
  obtain ⟨xs,hx,rfl⟩:=hg
  have hhd:X.A.in1.handled=none:=I.ok.hd hc
  obtain ⟨fp,Pv,S,D,a1,a2,a3,a4⟩:=c.draw X hP hw hK _ pins s σ H xs X.A.in1 I (hf it (by simp)) s2 hx hhd
  subst hP hw hK
  obtain ⟨g0,g1,g2,g3,g4,g5⟩:=hf it (by simp)
  exact wpAny_pyNext_enum_endD D s1 a1 fun h' eb=>⟨rfl,I.turned (t':=s.toks) (fun b o hb q=>eb b o hb q) g0 g1 g3 g4 g5⟩
 self:=fun _ _ _ _ _ st h=>wpAny_pyIter_enum st.1.choose_spec h
def aD5(K:Frag)(ta:TA):TI:=fun σ H R=>ta σ H fun vs H1=>∃ x C,vs=[x]/\qF K H1 x C/\R (Itn C) H1
theorem wG{X:Cx}{es:List Expr}{k1}{tpos:Pos}{a:Expr}{ta:TA}{p pos:Pos}(hg:Gl X "enumerate")(hm:X.mg "enumerate"=none)(ha:PA X [a] ta)(hs:starEach [a] X.env=[(false,eval a X.env)]:=by rfl) :
  PI X (.Tuple es k1 tpos) (.Call (.Name "enumerate" p) [a] [] pos) (aD5 X.K ta):=by
 intro pins s σ H R I h
 refine Call_ (iT I hg hm PyProof.Rows.boot_enumerate (PyProof.Rows.callWith_type1 (thn (ha pos pins s σ H _ I h) fun us s1 zz0=>?_) hs rfl))
 obtain ⟨vs,H1,I1,r1,q1⟩:=zz0
 obtain ⟨x,C,rfl,c1,q⟩:=q1
 obtain ⟨u,rfl,ru⟩:=kG r1
 obtain ⟨o1,t1,a1,a2,a3,a4⟩:=oN I1 ru c1
 refine Zp.aCY (a1 _ fun _ _ e=>e) a2 fun h' se si hz' kp=>?_
 have I2:Inv X pins σ H1 {s1 with heap:=h'}:=I1.kept (t':=s1.toks) kp
 refine wpAny_pyIter_enum se ?_
 refine ⟨s1.heap.objs.size+1,[s1.heap.objs.size+1,s1.heap.objs.size],_,_,H1,rfl,I2,aAV (a3 _) (Nat.ne_of_gt (Nat.lt_succ_self _)),⟨⟨_,se⟩,a4 _ _ si⟩,fun b hb=>?_,q⟩
 rcases List.mem_cons.mp hb with z|z
 ·subst z
  exact I1.fpOk (Nat.le_succ _) (I1.hok.fresh (Nat.le_succ _))
 ·obtain rfl:b=s1.heap.objs.size:=by simpa using z
  exact I1.fpOk (Nat.le_refl _) (I1.hok.fresh (Nat.le_refl _))
end L2
namespace Fl
open PySem L2 PyProof.Rows
def oP(p:PyData×Nat):PyData:=.tuple [.int (p.2:Int),p.1]
def kP(x:PyData):R (List PyData):=(aT x).bind fun xs=>.ok (xs.zipIdx.map oP)
theorem aFV{K:Frag}{F B:Hp}{C:Col}{us:List V}{xs:List PyData}(hz:xs.length<=16777216)(h1:∀ H1,aG F H1->aG B H1->C H1 us)(d1:DatVs K F us xs):Yld K (Itn C) F B (xs.zipIdx.map oP) where
 len:=by rw[cQ,List.length_map,List.length_zipIdx];exact hz
 go:=fun i F1 H1 a1 a2 a3 hi=>by
  rw[List.length_map,List.length_zipIdx] at hi
  have hs:aG F H1:=fun x o z=>a2 x o (a1 x o z)
  exact ⟨us,h1 H1 hs a3,by rw[d1.length];exact hi⟩
 yld:=fun i F1 H1 v H2 x a1 a2 a3 y e=>by
  obtain ⟨p,u,hp,rfl,rfl,y1⟩:=y
  have hs:aG F H1:=fun x o z=>a2 x o (a1 x o z)
  obtain ⟨dx,e1,r1⟩:=d1.get (y1 us (h1 H1 hs a3))
  rw[List.getElem?_map,List.getElem?_zipIdx,e1] at e
  simp only[Option.map_some,Nat.zero_add] at e
  cases e
  have sm:=aG.upd (o:=.tup [.int i,u]) (bG a2 hp)
  exact ⟨_,Ext.new a2 hp,.tup (SqT.of aU) (.cons (.int _) (.cons ((r1.same a1).same sm) .nil))⟩
 stop:=fun F1 H1 a1 a2 a3=>by
  have hs:aG F H1:=fun x o z=>a2 x o (a1 x o z)
  refine ⟨us,h1 H1 hs a3,?_⟩
  rw[List.length_map,List.length_zipIdx,d1.length]
section
variable{X:Cx}{c:Ct}{E:XK}{tg e:Expr}
theorem wH{f:Sg->R PyData}(hK:X.K=c.K)(h:PI X tg e (aD5 X.K (dF (tV (cL c) c E f) fS))):PI0 X c E tg e (e1 kP f):=PI.imp h fun σ H Q zz0=>by
 obtain ⟨ρ,F,ab,k⟩:=zz0
 refine ⟨ρ,F,ab,(Rk.bind k).imp fun x _ q v F' H' s r=>?_⟩
 unfold kP at q
 cases e1:aT x with
 | bad=>rw[e1] at q;exact q.elim
 | ex e=>exact absurd e1 nI
 | ok xs=>
  rw[e1] at q
  obtain ⟨C1,us,a1,a2,a3⟩:=aCV s.fh r e1
  rw[hK]
  exact ⟨v,C1,rfl,a1,Rk.ok q _ F' H' s (aFV (pK e1) (fun H1 z _=>a2 H1 z) a3)⟩
end
end Fl
namespace Fl
open PySem L2 PyProof.Rows
end Fl
namespace Fl
open PySem L2 PyProof.Rows
noncomputable def fzM(i:Nat)(ρ:Sg):Sg:=match ρ[i]? with
 | some (some (.m kvs))=>ρ.set i (some (.f kvs))
 | _=>ρ
def nJ(i:Nat)(f:Sg->R Fw):Sg->R Fw:=fun ρ=>f (fzM i ρ)
theorem Ab.frzM{c:Ct}{ρ:Sg}{σ:L2.St}{F H:Hp}(hw:c.w=c.g.w)(b:Ab c ρ σ F H)(i:Nat):∃ F',aG F F'/\Ab c (fzM i ρ) σ F' H:=by
 unfold fzM
 split
 ·rename_i xs hi
  obtain ⟨v,hp,p,es,rfl,⟨ep,h2⟩,h3,h4,h5⟩:=b.slot i _ hi
  exact ⟨_,aG.upd h3,b.publ hi hp rfl h2 h3 h4 rfl (show AF c.g c.K c.mg _ (.f xs) _ from ⟨p,es,rfl,⟨ep,by rw[aU,hw]⟩,h5.same (aG.upd h3)⟩)⟩
 ·exact ⟨F,bK F,b⟩
noncomputable def aLG(neg:Bool)(i:Nat)(f:Sg->R PyData):Sg->R PyData:=fun ρ=>(f ρ).bind fun k=>match ρ[i]? with
 | some (some (.f kvs))=>if bS k (kvs.map (·.1))=true then .ok (.bool (if neg=true then !bW kvs k else bW kvs k)) else .bad
 | _=>.bad
noncomputable def aJ5(i:Nat)(f:Sg->R PyData):Sg->R PyData:=fun ρ=>match ρ[i]? with
 | some (some (.f kvs))=>(f ρ).bind fun k=>if bS k (kvs.map (·.1))=true then (match bY kvs k with
  | some v=>.ok v
  | none=>.bad) else .bad
 | _=>.bad
section
variable{X:Cx}{c:Ct}{E:XK}{e:Expr}{st:Stmt}
theorem aIF(hw:c.w=c.g.w)(i:Nat){f:Sg->R Fw}(h:PSf X c E st f):PSf X c E st (nJ i f):=PS.imp h fun D σ H zz0=>by
 obtain ⟨ρ,F,ab,k⟩:=zz0
 obtain ⟨F',s,ab'⟩:=ab.frzM hw i
 refine ⟨fzM i ρ,F',ab',?_⟩
 have k':Rk c E F H (f (fzM i ρ)) (fV c F D):=k
 cases q:f (fzM i ρ) with
 | bad=>rw[q] at k';exact k'
 | ok w=>rw[q] at k';exact fV.same s k'
 | ex e=>rw[q] at k';exact k'
end
end Fl
namespace Zp
open PySem
def Raw(h:Heap)(d:Addr)(ar:Array DictEntry)(ep:Nat):Prop:=∃ o,h.get? d=some o/\o.ExactDict/\o.data=.dict ar ep
section
variable{prog:Program}{w:World}{A:Around}{E:Value->Shared->Prop}{s:Shared}{d it:Addr}{ar:Array DictEntry}{ep i:Nat}
theorem aCZ{Q:Value->Shared->Prop}(hd:(d == sysModules)=false)(hm:Raw s.heap d ar ep)(q:Q (.ref s.heap.objs.size) {s with heap:=s.heap.push {cls:=.type "dict_keyiterator",data:=.fields #[.ref d,.int 0 0,.int ar.size 0,.int ep 0]}}) :
  wpAny (model prog w) A (pyIter (.ref d)) Q E s:=by
 obtain ⟨o,ho,hc,hdat⟩:=hm
 have hT:s.TypeIs (.ref d) "dict":=⟨o,ho,hc.1⟩
 refine wpAny_pyIter_slot hT F.slot_dict_iter (wpAny_call_entry F.slot_dict_iter hT F.entry_dict_iter ?_ (F.args_dict_iter_1 _))
 unfold Builtin.«dict.__iter__»
 refine wpAny_bind ?_
 unfold Builtin.Dict.dictSlotNone
 refine wpAny_bind (wpAny_notOrdered_dict hT (wpAny_pure ?_))
 show wpAny _ _ (Builtin.Dict.showsAll d >>= _) _ _ s
 unfold Builtin.Dict.showsAll
 rw[if_neg (by rw[hd];exact Bool.false_ne_true)]
 refine wpAny_bind (wpAny_pure (wpAny_bind (wpAny_dictEntries ho hdat (wpAny_bind (wpAny_dictEpoch ho hdat ?_)))))
 refine wpAny_bind (wpAny_newObj_type (wpAny_pure ⟨_,rfl,"dict_keyiterator",_,⟨_,Heap.get?_push_size _ rfl,rfl⟩,F.slot_dict_keyiterator_next.lookup,?_⟩))
 simpa[rawInt] using q
theorem aC0{Q:Option Value->Shared->Prop}{en:DictEntry}(hit:s.heap.IsKeyIter it d i ar.size ep)(hm:Raw s.heap d ar ep)(hx:ar[i]? = some en)
  (q:∀ h',h'.IsKeyIter it d (i+1) ar.size ep->Heap.SameBut it s.heap h'->Q (some en.key) {s with heap:=h'}):wpAny (model prog w) A (pyNext (.ref it)) Q E s:=by
 obtain ⟨o,ho,hc,hd⟩:=id hit
 obtain ⟨od,hod,hcd,hdd⟩:=hm
 unfold pyNext
 refine wpAny_bind (wpAny_attempt (wpAny_callSpecial?_slot (name:=Str.ofString "__next__") hit.typeIs F.slot_dict_keyiterator_next
  (wpAny_call_entry F.slot_dict_keyiterator_next hit.typeIs F.entry_dict_keyiterator_next ?_ (F.args_dict_keyiterator_next_1 _))))
 refine wpAny_bind (wpAny_pure (wpAny_bind (wpAny_bind ?_)))
 first|refine wpAny_bind (wpAny_typeNameOfWhole_keyiter hit.typeIs (wpAny_pure ?_))|refine wpAny_bind (wpAny_typeNameOf_keyiter hit.typeIs (wpAny_pure ?_))
 refine wpAny_bind (wpAny_fieldsOf ho hd ?_)
 simp only[show Builtin.Dict_items.ownsTuple "dict_keyiterator"=false by decide,Bool.false_eq_true,if_false]
 show wpAny _ _ (if (Value.ref d == Value.none)=true then _ else _) _ _ s
 rw[if_neg (show ¬ ((Value.ref d == Value.none)=true) from Bool.false_ne_true)]
 refine wpAny_bind (wpAny_pure (wpAny_bind (wpAny_dictEntries hod hdd ?_)))
 rw[if_neg (by simp)]
 refine wpAny_bind (wpAny_pure (wpAny_bind (wpAny_dictEpoch hod hdd ?_)))
 rw[if_neg (by simp)]
 refine wpAny_pure ?_
 simp only[show ¬ ((i:Int) < 0) from by omega,if_false,Int.toNat_natCast,hx]
 refine wpAny_bind ?_
 first|refine wpAny_bind (wpAny_typeNameOfWhole_keyiter hit.typeIs (wpAny_pure ?_))|refine wpAny_bind (wpAny_typeNameOf_keyiter hit.typeIs (wpAny_pure ?_))
 refine wpAny_bind (wpAny_isOneOf_keyiter hit.typeIs ?_)
 show wpAny _ _ (setField (.ref it) 1 (rawInt ((i:Int)+1)) >>= _) _ _ s
 refine wpAny_bind (wpAny_setField ho hd (by simp) ?_)
 have hit':(s.heap.update it (Obj.mapFields (·.setIfInBounds 1 (rawInt ((i:Int)+1))))).IsKeyIter it d (i+1) ar.size ep:=
  ⟨_,Heap.get?_update_self _ ho (Obj.isFreed_of_fields (Obj.data_mapFields hd _)),(Obj.cls_mapFields ..).trans hc,by rw[Obj.data_mapFields hd];simp[rawInt]⟩
 refine wpAny_bind (wpAny_holding (wpAny_bind (wpAny_isOneOf_keyiter (s:={s with heap:=s.heap.update it (Obj.mapFields (·.setIfInBounds 1 (rawInt ((i:Int)+1))))}) hit'.typeIs ?_)))
 show wpAny _ _ (pure en.key) _ _ _
 exact wpAny_pure (wpAny_pure ⟨_,rfl,wpAny_pure (q _ hit' (Heap.SameBut.update ..))⟩)
theorem aFW{Q:Option Value->Shared->Prop}(hh:A.handled=none)(hit:s.heap.IsKeyIter it d i ar.size ep)(hm:Raw s.heap d ar ep)(hx:ar.size<=i)
  (q:∀ h',Heap.ExtBut it s.heap h'->Q none {s with heap:=h'}):wpAny (model prog w) A (pyNext (.ref it)) Q E s:=by
 obtain ⟨o,ho,hc,hd⟩:=id hit
 obtain ⟨od,hod,hcd,hdd⟩:=hm
 unfold pyNext
 refine wpAny_bind (wpAny_attempt (wpAny_callSpecial?_slot (name:=Str.ofString "__next__") hit.typeIs F.slot_dict_keyiterator_next
  (wpAny_call_entry F.slot_dict_keyiterator_next hit.typeIs F.entry_dict_keyiterator_next ?_ (F.args_dict_keyiterator_next_1 _))))
 refine wpAny_bind (wpAny_pure (wpAny_bind (wpAny_bind ?_)))
 first|refine wpAny_bind (wpAny_typeNameOfWhole_keyiter hit.typeIs (wpAny_pure ?_))|refine wpAny_bind (wpAny_typeNameOf_keyiter hit.typeIs (wpAny_pure ?_))
 refine wpAny_bind (wpAny_fieldsOf ho hd ?_)
 simp only[show Builtin.Dict_items.ownsTuple "dict_keyiterator"=false by decide,Bool.false_eq_true,if_false]
 show wpAny _ _ (if (Value.ref d == Value.none)=true then _ else _) _ _ s
 rw[if_neg (show ¬ ((Value.ref d == Value.none)=true) from Bool.false_ne_true)]
 refine wpAny_bind (wpAny_pure (wpAny_bind (wpAny_dictEntries hod hdd ?_)))
 rw[if_neg (by simp)]
 refine wpAny_bind (wpAny_pure (wpAny_bind (wpAny_dictEpoch hod hdd ?_)))
 rw[if_neg (by simp)]
 refine wpAny_pure ?_
 simp only[show ¬ ((i:Int) < 0) from by omega,if_false,Int.toNat_natCast,Array.getElem?_eq_none hx]
 refine wpAny_bind ?_
 first|refine wpAny_bind (wpAny_typeNameOfWhole_keyiter hit.typeIs (wpAny_pure ?_))|refine wpAny_bind (wpAny_typeNameOf_keyiter hit.typeIs (wpAny_pure ?_))
 show wpAny _ _ (setField (.ref it) 0 .none >>= _) _ _ s
 refine wpAny_bind (wpAny_setField ho hd (by simp) ?_)
 show wpAny _ _ (newExc (.type "StopIteration") [] >>= _) _ _ _
 refine wpAny_bind ?_
 simp only[newExc,newTuple]
 refine wpAny_bind (wpAny_newObj_type ?_ (by size_fits))
 refine wpAny_bind (m:=firstArgMember _ _) (wpAny_of_eq (a:=Value.none) (by first|rfl|(simp only[firstArgMember];rfl)) ?_)
 refine wpAny_newObj_type ?_ (by size_fits)
 simp only[raiseNew]
 refine wpAny_bind (wpAny_handled ?_)
 rw[show A.in1.handled=none from hh]
 refine wpAny_bind (wpAny_pure (wpAny_throw ?_))
 refine wpAny_bind (wpAny_isInstance (T:="StopIteration") (b:=true) ⟨_,Heap.get?_push_size _ rfl,rfl⟩ isSubtype_stop ?_)
 exact wpAny_pure (q _ (((Heap.SameBut.update ..).extBut.push _).push _))
end
end Zp
namespace Fl
open PySem L2 PyProof.Rows
def Itd(w:World)(d:Addr)(es:List Ent)(ep:Nat):It:=
 ⟨fun i H=>H d=some (cC w d es ep)/\i < es.length,fun i H x H'=>H'=H/\∃ e,es[i]? = some e/\x=e.2.1,fun i H=>H d=some (cC w d es ep)/\i=es.length⟩
theorem pL{α β:Type}{f:α->β->Prop}:∀ {xs:List α} {ys:List β} {i:Nat} {x:α},Paired f xs ys->xs[i]? = some x->∃ y,ys[i]? = some y/\f x y
 | _,_,_,_,.nil,h=>by simp at h
 | _,_,0,_,.cons q t,h=>by simp at h;subst h;exact ⟨_,rfl,q⟩
 | _,_,i+1,_,.cons q t,h=>by
  obtain ⟨y,h1,h2⟩:=pL (i:=i) t (by simpa using h)
  exact ⟨y,by simpa using h1,h2⟩
theorem n5{X:Cx}{pins:List (Addr×Obj)}{σ:L2.St}{H:Hp}{s:Shared}{d:Addr}{es:List Ent}{ep:Nat}(I:Inv X pins σ H s)(h:H d=some (cC X.w d es ep)):(d == sysModules)=false/\∃ ar,Zp.Raw s.heap d ar ep/\Paired (lX X.w) es ar.toList:=by
 obtain ⟨⟨hd,o,ar,h1,h2,h3,h4⟩,_,_⟩:=(show bN X.prog X.w H s.heap d (cC X.w d es ep) from I.hok d _ h)
 exact ⟨hd,ar,⟨o,h1,h2,h3⟩,h4⟩
theorem aC1{P:Program}{w:World}{K:Frag}{tg:Expr}(d it:Addr)(es:List Ent)(ep:Nat):Turn P w K tg (Itd w d es ep) [it] it (fun i h=>h.IsKeyIter it d i es.length ep) where
 mem:=by simp
 obj:=fun i h st b hb=>by
  obtain rfl:b=it:=by simpa using hb
  obtain ⟨o,e,c,dd⟩:=st
  exact ⟨o,e,fun v z=>by rw[dd] at z;cases z⟩
 keep:=fun i h h' st k=>st.at fun o e=>k it (by simp) o e
 item:=by
  intro X hP hw hK hc i pins s σ H E I hf st hg
  subst hP hw hK
  obtain ⟨hO,hi⟩:=hg
  obtain ⟨hd,ar,hr,hp⟩:=n5 I hO
  have hl:es.length=ar.size:=by rw[Paired.length hp];simp
  obtain ⟨en,h1,h2,h3,h4⟩:=pL hp (List.getElem?_eq_getElem hi)
  obtain ⟨f0,f1,f2,f3,f4,f5⟩:=hf it (by simp)
  rw[hl] at st
  refine Zp.aC0 st hr (en:=en) (by simpa using h1) fun h' st' sb=>?_
  have I1:Inv X pins σ H {s with heap:=h'}:=I.turned (t':=s.toks) (fun b o hb e=>(sb.2 b hb).trans e) f0 f1 f3 f4 f5
  obtain ⟨o,e,c,dd⟩:=id st'
  rw[<-hl] at st'
  exact ⟨_,rfl,o6 (s:={s with heap:=h'}) e c dd (by decide) ⟨es[i].2.1,H,I1,h3,⟨rfl,_,List.getElem?_eq_getElem hi,rfl⟩,st',fun b hb=>(hf b hb).1⟩⟩
 done:=by
  intro X hP hw hK hc i pins s σ H E I hf st hg
  subst hP hw hK
  obtain ⟨hO,hi⟩:=hg
  obtain ⟨hd,ar,hr,hp⟩:=n5 I hO
  have hl:es.length=ar.size:=by rw[Paired.length hp];simp
  obtain ⟨f0,f1,f2,f3,f4,f5⟩:=hf it (by simp)
  rw[hl] at st
  exact Zp.aFW (I.ok.hd hc) st hr (by omega) fun h' eb=>⟨rfl,I.turned (t':=s.toks) (fun b o hb e=>eb b o hb e) f0 f1 f3 f4 f5⟩
 self:=fun _ _ _ _ _ st h=>wpAny_pyIter_keyiter st h
def aLH(X:Cx)(tl:TE):TI:=fun σ H R=>tl σ H fun x H1=>∃ d es ep,x=.ref d/\H1 d=some (cC X.w d es ep)/\R (Itd X.w d es ep) H1
section
variable{X:Cx}{c:Ct}{E:XK}{tg e:Expr}
theorem aFX{l:Expr}{tl:TE}(hl:PE X l tl):PI X tg l (aLH X tl):=by
 intro pins s σ H R I h
 refine thn (hl pins s σ H _ I h) fun v s1 zz0=>?_
 obtain ⟨x,H1,I1,r1,q1⟩:=zz0
 obtain ⟨d,es,ep,rfl,hO,q⟩:=q1
 cases r1
 obtain ⟨hd,ar,hr,hp⟩:=n5 I1 hO
 have hsz:ar.size=es.length:=by rw[Paired.length hp];simp
 refine Zp.aCZ hd hr ?_
 rw[hsz]
 refine ⟨s1.heap.objs.size,[s1.heap.objs.size],_,_,H1,rfl,I1.kept (t':=s1.toks) fun b o e=>Heap.get?_push_of_some _ e,aC1 d _ es ep,⟨_,Heap.get?_push_size _ rfl,rfl,rfl⟩,fun b hb=>?_,q⟩
 obtain rfl:b=s1.heap.objs.size:=by simpa using hb
 exact I1.fpOk (Nat.le_refl _) (I1.hok.fresh (Nat.le_refl _))
theorem yK{K:Frag}{F:Hp}{es:List Ent}{kvs:List (PyData×PyData)}(m:MapRel K F es kvs){i:Nat}{en:Ent}{x:PyData}(h:es[i]? = some en)(hx:(kvs.map (·.1))[i]? = some x):DatV K F en.2.1 x:=by
 obtain ⟨d,h1,h2⟩:=m.k2.get (i:=i) (x:=en.2.1) (by rw[List.getElem?_map,h];rfl)
 rw[hx] at h1
 cases h1
 exact h2
theorem aFY{K:Frag}{F B:Hp}{w:World}{d:Addr}{es:List Ent}{ep:Nat}{kvs:List (PyData×PyData)}(hz:kvs.length<=16777216)(hO:F d=some (cC w d es ep))(m:MapRel K F es kvs):Yld K (Itd w d es ep) F B (kvs.map (·.1)):=by
 have hl:es.length=kvs.length:=by simpa using congrArg List.length m.k1
 exact {
  len:=by rw[cQ,List.length_map];exact hz
  go:=fun i F1 H1 h1 h2 h3 hi=>⟨h2 _ _ (h1 _ _ hO),by rw[List.length_map] at hi;omega⟩
  yld:=fun i F1 H1 v H2 x h1 h2 h3 y e=>by
   obtain ⟨rfl,en,he,rfl⟩:=y
   exact ⟨F1,Ext.refl h2,(yK m he e).same h1⟩
  stop:=fun F1 H1 h1 h2 h3=>⟨h2 _ _ (h1 _ _ hO),by rw[List.length_map];exact hl.symm⟩}
noncomputable def n6(i:Nat):Sg->R (List PyData):=fun ρ=>match ρ[i]? with
 | some (some (.f kvs))=>if kvs.length<=16777216 then .ok (kvs.map (·.1)) else .bad
 | _=>.bad
theorem aFZ{i:Nat}(hW:X.w=c.g.w)(h:PE X e (fQ i)):PI0 X c E tg e (n6 i):=PI.imp (aFX h) fun σ H Q ⟨ρ,F,ab,k⟩=>by
 unfold n6 at k
 split at k
 ·rename_i kvs hi
  split at k
  ·rename_i hz
   obtain ⟨v,hp,p,es,rfl,⟨ep,h2⟩,h5⟩:=ab.slot i _ hi
   refine ⟨_,hp,p,es,ep,rfl,by rw[hW];exact ab.fh _ _ h2,?_⟩
   rw[hW]
   exact Rk.ok k _ F H (Ext.refl ab.fh) (aFY hz h2 h5)
  ·exact k.elim
 ·exact k.elim
def pM(i:Nat):Sg->R PyData:=fun ρ=>match ρ[i]? with
 | some (some (.m kvs))=>if kvs.length<=16777216 then .ok (.int (kvs.length:Int)) else .bad
 | some (some (.f kvs))=>if kvs.length<=16777216 then .ok (.int (kvs.length:Int)) else .bad
 | _=>.bad
end
end Fl
namespace Zp
open PySem
abbrev aLI(h:Heap)(z TI TO:Addr)(f0 f1:Value):Prop:=h.get? z=some {cls:=.type "zip",dict:=none,data:=.fields #[f0,f1,.bool false,.ref TI,.ref TO],slots:=#[]}
end Zp
namespace Zp
open PySem
structure Jz(P1 P2:Nat->Value->Prop)(S1 S2:Nat->Heap->Prop)(s0:Heap)(z TI TO i1 i2 S:Addr)(n:Nat)(acc:Array Value)(h:Heap):Prop where
 size:acc.size<=n
 inc:∀ (j k p q:Nat),j < k->acc[j]? = some (.ref p)->acc[k]? = some (.ref q)->p < q
 top:∀ (j p:Nat),acc[j]? = some (.ref p)->p < h.objs.size
 told:∀ (j:Nat) v,acc[j]? = some v->∃ p x y,v=.ref p/\S < p/\IsPair h p x y/\P1 j x/\P2 j y
 s1:S1 acc.size h
 s2:S2 acc.size h
 ti:IsPair h TI (.ref i1) (.ref i2)
 keep:∀ c o,c≠z->c≠TO->c≠i1->c≠i2->c≠S->s0.get? c=some o->h.get? c=some o
 big:S < h.objs.size
 st:(acc.size=0/\IsZip h z TI TO .none/\∃ a b,IsPair h TO a b)\/(0 < acc.size/\∃ (T:Addr) (bb:Bool) (o:Obj),aLI h z TI TO (rawInt T) (.bool bb)/\h.get? T=some o/\S < T)
end Zp
namespace L2
open PySem PySem.Spec PyProof.Rows
structure LZ(H1 H2:Hp)(xs ys:List V)(l:Addr)(ps:List Addr):Prop where
 same:∀ b o,H1 b=some o->H2 b=some o
 new:H1 l=none
 lst:H2 l=some (.lst (ps.map .ref))
 len:ps.length=min xs.length ys.length
 tup:∀ (j:Nat) p,ps[j]? = some p->H1 p=none/\∃ u v,xs[j]? = some u/\ys[j]? = some v/\H2 p=some (.tup [u,v])
end L2
namespace HT
open PySem PySem.Spec PyProof.Rows L2
def lt2(i j:Int)(x y:Str):Bool:=if i=j then (if x=y then false else decide (x.cps.toList < y.cps.toList)) else decide (i < j)
section
open PySem.SeqAt
open PySem.AutoSeq1 (wpAny_loadPart')
open PySem.MeetsSeq PySem.MeetsSeq2 PySem.MeetsSeq3
theorem aJ6(A:Around)(s:Shared)(a:Int)(t:Tok)(c:Int)(u:Tok)(prog:Program)(w:World)(E:Value->Shared->Prop)(Q:Value->Shared->Prop)(h:Q (.bool (decide (a < c))) s) :
  wpAny (model prog w) A (richCompare .Lt (.int a t) (.int c u)) Q E s:=
 (PyProof.Rows.lt_int h:wpAny (model prog w) A (compareOp .Lt (.int a t) (.int c u)) Q E s)
theorem aJ7(A:Around)(s:Shared)(a:Str)(t:Tok)(c:Str)(u:Tok)(prog:Program)(w:World)(E:Value->Shared->Prop)(Q:Value->Shared->Prop)(h:Q (.bool (decide (a.cps.toList < c.cps.toList))) s) :
  wpAny (model prog w) A (richCompare .Lt (.str a t) (.str c u)) Q E s:=
 (PySem.P.lt_str h:wpAny (model prog w) A (compareOp .Lt (.str a t) (.str c u)) Q E s)
theorem r9(l b:Addr)(n n2:Nat)(dd dd2:Option Addr)(sl sl2:Array (Option Value))(i j:Int)(x y:Str)(t1 t2 t3 t4:Tok) :
  Meets (Builtin.«tuple.__lt__» ⟨[.ref l,.ref b],[]⟩)
   (fun _ R s=>s.heap.get? l=some {cls:=.type "tuple",dict:=dd,data:=.seq #[.int i t1,.str x t2] n,slots:=sl}/\s.heap.get? b=some {cls:=.type "tuple",dict:=dd2,data:=.seq #[.int j t3,.str y t4] n2,slots:=sl2} /\
    R (.ok (.ret (.bool (lt2 i j x y)))) s):=
 .of_wp fun prog w A R s h=>by
  obtain ⟨hp,g,d,tk,os⟩:=s;obtain ⟨hl,hb,h⟩:=h
  have f2:=AutoSeq1.sub_tuple_tuple
  wp_walk using wpAny_loadPart' hl,wpAny_loadPart' hb,wpAny_forIn_list _ (fun rest b s'=>b.1=none/\s'=(⟨hp,g,d,tk,os⟩:Shared)/\(rest=[((Value.int i t1,Value.int j t3):Value×Value),(Value.str x t2,Value.str y t4)]\/(rest=[((Value.str x t2,Value.str y t4):Value×Value)]/\i=j)\/(rest=[]/\i=j/\x=y))) _
  case turn=>
   rintro ⟨u,v⟩ rest b s' ⟨hb',rfl,hr⟩
   rcases hr with hr|⟨hr,hij⟩|⟨hr,_⟩
   ·injection hr with h1 h2
    injection h1 with h3 h4
    subst h3 h4 h2
    obtain ⟨e,he,hiff⟩:=aBY A.in1 ⟨hp,g,d,tk,os⟩ i t1 j t3
    refine wpAny_bind (he prog w _ _ ?_)
    cases e with
    | true=>
     have hij:=hiff.mp rfl
     wp_walk
     exact ⟨rfl,rfl,.inr (.inl ⟨rfl,hij⟩)⟩
    | false=>
     have hij:¬ i=j:=fun q=>absurd (hiff.mpr q) Bool.false_ne_true
     have hri:=aJ6 A.in1 ⟨hp,g,d,tk,os⟩ i t1 j t3 prog w
     wp_walk using hri
     exact ⟨_,rfl,by simpa[lt2,hij] using h⟩
   ·injection hr with h1 h2
    injection h1 with h3 h4
    subst h3 h4 h2
    have he:SeqAt.EqAt A.in1 (⟨hp,g,d,tk,os⟩:Shared) (.str x t2) (.str y t4) (x == y):=SeqAt.EqAt.str_str x t2 y t4
    refine wpAny_bind (he prog w _ _ ?_)
    cases hxy:(x == y) with
    | true=>
     have hxy':x=y:=by simpa using hxy
     wp_walk
     exact ⟨rfl,rfl,.inr (.inr ⟨rfl,hij,hxy'⟩)⟩
    | false=>
     have hxy':¬ x=y:=by simpa using hxy
     have hri:=aJ7 A.in1 ⟨hp,g,d,tk,os⟩ x t2 y t4 prog w
     wp_walk using hri
     exact ⟨_,rfl,by simpa[lt2,hij,hxy'] using h⟩
   ·cases hr
  case fin=>
   rintro ⟨b1,b2⟩ s' ⟨hb',rfl,hr⟩
   simp only at hb'
   subst hb'
   rcases hr with hr|⟨hr,_⟩|⟨_,hij,hxy⟩
   ·cases hr
   ·cases hr
   ·wp_walk
    exact ⟨_,rfl,by simpa[Builtin.Tuple.tupleCompareSizes,lt2,hij,hxy] using h⟩
  case h=>exact ⟨rfl,rfl,.inl rfl⟩
end
theorem yL{prog:Program}{w:World}{A:Around}{E:Value->Shared->Prop}{s:Shared}{l b:Addr}{i j:Int}{x y:Str}{t1 t2 t3 t4:Tok}{Q:Value->Shared->Prop}(hl:IsTup s.heap l #[.int i t1,.str x t2])(hb:IsTup s.heap b #[.int j t3,.str y t4])
  (hu:A.units < cLine) (h:Q (.bool (lt2 i j x y)) s):wpAny (model prog w) A (compareOp .Lt (.ref l) (.ref b)) Q E s:=by
 obtain ⟨⟨cls,dd,data,sl⟩,ho,hc,n,hd⟩:=id hl
 obtain ⟨⟨cls2,dd2,data2,sl2⟩,ho2,hc2,n2,hd2⟩:=id hb
 simp only at hc hd hc2 hd2
 subst hc hd hc2 hd2
 exact richCompare_meets_room (op:=.Lt) ⟨_,ho,rfl⟩ ⟨_,ho2,rfl⟩ PySem.F.slot_tuple_lt PySem.F.entry_tuple_lt (PySem.F.args_tuple_lt_2 _ _) (r9 l b n n2 dd dd2 sl sl2 i j x y t1 t2 t3 t4)
  ⟨ho,ho2,show Value.bool (lt2 i j x y)≠Value.notImplemented/\Q (.bool (lt2 i j x y)) s from ⟨(fun x=>nomatch x),h⟩⟩ hu
end HT
namespace Fl
open PySem L2 PyProof.Rows
noncomputable def nK:PyData->PyData->R PyData
 | .tuple [.int i,.str x],.tuple [.int j,.str y]=>.ok (.bool (HT.lt2 i j x y))
 | _,_=>.bad
theorem aAW:c8 nK:=by
 intro a b e h
 unfold nK at h
 split at h<;>cases h
theorem aF0{X:Cx}{c:Ct}(hK:X.K=c.K)(hu:X.A.units+64 < cLine):OpR X (compareOp .Lt) (r2D (bJ c) (bJ c) (cL c) nK):=by
 intro pins s σ H v u x y Q I rx ry h
 obtain ⟨H0,H1,F,a,b,d,sf,ra,rb,eg,q⟩:=h
 unfold nK at eg
 split at eg
 ·rename_i i z j w
  cases eg
  obtain ⟨pa,vs,rfl,fa,ha,da⟩:=aS.tup_of sf ra
  obtain ⟨pb,us,rfl,fb,hb,db⟩:=aS.tup_of sf rb
  rw[<-hK] at ha hb
  obtain rfl:=vZ da
  obtain rfl:=vZ db
  cases rx
  cases ry
  obtain ⟨its,r1,p1,_⟩:=I.tuple ha
  obtain ⟨its2,r2,p2,_⟩:=I.tuple hb
  cases r1 with
  | cons k1 r1=>cases r1 with
   | cons k2 r1=>cases r1 with
    | nil=>
     cases r2 with
     | cons k3 r2=>cases r2 with
      | cons k4 r2=>cases r2 with
       | nil=>
        obtain ⟨t1,rfl⟩:=k1
        obtain ⟨t2,rfl⟩:=k2
        obtain ⟨t3,rfl⟩:=k3
        obtain ⟨t4,rfl⟩:=k4
        exact HT.yL p1 p2 (by omega) ⟨.bl _,H,I,rfl,q _ F H (Ext.refl sf) (.bl _)⟩
 ·cases eg
end Fl
namespace Fl
open PySem L2 PyProof.Rows
end Fl
namespace L2
open PySem PySem.Spec PyProof.Rows
end L2
namespace Zp
open PySem PySem.Spec PyProof.Rows
section
variable{prog:Program}{w:World}{A:Around}{E:Value->Shared->Prop}{s:Shared}{d:Addr}{ar:Array DictEntry}{ep:Nat}
theorem sA(hd:(d == sysModules)=false) :
  MeetsIn prog w (Builtin.«dict.__len__» ⟨[.ref d],[]⟩) (fun _ R s=>∃ ar ep,Raw s.heap d ar ep/\R (.ok (.ret (.int ar.size s.toks))) {s with toks:=s.toks+1}):=
 .of_wp fun A R s zz0=>by
  obtain ⟨ar,ep,hm,h⟩:=zz0
  obtain ⟨o,ho,hc,hdat⟩:=hm
  show wpAny _ _ (dictSize d >>= _) _ _ s
  unfold dictSize
  refine wpAny_bind (wpAny_bind (wpAny_dictEntries ho hdat (wpAny_pure ?_)))
  show wpAny _ _ (Builtin.Dict.pendingCount d >>= _) _ _ s
  refine wpAny_bind (wpAny_pendingCount_other hd ?_)
  refine wpAny_ret_mkInt ?_
  rw[Nat.add_zero];exact h
theorem aF1{Q:Value->Shared->Prop}(hd:(d == sysModules)=false)(hm:Raw s.heap d ar ep)(hfit:(ar.size:Int) < 2 ^ 63)
  (h:∀ t t',Q (.int ar.size t) {s with toks:=t'}):wpAny (model prog w) A (call (.builtin "len") [.ref d]) Q E s:=by
 have hT:s.TypeIs (.ref d) "dict":=by
  obtain ⟨o,ho,hc,hdat⟩:=id hm
  exact ⟨o,ho,hc.1⟩
 refine Calls.call_function_entry kind_len plain_len entry_len (args_len1 _) ?_
 unfold Builtin.«len»
 refine wpAny_bind (m:=oneArg "len" _) (wpAny_pure ?_)
 refine wpAny_bind (m:=callSpecial? (.ref d) (Str.ofString "__len__")) (wpAny_callSpecial?_slot (name:=Str.ofString "__len__") hT F.slot_dict_len
  (call_meetsIn F.slot_dict_len hT F.entry_dict_len (F.args_dict_len_1 _) (sA hd) ⟨ar,ep,hm,?_⟩))
 show wpAny _ _ _ _ _ {s with toks:=s.toks+1}
 refine wpAny_bind (wpAny_holding (wpAny_pure ?_))
 refine wpAny_bind (wpAny_letGo ?_)
 show wpAny _ _ (if ((ar.size:Nat):Int) < 0 then _ else _) _ _ _
 rw[if_neg (by omega)]
 show wpAny _ _ (if ((ar.size:Nat):Int)>=2 ^ 63 then _ else _) _ _ _
 rw[if_neg (by omega)]
 exact wpAny_bind (wpAny_mkInt (wpAny_pure ⟨_,rfl,h _ _⟩))
end
end Zp
namespace Fl
open PySem L2 PyProof.Rows
section
variable{X:Cx}{c:Ct}{E:XK}{e:Expr}
theorem aAX:fK X (.builtin "len") (fun xs H Q=>∃ d es ep,xs=[.ref d]/\H d=some (cC X.w d es ep)/\es.length<=16777216/\Q (.int (es.length:Int)) H):=by
 intro pins s σ H xs us Q I r h
 obtain ⟨d,es,ep,rfl,hO,hl,q⟩:=h
 obtain ⟨u,rfl,ru⟩:=kG r
 cases (show u=Value.ref d from ru)
 obtain ⟨hd,ar,hr,hp⟩:=n5 I hO
 have hsz:ar.size=es.length:=by rw[Paired.length hp];simp
 refine Zp.aF1 hd hr (by rw[hsz];omega) fun t t'=>?_
 rw[hsz]
 exact ⟨.int (es.length:Int),H,I.tok _,⟨t,rfl⟩,q⟩
theorem aF2{i:Nat}(hW:X.w=c.g.w)(hW2:X.w=c.w)(h:PE X e (tCB (fun xs H Q=>∃ d es ep,xs=[.ref d]/\H d=some (cC X.w d es ep)/\es.length<=16777216/\Q (.int (es.length:Int)) H) (dF (fQ i) fS))):PD X c E e (pM i):=PE.imp h fun σ H Q ⟨ρ,F,ab,k⟩=>by
 unfold pM at k
 split at k
 ·rename_i kvs hi
  split at k
  ·rename_i hz
   obtain ⟨v,hp,p,es,rfl,⟨ep,h2⟩,h3,h4,h5⟩:=ab.slot i _ hi
   have hl:es.length=kvs.length:=by simpa using congrArg List.length h5.k1
   refine ⟨_,hp,p,es,ep,rfl,by rw[hW2];exact h2,by omega,?_⟩
   rw[hl]
   exact Rk.ok k _ F H (Ext.refl ab.fh) (.int _)
  ·exact k.elim
 ·rename_i kvs hi
  split at k
  ·rename_i hz
   obtain ⟨v,hp,p,es,rfl,⟨ep,h2⟩,h5⟩:=ab.slot i _ hi
   have hl:es.length=kvs.length:=by simpa using congrArg List.length h5.k1
   refine ⟨_,hp,p,es,ep,rfl,by rw[hW];exact ab.fh _ _ h2,by omega,?_⟩
   rw[hl]
   exact Rk.ok k _ F H (Ext.refl ab.fh) (.int _)
  ·exact k.elim
 ·exact k.elim
end
end Fl
namespace Mc
open PySem L2 PyProof.Rows Fl
noncomputable def nL:Sg->R Fw:=(aD (cJ 3 (dD (aA (eV 0) aK)))
 (aD (mG 4 (mF (eV 0) (eC (.int 0)) oH))
 (aD (cJ 5 (dD aK))
 (aD (bA (kZ (e1 asB (e2 dLt (e1 dLen (rV 5)) (e1 dLen (rV 3)))) (fG (e1 asB (pH 12 2 (aA (rV 3) (aA (e1 dLen (rV 5)) aK)))))) (aD (cJ 6 (dD aK))
 (aD (dE (e1 aT (tX 12 1 (aA (e2 dIx (rV 3) (e1 dLen (rV 5))) aK))) (stN 7) (aD (sIf (e1 asB (mD true 4 (eV 7))) (aD (kO 4 (eV 7) (e1 dLen (rV 3)))
 (dY 3 (eV 7))) sNx)
 (dY 6 (f9 4 (eV 7)))))
 (dY 5 (e1 dTup (rV 6))))))
 (sFz 5 (sFz 3 (bL (vD (cS (aA (eV 3) (aA (eV 5) aK)))))))))))
noncomputable def gY:List A->R A:=fnF 8 nL
noncomputable def aAY:Sg->R Fw:=(bL (vD (e1 (eF "str") (rV 0))))
noncomputable def rT:List A->R A:=fnF 1 aAY
noncomputable def aAZ:Sg->R Fw:=(aD (mC 3)
 (aD (bA (fG (e1 asB (eA (bC 1 rT (aA (vV 2) aK))))) (aD (sIf (e1 asB (mD false 3 (eV 2))) (bL (vD (eC (.str "ever")))) sNx)
 (aD (kO 3 (eV 2) (eC (.bool true)))
 (aD (aR 4 (vD (e2 dIx (rV 1) (rV 2))))
 (aD (sIf (e1 asB (e2 dEq (e2 dIx (rV 4) (eC (.int 1))) (eC (.int 1)))) (bL (vD (e2 dIx (rV 4) (eC (.int 0))))) sNx)
 (aR 2 (vD (e2 dIx (rV 0) (e2 dIx (rV 4) (eC (.int 0)))))))))))
 (bL (vV 2))))
noncomputable def rU:List A->R A:=fnF 5 aAZ
noncomputable def aC2:Sg->R Fw:=(aD (aR 2 (bC 3 rU (aA (vD (e2 dIx (rV 0) (eC (.int 1)))) (aA (vV 1) (aA (vD (e2 dIx (rV 0) (eC (.int 0)))) aK)))))
 (aD (aR 3 (vD (e1 dTup (eL (f8 [none,some 0,some 1] (cR (e1 dLen (rV 1))) (stN 0) iI (eA (bC 3 rU (aA (vD (e2 dIx (rV 1) (eC (.int 1)))) (aA (vV 2) (aA (vV 0) aK))))))))))
 (bL (vD (cS (aA (eV 2) (aA (eV 3) aK)))))))
noncomputable def aC3:List A->R A:=fnF 4 aC2
noncomputable def qG:Sg->R Fw:=(bL (vD (eC (.bool false))))
noncomputable def gZ:List A->R A:=fnF 2 qG
noncomputable def oQ:Sg->R Fw:=(aD (mC 1)
 (aD (dE (e1 kP (eV 0)) (stT [(stN 2),(stN 3)]) (n4 1 (eV 3) (eV 2)))
 (bL (vD (eL (f8 [none,some 1] (e1 aT (rV 0)) (stN 0) iI (f9 1 (eV 0))))))))
noncomputable def eK:List A->R A:=fnF 4 oQ
noncomputable def gA:Sg->R Fw:=(bL (vD (e1 dTup (eL (f8 [none,some 0] (e1 aT (rV 1)) (stN 0) iI (e2 dIx (rV 1) (rV 0)))))))
noncomputable def b9:List A->R A:=fnF 2 gA
noncomputable def qH:Sg->R Fw:=(bL (bC 1 eK (aA (vD (eL (f8 [none,none,some 1] (e2 t7 (rV 1) (rV 0)) (stT [(stN 0),(stN 1)]) iI (cS (aA (eV 0) (aA (eA (bC 2 b9 (aA (vV 2) (aA (vV 1) aK)))) aK)))))) aK)))
noncomputable def g9:List A->R A:=fnF 2 qH
noncomputable def i9:Sg->R Fw:=(aD (aR 1 (bC 1 eK (aA (vD (e2 dIx (rV 0) (eC (.int 1)))) aK)))
 (aD (aR 2 (bC 2 g9 (aA (vD (e2 dIx (rV 0) (eC (.int 0)))) (aA (vV 1) aK))))
 (aD (bA (e1 asB (e2 dNe (rV 2) (rV 1))) (aD (aR 1 (vV 2))
 (aR 2 (bC 2 g9 (aA (vD (e2 dIx (rV 0) (eC (.int 0)))) (aA (vV 1) aK))))))
 (bL (vV 1)))))
noncomputable def dS:List A->R A:=fnF 3 i9
noncomputable def dN:Sg->R Fw:=(bL (bC 2 b9 (aA (vV 1) (aA (vD (e2 dIx (e2 dIx (rV 2) (eC (.int 0))) (rV 0))) aK))))
noncomputable def qI:Sg->R Fw:=(aD (aR 1 (bC 1 dS (aA (vV 0) aK)))
 (aD (yH 2 "least.<locals>.after")
 (aD (aR 3 (pJ [1,0] 3 gY (aA (vD (e2 dIx (rV 1) (eC (.int 0)))) (aA (sI "least.<locals>.after" [1,0] 2 1 (oI 3 dN) 2) (aA (yJ 1 2 gZ) aK)))))
 (bL (vD (cS (aA (e1 dTup (e2 dIx (rV 3) (eC (.int 1)))) (aA (e1 dTup (eL (f8 [none,some 0] (e1 aT (e2 dIx (rV 3) (eC (.int 0)))) (stN 0) iI (e2 dIx (e2 dIx (rV 1) (eC (.int 1))) (rV 0))))) aK))))))))
noncomputable def eW:List A->R A:=fnF 4 qI
end Mc
namespace Mc
open PySem L2 PyProof.Rows
theorem sD.take{sg:Nat}{z:List Nat}(S:sD sg z)(i:Nat):sD sg (z.take i):=⟨by rw[List.length_take];have:=S.1;omega,fun c hc=>S.2 c (List.mem_of_mem_take hc)⟩
end Mc
namespace Fl
open PySem L2 PyProof.Rows
@[simp] theorem yM(d:PyData)(ρ:Sg):eC d ρ=.ok d:=id rfl
@[simp] theorem yN{α β:Type}(g:α->R β)(f:Sg->R α)(ρ:Sg):e1 g f ρ=(f ρ).bind g:=id rfl
@[simp] theorem n8{α β γ:Type}(g:α->β->R γ)(f:Sg->R α)(f':Sg->R β)(ρ:Sg):e2 g f f' ρ=(f ρ).bind fun x=>(f' ρ).bind fun y=>g x y:=id rfl
@[simp] theorem aJ8(i:Nat)(ρ:Sg):eV i ρ=match ρ[i]? with|some (some (.d x))=>.ok x|_=>.bad:=id rfl
@[simp] theorem sJ(i:Nat)(ρ:Sg):rV i ρ=match ρ[i]? with|some (some (.d x))=>.ok x|some (some (.l xs))=>.ok (.list xs)|_=>.bad:=id rfl
@[simp] theorem aJ9(i:Nat)(ρ:Sg):vV i ρ=match ρ[i]? with|some (some (.d x))=>.ok (.d x)|some (some (.x e))=>.ok (.x e)|some (some (.g k n f))=>.ok (.g k n f)|some (some (.f kvs))=>.ok (.f kvs)|_=>.bad:=id rfl
@[simp] theorem yO(f:Sg->R PyData)(ρ:Sg):vD f ρ=(f ρ).bind fun x=>.ok (.d x):=id rfl
@[simp] theorem aMK(x:PyData):getD (.d x)=.ok x:=id rfl
@[simp] theorem aNI(f:Sg->R A)(ρ:Sg):eA f ρ=(f ρ).bind getD:=id rfl
@[simp] theorem aD6(f:Sg->R (List PyData))(ρ:Sg):eL f ρ=(f ρ).bind fun xs=>.ok (.list xs):=id rfl
@[simp] theorem lH{α:Type}(ρ:Sg):(aK (α:=α)) ρ=.ok []:=id rfl
@[simp] theorem mJ{α:Type}(f:Sg->R α)(g:Sg->R (List α))(ρ:Sg):aA f g ρ=(f ρ).bind fun x=>(g ρ).bind fun xs=>.ok (x::xs):=id rfl
@[simp] theorem aF3(f:Sg->R (List PyData))(ρ:Sg):cS f ρ=(f ρ).bind fun xs=>if xs.length<=16777216 then .ok (.tuple xs) else .bad:=id rfl
@[simp] theorem qJ(f:Sg->R (List PyData))(ρ:Sg):dD f ρ=(f ρ).bind fun xs=>if xs.length<=16777216 then .ok xs else .bad:=id rfl
@[simp] theorem aC4(n:Nat)(G:List A->R A)(f:Sg->R (List A))(ρ:Sg):bC n G f ρ=(f ρ).bind fun as=>if as.length=n then G as else .bad:=id rfl
@[simp] theorem aA0(n:Nat)(fb:Sg->R Fw)(as:List A):fnF n fb as=(fb (as.map some++List.replicate (n - as.length) none)).bind fun w=>match w with | .rt (.l _)=>.bad | .rt a=>.ok a | .nx _=>.ok (.d .none)|_=>.bad:=id rfl
@[simp] theorem aML(ρ:Sg):sNx ρ=.ok (.nx ρ):=id rfl
@[simp] theorem cY(f g:Sg->R Fw)(ρ:Sg):aD f g ρ=(f ρ).bind fun w=>match w with | .nx ρ'=>g ρ'|w=>.ok w:=id rfl
@[simp] theorem aLZ(f:Sg->R A)(ρ:Sg):bL f ρ=(f ρ).bind fun a=>.ok (.rt a):=id rfl
@[simp] theorem aLJ(ρ:Sg):aJ1 ρ=.ok (.rt (.d .none)):=id rfl
@[simp] theorem aMM(t:Sg->R Bool)(f g:Sg->R Fw)(ρ:Sg):sIf t f g ρ=(t ρ).bind fun b=>if b=true then f ρ else g ρ:=id rfl
@[simp] theorem aMN{α:Type}(t:Sg->R Bool)(f g:Sg->R α)(ρ:Sg):eIf t f g ρ=(t ρ).bind fun b=>if b=true then f ρ else g ρ:=id rfl
@[simp] theorem qK(i:Nat)(f:Sg->R A)(ρ:Sg):aR i f ρ=(f ρ).bind fun a=>.ok (.nx (ρ.set i (some a))):=id rfl
@[simp] theorem oR(i:Nat)(f:Sg->R (List PyData))(ρ:Sg):cJ i f ρ=(f ρ).bind fun xs=>.ok (.nx (ρ.set i (some (.l xs)))):=id rfl
@[simp] theorem aLK(f:Sg->R A)(ρ:Sg):aDY f ρ=(f ρ).bind fun _=>.ok (.nx ρ):=id rfl
@[simp] theorem aMO(i:Nat)(f:Sg->R Fw)(ρ:Sg):sFz i f ρ=f (fz i ρ):=id rfl
@[simp] theorem aNJ(i:Nat)(ρ:Sg):fz i ρ=match ρ[i]? with|some (some (.l xs))=>ρ.set i (some (.d (.list xs)))|_=>ρ:=id rfl
@[simp] theorem wI(i:Nat)(f:Sg->R PyData)(ρ:Sg):dY i f ρ=match ρ[i]? with|some (some (.l xs))=>(f ρ).bind fun x=>if xs.length < 16777216 then .ok (.nx (ρ.set i (some (.l (xs++[x]))))) else .bad|_=>.bad:=id rfl
@[simp] theorem aL0(fs:PyData->Sg->Option Sg)(f:Sg->R PyData)(ρ:Sg):mE fs f ρ=(f ρ).bind fun x=>(tO (fs x ρ)).bind fun ρ'=>.ok (.nx ρ'):=id rfl
@[simp] theorem qL(fi:Sg->R (List PyData))(fs:PyData->Sg->Option Sg)(fb:Sg->R Fw)(ρ:Sg):dE fi fs fb ρ=(fi ρ).bind fun xs=>gC fs fb xs ρ:=id rfl
@[simp] theorem aC5(js:List (Option Nat))(fi:Sg->R (List PyData))(fs:PyData->Sg->Option Sg)(ft:Sg->R Bool)(fe:Sg->R PyData)(ρ:Sg):f8 js fi fs ft fe ρ=(fi ρ).bind fun xs=>compL fs ft fe (gO js ρ) xs:=id rfl
@[simp] theorem aKO(cn:Str)(fs:List Str)(f:Sg->R (List PyData))(ρ:Sg):aHZ cn fs f ρ=(f ρ).bind fun xs=>if xs.length=fs.length then .ex ⟨cn,fs.zip xs⟩ else .bad:=id rfl
@[simp] theorem aMP(i:Nat)(x:PyData)(ρ:Sg):stN i x ρ=some (ρ.set i (some (.d x))):=id rfl
@[simp] theorem aMQ(fs:List (PyData->Sg->Option Sg))(xs:List PyData)(ρ:Sg):stT fs (.tuple xs) ρ=stL fs xs ρ:=id rfl
@[simp] theorem aL1(ρ:Sg):stL [] [] ρ=some ρ:=id rfl
@[simp] theorem aLL(f:PyData->Sg->Option Sg)(fs:List (PyData->Sg->Option Sg))(x:PyData)(xs:List PyData)(ρ:Sg):stL (f::fs) (x::xs) ρ=(f x ρ).bind (stL fs xs):=id rfl
@[simp] theorem aF4(ρ:Sg):iI ρ=.ok true:=id rfl
@[simp] theorem aMR(b:Bool):asB (.bool b)=.ok b:=id rfl
@[simp] theorem aL2(f:Sg->R Bool)(ρ:Sg):fG f ρ=(f ρ).bind fun b=>.ok (!b):=id rfl
@[simp] theorem aL3(f g:Sg->R Bool)(ρ:Sg):kZ f g ρ=(f ρ).bind fun b=>if b=true then g ρ else .ok false:=id rfl
@[simp] theorem aMS(f g:Sg->R Bool)(ρ:Sg):bOr f g ρ=(f ρ).bind fun b=>if b=true then .ok true else g ρ:=id rfl
@[simp] theorem aL4(f:Sg->R PyData)(ρ:Sg):aK9 f ρ=(f ρ).bind fun x=>(asB x).bind fun b=>.ok (.bool (!b)):=id rfl
@[simp] theorem aL5(f g:Sg->R PyData)(ρ:Sg):k6 f g ρ=(f ρ).bind fun x=>(asB x).bind fun b=>if b=true then g ρ else .ok (.bool false):=id rfl
@[simp] theorem aMT(f g:Sg->R PyData)(ρ:Sg):eOr f g ρ=(f ρ).bind fun x=>(asB x).bind fun b=>if b=true then .ok (.bool true) else g ρ:=id rfl
@[simp] theorem aMU(g g':PyData->PyData->R PyData)(fa fb fc:Sg->R PyData)(ρ:Sg):eCh g g' fa fb fc ρ=(fa ρ).bind fun x=>(fb ρ).bind fun y=>(g x y).bind fun z=>(asB z).bind fun k=>if k=true then (fc ρ).bind fun w=>g' y w else .ok (.bool false):=id rfl
@[simp] theorem aMV{α:Type}(g:PyData->Option Int->Option Int->R α)(f:Sg->R PyData)(lo hi:Sg->R (Option Int))(ρ:Sg):eSl g f lo hi ρ=(f ρ).bind fun x=>(lo ρ).bind fun l=>(hi ρ).bind fun h=>g x l h:=id rfl
@[simp] theorem aMW(ρ:Sg):oNo ρ=.ok none:=id rfl
@[simp] theorem aMX(f:Sg->R PyData)(ρ:Sg):oSo f ρ=(f ρ).bind fun x=>match x with | .int i=>.ok (some i)|_=>.bad:=id rfl
@[simp] theorem yP(f:Sg->R PyData)(ρ:Sg):cR f ρ=(f ρ).bind fun x=>match x with | .int j=>iA 0 j|_=>.bad:=id rfl
@[simp] theorem aKA(f g:Sg->R PyData)(ρ:Sg):aE7 f g ρ=(f ρ).bind fun x=>(g ρ).bind fun y=>match x,y with | .int i,.int j=>iA i j|_,_=>.bad:=id rfl
@[simp] theorem aL6(f:Sg->R PyData)(g:Sg->R (Option Int))(ρ:Sg):aLB f g ρ=(f ρ).bind fun x=>(g ρ).bind fun o=>if o=some (-1) then aH0 x else .bad:=id rfl
@[simp] theorem aL7(i:Nat)(g:PyData->PyData->R PyData)(f:Sg->R PyData)(ρ:Sg):aLA i g f ρ=(eV i ρ).bind fun x=>(f ρ).bind fun y=>(g x y).bind fun z=>.ok (.nx (ρ.set i (some (.d z)))):=id rfl
@[simp] theorem aLM(i:Nat)(ρ:Sg):mC i ρ=.ok (.nx (ρ.set i (some (.m [])))):=id rfl
@[simp] theorem aL8(neg:Bool)(i:Nat)(f:Sg->R PyData)(ρ:Sg):mD neg i f ρ=(f ρ).bind fun k=>match ρ[i]? with|some (some (.m kvs))=>if bS k (kvs.map (·.1))=true then .ok (.bool (if neg=true then !bW kvs k else bW kvs k)) else .bad|some (some (.f kvs))=>if bS k (kvs.map (·.1))=true then .ok (.bool (if neg=true then !bW kvs k else bW kvs k)) else .bad|_=>.bad:=id rfl
@[simp] theorem aLN(i:Nat)(f:Sg->R PyData)(ρ:Sg):f9 i f ρ=match ρ[i]? with|some (some (.m kvs))=>(f ρ).bind fun k=>if bS k (kvs.map (·.1))=true then (match bY kvs k with|some v=>.ok v|none=>.bad) else .bad|some (some (.f kvs))=>(f ρ).bind fun k=>if bS k (kvs.map (·.1))=true then (match bY kvs k with|some v=>.ok v|none=>.bad) else .bad|_=>.bad:=id rfl
@[simp] theorem aLO(i:Nat)(f g:Sg->R PyData)(ρ:Sg):kO i f g ρ=(g ρ).bind fun v=>match ρ[i]? with|some (some (.m kvs))=>(f ρ).bind fun k=>if bS k (kvs.map (·.1))=true/\kvs.length<=16777216 then .ok (.nx (ρ.set i (some (.m (putM kvs k v))))) else .bad|_=>.bad:=id rfl
@[simp] theorem aMY(i j:Int):bX (.int i) (.int j)=.ok (.int (i+j)):=id rfl
@[simp] theorem aMZ(i j:Int):dSub (.int i) (.int j)=.ok (.int (i - j)):=id rfl
@[simp] theorem aL9(i j:Int):aJ0 (.int i) (.int j)=.ok (.int (i+j)):=id rfl
@[simp] theorem aM0(i:Int):aK7 (.int i)=.ok (.int (-i)):=id rfl
@[simp] theorem aNK(i j:Int):dLt (.int i) (.int j)=.ok (.bool (decide (i < j))):=id rfl
@[simp] theorem aNL(i j:Int):dLe (.int i) (.int j)=.ok (.bool (decide (i<=j))):=id rfl
@[simp] theorem aNM(i j:Int):dGt (.int i) (.int j)=.ok (.bool (decide (j < i))):=id rfl
@[simp] theorem aNN(i j:Int):dGe (.int i) (.int j)=.ok (.bool (decide (j<=i))):=id rfl
theorem dX{i j:Int}(h:0 < j):dMod (.int i) (.int j)=.ok (.int (i % j)):=if_pos h
theorem j6{i j:Int}(h:0 < j)(h2:j < 18446744073709551616):dDiv (.int i) (.int j)=.ok (.int (i / j)):=if_pos ⟨h,h2⟩
theorem t9{i j:Int}(h : -18446744073709551616 < j)(h2:j < 18446744073709551616):dMul (.int i) (.int j)=.ok (.int (i * j)):=if_pos (.inr ⟨h,h2⟩)
theorem aA1{i j:Int}(h : -18446744073709551616 < i)(h2:i < 18446744073709551616):dMul (.int i) (.int j)=.ok (.int (i * j)):=if_pos (.inl ⟨h,h2⟩)
@[simp] theorem j7(xs:List PyData):dLen (.list xs)=.ok (.int xs.length):=id rfl
@[simp] theorem aIG(xs:List PyData):dLen (.tuple xs)=.ok (.int xs.length):=id rfl
theorem aA2{z:Str}(h:z.length<=16777216):dLen (.str z)=.ok (.int z.length):=if_pos h
@[simp] theorem uA(xs:List PyData):dTup (.list xs)=.ok (.tuple xs):=id rfl
@[simp] theorem aM1(xs:List PyData):dTup (.tuple xs)=.ok (.tuple xs):=id rfl
@[simp] theorem aM2(xs:List PyData):dLst (.list xs)=.ok xs:=id rfl
@[simp] theorem aM3(xs:List PyData):dLst (.tuple xs)=.ok xs:=id rfl
@[simp] theorem aM4(i:Int):aHY (.int i)=.ok (.int i):=id rfl
@[simp] theorem aM5(b:Bool):aHY (.bool b)=.ok (.int (if b=true then 1 else 0)):=id rfl
@[simp] theorem aNO(x:PyData):dIs x .none=.ok (.bool (f7 x)):=id rfl
@[simp] theorem aMA(x:PyData):dIsnt x .none=.ok (.bool (!f7 x)):=id rfl
@[simp] theorem aMB:f7 .none=true:=id rfl
@[simp] theorem aMC(xs:List PyData):f7 (.tuple xs)=false:=id rfl
@[simp] theorem aMD(i:Int):f7 (.int i)=false:=id rfl
@[simp] theorem aME(i:Str):f7 (.str i)=false:=id rfl
theorem aF5{α:Type}{xs:List α}{i:Int}{v:α}(h0:0<=i)(h:xs[i.toNat]? = some v):atI xs i=some v:=by
 obtain ⟨j,rfl⟩:∃ j:Nat,i=j:=⟨i.toNat,by omega⟩
 exact dB (j:=j) h
theorem uB{α:Type}(x:α)(t:List α):atI (x::t) 0=some x:=dB (j:=0) rfl
theorem wJ{α:Type}(x y:α)(t:List α):atI (x::y::t) 1=some y:=dB (j:=1) rfl
theorem aF6{α:Type}(x y z:α)(t:List α):atI (x::y::z::t) 2=some z:=dB (j:=2) rfl
theorem kQ{xs:List PyData}{i:Int}{v:PyData}(h:atI xs i=some v):dIx (.tuple xs) (.int i)=.ok v:=by show (match atI xs i with|some v=>R.ok v|none=>.bad)=_;rw[h]
theorem iR{xs:List PyData}{i:Int}{v:PyData}(h:atI xs i=some v):dIx (.list xs) (.int i)=.ok v:=by show (match atI xs i with|some v=>R.ok v|none=>.bad)=_;rw[h]
@[simp] theorem aM6(x:PyData)(t:List PyData):dIx (.tuple (x::t)) (.int 0)=.ok x:=kQ (uB x t)
@[simp] theorem aM7(x y:PyData)(t:List PyData):dIx (.tuple (x::y::t)) (.int 1)=.ok y:=kQ (wJ x y t)
@[simp] theorem aM8(x y z:PyData)(t:List PyData):dIx (.tuple (x::y::z::t)) (.int 2)=.ok z:=kQ (aF6 x y z t)
@[simp] theorem aM9(x:PyData)(t:List PyData):dIx (.list (x::t)) (.int 0)=.ok x:=iR (uB x t)
@[simp] theorem aNA(x y:PyData)(t:List PyData):dIx (.list (x::y::t)) (.int 1)=.ok y:=iR (wJ x y t)
theorem eM{xs:List PyData}(h:xs.length<=16777216):aT (.tuple xs)=.ok xs:=if_pos h
theorem oS{xs:List PyData}(h:xs.length<=16777216):aT (.list xs)=.ok xs:=if_pos h
theorem aA3{x y:PyData}(hx:SeqAt.shaped x=true)(hy:SeqAt.shaped y=true):dEq x y=.ok (.bool (PyData.eqv x y)):=if_pos ⟨hx,hy⟩
theorem uC{x y:PyData}(hx:SeqAt.shaped x=true)(hy:SeqAt.shaped y=true):dNe x y=.ok (.bool (!PyData.eqv x y)):=if_pos ⟨hx,hy⟩
@[simp] theorem aNB(T:String)(i:Int):eF T (.int i)=.ok (.bool (gP "int" T)):=id rfl
@[simp] theorem aNC(T:String)(i:Str):eF T (.str i)=.ok (.bool (gP "str" T)):=id rfl
@[simp] theorem aND(T:String)(i:List PyData):eF T (.tuple i)=.ok (.bool (gP "tuple" T)):=id rfl
@[simp] theorem aNE(T:String)(i:List PyData):eF T (.list i)=.ok (.bool (gP "list" T)):=id rfl
@[simp] theorem aNF(T:String)(i:Bool):eF T (.bool i)=.ok (.bool (gP "bool" T)):=id rfl
@[simp] theorem aNG(T:String):eF T .none=.ok (.bool (gP "NoneType" T)):=id rfl
theorem aIH{x y:Str}(h:x.length+y.length<=16777216):bX (.str x) (.str y)=.ok (.str (x++y)):=by
 unfold bX;exact if_pos (by rw[cQ];exact h)
theorem fX{α:Type}{fs:PyData->Sg->Option Sg}{fe:Sg->R PyData}{ρ0:Sg}{d:α->PyData}{g:α->PyData}:∀ {xs:List α},(∀ x∈xs,∃ ρ1,fs (d x) ρ0=some ρ1/\fe ρ1=.ok (g x))->compL fs iI fe ρ0 (xs.map d)=.ok (xs.map g)
 | [],_=>rfl
 | x::t,h=>by
  obtain ⟨ρ1,h1,h2⟩:=h x List.mem_cons_self
  rw[List.map_cons]
  unfold compL
  rw[h1,fX fun y hy=>h y (List.mem_cons_of_mem _ hy),nF,R.bind_ok,aF4,R.noEx_ok,R.bind_ok,if_pos rfl,h2];rfl
theorem eG{α:Type}{fs:PyData->Sg->Option Sg}{fb:Sg->R Fw}{d:α->PyData}{xs:List α}{ρ:Sg}(J:Nat->Sg->Prop)(h0:J 0 ρ)(hs:∀ (i:Nat) (x:α) (ρ:Sg),xs[i]? = some x->J i ρ->∃ ρ1 ρ2,fs (d x) ρ=some ρ1/\(fb ρ1=.ok (.nx ρ2)\/fb ρ1=.ok (.ct ρ2))/\J (i+1) ρ2) :
  ∃ ρ',gC fs fb (xs.map d) ρ=.ok (.nx ρ')/\J xs.length ρ':=by
 induction xs generalizing ρ J with
 | nil=>exact ⟨ρ,rfl,h0⟩
 | cons x t ih=>
  obtain ⟨ρ1,ρ2,h1,h2,h3⟩:=hs 0 x ρ rfl h0
  obtain ⟨ρ',q1,q2⟩:=ih (ρ:=ρ2) (fun i=>J (i+1)) h3 (fun i y ρ hy hj=>hs (i+1) y ρ (by simpa using hy) hj)
  refine ⟨ρ',?_,q2⟩
  rw[List.map_cons]
  unfold gC
  rw[h1,nF,R.bind_ok]
  rcases h2 with h2|h2<;>rw[h2]<;>exact q1
end Fl
namespace Fl
open PySem L2 PyProof.Rows
theorem iZ{t:Sg->R Bool}{b:Sg->R Fw}{ρ ρ':Sg}(h1:t ρ=.ok true)(h2:b ρ=.ok (.nx ρ')):bA t b ρ=bA t b ρ':=by
 rw[rP,h1,R.bind_ok,if_pos rfl,h2];rfl
theorem fY{t:Sg->R Bool}{b:Sg->R Fw}{ρ:Sg}(h1:t ρ=.ok false):bA t b ρ=.ok (.nx ρ):=by
 rw[rP,h1,R.bind_ok,if_neg (by decide)]
def aNQ{α:Type}(d:α->PyData)(ps:List α):List (PyData×PyData):=ps.map fun p=>(d p,.bool true)
end Fl
namespace Mc
open PySem L2 PyProof.Rows Fl
theorem Mach.cons{rs:List Rw}{sg:Nat}(M:Mach rs sg):∃ r t,rs=r::t/\r.c.length=sg:=by
 cases rs with
 | nil=>have:=M.len;simp at this
 | cons r t=>exact ⟨r,t,rfl,(M.row r List.mem_cons_self).2⟩
def ck(k:Nat)(r:Rw):Int×Int:=r.c.getD k (0,0)
theorem i3{n:Nat}(h:n<=16777216):iA 0 (n:Int)=.ok ((List.range n).map fun i:Nat=>.int (i:Int)):=by
 unfold iA
 rw[if_pos (by omega)]
 unfold j2
 simp
end Mc
namespace Mc
open PySem L2 PyProof.Rows Fl
theorem iB(i:Int):SeqAt.shaped (.int i)=true:=id rfl
theorem pN(i j:Int):PyData.eqv (.int i) (.int j)=decide (i=j):=by
 rw[PyData.eqv.eq_5]
 by_cases h:i=j
 · simp [h]
 · simp [h]
theorem lI(i j:Int):dEq (.int i) (.int j)=.ok (.bool (decide (i=j))):=by rw[aA3 (iB i) (iB j),pN]
end Mc
namespace Mc
open PySem L2 PyProof.Rows Fl
end Mc
namespace Mc
open PySem L2 PyProof.Rows Fl
noncomputable def iS:Sg->R Fw:=(aD (aR 2 (vD (eC (.int 0))))
 (aD (sIf (e1 asB (e2 dGt (e1 dLen (rV 0)) (eC (.int 0)))) (aR 2 (vD (e2 dIx (rV 0) (e2 dMod (rV 1) (e1 dLen (rV 0)))))) sNx)
 (aD (aR 3 (vD (e2 dMod (e2 dMul (e2 bX (e2 bX (e2 dMod (rV 2) (eC (.int 2147483647))) (e2 dMul (eC (.int 7919)) (rV 1))) (eC (.int 1))) (eC (.int 48271))) (eC (.int 2147483647)))))
 (bL (vD (e2 bX (e2 dMul (e2 dDiv (rV 2) (eC (.int 2147483647))) (eC (.int 2147483659))) (e2 dMod (e2 bX (e2 dMul (rV 3) (eC (.int 69621))) (e2 dMul (eC (.int 104729)) (rV 1))) (eC (.int 2147483659)))))))))
noncomputable def bU:List A->R A:=fnF 4 iS
noncomputable def jA:Sg->R Fw:=(aD (cJ 5 (dD aK))
 (aD (cJ 6 (dD aK))
 (aD (dE (cR (rV 2)) (stN 7) (aD (aR 8 (vD (k6 (e2 dLt (e2 bX (rV 1) (rV 7)) (e1 dLen (rV 0))) (e2 dEq (e2 dMod (e2 dIx (rV 0) (eC (.int 0))) (eC (.int 2))) (eC (.int 1))))))
 (aD (aR 9 (vD (e2 dMod (eA (bC 2 bU (aA (vV 0) (aA (vD (e2 bX (rV 1) (rV 7))) aK)))) (eC (.int 2147483647)))))
 (aD (sIf (e1 asB (eV 8)) (aR 9 (vD (e2 dIx (rV 0) (e2 bX (rV 1) (rV 7))))) sNx)
 (aD (cJ 10 (dD aK))
 (aD (dE (cR (rV 3)) (stN 11) (aD (sIf (fG (e1 asB (eV 8))) (aR 9 (vD (e2 dDiv (e2 dMod (e2 bX (e2 dMul (rV 9) (eC (.int 48271))) (eC (.int 7919))) (eC (.int 2147483647))) (eC (.int 64))))) sNx)
 (aD (dY 10 (e2 dMod (rV 9) (rV 2)))
 (aR 9 (vD (e2 dDiv (rV 9) (rV 2)))))))
 (aD (dY 6 (e2 dIx (eL (dD (aA (eC (.str "by")) (aA (eC (.str "out")) (aA (eC (.str "ever")) aK))))) (e2 dMod (rV 9) (rV 4))))
 (dY 5 (e1 dTup (rV 10))))))))))
 (bL (vD (cS (aA (e1 dTup (rV 5)) (aA (e1 dTup (rV 6)) aK))))))))
noncomputable def dU:List A->R A:=fnF 12 jA
noncomputable def mQ:Sg->R Fw:=(aD (mG 3 (mF (eV 2) (eC (.str "")) oH))
 (aD (cJ 4 (dD (aA (eV 2) aK)))
 (aD (aR 5 (vD (eC (.int 0))))
 (aD (bA (e1 asB (e2 dLt (rV 5) (e1 dLen (rV 4)))) (aD (mE (stT [(stN 6),(stN 7)]) (e2 dIx (rV 4) (rV 5)))
 (aD (dE (cR (e1 dLen (e2 dIx (e2 dIx (rV 0) (eC (.int 0))) (rV 6)))) (stN 8) (aD (aR 9 (vD (cS (aA (e2 dIx (e2 dIx (e2 dIx (rV 0) (eC (.int 0))) (rV 6)) (rV 8)) (aA (e2 dIx (e2 dIx (e2 dIx (rV 1) (eC (.int 0))) (rV 7)) (rV 8)) aK)))))
 (sIf (e1 asB (mD true 3 (eV 9))) (aD (kO 3 (eV 9) (e2 bX (f9 3 (cS (aA (eV 6) (aA (eV 7) aK)))) (e2 dIx (eC (.str "abc")) (rV 8))))
 (dY 4 (eV 9))) sNx)))
 (aR 5 (vD (e2 bX (rV 5) (eC (.int 1))))))))
 (nJ 3 (bL (vV 3)))))))
noncomputable def jB:List A->R A:=fnF 10 mQ
noncomputable def jD:Sg->R Fw:=(aD (mG 3 (mF (eV 2) (eC (.str "")) oH))
 (aD (cJ 4 (dD (aA (eV 2) aK)))
 (aD (aR 5 (vD (eC (.int 0))))
 (aD (bA (e1 asB (e2 dLt (rV 5) (e1 dLen (rV 4)))) (aD (mE (stT [(stN 6),(stN 7)]) (e2 dIx (rV 4) (rV 5)))
 (aD (dE (cR (e1 dLen (e2 dIx (e2 dIx (rV 0) (eC (.int 0))) (rV 6)))) (stN 8) (aD (aR 9 (vD (cS (aA (e2 dIx (e2 dIx (e2 dIx (rV 0) (eC (.int 0))) (rV 6)) (rV 8)) (aA (e2 dIx (e2 dIx (e2 dIx (rV 1) (eC (.int 0))) (rV 7)) (rV 8)) aK)))))
 (sIf (e1 asB (mD true 3 (eV 9))) (aD (kO 3 (eV 9) (e2 bX (f9 3 (cS (aA (eV 6) (aA (eV 7) aK)))) (e2 dIx (eC (.str "abc")) (rV 8))))
 (dY 4 (eV 9))) sNx)))
 (aR 5 (vD (e2 bX (rV 5) (eC (.int 1))))))))
 (nJ 3 (bL (vV 3)))))))
noncomputable def eP:List A->R A:=fnF 10 jD
noncomputable def lJ:Sg->R Fw:=(aD (aR 3 (bC 3 eP (aA (vV 0) (aA (vV 1) (aA (vV 2) aK)))))
 (aD (aR 4 (vD (eC .none)))
 (aD (dE (n6 3) (stT [(stN 5),(stN 6)]) (aD (aR 7 (vD (f9 3 (cS (aA (eV 5) (aA (eV 6) aK))))))
 (sIf (kZ (e1 asB (e2 dNe (e2 dIx (e2 dIx (rV 0) (eC (.int 1))) (rV 5)) (e2 dIx (e2 dIx (rV 1) (eC (.int 1))) (rV 6)))) (bOr (e1 asB (e2 dIs (rV 4) (eC .none))) (e1 asB (e2 nK (cS (aA (e1 dLen (rV 7)) (aA (eV 7) aK))) (cS (aA (e1 dLen (rV 4)) (aA (eV 4) aK))))))) (aR 4 (vV 7)) sNx)))
 (bL (vV 4)))))
noncomputable def lK:List A->R A:=fnF 8 lJ
end Mc
namespace Mc
open PySem L2 PyProof.Rows Fl
def fH(ns:List Int):PyData:=.list (ns.map .int)
theorem jQ(ns:List Int):dLen (fH ns)=.ok (.int ns.length):=by unfold fH;rw[j7,List.length_map]
theorem uD{ns:List Int}{i:Int}(h0:0<=i)(h1:i < ns.length):∃ v,dIx (fH ns) (.int i)=.ok (.int v):=by
 refine ⟨ns[i.toNat]'(by omega),iR (aF5 h0 ?_)⟩
 rw[List.getElem?_map,List.getElem?_eq_getElem (by omega)];rfl
theorem nM(ns:List Int)(k:Int):∃ v,bU [.d (fH ns),.d (.int k)]=.ok (.d (.int v)):=by
 by_cases h:(0:Int) < ns.length
 ·obtain ⟨v,hv⟩:=uD (ns:=ns) (i:=k % (ns.length:Int)) (Int.emod_nonneg _ (by omega)) (Int.emod_lt_of_pos _ h)
  have hm:dMod (.int k) (.int (ns.length:Int))=.ok (.int (k % (ns.length:Int))):=dX h
  have hd:0 < ns.length:=by omega
  refine ⟨v / 2147483647 * 2147483659+((v % 2147483647+7919 * k+1) * 48271 % 2147483647 * 69621+104729 * k) % 2147483659,?_⟩
  unfold bU iS
  simp[jQ,hd,hm,hv,dX,t9,aA1,j6]
 ·have hd:¬ 0 < ns.length:=by omega
  refine ⟨((7919 * k+1) * 48271 % 2147483647 * 69621+104729 * k) % 2147483659,?_⟩
  unfold bU iS
  simp[jQ,hd,dX,t9,aA1,j6]
end Mc
namespace Mc
open PySem L2 PyProof.Rows Fl
end Mc
namespace Mc
open PySem L2 PyProof.Rows
def aA4(rs:List Rw)(z:List Nat)(s:Int×Int):Option ((Int×Int)⊕Str):=
 match (iV rs z s).1 with
 | .w x=>some (.inr x)
 | .n q=>some (.inl (s.1+(iV rs z s).2,q))
end Mc
namespace Mc
open PySem L2 PyProof.Rows Fl
theorem n9(z:Str):z.length=z.cps.toList.length:=by simp[Str.length]
def mK(rs:List Rw)(z:List Nat)(s:Int×Int):Prop:=aDT rs z s/\((xP rs z s=none/\∃ x,(iV rs z s).1=.w x/\xR (aA4 rs z) (0,0)=some x)\/((∃ s',xP rs z s=some s')/\xR (aA4 rs z) (0,0)=none))
end Mc
namespace Mc
open PySem L2 PyProof.Rows Fl
theorem aII(x y:Str):PyData.eqv (.str x) (.str y)=(x == y):=by rw[PyData.eqv.eq_6]
end Mc
namespace Mc
open PySem L2 PyProof.Rows
section
variable{S T O Q:Type}
structure Gates(st:S->Option (S⊕O))(sub:S->Option (S⊕Q))(ext:Q->T⊕O)(g:T->S)(ent:T->S⊕O)(Dom:S->Prop)(TV:T->Prop):Prop where
 step:∀ s,Dom s->(∃ s',sub s=some (.inl s')/\st s=some (.inl s')/\Dom s')\/(∃ e t,sub s=some (.inr e)/\ext e=.inl t/\st s=some (.inl (g t))/\TV t)\/∃ e o,sub s=some (.inr e)/\ext e=.inr o/\st s=some (.inr o)
 gate:∀ t,TV t->(∃ s,ent t=.inl s/\st (g t)=some (.inl s)/\Dom s)\/∃ o,ent t=.inr o/\st (g t)=some (.inr o)
variable{st:S->Option (S⊕O)}{sub:S->Option (S⊕Q)}{ext:Q->T⊕O}{g:T->S}{ent:T->S⊕O}{Dom:S->Prop}{TV:T->Prop}
end
def aKB:Str:="ever"
def aKC(rs:List Rw)(z:List Nat)(s:Int×Int):Option ((Int×Int)⊕Tn):=
 match (iV rs z s).1 with
 | .w x=>some (.inr (.w x))
 | .n q=>if s.1+(iV rs z s).2<=(z.length:Int) then some (.inl (s.1+(iV rs z s).2,q)) else some (.inr (.n q))
noncomputable def aIJ(rs:List Rw)(z:List Nat)(s:Int×Int):Tn:=(xR (aKC rs z) s).getD (.w aKB)
noncomputable def aLP(rs:List Rw)(z:List Nat)(q:Int):Tn:=aIJ rs z ((z.length:Int),q)
end Mc
namespace Mc
open PySem L2 PyProof.Rows Fl
def aLQ(f:Tn)(bk:List Tn):PyData:=.tuple [f.d,.tuple (bk.map Tn.d)]
def aIK(rs:List Rw)(k:Nat):PyData:=.list (rs.map fun r=>aJV (ck k r))
noncomputable def oT:Sg->R Bool:=(fG (e1 asB (eA (bC 1 rT (aA (vV 2) aK)))))
noncomputable def aD7(rs:List Rw)(z:List Nat):PyData:=aLQ (aIJ rs z (0,0)) ((List.range rs.length).map fun q:Nat=>aLP rs z (q:Int))
end Mc
namespace Mc
open PySem L2 PyProof.Rows Fl
end Mc
namespace Mc
open PySem L2 PyProof.Rows Fl
end Mc
namespace Mc
open PySem L2 PyProof.Rows Fl
theorem aA5(i j:Int):dNe (.int i) (.int j)=.ok (.bool (!decide (i=j))):=by rw[uC (iB i) (iB j),pN]
end Mc
namespace Mc
open PySem L2 PyProof.Rows Fl
end Mc
namespace Fl
open PySem L2 PyProof.Rows
@[simp] theorem aC6(i:Nat)(f:Sg->R (List (PyData×PyData)))(ρ:Sg):mG i f ρ=(f ρ).bind fun kvs=>(eU [] kvs).bind fun res=>.ok (.nx (ρ.set i (some (.m res)))):=id rfl
@[simp] theorem aF7(ρ:Sg):oH ρ=.ok []:=id rfl
@[simp] theorem aC7(f g:Sg->R PyData)(r:Sg->R (List (PyData×PyData)))(ρ:Sg):mF f g r ρ=(f ρ).bind fun x=>(g ρ).bind fun y=>(r ρ).bind fun t=>.ok ((x,y)::t):=id rfl
@[simp] theorem aKP(i:Nat)(f g:Sg->R PyData)(ρ:Sg):aH7 i f g ρ=match ρ[i]? with|some (some (.m kvs))=>(f ρ).bind fun k=>(g ρ).bind fun y=>if bS k (kvs.map (·.1))=true then .ok ((bY kvs k).getD y) else .bad|_=>.bad:=id rfl
end Fl
namespace Mc
open PySem L2 PyProof.Rows Fl
end Mc
namespace Mc
open PySem L2 PyProof.Rows Fl
theorem uE{w:Str}(h:w="by"\/w="out"\/w="ever"):SeqAt.shaped (.str w)=true:=by rcases h with rfl|rfl|rfl<;>decide +kernel
end Mc
namespace Mc
open PySem L2 PyProof.Rows Fl
end Mc
namespace Mc
open PySem L2 PyProof.Rows Fl
@[simp] theorem aMF(m i:Nat)(f:Sg->R (List PyData))(ρ:Sg):tX m i f ρ=match ρ[i]? with|some (some (.g k n G))=>(f ρ).bind fun ds=>if k<=m/\ds.length=n then G ds else .bad|_=>.bad:=id rfl
@[simp] theorem aLR(m i:Nat)(f:Sg->R (List PyData))(ρ:Sg):pH m i f ρ=match ρ[i]? with|some (some (.g k n G))=>(f ρ).bind fun ds=>if k<=m/\ds.length=n then (match G ds with | .ok d=>if nZ d=true then .ok d else .bad|_=>.bad) else .bad|_=>.bad:=id rfl
def cV(fs:List PyData):List (PyData×PyData):=fs.zipIdx.map fun p=>(p.1,.int (p.2:Int))
theorem j8(fs:List PyData):(cV fs).map (·.1)=fs:=by
 unfold cV
 rw[List.map_map]
 show fs.zipIdx.map Prod.fst=fs
 exact List.zipIdx_map_fst 0 fs
theorem qM(fs:List PyData):(cV fs).length=fs.length:=by unfold cV;rw[List.length_map,List.length_zipIdx]
theorem wK{fs:List PyData}{x:PyData}:bW (cV fs) x=true↔x∈fs:=by rw[oG,j8]
theorem oU{fs:List PyData}{x:PyData}(h:x∉fs):bW (cV fs) x=false:=by
 cases q:bW (cV fs) x with
 | false=>rfl
 | true=>exact absurd (wK.mp q) h
theorem wL{fs:List PyData}{x:PyData}(h:x∉fs):putM (cV fs) x (.int (fs.length:Int))=cV (fs++[x]):=by
 unfold putM
 rw[oU h,if_neg (by decide)]
 unfold cV
 rw[List.zipIdx_append,List.map_append]
 simp
theorem aF8{fs:List PyData}{x:PyData}(h:x∈fs):∃ i:Nat,bY (cV fs) x=some (.int (i:Int))/\fs[i]? = some x:=by
 unfold bY
 cases e:(cV fs).find? fun p=>decide (p.1=x) with
 | none=>
  rw[List.find?_eq_none] at e
  rw[<-j8 fs,List.mem_map] at h
  obtain ⟨p,hp,e2⟩:=h
  exact absurd (decide_eq_true e2) (e p hp)
 | some p=>
  have h1:=List.find?_some e
  have h2:=List.mem_of_find?_eq_some e
  unfold cV at h2
  obtain ⟨⟨y,i⟩,hy,rfl⟩:=List.mem_map.mp h2
  refine ⟨i,rfl,?_⟩
  have h1:y=x:=of_decide_eq_true h1
  rw[<-h1]
  exact List.mk_mem_zipIdx_iff_getElem?.mp hy
structure Srch where
 after:PyData->List PyData
 x0:PyData
 good:Nat->PyData->Prop
 lim:Nat
 k1:Nat
 k2:Nat
 G:List PyData->R PyData
 D:List PyData->R PyData
structure Srch.ok(S:Srch):Prop where
 g0:S.good 0 S.x0
 gs:∀ i x,S.good i x->i<=S.lim->∀ y∈S.after x,S.good (i+1) y
 up:∀ i j x,i<=j->S.good i x->S.good j x
 few:∀ xs:List PyData,xs.Nodup->(∀ x∈xs,∃ i,S.good i x)->xs.length<=S.lim
 key:∀ i x,S.good i x->fF x=true
 hk1:S.k1<=12
 hk2:S.k2<=12
 hG:∀ i x,i<=S.lim->S.good i x->S.G [x]=.ok (.list (S.after x))/\(S.after x).length<=16777216
 hD:∀ (fs:List PyData) (i:Int),fs.length<=S.lim->S.D [.list fs,.int i]=.ok (.bool false)
 hl:S.lim<=16000000
noncomputable def rhF:Sg->R Fw:=(aD (sIf (e1 asB (mD true 4 (eV 7))) (aD (kO 4 (eV 7) (e1 dLen (rV 3)))
 (dY 3 (eV 7))) sNx)
 (dY 6 (f9 4 (eV 7))))
noncomputable def rhT:Sg->R Bool:=(kZ (e1 asB (e2 dLt (e1 dLen (rV 5)) (e1 dLen (rV 3)))) (fG (e1 asB (pH 12 2 (aA (rV 3) (aA (e1 dLen (rV 5)) aK))))))
noncomputable def rhB:Sg->R Fw:=(aD (cJ 6 (dD aK))
 (aD (dE (e1 aT (tX 12 1 (aA (e2 dIx (rV 3) (e1 dLen (rV 5))) aK))) (stN 7) rhF)
 (dY 5 (e1 dTup (rV 6)))))
theorem aIL:nL=aD (cJ 3 (dD (aA (eV 0) aK))) (aD (mG 4 (mF (eV 0) (eC (.int 0)) oH)) (aD (cJ 5 (dD aK)) (aD (bA rhT rhB) (sFz 5 (sFz 3 (bL (vD (cS (aA (eV 3) (aA (eV 5) aK))))))))) ):=id rfl
def aKD(fs:List PyData)(js:List Nat)(ys:List PyData):Prop:=js.length=ys.length/\∀ (c:Nat) (y:PyData),ys[c]? = some y->∃ j,js[c]? = some j/\fs[j]? = some y
def aV(js:List Nat):PyData:=.tuple (js.map fun j:Nat=>.int (j:Int))
structure Fnd(S:Srch)(fs:List PyData):Prop where
 nd:fs.Nodup
 gd:∀ (i:Nat) (x:PyData),fs[i]? = some x->S.good i x
structure Rchd(S:Srch)(fs:List PyData)(gs:List (List Nat)):Prop where
 fnd:Fnd S fs
 len:gs.length=fs.length
 zer:fs[0]? = some S.x0
 row:∀ (i:Nat) (js:List Nat) (x:PyData),gs[i]? = some js->fs[i]? = some x->aKD fs js (S.after x)
end Mc
namespace Mc
open PySem L2 PyProof.Rows Fl
noncomputable def adQ(fs:List PyData)(y:PyData):List PyData:=if y∈fs then fs else fs++[y]
noncomputable def adA(fs ys:List PyData):List PyData:=ys.foldl adQ fs
noncomputable def nrQ(fs:List PyData)(y:PyData):Nat:=fs.idxOf y
theorem gH{fs:List PyData}{y:PyData}(h:y∈fs):adQ fs y=fs:=if_pos h
theorem eX{fs:List PyData}{y:PyData}(h:y∉fs):adQ fs y=fs++[y]:=if_neg h
theorem lL(fs:List PyData)(y:PyData):fs <+: adQ fs y:=by
 by_cases h:y∈fs
 · rw [gH h]; exact List.prefix_refl _
 · rw [eX h]; exact List.prefix_append ..
theorem qN(fs:List PyData)(y:PyData):y∈adQ fs y:=by
 by_cases h:y∈fs
 · rw [gH h]; exact h
 · rw [eX h]; simp
theorem aA6{fs:List PyData}{y:PyData}(h:fs.Nodup):(adQ fs y).Nodup:=by
 by_cases q:y∈fs
 ·rw[gH q];exact h
 ·rw[eX q,List.nodup_append]
  exact ⟨h,by simp,fun a ha b hb=>by rw[List.mem_singleton.mp hb];rintro rfl;exact q ha⟩
theorem wM(fs:List PyData)(y:PyData):(adQ fs y).length<=fs.length+1:=by
 by_cases q:y∈fs
 · rw [gH q]; omega
 · rw [eX q]; simp
theorem uF(fs ys:List PyData)(y:PyData):adA fs (ys++[y])=adQ (adA fs ys) y:=by unfold adA;rw[List.foldl_append];rfl
theorem qO(ys:List PyData):∀ fs:List PyData,fs <+: adA fs ys:=by
 induction ys with
 | nil=>exact fun fs=>List.prefix_refl _
 | cons y t ih=>exact fun fs=>(lL fs y).trans (ih _)
theorem pO(ys:List PyData):∀ {fs:List PyData},fs.Nodup->(adA fs ys).Nodup:=by
 induction ys with
 | nil=>exact fun h=>h
 | cons y t ih=>exact fun h=>ih (aA6 h)
theorem iL(ys:List PyData):∀ {fs:List PyData} {y:PyData},y∈ys->y∈adA fs ys:=by
 induction ys with
 | nil=>intro fs y h;cases h
 | cons x t ih=>
  intro fs y h
  rcases List.mem_cons.mp h with rfl|h
  · exact (qO t _).subset (qN fs y)
  · exact ih h
theorem adA_mem(ys:List PyData):∀ {fs:List PyData} {y:PyData},y∈adA fs ys->y∈fs\/y∈ys:=by
 induction ys with
 | nil=>intro fs y h;exact .inl h
 | cons x t ih=>
  intro fs y h
  rcases ih (fs:=adQ fs x) h with h|h
  ·by_cases q:x∈fs
   ·rw[gH q] at h;exact .inl h
   ·rw[eX q] at h
    rcases List.mem_append.mp h with h|h
    · exact .inl h
    · exact .inr (by rw [List.mem_singleton.mp h]; exact List.mem_cons_self)
  ·exact .inr (List.mem_cons_of_mem _ h)
theorem aF9(ys:List PyData):∀ fs:List PyData,(adA fs ys).length<=fs.length+ys.length:=by
 induction ys with
 | nil=>intro fs;exact Nat.le_refl _
 | cons x t ih=>
  intro fs
  have h1:=ih (adQ fs x)
  have h2:=wM fs x
  show (adA (adQ fs x) t).length<=fs.length+(t.length+1)
  omega
theorem qP{fs fs':List PyData}{y:PyData}(h:fs <+: fs')(hy:y∈fs):nrQ fs' y=nrQ fs y:=by
 obtain ⟨t,rfl⟩:=h
 unfold nrQ
 rw[List.idxOf_append,if_pos hy]
theorem j9{fs:List PyData}{y:PyData}(hy:y∈fs):fs[nrQ fs y]? = some y:=by
 have h:nrQ fs y < fs.length:=List.idxOf_lt_length_of_mem hy
 rw[List.getElem?_eq_getElem h]
 exact congrArg some (List.getElem_idxOf h)
theorem sK{α:Type}{xs:List α}(h:xs.Nodup){i j:Nat}{x:α}(h1:xs[i]? = some x)(h2:xs[j]? = some x):i=j:=by
 obtain ⟨l1,e1⟩:=List.getElem?_eq_some_iff.mp h1
 obtain ⟨l2,e2⟩:=List.getElem?_eq_some_iff.mp h2
 rcases Nat.lt_trichotomy i j with q|q|q
 · exact absurd (e1.trans e2.symm) (List.pairwise_iff_getElem.mp h i j l1 l2 q)
 · exact q
 · exact absurd (e2.trans e1.symm) (List.pairwise_iff_getElem.mp h j i l2 l1 q)
theorem wN{fs:List PyData}{y:PyData}(h:fs.Nodup)(hy:y∈fs):bY (cV fs) y=some (.int (nrQ fs y:Int)):=by
 obtain ⟨i,h1,h2⟩:=aF8 hy
 rw[h1,sK h h2 (j9 hy)]
structure Sq where
 after:PyData->List PyData
 x0:PyData
 stop:List PyData->Nat->Bool
 k1:Nat
 k2:Nat
 G:List PyData->R PyData
 D:List PyData->R PyData
noncomputable def bfQ(after:PyData->List PyData)(x0:PyData):Nat->List PyData
 | 0=>[x0]
 | n+1=>match (bfQ after x0 n)[n]? with
  | some x=>adA (bfQ after x0 n) (after x)
  | none=>bfQ after x0 n
theorem mL{after:PyData->List PyData}{x0 x:PyData}{n:Nat}(h:(bfQ after x0 n)[n]? = some x):bfQ after x0 (n+1)=adA (bfQ after x0 n) (after x):=by rw[bfQ,h]
theorem gQ(after:PyData->List PyData)(x0:PyData)(n:Nat):bfQ after x0 n <+: bfQ after x0 (n+1):=by
 rw[bfQ]
 split
 · exact qO _ _
 · exact List.prefix_refl _
theorem iM{after:PyData->List PyData}{x0:PyData}{m n:Nat}(h:m<=n):bfQ after x0 m <+: bfQ after x0 n:=by
 obtain ⟨k,rfl⟩:=Nat.le.dest h
 clear h
 induction k with
 | zero=>exact List.prefix_refl _
 | succ k ih=>exact ih.trans (gQ after x0 (m+k))
theorem lM(after:PyData->List PyData)(x0:PyData)(n:Nat):(bfQ after x0 n).Nodup:=by
 induction n with
 | zero=>simp[bfQ]
 | succ n ih=>
  rw[bfQ]
  split
  · exact pO _ ih
  · exact ih
theorem oV(after:PyData->List PyData)(x0:PyData)(n:Nat):(bfQ after x0 n)[0]? = some x0:=by
 obtain ⟨t,e⟩:=iM (after:=after) (x0:=x0) (Nat.zero_le n)
 rw[<-e];rfl
theorem kA{α:Type}{f g:List α}{i:Nat}{x:α}(h:f <+: g)(e:f[i]? = some x):g[i]? = some x:=by
 obtain ⟨t,rfl⟩:=h
 rw[List.getElem?_append_left (List.getElem?_eq_some_iff.mp e).1]
 exact e
theorem rW{α:Type}{f g:List α}{i:Nat}{x:α}(h:f <+: g)(hi:i < f.length)(e:g[i]? = some x):f[i]? = some x:=by
 obtain ⟨t,rfl⟩:=h
 rwa [List.getElem?_append_left hi] at e
noncomputable def uG(after:PyData->List PyData)(fs:List PyData)(x:PyData):PyData:=aV ((after x).map (nrQ fs))
noncomputable def eZ(after:PyData->List PyData)(fs:List PyData)(n:Nat):List PyData:=(fs.take n).map (uG after fs)
structure Sq.ok(S:Sq)(N:Nat):Prop where
 on:∀ m,m < N->m < (bfQ S.after S.x0 m).length/\S.stop (bfQ S.after S.x0 m) m=false
 off:(bfQ S.after S.x0 N).length<=N\/S.stop (bfQ S.after S.x0 N) N=true
 key:(∀ x∈bfQ S.after S.x0 N,fF x=true)\/(∀ x∈bfQ S.after S.x0 N,kY x=true)
 len:(bfQ S.after S.x0 N).length<=16000000
 hk1:S.k1<=12
 hk2:S.k2<=12
 hG:∀ m x,m < N->(bfQ S.after S.x0 N)[m]? = some x->(∃ d,S.G [x]=.ok d/\aT d=.ok (S.after x))/\(S.after x).length<=1000
 hD:∀ m,m<=N->m < (bfQ S.after S.x0 m).length->S.D [.list (bfQ S.after S.x0 m),.int (m:Int)]=.ok (.bool (S.stop (bfQ S.after S.x0 m) m))
theorem yQ{B:List PyData}(h:(∀ x∈B,fF x=true)\/(∀ x∈B,kY x=true)){y:PyData}{fs:List PyData}(hy:y∈B)(hf:∀ x∈fs,x∈B):bS y ((cV fs).map (·.1))=true:=by
 unfold bS
 rw[j8,Bool.or_eq_true,Bool.and_eq_true,Bool.and_eq_true,List.all_eq_true,List.all_eq_true]
 exact h.imp (fun h=>⟨h y hy,fun x hx=>h x (hf x hx)⟩) (fun h=>⟨h y hy,fun x hx=>h x (hf x hx)⟩)
noncomputable def rqρ(S:Sq)(fs:List PyData)(gs:List PyData)(u v:Option A):Sg:=[some (.d S.x0),some (.g S.k1 1 S.G),some (.g S.k2 2 S.D),some (.l fs),some (.m (cV fs)),some (.l gs),u,v]
theorem aIM{S:Sq}{B fs ys gs:List PyData}{v:Option A}(hB:(∀ x∈B,fF x=true)\/(∀ x∈B,kY x=true))(hl:B.length<=16000000)(nd:fs.Nodup)(hp:adA fs ys <+: B)(hy:ys.length<=1000) :
  ∃ v',gC (stN 7) rhF ys (rqρ S fs gs (some (.l [])) v)=.ok (.nx (rqρ S (adA fs ys) gs (some (.l ((ys.map (nrQ (adA fs ys))).map fun j:Nat=>.int (j:Int)))) v')):=by
 obtain ⟨ρ',q1,v',q2⟩:=eG (fs:=stN 7) (fb:=rhF) (d:=id) (xs:=ys) (ρ:=rqρ S fs gs (some (.l [])) v)
  (fun i ρ=>∃ v',ρ=rqρ S (adA fs (ys.take i)) gs (some (.l (((ys.take i).map (nrQ (adA fs (ys.take i)))).map fun j:Nat=>.int (j:Int)))) v') ⟨v,rfl⟩ fun i y ρ hi zz0=>by
  obtain ⟨v',e⟩:=zz0
  have ht:ys.take (i+1)=ys.take i++[y]:=by rw[List.take_add_one,hi];rfl
  have hil:=(List.getElem?_eq_some_iff.mp hi).1
  have hpi:adA fs (ys.take (i+1)) <+: B:=by
   refine List.IsPrefix.trans ?_ hp
   have:adA fs ys=adA (adA fs (ys.take (i+1))) (ys.drop (i+1)):=by
    unfold adA;rw[<-List.foldl_append,List.take_append_drop]
   rw[this];exact qO _ _
  have nd1:(adA fs (ys.take i)).Nodup:=pO _ nd
  have nd2:(adA fs (ys.take (i+1))).Nodup:=pO _ nd
  have hm2:∀ x∈ys.take (i+1),x∈adA fs (ys.take (i+1)):=fun x hx=>iL _ hx
  rw[ht] at hpi nd2 hm2
  rw[ht,uF] at *
  generalize hF:adA fs (ys.take i)=F at *
  have hyB:y∈B:=hpi.subset (qN F y)
  have hFB:∀ x∈F,x∈B:=fun x hx=>hpi.subset ((lL F y).subset hx)
  have hlen:F.length < 16777216:=by
   have h1:=hpi.length_le
   have h2:=(lL F y).length_le
   omega
  have s1:=yQ hB hyB hFB
  have s2:=yQ hB hyB (fs:=adQ F y) (fun x hx=>hpi.subset hx)
  have g2:=wN nd2 (qN F y)
  have hil2:(cV F).length<=16777216:=by rw[qM];omega
  have hmF:∀ x∈ys.take i,x∈F:=fun x hx=>by rw[<-hF];exact iL _ hx
  have hrow:(ys.take i++[y]).map (nrQ (adQ F y))=(ys.take i).map (nrQ F)++[nrQ (adQ F y) y]:=by
   rw[List.map_append,List.map_singleton]
   congr 1
   exact List.map_congr_left fun x hx=>qP (lL F y) (hmF x hx)
  have htl:(ys.take i).length < 16777216:=by rw[List.length_take];omega
  rw[hrow]
  refine ⟨rqρ S F gs (some (.l (((ys.take i).map (nrQ F)).map fun j:Nat=>.int (j:Int)))) (some (.d y)),_,by rw[e];simp[rqρ],.inl ?_,some (.d y),rfl⟩
  have hl3:dLen (.list F)=.ok (.int (F.length:Int)):=j7 _
  have htl2:min i ys.length < 16777216:=by rw[List.length_take] at htl;exact htl
  by_cases hm:y∈F
  ·have a1:=wK.mpr hm
   rw[gH hm] at s2 g2 ⊢
   simp[rhF,rqρ,s1,a1,g2,htl2]
  ·have a1:=oU hm
   have a2:=wL hm
   rw[eX hm] at s2 g2 ⊢
   simp[rhF,rqρ,s1,s2,a1,a2,g2,hl3,hil2,hlen,htl2]
 rw[List.map_id] at q1
 rw[List.take_length] at q2
 exact ⟨v',by rw[q1,q2]⟩
theorem Sq.ok.le{S:Sq}{N:Nat}(O:S.ok N){m:Nat}(h:m<=N):bfQ S.after S.x0 m <+: bfQ S.after S.x0 N:=iM h
theorem wO{S:Sq}{N m:Nat}(O:S.ok N)(h:m<=N){gs:List PyData}(hg:gs.length=m){u v:Option A}:rhT (rqρ S (bfQ S.after S.x0 m) gs u v)=.ok (decide (m < N)):=by
 have k2:=O.hk2
 subst hg
 by_cases hl:gs.length < (bfQ S.after S.x0 gs.length).length
 ·have hd:=O.hD _ h hl
  have hs:S.stop (bfQ S.after S.x0 gs.length) gs.length = !decide (gs.length < N):=by
   by_cases q:gs.length < N
   ·rw[(O.on _ q).2,decide_eq_true q];rfl
   ·have e:gs.length=N:=by omega
    rcases O.off with z|z
    · rw [e] at hl; omega
    · rw [decide_eq_false q, e]; exact z
  rw[hs] at hd
  simp[rhT,rqρ,j7,hl,k2,hd,nZ]
 ·have:¬ gs.length < N:=fun q=>hl (O.on _ q).1
  simp[rhT,rqρ,j7,hl,this]
theorem aGA{S:Sq}{N m:Nat}(O:S.ok N)(h:m < N){gs:List PyData}(hg:gs.length=m){u v:Option A}:∃ x u' v',(bfQ S.after S.x0 m)[m]? = some x/\rhB (rqρ S (bfQ S.after S.x0 m) gs u v)=.ok (.nx (rqρ S (bfQ S.after S.x0 (m+1)) (gs++[uG S.after (bfQ S.after S.x0 (m+1)) x]) u' v')):=by
 have hlt:=(O.on m h).1
 have hx:(bfQ S.after S.x0 m)[m]? = some (bfQ S.after S.x0 m)[m]:=List.getElem?_eq_getElem hlt
 generalize (bfQ S.after S.x0 m)[m]=x at hx
 have k1:=O.hk1
 obtain ⟨⟨d,g1,g2⟩,g3⟩:=O.hG m x h (kA (O.le (by omega)) hx)
 have e:=mL hx
 have hp:adA (bfQ S.after S.x0 m) (S.after x) <+: bfQ S.after S.x0 N:=by rw[<-e];exact O.le (by omega)
 obtain ⟨v',q⟩:=aIM (S:=S) (gs:=gs) (v:=v) O.key O.len (lM S.after S.x0 m) hp g3
 rw[<-e] at q
 have ix:dIx (.list (bfQ S.after S.x0 m)) (.int (m:Int))=.ok x:=iR (dB hx)
 have hml:gs.length < 16777216:=by have:=(O.le (show m<=N by omega)).length_le;have:=O.len;omega
 have hyl:(S.after x).length<=16777216:=by omega
 refine ⟨x,some (.l (((S.after x).map (nrQ (bfQ S.after S.x0 (m+1)))).map fun j:Nat=>.int (j:Int))),v',hx,?_⟩
 subst hg
 simp only[rqρ] at q
 simp[rhB,rqρ,j7,ix,k1,g1,g2,q,hml,uG,aV,hyl]
theorem aGB{S:Sq}{N:Nat}(O:S.ok N):∀ (k m:Nat) (u v:Option A),m+k=N->
  ∃ u' v',bA rhT rhB (rqρ S (bfQ S.after S.x0 m) (eZ S.after (bfQ S.after S.x0 m) m) u v)=.ok (.nx (rqρ S (bfQ S.after S.x0 N) (eZ S.after (bfQ S.after S.x0 N) N) u' v')):=by
 have hrl:∀ m,m<=N->(∀ m',m' < m->m' < (bfQ S.after S.x0 m').length)->m<=(bfQ S.after S.x0 m).length:=fun m hm h=>by
  cases m with
  | zero=>omega
  | succ m=>have h1:=h m (by omega);have h2:=(gQ S.after S.x0 m).length_le;omega
 intro k
 induction k with
 | zero=>
  intro m u v hm
  have hm:m=N:=by omega
  subst hm
  have hle:=hrl m (by omega) fun m' h=>(O.on m' h).1
  have hg:(eZ S.after (bfQ S.after S.x0 m) m).length=m:=by unfold eZ;rw[List.length_map,List.length_take];omega
  rw[fY (by rw[wO O (Nat.le_refl m) hg,decide_eq_false (by omega)])]
  exact ⟨u,v,rfl⟩
 | succ k ih=>
  intro m u v hm
  have hlt:m < N:=by omega
  have hle:=hrl m (by omega) fun m' h=>(O.on m' (by omega)).1
  have hg:(eZ S.after (bfQ S.after S.x0 m) m).length=m:=by unfold eZ;rw[List.length_map,List.length_take];omega
  obtain ⟨x,u',v',hx,q⟩:=aGA O hlt hg (u:=u) (v:=v)
  rw[iZ (by rw[wO O (by omega) hg,decide_eq_true hlt]) q]
  have e:eZ S.after (bfQ S.after S.x0 m) m++[uG S.after (bfQ S.after S.x0 (m+1)) x]=eZ S.after (bfQ S.after S.x0 (m+1)) (m+1):=by
   unfold eZ
   have ht:(bfQ S.after S.x0 (m+1)).take (m+1)=(bfQ S.after S.x0 m).take m++[x]:=by
    obtain ⟨t,et⟩:=gQ S.after S.x0 m
    have hml:=(List.getElem?_eq_some_iff.mp hx).1
    rw[<-et,List.take_append_of_le_length (by omega),List.take_add_one,hx];rfl
   rw[ht,List.map_append,List.map_singleton]
   congr 1
   refine List.map_congr_left fun y hy=>?_
   unfold uG
   congr 1
   refine List.map_congr_left fun z hz=>?_
   obtain ⟨j,hj⟩:=List.getElem?_of_mem hy
   have hjl:j < m:=by
    have:=(List.getElem?_eq_some_iff.mp hj).1
    rw[List.length_take] at this;omega
   rw[List.getElem?_take,if_pos hjl] at hj
   refine (qP (gQ S.after S.x0 m) ?_).symm
   have hj2:(bfQ S.after S.x0 j)[j]? = some y:=rW (O.le (by omega)) ((O.on j (by omega)).1) (kA (O.le (by omega)) hj)
   have:=iL (fs:=bfQ S.after S.x0 j) _ hz
   rw[<-mL hj2] at this
   exact (iM (by omega)).subset this
  rw[e]
  exact ih (m+1) u' v' (by omega)
theorem aLS{S:Sq}{N:Nat}(O:S.ok N):gY [.d S.x0,.g S.k1 1 S.G,.g S.k2 2 S.D]=.ok (.d (.tuple [.list (bfQ S.after S.x0 N),.list (eZ S.after (bfQ S.after S.x0 N) N)])):=by
 obtain ⟨u,v,q⟩:=aGB O N 0 none none (by omega)
 have h0:=List.mem_of_getElem? (oV S.after S.x0 N)
 have hs:bS S.x0 []=true:=by
  unfold bS
  rw[Bool.or_eq_true,Bool.and_eq_true,Bool.and_eq_true]
  exact O.key.imp (fun h=>⟨h _ h0,rfl⟩) (fun h=>⟨h _ h0,rfl⟩)
 have hi:cV [S.x0]=[(S.x0,.int 0)]:=rfl
 have hp:Fl.eU [] [(S.x0,.int 0)]=.ok [(S.x0,.int 0)]:=by simp[Fl.eU,hs,putM,bW,bY]
 unfold gY
 rw[aIL]
 simp only[rqρ,bfQ,eZ,List.take_zero,hi,List.map_nil] at q
 simp[hp,q,eZ]
end Mc
namespace Fl
open PySem L2 PyProof.Rows
@[simp] theorem aLT(i:Nat)(f g:Sg->R PyData)(ρ:Sg):n4 i f g ρ=match ρ[i]? with
 | some (some (.m kvs))=>(f ρ).bind fun k=>(g ρ).bind fun y=>if bS k (kvs.map (·.1))=true/\kvs.length<=16777216 then .ok (.nx (if bW kvs k=true then ρ else ρ.set i (some (.m (putM kvs k y))))) else .bad
 | _=>.bad:=id rfl
@[simp] theorem aMG(i:Nat)(ρ:Sg):aLF i ρ=match ρ[i]? with
 | some (some (.l xs))=>.ok (.nx (ρ.set i (some (.l xs.reverse))))
 | _=>.bad:=id rfl
theorem uH{x:PyData}{xs:List PyData}(h:aT x=.ok xs):kP x=.ok (xs.zipIdx.map oP):=by
 unfold kP;rw[h];rfl
end Fl
namespace Mc
open PySem L2 PyProof.Rows Fl
mutual
def nbD:PyData->Bool
 | .bool _=>false
 | .dict _=>false
 | .list xs=>kB xs
 | .tuple xs=>kB xs
 | _=>true
def kB:List PyData->Bool
 | []=>true
 | x::t=>nbD x && kB t
end
mutual
theorem uI:∀ d:PyData,d.canLay0=true->d.eqv d=true
 | .none,_=>by rfl
 | .bool b,_=>by simp[PyData.eqv]
 | .int i,_=>by simp[PyData.eqv]
 | .str x,_=>by simp[PyData.eqv]
 | .list xs,h=>by
  show PyData.eqvAll xs xs=true
  exact qQ xs h
 | .tuple xs,h=>by
  show PyData.eqvAll xs xs=true
  exact qQ xs h
 | .dict _,h=>by cases h
theorem qQ:∀ xs:List PyData,PyData.canLayAll0 xs=true->PyData.eqvAll xs xs=true
 | [],_=>by rfl
 | x::t,h=>by
  have h':(x.canLay0 && PyData.canLayAll0 t)=true:=h
  rw[Bool.and_eq_true] at h'
  show (x.eqv x && PyData.eqvAll t t)=true
  rw[uI x h'.1,qQ t h'.2];rfl
end
mutual
theorem aA7:∀ x y:PyData,nbD x=true->nbD y=true->x.eqv y=true->x=y
 | .none,.none,_,_,_=>rfl
 | .int i,.int j,_,_,h=>by simp[PyData.eqv] at h;rw[h]
 | .str i,.str j,_,_,h=>by simp[PyData.eqv] at h;rw[h]
 | .list xs,.list ys,h1,h2,h=>by rw[qR xs ys h1 h2 h]
 | .tuple xs,.tuple ys,h1,h2,h=>by rw[qR xs ys h1 h2 h]
 | .bool _,_,h,_,_=>by cases h
 | .dict _,_,h,_,_=>by cases h
 | _,.bool _,_,h,_=>by cases h
 | _,.dict _,_,h,_=>by cases h
 | .none,.int _,_,_,h=>by simp[PyData.eqv] at h
 | .none,.str _,_,_,h=>by simp[PyData.eqv] at h
 | .none,.list _,_,_,h=>by simp[PyData.eqv] at h
 | .none,.tuple _,_,_,h=>by simp[PyData.eqv] at h
 | .int _,.none,_,_,h=>by simp[PyData.eqv] at h
 | .int _,.str _,_,_,h=>by simp[PyData.eqv] at h
 | .int _,.list _,_,_,h=>by simp[PyData.eqv] at h
 | .int _,.tuple _,_,_,h=>by simp[PyData.eqv] at h
 | .str _,.none,_,_,h=>by simp[PyData.eqv] at h
 | .str _,.int _,_,_,h=>by simp[PyData.eqv] at h
 | .str _,.list _,_,_,h=>by simp[PyData.eqv] at h
 | .str _,.tuple _,_,_,h=>by simp[PyData.eqv] at h
 | .list _,.none,_,_,h=>by simp[PyData.eqv] at h
 | .list _,.int _,_,_,h=>by simp[PyData.eqv] at h
 | .list _,.str _,_,_,h=>by simp[PyData.eqv] at h
 | .list _,.tuple _,_,_,h=>by simp[PyData.eqv] at h
 | .tuple _,.none,_,_,h=>by simp[PyData.eqv] at h
 | .tuple _,.int _,_,_,h=>by simp[PyData.eqv] at h
 | .tuple _,.str _,_,_,h=>by simp[PyData.eqv] at h
 | .tuple _,.list _,_,_,h=>by simp[PyData.eqv] at h
theorem qR:∀ xs ys:List PyData,kB xs=true->kB ys=true->PyData.eqvAll xs ys=true->xs=ys
 | [],[],_,_,_=>rfl
 | [],_::_,_,_,h=>by simp[PyData.eqvAll] at h
 | _::_,[],_,_,h=>by simp[PyData.eqvAll] at h
 | x::xs,y::ys,h1,h2,h=>by
  have h1':(nbD x && kB xs)=true:=h1
  have h2':(nbD y && kB ys)=true:=h2
  have h':(x.eqv y && PyData.eqvAll xs ys)=true:=h
  rw[Bool.and_eq_true] at h1' h2' h'
  rw[aA7 x y h1'.1 h2'.1 h'.1,qR xs ys h1'.2 h2'.2 h'.2]
end
theorem aA8{d:PyData}(h:SeqAt.shaped d=true):d.canLay0=true:=by
 have h':(d.canLay0 && decide (d.depth<=64))=true:=h
 rw[Bool.and_eq_true] at h'
 exact h'.1
theorem aIN{x y:PyData}(hx:nbD x=true)(hy:nbD y=true)(l:SeqAt.shaped x=true):x.eqv y=decide (x=y):=by
 by_cases h:x=y
 ·subst h;rw[uI x (aA8 l),decide_eq_true rfl]
 ·rw[decide_eq_false h]
  cases q:x.eqv y with
  | false=>rfl
  | true=>exact absurd (aA7 x y hx hy q) h
structure Cp(d:PyData):Prop where
 nb:nbD d=true
 sh:SeqAt.shaped d=true
theorem uJ{x y:PyData}(hx:Cp x)(hy:Cp y):dNe x y=.ok (.bool (!decide (x=y))):=by rw[uC hx.sh hy.sh,aIN hx.nb hy.nb hx.sh]
theorem aA9{x:PyData}(h:SeqAt.shaped x=true):dEq x x=.ok (.bool true):=by rw[aA3 h h,uI x (aA8 h)]
end Mc
namespace Mc
open PySem L2 PyProof.Rows Fl
end Mc
namespace Mc
open PySem L2 PyProof.Rows Fl
noncomputable def aLU(rs:List Rw)(x:PyData)(k:Nat):PyData:=match aC3 [.d x,.d (aIK rs k)] with
 | .ok (.d y)=>y
 | _=>.none
end Mc
namespace Mc
open PySem L2 PyProof.Rows Fl
def tc(m:Nat):Tn->Nat
 | .n i=>i.toNat
 | .w x=>if x="by" then m else if x="out" then m+1 else m+2
structure Ctr(rs:List Rw)(sg p q:Nat):Prop where
 len:rs.length=p+1+q
 p1:1<=p
 p5:p<=5
 q1:1<=q
 q5:q<=5
 lef:(jG rs 0).l=.n 0
 mid:(jG rs (p:Int)).l=.n ((p:Int)+1)
 a:∀ i:Nat,i < p->∀ k,k < sg->ck k (jG rs (i:Int))=((((i+(if k=0 then 1 else 0)) % p:Nat):Int),1)
 b:∀ k,k < sg->ck k (jG rs (p:Int))=((p:Int),-1)
 c:∀ j:Nat,j < q->∀ k,k < sg->ck k (jG rs ((p+1+j:Nat):Int))=(((p+1+(j+(if k=sg - 1 then 1 else 0)) % q:Nat):Int),1)
end Mc
namespace Mb
open Classical
section
variable{τ:Type}(g:τ->Nat->τ)(t0:τ)(cs:List Nat)
variable{g t0 cs}
end
end Mb
namespace Mc
open PySem L2 PyProof.Rows Fl
def stD(z:List Nat):PyData:=.str ⟨z.toArray⟩
end Mc
namespace Mc
open PySem L2 PyProof.Rows Fl
abbrev PZ:=PyData×List Nat
noncomputable def adP(z:List Nat)(l:List PZ)(y:PyData×Nat):List PZ:=if y.1∈l.map (·.1) then l else l++[(y.1,z++[97+y.2])]
noncomputable def bfP(after:PyData->List PyData)(x0:PyData):Nat->List PZ
 | 0=>[(x0,[])]
 | n+1=>match (bfP after x0 n)[n]? with
  | some p=>(after p.1).zipIdx.foldl (adP p.2) (bfP after x0 n)
  | none=>bfP after x0 n
theorem aGC(z:List Nat)(l:List PZ)(y:PyData×Nat):(adP z l y).map (·.1)=adQ (l.map (·.1)) y.1:=by
 unfold adP adQ
 split
 · rfl
 · rw [List.map_append]; rfl
theorem wP(z:List Nat)(l:List PZ)(y:PyData×Nat):l <+: adP z l y:=by
 unfold adP
 split
 · exact List.prefix_refl _
 · exact List.prefix_append ..
theorem aC8(z:List Nat)(ys:List (PyData×Nat)):∀ l:List PZ,(ys.foldl (adP z) l).map (·.1)=adA (l.map (·.1)) (ys.map (·.1)):=by
 induction ys with
 | nil=>intro l;rfl
 | cons y t ih=>intro l;rw[List.foldl_cons,ih,aGC];rfl
theorem kC(z:List Nat)(ys:List (PyData×Nat)):∀ l:List PZ,l <+: ys.foldl (adP z) l:=by
 induction ys with
 | nil=>exact fun l=>List.prefix_refl _
 | cons y t ih=>exact fun l=>(wP z l y).trans (ih _)
theorem jR(after:PyData->List PyData)(x0:PyData)(n:Nat):(bfP after x0 n).map (·.1)=bfQ after x0 n:=by
 induction n with
 | zero=>rfl
 | succ n ih=>
  have e:(bfQ after x0 n)[n]? = ((bfP after x0 n)[n]?).map (·.1):=by rw[<-ih,List.getElem?_map]
  cases q:(bfP after x0 n)[n]? with
  | none=>rw[q] at e;rw[bfP,bfQ,q,e];exact ih
  | some p=>
   rw[q] at e
   rw[bfP,bfQ,q,e]
   simp only[Option.map_some]
   rw[aC8,ih]
   congr 1
   exact List.zipIdx_map_fst 0 _
theorem hJ(after:PyData->List PyData)(x0:PyData)(n:Nat):(bfP after x0 n).length=(bfQ after x0 n).length:=by rw[<-jR,List.length_map]
theorem oW{after:PyData->List PyData}{x0:PyData}{n:Nat}{p:PZ}(h:(bfP after x0 n)[n]? = some p):bfP after x0 (n+1)=(after p.1).zipIdx.foldl (adP p.2) (bfP after x0 n):=by rw[bfP,h]
theorem aC9{kvs:List (PyData×PyData)}{k v k':PyData}(h:bW kvs k=false):bY (putM kvs k v) k'=if k'=k then some v else bY kvs k':=by
 have h':bY kvs k=none:=by
  unfold bW at h
  cases q:bY kvs k with
  | none=>rfl
  | some x=>rw[q] at h;cases h
 unfold putM
 rw[h,if_neg (by decide)]
 unfold bY at h' ⊢
 rw[List.find?_append]
 by_cases e:k'=k
 ·subst e
  have:kvs.find? (fun p=>decide (p.1=k'))=none:=by
   cases q:kvs.find? (fun p=>decide (p.1=k')) with
   | none=>rfl
   | some x=>rw[q] at h';cases h'
  rw[if_pos rfl,this]
  simp
 ·rw[if_neg e]
  cases q:kvs.find? (fun p=>decide (p.1=k')) with
  | none=>simp[Ne.symm e]
  | some x=>rfl
structure Came(L:List PZ)(D:List (PyData×PyData))(m:Nat):Prop where
 got:∀ (j:Nat) (x:PyData) (z:List Nat),1<=j->j < m->L[j]? = some (x,z)->∃ (i k:Nat) (x':PyData) (z':List Nat),bY D (.int (j:Int))=some (.tuple [.int (i:Int),.str ⟨#[97+k]⟩])/\L[i]? = some (x',z')/\i < j/\z=z'++[97+k]
 new:∀ j:Nat,m<=j->bW D (.int (j:Int))=false
 key:∀ p∈D.map (·.1),kY p=true
end Mc
namespace Mc
open PySem L2 PyProof.Rows Fl
section
variable{after:PyData->List PyData}{x0:PyData}
theorem aDA{n:Nat}(h:(bfQ after x0 n).length<=n):bfP after x0 (n+1)=bfP after x0 n:=by
 have:(bfP after x0 n)[n]? = none:=List.getElem?_eq_none (by rw[hJ];exact h)
 rw[bfP,this]
theorem uK{m:Nat}(h:(bfQ after x0 m).length<=m):∀ k,bfP after x0 (m+k)=bfP after x0 m
 | 0=>rfl
 | k+1=>by
  have ih:=uK h k
  have:(bfQ after x0 (m+k)).length<=m+k:=by rw[<-hJ,ih,hJ];omega
  rw[<-Nat.add_assoc,aDA this,ih]
theorem aBA(n:Nat):((bfP after x0 n).map (·.1)).Nodup:=by rw[jR];exact lM after x0 n
structure Fto(after:PyData->List PyData)(x0:PyData)(wn:PyData->Bool)(k1 k2:Nat)(G Wn:List PyData->R PyData)(N:Nat):Prop where
 on:∀ m,m < N->m < (bfQ after x0 m).length/\∀ x,(bfQ after x0 m)[m]? = some x->wn x=false
 off:(bfQ after x0 N).length<=N\/∃ x,(bfQ after x0 N)[N]? = some x/\wn x=true
 key:(∀ x∈bfQ after x0 N,fF x=true)\/(∀ x∈bfQ after x0 N,kY x=true)
 len:(bfQ after x0 N).length<=100000
 hN:N<=100000
 hk1:k1<=12
 hk2:k2<=11
 hG:∀ m x,m < N->(bfQ after x0 N)[m]? = some x->(∃ d,G [x]=.ok d/\aT d=.ok (after x))/\(after x).length<=3
 hW:∀ m x,m<=N->(bfQ after x0 N)[m]? = some x->Wn [x]=.ok (.bool (wn x))
end
theorem rX{P:Nat->Prop}:∀ K:Nat,P K->∃ n,n<=K/\P n/\∀ m,m < n->¬ P m:=by
 intro K
 induction K using Nat.strongRecOn with
 | _ K ih=>
  intro h
  by_cases q:∃ m,m < K/\P m
  ·obtain ⟨m,h1,h2⟩:=q
   obtain ⟨n,a,b,c⟩:=ih m h1 h2
   exact ⟨n,by omega,b,c⟩
  ·exact ⟨K,Nat.le_refl _,h,fun m hm hp=>q ⟨m,hm,hp⟩⟩
def rdD(rows:List (List Nat))(ws:List PyData):PyData:=.tuple [.tuple (rows.map aV),.tuple ws]
noncomputable def afR(rows:List (List Nat)):PyData->List PyData
 | .int q=>(rows.getD q.toNat []).map fun j:Nat=>.int (j:Int)
 | _=>[]
structure Rdr(rows:List (List Nat))(sg:Nat):Prop where
 n1:1<=rows.length
 n2:rows.length<=1000
 s1:1<=sg
 s3:sg<=3
 row:∀ r∈rows,r.length=sg/\∀ j∈r,j < rows.length
section
variable{rows:List (List Nat)}{sg:Nat}
theorem Rdr.at(M:Rdr rows sg){q:Nat}(hq:q < rows.length):rows[q]? = some (rows.getD q [])/\(rows.getD q []).length=sg/\∀ j∈rows.getD q [],j < rows.length:=by
 have e:rows[q]? = some (rows.getD q []):=by rw[List.getD_eq_getElem?_getD,List.getElem?_eq_getElem hq];rfl
 exact ⟨e,M.row _ (List.mem_of_getElem? e)⟩
theorem aGD:∀ {n:Nat} {xs:List PyData},xs.Nodup->(∀ x∈xs,∃ q:Nat,q < n/\x=.int (q:Int))->xs.length<=n:=by
 intro n xs nd h
 refine rH (fun x=>match x with | .int q=>q.toNat|_=>0) n xs nd (fun x hx=>?_) (fun a ha b hb e=>?_)
 ·obtain ⟨q,hq,rfl⟩:=h x hx
  show ((q:Int)).toNat < n
  omega
 ·obtain ⟨q,hq,rfl⟩:=h a ha
  obtain ⟨r,hr,rfl⟩:=h b hb
  have e':((q:Int)).toNat=((r:Int)).toNat:=e
  rw[show q=r by omega]
theorem hU{ws:List PyData}(M:Rdr rows sg){q:Nat}(hq:q < rows.length):dIx (.tuple (rows.map aV)) (.int (q:Int))=.ok (aV (rows.getD q [])):=kQ (dB (by rw[List.getElem?_map,(M.at hq).1];rfl))
end
end Mc
namespace Mc
open PySem L2 PyProof.Rows Fl
def sl(y z:List Nat):Prop:=y.length < z.length\/(y.length=z.length/\List.Lex (· < ·) y z)
theorem aBB:∀ {x y z:List Nat},List.Lex (· < ·) x y->List.Lex (· < ·) y z->List.Lex (· < ·) x z
 | _,_,_,.nil,.cons _=>.nil
 | _,_,_,.nil,.rel _=>.nil
 | _,_,_,.rel h,.rel k=>.rel (Nat.lt_trans h k)
 | _,_,_,.rel h,.cons _=>.rel h
 | _,_,_,.cons _,.rel k=>.rel k
 | _,_,_,.cons h,.cons k=>.cons (aBB h k)
theorem aIO(z:List Nat){c d:Nat}(h:c < d):List.Lex (· < ·) (z++[c]) (z++[d]):=by
 induction z with
 | nil=>exact .rel h
 | cons a z ih=>exact .cons ih
theorem aIP{y z:List Nat}(h:List.Lex (· < ·) y z):y.length=z.length->∀ c d:Nat,List.Lex (· < ·) (y++[c]) (z++[d]):=by
 induction h with
 | nil=>intro e;simp at e
 | rel h=>intro _ c d;exact .rel h
 | cons h ih=>intro e c d;exact .cons (ih (by simpa using e) c d)
theorem aKE{x y z:List Nat}(h:sl x y)(k:sl y z):sl x z:=by
 rcases h with h|⟨h1,h2⟩<;>rcases k with k|⟨k1,k2⟩
 · exact .inl (by omega)
 · exact .inl (by omega)
 · exact .inl (by omega)
 · exact .inr ⟨by omega, aBB h2 k2⟩
theorem aD8{y z:List Nat}(h:sl y z)(c d:Nat):sl (y++[c]) (z++[d]):=by
 rcases h with h|⟨h1,h2⟩
 · exact .inl (by simp; omega)
 · exact .inr ⟨by simp; omega, aIP h2 h1 c d⟩
theorem aKF(z:List Nat){c d:Nat}(h:c < d):sl (z++[c]) (z++[d]):=.inr ⟨by simp,aIO z h⟩
theorem aKG(z:List Nat)(c:Nat):sl z (z++[c]):=.inl (by simp)
section
variable{after:PyData->List PyData}{x0:PyData}
theorem wQ{z:List Nat}(ys:List PyData):∀ (k:Nat) (F:List PZ),(F.map (·.2)).Pairwise sl->(∀ p∈F,∀ j,k<=j->sl p.2 (z++[97+j]))->
  (((ys.zipIdx k).foldl (adP z) F).map (·.2)).Pairwise sl/\(∀ p∈(ys.zipIdx k).foldl (adP z) F,p∈F\/∃ j,p.2=z++[97+j])/\∀ (j:Nat) y,ys[j]? = some y->∃ zy,(y,zy)∈(ys.zipIdx k).foldl (adP z) F/\(zy=z++[97+(k+j)]\/sl zy (z++[97+(k+j)])):=by
 induction ys with
 | nil=>intro k F h1 h2;exact ⟨h1,fun p hp=>.inl hp,fun j y e=>by simp at e⟩
 | cons y t ih=>
  intro k F h1 h2
  rw[List.zipIdx_cons,List.foldl_cons]
  by_cases hm:y∈F.map (·.1)
  ·have ea:adP z F (y,k)=F:=if_pos hm
   rw[ea]
   obtain ⟨a,b,c⟩:=ih (k+1) F h1 fun p hp j hj=>h2 p hp j (by omega)
   refine ⟨a,b,fun j w e=>?_⟩
   cases j with
   | zero=>
    simp at e
    subst e
    obtain ⟨p,hp,rfl⟩:=List.mem_map.mp hm
    exact ⟨p.2,(kC z _ F).subset hp,.inr (h2 p hp _ (by omega))⟩
   | succ j=>
    obtain ⟨zy,g1,g2⟩:=c j w (by simpa using e)
    exact ⟨zy,g1,by rw[show k+(j+1)=k+1+j by omega];exact g2⟩
  ·have ea:adP z F (y,k)=F++[(y,z++[97+k])]:=if_neg hm
   rw[ea]
   have p1:((F++[(y,z++[97+k])]).map (·.2)).Pairwise sl:=by
    rw[List.map_append,List.pairwise_append]
    refine ⟨h1,by simp,fun u hu v hv=>?_⟩
    obtain ⟨p,hp,rfl⟩:=List.mem_map.mp hu
    rw[List.map_singleton,List.mem_singleton] at hv
    rw[hv];exact h2 p hp k (Nat.le_refl _)
   obtain ⟨a,b,c⟩:=ih (k+1) (F++[(y,z++[97+k])]) p1 fun p hp j hj=>by
    rcases List.mem_append.mp hp with h|h
    ·exact h2 p h j (by omega)
    ·rw[List.mem_singleton.mp h];exact aKF z (by omega)
   refine ⟨a,fun p hp=>?_,fun j w e=>?_⟩
   ·rcases b p hp with h|h
    ·rcases List.mem_append.mp h with h|h
     · exact .inl h
     · exact .inr ⟨k, by rw [List.mem_singleton.mp h]⟩
    ·exact .inr h
   ·cases j with
    | zero=>
     simp at e
     subst e
     exact ⟨z++[97+k],(kC z _ _).subset (by simp),.inl rfl⟩
    | succ j=>
     obtain ⟨zy,g1,g2⟩:=c j w (by simpa using e)
     exact ⟨zy,g1,by rw[show k+(j+1)=k+1+j by omega];exact g2⟩
theorem aBC(n:Nat):((bfP after x0 n).map (·.2)).Pairwise sl/\∀ x z,(bfP after x0 n)[n]? = some (x,z)->∀ p∈bfP after x0 n,∀ j,sl p.2 (z++[97+j]):=by
 induction n with
 | zero=>
  refine ⟨by simp[bfP],fun x z e p hp j=>?_⟩
  have e:some (x0,([]:List Nat))=some (x,z):=e
  cases e
  rw[List.mem_singleton.mp hp]
  exact aKG [] _
 | succ n ih=>
  obtain ⟨h1,h2⟩:=ih
  cases q:(bfP after x0 n)[n]? with
  | none=>
   have e:bfP after x0 (n+1)=bfP after x0 n:=by rw[bfP,q]
   rw[e]
   refine ⟨h1,fun x z e'=>?_⟩
   have:=List.getElem?_eq_none_iff.mp q
   rw[List.getElem?_eq_none (by omega)] at e'
   cases e'
  | some p=>
   obtain ⟨x,z⟩:=p
   have e:=oW q
   obtain ⟨a,b,_⟩:=wQ (after x) 0 (bfP after x0 n) h1 fun p hp j _=>h2 x z q p hp j
   rw[e]
   refine ⟨a,fun x1 z1 e1 p hp j=>?_⟩
   have hz:sl z z1:=by
    have hq:((after x).zipIdx.foldl (adP z) (bfP after x0 n))[n]? = some (x,z):=kA (kC z _ _) q
    have l1:=(List.getElem?_eq_some_iff.mp hq)
    have l2:=(List.getElem?_eq_some_iff.mp e1)
    obtain ⟨g1,g2⟩:=l1
    obtain ⟨g3,g4⟩:=l2
    have:=List.pairwise_iff_getElem.mp a n (n+1) (by rw[List.length_map];exact g1) (by rw[List.length_map];exact g3) (by omega)
    rw[List.getElem_map,List.getElem_map,g2,g4] at this
    exact this
   rcases b p hp with h|⟨j',h⟩
   ·exact aKE (h2 x z q p h 0) (aD8 hz _ _)
   ·rw[h];exact aD8 hz _ _
noncomputable def oX(after:PyData->List PyData)(x0:PyData)(w:List Nat):PyData:=w.foldl (fun x c=>((after x)[c - 97]?).getD .none) x0
theorem aGE(n:Nat):∀ p∈bfP after x0 n,oX after x0 p.2=p.1:=by
 induction n with
 | zero=>intro p hp;rw[List.mem_singleton.mp hp];rfl
 | succ n ih=>
  rw[bfP]
  split
  ·rename_i q hq
   have hq':=ih q (List.mem_of_getElem? hq)
   have gen:∀ (ys:List (PyData×Nat)) (F:List PZ),(∀ y∈ys,(after q.1)[y.2]? = some y.1)->(∀ p∈F,oX after x0 p.2=p.1)->∀ p∈ys.foldl (adP q.2) F,oX after x0 p.2=p.1:=by
    intro ys
    induction ys with
    | nil=>exact fun F _ h=>h
    | cons y t iht=>
     intro F hy h
     refine iht _ (fun y' h'=>hy y' (List.mem_cons_of_mem _ h')) fun p hp=>?_
     unfold adP at hp
     split at hp
     ·exact h p hp
     ·rcases List.mem_append.mp hp with z|z
      ·exact h p z
      ·rw[List.mem_singleton.mp z]
       show oX after x0 (q.2++[97+y.2])=y.1
       unfold oX at hq' ⊢
       rw[List.foldl_append,hq',List.foldl_cons,List.foldl_nil,show 97+y.2 - 97=y.2 by omega,hy y List.mem_cons_self];rfl
   refine gen _ _ (fun y hy=>?_) ih
   obtain ⟨j,hj⟩:=List.getElem?_of_mem hy
   rw[List.getElem?_zipIdx] at hj
   cases e:(after q.1)[j]? with
   | none=>rw[e] at hj;cases hj
   | some v=>
    rw[e] at hj
    cases hj
    rw[Nat.zero_add];exact e
  ·exact ih
structure FtoC(after:PyData->List PyData)(x0:PyData)(wn:PyData->Bool)(k1 k2:Nat)(G Wn:List PyData->R PyData)(M:Nat):Prop where
 cl:(bfQ after x0 M).length<=M
 hM:M<=100000
 key:(∀ x∈bfQ after x0 M,fF x=true)\/(∀ x∈bfQ after x0 M,kY x=true)
 hk1:k1<=12
 hk2:k2<=11
 hG:∀ x∈bfQ after x0 M,(∃ d,G [x]=.ok d/\aT d=.ok (after x))/\(after x).length<=3
 hW:∀ x∈bfQ after x0 M,Wn [x]=.ok (.bool (wn x))
end
end Mc
namespace Mc
open PySem L2 PyProof.Rows Fl
def prN(a b:Nat):PyData:=.tuple [.int (a:Int),.int (b:Int)]
noncomputable def afP(r1 r2:List (List Nat)):PyData->List PyData
 | .tuple [.int a,.int b]=>((r1.getD a.toNat []).zip (r2.getD b.toNat [])).map fun p=>prN p.1 p.2
 | _=>[]
theorem pP(r1 r2:List (List Nat))(a b:Nat):afP r1 r2 (prN a b)=((r1.getD a []).zip (r2.getD b [])).map fun p=>prN p.1 p.2:=by
 show ((r1.getD ((a:Int)).toNat []).zip (r2.getD ((b:Int)).toNat [])).map _=_
 rw[show ((a:Int)).toNat=a by omega,show ((b:Int)).toNat=b by omega]
noncomputable def wnP(w1 w2:List Str):PyData->Bool
 | .tuple [.int a,.int b]=>decide (w1.getD a.toNat ""≠w2.getD b.toNat "")
 | _=>false
theorem aD9(w1 w2:List Str)(a b:Nat):wnP w1 w2 (prN a b)=decide (w1.getD a ""≠w2.getD b ""):=by
 show decide (w1.getD ((a:Int)).toNat ""≠w2.getD ((b:Int)).toNat "")=_
 rw[show ((a:Int)).toNat=a by omega,show ((b:Int)).toNat=b by omega]
def qS(w:Str):Prop:=w="by"\/w="out"\/w="ever"
structure Rdw(rows:List (List Nat))(ws:List Str)(sg:Nat):Prop where
 r:Rdr rows sg
 wl:ws.length=rows.length
 ww:∀ w∈ws,qS w
noncomputable def rdW(rows:List (List Nat))(ws:List Str):PyData:=rdD rows (ws.map .str)
section
variable{r1 r2:List (List Nat)}{w1 w2:List Str}{sg:Nat}
theorem Rdw.w(M:Rdw r1 w1 sg){q:Nat}(hq:q < r1.length):qS (w1.getD q "")/\dIx (.tuple (w1.map .str)) (.int (q:Int))=.ok (.str (w1.getD q "")):=by
 have hl:=M.wl
 have e:w1[q]? = some (w1.getD q ""):=by rw[List.getD_eq_getElem?_getD,List.getElem?_eq_getElem (by omega)];rfl
 refine ⟨M.ww _ (List.mem_of_getElem? e),kQ (dB ?_)⟩
 rw[List.getElem?_map,e];rfl
theorem lN(M1:Rdr r1 sg)(M2:Rdr r2 sg){a b:Nat}(ha:a < r1.length)(hb:b < r2.length){n:Nat}:∀ {x:PyData},x∈bfQ (afP r1 r2) (prN a b) n->∃ c d:Nat,c < r1.length/\d < r2.length/\x=prN c d:=by
 induction n with
 | zero=>intro x hx;rw[List.mem_singleton.mp hx];exact ⟨a,b,ha,hb,rfl⟩
 | succ n ih=>
  intro x hx
  rw[bfQ] at hx
  split at hx
  ·rename_i y hy
   rcases adA_mem _ hx with h|h
   ·exact ih h
   ·obtain ⟨c,d,hc,hd,rfl⟩:=ih (List.mem_of_getElem? hy)
    rw[pP] at h
    obtain ⟨p,hp,rfl⟩:=List.mem_map.mp h
    have:=List.of_mem_zip (a:=p.1) (b:=p.2) hp
    exact ⟨p.1,p.2,(M1.at hc).2.2 _ this.1,(M2.at hd).2.2 _ this.2,rfl⟩
  ·exact ih hx
theorem aGF{n m:Nat}{xs:List PyData}(nd:xs.Nodup)(h:∀ x∈xs,∃ c d:Nat,c < n/\d < m/\x=prN c d):xs.length<=n * m:=by
 refine rH (fun x=>match x with | .tuple [.int a,.int b]=>a.toNat * m+b.toNat|_=>0) (n * m) xs nd (fun x hx=>?_) (fun x hx y hy e=>?_)
 ·obtain ⟨c,d,hc,hd,rfl⟩:=h x hx
  show ((c:Int)).toNat * m+((d:Int)).toNat < n * m
  rw[show ((c:Int)).toNat=c by omega,show ((d:Int)).toNat=d by omega]
  calc c * m+d < c * m+m:=by omega
   _=(c+1) * m:=by rw[Nat.succ_mul]
   _<=n * m:=Nat.mul_le_mul_right _ hc
 ·obtain ⟨c,d,hc,hd,rfl⟩:=h x hx
  obtain ⟨c',d',hc',hd',rfl⟩:=h y hy
  have e:((c:Int)).toNat * m+((d:Int)).toNat=((c':Int)).toNat * m+((d':Int)).toNat:=e
  rw[show ((c:Int)).toNat=c by omega,show ((d:Int)).toNat=d by omega,show ((c':Int)).toNat=c' by omega,show ((d':Int)).toNat=d' by omega] at e
  have h1:(c * m+d) % m=d:=by rw[Nat.add_comm,Nat.add_mul_mod_self_right,Nat.mod_eq_of_lt hd]
  have h2:(c' * m+d') % m=d':=by rw[Nat.add_comm,Nat.add_mul_mod_self_right,Nat.mod_eq_of_lt hd']
  have h3:d=d':=by rw[<-h1,e,h2]
  subst h3
  have h4:c * m=c' * m:=by omega
  rw[Nat.eq_of_mul_eq_mul_right (by omega) h4]
theorem qT(M1:Rdr r1 sg)(M2:Rdr r2 sg){a b:Nat}(ha:a < r1.length)(hb:b < r2.length)(n:Nat):(bfQ (afP r1 r2) (prN a b) n).length<=r1.length * r2.length:=
 aGF (lM _ _ n) fun x hx=>lN M1 M2 ha hb hx
def zO:Option (List Nat)->PyData
 | none=>.none
 | some z=>stD z
noncomputable def fZ(r1 r2:List (List Nat))(a b:Nat):List PZ:=bfP (afP r1 r2) (prN a b) (r1.length * r2.length)
noncomputable def yR(r1 r2:List (List Nat))(w1 w2:List Str)(a b:Nat):Option (List Nat):=((fZ r1 r2 a b).find? fun p=>wnP w1 w2 p.1).map (·.2)
end
end Mc
namespace Mc
open PySem L2 PyProof.Rows Fl
@[simp] theorem aMH(i:Nat)(f:Sg->R Fw)(ρ:Sg):nJ i f ρ=f (fzM i ρ):=id rfl
@[simp] theorem aNH(i:Nat)(ρ:Sg):fzM i ρ=match ρ[i]? with|some (some (.m kvs))=>ρ.set i (some (.f kvs))|_=>ρ:=id rfl
@[simp] theorem aMI(neg:Bool)(i:Nat)(f:Sg->R PyData)(ρ:Sg):aLG neg i f ρ=(f ρ).bind fun k=>match ρ[i]? with
 | some (some (.f kvs))=>if bS k (kvs.map (·.1))=true then .ok (.bool (if neg=true then !bW kvs k else bW kvs k)) else .bad
 | _=>.bad:=id rfl
@[simp] theorem aLV(i:Nat)(f:Sg->R PyData)(ρ:Sg):aJ5 i f ρ=match ρ[i]? with
 | some (some (.f kvs))=>(f ρ).bind fun k=>if bS k (kvs.map (·.1))=true then (match bY kvs k with
  | some v=>.ok v
  | none=>.bad) else .bad
 | _=>.bad:=id rfl
def psM(l:List PZ):List (PyData×PyData):=l.map fun p=>(p.1,stD p.2)
theorem mM(l:List PZ):(psM l).map (·.1)=l.map (·.1):=by unfold psM;rw[List.map_map];rfl
theorem wR{l:List PZ}{x:PyData}:bW (psM l) x=true↔x∈l.map (·.1):=by rw[oG,mM]
theorem uL{l:List PZ}{x:PyData}(h:x∉l.map (·.1)):bW (psM l) x=false:=by
 cases q:bW (psM l) x with
 | false=>rfl
 | true=>exact absurd (wR.mp q) h
theorem qU:∀ {l:List PZ} {i:Nat} {x:PyData} {z:List Nat},(l.map (·.1)).Nodup->l[i]? = some (x,z)->bY (psM l) x=some (stD z)
 | [],_,_,_,_,h=>by simp at h
 | p::t,0,x,z,_,h=>by
  simp at h
  subst h
  unfold bY psM
  simp
 | p::t,i+1,x,z,nd,h=>by
  have h':t[i]? = some (x,z):=by simpa using h
  rw[List.map_cons,List.nodup_cons] at nd
  have ih:=qU nd.2 h'
  have hne:¬ p.1=x:=fun e=>nd.1 (by rw[e];exact List.mem_map.mpr ⟨_,List.mem_of_getElem? h',rfl⟩)
  unfold bY psM at ih ⊢
  rw[List.map_cons,List.find?_cons]
  simp only[hne,decide_false]
  exact ih
theorem aGG{l:List PZ}{x:PyData}{z:List Nat}(h:x∉l.map (·.1)):putM (psM l) x (stD z)=psM (l++[(x,z)]):=by
 unfold putM
 rw[uL h,if_neg (by decide)]
 unfold psM
 rw[List.map_append];rfl
theorem aIQ{k:Nat}(h:k < 3):dIx (.str "abc") (.int (k:Int))=.ok (.str ⟨#[97+k]⟩):=by
 rcases (by omega:k=0\/k=1\/k=2) with rfl|rfl|rfl<;>rfl
theorem aGH{z:List Nat}{c:Nat}(h:z.length < 16777216):bX (stD z) (.str ⟨#[c]⟩)=.ok (stD (z++[c])):=by
 unfold stD
 rw[aIH (by show z.toArray.size+1<=16777216;rw[List.size_toArray];exact h),show (⟨z.toArray⟩:Str)++(⟨#[c]⟩:Str)=⟨(z++[c]).toArray⟩ by
  show (⟨z.toArray ++ #[c]⟩:Str)=_
  simp]
@[simp] theorem aLW(i:Nat)(ρ:Sg):n6 i ρ=match ρ[i]? with|some (some (.f kvs))=>if kvs.length<=16777216 then .ok (kvs.map (·.1)) else .bad|_=>.bad:=id rfl
end Mc
namespace Mc
open PySem L2 PyProof.Rows Fl
noncomputable def fsF:Sg->R Fw:=(aD (aR 9 (vD (cS (aA (e2 dIx (e2 dIx (e2 dIx (rV 0) (eC (.int 0))) (rV 6)) (rV 8)) (aA (e2 dIx (e2 dIx (e2 dIx (rV 1) (eC (.int 0))) (rV 7)) (rV 8)) aK)))))
 (sIf (e1 asB (mD true 3 (eV 9))) (aD (kO 3 (eV 9) (e2 bX (f9 3 (cS (aA (eV 6) (aA (eV 7) aK)))) (e2 dIx (eC (.str "abc")) (rV 8))))
 (dY 4 (eV 9))) sNx))
noncomputable def fsT:Sg->R Bool:=(e1 asB (e2 dLt (rV 5) (e1 dLen (rV 4))))
noncomputable def fsB:Sg->R Fw:=(aD (mE (stT [(stN 6),(stN 7)]) (e2 dIx (rV 4) (rV 5)))
 (aD (dE (cR (e1 dLen (e2 dIx (e2 dIx (rV 0) (eC (.int 0))) (rV 6)))) (stN 8) fsF)
 (aR 5 (vD (e2 bX (rV 5) (eC (.int 1)))))))
theorem aIR:jD=(aD (mG 3 (mF (eV 2) (eC (.str "")) oH)) (aD (cJ 4 (dD (aA (eV 2) aK))) (aD (aR 5 (vD (eC (.int 0)))) (aD (bA fsT fsB) (nJ 3 (bL (vV 3))))))):=id rfl
noncomputable def fsρ(m1 m2 p:PyData)(l:List PZ)(n:Nat)(u6 u7 u8 u9:Option A):Sg:=[some (.d m1),some (.d m2),some (.d p),some (.m (psM l)),some (.l (l.map (·.1))),some (.d (.int (n:Int))),u6,u7,u8,u9]
section
variable{r1 r2:List (List Nat)}{w1 w2:List Str}{sg:Nat}
theorem aIS{a0 b0 a b n:Nat}{p:PyData}{z:List Nat}{u8 u9:Option A}(M1:Rdw r1 w1 sg)(M2:Rdw r2 w2 sg)(hN:r1.length * r2.length<=100000)(ha0:a0 < r1.length)(hb0:b0 < r2.length)
  (hp:(bfP (afP r1 r2) (prN a0 b0) n)[n]? = some (prN a b,z)) (ha:a < r1.length) (hb:b < r2.length) (hz:∀ p∈bfP (afP r1 r2) (prN a0 b0) n,p.2.length<=n) (hn:n<=100000) :
  ∃ u8' u9',gC (stN 8) fsF ((List.range sg).map fun j:Nat=>PyData.int (j:Int)) (fsρ (rdW r1 w1) (rdW r2 w2) p (bfP (afP r1 r2) (prN a0 b0) n) n (some (.d (.int (a:Int)))) (some (.d (.int (b:Int)))) u8 u9)=.ok (.nx (fsρ (rdW r1 w1) (rdW r2 w2) p (bfP (afP r1 r2) (prN a0 b0) (n+1)) n (some (.d (.int (a:Int)))) (some (.d (.int (b:Int)))) u8' u9')) /\
   ∀ p∈bfP (afP r1 r2) (prN a0 b0) (n+1),p.2.length<=n+1:=by
 have hr1:=M1.r.at ha
 have hr2:=M2.r.at hb
 have s3:=M1.r.s3
 have e1:=oW hp
 have hzz:z.length<=n:=hz _ (List.mem_of_getElem? hp)
 have htk:∀ p∈bfP (afP r1 r2) (prN a0 b0) (n+1),fF p.1=true:=fun p hp'=>by
  have:p.1∈bfQ (afP r1 r2) (prN a0 b0) (n+1):=by rw[<-jR];exact List.mem_map_of_mem hp'
  obtain ⟨c,d,_,_,e⟩:=lN M1.r M2.r ha0 hb0 this
  rw[e];rfl
 have hlen:=qT M1.r M2.r ha0 hb0 (n+1)
 have hY:(afP r1 r2 (prN a b)).length=sg:=by rw[pP,List.length_map,List.length_zip,hr1.2.1,hr2.2.1];omega
 have hYk:∀ k,k < sg->∃ c d,(r1.getD a [])[k]? = some c/\(r2.getD b [])[k]? = some d/\(afP r1 r2 (prN a b))[k]? = some (prN c d):=fun k hk=>by
  refine ⟨_,_,List.getElem?_eq_getElem (by rw[hr1.2.1];exact hk),List.getElem?_eq_getElem (by rw[hr2.2.1];exact hk),?_⟩
  rw[pP,List.getElem?_map,List.getElem?_eq_getElem (by rw[List.length_zip,hr1.2.1,hr2.2.1];omega),List.getElem_zip];rfl
 have i0:dIx (rdW r1 w1) (.int 0)=.ok (.tuple (r1.map aV)):=rfl
 have j0:dIx (rdW r2 w2) (.int 0)=.ok (.tuple (r2.map aV)):=rfl
 have i1:=hU (ws:=w1.map .str) M1.r ha
 have j1:=hU (ws:=w2.map .str) M2.r hb
 obtain ⟨ρ',q1,u8',u9',q2,hz'⟩:=eG (fs:=stN 8) (fb:=fsF) (d:=fun j:Nat=>PyData.int (j:Int)) (xs:=List.range sg) (ρ:=fsρ (rdW r1 w1) (rdW r2 w2) p (bfP (afP r1 r2) (prN a0 b0) n) n (some (.d (.int (a:Int)))) (some (.d (.int (b:Int)))) u8 u9)
  (fun k ρ=>∃ u8' u9',ρ=fsρ (rdW r1 w1) (rdW r2 w2) p (((afP r1 r2 (prN a b)).zipIdx.take k).foldl (adP z) (bfP (afP r1 r2) (prN a0 b0) n)) n (some (.d (.int (a:Int)))) (some (.d (.int (b:Int)))) u8' u9'/\∀ p∈((afP r1 r2 (prN a b)).zipIdx.take k).foldl (adP z) (bfP (afP r1 r2) (prN a0 b0) n),p.2.length<=n+1)
  ⟨u8,u9,by simp,fun p hp'=>by have:=hz p (by simpa using hp');omega⟩
  (fun k kk ρ hk zz0=>by
  obtain ⟨v',w',e,hz'⟩:=zz0
  obtain ⟨hkl,rfl⟩:k < sg/\kk=k:=by
   have:=List.getElem?_eq_some_iff.mp hk
   obtain ⟨h1,h2⟩:=this
   rw[List.length_range] at h1
   rw[List.getElem_range] at h2
   exact ⟨h1,h2.symm⟩
  obtain ⟨c,d,hc,hd,hy⟩:=hYk kk hkl
  have hkx:(afP r1 r2 (prN a b)).zipIdx[kk]? = some (prN c d,kk):=by rw[List.getElem?_zipIdx,hy];simp
  have ht:(afP r1 r2 (prN a b)).zipIdx.take (kk+1)=(afP r1 r2 (prN a b)).zipIdx.take kk++[(prN c d,kk)]:=by rw[List.take_add_one,hkx];rfl
  have hpre:((afP r1 r2 (prN a b)).zipIdx.take (kk+1)).foldl (adP z) (bfP (afP r1 r2) (prN a0 b0) n) <+: bfP (afP r1 r2) (prN a0 b0) (n+1):=by
   rw[e1]
   have:(afP r1 r2 (prN a b)).zipIdx.foldl (adP z) (bfP (afP r1 r2) (prN a0 b0) n)=((afP r1 r2 (prN a b)).zipIdx.drop (kk+1)).foldl (adP z) (((afP r1 r2 (prN a b)).zipIdx.take (kk+1)).foldl (adP z) (bfP (afP r1 r2) (prN a0 b0) n)):=by
    rw[<-List.foldl_append,List.take_append_drop]
   rw[this];exact kC _ _ _
  have hgz:(((afP r1 r2 (prN a b)).zipIdx.take kk).foldl (adP z) (bfP (afP r1 r2) (prN a0 b0) n))[n]? = some (prN a b,z):=kA (kC z _ _) hp
  rw[ht,List.foldl_append,List.foldl_cons,List.foldl_nil] at hpre ⊢
  generalize ((afP r1 r2 (prN a b)).zipIdx.take kk).foldl (adP z) (bfP (afP r1 r2) (prN a0 b0) n)=F at *
  have hF:F <+: bfP (afP r1 r2) (prN a0 b0) (n+1):=(wP z F (prN c d,kk)).trans hpre
  have hFl:F.length<=100000:=by have:=hF.length_le;rw[hJ] at this;omega
  have ndF:(F.map (·.1)).Nodup:=by
   have:=aBA (after:=afP r1 r2) (x0:=prN a0 b0) (n+1)
   obtain ⟨t,et⟩:=hF
   rw[<-et,List.map_append] at this
   exact (List.nodup_append.mp this).1
  have hkeys:∀ x y:Int,bS (.tuple [.int x,.int y]) ((psM F).map (·.1))=true:=fun x y=>by
   unfold bS
   rw[mM,Bool.or_eq_true,Bool.and_eq_true,Bool.and_eq_true]
   exact .inl ⟨rfl,List.all_eq_true.mpr fun p hp'=>by
    obtain ⟨pp,hpp,rfl⟩:=List.mem_map.mp hp'
    exact htk pp (hF.subset hpp)⟩
  have hg:bY (psM F) (.tuple [.int (a:Int),.int (b:Int)])=some (stD z):=qU ndF hgz
  have ha:=aIQ (show kk < 3 by omega)
  have hadd:=aGH (z:=z) (c:=97+kk) (by omega)
  have hml:(psM F).length<=16777216:=by unfold psM;rw[List.length_map];omega
  have hFl2:F.length < 16777216:=by omega
  have c1:dIx (aV (r1.getD a [])) (.int (kk:Int))=.ok (.int (c:Int)):=kQ (dB (by rw[List.getElem?_map,hc];rfl))
  have d1:dIx (aV (r2.getD b [])) (.int (kk:Int))=.ok (.int (d:Int)):=kQ (dB (by rw[List.getElem?_map,hd];rfl))
  by_cases hm:prN c d∈F.map (·.1)
  ·have h1:bW (psM F) (.tuple [.int (c:Int),.int (d:Int)])=true:=wR.mpr hm
   have ea:adP z F (prN c d,kk)=F:=if_pos hm
   rw[ea]
   refine ⟨_,fsρ (rdW r1 w1) (rdW r2 w2) p F n (some (.d (.int (a:Int)))) (some (.d (.int (b:Int)))) (some (.d (.int (kk:Int)))) (some (.d (prN c d))),by rw[e];rfl,.inl ?_,some (.d (.int (kk:Int))),some (.d (prN c d)),rfl,hz'⟩
   simp[-List.getD_eq_getElem?_getD,fsF,fsρ,prN,hkeys,h1,i0,j0,i1,j1,c1,d1]
  ·have h1:bW (psM F) (.tuple [.int (c:Int),.int (d:Int)])=false:=uL hm
   have h2:putM (psM F) (.tuple [.int (c:Int),.int (d:Int)]) (stD (z++[97+kk]))=psM (F++[(prN c d,z++[97+kk])]):=aGG (z:=z++[97+kk]) hm
   have ea:adP z F (prN c d,kk)=F++[(prN c d,z++[97+kk])]:=if_neg hm
   rw[ea]
   refine ⟨_,fsρ (rdW r1 w1) (rdW r2 w2) p (F++[(prN c d,z++[97+kk])]) n (some (.d (.int (a:Int)))) (some (.d (.int (b:Int)))) (some (.d (.int (kk:Int)))) (some (.d (prN c d))),by rw[e];rfl,.inl ?_,some (.d (.int (kk:Int))),some (.d (prN c d)),rfl,fun p hp'=>?_⟩
   ·simp[-List.getD_eq_getElem?_getD,fsF,fsρ,prN,hkeys,h1,h2,hg,ha,hadd,hml,hFl2,i0,j0,i1,j1,c1,d1]
   ·rcases List.mem_append.mp hp' with h|h
    · exact hz' p h
    · rw [List.mem_singleton.mp h]; simp; omega)
 rw[List.length_range,List.take_of_length_le (by rw[List.length_zipIdx,hY];omega)] at q2 hz'
 rw[<-e1] at q2 hz'
 exact ⟨u8',u9',by rw[q1,q2],hz'⟩
theorem aGI{a0 b0:Nat}{p:PyData}(M1:Rdw r1 w1 sg)(M2:Rdw r2 w2 sg)(hN:r1.length * r2.length<=100000)(ha0:a0 < r1.length)(hb0:b0 < r2.length):∀ (k n:Nat) (u6 u7 u8 u9:Option A),n+k=r1.length * r2.length->(∀ p∈bfP (afP r1 r2) (prN a0 b0) n,p.2.length<=n)->
  aD (bA fsT fsB) (nJ 3 (bL (vV 3))) (fsρ (rdW r1 w1) (rdW r2 w2) p (bfP (afP r1 r2) (prN a0 b0) n) n u6 u7 u8 u9)=.ok (.rt (.f (psM (fZ r1 r2 a0 b0)))):=by
 have fin:∀ (n:Nat) (u6 u7 u8 u9:Option A),n<=r1.length * r2.length->(bfQ (afP r1 r2) (prN a0 b0) n).length<=n->aD (bA fsT fsB) (nJ 3 (bL (vV 3))) (fsρ (rdW r1 w1) (rdW r2 w2) p (bfP (afP r1 r2) (prN a0 b0) n) n u6 u7 u8 u9)=.ok (.rt (.f (psM (fZ r1 r2 a0 b0)))):=fun n u6 u7 u8 u9 hn h=>by
  have he:fZ r1 r2 a0 b0=bfP (afP r1 r2) (prN a0 b0) n:=by
   unfold fZ
   obtain ⟨k,hk⟩:=Nat.le.dest hn
   rw[<-hk,uK h k]
  have hT:fsT (fsρ (rdW r1 w1) (rdW r2 w2) p (bfP (afP r1 r2) (prN a0 b0) n) n u6 u7 u8 u9)=.ok false:=by
   rw[<-hJ] at h
   simp[fsT,fsρ,j7]
   omega
  rw[cY,fY hT,he]
  simp[fsρ]
 intro k
 induction k with
 | zero=>intro n u6 u7 u8 u9 hk hz;exact fin n u6 u7 u8 u9 (by omega) (by have:=qT M1.r M2.r ha0 hb0 n;omega)
 | succ k ih=>
  intro n u6 u7 u8 u9 hk hz
  by_cases h:(bfQ (afP r1 r2) (prN a0 b0) n).length<=n
  ·exact fin n u6 u7 u8 u9 (by omega) h
  ·obtain ⟨⟨x,z⟩,hp⟩:∃ p,(bfP (afP r1 r2) (prN a0 b0) n)[n]? = some p:=⟨_,List.getElem?_eq_getElem (show n < (bfP (afP r1 r2) (prN a0 b0) n).length by rw[hJ];omega)⟩
   have hx:x∈bfQ (afP r1 r2) (prN a0 b0) n:=by rw[<-jR];exact List.mem_map.mpr ⟨_,List.mem_of_getElem? hp,rfl⟩
   obtain ⟨a,b,ha,hb,rfl⟩:=lN M1.r M2.r ha0 hb0 hx
   obtain ⟨v',w',qq,hz'⟩:=aIS (p:=p) (u8:=u8) (u9:=u9) M1 M2 hN ha0 hb0 hp ha hb hz (by omega)
   have hT:fsT (fsρ (rdW r1 w1) (rdW r2 w2) p (bfP (afP r1 r2) (prN a0 b0) n) n u6 u7 u8 u9)=.ok true:=by
    rw[<-hJ] at h
    simp[fsT,fsρ,j7]
    omega
   have i0:dIx (rdW r1 w1) (.int 0)=.ok (.tuple (r1.map aV)):=rfl
   have i1:=hU (ws:=w1.map .str) M1.r ha
   have hr:=M1.r.at ha
   have s3:=M1.r.s3
   have hl:dLen (aV (r1.getD a []))=.ok (.int (sg:Int)):=by
    unfold aV
    rw[aIG,List.length_map,hr.2.1]
   have hrg:=i3 (n:=sg) (by omega)
   have ix:dIx (.list ((bfP (afP r1 r2) (prN a0 b0) n).map (·.1))) (.int (n:Int))=.ok (.tuple [.int (a:Int),.int (b:Int)]):=iR (dB (by rw[List.getElem?_map,hp];rfl))
   have hB:fsB (fsρ (rdW r1 w1) (rdW r2 w2) p (bfP (afP r1 r2) (prN a0 b0) n) n u6 u7 u8 u9)=.ok (.nx (fsρ (rdW r1 w1) (rdW r2 w2) p (bfP (afP r1 r2) (prN a0 b0) (n+1)) (n+1) (some (.d (.int (a:Int)))) (some (.d (.int (b:Int)))) v' w')):=by
    unfold fsρ at qq ⊢
    simp[-List.getD_eq_getElem?_getD,fsB,ix,i0,i1,hl,hrg,qq]
   rw[cY,iZ hT hB,<-cY]
   exact ih (n+1) _ _ _ _ (by omega) hz'
theorem aIT(M1:Rdw r1 w1 sg)(M2:Rdw r2 w2 sg)(hN:r1.length * r2.length<=100000){a b:Nat}(ha:a < r1.length)(hb:b < r2.length) :
  eP [.d (rdW r1 w1),.d (rdW r2 w2),.d (prN a b)]=.ok (.f (psM (fZ r1 r2 a b))):=by
 have h:=aGI (p:=prN a b) M1 M2 hN ha hb (r1.length * r2.length) 0 none none none none (by omega) (by intro p hp;rw[List.mem_singleton.mp hp];exact Nat.le_refl _)
 have h:aD (bA fsT fsB) (nJ 3 (bL (vV 3))) [some (.d (rdW r1 w1)),some (.d (rdW r2 w2)),some (.d (prN a b)),some (.m [(prN a b,.str "")]),some (.l [prN a b]),some (.d (.int 0)),none,none,none,none]=.ok (.rt (.f (psM (fZ r1 r2 a b)))):=h
 have htk:fF (prN a b)=true:=rfl
 have hp:Fl.eU [] [(prN a b,PyData.str "")]=.ok [(prN a b,PyData.str "")]:=by simp[Fl.eU,bS,htk,putM,bW,bY]
 unfold eP
 rw[aIR]
 rw[cY] at h
 simp only[aA0,cY,aC6,aC7,aF7,yM,aJ8,R.bind_ok,hp,List.length_cons,List.length_nil,Nat.reduceAdd,Nat.reduceSub,List.map_cons,List.map_nil,List.cons_append,List.nil_append,List.replicate,List.set_cons_zero,List.set_cons_succ,List.getElem?_cons_zero,List.getElem?_cons_succ,oR,qJ,mJ,lH,Nat.reduceLeDiff,if_true,qK,yO,h]
theorem aIU{after:PyData->List PyData}{x0:PyData}(n:Nat):∀ p∈bfP after x0 n,p.2.length<=n:=by
 induction n with
 | zero=>intro p hp;rw[List.mem_singleton.mp hp];exact Nat.le_refl _
 | succ n ih=>
  intro p hp
  cases q:(bfP after x0 n)[n]? with
  | none=>
   rw[bfP,q] at hp
   exact Nat.le_succ_of_le (ih p hp)
  | some y=>
   obtain ⟨x,z⟩:=y
   obtain ⟨s1,s2⟩:=aBC (after:=after) (x0:=x0) n
   obtain ⟨_,g,_⟩:=wQ (after x) 0 (bfP after x0 n) s1 fun p hp j _=>s2 x z q p hp j
   rw[oW q] at hp
   rcases g p hp with h|⟨j,h⟩
   ·exact Nat.le_succ_of_le (ih p h)
   ·have:=ih _ (List.mem_of_getElem? q)
    rw[h];simp at this ⊢;exact this
theorem aIV{w v:Str}(h:qS w)(h':qS v):dNe (.str w) (.str v)=.ok (.bool (!decide (w=v))):=by
 rw[uC (uE h) (uE h'),aII]
 congr 3
theorem aIW{y z:List Nat}(h:sl y z):HT.lt2 (z.length:Int) (y.length:Int) ⟨z.toArray⟩ ⟨y.toArray⟩=false:=by
 unfold HT.lt2
 rcases h with h|⟨h1,h2⟩
 ·rw[if_neg (by omega)]
  exact decide_eq_false (by omega)
 ·rw[if_pos (by omega)]
  split
  ·rfl
  ·refine decide_eq_false fun h3=>?_
   have h3:z < y:=h3
   exact List.lt_asymm h3 h2
noncomputable def lpF:Sg->R Fw:=(aD (aR 7 (vD (f9 3 (cS (aA (eV 5) (aA (eV 6) aK))))))
 (sIf (kZ (e1 asB (e2 dNe (e2 dIx (e2 dIx (rV 0) (eC (.int 1))) (rV 5)) (e2 dIx (e2 dIx (rV 1) (eC (.int 1))) (rV 6)))) (bOr (e1 asB (e2 dIs (rV 4) (eC .none))) (e1 asB (e2 nK (cS (aA (e1 dLen (rV 7)) (aA (eV 7) aK))) (cS (aA (e1 dLen (rV 4)) (aA (eV 4) aK))))))) (aR 4 (vV 7)) sNx))
theorem aIX:lJ=(aD (aR 3 (bC 3 eP (aA (vV 0) (aA (vV 1) (aA (vV 2) aK))))) (aD (aR 4 (vD (eC .none))) (aD (dE (n6 3) (stT [(stN 5),(stN 6)]) lpF) (bL (vV 4))))):=id rfl
noncomputable def lpρ(m1 m2 p:PyData)(l:List PZ)(f:Option (List Nat))(u5 u6 u7:Option A):Sg:=[some (.d m1),some (.d m2),some (.d p),some (.f (psM l)),some (.d (zO f)),u5,u6,u7]
theorem aIY(M1:Rdw r1 w1 sg)(M2:Rdw r2 w2 sg)(hN:r1.length * r2.length<=100000){a b:Nat}(ha:a < r1.length)(hb:b < r2.length) :
  lK [.d (rdW r1 w1),.d (rdW r2 w2),.d (prN a b)]=.ok (.d (zO (yR r1 r2 w1 w2 a b))):=by
 have hcl:=qT M1.r M2.r ha hb (r1.length * r2.length)
 have hpl:(fZ r1 r2 a b).length<=100000:=by unfold fZ;rw[hJ];omega
 have nd:((fZ r1 r2 a b).map (·.1)).Nodup:=aBA _
 obtain ⟨hsl,_⟩:=aBC (after:=afP r1 r2) (x0:=prN a b) (r1.length * r2.length)
 have hsl:((fZ r1 r2 a b).map (·.2)).Pairwise sl:=hsl
 have hmem:∀ p∈fZ r1 r2 a b,∃ c d,c < r1.length/\d < r2.length/\p.1=prN c d:=fun p hp=>by
  have:p.1∈bfQ (afP r1 r2) (prN a b) (r1.length * r2.length):=by rw[<-jR];exact List.mem_map_of_mem hp
  exact lN M1.r M2.r ha hb this
 have hzl:∀ p∈fZ r1 r2 a b,p.2.length<=100000:=fun p hp=>by
  have:=aIU (after:=afP r1 r2) (x0:=prN a b) (r1.length * r2.length) p hp
  omega
 have i0:dIx (rdW r1 w1) (.int 1)=.ok (.tuple (w1.map .str)):=rfl
 have j0:dIx (rdW r2 w2) (.int 1)=.ok (.tuple (w2.map .str)):=rfl
 have hkeys:∀ x y:Int,bS (.tuple [.int x,.int y]) ((psM (fZ r1 r2 a b)).map (·.1))=true:=fun x y=>by
  unfold bS
  rw[mM,Bool.or_eq_true,Bool.and_eq_true,Bool.and_eq_true]
  exact .inl ⟨rfl,List.all_eq_true.mpr fun p hp'=>by
   obtain ⟨pp,hpp,rfl⟩:=List.mem_map.mp hp'
   obtain ⟨c,d,_,_,e⟩:=hmem pp hpp
   rw[e];rfl⟩
 have hf:=aIT M1 M2 hN ha hb
 have hpo:yR r1 r2 w1 w2 a b=((fZ r1 r2 a b).find? fun p=>wnP w1 w2 p.1).map (·.2):=rfl
 generalize hP:fZ r1 r2 a b=P at *
 obtain ⟨ρ',q1,u5,u6,u7,q2⟩:=eG (fs:=stT [(stN 5),(stN 6)]) (fb:=lpF) (d:=fun p:PZ=>p.1) (xs:=P) (ρ:=lpρ (rdW r1 w1) (rdW r2 w2) (prN a b) P none none none none)
  (fun k ρ=>∃ u5 u6 u7,ρ=lpρ (rdW r1 w1) (rdW r2 w2) (prN a b) P (((P.take k).find? fun p=>wnP w1 w2 p.1).map (·.2)) u5 u6 u7)
  ⟨none,none,none,by simp⟩
  (fun k p ρ hk zz0=>by
  obtain ⟨v5,v6,v7,e⟩:=zz0
  subst e
  obtain ⟨x,z⟩:=p
  have hpm:=List.mem_of_getElem? hk
  obtain ⟨c,d,hc,hd,ex⟩:=hmem _ hpm
  have ex:x=prN c d:=ex
  subst ex
  have hg:bY (psM P) (.tuple [.int (c:Int),.int (d:Int)])=some (stD z):=qU nd hk
  obtain ⟨g1,i1⟩:=M1.w hc
  obtain ⟨g2,j1⟩:=M2.w hd
  have hne:dNe (.str (w1.getD c "")) (.str (w2.getD d ""))=.ok (.bool (wnP w1 w2 (prN c d))):=by
   rw[aD9,aIV g1 g2]
   by_cases h:w1.getD c ""=w2.getD d ""<;>simp only[h,ne_eq,not_true_eq_false,not_false_eq_true,decide_true,decide_false,Bool.not_true,Bool.not_false]
  have ht:P.take (k+1)=P.take k++[(prN c d,z)]:=by rw[List.take_add_one,hk];rfl
  rw[ht,List.find?_append]
  have hlz:=hzl _ hpm
  have hlz:z.length<=100000:=hlz
  refine ⟨lpρ (rdW r1 w1) (rdW r2 w2) (prN a b) P (((P.take k).find? fun p=>wnP w1 w2 p.1).map (·.2)) (some (.d (.int (c:Int)))) (some (.d (.int (d:Int)))) v7,_,rfl,.inl ?_,some (.d (.int (c:Int))),some (.d (.int (d:Int))),some (.d (stD z)),rfl⟩
  cases hw:wnP w1 w2 (prN c d) with
  | false=>
   rw[hw] at hne
   have e2:(((P.take k).find? fun p=>wnP w1 w2 p.1).or ([(prN c d,z)].find? fun p=>wnP w1 w2 p.1))=((P.take k).find? fun p=>wnP w1 w2 p.1):=by
    rw[List.find?_cons,hw];simp
   rw[e2]
   simp[-List.getD_eq_getElem?_getD,lpF,lpρ,hkeys,hg,i0,j0,i1,j1,hne]
  | true=>
   rw[hw] at hne
   cases hq:(P.take k).find? fun p=>wnP w1 w2 p.1 with
   | none=>
    have hno:dIs (.none) (.none)=.ok (.bool true):=rfl
    simp[-List.getD_eq_getElem?_getD,lpF,lpρ,hkeys,hg,i0,j0,i1,j1,hne,zO,hno,hw]
   | some y=>
    have hym:=List.mem_of_find?_eq_some hq
    have hslt:sl y.2 z:=by
     obtain ⟨j,hj⟩:=List.getElem?_of_mem hym
     have hjk:j < k:=by have:=(List.getElem?_eq_some_iff.mp hj).1;rw[List.length_take] at this;omega
     have hj':P[j]? = some y:=by rw[List.getElem?_take_of_lt hjk] at hj;exact hj
     obtain ⟨lj,ej⟩:=List.getElem?_eq_some_iff.mp hj'
     obtain ⟨lk,ek⟩:=List.getElem?_eq_some_iff.mp hk
     have:=List.pairwise_iff_getElem.mp hsl j k (by rw[List.length_map];exact lj) (by rw[List.length_map];exact lk) hjk
     rw[List.getElem_map,List.getElem_map,ej,ek] at this
     exact this
    have hly:=hzl y (List.take_subset k P hym)
    have hlt:nK (.tuple [.int (z.length:Int),stD z]) (.tuple [.int (y.2.length:Int),stD y.2])=.ok (.bool false):=by
     show R.ok (PyData.bool (HT.lt2 _ _ _ _))=_
     rw[aIW hslt]
    have l1:dLen (stD z)=.ok (.int (z.length:Int)):=by unfold stD;rw[aA2 (by rw[n9];show z.toArray.toList.length<=_;simp;omega),n9]
    have l2:dLen (stD y.2)=.ok (.int (y.2.length:Int)):=by unfold stD;rw[aA2 (by rw[n9];show y.2.toArray.toList.length<=_;simp;omega),n9]
    have hno:f7 (stD y.2)=false:=rfl
    simp[-List.getD_eq_getElem?_getD,lpF,lpρ,hkeys,hg,i0,j0,i1,j1,hne,zO,hno,hlt,l1,l2])
 rw[List.take_length,<-hpo] at q2
 have hkl:(psM P).length<=16777216:=by unfold psM;rw[List.length_map];omega
 have hkk:(psM P).map (·.1)=P.map (fun p:PZ=>p.1):=mM P
 unfold lK
 rw[aIX]
 have q1':gC (stT [(stN 5),(stN 6)]) lpF (P.map fun p:PZ=>p.1) [some (.d (rdW r1 w1)),some (.d (rdW r2 w2)),some (.d (prN a b)),some (.f (psM P)),some (.d .none),none,none,none]=.ok (.nx ρ'):=q1
 simp[hf,hkl,hkk,q1',q2,lpρ]
end
end Mc
namespace Mc
open PySem L2 PyProof.Rows Fl
def stN1(rows:List (List Nat))(q c:Nat):Nat:=(rows.getD q []).getD (c - 97) 0
def fJ(rows:List (List Nat))(q:Nat)(z:List Nat):Nat:=z.foldl (stN1 rows) q
def Sgs(sg:Nat)(z:List Nat):Prop:=∀ c∈z,eD sg c=true
section
variable{rows r1 r2:List (List Nat)}{ws w1 w2:List Str}{sg:Nat}
theorem aBD{c:Nat}(h:eD sg c=true):97<=c/\c - 97 < sg:=by
 unfold eD at h
 have:=of_decide_eq_true h
 omega
theorem d0(M:Rdr rows sg){q c:Nat}(hq:q < rows.length)(hc:eD sg c=true):(rows.getD q [])[c - 97]? = some (stN1 rows q c)/\stN1 rows q c < rows.length:=by
 have hr:=M.at hq
 have h:=aBD hc
 have hl:c - 97 < (rows.getD q []).length:=by rw[hr.2.1];exact h.2
 have e:(rows.getD q [])[c - 97]? = some (stN1 rows q c):=by
  unfold stN1
  generalize rows.getD q []=r at *
  rw[List.getD_eq_getElem?_getD,List.getElem?_eq_getElem hl];rfl
 exact ⟨e,hr.2.2 _ (List.mem_of_getElem? e)⟩
theorem wS(M:Rdr rows sg):∀ (z:List Nat) {q:Nat},Sgs sg z->q < rows.length->fJ rows q z < rows.length
 | [],_,_,h=>h
 | c::t,_,hs,h=>wS M t (fun c hc=>hs c (List.mem_cons_of_mem _ hc)) (d0 M h (hs c List.mem_cons_self)).2
theorem aBE(M1:Rdr r1 sg)(M2:Rdr r2 sg):∀ (z:List Nat) {a b:Nat},Sgs sg z->a < r1.length->b < r2.length->oX (afP r1 r2) (prN a b) z=prN (fJ r1 a z) (fJ r2 b z)
 | [],_,_,_,_,_=>rfl
 | c::t,a,b,hs,ha,hb=>by
  have hc:=hs c List.mem_cons_self
  obtain ⟨e1,l1⟩:=d0 M1 ha hc
  obtain ⟨e2,l2⟩:=d0 M2 hb hc
  have e:((afP r1 r2 (prN a b))[c - 97]?).getD .none=prN (stN1 r1 a c) (stN1 r2 b c):=by
   rw[pP,List.getElem?_map]
   have:((r1.getD a []).zip (r2.getD b []))[c - 97]? = some (stN1 r1 a c,stN1 r2 b c):=List.getElem?_zip_eq_some.mpr ⟨e1,e2⟩
   rw[this];rfl
  show oX (afP r1 r2) (((afP r1 r2 (prN a b))[c - 97]?).getD .none) t=_
  rw[e]
  exact aBE M1 M2 t (fun c hc=>hs c (List.mem_cons_of_mem _ hc)) l1 l2
theorem aGJ{after:PyData->List PyData}{x0:PyData}(n:Nat):(∀ x∈bfQ after x0 n,(after x).length<=sg)->∀ p∈bfP after x0 n,Sgs sg p.2:=by
 induction n with
 | zero=>intro _ p hp c hc;rw[List.mem_singleton.mp hp] at hc;simp at hc
 | succ n ih=>
  intro hl
  have ih:=ih fun x hx=>hl x ((gQ after x0 n).subset hx)
  rw[bfP]
  split
  ·rename_i q hq
   have hq':=ih q (List.mem_of_getElem? hq)
   have hlq:(after q.1).length<=sg:=hl _ ((gQ after x0 n).subset (by rw[<-jR];exact List.mem_map_of_mem (List.mem_of_getElem? hq)))
   have gen:∀ (ys:List (PyData×Nat)) (F:List PZ),(∀ y∈ys,y.2 < sg)->(∀ p∈F,Sgs sg p.2)->∀ p∈ys.foldl (adP q.2) F,Sgs sg p.2:=by
    intro ys
    induction ys with
    | nil=>exact fun F _ h=>h
    | cons y t iht=>
     intro F hy h
     refine iht _ (fun y' h'=>hy y' (List.mem_cons_of_mem _ h')) fun p hp=>?_
     unfold adP at hp
     split at hp
     ·exact h p hp
     ·rcases List.mem_append.mp hp with z|z
      ·exact h p z
      ·rw[List.mem_singleton.mp z]
       intro c hc
       rcases List.mem_append.mp hc with k|k
       ·exact hq' c k
       ·rw[List.mem_singleton.mp k]
        have:=hy y List.mem_cons_self
        unfold eD
        exact decide_eq_true (by omega)
   refine gen _ _ (fun y hy=>?_) ih
   have:=List.snd_lt_add_of_mem_zipIdx hy
   omega
  ·exact ih
def EqI(rows:List (List Nat))(ws:List Str)(sg i x y:Nat):Prop:=∀ w,Sgs sg w->w.length<=i->ws.getD (fJ rows x w) ""=ws.getD (fJ rows y w) ""
theorem EqI.up{i x y:Nat}(h:EqI rows ws sg (i+1) x y):EqI rows ws sg i x y:=fun w hs hl=>h w hs (by omega)
theorem EqI.sy{i x y:Nat}(h:EqI rows ws sg i x y):EqI rows ws sg i y x:=fun w hs hl=>(h w hs hl).symm
theorem EqI.tr{i x y z:Nat}(h:EqI rows ws sg i x y)(k:EqI rows ws sg i y z):EqI rows ws sg i x z:=fun w hs hl=>(h w hs hl).trans (k w hs hl)
def jC(rows:List (List Nat))(ws:List Str)(sg i x:Nat):Prop:=∀ b,b < x->¬ EqI rows ws sg i x b
theorem lO(i x:Nat):∃ r,r<=x/\EqI rows ws sg i x r/\jC rows ws sg i r:=by
 obtain ⟨r,h1,h2,h3⟩:=rX (P:=fun r=>EqI rows ws sg i x r) x (fun w _ _=>rfl)
 exact ⟨r,h1,h2,fun b hb h=>h3 b hb (h2.tr h)⟩
theorem aGK{i:Nat}(h:∀ x,x < rows.length->jC rows ws sg (i+1) x->jC rows ws sg i x){x y:Nat}(hx:x < rows.length)(hy:y < rows.length)(e:EqI rows ws sg i x y):EqI rows ws sg (i+1) x y:=by
 obtain ⟨r,r1,r2,r3⟩:=lO (rows:=rows) (ws:=ws) (sg:=sg) (i+1) x
 obtain ⟨s,s1,s2,s3⟩:=lO (rows:=rows) (ws:=ws) (sg:=sg) (i+1) y
 have rr:=h r (by omega) r3
 have ss:=h s (by omega) s3
 have e2:EqI rows ws sg i r s:=(r2.up.sy.tr e).tr s2.up
 have:r=s:=by
  rcases Nat.lt_trichotomy r s with q|q|q
  · exact absurd e2.sy (ss r q)
  · exact q
  · exact absurd e2 (rr s q)
 subst this
 exact r2.tr s2.sy
theorem uM(M:Rdr rows sg){i:Nat}(h:∀ x y,x < rows.length->y < rows.length->EqI rows ws sg i x y->EqI rows ws sg (i+1) x y):∀ (k:Nat) {x y:Nat},x < rows.length->y < rows.length->EqI rows ws sg i x y->EqI rows ws sg (i+k) x y
 | 0,_,_,_,_,e=>e
 | k+1,x,y,hx,hy,e=>fun w hs hl=>by
  cases w with
  | nil=>exact e [] hs (Nat.zero_le _)
  | cons c t=>
   have hc:=hs c List.mem_cons_self
   obtain ⟨_,l1⟩:=d0 M hx hc
   obtain ⟨_,l2⟩:=d0 M hy hc
   have e1:=h x y hx hy e
   have e2:EqI rows ws sg i (stN1 rows x c) (stN1 rows y c):=fun u hu hl=>e1 (c::u) (fun d hd=>by
    rcases List.mem_cons.mp hd with q|q
    · rw [q]; exact hc
    · exact hu d q) (by simpa using hl)
   exact uM M h k l1 l2 e2 t (fun c hc=>hs c (List.mem_cons_of_mem _ hc)) (by simp at hl;omega)
theorem aBF{α:Type}(p q:α->Bool):∀ l:List α,(∀ a∈l,p a=true->q a=true)->(∃ a∈l,p a=false/\q a=true)->l.countP p < l.countP q
 | [],_,⟨a,h,_⟩=>by simp at h
 | x::t,hi,⟨a,h,h1,h2⟩=>by
  rw[List.countP_cons,List.countP_cons]
  have hle:=List.countP_mono_left (l:=t) (p:=p) (q:=q) fun a ha=>hi a (List.mem_cons_of_mem _ ha)
  rcases List.mem_cons.mp h with q'|q'
  ·subst q'
   rw[h1,h2];simp;omega
  ·have ih:=aBF p q t (fun a ha=>hi a (List.mem_cons_of_mem _ ha)) ⟨a,q',h1,h2⟩
   have:=hi x List.mem_cons_self
   cases hp:p x with
   | false=>
    rw[if_neg Bool.false_ne_true]
    split<;>omega
   | true=>rw[this hp];simp;omega
end
end Mc
namespace Mc
open PySem L2 PyProof.Rows Fl
noncomputable def ix1(ks:List PyData)(k:PyData):Nat:=ks.findIdx fun y=>decide (y=k)
theorem wT{ks:List PyData}{k:PyData}(h:k∈ks):ks[ix1 ks k]? = some k/\∀ j,j < ix1 ks k->ks[j]? ≠ some k:=by
 have hex:∃ x∈ks,decide (x=k)=true:=⟨k,h,decide_eq_true rfl⟩
 have hlt:ix1 ks k < ks.length:=List.findIdx_lt_length_of_exists hex
 refine ⟨?_,fun j hj e=>?_⟩
 ·have:=List.findIdx_getElem (w:=hlt)
  rw[List.getElem?_eq_getElem hlt]
  exact congrArg some (of_decide_eq_true this)
 ·obtain ⟨hl,he⟩:=List.getElem?_eq_some_iff.mp e
  have:=List.not_of_lt_findIdx hj
  rw[he] at this
  simp at this
theorem aIZ{ks:List PyData}{k:PyData}{i:Nat}(h:ks[i]? = some k)(hn:∀ j,j < i->ks[j]? ≠ some k):ix1 ks k=i:=by
 obtain ⟨h1,h2⟩:=wT (List.mem_of_getElem? h)
 rcases Nat.lt_trichotomy (ix1 ks k) i with q|q|q
 · exact absurd h1 (hn _ q)
 · exact q
 · exact absurd h (h2 _ q)
theorem aEA{x:PyData}{ks:List PyData}(hx:aT x=.ok ks)(hl:ks.length<=100000)(hk:(∀ k∈ks,fF k=true)\/(∀ k∈ks,kY k=true)):eK [.d x]=.ok (.d (.list (ks.map fun k=>.int (ix1 ks k:Int)))):=by
 have hnum:=uH hx
 have same:∀ (k:PyData) (M:List (PyData×PyData)),k∈ks->(∀ p∈M,p.1∈ks)->bS k (M.map (·.1))=true:=fun k M h1 h2=>by
  unfold bS
  rw[Bool.or_eq_true,Bool.and_eq_true,Bool.and_eq_true]
  rcases hk with hk|hk
  ·exact .inl ⟨hk k h1,List.all_eq_true.mpr fun y hy=>by
    obtain ⟨p,hp,rfl⟩:=List.mem_map.mp hy
    exact hk _ (h2 p hp)⟩
  ·exact .inr ⟨hk k h1,List.all_eq_true.mpr fun y hy=>by
    obtain ⟨p,hp,rfl⟩:=List.mem_map.mp hy
    exact hk _ (h2 p hp)⟩
 have hasF:∀ (M:List (PyData×PyData)) k,bW M k=(bY M k).isSome:=fun M k=>rfl
 obtain ⟨ρ',q1,M,u2,u3,q2,g,gm,gl⟩:=eG (fs:=stT [(stN 2),(stN 3)]) (fb:=n4 1 (eV 3) (eV 2)) (d:=oP) (xs:=ks.zipIdx) (ρ:=[some (.d x),some (.m []),none,none])
  (fun i ρ=>∃ (M:List (PyData×PyData)) (u2 u3:Option A),ρ=[some (.d x),some (.m M),u2,u3]/\(∀ k,bY M k=if k∈ks.take i then some (.int (ix1 ks k:Int)) else none)/\(∀ p∈M,p.1∈ks)/\M.length<=i)
  ⟨[],none,none,rfl,fun k=>by simp[bY],fun p hp=>by simp at hp,Nat.le_refl _⟩ (fun i p ρ hp zz0=>by
  obtain ⟨M,u2,u3,e,g,gm,gl⟩:=zz0
  subst e
  obtain ⟨k,kk⟩:=p
  obtain ⟨hik,rfl⟩:ks[i]? = some k/\kk=i:=by
   rw[List.getElem?_zipIdx] at hp
   cases q:ks[i]? with
   | none=>rw[q] at hp;cases hp
   | some y=>
    rw[q] at hp
    simp only[Option.map_some,Nat.zero_add,Option.some.injEq,Prod.mk.injEq] at hp
    exact ⟨by rw[hp.1],hp.2.symm⟩
  have hkm:=List.mem_of_getElem? hik
  have hil:kk < ks.length:=(List.getElem?_eq_some_iff.mp hik).1
  have hs:=same k M hkm gm
  have hM:M.length<=16777216:=by omega
  have ht:ks.take (kk+1)=ks.take kk++[k]:=by rw[List.take_add_one,hik];rfl
  by_cases hin:k∈ks.take kk
  ·have hh:bW M k=true:=by rw[hasF,g k,if_pos hin];rfl
   refine ⟨[some (.d x),some (.m M),some (.d (.int (kk:Int))),some (.d k)],[some (.d x),some (.m M),some (.d (.int (kk:Int))),some (.d k)],by simp[oP],.inl ?_,M,some (.d (.int (kk:Int))),some (.d k),rfl,fun k'=>?_,gm,by omega⟩
   ·simp[hs,hM,hh]
   ·rw[g k',ht]
    by_cases e:k'=k
    ·subst e;rw[if_pos hin,if_pos (List.mem_append_left _ hin)]
    ·have:k'∈ks.take kk++[k]↔k'∈ks.take kk:=by simp[e]
     by_cases q:k'∈ks.take kk
     · rw [if_pos q, if_pos (this.mpr q)]
     · rw [if_neg q, if_neg fun z => q (this.mp z)]
  ·have hh:bW M k=false:=by rw[hasF,g k,if_neg hin];rfl
   have hix:ix1 ks k=kk:=aIZ hik fun j hj e=>hin (by
    refine List.mem_of_getElem? (i:=j) ?_
    rw[List.getElem?_take_of_lt hj];exact e)
   refine ⟨[some (.d x),some (.m M),some (.d (.int (kk:Int))),some (.d k)],[some (.d x),some (.m (putM M k (.int (kk:Int)))),some (.d (.int (kk:Int))),some (.d k)],by simp[oP],.inl ?_,putM M k (.int (kk:Int)),some (.d (.int (kk:Int))),some (.d k),rfl,fun k'=>?_,fun p hp=>?_,?_⟩
   ·simp[hs,hM,hh]
   ·rw[aC9 hh,ht]
    by_cases e:k'=k
    ·subst e;rw[if_pos rfl,if_pos (by simp),hix]
    ·rw[if_neg e,g k']
     have:k'∈ks.take kk++[k]↔k'∈ks.take kk:=by simp[e]
     by_cases q:k'∈ks.take kk
     · rw [if_pos q, if_pos (this.mpr q)]
     · rw [if_neg q, if_neg fun z => q (this.mp z)]
   ·unfold putM at hp
    rw[hh,if_neg (by decide)] at hp
    rcases List.mem_append.mp hp with z|z
    ·exact gm p z
    ·rw[List.mem_singleton.mp z];exact hkm
   ·unfold putM
    rw[hh,if_neg (by decide),List.length_append];simp;omega)
 rw[List.length_zipIdx,List.take_length] at g
 subst q2
 have hc:=fX (fs:=stN 0) (fe:=f9 1 (eV 0)) (ρ0:=[none,some (.m M)]) (d:=fun k:PyData=>k) (g:=fun k:PyData=>PyData.int (ix1 ks k:Int)) (xs:=ks) fun k hk'=>⟨_,rfl,by
  have hs:=same k M hk' gm
  have hg:=g k
  rw[if_pos hk'] at hg
  simp[hs,hg]⟩
 rw[List.map_id'] at hc
 have q1':gC (stT [(stN 2),(stN 3)]) (n4 1 (eV 3) (eV 2)) (ks.zipIdx.map oP) [some (.d x),some (.m []),none,none]=.ok (.nx [some (.d x),some (.m M),u2,u3]):=q1
 unfold eK oQ
 simp[hnum,q1',hx,gO,hc]
end Mc
namespace Mc
open PySem L2 PyProof.Rows Fl
section
variable{rows:List (List Nat)}{ws:List Str}{sg:Nat}
noncomputable def rp(rows:List (List Nat))(ws:List Str)(sg i x:Nat):Nat:=(lO (rows:=rows) (ws:=ws) (sg:=sg) i x).choose
theorem yS(i x:Nat):rp rows ws sg i x<=x:=(lO (rows:=rows) (ws:=ws) (sg:=sg) i x).choose_spec.1
theorem mN(i x:Nat):EqI rows ws sg i x (rp rows ws sg i x):=(lO (rows:=rows) (ws:=ws) (sg:=sg) i x).choose_spec.2.1
theorem nN(i x:Nat):jC rows ws sg i (rp rows ws sg i x):=(lO (rows:=rows) (ws:=ws) (sg:=sg) i x).choose_spec.2.2
theorem aBG{i r s:Nat}(h1:jC rows ws sg i r)(h2:jC rows ws sg i s)(h:EqI rows ws sg i r s):r=s:=by
 rcases Nat.lt_trichotomy r s with q|q|q
 · exact absurd h.sy (h2 r q)
 · exact q
 · exact absurd h (h1 s q)
theorem wU{i x r:Nat}(h:EqI rows ws sg i x r)(k:jC rows ws sg i r):r=rp rows ws sg i x:=aBG k (nN i x) (h.sy.tr (mN i x))
theorem kD{i x y:Nat}:rp rows ws sg i x=rp rows ws sg i y↔EqI rows ws sg i x y:=by
 constructor
 ·intro h
  have:=mN (rows:=rows) (ws:=ws) (sg:=sg) i y
  rw[<-h] at this
  exact (mN i x).tr this.sy
 ·intro h
  exact aBG (nN i x) (nN i y) ((mN i x).sy.tr (h.tr (mN i y)))
theorem uN{n i:Nat}{κ:Nat->PyData}(hκ:∀ x y,x < n->y < n->(κ x=κ y↔EqI rows ws sg i x y)){x:Nat}(hx:x < n):ix1 ((List.range n).map κ) (κ x)=rp rows ws sg i x:=by
 have hget:∀ j,j < n->((List.range n).map κ)[j]? = some (κ j):=fun j hj=>by rw[List.getElem?_map,List.getElem?_range hj];rfl
 obtain ⟨h1,h2⟩:=wT (List.mem_of_getElem? (hget x hx))
 generalize ix1 ((List.range n).map κ) (κ x)=r at *
 have hr:r < n:=by
  have:=(List.getElem?_eq_some_iff.mp h1).1
  rw[List.length_map,List.length_range] at this;exact this
 rw[hget r hr] at h1
 have e:κ r=κ x:=Option.some.inj h1
 refine wU ((hκ x r hx hr).mp e.symm) fun b hb hE=>?_
 have hbn:b < n:=Nat.lt_trans hb hr
 exact h2 b hb (by rw[hget b hbn,<-(hκ r b hr hbn).mpr hE,e])
noncomputable def lkD(rows:List (List Nat))(ws:List Str)(sg i:Nat):PyData:=.list ((List.range rows.length).map fun x=>.int (rp rows ws sg i x:Int))
theorem uO{x y:Nat}:EqI rows ws sg 0 x y↔ws.getD x ""=ws.getD y "":=by
 constructor
 ·intro h;exact h [] (fun c hc=>by simp at hc) (Nat.le_refl _)
 ·intro h w _ hl
  have:w=[]:=List.eq_nil_of_length_eq_zero (by omega)
  subst this;exact h
theorem uP(M:Rdr rows sg){i x y:Nat}(hx:x < rows.length)(hy:y < rows.length):EqI rows ws sg (i+1) x y↔EqI rows ws sg i x y/\∀ k,k < sg->EqI rows ws sg i (stN1 rows x (97+k)) (stN1 rows y (97+k)):=by
 constructor
 ·intro h
  refine ⟨h.up,fun k hk w hw hl=>h ((97+k)::w) (fun c hc=>?_) (by simpa using hl)⟩
  rcases List.mem_cons.mp hc with q|q
  ·rw[q];unfold eD;exact decide_eq_true (by omega)
  ·exact hw c q
 ·rintro ⟨h1,h2⟩ w hw hl
  cases w with
  | nil=>exact h1 [] hw (Nat.zero_le _)
  | cons c t=>
   have hc:=aBD (hw c List.mem_cons_self)
   have:=h2 (c - 97) hc.2 t (fun c hc=>hw c (List.mem_cons_of_mem _ hc)) (by simp at hl;omega)
   rw[show 97+(c - 97)=c by omega] at this
   exact this
theorem aKH{i x:Nat}(hx:x < rows.length):dIx (lkD rows ws sg i) (.int (x:Int))=.ok (.int (rp rows ws sg i x:Int)):=iR (dB (by rw[List.getElem?_map,List.getElem?_range hx];rfl))
theorem aI0(M:Rdw rows ws sg):eK [.d (.tuple (ws.map .str))]=.ok (.d (lkD rows ws sg 0)):=by
 have n2:=M.r.n2
 have hl:=M.wl
 have hws:ws.map PyData.str=(List.range rows.length).map fun x=>PyData.str (ws.getD x ""):=by
  refine List.ext_getElem? fun j=>?_
  rw[List.getElem?_map,List.getElem?_map]
  by_cases hj:j < rows.length
  ·rw[List.getElem?_range hj,List.getElem?_eq_getElem (by omega)]
   show some (PyData.str _)=some (PyData.str _)
   rw[List.getD_eq_getElem?_getD,List.getElem?_eq_getElem (by omega)];rfl
  ·rw[List.getElem?_eq_none (by omega),List.getElem?_eq_none (by rw[List.length_range];omega)];rfl
 have hd:aT (.tuple (ws.map .str))=.ok (ws.map .str):=eM (by rw[List.length_map];omega)
 rw[aEA hd (by rw[List.length_map];omega) (.inr fun k hk=>by obtain ⟨w,_,rfl⟩:=List.mem_map.mp hk;rfl)]
 unfold lkD
 rw[hws,List.map_map]
 congr 3
 refine List.map_congr_left fun x hx=>?_
 have hx:=List.mem_range.mp hx
 show PyData.int _=_
 rw[uN (rows:=rows) (ws:=ws) (sg:=sg) (i:=0) (κ:=fun x=>PyData.str (ws.getD x "")) (fun x y _ _=>by rw[uO];exact ⟨fun h=>by injection h,fun h=>by rw[h]⟩) hx]
theorem aKI(M:Rdr rows sg){i x:Nat}(hx:x < rows.length):b9 [.d (lkD rows ws sg i),.d (aV (rows.getD x []))]=.ok (.d (.tuple ((rows.getD x []).map fun j=>.int (rp rows ws sg i j:Int)))):=by
 have hr:=M.at hx
 have s3:=M.s3
 have hd:aT (aV (rows.getD x []))=.ok ((rows.getD x []).map fun j:Nat=>.int (j:Int)):=eM (by rw[List.length_map];omega)
 have hc:=fX (fs:=stN 0) (fe:=e2 dIx (rV 1) (rV 0)) (ρ0:=[none,some (.d (lkD rows ws sg i))]) (d:=fun j:Nat=>.int (j:Int)) (g:=fun j:Nat=>PyData.int (rp rows ws sg i j:Int)) (xs:=rows.getD x []) fun j hj=>⟨_,rfl,by
  have:=aKH (ws:=ws) (sg:=sg) (i:=i) (hr.2.2 j hj)
  simp[this]⟩
 generalize rows.getD x []=r at *
 unfold b9 gA
 simp[hd,gO,hc]
noncomputable def fkK(rows:List (List Nat))(ws:List Str)(sg i x:Nat):PyData:=.tuple [.int (rp rows ws sg i x:Int),.tuple ((rows.getD x []).map fun j=>.int (rp rows ws sg i j:Int))]
theorem aGL(M:Rdr rows sg){i x y:Nat}(hx:x < rows.length)(hy:y < rows.length):fkK rows ws sg i x=fkK rows ws sg i y↔EqI rows ws sg (i+1) x y:=by
 have rx:=M.at hx
 have ry:=M.at hy
 rw[uP M hx hy,<-kD]
 have hg:∀ q,q < rows.length->∀ k,k < sg->(rows.getD q [])[k]? = some (stN1 rows q (97+k)):=fun q hq k hk=>by
  have:=(d0 M hq (c:=97+k) (by unfold eD;exact decide_eq_true (by omega))).1
  rw[show 97+k - 97=k by omega] at this
  exact this
 constructor
 ·intro h
  unfold fkK at h
  have h1:(rp rows ws sg i x:Int)=rp rows ws sg i y/\(rows.getD x []).map (fun j=>PyData.int (rp rows ws sg i j:Int))=(rows.getD y []).map fun j=>PyData.int (rp rows ws sg i j:Int):=by
   injection h with h
   injection h with a b
   injection a with a
   injection b with b
   injection b with b
   exact ⟨a,b⟩
  refine ⟨by omega,fun k hk=>kD.mp ?_⟩
  have:=congrArg (fun l=>l[k]?) h1.2
  simp only[List.getElem?_map,hg x hx k hk,hg y hy k hk,Option.map_some,Option.some.injEq] at this
  injection this with this
  omega
 ·rintro ⟨h1,h2⟩
  unfold fkK
  have:(rows.getD x []).map (fun j=>PyData.int (rp rows ws sg i j:Int))=(rows.getD y []).map fun j=>PyData.int (rp rows ws sg i j:Int):=by
   refine List.ext_getElem? fun k=>?_
   rw[List.getElem?_map,List.getElem?_map]
   by_cases hk:k < sg
   ·rw[hg x hx k hk,hg y hy k hk]
    show some (PyData.int _)=some (PyData.int _)
    rw[kD.mpr (h2 k hk)]
   ·rw[List.getElem?_eq_none (by omega),List.getElem?_eq_none (by omega)]
  rw[h1,this]
theorem wV(f:Nat->Int):∀ (xs:List Nat),b7 (xs.map fun j=>.int (f j))=true
 | []=>rfl
 | x::t=>by rw[List.map_cons,b7,wV f t];rfl
theorem aI1(M:Rdr rows sg){i x:Nat}(hx:x < rows.length):fF (fkK rows ws sg i x)=true:=by
 have hk:=wV (fun j=>(rp rows ws sg i j:Int)) (rows.getD x [])
 have h2:Sh 2 (fkK rows ws sg i x):=iU fun y hy=>by
  rcases List.mem_cons.mp hy with q|q
  ·rw[q];exact lA _ _
  ·rw[List.mem_singleton.mp q]
   exact iU fun z hz=>by
    obtain ⟨j,_,rfl⟩:=List.mem_map.mp hz
    exact lA _ _
 have hd:=h2.2
 unfold fkK at hd ⊢
 unfold fF
 rw[Bool.and_eq_true]
 refine ⟨?_,decide_eq_true (by omega)⟩
 show b7 [_,_]=true
 unfold b7 b7
 show (true && (b7 ((rows.getD x []).map fun j=>PyData.int (rp rows ws sg i j:Int)) && b7 []))=true
 rw[hk];rfl
theorem aEB(M:Rdw rows ws sg)(i:Nat):g9 [.d (.tuple (rows.map aV)),.d (lkD rows ws sg i)]=.ok (.d (lkD rows ws sg (i+1))):=by
 have n2:=M.r.n2
 have s3:=M.r.s3
 have hd1:aT (lkD rows ws sg i)=.ok ((List.range rows.length).map fun x=>.int (rp rows ws sg i x:Int)):=oS (by rw[List.length_map,List.length_range];omega)
 have hrw:rows.map aV=(List.range rows.length).map fun x=>aV (rows.getD x []):=by
  refine List.ext_getElem? fun j=>?_
  rw[List.getElem?_map,List.getElem?_map]
  by_cases hj:j < rows.length
  ·rw[List.getElem?_range hj,(M.r.at hj).1];rfl
  ·rw[List.getElem?_eq_none (by omega),List.getElem?_eq_none (by rw[List.length_range];omega)];rfl
 have hd2:aT (.tuple (rows.map aV))=.ok ((List.range rows.length).map fun x=>aV (rows.getD x [])):=by rw[<-hrw];exact eM (by rw[List.length_map];omega)
 have hz:t7 (lkD rows ws sg i) (.tuple (rows.map aV))=.ok ((List.range rows.length).map fun x=>.tuple [.int (rp rows ws sg i x:Int),aV (rows.getD x [])]):=by
  unfold t7
  rw[hd1,hd2]
  show R.ok _=R.ok _
  rw[List.zip_map,List.map_map]
  congr 1
  refine List.ext_getElem? fun j=>?_
  rw[List.getElem?_map,List.getElem?_map]
  by_cases hj:j < rows.length
  ·have hzz:((List.range rows.length).zip (List.range rows.length))[j]? = some (j,j):=List.getElem?_zip_eq_some.mpr ⟨List.getElem?_range hj,List.getElem?_range hj⟩
   rw[List.getElem?_range hj,hzz];rfl
  ·rw[List.getElem?_eq_none (by rw[List.length_zip,List.length_range];omega),List.getElem?_eq_none (by rw[List.length_range];omega)];rfl
 have hc:=fX (fs:=stT [(stN 0),(stN 1)]) (fe:=cS (aA (eV 0) (aA (eA (bC 2 b9 (aA (vV 2) (aA (vV 1) aK)))) aK))) (ρ0:=[none,none,some (.d (lkD rows ws sg i))]) (d:=fun x=>PyData.tuple [.int (rp rows ws sg i x:Int),aV (rows.getD x [])]) (g:=fkK rows ws sg i) (xs:=List.range rows.length) fun x hx=>⟨[some (.d (.int (rp rows ws sg i x:Int))),some (.d (aV (rows.getD x []))),some (.d (lkD rows ws sg i))],by simp,by
  have:=aKI (ws:=ws) M.r (i:=i) (List.mem_range.mp hx)
  unfold fkK
  simp[-List.getD_eq_getElem?_getD,this]⟩
 have hk:aT (.list ((List.range rows.length).map (fkK rows ws sg i)))=.ok ((List.range rows.length).map (fkK rows ws sg i)):=oS (by rw[List.length_map,List.length_range];omega)
 have hf:=aEA hk (by rw[List.length_map,List.length_range];omega) (.inl fun k hk=>by
  obtain ⟨x,hx,rfl⟩:=List.mem_map.mp hk
  exact aI1 M.r (List.mem_range.mp hx))
 have he:((List.range rows.length).map (fkK rows ws sg i)).map (fun k=>PyData.int (ix1 ((List.range rows.length).map (fkK rows ws sg i)) k:Int))=(List.range rows.length).map fun x=>.int (rp rows ws sg (i+1) x:Int):=by
  rw[List.map_map]
  refine List.map_congr_left fun x hx=>?_
  show PyData.int _=_
  rw[uN (rows:=rows) (ws:=ws) (sg:=sg) (i:=i+1) (κ:=fkK rows ws sg i) (fun x y hx hy=>aGL M.r hx hy) (List.mem_range.mp hx)]
 rw[he] at hf
 have hf:eK [.d (.list ((List.range rows.length).map (fkK rows ws sg i)))]=.ok (.d (lkD rows ws sg (i+1))):=hf
 unfold g9 qH
 simp[-List.getD_eq_getElem?_getD,hz,gO,hc,hf]
noncomputable def arT:Sg->R Bool:=(e1 asB (e2 dNe (rV 2) (rV 1)))
noncomputable def arB:Sg->R Fw:=(aD (aR 1 (vV 2)) (aR 2 (bC 2 g9 (aA (vD (e2 dIx (rV 0) (eC (.int 0)))) (aA (vV 1) aK)))))
theorem aI2:i9=(aD (aR 1 (bC 1 eK (aA (vD (e2 dIx (rV 0) (eC (.int 1)))) aK)))
 (aD (aR 2 (bC 2 g9 (aA (vD (e2 dIx (rV 0) (eC (.int 0)))) (aA (vV 1) aK)))) (aD (bA arT arB) (bL (vV 1))))):=id rfl
theorem wW(f:Nat->Int):∀ (xs:List Nat),kB (xs.map fun j=>.int (f j))=true
 | []=>rfl
 | x::t=>by rw[List.map_cons];show (true && kB _)=true;rw[wW f t];rfl
theorem oA(i:Nat):Cp (lkD rows ws sg i):=⟨wW _ _,Sh.shaped (n:=1) (sh_lst fun x hx=>by
 obtain ⟨q,_,rfl⟩:=List.mem_map.mp hx
 exact lA _ _) (by decide)⟩
theorem oB{i:Nat}(h:lkD rows ws sg i=lkD rows ws sg (i+1)):∀ x,x < rows.length->rp rows ws sg i x=rp rows ws sg (i+1) x:=fun x hx=>by
 unfold lkD at h
 injection h with h
 have:=congrArg (fun l=>l[x]?) h
 simp only[List.getElem?_map,List.getElem?_range hx,Option.map_some,Option.some.injEq] at this
 injection this with this
 omega
open Classical in
noncomputable def nRep(rows:List (List Nat))(ws:List Str)(sg i:Nat):Nat:=(List.range rows.length).countP fun x=>decide (jC rows ws sg i x)
open Classical in
theorem qV{i:Nat}(h:lkD rows ws sg i≠lkD rows ws sg (i+1)):nRep rows ws sg i < nRep rows ws sg (i+1):=by
 refine aBF _ _ _ (fun x _ h=>decide_eq_true fun b hb e=>of_decide_eq_true h b hb e.up) (Classical.byContradiction fun hno=>h ?_)
 have st:∀ x,x < rows.length->jC rows ws sg (i+1) x->jC rows ws sg i x:=fun x hx hr=>Classical.byContradiction fun h'=>hno ⟨x,List.mem_range.mpr hx,decide_eq_false h',decide_eq_true hr⟩
 unfold lkD
 congr 1
 refine List.map_congr_left fun x hx=>?_
 have hx:=List.mem_range.mp hx
 have hle:=yS (rows:=rows) (ws:=ws) (sg:=sg) i x
 rw[<-wU (rows:=rows) (ws:=ws) (sg:=sg) (i:=i+1) (x:=x) (r:=rp rows ws sg i x) (aGK st hx (by omega) (mN i x)) fun b hb e=>nN i x b hb e.up]
theorem qW(i:Nat):nRep rows ws sg i<=rows.length:=by
 unfold nRep
 have:=List.countP_le_length (p:=fun x=>@decide (jC rows ws sg i x) (Classical.propDecidable _)) (l:=List.range rows.length)
 rw[List.length_range] at this;exact this
theorem aGM(M:Rdw rows ws sg):∀ (k i:Nat),rows.length<=nRep rows ws sg i+k->∃ N,aD (bA arT arB) (bL (vV 1)) [some (.d (rdW rows ws)),some (.d (lkD rows ws sg i)),some (.d (lkD rows ws sg (i+1)))]=.ok (.rt (.d (lkD rows ws sg N)))/\lkD rows ws sg N=lkD rows ws sg (N+1):=by
 intro k
 induction k with
 | zero=>
  intro i hk
  by_cases h:lkD rows ws sg i=lkD rows ws sg (i+1)
  ·refine ⟨i,?_,h⟩
   have hT:arT [some (.d (rdW rows ws)),some (.d (lkD rows ws sg i)),some (.d (lkD rows ws sg (i+1)))]=.ok false:=by
    have:=uJ (oA (rows:=rows) (ws:=ws) (sg:=sg) (i+1)) (oA (rows:=rows) (ws:=ws) (sg:=sg) i)
    rw[decide_eq_true h.symm] at this
    simp[arT,this]
   rw[cY,fY hT]
   simp
  ·have:=qV h
   have:=qW (rows:=rows) (ws:=ws) (sg:=sg) (i+1)
   omega
 | succ k ih=>
  intro i hk
  by_cases h:lkD rows ws sg i=lkD rows ws sg (i+1)
  ·refine ⟨i,?_,h⟩
   have hT:arT [some (.d (rdW rows ws)),some (.d (lkD rows ws sg i)),some (.d (lkD rows ws sg (i+1)))]=.ok false:=by
    have:=uJ (oA (rows:=rows) (ws:=ws) (sg:=sg) (i+1)) (oA (rows:=rows) (ws:=ws) (sg:=sg) i)
    rw[decide_eq_true h.symm] at this
    simp[arT,this]
   rw[cY,fY hT]
   simp
  ·have hlt:=qV h
   have hT:arT [some (.d (rdW rows ws)),some (.d (lkD rows ws sg i)),some (.d (lkD rows ws sg (i+1)))]=.ok true:=by
    have:=uJ (oA (rows:=rows) (ws:=ws) (sg:=sg) (i+1)) (oA (rows:=rows) (ws:=ws) (sg:=sg) i)
    rw[decide_eq_false fun e=>h e.symm] at this
    simp[arT,this]
   have i0:dIx (rdW rows ws) (.int 0)=.ok (.tuple (rows.map aV)):=rfl
   have hf:=aEB M (i+1)
   have hB:arB [some (.d (rdW rows ws)),some (.d (lkD rows ws sg i)),some (.d (lkD rows ws sg (i+1)))]=.ok (.nx [some (.d (rdW rows ws)),some (.d (lkD rows ws sg (i+1))),some (.d (lkD rows ws sg (i+1+1)))]):=by
    simp[arB,i0,hf]
   obtain ⟨N,e,eN⟩:=ih (i+1) (by omega)
   refine ⟨N,?_,eN⟩
   rw[cY] at e ⊢
   rw[iZ hT hB]
   exact e
def EqA(rows:List (List Nat))(ws:List Str)(sg x y:Nat):Prop:=∀ w,Sgs sg w->ws.getD (fJ rows x w) ""=ws.getD (fJ rows y w) ""
theorem aKJ(M:Rdw rows ws sg):∃ L:List Nat,dS [.d (rdW rows ws)]=.ok (.d (.list (L.map fun r:Nat=>.int (r:Int))))/\L.length=rows.length/\∀ x,x < rows.length->∃ r,L[x]? = some r/\r<=x/\EqA rows ws sg x r/\∀ b,b < r->¬ EqA rows ws sg r b:=by
 obtain ⟨N,e,eN⟩:=aGM M rows.length 0 (by omega)
 have i0:dIx (rdW rows ws) (.int 0)=.ok (.tuple (rows.map aV)):=rfl
 have i1:dIx (rdW rows ws) (.int 1)=.ok (.tuple (ws.map .str)):=rfl
 have h0:=aI0 M
 have h1:=aEB M 0
 have far:∀ {x y:Nat},x < rows.length->y < rows.length->EqI rows ws sg N x y->EqA rows ws sg x y:=fun {x y} hx hy h w hw=>by
  have:=uM (ws:=ws) M.r (i:=N) (fun x y hx hy e=>by
   have:=kD.mpr e
   rw[oB eN x hx,oB eN y hy] at this
   exact kD.mp this) w.length hx hy h
  exact this w hw (by omega)
 refine ⟨(List.range rows.length).map (rp rows ws sg N),?_,by rw[List.length_map,List.length_range],fun x hx=>⟨rp rows ws sg N x,by rw[List.getElem?_map,List.getElem?_range hx];rfl,yS N x,far hx (Nat.lt_of_le_of_lt (yS N x) hx) (mN N x),fun b hb h=>nN N x b hb fun w hw _=>h w hw⟩⟩
 have el:lkD rows ws sg N=.list (((List.range rows.length).map (rp rows ws sg N)).map fun r:Nat=>.int (r:Int)):=by unfold lkD;rw[List.map_map];rfl
 rw[<-el]
 unfold dS
 rw[aI2]
 rw[cY] at e
 simp only[Nat.zero_add] at e h1
 simp only[aA0,cY,qK,aC4,mJ,lH,yO,aJ9,n8,sJ,yM,R.bind_ok,List.length_cons,List.length_nil,Nat.reduceAdd,Nat.reduceSub,if_true,List.map_cons,List.map_nil,List.cons_append,List.nil_append,List.replicate,List.set_cons_zero,List.set_cons_succ,List.getElem?_cons_zero,List.getElem?_cons_succ,i0,i1,h0,h1,e]
end
end Mc
namespace Mc
open PySem L2 PyProof.Rows Fl
section
variable{rows:List (List Nat)}{ws:List Str}{sg:Nat}{L:List Nat}
structure Lk(rows:List (List Nat))(ws:List Str)(sg:Nat)(L:List Nat):Prop where
 len:L.length=rows.length
 at_:∀ x,x < rows.length->L[x]? = some (L.getD x 0)/\L.getD x 0<=x/\EqA rows ws sg x (L.getD x 0)/\∀ b,b < L.getD x 0->¬ EqA rows ws sg (L.getD x 0) b
theorem aBH(M:Rdw rows ws sg):∃ L:List Nat,dS [.d (rdW rows ws)]=.ok (.d (.list (L.map fun r:Nat=>.int (r:Int))))/\Lk rows ws sg L:=by
 obtain ⟨L,e,l,h⟩:=aKJ M
 refine ⟨L,e,l,fun x hx=>?_⟩
 obtain ⟨r,h1,h2,h3,h4⟩:=h x hx
 have:L.getD x 0=r:=by rw[List.getD_eq_getElem?_getD,h1];rfl
 rw[this]
 exact ⟨h1,h2,h3,h4⟩
noncomputable def afL(rows:List (List Nat))(L:List Nat):PyData->List PyData
 | .int q=>(rows.getD q.toNat []).map fun j=>.int (L.getD j 0:Int)
 | _=>[]
theorem jH(q:Nat):afL rows L (.int (q:Int))=(rows.getD q []).map fun j=>.int (L.getD j 0:Int):=by
 show (rows.getD ((q:Int)).toNat []).map _=_
 rw[show ((q:Int)).toNat=q by omega]
theorem iN(M:Rdr rows sg)(K:Lk rows ws sg L){n:Nat}:∀ {x:PyData},x∈bfQ (afL rows L) (.int 0) n->∃ q:Nat,q < rows.length/\x=.int (q:Int):=by
 induction n with
 | zero=>intro x hx;rw[List.mem_singleton.mp hx];exact ⟨0,M.n1,rfl⟩
 | succ n ih=>
  intro x hx
  rw[bfQ] at hx
  split at hx
  ·rename_i y hy
   rcases adA_mem _ hx with h|h
   ·exact ih h
   ·obtain ⟨q,hq,rfl⟩:=ih (List.mem_of_getElem? hy)
    rw[jH] at h
    obtain ⟨j,hj,rfl⟩:=List.mem_map.mp h
    have hjl:=(M.at hq).2.2 j hj
    have:=(K.at_ j hjl).2.1
    exact ⟨L.getD j 0,by omega,rfl⟩
  ·exact ih hx
theorem aI3(M:Rdr rows sg)(K:Lk rows ws sg L){x:Nat}(hx:x < rows.length):b9 [.d (.list (L.map fun r:Nat=>.int (r:Int))),.d (aV (rows.getD x []))]=.ok (.d (.tuple (afL rows L (.int (x:Int))))):=by
 have hr:=M.at hx
 have s3:=M.s3
 have hd:aT (aV (rows.getD x []))=.ok ((rows.getD x []).map fun j:Nat=>.int (j:Int)):=eM (by rw[List.length_map];omega)
 have hc:=fX (fs:=stN 0) (fe:=e2 dIx (rV 1) (rV 0)) (ρ0:=[none,some (.d (.list (L.map fun r:Nat=>.int (r:Int))))]) (d:=fun j:Nat=>.int (j:Int)) (g:=fun j:Nat=>PyData.int (L.getD j 0:Int)) (xs:=rows.getD x []) fun j hj=>⟨_,rfl,by
  have:dIx (.list (L.map fun r:Nat=>.int (r:Int))) (.int (j:Int))=.ok (.int (L.getD j 0:Int)):=iR (dB (by rw[List.getElem?_map,(K.at_ j (hr.2.2 j hj)).1];rfl))
  simp[-List.getD_eq_getElem?_getD,this]⟩
 rw[jH]
 generalize rows.getD x []=r at *
 unfold b9 gA
 simp[-List.getD_eq_getElem?_getD,hd,gO,hc]
structure Lst(rows:List (List Nat))(ws:List Str)(L:List Nat)(N:Nat):Prop where
 len:(bfQ (afL rows L) (.int 0) N).length=N
 on:∀ m,m < N->m < (bfQ (afL rows L) (.int 0) m).length
 le:N<=rows.length
theorem aBI(M:Rdr rows sg)(K:Lk rows ws sg L):∃ N,Lst rows ws L N:=by
 have hfew:∀ n,(bfQ (afL rows L) (.int 0) n).length<=rows.length:=fun n=>aGD (lM _ _ n) fun x hx=>iN M K hx
 obtain ⟨N,h1,h2,h3⟩:=rX (P:=fun n=>(bfQ (afL rows L) (.int 0) n).length<=n) rows.length (hfew _)
 have on:∀ m,m < N->m < (bfQ (afL rows L) (.int 0) m).length:=fun m hm=>by have:=h3 m hm;omega
 refine ⟨N,Nat.le_antisymm h2 ?_,on,h1⟩
 cases N with
 | zero=>omega
 | succ n=>
  have a:=on n (by omega)
  have b:=(gQ (afL rows L) (.int 0) n).length_le
  omega
noncomputable def roomsL(rows:List (List Nat))(L:List Nat)(N:Nat):List Nat:=(bfQ (afL rows L) (.int 0) N).map fun x=>match x with | .int q=>q.toNat|_=>0
noncomputable def bF(rows:List (List Nat))(L:List Nat)(N:Nat):List (List Nat):=(bfQ (afL rows L) (.int 0) N).map fun x=>(afL rows L x).map (nrQ (bfQ (afL rows L) (.int 0) N))
noncomputable def cT(rows:List (List Nat))(ws:List Str)(L:List Nat)(N:Nat):List Str:=(roomsL rows L N).map fun q=>ws.getD q ""
theorem hV(M:Rdr rows sg)(K:Lk rows ws sg L)(N:Nat):bfQ (afL rows L) (.int 0) N=(roomsL rows L N).map fun q:Nat=>.int (q:Int):=by
 unfold roomsL
 rw[List.map_map]
 conv=>lhs;rw[<-List.map_id (bfQ (afL rows L) (.int 0) N)]
 refine List.map_congr_left fun x hx=>?_
 obtain ⟨q,_,rfl⟩:=iN M K hx
 show PyData.int (q:Int)=.int (((q:Int).toNat:Nat):Int)
 rw[show (((q:Int).toNat:Nat):Int)=(q:Int) by omega]
theorem aEC(M:Rdw rows ws sg)(K:Lk rows ws sg L)(eL:dS [.d (rdW rows ws)]=.ok (.d (.list (L.map fun r:Nat=>.int (r:Int))))){N:Nat}(T:Lst rows ws L N) :
  eW [.d (rdW rows ws)]=.ok (.d (rdW (bF rows L N) (cT rows ws L N))):=by
 have n2:=M.r.n2
 have s3:=M.r.s3
 have nle:=T.le
 have i0:dIx (rdW rows ws) (.int 0)=.ok (.tuple (rows.map aV)):=rfl
 have i1:dIx (rdW rows ws) (.int 1)=.ok (.tuple (ws.map .str)):=rfl
 have l0:dIx (.list (L.map fun r:Nat=>.int (r:Int))) (.int 0)=.ok (.int 0):=by
  have h:=K.at_ 0 M.r.n1
  have:L.getD 0 0=0:=by omega
  rw[this] at h
  exact iR (dB (j:=0) (by rw[List.getElem?_map,h.1];rfl))
 let S:Sq:={after:=afL rows L,x0:=.int 0,stop:=fun _ _=>false,k1:=2,k2:=1,G:=oI 3 dN [.d (.list (L.map fun r:Nat=>.int (r:Int))),.d (rdW rows ws)],D:=gF gZ}
 have O:S.ok N:={
  on:=fun m hm=>⟨T.on m hm,rfl⟩
  off:=.inl (Nat.le_of_eq T.len)
  key:=.inr fun x hx=>by obtain ⟨q,_,rfl⟩:=iN M.r K hx;rfl
  len:=by show (bfQ (afL rows L) (.int 0) N).length<=_;rw[T.len];omega
  hk1:=by show 2<=12;omega
  hk2:=by show 1<=12;omega
  hG:=fun m x hm hx=>by
   obtain ⟨q,hq,rfl⟩:=iN M.r K (List.mem_of_getElem? hx)
   have hll:(afL rows L (.int (q:Int))).length<=3:=by rw[jH,List.length_map,(M.r.at hq).2.1];exact s3
   refine ⟨⟨.tuple (afL rows L (.int (q:Int))),?_,eM (by show (afL rows L (.int (q:Int))).length<=_;omega)⟩,by show (afL rows L (.int (q:Int))).length<=1000;omega⟩
   have e:=aI3 M.r K hq
   have j1:=hU (ws:=ws.map .str) M.r hq
   show oI 3 dN [.d (.list (L.map fun r:Nat=>.int (r:Int))),.d (rdW rows ws)] [.int (q:Int)]=_
   unfold oI dN
   simp[-List.getD_eq_getElem?_getD,i0,j1,e,dOf]
  hD:=fun m hm hl=>by
   show gF gZ [.list (bfQ (afL rows L) (.int 0) m),.int (m:Int)]=.ok (.bool false)
   unfold gF gZ qG
   simp[dOf]}
 have e:=aLS O
 have e:gY [.d (.int 0),.g 2 1 (oI 3 dN [.d (.list (L.map fun r:Nat=>.int (r:Int))),.d (rdW rows ws)]),.g 1 2 (gF gZ)]=.ok (.d (.tuple [.list (bfQ (afL rows L) (.int 0) N),.list (eZ (afL rows L) (bfQ (afL rows L) (.int 0) N) N)])):=e
 have er:eZ (afL rows L) (bfQ (afL rows L) (.int 0) N) N=(bF rows L N).map aV:=by
  unfold eZ bF
  rw[List.take_of_length_le (Nat.le_of_eq T.len),List.map_map];rfl
 rw[er] at e
 have ef:=hV M.r K N
 have hrl:(roomsL rows L N).length=N:=by unfold roomsL;rw[List.length_map,T.len]
 rw[ef] at e
 have hi:aT (.list ((roomsL rows L N).map fun q:Nat=>.int (q:Int)))=.ok ((roomsL rows L N).map fun q:Nat=>.int (q:Int)):=oS (by rw[List.length_map];omega)
 have hmem:∀ q∈roomsL rows L N,q < rows.length:=fun q hq=>by
  have:PyData.int (q:Int)∈bfQ (afL rows L) (.int 0) N:=by rw[ef];exact List.mem_map.mpr ⟨q,hq,rfl⟩
  obtain ⟨q',h,e⟩:=iN M.r K this
  injection e with e
  omega
 have hc:=fX (fs:=stN 0) (fe:=e2 dIx (e2 dIx (rV 1) (eC (.int 1))) (rV 0)) (ρ0:=[none,some (.d (rdW rows ws))]) (d:=fun q:Nat=>.int (q:Int)) (g:=fun q:Nat=>PyData.str (ws.getD q "")) (xs:=roomsL rows L N) fun q hq=>⟨_,rfl,by
  obtain ⟨_,j1⟩:=M.w (hmem q hq)
  simp[-List.getD_eq_getElem?_getD,i1,j1]⟩
 have ew:(roomsL rows L N).map (fun q:Nat=>PyData.str (ws.getD q ""))=(cT rows ws L N).map .str:=by unfold cT;rw[List.map_map];rfl
 rw[ew] at hc
 have x0:dIx (.tuple [.list ((roomsL rows L N).map fun q:Nat=>.int (q:Int)),.list ((bF rows L N).map aV)]) (.int 0)=.ok (.list ((roomsL rows L N).map fun q:Nat=>.int (q:Int))):=rfl
 have x1:dIx (.tuple [.list ((roomsL rows L N).map fun q:Nat=>.int (q:Int)),.list ((bF rows L N).map aV)]) (.int 1)=.ok (.list ((bF rows L N).map aV)):=rfl
 show eW [.d (rdW rows ws)]=.ok (.d (.tuple [.tuple ((bF rows L N).map aV),.tuple ((cT rows ws L N).map .str)]))
 generalize (bF rows L N).map aV=rr at *
 generalize (cT rows ws L N).map PyData.str=ww at *
 generalize (roomsL rows L N).map (fun q:Nat=>PyData.int (q:Int))=qq at *
 unfold eW qI
 simp[yH,pJ,sI,aLC,yJ,fW,sH,eL,l0,e,x0,x1,hi,gO,hc,dOf]
end
end Mc
namespace Mc
open PySem L2 PyProof.Rows Fl
section
variable{rows:List (List Nat)}{ws:List Str}{sg:Nat}{L:List Nat}{N:Nat}
theorem EqA.sy{x y:Nat}(h:EqA rows ws sg x y):EqA rows ws sg y x:=fun w hw=>(h w hw).symm
theorem EqA.tr{x y z:Nat}(h:EqA rows ws sg x y)(k:EqA rows ws sg y z):EqA rows ws sg x z:=fun w hw=>(h w hw).trans (k w hw)
theorem EqA.on{x y c:Nat}(h:EqA rows ws sg x y)(hc:eD sg c=true):EqA rows ws sg (stN1 rows x c) (stN1 rows y c):=fun w hw=>h (c::w) fun d hd=>by
 rcases List.mem_cons.mp hd with q|q
 · rw [q]; exact hc
 · exact hw d q
theorem Lk.iff(K:Lk rows ws sg L){x y:Nat}(hx:x < rows.length)(hy:y < rows.length):L.getD x 0=L.getD y 0↔EqA rows ws sg x y:=by
 obtain ⟨_,_,a1,a2⟩:=K.at_ x hx
 obtain ⟨_,_,b1,b2⟩:=K.at_ y hy
 constructor
 ·intro h;rw[<-h] at b1;exact a1.tr b1.sy
 ·intro h
  have e:EqA rows ws sg (L.getD x 0) (L.getD y 0):=a1.sy.tr (h.tr b1)
  rcases Nat.lt_trichotomy (L.getD x 0) (L.getD y 0) with q|q|q
  · exact absurd e.sy (b2 _ q)
  · exact q
  · exact absurd e (a2 _ q)
theorem Lk.idem(K:Lk rows ws sg L){x:Nat}(hx:x < rows.length):L.getD (L.getD x 0) 0=L.getD x 0:=by
 have h:=K.at_ x hx
 exact ((K.iff hx (Nat.lt_of_le_of_lt h.2.1 hx)).mpr h.2.2.1).symm
theorem jI(T:Lst rows ws L N):(roomsL rows L N).length=N:=by unfold roomsL;rw[List.length_map,T.len]
theorem rY(M:Rdr rows sg)(K:Lk rows ws sg L):∀ q∈roomsL rows L N,q < rows.length:=fun q hq=>by
 have:PyData.int (q:Int)∈bfQ (afL rows L) (.int 0) N:=by rw[hV M K];exact List.mem_map.mpr ⟨q,hq,rfl⟩
 obtain ⟨q',h,e⟩:=iN M K this
 injection e with e
 omega
theorem yT(M:Rdr rows sg)(K:Lk rows ws sg L):∀ n,∀ x∈bfQ (afL rows L) (.int 0) n,∃ q:Nat,q < rows.length/\x=.int (q:Int)/\L.getD q 0=q:=by
 intro n
 induction n with
 | zero=>
  intro x hx
  rw[List.mem_singleton.mp hx]
  have:=(K.at_ 0 M.n1).2.1
  exact ⟨0,M.n1,rfl,by omega⟩
 | succ n ih=>
  intro x hx
  rw[bfQ] at hx
  split at hx
  ·rename_i y hy
   rcases adA_mem _ hx with h|h
   ·exact ih x h
   ·obtain ⟨q,hq,rfl,_⟩:=ih _ (List.mem_of_getElem? hy)
    rw[jH] at h
    obtain ⟨j,hj,rfl⟩:=List.mem_map.mp h
    have hjl:=(M.at hq).2.2 j hj
    exact ⟨L.getD j 0,Nat.lt_of_le_of_lt (K.at_ j hjl).2.1 hjl,rfl,K.idem hjl⟩
  ·exact ih x hx
theorem uQ{after:PyData->List PyData}{x0 x y:PyData}{n:Nat}(hl:(bfQ after x0 n).length<=n)(hx:x∈bfQ after x0 n)(hy:y∈after x):y∈bfQ after x0 n:=by
 obtain ⟨m,hm⟩:=List.getElem?_of_mem hx
 have hml:=(List.getElem?_eq_some_iff.mp hm).1
 have hmn:m < n:=Nat.lt_of_lt_of_le hml hl
 by_cases h:m < (bfQ after x0 m).length
 ·have:=rW (iM (Nat.le_of_lt hmn)) h hm
  have e:=mL this
  have hin:y∈bfQ after x0 (m+1):=by rw[e];exact iL _ hy
  exact (iM (show m+1<=n by omega)).subset hin
 ·exfalso
  have hst:∀ k,(bfQ after x0 (m+k))=bfQ after x0 m:=by
   intro k
   induction k with
   | zero=>rfl
   | succ k ih=>
    have:(bfQ after x0 (m+k))[m+k]? = none:=by rw[ih];exact List.getElem?_eq_none (by omega)
    rw[<-Nat.add_assoc,bfQ,this]
    exact ih
  obtain ⟨k,rfl⟩:=Nat.le.dest (Nat.le_of_lt hmn)
  rw[hst k] at hml
  omega
theorem aDB(M:Rdr rows sg)(K:Lk rows ws sg L)(T:Lst rows ws L N){i c:Nat}(hi:i < N)(hc:eD sg c=true) :
  stN1 (bF rows L N) i c < N/\(roomsL rows L N).getD (stN1 (bF rows L N) i c) 0=L.getD (stN1 rows ((roomsL rows L N).getD i 0) c) 0:=by
 have hlen:=jI T
 have hq:(roomsL rows L N)[i]? = some ((roomsL rows L N).getD i 0):=by rw[List.getD_eq_getElem?_getD,List.getElem?_eq_getElem (by omega)];rfl
 have hql:=rY M K _ (List.mem_of_getElem? hq)
 generalize hqq:(roomsL rows L N).getD i 0=q at *
 have ef:=hV M K N
 have hfx:(bfQ (afL rows L) (.int 0) N)[i]? = some (.int (q:Int)):=by rw[ef,List.getElem?_map,hq];rfl
 obtain ⟨e1,l1⟩:=d0 M hql hc
 have hy:PyData.int (L.getD (stN1 rows q c) 0:Int)∈afL rows L (.int (q:Int)):=by rw[jH];exact List.mem_map.mpr ⟨_,List.mem_of_getElem? e1,rfl⟩
 have hyin:=uQ (Nat.le_of_eq T.len) (List.mem_of_getElem? hfx) hy
 have hrow:(bF rows L N).getD i []=(afL rows L (.int (q:Int))).map (nrQ (bfQ (afL rows L) (.int 0) N)):=by
  rw[List.getD_eq_getElem?_getD]
  unfold bF
  rw[List.getElem?_map,hfx];rfl
 have hst:stN1 (bF rows L N) i c=nrQ (bfQ (afL rows L) (.int 0) N) (.int (L.getD (stN1 rows q c) 0:Int)):=by
  unfold stN1
  rw[hrow,List.getD_eq_getElem?_getD,List.getElem?_map,jH,List.getElem?_map,e1];rfl
 have hat:=j9 hyin
 rw[hst]
 generalize nrQ (bfQ (afL rows L) (.int 0) N) (.int (L.getD (stN1 rows q c) 0:Int))=j at *
 have hjl:=(List.getElem?_eq_some_iff.mp hat).1
 rw[T.len] at hjl
 refine ⟨hjl,?_⟩
 rw[ef,List.getElem?_map] at hat
 cases z:(roomsL rows L N)[j]? with
 | none=>rw[z] at hat;cases hat
 | some v=>
  rw[z] at hat
  have:PyData.int (v:Int)=.int (L.getD (stN1 rows q c) 0:Int):=Option.some.inj hat
  injection this with this
  rw[List.getD_eq_getElem?_getD,z]
  show v=_
  omega
theorem aLX(M:Rdw rows ws sg)(K:Lk rows ws sg L)(T:Lst rows ws L N):Rdw (bF rows L N) (cT rows ws L N) sg:=by
 have hlen:(bF rows L N).length=N:=by unfold bF;rw[List.length_map,T.len]
 have n1:1<=N:=by
  have:=T.len
  cases N with
  | zero=>simp[bfQ] at this
  | succ n=>omega
 have nle:=T.le
 have n2:=M.r.n2
 refine ⟨⟨by omega,by omega,M.r.s1,M.r.s3,fun r hr=>?_⟩,?_,fun w hw=>?_⟩
 ·obtain ⟨x,hx,rfl⟩:=List.mem_map.mp hr
  obtain ⟨q,hq,rfl⟩:=iN M.r K hx
  refine ⟨by rw[List.length_map,jH,List.length_map,(M.r.at hq).2.1],fun j hj=>?_⟩
  obtain ⟨y,hy,rfl⟩:=List.mem_map.mp hj
  have hat:=j9 (uQ (Nat.le_of_eq T.len) hx hy)
  have:=(List.getElem?_eq_some_iff.mp hat).1
  rw[T.len] at this
  rw[hlen];exact this
 ·unfold cT;rw[List.length_map,jI T,hlen]
 ·obtain ⟨q,hq,rfl⟩:=List.mem_map.mp hw
  exact (M.w (rY M.r K q hq)).1
theorem aI4(M:Rdr rows sg)(K:Lk rows ws sg L)(T:Lst rows ws L N):∀ (w:List Nat) {i x:Nat},Sgs sg w->i < N->x < rows.length->(roomsL rows L N).getD i 0=L.getD x 0->fJ (bF rows L N) i w < N/\(roomsL rows L N).getD (fJ (bF rows L N) i w) 0=L.getD (fJ rows x w) 0
 | [],_,_,_,hi,_,h=>⟨hi,h⟩
 | c::t,i,x,hs,hi,hx,h=>by
  have hc:=hs c List.mem_cons_self
  obtain ⟨h1,h2⟩:=aDB M K T hi hc
  have hxl:=(d0 M hx hc).2
  have hr:=K.at_ x hx
  have hLx:L.getD x 0 < rows.length:=Nat.lt_of_le_of_lt hr.2.1 hx
  have e:L.getD (stN1 rows ((roomsL rows L N).getD i 0) c) 0=L.getD (stN1 rows x c) 0:=by
   rw[h]
   exact (K.iff (d0 M hLx hc).2 hxl).mpr (hr.2.2.1.sy.on hc)
  exact aI4 M K T t (fun c hc=>hs c (List.mem_cons_of_mem _ hc)) h1 hxl (h2.trans e)
theorem yU(M:Rdw rows ws sg)(K:Lk rows ws sg L)(T:Lst rows ws L N){w:List Nat}{i x:Nat}(hs:Sgs sg w)(hi:i < N)(hx:x < rows.length)(h:(roomsL rows L N).getD i 0=L.getD x 0) :
  (cT rows ws L N).getD (fJ (bF rows L N) i w) ""=ws.getD (fJ rows x w) "":=by
 obtain ⟨h1,h2⟩:=aI4 M.r K T w hs hi hx h
 have hrl:=jI T
 have hq:(roomsL rows L N)[fJ (bF rows L N) i w]? = some ((roomsL rows L N).getD (fJ (bF rows L N) i w) 0):=by rw[List.getD_eq_getElem?_getD,List.getElem?_eq_getElem (by omega)];rfl
 have e:(cT rows ws L N).getD (fJ (bF rows L N) i w) ""=ws.getD ((roomsL rows L N).getD (fJ (bF rows L N) i w) 0) "":=by
  rw[List.getD_eq_getElem?_getD]
  unfold cT
  rw[List.getElem?_map,hq];rfl
 rw[e,h2]
 have:=(K.at_ _ (wS M.r w hs hx)).2.2.1 [] (fun c hc=>by simp at hc)
 exact this.symm
end
end Mc
namespace Mc
open PySem L2 PyProof.Rows Fl
section
variable{after1 after2:PyData->List PyData}{x1 x2:PyData}{Rl:PyData->PyData->Prop}
theorem aDC(h1:∀ x y x' y',Rl x y->Rl x' y'->(x=x'↔y=y')){ps:List (PyData×PyData)}{q:PyData×PyData}(hp:∀ p∈ps,Rl p.1 p.2)(hq:Rl q.1 q.2):q.1∈ps.map (·.1)↔q.2∈ps.map (·.2):=by
 constructor
 ·intro h
  obtain ⟨p,hm,e⟩:=List.mem_map.mp h
  exact List.mem_map.mpr ⟨p,hm,(h1 _ _ _ _ (hp p hm) hq).mp e⟩
 ·intro h
  obtain ⟨p,hm,e⟩:=List.mem_map.mp h
  exact List.mem_map.mpr ⟨p,hm,(h1 _ _ _ _ (hp p hm) hq).mpr e⟩
theorem qX(h1:∀ x y x' y',Rl x y->Rl x' y'->(x=x'↔y=y')):∀ (qs ps:List (PyData×PyData)),(∀ p∈ps,Rl p.1 p.2)->(∀ q∈qs,Rl q.1 q.2)->∃ ps':List (PyData×PyData),adA (ps.map (·.1)) (qs.map (·.1))=ps'.map (·.1)/\adA (ps.map (·.2)) (qs.map (·.2))=ps'.map (·.2)/\∀ p∈ps',Rl p.1 p.2
 | [],ps,hp,_=>⟨ps,rfl,rfl,hp⟩
 | q::qs,ps,hp,hq=>by
  have hq0:=hq q List.mem_cons_self
  have hm:=aDC h1 hp hq0
  by_cases h:q.1∈ps.map (·.1)
  ·obtain ⟨ps',a,b,c⟩:=qX h1 qs ps hp fun y hy=>hq y (List.mem_cons_of_mem _ hy)
   refine ⟨ps',?_,?_,c⟩
   ·show adA (adQ _ _) _=_;rw[gH h];exact a
   ·show adA (adQ _ _) _=_;rw[gH (hm.mp h)];exact b
  ·obtain ⟨ps',a,b,c⟩:=qX h1 qs (ps++[q]) (fun y hy=>by
    rcases List.mem_append.mp hy with z|z
    · exact hp y z
    · rw [List.mem_singleton.mp z]; exact hq0) fun y hy => hq y (List.mem_cons_of_mem _ hy)
   rw[List.map_append] at a b
   refine ⟨ps',?_,?_,c⟩
   ·show adA (adQ _ _) _=_;rw[eX h];exact a
   ·show adA (adQ _ _) _=_;rw[eX fun z=>h (hm.mpr z)];exact b
theorem wX(h0:Rl x1 x2)(hA:∀ x y,Rl x y->∃ qs:List (PyData×PyData),after1 x=qs.map (·.1)/\after2 y=qs.map (·.2)/\∀ q∈qs,Rl q.1 q.2)(h1:∀ x y x' y',Rl x y->Rl x' y'->(x=x'↔y=y'))(n:Nat):∃ ps:List (PyData×PyData),bfQ after1 x1 n=ps.map (·.1)/\bfQ after2 x2 n=ps.map (·.2)/\∀ p∈ps,Rl p.1 p.2:=by
 induction n with
 | zero=>exact ⟨[(x1,x2)],rfl,rfl,fun p hp=>by rw[List.mem_singleton.mp hp];exact h0⟩
 | succ n ih=>
  obtain ⟨ps,a,b,c⟩:=ih
  rw[bfQ,bfQ,a,b,List.getElem?_map,List.getElem?_map]
  cases q:ps[n]? with
  | none=>exact ⟨ps,rfl,rfl,c⟩
  | some p=>
   obtain ⟨qs,e1,e2,hq⟩:=hA p.1 p.2 (c p (List.mem_of_getElem? q))
   obtain ⟨ps',a',b',c'⟩:=qX h1 qs ps c hq
   exact ⟨ps',by show adA _ (after1 p.1)=_;rw[e1];exact a',by show adA _ (after2 p.2)=_;rw[e2];exact b',c'⟩
theorem wY(h1:∀ x y x' y',Rl x y->Rl x' y'->(x=x'↔y=y')){q:PyData×PyData}(hq:Rl q.1 q.2):∀ (ps:List (PyData×PyData)),(∀ p∈ps,Rl p.1 p.2)->nrQ (ps.map (·.1)) q.1=nrQ (ps.map (·.2)) q.2
 | [],_=>rfl
 | p::t,hp=>by
  have ih:=wY h1 hq t fun y hy=>hp y (List.mem_cons_of_mem _ hy)
  have e:=h1 _ _ _ _ (hp p List.mem_cons_self) hq
  unfold nrQ at ih ⊢
  rw[List.map_cons,List.map_cons,List.idxOf_cons,List.idxOf_cons]
  by_cases h:p.1=q.1
  · rw [beq_iff_eq.mpr h, beq_iff_eq.mpr (e.mp h)]; rfl
  · rw [beq_eq_false_iff_ne.mpr h, beq_eq_false_iff_ne.mpr fun z => h (e.mpr z), ih]
end
section
variable{r1 r2:List (List Nat)}{w1 w2:List Str}{sg:Nat}{L1 L2:List Nat}{N1 N2:Nat}
def EqX(r1 r2:List (List Nat))(w1 w2:List Str)(sg x y:Nat):Prop:=∀ w,Sgs sg w->w1.getD (fJ r1 x w) ""=w2.getD (fJ r2 y w) ""
theorem EqX.on{x y c:Nat}(h:EqX r1 r2 w1 w2 sg x y)(hc:eD sg c=true):EqX r1 r2 w1 w2 sg (stN1 r1 x c) (stN1 r2 y c):=fun w hw=>h (c::w) fun d hd=>by
 rcases List.mem_cons.mp hd with q|q
 · rw [q]; exact hc
 · exact hw d q
def RlX(r1 r2:List (List Nat))(w1 w2:List Str)(sg:Nat)(L1 L2:List Nat)(a b:PyData):Prop:=∃ x y:Nat,a=.int (x:Int)/\b=.int (y:Int)/\x < r1.length/\y < r2.length/\L1.getD x 0=x/\L2.getD y 0=y/\EqX r1 r2 w1 w2 sg x y
theorem wZ(M:Rdr r1 sg){x:Nat}(hx:x < r1.length):r1.getD x []=(List.range sg).map fun k=>stN1 r1 x (97+k):=by
 have hr:=M.at hx
 refine List.ext_getElem? fun k=>?_
 rw[List.getElem?_map]
 by_cases hk:k < sg
 ·have:=(d0 M hx (c:=97+k) (by unfold eD;exact decide_eq_true (by omega))).1
  rw[show 97+k - 97=k by omega] at this
  rw[this,List.getElem?_range hk];rfl
 ·rw[List.getElem?_eq_none (by omega),List.getElem?_eq_none (by rw[List.length_range];omega)];rfl
theorem aBJ(M1:Rdr r1 sg)(M2:Rdr r2 sg)(K1:Lk r1 w1 sg L1)(K2:Lk r2 w2 sg L2):∀ a b,RlX r1 r2 w1 w2 sg L1 L2 a b->∃ qs:List (PyData×PyData),afL r1 L1 a=qs.map (·.1)/\afL r2 L2 b=qs.map (·.2)/\∀ q∈qs,RlX r1 r2 w1 w2 sg L1 L2 q.1 q.2:=by
 rintro _ _ ⟨x,y,rfl,rfl,hx,hy,_,_,h⟩
 refine ⟨(List.range sg).map fun k=>(.int (L1.getD (stN1 r1 x (97+k)) 0:Int),.int (L2.getD (stN1 r2 y (97+k)) 0:Int)),?_,?_,fun q hq=>?_⟩
 ·rw[jH,wZ M1 hx,List.map_map,List.map_map];rfl
 ·rw[jH,wZ M2 hy,List.map_map,List.map_map];rfl
 ·obtain ⟨k,hk,rfl⟩:=List.mem_map.mp hq
  have hc:eD sg (97+k)=true:=by unfold eD;exact decide_eq_true (by have:=List.mem_range.mp hk;omega)
  have l1:=(d0 M1 hx hc).2
  have l2:=(d0 M2 hy hc).2
  have a1:=K1.at_ _ l1
  have a2:=K2.at_ _ l2
  refine ⟨_,_,rfl,rfl,Nat.lt_of_le_of_lt a1.2.1 l1,Nat.lt_of_le_of_lt a2.2.1 l2,K1.idem l1,K2.idem l2,fun w hw=>?_⟩
  rw[<-a1.2.2.1 w hw,<-a2.2.2.1 w hw]
  exact h.on hc w hw
theorem aGN(K1:Lk r1 w1 sg L1)(K2:Lk r2 w2 sg L2):∀ a b a' b',RlX r1 r2 w1 w2 sg L1 L2 a b->RlX r1 r2 w1 w2 sg L1 L2 a' b'->(a=a'↔b=b'):=by
 rintro _ _ _ _ ⟨x,y,rfl,rfl,hx,hy,fx,fy,h⟩ ⟨x',y',rfl,rfl,hx',hy',fx',fy',h'⟩
 constructor
 ·intro e
  injection e with e
  obtain rfl:x=x':=by omega
  have:EqA r2 w2 sg y y':=fun w hw=>(h w hw).symm.trans (h' w hw)
  rw[<-fy,<-fy',(K2.iff hy hy').mpr this]
 ·intro e
  injection e with e
  obtain rfl:y=y':=by omega
  have:EqA r1 w1 sg x x':=fun w hw=>(h w hw).trans (h' w hw).symm
  rw[<-fx,<-fx',(K1.iff hx hx').mpr this]
theorem yV(M1:Rdw r1 w1 sg)(M2:Rdw r2 w2 sg)(K1:Lk r1 w1 sg L1)(K2:Lk r2 w2 sg L2)(T1:Lst r1 w1 L1 N1)(T2:Lst r2 w2 L2 N2)(h:EqX r1 r2 w1 w2 sg 0 0) :
  N1=N2/\bF r1 L1 N1=bF r2 L2 N2/\cT r1 w1 L1 N1=cT r2 w2 L2 N2:=by
 have z1:=(K1.at_ 0 M1.r.n1).2.1
 have z2:=(K2.at_ 0 M2.r.n1).2.1
 have h0:RlX r1 r2 w1 w2 sg L1 L2 (.int 0) (.int 0):=⟨0,0,rfl,rfl,M1.r.n1,M2.r.n1,by omega,by omega,h⟩
 have hA:=aBJ M1.r M2.r K1 K2
 have h1:=aGN (w1:=w1) (w2:=w2) K1 K2
 have hb:=wX h0 hA h1
 have hlen:∀ n,(bfQ (afL r1 L1) (.int 0) n).length=(bfQ (afL r2 L2) (.int 0) n).length:=fun n=>by
  obtain ⟨ps,a,b,_⟩:=hb n
  rw[a,b,List.length_map,List.length_map]
 have hN:N1=N2:=by
  rcases Nat.lt_trichotomy N1 N2 with q|q|q
  ·have:=T2.on N1 q
   have a:=T1.len
   have b:=hlen N1
   omega
  ·exact q
  ·have:=T1.on N2 q
   have a:=T2.len
   have b:=hlen N2
   omega
 subst hN
 obtain ⟨ps,a,b,c⟩:=hb N1
 refine ⟨rfl,?_,?_⟩
 ·unfold bF
  rw[a,b,List.map_map,List.map_map]
  refine List.map_congr_left fun p hp=>?_
  obtain ⟨qs,e1,e2,hq⟩:=hA p.1 p.2 (c p hp)
  show (afL r1 L1 p.1).map _=(afL r2 L2 p.2).map _
  rw[e1,e2,List.map_map,List.map_map]
  refine List.map_congr_left fun q hqm=>?_
  exact wY h1 (hq q hqm) ps c
 ·unfold cT roomsL
  rw[a,b,List.map_map,List.map_map,List.map_map,List.map_map]
  refine List.map_congr_left fun p hp=>?_
  obtain ⟨x,y,e1,e2,hx,hy,_,_,hxy⟩:=c p hp
  show w1.getD (match p.1 with | .int q=>q.toNat|_=>0) ""=w2.getD (match p.2 with | .int q=>q.toNat|_=>0) ""
  rw[e1,e2]
  show w1.getD ((x:Int)).toNat ""=w2.getD ((y:Int)).toNat ""
  rw[show ((x:Int)).toNat=x by omega,show ((y:Int)).toNat=y by omega]
  exact hxy [] fun c hc=>by simp at hc
end
end Mc
namespace Mc
open PySem L2 PyProof.Rows Fl
section
variable{rows r1 r2:List (List Nat)}{ws w1 w2:List Str}{sg:Nat}{L L1 L2:List Nat}{N N1 N2:Nat}
theorem qY(T:Lst rows ws L N):0 < N:=by
 have:=T.len
 cases N with
 | zero=>simp[bfQ] at this
 | succ n=>omega
theorem yW(M:Rdr rows sg)(K:Lk rows ws sg L)(T:Lst rows ws L N):(roomsL rows L N).getD 0 0=L.getD 0 0:=by
 have h:=K.at_ 0 M.n1
 have e:(roomsL rows L N)[0]? = some 0:=by
  have:=oV (afL rows L) (.int 0) N
  rw[hV M K,List.getElem?_map] at this
  cases z:(roomsL rows L N)[0]? with
  | none=>rw[z] at this;cases this
  | some v=>
   rw[z] at this
   have:PyData.int (v:Int)=.int 0:=Option.some.inj this
   injection this with this
   rw[show v=0 by omega]
 rw[List.getD_eq_getElem?_getD,e]
 show 0=_
 omega
theorem mO(M:Rdw rows ws sg)(K:Lk rows ws sg L)(T:Lst rows ws L N):EqX (bF rows L N) rows (cT rows ws L N) ws sg 0 0:=fun w hw=>
 yU M K T hw (qY T) M.r.n1 (yW M.r K T)
theorem EqX.sy{x y:Nat}(h:EqX r1 r2 w1 w2 sg x y):EqX r2 r1 w2 w1 sg y x:=fun w hw=>(h w hw).symm
theorem aBK(M1:Rdw r1 w1 sg)(M2:Rdw r2 w2 sg)(K1:Lk r1 w1 sg L1)(K2:Lk r2 w2 sg L2)(T1:Lst r1 w1 L1 N1)(T2:Lst r2 w2 L2 N2) :
  (bF r1 L1 N1=bF r2 L2 N2/\cT r1 w1 L1 N1=cT r2 w2 L2 N2)↔EqX r1 r2 w1 w2 sg 0 0:=by
 constructor
 ·rintro ⟨h1,h2⟩ w hw
  have a:=mO M1 K1 T1 w hw
  have b:=mO M2 K2 T2 w hw
  rw[h1,h2] at a
  exact a.symm.trans b
 ·intro h
  exact (yV M1 M2 K1 K2 T1 T2 h).2
theorem uR(M:Rdw rows ws sg)(K:Lk rows ws sg L)(T:Lst rows ws L N){i j:Nat}(hi:i < N)(hj:j < N)(h:EqA (bF rows L N) (cT rows ws L N) sg i j):i=j:=by
 have hl:=jI T
 have get:∀ k,k < N->∃ q,(roomsL rows L N)[k]? = some q/\(roomsL rows L N).getD k 0=q/\q < rows.length/\L.getD q 0=q:=fun k hk=>by
  have e:(roomsL rows L N)[k]? = some ((roomsL rows L N).getD k 0):=by rw[List.getD_eq_getElem?_getD,List.getElem?_eq_getElem (by omega)];rfl
  have hm:PyData.int ((roomsL rows L N).getD k 0:Int)∈bfQ (afL rows L) (.int 0) N:=by rw[hV M.r K];exact List.mem_map.mpr ⟨_,List.mem_of_getElem? e,rfl⟩
  obtain ⟨q,h1,h2,h3⟩:=yT M.r K N _ hm
  injection h2 with h2
  have h2:(roomsL rows L N).getD k 0=q:=by omega
  exact ⟨q,by rw[e,h2],h2,h1,h3⟩
 obtain ⟨q,a1,a2,a3,a4⟩:=get i hi
 obtain ⟨q',b1,b2,b3,b4⟩:=get j hj
 have:EqA rows ws sg q q':=fun w hw=>by
  rw[<-yU M K T hw hi a3 (by rw[a2,a4]),<-yU M K T hw hj b3 (by rw[b2,b4])]
  exact h w hw
 have e:q=q':=by rw[<-a4,<-b4,(K.iff a3 b3).mpr this]
 subst e
 have nd:=lM (afL rows L) (.int 0) N
 rw[hV M.r K] at nd
 have nd':(roomsL rows L N).Nodup:=List.Pairwise.of_map (fun q:Nat=>PyData.int (q:Int)) (fun a b h e=>h (by rw[e])) nd
 obtain ⟨li,ei⟩:=List.getElem?_eq_some_iff.mp a1
 obtain ⟨lj,ej⟩:=List.getElem?_eq_some_iff.mp b1
 rcases Nat.lt_trichotomy i j with q1|q1|q1
 ·exact absurd (ei.trans ej.symm) (List.pairwise_iff_getElem.mp nd' i j li lj q1)
 ·exact q1
 ·exact absurd (ej.trans ei.symm) (List.pairwise_iff_getElem.mp nd' j i lj li q1)
end
end Mc
namespace Zp
open PySem L2
def dW{κ:Type}[DecidableEq κ]:List κ->List κ->List κ
 | acc,[]=>acc
 | acc,k::ks=>dW (if k∈acc then acc else acc++[k]) ks
theorem oY{κ:Type}[DecidableEq κ]:∀ (ks:List κ) (acc:List κ) (k:κ),dW acc (ks++[k])=if k∈dW acc ks then dW acc ks else dW acc ks++[k]
 | [],_,_=>rfl
 | x::ks,acc,k=>oY ks _ k
theorem kE{κ:Type}[DecidableEq κ]:∀ (ks:List κ) (acc:List κ) (k:κ),k∈dW acc ks↔k∈acc\/k∈ks
 | [],acc,k=>by simp[dW]
 | x::ks,acc,k=>by
  rw[dW,kE ks]
  by_cases h:x∈acc
  ·rw[if_pos h]
   constructor
   ·rintro (a|a)
    ·exact .inl a
    ·exact .inr (.tail _ a)
   ·rintro (a|a)
    ·exact .inl a
    ·cases a with
     | head=>exact .inl h
     | tail _ a=>exact .inr a
  ·rw[if_neg h]
   simp only[List.mem_append,List.mem_cons,List.not_mem_nil,or_false,or_assoc]
theorem oZ{κ:Type}[DecidableEq κ]:∀ (ks:List κ) (acc:List κ),(dW acc ks).length<=acc.length+ks.length
 | [],acc=>by simp[dW]
 | x::ks,acc=>by
  rw[dW]
  have:=oZ ks (if x∈acc then acc else acc++[x])
  by_cases h:x∈acc
  · rw [if_pos h] at this ⊢; simp only [List.length_cons]; omega
  · rw [if_neg h] at this ⊢; simp only [List.length_cons, List.length_append, List.length_nil] at this ⊢; omega
theorem yX{k:Key}{v:Value}(h:gI k v=true):v.scannable=true:=by
 rcases keyIs_shape h with ⟨i,t,rfl,rfl⟩|⟨x,t,rfl,rfl⟩<;>rfl
theorem vI{prog:Program}{w:World}{h:Heap}{a:Addr}{S S':Key->Bool}{n n':Nat}(x:Heap.SetOf (bT prog w) h a S n)(e:∀ k,S k=S' k)(en:n=n'):Heap.SetOf (bT prog w) h a S' n':=by
 have:S=S':=funext e
 subst this;subst en;exact x
def kX{κ:Type}[DecidableEq κ](ks:List κ)(k:κ):Bool:=ks.any fun x=>decide (x=k)
theorem uS{κ:Type}[DecidableEq κ](ks:List κ)(k:κ):kX ks k=true↔k∈ks:=by
 unfold kX
 rw[List.any_eq_true]
 constructor
 ·rintro ⟨x,h,e⟩
  rw[<-of_decide_eq_true e];exact h
 ·intro h
  exact ⟨k,h,decide_eq_true rfl⟩
theorem aDD{κ:Type}[DecidableEq κ](ks:List κ)(x k:κ):kX (ks++[x]) k=(kX ks k || decide (k=x)):=by
 unfold kX
 rw[List.any_append]
 simp only[List.any_cons,List.any_nil,Bool.or_false]
 congr 1
 exact decide_eq_decide.mpr eq_comm
theorem aDE{prog:Program}{w:World}{A:Around}{R:Result->Shared->Prop}{I S l:Addr}{items:Array Value}{ks:List Key}(hh:A.handled=none)(hl:l≠I)(hIS:S≠I)(hlS:S≠l)
  (hk:∀ (i:Nat) v,items[i]? = some v->∃ k,ks[i]? = some k/\gI k v=true) (hs:items.size=ks.length) (hb:items.size+1 < scanBound) :
  ∀ (k i:Nat) (s:Shared),items.size - i=k->i<=items.size->s.heap.IsListIter I l i->s.heap.IsList l items->Heap.SetOf (bT prog w) s.heap S (kX (ks.take i)) (dW [] (ks.take i)).length->
   (∀ h' tk,(∀ b o,b≠I->b≠S->s.heap.get? b=some o->h'.get? b=some o)->Heap.SetOf (bT prog w) h' S (kX ks) (dW [] ks).length->R (.ok (.ret .none)) {s with heap:=h',toks:=tk})->
   codeAny (model prog w) A (.builtin "set.update.loop" ⟨[.ref S,.ref I],[]⟩) R s:=by
 have W:=(Walks.list (prog:=prog) (w:=w) (A:=A.in1) (by exact hh) I l hl items).toS
 intro k
 induction k with
 | zero=>
  intro i s hk0 hi hit hL hS hR
  have:i=items.size:=by omega
  subst this
  refine codeAny_builtin PyProof.Rows.F.entry_set_update_loop ?_
  rw[Around.under_plainId PyProof.Rows.F.plain_set_update_loop _]
  show wpAny _ A.in1 (pyNext (.ref I) >>= _) _ _ s
  refine wpAny_bind (W.done s _ _ ⟨hit,hL⟩ fun s' M=>wpAny_pure ?_)
  obtain ⟨hp,g,d,tk,os⟩:=s'
  obtain ⟨m1,m2,m3,m4,m5⟩:=M
  cases m2;cases m3;cases m4
  refine hR hp tk (fun b o h1 _ e=>m1 b o (by simpa using h1) e) ?_
  obtain ⟨o,es,ep,t,e,r⟩:=hS
  rw[List.take_of_length_le (by omega)] at r
  exact ⟨o,es,ep,t,m1 _ _ (by simpa using hIS) e,r⟩
 | succ k ih=>
  intro i s hk0 hi hit hL hS hR
  refine codeAny_builtin PyProof.Rows.F.entry_set_update_loop ?_
  rw[Around.under_plainId PyProof.Rows.F.plain_set_update_loop _]
  show wpAny _ A.in1 (pyNext (.ref I) >>= _) _ _ s
  refine wpAny_bind (W.item i s _ _ (by omega) ⟨hit,hL⟩ fun v s' hv St M=>?_)
  obtain ⟨hp,g,d,tk,os⟩:=s'
  obtain ⟨m1,m2,m3,m4,m5⟩:=M
  cases m2;cases m3;cases m4
  obtain ⟨kk,e1,e2⟩:=hk i v hv
  have hS':Heap.SetOf (bT prog w) hp S (kX (ks.take i)) (dW [] (ks.take i)).length:=by
   obtain ⟨o,es,ep,t,e,r⟩:=hS
   exact ⟨o,es,ep,t,m1 _ _ (by simpa using hIS) e,r⟩
  show wpAny _ A.in1 (holding [v] (setAdd S v) >>= _) _ _ _
  refine wpAny_bind (wpAny_holding ?_)
  unfold setAdd
  refine wpAny_holding (wpAny_bind ((bT prog w).pyHash e2 ?_))
  have hlen:(dW [] (ks.take i)).length+1 < scanBound:=by
   have h1:=oZ (ks.take i) []
   rw[List.length_take] at h1
   simp only[List.length_nil] at h1
   omega
  refine wpAny_setAddHashed_of (knd:=bT prog w) e2 (yX e2) hS' hlen fun h' sb st=>?_
  refine wpAny_pure ⟨plainId_quiet PyProof.Rows.F.plain_set_update_loop _,?_⟩
  have et:ks.take (i+1)=ks.take i++[kk]:=by rw[List.take_add_one,e1];rfl
  refine ih (i+1) _ (by omega) (by omega) ?_ ?_ ?_ ?_
  ·obtain ⟨c,hc,r⟩:=St.1
   exact ⟨c,sb.extBut _ _ (fun q=>hIS q.symm) hc,r⟩
  ·obtain ⟨c,hc,r⟩:=St.2
   exact ⟨c,sb.extBut _ _ (fun q=>hlS q.symm) hc,r⟩
  ·refine vI st (fun k'=>?_) ?_
   ·rw[et,aDD]
   ·rw[et,oY]
    by_cases hm:kk∈dW [] (ks.take i)
    · rw [if_pos hm, if_pos ((uS _ _).mpr (((kE _ _ _).mp hm).resolve_left (fun q => nomatch q)))]
    · rw [if_neg hm, if_neg (fun q => hm ((kE _ _ _).mpr (.inr ((uS _ _).mp q)))), List.length_append]; rfl
  ·intro h2 tk2 hk2 hs2
   exact hR h2 tk2 (fun b o h1 h3 e=>hk2 b o h1 h3 (sb.extBut _ _ h3 (m1 b o (by simpa using h1) e))) hs2
theorem uT{prog:Program}{w:World}{A:Around}{E:Value->Shared->Prop}{s:Shared}{l:Value}{Q:Value->Shared->Prop}
  (h:∀ led,wpAny (model prog w) A.in1.in1 (Builtin.«set.__init__» {pos:=[.ref s.heap.objs.size,l]}) (fun fin s'=>match fin with
   | .done f=>wants (fun r s₂=>r=Value.none/\Q (.ref s.heap.objs.size) s₂) E (Except.ok f) s'
   | .again c'=>c'.quiet=true/\codeAny (model prog w) A.in1 c' (wants (fun r s₂=>r=Value.none/\Q (.ref s.heap.objs.size) s₂) E) s') (fun e s'=>E e s')
   {s with heap:=s.heap.push {cls:=.type "set",data:=.set #[] 0 (SetTable.fresh 0 0 led)}}) :
  wpAny (model prog w) A (call (.type "set") [l]) Q E s:=by
 obtain ⟨c,tl,hmro⟩:=F.called_set.mro
 refine wpAny_call (codeAny_of_tree (wpAny_pure ⟨Code.quiet_builtin {pos:=Value.type "set"::[l]} (by kernel_rfl),codeAny_builtin F.entry_type_call ?_⟩))
 rw[Around.under_plain (weight_type_call_type "set" [l] []) rfl]
 unfold Builtin.«type.__call__»
 refine wpAny_ite_false F.called_set.notType (wpAny_ite_false F.called_set.canCreate ?_)
 refine wpAny_bind (wpAny_of_eq (F.typeCall_set_1 l) (wpAny_bind (wpAny_of_eq hmro (wpAny_ite_false rfl (wpAny_bind (wpAny_of_eq F.called_set.made (wpAny_bind (wpAny_pure (wpAny_bind (wpAny_holding ?_))))))))))
 refine wpAny_call (codeAny_mono (code_set_new_1 (E:=E) (Q₁:=fun obj s₁=>obj=.ref s.heap.objs.size/\∃ led,s₁={s with heap:=s.heap.push {cls:=.type "set",data:=.set #[] 0 (SetTable.fresh 0 0 led)}}) l fun led=>⟨rfl,led,rfl⟩) fun r s₁ hr=>?_)
 cases r with
 | error e=>exact hr
 | ok f=>
  cases f with
  | ret v=>
   obtain ⟨rfl,led,rfl⟩:=hr
   have hS:(s.heap.push {cls:=.type "set",data:=.set #[] 0 (SetTable.fresh 0 0 led)}).get? s.heap.objs.size=some {cls:=.type "set",data:=.set #[] 0 (SetTable.fresh 0 0 led)}:=Heap.get?_push_size _ rfl
   have hT:({s with heap:=s.heap.push {cls:=.type "set",data:=.set #[] 0 (SetTable.fresh 0 0 led)}}:Shared).TypeIs (.ref s.heap.objs.size) "set":=⟨_,hS,rfl⟩
   refine wpAny_bind (wpAny_isInstance hT F.called_set.sub (wpAny_ite_false rfl (wpAny_bind (wpAny_holding ?_))))
   refine wpAny_bind (wpAny_specialOf hT F.called_set.init.lookup (wpAny_holding (wpAny_bind (wpAny_of_eq (F.called_set.init.bind _) (wpAny_bind (wpAny_call (codeAny_mono (codeAny_call_builtin (R:=wants (fun r s₂=>r=Value.none/\Q (.ref s.heap.objs.size) s₂) E) F.called_set.init.plain F.entry_set_init (check_set_init_1 hT (h led))) fun r s₂ hr=>?_)))))))
   cases r with
   | error e=>exact hr
   | ok f=>
    cases f with
    | ret v=>
     obtain ⟨rfl,hq⟩:=hr
     exact wpAny_pure (wpAny_pure hq)
    | _=>exact hr.elim
  | _=>exact hr.elim
theorem aBL{prog:Program}{w:World}{A:Around}{E:Value->Shared->Prop}{s:Shared}{l:Addr}{items:Array Value}{ks:List Key}{Q:Value->Shared->Prop}(hh:A.handled=none)(hL:s.heap.IsList l items)
  (hk:∀ (i:Nat) v,items[i]? = some v->∃ k,ks[i]? = some k/\gI k v=true) (hs:items.size=ks.length) (hb:items.size+1 < scanBound)
  (hQ:∀ h' tk,(∀ b o,s.heap.get? b=some o->h'.get? b=some o)->Heap.SetOf (bT prog w) h' s.heap.objs.size (kX ks) (dW [] ks).length->Q (.ref s.heap.objs.size) {s with heap:=h',toks:=tk}) :
  wpAny (model prog w) A (call (.type "set") [.ref l]) Q E s:=by
 have hll:l < s.heap.objs.size:=by obtain ⟨c,hc,_⟩:=hL;exact Heap.lt_size hc
 refine uT fun led=>?_
 have hS:(s.heap.push {cls:=.type "set",data:=.set #[] 0 (SetTable.fresh 0 0 led)}).get? s.heap.objs.size=some {cls:=.type "set",data:=.set #[] 0 (SetTable.fresh 0 0 led)}:=Heap.get?_push_size _ rfl
 have hL':=hL
 obtain ⟨ol,hl,hlc,c,hld⟩:=hL
 generalize hSS:s.heap.objs.size=S at *
 have nl:S≠l:=Nat.ne_of_gt hll
 have hl1:=Heap.get?_push_of_some {cls:=.type "set",data:=.set #[] 0 (SetTable.fresh 0 0 led)} hl
 have hty:({s with heap:=s.heap.push {cls:=.type "set",data:=.set #[] 0 (SetTable.fresh 0 0 led)}}:Shared).TypeIs (.ref S) "set":=⟨_,hS,rfl⟩
 have hty2:({s with heap:=s.heap.push {cls:=.type "set",data:=.set #[] 0 (SetTable.fresh 0 0 led)}}:Shared).TypeIs (.ref l) "list":=⟨_,hl1,hlc⟩
 unfold Builtin.«set.__init__»
 refine wpAny_bind (wpAny_pure (wpAny_bind ?_))
 unfold typeNameOfCut shownTypeOf
 refine wpAny_bind (wpAny_bind (wpAny_typeOf hty ?_))
 refine wpAny_pure ?_
 refine wpAny_pure (wpAny_bind (wpAny_pure (wpAny_bind (wpAny_pure (wpAny_bind ?_)))))
 unfold setUsed setState
 refine wpAny_bind (wpAny_bind (wpAny_load hS (wpAny_pure (wpAny_pure ?_))))
 show wpAny _ _ (Builtin.Frozenset.updateFrom "set.__init__" S (.ref l) >>= _) _ _ _
 refine wpAny_bind ?_
 unfold Builtin.Frozenset.updateFrom Builtin.Frozenset.isAnySet
 refine wpAny_bind ?_
 refine wpAny_bind (wpAny_isInstance hty2 F.sub_list_set ?_)
 refine wpAny_isInstance hty2 F.sub_list_frozenset ?_
 refine wpAny_bind (wpAny_typeOf hty2 ?_)
 have hL1:(s.heap.push {cls:=.type "set",data:=.set #[] 0 (SetTable.fresh 0 0 led)}).IsList l items:=⟨ol,hl1,hlc,c,hld⟩
 show wpAny _ _ (pyIter (.ref l) >>= _) _ _ _
 have hsz:(s.heap.push {cls:=.type "set",data:=.set #[] 0 (SetTable.fresh 0 0 led)}).objs.size=S+1:=by rw[Heap.size_push,hSS]
 refine wpAny_bind (wpAny_pyIter_list hL1 (wpAny_bind (wpAny_runValue ?_)))
 show codeAny _ _ (.builtin "set.update.loop" ⟨[.ref S,.ref (s.heap.push _).objs.size],[]⟩) _ _
 have up:∀ b o,s.heap.get? b=some o->(s.heap.push {cls:=.type "set",data:=.set #[] 0 (SetTable.fresh 0 0 led)}).get? b=some o:=fun b o e=>Heap.get?_push_of_some _ e
 generalize s.heap.push {cls:=.type "set",data:=.set #[] 0 (SetTable.fresh 0 0 led)}=hp at *
 rw[hsz]
 refine aDE (I:=S+1) (S:=S) (l:=l) (items:=items) (ks:=ks) (A:=A.in1.in1) hh (Nat.ne_of_lt (Nat.lt_succ_of_lt hll)) (Nat.ne_of_lt (Nat.lt_succ_self S)) nl hk hs hb items.size 0 _ (by omega) (by omega) ?_ ?_ ?_ ?_
 ·refine ⟨{cls:=.type "list_iterator",data:=.fields #[.ref l,.int 0 0]},?_,rfl,rfl⟩
  rw[<-hsz]
  exact Heap.get?_push_size _ rfl
 ·exact hL1.push _
 ·letI:BEq Key:=instBEqOfDecidableEq
  haveI:LawfulBEq Key:=inferInstance
  refine (PyProof.Rows.setObjOf_fresh (knd:=bT prog w) led).setOf (Heap.get?_push_of_some _ hS) (by decide)
 ·intro h' tk hk' hs'
  refine wpAny_pure (wpAny_pure ⟨rfl,hQ h' tk (fun b o e=>?_) hs'⟩)
  have hb':b < S:=hSS▸Heap.lt_size e
  exact hk' b o (Nat.ne_of_lt (Nat.lt_succ_of_lt hb')) (Nat.ne_of_lt hb') (Heap.get?_push_of_some _ (up b o e))
end Zp
namespace L2
open PySem PySem.Spec PyProof.Rows
def uU:V->Option Key
 | .int i=>some (.inl i)
 | .str z=>some (.inr z)
 | _=>none
theorem aGO{v:V}{k:Key}{u:Value}(h:uU v=some k)(r:aQ v u):gI k u=true:=by
 cases v<;>simp only[uU] at h<;>cases h
 · obtain ⟨t, rfl⟩ := r; simp [gI, Value.isInt]
 · obtain ⟨t, rfl⟩ := r; simp [gI, Value.isStrOf]
theorem w4{X:Cx}{a:Expr}{ta:TA}{p1 p2 pos pos2:Pos}(hc:X.calm=true)(hgl:Gl X "len")(hml:X.mg "len"=none)(hgz:Gl X "set")(hmz:X.mg "set"=none)(ha:PA X [a] ta)
  (hs:starEach [a] X.env=[(false,eval a X.env)]:=by rfl)
  (hs3:starEach [.Call (.Name "set" p2) [a] [] pos2] X.env=[(false,eval (.Call (.Name "set" p2) [a] [] pos2) X.env)]:=by rfl) :
  PE X (.Call (.Name "len" p1) [.Call (.Name "set" p2) [a] [] pos2] [] pos) (tCB (fun xs H Q=>∃ p ys ks,xs=[.ref p]/\SqL X.K H p ys/\ys.map uU=ks.map some/\ys.length < 4000/\Q (.int ((Zp.dW [] ks).length:Nat)) H) ta):=by
 intro pins s σ H Q I h
 refine wpAny_Call_Name_kw (iT I hgl hml PySem.boot_len ?_ (by decide) (by decide))
 refine PyProof.Rows.callWith_builtin1 (e:=.Call (.Name "set" p2) [a] [] pos2) (rest:=[]) ?_ hs3 rfl
 rw[hs3]
 show wpAny _ _ (spliced [(false,eval (.Call (.Name "set" p2) [a] [] pos2) X.env)]) _ _ s
 refine Calls.spliced_cons ?_
 refine wpAny_Call_Name_kw (iT I hgz hmz PyProof.Rows.boot_set (PyProof.Rows.callWith_type1 (thn (ha pos2 pins s σ H _ I h) fun us s1 zz0=>?_) (by rw[hs];rfl) (by rfl)))
 obtain ⟨vs,H1,I1,r1,q1⟩:=zz0
 obtain ⟨p,ys,ks,rfl,hq,hk,hl,q⟩:=q1
 obtain ⟨u,rfl,rx⟩:=kG r1
 cases rx
 obtain ⟨its,r',pl,hz⟩:=I1.list hq
 have hlen:=r'.length
 have hkl:ys.length=ks.length:=by simpa using congrArg List.length hk
 refine Zp.aBL (ks:=ks) (items:=its.toArray) (I1.ok.hd hc) pl.isList (fun i v hv=>?_) (by simp only[List.size_toArray];omega) (by simp only[List.size_toArray,scanBound];omega) fun h' tk kp st=>?_
 ·rw[List.getElem?_toArray] at hv
  have hi:i < its.length:=(List.getElem?_eq_some_iff.mp hv).1
  have hy:ys[i]? = some ys[i]:=List.getElem?_eq_getElem (by omega)
  have hkk:=congrArg (fun l=>l[i]?) hk
  simp only[List.getElem?_map,hy,Option.map_some] at hkk
  cases hki:ks[i]? with
  | none=>rw[hki] at hkk;cases hkk
  | some k=>
   rw[hki] at hkk
   obtain ⟨u2,e2,r2⟩:=r'.get hy
   rw[hv] at e2
   cases e2
   exact ⟨k,rfl,aGO (Option.some.inj hkk) r2⟩
 refine Calls.spliced_nil ?_
 obtain ⟨o,es,ep,t,g1,g2,g3,g4,g5,g6,g7,g8⟩:=st
 have hm:=Zp.oZ ks []
 have hm2:(Zp.dW [] ks).length < 4000:=by simp only[List.length_nil] at hm;omega
 refine call_len_set (s:={s1 with heap:=h',toks:=tk}) g1 g2 g3 g7 (by rw[g8];omega) ?_
 rw[g8]
 exact ⟨.int ((Zp.dW [] ks).length:Nat),H1,(I1.kept (t':=tk) kp).tok _,⟨_,rfl⟩,q⟩
end L2
namespace Fl
open PySem L2 PyProof.Rows
def fO:PyData->Option Key
 | .int i=>some (.inl i)
 | .str z=>some (.inr z)
 | _=>none
def mP:List PyData->Option (List Key)
 | []=>some []
 | d::ds=>match fO d,mP ds with
  | some k,some ks=>some (k::ks)
  | _,_=>none
def dSetN:PyData->R PyData
 | .list xs=>match mP xs with
  | some ks=>if xs.length < 4000 then .ok (.int ((Zp.dW [] ks).length:Nat)) else .bad
  | none=>.bad
 | _=>.bad
theorem yY:m9 dSetN:=by intro a e h;unfold dSetN at h;split at h<;>(try split at h)<;>(try split at h)<;>cases h
theorem rZ{K:Frag}{F:Hp}:∀ {xs:List PyData} {vs:List V} {ks:List Key},DatVs K F vs xs->mP xs=some ks->vs.map uU=ks.map some
 | [],vs,ks,r,h=>by cases r;cases h;rfl
 | d::ds,vs,ks,r,h=>by
  cases r with
  | cons r1 r2=>
   unfold mP at h
   split at h
   ·rename_i k ks' h1 h2
    cases h
    rw[List.map_cons,List.map_cons,rZ r2 h2]
    congr 1
    cases r1<;>simp only[fO] at h1<;>cases h1<;>rfl
   ·cases h
section
variable{X:Cx}{c:Ct}{E:XK}{e:Expr}
theorem w5{fa:Sg->R PyData}(hK:X.K=c.K)(h0:PE X e (tCB (fun xs H Q=>∃ p ys ks,xs=[.ref p]/\SqL X.K H p ys/\ys.map uU=ks.map some/\ys.length < 4000/\Q (.int ((Zp.dW [] ks).length:Nat)) H) (dF (tV (bJ c) c E fa) fS))):PD X c E e (e1 dSetN fa):=
 PE.imp h0 fun σ H Q h=>by
  obtain ⟨ρ,F,ab,k⟩:=tV1 (Ra:=bJ c) sG yY (l8 c) h
  refine ⟨ρ,F,ab,k.imp fun d _ q v F' H' s r=>?_⟩
  obtain ⟨H0,F1,a,d',sf,ra,eg,q⟩:=q v F' H' s r
  unfold dSetN at eg
  split at eg
  ·split at eg
   ·rename_i ks hks
    split at eg
    ·rename_i hl
     cases eg
     obtain ⟨p,vs,rfl,h1,h2⟩:=aS.lst_of sf ra
     rw[<-hK] at h1
     have:=h2.length
     exact ⟨p,vs,ks,rfl,h1,rZ h2 hks,by omega,q _ _ _ (Ext.refl sf) (.int _)⟩
    ·cases eg
   ·cases eg
  ·cases eg
end
end Fl
namespace Fl
open PySem L2 PyProof.Rows
noncomputable def lP(i j:Nat)(f g:Sg->R PyData):Sg->R Fw:=fun ρ=>match ρ[i]? with
 | some (some (.l xs))=>match ρ[j]? with
  | some (some (.m kvs))=>(f ρ).bind fun k=>(g ρ).bind fun y=>if bS k (kvs.map (·.1))=true/\kvs.length<=16777216/\xs.length < 16777216/\i≠j then
   .ok (.nx ((ρ.set j (some (.m (match bY kvs k with|some _=>kvs|none=>putM kvs k y)))).set i (some (.l (xs++[(bY kvs k).getD y]))))) else .bad
  | _=>.bad
 | _=>.bad
section
variable{X:Cx}{c:Ct}{E:XK}{st:Stmt}
theorem aBM{i j:Nat}{f g:Sg->R PyData}(hK:X.K=c.K)(hW:X.w=c.w)(h:PS X st (o5 (tBM X.K "list" pZ (fQ i) (dF (aCK X "dict" (aCX X) (fQ j) (dF (tV (cL c) c E f) (dF (tV (cL c) c E g) fS))) fS)))):PSf X c E st (lP i j f g):=PS.imp h fun D σ H ⟨ρ,F,ab,k⟩=>by
 unfold lP at k
 split at k
 ·rename_i xs hi
  split at k
  ·rename_i kvs hj
   obtain ⟨v,hpi,pl,vs,rfl,h2,h3,h4,h5⟩:=ab.slot i _ hi
   refine ⟨_,hpi,.inl ⟨rfl,vs,SqL.of h2⟩,?_⟩
   obtain ⟨_,hp,p,es,rfl,⟨ep,hd⟩,_⟩:=ab.slot j _ hj
   refine ⟨_,hp,fun pins s v I r=>?_,ρ,F,ab,(Rk.bind k).imp fun d _ q v F1 H1 s1 r1=>?_⟩
   ·cases (show v=Value.ref p from r)
    rw[<-hW] at hd
    obtain ⟨⟨_,o,ar,h1,h2,_⟩,_,_⟩:=(show bN X.prog X.w H s.heap p (cC X.w p es ep) from I.hok p _ hd)
    exact ⟨⟨o,h1,h2.1⟩,fun a z=>by cases z;exact ⟨o,h1,h2.2.1⟩⟩
   ·refine ⟨ρ,F1,ab.ext s1,((Rk.bind q).ext s1).imp fun y _ q u F2 H2 s2 r2=>?_⟩
    split at q
    ·rename_i hs
     have s12:=s1.trans s2
     have ab2:=ab.ext s12
     obtain ⟨p',es',hp',D',m⟩:=pF hK hW ab2 hj (DatV.same s2.ff r1) hs.1
     rw[hp] at hp'
     cases hp'
     have gr:=nW (k:=d) m.k1 m.vs
     have hij:=hs.2.2.2
     obtain ⟨_,hpi2,pl2,vs2,e2,g2,_,_,g5⟩:=ab2.slot i _ hi
     rw[hpi] at hpi2
     cases hpi2
     cases e2
     refine ⟨p,es',d,v,u,rfl,rfl,D',?_,fun z hz=>?_,fun hz ep=>?_⟩
     ·have:es'.length=kvs.length:=by have:=congrArg List.length m.k1;simpa using this
      rw[this,cQ];exact hs.2.1
     ·obtain ⟨w,g1,g3⟩:∃ w,bY kvs d=some w/\DatV c.K F2 z w:=by
       rcases gr with ⟨g1,_⟩|⟨a1,a2,b1,b2,b3⟩
       ·rw[g1] at hz;cases hz
       ·rw[b1] at hz;cases hz;exact ⟨a2,b2,b3⟩
      rw[g1] at q
      refine ⟨pl,vs2,z,rfl,rfl,g2,by rw[g5.length,cQ];exact hs.2.2.1,?_⟩
      have e0:ρ.set j (some (.m kvs))=ρ:=by
       apply List.ext_getElem?
       intro n
       rw[List.getElem?_set]
       split
       ·rename_i hn;subst hn;split
        · exact hj.symm
        · rename_i hl; rw [List.getElem?_eq_none (by omega)]
       ·rfl
      rw[e0] at q
      exact Rk.ok q σ F2 _ s12.ff (ab2.putL hi hpi (g5.append (.cons g3 .nil)))
     ·have hg:bY kvs d=none:=by
       rcases gr with ⟨_,g2⟩|⟨_,_,g1,_,_⟩
       ·exact g2
       ·rw[g1] at hz;cases hz
      rw[hg] at q
      have ab3:Ab c (ρ.set j (some (.m (putM kvs d y)))) σ F2 (upd H2 p (cC X.w p (i7 es' d v u) ep)):=by
       rw[hW];exact ab2.putM hj hp (m.put (DatV.same s2.ff r1) r2)
      have hi3:(ρ.set j (some (.m (putM kvs d y))))[i]? = some (some (.l xs)):=by rw[List.getElem?_set_ne (Ne.symm hij)];exact hi
      obtain ⟨_,hpi3,pl3,vs3,e3,k2,_,_,k5⟩:=ab3.slot i _ hi3
      rw[hpi] at hpi3
      cases hpi3
      cases e3
      refine ⟨pl,vs3,u,rfl,rfl,k2,by rw[k5.length,cQ];exact hs.2.2.1,?_⟩
      exact Rk.ok q σ F2 _ s12.ff (ab3.putL hi3 hpi (k5.append (.cons r2 .nil)))
    ·exact q.elim
  ·exact k.elim
 ·exact k.elim
end
end Fl
namespace Mc
open PySem L2 PyProof.Rows Fl
noncomputable def i4:Sg->R Fw:=(aD (aR 3 (bC 3 jB (aA (vV 0) (aA (vV 1) (aA (vV 2) aK)))))
 (aD (aR 4 (vD (eC .none)))
 (aD (dE (n6 3) (stT [(stN 5),(stN 6)]) (aD (aR 7 (vD (f9 3 (cS (aA (eV 5) (aA (eV 6) aK))))))
 (sIf (kZ (e1 asB (e2 dNe (e2 dIx (e2 dIx (rV 0) (eC (.int 1))) (rV 5)) (e2 dIx (e2 dIx (rV 1) (eC (.int 1))) (rV 6)))) (bOr (e1 asB (e2 dIs (rV 4) (eC .none))) (e1 asB (e2 nK (cS (aA (e1 dLen (rV 7)) (aA (eV 7) aK))) (cS (aA (e1 dLen (rV 4)) (aA (eV 4) aK))))))) (aR 4 (vV 7)) sNx)))
 (bL (vV 4)))))
noncomputable def dR:List A->R A:=fnF 8 i4
noncomputable def gD:Sg->R Fw:=(aD (sIf (bOr (fG (e1 asB (e1 (eF "tuple") (rV 0)))) (bOr (e1 asB (e2 dNe (e1 dLen (rV 0)) (eC (.int 2)))) (fG (e1 asB (e1 (eF "tuple") (e2 dIx (rV 0) (eC (.int 1)))))))) (bL (vD (eC (.bool false)))) sNx)
 (aD (dE (e1 aT (e2 dIx (rV 0) (eC (.int 0)))) (stN 1) (aD (sIf (fG (e1 asB (e1 (eF "tuple") (rV 1)))) (bL (vD (eC (.bool false)))) sNx)
 (dE (e1 aT (eV 1)) (stN 2) (sIf (bOr (fG (e1 asB (e1 (eF "int") (rV 2)))) (e1 asB (e1 (eF "bool") (rV 2)))) (bL (vD (eC (.bool false)))) sNx))))
 (bL (vD (k6 (e1 (eF "tuple") (e2 dIx (rV 0) (eC (.int 0)))) (e2 dEq (e1 dLen (e2 dIx (rV 0) (eC (.int 0)))) (e1 dLen (e2 dIx (rV 0) (eC (.int 1))))))))))
noncomputable def dC:List A->R A:=fnF 3 gD
noncomputable def gR:Sg->R Fw:=(aD (mE (stT [(stN 1),(stN 2)]) (eV 0))
 (aD (cJ 3 (e1 dLst (rV 2)))
 (aD (aR 4 (vD (eC (.int 0))))
 (aD (bA (e1 asB (e2 dGt (e1 dSetN (rV 3)) (rV 4))) (aD (aR 4 (vD (e1 dSetN (rV 3))))
 (aD (mC 5)
 (aD (cJ 6 (dD aK))
 (aD (dE (cR (e1 dLen (rV 1))) (stN 7) (aD (aR 8 (vD (cS (aA (e2 dIx (rV 3) (rV 7)) (aA (e1 dTup (eL (f8 [none,some 3] (e1 aT (e2 dIx (rV 1) (rV 7))) (stN 0) iI (e2 dIx (rV 1) (rV 0))))) aK)))))
 (lP 6 5 (eV 8) (pM 5))))
 (sFz 6 (aR 3 (vV 6))))))))
 (bL (vV 4))))))
noncomputable def dO:List A->R A:=fnF 9 gR
noncomputable def f6:Sg->R Fw:=(aD (mE (stT [(stN 2),(stN 3)]) (eV 0))
 (aD (aR 4 (vD (e2 dDiv (e2 bX (e1 dLen (rV 2)) (eC (.int 1))) (eC (.int 2)))))
 (aD (cJ 5 (dD aK))
 (aD (dE (cR (e1 dLen (rV 2))) (stN 6) (aD (cJ 7 (dD aK))
 (aD (dE (e1 kP (e2 dIx (rV 2) (e2 dMod (rV 6) (rV 4)))) (stT [(stN 8),(stN 9)]) (aD (aR 9 (vD (e2 dMod (rV 9) (rV 4))))
 (aD (sIf (kZ (e1 asB (e2 dLt (e2 bX (rV 9) (rV 4)) (e1 dLen (rV 2)))) (e1 asB (e2 dEq (e2 dMod (e2 bX (e2 dDiv (rV 1) (e2 bX (eC (.int 1)) (rV 8))) (rV 6)) (eC (.int 2))) (eC (.int 1))))) (aR 9 (vD (e2 bX (rV 9) (rV 4)))) sNx)
 (dY 7 (eV 9)))))
 (dY 5 (e1 dTup (rV 7))))))
 (bL (vD (cS (aA (e1 dTup (rV 5)) (aA (e1 dTup (eL (f8 [none,some 3,some 4] (cR (e1 dLen (rV 2))) (stN 0) iI (e2 dIx (rV 1) (e2 dMod (rV 0) (rV 2)))))) aK)))))))))
noncomputable def cZ:List A->R A:=fnF 10 f6
noncomputable def eY:Sg->R Fw:=(aD (cJ 1 (dD (aA (eC (.int 0)) aK)))
 (aD (aR 2 (vD (eC (.int 0))))
 (aD (bA (e1 asB (e2 dLt (rV 2) (e1 dLen (rV 1)))) (aD (dE (e1 aT (e2 dIx (e2 dIx (rV 0) (eC (.int 0))) (e2 dIx (rV 1) (rV 2)))) (stN 3) (sIf (e1 asB (e2 dNin (rV 3) (rV 1))) (dY 1 (eV 3)) sNx))
 (aR 2 (vD (e2 bX (rV 2) (eC (.int 1)))))))
 (bL (vD (e2 dEq (rV 1) (eL (e1 dLR (e1 dLen (e2 dIx (rV 0) (eC (.int 0))))))))))))
noncomputable def cI:List A->R A:=fnF 4 eY
noncomputable def yZ:Sg->R Fw:=(aD (aR 1 (vD (e2 bX (eC (.int 1)) (e2 dMod (eA (bC 2 bU (aA (vV 0) (aA (vD (eC (.int 0))) aK)))) (eC (.int 3))))))
 (aD (aR 2 (vD (e2 (d2 j3) (eC (.int 1)) (e2 (d2 iK) (eC (.int 40)) (e2 dSub (e1 dLen (rV 0)) (eC (.int 4)))))))
 (aD (aR 3 (bC 5 dU (aA (vV 0) (aA (vD (eC (.int 4))) (aA (vV 2) (aA (vV 1) (aA (vD (e2 bX (eC (.int 1)) (e2 dMod (eA (bC 2 bU (aA (vV 0) (aA (vD (eC (.int 1))) aK)))) (eC (.int 3))))) aK)))))))
 (aD (sIf (e1 asB (e2 dEq (e2 dMod (eA (bC 2 bU (aA (vV 0) (aA (vD (eC (.int 2))) aK)))) (eC (.int 2))) (eC (.int 1)))) (aR 3 (bC 2 cZ (aA (vV 3) (aA (vD (e2 dMod (eA (bC 2 bU (aA (vV 0) (aA (vD (eC (.int 3))) aK)))) (eC (.int 2147483647)))) aK)))) sNx)
 (aD (aR 4 (bC 1 eW (aA (vV 3) aK)))
 (aD (sIf (bOr (fG (e1 asB (eA (bC 1 dC (aA (vV 4) aK))))) (bOr (e1 asB (e2 dNe (e1 dLen (e2 dIx (e2 dIx (rV 4) (eC (.int 0))) (eC (.int 0)))) (rV 1))) (e1 asB (e2 dIsnt (eA (bC 3 dR (aA (vV 3) (aA (vV 4) (aA (vD (cS (aA (eC (.int 0)) (aA (eC (.int 0)) aK)))) aK))))) (eC .none))))) (bL (vD (eC (.bool false)))) sNx)
 (aD (sIf (e1 asB (e2 dNe (eA (bC 1 dO (aA (vV 4) aK))) (e1 dLen (e2 dIx (rV 4) (eC (.int 0)))))) (bL (vD (eC (.bool false)))) sNx)
 (bL (vD (k6 (eA (bC 1 cI (aA (vV 4) aK))) (k6 (e2 dEq (eA (bC 1 eW (aA (vV 4) aK))) (rV 4)) (e2 dEq (eA (bC 1 eW (aA (vV 3) aK))) (rV 4)))))))))))))
noncomputable def y0:List A->R A:=fnF 5 yZ
end Mc
namespace Mc
open PySem L2 PyProof.Rows Fl
def top(i:Nat):Stmt:=PySem.Challenge.pw_striproam_k24_least_by_parting.main.body.getD i (.Pass ⟨0,0,0,0⟩)
def dP:ClSt:=clS "least.<locals>.after" ((cO (top 8)).getD 1 (.Pass ⟨0,0,0,0⟩))
def fA:Pos:=aLE ((cO (top 8)).getD 1 (.Pass ⟨0,0,0,0⟩))
def qsT:List (Pos×Str):=[(fA,("least.<locals>.after":Str))]
structure Txt(w:World)(K:Frag)(mg:Str->Option Value):Prop where
 b_bool:mg "bool"=none
 b_enumerate:mg "enumerate"=none
 b_int:mg "int"=none
 b_isinstance:mg "isinstance"=none
 b_len:mg "len"=none
 b_list:mg "list"=none
 b_max:mg "max"=none
 b_min:mg "min"=none
 b_range:mg "range"=none
 b_set:mg "set"=none
 b_tuple:mg "tuple"=none
 b_zip:mg "zip"=none
section
variable{P:Program}{w:World}{K:Frag}{mg:Str->Option Value}{base:Heap}{TH:Hp}
theorem pQ:FnScope ["begin","after","done","found","numbers","rows","row","thing"] ["begin","after","done"] (aM (top 1)):=by constructor<;>first|rfl|decide +kernel
theorem y3(T:Txt w K mg)(D:DefAt K mg "reached" (top 1) ["begin","after","done"]):bB P w K mg base TH 13 "reached" ["begin","after","done"] gY:=
 @eJ P w K mg base TH "reached" (top 1) ["begin","after","done","found","numbers","rows","row","thing"] ["begin","after","done"] 12 nL D pQ (fun f cdv A outer s H F E hr=>by
  have nd:=pQ.nd
  exact (Fl.aE (eH (L2.aH (i:=3) nd rfl (Or.inl rfl) (fC (a9 (bR (pv 0)) bV))))
   (Fl.aE (vY rfl rfl (L2.aH (i:=4) nd rfl (Or.inl rfl) (vW hr.units (tT (bR (pv 0)) aL vX))))
   (Fl.aE (eH (L2.aH (i:=5) nd rfl (Or.inl rfl) (fC bV)))
   (Fl.aE (Fl.eB (L2.eB (cW ⟨rfl,rfl⟩) (PW.pt (Fl.mS (Fl.dI nB jW (aB (cG rfl (aZ bM rfl T.b_len PySem.boot_len (aF (aC (pv 5)) aJ)))) (aB (cG rfl (aZ bM rfl T.b_len PySem.boot_len (aF (aC (pv 3)) aJ)))) (cM _)) (Fl.k8 (Fl.hZ (Fl.fR (aFD (m:=12) rfl rfl rfl (hr.mono (by decide)) (tW (pv 2) (c5 fun _ _ _ h=>h) (tY (aC (pv 3)) (tY (aB (cG rfl (aZ bM rfl T.b_len PySem.boot_len (aF (aC (pv 5)) aJ)))) aFC)))))))))
   (Fl.aE (eH (L2.aH (i:=6) nd rfl (Or.inl rfl) (fC bV)))
   (Fl.aE (Fl.cD (bQ 7) (L2.cD (cW ⟨rfl,rfl⟩) rfl (yB rfl (aH8 (m:=12) rfl rfl rfl (hr.mono (by decide)) (tW (pv 1) (c5 fun _ _ _ h=>h) (a9 (bD (bE rfl) aN (aC (pv 3)) (aB (cG rfl (aZ bM rfl T.b_len PySem.boot_len (aF (aC (pv 5)) aJ))))) bV)))) (bP (i:=7) nd rfl (Or.inl rfl))
   (Fl.aE (Fl.eO (aAI rfl rfl (pX (tP hr.units) (bR (pv 7)) (pv 4) (by with_unfolding_all rfl))) (Fl.aE (Fl.vU rfl rfl (mT (cG rfl (aZ bM rfl T.b_len PySem.boot_len (aF (aC (pv 3)) aJ))) (y9 (pv 4) (bR (pv 7)) (tQ hr.units))))
   (Fl.aO (gG rfl (L2.dZ (h8 PySem.F.plainAttrs_list PySem.F.slot_list_append PySem.F.type_list_append dQ (pv 3) (aF (bR (pv 7)) aJ)))))) Fl.dA)
   (Fl.aO (gG rfl (L2.dZ (h8 PySem.F.plainAttrs_list PySem.F.slot_list_append PySem.F.type_list_append dQ (pv 6) (aF (nY rfl rfl (nX hr.units (pv 4) (bR (pv 7)) (fun _ _=>rfl))) aJ))))))))
   (Fl.aO (gG rfl (L2.dZ (h8 PySem.F.plainAttrs_list PySem.F.slot_list_append PySem.F.type_list_append dQ (pv 5) (aF (eE rfl (cN cE rfl T.b_tuple PyProof.Rows.boot_tuple (aF (aC (pv 6)) aJ))) aJ)))))))))
   (Fl.aO (yA 5 (yA 3 (Fl.cH (a8 (fB (a9 (bR (pv 3)) (a9 (bR (pv 5)) bV)))))))))))))
theorem uV:FnScope ["found","at"] ["found","at"] (aM (top 2)):=by constructor<;>first|rfl|decide +kernel
theorem aDF(T:Txt w K mg)(D:DefAt K mg "never" (top 2) ["found","at"]):bB P w K mg base TH 1 "never" ["found","at"] gZ:=
 @eJ P w K mg base TH "never" (top 2) ["found","at"] ["found","at"] 0 qG D uV (fun f cdv A outer s H F E hr=>by
  have nd:=uV.nd
  exact (Fl.aO (Fl.cH (a8 nU))))
theorem r0:FnScope ["keys","first","room","key"] ["keys"] (aM (top 4)):=by constructor<;>first|rfl|decide +kernel
theorem aBN(T:Txt w K mg)(D:DefAt K mg "firsts" (top 4) ["keys"]):bB P w K mg base TH 1 "firsts" ["keys"] eK:=
 @eJ P w K mg base TH "firsts" (top 4) ["keys","first","room","key"] ["keys"] 0 oQ D r0 (fun f cdv A outer s H F E hr=>by
  have nd:=r0.nd
  exact (Fl.aE (vT rfl (L2.aH (i:=1) nd rfl (Or.inr rfl) vS))
   (Fl.aE (Fl.cD (jZ rfl (c9 (bQ 2) (c9 (bQ 3) iH)) rfl) (L2.cD (cW ⟨rfl,rfl⟩) rfl (wH rfl (L2.wG rfl T.b_enumerate (aF (bR (pv 0)) aJ))) (jS rfl (c6 (bP (i:=2) nd rfl (Or.inl rfl)) (c6 (bP (i:=3) nd rfl (Or.inl rfl)) iD)))
   (Fl.aO (aFU rfl rfl (L2.dZ (aAL PySem.F.plainAttrs_dict PySem.F.slot_dict_setdefault PySem.F.type_dict_setdefault (aAT hr.units) (pv 1) (aF (bR (pv 3)) (aF (bR (pv 2)) aJ))))))))
   (Fl.aO (Fl.cH (a8 (iX (jP (jK (N:=["key","first"]) (js:=[none,some 1]) rfl (.own (.cap rfl (.inl rfl) (.inl rfl) .nil)) (by rfl) (yC rfl (aC (pv 0)))) (by decide) (by decide) (is:=[0]) (fun cl C s0 H0 fp=>⟨_,(bP (i:=0) (show (["key","first"]:List Str).Nodup by decide +kernel) rfl (Or.inl rfl)),(bQ 0),Fl.gT,(nY rfl rfl (nX hr.units (pv 1) (bR (pv 0)) (fun _ _=>rfl)))⟩)))))))))
theorem kR:FnScope ["likes","row"] ["likes","row"] (aM (top 5)):=by constructor<;>first|rfl|decide +kernel
theorem pR(T:Txt w K mg)(D:DefAt K mg "behind_signs" (top 5) ["likes","row"]):bB P w K mg base TH 1 "behind_signs" ["likes","row"] b9:=
 @eJ P w K mg base TH "behind_signs" (top 5) ["likes","row"] ["likes","row"] 0 gA D kR (fun f cdv A outer s H F E hr=>by
  have nd:=kR.nd
  exact (Fl.aO (Fl.cH (a8 (eE rfl (cN cE rfl T.b_tuple PyProof.Rows.boot_tuple (aF (aB (iX (jP (jK (N:=["there","likes"]) (js:=[none,some 0]) rfl (.own (.cap rfl (.inl rfl) (.inl rfl) .nil)) (by rfl) (yC rfl (aC (pv 1)))) (by decide) (by decide) (is:=[0]) (fun cl C s0 H0 fp=>⟨_,(bP (i:=0) (show (["there","likes"]:List Str).Nodup by decide +kernel) rfl (Or.inl rfl)),(bQ 0),Fl.gT,(bD (bE rfl) aN (aC (pv 1)) (aC (pv 0)))⟩)))) aJ)))))))
theorem uW:FnScope ["rows","likes"] ["rows","likes"] (aM (top 6)):=by constructor<;>first|rfl|decide +kernel
theorem aDG(T:Txt w K mg)(D:DefAt K mg "finer" (top 6) ["rows","likes"])(c_firsts:bB P w K mg base TH 1 "firsts" ["keys"] eK)(c_behind_signs:bB P w K mg base TH 1 "behind_signs" ["likes","row"] b9):bB P w K mg base TH 2 "finer" ["rows","likes"] g9:=
 @eJ P w K mg base TH "finer" (top 6) ["rows","likes"] ["rows","likes"] 1 qH D uW (fun f cdv A outer s H F E hr=>by
  have nd:=uW.nd
  exact (Fl.aO (Fl.cH (dH rfl rfl rfl (dG c_firsts (hr.mono (by decide)) rfl (c5 fun _ _ _ h=>h) (aP (a8 (iX (jP (jK (N:=["like","row","likes"]) (js:=[none,none,some 1]) rfl (.own (.own (.cap rfl (.inl rfl) (.inl rfl) .nil))) (by rfl) (aFS rfl (L2.aIE rfl T.b_zip (aF (aC (pv 1)) (aF (aC (pv 0)) aJ))))) (by decide) (by decide) (is:=[0,1]) (fun cl C s0 H0 fp=>⟨_,(jS rfl (c6 (bP (i:=0) (show (["like","row","likes"]:List Str).Nodup by decide +kernel) rfl (Or.inl rfl)) (c6 (bP (i:=1) (show (["like","row","likes"]:List Str).Nodup by decide +kernel) rfl (Or.inl rfl)) iD))),(jZ rfl (c9 (bQ 0) (c9 (bQ 1) iH)) rfl),Fl.gT,(fB (a9 (bR (pv 0)) (a9 (gK (dH rfl rfl rfl (dG c_behind_signs (hr.mono (by decide)) rfl aJU (aP (bO (pv 2)) (aP (bO (pv 1)) cB))))) bV)))⟩)))) cB))))))
theorem lQ:FnScope ["reader","likes","again"] ["reader"] (aM (top 7)):=by constructor<;>first|rfl|decide +kernel
theorem qZ(T:Txt w K mg)(D:DefAt K mg "alike_rooms" (top 7) ["reader"])(c_firsts:bB P w K mg base TH 1 "firsts" ["keys"] eK)(c_finer:bB P w K mg base TH 2 "finer" ["rows","likes"] g9):bB P w K mg base TH 3 "alike_rooms" ["reader"] dS:=
 @eJ P w K mg base TH "alike_rooms" (top 7) ["reader","likes","again"] ["reader"] 2 i9 D lQ (fun f cdv A outer s H F E hr=>by
  have nd:=lQ.nd
  exact (Fl.aE (Fl.aH (L2.aH (i:=1) nd rfl (Or.inl rfl) (dH rfl rfl rfl (dG c_firsts (hr.mono (by decide)) rfl (c5 fun _ _ _ h=>h) (aP (a8 (bD (bE rfl) aN (aC (pv 0)) (aB aL))) cB)))))
   (Fl.aE (Fl.aH (L2.aH (i:=2) nd rfl (Or.inl rfl) (dH rfl rfl rfl (dG c_finer (hr.mono (by decide)) rfl (c5 fun _ _ _ h=>h) (aP (a8 (bD (bE rfl) aN (aC (pv 0)) (aB aL))) (aP (bO (pv 1)) cB))))))
   (Fl.aE (Fl.eB (L2.eB (cW ⟨rfl,rfl⟩) (Fl.dI (nC rfl hr.units) jX (aC (pv 2)) (aC (pv 1)) (cM _))
   (Fl.aE (Fl.aH (L2.aH (i:=1) nd rfl (Or.inl rfl) (bO (pv 2))))
   (Fl.aO (Fl.aH (L2.aH (i:=2) nd rfl (Or.inl rfl) (dH rfl rfl rfl (dG c_finer (hr.mono (by decide)) rfl (c5 fun _ _ _ h=>h) (aP (a8 (bD (bE rfl) aN (aC (pv 0)) (aB aL))) (aP (bO (pv 1)) cB))))))))))
   (Fl.aO (Fl.cH (bO (pv 1))))))))
end
end Mc
namespace Mc
open PySem L2 PyProof.Rows Fl
section
variable{P:Program}{w:World}{K:Frag}{mg:Str->Option Value}{base:Heap}{TH:Hp}
theorem fP:CloScope ["room","likes","reader"] ["room"] ["likes","reader"] dP.scope:=⟨rfl,rfl,rfl,by decide +kernel,rfl,by decide +kernel,by decide +kernel,by decide +kernel,by decide +kernel⟩
theorem pS:∀ y∈dP.scope.names,y.2=.free->(aM (top 8)).names.lookup y.1=some .cell\/(aM (top 8)).names.lookup y.1=some .free:=by decide +kernel
theorem o0:(fA,("least.<locals>.after":Str))∈qsT:=(.head _)
theorem pT:∀ p∈qsT,p.1.line=fA.line->p.1.col=fA.col->p.2=("least.<locals>.after":Str):=by decide +kernel
theorem o3(T:Txt w K mg)(c_behind_signs:bB P w K mg base TH 1 "behind_signs" ["likes","row"] b9):CloOk P w K mg base TH dP ["likes","reader"] 2 1 (oI 3 dN):=
 @aIA P w K mg base TH dP ["room","likes","reader"] ["room"] ["likes","reader"] 1 _ dN rfl fP (fun _ _ _ _ _=>Mc.bn1 fun _=>rfl) (fun f cc cl A outer s H F E E' hr=>by
  have nd:=fP.nd
  exact (Fl.aO (Fl.cH (dH rfl rfl rfl (dG c_behind_signs (hr.mono (by decide)) rfl (c5 fun _ _ _ h=>h) (aP (bO (pv 1)) (aP (a8 (bD (bE rfl) aN (aB (bD (bE rfl) aN (aC (pv 2)) (aB aL))) (aC (pv 0)))) cB)))))))
theorem uX:FnScope ["reader","likes","after","search"] ["reader"] (aM (top 8)):=by constructor<;>first|rfl|decide +kernel
theorem aDH(T:Txt w K mg)(D:DefAtT K mg base TH qsT "least" (top 8) ["reader"])(c_alike_rooms:bB P w K mg base TH 3 "alike_rooms" ["reader"] dS)(c_behind_signs:bB P w K mg base TH 1 "behind_signs" ["likes","row"] b9)(c_reached:bB P w K mg base TH 13 "reached" ["begin","after","done"] gY)(c_never:bB P w K mg base TH 1 "never" ["found","at"] gZ):bB P w K mg base TH 14 "least" ["reader"] eW:=
 @aFO P w K mg base TH "least" (top 8) ["reader","likes","after","search"] ["reader"] 13 qsT (fun q=>[(("least.<locals>.after":Str),dP)].lookup q) qI D uX (fun f c0 P0 A outer s H F E hTb hTP hr=>by
  have nd:=uX.nd
  exact (Fl.aE (Fl.aH (L2.aH (i:=1) nd rfl (Or.inr rfl) (dH rfl rfl rfl (dG c_alike_rooms (hr.mono (by decide)) rfl (c5 fun _ _ _ h=>h) (aP (bO (pv 0)) cB)))))
   (Fl.aE (aFJ (S:=dP) rfl rfl hTP (L2.aHS rfl hTb rfl o0 pT pS rfl rfl rfl nd rfl (Or.inl rfl)))
   (Fl.aE (Fl.aH (L2.aH (i:=3) nd rfl (Or.inl rfl) (aIB (js:=[1,0]) rfl rfl rfl rfl rfl rfl rfl (wC ⟨_,rfl,rfl,rfl⟩ (wC ⟨_,rfl,rfl,rfl⟩ aIC)) (L2.aHT c_reached (hr.mono (by decide)) rfl (c5 fun _ _ _ h=>h) (oJ (aD3 (a8 (bD (bE rfl) aN (aC (pv 1)) (aB aL)))) (oJ (aFK (S:=dP) rfl (o3 T c_behind_signs) (fun y hy=>fP.only (y,.free) hy rfl) (fun y hy=>PySem.mem_of_lookup (fP.cap y hy)) rfl (by decide) (pv 2)) (oJ (aD3 (aFN (k:=1) (x:="never") (ps:=["found","at"]) (G:=gZ) rfl c_never rfl)) aFL)))))))
   (Fl.aO (Fl.cH (a8 (fB (a9 (eE rfl (cN cE rfl T.b_tuple PyProof.Rows.boot_tuple (aF (aB (bD (bE rfl) aN (aC (pv 3)) (aB aL))) aJ))) (a9 (eE rfl (cN cE rfl T.b_tuple PyProof.Rows.boot_tuple (aF (aB (iX (jP (jK (N:=["room","reader"]) (js:=[none,some 0]) rfl (.own (.cap rfl (.inl rfl) (.inl rfl) .nil)) (by rfl) (yC rfl (aB (bD (bE rfl) aN (aC (pv 3)) (aB aL))))) (by decide) (by decide) (is:=[0]) (fun cl C s0 H0 fp=>⟨_,(bP (i:=0) (show (["room","reader"]:List Str).Nodup by decide +kernel) rfl (Or.inl rfl)),(bQ 0),Fl.gT,(bD (bE rfl) aN (aB (bD (bE rfl) aN (aC (pv 1)) (aB aL))) (aC (pv 0)))⟩)))) aJ))) bV))))))))))
theorem nO:FnScope ["_law_script","_law_k","_law_cell_here","_law_mixed"] ["_law_script","_law_k"] (aM (top 10)):=by constructor<;>first|rfl|decide +kernel
theorem uY(T:Txt w K mg)(D:DefAt K mg "_law_cell" (top 10) ["_law_script","_law_k"]):bB P w K mg base TH 1 "_law_cell" ["_law_script","_law_k"] bU:=
 @eJ P w K mg base TH "_law_cell" (top 10) ["_law_script","_law_k","_law_cell_here","_law_mixed"] ["_law_script","_law_k"] 0 iS D nO (fun f cdv A outer s H F E hr=>by
  have nd:=nO.nd
  exact (Fl.aE (Fl.aH (L2.aH (i:=2) nd rfl (Or.inl rfl) (a8 aL)))
   (Fl.aE (Fl.eO (Fl.dI z9 tK (aB (cG rfl (aZ bM rfl T.b_len PySem.boot_len (aF (aC (pv 0)) aJ)))) (aB aL) (cM _)) (Fl.aO (Fl.aH (L2.aH (i:=2) nd rfl (Or.inl rfl) (a8 (bD (bE rfl) aN (aC (pv 0)) (aB (aW cX cA (aC (pv 1)) (aB (cG rfl (aZ bM rfl T.b_len PySem.boot_len (aF (aC (pv 0)) aJ))))))))))) Fl.dA)
   (Fl.aE (Fl.aH (L2.aH (i:=3) nd rfl (Or.inl rfl) (a8 (aW cX cA (aB (aW jN gX (aB (aW (cP rfl) bZ (aB (aW (cP rfl) bZ (aB (aW cX cA (aC (pv 2)) (aB aL))) (aB (aW jN gX (aB aL) (aC (pv 1)))))) (aB aL))) (aB aL))) (aB aL)))))
   (Fl.aO (Fl.cH (a8 (aW (cP rfl) bZ (aB (aW jN gX (aB (aW lE iY (aC (pv 2)) (aB aL))) (aB aL))) (aB (aW cX cA (aB (aW (cP rfl) bZ (aB (aW jN gX (aC (pv 3)) (aB aL))) (aB (aW jN gX (aB aL) (aC (pv 1)))))) (aB aL)))))))))))
theorem lR:FnScope ["_law_script","_law_at","_law_rooms","_law_signs","_law_words","_law_rows","_law_told","_law_room","_law_digits","_law_number","_law_row","_law_k"] ["_law_script","_law_at","_law_rooms","_law_signs","_law_words"] (aM (top 11)):=by constructor<;>first|rfl|decide +kernel
theorem q0(T:Txt w K mg)(D:DefAt K mg "_law_oneway" (top 11) ["_law_script","_law_at","_law_rooms","_law_signs","_law_words"])(c__law_cell:bB P w K mg base TH 1 "_law_cell" ["_law_script","_law_k"] bU):bB P w K mg base TH 2 "_law_oneway" ["_law_script","_law_at","_law_rooms","_law_signs","_law_words"] dU:=
 @eJ P w K mg base TH "_law_oneway" (top 11) ["_law_script","_law_at","_law_rooms","_law_signs","_law_words","_law_rows","_law_told","_law_room","_law_digits","_law_number","_law_row","_law_k"] ["_law_script","_law_at","_law_rooms","_law_signs","_law_words"] 1 jA D lR (fun f cdv A outer s H F E hr=>by
  have nd:=lR.nd
  exact (Fl.aE (eH (L2.aH (i:=5) nd rfl (Or.inl rfl) (fC bV)))
   (Fl.aE (eH (L2.aH (i:=6) nd rfl (Or.inl rfl) (fC bV)))
   (Fl.aE (Fl.cD (bQ 7) (L2.cD (cW ⟨rfl,rfl⟩) rfl (jO (gS rfl T.b_range (aF (aC (pv 2)) aJ))) (bP (i:=7) nd rfl (Or.inl rfl))
   (Fl.aE (Fl.aH (L2.aH (i:=8) nd rfl (Or.inl rfl) (a8 (pE (lC nB jW (aB (aW (cP rfl) bZ (aC (pv 1)) (aC (pv 7)))) (aB (cG rfl (aZ bM rfl T.b_len PySem.boot_len (aF (aC (pv 0)) aJ)))) (cM _)) (tM (lC (jY rfl hr.units) gN (aB (aW cX cA (aB (bD (bE rfl) aN (aC (pv 0)) (aB aL))) (aB aL))) (aB aL) (cM _)))))))
   (Fl.aE (Fl.aH (L2.aH (i:=9) nd rfl (Or.inl rfl) (a8 (aW cX cA (aB (gK (dH rfl rfl rfl (dG c__law_cell (hr.mono (by decide)) rfl (c5 fun _ _ _ h=>h) (aP (bO (pv 0)) (aP (a8 (aW (cP rfl) bZ (aC (pv 1)) (aC (pv 7)))) cB)))))) (aB aL)))))
   (Fl.aE (Fl.eO (Fl.fR (bR (pv 8))) (Fl.aO (Fl.aH (L2.aH (i:=9) nd rfl (Or.inl rfl) (a8 (bD (bE rfl) aN (aC (pv 0)) (aB (aW (cP rfl) bZ (aC (pv 1)) (aC (pv 7))))))))) Fl.dA)
   (Fl.aE (eH (L2.aH (i:=10) nd rfl (Or.inl rfl) (fC bV)))
   (Fl.aE (Fl.cD (bQ 11) (L2.cD (cW ⟨rfl,rfl⟩) rfl (jO (gS rfl T.b_range (aF (aC (pv 3)) aJ))) (bP (i:=11) nd rfl (Or.inl rfl))
   (Fl.aE (Fl.eO (Fl.hZ (Fl.fR (bR (pv 8)))) (Fl.aO (Fl.aH (L2.aH (i:=9) nd rfl (Or.inl rfl) (a8 (aW lE iY (aB (aW cX cA (aB (aW (cP rfl) bZ (aB (aW jN gX (aC (pv 9)) (aB aL))) (aB aL))) (aB aL))) (aB aL)))))) Fl.dA)
   (Fl.aE (gG rfl (L2.dZ (h8 PySem.F.plainAttrs_list PySem.F.slot_list_append PySem.F.type_list_append dQ (pv 10) (aF (aW cX cA (aC (pv 9)) (aC (pv 2))) aJ))))
   (Fl.aO (Fl.aH (L2.aH (i:=9) nd rfl (Or.inl rfl) (a8 (aW lE iY (aC (pv 9)) (aC (pv 2)))))))))))
   (Fl.aE (gG rfl (L2.dZ (h8 PySem.F.plainAttrs_list PySem.F.slot_list_append PySem.F.type_list_append dQ (pv 6) (aF (bD (bE rfl) aN (aB (iX (fC (a9 nA (a9 nA (a9 nA bV)))))) (aB (aW cX cA (aC (pv 9)) (aC (pv 4))))) aJ))))
   (Fl.aO (gG rfl (L2.dZ (h8 PySem.F.plainAttrs_list PySem.F.slot_list_append PySem.F.type_list_append dQ (pv 5) (aF (eE rfl (cN cE rfl T.b_tuple PyProof.Rows.boot_tuple (aF (aC (pv 10)) aJ))) aJ)))))))))))))
   (Fl.aO (Fl.cH (a8 (fB (a9 (eE rfl (cN cE rfl T.b_tuple PyProof.Rows.boot_tuple (aF (aC (pv 5)) aJ))) (a9 (eE rfl (cN cE rfl T.b_tuple PyProof.Rows.boot_tuple (aF (aC (pv 6)) aJ))) bV))))))))))
theorem lS:FnScope ["_law_one","_law_two","_law_pair","_law_strips","_law_waiting","_law_at","_law_here","_law_there","_law_k","_law_after"] ["_law_one","_law_two","_law_pair"] (aM (top 12)):=by constructor<;>first|rfl|decide +kernel
theorem q9(T:Txt w K mg)(D:DefAt K mg "_law_firsts" (top 12) ["_law_one","_law_two","_law_pair"]):bB P w K mg base TH 1 "_law_firsts" ["_law_one","_law_two","_law_pair"] jB:=
 @eJ P w K mg base TH "_law_firsts" (top 12) ["_law_one","_law_two","_law_pair","_law_strips","_law_waiting","_law_at","_law_here","_law_there","_law_k","_law_after"] ["_law_one","_law_two","_law_pair"] 0 mQ D lS (fun f cdv A outer s H F E hr=>by
  have nd:=lS.nd
  exact (Fl.aE (vY rfl rfl (L2.aH (i:=3) nd rfl (Or.inl rfl) (vW hr.units (tT (bR (pv 2)) nA vX))))
   (Fl.aE (eH (L2.aH (i:=4) nd rfl (Or.inl rfl) (fC (a9 (bR (pv 2)) bV))))
   (Fl.aE (Fl.aH (L2.aH (i:=5) nd rfl (Or.inl rfl) (a8 aL)))
   (Fl.aE (Fl.eB (L2.eB (cW ⟨rfl,rfl⟩) (Fl.dI nB jW (aC (pv 5)) (aB (cG rfl (aZ bM rfl T.b_len PySem.boot_len (aF (aC (pv 4)) aJ)))) (cM _))
   (Fl.aE (tR (jZ rfl (c9 (bQ 6) (c9 (bQ 7) iH)) rfl) (mT (bD (bE rfl) aN (aC (pv 4)) (aC (pv 5))) (jS rfl (c6 (bP (i:=6) nd rfl (Or.inl rfl)) (c6 (bP (i:=7) nd rfl (Or.inl rfl)) iD)))))
   (Fl.aE (Fl.cD (bQ 8) (L2.cD (cW ⟨rfl,rfl⟩) rfl (jO (gS rfl T.b_range (aF (aB (cG rfl (aZ bM rfl T.b_len PySem.boot_len (aF (aB (bD (bE rfl) aN (aB (bD (bE rfl) aN (aC (pv 0)) (aB aL))) (aC (pv 6)))) aJ)))) aJ))) (bP (i:=8) nd rfl (Or.inl rfl))
   (Fl.aE (Fl.aH (L2.aH (i:=9) nd rfl (Or.inl rfl) (a8 (fB (a9 (bD (bE rfl) aN (aB (bD (bE rfl) aN (aB (bD (bE rfl) aN (aC (pv 0)) (aB aL))) (aC (pv 6)))) (aC (pv 8))) (a9 (bD (bE rfl) aN (aB (bD (bE rfl) aN (aB (bD (bE rfl) aN (aC (pv 1)) (aB aL))) (aC (pv 7)))) (aC (pv 8))) bV))))))
   (Fl.aO (Fl.eO (aAI rfl rfl (pX (tP hr.units) (bR (pv 9)) (pv 3) (by with_unfolding_all rfl))) (Fl.aE (Fl.vU rfl rfl (mT (aW (cP rfl) bZ (aB (nY rfl rfl (nX hr.units (pv 3) (fB (a9 (bR (pv 6)) (a9 (bR (pv 7)) bV))) (fun _ _=>rfl)))) (aB (bD (bE rfl) aN (aB nA) (aC (pv 8))))) (y9 (pv 3) (bR (pv 9)) (tQ hr.units))))
   (Fl.aO (gG rfl (L2.dZ (h8 PySem.F.plainAttrs_list PySem.F.slot_list_append PySem.F.type_list_append dQ (pv 4) (aF (bR (pv 9)) aJ)))))) Fl.dA)))))
   (Fl.aO (Fl.aH (L2.aH (i:=5) nd rfl (Or.inl rfl) (a8 (aW (cP rfl) bZ (aC (pv 5)) (aB aL))))))))))
   (Fl.aO (aIF rfl 3 (Fl.cH (bO (pv 3))))))))))
theorem kS:FnScope ["_law_one","_law_two","_law_pair","_law_strips","_law_found","_law_here","_law_there","_law_strip"] ["_law_one","_law_two","_law_pair"] (aM (top 13)):=by constructor<;>first|rfl|decide +kernel
theorem pU(T:Txt w K mg)(D:DefAt K mg "_law_parting" (top 13) ["_law_one","_law_two","_law_pair"])(c__law_firsts:bB P w K mg base TH 1 "_law_firsts" ["_law_one","_law_two","_law_pair"] jB):bB P w K mg base TH 2 "_law_parting" ["_law_one","_law_two","_law_pair"] dR:=
 @eJ P w K mg base TH "_law_parting" (top 13) ["_law_one","_law_two","_law_pair","_law_strips","_law_found","_law_here","_law_there","_law_strip"] ["_law_one","_law_two","_law_pair"] 1 i4 D kS (fun f cdv A outer s H F E hr=>by
  have nd:=kS.nd
  exact (Fl.aE (Fl.aH (L2.aH (i:=3) nd rfl (Or.inl rfl) (dH rfl rfl rfl (dG c__law_firsts (hr.mono (by decide)) rfl (c5 fun _ _ _ h=>h) (aP (bO (pv 0)) (aP (bO (pv 1)) (aP (bO (pv 2)) cB)))))))
   (Fl.aE (Fl.aH (L2.aH (i:=4) nd rfl (Or.inl rfl) (a8 tJ)))
   (Fl.aE (Fl.cD (jZ rfl (c9 (bQ 5) (c9 (bQ 6) iH)) rfl) (L2.cD (cW ⟨rfl,rfl⟩) rfl (aFZ rfl (pv 3)) (jS rfl (c6 (bP (i:=5) nd rfl (Or.inl rfl)) (c6 (bP (i:=6) nd rfl (Or.inl rfl)) iD)))
   (Fl.aE (Fl.aH (L2.aH (i:=7) nd rfl (Or.inl rfl) (a8 (nY rfl rfl (nX hr.units (pv 3) (fB (a9 (bR (pv 5)) (a9 (bR (pv 6)) bV))) (fun _ _=>rfl))))))
   (Fl.aO (Fl.eO (PW.pt (Fl.mS (Fl.dI (nC rfl hr.units) jX (aB (bD (bE rfl) aN (aB (bD (bE rfl) aN (aC (pv 0)) (aB aL))) (aC (pv 5)))) (aB (bD (bE rfl) aN (aB (bD (bE rfl) aN (aC (pv 1)) (aB aL))) (aC (pv 6)))) (cM _)) (Fl.k8 (PW.pt (Fl.kF (Fl.dI aHX aCA (aC (pv 4)) (aB tJ) (cM _)) (Fl.k9 (Fl.dI (aF0 rfl hr.units) aAW (aB (fB (a9 (cG rfl (aZ bM rfl T.b_len PySem.boot_len (aF (aC (pv 7)) aJ))) (a9 (bR (pv 7)) bV)))) (aB (fB (a9 (cG rfl (aZ bM rfl T.b_len PySem.boot_len (aF (aC (pv 4)) aJ))) (a9 (bR (pv 4)) bV)))) (cM _)))))))) (Fl.aO (Fl.aH (L2.aH (i:=4) nd rfl (Or.inl rfl) (bO (pv 7))))) Fl.dA)))))
   (Fl.aO (Fl.cH (bO (pv 4))))))))
theorem lT:FnScope ["_law_found","_law_row","_law_room"] ["_law_found"] (aM (top 14)):=by constructor<;>first|rfl|decide +kernel
theorem rA(T:Txt w K mg)(D:DefAt K mg "_law_wholes" (top 14) ["_law_found"]):bB P w K mg base TH 1 "_law_wholes" ["_law_found"] dC:=
 @eJ P w K mg base TH "_law_wholes" (top 14) ["_law_found","_law_row","_law_room"] ["_law_found"] 0 gD D lT (fun f cdv A outer s H F E hr=>by
  have nd:=lT.nd
  exact (Fl.aE (Fl.eO (PW.pt (Fl.kF (Fl.hZ (Fl.fR (lF (aZ (iJ rfl (kM _)) rfl T.b_isinstance PyProof.Rows.boot_isinstance (aF (aC (pv 0)) (aF (jJ (v:=.ty "tuple") rfl T.b_tuple PyProof.Rows.boot_tuple rfl) aJ)))))) (Fl.kF (Fl.dI (nC rfl hr.units) jX (aB (cG rfl (aZ bM rfl T.b_len PySem.boot_len (aF (aC (pv 0)) aJ)))) (aB aL) (cM _)) (Fl.k9 (Fl.hZ (Fl.fR (lF (aZ (iJ rfl (kM _)) rfl T.b_isinstance PyProof.Rows.boot_isinstance (aF (aB (bD (bE rfl) aN (aC (pv 0)) (aB aL))) (aF (jJ (v:=.ty "tuple") rfl T.b_tuple PyProof.Rows.boot_tuple rfl) aJ)))))))))) (Fl.aO (Fl.cH (a8 nU))) Fl.dA)
   (Fl.aE (Fl.cD (bQ 1) (L2.cD (cW ⟨rfl,rfl⟩) rfl (yB rfl (bD (bE rfl) aN (aC (pv 0)) (aB aL))) (bP (i:=1) nd rfl (Or.inl rfl))
   (Fl.aE (Fl.eO (Fl.hZ (Fl.fR (lF (aZ (iJ rfl (kM _)) rfl T.b_isinstance PyProof.Rows.boot_isinstance (aF (aC (pv 1)) (aF (jJ (v:=.ty "tuple") rfl T.b_tuple PyProof.Rows.boot_tuple rfl) aJ)))))) (Fl.aO (Fl.cH (a8 nU))) Fl.dA)
   (Fl.aO (Fl.cD (bQ 2) (L2.cD (cW ⟨rfl,rfl⟩) rfl (yB rfl (bR (pv 1))) (bP (i:=2) nd rfl (Or.inl rfl))
   (Fl.aO (Fl.eO (PW.pt (Fl.kF (Fl.hZ (Fl.fR (lF (aZ (iJ rfl (aE8 _)) rfl T.b_isinstance PyProof.Rows.boot_isinstance (aF (aC (pv 2)) (aF (jJ (v:=.ty "int") rfl T.b_int PyProof.Rows.boot_int rfl) aJ)))))) (Fl.k9 (Fl.fR (lF (aZ (iJ rfl (aCE _)) rfl T.b_isinstance PyProof.Rows.boot_isinstance (aF (aC (pv 2)) (aF (jJ (v:=.ty "bool") rfl T.b_bool PyProof.Rows.boot_bool rfl) aJ)))))))) (Fl.aO (Fl.cH (a8 nU))) Fl.dA))))))))
   (Fl.aO (Fl.cH (a8 (pE (lF (aZ (iJ rfl (kM _)) rfl T.b_isinstance PyProof.Rows.boot_isinstance (aF (aB (bD (bE rfl) aN (aC (pv 0)) (aB aL))) (aF (jJ (v:=.ty "tuple") rfl T.b_tuple PyProof.Rows.boot_tuple rfl) aJ)))) (tM (lC (jY rfl hr.units) gN (aB (cG rfl (aZ bM rfl T.b_len PySem.boot_len (aF (aB (bD (bE rfl) aN (aC (pv 0)) (aB aL))) aJ)))) (aB (cG rfl (aZ bM rfl T.b_len PySem.boot_len (aF (aB (bD (bE rfl) aN (aC (pv 0)) (aB aL))) aJ)))) (cM _))))))))))
end
end Mc
namespace Mc
open PySem L2 PyProof.Rows Fl
section
variable{P:Program}{w:World}{K:Frag}{mg:Str->Option Value}{base:Heap}{TH:Hp}
theorem mR:FnScope ["_law_machine","_law_rows","_law_words","_law_kinds_here","_law_many","_law_numbers","_law_fresh","_law_room","_law_kind"] ["_law_machine"] (aM (top 15)):=by constructor<;>first|rfl|decide +kernel
theorem sB(T:Txt w K mg)(D:DefAt K mg "_law_kinds" (top 15) ["_law_machine"]):bB P w K mg base TH 1 "_law_kinds" ["_law_machine"] dO:=
 @eJ P w K mg base TH "_law_kinds" (top 15) ["_law_machine","_law_rows","_law_words","_law_kinds_here","_law_many","_law_numbers","_law_fresh","_law_room","_law_kind"] ["_law_machine"] 0 gR D mR (fun f cdv A outer s H F E hr=>by
  have nd:=mR.nd
  exact (Fl.aE (tR (jZ rfl (c9 (bQ 1) (c9 (bQ 2) iH)) rfl) (mT (bR (pv 0)) (jS rfl (c6 (bP (i:=1) nd rfl (Or.inl rfl)) (c6 (bP (i:=2) nd rfl (Or.inl rfl)) iD)))))
   (Fl.aE (eH (L2.aH (i:=3) nd rfl (Or.inr rfl) (aE6 rfl (cN sO rfl T.b_list PyProof.Rows.boot_list (aF (aC (pv 2)) aJ)))))
   (Fl.aE (Fl.aH (L2.aH (i:=4) nd rfl (Or.inl rfl) (a8 aL)))
   (Fl.aE (Fl.eB (L2.eB (cW ⟨rfl,rfl⟩) (Fl.dI z9 tK (aB (w5 rfl (L2.w4 rfl rfl T.b_len rfl T.b_set (aF (aC (pv 3)) aJ)))) (aC (pv 4)) (cM _))
   (Fl.aE (Fl.aH (L2.aH (i:=4) nd rfl (Or.inl rfl) (a8 (w5 rfl (L2.w4 rfl rfl T.b_len rfl T.b_set (aF (aC (pv 3)) aJ))))))
   (Fl.aE (vT rfl (L2.aH (i:=5) nd rfl (Or.inl rfl) vS))
   (Fl.aE (eH (L2.aH (i:=6) nd rfl (Or.inl rfl) (fC bV)))
   (Fl.aE (Fl.cD (bQ 7) (L2.cD (cW ⟨rfl,rfl⟩) rfl (jO (gS rfl T.b_range (aF (aB (cG rfl (aZ bM rfl T.b_len PySem.boot_len (aF (aC (pv 1)) aJ)))) aJ))) (bP (i:=7) nd rfl (Or.inl rfl))
   (Fl.aE (Fl.aH (L2.aH (i:=8) nd rfl (Or.inl rfl) (a8 (fB (a9 (bD (bE rfl) aN (aC (pv 3)) (aC (pv 7))) (a9 (eE rfl (cN cE rfl T.b_tuple PyProof.Rows.boot_tuple (aF (aB (iX (jP (jK (N:=["_law_after","_law_kinds_here"]) (js:=[none,some 3]) rfl (.own (.cap rfl (.inl rfl) (.inl rfl) .nil)) (by rfl) (yC rfl (aB (bD (bE rfl) aN (aC (pv 1)) (aC (pv 7)))))) (by decide) (by decide) (is:=[0]) (fun cl C s0 H0 fp=>⟨_,(bP (i:=0) (show (["_law_after","_law_kinds_here"]:List Str).Nodup by decide +kernel) rfl (Or.inl rfl)),(bQ 0),Fl.gT,(bD (bE rfl) aN (aC (pv 1)) (aC (pv 0)))⟩)))) aJ))) bV))))))
   (Fl.aO (aBM rfl rfl (L2.dZ (h8 PySem.F.plainAttrs_list PySem.F.slot_list_append PySem.F.type_list_append dQ (pv 6) (aF (aAL PySem.F.plainAttrs_dict PySem.F.slot_dict_setdefault PySem.F.type_dict_setdefault (aAT hr.units) (pv 5) (aF (bR (pv 8)) (aF (aF2 rfl rfl (aZ aAX rfl T.b_len PySem.boot_len (aF (pv 5) aJ))) aJ))) aJ))))))))
   (Fl.aO (yA 6 (Fl.aH (L2.aH (i:=3) nd rfl (Or.inr rfl) (bO (pv 6))))))))))))
   (Fl.aO (Fl.cH (bO (pv 4)))))))))
theorem kT:FnScope ["_law_machine","_law_cell_here","_law_rows","_law_words","_law_half","_law_made","_law_room","_law_row","_law_k","_law_after"] ["_law_machine","_law_cell_here"] (aM (top 16)):=by constructor<;>first|rfl|decide +kernel
theorem pV(T:Txt w K mg)(D:DefAt K mg "_law_doubled" (top 16) ["_law_machine","_law_cell_here"]):bB P w K mg base TH 1 "_law_doubled" ["_law_machine","_law_cell_here"] cZ:=
 @eJ P w K mg base TH "_law_doubled" (top 16) ["_law_machine","_law_cell_here","_law_rows","_law_words","_law_half","_law_made","_law_room","_law_row","_law_k","_law_after"] ["_law_machine","_law_cell_here"] 0 f6 D kT (fun f cdv A outer s H F E hr=>by
  have nd:=kT.nd
  exact (Fl.aE (tR (jZ rfl (c9 (bQ 2) (c9 (bQ 3) iH)) rfl) (mT (bR (pv 0)) (jS rfl (c6 (bP (i:=2) nd rfl (Or.inl rfl)) (c6 (bP (i:=3) nd rfl (Or.inr rfl)) iD)))))
   (Fl.aE (Fl.aH (L2.aH (i:=4) nd rfl (Or.inr rfl) (a8 (aW lE iY (aB (aW (cP rfl) bZ (aB (cG rfl (aZ bM rfl T.b_len PySem.boot_len (aF (aC (pv 2)) aJ)))) (aB aL))) (aB aL)))))
   (Fl.aE (eH (L2.aH (i:=5) nd rfl (Or.inl rfl) (fC bV)))
   (Fl.aE (Fl.cD (bQ 6) (L2.cD (cW ⟨rfl,rfl⟩) rfl (jO (gS rfl T.b_range (aF (aB (cG rfl (aZ bM rfl T.b_len PySem.boot_len (aF (aC (pv 2)) aJ)))) aJ))) (bP (i:=6) nd rfl (Or.inl rfl))
   (Fl.aE (eH (L2.aH (i:=7) nd rfl (Or.inl rfl) (fC bV)))
   (Fl.aE (Fl.cD (jZ rfl (c9 (bQ 8) (c9 (bQ 9) iH)) rfl) (L2.cD (cW ⟨rfl,rfl⟩) rfl (wH rfl (L2.wG rfl T.b_enumerate (aF (bD (bE rfl) aN (aC (pv 2)) (aB (aW cX cA (aC (pv 6)) (aC (pv 4))))) aJ))) (jS rfl (c6 (bP (i:=8) nd rfl (Or.inl rfl)) (c6 (bP (i:=9) nd rfl (Or.inl rfl)) iD)))
   (Fl.aE (Fl.aH (L2.aH (i:=9) nd rfl (Or.inl rfl) (a8 (aW cX cA (aC (pv 9)) (aC (pv 4))))))
   (Fl.aE (Fl.eO (PW.pt (Fl.mS (Fl.dI nB jW (aB (aW (cP rfl) bZ (aC (pv 9)) (aC (pv 4)))) (aB (cG rfl (aZ bM rfl T.b_len PySem.boot_len (aF (aC (pv 2)) aJ)))) (cM _)) (Fl.k8 (Fl.dI (jY rfl hr.units) gN (aB (aW cX cA (aB (aW (cP rfl) bZ (aB (aW lE iY (aC (pv 1)) (aB (aW (cP rfl) bZ (aB aL) (aC (pv 8)))))) (aC (pv 6)))) (aB aL))) (aB aL) (cM _))))) (Fl.aO (Fl.aH (L2.aH (i:=9) nd rfl (Or.inl rfl) (a8 (aW (cP rfl) bZ (aC (pv 9)) (aC (pv 4))))))) Fl.dA)
   (Fl.aO (gG rfl (L2.dZ (h8 PySem.F.plainAttrs_list PySem.F.slot_list_append PySem.F.type_list_append dQ (pv 7) (aF (bR (pv 9)) aJ)))))))))
   (Fl.aO (gG rfl (L2.dZ (h8 PySem.F.plainAttrs_list PySem.F.slot_list_append PySem.F.type_list_append dQ (pv 5) (aF (eE rfl (cN cE rfl T.b_tuple PyProof.Rows.boot_tuple (aF (aC (pv 7)) aJ))) aJ)))))))))
   (Fl.aO (Fl.cH (a8 (fB (a9 (eE rfl (cN cE rfl T.b_tuple PyProof.Rows.boot_tuple (aF (aC (pv 5)) aJ))) (a9 (eE rfl (cN cE rfl T.b_tuple PyProof.Rows.boot_tuple (aF (aB (iX (jP (jK (N:=["_law_room","_law_words","_law_half"]) (js:=[none,some 3,some 4]) rfl (.own (.cap rfl (.inl rfl) (.inl rfl) (.cap rfl (.inl rfl) (.inl rfl) .nil))) (by rfl) (aJ2 (jO (gS rfl T.b_range (aF (aB (cG rfl (aZ bM rfl T.b_len PySem.boot_len (aF (aC (pv 2)) aJ)))) aJ))))) (by decide) (by decide) (is:=[0]) (fun cl C s0 H0 fp=>⟨_,(bP (i:=0) (show (["_law_room","_law_words","_law_half"]:List Str).Nodup by decide +kernel) rfl (Or.inl rfl)),(bQ 0),Fl.gT,(bD (bE rfl) aN (aC (pv 1)) (aB (aW cX cA (aC (pv 0)) (aC (pv 2)))))⟩)))) aJ))) bV)))))))))))
theorem i5:FnScope ["_law_machine","_law_found","_law_at","_law_after"] ["_law_machine"] (aM (top 17)):=by constructor<;>first|rfl|decide +kernel
theorem nQ(T:Txt w K mg)(D:DefAt K mg "_law_as_reached" (top 17) ["_law_machine"]):bB P w K mg base TH 1 "_law_as_reached" ["_law_machine"] cI:=
 @eJ P w K mg base TH "_law_as_reached" (top 17) ["_law_machine","_law_found","_law_at","_law_after"] ["_law_machine"] 0 eY D i5 (fun f cdv A outer s H F E hr=>by
  have nd:=i5.nd
  exact (Fl.aE (eH (L2.aH (i:=1) nd rfl (Or.inl rfl) (fC (a9 aL bV))))
   (Fl.aE (Fl.aH (L2.aH (i:=2) nd rfl (Or.inl rfl) (a8 aL)))
   (Fl.aE (Fl.eB (L2.eB (cW ⟨rfl,rfl⟩) (Fl.dI nB jW (aC (pv 2)) (aB (cG rfl (aZ bM rfl T.b_len PySem.boot_len (aF (aC (pv 1)) aJ)))) (cM _))
   (Fl.aE (Fl.cD (bQ 3) (L2.cD (cW ⟨rfl,rfl⟩) rfl (yB rfl (bD (bE rfl) aN (aB (bD (bE rfl) aN (aC (pv 0)) (aB aL))) (aB (bD (bE rfl) aN (aC (pv 1)) (aC (pv 2)))))) (bP (i:=3) nd rfl (Or.inl rfl))
   (Fl.aO (Fl.eO (Fl.dI (aE5 rfl hr.units) aAB (aC (pv 3)) (aC (pv 1)) (by with_unfolding_all rfl)) (Fl.aO (gG rfl (L2.dZ (h8 PySem.F.plainAttrs_list PySem.F.slot_list_append PySem.F.type_list_append dQ (pv 1) (aF (bR (pv 3)) aJ))))) Fl.dA))))
   (Fl.aO (Fl.aH (L2.aH (i:=2) nd rfl (Or.inl rfl) (a8 (aW (cP rfl) bZ (aC (pv 2)) (aB aL)))))))))
   (Fl.aO (Fl.cH (a8 (lC (jY rfl hr.units) gN (aC (pv 1)) (aB (iX (aCL (cN (r6 rfl) rfl T.b_list PyProof.Rows.boot_list (aF (cN vE rfl T.b_range PyProof.Rows.boot_range (aF (aB (cG rfl (aZ bM rfl T.b_len PySem.boot_len (aF (aB (bD (bE rfl) aN (aC (pv 0)) (aB aL))) aJ)))) aJ)) aJ))))) (cM _)))))))))
theorem aBO:FnScope ["_law_script","_law_signs","_law_rooms","_law_machine","_law_found"] ["_law_script"] (aM (top 18)):=by constructor<;>first|rfl|decide +kernel
theorem aI5(T:Txt w K mg){fL:Addr}{fdL:FuncData}(FL:Fun K "law" "law" (top 18) fL fdL)(c__law_cell:bB P w K mg base TH 1 "_law_cell" ["_law_script","_law_k"] bU)(c__law_oneway:bB P w K mg base TH 2 "_law_oneway" ["_law_script","_law_at","_law_rooms","_law_signs","_law_words"] dU)(c__law_doubled:bB P w K mg base TH 1 "_law_doubled" ["_law_machine","_law_cell_here"] cZ)(c_least:bB P w K mg base TH 14 "least" ["reader"] eW)(c__law_parting:bB P w K mg base TH 2 "_law_parting" ["_law_one","_law_two","_law_pair"] dR)(c__law_wholes:bB P w K mg base TH 1 "_law_wholes" ["_law_found"] dC)(c__law_kinds:bB P w K mg base TH 1 "_law_kinds" ["_law_machine"] dO)(c__law_as_reached:bB P w K mg base TH 1 "_law_as_reached" ["_law_machine"] cI):FnOk P w K mg base (CXe P w) 15 fL fdL ["_law_script"] (spF (gOf P w K mg base TH) K mg 1 y0):=
 @aH1 P w K mg base TH "law" (top 18) ["_law_script","_law_signs","_law_rooms","_law_machine","_law_found"] ["_law_script"] 14 fL fdL yZ FL aBO (fun cdv A outer s H F E hr=>by
  have nd:=aBO.nd
  exact (Fl.aE (Fl.aH (L2.aH (i:=1) nd rfl (Or.inl rfl) (a8 (aW (cP rfl) bZ (aB aL) (aB (aW cX cA (aB (gK (dH rfl rfl rfl (dG c__law_cell (hr.mono (by decide)) rfl (c5 fun _ _ _ h=>h) (aP (bO (pv 0)) (aP (a8 aL) cB)))))) (aB aL)))))))
   (Fl.aE (Fl.aH (L2.aH (i:=2) nd rfl (Or.inl rfl) (a8 (aAJ (G:=j3) (aZ (zD rfl) rfl T.b_max PyProof.Rows.boot_max (aF (aB aL) (aF (aB (aAJ (G:=iK) (aZ (zE rfl) rfl T.b_min PyProof.Rows.boot_min (aF (aB aL) (aF (aB (aW aE4 aAA (aB (cG rfl (aZ bM rfl T.b_len PySem.boot_len (aF (aC (pv 0)) aJ)))) (aB aL))) aJ))))) aJ)))))))
   (Fl.aE (Fl.aH (L2.aH (i:=3) nd rfl (Or.inl rfl) (dH rfl rfl rfl (dG c__law_oneway (hr.mono (by decide)) rfl (c5 fun _ _ _ h=>h) (aP (bO (pv 0)) (aP (a8 aL) (aP (bO (pv 2)) (aP (bO (pv 1)) (aP (a8 (aW (cP rfl) bZ (aB aL) (aB (aW cX cA (aB (gK (dH rfl rfl rfl (dG c__law_cell (hr.mono (by decide)) rfl (c5 fun _ _ _ h=>h) (aP (bO (pv 0)) (aP (a8 aL) cB)))))) (aB aL))))) cB)))))))))
   (Fl.aE (Fl.eO (Fl.dI (jY rfl hr.units) gN (aB (aW cX cA (aB (gK (dH rfl rfl rfl (dG c__law_cell (hr.mono (by decide)) rfl (c5 fun _ _ _ h=>h) (aP (bO (pv 0)) (aP (a8 aL) cB)))))) (aB aL))) (aB aL) (cM _)) (Fl.aO (Fl.aH (L2.aH (i:=3) nd rfl (Or.inl rfl) (dH rfl rfl rfl (dG c__law_doubled (hr.mono (by decide)) rfl (c5 fun _ _ _ h=>h) (aP (bO (pv 3)) (aP (a8 (aW cX cA (aB (gK (dH rfl rfl rfl (dG c__law_cell (hr.mono (by decide)) rfl (c5 fun _ _ _ h=>h) (aP (bO (pv 0)) (aP (a8 aL) cB)))))) (aB aL))) cB))))))) Fl.dA)
   (Fl.aE (Fl.aH (L2.aH (i:=4) nd rfl (Or.inl rfl) (dH rfl rfl rfl (dG c_least (hr.mono (by decide)) rfl (c5 fun _ _ _ h=>h) (aP (bO (pv 3)) cB)))))
   (Fl.aE (Fl.eO (PW.pt (Fl.kF (Fl.hZ (Fl.fR (gK (dH rfl rfl rfl (dG c__law_wholes (hr.mono (by decide)) rfl (c5 fun _ _ _ h=>h) (aP (bO (pv 4)) cB)))))) (Fl.kF (Fl.dI (nC rfl hr.units) jX (aB (cG rfl (aZ bM rfl T.b_len PySem.boot_len (aF (aB (bD (bE rfl) aN (aB (bD (bE rfl) aN (aC (pv 4)) (aB aL))) (aB aL))) aJ)))) (aC (pv 1)) (cM _)) (Fl.k9 (Fl.dI aCB x8 (aB (gK (dH rfl rfl rfl (dG c__law_parting (hr.mono (by decide)) rfl (c5 fun _ _ _ h=>h) (aP (bO (pv 3)) (aP (bO (pv 4)) (aP (a8 (fB (a9 aL (a9 aL bV)))) cB))))))) (aB tJ) (cM _)))))) (Fl.aO (Fl.cH (a8 nU))) Fl.dA)
   (Fl.aE (Fl.eO (Fl.dI (nC rfl hr.units) jX (aB (gK (dH rfl rfl rfl (dG c__law_kinds (hr.mono (by decide)) rfl (c5 fun _ _ _ h=>h) (aP (bO (pv 4)) cB))))) (aB (cG rfl (aZ bM rfl T.b_len PySem.boot_len (aF (aB (bD (bE rfl) aN (aC (pv 4)) (aB aL))) aJ)))) (cM _)) (Fl.aO (Fl.cH (a8 nU))) Fl.dA)
   (Fl.aO (Fl.cH (a8 (pE (gK (dH rfl rfl rfl (dG c__law_as_reached (hr.mono (by decide)) rfl (c5 fun _ _ _ h=>h) (aP (bO (pv 4)) cB)))) (pE (lC (jY rfl hr.units) gN (aB (gK (dH rfl rfl rfl (dG c_least (hr.mono (by decide)) rfl (c5 fun _ _ _ h=>h) (aP (bO (pv 4)) cB))))) (aC (pv 4)) (cM _)) (tM (lC (jY rfl hr.units) gN (aB (gK (dH rfl rfl rfl (dG c_least (hr.mono (by decide)) rfl (c5 fun _ _ _ h=>h) (aP (bO (pv 3)) cB))))) (aC (pv 4)) (cM _))))))))))))))))
end
end Mc
namespace Mc
open PySem L2 PyProof.Rows Fl
section
variable{rows:List (List Nat)}{ws:List Str}{sg:Nat}
theorem aBP{a b:PyData}{k:Key}(h1:fO a=some k)(h2:fO b=some k):a=b:=by
 cases a<;>cases b<;>simp only[fO,Option.some.injEq,reduceCtorEq] at h1 h2<;>subst h1<;>first|(injection h2 with e;rw[e])|cases h2
theorem uZ{κ:Nat->PyData}{key:Nat->Key}:∀ (xs:List Nat),(∀ x∈xs,fO (κ x)=some (key x))->mP (xs.map κ)=some (xs.map key)
 | [],_=>rfl
 | x::t,h=>by
  rw[List.map_cons,List.map_cons,mP,h x List.mem_cons_self,uZ t fun y hy=>h y (List.mem_cons_of_mem _ hy)]
open Classical in
theorem u0{f:Nat->Key}:∀ n:Nat,(Zp.dW [] ((List.range n).map f)).length=(List.range n).countP fun x=>decide (∀ b,b < x->f x≠f b)
 | 0=>rfl
 | n+1=>by
  rw[List.range_succ,List.map_append,List.map_singleton,Zp.oY,List.countP_append,List.countP_singleton]
  have ih:=u0 (f:=f) n
  by_cases h:f n∈Zp.dW [] ((List.range n).map f)
  ·rw[if_pos h,ih]
   have h':=((Zp.kE _ _ _).mp h).resolve_left fun q=>nomatch q
   obtain ⟨b,hb,e⟩:=List.mem_map.mp h'
   rw[if_neg]
   ·rfl
   ·intro q
    exact of_decide_eq_true q b (List.mem_range.mp hb) e.symm
  ·rw[if_neg h,List.length_append,ih,if_pos]
   ·rfl
   ·refine decide_eq_true fun b hb e=>h ?_
    rw[e]
    exact (Zp.kE _ _ _).mpr (.inr (List.mem_map.mpr ⟨b,List.mem_range.mpr hb,rfl⟩))
def kOk(d:PyData):Prop:=(∃ i,d=.int i)\/∃ w,qS w/\d=.str w
theorem kOk.key{d:PyData}(h:kOk d):(fO d).isSome=true:=by
 rcases h with ⟨i,rfl⟩|⟨w,_,rfl⟩<;>rfl
structure Kd(rows:List (List Nat))(ws:List Str)(sg i:Nat)(κ:Nat->PyData):Prop where
 ok:∀ x,x < rows.length->kOk (κ x)
 iff:∀ x y,x < rows.length->y < rows.length->(κ x=κ y↔EqI rows ws sg i x y)
open Classical in
theorem Kd.cnt{i:Nat}{κ:Nat->PyData}(D:Kd rows ws sg i κ)(h:rows.length < 4000):dSetN (.list ((List.range rows.length).map κ))=.ok (.int (nRep rows ws sg i:Nat)):=by
 have hk:mP ((List.range rows.length).map κ)=some ((List.range rows.length).map fun x=>(fO (κ x)).getD (.inl 0)):=uZ _ fun x hx=>by
  have:=(D.ok x (List.mem_range.mp hx)).key
  cases e:fO (κ x) with
  | none=>rw[e] at this;cases this
  | some k=>rfl
 suffices hm:(Zp.dW [] ((List.range rows.length).map fun x=>(fO (κ x)).getD (.inl 0))).length=nRep rows ws sg i by
  unfold dSetN
  dsimp only
  rw[hk]
  dsimp only
  rw[if_pos (by rw[List.length_map,List.length_range];exact h),hm]
 rw[u0]
 unfold nRep
 refine List.countP_congr fun x hx=>?_
 have hx:=List.mem_range.mp hx
 rw[decide_eq_true_iff,decide_eq_true_iff]
 have same:∀ b,b < x->((fO (κ x)).getD (.inl 0)=(fO (κ b)).getD (.inl 0)↔EqI rows ws sg i x b):=fun b hb=>by
  rw[<-D.iff x b hx (by omega)]
  have k1:=(D.ok x hx).key
  have k2:=(D.ok b (by omega)).key
  constructor
  ·intro h
   cases e1:fO (κ x) with
   | none=>rw[e1] at k1;cases k1
   | some a=>
    cases e2:fO (κ b) with
    | none=>rw[e2] at k2;cases k2
    | some c=>
     rw[e1,e2] at h
     have h:a=c:=h
     subst h
     exact aBP e1 e2
  ·intro h;rw[h]
 constructor
 ·intro h b hb e;exact h b hb ((same b hb).mpr e)
 ·intro h b hb e;exact h b hb ((same b hb).mp e)
theorem aDI(M:Rdw rows ws sg):Kd rows ws sg 0 fun x=>.str (ws.getD x ""):=⟨fun x hx=>.inr ⟨_,(M.w hx).1,rfl⟩,fun x y _ _=>by
 rw[uO]
 constructor
 · intro h; injection h
 · intro h; rw [h]⟩
theorem aGP{i:Nat}{κ:Nat->PyData}(hκ:∀ x y,x < rows.length->y < rows.length->(κ x=κ y↔EqI rows ws sg i x y)):Kd rows ws sg i fun x=>.int (nrQ (adA [] ((List.range rows.length).map κ)) (κ x):Int):=⟨fun _ _=>.inl ⟨_,rfl⟩,fun x y hx hy=>by
 rw[<-hκ x y hx hy]
 have mx:κ x∈adA [] ((List.range rows.length).map κ):=iL _ (List.mem_map.mpr ⟨x,List.mem_range.mpr hx,rfl⟩)
 have my:κ y∈adA [] ((List.range rows.length).map κ):=iL _ (List.mem_map.mpr ⟨y,List.mem_range.mpr hy,rfl⟩)
 constructor
 ·intro h
  injection h with h
  have h:nrQ (adA [] ((List.range rows.length).map κ)) (κ x)=nrQ (adA [] ((List.range rows.length).map κ)) (κ y):=by omega
  have a:=j9 mx
  rw[h,j9 my] at a
  exact (Option.some.inj a).symm
 ·intro h;rw[h]⟩
theorem aI6(M:Rdr rows sg){i:Nat}(h:nRep rows ws sg (i+1)<=nRep rows ws sg i){x y:Nat}(hx:x < rows.length)(hy:y < rows.length)(e:EqI rows ws sg i x y):EqA rows ws sg x y:=by
 have eN:lkD rows ws sg i=lkD rows ws sg (i+1):=Classical.byContradiction fun q=>by have:=qV q;omega
 intro w hw
 have:=uM (ws:=ws) M (i:=i) (fun x y hx hy e=>by
  have:=kD.mpr e
  rw[oB eN x hx,oB eN y hy] at this
  exact kD.mp this) w.length hx hy e
 exact this w hw (by omega)
open Classical in
theorem aDJ{i:Nat}(h:∀ x y,x < rows.length->y < rows.length->EqI rows ws sg i x y->x=y):nRep rows ws sg i=rows.length:=by
 unfold nRep
 have:(List.range rows.length).countP (fun x=>decide (jC rows ws sg i x))=(List.range rows.length).length:=List.countP_eq_length.mpr fun x hx=>decide_eq_true fun b hb e=>by
  have hx:=List.mem_range.mp hx
  have:=h x b hx (by omega) e
  omega
 rw[this,List.length_range]
end
end Mc
namespace Mc
open PySem L2 PyProof.Rows Fl
noncomputable def afW(rs:List Rw)(sg:Nat)(x:PyData):List PyData:=(List.range sg).map (aLU rs x)
noncomputable def bfW(rs:List Rw)(sg n:Nat):List PyData:=bfQ (afW rs sg) (aD7 rs []) n
structure ZsOk(rs:List Rw)(sg n:Nat)(zs:List (List Nat)):Prop where
 map:zs.map (aD7 rs)=bfW rs sg n
 ok:∀ z∈zs,sD sg z/\z.length<=n
structure EndW(rs:List Rw)(sg most N:Nat):Prop where
 on:∀ m,m < N->m < (bfW rs sg m).length/\(bfW rs sg m).length<=most
 off:(bfW rs sg N).length<=N\/most < (bfW rs sg N).length
end Mc
namespace Mc
open PySem L2 PyProof.Rows Fl
end Mc
namespace Mc
open PySem L2 PyProof.Rows Fl
noncomputable def owI:Sg->R Fw:=(aD (sIf (fG (e1 asB (eV 8))) (aR 9 (vD (e2 dDiv (e2 dMod (e2 bX (e2 dMul (rV 9) (eC (.int 48271))) (eC (.int 7919))) (eC (.int 2147483647))) (eC (.int 64))))) sNx)
 (aD (dY 10 (e2 dMod (rV 9) (rV 2)))
 (aR 9 (vD (e2 dDiv (rV 9) (rV 2))))))
noncomputable def owR:Sg->R Fw:=(aD (cJ 10 (dD aK))
 (aD (dE (cR (rV 3)) (stN 11) owI)
 (aD (dY 6 (e2 dIx (eL (dD (aA (eC (.str "by")) (aA (eC (.str "out")) (aA (eC (.str "ever")) aK))))) (e2 dMod (rV 9) (rV 4))))
 (dY 5 (e1 dTup (rV 10))))))
noncomputable def owB:Sg->R Fw:=(aD (aR 8 (vD (k6 (e2 dLt (e2 bX (rV 1) (rV 7)) (e1 dLen (rV 0))) (e2 dEq (e2 dMod (e2 dIx (rV 0) (eC (.int 0))) (eC (.int 2))) (eC (.int 1))))))
 (aD (aR 9 (vD (e2 dMod (eA (bC 2 bU (aA (vV 0) (aA (vD (e2 bX (rV 1) (rV 7))) aK)))) (eC (.int 2147483647)))))
 (aD (sIf (e1 asB (eV 8)) (aR 9 (vD (e2 dIx (rV 0) (e2 bX (rV 1) (rV 7))))) sNx) owR)))
theorem aI7:jA=(aD (cJ 5 (dD aK)) (aD (cJ 6 (dD aK)) (aD (dE (cR (rV 2)) (stN 7) owB) (bL (vD (cS (aA (e1 dTup (rV 5)) (aA (e1 dTup (rV 6)) aK)))))))):=id rfl
def iC(js:List Nat):List PyData:=js.map fun j:Nat=>.int (j:Int)
theorem aI8{v m:Int}(h1:1<=m)(h3:m<=3):∃ w:Str,(w="by"\/w="out"\/w="ever")/\dIx (.list [.str "by",.str "out",.str "ever"]) (.int (v % m))=.ok (.str w):=by
 have a:=Int.emod_nonneg v (show m≠0 by omega)
 have b:=Int.emod_lt_of_pos v (show 0 < m by omega)
 rcases (by omega:v % m=0\/v % m=1\/v % m=2) with h|h|h<;>rw[h]
 · exact ⟨"by", .inl rfl, rfl⟩
 · exact ⟨"out", .inr (.inl rfl), rfl⟩
 · exact ⟨"ever", .inr (.inr rfl), rfl⟩
theorem aI9{a b n sg m p q r:Option A}{N SG:Nat}{W:Int}{xs ws:List PyData}{dg:Bool}{num:Int}(hN:1<=N)(hN2:N<=1000)(hn:n=some (.d (.int (N:Int))))(hs:sg=some (.d (.int (SG:Int))))(hm:m=some (.d (.int W)))(w1:1<=W)(w3:W<=3)(s3:SG<=3)(hx:xs.length < 16777216)(hw:ws.length < 16777216) :
  ∃ (js:List Nat) (w:Str) (num':Option A) (q' r':Option A),js.length=SG/\(∀ j∈js,j < N)/\(w="by"\/w="out"\/w="ever") /\
   owR [a,b,n,sg,m,some (.l xs),some (.l ws),p,some (.d (.bool dg)),some (.d (.int num)),q,r]=.ok (.nx [a,b,n,sg,m,some (.l (xs++[aV js])),some (.l (ws++[.str w])),p,some (.d (.bool dg)),num',q',r']):=by
 subst hn hs hm
 have hn0:(0:Int) < (N:Int):=by omega
 have hrg:=i3 (n:=SG) (by omega)
 obtain ⟨ρ',q1,js,v,r',q2,hj,hjs⟩:=eG (fs:=stN 11) (fb:=owI) (d:=fun i:Nat=>PyData.int (i:Int)) (xs:=List.range SG) (ρ:=[a,b,some (.d (.int (N:Int))),some (.d (.int (SG:Int))),some (.d (.int W)),some (.l xs),some (.l ws),p,some (.d (.bool dg)),some (.d (.int num)),some (.l []),r])
  (fun i ρ=>∃ (js:List Nat) (v:Int) (r':Option A),ρ=[a,b,some (.d (.int (N:Int))),some (.d (.int (SG:Int))),some (.d (.int W)),some (.l xs),some (.l ws),p,some (.d (.bool dg)),some (.d (.int v)),some (.l (iC js)),r']/\js.length=i/\∀ j∈js,j < N) ⟨[],num,r,rfl,rfl,fun j hj=>by simp at hj⟩ fun i k ρ hk zz0=>by
  obtain ⟨js,v,r',e,hj,hjs⟩:=zz0
  have hi:i < SG:=by have:=(List.getElem?_eq_some_iff.mp hk).1;simpa using this
  have hjl:js.length < 16777216:=by omega
  have key:∀ y:Int,∃ j:Nat,(y % (N:Int))=(j:Int)/\j < N:=fun y=>⟨(y % (N:Int)).toNat,by have:=Int.emod_nonneg y (show (N:Int)≠0 by omega);omega,by have:=Int.emod_lt_of_pos y hn0;omega⟩
  have hN64:(N:Int) < 18446744073709551616:=by omega
  cases dg with
  | true=>
   obtain ⟨j,e1,e2⟩:=key v
   refine ⟨[a,b,some (.d (.int (N:Int))),some (.d (.int (SG:Int))),some (.d (.int W)),some (.l xs),some (.l ws),p,some (.d (.bool true)),some (.d (.int v)),some (.l (iC js)),some (.d (.int (k:Int)))],_,by rw[e];rfl,.inl ?_,js++[j],v / (N:Int),some (.d (.int (k:Int))),rfl,by simp[hj],fun x hx=>?_⟩
   ·simp[owI,dX hn0,j6 hn0 hN64,hjl,e1,iC]
   ·rcases List.mem_append.mp hx with h|h
    · exact hjs x h
    · rw [List.mem_singleton.mp h]; exact e2
  | false=>
   obtain ⟨j,e1,e2⟩:=key ((v * 48271+7919) % 2147483647 / 64)
   have m1:dMul (.int v) (.int 48271)=.ok (.int (v * 48271)):=t9 (by decide) (by decide)
   have m2:∀ y:Int,dMod (.int y) (.int 2147483647)=.ok (.int (y % 2147483647)):=fun y=>dX (by decide)
   have m3:∀ y:Int,dDiv (.int y) (.int 64)=.ok (.int (y / 64)):=fun y=>j6 (by decide) (by decide)
   refine ⟨[a,b,some (.d (.int (N:Int))),some (.d (.int (SG:Int))),some (.d (.int W)),some (.l xs),some (.l ws),p,some (.d (.bool false)),some (.d (.int v)),some (.l (iC js)),some (.d (.int (k:Int)))],_,by rw[e];rfl,.inl ?_,js++[j],(v * 48271+7919) % 2147483647 / 64 / (N:Int),some (.d (.int (k:Int))),rfl,by simp[hj],fun x hx=>?_⟩
   ·simp[owI,m1,m2,m3,dX hn0,j6 hn0 hN64,hjl,e1,iC]
   ·rcases List.mem_append.mp hx with h|h
    · exact hjs x h
    · rw [List.mem_singleton.mp h]; exact e2
 subst q2
 rw[List.length_range] at hj
 obtain ⟨w,hw1,hw2⟩:=aI8 (v:=v) w1 w3
 have m4:dMod (.int v) (.int W)=.ok (.int (v % W)):=dX (by omega)
 refine ⟨js,w,some (.d (.int v)),some (.l (iC js)),r',hj,hjs,hw1,?_⟩
 simp only[owR,cY,oR,qJ,lH,mJ,R.bind_ok,List.length_nil,List.length_cons,Nat.reduceAdd,Nat.reduceLeDiff,Nat.zero_le,if_true,List.set_cons_zero,List.set_cons_succ,qL,yP,sJ,List.getElem?_cons_zero,List.getElem?_cons_succ,hrg,q1,wI,n8,yN,aD6,yM,m4,hw2,hw,hx,uA]
 rfl
theorem aJA{ns:List Int}{at' W:Int}{n sg:Nat}(hat:0<=at')(h1:1<=n)(h2:n<=1000)(s1:1<=sg)(s3:sg<=3)(w1:1<=W)(w3:W<=3):∃ (rows:List (List Nat)) (ws:List Str),dU [.d (fH ns),.d (.int at'),.d (.int n),.d (.int sg),.d (.int W)]=.ok (.d (rdD rows (ws.map .str)))/\Rdr rows sg/\rows.length=n/\ws.length=n/\∀ w∈ws,w="by"\/w="out"\/w="ever":=by
 have hrg:=i3 (n:=n) (by omega)
 obtain ⟨ρ',q1,rows,ws,u,v,x,y,z,q2,l1,l2,hr,hw⟩:=eG (fs:=stN 7) (fb:=owB) (d:=fun i:Nat=>PyData.int (i:Int)) (xs:=List.range n) (ρ:=[some (.d (fH ns)),some (.d (.int at')),some (.d (.int n)),some (.d (.int sg)),some (.d (.int W)),some (.l []),some (.l []),none,none,none,none,none])
  (fun i ρ=>∃ (rows:List (List Nat)) (ws:List Str) (u v x y z:Option A),ρ=[some (.d (fH ns)),some (.d (.int at')),some (.d (.int n)),some (.d (.int sg)),some (.d (.int W)),some (.l (rows.map aV)),some (.l (ws.map .str)),u,v,x,y,z]/\rows.length=i/\ws.length=i/\(∀ r∈rows,r.length=sg/\∀ j∈r,j < n)/\∀ w∈ws,w="by"\/w="out"\/w="ever")
  ⟨[],[],none,none,none,none,none,rfl,rfl,rfl,fun r hr=>by simp at hr,fun w hw=>by simp at hw⟩ fun i k ρ hk zz0=>by
  obtain ⟨rows,ws,u,v,x,y,z,e,l1,l2,hr,hw⟩:=zz0
  have hi:i < n:=by have:=(List.getElem?_eq_some_iff.mp hk).1;simpa using this
  obtain ⟨c,hc⟩:=nM ns (at'+(k:Int))
  have m2:∀ y:Int,dMod (.int y) (.int 2147483647)=.ok (.int (y % 2147483647)):=fun y=>dX (by decide)
  have mm:∀ y:Int,dMod (.int y) (.int 2)=.ok (.int (y % 2)):=fun y=>dX (by decide)
  have tail:∀ (dg:Bool) (num:Int),∃ ρ2,(owR [some (.d (fH ns)),some (.d (.int at')),some (.d (.int n)),some (.d (.int sg)),some (.d (.int W)),some (.l (rows.map aV)),some (.l (ws.map .str)),some (.d (.int (k:Int))),some (.d (.bool dg)),some (.d (.int num)),y,z]=.ok (.nx ρ2))/\∃ (rows:List (List Nat)) (ws:List Str) (u v x y z:Option A),ρ2=[some (.d (fH ns)),some (.d (.int at')),some (.d (.int n)),some (.d (.int sg)),some (.d (.int W)),some (.l (rows.map aV)),some (.l (ws.map .str)),u,v,x,y,z]/\rows.length=i+1/\ws.length=i+1/\(∀ r∈rows,r.length=sg/\∀ j∈r,j < n)/\∀ w∈ws,w="by"\/w="out"\/w="ever":=fun dg num=>by
   obtain ⟨js,w,a1,a2,a3,b1,b2,b3,b4⟩:=aI9 (a:=some (.d (fH ns))) (b:=some (.d (.int at'))) (p:=some (.d (.int (k:Int)))) (q:=y) (r:=z) (xs:=rows.map aV) (ws:=ws.map .str) (dg:=dg) (num:=num) (W:=W) (SG:=sg) h1 h2 rfl rfl rfl w1 w3 s3 (by simp;omega) (by simp;omega)
   refine ⟨_,b4,rows++[js],ws++[w],some (.d (.int (k:Int))),some (.d (.bool dg)),a1,a2,a3,by simp,by simp[l1],by simp[l2],fun r hr'=>?_,fun w' hw'=>?_⟩
   ·rcases List.mem_append.mp hr' with h|h
    · exact hr r h
    · rw [List.mem_singleton.mp h]; exact ⟨b1, b2⟩
   ·rcases List.mem_append.mp hw' with h|h
    · exact hw w' h
    · rw [List.mem_singleton.mp h]; exact b3
  by_cases c1:at'+(k:Int) < (ns.length:Int)
  ·obtain ⟨w0,hw0⟩:=uD (ns:=ns) (i:=0) (Int.le_refl _) (by omega)
   obtain ⟨wk,hwk⟩:=uD (ns:=ns) (i:=at'+(k:Int)) (by omega) c1
   by_cases c2:w0 % 2=1
   ·obtain ⟨ρ2,t1,t2⟩:=tail true wk
    refine ⟨[some (.d (fH ns)),some (.d (.int at')),some (.d (.int n)),some (.d (.int sg)),some (.d (.int W)),some (.l (rows.map aV)),some (.l (ws.map .str)),some (.d (.int (k:Int))),v,x,y,z],ρ2,by rw[e];rfl,.inl ?_,t2⟩
    rw[<-t1]
    simp[owB,jQ,c1,hw0,mm,c2,lI,hc,m2,hwk]
   ·obtain ⟨ρ2,t1,t2⟩:=tail false (c % 2147483647)
    refine ⟨[some (.d (fH ns)),some (.d (.int at')),some (.d (.int n)),some (.d (.int sg)),some (.d (.int W)),some (.l (rows.map aV)),some (.l (ws.map .str)),some (.d (.int (k:Int))),v,x,y,z],ρ2,by rw[e];rfl,.inl ?_,t2⟩
    rw[<-t1]
    simp[owB,jQ,c1,hw0,mm,c2,lI,hc,m2]
  ·obtain ⟨ρ2,t1,t2⟩:=tail false (c % 2147483647)
   refine ⟨[some (.d (fH ns)),some (.d (.int at')),some (.d (.int n)),some (.d (.int sg)),some (.d (.int W)),some (.l (rows.map aV)),some (.l (ws.map .str)),some (.d (.int (k:Int))),v,x,y,z],ρ2,by rw[e];rfl,.inl ?_,t2⟩
   rw[<-t1]
   simp[owB,jQ,c1,hc,m2]
 subst q2
 rw[List.length_range] at l1 l2
 refine ⟨rows,ws,?_,⟨by omega,by omega,s1,s3,fun r h=>by rw[l1];exact hr r h⟩,l1,l2,hw⟩
 unfold dU
 rw[aI7]
 simp[hrg,q1,rdD]
end Mc
namespace Fl
open PySem L2 PyProof.Rows
@[simp] theorem aKK(i j:Nat)(f g:Sg->R PyData)(ρ:Sg):lP i j f g ρ=match ρ[i]? with
 | some (some (.l xs))=>match ρ[j]? with
  | some (some (.m kvs))=>(f ρ).bind fun k=>(g ρ).bind fun y=>if bS k (kvs.map (·.1))=true/\kvs.length<=16777216/\xs.length < 16777216/\i≠j then
   .ok (.nx ((ρ.set j (some (.m (match bY kvs k with|some _=>kvs|none=>putM kvs k y)))).set i (some (.l (xs++[(bY kvs k).getD y]))))) else .bad
  | _=>.bad
 | _=>.bad:=id rfl
@[simp] theorem aLY(i:Nat)(ρ:Sg):pM i ρ=match ρ[i]? with
 | some (some (.m kvs))=>if kvs.length<=16777216 then .ok (.int (kvs.length:Int)) else .bad
 | some (some (.f kvs))=>if kvs.length<=16777216 then .ok (.int (kvs.length:Int)) else .bad
 | _=>.bad:=id rfl
end Fl
namespace Mc
open PySem L2 PyProof.Rows Fl
section
variable{rows:List (List Nat)}{ws:List Str}{sg:Nat}
noncomputable def kiF:Sg->R Fw:=(aD (aR 8 (vD (cS (aA (e2 dIx (rV 3) (rV 7)) (aA (e1 dTup (eL (f8 [none,some 3] (e1 aT (e2 dIx (rV 1) (rV 7))) (stN 0) iI (e2 dIx (rV 1) (rV 0))))) aK)))))
 (lP 6 5 (eV 8) (pM 5)))
noncomputable def kiT:Sg->R Bool:=(e1 asB (e2 dGt (e1 dSetN (rV 3)) (rV 4)))
noncomputable def kiB:Sg->R Fw:=(aD (aR 4 (vD (e1 dSetN (rV 3))))
 (aD (mC 5)
 (aD (cJ 6 (dD aK))
 (aD (dE (cR (e1 dLen (rV 1))) (stN 7) kiF)
 (sFz 6 (aR 3 (vV 6)))))))
theorem aJB:gR=(aD (mE (stT [(stN 1),(stN 2)]) (eV 0))
 (aD (cJ 3 (e1 dLst (rV 2))) (aD (aR 4 (vD (eC (.int 0)))) (aD (bA kiT kiB) (bL (vV 4)))))):=id rfl
noncomputable def kiρ(rows:List (List Nat))(ws:List Str)(K:Option A)(m:Nat)(u5 u6 u7 u8:Option A):Sg:=[some (.d (rdW rows ws)),some (.d (.tuple (rows.map aV))),some (.d (.tuple (ws.map .str))),K,some (.d (.int (m:Int))),u5,u6,u7,u8]
def IsK(K:Option A)(xs:List PyData):Prop:=K=some (.l xs)\/K=some (.d (.list xs))
def kyK(rows:List (List Nat))(κ:Nat->PyData)(x:Nat):PyData:=.tuple [κ x,.tuple ((rows.getD x []).map κ)]
theorem aGQ(M:Rdr rows sg){κ:Nat->PyData}{i:Nat}(D:Kd rows ws sg i κ){x y:Nat}(hx:x < rows.length)(hy:y < rows.length):kyK rows κ x=kyK rows κ y↔EqI rows ws sg (i+1) x y:=by
 have rx:=M.at hx
 have ry:=M.at hy
 rw[uP M hx hy,<-D.iff x y hx hy]
 have hg:∀ q,q < rows.length->∀ k,k < sg->(rows.getD q [])[k]? = some (stN1 rows q (97+k))/\stN1 rows q (97+k) < rows.length:=fun q hq k hk=>by
  have:=(d0 M hq (c:=97+k) (by unfold eD;exact decide_eq_true (by omega)))
  rw[show 97+k - 97=k by omega] at this
  exact this
 constructor
 ·intro h
  unfold kyK at h
  have h1:κ x=κ y/\(rows.getD x []).map κ=(rows.getD y []).map κ:=by
   injection h with h
   injection h with a b
   injection b with b
   injection b with b
   exact ⟨a,b⟩
  refine ⟨h1.1,fun k hk=>(D.iff _ _ (hg x hx k hk).2 (hg y hy k hk).2).mp ?_⟩
  have:=congrArg (fun l=>l[k]?) h1.2
  simp only[List.getElem?_map,(hg x hx k hk).1,(hg y hy k hk).1,Option.map_some,Option.some.injEq] at this
  exact this
 ·rintro ⟨h1,h2⟩
  unfold kyK
  have:(rows.getD x []).map κ=(rows.getD y []).map κ:=by
   refine List.ext_getElem? fun k=>?_
   rw[List.getElem?_map,List.getElem?_map]
   by_cases hk:k < sg
   ·rw[(hg x hx k hk).1,(hg y hy k hk).1]
    show some _=some _
    rw[(D.iff _ _ (hg x hx k hk).2 (hg y hy k hk).2).mpr (h2 k hk)]
   ·rw[List.getElem?_eq_none (by omega),List.getElem?_eq_none (by omega)]
  rw[h1,this]
theorem kOk.keyD{d:PyData}(h:kOk d):keyD d=true:=by
 rcases h with ⟨i,rfl⟩|⟨w,h,rfl⟩
 ·rfl
 ·show PyData.strOk w=true
  rcases h with rfl|rfl|rfl<;>decide +kernel
theorem kOk.sh{d:PyData}(h:kOk d)(n:Nat):Sh n d:=by
 rcases h with ⟨i,rfl⟩|⟨w,h,rfl⟩
 · exact lA _ _
 · exact zQ _ (by rcases h with rfl | rfl | rfl <;> decide +kernel)
theorem u4:∀ {xs:List PyData},(∀ d∈xs,kOk d)->b7 xs=true
 | [],_=>rfl
 | d::t,h=>by
  have ih:=u4 (xs:=t) fun y hy=>h y (List.mem_cons_of_mem _ hy)
  rw[b7,ih,(h d List.mem_cons_self).keyD];rfl
theorem w6(M:Rdr rows sg){κ:Nat->PyData}(hκ:∀ x,x < rows.length->kOk (κ x)){x:Nat}(hx:x < rows.length):fF (kyK rows κ x)=true:=by
 have hr:=M.at hx
 have hk:b7 ((rows.getD x []).map κ)=true:=u4 fun d hd=>by
  obtain ⟨j,hj,rfl⟩:=List.mem_map.mp hd
  exact hκ j (hr.2.2 j hj)
 have h2:Sh 2 (kyK rows κ x):=iU fun y hy=>by
  rcases List.mem_cons.mp hy with q|q
  ·rw[q];exact (hκ x hx).sh _
  ·rw[List.mem_singleton.mp q]
   exact iU fun z hz=>by
    obtain ⟨j,hj,rfl⟩:=List.mem_map.mp hz
    exact (hκ j (hr.2.2 j hj)).sh _
 have hd:=h2.2
 unfold kyK at hd ⊢
 unfold fF
 rw[Bool.and_eq_true]
 refine ⟨?_,decide_eq_true (by omega)⟩
 show b7 [_,_]=true
 unfold b7 b7
 rw[(hκ x hx).keyD]
 show (true && (b7 ((rows.getD x []).map κ) && b7 []))=true
 rw[hk];rfl
theorem aJC(M:Rdw rows ws sg){κ:Nat->PyData}{i m:Nat}(D:Kd rows ws sg i κ){K:Option A}(hK:IsK K ((List.range rows.length).map κ)){u7 u8:Option A} :
  ∃ u7' u8',gC (stN 7) kiF ((List.range rows.length).map fun x:Nat=>.int (x:Int)) (kiρ rows ws K m (some (.m [])) (some (.l [])) u7 u8)=.ok (.nx (kiρ rows ws K m (some (.m (cV (adA [] ((List.range rows.length).map (kyK rows κ)))))) (some (.l ((List.range rows.length).map fun x=>.int (nrQ (adA [] ((List.range rows.length).map (kyK rows κ))) (kyK rows κ x):Int)))) u7' u8')):=by
 have n2:=M.r.n2
 have s3:=M.r.s3
 have hrK:∀ (m5 m6:Option A) (a b:Option A),rV 3 (kiρ rows ws K m m5 m6 a b)=.ok (.list ((List.range rows.length).map κ)):=fun m5 m6 a b=>by
  rcases hK with rfl|rfl<;>simp[kiρ]
 have hrK2:∀ (a:Option A),rV 1 [a,K]=.ok (.list ((List.range rows.length).map κ)):=fun a=>by
  rcases hK with rfl|rfl<;>simp
 have hIx:∀ x,x < rows.length->dIx (.list ((List.range rows.length).map κ)) (.int (x:Int))=.ok (κ x):=fun x hx=>iR (dB (by rw[List.getElem?_map,List.getElem?_range hx];rfl))
 obtain ⟨ρ',q1,u7',u8',q2⟩:=eG (fs:=stN 7) (fb:=kiF) (d:=fun x:Nat=>PyData.int (x:Int)) (xs:=List.range rows.length) (ρ:=kiρ rows ws K m (some (.m [])) (some (.l [])) u7 u8)
  (fun n ρ=>∃ a b,ρ=kiρ rows ws K m (some (.m (cV (adA [] ((List.range n).map (kyK rows κ)))))) (some (.l ((List.range n).map fun x=>.int (nrQ (adA [] ((List.range n).map (kyK rows κ))) (kyK rows κ x):Int)))) a b) ⟨u7,u8,rfl⟩ fun n x ρ hn zz0=>by
  obtain ⟨a,b,e⟩:=zz0
  have hnl:=(List.getElem?_eq_some_iff.mp hn).1
  rw[List.length_range] at hnl
  rw[List.getElem?_range hnl] at hn
  cases hn
  have hr:=M.r.at hnl
  have i1:=hU (ws:=ws.map .str) M.r hnl
  have i2:=hIx n hnl
  have hd:aT (aV (rows.getD n []))=.ok ((rows.getD n []).map fun j:Nat=>.int (j:Int)):=eM (by rw[List.length_map];omega)
  have hc:=fX (fs:=stN 0) (fe:=e2 dIx (rV 1) (rV 0)) (ρ0:=[none,K]) (d:=fun j:Nat=>.int (j:Int)) (g:=κ) (xs:=rows.getD n []) fun j hj=>⟨[some (.d (.int (j:Int))),K],rfl,by
   have:=hIx j (hr.2.2 j hj)
   have h2:=hrK2 (some (.d (.int (j:Int))))
   rw[n8,h2]
   simp[-List.getD_eq_getElem?_getD,this]⟩
  have hlk:((rows.getD n []).map κ).length<=16777216:=by rw[List.length_map];omega
  rw[List.range_succ,List.map_append,List.map_singleton,uF,List.map_append,List.map_singleton]
  have hmF:∀ x∈(List.range n).map (kyK rows κ),x∈adA [] ((List.range n).map (kyK rows κ)):=fun x hx=>iL _ hx
  have nd:=pO ((List.range n).map (kyK rows κ)) (fs:=[]) List.nodup_nil
  have hlen:=aF9 ((List.range n).map (kyK rows κ)) []
  rw[List.length_map,List.length_range,List.length_nil] at hlen
  have htF:∀ x∈adA [] ((List.range n).map (kyK rows κ)),fF x=true:=fun x hx=>by
   rcases adA_mem _ hx with h|h
   ·cases h
   ·obtain ⟨q,hq,rfl⟩:=List.mem_map.mp h
    exact w6 M.r D.ok (by have:=List.mem_range.mp hq;omega)
  have hrow:(List.range n).map (fun x=>PyData.int (nrQ (adQ (adA [] ((List.range n).map (kyK rows κ))) (kyK rows κ n)) (kyK rows κ x):Int))=(List.range n).map fun x=>PyData.int (nrQ (adA [] ((List.range n).map (kyK rows κ))) (kyK rows κ x):Int):=
   List.map_congr_left fun x hx=>by rw[qP (lL _ _) (hmF _ (List.mem_map.mpr ⟨x,hx,rfl⟩))]
  rw[hrow,e]
  generalize hfr:((List.range n).map fun x=>PyData.int (nrQ (adA [] ((List.range n).map (kyK rows κ))) (kyK rows κ x):Int))=fr
  have hfl:fr.length < 16777216:=by rw[<-hfr,List.length_map,List.length_range];omega
  have hky:=w6 M.r D.ok hnl
  generalize hF:adA [] ((List.range n).map (kyK rows κ))=F at *
  have s1:bS (kyK rows κ n) ((cV F).map (·.1))=true:=by
   rw[j8]
   exact yQ (B:=kyK rows κ n::F) (.inl fun x hx=>by
    rcases List.mem_cons.mp hx with h|h
    ·rw[h];exact hky
    ·exact htF x h) List.mem_cons_self (fun x hx=>List.mem_cons_of_mem _ hx) |> fun h=>by rw[j8] at h;exact h
  have hil:(cV F).length<=16777216:=by rw[qM];omega
  refine ⟨kiρ rows ws K m (some (.m (cV F))) (some (.l fr)) (some (.d (.int (n:Int)))) b,_,by simp[kiρ],.inl ?_,some (.d (.int (n:Int))),some (.d (kyK rows κ n)),rfl⟩
  have hk8:(cS (aA (e2 dIx (rV 3) (rV 7)) (aA (e1 dTup (eL (f8 [none,some 3] (e1 aT (e2 dIx (rV 1) (rV 7))) (stN 0) iI (e2 dIx (rV 1) (rV 0))))) aK))) (kiρ rows ws K m (some (.m (cV F))) (some (.l fr)) (some (.d (.int (n:Int)))) b)=.ok (kyK rows κ n):=by
   have h3:=hrK (some (.m (cV F))) (some (.l fr)) (some (.d (.int (n:Int)))) b
   have hcap:gO [none,some 3] (kiρ rows ws K m (some (.m (cV F))) (some (.l fr)) (some (.d (.int (n:Int)))) b)=[none,K]:=by
    simp[gO,kiρ]
   have h1:rV 1 (kiρ rows ws K m (some (.m (cV F))) (some (.l fr)) (some (.d (.int (n:Int)))) b)=.ok (.tuple (rows.map aV)):=by simp[kiρ]
   have h7:rV 7 (kiρ rows ws K m (some (.m (cV F))) (some (.l fr)) (some (.d (.int (n:Int)))) b)=.ok (.int (n:Int)):=by simp[kiρ]
   simp only[aF3,mJ,n8,h3,h7,R.bind_ok,i2,yN,aD6,aC5,h1,i1,hd,hcap,hc,uA,lH]
   simp[kyK]
  unfold kiF
  rw[cY,qK,yO,hk8]
  by_cases hm:kyK rows κ n∈F
  ·have g:=wN nd hm
   rw[gH hm]
   simp[kiρ,s1,g,hil,hfl]
  ·have g:bY (cV F) (kyK rows κ n)=none:=by
    have:=oU hm
    unfold bW at this
    cases q:bY (cV F) (kyK rows κ n) with
    | none=>rfl
    | some v=>rw[q] at this;cases this
   have a2:=wL hm
   have hnr:nrQ (F++[kyK rows κ n]) (kyK rows κ n)=F.length:=by
    have nd2:(F++[kyK rows κ n]).Nodup:=by
     have:=aA6 (y:=kyK rows κ n) nd
     rw[eX hm] at this;exact this
    exact sK nd2 (j9 (by simp)) (by simp)
   rw[eX hm,hnr]
   have hF2:F.length<=16777216:=by omega
   simp[kiρ,s1,g,a2,hF2,hfl,qM]
 rw[List.length_range] at q2
 exact ⟨u7',u8',by rw[q1,q2]⟩
theorem xA{κ:Nat->PyData}{i m:Nat}(D:Kd rows ws sg i κ)(hn:rows.length < 4000){K:Option A}(hK:IsK K ((List.range rows.length).map κ)){u5 u6 u7 u8:Option A}:kiT (kiρ rows ws K m u5 u6 u7 u8)=.ok (decide (m < nRep rows ws sg i)):=by
 have:=D.cnt hn
 rcases hK with rfl|rfl<;>simp[kiT,kiρ,this]<;>omega
theorem aGR(M:Rdw rows ws sg){κ:Nat->PyData}{i m:Nat}(D:Kd rows ws sg i κ){K:Option A}(hK:IsK K ((List.range rows.length).map κ)){u5 u6 u7 u8:Option A} :
  ∃ κ' v5 v6 v7 v8,Kd rows ws sg (i+1) κ'/\kiB (kiρ rows ws K m u5 u6 u7 u8)=.ok (.nx (kiρ rows ws (some (.d (.list ((List.range rows.length).map κ')))) (nRep rows ws sg i) v5 v6 v7 v8)):=by
 have n2:=M.r.n2
 have hc:=D.cnt (by omega)
 obtain ⟨u7',u8',e⟩:=aJC M (m:=nRep rows ws sg i) D hK (u7:=u7) (u8:=u8)
 have hr:cR (e1 dLen (rV 1)) (kiρ rows ws K (nRep rows ws sg i) (some (.m [])) (some (.l [])) u7 u8)=.ok ((List.range rows.length).map fun x:Nat=>.int (x:Int)):=by
  have:iA 0 (rows.length:Int)=.ok ((List.range rows.length).map fun x:Nat=>.int (x:Int)):=i3 (by omega)
  simp[kiρ,this]
 have h4:dSetN (.list ((List.range rows.length).map κ))=.ok (.int (nRep rows ws sg i:Nat)):=hc
 refine ⟨_,some (.m (cV (adA [] ((List.range rows.length).map (kyK rows κ))))),some (.d (.list ((List.range rows.length).map fun x=>.int (nrQ (adA [] ((List.range rows.length).map (kyK rows κ))) (kyK rows κ x):Int)))),u7',u8',aGP (fun x y hx hy=>aGQ M.r D hx hy),?_⟩
 have hst:(aD (aR 4 (vD (e1 dSetN (rV 3)))) (aD (mC 5) (cJ 6 (dD aK)))) (kiρ rows ws K m u5 u6 u7 u8)=.ok (.nx (kiρ rows ws K (nRep rows ws sg i) (some (.m [])) (some (.l [])) u7 u8)):=by
  rcases hK with rfl|rfl<;>simp[kiρ,h4]
 have hB:kiB (kiρ rows ws K m u5 u6 u7 u8)=(aD (dE (cR (e1 dLen (rV 1))) (stN 7) kiF) (sFz 6 (aR 3 (vV 6)))) (kiρ rows ws K (nRep rows ws sg i) (some (.m [])) (some (.l [])) u7 u8):=by
  rcases hK with rfl|rfl<;>simp[kiB,kiρ,h4]
 rw[hB,cY,qL,hr,R.bind_ok,e,R.bind_ok]
 simp[kiρ]
open Classical in
theorem aJD(M:Rdw rows ws sg)(hp:∀ x y,x < rows.length->y < rows.length->EqA rows ws sg x y->x=y):dO [.d (rdW rows ws)]=.ok (.d (.int (rows.length:Int))):=by
 have n2:=M.r.n2
 have loop:∀ (k i:Nat) (κ:Nat->PyData) (K:Option A) (m:Nat) (u5 u6 u7 u8:Option A),Kd rows ws sg i κ->IsK K ((List.range rows.length).map κ)->rows.length<=m+k->(m=0/\i=0\/∃ j,i=j+1/\m=nRep rows ws sg j)->
   aD (bA kiT kiB) (bL (vV 4)) (kiρ rows ws K m u5 u6 u7 u8)=.ok (.rt (.d (.int (rows.length:Int)))):=by
  intro k
  induction k with
  | zero=>
   intro i κ K m u5 u6 u7 u8 D hK hk hm
   have hT:=xA (m:=m) D (by omega) hK (u5:=u5) (u6:=u6) (u7:=u7) (u8:=u8)
   have hle:=qW (rows:=rows) (ws:=ws) (sg:=sg) i
   rw[decide_eq_false (by omega)] at hT
   rw[cY,fY hT]
   have:m=rows.length:=by
    rcases hm with ⟨h1,_⟩|⟨j,h1,h2⟩
    ·have:=M.r.n1;omega
    ·have:=qW (rows:=rows) (ws:=ws) (sg:=sg) j;omega
   rw[<-this]
   simp[kiρ]
  | succ k ih=>
   intro i κ K m u5 u6 u7 u8 D hK hk hm
   have hT:=xA (m:=m) D (by omega) hK (u5:=u5) (u6:=u6) (u7:=u7) (u8:=u8)
   by_cases h:m < nRep rows ws sg i
   ·rw[decide_eq_true h] at hT
    obtain ⟨κ',v5,v6,v7,v8,D',e⟩:=aGR M (m:=m) D hK (u5:=u5) (u6:=u6) (u7:=u7) (u8:=u8)
    have:=ih (i+1) κ' _ (nRep rows ws sg i) v5 v6 v7 v8 D' (.inr rfl) (by omega) (.inr ⟨i,rfl,rfl⟩)
    rw[cY] at this ⊢
    rw[iZ hT e]
    exact this
   ·rw[decide_eq_false h] at hT
    rw[cY,fY hT]
    have:m=rows.length:=by
     rcases hm with ⟨rfl,rfl⟩|⟨j,rfl,rfl⟩
     ·exfalso
      have hpos:0 < nRep rows ws sg 0:=by
       unfold nRep
       refine List.countP_pos_iff.mpr ⟨0,List.mem_range.mpr M.r.n1,decide_eq_true fun b hb=>by omega⟩
      omega
     ·exact aDJ fun x y hx hy e=>hp x y hx hy (aI6 M.r (by omega) hx hy e)
    rw[<-this]
    simp[kiρ]
 have h0:=loop rows.length 0 (fun x=>.str (ws.getD x "")) (some (.l (ws.map .str))) 0 none none none none (aDI M) (.inl (by
  congr 2
  refine List.ext_getElem? fun j=>?_
  rw[List.getElem?_map,List.getElem?_map]
  by_cases hj:j < rows.length
  ·rw[List.getElem?_range hj]
   have:=M.wl
   show _=some (PyData.str (ws.getD j _))
   rw[List.getElem?_eq_getElem (by omega),List.getD_eq_getElem?_getD,List.getElem?_eq_getElem (by omega)];rfl
  ·have:=M.wl
   rw[List.getElem?_eq_none (by omega),List.getElem?_eq_none (by rw[List.length_range];omega)];rfl)) (by omega) (.inl ⟨rfl,rfl⟩)
 unfold dO
 rw[aJB]
 unfold kiρ at h0
 generalize aD (bA kiT kiB) (bL (vV 4))=W at *
 have e1':rdW rows ws=.tuple [.tuple (rows.map aV),.tuple (ws.map .str)]:=rfl
 have h0:W [some (.d (rdW rows ws)),some (.d (.tuple (rows.map aV))),some (.d (.tuple (ws.map .str))),some (.l (ws.map .str)),some (.d (.int 0)),none,none,none,none]=.ok (.rt (.d (.int (rows.length:Int)))):=h0
 rw[e1'] at h0 ⊢
 simp[h0]
end
end Mc
namespace Mc
open PySem L2 PyProof.Rows Fl
section
variable{rows:List (List Nat)}{ws:List Str}{sg:Nat}
noncomputable def dbI:Sg->R Fw:=(aD (aR 9 (vD (e2 dMod (rV 9) (rV 4))))
 (aD (sIf (kZ (e1 asB (e2 dLt (e2 bX (rV 9) (rV 4)) (e1 dLen (rV 2)))) (e1 asB (e2 dEq (e2 dMod (e2 bX (e2 dDiv (rV 1) (e2 bX (eC (.int 1)) (rV 8))) (rV 6)) (eC (.int 2))) (eC (.int 1))))) (aR 9 (vD (e2 bX (rV 9) (rV 4)))) sNx)
 (dY 7 (eV 9))))
noncomputable def dbF:Sg->R Fw:=(aD (cJ 7 (dD aK))
 (aD (dE (e1 kP (e2 dIx (rV 2) (e2 dMod (rV 6) (rV 4)))) (stT [(stN 8),(stN 9)]) dbI)
 (dY 5 (e1 dTup (rV 7)))))
theorem aJE:f6=(aD (mE (stT [(stN 2),(stN 3)]) (eV 0))
 (aD (aR 4 (vD (e2 dDiv (e2 bX (e1 dLen (rV 2)) (eC (.int 1))) (eC (.int 2)))))
 (aD (cJ 5 (dD aK))
 (aD (dE (cR (e1 dLen (rV 2))) (stN 6) dbF)
 (bL (vD (cS (aA (e1 dTup (rV 5)) (aA (e1 dTup (eL (f8 [none,some 3,some 4] (cR (e1 dLen (rV 2))) (stN 0) iI (e2 dIx (rV 1) (e2 dMod (rV 0) (rV 2)))))) aK))))))))):=id rfl
noncomputable def dbρ(rows:List (List Nat))(ws:List Str)(c:Int)(h:Nat)(X:List PyData)(u6 u7 u8 u9:Option A):Sg:=[some (.d (rdW rows ws)),some (.d (.int c)),some (.d (.tuple (rows.map aV))),some (.d (.tuple (ws.map .str))),some (.d (.int (h:Int))),some (.l X),u6,u7,u8,u9]
theorem aJF(M:Rdw rows ws sg){c:Int}{h x:Nat}{X:List PyData}{u7 u8 u9:Option A}(h1:1<=h)(h2:h<=rows.length)(hX:X.length < 16777216) :
  ∃ (js:List Nat) (v7 v8 v9:Option A),js.length=sg/\(∀ j∈js,j < rows.length)/\dbF (dbρ rows ws c h X (some (.d (.int (x:Int)))) u7 u8 u9)=.ok (.nx (dbρ rows ws c h (X++[aV js]) (some (.d (.int (x:Int)))) v7 v8 v9)):=by
 have n2:=M.r.n2
 have s3:=M.r.s3
 have hx:x % h < rows.length:=by have:=Nat.mod_lt x (show 0 < h by omega);omega
 have hr:=M.r.at hx
 have i1:=hU (ws:=ws.map .str) M.r hx
 have m1:dMod (.int (x:Int)) (.int (h:Int))=.ok (.int ((x % h:Nat):Int)):=by rw[dX (by omega)];rfl
 have hd:aT (aV (rows.getD (x % h) []))=.ok ((rows.getD (x % h) []).map fun j:Nat=>.int (j:Int)):=eM (by rw[List.length_map];omega)
 have hn:kP (aV (rows.getD (x % h) []))=.ok (((rows.getD (x % h) []).zipIdx).map fun p=>PyData.tuple [.int (p.2:Int),.int (p.1:Int)]):=by
  rw[uH hd,List.zipIdx_map,List.map_map]
  rfl
 obtain ⟨ρ',q1,js,v8,v9,q2,hj,hjs⟩:=eG (fs:=stT [(stN 8),(stN 9)]) (fb:=dbI) (d:=fun p:Nat×Nat=>PyData.tuple [.int (p.2:Int),.int (p.1:Int)]) (xs:=(rows.getD (x % h) []).zipIdx) (ρ:=dbρ rows ws c h X (some (.d (.int (x:Int)))) (some (.l [])) u8 u9)
  (fun i ρ=>∃ (js:List Nat) (v8 v9:Option A),ρ=dbρ rows ws c h X (some (.d (.int (x:Int)))) (some (.l (iC js))) v8 v9/\js.length=i/\∀ j∈js,j < rows.length) ⟨[],u8,u9,rfl,rfl,fun j hj=>nomatch hj⟩ fun i p ρ hp zz0=>by
  obtain ⟨js,v8,v9,e,hj,hjs⟩:=zz0
  have hil:=(List.getElem?_eq_some_iff.mp hp).1
  rw[List.length_zipIdx] at hil
  obtain ⟨y,k⟩:=p
  have hjl:js.length < 16777216:=by omega
  have m2:dMod (.int (y:Int)) (.int (h:Int))=.ok (.int ((y % h:Nat):Int)):=by rw[dX (by omega)];rfl
  have hy:y % h < rows.length:=by have:=Nat.mod_lt y (show 0 < h by omega);omega
  have hk:k<=16:=by
   have:=List.mem_of_getElem? hp
   have:=(List.mem_zipIdx this).2.1
   omega
  have d1:dDiv (.int c) (.int (1+(k:Int)))=.ok (.int (c / (1+(k:Int)))):=j6 (by omega) (by omega)
  have m3:∀ z:Int,dMod (.int z) (.int 2)=.ok (.int (z % 2)):=fun z=>dX (by decide)
  generalize ha:y % h=a at *
  have e2i:=lI
  obtain ⟨j,hjr,hev⟩:∃ j:Nat,j < rows.length/\dbI (dbρ rows ws c h X (some (.d (.int (x:Int)))) (some (.l (iC js))) (some (.d (.int (k:Int)))) (some (.d (.int (y:Int)))))=.ok (.nx (dbρ rows ws c h X (some (.d (.int (x:Int)))) (some (.l (iC (js++[j])))) (some (.d (.int (k:Int)))) (some (.d (.int (j:Int)))))):=by
   by_cases c1:(a:Int)+(h:Int) < (rows.length:Int)
   ·by_cases c2:(c / (1+(k:Int))+(x:Int)) % 2=1
    ·refine ⟨a+h,by omega,?_⟩
     simp[dbI,dbρ,m2,d1,m3,e2i,c1,c2,hjl,iC]
    ·refine ⟨a,by omega,?_⟩
     simp[dbI,dbρ,m2,d1,m3,e2i,c1,c2,hjl,iC]
   ·refine ⟨a,by omega,?_⟩
    simp[dbI,dbρ,m2,d1,m3,e2i,c1,hjl,iC]
  refine ⟨dbρ rows ws c h X (some (.d (.int (x:Int)))) (some (.l (iC js))) (some (.d (.int (k:Int)))) (some (.d (.int (y:Int)))),_,by rw[e];rfl,.inl hev,js++[j],_,_,rfl,by simp[hj],fun z hz=>?_⟩
  rcases List.mem_append.mp hz with q|q
  ·exact hjs z q
  ·rw[List.mem_singleton.mp q];exact hjr
 subst q2
 rw[List.length_zipIdx,hr.2.1] at hj
 refine ⟨js,some (.l (iC js)),v8,v9,hj,hjs,?_⟩
 generalize x % h=a at *
 unfold dbρ at q1 ⊢
 simp only[dbF,cY,oR,qJ,lH,R.bind_ok,List.length_nil,Nat.zero_le,if_true,List.set_cons_zero,List.set_cons_succ,qL,yN,n8,sJ,List.getElem?_cons_zero,List.getElem?_cons_succ,m1,i1,hn,q1,wI,uA,hX]
 rfl
theorem aKL(M:Rdw rows ws sg)(c:Int):∃ (rows':List (List Nat)) (ws':List Str),cZ [.d (rdW rows ws),.d (.int c)]=.ok (.d (rdW rows' ws'))/\Rdw rows' ws' sg/\rows'.length=rows.length:=by
 have n1:=M.r.n1
 have n2:=M.r.n2
 obtain ⟨h,hh⟩:∃ h:Nat,h=(rows.length+1) / 2:=⟨_,rfl⟩
 have h1:1<=h:=by omega
 have h2:h<=rows.length:=by omega
 obtain ⟨ρ',q1,rs,v6,v7,v8,v9,q2,hl,hrs⟩:=eG (fs:=stN 6) (fb:=dbF) (d:=fun x:Nat=>PyData.int (x:Int)) (xs:=List.range rows.length) (ρ:=dbρ rows ws c h [] none none none none)
  (fun i ρ=>∃ (rs:List (List Nat)) (v6 v7 v8 v9:Option A),ρ=dbρ rows ws c h (rs.map aV) v6 v7 v8 v9/\rs.length=i/\∀ r∈rs,r.length=sg/\∀ j∈r,j < rows.length) ⟨[],none,none,none,none,rfl,rfl,fun r hr=>nomatch hr⟩ fun i x ρ hx zz0=>by
  obtain ⟨rs,v6,v7,v8,v9,e,hl,hrs⟩:=zz0
  have hil:=(List.getElem?_eq_some_iff.mp hx).1
  rw[List.length_range] at hil
  obtain ⟨js,w7,w8,w9,a1,a2,a3⟩:=aJF M (c:=c) (h:=h) (x:=x) (X:=rs.map aV) (u7:=v7) (u8:=v8) (u9:=v9) h1 h2 (by rw[List.length_map];omega)
  refine ⟨dbρ rows ws c h (rs.map aV) (some (.d (.int (x:Int)))) v7 v8 v9,_,by rw[e];rfl,.inl a3,rs++[js],some (.d (.int (x:Int))),w7,w8,w9,by rw[List.map_append];rfl,by simp[hl],fun r hr=>?_⟩
  rcases List.mem_append.mp hr with q|q
  ·exact hrs r q
  ·rw[List.mem_singleton.mp q];exact ⟨a1,a2⟩
 subst q2
 rw[List.length_range] at hl
 have hwl:=M.wl
 have hwx:∀ x:Nat,∃ w,ws[x % h]? = some w/\qS w:=fun x=>by
  have:x % h < ws.length:=by have:=Nat.mod_lt x (show 0 < h by omega);omega
  exact ⟨ws[x % h],List.getElem?_eq_getElem this,M.ww _ (List.getElem_mem this)⟩
 refine ⟨rs,(List.range rows.length).map fun x=>ws.getD (x % h) "",?_,⟨⟨by omega,by omega,M.r.s1,M.r.s3,fun r hr=>by rw[hl];exact hrs r hr⟩,by rw[List.length_map,List.length_range,hl],fun w hw=>?_⟩,hl⟩
 ·have hrg:=i3 (n:=rows.length) (by omega)
  have d1:dDiv (.int ((rows.length:Int)+1)) (.int 2)=.ok (.int (h:Int)):=by rw[j6 (by decide) (by decide),hh];rfl
  have hc:=fX (fs:=stN 0) (fe:=e2 dIx (rV 1) (e2 dMod (rV 0) (rV 2))) (ρ0:=[none,some (.d (.tuple (ws.map .str))),some (.d (.int (h:Int)))]) (d:=fun x:Nat=>.int (x:Int)) (g:=fun x=>PyData.str (ws.getD (x % h) "")) (xs:=List.range rows.length) fun x hx=>⟨[some (.d (.int (x:Int))),some (.d (.tuple (ws.map .str))),some (.d (.int (h:Int)))],rfl,by
   have m1:dMod (.int (x:Int)) (.int (h:Int))=.ok (.int ((x % h:Nat):Int)):=by rw[dX (by omega)];rfl
   obtain ⟨w,e1,_⟩:=hwx x
   have i1:dIx (.tuple (ws.map .str)) (.int ((x % h:Nat):Int))=.ok (.str (ws.getD (x % h) "")):=kQ (dB (by rw[List.getElem?_map,e1,List.getD_eq_getElem?_getD,e1];rfl))
   generalize x % h=a at *
   simp only[n8,sJ,List.getElem?_cons_zero,List.getElem?_cons_succ,R.bind_ok,m1,i1]⟩
  unfold cZ
  rw[aJE]
  have e1':rdW rows ws=.tuple [.tuple (rows.map aV),.tuple (ws.map .str)]:=rfl
  have hm:rdW rs ((List.range rows.length).map fun x=>ws.getD (x % h) "")=.tuple [.tuple (rs.map aV),.tuple (((List.range rows.length).map fun x=>PyData.str (ws.getD (x % h) "")))]:=by
   unfold rdW rdD
   rw[List.map_map];rfl
  rw[hm]
  generalize ((List.range rows.length).map fun x=>PyData.str (ws.getD (x % h) ""))=Y at *
  unfold dbρ at q1
  rw[e1'] at q1 ⊢
  simp[hrg,d1,q1,gO,hc]
 ·obtain ⟨x,_,rfl⟩:=List.mem_map.mp hw
  obtain ⟨w,e1,e2⟩:=hwx x
  rw[List.getD_eq_getElem?_getD,e1];exact e2
end
end Mc
namespace Mc
open PySem L2 PyProof.Rows Fl
section
variable{rows:List (List Nat)}{ws:List Str}{sg:Nat}{L:List Nat}{N:Nat}
theorem aED(q:Nat):afR rows (.int (q:Int))=(rows.getD q []).map fun j:Nat=>.int (j:Int):=by
 show (rows.getD ((q:Int)).toNat []).map _=_
 rw[show ((q:Int)).toNat=q by omega]
theorem aBQ(T:Lst rows ws L N):(bF rows L N).length=N:=by unfold bF;rw[List.length_map,T.len]
theorem vA(M:Rdr rows sg)(K:Lk rows ws sg L)(T:Lst rows ws L N){n:Nat}(hn:n<=N):bfQ (afR (bF rows L N)) (.int 0) n=(List.range (bfQ (afL rows L) (.int 0) n).length).map fun x:Nat=>.int (x:Int):=by
 obtain ⟨fs,hfs⟩:∃ fs,fs=bfQ (afL rows L) (.int 0) N:=⟨_,rfl⟩
 have hlen:fs.length=N:=by rw[hfs];exact T.len
 have nd:fs.Nodup:=by rw[hfs];exact lM _ _ _
 obtain ⟨ps,e1,e2,hp⟩:=wX (Rl:=fun x y=>∃ i:Nat,i < N/\x=.int (i:Int)/\fs[i]? = some y) (after1:=afR (bF rows L N)) (after2:=afL rows L) (x1:=.int 0) (x2:=.int 0) ⟨0,qY T,rfl,by rw[hfs];exact oV _ _ _⟩
  (fun x y zz0=>by
   obtain ⟨i,hi,ex,ey⟩:=zz0
   refine ⟨(afL rows L y).map fun z=>(.int (nrQ fs z:Int),z),?_,?_,?_⟩
   ·rw[ex,aED,List.map_map]
    have:(bF rows L N).getD i []=(afL rows L y).map (nrQ fs):=by
     unfold bF
     rw[<-hfs,List.getD_eq_getElem?_getD,List.getElem?_map,ey];rfl
    rw[this,List.map_map];rfl
   ·rw[List.map_map]
    conv=>lhs;rw[<-List.map_id (afL rows L y)]
    rfl
   ·intro q hq
    obtain ⟨z,hz,rfl⟩:=List.mem_map.mp hq
    have hzf:z∈fs:=by
     rw[hfs] at ey ⊢
     exact uQ (by rw[T.len];exact Nat.le_refl _) (List.mem_of_getElem? ey) hz
    have hat:=j9 hzf
    exact ⟨nrQ fs z,by have:=(List.getElem?_eq_some_iff.mp hat).1;omega,rfl,hat⟩)
  (fun x y x' y' zz1 zz0=>by
   obtain ⟨i,hi,ex,ey⟩:=zz1
   obtain ⟨i',hi',ex',ey'⟩:=zz0
   rw[ex,ex']
   constructor
   ·intro h
    injection h with h
    have:i=i':=by omega
    subst this
    rw[ey] at ey';exact Option.some.inj ey'
   ·intro h
    subst h
    rw[sK nd ey ey']) n
 rw[e1,e2,List.length_map]
 refine List.ext_getElem? fun j=>?_
 rw[List.getElem?_map,List.getElem?_map]
 by_cases hj:j < ps.length
 ·rw[List.getElem?_range hj,List.getElem?_eq_getElem hj]
  obtain ⟨i,hi,a1,a2⟩:=hp _ (List.getElem_mem hj)
  have hpre:fs[j]? = some (ps[j]).2:=by
   rw[hfs]
   refine kA (iM hn) ?_
   rw[e2,List.getElem?_map,List.getElem?_eq_getElem hj];rfl
  show some (ps[j]).1=some _
  rw[a1,sK nd a2 hpre]
 ·rw[List.getElem?_eq_none (by omega),List.getElem?_eq_none (by rw[List.length_range];omega)];rfl
noncomputable def asF:Sg->R Fw:=(sIf (e1 asB (e2 dNin (rV 3) (rV 1))) (dY 1 (eV 3)) sNx)
noncomputable def asT:Sg->R Bool:=(e1 asB (e2 dLt (rV 2) (e1 dLen (rV 1))))
noncomputable def o4:Sg->R Fw:=(aD (dE (e1 aT (e2 dIx (e2 dIx (rV 0) (eC (.int 0))) (e2 dIx (rV 1) (rV 2)))) (stN 3) asF)
 (aR 2 (vD (e2 bX (rV 2) (eC (.int 1))))))
theorem aJG:eY=(aD (cJ 1 (dD (aA (eC (.int 0)) aK)))
 (aD (aR 2 (vD (eC (.int 0)))) (aD (bA asT o4)
 (bL (vD (e2 dEq (rV 1) (eL (e1 dLR (e1 dLen (e2 dIx (rV 0) (eC (.int 0)))))))))))):=id rfl
theorem aEE{F:List PyData}(h:∀ x∈F,∃ q:Nat,x=.int (q:Int)):Cp (.list F):=by
 refine ⟨?_,Sh.shaped (n:=1) (sh_lst fun x hx=>by obtain ⟨q,rfl⟩:=h x hx;exact lA _ _) (by decide)⟩
 show kB F=true
 induction F with
 | nil=>rfl
 | cons x t ih=>
  obtain ⟨q,rfl⟩:=h x List.mem_cons_self
  show (true && kB t)=true
  rw[ih fun y hy=>h y (List.mem_cons_of_mem _ hy)];rfl
theorem aDK{F:List PyData}(h:∀ x∈F,∃ q:Nat,x=.int (q:Int))(y:Nat):dNin (.int (y:Int)) (.list F)=.ok (.bool (!decide (PyData.int (y:Int)∈F))):=by
 have c:=aEE h
 have:inD (.int (y:Int)) (.list F)=some (decide (PyData.int (y:Int)∈F)):=by
  show (if SeqAt.shaped (.int (y:Int))=true/\SeqAt.shaped (.list F)=true then some (F.any fun z=>PyData.eqv z (.int (y:Int))) else none)=_
  rw[if_pos ⟨iB _,c.sh⟩]
  congr 1
  rw[Bool.eq_iff_iff,List.any_eq_true,decide_eq_true_iff]
  constructor
  ·rintro ⟨x,hx,e⟩
   obtain ⟨q,rfl⟩:=h x hx
   rw[pN,decide_eq_true_iff] at e
   rw[<-e];exact hx
  ·intro hx
   exact ⟨_,hx,by rw[pN];exact decide_eq_true rfl⟩
 unfold dNin
 rw[this]
theorem aBR{m:PyData}{n:Option A}:∀ (ys:List Nat) (F:List PyData) (u:Option A),(∀ x∈F,∃ q:Nat,x=.int (q:Int))->F.length+ys.length < 16777216->
  ∃ u',gC (stN 3) asF (ys.map fun j:Nat=>.int (j:Int)) [some (.d m),some (.l F),n,u]=.ok (.nx [some (.d m),some (.l (adA F (ys.map fun j:Nat=>.int (j:Int)))),n,u'])/\∀ x∈adA F (ys.map fun j:Nat=>PyData.int (j:Int)),∃ q:Nat,x=.int (q:Int)
 | [],F,u,h,_=>⟨u,rfl,h⟩
 | y::t,F,u,h,hl=>by
  have hn:=aDK h y
  have hl':F.length < 16777216:=by simp only[List.length_cons] at hl;omega
  have hb:asF [some (.d m),some (.l F),n,some (.d (.int (y:Int)))]=.ok (.nx [some (.d m),some (.l (adQ F (.int (y:Int)))),n,some (.d (.int (y:Int)))]):=by
   by_cases q:PyData.int (y:Int)∈F
   ·rw[decide_eq_true q] at hn
    rw[gH q]
    simp[asF,hn]
   ·rw[decide_eq_false q] at hn
    rw[eX q]
    simp[asF,hn,hl']
  have h':∀ x∈adQ F (.int (y:Int)),∃ q:Nat,x=.int (q:Int):=fun x hx=>by
   unfold adQ at hx
   split at hx
   ·exact h x hx
   ·rcases List.mem_append.mp hx with z|z
    · exact h x z
    · rw [List.mem_singleton.mp z]; exact ⟨y, rfl⟩
  have hll:=wM F (.int (y:Int))
  obtain ⟨u',e,e2⟩:=aBR (m:=m) (n:=n) t (adQ F (.int (y:Int))) (some (.d (.int (y:Int)))) h' (by simp only[List.length_cons] at hl;omega)
  refine ⟨u',?_,e2⟩
  rw[List.map_cons,gC]
  have hst:stN 3 (.int (y:Int)) [some (.d m),some (.l F),n,u]=some [some (.d m),some (.l F),n,some (.d (.int (y:Int)))]:=rfl
  rw[hst]
  simp only[nF,R.bind_ok,hb]
  exact e
theorem aKM(M:Rdw rows ws sg){N:Nat}(hN:rows.length=N)(hb:∀ n,n<=N->bfQ (afR rows) (.int 0) n=(List.range (bfQ (afR rows) (.int 0) n).length).map fun x:Nat=>.int (x:Int))(on:∀ m,m < N->m < (bfQ (afR rows) (.int 0) m).length)(hl:(bfQ (afR rows) (.int 0) N).length=N) :
  cI [.d (rdW rows ws)]=.ok (.d (.bool true)):=by
 have n2:=M.r.n2
 have s3:=M.r.s3
 have i0:dIx (rdW rows ws) (.int 0)=.ok (.tuple (rows.map aV)):=rfl
 have loop:∀ (k n:Nat) (u:Option A),n+k=N->bA asT o4 [some (.d (rdW rows ws)),some (.l (bfQ (afR rows) (.int 0) n)),some (.d (.int (n:Int))),u]=.ok (.nx [some (.d (rdW rows ws)),some (.l (bfQ (afR rows) (.int 0) N)),some (.d (.int (N:Int))),u])\/∃ u',bA asT o4 [some (.d (rdW rows ws)),some (.l (bfQ (afR rows) (.int 0) n)),some (.d (.int (n:Int))),u]=.ok (.nx [some (.d (rdW rows ws)),some (.l (bfQ (afR rows) (.int 0) N)),some (.d (.int (N:Int))),u']):=by
  intro k
  induction k with
  | zero=>
   intro n u hk
   have:n=N:=by omega
   subst this
   refine .inl (fY ?_)
   simp[asT,hl]
  | succ k ih=>
   intro n u hk
   refine .inr ?_
   have hon:=on n (by omega)
   have hbn:=hb n (by omega)
   have hat:(bfQ (afR rows) (.int 0) n)[n]? = some (.int (n:Int)):=by rw[hbn,List.getElem?_map,List.getElem?_range hon];rfl
   have hT:asT [some (.d (rdW rows ws)),some (.l (bfQ (afR rows) (.int 0) n)),some (.d (.int (n:Int))),u]=.ok true:=by
    simp[asT];exact hon
   have hnr:n < rows.length:=by omega
   have hr:=M.r.at hnr
   have i1:=hU (ws:=ws.map .str) M.r hnr
   have i2:dIx (.list (bfQ (afR rows) (.int 0) n)) (.int (n:Int))=.ok (.int (n:Int)):=iR (dB hat)
   have hd:aT (aV (rows.getD n []))=.ok ((rows.getD n []).map fun j:Nat=>.int (j:Int)):=eM (by rw[List.length_map];omega)
   have hF:∀ x∈bfQ (afR rows) (.int 0) n,∃ q:Nat,x=.int (q:Int):=fun x hx=>by
    rw[hbn] at hx
    obtain ⟨q,_,rfl⟩:=List.mem_map.mp hx
    exact ⟨q,rfl⟩
   have hle:(bfQ (afR rows) (.int 0) n).length<=N:=by rw[<-hl];exact (iM (by omega)).length_le
   obtain ⟨u1,q1,_⟩:=aBR (m:=rdW rows ws) (n:=some (.d (.int (n:Int)))) (rows.getD n []) (bfQ (afR rows) (.int 0) n) u hF (by omega)
   have hs:bfQ (afR rows) (.int 0) (n+1)=adA (bfQ (afR rows) (.int 0) n) ((rows.getD n []).map fun j:Nat=>.int (j:Int)):=by rw[mL hat,aED]
   have hB:o4 [some (.d (rdW rows ws)),some (.l (bfQ (afR rows) (.int 0) n)),some (.d (.int (n:Int))),u]=.ok (.nx [some (.d (rdW rows ws)),some (.l (bfQ (afR rows) (.int 0) (n+1))),some (.d (.int ((n+1:Nat):Int))),u1]):=by
    rw[hs]
    generalize bfQ (afR rows) (.int 0) n=F at *
    generalize rows.getD n []=r at *
    simp[o4,i0,i1,i2,hd,q1]
   rw[iZ hT hB]
   rcases ih (n+1) u1 (by omega) with e|⟨u2,e⟩
   ·exact ⟨_,e⟩
   ·exact ⟨u2,e⟩
 have h0:∃ u',bA asT o4 [some (.d (rdW rows ws)),some (.l (bfQ (afR rows) (.int 0) 0)),some (.d (.int ((0:Nat):Int))),none]=.ok (.nx [some (.d (rdW rows ws)),some (.l (bfQ (afR rows) (.int 0) N)),some (.d (.int (N:Int))),u']):=by
  rcases loop N 0 none (by omega) with e|⟨u,e⟩
  ·exact ⟨_,e⟩
  ·exact ⟨u,e⟩
 obtain ⟨u',h0⟩:=h0
 have h0:bA asT o4 [some (.d (rdW rows ws)),some (.l [.int 0]),some (.d (.int 0)),none]=_:=h0
 have hbN:=hb N (Nat.le_refl _)
 rw[hl] at hbN
 have hc:Cp (.list (bfQ (afR rows) (.int 0) N)):=aEE fun x hx=>by
  rw[hbN] at hx
  obtain ⟨q,_,rfl⟩:=List.mem_map.mp hx
  exact ⟨q,rfl⟩
 have hlr:dLR (.int (N:Int))=.ok (bfQ (afR rows) (.int 0) N):=by
  rw[hbN]
  show (if 0<=(N:Int)/\(N:Int)<=1000000 then R.ok ((List.range ((N:Int)).toNat).map fun i:Nat=>PyData.int (i:Int)) else .bad)=_
  rw[if_pos ⟨by omega,by omega⟩,show ((N:Int)).toNat=N by omega]
 have he:=aA9 hc.sh
 have hln:((rows.map aV).length:Int)=(N:Int):=by rw[List.length_map,hN]
 unfold cI
 rw[aJG]
 simp[h0,i0,hN,hlr,he]
end
end Mc
namespace Mc
open PySem L2 PyProof.Rows Fl
section
variable{rows r1 r2:List (List Nat)}{ws w1 w2:List Str}{sg:Nat}{L:List Nat}{N:Nat}
noncomputable def whI:Sg->R Fw:=(sIf (bOr (fG (e1 asB (e1 (eF "int") (rV 2)))) (e1 asB (e1 (eF "bool") (rV 2)))) (bL (vD (eC (.bool false)))) sNx)
noncomputable def whF:Sg->R Fw:=(aD (sIf (fG (e1 asB (e1 (eF "tuple") (rV 1)))) (bL (vD (eC (.bool false)))) sNx)
 (dE (e1 aT (eV 1)) (stN 2) whI))
theorem aJH:gD=(aD (sIf (bOr (fG (e1 asB (e1 (eF "tuple") (rV 0)))) (bOr (e1 asB (e2 dNe (e1 dLen (rV 0)) (eC (.int 2)))) (fG (e1 asB (e1 (eF "tuple") (e2 dIx (rV 0) (eC (.int 1)))))))) (bL (vD (eC (.bool false)))) sNx)
 (aD (dE (e1 aT (e2 dIx (rV 0) (eC (.int 0)))) (stN 1) whF)
 (bL (vD (k6 (e1 (eF "tuple") (e2 dIx (rV 0) (eC (.int 0)))) (e2 dEq (e1 dLen (e2 dIx (rV 0) (eC (.int 0)))) (e1 dLen (e2 dIx (rV 0) (eC (.int 1)))))))))):=id rfl
theorem aKN(M:Rdw rows ws sg):dC [.d (rdW rows ws)]=.ok (.d (.bool true)):=by
 have n2:=M.r.n2
 have s3:=M.r.s3
 have wl:=M.wl
 have hd:aT (.tuple (rows.map aV))=.ok (rows.map aV):=eM (by rw[List.length_map];omega)
 obtain ⟨ρ',q1,u1,u2,q2⟩:=eG (fs:=stN 1) (fb:=whF) (d:=aV) (xs:=rows) (ρ:=[some (.d (rdW rows ws)),none,none]) (fun _ ρ=>∃ u1 u2,ρ=[some (.d (rdW rows ws)),u1,u2]) ⟨none,none,rfl⟩ fun i r ρ hr zz0=>by
  obtain ⟨u1,u2,e⟩:=zz0
  subst e
  have hrr:=M.r.row r (List.mem_of_getElem? hr)
  have hd2:aT (aV r)=.ok (r.map fun j:Nat=>.int (j:Int)):=eM (by rw[List.length_map];omega)
  obtain ⟨ρ',q1,u2',q2⟩:=eG (fs:=stN 2) (fb:=whI) (d:=fun j:Nat=>PyData.int (j:Int)) (xs:=r) (ρ:=[some (.d (rdW rows ws)),some (.d (aV r)),u2]) (fun _ ρ=>∃ u2,ρ=[some (.d (rdW rows ws)),some (.d (aV r)),u2]) ⟨u2,rfl⟩ fun k j ρ hj zz0=>by
   obtain ⟨u2,e⟩:=zz0
   subst e
   refine ⟨[some (.d (rdW rows ws)),some (.d (aV r)),some (.d (.int (j:Int)))],[some (.d (rdW rows ws)),some (.d (aV r)),some (.d (.int (j:Int)))],rfl,.inl ?_,_,rfl⟩
   simp[whI,gP]
  subst q2
  refine ⟨[some (.d (rdW rows ws)),some (.d (aV r)),u2],[some (.d (rdW rows ws)),some (.d (aV r)),u2'],rfl,.inl ?_,_,_,rfl⟩
  have ht:eF "tuple" (aV r)=.ok (.bool true):=rfl
  simp[whF,ht,hd2,q1]
 subst q2
 have i0:dIx (rdW rows ws) (.int 0)=.ok (.tuple (rows.map aV)):=rfl
 have i1:dIx (rdW rows ws) (.int 1)=.ok (.tuple (ws.map .str)):=rfl
 have t0:eF "tuple" (rdW rows ws)=.ok (.bool true):=rfl
 have l0:dLen (rdW rows ws)=.ok (.int 2):=rfl
 unfold dC
 rw[aJH]
 simp[i0,i1,t0,l0,hd,q1,gP,aA5,lI,wl]
theorem aDL(M1:Rdw r1 w1 sg)(M2:Rdw r2 w2 sg){a b:Nat}(ha:a < r1.length)(hb:b < r2.length)(h:EqX r1 r2 w1 w2 sg a b):yR r1 r2 w1 w2 a b=none:=by
 unfold yR
 rw[Option.map_eq_none_iff,List.find?_eq_none]
 intro p hp hw
 unfold fZ at hp
 have hs:=aGJ (sg:=sg) (after:=afP r1 r2) (x0:=prN a b) (r1.length * r2.length) (fun x hx=>by
  obtain ⟨c,d,hc,hd,rfl⟩:=lN M1.r M2.r ha hb hx
  rw[pP,List.length_map,List.length_zip,(M1.r.at hc).2.1];exact Nat.min_le_left _ _) p hp
 have hr:=aGE (after:=afP r1 r2) (x0:=prN a b) (r1.length * r2.length) p hp
 rw[aBE M1.r M2.r p.2 hs ha hb] at hr
 rw[<-hr,aD9,decide_eq_true_iff] at hw
 exact hw (h p.2 hs)
theorem aJI(M:Rdw rows ws sg):SeqAt.shaped (rdW rows ws)=true:=Sh.shaped (n:=3) (iU fun x hx=>by
 rcases List.mem_cons.mp hx with q|q
 ·rw[q]
  exact iU fun y hy=>by
   obtain ⟨r,_,rfl⟩:=List.mem_map.mp hy
   exact iU fun z hz=>by
    obtain ⟨j,_,rfl⟩:=List.mem_map.mp hz
    exact lA _ _
 ·rw[List.mem_singleton.mp q]
  exact iU fun y hy=>by
   obtain ⟨w,hw,rfl⟩:=List.mem_map.mp hy
   exact zQ _ (by rcases M.ww w hw with rfl|rfl|rfl<;>decide +kernel)) (by decide)
noncomputable def lwR:Sg->R Fw:=(aD (aR 4 (bC 1 eW (aA (vV 3) aK)))
 (aD (sIf (bOr (fG (e1 asB (eA (bC 1 dC (aA (vV 4) aK))))) (bOr (e1 asB (e2 dNe (e1 dLen (e2 dIx (e2 dIx (rV 4) (eC (.int 0))) (eC (.int 0)))) (rV 1))) (e1 asB (e2 dIsnt (eA (bC 3 dR (aA (vV 3) (aA (vV 4) (aA (vD (cS (aA (eC (.int 0)) (aA (eC (.int 0)) aK)))) aK))))) (eC .none))))) (bL (vD (eC (.bool false)))) sNx)
 (aD (sIf (e1 asB (e2 dNe (eA (bC 1 dO (aA (vV 4) aK))) (e1 dLen (e2 dIx (rV 4) (eC (.int 0)))))) (bL (vD (eC (.bool false)))) sNx)
 (bL (vD (k6 (eA (bC 1 cI (aA (vV 4) aK))) (k6 (e2 dEq (eA (bC 1 eW (aA (vV 4) aK))) (rV 4)) (e2 dEq (eA (bC 1 eW (aA (vV 3) aK))) (rV 4)))))))))
theorem aGS:yZ=(aD (aR 1 (vD (e2 bX (eC (.int 1)) (e2 dMod (eA (bC 2 bU (aA (vV 0) (aA (vD (eC (.int 0))) aK)))) (eC (.int 3))))))
 (aD (aR 2 (vD (e2 (d2 j3) (eC (.int 1)) (e2 (d2 iK) (eC (.int 40)) (e2 dSub (e1 dLen (rV 0)) (eC (.int 4)))))))
 (aD (aR 3 (bC 5 dU (aA (vV 0) (aA (vD (eC (.int 4))) (aA (vV 2) (aA (vV 1) (aA (vD (e2 bX (eC (.int 1)) (e2 dMod (eA (bC 2 bU (aA (vV 0) (aA (vD (eC (.int 1))) aK)))) (eC (.int 3))))) aK)))))))
 (aD (sIf (e1 asB (e2 dEq (e2 dMod (eA (bC 2 bU (aA (vV 0) (aA (vD (eC (.int 2))) aK)))) (eC (.int 2))) (eC (.int 1)))) (aR 3 (bC 2 cZ (aA (vV 3) (aA (vD (e2 dMod (eA (bC 2 bU (aA (vV 0) (aA (vD (eC (.int 3))) aK)))) (eC (.int 2147483647)))) aK)))) sNx)
 lwR)))):=id rfl
theorem aBS(M:Rdw rows ws sg)(h40:rows.length<=40){a b:Option A}:lwR [a,some (.d (.int (sg:Int))),b,some (.d (rdW rows ws)),none]=.ok (.rt (.d (.bool true))):=by
 obtain ⟨L,eL,K⟩:=aBH M
 obtain ⟨N,T⟩:=aBI M.r K
 have e1:=aEC M K eL T
 have M2:=aLX M K T
 obtain ⟨L2,eL2,K2⟩:=aBH M2
 obtain ⟨N2,T2⟩:=aBI M2.r K2
 have e2:=aEC M2 K2 eL2 T2
 have says:=mO M K T
 obtain ⟨s1,s2⟩:=(aBK M2 M K2 K T2 T).mpr says
 rw[s1,s2] at e2
 have le:=T.le
 have hlen:=aBQ T
 have hw:=aKN M2
 have hk:=aJD M2 fun x y hx hy e=>uR M K T (by omega) (by omega) e
 have pos:=qY T
 have ha:=aKM M2 hlen (fun n hn=>by
   have:=vA M.r K T hn
   rw[this,List.length_map,List.length_range]) (fun m hm=>by
   rw[vA M.r K T (by omega),List.length_map,List.length_range];exact T.on m hm) (by
   rw[vA M.r K T (Nat.le_refl _),List.length_map,List.length_range];exact T.len)
 have n1:=M.r.n1
 have hmul:rows.length * (bF rows L N).length<=100000:=by
  rw[hlen]
  exact Nat.le_trans (Nat.mul_le_mul h40 (Nat.le_trans le h40)) (by decide)
 have hp:=aIY M M2 hmul (a:=0) (b:=0) (by omega) (by omega)
 rw[aDL M M2 (by omega) (by omega) says.sy] at hp
 have hp:dR [.d (rdW rows ws),.d (rdW (bF rows L N) (cT rows ws L N)),.d (.tuple [.int 0,.int 0])]=.ok (.d .none):=hp
 have hq:=aA9 (aJI M2)
 have h0:(0:Nat) < (bF rows L N).length:=by omega
 have i0:dIx (rdW (bF rows L N) (cT rows ws L N)) (.int 0)=.ok (.tuple ((bF rows L N).map aV)):=rfl
 have i1:=hU (ws:=(cT rows ws L N).map .str) M2.r h0
 have i1:dIx (.tuple ((bF rows L N).map aV)) (.int 0)=.ok (aV ((bF rows L N).getD 0 [])):=i1
 have l1:dLen (aV ((bF rows L N).getD 0 []))=.ok (.int (sg:Int)):=by
  show R.ok (PyData.int (((bF rows L N).getD 0 []).map fun j:Nat=>PyData.int (j:Int)).length)=_
  rw[List.length_map,(M2.r.at h0).2.1]
 generalize bF rows L N=R2 at *
 generalize cT rows ws L N=W2 at *
 simp[-List.getD_eq_getElem?_getD,lwR,e1,e2,hw,hk,ha,hp,hq,i0,i1,l1,aA5,f7]
theorem aDM:∀ ns:List Int,ns.length<=63->y0 [.d (.list (ns.map .int))]=.ok (.d (.bool true)):=by
 intro ns hns
 rw[show PyData.list (ns.map .int)=fH ns from rfl]
 obtain ⟨v0,hv0⟩:=nM ns 0
 obtain ⟨v1,hv1⟩:=nM ns 1
 obtain ⟨v2,hv2⟩:=nM ns 2
 obtain ⟨v3,hv3⟩:=nM ns 3
 have k2:∀ y:Int,dMod (.int y) (.int 2)=.ok (.int (y % 2)):=fun y=>dX (by decide)
 have k3:∀ y:Int,dMod (.int y) (.int 3)=.ok (.int (y % 3)):=fun y=>dX (by decide)
 have k4:∀ y:Int,dMod (.int y) (.int 2147483647)=.ok (.int (y % 2147483647)):=fun y=>dX (by decide)
 obtain ⟨sg,hs,s1,s3⟩:∃ sg:Nat,1+v0 % 3=(sg:Int)/\1<=sg/\sg<=3:=⟨(1+v0 % 3).toNat,by omega,by omega,by omega⟩
 obtain ⟨n,hn,n1,n2,n3⟩:∃ n:Nat,d2 iK (.int 40) (.int ((ns.length:Int) - 4))=.ok (.int (iK 40 ((ns.length:Int) - 4)))/\1<=n/\n<=40/\d2 j3 (.int 1) (.int (iK 40 ((ns.length:Int) - 4)))=.ok (.int (n:Int)):=by
  refine ⟨(j3 1 (iK 40 ((ns.length:Int) - 4))).toNat,rfl,?_,?_,?_⟩
  ·unfold j3 iK;split<;>(try split)<;>omega
  ·unfold j3 iK;split<;>(try split)<;>omega
  ·show R.ok (PyData.int (j3 1 (iK 40 ((ns.length:Int) - 4))))=_
   rw[show j3 1 (iK 40 ((ns.length:Int) - 4))=(((j3 1 (iK 40 ((ns.length:Int) - 4))).toNat:Nat):Int) by unfold j3 iK;split<;>(try split)<;>omega]
   rfl
 have hlen:dLen (fH ns)=.ok (.int (ns.length:Int)):=jQ ns
 obtain ⟨rows,ws,e1,M,l1,l2,hw⟩:=aJA (ns:=ns) (at':=4) (W:=1+v1 % 3) (n:=n) (sg:=sg) (by decide) n1 (by omega) s1 s3 (by omega) (by omega)
 have M':Rdw rows ws sg:=⟨M,by rw[l1,l2],hw⟩
 have e1:dU [.d (fH ns),.d (.int 4),.d (.int (n:Int)),.d (.int (sg:Int)),.d (.int (1+v1 % 3))]=.ok (.d (rdW rows ws)):=e1
 unfold y0
 rw[aGS]
 by_cases c:v2 % 2=1
 ·obtain ⟨rows',ws',e2,M2,l3⟩:=aKL M' (v3 % 2147483647)
  have h:=aBS M2 (by omega) (a:=some (.d (fH ns))) (b:=some (.d (.int (n:Int))))
  simp[hv0,hv1,hv2,hv3,k2,k3,k4,hs,hlen,hn,n3,e1,c,lI,e2,h]
 ·have h:=aBS M' (by omega) (a:=some (.d (fH ns))) (b:=some (.d (.int (n:Int))))
  simp[hv0,hv1,hv2,k2,k3,hs,hlen,hn,n3,e1,c,lI,h]
end
end Mc
namespace Mc
open PySem L2 PyProof.Rows Fl
section
variable{P:Program}{w:World}{K:Frag}{mg:Str->Option Value}{base:Heap}{TH:Hp}
theorem aGT(T:Txt w K mg)(D1:DefAt K mg "reached" (top 1) ["begin","after","done"])(D2:DefAt K mg "never" (top 2) ["found","at"])(D4:DefAt K mg "firsts" (top 4) ["keys"])(D5:DefAt K mg "behind_signs" (top 5) ["likes","row"])(D6:DefAt K mg "finer" (top 6) ["rows","likes"])(D7:DefAt K mg "alike_rooms" (top 7) ["reader"])(D8:DefAtT K mg base TH qsT "least" (top 8) ["reader"])(D10:DefAt K mg "_law_cell" (top 10) ["_law_script","_law_k"])(D11:DefAt K mg "_law_oneway" (top 11) ["_law_script","_law_at","_law_rooms","_law_signs","_law_words"])(D12:DefAt K mg "_law_firsts" (top 12) ["_law_one","_law_two","_law_pair"])(D13:DefAt K mg "_law_parting" (top 13) ["_law_one","_law_two","_law_pair"])(D14:DefAt K mg "_law_wholes" (top 14) ["_law_found"])(D15:DefAt K mg "_law_kinds" (top 15) ["_law_machine"])(D16:DefAt K mg "_law_doubled" (top 16) ["_law_machine","_law_cell_here"])(D17:DefAt K mg "_law_as_reached" (top 17) ["_law_machine"]){fL:Addr}{fdL:FuncData}(FL:Fun K "law" "law" (top 18) fL fdL):FnOk P w K mg base (CXe P w) 15 fL fdL ["_law_script"] (yF K TH):=by
 have c_reached:=@y3 P w K mg base TH T D1
 have c_never:=@aDF P w K mg base TH T D2
 have c_firsts:=@aBN P w K mg base TH T D4
 have c_behind_signs:=@pR P w K mg base TH T D5
 have c_finer:=@aDG P w K mg base TH T D6 c_firsts c_behind_signs
 have c_alike_rooms:=@qZ P w K mg base TH T D7 c_firsts c_finer
 have c_least:=@aDH P w K mg base TH T D8 c_alike_rooms c_behind_signs c_reached c_never
 have c__law_cell:=@uY P w K mg base TH T D10
 have c__law_oneway:=@q0 P w K mg base TH T D11 c__law_cell
 have c__law_firsts:=@q9 P w K mg base TH T D12
 have c__law_parting:=@pU P w K mg base TH T D13 c__law_firsts
 have c__law_wholes:=@rA P w K mg base TH T D14
 have c__law_kinds:=@sB P w K mg base TH T D15
 have c__law_doubled:=@pV P w K mg base TH T D16
 have c__law_as_reached:=@nQ P w K mg base TH T D17
 exact aH2 (aI5 (P:=P) (w:=w) (base:=base) (TH:=TH) T FL c__law_cell c__law_oneway c__law_doubled c_least c__law_parting c__law_wholes c__law_kinds c__law_as_reached) aDM
end
section
variable{w:World}{K:Frag}{h:Heap}{mg:Str->Option Value}
theorem aJJ(X:K.In h)(G:h.Ns mainGlobals mg)(z_bool:PySem.W.nsIn K mainGlobals "bool"=some none)(z_enumerate:PySem.W.nsIn K mainGlobals "enumerate"=some none)(z_int:PySem.W.nsIn K mainGlobals "int"=some none)(z_isinstance:PySem.W.nsIn K mainGlobals "isinstance"=some none)(z_len:PySem.W.nsIn K mainGlobals "len"=some none)(z_list:PySem.W.nsIn K mainGlobals "list"=some none)(z_max:PySem.W.nsIn K mainGlobals "max"=some none)(z_min:PySem.W.nsIn K mainGlobals "min"=some none)(z_range:PySem.W.nsIn K mainGlobals "range"=some none)(z_set:PySem.W.nsIn K mainGlobals "set"=some none)(z_tuple:PySem.W.nsIn K mainGlobals "tuple"=some none)(z_zip:PySem.W.nsIn K mainGlobals "zip"=some none):Txt w K mg:=⟨PySem.W.mg_none_of X G z_bool,PySem.W.mg_none_of X G z_enumerate,PySem.W.mg_none_of X G z_int,PySem.W.mg_none_of X G z_isinstance,PySem.W.mg_none_of X G z_len,PySem.W.mg_none_of X G z_list,PySem.W.mg_none_of X G z_max,PySem.W.mg_none_of X G z_min,PySem.W.mg_none_of X G z_range,PySem.W.mg_none_of X G z_set,PySem.W.mg_none_of X G z_tuple,PySem.W.mg_none_of X G z_zip⟩
theorem rec_in{q:Program}{x:Str}(h:((recsOf q).any fun d=>d.name == x)=true):∃ d∈recsOf q,d.name=x:=by
 obtain ⟨d,hd,e⟩:=List.any_eq_true.mp h
 exact ⟨d,hd,eq_of_beq e⟩
theorem aJK{fa f:Addr}{oc:Value}{od an:Option Addr}{osl:Array (Option Value)}{kV doc pm cdv ct:Value}(X:K.In h)(G:h.Ns mainGlobals mg)(hmg:mg "law"=some (.ref fa))(a:PySem.W.nsIn K mainGlobals "law"=some (some (.ref f)))(l:K.lookup f=some ⟨oc,od,.func (PySem.W.fnOf "law" "law" (fD (top 18)) (cO (top 18)) (aM (top 18)) .none kV doc pm an cdv ct),osl⟩)
  (c:PySem.W.codeIn K cdv "law"=true) (k:PySem.W.keepIn K (.ref f)=true):∃ fd,Fun K "law" "law" (top 18) fa fd/\∀ (s:Shared) (u:Value),BindsTo s fd ⟨[u],[]⟩ [("_law_script",u)]:=by
 have e:=hmg.symm.trans (PySem.W.mg_of X G a)
 cases e
 exact ⟨_,zK (st:=top 18) l c k,fun s u=>.of_eq rfl⟩
end
end Mc
open PySem PySem.W PyProof.Rows
set_option maxRecDepth 100000 in
set_option maxHeartbeats 0 in
theorem PySem.Challenge.cw_striproam_k24_least_by_parting_holds : PySem.Challenge.rw_striproam_k24_least_by_parting.Holds := by
 w_on;o_law;k_head;(case hw=>w_witness2)
 k_fill
 refine Fl.aE9 (l:=PySem.Challenge.rw_striproam_k24_least_by_parting) (k:=15) (x:="_law_script") (qs:=Mc.qsT) (xs:=["least"]) ?hx ?hNT rfl rfl ⟨rfl,by decide,by decide⟩ (fun w h Y=>PySem.W.km_in_of Y) ?F
 case hx=>
  intro x hx
  simp only[List.mem_cons,List.not_mem_nil,or_false] at hx
  rcases hx with rfl<;>exact Mc.rec_in (by decide +kernel)
 case hNT=>
  intro w
  kernel_rfl
 case F=>
  intro w mg fa h KX G hmg
  have D1:L2.DefAt (L2.KOf KX) mg "reached" (Mc.top 1) ["begin","after","done"]:=by dsimp only[L2.KOf];refine' Mc.cU KX G ?a ?l ?c ?k ?b;(case a=>k_is);(case l=>k_is);(case c=>k_is);(case k=>k_is);(case b=>exact fun _ _ _ _ _ _=>Mc.bn3 fun _ _ _=>rfl)
  have D2:L2.DefAt (L2.KOf KX) mg "never" (Mc.top 2) ["found","at"]:=by dsimp only[L2.KOf];refine' Mc.cU KX G ?a ?l ?c ?k ?b;(case a=>k_is);(case l=>k_is);(case c=>k_is);(case k=>k_is);(case b=>exact fun _ _ _ _ _ _=>Mc.bn2 fun _ _=>rfl)
  have D4:L2.DefAt (L2.KOf KX) mg "firsts" (Mc.top 4) ["keys"]:=by dsimp only[L2.KOf];refine' Mc.cU KX G ?a ?l ?c ?k ?b;(case a=>k_is);(case l=>k_is);(case c=>k_is);(case k=>k_is);(case b=>exact fun _ _ _ _ _ _=>Mc.bn1 fun _=>rfl)
  have D5:L2.DefAt (L2.KOf KX) mg "behind_signs" (Mc.top 5) ["likes","row"]:=by dsimp only[L2.KOf];refine' Mc.cU KX G ?a ?l ?c ?k ?b;(case a=>k_is);(case l=>k_is);(case c=>k_is);(case k=>k_is);(case b=>exact fun _ _ _ _ _ _=>Mc.bn2 fun _ _=>rfl)
  have D6:L2.DefAt (L2.KOf KX) mg "finer" (Mc.top 6) ["rows","likes"]:=by dsimp only[L2.KOf];refine' Mc.cU KX G ?a ?l ?c ?k ?b;(case a=>k_is);(case l=>k_is);(case c=>k_is);(case k=>k_is);(case b=>exact fun _ _ _ _ _ _=>Mc.bn2 fun _ _=>rfl)
  have D7:L2.DefAt (L2.KOf KX) mg "alike_rooms" (Mc.top 7) ["reader"]:=by dsimp only[L2.KOf];refine' Mc.cU KX G ?a ?l ?c ?k ?b;(case a=>k_is);(case l=>k_is);(case c=>k_is);(case k=>k_is);(case b=>exact fun _ _ _ _ _ _=>Mc.bn1 fun _=>rfl)
  have D8:L2.DefAt (L2.KOf KX) mg "least" (Mc.top 8) ["reader"]:=by dsimp only[L2.KOf];refine' Mc.cU KX G ?a ?l ?c ?k ?b;(case a=>k_is);(case l=>k_is);(case c=>k_is);(case k=>k_is);(case b=>exact fun _ _ _ _ _ _=>Mc.bn1 fun _=>rfl)
  have D10:L2.DefAt (L2.KOf KX) mg "_law_cell" (Mc.top 10) ["_law_script","_law_k"]:=by dsimp only[L2.KOf];refine' Mc.cU KX G ?a ?l ?c ?k ?b;(case a=>k_is);(case l=>k_is);(case c=>k_is);(case k=>k_is);(case b=>exact fun _ _ _ _ _ _=>Mc.bn2 fun _ _=>rfl)
  have D11:L2.DefAt (L2.KOf KX) mg "_law_oneway" (Mc.top 11) ["_law_script","_law_at","_law_rooms","_law_signs","_law_words"]:=by dsimp only[L2.KOf];refine' Mc.cU KX G ?a ?l ?c ?k ?b;(case a=>k_is);(case l=>k_is);(case c=>k_is);(case k=>k_is);(case b=>exact fun _ _ _ _ _ _=>Mc.bn5 fun _ _ _ _ _=>rfl)
  have D12:L2.DefAt (L2.KOf KX) mg "_law_firsts" (Mc.top 12) ["_law_one","_law_two","_law_pair"]:=by dsimp only[L2.KOf];refine' Mc.cU KX G ?a ?l ?c ?k ?b;(case a=>k_is);(case l=>k_is);(case c=>k_is);(case k=>k_is);(case b=>exact fun _ _ _ _ _ _=>Mc.bn3 fun _ _ _=>rfl)
  have D13:L2.DefAt (L2.KOf KX) mg "_law_parting" (Mc.top 13) ["_law_one","_law_two","_law_pair"]:=by dsimp only[L2.KOf];refine' Mc.cU KX G ?a ?l ?c ?k ?b;(case a=>k_is);(case l=>k_is);(case c=>k_is);(case k=>k_is);(case b=>exact fun _ _ _ _ _ _=>Mc.bn3 fun _ _ _=>rfl)
  have D14:L2.DefAt (L2.KOf KX) mg "_law_wholes" (Mc.top 14) ["_law_found"]:=by dsimp only[L2.KOf];refine' Mc.cU KX G ?a ?l ?c ?k ?b;(case a=>k_is);(case l=>k_is);(case c=>k_is);(case k=>k_is);(case b=>exact fun _ _ _ _ _ _=>Mc.bn1 fun _=>rfl)
  have D15:L2.DefAt (L2.KOf KX) mg "_law_kinds" (Mc.top 15) ["_law_machine"]:=by dsimp only[L2.KOf];refine' Mc.cU KX G ?a ?l ?c ?k ?b;(case a=>k_is);(case l=>k_is);(case c=>k_is);(case k=>k_is);(case b=>exact fun _ _ _ _ _ _=>Mc.bn1 fun _=>rfl)
  have D16:L2.DefAt (L2.KOf KX) mg "_law_doubled" (Mc.top 16) ["_law_machine","_law_cell_here"]:=by dsimp only[L2.KOf];refine' Mc.cU KX G ?a ?l ?c ?k ?b;(case a=>k_is);(case l=>k_is);(case c=>k_is);(case k=>k_is);(case b=>exact fun _ _ _ _ _ _=>Mc.bn2 fun _ _=>rfl)
  have D17:L2.DefAt (L2.KOf KX) mg "_law_as_reached" (Mc.top 17) ["_law_machine"]:=by dsimp only[L2.KOf];refine' Mc.cU KX G ?a ?l ?c ?k ?b;(case a=>k_is);(case l=>k_is);(case c=>k_is);(case k=>k_is);(case b=>exact fun _ _ _ _ _ _=>Mc.bn1 fun _=>rfl)
  have T:Mc.Txt w (L2.KOf KX) mg:=by
   dsimp only[L2.KOf]
   refine' Mc.aJJ KX G ?z_bool ?z_enumerate ?z_int ?z_isinstance ?z_len ?z_list ?z_max ?z_min ?z_range ?z_set ?z_tuple ?z_zip
   (case z_bool=>k_is);(case z_enumerate=>k_is);(case z_int=>k_is);(case z_isinstance=>k_is);(case z_len=>k_is);(case z_list=>k_is);(case z_max=>k_is);(case z_min=>k_is);(case z_range=>k_is);(case z_set=>k_is);(case z_tuple=>k_is);(case z_zip=>k_is)
  have LL:∃ fd,L2.Fun (L2.KOf KX) "law" "law" (Mc.top 18) fa fd/\∀ (s:Shared) (u:Value),BindsTo s fd ⟨[u],[]⟩ [("_law_script",u)]:=by
   dsimp only[L2.KOf]
   refine' Mc.aJK KX G hmg ?a4 ?l4 ?c4 ?k4
   (case a4=>k_is);(case l4=>k_is);(case c4=>k_is);(case k4=>k_is)
  obtain ⟨fd,FL,hb⟩:=LL
  exact ⟨fd,hb,fun base TH _ _ TL=>Mc.aGT T  D1 D2 D4 D5 D6 D7 (Fl.aLD D8 KX TL (by decide)) D10 D11 D12 D13 D14 D15 D16 D17 FL⟩
end
