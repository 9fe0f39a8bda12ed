import PyProof.Rows.All
import Wide.All
import OpenK.AllK
import Wide.FinOn
import Lean
import PyProof.EqAt
import PyProof.EqKinds
import PyProof.TupleCall
import PyProof.ExcInit
import PyProof.InstStoreFacts
import PyProof.StrLawsFirst
import PyProof.StrLawsIn
import KE.KLam
import PyProof.ListMulRoad
import PyProof.Rows.ListMul
import PyProof.ZipIter
import PyProof.Draws
import PyProof.ListStr
import PyProof.DictWalks
import PyProof.DictTruth
import PyProof.ListRange
import PyProof.StrLaws
import PyProof.StrLawsIdx
import PyProof.AttrMissHeap
import PyProof.StrBlock2
import PySem.Challenge.RW_striproam_k23_two_hundred_beginnings
set_option linter.all false
set_option maxRecDepth 100000
set_option maxHeartbeats 4000000
set_option Elab.async false
set_option linter.all false
set_option maxRecDepth 100000
set_option genSizeOf false
theorem Mc.bn1{α:Type}{P:List α->Prop}(h:∀ a,P [a]):∀ us:List α,us.length=1->P us
 | [a],_=>h a
theorem Mc.bn2{α:Type}{P:List α->Prop}(h:∀ a b,P [a,b]):∀ us:List α,us.length=2->P us
 | [a,b],_=>h a b
theorem Mc.bn3{α:Type}{P:List α->Prop}(h:∀ a b c,P [a,b,c]):∀ us:List α,us.length=3->P us
 | [a,b,c],_=>h a b c
theorem Mc.bn4{α:Type}{P:List α->Prop}(h:∀ a b c d,P [a,b,c,d]):∀ us:List α,us.length=4->P us
 | [a,b,c,d],_=>h a b c d
open PySem.W (Frag)
noncomputable section
namespace L2
open PySem PySem.Spec PyProof.Rows
abbrev Key:=Sum Int Str
noncomputable def mY:Key->Value->Bool
 | .inl k,v=>Value.isInt k v
 | .inr x,v=>Value.isStrOf x v
noncomputable def aJP(w:World):Key->Int
 | .inl k=>hashInt k
 | .inr x=>hashStr w x
theorem keyIs_shape:∀ {k:Key} {v:Value},mY k v=true->(∃ i t,k=Sum.inl i/\v=Value.int i t)\/(∃ x t,k=Sum.inr x/\v=Value.str x t)
 | .inl i,v,h=>by
  obtain ⟨t,e⟩:=Value.isInt_shape (k:=i) (v:=v) h
  exact .inl ⟨i,t,rfl,e⟩
 | .inr x,v,h=>by
  obtain ⟨t,e⟩:=Value.isStrOf_shape (x:=x) (v:=v) h
  exact .inr ⟨x,t,rfl,e⟩
theorem yD(i:Int)(t:Tok):mY (.inl i) (.int i t)=true:=by simp[mY,Value.isInt]
theorem yE(x:Str)(t:Tok):mY (.inr x) (.str x t)=true:=by simp[mY,Value.isStrOf]
theorem aE7(a b:Int):decide ((Sum.inl a:Key)=Sum.inl b)=(a == b):=by
 by_cases e:a=b
 ·subst e;simp
 ·have h:¬ (Sum.inl a:Key)=Sum.inl b:=fun q=>e (Sum.inl.inj q)
  rw[decide_eq_false h]
  exact (beq_eq_false_iff_ne.mpr e).symm
theorem aE8(a b:Str):decide ((Sum.inr a:Key)=Sum.inr b)=decide (a=b):=by
 by_cases e:a=b
 ·subst e;simp
 ·have h:¬ (Sum.inr a:Key)=Sum.inr b:=fun q=>e (Sum.inr.inj q)
  rw[decide_eq_false h,decide_eq_false e]
theorem aE9(a:Int)(b:Str):decide ((Sum.inl a:Key)=Sum.inr b)=false:=decide_eq_false (fun q=>nomatch q)
theorem aFA(a:Str)(b:Int):decide ((Sum.inr a:Key)=Sum.inl b)=false:=decide_eq_false (fun q=>nomatch q)
noncomputable def cV(prog:Program)(w:World):PySem.KeyKind prog w Key where
 is:=mY
 hash:=aJP w
 inj:=fun v a b ha hb=>by
  rcases keyIs_shape ha with ⟨i,t,rfl,rfl⟩|⟨x,t,rfl,rfl⟩
  ·rcases keyIs_shape hb with ⟨j,u,rfl,e⟩|⟨y,u,rfl,e⟩
   · injection e with e1 _; rw [e1]
   · exact nomatch e
  ·rcases keyIs_shape hb with ⟨j,u,rfl,e⟩|⟨y,u,rfl,e⟩
   · exact nomatch e
   · injection e with e1 _; rw [e1]
 byValue:=fun k v h=>by
  rcases keyIs_shape h with ⟨i,t,rfl,rfl⟩|⟨x,t,rfl,rfl⟩<;>rfl
 pyHash:=fun hv h=>by
  rcases keyIs_shape hv with ⟨i,t,rfl,rfl⟩|⟨x,t,rfl,rfl⟩
  ·exact wpAny_pyHash_int h
  ·exact wpAny_pyHash_str h
 eqBool:=fun hu hv h=>by
  rcases keyIs_shape hu with ⟨i,t,rfl,rfl⟩|⟨x,t,rfl,rfl⟩
  ·rcases keyIs_shape hv with ⟨j,u,rfl,rfl⟩|⟨y,u,rfl,rfl⟩
   · rw [aE7] at h; exact wpAny_eqBool_int h
   · rw [aE9] at h; exact SeqAt.EqAt.int_str i t y u _ _ _ _ h
  ·rcases keyIs_shape hv with ⟨j,u,rfl,rfl⟩|⟨y,u,rfl,rfl⟩
   · rw [aFA] at h; exact SeqAt.EqAt.str_int x t j u _ _ _ _ h
   · rw [aE8] at h; exact wpAny_eqBool_str h
 «strs»:=fun k x t v h=>by
  rcases keyIs_shape h with ⟨i,u,rfl,e⟩|⟨y,u,rfl,e⟩
  ·exact nomatch e
  ·injection e with e1 _
   subst e1
   cases v<;>rfl
theorem uV(prog:Program)(w:World)(i:Int)(t:Tok):(cV prog w).is (.inl i) (.int i t)=true:=yD i t
theorem uW(prog:Program)(w:World)(x:Str)(t:Tok):(cV prog w).is (.inr x) (.str x t)=true:=yE x t
end L2
namespace L2
open PySem PySem.Spec PyProof.Rows
inductive V where
 | non|bl (b:Bool)|int (i:Int)|str (x:Str)|byt (b:Array UInt8)|flt (b:UInt64)|ref (a:Addr)|ty (n:String)
 deriving DecidableEq
def aS:V->Value->Prop
 | .non,u=>u=Value.none
 | .bl b,u=>u=Value.bool b
 | .int i,u=>∃ t,u=Value.int i t
 | .str x,u=>∃ t,u=Value.str x t
 | .byt b,u=>∃ t,u=Value.bytes b t
 | .flt b,u=>∃ t,u=Value.float b t
 | .ref a,u=>u=Value.ref a
 | .ty n,u=>u=Value.type n
abbrev aZ:List V->List Value->Prop:=Paired aS
theorem aZ.length{xs:List V}{us:List Value}(r:aZ xs us):xs.length=us.length:=Paired.length r
theorem aZ.get:∀ {xs:List V} {us:List Value} {i:Nat} {x:V},aZ xs us->xs[i]? = some x->∃ u,us[i]? = some u/\aS x u
 | _,_,_,_,.nil,e=>by simp at e
 | _,_,0,_,.cons r _,e=>by simp at e;subst e;exact ⟨_,rfl,r⟩
 | _,_,i+1,x,.cons _ t,e=>by
  obtain ⟨u,h1,h2⟩:=aZ.get (i:=i) (x:=x) t (by simpa using e)
  exact ⟨u,by simpa using h1,h2⟩
theorem aZ.set{x:V}{u:Value}(r:aS x u):∀ {xs:List V} {us:List Value} (i:Nat),aZ xs us->aZ (xs.set i x) (us.set i u)
 | _,_,_,.nil=>.nil
 | _,_,0,.cons _ t=>.cons r t
 | _,_,i+1,.cons q t=>.cons q (aZ.set r i t)
theorem aZ.append:∀ {xs ys:List V} {us ws:List Value},aZ xs us->aZ ys ws->aZ (xs++ys) (us++ws)
 | _,_,_,_,.nil,s=>s
 | _,_,_,_,.cons r t,s=>.cons r (aZ.append t s)
theorem aZ.take:∀ {xs:List V} {us:List Value} (n:Nat),aZ xs us->aZ (xs.take n) (us.take n)
 | _,_,0,_=>.nil
 | _,_,_+1,.nil=>.nil
 | _,_,n+1,.cons r t=>.cons r (aZ.take n t)
theorem aZ.drop:∀ {xs:List V} {us:List Value} (n:Nat),aZ xs us->aZ (xs.drop n) (us.drop n)
 | _,_,0,r=>r
 | _,_,_+1,.nil=>.nil
 | _,_,n+1,.cons _ t=>aZ.drop n t
def i4:Option V->Option Value->Prop
 | some v,some u=>aS v u
 | none,none=>True
 | _,_=>False
def KV{κ:Type}:List (κ×V)->List (κ×Value)->Prop:=Paired fun (p:κ×V) (q:κ×Value)=>p.1=q.1/\aS p.2 q.2
noncomputable def kV:Key->V
 | .inl i=>.int i
 | .inr x=>.str x
inductive HO where
 | lst (xs:List V)
 | tup (xs:List V)
 | dK (kvs:List (Key×V))|dT (kvs:List (List Key×V))
 | set (S:Int->Bool) (n:Nat)
 | ins (C dx:Addr) (fs:List (Str×V))
 | own (x:Addr)
 | xd (fs:List (Str×V))
 | met (f x:Addr)
 | rng (lo hi:Int)
 | frz (o:Obj) (u:HO)
 | tbl (qs:List (Pos×Str))
 | cod (q:Str)
 | ext (φ:Heap->Prop)
abbrev Hp:=Addr->Option HO
noncomputable def upd(H:Hp)(a:Addr)(o:HO):Hp:=fun b=>if b=a then some o else H b
theorem aW{H:Hp}{a:Addr}{o:HO}:upd H a o a=some o:=by unfold upd;rw[if_pos rfl]
theorem aH{H:Hp}{a b:Addr}{o:HO}(h:b≠a):upd H a o b=H b:=by unfold upd;rw[if_neg h]
theorem vA{H:Hp}{a:Addr}{o u:HO}:upd (upd H a o) a u=upd H a u:=by
 funext b;unfold upd;split<;>rfl
theorem a5{H:Hp}{a b:Addr}{o:HO}(h:H a=some o)(h':H b=none):a≠b:=by
 intro e;subst e;rw[h] at h';cases h'
section
variable(P:Program)(w:World)
def bQ(H:Hp)(h:Heap)(a:Addr):HO->Prop
 | .lst xs=>xs.length<=sizeLine/\∃ (its:List Value) (n:Nat),aZ xs its/\h.get? a=some {cls:=.type "list",data:=.seq its.toArray n}
 | .tup xs=>xs.length<=sizeLine/\∃ its:List Value,aZ xs its/\IsTup h a its.toArray
 | .dK kvs=>kvs.length<=sizeLine/\(a == sysModules)=false/\∃ vs,KV kvs vs/\h.DictOf (cV P w) a vs
 | .dT kvs=>kvs.length<=sizeLine/\(a == sysModules)=false/\∃ xs:List (List Key×Addr×Value),
  Paired (fun (p:List Key×V) (q:List Key×Addr×Value)=>p.1=q.1/\H q.2.1=some (.tup (p.1.map kV))/\aS p.2 q.2.2) kvs xs /\
  ∃ o es ep,h.get? a=some o/\o.ExactDict/\o.data=.dict es ep/\es.toList=xs.map (entryOfKey (tupleKind (cV P w)))/\(xs.map (·.1)).Nodup
 | .set S n=>h.SetOf (intKind P w) a S n
 | .ins C dx fs=>H dx=some (.own a)/\fs.length<=1000/\dx≠a/\h.get? a=some (PySem.W.instObj C dx) /\
  ∃ mA,h.Ns1 dx mA/\(∀ f,i4 (fs.lookup f) (mA f))/\PySem.Within mA (fs.map (·.1))
 | .own _=>∃ o,h.get? a=some o
 | .xd fs=>∃ mA,h.Ns1 a mA/\∀ f,i4 (fs.lookup f) (mA f)
 | .rng lo hi=>∃ t u v,h.get? a=some {cls:=.type "range",data:=.fields #[.int lo t,.int hi u,.int 1 v]}
 | .frz o u=>h.get? a=some o/\bQ H h a u
 | .tbl qs=>∃ ps:Array Value,h.get? a=some {cls:=.none,data:=.fields ps}/\TriplesOk ps.toList/\∀ p∈qs,codeAmong p.1 ps.toList=none\/∃ c,codeAmong p.1 ps.toList=some (.ref c)/\H c=some (.cod p.2)
 | .cod q=>h.CodeRec (.ref a) q
 | .met f x=>h.get? a=some (PySem.W.methodObj (.ref f) (.ref x))
 | .ext φ=>φ h/\(∃ o,h.get? a=some o)/\∀ h1 h2:Heap,φ h1->(∀ o,h1.get? a=some o->h2.get? a=some o)->φ h2
def HOk(H:Hp)(h:Heap):Prop:=∀ a o,H a=some o->bQ P w H h a o
end
section
variable{P:Program}{w:World}{H H':Hp}{h h':Heap}{a:Addr}{o:HO}
theorem bQ.lt(x:bQ P w H h a o):a < h.objs.size:=by
 cases o with
 | lst xs=>obtain ⟨_,_,_,_,e⟩:=x;exact Heap.lt_size e
 | tup xs=>obtain ⟨_,_,_,p⟩:=x;exact p.lt
 | dK kvs=>obtain ⟨_,_,_,_,o,_,_,e,_⟩:=x;exact Heap.lt_size e
 | dT kvs=>obtain ⟨_,_,_,_,o,_,_,e,_⟩:=x;exact Heap.lt_size e
 | set S n=>obtain ⟨o,_,_,_,e,_⟩:=x;exact Heap.lt_size e
 | ins C dx fs=>obtain ⟨_,_,_,e,_⟩:=x;exact Heap.lt_size e
 | own y=>obtain ⟨_,e⟩:=x;exact Heap.lt_size e
 | xd fs=>obtain ⟨_,⟨_,_,_,e,_⟩,_⟩:=x;exact Heap.lt_size e
 | rng lo hi=>obtain ⟨_,_,_,e⟩:=x;exact Heap.lt_size e
 | frz ob u=>obtain ⟨e,_⟩:=x;exact Heap.lt_size e
 | tbl qs=>obtain ⟨ps,e,_⟩:=x;exact Heap.lt_size e
 | cod q=>obtain ⟨c,o,vs,t,e,ho,_⟩:=x;cases e;exact Heap.lt_size ho
 | met f y=>exact Heap.lt_size (show h.get? a=some _ from x)
 | ext φ=>obtain ⟨_,⟨_,e⟩,_⟩:=x;exact Heap.lt_size e
theorem Paired.mapP{α β:Type}{F G:α->β->Prop}:∀ {l₁:List α} {l₂:List β},Paired F l₁ l₂->(∀ a b,F a b->G a b)->Paired G l₁ l₂
 | _,_,.nil,_=>.nil
 | _,_,.cons r t,f=>.cons (f _ _ r) (Paired.mapP t f)
theorem bQ.stay(x:bQ P w H h a o)(k:∀ b u,(b=a\/H b=some (.own a))->h.get? b=some u->h'.get? b=some u)
  (ho:∀ b,H b=some (.own a)->H' b=some (.own a)) (hc:∀ b q,H b=some (.cod q)->H' b=some (.cod q)) (ht:∀ b xs,H b=some (.tup xs)->H' b=some (.tup xs)):bQ P w H' h' a o:=by
 induction o with
 | lst xs=>obtain ⟨z,its,n,r,e⟩:=x;exact ⟨z,its,n,r,k _ _ (.inl rfl) e⟩
 | tup xs=>obtain ⟨z,its,r,ob,e,c⟩:=x;exact ⟨z,its,r,ob,k _ _ (.inl rfl) e,c⟩
 | dK kvs=>obtain ⟨z,y,vs,r,ob,es,ep,e,c⟩:=x;exact ⟨z,y,vs,r,ob,es,ep,k _ _ (.inl rfl) e,c⟩
 | dT kvs=>
  obtain ⟨z,y,xs,r,ob,es,ep,e,c⟩:=x
  exact ⟨z,y,xs,Paired.mapP r fun p q z=>⟨z.1,ht _ _ z.2.1,z.2.2⟩,ob,es,ep,k _ _ (.inl rfl) e,c⟩
 | set S n=>obtain ⟨ob,es,ep,t,e,c⟩:=x;exact ⟨ob,es,ep,t,k _ _ (.inl rfl) e,c⟩
 | ins C dx fs=>
  obtain ⟨d,z,ne,e,mA,⟨od,es,ep,e2,c⟩,r⟩:=x
  exact ⟨ho _ d,z,ne,k _ _ (.inl rfl) e,mA,⟨od,es,ep,k _ _ (.inr d) e2,c⟩,r⟩
 | own y=>obtain ⟨ob,e⟩:=x;exact ⟨ob,k _ _ (.inl rfl) e⟩
 | xd fs=>obtain ⟨mA,⟨od,es,ep,e,c⟩,r⟩:=x;exact ⟨mA,⟨od,es,ep,k _ _ (.inl rfl) e,c⟩,r⟩
 | rng lo hi=>obtain ⟨t,u,v,e⟩:=x;exact ⟨t,u,v,k _ _ (.inl rfl) e⟩
 | frz ob u ih=>obtain ⟨e,q⟩:=x;exact ⟨k _ _ (.inl rfl) e,ih q⟩
 | tbl qs=>
  obtain ⟨ps,e,t,r⟩:=x
  refine ⟨ps,k _ _ (.inl rfl) e,t,fun p hp=>?_⟩
  rcases r p hp with z|⟨c,z,z2⟩
  · exact .inl z
  · exact .inr ⟨c, z, hc _ _ z2⟩
 | cod q=>
  obtain ⟨c,o,vs,t,e,ho,r⟩:=x
  cases e
  exact ⟨_,o,vs,t,rfl,k _ _ (.inl rfl) ho,r⟩
 | met f y=>
  have e:h.get? a=some (PySem.W.methodObj (.ref f) (.ref y)):=x
  show h'.get? a=some (PySem.W.methodObj (.ref f) (.ref y))
  exact k a _ (.inl rfl) e
 | ext φ=>obtain ⟨p,⟨o,e⟩,st⟩:=x;exact ⟨st _ _ p fun o q=>k _ _ (.inl rfl) q,⟨o,k _ _ (.inl rfl) e⟩,st⟩
theorem HOk.lt(x:HOk P w H h)(e:H a=some o):a < h.objs.size:=(x a o e).lt
theorem HOk.fresh(x:HOk P w H h)(e:h.objs.size<=a):H a=none:=by
 cases q:H a with
 | none=>rfl
 | some u=>exact absurd (Nat.lt_of_lt_of_le (x.lt q) e) (Nat.lt_irrefl _)
theorem HOk.kept(x:HOk P w H h)(k:∀ b u,h.get? b=some u->h'.get? b=some u):HOk P w H h':=fun a o e=>
 (x a o e).stay (fun b u _ q=>k b u q) (fun _ q=>q) (fun _ _ q=>q) fun _ _ q=>q
theorem HOk.laid(x:HOk P w H h)(k:∀ b u,h.get? b=some u->h'.get? b=some u)(hp:h.objs.size<=a)(new:bQ P w (upd H a o) h' a o):HOk P w (upd H a o) h':=fun b u e=>by
 have hn:=x.fresh hp
 by_cases hb:b=a
 ·subst hb;rw[aW] at e;cases e;exact new
 ·rw[aH hb] at e
  exact (x b u e).stay (fun c v _ q=>k c v q) (fun c q=>by rw[aH (a5 q hn)];exact q) (fun c xs q=>by rw[aH (a5 q hn)];exact q) fun c xs q=>by rw[aH (a5 q hn)];exact q
end
def Rd(H:Hp)(a:Addr)(u:HO):Prop:=H a=some u\/∃ o,H a=some (.frz o u)
theorem Rd.ok{P:Program}{w:World}{H:Hp}{h:Heap}{a:Addr}{u:HO}(r:Rd H a u)(x:HOk P w H h):bQ P w H h a u:=by
 rcases r with r|⟨o,r⟩
 ·exact x a u r
 ·obtain ⟨_,q⟩:=x a _ r
  exact q
def Mut:Option HO->Prop
 | some (.lst _)=>True
 | some (.dK _)=>True
 | some (.dT _)=>True
 | some (.set _ _)=>True
 | some (.ins _ _ _)=>True
 | some (.ext _)=>True
 | _=>False
section
variable{P:Program}{w:World}{H:Hp}{h h':Heap}{x e:Addr}{o':HO}
theorem HOk.write(ok:HOk P w H h)(mu:Mut (H x))(he:e=x\/H e=some (.own x))(k:∀ b u,b≠e->h.get? b=some u->h'.get? b=some u)(heo:∃ u,h'.get? e=some u)
  (new:bQ P w (upd H x o') h' x o'):HOk P w (upd H x o') h':=fun b u q=>by
 have nown:∀ c y,H c=some (.own y)->c≠x:=fun c y r z=>by subst z;rw[r] at mu;exact mu
 have ntup:∀ c xs,H c=some (.tup xs)->c≠x:=fun c xs r z=>by subst z;rw[r] at mu;exact mu
 have ncod:∀ c xs,H c=some (.cod xs)->c≠x:=fun c xs r z=>by subst z;rw[r] at mu;exact mu
 by_cases hb:b=x
 ·subst hb;rw[aW] at q;cases q;exact new
 ·rw[aH hb] at q
  by_cases hbe:b=e
  ·have q':H b=some (.own x):=by
    rcases he with z|z
    · exact absurd (hbe.trans z) hb
    · rw [hbe]; exact z
   rw[q] at q';cases q'
   obtain ⟨v,hv⟩:=heo
   exact ⟨v,by rw[hbe];exact hv⟩
  ·refine (ok b u q).stay (fun c v hc r=>k c v ?_ r) (fun c r=>by rw[aH (nown c b r)];exact r) (fun c xs r=>by rw[aH (ncod c xs r)];exact r) fun c xs r=>by rw[aH (ntup c xs r)];exact r
   rcases hc with rfl|hc
   ·exact hbe
   ·rintro rfl
    rcases he with z|z
    · exact nown c b hc z
    · rw [hc] at z; cases z; exact hb rfl
end
structure Un(fs ex:List Addr)(H H':Hp)(h h':Heap):Prop where
 keep:∀ b o,h.get? b=some o->H b=none->b∉fs->b∉ex->h'.get? b=some o
 slot:∀ b o,h.get? b=some o->H b=none->b∈fs->b∉ex->∃ sl,h'.get? b=some {o with slots:=sl}
 free:∀ b o,h.get? b=some o->H b=none->b∉ex->H' b=none
 there:∀ b o,h.get? b=some o->b∉ex->∃ o',h'.get? b=some o'
 tups:∀ b xs,H b=some (.tup xs)->H' b=some (.tup xs)
 frzs:∀ b o u,H b=some (.frz o u)->H' b=some (.frz o u)
 tbls:∀ b ps,H b=some (.tbl ps)->H' b=some (.tbl ps)
section
variable{fs fs' ex ex':List Addr}{H H1 H2:Hp}{h h1 h2 h':Heap}{a x e:Addr}{o:HO}
theorem Un.any(u:Un fs ex H H1 h h1){b:Addr}{ob:Obj}(q:h.get? b=some ob)(n:H b=none)(hx:b∉ex):∃ sl,h1.get? b=some {ob with slots:=sl}:=by
 by_cases hb:b∈fs
 · exact u.slot b ob q n hb hx
 · exact ⟨ob.slots, u.keep b ob q n hb hx⟩
theorem Un.trans(a:Un fs ex H H1 h h1)(b:Un fs ex H1 H2 h1 h2):Un fs ex H H2 h h2 where
 keep:=fun c ob q n hc hx=>b.keep c ob (a.keep c ob q n hc hx) (a.free c ob q n hx) hc hx
 slot:=fun c ob q n hc hx=>by
  obtain ⟨sl,e1⟩:=a.slot c ob q n hc hx
  obtain ⟨sl',e2⟩:=b.slot c _ e1 (a.free c ob q n hx) hc hx
  exact ⟨sl',e2⟩
 free:=fun c ob q n hx=>by
  obtain ⟨o',e1⟩:=a.there c ob q hx
  exact b.free c o' e1 (a.free c ob q n hx) hx
 there:=fun c ob q hx=>by
  obtain ⟨o',e1⟩:=a.there c ob q hx
  exact b.there c o' e1 hx
 tups:=fun c xs q=>b.tups c xs (a.tups c xs q)
 frzs:=fun c ob xs q=>b.frzs c ob xs (a.frzs c ob xs q)
 tbls:=fun c ps q=>b.tbls c ps (a.tbls c ps q)
theorem Un.kept(k:∀ b u,h.get? b=some u->h'.get? b=some u):Un fs ex H H h h':=
 ⟨fun b ob q _ _ _=>k b ob q,fun b ob q _ _ _=>⟨ob.slots,k b ob q⟩,fun _ _ _ n _=>n,fun b ob q _=>⟨ob,k b ob q⟩,fun _ _ q=>q,fun _ _ _ q=>q,fun _ _ q=>q⟩
theorem Un.refl:Un fs ex H H h h:=Un.kept fun _ _ q=>q
theorem Un.laid(k:∀ b u,h.get? b=some u->h'.get? b=some u)(hp:h.objs.size<=a)(hn:H a=none):Un fs ex H (upd H a o) h h' where
 keep:=fun b u q _ _ _=>k b u q
 slot:=fun b u q _ _ _=>⟨u.slots,k b u q⟩
 free:=fun b u q n _=>by rw[aH (Nat.ne_of_lt (Nat.lt_of_lt_of_le (Heap.lt_size q) hp))];exact n
 there:=fun b u q _=>⟨u,k b u q⟩
 tups:=fun b xs q=>by rw[aH (a5 q hn)];exact q
 frzs:=fun b u xs q=>by rw[aH (a5 q hn)];exact q
 tbls:=fun b ps q=>by rw[aH (a5 q hn)];exact q
theorem Un.write(mu:Mut (H x))(he:e=x\/H e=some (.own x))(k:∀ b u,b≠e->h.get? b=some u->h'.get? b=some u)(heo:∃ u,h'.get? e=some u):Un fs ex H (upd H x o) h h':=by
 have hx:∀ b,H b=none->b≠x:=fun b n z=>by subst z;rw[n] at mu;exact mu
 have hb:∀ b,H b=none->b≠e:=fun b n z=>by
  subst z
  rcases he with r|r
  · exact hx b n r
  · rw [n] at r; cases r
 have hm:∀ b u,H b=some u->¬ Mut (some u)->b≠x:=fun b u q nm z=>by subst z;rw[q] at mu;exact nm mu
 refine ⟨fun b u q n _ _=>k b u (hb b n) q,fun b u q n _ _=>⟨u.slots,k b u (hb b n) q⟩,fun b u q n _=>by rw[aH (hx b n)];exact n,fun b u q _=>?_,
  fun b xs q=>by rw[aH (hm b _ q fun z=>z)];exact q,fun b u xs q=>by rw[aH (hm b _ q fun z=>z)];exact q,fun b ps q=>by rw[aH (hm b _ q fun z=>z)];exact q⟩
 by_cases hbe:b=e
 ·subst hbe;exact heo
 ·exact ⟨u,k b u hbe q⟩
end
noncomputable def trk(h:Heap)(H:Hp):List Addr:=(List.range h.objs.size).filter fun a=>(H a).isSome
def kC(h:Heap)(H:Hp):Heap:=PySem.W.hideAll h (trk h H)
theorem yF(h:Heap)(H:Hp):(kC h H).objs.size=h.objs.size:=PySem.W.hideAll_size _ _
theorem aAL{h:Heap}{H:Hp}{b:Addr}{o:Obj}(e:h.get? b=some o)(n:H b=none):(kC h H).get? b=some o:=
 PySem.W.hideAll_get _ e fun hm=>by
  have q:(H b).isSome=true:=(List.mem_filter.mp hm).2
  rw[n] at q;simp at q
theorem aCS{h:Heap}{H:Hp}{b:Addr}{o:Obj}(e:(kC h H).get? b=some o):h.get? b=some o/\H b=none:=by
 have e':h.get? b=some o:=PySem.W.of_hideAll (trk h H) e
 refine ⟨e',?_⟩
 cases q:H b with
 | none=>rfl
 | some x=>
  have hm:b∈trk h H:=List.mem_filter.mpr ⟨List.mem_range.mpr (Heap.lt_size e'),by simp[q]⟩
  have z:(kC h H).get? b=none:=PySem.W.hideAll_none (trk h H) hm
  rw[z] at e;cases e
def aCT(g h:Heap)(L:Addr):List (Addr×Obj):=(List.range h.objs.size).filterMap fun a=>if a=L\/(g.get? a).isSome=true then none else (h.get? a).map fun o=>(a,o)
def rest(g h:Heap)(L d:Addr):List (Addr×Obj):=(aCT g h L).filter fun p=>decide (p.1≠d)
end L2
namespace L2
open PySem PySem.Spec PyProof.Rows
structure Mod(K:Frag)(mg:Str->Option Value)(base:Heap):Prop where
 kin:K.In base
 glob:base.Ns mainGlobals mg
 blt:∃ mb,base.Ns builtinsNs mb/\∀ x:Str,x≠"__name__"->mb x=bootBuiltins x
 nolimit:base.NoLimit
structure Cx where
 prog:Program
 w:World
 K:Frag
 mg:Str->Option Value
 base:Heap
 A:Around
 N:List Str
 s₀:Shared
 H₀:Hp
 env:Env
 outer:List Env
 stack:List Env
 ex:List Addr
 fn:Str->Bool
 calm:Bool
 pn:List (Addr×Obj)
 xe:Value->Shared->Prop
noncomputable def frs(l:List Env):List Addr:=l.filterMap (·.frame)
abbrev Cx.fs(X:Cx):List Addr:=frs X.outer
def Vis(sc:Scope)(x:Str):Prop:=sc.names.lookup x=some .local\/sc.names.lookup x=some .cell\/sc.names.lookup x=some .free
def Loc(sc:Scope)(x:Str):Prop:=sc.names.lookup x=some .local\/sc.names.lookup x=some .cell
def aJQ(env:Env)(h:Heap)(m:Str->Option Value)(x:Str)(u:Value):Prop:=
 (env.kindOf x=some .local/\m x=some u)\/((env.kindOf x=some .cell\/env.kindOf x=some .free)/\∃ c,env.cells.lookup x=some c/\h.IsCell c (some u))
structure Cx.Ok(X:Cx):Prop where
 mod:Mod X.K X.mg X.base
 kind:X.env.scope.kind=.function
 glob:X.env.globals=mainGlobals
 blt:X.env.builtins=builtinsNs
 above:X.s₀.heap.objs.size<=X.env.locals
 inj:∀ x y c,X.env.cells.lookup x=some c->X.env.cells.lookup y=some c->x=y
 has:∀ x,(X.env.kindOf x=some .cell\/X.env.kindOf x=some .free)->∃ c,X.env.cells.lookup x=some c
 cab:∀ x c,X.fn x=true->X.env.cells.lookup x=some c->X.s₀.heap.objs.size<=c
 hd:X.calm=true->X.A.handled=none
 frames:X.A.frames=some X.stack
 stk:X.stack=X.outer\/(X.stack=X.env::X.outer/\X.env.frame=some X.env.locals)
 exf:∀ b∈X.ex,b≠X.env.locals/\∀ x c,X.env.cells.lookup x=some c->c≠b
 bs:∀ b o,X.base.get? b=some o->X.s₀.heap.get? b=some o/\X.H₀ b=none
 bsz:X.base.objs.size<=X.s₀.heap.objs.size
 noex:∀ b o,X.base.get? b=some o->b∉X.ex
 exfs:∀ b∈X.ex,b∉X.fs
 funs:X.s₀.heap.FunFrames X.base X.outer
 frf:∀ b∈X.fs,X.H₀ b=none
structure Inv(X:Cx)(pins:List (Addr×Obj))(σ:List (Option V))(H:Hp)(s:Shared):Prop where
 ok:X.Ok
 os:s.os=X.s₀.os
 bare:AllBare s.gens
 base:Un X.fs X.ex X.H₀ H X.s₀.heap s.heap
 loc:∃ m,s.heap.Ns X.env.locals m/\∀ (i:Nat) (x:Str) (v:V),X.N[i]? = some x->σ[i]? = some (some v)->Vis X.env.scope x->∃ u,aS v u/\aJQ X.env s.heap m x u
 cell:∀ x c,X.env.cells.lookup x=some c->∃ v,s.heap.IsCell c v
 free:H X.env.locals=none
 freeC:∀ x c,X.env.cells.lookup x=some c->H c=none
 pin:∀ p∈X.pn++pins,s.heap.get? p.1=some p.2/\H p.1=none/\p.1≠X.env.locals/\p.1∉X.fs/\∀ v,p.2.data≠.cell v
 hok:HOk X.prog X.w H s.heap
 len:σ.length=X.N.length
section
variable{X:Cx}{pins:List (Addr×Obj)}{σ:List (Option V)}{H H':Hp}{s:Shared}{h':Heap}
theorem Cx.Ok.nofr(ok:X.Ok){b:Addr}{o:Obj}(e:X.base.get? b=some o):b∉X.fs:=fun hb=>by
 have:=(ok.funs.mem hb).1
 rw[e] at this;cases this
theorem Inv.bs(I:Inv X pins σ H s):∀ b o,X.base.get? b=some o->s.heap.get? b=some o/\H b=none:=fun b o e=>
 ⟨I.base.keep b o (I.ok.bs b o e).1 (I.ok.bs b o e).2 (I.ok.nofr e) (I.ok.noex b o e),I.base.free b o (I.ok.bs b o e).1 (I.ok.bs b o e).2 (I.ok.noex b o e)⟩
theorem Inv.bk(I:Inv X pins σ H s):∀ b o,X.base.get? b=some o->s.heap.get? b=some o:=fun b o e=>(I.bs b o e).1
theorem Inv.mod(I:Inv X pins σ H s):Mod X.K X.mg X.base:=I.ok.mod
theorem Inv.kIn(I:Inv X pins σ H s):X.K.In s.heap:=I.ok.mod.kin.keeps I.bk
theorem Inv.lt(I:Inv X pins σ H s):X.env.locals < s.heap.objs.size:=let ⟨_,hn,_⟩:=I.loc;hn.lt
theorem Inv.sz(I:Inv X pins σ H s):X.s₀.heap.objs.size<=s.heap.objs.size:=Nat.le_trans I.ok.above (Nat.le_of_lt I.lt)
theorem Inv.nofs(I:Inv X pins σ H s){a:Addr}(h:s.heap.objs.size<=a):a∉X.fs:=fun hb=>by
 obtain ⟨_,o,ho,_⟩:=I.ok.funs.mem hb
 exact absurd (Nat.lt_of_lt_of_le (Heap.lt_size ho) (Nat.le_trans I.sz h)) (Nat.lt_irrefl _)
theorem Inv.cne(I:Inv X pins σ H s):∀ x c,X.env.cells.lookup x=some c->c≠X.env.locals:=fun x c e z=>by
 obtain ⟨v,o,ho,hd⟩:=I.cell x c e
 obtain ⟨m,⟨o',es,ep,ho',hd',_⟩,_⟩:=I.loc
 rw[z,ho'] at ho;cases ho;rw[hd'] at hd;cases hd
theorem Inv.funs(I:Inv X pins σ H s):s.heap.FunFrames X.base X.outer:=by
 have all:∀ (l:List Env),(∀ b∈frs l,b∈X.fs)->X.s₀.heap.FunFrames X.base l->s.heap.FunFrames X.base l:=by
  intro l
  induction l with
  | nil=>intro _ _;trivial
  | cons env r ih=>
   intro hs hl
   obtain ⟨hk,⟨L,o,hf,hn,ho,hd⟩,hr⟩:=hl
   have hL:L∈X.fs:=hs L (by unfold frs;rw[List.filterMap_cons,hf];exact List.mem_cons_self)
   obtain ⟨sl,e⟩:=I.base.slot L o ho (I.ok.frf L hL) hL fun z=>I.ok.exfs L z hL
   exact ⟨hk,⟨L,_,hf,hn,e,hd⟩,ih (fun b hb=>hs b (by unfold frs;rw[List.filterMap_cons,hf];exact List.mem_cons_of_mem _ hb)) hr⟩
 exact all X.outer (fun _ hb=>hb) I.ok.funs
theorem Inv.stack(I:Inv X pins σ H s):s.heap.FunFrames X.base X.stack:=by
 rcases I.ok.stk with e|⟨e,hf⟩
 ·rw[e];exact I.funs
 ·rw[e]
  obtain ⟨m,hn,_⟩:=I.loc
  refine .cons (by rw[I.ok.kind];decide) hf hn ?_ I.funs
  exact Heap.get?_none_of_le (Nat.le_trans I.ok.bsz I.ok.above)
theorem Inv.stkSub(I:Inv X pins σ H s):∀ b∈frs X.stack,b∈X.env.locals::X.fs:=fun b hb=>by
 rcases I.ok.stk with e|⟨e,hf⟩
 ·rw[e] at hb;exact List.mem_cons_of_mem _ hb
 ·rw[e] at hb
  unfold frs at hb
  rw[List.filterMap_cons,hf] at hb
  exact hb
theorem Inv.stkFree(I:Inv X pins σ H s):∀ b∈frs X.stack,H b=none:=fun b hb=>by
 rcases List.mem_cons.mp (I.stkSub b hb) with e|hb
 ·rw[e];exact I.free
 ·obtain ⟨_,o,ho,_⟩:=I.ok.funs.mem hb
  exact I.base.free b o ho (I.ok.frf b hb) fun z=>I.ok.exfs b z hb
theorem Inv.step{g':Array GenState}{t':Nat}{d':Drawn}{ch:List Addr}(I:Inv X pins σ H s)
  (hch:∀ b∈ch,(b∈X.ex\/X.s₀.heap.objs.size<=b)/\b≠X.env.locals/\(∀ x c,X.env.cells.lookup x=some c->c≠b)/\∀ p∈X.pn++pins,p.1≠b)
  (keep:∀ b o,b≠X.env.locals->b∉X.fs->b∉ch->s.heap.get? b=some o->H b=none->h'.get? b=some o)
  (slot:∀ b o,b≠X.env.locals->b∈X.fs->b∉ch->s.heap.get? b=some o->H b=none->∃ sl,h'.get? b=some {o with slots:=sl}) (free:∀ b o,b∉ch->s.heap.get? b=some o->H b=none->H' b=none)
  (there:∀ b o,b∉ch->s.heap.get? b=some o->∃ o',h'.get? b=some o')
  (tups:∀ b xs,H b=some (.tup xs)->H' b=some (.tup xs)) (frzs:∀ b o u,H b=some (.frz o u)->H' b=some (.frz o u)) (tbls:∀ b ps,H b=some (.tbl ps)->H' b=some (.tbl ps))
  (ns:∀ m,s.heap.Ns X.env.locals m->h'.Ns X.env.locals m) (hok:HOk X.prog X.w H' h') (hg:AllBare g') :
  Inv X pins σ H' {s with heap:=h',gens:=g',drawn:=d',toks:=t'}:=by
 have neL:∀ b o,X.s₀.heap.get? b=some o->b≠X.env.locals:=fun b o e=>Nat.ne_of_lt (Nat.lt_of_lt_of_le (Heap.lt_size e) I.ok.above)
 have neC:∀ b o,X.s₀.heap.get? b=some o->b∉X.ex->b∉ch:=fun b o e hx hb=>by
  rcases (hch b hb).1 with z|z
  ·exact hx z
  ·exact absurd (Nat.lt_of_lt_of_le (Heap.lt_size e) z) (Nat.lt_irrefl _)
 have cellK:∀ x c,X.env.cells.lookup x=some c->∀ v,s.heap.IsCell c v->h'.IsCell c v:=fun x c e v zz0=>by
  obtain ⟨o,ho,hd⟩:=zz0
  have nch:c∉ch:=fun z=>(hch c z).2.2.1 x c e rfl
  by_cases hc:c∈X.fs
  ·obtain ⟨sl,q⟩:=slot c o (I.cne x c e) hc nch ho (I.freeC x c e)
   exact ⟨_,q,hd⟩
  ·exact ⟨o,keep c o (I.cne x c e) hc nch ho (I.freeC x c e),hd⟩
 refine ⟨I.ok,I.os,hg,⟨fun b o e n hb hx=>?_,fun b o e n hb hx=>?_,fun b o e n hx=>?_,fun b o e hx=>?_,fun b xs e=>tups b xs (I.base.tups b xs e),fun b o xs e=>frzs b o xs (I.base.frzs b o xs e),fun b ps e=>?_⟩,?_,fun x c e=>?_,?_,fun x c e=>?_,fun p hp=>?_,hok,I.len⟩
 ·exact keep b o (neL b o e) hb (neC b o e hx) (I.base.keep b o e n hb hx) (I.base.free b o e n hx)
 ·obtain ⟨sl,e1⟩:=I.base.slot b o e n hb hx
  obtain ⟨sl',e2⟩:=slot b _ (neL b o e) hb (neC b o e hx) e1 (I.base.free b o e n hx)
  exact ⟨sl',e2⟩
 ·obtain ⟨o',e1⟩:=I.base.there b o e hx
  exact free b o' (neC b o e hx) e1 (I.base.free b o e n hx)
 ·obtain ⟨o',e1⟩:=I.base.there b o e hx
  exact there b o' (neC b o e hx) e1
 ·exact tbls b ps (I.base.tbls b ps e)
 ·obtain ⟨m,hn,hl⟩:=I.loc
  refine ⟨m,ns m hn,fun i x v e1 e2 e3=>?_⟩
  obtain ⟨u,r,l⟩:=hl i x v e1 e2 e3
  refine ⟨u,r,?_⟩
  rcases l with l|⟨k,c,e,z⟩
  ·exact .inl l
  ·exact .inr ⟨k,c,e,cellK x c e _ z⟩
 ·obtain ⟨v,z⟩:=I.cell x c e
  exact ⟨v,cellK x c e v z⟩
 ·obtain ⟨m,⟨o,_,_,ho,_⟩,_⟩:=I.loc
  exact free _ o (fun z=>(hch _ z).2.1 rfl) ho I.free
 ·obtain ⟨v,o,ho,hd⟩:=I.cell x c e
  exact free c o (fun z=>(hch c z).2.2.1 x c e rfl) ho (I.freeC x c e)
 ·obtain ⟨e,n,ne,nf,d⟩:=I.pin p hp
  have nch:p.1∉ch:=fun z=>(hch p.1 z).2.2.2 p hp rfl
  exact ⟨keep p.1 p.2 ne nf nch e n,free p.1 p.2 nch e n,ne,nf,d⟩
theorem Inv.un{t':Nat}(I:Inv X pins σ H s)(u:Un X.fs [] H H' s.heap h')(hok:HOk X.prog X.w H' h'):Inv X pins σ H' {s with heap:=h',toks:=t'}:=by
 obtain ⟨m,⟨o,es,ep,ho,r⟩,_⟩:=id I.loc
 obtain ⟨sl,hL⟩:=u.any ho I.free (by simp)
 exact I.step (g':=s.gens) (d':=s.drawn) (ch:=[]) (fun _ z=>nomatch z) (fun b o _ hb _ e n=>u.keep b o e n hb (by simp)) (fun b o _ hb _ e n=>u.slot b o e n hb (by simp)) (fun b o _ e n=>u.free b o e n (by simp)) (fun b o _ e=>u.there b o e (by simp)) u.tups u.frzs u.tbls (fun m' hm=>by
  obtain ⟨o',es',ep',ho',r'⟩:=hm
  rw[ho] at ho';cases ho'
  exact ⟨_,es',ep',hL,r'⟩) hok I.bare
theorem Inv.call{g':Array GenState}{t':Nat}{d':Drawn}{ch:List Addr}(I:Inv X pins σ H s)(u:Un (frs X.stack) ch H H' s.heap h')(hok:HOk X.prog X.w H' h')(hg:AllBare g')
  (hch:∀ b∈ch,(b∈X.ex\/X.s₀.heap.objs.size<=b)/\b≠X.env.locals/\(∀ x c,X.env.cells.lookup x=some c->c≠b)/\∀ p∈X.pn++pins,p.1≠b) :
  Inv X pins σ H' {s with heap:=h',gens:=g',drawn:=d',toks:=t'}:=by
 obtain ⟨m,⟨o,es,ep,ho,r⟩,_⟩:=id I.loc
 obtain ⟨sl,hL⟩:=u.any ho I.free fun z=>(hch _ z).2.1 rfl
 exact I.step (ch:=ch) hch (fun b o hL hb hc e n=>u.keep b o e n (fun z=>(List.mem_cons.mp (I.stkSub b z)).elim hL hb) hc) (fun b o _ _ hc e n=>u.any e n hc) (fun b o hc e n=>u.free b o e n hc) (fun b o hc e=>u.there b o e hc) u.tups u.frzs u.tbls (fun m' hm=>by
  obtain ⟨o',es',ep',ho',r'⟩:=hm
  rw[ho] at ho';cases ho'
  exact ⟨_,es',ep',hL,r'⟩) hok hg
theorem Inv.turned{t':Nat}{it:Addr}(I:Inv X pins σ H s)(k:∀ b o,b≠it->s.heap.get? b=some o->h'.get? b=some o)(hn:H it=none)(hL:it≠X.env.locals)
  (h1:it∈X.ex\/X.s₀.heap.objs.size<=it) (h2:∀ x c,X.env.cells.lookup x=some c->c≠it) (h3:∀ p∈X.pn++pins,p.1≠it):Inv X pins σ H {s with heap:=h',toks:=t'}:=by
 have nit:∀ b u,H b=some u->b≠it:=fun b u e z=>by rw[z,hn] at e;cases e
 refine I.step (g':=s.gens) (d':=s.drawn) (ch:=[it]) (fun b hb=>?_) (fun b o _ _ hc e _=>k b o (fun z=>hc (by simp[z])) e) (fun b o _ _ hc e _=>⟨o.slots,k b o (fun z=>hc (by simp[z])) e⟩) (fun _ _ _ _ n=>n)
  (fun b o hc e=>⟨o,k b o (fun z=>hc (by simp[z])) e⟩) (fun _ _ e=>e) (fun _ _ _ e=>e) (fun _ _ e=>e) (fun m hm=>?_) (fun b u e=>?_) I.bare
 ·have e:b=it:=by simpa using hb
  subst e
  exact ⟨h1,hL,h2,h3⟩
 ·obtain ⟨o,es,ep,ho,r⟩:=hm
  exact ⟨o,es,ep,k _ o (Ne.symm hL) ho,r⟩
 ·refine (I.hok b u e).stay (fun c v hc q=>k c v ?_ q) (fun _ q=>q) (fun _ _ q=>q) fun _ _ q=>q
  rcases hc with z|z
  · rw [z]; exact nit b u e
  · exact nit c _ z
theorem Inv.tok(I:Inv X pins σ H s)(t:Nat):Inv X pins σ H {s with toks:=t}:=I.un (h':=s.heap) (t':=t) Un.refl I.hok
theorem Inv.kept{t':Nat}(I:Inv X pins σ H s)(k:∀ b u,s.heap.get? b=some u->h'.get? b=some u):Inv X pins σ H {s with heap:=h',toks:=t'}:=I.un (Un.kept k) (I.hok.kept k)
theorem Inv.laid{a:Addr}{o:HO}{t':Nat}(I:Inv X pins σ H s)(k:∀ b u,s.heap.get? b=some u->h'.get? b=some u)(hp:s.heap.objs.size<=a)(new:bQ X.prog X.w (upd H a o) h' a o) :
 Inv X pins σ (upd H a o) {s with heap:=h',toks:=t'}:=I.un (Un.laid k hp (I.hok.fresh hp)) (I.hok.laid k hp new)
theorem Inv.write{x e:Addr}{o:HO}{t':Nat}(I:Inv X pins σ H s)(mu:Mut (H x))(he:e=x\/H e=some (.own x))(k:∀ b u,b≠e->s.heap.get? b=some u->h'.get? b=some u)(heo:∃ u,h'.get? e=some u)
 (new:bQ X.prog X.w (upd H x o) h' x o):Inv X pins σ (upd H x o) {s with heap:=h',toks:=t'}:=I.un (Un.write mu he k heo) (I.hok.write mu he k heo new)
theorem Inv.pins_of{pins':List (Addr×Obj)}(I:Inv X pins σ H s)(h:∀ p∈pins',s.heap.get? p.1=some p.2/\H p.1=none/\p.1≠X.env.locals/\p.1∉X.fs/\∀ v,p.2.data≠.cell v):Inv X pins' σ H s:=
 ⟨I.ok,I.os,I.bare,I.base,I.loc,I.cell,I.free,I.freeC,fun p hp=>(List.mem_append.mp hp).elim (fun z=>I.pin p (List.mem_append_left _ z)) (h p),I.hok,I.len⟩
theorem sC{N:List Str}(hN:N.Nodup){i j:Nat}{x:Str}(a:N[i]? = some x)(b:N[j]? = some x):i=j:=by
 obtain ⟨h1,e1⟩:=List.getElem?_eq_some_iff.mp a
 obtain ⟨h2,e2⟩:=List.getElem?_eq_some_iff.mp b
 exact (List.getElem_inj hN).mp (e1.trans e2.symm)
theorem qO{M:Model}{A:Around}{E:Value->Shared->Prop}{i:Nat}{x:Str}{v:V}{u:Value}{Q:Unit->Shared->Prop}(I:Inv X pins σ H s)(hN:X.N.Nodup)(hi:X.N[i]? = some x)(hx:Loc X.env.scope x)(r:aS v u)
  (h:∀ s',Inv X pins (σ.set i (some v)) H s'->(∃ a,Heap.SameBut a s.heap s'.heap/\(a=X.env.locals\/X.env.cells.lookup x=some a))->Q () s') (hf:X.fn x=true\/X.env.scope.names.lookup x=some .local):wpAny M A (storeName X.env x u) Q E s:=by
 obtain ⟨m,hn,hl⟩:=id I.loc
 have hcls:(X.env.scope.kind == .class || (X.env.scope.kind == .module && X.env.locals != X.env.globals))=false:=by rw[I.ok.kind];rfl
 have hiσ:i < σ.length:=by rw[I.len];exact (List.getElem?_eq_some_iff.mp hi).1
 have cne:=I.cne
 have tracked:∀ {a:Addr} {h':Heap},(∃ o,s.heap.get? a=some o/\H a=none)->Heap.SameBut a s.heap h'->HOk X.prog X.w H h':=fun {a h'} ha hs b ob e=>by
  obtain ⟨_,_,hfree⟩:=ha
  refine (I.hok b ob e).stay (fun c w' hc q=>(hs.2 c ?_).trans q) (fun _ q=>q) (fun _ _ q=>q) fun _ _ q=>q
  rintro rfl
  rcases hc with rfl|hc
  ·rw[hfree] at e;cases e
  ·rw[hfree] at hc;cases hc
 rcases hx with hk|hk
 ·refine wpAny_storeName_local hk hn (fun h' hn' hs=>?_) hcls
  obtain ⟨oL,_,_,hoL,_⟩:=id hn
  refine h _ ⟨I.ok,I.os,I.bare,⟨fun b o e n hb hx=>?_,fun b o e n hb hx=>?_,I.base.free,fun b o e hx=>?_,I.base.tups,I.base.frzs,I.base.tbls⟩,⟨_,hn',fun j y v' e1 e2 e3=>?_⟩,fun y c e=>?_,I.free,I.freeC,fun p hp=>?_,tracked ⟨oL,hoL,I.free⟩ hs,by simpa using I.len⟩ ⟨_,hs,.inl rfl⟩
  ·exact (hs.2 b (Nat.ne_of_lt (Nat.lt_of_lt_of_le (Heap.lt_size e) I.ok.above))).trans (I.base.keep b o e n hb hx)
  ·obtain ⟨sl,e1⟩:=I.base.slot b o e n hb hx
   exact ⟨sl,(hs.2 b (Nat.ne_of_lt (Nat.lt_of_lt_of_le (Heap.lt_size e) I.ok.above))).trans e1⟩
  ·obtain ⟨o',e1⟩:=I.base.there b o e hx
   exact ⟨o',(hs.2 b (Nat.ne_of_lt (Nat.lt_of_lt_of_le (Heap.lt_size e) I.ok.above))).trans e1⟩
  ·by_cases hj:j=i
   ·subst hj
    rw[hi] at e1;cases e1
    rw[List.getElem?_set_self hiσ] at e2
    cases e2
    exact ⟨u,r,.inl ⟨hk,by simp⟩⟩
   ·rw[List.getElem?_set_ne (Ne.symm hj)] at e2
    obtain ⟨u',r',q⟩:=hl j y v' e1 e2 e3
    refine ⟨u',r',?_⟩
    rcases q with ⟨k,e⟩|⟨k,c,e,z⟩
    ·refine .inl ⟨k,?_⟩
     have:y≠x:=fun e=>hj (sC hN e1 (e▸hi))
     simp[this,e]
    ·exact .inr ⟨k,c,e,z.sameBut hs (cne y c e)⟩
  ·obtain ⟨w',z⟩:=I.cell y c e
   exact ⟨w',z.sameBut hs (cne y c e)⟩
  ·obtain ⟨e,n,ne,nf,d⟩:=I.pin p hp
   exact ⟨(hs.2 p.1 ne).trans e,n,ne,nf,d⟩
 ·have hfn:X.fn x=true:=by
   rcases hf with z|z
   ·exact z
   ·rw[z] at hk;cases hk
  obtain ⟨c,hc⟩:=I.ok.has x (.inl hk)
  obtain ⟨w',z⟩:=I.cell x c hc
  refine wpAny_storeName_cell I.ok.kind hk hc z (fun h' hc' hs=>?_)
  obtain ⟨oc,hoc,hocd⟩:=id z
  refine h {s with heap:=h'} ⟨I.ok,I.os,I.bare,⟨fun b o e n hb hx=>?_,fun b o e n hb hx=>?_,I.base.free,fun b o e hx=>?_,I.base.tups,I.base.frzs,I.base.tbls⟩,⟨m,hn.sameBut hs (Ne.symm (cne x c hc)),fun j y v' e1 e2 e3=>?_⟩,fun y c' e=>?_,I.free,I.freeC,fun p hp=>?_,tracked ⟨oc,hoc,I.freeC x c hc⟩ hs,by simpa using I.len⟩ ⟨c,hs,.inr hc⟩
  ·exact (hs.2 b (Nat.ne_of_lt (Nat.lt_of_lt_of_le (Heap.lt_size e) (I.ok.cab x c hfn hc)))).trans (I.base.keep b o e n hb hx)
  ·obtain ⟨sl,e1⟩:=I.base.slot b o e n hb hx
   exact ⟨sl,(hs.2 b (Nat.ne_of_lt (Nat.lt_of_lt_of_le (Heap.lt_size e) (I.ok.cab x c hfn hc)))).trans e1⟩
  ·obtain ⟨o',e1⟩:=I.base.there b o e hx
   exact ⟨o',(hs.2 b (Nat.ne_of_lt (Nat.lt_of_lt_of_le (Heap.lt_size e) (I.ok.cab x c hfn hc)))).trans e1⟩
  ·by_cases hj:j=i
   ·subst hj
    rw[hi] at e1;cases e1
    rw[List.getElem?_set_self hiσ] at e2
    cases e2
    exact ⟨u,r,.inr ⟨.inl hk,c,hc,hc'⟩⟩
   ·rw[List.getElem?_set_ne (Ne.symm hj)] at e2
    obtain ⟨u',r',q⟩:=hl j y v' e1 e2 e3
    refine ⟨u',r',?_⟩
    rcases q with q|⟨k,c',e,z'⟩
    ·exact .inl q
    ·refine .inr ⟨k,c',e,z'.sameBut hs ?_⟩
     rintro rfl
     exact hj (sC hN e1 (I.ok.inj _ _ _ e hc▸hi))
  ·by_cases hcc:c'=c
   ·subst hcc;exact ⟨_,hc'⟩
   ·obtain ⟨w2,z2⟩:=I.cell y c' e
    exact ⟨w2,z2.sameBut hs hcc⟩
  ·obtain ⟨e,n,ne,nf,d⟩:=I.pin p hp
   refine ⟨(hs.2 p.1 ?_).trans e,n,ne,nf,d⟩
   intro q
   rw[q,hoc] at e
   have q':oc=p.2:=Option.some.inj e
   exact d w' (by rw[<-q'];exact hocd)
theorem nY{M:Model}{A:Around}{E:Value->Shared->Prop}{i:Nat}{x:Str}{v:V}{u:Value}{Q:Unit->Shared->Prop}(I:Inv X pins σ H s)(hN:X.N.Nodup)(hi:X.N[i]? = some x)(hx:Loc X.env.scope x)(r:aS v u)
  (h:∀ s',Inv X pins (σ.set i (some v)) H s'->Q () s') (hf:X.fn x=true\/X.env.scope.names.lookup x=some .local):wpAny M A (storeName X.env x u) Q E s:=
 qO I hN hi hx r (fun s' I' _=>h s' I') hf
theorem Inv.call'{s':Shared}{ch:List Addr}(I:Inv X pins σ H s)(ho:s'.os=s.os)(u:Un (frs X.stack) ch H H' s.heap s'.heap)(hok:HOk X.prog X.w H' s'.heap)(hg:AllBare s'.gens)
  (hch:∀ b∈ch,(b∈X.ex\/X.s₀.heap.objs.size<=b)/\b≠X.env.locals/\(∀ x c,X.env.cells.lookup x=some c->c≠b)/\∀ p∈X.pn++pins,p.1≠b):Inv X pins σ H' s':=by
 obtain ⟨h',g',d',t',o'⟩:=s'
 have e:o'=s.os:=ho
 subst e
 exact I.call (g':=g') (t':=t') (d':=d') u hok hg hch
end
abbrev XK:=Value->Option Addr->Hp->Prop
abbrev St:=List (Option V)
abbrev VK:=V->Hp->Prop
abbrev TE:=St->Hp->VK->Prop
abbrev TT:=St->Hp->(Bool->Hp->Prop)->Prop
abbrev TA:=St->Hp->(List V->Hp->Prop)->Prop
structure iB where
 nx:St->Hp->Prop
 rt:VK
 bk:St->Hp->Prop:=fun _ _=>False
 ct:St->Hp->Prop:=fun _ _=>False
abbrev TS:=iB->St->Hp->Prop
def EP(X:Cx)(pins:List (Addr×Obj))(σ:St)(Q:VK)(u:Value)(s':Shared):Prop:=∃ v H',Inv X pins σ H' s'/\aS v u/\Q v H'
def TP(X:Cx)(pins:List (Addr×Obj))(σ:St)(Q:Bool->Hp->Prop)(b:Bool)(s':Shared):Prop:=∃ H',Inv X pins σ H' s'/\Q b H'
def AP(X:Cx)(pins:List (Addr×Obj))(σ:St)(Q:List V->Hp->Prop)(us:List Value)(s':Shared):Prop:=∃ vs H',Inv X pins σ H' s'/\aZ vs us/\Q vs H'
def SP(X:Cx)(pins:List (Addr×Obj))(D:iB)(f:Flow)(s':Shared):Prop:=
 match f with
 | .next=>∃ σ' H',Inv X pins σ' H' s'/\D.nx σ' H'
 | .brk=>∃ σ' H',Inv X pins σ' H' s'/\D.bk σ' H'
 | .cont=>∃ σ' H',Inv X pins σ' H' s'/\D.ct σ' H'
 | .ret u=>∃ v σ' H',Inv X pins σ' H' s'/\aS v u/\D.rt v H'
def PE(X:Cx)(e:Expr)(t:TE):Prop:=
 ∀ (pins:List (Addr×Obj)) (s:Shared) (σ:St) (H:Hp) (Q:VK),Inv X pins σ H s->t σ H Q->wpAny (model X.prog X.w) X.A (eval e X.env) (EP X pins σ Q) X.xe s
def PT(X:Cx)(e:Expr)(t:TT):Prop:=
 ∀ (pins:List (Addr×Obj)) (s:Shared) (σ:St) (H:Hp) (Q:Bool->Hp->Prop),Inv X pins σ H s->t σ H Q->wpAny (model X.prog X.w) X.A (isTrue e X.env (eval e X.env)) (TP X pins σ Q) X.xe s
def PW(X:Cx)(e:Expr)(t:TT):Prop:=
 ∀ (whole:Sem Value) (pins:List (Addr×Obj)) (s:Shared) (σ:St) (H:Hp) (Q:Bool->Hp->Prop),Inv X pins σ H s->t σ H Q->wpAny (model X.prog X.w) X.A (isTrue e X.env whole) (TP X pins σ Q) X.xe s
theorem PW.pt{X:Cx}{e:Expr}{t:TT}(h:PW X e t):PT X e t:=h _
def PA(X:Cx)(es:List Expr)(t:TA):Prop:=
 ∀ (pos:Pos) (pins:List (Addr×Obj)) (s:Shared) (σ:St) (H:Hp) (Q:List V->Hp->Prop),Inv X pins σ H s->t σ H Q->wpAny (model X.prog X.w) X.A (spliced (backTo pos (starEach es X.env))) (AP X pins σ Q) X.xe s
def PS(X:Cx)(st:Stmt)(t:TS):Prop:=
 ∀ (pins:List (Addr×Obj)) (s:Shared) (σ:St) (H:Hp) (D:iB),Inv X pins σ H s->t D σ H->wpAny (model X.prog X.w) X.A (exec st X.env) (SP X pins D) X.xe s
def PSs(X:Cx)(st:List Stmt)(t:TS):Prop:=
 ∀ (pins:List (Addr×Obj)) (s:Shared) (σ:St) (H:Hp) (D:iB),Inv X pins σ H s->t D σ H->wpAny (model X.prog X.w) X.A (execs st X.env) (SP X pins D) X.xe s
theorem thn{α:Type}{t:Sem α}{Q Q':α->Shared->Prop}{M:Model}{A:Around}{E:Value->Shared->Prop}{s:Shared}(h:wpAny M A t Q E s)(hQ:∀ a s,Q a s->Q' a s):wpAny M A t Q' E s:=wpAny_mono h hQ fun _ _ x=>x
end L2
namespace L2
open PySem PySem.Spec PyProof.Rows
section
variable{X:Cx}
def i5(i:Nat):TE:=fun σ H Q=>∃ v,σ[i]? = some (some v)/\Q v H
def tC(v:V):TE:=fun _ H Q=>Q v H
theorem aFB{i:Nat}{x:Str}{pos:Pos}(hN:X.N[i]? = some x)(hv:Vis X.env.scope x)(hd:(x == ("__debug__":Str))=false:=by decide)(hcd:(x == ("__classdict__":Str))=false:=by decide):PE X (.Name x pos) (i5 i):=by
 intro pins s σ H Q I h
 obtain ⟨v,e,h⟩:=h
 obtain ⟨m,hn,hl⟩:=I.loc
 obtain ⟨u,r,l⟩:=hl i x v hN e hv
 have fin:EP X pins σ Q u s:=⟨v,H,I,r,h⟩
 rcases l with ⟨hk,hm⟩|⟨hk,c,hc,hcell⟩
 ·exact wpAny_Name (wpAny_loadName_local I.ok.kind hk hn hm fin) hd
 ·rcases hk with hk|hk
  · exact wpAny_Name (wpAny_loadName_cell I.ok.kind hk hc hcell fin) hd
  · exact wpAny_Name (wpAny_loadName_free I.ok.kind hk hc hcell fin hcd) hd
theorem aFC{i j pos}:PE X (.Constant (.int i) j pos) (tC (.int i)):=fun _ _ _ H _ I h=>wpAny_Constant_int ⟨.int i,H,I.tok _,⟨_,rfl⟩,h⟩
theorem aH4{b j pos}:PE X (.Constant (.bool b) j pos) (tC (.bl b)):=fun _ _ _ H _ I h=>Constant_bool ⟨.bl b,H,I,rfl,h⟩
theorem sD{x j pos}:PE X (.Constant (.str x) j pos) (tC (.str x)):=fun _ _ _ H _ I h=>Calls.Constant_str ⟨.str x,H,I.tok _,⟨_,rfl⟩,h⟩
def Gl(X:Cx)(x:Str):Prop:=X.env.kindOf x=some .globalImplicit
theorem jE{E:Value->Shared->Prop}{pins:List (Addr×Obj)}{s:Shared}{σ:St}{H:Hp}{x:Str}{u:Value}{pos:Pos}{Q:Value->Shared->Prop}(I:Inv X pins σ H s)(hg:Gl X x)(hm:X.mg x=some u)(h:Q u s)
  (hd:(x == ("__debug__":Str))=false:=by decide):wpAny (model X.prog X.w) X.A (eval (.Name x pos) X.env) Q E s:=
 Calls.Name_function_global I.ok.kind hg (Calls.loadGlobal_global (by rw[I.ok.glob];exact I.mod.glob.keeps I.bk) hm h) hd
theorem lZ{E:Value->Shared->Prop}{pins:List (Addr×Obj)}{s:Shared}{σ:St}{H:Hp}{x:Str}{u:Value}{pos:Pos}{Q:Value->Shared->Prop}(I:Inv X pins σ H s)(hg:Gl X x)(hm:X.mg x=none)(hv:bootBuiltins x=some u)(h:Q u s)
  (hn:x≠"__name__":=by decide) (hd:(x == ("__debug__":Str))=false:=by decide):wpAny (model X.prog X.w) X.A (eval (.Name x pos) X.env) Q E s:=by
 obtain ⟨mb,h1,h2⟩:=I.mod.blt
 exact Calls.Name_function_global I.ok.kind hg (Calls.loadGlobal_builtin (by rw[I.ok.glob];exact I.mod.glob.keeps I.bk) hm (by rw[I.ok.blt];exact h1.keeps I.bk) ((h2 x hn).trans hv) h) hd
theorem kI{x:Str}{v:V}{u:Value}{pos:Pos}(hg:Gl X x)(hm:X.mg x=some u)(r:aS v u)(hd:(x == ("__debug__":Str))=false:=by decide):PE X (.Name x pos) (tC v):=
 fun _ _ _ H _ I h=>jE I hg hm ⟨v,H,I,r,h⟩ hd
theorem aCU{x:Str}{v:V}{u:Value}{pos:Pos}(hg:Gl X x)(hm:X.mg x=none)(hv:bootBuiltins x=some u)(r:aS v u)(hn:x≠"__name__":=by decide)(hd:(x == ("__debug__":Str))=false:=by decide):PE X (.Name x pos) (tC v):=
 fun _ _ _ H _ I h=>lZ I hg hm hv ⟨v,H,I,r,h⟩ hn hd
variable{a b:Expr}{ta tb:TE}{pos:Pos}
def PC(X:Cx)(op:CmpOp)(a b:Expr)(t:TE):Prop:=
 ∀ (pins:List (Addr×Obj)) (s:Shared) (σ:St) (H:Hp) (Q:VK),Inv X pins σ H s->t σ H Q->
  wpAny (model X.prog X.w) X.A (eval a X.env) (fun v s₁=>wpAny (model X.prog X.w) X.A (eval b X.env) (fun u s₂=>wpAny (model X.prog X.w) X.A (compareOp op v u) (EP X pins σ Q) X.xe s₂) X.xe s₁) X.xe s
theorem aAM(b:Expr){op:CmpOp}(h:op≠.In)(h2:op≠.NotIn):behindInMarks op b=false:=by
 have e1:(op == CmpOp.In)=false:=by cases op<;>first|rfl|exact absurd rfl h
 have e2:(op == CmpOp.NotIn)=false:=by cases op<;>first|rfl|exact absurd rfl h2
 cases b<;>simp[behindInMarks,e1,e2]
def tB(t:TE):TT:=fun σ H Q=>t σ H fun x H1=>∃ c,x=.bl c/\Q c H1
theorem dF{op:CmpOp}{t:TE}(h:PC X op a b t)(h1:behindInMarks op b=false:=by first|exact aAM _ (by decide) (by decide)|rfl):PT X (.Compare a [op] [b] pos) (tB t):=by
 intro pins s σ H Q I hw
 refine wpAny_isTrue_Compare1 (thn (h pins s σ H _ I hw) fun v s1 h1=>thn h1 fun u s2 h2=>thn h2 fun c s3 zz0=>?_) h1
 obtain ⟨x,H1,I1,r1,q1⟩:=zz0
 obtain ⟨d,rfl,q⟩:=q1
 cases r1
 exact wpAny_truthy_bool ⟨H1,I1,q⟩
theorem kJ{e:Expr}{t:TE}(h:PE X e t)(he:∀ whole,isTrue e X.env whole=(do let v <-whole;standAt e.pos;holding [v] (truthy v)):=by intro _;rfl):PT X e (tB t):=by
 intro pins s σ H Q I hw
 refine isTrue_plain (thn (h pins s σ H _ I hw) fun v s1 zz0=>?_) (he _)
 obtain ⟨x,H1,I1,r1,q1⟩:=zz0
 obtain ⟨d,rfl,q⟩:=q1
 cases r1
 exact wpAny_truthy_bool ⟨H1,I1,q⟩
variable{tA tB':TT}{rest:List Expr}
def aFD(t u:TT):TT:=fun σ H Q=>t σ H fun c H1=>if c=true then u σ H1 Q else Q false H1
def tOr(t u:TT):TT:=fun σ H Q=>t σ H fun c H1=>if c=true then Q true H1 else u σ H1 Q
def aJR(t:TT):TT:=fun σ H Q=>t σ H fun c H1=>Q (!c) H1
theorem mZ(ha:PT X a tA):PW X (.BoolOp .And [a] pos) tA:=by
 intro wh pins s σ H Q I h
 refine isTrue_and (thn (ha pins s σ H Q I h) fun c s1 e=>?_)
 cases c with
 | true=>exact isTrue_and_nil e
 | false=>exact e
theorem sE(ha:PT X a tA):PW X (.BoolOp .Or [a] pos) tA:=by
 intro wh pins s σ H Q I h
 refine isTrue_or (thn (ha pins s σ H Q I h) fun c s1 e=>?_)
 cases c with
 | false=>exact isTrue_or_nil e
 | true=>exact e
theorem oQ(ha:PT X a tA)(hb:PW X (.BoolOp .And (b::rest) pos) tB'):PW X (.BoolOp .And (a::b::rest) pos) (aFD tA tB'):=by
 intro wh pins s σ H Q I h
 refine isTrue_and (thn (ha pins s σ H _ I h) fun c s1 zz0=>?_)
 obtain ⟨H1,I1,q1⟩:=zz0
 cases c with
 | true=>exact hb wh pins s1 σ H1 Q I1 q1
 | false=>exact ⟨H1,I1,q1⟩
theorem wK(ha:PT X a tA)(hb:PW X (.BoolOp .Or (b::rest) pos) tB'):PW X (.BoolOp .Or (a::b::rest) pos) (tOr tA tB'):=by
 intro wh pins s σ H Q I h
 refine isTrue_or (thn (ha pins s σ H _ I h) fun c s1 zz0=>?_)
 obtain ⟨H1,I1,q1⟩:=zz0
 cases c with
 | true=>exact ⟨H1,I1,q1⟩
 | false=>exact hb wh pins s1 σ H1 Q I1 q1
theorem l0(ha:PT X a tA):PT X (.UnaryOp .Not a pos) (aJR tA):=by
 intro pins s σ H Q I h
 exact isTrue_not (ha pins s σ H (fun c H1=>Q (!c) H1) I h)
def aH5(ta tb:TE):TE:=fun σ H Q=>ta σ H fun x H1=>∃ c,x=.bl c/\if c=true then tb σ H1 Q else Q (.bl false) H1
theorem aFE{op}{t:TE}(h:PE X a t):PE X (.BoolOp op [a] pos) t:=fun pins s σ H Q I hw=>BoolOp_one (h pins s σ H Q I hw)
theorem aFF(ha:PE X a ta)(hb:PE X (.BoolOp .And (b::rest) pos) tb):PE X (.BoolOp .And (a::b::rest) pos) (aH5 ta tb):=by
 intro pins s σ H Q I h
 refine BoolOp_and (thn (ha pins s σ H _ I h) fun v s1 zz0=>?_)
 obtain ⟨x,H1,I1,r1,q1⟩:=zz0
 obtain ⟨c,rfl,q1⟩:=q1
 cases r1
 refine wpAny_truthy_bool ?_
 cases c with
 | true=>exact hb pins s1 σ H1 Q I1 q1
 | false=>exact ⟨.bl false,H1,I1,rfl,q1⟩
def tIf(t:TT)(ta tb:TE):TE:=fun σ H Q=>t σ H fun c H1=>if c=true then ta σ H1 Q else tb σ H1 Q
theorem aAN{c:Expr}(hc:PT X c tA)(ha:PE X a ta)(hb:PE X b tb):PE X (.IfExp c a b pos) (tIf tA ta tb):=by
 intro pins s σ H Q I h
 refine wpAny_IfExp (thn (hc pins s σ H _ I h) fun d s1 zz0=>?_)
 obtain ⟨H1,I1,q1⟩:=zz0
 cases d with
 | true=>exact ha pins s1 σ H1 Q I1 q1
 | false=>exact hb pins s1 σ H1 Q I1 q1
end
end L2
namespace L2
open PySem PySem.Spec PyProof.Rows
def SqL(K:Frag)(H:Hp)(a:Addr)(xs:List V):Prop:=
 Rd H a (.lst xs) \/
  ∃ (o:Obj) (its:Array Value) (n:Nat),K.lookup a=some o/\o.cls=.type "list"/\o.dict=none/\o.data=.seq its n/\its.size<=sizeLine/\aZ xs its.toList
def SqT(K:Frag)(H:Hp)(a:Addr)(xs:List V):Prop:=
 Rd H a (.tup xs) \/
  ∃ (o:Obj) (its:Array Value) (n:Nat),K.lookup a=some o/\o.cls=.type "tuple"/\o.data=.seq its n/\its.size<=sizeLine/\aZ xs its.toList
noncomputable def aJS:Value->Option V
 | .none=>some .non
 | .bool b=>some (.bl b)
 | .int i _=>some (.int i)
 | .str x _=>some (.str x)
 | .bytes b _=>some (.byt b)
 | .float b _=>some (.flt b)
 | .ref a=>some (.ref a)
 | .type n=>some (.ty n)
 | _=>none
theorem aS.abs{x:V}{u:Value}(r:aS x u):aJS u=some x:=by
 cases x with
 | non=>cases r;rfl
 | bl _=>cases r;rfl
 | int _=>obtain ⟨t,rfl⟩:=r;rfl
 | str _=>obtain ⟨t,rfl⟩:=r;rfl
 | byt _=>obtain ⟨t,rfl⟩:=r;rfl
 | flt _=>obtain ⟨t,rfl⟩:=r;rfl
 | ref _=>cases r;rfl
 | ty _=>cases r;rfl
theorem aS.inj{x y:V}{u:Value}(r:aS x u)(q:aS y u):x=y:=Option.some.inj (r.abs.symm.trans q.abs)
theorem aZ.inj:∀ {xs ys:List V} {us:List Value},aZ xs us->aZ ys us->xs=ys
 | _,_,_,.nil,.nil=>rfl
 | _,_,_,.cons r t,.cons r' t'=>by rw[r.inj r',aZ.inj t t']
section
variable{X:Cx}{pins:List (Addr×Obj)}{σ:St}{H:Hp}{s:Shared}{a:Addr}{xs ys:List V}
theorem SqL.of{K:Frag}(h:H a=some (.lst xs)):SqL K H a xs:=.inl (.inl h)
theorem SqT.of{K:Frag}(h:H a=some (.tup xs)):SqT K H a xs:=.inl (.inl h)
theorem Inv.list(I:Inv X pins σ H s)(h:SqL X.K H a xs):∃ its:List Value,aZ xs its/\PlainL s.heap a its.toArray/\xs.length<=sizeLine:=by
 rcases h with h|⟨o,its,n,hk,hc,hd,hs,hz,r⟩
 ·obtain ⟨z,its,n,r,e⟩:=h.ok I.hok
  exact ⟨its,r,⟨_,n,e,rfl,rfl,rfl⟩,z⟩
 ·refine ⟨its.toList,r,⟨o,n,I.kIn a o hk,hc,hd,by simpa using hs⟩,?_⟩
  have e:=r.length
  simp only[Array.length_toList] at e
  omega
theorem Inv.tuple(I:Inv X pins σ H s)(h:SqT X.K H a xs):∃ its:List Value,aZ xs its/\IsTup s.heap a its.toArray/\xs.length<=sizeLine:=by
 rcases h with h|⟨o,its,n,hk,hc,hs,hz,r⟩
 ·obtain ⟨z,its,r,p⟩:=h.ok I.hok
  exact ⟨its,r,p,z⟩
 ·refine ⟨its.toList,r,⟨o,I.kIn a o hk,hc,n,by simpa using hs⟩,?_⟩
  have e:=r.length
  simp only[Array.length_toList] at e
  omega
theorem Inv.list_inj(I:Inv X pins σ H s)(h:SqL X.K H a xs)(h':SqL X.K H a ys):xs=ys:=by
 obtain ⟨its,r,⟨o,n,e,_,_,d⟩,_⟩:=I.list h
 obtain ⟨its',r',⟨o',n',e',_,_,d'⟩,_⟩:=I.list h'
 rw[e] at e';cases e'
 rw[d] at d'
 injection d' with d1 _
 have:its=its':=by simpa using congrArg Array.toList d1
 subst this
 exact r.inj r'
theorem Inv.tuple_inj(I:Inv X pins σ H s)(h:SqT X.K H a xs)(h':SqT X.K H a ys):xs=ys:=by
 obtain ⟨its,r,⟨o,e,_,n,d⟩,_⟩:=I.tuple h
 obtain ⟨its',r',⟨o',e',_,n',d'⟩,_⟩:=I.tuple h'
 rw[e] at e';cases e'
 rw[d] at d'
 injection d' with d1 _
 have:its=its':=by simpa using congrArg Array.toList d1
 subst this
 exact r.inj r'
end
abbrev Cx.wish(X:Cx)(E:Value->Shared->Prop):Cx:={X with xe:=E}
abbrev Cx.nox(X:Cx):Cx:=X.wish fun _ _=>False
theorem Cx.Ok.wish{X:Cx}(ok:X.Ok)(E:Value->Shared->Prop):(X.wish E).Ok:=
 ⟨ok.mod,ok.kind,ok.glob,ok.blt,ok.above,ok.inj,ok.has,ok.cab,ok.hd,ok.frames,ok.stk,ok.exf,ok.bs,ok.bsz,ok.noex,ok.exfs,ok.funs,ok.frf⟩
theorem Cx.Ok.unwish{X:Cx}{E:Value->Shared->Prop}(ok:(X.wish E).Ok):X.Ok:=
 ⟨ok.mod,ok.kind,ok.glob,ok.blt,ok.above,ok.inj,ok.has,ok.cab,ok.hd,ok.frames,ok.stk,ok.exf,ok.bs,ok.bsz,ok.noex,ok.exfs,ok.funs,ok.frf⟩
section
variable{X:Cx}{pins:List (Addr×Obj)}{σ:St}{H:Hp}{s:Shared}{E:Value->Shared->Prop}
theorem Inv.wish(I:Inv X pins σ H s)(E:Value->Shared->Prop):Inv (X.wish E) pins σ H s:=⟨I.ok.wish E,I.os,I.bare,I.base,I.loc,I.cell,I.free,I.freeC,I.pin,I.hok,I.len⟩
theorem Inv.unwish(I:Inv (X.wish E) pins σ H s):Inv X pins σ H s:=⟨I.ok.unwish,I.os,I.bare,I.base,I.loc,I.cell,I.free,I.freeC,I.pin,I.hok,I.len⟩
theorem SP.unwish{D:iB}{f:Flow}{s':Shared}(h:SP (X.wish E) pins D f s'):SP X pins D f s':=by
 cases f with
 | next=>obtain ⟨σ',H',I,q⟩:=h;exact ⟨σ',H',I.unwish,q⟩
 | brk=>obtain ⟨σ',H',I,q⟩:=h;exact ⟨σ',H',I.unwish,q⟩
 | cont=>obtain ⟨σ',H',I,q⟩:=h;exact ⟨σ',H',I.unwish,q⟩
 | ret u=>obtain ⟨v,σ',H',I,r,q⟩:=h;exact ⟨v,σ',H',I.unwish,r,q⟩
theorem PE.nox{e:Expr}{t:TE}(h:PE X.nox e t):PE X e t:=fun pins s σ H Q I hw=>
 wpAny_mono (h pins s σ H Q (I.wish _) hw) (fun _ _ ⟨v,H',I',r,q⟩=>⟨v,H',I'.unwish,r,q⟩) fun _ _ z=>False.elim z
theorem PT.nox{e:Expr}{t:TT}(h:PT X.nox e t):PT X e t:=fun pins s σ H Q I hw=>
 wpAny_mono (h pins s σ H Q (I.wish _) hw) (fun _ _ ⟨H',I',q⟩=>⟨H',I'.unwish,q⟩) fun _ _ z=>False.elim z
theorem PSs.nox{st:List Stmt}{t:TS}(h:PSs X.nox st t):PSs X st t:=fun pins s σ H D I hw=>
 wpAny_mono (h pins s σ H D (I.wish _) hw) (fun _ _ q=>q.unwish) fun _ _ z=>False.elim z
end
section
variable{X:Cx}{st:Stmt}{rest:List Stmt}{t u:TS}{e:Expr}{te:TE}{pos:Pos}
def aH6:TS:=fun D σ H=>D.nx σ H
def aJT(t u:TS):TS:=fun D σ H=>t {D with nx:=u D} σ H
theorem dH:PSs X [] aH6:=fun _ _ σ H _ I h=>wpAny_execs_nil ⟨σ,H,I,h⟩
theorem aI(h1:PS X st t)(h2:PSs X rest u):PSs X (st::rest) (aJT t u):=by
 intro pins s σ H D I h
 refine wpAny_execs_cons (thn (h1 pins s σ H {D with nx:=u D} I h) fun f s1 q=>?_)
 cases f with
 | next=>
  obtain ⟨σ',H',I',q⟩:=q
  exact h2 pins s1 σ' H' D I' q
 | ret v=>exact q
 | brk=>exact q
 | cont=>exact q
theorem aO(h1:PS X st t):PSs X [st] t:=by
 intro pins s σ H D I h
 refine wpAny_execs_cons (thn (h1 pins s σ H D I h) fun f s1 q=>?_)
 cases f with
 | next=>exact wpAny_execs_nil q
 | ret v=>exact q
 | brk=>exact q
 | cont=>exact q
theorem Inv.quiet{pins:List (Addr×Obj)}{σ:St}{H:Hp}{s:Shared}(I:Inv X pins σ H s):interactive X.env=false:=by simp[interactive,I.ok.kind]
def wL(te:TE):TS:=fun D σ H=>te σ H fun _ H1=>D.nx σ H1
theorem iC(he:PE X e te)(hs:swapsWith e none pos.line X.env=pure false:=by rfl):PS X (.Expr e pos) (wL te):=by
 intro pins s σ H D I h
 exact wpAny_Expr_any (thn (he pins s σ H _ I h) fun v s1 ⟨x,H1,I1,r1,q1⟩=>⟨σ,H1,I1,q1⟩) I.quiet hs
def aJU(te:TE):TS:=fun D σ H=>te σ H D.rt
theorem bO(he:PE X e te):PS X (.Return (some e) pos) (aJU te):=by
 intro pins s σ H D I h
 exact wpAny_Return_some (thn (he pins s σ H _ I h) fun v s1 ⟨x,H1,I1,r1,q1⟩=>⟨x,σ,H1,I1,r1,q1⟩)
def aJV(c:TT)(t u:TS):TS:=fun D σ H=>c σ H fun b H1=>if b=true then t D σ H1 else u D σ H1
theorem eX{c:Expr}{a b:List Stmt}{tc:TT}(hc:PT X c tc)(ha:PSs X a t)(hb:PSs X b u):PS X (.If c a b pos) (aJV tc t u):=by
 intro pins s σ H D I h
 refine wpAny_If (thn (hc pins s σ H _ I h) fun d s1 zz0=>?_)
 obtain ⟨H1,I1,q1⟩:=zz0
 cases d with
 | true=>exact ha pins s1 σ H1 D I1 q1
 | false=>exact hb pins s1 σ H1 D I1 q1
end
abbrev TG:=V->St->Hp->(St->Hp->Prop)->Prop
abbrev TGs:=List V->St->Hp->(St->Hp->Prop)->Prop
def PG(X:Cx)(target:Expr)(t:TG):Prop:=
 ∀ (pins:List (Addr×Obj)) (s:Shared) (σ:St) (H:Hp) (v:V) (u:Value) (Q:St->Hp->Prop),Inv X pins σ H s->aS v u->t v σ H Q->
  wpAny (model X.prog X.w) X.A (assign target X.env u) (fun _ s'=>∃ σ' H',Inv X pins σ' H' s'/\Q σ' H') X.xe s
def PGs(X:Cx)(ts:List Expr)(t:TGs):Prop:=
 ∀ (pins:List (Addr×Obj)) (s:Shared) (σ:St) (H:Hp) (vs:List V) (us:List Value) (Q:St->Hp->Prop),Inv X pins σ H s->aZ vs us->t vs σ H Q->
  wpAny (model X.prog X.w) X.A (assignInOrder ((assignEach ts X.env).map (·.2)) us) (fun _ s'=>∃ σ' H',Inv X pins σ' H' s'/\Q σ' H') X.xe s
abbrev wM:=V->V->V->Hp->(Hp->Prop)->Prop
def aFG(X:Cx)(t:wM):Prop:=
 ∀ (pins:List (Addr×Obj)) (s:Shared) (σ:St) (H:Hp) (o i v:V) (ov iv u:Value) (Q:Hp->Prop),Inv X pins σ H s->aS o ov->aS i iv->aS v u->t o i v H Q->
  wpAny (model X.prog X.w) X.A (setItem ov iv u) (fun _ s'=>∃ H',Inv X pins σ H' s'/\Q H') X.xe s
section
variable{X:Cx}{pos:Pos}
def g8(i:Nat):TG:=fun v σ H Q=>Q (σ.set i (some v)) H
theorem cH{i:Nat}{x:Str}(hN:X.N.Nodup)(hi:X.N[i]? = some x)(hx:Loc X.env.scope x)(hf:X.fn x=true\/X.env.scope.names.lookup x=some .local:=by first|exact .inl rfl|exact .inr rfl):PG X (.Name x pos) (g8 i):=by
 intro pins s σ H v u Q I r h
 exact wpAny_assign_Name (nY I hN hi hx r (fun s' I'=>⟨_,H,I',h⟩) hf)
def kY:TGs:=fun vs σ H Q=>vs=[]/\Q σ H
def aB4(t:TG)(u:TGs):TGs:=fun vs σ H Q=>∃ v r,vs=v::r/\t v σ H fun σ' H'=>u r σ' H' Q
theorem pQ:PGs X [] kY:=by
 intro pins s σ H vs us Q I r h
 obtain ⟨e,h⟩:=h
 subst e
 cases r
 exact assignInOrder_nil ⟨σ,H,I,h⟩
theorem iD{e:Expr}{es:List Expr}{t:TG}{u:TGs}(h1:PG X e t)(h2:PGs X es u)
  (hs:(assignEach (e::es) X.env).map (·.2)=assign e X.env::(assignEach es X.env).map (·.2):=by rfl):PGs X (e::es) (aB4 t u):=by
 intro pins s σ H vs us Q I r h
 obtain ⟨v,vr,e1,h⟩:=h
 subst e1
 cases r with
 | cons r rr=>
  rw[hs]
  refine assignInOrder_cons (thn (h1 pins s σ H _ _ _ I r h) fun _ s1 zz0=>?_)
  obtain ⟨σ1,H1,I1,q1⟩:=zz0
  exact h2 pins s1 σ1 H1 _ _ Q I1 rr q1
def aFH(K:Frag)(n:Nat)(t:TGs):TG:=fun v σ H Q=>∃ a xs,v=.ref a/\SqT K H a xs/\xs.length=n/\t xs σ H Q
theorem sG{es:List Expr}{k:Nat}{t:TGs}{n:Nat}(hc:X.calm=true)(h:PGs X es t)
  (hn:(assignEach es X.env).length=n:=by rfl) (hst:(assignEach es X.env).findIdx? (·.1)=none:=by rfl):PG X (.Tuple es k pos) (aFH X.K n t):=by
 intro pins s σ H v u Q I r hw
 obtain ⟨a,xs,e1,hq,hl,hw⟩:=hw
 subst e1
 cases r
 obtain ⟨its,rv,ht,hz⟩:=I.tuple hq
 refine assign_Tuple_tuple (I.ok.hd hc) ht (by simp[hn,<-hl,rv.length]) hst fun h' hx=>?_
 have I1:Inv X pins σ H {s with heap:=h'}:=I.kept (t':=s.toks) fun b o e=>hx b o (Nat.ne_of_lt (Heap.lt_size e)) e
 exact h pins _ σ H xs _ Q I1 (by simpa using rv) hw
def aFI(to ti:TE)(t:wM):TG:=fun v σ H Q=>to σ H fun o H1=>ti σ H1 fun i H2=>t o i v H2 fun H3=>Q σ H3
theorem sH{o i:Expr}{to ti:TE}{t:wM}(ho:PE X o to)(hi:PE X i ti)(hs:aFG X t)
  (ha:∀ v,assign (.Subscript o i pos) X.env v=(do
   let ov <-holding [v] (eval o X.env)
   let iv <-holding [v,ov] (eval i X.env)
   standAt pos
   holding [v,ov,iv] (setItem ov iv v)
   release [v,ov,iv] []):=by intro _;rfl):PG X (.Subscript o i pos) (aFI to ti t):=by
 intro pins s σ H v u Q I r h
 rw[ha]
 refine wpAny_bind (wpAny_holding (thn (ho pins s σ H _ I h) fun ov s1 zz0=>?_))
 obtain ⟨x,H1,I1,r1,q1⟩:=zz0
 refine wpAny_bind (wpAny_holding (thn (hi pins s1 σ H1 _ I1 q1) fun iv s2 zz0=>?_))
 obtain ⟨y,H2,I2,r2,q2⟩:=zz0
 refine wpAny_bind (wpAny_standAt (wpAny_bind (wpAny_holding (thn (hs pins s2 σ H2 x y v ov iv u _ I2 r1 r2 r q2) fun _ s3 zz0=>?_))))
 obtain ⟨H3,I3,q3⟩:=zz0
 exact wpAny_release ⟨σ,H3,I3,q3⟩
def i6(te:TE)(g:TG):TS:=fun D σ H=>te σ H fun x H1=>g x σ H1 D.nx
theorem l5{tg e:Expr}{te:TE}{g:TG}(he:PE X e te)(hg:PG X tg g)(hs:swapsWithSole [tg] e pos.line X.env=pure false:=by rfl)(hw:swappedStores [tg] e X.env=pure none:=by rfl)
  (h1:(assignEach [tg] X.env).map (·.2)=[assign tg X.env]:=by rfl):PS X (.Assign [tg] e pos) (i6 te g):=by
 intro pins s σ H D I h
 refine wpAny_Assign_stores (thn (he pins s σ H _ I h) fun v s1 zz0=>?_) hs hw
 obtain ⟨x,H1,I1,r1,q1⟩:=zz0
 rw[h1]
 exact thn (hg pins s1 σ H1 x v _ I1 r1 q1) fun _ s2 q=>q
theorem aM{i:Nat}{x:Str}{e:Expr}{te:TE}{pos':Pos}(hN:X.N.Nodup)(hi:X.N[i]? = some x)(hx:Loc X.env.scope x)(he:PE X e te)(hs:swapsWith e (some (.Name x pos')) pos.line X.env=pure false:=by rfl)(hf:X.fn x=true\/X.env.scope.names.lookup x=some .local:=by exact .inl rfl) :
  PS X (.Assign [.Name x pos'] e pos) (i6 te (g8 i)):=by
 intro pins s σ H D I h
 refine wpAny_Assign_Name (thn (he pins s σ H _ I h) fun v s1 zz0=>?_) hs
 obtain ⟨y,H1,I1,r1,q1⟩:=zz0
 exact nY I1 hN hi hx r1 (fun s2 I2=>⟨_,H1,I2,q1⟩) hf
end
section
variable{X:Cx}{pos:Pos}
def yG(c:TT)(tb:TS):TS:=fun D σ H=>∃ W:Nat->St->Hp->Prop,(∃ m,W m σ H)/\∀ m σ H,W m σ H->
 c σ H fun b H1=>if b=true then ∃ N:St->Hp->Prop,(∀ σ' H',N σ' H'->∃ m',m' < m/\W m' σ' H')/\tb {D with nx:=N,ct:=N,bk:=D.nx} σ H1 else D.nx σ H1
theorem eY{c:Expr}{body:List Stmt}{tc:TT}{tb:TS}(hp:PassesOwn (model X.prog X.w) X.A X.env X.xe)(hc:PT X c tc)(hb:PSs X body tb):PS X (.While c body [] pos) (yG tc tb):=by
 intro pins s σ H D I h
 obtain ⟨W,⟨m0,w0⟩,turn⟩:=h
 refine wpAny_While (codeAny_whileLoop (fun n s'=>∃ σ' H',Inv X pins σ' H' s'/\W n σ' H') ?_ m0 ⟨σ,H,I,w0⟩)
 rintro n s1 ⟨σ1,H1,I1,w1⟩
 refine wpAny_passesOwn hp (thn (hc pins s1 σ1 H1 _ I1 (turn n σ1 H1 w1)) fun b s2 zz0=>?_)
 obtain ⟨H2,I2,q2⟩:=zz0
 cases b with
 | true=>
  obtain ⟨N,hN,q2⟩:=q2
  rw[if_pos rfl]
  refine wpAny_passesOwn hp (thn (hb pins s2 σ1 H2 _ I2 q2) fun f s3 q3=>?_)
  cases f with
  | next=>
   obtain ⟨σ3,H3,I3,n3⟩:=q3
   obtain ⟨m',hm,w3⟩:=hN σ3 H3 n3
   exact ⟨m',hm,σ3,H3,I3,w3⟩
  | cont=>
   obtain ⟨σ3,H3,I3,n3⟩:=q3
   obtain ⟨m',hm,w3⟩:=hN σ3 H3 n3
   exact ⟨m',hm,σ3,H3,I3,w3⟩
  | brk=>exact q3
  | ret v=>exact q3
 | false=>
  rw[if_neg Bool.false_ne_true]
  exact wpAny_execs_nil ⟨σ1,H2,I2,q2⟩
end
structure It where
 go:Nat->Hp->Prop
 yld:Nat->Hp->V->Hp->Prop
 stop:Nat->Hp->Prop
def iE(X:Cx)(pins:List (Addr×Obj))(H:Hp)(b:Addr):Prop:=
 H b=none/\b≠X.env.locals/\b∉X.fs/\(b∈X.ex\/X.s₀.heap.objs.size<=b)/\(∀ x c,X.env.cells.lookup x=some c->c≠b)/\∀ p∈X.pn++pins,p.1≠b
theorem Inv.fpOk{X:Cx}{pins:List (Addr×Obj)}{σ:St}{H H':Hp}{s:Shared}{b:Addr}(I:Inv X pins σ H s)(hb:s.heap.objs.size<=b)(hn:H' b=none):iE X pins H' b:=by
 refine ⟨hn,Nat.ne_of_gt (Nat.lt_of_lt_of_le I.lt hb),I.nofs hb,.inr (Nat.le_trans I.sz hb),fun x c e z=>?_,fun p hp z=>?_⟩
 ·obtain ⟨v,q⟩:=I.cell x c e
  exact absurd (Nat.lt_of_lt_of_le q.lt (by rw[z];exact hb)) (Nat.lt_irrefl _)
 ·exact absurd (Nat.lt_of_lt_of_le (Heap.lt_size (I.pin p hp).1) (by rw[z];exact hb)) (Nat.lt_irrefl _)
structure Turn(P:Program)(w:World)(K:Frag)(tg:Expr)(J:It)(fp:List Addr)(it:Addr)(tn:Nat->Heap->Prop):Prop where
 mem:it∈fp
 obj:∀ i h,tn i h->∀ b∈fp,∃ o,h.get? b=some o/\∀ v,o.data≠.cell v
 keep:∀ i h h',tn i h->(∀ b∈fp,∀ o,h.get? b=some o->h'.get? b=some o)->tn i h'
 item:∀ (X:Cx),X.prog=P->X.w=w->X.K=K->X.calm=true->∀ (i:Nat) (pins:List (Addr×Obj)) (s:Shared) (σ:St) (H:Hp) (E:Value->Shared->Prop),Inv X pins σ H s->(∀ b∈fp,iE X pins H b)->tn i s.heap->J.go i H->
  wpAny (model P w) X.A (pyNext (.ref it)) (fun r s1=>∃ u,r=some u /\
   wpAny (model P w) X.A (letOwnedTupleGo tg (.ref it) u) (fun _ s2=>∃ x H',Inv X pins σ H' s2/\aS x u/\J.yld i H x H'/\tn (i+1) s2.heap/\∀ b∈fp,H' b=none) E s1) E s
 done:∀ (X:Cx),X.prog=P->X.w=w->X.K=K->X.calm=true->∀ (i:Nat) (pins:List (Addr×Obj)) (s:Shared) (σ:St) (H:Hp) (E:Value->Shared->Prop),Inv X pins σ H s->(∀ b∈fp,iE X pins H b)->tn i s.heap->J.stop i H->
  wpAny (model P w) X.A (pyNext (.ref it)) (fun r s1=>r=none/\Inv X pins σ H s1) E s
 self:∀ (A:Around) (i:Nat) (s:Shared) (Q:Value->Shared->Prop) (E:Value->Shared->Prop),tn i s.heap->Q (.ref it) s->wpAny (model P w) A (pyIter (.ref it)) Q E s
abbrev TI:=St->Hp->(It->Hp->Prop)->Prop
def PIE(X:Cx)(pins:List (Addr×Obj))(σ:St)(tg:Expr)(R:It->Hp->Prop)(itv:Value)(s2:Shared):Prop:=
 ∃ (it:Addr) (fp:List Addr) (tn:Nat->Heap->Prop) (J:It) (H':Hp),itv=.ref it/\Inv X pins σ H' s2/\Turn X.prog X.w X.K tg J fp it tn/\tn 0 s2.heap/\(∀ b∈fp,iE X pins H' b)/\R J H'
def PI(X:Cx)(tg iter:Expr)(wi:TI):Prop:=
 ∀ (pins:List (Addr×Obj)) (s:Shared) (σ:St) (H:Hp) (R:It->Hp->Prop),Inv X pins σ H s->wi σ H R->
  wpAny (model X.prog X.w) X.A (eval iter X.env) (fun v s1=>wpAny (model X.prog X.w) X.A (pyIter v) (PIE X pins σ tg R) X.xe s1) X.xe s
theorem rX {M : Model} {A : Around} {E : Value -> Shared -> Prop} {s : Shared} {tg : Expr} {it : Addr} {u : Value} {o : Obj} {n : String} {vs : Array Value} {Q : Unit -> Shared -> Prop} (ho : s.heap.get? it = some o) (hc : o.cls = .type n) (hd : o.data = .fields vs)
    (hn : ["enumerate", "zip", "dict_itemiterator", "dict_reverseitemiterator", "odict_iterator", "itertools.zip_longest", "itertools.pairwise"].contains n = false) (hQ : Q () s) : wpAny M A (letOwnedTupleGo tg (.ref it) u) Q E s := by
  unfold letOwnedTupleGo
  cases tg <;> first
    | exact wpAny_pure hQ
    | (cases u <;> first
        | exact wpAny_pure hQ
        | (refine wpAny_bind (wpAny_load ho ?_)
           rw [hc, hd]
           show wpAny M A (if (["enumerate", "zip", "dict_itemiterator", "dict_reverseitemiterator", "odict_iterator", "itertools.zip_longest", "itertools.pairwise"].contains n && vs[0]? == some (rawInt _)) = true then _ else _) Q E s
           rw [if_neg (by intro h; rw [hn, Bool.false_and] at h; cases h)]
           exact wpAny_pure hQ))
def Itl(K:Frag)(a:Addr):It:=
 ⟨fun i H=>∃ xs x,SqL K H a xs/\xs[i]? = some x,fun i H x H'=>H'=H/\∀ xs,SqL K H a xs->xs[i]? = some x,fun i H=>∃ xs,SqL K H a xs/\xs.length<=i⟩
def Itt(K:Frag)(a:Addr):It:=
 ⟨fun i H=>∃ xs x,SqT K H a xs/\xs[i]? = some x,fun i H x H'=>H'=H/\∀ xs,SqT K H a xs->xs[i]? = some x,fun i H=>∃ xs,SqT K H a xs/\xs.length<=i⟩
noncomputable def Itr(lo:Int)(n:Nat):It:=⟨fun i _=>i < n,fun i H x H'=>H'=H/\x=.int (lo+i),fun i _=>n<=i⟩
theorem yH{P:Program}{w:World}{K:Frag}{tg:Expr}(a it:Addr):Turn P w K tg (Itl K a) [it] it (fun i h=>h.IsListIter it a i) where
 mem:=by simp
 obj:=fun i h st b hb=>by
  have e:b=it:=by simpa using hb
  subst e
  obtain ⟨o,e,c,d⟩:=st
  exact ⟨o,e,fun v z=>by rw[d] at z;cases z⟩
 keep:=fun i h h' st k=>st.at fun o e=>k it (by simp) o e
 item:=by
  intro X hP hw hK hc i pins s σ H E I hf st hg
  subst hP hw hK
  obtain ⟨xs,x,hq,hx⟩:=hg
  obtain ⟨its,rv,p,hz⟩:=I.list hq
  obtain ⟨u,hu,ru⟩:=rv.get hx
  obtain ⟨f0,f1,f2,f3,f4,f5⟩:=hf it (by simp)
  refine wpAny_pyNext_list_item st p.isList (x:=u) (by simpa using hu) fun h' st' sb=>?_
  have I1:Inv X pins σ H {s with heap:=h'}:=I.turned (t':=s.toks) (fun b o hb e=>(sb.2 b hb).trans e) f0 f1 f3 f4 f5
  obtain ⟨o,e,c,d⟩:=id st'
  exact ⟨u,rfl,rX (s:={s with heap:=h'}) e c d (by decide) ⟨x,H,I1,ru,⟨rfl,fun ys hy=>by rw[I.list_inj hy hq];exact hx⟩,st',fun b hb=>(hf b hb).1⟩⟩
 done:=by
  intro X hP hw hK hc i pins s σ H E I hf st hg
  subst hP hw hK
  obtain ⟨xs,hq,hx⟩:=hg
  obtain ⟨its,rv,p,hz⟩:=I.list hq
  obtain ⟨f0,f1,f2,f3,f4,f5⟩:=hf it (by simp)
  have hl:=rv.length
  exact wpAny_pyNext_list_end (I.ok.hd hc) st p.isList (by simp;omega) fun h' eb=>⟨rfl,I.turned (t':=s.toks) (fun b o hb e=>eb b o hb e) f0 f1 f3 f4 f5⟩
 self:=fun _ _ _ _ _ st h=>wpAny_pyIter_listiter st h
theorem wN{P:Program}{w:World}{K:Frag}{tg:Expr}(a it:Addr):Turn P w K tg (Itt K a) [it] it (fun i h=>h.IsTupleIter it a i) where
 mem:=by simp
 obj:=fun i h st b hb=>by
  have e:b=it:=by simpa using hb
  subst e
  obtain ⟨o,e,c,d⟩:=st
  exact ⟨o,e,fun v z=>by rw[d] at z;cases z⟩
 keep:=fun i h h' st k=>st.at fun o e=>k it (by simp) o e
 item:=by
  intro X hP hw hK hc i pins s σ H E I hf st hg
  subst hP hw hK
  obtain ⟨xs,x,hq,hx⟩:=hg
  obtain ⟨its,rv,p,hz⟩:=I.tuple hq
  obtain ⟨u,hu,ru⟩:=rv.get hx
  obtain ⟨f0,f1,f2,f3,f4,f5⟩:=hf it (by simp)
  refine wpAny_pyNext_tuple_item st (show s.heap.IsTuple a its.toArray from p) (x:=u) (by simpa using hu) fun h' st' sb=>?_
  have I1:Inv X pins σ H {s with heap:=h'}:=I.turned (t':=s.toks) (fun b o hb e=>(sb.2 b hb).trans e) f0 f1 f3 f4 f5
  obtain ⟨o,e,c,d⟩:=id st'
  exact ⟨u,rfl,rX (s:={s with heap:=h'}) e c d (by decide) ⟨x,H,I1,ru,⟨rfl,fun ys hy=>by rw[I.tuple_inj hy hq];exact hx⟩,st',fun b hb=>(hf b hb).1⟩⟩
 done:=by
  intro X hP hw hK hc i pins s σ H E I hf st hg
  subst hP hw hK
  obtain ⟨xs,hq,hx⟩:=hg
  obtain ⟨its,rv,p,hz⟩:=I.tuple hq
  obtain ⟨f0,f1,f2,f3,f4,f5⟩:=hf it (by simp)
  have hl:=rv.length
  exact wpAny_pyNext_tuple_end (I.ok.hd hc) st (show s.heap.IsTuple a its.toArray from p) (by simp;omega) fun h' eb=>⟨rfl,I.turned (t':=s.toks) (fun b o hb e=>eb b o hb e) f0 f1 f3 f4 f5⟩
 self:=fun _ _ _ _ _ st h=>wpAny_pyIter_tupleiter st h
theorem wO{P:Program}{w:World}{K:Frag}{tg:Expr}(it:Addr)(lo:Int)(n:Nat):Turn P w K tg (Itr lo n) [it] it (fun i h=>IsRangeIter h it (lo+(i:Nat) * 1) ((n:Int) - (i:Nat)) 1) where
 mem:=by simp
 obj:=fun i h st b hb=>by
  have e:b=it:=by simpa using hb
  subst e
  exact ⟨_,st,fun v z=>by
   have z':Data.fields _=Data.cell v:=z
   cases z'⟩
 keep:=fun i h h' st k=>k it (by simp) _ st
 item:=by
  intro X hP hw hK hc i pins s σ H E I hf st hg
  subst hP hw hK
  obtain ⟨f0,f1,f2,f3,f4,f5⟩:=hf it (by simp)
  have W:=Walks.range (prog:=X.prog) (w:=X.w) (I.ok.hd hc) it lo 1 n
  refine W.item i s _ _ hg st fun v h' tk hv st' kk=>?_
  obtain ⟨t,rfl⟩:=hv
  have I1:Inv X pins σ H {s with heap:=h',toks:=tk}:=I.turned (fun b o hb e=>kk b o (by simpa using hb) e) f0 f1 f3 f4 f5
  refine ⟨_,rfl,rX (s:={s with heap:=h',toks:=tk}) (n:="range_iterator") st' rfl rfl (by decide) ⟨.int (lo+i),H,I1,⟨t,?_⟩,⟨rfl,rfl⟩,st',fun b hb=>(hf b hb).1⟩⟩
  rw[Int.mul_one]
 done:=by
  intro X hP hw hK hc i pins s σ H E I hf st hg
  subst hP hw hK
  obtain ⟨f0,f1,f2,f3,f4,f5⟩:=hf it (by simp)
  exact wpAny_pyNext_range_end (I.ok.hd hc) st (by have:n<=i:=hg;omega) fun h' eb=>⟨rfl,I.turned (t':=s.toks) (fun b o hb e=>eb b o hb e) f0 f1 f3 f4 f5⟩
 self:=fun _ _ _ _ _ st h=>wpAny_pyIter_rangeiter st h
end L2
namespace L2
open PySem PySem.Spec PyProof.Rows
section
variable{X:Cx}{tg:Expr}
theorem aAO{pins:List (Addr×Obj)}{σ:St}{H:Hp}{s:Shared}{R:It->Hp->Prop}{E:Value->Shared->Prop}{lo hi:Int}{t u v:Tok}{tk:Nat}(I:Inv X pins σ H s)(h1 : -(2 ^ 62)<=lo)(h2:lo < 2 ^ 62)(h3 : -(2 ^ 62)<=hi)(h4:hi < 2 ^ 62)
  (q:R (Itr lo (hi - lo).toNat) H):wpAny (model X.prog X.w) X.A (pyIter (.ref s.heap.objs.size)) (PIE X pins σ tg R) E {s with heap:=s.heap.push {cls:=.type "range",data:=.fields #[.int lo t,.int hi u,.int 1 v]},toks:=tk}:=by
 refine wpAny_pyIter_range (IsRange.new ..) (small_one h1 h2 h3 h4) ?_
 have I1:Inv X pins σ H {s with heap:=s.heap.push {cls:=.type "range",data:=.fields #[.int lo t,.int hi u,.int 1 v]},toks:=tk}:=I.kept fun b o e=>Heap.get?_push_of_some _ e
 refine ⟨(s.heap.push {cls:=.type "range",data:=.fields #[.int lo t,.int hi u,.int 1 v]}).objs.size,[(s.heap.push {cls:=.type "range",data:=.fields #[.int lo t,.int hi u,.int 1 v]}).objs.size],_,_,H,rfl,
  I1.kept (t':=tk) fun b o e=>Heap.get?_push_of_some _ e,wO _ lo (hi - lo).toNat,?_,fun b hb=>?_,q⟩
 ·have e1:lo+((0:Nat):Int) * 1=lo:=by simp
  have e2:(((hi - lo).toNat:Nat):Int) - ((0:Nat):Int)=Builtin.Range.rangeSize lo hi 1:=by rw[rangeSize_one];split<;>omega
  show IsRangeIter _ _ (lo+((0:Nat):Int) * 1) ((((hi - lo).toNat:Nat):Int) - ((0:Nat):Int)) 1
  rw[e1,e2]
  exact Heap.get?_push_size _ rfl
 ·have e:b=(s.heap.push {cls:=.type "range",data:=.fields #[.int lo t,.int hi u,.int 1 v]}).objs.size:=by simpa using hb
  subst e
  exact I1.fpOk (Nat.le_refl _) (I1.hok.fresh (Nat.le_refl _))
def aB5(ta:TA):TI:=fun σ H R=>ta σ H fun vs H1=>∃ j:Int,vs=[.int j] /\ -(2 ^ 62)<=j/\j < 2 ^ 62/\R (Itr 0 j.toNat) H1
theorem eU{a:Expr}{ta:TA}{p pos:Pos}(hg:Gl X "range")(hm:X.mg "range"=none)(ha:PA X [a] ta)(hs:starEach [a] X.env=[(false,eval a X.env)]:=by rfl):PI X tg (.Call (.Name "range" p) [a] [] pos) (aB5 ta):=by
 intro pins s σ H R I h
 refine Call_ (lZ I hg hm boot_range (PyProof.Rows.callWith_type1 (thn (ha pos pins s σ H _ I h) fun us s1 zz0=>?_) hs rfl))
 obtain ⟨vs,H1,I1,r1,q1⟩:=zz0
 obtain ⟨j,e,q1,q2,q⟩:=q1
 subst e
 cases r1 with
 | cons r rr=>
  cases rr
  obtain ⟨t,rfl⟩:=r
  exact call_range_1 (aAO I1 (by omega) (by omega) q1 q2 (by simpa using q))
def aFJ(wi:TI)(g:TG)(tb:TS):TS:=fun D σ H=>wi σ H fun J H1=>∃ W:Nat->Nat->St->Hp->Prop,(∃ m,W 0 m σ H1)/\∀ i m σ H,W i m σ H->
 (J.stop i H/\D.nx σ H)\/(J.go i H/\∃ N:St->Hp->Prop,(∀ σ' H',N σ' H'->∃ m',m' < m/\W (i+1) m' σ' H')/\∀ x H',J.yld i H x H'->g x σ H' fun σ2 H2=>tb {D with nx:=N,ct:=N,bk:=D.nx} σ2 H2)
noncomputable def l6(fp:List Addr)(h:Heap):List (Addr×Obj):=fp.filterMap fun b=>(h.get? b).map fun o=>(b,o)
theorem jB{fp:List Addr}{h:Heap}{b:Addr}{o:Obj}(hb:b∈fp)(e:h.get? b=some o):(b,o)∈l6 fp h:=List.mem_filterMap.mpr ⟨b,hb,by rw[e];rfl⟩
theorem yI{fp:List Addr}{h:Heap}{p:Addr×Obj}(hp:p∈l6 fp h):p.1∈fp/\h.get? p.1=some p.2:=by
 obtain ⟨b,hb,e⟩:=List.mem_filterMap.mp hp
 cases q:h.get? b with
 | none=>rw[q] at e;cases e
 | some o=>
  rw[q] at e
  have e':(b,o)=p:=Option.some.inj e
  subst e'
  exact ⟨hb,q⟩
theorem Inv.pinned{pins:List (Addr×Obj)}{σ:St}{H:Hp}{s:Shared}{fp:List Addr}(I:Inv X pins σ H s)(hf:∀ b∈fp,iE X pins H b)(ho:∀ b∈fp,∃ o,s.heap.get? b=some o/\∀ v,o.data≠.cell v):Inv X (pins++l6 fp s.heap) σ H s:=
 I.pins_of fun p hp=>(List.mem_append.mp hp).elim (fun z=>I.pin p (List.mem_append_right _ z)) fun z=>by
  obtain ⟨hb,e⟩:=yI z
  obtain ⟨f0,f1,f2,_⟩:=hf p.1 hb
  obtain ⟨o,e',d⟩:=ho p.1 hb
  rw[e] at e';cases e'
  exact ⟨e,f0,f1,f2,d⟩
theorem Inv.unpinned{pins pl:List (Addr×Obj)}{σ:St}{H:Hp}{s:Shared}(I:Inv X (pins++pl) σ H s):Inv X pins σ H s:=I.pins_of fun p hp=>I.pin p (List.mem_append_right _ (List.mem_append_left _ hp))
theorem eK{iter:Expr}{body:List Stmt}{wi:TI}{g:TG}{tb:TS}{pos:Pos}(hp:PassesOwn (model X.prog X.w) X.A X.env X.xe)(hc:X.calm=true)(hi:PI X tg iter wi)(hg:PG X tg g)(hb:PSs X body tb)
  (hs:∀ x,foldedSetIterable iter X.env x=pure x:=by intro _;rfl):PS X (.For tg iter body [] pos) (aFJ wi g tb):=by
 intro pins s σ H D I h
 refine wpAny_For (thn (hi pins s σ H _ I h) fun v s1 h1=>thn h1 fun itv s2 h2=>?_) hs
 obtain ⟨it,fp,tn,J,H2,e,I2,T,st2,f2,W,⟨m0,w0⟩,turn⟩:=h2
 subst e
 have stat:∀ {H':Hp},(∀ b∈fp,H' b=none)->∀ b∈fp,iE X pins H' b:=fun hn b hb=>⟨hn b hb,(f2 b hb).2⟩
 refine codeAny_forLoop_any (fun n s'=>∃ i σ' H',Inv X pins σ' H' s'/\tn i s'.heap/\(∀ b∈fp,H' b=none)/\W i n σ' H') ?_ m0 ⟨0,σ,H2,I2,st2,fun b hb=>(f2 b hb).1,w0⟩
 rintro n s3 ⟨i,σ3,H3,I3,st3,fr3,w3⟩
 rcases turn i n σ3 H3 w3 with ⟨stop,qn⟩|⟨go,N,hN,step⟩
 ·refine wpAny_passesOwn hp (thn (T.done X rfl rfl rfl hc i pins s3 σ3 H3 X.xe I3 (stat fr3) st3 stop) fun r s4 zz0=>?_)
  obtain ⟨hr,I4⟩:=zz0
  subst hr
  exact wpAny_execs_nil ⟨σ3,H3,I4,qn⟩
 ·refine wpAny_passesOwn hp (thn (T.item X rfl rfl rfl hc i pins s3 σ3 H3 X.xe I3 (stat fr3) st3 go) fun r s4 zz0=>?_)
  obtain ⟨u,hr,h4⟩:=zz0
  subst hr
  refine wpAny_passesOwn hp (thn h4 fun _ s5 zz0=>?_)
  obtain ⟨x,H5,I5,r5,y5,st5,fr5⟩:=zz0
  have I5':=I5.pinned (stat fr5) (T.obj _ _ st5)
  refine wpAny_passesOwn hp (thn (hg _ s5 σ3 H5 x u _ I5' r5 (step x H5 y5)) fun _ s6 zz0=>?_)
  obtain ⟨σ6,H6,I6,q6⟩:=zz0
  refine wpAny_passesOwn hp (thn (hb _ s6 σ6 H6 _ I6 q6) fun f s7 q7=>?_)
  have again:∀ {σ7:St} {H7:Hp},Inv X (pins++l6 fp s5.heap) σ7 H7 s7->N σ7 H7->∃ m,m < n/\∃ i σ' H',Inv X pins σ' H' s7/\tn i s7.heap/\(∀ b∈fp,H' b=none)/\W i m σ' H':=fun {σ7 H7} I7 n7=>by
   obtain ⟨m',hm,w7⟩:=hN σ7 H7 n7
   refine ⟨m',hm,i+1,σ7,H7,I7.unpinned,T.keep _ _ _ st5 fun b hb o e=>(I7.pin (b,o) (List.mem_append_right _ (List.mem_append_right _ (jB hb e)))).1,fun b hb=>?_,w7⟩
   obtain ⟨o,e,d⟩:=T.obj _ _ st5 b hb
   exact (I7.pin (b,o) (List.mem_append_right _ (List.mem_append_right _ (jB hb e)))).2.1
  cases f with
  | next=>obtain ⟨σ7,H7,I7,n7⟩:=q7;exact again I7 n7
  | cont=>obtain ⟨σ7,H7,I7,n7⟩:=q7;exact again I7 n7
  | brk=>obtain ⟨σ7,H7,I7,q7⟩:=q7;exact ⟨σ7,H7,I7.unpinned,q7⟩
  | ret v=>obtain ⟨x7,σ7,H7,I7,r7,q7⟩:=q7;exact ⟨x7,σ7,H7,I7.unpinned,r7,q7⟩
end
end L2
namespace L2
open PySem PySem.Spec PyProof.Rows
abbrev R2:=V->V->Hp->VK->Prop
def OpR(X:Cx)(f:Value->Value->Sem Value)(r:R2):Prop:=
 ∀ (pins:List (Addr×Obj)) (s:Shared) (σ:St) (H:Hp) (x y:V) (v u:Value) (Q:VK),Inv X pins σ H s->aS x v->aS y u->r x y H Q->
  wpAny (model X.prog X.w) X.A (f v u) (EP X pins σ Q) X.xe s
def UnR(X:Cx)(f:Value->Sem Value)(r:V->Hp->VK->Prop):Prop:=
 ∀ (pins:List (Addr×Obj)) (s:Shared) (σ:St) (H:Hp) (x:V) (v:Value) (Q:VK),Inv X pins σ H s->aS x v->r x H Q->
  wpAny (model X.prog X.w) X.A (f v) (EP X pins σ Q) X.xe s
def jZ(X:Cx)(f:Value)(r:List V->Hp->VK->Prop):Prop:=
 ∀ (pins:List (Addr×Obj)) (s:Shared) (σ:St) (H:Hp) (xs:List V) (us:List Value) (Q:VK),Inv X pins σ H s->aZ xs us->r xs H Q->
  wpAny (model X.prog X.w) X.A (call f us) (EP X pins σ Q) X.xe s
def tOp(r:R2)(ta tb:TE):TE:=fun σ H Q=>ta σ H fun x H1=>tb σ H1 fun y H2=>r x y H2 Q
def tUn(r:V->Hp->VK->Prop)(ta:TE):TE:=fun σ H Q=>ta σ H fun x H1=>r x H1 Q
def rI(C:Int->Int->Prop)(g:Int->Int->V):R2:=fun x y H Q=>∃ i j,x=.int i/\y=.int j/\C i j/\Q (g i j) H
def rI0(g:Int->Int->V):R2:=fun x y H Q=>∃ i j,x=.int i/\y=.int j/\Q (g i j) H
def rU(g:Int->V):V->Hp->VK->Prop:=fun x H Q=>∃ i,x=.int i/\Q (g i) H
section
variable{X:Cx}{a b c:Expr}{ta tb tc:TE}{pos:Pos}
theorem aAP(ha:PE X a ta)(hb:PE X b tb){pins:List (Addr×Obj)}{s:Shared}{σ:St}{H:Hp}{R:V->V->Hp->Prop}(I:Inv X pins σ H s)
  (h:ta σ H fun x H1=>tb σ H1 fun y H2=>R x y H2) {Q:Value->Shared->Prop} {f:Value->Value->Sem Value}
  (hf:∀ v u s2 x y H2,Inv X pins σ H2 s2->aS x v->aS y u->R x y H2->wpAny (model X.prog X.w) X.A (f v u) Q X.xe s2) :
  wpAny (model X.prog X.w) X.A (eval a X.env) (fun v s₁=>wpAny (model X.prog X.w) X.A (eval b X.env) (fun u s₂=>wpAny (model X.prog X.w) X.A (f v u) Q X.xe s₂) X.xe s₁) X.xe s:=by
 refine thn (ha pins s σ H _ I h) fun v s1 zz0=>?_
 obtain ⟨x,H1,I1,r1,q1⟩:=zz0
 refine thn (hb pins s1 σ H1 _ I1 q1) fun u s2 zz0=>?_
 obtain ⟨y,H2,I2,r2,q2⟩:=zz0
 exact hf v u s2 x y H2 I2 r1 r2 q2
theorem aH7{op:Operator}{r:R2}(ho:OpR X (binaryOp op) r)(ha:PE X a ta)(hb:PE X b tb):PE X (.BinOp a op b pos) (tOp r ta tb):=by
 intro pins s σ H Q I h
 exact wpAny_BinOp (aAP ha hb I h fun v u s2 x y H2 I2 rx ry q=>ho pins s2 σ H2 x y v u Q I2 rx ry q)
theorem aH8{op:UnaryOp}{r:V->Hp->VK->Prop}(ho:UnR X (unaryOp op) r)(ha:PE X a ta):PE X (.UnaryOp op a pos) (tUn r ta):=by
 intro pins s σ H Q I h
 exact UnaryOp_ (thn (ha pins s σ H _ I h) fun v s1 ⟨x,H1,I1,r1,q1⟩=>ho pins s1 σ H1 x v Q I1 r1 q1)
theorem opI{f:Value->Value->Sem Value}{C:Int->Int->Prop}{g:Int->Int->Int}
  (rule:∀ (i j:Int) (t u:Tok) (s:Shared) (Q:Value->Shared->Prop) (E:Value->Shared->Prop),C i j->Q (.int (g i j) s.toks) {s with toks:=s.toks+1}->wpAny (model X.prog X.w) X.A (f (.int i t) (.int j u)) Q E s) :
  OpR X f (rI C fun i j=>.int (g i j)):=by
 intro pins s σ H x y v u Q I rx ry h
 obtain ⟨i,j,rfl,rfl,hc,q⟩:=h
 obtain ⟨t,rfl⟩:=rx
 obtain ⟨t',rfl⟩:=ry
 exact rule i j t t' s _ _ hc ⟨.int (g i j),H,I.tok _,⟨_,rfl⟩,q⟩
theorem aFK{f:Value->Value->Sem Value}{g:Int->Int->Int}
  (rule:∀ (i j:Int) (t u:Tok) (s:Shared) (Q:Value->Shared->Prop) (E:Value->Shared->Prop),Q (.int (g i j) s.toks) {s with toks:=s.toks+1}->wpAny (model X.prog X.w) X.A (f (.int i t) (.int j u)) Q E s) :
  OpR X f (rI0 fun i j=>.int (g i j)):=by
 intro pins s σ H x y v u Q I rx ry h
 obtain ⟨i,j,rfl,rfl,q⟩:=h
 obtain ⟨t,rfl⟩:=rx
 obtain ⟨t',rfl⟩:=ry
 exact rule i j t t' s _ _ ⟨.int (g i j),H,I.tok _,⟨_,rfl⟩,q⟩
theorem aFL{f:Value->Value->Sem Value}{g:Int->Int->Bool}
  (rule:∀ (i j:Int) (t u:Tok) (s:Shared) (Q:Value->Shared->Prop) (E:Value->Shared->Prop),Q (.bool (g i j)) s->wpAny (model X.prog X.w) X.A (f (.int i t) (.int j u)) Q E s) :
  OpR X f (rI0 fun i j=>.bl (g i j)):=by
 intro pins s σ H x y v u Q I rx ry h
 obtain ⟨i,j,rfl,rfl,q⟩:=h
 obtain ⟨t,rfl⟩:=rx
 obtain ⟨t',rfl⟩:=ry
 exact rule i j t t' s _ _ ⟨.bl (g i j),H,I,rfl,q⟩
def aAQ(i j:Int):Prop:=(-(2 ^ 64) < i/\i < 2 ^ 64)\/(-(2 ^ 64) < j/\j < 2 ^ 64)
theorem aAQ.ok{i j:Int}(h:aAQ i j):IntMulOk i j:=by
 rcases h with ⟨h1,h2⟩|⟨h1,h2⟩
 · exact .of_left (intBits_le_64 h1 h2)
 · exact .of_right (intBits_le_64 h1 h2)
theorem aFM:OpR X (binaryOp .Add) (rI0 fun i j=>.int (i+j)):=aFK fun _ _ _ _ _ _ _ q=>add_int q
theorem aFN:OpR X (binaryOp .Sub) (rI0 fun i j=>.int (i - j)):=aFK fun _ _ _ _ _ _ _ q=>sub_int q
theorem aFO:OpR X (binaryOp .Mult) (rI aAQ fun i j=>.int (i * j)):=opI fun _ _ _ _ _ _ _ hc q=>mul_int q hc.ok
theorem aFP:OpR X (binaryOp .Mod) (rI (fun _ j=>0 < j) fun i j=>.int (i % j)):=opI fun i j _ _ _ _ _ hc q=>by
 have h1:(0:Int) < j:=hc
 exact mod_int' (by omega) (by rw[Int.fmod_eq_emod_of_nonneg i (by omega)];exact q)
theorem unI{f:Value->Sem Value}{g:Int->Int}
  (rule:∀ (i:Int) (t:Tok) (s:Shared) (Q:Value->Shared->Prop) (E:Value->Shared->Prop),Q (.int (g i) s.toks) {s with toks:=s.toks+1}->wpAny (model X.prog X.w) X.A (f (.int i t)) Q E s) :
  UnR X f (rU fun i=>.int (g i)):=by
 intro pins s σ H x v Q I rx h
 obtain ⟨i,rfl,q⟩:=h
 obtain ⟨t,rfl⟩:=rx
 exact rule i t s _ _ ⟨.int (g i),H,I.tok _,⟨_,rfl⟩,q⟩
theorem aFQ:UnR X (unaryOp .USub) (rU fun i=>.int (-i)):=unI fun _ _ _ _ _ q=>neg_int q
end
section
variable{X:Cx}{a b c:Expr}{ta tb tc:TE}{pos:Pos}
theorem aFR{pins:List (Addr×Obj)}{σ:St}{H:Hp}{s:Shared}{Q:VK}{k k':Bool}(I:Inv X pins σ H s)(q:Q (.bl k) H)(e:k=k'):EP X pins σ Q (.bool k') s:=by
 subst e
 exact ⟨.bl k,H,I,rfl,q⟩
theorem aH9:OpR X (compareOp .Lt) (rI0 fun i j=>.bl (decide (i < j))):=aFL fun _ _ _ _ _ _ _ q=>lt_int q
theorem aIA:OpR X (compareOp .Gt) (rI0 fun i j=>.bl (decide (j < i))):=aFL fun _ _ _ _ _ _ _ q=>gt_int q
theorem sI:OpR X (compareOp .NotIn) (fun x y H Q=>∃ i j,x=.str i/\y=.str j/\Q (.bl (!(!(Builtin.Str.occurrences j i 0 j.length 1).isEmpty))) H):=by
 intro pins s σ H x y v u Q I rx ry h
 obtain ⟨i,j,rfl,rfl,q⟩:=h
 obtain ⟨t,rfl⟩:=rx
 obtain ⟨t',rfl⟩:=ry
 exact notIn_str (aFR I q rfl)
theorem cW(b:Expr){op:CmpOp}(h:op≠.In:=by decide)(h2:op≠.NotIn:=by decide):behindInMarks op b=false:=by
 have e1:(op == CmpOp.In)=false:=by cases op<;>first|rfl|exact absurd rfl h
 have e2:(op == CmpOp.NotIn)=false:=by cases op<;>first|rfl|exact absurd rfl h2
 cases b<;>simp[behindInMarks,e1,e2]
theorem aCV{op:CmpOp}{r:R2}(ho:OpR X (compareOp op) r)(ha:PE X a ta)(hb:PE X b tb)(hm:behindInMarks op b=false):PE X (.Compare a [op] [b] pos) (tOp r ta tb):=by
 intro pins s σ H Q I h
 exact wpAny_Compare1 (aAP ha hb I h fun v u s2 x y H2 I2 rx ry q=>ho pins s2 σ H2 x y v u Q I2 rx ry q) hm
def aB6(t:TE):TT:=fun σ H Q=>t σ H fun x H'=>∃ k,x=.bl k/\Q k H'
theorem m3{op:CmpOp}{r:R2}(ho:OpR X (compareOp op) r)(ha:PE X a ta)(hb:PE X b tb)(hm:behindInMarks op b=false):PT X (.Compare a [op] [b] pos) (aB6 (tOp r ta tb)):=by
 intro pins s σ H Q I h
 refine wpAny_isTrue_Compare1 (thn (ha pins s σ H _ I h) fun v s1 ⟨x,H1,I1,r1,q1⟩=>thn (hb pins s1 σ H1 _ I1 q1) fun u s2 ⟨y,H2,I2,r2,q2⟩=>
  thn (ho pins s2 σ H2 x y v u _ I2 r1 r2 q2) fun c s3 ⟨z,H3,I3,r3,k,e,q3⟩=>?_) hm
 subst e
 cases r3
 exact wpAny_truthy_bool ⟨H3,I3,q3⟩
theorem oR:(sizeLine:Nat) < 2 ^ 63:=by rw[sizeLine_eq];decide
theorem wP:OpR X (binaryOp .Add) (fun x y H Q=>∃ i j,x=.str i/\y=.str j/\i.length+j.length<=sizeLine/\Q (.str (i++j)) H):=by
 intro pins s σ H x y v u Q I rx ry h
 obtain ⟨i,j,rfl,rfl,hz,q⟩:=h
 obtain ⟨t,rfl⟩:=rx
 obtain ⟨t',rfl⟩:=ry
 exact add_str (fun t' tk=>⟨.str (i++j),H,I.tok _,⟨_,rfl⟩,q⟩) hz
theorem wQ{x:V}{us:List Value}(r:aZ [x] us):∃ u,us=[u]/\aS x u:=by
 cases r with
 | cons r1 r2=>cases r2;exact ⟨_,rfl,r1⟩
theorem wR{x y:V}{us:List Value}(r:aZ [x,y] us):∃ u w',us=[u,w']/\aS x u/\aS y w':=by
 cases r with
 | cons r1 r2=>
  cases r2 with
  | cons r3 r4=>cases r4;exact ⟨_,_,rfl,r1,r3⟩
def aFS(K:Frag)(x:V)(H:Hp)(n:Nat):Prop:=
 match x with
 | .str y=>y.length<=sizeLine/\n=y.length
 | .byt y=>y.size<=sizeLine/\n=y.size
 | .ref p=>(∃ xs,SqL K H p xs/\n=xs.length)\/∃ xs,SqT K H p xs/\n=xs.length
 | _=>False
theorem cY:jZ X (.builtin "len") (fun xs H Q=>∃ x n,xs=[x]/\aFS X.K x H n/\Q (.int n) H):=by
 intro pins s σ H xs us Q I r h
 obtain ⟨x,n,rfl,e,q⟩:=h
 obtain ⟨u,rfl,rx⟩:=wQ r
 have hl:=oR
 have hs:sizeLine=16777216:=sizeLine_eq
 cases x with
 | str y=>
  obtain ⟨t,rfl⟩:=rx
  obtain ⟨hy,e'⟩:y.length<=sizeLine/\n=y.length:=e
  subst e'
  exact len_str (by omega) ⟨.int _,H,I.tok _,⟨_,rfl⟩,q⟩
 | byt y=>
  obtain ⟨t,rfl⟩:=rx
  obtain ⟨hy,e'⟩:y.size<=sizeLine/\n=y.size:=e
  subst e'
  exact PySem.W.len_bytes (by omega) ⟨.int _,H,I.tok _,⟨_,rfl⟩,q⟩
 | ref p=>
  cases rx
  have e':(∃ xs,SqL X.K H p xs/\n=xs.length)\/∃ xs,SqT X.K H p xs/\n=xs.length:=e
  rcases e' with ⟨xs,hx,e'⟩|⟨xs,hx,e'⟩
  ·subst e'
   obtain ⟨its,r',pl,hz⟩:=I.list hx
   have hlen:=r'.length
   exact Calls.call_len_list pl.isList (by simp only[List.size_toArray];omega) ⟨.int xs.length,H,I.tok _,⟨_,by simp only[List.size_toArray];rw[hlen]⟩,q⟩
  ·subst e'
   obtain ⟨its,r',pl,hz⟩:=I.tuple hx
   have hlen:=r'.length
   exact len_tuple pl (by simp only[List.size_toArray];omega) ⟨.int xs.length,H,I.tok _,⟨_,by simp only[List.size_toArray];rw[hlen]⟩,q⟩
 | _=>exact (show False from e).elim
end
end L2
namespace L2
open PySem PySem.Spec PyProof.Rows
structure ObjM(h:Heap)(x dx C:Addr)(mA:Str->Option Value):Prop where
 obj:h.get? x=some (PySem.W.instObj C dx)
 ns:h.Ns1 dx mA
 ne:dx≠x
theorem qP{h:Heap}{dx:Addr}{mA:Str->Option Value}(n:h.Ns1 dx mA):∃ od,h.get? dx=some od/\∀ name,PySem.W.lookIn name od=some (mA name):=by
 obtain ⟨o,es,ep,ho,hd,hk,_,hm⟩:=n
 refine ⟨o,ho,fun name=>?_⟩
 have e:=hm name
 unfold nsFind findBy at e
 rw[<-Array.find?_toList] at e
 unfold PySem.W.lookIn
 rw[hd]
 dsimp only
 split
 ·rename_i y q
  rw[q] at e
  exact congrArg some e
 ·rename_i q
  rw[q] at e
  have a:es.toList.any (·.refKey)=false:=by
   rw[List.any_eq_false]
   intro y hy
   obtain ⟨z,t,hkey⟩:=hk y (Array.mem_toList_iff.mp hy)
   simp[DictEntry.refKey,hkey]
  have a':¬ es.toList.any (·.refKey)=true:=by rw[a];exact Bool.false_ne_true
  rw[if_neg a']
  exact congrArg some e
theorem ObjM.look{h:Heap}{x dx C:Addr}{mA:Str->Option Value}(I:ObjM h x dx C mA):∃ od,PySem.W.InstAt h x (PySem.W.instObj C dx) C (some od)/\∀ name,PySem.W.lookIn name od=some (mA name):=
 let ⟨od,ho,hl⟩:=qP I.ns
 ⟨od,⟨I.obj,rfl,rfl,ho⟩,hl⟩
section
variable{prog:Program}{w:World}{A:Around}{E:Value->Shared->Prop}{s:Shared}{K:Frag}{x dx C f:Addr}{mA:Str->Option Value}{name:Str}{v:Value}
end
theorem i4.some_of{v:V}{o:Option Value}(r:i4 (some v) o):∃ u,o=some u/\aS v u:=by
 cases o with
 | none=>exact (show False from r).elim
 | some u=>exact ⟨u,rfl,r⟩
section
variable{P:Program}{w:World}{H H':Hp}{h h':Heap}{a C dx:Addr}{fs fs':List (Str×V)}
theorem aCW(hok:HOk P w H h)(e:H a=some (.ins C dx fs)):∃ mA,ObjM h a dx C mA/\(∀ f,i4 (fs.lookup f) (mA f))/\PySem.Within mA (fs.map (·.1))/\fs.length<=1000/\H dx=some (.own a):=by
 obtain ⟨d,z,ne,ob,mA,n,r,q⟩:=(show bQ P w H h a (.ins C dx fs) from hok a _ e)
 exact ⟨mA,⟨ob,n,ne⟩,r,q,z,d⟩
end
structure Cls(K:Frag)(C:Addr):Prop where
 pg:PySem.W.plainGet K C Str.empty=true
 hd:PySem.W.hasDictIn K C=true
 po:PySem.W.plainOver K C=true
 sa:PySem.W.findIn K (.ref C) "__setattr__"=some (some (.builtin "object.__setattr__"))
theorem Cls.get{K:Frag}{C:Addr}(c:Cls K C)(f:Str):PySem.W.plainGet K C f=true:=c.pg
structure Con(K:Frag)(C:Addr)(f:Str)(v:V)(u:Value):Prop where
 at_:PySem.W.findIn K (.ref C) f=some (some u)
 rel:aS v u
 get:PySem.W.specialIn K u "__get__"=some none
 cp:PySem.W.copiedNames.contains f=false
structure Meth(K:Frag)(C:Addr)(m:Str)(f:Addr):Prop where
 at_:PySem.W.findIn K (.ref C) m=some (some (.ref f))
 fn:PySem.W.isFn K (.ref f)=true
 kp:PySem.W.keepIn K (.ref f)=true
section
variable{X:Cx}{pins:List (Addr×Obj)}{σ:St}{H:Hp}{s:Shared}{a C dx:Addr}{fs:List (Str×V)}{f:Str}{v:V}{A:Around}{E:Value->Shared->Prop}
end
section
variable{X:Cx}{pins:List (Addr×Obj)}{σ:St}{H:Hp}{s:Shared}{A:Around}{E:Value->Shared->Prop}{Q:Value->Shared->Prop}{c:Value}{b:Bool}
inductive TyOf(K:Frag)(H:Hp):V->Value->Prop where
 | non:TyOf K H .non (.type "NoneType")
 | bl (x:Bool):TyOf K H (.bl x) (.type "bool")
 | int (i:Int):TyOf K H (.int i) (.type "int")
 | str (x:Str):TyOf K H (.str x) (.type "str")
 | flt (x:UInt64):TyOf K H (.flt x) (.type "float")
 | lst {a:Addr} {xs:List V} (e:H a=some (.lst xs)):TyOf K H (.ref a) (.type "list")
 | frz {a:Addr} {o:Obj} {xs:List V} (e:H a=some (.frz o (.lst xs))):TyOf K H (.ref a) (.type "list")
 | tup {a:Addr} {xs:List V} (e:H a=some (.tup xs)):TyOf K H (.ref a) (.type "tuple")
 | dK {a:Addr} {kvs:List (Key×V)} (e:H a=some (.dK kvs)):TyOf K H (.ref a) (.type "dict")
 | dT {a:Addr} {kvs:List (List Key×V)} (e:H a=some (.dT kvs)):TyOf K H (.ref a) (.type "dict")
 | ins {a C dx:Addr} {fs:List (Str×V)} (e:H a=some (.ins C dx fs)) (cl:Cls K C) (ha:PySem.W.findIn K (.ref C) "__class__"=some (some (.builtin "object.__class__")))
  (hn:PySem.W.specialIn K (.builtin "object.__class__") "__get__"=some (some (.builtin "getset_descriptor.__get__"))) (htk:PySem.W.takesIn K (.builtin "object.__class__")=some true)
  (hm:PySem.W.mroIn K C (.type "object")=some true):TyOf K H (.ref a) (.ref C)
theorem yJ{x:V}{u t:Value}(I:Inv X pins σ H s)(rx:aS x u)(ty:TyOf X.K H x t)(e:PySem.W.kitOne X.K t c=some b)(h:∀ tk,Q (.bool b) {s with toks:=tk}) :
  wpAny (model X.prog X.w) A (call (.builtin "isinstance") [u,c]) Q E s:=by
 cases ty with
 | non=>cases (show u=Value.none from rx);exact PySem.W.kia_one PySem.W.kitx_none I.kIn True.intro e (fun z=>nomatch z) h
 | bl y=>cases (show u=Value.bool y from rx);exact PySem.W.kia_one PySem.W.kitx_bool I.kIn True.intro e (fun z=>nomatch z) h
 | int i=>obtain ⟨t,q⟩:=(show ∃ t,u=Value.int i t from rx);cases q;exact PySem.W.kia_one PySem.W.kitx_int I.kIn True.intro e (fun z=>nomatch z) h
 | str y=>obtain ⟨t,q⟩:=(show ∃ t,u=Value.str y t from rx);cases q;exact PySem.W.kia_one PySem.W.kitx_str I.kIn True.intro e (fun z=>nomatch z) h
 | flt y=>obtain ⟨t,q⟩:=(show ∃ t,u=Value.float y t from rx);cases q;exact PySem.W.kia_one PySem.W.kitx_float I.kIn True.intro e (fun z=>nomatch z) h
 | @lst a xs ea=>
  cases (show u=Value.ref a from rx)
  obtain ⟨_,_,n,_,h1⟩:=(show bQ X.prog X.w H s.heap a (.lst xs) from I.hok a _ ea)
  exact PySem.W.kia_one PySem.W.kitx_list I.kIn ⟨_,h1,rfl⟩ e (fun z=>nomatch z) h
 | @frz a ob xs ea=>
  cases (show u=Value.ref a from rx)
  obtain ⟨_,_,_,n,_,h1⟩:=(show bQ X.prog X.w H s.heap a (.frz ob (.lst xs)) from I.hok a _ ea)
  exact PySem.W.kia_one PySem.W.kitx_list I.kIn ⟨_,h1,rfl⟩ e (fun z=>nomatch z) h
 | @tup a xs ea=>
  cases (show u=Value.ref a from rx)
  obtain ⟨_,_,_,p⟩:=(show bQ X.prog X.w H s.heap a (.tup xs) from I.hok a _ ea)
  obtain ⟨o,h1,h2,_⟩:=p
  exact PySem.W.kia_one PySem.W.kitx_tuple I.kIn ⟨o,h1,h2⟩ e (fun z=>nomatch z) h
 | @dK a kvs ea=>
  cases (show u=Value.ref a from rx)
  obtain ⟨_,_,vs,_,p⟩:=(show bQ X.prog X.w H s.heap a (.dK kvs) from I.hok a _ ea)
  obtain ⟨o,es,ep,h1,h2,_⟩:=p
  exact PySem.W.kia_one PySem.W.kitx_dict I.kIn ⟨o,h1,h2.1⟩ e (fun z=>nomatch z) h
 | @dT a kvs ea=>
  cases (show u=Value.ref a from rx)
  obtain ⟨_,_,xs,_,o,es,ep,h1,h2,_⟩:=(show bQ X.prog X.w H s.heap a (.dT kvs) from I.hok a _ ea)
  exact PySem.W.kia_one PySem.W.kitx_dict I.kIn ⟨o,h1,h2.1⟩ e (fun z=>nomatch z) h
 | @ins a C dx fs ea cl ha hn htk hm=>
  cases (show u=Value.ref a from rx)
  obtain ⟨mA,O,_⟩:=aCW I.hok ea
  obtain ⟨od,J,_⟩:=O.look
  exact PySem.W.kia_one (PySem.W.kitx_own (cl.get _) cl.hd ha hn htk hm) I.kIn J e (fun z=>nomatch z) h
end
end L2
namespace L2
open PySem PySem.Spec PyProof.Rows
structure Room(k:Nat)(A:Around):Prop where
 hd:A.handled=none
 dp:A.depth+3 * k+5 < recursionLimit
 un:A.units+16 * k+200 < cLine
theorem Room.mono{j k:Nat}{A:Around}(r:Room k A)(h:j<=k):Room j A:=⟨r.hd,by have:=r.dp;omega,by have:=r.un;omega⟩
theorem Room.deeper{k:Nat}{A:Around}(r:Room (k+1) A)(env:Env):Room k (A.deeper env):=
 ⟨r.hd,by have:=r.dp;show A.depth+1+3 * k+5 < _;omega,by have:=r.un;show A.units+3+16 * k+200 < _;omega⟩
theorem Room.depth{k:Nat}{A:Around}(r:Room k A):A.depth < recursionLimit:=by have:=r.dp;omega
theorem Room.units{k:Nat}{A:Around}(r:Room k A):A.units+64 < cLine:=by have:=r.un;omega
def kZ:TA:=fun _ H Q=>Q [] H
def iN(ta:TE)(tr:TA):TA:=fun σ H Q=>ta σ H fun x H1=>tr σ H1 fun xs H2=>Q (x::xs) H2
section
variable{X:Cx}{e:Expr}{es:List Expr}{te:TE}{t:TA}{pos:Pos}
theorem a8:PA X [] kZ:=fun _ _ _ _ H Q I h=>Calls.spliced_nil ⟨[],H,I,.nil,h⟩
theorem aT(ha:PE X e te)(hr:PA X es t)(hs:starEach (e::es) X.env=(false,eval e X.env)::starEach es X.env:=by rfl):PA X (e::es) (iN te t):=by
 intro pos pins s σ H Q I h
 rw[hs]
 show wpAny _ _ (spliced ((false,eval e X.env)::backTo pos (starEach es X.env))) _ _ s
 refine Calls.spliced_cons (thn (ha pins s σ H _ I h) fun u s1 zz0=>?_)
 obtain ⟨x,H1,I1,r1,q1⟩:=zz0
 exact thn (hr pos pins s1 σ H1 _ I1 q1) fun us s2 ⟨xs,H2,I2,r2,q2⟩=>⟨x::xs,H2,I2,.cons r1 r2,q2⟩
def aJW(t:TA):TE:=fun σ H Q=>t σ H fun xs H1=>xs.length<=sizeLine/\∀ p,H1 p=none->Q (.ref p) (upd H1 p (.tup xs))
def aJX(t:TA):TE:=fun σ H Q=>t σ H fun xs H1=>xs.length<=sizeLine/\∀ p,H1 p=none->Q (.ref p) (upd H1 p (.lst xs))
theorem aFT{x1}(h:PA X es t):PE X (.Tuple es x1 pos) (aJW t):=by
 intro pins s σ H Q I hq
 refine wpAny_Tuple_spliced (thn (h pos pins s σ H _ I hq) fun us s1 ⟨xs,H1,I1,r,z,q⟩=>⟨by rw[<-r.length];exact z,?_⟩)
 have hf:H1 s1.heap.objs.size=none:=I1.hok.fresh (Nat.le_refl _)
 refine ⟨.ref s1.heap.objs.size,upd H1 s1.heap.objs.size (.tup xs),I1.laid (t':=s1.toks) (fun b u e=>Heap.get?_push_of_some _ e) (Nat.le_refl _) ?_,rfl,q _ hf⟩
 exact ⟨z,us,r,⟨_,Heap.get?_push_size _ rfl,rfl,_,rfl⟩⟩
theorem aFU(h:PA X es t):PE X (.List es pos) (aJX t):=by
 intro pins s σ H Q I hq
 refine wpAny_List_spliced (thn (h pos pins s σ H _ I hq) fun us s1 ⟨xs,H1,I1,r,z,q⟩=>⟨by rw[<-r.length];exact z,?_⟩)
 have hf:H1 s1.heap.objs.size=none:=I1.hok.fresh (Nat.le_refl _)
 refine ⟨.ref s1.heap.objs.size,upd H1 s1.heap.objs.size (.lst xs),I1.laid (t':=s1.toks) (fun b u e=>Heap.get?_push_of_some _ e) (Nat.le_refl _) ?_,rfl,q _ hf⟩
 exact ⟨z,us,0,r,Heap.get?_push_size _ rfl⟩
end
abbrev Sp:=List V->Hp->VK->XK->Prop
abbrev CXT:=List Env->Hp->Shared->XK->Value->Shared->Prop
structure Env0(P:Program)(w:World)(K:Frag)(mg:Str->Option Value)(base:Heap)(A:Around)(outer:List Env)(s:Shared)(H:Hp):Prop where
 frames:A.frames=some outer
 mod:Mod K mg base
 bs:∀ b o,base.get? b=some o->s.heap.get? b=some o/\H b=none
 bsz:base.objs.size<=s.heap.objs.size
 funs:s.heap.FunFrames base outer
 frf:∀ b∈frs outer,H b=none
 hok:HOk P w H s.heap
 bare:AllBare s.gens
def CE(outer:List Env)(P:Program)(w:World)(H:Hp)(s:Shared)(Q:VK)(u:Value)(s':Shared):Prop:=
 ∃ v H',s'.os=s.os/\AllBare s'.gens/\Un (frs outer) [] H H' s.heap s'.heap/\HOk P w H' s'.heap/\aS v u/\Q v H'
def CR(CX:CXT)(outer:List Env)(P:Program)(w:World)(H:Hp)(s:Shared)(Q:VK)(E:XK)(r:Result)(s':Shared):Prop:=
 match r with
 | .ok (.ret u)=>CE outer P w H s Q u s'
 | .ok _=>False
 | .error e=>CX outer H s E e s'
structure FnOk(P:Program)(w:World)(K:Frag)(mg:Str->Option Value)(base:Heap)(CX:CXT)(k:Nat)(f:Addr)(fd:FuncData)(ps:List Str)(sp:Sp):Prop where
 len:∀ vs H Q E,sp vs H Q E->vs.length=ps.length
 run:∀ (A:Around) (outer:List Env) (s:Shared) (H:Hp) (args:Args) (us:List Value) (vs:List V) (Q:VK) (E:XK),Room k A->Env0 P w K mg base A outer s H->BindsTo s fd args (ps.zip us)->aZ vs us->sp vs H Q E->
  codeAny (model P w) A (.call (.ref f) args) (CR CX outer P w H s Q E) s
theorem FnOk.imp{P:Program}{w:World}{K:Frag}{mg:Str->Option Value}{base:Heap}{CX:CXT}{k:Nat}{f:Addr}{fd:FuncData}{ps:List Str}{sp sp':Sp}(F:FnOk P w K mg base CX k f fd ps sp)
  (h:∀ vs H Q E,sp' vs H Q E->sp vs H Q E):FnOk P w K mg base CX k f fd ps sp':=
 ⟨fun vs H Q E q=>F.len vs H Q E (h _ _ _ _ q),fun A outer s H args us vs Q E hr he hb hv hs=>F.run A outer s H args us vs Q E hr he hb hv (h _ _ _ _ hs)⟩
section
variable{X:Cx}{pins:List (Addr×Obj)}{σ:St}{H:Hp}{s s':Shared}
theorem Inv.env0(I:Inv X pins σ H s):Env0 X.prog X.w X.K X.mg X.base X.A X.stack s H:=
 ⟨I.ok.frames,I.ok.mod,I.bs,Nat.le_trans I.ok.bsz I.sz,I.stack,I.stkFree,I.hok,I.bare⟩
theorem Inv.after{Q:VK}{u:Value}(I:Inv X pins σ H s)(h:CE X.stack X.prog X.w H s Q u s'):EP X pins σ Q u s':=by
 obtain ⟨v,H',os,bare,un,hok,r,q⟩:=h
 obtain ⟨hh,g,d,t,os'⟩:=s'
 obtain rfl:os'=s.os:=os
 exact ⟨v,H',I.call (h':=hh) (g':=g) (d':=d) (t':=t) (ch:=[]) un hok bare (fun b z=>absurd z (by simp)),r,q⟩
end
def m5(sp:Sp)(dvs:List V)(E:XK)(t:TA):TE:=fun σ H Q=>t σ H fun vs H1=>sp (vs++dvs) H1 Q E
def f8(K:Frag)(fd:FuncData)(ps:List Str)(ds:List Value):Prop:=
 ∀ (s:Shared) (us:List Value),K.In s.heap->(us++ds).length=ps.length->BindsTo s fd ⟨us,[]⟩ (ps.zip (us++ds))
theorem f8.all{K:Frag}{fd:FuncData}{ps:List Str}(h:∀ us:List Value,us.length=ps.length->bindArgs fd ⟨us,[]⟩=pure (ps.zip us)):f8 K fd ps []:=fun s us _ hl=>by
 rw[List.append_nil] at hl ⊢
 exact .of_eq (h us hl)
def jL(CX:CXT)(X:Cx)(E:XK):Prop:=∀ (pins:List (Addr×Obj)) (σ:St) (H:Hp) (s:Shared) (e:Value) (s':Shared),Inv X pins σ H s->CX X.stack H s E e s'->X.xe e s'
section
variable{X:Cx}{CX:CXT}{k:Nat}{f C:Addr}{fd:FuncData}{ps:List Str}{sp:Sp}{dvs:List V}{ds:List Value}{E:XK}{x m:Str}{p pos apos:Pos}{e o:Expr}{es:List Expr}{ta:TE}{t:TA}
theorem yK{pins:List (Addr×Obj)}{σ:St}{H:Hp}{s:Shared}{Q:VK}{us:List Value}{vs:List V}(F:FnOk X.prog X.w X.K X.mg X.base CX k f fd ps sp)(hr:Room k X.A)(hb:f8 X.K fd ps ds)(hd:aZ dvs ds)(hx:jL CX X E)
  (I:Inv X pins σ H s) (r:aZ vs us) (h:sp (vs++dvs) H Q E):wpAny (model X.prog X.w) X.A (call (.ref f) us) (EP X pins σ Q) X.xe s:=by
 have r2:aZ (vs++dvs) (us++ds):=r.append hd
 have hl:(us++ds).length=ps.length:=by rw[<-r2.length];exact F.len _ _ _ _ h
 refine wpAny_call (codeAny_mono (F.run X.A X.stack s H ⟨us,[]⟩ (us++ds) (vs++dvs) Q E hr I.env0 (hb s us I.kIn hl) r2 h) fun r s' hq=>?_)
 cases r with
 | error e=>exact hx pins σ H s e s' I hq
 | ok fl=>
  cases fl with
  | ret u=>exact I.after hq
  | next=>exact False.elim hq
  | brk=>exact False.elim hq
  | cont=>exact False.elim hq
theorem aCX(F:FnOk X.prog X.w X.K X.mg X.base CX k f fd ps sp)(hr:Room k X.A)(hg:Gl X x)(hm:X.mg x=some (.ref f))(hk:PySem.W.keepIn X.K (.ref f)=true)(hb:f8 X.K fd ps ds)(hd:aZ dvs ds)(hx:jL CX X E)
  (ha:PA X (e::es) t) (hdb:(x == ("__debug__":Str))=false:=by decide) (he:starEach (e::es) X.env=(false,eval e X.env)::starEach es X.env:=by rfl) (hpl:(backTo pos (starEach es X.env)).any (·.1)=false:=by rfl) :
  PE X (.Call (.Name x p) (e::es) [] pos) (m5 sp dvs E t):=by
 intro pins s σ H Q I h
 refine wpAny_Call_Name_kw (jE I hg hm ?_ hdb)
 refine PySem.W.callWith_K (h₀:=X.base) I.ok.mod.kin hk (thn (ha pos pins s σ H _ I h) fun us s1 ⟨vs,H1,I1,r,q⟩=>⟨I1.kIn,?_⟩) he hpl
 exact yK F hr hb hd hx I1 r q
structure Mk(K:Frag)(C f:Addr):Prop where
 makes:PySem.W.makesIn K C=true
 init:PySem.W.findIn K (.ref C) "__init__"=some (some (.ref f))
 fn:PySem.W.isFn K (.ref f)=true
 kp:PySem.W.keepIn K (.ref C)=true
end
section
variable{X:Cx}{CX:CXT}{k:Nat}{f C:Addr}{fd:FuncData}{ps ks:List Str}{sp:Sp}{E:XK}{x m:Str}{p pos apos kpos:Pos}{e o:Expr}{es:List Expr}{kws:List Keyword}{te ta:TE}{t tk:TA}{nm:Option Str}
structure KBinds(K:Frag)(fd:FuncData)(ps ks:List Str)(g:List Value->List Value->List Value)(gV:List V->List V->List V):Prop where
 to:∀ (s:Shared) (us ws:List Value),K.In s.heap->(g us ws).length=ps.length->BindsTo s fd ⟨us,ks.zip ws⟩ (ps.zip (g us ws))
 rel:∀ {vs:List V} {us:List Value} {zs:List V} {ws:List Value},aZ vs us->aZ zs ws->aZ (gV vs zs) (g us ws)
variable{g:List Value->List Value->List Value}{gV:List V->List V->List V}
end
structure FnScope(N P:List Str)(sc:Scope):Prop where
 kind:sc.kind=.function
 co:sc.isCoroutine=false
 gen:sc.isGenerator=false
 nd:N.Nodup
 pre:N.take P.length=P
 par:∀ x∈P,sc.names.lookup x=some .local\/sc.names.lookup x=some .cell
 nofree:∀ y∈sc.names,y.2≠.free
theorem qQ{kindOf:Str->Option NameKind}{x:Str}:∀ {binds:List (Str×Value)} {m:Str->Option Value},(∀ v,(x,v)∉binds)->bindL kindOf binds m x=m x
 | [],_,_=>rfl
 | (n,v)::r,m,h=>by
  unfold bindL
  rw[qQ fun w hw=>h w (List.mem_cons_of_mem _ hw)]
  split
  ·have:x≠n:=by rintro rfl;exact h v List.mem_cons_self
   simp[this]
  ·rfl
theorem qR{kindOf:Str->Option NameKind}{x:Str}:∀ {binds:List (Str×Value)} {m:Str->Option Value},(∀ v,(x,v)∉binds)->bindC kindOf binds m x=m x
 | [],_,_=>rfl
 | (n,v)::r,m,h=>by
  unfold bindC
  rw[qR fun w hw=>h w (List.mem_cons_of_mem _ hw)]
  split
  ·rfl
  ·have:x≠n:=by rintro rfl;exact h v List.mem_cons_self
   simp[this]
theorem l7{kindOf:Str->Option NameKind}{x:Str}{v:Value}:∀ {P:List Str} {vs:List Value} {i:Nat} {m:Str->Option Value},P.Nodup->P[i]? = some x->vs[i]? = some v->kindOf x=some .local->
  bindL kindOf (P.zip vs) m x=some v
 | [],_,_,_,_,h,_,_=>by simp at h
 | _::_,[],_,_,_,_,h,_=>by simp at h
 | p::P,w::vs,0,m,nd,h1,h2,hk=>by
  simp at h1 h2;subst h1;subst h2
  show bindL kindOf ((p,w)::P.zip vs) m p=_
  unfold bindL
  rw[qQ fun v hv=>(List.nodup_cons.mp nd).1 (List.of_mem_zip hv).1,if_pos hk]
  simp
 | p::P,w::vs,i+1,m,nd,h1,h2,hk=>by
  show bindL kindOf ((p,w)::P.zip vs) m x=_
  unfold bindL
  exact l7 (i:=i) (List.nodup_cons.mp nd).2 (by simpa using h1) (by simpa using h2) hk
theorem l8{kindOf:Str->Option NameKind}{x:Str}{v:Value}:∀ {P:List Str} {vs:List Value} {i:Nat} {m:Str->Option Value},P.Nodup->P[i]? = some x->vs[i]? = some v->kindOf x≠some .local->
  bindC kindOf (P.zip vs) m x=some v
 | [],_,_,_,_,h,_,_=>by simp at h
 | _::_,[],_,_,_,_,h,_=>by simp at h
 | p::P,w::vs,0,m,nd,h1,h2,hk=>by
  simp at h1 h2;subst h1;subst h2
  show bindC kindOf ((p,w)::P.zip vs) m p=_
  unfold bindC
  rw[qR fun v hv=>(List.nodup_cons.mp nd).1 (List.of_mem_zip hv).1,if_neg hk]
  simp
 | p::P,w::vs,i+1,m,nd,h1,h2,hk=>by
  show bindC kindOf ((p,w)::P.zip vs) m x=_
  unfold bindC
  exact l8 (i:=i) (List.nodup_cons.mp nd).2 (by simpa using h1) (by simpa using h2) hk
noncomputable def start(N:List Str)(vs:List V):St:=vs.map some++List.replicate (N.length - vs.length) none
noncomputable def gN(CX:CXT)(P:Program)(w:World)(K:Frag)(mg:Str->Option Value)(base:Heap)(N:List Str)(qual:Str)(scope:Scope)(f:Addr)(cd:Value)(A:Around)(outer:List Env)(s:Shared)(H:Hp)(E:XK):Cx where
 prog:=P
 w:=w
 K:=K
 mg:=mg
 base:=base
 A:=A.deeper (envOfC qual scope s.heap.objs.size f cd)
 N:=N
 s₀:=s
 H₀:=H
 env:=envOfC qual scope s.heap.objs.size f cd
 outer:=outer
 stack:=envOfC qual scope s.heap.objs.size f cd::outer
 ex:=[]
 calm:=true
 fn:=fun _=>true
 pn:=[]
 xe:=fun e s'=>wpAny (model P w) (A.deeper (envOfC qual scope s.heap.objs.size f cd)) (leaving (envOfC qual scope s.heap.objs.size f cd) e) (fun _ s''=>CX outer H s E e s'') (fun e' s''=>CX outer H s E e' s'') s'
theorem jM{sc:Scope}{n:Nat}{x:Str}(h:sc.names.lookup x=some .cell):∃ c,(cellsFrom n sc.names []).lookup x=some c:=by
 have q:=PySem.W.cellsFrom_some sc.names n [] (.inl h)
 exact Option.isSome_iff_exists.mp q
theorem yL{CX:CXT}{P:Program}{w:World}{K:Frag}{mg:Str->Option Value}{base:Heap}{N ps:List Str}{qual:Str}{scope:Scope}{f:Addr}{cd:Value}{A:Around}{outer:List Env}{s s1:Shared}{H:Hp}{E:XK}{us:List Value}{vs:List V}
  (S:FnScope N ps scope) (hd:A.handled=none) (e0:Env0 P w K mg base A outer s H) (hl:vs.length=ps.length) (r:aZ vs us)
  (x:InCallC s s.heap.objs.size (bindL (envOfC qual scope s.heap.objs.size f cd).kindOf (ps.zip us) fun _=>none) (cellsFrom (s.heap.objs.size+1) scope.names []) (bindC (envOfC qual scope s.heap.objs.size f cd).kindOf (ps.zip us) fun _=>none) s1) :
  Inv (gN CX P w K mg base N qual scope f cd A outer s H E) [] (start N vs) H s1:=by
 have hpl:ps.length<=N.length:=by have:=congrArg List.length S.pre;rw[List.length_take] at this;omega
 obtain ⟨h1,tk,rfl,hk⟩:=x.done
 have noA:∀ b:Addr,b∉(gN CX P w K mg base N qual scope f cd A outer s H E).ex:=fun b z=>absurd (show b∈([]:List Addr) from z) (by simp)
 refine ⟨⟨e0.mod,S.kind,rfl,rfl,Nat.le_refl _,fun y z c h1 h2=>?_,fun y hy=>?_,fun y c _ h=>?_,fun _=>hd,Around.frames_deeper e0.frames,.inr ⟨rfl,rfl⟩,fun b z=>absurd z (noA b),e0.bs,e0.bsz,fun b _ _=>noA b,fun b z=>absurd z (noA b),e0.funs,e0.frf⟩,
  rfl,e0.bare,Un.kept hk,⟨_,x.toInCall.ns,fun i y v h1 h2 h3=>?_⟩,fun y c h=>⟨_,x.cell y c h⟩,e0.hok.fresh (Nat.le_refl _),fun y c h=>?_,fun p hp=>absurd (show p∈([]:List (Addr×Obj)) from hp) (by simp),e0.hok.kept hk,?_⟩
 ·exact name_of_addr x.apart (PySem.mem_of_lookup h1) (PySem.mem_of_lookup h2)
 ·have hy:scope.names.lookup y=some .cell\/scope.names.lookup y=some .free:=hy
  rcases hy with hy|hy
  ·exact jM hy
  ·exact absurd rfl (S.nofree _ (PySem.mem_of_lookup hy))
 ·exact Nat.le_of_lt (x.above y c (PySem.mem_of_lookup h))
 ·have hi:i < vs.length:=by
   unfold start at h2
   by_cases hi:i < vs.length
   ·exact hi
   ·rw[List.getElem?_append_right (by simpa using hi)] at h2
    rw[List.getElem?_replicate] at h2
    split at h2<;>cases h2
  have ha:vs[i]? = some v:=by
   unfold start at h2
   rw[List.getElem?_append_left (by simpa using hi),List.getElem?_map] at h2
   cases e:vs[i]? with
   | none=>rw[e] at h2;cases h2
   | some a=>rw[e] at h2;cases h2;rfl
  obtain ⟨u,hu,rv⟩:=r.get ha
  have hp:ps[i]? = some y:=by
   rw[<-S.pre,List.getElem?_take_of_lt (by omega)];exact h1
  have ndP:ps.Nodup:=by rw[<-S.pre];exact S.nd.sublist (List.take_sublist _ _)
  refine ⟨u,rv,?_⟩
  rcases S.par y (List.mem_of_getElem? hp) with k|k
  ·exact .inl ⟨k,l7 ndP hp hu k⟩
  ·obtain ⟨c,e⟩:=jM (n:=s.heap.objs.size+1) k
   refine .inr ⟨.inl k,c,e,?_⟩
   have q:=x.cell y c e
   rw[l8 ndP hp hu (by show scope.names.lookup y≠_;rw[k];decide)] at q
   exact q
 ·exact e0.hok.fresh (Nat.le_of_lt (x.above y c (PySem.mem_of_lookup h)))
 ·unfold start
  show _=N.length
  rw[List.length_append,List.length_map,List.length_replicate]
  omega
theorem wS{CX:CXT}{P:Program}{w:World}{K:Frag}{mg:Str->Option Value}{base:Heap}{k:Nat}{f:Addr}{name qual:Str}{params:Arguments}{body:List Stmt}{scope:Scope}{dV kV doc pm cdv ct oc:Value}{an od:Option Addr}
  {osl:Array (Option Value)} {N ps:List Str} {sp:Sp} (lk:K.lookup f=some ⟨oc,od,.func (PySem.W.fnOf name qual params body scope dV kV doc pm an cdv ct),osl⟩) (hcd:PySem.W.codeIn K cdv qual=true) (S:FnScope N ps scope)
  (len:∀ vs H Q E,sp vs H Q E->vs.length=ps.length)
  (hbody:∀ (A:Around) (outer:List Env) (s:Shared) (H:Hp) (vs:List V) (Q:VK) (E:XK),Room k (A.deeper (envOfC qual scope s.heap.objs.size f cdv))->sp vs H Q E->
   ∃ t,PSs (gN CX P w K mg base N qual scope f cdv A outer s H E) body t/\t {nx:=fun _ H'=>Q .non H',rt:=Q} (start N vs) H) :
  FnOk P w K mg base CX (k+1) f (PySem.W.fnOf name qual params body scope dV kV doc pm an cdv ct) ps sp:=by
 refine ⟨len,fun A outer s H args us vs Q E hr e0 hb r hsp=>?_⟩
 have hl:=len _ _ _ _ hsp
 have KX:K.In s.heap:=e0.mod.kin.keeps fun b o e=>(e0.bs b o e).1
 have lim:s.heap.NoLimit:=e0.mod.nolimit.keeps fun b o e=>(e0.bs b o e).1
 have hkind:∀ y∈ps.zip us,scope.names.lookup y.1=some .local\/(scope.names.lookup y.1=some .cell/\((cellsFrom (s.heap.objs.size+1) scope.names []).lookup y.1).isSome=true):=fun zz0 hy=>by
  obtain ⟨n,v⟩:=zz0
  rcases S.par n (List.of_mem_zip hy).1 with q|q
  ·exact .inl q
  ·exact .inr ⟨q,PySem.W.cellsFrom_some _ _ _ (.inl q)⟩
 refine codeAny_call_function hr.depth (KX _ _ lk) rfl S.co S.gen rfl (PySem.W.codeRec_of KX hcd) (hb _ _ _ _ ?_)
 refine wpAny_newFunctionEnv_cells S.kind hkind fun env he s1 x=>?_
 subst he
 refine ⟨lim.keeps x.toInCall.keep,codeAny_func ?_⟩
 obtain ⟨t,ht,hq⟩:=hbody A outer s H vs Q E (hr.deeper _) hsp
 have I:Inv (gN CX P w K mg base N qual scope f cdv A outer s H E) [] (start N vs) H s1:=yL S hr.hd e0 hl r x
 refine wpAny_mono (ht [] s1 (start N vs) H _ I hq) (fun fl s' hs=>?_) fun e s' hs=>hs
 have fin:∀ {σ':St} {H':Hp} {v:V} {u:Value},Inv (gN CX P w K mg base N qual scope f cdv A outer s H E) [] σ' H' s'->aS v u->Q v H'->CE outer P w H s Q u s':=
  fun {σ' H' v u} J rv q=>⟨v,H',J.os,J.bare,J.base,J.hok,rv,q⟩
 cases fl with
 | ret u=>
  obtain ⟨v,σ',H',J,rv,q⟩:=hs
  exact fin J rv q
 | next=>
  obtain ⟨σ',H',J,q⟩:=hs
  exact fin (v:=V.non) (u:=Value.none) J rfl q
 | brk=>
  obtain ⟨_,_,_,q⟩:=hs
  exact False.elim q
 | cont=>
  obtain ⟨_,_,_,q⟩:=hs
  exact False.elim q
end L2
namespace L2
open PySem PySem.Spec PyProof.Rows
section
variable{X:Cx}{x:Str}{p pos:Pos}{e:Expr}{es:List Expr}{t:TA}{id T:String}{r:List V->Hp->VK->Prop}
def tCB(r:List V->Hp->VK->Prop)(t:TA):TE:=fun σ H Q=>t σ H fun vs H1=>r vs H1 Q
theorem cR(hc:jZ X (.builtin id) r)(hg:Gl X x)(hm:X.mg x=none)(hv:bootBuiltins x=some (.builtin id))(ha:PA X (e::es) t)(hn:x≠"__name__":=by decide)(hdb:(x == ("__debug__":Str))=false:=by decide)
  (he:starEach (e::es) X.env=(false,eval e X.env)::starEach es X.env:=by rfl) (hpl:(backTo pos (starEach es X.env)).any (·.1)=false:=by rfl):PE X (.Call (.Name x p) (e::es) [] pos) (tCB r t):=by
 intro pins s σ H Q I h
 refine wpAny_Call_Name_kw (lZ I hg hm hv ?_ hn hdb)
 exact PyProof.Rows.callWith_builtin1 (thn (ha pos pins s σ H _ I h) fun us s1 ⟨vs,H1,I1,r1,q1⟩=>hc pins s1 σ H1 vs us Q I1 r1 q1) he hpl
theorem fQ(hc:jZ X (.type T) r)(hg:Gl X x)(hm:X.mg x=none)(hv:bootBuiltins x=some (.type T))(ha:PA X (e::es) t)(hn:x≠"__name__":=by decide)(hdb:(x == ("__debug__":Str))=false:=by decide)
  (he:starEach (e::es) X.env=(false,eval e X.env)::starEach es X.env:=by rfl) (hpl:(backTo pos (starEach es X.env)).any (·.1)=false:=by rfl):PE X (.Call (.Name x p) (e::es) [] pos) (tCB r t):=by
 intro pins s σ H Q I h
 refine wpAny_Call_Name_kw (lZ I hg hm hv ?_ hn hdb)
 exact PyProof.Rows.callWith_type1 (thn (ha pos pins s σ H _ I h) fun us s1 ⟨vs,H1,I1,r1,q1⟩=>hc pins s1 σ H1 vs us Q I1 r1 q1) he hpl
end
end L2
namespace HT
open PySem PyProof.Rows
section
open PySem.SeqAt
open PySem.AutoSeq1 (wpAny_loadPart')
open PySem.MeetsSeq PySem.MeetsSeq2 PySem.MeetsSeq3
end
section
variable{prog:Program}{w:World}{A:Around}{E:Value->Shared->Prop}{s:Shared}
theorem aCY{t b:Addr}{vs ws:List Value}{Q:Value->Shared->Prop}(ht:IsTup s.heap t vs.toArray)(hb:IsTup s.heap b ws.toArray)(hv:vs≠[])
  (h1:ws=[]->Q (.ref t) s) (h2:ws≠[]->Q (.ref s.heap.objs.size) {s with heap:=s.heap.push {cls:=.type "tuple",data:=.seq (vs++ws).toArray}})
  (hsz:vs.length+ws.length<=sizeLine):wpAny (model prog w) A (binaryOp .Add (.ref t) (.ref b)) Q E s:=by
 obtain ⟨⟨cls,dd,data,sl⟩,ho,hc,n,hd⟩:=id ht
 obtain ⟨⟨cls2,dd2,data2,sl2⟩,ho2,hc2,n2,hd2⟩:=id hb
 simp only at hc hd hc2 hd2
 subst hc hd hc2 hd2
 have e:vs.toArray++ws.toArray=(vs++ws).toArray:=by simp
 by_cases hw:ws=[]
 ·exact concat_meets ⟨_,ho,rfl⟩ ⟨_,ho2,rfl⟩ noFill_tuple_add seq_tuple_add PySem.F.slot_tuple_add PySem.F.entry_tuple_add (PySem.F.args_tuple_add_2 _ _)
   (tuple_addW1 t b vs.toArray ws.toArray n n2 dd dd2 sl sl2 (by simpa using hv) (by simp[hw])) ⟨ho,ho2,h1 hw⟩
 ·refine concat_meets ⟨_,ho,rfl⟩ ⟨_,ho2,rfl⟩ noFill_tuple_add seq_tuple_add PySem.F.slot_tuple_add PySem.F.entry_tuple_add (PySem.F.args_tuple_add_2 _ _)
   (tuple_addW2 t b vs.toArray ws.toArray n n2 dd dd2 sl sl2 (by simpa using hv) (by simpa using hw) (by rw[List.size_toArray,List.size_toArray];exact hsz)) ⟨ho,ho2,?_⟩
  rw[e]
  exact h2 hw
noncomputable def sIx(n d:Nat):Option Int->Nat
 | none=>d
 | some v=>if v < 0 then (v+(n:Int)).toNat else min v.toNat n
end
end HT
namespace L2
open PySem PySem.Spec PyProof.Rows
abbrev TO:=St->Hp->(Option Int->Hp->Prop)->Prop
def PO(X:Cx)(e:Option Expr)(t:TO):Prop:=
 ∀ (pins:List (Addr×Obj)) (s:Shared) (σ:St) (H:Hp) (Q:Option Int->Hp->Prop),Inv X pins σ H s->t σ H Q->
  wpAny (model X.prog X.w) X.A (evalPart e X.env) (fun u s'=>∃ o H',Inv X pins σ H' s'/\IsPart u o/\Q o H') X.xe s
def aCZ:TO:=fun _ H Q=>Q none H
def aIB(t:TE):TO:=fun σ H Q=>t σ H fun x H1=>∃ i,x=.int i/\Q (some i) H1
section
variable{X:Cx}{e:Expr}{te:TE}{lo hi:Option Expr}{tl th:TO}{pos p2:Pos}
theorem aC0:PO X none aCZ:=by
 intro pins s σ H Q I h
 rw[evalPart_none]
 exact wpAny_pure ⟨none,H,I,.none,h⟩
theorem aC1(h:PE X e te):PO X (some e) (aIB te):=by
 intro pins s σ H Q I hw
 rw[evalPart_some]
 refine thn (h pins s σ H _ I hw) fun u s1 zz0=>?_
 obtain ⟨x,H1,I1,r1,q1⟩:=zz0
 obtain ⟨i,rfl,q⟩:=q1
 obtain ⟨t,rfl⟩:=r1
 exact ⟨some i,H1,I1,.int i t,q⟩
def SlR(X:Cx)(r:V->Option Int->Option Int->Hp->VK->Prop):Prop:=
 ∀ (pins:List (Addr×Obj)) (s:Shared) (σ:St) (H:Hp) (x:V) (v vl vu:Value) (lo hi:Option Int) (sl:Addr) (Q:VK),Inv X pins σ H s->aS x v->s.heap.IsSliceOf sl vl vu .none->IsPart vl lo->IsPart vu hi->r x lo hi H Q->
  ∃ T id,typeLookup (.type T) "__getitem__"=pure (some (.builtin id))/\s.TypeIs v T/\wpAny (model X.prog X.w) X.A (getItem v (.ref sl)) (EP X pins σ Q) X.xe s
def tSl(r:V->Option Int->Option Int->Hp->VK->Prop)(te:TE)(tl th:TO):TE:=fun σ H Q=>te σ H fun x H1=>tl σ H1 fun l H2=>th σ H2 fun u H3=>r x l u H3 Q
theorem aAR{r:V->Option Int->Option Int->Hp->VK->Prop}(hr:SlR X r)(he:PE X e te)(hl:PO X lo tl)(hu:PO X hi th):PE X (.Subscript e (.Slice lo hi none p2) pos) (tSl r te tl th):=by
 intro pins s σ H Q I h
 refine Subscript_ (thn (he pins s σ H _ I h) fun v s1 zz0=>?_)
 obtain ⟨x,H1,I1,r1,q1⟩:=zz0
 refine wpAny_Slice (thn (hl pins s1 σ H1 _ I1 q1) fun vl s2 ⟨l,H2,I2,pl,q2⟩=>thn (hu pins s2 σ H2 _ I2 q2) fun vu s3 zz0=>?_)
 obtain ⟨u,H3,I3,pu,q3⟩:=zz0
 rw[evalPart_none]
 refine wpAny_pure ?_
 have I4:Inv X pins σ H3 {s3 with heap:=s3.heap.push {cls:=.type "slice",data:=.fields #[vl,vu,.none]}}:=I3.kept (t':=s3.toks) fun b ob q=>Heap.get?_push_of_some _ q
 obtain ⟨T,id,hT,ht,hg⟩:=hr pins {s3 with heap:=s3.heap.push {cls:=.type "slice",data:=.fields #[vl,vu,.none]}} σ H3 x v vl vu l u s3.heap.objs.size Q I4 r1 (Heap.IsSliceOf.new ..) pl pu q3
 show wpAny (model X.prog X.w) X.A (subscriptTail e (.Slice lo hi none p2) v (.ref s3.heap.objs.size)) (EP X pins σ Q) X.xe {s3 with heap:=s3.heap.push {cls:=.type "slice",data:=.fields #[vl,vu,.none]}}
 exact tail_any (ops:=[.ref s3.heap.objs.size,v]) ht hT hg (by with_unfolding_all rfl)
def aIC(K:Frag):R2:=fun x y H Q=>∃ a b xs ys,x=.ref a/\y=.ref b/\SqT K H a xs/\SqT K H b ys/\xs≠[]/\xs.length+ys.length<=sizeLine /\
 (ys=[]->Q (.ref a) H)/\(ys≠[]->∀ p,H p=none->Q (.ref p) (upd H p (.tup (xs++ys))))
theorem aZ.nil_iff{xs:List V}{us:List Value}(r:aZ xs us):us=[]↔xs=[]:=by
 cases r with
 | nil=>simp
 | cons _ _=>simp
theorem aC2:OpR X (binaryOp .Add) (aIC X.K):=by
 intro pins s σ H x y v u Q I rx ry h
 obtain ⟨a,b,xs,ys,rfl,rfl,ha,hb,hx,hz,q1,q2⟩:=h
 cases rx
 cases ry
 obtain ⟨its,r1,p1,_⟩:=I.tuple ha
 obtain ⟨its2,r2,p2,_⟩:=I.tuple hb
 refine HT.aCY p1 p2 (fun z=>hx (r1.nil_iff.mp z)) (fun z=>⟨.ref a,H,I,rfl,q1 (r2.nil_iff.mp z)⟩) (fun z=>?_) (by rw[<-r1.length,<-r2.length];exact hz)
 refine ⟨.ref s.heap.objs.size,_,I.laid (t':=s.toks) (o:=.tup (xs++ys)) (fun b ob q=>Heap.get?_push_of_some _ q) (Nat.le_refl _) ?_,rfl,q2 (fun w=>z (r2.nil_iff.mpr w)) _ (I.hok.fresh (Nat.le_refl _))⟩
 exact ⟨by rw[List.length_append];exact hz,_,r1.append r2,IsTup.new _ _⟩
end
end L2
namespace L2
open PySem PySem.Spec PyProof.Rows
noncomputable def ixN(n:Nat)(i:Int):Option Nat:=if 0<=i then (if i < n then some i.toNat else none) else if -(n:Int)<=i then some (i+n).toNat else none
noncomputable def atI{α:Type}(xs:List α)(i:Int):Option α:=(ixN xs.length i).bind fun j=>xs[j]?
theorem aC3{n:Nat}{i:Int}{j:Nat}(h:ixN n i=some j):seqIndex? i n=some j/\j < n /\ -(n:Int)<=i/\i < n:=by
 unfold ixN at h
 by_cases h0:0<=i
 ·rw[if_pos h0] at h
  by_cases h1:i < n
  ·rw[if_pos h1] at h
   have e:i.toNat=j:=Option.some.inj h
   exact ⟨by rw[seqIndex_of h0 h1,e],by omega,by omega,h1⟩
  ·rw[if_neg h1] at h;cases h
 ·rw[if_neg h0] at h
  by_cases h1 : -(n:Int)<=i
  ·rw[if_pos h1] at h
   have e:(i+n).toNat=j:=Option.some.inj h
   exact ⟨by rw[seqIndex_neg (by omega) h1,e],by omega,h1,by omega⟩
  ·rw[if_neg h1] at h;cases h
theorem pR{α:Type}{xs:List α}{i:Int}{v:α}(h:atI xs i=some v):∃ j,seqIndex? i xs.length=some j/\xs[j]? = some v/\j < xs.length /\ -(xs.length:Int)<=i/\i < xs.length:=by
 unfold atI at h
 cases e:ixN xs.length i with
 | none=>rw[e] at h;cases h
 | some j=>
  rw[e] at h
  obtain ⟨h1,h2,h3,h4⟩:=aC3 e
  exact ⟨j,h1,h,h2,h3,h4⟩
theorem d4{α:Type}{xs:List α}{j:Nat}{v:α}(h:xs[j]? = some v):atI xs (j:Int)=some v:=by
 have hj:j < xs.length:=(List.getElem?_eq_some_iff.mp h).1
 have e:ixN xs.length (j:Int)=some j:=by
  unfold ixN
  rw[if_pos (by omega),if_pos (by omega)];simp
 unfold atI;rw[e];exact h
def vB(b:Expr):Prop:=∀ o i,subscripted b false o i=operate [o,i] (getItem o i)
def IxR(X:Cx)(r:R2):Prop:=
 ∀ (value slice:Expr) (pins:List (Addr×Obj)) (s:Shared) (σ:St) (H:Hp) (x y:V) (v u:Value) (Q:VK),Inv X pins σ H s->aS x v->aS y u->r x y H Q->
  subscripted slice false v u=operate [v,u] (getItem v u)->wpAny (model X.prog X.w) X.A (subscriptTail value slice v u) (EP X pins σ Q) X.xe s
def MtR(X:Cx)(id:String)(r:V->List V->Hp->VK->Prop):Prop:=
 ∀ (pins:List (Addr×Obj)) (s:Shared) (σ:St) (H:Hp) (x:V) (xs:List V) (v:Value) (us:List Value) (Q:VK),Inv X pins σ H s->aS x v->aZ xs us->r x xs H Q->
  wpAny (model X.prog X.w) X.A (call (.builtin id) (v::us)) (EP X pins σ Q) X.xe s
section
variable{X:Cx}{a b:Expr}{ta tb:TE}{pos:Pos}
theorem aID{r:R2}(hr:IxR X r)(ha:PE X a ta)(hb:PE X b tb)(hs:vB b):PE X (.Subscript a b pos) (tOp r ta tb):=by
 intro pins s σ H Q I h
 exact Subscript_ (aAP ha hb I h fun v u s2 x y H2 I2 rx ry q=>hr a b pins s2 σ H2 x y v u Q I2 rx ry q (hs _ _))
def aJY(K:Frag):R2:=fun x y H Q=>∃ p xs i v,x=.ref p/\y=.int i/\SqL K H p xs/\atI xs i=some v/\Q v H
def aJZ(K:Frag):R2:=fun x y H Q=>∃ p xs i v,x=.ref p/\y=.int i/\SqT K H p xs/\atI xs i=some v/\Q v H
def aJ0:R2:=fun x y H Q=>∃ z i c,x=.str z/\y=.int i/\z.length<=sizeLine/\atI z.cps.toList i=some c/\Q (.str ⟨#[c]⟩) H
theorem aC4:IxR X (aJY X.K):=by
 intro value slice pins s σ H x y v u Q I rx ry h hs
 obtain ⟨p,xs,i,z,rfl,rfl,hq,he,q⟩:=h
 cases rx
 obtain ⟨t,rfl⟩:=ry
 obtain ⟨its,r,pl,hz⟩:=I.list hq
 obtain ⟨j,h1,h2,h3,h4,h5⟩:=pR he
 obtain ⟨w,ew,rw'⟩:=r.get h2
 have hl:=r.length
 have hn:=oR
 have fin:EP X pins σ Q w s:=⟨z,H,I,rw',q⟩
 by_cases h0:0<=i
 ·have hj:i.toNat=j:=by
   rw[seqIndex_of h0 h5] at h1
   exact Option.some.inj h1
  exact item_listR pl.isList h0 (by omega) (by rw[hj];simpa using ew) fin hs
 ·have hj:(i+(its.toArray.size:Int)).toNat=j:=by
   rw[seqIndex_neg (by omega) h4] at h1
   rw[List.size_toArray,<-hl]
   exact Option.some.inj h1
  exact subscriptTail_builtinR (x:=w) pl.isList.typeIs slot_list_getitem.lookup
   (wpAny_getItem_list_neg (Q:=fun r s'=>r=w/\EP X pins σ Q r s') pl.isList (by omega) (by rw[List.size_toArray]<;>omega) (by omega) (by rw[hj];simpa using ew) ⟨rfl,fin⟩) hs
theorem aFV:IxR X (aJZ X.K):=by
 intro value slice pins s σ H x y v u Q I rx ry h hs
 obtain ⟨p,xs,i,z,rfl,rfl,hq,he,q⟩:=h
 cases rx
 obtain ⟨t,rfl⟩:=ry
 obtain ⟨its,r,pl,hz⟩:=I.tuple hq
 obtain ⟨j,h1,h2,h3,h4,h5⟩:=pR he
 obtain ⟨w,ew,rw'⟩:=r.get h2
 have hl:=r.length
 have hn:=oR
 have fin:EP X pins σ Q w s:=⟨z,H,I,rw',q⟩
 exact subscriptTail_builtinR (x:=w) pl.typeIs slot_tuple_getitem.lookup
  (getItem_tuple (j:=j) (Q:=fun r s'=>r=w/\EP X pins σ Q r s') pl (by omega) (by omega) (by rw[List.size_toArray,<-hl];exact h1) (by simpa using ew) ⟨rfl,fin⟩) hs
theorem aFW:IxR X aJ0:=by
 intro value slice pins s σ H x y v u Q I rx ry h hs
 obtain ⟨z,i,c,rfl,rfl,hz,he,q⟩:=h
 obtain ⟨t,rfl⟩:=rx
 obtain ⟨t',rfl⟩:=ry
 obtain ⟨j,h1,h2,h3,h4,h5⟩:=pR he
 have hl:z.cps.toList.length=z.length:=by simp[Str.length]
 rw[hl] at h1 h4 h5
 have hn:=oR
 exact tail_any (typeIs_str s z t) slot_str_getitem.lookup (getItem_str (c:=c) (by
  have e1:decide (i < -(2 ^ 63:Int))=false:=decide_eq_false (by omega)
  have e2:decide (i>=2 ^ 63)=false:=decide_eq_false (by omega)
  rw[e1,e2,Bool.or_false]) (by rw[h1];simpa using h2) ⟨.str ⟨#[c]⟩,H,I.tok _,⟨_,rfl⟩,q⟩) hs
theorem Inv.lst{pins:List (Addr×Obj)}{σ:St}{H:Hp}{s:Shared}{p:Addr}{xs:List V}(I:Inv X pins σ H s)(h:H p=some (.lst xs)) :
  ∃ (its:List Value) (n:Nat),aZ xs its/\s.heap.get? p=some {cls:=.type "list",data:=.seq its.toArray n}/\xs.length<=sizeLine:=by
 obtain ⟨z,its,n,r,e⟩:=I.hok p _ h
 exact ⟨its,n,r,e,z⟩
theorem dR:jZ X (.type "tuple") (fun xs H Q=>∃ p ys,xs=[.ref p]/\((SqL X.K H p ys/\∀ l,H l=none->Q (.ref l) (upd H l (.tup ys)))\/(SqT X.K H p ys/\Q (.ref p) H))):=by
 intro pins s σ H xs us Q I r h
 obtain ⟨p,ys,rfl,h⟩:=h
 obtain ⟨u,rfl,rx⟩:=wQ r
 cases rx
 rcases h with ⟨hq,q⟩|⟨hq,q⟩
 ·obtain ⟨its,r',pl,hz⟩:=I.list hq
  have hlen:=r'.length
  refine call_tuple_list pl.isList (fun h' kp=>?_) (by simp only[List.size_toArray]<;>omega)
  have I1:Inv X pins σ H {s with heap:=h'}:=I.kept (t':=s.toks) kp
  have I2:Inv X pins σ (upd H h'.objs.size (.tup ys)) {s with heap:=h'.push {cls:=.type "tuple",data:=.seq its.toArray}}:=
   I1.laid (t':=s.toks) (fun b o e=>Heap.get?_push_of_some _ e) (Nat.le_refl _) (show bQ X.prog X.w _ _ _ (.tup ys) from ⟨hz,its,r',IsTup.new _ _⟩)
  exact ⟨.ref h'.objs.size,_,I2,rfl,q _ (I1.hok.fresh (Nat.le_refl _))⟩
 ·obtain ⟨its,r',pl,hz⟩:=I.tuple hq
  exact call_tuple_same pl ⟨.ref p,H,I,rfl,q⟩
def tyV(K:Frag)(T:String)(x:V)(H:Hp):Prop:=match x with
 | .str _=>T="str"
 | .int _=>T="int"
 | .ref p=>(T="list"/\∃ xs,SqL K H p xs)\/(T="tuple"/\∃ o,K.lookup p=some o/\o.cls=.type "tuple"/\o.dict=none) \/
  (T="dict"/\((∃ kvs,H p=some (.dK kvs))\/∃ kvs,H p=some (.dT kvs)))\/(T="set"/\∃ S n,H p=some (.set S n))
 | _=>False
theorem aFX{pins:List (Addr×Obj)}{σ:St}{H:Hp}{s:Shared}{T:String}{x:V}{v:Value}(I:Inv X pins σ H s)(r:aS x v)(ty:tyV X.K T x H) :
  s.TypeIs v T/\∀ a,v=.ref a->∃ ob,s.heap.get? a=some ob/\ob.dict=none:=by
 cases x with
 | str z=>
  obtain ⟨t,rfl⟩:=r
  cases (show T="str" from ty)
  exact ⟨typeIs_str s z t,fun _ e=>nomatch e⟩
 | int i=>
  obtain ⟨t,rfl⟩:=r
  cases (show T="int" from ty)
  exact ⟨typeIs_int s i t,fun _ e=>nomatch e⟩
 | ref p=>
  cases r
  rcases ty with ⟨rfl,xs,hq⟩|⟨rfl,o,hk,hc,hd⟩|⟨rfl,hk⟩|⟨rfl,S,n,hk⟩
  ·obtain ⟨its,_,pl,_⟩:=I.list hq
   refine ⟨pl.isList.typeIs,fun a e=>?_⟩
   cases e
   obtain ⟨o,n,e,c,hd,_⟩:=pl
   exact ⟨o,e,hd⟩
  ·refine ⟨⟨o,I.kIn p o hk,hc⟩,fun a e=>?_⟩
   cases e
   exact ⟨o,I.kIn _ o hk,hd⟩
  ·have z:∃ o,s.heap.get? p=some o/\o.ExactDict:=by
    rcases hk with ⟨kvs,hk⟩|⟨kvs,hk⟩
    ·obtain ⟨_,_,_,_,o,_,_,e,ex,_⟩:=I.hok p _ hk
     exact ⟨o,e,ex⟩
    ·obtain ⟨_,_,_,_,o,_,_,e,ex,_⟩:=I.hok p _ hk
     exact ⟨o,e,ex⟩
   obtain ⟨o,e,ex⟩:=z
   refine ⟨⟨o,e,ex.1⟩,fun a e2=>?_⟩
   cases e2
   exact ⟨o,e,ex.2.1⟩
  ·obtain ⟨o,_,_,_,e,ex,_⟩:=I.hok p _ hk
   refine ⟨⟨o,e,ex.1⟩,fun a e2=>?_⟩
   cases e2
   exact ⟨o,e,ex.2.1⟩
 | _=>exact False.elim ty
def tBM(K:Frag)(T:String)(r:V->List V->Hp->VK->Prop)(to:TE)(t:TA):TE:=fun σ H Q=>to σ H fun x H1=>tyV K T x H1/\t σ H1 fun xs H2=>r x xs H2 Q
variable{o e:Expr}{es:List Expr}{to:TE}{t:TA}{name:Str}{apos cpos:Pos}{T id:String}{r:V->List V->Hp->VK->Prop}
theorem k6(pa:PlainAttrs T)(slot:Slot T name id)(hty:typeOf (.builtin id)=pure (.type "method_descriptor"))(hm:MtR X id r)(ho:PE X o to)(ha:PA X (e::es) t)
  (hbase:attributeBase o name X.env (eval o X.env)=eval o X.env:=by rfl)
  (hfew:((backTo cpos (starEach (e::es) X.env)).all (fun x=>!x.1) && (backToKw cpos (keywordEach [] X.env)).all (fun x=>x.1.isSome)
   && decide ((e::es).length+([]:List Keyword).length+(if ([]:List Keyword).isEmpty then 0 else 1) < 30))=true:=by rfl)
  (hline:(apos.endLine == cpos.line)=true:=by rfl) (hs:starEach (e::es) X.env=(false,eval e X.env)::starEach es X.env:=by rfl) (hplain:(backTo cpos (starEach es X.env)).any (·.1)=false:=by rfl) :
  PE X (.Call (.Attribute o name apos) (e::es) [] cpos) (tBM X.K T r to t):=by
 intro pins s σ H Q I h
 refine wpAny_Call_method_late hbase hfew hline rfl (thn (ho pins s σ H _ I h) fun v s1 zz0=>?_)
 obtain ⟨x,H1,I1,r1,ty,q1⟩:=zz0
 obtain ⟨h1,h2⟩:=aFX I1 r1 ty
 refine ⟨T,id,pa,slot,hty,h1,h2,?_⟩
 have hA:=ha cpos pins s1 σ H1 _ I1 q1
 rw[hs] at hA ⊢
 refine Calls.callWith_builtin (by show (false || (backTo cpos (starEach es X.env)).any (·.1))=false;rw[hplain]<;>rfl) (Calls.evalArgs_plain ?_)
 exact thn hA fun us s2 ⟨vs,H2,I2,r2,q2⟩=>hm pins s2 σ H2 x vs v us Q I2 r1 r2 q2
end
end L2
namespace L2
open PySem PySem.Spec PyProof.Rows
def MtM(X:Cx)(id:String)(r:V->List V->Hp->VK->Prop):Prop:=
 ∀ (pins:List (Addr×Obj)) (s:Shared) (σ:St) (H:Hp) (x:V) (xs:List V) (v:Value) (us:List Value) (Q:VK),Inv X pins σ H s->aS x v->aZ xs us->r x xs H Q->
  wpAny (model X.prog X.w) X.A (call (.builtin id) (v::us)) (EP X pins σ Q) X.xe s
theorem aZ.one:∀ {x:V} {us:List Value},aZ [x] us->∃ u,us=[u]/\aS x u
 | _,_,.cons r .nil=>⟨_,rfl,r⟩
theorem aZ.reverse{xs:List V}{us:List Value}(h:aZ xs us):aZ xs.reverse us.reverse:=by
 induction h with
 | nil=>exact .nil
 | cons r t ih=>rw[List.reverse_cons,List.reverse_cons];exact aZ.append ih (.cons r .nil)
section
variable{X:Cx}{pins:List (Addr×Obj)}{σ:St}{H:Hp}{s:Shared}{l b:Addr}{xs ys zs:List V}
theorem Inv.lset{its its':List Value}{n:Nat}{f:Array Value->Array Value}{t':Nat}(I:Inv X pins σ H s)(hH:H l=some (.lst xs))
  (e:s.heap.get? l=some {cls:=.type "list",data:=.seq its.toArray n}) (hf:f its.toArray=its'.toArray) (hv:aZ ys its') (hz:ys.length<=sizeLine) :
  Inv X pins σ (upd H l (.lst ys)) {s with heap:=s.heap.update l (Obj.mapSeq f),toks:=t'}:=by
 have q:=PySem.IsL.update e f
 rw[hf] at q
 refine I.write (x:=l) (e:=l) (by rw[hH];exact trivial) (.inl rfl) (fun b' u hb hu=>(Heap.get?_update_other s.heap (Obj.mapSeq f) (Ne.symm hb)).trans hu) ⟨_,q⟩ ?_
 exact ⟨hz,its',_,hv,q⟩
theorem Inv.lstM(I:Inv X pins σ H s)(hH:H l=some (.lst xs)):xs.length<=sizeLine/\∃ (its:List Value) (n:Nat),aZ xs its/\xs.length=its.length/\s.heap.get? l=some {cls:=.type "list",data:=.seq its.toArray n}:=by
 obtain ⟨z,its,n,r,e⟩:=I.hok l _ hH
 exact ⟨z,its,n,r,r.length,e⟩
end
section
variable{X:Cx}
def vC:V->List V->Hp->VK->Prop:=fun x vs H Q=>∃ l xs y,x=.ref l/\vs=[y]/\H l=some (.lst xs)/\xs.length < sizeLine/\Q .non (upd H l (.lst (xs++[y])))
theorem gT:MtM X "list.append" vC:=by
 intro pins s σ H x vs v us Q I rx rv h
 obtain ⟨l,xs,y,rfl,rfl,hH,hz,q⟩:=h
 cases rx
 obtain ⟨u,rfl,ru⟩:=rv.one
 obtain ⟨z,its,n,r,hl,e⟩:=I.lstM hH
 refine call_meets F.slot_list_append ⟨_,e,rfl⟩ F.entry_list_append (F.args_list_append_2 _ _) (PySem.list_append l its.toArray n u (by rw[List.size_toArray];omega)) ⟨e,?_⟩
 refine ⟨.non,_,I.lset (its':=its++[u]) hH e (by simp) (r.append (.cons ru .nil)) ?_,rfl,q⟩
 rw[List.length_append,List.length_singleton]
 omega
end
end L2
namespace Att
open PySem PySem.W PySem.Calls PyProof.Rows
theorem oS{P:Params}{h:Heap}:∀ (ns:List Int) (vs:List Value),WellAll P h vs (ns.map WData.int)->IntsAre vs ns:=by
 intro ns
 induction ns with
 | nil=>
  intro vs w
  rw[List.map_nil] at w
  cases w
  exact .nil
 | cons n ns ih=>
  intro vs w
  rw[List.map_cons] at w
  cases w with
  | cons a b=>
   cases a
   exact .cons _ _ (ih _ b)
theorem yM{l:OpenLaw}{n:Nat}(hn:l.most=some n){P:Params}{h:Heap}{args:List WData}{vals:List Value}
  (hpre:l.row.toRowW.claim.pre args=true) (hwl:WellAll P h vals args) :
  ∃ a vs ns,vals=[Value.ref a]/\args=[WData.list (ns.map WData.int)]/\h.get? a=some {cls:=.type "list",data:=.seq vs.toArray}/\IntsAre vs ns/\ns.length<=n:=by
 have hsh:WShape.hasAll [] args [.list .int]=true:=(pre_splitW hpre).1
 have hc:l.pre.holds [] {args:=args}=true:=(pre_splitW hpre).2
 obtain ⟨d,r,rfl,h1,h2⟩:=hasAllW_cons hsh
 obtain rfl:=hasAllW_nil h2
 obtain ⟨xs,rfl,h3⟩:=hasW_list h1
 obtain ⟨ns,rfl⟩:=items_int h3
 have hlen:ns.length<=n:=by
  unfold OpenLaw.pre at hc
  have h4:(WTm.not (.lt (.lit (.int (n:Int))) (.len (.arg 0)))).holds [] {args:=[.list (ns.map .int)]}=true:=by
   have h4:=(holds_andW hc).1
   rw[hn] at h4
   exact h4
  have h5:=condW_of h4 (w_not (w_lt w_lit (w_len_list (w_arg rfl))))
  rw[List.length_map] at h5
  refine Nat.le_of_not_lt fun q=>?_
  have q':(n:Int) < ((ns.length:Nat):Int):=by omega
  first
   | (rw[decide_eq_true q'] at h5;exact absurd h5 (by decide))
   | (simp at h5;omega)
 cases hwl with
 | cons w1 w2=>
  cases w2
  cases w1 with
  | list ho hall=>exact ⟨_,_,ns,rfl,rfl,ho,oS ns _ hall,hlen⟩
theorem yN(l:OpenLaw)(args:List WData):l.row.toRowW.claim.post args (.bool true) args=true:=
 postW_of (r:=l.row.toRowW) (X:=(true == true))
  (show WShape.has [] (.bool true) .bool=true by first|rfl|decide|simp[WShape.has,WShape.arms,WShape.armsAll])
  (show (WTm.eq .res (.lit (.bool true))).value [] {args:=args,res:=some (.bool true),after:=args}=some (.bool (true == true)) from w_eq_bool (w_res rfl) w_lit) rfl
theorem attach_call{l:OpenLaw}{n:Nat}{q:Program}{loose:List Str}{XP:(Str->Option Value)->Heap->Prop}{YP:World->Heap->Prop}{d:DefRec}
  (hn:l.most=some n) (hdf:d.params.defaults=[])
  (call:∀ (w:World) (s₀ s₁:Shared) (mg mb:Str->Option Value) (fa:Addr) (o:Obj) (pm cd doc:Value) (a:Addr) (vs:List Value) (ns:List Int),
   Ground q loose [] XP w s₀ mg mb s₁.heap->YP w s₁.heap->
   s₁.heap.get? fa=some o->o.data=.func (docDef d.name d.params d.body d.scope pm cd doc)->s₁.heap.CodeRec cd d.name->mg d.name=some (.ref fa)->
   s₁.heap.get? a=some {cls:=.type "list",data:=.seq vs.toArray}->IntsAre vs ns->ns.length<=n->s₁.gens = #[]->
   codeAny (model l.prog w) callerA (.call (.ref fa) ⟨[.ref a],[]⟩) (fun r s'=>r=.ok (.ret (.bool true))/\OldK s₁.heap s'.heap/\s'.os=s₁.os/\AllBare s'.gens) s₁) :
  WalkO q loose XP YP l.row.toRowW d [] (fun f vs=>PySem.call f vs):=by
 intro w s₀ s₁ mg mb G Y fa o pm cd doc dV kV ho hd hcd hD hmg hg args vals as hpre hlay hrd hwl hlo
 obtain rfl:dV=.none:=Dflts.none hD hdf
 obtain rfl:kV=.none:=Dflts.noKw hD
 obtain ⟨a,vs,ns,rfl,rfl,hobj,hints,hlen⟩:=yM hn hpre hwl
 refine enter_call (codeAny_mono (call w s₀ s₁ mg mb fa o pm cd doc a vs ns G Y ho (fd_plain hd) hcd hmg hobj hints hlen hg) fun r s' hq=>?_)
 obtain ⟨rfl,h2,h3,h4⟩:=hq
 exact ⟨.inl ⟨.bool true,.bool true,[],rfl,fun _=>rfl,.bool true,yN l _,fun _=>⟨List.Pairwise.nil,fun _ hm=>(nomatch hm)⟩⟩,h2,h3,h4⟩
section
variable{prog:Program}{w:World}{A:Around}{E:Value->Shared->Prop}{s:Shared}{K:Frag}
noncomputable def aLT(h:Heap)(L d:Addr):List (Addr×Obj):=(List.range h.objs.size).filterMap fun a=>if a=L\/a=d then none else (h.get? a).map fun o=>(a,o)
end
end Att
namespace L2
open PySem PySem.Spec PyProof.Rows
theorem qS:∀ {vs:List Value} {ns:List Int},IntsAre vs ns->aZ (ns.map V.int) vs
 | _,_,.nil=>.nil
 | _,_,.cons n t h=>.cons ⟨t,rfl⟩ (qS h)
end L2
namespace L2
open PySem PySem.Spec PyProof.Rows
abbrev KOf{K:Frag}{h:Heap}(_:K.In h):Frag:=K
end L2
namespace L2
open PySem PySem.Spec PyProof.Rows
noncomputable def eM(s:Stmt):Arguments:=match s with
 | .FunctionDef _ a _ _ _ _ _ _ _ _=>a
 | _=>{posonlyargs:=[],args:=[],vararg:=none,kwonlyargs:=[],kw_defaults:=[],kwarg:=none,defaults:=[]}
noncomputable def cI(s:Stmt):List Stmt:=match s with
 | .FunctionDef _ _ b _ _ _ _ _ _ _=>b
 | _=>[]
noncomputable def aJ(s:Stmt):Scope:=match s with
 | .FunctionDef _ _ _ _ _ _ sc _ _ _=>sc
 | _=>{kind:=.function,names:=[],isGenerator:=false,isCoroutine:=false}
abbrev CX0:CXT:=fun _ _ _ _ _ _=>False
abbrev E0:XK:=fun _ _ _=>False
structure Fun(K:Frag)(x qual:Str)(st:Stmt)(f:Addr)(fd:FuncData):Prop where
 ex:∃ (oc:Value) (od:Option Addr) (kV doc pm:Value) (an:Option Addr) (cdv ct:Value) (osl:Array (Option Value)),
  fd=PySem.W.fnOf x qual (eM st) (cI st) (aJ st) .none kV doc pm an cdv ct/\K.lookup f=some ⟨oc,od,.func fd,osl⟩/\PySem.W.codeIn K cdv qual=true
 kp:PySem.W.keepIn K (.ref f)=true
section
variable{P:Program}{w:World}{K:Frag}{mg:Str->Option Value}{base:Heap}
theorem Fun.ok{x qual:Str}{st:Stmt}{f:Addr}{fd:FuncData}{N ps:List Str}{k:Nat}{sp:Sp}(F:Fun K x qual st f fd)(S:FnScope N ps (aJ st))(len:∀ vs H Q E,sp vs H Q E->vs.length=ps.length)
  (hbody:∀ (cdv:Value) (A:Around) (outer:List Env) (s:Shared) (H:Hp) (vs:List V) (Q:VK) (E:XK),Room k (A.deeper (envOfC qual (aJ st) s.heap.objs.size f cdv))->sp vs H Q E->
   ∃ t,PSs (gN CX0 P w K mg base N qual (aJ st) f cdv A outer s H E).nox (cI st) t/\t {nx:=fun _ H'=>Q .non H',rt:=Q} (start N vs) H):FnOk P w K mg base CX0 (k+1) f fd ps sp:=by
 obtain ⟨oc,od,kV,doc,pm,an,cdv,ct,osl,rfl,lk,hcd⟩:=F.ex
 refine wS lk hcd S len fun A outer s H vs Q E hr hsp=>?_
 obtain ⟨t,h,q⟩:=hbody cdv A outer s H vs Q E hr hsp
 exact ⟨t,h.nox,q⟩
theorem Fun.binds{x qual:Str}{st:Stmt}{f:Addr}{fd:FuncData}{ps:List Str}(F:Fun K x qual st f fd)
  (h:∀ (kV doc pm:Value) (an:Option Addr) (cdv ct:Value) (us:List Value),us.length=ps.length->bindArgs (PySem.W.fnOf x qual (eM st) (cI st) (aJ st) .none kV doc pm an cdv ct) ⟨us,[]⟩=pure (ps.zip us)):f8 K fd ps []:=by
 obtain ⟨oc,od,kV,doc,pm,an,cdv,ct,osl,rfl,lk,hcd⟩:=F.ex
 exact .all (h kV doc pm an cdv ct)
theorem yO{x qual:Str}{st:Stmt}{f:Addr}{oc:Value}{od an:Option Addr}{osl:Array (Option Value)}{kV doc pm cdv ct:Value}(l:K.lookup f=some ⟨oc,od,.func (PySem.W.fnOf x qual (eM st) (cI st) (aJ st) .none kV doc pm an cdv ct),osl⟩)
 (c:PySem.W.codeIn K cdv qual=true) (k:PySem.W.keepIn K (.ref f)=true):Fun K x qual st f (PySem.W.fnOf x qual (eM st) (cI st) (aJ st) .none kV doc pm an cdv ct):=⟨⟨oc,od,kV,doc,pm,an,cdv,ct,osl,rfl,l,c⟩,k⟩
end
section
variable{X:Cx}
theorem pv(i:Nat){x:Str}{pos:Pos}(hN:X.N[i]? = some x:=by rfl)(hv:Vis X.env.scope x:=by first|exact Or.inl rfl|exact Or.inr (Or.inl rfl)|exact Or.inr (Or.inr rfl))(hd:(x == ("__debug__":Str))=false:=by decide)
 (hcd:(x == ("__classdict__":Str))=false:=by decide):PE X (.Name x pos) (i5 i):=aFB hN hv hd hcd
end
theorem sJ{A B:Prop}(h:B):if false=true then A else B:=by
 rw[if_neg Bool.false_ne_true]
 exact h
theorem sK{A B:Prop}(h:A):if true=true then A else B:=by
 rw[if_pos rfl]
 exact h
def aG(H H':Hp):Prop:=∀ b o,H b=some o->H' b=some o
theorem aG.trans{H H1 H2:Hp}(a:aG H H1)(b:aG H1 H2):aG H H2:=fun c o h=>b c o (a c o h)
theorem aG.free{H H':Hp}(e:aG H H'){l:Addr}(h:H' l=Option.none):H l=Option.none:=by
 cases q:H l with
 | none=>rfl
 | some o=>
  rw[e l o q] at h
  cases h
theorem aG.seq{K:Frag}{H H':Hp}{a:Addr}{xs:List V}(e:aG H H')(h:SqL K H a xs):SqL K H' a xs:=by
 rcases h with (h|⟨o,h⟩)|h
 · exact .inl (.inl (e _ _ h))
 · exact .inl (.inr ⟨o, e _ _ h⟩)
 · exact .inr h
end L2
namespace L2
open PySem PySem.Spec PyProof.Rows
theorem wU{env:Env}:∀ (names:List (Str×NameKind)) (acc:List (Str×Addr)),(∀ x∈names,x.2=.free->∃ c,env.cells.lookup x.1=some c)->
  (∀ x c,acc.lookup x=some c->env.cells.lookup x=some c)->
  ∃ cl,(forIn names acc fun x r=>(if (x.2 == NameKind.free)=true then (do let a <-cellOf env x.1;pure (ForInStep.yield ((x.1,a)::r))) else pure (ForInStep.yield r)):Sem (List (Str×Addr)))=pure cl /\
   (∀ x c,cl.lookup x=some c->env.cells.lookup x=some c)/\(∀ x∈names,x.2=.free->∃ c,cl.lookup x.1=some c)/\∀ x c,acc.lookup x=some c->∃ c',cl.lookup x=some c':=by
 intro names
 induction names with
 | nil=>intro acc _ h;exact ⟨acc,rfl,h,fun x hx=>absurd hx (by simp),fun x c e=>⟨c,e⟩⟩
 | cons x r ih=>
  intro acc hf h
  obtain ⟨n,k⟩:=x
  by_cases hk:k=.free
  ·subst hk
   obtain ⟨c,hc⟩:=hf (n,.free) List.mem_cons_self rfl
   have hc:env.cells.lookup n=some c:=hc
   obtain ⟨cl,e1,e2,e3,e4⟩:=ih ((n,c)::acc) (fun y hy=>hf y (List.mem_cons_of_mem _ hy)) (fun y d e=>by
    rw[List.lookup_cons] at e
    cases q:y == n with
    | true=>rw[q] at e;cases e;have:=eq_of_beq q;subst this;exact hc
    | false=>rw[q] at e;exact h y d e)
   refine ⟨cl,?_,e2,fun y hy hyf=>?_,fun y d e=>?_⟩
   ·rw[List.forIn_cons]
    simp only[beq_self_eq_true,if_true]
    unfold cellOf
    simp only[hc,pure_bind]
    exact e1
   ·rcases List.mem_cons.mp hy with z|z
    ·subst z
     exact e4 n c (by rw[List.lookup_cons];simp)
    ·exact e3 y z hyf
   ·by_cases q:y=n
    ·subst q;exact e4 y c (by rw[List.lookup_cons];simp)
    ·exact e4 y d (by rw[List.lookup_cons,beq_false_of_ne q];exact e)
  ·obtain ⟨cl,e1,e2,e3,e4⟩:=ih acc (fun y hy=>hf y (List.mem_cons_of_mem _ hy)) h
   refine ⟨cl,?_,e2,fun y hy hyf=>?_,e4⟩
   ·rw[List.forIn_cons]
    have:(k == NameKind.free)=false:=by simpa using hk
    simp only[this,Bool.false_eq_true,if_false,pure_bind]
    exact e1
   ·rcases List.mem_cons.mp hy with z|z
    ·subst z;exact absurd hyf hk
    ·exact e3 y z hyf
theorem oU{env:Env}{scope:Scope}(hf:∀ x∈scope.names,x.2=.free->∃ c,env.cells.lookup x.1=some c) :
  ∃ cl,closureFor scope env=pure cl/\(∀ x c,cl.lookup x=some c->env.cells.lookup x=some c)/\∀ x∈scope.names,x.2=.free->∃ c,cl.lookup x.1=some c:=by
 obtain ⟨cl,e1,e2,e3,_⟩:=wU scope.names [] hf (fun x c e=>by simp at e)
 refine ⟨cl,?_,e2,e3⟩
 unfold closureFor
 first
  | exact e1
  | (rw[<-e1];rfl)
  | (simp only[bind_pure];exact e1)
theorem eN{env:Env}:∀ {names:List (Str×NameKind)} {x:Str} {k:NameKind},
  (names.map fun (n,k)=>if (k == NameKind.free && env.scope.kind == .function && env.kindOf n == some .cell) then (n,NameKind.cell) else (n,k)).lookup x=some k->
  k=.cell\/k=.free->(∀ y∈names,y.2≠.cell)->(x,NameKind.free)∈names
 | [],_,_,h,_,_=>by simp at h
 | (n,k0)::r,x,k,h,hk,hc=>by
  have ih:=@eN env r x k
  rw[List.map_cons] at h
  dsimp only at h
  by_cases hx:x=n
  ·subst hx
   by_cases hcond:(k0 == NameKind.free && env.scope.kind == .function && env.kindOf x == some .cell)=true
   ·have:k0=.free:=by
     simp only[Bool.and_eq_true] at hcond
     exact eq_of_beq hcond.1.1
    subst this
    exact List.mem_cons_self
   ·rw[if_neg hcond,List.lookup_cons] at h
    simp only[beq_self_eq_true] at h
    cases h
    rcases hk with rfl|rfl
    ·exact absurd rfl (hc _ List.mem_cons_self)
    ·exact List.mem_cons_self
  ·have hb:(x == n)=false:=beq_false_of_ne hx
   refine List.mem_cons_of_mem _ (ih ?_ hk fun y hy=>hc y (List.mem_cons_of_mem _ hy))
   split at h
   ·rw[List.lookup_cons,hb] at h;exact h
   ·rw[List.lookup_cons,hb] at h;exact h
noncomputable def eO(X:Cx)(N:List Str)(scope:Scope)(cl:List (Str×Addr))(C:Addr)(s:Shared)(H:Hp)(fp:List Addr):Cx where
 prog:=X.prog
 w:=X.w
 K:=X.K
 mg:=X.mg
 base:=X.base
 A:=X.A
 N:=N
 s₀:=s
 H₀:=H
 env:=compEnvC scope cl C X.env
 outer:=X.stack
 stack:=X.stack
 ex:=fp
 calm:=X.calm
 fn:=fun _=>false
 pn:=[]
 xe:=fun _ _=>False
inductive Caps(X:Cx)(scope:Scope):List Str->List (Option Nat)->Prop
 | nil:Caps X scope [] []
 | own {x:Str} {N:List Str} {js:List (Option Nat)} (t:Caps X scope N js):Caps X scope (x::N) (none::js)
 | cap {x:Str} {j:Nat} {N:List Str} {js:List (Option Nat)} (h1:X.N[j]? = some x) (h2:X.env.kindOf x=some .cell\/X.env.kindOf x=some .free)
  (h3:(relabel scope X.env).names.lookup x=some .cell\/(relabel scope X.env).names.lookup x=some .free) (t:Caps X scope N js):Caps X scope (x::N) (some j::js)
theorem Caps.len{X:Cx}{scope:Scope}{N:List Str}{js:List (Option Nat)}(c:Caps X scope N js):js.length=N.length:=by
 induction c with
 | nil=>rfl
 | own _ ih=>simp[ih]
 | cap _ _ _ _ ih=>simp[ih]
theorem Caps.get{X:Cx}{scope:Scope}{N:List Str}{js:List (Option Nat)}(c:Caps X scope N js):∀ {i j:Nat} {x:Str},js[i]? = some (some j)->N[i]? = some x->
  X.N[j]? = some x/\(X.env.kindOf x=some .cell\/X.env.kindOf x=some .free)/\((relabel scope X.env).names.lookup x=some .cell\/(relabel scope X.env).names.lookup x=some .free):=by
 induction c with
 | nil=>intro i j x h;simp at h
 | own _ ih=>
  intro i j x h1 h2
  cases i with
  | zero=>simp at h1
  | succ i=>exact ih (by simpa using h1) (by simpa using h2)
 | cap a b d _ ih=>
  intro i j x h1 h2
  cases i with
  | zero=>
   simp at h1 h2
   subst h1 h2
   exact ⟨a,b,d⟩
  | succ i=>exact ih (by simpa using h1) (by simpa using h2)
noncomputable def iF(js:List (Option Nat))(σ:St):St:=js.map fun o=>o.bind fun j=>(σ[j]?).join
def cZ(σ σ':St):Prop:=σ'.length=σ.length/\∀ (i:Nat) v,σ[i]? = some (some v)->σ'[i]? = some (some v)
theorem cZ.refl(σ:St):cZ σ σ:=⟨rfl,fun _ _ h=>h⟩
theorem cZ.set{σ:St}{i:Nat}{v:Option V}(h:σ[i]? = some none):cZ σ (σ.set i v):=by
 refine ⟨List.length_set,fun j u e=>?_⟩
 by_cases q:i=j
 · subst q; rw [h] at e; cases e
 · rw [List.getElem?_set_ne q]; exact e
theorem cZ.trans{a b c:St}(h:cZ a b)(k:cZ b c):cZ a c:=⟨k.1.trans h.1,fun i v e=>k.2 i v (h.2 i v e)⟩
section
variable{X:Cx}
def PIf(X:Cx)(ifs:List Expr)(t:TT):Prop:=
 ∀ (pins:List (Addr×Obj)) (s:Shared) (σ:St) (H:Hp) (Q:Bool->Hp->Prop),Inv X pins σ H s->t σ H Q->
  wpAny (model X.prog X.w) X.A (forIn ifs true fun c r=>if r=true then do let ok <-isTrue c X.env (eval c X.env);pure (ForInStep.yield ok) else pure (ForInStep.yield r)) (TP X pins σ Q) X.xe s
def aJ1:TT:=fun _ H Q=>Q true H
theorem eP:PIf X [] aJ1:=by
 intro pins s σ H Q I h
 show wpAny _ _ (pure true) _ _ s
 exact wpAny_pure ⟨H,I,h⟩
end
def pS(X:Cx)(N:List Str)(scope:Scope)(js:List (Option Nat))(tg elt:Expr)(ifs:List Expr)(σ:St)(x:V)(H:Hp)(R:Option V->Hp->Prop):Prop:=
 ∀ (cl:List (Str×Addr)) (C:Addr) (s:Shared) (H0:Hp) (fp:List Addr),∃ (g:TG) (tt:TT) (te:TE),PG (eO X N scope cl C s H0 fp) tg g/\PIf (eO X N scope cl C s H0 fp) ifs tt/\PE (eO X N scope cl C s H0 fp) elt te /\
  ∀ σ0,cZ (iF js σ) σ0->g x σ0 H fun σ2 H2=>cZ (iF js σ) σ2/\tt σ2 H2 fun b H3=>if b=true then te σ2 H3 fun y H4=>R (some y) H4 else R none H3
def compK(X:Cx)(N:List Str)(scope:Scope)(js:List (Option Nat))(tg elt:Expr)(ifs:List Expr)(σ:St)(Q:VK)(J:It)(H1:Hp):Prop:=∃ (n:Nat) (W:Nat->List V->Hp->Prop),n<=sizeLine/\W 0 [] H1 /\
 ∀ i ys H,W i ys H->ys.length<=i/\((J.stop i H/\∀ p,H p=none->Q (.ref p) (upd H p (.lst ys)))\/(J.go i H/\i < n/\∃ R:Option V->Hp->Prop,(∀ y H2,R (some y) H2->W (i+1) (ys++[y]) H2)/\(∀ H2,R none H2->W (i+1) ys H2) /\
  ∀ x H',J.yld i H x H'->pS X N scope js tg elt ifs σ x H' R))
def oV(X:Cx)(N:List Str)(scope:Scope)(js:List (Option Nat))(tg elt:Expr)(ifs:List Expr)(wi:TI):TE:=fun σ H Q=>wi σ H (compK X N scope js tg elt ifs σ Q)
end L2
namespace L2
open PySem PySem.Spec PyProof.Rows
section
variable{prog:Program}{w:World}{A:Around}{R:Result->Shared->Prop}{s:Shared}
theorem sL{elt target iter:Expr}{ifs:List Expr}{scope:Scope}{pos:Pos}{it acc:Value}{env:Env}(I:Nat->Shared->Prop)
  (turn:∀ n s,I n s->wpAny (model prog w) A (pyNext it) (fun r s1=>match r with
   | none=>R (.ok .next) s1
   | some v=>wpAny (model prog w) A (letOwnedTupleGo target it v) (fun _ s1'=>wpAny (model prog w) A (assign target env v) (fun _ s2=>
    wpAny (model prog w) A (forIn ifs true fun c r=>if r=true then do let ok <-isTrue c env (eval c env);pure (ForInStep.yield ok) else pure (ForInStep.yield r)) (fun ok s3=>
     if ok=true then wpAny (model prog w) A (eval elt env) (fun x s4=>
      wpAny (model prog w) A (call (.builtin "list.append") [acc,x]) (fun _ s5=>∃ m,m < n/\I m s5) (fun _ _=>False) s4) (fun _ _=>False) s3
     else ∃ m,m < n/\I m s3) (fun _ _=>False) s2) (fun _ _=>False) s1') (fun _ _=>False) s1) (fun _ _=>False) s)
  (n:Nat) (h:I n s) :
  codeAny (model prog w) A (.compLoop (.ListComp elt [⟨target,iter,ifs,0⟩] scope pos) 0 it acc env) R s:=by
 refine codeAny_loop rfl I (fun n s hI=>?_) n h
 show wpAny _ A ((compTurn (.ListComp elt [⟨target,iter,ifs,0⟩] scope pos) 0 it acc env).onRaise (fun x=>do noteFrame x env;theTreesLotGoes x)) _ _ s
 refine wpAny_noted ?_
 rw[compTurn_list]
 have nr:∀ {α:Type} {t:Sem α} {Q:α->Shared->Prop} {E':Value->Shared->Prop} {s:Shared},wpAny (model prog w) A t Q (fun _ _=>False) s->wpAny (model prog w) A t Q E' s:=fun h=>wpAny_mono h (fun _ _ q=>q) fun _ _ f=>f.elim
 refine wpAny_bind (wpAny_standAt (wpAny_bind (wpAny_mono (turn n s hI) (fun r s₁ h₁=>?_) fun _ _ h'=>h'.elim)))
 cases r with
 | none=>exact wpAny_pure h₁
 | some v=>
  refine wpAny_bind (wpAny_mono h₁ (fun _ s1' h1'=>?_) fun _ _ f=>f.elim)
  refine wpAny_bind (wpAny_mono h1' (fun _ s₂ h₂=>wpAny_bind (wpAny_mono h₂ (fun ok s₃ h₃=>?_) fun _ _ h'=>h'.elim)) fun _ _ h'=>h'.elim)
  cases ok with
  | false=>exact wpAny_pure ⟨rfl,h₃⟩
  | true=>
   exact wpAny_bind (wpAny_bind (wpAny_mono h₃ (fun x s₄ h₄=>wpAny_bind (wpAny_mono h₄ (fun _ s₅ h₅=>wpAny_pure (wpAny_pure ⟨rfl,h₅⟩)) fun _ _ h'=>h'.elim)) fun _ _ h'=>h'.elim))
end
theorem HOk.track{P:Program}{w:World}{H:Hp}{h:Heap}{a:Addr}{o:HO}(x:HOk P w H h)(hn:H a=none)(new:bQ P w (upd H a o) h a o):HOk P w (upd H a o) h:=fun b u e=>by
 by_cases hb:b=a
 ·subst hb;rw[aW] at e;cases e;exact new
 ·rw[aH hb] at e
  exact (x b u e).stay (fun c v _ q=>q) (fun c q=>by rw[aH (a5 q hn)];exact q) (fun c xs q=>by rw[aH (a5 q hn)];exact q) fun c xs q=>by rw[aH (a5 q hn)];exact q
section
variable{X:Cx}{pins:List (Addr×Obj)}{σ:St}
structure CompEnd(X:Cx)(pins:List (Addr×Obj))(σ:St)(D C:Addr)(ys:List V)(H':Hp)(s':Shared):Prop where
 inv:Inv X pins σ (upd H' D (.lst ys)) s'
 ns:∃ m,s'.heap.Ns C m
 fp:iE X pins (upd H' D (.lst ys)) C
 nD:H' D=none
theorem CompEnd.gone{D C:Addr}{ys:List V}{H H':Hp}{s':Shared}{h'':Heap}{σ':St}(I:Inv X pins σ' H s')(fp:iE X pins H C)(hs:Heap.SameBut C s'.heap h''):Inv X pins σ' H {s' with heap:=h''}:=
 I.turned (it:=C) (t':=s'.toks) (fun b o hb e=>(hs.2 b hb).trans e) fp.1 fp.2.1 fp.2.2.2.1 fp.2.2.2.2.1 fp.2.2.2.2.2
theorem sM{prog:Program}{w:World}{A:Around}{E:Value->Shared->Prop}{s:Shared}{l:Addr}{items:Array Value}{nn:Nat}{x:Value}{Q:Value->Shared->Prop}(e:s.heap.get? l=some {cls:=.type "list",dict:=none,data:=.seq items nn})(hz:items.size<=sizeLine)
  (hQ:∀ nn' h',h'.get? l=some {cls:=.type "list",dict:=none,data:=.seq (items.push x) nn'}->Heap.SameBut l s.heap h'->Q .none {s with heap:=h'}) :
  wpAny (model prog w) A (call (.builtin "list.append") [.ref l,x]) Q E s:=by
 refine call_meets F.slot_list_append ⟨_,e,rfl⟩ F.entry_list_append (F.args_list_append_2 _ _) (PySem.list_append l items nn x (by omega)) ⟨e,?_⟩
 exact hQ _ _ (Heap.get?_update_self _ e rfl) (Heap.SameBut.update ..)
theorem oW{N:List Str}{js:List (Option Nat)}{scope:Scope}{tg elt iter:Expr}{ifs:List Expr}{cl:List (Str×Addr)}{pos:Pos}{it:Addr}{fp:List Addr}{tn:Nat->Heap->Prop}{J:It}{s2:Shared}{H2:Hp}{E:Value->Shared->Prop}
  {RR:Value->Addr->Result->Shared->Prop} {Q:VK} (hc:X.calm=true) (caps:Caps X scope N js) (hkind:scope.kind=.function) (hcell:∀ y∈scope.names,y.2≠.cell)
  (hcl1:∀ x c,cl.lookup x=some c->X.env.cells.lookup x=some c) (hcl2:∀ x∈scope.names,x.2=.free->∃ c,cl.lookup x.1=some c)
  (I:Inv X pins σ H2 s2) (T:Turn X.prog X.w X.K tg J fp it tn) (st2:tn 0 s2.heap) (f2:∀ b∈fp,iE X pins H2 b) (n:Nat) (W:Nat->List V->Hp->Prop) (hn:n<=sizeLine) (w0:W 0 [] H2)
  (turn:∀ i ys H,W i ys H->ys.length<=i/\((J.stop i H/\∀ p,H p=none->Q (.ref p) (upd H p (.lst ys)))\/(J.go i H/\i < n/\∃ R:Option V->Hp->Prop,(∀ y H2,R (some y) H2->W (i+1) (ys++[y]) H2)/\(∀ H2,R none H2->W (i+1) ys H2) /\
   ∀ x H',J.yld i H x H'->pS X N scope js tg elt ifs σ x H' R)))
  (hRR:∀ D C ys H' s',CompEnd X pins σ D C ys H' s'->Q (.ref D) (upd H' D (.lst ys))->RR (.ref D) C (.ok .next) s') :
  wpAny (model X.prog X.w) X.A (newList []) (fun acc s3=>wpAny (model X.prog X.w) X.A (newFunctionEnv scope X.env.globals cl [] X.env.qual none .none (some X.env)) (fun cenv s4=>
   codeAny (model X.prog X.w) X.A (.compStart (.ListComp elt [⟨tg,iter,ifs,0⟩] scope pos) 0 (.ref it) acc {cenv with scope:=relabel scope X.env}) (RR acc cenv.locals) s4) E s3) E s2:=by
 refine wpAny_newObj_type (wpAny_newFunctionEnv hcell (by intro y hy;simp at hy) (fun h₁ hns₁ hsb₁=>?_) hkind)
 dsimp only at hns₁ hsb₁ ⊢
 generalize hHh:s2.heap.push {cls:=.type "list",dict:=none,data:=.seq ([]:List Value).toArray}=Hh at hns₁ hsb₁ ⊢
 have hC:Hh.objs.size=s2.heap.objs.size+1:=by rw[<-hHh,Heap.size_push]
 have hDC:s2.heap.objs.size≠Hh.objs.size:=by rw[hC];exact Nat.ne_of_lt (Nat.lt_succ_self _)
 have hCle:s2.heap.objs.size<=Hh.objs.size:=by rw[hC];exact Nat.le_succ _
 have old:∀ b o,s2.heap.get? b=some o->h₁.get? b=some o:=fun b o e=>hsb₁.extBut b o (by rw[hC];exact Nat.ne_of_lt (Nat.lt_succ_of_lt (Heap.lt_size e))) (Heap.get?_push_of_some _ (hHh▸Heap.get?_push_of_some _ e))
 have haccO:h₁.get? s2.heap.objs.size=some {cls:=.type "list",dict:=none,data:=.seq ([]:List Value).toArray}:=hsb₁.extBut _ _ hDC (Heap.get?_push_of_some _ (hHh▸Heap.get?_push_size _ rfl))
 have st1:tn 0 h₁:=T.keep _ _ _ st2 fun b hb o e=>old b o e
 have fplt:∀ b∈fp,b < s2.heap.objs.size:=fun b hb=>by
  obtain ⟨o,e,_⟩:=T.obj _ _ st2 b hb
  exact Heap.lt_size e
 have fsIn:∀ b∈frs X.stack,b < s2.heap.objs.size:=fun b hb=>by
  rcases List.mem_cons.mp (I.stkSub b hb) with z|z
  ·rw[z];exact I.lt
  ·refine Nat.lt_of_not_le fun hle=>I.nofs hle z
 have fpC:∀ b∈fp,b≠Hh.objs.size:=fun b hb z=>Nat.lt_irrefl _ (Nat.lt_of_lt_of_le (fplt b hb) (z▸hCle))
 generalize hD:s2.heap.objs.size=D at *
 generalize hCc:Hh.objs.size=C at *
 let X':=eO X N scope cl C s2 H2 fp
 have ok':X'.Ok:=by
  refine ⟨I.ok.mod,hkind,I.ok.glob,I.ok.blt,by show s2.heap.objs.size<=C;rw[hD];exact hCle,fun x y c e1 e2=>I.ok.inj x y c (hcl1 x c e1) (hcl1 y c e2),fun x hx=>?_,fun x c z=>absurd (show false=true from z) Bool.false_ne_true,I.ok.hd,I.ok.frames,.inl rfl,fun b hb=>?_,
   I.bs,Nat.le_trans I.ok.bsz I.sz,fun b o e hb=>?_,fun b hb z=>?_,I.stack,I.stkFree⟩
  ·have hm:(x,NameKind.free)∈scope.names:=by
    rcases hx with z|z
    ·exact eN (env:=X.env) z (.inl rfl) hcell
    ·exact eN (env:=X.env) z (.inr rfl) hcell
   exact hcl2 _ hm rfl
  ·exact ⟨fpC b hb,fun x c e=>(f2 b hb).2.2.2.2.1 x c (hcl1 x c e)⟩
  ·rcases (f2 b hb).2.2.2.1 with z|z
   ·exact I.ok.noex b o e z
   ·exact absurd (Heap.lt_size (I.ok.bs b o e).1) (Nat.not_lt.mpr z)
  ·rcases List.mem_cons.mp (I.stkSub b z) with q|q
   ·exact (f2 b hb).2.1 q
   ·exact (f2 b hb).2.2.1 q
 have hσl:(iF js σ).length=N.length:=by unfold iF;rw[List.length_map,caps.len]
 have freeC:H2 C=none:=I.hok.fresh (by rw[hD];exact hCle)
 have freeD:H2 D=none:=I.hok.fresh (by rw[hD];exact Nat.le_refl _)
 have DnotFs:D∉frs X.stack:=fun z=>Nat.lt_irrefl _ (fsIn D z)
 have DnotFp:D∉fp:=fun z=>Nat.lt_irrefl _ (fplt D z)
 have I0:∀ tk,Inv X' [] (iF js σ) H2 {s2 with heap:=h₁,toks:=tk}:=fun tk=>by
  refine ⟨ok',rfl,I.bare,Un.kept old,⟨_,hns₁,fun i x v e1 e2 e3=>?_⟩,fun x c e=>?_,freeC,fun x c e=>I.freeC x c (hcl1 x c e),fun p hp=>absurd hp (by show ¬ p∈([]++[]:List (Addr×Obj));simp),I.hok.kept old,hσl⟩
  ·unfold iF at e2
   rw[List.getElem?_map] at e2
   cases q:js[i]? with
   | none=>rw[q] at e2;cases e2
   | some o=>
    rw[q] at e2
    cases o with
    | none=>cases e2
    | some j=>
     have e2':(σ[j]?).join=some v:=Option.some.inj e2
     obtain ⟨c1,c2,c3⟩:=caps.get q e1
     have e4:σ[j]? = some (some v):=by
      cases z:σ[j]? with
      | none=>rw[z] at e2';cases e2'
      | some u=>rw[z] at e2';have:u=some v:=e2';rw[this]
     obtain ⟨m,hm,hl⟩:=I.loc
     have vis:Vis X.env.scope x:=by
      rcases c2 with z|z
      · exact .inr (.inl z)
      · exact .inr (.inr z)
     obtain ⟨u,r,l⟩:=hl j x v c1 e4 vis
     refine ⟨u,r,.inr ⟨c3,?_⟩⟩
     have lc:∃ c,X.env.cells.lookup x=some c/\s2.heap.IsCell c (some u):=by
      rcases l with ⟨k,_⟩|⟨_,z⟩
      · rcases c2 with z | z <;> (rw [k] at z; cases z)
      · exact z
     obtain ⟨c,e5,o,ho,hd⟩:=lc
     have hm2:(x,NameKind.free)∈scope.names:=by
      rcases c3 with z|z
      · exact eN (env := X.env) z (.inl rfl) hcell
      · exact eN (env := X.env) z (.inr rfl) hcell
     obtain ⟨c',e6⟩:=hcl2 _ hm2 rfl
     have e7:=hcl1 _ _ e6
     rw[e5] at e7;cases e7
     exact ⟨c,e6,o,old c o ho,hd⟩
  ·obtain ⟨v,o,ho,hd⟩:=I.cell x c (hcl1 x c e)
   exact ⟨v,o,old c o ho,hd⟩
 have fpok:∀ {H':Hp} {pl:List (Addr×Obj)},(∀ b∈fp,H' b=none)->(∀ b∈fp,∀ p∈pl,p.1≠b)->∀ b∈fp,iE X' pl H' b:=fun {H' pl} hn hpl b hb=>by
  refine ⟨hn b hb,fpC b hb,ok'.exfs b hb,.inl hb,fun x c e=>(f2 b hb).2.2.2.2.1 x c (hcl1 x c e),fun p hp=>hpl b hb p ?_⟩
  have hp':p∈[]++pl:=hp
  simpa using hp'
 let LI:Nat->Shared->Prop:=fun k s'=>∃ i ys its nn σ' H',k=n+1 - i/\i<=n/\W i ys H'/\tn i s'.heap/\(∀ b∈fp,H' b=none)/\aZ ys its/\cZ (iF js σ) σ' /\
  Inv X' [(D,{cls:=.type "list",dict:=none,data:=.seq its.toArray nn})] σ' H' s'
 have loop:∀ tk,codeAny (model X.prog X.w) X.A (.compLoop (.ListComp elt [⟨tg,iter,ifs,0⟩] scope pos) 0 (.ref it) (.ref D) (compEnvC scope cl C X.env)) (RR (.ref D) C) {s2 with heap:=h₁,toks:=tk}:=by
  intro tk
  refine sL LI ?_ (n+1) ⟨0,[],[],0,iF js σ,H2,rfl,Nat.zero_le _,w0,st1,fun b hb=>(f2 b hb).1,.nil,cZ.refl _,?_⟩
  ·rintro k s3 ⟨i,ys,its,nn,σ3,H3,rfl,hin,w3,st3,fr3,r3,ks,I3⟩
   obtain ⟨hyl,tr⟩:=turn i ys H3 w3
   have fpk:=fpok (pl:=[(D,{cls:=.type "list",dict:=none,data:=.seq its.toArray nn})]) fr3 (fun b hb p hp z=>by
    rw[List.mem_singleton.mp hp] at z
    exact DnotFp ((show D=b from z)▸hb))
   rcases tr with ⟨stop,q⟩|⟨go,hlt,RW,hR1,hR2,step⟩
   ·refine thn (T.done X' rfl rfl rfl hc i _ s3 σ3 H3 _ I3 fpk st3 stop) fun r s4 zz0=>?_
    obtain ⟨hr,I4⟩:=zz0
    subst hr
    show RR (.ref D) C (.ok .next) s4
    obtain ⟨pe,pn,p1,p2,p3⟩:=I4.pin (D,{cls:=.type "list",dict:=none,data:=.seq its.toArray nn}) (by show _∈[]++_;simp)
    refine hRR D C ys H3 s4 ?_ (q D pn)
    have hok4:HOk X.prog X.w (upd H3 D (.lst ys)) s4.heap:=HOk.track I4.hok pn ⟨Nat.le_trans hyl (Nat.le_trans hin hn),its,nn,r3,pe⟩
    have ltD:∀ b u,H2 b=some u->b≠D:=fun b u e z=>by rw[z,freeD] at e;cases e
    have un4:Un (frs X.stack) fp H2 (upd H3 D (.lst ys)) s2.heap s4.heap:=by
     have ub:=I4.base
     refine ⟨ub.keep,ub.slot,fun b o e nn' hx=>?_,ub.there,fun b xs e=>?_,fun b o u e=>?_,fun b ps e=>?_⟩
     ·rw[aH (fun z=>by have:=Heap.lt_size e;rw[hD,z] at this;exact Nat.lt_irrefl _ this)]
      exact ub.free b o e nn' hx
     ·rw[aH (ltD b _ e)];exact ub.tups b xs e
     ·rw[aH (ltD b _ e)];exact ub.frzs b o u e
     ·rw[aH (ltD b _ e)];exact ub.tbls b ps e
    refine ⟨I.call' I4.os un4 hok4 I4.bare fun b hb=>⟨(f2 b hb).2.2.2.1,(f2 b hb).2.1,(f2 b hb).2.2.2.2.1,(f2 b hb).2.2.2.2.2⟩,?_,?_,pn⟩
    ·obtain ⟨m,hm,_⟩:=I4.loc
     exact ⟨m,hm⟩
    ·refine I.fpOk (by rw[hD];exact hCle) ?_
     rw[aH (Ne.symm hDC)]
     exact I4.free
   ·refine thn (T.item X' rfl rfl rfl hc i _ s3 σ3 H3 _ I3 fpk st3 go) fun r s4 zz0=>?_
    obtain ⟨u,hr,h4⟩:=zz0
    subst hr
    show wpAny _ _ (letOwnedTupleGo tg (.ref it) u) _ _ s4
    refine thn h4 fun _ s5 zz0=>?_
    obtain ⟨x,H5,I5,r5,y5,st5,fr5⟩:=zz0
    obtain ⟨g,tt,te,hg,ht,he,hq⟩:=step x H5 y5 cl C s2 H2 fp
    have fpk5:=fpok (pl:=[(D,{cls:=.type "list",dict:=none,data:=.seq its.toArray nn})]) fr5 (fun b hb p hp z=>by
     rw[List.mem_singleton.mp hp] at z
     exact DnotFp ((show D=b from z)▸hb))
    have I5':=I5.pinned fpk5 (T.obj _ _ st5)
    refine thn (hg _ s5 σ3 H5 x u _ I5' r5 (hq σ3 ks)) fun _ s6 zz0=>?_
    obtain ⟨σ6,H6,I6,ks6,q6⟩:=zz0
    refine thn (ht _ s6 σ6 H6 _ I6 q6) fun b s7 zz0=>?_
    obtain ⟨H7,I7,q7⟩:=zz0
    have stK:∀ {s':Shared} {H':Hp} {σ':St},Inv X' ([(D,{cls:=.type "list",dict:=none,data:=.seq its.toArray nn})]++l6 fp s5.heap) σ' H' s'->tn (i+1) s'.heap/\(∀ b∈fp,H' b=none):=fun {s' H' σ'} I'=>by
     refine ⟨T.keep _ _ _ st5 fun b hb o e=>(I'.pin (b,o) (List.mem_append_right _ (List.mem_append_right _ (jB hb e)))).1,fun b hb=>?_⟩
     obtain ⟨o,e,d⟩:=T.obj _ _ st5 b hb
     exact (I'.pin (b,o) (List.mem_append_right _ (List.mem_append_right _ (jB hb e)))).2.1
    cases b with
    | false=>
     rw[if_neg Bool.false_ne_true] at q7 ⊢
     obtain ⟨a1,a2⟩:=stK I7
     exact ⟨n+1 - (i+1),by omega,i+1,ys,its,nn,σ6,H7,rfl,hlt,hR2 _ q7,a1,a2,r3,ks6,I7.unpinned⟩
    | true=>
     rw[if_pos rfl] at q7 ⊢
     refine thn (he _ s7 σ6 H7 _ I7 q7) fun yv s8 zz0=>?_
     obtain ⟨y,H8,I8,r8,q8⟩:=zz0
     obtain ⟨a1,a2⟩:=stK I8
     have I8u:=I8.unpinned
     obtain ⟨pe,pn,p1,p2,p3⟩:=I8u.pin (D,{cls:=.type "list",dict:=none,data:=.seq its.toArray nn}) (by show _∈[]++_;simp)
     have hl8:s8.heap.IsList D its.toArray:=PySem.IsL.isList pe
     have isz:its.length<=sizeLine:=by rw[<-r3.length];exact Nat.le_trans hyl (Nat.le_trans hin hn)
     refine sM pe (by simpa using isz) fun nn' h9 e9 hs9=>?_
     have I9:Inv X' [] σ6 H8 {s8 with heap:=h9,toks:=s8.toks}:=by
      refine Inv.turned (pins:=[]) (it:=D) (t':=s8.toks) (I8u.pins_of (pins':=[]) fun p hp=>absurd hp (by simp)) (fun b o hb e=>(hs9.2 b hb).trans e) pn hDC (.inr (by show s2.heap.objs.size<=D;rw[hD];exact Nat.le_refl _)) (fun x c e z=>?_) fun p hp=>absurd hp (by show ¬ p∈([]++[]:List (Addr×Obj));simp)
      obtain ⟨v,o,ho,hd⟩:=I.cell x c (hcl1 x c e)
      have:=Heap.lt_size ho
      rw[hD,z] at this
      exact Nat.lt_irrefl _ this
     refine ⟨n+1 - (i+1),by omega,i+1,ys++[y],its++[yv],nn',σ6,H8,rfl,hlt,hR1 _ _ q8,?_,a2,aZ.append r3 (.cons r8 .nil),ks6,?_⟩
     ·exact T.keep _ _ _ a1 fun b hb o e=>(hs9.2 b (fun z=>DnotFp (z▸hb))).trans e
     ·refine I9.pins_of fun p hp=>?_
      obtain rfl:=List.mem_singleton.mp hp
      exact ⟨by simpa using e9,pn,p1,p2,by simp⟩
  ·refine (I0 tk).pins_of fun p hp=>?_
   obtain rfl:=List.mem_singleton.mp hp
   exact ⟨haccO,freeD,hDC,DnotFs,by simp⟩
 exact codeAny_compStart_list (loop _) (T.self X.A 0 _ _ _ st1 (loop _))
noncomputable def dN(names:List (Str×NameKind))(outer:Str->Option NameKind):Bool:=
 names.all (fun y=>y.2 != .cell) && names.all (fun y=>y.2 != .local || names.lookup y.1 == some .local) && names.all (fun y=>y.2 != .free || outer y.1 == some .cell || outer y.1 == some .free)
theorem dN.cell{names:List (Str×NameKind)}{outer:Str->Option NameKind}(h:dN names outer=true):∀ y∈names,y.2≠.cell:=fun y hy=>by
 unfold dN at h
 simp only[Bool.and_eq_true,List.all_eq_true] at h
 simpa using h.1.1 y hy
theorem dN.names{names:List (Str×NameKind)}{outer:Str->Option NameKind}(h:dN names outer=true):∀ y∈names,y.2=.local->names.lookup y.1=some .local:=fun y hy e=>by
 unfold dN at h
 simp only[Bool.and_eq_true,List.all_eq_true] at h
 have:=h.1.2 y hy
 rw[e] at this
 simpa using this
theorem dN.free{names:List (Str×NameKind)}{outer:Str->Option NameKind}(h:dN names outer=true):∀ y∈names,y.2=.free->outer y.1=some .cell\/outer y.1=some .free:=fun y hy e=>by
 unfold dN at h
 simp only[Bool.and_eq_true,List.all_eq_true] at h
 have:=h.2 y hy
 rw[e] at this
 simpa using this
theorem gU{N:List Str}{js:List (Option Nat)}{scope:Scope}{tg elt iter:Expr}{ifs:List Expr}{pos:Pos}{wi:TI}(hc:X.calm=true)(caps:Caps X scope N js)(hok:dN scope.names X.env.kindOf=true)
  (hi:PI X tg iter wi) (hkind:scope.kind=.function:=by rfl) (hs:∀ x,foldedSetIterable iter X.env x=pure x:=by intro _;rfl) :
  PE X (.ListComp elt [⟨tg,iter,ifs,0⟩] scope pos) (oV X N scope js tg elt ifs wi):=by
 intro pins s σ H Q I h
 obtain ⟨cl,e1,e2,e3⟩:=oU (env:=X.env) (scope:=scope) fun x hx hf=>I.ok.has _ (dN.free hok x hx hf)
 rw[eval_ListComp]
 refine wpAny_comprehension_free (use:=none) rfl hs e1 hkind (dN.names hok) (thn (hi pins s σ H _ I h) fun v s1 h1=>thn h1 fun itv s2 h2=>?_)
 obtain ⟨it,fp,tn,J,H2,rfl,I2,T,st2,f2,n,W,hn,w0,turn⟩:=h2
 refine oW (RR:=fun acc C=>compPost (model X.prog X.w) X.A X.xe none (EP X pins σ Q) acc C) (Q:=Q) hc caps hkind (dN.cell hok) e2 e3 I2 T st2 f2 n W hn w0 turn ?_
 intro D C ys H' s' ce q
 obtain ⟨m,hm⟩:=ce.ns
 exact ⟨m,hm,fun h' hs'=>⟨.ref D,_,CompEnd.gone (D:=D) (ys:=ys) (H':=H') ce.inv ce.fp hs',rfl,q⟩⟩
theorem wV{i:Nat}{x:Str}{N:List Str}{js:List (Option Nat)}{scope:Scope}{tg elt iter:Expr}{ifs:List Expr}{pos pos' spos:Pos}{wi:TI}(hN:X.N.Nodup)(hi':X.N[i]? = some x)(hx:Loc X.env.scope x)
  (hsw:swapsWith (.ListComp elt [⟨tg,iter,ifs,0⟩] scope pos) (some (.Name x pos')) spos.line X.env=pure true) (hc:X.calm=true) (caps:Caps X scope N js) (hok:dN scope.names X.env.kindOf=true)
  (hi:PI X tg iter wi) (hkind:scope.kind=.function:=by rfl) (hf:X.fn x=true\/X.env.scope.names.lookup x=some .local:=by exact .inl rfl) (hs:∀ x,foldedSetIterable iter X.env x=pure x:=by intro _;rfl) :
  PS X (.Assign [.Name x pos'] (.ListComp elt [⟨tg,iter,ifs,0⟩] scope pos) spos) (i6 (oV X N scope js tg elt ifs wi) (g8 i)):=by
 intro pins s σ H D I h
 obtain ⟨cl,e1,e2,e3⟩:=oU (env:=X.env) (scope:=scope) fun x hx hf=>I.ok.has _ (dN.free hok x hx hf)
 rw[exec_Assign_Name_used _ _ _ _ hsw]
 refine wpAny_bind (wpAny_standAt (wpAny_bind ?_))
 show wpAny _ X.A (do let _ <-comprehension (.ListComp elt [⟨tg,iter,ifs,0⟩] scope pos) scope X.env _ (newList []) false (eval iter X.env) (some (assign (.Name x pos') X.env))) _ _ s
 refine wpAny_bind (wpAny_mono (wpAny_comprehension_free (use:=some (assign (.Name x pos') X.env)) (Q:=fun _ s'=>SP X pins D .next s') rfl hs e1 hkind (dN.names hok)
  (thn (hi pins s σ H _ I h) fun v s1 h1=>thn h1 fun itv s2 h2=>?_)) (fun _ s' hq=>wpAny_pure (wpAny_pure hq)) fun _ _ e=>e)
 obtain ⟨it,fp,tn,J,H2,rfl,I2,T,st2,f2,n,W,hn,w0,turn⟩:=h2
 refine oW (RR:=fun acc C=>compPost (model X.prog X.w) X.A X.xe (some (assign (.Name x pos') X.env)) (fun _ s'=>SP X pins D .next s') acc C) (Q:=fun v H'=>D.nx (σ.set i (some v)) H') hc caps hkind (dN.cell hok) e2 e3 I2 T st2 f2 n W hn w0 turn ?_
 intro L C ys H' s' ce q
 show wpAny _ X.A (assign (.Name x pos') X.env (.ref L)) _ _ s'
 refine wpAny_assign_Name (qO (v:=.ref L) ce.inv hN hi' hx rfl (fun s'' I'' sb=>?_) hf)
 obtain ⟨a,hsa,ha⟩:=sb
 have hCa:C≠a:=by
  rcases ha with z|z
  · rw [z]; exact ce.fp.2.1
  · exact fun z' => ce.fp.2.2.2.2.1 x a z z'.symm
 obtain ⟨m,hm⟩:=ce.ns
 exact ⟨m,hm.sameBut hsa hCa,fun h' hs'=>⟨_,_,CompEnd.gone (D:=L) (ys:=ys) (H':=H') I'' ce.fp hs',q⟩⟩
end
noncomputable def aB7(W:Nat->List V->Hp->Prop)(i:Nat)(ys:List V):Option V->Hp->Prop
 | some y,H=>W (i+1) (ys++[y]) H
 | none,H=>W (i+1) ys H
theorem aC5{X:Cx}{J:It}{N:List Str}{scope:Scope}{js:List (Option Nat)}{tg elt:Expr}{ifs:List Expr}{σ:St}{Q:VK}{n:Nat}{H1:Hp}(W:Nat->List V->Hp->Prop)(hz:n<=sizeLine)(w0:W 0 [] H1)
  (hl:∀ i ys H,i<=n->W i ys H->ys.length<=i) (hgo:∀ i ys H,i < n->W i ys H->J.go i H) (hst:∀ ys H,W n ys H->J.stop n H)
  (step:∀ i x ys H H',i < n->W i ys H->J.yld i H x H'->pS X N scope js tg elt ifs σ x H' (aB7 W i ys))
  (done:∀ ys H,W n ys H->∀ p,H p=none->Q (.ref p) (upd H p (.lst ys))) :
  compK X N scope js tg elt ifs σ Q J H1:=by
 refine ⟨n,fun i ys H=>i<=n/\W i ys H,hz,⟨Nat.zero_le _,w0⟩,?_⟩
 rintro i ys H ⟨hi,w⟩
 refine ⟨hl i ys H hi w,?_⟩
 by_cases hlt:i < n
 ·exact .inr ⟨hgo i ys H hlt w,hlt,aB7 W i ys,fun y H2 q=>⟨hlt,q⟩,fun H2 q=>⟨hlt,q⟩,fun x H' y=>step i x ys H H' hlt w y⟩
 ·have e:i=n:=by omega
  subst e
  exact .inl ⟨hst ys H w,done ys H w⟩
end L2
namespace L2
open PySem PySem.Spec PyProof.Rows
mutual
inductive DatV(K:Frag)(H:Hp):V->PyData->Prop
 | non:DatV K H .non .none
 | bl (b:Bool):DatV K H (.bl b) (.bool b)
 | int (i:Int):DatV K H (.int i) (.int i)
 | str (x:Str):DatV K H (.str x) (.str x)
 | lst {a:Addr} {xs:List V} {ds:List PyData}:SqL K H a xs->DatVs K H xs ds->DatV K H (.ref a) (.list ds)
 | tup {a:Addr} {xs:List V} {ds:List PyData}:SqT K H a xs->DatVs K H xs ds->DatV K H (.ref a) (.tuple ds)
inductive DatVs(K:Frag)(H:Hp):List V->List PyData->Prop
 | nil:DatVs K H [] []
 | cons {x:V} {d:PyData} {xs:List V} {ds:List PyData}:DatV K H x d->DatVs K H xs ds->DatVs K H (x::xs) (d::ds)
end
section
variable{X:Cx}{pins:List (Addr×Obj)}{σ:St}{H:Hp}{s:Shared}
theorem DatV.reads(I:Inv X pins σ H s){x:V}{d:PyData}{u:Value}(h:DatV X.K H x d)(r:aS x u):∃ as,Reads s.heap u d as:=by
 refine DatV.rec (motive_1:=fun x d _=>∀ u,aS x u->∃ as,Reads s.heap u d as) (motive_2:=fun xs ds _=>∀ us,aZ xs us->∃ as,ReadsAll s.heap us ds as) ?_ ?_ ?_ ?_ ?_ ?_ ?_ ?_ h u r
 ·intro u r;cases r;exact ⟨_,.none⟩
 ·intro b u r;cases r;exact ⟨_,.bool b⟩
 ·intro i u r;obtain ⟨t,rfl⟩:=r;exact ⟨_,.int i t⟩
 ·intro x u r;obtain ⟨t,rfl⟩:=r;exact ⟨_,.str x t⟩
 ·intro a xs ds h _ ih u r
  cases r
  obtain ⟨its,rv,p,hz⟩:=I.list h
  obtain ⟨o,e,c,n,d⟩:=p.isList
  obtain ⟨as,q⟩:=ih _ rv
  exact ⟨_,.list e c d (by simpa using q)⟩
 ·intro a xs ds h _ ih u r
  cases r
  obtain ⟨its,rv,p,hz⟩:=I.tuple h
  obtain ⟨o,e,c,n,d⟩:=p
  obtain ⟨as,q⟩:=ih _ rv
  exact ⟨_,.tuple e c d (by simpa using q)⟩
 ·intro us r;cases r;exact ⟨_,.nil⟩
 ·intro x d xs ds _ _ i1 i2 us r
  cases r with
  | cons r1 r2=>
   obtain ⟨as,q⟩:=i1 _ r1
   obtain ⟨bs,q2⟩:=i2 _ r2
   exact ⟨_,.cons q q2⟩
theorem aFY(hu:X.A.units+64 < cLine):OpR X (compareOp .Eq) (fun x y H Q=>∃ d e,DatV X.K H x d/\DatV X.K H y e/\SeqAt.shaped d=true/\SeqAt.shaped e=true/\Q (.bl (PyData.eqv d e)) H):=by
 intro pins s σ H x y u v Q I rx ry h
 obtain ⟨d,e,hx,hy,sd,se,q⟩:=h
 obtain ⟨as,r1⟩:=hx.reads I rx
 obtain ⟨bs,r2⟩:=hy.reads I ry
 exact eq_dataH r1 r2 sd se hu ⟨.bl _,H,I,rfl,q⟩
theorem aFZ(hu:X.A.units+64 < cLine):OpR X (compareOp .NotEq) (fun x y H Q=>∃ d e,DatV X.K H x d/\DatV X.K H y e/\SeqAt.shaped d=true/\SeqAt.shaped e=true/\Q (.bl (!PyData.eqv d e)) H):=by
 intro pins s σ H x y u v Q I rx ry h
 obtain ⟨d,e,hx,hy,sd,se,q⟩:=h
 obtain ⟨as,r1⟩:=hx.reads I rx
 obtain ⟨bs,r2⟩:=hy.reads I ry
 exact ne_dataH r1 r2 sd se hu ⟨.bl _,H,I,rfl,q⟩
end
theorem SqL.same{K:Frag}{H H':Hp}{a:Addr}{xs:List V}(e:aG H H')(h:SqL K H a xs):SqL K H' a xs:=aG.seq e h
theorem SqT.same{K:Frag}{H H':Hp}{a:Addr}{xs:List V}(e:aG H H')(h:SqT K H a xs):SqT K H' a xs:=by
 rcases h with (h|⟨o,h⟩)|h
 · exact .inl (.inl (e _ _ h))
 · exact .inl (.inr ⟨o, e _ _ h⟩)
 · exact .inr h
theorem DatV.same{K:Frag}{H H':Hp}(e:aG H H'){x:V}{d:PyData}(h:DatV K H x d):DatV K H' x d:=
 DatV.rec (motive_1:=fun x d _=>DatV K H' x d) (motive_2:=fun xs ds _=>DatVs K H' xs ds) .non .bl .int .str (fun h _ q=>.lst (h.same e) q) (fun h _ q=>.tup (h.same e) q) .nil (fun _ _ p q=>.cons p q) h
theorem DatVs.same{K:Frag}{H H':Hp}(e:aG H H'){xs:List V}{ds:List PyData}(h:DatVs K H xs ds):DatVs K H' xs ds:=
 DatVs.rec (motive_1:=fun x d _=>DatV K H' x d) (motive_2:=fun xs ds _=>DatVs K H' xs ds) .non .bl .int .str (fun h _ q=>.lst (h.same e) q) (fun h _ q=>.tup (h.same e) q) .nil (fun _ _ p q=>.cons p q) h
theorem aG.upd{H:Hp}{a:Addr}{o:HO}(h:H a=none):aG H (upd H a o):=fun b u e=>by rw[aH (a5 e h)];exact e
theorem DatVs.length{K:Frag}{H:Hp}:∀ {xs:List V} {ds:List PyData},DatVs K H xs ds->xs.length=ds.length
 | _,_,.nil=>rfl
 | _,_,.cons _ t=>by simp[DatVs.length t]
theorem DatVs.append{K:Frag}{H:Hp}:∀ {xs ys:List V} {ds es:List PyData},DatVs K H xs ds->DatVs K H ys es->DatVs K H (xs++ys) (ds++es)
 | _,_,_,_,.nil,h=>h
 | _,_,_,_,.cons a t,h=>.cons a (DatVs.append t h)
theorem DatVs.get{K:Frag}{H:Hp}:∀ {xs:List V} {ds:List PyData} {i:Nat} {x:V},DatVs K H xs ds->xs[i]? = some x->∃ d,ds[i]? = some d/\DatV K H x d
 | _,_,_,_,.nil,e=>by simp at e
 | _,_,0,_,.cons a t,e=>by simp at e;subst e;exact ⟨_,by simp,a⟩
 | _,_,i+1,x,.cons a t,e=>by
  obtain ⟨d,h1,h2⟩:=DatVs.get (i:=i) (x:=x) t (by simpa using e)
  exact ⟨d,by simpa using h1,h2⟩
theorem DatVs.get'{K:Frag}{H:Hp}:∀ {xs:List V} {ds:List PyData} {i:Nat} {d:PyData},DatVs K H xs ds->ds[i]? = some d->∃ x,xs[i]? = some x/\DatV K H x d
 | _,_,_,_,.nil,e=>by simp at e
 | _,_,0,_,.cons a t,e=>by simp at e;subst e;exact ⟨_,by simp,a⟩
 | _,_,i+1,x,.cons a t,e=>by
  obtain ⟨d,h1,h2⟩:=DatVs.get' (i:=i) (d:=x) t (by simpa using e)
  exact ⟨d,by simpa using h1,h2⟩
theorem DatVs.drop{K:Frag}{H:Hp}:∀ {xs:List V} {ds:List PyData} (n:Nat),DatVs K H xs ds->DatVs K H (xs.drop n) (ds.drop n)
 | _,_,0,h=>h
 | _,_,_+1,.nil=>.nil
 | _,_,n+1,.cons _ t=>DatVs.drop n t
theorem DatVs.take{K:Frag}{H:Hp}:∀ {xs:List V} {ds:List PyData} (n:Nat),DatVs K H xs ds->DatVs K H (xs.take n) (ds.take n)
 | _,_,0,_=>.nil
 | _,_,_+1,.nil=>.nil
 | _,_,n+1,.cons a t=>.cons a (DatVs.take n t)
end L2
namespace SX
open PySem PySem.W
section
variable{prog:Program}{w:World}{A:Around}{E:Value->Shared->Prop}{h:Heap}{g:Array GenState}{d:Drawn}{t:Nat}{os:OsState}{K:Frag}
variable{nm q:Str}{C N:Addr}{bs bm bmB:List Value}{hdct:Bool}{sn:List Str}{sub:List Value}{ab:Bool}{col:Option Bool}{dd:Option Addr}{k0 k1 k2 k3 k5:Option Value}{B newId initId:String}
structure BmOk(B:String)(bm:List Value):Prop where
 hasB:bm.contains (.type B)=true
 hasBase:bm.contains (.type "BaseException")=true
 noAttr:bm.contains (.type "AttributeError")=false
 noName:bm.contains (.type "NameError")=false
theorem oX{M:Model}{env:Env}{s:Shared}{x:Sem Value}{Q:Flow->Shared->Prop}(T:BmOk B bm)(hh:A.handled=none)
  (hx:wpAny M A x (fun v s₁=>∃ e od vs,v=.ref e/\s₁.heap.get? C=some (excClassObj nm q C N bs bm hdct sn sub ab col dd k0 k1 k2 k3 k5 newId) /\
   s₁.heap.get? e=some {cls:=.ref C,dict:=od,data:=.fields vs}/\vs[1]? = some .none/\E (.ref e) s₁) E s) :
  wpAny M A (raiseStmt env (some x) none) Q E s:=by
 have hcB:(Value.ref C::bm).contains (.type "BaseException")=true:=by rw[List.contains_cons,T.hasBase,Bool.or_true]
 unfold raiseStmt
 refine wpAny_bind (wpAny_mono hx (fun v s₁ h₁=>?_) fun _ _ x=>x)
 obtain ⟨e,od,vs,rfl,hC,he,h1,hE⟩:=h₁
 obtain ⟨hp,g,d,tk,os⟩:=s₁
 repeat (first|with_reducible refine wpAny_loadPart_at he ?_|with_reducible refine wpAny_loadPart_at hC ?_|(with_reducible refine wpAny_isSubtype_exc hC ?_;rw[hcB])|(with_reducible refine wpAny_field he rfl h1 ?_)|wp_step)
 exact wpAny_raiseNew_none hh hE
end
end SX
namespace SX
open PySem PySem.W PySem.Builtin PySem.Builtin.ObjectAttr
abbrev gD:List Value:=[.type "ValueError",.type "Exception",.type "BaseException",.type "object"]
structure ExcC(K:Frag)(W C:Addr):Prop where
 lk:∃ nm q N bs sn sub ab col dd k0 k1 k2 k3 k5,K.lookup C=some (excClassObj nm q C N bs (.ref W::gD) true sn sub ab col dd k0 k1 k2 k3 k5 "ValueError.__new__")
 sa:findIn K (.ref C) "__setattr__"=some (some (.builtin "object.__setattr__"))
 ga:findIn K (.ref C) "__getattribute__"=some (some (.builtin "BaseException.__getattribute__"))
 gh:findIn K (.ref C) "__getattr__"=some none
 cl:findIn K (.ref C) "__class__"=some (some (.builtin "object.__class__"))
 clg:specialIn K (.builtin "object.__class__") "__get__"=some (some (.builtin "getset_descriptor.__get__"))
 clt:takesIn K (.builtin "object.__class__")=some true
 kp:keepIn K (.ref C)=true
theorem aAS(W:Addr):BmOk "ValueError" (.ref W::gD):=⟨by simp[gD],by simp[gD],by simp[gD],by simp[gD]⟩
theorem passes(self:Value)(C W:Addr):refuseLoop self "__setattr__" (.ref C::.ref W::gD)=pure ():=by
 rw[refuseLoop_ref,refuseLoop_ref]
 exact PySem.F.store_ValueError.passes self
theorem ExcC.cls{K:Frag}{W C:Addr}(c:ExcC K W C):∃ cd:ClassData,clsIn K C=some cd/\cd.hasDict=true/\cd.mro=.ref C::.ref W::gD:=by
 obtain ⟨nm,q,N,bs,sn,sub,ab,col,dd,k0,k1,k2,k3,k5,e⟩:=c.lk
 exact ⟨_,by unfold clsIn;rw[e],rfl,rfl⟩
theorem ExcC.mro{K:Frag}{W C:Addr}(c:ExcC K W C)(b:Value):mroIn K C b=some ((Value.ref C::.ref W::gD).contains b):=by
 obtain ⟨cd,h1,_,h3⟩:=c.cls
 unfold mroIn
 rw[h1,Option.bind_some,h3]
 rfl
section
variable{prog:Program}{w:World}{A:Around}{E:Value->Shared->Prop}{s:Shared}{K:Frag}{W C x:Addr}{name:Str}{v:Value}{vs:Array Value}
theorem yP{od:Option Addr}{o:Option Obj}{Q:Option Value->Shared->Prop}(X:K.In s.heap)(c:ExcC K W C)(I:InstAt s.heap x ⟨.ref C,od,.fields vs,#[]⟩ C o)(h:Q (some (.ref C)) {s with toks:=s.toks+1}) :
  wpAny (model prog w) A (getAttr? (.ref x) "__class__") Q E s:=by
 obtain ⟨hp,g,d,t,os⟩:=s
 obtain ⟨cd,hcd,hdct,hmro⟩:=c.cls
 have L0:=I.type (M:=model prog w)
 have L1:=looks_findIn (M:=model prog w) X c.ga
 have L2:=looks_findIn (M:=model prog w) X c.gh
 have sub:Looks (model prog w) hp (isInstance (.ref x) (.type "BaseException")) true:=L0.andThen (looks_mroIn X (by rw[c.mro];simp[gD]))
 have hf:findObj K C o "__class__"=some (.bind (.builtin "getset_descriptor.__get__") (.builtin "object.__class__")):=by
  unfold findObj
  rw[hcd,Option.bind_some,c.cl,Option.bind_some]
  simp only[c.clg,c.clt,Option.bind_some]
 have L3:=looks_find (M:=model prog w) X I hf
 unfold getAttr?
 refine wpAny_bind (wpAny_mkText ?_)
 unfold getAttrBy?
 refine wpAny_bind (wpAny_attempt ?_)
 unfold getAttrBy
 refine wpAny_holding (wpAny_bind (L0.at (wpAny_bind (L1.at ?_))))
 show wpAny _ _ (getAttrByItsOwn _ _ _ _ _ _) _ _ _
 unfold getAttrByItsOwn
 refine wpAny_bind ?_
 show wpAny _ _ (typeLookup (.ref C) "__getattr__") _ _ _
 refine L2.at (wpAny_bind (wpAny_attempt (wpAny_holding ?_)))
 unfold callGetattribute
 rw[show (false && onTheHeap (Value.builtin "BaseException.__getattribute__"))=false from rfl,if_neg Bool.false_ne_true]
 unfold boundAndCalled
 rw[PySem.F.excAttr_ValueError.ga.bind]
 refine wpAny_bind (wpAny_pure ?_)
 have hk:builtinKind "BaseException.__getattribute__"=some .slot:=by decide +kernel
 have hsplit:splitId "BaseException.__getattribute__"=some ("BaseException","__getattribute__"):=by decide +kernel
 refine wpAny_call (codeAny_call_builtin PySem.F.excAttr_ValueError.ga.plain PySem.F.entry_bexc_ga (@check_slot (model prog w) _ _ _ "BaseException.__getattribute__" "BaseException" "__getattribute__" (.ref x) [.str "__class__" t] [] _ hk hsplit sub (PySem.F.args_bexc_ga (.ref x) (.str "__class__" t)) ?_))
 refine wpAny_bind (wpAny_pure (wpAny_bind (wpAny_pure ?_)))
 refine wpAny_bind (L0.at (wpAny_bind (L3.at ?_)))
 show wpAny _ _ (holding [.builtin "object.__class__"] (call (.builtin "getset_descriptor.__get__") [.builtin "object.__class__",.ref x,.ref C]) >>= ret) _ _ _
 refine wpAny_bind (wpAny_holding (wpAny_call (class_get (s:=⟨hp,g,d,t+1,os⟩) X I (by rw[c.mro];simp[gD]) ?_)))
 refine wpAny_pure ?_
 show wpAny _ _ (handedOut (.ref C)) _ _ _
 exact wpAny_pure (wpAny_pure h)
theorem aAT{od:Option Addr}{o:Option Obj}(c:ExcC K W C):KitX K (.ref x) (.ref C) (fun h=>InstAt h x ⟨.ref C,od,.fields vs,#[]⟩ C o) where
 ty:=fun _ _ _ I=>I.type
 it:=fun _ _ X _=>by
  obtain ⟨nm,q,N,bs,sn,sub,ab,col,dd,k0,k1,k2,k3,k5,e⟩:=c.lk
  intro A' Q' E' s' k q
  unfold isType loadHead
  exact wpAny_bind (wpAny_loadPart (k _ _ (X _ _ e)) (wpAny_pure q))
 ne:=fun h tp dd its n sl X htp=>by
  obtain ⟨nm,q,N,bs,sn,sub,ab,col,dd,k0,k1,k2,k3,k5,e⟩:=c.lk
  refine Bool.eq_false_iff.mpr fun q=>?_
  have e':C=tp:=Value.ref.inj (beq_iff_eq.mp q)
  subst e'
  have z:=(X _ _ e).symm.trans htp
  have z':Value.type "type"=Value.type "tuple":=congrArg Obj.cls (Option.some.inj z)
  exact absurd (Value.type.inj z') (by decide)
 ca:=fun X I k=>yP X c I k
theorem oY{od:Option Addr}{o:Option Obj}{cv:Value}{b:Bool}{Q:Value->Shared->Prop}(X:K.In s.heap)(c:ExcC K W C)(I:InstAt s.heap x ⟨.ref C,od,.fields vs,#[]⟩ C o)(e:kitOne K (.ref C) cv=some b)(h:∀ tk,Q (.bool b) {s with toks:=tk}) :
 wpAny (model prog w) A (call (.builtin "isinstance") [.ref x,cv]) Q E s:=kia_one (aAT c) X I e (fun z=>nomatch z) h
end
end SX
namespace SX
open PySem PySem.W
def nZ(h:Heap)(vs:Array Value)(e:Addr)(T:Option Addr):Prop:=
 match T with
 | none=>vs[1]? = some .none
 | some t=>vs[1]? = some (.ref t)/\t≠e/\∃ oT ts x,h.get? t=some oT/\oT.data=.fields ts/\ts[3]? = some x
section
variable{M:Model}{A:Around}{E:Value->Shared->Prop}{s:Shared}
structure Noted(FL:List Addr)(e:Addr)(T:Option Addr)(C:Addr)(od:Option Addr)(h h':Heap)(T':Option Addr):Prop where
 keep:∀ b o,b∉FL->b≠e->(∀ t,T=some t->b≠t)->h.get? b=some o->h'.get? b=some o
 slot:∀ b o,b∈FL->h.get? b=some o->∃ sl,h'.get? b=some {o with slots:=sl}
 exc:∃ vs,h'.get? e=some ⟨.ref C,od,.fields vs,#[]⟩/\nZ h' vs e T'
 new:(∃ t,T'=some t/\h.objs.size<=t)\/(T'=T/\T≠none)
 there:∀ t o,T=some t->h.get? t=some o->∃ o',h'.get? t=some o'
theorem aAU{base:Heap}{env:Env}{outer:List Env}{L e C:Addr}{od:Option Addr}{vs:Array Value}{T:Option Addr}{Q:Unit->Shared->Prop}
  (hfr:A.frames=some (env::outer)) (hl:s.heap.FunFrames base (env::outer)) (hf:env.frame=some L) (he:s.heap.get? e=some ⟨.ref C,od,.fields vs,#[]⟩) (ht:nZ s.heap vs e T)
  (h:∀ h' T',T'≠none->Noted ((env::outer).filterMap (·.frame)) e T C od s.heap h' T'->Q () {s with heap:=h'}) :
  wpAny M A (noteFrame (.ref e) env) Q E s:=by
 have frF:∀ b∈(env::outer).filterMap (·.frame),∃ o,s.heap.get? b=some o/\∀ vs,o.data≠.fields vs:=fun b hb=>(hl.mem hb).2
 have hene:e∉(env::outer).filterMap (·.frame):=fun hm=>by
  obtain ⟨o,ho,hnf⟩:=frF e hm
  rw[he] at ho;injection ho with ho;subst ho;exact hnf vs rfl
 have h1s:1 < vs.size:=by
  unfold nZ at ht
  cases T with
  | none=>exact (Array.getElem?_eq_some_iff.mp ht).1
  | some t=>exact (Array.getElem?_eq_some_iff.mp ht.1).1
 have make:∀ (hp:Heap) (head:Value) (hadNext:Bool),hp.FunFrames base (env::outer)->hp.objs.size=s.heap.objs.size->hp.get? e=some ⟨.ref C,od,.fields vs,#[]⟩->
   (∀ b o,(∀ t,T=some t->b≠t)->s.heap.get? b=some o->hp.get? b=some o)->(∀ t o,T=some t->s.heap.get? t=some o->∃ o',hp.get? t=some o'/\t∉(env::outer).filterMap (·.frame)/\t≠e)->
   wpAny M A (do let a <-frameOf env;let pl <-entryPlaceOf L hadNext;let b <-EntryCells.newEntry head a .none (rawInt L) .none pl;setField (.ref e) 1 b) Q E {s with heap:=hp}:=by
  intro hp head hadNext hlp hsz hep kp tp
  refine wpAny_bind (wpAny_frameOf_fun (s:={s with heap:=hp}) hfr hlp hf fun h₁ hs₁=>?_)
  refine wpAny_bind (wpAny_entryPlaceOf fun pl hpl=>?_)
  unfold EntryCells.newEntry newFields
  refine wpAny_bind (wpAny_newObj_type ?_ (hpl.sizeOk5 _ _ _ _ _))
  have he₁:h₁.get? e=some ⟨.ref C,od,.fields vs,#[]⟩:=(hs₁.2.1 e hene).trans hep
  have he₂:=Heap.get?_push_of_some (h:=h₁) {cls:=.type "traceback",dict:=none,data:=.fields ([head,.ref L,.none,rawInt L,.none]++(if pl.isEmpty then List.replicate 6 Value.none else pl)).toArray} he₁
  refine wpAny_setField he₂ rfl h1s ?_
  have hTe:h₁.objs.size≠e:=Nat.ne_of_gt (Heap.lt_size he₁)
  have he₃:=Heap.get?_update_self (Obj.mapFields (·.setIfInBounds 1 (Value.ref h₁.objs.size))) he₂ rfl
  have hT₃:=(Heap.get?_update_other (h₁.push {cls:=.type "traceback",dict:=none,data:=.fields ([head,.ref L,.none,rawInt L,.none]++(if pl.isEmpty then List.replicate 6 Value.none else pl)).toArray})
   (Obj.mapFields (·.setIfInBounds 1 (Value.ref h₁.objs.size))) (Ne.symm hTe)).trans (Heap.get?_push_size h₁ rfl)
  have keep:∀ b o,b≠e->h₁.get? b=some o->
    ((h₁.push {cls:=.type "traceback",dict:=none,data:=.fields ([head,.ref L,.none,rawInt L,.none]++(if pl.isEmpty then List.replicate 6 Value.none else pl)).toArray}).update e (Obj.mapFields (·.setIfInBounds 1 (Value.ref h₁.objs.size)))).get? b=some o:=
   fun b o hbe hb=>by
    rw[Heap.get?_update_other _ _ (Ne.symm hbe)]
    exact Heap.get?_push_of_some _ hb
  refine h _ (some h₁.objs.size) (by simp) ⟨fun b o hb hbe hbt q=>?_,fun b o hb q=>?_,⟨vs.setIfInBounds 1 (.ref h₁.objs.size),?_,?_⟩,.inl ⟨_,rfl,by rw[hs₁.1,hsz];exact Nat.le_refl _⟩,fun t o e1 e2=>?_⟩
  ·exact keep b o hbe ((hs₁.2.1 b hb).trans (kp b o hbt q))
  ·have hbt:∀ t,T=some t->b≠t:=fun t e1 z=>by
    obtain ⟨o',q',z2,_⟩:=tp t o e1 (z▸q)
    exact z2 (z▸hb)
   obtain ⟨sl,q'⟩:=hs₁.2.2 b o (kp b o hbt q)
   exact ⟨sl,keep b _ (fun z=>hene (z▸hb)) q'⟩
  ·exact he₃
  ·refine ⟨by simp[h1s],hTe,_,_,rawInt L,hT₃,rfl,by first|(simp;done)|(rcases hpl with rfl|⟨_,_,_,_,_,_,_,rfl⟩<;>simp)⟩
  ·obtain ⟨o',q',z2,z3⟩:=tp t o e1 e2
   exact ⟨o',keep t o' z3 ((hs₁.2.1 t z2).trans q')⟩
 unfold noteFrame
 simp only[hf]
 cases T with
 | none=>
  refine wpAny_bind (wpAny_field he rfl ht ?_)
  rw[if_neg (by decide)]
  exact make s.heap .none _ hl rfl he (fun b o _ q=>q) (fun t o e1=>nomatch e1)
 | some t=>
  obtain ⟨ht1,hte,oT,ts,x,hT,hdT,h3⟩:=ht
  have tFL:t∉(env::outer).filterMap (·.frame):=fun hm=>by
   obtain ⟨o,ho,hnf⟩:=frF t hm
   rw[hT] at ho;injection ho with ho;subst ho;exact hnf ts hdT
  refine wpAny_bind (wpAny_field he rfl ht1 ?_)
  rw[if_pos (show (Value.ref t != Value.none)=true from by simp)]
  refine wpAny_bind (wpAny_field hT hdT h3 ?_)
  by_cases hx:(x == rawInt L)=true
  ·rw[if_pos hx]
   refine wpAny_pure (h s.heap (some t) (by simp) ⟨fun b o _ _ _ q=>q,fun b o _ q=>⟨o.slots,q⟩,⟨vs,he,ht1,hte,oT,ts,x,hT,hdT,h3⟩,.inr ⟨rfl,by simp⟩,fun t' o e1 q=>⟨o,q⟩⟩)
  ·rw[if_neg hx]
   refine wpAny_bind (wpAny_setField hT hdT (Array.getElem?_eq_some_iff.mp h3).1 ?_)
   have other:∀ b,b≠t->(s.heap.update t (Obj.mapFields (·.setIfInBounds 3 Value.none))).get? b=s.heap.get? b:=fun b hb=>Heap.get?_update_other _ _ (Ne.symm hb)
   have hT':=Heap.get?_update_self (Obj.mapFields (·.setIfInBounds 3 Value.none)) hT (Obj.isFreed_of_fields (Obj.data_mapFields hdT _))
   refine make (s.heap.update t (Obj.mapFields (·.setIfInBounds 3 Value.none))) _ _ (hl.of_keeps fun b o hb hnf=>⟨o,(other b fun q=>?_).trans hb,rfl⟩) (Heap.SameBut.update ..).1 ((other e (Ne.symm hte)).trans he) (fun b o hb q=>(other b (hb t rfl)).trans q) (fun t' o e1 q=>?_)
   ·rw[q,hT] at hb;injection hb with hb;subst hb;exact hnf ts hdT
   ·cases e1
    exact ⟨_,hT',tFL,hte⟩
theorem wW{e C t:Addr}{od:Option Addr}{vs:Array Value}{fr:Option Addr}{Q:Unit->Shared->Prop}(he:s.heap.get? e=some ⟨.ref C,od,.fields vs,#[]⟩)(ht:nZ s.heap vs e (some t))
  (h:∀ h',Heap.SameBut t s.heap h'->nZ h' vs e (some t)->Q () {s with heap:=h'}):wpAny M A (setFlight (.ref e) fr) Q E s:=by
 obtain ⟨ht1,hte,oT,ts,x,hT,hdT,h3⟩:=ht
 unfold setFlight
 refine wpAny_bind (wpAny_field he rfl ht1 ?_)
 rw[if_pos (show (Value.ref t != Value.none)=true from by simp)]
 have hsz:=(Array.getElem?_eq_some_iff.mp h3).1
 refine wpAny_setField hT hdT hsz (h _ (Heap.SameBut.update ..) ⟨ht1,hte,_,_,_,Heap.get?_update_self _ hT (Obj.isFreed_of_fields (Obj.data_mapFields hdT _)),Obj.data_mapFields hdT _,Array.getElem?_setIfInBounds_self_of_lt hsz⟩)
end
end SX
namespace L2
open PySem PySem.Spec PyProof.Rows
def ExN(e C:Addr)(od:Option Addr):HO:=.ext fun h=>∃ vs,h.get? e=some ⟨.ref C,od,.fields vs,#[]⟩/\vs[1]? = some .none
def ExO(e C:Addr)(od:Option Addr):HO:=.ext fun h=>∃ vs,h.get? e=some ⟨.ref C,od,.fields vs,#[]⟩
section
variable{P:Program}{w:World}{H:Hp}{h:Heap}{e C:Addr}{od:Option Addr}
theorem yQ{vs:Array Value}(a:h.get? e=some ⟨.ref C,od,.fields vs,#[]⟩):bQ P w H h e (ExO e C od):=
 ⟨⟨vs,a⟩,⟨_,a⟩,fun h1 h2 ⟨vs,a⟩ k=>⟨vs,k _ a⟩⟩
theorem sN(ok:HOk P w H h)(q:H e=some (ExO e C od)):∃ vs,h.get? e=some ⟨.ref C,od,.fields vs,#[]⟩:=(ok e _ q).1
end
structure FlyAt(X:Cx)(H:Hp)(h:Heap)(e C:Addr)(od:Option Addr)(traced:Bool):Prop where
 tr:H e=some (ExO e C od)
 tb:∃ vs T,h.get? e=some ⟨.ref C,od,.fields vs,#[]⟩/\SX.nZ h vs e T/\(∀ t,T=some t->H t=none/\X.s₀.heap.objs.size<=t/\∀ p∈X.pn,p.1≠t)/\(traced=true->T≠none)
def Fly(X:Cx)(E:XK)(ev:Value)(s':Shared):Prop:=∃ e C od σ H',ev=.ref e/\Inv X [] σ H' s'/\FlyAt X H' s'.heap e C od false/\E (.ref C) (some e) H'
abbrev Cx.fly(X:Cx)(E:XK):Cx:=X.wish (Fly X E)
def k7(X:Cx):Prop:=X.stack=X.env::X.outer/\X.env.frame=some X.env.locals
section
variable{X:Cx}{σ:St}{H:Hp}{s:Shared}{e C:Addr}{od:Option Addr}{b:Bool}
theorem sO(I:Inv X [] σ H s){t:Addr}{oT:Obj}{ts:Array Value}(hT:s.heap.get? t=some oT)(hd:oT.data=.fields ts):t≠X.env.locals/\(∀ x c,X.env.cells.lookup x=some c->c≠t):=by
 refine ⟨fun z=>?_,fun x c q z=>?_⟩
 ·obtain ⟨m,⟨o,es,ep,ho,hd',_⟩,_⟩:=I.loc
  rw[<-z,hT] at ho;cases ho;rw[hd] at hd';cases hd'
 ·obtain ⟨v,o,ho,hd'⟩:=I.cell x c q
  rw[z,hT] at ho;cases ho;rw[hd] at hd';cases hd'
theorem k8{Q:Unit->Shared->Prop}{E':Value->Shared->Prop}(hO:k7 X)(I:Inv X [] σ H s)(f:FlyAt X H s.heap e C od b)(h:∀ s',Inv X [] σ H s'->FlyAt X H s'.heap e C od true->Q () s') :
  wpAny (model X.prog X.w) X.A (noteFrame (.ref e) X.env) Q E' s:=by
 obtain ⟨hst,hfm⟩:=hO
 obtain ⟨vs,T,he,ht,hT,_⟩:=f.tb
 have hfr:X.A.frames=some (X.env::X.outer):=by rw[<-hst];exact I.ok.frames
 have hl:s.heap.FunFrames X.base (X.env::X.outer):=by have:=I.stack;rw[hst] at this;exact this
 have hFL:(X.env::X.outer).filterMap (·.frame)=X.env.locals::X.fs:=by rw[List.filterMap_cons,hfm];rfl
 refine SX.aAU (T:=T) hfr hl hfm he ht fun h' T' hT' N=>?_
 rw[hFL] at N
 have trk:∀ c u,H c=some u->c∉X.env.locals::X.fs:=fun c u q z=>by
  have:=I.stkFree c (by unfold frs;rw[hst,hFL];exact z)
  rw[q] at this;cases this
 have nT:∀ c u,H c=some u->∀ t,T=some t->c≠t:=fun c u q t e1 z=>by
  have:=(hT t e1).1
  rw[<-z,q] at this;cases this
 have hok':HOk X.prog X.w H h':=fun c u q=>by
  by_cases hc:c=e
  ·subst hc
   rw[f.tr] at q;cases q
   obtain ⟨vs',q',_⟩:=N.exc
   exact yQ q'
  ·refine (I.hok c u q).stay (fun c' v hc' q'=>N.keep c' v ?_ ?_ ?_ q') (fun _ q=>q) (fun _ _ q=>q) fun _ _ q=>q
   ·rcases hc' with z|z
    ·rw[z];exact trk c u q
    ·exact trk c' _ z
   ·rcases hc' with z|z
    ·rw[z];exact hc
    ·intro zz;rw[zz,f.tr] at z;cases z
   ·rcases hc' with z|z
    ·rw[z];exact nT c u q
    ·exact nT c' _ z
 have I':Inv X [] σ H {s with heap:=h',gens:=s.gens,drawn:=s.drawn,toks:=s.toks}:=by
  refine I.step (ch:=T.toList) (fun c hc=>?_) (fun c o h1 h2 h3 q n=>?_) (fun c o h1 h2 h3 q n=>N.slot c o (List.mem_cons_of_mem _ h2) q) (fun _ _ _ _ n=>n) (fun c o h3 q=>?_) (fun _ _ q=>q) (fun _ _ _ q=>q) (fun _ _ q=>q) (fun m hm=>?_) hok' I.bare
  ·have e1:T=some c:=by cases T<;>simp at hc;rw[hc]
   obtain ⟨t1,t2,t3⟩:=hT c e1
   rw[e1] at ht
   obtain ⟨_,_,oT,ts,x,hTo,hTd,_⟩:=ht
   obtain ⟨a1,a2⟩:=sO I hTo hTd
   exact ⟨.inr t2,a1,a2,fun p hp=>t3 p (by simpa using hp)⟩
  ·refine N.keep c o ?_ ?_ ?_ q
   ·intro z
    rcases List.mem_cons.mp z with z|z
    ·exact h1 z
    ·exact h2 z
   ·intro z;rw[z,f.tr] at n;cases n
   ·intro t e1 z;exact h3 (by rw[e1,z];simp)
  ·by_cases hc:c=e
   ·subst hc
    obtain ⟨vs',q',_⟩:=N.exc
    exact ⟨_,q'⟩
   ·by_cases hF:c∈X.env.locals::X.fs
    ·obtain ⟨sl,q'⟩:=N.slot c o hF q
     exact ⟨_,q'⟩
    ·exact ⟨o,N.keep c o hF hc (fun t e1 z=>h3 (by rw[e1,z];simp)) q⟩
  ·obtain ⟨o,es,ep,ho,r⟩:=hm
   obtain ⟨sl,q'⟩:=N.slot _ o List.mem_cons_self ho
   exact ⟨_,es,ep,q',r⟩
 refine h _ I' ⟨f.tr,?_⟩
 obtain ⟨vs',q',t'⟩:=N.exc
 refine ⟨vs',T',q',t',fun t e1=>?_,fun _=>hT'⟩
 rcases N.new with ⟨t2,e2,hle⟩|⟨e2,_⟩
 ·rw[e1] at e2;cases e2
  refine ⟨I.hok.fresh hle,Nat.le_trans I.sz hle,fun p hp z=>?_⟩
  have:=Heap.lt_size (I.pin p (List.mem_append_left _ hp)).1
  rw[z] at this
  exact absurd (Nat.lt_of_lt_of_le this hle) (Nat.lt_irrefl _)
 ·exact hT t (e2▸e1)
theorem kK{Q:Unit->Shared->Prop}{E':Value->Shared->Prop}{fr:Option Addr}{A:Around}(I:Inv X [] σ H s)(f:FlyAt X H s.heap e C od true)(h:∀ s',Inv X [] σ H s'->FlyAt X H s'.heap e C od true->Q () s') :
  wpAny (model X.prog X.w) A (setFlight (.ref e) fr) Q E' s:=by
 obtain ⟨vs,T,he,ht,hT,hn⟩:=f.tb
 cases T with
 | none=>exact absurd rfl (hn rfl)
 | some t=>
  obtain ⟨t1,t2,t3⟩:=hT t rfl
  refine SX.wW he ht fun h' sb ht'=>?_
  obtain ⟨_,hte,oT,ts,x,hTo,hTd,_⟩:=ht
  obtain ⟨a1,a2⟩:=sO I hTo hTd
  have I':Inv X [] σ H {s with heap:=h'}:=I.turned (t':=s.toks) (it:=t) (fun b o hb q=>(sb.2 b hb).trans q) t1 a1 (.inr t2) a2 fun p hp=>t3 p (by simpa using hp)
  exact h _ I' ⟨f.tr,vs,some t,(sb.2 e (Ne.symm hte)).trans he,ht',fun t' e1=>by cases e1;exact ⟨t1,t2,t3⟩,fun _=>by simp⟩
theorem yR{Q:Value->Shared->Prop}{E':Value->Shared->Prop}{A:Around}(f:FlyAt X H s.heap e C od true)(h:∀ t,Q (.ref t) s):wpAny (model X.prog X.w) A (field (.ref e) 1) Q E' s:=by
 obtain ⟨vs,T,he,ht,hT,hn⟩:=f.tb
 cases T with
 | none=>exact absurd rfl (hn rfl)
 | some t=>exact wpAny_field he rfl ht.1 (h t)
theorem fF{E:XK}(hO:k7 X):PassesOwn (model X.prog X.w) X.A X.env (Fly X E):=by
 rintro ev s' ⟨e,C,od,σ,H,rfl,I,f,q⟩
 refine k8 hO I f fun s2 I2 f2=>?_
 unfold cameBackBy
 refine wpAny_bind (yR f2 fun t=>?_)
 rw[if_neg (by simp)]
 exact kK I2 f2 fun s3 I3 f3=>⟨e,C,od,σ,H,rfl,I3,⟨f3.tr,let ⟨vs,T,a,b,c,_⟩:=f3.tb;⟨vs,T,a,b,c,fun z=>nomatch z⟩⟩,q⟩
end
def CXe(P:Program)(w:World):CXT:=fun outer H s E ev s'=>∃ e C od H',ev=.ref e/\s'.os=s.os/\AllBare s'.gens/\Un (frs outer) [] H H' s.heap s'.heap/\HOk P w H' s'.heap/\H' e=some (ExO e C od) /\
 (∃ vs T,s'.heap.get? e=some ⟨.ref C,od,.fields vs,#[]⟩/\SX.nZ s'.heap vs e T/\∀ t,T=some t->H' t=none/\s.heap.objs.size<=t)/\E (.ref C) (some e) H'
section
variable{X:Cx}
theorem cL{E E':XK}(hE:∀ c e H,E c e H->E' c e H):jL (CXe X.prog X.w) (X.fly E') E:=by
 rintro pins σ H s ev s' I ⟨e,C,od,H',rfl,os,bare,un,hok,he,⟨vs,T,q1,q2,q3⟩,q⟩
 have I0:Inv X pins σ H s:=I.unwish
 have I1:Inv X [] σ H s:=I0.pins_of fun p hp=>absurd hp (by simp)
 have I2:Inv X [] σ H' s':=I1.call' os un hok bare (fun b hb=>absurd hb (by simp))
 refine ⟨e,C,od,σ,H',rfl,I2,⟨he,vs,T,q1,q2,fun t e1=>?_,fun z=>nomatch z⟩,hE _ _ _ q⟩
 obtain ⟨t1,t2⟩:=q3 t e1
 refine ⟨t1,Nat.le_trans I0.sz t2,fun p hp z=>?_⟩
 have:=Heap.lt_size (I0.pin p (List.mem_append_left _ hp)).1
 rw[z] at this
 exact absurd (Nat.lt_of_lt_of_le this t2) (Nat.lt_irrefl _)
theorem PSs.unfly{E:XK}{st:List Stmt}{t:TS}(h:PSs (X.fly E) st t)(hx:∀ e s',Fly X E e s'->X.xe e s'):PSs X st t:=fun pins s σ H D I hw=>
 wpAny_mono (h pins s σ H D (I.wish _) hw) (fun f s' q=>SP.unwish q) hx
end
theorem qT{P:Program}{w:World}{K:Frag}{mg:Str->Option Value}{base:Heap}{N:List Str}{qual:Str}{scope:Scope}{f:Addr}{cd:Value}{A:Around}{outer:List Env}{s:Shared}{H:Hp}{E:XK}{ev:Value}{s':Shared}
  (h:Fly (gN (CXe P w) P w K mg base N qual scope f cd A outer s H E) E ev s'):(gN (CXe P w) P w K mg base N qual scope f cd A outer s H E).xe ev s':=by
 obtain ⟨e,C,od,σ,H',rfl,I,fl,q⟩:=h
 show wpAny (model P w) _ (leaving _ (.ref e)) _ _ s'
 unfold leaving
 have hO:k7 (gN (CXe P w) P w K mg base N qual scope f cd A outer s H E):=⟨rfl,rfl⟩
 refine wpAny_bind (k8 hO I fl fun s2 I2 f2=>kK I2 f2 fun s3 I3 f3=>?_)
 obtain ⟨vs,T,a,b,c,_⟩:=f3.tb
 exact ⟨e,C,od,H',rfl,I3.os,I3.bare,I3.base,I3.hok,f3.tr,⟨vs,T,a,b,fun t e1=>⟨(c t e1).1,(c t e1).2.1⟩⟩,q⟩
section
variable{P:Program}{w:World}{K:Frag}{mg:Str->Option Value}{base:Heap}
theorem Fun.okX{x qual:Str}{st:Stmt}{f:Addr}{fd:FuncData}{N ps:List Str}{k:Nat}{sp:Sp}(F:Fun K x qual st f fd)(S:FnScope N ps (aJ st))(len:∀ vs H Q E,sp vs H Q E->vs.length=ps.length)
  (hbody:∀ (cdv:Value) (A:Around) (outer:List Env) (s:Shared) (H:Hp) (vs:List V) (Q:VK) (E:XK),Room k (A.deeper (envOfC qual (aJ st) s.heap.objs.size f cdv))->sp vs H Q E->
   ∃ t,PSs ((gN (CXe P w) P w K mg base N qual (aJ st) f cdv A outer s H E).fly E) (cI st) t/\t {nx:=fun _ H'=>Q .non H',rt:=Q} (start N vs) H):FnOk P w K mg base (CXe P w) (k+1) f fd ps sp:=by
 obtain ⟨oc,od,kV,doc,pm,an,cdv,ct,osl,rfl,lk,hcd⟩:=F.ex
 refine wS lk hcd S len fun A outer s H vs Q E hr hsp=>?_
 obtain ⟨t,h,q⟩:=hbody cdv A outer s H vs Q E hr hsp
 exact ⟨t,h.unfly fun _ _ z=>qT z,q⟩
end
end L2
namespace L2
open PySem PySem.Spec PyProof.Rows
inductive TyX(K:Frag)(H:Hp):V->Value->Prop where
 | pl {x:V} {t:Value} (h:TyOf K H x t):TyX K H x t
 | exc {a W C:Addr} {d:Addr} {fs:List (Str×V)} (c:SX.ExcC K W C) (e:H a=some (ExO a C (some d))) (ed:H d=some (.xd fs)):TyX K H (.ref a) (.ref C)
 | exc0 {a W C:Addr} (c:SX.ExcC K W C) (e:H a=some (ExO a C none)):TyX K H (.ref a) (.ref C)
def wX:V->Option Value
 | .ty n=>some (.type n)
 | .ref a=>some (.ref a)
 | _=>none
theorem pT{x:V}{u v:Value}(h:wX x=some v)(r:aS x u):u=v:=by
 cases x with
 | ty n=>cases h;exact r
 | ref a=>cases h;exact r
 | _=>cases h
theorem iO{X:Cx}:jZ X (.builtin "isinstance") (fun xs H Q=>∃ x c t cv b,xs=[x,c]/\TyX X.K H x t/\wX c=some cv/\PySem.W.kitOne X.K t cv=some b/\Q (.bl b) H):=by
 intro pins s σ H xs us Q I r h
 obtain ⟨x,c,t,cv,b,rfl,ty,hc,e,q⟩:=h
 obtain ⟨u,v,rfl,ru,rv⟩:=wR r
 obtain rfl:=pT hc rv
 cases ty with
 | pl ty=>exact yJ I ru ty e fun tk=>⟨.bl b,H,I.tok _,rfl,q⟩
 | @exc a W C d fs cc ea ed=>
  cases (show u=Value.ref a from ru)
  obtain ⟨vs,hx⟩:=sN I.hok ea
  obtain ⟨mA,hns,r⟩:=(show bQ X.prog X.w H s.heap d (.xd fs) from I.hok d _ ed)
  obtain ⟨od,hod,_⟩:=qP hns
  exact SX.oY (o:=some od) I.kIn cc ⟨hx,rfl,rfl,hod⟩ e fun tk=>⟨.bl b,H,I.tok _,rfl,q⟩
 | @exc0 a W C cc ea=>
  cases (show u=Value.ref a from ru)
  obtain ⟨vs,hx⟩:=sN I.hok ea
  exact SX.oY (o:=none) I.kIn cc ⟨hx,rfl,rfl,True.intro⟩ e fun tk=>⟨.bl b,H,I.tok _,rfl,q⟩
end L2
namespace SX
open PySem PySem.W
structure ExcAny(K:Frag)(C:Addr)(bm:List Value):Prop where
 lk:∃ nm q N bs hd sn sub ab col dd k0 k1 k2 k3 k5 newId,K.lookup C=some (excClassObj nm q C N bs bm hd sn sub ab col dd k0 k1 k2 k3 k5 newId)
 base:bm.contains (.type "BaseException")=true
theorem ExcC.any{K:Frag}{W C:Addr}(c:ExcC K W C):ExcAny K C (.ref W::gD):=by
 obtain ⟨nm,q,N,bs,sn,sub,ab,col,dd,k0,k1,k2,k3,k5,e⟩:=c.lk
 exact ⟨⟨_,_,_,_,_,_,_,_,_,_,_,_,_,_,_,_,e⟩,(aAS W).hasBase⟩
theorem uX{M:Model}{A:Around}{E:Value->Shared->Prop}{K:Frag}{C W:Addr}{bmC bmW:List Value}{s:Shared}{e:Addr}{oe:Obj}{Q:Bool->Shared->Prop}(X:K.In s.heap)(c:ExcAny K C bmC)(w:ExcAny K W bmW)
  (he:s.heap.get? e=some oe) (hcls:oe.cls=.ref C) (hq:Q ((Value.ref C::bmC).contains (.ref W)) s):wpAny M A (excMatches (.ref e) (.ref W)) Q E s:=by
 obtain ⟨nm,q,N,bs,hd,sn,sub,ab,col,dd,k0,k1,k2,k3,k5,nid,lC⟩:=c.lk
 obtain ⟨nm',q',N',bs',hd',sn',sub',ab',col',dd',k0',k1',k2',k3',k5',nid',lW⟩:=w.lk
 have hC:=X _ _ lC
 have hW:=X _ _ lW
 have hcB:(Value.ref W::bmW).contains (.type "BaseException")=true:=by rw[List.contains_cons,w.base,Bool.or_true]
 have f:=tc_notTuple
 obtain ⟨hp,g,d,t,os⟩:=s
 unfold excMatches
 repeat (first|(with_reducible refine wpAny_loadPart_at he ?_;rw[hcls])|with_reducible refine wpAny_loadPart_at hW ?_|(with_reducible refine wpAny_isSubtype_exc hW ?_;rw[hcB])|with_reducible refine wpAny_isSubtype_exc hC ?_|wp_step)
 cases hb:(Value.ref C::bmC).contains (.ref W)<;>(rw[hb] at hq;wp_walk;exact hq)
end SX
namespace L2
open PySem PySem.Spec PyProof.Rows
abbrev Cx.pnw(X:Cx)(pn:List (Addr×Obj)):Cx:={X with pn:=pn}
noncomputable abbrev Cx.inH(X:Cx)(e:Addr):Cx:={X with A:=X.A.mark (some (.ref e)),calm:=false,xe:=fun _ _=>False}
section
variable{X:Cx}{pins:List (Addr×Obj)}{σ:St}{H:Hp}{s:Shared}{e:Addr}
theorem Cx.Ok.pnw{X:Cx}(ok:X.Ok)(pn:List (Addr×Obj)):(X.pnw pn).Ok:=
 ⟨ok.mod,ok.kind,ok.glob,ok.blt,ok.above,ok.inj,ok.has,ok.cab,ok.hd,ok.frames,ok.stk,ok.exf,ok.bs,ok.bsz,ok.noex,ok.exfs,ok.funs,ok.frf⟩
theorem Cx.Ok.unpn{X:Cx}{pn:List (Addr×Obj)}(ok:(X.pnw pn).Ok):X.Ok:=
 ⟨ok.mod,ok.kind,ok.glob,ok.blt,ok.above,ok.inj,ok.has,ok.cab,ok.hd,ok.frames,ok.stk,ok.exf,ok.bs,ok.bsz,ok.noex,ok.exfs,ok.funs,ok.frf⟩
theorem Inv.toPn(I:Inv X pins σ H s):Inv (X.pnw (X.pn++pins)) [] σ H s:=
 ⟨I.ok.pnw _,I.os,I.bare,I.base,I.loc,I.cell,I.free,I.freeC,fun p hp=>I.pin p (by
  have z:p∈(X.pn++pins)++[]:=hp
  rw[List.append_nil] at z
  exact z),I.hok,I.len⟩
theorem Inv.ofPn{pl:List (Addr×Obj)}(I:Inv (X.pnw (X.pn++pins)) pl σ H s):Inv X pins σ H s:=
 ⟨I.ok.unpn,I.os,I.bare,I.base,I.loc,I.cell,I.free,I.freeC,fun p hp=>I.pin p (List.mem_append_left _ hp),I.hok,I.len⟩
theorem SP.ofPn{pl:List (Addr×Obj)}{E:Value->Shared->Prop}{D:iB}{f:Flow}{s':Shared}(h:SP ((X.pnw (X.pn++pins)).wish E) pl D f s'):SP X pins D f s':=by
 cases f with
 | next=>obtain ⟨a,b,c,d⟩:=h;exact ⟨a,b,c.unwish.ofPn,d⟩
 | brk=>obtain ⟨a,b,c,d⟩:=h;exact ⟨a,b,c.unwish.ofPn,d⟩
 | cont=>obtain ⟨a,b,c,d⟩:=h;exact ⟨a,b,c.unwish.ofPn,d⟩
 | ret u=>obtain ⟨v,a,b,c,d⟩:=h;exact ⟨v,a,b,c.unwish.ofPn,d⟩
theorem Cx.Ok.inH{X:Cx}(ok:X.Ok)(e:Addr):(X.inH e).Ok:=
 ⟨ok.mod,ok.kind,ok.glob,ok.blt,ok.above,ok.inj,ok.has,ok.cab,(fun z=>nomatch z),ok.frames,ok.stk,ok.exf,ok.bs,ok.bsz,ok.noex,ok.exfs,ok.funs,ok.frf⟩
theorem Inv.inH(I:Inv X pins σ H s)(e:Addr):Inv (X.inH e) pins σ H s:=
 ⟨I.ok.inH e,I.os,I.bare,I.base,I.loc,I.cell,I.free,I.freeC,I.pin,I.hok,I.len⟩
theorem Inv.ofH(ok:X.Ok)(I:Inv (X.inH e) pins σ H s):Inv X pins σ H s:=
 ⟨ok,I.os,I.bare,I.base,I.loc,I.cell,I.free,I.freeC,I.pin,I.hok,I.len⟩
end
end L2
namespace L2
open PySem PySem.Spec PyProof.Rows
structure Blt(mg:Str->Option Value):Prop where
 b_len:mg "len"=none
 b_isinstance:mg "isinstance"=none
 b_all:mg "all"=none
 b_max:mg "max"=none
 b_min:mg "min"=none
 b_int:mg "int"=none
 b_str:mg "str"=none
 b_bool:mg "bool"=none
 b_tuple:mg "tuple"=none
 b_list:mg "list"=none
 b_range:mg "range"=none
 b_enumerate:mg "enumerate"=none
 b_ValueError:mg "ValueError"=none
structure DefAt(K:Frag)(mg:Str->Option Value)(x:Str)(st:Stmt)(ps:List Str):Prop where
 ex:∃ f fd,Fun K x x st f fd/\f8 K fd ps []/\mg x=some (.ref f)
def Calls(P:Program)(w:World)(K:Frag)(mg:Str->Option Value)(base:Heap)(CX:CXT)(k:Nat)(x:Str)(ps:List Str)(sp:Sp):Prop:=
 ∃ f fd,FnOk P w K mg base CX k f fd ps sp/\f8 K fd ps []/\mg x=some (.ref f)/\PySem.W.keepIn K (.ref f)=true
section
variable{P:Program}{w:World}{K:Frag}{mg:Str->Option Value}{base:Heap}{x:Str}{st:Stmt}{N ps:List Str}{k:Nat}{sp:Sp}
theorem DefAt.ok(D:DefAt K mg x st ps)(S:FnScope N ps (aJ st))(len:∀ vs H Q E,sp vs H Q E->vs.length=ps.length)
  (hbody:∀ (f:Addr) (cdv:Value) (A:Around) (outer:List Env) (s:Shared) (H:Hp) (vs:List V) (Q:VK) (E:XK),Room k (A.deeper (envOfC x (aJ st) s.heap.objs.size f cdv))->sp vs H Q E->
   ∃ t,PSs (gN CX0 P w K mg base N x (aJ st) f cdv A outer s H E).nox (cI st) t/\t {nx:=fun _ H'=>Q .non H',rt:=Q} (start N vs) H):Calls P w K mg base CX0 (k+1) x ps sp:=by
 obtain ⟨f,fd,F,b,m⟩:=D.ex
 exact ⟨f,fd,F.ok S len (hbody f),b,m,F.kp⟩
theorem DefAt.okX(D:DefAt K mg x st ps)(S:FnScope N ps (aJ st))(len:∀ vs H Q E,sp vs H Q E->vs.length=ps.length)
  (hbody:∀ (f:Addr) (cdv:Value) (A:Around) (outer:List Env) (s:Shared) (H:Hp) (vs:List V) (Q:VK) (E:XK),Room k (A.deeper (envOfC x (aJ st) s.heap.objs.size f cdv))->sp vs H Q E->
   ∃ t,PSs ((gN (CXe P w) P w K mg base N x (aJ st) f cdv A outer s H E).fly E) (cI st) t/\t {nx:=fun _ H'=>Q .non H',rt:=Q} (start N vs) H):Calls P w K mg base (CXe P w) (k+1) x ps sp:=by
 obtain ⟨f,fd,F,b,m⟩:=D.ex
 exact ⟨f,fd,F.okX S len (hbody f),b,m,F.kp⟩
theorem Calls.imp{CX:CXT}{sp':Sp}(C:Calls P w K mg base CX k x ps sp)(h:∀ vs H Q E,sp' vs H Q E->sp vs H Q E):Calls P w K mg base CX k x ps sp':=by
 obtain ⟨f,fd,F,b,m,kp⟩:=C
 exact ⟨f,fd,F.imp h,b,m,kp⟩
end
section
variable{X:Cx}{CX:CXT}{k:Nat}{x:Str}{ps:List Str}{sp:Sp}{E:XK}{p pos:Pos}{e:Expr}{es:List Expr}{t:TA}
theorem cC(C:Calls X.prog X.w X.K X.mg X.base CX k x ps sp)(hr:Room k X.A)(hg:Gl X x)(hx:jL CX X E)(ha:PA X (e::es) t)(hdb:(x == ("__debug__":Str))=false:=by decide)
  (he:starEach (e::es) X.env=(false,eval e X.env)::starEach es X.env:=by rfl) (hpl:(backTo pos (starEach es X.env)).any (·.1)=false:=by rfl):PE X (.Call (.Name x p) (e::es) [] pos) (m5 sp [] E t):=by
 obtain ⟨f,fd,F,b,m,kp⟩:=C
 exact aCX F hr hg m kp b .nil hx ha hdb he hpl
end
def spI(C:Addr)(fs:List Str):Sp:=fun vs H Q _=>∃ e xs,vs=.ref e::xs/\xs.length=fs.length/\H e=some (ExN e C none)/\∀ d,H d=none->d≠e->Q .non (upd (upd H e (ExN e C (some d))) d (.xd (fs.zip xs)))
structure ErrAt(P:Program)(w:World)(K:Frag)(mg:Str->Option Value)(base:Heap)(x:Str)(fs:List Str)(W C:Addr):Prop where
 c:SX.ExcC K W C
 m:mg x=some (.ref C)
 na:∀ f∈fs,PySem.W.findIn K (.ref C) f=some none
 i:∃ fI fdI,FnOk P w K mg base CX0 1 fI fdI ("self"::fs) (spI C fs)/\PySem.W.findIn K (.ref C) "__init__"=some (some (.ref fI))/\PySem.W.typeIn K (.ref fI)=some (.type "function")/\f8 K fdI ("self"::fs) []
theorem DatV.tup_of{K:Frag}{H:Hp}{v:V}{ds:List PyData}(h:DatV K H v (.tuple ds)):∃ a xs,v=.ref a/\SqT K H a xs/\DatVs K H xs ds:=by
 cases h with
 | tup h1 h2=>exact ⟨_,_,rfl,h1,h2⟩
theorem DatV.lst_of{K:Frag}{H:Hp}{v:V}{ds:List PyData}(h:DatV K H v (.list ds)):∃ a xs,v=.ref a/\SqL K H a xs/\DatVs K H xs ds:=by
 cases h with
 | lst h1 h2=>exact ⟨_,_,rfl,h1,h2⟩
theorem DatV.int_of{K:Frag}{H:Hp}{v:V}{i:Int}(h:DatV K H v (.int i)):v=.int i:=by cases h;rfl
theorem DatV.str_of{K:Frag}{H:Hp}{v:V}{i:Str}(h:DatV K H v (.str i)):v=.str i:=by cases h;rfl
theorem DatVs.cons_of{K:Frag}{H:Hp}{xs:List V}{d:PyData}{ds:List PyData}(h:DatVs K H xs (d::ds)):∃ x t,xs=x::t/\DatV K H x d/\DatVs K H t ds:=by
 cases h with
 | cons h1 h2=>exact ⟨_,_,rfl,h1,h2⟩
theorem DatVs.nil_of{K:Frag}{H:Hp}{xs:List V}(h:DatVs K H xs []):xs=[]:=by cases h;rfl
theorem cZ.nil:cZ [] []:=⟨rfl,fun _ _ h=>by simp at h⟩
theorem cZ.nil_of{σ:St}(h:cZ [] σ):σ=[]:=List.length_eq_zero_iff.mp h.1
def SqS(K:Frag)(H:Hp)(a:Addr)(xs:List V):Prop:=SqL K H a xs\/SqT K H a xs
theorem PI.or{X:Cx}{tg iter:Expr}{w1 w2:TI}(h1:PI X tg iter w1)(h2:PI X tg iter w2):PI X tg iter (fun σ H R=>w1 σ H R\/w2 σ H R):=fun pins s σ H R I h=>h.elim (h1 pins s σ H R I) (h2 pins s σ H R I)
def aJ2(K:Frag)(tl:TE):TI:=fun σ H R=>tl σ H fun x H1=>∃ a,x=.ref a/\(((∃ xs,SqL K H1 a xs)/\R (Itl K a) H1)\/((∃ xs,SqT K H1 a xs)/\R (Itt K a) H1))
theorem yS{X:Cx}{tg l:Expr}{tl:TE}(hl:PE X l tl):PI X tg l (aJ2 X.K tl):=by
 intro pins s σ H R I h
 refine thn (hl pins s σ H _ I h) fun v s1 zz0=>?_
 obtain ⟨x,H1,I1,r1,q1⟩:=zz0
 obtain ⟨a,e,q⟩:=q1
 subst e
 cases r1
 rcases q with ⟨⟨xs,hq⟩,q⟩|⟨⟨xs,hq⟩,q⟩
 ·obtain ⟨its,rv,p,hz⟩:=I1.list hq
  refine wpAny_pyIter_list p.isList ?_
  refine ⟨s1.heap.objs.size,[s1.heap.objs.size],_,_,H1,rfl,I1.kept (t':=s1.toks) fun b o e=>Heap.get?_push_of_some _ e,yH a _,⟨_,Heap.get?_push_size _ rfl,rfl,rfl⟩,fun b hb=>?_,q⟩
  obtain rfl:=List.mem_singleton.mp hb
  exact I1.fpOk (Nat.le_refl _) (I1.hok.fresh (Nat.le_refl _))
 ·obtain ⟨its,rv,p,hz⟩:=I1.tuple hq
  refine wpAny_pyIter_tuple (show s1.heap.IsTuple a its.toArray from p) ?_
  refine ⟨s1.heap.objs.size,[s1.heap.objs.size],_,_,H1,rfl,I1.kept (t':=s1.toks) fun b o e=>Heap.get?_push_of_some _ e,wN a _,⟨_,Heap.get?_push_size _ rfl,rfl,rfl⟩,fun b hb=>?_,q⟩
  obtain rfl:=List.mem_singleton.mp hb
  exact I1.fpOk (Nat.le_refl _) (I1.hok.fresh (Nat.le_refl _))
end L2
namespace L2
open PySem PySem.Spec PyProof.Rows
def aIE(i j:Int):Prop:=0 < j/\j < 2 ^ 64
theorem aAV{X:Cx}:OpR X (binaryOp .FloorDiv) (rI aIE fun i j=>.int (i / j)):=opI fun i j _ _ _ _ _ hc q=>by
 have h1:(0:Int) < j:=hc.1
 have h2:j < 2 ^ 64:=hc.2
 have h3:j.natAbs < 2 ^ 64:=by omega
 have h4:j.natAbs.log2 < 64:=(Nat.log2_lt (by omega)).mpr h3
 exact floordiv_int (by omega) (by rw[Int.fdiv_eq_ediv_of_nonneg i (by omega)];exact q) (.inl (PyProof.noPylong_of_log2 (by omega)))
theorem m6{X:Cx}{P:Program}{w:World}:jL (CXe P w) X E0:=by
 rintro pins σ H s ev s' I ⟨e,C,od,H',rfl,os,bare,un,hok,he,hv,q⟩
 exact q.elim
section
variable{X:Cx}
def aJ3:V->Option Int->Option Int->Hp->VK->Prop:=fun x lo hi H Q=>∃ z,x=.str z/\z.length<=sizeLine/\Q (.str (Txt.slice z lo hi)) H
theorem vE{v:Value}{o:Option Int}(h:IsPart v o):∃ l:Option (Int×Tok),partValue l=v/\l.map (·.1)=o:=by
 cases h with
 | none=>exact ⟨none,rfl,rfl⟩
 | int i t=>exact ⟨some (i,t),rfl,rfl⟩
theorem aF0:SlR X aJ3:=by
 intro pins s σ H x v vl vu lo hi sl Q I rx hs pl pu h
 obtain ⟨z,rfl,hz,q⟩:=h
 obtain ⟨t,rfl⟩:=rx
 obtain ⟨l,rfl,el⟩:=vE pl
 obtain ⟨u,rfl,eu⟩:=vE pu
 obtain ⟨o,ho,hc,hd⟩:=hs
 refine ⟨"str",_,PyProof.Rows.slot_str_getitem.lookup,rfl,?_⟩
 refine wpAny_getItem_str_slice (l:=l) (u:=u) (st:=none) ⟨o,ho,hc,hd⟩ rfl ?_
 have le:=Txt.slice_le z lo hi
 unfold Txt.slice at q le
 unfold sliceMade slicePicked
 rw[el,eu]
 simp only[beq_self_eq_true,Bool.true_and,Option.map_none,Option.getD_none] at q le ⊢
 by_cases hb:((Builtin.Str.strSliceIndices lo hi 1 z.length).length == z.length)=true
 ·rw[if_pos hb] at q ⊢
  exact ⟨.str z,H,I,⟨t,rfl⟩,q⟩
 ·rw[if_neg hb] at q le ⊢
  exact ⟨Nat.le_trans le hz,.str _,H,I.tok _,⟨_,rfl⟩,q⟩
def yT:V->List V->Hp->VK->Prop:=fun x vs H Q=>∃ z y i rest,x=.str z/\vs=[.str y]/\Builtin.Str.occurrences z y 0 z.length 1=i::rest/\Q (.int i) H
theorem aAW:MtR X "str.index" yT:=by
 intro pins s σ H x vs v us Q I rx rv h
 obtain ⟨z,y,i,rest,rfl,rfl,ho,q⟩:=h
 obtain ⟨t,rfl⟩:=rx
 obtain ⟨u,rfl,tu,rfl⟩:=rv.one
 exact call_gives F.slot_str_index rfl F.entry_str_index (F.args_str_index_2 _ _) (gives_str_index z y t tu i rest ho) ⟨.int i,H,I.tok _,⟨_,rfl⟩,q⟩
def Ity(z:Str):It:=
 ⟨fun i _=>i < z.cps.size,fun i H x H'=>∃ p c,H p=none/\x=.ref p/\H'=upd H p (.tup [.int i,.str ⟨#[c]⟩])/\z.cps[i]? = some c,fun i _=>i=z.cps.size⟩
theorem wY{P:Program}{w:World}{K:Frag}{es:List Expr}{k1}{tpos:Pos}(z:Str)(t:Tok)(T:String)(hT:∀ A:Around,A.handled=none->∀ it,Draws P w A it [it] z.cps.size (fun i v=>∃ c u,z.cps[i]? = some c/\v=Value.str {cps:=#[c]} u) fun i h=>h.IsStrIter it T z t i)
  (e it:Addr) (hei:e≠it):Turn P w K (.Tuple es k1 tpos) (Ity z) [e,it] e (fun i h=>(∃ old,IsEnum h e it i old)/\h.IsStrIter it T z t i) where
 mem:=by simp
 obj:=fun i h st b hb=>by
  obtain ⟨⟨old,s1⟩,o,e2,c,d⟩:=st
  rcases List.mem_cons.mp hb with z|z
  ·subst z
   exact ⟨_,s1,fun v z=>by
    have z':Data.fields _=Data.cell v:=z
    cases z'⟩
  ·obtain rfl:b=it:=by simpa using z
   exact ⟨o,e2,fun v z=>by rw[d] at z;cases z⟩
 keep:=fun i h h' st k=>by
  obtain ⟨⟨old,s1⟩,o,e2,c,d⟩:=st
  exact ⟨⟨old,k e (by simp) _ s1⟩,o,k it (by simp) o e2,c,d⟩
 item:=by
  intro X hP hw hK hc i pins s σ H E I hf st hg
  subst hP hw hK
  obtain ⟨⟨old,s1⟩,s2⟩:=st
  obtain ⟨f0,f1,f2,f3,f4,f5⟩:=hf e (by simp)
  obtain ⟨g0,g1,g2,g3,g4,g5⟩:=hf it (by simp)
  refine wpAny_pyNext_enum_itemD (hT X.A.in1 (I.ok.hd hc) it) s1 s2 hg hei (by simpa using hei) fun u h' tk zz0 so si st hz' kp=>?_
  obtain ⟨c,tc,hcc,hu⟩:=zz0
  subst hu
  refine ⟨_,rfl,wpAny_letOwnedTupleGo_enum so fun h2 se sb=>?_⟩
  have ne1:s.heap.objs.size≠e:=Nat.ne_of_gt (Heap.lt_size s1)
  have hT2:h2.get? s.heap.objs.size=some {cls:=.type "tuple",data:=.seq #[.int i tk,.str ⟨#[c]⟩ tc]}:=(sb.2 _ ne1).trans st
  have fT:H s.heap.objs.size=none:=I.hok.fresh (Nat.le_refl _)
  have kp2:∀ b o,b≠e->b≠it->s.heap.get? b=some o->h2.get? b=some o:=fun b o h1 h2' q=>(sb.2 b h1).trans (kp b o h1 h2' q)
  have hok2:HOk X.prog X.w H h2:=fun b uu q=>by
   refine (I.hok b uu q).stay (fun c v hc q'=>kp2 c v ?_ ?_ q') (fun _ q=>q) (fun _ _ q=>q) fun _ _ q=>q
   ·rcases hc with z|z
    ·rw[z];exact fun zz=>by rw[zz,f0] at q;cases q
    ·exact fun zz=>by rw[zz,f0] at z;cases z
   ·rcases hc with z|z
    ·rw[z];exact fun zz=>by rw[zz,g0] at q;cases q
    ·exact fun zz=>by rw[zz,g0] at z;cases z
  have hokT:HOk X.prog X.w (upd H s.heap.objs.size (.tup [.int i,.str ⟨#[c]⟩])) h2:=HOk.track hok2 fT ⟨by show 2<=sizeLine;decide,[.int i tk,.str ⟨#[c]⟩ tc],.cons ⟨_,rfl⟩ (.cons ⟨_,rfl⟩ .nil),⟨_,hT2,rfl,_,rfl⟩⟩
  have ltT:∀ b uu,H b=some uu->b≠s.heap.objs.size:=fun b uu q=>a5 q fT
  have I2:Inv X pins σ (upd H s.heap.objs.size (.tup [.int i,.str ⟨#[c]⟩])) {s with heap:=h2,gens:=s.gens,drawn:=s.drawn,toks:=tk+1}:=by
   refine I.step (ch:=[e,it]) (fun b hb=>?_) (fun b o _ _ hc q _=>kp2 b o (fun z=>hc (by simp[z])) (fun z=>hc (by simp[z])) q) (fun b o _ _ hc q _=>⟨o.slots,kp2 b o (fun z=>hc (by simp[z])) (fun z=>hc (by simp[z])) q⟩)
    (fun b o _ q n=>by rw[aH (Nat.ne_of_lt (Heap.lt_size q))];exact n) (fun b o hc q=>⟨o,kp2 b o (fun z=>hc (by simp[z])) (fun z=>hc (by simp[z])) q⟩) (fun b ys q=>by rw[aH (ltT b _ q)];exact q) (fun b o uu q=>by rw[aH (ltT b _ q)];exact q)
    (fun b ps q=>by rw[aH (ltT b _ q)];exact q) (fun m hm=>?_) hokT I.bare
   ·rcases List.mem_cons.mp hb with z|z
    ·subst z;exact ⟨f3,f1,f4,f5⟩
    ·obtain rfl:b=it:=by simpa using z
     exact ⟨g3,g1,g4,g5⟩
   ·obtain ⟨o,es',ep,ho,r⟩:=hm
    exact ⟨o,es',ep,kp2 _ o (Ne.symm f1) (Ne.symm g1) ho,r⟩
  refine ⟨.ref s.heap.objs.size,_,I2,rfl,⟨_,c,fT,rfl,rfl,hcc⟩,⟨⟨_,by simpa using se⟩,?_⟩,fun b hb=>?_⟩
  ·obtain ⟨o,q1,q2,q3⟩:=si
   exact ⟨o,(sb.2 it hei.symm).trans q1,q2,q3⟩
  ·rcases List.mem_cons.mp hb with z|z
   ·subst z;rw[aH (Ne.symm ne1)];exact f0
   ·obtain rfl:b=it:=by simpa using z
    obtain ⟨o,q,_⟩:=s2
    rw[aH (Nat.ne_of_lt (Heap.lt_size q))];exact g0
 done:=by
  intro X hP hw hK hc i pins s σ H E I hf st hg
  subst hP hw hK
  obtain ⟨⟨old,s1⟩,s2⟩:=st
  obtain ⟨g0,g1,g2,g3,g4,g5⟩:=hf it (by simp)
  have hg:i=z.cps.size:=hg
  subst hg
  exact wpAny_pyNext_enum_endD (hT X.A.in1 (I.ok.hd hc) it) s1 s2 fun h' eb=>⟨rfl,I.turned (t':=s.toks) (fun b o hb q=>eb b o hb q) g0 g1 g3 g4 g5⟩
 self:=fun _ _ _ _ _ st h=>wpAny_pyIter_enum st.1.choose_spec h
def yU(ta:TA):TI:=fun σ H R=>ta σ H fun vs H1=>∃ z,vs=[.str z]/\R (Ity z) H1
theorem aAX{es:List Expr}{k1}{tpos:Pos}{a:Expr}{ta:TA}{p pos:Pos}(hg:Gl X "enumerate")(hm:X.mg "enumerate"=none)(ha:PA X [a] ta)(hs:starEach [a] X.env=[(false,eval a X.env)]:=by rfl) :
  PI X (.Tuple es k1 tpos) (.Call (.Name "enumerate" p) [a] [] pos) (yU ta):=by
 intro pins s σ H R I h
 refine Call_ (lZ I hg hm PyProof.Rows.boot_enumerate (PyProof.Rows.callWith_type1 (thn (ha pos pins s σ H _ I h) fun us s1 zz0=>?_) hs rfl))
 obtain ⟨vs,H1,I1,r1,q1⟩:=zz0
 obtain ⟨z,e,q⟩:=q1
 subst e
 obtain ⟨u,rfl,t,rfl⟩:=wQ r1
 have hT:∀ A:Around,A.handled=none->∀ it,Draws X.prog X.w A it [it] z.cps.size (fun i v=>∃ c u,z.cps[i]? = some c/\v=Value.str {cps:=#[c]} u) fun i h=>h.IsStrIter it (strIterType z) z t i:=fun A hA it=>by
  unfold strIterType
  split
  · exact Draws.strAscii hA it z t
  · exact Draws.strWide hA it z t
 refine call_enumerate_str fun h' se si hz' kp=>?_
 have I2:Inv X pins σ H1 {s1 with heap:=h'}:=I1.kept (t':=s1.toks) kp
 refine wpAny_pyIter_enum se ?_
 refine ⟨s1.heap.objs.size+1,[s1.heap.objs.size+1,s1.heap.objs.size],_,_,H1,rfl,I2,wY z t _ hT _ _ (Nat.ne_of_gt (Nat.lt_succ_self _)),⟨⟨_,se⟩,si⟩,fun b hb=>?_,q⟩
 rcases List.mem_cons.mp hb with z|z
 ·subst z
  exact I1.fpOk (Nat.le_succ _) (I1.hok.fresh (Nat.le_succ _))
 ·obtain rfl:b=s1.heap.objs.size:=by simpa using z
  exact I1.fpOk (Nat.le_refl _) (I1.hok.fresh (Nat.le_refl _))
end
theorem sP{X:Cx}:jZ X (.builtin "isinstance") (fun xs H Q=>∃ a ys c cv b,xs=[.ref a,c]/\SqT X.K H a ys/\wX c=some cv/\PySem.W.kitOne X.K (.type "tuple") cv=some b/\Q (.bl b) H):=by
 intro pins s σ H xs us Q I r h
 obtain ⟨a,ys,c,cv,b,rfl,ha,hc,e,q⟩:=h
 obtain ⟨u,v,rfl,ru,rv⟩:=wR r
 obtain rfl:=pT hc rv
 cases (show u=Value.ref a from ru)
 obtain ⟨its,_,⟨o,h1,h2,_⟩,_⟩:=I.tuple ha
 exact PySem.W.kia_one PySem.W.kitx_tuple I.kIn ⟨o,h1,h2⟩ e (fun z=>nomatch z) fun tk=>⟨.bl b,H,I.tok _,rfl,q⟩
structure RoomH(k:Nat)(A:Around):Prop where
 dp:A.depth+3 * k+5 < recursionLimit
 un:A.units+16 * k+200 < cLine
theorem Room.h{k:Nat}{A:Around}(r:Room k A):RoomH k A:=⟨r.dp,r.un⟩
structure FnOkH(P:Program)(w:World)(K:Frag)(mg:Str->Option Value)(base:Heap)(k:Nat)(f:Addr)(fd:FuncData)(ps:List Str)(sp:Sp):Prop where
 len:∀ vs H Q E,sp vs H Q E->vs.length=ps.length
 run:∀ (A:Around) (outer:List Env) (s:Shared) (H:Hp) (args:Args) (us:List Value) (vs:List V) (Q:VK),RoomH k A->Env0 P w K mg base A outer s H->BindsTo s fd args (ps.zip us)->aZ vs us->sp vs H Q E0->
  codeAny (model P w) A (.call (.ref f) args) (CR CX0 outer P w H s Q E0) s
theorem FnOkH.ok{P:Program}{w:World}{K:Frag}{mg:Str->Option Value}{base:Heap}{k:Nat}{f:Addr}{fd:FuncData}{ps:List Str}{sp:Sp}(F:FnOkH P w K mg base k f fd ps sp)(hE:∀ vs H Q E,sp vs H Q E->sp vs H Q E0):FnOk P w K mg base CX0 k f fd ps sp:=
 ⟨F.len,fun A outer s H args us vs Q E hr he hb hv hs=>codeAny_mono (F.run A outer s H args us vs Q hr.h he hb hv (hE _ _ _ _ hs)) fun r s' h=>by
  cases r with
  | error e=>exact h
  | ok fl=>cases fl<;>exact h⟩
end L2
namespace Mc
open PySem L2 PyProof.Rows
inductive Tn where
 | n (i:Int)|w (x:Str)
noncomputable def Tn.v:Tn->V
 | .n i=>.int i
 | .w x=>.str x
noncomputable def Tn.d:Tn->PyData
 | .n i=>.int i
 | .w x=>.str x
structure Rw where
 l:Tn
 c:List (Int×Int)
 r:Tn
def gL(c:Int×Int):PyData:=.tuple [.int c.1,.int c.2]
def cG(r:Rw):PyData:=.tuple [r.l.d,.tuple (r.c.map gL),r.r.d]
def bM(rs:List Rw):PyData:=.tuple (rs.map cG)
inductive CellsAt(K:Frag)(H:Hp):List V->List (Int×Int)->Prop
 | nil:CellsAt K H [] []
 | cons {q:Addr} {a b:Int} {xs:List V} {cs:List (Int×Int)} (h:SqS K H q [.int a,.int b]) (t:CellsAt K H xs cs):CellsAt K H (.ref q::xs) ((a,b)::cs)
def aIF(K:Frag)(H:Hp)(v:V)(r:Rw):Prop:=∃ p b cs,v=.ref p/\SqS K H p [r.l.v,.ref b,r.r.v]/\SqS K H b cs/\CellsAt K H cs r.c
inductive RowsAt(K:Frag)(H:Hp):List V->List Rw->Prop
 | nil:RowsAt K H [] []
 | cons {v:V} {r:Rw} {xs:List V} {rs:List Rw} (h:aIF K H v r) (t:RowsAt K H xs rs):RowsAt K H (v::xs) (r::rs)
noncomputable def Tn.ok:Tn->Prop
 | .n _=>True
 | .w x=>PyData.strOk x=true
def Rw.ok(r:Rw):Prop:=r.l.ok/\r.r.ok
theorem vF:∀ {xs:List PyData},(∀ x∈xs,x.canLay0=true)->PyData.canLayAll0 xs=true
 | [],_=>by rfl
 | x::t,h=>by
  show (x.canLay0 && PyData.canLayAll0 t)=true
  rw[h x (List.mem_cons_self ..),vF fun y hy=>h y (List.mem_cons_of_mem _ hy)];rfl
theorem qU{n:Nat}:∀ {xs:List PyData},(∀ x∈xs,x.depth<=n)->PyData.depthAll xs<=n
 | [],_=>Nat.zero_le _
 | x::t,h=>by
  show max x.depth (PyData.depthAll t)<=n
  exact Nat.max_le.mpr ⟨h x (List.mem_cons_self ..),qU fun y hy=>h y (List.mem_cons_of_mem _ hy)⟩
def Sh(n:Nat)(d:PyData):Prop:=d.canLay0=true/\d.depth<=n
theorem sh_tup{n:Nat}{xs:List PyData}(h:∀ x∈xs,Sh n x):Sh (n+1) (.tuple xs):=⟨vF fun x hx=>(h x hx).1,by
 have:=qU fun x hx=>(h x hx).2
 show PyData.depthAll xs+1<=n+1
 omega⟩
theorem yV(n:Nat)(i:Int):Sh n (.int i):=⟨rfl,Nat.zero_le _⟩
theorem aF1(n:Nat){x:Str}(h:PyData.strOk x=true):Sh n (.str x):=⟨h,Nat.zero_le _⟩
theorem aB8(n:Nat){t:Tn}(h:t.ok):Sh n t.d:=by
 cases t with
 | n i=>exact yV n i
 | w x=>exact aF1 n h
theorem Sh.shaped{n:Nat}{d:PyData}(h:Sh n d)(hn:n<=64):SeqAt.shaped d=true:=by
 show (d.canLay0 && decide (d.depth<=64))=true
 rw[h.1,decide_eq_true (Nat.le_trans h.2 hn)];rfl
section
variable{K:Frag}{H:Hp}{p q:Addr}{xs ys:List V}{o:HO}
inductive NoL:PyData->Prop where
 | int (i:Int):NoL (.int i)
 | str (i:Str):NoL (.str i)
 | tup {ds:List PyData} (h:∀ d∈ds,NoL d):NoL (.tuple ds)
end
section
variable{K:Frag}{H:Hp}
theorem CellsAt.drop:∀ {xs:List V} {cs:List (Int×Int)} (n:Nat),CellsAt K H xs cs->CellsAt K H (xs.drop n) (cs.drop n)
 | _,_,0,h=>h
 | _,_,_+1,.nil=>.nil
 | _,_,n+1,.cons _ t=>CellsAt.drop n t
theorem CellsAt.take:∀ {xs:List V} {cs:List (Int×Int)} (n:Nat),CellsAt K H xs cs->CellsAt K H (xs.take n) (cs.take n)
 | _,_,0,_=>.nil
 | _,_,_+1,.nil=>.nil
 | _,_,n+1,.cons a t=>.cons a (CellsAt.take n t)
theorem cells_of:∀ {xs:List V} {cs:List (Int×Int)},DatVs K H xs (cs.map gL)->CellsAt K H xs cs
 | xs,[],h=>by obtain rfl:=h.nil_of;exact .nil
 | xs,c::cs,h=>by
  obtain ⟨x,t,rfl,h1,h2⟩:=h.cons_of
  obtain ⟨a,ys,rfl,h3,h4⟩:=h1.tup_of
  obtain ⟨y0,t0,rfl,h5,h6⟩:=h4.cons_of
  obtain ⟨y1,t1,rfl,h7,h8⟩:=h6.cons_of
  obtain rfl:=h8.nil_of
  obtain rfl:=h5.int_of
  obtain rfl:=h7.int_of
  exact .cons (.inr h3) (cells_of h2)
end
section
variable{K:Frag}{h:Heap}{mg:Str->Option Value}
theorem bP{x:Str}{st:Stmt}{ps:List Str}{f:Addr}{oc:Value}{od an:Option Addr}{osl:Array (Option Value)}{kV doc pm cdv ct:Value}(X:K.In h)(G:h.Ns mainGlobals mg)
  (a:PySem.W.nsIn K mainGlobals x=some (some (.ref f))) (l:K.lookup f=some ⟨oc,od,.func (PySem.W.fnOf x x (eM st) (cI st) (aJ st) .none kV doc pm an cdv ct),osl⟩)
  (c:PySem.W.codeIn K cdv x=true) (k:PySem.W.keepIn K (.ref f)=true)
  (b:∀ (kV doc pm:Value) (an:Option Addr) (cdv ct:Value) (us:List Value),us.length=ps.length->bindArgs (PySem.W.fnOf x x (eM st) (cI st) (aJ st) .none kV doc pm an cdv ct) ⟨us,[]⟩=pure (ps.zip us)):DefAt K mg x st ps:=by
 have F:=yO (st:=st) l c k
 exact ⟨f,_,F,F.binds b,PySem.W.mg_of X G a⟩
end
section
variable{K:Frag}{h:Heap}{mg:Str->Option Value}
theorem aC6{W C N:Addr}{bs sub:List Value}{nm q:Str}{ab:Bool}{sn:List Str}{col:Option Bool}{dd:Option Addr}{k0 k1 k2 k3 k5:Option Value}(l:K.lookup C=some (excClassObj nm q C N bs (.ref W::SX.gD) true sn sub ab col dd k0 k1 k2 k3 k5 "ValueError.__new__"))
 (sa:PySem.W.findIn K (.ref C) "__setattr__"=some (some (.builtin "object.__setattr__"))) (ga:PySem.W.findIn K (.ref C) "__getattribute__"=some (some (.builtin "BaseException.__getattribute__"))) (gh:PySem.W.findIn K (.ref C) "__getattr__"=some none) (cl:PySem.W.findIn K (.ref C) "__class__"=some (some (.builtin "object.__class__")))
 (clg:PySem.W.specialIn K (.builtin "object.__class__") "__get__"=some (some (.builtin "getset_descriptor.__get__"))) (clt:PySem.W.takesIn K (.builtin "object.__class__")=some true) (kp:PySem.W.keepIn K (.ref C)=true):SX.ExcC K W C:=⟨⟨_,_,_,_,_,_,_,_,_,_,_,_,_,_,l⟩,sa,ga,gh,cl,clg,clt,kp⟩
end
end Mc
namespace Mc
open PySem L2 PyProof.Rows
noncomputable def bR(n c:Nat):Bool:=decide (97<=c/\c < 97+n)
theorem occ_one(x:Str)(c:Nat):(Builtin.Str.occurrences x ⟨#[c]⟩ 0 x.length 1=[]/\∀ i:Nat,x.cps.toList[i]? ≠ some c)\/∃ (i:Nat) (r:List Nat),Builtin.Str.occurrences x ⟨#[c]⟩ 0 x.length 1=i::r/\x.cps.toList[i]? = some c/\∀ k:Nat,k < i->x.cps.toList[k]? ≠ some c:=by
 rcases StrLaws.occ_head x ⟨#[c]⟩ 1 (Nat.le_refl _) with ⟨h1,h2⟩|⟨i,r,h1,h2,h3⟩
 · exact .inl ⟨h1, fun i e => h2 i ((StrLaws.subAt_one x c i).mpr e)⟩
 · exact .inr ⟨i, r, h1, (StrLaws.subAt_one x c i).mp h2, fun k hk e => h3 k hk ((StrLaws.subAt_one x c k).mpr e)⟩
theorem aC7{n:Nat}(h1:1<=n)(h2:n<=3):(Txt.slice "abc" none (some (n:Int))).cps.toList=[97,98,99].take n:=by
 obtain rfl|rfl|rfl:n=1\/n=2\/n=3:=by omega
 all_goals decide +kernel
theorem qV{n c:Nat}(h1:1<=n)(h2:n<=3):bR n c=true↔∃ i:Nat,(([97,98,99]:List Nat).take n)[i]? = some c:=by
 unfold bR
 rw[decide_eq_true_iff]
 constructor
 ·intro h
  refine ⟨c - 97,?_⟩
  obtain rfl|rfl|rfl:n=1\/n=2\/n=3:=by omega
  ·obtain rfl:c=97:=by omega
   rfl
  ·obtain rfl|rfl:c=97\/c=98:=by omega
   all_goals rfl
  ·obtain rfl|rfl|rfl:c=97\/c=98\/c=99:=by omega
   all_goals rfl
 ·rintro ⟨i,e⟩
  obtain ⟨hi,he⟩:=List.getElem?_eq_some_iff.mp e
  have hm:=List.getElem_mem hi
  rw[he] at hm
  obtain rfl|rfl|rfl:n=1\/n=2\/n=3:=by omega
  all_goals
   simp at hm
   omega
theorem aAY{n c:Nat}(h1:1<=n)(h2:n<=3):(!(!(Builtin.Str.occurrences (Txt.slice "abc" none (some (n:Int))) ⟨#[c]⟩ 0 (Txt.slice "abc" none (some (n:Int))).length 1).isEmpty)) = !bR n c:=by
 have e:=aC7 h1 h2
 rcases occ_one (Txt.slice "abc" none (some (n:Int))) c with ⟨a,b⟩|⟨i,r,a,b,_⟩
 ·rw[a]
  have:bR n c=false:=Bool.eq_false_iff.mpr fun z=>by
   obtain ⟨i,hi⟩:=(qV h1 h2).mp z
   rw[e] at b
   exact b i hi
  rw[this];rfl
 ·rw[a]
  rw[e] at b
  rw[(qV h1 h2).mpr ⟨i,b⟩];rfl
theorem yW{c:Nat}(h:bR 3 c=true):∃ r,Builtin.Str.occurrences "abc" ⟨#[c]⟩ 0 ("abc":Str).length 1=(c - 97)::r:=by
 have h:=of_decide_eq_true h
 refine ⟨[],?_⟩
 obtain rfl|rfl|rfl:c=97\/c=98\/c=99:=by omega
 all_goals decide +kernel
end Mc
namespace L2
open PySem PySem.Spec PyProof.Rows
section
variable{κ:Type}[DecidableEq κ]
def aB9(kvs:List (κ×V))(k:κ):List (κ×V):=kvs.filter fun kv=>decide (kv.1≠k)
theorem i4.getD{o:Option V}{u:Option Value}{d:V}{d':Value}(r:i4 o u)(rd:aS d d'):aS (o.getD d) (u.getD d'):=by
 cases o with
 | none=>cases u with
  | none=>exact rd
  | some _=>exact (show False from r).elim
 | some _=>cases u with
  | none=>exact (show False from r).elim
  | some _=>exact r
theorem KV.drop{kvs:List (κ×V)}{vs:List (κ×Value)}(r:KV kvs vs)(k:κ):KV (aB9 kvs k) (without vs k):=by
 unfold KV at r ⊢
 unfold aB9 without
 induction r with
 | nil=>exact .nil
 | @cons p q ps qs h t ih=>
  obtain ⟨h1,h2⟩:=h
  rw[List.filter_cons,List.filter_cons]
  by_cases e:p.1=k
  ·have a:¬ decide (p.1≠k)=true:=by simp[e]
   have b:¬ decide (q.1≠k)=true:=by simp[h1.symm.trans e]
   rw[if_neg a,if_neg b];exact ih
  ·have e':¬ q.1=k:=fun z=>e (h1.trans z)
   have a:decide (p.1≠k)=true:=by simp[e]
   have b:decide (q.1≠k)=true:=by simp[e']
   rw[if_pos a,if_pos b];exact .cons ⟨h1,h2⟩ ih
theorem KV.length{kvs:List (κ×V)}{vs:List (κ×Value)}(r:KV kvs vs):kvs.length=vs.length:=Paired.length r
end
theorem aCA{P:Program}{w:World}{k:Key}{u:Value}(r:aS (kV k) u):(cV P w).is k u=true:=by
 cases k with
 | inl i=>obtain ⟨t,e⟩:=(show ∃ t,u=Value.int i t from r);subst e;exact uV P w i t
 | inr x=>obtain ⟨t,e⟩:=(show ∃ t,u=Value.str x t from r);subst e;exact uW P w x t
section
variable{X:Cx}{pins:List (Addr×Obj)}{σ:St}{H:Hp}{s:Shared}{a:Addr}{y v:V}{u r:Value}{o:Option V}{A:Around}{E:Value->Shared->Prop}
theorem Inv.big(I:Inv X pins σ H s):sysModules < s.heap.objs.size:=by
 have h:mainGlobals < s.heap.objs.size:=(I.mod.glob.keeps I.bk).lt
 exact Nat.lt_trans (by decide) h
theorem m7{h':Heap}{t':Nat}{ob:HO}(I:Inv X pins σ H s)(mu:Mut (H a))(hs:Heap.SameBut a s.heap h')(he:∃ q,h'.get? a=some q)(new:bQ X.prog X.w (upd H a ob) h' a ob) :
  Inv X pins σ (upd H a ob) {s with heap:=h',toks:=t'}:=
 I.write (x:=a) (e:=a) mu (.inl rfl) (fun b q hb z=>(hs.2 b hb).trans z) he new
end
def aF2(i:Expr):Prop:=∀ ov iv,subscripted i false ov iv=operate [ov,iv] (getItem ov iv)
theorem aC8{prog:Program}{w:World}{A:Around}{E:Value->Shared->Prop}{s:Shared}{env:Env}{value slice:Expr}{pos:Pos}{T id:String}{Q:Value->Shared->Prop}
  (hl:typeLookup (.type T) "__getitem__"=pure (some (.builtin id))) (hs:aF2 slice)
  (h:wpAny (model prog w) A (eval value env) (fun o s₁=>wpAny (model prog w) A (eval slice env) (fun i s₂=>s₂.TypeIs o T/\wpAny (model prog w) A (getItem o i) Q E s₂) E s₁) E s) :
  wpAny (model prog w) A (eval (.Subscript value slice pos) env) Q E s:=by
 refine Subscript_ (wpAny_mono h (fun o s₁ h₁=>wpAny_mono h₁ (fun i s₂ h₂=>?_) fun _ _ x=>x) fun _ _ x=>x)
 obtain ⟨hT,h₂⟩:=h₂
 unfold subscriptTail
 refine wpAny_bind ?_
 rw[getitemInPython_of_ne hT.not_modules]
 refine wpAny_bind (wpAny_specialOf hT hl ?_)
 have fin:wpAny (model prog w) A (subscripted slice false o i) (fun r s₃=>wpAny (model prog w) A (letTemporaryGo value o r >>= fun _=>pure r) Q E s₃) E s₂:=by
  rw[hs o i]
  exact wpAny_operating (wpAny_mono h₂ (fun r s₃ h₃=>wpAny_bind (wpAny_letTemporaryGo (wpAny_pure h₃))) fun _ _ x=>x)
 first
  | exact wpAny_pure (wpAny_bind fin)
  | exact wpAny_bind (wpAny_pure (wpAny_bind fin))
  | exact wpAny_bind fin
structure M1(X:Cx)(o:Expr)(m:Str)(apos:Pos)(e:Expr)(cpos:Pos):Prop where
 base:attributeBase o m X.env (eval o X.env)=eval o X.env
 few:((backTo cpos (starEach [e] X.env)).all (fun x=>!x.1) && (backToKw cpos (keywordEach [] X.env)).all (fun x=>x.1.isSome)
  && decide (([e]:List Expr).length+([]:List Keyword).length+(if ([]:List Keyword).isEmpty then 0 else 1) < 30))=true
 line:(apos.endLine == cpos.line)=true
 trees:backTo cpos (starEach [e] X.env)=[(false,eval e X.env)]
structure M2(X:Cx)(o:Expr)(m:Str)(apos:Pos)(e f:Expr)(cpos:Pos):Prop where
 base:attributeBase o m X.env (eval o X.env)=eval o X.env
 few:((backTo cpos (starEach [e,f] X.env)).all (fun x=>!x.1) && (backToKw cpos (keywordEach [] X.env)).all (fun x=>x.1.isSome)
  && decide (([e,f]:List Expr).length+([]:List Keyword).length+(if ([]:List Keyword).isEmpty then 0 else 1) < 30))=true
 line:(apos.endLine == cpos.line)=true
 trees:backTo cpos (starEach [e,f] X.env)=[(false,eval e X.env),(false,eval f X.env)]
end L2
namespace L2
open PySem PySem.Spec PyProof.Rows
end L2
namespace L2
open PySem PySem.Spec PyProof.Rows
def sQ(K:Frag)(H:Hp)(ks:List (List Key×Addr)):Prop:=∀ p∈ks,SqT K H p.2 (p.1.map kV)
theorem SqT.ext{K:Frag}{H:Hp}{a q:Addr}{φ:Heap->Prop}{o:HO}{xs:List V}(h:SqT K H q xs)(ha:H a=some (.ext φ)):SqT K (upd H a o) q xs:=by
 rcases h with (h|⟨u,h⟩)|h
 ·refine .inl (.inl ?_)
  rw[aH (fun z=>by rw[z,ha] at h;cases h)];exact h
 ·refine .inl (.inr ⟨u,?_⟩)
  rw[aH (fun z=>by rw[z,ha] at h;cases h)];exact h
 ·exact .inr h
theorem SqL.ext{K:Frag}{H:Hp}{a q:Addr}{φ:Heap->Prop}{o:HO}{xs:List V}(h:SqL K H q xs)(ha:H a=some (.ext φ)):SqL K (upd H a o) q xs:=by
 rcases h with (h|⟨u,h⟩)|h
 ·refine .inl (.inl ?_)
  rw[aH (fun z=>by rw[z,ha] at h;cases h)];exact h
 ·refine .inl (.inr ⟨u,?_⟩)
  rw[aH (fun z=>by rw[z,ha] at h;cases h)];exact h
 ·exact .inr h
mutual
theorem DatV.ext{K:Frag}{H:Hp}{a:Addr}{φ:Heap->Prop}{o:HO}(ha:H a=some (.ext φ)):∀ {x:V} {d:PyData},DatV K H x d->DatV K (upd H a o) x d
 | _,_,.non=>.non
 | _,_,.bl b=>.bl b
 | _,_,.int i=>.int i
 | _,_,.str x=>.str x
 | _,_,.lst h ds=>.lst (h.ext ha) (DatVs.ext ha ds)
 | _,_,.tup h ds=>.tup (h.ext ha) (DatVs.ext ha ds)
theorem DatVs.ext{K:Frag}{H:Hp}{a:Addr}{φ:Heap->Prop}{o:HO}(ha:H a=some (.ext φ)):∀ {xs:List V} {ds:List PyData},DatVs K H xs ds->DatVs K (upd H a o) xs ds
 | _,_,.nil=>.nil
 | _,_,.cons h t=>.cons (DatV.ext ha h) (DatVs.ext ha t)
end
theorem sQ.ext{K:Frag}{H:Hp}{a:Addr}{φ:Heap->Prop}{o:HO}{ks:List (List Key×Addr)}(h:sQ K H ks)(ha:H a=some (.ext φ)):sQ K (upd H a o) ks:=fun p hp=>SqT.ext (h p hp) ha
end L2
namespace Mc
open PySem L2 PyProof.Rows
def Tn.good(n:Int):Tn->Prop
 | .n i=>0<=i/\i < n
 | .w x=>x="by"\/x="out"
def k9(n:Int)(c:Int×Int):Prop:=0<=c.1/\c.1 < n/\(c.2=1\/c.2 = -1)
def Rw.good(n:Int)(r:Rw):Prop:=r.l.good n/\r.r.good n/\∀ c∈r.c,k9 n c
theorem Tn.good.ok{n:Int}{t:Tn}(h:t.good n):t.ok:=by
 cases t with
 | n i=>trivial
 | w x=>
  rcases h with rfl|rfl
  · exact (show PyData.strOk _ = true by decide +kernel)
  · exact (show PyData.strOk _ = true by decide +kernel)
theorem Rw.good.ok{n:Int}{r:Rw}(h:r.good n):r.ok:=⟨h.1.ok,h.2.1.ok⟩
structure Mach(rs:List Rw)(sg:Nat):Prop where
 len:1<=rs.length
 len2:rs.length<=1000
 sg1:1<=sg
 sg3:sg<=3
 row:∀ r∈rs,r.good rs.length/\r.c.length=sg
def bH(sg:Nat)(z:List Nat):Prop:=z.length<=1000/\∀ c∈z,bR sg c=true
noncomputable def aN(rs:List Rw)(q:Int):Rw:=rs.getD q.toNat ⟨.n 0,[],.n 0⟩
noncomputable def bL(rs:List Rw)(z:List Nat)(st:Int×Int):Tn×Int:=
 if st.1=0 then ((aN rs st.2).l,1) else if st.1=(z.length:Int)+1 then ((aN rs st.2).r,-1) else
  (.n ((aN rs st.2).c.getD (z.getD (st.1.toNat - 1) 97 - 97) (0,0)).1,((aN rs st.2).c.getD (z.getD (st.1.toNat - 1) 97 - 97) (0,0)).2)
def m9(rs:List Rw)(z:List Nat)(st:Int×Int):Option (Int×Int):=
 match (bL rs z st).1 with
 | .w _=>none
 | .n q=>some (st.1+(bL rs z st).2,q)
def j0(rs:List Rw)(z:List Nat)(st:Int×Int):Prop:=0<=st.1/\st.1<=(z.length:Int)+1/\0<=st.2/\st.2 < (rs.length:Int)
theorem dO{rs:List Rw}{q:Int}(h0:0<=q)(h1:q < rs.length):rs[q.toNat]? = some (aN rs q):=by
 have h:q.toNat < rs.length:=by omega
 unfold aN
 rw[List.getD_eq_getElem?_getD,List.getElem?_eq_getElem h];rfl
theorem aC9{rs:List Rw}{sg:Nat}{z:List Nat}{st:Int×Int}(S:bH sg z)(V:j0 rs z st)(h0:st.1≠0)(h1:st.1≠(z.length:Int)+1):∃ c,z[st.1.toNat - 1]? = some c/\bR sg c=true/\z.getD (st.1.toNat - 1) 97=c:=by
 obtain ⟨a,b,_,_⟩:=V
 have hl:st.1.toNat - 1 < z.length:=by omega
 refine ⟨z[st.1.toNat - 1],by simp[hl],S.2 _ (List.getElem_mem hl),by rw[List.getD_eq_getElem?_getD,List.getElem?_eq_getElem hl];rfl⟩
theorem aAZ{rs:List Rw}{sg:Nat}{z:List Nat}{st:Int×Int}(M:Mach rs sg)(S:bH sg z)(V:j0 rs z st)(h0:st.1≠0)(h1:st.1≠(z.length:Int)+1) :
  ∃ c,(aN rs st.2).c[z.getD (st.1.toNat - 1) 97 - 97]? = some c/\(aN rs st.2).c.getD (z.getD (st.1.toNat - 1) 97 - 97) (0,0)=c/\k9 rs.length c:=by
 obtain ⟨c,_,hs,e⟩:=aC9 S V h0 h1
 rw[e]
 have hs:=of_decide_eq_true hs
 have hr:=M.row _ (List.mem_of_getElem? (dO V.2.2.1 V.2.2.2))
 have hl:c - 97 < (aN rs st.2).c.length:=by rw[hr.2];omega
 refine ⟨(aN rs st.2).c[c - 97],by simp[hl],by rw[List.getD_eq_getElem?_getD,List.getElem?_eq_getElem hl];rfl,hr.1.2.2 _ (List.getElem_mem hl)⟩
theorem wZ{rs:List Rw}{sg:Nat}{z:List Nat}{st st':Int×Int}(M:Mach rs sg)(S:bH sg z)(V:j0 rs z st)(h:m9 rs z st=some st'):j0 rs z st':=by
 have hr:=M.row _ (List.mem_of_getElem? (dO V.2.2.1 V.2.2.2))
 obtain ⟨a,b,c,d⟩:=id V
 unfold m9 bL at h
 by_cases h0:st.1=0
 ·simp only[if_pos h0] at h
  have g:=hr.1.1
  cases e:(aN rs st.2).l with
  | w x=>rw[e] at h;cases h
  | n q=>
   rw[e] at h g
   cases h
   exact ⟨by show 0<=st.1+1;omega,by show st.1+1<=_;omega,g.1,g.2⟩
 ·by_cases h1:st.1=(z.length:Int)+1
  ·simp only[if_neg h0,if_pos h1] at h
   have g:=hr.1.2.1
   cases e:(aN rs st.2).r with
   | w x=>rw[e] at h;cases h
   | n q=>
    rw[e] at h g
    cases h
    exact ⟨by show 0<=st.1 + -1;omega,by show st.1 + -1<=_;omega,g.1,g.2⟩
  ·obtain ⟨cc,_,e,g⟩:=aAZ M S V h0 h1
   simp only[if_neg h0,if_neg h1] at h
   rw[e] at h
   cases h
   obtain ⟨g1,g2,g3⟩:=g
   refine ⟨?_,?_,g1,g2⟩
   ·show 0<=st.1+cc.2;rcases g3 with g3|g3<;>omega
   ·show st.1+cc.2<=_;rcases g3 with g3|g3<;>omega
theorem qW:∀ (N:Nat) (l:List Nat),l.Nodup->(∀ x∈l,x < N)->l.length<=N
 | 0,l,_,h=>by
  cases l with
  | nil=>exact Nat.le_refl _
  | cons a t=>exact absurd (h a (by simp)) (by omega)
 | N+1,l,hn,h=>by
  have ih:=qW N (l.erase N) (hn.erase N) (fun x hx=>by
   have:=(hn.mem_erase_iff).mp hx
   have h2:=h x this.2
   omega)
  have:=List.length_erase (a:=N) (l:=l)
  split at this<;>omega
noncomputable def w4(rs:List Rw)(z:List Nat):Nat->List (Int×Int)->Int×Int->List (Int×Int)
 | 0,ps,st=>ps++[st]
 | k+1,ps,st=>if st∈ps then ps++[st] else match m9 rs z st with
  | none=>ps++[st]
  | some st'=>w4 rs z k (ps++[st]) st'
def aCB(rs:List Rw)(z:List Nat):Nat:=(z.length+2) * rs.length
def aIG(rs:List Rw)(z:List Nat):List (Int×Int):=w4 rs z (aCB rs z) [] (0,0)
structure Way(rs:List Rw)(z:List Nat)(ps:List (Int×Int))(st:Int×Int)(k:Nat):Prop where
 nd:ps.Nodup
 val:∀ s∈ps++[st],j0 rs z s
 num:ps.length+k=aCB rs z
 res:w4 rs z k ps st=aIG rs z
end Mc
namespace Mc
open PySem L2 PyProof.Rows
noncomputable def one(c:Nat):Str:=⟨#[c]⟩
end Mc
namespace Mc
open PySem L2 PyProof.Rows
section
variable{S O:Type}
inductive Ex(st:S->Option (S⊕O)):Nat->S->O->Prop
 | out {s:S} {o:O} (h:st s=some (.inr o)):Ex st 0 s o
 | go {s s':S} {o:O} {n:Nat} (h:st s=some (.inl s')) (t:Ex st n s' o):Ex st (n+1) s o
inductive Rc(st:S->Option (S⊕O)):Nat->S->S->Prop
 | nil {s:S}:Rc st 0 s s
 | cons {s s' s'':S} {n:Nat} (h:st s=some (.inl s')) (t:Rc st n s' s''):Rc st (n+1) s s''
variable{st:S->Option (S⊕O)}
theorem Ex.det{n n':Nat}{s:S}{o o':O}(a:Ex st n s o)(b:Ex st n' s o'):n=n'/\o=o':=by
 induction a generalizing n' o' with
 | out h=>
  cases b with
  | out h'=>rw[h] at h';cases h';exact ⟨rfl,rfl⟩
  | go h' t=>rw[h] at h';cases h'
 | go h t ih=>
  cases b with
  | out h'=>rw[h] at h';cases h'
  | go h' t'=>
   rw[h] at h';cases h'
   obtain ⟨e,e'⟩:=ih t'
   exact ⟨by omega,e'⟩
theorem Rc.ex{k n:Nat}{s s':S}{o:O}(a:Rc st k s s')(b:Ex st n s o):∃ n',n=n'+k/\Ex st n' s' o:=by
 induction a generalizing n with
 | nil=>exact ⟨n,rfl,b⟩
 | cons h t ih=>
  cases b with
  | out h'=>rw[h] at h';cases h'
  | go h' t'=>
   rw[h] at h';cases h'
   obtain ⟨n',e,q⟩:=ih t'
   exact ⟨n',by omega,q⟩
theorem Rc.to{k n:Nat}{s s':S}{o:O}(a:Rc st k s s')(b:Ex st n s' o):Ex st (n+k) s o:=by
 induction a with
 | nil=>exact b
 | cons h t ih=>exact .go h (ih b)
theorem Rc.snoc{k:Nat}{s s' s'':S}(a:Rc st k s s')(h:st s'=some (.inl s'')):Rc st (k+1) s s'':=by
 induction a with
 | nil=>exact .cons h .nil
 | cons h' t ih=>exact .cons h' (ih h)
theorem Rc.round{m n:Nat}{s:S}{o:O}(a:Rc st (m+1) s s):¬ Ex st n s o:=fun b=>by
 obtain ⟨n',e,q⟩:=a.ex b
 have:=(b.det q).1
 omega
def Res(st:S->Option (S⊕O))(s:S)(r:Option O):Prop:=∀ o,r=some o↔∃ n,Ex st n s o
theorem Res.det{s:S}{r r':Option O}(a:Res st s r)(b:Res st s r'):r=r':=by
 apply Option.ext
 intro o
 exact (a o).trans (b o).symm
theorem Res.out{s:S}{o:O}(h:st s=some (.inr o)):Res st s (some o):=fun o'=>by
 constructor
 · intro e; cases e; exact ⟨0, .out h⟩
 · rintro ⟨n, q⟩; rw [((Ex.out h).det q).2]
theorem Res.step{s s':S}{r:Option O}(h:st s=some (.inl s'))(a:Res st s' r):Res st s r:=fun o=>by
 rw[a o]
 constructor
 ·rintro ⟨n,q⟩;exact ⟨n+1,.go h q⟩
 ·rintro ⟨n,q⟩
  cases q with
  | out h'=>rw[h] at h';cases h'
  | go h' t=>rw[h] at h';cases h';exact ⟨_,t⟩
theorem Res.round{s:S}{m:Nat}(a:Rc st (m+1) s s):Res st s none:=fun o=>by
 constructor
 · intro e; cases e
 · rintro ⟨n, q⟩; exact absurd q a.round
open Classical in
noncomputable def bA(st:S->Option (S⊕O))(s:S):Option O:=if h:∃ o n,Ex st n s o then some h.choose else none
theorem iV(st:S->Option (S⊕O))(s:S):Res st s (bA st s):=fun o=>by
 unfold bA
 by_cases h:∃ o n,Ex st n s o
 ·rw[dif_pos h]
  obtain ⟨n,q⟩:=h.choose_spec
  constructor
  · intro e; cases e; exact ⟨n, q⟩
  · rintro ⟨n', q'⟩; rw [(q.det q').2]
 ·rw[dif_neg h]
  constructor
  · intro e; cases e
  · rintro ⟨n, q⟩; exact absurd ⟨o, n, q⟩ h
theorem Res.eq{s:S}{r:Option O}(a:Res st s r):r=bA st s:=a.det (iV st s)
theorem nR{S':Type}{st':S'->Option (S'⊕O)}{s:S}{s':S'}(h:∀ o,(∃ n,Ex st n s o)↔∃ n,Ex st' n s' o):bA st s=bA st' s':=
 Option.ext fun o=>((iV st s) o).trans ((h o).trans ((iV st' s') o).symm)
structure Und2(st:S->Option (S⊕O))(s0:S)(ps:List S)(s:S):Prop where
 nd:ps.Nodup
 back:∀ p∈ps,∃ m,Rc st (m+1) p s
 res:∀ r,Res st s r->Res st s0 r
theorem Und2.start{s0:S}:Und2 st s0 [] s0:=⟨List.nodup_nil,fun p hp=>by simp at hp,fun r h=>h⟩
theorem Und2.next{s0 s s':S}{ps:List S}(U:Und2 st s0 ps s)(hn:s∉ps)(h:st s=some (.inl s')):Und2 st s0 (ps++[s]) s' where
 nd:=by
  rw[List.nodup_append]
  exact ⟨U.nd,by simp,fun a ha b hb e=>by rw[List.mem_singleton.mp hb] at e;exact hn (e▸ha)⟩
 back:=fun p hp=>by
  rcases List.mem_append.mp hp with q|q
  · obtain ⟨m, r⟩ := U.back p q; exact ⟨m + 1, r.snoc h⟩
  · rw [List.mem_singleton.mp q]; exact ⟨0, .cons h .nil⟩
 res:=fun r a=>U.res r (a.step h)
theorem Und2.met{s0 s:S}{ps:List S}(U:Und2 st s0 ps s)(h:s∈ps):bA st s0=none:=by
 obtain ⟨m,r⟩:=U.back s h
 exact ((U.res _ (Res.round r)).eq).symm
theorem Und2.outs{s0 s:S}{ps:List S}{o:O}(U:Und2 st s0 ps s)(h:st s=some (.inr o)):bA st s0=some o:=((U.res _ (Res.out h)).eq).symm
end
abbrev Th:=Option (Int×Int)
structure Tb where
 f:List Th
 a:List Th
def yX(m:Nat):Th->Prop
 | none=>True
 | some (d,q)=>(d=1\/d = -1)/\0<=q/\q < (m:Int)
structure Tb.good(m:Nat)(t:Tb):Prop where
 lf:t.f.length=m
 la:t.a.length=m
 gf:∀ x∈t.f,yX m x
 ga:∀ x∈t.a,yX m x
def aM1(k n:Int)(s:Int×Int×Int):Int×Int×Int:=(if s.1 < k then s.1 else if s.1=k then (if s.2.1=1 then k else k+n - 1) else s.1+n - 1,s.2.1,s.2.2)
end Mc
namespace Mc
open PySem L2 PyProof.Rows
theorem yY{S:Type}(f:S->Nat)(N:Nat)(l:List S)(hn:l.Nodup)(hf:∀ s∈l,f s < N)(hi:∀ a∈l,∀ b∈l,f a=f b->a=b):l.length<=N:=by
 have h:=qW N (l.map f) ?_ ?_
 ·rw[List.length_map] at h;exact h
 ·unfold List.Nodup
  rw[List.pairwise_map]
  exact List.Pairwise.imp_of_mem (fun {a b} ha hb hab e=>hab (hi a ha b hb e)) hn
 ·intro x hx
  obtain ⟨s,hs,rfl⟩:=List.mem_map.mp hx
  exact hf s hs
theorem qX{S O:Type}{st:S->Option (S⊕O)}{s:S}{o:O}(h:st s=some (.inr o)):bA st s=some o:=((Res.out h).eq).symm
end Mc
namespace L2
open PySem PySem.Spec PyProof.Rows
def Its(z:Str):It:=⟨fun i _=>i < z.cps.size,fun i H x H'=>H'=H/\∃ c,z.cps[i]? = some c/\x=.str ⟨#[c]⟩,fun i _=>i=z.cps.size⟩
theorem sR{P:Program}{w:World}{K:Frag}{tg:Expr}(z:Str)(t:Tok)(T:String)(hT:∀ A:Around,A.handled=none->∀ it,Walks P w A it [it] [it] z.cps.size (SignAt z) fun i h=>h.IsStrIter it T z t i)
  (hself:∀ (A:Around) (it:Addr) (i:Nat) (s:Shared) (Q E:Value->Shared->Prop),s.heap.IsStrIter it T z t i->Q (.ref it) s->wpAny (model P w) A (pyIter (.ref it)) Q E s)
  (hno:["enumerate","zip","dict_itemiterator","dict_reverseitemiterator","odict_iterator","itertools.zip_longest","itertools.pairwise"].contains T=false) (it:Addr):Turn P w K tg (Its z) [it] it (fun i h=>h.IsStrIter it T z t i) where
 mem:=by simp
 obj:=fun i h st b hb=>by
  obtain rfl:b=it:=by simpa using hb
  obtain ⟨o,e,c,d⟩:=st
  exact ⟨o,e,fun v z=>by rw[d] at z;cases z⟩
 keep:=fun i h h' st k=>by
  obtain ⟨o,e,c,d⟩:=st
  exact ⟨o,k it (by simp) o e,c,d⟩
 item:=by
  intro X hP hw hK hc i pins s σ H E I hf st hg
  subst hP hw hK
  obtain ⟨f0,f1,f2,f3,f4,f5⟩:=hf it (by simp)
  refine (hT X.A (I.ok.hd hc) it).item i s _ E hg st fun v h' tk hv st' kp=>?_
  obtain ⟨c,tc,hcc,rfl⟩:=hv
  have I1:Inv X pins σ H {s with heap:=h',toks:=tk}:=I.turned (t':=tk) (it:=it) (fun b o hb e=>kp b o (by simpa using hb) e) f0 f1 f3 f4 f5
  obtain ⟨o,e,cc,d⟩:=id st'
  exact ⟨_,rfl,rX (s:={s with heap:=h',toks:=tk}) e cc d hno ⟨.str ⟨#[c]⟩,H,I1,⟨_,rfl⟩,⟨rfl,c,hcc,rfl⟩,st',fun b hb=>(hf b hb).1⟩⟩
 done:=by
  intro X hP hw hK hc i pins s σ H E I hf st hg
  subst hP hw hK
  obtain ⟨f0,f1,f2,f3,f4,f5⟩:=hf it (by simp)
  have hg:i=z.cps.size:=hg
  subst hg
  exact (hT X.A (I.ok.hd hc) it).done s _ E st fun h' tk kp=>⟨rfl,I.turned (t':=tk) (it:=it) (fun b o hb e=>kp b o (by simpa using hb) e) f0 f1 f3 f4 f5⟩
 self:=fun A i s Q E st h=>hself A it i s Q E st h
def aJ4(te:TE):TI:=fun σ H R=>te σ H fun x H1=>∃ z,x=.str z/\R (Its z) H1
theorem yZ{X:Cx}{tg l:Expr}{tl:TE}(hl:PE X l tl):PI X tg l (aJ4 tl):=by
 intro pins s σ H R I h
 refine thn (hl pins s σ H _ I h) fun v s1 zz0=>?_
 obtain ⟨x,H1,I1,r1,q1⟩:=zz0
 obtain ⟨z,e,q⟩:=q1
 subst e
 obtain ⟨t,rfl⟩:=r1
 refine wpAny_pyIter_strU ?_
 have I2:Inv X pins σ H1 {s1 with heap:=s1.heap.push {cls:=.type (strIterType z),data:=.fields #[.str z t,.int 0 0]}}:=I1.kept (t':=s1.toks) fun b o e=>Heap.get?_push_of_some _ e
 have st:(s1.heap.push {cls:=.type (strIterType z),data:=.fields #[.str z t,.int 0 0]}).IsStrIter s1.heap.objs.size (strIterType z) z t 0:=⟨_,Heap.get?_push_size _ rfl,rfl,rfl⟩
 have fin:∀ b∈[s1.heap.objs.size],iE X pins H1 b:=fun b hb=>by
  obtain rfl:=List.mem_singleton.mp hb
  exact I1.fpOk (Nat.le_refl _) (I1.hok.fresh (Nat.le_refl _))
 by_cases ha:(z.cps.all fun x=>decide (x < 128))=true
 ·have eT:strIterType z="str_ascii_iterator":=by unfold strIterType;rw[if_pos ha]
  rw[eT] at st I2 ⊢
  exact ⟨s1.heap.objs.size,[s1.heap.objs.size],_,_,H1,rfl,I2,sR z t "str_ascii_iterator" (fun A hA it=>Walks.strAscii hA it z t) (fun A it i s Q E st h=>wpAny_pyIter_striter_ascii st h) (by decide) _,st,fin,q⟩
 ·have eT:strIterType z="str_iterator":=by unfold strIterType;rw[if_neg ha]
  rw[eT] at st I2 ⊢
  exact ⟨s1.heap.objs.size,[s1.heap.objs.size],_,_,H1,rfl,I2,sR z t "str_iterator" (fun A hA it=>Walks.strWide hA it z t) (fun A it i s Q E st h=>wpAny_pyIter_striter_wide st h) (by decide) _,st,fin,q⟩
end L2
namespace L2
open PySem PySem.Spec PyProof.Rows
structure InK(env:Env)(s₀:Shared)(m cm:Str->Option Value)(s:Shared):Prop where
 ic:InCall s₀ env.locals m s
 cell:∀ n c,env.cells.lookup n=some c->s.heap.IsCell c (cm n)
 inj:∀ n n' c,env.cells.lookup n=some c->env.cells.lookup n'=some c->n=n'
 ne:∀ n c,env.cells.lookup n=some c->c≠env.locals
 up:∀ n c,env.kindOf n=some .cell->env.cells.lookup n=some c->env.locals < c
section
variable{M:Model}{A:Around}{E:Value->Shared->Prop}{s₀ s:Shared}{m cm:Str->Option Value}{env:Env}
theorem InK.stL{n:Str}{v:Value}{Q:Unit->Shared->Prop}(x:InK env s₀ m cm s)(hk:env.scope.kind=.function)(hl:env.kindOf n=some .local)
  (h:∀ s',InK env s₀ (fun y=>if y=n then some v else m y) cm s'->Q () s'):wpAny M A (storeName env n v) Q E s:=by
 refine wpAny_storeName_local hl x.ic.ns (fun h' hn' hs'=>h _ ⟨⟨?_,hn',fun b o e=>?_,x.ic.fresh⟩,fun k c hc=>?_,x.inj,x.ne,x.up⟩) (by rw[hk];rfl)
 ·obtain ⟨h₁,tk,rfl⟩:=x.ic.same
  exact ⟨h',_,rfl⟩
 ·exact hs'.extBut b o (Nat.ne_of_lt (Nat.lt_of_lt_of_le (Heap.lt_size e) x.ic.fresh)) (x.ic.keep b o e)
 ·exact (x.cell k c hc).sameBut hs' (x.ne k c hc)
theorem InK.stC{n:Str}{c:Addr}{v:Value}{Q:Unit->Shared->Prop}(x:InK env s₀ m cm s)(hk:env.scope.kind=.function)(hl:env.kindOf n=some .cell)
  (hc:env.cells.lookup n=some c)
  (h:∀ s',InK env s₀ m (fun y=>if y=n then some v else cm y) s'->Q () s'):wpAny M A (storeName env n v) Q E s:=by
 have hLc:=x.up n c hl hc
 refine wpAny_storeName_cell hk hl hc (x.cell n c hc) fun h' hc' hs'=>h _ ⟨⟨?_,x.ic.ns.sameBut hs' (Nat.ne_of_lt hLc),fun b o e=>?_,x.ic.fresh⟩,fun k c' hk'=>?_,x.inj,x.ne,x.up⟩
 ·obtain ⟨h₁,tk,rfl⟩:=x.ic.same
  exact ⟨h',_,rfl⟩
 ·exact hs'.extBut b o (Nat.ne_of_lt (Nat.lt_trans (Nat.lt_of_lt_of_le (Heap.lt_size e) x.ic.fresh) hLc)) (x.ic.keep b o e)
 ·by_cases hkn:k=n
  ·subst hkn
   rw[hc] at hk';cases hk'
   simpa using hc'
  ·rw[if_neg hkn]
   exact (x.cell k c' hk').sameBut hs' fun e=>hkn (x.inj k n c' hk' (e▸hc))
theorem InK.binds(f:Str×Value->PUnit->Sem (ForInStep PUnit))(hf:∀ n v u,f (n,v) u=(do storeName env n v;pure (.yield ⟨⟩)))(hk:env.scope.kind=.function) :
  ∀ (binds:List (Str×Value)) (m cm:Str->Option Value) (s:Shared) (Q:PUnit->Shared->Prop),InK env s₀ m cm s->
   (∀ x∈binds,env.kindOf x.1=some .local\/(env.kindOf x.1=some .cell/\(env.cells.lookup x.1).isSome=true))->
   (∀ s',InK env s₀ (bindL env.kindOf binds m) (bindC env.kindOf binds cm) s'->Q ⟨⟩ s')->wpAny M A (forIn binds ⟨⟩ f) Q E s
 | [],m,cm,s,Q,x,_,h=>by rw[List.forIn_nil];exact wpAny_pure (h s x)
 | (n,v)::r,m,cm,s,Q,x,hkind,h=>by
  rw[List.forIn_cons,hf]
  have hr:∀ y∈r,env.kindOf y.1=some .local\/(env.kindOf y.1=some .cell/\(env.cells.lookup y.1).isSome=true):=fun y hy=>hkind y (List.mem_cons_of_mem _ hy)
  rcases hkind (n,v) List.mem_cons_self with hl|⟨hl,hc⟩
  ·refine wpAny_bind (wpAny_bind (x.stL hk hl fun s' x'=>wpAny_pure (InK.binds f hf hk r _ _ s' Q x' hr fun s'' x''=>h s'' ?_)))
   unfold bindL bindC;rw[if_pos hl,if_pos hl];exact x''
  ·obtain ⟨c,hc⟩:=Option.isSome_iff_exists.mp hc
   have hnl:¬ env.kindOf n=some .local:=by rw[hl];decide
   refine wpAny_bind (wpAny_bind (x.stC hk hl hc fun s' x'=>wpAny_pure (InK.binds f hf hk r _ _ s' Q x' hr fun s'' x''=>h s'' ?_)))
   unfold bindL bindC;rw[if_neg hnl,if_neg hnl];exact x''
end
theorem gW:∀ (names:List (Str×NameKind)) (n:Nat) (acc:List (Str×Addr)),cellsFrom n names acc=cellsFrom n names []++acc
 | [],_,_=>rfl
 | (x,k)::r,n,acc=>by
  unfold cellsFrom
  split
  · rw [gW r (n + 1) ((x, n) :: acc), gW r (n + 1) [(x, n)], List.append_assoc]; rfl
  · exact gW r n acc
theorem j2:∀ (names:List (Str×NameKind)) (n:Nat) {x:Str} {c:Addr},(x,c)∈cellsFrom n names []->(x,NameKind.cell)∈names
 | [],_,_,_,h=>by simp[cellsFrom] at h
 | (y,k)::r,n,x,c,h=>by
  unfold cellsFrom at h
  split at h
  ·rename_i hk
   rw[gW] at h
   rcases List.mem_append.mp h with h|h
   ·exact List.mem_cons_of_mem _ (j2 r _ h)
   ·have:(x,c)=(y,n):=by simpa using h
    cases this
    rw[eq_of_beq hk];exact List.mem_cons_self
  ·exact List.mem_cons_of_mem _ (j2 r _ h)
theorem lA{α:Type}{x:Str}:∀ {l l':List (Str×α)},(l++l').lookup x=(l.lookup x).or (l'.lookup x)
 | [],l'=>by simp
 | (y,v)::r,l'=>by
  rw[List.cons_append,List.lookup_cons,List.lookup_cons]
  cases x == y with
  | true=>rfl
  | false=>exact lA
theorem y6{α:Type}{x:Str}{l:List (Str×α)}(h:∀ v,(x,v)∉l):l.lookup x=none:=by
 cases e:l.lookup x with
 | none=>rfl
 | some v=>exact absurd (PySem.mem_of_lookup e) (h v)
noncomputable def bX(qual:Str)(scope:Scope)(L f:Addr)(cd:Value)(cl:List (Str×Addr)):Env:=newEnv scope L mainGlobals (cellsFrom (L+1) scope.names cl) (qual++".<locals>.") (some f) cd none builtinsNs
structure ClAt(h:Heap)(scope:Scope)(cl:List (Str×Addr))(cm:Str->Option Value):Prop where
 cell:∀ n c,cl.lookup n=some c->h.IsCell c (cm n)
 inj:∀ n n' c,cl.lookup n=some c->cl.lookup n'=some c->n=n'
 off:∀ y∈scope.names,y.2=.cell->cl.lookup y.1=none
section
variable{M:Model}{A:Around}{E:Value->Shared->Prop}{s:Shared}
theorem vG{scope:Scope}{binds:List (Str×Value)}{qual:Str}{f:Addr}{cd:Value}{cl:List (Str×Addr)}{cm:Str->Option Value}{Q:Env->Shared->Prop}
  (hk:scope.kind=.function) (C:ClAt s.heap scope cl cm)
  (hkind:∀ x∈binds,scope.names.lookup x.1=some .local\/scope.names.lookup x.1=some .cell)
  (hQ:∀ s',InK (bX qual scope s.heap.objs.size f cd cl) s (bindL (bX qual scope s.heap.objs.size f cd cl).kindOf binds fun _=>none) (bindC (bX qual scope s.heap.objs.size f cd cl).kindOf binds fun n=>if (cl.lookup n).isSome then cm n else none) s'->Q (bX qual scope s.heap.objs.size f cd cl) s') :
  wpAny M A (newFunctionEnv scope mainGlobals cl binds (qual++".<locals>.") (some f) cd none builtinsNs) Q E s:=by
 simp only[newFunctionEnv,Option.isSome_none,Bool.false_eq_true,if_false]
 refine wpAny_bind (wpAny_alloc ?_)
 refine wpAny_bind (wpAny_layCells _ (fun name kind cells=>by cases hkc:kind == NameKind.cell<;>simp[hkc]) _ _ _ _ ?_)
 have ok:=cellsFrom_ok scope.names (s.heap.push {cls:=.type "frame",data:=.dict #[]}) (s.heap.objs.size+1) [] ⟨fun _ _ hm=>(nomatch hm),List.Pairwise.nil⟩ (by rw[Heap.size_push];exact Nat.le_refl _)
 rw[Heap.size_push] at ok
 rw[show ({s with heap:=s.heap.push {cls:=.type "frame",data:=.dict #[]}}:Shared).heap.objs.size=s.heap.objs.size+1 from Heap.size_push ..]
 have keep:∀ b o,s.heap.get? b=some o->(pushCells (s.heap.push {cls:=.type "frame",data:=.dict #[]}) scope.names).get? b=some o:=fun b o e=>pushCells_keeps _ _ b o (Heap.get?_push_of_some _ e)
 have hcells:(bX qual scope s.heap.objs.size f cd cl).cells=cellsFrom (s.heap.objs.size+1) scope.names []++cl:=gW _ _ _
 have two:∀ n c,(bX qual scope s.heap.objs.size f cd cl).cells.lookup n=some c->((cellsFrom (s.heap.objs.size+1) scope.names []).lookup n=some c/\cl.lookup n=none)\/((cellsFrom (s.heap.objs.size+1) scope.names []).lookup n=none/\cl.lookup n=some c):=fun n c e=>by
  rw[hcells,lA] at e
  cases q:(cellsFrom (s.heap.objs.size+1) scope.names []).lookup n with
  | none=>rw[q] at e;exact .inr ⟨rfl,by simpa using e⟩
  | some d=>
   rw[q] at e
   have e':some d=some c:=by simpa using e
   cases e'
   exact .inl ⟨rfl,C.off (n,.cell) (j2 _ _ (PySem.mem_of_lookup q)) rfl⟩
 have big:∀ n c,(cellsFrom (s.heap.objs.size+1) scope.names []).lookup n=some c->s.heap.objs.size < c:=fun n c e=>(ok.empty n c (PySem.mem_of_lookup e)).2
 have small:∀ n c,cl.lookup n=some c->c < s.heap.objs.size:=fun n c e=>(C.cell n c e).lt
 refine wpAny_bind (InK.binds (s₀:=s) (env:=bX qual scope s.heap.objs.size f cd cl)
  _ (fun _ _ _=>rfl) hk binds (fun _=>none) (fun n=>if (cl.lookup n).isSome then cm n else none) _ _
  ⟨⟨⟨_,_,rfl⟩,(Heap.Ns.new s.heap (.type "frame")).keeps (pushCells_keeps _ _),keep,Nat.le_refl _⟩,fun n c e=>?_,fun n n' c e e'=>?_,fun n c e=>?_,fun n c hc e=>?_⟩
  (fun x hx=>?_) fun s' x=>wpAny_pure (hQ s' x))
 ·rcases two n c e with ⟨q,q'⟩|⟨q,q'⟩
  ·rw[q'];exact (ok.empty n c (PySem.mem_of_lookup q)).1
  ·rw[q'];exact (C.cell n c q').keeps keep
 ·rcases two n c e with ⟨q,q'⟩|⟨q,q'⟩<;>rcases two n' c e' with ⟨r,r'⟩|⟨r,r'⟩
  ·exact name_of_addr ok.apart (PySem.mem_of_lookup q) (PySem.mem_of_lookup r)
  ·exact absurd (big _ _ q) (Nat.not_lt.mpr (Nat.le_of_lt (small _ _ r')))
  ·exact absurd (big _ _ r) (Nat.not_lt.mpr (Nat.le_of_lt (small _ _ q')))
  ·exact C.inj n n' c q' r'
 ·show c≠s.heap.objs.size
  rcases two n c e with ⟨q,q'⟩|⟨q,q'⟩
  ·exact Nat.ne_of_gt (big _ _ q)
  ·exact Nat.ne_of_lt (small _ _ q')
 ·show s.heap.objs.size < c
  rcases two n c e with ⟨q,q'⟩|⟨q,q'⟩
  ·exact big _ _ q
  ·rw[C.off (n,.cell) (PySem.mem_of_lookup hc) rfl] at q';cases q'
 ·rcases hkind x hx with q|q
  ·exact .inl q
  ·refine .inr ⟨q,?_⟩
   obtain ⟨c,e⟩:=jM (n:=s.heap.objs.size+1) q
   rw[hcells,lA,e];rfl
end
end L2
namespace L2
open PySem PySem.Spec PyProof.Rows
noncomputable def hid(cs:List Addr)(H:Hp):Hp:=fun b=>if b∈cs then none else H b
noncomputable def shw(cs:List Addr)(H H':Hp):Hp:=fun b=>if b∈cs then H b else H' b
theorem kL{cs:List Addr}{H:Hp}{b:Addr}(h:b∈cs):hid cs H b=none:=if_pos h
theorem bC{cs:List Addr}{H:Hp}{b:Addr}(h:b∉cs):hid cs H b=H b:=if_neg h
theorem l9{cs:List Addr}{H H':Hp}{b:Addr}(h:b∈cs):shw cs H H' b=H b:=if_pos h
theorem dI{cs:List Addr}{H H':Hp}{b:Addr}(h:b∉cs):shw cs H H' b=H' b:=if_neg h
theorem fR{cs:List Addr}{H:Hp}{b:Addr}(h:H b=none):hid cs H b=none:=by
 by_cases q:b∈cs
 · exact kL q
 · rw [bC q]; exact h
theorem lB{cs:List Addr}{H:Hp}{b:Addr}{o:HO}(h:hid cs H b=some o):H b=some o/\b∉cs:=by
 by_cases q:b∈cs
 · rw [kL q] at h; cases h
 · rw [bC q] at h; exact ⟨h, q⟩
def FnO(f:Addr)(o:Obj):HO:=.ext fun h=>h.get? f=some o
def dJ(c:Addr)(o:Obj)(v:V):HO:=.frz o (.ext fun h=>∃ u,aS v u/\h.IsCell c (some u))
section
variable{P:Program}{w:World}{H:Hp}{h:Heap}
theorem FnO.get{f:Addr}{o:Obj}(x:HOk P w H h)(e:H f=some (FnO f o)):h.get? f=some o:=(x f _ e).1
theorem dJ.get{c:Addr}{o:Obj}{v:V}(x:HOk P w H h)(e:H c=some (dJ c o v)):h.get? c=some o/\∃ u,aS v u/\h.IsCell c (some u):=⟨(x c _ e).1,(x c _ e).2.1⟩
theorem FnO.ok{f:Addr}{o:Obj}(e:h.get? f=some o):bQ P w H h f (FnO f o):=⟨e,⟨o,e⟩,fun h1 h2 q k=>k o q⟩
theorem dJ.ok{c:Addr}{o:Obj}{v:V}{u:Value}(r:aS v u)(e:h.get? c=some o)(hd:o.data=.cell (some u)):bQ P w H h c (dJ c o v):=
 ⟨e,⟨u,r,o,e,hd⟩,⟨o,e⟩,fun h1 h2 ⟨u,r,o,ho,hd⟩ k=>⟨u,r,o,k o ho,hd⟩⟩
end
def Celd(cs:List Addr)(H:Hp):Prop:=∀ c∈cs,∃ o v,H c=some (dJ c o v)
theorem Celd.out{cs:List Addr}{H:Hp}(h:Celd cs H){b:Addr}{o:HO}(e:H b=some o)(n:∀ o' v,o≠dJ b o' v):b∉cs:=fun z=>by
 obtain ⟨o',v,q⟩:=h b z
 rw[q] at e;cases e
 exact n o' v rfl
theorem HOk.hid{P:Program}{w:World}{H:Hp}{h:Heap}{cs:List Addr}(x:HOk P w H h)(hc:Celd cs H):HOk P w (hid cs H) h:=fun b u e=>by
 obtain ⟨e1,_⟩:=lB e
 exact (x b u e1).stay (fun _ _ _ q=>q) (fun c q=>by rw[bC (hc.out q fun _ v z=>nomatch z)];exact q) (fun c _ q=>by rw[bC (hc.out q fun _ v z=>nomatch z)];exact q) fun c _ q=>by rw[bC (hc.out q fun _ v z=>nomatch z)];exact q
structure CloScope(N ps fr:List Str)(sc:Scope):Prop where
 kind:sc.kind=.function
 co:sc.isCoroutine=false
 gen:sc.isGenerator=false
 nd:N.Nodup
 pre:N.take (ps++fr).length=ps++fr
 par:∀ x∈ps,sc.names.lookup x=some .local\/sc.names.lookup x=some .cell
 cap:∀ x∈fr,sc.names.lookup x=some .free
 only:∀ y∈sc.names,y.2=.free->y.1∈fr
 off:∀ y∈sc.names,y.2=.cell->y.1∉fr
structure CapAt(H:Hp)(fr:List Str)(cl:List (Str×Addr))(vs:List V):Prop where
 len:vs.length=fr.length
 only:∀ n c,cl.lookup n=some c->n∈fr
 inj:∀ n n' c,cl.lookup n=some c->cl.lookup n'=some c->n=n'
 at':∀ (i:Nat) x v,fr[i]? = some x->vs[i]? = some v->∃ c o,cl.lookup x=some c/\H c=some (dJ c o v)
theorem CapAt.get{H:Hp}{fr:List Str}{cl:List (Str×Addr)}{vs:List V}(a:CapAt H fr cl vs){n:Str}{c:Addr}(e:cl.lookup n=some c):∃ o v,H c=some (dJ c o v):=by
 obtain ⟨i,hi,hx⟩:=List.mem_iff_getElem.mp (a.only n c e)
 obtain ⟨c',o,e',q⟩:=a.at' i n (vs[i]'(by rw[a.len];exact hi)) (by rw[List.getElem?_eq_getElem hi,hx]) (List.getElem?_eq_getElem _)
 rw[e] at e';cases e'
 exact ⟨_,_,q⟩
noncomputable def aP(fr:List Str)(cl:List (Str×Addr)):List Addr:=fr.filterMap fun x=>cl.lookup x
theorem CapAt.celd{H:Hp}{fr:List Str}{cl:List (Str×Addr)}{vs:List V}(a:CapAt H fr cl vs):Celd (aP fr cl) H:=fun c hc=>by
 obtain ⟨x,_,e⟩:=List.mem_filterMap.mp hc
 exact a.get e
theorem CapAt.same{H H':Hp}{fr:List Str}{cl:List (Str×Addr)}{vs:List V}(a:CapAt H fr cl vs)(s:aG H H'):CapAt H' fr cl vs:=⟨a.len,a.only,a.inj,fun i x v h1 h2=>let ⟨c,o,e,q⟩:=a.at' i x v h1 h2;⟨c,o,e,s _ _ q⟩⟩
noncomputable def f9(CX:CXT)(P:Program)(w:World)(K:Frag)(mg:Str->Option Value)(base:Heap)(N fr:List Str)(qual:Str)(scope:Scope)(f:Addr)(cd:Value)(cl:List (Str×Addr))(A:Around)(outer:List Env)(s:Shared)(H:Hp)(E:XK):Cx where
 prog:=P
 w:=w
 K:=K
 mg:=mg
 base:=base
 A:=A.deeper (bX qual scope s.heap.objs.size f cd cl)
 N:=N
 s₀:=s
 H₀:=hid (aP fr cl) H
 env:=bX qual scope s.heap.objs.size f cd cl
 outer:=outer
 stack:=bX qual scope s.heap.objs.size f cd cl::outer
 ex:=[]
 calm:=true
 fn:=fun x=>(cl.lookup x).isNone
 pn:=[]
 xe:=fun e s'=>wpAny (model P w) (A.deeper (bX qual scope s.heap.objs.size f cd cl)) (leaving (bX qual scope s.heap.objs.size f cd cl) e) (fun _ s''=>CX outer H s E e s'') (fun e' s''=>CX outer H s E e' s'') s'
section
variable{CX:CXT}{P:Program}{w:World}{K:Frag}{mg:Str->Option Value}{base:Heap}{N ps fr:List Str}{qual:Str}{scope:Scope}{f:Addr}{cd:Value}{cl:List (Str×Addr)}{A:Around}{outer:List Env}{s s1:Shared}{H:Hp}{E:XK}{us:List Value}{vs cvs:List V}
theorem vH{h:Heap}(hok:HOk P w H h)(C:CapAt H fr cl cvs):∃ cm:Str->Option Value,(∀ n c,cl.lookup n=some c->∃ v u,(∃ o,H c=some (dJ c o v))/\aS v u/\cm n=some u/\h.IsCell c (some u)):=by
 have key:∀ n,∃ x:Option Value,∀ c,cl.lookup n=some c->∃ v u,(∃ o,H c=some (dJ c o v))/\aS v u/\x=some u/\h.IsCell c (some u):=fun n=>by
  cases e:cl.lookup n with
  | none=>exact ⟨none,fun c z=>nomatch z⟩
  | some c=>
   obtain ⟨o,v,q⟩:=C.get e
   obtain ⟨_,u,r,z⟩:=dJ.get hok q
   exact ⟨some u,fun c' e'=>by cases e';exact ⟨v,u,⟨o,q⟩,r,rfl,z⟩⟩
 exact ⟨fun n=>(key n).choose,fun n c e=>(key n).choose_spec c e⟩
theorem lD{n:Str}{L:Nat}:(bX qual scope L f cd cl).cells.lookup n=((cellsFrom (L+1) scope.names []).lookup n).or (cl.lookup n):=by
 rw[show (bX qual scope L f cd cl).cells=cellsFrom (L+1) scope.names []++cl from gW _ _ _,lA]
theorem nA{n:Str}{c:Addr}{L:Nat}(S:CloScope N ps fr scope)(C:CapAt H fr cl cvs)(e:cl.lookup n=some c):(bX qual scope L f cd cl).cells.lookup n=some c:=by
 rw[lD,y6 fun v hv=>S.off (n,.cell) (j2 _ _ hv) rfl (C.only n c e)]
 simpa using e
theorem oZ{cm:Str->Option Value}(S:CloScope N ps fr scope)(C:CapAt H fr cl cvs)(hd:A.handled=none)(e0:Env0 P w K mg base A outer s H)(hl:vs.length=ps.length)(r:aZ vs us)
  (hcm:∀ n c,cl.lookup n=some c->∃ v u,(∃ o,H c=some (dJ c o v))/\aS v u/\cm n=some u/\s.heap.IsCell c (some u))
  (x:InK (bX qual scope s.heap.objs.size f cd cl) s (bindL (bX qual scope s.heap.objs.size f cd cl).kindOf (ps.zip us) fun _=>none) (bindC (bX qual scope s.heap.objs.size f cd cl).kindOf (ps.zip us) fun n=>if (cl.lookup n).isSome then cm n else none) s1) :
  Inv (f9 CX P w K mg base N fr qual scope f cd cl A outer s H E) [] (start N (vs++cvs)) (hid (aP fr cl) H) s1:=by
 have hpl:(ps++fr).length<=N.length:=by have:=congrArg List.length S.pre;rw[List.length_take] at this;omega
 have hvl:(vs++cvs).length=(ps++fr).length:=by rw[List.length_append,List.length_append,hl,C.len]
 obtain ⟨h1,tk,rfl,hk⟩:=x.ic.done
 have noA:∀ b:Addr,b∉(f9 CX P w K mg base N fr qual scope f cd cl A outer s H E).ex:=fun b z=>absurd (show b∈([]:List Addr) from z) (by simp)
 have cab:∀ y c,cl.lookup y=none->(bX qual scope s.heap.objs.size f cd cl).cells.lookup y=some c->s.heap.objs.size < c:=fun y c n e=>by
  rw[lD,n] at e
  have e':(cellsFrom (s.heap.objs.size+1) scope.names []).lookup y=some c:=by simpa using e
  have ok:=cellsFrom_ok scope.names (s.heap.push {cls:=.type "frame",data:=.dict #[]}) (s.heap.objs.size+1) [] ⟨fun _ _ hm=>(nomatch hm),List.Pairwise.nil⟩ (by rw[Heap.size_push];exact Nat.le_refl _)
  rw[Heap.size_push] at ok
  exact (ok.empty y c (PySem.mem_of_lookup e')).2
 refine ⟨⟨e0.mod,S.kind,rfl,rfl,Nat.le_refl _,fun y z c h1 h2=>x.inj y z c h1 h2,fun y hy=>?_,fun y c hf h=>?_,fun _=>hd,Around.frames_deeper e0.frames,.inr ⟨rfl,rfl⟩,fun b z=>absurd z (noA b),fun b o e=>⟨(e0.bs b o e).1,fR (e0.bs b o e).2⟩,e0.bsz,fun b _ _=>noA b,fun b z=>absurd z (noA b),e0.funs,fun b hb=>fR (e0.frf b hb)⟩,
  rfl,e0.bare,Un.kept hk,⟨_,x.ic.ns,fun i y v h1 h2 h3=>?_⟩,fun y c h=>⟨_,x.cell y c h⟩,fR (e0.hok.fresh (Nat.le_refl _)),fun y c h=>?_,fun p hp=>absurd (show p∈([]:List (Addr×Obj)) from hp) (by simp),(e0.hok.hid C.celd).kept hk,?_⟩
 ·have hy:scope.names.lookup y=some .cell\/scope.names.lookup y=some .free:=hy
  rcases hy with hy|hy
  ·obtain ⟨c,e⟩:=jM (n:=s.heap.objs.size+1) hy
   exact ⟨c,by show (bX qual scope s.heap.objs.size f cd cl).cells.lookup y=_;rw[lD,e];rfl⟩
  ·obtain ⟨i,hi,hx⟩:=List.mem_iff_getElem.mp (S.only _ (PySem.mem_of_lookup hy) rfl)
   obtain ⟨c,_,e,_⟩:=C.at' i y (cvs[i]'(by rw[C.len];exact hi)) (by rw[List.getElem?_eq_getElem hi,hx]) (List.getElem?_eq_getElem _)
   exact ⟨c,nA S C e⟩
 ·have hf:(cl.lookup y).isNone=true:=hf
  exact Nat.le_of_lt (cab y c (Option.isNone_iff_eq_none.mp hf) h)
 ·have hi:i < (vs++cvs).length:=by
   unfold start at h2
   by_cases hi:i < (vs++cvs).length
   ·exact hi
   ·rw[List.getElem?_append_right (by simpa using hi)] at h2
    rw[List.getElem?_replicate] at h2
    split at h2<;>cases h2
  have ha:(vs++cvs)[i]? = some v:=by
   unfold start at h2
   rw[List.getElem?_append_left (by simpa using hi),List.getElem?_map] at h2
   cases e:(vs++cvs)[i]? with
   | none=>rw[e] at h2;cases h2
   | some a=>rw[e] at h2;cases h2;rfl
  have hp:(ps++fr)[i]? = some y:=by
   rw[<-S.pre,List.getElem?_take_of_lt (by omega)];exact h1
  have ndA:(ps++fr).Nodup:=by rw[<-S.pre];exact S.nd.sublist (List.take_sublist _ _)
  have ndP:ps.Nodup:=(List.nodup_append.mp ndA).1
  by_cases hip:i < ps.length
  ·rw[List.getElem?_append_left (by omega)] at ha
   rw[List.getElem?_append_left hip] at hp
   obtain ⟨u,hu,rv⟩:=r.get ha
   refine ⟨u,rv,?_⟩
   rcases S.par y (List.mem_of_getElem? hp) with k|k
   ·exact .inl ⟨k,l7 ndP hp hu k⟩
   ·obtain ⟨c,e⟩:=jM (n:=s.heap.objs.size+1) k
    have e':(bX qual scope s.heap.objs.size f cd cl).cells.lookup y=some c:=by rw[lD,e];rfl
    refine .inr ⟨.inl k,c,e',?_⟩
    have q:=x.cell y c e'
    rw[l8 ndP hp hu (by show scope.names.lookup y≠_;rw[k];decide)] at q
    exact q
  ·rw[List.getElem?_append_right (by omega)] at ha
   rw[List.getElem?_append_right (by omega)] at hp
   rw[hl] at ha
   obtain ⟨c,o,e,q⟩:=C.at' _ y v hp ha
   obtain ⟨_,u2,r2,z2⟩:=dJ.get e0.hok q
   have e':=nA (qual:=qual) (f:=f) (cd:=cd) (L:=s.heap.objs.size) S C e
   have hfree:scope.names.lookup y=some .free:=S.cap y (List.mem_of_getElem? hp)
   refine ⟨u2,r2,.inr ⟨.inr hfree,c,e',?_⟩⟩
   exact z2.keeps hk
 ·cases e:cl.lookup y with
  | none=>exact fR (e0.hok.fresh (Nat.le_of_lt (cab y c e h)))
  | some c'=>
   have h':=nA (qual:=qual) (f:=f) (cd:=cd) (L:=s.heap.objs.size) S C e
   have h:(bX qual scope s.heap.objs.size f cd cl).cells.lookup y=some c:=h
   rw[h] at h';cases h'
   exact kL (List.mem_filterMap.mpr ⟨y,C.only y c e,e⟩)
 ·unfold start
  show _=N.length
  rw[List.length_append,List.length_map,List.length_replicate]
  omega
theorem n4{pins:List (Addr×Obj)}{σ:St}{H':Hp}{s':Shared}(S:CloScope N ps fr scope)(C:CapAt H fr cl cvs)(e0:Env0 P w K mg base A outer s H)(J:Inv (f9 CX P w K mg base N fr qual scope f cd cl A outer s H E) pins σ H' s') :
  (∀ c∈aP fr cl,H' c=none)/\Un (frs outer) [] H (shw (aP fr cl) H H') s.heap s'.heap/\HOk P w (shw (aP fr cl) H H') s'.heap:=by
 have un:Un (frs outer) [] (hid (aP fr cl) H) H' s.heap s'.heap:=J.base
 have fr':∀ c∈aP fr cl,H' c=none:=fun c hc=>by
  obtain ⟨x,_,e⟩:=List.mem_filterMap.mp hc
  exact J.freeC x c (nA S C e)
 have out:∀ b,H b=none->b∉aP fr cl:=fun b n z=>by
  obtain ⟨o,v,q⟩:=C.celd b z
  rw[n] at q;cases q
 refine ⟨fr',⟨fun b o e n h1 h2=>un.keep b o e (fR n) h1 h2,fun b o e n h1 h2=>un.slot b o e (fR n) h1 h2,fun b o e n h2=>by rw[dI (out b n)];exact un.free b o e (fR n) h2,un.there,
  fun b xs q=>?_,fun b o u q=>?_,fun b ps q=>?_⟩,fun b u e=>?_⟩
 ·have hb:=C.celd.out q fun _ v z=>nomatch z
  rw[dI hb];exact un.tups b xs (by rw[bC hb];exact q)
 ·by_cases hb:b∈aP fr cl
  ·rw[l9 hb];exact q
  ·rw[dI hb];exact un.frzs b o u (by rw[bC hb];exact q)
 ·have hb:=C.celd.out q fun _ v z=>nomatch z
  rw[dI hb];exact un.tbls b ps (by rw[bC hb];exact q)
 ·by_cases hb:b∈aP fr cl
  ·rw[l9 hb] at e
   obtain ⟨o,v,q⟩:=C.celd b hb
   rw[q] at e;cases e
   obtain ⟨ho,u,r,o2,ho2,hd⟩:=dJ.get e0.hok q
   rw[ho] at ho2;cases ho2
   exact dJ.ok r (un.keep b o ho (kL hb) (fun z=>by have:=e0.frf b z;rw[q] at this;cases this) (by simp)) hd
  ·rw[dI hb] at e
   have ne:∀ c o,H' c=some o->c∉aP fr cl:=fun c o q z=>by rw[fr' c z] at q;cases q
   exact (J.hok b u e).stay (fun _ _ _ q=>q) (fun c q=>by rw[dI (ne c _ q)];exact q) (fun c _ q=>by rw[dI (ne c _ q)];exact q) fun c _ q=>by rw[dI (ne c _ q)];exact q
end
section
variable{P:Program}{w:World}{K:Frag}{mg:Str->Option Value}{base:Heap}{N ps fr:List Str}{qual:Str}{scope:Scope}{f:Addr}{cd:Value}{cl:List (Str×Addr)}{A:Around}{outer:List Env}{s:Shared}{H:Hp}{E:XK}{cvs:List V}
theorem o0{ev:Value}{s':Shared}(S:CloScope N ps fr scope)(C:CapAt H fr cl cvs)(e0:Env0 P w K mg base A outer s H)
  (h:Fly (f9 (CXe P w) P w K mg base N fr qual scope f cd cl A outer s H E) (fun c e H'=>(∀ a∈aP fr cl,H' a=none)->E c e (shw (aP fr cl) H H')) ev s'):(f9 (CXe P w) P w K mg base N fr qual scope f cd cl A outer s H E).xe ev s':=by
 obtain ⟨e,C',od,σ,H',rfl,I,fl,q⟩:=h
 show wpAny (model P w) _ (leaving _ (.ref e)) _ _ s'
 unfold leaving
 have hO:k7 (f9 (CXe P w) P w K mg base N fr qual scope f cd cl A outer s H E):=⟨rfl,rfl⟩
 refine wpAny_bind (k8 hO I fl fun s2 I2 f2=>kK I2 f2 fun s3 I3 f3=>?_)
 obtain ⟨vs,T,a,b,c,_⟩:=f3.tb
 obtain ⟨fr',un,hok⟩:=n4 S C e0 I3
 have ne:∀ c o,H' c=some o->c∉aP fr cl:=fun c o q z=>by rw[fr' c z] at q;cases q
 refine ⟨e,C',od,_,rfl,I3.os,I3.bare,un,hok,by rw[dI (ne _ _ f3.tr)];exact f3.tr,⟨vs,T,a,b,fun t e1=>⟨?_,(c t e1).2.1⟩⟩,q fr'⟩
 rw[dI]
 ·exact (c t e1).1
 ·intro z
  obtain ⟨o,v,q⟩:=C.celd t z
  exact absurd (Nat.lt_of_lt_of_le (e0.hok.lt q) (c t e1).2.1) (Nat.lt_irrefl _)
end
end L2
namespace L2
open PySem PySem.Spec PyProof.Rows
structure ClSt where
 name:Str
 qual:Str
 params:Arguments
 body:FuncBody
 scope:Scope
noncomputable def ClSt.fd(S:ClSt)(cl:List (Str×Addr))(doc pm:Value)(c:Addr)(ct:Value):FuncData:=
 {name:=S.name,qualname:=S.qual,params:=S.params,body:=S.body,scope:=S.scope,globals:=mainGlobals,closure:=cl,defaults:=.none,kwdefaults:=.none,doc:=doc,pyModule:=pm,annotations:=none,code:=.ref c,closureTuple:=ct,builtins:=builtinsNs}
abbrev ClSt.obj(S:ClSt)(cl:List (Str×Addr))(doc pm:Value)(c:Addr)(ct:Value):Obj:={cls:=.type "function",data:=.func (S.fd cl doc pm c ct)}
section
variable{P:Program}{w:World}{K:Frag}{mg:Str->Option Value}{base:Heap}{N ps fr:List Str}{S:ClSt}{f c:Addr}{cl:List (Str×Addr)}{A:Around}{outer:List Env}{s:Shared}{H:Hp}{E:XK}{Q:VK}{cvs vs:List V}{us:List Value}{args:Args}{doc pm ct:Value}{k:Nat}
theorem sS(Sc:CloScope N ps fr S.scope):∀ y∈ps.zip us,S.scope.names.lookup y.1=some .local\/S.scope.names.lookup y.1=some .cell:=fun ⟨n,v⟩ hy=>Sc.par n (List.of_mem_zip hy).1
theorem y7{h:Heap}(hok:HOk P w H h)(Sc:CloScope N ps fr S.scope)(C:CapAt H fr cl cvs){cm:Str->Option Value}(hcm:∀ n c,cl.lookup n=some c->∃ v u,(∃ o,H c=some (dJ c o v))/\aS v u/\cm n=some u/\h.IsCell c (some u)):ClAt h S.scope cl cm where
 cell:=fun n c e=>by
  obtain ⟨v,u,_,_,e1,z⟩:=hcm n c e
  rw[e1];exact z
 inj:=C.inj
 off:=fun y hy hc=>by
  cases e:cl.lookup y.1 with
  | none=>rfl
  | some c=>exact absurd (C.only _ _ e) (Sc.off y hy hc)
theorem y8{body:List Stmt}(hb:S.body=.stmts body)(hf:H f=some (FnO f (S.obj cl doc pm c ct)))(hc:H c=some (.cod S.qual))(Sc:CloScope N ps fr S.scope)(C:CapAt H fr cl cvs)(hr:Room (k+1) A)
  (e0:Env0 P w K mg base A outer s H) (hbi:BindsTo s (S.fd cl doc pm c ct) args (ps.zip us)) (r:aZ vs us) (hl:vs.length=ps.length)
  (hbody:Room k (A.deeper (bX S.qual S.scope s.heap.objs.size f (.ref c) cl))->∃ t,PSs ((f9 (CXe P w) P w K mg base N fr S.qual S.scope f (.ref c) cl A outer s H E).fly fun c e H'=>(∀ a∈aP fr cl,H' a=none)->E c e (shw (aP fr cl) H H')) body t /\
   t {nx:=fun _ H'=>(∀ a∈aP fr cl,H' a=none)->Q .non (shw (aP fr cl) H H'),rt:=fun v H'=>(∀ a∈aP fr cl,H' a=none)->Q v (shw (aP fr cl) H H')} (start N (vs++cvs)) (hid (aP fr cl) H)) :
  codeAny (model P w) A (.call (.ref f) args) (CR (CXe P w) outer P w H s Q E) s:=by
 have lim:s.heap.NoLimit:=e0.mod.nolimit.keeps fun b o e=>(e0.bs b o e).1
 obtain ⟨cm,hcm⟩:=vH e0.hok C
 have hcr:s.heap.CodeRec (.ref c) S.qual:=e0.hok c _ hc
 refine codeAny_call_function hr.depth (FnO.get e0.hok hf) rfl Sc.co Sc.gen hb hcr (hbi _ _ _ _ ?_)
 refine vG (cm:=cm) Sc.kind (y7 e0.hok Sc C hcm) (sS Sc) fun s1 x=>?_
 refine ⟨lim.keeps x.ic.keep,codeAny_func ?_⟩
 obtain ⟨t,ht,hq⟩:=hbody (hr.deeper _)
 have I:Inv (f9 (CXe P w) P w K mg base N fr S.qual S.scope f (.ref c) cl A outer s H E) [] (start N (vs++cvs)) (hid (aP fr cl) H) s1:=oZ Sc C hr.hd e0 hl r hcm x
 have ht':=ht.unfly fun _ _ z=>o0 Sc C e0 z
 refine wpAny_mono (ht' [] s1 _ _ _ I hq) (fun fl s' hs=>?_) fun e s' hs=>hs
 have fin:∀ {σ':St} {H':Hp} {v:V} {u:Value},Inv (f9 (CXe P w) P w K mg base N fr S.qual S.scope f (.ref c) cl A outer s H E) [] σ' H' s'->aS v u->((∀ a∈aP fr cl,H' a=none)->Q v (shw (aP fr cl) H H'))->CE outer P w H s Q u s':=
  fun {σ' H' v u} J rv q=>by
   obtain ⟨hn,un,hok⟩:=n4 Sc C e0 J
   exact ⟨v,_,J.os,J.bare,un,hok,rv,q hn⟩
 cases fl with
 | ret u=>
  obtain ⟨v,σ',H',J,rv,q⟩:=hs
  exact fin J rv q
 | next=>
  obtain ⟨σ',H',J,q⟩:=hs
  exact fin (v:=V.non) (u:=Value.none) J rfl q
 | brk=>
  obtain ⟨_,_,_,q⟩:=hs
  exact False.elim q
 | cont=>
  obtain ⟨_,_,_,q⟩:=hs
  exact False.elim q
theorem aA0{body:Expr}(hb:S.body=.expr body)(hf:H f=some (FnO f (S.obj cl doc pm c ct)))(hc:H c=some (.cod S.qual))(Sc:CloScope N ps fr S.scope)(C:CapAt H fr cl cvs)(hr:Room (k+1) A)
  (e0:Env0 P w K mg base A outer s H) (hbi:BindsTo s (S.fd cl doc pm c ct) args (ps.zip us)) (r:aZ vs us) (hl:vs.length=ps.length)
  (hbody:Room k (A.deeper (bX S.qual S.scope s.heap.objs.size f (.ref c) cl))->∃ t,PE ((f9 (CXe P w) P w K mg base N fr S.qual S.scope f (.ref c) cl A outer s H E).fly fun c e H'=>(∀ a∈aP fr cl,H' a=none)->E c e (shw (aP fr cl) H H')) body t /\
   t (start N (vs++cvs)) (hid (aP fr cl) H) fun v H'=>(∀ a∈aP fr cl,H' a=none)->Q v (shw (aP fr cl) H H')) :
  codeAny (model P w) A (.call (.ref f) args) (CR (CXe P w) outer P w H s Q E) s:=by
 have lim:s.heap.NoLimit:=e0.mod.nolimit.keeps fun b o e=>(e0.bs b o e).1
 obtain ⟨cm,hcm⟩:=vH e0.hok C
 have hcr:s.heap.CodeRec (.ref c) S.qual:=e0.hok c _ hc
 refine PySem.W.kla_callFunE hr.depth (FnO.get e0.hok hf) rfl Sc.co Sc.gen hb hcr (hbi _ _ _ _ ?_)
 refine vG (cm:=cm) Sc.kind (y7 e0.hok Sc C hcm) (sS Sc) fun s1 x=>?_
 refine ⟨lim.keeps x.ic.keep,PySem.W.kla_codeExpr ?_⟩
 obtain ⟨t,ht,hq⟩:=hbody (hr.deeper _)
 have I:Inv (f9 (CXe P w) P w K mg base N fr S.qual S.scope f (.ref c) cl A outer s H E) [] (start N (vs++cvs)) (hid (aP fr cl) H) s1:=oZ Sc C hr.hd e0 hl r hcm x
 refine wpAny_mono (ht [] s1 _ _ _ (I.wish _) hq) (fun u s' hs=>?_) fun e s' hs=>o0 Sc C e0 hs
 obtain ⟨v,H',J,rv,q⟩:=hs
 obtain ⟨hn,un,hok⟩:=n4 Sc C e0 J.unwish
 exact ⟨v,_,J.os,J.bare,un,hok,rv,q hn⟩
end
end L2
namespace L2
open PySem PySem.Spec PyProof.Rows
theorem w5{env:Env}:∀ (names:List (Str×NameKind)) (acc:List (Str×Addr)),(∀ x∈names,x.2=.free->∃ c,env.cells.lookup x.1=some c)->
  (∀ x c,acc.lookup x=some c->env.cells.lookup x=some c)->
  ∃ cl,(forIn names acc fun x r=>(if (x.2 == NameKind.free)=true then (do let a <-cellOf env x.1;pure (ForInStep.yield ((x.1,a)::r))) else pure (ForInStep.yield r)):Sem (List (Str×Addr)))=pure cl /\
   (∀ x c,cl.lookup x=some c->env.cells.lookup x=some c)/\(∀ x∈names,x.2=.free->∃ c,cl.lookup x.1=some c)/\(∀ x c,acc.lookup x=some c->∃ c',cl.lookup x=some c') /\
   (∀ x c,cl.lookup x=some c->(∃ c',acc.lookup x=some c')\/(x,NameKind.free)∈names):=by
 intro names
 induction names with
 | nil=>intro acc _ h;exact ⟨acc,rfl,h,fun x hx=>absurd hx (by simp),fun x c e=>⟨c,e⟩,fun x c e=>.inl ⟨c,e⟩⟩
 | cons x r ih=>
  intro acc hf h
  obtain ⟨n,k⟩:=x
  by_cases hk:k=.free
  ·subst hk
   obtain ⟨c,hc⟩:=hf (n,.free) List.mem_cons_self rfl
   have hc:env.cells.lookup n=some c:=hc
   obtain ⟨cl,e1,e2,e3,e4,e5⟩:=ih ((n,c)::acc) (fun y hy=>hf y (List.mem_cons_of_mem _ hy)) (fun y d e=>by
    rw[List.lookup_cons] at e
    cases q:y == n with
    | true=>rw[q] at e;cases e;have:=eq_of_beq q;subst this;exact hc
    | false=>rw[q] at e;exact h y d e)
   refine ⟨cl,?_,e2,fun y hy hyf=>?_,fun y d e=>?_,fun y d e=>?_⟩
   ·rw[List.forIn_cons]
    simp only[beq_self_eq_true,if_true]
    unfold cellOf
    simp only[hc,pure_bind]
    exact e1
   ·rcases List.mem_cons.mp hy with z|z
    ·subst z
     exact e4 n c (by rw[List.lookup_cons];simp)
    ·exact e3 y z hyf
   ·by_cases q:y=n
    ·subst q;exact e4 y c (by rw[List.lookup_cons];simp)
    ·exact e4 y d (by rw[List.lookup_cons,beq_false_of_ne q];exact e)
   ·rcases e5 y d e with ⟨c',z⟩|z
    ·by_cases q:y=n
     ·subst q;exact .inr List.mem_cons_self
     ·rw[List.lookup_cons,beq_false_of_ne q] at z
      exact .inl ⟨c',z⟩
    ·exact .inr (List.mem_cons_of_mem _ z)
  ·obtain ⟨cl,e1,e2,e3,e4,e5⟩:=ih acc (fun y hy=>hf y (List.mem_cons_of_mem _ hy)) h
   refine ⟨cl,?_,e2,fun y hy hyf=>?_,e4,fun y d e=>(e5 y d e).imp id fun z=>List.mem_cons_of_mem _ z⟩
   ·rw[List.forIn_cons]
    have:(k == NameKind.free)=false:=by simpa using hk
    simp only[this,Bool.false_eq_true,if_false,pure_bind]
    exact e1
   ·rcases List.mem_cons.mp hy with z|z
    ·subst z;exact absurd hyf hk
    ·exact e3 y z hyf
structure ClOf(cells:List (Str×Addr))(sc:Scope)(cl:List (Str×Addr)):Prop where
 of:∀ x c,cl.lookup x=some c->cells.lookup x=some c
 all:∀ x∈sc.names,x.2=.free->∃ c,cl.lookup x.1=some c
 only:∀ x c,cl.lookup x=some c->(x,NameKind.free)∈sc.names
theorem sT{env:Env}{scope:Scope}(hf:∀ x∈scope.names,x.2=.free->∃ c,env.cells.lookup x.1=some c) :
  ∃ cl,closureFor scope env=pure cl/\ClOf env.cells scope cl:=by
 obtain ⟨cl,e1,e2,e3,_,e5⟩:=w5 scope.names [] hf (fun x c e=>by simp at e)
 refine ⟨cl,?_,e2,e3,fun x c e=>?_⟩
 ·unfold closureFor
  first
   | exact e1
   | (rw[<-e1];rfl)
   | (simp only[bind_pure];exact e1)
 ·rcases e5 x c e with ⟨c',z⟩|z
  ·simp at z
  ·exact z
theorem y9{pos:Pos}{r:List Value}(l:List Value)(h:TriplesOk l):codeAmong pos (l++r)=(codeAmong pos l).or (codeAmong pos r):=by
 fun_induction TriplesOk l with
 | case1=>simp[codeAmong]
 | case2 a t b u x rest ih=>
  simp only[List.cons_append,codeAmong]
  split
  · rfl
  · exact ih h
 | case3 l h1 h2=>exact h.elim
structure Tb(mg:Str->Option Value)(base:Heap)(c0 P0:Addr):Prop where
 hd:PySem.W.CodeHd base c0 P0
 bt:∃ bm ob,mg "__builtins__"=some (.ref bm)/\bm≠builtinsNs/\base.get? bm=some ob/\ob.cls=.type "module"/\ob.dict=some builtinsNs/\ob.data=.plain
section
variable{X:Cx}{pins:List (Addr×Obj)}{σ:St}{H:Hp}{s:Shared}{c0 P0:Addr}{qs:List (Pos×Str)}{pos:Pos}{q:Str}
theorem zA{ps:Array Value}{c:Addr}{h h':Heap}(hk:HOk X.prog X.w H h)(hP:H P0=some (.tbl qs))(hps:h.get? P0=some (PySem.W.tabObj ps))(ht:TriplesOk ps.toList)(hall:∀ p∈qs,codeAmong p.1 ps.toList=none\/∃ c,codeAmong p.1 ps.toList=some (.ref c)/\H c=some (.cod p.2))
  (hu:∀ p∈qs,p.1.line=pos.line->p.1.col=pos.col->p.2=q) (hnf:codeAmong pos ps.toList=none) (hn:H c=none) (hx:Heap.ExtBut P0 h h') (hcr:h'.CodeRec (.ref c) q) (hP':h'.get? P0=some (PySem.W.tabObj (ps ++ #[rawInt pos.line,rawInt pos.col,.ref c]))) :
  HOk X.prog X.w (upd H c (.cod q)) h':=fun b u e=>by
 have hcP:P0≠c:=fun z=>by rw[<-z,hP] at hn;cases hn
 by_cases hb:b=c
 ·subst hb;rw[aW] at e;cases e;exact hcr
 ·rw[aH hb] at e
  by_cases hbP:b=P0
  ·subst hbP
   rw[hP] at e;cases e
   refine ⟨_,hP',?_,fun p hp=>?_⟩
   ·rw[Array.toList_append];exact TriplesOk_snoc _ _ _ _ ht
   ·rw[Array.toList_append,y9 _ ht]
    rcases hall p hp with z|⟨d,z,zd⟩
    ·rw[z]
     show (codeAmong p.1 [rawInt pos.line,rawInt pos.col,.ref c])=none\/_
     by_cases hq:p.1.line=pos.line/\p.1.col=pos.col
     ·refine .inr ⟨c,?_,?_⟩
      ·show codeAmong p.1 [rawInt pos.line,rawInt pos.col,.ref c]=_
       rw[<-hq.1,<-hq.2]
       exact codeAmong_snoc [] trivial rfl
      ·rw[hu p hp hq.1 hq.2];exact aW
     ·refine .inl ?_
      simp only[codeAmong,rawInt]
      rw[if_neg]
      simp only[Bool.and_eq_true,beq_iff_eq]
      intro z2
      exact hq ⟨by omega,by omega⟩
    ·refine .inr ⟨d,by rw[z];rfl,?_⟩
     rw[aH (a5 zd hn)];exact zd
  ·refine (hk b u e).stay (fun d v hd r=>hx d v ?_ r) (fun d r=>by rw[aH (a5 r hn)];exact r) (fun d _ r=>by rw[aH (a5 r hn)];exact r) fun d _ r=>by rw[aH (a5 r hn)];exact r
   rcases hd with z|z
   ·rw[z];exact hbP
   ·intro z2;rw[z2,hP] at z;cases z
def Mkd(H:Hp)(q:Str)(c:Addr)(H1:Hp):Prop:=(H c=some (.cod q)/\H1=H)\/(H c=none/\H1=upd H c (.cod q))
theorem vI {S : ClSt} {M : Model} {A : Around} {E : Value -> Shared -> Prop} {Q : Value -> Shared -> Prop} {firstLine : Nat} (I : Inv X pins σ H s) (hcode : X.env.code = .ref c0) (T : Tb X.mg X.base c0 P0) (hP : H P0 = some (.tbl qs)) (hq : (pos, S.qual) ∈ qs)
    (hu : ∀ p ∈ qs, p.1.line = pos.line -> p.1.col = pos.col -> p.2 = S.qual) (hfree : ∀ x ∈ S.scope.names, x.2 = .free -> ∃ c, X.env.cells.lookup x.1 = some c)
    (h : ∀ f c cl doc pm ct H1 s', Mkd H S.qual c H1 -> H1 f = none -> ClOf X.env.cells S.scope cl -> Inv X pins σ (upd H1 f (FnO f (S.obj cl doc pm c ct))) s' -> Q (.ref f) s') :
    wpAny M A (makeFunction S.name S.qual S.params S.body S.scope X.env [] [] [] pos firstLine) Q E s := by
  obtain ⟨cl, hcl, hco⟩ := sT hfree
  obtain ⟨ps, hps, ht, hall⟩ := (show bQ X.prog X.w H s.heap P0 (.tbl qs) from I.hok P0 _ hP)
  have C : PySem.W.CodeHd s.heap c0 P0 := T.hd.keeps I.bk
  have hg : s.heap.Ns mainGlobals X.mg := I.mod.glob.keeps I.bk
  have hgP : mainGlobals ≠ P0 := fun z => by
    obtain ⟨o, es, ep, e, hd, _⟩ := hg
    rw [z, hps] at e; cases e; cases hd
  obtain ⟨bm, ob, b1, b2, b3, b4, b5, b6⟩ := T.bt
  have b3' := I.bk _ _ b3
  have hbP : bm ≠ P0 := fun z => by rw [z, hps] at b3'; cases b3'; cases b4
  have hbG : bm ≠ mainGlobals := fun z => by
    obtain ⟨o, es, ep, e, hd, _⟩ := hg
    rw [z, e] at b3'; cases b3'; rw [hd] at b6; cases b6
  have hB : s.heap.BuiltinsAt X.mg P0 := ⟨bm, ob, b1, b2, hbG, hbP, b3', b4, b5, b6⟩
  rcases hall _ hq with hnf | ⟨c, hf, hc⟩
  · have fin : ∀ (c' : Addr) (ctv doc : Value) (h' : Heap) (tk : Tok), Heap.ExtBut P0 s.heap h' -> s.heap.objs.size <= c' -> c' < h'.objs.size -> h'.CodeRec (.ref c') S.qual -> h'.get? P0 = some (PySem.W.tabObj (ps ++ #[rawInt pos.line, rawInt pos.col, .ref c'])) ->
        Q (.ref h'.objs.size) { s with heap := h'.push (S.obj cl doc ((X.mg "__name__").getD .none) c' ctv), toks := tk } := by
      intro c' ctv doc h' tk hx hge hlt hrec htb
      have hn : H c' = none := I.hok.fresh hge
      have hok1 : HOk X.prog X.w (upd H c' (.cod S.qual)) h' := zA I.hok hP hps ht hall hu hnf hn hx hrec htb
      have hnf' : (upd H c' (.cod S.qual)) h'.objs.size = none := hok1.fresh (Nat.le_refl _)
      refine h h'.objs.size c' cl doc ((X.mg "__name__").getD .none) ctv _ _ (.inr ⟨hn, rfl⟩) hnf' hco ?_
      have ne : ∀ b o, H b = some o -> b ≠ c' /\ b ≠ h'.objs.size := fun b o e => ⟨a5 e hn, fun z => by
        rw [z] at e
        rw [aH (Nat.ne_of_gt hlt), e] at hnf'; cases hnf'⟩
      have nP : ∀ b, H b = none -> b ≠ P0 := fun b n z => by rw [z, hP] at n; cases n
      refine I.un ⟨fun b o e n _ _ => Heap.get?_push_of_some _ (hx b o (nP b n) e), fun b o e n _ _ => ⟨o.slots, Heap.get?_push_of_some _ (hx b o (nP b n) e)⟩, fun b o e n _ => ?_, fun b o e _ => ?_, fun b xs e => ?_, fun b o u e => ?_, fun b qs e => ?_⟩ ?_
      · have hb := Heap.lt_size e
        rw [aH (Nat.ne_of_lt (Nat.lt_of_lt_of_le hb (Nat.le_trans hge (Nat.le_of_lt hlt)))), aH (Nat.ne_of_lt (Nat.lt_of_lt_of_le hb hge))]; exact n
      · by_cases z : b = P0
        · subst z; exact ⟨_, Heap.get?_push_of_some _ htb⟩
        · exact ⟨o, Heap.get?_push_of_some _ (hx b o z e)⟩
      · rw [aH (ne b _ e).2, aH (ne b _ e).1]; exact e
      · rw [aH (ne b _ e).2, aH (ne b _ e).1]; exact e
      · rw [aH (ne b _ e).2, aH (ne b _ e).1]; exact e
      · exact hok1.laid (fun b u e => Heap.get?_push_of_some _ e) (Nat.le_refl _) (FnO.ok (Heap.get?_push_size _ rfl))
    obtain ⟨name, qual, params, body, scope⟩ := S
    cases body with
    | stmts body => exact PySem.W.makeFunction_K hcl I.ok.glob hg hcode C hps ht hnf hgP hB fin
    | expr body => exact PySem.W.kla_makeFunction hcl I.ok.glob hg hcode C hps ht hnf hgP hB fun c' ctv h' tk => fin c' ctv .none h' tk
  · have fin : ∀ (ctv doc : Value) (h' : Heap) (tk : Tok), (∀ b o, s.heap.get? b = some o -> h'.get? b = some o) -> s.heap.objs.size <= h'.objs.size ->
        Q (.ref h'.objs.size) { s with heap := h'.push (S.obj cl doc ((X.mg "__name__").getD .none) c ctv), toks := tk } := by
      intro ctv doc h' tk hk hsz
      refine h h'.objs.size c cl doc ((X.mg "__name__").getD .none) ctv H _ (.inl ⟨hc, rfl⟩) (I.hok.fresh hsz) hco ?_
      exact I.laid (fun b u e => Heap.get?_push_of_some _ (hk b u e)) hsz (FnO.ok (Heap.get?_push_size _ rfl))
    obtain ⟨name, qual, params, body, scope⟩ := S
    cases body with
    | stmts body => exact PySem.W.makeFunction_hit hcl I.ok.glob hg hcode C hps ht hf hB fin
    | expr body => exact PySem.W.kla_makeFunctionHit hcl I.ok.glob hg hcode C hps ht hf hB fun ctv h' tk => fin ctv .none h' tk
def tMk(cells:List (Str×Addr))(S:ClSt)(P0:Addr)(qs:List (Pos×Str)):TE:=fun σ H Q=>H P0=some (.tbl qs)/\∀ f c cl doc pm ct H1,Mkd H S.qual c H1->H1 f=none->ClOf cells S.scope cl->Q (.ref f) (upd H1 f (FnO f (S.obj cl doc pm c ct)))
theorem aF3{i:Nat}{x:Str}{params:Arguments}{body:List Stmt}{scope:Scope}(hcode:X.env.code=.ref c0)(T:Tb X.mg X.base c0 P0)(hqn:qualnameIn X.env x x=q)(hq:(pos,q)∈qs)
  (hu:∀ p∈qs,p.1.line=pos.line->p.1.col=pos.col->p.2=q) (hfree:∀ y∈scope.names,y.2=.free->X.env.kindOf y.1=some .cell\/X.env.kindOf y.1=some .free)
  (hd0:params.defaults=[]) (hk0:params.kw_defaults=[]) (ha:annTrees params none X.env=[])
  (hN:X.N.Nodup) (hi:X.N[i]? = some x) (hx:Loc X.env.scope x) (hf:X.fn x=true\/X.env.scope.names.lookup x=some .local:=by exact .inl rfl) :
  PS X (.FunctionDef x params body [] none [] scope none x pos) (i6 (tMk X.env.cells ⟨x,q,params,.stmts body,scope⟩ P0 qs) (g8 i)):=by
 intro pins s σ H D I h
 obtain ⟨hP,h⟩:=h
 refine PySem.W.nestDef_K hd0 hk0 ha ?_
 rw[hqn]
 refine vI (S:=⟨x,q,params,.stmts body,scope⟩) I hcode T hP hq hu (fun y hy hyf=>I.ok.has _ (hfree y hy hyf)) fun f c cl doc pm ct H1 s' hm hn hc I'=>?_
 exact nY I' hN hi hx (v:=.ref f) rfl (fun s'' I''=>⟨_,_,I'',h f c cl doc pm ct H1 hm hn hc⟩) hf
theorem aF4{params:Arguments}{body:Expr}{scope:Scope}(hcode:X.env.code=.ref c0)(T:Tb X.mg X.base c0 P0)(hqn:X.env.qual++("<lambda>":Str)=q)(hq:(pos,q)∈qs)
  (hu:∀ p∈qs,p.1.line=pos.line->p.1.col=pos.col->p.2=q) (hfree:∀ y∈scope.names,y.2=.free->X.env.kindOf y.1=some .cell\/X.env.kindOf y.1=some .free)
  (hdef:defaultsOf params X.env=([],[])) :
  PE X (.Lambda params body scope pos) (tMk X.env.cells ⟨"<lambda>",q,params,.expr body,scope⟩ P0 qs):=by
 intro pins s σ H Q I h
 obtain ⟨hP,h⟩:=h
 refine PySem.W.kla_eval hdef ?_
 rw[hqn]
 exact vI (S:=⟨"<lambda>",q,params,.expr body,scope⟩) I hcode T hP hq hu (fun y hy hyf=>I.ok.has _ (hfree y hy hyf)) fun f c cl doc pm ct H1 s' hm hn hc I'=>⟨.ref f,_,I',rfl,h f c cl doc pm ct H1 hm hn hc⟩
end
end L2
namespace L2
open PySem PySem.Spec PyProof.Rows
abbrev Cv:=List (Addr×Obj×V)
noncomputable def pub(cv:Cv)(H:Hp):Hp:=fun b=>match cv.lookup b with
 | some p=>some (dJ b p.1 p.2)
 | none=>H b
noncomputable def cK(cv:Cv):List Addr:=cv.map (·.1)
theorem fG{cv:Cv}{b:Addr}:b∈cK cv↔∃ p,cv.lookup b=some p:=by
 unfold cK
 induction cv with
 | nil=>simp
 | cons a r ih=>
  obtain ⟨x,p⟩:=a
  rw[List.map_cons,List.mem_cons,ih,List.lookup_cons]
  by_cases h:b=x
  ·subst h;simp
  ·rw[beq_false_of_ne h]
   simp[h]
theorem mB{cv:Cv}{H:Hp}{b:Addr}{p:Obj×V}(h:cv.lookup b=some p):pub cv H b=some (dJ b p.1 p.2):=by unfold pub;rw[h]
theorem dL{cv:Cv}{H:Hp}{b:Addr}(h:b∉cK cv):pub cv H b=H b:=by
 unfold pub
 cases e:cv.lookup b with
 | none=>rfl
 | some p=>exact absurd (fG.mpr ⟨p,e⟩) h
theorem iG{cv:Cv}{H:Hp}(hd:∀ b∈cK cv,H b=none):aG H (pub cv H):=fun b o e=>by
 rw[dL fun z=>by rw[hd b z] at e;cases e];exact e
theorem aCC{P:Program}{w:World}{fs:List Addr}{cv:Cv}{H H1:Hp}{h h':Heap}(hd:∀ b∈cK cv,H b=none)(hk:HOk P w (pub cv H) h)(un:Un fs [] (pub cv H) H1 h h')(hk1:HOk P w H1 h') :
  Un fs [] H (hid (cK cv) H1) h h'/\HOk P w (hid (cK cv) H1) h':=by
 have inn:∀ b,b∈cK cv->∃ o v,h.get? b=some o/\h'.get? b=some o/\H1 b=some (dJ b o v):=fun b hb=>by
  obtain ⟨⟨o,v⟩,e⟩:=fG.mp hb
  have z:=mB (H:=H) e
  have z1:=un.frzs b o _ z
  exact ⟨o,v,(dJ.get hk z).1,(dJ.get hk1 z1).1,z1⟩
 have out:∀ b u,H b=some u->b∉cK cv:=fun b u e z=>by rw[hd b z] at e;cases e
 refine ⟨⟨fun b o e n h1 h2=>?_,fun b o e n h1 h2=>?_,fun b o e n h2=>?_,un.there,fun b xs q=>?_,fun b o u q=>?_,fun b ps q=>?_⟩,fun b u e=>?_⟩
 ·by_cases hb:b∈cK cv
  ·obtain ⟨o',v,q1,q2,_⟩:=inn b hb
   rw[e] at q1;cases q1;exact q2
  ·exact un.keep b o e (by rw[dL hb];exact n) h1 h2
 ·by_cases hb:b∈cK cv
  ·obtain ⟨o',v,q1,q2,_⟩:=inn b hb
   rw[e] at q1;cases q1;exact ⟨o.slots,q2⟩
  ·exact un.slot b o e (by rw[dL hb];exact n) h1 h2
 ·by_cases hb:b∈cK cv
  ·exact kL hb
  ·rw[bC hb];exact un.free b o e (by rw[dL hb];exact n) h2
 ·have hb:=out b _ q
  rw[bC hb];exact un.tups b xs (by rw[dL hb];exact q)
 ·have hb:=out b _ q
  rw[bC hb];exact un.frzs b o u (by rw[dL hb];exact q)
 ·have hb:=out b _ q
  rw[bC hb];exact un.tbls b ps (by rw[dL hb];exact q)
 ·obtain ⟨e1,hb⟩:=lB e
  have ne:∀ c o,H1 c=some o->(∀ o' v,o≠dJ c o' v)->c∉cK cv:=fun c o q n z=>by
   obtain ⟨o',v,_,_,z1⟩:=inn c z
   rw[q] at z1;cases z1;exact n o' v rfl
  exact (hk1 b u e1).stay (fun _ _ _ q=>q) (fun c q=>by rw[bC (ne c _ q fun _ _ z=>nomatch z)];exact q) (fun c _ q=>by rw[bC (ne c _ q fun _ _ z=>nomatch z)];exact q) fun c _ q=>by rw[bC (ne c _ q fun _ _ z=>nomatch z)];exact q
structure PubRel(X:Cx)(σ:St)(H:Hp)(js:List Nat)(cv:Cv):Prop where
 at':∀ b o v,cv.lookup b=some (o,v)->∃ x j,j∈js/\X.N[j]? = some x/\X.env.cells.lookup x=some b/\σ[j]? = some (some v)
 all:∀ j∈js,∃ x c o v,X.N[j]? = some x/\X.env.cells.lookup x=some c/\σ[j]? = some (some v)/\cv.lookup c=some (o,v)
 free:∀ b∈cK cv,H b=none
 inj:∀ x y c,X.env.cells.lookup x=some c->X.env.cells.lookup y=some c->x=y
section
variable{X:Cx}{pins:List (Addr×Obj)}{σ:St}{H:Hp}{s:Shared}
def sU(X:Cx)(σ:St)(j:Nat):Prop:=∃ x v,X.N[j]? = some x/\X.env.kindOf x=some .cell/\X.fn x=true/\σ[j]? = some (some v)
theorem zB(I:Inv X pins σ H s):∀ (js:List Nat),(∀ j∈js,sU X σ j)->∃ cv,PubRel X σ H js cv/\∀ b o v,cv.lookup b=some (o,v)->(∃ u,s.heap.get? b=some o/\o.data=.cell (some u)/\aS v u)/\X.s₀.heap.objs.size<=b/\∃ x,X.env.cells.lookup x=some b
 | [],_=>⟨[],⟨fun b o v e=>by simp at e,fun j hj=>by simp at hj,fun b hb=>by simp[cK] at hb,I.ok.inj⟩,fun b o v e=>by simp at e⟩
 | j::js,hj=>by
  obtain ⟨cv,R,ok⟩:=zB I js fun j' h'=>hj j' (List.mem_cons_of_mem _ h')
  obtain ⟨x,v,hN,hk,hf,hv⟩:=hj j List.mem_cons_self
  obtain ⟨m,hn,hl⟩:=I.loc
  obtain ⟨u,r,l⟩:=hl j x v hN hv (.inr (.inl hk))
  rcases l with ⟨hk',_⟩|⟨_,c,hc,o,ho,hd⟩
  ·rw[hk] at hk';cases hk'
  ·have hcab:=I.ok.cab x c hf hc
   by_cases hin:c∈cK cv
   ·obtain ⟨⟨o',v'⟩,e⟩:=fG.mp hin
    obtain ⟨x',j',hj',hN',hc',hv'⟩:=R.at' c o' v' e
    have hxx:x=x':=I.ok.inj x x' c hc hc'
    subst hxx
    refine ⟨cv,⟨fun b o v e=>?_,fun k hk=>?_,R.free,R.inj⟩,ok⟩
    ·obtain ⟨x,j,h1,h2⟩:=R.at' b o v e
     exact ⟨x,j,List.mem_cons_of_mem _ h1,h2⟩
    ·rcases List.mem_cons.mp hk with z|z
     ·subst z
      obtain ⟨u2,r2,l2⟩:=hl j' x v' hN' hv' (.inr (.inl (by assumption)))
      obtain ⟨⟨u3,q1,q2,q3⟩,_⟩:=ok c o' v' e
      rw[ho] at q1;cases q1
      rw[hd] at q2
      have:u=u3:=by cases q2;rfl
      subst this
      have hvv:v=v':=aS.inj r q3
      subst hvv
      exact ⟨x,c,_,v,hN,hc,hv,e⟩
     ·exact R.all k z
   ·refine ⟨(c,o,v)::cv,⟨fun b o' v' e=>?_,fun k hk=>?_,fun b hb=>?_,R.inj⟩,fun b o' v' e=>?_⟩
    ·rw[List.lookup_cons] at e
     by_cases hb:b=c
     ·subst hb
      simp only[beq_self_eq_true] at e
      cases e
      exact ⟨x,j,List.mem_cons_self,hN,hc,hv⟩
     ·rw[beq_false_of_ne hb] at e
      obtain ⟨x,j,h1,h2⟩:=R.at' b o' v' e
      exact ⟨x,j,List.mem_cons_of_mem _ h1,h2⟩
    ·rcases List.mem_cons.mp hk with z|z
     ·subst z
      exact ⟨x,c,o,v,hN,hc,hv,by rw[List.lookup_cons];simp⟩
     ·obtain ⟨x',c',o',v',h1,h2,h3,h4⟩:=R.all k z
      refine ⟨x',c',o',v',h1,h2,h3,?_⟩
      rw[List.lookup_cons,beq_false_of_ne (show c'≠c from fun z=>by rw[z] at h4;exact hin (fG.mpr ⟨_,h4⟩))];exact h4
    ·have hb':b=c\/b∈cK cv:=by simpa[cK] using hb
     rcases hb' with z|z
     ·subst z;exact I.freeC x b hc
     ·exact R.free b z
    ·rw[List.lookup_cons] at e
     by_cases hb:b=c
     ·subst hb
      simp only[beq_self_eq_true] at e
      cases e
      exact ⟨⟨u,ho,hd,r⟩,hcab,x,hc⟩
     ·rw[beq_false_of_ne hb] at e
      exact ok b o' v' e
theorem aDA(I:Inv X pins σ H s){js:List Nat}{cv:Cv}(R:PubRel X σ H js cv)(ok:∀ b o v,cv.lookup b=some (o,v)->(∃ u,s.heap.get? b=some o/\o.data=.cell (some u)/\aS v u)/\X.s₀.heap.objs.size<=b/\∃ x,X.env.cells.lookup x=some b) :
  Env0 X.prog X.w X.K X.mg X.base X.A X.stack s (pub cv H) where
 frames:=I.ok.frames
 mod:=I.ok.mod
 bs:=fun b o e=>⟨(I.bs b o e).1,by
  rw[dL]
  ·exact (I.bs b o e).2
  ·intro z
   obtain ⟨⟨o',v⟩,q⟩:=fG.mp z
   have h1:=(ok b o' v q).2.1
   have h2:=Heap.lt_size e
   exact absurd (Nat.lt_of_lt_of_le h2 (Nat.le_trans I.ok.bsz h1)) (Nat.lt_irrefl _)⟩
 bsz:=Nat.le_trans I.ok.bsz I.sz
 funs:=I.stack
 frf:=fun b hb=>by
  rw[dL]
  ·exact I.stkFree b hb
  ·intro z
   obtain ⟨⟨o',v⟩,q⟩:=fG.mp z
   obtain ⟨_,h1,x,hx⟩:=ok b o' v q
   rcases List.mem_cons.mp (I.stkSub b hb) with z2|z2
   ·exact I.cne x b hx z2
   ·obtain ⟨_,o,ho,_⟩:=I.ok.funs.mem z2
    exact absurd (Nat.lt_of_lt_of_le (Heap.lt_size ho) h1) (Nat.lt_irrefl _)
 hok:=fun b u e=>by
  by_cases hb:b∈cK cv
  ·obtain ⟨⟨o,v⟩,q⟩:=fG.mp hb
   rw[mB q] at e;cases e
   obtain ⟨⟨u,h1,h2,h3⟩,_⟩:=ok b o v q
   exact dJ.ok h3 h1 h2
  ·rw[dL hb] at e
   exact (I.hok b u e).stay (fun _ _ _ q=>q) (fun c q=>iG R.free _ _ q) (fun c _ q=>iG R.free _ _ q) fun c _ q=>iG R.free _ _ q
 bare:=I.bare
def zC(X:Cx)(js:List Nat)(sp:Sp)(E:XK)(t:TA):TE:=fun σ H Q=>t σ H fun vs H1=>(∀ j∈js,sU X σ j)/\∀ cv,PubRel X σ H1 js cv->sp vs (pub cv H1) (fun v H2=>Q v (hid (cK cv) H2)) (fun c e H2=>E c e (hid (cK cv) H2)/\∀ a,e=some a->a∉cK cv)
theorem aF5{k:Nat}{x:Str}{ps:List Str}{sp:Sp}{E:XK}{p pos:Pos}{e:Expr}{es:List Expr}{t:TA}{js:List Nat}(C:Calls X.prog X.w X.K X.mg X.base (CXe X.prog X.w) k x ps sp)(hr:Room k X.A)(hg:Gl X x)(hx:jL (CXe X.prog X.w) X E)(ha:PA X (e::es) t)(hdb:(x == ("__debug__":Str))=false:=by decide)
  (he:starEach (e::es) X.env=(false,eval e X.env)::starEach es X.env:=by rfl) (hpl:(backTo pos (starEach es X.env)).any (·.1)=false:=by rfl):PE X (.Call (.Name x p) (e::es) [] pos) (zC X js sp E t):=by
 obtain ⟨f,fd,F,b,m,kp⟩:=C
 intro pins s σ H Q I h
 refine wpAny_Call_Name_kw (jE I hg m ?_ hdb)
 refine PySem.W.callWith_K (h₀:=X.base) I.ok.mod.kin kp (thn (ha pos pins s σ H _ I h) fun us s1 ⟨vs,H1,I1,r,hcs,q⟩=>⟨I1.kIn,?_⟩) he hpl
 obtain ⟨cv,R,ok⟩:=zB I1 js hcs
 have hsp:=q cv R
 have e0:=aDA I1 R ok
 have hl:us.length=ps.length:=by rw[<-r.length];exact F.len _ _ _ _ hsp
 have hb:=b s1 us I1.kIn (by simpa using hl)
 rw[List.append_nil] at hb
 refine wpAny_call (codeAny_mono (F.run X.A X.stack s1 _ ⟨us,[]⟩ us vs _ _ hr e0 hb r hsp) fun r' s' hq=>?_)
 cases r' with
 | error ev=>
  obtain ⟨e,C,od,H',rfl,os,bare,un,hok,hee,⟨vs',T,q1,q2,q3⟩,q4,q5⟩:=hq
  obtain ⟨un',hok'⟩:=aCC R.free e0.hok un hok
  refine hx pins σ H1 s1 (.ref e) s' I1 ⟨e,C,od,hid (cK cv) H',rfl,os,bare,un',hok',?_,⟨vs',T,q1,q2,fun t e1=>?_⟩,q4⟩
  ·rw[bC (q5 e rfl)];exact hee
  ·exact ⟨fR (q3 t e1).1,(q3 t e1).2⟩
 | ok fl=>
  cases fl with
  | ret u=>
   obtain ⟨v,H',os,bare,un,hok,rv,q'⟩:=hq
   obtain ⟨un',hok'⟩:=aCC R.free e0.hok un hok
   exact I1.after ⟨v,hid (cK cv) H',os,bare,un',hok',rv,q'⟩
  | next=>exact False.elim hq
  | brk=>exact False.elim hq
  | cont=>exact False.elim hq
end
end L2
namespace L2
open PySem PySem.Spec PyProof.Rows
noncomputable def sV(Ps:List Addr)(qs:List (Pos×Str)):Hp:=fun b=>if b∈Ps then some (.tbl qs) else none
def sW(mg:Str->Option Value)(h base:Heap)(T:Hp)(qs:List (Pos×Str))(xs:List Str):Prop:=
 ∀ x∈xs,∃ c0 P0,T P0=some (.tbl qs)/\Tb mg base c0 P0/\∀ f o fd,mg x=some (.ref f)->h.get? f=some o->o.data=.func fd->fd.code=.ref c0
theorem zD{P:Program}{w:World}{K:Frag}{mg mb:Str->Option Value}{CX:CXT}{k:Nat}{fa a:Addr}{fd:FuncData}{x:Str}{s₁:Shared}{vs:List Value}{ns:List Int}{qs:List (Pos×Str)}{xs:List Str}{tb:Str->Addr×Addr}
  (hT:∀ x∈xs,PySem.W.CodeHd s₁.heap (tb x).1 (tb x).2/\s₁.heap.get? (tb x).2=some (PySem.W.tabObj #[])) (hlk:∀ x∈xs,∀ f o fd,mg x=some (.ref f)->s₁.heap.get? f=some o->o.data=.func fd->fd.code=.ref (tb x).1)
  (hbt:∃ bm ob,mg "__builtins__"=some (.ref bm)/\bm≠builtinsNs/\s₁.heap.get? bm=some ob/\ob.cls=.type "module"/\ob.dict=some builtinsNs/\ob.data=.plain) (hNT:PySem.W.noTabs K=true)
  (KX:K.In s₁.heap) (hns:s₁.heap.Ns mainGlobals mg) (hb:s₁.heap.Ns builtinsNs mb) (hbb:∀ x:Str,x≠"__name__"->mb x=bootBuiltins x) (hlim:s₁.heap.NoLimit) (hg:s₁.gens = #[])
  (ha:s₁.heap.get? a=some {cls:=.type "list",data:=.seq vs.toArray}) (hi:IntsAre vs ns) (hl:ns.length<=sizeLine) (hr:Room k callerA)
  (F:∀ (base:Heap) (T:Hp),K.In base->base.Ns mainGlobals mg->sW mg s₁.heap base T qs xs->∃ sp,FnOk P w K mg base CX k fa fd [x] sp/\∀ H:Hp,aG T H->SqL K H a (ns.map V.int)->sp [.ref a] H (fun v _=>v=.bl true) fun _ _ _=>False) (hbind:∀ (s:Shared) (u:Value),BindsTo s fd ⟨[u],[]⟩ [(x,u)])
  (hCX:∀ H e s',CX [] H s₁ (fun _ _ _=>False) e s'->False) :
  codeAny (model P w) callerA (.call (.ref fa) ⟨[.ref a],[]⟩) (fun r s'=>r=.ok (.ret (.bool true))/\OldK s₁.heap s'.heap/\s'.os=s₁.os/\AllBare s'.gens) s₁:=by
 have rv:=qS hi
 have lenV:=hi.length
 let Ps:List Addr:=xs.map fun x=>(tb x).2
 have hPs:∀ b∈Ps,s₁.heap.get? b=some (PySem.W.tabObj #[])/\isCodeTable s₁.heap b:=fun b hb=>by
  obtain ⟨y,hy,rfl⟩:=List.mem_map.mp hb
  exact ⟨(hT y hy).2,((hT y hy).1.tab (hT y hy).2).isCodeTable⟩
 have haP:a∉Ps:=fun z=>by have:=(hPs a z).1;rw[ha] at this;cases this
 have hKP:∀ b∈Ps,K.lookup b=none:=fun b hb=>by
  cases e:K.lookup b with
  | none=>rfl
  | some o=>
   have e2:=KX b o e
   rw[(hPs b hb).1] at e2
   cases e2
   have h2:=List.all_eq_true.mp hNT (b,_) (PySem.W.mem_of_lookupK e)
   exact absurd (show false=true from h2) Bool.false_ne_true
 have core:∀ H:Hp,(∀ b∈Ps,H b=some (.tbl qs))->(∀ b,H b≠none->b=a\/b∈Ps)->(H a=none\/∃ o xs,H a=some (.frz o (.lst xs)))->SqL K H a (ns.map V.int)->HOk P w H s₁.heap->(H a≠none->K.lookup a=none)->
   codeAny (model P w) callerA (.call (.ref fa) ⟨[.ref a],[]⟩) (fun r s'=>r=.ok (.ret (.bool true))/\OldK s₁.heap s'.heap/\s'.os=s₁.os/\AllBare s'.gens) s₁:=by
  intro H hP hA hO hS hok hK
  have base_of:∀ {b:Addr} {o:Obj},s₁.heap.get? b=some o->H b=none->(kC s₁.heap H).get? b=some o:=fun e n=>aAL e n
  have free_of:∀ {b:Addr} {o:Obj},s₁.heap.get? b=some o->(∀ vs,o.data≠.seq vs)->o≠PySem.W.tabObj #[]->H b=none:=fun {b o} e d d2=>by
   cases q:H b with
   | none=>rfl
   | some u=>
    rcases hA b (by rw[q];simp) with e'|e'
    ·subst e'
     rw[ha] at e;cases e
     exact absurd rfl (d _)
    ·rw[(hPs b e').1] at e;cases e;exact absurd rfl d2
  have noA:∀ {b:Addr} {o:Obj} {es:Array DictEntry} {ep:Nat},s₁.heap.get? b=some o->o.data=.dict es ep->H b=none:=fun {b o es ep} e d=>free_of e (fun vs z=>by rw[d] at z;cases z) fun z=>by rw[z] at d;cases d
  have nsK:∀ {b:Addr} {m:Str->Option Value},s₁.heap.Ns b m->(kC s₁.heap H).Ns b m:=fun {b m} ⟨o,es,ep,e,d,r⟩=>⟨o,es,ep,base_of e (noA e d),d,r⟩
  have hKb:K.In (kC s₁.heap H):=fun b o e=>base_of (KX b o e) (by
   cases q:H b with
   | none=>rfl
   | some u=>
    rcases hA b (by rw[q];simp) with e'|e'
    ·subst e'
     rw[hK (by rw[q];simp)] at e;cases e
    ·rw[hKP b e'] at e;cases e)
  have hM:Mod K mg (kC s₁.heap H):=⟨hKb,nsK hns,⟨mb,nsK hb,hbb⟩,let ⟨mc,h1,h2⟩:=hlim;⟨mc,nsK h1,h2⟩⟩
  have e0:Env0 P w K mg (kC s₁.heap H) callerA [] s₁ H:=⟨rfl,hM,fun b o e=>aCS e,Nat.le_of_eq (yF _ _),trivial,fun b hb=>absurd (show b∈([]:List Addr) from hb) (by simp),hok,.of_eq hg⟩
  have hTL:sW mg s₁.heap (kC s₁.heap H) (sV Ps qs) qs xs:=fun y hy=>by
   refine ⟨(tb y).1,(tb y).2,if_pos (List.mem_map.mpr ⟨y,hy,rfl⟩),⟨?_,?_⟩,hlk y hy⟩
   ·obtain ⟨o,vs,file,tf,flags,tg,inF,text,tt,e1,r1,r2,r3⟩:=(hT y hy).1
    exact ⟨o,vs,file,tf,flags,tg,inF,text,tt,base_of e1 (free_of e1 (fun vs z=>by rw[r2] at z;cases z) fun z=>by rw[z] at r1;cases r1),r1,r2,r3⟩
   ·obtain ⟨bm,ob,b1,b2,b3,b4,b5,b6⟩:=hbt
    exact ⟨bm,ob,b1,b2,base_of b3 (free_of b3 (fun vs z=>by rw[b6] at z;cases z) fun z=>by rw[z] at b4;cases b4),b4,b5,b6⟩
  have hTH:aG (sV Ps qs) H:=fun b o e=>by
   unfold sV at e
   split at e
   ·rename_i hb;cases e;exact hP b hb
   ·cases e
  obtain ⟨sp,FO,hsp⟩:=F _ _ hKb (nsK hns) hTL
  refine codeAny_mono (FO.run callerA [] s₁ H ⟨[.ref a],[]⟩ [.ref a] [.ref a] _ _ hr e0 (hbind s₁ (.ref a)) (.cons rfl .nil) (hsp H hTH hS)) fun r s' h=>?_
  cases r with
  | error e=>exact (hCX H e s' h).elim
  | ok fl=>
   cases fl with
   | next=>exact False.elim h
   | brk=>exact False.elim h
   | cont=>exact False.elim h
   | ret u=>
    obtain ⟨v,H',os,bare,un,hok',r',q⟩:=h
    have q':v=.bl true:=q
    subst q'
    obtain rfl:u=Value.bool true:=r'
    have kept:∀ b o,s₁.heap.get? b=some o->b∉Ps->s'.heap.get? b=some o:=fun b o e hb=>by
     cases q:H b with
     | none=>exact un.keep b o e q (by intro z;exact absurd (show b∈([]:List Addr) from z) (by simp)) (by simp)
     | some u=>
      rcases hA b (by rw[q];simp) with z|z
      ·subst z
       rcases hO with z|⟨ob,xs,z⟩
       ·rw[q] at z;cases z
       ·have z2:=un.frzs b ob _ z
        obtain ⟨e1,_⟩:=hok b _ z
        obtain ⟨e2,_⟩:=hok' b _ z2
        rw[e] at e1;cases e1
        exact e2
      ·exact absurd z hb
    refine ⟨rfl,⟨fun b o e=>?_,fun b o e=>?_⟩,os,bare⟩
    ·by_cases hb:b∈Ps
     ·obtain ⟨ps,e2,_⟩:=(show bQ P w H' s'.heap b (.tbl qs) from hok' b _ (un.tbls b _ (hP b hb)))
      have e1:=(hPs b hb).1
      rw[e] at e1;cases e1
      exact .inr (.inl ⟨(hPs b hb).2,rfl,#[],ps,rfl,by rw[Array.empty_append];exact e2⟩)
     ·exact .inl (kept b o e hb)
    ·by_cases hb:b∈Ps
     ·obtain ⟨ps,e2,_⟩:=(show bQ P w H' s'.heap b (.tbl qs) from hok' b _ (un.tbls b _ (hP b hb)))
      exact ⟨_,e2⟩
     ·exact ⟨o,kept b o e hb⟩
 have tabOk:∀ (H:Hp) b,b∈Ps->bQ P w H s₁.heap b (.tbl qs):=fun H b hb=>⟨#[],(hPs b hb).1,trivial,fun p _=>.inl rfl⟩
 cases hk:K.lookup a with
 | some o=>
  have e:=KX a o hk
  rw[ha] at e
  cases e
  refine core (sV Ps qs) (fun b hb=>if_pos hb) (fun b z=>?_) (.inl (if_neg haP)) (.inr ⟨_,vs.toArray,_,hk,rfl,rfl,rfl,by rw[List.size_toArray,lenV];exact hl,by simpa using rv⟩) (fun b u z=>?_) fun z=>absurd (if_neg haP) z
  ·by_cases hb:b∈Ps
   ·exact .inr hb
   ·exact absurd (if_neg hb) z
  ·by_cases hb:b∈Ps
   ·have z':=(if_pos hb).symm.trans z
    cases z'
    exact tabOk _ b hb
   ·have z':=(if_neg hb).symm.trans z
    cases z'
 | none=>
  refine core (fun b=>if b=a then some (.frz {cls:=.type "list",data:=.seq vs.toArray} (.lst (ns.map V.int))) else sV Ps qs b) (fun b hb=>?_) (fun b z=>?_) (.inr ⟨_,_,if_pos rfl⟩) (.inl (.inr ⟨{cls:=.type "list",data:=.seq vs.toArray},if_pos rfl⟩)) (fun b u z=>?_) fun _=>hk
  ·rw[if_neg (show ¬ b=a from fun z=>haP (by rw[<-z];exact hb))];exact if_pos hb
  ·by_cases hb:b=a
   ·exact .inl hb
   ·rw[if_neg hb] at z
    by_cases hb2:b∈Ps
    ·exact .inr hb2
    ·exact absurd (if_neg hb2) z
  ·by_cases hb:b=a
   ·have z':=(if_pos hb).symm.trans z
    cases z'
    subst hb
    exact ⟨ha,by rw[List.length_map];exact hl,vs,_,rv,ha⟩
   ·have z':=(if_neg hb).symm.trans z
    by_cases hb2:b∈Ps
    ·have z2:=(if_pos hb2).symm.trans z'
     cases z2
     exact tabOk _ b hb2
    ·have z2:=(if_neg hb2).symm.trans z'
     cases z2
theorem aDB{p:Program}{loose:List Str}{mean:ExcName->Option Value}{mg mb:Str->Option Value}{h:Heap}(T:Top p loose mean mg mb h)(xs:List Str)(hx:∀ x∈xs,∃ d∈recsOf p,d.name=x) :
  ∃ tb:Str->Addr×Addr,(∀ x∈xs,PySem.W.CodeHd h (tb x).1 (tb x).2/\h.get? (tb x).2=some (PySem.W.tabObj #[]))/\∀ x∈xs,∀ f o fd,mg x=some (.ref f)->h.get? f=some o->o.data=.func fd->fd.code=.ref (tb x).1:=by
 have key:∀ x,∃ t:Addr×Addr,x∈xs->(PySem.W.CodeHd h t.1 t.2/\h.get? t.2=some (PySem.W.tabObj #[]))/\∀ f o fd,mg x=some (.ref f)->h.get? f=some o->o.data=.func fd->fd.code=.ref t.1:=fun x=>by
  by_cases hm:x∈xs
  ·obtain ⟨d,hd,rfl⟩:=hx x hm
   obtain ⟨a,o,fd,c,P',h1,h2,h3,h4,h5,h6⟩:=T.tab d hd
   refine ⟨(c,P'),fun _=>⟨⟨PySem.W.CodeHd.of h5 h6,h6.2⟩,fun f o' fd' e1 e2 e3=>?_⟩⟩
   rw[h1] at e1;cases e1
   rw[h2] at e2;cases e2
   rw[h3] at e3;cases e3
   exact h4
  ·exact ⟨(0,0),fun z=>absurd z hm⟩
 exact ⟨fun x=>(key x).choose,fun x hx=>((key x).choose_spec hx).1,fun x hx=>((key x).choose_spec hx).2⟩
theorem walk_ofT{l:PySem.W.OpenLaw}{n k:Nat}{q:Program}{loose:List Str}{XP:(Str->Option Value)->Heap->Prop}{YP:World->Heap->Prop}{d:DefRec}{K:Params->Frag}{CX:World->CXT}{x:Str}{qs:List (Pos×Str)}{xs:List Str}
  (hxs:∀ x∈xs,∃ d∈recsOf q,d.name=x) (hNT:∀ w:World,PySem.W.noTabs (K w.params)=true)
  (hn:l.most=some n) (hn2:n<=sizeLine) (hdf:d.params.defaults=[]) (hr:Room k callerA)
  (hY:∀ (w:World) (h:Heap),YP w h->(K w.params).In h)
  (F:∀ (w:World) (mg:Str->Option Value) (fa:Addr) (h:Heap),(K w.params).In h->h.Ns mainGlobals mg->mg d.name=some (.ref fa)->
   ∃ fd:FuncData,(∀ (s:Shared) (u:Value),BindsTo s fd ⟨[u],[]⟩ [(x,u)]) /\
    ∀ (base:Heap) (T:Hp),(K w.params).In base->base.Ns mainGlobals mg->sW mg h base T qs xs->∃ sp,FnOk l.prog w (K w.params) mg base (CX w) k fa fd [x] sp /\
     ∀ (H:Hp) (a:Addr) (ns:List Int),ns.length<=n->aG T H->SqL (K w.params) H a (ns.map V.int)->sp [.ref a] H (fun v _=>v=.bl true) fun _ _ _=>False)
  (hCX:∀ (w:World) (H:Hp) (s:Shared) (e:Value) (s':Shared),CX w [] H s (fun _ _ _=>False) e s'->False) :
  PySem.W.WalkO q loose XP YP l.row.toRowW d [] (fun f vs=>PySem.call f vs):=by
 refine Att.attach_call hn hdf fun w s₀ s₁ mg mb fa o pm cd doc a vs ns G Y ho hd hcd hmg hobj hints hlen hg=>?_
 have KX:=hY w _ Y
 obtain ⟨fd,hb,hF⟩:=F w mg fa _ KX G.T.g hmg
 obtain ⟨tb,hT,hlk⟩:=aDB G.T xs hxs
 refine zD (qs:=qs) hT hlk G.T.bmain (hNT w) KX G.T.g G.T.b G.T.builtins G.T.nolimit hg hobj hints (Nat.le_trans hlen hn2) hr (fun base T kb nb TL=>?_) hb fun H e s'=>hCX w H s₁ e s'
 obtain ⟨sp,FO,hs⟩:=hF base T kb nb TL
 exact ⟨sp,FO,fun H h1 h2=>hs H a ns hlen h1 h2⟩
end L2
namespace Fl
open PySem L2 PyProof.Rows
mutual
noncomputable def dS:PyData->Bool
 | .none=>true
 | .int _=>true
 | .str x=>PyData.strOk x
 | .tuple xs=>dE xs
 | _=>false
noncomputable def dE:List PyData->Bool
 | []=>true
 | x::t=>dS x && dE t
end
mutual
noncomputable def fN(w:World):PyData->Int
 | .none=>reduceHash 0xFCA86420
 | .int i=>hashInt i
 | .str x=>hashStr w x
 | .tuple xs=>reduceHash (Builtin.Tuple.tupleHashOf (jF w xs))
 | _=>0
noncomputable def jF(w:World):List PyData->List Int
 | []=>[]
 | x::t=>fN w x::jF w t
end
mutual
noncomputable def eQ:PyData->Nat
 | .tuple xs=>jN xs+1
 | _=>1
noncomputable def jN:List PyData->Nat
 | []=>0
 | x::t=>eQ x+jN t
end
mutual
theorem nB:∀ {d:PyData},dS d=true->d.canLay0=true
 | .none,_=>rfl
 | .int _,_=>rfl
 | .str x,h=>h
 | .tuple xs,h=>by
  have h':dE xs=true:=h
  exact sX h'
theorem sX:∀ {xs:List PyData},dE xs=true->PyData.canLayAll0 xs=true
 | [],_=>rfl
 | x::t,h=>by
  have h':(dS x && dE t)=true:=h
  rw[Bool.and_eq_true] at h'
  show (x.canLay0 && PyData.canLayAll0 t)=true
  rw[nB h'.1,sX h'.2];rfl
end
mutual
theorem pU:∀ {d e:PyData},dS d=true->dS e=true->(PyData.eqv d e=true↔d=e)
 | .none,e,_,he=>by cases e<;>simp[PyData.eqv]<;>cases he
 | .int i,e,_,he=>by cases e<;>simp[PyData.eqv]<;>cases he
 | .str x,e,_,he=>by cases e<;>simp[PyData.eqv]<;>cases he
 | .tuple xs,e,hd,he=>by
  have hd':dE xs=true:=hd
  cases e with
  | tuple ys=>
   have he':dE ys=true:=he
   have:=sY hd' he'
   show PyData.eqvAll xs ys=true↔_
   rw[this]
   exact ⟨fun z=>by rw[z],fun z=>by cases z;rfl⟩
  | _=>simp[PyData.eqv]<;>cases he
theorem sY:∀ {xs ys:List PyData},dE xs=true->dE ys=true->(PyData.eqvAll xs ys=true↔xs=ys)
 | [],ys,_,_=>by cases ys<;>simp[PyData.eqvAll]
 | x::t,ys,hx,hy=>by
  have hx':(dS x && dE t)=true:=hx
  rw[Bool.and_eq_true] at hx'
  cases ys with
  | nil=>simp[PyData.eqvAll]
  | cons y u=>
   have hy':(dS y && dE u)=true:=hy
   rw[Bool.and_eq_true] at hy'
   rw[PyData.eqvAll,Bool.and_eq_true,pU hx'.1 hy'.1,sY hx'.2 hy'.2]
   exact ⟨fun ⟨a,b⟩=>by rw[a,b],fun z=>by cases z;exact ⟨rfl,rfl⟩⟩
end
noncomputable instance decPyData:DecidableEq PyData:=fun a b=>Classical.propDecidable (a=b)
theorem aDC{d e:PyData}(hd:dS d=true)(he:dS e=true):PyData.eqv d e=decide (d=e):=by
 by_cases h:d=e
 ·rw[decide_eq_true h,(pU hd he).mpr h]
 ·rw[decide_eq_false h]
  cases q:PyData.eqv d e with
  | false=>rfl
  | true=>exact absurd ((pU hd he).mp q) h
end Fl
namespace Fl
open PySem L2 PyProof.Rows
theorem w6(xs:List PyData):eQ (.tuple xs)=jN xs+1:=by rw[eQ]
theorem qY(A:Around):A.in1.units=A.units+1:=rfl
def iW(prog:Program)(w:World)(E:Value->Shared->Prop)(d:PyData):Prop:=∀ (v:Value) (as:List Addr) (A:Around) (s:Shared) (Q:Int->Shared->Prop),dS d=true->Reads s.heap v d as->A.units+d.depth < cLine->Q (fN w d) {s with toks:=s.toks+eQ d}->
 wpAny (model prog w) A (pyHash v) Q E s
theorem aF6{prog:Program}{w:World}{E:Value->Shared->Prop}:∀ (xs:List PyData) (ih:∀ x∈xs,iW prog w E x) (vs:List Value) (as:List Addr) (A:Around) (s:Shared) (b:Array Int) (Q:Array Int->Shared->Prop),dE xs=true->ReadsAll s.heap vs xs as->A.units+PyData.depthAll xs < cLine->
  (∀ b',b'.toList=b.toList++jF w xs->Q b' {s with toks:=s.toks+jN xs})->
  wpAny (model prog w) A (forIn vs b fun x r=>do let h <-pyHash x;pure PUnit.unit;pure (ForInStep.yield (r.push h))) Q E s:=by
 intro xs
 induction xs with
 | nil=>
  intro ih vs as A s b Q _ x _ h
  cases x
  exact wpAny_pure (h b (by simp[jF]))
 | cons k xs ih0=>
  intro ih vs as A s b Q hk x hu h
  cases x with
  | @cons v vs _ _ as bs x1 x2=>
   have hk':(dS k && dE xs)=true:=hk
   rw[Bool.and_eq_true] at hk'
   have hu':A.units+max k.depth (PyData.depthAll xs) < cLine:=hu
   rw[List.forIn_cons]
   refine wpAny_bind (wpAny_bind (ih k List.mem_cons_self _ _ A s _ hk'.1 x1 (by omega) ?_))
   refine wpAny_bind (wpAny_pure (wpAny_pure ?_))
   refine ih0 (fun x hx=>ih x (List.mem_cons_of_mem _ hx)) _ _ A {s with toks:=s.toks+eQ k} _ Q hk'.2 x2 (by omega) fun b' hb=>?_
   have q:=h b' (by rw[hb];simp[jF])
   rw[show jN (k::xs)=eQ k+jN xs by rw[jN],<-Nat.add_assoc] at q
   exact q
end Fl
namespace Fl
open PySem L2 PyProof.Rows
theorem qZ(w:World)(i:Int):fN w (.int i)=hashInt i:=by rw[fN]
theorem q9(w:World)(i:Str):fN w (.str i)=hashStr w i:=by rw[fN]
theorem zE(w:World)(xs:List PyData):fN w (.tuple xs)=reduceHash (Builtin.Tuple.tupleHashOf (jF w xs)):=by rw[fN]
theorem w8(i:Int):eQ (.int i)=1:=by unfold eQ;rfl
theorem w9(i:Str):eQ (.str i)=1:=by unfold eQ;rfl
theorem aA1{prog:Program}{w:World}{E:Value->Shared->Prop}(i:Int):iW prog w E (.int i):=fun v as A s Q _ r _ h=>by
 rw[qZ,w8] at h
 cases r
 exact wpAny_pyHash_int h
theorem aA2{prog:Program}{w:World}{E:Value->Shared->Prop}(i:Str):iW prog w E (.str i):=fun v as A s Q _ r _ h=>by
 rw[q9,w9] at h
 cases r
 exact wpAny_pyHash_str h
theorem aA3{prog:Program}{w:World}{E:Value->Shared->Prop}(xs:List PyData)(ih:∀ x∈xs,iW prog w E x):iW prog w E (.tuple xs):=fun v as A s Q hk r hu h=>by
 rw[zE,w6] at h
 cases r with
 | @tuple a o vs n _ as h1 h2 h3 h4=>
  have hk':dE xs=true:=hk
  have hu':A.units+(PyData.depthAll xs+1) < cLine:=hu
  refine PySem.W.pyHash_slot (T:="tuple") ⟨o,h1,h2⟩ F.slot_tuple_hash F.entry_tuple_hash (F.args_tuple_hash_1 _) (beq_builtin_none _) (.inr (by omega)) ?_
  show wpAny _ _ (Builtin.Tuple.tupleItemsOf (.ref a) >>= _) _ _ s
  refine wpAny_bind (wpAny_tupleItemsOf h1 h3 ?_)
  refine wpAny_bind ?_
  rw[<-Array.forIn_toList]
  refine aF6 xs ih vs.toList as A.in1 s #[] _ hk' h4 (by rw[qY];omega) fun b hb=>?_
  show wpAny _ _ (retInt (Builtin.Tuple.tupleHashOf b.toList)) _ _ _
  rw[hb]
  exact wpAny_bind (wpAny_mkInt (wpAny_pure ⟨_,_,rfl,h⟩))
end Fl
namespace Fl
open PySem L2 PyProof.Rows
theorem xA(w:World):fN w .none=reduceHash 0xFCA86420:=by rw[fN]
theorem uY:eQ .none=1:=by unfold eQ;rfl
theorem aA4{prog:Program}{w:World}{E:Value->Shared->Prop}:iW prog w E .none:=fun v as A s Q _ r hu h=>by
 rw[xA,uY] at h
 generalize hg:reduceHash 0xFCA86420=g at h
 cases r
 refine PySem.W.pyHash_slot (T:="NoneType") rfl F.slot_NoneType_hash F.entry_NoneType_hash (F.args_NoneType_hash_1 _) (beq_builtin_none _) (.inr (by omega)) (wpAny_bind (wpAny_pure (wpAny_bind (wpAny_mkInt (wpAny_pure ⟨0xFCA86420,_,rfl,?_⟩)))))
 rw[hg]
 exact h
end Fl
namespace Fl
open PySem L2 PyProof.Rows
theorem aF7{prog:Program}{w:World}{E:Value->Shared->Prop}:∀ (n:Nat) (d:PyData),sizeOf d<=n->iW prog w E d:=by
 intro n
 induction n with
 | zero=>intro d h;cases d<;>simp at h
 | succ n ih=>
  intro d h
  cases d with
  | none=>exact aA4
  | int i=>exact aA1 i
  | str x=>exact aA2 x
  | tuple xs=>
   refine aA3 xs fun x hx=>ih x ?_
   have:=List.sizeOf_lt_of_mem hx
   simp only[PyData.tuple.sizeOf_spec] at h
   omega
  | bool b=>exact fun v as A s Q hk=>nomatch hk
  | list xs=>exact fun v as A s Q hk=>nomatch hk
  | dict xs=>exact fun v as A s Q hk=>nomatch hk
theorem aF8{prog:Program}{w:World}{E:Value->Shared->Prop}(d:PyData):iW prog w E d:=aF7 (sizeOf d) d (Nat.le_refl _)
theorem aDD{M:Model}{A:Around}{E:Value->Shared->Prop}{s:Shared}:∀ (n:Nat) (d:PyData) (v:Value) (as:List Addr) (Q:Bool->Shared->Prop),dS d=true->Reads s.heap v d as->d.depth<=n->Q true s->wpAny M A (eqIsQuiet n v) Q E s:=by
 intro n
 induction n with
 | zero=>
  intro d v as Q hk r hd h
  cases d with
  | none=>cases r;rw[eqIsQuiet_byValue _ rfl];exact wpAny_pure h
  | int i=>cases r;rw[eqIsQuiet_byValue _ rfl];exact wpAny_pure h
  | str x=>cases r;rw[eqIsQuiet_byValue _ rfl];exact wpAny_pure h
  | tuple xs=>
   have hd':PyData.depthAll xs+1<=0:=hd
   omega
  | bool b=>exact nomatch hk
  | list xs=>exact nomatch hk
  | dict xs=>exact nomatch hk
 | succ n ih=>
  intro d v as Q hk r hd h
  cases d with
  | none=>cases r;rw[eqIsQuiet_byValue _ rfl];exact wpAny_pure h
  | int i=>cases r;rw[eqIsQuiet_byValue _ rfl];exact wpAny_pure h
  | str x=>cases r;rw[eqIsQuiet_byValue _ rfl];exact wpAny_pure h
  | bool b=>exact nomatch hk
  | list xs=>exact nomatch hk
  | dict xs=>exact nomatch hk
  | tuple xs=>
   cases r with
   | @tuple a o vs m _ as h1 h2 h3 h4=>
    have hk':dE xs=true:=hk
    have hd':PyData.depthAll xs+1<=n+1:=hd
    have hT:s.TypeIs (.ref a) "tuple":=⟨o,h1,h2⟩
    unfold eqIsQuiet
    refine wpAny_bind (wpAny_specialOf hT F.slot_tuple_eq.lookup ?_)
    show wpAny _ _ (isInstance (.ref a) (.type "tuple") >>= _) _ _ s
    refine wpAny_bind (wpAny_isInstance hT isSubtype_tuple_tuple ?_)
    simp only[Bool.not_true,Bool.false_eq_true,if_false]
    refine wpAny_bind (wpAny_seqItems h1 h3 ?_)
    refine wpAny_bind ?_
    show wpAny _ _ (forIn vs _ _) _ _ s
    rw[<-Array.forIn_toList]
    refine wpAny_forIn_list _ (fun rest r s'=>r.1=none/\s'=s/\∃ ys bs,dE ys=true/\PyData.depthAll ys<=n/\ReadsAll s.heap rest ys bs) _ ?_ ?_ _ _ ⟨rfl,rfl,xs,_,hk',by omega,h4⟩
    ·rintro v rest r s' ⟨hr,rfl,ys,bs,hy,hdy,ry⟩
     cases ry with
     | @cons _ _ y yt cs ds r1 r2=>
      have hy':(dS y && dE yt)=true:=hy
      rw[Bool.and_eq_true] at hy'
      have hdy':max y.depth (PyData.depthAll yt)<=n:=hdy
      refine wpAny_bind (ih y v _ _ hy'.1 r1 (by omega) ?_)
      simp only[Bool.not_true,Bool.false_eq_true,if_false]
      exact wpAny_pure ⟨rfl,rfl,yt,_,hy'.2,by omega,r2⟩
    ·rintro ⟨r1,r2⟩ s' ⟨hr,rfl,_⟩
     simp only at hr
     subst hr
     exact wpAny_pure h
def aJ5(h:Heap)(d:PyData)(a:Addr):Prop:=dS d=true/\d.depth<=8/\∃ as,Reads h (.ref a) d as
theorem xB{h h':Heap}{a:Addr}{o:Obj}{es:Array DictEntry}{ep:Nat}(ho:h.get? a=some o)(hd:o.data=.dict es ep)(hs:Heap.SameBut a h h'){v:Value}{d:PyData}{as:List Addr}(hk:dS d=true)(r:Reads h v d as):Reads h' v d as:=by
 refine Reads.rec (motive_1:=fun v d as _=>dS d=true->Reads h' v d as) (motive_2:=fun vs xs as _=>dE xs=true->ReadsAll h' vs xs as) ?_ ?_ ?_ ?_ ?_ ?_ ?_ ?_ ?_ r hk
 ·exact fun _=>.none
 ·intro b hk;cases hk
 ·exact fun i t _=>.int i t
 ·exact fun i t _=>.str i t
 ·intro b o' vs n xs as h1 h2 h3 h4 ih hk;cases hk
 ·intro b o' vs n xs as h1 h2 h3 h4 ih hk
  exact .tuple ((hs.2 b (fun z=>by subst z;rw[ho] at h1;cases h1;rw[hd] at h3;cases h3)).trans h1) h2 h3 (ih hk)
 ·intro b o' es' n kvs as bs h1 h2 h3 h4 h5 i1 i2 hk;cases hk
 ·exact fun _=>.nil
 ·intro v vs d ds as bs r1 r2 i1 i2 hk
  exact .cons (i1 ((Bool.and_eq_true ..).mp hk).1) (i2 ((Bool.and_eq_true ..).mp hk).2)
noncomputable def gO(prog:Program)(w:World):HeapKind prog w PyData where
 is:=aJ5
 hash:=fN w
 draws:=eQ
 room:=fun A=>A.units+9 < cLine
 inj:=fun {h a x y} hx hy=>by
  obtain ⟨k1,_,as,r1⟩:=hx
  obtain ⟨k2,_,bs,r2⟩:=hy
  exact PySem.SeqAt.Reads.unique x y _ _ _ (nB k1) r1 r2
 keeps:=fun {h h' k a d o es ep} hx ho hd hs=>by
  obtain ⟨k1,k2,as,r1⟩:=hx
  exact ⟨k1,k2,as,xB ho hd hs k1 r1⟩
 pyHash:=fun {A E s k a Q} hu hk h=>by
  obtain ⟨k1,k2,as,r1⟩:=hk
  exact aF8 k _ as A s Q k1 r1 (by omega) h
 eqBool:=fun {A E s x y a b Q} hu hx hy h=>by
  obtain ⟨k1,k2,as,r1⟩:=hx
  obtain ⟨l1,l2,bs,r2⟩:=hy
  refine PySem.SeqAt.eqAt_reads x y A s _ _ as bs r1 r2 (nB k1) (nB l1) ?_ prog w E Q ?_
  ·have:min x.depth y.depth<=8:=Nat.le_trans (Nat.min_le_left _ _) k2
   omega
  ·rw[aDC k1 l1];exact h
 quiet:=fun {A E s k a Q} hk h=>by
  obtain ⟨k1,k2,as,r1⟩:=hk
  exact aDD 8 k _ as Q k1 r1 k2 h
end Fl
namespace Fl
open PySem L2 PyProof.Rows
abbrev Ent:=PyData×V×V
def nC(w:World)(p:Ent)(en:DictEntry):Prop:=en.hash=fN w p.1/\aS p.2.1 en.key/\aS p.2.2 en.val
def dP(w:World)(a:Addr)(es:List Ent)(ep:Nat):HO:=.ext fun h=>(a == sysModules)=false/\∃ o ar,h.get? a=some o/\o.ExactDict/\o.data=.dict ar ep/\Paired (nC w) es ar.toList
theorem jG{P:Program}{w:World}{H:Hp}{h:Heap}{a:Addr}{es:List Ent}{ep:Nat}(hd:(a == sysModules)=false)(hh:∃ o ar,h.get? a=some o/\o.ExactDict/\o.data=.dict ar ep/\Paired (nC w) es ar.toList):bQ P w H h a (dP w a es ep):=
 ⟨⟨hd,hh⟩,let ⟨o,_,e,_⟩:=hh;⟨o,e⟩,fun h1 h2 ⟨q,o,es,e,r⟩ kp=>⟨q,o,es,kp _ e,r⟩⟩
noncomputable def i7:PyData->Bool
 | .tuple xs=>dS (.tuple xs) && decide ((PyData.tuple xs).depth<=8)
 | _=>false
noncomputable def kD:PyData->Bool
 | .int _=>true
 | .str _=>true
 | _=>false
def b9(k:PyData)(ks:List PyData):Bool:=(i7 k && ks.all i7) || (kD k && ks.all kD)
theorem aDE{d:PyData}(h:i7 d=true):∃ xs,d=.tuple xs/\dS d=true/\d.depth<=8:=by
 cases d with
 | tuple xs=>
  have h':(dS (.tuple xs) && decide ((PyData.tuple xs).depth<=8))=true:=h
  rw[Bool.and_eq_true] at h'
  exact ⟨xs,rfl,h'.1,of_decide_eq_true h'.2⟩
 | _=>cases h
def g9:Key->PyData
 | .inl i=>.int i
 | .inr x=>.str x
theorem vJ{d:PyData}(h:kD d=true):∃ k,d=g9 k:=by
 cases d with
 | int i=>exact ⟨.inl i,rfl⟩
 | str i=>exact ⟨.inr i,rfl⟩
 | _=>cases h
theorem rA{a b:Key}(h:g9 a=g9 b):a=b:=by
 cases a<;>cases b<;>cases h<;>rfl
theorem vK{K:Frag}{H:Hp}{v:V}{k:Key}(h:DatV K H v (g9 k)):v=kV k:=by
 cases k with
 | inl i=>exact h.int_of
 | inr x=>exact h.str_of
theorem sZ{P:Program}{w:World}(k:Key):fN w (g9 k)=(cV P w).hash k:=by
 cases k with
 | inl i=>exact qZ w i
 | inr x=>exact q9 w x
def pV:Ent->(PyData×Addr×Value)->Prop:=fun e x=>e.1=x.1/\e.2.1=.ref x.2.1/\aS e.2.2 x.2.2
def pW:Ent->(Key×Value)->Prop:=fun e x=>e.1=g9 x.1/\e.2.1=kV x.1/\aS e.2.2 x.2
theorem zF{P:Program}{w:World}:∀ {es:List Ent} {ens:List DictEntry},Paired (nC w) es ens->(∀ e∈es,∃ b,e.2.1=.ref b)->∃ xs,ens=xs.map (entryOfKey (gO P w))/\Paired pV es xs
 | _,_,.nil,_=>⟨[],rfl,.nil⟩
 | e::es,en::ens,.cons h t,hb=>by
  obtain ⟨xs,h1,h2⟩:=zF (P:=P) t fun e he=>hb e (List.mem_cons_of_mem _ he)
  obtain ⟨b,hb'⟩:=hb e List.mem_cons_self
  obtain ⟨q1,q2,q3⟩:=h
  rw[hb'] at q2
  obtain ⟨hash,key,val⟩:=en
  have q2':key=Value.ref b:=q2
  have q1':hash=fN w e.1:=q1
  subst q2' q1'
  exact ⟨(e.1,b,val)::xs,by rw[List.map_cons,h1];rfl,.cons ⟨rfl,hb',q3⟩ h2⟩
theorem n5{P:Program}{w:World}:∀ {es:List Ent} {xs:List (PyData×Addr×Value)},Paired pV es xs->Paired (nC w) es (xs.map (entryOfKey (gO P w)))
 | _,_,.nil=>.nil
 | _,_,.cons h t=>.cons ⟨by rw[h.1];rfl,by rw[h.2.1];rfl,h.2.2⟩ (n5 t)
theorem zG{P:Program}{w:World}:∀ {es:List Ent} {ens:List DictEntry},Paired (nC w) es ens->(∀ e∈es,∃ k,e.1=g9 k/\e.2.1=kV k)->∃ xs,Pairs (cV P w) ens xs/\Paired pW es xs/\∀ en∈ens,∃ k,(cV P w).is k en.key=true/\en.hash=(cV P w).hash k
 | _,_,.nil,_=>⟨[],.nil,.nil,fun _ h=>by cases h⟩
 | e::es,en::ens,.cons h t,hb=>by
  obtain ⟨xs,h1,h2,h3⟩:=zG (P:=P) t fun e he=>hb e (List.mem_cons_of_mem _ he)
  obtain ⟨k,hk1,hk2⟩:=hb e List.mem_cons_self
  obtain ⟨q1,q2,q3⟩:=h
  have hi:(cV P w).is k en.key=true:=aCA (by rw[<-hk2];exact q2)
  refine ⟨(k,en.val)::xs,.cons hi rfl h1,.cons ⟨hk1,hk2,q3⟩ h2,fun en' hen=>?_⟩
  rcases List.mem_cons.mp hen with z|z
  · subst z; exact ⟨k, hi, by rw [q1, hk1, sZ (P := P)]⟩
  · exact h3 en' z
theorem aDF{P:Program}{w:World}{k:Key}{v:Value}(h:(cV P w).is k v=true):aS (kV k) v:=by
 rcases keyIs_shape h with ⟨i,t,rfl,rfl⟩|⟨x,t,rfl,rfl⟩
 · exact ⟨t, rfl⟩
 · exact ⟨t, rfl⟩
theorem n6{P:Program}{w:World}:∀ {es:List Ent} {xs:List (Key×Value)} {ens:List DictEntry},Paired pW es xs->Pairs (cV P w) ens xs->(∀ en∈ens,∃ k,(cV P w).is k en.key=true/\en.hash=(cV P w).hash k)->Paired (nC w) es ens
 | _,_,_,.nil,.nil,_=>.nil
 | _,_,_,.cons h t,.cons p1 p2 ps,hk=>by
  obtain ⟨k,hk1,hk2⟩:=hk _ List.mem_cons_self
  obtain rfl:=(cV P w).inj _ _ _ hk1 p1
  refine .cons ⟨by rw[hk2,h.1,sZ (P:=P)],by rw[h.2.1];exact aDF hk1,by rw[p2];exact h.2.2⟩ (n6 t ps fun en he=>hk en (List.mem_cons_of_mem _ he))
noncomputable def atE(es:List Ent)(k:PyData):Option V:=(es.find? fun e=>decide (e.1=k)).map (·.2.2)
noncomputable def kE(es:List Ent)(k:PyData)(kv v:V):List Ent:=if (atE es k).isSome then es.map (fun e=>if e.1=k then (e.1,e.2.1,v) else e) else es++[(k,kv,v)]
theorem mC{k:PyData}:∀ {es:List Ent} {xs:List (PyData×Addr×Value)},Paired pV es xs->i4 (atE es k) ((atKey xs k).map (·.2))
 | _,_,.nil=>trivial
 | e::es,x::xs,.cons h t=>by
  have ih:=mC (k:=k) t
  unfold atE atKey at ih ⊢
  rw[List.find?_cons,List.find?_cons,h.1]
  by_cases q:x.1=k
  · rw [decide_eq_true q]; exact h.2.2
  · rw [decide_eq_false q]; exact ih
theorem mD{k:Key}:∀ {es:List Ent} {xs:List (Key×Value)},Paired pW es xs->i4 (atE es (g9 k)) (valueAt xs k)
 | _,_,.nil=>trivial
 | e::es,x::xs,.cons h t=>by
  have ih:=mD (k:=k) t
  unfold atE valueAt at ih ⊢
  rw[List.find?_cons,List.find?_cons,h.1]
  by_cases q:x.1=k
  · rw [decide_eq_true q, decide_eq_true (by rw [q])]; exact h.2.2
  · rw [decide_eq_false q, decide_eq_false (fun z => q (rA z))]; exact ih
theorem gX{o:Option V}{u:Option Value}(h:i4 o u):o.isSome=u.isSome:=by
 cases o<;>cases u<;>first|rfl|exact h.elim
theorem lE{α β:Type}{f:α->β->Prop}{g:α->α}{k:β->β}(hg:∀ a b,f a b->f (g a) (k b)):∀ {xs:List α} {ys:List β},Paired f xs ys->Paired f (xs.map g) (ys.map k)
 | _,_,.nil=>.nil
 | _,_,.cons h t=>.cons (hg _ _ h) (lE hg t)
theorem lF{α β:Type}{f:α->β->Prop}{a:α}{b:β}(h:f a b):∀ {xs:List α} {ys:List β},Paired f xs ys->Paired f (xs++[a]) (ys++[b])
 | _,_,.nil=>.cons h .nil
 | _,_,.cons q t=>.cons q (lF h t)
theorem aCD{k:PyData}{b:Addr}{v:V}{u:Value}{es:List Ent}{xs:List (PyData×Addr×Value)}(r:aS v u)(h:Paired pV es xs):Paired pV (kE es k (.ref b) v) (storedH xs k b u):=by
 have q:=gX (mC (k:=k) h)
 rw[Option.isSome_map] at q
 unfold kE storedH
 rw[q]
 cases (atKey xs k).isSome with
 | true=>
  rw[if_pos rfl,if_pos rfl]
  refine lE (fun e x hx=>?_) h
  unfold putAt
  rw[hx.1]
  by_cases z:x.1=k
  · rw [if_pos z, if_pos z]; exact ⟨rfl, hx.2.1, r⟩
  · rw [if_neg z, if_neg z]; exact hx
 | false=>rw[if_neg (by decide),if_neg (by decide)];exact lF ⟨rfl,rfl,r⟩ h
theorem aCE{k:Key}:∀ {xs:List (Key×Value)},xs.any (fun kv=>decide (kv.1=k))=(valueAt xs k).isSome
 | []=>rfl
 | x::xs=>by
  have ih:=aCE (k:=k) (xs:=xs)
  unfold valueAt at ih ⊢
  rw[List.any_cons,List.find?_cons]
  by_cases q:x.1=k
  · rw [decide_eq_true q]; rfl
  · rw [decide_eq_false q, Bool.false_or]; exact ih
theorem aCF{k:Key}{v:V}{u:Value}{es:List Ent}{xs:List (Key×Value)}(r:aS v u)(h:Paired pW es xs):Paired pW (kE es (g9 k) (kV k) v) (stored xs k u):=by
 have q:=gX (mD (k:=k) h)
 unfold kE stored
 rw[q,aCE]
 cases (valueAt xs k).isSome with
 | true=>
  rw[if_pos rfl,if_pos rfl]
  refine lE (fun e x hx=>?_) h
  by_cases z:x.1=k
  · rw [if_pos z, if_pos (by rw [hx.1, z])]; exact ⟨by rw [hx.1], hx.2.1, r⟩
  · rw [if_neg z, if_neg (fun y => z (rA (hx.1.symm.trans y)))]; exact hx
 | false=>rw[if_neg (by decide),if_neg (by decide)];exact lF ⟨rfl,rfl,r⟩ h
section
variable{X:Cx}{pins:List (Addr×Obj)}{σ:L2.St}{H:Hp}{s:Shared}{a:Addr}{es:List Ent}{k:PyData}{kv v:V}{ku u:Value}{A:Around}{E:Value->Shared->Prop}
structure DicAt(X:Cx)(H:Hp)(a:Addr)(es:List Ent)(k:PyData)(kv:V):Prop where
 o:∃ ep,H a=some (dP X.w a es ep)
 ks:∀ e∈es,DatV X.K H e.2.1 e.1
 nd:(es.map (·.1)).Nodup
 dk:DatV X.K H kv k
 one:b9 k (es.map (·.1))=true
theorem o3{α β:Type}{f:α->β->Prop}{y:β}:∀ {xs:List α} {ys:List β},Paired f xs ys->y∈ys->∃ x,x∈xs/\f x y
 | _,_,.nil,h=>by cases h
 | _,_,.cons q t,h=>by
  rcases List.mem_cons.mp h with z|z
  ·subst z;exact ⟨_,List.mem_cons_self,q⟩
  ·obtain ⟨x,h1,h2⟩:=o3 t z
   exact ⟨x,List.mem_cons_of_mem _ h1,h2⟩
theorem lG{α β γ:Type}{f:α->β->Prop}{g:α->γ}{k:β->γ}(h:∀ a b,f a b->g a=k b):∀ {xs:List α} {ys:List β},Paired f xs ys->xs.map g=ys.map k
 | _,_,.nil=>rfl
 | _,_,.cons q t=>by rw[List.map_cons,List.map_cons,h _ _ q,lG h t]
theorem rB{α β:Type}{f:α->β}:∀ {xs:List α},(xs.map f).Nodup->xs.Nodup
 | [],_=>List.nodup_nil
 | x::t,h=>by
  rw[List.map_cons,List.nodup_cons] at h
  exact List.nodup_cons.mpr ⟨fun z=>h.1 (List.mem_map_of_mem z),rB h.2⟩
theorem DicAt.cases (D : DicAt X H a es k kv) (I : Inv X pins σ H s) (rk : aS kv ku) : (a == sysModules) = false /\
    ((∃ b xs, kv = .ref b /\ ku = .ref b /\ Paired pV es xs /\ (gO X.prog X.w).is s.heap k b /\ s.heap.DictOfH (gO X.prog X.w) a xs) \/
     (∃ kk xs, k = g9 kk /\ kv = kV kk /\ Paired pW es xs /\ (cV X.prog X.w).is kk ku = true /\ s.heap.DictOf (cV X.prog X.w) a xs)) := by
  obtain ⟨ep, hO⟩ := D.o
  obtain ⟨⟨hd, o, ar, h1, h2, h3, h4⟩, _, _⟩ := (show bQ X.prog X.w H s.heap a (dP X.w a es ep) from I.hok a _ hO)
  refine ⟨hd, ?_⟩
  have hone := D.one
  unfold b9 at hone
  rw [Bool.or_eq_true, Bool.and_eq_true, Bool.and_eq_true, List.all_eq_true, List.all_eq_true] at hone
  rcases hone with ⟨hk, ha⟩ | ⟨hk, ha⟩
  · have key : ∀ (d : PyData) (v : V), i7 d = true -> DatV X.K H v d -> ∃ b', v = .ref b' /\ (gO X.prog X.w).is s.heap d b' := fun d v hd hv => by
      obtain ⟨ws, rfl, q1, q2⟩ := aDE hd
      obtain ⟨b', vs, rfl, _, _⟩ := hv.tup_of
      obtain ⟨as, r⟩ := hv.reads I (u := .ref b') rfl
      exact ⟨b', rfl, q1, q2, as, r⟩
    obtain ⟨b, rfl, hkb⟩ := key _ _ hk D.dk
    cases (show ku = Value.ref b from rk)
    obtain ⟨xs, hx1, hx2⟩ := zF (P := X.prog) h4 fun e he => by
      obtain ⟨b', e1, _⟩ := key e.1 e.2.1 (ha _ (List.mem_map_of_mem he)) (D.ks e he)
      exact ⟨b', e1⟩
    refine .inl ⟨b, xs, rfl, rfl, hx2, hkb, o, ar, ep, h1, h2, h3, hx1, fun x hx => ?_, ?_⟩
    · obtain ⟨e, he, hex⟩ := o3 hx2 hx
      obtain ⟨b', e1, q⟩ := key e.1 e.2.1 (ha _ (List.mem_map_of_mem he)) (D.ks e he)
      rw [hex.2.1] at e1
      cases e1
      rw [<- hex.1]; exact q
    · rw [<- lG (g := fun e : Ent => e.1) (fun a b h => h.1) hx2]; exact D.nd
  · obtain ⟨kk, rfl⟩ := vJ hk
    have hkv := vK D.dk
    obtain ⟨xs, hx1, hx2, hx3⟩ := zG (P := X.prog) h4 fun e he => by
      obtain ⟨k', hk'⟩ := vJ (ha _ (List.mem_map_of_mem he))
      have q := D.ks e he
      rw [hk'] at q
      exact ⟨k', hk', vK q⟩
    refine .inr ⟨kk, xs, rfl, hkv, hx2, aCA (by rw [<- hkv]; exact rk), o, ar, ep, h1, h2, h3, fun en hen => hx3 en (by simpa using hen), hx1, ?_⟩
    have : es.map (·.1) = (xs.map (·.1)).map g9 := by rw [List.map_map]; exact lG (g := fun e : Ent => e.1) (fun a b h => h.1) hx2
    have nd := D.nd
    rw [this] at nd
    exact rB nd
theorem j3{A:Around}(hu:A.units+64 < cLine):(gO X.prog X.w).room A.in1:=by show A.in1.units+9 < cLine;rw[qY];omega
theorem aF9{Q:Value->Shared->Prop}(hu:A.units+64 < cLine)(D:DicAt X H a es k kv)(I:Inv X pins σ H s)(rk:aS kv ku)(h:∀ s',Inv X pins σ H s'->Q (.bool (atE es k).isSome) s'):wpAny (model X.prog X.w) A (compareOp .In ku (.ref a)) Q E s:=by
 obtain ⟨hd,⟨b,xs,rfl,rfl,hx,hk,dd⟩|⟨kk,xs,rfl,rfl,hx,hk,dd⟩⟩:=D.cases I rk
 ·refine wpAny_in_heap (j3 hu) hk hd dd ?_
  have q:=gX (mC (k:=k) hx)
  rw[Option.isSome_map] at q
  rw[<-q];exact h _ (I.tok _)
 ·refine wpAny_in_of hk hd dd.mapOf ?_
  rw[<-gX (mD (k:=kk) hx)];exact h _ (I.tok _)
theorem aDG{Q:Value->Shared->Prop}(hu:A.units+64 < cLine)(D:DicAt X H a es k kv)(I:Inv X pins σ H s)(rk:aS kv ku)(h:∀ s',Inv X pins σ H s'->Q (.bool (!(atE es k).isSome)) s'):wpAny (model X.prog X.w) A (compareOp .NotIn ku (.ref a)) Q E s:=by
 obtain ⟨hd,⟨b,xs,rfl,rfl,hx,hk,dd⟩|⟨kk,xs,rfl,rfl,hx,hk,dd⟩⟩:=D.cases I rk
 ·refine wpAny_notIn_heap (j3 hu) hk hd dd ?_
  have q:=gX (mC (k:=k) hx)
  rw[Option.isSome_map] at q
  rw[<-q];exact h _ (I.tok _)
 ·refine wpAny_notIn_of hk hd dd.mapOf ?_
  rw[<-gX (mD (k:=kk) hx)];exact h _ (I.tok _)
theorem aDH{Q:Value->Shared->Prop}(hu:A.units+64 < cLine)(D:DicAt X H a es k kv)(I:Inv X pins σ H s)(rk:aS kv ku)(hv:atE es k=some v)(h:∀ w' s',Inv X pins σ H s'->aS v w'->Q w' s'):wpAny (model X.prog X.w) A (getItem (.ref a) ku) Q E s:=by
 obtain ⟨hd,⟨b,xs,rfl,rfl,hx,hk,dd⟩|⟨kk,xs,rfl,rfl,hx,hk,dd⟩⟩:=D.cases I rk
 ·have q:=mC (k:=k) hx
  rw[hv] at q
  obtain ⟨w',hw,rw'⟩:=i4.some_of q
  obtain ⟨p,hp,hp2⟩:=Option.map_eq_some_iff.mp hw
  refine wpAny_getItem_heap (j3 hu) hk dd hp ?_
  rw[hp2];exact h w' _ (I.tok _) rw'
 ·have q:=mD (k:=kk) hx
  rw[hv] at q
  obtain ⟨w',hw,rw'⟩:=i4.some_of q
  exact wpAny_getItem_of hk dd.mapOf hw (h w' _ (I.tok _) rw')
theorem aDI{Q:Unit->Shared->Prop}(hu:A.units+64 < cLine)(D:DicAt X H a es k kv)(I:Inv X pins σ H s)(rk:aS kv ku)(rv:aS v u)(hz:es.length<=sizeLine)(h:∀ ep s',Inv X pins σ (upd H a (dP X.w a (kE es k kv v) ep)) s'->Q () s') :
  wpAny (model X.prog X.w) A (setItem (.ref a) ku u) Q E s:=by
 obtain ⟨hd,⟨b,xs,rfl,rfl,hx,hk,dd⟩|⟨kk,xs,rfl,rfl,hx,hk,dd⟩⟩:=D.cases I rk
 ·have hl:xs.length<=sizeLine:=by rw[<-Paired.length hx];exact hz
  refine wpAny_setItem_heap (hsz:=hl) (j3 hu) hk dd fun h' dd' hs=>?_
  obtain ⟨q',ar,ep,hq,h2,h3,h4,_,h5⟩:=dd'
  obtain ⟨ep0,hO⟩:=D.o
  refine h ep _ (m7 I (by rw[hO];exact True.intro) hs ⟨q',hq⟩ (jG hd ⟨q',ar,hq,h2,h3,?_⟩))
  rw[h4]
  exact n5 (aCD rv hx)
 ·have hl:xs.length<=sizeLine:=by rw[<-Paired.length hx];exact hz
  refine wpAny_setItem_pairs (hsz:=hl) hk dd fun h' dd' hs=>?_
  obtain ⟨q',ar,ep,hq,h2,h3,h4,h5,_⟩:=dd'
  obtain ⟨ep0,hO⟩:=D.o
  refine h ep _ (m7 I (by rw[hO];exact True.intro) hs ⟨q',hq⟩ (jG hd ⟨q',ar,hq,h2,h3,?_⟩))
  exact n6 (aCF rv hx) h5 fun en hen=>h4 en (by simpa using hen)
end
end Fl
namespace Fl
open PySem L2 PyProof.Rows
structure Er where
 c:Str
 fs:List (Str×PyData)
inductive R(α:Type) where
 | bad|ok (a:α)|ex (e:Er)
noncomputable def R.bind{α β:Type}:R α->(α->R β)->R β
 | .bad,_=>.bad
 | .ok a,f=>f a
 | .ex e,_=>.ex e
@[simp] theorem R.bind_ok{α β:Type}(a:α)(f:α->R β):(R.ok a).bind f=f a:=id rfl
@[simp] theorem R.bind_bad{α β:Type}(f:α->R β):(R.bad:R α).bind f=.bad:=id rfl
@[simp] theorem R.bind_ex{α β:Type}(e:Er)(f:α->R β):(R.ex e:R α).bind f=.ex e:=id rfl
inductive A where
 | d (x:PyData)|l (xs:List PyData)|m (kvs:List (PyData×PyData))|x (e:Er)|g (k n:Nat) (f:List PyData->R PyData)|k (q:Str)|f (kvs:List (PyData×PyData))
abbrev Sg:=List (Option A)
structure Gb where
 B:Addr->Hp->Nat->Nat->(List PyData->R PyData)->Prop
 T:Hp
 w:World
structure Ct where
 K:Frag
 mg:Str->Option Value
 w:World
 F0:Hp
 H0:Hp
 g:Gb
 cells:List (Str×Addr)
 cls:Str->Option ClSt
theorem s9{w:World}{p:Addr}{es:List Ent}{ep:Nat}{q:Str}(h:dP w p es ep=.cod q):False:=by unfold dP at h;cases h
theorem bN(H:Hp):aG H H:=fun _ _ h=>h
theorem b7{H H':Hp}(s:aG H H'){a:Addr}(h:H' a=none):H a=none:=by
 cases e:H a with
 | none=>rfl
 | some o=>rw[s a o e] at h;cases h
def j4(H:Hp)(a:Addr):Prop:=H a=none\/∃ q,H a=some (.cod q)
theorem j4.back{H H1:Hp}{a:Addr}(s:aG H H1)(h:j4 H1 a):j4 H a:=by
 cases e:H a with
 | none=>exact .inl e
 | some o=>
  have e1:=s a o e
  rcases h with z|⟨q,z⟩
  · rw [e1] at z; cases z
  · rw [e1] at z; cases z; exact .inr ⟨q, e⟩
structure Ext(F H F' H':Hp):Prop where
 hh:aG H H'
 ff:aG F F'
 fh:aG F' H'
 nw:∀ a,F a=none->F' a≠none->j4 H a
theorem Ext.refl{F H:Hp}(h:aG F H):Ext F H F H:=⟨bN H,bN F,h,fun a e n=>absurd e n⟩
theorem Ext.trans{F H F1 H1 F2 H2:Hp}(a:Ext F H F1 H1)(b:Ext F1 H1 F2 H2):Ext F H F2 H2:=
 ⟨fun x o e=>b.hh x o (a.hh x o e),fun x o e=>b.ff x o (a.ff x o e),b.fh,fun x e n=>by
  cases q:F1 x with
  | none=>exact (b.nw x q n).back a.hh
  | some o=>exact a.nw x e (by rw[q];exact fun z=>nomatch z)⟩
theorem Ext.stay{F H F' H':Hp}(s:Ext F H F' H'){p:Addr}{o:HO}(h3:F p=none)(h2:H p=some o)(hno:∀ q,o≠.cod q):F' p=none:=by
 cases q:F' p with
 | none=>rfl
 | some o=>
  rcases s.nw p h3 (by rw[q];exact fun z=>nomatch z) with z|⟨q',z⟩
  · rw [z] at h2; cases h2
  · rw [z] at h2; cases h2; exact absurd rfl (hno _)
theorem aA5{F H:Hp}{p:Addr}{o:HO}(s:aG F H):aG (upd F p o) (upd H p o):=fun a u e=>by
 by_cases q:a=p
 · subst q; rw [aW] at e ⊢; exact e
 · rw [aH q] at e ⊢; exact s a u e
theorem Ext.new{F H:Hp}{p:Addr}{o:HO}(s:aG F H)(hp:H p=none):Ext F H (upd F p o) (upd H p o):=
 ⟨aG.upd hp,aG.upd (b7 s hp),aA5 s,fun a e n=>by
  by_cases q:a=p
  · subst q; exact .inl hp
  · rw [aH q] at n; exact absurd e n⟩
theorem Ext.own{F H:Hp}{p:Addr}{o:HO}(s:aG F H)(hp:H p=none):Ext F H F (upd H p o):=
 ⟨aG.upd hp,bN F,fun a u e=>by
  rw[aH (a5 (s a u e) hp)];exact s a u e,fun a e n=>absurd e n⟩
def hJ(K:Frag)(mg:Str->Option Value)(F:Hp)(e:Er)(a C:Addr):Prop:=mg e.c=some (.ref C)/\∃ od,F a=some (ExO a C od)/\((e.fs=[]/\od=none)\/∃ d fvs,od=some d/\F d=some (.xd fvs)/\fvs.map (·.1)=e.fs.map (·.1)/\DatVs K F (fvs.map (·.2)) (e.fs.map (·.2)))
theorem hJ.same{K:Frag}{mg:Str->Option Value}{F F':Hp}{e:Er}{a C:Addr}(s:aG F F')(h:hJ K mg F e a C):hJ K mg F' e a C:=by
 obtain ⟨m,od,h1,h2⟩:=h
 refine ⟨m,od,s _ _ h1,h2.imp id ?_⟩
 rintro ⟨d,fvs,e1,e2,e3,e4⟩
 exact ⟨d,fvs,e1,s _ _ e2,e3,e4.same s⟩
structure MapRel(K:Frag)(F:Hp)(es:List Ent)(kvs:List (PyData×PyData)):Prop where
 k1:es.map (·.1)=kvs.map (·.1)
 k2:DatVs K F (es.map (·.2.1)) (kvs.map (·.1))
 vs:DatVs K F (es.map (·.2.2)) (kvs.map (·.2))
 nd:(kvs.map (·.1)).Nodup
theorem MapRel.same{K:Frag}{F F':Hp}{es:List Ent}{kvs:List (PyData×PyData)}(s:aG F F')(h:MapRel K F es kvs):MapRel K F' es kvs:=⟨h.k1,h.k2.same s,h.vs.same s,h.nd⟩
def AF(g:Gb)(K:Frag)(mg:Str->Option Value)(F:Hp):A->V->Prop
 | .d x,v=>DatV K F v x
 | .x e,v=>∃ a C,v=.ref a/\hJ K mg F e a C
 | .g k n G,v=>∃ f F1,v=.ref f/\aG F1 F/\g.B f F1 k n G
 | .f kvs,v=>∃ p es,v=.ref p/\(∃ ep,F p=some (dP g.w p es ep))/\MapRel K F es kvs
 | _,_=>False
theorem AF.same{g:Gb}{K:Frag}{mg:Str->Option Value}{F F':Hp}(s:aG F F'):∀ {a:A} {v:V},AF g K mg F a v->AF g K mg F' a v
 | .d x,v,h=>DatV.same s h
 | .x e,v,⟨a,C,h1,h2⟩=>⟨a,C,h1,h2.same s⟩
 | .g k n G,v,⟨f,F1,h1,h2,h3⟩=>⟨f,F1,h1,fun a o z=>s a o (h2 a o z),h3⟩
 | .f kvs,v,⟨p,es,h1,⟨ep,h2⟩,h3⟩=>⟨p,es,h1,⟨ep,s _ _ h2⟩,h3.same s⟩
noncomputable def A.own:A->Bool
 | .l _=>true
 | .m _=>true
 | _=>false
def AO(c:Ct)(F H:Hp):A->V->Prop
 | .l xs,v=>∃ p vs,v=.ref p/\H p=some (.lst vs)/\F p=none/\c.H0 p=none/\DatVs c.K F vs xs
 | .m kvs,v=>∃ p es,v=.ref p/\(∃ ep,H p=some (dP c.w p es ep))/\F p=none/\c.H0 p=none/\MapRel c.K F es kvs
 | .k q,v=>∃ S f cl doc pm cc ct,c.cls q=some S/\v=.ref f/\F f=some (FnO f (S.obj cl doc pm cc ct))/\F cc=some (.cod S.qual)/\ClOf c.cells S.scope cl
 | a,v=>AF c.g c.K c.mg F a v
theorem AO.ext{c:Ct}{F H F' H':Hp}(s:Ext F H F' H'):∀ {a:A} {v:V},AO c F H a v->AO c F' H' a v
 | .d x,v,h=>DatV.same s.ff h
 | .x e,v,h=>AF.same (g:=c.g) (K:=c.K) (mg:=c.mg) (a:=.x e) s.ff h
 | .g k n G,v,h=>AF.same (g:=c.g) (K:=c.K) (mg:=c.mg) (a:=.g k n G) s.ff h
 | .f kvs,v,h=>AF.same (g:=c.g) (K:=c.K) (mg:=c.mg) (a:=.f kvs) s.ff h
 | .k q,v,⟨S,f,cl,doc,pm,cc,ct,h0,h1,h2,h3,h4⟩=>⟨S,f,cl,doc,pm,cc,ct,h0,h1,s.ff _ _ h2,s.ff _ _ h3,h4⟩
 | .l xs,v,⟨p,vs,h1,h2,h3,h4,h5⟩=>⟨p,vs,h1,s.hh _ _ h2,s.stay h3 h2 (fun _ z=>nomatch z),h4,h5.same s.ff⟩
 | .m kvs,v,⟨p,vs,h1,⟨ep,h2⟩,h3,h4,h5⟩=>⟨p,vs,h1,⟨ep,s.hh _ _ h2⟩,s.stay h3 h2 (fun _ z=>s9 z),h4,h5.same s.ff⟩
theorem AO.at{c:Ct}{F H:Hp}{a:A}{v:V}(h:AO c F H a v)(o:a.own=true):∃ p o,v=.ref p/\H p=some o/\F p=none/\c.H0 p=none:=by
 cases a with
 | l xs=>obtain ⟨p,vs,h1,h2,h3,h4,h5⟩:=h;exact ⟨p,_,h1,h2,h3,h4⟩
 | m xs=>obtain ⟨p,vs,h1,⟨ep,h2⟩,h3,h4,h5⟩:=h;exact ⟨p,_,h1,h2,h3,h4⟩
 | d x=>cases o
 | x e=>cases o
 | g k n f=>cases o
 | k S=>cases o
 | f S=>cases o
theorem AO.off{c:Ct}{F H:Hp}{p:Addr}{o:HO}:∀ {a:A} {v:V},AO c F H a v->v≠.ref p->AO c F (upd H p o) a v
 | .l xs,v,⟨q,vs,h1,h2,h3,h4,h5⟩,n=>⟨q,vs,h1,by rw[aH (fun z=>n (by rw[h1,z]))];exact h2,h3,h4,h5⟩
 | .m xs,v,⟨q,vs,h1,⟨ep,h2⟩,h3,h4,h5⟩,n=>⟨q,vs,h1,⟨ep,by rw[aH (fun z=>n (by rw[h1,z]))];exact h2⟩,h3,h4,h5⟩
 | .d x,v,h,_=>h
 | .x e,v,h,_=>h
 | .g k n G,v,h,_=>h
 | .k S,v,h,_=>h
 | .f S,v,h,_=>h
structure Ab(c:Ct)(ρ:Sg)(σ:L2.St)(F H:Hp):Prop where
 len:ρ.length=σ.length
 fh:aG F H
 slot:∀ (i:Nat) (a:A),ρ[i]? = some (some a)->∃ v,σ[i]? = some (some v)/\AO c F H a v
 apart:∀ (i j:Nat) (a b:A),i≠j->ρ[i]? = some (some a)->ρ[j]? = some (some b)->a.own=true->b.own=true->σ[i]? ≠ σ[j]?
 f0:aG c.F0 F
 h0:aG c.H0 H
 n0:∀ a,c.F0 a=none->F a≠none->j4 c.H0 a
 t0:aG c.g.T c.F0
theorem Ab.all{c:Ct}{ρ:Sg}{σ:L2.St}{F H:Hp}(b:Ab c ρ σ F H):Ext c.F0 c.H0 F H:=⟨b.h0,b.f0,b.fh,b.n0⟩
theorem Ab.ext{c:Ct}{ρ:Sg}{σ:L2.St}{F H F' H':Hp}(b:Ab c ρ σ F H)(e:Ext F H F' H'):Ab c ρ σ F' H' where
 len:=b.len
 fh:=e.fh
 slot:=fun i a h=>let ⟨v,h1,h2⟩:=b.slot i a h;⟨v,h1,h2.ext e⟩
 apart:=b.apart
 f0:=fun x o h=>e.ff x o (b.f0 x o h)
 h0:=fun x o h=>e.hh x o (b.h0 x o h)
 n0:=fun a h n=>by
  cases q:F a with
  | none=>exact (e.nw a q n).back b.h0
  | some o=>exact b.n0 a h (by rw[q];exact fun z=>nomatch z)
 t0:=b.t0
def XW(c:Ct)(E:XK)(e:Er):Prop:=∀ a C F' H',Ext c.F0 c.H0 F' H'->hJ c.K c.mg F' e a C->E (.ref C) (some a) H'
def Rk{α:Type}(c:Ct)(E:XK)(F H:Hp)(r:R α)(k:α->Prop):Prop:=match r with
 | .bad=>False
 | .ok a=>k a
 | .ex e=>XW c E e
abbrev VR(α:Type):=α->V->Hp->Hp->Hp->Prop
def tV{α:Type}(Rel:VR α)(c:Ct)(E:XK)(f:Sg->R α):TE:=fun σ H Q=>∃ ρ F,Ab c ρ σ F H/\Rk c E F H (f ρ) fun d=>∀ v F' H',Ext F H F' H'->Rel d v H F' H'->Q v H'
def cM(c:Ct):VR PyData:=fun d v _ F _=>DatV c.K F v d
def aU(K:Frag)(F H:Hp)(v:V)(d:PyData):Prop:=DatV K F v d\/∃ p vs xs,v=.ref p/\d=.list xs/\H p=some (.lst vs)/\DatVs K F vs xs
def bI(c:Ct):VR PyData:=fun d v _ F H=>aU c.K F H v d
def aA6(c:Ct):VR A:=fun a v _ F _=>AF c.g c.K c.mg F a v
def xC(c:Ct):VR (List PyData):=fun xs v H F H'=>∃ p vs,v=.ref p/\H p=none/\H' p=some (.lst vs)/\F p=none/\DatVs c.K F vs xs
abbrev PD(X:Cx)(c:Ct)(E:XK)(e:Expr)(f:Sg->R PyData):Prop:=PE X e (tV (cM c) c E f)
abbrev PR(X:Cx)(c:Ct)(E:XK)(e:Expr)(f:Sg->R PyData):Prop:=PE X e (tV (bI c) c E f)
abbrev PV(X:Cx)(c:Ct)(E:XK)(e:Expr)(f:Sg->R A):Prop:=PE X e (tV (aA6 c) c E f)
abbrev PN(X:Cx)(c:Ct)(E:XK)(e:Expr)(f:Sg->R (List PyData)):Prop:=PE X e (tV (xC c) c E f)
theorem PE.imp{X:Cx}{e:Expr}{t t':TE}(h:PE X e t)(i:∀ σ H Q,t' σ H Q->t σ H Q):PE X e t':=fun pins s σ H Q I q=>h pins s σ H Q I (i σ H Q q)
theorem PT.imp{X:Cx}{e:Expr}{t t':TT}(h:PT X e t)(i:∀ σ H Q,t' σ H Q->t σ H Q):PT X e t':=fun pins s σ H Q I q=>h pins s σ H Q I (i σ H Q q)
theorem PS.imp{X:Cx}{e:Stmt}{t t':TS}(h:PS X e t)(i:∀ D σ H,t' D σ H->t D σ H):PS X e t':=fun pins s σ H D I q=>h pins s σ H D I (i D σ H q)
theorem PSs.imp{X:Cx}{e:List Stmt}{t t':TS}(h:PSs X e t)(i:∀ D σ H,t' D σ H->t D σ H):PSs X e t':=fun pins s σ H D I q=>h pins s σ H D I (i D σ H q)
def aCG{α:Type}(Rel:VR α):Prop:=∀ d v H F H1 F2 H2,Ext F H1 F2 H2->Rel d v H F H1->Rel d v H F2 H2
theorem aU.ext{K:Frag}{F H F' H':Hp}{v:V}{d:PyData}(e:Ext F H F' H')(h:aU K F H v d):aU K F' H' v d:=by
 rcases h with h|⟨p,vs,xs,h1,h2,h3,h4⟩
 · exact .inl (h.same e.ff)
 · exact .inr ⟨p, vs, xs, h1, h2, e.hh _ _ h3, h4.same e.ff⟩
theorem o4(c:Ct):aCG (bI c):=fun d v H F H1 F2 H2 e h=>aU.ext e h
theorem aU.heap{K:Frag}{F H:Hp}{v:V}{d:PyData}(s:aG F H)(h:aU K F H v d):DatV K H v d:=by
 rcases h with h|⟨p,vs,xs,h1,h2,h3,h4⟩
 · exact h.same s
 · subst h1 h2; exact .lst (SqL.of h3) (h4.same s)
section
variable{X:Cx}{c:Ct}{E:XK}{α β γ:Type}{Ra:VR α}{Rb:VR β}{Rc:VR γ}{σ:L2.St}{H:Hp}{Q:VK}
theorem Rk.ok{F:Hp}{a:α}{k:α->Prop}(h:Rk c E F H (.ok a) k):k a:=h
theorem Rk.imp{F:Hp}{r:R α}{k k':α->Prop}(h:Rk c E F H r k)(i:∀ a,r=.ok a->k a->k' a):Rk c E F H r k':=by
 cases r with
 | bad=>exact h
 | ok a=>exact i a rfl h
 | ex e=>exact h
theorem Rk.bind{F:Hp}{r:R α}{f:α->R β}{k:β->Prop}(h:Rk c E F H (r.bind f) k):Rk c E F H r fun a=>Rk c E F H (f a) k:=by
 cases r with
 | bad=>exact h
 | ok a=>exact h
 | ex e=>exact h
theorem Rk.ext{F F' H':Hp}{r:R α}{k:α->Prop}(e:Ext F H F' H')(h:Rk c E F H r k):Rk c E F' H' r k:=by
 cases r with
 | bad=>exact h
 | ok a=>exact h
 | ex x=>exact h
end
def xD{α:Type}(Rel:VR α):Prop:=∀ d v H H1 F' H',aG H H1->Rel d v H1 F' H'->Rel d v H F' H'
theorem j5(c:Ct):xD (cM c):=fun _ _ _ _ _ _ _ h=>h
section
variable{X:Cx}{c:Ct}{E:XK}{α β γ:Type}{Ra:VR α}{Rb:VR β}{Rc:VR γ}
def Op1(c:Ct)(Ra:VR α)(Rb:VR β)(g:α->R β)(r:V->Hp->VK->Prop):Prop:=
 ∀ (H0 F H:Hp) (a:α) (b:β) (v:V) (Q:VK),aG F H->Ra a v H0 F H->g a=.ok b->(∀ w F' H',Ext F H F' H'->Rb b w H F' H'->Q w H')->r v H Q
def Op2(c:Ct)(Ra:VR α)(Rb:VR β)(Rc:VR γ)(g:α->β->R γ)(r:R2):Prop:=
 ∀ (H0 H1 F H:Hp) (a:α) (b:β) (d:γ) (v u:V) (Q:VK),aG F H->Ra a v H0 F H->Rb b u H1 F H->g a b=.ok d->(∀ w F' H',Ext F H F' H'->Rc d w H F' H'->Q w H')->r v u H Q
def mE(g:α->R β):Prop:=∀ a e,g a≠.ex e
def dG(g:α->β->R γ):Prop:=∀ a b e,g a b≠.ex e
theorem tV1{f:Sg->R α}{g:α->R β}{r:V->Hp->VK->Prop}(ho:Op1 c Ra Rb g r)(hp:mE g)(kb:xD Rb){σ:L2.St}{H:Hp}{Q:VK}(h:tV Rb c E (fun ρ=>(f ρ).bind g) σ H Q) :
  tV Ra c E f σ H fun v H1=>r v H1 Q:=by
 obtain ⟨ρ,F,ab,h⟩:=h
 refine ⟨ρ,F,ab,(Rk.bind h).imp fun a ea q v F1 H1 e1 rv=>?_⟩
 cases eg:g a with
 | bad=>rw[eg] at q;exact q.elim
 | ex e=>exact absurd eg (hp a e)
 | ok b=>
  rw[eg] at q
  exact ho H F1 H1 a b v Q e1.fh rv eg fun w F' H' e2 rw'=>q w F' H' (e1.trans e2) (kb _ _ _ _ _ _ e1.hh rw')
theorem tV2{f:Sg->R α}{f':Sg->R β}{g:α->β->R γ}{r:R2}(ho:Op2 c Ra Rb Rc g r)(hp:dG g)(ka:aCG Ra)(kb:xD Rc){σ:L2.St}{H:Hp}{Q:VK}(h:tV Rc c E (fun ρ=>(f ρ).bind fun a=>(f' ρ).bind fun b=>g a b) σ H Q) :
  tOp r (tV Ra c E f) (tV Rb c E f') σ H Q:=by
 obtain ⟨ρ,F,ab,h⟩:=h
 refine ⟨ρ,F,ab,(Rk.bind h).imp fun a ea q v F1 H1 e1 rv=>?_⟩
 refine ⟨ρ,F1,ab.ext e1,((Rk.bind q).ext e1).imp fun b eb q u F2 H2 e2 ru=>?_⟩
 cases eg:g a b with
 | bad=>rw[eg] at q;exact q.elim
 | ex e=>exact absurd eg (hp a b e)
 | ok d=>
  rw[eg] at q
  exact ho H H1 F2 H2 a b d v u Q e2.fh (ka _ _ _ _ _ _ _ e2 rv) ru eg fun w F' H' e3 rw'=>q w F' H' ((e1.trans e2).trans e3) (kb _ _ _ _ _ _ (fun x o z=>e2.hh x o (e1.hh x o z)) rw')
end
end Fl
namespace Fl
open PySem L2 PyProof.Rows
section
variable{K:Frag}{F H:Hp}{v:V}
theorem DatV.bl_of{b:Bool}(h:DatV K H v (.bool b)):v=.bl b:=by cases h;rfl
theorem DatV.non_of(h:DatV K H v .none):v=.non:=by cases h;rfl
theorem aU.int_of{i:Int}(h:aU K F H v (.int i)):v=.int i:=by
 rcases h with h|⟨_,_,_,_,h,_⟩
 · exact h.int_of
 · cases h
theorem aU.str_of{i:Str}(h:aU K F H v (.str i)):v=.str i:=by
 rcases h with h|⟨_,_,_,_,h,_⟩
 · exact h.str_of
 · cases h
theorem aU.bl_of{i:Bool}(h:aU K F H v (.bool i)):v=.bl i:=by
 rcases h with h|⟨_,_,_,_,h,_⟩
 · exact DatV.bl_of h
 · cases h
theorem aU.non_of(h:aU K F H v .none):v=.non:=by
 rcases h with h|⟨_,_,_,_,h,_⟩
 · exact DatV.non_of h
 · cases h
theorem aU.tup_of{xs:List PyData}(s:aG F H)(h:aU K F H v (.tuple xs)):∃ a vs,v=.ref a/\SqT K F a vs/\SqT K H a vs/\DatVs K F vs xs:=by
 rcases h with h|⟨_,_,_,_,h,_⟩
 ·obtain ⟨a,vs,h1,h2,h3⟩:=h.tup_of
  exact ⟨a,vs,h1,h2,h2.same s,h3⟩
 ·cases h
theorem aU.lst_of{xs:List PyData}(s:aG F H)(h:aU K F H v (.list xs)):∃ a vs,v=.ref a/\SqL K H a vs/\DatVs K F vs xs:=by
 rcases h with h|⟨p,vs,ys,h1,h2,h3,h4⟩
 ·obtain ⟨a,vs,h1,h2,h3⟩:=h.lst_of
  exact ⟨a,vs,h1,h2.same s,h3⟩
 ·cases h2
  exact ⟨p,vs,h1,SqL.of h3,h4⟩
theorem tD{vs:List V}{xs:List PyData}{i:Int}{d:PyData}(h:DatVs K F vs xs)(e:atI xs i=some d):∃ x,atI vs i=some x/\DatV K F x d:=by
 unfold atI at e ⊢
 rw[h.length]
 cases q:ixN xs.length i with
 | none=>rw[q] at e;cases e
 | some j=>
  rw[q] at e
  exact h.get' (i:=j) e
end
noncomputable def eV(i:Nat):Sg->R PyData:=fun ρ=>match ρ[i]? with
 | some (some (.d x))=>.ok x
 | _=>.bad
noncomputable def rV(i:Nat):Sg->R PyData:=fun ρ=>match ρ[i]? with
 | some (some (.d x))=>.ok x
 | some (some (.l xs))=>.ok (.list xs)
 | _=>.bad
noncomputable def vV(i:Nat):Sg->R A:=fun ρ=>match ρ[i]? with
 | some (some (.d x))=>.ok (.d x)
 | some (some (.x e))=>.ok (.x e)
 | some (some (.g k n f))=>.ok (.g k n f)
 | some (some (.f kvs))=>.ok (.f kvs)
 | _=>.bad
def eC(d:PyData):Sg->R PyData:=fun _=>.ok d
section
variable{X:Cx}{c:Ct}{E:XK}{e a b:Expr}
theorem cN{i:Nat}(h:PE X e (i5 i)):PD X c E e (eV i):=PE.imp h fun σ H Q ⟨ρ,F,ab,k⟩=>by
 unfold eV at k
 split at k
 ·rename_i x hx
  obtain ⟨v,h1,h2⟩:=ab.slot i _ hx
  exact ⟨v,h1,k v F H (Ext.refl ab.fh) h2⟩
 ·exact k.elim
theorem aC{i:Nat}(h:PE X e (i5 i)):PR X c E e (rV i):=PE.imp h fun σ H Q ⟨ρ,F,ab,k⟩=>by
 unfold rV at k
 split at k
 ·rename_i x hx
  obtain ⟨v,h1,h2⟩:=ab.slot i _ hx
  exact ⟨v,h1,k v F H (Ext.refl ab.fh) (.inl h2)⟩
 ·rename_i x hx
  obtain ⟨v,h1,p,vs,h2,h3,h4,h5,h6⟩:=ab.slot i _ hx
  exact ⟨v,h1,k v F H (Ext.refl ab.fh) (.inr ⟨p,vs,x,h2,rfl,h3,h6⟩)⟩
 ·exact k.elim
theorem aX{i:Nat}(h:PE X e (i5 i)):PV X c E e (vV i):=PE.imp h fun σ H Q ⟨ρ,F,ab,k⟩=>by
 unfold vV at k
 split at k
 ·rename_i x hx
  obtain ⟨v,h1,h2⟩:=ab.slot i _ hx
  exact ⟨v,h1,k v F H (Ext.refl ab.fh) h2⟩
 ·rename_i x hx
  obtain ⟨v,h1,h2⟩:=ab.slot i _ hx
  exact ⟨v,h1,k v F H (Ext.refl ab.fh) h2⟩
 ·rename_i kk nn ff hx
  obtain ⟨v,h1,h2⟩:=ab.slot i _ hx
  exact ⟨v,h1,k v F H (Ext.refl ab.fh) h2⟩
 ·rename_i kvs hx
  obtain ⟨v,h1,h2⟩:=ab.slot i _ hx
  exact ⟨v,h1,k v F H (Ext.refl ab.fh) h2⟩
 ·exact k.elim
theorem fS{v:V}{d:PyData}(h:PE X e (tC v))(hd:∀ F,DatV c.K F v d):PD X c E e (eC d):=PE.imp h fun σ H Q ⟨ρ,F,ab,k⟩=>k v F H (Ext.refl ab.fh) (hd F)
theorem aD{i j pos}:PD X c E (.Constant (.int i) j pos) (eC (.int i)):=fS aFC fun _=>.int i
theorem iP{i j pos}:PD X c E (.Constant (.bool i) j pos) (eC (.bool i)):=fS aH4 fun _=>.bl i
theorem iX{i j pos}:PD X c E (.Constant (.str i) j pos) (eC (.str i)):=fS sD fun _=>.str i
theorem aB{f:Sg->R PyData}(h:PD X c E e f):PR X c E e f:=PE.imp h fun σ H Q ⟨ρ,F,ab,k⟩=>⟨ρ,F,ab,k.imp fun d _ q v F' H' s r=>q v F' H' s (.inl r)⟩
def vD(f:Sg->R PyData):Sg->R A:=fun ρ=>(f ρ).bind fun x=>.ok (.d x)
theorem aY{f:Sg->R PyData}(h:PD X c E e f):PV X c E e (vD f):=PE.imp h fun σ H Q ⟨ρ,F,ab,k⟩=>⟨ρ,F,ab,(Rk.bind k).imp fun d _ q v F' H' s r=>Rk.ok q v F' H' s r⟩
def getD:A->R PyData
 | .d x=>.ok x
 | _=>.bad
def eA(f:Sg->R A):Sg->R PyData:=fun ρ=>(f ρ).bind getD
theorem dU{f:Sg->R A}(h:PV X c E e f):PD X c E e (eA f):=PE.imp h fun σ H Q ⟨ρ,F,ab,k⟩=>⟨ρ,F,ab,(Rk.bind k).imp fun d _ q v F' H' s r=>by
 cases d with
 | d x=>exact Rk.ok q v F' H' s r
 | _=>exact False.elim q⟩
def eL(f:Sg->R (List PyData)):Sg->R PyData:=fun ρ=>(f ρ).bind fun xs=>.ok (.list xs)
theorem gI{f:Sg->R (List PyData)}(h:PN X c E e f):PD X c E e (eL f):=PE.imp h fun σ H Q ⟨ρ,F,ab,k⟩=>⟨ρ,F,ab,(Rk.bind k).imp fun xs _ q v F' H' s r=>by
 obtain ⟨p,vs,h1,h2,h3,h4,h5⟩:=r
 subst h1
 refine Rk.ok q (.ref p) (upd F' p (.lst vs)) H' ⟨s.hh,fun a o z=>?_,fun a o z=>?_,fun a z n=>?_⟩ (.lst (SqL.of aW) (h5.same (aG.upd h4)))
 ·rw[aH (a5 (s.ff a o z) h4)];exact s.ff a o z
 ·by_cases w:a=p
  · subst w; rw [aW] at z; rw [h3]; exact z
  · rw [aH w] at z; exact s.fh a o z
 ·by_cases w:a=p
  · subst w; exact .inl h2
  · rw [aH w] at n; exact s.nw a z n⟩
def e1{α β:Type}(g:α->R β)(f:Sg->R α):Sg->R β:=fun ρ=>(f ρ).bind g
def e2{α β γ:Type}(g:α->β->R γ)(f:Sg->R α)(f':Sg->R β):Sg->R γ:=fun ρ=>(f ρ).bind fun x=>(f' ρ).bind fun y=>g x y
noncomputable def bE:PyData->PyData->R PyData
 | .int i,.int j=>.ok (.int (i+j))
 | .str x,.str y=>if x.length+y.length<=sizeLine then .ok (.str (x++y)) else .bad
 | .tuple xs,.tuple ys=>if xs.isEmpty=false/\xs.length+ys.length<=sizeLine then .ok (.tuple (xs++ys)) else .bad
 | _,_=>.bad
def dSub:PyData->PyData->R PyData
 | .int i,.int j=>.ok (.int (i - j))
 | _,_=>.bad
noncomputable def dMul:PyData->PyData->R PyData
 | .int i,.int j=>if (-18446744073709551616 < i/\i < 18446744073709551616)\/(-18446744073709551616 < j/\j < 18446744073709551616) then .ok (.int (i * j)) else .bad
 | _,_=>.bad
def dDiv:PyData->PyData->R PyData
 | .int i,.int j=>if 0 < j/\j < 18446744073709551616 then .ok (.int (i / j)) else .bad
 | _,_=>.bad
def dMod:PyData->PyData->R PyData
 | .int i,.int j=>if 0 < j then .ok (.int (i % j)) else .bad
 | _,_=>.bad
def dNeg:PyData->R PyData
 | .int i=>.ok (.int (-i))
 | _=>.bad
def dLt:PyData->PyData->R PyData
 | .int i,.int j=>.ok (.bool (decide (i < j)))
 | _,_=>.bad
def dLe:PyData->PyData->R PyData
 | .int i,.int j=>.ok (.bool (decide (i<=j)))
 | _,_=>.bad
def dGt:PyData->PyData->R PyData
 | .int i,.int j=>.ok (.bool (decide (j < i)))
 | _,_=>.bad
def dGe:PyData->PyData->R PyData
 | .int i,.int j=>.ok (.bool (decide (j<=i)))
 | _,_=>.bad
def dEq(x y:PyData):R PyData:=if SeqAt.shaped x=true/\SeqAt.shaped y=true then .ok (.bool (PyData.eqv x y)) else .bad
def dNe(x y:PyData):R PyData:=if SeqAt.shaped x=true/\SeqAt.shaped y=true then .ok (.bool (!PyData.eqv x y)) else .bad
def iQ:PyData->Bool
 | .none=>true
 | _=>false
def dIs(x y:PyData):R PyData:=if iQ y=true then .ok (.bool (iQ x)) else .bad
def aIH(x y:PyData):R PyData:=if iQ y=true then .ok (.bool (!iQ x)) else .bad
noncomputable def inD:PyData->PyData->Option Bool
 | .str i,.str j=>some (!(Builtin.Str.occurrences j i 0 j.length 1).isEmpty)
 | x,.list xs=>if SeqAt.shaped x=true/\SeqAt.shaped (.list xs)=true then some (xs.any fun y=>PyData.eqv y x) else none
 | x,.tuple xs=>if SeqAt.shaped x=true/\SeqAt.shaped (.tuple xs)=true then some (xs.any fun y=>PyData.eqv y x) else none
 | _,_=>none
def dNin(x y:PyData):R PyData:=match inD x y with
 | some b=>.ok (.bool (!b))
 | none=>.bad
noncomputable def dIx:PyData->PyData->R PyData
 | .list xs,.int i=>match atI xs i with
  | some v=>.ok v
  | none=>.bad
 | .tuple xs,.int i=>match atI xs i with
  | some v=>.ok v
  | none=>.bad
 | .str z,.int i=>if z.length<=sizeLine then match atI z.cps.toList i with
  | some u=>.ok (.str ⟨#[u]⟩)
  | none=>.bad else .bad
 | _,_=>.bad
end
end Fl
namespace Fl
open PySem L2 PyProof.Rows
section
variable{X:Cx}{c:Ct}{E:XK}{e a b:Expr}{α β γ:Type}{Ra:VR α}{Rb:VR β}{Rc:VR γ}{pos:Pos}
def r2D(Ra:VR α)(Rb:VR β)(Rc:VR γ)(g:α->β->R γ):R2:=fun v u H Q=>∃ H0 H1 F a b d,aG F H/\Ra a v H0 F H/\Rb b u H1 F H/\g a b=.ok d/\∀ w F' H',Ext F H F' H'->Rc d w H F' H'->Q w H'
def r1D(Ra:VR α)(Rb:VR β)(g:α->R β):V->Hp->VK->Prop:=fun v H Q=>∃ H0 F a b,aG F H/\Ra a v H0 F H/\g a=.ok b/\∀ w F' H',Ext F H F' H'->Rb b w H F' H'->Q w H'
theorem rY{g:α->β->R γ}:Op2 c Ra Rb Rc g (r2D Ra Rb Rc g):=fun H0 H1 F H a b d v u Q sf ra rb eg q=>⟨H0,H1,F,a,b,d,sf,ra,rb,eg,q⟩
theorem xE{g:α->R β}:Op1 c Ra Rb g (r1D Ra Rb g):=fun H0 F H a b v Q sf ra eg q=>⟨H0,F,a,b,sf,ra,eg,q⟩
theorem aQ{op:Operator}{g:PyData->PyData->R PyData}{fa fb:Sg->R PyData}(ho:OpR X (binaryOp op) (r2D (bI c) (bI c) (cM c) g))(hp:dG g)(ha:PR X c E a fa)(hb:PR X c E b fb):PD X c E (.BinOp a op b pos) (e2 g fa fb):=
 PE.imp (aH7 ho ha hb) fun σ H Q h=>tV2 rY hp (o4 c) (j5 c) h
theorem aII{op:UnaryOp}{g:PyData->R PyData}{fa:Sg->R PyData}(ho:UnR X (unaryOp op) (r1D (bI c) (cM c) g))(hp:mE g)(ha:PR X c E a fa):PD X c E (.UnaryOp op a pos) (e1 g fa):=
 PE.imp (aH8 ho ha) fun σ H Q h=>tV1 xE hp (j5 c) h
theorem o5{op:CmpOp}{g:PyData->PyData->R PyData}{fa fb:Sg->R PyData}(ho:OpR X (compareOp op) (r2D (bI c) (bI c) (cM c) g))(hp:dG g)(ha:PR X c E a fa)(hb:PR X c E b fb)(hm:behindInMarks op b=false):PD X c E (.Compare a [op] [b] pos) (e2 g fa fb):=
 PE.imp (aCV ho ha hb hm) fun σ H Q h=>tV2 rY hp (o4 c) (j5 c) h
theorem bV{g:PyData->PyData->R PyData}{fa fb:Sg->R PyData}(ho:IxR X (r2D (bI c) (bI c) (cM c) g))(hp:dG g)(ha:PR X c E a fa)(hb:PR X c E b fb)(hs:vB b:=by exact fun _ _=>rfl):PD X c E (.Subscript a b pos) (e2 g fa fb):=
 PE.imp (L2.aID ho ha hb hs) fun σ H Q h=>tV2 rY hp (o4 c) (j5 c) h
theorem b8(hK:X.K=c.K):OpR X (binaryOp .Add) (r2D (bI c) (bI c) (cM c) bE):=by
 intro pins s σ H v u x y Q I rx ry h
 obtain ⟨H0,H1,F,a,b,d,sf,ra,rb,eg,q⟩:=h
 unfold bE at eg
 split at eg
 ·rename_i i j
  cases eg
  obtain rfl:=aU.int_of ra
  obtain rfl:=aU.int_of rb
  exact aFM pins s σ H _ _ x y Q I rx ry ⟨i,j,rfl,rfl,q _ F H (Ext.refl sf) (.int _)⟩
 ·rename_i i j
  split at eg
  ·rename_i hz
   cases eg
   obtain rfl:=aU.str_of ra
   obtain rfl:=aU.str_of rb
   exact wP pins s σ H _ _ x y Q I rx ry ⟨i,j,rfl,rfl,hz,q _ F H (Ext.refl sf) (.str _)⟩
  ·cases eg
 ·rename_i xs ys
  split at eg
  ·rename_i hz
   cases eg
   obtain ⟨pa,vs,rfl,fa,ha,da⟩:=aU.tup_of sf ra
   obtain ⟨pb,us,rfl,fb,hb,db⟩:=aU.tup_of sf rb
   rw[<-hK] at ha hb
   refine aC2 pins s σ H _ _ x y Q I rx ry ⟨pa,pb,vs,us,rfl,rfl,ha,hb,?_,by rw[da.length,db.length];exact hz.2,fun z=>?_,fun z p hp=>?_⟩
   ·intro z;subst z;obtain rfl:xs=[]:=by cases da;rfl
    exact absurd hz.1 (by decide)
   ·subst z
    obtain rfl:ys=[]:=by cases db;rfl
    exact q _ F H (Ext.refl sf) (by rw[List.append_nil];exact .tup fa da)
   ·exact q _ _ _ (Ext.new sf hp) (.tup (SqT.of aW) ((da.append db).same (aG.upd (b7 sf hp))))
  ·cases eg
 ·cases eg
theorem bG:dG bE:=by
 intro a b e h
 unfold bE at h
 split at h<;>(try split at h)<;>cases h
theorem kM{f:Value->Value->Sem Value}{g:PyData->PyData->R PyData}{C:Int->Int->Prop}{k:Int->Int->PyData}{kv:Int->Int->V}(ho:OpR X f (rI C kv))(hk:∀ i j F,DatV c.K F (kv i j) (k i j))
  (hg:∀ a b d,g a b=.ok d->∃ i j,a=.int i/\b=.int j/\C i j/\d=k i j):OpR X f (r2D (bI c) (bI c) (cM c) g):=by
 intro pins s σ H v u x y Q I rx ry h
 obtain ⟨H0,H1,F,a,b,d,sf,ra,rb,eg,q⟩:=h
 obtain ⟨i,j,rfl,rfl,hc,rfl⟩:=hg a b d eg
 obtain rfl:=aU.int_of ra
 obtain rfl:=aU.int_of rb
 exact ho pins s σ H _ _ x y Q I rx ry ⟨i,j,rfl,rfl,hc,q _ F H (Ext.refl sf) (hk i j F)⟩
theorem xF{f:Value->Value->Sem Value}{kv:Int->Int->V}(ho:OpR X f (rI0 kv)):OpR X f (rI (fun _ _=>True) kv):=fun pins s σ H x y v u Q I rx ry ⟨i,j,h1,h2,_,q⟩=>ho pins s σ H x y v u Q I rx ry ⟨i,j,h1,h2,q⟩
theorem aDJ:OpR X (binaryOp .Sub) (r2D (bI c) (bI c) (cM c) dSub):=kM (xF aFN) (fun _ _ _=>.int _) fun a b d h=>by
 unfold dSub at h;split at h
 · cases h; exact ⟨_, _, rfl, rfl, trivial, rfl⟩
 · cases h
theorem jH:OpR X (binaryOp .Mult) (r2D (bI c) (bI c) (cM c) dMul):=kM aFO (fun _ _ _=>.int _) fun a b d h=>by
 unfold dMul at h;split at h
 ·split at h
  · rename_i hc; cases h; exact ⟨_, _, rfl, rfl, hc, rfl⟩
  · cases h
 ·cases h
theorem iH:OpR X (binaryOp .FloorDiv) (r2D (bI c) (bI c) (cM c) dDiv):=kM aAV (fun _ _ _=>.int _) fun a b d h=>by
 unfold dDiv at h;split at h
 ·split at h
  · rename_i hc; cases h; exact ⟨_, _, rfl, rfl, hc, rfl⟩
  · cases h
 ·cases h
theorem cO:OpR X (binaryOp .Mod) (r2D (bI c) (bI c) (cM c) dMod):=kM aFP (fun _ _ _=>.int _) fun a b d h=>by
 unfold dMod at h;split at h
 ·split at h
  · rename_i hc; cases h; exact ⟨_, _, rfl, rfl, hc, rfl⟩
  · cases h
 ·cases h
theorem aGA:OpR X (compareOp .Lt) (r2D (bI c) (bI c) (cM c) dLt):=kM (xF aH9) (fun _ _ _=>.bl _) fun a b d h=>by
 unfold dLt at h;split at h
 · cases h; exact ⟨_, _, rfl, rfl, trivial, rfl⟩
 · cases h
theorem mF:OpR X (compareOp .Gt) (r2D (bI c) (bI c) (cM c) dGt):=kM (xF aIA) (fun _ _ _=>.bl _) fun a b d h=>by
 unfold dGt at h;split at h
 · cases h; exact ⟨_, _, rfl, rfl, trivial, rfl⟩
 · cases h
theorem zH:dG dSub:=by intro a b e h;unfold dSub at h;split at h<;>cases h
theorem gY:dG dMul:=by intro a b e h;unfold dMul at h;split at h<;>(try split at h)<;>cases h
theorem fU:dG dDiv:=by intro a b e h;unfold dDiv at h;split at h<;>(try split at h)<;>cases h
theorem bY:dG dMod:=by intro a b e h;unfold dMod at h;split at h<;>(try split at h)<;>cases h
theorem aA7:dG dLt:=by intro a b e h;unfold dLt at h;split at h<;>cases h
theorem jO:dG dGt:=by intro a b e h;unfold dGt at h;split at h<;>cases h
theorem eZ:dG dEq:=by intro a b e h;unfold dEq at h;split at h<;>cases h
theorem lH:dG dNe:=by intro a b e h;unfold dNe at h;split at h<;>cases h
theorem zI:dG dNin:=by intro a b e h;unfold dNin at h;split at h<;>cases h
theorem zJ:mE dNeg:=by intro a e h;unfold dNeg at h;split at h<;>cases h
theorem a6:dG dIx:=by
 intro a b e h
 unfold dIx at h
 split at h<;>(try split at h)<;>(try split at h)<;>cases h
theorem aDK:UnR X (unaryOp .USub) (r1D (bI c) (cM c) dNeg):=by
 intro pins s σ H v x Q I rx h
 obtain ⟨H0,F,a,d,sf,ra,eg,q⟩:=h
 unfold dNeg at eg
 split at eg
 ·rename_i i
  cases eg
  obtain rfl:=aU.int_of ra
  exact aFQ pins s σ H _ x Q I rx ⟨i,rfl,q _ F H (Ext.refl sf) (.int _)⟩
 ·cases eg
theorem hR(hK:X.K=c.K)(hu:X.A.units+64 < cLine):OpR X (compareOp .Eq) (r2D (bI c) (bI c) (cM c) dEq):=by
 intro pins s σ H v u x y Q I rx ry h
 obtain ⟨H0,H1,F,a,b,d,sf,ra,rb,eg,q⟩:=h
 unfold dEq at eg
 split at eg
 ·rename_i hs
  cases eg
  exact aFY hu pins s σ H _ _ x y Q I rx ry ⟨a,b,by rw[hK];exact aU.heap sf ra,by rw[hK];exact aU.heap sf rb,hs.1,hs.2,q _ F H (Ext.refl sf) (.bl _)⟩
 ·cases eg
theorem o6(hK:X.K=c.K)(hu:X.A.units+64 < cLine):OpR X (compareOp .NotEq) (r2D (bI c) (bI c) (cM c) dNe):=by
 intro pins s σ H v u x y Q I rx ry h
 obtain ⟨H0,H1,F,a,b,d,sf,ra,rb,eg,q⟩:=h
 unfold dNe at eg
 split at eg
 ·rename_i hs
  cases eg
  exact aFZ hu pins s σ H _ _ x y Q I rx ry ⟨a,b,by rw[hK];exact aU.heap sf ra,by rw[hK];exact aU.heap sf rb,hs.1,hs.2,q _ F H (Ext.refl sf) (.bl _)⟩
 ·cases eg
theorem xG{xs:List PyData}(h:SeqAt.shaped (.list xs)=true):PyData.canLayAll0 xs=true/\PyData.depthAll xs<=63:=by
 have h':(PyData.canLay0 (.list xs) && decide ((PyData.list xs).depth<=64))=true:=h
 rw[Bool.and_eq_true] at h'
 have hd:PyData.depthAll xs+1<=64:=of_decide_eq_true h'.2
 exact ⟨h'.1,by omega⟩
theorem uZ{xs:List PyData}(h:SeqAt.shaped (.tuple xs)=true):PyData.canLayAll0 xs=true/\PyData.depthAll xs<=63:=by
 have h':(PyData.canLay0 (.tuple xs) && decide ((PyData.tuple xs).depth<=64))=true:=h
 rw[Bool.and_eq_true] at h'
 have hd:PyData.depthAll xs+1<=64:=of_decide_eq_true h'.2
 exact ⟨h'.1,by omega⟩
theorem o7{d:PyData}(h:SeqAt.shaped d=true):d.canLay0=true:=by
 have h':(PyData.canLay0 d && decide (d.depth<=64))=true:=h
 rw[Bool.and_eq_true] at h'
 exact h'.1
theorem inD_cases{x y:PyData}{b:Bool}(h:inD x y=some b):(∃ i j,x=.str i/\y=.str j/\b = !(Builtin.Str.occurrences j i 0 j.length 1).isEmpty) \/
  (∃ xs,y=.list xs/\SeqAt.shaped x=true/\SeqAt.shaped (.list xs)=true/\b=xs.any fun z=>PyData.eqv z x)\/(∃ xs,y=.tuple xs/\SeqAt.shaped x=true/\SeqAt.shaped (.tuple xs)=true/\b=xs.any fun z=>PyData.eqv z x):=by
 unfold inD at h
 split at h
 ·cases h;exact .inl ⟨_,_,rfl,rfl,rfl⟩
 ·split at h
  · rename_i hs; cases h; exact .inr (.inl ⟨_, rfl, hs.1, hs.2, rfl⟩)
  · cases h
 ·split at h
  · rename_i hs; cases h; exact .inr (.inr ⟨_, rfl, hs.1, hs.2, rfl⟩)
  · cases h
 ·cases h
theorem tE{a b:Nat}(h:a<=63):min a b<=63:=Nat.le_trans (Nat.min_le_left _ _) h
theorem aDL(hK:X.K=c.K)(hu:X.A.units+64 < cLine):OpR X (compareOp .NotIn) (r2D (bI c) (bI c) (cM c) dNin):=by
 intro pins s σ H v u x y Q I rx ry h
 obtain ⟨H0,H1,F,a,b,d,sf,ra,rb,eg,q⟩:=h
 unfold dNin at eg
 split at eg
 ·rename_i bb hb
  cases eg
  have fin:EP X pins σ Q (.bool (!bb)) s:=⟨.bl (!bb),H,I,rfl,q _ F H (Ext.refl sf) (.bl _)⟩
  rcases inD_cases hb with ⟨i,j,rfl,rfl,rfl⟩|⟨xs,rfl,h1,h2,rfl⟩|⟨xs,rfl,h1,h2,rfl⟩
  ·obtain rfl:=aU.str_of ra
   obtain rfl:=aU.str_of rb
   exact sI pins s σ H _ _ x y Q I rx ry ⟨i,j,rfl,rfl,q _ F H (Ext.refl sf) (.bl _)⟩
  ·obtain ⟨as,r1⟩:=DatV.reads I (by rw[hK];exact aU.heap sf ra) rx
   obtain ⟨bs,r2⟩:=DatV.reads I (by rw[hK];exact aU.heap sf rb) ry
   have hs:=xG h2
   have hm:=tE (b:=a.depth) hs.2
   exact SeqAt.notIn_list_reads r2 r1 hs.1 (o7 h1) (by omega) fin
  ·obtain ⟨as,r1⟩:=DatV.reads I (by rw[hK];exact aU.heap sf ra) rx
   obtain ⟨bs,r2⟩:=DatV.reads I (by rw[hK];exact aU.heap sf rb) ry
   have hs:=uZ h2
   have hm:=tE (b:=a.depth) hs.2
   exact SeqAt.notIn_tuple_reads r2 r1 hs.1 (o7 h1) (by omega) fin
 ·cases eg
theorem bW(hK:X.K=c.K):IxR X (r2D (bI c) (bI c) (cM c) dIx):=by
 intro value slice pins s σ H v u x y Q I rx ry h hs
 obtain ⟨H0,H1,F,a,b,d,sf,ra,rb,eg,q⟩:=h
 unfold dIx at eg
 split at eg
 ·rename_i xs i
  split at eg
  ·rename_i w hw
   cases eg
   obtain ⟨p,vs,rfl,h1,h2⟩:=aU.lst_of sf ra
   obtain rfl:=aU.int_of rb
   obtain ⟨z,h3,h4⟩:=tD h2 hw
   rw[<-hK] at h1
   exact aC4 value slice pins s σ H _ _ x y Q I rx ry ⟨p,vs,i,z,rfl,rfl,h1,h3,q _ F H (Ext.refl sf) h4⟩ hs
  ·cases eg
 ·rename_i xs i
  split at eg
  ·rename_i w hw
   cases eg
   obtain ⟨p,vs,rfl,_,h1,h2⟩:=aU.tup_of sf ra
   obtain rfl:=aU.int_of rb
   obtain ⟨z,h3,h4⟩:=tD h2 hw
   rw[<-hK] at h1
   exact aFV value slice pins s σ H _ _ x y Q I rx ry ⟨p,vs,i,z,rfl,rfl,h1,h3,q _ F H (Ext.refl sf) h4⟩ hs
  ·cases eg
 ·rename_i z i
  split at eg
  ·rename_i hz
   split at eg
   ·rename_i w hw
    cases eg
    obtain rfl:=aU.str_of ra
    obtain rfl:=aU.int_of rb
    exact aFW value slice pins s σ H _ _ x y Q I rx ry ⟨z,i,w,rfl,rfl,hz,hw,q _ F H (Ext.refl sf) (.str _)⟩ hs
   ·cases eg
  ·cases eg
 ·cases eg
def tTf(c:Ct)(E:XK)(f:Sg->R Bool):TT:=fun σ H Q=>∃ ρ F,Ab c ρ σ F H/\Rk c E F H (f ρ) fun b=>∀ F' H',Ext F H F' H'->Q b H'
abbrev PTf(X:Cx)(c:Ct)(E:XK)(e:Expr)(f:Sg->R Bool):Prop:=PT X e (tTf c E f)
def asB:PyData->R Bool
 | .bool b=>.ok b
 | _=>.bad
theorem pX{f:Sg->R PyData}{σ:L2.St}{H:Hp}{Q:Bool->Hp->Prop}(h:tTf c E (e1 asB f) σ H Q):tV (cM c) c E f σ H fun x H'=>∃ k,x=.bl k/\Q k H':=by
 obtain ⟨ρ,F,ab,h⟩:=h
 refine ⟨ρ,F,ab,(Rk.bind h).imp fun d _ q v F' H' s r=>?_⟩
 cases d with
 | bool b=>exact ⟨b,DatV.bl_of r,Rk.ok q F' H' s⟩
 | _=>exact False.elim q
theorem dF{op:CmpOp}{g:PyData->PyData->R PyData}{fa fb:Sg->R PyData}(ho:OpR X (compareOp op) (r2D (bI c) (bI c) (cM c) g))(hp:dG g)(ha:PR X c E a fa)(hb:PR X c E b fb)(hm:behindInMarks op b=false):PTf X c E (.Compare a [op] [b] pos) (e1 asB (e2 g fa fb)):=
 PT.imp (m3 ho ha hb hm) fun σ H Q h=>tV2 rY hp (o4 c) (j5 c) (pX h)
theorem kJ{f:Sg->R PyData}(h:PD X c E e f)(he:∀ whole,isTrue e X.env whole=(do let v <-whole;standAt e.pos;holding [v] (truthy v)):=by intro _;rfl):PTf X c E e (e1 asB f):=
 PT.imp (L2.kJ h he) fun σ H Q h=>pX h
def n8(f g:Sg->R Bool):Sg->R Bool:=fun ρ=>(f ρ).bind fun b=>if b=true then g ρ else .ok false
def bOr(f g:Sg->R Bool):Sg->R Bool:=fun ρ=>(f ρ).bind fun b=>if b=true then .ok true else g ρ
def mG(f:Sg->R Bool):Sg->R Bool:=fun ρ=>(f ρ).bind fun b=>.ok (!b)
abbrev PWf(X:Cx)(c:Ct)(E:XK)(e:Expr)(f:Sg->R Bool):Prop:=PW X e (tTf c E f)
theorem PW.imp{X:Cx}{e:Expr}{t t':TT}(h:PW X e t)(i:∀ σ H Q,t' σ H Q->t σ H Q):PW X e t':=fun whole pins s σ H Q I q=>h whole pins s σ H Q I (i σ H Q q)
theorem aJ6{f g:Sg->R Bool}{σ:L2.St}{H:Hp}{Q:Bool->Hp->Prop}(h:tTf c E (n8 f g) σ H Q):aFD (tTf c E f) (tTf c E g) σ H Q:=by
 obtain ⟨ρ,F,ab,h⟩:=h
 refine ⟨ρ,F,ab,(Rk.bind h).imp fun b _ q F' H' s=>?_⟩
 cases b with
 | true=>exact ⟨ρ,F',ab.ext s,(Rk.ext s q).imp fun d _ z F2 H2 s2=>z F2 H2 (s.trans s2)⟩
 | false=>exact Rk.ok q F' H' s
theorem tor{f g:Sg->R Bool}{σ:L2.St}{H:Hp}{Q:Bool->Hp->Prop}(h:tTf c E (bOr f g) σ H Q):tOr (tTf c E f) (tTf c E g) σ H Q:=by
 obtain ⟨ρ,F,ab,h⟩:=h
 refine ⟨ρ,F,ab,(Rk.bind h).imp fun b _ q F' H' s=>?_⟩
 cases b with
 | false=>exact ⟨ρ,F',ab.ext s,(Rk.ext s q).imp fun d _ z F2 H2 s2=>z F2 H2 (s.trans s2)⟩
 | true=>exact Rk.ok q F' H' s
theorem mZ{f:Sg->R Bool}(h:PTf X c E a f):PWf X c E (.BoolOp .And [a] pos) f:=L2.mZ h
theorem sE{f:Sg->R Bool}(h:PTf X c E a f):PWf X c E (.BoolOp .Or [a] pos) f:=L2.sE h
theorem oQ{f g:Sg->R Bool}{rest:List Expr}(h:PTf X c E a f)(h2:PWf X c E (.BoolOp .And (b::rest) pos) g):PWf X c E (.BoolOp .And (a::b::rest) pos) (n8 f g):=PW.imp (L2.oQ h h2) fun _ _ _ q=>aJ6 q
theorem wK{f g:Sg->R Bool}{rest:List Expr}(h:PTf X c E a f)(h2:PWf X c E (.BoolOp .Or (b::rest) pos) g):PWf X c E (.BoolOp .Or (a::b::rest) pos) (bOr f g):=PW.imp (L2.wK h h2) fun _ _ _ q=>tor q
theorem l0{f:Sg->R Bool}(h:PTf X c E a f):PTf X c E (.UnaryOp .Not a pos) (mG f):=PT.imp (L2.l0 h) fun σ H Q ⟨ρ,F,ab,k⟩=>⟨ρ,F,ab,(Rk.bind k).imp fun b _ q F' H' s=>Rk.ok q F' H' s⟩
noncomputable def xH(f g:Sg->R PyData):Sg->R PyData:=fun ρ=>(f ρ).bind fun x=>(asB x).bind fun b=>if b=true then g ρ else .ok (.bool false)
def eOr(f g:Sg->R PyData):Sg->R PyData:=fun ρ=>(f ρ).bind fun x=>(asB x).bind fun b=>if b=true then .ok (.bool true) else g ρ
def aJ7(f:Sg->R PyData):Sg->R PyData:=fun ρ=>(f ρ).bind fun x=>(asB x).bind fun b=>.ok (.bool (!b))
def eIf{α:Type}(t:Sg->R Bool)(f g:Sg->R α):Sg->R α:=fun ρ=>(t ρ).bind fun b=>if b=true then f ρ else g ρ
theorem aGB{op}{f:Sg->R PyData}(h:PD X c E a f):PD X c E (.BoolOp op [a] pos) f:=aFE h
theorem aGC{f g:Sg->R PyData}{rest:List Expr}(h:PD X c E a f)(h2:PD X c E (.BoolOp .And (b::rest) pos) g):PD X c E (.BoolOp .And (a::b::rest) pos) (xH f g):=PE.imp (aFF h h2) fun σ H Q zz0=>by
 obtain ⟨ρ,F,ab,k⟩:=zz0
 refine ⟨ρ,F,ab,(Rk.bind k).imp fun d _ q v F' H' s r=>?_⟩
 cases d with
 | bool b=>
  refine ⟨b,DatV.bl_of r,?_⟩
  cases b with
  | true=>exact sK ⟨ρ,F',ab.ext s,(Rk.ext s q).imp fun d _ z v F2 H2 s2=>z v F2 H2 (s.trans s2)⟩
  | false=>exact sJ (Rk.ok q (.bl false) F' H' s (.bl false))
 | _=>exact False.elim q
theorem aIJ{t:Sg->R Bool}{f g:Sg->R PyData}{q:Expr}(hq:PTf X c E q t)(h:PD X c E a f)(h2:PD X c E b g):PD X c E (.IfExp q a b pos) (eIf t f g):=PE.imp (aAN hq h h2) fun σ H Q zz0=>by
 obtain ⟨ρ,F,ab,k⟩:=zz0
 refine ⟨ρ,F,ab,(Rk.bind k).imp fun b _ q F' H' s=>?_⟩
 cases b with
 | true=>exact sK ⟨ρ,F',ab.ext s,(Rk.ext s q).imp fun d _ z v F2 H2 s2=>z v F2 H2 (s.trans s2)⟩
 | false=>exact sJ ⟨ρ,F',ab.ext s,(Rk.ext s q).imp fun d _ z v F2 H2 s2=>z v F2 H2 (s.trans s2)⟩
noncomputable def eCh(g g':PyData->PyData->R PyData)(fa fb fc:Sg->R PyData):Sg->R PyData:=fun ρ=>(fa ρ).bind fun x=>(fb ρ).bind fun y=>(g x y).bind fun z=>(asB z).bind fun k=>if k=true then (fc ρ).bind fun w=>g' y w else .ok (.bool false)
end
end Fl
namespace Fl
open PySem L2 PyProof.Rows
def AFs(g:Gb)(K:Frag)(mg:Str->Option Value)(F:Hp):List A->List V->Prop
 | [],[]=>True
 | a::as,v::vs=>AF g K mg F a v/\AFs g K mg F as vs
 | _,_=>False
theorem AFs.same{g:Gb}{K:Frag}{mg:Str->Option Value}{F F':Hp}(s:aG F F'):∀ {as:List A} {vs:List V},AFs g K mg F as vs->AFs g K mg F' as vs
 | [],[],_=>trivial
 | a::as,v::vs,h=>⟨AF.same s h.1,AFs.same s h.2⟩
theorem AFs.len{g:Gb}{K:Frag}{mg:Str->Option Value}{F:Hp}:∀ {as:List A} {vs:List V},AFs g K mg F as vs->vs.length=as.length
 | [],[],_=>rfl
 | a::as,v::vs,h=>by rw[List.length_cons,List.length_cons,AFs.len h.2]
theorem PA.imp{X:Cx}{es:List Expr}{t t':TA}(h:PA X es t)(i:∀ σ H Q,t' σ H Q->t σ H Q):PA X es t':=fun pos pins s σ H Q I q=>h pos pins s σ H Q I (i σ H Q q)
def tAd(c:Ct)(E:XK)(f:Sg->R (List PyData)):TA:=fun σ H Q=>∃ ρ F,Ab c ρ σ F H/\Rk c E F H (f ρ) fun ds=>∀ vs F' H',Ext F H F' H'->DatVs c.K F' vs ds->Q vs H'
def tAv(c:Ct)(E:XK)(f:Sg->R (List A)):TA:=fun σ H Q=>∃ ρ F,Ab c ρ σ F H/\Rk c E F H (f ρ) fun ds=>∀ vs F' H',Ext F H F' H'->AFs c.g c.K c.mg F' ds vs->Q vs H'
abbrev PAd(X:Cx)(c:Ct)(E:XK)(es:List Expr)(f:Sg->R (List PyData)):Prop:=PA X es (tAd c E f)
abbrev PAv(X:Cx)(c:Ct)(E:XK)(es:List Expr)(f:Sg->R (List A)):Prop:=PA X es (tAv c E f)
noncomputable def aF{α:Type}:Sg->R (List α):=fun _=>.ok []
def aA{α:Type}(f:Sg->R α)(g:Sg->R (List α)):Sg->R (List α):=fun ρ=>(f ρ).bind fun x=>(g ρ).bind fun xs=>.ok (x::xs)
section
variable{X:Cx}{c:Ct}{E:XK}{e a b:Expr}{es:List Expr}{pos:Pos}
theorem a7:PAd X c E [] aF:=PA.imp a8 fun σ H Q ⟨ρ,F,ab,k⟩=>Rk.ok k [] F H (Ext.refl ab.fh) .nil
theorem bB:PAv X c E [] aF:=PA.imp a8 fun σ H Q ⟨ρ,F,ab,k⟩=>Rk.ok k [] F H (Ext.refl ab.fh) trivial
theorem aE{f:Sg->R PyData}{g:Sg->R (List PyData)}(h:PD X c E e f)(h2:PAd X c E es g)(hs:starEach (e::es) X.env=(false,eval e X.env)::starEach es X.env:=by rfl):PAd X c E (e::es) (aA f g):=PA.imp (aT h h2 hs) fun σ H Q zz0=>by
 obtain ⟨ρ,F,ab,k⟩:=zz0
 refine ⟨ρ,F,ab,(Rk.bind k).imp fun x _ q v F1 H1 s1 r1=>⟨ρ,F1,ab.ext s1,((Rk.bind q).ext s1).imp fun xs _ q vs F2 H2 s2 r2=>?_⟩⟩
 exact Rk.ok q (v::vs) F2 H2 (s1.trans s2) (.cons (DatV.same s2.ff r1) r2)
theorem aK{f:Sg->R A}{g:Sg->R (List A)}(h:PV X c E e f)(h2:PAv X c E es g)(hs:starEach (e::es) X.env=(false,eval e X.env)::starEach es X.env:=by rfl):PAv X c E (e::es) (aA f g):=PA.imp (aT h h2 hs) fun σ H Q zz0=>by
 obtain ⟨ρ,F,ab,k⟩:=zz0
 refine ⟨ρ,F,ab,(Rk.bind k).imp fun x _ q v F1 H1 s1 r1=>⟨ρ,F1,ab.ext s1,((Rk.bind q).ext s1).imp fun xs _ q vs F2 H2 s2 r2=>?_⟩⟩
 exact Rk.ok q (v::vs) F2 H2 (s1.trans s2) ⟨AF.same s2.ff r1,r2⟩
def bD(f:Sg->R (List PyData)):Sg->R PyData:=fun ρ=>(f ρ).bind fun xs=>if xs.length<=16777216 then .ok (.tuple xs) else .bad
def fV(f:Sg->R (List PyData)):Sg->R (List PyData):=fun ρ=>(f ρ).bind fun xs=>if xs.length<=16777216 then .ok xs else .bad
theorem dX:sizeLine=16777216:=sizeLine_eq
theorem bS{x1}{f:Sg->R (List PyData)}(h:PAd X c E es f):PD X c E (.Tuple es x1 pos) (bD f):=PE.imp (aFT h) fun σ H Q zz0=>by
 obtain ⟨ρ,F,ab,k⟩:=zz0
 refine ⟨ρ,F,ab,(Rk.bind k).imp fun xs _ q vs F1 H1 s1 r1=>?_⟩
 by_cases hz:xs.length<=16777216
 ·rw[if_pos hz] at q
  refine ⟨by rw[r1.length,dX];exact hz,fun p hp=>?_⟩
  exact Rk.ok q (.ref p) _ _ (s1.trans (Ext.new s1.fh hp)) (.tup (SqT.of aW) (r1.same (aG.upd (b7 s1.fh hp))))
 ·rw[if_neg hz] at q;exact q.elim
theorem jP{f:Sg->R (List PyData)}(h:PAd X c E es f):PN X c E (.List es pos) (fV f):=PE.imp (aFU h) fun σ H Q zz0=>by
 obtain ⟨ρ,F,ab,k⟩:=zz0
 refine ⟨ρ,F,ab,(Rk.bind k).imp fun xs _ q vs F1 H1 s1 r1=>?_⟩
 by_cases hz:xs.length<=16777216
 ·rw[if_pos hz] at q
  refine ⟨by rw[r1.length,dX];exact hz,fun p hp=>?_⟩
  exact Rk.ok q (.ref p) _ _ (s1.trans (Ext.own s1.fh hp)) ⟨p,vs,rfl,b7 s1.hh hp,aW,b7 s1.fh hp,r1⟩
 ·rw[if_neg hz] at q;exact q.elim
noncomputable def dLen:PyData->R PyData
 | .str z=>if z.length<=16777216 then .ok (.int z.length) else .bad
 | .list xs=>.ok (.int xs.length)
 | .tuple xs=>.ok (.int xs.length)
 | _=>.bad
theorem plain_len:mE dLen:=by intro a e h;unfold dLen at h;split at h<;>(try split at h)<;>cases h
theorem d5{fa:Sg->R PyData}(hK:X.K=c.K)(h0:PE X e (tCB (fun xs H Q=>∃ x n,xs=[x]/\aFS X.K x H n/\Q (.int n) H) (iN (tV (bI c) c E fa) kZ))):PD X c E e (e1 dLen fa):=
 PE.imp h0 fun σ H Q h=>by
  obtain ⟨ρ,F,ab,k⟩:=tV1 (Ra:=bI c) xE plain_len (j5 c) h
  refine ⟨ρ,F,ab,k.imp fun d _ q v F' H' s r=>?_⟩
  obtain ⟨H0,F1,a,d',sf,ra,eg,q⟩:=q v F' H' s r
  unfold dLen at eg
  split at eg
  ·rename_i z
   split at eg
   ·rename_i hz
    cases eg
    obtain rfl:=aU.str_of ra
    exact ⟨_,_,rfl,⟨by rw[dX];exact hz,rfl⟩,q _ F1 H' (Ext.refl sf) (.int _)⟩
   ·cases eg
  ·cases eg
   obtain ⟨p,vs,rfl,h1,h2⟩:=aU.lst_of sf ra
   rw[<-hK] at h1
   exact ⟨_,vs.length,rfl,.inl ⟨vs,h1,rfl⟩,q _ F1 H' (Ext.refl sf) (by rw[h2.length];exact .int _)⟩
  ·cases eg
   obtain ⟨p,vs,rfl,_,h1,h2⟩:=aU.tup_of sf ra
   rw[<-hK] at h1
   exact ⟨_,vs.length,rfl,.inr ⟨vs,h1,rfl⟩,q _ F1 H' (Ext.refl sf) (by rw[h2.length];exact .int _)⟩
  ·cases eg
noncomputable def dTup:PyData->R PyData
 | .list xs=>.ok (.tuple xs)
 | .tuple xs=>.ok (.tuple xs)
 | _=>.bad
theorem zK:mE dTup:=by intro a e h;unfold dTup at h;split at h<;>cases h
theorem gP{fa:Sg->R PyData}(hK:X.K=c.K)(h0:PE X e (tCB (fun xs H Q=>∃ p ys,xs=[.ref p]/\((SqL X.K H p ys/\∀ l,H l=none->Q (.ref l) (upd H l (.tup ys)))\/(SqT X.K H p ys/\Q (.ref p) H))) (iN (tV (bI c) c E fa) kZ))):PD X c E e (e1 dTup fa):=
 PE.imp h0 fun σ H Q h=>by
  obtain ⟨ρ,F,ab,k⟩:=tV1 (Ra:=bI c) xE zK (j5 c) h
  refine ⟨ρ,F,ab,k.imp fun d _ q v F' H' s r=>?_⟩
  obtain ⟨H0,F1,a,d',sf,ra,eg,q⟩:=q v F' H' s r
  unfold dTup at eg
  split at eg
  ·cases eg
   obtain ⟨p,vs,rfl,h1,h2⟩:=aU.lst_of sf ra
   rw[<-hK] at h1
   exact ⟨p,vs,rfl,.inl ⟨h1,fun l hl=>q _ _ _ (Ext.new sf hl) (.tup (SqT.of aW) (h2.same (aG.upd (b7 sf hl))))⟩⟩
  ·cases eg
   obtain ⟨p,vs,rfl,f1,h1,h2⟩:=aU.tup_of sf ra
   rw[<-hK] at h1
   exact ⟨p,vs,rfl,.inr ⟨h1,q _ F1 H' (Ext.refl sf) (.tup f1 h2)⟩⟩
  ·cases eg
noncomputable def aGD:PyData->R (List PyData)
 | .list xs=>.ok xs
 | .tuple xs=>.ok xs
 | _=>.bad
noncomputable def aGE:PyData->R PyData
 | .int i=>.ok (.int i)
 | .bool b=>.ok (.int (if b=true then 1 else 0))
 | _=>.bad
noncomputable def aIK:List PyData->Option (List Bool)
 | []=>some []
 | .bool b::t=>(aIK t).map (b :: ·)
 | _=>none
end
end Fl
namespace Fl
open PySem L2 PyProof.Rows
inductive Fw where
 | nx (ρ:Sg)|bk (ρ:Sg)|ct (ρ:Sg)|rt (a:A)
def AR(g:Gb)(K:Frag)(mg:Str->Option Value)(H F' H':Hp):A->V->Prop
 | .l xs,v=>∃ p us,v=.ref p/\H p=none/\H' p=some (.lst us)/\F' p=none/\DatVs K F' us xs
 | a,v=>AF g K mg F' a v
theorem AR.of{g:Gb}{K:Frag}{mg:Str->Option Value}{H F' H':Hp}{a:A}{v:V}(h:AF g K mg F' a v):AR g K mg H F' H' a v:=by
 cases a with
 | l xs=>exact False.elim h
 | _=>exact h
def gE(c:Ct)(F:Hp)(D:iB):Fw->Prop
 | .nx ρ=>∀ σ' F' H',aG F F'->Ab c ρ σ' F' H'->D.nx σ' H'
 | .bk ρ=>∀ σ' F' H',aG F F'->Ab c ρ σ' F' H'->D.bk σ' H'
 | .ct ρ=>∀ σ' F' H',aG F F'->Ab c ρ σ' F' H'->D.ct σ' H'
 | .rt a=>∀ v F' H',Ext c.F0 c.H0 F' H'->AR c.g c.K c.mg c.H0 F' H' a v->D.rt v H'
theorem gE.same{c:Ct}{F F1:Hp}{D:iB}(s:aG F F1):∀ {w:Fw},gE c F D w->gE c F1 D w
 | .nx ρ,h=>fun σ' F' H' s' ab=>h σ' F' H' (fun a o z=>s' a o (s a o z)) ab
 | .bk ρ,h=>fun σ' F' H' s' ab=>h σ' F' H' (fun a o z=>s' a o (s a o z)) ab
 | .ct ρ,h=>fun σ' F' H' s' ab=>h σ' F' H' (fun a o z=>s' a o (s a o z)) ab
 | .rt a,h=>h
def tSf(c:Ct)(E:XK)(f:Sg->R Fw):TS:=fun D σ H=>∃ ρ F,Ab c ρ σ F H/\Rk c E F H (f ρ) (gE c F D)
abbrev PSf(X:Cx)(c:Ct)(E:XK)(st:Stmt)(f:Sg->R Fw):Prop:=PS X st (tSf c E f)
abbrev i8(X:Cx)(c:Ct)(E:XK)(st:List Stmt)(f:Sg->R Fw):Prop:=PSs X st (tSf c E f)
theorem get_set{α:Type}{l:List α}{i j:Nat}{x y:α}(h:(l.set i x)[j]? = some y):(i=j/\y=x/\i < l.length)\/(i≠j/\l[j]? = some y):=by
 by_cases e:i=j
 ·subst e
  by_cases hl:i < l.length
  · rw [List.getElem?_set_self hl] at h; exact .inl ⟨rfl, (Option.some.inj h).symm, hl⟩
  · rw [List.getElem?_eq_none_iff.mpr (by rw [List.length_set]; omega)] at h; cases h
 ·rw[List.getElem?_set_ne e] at h;exact .inr ⟨e,h⟩
theorem Ab.setF{c:Ct}{ρ:Sg}{σ:L2.St}{F H:Hp}{i:Nat}{a:A}{v:V}(b:Ab c ρ σ F H)(ha:AO c F H a v)(hn:a.own=true->∀ (j:Nat) (a':A),j≠i->ρ[j]? = some (some a')->a'.own=true->σ[j]? ≠ some (some v)):Ab c (ρ.set i (some a)) (σ.set i (some v)) F H where
 len:=by rw[List.length_set,List.length_set];exact b.len
 fh:=b.fh
 slot:=fun j a' h=>by
  rcases get_set h with ⟨e,q,hl⟩|⟨ne,q⟩
  ·subst e
   cases q
   exact ⟨v,List.getElem?_set_self (by rw[<-b.len];exact hl),ha⟩
  ·rw[List.getElem?_set_ne ne];exact b.slot j a' q
 apart:=fun j k a' b' hjk h1 h2 o1 o2=>by
  rcases get_set h1 with ⟨e,q,hl⟩|⟨ne,q⟩
  ·subst e
   cases q
   rcases get_set h2 with ⟨e',q',hl'⟩|⟨ne',q'⟩
   ·exact absurd e' hjk
   ·rw[List.getElem?_set_self (by rw[<-b.len];exact hl),List.getElem?_set_ne ne']
    exact (hn o1 k b' (Ne.symm hjk) q' o2).symm
  ·rcases get_set h2 with ⟨e',q',hl'⟩|⟨ne',q'⟩
   ·subst e'
    cases q'
    rw[List.getElem?_set_self (by rw[<-b.len];exact hl'),List.getElem?_set_ne ne]
    exact hn o2 j a' hjk q o1
   ·rw[List.getElem?_set_ne ne,List.getElem?_set_ne ne']
    exact b.apart j k a' b' hjk q q' o1 o2
 f0:=b.f0
 h0:=b.h0
 n0:=b.n0
 t0:=b.t0
theorem AO.of{c:Ct}{F H:Hp}:∀ {a:A} {v:V},AF c.g c.K c.mg F a v->AO c F H a v
 | .d x,v,h=>h
 | .x e,v,h=>h
 | .g k n G,v,h=>h
 | .f kvs,v,h=>h
theorem AF.notOwn{g:Gb}{K:Frag}{mg:Str->Option Value}{F:Hp}:∀ {a:A} {v:V},AF g K mg F a v->a.own=false
 | .d x,v,h=>rfl
 | .x e,v,h=>rfl
 | .g k n G,v,h=>rfl
 | .f kvs,v,h=>rfl
theorem Ab.setA{c:Ct}{ρ:Sg}{σ:L2.St}{F H:Hp}{i:Nat}{a:A}{v:V}(b:Ab c ρ σ F H)(ha:AF c.g c.K c.mg F a v):Ab c (ρ.set i (some a)) (σ.set i (some v)) F H:=
 b.setF (AO.of ha) fun z=>by rw[AF.notOwn ha] at z;cases z
theorem Ab.setN{c:Ct}{ρ:Sg}{σ:L2.St}{F H F' H':Hp}{i:Nat}{xs:List PyData}{v:V}(b:Ab c ρ σ F H)(e:Ext F H F' H')(h:xC c xs v H F' H'):Ab c (ρ.set i (some (.l xs))) (σ.set i (some v)) F' H':=by
 obtain ⟨p,vs,rfl,h1,h2,h3,h4⟩:=h
 refine (b.ext e).setF ⟨p,vs,rfl,h2,h3,b7 b.h0 h1,h4⟩ fun _ j a' _ ha' ho=>?_
 obtain ⟨w,hw,q⟩:=b.slot j a' ha'
 rw[hw]
 intro z
 cases z
 obtain ⟨p',o',e',q1,_⟩:=q.at ho
 cases e'
 rw[h1] at q1
 cases q1
theorem Ab.putO{c:Ct}{ρ:Sg}{σ:L2.St}{F H:Hp}{i:Nat}{a a':A}{p:Addr}{o:HO}(b:Ab c ρ σ F H)(hi:ρ[i]? = some (some a))(ho:a.own=true)(hp:σ[i]? = some (some (.ref p)))(ho':a'.own=true)(hy:AO c F (upd H p o) a' (.ref p)) :
  Ab c (ρ.set i (some a')) σ F (upd H p o):=by
 obtain ⟨v,h1,q⟩:=b.slot i _ hi
 rw[hp] at h1
 cases h1
 obtain ⟨p',o',e',h2,h3,h4⟩:=q.at ho
 cases e'
 have other:∀ (j:Nat) (a:A) (w:V),j≠i->ρ[j]? = some (some a)->σ[j]? = some (some w)->AO c F H a w->AO c F (upd H p o) a w:=by
  intro j a2 w hj ha hw q2
  by_cases own:a2.own=true
  ·refine q2.off fun z=>?_
   subst z
   exact b.apart j i _ _ hj ha hi own ho (by rw[hw,hp])
  ·cases a2 with
   | l zs=>exact absurd rfl own
   | m zs=>exact absurd rfl own
   | d x=>exact q2
   | x e=>exact q2
   | g k n f=>exact q2
   | k S=>exact q2
   | f S=>exact q2
 exact {
  len:=by rw[List.length_set];exact b.len
  fh:=fun a o z=>by rw[aH (fun w=>by subst w;rw[h3] at z;cases z)];exact b.fh a o z
  slot:=fun j a h=>by
   rcases get_set h with ⟨e,q,hl⟩|⟨ne,q⟩
   ·subst e
    cases q
    exact ⟨_,hp,hy⟩
   ·obtain ⟨w,hw,q2⟩:=b.slot j a q
    exact ⟨w,hw,other j a w (Ne.symm ne) q hw q2⟩
  apart:=fun j k a' b' hjk h1 h2 o1 o2=>by
   rcases get_set h1 with ⟨e,q,hl⟩|⟨ne,q⟩
   ·subst e
    cases q
    rcases get_set h2 with ⟨e',q',hl'⟩|⟨ne',q'⟩
    ·exact absurd e' hjk
    ·exact b.apart _ k _ b' hjk hi q' ho o2
   ·rcases get_set h2 with ⟨e',q',hl'⟩|⟨ne',q'⟩
    ·subst e'
     exact b.apart j _ a' _ hjk q hi o1 ho
    ·exact b.apart j k a' b' hjk q q' o1 o2
  f0:=b.f0
  h0:=fun a o z=>by rw[aH (fun w=>by subst w;rw[h4] at z;cases z)];exact b.h0 a o z
  n0:=b.n0
  t0:=b.t0}
theorem Ab.putL{c:Ct}{ρ:Sg}{σ:L2.St}{F H:Hp}{i:Nat}{xs ys:List PyData}{p:Addr}{vs:List V}(b:Ab c ρ σ F H)(hi:ρ[i]? = some (some (.l xs)))(hp:σ[i]? = some (some (.ref p)))(hy:DatVs c.K F vs ys) :
  Ab c (ρ.set i (some (.l ys))) σ F (upd H p (.lst vs)):=by
 obtain ⟨v,h1,p',us,rfl,h2,h3,h4,h5⟩:=b.slot i _ hi
 rw[hp] at h1
 cases h1
 exact b.putO hi rfl hp rfl ⟨p,vs,rfl,aW,h3,h4,hy⟩
theorem Ab.putM{c:Ct}{ρ:Sg}{σ:L2.St}{F H:Hp}{i:Nat}{kvs kvs':List (PyData×PyData)}{p:Addr}{es:List Ent}{ep:Nat}(b:Ab c ρ σ F H)(hi:ρ[i]? = some (some (.m kvs)))(hp:σ[i]? = some (some (.ref p)))(hy:MapRel c.K F es kvs') :
  Ab c (ρ.set i (some (.m kvs'))) σ F (upd H p (dP c.w p es ep)):=by
 obtain ⟨v,h1,p',us,rfl,h2,h3,h4,h5⟩:=b.slot i _ hi
 rw[hp] at h1
 cases h1
 exact b.putO hi rfl hp rfl ⟨p,es,rfl,⟨ep,aW⟩,h3,h4,hy⟩
theorem Ab.setM{c:Ct}{ρ:Sg}{σ:L2.St}{F H F' H':Hp}{i:Nat}{kvs:List (PyData×PyData)}{p:Addr}{es:List Ent}{ep:Nat}(b:Ab c ρ σ F H)(e:Ext F H F' H')(h1:H p=none)(h2:H' p=some (dP c.w p es ep))(h3:F' p=none)(h4:MapRel c.K F' es kvs):Ab c (ρ.set i (some (.m kvs))) (σ.set i (some (.ref p))) F' H':=by
 refine (b.ext e).setF ⟨p,es,rfl,⟨ep,h2⟩,h3,b7 b.h0 h1,h4⟩ fun _ j a' _ ha' ho=>?_
 obtain ⟨w,hw,q⟩:=b.slot j a' ha'
 rw[hw]
 intro z
 cases z
 obtain ⟨p',o',e',q1,_⟩:=q.at ho
 cases e'
 rw[h1] at q1
 cases q1
noncomputable def fz(i:Nat)(ρ:Sg):Sg:=match ρ[i]? with
 | some (some (.l xs))=>ρ.set i (some (.d (.list xs)))
 | _=>ρ
theorem Ab.publ{c:Ct}{ρ:Sg}{σ:L2.St}{F H:Hp}{i:Nat}{a0 a1:A}{p:Addr}{o:HO}(b:Ab c ρ σ F H)(hi:ρ[i]? = some (some a0))(hp:σ[i]? = some (some (.ref p)))(ow:a0.own=true)(h2:H p=some o)(h3:F p=none)(h4:c.H0 p=none)(no:a1.own=false)(hr:AO c (upd F p o) H a1 (.ref p)):Ab c (ρ.set i (some a1)) σ (upd F p o) H:=by
 have sf:aG F (upd F p o):=aG.upd h3
 exact {
  len:=by rw[List.length_set];exact b.len
  fh:=fun a o' z=>by
   by_cases w:a=p
   ·subst w;rw[aW] at z;rw[h2];exact z
   ·rw[aH w] at z;exact b.fh a o' z
  slot:=fun j a h=>by
   rcases get_set h with ⟨e,q,hl⟩|⟨ne,q⟩
   ·subst e
    cases q
    exact ⟨_,hp,hr⟩
   ·obtain ⟨w,hw,q2⟩:=b.slot j a q
    refine ⟨w,hw,?_⟩
    have off:∀ r,a.own=true->w=.ref r->F r=none->upd F p o r=none:=fun r oa e f=>by
     rw[aH]
     ·exact f
     ·intro z
      subst z
      exact b.apart j i _ _ (Ne.symm ne) q hi oa ow (by rw[hw,hp,e])
    cases a with
    | l zs=>obtain ⟨r,ws,e,q1,q2,q3,q4⟩:=q2;exact ⟨r,ws,e,q1,off r rfl e q2,q3,q4.same sf⟩
    | m kvs=>obtain ⟨r,ws,e,q1,q2,q3,q4⟩:=q2;exact ⟨r,ws,e,q1,off r rfl e q2,q3,q4.same sf⟩
    | d x=>exact DatV.same sf q2
    | x e=>exact AF.same (g:=c.g) (K:=c.K) (mg:=c.mg) (a:=.x e) sf q2
    | g k n f=>exact AF.same (g:=c.g) (K:=c.K) (mg:=c.mg) (a:=.g k n f) sf q2
    | k S=>obtain ⟨S,f,cl,doc,pm,cc,ct,h0,h1,h2,h3,h4⟩:=q2;exact ⟨S,f,cl,doc,pm,cc,ct,h0,h1,sf _ _ h2,sf _ _ h3,h4⟩
    | f kvs=>exact AF.same (g:=c.g) (K:=c.K) (mg:=c.mg) (a:=.f kvs) sf q2
  apart:=fun j k a' b' hjk h1 h2 o1 o2=>by
   rcases get_set h1 with ⟨e,q,hl⟩|⟨ne,q⟩
   ·cases q;rw[no] at o1;cases o1
   ·rcases get_set h2 with ⟨e',q',hl'⟩|⟨ne',q'⟩
    ·cases q';rw[no] at o2;cases o2
    ·exact b.apart j k a' b' hjk q q' o1 o2
  f0:=fun a o z=>sf a o (b.f0 a o z)
  h0:=b.h0
  n0:=fun a z n=>by
   by_cases w:a=p
   ·subst w;exact .inl h4
   ·rw[aH w] at n;exact b.n0 a z n
  t0:=b.t0}
theorem Ab.frz{c:Ct}{ρ:Sg}{σ:L2.St}{F H:Hp}(b:Ab c ρ σ F H)(i:Nat):∃ F',aG F F'/\Ab c (fz i ρ) σ F' H:=by
 unfold fz
 split
 ·rename_i xs hi
  obtain ⟨v,hp,p,vs,rfl,h2,h3,h4,h5⟩:=b.slot i _ hi
  exact ⟨_,aG.upd h3,b.publ hi hp rfl h2 h3 h4 rfl (.lst (SqL.of aW) (h5.same (aG.upd h3)))⟩
 ·exact ⟨F,bN F,b⟩
noncomputable def aIL:PyData->PyData->R PyData
 | .int i,.int j=>.ok (.int (i+j))
 | _,_=>.bad
section
variable{X:Cx}{c:Ct}{E:XK}{e a b:Expr}{st:Stmt}{rest:List Stmt}{pos:Pos}
def sFz(i:Nat)(f:Sg->R Fw):Sg->R Fw:=fun ρ=>f (fz i ρ)
theorem rZ(i:Nat){f:Sg->R Fw}(h:PSf X c E st f):PSf X c E st (sFz i f):=PS.imp h fun D σ H zz0=>by
 obtain ⟨ρ,F,ab,k⟩:=zz0
 obtain ⟨F',s,ab'⟩:=ab.frz i
 refine ⟨fz i ρ,F',ab',?_⟩
 have k':Rk c E F H (f (fz i ρ)) (gE c F D):=k
 cases q:f (fz i ρ) with
 | bad=>rw[q] at k';exact k'
 | ok w=>rw[q] at k';exact gE.same s k'
 | ex e=>rw[q] at k';exact k'
noncomputable def sNx:Sg->R Fw:=fun ρ=>.ok (.nx ρ)
def aL(f g:Sg->R Fw):Sg->R Fw:=fun ρ=>(f ρ).bind fun w=>match w with
 | .nx ρ'=>g ρ'
 | w=>.ok w
theorem dH:i8 X c E [] sNx:=PSs.imp L2.dH fun D σ H ⟨ρ,F,ab,k⟩=>Rk.ok k σ F H (bN F) ab
theorem aO{f:Sg->R Fw}(h:PSf X c E st f):i8 X c E [st] f:=L2.aO h
theorem aI{f g:Sg->R Fw}(h:PSf X c E st f)(h2:i8 X c E rest g):i8 X c E (st::rest) (aL f g):=PSs.imp (L2.aI h h2) fun D σ H zz0=>by
 obtain ⟨ρ,F,ab,k⟩:=zz0
 refine ⟨ρ,F,ab,(Rk.bind k).imp fun w _ q=>?_⟩
 cases w with
 | nx ρ'=>
  intro σ' F' H' s ab'
  refine ⟨ρ',F',ab',?_⟩
  have q':Rk c E F H (g ρ') (gE c F D):=q
  cases eg:g ρ' with
  | bad=>rw[eg] at q';exact q'
  | ok w=>rw[eg] at q';exact gE.same s q'
  | ex e=>rw[eg] at q';exact q'
 | bk ρ'=>exact q
 | ct ρ'=>exact q
 | rt a=>exact q
def bJ(f:Sg->R A):Sg->R Fw:=fun ρ=>(f ρ).bind fun a=>.ok (.rt a)
theorem bO{f:Sg->R A}(h:PV X c E e f):PSf X c E (.Return (some e) pos) (bJ f):=PS.imp (L2.bO h) fun D σ H ⟨ρ,F,ab,k⟩=>
 ⟨ρ,F,ab,(Rk.bind k).imp fun a _ q v F' H' s r=>Rk.ok q v F' H' (ab.all.trans s) (AR.of r)⟩
noncomputable def aIM:Sg->R Fw:=fun _=>.ok (.rt (.d .none))
def sIf(t:Sg->R Bool)(f g:Sg->R Fw):Sg->R Fw:=fun ρ=>(t ρ).bind fun b=>if b=true then f ρ else g ρ
theorem Rk.fw{F F1 H H1:Hp}{D:iB}{r:R Fw}(s:aG F F1)(k:Rk c E F H r (gE c F D)):Rk c E F1 H1 r (gE c F1 D):=by
 cases r with
 | bad=>exact k
 | ok w=>exact gE.same s k
 | ex e=>exact k
theorem eX{q:Expr}{sa sb:List Stmt}{t:Sg->R Bool}{f g:Sg->R Fw}(hq:PTf X c E q t)(ha:i8 X c E sa f)(hb:i8 X c E sb g):PSf X c E (.If q sa sb pos) (sIf t f g):=PS.imp (L2.eX hq ha hb) fun D σ H zz0=>by
 obtain ⟨ρ,F,ab,k⟩:=zz0
 refine ⟨ρ,F,ab,(Rk.bind k).imp fun b _ q F' H' s=>?_⟩
 cases b with
 | true=>exact sK ⟨ρ,F',ab.ext s,Rk.fw s.ff q⟩
 | false=>exact sJ ⟨ρ,F',ab.ext s,Rk.fw s.ff q⟩
def bF(i:Nat)(f:Sg->R A):Sg->R Fw:=fun ρ=>(f ρ).bind fun a=>.ok (.nx (ρ.set i (some a)))
theorem aM{i:Nat}{f:Sg->R A}(h:PS X st (i6 (tV (aA6 c) c E f) (g8 i))):PSf X c E st (bF i f):=PS.imp h fun D σ H ⟨ρ,F,ab,k⟩=>
 ⟨ρ,F,ab,(Rk.bind k).imp fun a _ q v F' H' s r=>Rk.ok q _ F' H' s.ff ((ab.ext s).setA r)⟩
def fO(i:Nat)(f:Sg->R (List PyData)):Sg->R Fw:=fun ρ=>(f ρ).bind fun xs=>.ok (.nx (ρ.set i (some (.l xs))))
theorem jI{i:Nat}{f:Sg->R (List PyData)}(h:PS X st (i6 (tV (xC c) c E f) (g8 i))):PSf X c E st (fO i f):=PS.imp h fun D σ H ⟨ρ,F,ab,k⟩=>
 ⟨ρ,F,ab,(Rk.bind k).imp fun a _ q v F' H' s r=>Rk.ok q _ F' H' s.ff (ab.setN s r)⟩
def aCH(f:Sg->R A):Sg->R Fw:=fun ρ=>(f ρ).bind fun _=>.ok (.nx ρ)
theorem iC{f:Sg->R A}(h:PS X st (wL (tV (aA6 c) c E f))):PSf X c E st (aCH f):=PS.imp h fun D σ H ⟨ρ,F,ab,k⟩=>
 ⟨ρ,F,ab,(Rk.bind k).imp fun a _ q v F' H' s r=>Rk.ok q _ F' H' s.ff (ab.ext s)⟩
def gQ(i:Nat)(f:Sg->R PyData):Sg->R Fw:=fun ρ=>match ρ[i]? with
 | some (some (.l xs))=>(f ρ).bind fun x=>if xs.length < 16777216 then .ok (.nx (ρ.set i (some (.l (xs++[x]))))) else .bad
 | _=>.bad
theorem kN{i:Nat}{f:Sg->R PyData}(hK:X.K=c.K)(h:PS X st (wL (tBM X.K "list" vC (i5 i) (iN (tV (cM c) c E f) kZ)))):PSf X c E st (gQ i f):=PS.imp h fun D σ H ⟨ρ,F,ab,k⟩=>by
 unfold gQ at k
 split at k
 ·rename_i xs hi
  obtain ⟨v,hp,p,vs,rfl,h2,h3,h4,h5⟩:=ab.slot i _ hi
  refine ⟨_,hp,.inl ⟨rfl,vs,SqL.of h2⟩,ρ,F,ab,(Rk.bind k).imp fun x _ q u F1 H1 s1 r1=>?_⟩
  by_cases hz:xs.length < 16777216
  ·rw[if_pos hz] at q
   refine ⟨p,vs,u,rfl,rfl,s1.hh _ _ h2,by rw[h5.length,dX];exact hz,?_⟩
   exact Rk.ok q σ F1 _ s1.ff ((ab.ext s1).putL hi hp ((h5.same s1.ff).append (.cons r1 .nil)))
  ·rw[if_neg hz] at q;exact q.elim
 ·exact k.elim
def aJ8(i:Nat)(g:PyData->PyData->R PyData)(f:Sg->R PyData):Sg->R Fw:=fun ρ=>(eV i ρ).bind fun x=>(f ρ).bind fun y=>(g x y).bind fun z=>.ok (.nx (ρ.set i (some (.d z))))
end
end Fl
namespace Fl
open PySem L2 PyProof.Rows
def Tg(c:Ct)(g:TG)(fs:PyData->Sg->Option Sg)(is:List Nat):Prop:=∀ (v:V) (x:PyData) (ρ ρ':Sg) (σ:L2.St) (F H:Hp) (Q:L2.St->Hp->Prop),Ab c ρ σ F H->DatV c.K F v x->fs x ρ=some ρ'->
 (∀ σ':L2.St,σ'.length=σ.length->(∀ j:Nat,j∉is->σ'[j]? = σ[j]?)->Ab c ρ' σ' F H->Q σ' H)->g v σ H Q
noncomputable def stN(i:Nat):PyData->Sg->Option Sg:=fun x ρ=>some (ρ.set i (some (.d x)))
theorem cJ{c:Ct}(i:Nat):Tg c (g8 i) (stN i) [i]:=fun v x ρ ρ' σ F H Q ab r e q=>by
 cases e
 exact q _ List.length_set (fun j hj=>List.getElem?_set_ne (by intro z;subst z;exact hj (by simp))) (ab.setA (a:=.d x) r)
noncomputable def stL:List (PyData->Sg->Option Sg)->List PyData->Sg->Option Sg
 | [],[],ρ=>some ρ
 | f::fs,x::xs,ρ=>(f x ρ).bind (stL fs xs)
 | _,_,_=>none
def Tgs(c:Ct)(g:TGs)(fs:List (PyData->Sg->Option Sg))(is:List Nat):Prop:=∀ (vs:List V) (xs:List PyData) (ρ ρ':Sg) (σ:L2.St) (F H:Hp) (Q:L2.St->Hp->Prop),Ab c ρ σ F H->DatVs c.K F vs xs->stL fs xs ρ=some ρ'->
 (∀ σ':L2.St,σ'.length=σ.length->(∀ j:Nat,j∉is->σ'[j]? = σ[j]?)->Ab c ρ' σ' F H->Q σ' H)->g vs σ H Q
theorem pY{c:Ct}:Tgs c kY [] []:=fun vs xs ρ ρ' σ F H Q ab r e q=>by
 cases xs with
 | nil=>cases e;exact ⟨by cases r;rfl,q σ rfl (fun _ _=>rfl) ab⟩
 | cons x t=>cases e
theorem iI{c:Ct}{g:TG}{gs:TGs}{f:PyData->Sg->Option Sg}{fs:List (PyData->Sg->Option Sg)}{is js:List Nat}(h:Tg c g f is)(h2:Tgs c gs fs js):Tgs c (aB4 g gs) (f::fs) (is++js):=fun vs xs ρ ρ' σ F H Q ab r e q=>by
 cases r with
 | nil=>cases e
 | cons r1 r2=>
  rename_i x d vs ds
  have e':(f d ρ).bind (stL fs ds)=some ρ':=e
  cases e1:f d ρ with
  | none=>rw[e1] at e';cases e'
  | some ρ1=>
   rw[e1] at e'
   refine ⟨_,_,rfl,h _ _ ρ ρ1 σ F H _ ab r1 e1 fun σ1 l1 k1 ab1=>h2 _ _ ρ1 ρ' σ1 F H _ ab1 r2 e' fun σ2 l2 k2 ab2=>q σ2 (l2.trans l1) (fun j hj=>?_) ab2⟩
   rw[List.mem_append,not_or] at hj
   exact (k2 j hj.2).trans (k1 j hj.1)
noncomputable def stT(fs:List (PyData->Sg->Option Sg)):PyData->Sg->Option Sg:=fun x ρ=>match x with
 | .tuple xs=>stL fs xs ρ
 | _=>none
theorem vL:∀ {fs:List (PyData->Sg->Option Sg)} {xs:List PyData} {ρ ρ':Sg},stL fs xs ρ=some ρ'->xs.length=fs.length
 | [],[],_,_,_=>rfl
 | [],_::_,_,_,h=>by cases h
 | _::_,[],_,_,h=>by cases h
 | f::fs,x::xs,ρ,ρ',h=>by
  have h':(f x ρ).bind (stL fs xs)=some ρ':=h
  cases e:f x ρ with
  | none=>rw[e] at h';cases h'
  | some ρ1=>
   rw[e] at h'
   have:=vL (fs:=fs) (xs:=xs) h'
   simp[this]
theorem tF{c:Ct}{gs:TGs}{fs:List (PyData->Sg->Option Sg)}{is:List Nat}{n:Nat}{K:Frag}(hK:K=c.K)(h:Tgs c gs fs is)(hn:fs.length=n):Tg c (aFH K n gs) (stT fs) is:=fun v x ρ ρ' σ F H Q ab r e q=>by
 cases x with
 | tuple xs=>
  obtain ⟨a,vs,rfl,h1,h2⟩:=r.tup_of
  subst hK
  exact ⟨a,vs,rfl,h1.same ab.fh,by rw[h2.length,vL e,hn],h vs xs ρ ρ' σ F H Q ab h2 e q⟩
 | _=>cases e
structure Yld(K:Frag)(J:It)(F B:Hp)(xs:List PyData):Prop where
 len:xs.length<=sizeLine
 go:∀ (i:Nat) F1 H1,aG F F1->aG F1 H1->aG B H1->i < xs.length->J.go i H1
 yld:∀ (i:Nat) F1 H1 v H2 x,aG F F1->aG F1 H1->aG B H1->J.yld i H1 v H2->xs[i]? = some x->∃ F2,Ext F1 H1 F2 H2/\DatV K F2 v x
 stop:∀ F1 H1,aG F F1->aG F1 H1->aG B H1->J.stop xs.length H1
def tI(c:Ct)(E:XK)(f:Sg->R (List PyData)):TI:=fun σ H Rr=>∃ ρ F,Ab c ρ σ F H/\Rk c E F H (f ρ) fun xs=>∀ J B F' H',Ext F H F' H'->aG B H'->Yld c.K J F' B xs->Rr J H'
def tI0(c:Ct)(E:XK)(f:Sg->R (List PyData)):TI:=fun σ H Rr=>∃ ρ F,Ab c ρ σ F H/\Rk c E F H (f ρ) fun xs=>∀ J F' H',Ext F H F' H'->Yld c.K J F' (fun _=>none) xs->Rr J H'
theorem PI.imp{X:Cx}{tg e:Expr}{t t':TI}(h:PI X tg e t)(i:∀ σ H Q,t' σ H Q->t σ H Q):PI X tg e t':=fun pins s σ H Q I q=>h pins s σ H Q I (i σ H Q q)
abbrev PIf(X:Cx)(c:Ct)(E:XK)(tg e:Expr)(f:Sg->R (List PyData)):Prop:=PI X tg e (tI c E f)
abbrev PI0(X:Cx)(c:Ct)(E:XK)(tg e:Expr)(f:Sg->R (List PyData)):Prop:=PI X tg e (tI0 c E f)
theorem o8{X:Cx}{c:Ct}{E:XK}{tg e:Expr}{f:Sg->R (List PyData)}(h:PI0 X c E tg e f):PIf X c E tg e f:=PI.imp h fun σ H Q ⟨ρ,F,ab,k⟩=>
 ⟨ρ,F,ab,k.imp fun xs _ q J F' H' s y=>q J (fun _=>none) F' H' s (fun _ _ z=>nomatch z) y⟩
def mH{H:Hp}:aG (fun _=>none) H:=fun _ _ z=>nomatch z
noncomputable def c6:PyData->R (List PyData)
 | .list xs=>if xs.length<=16777216 then .ok xs else .bad
 | .tuple xs=>if xs.length<=16777216 then .ok xs else .bad
 | .str z=>if z.cps.toList.length<=16777216 then .ok (z.cps.toList.map fun u=>.str ⟨#[u]⟩) else .bad
 | _=>.bad
theorem tG{K:Frag}{F B H:Hp}{a:Addr}{vs:List V}{xs:List PyData}(hz:xs.length<=16777216)(hs:∀ H1,aG F H1->aG B H1->SqL K H1 a vs)(hd:DatVs K F vs xs):Yld K (Itl K a) F B xs where
 len:=by rw[dX];exact hz
 go:=fun i F1 H1 h1 h2 h3 hi=>by
  have q:=hs H1 (fun x o z=>h2 x o (h1 x o z)) h3
  exact ⟨vs,vs[i]'(by rw[hd.length];exact hi),q,by simp⟩
 yld:=fun i F1 H1 v H2 x h1 h2 h3 y e=>by
  obtain ⟨rfl,y⟩:=y
  have q:=y vs (hs _ (fun x o z=>h2 x o (h1 x o z)) h3)
  obtain ⟨d,e2,r⟩:=hd.get q
  rw[e] at e2
  cases e2
  exact ⟨F1,Ext.refl h2,r.same h1⟩
 stop:=fun F1 H1 h1 h2 h3=>⟨vs,hs H1 (fun x o z=>h2 x o (h1 x o z)) h3,by rw[hd.length];exact Nat.le_refl _⟩
theorem vM{K:Frag}{F B:Hp}{a:Addr}{vs:List V}{xs:List PyData}(hz:xs.length<=16777216)(hs:SqT K F a vs)(hd:DatVs K F vs xs):Yld K (Itt K a) F B xs where
 len:=by rw[dX];exact hz
 go:=fun i F1 H1 h1 h2 h3 hi=>by
  have q:=hs.same (H':=H1) (fun x o z=>h2 x o (h1 x o z))
  exact ⟨vs,vs[i]'(by rw[hd.length];exact hi),q,by simp⟩
 yld:=fun i F1 H1 v H2 x h1 h2 h3 y e=>by
  obtain ⟨rfl,y⟩:=y
  have q:=y vs (hs.same (fun x o z=>h2 x o (h1 x o z)))
  obtain ⟨d,e2,r⟩:=hd.get q
  rw[e] at e2
  cases e2
  exact ⟨F1,Ext.refl h2,r.same h1⟩
 stop:=fun F1 H1 h1 h2 h3=>⟨vs,hs.same (fun x o z=>h2 x o (h1 x o z)),by rw[hd.length];exact Nat.le_refl _⟩
theorem vN{K:Frag}{F B:Hp}{z:Str}(hz:z.cps.toList.length<=16777216):Yld K (Its z) F B (z.cps.toList.map fun u=>.str ⟨#[u]⟩) where
 len:=by rw[dX,List.length_map];exact hz
 go:=fun i F1 H1 h1 h2 h3 hi=>by
  rw[List.length_map,Array.length_toList] at hi
  exact hi
 yld:=fun i F1 H1 v H2 x h1 h2 h3 y e=>by
  obtain ⟨rfl,u,hu,rfl⟩:=y
  rw[List.getElem?_map,Array.getElem?_toList,hu] at e
  cases e
  exact ⟨F1,Ext.refl h2,.str _⟩
 stop:=fun F1 H1 h1 h2 h3=>by
  show (z.cps.toList.map _).length=z.cps.size
  rw[List.length_map,Array.length_toList]
section
variable{X:Cx}{c:Ct}{E:XK}{tg e a b:Expr}{pos:Pos}
theorem aGF{f:Sg->R PyData}(hK:X.K=c.K)(h:PD X c E e f):PI0 X c E tg e (e1 c6 f):=PI.imp (PI.or (yS h) (yZ h)) fun σ H Q ⟨ρ,F,ab,k⟩=>by
 have k':=Rk.bind k
 cases hf:f ρ with
 | bad=>rw[hf] at k';exact k'.elim
 | ex x=>rw[hf] at k';exact .inl ⟨ρ,F,ab,by rw[hf];exact k'⟩
 | ok d=>
  rw[hf] at k'
  have k2:=Rk.ok k'
  unfold c6 at k2
  split at k2
  ·rename_i xs
   split at k2
   ·rename_i hz
    refine .inl ⟨ρ,F,ab,?_⟩
    rw[hf]
    intro v F' H' s r
    obtain ⟨p,vs,rfl,h1,h2⟩:=DatV.lst_of r
    refine ⟨p,rfl,.inl ⟨⟨vs,?_⟩,?_⟩⟩
    · rw [hK]; exact h1.same s.fh
    · rw [hK]; exact Rk.ok k2 _ F' H' s (tG (H := H') hz (fun H1 q _ => h1.same q) h2)
   ·exact k2.elim
  ·rename_i xs
   split at k2
   ·rename_i hz
    refine .inl ⟨ρ,F,ab,?_⟩
    rw[hf]
    intro v F' H' s r
    obtain ⟨p,vs,rfl,h1,h2⟩:=DatV.tup_of r
    refine ⟨p,rfl,.inr ⟨⟨vs,?_⟩,?_⟩⟩
    · rw [hK]; exact h1.same s.fh
    · rw [hK]; exact Rk.ok k2 _ F' H' s (vM hz h1 h2)
   ·exact k2.elim
  ·rename_i z
   split at k2
   ·rename_i hz
    refine .inr ⟨ρ,F,ab,?_⟩
    rw[hf]
    intro v F' H' s r
    obtain rfl:=DatV.str_of r
    exact ⟨z,rfl,Rk.ok k2 _ F' H' s (vN hz)⟩
   ·exact k2.elim
  ·exact k2.elim
theorem xI{f:Sg->R PyData}(hK:X.K=c.K)(h:PR X c E e f):PIf X c E tg e (e1 c6 f):=PI.imp (PI.or (yS h) (yZ h)) fun σ H Q ⟨ρ,F,ab,k⟩=>by
 have k':=Rk.bind k
 cases hf:f ρ with
 | bad=>rw[hf] at k';exact k'.elim
 | ex x=>rw[hf] at k';exact .inl ⟨ρ,F,ab,by rw[hf];exact k'⟩
 | ok d=>
  rw[hf] at k'
  have k2:=Rk.ok k'
  unfold c6 at k2
  split at k2
  ·rename_i xs
   split at k2
   ·rename_i hz
    refine .inl ⟨ρ,F,ab,?_⟩
    rw[hf]
    intro v F' H' s r
    obtain ⟨p,vs,rfl,h1,h2⟩:=aU.lst_of s.fh r
    refine ⟨p,rfl,.inl ⟨⟨vs,?_⟩,?_⟩⟩
    · rw [hK]; exact h1
    · rw [hK]; exact Rk.ok k2 _ H' F' H' s (bN _) (tG (H := H') hz (fun H1 _ q => h1.same q) h2)
   ·exact k2.elim
  ·rename_i xs
   split at k2
   ·rename_i hz
    refine .inl ⟨ρ,F,ab,?_⟩
    rw[hf]
    intro v F' H' s r
    obtain ⟨p,vs,rfl,h1,_,h2⟩:=aU.tup_of s.fh r
    refine ⟨p,rfl,.inr ⟨⟨vs,?_⟩,?_⟩⟩
    · rw [hK]; exact h1.same s.fh
    · rw [hK]; exact Rk.ok k2 _ H' F' H' s (bN _) (vM hz h1 h2)
   ·exact k2.elim
  ·rename_i z
   split at k2
   ·rename_i hz
    refine .inr ⟨ρ,F,ab,?_⟩
    rw[hf]
    intro v F' H' s r
    obtain rfl:=aU.str_of r
    exact ⟨z,rfl,Rk.ok k2 _ H' F' H' s (bN _) (vN hz)⟩
   ·exact k2.elim
  ·exact k2.elim
noncomputable def jQ(lo:Int)(n:Nat):List PyData:=(List.range n).map fun i:Nat=>.int (lo+i)
def eR(lo hi:Int):R (List PyData):=if -4611686018427387904<=lo/\lo < 4611686018427387904 /\ -4611686018427387904<=hi/\hi < 4611686018427387904/\hi - lo<=16777216 then .ok (jQ lo (hi - lo).toNat) else .bad
def dA(f:Sg->R PyData):Sg->R (List PyData):=fun ρ=>(f ρ).bind fun x=>match x with
 | .int j=>eR 0 j
 | _=>.bad
def aDM(f g:Sg->R PyData):Sg->R (List PyData):=fun ρ=>(f ρ).bind fun x=>(g ρ).bind fun y=>match x,y with
 | .int i,.int j=>eR i j
 | _,_=>.bad
theorem zL{K:Frag}{F B:Hp}{lo:Int}{n:Nat}(hz:n<=16777216):Yld K (Itr lo n) F B (jQ lo n) where
 len:=by unfold jQ;rw[dX,List.length_map,List.length_range];exact hz
 go:=fun i F1 H1 h1 h2 h3 hi=>by unfold jQ at hi;rw[List.length_map,List.length_range] at hi;exact hi
 yld:=fun i F1 H1 v H2 x h1 h2 h3 y e=>by
  obtain ⟨rfl,rfl⟩:=y
  unfold jQ at e
  rw[List.getElem?_map] at e
  cases q:(List.range n)[i]? with
  | none=>rw[q] at e;cases e
  | some j=>
   rw[q] at e
   cases e
   obtain ⟨hl,hv⟩:=List.getElem?_eq_some_iff.mp q
   rw[List.getElem_range] at hv
   subst hv
   exact ⟨F1,Ext.refl h2,.int _⟩
 stop:=fun F1 H1 h1 h2 h3=>by show n<=_;unfold jQ;rw[List.length_map,List.length_range];exact Nat.le_refl _
theorem gZ{f:Sg->R PyData}(h:PI X tg e (aB5 (iN (tV (bI c) c E f) kZ))):PI0 X c E tg e (dA f):=PI.imp h fun σ H Q ⟨ρ,F,ab,k⟩=>by
 refine ⟨ρ,F,ab,(Rk.bind k).imp fun x _ q v F' H' s r=>?_⟩
 cases x with
 | int j=>
  have q':Rk c E F H (eR 0 j) _:=q
  unfold eR at q'
  split at q'
  ·rename_i hz
   obtain rfl:=aU.int_of r
   refine ⟨j,rfl,by omega,by omega,?_⟩
   have e0:(j - 0).toNat=j.toNat:=by rw[Int.sub_zero]
   rw[<-e0]
   exact Rk.ok q' _ F' H' s (zL (by omega))
  ·exact q'.elim
 | _=>exact q.elim
end
end Fl
namespace Fl
open PySem L2 PyProof.Rows
noncomputable def fA(js:List (Option Nat))(ρ:Sg):Sg:=js.map fun o=>o.bind fun j=>(ρ[j]?).join
theorem pZ{α:Type}{js:List (Option Nat)}{ρ:List (Option α)}{i:Nat}{a:α}(h:(js.map fun o=>o.bind fun j=>(ρ[j]?).join)[i]? = some (some a)):∃ j,js[i]? = some (some j)/\ρ[j]? = some (some a):=by
 rw[List.getElem?_map] at h
 cases e:js[i]? with
 | none=>rw[e] at h;cases h
 | some o=>
  rw[e] at h
  have h':(o.bind fun j=>(ρ[j]?).join)=some a:=Option.some.inj h
  cases o with
  | none=>cases h'
  | some j=>
   have h2:(ρ[j]?).join=some a:=h'
   cases e2:ρ[j]? with
   | none=>rw[e2] at h2;cases h2
   | some o2=>rw[e2] at h2;have:o2=some a:=h2;subst this;exact ⟨j,rfl,e2⟩
theorem p0{α:Type}{js:List (Option Nat)}{ρ:List (Option α)}{i j:Nat}{a:α}(h:js[i]? = some (some j))(h2:ρ[j]? = some (some a)):(js.map fun o=>o.bind fun j=>(ρ[j]?).join)[i]? = some (some a):=by
 rw[List.getElem?_map,h]
 show some ((ρ[j]?).join)=_
 rw[h2];rfl
def p4(js:List (Option Nat)):Prop:=∀ (i k j:Nat),js[i]? = some (some j)->js[k]? = some (some j)->i=k
theorem o9{js:List (Option Nat)}(h:js.Pairwise fun a b=>a=none\/a≠b):p4 js:=fun i k j h1 h2=>by
 obtain ⟨l1,e1⟩:=List.getElem?_eq_some_iff.mp h1
 obtain ⟨l2,e2⟩:=List.getElem?_eq_some_iff.mp h2
 rw[List.pairwise_iff_getElem] at h
 rcases Nat.lt_trichotomy i k with q|q|q
 ·rcases h i k l1 l2 q with z|z
  · rw [e1] at z; cases z
  · exact absurd (e1.trans e2.symm) z
 ·exact q
 ·rcases h k i l2 l1 q with z|z
  · rw [e2] at z; cases z
  · exact absurd (e2.trans e1.symm) z
theorem Ab.cap{c:Ct}{ρ:Sg}{σ σ0:L2.St}{F H:Hp}{js:List (Option Nat)}(b:Ab c ρ σ F H)(ho:p4 js)(k:cZ (iF js σ) σ0):Ab c (fA js ρ) σ0 F H where
 len:=by rw[k.1];unfold fA iF;rw[List.length_map,List.length_map]
 fh:=b.fh
 slot:=fun i a h=>by
  obtain ⟨j,h1,h2⟩:=pZ h
  obtain ⟨v,h3,h4⟩:=b.slot j a h2
  exact ⟨v,k.2 i v (p0 h1 h3),h4⟩
 apart:=fun i i' a a' hne h h' o o'=>by
  obtain ⟨j,h1,h2⟩:=pZ h
  obtain ⟨j',h1',h2'⟩:=pZ h'
  have hj:j≠j':=fun z=>hne (ho i i' j h1 (by rw[h1',z]))
  obtain ⟨v,h3,_⟩:=b.slot j a h2
  obtain ⟨v',h3',_⟩:=b.slot j' a' h2'
  rw[k.2 i v (p0 h1 h3),k.2 i' v' (p0 h1' h3'),<-h3,<-h3']
  exact b.apart j j' a a' hj h2 h2' o o'
 f0:=b.f0
 h0:=b.h0
 n0:=b.n0
 t0:=b.t0
noncomputable def R.noEx{α:Type}:R α->R α
 | .ex _=>.bad
 | r=>r
@[simp] theorem R.noEx_ok{α:Type}(a:α):(R.ok a).noEx=.ok a:=id rfl
noncomputable def tH{α:Type}:Option α->R α
 | some a=>.ok a
 | none=>.bad
@[simp] theorem rC{α:Type}(a:α):tH (some a)=.ok a:=id rfl
noncomputable def compL(fs:PyData->Sg->Option Sg)(ft:Sg->R Bool)(fe:Sg->R PyData)(ρ0:Sg):List PyData->R (List PyData)
 | []=>.ok []
 | x::t=>(tH (fs x ρ0)).bind fun ρ1=>(ft ρ1).noEx.bind fun b=>if b=true then (fe ρ1).noEx.bind fun y=>(compL fs ft fe ρ0 t).bind fun ys=>.ok (y::ys) else compL fs ft fe ρ0 t
theorem lI{fs:PyData->Sg->Option Sg}{ft:Sg->R Bool}{fe:Sg->R PyData}{ρ0:Sg}{e:Er}:∀ {xs:List PyData},compL fs ft fe ρ0 xs≠.ex e
 | []=>fun h=>by cases h
 | x::t=>fun h=>by
  unfold compL at h
  cases h1:fs x ρ0 with
  | none=>rw[h1] at h;cases h
  | some ρ1=>
   rw[h1] at h
   have h:((ft ρ1).noEx.bind fun b=>if b=true then (fe ρ1).noEx.bind fun y=>(compL fs ft fe ρ0 t).bind fun ys=>.ok (y::ys) else compL fs ft fe ρ0 t)=.ex e:=h
   cases h2:ft ρ1 with
   | bad=>rw[h2] at h;cases h
   | ex _=>rw[h2] at h;cases h
   | ok b=>
    rw[h2] at h
    have h:(if b=true then (fe ρ1).noEx.bind fun y=>(compL fs ft fe ρ0 t).bind fun ys=>.ok (y::ys) else compL fs ft fe ρ0 t)=.ex e:=h
    cases b with
    | false=>exact lI (xs:=t) h
    | true=>
     have h:((fe ρ1).noEx.bind fun y=>(compL fs ft fe ρ0 t).bind fun ys=>.ok (y::ys))=.ex e:=h
     cases h3:fe ρ1 with
     | bad=>rw[h3] at h;cases h
     | ex _=>rw[h3] at h;cases h
     | ok y=>
      rw[h3] at h
      have h:((compL fs ft fe ρ0 t).bind fun ys=>.ok (y::ys))=.ex e:=h
      cases h4:compL fs ft fe ρ0 t with
      | bad=>rw[h4] at h;cases h
      | ex e'=>exact lI (xs:=t) (e:=e') h4
      | ok ys=>rw[h4] at h;cases h
theorem xJ{fs:PyData->Sg->Option Sg}{ft:Sg->R Bool}{fe:Sg->R PyData}{ρ0:Sg}{x:PyData}{t ys:List PyData}(h:compL fs ft fe ρ0 (x::t)=.ok ys) :
  ∃ ρ1 b,fs x ρ0=some ρ1/\ft ρ1=.ok b/\((b=true/\∃ y zs,fe ρ1=.ok y/\compL fs ft fe ρ0 t=.ok zs/\ys=y::zs)\/(b=false/\compL fs ft fe ρ0 t=.ok ys)):=by
 unfold compL at h
 cases h1:fs x ρ0 with
 | none=>rw[h1] at h;cases h
 | some ρ1=>
  rw[h1] at h
  have h:((ft ρ1).noEx.bind fun b=>if b=true then (fe ρ1).noEx.bind fun y=>(compL fs ft fe ρ0 t).bind fun ys=>.ok (y::ys) else compL fs ft fe ρ0 t)=.ok ys:=h
  cases h2:ft ρ1 with
  | bad=>rw[h2] at h;cases h
  | ex _=>rw[h2] at h;cases h
  | ok b=>
   rw[h2] at h
   have h:(if b=true then (fe ρ1).noEx.bind fun y=>(compL fs ft fe ρ0 t).bind fun ys=>.ok (y::ys) else compL fs ft fe ρ0 t)=.ok ys:=h
   refine ⟨ρ1,b,rfl,h2,?_⟩
   cases b with
   | false=>exact .inr ⟨rfl,h⟩
   | true=>
    refine .inl ⟨rfl,?_⟩
    have h:((fe ρ1).noEx.bind fun y=>(compL fs ft fe ρ0 t).bind fun ys=>.ok (y::ys))=.ok ys:=h
    cases h3:fe ρ1 with
    | bad=>rw[h3] at h;cases h
    | ex _=>rw[h3] at h;cases h
    | ok y=>
     rw[h3] at h
     have h:((compL fs ft fe ρ0 t).bind fun ys=>.ok (y::ys))=.ok ys:=h
     cases h4:compL fs ft fe ρ0 t with
     | bad=>rw[h4] at h;cases h
     | ex e'=>rw[h4] at h;cases h
     | ok zs=>rw[h4] at h;cases h;exact ⟨y,zs,rfl,rfl,rfl⟩
def eH(js:List (Option Nat))(fi:Sg->R (List PyData))(fs:PyData->Sg->Option Sg)(ft:Sg->R Bool)(fe:Sg->R PyData):Sg->R (List PyData):=fun ρ=>(fi ρ).bind fun xs=>compL fs ft fe (fA js ρ) xs
noncomputable def gF:Sg->R Bool:=fun _=>.ok true
section
variable{X:Cx}{c:Ct}{E:XK}{e a b:Expr}{pos:Pos}
theorem eP:L2.PIf X [] (tTf c E gF):=fun pins s σ H Q I ⟨ρ,F,ab,k⟩=>L2.eP pins s σ H Q I (Rk.ok k F H (Ext.refl ab.fh))
theorem aA8{js:List (Option Nat)}{is:List Nat}{σ σ0 σ1:L2.St}(k:cZ (iF js σ) σ0)(hl:σ1.length=σ0.length)(h:∀ j:Nat,j∉is->σ1[j]? = σ0[j]?)(hi:∀ i∈is,js[i]? = some none):cZ (iF js σ) σ1:=
 ⟨hl.trans k.1,fun i v e=>by
  by_cases q:i∈is
  ·unfold iF at e
   rw[List.getElem?_map,hi i q] at e
   cases e
  ·rw[h i q];exact k.2 i v e⟩
theorem rD{N:List Str}{js:List (Option Nat)}{scope:Scope}{tg elt:Expr}{ifs:List Expr}{fi:Sg->R (List PyData)}{fs:PyData->Sg->Option Sg}{ft:Sg->R Bool}{fe:Sg->R PyData}{is:List Nat}(ho:p4 js)(hi:∀ i∈is,js[i]? = some none)
  (hb:∀ (cl:List (Str×Addr)) (C:Addr) (s:Shared) (H0:Hp) (fp:List Addr),∃ g,PG (eO X N scope cl C s H0 fp) tg g/\Tg c g fs is/\L2.PIf (eO X N scope cl C s H0 fp) ifs (tTf c E0 ft)/\PD (eO X N scope cl C s H0 fp) c E0 elt fe)
  {σ:L2.St} {H:Hp} {Q:VK} (h:tV (xC c) c E (eH js fi fs ft fe) σ H Q):oV X N scope js tg elt ifs (tI c E fi) σ H Q:=by
 obtain ⟨ρ,F,ab,k⟩:=h
 refine ⟨ρ,F,ab,(Rk.bind k).imp fun xs _ q J B F1 H1 s1 sb yl=>?_⟩
 cases hc:compL fs ft fe (fA js ρ) xs with
 | bad=>rw[hc] at q;exact q.elim
 | ex e=>exact absurd hc lI
 | ok ys=>
  rw[hc] at q
  refine aC5 (n:=xs.length) (fun i acc H'=>∃ F',Ext F1 H1 F' H'/\acc.length<=i/\∃ zs rest,DatVs c.K F' acc zs/\compL fs ft fe (fA js ρ) (xs.drop i)=.ok rest/\zs++rest=ys) yl.len ⟨F1,Ext.refl s1.fh,Nat.le_refl _,[],ys,.nil,hc,rfl⟩ ?_ ?_ ?_ ?_ ?_
  ·rintro i acc H' _ ⟨F',_,h,_⟩;exact h
  ·rintro i acc H' hlt ⟨F',e1,_⟩
   exact yl.go i F' H' e1.ff e1.fh (fun a o z=>e1.hh a o (sb a o z)) hlt
  ·rintro acc H' ⟨F',e1,_⟩
   exact yl.stop F' H' e1.ff e1.fh (fun a o z=>e1.hh a o (sb a o z))
  ·rintro i v acc Ha Hb hlt ⟨F',e1,hlen,zs,rest,hd,hr,hz⟩ hy
   obtain ⟨F2,e2,rx⟩:=yl.yld i F' Ha v Hb xs[i] e1.ff e1.fh (fun a o z=>e1.hh a o (sb a o z)) hy (List.getElem?_eq_getElem hlt)
   have hdr:xs.drop i=xs[i]::xs.drop (i+1):=List.drop_eq_getElem_cons hlt
   rw[hdr] at hr
   obtain ⟨ρ1,bb,hs,ht,hcase⟩:=xJ hr
   intro cl C s H0 fp
   obtain ⟨g,hg,tg',hif,he⟩:=hb cl C s H0 fp
   refine ⟨g,_,_,hg,hif,he,fun σ0 k0=>?_⟩
   have ab0:Ab c (fA js ρ) σ0 F2 Hb:=(ab.ext (s1.trans (e1.trans e2))).cap ho k0
   refine tg' v xs[i] _ ρ1 σ0 F2 Hb _ ab0 rx hs fun σ1 hl1 hk1 ab1=>⟨aA8 k0 hl1 hk1 hi,ρ1,F2,ab1,?_⟩
   rw[ht]
   intro F3 H3 e3
   rcases hcase with ⟨rfl,y,ws,hy1,hy2,rfl⟩|⟨rfl,hy2⟩
   ·refine sK ⟨ρ1,F3,ab1.ext e3,?_⟩
    rw[hy1]
    intro w F4 H4 e4 rw'
    refine ⟨F4,e1.trans (e2.trans (e3.trans e4)),by rw[List.length_append,List.length_singleton];omega,zs++[y],ws,(hd.same (e2.trans (e3.trans e4)).ff).append (.cons rw' .nil),hy2,by rw[List.append_assoc];exact hz⟩
   ·exact sJ ⟨F3,e1.trans (e2.trans e3),by omega,zs,rest,hd.same (e2.trans e3).ff,hy2,hz⟩
  ·rintro acc H' ⟨F',e1,_,zs,rest,hd,hr,hz⟩ p hp
   rw[List.drop_length] at hr
   cases hr
   rw[List.append_nil] at hz
   subst hz
   exact Rk.ok q (.ref p) F' _ (s1.trans (e1.trans (Ext.own e1.fh hp))) ⟨p,acc,rfl,b7 (s1.trans e1).hh hp,aW,b7 e1.fh hp,hd⟩
theorem g6{N:List Str}{js:List (Option Nat)}{scope:Scope}{tg elt:Expr}{ifs:List Expr}{fi:Sg->R (List PyData)}{fs:PyData->Sg->Option Sg}{ft:Sg->R Bool}{fe:Sg->R PyData}{is:List Nat}(h:PE X e (oV X N scope js tg elt ifs (tI c E fi)))(ho:js.Pairwise fun a b=>a=none\/a≠b)(hi:∀ i∈is,js[i]? = some none)
 (hb:∀ (cl:List (Str×Addr)) (C:Addr) (s:Shared) (H0:Hp) (fp:List Addr),∃ g,PG (eO X N scope cl C s H0 fp) tg g/\Tg c g fs is/\L2.PIf (eO X N scope cl C s H0 fp) ifs (tTf c E0 ft)/\PD (eO X N scope cl C s H0 fp) c E0 elt fe) :
 PN X c E e (eH js fi fs ft fe):=PE.imp h fun σ H Q q=>rD (o9 ho) hi hb q
theorem aDN{i:Nat}{st:Stmt}{N:List Str}{js:List (Option Nat)}{scope:Scope}{tg elt:Expr}{ifs:List Expr}{fi:Sg->R (List PyData)}{fs:PyData->Sg->Option Sg}{ft:Sg->R Bool}{fe:Sg->R PyData}{is:List Nat}(h:PS X st (i6 (oV X N scope js tg elt ifs (tI c E fi)) (g8 i)))(ho:js.Pairwise fun a b=>a=none\/a≠b)(hi:∀ i∈is,js[i]? = some none)
 (hb:∀ (cl:List (Str×Addr)) (C:Addr) (s:Shared) (H0:Hp) (fp:List Addr),∃ g,PG (eO X N scope cl C s H0 fp) tg g/\Tg c g fs is/\L2.PIf (eO X N scope cl C s H0 fp) ifs (tTf c E0 ft)/\PD (eO X N scope cl C s H0 fp) c E0 elt fe) :
 PSf X c E st (fO i (eH js fi fs ft fe)):=jI (PS.imp h fun D σ H q=>rD (o9 ho) hi hb q)
end
noncomputable def i9(fs:PyData->Sg->Option Sg)(fb:Sg->R Fw):List PyData->Sg->R Fw
 | [],ρ=>.ok (.nx ρ)
 | x::t,ρ=>(tH (fs x ρ)).bind fun ρ1=>(fb ρ1).bind fun w=>match w with
  | .nx ρ2=>i9 fs fb t ρ2
  | .ct ρ2=>i9 fs fb t ρ2
  | .bk ρ2=>.ok (.nx ρ2)
  | .rt a=>.ok (.rt a)
def iJ(fi:Sg->R (List PyData))(fs:PyData->Sg->Option Sg)(fb:Sg->R Fw):Sg->R Fw:=fun ρ=>(fi ρ).bind fun xs=>i9 fs fb xs ρ
section
variable{X:Cx}{c:Ct}{E:XK}{e a b:Expr}{pos:Pos}{st:Stmt}
theorem eK{g:TG}{fi:Sg->R (List PyData)}{fs:PyData->Sg->Option Sg}{is:List Nat}{fb:Sg->R Fw}(hg:Tg c g fs is)(h:PS X st (aFJ (tI0 c E fi) g (tSf c E fb))):PSf X c E st (iJ fi fs fb):=PS.imp h fun D σ H zz0=>by
 obtain ⟨ρ,F,ab,k⟩:=zz0
 refine ⟨ρ,F,ab,(Rk.bind k).imp fun xs _ q J F1 H1 s1 yl=>?_⟩
 refine ⟨fun i m σ H=>m=xs.length - i/\i<=xs.length/\∃ ρ' F',aG F1 F'/\Ab c ρ' σ F' H/\Rk c E F' H (i9 fs fb (xs.drop i) ρ') (gE c F D),⟨xs.length,by simp,Nat.zero_le _,ρ,F1,bN _,ab.ext s1,Rk.ext s1 q⟩,?_⟩
 rintro i m σ2 H2 ⟨rfl,hi,ρ2,F2,s2,ab2,k2⟩
 by_cases hlt:i < xs.length
 ·refine .inr ⟨yl.go i F2 H2 s2 ab2.fh mH hlt,fun σ' H'=>∃ ρ' F',aG F1 F'/\Ab c ρ' σ' F' H'/\Rk c E F' H' (i9 fs fb (xs.drop (i+1)) ρ') (gE c F D),fun σ' H' w=>⟨xs.length - (i+1),by omega,rfl,hlt,w⟩,fun v H3 y=>?_⟩
  obtain ⟨F3,e3,rv⟩:=yl.yld i F2 H2 v H3 xs[i] s2 ab2.fh mH y (List.getElem?_eq_getElem hlt)
  have hdr:xs.drop i=xs[i]::xs.drop (i+1):=List.drop_eq_getElem_cons hlt
  rw[hdr] at k2
  unfold i9 at k2
  cases h1:fs xs[i] ρ2 with
  | none=>rw[h1] at k2;exact k2.elim
  | some ρ3=>
   rw[h1] at k2
   refine hg v xs[i] ρ2 ρ3 σ2 F3 H3 _ (ab2.ext e3) rv h1 fun σ3 _ _ ab3=>⟨ρ3,F3,ab3,?_⟩
   have k3:Rk c E F2 H2 (fb ρ3) _:=Rk.bind k2
   cases h2:fb ρ3 with
   | bad=>rw[h2] at k3;exact k3.elim
   | ex e=>rw[h2] at k3;exact k3
   | ok w=>
    rw[h2] at k3
    have k4:=Rk.ok k3
    have sF:aG F F3:=fun a o z=>e3.ff a o (s2 a o (s1.ff a o z))
    cases w with
    | nx ρ4=>exact fun σ' F' H' s' ab'=>⟨ρ4,F',fun a o z=>s' a o (e3.ff a o (s2 a o z)),ab',k4⟩
    | ct ρ4=>exact fun σ' F' H' s' ab'=>⟨ρ4,F',fun a o z=>s' a o (e3.ff a o (s2 a o z)),ab',k4⟩
    | bk ρ4=>exact fun σ' F' H' s' ab'=>Rk.ok k4 σ' F' H' (fun a o z=>s' a o (sF a o z)) ab'
    | rt a=>exact fun v F' H' z r=>Rk.ok k4 v F' H' z r
 ·have e:i=xs.length:=by omega
  subst e
  rw[List.drop_length] at k2
  exact .inl ⟨yl.stop F2 H2 s2 ab2.fh mH,Rk.ok k2 σ2 F2 H2 (fun a o z=>s2 a o (s1.ff a o z)) ab2⟩
end
noncomputable def bZ(t:Sg->R Bool)(b:Sg->R Fw):Nat->Sg->R Fw
 | 0,_=>.bad
 | n+1,ρ=>(t ρ).bind fun k=>if k=true then (b ρ).bind fun w=>match w with
   | .nx ρ'=>bZ t b n ρ'
   | .ct ρ'=>bZ t b n ρ'
   | .bk ρ'=>.ok (.nx ρ')
   | .rt a=>.ok (.rt a)
  else .ok (.nx ρ)
open Classical in
noncomputable def bK(t:Sg->R Bool)(b:Sg->R Fw):Sg->R Fw:=fun ρ=>if h:∃ n,bZ t b n ρ≠.bad then bZ t b h.choose ρ else .bad
theorem R.bind_mono{α β:Type}{r:R α}{f g:α->R β}(h:r.bind f≠.bad)(hfg:∀ a,f a≠.bad->g a=f a):r.bind g=r.bind f:=by
 cases r with
 | bad=>rfl
 | ex e=>rfl
 | ok a=>exact hfg a h
theorem iR{t:Sg->R Bool}{b:Sg->R Fw}:∀ {n m:Nat} {ρ:Sg},n<=m->bZ t b n ρ≠.bad->bZ t b m ρ=bZ t b n ρ
 | 0,_,_,_,h=>absurd rfl h
 | n+1,0,_,hm,_=>absurd hm (by omega)
 | n+1,m+1,ρ,hm,h=>by
  unfold bZ at h ⊢
  refine R.bind_mono h fun k hk=>?_
  cases k with
  | false=>rfl
  | true=>
   refine R.bind_mono (r:=b ρ) hk fun w hw=>?_
   cases w with
   | nx ρ'=>exact iR (by omega) hw
   | ct ρ'=>exact iR (by omega) hw
   | bk ρ'=>rfl
   | rt a=>rfl
theorem mI{t:Sg->R Bool}{b:Sg->R Fw}{ρ:Sg}{n:Nat}(h:bZ t b n ρ≠.bad):bK t b ρ=bZ t b n ρ:=by
 have hx:∃ n,bZ t b n ρ≠.bad:=⟨n,h⟩
 unfold bK
 rw[dif_pos hx]
 have hc:=hx.choose_spec
 rcases Nat.le_total n hx.choose with q|q
 · exact iR q h
 · exact (iR q hc).symm
theorem mJ (t : Sg -> R Bool) (b : Sg -> R Fw) (ρ : Sg) : bK t b ρ = (t ρ).bind fun k => if k = true then (b ρ).bind fun w => match w with
      | .nx ρ' => bK t b ρ'
      | .ct ρ' => bK t b ρ'
      | .bk ρ' => .ok (.nx ρ')
      | .rt a => .ok (.rt a)
    else .ok (.nx ρ) := by
  have key : ∀ n, (∀ k, t ρ = .ok k -> k = true -> ∀ w, b ρ = .ok w -> ∀ ρ', (w = .nx ρ' \/ w = .ct ρ') -> bK t b ρ' = bZ t b n ρ') -> bZ t b (n + 1) ρ = (t ρ).bind fun k => if k = true then (b ρ).bind fun w => match w with
      | .nx ρ' => bK t b ρ'
      | .ct ρ' => bK t b ρ'
      | .bk ρ' => .ok (.nx ρ')
      | .rt a => .ok (.rt a)
    else .ok (.nx ρ) := by
    intro n h
    unfold bZ
    cases ht : t ρ with
    | bad => rfl
    | ex e => rfl
    | ok k =>
      cases k with
      | false => rfl
      | true =>
        show ((b ρ).bind _) = ((b ρ).bind _)
        cases hb : b ρ with
        | bad => rfl
        | ex e => rfl
        | ok w =>
          cases w with
          | nx ρ' => exact (h true ht rfl _ hb ρ' (.inl rfl)).symm
          | ct ρ' => exact (h true ht rfl _ hb ρ' (.inr rfl)).symm
          | bk ρ' => rfl
          | rt a => rfl
  by_cases hx : ∃ n, bZ t b n ρ ≠ .bad
  · obtain ⟨n, hn⟩ := hx
    cases n with
    | zero => exact absurd rfl hn
    | succ n =>
      rw [mI hn]
      refine key n fun k ht hk w hb ρ' hw => ?_
      subst hk
      refine mI fun z => hn ?_
      unfold bZ
      rw [ht]
      show ((b ρ).bind _) = _
      rw [hb]
      rcases hw with rfl | rfl
      · exact z
      · exact z
  · have h0 : bK t b ρ = .bad := by unfold bK; rw [dif_neg hx]
    rw [h0]
    have hall : ∀ n, bZ t b n ρ = .bad := fun n => Classical.byContradiction fun z => hx ⟨n, z⟩
    cases ht : t ρ with
    | bad => rfl
    | ex e => have := hall 1; unfold bZ at this; rw [ht] at this; cases this
    | ok k =>
      cases k with
      | false => have := hall 1; unfold bZ at this; rw [ht] at this; cases this
      | true =>
        show R.bad = ((b ρ).bind _)
        cases hb : b ρ with
        | bad => rfl
        | ex e => have := hall 1; unfold bZ at this; rw [ht] at this; change ((b ρ).bind _) = _ at this; rw [hb] at this; cases this
        | ok w =>
          have nxt : ∀ ρ', (w = .nx ρ' \/ w = .ct ρ') -> bK t b ρ' = .bad := fun ρ' hw => by
            unfold bK
            rw [dif_neg]
            rintro ⟨n, hn⟩
            refine hn ?_
            have := hall (n + 1)
            unfold bZ at this
            rw [ht] at this
            change ((b ρ).bind _) = _ at this
            rw [hb] at this
            rcases hw with rfl | rfl <;> exact this
          cases w with
          | nx ρ' => exact (nxt ρ' (.inl rfl)).symm
          | ct ρ' => exact (nxt ρ' (.inr rfl)).symm
          | bk ρ' => have := hall 1; unfold bZ at this; rw [ht] at this; change ((b ρ).bind _) = _ at this; rw [hb] at this; cases this
          | rt a => have := hall 1; unfold bZ at this; rw [ht] at this; change ((b ρ).bind _) = _ at this; rw [hb] at this; cases this
section
variable{X:Cx}{c:Ct}{E:XK}{st:Stmt}
theorem eY{t:Sg->R Bool}{fb:Sg->R Fw}(h:PS X st (yG (tTf c E t) (tSf c E fb))):PSf X c E st (bK t fb):=PS.imp h fun D σ H zz0=>by
 obtain ⟨ρ,F,ab,k⟩:=zz0
 have hx:∃ n,bZ t fb n ρ≠.bad:=Classical.byContradiction fun z=>by
  have:bK t fb ρ=.bad:=by unfold bK;rw[dif_neg z]
  rw[this] at k
  exact k
 obtain ⟨n,hn⟩:=hx
 rw[mI hn] at k
 refine ⟨fun m σ H=>∃ ρ' F',aG F F'/\Ab c ρ' σ F' H/\Rk c E F' H (bZ t fb m ρ') (gE c F D),⟨n,ρ,F,bN F,ab,k⟩,?_⟩
 rintro m σ1 H1 ⟨ρ1,F1,s1,ab1,k1⟩
 cases m with
 | zero=>exact k1.elim
 | succ m=>
  unfold bZ at k1
  refine ⟨ρ1,F1,ab1,(Rk.bind k1).imp fun b _ q F2 H2 e2=>?_⟩
  have ab2:=ab1.ext e2
  cases b with
  | false=>exact sJ (Rk.ok q σ1 F2 H2 (fun a o z=>e2.ff a o (s1 a o z)) ab2)
  | true=>
   refine sK ⟨fun σ' H'=>∃ ρ' F',aG F F'/\Ab c ρ' σ' F' H'/\Rk c E F' H' (bZ t fb m ρ') (gE c F D),fun σ' H' w=>⟨m,by omega,w⟩,ρ1,F2,ab2,?_⟩
   have q':Rk c E F1 H1 (fb ρ1) _:=Rk.bind (r:=fb ρ1) q
   cases h2:fb ρ1 with
   | bad=>rw[h2] at q';exact q'.elim
   | ex e=>rw[h2] at q';exact q'
   | ok w=>
    rw[h2] at q'
    have k4:=Rk.ok q'
    have sF:aG F F2:=fun a o z=>e2.ff a o (s1 a o z)
    cases w with
    | nx ρ4=>exact fun σ' F' H' s' ab'=>⟨ρ4,F',fun a o z=>s' a o (sF a o z),ab',k4⟩
    | ct ρ4=>exact fun σ' F' H' s' ab'=>⟨ρ4,F',fun a o z=>s' a o (sF a o z),ab',k4⟩
    | bk ρ4=>exact fun σ' F' H' s' ab'=>Rk.ok k4 σ' F' H' (fun a o z=>s' a o (sF a o z)) ab'
    | rt a=>exact fun v F' H' z r=>Rk.ok k4 v F' H' z r
end
end Fl
namespace Fl
open PySem L2 PyProof.Rows
def spG(K:Frag)(mg:Str->Option Value)(T F1:Hp)(n:Nat)(G:List PyData->R PyData):Sp:=fun vs H Q E=>∃ F ds,aG F1 F/\aG T F/\aG F H/\DatVs K F vs ds/\ds.length=n/\match G ds with
 | .bad=>False
 | .ok d=>∀ v F' H',Ext F H F' H'->DatV K F' v d->Q v H'
 | .ex e=>∀ a C F' H',Ext F H F' H'->hJ K mg F' e a C->E (.ref C) (some a) H'
def Beh(P:Program)(w:World)(K:Frag)(mg:Str->Option Value)(base:Heap)(T:Hp)(f:Addr)(F1:Hp)(k n:Nat)(G:List PyData->R PyData):Prop:=
 ∃ fd ps,ps.length=n/\f8 K fd ps []/\FnOk P w K mg base (CXe P w) k f fd ps (spG K mg T F1 n G)/\(PySem.W.keepIn K (.ref f)=true\/∃ oc od fd' sl,F1 f=some (FnO f ⟨oc,od,.func fd',sl⟩))
def gOf(P:Program)(w:World)(K:Frag)(mg:Str->Option Value)(base:Heap)(T:Hp):Gb:=⟨Beh P w K mg base T,T,w⟩
def spF(g:Gb)(K:Frag)(mg:Str->Option Value)(n:Nat)(G:List A->R A):Sp:=fun vs H Q E=>∃ F as,aG g.T F/\aG F H/\AFs g K mg F as vs/\as.length=n/\match G as with
 | .bad=>False
 | .ok a=>∀ v F' H',Ext F H F' H'->AF g K mg F' a v->Q v H'
 | .ex e=>∀ a C F' H',Ext F H F' H'->hJ K mg F' e a C->E (.ref C) (some a) H'
def aR(P:Program)(w:World)(K:Frag)(mg:Str->Option Value)(base:Heap)(T:Hp)(k:Nat)(x:Str)(ps:List Str)(G:List A->R A):Prop:=Calls P w K mg base (CXe P w) k x ps (spF (gOf P w K mg base T) K mg ps.length G)
def a9(n:Nat)(G:List A->R A)(f:Sg->R (List A)):Sg->R A:=fun ρ=>(f ρ).bind fun as=>if as.length=n then G as else .bad
theorem cD{X:Cx}{c:Ct}{E:XK}{e:Expr}{n:Nat}{G:List A->R A}{g:Gb}{K:Frag}{mg:Str->Option Value}{f:Sg->R (List A)}(hG:g=c.g)(hK:K=c.K)(hM:mg=c.mg)(h:PE X e (m5 (spF g K mg n G) [] E (tAv c E f))):PV X c E e (a9 n G f):=PE.imp h fun σ H Q zz0=>by
 obtain ⟨ρ,F,ab,k⟩:=zz0
 subst hG hK hM
 refine ⟨ρ,F,ab,(Rk.bind k).imp fun as _ q vs F1 H1 s1 r1=>?_⟩
 by_cases hn:as.length=n
 ·rw[if_pos hn] at q
  refine ⟨F1,as,fun a o z=>s1.ff a o (ab.f0 a o (ab.t0 a o z)),s1.fh,by rw[List.append_nil];exact r1,hn,?_⟩
  cases hg:G as with
  | bad=>rw[hg] at q;exact q
  | ok a=>rw[hg] at q;exact fun v F' H' s r=>Rk.ok q v F' H' (s1.trans s) r
  | ex e=>rw[hg] at q;exact fun a C F' H' s r=>q a C F' H' ((ab.all.trans s1).trans s) r
 ·rw[if_neg hn] at q;exact q.elim
def fnF(n:Nat)(fb:Sg->R Fw):List A->R A:=fun as=>(fb (as.map some++List.replicate (n - as.length) none)).bind fun w=>match w with
 | .rt (.l _)=>.bad
 | .rt a=>.ok a
 | .nx _=>.ok (.d .none)
 | _=>.bad
theorem AFs.get{g:Gb}{K:Frag}{mg:Str->Option Value}{F:Hp}:∀ {as:List A} {vs:List V} {i:Nat} {a:A},AFs g K mg F as vs->as[i]? = some a->∃ v,vs[i]? = some v/\AF g K mg F a v
 | [],[],_,_,_,h=>by simp at h
 | a::as,v::vs,0,_,h,e=>by simp at e;subst e;exact ⟨v,rfl,h.1⟩
 | a::as,v::vs,i+1,_,h,e=>by
  obtain ⟨w,h1,h2⟩:=AFs.get (i:=i) h.2 (by simpa using e)
  exact ⟨w,by simpa using h1,h2⟩
theorem mK{α:Type}{as:List α}{n i:Nat}{a:α}(h:(as.map some++List.replicate n none)[i]? = some (some a)):as[i]? = some a:=by
 by_cases hi:i < as.length
 ·rw[List.getElem?_append_left (by rw[List.length_map];exact hi),List.getElem?_map] at h
  cases e:as[i]? with
  | none=>rw[e] at h;cases h
  | some b=>rw[e] at h;cases h;rfl
 ·rw[List.getElem?_append_right (by rw[List.length_map];omega),List.getElem?_replicate] at h
  split at h
  · cases h
  · cases h
theorem tJ{g:Gb}{cells:List (Str×Addr)}{cls:Str->Option ClSt}{K:Frag}{mg:Str->Option Value}{w:World}{F H:Hp}{as:List A}{vs:List V}{n:Nat}(s0:aG g.T F)(s:aG F H)(h:AFs g K mg F as vs):Ab ⟨K,mg,w,F,H,g,cells,cls⟩ (as.map some++List.replicate (n - as.length) none) (vs.map some++List.replicate (n - vs.length) none) F H where
 len:=by rw[List.length_append,List.length_append,List.length_map,List.length_map,List.length_replicate,List.length_replicate,h.len]
 fh:=s
 slot:=fun i a e=>by
  obtain ⟨v,h1,h2⟩:=h.get (mK e)
  refine ⟨v,?_,AO.of h2⟩
  have hi:i < vs.length:=(List.getElem?_eq_some_iff.mp h1).1
  rw[List.getElem?_append_left (by rw[List.length_map];exact hi),List.getElem?_map,h1];rfl
 apart:=fun i j a b _ e1 _ o _=>by
  obtain ⟨v,h1,h2⟩:=h.get (mK e1)
  rw[AF.notOwn h2] at o
  cases o
 f0:=bN F
 h0:=bN H
 n0:=fun a e n=>absurd e n
 t0:=s0
theorem nE{g:Gb}{cells:List (Str×Addr)}{cls:Str->Option ClSt}{K:Frag}{mg:Str->Option Value}{w:World}{n:Nat}{fb:Sg->R Fw}{vs:List V}{as:List A}{F H:Hp}{Q:VK}{E:XK}(h0:aG g.T F)(h1:aG F H)(h2:AFs g K mg F as vs)(h4:match fnF n fb as with
 | .bad=>False
 | .ok a=>∀ v F' H',Ext F H F' H'->AF g K mg F' a v->Q v H'
 | .ex e=>∀ a C F' H',Ext F H F' H'->hJ K mg F' e a C->E (.ref C) (some a) H'):tSf ⟨K,mg,w,F,H,g,cells,cls⟩ E fb {nx:=fun _ H'=>Q .non H',rt:=Q} (vs.map some++List.replicate (n - vs.length) none) H:=by
 refine ⟨_,F,tJ h0 h1 h2,?_⟩
 unfold fnF at h4
 cases e:fb (as.map some++List.replicate (n - as.length) none) with
 | bad=>rw[e] at h4;exact h4
 | ex x=>rw[e] at h4;exact h4
 | ok w=>
  rw[e] at h4
  cases w with
  | nx ρ'=>exact fun σ' F' H' s ab=>h4 .non F' H' ab.all .non
  | rt a=>
   cases a with
   | l xs=>exact h4.elim
   | _=>exact h4
  | bk ρ'=>exact h4.elim
  | ct ρ'=>exact h4.elim
section
variable{P:Program}{w:World}{K:Frag}{mg:Str->Option Value}{base:Heap}{T:Hp}{x:Str}{st:Stmt}{N ps:List Str}{k:Nat}
theorem cP{fb:Sg->R Fw}(D:DefAt K mg x st ps)(S:FnScope N ps (aJ st))
  (hbody:∀ (f:Addr) (cdv:Value) (A:Around) (outer:List Env) (s:Shared) (H F:Hp) (E:XK),Room k (A.deeper (envOfC x (aJ st) s.heap.objs.size f cdv))->
   i8 ((gN (CXe P w) P w K mg base N x (aJ st) f cdv A outer s H E).fly E) ⟨K,mg,w,F,H,gOf P w K mg base T,(envOfC x (aJ st) s.heap.objs.size f cdv).cells,fun _=>none⟩ E (cI st) fb):aR P w K mg base T (k+1) x ps (fnF N.length fb):=by
 refine D.okX S (fun vs H Q E h=>?_) (fun f cdv A outer s H vs Q E hr h=>?_)
 ·obtain ⟨F,as,_,_,h2,h3,_⟩:=h
  rw[h2.len,h3]
 ·obtain ⟨F,as,h0,h1,h2,h3,h4⟩:=h
  exact ⟨_,hbody f cdv A outer s H F E hr,nE h0 h1 h2 h4⟩
theorem aR.imp{G G':List A->R A}(C:aR P w K mg base T k x ps G)(h:∀ as,G' as≠.bad->G as=G' as):aR P w K mg base T k x ps G':=Calls.imp C fun vs H Q E=>by
 rintro ⟨F,as,h0,h1,h2,h3,h4⟩
 refine ⟨F,as,h0,h1,h2,h3,?_⟩
 cases e:G' as with
 | bad=>rw[e] at h4;exact h4.elim
 | ok a=>rw[h as (by rw[e];exact fun z=>nomatch z),e];rw[e] at h4;exact h4
 | ex x=>rw[h as (by rw[e];exact fun z=>nomatch z),e];rw[e] at h4;exact h4
end
def aGG(cn:Str)(fs:List Str)(f:Sg->R (List PyData)):Sg->R Fw:=fun ρ=>(f ρ).bind fun xs=>if xs.length=fs.length then .ex ⟨cn,fs.zip xs⟩ else .bad
end Fl
namespace Fl
open PySem L2 PyProof.Rows
def tPf(c:Ct)(E:XK)(f:Sg->R (Option Int)):TO:=fun σ H Q=>∃ ρ F,Ab c ρ σ F H/\Rk c E F H (f ρ) fun o=>∀ F' H',Ext F H F' H'->Q o H'
noncomputable def oNo:Sg->R (Option Int):=fun _=>.ok none
def oSo(f:Sg->R PyData):Sg->R (Option Int):=fun ρ=>(f ρ).bind fun x=>match x with
 | .int i=>.ok (some i)
 | _=>.bad
noncomputable def aGH{α:Type}(xs:List α)(lo hi:Option Int):List α:=(xs.drop (HT.sIx xs.length 0 lo)).take (HT.sIx xs.length xs.length hi - HT.sIx xs.length 0 lo)
noncomputable def dSl:PyData->Option Int->Option Int->R PyData
 | .list xs,lo,hi=>.ok (.list (aGH xs lo hi))
 | .tuple xs,lo,hi=>if ¬ (HT.sIx xs.length 0 lo=0/\HT.sIx xs.length xs.length hi=xs.length) then .ok (.tuple (aGH xs lo hi)) else .bad
 | .str z,lo,hi=>if z.length<=16777216 then .ok (.str (Txt.slice z lo hi)) else .bad
 | _,_,_=>.bad
def eSl{α:Type}(g:PyData->Option Int->Option Int->R α)(f:Sg->R PyData)(lo hi:Sg->R (Option Int)):Sg->R α:=fun ρ=>(f ρ).bind fun x=>(lo ρ).bind fun l=>(hi ρ).bind fun h=>g x l h
theorem PO.imp{X:Cx}{e:Option Expr}{t t':TO}(h:PO X e t)(i:∀ σ H Q,t' σ H Q->t σ H Q):PO X e t':=fun pins s σ H Q I q=>h pins s σ H Q I (i σ H Q q)
section
variable{X:Cx}{c:Ct}{E:XK}{e a b:Expr}{pos p2:Pos}{lo hi:Option Expr}
theorem aIN:PO X none (tPf c E oNo):=PO.imp aC0 fun σ H Q ⟨ρ,F,ab,k⟩=>Rk.ok k F H (Ext.refl ab.fh)
theorem aIO{f:Sg->R PyData}(h:PR X c E e f):PO X (some e) (tPf c E (oSo f)):=PO.imp (aC1 h) fun σ H Q ⟨ρ,F,ab,k⟩=>⟨ρ,F,ab,(Rk.bind k).imp fun x _ q v F' H' s r=>by
 cases x with
 | int i=>exact ⟨i,aU.int_of r,Rk.ok q F' H' s⟩
 | _=>exact q.elim⟩
def aGI(c:Ct){α:Type}(Rb:VR α)(g:PyData->Option Int->Option Int->R α):V->Option Int->Option Int->Hp->VK->Prop:=fun v lo hi H Q=>∃ F x d,aG F H/\aU c.K F H v x/\g x lo hi=.ok d/\∀ w F' H',Ext F H F' H'->Rb d w H F' H'->Q w H'
theorem aDO{α:Type}{Rb:VR α}{g:PyData->Option Int->Option Int->R α}(hp:∀ x l h e,g x l h≠.ex e)(kb:xD Rb){f:Sg->R PyData}{fl fh:Sg->R (Option Int)}{σ:L2.St}{H:Hp}{Q:VK}(h:tV Rb c E (eSl g f fl fh) σ H Q) :
  tSl (aGI c Rb g) (tV (bI c) c E f) (tPf c E fl) (tPf c E fh) σ H Q:=by
 obtain ⟨ρ,F,ab,k⟩:=h
 refine ⟨ρ,F,ab,(Rk.bind k).imp fun x _ q v F1 H1 s1 r1=>⟨ρ,F1,ab.ext s1,((Rk.bind q).ext s1).imp fun l _ q F2 H2 s2=>⟨ρ,F2,ab.ext (s1.trans s2),((Rk.bind q).ext (s1.trans s2)).imp fun hh _ q F3 H3 s3=>?_⟩⟩⟩
 cases eg:g x l hh with
 | bad=>rw[eg] at q;exact q.elim
 | ex e=>exact absurd eg (hp x l hh e)
 | ok d=>
  rw[eg] at q
  have s13:=(s1.trans s2).trans s3
  exact ⟨F3,x,d,s3.fh,aU.ext (s2.trans s3) r1,eg,fun w F' H' s r=>Rk.ok q w F' H' (s13.trans s) (kb _ _ _ _ _ _ s13.hh r)⟩
noncomputable def tyN:PyData->String
 | .none=>"NoneType"
 | .bool _=>"bool"
 | .int _=>"int"
 | .str _=>"str"
 | .list _=>"list"
 | .tuple _=>"tuple"
 | .dict _=>"dict"
noncomputable def gR(t T:String):Bool:=t == T || (T == "int" && t == "bool")
noncomputable def lJ(T:String)(x:PyData):R PyData:=match x with
 | .dict _=>.bad
 | x=>.ok (.bool (gR (tyN x) T))
structure Kit(K:Frag)(T:String):Prop where
 non:PySem.W.kitOne K (.type "NoneType") (.type T)=some (gR "NoneType" T)
 bl:PySem.W.kitOne K (.type "bool") (.type T)=some (gR "bool" T)
 int:PySem.W.kitOne K (.type "int") (.type T)=some (gR "int" T)
 str:PySem.W.kitOne K (.type "str") (.type T)=some (gR "str" T)
 lst:PySem.W.kitOne K (.type "list") (.type T)=some (gR "list" T)
 tup:PySem.W.kitOne K (.type "tuple") (.type T)=some (gR "tuple" T)
theorem aDP(K:Frag):Kit K "str":=⟨rfl,rfl,rfl,rfl,rfl,rfl⟩
theorem aA9{X:Cx}:jZ X (.builtin "isinstance") (fun xs H Q=>∃ a ys c cv b,xs=[.ref a,c]/\SqL X.K H a ys/\wX c=some cv/\PySem.W.kitOne X.K (.type "list") cv=some b/\Q (.bl b) H):=by
 intro pins s σ H xs us Q I r h
 obtain ⟨a,ys,c,cv,b,rfl,ha,hc,e,q⟩:=h
 obtain ⟨u,v,rfl,ru,rv⟩:=wR r
 obtain rfl:=pT hc rv
 cases (show u=Value.ref a from ru)
 obtain ⟨its,_,pl,_⟩:=I.list ha
 obtain ⟨o,h1,h2,_⟩:=pl.isList
 exact PySem.W.kia_one PySem.W.kitx_list I.kIn ⟨o,h1,h2⟩ e (fun z=>nomatch z) fun tk=>⟨.bl b,H,I.tok _,rfl,q⟩
def aBA(c:Ct)(T:String):List V->Hp->VK->Prop:=fun xs H Q=>∃ F x v d,xs=[v,.ty T]/\aG F H/\aU c.K F H v x/\lJ T x=.ok d/\∀ w F' H',Ext F H F' H'->DatV c.K F' w d->Q w H'
theorem aBB(hK:X.K=c.K){T:String}(k:Kit X.K T):jZ X (.builtin "isinstance") (aBA c T):=by
 intro pins s σ H xs us Q I r h
 obtain ⟨F,x,v,d,rfl,sf,ra,eg,q⟩:=h
 cases x with
 | dict _=>cases eg
 | none=>
  cases eg
  obtain rfl:=aU.non_of ra
  exact iO pins s σ H _ us Q I r ⟨_,_,_,_,_,rfl,.pl .non,rfl,k.non,q _ F H (Ext.refl sf) (.bl _)⟩
 | bool b=>
  cases eg
  obtain rfl:=aU.bl_of ra
  exact iO pins s σ H _ us Q I r ⟨_,_,_,_,_,rfl,.pl (.bl b),rfl,k.bl,q _ F H (Ext.refl sf) (.bl _)⟩
 | int b=>
  cases eg
  obtain rfl:=aU.int_of ra
  exact iO pins s σ H _ us Q I r ⟨_,_,_,_,_,rfl,.pl (.int b),rfl,k.int,q _ F H (Ext.refl sf) (.bl _)⟩
 | str b=>
  cases eg
  obtain rfl:=aU.str_of ra
  exact iO pins s σ H _ us Q I r ⟨_,_,_,_,_,rfl,.pl (.str b),rfl,k.str,q _ F H (Ext.refl sf) (.bl _)⟩
 | tuple xs=>
  cases eg
  obtain ⟨p,vs,rfl,_,h1,h2⟩:=aU.tup_of sf ra
  rw[<-hK] at h1
  exact sP pins s σ H _ us Q I r ⟨p,vs,_,_,_,rfl,h1,rfl,k.tup,q _ F H (Ext.refl sf) (.bl _)⟩
 | list xs=>
  cases eg
  obtain ⟨p,vs,rfl,h1,h2⟩:=aU.lst_of sf ra
  rw[<-hK] at h1
  exact aA9 pins s σ H _ us Q I r ⟨p,vs,_,_,_,rfl,h1,rfl,k.lst,q _ F H (Ext.refl sf) (.bl _)⟩
theorem aGJ{T:String}{f:Sg->R PyData}(h:PE X e (tCB (aBA c T) (iN (tV (bI c) c E f) (iN (tC (.ty T)) kZ)))):PD X c E e (e1 (lJ T) f):=PE.imp h fun σ H Q zz0=>by
 obtain ⟨ρ,F,ab,k⟩:=zz0
 refine ⟨ρ,F,ab,(Rk.bind k).imp fun x _ q v F1 H1 s1 r1=>?_⟩
 show aBA c T [v,.ty T] H1 Q
 cases x with
 | dict _=>exact q.elim
 | none=>exact ⟨F1,_,v,_,rfl,s1.fh,r1,rfl,fun w F' H' s r=>Rk.ok q w F' H' (s1.trans s) r⟩
 | bool _=>exact ⟨F1,_,v,_,rfl,s1.fh,r1,rfl,fun w F' H' s r=>Rk.ok q w F' H' (s1.trans s) r⟩
 | int _=>exact ⟨F1,_,v,_,rfl,s1.fh,r1,rfl,fun w F' H' s r=>Rk.ok q w F' H' (s1.trans s) r⟩
 | str _=>exact ⟨F1,_,v,_,rfl,s1.fh,r1,rfl,fun w F' H' s r=>Rk.ok q w F' H' (s1.trans s) r⟩
 | list _=>exact ⟨F1,_,v,_,rfl,s1.fh,r1,rfl,fun w F' H' s r=>Rk.ok q w F' H' (s1.trans s) r⟩
 | tuple _=>exact ⟨F1,_,v,_,rfl,s1.fh,r1,rfl,fun w F' H' s r=>Rk.ok q w F' H' (s1.trans s) r⟩
noncomputable def mL:PyData->PyData->R PyData
 | .str z,.str y=>match Builtin.Str.occurrences z y 0 z.length 1 with
  | i::_=>.ok (.int i)
  | []=>.bad
 | _,_=>.bad
theorem aBC{f g:Sg->R PyData}(h:PE X e (tBM X.K "str" yT (tV (bI c) c E f) (iN (tV (bI c) c E g) kZ)))(hs:∀ ρ x,f ρ=.ok x->∃ z,x=.str z):PD X c E e (e2 mL f g):=PE.imp h fun σ H Q ⟨ρ,F,ab,k⟩=>by
 refine ⟨ρ,F,ab,(Rk.bind k).imp fun x ex q v F1 H1 s1 r1=>?_⟩
 obtain ⟨z,rfl⟩:=hs ρ x ex
 obtain rfl:=aU.str_of r1
 refine ⟨rfl,ρ,F1,ab.ext s1,((Rk.bind q).ext s1).imp fun y _ q u F2 H2 s2 r2=>?_⟩
 cases y with
 | str y=>
  have q':Rk c E F H (match Builtin.Str.occurrences z y 0 z.length 1 with
   | i::_=>R.ok (PyData.int i)
   | []=>.bad) (fun d=>∀ v F' H',Ext F H F' H'->cM c d v H F' H'->Q v H'):=q
  split at q'
  ·rename_i i rest ho
   obtain rfl:=aU.str_of r2
   exact ⟨z,y,i,rest,rfl,rfl,ho,Rk.ok q' _ F2 H2 (s1.trans s2) (.int _)⟩
  ·exact q'.elim
 | _=>exact q.elim
noncomputable def iK:Nat->List PyData->List PyData
 | _,[]=>[]
 | i,x::t=>.tuple [.int i,x]::iK (i+1) t
theorem lK:∀ (i:Nat) (xs:List PyData),(iK i xs).length=xs.length
 | _,[]=>rfl
 | i,x::t=>by rw[iK,List.length_cons,List.length_cons,lK]
theorem tK:∀ (k i:Nat) (xs:List PyData),(iK k xs)[i]? = (xs[i]?).map fun x=>.tuple [.int ((k+i:Nat):Int),x]
 | k,i,[]=>by simp[iK]
 | k,0,x::t=>by simp[iK]
 | k,i+1,x::t=>by rw[iK,List.getElem?_cons_succ,List.getElem?_cons_succ,tK,show k+1+i=k+(i+1) by omega]
theorem zM{K:Frag}{F B:Hp}{z:Str}(hz:z.cps.toList.length<=16777216):Yld K (Ity z) F B (iK 0 (z.cps.toList.map fun u=>.str ⟨#[u]⟩)) where
 len:=by rw[dX,lK,List.length_map];exact hz
 go:=fun i F1 H1 h1 h2 h3 hi=>by
  rw[lK,List.length_map,Array.length_toList] at hi
  exact hi
 yld:=fun i F1 H1 v H2 x h1 h2 h3 y e=>by
  obtain ⟨p,u,hp,rfl,rfl,hu⟩:=y
  rw[tK,List.getElem?_map,Array.getElem?_toList,hu] at e
  cases e
  refine ⟨_,Ext.new h2 hp,.tup (SqT.of aW) (.cons ?_ (.cons (.str _) .nil))⟩
  rw[Nat.zero_add];exact .int _
 stop:=fun F1 H1 h1 h2 h3=>by
  show (iK 0 _).length=z.cps.size
  rw[lK,List.length_map,Array.length_toList]
end
end Fl
namespace Fl
open PySem L2 PyProof.Rows
noncomputable def dW(kvs:List (PyData×PyData))(k:PyData):Option PyData:=(kvs.find? fun p=>decide (p.1=k)).map (·.2)
noncomputable def cS(kvs:List (PyData×PyData))(k:PyData):Bool:=(dW kvs k).isSome
noncomputable def putM(kvs:List (PyData×PyData))(k v:PyData):List (PyData×PyData):=if cS kvs k=true then kvs.map (fun p=>if p.1=k then (p.1,v) else p) else kvs++[(k,v)]
theorem vO{K:Frag}{F:Hp}{k:PyData}:∀ {es:List Ent} {kvs:List (PyData×PyData)},es.map (·.1)=kvs.map (·.1)->DatVs K F (es.map (·.2.2)) (kvs.map (·.2))->
  (atE es k=none/\dW kvs k=none)\/∃ v d,atE es k=some v/\dW kvs k=some d/\DatV K F v d
 | [],[],_,_=>.inl ⟨rfl,rfl⟩
 | [],_::_,h,_=>by cases h
 | _::_,[],h,_=>by cases h
 | e::es,p::kvs,h,r=>by
  rw[List.map_cons,List.map_cons] at h r
  injection h with h1 h2
  obtain ⟨v,t,e1,r1,r2⟩:=r.cons_of
  rw[List.cons.injEq] at e1
  obtain ⟨rfl,rfl⟩:=e1
  have ih:=vO (k:=k) h2 r2
  unfold atE dW at ih ⊢
  rw[List.find?_cons,List.find?_cons,h1]
  by_cases q:p.1=k
  · rw [decide_eq_true q]; exact .inr ⟨_, _, rfl, rfl, r1⟩
  · rw [decide_eq_false q]; exact ih
theorem MapRel.get{K:Frag}{F:Hp}{es:List Ent}{kvs:List (PyData×PyData)}(m:MapRel K F es kvs)(k:PyData):(atE es k=none/\dW kvs k=none)\/∃ v d,atE es k=some v/\dW kvs k=some d/\DatV K F v d:=vO m.k1 m.vs
theorem MapRel.has{K:Frag}{F:Hp}{es:List Ent}{kvs:List (PyData×PyData)}(m:MapRel K F es kvs)(k:PyData):(atE es k).isSome=cS kvs k:=by
 unfold cS
 rcases m.get k with ⟨a,b⟩|⟨v,d,a,b,_⟩<;>rw[a,b]<;>rfl
theorem n9{kvs:List (PyData×PyData)}{k:PyData}:cS kvs k=true↔k∈kvs.map (·.1):=by
 unfold cS dW
 rw[Option.isSome_map]
 induction kvs with
 | nil=>simp
 | cons p t ih=>
  rw[List.find?_cons]
  by_cases q:p.1=k
  ·rw[decide_eq_true q];simp[q]
  ·rw[decide_eq_false q,ih,List.map_cons]
   exact ⟨fun z=>List.mem_cons_of_mem _ z,fun z=>(List.mem_cons.mp z).resolve_left (fun w=>q w.symm)⟩
theorem zN{kvs:List (PyData×PyData)}{k v:PyData}:(putM kvs k v).map (·.1)=if cS kvs k=true then kvs.map (·.1) else kvs.map (·.1)++[k]:=by
 unfold putM
 cases h:cS kvs k with
 | true=>
  rw[if_pos rfl,if_pos rfl,List.map_map]
  refine List.map_congr_left fun p _=>?_
  show (if p.1=k then (p.1,v) else p).1=p.1
  split<;>rfl
 | false=>rw[if_neg (by decide),if_neg (by decide),List.map_append];rfl
theorem vP{K:Frag}{F:Hp}{k d:PyData}{v:V}(r:DatV K F v d):∀ {es:List Ent} {kvs:List (PyData×PyData)},es.map (·.1)=kvs.map (·.1)->DatVs K F (es.map (·.2.1)) (kvs.map (·.1))->DatVs K F (es.map (·.2.2)) (kvs.map (·.2))->
  (es.map fun e=>if e.1=k then (e.1,e.2.1,v) else e).map (·.1)=(kvs.map fun p=>if p.1=k then (p.1,d) else p).map (·.1) /\
  DatVs K F ((es.map fun e=>if e.1=k then (e.1,e.2.1,v) else e).map (·.2.1)) ((kvs.map fun p=>if p.1=k then (p.1,d) else p).map (·.1)) /\
  DatVs K F ((es.map fun e=>if e.1=k then (e.1,e.2.1,v) else e).map (·.2.2)) ((kvs.map fun p=>if p.1=k then (p.1,d) else p).map (·.2))
 | [],[],_,_,_=>⟨rfl,.nil,.nil⟩
 | [],_::_,h,_,_=>by cases h
 | _::_,[],h,_,_=>by cases h
 | e::es,p::kvs,h,rk,rv=>by
  rw[List.map_cons,List.map_cons] at h rk rv
  injection h with h1 h2
  obtain ⟨_,_,e1,r1,r2⟩:=rk.cons_of
  rw[List.cons.injEq] at e1
  obtain ⟨rfl,rfl⟩:=e1
  obtain ⟨_,_,e1,q1,q2⟩:=rv.cons_of
  rw[List.cons.injEq] at e1
  obtain ⟨rfl,rfl⟩:=e1
  obtain ⟨a1,a2,a3⟩:=vP r h2 r2 q2
  simp only[List.map_cons]
  rw[h1,a1]
  by_cases q:p.1=k
  · rw [if_pos q, if_pos q]; exact ⟨rfl, .cons r1 a2, .cons r a3⟩
  · rw [if_neg q, if_neg q]; exact ⟨by rw [h1], .cons r1 a2, .cons q1 a3⟩
theorem MapRel.put{K:Frag}{F:Hp}{es:List Ent}{kvs:List (PyData×PyData)}{k d:PyData}{kv v:V}(m:MapRel K F es kvs)(rk:DatV K F kv k)(r:DatV K F v d):MapRel K F (kE es k kv v) (putM kvs k d):=by
 have hh:=m.has k
 have nd:((putM kvs k d).map (·.1)).Nodup:=by
  rw[zN]
  cases h:cS kvs k with
  | true=>rw[if_pos rfl];exact m.nd
  | false=>
   rw[if_neg (by decide),List.nodup_append]
   refine ⟨m.nd,by simp,fun a ha b hb z=>?_⟩
   rw[List.mem_singleton] at hb
   subst hb z
   rw[n9.mpr ha] at h
   cases h
 unfold kE
 rw[hh]
 unfold putM at nd ⊢
 cases h:cS kvs k with
 | true=>
  rw[h,if_pos rfl] at nd
  rw[if_pos rfl,if_pos rfl]
  obtain ⟨a1,a2,a3⟩:=vP (k:=k) r m.k1 m.k2 m.vs
  exact ⟨a1,a2,a3,nd⟩
 | false=>
  rw[h,if_neg (by decide)] at nd
  rw[if_neg (by decide),if_neg (by decide)]
  refine ⟨by rw[List.map_append,List.map_append,m.k1];rfl,?_,?_,nd⟩
  ·rw[List.map_append,List.map_append];exact m.k2.append (.cons rk .nil)
  ·rw[List.map_append,List.map_append];exact m.vs.append (.cons r .nil)
theorem j6{K:Frag}{F:Hp}:∀ {es:List Ent} {kvs:List (PyData×PyData)},es.map (·.1)=kvs.map (·.1)->DatVs K F (es.map (·.2.1)) (kvs.map (·.1))->∀ e∈es,DatV K F e.2.1 e.1
 | [],_,_,_,e,he=>by cases he
 | _::_,[],h,_,_,_=>by cases h
 | e0::es,p::kvs,h,rk,e,he=>by
  rw[List.map_cons,List.map_cons] at h rk
  injection h with h1 h2
  obtain ⟨_,_,e1,r1,r2⟩:=rk.cons_of
  rw[List.cons.injEq] at e1
  obtain ⟨rfl,rfl⟩:=e1
  rcases List.mem_cons.mp he with z|z
  · subst z; rw [h1]; exact r1
  · exact j6 h2 r2 e z
section
variable{X:Cx}{c:Ct}{E:XK}{e a b:Expr}{st:Stmt}{pos:Pos}
theorem xK{ρ:Sg}{σ:L2.St}{F H:Hp}{i:Nat}{kvs:List (PyData×PyData)}{k:PyData}{kv:V}(hK:X.K=c.K)(hW:X.w=c.w)(ab:Ab c ρ σ F H)(hi:ρ[i]? = some (some (.m kvs)))(hk:DatV c.K F kv k)(hs:b9 k (kvs.map (·.1))=true) :
  ∃ p es,σ[i]? = some (some (.ref p))/\DicAt X H p es k kv/\MapRel c.K F es kvs:=by
 obtain ⟨v,hp,p,es,rfl,⟨ep,h2⟩,h3,h4,h5⟩:=ab.slot i _ hi
 refine ⟨p,es,hp,⟨⟨ep,by rw[hW];exact h2⟩,fun e he=>by rw[hK];exact (j6 h5.k1 h5.k2 e he).same ab.fh,by rw[h5.k1];exact h5.nd,by rw[hK];exact hk.same ab.fh,by rw[h5.k1];exact hs⟩,h5⟩
theorem zO{ρ:Sg}{σ:L2.St}{F H:Hp}{i:Nat}{kvs:List (PyData×PyData)}{k:PyData}{kv:V}(hK:X.K=c.K)(hW:X.w=c.g.w)(ab:Ab c ρ σ F H)(hi:ρ[i]? = some (some (.f kvs)))(hk:DatV c.K F kv k)(hs:b9 k (kvs.map (·.1))=true) :
  ∃ p es,σ[i]? = some (some (.ref p))/\DicAt X H p es k kv/\MapRel c.K F es kvs:=by
 obtain ⟨v,hp,p,es,rfl,⟨ep,h2⟩,h5⟩:=ab.slot i _ hi
 refine ⟨p,es,hp,⟨⟨ep,by rw[hW];exact ab.fh _ _ h2⟩,fun e he=>by rw[hK];exact (j6 h5.k1 h5.k2 e he).same ab.fh,by rw[h5.k1];exact h5.nd,by rw[hK];exact hk.same ab.fh,by rw[h5.k1];exact hs⟩,h5⟩
def aCI(w:World):TE:=fun _ H Q=>∀ p,H p=none->Q (.ref p) (upd H p (dP w p [] 0))
theorem vQ:PE X (.Dict [] [] pos) (aCI X.w):=fun pins s σ H Q I h=>
 wpAny_Dict_empty ⟨.ref s.heap.objs.size,_,I.laid (a:=s.heap.objs.size) (o:=dP X.w s.heap.objs.size [] 0) (t':=s.toks) (fun _ _ q=>Heap.get?_push_of_some _ q) (Nat.le_refl _)
  (jG (beq_eq_false_iff_ne.mpr (Ne.symm (Nat.ne_of_lt I.big))) ⟨_,#[],Heap.get?_push_size _ rfl,⟨rfl,rfl,rfl⟩,rfl,.nil⟩),rfl,h _ (I.hok.fresh (Nat.le_refl _))⟩
noncomputable def nF(i:Nat):Sg->R Fw:=fun ρ=>.ok (.nx (ρ.set i (some (.m []))))
theorem vR{i:Nat}{w:World}(hW:w=c.w)(h:PS X st (i6 (aCI w) (g8 i))):PSf X c E st (nF i):=PS.imp h fun D σ H ⟨ρ,F,ab,k⟩=>fun p hp=>by
 subst hW
 exact Rk.ok k _ F _ (bN F) (ab.setM (Ext.own ab.fh hp) hp aW (b7 ab.fh hp) ⟨rfl,.nil,.nil,List.nodup_nil⟩)
noncomputable def lL(neg:Bool)(i:Nat)(f:Sg->R PyData):Sg->R PyData:=fun ρ=>(f ρ).bind fun k=>match ρ[i]? with
 | some (some (.m kvs))=>if b9 k (kvs.map (·.1))=true then .ok (.bool (if neg=true then !cS kvs k else cS kvs k)) else .bad
 | some (some (.f kvs))=>if b9 k (kvs.map (·.1))=true then .ok (.bool (if neg=true then !cS kvs k else cS kvs k)) else .bad
 | _=>.bad
def xL(X:Cx)(neg:Bool):R2:=fun y x H Q=>∃ p es k,x=.ref p/\DicAt X H p es k y/\Q (.bl (if neg=true then !(atE es k).isSome else (atE es k).isSome)) H
theorem vS(hu:X.A.units+64 < cLine):OpR X (compareOp .In) (xL X false):=by
 intro pins s σ H y x v u Q I ry rx h
 obtain ⟨p,es,k,rfl,D,q⟩:=h
 cases (show u=Value.ref p from rx)
 exact aF9 hu D I ry fun s' I'=>⟨.bl _,H,I',rfl,q⟩
theorem aBD(hu:X.A.units+64 < cLine):OpR X (compareOp .NotIn) (xL X true):=by
 intro pins s σ H y x v u Q I ry rx h
 obtain ⟨p,es,k,rfl,D,q⟩:=h
 cases (show u=Value.ref p from rx)
 exact aDG hu D I ry fun s' I'=>⟨.bl _,H,I',rfl,q⟩
theorem aBE{i:Nat}{neg:Bool}{f:Sg->R PyData}(hK:X.K=c.K)(hW:X.w=c.w)(hg:c.w=c.g.w){σ:L2.St}{H:Hp}{Q:VK}(h:tV (cM c) c E (lL neg i f) σ H Q):tOp (xL X neg) (tV (cM c) c E f) (i5 i) σ H Q:=by
 obtain ⟨ρ,F,ab,k⟩:=h
 refine ⟨ρ,F,ab,(Rk.bind k).imp fun d _ q v F1 H1 s1 r1=>?_⟩
 split at q
 ·rename_i kvs hi
  split at q
  ·rename_i hs
   obtain ⟨p,es,hp,D,m⟩:=xK hK hW (ab.ext s1) hi r1 hs
   refine ⟨_,hp,p,es,d,rfl,D,?_⟩
   rw[m.has]
   exact Rk.ok q _ F1 H1 s1 (.bl _)
  ·exact q.elim
 ·rename_i kvs hi
  split at q
  ·rename_i hs
   obtain ⟨p,es,hp,D,m⟩:=zO hK (hW.trans hg) (ab.ext s1) hi r1 hs
   refine ⟨_,hp,p,es,d,rfl,D,?_⟩
   rw[m.has]
   exact Rk.ok q _ F1 H1 s1 (.bl _)
  ·exact q.elim
 ·exact q.elim
theorem tL{i:Nat}{neg:Bool}{f:Sg->R PyData}(hK:X.K=c.K)(hW:X.w=c.w)(h:PT X e (aB6 (tOp (xL X neg) (tV (cM c) c E f) (i5 i))))(hg:c.w=c.g.w:=by rfl):PTf X c E e (e1 asB (lL neg i f)):=PT.imp h fun σ H Q q=>aBE hK hW hg (pX q)
noncomputable def pA(i:Nat)(f:Sg->R PyData):Sg->R PyData:=fun ρ=>match ρ[i]? with
 | some (some (.m kvs))=>(f ρ).bind fun k=>if b9 k (kvs.map (·.1))=true then match dW kvs k with
  | some v=>.ok v
  | none=>.bad else .bad
 | some (some (.f kvs))=>(f ρ).bind fun k=>if b9 k (kvs.map (·.1))=true then match dW kvs k with
  | some v=>.ok v
  | none=>.bad else .bad
 | _=>.bad
def aCJ(X:Cx)(td ty:TE):TE:=fun σ H Q=>td σ H fun x H1=>ty σ H1 fun y H2=>∃ p es k v,x=.ref p/\DicAt X H2 p es k y/\atE es k=some v/\Q v H2
theorem aDQ{o i:Expr}{td ty:TE}(hu:X.A.units+64 < cLine)(ho:PE X o td)(hi:PE X i ty)(hs:aF2 i):PE X (.Subscript o i pos) (aCJ X td ty):=by
 intro pins s σ H Q I h
 refine aC8 PySem.F.slot_dict_getitem.lookup hs (thn (ho pins s σ H _ I h) fun u s1 ⟨x,H1,I1,rx,q1⟩=>thn (hi pins s1 σ H1 _ I1 q1) fun iv s2 zz0=>?_)
 obtain ⟨y,H2,I2,ry,p,es,k,v,ex,D,hv,q2⟩:=zz0
 subst ex
 obtain rfl:u=Value.ref p:=rx
 obtain ⟨ep,hO⟩:=D.o
 obtain ⟨⟨_,o',ar,h1,h2,_⟩,_,_⟩:=(show bQ X.prog X.w H2 s2.heap p (dP X.w p es ep) from I2.hok p _ hO)
 exact ⟨⟨o',h1,h2.1⟩,aDH hu D I2 ry hv fun w' s3 I3 rw'=>⟨v,H2,I3,rw',q2⟩⟩
theorem aDR{i:Nat}{f:Sg->R PyData}(hK:X.K=c.K)(hW:X.w=c.w)(h:PE X e (aCJ X (i5 i) (tV (cM c) c E f)))(hg:c.w=c.g.w:=by rfl):PD X c E e (pA i f):=PE.imp h fun σ H Q ⟨ρ,F,ab,k⟩=>by
 unfold pA at k
 split at k
 ·rename_i kvs hi
  obtain ⟨_,hp,p,es,rfl,_⟩:=ab.slot i _ hi
  refine ⟨_,hp,ρ,F,ab,(Rk.bind k).imp fun d _ q v F1 H1 s1 r1=>?_⟩
  split at q
  ·rename_i hs
   obtain ⟨p',es',hp',D,m⟩:=xK hK hW (ab.ext s1) hi r1 hs
   rw[hp] at hp'
   cases hp'
   split at q
   ·rename_i w hw
    rcases m.get d with ⟨_,z⟩|⟨v',d',h1,h2,h3⟩
    ·rw[hw] at z;cases z
    ·rw[hw] at h2
     cases h2
     exact ⟨p,es',d,v',rfl,D,h1,Rk.ok q v' F1 H1 s1 h3⟩
   ·exact q.elim
  ·exact q.elim
 ·rename_i kvs hi
  obtain ⟨_,hp,p,es,rfl,_⟩:=ab.slot i _ hi
  refine ⟨_,hp,ρ,F,ab,(Rk.bind k).imp fun d _ q v F1 H1 s1 r1=>?_⟩
  split at q
  ·rename_i hs
   obtain ⟨p',es',hp',D,m⟩:=zO hK (hW.trans hg) (ab.ext s1) hi r1 hs
   rw[hp] at hp'
   cases hp'
   split at q
   ·rename_i w hw
    rcases m.get d with ⟨_,z⟩|⟨v',d',h1,h2,h3⟩
    ·rw[hw] at z;cases z
    ·rw[hw] at h2
     cases h2
     exact ⟨p,es',d,v',rfl,D,h1,Rk.ok q v' F1 H1 s1 h3⟩
   ·exact q.elim
  ·exact q.elim
 ·exact k.elim
noncomputable def j7(i:Nat)(f g:Sg->R PyData):Sg->R Fw:=fun ρ=>(g ρ).bind fun v=>match ρ[i]? with
 | some (some (.m kvs))=>(f ρ).bind fun k=>if b9 k (kvs.map (·.1))=true/\kvs.length<=16777216 then .ok (.nx (ρ.set i (some (.m (putM kvs k v))))) else .bad
 | _=>.bad
def aCK(X:Cx):wM:=fun o i v H Q=>∃ p es k,o=.ref p/\DicAt X H p es k i/\es.length<=sizeLine/\∀ ep,Q (upd H p (dP X.w p (kE es k i v) ep))
theorem oA(hu:X.A.units+64 < cLine):aFG X (aCK X):=by
 intro pins s σ H o i v ov iv u Q I ro ri rv h
 obtain ⟨p,es,k,rfl,D,hz,q⟩:=h
 cases (show ov=Value.ref p from ro)
 exact aDI hu D I ri rv hz fun ep s' I'=>⟨_,I',q ep⟩
theorem p6{i:Nat}{f g:Sg->R PyData}(hK:X.K=c.K)(hW:X.w=c.w)(h:PS X st (i6 (tV (cM c) c E g) (aFI (i5 i) (tV (cM c) c E f) (aCK X)))):PSf X c E st (j7 i f g):=PS.imp h fun D σ H ⟨ρ,F,ab,k⟩=>by
 refine ⟨ρ,F,ab,(Rk.bind k).imp fun x _ q v F1 H1 s1 r1=>?_⟩
 split at q
 ·rename_i kvs hi
  have ab1:=ab.ext s1
  obtain ⟨_,hp,p,es,rfl,_⟩:=ab1.slot i _ hi
  refine ⟨_,hp,ρ,F1,ab1,((Rk.bind q).ext s1).imp fun d _ q u F2 H2 s2 r2=>?_⟩
  have ab2:=ab1.ext s2
  split at q
  ·rename_i hs
   obtain ⟨p',es',hp',D',m⟩:=xK hK hW ab2 hi r2 hs.1
   rw[hp] at hp'
   cases hp'
   refine ⟨p,es',d,rfl,D',?_,?_⟩
   ·have:es'.length=kvs.length:=by have:=congrArg List.length m.k1;simpa using this
    rw[this,dX];exact hs.2
   ·intro ep
    rw[hW]
    exact Rk.ok q σ F2 _ (s1.trans s2).ff (ab2.putM hi hp (m.put r2 (DatV.same s2.ff r1)))
  ·exact q.elim
 ·exact q.elim
end
end Fl
namespace Fl
open PySem L2 PyProof.Rows
section
variable{X:Cx}{c:Ct}{E:XK}{e a b:Expr}{st:Stmt}{pos p2:Pos}
def p7(fs:PyData->Sg->Option Sg)(f:Sg->R PyData):Sg->R Fw:=fun ρ=>(f ρ).bind fun x=>(tH (fs x ρ)).bind fun ρ'=>.ok (.nx ρ')
theorem zP{g:TG}{fs:PyData->Sg->Option Sg}{is:List Nat}{f:Sg->R PyData}(hg:Tg c g fs is)(h:PS X st (i6 (tV (cM c) c E f) g)):PSf X c E st (p7 fs f):=PS.imp h fun D σ H zz0=>by
 obtain ⟨ρ,F,ab,k⟩:=zz0
 refine ⟨ρ,F,ab,(Rk.bind k).imp fun x _ q v F1 H1 s1 r1=>?_⟩
 cases h1:fs x ρ with
 | none=>rw[h1] at q;exact q.elim
 | some ρ'=>
  rw[h1] at q
  exact hg v x ρ ρ' σ F1 H1 _ (ab.ext s1) r1 h1 fun σ' _ _ ab'=>Rk.ok q σ' F1 H1 s1.ff ab'
noncomputable def aGK:PyData->R PyData
 | .str z=>if z.length<=16777216 then .ok (.str ⟨z.cps.toList.reverse.toArray⟩) else .bad
 | _=>.bad
def aJ9(f:Sg->R PyData)(g:Sg->R (Option Int)):Sg->R PyData:=fun ρ=>(f ρ).bind fun x=>(g ρ).bind fun o=>if o=some (-1) then aGK x else .bad
end
end Fl
namespace Fl
open PySem L2 PyProof.Rows
theorem aGL{P:Program}{w:World}{K:Frag}{mg:Str->Option Value}{base:Heap}{T:Hp}{x:Str}{st:Stmt}{N ps:List Str}{k:Nat}{f:Addr}{fd:FuncData}{fb:Sg->R Fw}(FL:Fun K x x st f fd)(S:FnScope N ps (aJ st))
  (hbody:∀ (cdv:Value) (A:Around) (outer:List Env) (s:Shared) (H F:Hp) (E:XK),Room k (A.deeper (envOfC x (aJ st) s.heap.objs.size f cdv))->
   i8 ((gN (CXe P w) P w K mg base N x (aJ st) f cdv A outer s H E).fly E) ⟨K,mg,w,F,H,gOf P w K mg base T,(envOfC x (aJ st) s.heap.objs.size f cdv).cells,fun _=>none⟩ E (cI st) fb):FnOk P w K mg base (CXe P w) (k+1) f fd ps (spF (gOf P w K mg base T) K mg ps.length (fnF N.length fb)):=by
 refine FL.okX S (fun vs H Q E h=>?_) (fun cdv A outer s H vs Q E hr h=>?_)
 ·obtain ⟨F,as,_,_,h2,h3,_⟩:=h
  rw[h2.len,h3]
 ·obtain ⟨F,as,h0,h1,h2,h3,h4⟩:=h
  exact ⟨_,hbody cdv A outer s H F E hr,nE h0 h1 h2 h4⟩
def xM(K:Frag)(T:Hp):Sp:=fun vs H Q _=>∃ (a:Addr) (ns:List Int),vs=[.ref a]/\ns.length<=63/\aG T H/\SqL K H a (ns.map V.int)/\∀ H',Q (.bl true) H'
theorem tM{K:Frag}{H:Hp}:∀ (ns:List Int),DatVs K H (ns.map V.int) (ns.map PyData.int)
 | []=>.nil
 | n::t=>.cons (.int n) (tM t)
theorem aGM{P:Program}{w:World}{K:Frag}{mg:Str->Option Value}{base:Heap}{T:Hp}{k:Nat}{f:Addr}{fd:FuncData}{x:Str}{G:List A->R A}(h:FnOk P w K mg base (CXe P w) k f fd [x] (spF (gOf P w K mg base T) K mg 1 G))
  (hl:∀ ns:List Int,ns.length<=63->G [.d (.list (ns.map .int))]=.ok (.d (.bool true))):FnOk P w K mg base (CXe P w) k f fd [x] (xM K T):=h.imp fun vs H Q E=>by
 rintro ⟨a,ns,rfl,hn,ht,hs,q⟩
 refine ⟨H,[.d (.list (ns.map .int))],ht,bN H,⟨.lst hs (tM ns),trivial⟩,rfl,?_⟩
 rw[hl ns hn]
 intro v F' H' _ r
 obtain rfl:=DatV.bl_of r
 exact q H'
theorem aIP(P:Program)(w:World)(H:Hp)(s:Shared)(e:Value)(s':Shared)(h:CXe P w [] H s (fun _ _ _=>False) e s'):False:=by
 obtain ⟨_,_,_,_,_,_,_,_,_,_,_,q⟩:=h
 exact q
theorem aDS{l:PySem.W.OpenLaw}{k:Nat}{q:Program}{loose:List Str}{XP:(Str->Option Value)->Heap->Prop}{YP:World->Heap->Prop}{d:DefRec}{K:Params->Frag}{x:Str}{qs:List (Pos×Str)}{xs:List Str}
  (hxs:∀ x∈xs,∃ d∈recsOf q,d.name=x) (hNT:∀ w:World,PySem.W.noTabs (K w.params)=true)
  (hn:l.most=some 63) (hdf:d.params.defaults=[]) (hr:Room k callerA)
  (hY:∀ (w:World) (h:Heap),YP w h->(K w.params).In h)
  (F:∀ (w:World) (mg:Str->Option Value) (fa:Addr) (h:Heap),(K w.params).In h->h.Ns mainGlobals mg->mg d.name=some (.ref fa)->
   ∃ fd:FuncData,(∀ (s:Shared) (u:Value),BindsTo s fd ⟨[u],[]⟩ [(x,u)]) /\
    ∀ (base:Heap) (T:Hp),(K w.params).In base->base.Ns mainGlobals mg->sW mg h base T qs xs->FnOk l.prog w (K w.params) mg base (CXe l.prog w) k fa fd [x] (xM (K w.params) T)) :
  PySem.W.WalkO q loose XP YP l.row.toRowW d [] (fun f vs=>PySem.call f vs):=
 walk_ofT (K:=K) (CX:=fun w=>CXe l.prog w) (qs:=qs) (xs:=xs) hxs hNT hn (by decide) hdf hr hY (fun w mg fa h h1 h2 h3=>by
  obtain ⟨fd,hb,hF⟩:=F w mg fa h h1 h2 h3
  exact ⟨fd,hb,fun base T h1 h2 h3=>⟨_,hF base T h1 h2 h3,fun H a ns hl hT hS=>⟨a,ns,rfl,hl,hT,hS,fun _=>rfl⟩⟩⟩) fun w H s e s' z=>aIP _ w H s e s' z
end Fl
namespace Fl
open PySem L2 PyProof.Rows
variable{X:Cx}{c:Ct}{E:XK}{e:Expr}
noncomputable def d2(G:Int->Int->Int):PyData->PyData->R PyData
 | .int i,.int j=>.ok (.int (G i j))
 | _,_=>.bad
noncomputable def d1(G:Int->Int):PyData->R PyData
 | .int i=>.ok (.int (G i))
 | _=>.bad
end Fl
namespace L2
open PySem PyProof.Rows
variable{X:Cx}
end L2
namespace Fl
open PySem L2 PyProof.Rows
variable{X:Cx}{c:Ct}{E:XK}{e:Expr}
end Fl
namespace Fl
open PySem L2 PyProof.Rows
variable{X:Cx}{c:Ct}{E:XK}{e:Expr}{st:Stmt}
def oC:Sg->R Fw:=fun _=>.bad
theorem zQ:PSf X c E st oC:=fun _ _ _ _ _ _ ⟨_,_,_,k⟩=>k.elim
end Fl
namespace Fl
open PySem L2 PyProof.Rows
theorem vA{H:Hp}{p:Addr}{a b:HO}:upd (upd H p a) p b=upd H p b:=by
 funext x
 by_cases q:x=p
 · subst q; rw [aW, aW]
 · rw [aH q, aH q, aH q]
section
variable{X:Cx}{pins:List (Addr×Obj)}{σ:L2.St}{H:Hp}{s:Shared}{a:Addr}{es:List Ent}{k:PyData}{kv v:V}{ku u:Value}{A:Around}{E:Value->Shared->Prop}
theorem xN{A:Around}(hu:A.units+64 < cLine):(gO X.prog X.w).room A:=by show A.units+9 < cLine;omega
theorem aDT{Q:Unit->Shared->Prop}(hu:A.units+64 < cLine)(D:DicAt X H a es k kv)(I:Inv X pins σ H s)(rk:aS kv ku)(rv:aS v u)(hz:es.length<=sizeLine)(h:∀ ep s',Inv X pins σ (upd H a (dP X.w a (kE es k kv v) ep)) s'->Q () s') :
  wpAny (model X.prog X.w) A (dictSet a ku u) Q E s:=by
 obtain ⟨hd,⟨b,xs,rfl,rfl,hx,hk,dd⟩|⟨kk,xs,rfl,rfl,hx,hk,dd⟩⟩:=D.cases I rk
 ·have hl:xs.length<=sizeLine:=by rw[<-Paired.length hx];exact hz
  refine wpAny_dictSet_heap (a:=b) (xN hu) hk dd (fun h' dd' hs=>?_) hl
  obtain ⟨q',ar,ep,hq,h2,h3,h4,_,h5⟩:=dd'
  obtain ⟨ep0,hO⟩:=D.o
  refine h ep _ (m7 I (by rw[hO];exact True.intro) hs ⟨q',hq⟩ (jG hd ⟨q',ar,hq,h2,h3,?_⟩))
  rw[h4]
  exact n5 (aCD rv hx)
 ·have hl:xs.length<=sizeLine:=by rw[<-Paired.length hx];exact hz
  refine wpAny_dictSet_pairs hk dd (fun h' dd' hs=>?_) hl
  obtain ⟨q',ar,ep,hq,h2,h3,h4,h5,_⟩:=dd'
  obtain ⟨ep0,hO⟩:=D.o
  refine h ep _ (m7 I (by rw[hO];exact True.intro) hs ⟨q',hq⟩ (jG hd ⟨q',ar,hq,h2,h3,?_⟩))
  exact n6 (aCF rv hx) h5 fun en hen=>h4 en (by simpa using hen)
end
abbrev TP:=L2.St->Hp->(List (V×V)->Hp->Prop)->Prop
def aGN(p:V×V)(u:Value×Value):Prop:=aS p.1 u.1/\aS p.2 u.2
def PPr(X:Cx)(keys:List (Option Expr))(vals:List Expr)(t:TP):Prop:=∀ (pos:Pos) (pins:List (Addr×Obj)) (s:Shared) (σ:L2.St) (H:Hp) (Q:List (V×V)->Hp->Prop),Inv X pins σ H s->t σ H Q->
 wpAny (model X.prog X.w) X.A (evalPairs (pairTrees keys vals X.env pos)) (fun vs s'=>∃ ps H',Inv X pins σ H' s'/\Paired aGN ps vs/\Q ps H') X.xe s
def aIQ:TP:=fun _ H Q=>Q [] H
def aGO(tk tv:TE)(t:TP):TP:=fun σ H Q=>tk σ H fun x H1=>tv σ H1 fun y H2=>t σ H2 fun ps H3=>Q ((x,y)::ps) H3
section
variable{X:Cx}{c:Ct}{E:XK}{e a b:Expr}{st:Stmt}{pos:Pos}
theorem aGP:PPr X [] [] aIQ:=fun pos pins s σ H Q I h=>evalPairs_nil ⟨[],H,I,.nil,h⟩
theorem aDU{k v:Expr}{ks:List (Option Expr)}{vs:List Expr}{tk tv:TE}{t:TP}(hk:PE X k tk)(hv:PE X v tv)(hr:PPr X ks vs t):PPr X (some k::ks) (v::vs) (aGO tk tv t):=by
 intro pos pins s σ H Q I h
 rw[pairTrees.eq_1]
 refine evalPairs_cons (thn (hk pins s σ H _ I h) fun ku s1 zz0=>?_)
 obtain ⟨x,H1,I1,r1,q1⟩:=zz0
 refine wpAny_bind (thn (hv pins s1 σ H1 _ I1 q1) fun vu s2 zz0=>?_)
 obtain ⟨y,H2,I2,r2,q2⟩:=zz0
 refine wpAny_bind (wpAny_standAt (wpAny_pure ?_))
 exact thn (hr pos pins s2 σ H2 _ I2 q2) fun vs s3 ⟨ps,H3,I3,r3,q3⟩=>⟨(x,y)::ps,H3,I3,.cons ⟨r1,r2⟩ r3,q3⟩
noncomputable def fW:List (PyData×PyData)->List (PyData×PyData)->R (List (PyData×PyData))
 | acc,[]=>.ok acc
 | acc,(k,v)::t=>if b9 k (acc.map (·.1))=true/\acc.length<=16777216 then fW (putM acc k v) t else .bad
def aBF(K:Frag)(F:Hp)(p:V×V)(d:PyData×PyData):Prop:=DatV K F p.1 d.1/\DatV K F p.2 d.2
theorem zR{pins:List (Addr×Obj)}{σ:L2.St}{p:Addr}{F:Hp}(hu:X.A.units+64 < cLine)(kvs:List (PyData×PyData)):∀ (ps:List (V×V)) (vs:List (Value×Value)) (acc res:List (PyData×PyData)) (es:List Ent) (ep:Nat) (H:Hp) (s:Shared) (Q:Shared->Prop),
  Inv X pins σ H s->aG F H->F p=none->H p=some (dP X.w p es ep)->MapRel X.K F es acc->Paired (aBF X.K F) ps kvs->Paired aGN ps vs->fW acc kvs=.ok res->
  (∀ es' ep' s',Inv X pins σ (upd H p (dP X.w p es' ep')) s'->MapRel X.K F es' res->Q s')->wpAny (model X.prog X.w) X.A (storeAll p vs) (fun _ s=>Q s) X.xe s:=by
 induction kvs with
 | nil=>
  intro ps vs acc res es ep H s Q I sf hf hp m d r e q
  cases d
  cases r
  cases e
  have hs:storeAll p []=pure PUnit.unit:=by unfold storeAll;rw[List.forIn_nil]
  rw[hs]
  refine wpAny_pure (q es ep s ?_ m)
  have:upd H p (dP X.w p es ep)=H:=by
   funext x
   by_cases z:x=p
   ·subst z;rw[aW,hp]
   ·rw[aH z]
  rw[this];exact I
 | cons kv t ih=>
  obtain ⟨k,v⟩:=kv
  intro ps vs acc res es ep H s Q I sf hf hp m d r e q
  cases d with
  | @cons x _ ps _ d ds=>
   cases r with
   | @cons _ u _ vs r rs=>
    unfold fW at e
    split at e
    ·rename_i hs
     have D:DicAt X H p es k x.1:=⟨⟨ep,hp⟩,fun e he=>(j6 m.k1 m.k2 e he).same sf,by rw[m.k1];exact m.nd,d.1.same sf,by rw[m.k1];exact hs.1⟩
     have hl:es.length<=sizeLine:=by
      have:es.length=acc.length:=by simpa using congrArg List.length m.k1
      rw[this,dX];exact hs.2
     have hst:storeAll p (u::vs)=(do dictSet p u.1 u.2;storeAll p vs):=by
      unfold storeAll
      rw[List.forIn_cons]
      simp
     rw[hst]
     refine wpAny_bind (aDT hu D I r.1 r.2 hl fun ep1 s' I'=>?_)
     have m':=m.put d.1 d.2
     have sf':aG F (upd H p (dP X.w p (kE es k x.1 x.2) ep1)):=fun a o z=>by rw[aH (a5 z hf)];exact sf a o z
     refine ih ps vs _ res _ _ _ s' Q I' sf' hf aW m' ds rs e fun es' ep' s'' I'' m''=>?_
     rw[vA] at I''
     exact q es' ep' s'' I'' m''
    ·cases e
def aCL(X:Cx)(tp:TP):TE:=fun σ H Q=>∀ p,H p=none->tp σ (upd H p (dP X.w p [] 0)) fun ps H2=>∃ (F:Hp) (kvs res:List (PyData×PyData)),aG F H2/\F p=none/\H2 p=some (dP X.w p [] 0)/\Paired (aBF X.K F) ps kvs/\fW [] kvs=.ok res /\
 ∀ es' ep',MapRel X.K F es' res->Q (.ref p) (upd H2 p (dP X.w p es' ep'))
theorem aDV{keys:List (Option Expr)}{vals:List Expr}{tp:TP}(hu:X.A.units+64 < cLine)(h:PPr X keys vals tp)(h1:(keys.all fun x=>x.isSome)=true:=by rfl)(h2:keys.length=vals.length:=by rfl)(h3:keys≠[]:=by exact fun z=>nomatch z)(h4:keys.length<=15:=by decide):PE X (.Dict keys vals pos) (aCL X tp):=by
 intro pins s σ H Q I q
 have I1:=I.laid (a:=s.heap.objs.size) (o:=dP X.w s.heap.objs.size [] 0) (t':=s.toks) (fun _ _ q=>Heap.get?_push_of_some {cls:=.type "dict",data:=.dict #[]} q) (Nat.le_refl _)
  (jG (beq_eq_false_iff_ne.mpr (Ne.symm (Nat.ne_of_lt I.big))) ⟨_,#[],Heap.get?_push_size _ rfl,⟨rfl,rfl,rfl⟩,rfl,.nil⟩)
 have q1:=q _ (I.hok.fresh (Nat.le_refl _))
 refine wpAny_Dict_any h1 h2 h3 h4 (thn (h pos pins _ σ _ _ I1 q1) fun vs s2 zz0=>?_)
 obtain ⟨ps,H2,I2,r,F,kvs,res,sf,hf,hp,d,e,z⟩:=zz0
 exact zR hu kvs ps vs [] res [] 0 H2 s2 _ I2 sf hf hp ⟨rfl,.nil,.nil,List.nodup_nil⟩ d r e fun es' ep' s' I' m=>⟨.ref s.heap.objs.size,_,I',rfl,z es' ep' m⟩
def aGQ(c:Ct)(E:XK)(f:Sg->R (List (PyData×PyData))):TP:=fun σ H Q=>∃ ρ F,Ab c ρ σ F H/\Rk c E F H (f ρ) fun kvs=>∀ ps F' H',Ext F H F' H'->Paired (aBF c.K F') ps kvs->Q ps H'
abbrev PPf(X:Cx)(c:Ct)(E:XK)(keys:List (Option Expr))(vals:List Expr)(f:Sg->R (List (PyData×PyData))):Prop:=PPr X keys vals (aGQ c E f)
theorem PPr.imp{X:Cx}{ks:List (Option Expr)}{vs:List Expr}{t t':TP}(h:PPr X ks vs t)(i:∀ σ H Q,t' σ H Q->t σ H Q):PPr X ks vs t':=fun pos pins s σ H Q I q=>h pos pins s σ H Q I (i σ H Q q)
noncomputable def xO:Sg->R (List (PyData×PyData)):=fun _=>.ok []
def r0(f g:Sg->R PyData)(r:Sg->R (List (PyData×PyData))):Sg->R (List (PyData×PyData)):=fun ρ=>(f ρ).bind fun x=>(g ρ).bind fun y=>(r ρ).bind fun t=>.ok ((x,y)::t)
theorem aDW:PPf X c E [] [] xO:=PPr.imp aGP fun σ H Q ⟨ρ,F,ab,k⟩=>Rk.ok k [] F H (Ext.refl ab.fh) .nil
theorem aBG{k v:Expr}{ks:List (Option Expr)}{vs:List Expr}{f g:Sg->R PyData}{r:Sg->R (List (PyData×PyData))}(hk:PD X c E k f)(hv:PD X c E v g)(hr:PPf X c E ks vs r):PPf X c E (some k::ks) (v::vs) (r0 f g r):=PPr.imp (aDU hk hv hr) fun σ H Q zz0=>by
 obtain ⟨ρ,F,ab,k⟩:=zz0
 refine ⟨ρ,F,ab,(Rk.bind k).imp fun x _ q v F1 H1 s1 r1=>?_⟩
 refine ⟨ρ,F1,ab.ext s1,((Rk.bind q).ext s1).imp fun y _ q u F2 H2 s2 r2=>?_⟩
 refine ⟨ρ,F2,ab.ext (s1.trans s2),((Rk.bind q).ext (s1.trans s2)).imp fun t _ q ps F3 H3 s3 r3=>?_⟩
 exact Rk.ok q _ F3 H3 ((s1.trans s2).trans s3) (.cons ⟨DatV.same (s2.trans s3).ff r1,DatV.same s3.ff r2⟩ r3)
noncomputable def r6(i:Nat)(f:Sg->R (List (PyData×PyData))):Sg->R Fw:=fun ρ=>(f ρ).bind fun kvs=>(fW [] kvs).bind fun res=>.ok (.nx (ρ.set i (some (.m res))))
theorem rE:∀ (kvs acc:List (PyData×PyData)) (x:Er),fW acc kvs≠.ex x
 | [],acc,x,h=>by cases h
 | (k,v)::t,acc,x,h=>by
  unfold fW at h
  split at h
  · exact rE t _ x h
  · cases h
theorem aDX{i:Nat}{f:Sg->R (List (PyData×PyData))}(hK:X.K=c.K)(hW:X.w=c.w)(h:PS X st (i6 (aCL X (aGQ c E f)) (g8 i))):PSf X c E st (r6 i f):=PS.imp h fun D σ H ⟨ρ,F,ab,k⟩=>fun p hp=>by
 have e1:=Ext.own (F:=F) (o:=dP X.w p [] 0) ab.fh hp
 refine ⟨ρ,F,ab.ext e1,((Rk.bind k).ext e1).imp fun kvs _ q ps F2 H2 s2 r2=>?_⟩
 have hf:F2 p=none:=s2.stay (b7 ab.fh hp) aW (fun _ z=>s9 z)
 have h2:H2 p=some (dP X.w p [] 0):=s2.hh _ _ aW
 cases e:fW [] kvs with
 | bad=>rw[e] at q;exact q.elim
 | ex x=>exact absurd e (rE _ _ _)
 | ok res=>
  rw[e] at q
  refine ⟨F2,kvs,res,s2.fh,hf,h2,by rw[hK];exact r2,e,fun es' ep' m=>?_⟩
  have e3:Ext F H F2 (upd H2 p (dP X.w p es' ep')):=by
   refine ⟨fun a o z=>?_,s2.ff,fun a o z=>?_,fun a z n=>?_⟩
   ·have ne:a≠p:=a5 z hp
    rw[aH ne]
    exact s2.hh a o (by rw[aH ne];exact z)
   ·rw[aH (a5 z hf)];exact s2.fh a o z
   ·have:=s2.nw a z n
    by_cases w:a=p
    · subst w; exact .inl hp
    · unfold j4 at this; rw [aH w] at this; exact this
  rw[hW] at e3 ⊢
  rw[hK] at m
  exact Rk.ok q _ F2 _ s2.ff (ab.setM e3 hp aW hf m)
end
end Fl
namespace Fl
open PySem L2 PyProof.Rows
section
variable{X:Cx}{c:Ct}{E:XK}{e a b:Expr}{st:Stmt}{pos:Pos}
noncomputable def aGR(i:Nat)(f g:Sg->R PyData):Sg->R PyData:=fun ρ=>match ρ[i]? with
 | some (some (.m kvs))=>(f ρ).bind fun k=>(g ρ).bind fun y=>if b9 k (kvs.map (·.1))=true then .ok ((dW kvs k).getD y) else .bad
 | _=>.bad
end
end Fl
namespace L2
open PySem PySem.Spec PyProof.Rows
def tN(X:Cx)(σ0:St)(E:XK)(ev:Value)(s':Shared):Prop:=∃ e C od H',ev=.ref e/\Inv X [] σ0 H' s'/\FlyAt X H' s'.heap e C od false/\E (.ref C) (some e) H'
abbrev Cx.flyS(X:Cx)(σ0:St)(E:XK):Cx:=X.wish (tN X σ0 E)
section
variable{X:Cx}
theorem aIR{E:XK}{σ:St}{pins:List (Addr×Obj)}{H:Hp}{s:Shared}{ev:Value}{s':Shared}(I:Inv (X.flyS σ E) pins σ H s)(h:CXe X.prog X.w X.stack H s E ev s'):tN X σ E ev s':=by
 obtain ⟨e,C,od,H',rfl,os,bare,un,hok,he,⟨vs,T,q1,q2,q3⟩,q⟩:=h
 have I0:Inv X pins σ H s:=I.unwish
 have I1:Inv X [] σ H s:=I0.pins_of fun p hp=>absurd hp (by simp)
 have I2:Inv X [] σ H' s':=I1.call' os un hok bare (fun b hb=>absurd hb (by simp))
 refine ⟨e,C,od,H',rfl,I2,⟨he,vs,T,q1,q2,fun t e1=>?_,fun z=>nomatch z⟩,q⟩
 obtain ⟨t1,t2⟩:=q3 t e1
 refine ⟨t1,Nat.le_trans I0.sz t2,fun p hp z=>?_⟩
 have:=Heap.lt_size (I0.pin p (List.mem_append_left _ hp)).1
 rw[z] at this
 exact absurd (Nat.lt_of_lt_of_le this t2) (Nat.lt_irrefl _)
theorem aDY{CX:CXT}{k:Nat}{f:Addr}{fd:FuncData}{ps:List Str}{sp:Sp}{E:XK}{pins:List (Addr×Obj)}{σ:St}{H:Hp}{s:Shared}{Q:VK}{us:List Value}{vs:List V}{W:Value->Shared->Prop}(F:FnOk X.prog X.w X.K X.mg X.base CX k f fd ps sp)(hr:Room k X.A)(hb:f8 X.K fd ps [])
  (hx:∀ e s',CX X.stack H s E e s'->W e s') (I:Inv X pins σ H s) (r:aZ vs us) (h:sp (vs++[]) H Q E):wpAny (model X.prog X.w) X.A (call (.ref f) us) (EP X pins σ Q) W s:=by
 have r2:aZ (vs++[]) (us++[]):=r.append .nil
 have hl:(us++[]).length=ps.length:=by rw[<-r2.length];exact F.len _ _ _ _ h
 refine wpAny_call (codeAny_mono (F.run X.A X.stack s H ⟨us,[]⟩ (us++[]) (vs++[]) Q E hr I.env0 (hb s us I.kIn hl) r2 h) fun r s' hq=>?_)
 cases r with
 | error e=>exact hx e s' hq
 | ok fl=>
  cases fl with
  | ret u=>exact I.after hq
  | next=>exact False.elim hq
  | brk=>exact False.elim hq
  | cont=>exact False.elim hq
def PCl(X:Cx)(σ:St)(E:XK)(e:Expr)(t:TE):Prop:=∀ (pins:List (Addr×Obj)) (s:Shared) (H:Hp) (Q:VK),Inv (X.flyS σ E) pins σ H s->t σ H Q->wpAny (model X.prog X.w) X.A (eval e X.env) (EP (X.flyS σ E) pins σ Q) (tN X σ E) s
theorem tO{k:Nat}{x:Str}{ps:List Str}{sp:Sp}{E:XK}{σ:St}{e:Expr}{es:List Expr}{t:TA}{p pos:Pos}(C:Calls X.prog X.w X.K X.mg X.base (CXe X.prog X.w) k x ps sp)(hr:Room k X.A)(hg:Gl X x)(ha:PA (X.flyS σ E) (e::es) t)(hdb:(x == ("__debug__":Str))=false:=by decide)
  (he:starEach (e::es) X.env=(false,eval e X.env)::starEach es X.env:=by rfl) (hpl:(backTo pos (starEach es X.env)).any (·.1)=false:=by rfl):PCl X σ E (.Call (.Name x p) (e::es) [] pos) (m5 sp [] E t):=by
 obtain ⟨f,fd,F,b,m,kp⟩:=C
 intro pins s H Q I h
 refine wpAny_Call_Name_kw (jE (X:=X.flyS σ E) I hg m ?_ hdb)
 refine PySem.W.callWith_K (h₀:=X.base) I.ok.mod.kin kp (thn (ha pos pins s σ H _ I h) fun us s1 ⟨vs,H1,I1,r,q⟩=>⟨I1.kIn,?_⟩) he hpl
 exact aDY (X:=X.flyS σ E) F hr b (fun e s' z=>aIR I1 z) I1 r q
end
end L2
namespace Fl
open PySem L2 PyProof.Rows
def vT(K:Frag)(mg:Str->Option Value)(Wc:Addr)(cl:List Str):Prop:=∀ nm∈cl,∃ C bm,mg nm=some (.ref C)/\SX.ExcAny K C bm/\(Value.ref C::bm).contains (.ref Wc)=true
section
variable{X:Cx}{c:Ct}{E:XK}
end
end Fl
namespace Fl
open PySem L2 PyProof.Rows
end Fl
namespace Fl
open PySem L2 PyProof.Rows
section
variable{X:Cx}{c:Ct}{E:XK}{e:Expr}{P:Program}{w:World}{base:Heap}
end
end Fl
namespace L2
open PySem PySem.Spec PyProof.Rows
theorem bQ.got{P:Program}{w:World}{H:Hp}{h:Heap}{a:Addr}{o:HO}(x:bQ P w H h a o):∃ u,h.get? a=some u:=by
 cases o with
 | lst xs=>obtain ⟨_,_,_,_,e⟩:=x;exact ⟨_,e⟩
 | tup xs=>obtain ⟨_,_,_,⟨o,e,_⟩⟩:=x;exact ⟨_,e⟩
 | dK kvs=>obtain ⟨_,_,_,_,o,_,_,e,_⟩:=x;exact ⟨_,e⟩
 | dT kvs=>obtain ⟨_,_,_,_,o,_,_,e,_⟩:=x;exact ⟨_,e⟩
 | set S n=>obtain ⟨o,_,_,_,e,_⟩:=x;exact ⟨_,e⟩
 | ins C dx fs=>obtain ⟨_,_,_,e,_⟩:=x;exact ⟨_,e⟩
 | own y=>exact x
 | xd fs=>obtain ⟨_,⟨_,_,_,e,_⟩,_⟩:=x;exact ⟨_,e⟩
 | rng lo hi=>obtain ⟨_,_,_,e⟩:=x;exact ⟨_,e⟩
 | frz ob u=>exact ⟨_,x.1⟩
 | tbl ps=>obtain ⟨_,e,_⟩:=x;exact ⟨_,e⟩
 | cod q=>obtain ⟨c,o,vs,t,e,ho,_⟩:=x;cases e;exact ⟨_,ho⟩
 | met f y=>exact ⟨_,x⟩
 | ext φ=>exact x.2.1
theorem HOk.free{P:Program}{w:World}{H:Hp}{h:Heap}{a:Addr}(x:HOk P w H h)(e:h.get? a=none):H a=none:=by
 cases q:H a with
 | none=>rfl
 | some u=>
  obtain ⟨o,z⟩:=(x a u q).got
  rw[e] at z;cases z
theorem Inv.laidN{X:Cx}{pins:List (Addr×Obj)}{σ:St}{H:Hp}{s:Shared}{h':Heap}{a:Addr}{o:HO}{t':Nat}(I:Inv X pins σ H s)(k:∀ b u,s.heap.get? b=some u->h'.get? b=some u)(hp:s.heap.get? a=none)(new:bQ X.prog X.w (upd H a o) h' a o) :
  Inv X pins σ (upd H a o) {s with heap:=h',toks:=t'}:=by
 have hn:H a=none:=I.hok.free hp
 refine I.un ⟨fun b u q _ _ _=>k b u q,fun b u q _ _ _=>⟨u.slots,k b u q⟩,fun b u q n _=>?_,fun b u q _=>⟨u,k b u q⟩,fun b xs q=>by rw[aH (a5 q hn)];exact q,fun b u xs q=>by rw[aH (a5 q hn)];exact q,fun b ps q=>by rw[aH (a5 q hn)];exact q⟩ fun b u e=>?_
 ·rw[aH (fun z=>by rw[z,hp] at q;cases q)];exact n
 ·by_cases hb:b=a
  ·subst hb;rw[aW] at e;cases e;exact new
  ·rw[aH hb] at e
   exact (I.hok b u e).stay (fun c v _ q=>k c v q) (fun c q=>by rw[aH (a5 q hn)];exact q) (fun c xs q=>by rw[aH (a5 q hn)];exact q) fun c xs q=>by rw[aH (a5 q hn)];exact q
structure ErrP(K:Frag)(mg:Str->Option Value)(x:Str)(W C:Addr):Prop where
 c:SX.ExcC K W C
 m:mg x=some (.ref C)
 lk:∃ nm q N bs sn sub ab col dd k0 k1 k2 k3 k5,K.lookup C=some (excClassObj nm q C N bs (.ref W::SX.gD) true sn sub ab col dd k0 k1 k2 k3 k5 "ValueError.__new__")/\PySem.W.nsOkIn K N=true/\PySem.W.nsIn K N "__init__"=some none
 lw:∃ c0 dd cd sl,K.lookup W=some ⟨c0,dd,.cls cd,sl⟩/\PySem.W.nsOkIn K cd.ns=true/\PySem.W.nsIn K cd.ns "__init__"=some none
def p8(C:Addr)(E:XK)(ta:TA):TS:=fun _ σ H=>ta σ H fun vs H1=>vs.length<=1000/\∀ e,H1 e=none->E (.ref C) (some e) (upd H1 e (ExO e C none))
theorem aCM{K:Frag}{h:Heap}{N:Addr}{n:Str}(X:K.In h)(a:PySem.W.nsOkIn K N=true)(b:PySem.W.nsIn K N n=some none):∃ m,h.Ns N m/\m n=none:=by
 have:=Heap.Ns.of_isNs (PySem.W.isNs_of_in X a)
 exact ⟨_,this,PySem.W.ns_none_of X this b⟩
section
variable{X:Cx}{E:XK}{W C:Addr}{x:Str}{np cpos pos:Pos}{e0:Expr}{rest:List Expr}{ta:TA}
theorem rF(hc:X.calm=true)(er:ErrP X.K X.mg x W C)(hg:Gl X x)(ha:PA (X.fly E) (e0::rest) ta)(hdb:(x == ("__debug__":Str))=false:=by decide)
  (he:starEach (e0::rest) X.env=(false,eval e0 X.env)::starEach rest X.env:=by rfl) (hpl:(backTo cpos (starEach rest X.env)).any (·.1)=false:=by rfl) :
  PS (X.fly E) (.Raise (some (.Call (.Name x np) (e0::rest) [] cpos)) none pos) (p8 C E ta):=by
 intro pins s σ H D I h
 obtain ⟨nm,q,N,bs,sn,sub,ab,col,dd,k0,k1,k2,k3,k5,lk,nok,nno⟩:=er.lk
 obtain ⟨c0,dw,cd,sl,lw,wok,wno⟩:=er.lw
 have core:wpAny (model X.prog X.w) X.A (eval (.Call (.Name x np) (e0::rest) [] cpos) X.env) (fun v s1=>∃ e od vs,v=.ref e/\s1.heap.get? C=some (excClassObj nm q C N bs (.ref W::SX.gD) true sn sub ab col dd k0 k1 k2 k3 k5 "ValueError.__new__") /\
   s1.heap.get? e=some {cls:=.ref C,dict:=od,data:=.fields vs}/\vs[1]? = some .none/\Fly X E (.ref e) s1) (Fly X E) s:=by
  refine wpAny_Call_Name_kw (jE (X:=X) I.unwish hg er.m ?_ hdb)
  refine PySem.W.callWith_K (h₀:=X.base) I.ok.mod.kin er.c.kp (thn (ha cpos pins s σ H _ I h) fun us s1 ⟨vs,H1,I1',r,hz,q1⟩=>⟨I1'.kIn,?_⟩) he hpl
  have I1:Inv X pins σ H1 s1:=I1'.unwish
  obtain ⟨hp,g,d,tk,os⟩:=s1
  have hz':us.length<=sizeLine:=by rw[<-r.length,sizeLine_eq];omega
  have kin:X.K.In hp:=I1.kIn
  obtain ⟨mN,hN,hN0⟩:=aCM kin nok nno
  obtain ⟨mW,hW,hW0⟩:=aCM kin wok wno
  refine wpAny_call_exc_subT PySem.F.excBase_ValueError (.own (kin _ _ lw) hW hW0 .base) (kin _ _ lk) hN hN0 (fun h' e hm'=>?_) hz'
  obtain ⟨t,het,_,_⟩:=hm'.there
  have I2:Inv X pins σ (upd H1 e (ExO e C none)) ⟨h',g,d,tk,os⟩:=I1.laidN (t':=tk) hm'.keeps hm'.new (yQ het)
  have q2:=q1 e (I1.hok.free hm'.new)
  have I5:Inv X [] σ (upd H1 e (ExO e C none)) ⟨h',g,d,tk,os⟩:=I2.pins_of fun p hp=>absurd hp (by simp)
  exact ⟨e,none,_,rfl,I2.kIn _ _ lk,het,rfl,e,C,none,σ,_,rfl,I5,⟨aW,_,none,het,rfl,(fun t z=>nomatch z),(fun z=>nomatch z)⟩,q2⟩
 show wpAny (model X.prog X.w) X.A (exec (.Raise (some (.Call (.Name x np) (e0::rest) [] cpos)) none pos) X.env) _ (Fly X E) s
 rw[arm_exec_Raise]
 first
  | refine wpAny_bind (wpAny_standAt (SX.oX (SX.aAS W) (I.ok.hd hc) (wpAny_bind (wpAny_mono core (fun v s1 h1=>wpAny_bind (wpAny_standAt (wpAny_pure h1))) fun _ _ z=>z))))
  | (simp only[evalOpt,Option.map];refine wpAny_bind (wpAny_standAt (SX.oX (SX.aAS W) (I.ok.hd hc) (wpAny_bind (wpAny_mono core (fun v s1 h1=>wpAny_bind (wpAny_standAt (wpAny_pure h1))) fun _ _ z=>z)))))
end
def few(i:Int):Prop:=i=40\/i=60\/i=200\/i=300
theorem aDZ{i:Int}(h:few i):(Str.ofString (toString i)).length<=10/\i.natAbs.log2 < 1920:=by
 rcases h with rfl|rfl|rfl|rfl<;>decide +kernel
theorem gA(x y:Str):(x++y).length=x.length+y.length:=by
 show (x.cps++y.cps).size=x.cps.size+y.cps.size
 simp
def aGS(ta:TE):TE:=fun σ H Q=>ta σ H fun x H1=>∃ i:Int,x=.int i/\few i/\∀ z:Str,Q (.str z) H1
theorem aGT{X:Cx}{v:Expr}{ta:TE}{a b:Str}{k1 k2:Nat}{p1 p2 p3 pos:Pos}(hv:PE X v ta)(ha:a.length<=1000:=by decide)(hb:b.length<=1000:=by decide) :
  PE X (.JoinedStr [.Constant (.str a) k1 p1,.FormattedValue v (-1) none p2,.Constant (.str b) k2 p3] pos) (aGS ta):=by
 intro pins s σ H Q I h
 have hsz:sizeLine=16777216:=rfl
 have h0:(Str.empty).length=0:=rfl
 refine wpAny_JoinedStr (Joins_cons (thn (sD (X:=X) pins s σ H (fun y H1=>y=.str a/\H1=H) I ⟨rfl,rfl⟩) fun u s1 zz0=>?_))
 obtain ⟨y,H1,I1,r1,e1,e2⟩:=zz0
 subst e1 e2
 obtain ⟨t1,rfl⟩:=r1
 refine ⟨a,t1,rfl,by rw[gA,h0];omega,Joins_cons (wpAny_FormattedValue_plain (thn (hv pins s1 σ _ _ I1 h) fun u s2 zz0=>?_))⟩
 obtain ⟨y,H2,I2,r2,i,e,hf,q⟩:=zz0
 subst e
 obtain ⟨t2,rfl⟩:=r2
 obtain ⟨f1,f2⟩:=aDZ hf
 refine wpAny_formatField_int f2 ⟨_,_,rfl,by rw[gA,gA,h0];omega,Joins_cons (thn (sD (X:=X) pins _ σ H2 (fun y H1=>y=.str b/\H1=H2) (I2.tok _) ⟨rfl,rfl⟩) fun u s3 zz0=>?_)⟩
 obtain ⟨y,H3,I3,r3,e1,e2⟩:=zz0
 subst e1 e2
 obtain ⟨t3,rfl⟩:=r3
 refine ⟨b,t3,rfl,by rw[gA,gA,gA,h0];omega,Joins_nil ⟨by rw[gA,gA,gA,h0];omega,?_⟩⟩
 exact ⟨.str _,_,I3.tok _,⟨_,rfl⟩,q _⟩
end L2
namespace L2
open PySem PySem.Spec PyProof.Rows
section
variable{X:Cx}
theorem zS{x:Str}{Wc:Addr}{bmW:List Value}{body suite:List Stmt}{b0:Stmt}{np hpos pos:Pos}(hO:k7 X)
  (hg:Gl X x) (hm:X.mg x=some (.ref Wc)) (hw:SX.ExcAny X.K Wc bmW) (hdb:(x == ("__debug__":Str))=false) {pins:List (Addr×Obj)} {s:Shared} {σ:St} {H:Hp} {D:iB} {E:XK} (I:Inv X pins σ H s)
  (hb:wpAny (model X.prog X.w) X.A (execs body X.env) (fun f s1=>SP X pins D f s1) (tN (X.pnw (X.pn++pins)) σ E) s)
  (hh:∀ (C e:Addr) (H':Hp),(∃ od,H' e=some (ExO e C od))->E (.ref C) (some e) H'->∃ bm,SX.ExcAny X.K C bm/\(Value.ref C::bm).contains (.ref Wc)=true/\∃ ts,PSs (X.inH e) (b0::suite) ts/\ts D σ H') :
  wpAny (model X.prog X.w) X.A (exec (.Try body [.ExceptHandler (some (.Name x np)) none (b0::suite) hpos] [] [] pos) X.env) (SP X pins D) X.xe s:=by
 refine wpAny_Try_except (wpAny_mono hb (fun f s1 q'=>?_) fun ev s1 q=>?_)
 ·cases f with
  | next=>exact wpAny_execs_nil q'
  | brk=>exact q'
  | cont=>exact q'
  | ret u=>exact q'
 ·obtain ⟨e,C,od,H1,rfl,I2,f2,q⟩:=q
  have hO':k7 (X.pnw (X.pn++pins)):=hO
  refine k8 (X:=X.pnw (X.pn++pins)) hO' I2 f2 fun s3 I3 f3=>kK (X:=X.pnw (X.pn++pins)) I3 f3 fun s4 I4 f4=>?_
  have I4':Inv X pins σ H1 s4:=I4.ofPn
  obtain ⟨bm,cA,hcon,ts,pts,qts⟩:=hh C e H1 ⟨od,f4.tr⟩ q
  refine wpAny_handleBy_cons (codeAny_handlers_test ?_) (by intro z;cases z)
  have IH:Inv (X.inH e) pins σ H1 s4:=I4'.inH e
  refine jE (X:=X.inH e) IH hg hm ?_ hdb
  obtain ⟨vs,hx⟩:=sN I4'.hok f4.tr
  refine SX.uX I4'.kIn cA hw hx rfl ?_
  rw[hcon]
  refine codeAny_handlers_suite ?_
  refine kK (X:=X.pnw (X.pn++pins)) I4 f4 fun s5 I5 f5=>?_
  have I5':Inv X pins σ H1 s5:=I5.ofPn
  refine wpAny_mono (pts pins s5 σ H1 D (I5'.inH e) qts) (fun f s7 q7=>?_) fun _ _ z=>z.elim
  cases f with
  | next=>
   obtain ⟨σ7,H7,I7,q7⟩:=q7
   exact ⟨σ7,H7,I7.ofH I.ok,q7⟩
  | brk=>
   obtain ⟨σ7,H7,I7,q7⟩:=q7
   exact ⟨σ7,H7,I7.ofH I.ok,q7⟩
  | cont=>
   obtain ⟨σ7,H7,I7,q7⟩:=q7
   exact ⟨σ7,H7,I7.ofH I.ok,q7⟩
  | ret u=>
   obtain ⟨v,σ7,H7,I7,r7,q7⟩:=q7
   exact ⟨v,σ7,H7,I7.ofH I.ok,r7,q7⟩
end
end L2
namespace Fl
open PySem L2 PyProof.Rows
instance (i:Int):Decidable (few i):=by unfold few;infer_instance
def aD0(cn:Str)(f:Sg->R (List PyData)):Sg->R Fw:=fun ρ=>(f ρ).bind fun xs=>if xs.length<=1000 then .ex ⟨cn,[]⟩ else .bad
def p9(cn:Str)(g:Sg->R PyData):Sg->R Fw:=fun ρ=>(g ρ).bind fun x=>match x with
 | .int i=>if few i then .ex ⟨cn,[]⟩ else .bad
 | _=>.bad
section
variable{X:Cx}{c:Ct}{E:XK}{st:Stmt}{cn:Str}{C:Addr}
theorem rF{f:Sg->R (List PyData)}(hm:c.mg cn=some (.ref C))(h:PS X st (p8 C E (tAd c E f))):PSf X c E st (aD0 cn f):=PS.imp h fun D σ H zz0=>by
 obtain ⟨ρ,F,ab,k⟩:=zz0
 refine ⟨ρ,F,ab,(Rk.bind k).imp fun xs _ q vs F1 H1 s1 r1=>?_⟩
 by_cases hn:xs.length<=1000
 ·rw[if_pos hn] at q
  exact ⟨by rw[r1.length];exact hn,fun e he=>q e C _ _ ((ab.all.trans s1).trans (Ext.new s1.fh he)) ⟨hm,none,aW,.inl ⟨rfl,rfl⟩⟩⟩
 ·rw[if_neg hn] at q;exact q.elim
theorem zT{g:Sg->R PyData}(hm:c.mg cn=some (.ref C))(h:PS X st (p8 C E (iN (aGS (tV (bI c) c E g)) kZ))):PSf X c E st (p9 cn g):=PS.imp h fun D σ H ⟨ρ,F,ab,k⟩=>by
 refine ⟨ρ,F,ab,(Rk.bind k).imp fun x hx q v F1 H1 s1 r1=>?_⟩
 clear hx
 split at q
 ·rename_i i
  split at q
  ·rename_i hf
   obtain rfl:=aU.int_of r1
   exact ⟨i,rfl,hf,fun z=>⟨by show 1<=1000;decide,fun e he=>q e C _ _ ((ab.all.trans s1).trans (Ext.new s1.fh he)) ⟨hm,none,aW,.inl ⟨rfl,rfl⟩⟩⟩⟩
  ·exact q.elim
 ·exact q.elim
theorem rT{K:Frag}{mg:Str->Option Value}{x:Str}{W C:Addr}(er:ErrP K mg x W C):vT K mg C [x]:=fun nm h=>by
 rw[List.mem_singleton.mp h]
 exact ⟨C,_,er.m,er.c.any,by simp⟩
end
end Fl
namespace L2
open PySem
noncomputable def aGU(e:DictEntry):Bool:=match e.key with
 | .str _ _=>true
 | _=>false
theorem vU{K:Frag}{N:Addr}{cl:Value}{d:Option Addr}{es:Array DictEntry}{ep:Nat}{sl:Array (Option Value)}(l:K.lookup N=some ⟨cl,d,.dict es ep,sl⟩)(h:es.toList.all aGU=true):PySem.W.nsOkIn K N=true:=by
 unfold PySem.W.nsOkIn
 rw[show List.lookup N K=some ⟨cl,d,.dict es ep,sl⟩ from l]
 show es.all _=true
 rw[<-Array.all_toList]
 exact h
end L2
namespace Fl
open PySem L2 PyProof.Rows
end Fl
namespace HT
open PySem PySem.Spec PyProof.Rows L2
end HT
namespace Fl
open PySem L2 PyProof.Rows
def FnK(K:Frag)(H:Hp)(f:Addr):Prop:=PySem.W.keepIn K (.ref f)=true\/∃ oc od fd sl,H f=some (FnO f ⟨oc,od,.func fd,sl⟩)
def tP(X:Cx)(i:Nat)(E:XK)(t:TA):TE:=fun σ H Q=>∃ f,σ[i]? = some (some (.ref f))/\FnK X.K H f/\t σ H fun vs H1=>FnK X.K H1 f/\∃ k fd ps sp,Room k X.A/\FnOk X.prog X.w X.K X.mg X.base (CXe X.prog X.w) k f fd ps sp/\f8 X.K fd ps []/\sp vs H1 Q E
theorem tQ{X:Cx}{i:Nat}{x:Str}{E:XK}{p pos:Pos}{e:Expr}{es:List Expr}{t:TA}(hn:PE X (.Name x p) (i5 i))(hx:jL (CXe X.prog X.w) X E)(ha:PA X (e::es) t)
  (he:starEach (e::es) X.env=(false,eval e X.env)::starEach es X.env:=by rfl) (hpl:(backTo pos (starEach es X.env)).any (·.1)=false:=by rfl):PE X (.Call (.Name x p) (e::es) [] pos) (tP X i E t):=by
 intro pins s σ H Q I h
 obtain ⟨f,hf,hk,h⟩:=h
 refine wpAny_Call_Name_kw (thn (hn pins s σ H (fun v H'=>v=.ref f/\H'=H) I ⟨_,hf,rfl,rfl⟩) fun u s0 zz0=>?_)
 obtain ⟨v,H0,I0,rv,e1,e2⟩:=zz0
 subst e1 e2
 obtain rfl:u=Value.ref f:=rv
 have fin:∀ (us:List Value) (s1:Shared),AP X pins σ (fun vs H1=>FnK X.K H1 f/\∃ k fd ps sp,Room k X.A/\FnOk X.prog X.w X.K X.mg X.base (CXe X.prog X.w) k f fd ps sp/\f8 X.K fd ps []/\sp vs H1 Q E) us s1->
   (∃ H1,Inv X pins σ H1 s1/\FnK X.K H1 f)/\wpAny (model X.prog X.w) X.A (call (.ref f) us) (EP X pins σ Q) X.xe s1:=by
  rintro us s1 ⟨vs,H1,I1,r,hk1,k,fd,ps,sp,hr,F,hb,q⟩
  refine ⟨⟨H1,I1,hk1⟩,yK (dvs:=[]) (ds:=[]) F hr hb .nil hx I1 r ?_⟩
  rw[List.append_nil];exact q
 rcases hk with hk|⟨oc,od,fd,sl,hk⟩
 ·refine PySem.W.callWith_K (h₀:=X.base) I0.ok.mod.kin hk (thn (ha pos pins s0 σ H0 _ I0 h) fun us s1 hq=>?_) he hpl
  obtain ⟨⟨H1,I1,_⟩,q⟩:=fin us s1 hq
  exact ⟨I1.kIn,q⟩
 ·refine PySem.W.callWith_F ⟨oc,od,fd,sl,FnO.get I0.hok hk⟩ (thn (ha pos pins s0 σ H0 _ I0 h) fun us s1 hq=>?_) he hpl
  obtain ⟨⟨H1,I1,hk1⟩,q⟩:=fin us s1 hq
  refine ⟨?_,q⟩
  rcases hk1 with hk1|⟨oc,od,fd,sl,hk1⟩
  ·cases e:X.K.lookup f with
   | none=>unfold PySem.W.keepIn at hk1;dsimp only at hk1;rw[e] at hk1;cases hk1
   | some o=>
    have e1:=I1.kIn f o e
    exfalso
    have e2:=I0.kIn f o e
    obtain ⟨o',h1,h2⟩:∃ o',H0 f=some (FnO f o')/\True:=⟨_,hk,trivial⟩
    have e3:=I0.bs f o (I0.ok.mod.kin f o e)
    rw[e3.2] at h1;cases h1
  ·exact ⟨oc,od,fd,sl,FnO.get I1.hok hk1⟩
def tR(m i:Nat)(f:Sg->R (List PyData)):Sg->R PyData:=fun ρ=>match ρ[i]? with
 | some (some (.g k n G))=>(f ρ).bind fun ds=>if k<=m/\ds.length=n then G ds else .bad
 | _=>.bad
theorem aGV{X:Cx}{c:Ct}{E:XK}{e:Expr}{m i:Nat}{T:Hp}{f:Sg->R (List PyData)}(hG:c.g=gOf X.prog X.w X.K X.mg X.base T)(hK:X.K=c.K)(hM:X.mg=c.mg)(hr:Room m X.A)(h:PE X e (tP X i E (tAd c E f))):PD X c E e (tR m i f):=PE.imp h fun σ H Q ⟨ρ,F,ab,k⟩=>by
 unfold tR at k
 split at k
 ·rename_i lv n G hi
  obtain ⟨v,hv,hA⟩:=ab.slot i _ hi
  obtain ⟨fa,F1,rfl,s1,B⟩:=(show AF c.g c.K c.mg F (.g lv n G) v from hA)
  rw[hG] at B
  obtain ⟨fd,ps,hps,hb,FO,hk⟩:=(show Beh X.prog X.w X.K X.mg X.base T fa F1 lv n G from B)
  have hk1:∀ F' H',aG F F'->aG F' H'->FnK X.K H' fa:=fun F' H' a1 a2=>hk.imp id fun ⟨oc,od,fd,sl,e⟩=>⟨oc,od,fd,sl,a2 _ _ (a1 _ _ (s1 _ _ e))⟩
  refine ⟨fa,hv,hk1 F H (bN F) ab.fh,ρ,F,ab,(Rk.bind k).imp fun ds _ q vs F' H' e1 r=>?_⟩
  refine ⟨hk1 F' H' e1.ff e1.fh,?_⟩
  by_cases hn:lv<=m/\ds.length=n
  ·rw[if_pos hn] at q
   refine ⟨lv,fd,ps,_,hr.mono hn.1,FO,hb,F',ds,fun a o z=>e1.ff a o (s1 a o z),fun a o z=>e1.ff a o (ab.f0 a o (ab.t0 a o (by rw[hG];exact z))),e1.fh,by rw[hK];exact r,hn.2,?_⟩
   cases hg:G ds with
   | bad=>rw[hg] at q;exact q
   | ok d=>rw[hg] at q;exact fun v F2 H2 e2 r2=>Rk.ok q v F2 H2 (e1.trans e2) (by rw[hK] at r2;exact r2)
   | ex x=>rw[hg] at q;exact fun a C F2 H2 e2 r2=>q a C F2 H2 ((ab.all.trans e1).trans e2) (by rw[hK,hM] at r2;exact r2)
  ·rw[if_neg hn] at q;exact q.elim
 ·exact k.elim
noncomputable def nG:PyData->Bool
 | .none=>true
 | .bool _=>true
 | .int _=>true
 | .str _=>true
 | _=>false
theorem aBH{K:Frag}{F F':Hp}{v:V}{d:PyData}(h:nG d=true)(r:DatV K F v d):DatV K F' v d:=by
 cases d with
 | none=>cases r;exact .non
 | bool b=>cases r;exact .bl b
 | int i=>cases r;exact .int i
 | str x=>cases r;exact .str x
 | list xs=>cases h
 | tuple xs=>cases h
 | dict xs=>cases h
def lM(K:Frag)(F H:Hp):List V->List PyData->Prop
 | [],[]=>True
 | v::vs,d::ds=>aU K F H v d/\lM K F H vs ds
 | _,_=>False
theorem lM.ext{K:Frag}{F H F' H':Hp}(e:Ext F H F' H'):∀ {vs:List V} {ds:List PyData},lM K F H vs ds->lM K F' H' vs ds
 | [],[],_=>trivial
 | v::vs,d::ds,h=>⟨aU.ext e h.1,lM.ext e h.2⟩
def tAr(c:Ct)(E:XK)(f:Sg->R (List PyData)):TA:=fun σ H Q=>∃ ρ F,Ab c ρ σ F H/\Rk c E F H (f ρ) fun ds=>∀ vs F' H',Ext F H F' H'->lM c.K F' H' vs ds->Q vs H'
theorem aD1{X:Cx}{c:Ct}{E:XK}:PA X [] (tAr c E aF):=PA.imp a8 fun σ H Q ⟨ρ,F,ab,k⟩=>Rk.ok k [] F H (Ext.refl ab.fh) trivial
theorem tS{X:Cx}{c:Ct}{E:XK}{e:Expr}{es:List Expr}{f:Sg->R PyData}{g:Sg->R (List PyData)}(h:PR X c E e f)(h2:PA X es (tAr c E g))(hs:starEach (e::es) X.env=(false,eval e X.env)::starEach es X.env:=by rfl):PA X (e::es) (tAr c E (aA f g)):=PA.imp (aT h h2 hs) fun σ H Q zz0=>by
 obtain ⟨ρ,F,ab,k⟩:=zz0
 refine ⟨ρ,F,ab,(Rk.bind k).imp fun x _ q v F1 H1 s1 r1=>⟨ρ,F1,ab.ext s1,((Rk.bind q).ext s1).imp fun xs _ q vs F2 H2 s2 r2=>?_⟩⟩
 exact Rk.ok q (v::vs) F2 H2 (s1.trans s2) ⟨aU.ext s2 r1,r2⟩
theorem aGW{K:Frag}{F H:Hp}(s:aG F H):∀ {vs:List V} {ds:List PyData},lM K F H vs ds->∃ FL,aG F FL/\aG FL H/\DatVs K FL vs ds
 | [],[],_=>⟨F,bN F,s,.nil⟩
 | v::vs,d::ds,h=>by
  obtain ⟨FL,a,b,r⟩:=aGW s h.2
  rcases h.1 with q|⟨p,us,xs,rfl,rfl,h1,h2⟩
  ·exact ⟨FL,a,b,.cons (q.same a) r⟩
  ·refine ⟨fun x=>if x=p then some (.lst us) else FL x,fun x o z=>?_,fun x o z=>?_,?_⟩
   ·by_cases hx:x=p
    ·subst hx
     have:=s x o z
     rw[h1] at this;cases this
     exact if_pos rfl
    ·exact (if_neg hx).trans (a x o z)
   ·by_cases hx:x=p
    ·subst hx
     have z':=(if_pos rfl).symm.trans z
     rw[h1];exact z'
    ·exact b x o ((if_neg hx).symm.trans z)
   ·have sm:aG FL (fun x=>if x=p then some (.lst us) else FL x):=fun x o z=>by
     by_cases hx:x=p
     ·subst hx
      have:=b x o z
      rw[h1] at this;cases this
      exact if_pos rfl
     ·exact (if_neg hx).trans z
    exact .cons (.lst (SqL.of (if_pos rfl)) (h2.same fun x o z=>sm x o (a x o z))) (r.same sm)
def pB(m i:Nat)(f:Sg->R (List PyData)):Sg->R PyData:=fun ρ=>match ρ[i]? with
 | some (some (.g k n G))=>(f ρ).bind fun ds=>if k<=m/\ds.length=n then (match G ds with | .ok d=>if nG d=true then .ok d else .bad|_=>.bad) else .bad
 | _=>.bad
theorem aD2{X:Cx}{c:Ct}{E:XK}{e:Expr}{m i:Nat}{T:Hp}{f:Sg->R (List PyData)}(hG:c.g=gOf X.prog X.w X.K X.mg X.base T)(hK:X.K=c.K)(hM:X.mg=c.mg)(hr:Room m X.A)(h:PE X e (tP X i E (tAr c E f))):PD X c E e (pB m i f):=PE.imp h fun σ H Q ⟨ρ,F,ab,k⟩=>by
 unfold pB at k
 split at k
 ·rename_i lv n G hi
  obtain ⟨v,hv,hA⟩:=ab.slot i _ hi
  obtain ⟨fa,F1,rfl,s1,B⟩:=(show AF c.g c.K c.mg F (.g lv n G) v from hA)
  rw[hG] at B
  obtain ⟨fd,ps,hps,hb,FO,hk⟩:=(show Beh X.prog X.w X.K X.mg X.base T fa F1 lv n G from B)
  have hk1:∀ F' H',aG F F'->aG F' H'->FnK X.K H' fa:=fun F' H' a1 a2=>hk.imp id fun ⟨oc,od,fd,sl,e⟩=>⟨oc,od,fd,sl,a2 _ _ (a1 _ _ (s1 _ _ e))⟩
  refine ⟨fa,hv,hk1 F H (bN F) ab.fh,ρ,F,ab,(Rk.bind k).imp fun ds _ q vs F' H' e1 r=>?_⟩
  refine ⟨hk1 F' H' e1.ff e1.fh,?_⟩
  by_cases hn:lv<=m/\ds.length=n
  ·rw[if_pos hn] at q
   obtain ⟨FL,a,b,r'⟩:=aGW e1.fh r
   refine ⟨lv,fd,ps,_,hr.mono hn.1,FO,hb,FL,ds,fun x o z=>a x o (e1.ff x o (s1 x o z)),fun x o z=>a x o (e1.ff x o (ab.f0 x o (ab.t0 x o (by rw[hG];exact z)))),b,by rw[hK];exact r',hn.2,?_⟩
   cases hg:G ds with
   | bad=>rw[hg] at q;exact q
   | ok d=>
    rw[hg] at q
    intro v F2 H2 e2 r2
    have q':Rk c E F H (if nG d=true then R.ok d else .bad) _:=q
    by_cases hf:nG d=true
    ·rw[if_pos hf] at q'
     refine Rk.ok q' v F' H2 (e1.trans ⟨e2.hh,bN F',fun x o z=>e2.hh x o (e1.fh x o z),fun x z n=>absurd z n⟩) (by rw[hK] at r2;exact aBH hf r2)
    ·rw[if_neg hf] at q';exact q'.elim
   | ex x=>rw[hg] at q;exact q.elim
  ·rw[if_neg hn] at q;exact q.elim
 ·exact k.elim
end Fl
namespace Fl
open PySem L2 PyProof.Rows
theorem aD3{K:Frag}{F:Hp}{cs:List Addr}{a:Addr}{xs:List V}(hc:Celd cs F)(h:SqL K F a xs):SqL K (hid cs F) a xs:=by
 rcases h with (h|⟨o,h⟩)|h
 · exact .inl (.inl (by rw [bC (hc.out h fun _ v z => nomatch z)]; exact h))
 · exact .inl (.inr ⟨o, by rw [bC (hc.out h fun _ v z => by unfold dJ at z; cases z)]; exact h⟩)
 · exact .inr h
theorem aD4{K:Frag}{F:Hp}{cs:List Addr}{a:Addr}{xs:List V}(hc:Celd cs F)(h:SqT K F a xs):SqT K (hid cs F) a xs:=by
 rcases h with (h|⟨o,h⟩)|h
 · exact .inl (.inl (by rw [bC (hc.out h fun _ v z => nomatch z)]; exact h))
 · exact .inl (.inr ⟨o, by rw [bC (hc.out h fun _ v z => by unfold dJ at z; cases z)]; exact h⟩)
 · exact .inr h
mutual
theorem vW{K:Frag}{F:Hp}{cs:List Addr}(hc:Celd cs F):∀ {v:V} {d:PyData},DatV K F v d->DatV K (hid cs F) v d
 | _,_,.non=>.non
 | _,_,.bl b=>.bl b
 | _,_,.int i=>.int i
 | _,_,.str x=>.str x
 | _,_,.lst h r=>.lst (aD3 hc h) (jR hc r)
 | _,_,.tup h r=>.tup (aD4 hc h) (jR hc r)
theorem jR{K:Frag}{F:Hp}{cs:List Addr}(hc:Celd cs F):∀ {vs:List V} {ds:List PyData},DatVs K F vs ds->DatVs K (hid cs F) vs ds
 | _,_,.nil=>.nil
 | _,_,.cons h r=>.cons (vW hc h) (jR hc r)
end
theorem aD5{e C b:Addr}{od:Option Addr}{o:Obj}{v:V}(h:ExO e C od=dJ b o v):False:=by unfold ExO dJ at h;cases h
theorem aBI{K:Frag}{mg:Str->Option Value}{F:Hp}{e:Er}{a C:Addr}{cs:List Addr}(hc:Celd cs F)(h:hJ K mg F e a C):hJ K mg (hid cs F) e a C/\a∉cs:=by
 obtain ⟨m,od,h1,h2⟩:=h
 have ha:=hc.out h1 fun _ v z=>aD5 z
 refine ⟨⟨m,od,by rw[bC ha];exact h1,h2.imp id ?_⟩,ha⟩
 rintro ⟨d,fvs,e1,e2,e3,e4⟩
 exact ⟨d,fvs,e1,by rw[bC (hc.out e2 fun _ v z=>nomatch z)];exact e2,e3,jR hc e4⟩
theorem tT{cv:Cv}{H F2:Hp}(s:aG (pub cv H) F2):Celd (cK cv) F2:=fun b hb=>by
 obtain ⟨p,e⟩:=fG.mp hb
 exact ⟨p.1,p.2,s _ _ (mB e)⟩
theorem aBJ{cv:Cv}{F H:Hp}(s:aG F H):aG (pub cv F) (pub cv H):=fun b o e=>by
 by_cases hb:b∈cK cv
 ·obtain ⟨p,q⟩:=fG.mp hb
  rw[mB q] at e ⊢;exact e
 ·rw[dL hb] at e ⊢;exact s b o e
theorem rG{cv:Cv}{F H F2 H2:Hp}(hd:∀ b∈cK cv,H b=none)(s:aG F H)(e:Ext (pub cv F) (pub cv H) F2 H2):Ext F H (hid (cK cv) F2) (hid (cK cv) H2):=by
 have hF:∀ b∈cK cv,F b=none:=fun b hb=>b7 s (hd b hb)
 have outH:∀ b o,H b=some o->b∉cK cv:=fun b o q z=>by rw[hd b z] at q;cases q
 have outF:∀ b o,F b=some o->b∉cK cv:=fun b o q z=>by rw[hF b z] at q;cases q
 refine ⟨fun b o q=>?_,fun b o q=>?_,fun b o q=>?_,fun b q n=>?_⟩
 ·have hb:=outH b o q
  rw[bC hb];exact e.hh b o (by rw[dL hb];exact q)
 ·have hb:=outF b o q
  rw[bC hb];exact e.ff b o (by rw[dL hb];exact q)
 ·obtain ⟨q1,hb⟩:=lB q
  rw[bC hb];exact e.fh b o q1
 ·by_cases hb:b∈cK cv
  ·exact absurd (kL hb) n
  ·rw[bC hb] at n
   have:=e.nw b (by rw[dL hb];exact q) n
   unfold j4 at this ⊢
   rw[dL hb] at this;exact this
noncomputable def dOf:R A->R PyData
 | .ok (.d x)=>.ok x
 | .ok _=>.bad
 | .ex e=>.ex e
 | .bad=>.bad
def CloOk(P:Program)(w:World)(K:Frag)(mg:Str->Option Value)(base:Heap)(T:Hp)(S:ClSt)(fr:List Str)(k n:Nat)(Gm:List A->List PyData->R PyData):Prop:=
 ∀ (F0 F1:Hp) (caps:List A) (cvs:List V) (f:Addr) (cl:List (Str×Addr)) (doc pm ct:Value) (cc:Addr),aG T F0->AFs (gOf P w K mg base T) K mg F0 caps cvs->aG F0 F1->
  F1 f=some (FnO f (S.obj cl doc pm cc ct))->F1 cc=some (.cod S.qual)->CapAt F1 fr cl cvs->(∀ c∈aP fr cl,F0 c=none)->Beh P w K mg base T f F1 k n (Gm caps)
theorem vX{cs:List Addr}{F H F2 H2:Hp}(s:aG F H)(hc:Celd cs F)(hn:∀ c∈cs,H2 c=none)(e:Ext (hid cs F) (hid cs H) F2 H2):Ext F H (shw cs F F2) (shw cs H H2)/\aG F2 (shw cs F F2):=by
 have hF:∀ c∈cs,F2 c=none:=fun c h=>b7 e.fh (hn c h)
 refine ⟨⟨fun b o q=>?_,fun b o q=>?_,fun b o q=>?_,fun b q n=>?_⟩,fun b o q=>?_⟩
 ·by_cases hb:b∈cs
  ·rw[l9 hb];exact q
  ·rw[dI hb];exact e.hh b o (by rw[bC hb];exact q)
 ·by_cases hb:b∈cs
  ·rw[l9 hb];exact q
  ·rw[dI hb];exact e.ff b o (by rw[bC hb];exact q)
 ·by_cases hb:b∈cs
  ·rw[l9 hb] at q ⊢;exact s b o q
  ·rw[dI hb] at q ⊢;exact e.fh b o q
 ·by_cases hb:b∈cs
  ·obtain ⟨o,v,z⟩:=hc b hb
   rw[z] at q;cases q
  ·rw[dI hb] at n
   have:=e.nw b (by rw[bC hb];exact q) n
   unfold j4 at this ⊢
   rw[bC hb] at this;exact this
 ·rw[dI fun z=>by rw[hF b z] at q;cases q];exact q
theorem AFs.data{g:Gb}{K:Frag}{mg:Str->Option Value}{F:Hp}:∀ {vs:List V} {ds:List PyData},DatVs K F vs ds->AFs g K mg F (ds.map .d) vs
 | _,_,.nil=>trivial
 | _,_,.cons h r=>⟨h,AFs.data r⟩
theorem AFs.append{g:Gb}{K:Frag}{mg:Str->Option Value}{F:Hp}:∀ {as bs:List A} {vs us:List V},AFs g K mg F as vs->AFs g K mg F bs us->AFs g K mg F (as++bs) (vs++us)
 | [],_,[],_,_,h=>h
 | a::as,bs,v::vs,us,h,h2=>⟨h.1,AFs.append h.2 h2⟩
section
variable{P:Program}{w:World}{K:Frag}{mg:Str->Option Value}{base:Heap}{T:Hp}{S:ClSt}{N ps fr:List Str}{k:Nat}
theorem rH{F0 F1 F H:Hp}{caps:List A}{cvs vs:List V}{ds:List PyData}{cl:List (Str×Addr)}(hT0:aG T F0)(hcap:AFs (gOf P w K mg base T) K mg F0 caps cvs)(h01:aG F0 F1)(h1F:aG F1 F)(hFH:aG F H)(C:CapAt F1 fr cl cvs)(hno:∀ c∈aP fr cl,F0 c=none)(hd:DatVs K F vs ds) :
  Celd (aP fr cl) F/\aG T (hid (aP fr cl) F)/\aG (hid (aP fr cl) F) (hid (aP fr cl) H)/\AFs (gOf P w K mg base T) K mg (hid (aP fr cl) F) (ds.map .d++caps) (vs++cvs):=by
 have hc:Celd (aP fr cl) F:=(C.same h1F).celd
 have h0:aG F0 (hid (aP fr cl) F):=fun b o q=>by
  rw[bC fun z=>by rw[hno b z] at q;cases q];exact h1F b o (h01 b o q)
 refine ⟨hc,fun b o q=>h0 b o (hT0 b o q),fun b o q=>?_,(AFs.data (jR hc hd)).append (hcap.same h0)⟩
 obtain ⟨q1,hb⟩:=lB q
 rw[bC hb];exact hFH b o q1
def hU(n:Nat)(fb:Sg->R Fw):List A->List PyData->R PyData:=fun caps ds=>dOf (fnF n fb (ds.map .d++caps))
theorem vY{F H:Hp}{cs:List Addr}{Q:VK}{E:XK}{r:R A}(hFH:aG F H)(hc:Celd cs F)(h:match dOf r with
 | .bad=>False
 | .ok d=>∀ v F' H',Ext F H F' H'->DatV K F' v d->Q v H'
 | .ex e=>∀ a C F' H',Ext F H F' H'->hJ K mg F' e a C->E (.ref C) (some a) H'):match (generalizing:=false) r with
 | .bad=>False
 | .ok a=>∀ v F' H',Ext (hid cs F) (hid cs H) F' H'->AF (gOf P w K mg base T) K mg F' a v->(∀ a∈cs,H' a=none)->Q v (shw cs H H')
 | .ex e=>∀ a C F' H',Ext (hid cs F) (hid cs H) F' H'->hJ K mg F' e a C->(∀ a∈cs,H' a=none)->E (.ref C) (some a) (shw cs H H'):=by
 cases r with
 | bad=>exact h
 | ok a=>
  cases a with
  | d x=>
   intro v F' H' e q hn
   obtain ⟨e2,sm⟩:=vX hFH hc hn e
   exact h v _ _ e2 (DatV.same sm q)
  | l xs=>exact False.elim h
  | m xs=>exact False.elim h
  | x e=>exact False.elim h
  | g k n f=>exact False.elim h
  | k S=>exact False.elim h
  | f S=>exact False.elim h
 | ex x=>
  intro a C F' H' e q hn
  obtain ⟨e2,sm⟩:=vX hFH hc hn e
  exact h a C _ _ e2 (q.same sm)
theorem aGX{body:List Stmt}{fb:Sg->R Fw}(hb:S.body=.stmts body)(Sc:CloScope N ps fr S.scope)(hbi:∀ (cl:List (Str×Addr)) (doc pm:Value) (cc:Addr) (ct:Value) (us:List Value),us.length=ps.length->bindArgs (S.fd cl doc pm cc ct) ⟨us,[]⟩=pure (ps.zip us))
  (hbody:∀ (f cc:Addr) (cl:List (Str×Addr)) (A:Around) (outer:List Env) (s:Shared) (H F:Hp) (E E':XK),Room k (A.deeper (bX S.qual S.scope s.heap.objs.size f (.ref cc) cl))->
   i8 ((f9 (CXe P w) P w K mg base N fr S.qual S.scope f (.ref cc) cl A outer s H E').fly E) ⟨K,mg,w,F,hid (aP fr cl) H,gOf P w K mg base T,(bX S.qual S.scope s.heap.objs.size f (.ref cc) cl).cells,fun _=>none⟩ E body fb) :
  CloOk P w K mg base T S fr (k+1) ps.length (hU N.length fb):=by
 intro F0 F1 caps cvs f cl doc pm ct cc hT0 hcap h01 hf hcc C hno
 refine ⟨S.fd cl doc pm cc ct,ps,rfl,.all (hbi cl doc pm cc ct),⟨fun vs H Q E h=>?_,fun A outer s H args us vs Q E hr e0 hbn rv hsp=>?_⟩,.inr ⟨_,_,_,_,hf⟩⟩
 ·obtain ⟨F,ds,_,_,_,h1,h2,_⟩:=h
  rw[h1.length,h2]
 ·obtain ⟨F,ds,h1,h2,h3,h4,h5,h6⟩:=hsp
  obtain ⟨hc,a1,a2,a3⟩:=rH hT0 hcap h01 h1 h3 C hno h4
  refine y8 hb (h3 _ _ (h1 _ _ hf)) (h3 _ _ (h1 _ _ hcc)) Sc (C.same fun b o z=>h3 b o (h1 b o z)) hr e0 hbn rv (by rw[h4.length,h5]) fun hr'=>⟨_,hbody f cc cl A outer s H (hid (aP fr cl) F) _ E hr',?_⟩
  have h7:=vY (P:=P) (w:=w) (base:=base) (T:=T) (r:=fnF N.length fb (ds.map .d++caps)) h3 hc h6
  refine nE (n:=N.length) (fb:=fb) (Q:=fun v H'=>(∀ a∈aP fr cl,H' a=none)->Q v (shw (aP fr cl) H H')) (E:=fun c e H'=>(∀ a∈aP fr cl,H' a=none)->E c e (shw (aP fr cl) H H')) a1 a2 a3 ?_
  cases e:fnF N.length fb (ds.map .d++caps) with
  | bad=>rw[e] at h7;exact h7
  | ok a=>rw[e] at h7;exact h7
  | ex x=>rw[e] at h7;exact h7
theorem aGY{body:Expr}{fe:Sg->R PyData}(hb:S.body=.expr body)(Sc:CloScope N ps fr S.scope)(hbi:∀ (cl:List (Str×Addr)) (doc pm:Value) (cc:Addr) (ct:Value) (us:List Value),us.length=ps.length->bindArgs (S.fd cl doc pm cc ct) ⟨us,[]⟩=pure (ps.zip us))
  (hbody:∀ (f cc:Addr) (cl:List (Str×Addr)) (A:Around) (outer:List Env) (s:Shared) (H F:Hp) (E E':XK),Room k (A.deeper (bX S.qual S.scope s.heap.objs.size f (.ref cc) cl))->
   PD ((f9 (CXe P w) P w K mg base N fr S.qual S.scope f (.ref cc) cl A outer s H E').fly E) ⟨K,mg,w,F,hid (aP fr cl) H,gOf P w K mg base T,(bX S.qual S.scope s.heap.objs.size f (.ref cc) cl).cells,fun _=>none⟩ E body fe) :
  CloOk P w K mg base T S fr (k+1) ps.length (hU N.length (bJ (vD fe))):=by
 intro F0 F1 caps cvs f cl doc pm ct cc hT0 hcap h01 hf hcc C hno
 refine ⟨S.fd cl doc pm cc ct,ps,rfl,.all (hbi cl doc pm cc ct),⟨fun vs H Q E h=>?_,fun A outer s H args us vs Q E hr e0 hbn rv hsp=>?_⟩,.inr ⟨_,_,_,_,hf⟩⟩
 ·obtain ⟨F,ds,_,_,_,h1,h2,_⟩:=h
  rw[h1.length,h2]
 ·obtain ⟨F,ds,h1,h2,h3,h4,h5,h6⟩:=hsp
  obtain ⟨hc,a1,a2,a3⟩:=rH hT0 hcap h01 h1 h3 C hno h4
  refine aA0 hb (h3 _ _ (h1 _ _ hf)) (h3 _ _ (h1 _ _ hcc)) Sc (C.same fun b o z=>h3 b o (h1 b o z)) hr e0 hbn rv (by rw[h4.length,h5]) fun hr'=>⟨_,hbody f cc cl A outer s H (hid (aP fr cl) F) _ E hr',?_⟩
  have h7:=vY (P:=P) (w:=w) (base:=base) (T:=T) (r:=fnF N.length (bJ (vD fe)) (ds.map .d++caps)) h3 hc h6
  refine ⟨_,_,tJ a1 a2 a3,?_⟩
  unfold fnF bJ vD at h7
  cases e:fe ((ds.map Fl.A.d++caps).map some++List.replicate (N.length - (ds.map Fl.A.d++caps).length) none) with
  | bad=>rw[e] at h7;exact h7
  | ok d=>rw[e] at h7;exact fun v F' H' e1 r1 hn=>h7 v F' H' e1 r1 hn
  | ex x=>rw[e] at h7;exact fun a C F' H' e1 r1 hn=>h7 a C F' H' e1 r1 hn
end
end Fl
namespace Fl
open PySem L2 PyProof.Rows
def lN(c:Ct)(F:Hp)(S:ClSt)(v:V):Prop:=∃ f cl doc pm cc ct,v=.ref f/\F f=some (FnO f (S.obj cl doc pm cc ct))/\F cc=some (.cod S.qual)/\ClOf c.cells S.scope cl
theorem lN.same{c:Ct}{F F':Hp}{S:ClSt}{v:V}(s:aG F F'):lN c F S v->lN c F' S v:=by
 rintro ⟨f,cl,doc,pm,cc,ct,h1,h2,h3,h4⟩
 exact ⟨f,cl,doc,pm,cc,ct,h1,s _ _ h2,s _ _ h3,h4⟩
theorem vZ{c:Ct}{S:ClSt}{P0:Addr}{qs:List (Pos×Str)}{cells:List (Str×Addr)}{ρ:Sg}{σ:L2.St}{F H:Hp}{Q:VK}(hcl:cells=c.cells)(hT:c.g.T P0=some (.tbl qs))(ab:Ab c ρ σ F H)(h:∀ v F' H',Ext F H F' H'->lN c F' S v->Q v H'):tMk cells S P0 qs σ H Q:=by
 subst hcl
 refine ⟨ab.fh _ _ (ab.f0 _ _ (ab.t0 _ _ hT)),fun f cc cl doc pm ct H1 hm hn hco=>?_⟩
 have e1:∃ F1,Ext F H F1 H1/\F1 cc=some (.cod S.qual):=by
  rcases hm with ⟨q,rfl⟩|⟨q,rfl⟩
  ·refine ⟨upd F cc (.cod S.qual),⟨bN _,fun a o z=>?_,fun a o z=>?_,fun a z n=>?_⟩,aW⟩
   ·by_cases w:a=cc
    ·subst w
     have:=ab.fh a o z
     rw[q] at this;cases this
     exact aW
    ·rw[aH w];exact z
   ·by_cases w:a=cc
    ·subst w;rw[aW] at z;rw[q];exact z
    ·rw[aH w] at z;exact ab.fh a o z
   ·by_cases w:a=cc
    ·subst w;exact .inr ⟨_,q⟩
    ·rw[aH w] at n;exact absurd z n
  ·exact ⟨upd F cc (.cod S.qual),Ext.new ab.fh q,aW⟩
 obtain ⟨F1,e1,hc1⟩:=e1
 have e2:Ext F1 H1 (upd F1 f (FnO f (S.obj cl doc pm cc ct))) (upd H1 f (FnO f (S.obj cl doc pm cc ct))):=Ext.new e1.fh hn
 exact h (.ref f) _ _ (e1.trans e2) ⟨f,cl,doc,pm,cc,ct,rfl,aW,e2.ff _ _ hc1,hco⟩
noncomputable def r9(i:Nat)(q:Str):Sg->R Fw:=fun ρ=>.ok (.nx (ρ.set i (some (.k q))))
theorem aD6{X:Cx}{c:Ct}{E:XK}{st:Stmt}{i:Nat}{q:Str}{S:ClSt}{P0:Addr}{qs:List (Pos×Str)}{cells:List (Str×Addr)}(hcl:cells=c.cells)(hS:c.cls q=some S)(hT:c.g.T P0=some (.tbl qs))(h:PS X st (i6 (tMk cells S P0 qs) (g8 i))):PSf X c E st (r9 i q):=PS.imp h fun D σ H zz0=>by
 obtain ⟨ρ,F,ab,k⟩:=zz0
 refine vZ hcl hT ab fun v F' H' e hc=>?_
 exact Rk.ok k _ F' H' e.ff ((ab.ext e).setF (a:=.k q) (let ⟨f,cl,doc,pm,cc,ct,h⟩:=hc;⟨S,f,cl,doc,pm,cc,ct,hS,h⟩) fun z=>nomatch z)
noncomputable def pC:Option (Option A)->Option A
 | some (some (.d x))=>some (.d x)
 | some (some (.x e))=>some (.x e)
 | some (some (.g k n G))=>some (.g k n G)
 | _=>none
noncomputable def fE:List Nat->Sg->Option (List A)
 | [],_=>some []
 | j::js,ρ=>match pC ρ[j]?,fE js ρ with
  | some a,some as=>some (a::as)
  | _,_=>none
theorem pD{o:Option (Option A)}{a:A}(h:pC o=some a):o=some (some a)/\∀ {c:Ct} {F H:Hp} {v:V},AO c F H a v->AF c.g c.K c.mg F a v:=by
 unfold pC at h
 split at h<;>cases h
 · exact ⟨rfl, fun z => z⟩
 · exact ⟨rfl, fun z => z⟩
 · exact ⟨rfl, fun z => z⟩
theorem v4{c:Ct}{ρ:Sg}{σ:L2.St}{F H:Hp}(ab:Ab c ρ σ F H):∀ {js:List Nat} {caps:List A},fE js ρ=some caps->∃ cvs,AFs c.g c.K c.mg F caps cvs/\cvs.length=js.length/\∀ (i:Nat) j,js[i]? = some j->∃ v,cvs[i]? = some v/\σ[j]? = some (some v)
 | [],_,h=>by cases h;exact ⟨[],trivial,rfl,fun i j z=>by simp at z⟩
 | j::js,caps,h=>by
  unfold fE at h
  split at h
  ·rename_i a as h1 h2
   cases h
   obtain ⟨cvs,r,l,g⟩:=v4 ab h2
   obtain ⟨q1,q2⟩:=pD h1
   obtain ⟨v,hv,hA⟩:=ab.slot j a q1
   refine ⟨v::cvs,⟨q2 hA,r⟩,by simp[l],fun i j' e=>?_⟩
   cases i with
   | zero=>simp at e;subst e;exact ⟨v,rfl,hv⟩
   | succ i=>obtain ⟨v',a1,a2⟩:=g i j' (by simpa using e);exact ⟨v',by simpa using a1,a2⟩
  ·cases h
def tU(X:Cx)(T:Hp)(c:Ct)(js:List Nat)(ρ:Sg)(F:Hp)(a:A)(v:V):Prop:=AF c.g c.K c.mg F a v \/
 ∃ S fr sl k n Gm caps,a=.g k n (Gm caps)/\lN c F S v/\CloOk X.prog X.w X.K X.mg X.base T S fr k n Gm/\(∀ y,(y,NameKind.free)∈S.scope.names->y∈fr)/\(∀ y∈fr,(y,NameKind.free)∈S.scope.names)/\sl.map (fun j=>X.N[j]?)=fr.map some/\(∀ j∈sl,j∈js)/\fE sl ρ=some caps
theorem tU.same{X:Cx}{T:Hp}{c:Ct}{js:List Nat}{ρ:Sg}{F F':Hp}{a:A}{v:V}(s:aG F F')(h:tU X T c js ρ F a v):tU X T c js ρ F' a v:=by
 rcases h with h|⟨S,fr,sl,k,n,Gm,caps,h1,h2,h3⟩
 · exact .inl (AF.same s h)
 · exact .inr ⟨S, fr, sl, k, n, Gm, caps, h1, h2.same s, h3⟩
def xP(X:Cx)(T:Hp)(c:Ct)(js:List Nat)(ρ:Sg)(F:Hp):List A->List V->Prop
 | [],[]=>True
 | a::as,v::vs=>tU X T c js ρ F a v/\xP X T c js ρ F as vs
 | _,_=>False
def tK1(X:Cx)(T:Hp)(c:Ct)(js:List Nat)(E:XK)(f:Sg->R A):TE:=fun σ H Q=>∃ ρ F,Ab c ρ σ F H/\Rk c E F H (f ρ) fun a=>∀ v F' H',Ext F H F' H'->tU X T c js ρ F' a v->Q v H'
def tKs(X:Cx)(T:Hp)(c:Ct)(js:List Nat)(E:XK)(f:Sg->R (List A)):TA:=fun σ H Q=>∃ ρ F,Ab c ρ σ F H/\Rk c E F H (f ρ) fun as=>∀ vs F' H',Ext F H F' H'->xP X T c js ρ F' as vs->Q vs H'
section
variable{X:Cx}{T:Hp}{c:Ct}{js:List Nat}{E:XK}{e:Expr}{es:List Expr}
theorem aIS{f:Sg->R A}(h:PV X c E e f):PE X e (tK1 X T c js E f):=PE.imp h fun σ H Q ⟨ρ,F,ab,k⟩=>⟨ρ,F,ab,k.imp fun a _ q v F' H' e1 r=>q v F' H' e1 (.inl r)⟩
def pE(q:Str)(sl:List Nat)(k n:Nat)(Gm:List A->List PyData->R PyData)(i:Nat):Sg->R A:=fun ρ=>match ρ[i]?,fE sl ρ with
 | some (some (.k q')),some caps=>if q'=q then .ok (.g k n (Gm caps)) else .bad
 | _,_=>.bad
theorem aD7{q:Str}{S:ClSt}{fr:List Str}{sl:List Nat}{k n i:Nat}{Gm:List A->List PyData->R PyData}(hS:c.cls q=some S)(M:CloOk X.prog X.w X.K X.mg X.base T S fr k n Gm)(h1:∀ y,(y,NameKind.free)∈S.scope.names->y∈fr)(h2:∀ y∈fr,(y,NameKind.free)∈S.scope.names)
  (h3:sl.map (fun j=>X.N[j]?)=fr.map some) (h4:∀ j∈sl,j∈js) (h:PE X e (i5 i)):PE X e (tK1 X T c js E (pE q sl k n Gm i)):=PE.imp h fun σ H Q ⟨ρ,F,ab,k⟩=>by
 unfold pE at k
 split at k
 ·rename_i q' caps hi hc
  by_cases hq:q'=q
  ·rw[if_pos hq] at k
   subst hq
   obtain ⟨v,hv,S',f,cl,doc,pm,cc,ct,h0,hA⟩:=ab.slot i _ hi
   rw[hS] at h0;cases h0
   have hA:lN c F S v:=⟨f,cl,doc,pm,cc,ct,hA⟩
   exact ⟨v,hv,Rk.ok k v F H (Ext.refl ab.fh) (.inr ⟨_,fr,sl,_,_,Gm,caps,rfl,hA,M,h1,h2,h3,h4,hc⟩)⟩
  ·rw[if_neg hq] at k;exact k.elim
 ·exact k.elim
def tW(sl:List Nat)(k n:Nat)(Gm:List A->List PyData->R PyData):Sg->R A:=fun ρ=>match fE sl ρ with
 | some caps=>.ok (.g k n (Gm caps))
 | none=>.bad
theorem aGZ{S:ClSt}{fr:List Str}{sl:List Nat}{k n:Nat}{Gm:List A->List PyData->R PyData}{P0:Addr}{qs:List (Pos×Str)}{cells:List (Str×Addr)}(hcl:cells=c.cells)(hT:c.g.T P0=some (.tbl qs))(M:CloOk X.prog X.w X.K X.mg X.base T S fr k n Gm)(h1:∀ y,(y,NameKind.free)∈S.scope.names->y∈fr)(h2:∀ y∈fr,(y,NameKind.free)∈S.scope.names)
  (h3:sl.map (fun j=>X.N[j]?)=fr.map some) (h4:∀ j∈sl,j∈js) (h:PE X e (tMk cells S P0 qs)):PE X e (tK1 X T c js E (tW sl k n Gm)):=PE.imp h fun σ H Q ⟨ρ,F,ab,k⟩=>by
 unfold tW at k
 split at k
 ·rename_i caps hc
  exact vZ hcl hT ab fun v F' H' e1 hA=>Rk.ok k v F' H' e1 (.inr ⟨_,fr,sl,_,_,Gm,caps,rfl,hA,M,h1,h2,h3,h4,hc⟩)
 ·exact k.elim
theorem aD8:PA X [] (tKs X T c js E aF):=PA.imp a8 fun σ H Q ⟨ρ,F,ab,k⟩=>Rk.ok k [] F H (Ext.refl ab.fh) trivial
end
end Fl
namespace Fl
open PySem L2 PyProof.Rows
section
variable{X:Cx}{T:Hp}{c:Ct}{js:List Nat}{E:XK}{e:Expr}{es:List Expr}
theorem oD{f:Sg->R A}{g:Sg->R (List A)}(h:PE X e (tK1 X T c js E f))(h2:PA X es (tKs X T c js E g))(hs:starEach (e::es) X.env=(false,eval e X.env)::starEach es X.env:=by rfl):PA X (e::es) (tKs X T c js E (aA f g)):=PA.imp (aT h h2 hs) fun σ H Q zz0=>by
 obtain ⟨ρ,F,ab,k⟩:=zz0
 refine ⟨ρ,F,ab,(Rk.bind k).imp fun x _ q v F1 H1 s1 r1=>⟨ρ,F1,ab.ext s1,((Rk.bind q).ext s1).imp fun xs _ q vs F2 H2 s2 r2=>?_⟩⟩
 exact Rk.ok q (v::vs) F2 H2 (s1.trans s2) ⟨r1.same s2.ff,r2⟩
theorem tX:∀ {js:List Nat} {ρ:Sg} {caps:List A},fE js ρ=some caps->∀ j∈js,∃ a,ρ[j]? = some (some a)
 | [],_,_,_,j,hj=>by simp at hj
 | i::js,ρ,caps,h,j,hj=>by
  unfold fE at h
  split at h
  ·rename_i a as h1 h2
   rcases List.mem_cons.mp hj with z|z
   · subst z; exact ⟨a, (pD h1).1⟩
   · exact tX h2 j z
  ·cases h
theorem aD9{α:Type}{N:List α}{sl:List Nat}{fr:List α}(h:sl.map (fun j=>N[j]?)=fr.map some):sl.length=fr.length/\∀ (i:Nat) x,fr[i]? = some x->∃ j,sl[i]? = some j/\N[j]? = some x:=by
 have hl:sl.length=fr.length:=by have:=congrArg List.length h;simpa using this
 refine ⟨hl,fun i x e=>?_⟩
 have hi:i < fr.length:=(List.getElem?_eq_some_iff.mp e).1
 have h2:(sl.map (fun j=>N[j]?))[i]? = (fr.map some)[i]?:=by rw[h]
 rw[List.getElem?_map,List.getElem?_map,e,List.getElem?_eq_getElem (by omega)] at h2
 exact ⟨sl[i],List.getElem?_eq_getElem _,Option.some.inj h2⟩
theorem aBK{S:ClSt}{fr:List Str}{sl:List Nat}{k n:Nat}{Gm:List A->List PyData->R PyData}{caps:List A}{ρ:Sg}{σ:L2.St}{F H:Hp}{cv:Cv}{v:V}(hG:c.g=gOf X.prog X.w X.K X.mg X.base T)(hK:X.K=c.K)(hM:X.mg=c.mg)(hcl:X.env.cells=c.cells)(ab:Ab c ρ σ F H)(R:PubRel X σ H js cv)
  (hA:lN c F S v) (M:CloOk X.prog X.w X.K X.mg X.base T S fr k n Gm) (h1:∀ y,(y,NameKind.free)∈S.scope.names->y∈fr) (h2:∀ y∈fr,(y,NameKind.free)∈S.scope.names)
  (h3:sl.map (fun j=>X.N[j]?)=fr.map some) (h4:∀ j∈sl,j∈js) (hc:fE sl ρ=some caps):AF c.g c.K c.mg (pub cv F) (.g k n (Gm caps)) v:=by
 obtain ⟨f,cl,doc,pm,cc,ct,rfl,q1,q2,q3⟩:=hA
 obtain ⟨cvs,r,l,gt⟩:=v4 ab hc
 obtain ⟨l3,g3⟩:=aD9 h3
 have hdF:∀ b∈cK cv,F b=none:=fun b hb=>b7 ab.fh (R.free b hb)
 have hs:aG F (pub cv F):=iG hdF
 have key:∀ (i:Nat) x v,fr[i]? = some x->cvs[i]? = some v->∃ a o,cl.lookup x=some a/\cv.lookup a=some (o,v):=fun i x v e1 e2=>by
  obtain ⟨j,e3,e4⟩:=g3 i x e1
  obtain ⟨v',e5,e6⟩:=gt i j e3
  rw[e2] at e5;cases e5
  obtain ⟨x',a,o,v2,e7,e8,e9,e10⟩:=R.all j (h4 j (List.mem_of_getElem? e3))
  rw[e4] at e7;cases e7
  rw[e6] at e9;cases e9
  obtain ⟨a',e11⟩:=q3.all (x,.free) (h2 x (List.mem_of_getElem? e1)) rfl
  have e12:=q3.of _ _ e11
  rw[<-hcl] at e12
  have e12':X.env.cells.lookup x=some a':=e12
  rw[e8] at e12';cases e12'
  exact ⟨a,o,e11,e10⟩
 refine ⟨f,pub cv F,rfl,bN _,?_⟩
 rw[hG]
 refine M F (pub cv F) caps cvs f cl doc pm ct cc (fun a o z=>ab.f0 a o (ab.t0 a o (by rw[hG];exact z))) (by rw[hK,hM,<-hK,<-hM];rw[hG] at r;rw[<-hK,<-hM] at r;exact r) hs (hs _ _ q1) (hs _ _ q2) ⟨l.trans l3,fun n c e=>h1 n (q3.only n c e),fun n n' c e e'=>R.inj n n' c (by rw[hcl];exact q3.of _ _ e) (by rw[hcl];exact q3.of _ _ e'),fun i x v e1 e2=>?_⟩ fun a ha=>?_
 ·obtain ⟨a,o,e3,e4⟩:=key i x v e1 e2
  exact ⟨a,o,e3,mB e4⟩
 ·obtain ⟨x,hx,e⟩:=List.mem_filterMap.mp ha
  obtain ⟨i,hi,hxi⟩:=List.mem_iff_getElem.mp hx
  obtain ⟨a',o,e3,e4⟩:=key i x (cvs[i]'(by rw[l,l3];exact hi)) (by rw[List.getElem?_eq_getElem hi,hxi]) (List.getElem?_eq_getElem _)
  rw[e] at e3;cases e3
  exact hdF a (fG.mpr ⟨_,e4⟩)
theorem rJ{ρ:Sg}{σ:L2.St}{F H:Hp}{cv:Cv}(hG:c.g=gOf X.prog X.w X.K X.mg X.base T)(hK:X.K=c.K)(hM:X.mg=c.mg)(hcl:X.env.cells=c.cells)(ab:Ab c ρ σ F H)(R:PubRel X σ H js cv):∀ {as:List A} {vs:List V},xP X T c js ρ F as vs->AFs c.g c.K c.mg (pub cv F) as vs
 | [],[],_=>trivial
 | a::as,v::vs,h=>by
  refine ⟨?_,rJ hG hK hM hcl ab R h.2⟩
  rcases h.1 with q|⟨S,fr,sl,k,n,Gm,caps,rfl,q1,q2,q3,q4,q5,q6,q7⟩
  · exact AF.same (iG fun b hb => b7 ab.fh (R.free b hb)) q
  · exact aBK hG hK hM hcl ab R q1 q2 q3 q4 q5 q6 q7
def mM(js:List Nat)(n:Nat)(G:List A->R A)(f:Sg->R (List A)):Sg->R A:=fun ρ=>match fE js ρ with
 | some _=>(f ρ).bind fun as=>if as.length=n then (dOf (G as)).bind fun x=>.ok (.d x) else .bad
 | none=>.bad
theorem aG0{n:Nat}{G:List A->R A}{g:Gb}{K:Frag}{mg:Str->Option Value}{f:Sg->R (List A)}(hG:c.g=gOf X.prog X.w X.K X.mg X.base T)(hK:X.K=c.K)(hM:X.mg=c.mg)(hcl:X.env.cells=c.cells)(hg:g=c.g)(hk:K=c.K)(hm:mg=c.mg)
  (hcs:∀ j∈js,∃ x,X.N[j]? = some x/\X.env.kindOf x=some .cell/\X.fn x=true) (h:PE X e (zC X js (spF g K mg n G) E (tKs X T c js E f))):PV X c E e (mM js n G f):=PE.imp h fun σ H Q ⟨ρ,F,ab,k⟩=>by
 subst hg hk hm
 unfold mM at k
 split at k
 ·rename_i caps hc
  refine ⟨ρ,F,ab,(Rk.bind k).imp fun as _ q vs F1 H1 e1 r1=>⟨fun j hj=>?_,fun cv R=>?_⟩⟩
  ·obtain ⟨x,a1,a2,a3⟩:=hcs j hj
   obtain ⟨a,ha⟩:=tX hc j hj
   obtain ⟨v,hv,_⟩:=ab.slot j a ha
   exact ⟨x,v,a1,a2,a3,hv⟩
  ·by_cases hn:as.length=n
   ·rw[if_pos hn] at q
    have ab1:=ab.ext e1
    have hdF:∀ b∈cK cv,F1 b=none:=fun b hb=>b7 e1.fh (R.free b hb)
    refine ⟨pub cv F1,as,fun a o z=>iG hdF a o (e1.ff a o (ab.f0 a o (ab.t0 a o z))),aBJ e1.fh,rJ hG hK hM hcl ab1 R r1,hn,?_⟩
    cases hgg:G as with
    | bad=>rw[hgg] at q;exact q
    | ok a=>
     rw[hgg] at q
     cases a with
     | d x=>
      intro v F2 H2 e2 r2
      exact Rk.ok q v _ _ (e1.trans (rG R.free e1.fh e2)) (vW (tT e2.ff) r2)
     | l xs=>exact False.elim q
     | m xs=>exact False.elim q
     | x xs=>exact False.elim q
     | g k n f=>exact False.elim q
     | k S=>exact False.elim q
     | f S=>exact False.elim q
    | ex x=>
     rw[hgg] at q
     intro a C F2 H2 e2 r2
     obtain ⟨q1,q2⟩:=aBI (tT e2.ff) r2
     exact ⟨q a C _ _ ((ab.all.trans e1).trans (rG R.free e1.fh e2)) q1,fun b hb=>by cases hb;exact q2⟩
   ·rw[if_neg hn] at q;exact q.elim
 ·exact k.elim
end
section
variable{P:Program}{w:World}{K:Frag}{mg:Str->Option Value}{base:Heap}{T:Hp}
structure DefAtT(K:Frag)(mg:Str->Option Value)(base:Heap)(T:Hp)(qs:List (Pos×Str))(x:Str)(st:Stmt)(ps:List Str):Prop where
 ex:∃ f oc od kV doc pm an c0 ct osl P0,K.lookup f=some ⟨oc,od,.func (PySem.W.fnOf x x (eM st) (cI st) (aJ st) .none kV doc pm an (.ref c0) ct),osl⟩/\PySem.W.codeIn K (.ref c0) x=true/\PySem.W.keepIn K (.ref f)=true /\
  f8 K (PySem.W.fnOf x x (eM st) (cI st) (aJ st) .none kV doc pm an (.ref c0) ct) ps []/\mg x=some (.ref f)/\Tb mg base c0 P0/\T P0=some (.tbl qs)
theorem aKA{h:Heap}{qs:List (Pos×Str)}{xs:List Str}{x:Str}{st:Stmt}{ps:List Str}(D:DefAt K mg x st ps)(KX:K.In h)(TL:sW mg h base T qs xs)(hx:x∈xs):DefAtT K mg base T qs x st ps:=by
 obtain ⟨f,fd,F,b,m⟩:=D.ex
 obtain ⟨oc,od,kV,doc,pm,an,cdv,ct,osl,rfl,lk,hcd⟩:=F.ex
 obtain ⟨c0,P0,t1,t2,t3⟩:=TL x hx
 have e:cdv=.ref c0:=t3 f _ _ m (KX _ _ lk) rfl
 subst e
 exact ⟨f,oc,od,kV,doc,pm,an,c0,ct,osl,P0,lk,hcd,F.kp,b,m,t2,t1⟩
theorem aEA{x:Str}{st:Stmt}{N ps:List Str}{k:Nat}{qs:List (Pos×Str)}{cls:Str->Option ClSt}{fb:Sg->R Fw}(D:DefAtT K mg base T qs x st ps)(S:FnScope N ps (aJ st))
  (hbody:∀ (f c0 P0:Addr) (A:Around) (outer:List Env) (s:Shared) (H F:Hp) (E:XK),Tb mg base c0 P0->T P0=some (.tbl qs)->Room k (A.deeper (envOfC x (aJ st) s.heap.objs.size f (.ref c0)))->
   i8 ((gN (CXe P w) P w K mg base N x (aJ st) f (.ref c0) A outer s H E).fly E) ⟨K,mg,w,F,H,gOf P w K mg base T,(envOfC x (aJ st) s.heap.objs.size f (.ref c0)).cells,cls⟩ E (cI st) fb):aR P w K mg base T (k+1) x ps (fnF N.length fb):=by
 obtain ⟨f,oc,od,kV,doc,pm,an,c0,ct,osl,P0,lk,hcd,kp,b,m,t2,t1⟩:=D.ex
 refine ⟨f,_,wS lk hcd S (fun vs H Q E h=>?_) (fun A outer s H vs Q E hr h=>?_),b,m,kp⟩
 ·obtain ⟨F,as,_,_,h2,h3,_⟩:=h
  rw[h2.len,h3]
 ·obtain ⟨F,as,h0,h1,h2,h3,h4⟩:=h
  exact ⟨_,(hbody f c0 P0 A outer s H F E t2 t1 hr).unfly fun _ _ z=>qT z,nE h0 h1 h2 h4⟩
end
end Fl
namespace Fl
open PySem L2 PyProof.Rows
noncomputable def aG1:Stmt->Expr
 | .Assign _ e _=>e
 | .Return (some e) _=>e
 | _=>.Constant .none 0 ⟨0,0,0,0⟩
noncomputable def aG2(e:Expr)(i:Nat):Expr:=match e with
 | .Call _ as _ _=>as.getD i (.Constant .none 0 ⟨0,0,0,0⟩)
 | e=>e
noncomputable def clS(q:Str):Stmt->ClSt
 | .FunctionDef x a b _ _ _ sc _ _ _=>⟨x,q,a,.stmts b,sc⟩
 | s=>⟨"",q,eM s,.stmts [],aJ s⟩
noncomputable def clE(q:Str):Expr->ClSt
 | .Lambda a b sc _=>⟨"<lambda>",q,a,.expr b,sc⟩
 | _=>⟨"",q,eM (.Pass ⟨0,0,0,0⟩),.stmts [],aJ (.Pass ⟨0,0,0,0⟩)⟩
noncomputable def aKB:Stmt->Pos
 | .FunctionDef _ _ _ _ _ _ _ _ _ p=>p
 | _=>⟨0,0,0,0⟩
noncomputable def aKC:Expr->Pos
 | .Lambda _ _ _ p=>p
 | _=>⟨0,0,0,0⟩
theorem aG3{X:Cx}:∀ j∈([]:List Nat),∃ x,X.N[j]? = some x/\X.env.kindOf x=some .cell/\X.fn x=true:=fun j h=>by simp at h
theorem aEB{X:Cx}{i:Nat}{js:List Nat}(h:∃ x,X.N[i]? = some x/\X.env.kindOf x=some .cell/\X.fn x=true)(t:∀ j∈js,∃ x,X.N[j]? = some x/\X.env.kindOf x=some .cell/\X.fn x=true):∀ j∈i::js,∃ x,X.N[j]? = some x/\X.env.kindOf x=some .cell/\X.fn x=true:=fun j hj=>by
 rcases List.mem_cons.mp hj with z|z
 · subst z; exact h
 · exact t j z
end Fl
namespace Zp
open PySem
structure Apart(z TI TO i1 i2:Addr)(f1 f2:List Addr):Prop where
 TIz:TI≠z
 TOz:TO≠z
 i1z:i1≠z
 i2z:i2≠z
 TITO:TI≠TO
 TIi1:TI≠i1
 TIi2:TI≠i2
 TOi1:TO≠i1
 TOi2:TO≠i2
 i12:i1≠i2
 z1:z∉f1
 z2:z∉f2
 t1:TO∉f1
 t2:TO∉f2
 i1f2:i1∉f2
 i2f1:i2∉f1
noncomputable abbrev H2(h:Heap)(o1 o2:Obj):Heap:=(h.push o1).push o2
noncomputable abbrev H3(h:Heap)(o1 o2:Obj):Heap:=(H2 h o1 o2).push {cls:=.type "tuple",data:=.seq #[.ref h.objs.size,.ref (h.push o1).objs.size]}
noncomputable abbrev H4(h:Heap)(o1 o2:Obj):Heap:=(H3 h o1 o2).push {cls:=.type "tuple",data:=.seq #[.none,.none]}
noncomputable abbrev H5(h:Heap)(o1 o2:Obj):Heap:=(H4 h o1 o2).push {cls:=.type "zip",data:=.fields #[.none,.bool false,.bool false,.ref (H2 h o1 o2).objs.size,.ref (H3 h o1 o2).objs.size]}
end Zp
namespace L2
open PySem PySem.Spec PyProof.Rows
abbrev Col:=Hp->List V->Prop
structure ColOk(P:Program)(w:World)(K:Frag)(C:Col)(it:Addr)(tn:Nat->Heap->Prop):Prop where
 obj:∀ i h,tn i h->∃ o,h.get? it=some o/\∀ v,o.data≠.cell v
 keep:∀ i h h',tn i h->(∀ o,h.get? it=some o->h'.get? it=some o)->tn i h'
 one:∀ (X:Cx),X.prog=P->X.w=w->X.K=K->∀ pins s σ H xs ys,Inv X pins σ H s->C H xs->C H ys->xs=ys
 draw:∀ (X:Cx),X.prog=P->X.w=w->X.K=K->∀ (i:Nat) (pins:List (Addr×Obj)) (s:Shared) (σ:St) (H:Hp) (xs:List V) (A:Around),Inv X pins σ H s->iE X pins H it->tn i s.heap->C H xs->A.handled=none->
  ∃ fp Pv St,Draws P w A it fp xs.length Pv St/\St i s.heap/\(∀ j h,St j h->tn j h)/\(∀ j v,Pv j v->∃ x,xs[j]? = some x/\aS x v)/\∀ b,iE X pins H b->b≠it->b∉fp
end L2
namespace L2
open PySem PySem.Spec PyProof.Rows
end L2
namespace Fl
open PySem L2 PyProof.Rows
section
variable{X:Cx}{c:Ct}{E:XK}{e a b:Expr}{st:Stmt}{pos:Pos}
noncomputable def aIT(i:Nat)(f g:Sg->R PyData):Sg->R Fw:=fun ρ=>match ρ[i]? with
 | some (some (.m kvs))=>(f ρ).bind fun k=>(g ρ).bind fun y=>if b9 k (kvs.map (·.1))=true/\kvs.length<=16777216 then .ok (.nx (if cS kvs k=true then ρ else ρ.set i (some (.m (putM kvs k y))))) else .bad
 | _=>.bad
end
end Fl
namespace Fl
open PySem L2 PyProof.Rows
def aKD(i:Nat):Sg->R Fw:=fun ρ=>match ρ[i]? with
 | some (some (.l xs))=>.ok (.nx (ρ.set i (some (.l xs.reverse))))
 | _=>.bad
end Fl
namespace Zp
open PySem
end Zp
namespace Fl
open PySem L2 PyProof.Rows
end Fl
namespace Fl
open PySem L2 PyProof.Rows
noncomputable def fzM(i:Nat)(ρ:Sg):Sg:=match ρ[i]? with
 | some (some (.m kvs))=>ρ.set i (some (.f kvs))
 | _=>ρ
def aKE(i:Nat)(f:Sg->R Fw):Sg->R Fw:=fun ρ=>f (fzM i ρ)
noncomputable def aKF(neg:Bool)(i:Nat)(f:Sg->R PyData):Sg->R PyData:=fun ρ=>(f ρ).bind fun k=>match ρ[i]? with
 | some (some (.f kvs))=>if b9 k (kvs.map (·.1))=true then .ok (.bool (if neg=true then !cS kvs k else cS kvs k)) else .bad
 | _=>.bad
noncomputable def aIU(i:Nat)(f:Sg->R PyData):Sg->R PyData:=fun ρ=>match ρ[i]? with
 | some (some (.f kvs))=>(f ρ).bind fun k=>if b9 k (kvs.map (·.1))=true then (match dW kvs k with
  | some v=>.ok v
  | none=>.bad) else .bad
 | _=>.bad
end Fl
namespace Zp
open PySem
def Raw(h:Heap)(d:Addr)(ar:Array DictEntry)(ep:Nat):Prop:=∃ o,h.get? d=some o/\o.ExactDict/\o.data=.dict ar ep
end Zp
namespace Fl
open PySem L2 PyProof.Rows
section
variable{X:Cx}{c:Ct}{E:XK}{tg e:Expr}
noncomputable def aIV(i:Nat):Sg->R (List PyData):=fun ρ=>match ρ[i]? with
 | some (some (.f kvs))=>if kvs.length<=16777216 then .ok (kvs.map (·.1)) else .bad
 | _=>.bad
def aIW(i:Nat):Sg->R PyData:=fun ρ=>match ρ[i]? with
 | some (some (.m kvs))=>if kvs.length<=16777216 then .ok (.int (kvs.length:Int)) else .bad
 | some (some (.f kvs))=>if kvs.length<=16777216 then .ok (.int (kvs.length:Int)) else .bad
 | _=>.bad
end
end Fl
namespace Zp
open PySem
abbrev aKG(h:Heap)(z TI TO:Addr)(f0 f1:Value):Prop:=h.get? z=some {cls:=.type "zip",dict:=none,data:=.fields #[f0,f1,.bool false,.ref TI,.ref TO],slots:=#[]}
end Zp
namespace Zp
open PySem
structure Jz(P1 P2:Nat->Value->Prop)(S1 S2:Nat->Heap->Prop)(s0:Heap)(z TI TO i1 i2 S:Addr)(n:Nat)(acc:Array Value)(h:Heap):Prop where
 size:acc.size<=n
 inc:∀ (j k p q:Nat),j < k->acc[j]? = some (.ref p)->acc[k]? = some (.ref q)->p < q
 top:∀ (j p:Nat),acc[j]? = some (.ref p)->p < h.objs.size
 told:∀ (j:Nat) v,acc[j]? = some v->∃ p x y,v=.ref p/\S < p/\IsPair h p x y/\P1 j x/\P2 j y
 s1:S1 acc.size h
 s2:S2 acc.size h
 ti:IsPair h TI (.ref i1) (.ref i2)
 keep:∀ c o,c≠z->c≠TO->c≠i1->c≠i2->c≠S->s0.get? c=some o->h.get? c=some o
 big:S < h.objs.size
 st:(acc.size=0/\IsZip h z TI TO .none/\∃ a b,IsPair h TO a b)\/(0 < acc.size/\∃ (T:Addr) (bb:Bool) (o:Obj),aKG h z TI TO (rawInt T) (.bool bb)/\h.get? T=some o/\S < T)
end Zp
namespace L2
open PySem PySem.Spec PyProof.Rows
structure LZ(H1 H2:Hp)(xs ys:List V)(l:Addr)(ps:List Addr):Prop where
 same:∀ b o,H1 b=some o->H2 b=some o
 new:H1 l=none
 lst:H2 l=some (.lst (ps.map .ref))
 len:ps.length=min xs.length ys.length
 tup:∀ (j:Nat) p,ps[j]? = some p->H1 p=none/\∃ u v,xs[j]? = some u/\ys[j]? = some v/\H2 p=some (.tup [u,v])
end L2
namespace HT
open PySem PySem.Spec PyProof.Rows L2
end HT
namespace Fl
open PySem L2 PyProof.Rows
end Fl
namespace L2
open PySem PySem.Spec PyProof.Rows
end L2
namespace Mc
open PySem L2 PyProof.Rows Fl
noncomputable def lO:Sg->R Fw:=(bJ (vD (e1 dLen (e2 dIx (e2 dIx (rV 0) (eC (.int 0))) (eC (.int 1))))))
noncomputable def c7:List A->R A:=fnF 1 lO
noncomputable def lP:Sg->R Fw:=(bJ (vD (eL (eH [none,some 1] (e1 c6 (rV 0)) (stN 0) gF (e2 dIx (e2 dIx (rV 0) (eC (.int 1))) (rV 1))))))
noncomputable def gB:List A->R A:=fnF 2 lP
noncomputable def mO:Sg->R Fw:=(aL (fO 3 (fV (aA (eV 0) aF)))
 (aL (r6 4 (r0 (eV 0) (eC (.int 0)) xO))
 (aL (fO 5 (fV aF))
 (aL (bK (n8 (e1 asB (e2 dLt (e1 dLen (rV 5)) (e1 dLen (rV 3)))) (mG (e1 asB (pB 12 2 (aA (rV 3) (aA (e1 dLen (rV 5)) aF)))))) (aL (fO 6 (fV aF))
 (aL (iJ (e1 c6 (tR 12 1 (aA (e2 dIx (rV 3) (e1 dLen (rV 5))) aF))) (stN 7) (aL (sIf (e1 asB (lL true 4 (eV 7))) (aL (j7 4 (eV 7) (e1 dLen (rV 3)))
 (gQ 3 (eV 7))) sNx)
 (gQ 6 (pA 4 (eV 7)))))
 (gQ 5 (e1 dTup (rV 6))))))
 (sFz 5 (sFz 3 (bJ (vD (bD (aA (eV 3) (aA (eV 5) aF)))))))))))
noncomputable def g7:List A->R A:=fnF 8 mO
noncomputable def j8:Sg->R Fw:=(bJ (vD (e1 (lJ "str") (rV 0))))
noncomputable def cX:List A->R A:=fnF 1 j8
noncomputable def hV:Sg->R Fw:=(aL (bF 1 (vD (e1 dTup (eL (eH [none] (e1 c6 (rV 0)) (stN 0) gF (e2 dIx (rV 0) (eC (.int 0))))))))
 (bJ (vD (bD (aA (e2 dIx (rV 1) (eC (.int 0))) (aA (eV 1) aF))))))
noncomputable def d6:List A->R A:=fnF 2 hV
noncomputable def mP:Sg->R Fw:=(aL (nF 3)
 (aL (bK (mG (e1 asB (eA (a9 1 cX (aA (vV 2) aF))))) (aL (sIf (e1 asB (lL false 3 (eV 2))) (bJ (vD (eC (.str "ever")))) sNx)
 (aL (j7 3 (eV 2) (eC (.bool true)))
 (aL (bF 4 (vD (e2 dIx (rV 1) (rV 2))))
 (aL (sIf (e1 asB (e2 dEq (e2 dIx (rV 4) (eC (.int 1))) (eC (.int 1)))) (bJ (vD (e2 dIx (rV 4) (eC (.int 0))))) sNx)
 (bF 2 (vD (e2 dIx (rV 0) (e2 dIx (rV 4) (eC (.int 0)))))))))))
 (bJ (vV 2))))
noncomputable def fX:List A->R A:=fnF 5 mP
noncomputable def oE:Sg->R Fw:=(aL (bF 2 (a9 3 fX (aA (vD (e2 dIx (rV 0) (eC (.int 1)))) (aA (vV 1) (aA (vD (e2 dIx (rV 0) (eC (.int 0)))) aF)))))
 (aL (bF 3 (vD (e1 dTup (eL (eH [none,some 0,some 1] (dA (e1 dLen (rV 1))) (stN 0) gF (eA (a9 3 fX (aA (vD (e2 dIx (rV 1) (eC (.int 1)))) (aA (vV 2) (aA (vV 0) aF))))))))))
 (bJ (vD (bD (aA (eV 2) (aA (eV 3) aF)))))))
noncomputable def fB:List A->R A:=fnF 4 oE
noncomputable def jA:Sg->R Fw:=(aL (bF 2 (vD (e2 dIx (rV 1) (eC (.int 0)))))
 (aL (nF 3)
 (aL (bK (mG (e1 asB (eA (a9 1 cX (aA (vV 2) aF))))) (aL (sIf (e1 asB (lL false 3 (eV 2))) (bJ (vD (eC (.str "ever")))) sNx)
 (aL (j7 3 (eV 2) (eC (.bool true)))
 (aL (bF 4 (vD (e2 dIx (e2 dIx (rV 0) (rV 2)) (eC (.int 2)))))
 (bF 2 (vD (eIf (e1 asB (eA (a9 1 cX (aA (vV 4) aF)))) (eV 4) (e2 dIx (e2 dIx (rV 1) (eC (.int 1))) (rV 4)))))))))
 (bJ (vV 2)))))
noncomputable def dD:List A->R A:=fnF 5 jA
noncomputable def cT:Sg->R Fw:=(bJ (vD (eL (eH [none,some 0] (e1 c6 (rV 1)) (stN 0) gF (eA (a9 2 fB (aA (vV 1) (aA (vV 0) aF))))))))
noncomputable def dQ:Sg->R Fw:=(bJ (vD (e2 dGt (e1 dLen (rV 0)) (eC (.int 200)))))
noncomputable def j9:Sg->R Fw:=(aL (fO 1 (eH [none,some 0] (dA (eA (a9 1 c7 (aA (vV 0) aF)))) (stN 0) gF (eA (a9 2 gB (aA (vV 1) (aA (vV 0) aF))))))
 (aL (r9 2 "one_way.<locals>.after")
 (aL (sFz 1 (bF 3 (mM [1] 3 g7 (aA (a9 1 d6 (aA (vV 0) aF)) (aA (pE "one_way.<locals>.after" [1] 4 1 (hU 2 cT) 2) (aA (tW [] 1 2 (hU 2 dQ)) aF))))))
 (aL (bF 4 (vD (e2 dIx (rV 3) (eC (.int 0)))))
 (aL (sIf (e1 asB (e2 dGt (e1 dLen (rV 4)) (eC (.int 200)))) (p9 "TooMany" (eC (.int 200))) sNx)
 (bJ (vD (bD (aA (e1 dTup (e2 dIx (rV 3) (eC (.int 1)))) (aA (e1 dTup (eL (eH [none,some 0] (e1 c6 (rV 4)) (stN 0) gF (eA (a9 2 dD (aA (vV 1) (aA (vV 0) aF))))))) aF))))))))))
noncomputable def bT:List A->R A:=fnF 5 j9
noncomputable def kF:Sg->R Fw:=(aL (iJ (e1 c6 (eV 2)) (stN 3) (bF 1 (vD (e2 dIx (e2 dIx (e2 dIx (rV 0) (eC (.int 0))) (rV 1)) (e2 mL (eC (.str "abc")) (rV 3))))))
 (bJ (vV 1)))
noncomputable def gJ:List A->R A:=fnF 4 kF
noncomputable def lQ:Sg->R Fw:=(bJ (vD (e1 dLen (e2 dIx (e2 dIx (rV 0) (eC (.int 0))) (eC (.int 0))))))
noncomputable def hZ:List A->R A:=fnF 1 lQ
end Mc
namespace Mc
open PySem L2 PyProof.Rows
theorem kO{rs:List Rw}{sg:Nat}{r:Rw}{k:Nat}(M:Mach rs sg)(hr:r∈rs)(hk:k < sg):r.c[k]? = some (r.c.getD k (0,0))/\k9 rs.length (r.c.getD k (0,0)):=by
 have h:=M.row r hr
 have hl:k < r.c.length:=by rw[h.2];exact hk
 have e:r.c[k]? = some (r.c.getD k (0,0)):=by rw[List.getD_eq_getElem?_getD,List.getElem?_eq_getElem hl];rfl
 exact ⟨e,h.1.2.2 _ (List.mem_of_getElem? e)⟩
theorem bH.take{sg:Nat}{z:List Nat}(S:bH sg z)(i:Nat):bH sg (z.take i):=⟨by rw[List.length_take];have:=S.1;omega,fun c hc=>S.2 c (List.mem_of_mem_take hc)⟩
end Mc
namespace Fl
open PySem L2 PyProof.Rows
@[simp] theorem aIX(d:PyData)(ρ:Sg):eC d ρ=.ok d:=id rfl
@[simp] theorem aMQ{α β:Type}(g:α->R β)(f:Sg->R α)(ρ:Sg):e1 g f ρ=(f ρ).bind g:=id rfl
@[simp] theorem aIY{α β γ:Type}(g:α->β->R γ)(f:Sg->R α)(f':Sg->R β)(ρ:Sg):e2 g f f' ρ=(f ρ).bind fun x=>(f' ρ).bind fun y=>g x y:=id rfl
@[simp] theorem aMR(i:Nat)(ρ:Sg):eV i ρ=match ρ[i]? with|some (some (.d x))=>.ok x|_=>.bad:=id rfl
@[simp] theorem aIZ(i:Nat)(ρ:Sg):rV i ρ=match ρ[i]? with|some (some (.d x))=>.ok x|some (some (.l xs))=>.ok (.list xs)|_=>.bad:=id rfl
@[simp] theorem aMS(i:Nat)(ρ:Sg):vV i ρ=match ρ[i]? with|some (some (.d x))=>.ok (.d x)|some (some (.x e))=>.ok (.x e)|some (some (.g k n f))=>.ok (.g k n f)|some (some (.f kvs))=>.ok (.f kvs)|_=>.bad:=id rfl
@[simp] theorem aI0(f:Sg->R PyData)(ρ:Sg):vD f ρ=(f ρ).bind fun x=>.ok (.d x):=id rfl
@[simp] theorem aLU(x:PyData):getD (.d x)=.ok x:=id rfl
@[simp] theorem aMT(f:Sg->R A)(ρ:Sg):eA f ρ=(f ρ).bind getD:=id rfl
@[simp] theorem aMU(f:Sg->R (List PyData))(ρ:Sg):eL f ρ=(f ρ).bind fun xs=>.ok (.list xs):=id rfl
@[simp] theorem aK3{α:Type}(ρ:Sg):(aF (α:=α)) ρ=.ok []:=id rfl
@[simp] theorem aKH{α:Type}(f:Sg->R α)(g:Sg->R (List α))(ρ:Sg):aA f g ρ=(f ρ).bind fun x=>(g ρ).bind fun xs=>.ok (x::xs):=id rfl
@[simp] theorem aK4(f:Sg->R (List PyData))(ρ:Sg):bD f ρ=(f ρ).bind fun xs=>if xs.length<=16777216 then .ok (.tuple xs) else .bad:=id rfl
@[simp] theorem aK5(f:Sg->R (List PyData))(ρ:Sg):fV f ρ=(f ρ).bind fun xs=>if xs.length<=16777216 then .ok xs else .bad:=id rfl
@[simp] theorem aKI(n:Nat)(G:List A->R A)(f:Sg->R (List A))(ρ:Sg):a9 n G f ρ=(f ρ).bind fun as=>if as.length=n then G as else .bad:=id rfl
@[simp] theorem zU(n:Nat)(fb:Sg->R Fw)(as:List A):fnF n fb as=(fb (as.map some++List.replicate (n - as.length) none)).bind fun w=>match w with | .rt (.l _)=>.bad | .rt a=>.ok a | .nx _=>.ok (.d .none)|_=>.bad:=id rfl
@[simp] theorem aLV(ρ:Sg):sNx ρ=.ok (.nx ρ):=id rfl
@[simp] theorem fH(f g:Sg->R Fw)(ρ:Sg):aL f g ρ=(f ρ).bind fun w=>match w with | .nx ρ'=>g ρ'|w=>.ok w:=id rfl
@[simp] theorem aK6(f:Sg->R A)(ρ:Sg):bJ f ρ=(f ρ).bind fun a=>.ok (.rt a):=id rfl
@[simp] theorem aKJ(ρ:Sg):aIM ρ=.ok (.rt (.d .none)):=id rfl
@[simp] theorem aLW(t:Sg->R Bool)(f g:Sg->R Fw)(ρ:Sg):sIf t f g ρ=(t ρ).bind fun b=>if b=true then f ρ else g ρ:=id rfl
@[simp] theorem aLX{α:Type}(t:Sg->R Bool)(f g:Sg->R α)(ρ:Sg):eIf t f g ρ=(t ρ).bind fun b=>if b=true then f ρ else g ρ:=id rfl
@[simp] theorem aEC(i:Nat)(f:Sg->R A)(ρ:Sg):bF i f ρ=(f ρ).bind fun a=>.ok (.nx (ρ.set i (some a))):=id rfl
@[simp] theorem aKK(i:Nat)(f:Sg->R (List PyData))(ρ:Sg):fO i f ρ=(f ρ).bind fun xs=>.ok (.nx (ρ.set i (some (.l xs)))):=id rfl
@[simp] theorem aKL(f:Sg->R A)(ρ:Sg):aCH f ρ=(f ρ).bind fun _=>.ok (.nx ρ):=id rfl
@[simp] theorem aLY(i:Nat)(f:Sg->R Fw)(ρ:Sg):sFz i f ρ=f (fz i ρ):=id rfl
@[simp] theorem aMV(i:Nat)(ρ:Sg):fz i ρ=match ρ[i]? with|some (some (.l xs))=>ρ.set i (some (.d (.list xs)))|_=>ρ:=id rfl
@[simp] theorem aK7(i:Nat)(f:Sg->R PyData)(ρ:Sg):gQ i f ρ=match ρ[i]? with|some (some (.l xs))=>(f ρ).bind fun x=>if xs.length < 16777216 then .ok (.nx (ρ.set i (some (.l (xs++[x]))))) else .bad|_=>.bad:=id rfl
@[simp] theorem aK8(fs:PyData->Sg->Option Sg)(f:Sg->R PyData)(ρ:Sg):p7 fs f ρ=(f ρ).bind fun x=>(tH (fs x ρ)).bind fun ρ'=>.ok (.nx ρ'):=id rfl
@[simp] theorem aK9(fi:Sg->R (List PyData))(fs:PyData->Sg->Option Sg)(fb:Sg->R Fw)(ρ:Sg):iJ fi fs fb ρ=(fi ρ).bind fun xs=>i9 fs fb xs ρ:=id rfl
@[simp] theorem aKM(js:List (Option Nat))(fi:Sg->R (List PyData))(fs:PyData->Sg->Option Sg)(ft:Sg->R Bool)(fe:Sg->R PyData)(ρ:Sg):eH js fi fs ft fe ρ=(fi ρ).bind fun xs=>compL fs ft fe (fA js ρ) xs:=id rfl
@[simp] theorem aJN(cn:Str)(fs:List Str)(f:Sg->R (List PyData))(ρ:Sg):aGG cn fs f ρ=(f ρ).bind fun xs=>if xs.length=fs.length then .ex ⟨cn,fs.zip xs⟩ else .bad:=id rfl
@[simp] theorem aLZ(i:Nat)(x:PyData)(ρ:Sg):stN i x ρ=some (ρ.set i (some (.d x))):=id rfl
@[simp] theorem aL0(fs:List (PyData->Sg->Option Sg))(xs:List PyData)(ρ:Sg):stT fs (.tuple xs) ρ=stL fs xs ρ:=id rfl
@[simp] theorem aLA(ρ:Sg):stL [] [] ρ=some ρ:=id rfl
@[simp] theorem aKN(f:PyData->Sg->Option Sg)(fs:List (PyData->Sg->Option Sg))(x:PyData)(xs:List PyData)(ρ:Sg):stL (f::fs) (x::xs) ρ=(f x ρ).bind (stL fs xs):=id rfl
@[simp] theorem aED(ρ:Sg):gF ρ=.ok true:=id rfl
@[simp] theorem aL1(b:Bool):asB (.bool b)=.ok b:=id rfl
@[simp] theorem aLB(f:Sg->R Bool)(ρ:Sg):mG f ρ=(f ρ).bind fun b=>.ok (!b):=id rfl
@[simp] theorem aLC(f g:Sg->R Bool)(ρ:Sg):n8 f g ρ=(f ρ).bind fun b=>if b=true then g ρ else .ok false:=id rfl
@[simp] theorem aL2(f g:Sg->R Bool)(ρ:Sg):bOr f g ρ=(f ρ).bind fun b=>if b=true then .ok true else g ρ:=id rfl
@[simp] theorem aLD(f:Sg->R PyData)(ρ:Sg):aJ7 f ρ=(f ρ).bind fun x=>(asB x).bind fun b=>.ok (.bool (!b)):=id rfl
@[simp] theorem aLE(f g:Sg->R PyData)(ρ:Sg):xH f g ρ=(f ρ).bind fun x=>(asB x).bind fun b=>if b=true then g ρ else .ok (.bool false):=id rfl
@[simp] theorem aL3(f g:Sg->R PyData)(ρ:Sg):eOr f g ρ=(f ρ).bind fun x=>(asB x).bind fun b=>if b=true then .ok (.bool true) else g ρ:=id rfl
@[simp] theorem aL4(g g':PyData->PyData->R PyData)(fa fb fc:Sg->R PyData)(ρ:Sg):eCh g g' fa fb fc ρ=(fa ρ).bind fun x=>(fb ρ).bind fun y=>(g x y).bind fun z=>(asB z).bind fun k=>if k=true then (fc ρ).bind fun w=>g' y w else .ok (.bool false):=id rfl
@[simp] theorem aL5{α:Type}(g:PyData->Option Int->Option Int->R α)(f:Sg->R PyData)(lo hi:Sg->R (Option Int))(ρ:Sg):eSl g f lo hi ρ=(f ρ).bind fun x=>(lo ρ).bind fun l=>(hi ρ).bind fun h=>g x l h:=id rfl
@[simp] theorem aL6(ρ:Sg):oNo ρ=.ok none:=id rfl
@[simp] theorem aL7(f:Sg->R PyData)(ρ:Sg):oSo f ρ=(f ρ).bind fun x=>match x with | .int i=>.ok (some i)|_=>.bad:=id rfl
@[simp] theorem aI1(f:Sg->R PyData)(ρ:Sg):dA f ρ=(f ρ).bind fun x=>match x with | .int j=>eR 0 j|_=>.bad:=id rfl
@[simp] theorem aI2(f g:Sg->R PyData)(ρ:Sg):aDM f g ρ=(f ρ).bind fun x=>(g ρ).bind fun y=>match x,y with | .int i,.int j=>eR i j|_,_=>.bad:=id rfl
@[simp] theorem aLF(f:Sg->R PyData)(g:Sg->R (Option Int))(ρ:Sg):aJ9 f g ρ=(f ρ).bind fun x=>(g ρ).bind fun o=>if o=some (-1) then aGK x else .bad:=id rfl
@[simp] theorem aLG(i:Nat)(g:PyData->PyData->R PyData)(f:Sg->R PyData)(ρ:Sg):aJ8 i g f ρ=(eV i ρ).bind fun x=>(f ρ).bind fun y=>(g x y).bind fun z=>.ok (.nx (ρ.set i (some (.d z)))):=id rfl
@[simp] theorem tY(i:Nat)(ρ:Sg):nF i ρ=.ok (.nx (ρ.set i (some (.m [])))):=id rfl
@[simp] theorem aLH(neg:Bool)(i:Nat)(f:Sg->R PyData)(ρ:Sg):lL neg i f ρ=(f ρ).bind fun k=>match ρ[i]? with|some (some (.m kvs))=>if b9 k (kvs.map (·.1))=true then .ok (.bool (if neg=true then !cS kvs k else cS kvs k)) else .bad|some (some (.f kvs))=>if b9 k (kvs.map (·.1))=true then .ok (.bool (if neg=true then !cS kvs k else cS kvs k)) else .bad|_=>.bad:=id rfl
@[simp] theorem aKO(i:Nat)(f:Sg->R PyData)(ρ:Sg):pA i f ρ=match ρ[i]? with|some (some (.m kvs))=>(f ρ).bind fun k=>if b9 k (kvs.map (·.1))=true then (match dW kvs k with|some v=>.ok v|none=>.bad) else .bad|some (some (.f kvs))=>(f ρ).bind fun k=>if b9 k (kvs.map (·.1))=true then (match dW kvs k with|some v=>.ok v|none=>.bad) else .bad|_=>.bad:=id rfl
@[simp] theorem aKP(i:Nat)(f g:Sg->R PyData)(ρ:Sg):j7 i f g ρ=(g ρ).bind fun v=>match ρ[i]? with|some (some (.m kvs))=>(f ρ).bind fun k=>if b9 k (kvs.map (·.1))=true/\kvs.length<=16777216 then .ok (.nx (ρ.set i (some (.m (putM kvs k v))))) else .bad|_=>.bad:=id rfl
@[simp] theorem zV(i j:Int):bE (.int i) (.int j)=.ok (.int (i+j)):=id rfl
@[simp] theorem aL8(i j:Int):dSub (.int i) (.int j)=.ok (.int (i - j)):=id rfl
@[simp] theorem aLI(i j:Int):aIL (.int i) (.int j)=.ok (.int (i+j)):=id rfl
@[simp] theorem aL9(i:Int):dNeg (.int i)=.ok (.int (-i)):=id rfl
@[simp] theorem aMW(i j:Int):dLt (.int i) (.int j)=.ok (.bool (decide (i < j))):=id rfl
@[simp] theorem aMX(i j:Int):dLe (.int i) (.int j)=.ok (.bool (decide (i<=j))):=id rfl
@[simp] theorem aMY(i j:Int):dGt (.int i) (.int j)=.ok (.bool (decide (j < i))):=id rfl
@[simp] theorem aMZ(i j:Int):dGe (.int i) (.int j)=.ok (.bool (decide (j<=i))):=id rfl
theorem dY{i j:Int}(h:0 < j):dMod (.int i) (.int j)=.ok (.int (i % j)):=if_pos h
theorem iY{i j:Int}(h:0 < j)(h2:j < 18446744073709551616):dDiv (.int i) (.int j)=.ok (.int (i / j)):=if_pos ⟨h,h2⟩
theorem zW{i j:Int}(h : -18446744073709551616 < j)(h2:j < 18446744073709551616):dMul (.int i) (.int j)=.ok (.int (i * j)):=if_pos (.inr ⟨h,h2⟩)
theorem tZ{i j:Int}(h : -18446744073709551616 < i)(h2:i < 18446744073709551616):dMul (.int i) (.int j)=.ok (.int (i * j)):=if_pos (.inl ⟨h,h2⟩)
@[simp] theorem iA(xs:List PyData):dLen (.list xs)=.ok (.int xs.length):=id rfl
@[simp] theorem t4(xs:List PyData):dLen (.tuple xs)=.ok (.int xs.length):=id rfl
@[simp] theorem aMA(xs:List PyData):dTup (.list xs)=.ok (.tuple xs):=id rfl
@[simp] theorem aMB(xs:List PyData):dTup (.tuple xs)=.ok (.tuple xs):=id rfl
@[simp] theorem aMC(xs:List PyData):aGD (.list xs)=.ok xs:=id rfl
@[simp] theorem aMD(xs:List PyData):aGD (.tuple xs)=.ok xs:=id rfl
@[simp] theorem aME(i:Int):aGE (.int i)=.ok (.int i):=id rfl
@[simp] theorem aMF(b:Bool):aGE (.bool b)=.ok (.int (if b=true then 1 else 0)):=id rfl
@[simp] theorem aM0(x:PyData):dIs x .none=.ok (.bool (iQ x)):=id rfl
@[simp] theorem aLJ(x:PyData):aIH x .none=.ok (.bool (!iQ x)):=id rfl
@[simp] theorem aLK:iQ .none=true:=id rfl
@[simp] theorem aLL(xs:List PyData):iQ (.tuple xs)=false:=id rfl
@[simp] theorem aLM(i:Int):iQ (.int i)=false:=id rfl
@[simp] theorem aLN(i:Str):iQ (.str i)=false:=id rfl
theorem nH{α:Type}{xs:List α}{i:Int}{v:α}(h0:0<=i)(h:xs[i.toNat]? = some v):atI xs i=some v:=by
 obtain ⟨j,rfl⟩:∃ j:Nat,i=j:=⟨i.toNat,by omega⟩
 exact d4 (j:=j) h
theorem t5{α:Type}(x:α)(t:List α):atI (x::t) 0=some x:=d4 (j:=0) rfl
theorem v5{α:Type}(x y:α)(t:List α):atI (x::y::t) 1=some y:=d4 (j:=1) rfl
theorem aEE{α:Type}(x y z:α)(t:List α):atI (x::y::z::t) 2=some z:=d4 (j:=2) rfl
theorem iS{xs:List PyData}{i:Int}{v:PyData}(h:atI xs i=some v):dIx (.tuple xs) (.int i)=.ok v:=by show (match atI xs i with|some v=>R.ok v|none=>.bad)=_;rw[h]
theorem lR{xs:List PyData}{i:Int}{v:PyData}(h:atI xs i=some v):dIx (.list xs) (.int i)=.ok v:=by show (match atI xs i with|some v=>R.ok v|none=>.bad)=_;rw[h]
@[simp] theorem zX(x:PyData)(t:List PyData):dIx (.tuple (x::t)) (.int 0)=.ok x:=iS (t5 x t)
@[simp] theorem aG4(x y:PyData)(t:List PyData):dIx (.tuple (x::y::t)) (.int 1)=.ok y:=iS (v5 x y t)
@[simp] theorem aMG(x y z:PyData)(t:List PyData):dIx (.tuple (x::y::z::t)) (.int 2)=.ok z:=iS (aEE x y z t)
@[simp] theorem aMH(x:PyData)(t:List PyData):dIx (.list (x::t)) (.int 0)=.ok x:=lR (t5 x t)
@[simp] theorem aMI(x y:PyData)(t:List PyData):dIx (.list (x::y::t)) (.int 1)=.ok y:=lR (v5 x y t)
theorem t6{xs:List PyData}(h:xs.length<=16777216):c6 (.tuple xs)=.ok xs:=if_pos h
theorem oF{xs:List PyData}(h:xs.length<=16777216):c6 (.list xs)=.ok xs:=if_pos h
theorem aBL{z:Str}(h:z.cps.toList.length<=16777216):c6 (.str z)=.ok (z.cps.toList.map fun u=>.str ⟨#[u]⟩):=if_pos h
theorem t7{x y:PyData}(hx:SeqAt.shaped x=true)(hy:SeqAt.shaped y=true):dEq x y=.ok (.bool (PyData.eqv x y)):=if_pos ⟨hx,hy⟩
theorem aG5{x y:PyData}(hx:SeqAt.shaped x=true)(hy:SeqAt.shaped y=true):dNe x y=.ok (.bool (!PyData.eqv x y)):=if_pos ⟨hx,hy⟩
@[simp] theorem aMJ(T:String)(i:Int):lJ T (.int i)=.ok (.bool (gR "int" T)):=id rfl
@[simp] theorem aMK(T:String)(i:Str):lJ T (.str i)=.ok (.bool (gR "str" T)):=id rfl
@[simp] theorem aML(T:String)(i:List PyData):lJ T (.tuple i)=.ok (.bool (gR "tuple" T)):=id rfl
@[simp] theorem aMM(T:String)(i:List PyData):lJ T (.list i)=.ok (.bool (gR "list" T)):=id rfl
@[simp] theorem aMN(T:String)(i:Bool):lJ T (.bool i)=.ok (.bool (gR "bool" T)):=id rfl
@[simp] theorem aMO(T:String):lJ T .none=.ok (.bool (gR "NoneType" T)):=id rfl
theorem aG6{xs ys:List PyData}(h:xs.isEmpty=false)(h2:xs.length+ys.length<=16777216):bE (.tuple xs) (.tuple ys)=.ok (.tuple (xs++ys)):=by
 unfold bE;exact if_pos ⟨h,by rw[dX];exact h2⟩
theorem eE{α:Type}{fs:PyData->Sg->Option Sg}{fe:Sg->R PyData}{ρ0:Sg}{d:α->PyData}{g:α->PyData}:∀ {xs:List α},(∀ x∈xs,∃ ρ1,fs (d x) ρ0=some ρ1/\fe ρ1=.ok (g x))->compL fs gF fe ρ0 (xs.map d)=.ok (xs.map g)
 | [],_=>rfl
 | x::t,h=>by
  obtain ⟨ρ1,h1,h2⟩:=h x List.mem_cons_self
  rw[List.map_cons]
  unfold compL
  rw[h1,eE fun y hy=>h y (List.mem_cons_of_mem _ hy),rC,R.bind_ok,aED,R.noEx_ok,R.bind_ok,if_pos rfl,h2];rfl
theorem jS{α:Type}{fs:PyData->Sg->Option Sg}{fb:Sg->R Fw}{d:α->PyData}{xs:List α}{ρ:Sg}(J:Nat->Sg->Prop)(h0:J 0 ρ)(hs:∀ (i:Nat) (x:α) (ρ:Sg),xs[i]? = some x->J i ρ->∃ ρ1 ρ2,fs (d x) ρ=some ρ1/\(fb ρ1=.ok (.nx ρ2)\/fb ρ1=.ok (.ct ρ2))/\J (i+1) ρ2) :
  ∃ ρ',i9 fs fb (xs.map d) ρ=.ok (.nx ρ')/\J xs.length ρ':=by
 induction xs generalizing ρ J with
 | nil=>exact ⟨ρ,rfl,h0⟩
 | cons x t ih=>
  obtain ⟨ρ1,ρ2,h1,h2,h3⟩:=hs 0 x ρ rfl h0
  obtain ⟨ρ',q1,q2⟩:=ih (ρ:=ρ2) (fun i=>J (i+1)) h3 (fun i y ρ hy hj=>hs (i+1) y ρ (by simpa using hy) hj)
  refine ⟨ρ',?_,q2⟩
  rw[List.map_cons]
  unfold i9
  rw[h1,rC,R.bind_ok]
  rcases h2 with h2|h2<;>rw[h2]<;>exact q1
end Fl
namespace Fl
open PySem L2 PyProof.Rows
theorem iZ{t:Sg->R Bool}{b:Sg->R Fw}{ρ ρ':Sg}(h1:t ρ=.ok true)(h2:b ρ=.ok (.nx ρ')):bK t b ρ=bK t b ρ':=by
 rw[mJ,h1,R.bind_ok,if_pos rfl,h2];rfl
theorem mQ{t:Sg->R Bool}{b:Sg->R Fw}{ρ:Sg}{a:A}(h1:t ρ=.ok true)(h2:b ρ=.ok (.rt a)):bK t b ρ=.ok (.rt a):=by
 rw[mJ,h1,R.bind_ok,if_pos rfl,h2];rfl
theorem eW{t:Sg->R Bool}{b:Sg->R Fw}{ρ:Sg}(h1:t ρ=.ok false):bK t b ρ=.ok (.nx ρ):=by
 rw[mJ,h1,R.bind_ok,if_neg (by decide)]
def been{α:Type}(d:α->PyData)(ps:List α):List (PyData×PyData):=ps.map fun p=>(d p,.bool true)
theorem rK{α:Type}(d:α->PyData)(ps:List α):(been d ps).map (·.1)=ps.map d:=by unfold been;rw[List.map_map];rfl
theorem oG{α:Type}{d:α->PyData}(hd:∀ a b,d a=d b->a=b){ps:List α}{p:α}:cS (been d ps) (d p)=true↔p∈ps:=by
 rw[n9,rK,List.mem_map]
 exact ⟨fun ⟨q,h1,h2⟩=>hd q p h2▸h1,fun h=>⟨p,h,rfl⟩⟩
theorem i3{α:Type}{d:α->PyData}(hd:∀ a b,d a=d b->a=b){ps:List α}{p:α}(h:p∉ps):cS (been d ps) (d p)=false:=by
 cases q:cS (been d ps) (d p) with
 | false=>rfl
 | true=>exact absurd ((oG hd).mp q) h
theorem oH{α:Type}{d:α->PyData}(hd:∀ a b,d a=d b->a=b){ps:List α}{p:α}(h:p∉ps):putM (been d ps) (d p) (.bool true)=been d (ps++[p]):=by
 unfold putM
 rw[i3 hd h,if_neg (by decide)]
 unfold been
 rw[List.map_append];rfl
theorem lS{α:Type}(d:α->PyData)(ps:List α):(been d ps).length=ps.length:=by unfold been;rw[List.length_map]
end Fl
namespace Mc
open PySem L2 PyProof.Rows Fl
theorem qA{r:Rw}{rs:List Rw}:c7 [.d (bM (r::rs))]=.ok (.d (.int r.c.length)):=by
 simp[c7,lO,bM,cG]
theorem Mach.cons{rs:List Rw}{sg:Nat}(M:Mach rs sg):∃ r t,rs=r::t/\r.c.length=sg:=by
 cases rs with
 | nil=>have:=M.len;simp at this
 | cons r t=>exact ⟨r,t,rfl,(M.row r List.mem_cons_self).2⟩
def ck(k:Nat)(r:Rw):Int×Int:=r.c.getD k (0,0)
theorem aEF{rs:List Rw}{sg k:Nat}(M:Mach rs sg)(hk:k < sg):gB [.d (bM rs),.d (.int k)]=.ok (.d (.list (rs.map fun r=>gL (ck k r)))):=by
 have h:=eE (fs:=stN 0) (fe:=e2 dIx (e2 dIx (rV 0) (eC (.int 1))) (rV 1)) (ρ0:=[none,some (.d (.int k))]) (d:=cG) (g:=fun r=>gL (ck k r)) (xs:=rs) fun r hr=>by
  refine ⟨_,rfl,?_⟩
  have e:dIx (.tuple (r.c.map gL)) (.int (k:Int))=.ok (gL (ck k r)):=iS (d4 (j:=k) (by rw[List.getElem?_map,(kO M hr hk).1];rfl))
  simp[cG,e]
 have hl:(rs.map cG).length<=16777216:=by have:=M.len2;rw[List.length_map];omega
 simp[gB,lP,bM,t6 hl,fA,h]
theorem fY{n:Nat}(h:n<=16777216):eR 0 (n:Int)=.ok ((List.range n).map fun i:Nat=>.int (i:Int)):=by
 unfold eR
 rw[if_pos (by omega)]
 unfold jQ
 simp
theorem zY(z y:Str):mL (.str z) (.str y)=match Builtin.Str.occurrences z y 0 z.length 1 with|i::_=>R.ok (PyData.int i)|[]=>.bad:=rfl
theorem aEG{c:Nat}(h:bR 3 c=true):mL (.str "abc") (.str ⟨#[c]⟩)=.ok (.int ((c - 97:Nat):Int)):=by
 obtain ⟨r,e⟩:=yW h
 rw[zY,e]
theorem aBM{n c:Nat}(hn:n<=3)(h:bR n c=true):bR 3 c=true:=decide_eq_true (by have:=of_decide_eq_true h;omega)
end Mc
namespace Mc
open PySem L2 PyProof.Rows Fl
theorem jC(i:Int):SeqAt.shaped (.int i)=true:=id rfl
theorem aG7(i j:Int):PyData.eqv (.int i) (.int j)=decide (i=j):=by
 rw[PyData.eqv.eq_5]
 by_cases h:i=j
 · simp [h]
 · simp [h]
theorem kP(i j:Int):dEq (.int i) (.int j)=.ok (.bool (decide (i=j))):=by rw[t7 (jC i) (jC j),aG7]
end Mc
namespace Mc
open PySem L2 PyProof.Rows Fl
end Mc
namespace Mc
open PySem L2 PyProof.Rows Fl
noncomputable def iT:Sg->R Fw:=(aL (bF 2 (vD (eC (.int 0))))
 (aL (sIf (e1 asB (e2 dGt (e1 dLen (rV 0)) (eC (.int 0)))) (bF 2 (vD (e2 dIx (rV 0) (e2 dMod (rV 1) (e1 dLen (rV 0)))))) sNx)
 (aL (bF 3 (vD (e2 dMod (e2 dMul (e2 bE (e2 bE (e2 dMod (rV 2) (eC (.int 2147483647))) (e2 dMul (eC (.int 7919)) (rV 1))) (eC (.int 1))) (eC (.int 48271))) (eC (.int 2147483647)))))
 (bJ (vD (e2 bE (e2 dMul (e2 dDiv (rV 2) (eC (.int 2147483647))) (eC (.int 2147483659))) (e2 dMod (e2 bE (e2 dMul (rV 3) (eC (.int 69621))) (e2 dMul (eC (.int 104729)) (rV 1))) (eC (.int 2147483659)))))))))
noncomputable def cE:List A->R A:=fnF 4 iT
end Mc
namespace Mc
open PySem L2 PyProof.Rows Fl
def lT(ns:List Int):PyData:=.list (ns.map .int)
theorem v6(ns:List Int):dLen (lT ns)=.ok (.int ns.length):=by unfold lT;rw[iA,List.length_map]
theorem aG8{ns:List Int}{i:Int}(h0:0<=i)(h1:i < ns.length):∃ v,dIx (lT ns) (.int i)=.ok (.int v):=by
 refine ⟨ns[i.toNat]'(by omega),lR (nH h0 ?_)⟩
 rw[List.getElem?_map,List.getElem?_eq_getElem (by omega)];rfl
theorem pF(ns:List Int)(k:Int):∃ v,cE [.d (lT ns),.d (.int k)]=.ok (.d (.int v)):=by
 by_cases h:(0:Int) < ns.length
 ·obtain ⟨v,hv⟩:=aG8 (ns:=ns) (i:=k % (ns.length:Int)) (Int.emod_nonneg _ (by omega)) (Int.emod_lt_of_pos _ h)
  have hm:dMod (.int k) (.int (ns.length:Int))=.ok (.int (k % (ns.length:Int))):=dY h
  have hd:0 < ns.length:=by omega
  refine ⟨v / 2147483647 * 2147483659+((v % 2147483647+7919 * k+1) * 48271 % 2147483647 * 69621+104729 * k) % 2147483659,?_⟩
  unfold cE iT
  simp[v6,hd,hm,hv,dY,zW,tZ,iY]
 ·have hd:¬ 0 < ns.length:=by omega
  refine ⟨((7919 * k+1) * 48271 % 2147483647 * 69621+104729 * k) % 2147483659,?_⟩
  unfold cE iT
  simp[v6,hd,dY,zW,tZ,iY]
end Mc
namespace Mc
open PySem L2 PyProof.Rows Fl
end Mc
namespace Mc
open PySem L2 PyProof.Rows
def gK(rs:List Rw)(z:List Nat)(s:Int×Int):Option ((Int×Int)⊕Str):=
 match (bL rs z s).1 with
 | .w x=>some (.inr x)
 | .n q=>some (.inl (s.1+(bL rs z s).2,q))
end Mc
namespace Mc
open PySem L2 PyProof.Rows Fl
theorem aG9:gR "int" "str"=false:=by decide
theorem aHA:gR "str" "str"=true:=by decide
theorem zZ{rs:List Rw}{q:Int}(h0:0<=q)(h1:q < (rs.length:Int)):dIx (bM rs) (.int q)=.ok (cG (aN rs q)):=iS (nH h0 (by rw[List.getElem?_map,dO h0 h1];rfl))
def iB(rs:List Rw)(z:List Nat)(s:Int×Int):Prop:=j0 rs z s/\((m9 rs z s=none/\∃ x,(bL rs z s).1=.w x/\bA (gK rs z) (0,0)=some x)\/((∃ s',m9 rs z s=some s')/\bA (gK rs z) (0,0)=none))
noncomputable def gM(rs:List Rw)(z:List Nat):Str:=(bA (gK rs z) (0,0)).getD "ever"
end Mc
namespace Mc
open PySem L2 PyProof.Rows Fl
theorem aHB(x y:Str):PyData.eqv (.str x) (.str y)=(x == y):=by rw[PyData.eqv.eq_6]
end Mc
namespace Mc
open PySem L2 PyProof.Rows
section
variable{S T O Q:Type}
structure Gates(st:S->Option (S⊕O))(sub:S->Option (S⊕Q))(ext:Q->T⊕O)(g:T->S)(ent:T->S⊕O)(Dom:S->Prop)(TV:T->Prop):Prop where
 step:∀ s,Dom s->(∃ s',sub s=some (.inl s')/\st s=some (.inl s')/\Dom s')\/(∃ e t,sub s=some (.inr e)/\ext e=.inl t/\st s=some (.inl (g t))/\TV t)\/∃ e o,sub s=some (.inr e)/\ext e=.inr o/\st s=some (.inr o)
 gate:∀ t,TV t->(∃ s,ent t=.inl s/\st (g t)=some (.inl s)/\Dom s)\/∃ o,ent t=.inr o/\st (g t)=some (.inr o)
noncomputable def gst(sub:S->Option (S⊕Q))(ext:Q->T⊕O)(ent:T->S⊕O)(ev:O)(t:T):Option (T⊕O):=match ent t with
 | .inr o=>some (.inr o)
 | .inl s=>match bA sub s with
  | none=>some (.inr ev)
  | some e=>some (ext e)
variable{st:S->Option (S⊕O)}{sub:S->Option (S⊕Q)}{ext:Q->T⊕O}{g:T->S}{ent:T->S⊕O}{Dom:S->Prop}{TV:T->Prop}
theorem c8{st:S->Option (S⊕O)}{s:S}{o:O}{n:Nat}(h:Ex st n s o):bA st s=some o:=((iV st s) o).mpr ⟨n,h⟩
theorem eF{st:S->Option (S⊕O)}{s:S}{o:O}(h:bA st s=some o):∃ n,Ex st n s o:=((iV st s) o).mp h
theorem Gates.in1(G:Gates st sub ext g ent Dom TV){k:Nat}{s:S}{e:Q}(d:Dom s)(h:Ex sub k s e):(∀ t,ext e=.inl t->Rc st (k+1) s (g t)/\TV t)/\∀ o,ext e=.inr o->Ex st k s o:=by
 induction h with
 | out h=>
  rcases G.step _ d with ⟨s',a,_⟩|⟨e',t,a,b,c,tv⟩|⟨e',o,a,b,c⟩
  ·rw[h] at a;cases a
  ·rw[h] at a;cases a
   exact ⟨fun t' z=>by rw[b] at z;cases z;exact ⟨.cons c .nil,tv⟩,fun o z=>by rw[b] at z;cases z⟩
  ·rw[h] at a;cases a
   exact ⟨fun t' z=>(by rw[b] at z;cases z),fun o' z=>by rw[b] at z;cases z;exact .out c⟩
 | go h t ih=>
  rcases G.step _ d with ⟨s',a,b,c⟩|⟨e',t,a,b,c,tv⟩|⟨e',o,a,b,c⟩
  ·rw[h] at a;cases a
   obtain ⟨i1,i2⟩:=ih c
   exact ⟨fun t' z=>⟨.cons b (i1 t' z).1,(i1 t' z).2⟩,fun o z=>.go b (i2 o z)⟩
  ·rw[h] at a;cases a
  ·rw[h] at a;cases a
theorem Gates.in2(G:Gates st sub ext g ent Dom TV){n:Nat}{s:S}{o:O}(d:Dom s)(h:Ex st n s o):∃ k e,Ex sub k s e/\((∃ t n',ext e=.inl t/\TV t/\n' < n/\Ex st n' (g t) o)\/ext e=.inr o):=by
 induction h with
 | out h=>
  rcases G.step _ d with ⟨s',a,b,_⟩|⟨e',t,a,b,c,tv⟩|⟨e',o',a,b,c⟩
  ·rw[h] at b;cases b
  ·rw[h] at c;cases c
  ·rw[h] at c;cases c
   exact ⟨0,e',.out a,.inr b⟩
 | go h t ih=>
  rcases G.step _ d with ⟨s',a,b,c⟩|⟨e',t',a,b,c,tv⟩|⟨e',o',a,b,c⟩
  ·rw[h] at b;cases b
   obtain ⟨k,e,q,r⟩:=ih c
   refine ⟨k+1,e,.go a q,r.imp ?_ id⟩
   rintro ⟨t,n',x1,x2,x3,x4⟩
   exact ⟨t,n',x1,x2,by omega,x4⟩
  ·rw[h] at c;cases c
   exact ⟨0,e',.out a,.inl ⟨t',_,b,tv,by omega,t⟩⟩
  ·rw[h] at c;cases c
theorem Gates.fwd(G:Gates st sub ext g ent Dom TV)(ev:O):∀ (n:Nat) {t:T} {o:O},TV t->Ex st n (g t) o->∃ m,Ex (gst sub ext ent ev) m t o:=by
 intro n
 induction n using Nat.strongRecOn with
 | ind n ih=>
  intro t o tv h
  rcases G.gate t tv with ⟨s,a,b,c⟩|⟨o',a,b⟩
  ·cases h with
   | out h=>rw[b] at h;cases h
   | go h q=>
    rw[b] at h;cases h
    obtain ⟨k,e,x,y⟩:=G.in2 c q
    have hr:=c8 x
    rcases y with ⟨t',n',y1,y2,y3,y4⟩|y
    ·obtain ⟨m,hm⟩:=ih n' (by omega) y2 y4
     exact ⟨m+1,.go (by unfold gst;rw[a];simp only;rw[hr];simp only;rw[y1]) hm⟩
    ·exact ⟨0,.out (by unfold gst;rw[a];simp only;rw[hr];simp only;rw[y])⟩
  ·cases h with
   | out h=>rw[b] at h;cases h;exact ⟨0,.out (by unfold gst;rw[a])⟩
   | go h q=>rw[b] at h;cases h
theorem Gates.bwd(G:Gates st sub ext g ent Dom TV){ev:O}{m:Nat}{t:T}{o:O}(h:Ex (gst sub ext ent ev) m t o)(tv:TV t):o=ev\/∃ n,Ex st n (g t) o:=by
 induction h with
 | @out t o h=>
  rcases G.gate t tv with ⟨s,a,b,c⟩|⟨o',a,b⟩
  ·unfold gst at h
   rw[a] at h
   simp only at h
   cases e:bA sub s with
   | none=>rw[e] at h;cases h;exact .inl rfl
   | some x=>
    rw[e] at h
    have h':ext x=.inr o:=Option.some.inj h
    obtain ⟨k,hk⟩:=eF e
    exact .inr ⟨k+1,.go b ((G.in1 c hk).2 o h')⟩
  ·unfold gst at h
   rw[a] at h
   cases h
   exact .inr ⟨0,.out b⟩
 | @go t t' o n h q ih=>
  rcases G.gate t tv with ⟨s,a,b,c⟩|⟨o',a,b⟩
  ·unfold gst at h
   rw[a] at h
   simp only at h
   cases e:bA sub s with
   | none=>rw[e] at h;cases h
   | some x=>
    rw[e] at h
    have h':ext x=.inl t':=Option.some.inj h
    obtain ⟨k,hk⟩:=eF e
    obtain ⟨r1,r2⟩:=(G.in1 c hk).1 t' h'
    rcases ih r2 with z|⟨n',z⟩
    · exact .inl z
    · exact .inr ⟨n' + (k + 1) + 1, .go b (r1.to z)⟩
  ·unfold gst at h
   rw[a] at h
   cases h
theorem Gates.eq(G:Gates st sub ext g ent Dom TV)(ev:O){t:T}(tv:TV t):(bA st (g t)).getD ev=(bA (gst sub ext ent ev) t).getD ev:=by
 cases e:bA st (g t) with
 | some o=>
  obtain ⟨n,h⟩:=eF e
  obtain ⟨m,hm⟩:=G.fwd ev n tv h
  rw[c8 hm]
 | none=>
  cases e2:bA (gst sub ext ent ev) t with
  | none=>rfl
  | some o=>
   obtain ⟨m,hm⟩:=eF e2
   rcases G.bwd hm tv with z|⟨n,z⟩
   · rw [z]; rfl
   · rw [c8 z] at e; cases e
theorem Gates.inn(G:Gates st sub ext g ent Dom TV)(ev:O){s:S}(d:Dom s):(bA st s).getD ev=match bA sub s with
  | none=>ev
  | some e=>match ext e with
   | .inr o=>o
   | .inl t=>(bA (gst sub ext ent ev) t).getD ev:=by
 cases e:bA sub s with
 | none=>
  cases e2:bA st s with
  | none=>rfl
  | some o=>
   obtain ⟨n,h⟩:=eF e2
   obtain ⟨k,x,hx,_⟩:=G.in2 d h
   rw[c8 hx] at e;cases e
 | some x=>
  obtain ⟨k,hk⟩:=eF e
  obtain ⟨i1,i2⟩:=G.in1 d hk
  simp only
  cases q:ext x with
  | inr o=>simp only;rw[c8 (i2 o q)];rfl
  | inl t=>
   simp only
   obtain ⟨r1,r2⟩:=i1 t q
   rw[<-G.eq ev r2]
   cases e2:bA st (g t) with
   | some o=>
    obtain ⟨n,h⟩:=eF e2
    rw[c8 (r1.to h)]
   | none=>
    cases e3:bA st s with
    | none=>rfl
    | some o=>
     obtain ⟨n,h⟩:=eF e3
     obtain ⟨n',_,z⟩:=r1.ex h
     rw[c8 z] at e2;cases e2
end
def d3:Str:="ever"
def cF(rs:List Rw)(z:List Nat)(s:Int×Int):Option ((Int×Int)⊕Tn):=
 match (bL rs z s).1 with
 | .w x=>some (.inr (.w x))
 | .n q=>if s.1+(bL rs z s).2<=(z.length:Int) then some (.inl (s.1+(bL rs z s).2,q)) else some (.inr (.n q))
def lU(rs:List Rw)(z:List Nat)(s:Int×Int):Prop:=0<=s.1/\s.1<=(z.length:Int)/\0<=s.2/\s.2 < (rs.length:Int)
def cB(rs:List Rw)(q:Int):Prop:=0<=q/\q < (rs.length:Int)
theorem lU.valid{rs:List Rw}{z:List Nat}{s:Int×Int}(h:lU rs z s):j0 rs z s:=⟨h.1,by have:=h.2.1;omega,h.2.2⟩
noncomputable def dZ(rs:List Rw)(z:List Nat)(s:Int×Int):Tn:=(bA (cF rs z) s).getD (.w d3)
noncomputable def begB(rs:List Rw)(z:List Nat)(q:Int):Tn:=dZ rs z ((z.length:Int),q)
theorem z0{rs:List Rw}{z:List Nat}{c:Nat}{s:Int×Int}(h0:0<=s.1)(h:s.1<=(z.length:Int)):bL rs (z++[c]) s=bL rs z s:=by
 unfold bL
 by_cases h1:s.1=0
 ·rw[if_pos h1,if_pos h1]
 ·rw[if_neg h1,if_neg h1,if_neg (by rw[List.length_append,List.length_singleton];omega),if_neg (by omega)]
  have e:(z++[c]).getD (s.1.toNat - 1) 97=z.getD (s.1.toNat - 1) 97:=by
   rw[List.getD_eq_getElem?_getD,List.getD_eq_getElem?_getD,List.getElem?_append_left (by omega)]
  rw[e]
theorem beg_cell{rs:List Rw}{sg:Nat}{z:List Nat}{s:Int×Int}(M:Mach rs sg)(S:bH sg z)(V:lU rs z s):(∃ x,(bL rs z s).1=.w x/\s.1=0)\/∃ q,(bL rs z s).1=.n q/\cB rs q/\0<=s.1+(bL rs z s).2/\s.1+(bL rs z s).2<=(z.length:Int)+1:=by
 cases e:(bL rs z s).1 with
 | w x=>
  refine .inl ⟨x,rfl,?_⟩
  by_cases h0:s.1=0
  ·exact h0
  ·unfold bL at e
   rw[if_neg h0,if_neg (by have:=V.2.1;omega)] at e
   cases e
 | n q=>
  have hv:j0 rs z (s.1+(bL rs z s).2,q):=wZ M S V.valid (by unfold m9;rw[e])
  exact .inr ⟨q,rfl,⟨hv.2.2.1,hv.2.2.2⟩,hv.1,hv.2.1⟩
def aHC(e:Tn):Int⊕Tn:=match e with
 | .n q=>.inl q
 | .w x=>.inr (.w x)
def aHD(e:Tn):Int⊕Str:=match e with
 | .n q=>.inl q
 | .w x=>.inr x
def t8(rs:List Rw)(z:List Nat)(c:Nat)(q:Int):(Int×Int)⊕Tn:=
 if ((aN rs q).c.getD (c - 97) (0,0)).2=1 then .inr (.n ((aN rs q).c.getD (c - 97) (0,0)).1) else .inl ((z.length:Int),((aN rs q).c.getD (c - 97) (0,0)).1)
theorem rL{rs:List Rw}{z:List Nat}{c:Nat}{q:Int}:bL rs (z++[c]) ((z.length:Int)+1,q)=(.n ((aN rs q).c.getD (c - 97) (0,0)).1,((aN rs q).c.getD (c - 97) (0,0)).2):=by
 unfold bL
 have e:(z++[c]).getD (((z.length:Int)+1).toNat - 1) 97=c:=by
  rw[show ((z.length:Int)+1).toNat - 1=z.length by omega,List.getD_eq_getElem?_getD,List.getElem?_append_right (Nat.le_refl _)];simp
 rw[if_neg (show ¬ (z.length:Int)+1=0 by omega),if_neg (by simp only[List.length_append,List.length_singleton];omega)]
 simp only
 rw[e]
theorem rM{rs:List Rw}{sg:Nat}{z:List Nat}{c:Nat}(M:Mach rs sg)(S:bH sg z)(hc:bR sg c=true):Gates (cF rs (z++[c])) (cF rs z) aHC (fun q=>((z.length:Int)+1,q)) (t8 rs z c) (lU rs z) (cB rs) where
 step:=fun s V=>by
  have ce:=z0 (rs:=rs) (c:=c) V.1 V.2.1
  have hl:((z++[c]).length:Int)=(z.length:Int)+1:=by rw[List.length_append,List.length_singleton];omega
  rcases beg_cell M S V with ⟨x,e,h0⟩|⟨q,e,rv,h1,h2⟩
  ·refine .inr (.inr ⟨.w x,.w x,?_,rfl,?_⟩)
   ·unfold cF;rw[e]
   ·unfold cF;rw[ce,e]
  ·by_cases h3:s.1+(bL rs z s).2<=(z.length:Int)
   ·refine .inl ⟨(s.1+(bL rs z s).2,q),?_,?_,h1,h3,rv⟩
    · unfold cF; rw [e]; simp only; rw [if_pos h3]
    · unfold cF; rw [ce, e]; simp only; rw [if_pos (by rw [hl]; omega)]
   ·refine .inr (.inl ⟨.n q,q,?_,rfl,?_,rv⟩)
    · unfold cF; rw [e]; simp only; rw [if_neg h3]
    · unfold cF; rw [ce, e]; simp only; rw [if_pos (by rw [hl]; omega), show s.1 + (bL rs z s).2 = (z.length : Int) + 1 by omega]
 gate:=fun q rv=>by
  have hl:((z++[c]).length:Int)=(z.length:Int)+1:=by rw[List.length_append,List.length_singleton];omega
  have hr:=List.mem_of_getElem? (dO rv.1 rv.2)
  obtain ⟨_,cg⟩:=kO M hr (show c - 97 < sg by have:=of_decide_eq_true hc;omega)
  obtain ⟨g1,g2,g3⟩:=cg
  rcases g3 with g3|g3
  ·refine .inr ⟨.n _,by unfold t8;rw[if_pos g3],?_⟩
   unfold cF;rw[rL];simp only;rw[if_neg (by rw[hl,g3];omega)]
  ·refine .inl ⟨((z.length:Int),((aN rs q).c.getD (c - 97) (0,0)).1),by unfold t8;rw[if_neg (by rw[g3];decide)],?_,?_⟩
   ·unfold cF;rw[rL];simp only;rw[if_pos (by rw[hl,g3];omega),g3,show (z.length:Int)+1 + -1=z.length by omega]
   ·exact ⟨by show (0:Int)<=z.length;omega,Int.le_refl _,g1,g2⟩
def cQ(rs:List Rw)(bk:Int->Tn)(c:Nat)(q:Int):Option (Int⊕Tn):=
 if ((aN rs q).c.getD (c - 97) (0,0)).2=1 then some (.inr (.n ((aN rs q).c.getD (c - 97) (0,0)).1)) else match bk ((aN rs q).c.getD (c - 97) (0,0)).1 with
  | .n r=>some (.inl r)
  | .w x=>some (.inr (.w x))
noncomputable def onR(rs:List Rw)(bk:Int->Tn)(c:Nat)(t:Tn):Tn:=match t with
 | .w x=>.w x
 | .n q=>(bA (cQ rs bk c) q).getD (.w d3)
theorem z4{rs:List Rw}{z:List Nat}{c:Nat}:gst (cF rs z) aHC (t8 rs z c) (.w d3)=cQ rs (begB rs z) c:=by
 funext q
 unfold gst t8 cQ begB dZ
 by_cases h:((aN rs q).c.getD (c - 97) (0,0)).2=1
 ·rw[if_pos h,if_pos h]
 ·rw[if_neg h,if_neg h]
  simp only
  cases bA (cF rs z) ((z.length:Int),((aN rs q).c.getD (c - 97) (0,0)).1) with
  | none=>rfl
  | some e=>cases e<;>rfl
theorem kA{rs:List Rw}{sg:Nat}{z:List Nat}{c:Nat}(M:Mach rs sg)(S:bH sg z)(hc:bR sg c=true){q:Int}(rv:cB rs q):begB rs (z++[c]) q=onR rs (begB rs z) c (.n q):=by
 have h:=(rM M S hc).eq (.w d3) rv
 rw[z4] at h
 unfold begB dZ onR
 rw[show ((z++[c]).length:Int)=(z.length:Int)+1 by rw[List.length_append,List.length_singleton];omega]
 exact h
theorem oI{rs:List Rw}{sg:Nat}(M:Mach rs sg)(z:List Nat):lU rs z (0,0):=⟨Int.le_refl _,by show (0:Int)<=z.length;omega,Int.le_refl _,by have:=M.len;show (0:Int) < rs.length;omega⟩
theorem rN{rs:List Rw}{sg:Nat}{z:List Nat}{c:Nat}(M:Mach rs sg)(S:bH sg z)(hc:bR sg c=true):dZ rs (z++[c]) (0,0)=onR rs (begB rs z) c (dZ rs z (0,0)):=by
 have h:=(rM M S hc).inn (.w d3) (oI M z)
 rw[z4] at h
 unfold dZ
 rw[h]
 cases bA (cF rs z) (0,0) with
 | none=>rfl
 | some e=>cases e<;>rfl
def dM(rs:List Rw)(bk:Int->Tn)(q:Int):Option (Int⊕Str):=match (aN rs q).r with
 | .w x=>some (.inr x)
 | .n q'=>match bk q' with
  | .n r=>some (.inl r)
  | .w x=>some (.inr x)
noncomputable def wbR(rs:List Rw)(bk:Int->Tn)(t:Tn):Str:=match t with
 | .w x=>x
 | .n q=>(bA (dM rs bk) q).getD d3
def t9(rs:List Rw)(z:List Nat)(q:Int):(Int×Int)⊕Str:=match (aN rs q).r with
 | .w x=>.inr x
 | .n q'=>.inl ((z.length:Int),q')
theorem rO{rs:List Rw}{z:List Nat}{q:Int}:bL rs z ((z.length:Int)+1,q)=((aN rs q).r,-1):=by
 unfold bL
 rw[if_neg (show ¬ (z.length:Int)+1=0 by omega),if_pos rfl]
theorem xQ{rs:List Rw}{sg:Nat}{z:List Nat}(M:Mach rs sg)(S:bH sg z):Gates (gK rs z) (cF rs z) aHD (fun q=>((z.length:Int)+1,q)) (t9 rs z) (lU rs z) (cB rs) where
 step:=fun s V=>by
  rcases beg_cell M S V with ⟨x,e,h0⟩|⟨q,e,rv,h1,h2⟩
  ·refine .inr (.inr ⟨.w x,x,?_,rfl,?_⟩)
   ·unfold cF;rw[e]
   ·unfold gK;rw[e]
  ·by_cases h3:s.1+(bL rs z s).2<=(z.length:Int)
   ·refine .inl ⟨(s.1+(bL rs z s).2,q),?_,?_,h1,h3,rv⟩
    · unfold cF; rw [e]; simp only; rw [if_pos h3]
    · unfold gK; rw [e]
   ·refine .inr (.inl ⟨.n q,q,?_,rfl,?_,rv⟩)
    · unfold cF; rw [e]; simp only; rw [if_neg h3]
    · unfold gK; rw [e]; simp only; rw [show s.1 + (bL rs z s).2 = (z.length : Int) + 1 by omega]
 gate:=fun q rv=>by
  have hr:=List.mem_of_getElem? (dO rv.1 rv.2)
  have hg:=(M.row _ hr).1.2.1
  cases e:(aN rs q).r with
  | w x=>exact .inr ⟨x,by unfold t9;rw[e],by unfold gK;rw[rO];simp only;rw[e]⟩
  | n q'=>
   rw[e] at hg
   refine .inl ⟨((z.length:Int),q'),by unfold t9;rw[e],?_,⟨by show (0:Int)<=z.length;omega,Int.le_refl _,hg.1,hg.2⟩⟩
   unfold gK;rw[rO];simp only;rw[e];simp only;rw[show (z.length:Int)+1 + -1=z.length by omega]
theorem aHE{rs:List Rw}{z:List Nat}:gst (cF rs z) aHD (t9 rs z) d3=dM rs (begB rs z):=by
 funext q
 unfold gst t9 dM begB dZ
 cases (aN rs q).r with
 | w x=>rfl
 | n q'=>
  simp only
  cases bA (cF rs z) ((z.length:Int),q') with
  | none=>rfl
  | some e=>cases e<;>rfl
theorem uA{rs:List Rw}{sg:Nat}{z:List Nat}(M:Mach rs sg)(S:bH sg z):(bA (gK rs z) (0,0)).getD d3=wbR rs (begB rs z) (dZ rs z (0,0)):=by
 have h:=(xQ M S).inn d3 (oI M z)
 rw[aHE] at h
 rw[h]
 unfold dZ wbR
 cases bA (cF rs z) (0,0) with
 | none=>rfl
 | some e=>cases e<;>rfl
theorem jJ{rs:List Rw}{q:Int}:dZ rs [] (0,q)=(aN rs q).l:=by
 have hc:bL rs [] (0,q)=((aN rs q).l,1):=by unfold bL;rw[if_pos rfl]
 unfold dZ
 cases e:(aN rs q).l with
 | w x=>rw[qX (o:=.w x) (by unfold cF;rw[hc,e])];rfl
 | n q'=>
  rw[qX (o:=.n q') (by unfold cF;rw[hc,e];simp only;rw[if_neg (by decide)])];rfl
end Mc
namespace Mc
open PySem L2 PyProof.Rows Fl
def fC(f:Tn)(bk:List Tn):PyData:=.tuple [f.d,.tuple (bk.map Tn.d)]
def bkF(bk:List Tn)(q:Int):Tn:=bk.getD q.toNat (.w d3)
def tnV(m:Nat):Tn->Prop
 | .n i=>0<=i/\i < (m:Int)
 | .w _=>True
theorem fJ(a b:Int)(h:PyData.int a=PyData.int b):a=b:=by injection h
theorem gC(ps:List Int)(q:Int):b9 (.int q) ((been PyData.int ps).map (·.1))=true:=by
 unfold b9
 rw[rK,Bool.or_eq_true]
 refine .inr ?_
 rw[show kD (.int q)=true from rfl,Bool.true_and,List.all_eq_true]
 intro x hx
 obtain ⟨i,_,rfl⟩:=List.mem_map.mp hx
 rfl
theorem qB(i:Int):cX [.d (.int i)]=.ok (.d (.bool false)):=by
 unfold cX j8
 simp[aG9]
theorem qD(x:Str):cX [.d (.str x)]=.ok (.d (.bool true)):=by
 unfold cX j8
 simp[aHA]
def d0(rs:List Rw)(k:Nat):PyData:=.list (rs.map fun r=>gL (ck k r))
theorem uB{rs:List Rw}{k:Nat}{q:Int}(h0:0<=q)(h1:q < (rs.length:Int)):dIx (d0 rs k) (.int q)=.ok (gL (ck k (aN rs q))):=lR (nH h0 (by rw[List.getElem?_map,dO h0 h1];rfl))
theorem aCN{bk:List Tn}{q:Int}(h0:0<=q)(h1:q < (bk.length:Int)):dIx (.tuple (bk.map Tn.d)) (.int q)=.ok (bkF bk q).d:=by
 refine iS (nH h0 ?_)
 have hq:q.toNat < bk.length:=by omega
 rw[List.getElem?_map,List.getElem?_eq_getElem hq]
 unfold bkF
 rw[List.getD_eq_getElem?_getD,List.getElem?_eq_getElem hq];rfl
theorem nI{m:Nat}{bk:List Tn}(hv:∀ t∈bk,tnV m t)(q:Int):tnV m (bkF bk q):=by
 unfold bkF
 rw[List.getD_eq_getElem?_getD]
 cases e:bk[q.toNat]? with
 | none=>exact trivial
 | some t=>exact hv t (List.mem_of_getElem? e)
noncomputable def oT:Sg->R Bool:=(mG (e1 asB (eA (a9 1 cX (aA (vV 2) aF)))))
noncomputable def oB:Sg->R Fw:=(aL (sIf (e1 asB (lL false 3 (eV 2))) (bJ (vD (eC (.str "ever")))) sNx)
 (aL (j7 3 (eV 2) (eC (.bool true)))
 (aL (bF 4 (vD (e2 dIx (rV 1) (rV 2))))
 (aL (sIf (e1 asB (e2 dEq (e2 dIx (rV 4) (eC (.int 1))) (eC (.int 1)))) (bJ (vD (e2 dIx (rV 4) (eC (.int 0))))) sNx)
 (bF 2 (vD (e2 dIx (rV 0) (e2 dIx (rV 4) (eC (.int 0))))))))))
theorem aHF:mP=aL (nF 3) (aL (bK oT oB) (bJ (vV 2))):=id rfl
noncomputable def oρ(rs:List Rw)(bk:List Tn)(k:Nat)(t:Tn)(ps:List Int)(u:Option A):Sg:=[some (.d (.tuple (bk.map Tn.d))),some (.d (d0 rs k)),some (.d t.d),some (.m (been PyData.int ps)),u]
theorem aHG{rs:List Rw}{bk:List Tn}{k:Nat}{x:Str}{ps:List Int}{u:Option A}:oT (oρ rs bk k (.w x) ps u)=.ok false:=by
 simp[oT,oρ,Tn.d,qD]
theorem aBN{rs:List Rw}{bk:List Tn}{k:Nat}{q:Int}{ps:List Int}{u:Option A}:oT (oρ rs bk k (.n q) ps u)=.ok true:=by
 simp[oT,oρ,Tn.d,qB]
theorem aHH{rs:List Rw}{bk:List Tn}{k:Nat}{q:Int}{ps:List Int}{u:Option A}(h:q∈ps):oB (oρ rs bk k (.n q) ps u)=.ok (.rt (.d (.str "ever"))):=by
 have h1:=gC ps q
 have h2:=(oG fJ).mpr h
 simp[oB,oρ,Tn.d,h1,h2]
theorem aHI{rs:List Rw}{bk:List Tn}{k:Nat}{q:Int}{ps:List Int}{u:Option A}(h:q∉ps)(rv:cB rs q)(hp:ps.length<=16777216)(hc:(ck k (aN rs q)).2=1):oB (oρ rs bk k (.n q) ps u)=.ok (.rt (.d (.int (ck k (aN rs q)).1))):=by
 have h1:=gC ps q
 have h2:=i3 fJ h
 have h4:(been PyData.int ps).length<=16777216:=by rw[lS];exact hp
 have hi:=uB (k:=k) rv.1 rv.2
 simp[oB,oρ,Tn.d,h1,h2,h4,hi,gL,kP,hc]
theorem aI3{rs:List Rw}{bk:List Tn}{k:Nat}{q:Int}{ps:List Int}{u:Option A}(h:q∉ps)(rv:cB rs q)(hp:ps.length<=16777216)(hc:(ck k (aN rs q)).2≠1)(h0:0<=(ck k (aN rs q)).1)(hl:(ck k (aN rs q)).1 < (bk.length:Int)):oB (oρ rs bk k (.n q) ps u)=.ok (.nx (oρ rs bk k (bkF bk (ck k (aN rs q)).1) (ps++[q]) (some (.d (gL (ck k (aN rs q))))))):=by
 have h1:=gC ps q
 have h2:=i3 fJ h
 have h3:=oH fJ h
 have h4:(been PyData.int ps).length<=16777216:=by rw[lS];exact hp
 have hi:=uB (k:=k) rv.1 rv.2
 have hb:=aCN h0 hl
 simp[oB,oρ,Tn.d,h1,h2,h3,h4,hi,gL,kP,hc,hb]
theorem nJ{m:Nat}{l:List Int}(hn:l.Nodup)(hv:∀ q∈l,0<=q/\q < (m:Int)):l.length<=m:=
 yY (fun q:Int=>q.toNat) m l hn (fun q hq=>by have:=hv q hq;show q.toNat < m;omega) (fun a ha b hb e=>by
  have h1:=hv a ha
  have h2:=hv b hb
  have e':a.toNat=b.toNat:=e
  omega)
theorem v7{rs:List Rw}{bk:Int->Tn}{c:Nat}{q:Int}:cQ rs bk c q=if (ck (c - 97) (aN rs q)).2=1 then some (.inr (.n (ck (c - 97) (aN rs q)).1)) else match bk (ck (c - 97) (aN rs q)).1 with
 | .n r=>some (.inl r)
 | .w x=>some (.inr (.w x)):=id rfl
theorem aEH{rs:List Rw}{sg c:Nat}{bk:List Tn}(M:Mach rs sg)(hc:bR sg c=true)(hb:bk.length=rs.length)(hv:∀ t∈bk,tnV rs.length t){q0:Int}:∀ (n:Nat) (ps:List Int) (q:Int) (u:Option A),Und2 (cQ rs (bkF bk) c) q0 ps q->(∀ p∈ps,cB rs p)->cB rs q->rs.length+1<=ps.length+n->
  aL (bK oT oB) (bJ (vV 2)) (oρ rs bk (c - 97) (.n q) ps u)=.ok (.rt (.d ((bA (cQ rs (bkF bk) c) q0).getD (.w d3)).d)):=by
 intro n
 induction n with
 | zero=>
  intro ps q u U pv rv hn
  have:=nJ U.nd pv
  omega
 | succ n ih=>
  intro ps q u U pv rv hn
  rw[fH]
  by_cases hs:q∈ps
  ·rw[mQ aBN (aHH hs),U.met hs];rfl
  ·have hl:ps.length<=rs.length:=nJ U.nd pv
   have hp:ps.length<=16777216:=by have:=M.len2;omega
   have hr:=List.mem_of_getElem? (dO rv.1 rv.2)
   obtain ⟨_,cg⟩:=kO M hr (show c - 97 < sg by have:=of_decide_eq_true hc;omega)
   have cg:k9 rs.length (ck (c - 97) (aN rs q)):=cg
   obtain ⟨g1,g2,g3⟩:=cg
   by_cases h1:(ck (c - 97) (aN rs q)).2=1
   ·have st:cQ rs (bkF bk) c q=some (.inr (.n (ck (c - 97) (aN rs q)).1)):=by unfold cQ;exact if_pos h1
    rw[mQ aBN (aHI hs rv hp h1),U.outs st];rfl
   ·rw[iZ aBN (aI3 hs rv hp h1 g1 (by rw[hb];exact g2))]
    have gd:=nI hv (ck (c - 97) (aN rs q)).1
    cases e:bkF bk (ck (c - 97) (aN rs q)).1 with
    | w x=>
     have st:cQ rs (bkF bk) c q=some (.inr (.w x)):=by rw[v7,if_neg h1,e]
     rw[eW aHG,U.outs st]
     simp[oρ,Tn.d]
    | n r=>
     rw[e] at gd
     have st:cQ rs (bkF bk) c q=some (.inl r):=by rw[v7,if_neg h1,e]
     have:=ih (ps++[q]) r (some (.d (gL (ck (c - 97) (aN rs q))))) (U.next hs st) (fun p hp=>by
      rcases List.mem_append.mp hp with z|z
      · exact pv p z
      · rw [List.mem_singleton.mp z]; exact rv) gd (by rw [List.length_append, List.length_singleton]; omega)
     rw[fH] at this
     exact this
theorem aHJ{rs:List Rw}{sg c:Nat}{bk:List Tn}(M:Mach rs sg)(hc:bR sg c=true)(hb:bk.length=rs.length)(hv:∀ t∈bk,tnV rs.length t){t:Tn}(ht:tnV rs.length t):fX [.d (.tuple (bk.map Tn.d)),.d (d0 rs (c - 97)),.d t.d]=.ok (.d (onR rs (bkF bk) c t).d):=by
 have key:aL (bK oT oB) (bJ (vV 2)) (oρ rs bk (c - 97) t [] none)=.ok (.rt (.d (onR rs (bkF bk) c t).d)):=by
  cases t with
  | w x=>
   rw[fH,eW aHG]
   simp[oρ,Tn.d,onR]
  | n q=>exact aEH M hc hb hv (rs.length+1) [] q none Und2.start (fun p hp=>by simp at hp) ht (by simp)
 unfold fX
 rw[aHF]
 simp only[zU,fH,tY,R.bind_ok,List.length_cons,List.length_nil,Nat.reduceAdd,List.map_cons,List.map_nil,List.cons_append,List.nil_append,List.replicate,List.set_cons_zero,List.set_cons_succ]
 rw[fH] at key
 simp only[oρ,been,List.map_nil] at key
 rw[key];rfl
theorem aI4{rs:List Rw}{sg c:Nat}{bk:List Tn}(M:Mach rs sg)(hc:bR sg c=true)(hb:bk.length=rs.length)(hv:∀ t∈bk,tnV rs.length t){t:Tn}(ht:tnV rs.length t) :
  fB [.d (fC t bk),.d (d0 rs (c - 97))]=.ok (.d (fC (onR rs (bkF bk) c t) ((List.range rs.length).map fun q:Nat=>onR rs (bkF bk) c (.n (q:Int))))):=by
 have h:=eE (fs:=stN 0) (fe:=eA (a9 3 fX (aA (vD (e2 dIx (rV 1) (eC (.int 1)))) (aA (vV 2) (aA (vV 0) aF))))) (ρ0:=[none,some (.d (fC t bk)),some (.d (d0 rs (c - 97)))]) (d:=fun i:Nat=>.int (i:Int)) (g:=fun i:Nat=>(onR rs (bkF bk) c (.n (i:Int))).d) (xs:=List.range rs.length) fun i hi=>by
  refine ⟨_,rfl,?_⟩
  have:=aHJ M hc hb hv (t:=.n (i:Int)) ⟨by omega,by have:=List.mem_range.mp hi;omega⟩
  have e:(Tn.n (i:Int)).d=.int i:=rfl
  rw[e] at this
  simp[fC,this]
 have hr:=fY (n:=rs.length) (by have:=M.len2;omega)
 have hl:dLen (d0 rs (c - 97))=.ok (.int rs.length):=by unfold d0;rw[iA,List.length_map]
 have h1:=aHJ M hc hb hv ht
 have h0:dIx (fC t bk) (.int 0)=.ok t.d:=zX _ _
 have h2:dIx (fC t bk) (.int 1)=.ok (.tuple (bk.map Tn.d)):=aG4 _ _ _
 unfold fB oE
 simp[h0,h2,h1,hl,hr,fA,h]
 unfold fC
 rw[List.map_map];rfl
noncomputable def aV(rs:List Rw)(z:List Nat):PyData:=fC (dZ rs z (0,0)) ((List.range rs.length).map fun q:Nat=>begB rs z (q:Int))
theorem iL{rs:List Rw}{sg:Nat}{z:List Nat}(M:Mach rs sg)(S:bH sg z){s:Int×Int}(V:lU rs z s):tnV rs.length (dZ rs z s):=by
 unfold dZ
 cases e:bA (cF rs z) s with
 | none=>exact trivial
 | some t=>
  obtain ⟨n,h⟩:=eF e
  show tnV rs.length t
  clear e
  induction h with
  | @out s o h=>
   unfold cF at h
   rcases beg_cell M S V with ⟨x,e,h0⟩|⟨q,e,rv,h1,h2⟩
   ·rw[e] at h;cases h;exact trivial
   ·rw[e] at h
    simp only at h
    split at h
    · cases h
    · cases h; exact rv
  | @go s s' o n h t ih=>
   refine ih ?_
   unfold cF at h
   rcases beg_cell M S V with ⟨x,e,h0⟩|⟨q,e,rv,h1,h2⟩
   ·rw[e] at h;cases h
   ·rw[e] at h
    simp only at h
    split at h
    · rename_i h3; cases h; exact ⟨h1, h3, rv⟩
    · cases h
theorem xR{rs:List Rw}{z:List Nat}{q:Nat}(h:q < rs.length):lU rs z ((z.length:Int),(q:Int)):=⟨by show (0:Int)<=z.length;omega,Int.le_refl _,by show (0:Int)<=q;omega,by show (q:Int) < rs.length;omega⟩
theorem qE{rs:List Rw}{z:List Nat}{q:Int}(rv:cB rs q):bkF ((List.range rs.length).map fun q:Nat=>begB rs z (q:Int)) q=begB rs z q:=by
 have hq:q.toNat < rs.length:=by have:=rv.1;have:=rv.2;omega
 unfold bkF
 rw[List.getD_eq_getElem?_getD,List.getElem?_map,List.getElem?_range hq]
 show begB rs z ((q.toNat:Nat):Int)=_
 rw[show ((q.toNat:Nat):Int)=q by have:=rv.1;omega]
theorem uC{rs:List Rw}{sg c:Nat}(M:Mach rs sg)(hc:bR sg c=true){bk bk':Int->Tn}(h:∀ q,cB rs q->bk q=bk' q)(hg:∀ q,cB rs q->tnV rs.length (bk q)){t:Tn}(ht:tnV rs.length t):onR rs bk c t=onR rs bk' c t:=by
 cases t with
 | w x=>rfl
 | n q=>
  have st:∀ q,cB rs q->cQ rs bk c q=cQ rs bk' c q:=fun q rv=>by
   unfold cQ
   have hr:=List.mem_of_getElem? (dO rv.1 rv.2)
   obtain ⟨_,cg⟩:=kO M hr (show c - 97 < sg by have:=of_decide_eq_true hc;omega)
   rw[h _ ⟨cg.1,cg.2.1⟩]
  have nx:∀ q q',cB rs q->cQ rs bk c q=some (.inl q')->cB rs q':=fun q q' rv e=>by
   unfold cQ at e
   have hr:=List.mem_of_getElem? (dO rv.1 rv.2)
   obtain ⟨_,cg⟩:=kO M hr (show c - 97 < sg by have:=of_decide_eq_true hc;omega)
   have gd:=hg _ ⟨cg.1,cg.2.1⟩
   split at e
   ·cases e
   ·split at e
    · rename_i r er; cases e; rw [er] at gd; exact gd
    · cases e
  have a1:∀ n q o,cB rs q->Ex (cQ rs bk c) n q o->Ex (cQ rs bk' c) n q o:=by
   intro n q o rv hx
   induction hx with
   | @out q o e=>exact .out (by rw[<-st q rv];exact e)
   | @go q q' o n e t ih=>exact .go (by rw[<-st q rv];exact e) (ih (nx q q' rv e))
  have a2:∀ n q o,cB rs q->Ex (cQ rs bk' c) n q o->Ex (cQ rs bk c) n q o:=by
   intro n q o rv hx
   induction hx with
   | @out q o e=>exact .out (by rw[st q rv];exact e)
   | @go q q' o n e t ih=>
    have e':cQ rs bk c q=some (.inl q'):=by rw[st q rv];exact e
    exact .go e' (ih (nx q q' rv e'))
  show (bA (cQ rs bk c) q).getD (.w d3)=(bA (cQ rs bk' c) q).getD (.w d3)
  rw[nR (st:=cQ rs bk c) (st':=cQ rs bk' c) (s:=q) (s':=q) fun o=>⟨fun ⟨n,x⟩=>⟨n,a1 n q o ht x⟩,fun ⟨n,x⟩=>⟨n,a2 n q o ht x⟩⟩]
theorem uD{rs:List Rw}{sg:Nat}{z:List Nat}{c:Nat}(M:Mach rs sg)(S:bH sg z)(hc:bR sg c=true):fB [.d (aV rs z),.d (d0 rs (c - 97))]=.ok (.d (aV rs (z++[c]))):=by
 have hl:((List.range rs.length).map fun q:Nat=>begB rs z (q:Int)).length=rs.length:=by simp
 have hv:∀ t∈(List.range rs.length).map fun q:Nat=>begB rs z (q:Int),tnV rs.length t:=fun t ht=>by
  obtain ⟨q,hq,rfl⟩:=List.mem_map.mp ht
  exact iL M S (xR (List.mem_range.mp hq))
 have hg:∀ q,cB rs q->tnV rs.length (bkF ((List.range rs.length).map fun q:Nat=>begB rs z (q:Int)) q):=fun q rv=>nI hv q
 unfold aV
 rw[aI4 M hc hl hv (iL M S (oI M z))]
 rw[uC M hc (fun q rv=>qE rv) hg (iL M S (oI M z)),rN M S hc]
 have em:((List.range rs.length).map fun q:Nat=>onR rs (bkF ((List.range rs.length).map fun q:Nat=>begB rs z (q:Int))) c (.n (q:Int)))=(List.range rs.length).map fun q:Nat=>begB rs (z++[c]) (q:Int):=?_
 ·rw[em]
 refine List.map_congr_left fun q hq=>?_
 have rv:cB rs (q:Int):=⟨by omega,by have:=List.mem_range.mp hq;omega⟩
 rw[uC M hc (fun q rv=>qE rv) hg (t:=.n (q:Int)) rv,kA M S hc rv]
end Mc
namespace Mc
open PySem L2 PyProof.Rows Fl
theorem xS{rs:List Rw}{sg:Nat}(M:Mach rs sg):c6 (bM rs)=.ok (rs.map cG):=t6 (by have:=M.len2;rw[List.length_map];omega)
theorem aBO{α:Type}(rs:List Rw)(f:Rw->α):rs.map f=(List.range rs.length).map fun q:Nat=>f (aN rs (q:Int)):=by
 apply List.ext_getElem
 ·simp
 ·intro i h1 h2
  have hi:i < rs.length:=by simpa using h1
  simp only[List.getElem_map,List.getElem_range]
  congr 1
  unfold aN
  rw[List.getD_eq_getElem?_getD,show ((i:Int)).toNat=i by omega,List.getElem?_eq_getElem hi];rfl
theorem aI5{rs:List Rw}{sg:Nat}(M:Mach rs sg):d6 [.d (bM rs)]=.ok (.d (aV rs [])):=by
 have h:=eE (fs:=stN 0) (fe:=e2 dIx (rV 0) (eC (.int 0))) (ρ0:=[none]) (d:=cG) (g:=fun r:Rw=>r.l.d) (xs:=rs) fun r _=>⟨_,rfl,by simp[cG]⟩
 have e1:aV rs []=.tuple [(aN rs 0).l.d,.tuple (rs.map fun r=>r.l.d)]:=by
  unfold aV fC
  rw[jJ,aBO rs,List.map_map]
  congr 4
  refine List.map_congr_left fun q _=>?_
  show (dZ rs [] (((([]:List Nat).length:Nat):Int),(q:Int))).d=_
  rw[show ((([]:List Nat).length:Nat):Int)=0 by rfl,jJ]
 obtain ⟨r,t,hrs,_⟩:=M.cons
 have h0:dIx (.tuple (rs.map fun r=>r.l.d)) (.int 0)=.ok (aN rs 0).l.d:=by
  subst hrs
  exact zX _ _
 rw[e1]
 unfold d6 hV
 simp[xS M,fA,h,h0]
theorem aHK{rs:List Rw}{sg:Nat}(M:Mach rs sg)(ρ0:Sg)(h:fA [none,some 0] ρ0=[none,some (.d (bM rs))]) :
  compL (stN 0) gF (eA (a9 2 gB (aA (vV 1) (aA (vV 0) aF)))) (fA [none,some 0] ρ0) ((List.range sg).map fun i:Nat=>.int (i:Int))=.ok ((List.range sg).map (d0 rs)):=by
 rw[h]
 refine eE fun k hk=>⟨_,rfl,?_⟩
 have:=aEF M (List.mem_range.mp hk)
 simp[this]
 rfl
end Mc
namespace Mc
open PySem L2 PyProof.Rows Fl
end Mc
namespace Mc
open PySem L2 PyProof.Rows Fl
end Mc
namespace Mc
open PySem L2 PyProof.Rows Fl
end Mc
namespace Fl
open PySem L2 PyProof.Rows
@[simp] theorem aKQ(i:Nat)(f:Sg->R (List (PyData×PyData)))(ρ:Sg):r6 i f ρ=(f ρ).bind fun kvs=>(fW [] kvs).bind fun res=>.ok (.nx (ρ.set i (some (.m res)))):=id rfl
@[simp] theorem aLO(ρ:Sg):xO ρ=.ok []:=id rfl
@[simp] theorem aKR(f g:Sg->R PyData)(r:Sg->R (List (PyData×PyData)))(ρ:Sg):r0 f g r ρ=(f ρ).bind fun x=>(g ρ).bind fun y=>(r ρ).bind fun t=>.ok ((x,y)::t):=id rfl
@[simp] theorem aJO(i:Nat)(f g:Sg->R PyData)(ρ:Sg):aGR i f g ρ=match ρ[i]? with|some (some (.m kvs))=>(f ρ).bind fun k=>(g ρ).bind fun y=>if b9 k (kvs.map (·.1))=true then .ok ((dW kvs k).getD y) else .bad|_=>.bad:=id rfl
end Fl
namespace Mc
open PySem L2 PyProof.Rows Fl
end Mc
namespace Mc
open PySem L2 PyProof.Rows Fl
theorem uE{w:Str}(h:w="by"\/w="out"\/w="ever"):SeqAt.shaped (.str w)=true:=by rcases h with rfl|rfl|rfl<;>decide +kernel
theorem aHL{w v:Str}(h:w="by"\/w="out"\/w="ever")(h':v="by"\/v="out"\/v="ever"):dEq (.str w) (.str v)=.ok (.bool (decide (w=v))):=by
 rw[t7 (uE h) (uE h'),aHB]
 congr 2
end Mc
namespace Mc
open PySem L2 PyProof.Rows Fl
end Mc
namespace Mc
open PySem L2 PyProof.Rows Fl
@[simp] theorem aLP(m i:Nat)(f:Sg->R (List PyData))(ρ:Sg):tR m i f ρ=match ρ[i]? with|some (some (.g k n G))=>(f ρ).bind fun ds=>if k<=m/\ds.length=n then G ds else .bad|_=>.bad:=id rfl
@[simp] theorem aKS(m i:Nat)(f:Sg->R (List PyData))(ρ:Sg):pB m i f ρ=match ρ[i]? with|some (some (.g k n G))=>(f ρ).bind fun ds=>if k<=m/\ds.length=n then (match G ds with | .ok d=>if nG d=true then .ok d else .bad|_=>.bad) else .bad|_=>.bad:=id rfl
def fM(fs:List PyData):List (PyData×PyData):=fs.zipIdx.map fun p=>(p.1,.int (p.2:Int))
theorem oJ(fs:List PyData):(fM fs).map (·.1)=fs:=by
 unfold fM
 rw[List.map_map]
 show fs.zipIdx.map Prod.fst=fs
 exact List.zipIdx_map_fst 0 fs
theorem aEI(fs:List PyData):(fM fs).length=fs.length:=by unfold fM;rw[List.length_map,List.length_zipIdx]
theorem v8{fs:List PyData}{x:PyData}:cS (fM fs) x=true↔x∈fs:=by rw[n9,oJ]
theorem uF{fs:List PyData}{x:PyData}(h:x∉fs):cS (fM fs) x=false:=by
 cases q:cS (fM fs) x with
 | false=>rfl
 | true=>exact absurd (v8.mp q) h
theorem aEJ{fs:List PyData}{x:PyData}(h:x∉fs):putM (fM fs) x (.int (fs.length:Int))=fM (fs++[x]):=by
 unfold putM
 rw[uF h,if_neg (by decide)]
 unfold fM
 rw[List.zipIdx_append,List.map_append]
 simp
theorem aEK{fs:List PyData}{x:PyData}(h:x∈fs):∃ i:Nat,dW (fM fs) x=some (.int (i:Int))/\fs[i]? = some x:=by
 unfold dW
 cases e:(fM fs).find? fun p=>decide (p.1=x) with
 | none=>
  rw[List.find?_eq_none] at e
  rw[<-oJ fs,List.mem_map] at h
  obtain ⟨p,hp,e2⟩:=h
  exact absurd (decide_eq_true e2) (e p hp)
 | some p=>
  have h1:=List.find?_some e
  have h2:=List.mem_of_find?_eq_some e
  unfold fM at h2
  obtain ⟨⟨y,i⟩,hy,rfl⟩:=List.mem_map.mp h2
  refine ⟨i,rfl,?_⟩
  have h1:y=x:=of_decide_eq_true h1
  rw[<-h1]
  exact List.mk_mem_zipIdx_iff_getElem?.mp hy
structure Srch where
 after:PyData->List PyData
 x0:PyData
 good:Nat->PyData->Prop
 lim:Nat
 k1:Nat
 k2:Nat
 G:List PyData->R PyData
 D:List PyData->R PyData
structure Srch.ok(S:Srch):Prop where
 g0:S.good 0 S.x0
 gs:∀ i x,S.good i x->i<=S.lim->∀ y∈S.after x,S.good (i+1) y
 up:∀ i j x,i<=j->S.good i x->S.good j x
 few:∀ xs:List PyData,xs.Nodup->(∀ x∈xs,∃ i,S.good i x)->xs.length<=S.lim
 key:∀ i x,S.good i x->i7 x=true
 hk1:S.k1<=12
 hk2:S.k2<=12
 hG:∀ i x,i<=S.lim->S.good i x->S.G [x]=.ok (.list (S.after x))/\(S.after x).length<=16777216
 hD:∀ (fs:List PyData) (i:Int),fs.length<=S.lim->S.D [.list fs,.int i]=.ok (.bool false)
 hl:S.lim<=16000000
noncomputable def rhF:Sg->R Fw:=(aL (sIf (e1 asB (lL true 4 (eV 7))) (aL (j7 4 (eV 7) (e1 dLen (rV 3)))
 (gQ 3 (eV 7))) sNx)
 (gQ 6 (pA 4 (eV 7))))
noncomputable def rhT:Sg->R Bool:=(n8 (e1 asB (e2 dLt (e1 dLen (rV 5)) (e1 dLen (rV 3)))) (mG (e1 asB (pB 12 2 (aA (rV 3) (aA (e1 dLen (rV 5)) aF))))))
noncomputable def rhB:Sg->R Fw:=(aL (fO 6 (fV aF))
 (aL (iJ (e1 c6 (tR 12 1 (aA (e2 dIx (rV 3) (e1 dLen (rV 5))) aF))) (stN 7) rhF)
 (gQ 5 (e1 dTup (rV 6)))))
theorem aHM:mO=aL (fO 3 (fV (aA (eV 0) aF))) (aL (r6 4 (r0 (eV 0) (eC (.int 0)) xO)) (aL (fO 5 (fV aF)) (aL (bK rhT rhB) (sFz 5 (sFz 3 (bJ (vD (bD (aA (eV 3) (aA (eV 5) aF))))))))) ):=id rfl
def aI6(fs:List PyData)(js:List Nat)(ys:List PyData):Prop:=js.length=ys.length/\∀ (c:Nat) (y:PyData),ys[c]? = some y->∃ j,js[c]? = some j/\fs[j]? = some y
def eG(js:List Nat):PyData:=.tuple (js.map fun j:Nat=>.int (j:Int))
structure Fnd(S:Srch)(fs:List PyData):Prop where
 nd:fs.Nodup
 gd:∀ (i:Nat) (x:PyData),fs[i]? = some x->S.good i x
structure Rchd(S:Srch)(fs:List PyData)(gs:List (List Nat)):Prop where
 fnd:Fnd S fs
 len:gs.length=fs.length
 zer:fs[0]? = some S.x0
 row:∀ (i:Nat) (js:List Nat) (x:PyData),gs[i]? = some js->fs[i]? = some x->aI6 fs js (S.after x)
end Mc
namespace Mc
open PySem L2 PyProof.Rows Fl
noncomputable def adQ(fs:List PyData)(y:PyData):List PyData:=if y∈fs then fs else fs++[y]
noncomputable def adA(fs ys:List PyData):List PyData:=ys.foldl adQ fs
noncomputable def nrQ(fs:List PyData)(y:PyData):Nat:=fs.idxOf y
theorem kQ{fs:List PyData}{y:PyData}(h:y∈fs):adQ fs y=fs:=if_pos h
theorem jK{fs:List PyData}{y:PyData}(h:y∉fs):adQ fs y=fs++[y]:=if_neg h
theorem nK(fs:List PyData)(y:PyData):fs <+: adQ fs y:=by
 by_cases h:y∈fs
 · rw [kQ h]; exact List.prefix_refl _
 · rw [jK h]; exact List.prefix_append ..
theorem qF(fs:List PyData)(y:PyData):y∈adQ fs y:=by
 by_cases h:y∈fs
 · rw [kQ h]; exact h
 · rw [jK h]; simp
theorem aHN{fs:List PyData}{y:PyData}(h:fs.Nodup):(adQ fs y).Nodup:=by
 by_cases q:y∈fs
 ·rw[kQ q];exact h
 ·rw[jK q,List.nodup_append]
  exact ⟨h,by simp,fun a ha b hb=>by rw[List.mem_singleton.mp hb];rintro rfl;exact q ha⟩
theorem aEL(fs:List PyData)(y:PyData):(adQ fs y).length<=fs.length+1:=by
 by_cases q:y∈fs
 · rw [kQ q]; omega
 · rw [jK q]; simp
theorem aBP(fs ys:List PyData)(y:PyData):adA fs (ys++[y])=adQ (adA fs ys) y:=by unfold adA;rw[List.foldl_append];rfl
theorem qG(ys:List PyData):∀ fs:List PyData,fs <+: adA fs ys:=by
 induction ys with
 | nil=>exact fun fs=>List.prefix_refl _
 | cons y t ih=>exact fun fs=>(nK fs y).trans (ih _)
theorem uG(ys:List PyData):∀ {fs:List PyData},fs.Nodup->(adA fs ys).Nodup:=by
 induction ys with
 | nil=>exact fun h=>h
 | cons y t ih=>exact fun h=>ih (aHN h)
theorem nL(ys:List PyData):∀ {fs:List PyData} {y:PyData},y∈ys->y∈adA fs ys:=by
 induction ys with
 | nil=>intro fs y h;cases h
 | cons x t ih=>
  intro fs y h
  rcases List.mem_cons.mp h with rfl|h
  · exact (qG t _).subset (qF fs y)
  · exact ih h
theorem aEM(ys:List PyData):∀ fs:List PyData,(adA fs ys).length<=fs.length+ys.length:=by
 induction ys with
 | nil=>intro fs;exact Nat.le_refl _
 | cons x t ih=>
  intro fs
  have h1:=ih (adQ fs x)
  have h2:=aEL fs x
  show (adA (adQ fs x) t).length<=fs.length+(t.length+1)
  omega
theorem v9{fs fs':List PyData}{y:PyData}(h:fs <+: fs')(hy:y∈fs):nrQ fs' y=nrQ fs y:=by
 obtain ⟨t,rfl⟩:=h
 unfold nrQ
 rw[List.idxOf_append,if_pos hy]
theorem uH{fs:List PyData}{y:PyData}(hy:y∈fs):fs[nrQ fs y]? = some y:=by
 have h:nrQ fs y < fs.length:=List.idxOf_lt_length_of_mem hy
 rw[List.getElem?_eq_getElem h]
 exact congrArg some (List.getElem_idxOf h)
theorem aI7{α:Type}{xs:List α}(h:xs.Nodup){i j:Nat}{x:α}(h1:xs[i]? = some x)(h2:xs[j]? = some x):i=j:=by
 obtain ⟨l1,e1⟩:=List.getElem?_eq_some_iff.mp h1
 obtain ⟨l2,e2⟩:=List.getElem?_eq_some_iff.mp h2
 rcases Nat.lt_trichotomy i j with q|q|q
 · exact absurd (e1.trans e2.symm) (List.pairwise_iff_getElem.mp h i j l1 l2 q)
 · exact q
 · exact absurd (e2.trans e1.symm) (List.pairwise_iff_getElem.mp h j i l2 l1 q)
theorem aEN{fs:List PyData}{y:PyData}(h:fs.Nodup)(hy:y∈fs):dW (fM fs) y=some (.int (nrQ fs y:Int)):=by
 obtain ⟨i,h1,h2⟩:=aEK hy
 rw[h1,aI7 h h2 (uH hy)]
structure Sq where
 after:PyData->List PyData
 x0:PyData
 stop:List PyData->Nat->Bool
 k1:Nat
 k2:Nat
 G:List PyData->R PyData
 D:List PyData->R PyData
noncomputable def bfQ(after:PyData->List PyData)(x0:PyData):Nat->List PyData
 | 0=>[x0]
 | n+1=>match (bfQ after x0 n)[n]? with
  | some x=>adA (bfQ after x0 n) (after x)
  | none=>bfQ after x0 n
theorem jT{after:PyData->List PyData}{x0 x:PyData}{n:Nat}(h:(bfQ after x0 n)[n]? = some x):bfQ after x0 (n+1)=adA (bfQ after x0 n) (after x):=by rw[bfQ,h]
theorem jU(after:PyData->List PyData)(x0:PyData)(n:Nat):bfQ after x0 n <+: bfQ after x0 (n+1):=by
 rw[bfQ]
 split
 · exact qG _ _
 · exact List.prefix_refl _
theorem kR{after:PyData->List PyData}{x0:PyData}{m n:Nat}(h:m<=n):bfQ after x0 m <+: bfQ after x0 n:=by
 obtain ⟨k,rfl⟩:=Nat.le.dest h
 clear h
 induction k with
 | zero=>exact List.prefix_refl _
 | succ k ih=>exact ih.trans (jU after x0 (m+k))
theorem aHO(after:PyData->List PyData)(x0:PyData)(n:Nat):(bfQ after x0 n).Nodup:=by
 induction n with
 | zero=>simp[bfQ]
 | succ n ih=>
  rw[bfQ]
  split
  · exact uG _ ih
  · exact ih
theorem uI(after:PyData->List PyData)(x0:PyData)(n:Nat):(bfQ after x0 n)[0]? = some x0:=by
 obtain ⟨t,e⟩:=kR (after:=after) (x0:=x0) (Nat.zero_le n)
 rw[<-e];rfl
theorem uJ{α:Type}{f g:List α}{i:Nat}{x:α}(h:f <+: g)(e:f[i]? = some x):g[i]? = some x:=by
 obtain ⟨t,rfl⟩:=h
 rw[List.getElem?_append_left (List.getElem?_eq_some_iff.mp e).1]
 exact e
theorem rP{α:Type}{f g:List α}{i:Nat}{x:α}(h:f <+: g)(hi:i < f.length)(e:g[i]? = some x):f[i]? = some x:=by
 obtain ⟨t,rfl⟩:=h
 rwa [List.getElem?_append_left hi] at e
noncomputable def qH(after:PyData->List PyData)(fs:List PyData)(x:PyData):PyData:=eG ((after x).map (nrQ fs))
noncomputable def d7(after:PyData->List PyData)(fs:List PyData)(n:Nat):List PyData:=(fs.take n).map (qH after fs)
structure Sq.ok(S:Sq)(N:Nat):Prop where
 on:∀ m,m < N->m < (bfQ S.after S.x0 m).length/\S.stop (bfQ S.after S.x0 m) m=false
 off:(bfQ S.after S.x0 N).length<=N\/S.stop (bfQ S.after S.x0 N) N=true
 key:(∀ x∈bfQ S.after S.x0 N,i7 x=true)\/(∀ x∈bfQ S.after S.x0 N,kD x=true)
 len:(bfQ S.after S.x0 N).length<=16000000
 hk1:S.k1<=12
 hk2:S.k2<=12
 hG:∀ m x,m < N->(bfQ S.after S.x0 N)[m]? = some x->(∃ d,S.G [x]=.ok d/\c6 d=.ok (S.after x))/\(S.after x).length<=1000
 hD:∀ m,m<=N->m < (bfQ S.after S.x0 m).length->S.D [.list (bfQ S.after S.x0 m),.int (m:Int)]=.ok (.bool (S.stop (bfQ S.after S.x0 m) m))
theorem aCO{B:List PyData}(h:(∀ x∈B,i7 x=true)\/(∀ x∈B,kD x=true)){y:PyData}{fs:List PyData}(hy:y∈B)(hf:∀ x∈fs,x∈B):b9 y ((fM fs).map (·.1))=true:=by
 unfold b9
 rw[oJ,Bool.or_eq_true,Bool.and_eq_true,Bool.and_eq_true,List.all_eq_true,List.all_eq_true]
 exact h.imp (fun h=>⟨h y hy,fun x hx=>h x (hf x hx)⟩) (fun h=>⟨h y hy,fun x hx=>h x (hf x hx)⟩)
noncomputable def rqρ(S:Sq)(fs:List PyData)(gs:List PyData)(u v:Option A):Sg:=[some (.d S.x0),some (.g S.k1 1 S.G),some (.g S.k2 2 S.D),some (.l fs),some (.m (fM fs)),some (.l gs),u,v]
theorem aHP{S:Sq}{B fs ys gs:List PyData}{v:Option A}(hB:(∀ x∈B,i7 x=true)\/(∀ x∈B,kD x=true))(hl:B.length<=16000000)(nd:fs.Nodup)(hp:adA fs ys <+: B)(hy:ys.length<=1000) :
  ∃ v',i9 (stN 7) rhF ys (rqρ S fs gs (some (.l [])) v)=.ok (.nx (rqρ S (adA fs ys) gs (some (.l ((ys.map (nrQ (adA fs ys))).map fun j:Nat=>.int (j:Int)))) v')):=by
 obtain ⟨ρ',q1,v',q2⟩:=jS (fs:=stN 7) (fb:=rhF) (d:=id) (xs:=ys) (ρ:=rqρ S fs gs (some (.l [])) v)
  (fun i ρ=>∃ v',ρ=rqρ S (adA fs (ys.take i)) gs (some (.l (((ys.take i).map (nrQ (adA fs (ys.take i)))).map fun j:Nat=>.int (j:Int)))) v') ⟨v,rfl⟩ fun i y ρ hi zz0=>by
  obtain ⟨v',e⟩:=zz0
  have ht:ys.take (i+1)=ys.take i++[y]:=by rw[List.take_add_one,hi];rfl
  have hil:=(List.getElem?_eq_some_iff.mp hi).1
  have hpi:adA fs (ys.take (i+1)) <+: B:=by
   refine List.IsPrefix.trans ?_ hp
   have:adA fs ys=adA (adA fs (ys.take (i+1))) (ys.drop (i+1)):=by
    unfold adA;rw[<-List.foldl_append,List.take_append_drop]
   rw[this];exact qG _ _
  have nd1:(adA fs (ys.take i)).Nodup:=uG _ nd
  have nd2:(adA fs (ys.take (i+1))).Nodup:=uG _ nd
  have hm2:∀ x∈ys.take (i+1),x∈adA fs (ys.take (i+1)):=fun x hx=>nL _ hx
  rw[ht] at hpi nd2 hm2
  rw[ht,aBP] at *
  generalize hF:adA fs (ys.take i)=F at *
  have hyB:y∈B:=hpi.subset (qF F y)
  have hFB:∀ x∈F,x∈B:=fun x hx=>hpi.subset ((nK F y).subset hx)
  have hlen:F.length < 16777216:=by
   have h1:=hpi.length_le
   have h2:=(nK F y).length_le
   omega
  have s1:=aCO hB hyB hFB
  have s2:=aCO hB hyB (fs:=adQ F y) (fun x hx=>hpi.subset hx)
  have g2:=aEN nd2 (qF F y)
  have hil2:(fM F).length<=16777216:=by rw[aEI];omega
  have hmF:∀ x∈ys.take i,x∈F:=fun x hx=>by rw[<-hF];exact nL _ hx
  have hrow:(ys.take i++[y]).map (nrQ (adQ F y))=(ys.take i).map (nrQ F)++[nrQ (adQ F y) y]:=by
   rw[List.map_append,List.map_singleton]
   congr 1
   exact List.map_congr_left fun x hx=>v9 (nK F y) (hmF x hx)
  have htl:(ys.take i).length < 16777216:=by rw[List.length_take];omega
  rw[hrow]
  refine ⟨rqρ S F gs (some (.l (((ys.take i).map (nrQ F)).map fun j:Nat=>.int (j:Int)))) (some (.d y)),_,by rw[e];simp[rqρ],.inl ?_,some (.d y),rfl⟩
  have hl3:dLen (.list F)=.ok (.int (F.length:Int)):=iA _
  have htl2:min i ys.length < 16777216:=by rw[List.length_take] at htl;exact htl
  by_cases hm:y∈F
  ·have a1:=v8.mpr hm
   rw[kQ hm] at s2 g2 ⊢
   simp[rhF,rqρ,s1,a1,g2,htl2]
  ·have a1:=uF hm
   have a2:=aEJ hm
   rw[jK hm] at s2 g2 ⊢
   simp[rhF,rqρ,s1,s2,a1,a2,g2,hl3,hil2,hlen,htl2]
 rw[List.map_id] at q1
 rw[List.take_length] at q2
 exact ⟨v',by rw[q1,q2]⟩
theorem Sq.ok.le{S:Sq}{N:Nat}(O:S.ok N){m:Nat}(h:m<=N):bfQ S.after S.x0 m <+: bfQ S.after S.x0 N:=kR h
theorem wA{S:Sq}{N m:Nat}(O:S.ok N)(h:m<=N){gs:List PyData}(hg:gs.length=m){u v:Option A}:rhT (rqρ S (bfQ S.after S.x0 m) gs u v)=.ok (decide (m < N)):=by
 have k2:=O.hk2
 subst hg
 by_cases hl:gs.length < (bfQ S.after S.x0 gs.length).length
 ·have hd:=O.hD _ h hl
  have hs:S.stop (bfQ S.after S.x0 gs.length) gs.length = !decide (gs.length < N):=by
   by_cases q:gs.length < N
   ·rw[(O.on _ q).2,decide_eq_true q];rfl
   ·have e:gs.length=N:=by omega
    rcases O.off with z|z
    · rw [e] at hl; omega
    · rw [decide_eq_false q, e]; exact z
  rw[hs] at hd
  simp[rhT,rqρ,iA,hl,k2,hd,nG]
 ·have:¬ gs.length < N:=fun q=>hl (O.on _ q).1
  simp[rhT,rqρ,iA,hl,this]
theorem aEO{S:Sq}{N m:Nat}(O:S.ok N)(h:m < N){gs:List PyData}(hg:gs.length=m){u v:Option A}:∃ x u' v',(bfQ S.after S.x0 m)[m]? = some x/\rhB (rqρ S (bfQ S.after S.x0 m) gs u v)=.ok (.nx (rqρ S (bfQ S.after S.x0 (m+1)) (gs++[qH S.after (bfQ S.after S.x0 (m+1)) x]) u' v')):=by
 have hlt:=(O.on m h).1
 have hx:(bfQ S.after S.x0 m)[m]? = some (bfQ S.after S.x0 m)[m]:=List.getElem?_eq_getElem hlt
 generalize (bfQ S.after S.x0 m)[m]=x at hx
 have k1:=O.hk1
 obtain ⟨⟨d,g1,g2⟩,g3⟩:=O.hG m x h (uJ (O.le (by omega)) hx)
 have e:=jT hx
 have hp:adA (bfQ S.after S.x0 m) (S.after x) <+: bfQ S.after S.x0 N:=by rw[<-e];exact O.le (by omega)
 obtain ⟨v',q⟩:=aHP (S:=S) (gs:=gs) (v:=v) O.key O.len (aHO S.after S.x0 m) hp g3
 rw[<-e] at q
 have ix:dIx (.list (bfQ S.after S.x0 m)) (.int (m:Int))=.ok x:=lR (d4 hx)
 have hml:gs.length < 16777216:=by have:=(O.le (show m<=N by omega)).length_le;have:=O.len;omega
 have hyl:(S.after x).length<=16777216:=by omega
 refine ⟨x,some (.l (((S.after x).map (nrQ (bfQ S.after S.x0 (m+1)))).map fun j:Nat=>.int (j:Int))),v',hx,?_⟩
 subst hg
 simp only[rqρ] at q
 simp[rhB,rqρ,iA,ix,k1,g1,g2,q,hml,qH,eG,hyl]
theorem aEP{S:Sq}{N:Nat}(O:S.ok N):∀ (k m:Nat) (u v:Option A),m+k=N->
  ∃ u' v',bK rhT rhB (rqρ S (bfQ S.after S.x0 m) (d7 S.after (bfQ S.after S.x0 m) m) u v)=.ok (.nx (rqρ S (bfQ S.after S.x0 N) (d7 S.after (bfQ S.after S.x0 N) N) u' v')):=by
 have hrl:∀ m,m<=N->(∀ m',m' < m->m' < (bfQ S.after S.x0 m').length)->m<=(bfQ S.after S.x0 m).length:=fun m hm h=>by
  cases m with
  | zero=>omega
  | succ m=>have h1:=h m (by omega);have h2:=(jU S.after S.x0 m).length_le;omega
 intro k
 induction k with
 | zero=>
  intro m u v hm
  have hm:m=N:=by omega
  subst hm
  have hle:=hrl m (by omega) fun m' h=>(O.on m' h).1
  have hg:(d7 S.after (bfQ S.after S.x0 m) m).length=m:=by unfold d7;rw[List.length_map,List.length_take];omega
  rw[eW (by rw[wA O (Nat.le_refl m) hg,decide_eq_false (by omega)])]
  exact ⟨u,v,rfl⟩
 | succ k ih=>
  intro m u v hm
  have hlt:m < N:=by omega
  have hle:=hrl m (by omega) fun m' h=>(O.on m' (by omega)).1
  have hg:(d7 S.after (bfQ S.after S.x0 m) m).length=m:=by unfold d7;rw[List.length_map,List.length_take];omega
  obtain ⟨x,u',v',hx,q⟩:=aEO O hlt hg (u:=u) (v:=v)
  rw[iZ (by rw[wA O (by omega) hg,decide_eq_true hlt]) q]
  have e:d7 S.after (bfQ S.after S.x0 m) m++[qH S.after (bfQ S.after S.x0 (m+1)) x]=d7 S.after (bfQ S.after S.x0 (m+1)) (m+1):=by
   unfold d7
   have ht:(bfQ S.after S.x0 (m+1)).take (m+1)=(bfQ S.after S.x0 m).take m++[x]:=by
    obtain ⟨t,et⟩:=jU S.after S.x0 m
    have hml:=(List.getElem?_eq_some_iff.mp hx).1
    rw[<-et,List.take_append_of_le_length (by omega),List.take_add_one,hx];rfl
   rw[ht,List.map_append,List.map_singleton]
   congr 1
   refine List.map_congr_left fun y hy=>?_
   unfold qH
   congr 1
   refine List.map_congr_left fun z hz=>?_
   obtain ⟨j,hj⟩:=List.getElem?_of_mem hy
   have hjl:j < m:=by
    have:=(List.getElem?_eq_some_iff.mp hj).1
    rw[List.length_take] at this;omega
   rw[List.getElem?_take,if_pos hjl] at hj
   refine (v9 (jU S.after S.x0 m) ?_).symm
   have hj2:(bfQ S.after S.x0 j)[j]? = some y:=rP (O.le (by omega)) ((O.on j (by omega)).1) (uJ (O.le (by omega)) hj)
   have:=nL (fs:=bfQ S.after S.x0 j) _ hz
   rw[<-jT hj2] at this
   exact (kR (by omega)).subset this
  rw[e]
  exact ih (m+1) u' v' (by omega)
theorem aKT{S:Sq}{N:Nat}(O:S.ok N):g7 [.d S.x0,.g S.k1 1 S.G,.g S.k2 2 S.D]=.ok (.d (.tuple [.list (bfQ S.after S.x0 N),.list (d7 S.after (bfQ S.after S.x0 N) N)])):=by
 obtain ⟨u,v,q⟩:=aEP O N 0 none none (by omega)
 have h0:=List.mem_of_getElem? (uI S.after S.x0 N)
 have hs:b9 S.x0 []=true:=by
  unfold b9
  rw[Bool.or_eq_true,Bool.and_eq_true,Bool.and_eq_true]
  exact O.key.imp (fun h=>⟨h _ h0,rfl⟩) (fun h=>⟨h _ h0,rfl⟩)
 have hi:fM [S.x0]=[(S.x0,.int 0)]:=rfl
 have hp:Fl.fW [] [(S.x0,.int 0)]=.ok [(S.x0,.int 0)]:=by simp[Fl.fW,hs,putM,cS,dW]
 unfold g7
 rw[aHM]
 simp only[rqρ,bfQ,d7,List.take_zero,hi,List.map_nil] at q
 simp[hp,q,d7]
end Mc
namespace Mc
open PySem L2 PyProof.Rows Fl
noncomputable def wT:Sg->R Bool:=(mG (e1 asB (eA (a9 1 cX (aA (vV 2) aF)))))
noncomputable def wB:Sg->R Fw:=(aL (sIf (e1 asB (lL false 3 (eV 2))) (bJ (vD (eC (.str "ever")))) sNx)
 (aL (j7 3 (eV 2) (eC (.bool true)))
 (aL (bF 4 (vD (e2 dIx (e2 dIx (rV 0) (rV 2)) (eC (.int 2)))))
 (bF 2 (vD (eIf (e1 asB (eA (a9 1 cX (aA (vV 4) aF)))) (eV 4) (e2 dIx (e2 dIx (rV 1) (eC (.int 1))) (rV 4))))))))
theorem aHQ:jA=aL (bF 2 (vD (e2 dIx (rV 1) (eC (.int 0))))) (aL (nF 3) (aL (bK wT wB) (bJ (vV 2)))):=id rfl
noncomputable def wρ(rs:List Rw)(f:Tn)(bk:List Tn)(t:Tn)(ps:List Int)(u:Option A):Sg:=[some (.d (bM rs)),some (.d (fC f bk)),some (.d t.d),some (.m (been PyData.int ps)),u]
theorem aBQ{rs:List Rw}{f:Tn}{bk:List Tn}{x:Str}{ps:List Int}{u:Option A}:wT (wρ rs f bk (.w x) ps u)=.ok false:=by
 simp[wT,wρ,Tn.d,qD]
theorem aBR{rs:List Rw}{f:Tn}{bk:List Tn}{q:Int}{ps:List Int}{u:Option A}:wT (wρ rs f bk (.n q) ps u)=.ok true:=by
 simp[wT,wρ,Tn.d,qB]
theorem aHR{rs:List Rw}{f:Tn}{bk:List Tn}{q:Int}{ps:List Int}{u:Option A}(h:q∈ps):wB (wρ rs f bk (.n q) ps u)=.ok (.rt (.d (.str "ever"))):=by
 have h1:=gC ps q
 have h2:=(oG fJ).mpr h
 simp[wB,wρ,Tn.d,h1,h2]
theorem aKU{rs:List Rw}{f:Tn}{bk:List Tn}{q:Int}{ps:List Int}{u:Option A}{x:Str}(h:q∉ps)(rv:cB rs q)(hp:ps.length<=16777216)(e:(aN rs q).r=.w x):wB (wρ rs f bk (.n q) ps u)=.ok (.nx (wρ rs f bk (.w x) (ps++[q]) (some (.d (.str x))))):=by
 have h1:=gC ps q
 have h2:=i3 fJ h
 have h3:=oH fJ h
 have h4:(been PyData.int ps).length<=16777216:=by rw[lS];exact hp
 have hr:=zZ rv.1 rv.2
 simp[wB,wρ,Tn.d,h1,h2,h3,h4,hr,cG,e,qD]
theorem aKV{rs:List Rw}{f:Tn}{bk:List Tn}{q q':Int}{ps:List Int}{u:Option A}(h:q∉ps)(rv:cB rs q)(hp:ps.length<=16777216)(e:(aN rs q).r=.n q')(h0:0<=q')(hl:q' < (bk.length:Int)):wB (wρ rs f bk (.n q) ps u)=.ok (.nx (wρ rs f bk (bkF bk q') (ps++[q]) (some (.d (.int q'))))):=by
 have h1:=gC ps q
 have h2:=i3 fJ h
 have h3:=oH fJ h
 have h4:(been PyData.int ps).length<=16777216:=by rw[lS];exact hp
 have hr:=zZ rv.1 rv.2
 have hb:=aCN h0 hl
 simp[wB,wρ,Tn.d,h1,h2,h3,h4,hr,cG,e,qB,fC,hb]
theorem lV{rs:List Rw}{sg:Nat}(M:Mach rs sg){q q':Int}(rv:cB rs q)(e:(aN rs q).r=.n q'):0<=q'/\q' < (rs.length:Int):=by
 have hr:=List.mem_of_getElem? (dO rv.1 rv.2)
 have:=(M.row _ hr).1.2.1
 rw[e] at this
 exact this
theorem aEQ{rs:List Rw}{sg:Nat}{f:Tn}{bk:List Tn}(M:Mach rs sg)(hb:bk.length=rs.length)(hv:∀ t∈bk,tnV rs.length t){q0:Int}:∀ (n:Nat) (ps:List Int) (q:Int) (u:Option A),Und2 (dM rs (bkF bk)) q0 ps q->(∀ p∈ps,cB rs p)->cB rs q->rs.length+1<=ps.length+n->
  aL (bK wT wB) (bJ (vV 2)) (wρ rs f bk (.n q) ps u)=.ok (.rt (.d (.str ((bA (dM rs (bkF bk)) q0).getD d3)))):=by
 intro n
 induction n with
 | zero=>
  intro ps q u U pv rv hn
  have:=nJ U.nd pv
  omega
 | succ n ih=>
  intro ps q u U pv rv hn
  rw[fH]
  by_cases hs:q∈ps
  ·rw[mQ aBR (aHR hs),U.met hs];rfl
  ·have hl:ps.length<=rs.length:=nJ U.nd pv
   have hp:ps.length<=16777216:=by have:=M.len2;omega
   cases e:(aN rs q).r with
   | w x=>
    have st:dM rs (bkF bk) q=some (.inr x):=by unfold dM;rw[e]
    rw[iZ aBR (aKU hs rv hp e),eW aBQ,U.outs st]
    simp[wρ,Tn.d]
   | n q'=>
    obtain ⟨g1,g2⟩:=lV M rv e
    rw[iZ aBR (aKV hs rv hp e g1 (by rw[hb];exact g2))]
    have gd:=nI hv q'
    cases e2:bkF bk q' with
    | w x=>
     have st:dM rs (bkF bk) q=some (.inr x):=by unfold dM;rw[e];simp only;rw[e2]
     rw[eW aBQ,U.outs st]
     simp[wρ,Tn.d]
    | n r=>
     rw[e2] at gd
     have st:dM rs (bkF bk) q=some (.inl r):=by unfold dM;rw[e];simp only;rw[e2]
     have:=ih (ps++[q]) r (some (.d (.int q'))) (U.next hs st) (fun p hp=>by
      rcases List.mem_append.mp hp with z|z
      · exact pv p z
      · rw [List.mem_singleton.mp z]; exact rv) gd (by rw [List.length_append, List.length_singleton]; omega)
     rw[fH] at this
     exact this
theorem aI8{rs:List Rw}{sg:Nat}{f:Tn}{bk:List Tn}(M:Mach rs sg)(hb:bk.length=rs.length)(hv:∀ t∈bk,tnV rs.length t)(hf:tnV rs.length f):dD [.d (bM rs),.d (fC f bk)]=.ok (.d (.str (wbR rs (bkF bk) f))):=by
 have i0:dIx (fC f bk) (.int 0)=.ok f.d:=rfl
 have key:aL (bK wT wB) (bJ (vV 2)) (wρ rs f bk f [] none)=.ok (.rt (.d (.str (wbR rs (bkF bk) f)))):=by
  cases f with
  | w x=>
   rw[fH,eW aBQ]
   simp[wρ,Tn.d,wbR]
  | n q=>exact aEQ M hb hv (rs.length+1) [] q none Und2.start (fun p hp=>by simp at hp) hf (by simp)
 unfold dD
 rw[aHQ]
 rw[fH] at key
 simp only[wρ,been,List.map_nil] at key
 simp only[zU,fH,tY,aEC,aI0,aIY,aIZ,aIX,List.getElem?_cons_zero,List.getElem?_cons_succ,i0,R.bind_ok,List.length_cons,List.length_nil,Nat.reduceAdd,List.map_cons,List.map_nil,List.cons_append,List.nil_append,List.replicate,List.set_cons_zero,List.set_cons_succ,key]
theorem aBS{rs:List Rw}{sg:Nat}(M:Mach rs sg){bk bk':Int->Tn}(h:∀ q,cB rs q->bk q=bk' q)(hg:∀ q,cB rs q->tnV rs.length (bk q)){t:Tn}(ht:tnV rs.length t):wbR rs bk t=wbR rs bk' t:=by
 cases t with
 | w x=>rfl
 | n q=>
  have st:∀ q,cB rs q->dM rs bk q=dM rs bk' q:=fun q rv=>by
   unfold dM
   cases e:(aN rs q).r with
   | w x=>rfl
   | n q'=>simp only;rw[h q' (lV M rv e)]
  have nx:∀ q q',cB rs q->dM rs bk q=some (.inl q')->cB rs q':=fun q q' rv e=>by
   unfold dM at e
   cases e2:(aN rs q).r with
   | w x=>rw[e2] at e;cases e
   | n r=>
    rw[e2] at e
    simp only at e
    have gd:=hg _ (lV M rv e2)
    split at e
    · rename_i r' er; cases e; rw [er] at gd; exact gd
    · cases e
  have a1:∀ n q o,cB rs q->Ex (dM rs bk) n q o->Ex (dM rs bk') n q o:=by
   intro n q o rv hx
   induction hx with
   | @out q o e=>exact .out (by rw[<-st q rv];exact e)
   | @go q q' o n e t ih=>exact .go (by rw[<-st q rv];exact e) (ih (nx q q' rv e))
  have a2:∀ n q o,cB rs q->Ex (dM rs bk') n q o->Ex (dM rs bk) n q o:=by
   intro n q o rv hx
   induction hx with
   | @out q o e=>exact .out (by rw[st q rv];exact e)
   | @go q q' o n e t ih=>
    have e':dM rs bk q=some (.inl q'):=by rw[st q rv];exact e
    exact .go e' (ih (nx q q' rv e'))
  show (bA (dM rs bk) q).getD d3=(bA (dM rs bk') q).getD d3
  rw[nR (st:=dM rs bk) (st':=dM rs bk') (s:=q) (s':=q) fun o=>⟨fun ⟨n,x⟩=>⟨n,a1 n q o ht x⟩,fun ⟨n,x⟩=>⟨n,a2 n q o ht x⟩⟩]
theorem aHS{rs:List Rw}{sg:Nat}{z:List Nat}(M:Mach rs sg)(S:bH sg z):dD [.d (bM rs),.d (aV rs z)]=.ok (.d (.str (gM rs z))):=by
 have hl:((List.range rs.length).map fun q:Nat=>begB rs z (q:Int)).length=rs.length:=by simp
 have hv:∀ t∈(List.range rs.length).map fun q:Nat=>begB rs z (q:Int),tnV rs.length t:=fun t ht=>by
  obtain ⟨q,hq,rfl⟩:=List.mem_map.mp ht
  exact iL M S (xR (List.mem_range.mp hq))
 unfold aV
 rw[aI8 M hl hv (iL M S (oI M z)),aBS M (fun q rv=>qE rv) (fun q rv=>nI hv q) (iL M S (oI M z)),<-uA M S]
 rfl
end Mc
namespace Mc
open PySem L2 PyProof.Rows Fl
theorem z5{rs:List Rw}{sg:Nat}{z:List Nat}(M:Mach rs sg)(S:bH sg z){s:Int×Int}(V:lU rs z s):(dZ rs z s).ok:=by
 have hev:(Tn.w d3).ok:=by show PyData.strOk d3=true;decide +kernel
 unfold dZ
 cases e:bA (cF rs z) s with
 | none=>exact hev
 | some t=>
  obtain ⟨n,h⟩:=eF e
  show t.ok
  clear e
  induction h with
  | @out s o h=>
   unfold cF at h
   rcases beg_cell M S V with ⟨x,e,h0⟩|⟨q,e,rv,h1,h2⟩
   ·rw[e] at h
    cases h
    have hr:=List.mem_of_getElem? (dO V.2.2.1 V.2.2.2)
    have:=((M.row _ hr).1.ok).1
    unfold bL at e
    rw[if_pos h0] at e
    simp only at e
    rw[e] at this
    exact this
   ·rw[e] at h
    simp only at h
    split at h
    · cases h
    · cases h; exact trivial
  | @go s s' o n h t ih=>
   refine ih ?_
   unfold cF at h
   rcases beg_cell M S V with ⟨x,e,h0⟩|⟨q,e,rv,h1,h2⟩
   ·rw[e] at h;cases h
   ·rw[e] at h
    simp only at h
    split at h
    · rename_i h3; cases h; exact ⟨h1, h3, rv⟩
    · cases h
theorem aER{rs:List Rw}{sg:Nat}{z:List Nat}(M:Mach rs sg)(S:bH sg z):(dZ rs z (0,0)).ok/\∀ t∈(List.range rs.length).map fun q:Nat=>begB rs z (q:Int),t.ok:=⟨z5 M S (oI M z),fun t ht=>by
 obtain ⟨q,hq,rfl⟩:=List.mem_map.mp ht
 exact z5 M S (xR (List.mem_range.mp hq))⟩
theorem oK:∀ {xs:List PyData},(∀ x∈xs,dS x=true)->dE xs=true
 | [],_=>rfl
 | x::t,h=>by
  show (dS x && dE t)=true
  rw[h x (List.mem_cons_self ..),oK fun y hy=>h y (List.mem_cons_of_mem _ hy)];rfl
theorem z6{t:Tn}(h:t.ok):dS t.d=true:=by
 cases t with
 | n i=>rfl
 | w x=>exact h
theorem aES{f:Tn}{bk:List Tn}(hf:f.ok)(hb:∀ t∈bk,t.ok):i7 (fC f bk)=true:=by
 have h1:dS (fC f bk)=true:=by
  show dE [f.d,.tuple (bk.map Tn.d)]=true
  refine oK fun x hx=>?_
  rcases List.mem_cons.mp hx with z|hx
  ·rw[z];exact z6 hf
  ·rw[List.mem_singleton.mp hx]
   show dE (bk.map Tn.d)=true
   refine oK fun x hx=>?_
   obtain ⟨c,hc,rfl⟩:=List.mem_map.mp hx
   exact z6 (hb c hc)
 have h2:Sh 3 (fC f bk):=by
  refine sh_tup fun x hx=>?_
  rcases List.mem_cons.mp hx with z|hx
  ·rw[z];exact aB8 _ hf
  ·rw[List.mem_singleton.mp hx]
   refine sh_tup fun x hx=>?_
   obtain ⟨c,hc,rfl⟩:=List.mem_map.mp hx
   exact aB8 _ (hb c hc)
 show (dS (fC f bk) && decide ((fC f bk).depth<=8))=true
 rw[h1,decide_eq_true (Nat.le_trans h2.2 (by decide))];rfl
noncomputable def uK(rs:List Rw)(x:PyData)(k:Nat):PyData:=match fB [.d x,.d (d0 rs k)] with
 | .ok (.d y)=>y
 | _=>.none
theorem qI{rs:List Rw}{sg k:Nat}{z:List Nat}(M:Mach rs sg)(S:bH sg z)(hk:k < sg):uK rs (aV rs z) k=aV rs (z++[97+k]):=by
 have:=uD M S (c:=97+k) (by unfold bR;exact decide_eq_true (by omega))
 rw[show 97+k - 97=k by omega] at this
 unfold uK
 rw[this]
theorem xT{sg k:Nat}{z:List Nat}(S:bH sg z)(hk:k < sg)(hl:z.length < 1000):bH sg (z++[97+k]):=⟨by simp;omega,fun c hc=>by
 rcases List.mem_append.mp hc with h|h
 · exact S.2 c h
 · rw [List.mem_singleton.mp h]; unfold bR; exact decide_eq_true (by omega)⟩
noncomputable def z7(rs:List Rw)(x:PyData):PyData:=match dD [.d (bM rs),.d x] with
 | .ok (.d y)=>y
 | _=>.none
theorem pG{rs:List Rw}{sg:Nat}{z:List Nat}(M:Mach rs sg)(S:bH sg z):z7 rs (aV rs z)=.str (gM rs z):=by
 unfold z7
 rw[aHS M S]
noncomputable def rfB:Sg->R Fw:=(bF 1 (vD (e2 dIx (e2 dIx (e2 dIx (rV 0) (eC (.int 0))) (rV 1)) (e2 mL (eC (.str "abc")) (rV 3)))))
end Mc
namespace Mc
open PySem L2 PyProof.Rows Fl
def tc(m:Nat):Tn->Nat
 | .n i=>i.toNat
 | .w x=>if x="by" then m else if x="out" then m+1 else m+2
structure Ctr(rs:List Rw)(sg p q:Nat):Prop where
 len:rs.length=p+1+q
 p1:1<=p
 p5:p<=5
 q1:1<=q
 q5:q<=5
 lef:(aN rs 0).l=.n 0
 mid:(aN rs (p:Int)).l=.n ((p:Int)+1)
 a:∀ i:Nat,i < p->∀ k,k < sg->ck k (aN rs (i:Int))=((((i+(if k=0 then 1 else 0)) % p:Nat):Int),1)
 b:∀ k,k < sg->ck k (aN rs (p:Int))=((p:Int),-1)
 c:∀ j:Nat,j < q->∀ k,k < sg->ck k (aN rs ((p+1+j:Nat):Int))=(((p+1+(j+(if k=sg - 1 then 1 else 0)) % q:Nat):Int),1)
end Mc
namespace Mb
open Classical
section
variable{τ:Type}(g:τ->Nat->τ)(t0:τ)(cs:List Nat)
variable{g t0 cs}
end
end Mb
namespace Mc
open PySem L2 PyProof.Rows Fl
end Mc
namespace Mc
open PySem L2 PyProof.Rows Fl
noncomputable def afW(rs:List Rw)(sg:Nat)(x:PyData):List PyData:=(List.range sg).map (uK rs x)
noncomputable def bfW(rs:List Rw)(sg n:Nat):List PyData:=bfQ (afW rs sg) (aV rs []) n
noncomputable def adZ(rs:List Rw)(zs:List (List Nat))(z:List Nat):List (List Nat):=if aV rs z∈zs.map (aV rs) then zs else zs++[z]
def sA(sg:Nat)(z:List Nat):List (List Nat):=(List.range sg).map fun k=>z++[97+k]
noncomputable def zsW(rs:List Rw)(sg:Nat):Nat->List (List Nat)
 | 0=>[[]]
 | n+1=>match (zsW rs sg n)[n]? with
  | some z=>(sA sg z).foldl (adZ rs) (zsW rs sg n)
  | none=>zsW rs sg n
theorem aET(rs:List Rw)(zs:List (List Nat))(z:List Nat):(adZ rs zs z).map (aV rs)=adQ (zs.map (aV rs)) (aV rs z):=by
 unfold adZ adQ
 split
 · rfl
 · rw [List.map_append]; rfl
theorem aBT(rs:List Rw)(l:List (List Nat)):∀ zs:List (List Nat),(l.foldl (adZ rs) zs).map (aV rs)=adA (zs.map (aV rs)) (l.map (aV rs)):=by
 induction l with
 | nil=>intro zs;rfl
 | cons z t ih=>intro zs;rw[List.foldl_cons,ih,aET];rfl
theorem adZ_mem{rs:List Rw}{zs:List (List Nat)}{z x:List Nat}(h:x∈adZ rs zs z):x∈zs\/x=z:=by
 unfold adZ at h
 split at h
 ·exact .inl h
 ·rcases List.mem_append.mp h with h|h
  · exact .inl h
  · exact .inr (List.mem_singleton.mp h)
theorem adZs_mem{rs:List Rw}{x:List Nat}(l:List (List Nat)):∀ {zs:List (List Nat)},x∈l.foldl (adZ rs) zs->x∈zs\/x∈l:=by
 induction l with
 | nil=>intro zs h;exact .inl h
 | cons z t ih=>
  intro zs h
  rcases ih (zs:=adZ rs zs z) h with h|h
  ·rcases adZ_mem h with h|h
   · exact .inl h
   · exact .inr (by rw [h]; exact List.mem_cons_self)
  ·exact .inr (List.mem_cons_of_mem _ h)
theorem uL{rs:List Rw}{sg:Nat}{z:List Nat}(M:Mach rs sg)(S:bH sg z):(sA sg z).map (aV rs)=afW rs sg (aV rs z):=by
 unfold sA afW
 rw[List.map_map]
 exact List.map_congr_left fun k hk=>(qI M S (List.mem_range.mp hk)).symm
structure ZsOk(rs:List Rw)(sg n:Nat)(zs:List (List Nat)):Prop where
 map:zs.map (aV rs)=bfW rs sg n
 ok:∀ z∈zs,bH sg z/\z.length<=n
theorem aEU{sg n:Nat}{z x:List Nat}(S:bH sg z)(hl:z.length<=n)(hn:n < 900)(h:x∈sA sg z):bH sg x/\x.length<=n+1:=by
 obtain ⟨k,hk,rfl⟩:=List.mem_map.mp h
 exact ⟨xT S (List.mem_range.mp hk) (by omega),by simp;omega⟩
theorem pH{rs:List Rw}{sg:Nat}(M:Mach rs sg):∀ n,n<=900->ZsOk rs sg n (zsW rs sg n):=by
 intro n
 induction n with
 | zero=>exact fun _=>⟨rfl,fun z hz=>by rw[List.mem_singleton.mp hz];exact ⟨⟨by simp,fun c hc=>by simp at hc⟩,by simp⟩⟩
 | succ n ih=>
  intro hn
  obtain ⟨h1,h2⟩:=ih (by omega)
  unfold bfW at h1
  have e:(bfQ (afW rs sg) (aV rs []) n)[n]? = ((zsW rs sg n)[n]?).map (aV rs):=by rw[<-h1,List.getElem?_map]
  cases q:(zsW rs sg n)[n]? with
  | none=>
   rw[q] at e
   refine ⟨?_,fun z hz=>?_⟩
   ·unfold bfW
    rw[zsW,bfQ,q,e];exact h1
   ·rw[zsW,q] at hz
    have:=h2 z hz
    exact ⟨this.1,by omega⟩
  | some z=>
   rw[q] at e
   have hz:=h2 z (List.mem_of_getElem? q)
   refine ⟨?_,fun x hx=>?_⟩
   ·unfold bfW
    rw[zsW,bfQ,q,e]
    simp only[Option.map_some]
    rw[aBT,h1,uL M hz.1]
   ·rw[zsW,q] at hx
    rcases adZs_mem _ hx with hx|hx
    ·have:=h2 x hx
     exact ⟨this.1,by omega⟩
    ·exact aEU hz.1 hz.2 (by omega) hx
structure EndW(rs:List Rw)(sg most N:Nat):Prop where
 on:∀ m,m < N->m < (bfW rs sg m).length/\(bfW rs sg m).length<=most
 off:(bfW rs sg N).length<=N\/most < (bfW rs sg N).length
theorem aBU{P:Nat->Prop}:∀ K:Nat,P K->∃ n,n<=K/\P n/\∀ m,m < n->¬ P m:=by
 intro K
 induction K using Nat.strongRecOn with
 | _ K ih=>
  intro h
  by_cases q:∃ m,m < K/\P m
  ·obtain ⟨m,h1,h2⟩:=q
   obtain ⟨n,a,b,c⟩:=ih m h1 h2
   exact ⟨n,by omega,b,c⟩
  ·exact ⟨K,Nat.le_refl _,h,fun m hm hp=>q ⟨m,hm,hp⟩⟩
theorem wC(rs:List Rw)(sg most:Nat):∃ N,N<=most/\EndW rs sg most N:=by
 obtain ⟨n,h1,h2,h3⟩:=aBU (P:=fun n=>(bfW rs sg n).length<=n\/most < (bfW rs sg n).length) most (by omega)
 exact ⟨n,h1,fun m hm=>by have:=h3 m hm;omega,h2⟩
theorem EndW.full{rs:List Rw}{sg most N:Nat}(E:EndW rs sg most N)(h:(bfW rs sg N).length<=most):(bfW rs sg N).length=N:=by
 rcases E.off with q|q
 ·cases N with
  | zero=>have:(bfW rs sg 0).length=1:=rfl;omega
  | succ n=>
   have h1:=(E.on n (by omega)).1
   have h2:(bfW rs sg n).length<=(bfW rs sg (n+1)).length:=(jU _ _ n).length_le
   omega
 ·omega
noncomputable def aKW(rs:List Rw)(sg:Nat):Sq where
 after:=afW rs sg
 x0:=aV rs []
 stop fs _:=decide (200 < fs.length)
 k1:=4
 k2:=1
 G:=hU 2 cT [.d (.list ((List.range sg).map (d0 rs)))]
 D:=hU 2 dQ []
theorem rQ{rs:List Rw}{sg n:Nat}(M:Mach rs sg)(hn:n<=900){x:PyData}(h:x∈bfW rs sg n):∃ z,bH sg z/\x=aV rs z:=by
 obtain ⟨h1,h2⟩:=pH M n hn
 rw[<-h1] at h
 obtain ⟨z,hz,rfl⟩:=List.mem_map.mp h
 exact ⟨z,(h2 z hz).1,rfl⟩
theorem z8{rs:List Rw}{sg:Nat}{z:List Nat}(M:Mach rs sg)(S:bH sg z):i7 (aV rs z)=true:=by
 obtain ⟨o1,o2⟩:=aER M S
 exact aES o1 o2
theorem wD{rs:List Rw}{sg most N:Nat}(M:Mach rs sg)(E:EndW rs sg most N)(hm:1<=most):(bfW rs sg N).length<=most+3:=by
 cases N with
 | zero=>show 1<=most+3;omega
 | succ n=>
  obtain ⟨h1,h2⟩:=E.on n (by omega)
  have hx:(bfQ (afW rs sg) (aV rs []) n)[n]? = some (bfQ (afW rs sg) (aV rs []) n)[n]:=List.getElem?_eq_getElem h1
  have h3:=aEM (afW rs sg (bfQ (afW rs sg) (aV rs []) n)[n]) (bfQ (afW rs sg) (aV rs []) n)
  rw[<-jT hx] at h3
  have h4:(afW rs sg (bfQ (afW rs sg) (aV rs []) n)[n]).length=sg:=by unfold afW;simp
  have:=M.sg3
  unfold bfW at h2 ⊢
  omega
theorem aEV{rs:List Rw}{sg N:Nat}(M:Mach rs sg)(E:EndW rs sg 200 N)(hN:N<=200):(aKW rs sg).ok N where
 on m h:=⟨(E.on m h).1,decide_eq_false (by have:=(E.on m h).2;unfold bfW at this;show ¬ 200 < (bfQ (afW rs sg) (aV rs []) m).length;omega)⟩
 off:=E.off.imp id fun h=>decide_eq_true h
 key:=.inl fun x hx=>by
  obtain ⟨z,S,rfl⟩:=rQ M (by omega) (show x∈bfW rs sg N from hx)
  exact z8 M S
 len:=by have:=wD M E (by omega);show (bfW rs sg N).length<=_;omega
 hk1:=by show 4<=12;decide
 hk2:=by show 1<=12;decide
 hG m x hm hx:=by
  obtain ⟨z,S,rfl⟩:=rQ M (show N<=900 by omega) (List.mem_of_getElem? hx)
  have hc:=eE (fs:=stN 0) (fe:=eA (a9 2 fB (aA (vV 1) (aA (vV 0) aF)))) (ρ0:=[none,some (.d (aV rs z))]) (d:=d0 rs) (g:=uK rs (aV rs z)) (xs:=List.range sg) fun k hk=>by
   refine ⟨_,rfl,?_⟩
   have hk:=List.mem_range.mp hk
   have:=uD M S (c:=97+k) (by unfold bR;exact decide_eq_true (by omega))
   rw[show 97+k - 97=k by omega,<-qI M S hk] at this
   simp[this]
  have hi:=oF (xs:=(List.range sg).map (d0 rs)) (by have:=M.sg3;simp;omega)
  have hl:(afW rs sg (aV rs z)).length=sg:=by unfold afW;simp
  have h3:=M.sg3
  refine ⟨⟨.list (afW rs sg (aV rs z)),?_,oF (by omega)⟩,by show (afW rs sg (aV rs z)).length<=_;omega⟩
  show hU 2 cT [.d (.list ((List.range sg).map (d0 rs)))] [aV rs z]=_
  unfold hU cT
  simp[hi,fA,hc,dOf]
  rfl
 hD m hm hl:=by
  show hU 2 dQ [] [.list (bfW rs sg m),.int (m:Int)]=.ok (.bool (decide (200 < (bfW rs sg m).length)))
  unfold hU dQ
  simp[iA,dOf]
  omega
noncomputable def xU(rs:List Rw)(sg N:Nat):PyData:=.tuple [.tuple (d7 (afW rs sg) (bfW rs sg N) N),.tuple ((zsW rs sg N).map fun z=>.str (gM rs z))]
theorem z9{rs:List Rw}{sg N:Nat}(M:Mach rs sg)(E:EndW rs sg 200 N)(hN:N<=200):bT [.d (bM rs)]=if 200 < (bfW rs sg N).length then .ex ⟨"TooMany",[]⟩ else .ok (.d (xU rs sg N)):=by
 have O:=aEV M E hN
 have e:=aKT O
 obtain ⟨r,t,hrs,hr⟩:=M.cons
 have hsg:c7 [.d (bM rs)]=.ok (.d (.int sg)):=by rw[hrs,qA,hr]
 have hrg:=fY (n:=sg) (by have:=M.sg3;omega)
 have hc:=aHK M [some (.d (bM rs)),none,none,none,none] rfl
 rw[show fA [none,some 0] [some (.d (bM rs)),none,none,none,none]=[none,some (.d (bM rs))] from rfl] at hc
 have hw:=aI5 M
 have Z:=pH M N (by omega)
 have hcw:=eE (fs:=stN 0) (fe:=eA (a9 2 dD (aA (vV 1) (aA (vV 0) aF)))) (ρ0:=[none,some (.d (bM rs))]) (d:=aV rs) (g:=fun z=>.str (gM rs z)) (xs:=zsW rs sg N) fun z hz=>by
  refine ⟨_,rfl,?_⟩
  have:=aHS M (Z.ok z hz).1
  simp[this]
 rw[Z.map] at hcw
 have hbl:=wD M E (by omega)
 have hif:=oF (xs:=bfW rs sg N) (by omega)
 have e:g7 [.d (aV rs []),.g 4 1 (hU 2 cT [.d (.list ((List.range sg).map (d0 rs)))]),.g 1 2 (hU 2 dQ [])]=.ok (.d (.tuple [.list (bfW rs sg N),.list (d7 (afW rs sg) (bfW rs sg N) N)])):=e
 generalize hgs:d7 (afW rs sg) (bfW rs sg N) N=gs at e
 have hgl:gs.length<=16777216:=by rw[<-hgs];unfold d7;rw[List.length_map,List.length_take];omega
 have i0:dIx (.tuple [.list (bfW rs sg N),.list gs]) (.int 0)=.ok (.list (bfW rs sg N)):=rfl
 have i1:dIx (.tuple [.list (bfW rs sg N),.list gs]) (.int 1)=.ok (.list gs):=rfl
 have hzl:(zsW rs sg N).length<=16777216:=by
  have:((zsW rs sg N).map (aV rs)).length<=16777216:=by rw[Z.map];omega
  rwa [List.length_map] at this
 by_cases h:200 < (bfW rs sg N).length
 ·have hn:(200:Int) < ((bfW rs sg N).length:Int):=by omega
  rw[if_pos h]
  unfold bT j9
  simp[hsg,hrg,hc,hw,r9,mM,pE,tW,fE,pC,e,dOf,i0,i1,iA,hn,p9,few,fA]
 ·have hn:¬ (200:Int) < ((bfW rs sg N).length:Int):=by omega
  rw[if_neg h]
  unfold bT j9 xU
  rw[hgs]
  simp[hsg,hrg,hc,hw,r9,mM,pE,tW,fE,pC,e,dOf,i0,i1,iA,hn,hif,fA,hcw]
end Mc
namespace Zp
open PySem L2
end Zp
namespace Fl
open PySem L2 PyProof.Rows
end Fl
namespace Zp
open PySem
structure Jk(s0:Heap)(d it S:Addr)(ar:Array DictEntry)(ep:Nat)(acc:Array Value)(h:Heap):Prop where
 size:acc.size<=ar.size
 told:acc.toList=(ar.toList.take acc.size).map (·.key)
 iter:h.IsKeyIter it d acc.size ar.size ep
 raw:Raw h d ar ep
 keep:∀ c o,c≠it->c≠S->s0.get? c=some o->h.get? c=some o
end Zp
namespace Zp
open PySem
end Zp
namespace Fl
open PySem L2 PyProof.Rows
def BxK(c:Ct)(E':XK)(σ:L2.St)(D:iB)(F H:Hp):R Unit->Prop
 | .bad=>False
 | .ok _=>∀ F' H',Ext F H F' H'->D.nx σ H'
 | .ex e=>∀ a C F' H',Ext F H F' H'->hJ c.K c.mg F' e a C->E' (.ref C) (some a) H'
theorem BxK.ext{c:Ct}{E':XK}{σ:L2.St}{D:iB}{F H F1 H1:Hp}(s:Ext F H F1 H1):∀ {r:R Unit},BxK c E' σ D F H r->BxK c E' σ D F1 H1 r
 | .bad,h=>h
 | .ok _,h=>fun F' H' e=>h F' H' (s.trans e)
 | .ex _,h=>fun a C F' H' e=>h a C F' H' (s.trans e)
def PBx(Y:Cx)(c:Ct)(body:List Stmt)(g:Sg->R Unit):Prop:=∀ (s:Shared) (σ:L2.St) (H:Hp) (D:iB) (E':XK) (ρ:Sg) (F:Hp),Inv (Y.flyS σ E') [] σ H s->Ab c ρ σ F H->BxK c E' σ D F H (g ρ)->
 wpAny (model Y.prog Y.w) Y.A (execs body Y.env) (fun f s1=>SP (Y.flyS σ E') [] D f s1) (tN Y σ E') s
def kY:Sg->R Unit:=fun _=>.ok ()
def jD(n:Nat)(G:List A->R A)(f:Sg->R (List A))(g:Sg->R Unit):Sg->R Unit:=fun ρ=>match f ρ with
 | .ok as=>if as.length=n then (match G as with
  | .bad=>.bad
  | .ok _=>g ρ
  | .ex e=>.ex e) else .bad
 | _=>.bad
def gIf(ft:Sg->R Bool)(n:Nat)(G:List A->R A)(f:Sg->R (List A))(g:Sg->R Unit):Sg->R Unit:=fun ρ=>match ft ρ with
 | .ok true=>jD n G f g ρ
 | .ok false=>g ρ
 | _=>.bad
section
variable{Y:Cx}{c:Ct}{E:XK}
theorem aAA:PBx Y c [] kY:=fun s σ H D E' ρ F I ab h=>wpAny_execs_nil ⟨σ,H,I,h F H (Ext.refl ab.fh)⟩
theorem aEW{n:Nat}{G:List A->R A}{f:Sg->R (List A)}{g:Sg->R Unit}{call:Expr}{ep:Pos}{rest:List Stmt}(hK:Y.K=c.K)(hM:Y.mg=c.mg)(hc:∀ σ E',PCl Y σ E' call (m5 (spF c.g Y.K Y.mg n G) [] E' (tAv c E f)))(hr:PBx Y c rest g)
  (hs:swapsWith call none ep.line Y.env=pure false:=by rfl):PBx Y c (.Expr call ep::rest) (jD n G f g):=by
 intro s σ H D E' ρ F I ab h
 unfold jD at h
 cases hf:f ρ with
 | bad=>rw[hf] at h;exact h.elim
 | ex z=>rw[hf] at h;exact h.elim
 | ok as=>
  rw[hf] at h
  simp only at h
  by_cases hn:as.length=n
  ·rw[if_pos hn] at h
   refine wpAny_execs_cons (thn (Q:=fun fl s1=>fl=.next/\∃ H1 F1,Inv (Y.flyS σ E') [] σ H1 s1/\Ext F H F1 H1/\BxK c E' σ D F1 H1 (g ρ)) (wpAny_Expr_any (thn (hc σ E' [] s H (fun _ H1=>∃ F1,Ext F H F1 H1/\BxK c E' σ D F1 H1 (g ρ)) I ?_) fun v s1 ⟨x,H1,I1,r1,F1,e1,q1⟩=>⟨rfl,H1,F1,I1,e1,q1⟩) I.quiet hs) fun fl s1 ⟨e0,H1,F1,I1,e1,q1⟩=>?_)
   ·refine ⟨ρ,F,ab,?_⟩
    rw[hf]
    intro vs F1 H1 s1 r1
    refine ⟨F1,as,fun a o z=>s1.ff a o (ab.f0 a o (ab.t0 a o z)),s1.fh,by rw[List.append_nil,hK,hM];exact r1,hn,?_⟩
    cases hG:G as with
    | bad=>rw[hG] at h;exact h
    | ok a=>
     rw[hG] at h
     exact fun v F' H' s' r'=>⟨F',s1.trans s',BxK.ext (s1.trans s') h⟩
    | ex e=>
     rw[hG] at h
     intro a C F' H' s' r'
     rw[hK,hM] at r'
     exact h a C F' H' (s1.trans s') r'
   ·subst e0
    exact hr s1 σ H1 D E' ρ F1 I1 (ab.ext e1) q1
  ·rw[if_neg hn] at h;exact h.elim
theorem xV{n:Nat}{G:List A->R A}{f:Sg->R (List A)}{g:Sg->R Unit}{ft:Sg->R Bool}{t call:Expr}{ep pos:Pos}{rest:List Stmt}(hK:Y.K=c.K)(hM:Y.mg=c.mg)(ht:∀ σ E',PTf (Y.flyS σ E') c E t ft)(hc:∀ σ E',PCl Y σ E' call (m5 (spF c.g Y.K Y.mg n G) [] E' (tAv c E f)))(hr:PBx Y c rest g)
  (hs:swapsWith call none ep.line Y.env=pure false:=by rfl):PBx Y c (.If t [.Expr call ep] [] pos::rest) (gIf ft n G f g):=by
 intro s σ H D E' ρ F I ab h
 unfold gIf at h
 cases hft:ft ρ with
 | bad=>rw[hft] at h;exact h.elim
 | ex z=>rw[hft] at h;exact h.elim
 | ok b=>
  rw[hft] at h
  refine wpAny_execs_cons (wpAny_If (thn (ht σ E' [] s σ H (fun b' H1=>b'=b/\∃ F1,Ext F H F1 H1) I ⟨ρ,F,ab,by rw[hft];exact fun F' H' e=>⟨rfl,F',e⟩⟩) fun d s1 zz0=>?_))
  obtain ⟨H1,I1,hd,F1,e1⟩:=zz0
  subst hd
  cases d with
  | false=>
   refine wpAny_execs_nil ?_
   exact hr s1 σ H1 D E' ρ F1 I1 (ab.ext e1) (BxK.ext e1 h)
  | true=>
   have h':BxK c E' σ D F1 H1 (jD n G f g ρ):=BxK.ext e1 h
   have key:=aEW (E:=E) (rest:=[]) (g:=fun ρ=>.ok ()) hK hM hc aAA hs
   unfold jD at h'
   refine thn (Q:=fun fl s2=>fl=.next/\∃ H2 F2,Inv (Y.flyS σ E') [] σ H2 s2/\Ext F1 H1 F2 H2/\BxK c E' σ D F2 H2 (g ρ)) ?_ fun fl s2 ⟨e0,H2,F2,I2,e2,q2⟩=>?_
   ·cases hf:f ρ with
    | bad=>rw[hf] at h';exact h'.elim
    | ex z=>rw[hf] at h';exact h'.elim
    | ok as=>
     rw[hf] at h'
     simp only at h'
     by_cases hn:as.length=n
     ·rw[if_pos hn] at h'
      refine wpAny_execs_cons (thn (Q:=fun fl s1=>fl=.next/\∃ H2 F2,Inv (Y.flyS σ E') [] σ H2 s1/\Ext F1 H1 F2 H2/\BxK c E' σ D F2 H2 (g ρ)) (wpAny_Expr_any (thn (hc σ E' [] s1 H1 (fun _ H2=>∃ F2,Ext F1 H1 F2 H2/\BxK c E' σ D F2 H2 (g ρ)) I1 ?_) fun v s2 ⟨x,H2,I2,r2,F2,e2,q2⟩=>⟨rfl,H2,F2,I2,e2,q2⟩) I1.quiet hs) fun fl s2 ⟨e0,H2,F2,I2,e2,q2⟩=>?_)
      ·refine ⟨ρ,F1,ab.ext e1,?_⟩
       rw[hf]
       intro vs F2 H2 s2 r2
       have ab1:=ab.ext e1
       refine ⟨F2,as,fun a o z=>s2.ff a o (ab1.f0 a o (ab1.t0 a o z)),s2.fh,by rw[List.append_nil,hK,hM];exact r2,hn,?_⟩
       cases hG:G as with
       | bad=>rw[hG] at h';exact h'
       | ok a=>
        rw[hG] at h'
        exact fun v F' H' s' r'=>⟨F',s2.trans s',BxK.ext (s2.trans s') h'⟩
       | ex e=>
        rw[hG] at h'
        intro a C F' H' s' r'
        rw[hK,hM] at r'
        exact h' a C F' H' (s2.trans s') r'
      ·subst e0
       exact wpAny_execs_nil ⟨rfl,H2,F2,I2,e2,q2⟩
     ·rw[if_neg hn] at h';exact h'.elim
   ·subst e0
    exact hr s2 σ H2 D E' ρ F2 I2 ((ab.ext e1).ext e2) q2
end
def lX(g:Sg->R Unit)(cl:List Str)(fs:Sg->R Fw):Sg->R Fw:=fun ρ=>match g ρ with
 | .bad=>.bad
 | .ok _=>.ok (.nx ρ)
 | .ex e=>if cl.contains e.c=true then fs ρ else .bad
section
variable{X:Cx}{c:Ct}{E:XK}
theorem aBV{x:Str}{Wc:Addr}{bmW:List Value}{body suite:List Stmt}{b0:Stmt}{np hpos pos:Pos}{g:Sg->R Unit}{cl:List Str}{fs:Sg->R Fw}(hM:X.mg=c.mg)
  (hO:k7 X) (hg:Gl X x) (hm:X.mg x=some (.ref Wc)) (hw:SX.ExcAny X.K Wc bmW) (hcl:vT X.K X.mg Wc cl)
  (hb:∀ pn,PBx (X.pnw pn) c body g) (hs:∀ e,i8 (X.inH e) c E (b0::suite) fs) (hdb:(x == ("__debug__":Str))=false:=by decide) :
  PSf X c E (.Try body [.ExceptHandler (some (.Name x np)) none (b0::suite) hpos] [] [] pos) (lX g cl fs):=by
 intro pins s σ H D I h
 obtain ⟨ρ,F,ab,k⟩:=h
 unfold lX at k
 cases hgr:g ρ with
 | bad=>rw[hgr] at k;exact k.elim
 | ok u=>
  rw[hgr] at k
  let E':XK:=fun _ _ _=>False
  refine zS (E:=E') hO hg hm hw hdb I (wpAny_mono (hb (X.pn++pins) s σ H D E' ρ F (I.toPn.wish _) ab ?_) (fun f s1 q=>SP.ofPn q) fun _ _ q=>q) fun C e H' _ z=>z.elim
  rw[hgr]
  exact fun F' H' e=>Rk.ok k _ F' H' e.ff (ab.ext e)
 | ex er=>
  rw[hgr] at k
  simp only at k
  let E':XK:=fun cv oa H'=>∃ C a F',cv=.ref C/\oa=some a/\Ext F H F' H'/\hJ c.K c.mg F' er a C
  refine zS (E:=E') hO hg hm hw hdb I (wpAny_mono (hb (X.pn++pins) s σ H D E' ρ F (I.toPn.wish _) ab ?_) (fun f s1 q=>SP.ofPn q) fun _ _ q=>q) ?_
  ·rw[hgr]
   exact fun a C F' H' e r=>⟨C,a,F',rfl,rfl,e,r⟩
  ·rintro C e H' ⟨od,_⟩ ⟨C',a,F',h1,h2,s',r'⟩
   cases h1
   cases h2
   by_cases hc:cl.contains er.c=true
   ·rw[if_pos hc] at k
    obtain ⟨C2,bm,m2,ca,co⟩:=hcl er.c (by simpa using hc)
    obtain ⟨m1,_⟩:=id r'
    rw[hM,m1] at m2
    cases m2
    exact ⟨bm,ca,co,_,hs e,ρ,F',ab.ext s',(k.ext s').imp fun w _ q=>gE.same s'.ff q⟩
   ·rw[if_neg hc] at k;exact k.elim
end
end Fl
namespace Fl
open PySem L2 PyProof.Rows
def dMulS:PyData->PyData->R PyData
 | .str x,.int n=>if x.length<=1000/\0<=n/\n<=1000 then .ok (.str (Txt.mul x n)) else .bad
 | _,_=>.bad
theorem xW:dG dMulS:=by intro a b e h;unfold dMulS at h;split at h<;>(try split at h)<;>cases h
theorem u0{x:Str}{n:Int}(h1:x.length<=1000)(h2:0<=n)(h3:n<=1000):MulOk x n:=by
 refine ⟨by simp;omega,fun a b=>?_,fun a b=>?_⟩
 ·have:(2 ^ 63 - 1:Int) / 1000<=(2 ^ 63 - 1:Int) / n:=by
   apply Int.le_ediv_of_mul_le (by omega)
   have:(2 ^ 63 - 1:Int) / 1000 * n<=(2 ^ 63 - 1:Int) / 1000 * 1000:=Int.mul_le_mul_of_nonneg_left h3 (by decide)
   omega
  omega
 ·have:x.length * n.toNat<=1000 * 1000:=Nat.mul_le_mul h1 (by omega)
  unfold Builtin.Str.tooLong
  have:sizeLine=16777216:=rfl
  exact decide_eq_false (by omega)
theorem fZ{es0 es:List Expr}{k:Nat}{p:Pos}{env:Env}:starEach (.Tuple es0 k p::es) env=(false,eval (.Tuple es0 k p) env)::starEach es env:=by rfl
theorem wE{X:Cx}{c:Ct}{E:XK}{sts:List Stmt}:i8 X c E sts oC:=fun _ _ _ _ _ _ ⟨_,_,_,k⟩=>k.elim
section
variable{X:Cx}{c:Ct}
theorem aBW:OpR X (binaryOp .Mult) (r2D (bI c) (bI c) (cM c) dMulS):=by
 intro pins s σ H v u x y Q I rx ry h
 obtain ⟨H0,H1,F,a,b,d,sf,ra,rb,eg,q⟩:=h
 unfold dMulS at eg
 split at eg
 ·split at eg
  ·rename_i z n hz
   cases eg
   obtain rfl:=aU.str_of ra
   obtain rfl:=aU.int_of rb
   obtain ⟨t,rfl⟩:=rx
   obtain ⟨t2,rfl⟩:=ry
   exact SB.mul (u0 hz.1 hz.2.1 hz.2.2) fun t' k=>⟨.str _,H,I.tok _,⟨_,rfl⟩,q _ F H (Ext.refl sf) (.str _)⟩
  ·cases eg
 ·cases eg
end
def dIsB:PyData->PyData->R PyData
 | .bool a,.bool b=>.ok (.bool (a == b))
 | _,_=>.bad
theorem aAB:dG dIsB:=by intro a b e h;unfold dIsB at h;split at h<;>cases h
theorem aEX{X:Cx}{c:Ct}:OpR X (compareOp .Is) (r2D (bI c) (bI c) (cM c) dIsB):=by
 intro pins s σ H v u x y Q I rx ry h
 obtain ⟨H0,H1,F,a,b,d,sf,ra,rb,eg,q⟩:=h
 unfold dIsB at eg
 split at eg
 ·cases eg
  obtain rfl:=aU.bl_of ra
  obtain rfl:=aU.bl_of rb
  cases rx
  cases ry
  exact is_bool ⟨.bl _,H,I.tok _,rfl,q _ F H (Ext.refl sf) (.bl _)⟩
 ·cases eg
theorem aEY(a:Nat)(n:Nat):Txt.mul ⟨#[a]⟩ (n:Int)=⟨(List.replicate n a).toArray⟩:=by
 unfold Txt.mul
 by_cases h:(n:Int) < 1
 ·rw[if_pos h,show n=0 by omega];rfl
 ·rw[if_neg h]
  split
  ·rename_i h1
   have:n=1:=by
    rcases Bool.or_eq_true _ _ |>.mp h1 with z|z
    · have := eq_of_beq z; omega
    · exact absurd (eq_of_beq z) (show ¬ (1 : Nat) = 0 by decide)
   rw[this];rfl
  ·congr 1
   rw[Int.toNat_natCast]
   have:∀ (m:Nat) (acc:Array Nat),(List.replicate m #[a]).foldl (· ++ ·) acc=acc++(List.replicate m a).toArray:=fun m=>by
    induction m with
    | zero=>intro acc;simp
    | succ m ih=>intro acc;rw[List.replicate_succ,List.foldl_cons,ih,List.replicate_succ];apply Array.toList_inj.mp;simp
   rw[this];simp
end Fl
namespace Fl
open PySem L2 PyProof.Rows
section
variable{X:Cx}{c:Ct}{E:XK}{e:Expr}{pos p2:Pos}{lo hi:Option Expr}
def dSlS:PyData->Option Int->Option Int->R PyData
 | .str z,lo,hi=>if z.length<=16777216 then .ok (.str (Txt.slice z lo hi)) else .bad
 | _,_,_=>.bad
theorem aI9:SlR X (aGI c (cM c) dSlS):=by
 intro pins s σ H v x vl vu lo hi sl Q I rx hs pl pu h
 obtain ⟨F,d,w,sf,ra,eg,q⟩:=h
 unfold dSlS at eg
 split at eg
 ·split at eg
  ·rename_i hz
   cases eg
   obtain rfl:=aU.str_of ra
   exact aF0 pins s σ H _ x vl vu lo hi sl Q I rx hs pl pu ⟨_,rfl,by rw[dX];exact hz,q _ F H (Ext.refl sf) (.str _)⟩
  ·cases eg
 ·cases eg
theorem aAC:∀ x l h e,dSlS x l h≠.ex e:=by intro x l h e q;unfold dSlS at q;split at q<;>(try split at q)<;>cases q
theorem aAD{z:Str}{fl fh:Sg->R (Option Int)}(he:PR X c E e (eC (.str z)))(hl:PO X lo (tPf c E fl))(hh:PO X hi (tPf c E fh)):PD X c E (.Subscript e (.Slice lo hi none p2) pos) (eSl dSl (eC (.str z)) fl fh):=
 (show PD X c E (.Subscript e (.Slice lo hi none p2) pos) (eSl dSlS (eC (.str z)) fl fh) from PE.imp (aAR aI9 he hl hh) fun σ H Q h=>aDO aAC (j5 c) h)
def pI:PyData->R (List PyData)
 | .str z=>if z.cps.toList.length<=16777216 then .ok (iK 0 (z.cps.toList.map fun u=>.str ⟨#[u]⟩)) else .bad
 | _=>.bad
theorem aEZ{tg:Expr}{f:Sg->R PyData}(h':PI X tg e (yU (iN (tV (cM c) c E f) kZ))):PI0 X c E tg e (e1 pI f):=PI.imp h' fun σ H Q ⟨ρ,F,ab,k⟩=>by
 have k':=Rk.bind k
 cases hf:f ρ with
 | bad=>rw[hf] at k';exact k'.elim
 | ex x=>rw[hf] at k';exact ⟨ρ,F,ab,by rw[hf];exact k'⟩
 | ok d=>
  rw[hf] at k'
  have k2:=Rk.ok k'
  unfold pI at k2
  split at k2
  ·rename_i z
   split at k2
   ·rename_i hz
    refine ⟨ρ,F,ab,?_⟩
    rw[hf]
    intro v F' H' s r
    obtain rfl:=DatV.str_of r
    exact ⟨z,rfl,Rk.ok k2 _ F' H' s (zM hz)⟩
   ·exact k2.elim
  ·exact k2.elim
end
end Fl
namespace Mc
open PySem L2 PyProof.Rows Fl
noncomputable def iM:Sg->R Fw:=(aL (bF 2 (vD (eSl dSl (eC (.str "abc")) oNo (oSo (rV 0)))))
 (aL (iJ (e1 pI (eV 1)) (stT [(stN 3),(stN 4)]) (sIf (e1 asB (e2 dNin (rV 4) (rV 2))) oC sNx))
 (bJ (vV 1))))
noncomputable def eS:List A->R A:=fnF 5 iM
noncomputable def kG:Sg->R Fw:=(bJ (a9 3 gJ (aA (vV 0) (aA (vD (eC (.int 0))) (aA (a9 2 eS (aA (a9 1 hZ (aA (vV 0) aF)) (aA (vV 1) aF))) aF)))))
noncomputable def iU:List A->R A:=fnF 2 kG
noncomputable def kH:Sg->R Fw:=(bJ (vD (e2 dIx (e2 dIx (rV 0) (eC (.int 1))) (eA (a9 2 iU (aA (vV 0) (aA (vV 1) aF)))))))
noncomputable def fK:List A->R A:=fnF 2 kH
noncomputable def uM:Sg->R Fw:=oC
noncomputable def oM:List A->R A:=fnF 3 uM
noncomputable def jV:Sg->R Fw:=(aL (sIf (e1 asB (e2 dNe (eA (a9 1 c7 (aA (vV 0) aF))) (eA (a9 1 c7 (aA (vV 1) aF))))) oC sNx)
 (bJ (a9 2 oM (aA (a9 1 bT (aA (vV 0) aF)) (aA (a9 1 bT (aA (vV 1) aF)) aF)))))
noncomputable def f6:List A->R A:=fnF 2 jV
noncomputable def rR:Sg->R Fw:=oC
noncomputable def mR:List A->R A:=fnF 4 rR
noncomputable def jW:Sg->R Fw:=(bJ (a9 1 mR (aA (a9 1 bT (aA (vV 0) aF)) aF)))
noncomputable def f7:List A->R A:=fnF 1 jW
noncomputable def gG:Sg->R Fw:=(aL (bF 2 (vD (e2 dMul (rV 0) (rV 1))))
 (aL (bK (e1 asB (e2 dGt (rV 1) (eC (.int 0)))) (aL (bF 3 (vD (e2 dMod (rV 0) (rV 1))))
 (aL (bF 0 (vV 1))
 (bF 1 (vV 3)))))
 (bJ (vD (e2 dDiv (rV 2) (rV 0))))))
noncomputable def dB:List A->R A:=fnF 4 gG
noncomputable def gH:Sg->R Fw:=(aL (fO 4 (fV aF))
 (aL (iJ (dA (rV 0)) (stN 5) (gQ 4 (bD (aA (e2 dMod (e2 bE (rV 5) (eC (.int 1))) (rV 0)) (aA (bD (aA (bD (aA (e2 dMod (e2 bE (rV 5) (eC (.int 1))) (rV 0)) (aA (eC (.int 1)) aF))) aF)) (aA (e2 dIx (rV 3) (rV 5)) aF))))))
 (aL (iJ (dA (rV 1)) (stN 5) (gQ 4 (bD (aA (e2 bE (e2 bE (rV 0) (rV 1)) (rV 5)) (aA (bD (aA (bD (aA (e2 bE (rV 0) (e2 dMod (e2 bE (rV 5) (eC (.int 1))) (rV 1))) (aA (e1 dNeg (eC (.int 1))) aF))) aF)) (aA (eC (.str "out")) aF))))))
 (aL (iJ (dA (rV 1)) (stN 5) (aL (bF 6 (vD (e2 bE (e2 bE (rV 0) (rV 1)) (rV 5))))
 (aL (sIf (n8 (e1 asB (e2 dEq (rV 5) (eC (.int 0)))) (e1 asB (e2 dEq (rV 2) (eC (.int 1))))) (bF 6 (vD (eC (.int 0)))) sNx)
 (gQ 4 (bD (aA (eV 6) (aA (bD (aA (bD (aA (e2 bE (e2 bE (rV 0) (rV 1)) (rV 5)) (aA (eC (.int 1)) aF))) aF)) (aA (eC (.str "out")) aF))))))))
 (bJ (vD (e1 dTup (rV 4))))))))
noncomputable def dC:List A->R A:=fnF 7 gH
noncomputable def fP:Sg->R Fw:=(aL (bF 2 (vD (eC (.bool false))))
 (aL (lX (gIf (e1 asB (e2 dEq (rV 1) (eC (.int 0)))) 1 bT (aA (vV 0) aF) (gIf (e1 asB (e2 dEq (rV 1) (eC (.int 1)))) 1 f7 (aA (vV 0) aF) (gIf (e1 asB (e2 dEq (rV 1) (eC (.int 2)))) 2 f6 (aA (vV 0) (aA (vD (bD (aA (bD (aA (eC (.int 0)) (aA (bD (aA (bD (aA (eC (.int 0)) (aA (eC (.int 1)) aF))) aF)) (aA (eC (.str "by")) aF)))) aF))) aF)) kY))) ["TooMany"] (bF 2 (vD (eC (.bool true)))))
 (bJ (vV 2))))
noncomputable def bU:List A->R A:=fnF 3 fP
noncomputable def xX:Sg->R Fw:=(aL (bF 1 (vD (e2 dMod (eA (a9 2 cE (aA (vV 0) (aA (vD (eC (.int 0))) aF)))) (eC (.int 2147483647)))))
 (aL (p7 (stT [(stN 2),(stN 3)]) (e2 dIx (eL (fV (aA (bD (aA (eC (.int 8)) (aA (eC (.int 25)) aF))) (aA (bD (aA (eC (.int 12)) (aA (eC (.int 17)) aF))) (aA (bD (aA (eC (.int 18)) (aA (eC (.int 11)) aF))) (aA (bD (aA (eC (.int 9)) (aA (eC (.int 22)) aF))) (aA (bD (aA (eC (.int 13)) (aA (eC (.int 15)) aF))) (aA (bD (aA (eC (.int 14)) (aA (eC (.int 15)) aF))) (aA (bD (aA (eC (.int 8)) (aA (eC (.int 25)) aF))) (aA (bD (aA (eC (.int 11)) (aA (eC (.int 18)) aF))) aF)))))))))) (e2 dMod (rV 1) (eC (.int 8)))))
 (aL (sIf (e1 asB (e2 dEq (e2 dMod (e2 dDiv (rV 1) (eC (.int 8))) (eC (.int 4))) (eC (.int 3)))) (aL (bF 2 (vD (e2 bE (eC (.int 1)) (e2 dMod (e2 dDiv (rV 1) (eC (.int 32))) (eC (.int 20))))))
 (bF 3 (vD (e2 bE (eC (.int 2)) (e2 dMod (e2 dDiv (rV 1) (eC (.int 640))) (eC (.int 19))))))) sNx)
 (aL (bF 4 (vD (e2 dMod (e2 dDiv (rV 1) (eC (.int 32))) (eC (.int 2)))))
 (aL (fO 5 (eH [none,some 0] (dA (rV 2)) (stN 0) gF (e2 dIx (eL (fV (aA (eC (.str "by")) (aA (eC (.str "out")) aF)))) (e2 dMod (e2 dDiv (eA (a9 2 cE (aA (vV 1) (aA (vD (e2 bE (eC (.int 1)) (e2 dMod (rV 0) (eC (.int 20))))) aF)))) (e2 bE (eC (.int 1)) (rV 0))) (eC (.int 2))))))
 (aL (sFz 5 (bF 6 (a9 4 dC (aA (vV 2) (aA (vV 3) (aA (vV 4) (aA (vV 5) aF)))))))
 (aL (bF 7 (vD (e2 bE (eA (a9 2 dB (aA (vV 2) (aA (vV 3) aF)))) (rV 4))))
 (aL (sIf (e1 asB (e2 dGt (rV 7) (eC (.int 200)))) (bJ (vD (e2 dEq (eL (eH [none,some 6] (dA (eC (.int 3))) (stN 0) gF (eA (a9 2 bU (aA (vV 1) (aA (vV 0) aF)))))) (eL (fV (aA (eC (.bool true)) (aA (eC (.bool true)) (aA (eC (.bool true)) aF)))))))) sNx)
 (aL (p7 (stT [(stN 8),(stN 9)]) (eA (a9 1 bT (aA (vV 6) aF))))
 (aL (sIf (bOr (e1 asB (e2 dNe (e1 dLen (rV 8)) (rV 7))) (e1 asB (e2 dNe (e1 dLen (rV 9)) (rV 7)))) (bJ (vD (eC (.bool false)))) sNx)
 (aL (sIf (e1 asB (e2 dNe (rV 8) (e2 bE (e1 dTup (eL (eH [none] (dA (e2 dSub (rV 7) (eC (.int 1)))) (stN 0) gF (bD (aA (e2 bE (rV 0) (eC (.int 1))) aF))))) (bD (aA (bD (aA (eV 4) aF)) aF))))) (bJ (vD (eC (.bool false)))) sNx)
 (aL (bF 10 (vD (e2 dMod (eA (a9 2 cE (aA (vV 0) (aA (vD (eC (.int 21))) aF)))) (eC (.int 401)))))
 (bJ (vD (xH (e2 dEq (eA (a9 2 fK (aA (vD (bD (aA (eV 8) (aA (eV 9) aF)))) (aA (vD (e2 dMulS (eC (.str "a")) (rV 10))) aF)))) (e2 dIx (rV 5) (e2 dMod (e2 bE (rV 10) (eC (.int 1))) (rV 2)))) (e2 dIsB (eA (a9 2 bU (aA (vV 6) (aA (vD (eC (.int 0))) aF)))) (eC (.bool false))))))))))))))))))
noncomputable def sB:List A->R A:=fnF 11 xX
end Mc
namespace Mc
open PySem L2 PyProof.Rows Fl
def top(i:Nat):Stmt:=PySem.Challenge.pw_striproam_k23_two_hundred_beginnings.main.body.getD i (.Pass ⟨0,0,0,0⟩)
def cU:ClSt:=clS "one_way.<locals>.after" ((cI (top 22)).getD 1 (.Pass ⟨0,0,0,0⟩))
def d9:Pos:=aKB ((cI (top 22)).getD 1 (.Pass ⟨0,0,0,0⟩))
def eB:ClSt:=clE "one_way.<locals>.<lambda>" (aG2 (aG1 ((cI (top 22)).getD 2 (.Pass ⟨0,0,0,0⟩))) 2)
def eI:Pos:=aKC (aG2 (aG1 ((cI (top 22)).getD 2 (.Pass ⟨0,0,0,0⟩))) 2)
def qsT:List (Pos×Str):=[(d9,("one_way.<locals>.after":Str)),(eI,("one_way.<locals>.<lambda>":Str))]
structure Txt(w:World)(K:Frag)(mg:Str->Option Value):Prop where
 b_enumerate:mg "enumerate"=none
 b_isinstance:mg "isinstance"=none
 b_len:mg "len"=none
 b_range:mg "range"=none
 b_str:mg "str"=none
 b_tuple:mg "tuple"=none
 g_MOST_BEGINNINGS:∃ t,mg "MOST_BEGINNINGS"=some (.int 200 t)
 g_SIGNS:∃ t,mg "SIGNS"=some (.str "abc" t)
section
variable{P:Program}{w:World}{K:Frag}{mg:Str->Option Value}{base:Heap}{TH:Hp}
theorem nS:FnScope ["machine"] ["machine"] (aJ (top 7)):=by constructor<;>first|rfl|decide +kernel
theorem u4(T:Txt w K mg)(D:DefAt K mg "signs_of" (top 7) ["machine"]):aR P w K mg base TH 1 "signs_of" ["machine"] c7:=
 @cP P w K mg base TH "signs_of" (top 7) ["machine"] ["machine"] 0 lO D nS (fun f cdv A outer s H F E hr=>by
  have nd:=nS.nd
  exact (Fl.aO (Fl.bO (aY (d5 rfl (cR cY rfl T.b_len PySem.boot_len (aT (aB (bV (bW rfl) a6 (aB (bV (bW rfl) a6 (aC (pv 0)) (aB aD))) (aB aD))) a8)))))))
theorem nU:FnScope ["machine","number"] ["machine","number"] (aJ (top 8)):=by constructor<;>first|rfl|decide +kernel
theorem u5(T:Txt w K mg)(D:DefAt K mg "cells_of" (top 8) ["machine","number"]):aR P w K mg base TH 1 "cells_of" ["machine","number"] gB:=
 @cP P w K mg base TH "cells_of" (top 8) ["machine","number"] ["machine","number"] 0 lP D nU (fun f cdv A outer s H F E hr=>by
  have nd:=nU.nd
  exact (Fl.aO (Fl.bO (aY (gI (g6 (gU (N:=["row","number"]) (js:=[none,some 1]) rfl (.own (.cap rfl (.inl rfl) (.inl rfl) .nil)) (by rfl) (xI rfl (aC (pv 0)))) (by decide) (by decide) (is:=[0]) (fun cl C s0 H0 fp=>⟨_,(cH (i:=0) (show (["row","number"]:List Str).Nodup by decide +kernel) rfl (Or.inl rfl)),(cJ 0),Fl.eP,(bV (bW rfl) a6 (aB (bV (bW rfl) a6 (aC (pv 0)) (aB aD))) (aC (pv 1)))⟩)))))))
theorem lY:FnScope ["signs","strip","known","at","sign"] ["signs","strip"] (aJ (top 9)):=by constructor<;>first|rfl|decide +kernel
theorem rW(T:Txt w K mg)(D:DefAt K mg "checked_by" (top 9) ["signs","strip"]):aR P w K mg base TH 1 "checked_by" ["signs","strip"] eS:=
 @cP P w K mg base TH "checked_by" (top 9) ["signs","strip","known","at","sign"] ["signs","strip"] 0 iM D lY (fun f cdv A outer s H F E hr=>by
  have nd:=lY.nd
  exact (Fl.aI (Fl.aM (L2.aM (i:=2) nd rfl (Or.inl rfl) (aY (aAD (aB (fS (kI (v:=.str "abc") rfl T.g_SIGNS.choose_spec ⟨_,rfl⟩) fun _=>.str _)) aIN (aIO (aC (pv 0)))))))
   (Fl.aI (Fl.eK (tF rfl (iI (cJ 3) (iI (cJ 4) pY)) rfl) (L2.eK (fF ⟨rfl,rfl⟩) rfl (aEZ (aAX rfl T.b_enumerate (aT (cN (pv 1)) a8))) (sG rfl (iD (cH (i:=3) nd rfl (Or.inl rfl)) (iD (cH (i:=4) nd rfl (Or.inl rfl)) pQ)))
   (Fl.aO (Fl.eX (Fl.dF (aDL rfl hr.units) zI (aC (pv 4)) (aC (pv 2)) (by with_unfolding_all rfl)) (Fl.aO Fl.zQ) Fl.dH))))
   (Fl.aO (Fl.bO (aX (pv 1)))))))
theorem pJ:FnScope ["begin","after","done","found","numbers","rows","row","thing"] ["begin","after","done"] (aJ (top 11)):=by constructor<;>first|rfl|decide +kernel
theorem xY(T:Txt w K mg)(D:DefAt K mg "reached" (top 11) ["begin","after","done"]):aR P w K mg base TH 13 "reached" ["begin","after","done"] g7:=
 @cP P w K mg base TH "reached" (top 11) ["begin","after","done","found","numbers","rows","row","thing"] ["begin","after","done"] 12 mO D pJ (fun f cdv A outer s H F E hr=>by
  have nd:=pJ.nd
  exact (Fl.aI (jI (L2.aM (i:=3) nd rfl (Or.inl rfl) (jP (aE (cN (pv 0)) a7))))
   (Fl.aI (aDX rfl rfl (L2.aM (i:=4) nd rfl (Or.inl rfl) (aDV hr.units (aBG (cN (pv 0)) aD aDW))))
   (Fl.aI (jI (L2.aM (i:=5) nd rfl (Or.inl rfl) (jP a7)))
   (Fl.aI (Fl.eY (L2.eY (fF ⟨rfl,rfl⟩) (PW.pt (Fl.oQ (Fl.dF aGA aA7 (aB (d5 rfl (cR cY rfl T.b_len PySem.boot_len (aT (aC (pv 5)) a8)))) (aB (d5 rfl (cR cY rfl T.b_len PySem.boot_len (aT (aC (pv 3)) a8)))) (cW _)) (Fl.mZ (Fl.l0 (Fl.kJ (aD2 (m:=12) rfl rfl rfl (hr.mono (by decide)) (tQ (pv 2) (cL fun _ _ _ h=>h) (tS (aC (pv 3)) (tS (aB (d5 rfl (cR cY rfl T.b_len PySem.boot_len (aT (aC (pv 5)) a8)))) aD1)))))))))
   (Fl.aI (jI (L2.aM (i:=6) nd rfl (Or.inl rfl) (jP a7)))
   (Fl.aI (Fl.eK (cJ 7) (L2.eK (fF ⟨rfl,rfl⟩) rfl (aGF rfl (aGV (m:=12) rfl rfl rfl (hr.mono (by decide)) (tQ (pv 1) (cL fun _ _ _ h=>h) (aE (bV (bW rfl) a6 (aC (pv 3)) (aB (d5 rfl (cR cY rfl T.b_len PySem.boot_len (aT (aC (pv 5)) a8))))) a7)))) (cH (i:=7) nd rfl (Or.inl rfl))
   (Fl.aI (Fl.eX (tL rfl rfl (m3 (aBD hr.units) (cN (pv 7)) (pv 4) (by with_unfolding_all rfl))) (Fl.aI (Fl.p6 rfl rfl (l5 (d5 rfl (cR cY rfl T.b_len PySem.boot_len (aT (aC (pv 3)) a8))) (sH (pv 4) (cN (pv 7)) (oA hr.units))))
   (Fl.aO (kN rfl (L2.iC (k6 PySem.F.plainAttrs_list PySem.F.slot_list_append PySem.F.type_list_append gT (pv 3) (aT (cN (pv 7)) a8)))))) Fl.dH)
   (Fl.aO (kN rfl (L2.iC (k6 PySem.F.plainAttrs_list PySem.F.slot_list_append PySem.F.type_list_append gT (pv 6) (aT (aDR rfl rfl (aDQ hr.units (pv 4) (cN (pv 7)) (fun _ _=>rfl))) a8))))))))
   (Fl.aO (kN rfl (L2.iC (k6 PySem.F.plainAttrs_list PySem.F.slot_list_append PySem.F.type_list_append gT (pv 5) (aT (gP rfl (fQ dR rfl T.b_tuple PyProof.Rows.boot_tuple (aT (aC (pv 6)) a8))) a8)))))))))
   (Fl.aO (rZ 5 (rZ 3 (Fl.bO (aY (bS (aE (cN (pv 3)) (aE (cN (pv 5)) a7)))))))))))))
theorem pK:FnScope ["part"] ["part"] (aJ (top 17)):=by constructor<;>first|rfl|decide +kernel
theorem xZ(T:Txt w K mg)(D:DefAt K mg "is_word" (top 17) ["part"]):aR P w K mg base TH 1 "is_word" ["part"] cX:=
 @cP P w K mg base TH "is_word" (top 17) ["part"] ["part"] 0 j8 D pK (fun f cdv A outer s H F E hr=>by
  have nd:=pK.nd
  exact (Fl.aO (Fl.bO (aY (aGJ (cR (aBB rfl (aDP _)) rfl T.b_isinstance PyProof.Rows.boot_isinstance (aT (aC (pv 0)) (aT (aCU (v:=.ty "str") rfl T.b_str PyProof.Rows.boot_str rfl) a8))))))))
end
end Mc
namespace Mc
open PySem L2 PyProof.Rows Fl
section
variable{P:Program}{w:World}{K:Frag}{mg:Str->Option Value}{base:Heap}{TH:Hp}
theorem jX:FnScope ["machine","lefts"] ["machine"] (aJ (top 18)):=by constructor<;>first|rfl|decide +kernel
theorem oN(T:Txt w K mg)(D:DefAt K mg "without_signs" (top 18) ["machine"]):aR P w K mg base TH 1 "without_signs" ["machine"] d6:=
 @cP P w K mg base TH "without_signs" (top 18) ["machine","lefts"] ["machine"] 0 hV D jX (fun f cdv A outer s H F E hr=>by
  have nd:=jX.nd
  exact (Fl.aI (Fl.aM (L2.aM (i:=1) nd rfl (Or.inl rfl) (aY (gP rfl (fQ dR rfl T.b_tuple PyProof.Rows.boot_tuple (aT (aB (gI (g6 (gU (N:=["row"]) (js:=[none]) rfl (.own .nil) (by rfl) (xI rfl (aC (pv 0)))) (by decide) (by decide) (is:=[0]) (fun cl C s0 H0 fp=>⟨_,(cH (i:=0) (show (["row"]:List Str).Nodup by decide +kernel) rfl (Or.inl rfl)),(cJ 0),Fl.eP,(bV (bW rfl) a6 (aC (pv 0)) (aB aD))⟩)))) a8))))))
   (Fl.aO (Fl.bO (aY (bS (aE (bV (bW rfl) a6 (aC (pv 1)) (aB aD)) (aE (cN (pv 1)) a7))))))))
theorem pL:FnScope ["backs","cells","room","been","cell"] ["backs","cells","room"] (aJ (top 19)):=by constructor<;>first|rfl|decide +kernel
theorem x5(T:Txt w K mg)(D:DefAt K mg "gone_on" (top 19) ["backs","cells","room"])(c_is_word:aR P w K mg base TH 1 "is_word" ["part"] cX):aR P w K mg base TH 2 "gone_on" ["backs","cells","room"] fX:=
 @cP P w K mg base TH "gone_on" (top 19) ["backs","cells","room","been","cell"] ["backs","cells","room"] 1 mP D pL (fun f cdv A outer s H F E hr=>by
  have nd:=pL.nd
  exact (Fl.aI (vR rfl (L2.aM (i:=3) nd rfl (Or.inl rfl) vQ))
   (Fl.aI (Fl.eY (L2.eY (fF ⟨rfl,rfl⟩) (Fl.l0 (Fl.kJ (dU (cD rfl rfl rfl (cC c_is_word (hr.mono (by decide)) rfl (cL fun _ _ _ h=>h) (aK (aX (pv 2)) bB))))))
   (Fl.aI (Fl.eX (tL rfl rfl (m3 (vS hr.units) (cN (pv 2)) (pv 3) (by with_unfolding_all rfl))) (Fl.aO (Fl.bO (aY iX))) Fl.dH)
   (Fl.aI (Fl.p6 rfl rfl (l5 iP (sH (pv 3) (cN (pv 2)) (oA hr.units))))
   (Fl.aI (Fl.aM (L2.aM (i:=4) nd rfl (Or.inl rfl) (aY (bV (bW rfl) a6 (aC (pv 1)) (aC (pv 2))))))
   (Fl.aI (Fl.eX (Fl.dF (hR rfl hr.units) eZ (aB (bV (bW rfl) a6 (aC (pv 4)) (aB aD))) (aB aD) (cW _)) (Fl.aO (Fl.bO (aY (bV (bW rfl) a6 (aC (pv 4)) (aB aD))))) Fl.dH)
   (Fl.aO (Fl.aM (L2.aM (i:=2) nd rfl (Or.inl rfl) (aY (bV (bW rfl) a6 (aC (pv 0)) (aB (bV (bW rfl) a6 (aC (pv 4)) (aB aD))))))))))))))
   (Fl.aO (Fl.bO (aX (pv 2)))))))
theorem rS:FnScope ["begun","cells","first","backs"] ["begun","cells"] (aJ (top 20)):=by constructor<;>first|rfl|decide +kernel
theorem aAE(T:Txt w K mg)(D:DefAt K mg "longer" (top 20) ["begun","cells"])(c_gone_on:aR P w K mg base TH 2 "gone_on" ["backs","cells","room"] fX):aR P w K mg base TH 3 "longer" ["begun","cells"] fB:=
 @cP P w K mg base TH "longer" (top 20) ["begun","cells","first","backs"] ["begun","cells"] 2 oE D rS (fun f cdv A outer s H F E hr=>by
  have nd:=rS.nd
  exact (Fl.aI (Fl.aM (L2.aM (i:=2) nd rfl (Or.inl rfl) (cD rfl rfl rfl (cC c_gone_on (hr.mono (by decide)) rfl (cL fun _ _ _ h=>h) (aK (aY (bV (bW rfl) a6 (aC (pv 0)) (aB aD))) (aK (aX (pv 1)) (aK (aY (bV (bW rfl) a6 (aC (pv 0)) (aB aD))) bB)))))))
   (Fl.aI (Fl.aM (L2.aM (i:=3) nd rfl (Or.inl rfl) (aY (gP rfl (fQ dR rfl T.b_tuple PyProof.Rows.boot_tuple (aT (aB (gI (g6 (gU (N:=["room","begun","cells"]) (js:=[none,some 0,some 1]) rfl (.own (.cap rfl (.inl rfl) (.inl rfl) (.cap rfl (.inl rfl) (.inl rfl) .nil))) (by rfl) (o8 (gZ (eU rfl T.b_range (aT (aB (d5 rfl (cR cY rfl T.b_len PySem.boot_len (aT (aC (pv 1)) a8)))) a8))))) (by decide) (by decide) (is:=[0]) (fun cl C s0 H0 fp=>⟨_,(cH (i:=0) (show (["room","begun","cells"]:List Str).Nodup by decide +kernel) rfl (Or.inl rfl)),(cJ 0),Fl.eP,(dU (cD rfl rfl rfl (cC c_gone_on (hr.mono (by decide)) rfl m6 (aK (aY (bV (bW rfl) a6 (aC (pv 1)) (aB aD))) (aK (aX (pv 2)) (aK (aX (pv 0)) bB))))))⟩)))) a8))))))
   (Fl.aO (Fl.bO (aY (bS (aE (cN (pv 2)) (aE (cN (pv 3)) a7)))))))))
theorem kS:FnScope ["machine","begun","room","been","turn"] ["machine","begun"] (aJ (top 21)):=by constructor<;>first|rfl|decide +kernel
theorem qJ(T:Txt w K mg)(D:DefAt K mg "word_behind" (top 21) ["machine","begun"])(c_is_word:aR P w K mg base TH 1 "is_word" ["part"] cX):aR P w K mg base TH 2 "word_behind" ["machine","begun"] dD:=
 @cP P w K mg base TH "word_behind" (top 21) ["machine","begun","room","been","turn"] ["machine","begun"] 1 jA D kS (fun f cdv A outer s H F E hr=>by
  have nd:=kS.nd
  exact (Fl.aI (Fl.aM (L2.aM (i:=2) nd rfl (Or.inl rfl) (aY (bV (bW rfl) a6 (aC (pv 1)) (aB aD)))))
   (Fl.aI (vR rfl (L2.aM (i:=3) nd rfl (Or.inl rfl) vQ))
   (Fl.aI (Fl.eY (L2.eY (fF ⟨rfl,rfl⟩) (Fl.l0 (Fl.kJ (dU (cD rfl rfl rfl (cC c_is_word (hr.mono (by decide)) rfl (cL fun _ _ _ h=>h) (aK (aX (pv 2)) bB))))))
   (Fl.aI (Fl.eX (tL rfl rfl (m3 (vS hr.units) (cN (pv 2)) (pv 3) (by with_unfolding_all rfl))) (Fl.aO (Fl.bO (aY iX))) Fl.dH)
   (Fl.aI (Fl.p6 rfl rfl (l5 iP (sH (pv 3) (cN (pv 2)) (oA hr.units))))
   (Fl.aI (Fl.aM (L2.aM (i:=4) nd rfl (Or.inl rfl) (aY (bV (bW rfl) a6 (aB (bV (bW rfl) a6 (aC (pv 0)) (aC (pv 2)))) (aB aD)))))
   (Fl.aO (Fl.aM (L2.aM (i:=2) nd rfl (Or.inl rfl) (aY (aIJ (Fl.kJ (dU (cD rfl rfl rfl (cC c_is_word (hr.mono (by decide)) rfl (cL fun _ _ _ h=>h) (aK (aX (pv 4)) bB))))) (cN (pv 4)) (bV (bW rfl) a6 (aB (bV (bW rfl) a6 (aC (pv 1)) (aB aD))) (aC (pv 4)))))))))))))
   (Fl.aO (Fl.bO (aX (pv 2))))))))
theorem eJ:CloScope ["begun","columns"] ["begun"] ["columns"] cU.scope:=⟨rfl,rfl,rfl,by decide +kernel,rfl,by decide +kernel,by decide +kernel,by decide +kernel,by decide +kernel⟩
theorem nM:∀ y∈cU.scope.names,y.2=.free->(aJ (top 22)).names.lookup y.1=some .cell\/(aJ (top 22)).names.lookup y.1=some .free:=by decide +kernel
theorem mS:(d9,("one_way.<locals>.after":Str))∈qsT:=(.head _)
theorem nN:∀ p∈qsT,p.1.line=d9.line->p.1.col=d9.col->p.2=("one_way.<locals>.after":Str):=by decide +kernel
theorem mT(T:Txt w K mg)(c_longer:aR P w K mg base TH 3 "longer" ["begun","cells"] fB):CloOk P w K mg base TH cU ["columns"] 4 1 (hU 2 cT):=
 @aGX P w K mg base TH cU ["begun","columns"] ["begun"] ["columns"] 3 _ cT rfl eJ (fun _ _ _ _ _=>Mc.bn1 fun _=>rfl) (fun f cc cl A outer s H F E E' hr=>by
  have nd:=eJ.nd
  exact (Fl.aO (Fl.bO (aY (gI (g6 (gU (N:=["cells","begun"]) (js:=[none,some 0]) rfl (.own (.cap rfl (.inl rfl) (.inl rfl) .nil)) (by rfl) (xI rfl (aC (pv 1)))) (by decide) (by decide) (is:=[0]) (fun cl C s0 H0 fp=>⟨_,(cH (i:=0) (show (["cells","begun"]:List Str).Nodup by decide +kernel) rfl (Or.inl rfl)),(cJ 0),Fl.eP,(dU (cD rfl rfl rfl (cC c_longer (hr.mono (by decide)) rfl m6 (aK (aX (pv 1)) (aK (aX (pv 0)) bB)))))⟩)))))))
theorem fD:CloScope ["found","at"] ["found","at"] [] eB.scope:=⟨rfl,rfl,rfl,by decide +kernel,rfl,by decide +kernel,by decide +kernel,by decide +kernel,by decide +kernel⟩
theorem oO:∀ y∈eB.scope.names,y.2=.free->(aJ (top 22)).names.lookup y.1=some .cell\/(aJ (top 22)).names.lookup y.1=some .free:=by decide +kernel
theorem nO:(eI,("one_way.<locals>.<lambda>":Str))∈qsT:=(.tail _ (.head _))
theorem oP:∀ p∈qsT,p.1.line=eI.line->p.1.col=eI.col->p.2=("one_way.<locals>.<lambda>":Str):=by decide +kernel
theorem nQ(T:Txt w K mg):CloOk P w K mg base TH eB [] 1 2 (hU 2 dQ):=
 @aGY P w K mg base TH eB ["found","at"] ["found","at"] [] 0 _ (e2 dGt (e1 dLen (rV 0)) (eC (.int 200))) rfl fD (fun _ _ _ _ _=>Mc.bn2 fun _ _=>rfl) (fun f cc cl A outer s H F E E' hr=>by
  have nd:=fD.nd
  exact (o5 mF jO (aB (d5 rfl (cR cY rfl T.b_len PySem.boot_len (aT (aC (pv 0)) a8)))) (aB (fS (kI (v:=.int 200) rfl T.g_MOST_BEGINNINGS.choose_spec ⟨_,rfl⟩) fun _=>.int _)) (cW _)))
theorem pM:FnScope ["machine","columns","after","search","found"] ["machine"] (aJ (top 22)):=by constructor<;>first|rfl|decide +kernel
theorem x6(T:Txt w K mg)(D:DefAtT K mg base TH qsT "one_way" (top 22) ["machine"])(c_signs_of:aR P w K mg base TH 1 "signs_of" ["machine"] c7)(c_cells_of:aR P w K mg base TH 1 "cells_of" ["machine","number"] gB)(c_longer:aR P w K mg base TH 3 "longer" ["begun","cells"] fB)(c_reached:aR P w K mg base TH 13 "reached" ["begin","after","done"] g7)(c_without_signs:aR P w K mg base TH 1 "without_signs" ["machine"] d6)(c_word_behind:aR P w K mg base TH 2 "word_behind" ["machine","begun"] dD){Wp_TooMany Cp_TooMany:Addr}(erp_TooMany:ErrP K mg "TooMany" Wp_TooMany Cp_TooMany):aR P w K mg base TH 14 "one_way" ["machine"] bT:=
 @aEA P w K mg base TH "one_way" (top 22) ["machine","columns","after","search","found"] ["machine"] 13 qsT (fun q=>[(("one_way.<locals>.after":Str),cU)].lookup q) j9 D pM (fun f c0 P0 A outer s H F E hTb hTP hr=>by
  have nd:=pM.nd
  exact (Fl.aI (jI (L2.aM (i:=1) nd rfl (Or.inr rfl) (g6 (gU (N:=["number","machine"]) (js:=[none,some 0]) rfl (.own (.cap rfl (.inl rfl) (.inl rfl) .nil)) (by rfl) (o8 (gZ (eU rfl T.b_range (aT (aB (dU (cD rfl rfl rfl (cC c_signs_of (hr.mono (by decide)) rfl (cL fun _ _ _ h=>h) (aK (aX (pv 0)) bB))))) a8))))) (by decide) (by decide) (is:=[0]) (fun cl C s0 H0 fp=>⟨_,(cH (i:=0) (show (["number","machine"]:List Str).Nodup by decide +kernel) rfl (Or.inl rfl)),(cJ 0),Fl.eP,(dU (cD rfl rfl rfl (cC c_cells_of (hr.mono (by decide)) rfl m6 (aK (aX (pv 1)) (aK (aX (pv 0)) bB)))))⟩))))
   (Fl.aI (aD6 (S:=cU) rfl rfl hTP (L2.aF3 rfl hTb rfl mS nN nM rfl rfl rfl nd rfl (Or.inl rfl)))
   (Fl.aI (rZ 1 (Fl.aM (L2.aM (i:=3) nd rfl (Or.inl rfl) (aG0 (js:=[1]) rfl rfl rfl rfl rfl rfl rfl (aEB ⟨_,rfl,rfl,rfl⟩ aG3) (L2.aF5 c_reached (hr.mono (by decide)) rfl (cL fun _ _ _ h=>h) (oD (aIS (cD rfl rfl rfl (cC c_without_signs (hr.mono (by decide)) rfl (cL fun _ _ _ h=>h) (aK (aX (pv 0)) bB)))) (oD (aD7 (S:=cU) rfl (mT T c_longer) (fun y hy=>eJ.only (y,.free) hy rfl) (fun y hy=>PySem.mem_of_lookup (eJ.cap y hy)) rfl (by decide) (pv 2)) (oD (aGZ (S:=eB) rfl hTP (nQ T ) (fun y hy=>fD.only (y,.free) hy rfl) (fun y hy=>PySem.mem_of_lookup (fD.cap y hy)) rfl (by decide) (L2.aF4 rfl hTb rfl nO oP oO rfl)) aD8))))))))
   (Fl.aI (Fl.aM (L2.aM (i:=4) nd rfl (Or.inl rfl) (aY (bV (bW rfl) a6 (aC (pv 3)) (aB aD)))))
   (Fl.aI (Fl.eX (Fl.dF mF jO (aB (d5 rfl (cR cY rfl T.b_len PySem.boot_len (aT (aC (pv 4)) a8)))) (aB (fS (kI (v:=.int 200) rfl T.g_MOST_BEGINNINGS.choose_spec ⟨_,rfl⟩) fun _=>.int _)) (cW _)) (Fl.aO (zT erp_TooMany.m (L2.rF rfl erp_TooMany rfl (aT (aGT (aB (fS (kI (v:=.int 200) rfl T.g_MOST_BEGINNINGS.choose_spec ⟨_,rfl⟩) fun _=>.int _))) a8)))) Fl.dH)
   (Fl.aO (Fl.bO (aY (bS (aE (gP rfl (fQ dR rfl T.b_tuple PyProof.Rows.boot_tuple (aT (aB (bV (bW rfl) a6 (aC (pv 3)) (aB aD))) a8))) (aE (gP rfl (fQ dR rfl T.b_tuple PyProof.Rows.boot_tuple (aT (aB (gI (g6 (gU (N:=["begun","machine"]) (js:=[none,some 0]) rfl (.own (.cap rfl (.inl rfl) (.inl rfl) .nil)) (by rfl) (xI rfl (aC (pv 4)))) (by decide) (by decide) (is:=[0]) (fun cl C s0 H0 fp=>⟨_,(cH (i:=0) (show (["begun","machine"]:List Str).Nodup by decide +kernel) rfl (Or.inl rfl)),(cJ 0),Fl.eP,(dU (cD rfl rfl rfl (cC c_word_behind (hr.mono (by decide)) rfl m6 (aK (aX (pv 1)) (aK (aX (pv 0)) bB)))))⟩)))) a8))) a7))))))))))))
end
end Mc
namespace Mc
open PySem L2 PyProof.Rows Fl
section
variable{P:Program}{w:World}{K:Frag}{mg:Str->Option Value}{base:Heap}{TH:Hp}
theorem nV:FnScope ["reader"] ["reader"] (aJ (top 23)):=by constructor<;>first|rfl|decide +kernel
theorem u6(T:Txt w K mg)(D:DefAt K mg "signs_by" (top 23) ["reader"]):aR P w K mg base TH 1 "signs_by" ["reader"] hZ:=
 @cP P w K mg base TH "signs_by" (top 23) ["reader"] ["reader"] 0 lQ D nV (fun f cdv A outer s H F E hr=>by
  have nd:=nV.nd
  exact (Fl.aO (Fl.bO (aY (d5 rfl (cR cY rfl T.b_len PySem.boot_len (aT (aB (bV (bW rfl) a6 (aB (bV (bW rfl) a6 (aC (pv 0)) (aB aD))) (aB aD))) a8)))))))
theorem mU:FnScope ["reader","room","strip","sign"] ["reader","room","strip"] (aJ (top 24)):=by constructor<;>first|rfl|decide +kernel
theorem uN(T:Txt w K mg)(D:DefAt K mg "room_from" (top 24) ["reader","room","strip"]):aR P w K mg base TH 1 "room_from" ["reader","room","strip"] gJ:=
 @cP P w K mg base TH "room_from" (top 24) ["reader","room","strip","sign"] ["reader","room","strip"] 0 kF D mU (fun f cdv A outer s H F E hr=>by
  have nd:=mU.nd
  exact (Fl.aI (Fl.eK (cJ 3) (L2.eK (fF ⟨rfl,rfl⟩) rfl (aGF rfl (cN (pv 2))) (cH (i:=3) nd rfl (Or.inl rfl))
   (Fl.aO (Fl.aM (L2.aM (i:=1) nd rfl (Or.inl rfl) (aY (bV (bW rfl) a6 (aB (bV (bW rfl) a6 (aB (bV (bW rfl) a6 (aC (pv 0)) (aB aD))) (aC (pv 1)))) (aB (aBC (k6 PySem.F.plainAttrs_str PySem.F.slot_str_index PySem.F.type_str_index aAW (aB (fS (kI (v:=.str "abc") rfl T.g_SIGNS.choose_spec ⟨_,rfl⟩) fun _=>.str _)) (aT (aC (pv 3)) a8)) (by intro ρ x h;cases h;exact ⟨_,rfl⟩))))))))))
   (Fl.aO (Fl.bO (aX (pv 1))))))
theorem pN:FnScope ["reader","strip"] ["reader","strip"] (aJ (top 25)):=by constructor<;>first|rfl|decide +kernel
theorem x8(T:Txt w K mg)(D:DefAt K mg "room_by" (top 25) ["reader","strip"])(c_room_from:aR P w K mg base TH 1 "room_from" ["reader","room","strip"] gJ)(c_checked_by:aR P w K mg base TH 1 "checked_by" ["signs","strip"] eS)(c_signs_by:aR P w K mg base TH 1 "signs_by" ["reader"] hZ):aR P w K mg base TH 2 "room_by" ["reader","strip"] iU:=
 @cP P w K mg base TH "room_by" (top 25) ["reader","strip"] ["reader","strip"] 1 kG D pN (fun f cdv A outer s H F E hr=>by
  have nd:=pN.nd
  exact (Fl.aO (Fl.bO (cD rfl rfl rfl (cC c_room_from (hr.mono (by decide)) rfl (cL fun _ _ _ h=>h) (aK (aX (pv 0)) (aK (aY aD) (aK (cD rfl rfl rfl (cC c_checked_by (hr.mono (by decide)) rfl (cL fun _ _ _ h=>h) (aK (cD rfl rfl rfl (cC c_signs_by (hr.mono (by decide)) rfl (cL fun _ _ _ h=>h) (aK (aX (pv 0)) bB))) (aK (aX (pv 1)) bB)))) bB))))))))
theorem pO:FnScope ["reader","strip"] ["reader","strip"] (aJ (top 26)):=by constructor<;>first|rfl|decide +kernel
theorem x9(T:Txt w K mg)(D:DefAt K mg "word_by" (top 26) ["reader","strip"])(c_room_by:aR P w K mg base TH 2 "room_by" ["reader","strip"] iU):aR P w K mg base TH 3 "word_by" ["reader","strip"] fK:=
 @cP P w K mg base TH "word_by" (top 26) ["reader","strip"] ["reader","strip"] 2 kH D pO (fun f cdv A outer s H F E hr=>by
  have nd:=pO.nd
  exact (Fl.aO (Fl.bO (aY (bV (bW rfl) a6 (aB (bV (bW rfl) a6 (aC (pv 0)) (aB aD))) (aB (dU (cD rfl rfl rfl (cC c_room_by (hr.mono (by decide)) rfl (cL fun _ _ _ h=>h) (aK (aX (pv 0)) (aK (aX (pv 1)) bB)))))))))))
theorem wF:FnScope ["one","other","search"] ["one","other"] (aJ (top 32)):=by constructor<;>first|rfl|decide +kernel
theorem aE0(T:Txt w K mg)(D:DefAt K mg "held" (top 32) ["one","other"]):aR P w K mg base TH 1 "held" ["one","other"] oM:=
 @cP P w K mg base TH "held" (top 32) ["one","other","search"] ["one","other"] 0 uM D wF (fun f cdv A outer s H F E hr=>by
  have nd:=wF.nd
  exact wE)
end
end Mc
namespace Mc
open PySem L2 PyProof.Rows Fl
section
variable{P:Program}{w:World}{K:Frag}{mg:Str->Option Value}{base:Heap}{TH:Hp}
theorem nW:FnScope ["one","other"] ["one","other"] (aJ (top 33)):=by constructor<;>first|rfl|decide +kernel
theorem u7(T:Txt w K mg)(D:DefAt K mg "compared" (top 33) ["one","other"])(c_signs_of:aR P w K mg base TH 1 "signs_of" ["machine"] c7)(c_held:aR P w K mg base TH 1 "held" ["one","other"] oM)(c_one_way:aR P w K mg base TH 14 "one_way" ["machine"] bT):aR P w K mg base TH 15 "compared" ["one","other"] f6:=
 @cP P w K mg base TH "compared" (top 33) ["one","other"] ["one","other"] 14 jV D nW (fun f cdv A outer s H F E hr=>by
  have nd:=nW.nd
  exact (Fl.aI (Fl.eX (Fl.dF (o6 rfl hr.units) lH (aB (dU (cD rfl rfl rfl (cC c_signs_of (hr.mono (by decide)) rfl (cL fun _ _ _ h=>h) (aK (aX (pv 0)) bB))))) (aB (dU (cD rfl rfl rfl (cC c_signs_of (hr.mono (by decide)) rfl (cL fun _ _ _ h=>h) (aK (aX (pv 1)) bB))))) (cW _)) (Fl.aO Fl.zQ) Fl.dH)
   (Fl.aO (Fl.bO (cD rfl rfl rfl (cC c_held (hr.mono (by decide)) rfl (cL fun _ _ _ h=>h) (aK (cD rfl rfl rfl (cC c_one_way (hr.mono (by decide)) rfl (cL fun _ _ _ h=>h) (aK (aX (pv 0)) bB))) (aK (cD rfl rfl rfl (cC c_one_way (hr.mono (by decide)) rfl (cL fun _ _ _ h=>h) (aK (aX (pv 1)) bB))) bB))))))))
theorem uO:FnScope ["reader","likes","after","search"] ["reader"] (aJ (top 39)):=by constructor<;>first|rfl|decide +kernel
theorem aBX(T:Txt w K mg)(D:DefAt K mg "least" (top 39) ["reader"]):aR P w K mg base TH 1 "least" ["reader"] mR:=
 @cP P w K mg base TH "least" (top 39) ["reader","likes","after","search"] ["reader"] 0 rR D uO (fun f cdv A outer s H F E hr=>by
  have nd:=uO.nd
  exact wE)
theorem nX:FnScope ["machine"] ["machine"] (aJ (top 40)):=by constructor<;>first|rfl|decide +kernel
theorem u8(T:Txt w K mg)(D:DefAt K mg "least_of" (top 40) ["machine"])(c_least:aR P w K mg base TH 1 "least" ["reader"] mR)(c_one_way:aR P w K mg base TH 14 "one_way" ["machine"] bT):aR P w K mg base TH 15 "least_of" ["machine"] f7:=
 @cP P w K mg base TH "least_of" (top 40) ["machine"] ["machine"] 14 jW D nX (fun f cdv A outer s H F E hr=>by
  have nd:=nX.nd
  exact (Fl.aO (Fl.bO (cD rfl rfl rfl (cC c_least (hr.mono (by decide)) rfl (cL fun _ _ _ h=>h) (aK (cD rfl rfl rfl (cC c_one_way (hr.mono (by decide)) rfl (cL fun _ _ _ h=>h) (aK (aX (pv 0)) bB))) bB))))))
theorem mV:FnScope ["_law_script","_law_k","_law_cell_here","_law_mixed"] ["_law_script","_law_k"] (aJ (top 42)):=by constructor<;>first|rfl|decide +kernel
theorem uP(T:Txt w K mg)(D:DefAt K mg "_law_cell" (top 42) ["_law_script","_law_k"]):aR P w K mg base TH 1 "_law_cell" ["_law_script","_law_k"] cE:=
 @cP P w K mg base TH "_law_cell" (top 42) ["_law_script","_law_k","_law_cell_here","_law_mixed"] ["_law_script","_law_k"] 0 iT D mV (fun f cdv A outer s H F E hr=>by
  have nd:=mV.nd
  exact (Fl.aI (Fl.aM (L2.aM (i:=2) nd rfl (Or.inl rfl) (aY aD)))
   (Fl.aI (Fl.eX (Fl.dF mF jO (aB (d5 rfl (cR cY rfl T.b_len PySem.boot_len (aT (aC (pv 0)) a8)))) (aB aD) (cW _)) (Fl.aO (Fl.aM (L2.aM (i:=2) nd rfl (Or.inl rfl) (aY (bV (bW rfl) a6 (aC (pv 0)) (aB (aQ cO bY (aC (pv 1)) (aB (d5 rfl (cR cY rfl T.b_len PySem.boot_len (aT (aC (pv 0)) a8))))))))))) Fl.dH)
   (Fl.aI (Fl.aM (L2.aM (i:=3) nd rfl (Or.inl rfl) (aY (aQ cO bY (aB (aQ jH gY (aB (aQ (b8 rfl) bG (aB (aQ (b8 rfl) bG (aB (aQ cO bY (aC (pv 2)) (aB aD))) (aB (aQ jH gY (aB aD) (aC (pv 1)))))) (aB aD))) (aB aD))) (aB aD)))))
   (Fl.aO (Fl.bO (aY (aQ (b8 rfl) bG (aB (aQ jH gY (aB (aQ iH fU (aC (pv 2)) (aB aD))) (aB aD))) (aB (aQ cO bY (aB (aQ (b8 rfl) bG (aB (aQ jH gY (aC (pv 3)) (aB aD))) (aB (aQ jH gY (aB aD) (aC (pv 1)))))) (aB aD)))))))))))
theorem kT:FnScope ["_law_a","_law_b","_law_product","_law_rest"] ["_law_a","_law_b"] (aJ (top 43)):=by constructor<;>first|rfl|decide +kernel
theorem qK(T:Txt w K mg)(D:DefAt K mg "_law_common" (top 43) ["_law_a","_law_b"]):aR P w K mg base TH 1 "_law_common" ["_law_a","_law_b"] dB:=
 @cP P w K mg base TH "_law_common" (top 43) ["_law_a","_law_b","_law_product","_law_rest"] ["_law_a","_law_b"] 0 gG D kT (fun f cdv A outer s H F E hr=>by
  have nd:=kT.nd
  exact (Fl.aI (Fl.aM (L2.aM (i:=2) nd rfl (Or.inl rfl) (aY (aQ jH gY (aC (pv 0)) (aC (pv 1))))))
   (Fl.aI (Fl.eY (L2.eY (fF ⟨rfl,rfl⟩) (Fl.dF mF jO (aC (pv 1)) (aB aD) (cW _))
   (Fl.aI (Fl.aM (L2.aM (i:=3) nd rfl (Or.inl rfl) (aY (aQ cO bY (aC (pv 0)) (aC (pv 1))))))
   (Fl.aI (Fl.aM (L2.aM (i:=0) nd rfl (Or.inl rfl) (aX (pv 1))))
   (Fl.aO (Fl.aM (L2.aM (i:=1) nd rfl (Or.inl rfl) (aX (pv 3)))))))))
   (Fl.aO (Fl.bO (aY (aQ iH fU (aC (pv 2)) (aC (pv 0)))))))))
end
end Mc
namespace Mc
open PySem L2 PyProof.Rows Fl
section
variable{P:Program}{w:World}{K:Frag}{mg:Str->Option Value}{base:Heap}{TH:Hp}
theorem kU:FnScope ["_law_p","_law_q","_law_tail","_law_words","_law_rows","_law_k","_law_left"] ["_law_p","_law_q","_law_tail","_law_words"] (aJ (top 44)):=by constructor<;>first|rfl|decide +kernel
theorem qL(T:Txt w K mg)(D:DefAt K mg "_law_cycles" (top 44) ["_law_p","_law_q","_law_tail","_law_words"]):aR P w K mg base TH 1 "_law_cycles" ["_law_p","_law_q","_law_tail","_law_words"] dC:=
 @cP P w K mg base TH "_law_cycles" (top 44) ["_law_p","_law_q","_law_tail","_law_words","_law_rows","_law_k","_law_left"] ["_law_p","_law_q","_law_tail","_law_words"] 0 gH D kU (fun f cdv A outer s H F E hr=>by
  have nd:=kU.nd
  exact (Fl.aI (jI (L2.aM (i:=4) nd rfl (Or.inl rfl) (jP a7)))
   (Fl.aI (Fl.eK (cJ 5) (L2.eK (fF ⟨rfl,rfl⟩) rfl (gZ (eU rfl T.b_range (aT (aC (pv 0)) a8))) (cH (i:=5) nd rfl (Or.inl rfl))
   (Fl.aO (kN rfl (L2.iC (k6 PySem.F.plainAttrs_list PySem.F.slot_list_append PySem.F.type_list_append gT (pv 4) (aT (bS (aE (aQ cO bY (aB (aQ (b8 rfl) bG (aC (pv 5)) (aB aD))) (aC (pv 0))) (aE (bS (aE (bS (aE (aQ cO bY (aB (aQ (b8 rfl) bG (aC (pv 5)) (aB aD))) (aC (pv 0))) (aE aD a7))) a7)) (aE (bV (bW rfl) a6 (aC (pv 3)) (aC (pv 5))) a7)))) a8)))))))
   (Fl.aI (Fl.eK (cJ 5) (L2.eK (fF ⟨rfl,rfl⟩) rfl (gZ (eU rfl T.b_range (aT (aC (pv 1)) a8))) (cH (i:=5) nd rfl (Or.inl rfl))
   (Fl.aO (kN rfl (L2.iC (k6 PySem.F.plainAttrs_list PySem.F.slot_list_append PySem.F.type_list_append gT (pv 4) (aT (bS (aE (aQ (b8 rfl) bG (aB (aQ (b8 rfl) bG (aC (pv 0)) (aC (pv 1)))) (aC (pv 5))) (aE (bS (aE (bS (aE (aQ (b8 rfl) bG (aC (pv 0)) (aB (aQ cO bY (aB (aQ (b8 rfl) bG (aC (pv 5)) (aB aD))) (aC (pv 1))))) (aE (aII aDK zJ (aB aD)) a7))) a7)) (aE iX a7)))) a8)))))))
   (Fl.aI (Fl.eK (cJ 5) (L2.eK (fF ⟨rfl,rfl⟩) rfl (gZ (eU rfl T.b_range (aT (aC (pv 1)) a8))) (cH (i:=5) nd rfl (Or.inl rfl))
   (Fl.aI (Fl.aM (L2.aM (i:=6) nd rfl (Or.inl rfl) (aY (aQ (b8 rfl) bG (aB (aQ (b8 rfl) bG (aC (pv 0)) (aC (pv 1)))) (aC (pv 5))))))
   (Fl.aI (Fl.eX (PW.pt (Fl.oQ (Fl.dF (hR rfl hr.units) eZ (aC (pv 5)) (aB aD) (cW _)) (Fl.mZ (Fl.dF (hR rfl hr.units) eZ (aC (pv 2)) (aB aD) (cW _))))) (Fl.aO (Fl.aM (L2.aM (i:=6) nd rfl (Or.inl rfl) (aY aD)))) Fl.dH)
   (Fl.aO (kN rfl (L2.iC (k6 PySem.F.plainAttrs_list PySem.F.slot_list_append PySem.F.type_list_append gT (pv 4) (aT (bS (aE (cN (pv 6)) (aE (bS (aE (bS (aE (aQ (b8 rfl) bG (aB (aQ (b8 rfl) bG (aC (pv 0)) (aC (pv 1)))) (aC (pv 5))) (aE aD a7))) a7)) (aE iX a7)))) a8)))))))))
   (Fl.aO (Fl.bO (aY (gP rfl (fQ dR rfl T.b_tuple PyProof.Rows.boot_tuple (aT (aC (pv 4)) a8)))))))))))
theorem mX:FnScope ["_law_machine","_law_how","_law_refused"] ["_law_machine","_law_how"] (aJ (top 45)):=by constructor<;>first|rfl|decide +kernel
theorem uQ(T:Txt w K mg)(D:DefAt K mg "_law_many" (top 45) ["_law_machine","_law_how"])(c_compared:aR P w K mg base TH 15 "compared" ["one","other"] f6)(c_least_of:aR P w K mg base TH 15 "least_of" ["machine"] f7)(c_one_way:aR P w K mg base TH 14 "one_way" ["machine"] bT){Wp_TooMany Cp_TooMany:Addr}(erp_TooMany:ErrP K mg "TooMany" Wp_TooMany Cp_TooMany):aR P w K mg base TH 16 "_law_many" ["_law_machine","_law_how"] bU:=
 @cP P w K mg base TH "_law_many" (top 45) ["_law_machine","_law_how","_law_refused"] ["_law_machine","_law_how"] 15 fP D mX (fun f cdv A outer s H F E hr=>by
  have nd:=mX.nd
  exact (Fl.aI (Fl.aM (L2.aM (i:=2) nd rfl (Or.inl rfl) (aY iP)))
   (Fl.aI (aBV rfl ⟨rfl,rfl⟩ rfl erp_TooMany.m erp_TooMany.c.any (rT erp_TooMany) (fun pn=>(xV (E:=E) rfl rfl (fun σ E1=>(Fl.dF (hR rfl hr.units) eZ (aC (pv 1)) (aB aD) (cW _))) (fun σ E1=>tO c_one_way (hr.mono (by decide)) rfl (aK (aX (pv 0)) bB)) (xV (E:=E) rfl rfl (fun σ E1=>(Fl.dF (hR rfl hr.units) eZ (aC (pv 1)) (aB aD) (cW _))) (fun σ E1=>tO c_least_of (hr.mono (by decide)) rfl (aK (aX (pv 0)) bB)) (xV (E:=E) rfl rfl (fun σ E1=>(Fl.dF (hR rfl hr.units) eZ (aC (pv 1)) (aB aD) (cW _))) (fun σ E1=>tO c_compared (hr.mono (by decide)) rfl (aK (aX (pv 0)) (aK (aY (bS (aE (bS (aE aD (aE (bS (aE (bS (aE aD (aE aD a7))) a7)) (aE iX a7)))) a7))) bB))) aAA)))) (fun e1=>(Fl.aO (Fl.aM (L2.aM (i:=2) nd rfl (Or.inl rfl) (aY iP))))))
   (Fl.aO (Fl.bO (aX (pv 2)))))))
theorem aAF:FnScope ["_law_script","_law_cell_here","_law_p","_law_q","_law_tail","_law_words","_law_machine","_law_many_here","_law_rows","_law_told","_law_size"] ["_law_script"] (aJ (top 46)):=by constructor<;>first|rfl|decide +kernel
theorem aHT(T:Txt w K mg){fL:Addr}{fdL:FuncData}(FL:Fun K "law" "law" (top 46) fL fdL)(c__law_cell:aR P w K mg base TH 1 "_law_cell" ["_law_script","_law_k"] cE)(c__law_cycles:aR P w K mg base TH 1 "_law_cycles" ["_law_p","_law_q","_law_tail","_law_words"] dC)(c__law_common:aR P w K mg base TH 1 "_law_common" ["_law_a","_law_b"] dB)(c__law_many:aR P w K mg base TH 16 "_law_many" ["_law_machine","_law_how"] bU)(c_one_way:aR P w K mg base TH 14 "one_way" ["machine"] bT)(c_word_by:aR P w K mg base TH 3 "word_by" ["reader","strip"] fK):FnOk P w K mg base (CXe P w) 17 fL fdL ["_law_script"] (spF (gOf P w K mg base TH) K mg 1 sB):=
 @aGL P w K mg base TH "law" (top 46) ["_law_script","_law_cell_here","_law_p","_law_q","_law_tail","_law_words","_law_machine","_law_many_here","_law_rows","_law_told","_law_size"] ["_law_script"] 16 fL fdL xX FL aAF (fun cdv A outer s H F E hr=>by
  have nd:=aAF.nd
  exact (@Fl.aI _ _ _ _ _ _ _ (Fl.aM (L2.aM (i:=1) nd rfl (Or.inl rfl) (aY (aQ cO bY (aB (dU (cD rfl rfl rfl (cC c__law_cell (hr.mono (by decide)) rfl (cL fun _ _ _ h=>h) (aK (aX (pv 0)) (aK (aY aD) bB)))))) (aB aD)))))
   (@Fl.aI _ _ _ _ _ _ _ (@Fl.zP _ _ _ _ _ _ _ _ (tF rfl (iI (cJ 2) (iI (cJ 3) pY)) rfl) (@L2.l5 _ _ _ _ _ _ (@bV _ _ _ _ _ _ _ _ _ (bW rfl) a6 (@aB _ _ _ _ _ (@gI _ _ _ _ _ (@jP _ _ _ _ _ _ (@aE _ _ _ _ _ _ _ (bS (aE aD (aE aD a7))) (@aE _ _ _ _ _ _ _ (bS (aE aD (aE aD a7))) (@aE _ _ _ _ _ _ _ (bS (aE aD (aE aD a7))) (@aE _ _ _ _ _ _ _ (bS (aE aD (aE aD a7))) (@aE _ _ _ _ _ _ _ (bS (aE aD (aE aD a7))) (@aE _ _ _ _ _ _ _ (bS (aE aD (aE aD a7))) (@aE _ _ _ _ _ _ _ (bS (aE aD (aE aD a7))) (@aE _ _ _ _ _ _ _ (bS (aE aD (aE aD a7))) a7 fZ) fZ) fZ) fZ) fZ) fZ) fZ) fZ)))) (aB (aQ cO bY (aC (pv 1)) (aB aD))) (fun _ _=>rfl)) (sG rfl (iD (cH (i:=2) nd rfl (Or.inl rfl)) (iD (cH (i:=3) nd rfl (Or.inl rfl)) pQ))) rfl rfl rfl))
   (Fl.aI (Fl.eX (Fl.dF (hR rfl hr.units) eZ (aB (aQ cO bY (aB (aQ iH fU (aC (pv 1)) (aB aD))) (aB aD))) (aB aD) (cW _)) (Fl.aI (Fl.aM (L2.aM (i:=2) nd rfl (Or.inl rfl) (aY (aQ (b8 rfl) bG (aB aD) (aB (aQ cO bY (aB (aQ iH fU (aC (pv 1)) (aB aD))) (aB aD)))))))
   (Fl.aO (Fl.aM (L2.aM (i:=3) nd rfl (Or.inl rfl) (aY (aQ (b8 rfl) bG (aB aD) (aB (aQ cO bY (aB (aQ iH fU (aC (pv 1)) (aB aD))) (aB aD))))))))) Fl.dH)
   (Fl.aI (Fl.aM (L2.aM (i:=4) nd rfl (Or.inl rfl) (aY (aQ cO bY (aB (aQ iH fU (aC (pv 1)) (aB aD))) (aB aD)))))
   (Fl.aI (aDN (L2.wV (i:=5) nd rfl (Or.inl rfl) (by rfl) (N:=["_law_k","_law_script"]) (js:=[none,some 0]) rfl (.own (.cap rfl (.inl rfl) (.inl rfl) .nil)) (by rfl) (o8 (gZ (eU rfl T.b_range (aT (aC (pv 2)) a8))))) (by decide) (by decide) (is:=[0]) (fun cl C s0 H0 fp=>⟨_,(cH (i:=0) (show (["_law_k","_law_script"]:List Str).Nodup by decide +kernel) rfl (Or.inl rfl)),(cJ 0),Fl.eP,(bV (bW rfl) a6 (aB (gI (jP (aE iX (aE iX a7))))) (aB (aQ cO bY (aB (aQ iH fU (aB (dU (cD rfl rfl rfl (cC c__law_cell (hr.mono (by decide)) rfl m6 (aK (aX (pv 1)) (aK (aY (aQ (b8 rfl) bG (aB aD) (aB (aQ cO bY (aC (pv 0)) (aB aD))))) bB)))))) (aB (aQ (b8 rfl) bG (aB aD) (aC (pv 0)))))) (aB aD))))⟩))
   (Fl.aI (rZ 5 (Fl.aM (L2.aM (i:=6) nd rfl (Or.inr rfl) (cD rfl rfl rfl (cC c__law_cycles (hr.mono (by decide)) rfl (cL fun _ _ _ h=>h) (aK (aX (pv 2)) (aK (aX (pv 3)) (aK (aX (pv 4)) (aK (aX (pv 5)) bB)))))))))
   (Fl.aI (Fl.aM (L2.aM (i:=7) nd rfl (Or.inl rfl) (aY (aQ (b8 rfl) bG (aB (dU (cD rfl rfl rfl (cC c__law_common (hr.mono (by decide)) rfl (cL fun _ _ _ h=>h) (aK (aX (pv 2)) (aK (aX (pv 3)) bB)))))) (aC (pv 4))))))
   (Fl.aI (Fl.eX (Fl.dF mF jO (aC (pv 7)) (aB aD) (cW _)) (Fl.aO (Fl.bO (aY (o5 (hR rfl hr.units) eZ (aB (gI (g6 (gU (N:=["_law_how","_law_machine"]) (js:=[none,some 6]) rfl (.own (.cap rfl (.inl rfl) (.inl rfl) .nil)) (by rfl) (o8 (gZ (eU rfl T.b_range (aT (aB aD) a8))))) (by decide) (by decide) (is:=[0]) (fun cl C s0 H0 fp=>⟨_,(cH (i:=0) (show (["_law_how","_law_machine"]:List Str).Nodup by decide +kernel) rfl (Or.inl rfl)),(cJ 0),Fl.eP,(dU (cD rfl rfl rfl (cC c__law_many (hr.mono (by decide)) rfl m6 (aK (aX (pv 1)) (aK (aX (pv 0)) bB)))))⟩)))) (aB (gI (jP (aE iP (aE iP (aE iP a7)))))) (cW _))))) Fl.dH)
   (Fl.aI (zP (tF rfl (iI (cJ 8) (iI (cJ 9) pY)) rfl) (l5 (dU (cD rfl rfl rfl (cC c_one_way (hr.mono (by decide)) rfl (cL fun _ _ _ h=>h) (aK (aX (pv 6)) bB)))) (sG rfl (iD (cH (i:=8) nd rfl (Or.inl rfl)) (iD (cH (i:=9) nd rfl (Or.inl rfl)) pQ)))))
   (Fl.aI (Fl.eX (PW.pt (Fl.wK (Fl.dF (o6 rfl hr.units) lH (aB (d5 rfl (cR cY rfl T.b_len PySem.boot_len (aT (aC (pv 8)) a8)))) (aC (pv 7)) (cW _)) (Fl.sE (Fl.dF (o6 rfl hr.units) lH (aB (d5 rfl (cR cY rfl T.b_len PySem.boot_len (aT (aC (pv 9)) a8)))) (aC (pv 7)) (cW _))))) (Fl.aO (Fl.bO (aY iP))) Fl.dH)
   (Fl.aI (Fl.eX (Fl.dF (o6 rfl hr.units) lH (aC (pv 8)) (aB (aQ (b8 rfl) bG (aB (gP rfl (fQ dR rfl T.b_tuple PyProof.Rows.boot_tuple (aT (aB (gI (g6 (gU (N:=["_law_k"]) (js:=[none]) rfl (.own .nil) (by rfl) (o8 (gZ (eU rfl T.b_range (aT (aB (aQ aDJ zH (aC (pv 7)) (aB aD))) a8))))) (by decide) (by decide) (is:=[0]) (fun cl C s0 H0 fp=>⟨_,(cH (i:=0) (show (["_law_k"]:List Str).Nodup by decide +kernel) rfl (Or.inl rfl)),(cJ 0),Fl.eP,(bS (aE (aQ (b8 rfl) bG (aC (pv 0)) (aB aD)) a7))⟩)))) a8)))) (aB (bS (aE (bS (aE (cN (pv 4)) a7)) a7))))) (cW _)) (Fl.aO (Fl.bO (aY iP))) Fl.dH)
   (Fl.aI (Fl.aM (L2.aM (i:=10) nd rfl (Or.inl rfl) (aY (aQ cO bY (aB (dU (cD rfl rfl rfl (cC c__law_cell (hr.mono (by decide)) rfl (cL fun _ _ _ h=>h) (aK (aX (pv 0)) (aK (aY aD) bB)))))) (aB aD)))))
   (Fl.aO (Fl.bO (aY (aGC (o5 (hR rfl hr.units) eZ (aB (dU (cD rfl rfl rfl (cC c_word_by (hr.mono (by decide)) rfl (cL fun _ _ _ h=>h) (aK (aY (bS (aE (cN (pv 8)) (aE (cN (pv 9)) a7)))) (aK (aY (aQ aBW xW (aB iX) (aC (pv 10)))) bB)))))) (aB (bV (bW rfl) a6 (aC (pv 5)) (aB (aQ cO bY (aB (aQ (b8 rfl) bG (aC (pv 10)) (aB aD))) (aC (pv 2)))))) (cW _)) (aGB (o5 aEX aAB (aB (dU (cD rfl rfl rfl (cC c__law_many (hr.mono (by decide)) rfl (cL fun _ _ _ h=>h) (aK (aX (pv 6)) (aK (aY aD) bB)))))) (aB iP) (cW _))))))))))))))))))))
end
end Mc
namespace Fl
open PySem L2 PyProof.Rows
@[simp] theorem aKX(i:Nat)(f g:Sg->R PyData)(ρ:Sg):aIT i f g ρ=match ρ[i]? with
 | some (some (.m kvs))=>(f ρ).bind fun k=>(g ρ).bind fun y=>if b9 k (kvs.map (·.1))=true/\kvs.length<=16777216 then .ok (.nx (if cS kvs k=true then ρ else ρ.set i (some (.m (putM kvs k y))))) else .bad
 | _=>.bad:=id rfl
@[simp] theorem aLQ(i:Nat)(ρ:Sg):aKD i ρ=match ρ[i]? with
 | some (some (.l xs))=>.ok (.nx (ρ.set i (some (.l xs.reverse))))
 | _=>.bad:=id rfl
end Fl
namespace Mc
open PySem L2 PyProof.Rows Fl
mutual
def nbD:PyData->Bool
 | .bool _=>false
 | .dict _=>false
 | .list xs=>aBY xs
 | .tuple xs=>aBY xs
 | _=>true
def aBY:List PyData->Bool
 | []=>true
 | x::t=>nbD x && aBY t
end
mutual
theorem uR:∀ d:PyData,d.canLay0=true->d.eqv d=true
 | .none,_=>by rfl
 | .bool b,_=>by simp[PyData.eqv]
 | .int i,_=>by simp[PyData.eqv]
 | .str x,_=>by simp[PyData.eqv]
 | .list xs,h=>by
  show PyData.eqvAll xs xs=true
  exact qM xs h
 | .tuple xs,h=>by
  show PyData.eqvAll xs xs=true
  exact qM xs h
 | .dict _,h=>by cases h
theorem qM:∀ xs:List PyData,PyData.canLayAll0 xs=true->PyData.eqvAll xs xs=true
 | [],_=>by rfl
 | x::t,h=>by
  have h':(x.canLay0 && PyData.canLayAll0 t)=true:=h
  rw[Bool.and_eq_true] at h'
  show (x.eqv x && PyData.eqvAll t t)=true
  rw[uR x h'.1,qM t h'.2];rfl
end
theorem aAG{d:PyData}(h:SeqAt.shaped d=true):d.canLay0=true:=by
 have h':(d.canLay0 && decide (d.depth<=64))=true:=h
 rw[Bool.and_eq_true] at h'
 exact h'.1
structure Cp(d:PyData):Prop where
 nb:nbD d=true
 sh:SeqAt.shaped d=true
theorem aHU{x:PyData}(h:SeqAt.shaped x=true):dEq x x=.ok (.bool true):=by rw[t7 h h,uR x (aAG h)]
theorem uS{x:PyData}(h:SeqAt.shaped x=true):dNe x x=.ok (.bool false):=by rw[aG5 h h,uR x (aAG h)];rfl
end Mc
namespace Mc
open PySem L2 PyProof.Rows Fl
abbrev PZ:=PyData×List Nat
structure Came(L:List PZ)(D:List (PyData×PyData))(m:Nat):Prop where
 got:∀ (j:Nat) (x:PyData) (z:List Nat),1<=j->j < m->L[j]? = some (x,z)->∃ (i k:Nat) (x':PyData) (z':List Nat),dW D (.int (j:Int))=some (.tuple [.int (i:Int),.str ⟨#[97+k]⟩])/\L[i]? = some (x',z')/\i < j/\z=z'++[97+k]
 new:∀ j:Nat,m<=j->cS D (.int (j:Int))=false
 key:∀ p∈D.map (·.1),kD p=true
end Mc
namespace Mc
open PySem L2 PyProof.Rows Fl
section
variable{after:PyData->List PyData}{x0:PyData}
structure Fto(after:PyData->List PyData)(x0:PyData)(wn:PyData->Bool)(k1 k2:Nat)(G Wn:List PyData->R PyData)(N:Nat):Prop where
 on:∀ m,m < N->m < (bfQ after x0 m).length/\∀ x,(bfQ after x0 m)[m]? = some x->wn x=false
 off:(bfQ after x0 N).length<=N\/∃ x,(bfQ after x0 N)[N]? = some x/\wn x=true
 key:(∀ x∈bfQ after x0 N,i7 x=true)\/(∀ x∈bfQ after x0 N,kD x=true)
 len:(bfQ after x0 N).length<=100000
 hN:N<=100000
 hk1:k1<=12
 hk2:k2<=11
 hG:∀ m x,m < N->(bfQ after x0 N)[m]? = some x->(∃ d,G [x]=.ok d/\c6 d=.ok (after x))/\(after x).length<=3
 hW:∀ m x,m<=N->(bfQ after x0 N)[m]? = some x->Wn [x]=.ok (.bool (wn x))
end
def rdD(rows:List (List Nat))(ws:List PyData):PyData:=.tuple [.tuple (rows.map eG),.tuple ws]
structure Rdr(rows:List (List Nat))(sg:Nat):Prop where
 n1:1<=rows.length
 n2:rows.length<=1000
 s1:1<=sg
 s3:sg<=3
 row:∀ r∈rows,r.length=sg/\∀ j∈r,j < rows.length
section
variable{rows:List (List Nat)}{sg:Nat}
theorem Rdr.at(M:Rdr rows sg){q:Nat}(hq:q < rows.length):rows[q]? = some (rows.getD q [])/\(rows.getD q []).length=sg/\∀ j∈rows.getD q [],j < rows.length:=by
 have e:rows[q]? = some (rows.getD q []):=by rw[List.getD_eq_getElem?_getD,List.getElem?_eq_getElem hq];rfl
 exact ⟨e,M.row _ (List.mem_of_getElem? e)⟩
theorem wG{ws:List PyData}(M:Rdr rows sg){q:Nat}(hq:q < rows.length):dIx (.tuple (rows.map eG)) (.int (q:Int))=.ok (eG (rows.getD q [])):=iS (d4 (by rw[List.getElem?_map,(M.at hq).1];rfl))
end
end Mc
namespace Mc
open PySem L2 PyProof.Rows Fl
def sl(y z:List Nat):Prop:=y.length < z.length\/(y.length=z.length/\List.Lex (· < ·) y z)
section
variable{after:PyData->List PyData}{x0:PyData}
structure FtoC(after:PyData->List PyData)(x0:PyData)(wn:PyData->Bool)(k1 k2:Nat)(G Wn:List PyData->R PyData)(M:Nat):Prop where
 cl:(bfQ after x0 M).length<=M
 hM:M<=100000
 key:(∀ x∈bfQ after x0 M,i7 x=true)\/(∀ x∈bfQ after x0 M,kD x=true)
 hk1:k1<=12
 hk2:k2<=11
 hG:∀ x∈bfQ after x0 M,(∃ d,G [x]=.ok d/\c6 d=.ok (after x))/\(after x).length<=3
 hW:∀ x∈bfQ after x0 M,Wn [x]=.ok (.bool (wn x))
end
end Mc
namespace Mc
open PySem L2 PyProof.Rows Fl
def aBZ(w:Str):Prop:=w="by"\/w="out"\/w="ever"
structure Rdw(rows:List (List Nat))(ws:List Str)(sg:Nat):Prop where
 r:Rdr rows sg
 wl:ws.length=rows.length
 ww:∀ w∈ws,aBZ w
noncomputable def rdW(rows:List (List Nat))(ws:List Str):PyData:=rdD rows (ws.map .str)
section
variable{r1 r2:List (List Nat)}{w1 w2:List Str}{sg:Nat}
theorem Rdw.w(M:Rdw r1 w1 sg){q:Nat}(hq:q < r1.length):aBZ (w1.getD q "")/\dIx (.tuple (w1.map .str)) (.int (q:Int))=.ok (.str (w1.getD q "")):=by
 have hl:=M.wl
 have e:w1[q]? = some (w1.getD q ""):=by rw[List.getD_eq_getElem?_getD,List.getElem?_eq_getElem (by omega)];rfl
 refine ⟨M.ww _ (List.mem_of_getElem? e),iS (d4 ?_)⟩
 rw[List.getElem?_map,e];rfl
end
end Mc
namespace Mc
open PySem L2 PyProof.Rows Fl
@[simp] theorem aLR(i:Nat)(f:Sg->R Fw)(ρ:Sg):aKE i f ρ=f (fzM i ρ):=id rfl
@[simp] theorem aMP(i:Nat)(ρ:Sg):fzM i ρ=match ρ[i]? with|some (some (.m kvs))=>ρ.set i (some (.f kvs))|_=>ρ:=id rfl
@[simp] theorem aLS(neg:Bool)(i:Nat)(f:Sg->R PyData)(ρ:Sg):aKF neg i f ρ=(f ρ).bind fun k=>match ρ[i]? with
 | some (some (.f kvs))=>if b9 k (kvs.map (·.1))=true then .ok (.bool (if neg=true then !cS kvs k else cS kvs k)) else .bad
 | _=>.bad:=id rfl
@[simp] theorem aKY(i:Nat)(f:Sg->R PyData)(ρ:Sg):aIU i f ρ=match ρ[i]? with
 | some (some (.f kvs))=>(f ρ).bind fun k=>if b9 k (kvs.map (·.1))=true then (match dW kvs k with
  | some v=>.ok v
  | none=>.bad) else .bad
 | _=>.bad:=id rfl
@[simp] theorem aKZ(i:Nat)(ρ:Sg):aIV i ρ=match ρ[i]? with|some (some (.f kvs))=>if kvs.length<=16777216 then .ok (kvs.map (·.1)) else .bad|_=>.bad:=id rfl
end Mc
namespace Mc
open PySem L2 PyProof.Rows Fl
section
variable{r1 r2:List (List Nat)}{w1 w2:List Str}{sg:Nat}
end
end Mc
namespace Mc
open PySem L2 PyProof.Rows Fl
def jY(rows:List (List Nat))(q c:Nat):Nat:=(rows.getD q []).getD (c - 97) 0
def runN(rows:List (List Nat))(q:Nat)(z:List Nat):Nat:=z.foldl (jY rows) q
def Sgs(sg:Nat)(z:List Nat):Prop:=∀ c∈z,bR sg c=true
section
variable{rows r1 r2:List (List Nat)}{ws w1 w2:List Str}{sg:Nat}
theorem aAH{c:Nat}(h:bR sg c=true):97<=c/\c - 97 < sg:=by
 unfold bR at h
 have:=of_decide_eq_true h
 omega
theorem wH(M:Rdr rows sg){q c:Nat}(hq:q < rows.length)(hc:bR sg c=true):(rows.getD q [])[c - 97]? = some (jY rows q c)/\jY rows q c < rows.length:=by
 have hr:=M.at hq
 have h:=aAH hc
 have hl:c - 97 < (rows.getD q []).length:=by rw[hr.2.1];exact h.2
 have e:(rows.getD q [])[c - 97]? = some (jY rows q c):=by
  unfold jY
  generalize rows.getD q []=r at *
  rw[List.getD_eq_getElem?_getD,List.getElem?_eq_getElem hl];rfl
 exact ⟨e,hr.2.2 _ (List.mem_of_getElem? e)⟩
theorem qN(M:Rdr rows sg):∀ (z:List Nat) {q:Nat},Sgs sg z->q < rows.length->runN rows q z < rows.length
 | [],_,_,h=>h
 | c::t,_,hs,h=>qN M t (fun c hc=>hs c (List.mem_cons_of_mem _ hc)) (wH M h (hs c List.mem_cons_self)).2
def EqI(rows:List (List Nat))(ws:List Str)(sg i x y:Nat):Prop:=∀ w,Sgs sg w->w.length<=i->ws.getD (runN rows x w) ""=ws.getD (runN rows y w) ""
end
end Mc
namespace Mc
open PySem L2 PyProof.Rows Fl
end Mc
namespace Mc
open PySem L2 PyProof.Rows Fl
section
variable{rows:List (List Nat)}{ws:List Str}{sg:Nat}
def EqA(rows:List (List Nat))(ws:List Str)(sg x y:Nat):Prop:=∀ w,Sgs sg w->ws.getD (runN rows x w) ""=ws.getD (runN rows y w) ""
end
end Mc
namespace Mc
open PySem L2 PyProof.Rows Fl
section
variable{rows:List (List Nat)}{ws:List Str}{sg:Nat}{L:List Nat}
structure Lk(rows:List (List Nat))(ws:List Str)(sg:Nat)(L:List Nat):Prop where
 len:L.length=rows.length
 at_:∀ x,x < rows.length->L[x]? = some (L.getD x 0)/\L.getD x 0<=x/\EqA rows ws sg x (L.getD x 0)/\∀ b,b < L.getD x 0->¬ EqA rows ws sg (L.getD x 0) b
noncomputable def afL(rows:List (List Nat))(L:List Nat):PyData->List PyData
 | .int q=>(rows.getD q.toNat []).map fun j=>.int (L.getD j 0:Int)
 | _=>[]
structure Lst(rows:List (List Nat))(ws:List Str)(L:List Nat)(N:Nat):Prop where
 len:(bfQ (afL rows L) (.int 0) N).length=N
 on:∀ m,m < N->m < (bfQ (afL rows L) (.int 0) m).length
 le:N<=rows.length
end
end Mc
namespace Mc
open PySem L2 PyProof.Rows Fl
section
variable{rows:List (List Nat)}{ws:List Str}{sg:Nat}{L:List Nat}{N:Nat}
theorem aHV{after:PyData->List PyData}{x0 x y:PyData}{n:Nat}(hl:(bfQ after x0 n).length<=n)(hx:x∈bfQ after x0 n)(hy:y∈after x):y∈bfQ after x0 n:=by
 obtain ⟨m,hm⟩:=List.getElem?_of_mem hx
 have hml:=(List.getElem?_eq_some_iff.mp hm).1
 have hmn:m < n:=Nat.lt_of_lt_of_le hml hl
 by_cases h:m < (bfQ after x0 m).length
 ·have:=rP (kR (Nat.le_of_lt hmn)) h hm
  have e:=jT this
  have hin:y∈bfQ after x0 (m+1):=by rw[e];exact nL _ hy
  exact (kR (show m+1<=n by omega)).subset hin
 ·exfalso
  have hst:∀ k,(bfQ after x0 (m+k))=bfQ after x0 m:=by
   intro k
   induction k with
   | zero=>rfl
   | succ k ih=>
    have:(bfQ after x0 (m+k))[m+k]? = none:=by rw[ih];exact List.getElem?_eq_none (by omega)
    rw[<-Nat.add_assoc,bfQ,this]
    exact ih
  obtain ⟨k,rfl⟩:=Nat.le.dest (Nat.le_of_lt hmn)
  rw[hst k] at hml
  omega
end
end Mc
namespace Mc
open PySem L2 PyProof.Rows Fl
end Mc
namespace Fl
open PySem L2 PyProof.Rows
noncomputable def aE1(i j:Nat)(f g:Sg->R PyData):Sg->R Fw:=fun ρ=>match ρ[i]? with
 | some (some (.l xs))=>match ρ[j]? with
  | some (some (.m kvs))=>(f ρ).bind fun k=>(g ρ).bind fun y=>if b9 k (kvs.map (·.1))=true/\kvs.length<=16777216/\xs.length < 16777216/\i≠j then
   .ok (.nx ((ρ.set j (some (.m (match dW kvs k with|some _=>kvs|none=>putM kvs k y)))).set i (some (.l (xs++[(dW kvs k).getD y]))))) else .bad
  | _=>.bad
 | _=>.bad
end Fl
namespace Fl
open PySem L2 PyProof.Rows
@[simp] theorem aJA(i j:Nat)(f g:Sg->R PyData)(ρ:Sg):aE1 i j f g ρ=match ρ[i]? with
 | some (some (.l xs))=>match ρ[j]? with
  | some (some (.m kvs))=>(f ρ).bind fun k=>(g ρ).bind fun y=>if b9 k (kvs.map (·.1))=true/\kvs.length<=16777216/\xs.length < 16777216/\i≠j then
   .ok (.nx ((ρ.set j (some (.m (match dW kvs k with|some _=>kvs|none=>putM kvs k y)))).set i (some (.l (xs++[(dW kvs k).getD y]))))) else .bad
  | _=>.bad
 | _=>.bad:=id rfl
@[simp] theorem aK0(i:Nat)(ρ:Sg):aIW i ρ=match ρ[i]? with
 | some (some (.m kvs))=>if kvs.length<=16777216 then .ok (.int (kvs.length:Int)) else .bad
 | some (some (.f kvs))=>if kvs.length<=16777216 then .ok (.int (kvs.length:Int)) else .bad
 | _=>.bad:=id rfl
end Fl
namespace Mc
open PySem L2 PyProof.Rows Fl
section
variable{rows:List (List Nat)}{ws:List Str}{sg:Nat}
def kOk(d:PyData):Prop:=(∃ i,d=.int i)\/∃ w,aBZ w/\d=.str w
structure Kd(rows:List (List Nat))(ws:List Str)(sg i:Nat)(κ:Nat->PyData):Prop where
 ok:∀ x,x < rows.length->kOk (κ x)
 iff:∀ x y,x < rows.length->y < rows.length->(κ x=κ y↔EqI rows ws sg i x y)
end
end Mc
namespace Mc
open PySem L2 PyProof.Rows Fl
structure Sml(rs:List Rw)(sg N:Nat):Prop where
 m:Mach rs sg
 e:EndW rs sg 40 N
 n:N<=40
 few:(bfW rs sg N).length<=40
 s2:sg<=2
 r5:rs.length<=5
end Mc
namespace Mc
open PySem L2 PyProof.Rows Fl
section
variable{rs:List Rw}{sg N:Nat}
structure Wy(rs:List Rw)(sg N:Nat):Prop where
 m:Mach rs sg
 len:(bfW rs sg N).length=N
 n:N<=200
noncomputable def c9(rs:List Rw)(sg N:Nat):List (List Nat):=(bfW rs sg N).map fun x=>(afW rs sg x).map (nrQ (bfW rs sg N))
noncomputable def eD(rs:List Rw)(sg N:Nat):List Str:=(zsW rs sg N).map (gM rs)
theorem aHW(W:Wy rs sg N):xU rs sg N=rdW (c9 rs sg N) (eD rs sg N):=by
 unfold xU rdW rdD d7 c9 eD qH
 rw[List.take_of_length_le (by rw[W.len];exact Nat.le_refl _),List.map_map,List.map_map]
 rfl
theorem aK1(W:Wy rs sg N)(E:EndW rs sg 200 N):bT [.d (bM rs)]=.ok (.d (rdW (c9 rs sg N) (eD rs sg N))):=by
 have h:=z9 W.m E W.n
 rw[if_neg (by have:=W.len;have:=W.n;omega),aHW W] at h
 exact h
theorem Wy.zlen(W:Wy rs sg N):(zsW rs sg N).length=N:=by
 have h:=(pH W.m N (by have:=W.n;omega)).map
 have:=congrArg List.length h
 rw[List.length_map,W.len] at this
 exact this
theorem Wy.at_(W:Wy rs sg N){i:Nat}(hi:i < N):∃ z,(zsW rs sg N)[i]? = some z/\(bfW rs sg N)[i]? = some (aV rs z)/\bH sg z/\z.length<=N:=by
 have ok:=pH W.m N (by have:=W.n;omega)
 have hl:=W.zlen
 have hz:(zsW rs sg N)[i]? = some (zsW rs sg N)[i]:=List.getElem?_eq_getElem (by omega)
 refine ⟨_,hz,?_,ok.ok _ (List.getElem_mem _)⟩
 rw[<-ok.map,List.getElem?_map,hz];rfl
theorem Wy.rows_len(W:Wy rs sg N):(c9 rs sg N).length=N:=by unfold c9;rw[List.length_map,W.len]
theorem Wy.on(W:Wy rs sg N){i c:Nat}{z:List Nat}(hi:(bfW rs sg N)[i]? = some (aV rs z))(S:bH sg z)(hl:z.length < 1000)(hc:bR sg c=true) :
  jY (c9 rs sg N) i c < N/\(bfW rs sg N)[jY (c9 rs sg N) i c]? = some (aV rs (z++[c])):=by
 obtain ⟨c1,c2⟩:=aAH hc
 have hlng:=qI W.m S (k:=c - 97) c2
 rw[show 97+(c - 97)=c by omega] at hlng
 have hm:aV rs (z++[c])∈bfW rs sg N:=aHV (by have:=W.len;unfold bfW at this;omega) (List.mem_of_getElem? hi) (by
  unfold afW
  exact List.mem_map.mpr ⟨c - 97,List.mem_range.mpr c2,hlng⟩)
 have e:jY (c9 rs sg N) i c=nrQ (bfW rs sg N) (aV rs (z++[c])):=by
  unfold jY c9
  rw[List.getD_eq_getElem?_getD (l:=List.map _ _),List.getElem?_map,hi]
  show ((afW rs sg (aV rs z)).map (nrQ (bfW rs sg N))).getD (c - 97) 0=_
  unfold afW
  rw[List.getD_eq_getElem?_getD,List.getElem?_map,List.getElem?_map,List.getElem?_range c2]
  show nrQ (bfW rs sg N) (uK rs (aV rs z) (c - 97))=_
  rw[hlng]
 have hat:=uH hm
 rw[e]
 exact ⟨by have:=(List.getElem?_eq_some_iff.mp hat).1;have:=W.len;omega,hat⟩
theorem u9(M:Mach rs sg){z z':List Nat}(S:bH sg z)(S':bH sg z')(h:aV rs z=aV rs z'):gM rs z=gM rs z':=by
 have a:=pG M S
 rw[h,pG M S'] at a
 injection a with a
 exact a.symm
theorem Wy.word(W:Wy rs sg N){i:Nat}{z:List Nat}(hi:(bfW rs sg N)[i]? = some (aV rs z))(S:bH sg z):(eD rs sg N).getD i ""=gM rs z:=by
 have hl:=(List.getElem?_eq_some_iff.mp hi).1
 rw[W.len] at hl
 obtain ⟨z',h1,h2,S',_⟩:=W.at_ hl
 rw[hi] at h2
 unfold eD
 rw[List.getD_eq_getElem?_getD,List.getElem?_map,h1]
 exact u9 W.m S' S (Option.some.inj h2).symm
theorem Wy.run(W:Wy rs sg N):∀ (y:List Nat) {i:Nat} {z:List Nat},(bfW rs sg N)[i]? = some (aV rs z)->bH sg (z++y)->(bfW rs sg N)[runN (c9 rs sg N) i y]? = some (aV rs (z++y))
 | [],i,z,hi,_=>by rw[List.append_nil];exact hi
 | c::t,i,z,hi,S=>by
  have hc:bR sg c=true:=S.2 c (by simp)
  have hl:z.length < 1000:=by have:=S.1;simp at this;omega
  have Sz:bH sg z:=⟨by omega,fun d hd=>S.2 d (List.mem_append_left _ hd)⟩
  have h:=(W.on hi Sz hl hc).2
  have e:z++c::t=(z++[c])++t:=by simp
  rw[e] at S ⊢
  exact W.run t h S
theorem Wy.says(W:Wy rs sg N){z:List Nat}(S:bH sg z):(eD rs sg N).getD (runN (c9 rs sg N) 0 z) ""=gM rs z:=by
 have h0:(bfW rs sg N)[0]? = some (aV rs []):=uI _ _ _
 have:=W.run z h0 S
 exact W.word this S
end
end Mc
namespace Mc
open PySem L2 PyProof.Rows Fl
theorem aB0{after:PyData->List PyData}{b:Nat->PyData}{T t m:Nat}(hT:1<=T)(ha:∀ n,n < m->after (b n)=[b (n+1)])(inj:∀ i j,i < T->j < T->b i=b j->i=j)(ht:t < T)(hw:T<=m->b T=b t):∀ n,n<=m->bfQ after (b 0) n=(List.range (min (n+1) T)).map b:=by
 intro n
 induction n with
 | zero=>intro _;rw[Nat.min_eq_left (by omega)];rfl
 | succ n ih=>
  intro hn
  have ih:=ih (by omega)
  by_cases h:n < T
  ·have hg:(bfQ after (b 0) n)[n]? = some (b n):=by
    rw[ih,List.getElem?_map,List.getElem?_range (by omega)];rfl
   rw[jT hg,ih,ha n (by omega)]
   show adQ _ (b (n+1))=_
   by_cases h2:n+1 < T
   ·rw[jK,Nat.min_eq_left (by omega),Nat.min_eq_left (by omega),List.range_succ (n:=n+1),List.map_append]
    ·rfl
    ·intro hm
     obtain ⟨i,hi,e⟩:=List.mem_map.mp hm
     rw[List.mem_range] at hi
     have:=inj i (n+1) (by omega) h2 e
     omega
   ·have e:n+1=T:=by omega
    rw[kQ,Nat.min_eq_right (by omega),Nat.min_eq_right (by omega)]
    rw[Nat.min_eq_right (by omega),e,hw (by omega)]
    exact List.mem_map.mpr ⟨t,List.mem_range.mpr ht,rfl⟩
  ·have hg:(bfQ after (b 0) n)[n]? = none:=by
    rw[ih,List.getElem?_eq_none];rw[List.length_map,List.length_range];omega
   rw[bfQ,hg]
   simp only
   rw[ih,Nat.min_eq_right (by omega),Nat.min_eq_right (by omega)]
def cy1(p:Nat)(ws:List Str)(k:Nat):Rw:=⟨.n (((k+1) % p:Nat):Int),[((((k+1) % p:Nat):Int),1)],.w (ws.getD k "")⟩
def cy2(p q:Nat)(k:Nat):Rw:=⟨.n ((p+q+k:Nat):Int),[(((p+(k+1) % q:Nat):Int),-1)],.w "out"⟩
def cy3(p q tail:Nat)(k:Nat):Rw:=⟨.n (if k=0/\tail=1 then 0 else ((p+q+k:Nat):Int)),[(((p+q+k:Nat):Int),1)],.w "out"⟩
def cyR(p q tail:Nat)(ws:List Str):List Rw:=(List.range p).map (cy1 p ws)++(List.range q).map (cy2 p q)++(List.range q).map (cy3 p q tail)
section
variable{p q tail:Nat}{ws:List Str}
theorem kW:(cyR p q tail ws).length=p+q+q:=by
 unfold cyR;rw[List.length_append,List.length_append,List.length_map,List.length_map,List.length_map,List.length_range,List.length_range]
theorem yA{k:Nat}(h:k < p):aN (cyR p q tail ws) (k:Int)=cy1 p ws k:=by
 unfold aN
 rw[Int.toNat_natCast,List.getD_eq_getElem?_getD,show (cyR p q tail ws)[k]? = some (cy1 p ws k) from ?_]
 ·rfl
 ·unfold cyR
  rw[List.append_assoc,List.getElem?_append_left (by rw[List.length_map,List.length_range];exact h),List.getElem?_map,List.getElem?_range h];rfl
theorem aHX{k:Nat}(h:k < q):aN (cyR p q tail ws) ((p+k:Nat):Int)=cy2 p q k:=by
 unfold aN
 rw[Int.toNat_natCast,List.getD_eq_getElem?_getD,show (cyR p q tail ws)[p+k]? = some (cy2 p q k) from ?_]
 ·rfl
 ·unfold cyR
  rw[List.getElem?_append_left (by rw[List.length_append,List.length_map,List.length_map,List.length_range,List.length_range];omega),List.getElem?_append_right (by rw[List.length_map,List.length_range];omega),List.length_map,List.length_range,show p+k - p=k by omega,List.getElem?_map,List.getElem?_range h];rfl
theorem aB1{k:Nat}(h:k < q):aN (cyR p q tail ws) ((p+q+k:Nat):Int)=cy3 p q tail k:=by
 unfold aN
 rw[Int.toNat_natCast,List.getD_eq_getElem?_getD,show (cyR p q tail ws)[p+q+k]? = some (cy3 p q tail k) from ?_]
 ·rfl
 ·unfold cyR
  rw[List.getElem?_append_right (by rw[List.length_append,List.length_map,List.length_map,List.length_range,List.length_range];omega),List.length_append,List.length_map,List.length_map,List.length_range,List.length_range,show p+q+k - (p+q)=k by omega,List.getElem?_map,List.getElem?_range h];rfl
theorem aE2(hp:1<=p)(hq:1<=q)(hl:p+q+q<=1000)(hw:∀ k,k < p->ws.getD k ""="by"\/ws.getD k ""="out"):Mach (cyR p q tail ws) 1 where
 len:=by rw[kW];omega
 len2:=by rw[kW];exact hl
 sg1:=by omega
 sg3:=by omega
 row:=fun r hr=>by
  rw[kW]
  unfold cyR at hr
  rcases List.mem_append.mp hr with hr|hr
  ·rcases List.mem_append.mp hr with hr|hr
   ·obtain ⟨k,hk,rfl⟩:=List.mem_map.mp hr
    rw[List.mem_range] at hk
    have:=Nat.mod_lt (k+1) (show p > 0 by omega)
    refine ⟨⟨⟨by omega,by omega⟩,hw k hk,fun c hc=>?_⟩,rfl⟩
    rw[List.mem_singleton.mp hc]
    exact ⟨by show (0:Int)<=(((k+1) % p:Nat):Int);omega,by show (((k+1) % p:Nat):Int) < _;omega,.inl rfl⟩
   ·obtain ⟨k,hk,rfl⟩:=List.mem_map.mp hr
    rw[List.mem_range] at hk
    have:=Nat.mod_lt (k+1) (show q > 0 by omega)
    refine ⟨⟨⟨by omega,by omega⟩,.inr rfl,fun c hc=>?_⟩,rfl⟩
    rw[List.mem_singleton.mp hc]
    exact ⟨by show (0:Int)<=((p+(k+1) % q:Nat):Int);omega,by show ((p+(k+1) % q:Nat):Int) < _;omega,.inr rfl⟩
  ·obtain ⟨k,hk,rfl⟩:=List.mem_map.mp hr
   rw[List.mem_range] at hk
   refine ⟨⟨?_,.inr rfl,fun c hc=>?_⟩,rfl⟩
   ·show 0<=(if k=0/\tail=1 then (0:Int) else ((p+q+k:Nat):Int))/\(if k=0/\tail=1 then (0:Int) else ((p+q+k:Nat):Int)) < _
    split<;>omega
   ·rw[List.mem_singleton.mp hc]
    exact ⟨by show (0:Int)<=((p+q+k:Nat):Int);omega,by show ((p+q+k:Nat):Int) < _;omega,.inl rfl⟩
def az(n:Nat):List Nat:=List.replicate n 97
theorem kX(n:Nat):az n++[97]=az (n+1):=by unfold az;rw[<-List.replicate_succ']
theorem gS{n:Nat}(h:n<=1000):bH 1 (az n):=⟨by unfold az;rw[List.length_replicate];exact h,fun c hc=>by rw[List.eq_of_mem_replicate hc];rfl⟩
theorem aCP{bk:Int->Tn}{k:Nat}(h:k < p):onR (cyR p q tail ws) bk 97 (.n (k:Int))=.n (((k+1) % p:Nat):Int):=by
 have:cQ (cyR p q tail ws) bk 97 (k:Int)=some (.inr (.n (((k+1) % p:Nat):Int))):=by
  unfold cQ;rw[yA h];rfl
 show (bA _ _).getD _=_
 rw[c8 (.out this)];rfl
theorem aJB{bk:Int->Tn}{k:Nat}(h:k < q):onR (cyR p q tail ws) bk 97 (.n ((p+q+k:Nat):Int))=.n ((p+q+k:Nat):Int):=by
 have:cQ (cyR p q tail ws) bk 97 ((p+q+k:Nat):Int)=some (.inr (.n ((p+q+k:Nat):Int))):=by
  unfold cQ;rw[aB1 h];rfl
 show (bA _ _).getD _=_
 rw[c8 (.out this)];rfl
theorem aJC{bk:Int->Tn}{k j:Nat}(h:k < q)(hj:j < q)(hb:bk ((p+(k+1) % q:Nat):Int)=.n ((p+q+j:Nat):Int)):onR (cyR p q tail ws) bk 97 (.n ((p+k:Nat):Int))=.n ((p+q+j:Nat):Int):=by
 have h1:cQ (cyR p q tail ws) bk 97 ((p+k:Nat):Int)=some (.inl ((p+q+j:Nat):Int)):=by
  unfold cQ;rw[aHX h]
  show (if (-1:Int)=1 then _ else match bk ((p+(k+1) % q:Nat):Int) with | .n r=>some (Sum.inl r) | .w x=>some (.inr (Tn.w x)))=_
  rw[if_neg (by decide),hb]
 have h2:cQ (cyR p q tail ws) bk 97 ((p+q+j:Nat):Int)=some (.inr (.n ((p+q+j:Nat):Int))):=by
  unfold cQ;rw[aB1 hj];rfl
 show (bA _ _).getD _=_
 rw[c8 (.go h1 (.out h2))];rfl
theorem yB{k:Nat}(h:k < p+q+q):cB (cyR p q tail ws) (k:Int):=⟨by omega,by rw[kW];omega⟩
structure Cy(p q tail:Nat)(ws:List Str):Prop where
 hp:1<=p
 hq:2<=q
 hl:p+q+q<=1000
 hw:∀ k,k < p->ws.getD k ""="by"\/ws.getD k ""="out"
theorem Cy.m(C:Cy p q tail ws):Mach (cyR p q tail ws) 1:=aE2 C.hp (by have:=C.hq;omega) C.hl C.hw
theorem Cy.r(C:Cy p q tail ws):∀ n,n<=900->dZ (cyR p q tail ws) (az n) (0,0)=.n (((n+1) % p:Nat):Int):=by
 intro n
 have hp:=C.hp
 induction n with
 | zero=>
  intro _
  have h:=yA (q:=q) (tail:=tail) (ws:=ws) (k:=0) (show 0 < p by omega)
  show dZ _ [] (0,0)=_
  rw[jJ,show (0:Int)=((0:Nat):Int) from rfl,h];rfl
 | succ n ih=>
  intro hn
  rw[<-kX,rN C.m (gS (by omega)) rfl,ih (by omega),aCP (Nat.mod_lt _ (by omega)),Nat.mod_add_mod]
theorem Cy.b1(C:Cy p q tail ws){k:Nat}(hk:k < p):∀ n,n<=900->begB (cyR p q tail ws) (az n) (k:Int)=.n (((k+1) % p:Nat):Int):=by
 intro n hn
 cases n with
 | zero=>show dZ _ [] (0,(k:Int))=_;rw[jJ,yA hk];rfl
 | succ n=>rw[<-kX,kA C.m (gS (by omega)) rfl (yB (by omega)),aCP hk]
theorem Cy.b3(C:Cy p q tail ws){k:Nat}(hk:k < q):∀ n,n<=900->begB (cyR p q tail ws) (az n) ((p+q+k:Nat):Int)=.n (if n=0/\k=0/\tail=1 then 0 else ((p+q+k:Nat):Int)):=by
 intro n hn
 cases n with
 | zero=>
  show dZ _ [] (0,((p+q+k:Nat):Int))=_
  rw[jJ,aB1 hk]
  show Tn.n _=Tn.n _
  congr 1
  simp
 | succ n=>rw[<-kX,kA C.m (gS (by omega)) rfl (yB (by omega)),aJB hk,if_neg (by omega)]
theorem Cy.b2(C:Cy p q tail ws):∀ n,n<=900->∀ {k:Nat},k < q->begB (cyR p q tail ws) (az n) ((p+k:Nat):Int)=.n ((p+q+(k+n) % q:Nat):Int):=by
 intro n
 have hq:=C.hq
 induction n with
 | zero=>
  intro _ k hk
  show dZ _ [] (0,((p+k:Nat):Int))=_
  rw[jJ,aHX hk,Nat.add_zero,Nat.mod_eq_of_lt hk];rfl
 | succ n ih=>
  intro hn k hk
  rw[<-kX,kA C.m (gS (by omega)) rfl (yB (by omega))]
  have hm:=Nat.mod_lt (k+1) (show q > 0 by omega)
  rw[aJC hk (j:=(k+(n+1)) % q) (Nat.mod_lt _ (by omega))]
  rw[ih (by omega) hm]
  congr 3
  rw[Nat.mod_add_mod]
  congr 1
  omega
noncomputable def cb(p q tail:Nat)(ws:List Str)(n:Nat):PyData:=aV (cyR p q tail ws) (az n)
theorem aK2{i j:Int}(h:(Tn.n i).d=(Tn.n j).d):i=j:=fJ _ _ h
theorem aAI(C:Cy p q tail ws){n m:Nat}(hn:n<=900)(hm:m<=900):cb p q tail ws n=cb p q tail ws m↔n % p=m % p/\n % q=m % q/\(tail=1->(n=0↔m=0)):=by
 have hp:=C.hp
 have hq:=C.hq
 constructor
 ·intro h
  unfold cb aV fC at h
  injection h with h
  injection h with h1 h2
  injection h2 with h2
  injection h2 with h2
  have hb:∀ k,k < p+q+q->begB (cyR p q tail ws) (az n) (k:Int)=begB (cyR p q tail ws) (az m) (k:Int):=fun k hk=>by
   rw[List.map_map,List.map_map] at h2
   have:=congrArg (fun l=>l[k]?) h2
   simp only[List.getElem?_map,kW,List.getElem?_range hk,Option.map_some,Option.some.injEq,Function.comp] at this
   generalize begB (cyR p q tail ws) (az n) (k:Int)=x at this
   generalize begB (cyR p q tail ws) (az m) (k:Int)=y at this
   cases x<;>cases y<;>simp[Tn.d] at this ⊢<;>exact this
  have e1:(n+1) % p=(m+1) % p:=by
   rw[C.r n hn,C.r m hm] at h1
   have:=aK2 h1
   omega
  have e2:n % q=m % q:=by
   have:=hb (p+0) (by omega)
   rw[C.b2 n hn (by omega),C.b2 m hm (by omega)] at this
   injection this with this
   simp only[Nat.zero_add] at this
   omega
  refine ⟨?_,e2,fun ht=>?_⟩
  ·have:=congrArg (fun x=>(x+(p - 1)) % p) e1
   simp only[Nat.mod_add_mod] at this
   rw[show n+1+(p - 1)=n+p by omega,show m+1+(p - 1)=m+p by omega,Nat.add_mod_right,Nat.add_mod_right] at this
   exact this
  ·have:=hb (p+q+0) (by omega)
   rw[C.b3 (by omega) n hn,C.b3 (by omega) m hm] at this
   injection this with this
   by_cases a:n=0<;>by_cases b:m=0
   ·exact ⟨fun _=>b,fun _=>a⟩
   ·rw[if_pos ⟨a,rfl,ht⟩,if_neg (fun z=>b z.1)] at this;omega
   ·rw[if_neg (fun z=>a z.1),if_pos ⟨b,rfl,ht⟩] at this;omega
   ·exact ⟨fun z=>absurd z a,fun z=>absurd z b⟩
 ·rintro ⟨h1,h2,h3⟩
  unfold cb aV
  rw[C.r n hn,C.r m hm,Nat.add_mod n 1 p,h1,<-Nat.add_mod]
  congr 1
  refine List.map_congr_left fun k hk=>?_
  rw[kW,List.mem_range] at hk
  by_cases a:k < p
  ·rw[C.b1 a n hn,C.b1 a m hm]
  ·by_cases b:k < p+q
   ·have:=C.b2 n hn (k:=k - p) (by omega)
    have z:=C.b2 m hm (k:=k - p) (by omega)
    rw[show p+(k - p)=k by omega] at this z
    rw[this,z,Nat.add_mod (k - p) n q,h2,<-Nat.add_mod]
   ·have:=C.b3 (k:=k - p - q) (by omega) n hn
    have z:=C.b3 (k:=k - p - q) (by omega) m hm
    rw[show p+q+(k - p - q)=k by omega] at this z
    rw[this,z]
    by_cases ht:tail=1
    ·have:=h3 ht
     by_cases n0:n=0
     · rw [show m = 0 from this.mp n0, n0]
     · rw [if_neg (fun z => n0 z.1), if_neg (fun z => n0 (this.mpr z.1))]
    ·rw[if_neg (fun z=>ht z.2.2),if_neg (fun z=>ht z.2.2)]
end
end Mc
namespace Mc
open PySem L2 PyProof.Rows Fl
section
variable{p q tail:Nat}{ws:List Str}
theorem wI{n m p:Nat}(hp:1<=p)(hnm:n<=m)(h:n % p=m % p):p ∣ m - n:=by
 exact Nat.dvd_of_mod_eq_zero (Nat.sub_mod_eq_zero_of_mod_eq h.symm)
theorem aAJ(C:Cy p q tail ws)(ht:tail<=1)(hT:Nat.lcm p q+tail<=900)(i j:Nat)(hi:i < Nat.lcm p q+tail)(hj:j < Nat.lcm p q+tail)(h:cb p q tail ws i=cb p q tail ws j):i=j:=by
 have hp:=C.hp
 have hq:=C.hq
 have key:∀ i j,i<=j->i < Nat.lcm p q+tail->j < Nat.lcm p q+tail->cb p q tail ws i=cb p q tail ws j->i=j:=fun i j hij hi hj h=>by
  obtain ⟨h1,h2,h3⟩:=(aAI C (by omega) (by omega)).mp h
  have hd:Nat.lcm p q ∣ j - i:=Nat.lcm_dvd (wI hp hij h1) (wI (by omega) hij h2)
  rcases Nat.eq_zero_or_pos (j - i) with z|z
  ·omega
  ·have hle:=Nat.le_of_dvd z hd
   by_cases t:tail=1
   ·have:=h3 t
    omega
   ·omega
 rcases Nat.le_total i j with z|z
 ·exact key i j z hi hj h
 ·exact (key j i z hj hi h.symm).symm
theorem uT(C:Cy p q tail ws)(ht:tail<=1)(hT:Nat.lcm p q+tail<=900):cb p q tail ws (Nat.lcm p q+tail)=cb p q tail ws tail:=by
 have hp:=C.hp
 have hq:=C.hq
 have h0:0 < Nat.lcm p q:=Nat.lcm_pos (by omega) (by omega)
 refine (aAI C hT (by omega)).mpr ⟨?_,?_,fun t=>by omega⟩
 ·obtain ⟨c,e⟩:=Nat.dvd_lcm_left p q
  rw[e,Nat.mul_add_mod]
 ·obtain ⟨c,e⟩:=Nat.dvd_lcm_right p q
  rw[e,Nat.mul_add_mod]
theorem uU(C:Cy p q tail ws){n:Nat}(hn:n<=900):afW (cyR p q tail ws) 1 (cb p q tail ws n)=[cb p q tail ws (n+1)]:=by
 unfold cb
 rw[<-uL C.m (gS (by omega)),<-kX]
 rfl
theorem aCQ(C:Cy p q tail ws)(ht:tail<=1)(hT:Nat.lcm p q+tail<=800)(n:Nat)(hn:n<=800):bfW (cyR p q tail ws) 1 n=(List.range (min (n+1) (Nat.lcm p q+tail))).map (cb p q tail ws):=by
 have hp:=C.hp
 have hq:=C.hq
 have h0:0 < Nat.lcm p q:=Nat.lcm_pos (by omega) (by omega)
 exact aB0 (after:=afW (cyR p q tail ws) 1) (b:=cb p q tail ws) (m:=800) (t:=tail) (by omega) (fun n hn=>uU C (by omega)) (aAJ C ht (by omega)) (by omega) (fun _=>uT C ht (by omega)) n hn
theorem aAK(C:Cy p q tail ws)(ht:tail<=1)(hT:Nat.lcm p q+tail<=800)(n:Nat)(hn:n<=800):(bfW (cyR p q tail ws) 1 n).length=min (n+1) (Nat.lcm p q+tail):=by
 rw[aCQ C ht hT n hn,List.length_map,List.length_range]
theorem aB2(C:Cy p q tail ws)(ht:tail<=1)(hT:Nat.lcm p q+tail<=800)(h:200 < Nat.lcm p q+tail):bT [.d (bM (cyR p q tail ws))]=.ex ⟨"TooMany",[]⟩:=by
 obtain ⟨N,hN,E⟩:=wC (cyR p q tail ws) 1 200
 have hl:=aAK C ht hT N (by omega)
 have hf:=z9 C.m E hN
 have:200 < (bfW (cyR p q tail ws) 1 N).length:=by
  rcases E.off with z|z
  · omega
  · exact z
 rw[if_pos this] at hf
 exact hf
def kB(T tail:Nat):List (List Nat):=(List.range T).map fun i=>[if i+1 < T then i+1 else tail]
theorem wJ{b:Nat->PyData}{T i:Nat}(inj:∀ i j,i < T->j < T->b i=b j->i=j)(hi:i < T):nrQ ((List.range T).map b) (b i)=i:=by
 have hm:b i∈(List.range T).map b:=List.mem_map.mpr ⟨i,List.mem_range.mpr hi,rfl⟩
 have h:=uH hm
 have hl:=(List.getElem?_eq_some_iff.mp h).1
 rw[List.length_map,List.length_range] at hl
 rw[List.getElem?_map,List.getElem?_range hl] at h
 exact inj _ _ hl hi (Option.some.inj h)
theorem aJD(C:Cy p q tail ws)(ht:tail<=1)(h:Nat.lcm p q+tail<=200):Wy (cyR p q tail ws) 1 (Nat.lcm p q+tail)/\bT [.d (bM (cyR p q tail ws))]=.ok (.d (rdW (c9 (cyR p q tail ws) 1 (Nat.lcm p q+tail)) (eD (cyR p q tail ws) 1 (Nat.lcm p q+tail)))):=by
 obtain ⟨N,hN,E⟩:=wC (cyR p q tail ws) 1 200
 have hl:=aAK C ht (by omega) N (by omega)
 have hf:=E.full (by omega)
 have e:N=Nat.lcm p q+tail:=by omega
 subst e
 have W:Wy (cyR p q tail ws) 1 (Nat.lcm p q+tail):=⟨C.m,hf,h⟩
 exact ⟨W,aK1 W E⟩
theorem aE3(C:Cy p q tail ws)(ht:tail<=1)(h:Nat.lcm p q+tail<=200):c9 (cyR p q tail ws) 1 (Nat.lcm p q+tail)=kB (Nat.lcm p q+tail) tail:=by
 have hp:=C.hp
 have hq:=C.hq
 have h0:0 < Nat.lcm p q:=Nat.lcm_pos (by omega) (by omega)
 have hinj:=aAJ C ht (by omega)
 unfold c9 kB
 rw[aCQ C ht (by omega) _ (by omega),Nat.min_eq_right (by omega),List.map_map]
 refine List.map_congr_left fun i hi=>?_
 rw[List.mem_range] at hi
 show (afW (cyR p q tail ws) 1 (cb p q tail ws i)).map _=_
 rw[uU C (by omega)]
 show [nrQ _ (cb p q tail ws (i+1))]=_
 by_cases h1:i+1 < Nat.lcm p q+tail
 · rw [if_pos h1, wJ hinj h1]
 · rw [if_neg h1, show i + 1 = Nat.lcm p q + tail by omega, uT C ht (by omega), wJ hinj (by omega)]
theorem aE4(C:Cy p q tail ws){n:Nat}(hn:n<=900):gM (cyR p q tail ws) (az n)=ws.getD ((n+1) % p) "":=by
 have hp:=C.hp
 have hk:=Nat.mod_lt (n+1) (show p > 0 by omega)
 have h:=uA C.m (gS (n:=n) (by omega))
 have h:gM (cyR p q tail ws) (az n)=_:=h
 rw[h,C.r n hn]
 have hs:dM (cyR p q tail ws) (begB (cyR p q tail ws) (az n)) (((n+1) % p:Nat):Int)=some (.inr (ws.getD ((n+1) % p) "")):=by
  unfold dM;rw[yA hk];rfl
 show (bA _ _).getD _=_
 rw[c8 (.out hs)];rfl
end
section
variable{rows:List (List Nat)}{ws:List Str}{sg:Nat}
theorem aJE(M:Rdr rows sg){z:Str}(S:bH sg z.cps.toList):gJ [.d (rdW rows ws),.d (.int 0),.d (.str z)]=.ok (.d (.int (runN rows 0 z.cps.toList:Int))):=by
 have hzl:z.cps.toList.length<=1000:=S.1
 have hi:c6 (.str z)=.ok (z.cps.toList.map fun u:Nat=>PyData.str ⟨#[u]⟩):=aBL (by omega)
 obtain ⟨ρ',q1,q2⟩:=jS (fs:=stN 3) (fb:=rfB) (d:=fun u:Nat=>PyData.str ⟨#[u]⟩) (xs:=z.cps.toList) (ρ:=[some (.d (rdW rows ws)),some (.d (.int 0)),some (.d (.str z)),none])
  (fun i ρ=>∃ (u:Option A),ρ=[some (.d (rdW rows ws)),some (.d (.int (runN rows 0 (z.cps.toList.take i):Int))),some (.d (.str z)),u]) ⟨none,by simp[runN]⟩ fun i c ρ hc zz0=>by
  obtain ⟨u,e⟩:=zz0
  have hcm:=List.mem_of_getElem? hc
  have hs:bR sg c=true:=S.2 c hcm
  have hlt:runN rows 0 (z.cps.toList.take i) < rows.length:=qN M _ (fun d hd=>S.2 d (List.mem_of_mem_take hd)) M.n1
  have ht:z.cps.toList.take (i+1)=z.cps.toList.take i++[c]:=by rw[List.take_succ,hc];rfl
  have hst:=wH M hlt hs
  have hrun:runN rows 0 (z.cps.toList.take (i+1))=jY rows (runN rows 0 (z.cps.toList.take i)) c:=by
   rw[ht];unfold runN;rw[List.foldl_append];rfl
  refine ⟨_,[some (.d (rdW rows ws)),some (.d (.int (runN rows 0 (z.cps.toList.take (i+1)):Int))),some (.d (.str z)),some (.d (.str ⟨#[c]⟩))],by rw[e];rfl,.inl ?_,_,rfl⟩
  have i0:dIx (rdW rows ws) (.int 0)=.ok (.tuple (rows.map eG)):=rfl
  have i1:=wG (ws:=ws.map .str) M hlt
  have i2:dIx (eG (rows.getD (runN rows 0 (z.cps.toList.take i)) [])) (.int ((c - 97:Nat):Int))=.ok (.int (jY rows (runN rows 0 (z.cps.toList.take i)) c:Int)):=iS (d4 (by rw[List.getElem?_map,hst.1];rfl))
  have ia:=aEG (aBM M.s3 hs)
  rw[hrun]
  generalize runN rows 0 (z.cps.toList.take i)=r at *
  simp[-List.getD_eq_getElem?_getD,rfB,i0,i1,ia,i2]
 obtain ⟨u,rfl⟩:=q2
 rw[List.take_length] at q1
 unfold gJ kF
 change fnF 4 (aL (iJ _ (stN 3) rfB) _) _=_
 simp[hi,q1]
theorem aJF{n:Nat}(h1:1<=n)(h3:n<=3){z:Str}(S:bH n z.cps.toList):eS [.d (.int n),.d (.str z)]=.ok (.d (.str z)):=by
 have hzl:=S.1
 have hs:dSl (.str "abc") none (some (n:Int))=.ok (.str (Txt.slice "abc" none (some (n:Int)))):=by
  show (if ("abc":Str).length<=16777216 then R.ok _ else .bad)=_
  exact if_pos (by decide)
 have hn:pI (.str z)=.ok (iK 0 (z.cps.toList.map fun u=>.str ⟨#[u]⟩)):=by
  show (if z.cps.toList.length<=16777216 then R.ok _ else .bad)=_
  exact if_pos (by omega)
 have hl:∀ (cs:List Nat) (k:Nat) (u v:Option A),(∀ c∈cs,bR n c=true)->∃ u' v',i9 (stT [(stN 3),(stN 4)]) (sIf (e1 asB (e2 dNin (rV 4) (rV 2))) oC sNx) (iK k (cs.map fun u=>.str ⟨#[u]⟩)) [some (.d (.int n)),some (.d (.str z)),some (.d (.str (Txt.slice "abc" none (some (n:Int))))),u,v]=.ok (.nx [some (.d (.int n)),some (.d (.str z)),some (.d (.str (Txt.slice "abc" none (some (n:Int))))),u',v']):=by
  intro cs
  induction cs with
  | nil=>intro k u v _;exact ⟨u,v,rfl⟩
  | cons c t ih=>
   intro k u v hc
   have hin:dNin (.str ⟨#[c]⟩) (.str (Txt.slice "abc" none (some (n:Int))))=.ok (.bool false):=by
    show R.ok (PyData.bool (!_))=_
    rw[aAY h1 h3,hc c List.mem_cons_self];rfl
   obtain ⟨u',v',e⟩:=ih (k+1) (some (.d (.int k))) (some (.d (.str ⟨#[c]⟩))) fun d hd=>hc d (List.mem_cons_of_mem _ hd)
   refine ⟨u',v',?_⟩
   rw[List.map_cons,iK]
   unfold i9
   simp[hin,e]
 obtain ⟨u',v',e⟩:=hl z.cps.toList 0 none none S.2
 unfold eS iM
 simp[hs,hn,e]
theorem aJG(M:Rdr rows sg)(hwl:ws.length=rows.length){z:Str}(S:bH sg z.cps.toList):fK [.d (rdW rows ws),.d (.str z)]=.ok (.d (.str (ws.getD (runN rows 0 z.cps.toList) ""))):=by
 have e:=aJE (ws:=ws) M S
 have i0:dIx (rdW rows ws) (.int 0)=.ok (.tuple (rows.map eG)):=rfl
 have i1:=wG (ws:=ws.map .str) M (q:=0) M.n1
 have i1:dIx (.tuple (rows.map eG)) (.int 0)=.ok (eG (rows.getD 0 [])):=i1
 have l1:dLen (eG (rows.getD 0 []))=.ok (.int (sg:Int)):=by unfold eG;rw[t4,List.length_map,(M.at M.n1).2.1]
 have hs:hZ [.d (rdW rows ws)]=.ok (.d (.int (sg:Int))):=by
  unfold hZ lQ
  simp[-List.getD_eq_getElem?_getD,i0,i1,l1]
 have hc:=aJF M.s1 M.s3 S
 have j1:dIx (rdW rows ws) (.int 1)=.ok (.tuple (ws.map .str)):=rfl
 have hlt:=qN M _ S.2 M.n1
 have hw:dIx (.tuple (ws.map .str)) (.int (runN rows 0 z.cps.toList:Int))=.ok (.str (ws.getD (runN rows 0 z.cps.toList) "")):=iS (d4 (by rw[List.getElem?_map,List.getD_eq_getElem?_getD,List.getElem?_eq_getElem (by omega)];rfl))
 unfold fK kH iU kG
 simp[-List.getD_eq_getElem?_getD,hs,hc,e,j1,hw]
theorem aJH{T tail:Nat}(h1:1<=T)(h2:T<=1000)(ht:tail < T):Rdr (kB T tail) 1 where
 n1:=by unfold kB;rw[List.length_map,List.length_range];exact h1
 n2:=by unfold kB;rw[List.length_map,List.length_range];exact h2
 s1:=by omega
 s3:=by omega
 row:=fun r hr=>by
  unfold kB at hr
  obtain ⟨i,hi,rfl⟩:=List.mem_map.mp hr
  refine ⟨rfl,fun j hj=>?_⟩
  rw[List.mem_singleton.mp hj]
  unfold kB
  rw[List.length_map,List.length_range]
  split<;>omega
end
end Mc
namespace Mc
open PySem L2 PyProof.Rows Fl
noncomputable def coT:Sg->R Bool:=(e1 asB (e2 dGt (rV 1) (eC (.int 0))))
noncomputable def coB:Sg->R Fw:=(aL (bF 3 (vD (e2 dMod (rV 0) (rV 1))))
 (aL (bF 0 (vV 1))
 (bF 1 (vV 3))))
theorem aHY:gG=(aL (bF 2 (vD (e2 dMul (rV 0) (rV 1)))) (aL (bK coT coB) (bJ (vD (e2 dDiv (rV 2) (rV 0)))))):=id rfl
theorem aE5(d:PyData):∀ (n b a:Nat) (u:Option A),b<=n->∃ u',bK coT coB [some (.d (.int (a:Int))),some (.d (.int (b:Int))),some (.d d),u]=.ok (.nx [some (.d (.int (Nat.gcd a b:Int))),some (.d (.int 0)),some (.d d),u']):=by
 intro n
 induction n with
 | zero=>
  intro b a u hb
  have:b=0:=by omega
  subst this
  refine ⟨u,?_⟩
  rw[eW (by simp[coT])]
  simp
 | succ n ih=>
  intro b a u hb
  by_cases h0:b=0
  ·subst h0
   refine ⟨u,?_⟩
   rw[eW (by simp[coT])]
   simp
  ·have hlt:=Nat.mod_lt a (show b > 0 by omega)
   obtain ⟨u',e⟩:=ih (a % b) b (some (.d (.int ((a % b:Nat):Int)))) (by omega)
   have hpos:(0:Int) < (b:Int):=by omega
   have hm:dMod (.int (a:Int)) (.int (b:Int))=.ok (.int ((a % b:Nat):Int)):=by rw[dY hpos];rfl
   refine ⟨u',?_⟩
   rw[iZ (ρ':=[some (.d (.int (b:Int))),some (.d (.int ((a % b:Nat):Int))),some (.d d),some (.d (.int ((a % b:Nat):Int)))]) (by
    show e1 asB (e2 dGt (rV 1) (eC (.int 0))) _=_
    simp
    omega) (by simp only[coB];simp[-Int.natCast_emod,hm]),e,show Nat.gcd b (a % b)=Nat.gcd a b from (Nat.gcd_comm b (a % b)).trans ((Nat.gcd_rec b a).symm.trans (Nat.gcd_comm b a))]
theorem aJI{p q:Nat}(hp:1<=p)(hq:1<=q)(hp2:p<=1000)(hq2:q<=1000):dB [.d (.int (p:Int)),.d (.int (q:Int))]=.ok (.d (.int (Nat.lcm p q:Int))):=by
 obtain ⟨u,e⟩:=aE5 (.int ((p:Int) * (q:Int))) q q p none (Nat.le_refl _)
 have hg0:0 < Nat.gcd p q:=Nat.gcd_pos_of_pos_left _ (by omega)
 have hg1:Nat.gcd p q<=p:=Nat.gcd_le_left _ (by omega)
 have hmul:dMul (.int (p:Int)) (.int (q:Int))=.ok (.int ((p:Int) * (q:Int))):=tZ (by omega) (by omega)
 have hdv:dDiv (.int ((p:Int) * (q:Int))) (.int (Nat.gcd p q:Int))=.ok (.int (Nat.lcm p q:Int)):=by
  rw[iY (by omega) (by omega)]
  unfold Nat.lcm
  rfl
 unfold dB
 rw[aHY]
 simp[-Int.natCast_ediv,hmul,e,hdv]
section
variable{p q tail:Nat}{ws:List Str}
noncomputable def cyA:Sg->R Fw:=(gQ 4 (bD (aA (e2 dMod (e2 bE (rV 5) (eC (.int 1))) (rV 0)) (aA (bD (aA (bD (aA (e2 dMod (e2 bE (rV 5) (eC (.int 1))) (rV 0)) (aA (eC (.int 1)) aF))) aF)) (aA (e2 dIx (rV 3) (rV 5)) aF)))))
noncomputable def cyB:Sg->R Fw:=(gQ 4 (bD (aA (e2 bE (e2 bE (rV 0) (rV 1)) (rV 5)) (aA (bD (aA (bD (aA (e2 bE (rV 0) (e2 dMod (e2 bE (rV 5) (eC (.int 1))) (rV 1))) (aA (e1 dNeg (eC (.int 1))) aF))) aF)) (aA (eC (.str "out")) aF)))))
noncomputable def cyC:Sg->R Fw:=(aL (bF 6 (vD (e2 bE (e2 bE (rV 0) (rV 1)) (rV 5))))
 (aL (sIf (n8 (e1 asB (e2 dEq (rV 5) (eC (.int 0)))) (e1 asB (e2 dEq (rV 2) (eC (.int 1))))) (bF 6 (vD (eC (.int 0)))) sNx)
 (gQ 4 (bD (aA (eV 6) (aA (bD (aA (bD (aA (e2 bE (e2 bE (rV 0) (rV 1)) (rV 5)) (aA (eC (.int 1)) aF))) aF)) (aA (eC (.str "out")) aF)))))))
theorem aHZ:gH=(aL (fO 4 (fV aF)) (aL (iJ (dA (rV 0)) (stN 5) cyA) (aL (iJ (dA (rV 1)) (stN 5) cyB) (aL (iJ (dA (rV 1)) (stN 5) cyC) (bJ (vD (e1 dTup (rV 4)))))))):=id rfl
noncomputable def cyρ(p q tail:Nat)(ws:List Str)(X:List PyData)(u v:Option A):Sg:=[some (.d (.int (p:Int))),some (.d (.int (q:Int))),some (.d (.int (tail:Int))),some (.d (.list (ws.map .str))),some (.l X),u,v]
theorem aJJ(C:Cy p q tail ws)(hwl:ws.length=p):dC [.d (.int (p:Int)),.d (.int (q:Int)),.d (.int (tail:Int)),.d (.list (ws.map .str))]=.ok (.d (bM (cyR p q tail ws))):=by
 have hp:=C.hp
 have hq:=C.hq
 have hl:=C.hl
 obtain ⟨ρ1,a1,u1,v1,rfl⟩:=jS (fs:=stN 5) (fb:=cyA) (d:=fun k:Nat=>PyData.int (k:Int)) (xs:=List.range p) (ρ:=cyρ p q tail ws [] none none)
  (fun i ρ=>∃ u v,ρ=cyρ p q tail ws ((List.range i).map fun k=>cG (cy1 p ws k)) u v) ⟨none,none,rfl⟩ (fun i k ρ hk zz0=>by
  obtain ⟨u,v,e⟩:=zz0
  subst e
  have hil:=(List.getElem?_eq_some_iff.mp hk).1
  rw[List.length_range] at hil
  rw[List.getElem?_range hil] at hk
  cases hk
  have hx:dIx (.list (ws.map .str)) (.int (i:Int))=.ok (.str (ws.getD i "")):=lR (d4 (by rw[List.getElem?_map,List.getD_eq_getElem?_getD,List.getElem?_eq_getElem (by omega)];rfl))
  have hm:dMod (.int ((i:Int)+1)) (.int (p:Int))=.ok (.int (((i+1) % p:Nat):Int)):=by rw[dY (by omega)];rfl
  have hlen:((List.range i).map fun k=>cG (cy1 p ws k)).length < 16777216:=by rw[List.length_map,List.length_range];omega
  have hrow:cG (cy1 p ws i)=.tuple [.int (((i+1) % p:Nat):Int),.tuple [.tuple [.int (((i+1) % p:Nat):Int),.int 1]],.str (ws.getD i "")]:=rfl
  refine ⟨cyρ p q tail ws ((List.range i).map fun k=>cG (cy1 p ws k)) (some (.d (.int (i:Int)))) v,cyρ p q tail ws ((List.range (i+1)).map fun k=>cG (cy1 p ws k)) (some (.d (.int (i:Int)))) v,rfl,.inl ?_,_,_,rfl⟩
  rw[List.range_succ,List.map_append]
  show _=R.ok (Fw.nx (cyρ p q tail ws (_++[cG (cy1 p ws i)]) _ _))
  rw[hrow]
  generalize ((List.range i).map fun k=>cG (cy1 p ws k))=X at *
  unfold cyρ cyA
  simp[-Int.natCast_emod,-List.getD_eq_getElem?_getD,hx,hm,hlen])
 rw[List.length_range] at a1
 generalize hX1:((List.range p).map fun k=>cG (cy1 p ws k))=X1 at a1
 have l1:X1.length=p:=by rw[<-hX1,List.length_map,List.length_range]
 obtain ⟨ρ2,a2,u2,v2,rfl⟩:=jS (fs:=stN 5) (fb:=cyB) (d:=fun k:Nat=>PyData.int (k:Int)) (xs:=List.range q) (ρ:=cyρ p q tail ws X1 u1 v1)
  (fun i ρ=>∃ u v,ρ=cyρ p q tail ws (X1++(List.range i).map fun k=>cG (cy2 p q k)) u v) ⟨u1,v1,by simp⟩ (fun i k ρ hk zz0=>by
  obtain ⟨u,v,e⟩:=zz0
  subst e
  have hil:=(List.getElem?_eq_some_iff.mp hk).1
  rw[List.length_range] at hil
  rw[List.getElem?_range hil] at hk
  cases hk
  have hm:dMod (.int ((i:Int)+1)) (.int (q:Int))=.ok (.int (((i+1) % q:Nat):Int)):=by rw[dY (by omega)];rfl
  have hlen:(X1++(List.range i).map fun k=>cG (cy2 p q k)).length < 16777216:=by rw[List.length_append,List.length_map,List.length_range];omega
  have hrow:cG (cy2 p q i)=.tuple [.int ((p:Int)+(q:Int)+(i:Int)),.tuple [.tuple [.int ((p:Int)+(((i+1) % q:Nat):Int)),.int (-1)]],.str "out"]:=by
   show PyData.tuple [.int ((p+q+i:Nat):Int),.tuple [.tuple [.int ((p+(i+1) % q:Nat):Int),.int (-1)]],.str "out"]=_
   rw[Int.natCast_add (p+q) i,Int.natCast_add p q,Int.natCast_add p ((i+1) % q)]
  refine ⟨cyρ p q tail ws (X1++(List.range i).map fun k=>cG (cy2 p q k)) (some (.d (.int (i:Int)))) v,cyρ p q tail ws (X1++(List.range (i+1)).map fun k=>cG (cy2 p q k)) (some (.d (.int (i:Int)))) v,rfl,.inl ?_,_,_,rfl⟩
  rw[List.range_succ,List.map_append,<-List.append_assoc]
  show _=R.ok (Fw.nx (cyρ p q tail ws (_++[cG (cy2 p q i)]) _ _))
  rw[hrow]
  generalize (X1++(List.range i).map fun k=>cG (cy2 p q k))=X at *
  unfold cyρ cyB
  simp[-Int.natCast_emod,hm,hlen])
 rw[List.length_range] at a2
 generalize hX2:(X1++(List.range q).map fun k=>cG (cy2 p q k))=X2 at a2
 have l2:X2.length=p+q:=by rw[<-hX2,List.length_append,l1,List.length_map,List.length_range]
 have dd:=kP
 obtain ⟨ρ3,a3,u3,v3,rfl⟩:=jS (fs:=stN 5) (fb:=cyC) (d:=fun k:Nat=>PyData.int (k:Int)) (xs:=List.range q) (ρ:=cyρ p q tail ws X2 u2 v2)
  (fun i ρ=>∃ u v,ρ=cyρ p q tail ws (X2++(List.range i).map fun k=>cG (cy3 p q tail k)) u v) ⟨u2,v2,by simp⟩ (fun i k ρ hk zz0=>by
  obtain ⟨u,v,e⟩:=zz0
  subst e
  have hil:=(List.getElem?_eq_some_iff.mp hk).1
  rw[List.length_range] at hil
  rw[List.getElem?_range hil] at hk
  cases hk
  have hlen:(X2++(List.range i).map fun k=>cG (cy3 p q tail k)).length < 16777216:=by rw[List.length_append,List.length_map,List.length_range];omega
  have hrow:cG (cy3 p q tail i)=.tuple [.int (if i=0/\tail=1 then 0 else (p:Int)+(q:Int)+(i:Int)),.tuple [.tuple [.int ((p:Int)+(q:Int)+(i:Int)),.int 1]],.str "out"]:=by
   show PyData.tuple [.int (if i=0/\tail=1 then 0 else ((p+q+i:Nat):Int)),.tuple [.tuple [.int ((p+q+i:Nat):Int),.int 1]],.str "out"]=_
   rw[Int.natCast_add (p+q) i,Int.natCast_add p q]
  refine ⟨cyρ p q tail ws (X2++(List.range i).map fun k=>cG (cy3 p q tail k)) (some (.d (.int (i:Int)))) v,cyρ p q tail ws (X2++(List.range (i+1)).map fun k=>cG (cy3 p q tail k)) (some (.d (.int (i:Int)))) (some (.d (.int (if i=0/\tail=1 then 0 else (p:Int)+(q:Int)+(i:Int))))),rfl,.inl ?_,_,_,rfl⟩
  rw[List.range_succ,List.map_append,<-List.append_assoc]
  show _=R.ok (Fw.nx (cyρ p q tail ws (_++[cG (cy3 p q tail i)]) _ _))
  rw[hrow]
  generalize (X2++(List.range i).map fun k=>cG (cy3 p q tail k))=X at *
  unfold cyρ cyC
  by_cases h1:i=0
  ·by_cases h2:tail=1
   ·subst h1 h2;simp[dd,hlen]
   ·have h2':¬ (tail:Int)=1:=by omega
    simp[dd,h1,h2,h2',hlen]
  ·simp[dd,h1,hlen])
 rw[List.length_range] at a3
 have r1:eR 0 (p:Int)=.ok ((List.range p).map fun i:Nat=>.int (i:Int)):=fY (by omega)
 have r2:eR 0 (q:Int)=.ok ((List.range q).map fun i:Nat=>.int (i:Int)):=fY (by omega)
 have hres:bM (cyR p q tail ws)=.tuple (X2++(List.range q).map fun k=>cG (cy3 p q tail k)):=by
  unfold bM cyR
  rw[List.map_append,List.map_append,List.map_map,List.map_map,List.map_map,<-hX2,<-hX1];rfl
 rw[hres]
 unfold dC
 rw[aHZ]
 generalize (X2++(List.range q).map fun k=>cG (cy3 p q tail k))=X3 at *
 unfold cyρ at a1 a2 a3
 simp[r1,r2,a1,a2,a3]
def yC:List Rw:=[⟨.n 0,[(0,1)],.w "by"⟩]
theorem pP(C:Cy p q tail ws)(h:bT [.d (bM (cyR p q tail ws))]=.ex ⟨"TooMany",[]⟩)(i:Nat)(hi:i < 3):bU [.d (bM (cyR p q tail ws)),.d (.int (i:Int))]=.ok (.d (.bool true)):=by
 obtain ⟨r,t,hrs,hr⟩:=C.m.cons
 have hs1:c7 [.d (bM (cyR p q tail ws))]=.ok (.d (.int 1)):=by rw[hrs,qA,hr];rfl
 have hs2:c7 [.d (bM yC)]=.ok (.d (.int 1)):=by unfold yC;rw[qA];rfl
 have hlit:PyData.tuple [.tuple [.int 0,.tuple [.tuple [.int 0,.int 1]],.str "by"]]=bM yC:=rfl
 have hne:dNe (.int 1) (.int 1)=.ok (.bool false):=uS (jC _)
 have hc:f6 [.d (bM (cyR p q tail ws)),.d (bM yC)]=.ex ⟨"TooMany",[]⟩:=by
  unfold f6 jV
  simp[hs1,hs2,hne,h]
 have hlo:f7 [.d (bM (cyR p q tail ws))]=.ex ⟨"TooMany",[]⟩:=by
  unfold f7 jW
  simp[h]
 have dd:=kP
 unfold bU fP
 rcases (show i=0\/i=1\/i=2 by omega) with rfl|rfl|rfl
 ·simp[lX,gIf,jD,Fl.kY,dd,h,hlit]
 ·simp[lX,gIf,jD,Fl.kY,dd,hlo,hlit]
 ·simp[lX,gIf,jD,Fl.kY,dd,hc,hlit]
theorem aH0{m a:PyData}(h:bT [.d m]=.ok (.d a)):bU [.d m,.d (.int 0)]=.ok (.d (.bool false)):=by
 have dd:=kP
 unfold bU fP
 simp[lX,gIf,jD,Fl.kY,dd,h]
end
end Mc
namespace Mc
open PySem L2 PyProof.Rows Fl
noncomputable def l3:Sg->R Fw:=(aL (p7 (stT [(stN 8),(stN 9)]) (eA (a9 1 bT (aA (vV 6) aF))))
 (aL (sIf (bOr (e1 asB (e2 dNe (e1 dLen (rV 8)) (rV 7))) (e1 asB (e2 dNe (e1 dLen (rV 9)) (rV 7)))) (bJ (vD (eC (.bool false)))) sNx)
 (aL (sIf (e1 asB (e2 dNe (rV 8) (e2 bE (e1 dTup (eL (eH [none] (dA (e2 dSub (rV 7) (eC (.int 1)))) (stN 0) gF (bD (aA (e2 bE (rV 0) (eC (.int 1))) aF))))) (bD (aA (bD (aA (eV 4) aF)) aF))))) (bJ (vD (eC (.bool false)))) sNx)
 (aL (bF 10 (vD (e2 dMod (eA (a9 2 cE (aA (vV 0) (aA (vD (eC (.int 21))) aF)))) (eC (.int 401)))))
 (bJ (vD (xH (e2 dEq (eA (a9 2 fK (aA (vD (bD (aA (eV 8) (aA (eV 9) aF)))) (aA (vD (e2 dMulS (eC (.str "a")) (rV 10))) aF)))) (e2 dIx (rV 5) (e2 dMod (e2 bE (rV 10) (eC (.int 1))) (rV 2)))) (e2 dIsB (eA (a9 2 bU (aA (vV 6) (aA (vD (eC (.int 0))) aF)))) (eC (.bool false))))))))))
noncomputable def l2:Sg->R Fw:=(aL (sIf (e1 asB (e2 dGt (rV 7) (eC (.int 200)))) (bJ (vD (e2 dEq (eL (eH [none,some 6] (dA (eC (.int 3))) (stN 0) gF (eA (a9 2 bU (aA (vV 1) (aA (vV 0) aF)))))) (eL (fV (aA (eC (.bool true)) (aA (eC (.bool true)) (aA (eC (.bool true)) aF)))))))) sNx)
 l3)
noncomputable def l1:Sg->R Fw:=(aL (bF 4 (vD (e2 dMod (e2 dDiv (rV 1) (eC (.int 32))) (eC (.int 2)))))
 (aL (fO 5 (eH [none,some 0] (dA (rV 2)) (stN 0) gF (e2 dIx (eL (fV (aA (eC (.str "by")) (aA (eC (.str "out")) aF)))) (e2 dMod (e2 dDiv (eA (a9 2 cE (aA (vV 1) (aA (vD (e2 bE (eC (.int 1)) (e2 dMod (rV 0) (eC (.int 20))))) aF)))) (e2 bE (eC (.int 1)) (rV 0))) (eC (.int 2))))))
 (aL (sFz 5 (bF 6 (a9 4 dC (aA (vV 2) (aA (vV 3) (aA (vV 4) (aA (vV 5) aF)))))))
 (aL (bF 7 (vD (e2 bE (eA (a9 2 dB (aA (vV 2) (aA (vV 3) aF)))) (rV 4))))
 l2))))
theorem aJK:xX=(aL (bF 1 (vD (e2 dMod (eA (a9 2 cE (aA (vV 0) (aA (vD (eC (.int 0))) aF)))) (eC (.int 2147483647)))))
 (aL (p7 (stT [(stN 2),(stN 3)]) (e2 dIx (eL (fV (aA (bD (aA (eC (.int 8)) (aA (eC (.int 25)) aF))) (aA (bD (aA (eC (.int 12)) (aA (eC (.int 17)) aF))) (aA (bD (aA (eC (.int 18)) (aA (eC (.int 11)) aF))) (aA (bD (aA (eC (.int 9)) (aA (eC (.int 22)) aF))) (aA (bD (aA (eC (.int 13)) (aA (eC (.int 15)) aF))) (aA (bD (aA (eC (.int 14)) (aA (eC (.int 15)) aF))) (aA (bD (aA (eC (.int 8)) (aA (eC (.int 25)) aF))) (aA (bD (aA (eC (.int 11)) (aA (eC (.int 18)) aF))) aF)))))))))) (e2 dMod (rV 1) (eC (.int 8)))))
 (aL (sIf (e1 asB (e2 dEq (e2 dMod (e2 dDiv (rV 1) (eC (.int 8))) (eC (.int 4))) (eC (.int 3)))) (aL (bF 2 (vD (e2 bE (eC (.int 1)) (e2 dMod (e2 dDiv (rV 1) (eC (.int 32))) (eC (.int 20))))))
 (bF 3 (vD (e2 bE (eC (.int 2)) (e2 dMod (e2 dDiv (rV 1) (eC (.int 640))) (eC (.int 19))))))) sNx)
 l1))):=id rfl
section
variable{p q tail:Nat}{ws:List Str}
noncomputable def l23(ns:List Int)(v:Int)(p q tail:Nat)(ws:List Str)(T:Nat):Sg:=[some (.d (lT ns)),some (.d (.int v)),some (.d (.int (p:Int))),some (.d (.int (q:Int))),some (.d (.int (tail:Int))),some (.d (.list (ws.map .str))),some (.d (bM (cyR p q tail ws))),some (.d (.int (T:Int))),none,none,none]
theorem aJL{ns:List Int}{v:Int}(C:Cy p q tail ws)(hwl:ws.length=p)(ht:tail<=1)(h:Nat.lcm p q+tail<=200):l3 (l23 ns v p q tail ws (Nat.lcm p q+tail))=.ok (.rt (.d (.bool true))):=by
 have hp:=C.hp
 have hq:=C.hq
 obtain ⟨W,hone⟩:=aJD C ht h
 have hrows:=aE3 C ht h
 have hL:2<=Nat.lcm p q:=by
  have:q ∣ Nat.lcm p q:=Nat.dvd_lcm_right p q
  exact Nat.le_trans hq (Nat.le_of_dvd (Nat.lcm_pos (by omega) (by omega)) this)
 obtain ⟨v21,hv21⟩:=pF ns 21
 obtain ⟨n,hn,hnl⟩:∃ n:Nat,v21 % 401=(n:Int)/\n<=400:=⟨(v21 % 401).toNat,by omega,by omega⟩
 have hm401:dMod (.int v21) (.int 401)=.ok (.int (n:Int)):=by rw[dY (by omega),hn]
 have hmul:dMulS (.str "a") (.int (n:Int))=.ok (.str ⟨(az n).toArray⟩):=by
  have hz:(Str.ofString "a").length<=1000/\(0:Int)<=(n:Int)/\(n:Int)<=1000:=⟨by decide,by omega,by omega⟩
  show (if (Str.ofString "a").length<=1000/\(0:Int)<=(n:Int)/\(n:Int)<=1000 then R.ok (PyData.str (Txt.mul (Str.ofString "a") (n:Int))) else R.bad)=_
  rw[if_pos hz,show Str.ofString "a"=⟨#[97]⟩ by decide,aEY];rfl
 have S:bH 1 (⟨(az n).toArray⟩:Str).cps.toList:=gS (by omega)
 have hwwl:(eD (cyR p q tail ws) 1 (Nat.lcm p q+tail)).length=Nat.lcm p q+tail:=by unfold eD;rw[List.length_map,W.zlen]
 have hrl:=W.rows_len
 have hRd:Rdr (c9 (cyR p q tail ws) 1 (Nat.lcm p q+tail)) 1:=by rw[hrows];exact aJH (by omega) (by omega) (by omega)
 have hwb:=aJG (ws:=eD (cyR p q tail ws) 1 (Nat.lcm p q+tail)) hRd (by rw[hwwl,hrl]) S
 have hsay:=W.says S
 have hwd:gM (cyR p q tail ws) (⟨(az n).toArray⟩:Str).cps.toList=ws.getD ((n+1) % p) "":=aE4 C (by omega)
 rw[hsay,hwd] at hwb
 have hk:=Nat.mod_lt (n+1) (show p > 0 by omega)
 have hx:dIx (.list (ws.map .str)) (.int (((n+1) % p:Nat):Int))=.ok (.str (ws.getD ((n+1) % p) "")):=lR (d4 (by rw[List.getElem?_map,List.getD_eq_getElem?_getD,List.getElem?_eq_getElem (by omega)];rfl))
 have hmp:dMod (.int ((n:Int)+1)) (.int (p:Int))=.ok (.int (((n+1) % p:Nat):Int)):=by rw[dY (by omega)];rfl
 have hw:=C.hw _ hk
 have heq:dEq (.str (ws.getD ((n+1) % p) "")) (.str (ws.getD ((n+1) % p) ""))=.ok (.bool true):=by
  have hw':ws.getD ((n+1) % p) ""="by"\/ws.getD ((n+1) % p) ""="out"\/ws.getD ((n+1) % p) ""="ever":=hw.elim .inl fun z=>.inr (.inl z)
  rw[aHL hw' hw',decide_eq_true rfl]
 have hmn:=aH0 hone
 generalize hT:Nat.lcm p q+tail=T at *
 have hRD:(c9 (cyR p q tail ws) 1 T).map eG=((List.range (T - 1)).map fun k:Nat=>PyData.tuple [.int ((k:Int)+1)])++[.tuple [.int (tail:Int)]]:=by
  rw[hrows]
  unfold kB
  conv=>lhs;rw[show T=(T - 1)+1 by omega,List.range_succ,List.map_append,List.map_append,List.map_map]
  congr 1
  ·refine List.map_congr_left fun k hk=>?_
   rw[List.mem_range] at hk
   show eG [if k+1 < T - 1+1 then k+1 else tail]=_
   rw[if_pos (by omega)]
   show PyData.tuple [.int ((k+1:Nat):Int)]=_
   rw[Int.natCast_add];rfl
  ·show [eG [if T - 1+1 < T - 1+1 then T - 1+1 else tail]]=_
   rw[if_neg (by omega)];rfl
 have hrl2:dLen (.tuple ((c9 (cyR p q tail ws) 1 T).map eG))=.ok (.int (T:Int)):=by rw[t4,List.length_map,hrl]
 have hwl2:dLen (.tuple ((eD (cyR p q tail ws) 1 T).map .str))=.ok (.int (T:Int)):=by rw[t4,List.length_map,hwwl]
 have hne:dNe (.int (T:Int)) (.int (T:Int))=.ok (.bool false):=uS (jC _)
 have hrg:eR 0 ((T:Int) - 1)=.ok ((List.range (T - 1)).map fun i:Nat=>.int (i:Int)):=by
  have:=fY (n:=T - 1) (by omega)
  rw[show (((T - 1:Nat)):Int)=(T:Int) - 1 by omega] at this
  exact this
 have hcm:=eE (fs:=stN 0) (fe:=bD (aA (e2 bE (rV 0) (eC (.int 1))) aF)) (ρ0:=[none]) (d:=fun i:Nat=>.int (i:Int)) (g:=fun k:Nat=>PyData.tuple [.int ((k:Int)+1)]) (xs:=List.range (T - 1)) fun k _=>⟨_,rfl,by simp⟩
 have hadd:bE (.tuple ((List.range (T - 1)).map fun k:Nat=>PyData.tuple [.int ((k:Int)+1)])) (.tuple [.tuple [.int (tail:Int)]])=.ok (.tuple ((c9 (cyR p q tail ws) 1 T).map eG)):=by
  rw[aG6 (by
   cases e:(List.range (T - 1)).map fun k:Nat=>PyData.tuple [.int ((k:Int)+1)] with
   | nil=>have:=congrArg List.length e;rw[List.length_map,List.length_range,List.length_nil] at this;omega
   | cons x t=>rfl) (by rw[List.length_map,List.length_range];simp;omega),hRD]
 have hner:dNe (.tuple ((c9 (cyR p q tail ws) 1 T).map eG)) (.tuple ((c9 (cyR p q tail ws) 1 T).map eG))=.ok (.bool false):=uS (Sh.shaped (n:=2) (sh_tup fun x hx=>by
  obtain ⟨r,_,rfl⟩:=List.mem_map.mp hx
  exact sh_tup fun y hy=>by
   obtain ⟨j,_,rfl⟩:=List.mem_map.mp hy
   exact yV _ _) (by decide))
 have hun:rdW (c9 (cyR p q tail ws) 1 T) (eD (cyR p q tail ws) 1 T)=.tuple [.tuple ((c9 (cyR p q tail ws) 1 T).map eG),.tuple ((eD (cyR p q tail ws) 1 T).map .str)]:=rfl
 rw[hun] at hone hwb
 have hisb:dIsB (.bool false) (.bool false)=.ok (.bool true):=rfl
 unfold l23
 generalize (c9 (cyR p q tail ws) 1 T).map eG=RD at *
 generalize (eD (cyR p q tail ws) 1 T).map PyData.str=WD at *
 generalize ((List.range (T - 1)).map fun k:Nat=>PyData.tuple [.int ((k:Int)+1)])=CD at *
 generalize bM (cyR p q tail ws)=MD at *
 unfold l3
 simp[-List.getD_eq_getElem?_getD,-Int.natCast_emod,hone,hrl2,hwl2,hne,hrg,fA,hcm,hadd,hner,hv21,hm401,hmul,hwb,hmp,hx,heq,hmn,hisb]
theorem aJM{ns:List Int}{v:Int}(C:Cy p q tail ws)(hwl:ws.length=p)(ht:tail<=1)(hT:Nat.lcm p q+tail<=800):l2 (l23 ns v p q tail ws (Nat.lcm p q+tail))=.ok (.rt (.d (.bool true))):=by
 by_cases h:Nat.lcm p q+tail<=200
 ·have:=aJL (ns:=ns) (v:=v) C hwl ht h
  unfold l23 at this ⊢
  have hn:¬ (200:Int) < ((Nat.lcm p q+tail:Nat):Int):=by omega
  generalize Nat.lcm p q+tail=T at *
  unfold l2
  simp[hn,this]
 ·have hm:=aB2 C ht hT (by omega)
  have h0:=pP C hm 0 (by omega)
  have h1:=pP C hm 1 (by omega)
  have h2:=pP C hm 2 (by omega)
  have hn:(200:Int) < ((Nat.lcm p q+tail:Nat):Int):=by omega
  have hr:eR 0 3=.ok ((List.range 3).map fun i:Nat=>.int (i:Int)):=fY (n:=3) (by omega)
  have hc:=eE (fs:=stN 0) (fe:=eA (a9 2 bU (aA (vV 1) (aA (vV 0) aF)))) (ρ0:=[none,some (.d (bM (cyR p q tail ws)))]) (d:=fun i:Nat=>PyData.int (i:Int)) (g:=fun _=>PyData.bool true) (xs:=List.range 3) fun i hi=>⟨_,rfl,by
   have:=pP C hm i (List.mem_range.mp hi)
   simp[this]⟩
  have he:dEq (.list ((List.range 3).map fun _=>PyData.bool true)) (.list [.bool true,.bool true,.bool true])=.ok (.bool true):=aHU rfl
  generalize hX:((List.range 3).map fun _:Nat=>PyData.bool true)=X at *
  unfold l23
  generalize bM (cyR p q tail ws)=MD at *
  generalize Nat.lcm p q+tail=T at *
  unfold l2
  simp[hn,hr,fA,hc,he]
noncomputable def cw(ns:List Int)(k:Nat):Int:=(pF ns (1+(k:Int) % 20)).choose
noncomputable def wd(ns:List Int)(k:Nat):Str:=if cw ns k / (1+(k:Int)) % 2=0 then "by" else "out"
noncomputable def lρ(ns:List Int)(v:Int)(p q:Nat):Sg:=[some (.d (lT ns)),some (.d (.int v)),some (.d (.int (p:Int))),some (.d (.int (q:Int))),none,none,none,none,none,none,none]
theorem aCR{ns:List Int}{v:Int}(hp:1<=p)(hp2:p<=20)(hq:2<=q)(hq2:q<=25):l1 (lρ ns v p q)=.ok (.rt (.d (.bool true))):=by
 obtain ⟨tail,ht0,ht⟩:∃ n:Nat,v / 32 % 2=(n:Int)/\n<=1:=⟨(v / 32 % 2).toNat,by omega,by omega⟩
 have d32:dDiv (.int v) (.int 32)=.ok (.int (v / 32)):=iY (by omega) (by omega)
 have m2:∀ x:Int,dMod (.int x) (.int 2)=.ok (.int (x % 2)):=fun x=>dY (by omega)
 have m20:∀ x:Int,dMod (.int x) (.int 20)=.ok (.int (x % 20)):=fun x=>dY (by omega)
 have hr:eR 0 (p:Int)=.ok ((List.range p).map fun i:Nat=>.int (i:Int)):=fY (by omega)
 have hc:=eE (fs:=stN 0) (fe:=(e2 dIx (eL (fV (aA (eC (.str "by")) (aA (eC (.str "out")) aF)))) (e2 dMod (e2 dDiv (eA (a9 2 cE (aA (vV 1) (aA (vD (e2 bE (eC (.int 1)) (e2 dMod (rV 0) (eC (.int 20))))) aF)))) (e2 bE (eC (.int 1)) (rV 0))) (eC (.int 2))))) (ρ0:=[none,some (.d (lT ns))]) (d:=fun i:Nat=>PyData.int (i:Int)) (g:=fun k=>PyData.str (wd ns k)) (xs:=List.range p) fun k hk=>⟨_,rfl,by
  have hck:cE [.d (lT ns),.d (.int (1+(k:Int) % 20))]=.ok (.d (.int (cw ns k))):=(pF ns (1+(k:Int) % 20)).choose_spec
  have hkl:=List.mem_range.mp hk
  have hd:dDiv (.int (cw ns k)) (.int (1+(k:Int)))=.ok (.int (cw ns k / (1+(k:Int)))):=iY (by omega) (by omega)
  have hx:dIx (.list [.str "by",.str "out"]) (.int (cw ns k / (1+(k:Int)) % 2))=.ok (.str (wd ns k)):=by
   unfold wd
   by_cases h:cw ns k / (1+(k:Int)) % 2=0
   · rw [if_pos h, h]; simp
   · rw [if_neg h, show cw ns k / (1 + (k : Int)) % 2 = 1 by omega]; simp
  simp[m20,hck,hd,m2,hx]⟩
 have hws:((List.range p).map fun k=>PyData.str (wd ns k))=((List.range p).map (wd ns)).map .str:=by rw[List.map_map];rfl
 rw[hws] at hc
 have hwl:((List.range p).map (wd ns)).length=p:=by rw[List.length_map,List.length_range]
 have C:Cy p q tail ((List.range p).map (wd ns)):=⟨hp,hq,by omega,fun k hk=>by
  rw[List.getD_eq_getElem?_getD,List.getElem?_map,List.getElem?_range hk]
  show wd ns k=_\/wd ns k=_
  unfold wd
  split
  ·exact .inl rfl
  ·exact .inr rfl⟩
 have hcy:=aJJ C hwl
 have hco:=aJI hp (show 1<=q by omega) (by omega) (by omega)
 have hlcm:Nat.lcm p q<=500:=Nat.le_trans (Nat.le_of_dvd (Nat.mul_pos (by omega) (by omega)) (Nat.lcm_dvd (Nat.dvd_mul_right p q) (Nat.dvd_mul_left q p))) (Nat.mul_le_mul hp2 hq2)
 have h2:=aJM (ns:=ns) (v:=v) C hwl ht (by omega)
 have hsum:bE (.int (Nat.lcm p q:Int)) (.int (tail:Int))=.ok (.int ((Nat.lcm p q+tail:Nat):Int)):=by rw[zV,Int.natCast_add]
 have hmt:dMod (.int (v / 32)) (.int 2)=.ok (.int (tail:Int)):=by rw[m2,ht0]
 unfold l23 at h2
 generalize Nat.lcm p q+tail=T at *
 generalize (Nat.lcm p q:Int)=LL at *
 generalize bM (cyR p q tail ((List.range p).map (wd ns)))=MD at *
 generalize ((List.range p).map (wd ns)).map PyData.str=WD at *
 unfold l1 lρ
 simp[-zV,d32,hmt,hr,fA,hc,fz,hcy,hco,hsum,h2]
end
theorem aB3(ns:List Int)(hlen:ns.length<=63):sB [.d (.list (ns.map .int))]=.ok (.d (.bool true)):=by
 show sB [.d (lT ns)]=_
 obtain ⟨v0,hv0⟩:=pF ns 0
 have hm0:dMod (.int v0) (.int 2147483647)=.ok (.int (v0 % 2147483647)):=dY (by omega)
 generalize v0 % 2147483647=v at hm0
 have m8:dMod (.int v) (.int 8)=.ok (.int (v % 8)):=dY (by omega)
 have m4:∀ x:Int,dMod (.int x) (.int 4)=.ok (.int (x % 4)):=fun x=>dY (by omega)
 have m20:∀ x:Int,dMod (.int x) (.int 20)=.ok (.int (x % 20)):=fun x=>dY (by omega)
 have m19:∀ x:Int,dMod (.int x) (.int 19)=.ok (.int (x % 19)):=fun x=>dY (by omega)
 have d8:dDiv (.int v) (.int 8)=.ok (.int (v / 8)):=iY (by omega) (by omega)
 have d32:dDiv (.int v) (.int 32)=.ok (.int (v / 32)):=iY (by omega) (by omega)
 have d640:dDiv (.int v) (.int 640)=.ok (.int (v / 640)):=iY (by omega) (by omega)
 obtain ⟨p,q,hx,hp,hp2,hq,hq2⟩:∃ p q:Nat,dIx (.list [.tuple [.int 8,.int 25],.tuple [.int 12,.int 17],.tuple [.int 18,.int 11],.tuple [.int 9,.int 22],.tuple [.int 13,.int 15],.tuple [.int 14,.int 15],.tuple [.int 8,.int 25],.tuple [.int 11,.int 18]]) (.int (v % 8))=.ok (.tuple [.int (p:Int),.int (q:Int)])/\1<=p/\p<=20/\2<=q/\q<=25:=by
  rcases (show v % 8=0\/v % 8=1\/v % 8=2\/v % 8=3\/v % 8=4\/v % 8=5\/v % 8=6\/v % 8=7 by omega) with h|h|h|h|h|h|h|h<;>rw[h]
  · exact ⟨8, 25, rfl, by decide, by decide, by decide, by decide⟩
  · exact ⟨12, 17, rfl, by decide, by decide, by decide, by decide⟩
  · exact ⟨18, 11, rfl, by decide, by decide, by decide, by decide⟩
  · exact ⟨9, 22, rfl, by decide, by decide, by decide, by decide⟩
  · exact ⟨13, 15, rfl, by decide, by decide, by decide, by decide⟩
  · exact ⟨14, 15, rfl, by decide, by decide, by decide, by decide⟩
  · exact ⟨8, 25, rfl, by decide, by decide, by decide, by decide⟩
  · exact ⟨11, 18, rfl, by decide, by decide, by decide, by decide⟩
 have dd:=kP
 unfold sB
 rw[aJK]
 by_cases h:v / 8 % 4=3
 ·obtain ⟨p',e1,p1,p2⟩:∃ n:Nat,1+v / 32 % 20=(n:Int)/\1<=n/\n<=20:=⟨(1+v / 32 % 20).toNat,by omega,by omega,by omega⟩
  obtain ⟨q',e2,q1,q2⟩:∃ n:Nat,2+v / 640 % 19=(n:Int)/\2<=n/\n<=20:=⟨(2+v / 640 % 19).toNat,by omega,by omega,by omega⟩
  have h1:=aCR (ns:=ns) (v:=v) p1 p2 q1 (show q'<=25 by omega)
  unfold lρ at h1
  simp[hv0,hm0,m8,hx,stT,d8,m4,dd,h,d32,m20,e1,d640,m19,e2,h1]
 ·have h1:=aCR (ns:=ns) (v:=v) hp hp2 hq hq2
  unfold lρ at h1
  simp[hv0,hm0,m8,hx,stT,d8,m4,dd,h,h1]
end Mc
namespace Mc
open PySem L2 PyProof.Rows Fl
section
variable{P:Program}{w:World}{K:Frag}{mg:Str->Option Value}{base:Heap}{TH:Hp}
theorem aE6(T:Txt w K mg)(Erp_TooMany:∃ W C,ErrP K mg "TooMany" W C)(D7:DefAt K mg "signs_of" (top 7) ["machine"])(D8:DefAt K mg "cells_of" (top 8) ["machine","number"])(D9:DefAt K mg "checked_by" (top 9) ["signs","strip"])(D11:DefAt K mg "reached" (top 11) ["begin","after","done"])(D17:DefAt K mg "is_word" (top 17) ["part"])(D18:DefAt K mg "without_signs" (top 18) ["machine"])(D19:DefAt K mg "gone_on" (top 19) ["backs","cells","room"])(D20:DefAt K mg "longer" (top 20) ["begun","cells"])(D21:DefAt K mg "word_behind" (top 21) ["machine","begun"])(D22:DefAtT K mg base TH qsT "one_way" (top 22) ["machine"])(D23:DefAt K mg "signs_by" (top 23) ["reader"])(D24:DefAt K mg "room_from" (top 24) ["reader","room","strip"])(D25:DefAt K mg "room_by" (top 25) ["reader","strip"])(D26:DefAt K mg "word_by" (top 26) ["reader","strip"])(D32:DefAt K mg "held" (top 32) ["one","other"])(D33:DefAt K mg "compared" (top 33) ["one","other"])(D39:DefAt K mg "least" (top 39) ["reader"])(D40:DefAt K mg "least_of" (top 40) ["machine"])(D42:DefAt K mg "_law_cell" (top 42) ["_law_script","_law_k"])(D43:DefAt K mg "_law_common" (top 43) ["_law_a","_law_b"])(D44:DefAt K mg "_law_cycles" (top 44) ["_law_p","_law_q","_law_tail","_law_words"])(D45:DefAt K mg "_law_many" (top 45) ["_law_machine","_law_how"]){fL:Addr}{fdL:FuncData}(FL:Fun K "law" "law" (top 46) fL fdL):FnOk P w K mg base (CXe P w) 17 fL fdL ["_law_script"] (xM K TH):=by
 obtain ⟨Wp_TooMany,Cp_TooMany,erp_TooMany⟩:=Erp_TooMany
 have c_signs_of:=@u4 P w K mg base TH T D7
 have c_cells_of:=@u5 P w K mg base TH T D8
 have c_checked_by:=@rW P w K mg base TH T D9
 have c_reached:=@xY P w K mg base TH T D11
 have c_is_word:=@xZ P w K mg base TH T D17
 have c_without_signs:=@oN P w K mg base TH T D18
 have c_gone_on:=@x5 P w K mg base TH T D19 c_is_word
 have c_longer:=@aAE P w K mg base TH T D20 c_gone_on
 have c_word_behind:=@qJ P w K mg base TH T D21 c_is_word
 have c_one_way:=x6 (P:=P) (w:=w) (base:=base) (TH:=TH) T D22 c_signs_of c_cells_of c_longer c_reached c_without_signs c_word_behind erp_TooMany
 have c_signs_by:=@u6 P w K mg base TH T D23
 have c_room_from:=@uN P w K mg base TH T D24
 have c_room_by:=@x8 P w K mg base TH T D25 c_room_from c_checked_by c_signs_by
 have c_word_by:=@x9 P w K mg base TH T D26 c_room_by
 have c_held:=@aE0 P w K mg base TH T D32
 have c_compared:=@u7 P w K mg base TH T D33 c_signs_of c_held c_one_way
 have c_least:=@aBX P w K mg base TH T D39
 have c_least_of:=@u8 P w K mg base TH T D40 c_least c_one_way
 have c__law_cell:=@uP P w K mg base TH T D42
 have c__law_common:=@qK P w K mg base TH T D43
 have c__law_cycles:=@qL P w K mg base TH T D44
 have c__law_many:=uQ (P:=P) (w:=w) (base:=base) (TH:=TH) T D45 c_compared c_least_of c_one_way erp_TooMany
 exact aGM (aHT (P:=P) (w:=w) (base:=base) (TH:=TH) T FL c__law_cell c__law_cycles c__law_common c__law_many c_one_way c_word_by) aB3
end
section
variable{w:World}{K:Frag}{h:Heap}{mg:Str->Option Value}
theorem aH1(X:K.In h)(G:h.Ns mainGlobals mg){t_MOST_BEGINNINGS:Nat}{t_SIGNS:Nat}(z_enumerate:PySem.W.nsIn K mainGlobals "enumerate"=some none)(z_isinstance:PySem.W.nsIn K mainGlobals "isinstance"=some none)(z_len:PySem.W.nsIn K mainGlobals "len"=some none)(z_range:PySem.W.nsIn K mainGlobals "range"=some none)(z_str:PySem.W.nsIn K mainGlobals "str"=some none)(z_tuple:PySem.W.nsIn K mainGlobals "tuple"=some none)(s_MOST_BEGINNINGS:PySem.W.nsIn K mainGlobals "MOST_BEGINNINGS"=some (some (.int 200 t_MOST_BEGINNINGS)))(s_SIGNS:PySem.W.nsIn K mainGlobals "SIGNS"=some (some (.str "abc" t_SIGNS))):Txt w K mg:=⟨PySem.W.mg_none_of X G z_enumerate,PySem.W.mg_none_of X G z_isinstance,PySem.W.mg_none_of X G z_len,PySem.W.mg_none_of X G z_range,PySem.W.mg_none_of X G z_str,PySem.W.mg_none_of X G z_tuple,⟨t_MOST_BEGINNINGS,PySem.W.mg_of X G s_MOST_BEGINNINGS⟩,⟨t_SIGNS,PySem.W.mg_of X G s_SIGNS⟩⟩
theorem aH2{x:Str}(X:K.In h)(G:h.Ns mainGlobals mg){W C NC:Addr}{bsC subC:List Value}{nmC qC:Str}{abC:Bool}{snC:List Str}{colC:Option Bool}{ddC:Option Addr}{c0 c1 c2 c3 c5:Option Value}{wc:Value}{wd:Option Addr}{cd:ClassData}{wsl:Array (Option Value)}
  (m:PySem.W.nsIn K mainGlobals x=some (some (.ref C)))
  (e1:K.lookup C=some (excClassObj nmC qC C NC bsC (.ref W::SX.gD) true snC subC abC colC ddC c0 c1 c2 c3 c5 "ValueError.__new__"))
  (e2:PySem.W.findIn K (.ref C) "__setattr__"=some (some (.builtin "object.__setattr__"))) (e3:PySem.W.findIn K (.ref C) "__getattribute__"=some (some (.builtin "BaseException.__getattribute__"))) (e4:PySem.W.findIn K (.ref C) "__getattr__"=some none) (e5:PySem.W.findIn K (.ref C) "__class__"=some (some (.builtin "object.__class__")))
  (e6:PySem.W.specialIn K (.builtin "object.__class__") "__get__"=some (some (.builtin "getset_descriptor.__get__"))) (e7:PySem.W.takesIn K (.builtin "object.__class__")=some true) (e8:PySem.W.keepIn K (.ref C)=true)
  (n1:PySem.W.nsOkIn K NC=true) (n2:PySem.W.nsIn K NC "__init__"=some none) (w1:K.lookup W=some ⟨wc,wd,.cls cd,wsl⟩) (w2:PySem.W.nsOkIn K cd.ns=true) (w3:PySem.W.nsIn K cd.ns "__init__"=some none):∃ W C,ErrP K mg x W C:=
 ⟨W,C,aC6 e1 e2 e3 e4 e5 e6 e7 e8,PySem.W.mg_of X G m,⟨_,_,NC,_,_,_,_,_,_,_,_,_,_,_,e1,n1,n2⟩,⟨_,_,cd,_,w1,w2,w3⟩⟩
theorem rec_in{q:Program}{x:Str}(h:((recsOf q).any fun d=>d.name == x)=true):∃ d∈recsOf q,d.name=x:=by
 obtain ⟨d,hd,e⟩:=List.any_eq_true.mp h
 exact ⟨d,hd,eq_of_beq e⟩
theorem aH3{fa f:Addr}{oc:Value}{od an:Option Addr}{osl:Array (Option Value)}{kV doc pm cdv ct:Value}(X:K.In h)(G:h.Ns mainGlobals mg)(hmg:mg "law"=some (.ref fa))(a:PySem.W.nsIn K mainGlobals "law"=some (some (.ref f)))(l:K.lookup f=some ⟨oc,od,.func (PySem.W.fnOf "law" "law" (eM (top 46)) (cI (top 46)) (aJ (top 46)) .none kV doc pm an cdv ct),osl⟩)
  (c:PySem.W.codeIn K cdv "law"=true) (k:PySem.W.keepIn K (.ref f)=true):∃ fd,Fun K "law" "law" (top 46) fa fd/\∀ (s:Shared) (u:Value),BindsTo s fd ⟨[u],[]⟩ [("_law_script",u)]:=by
 have e:=hmg.symm.trans (PySem.W.mg_of X G a)
 cases e
 exact ⟨_,yO (st:=top 46) l c k,fun s u=>.of_eq rfl⟩
end
end Mc
open PySem PySem.W PyProof.Rows
set_option maxRecDepth 100000 in
set_option maxHeartbeats 0 in
theorem PySem.Challenge.cw_striproam_k23_two_hundred_beginnings_holds : PySem.Challenge.rw_striproam_k23_two_hundred_beginnings.Holds := by
 w_on;o_law;k_head;(case hw=>w_witness2)
 k_fill
 refine Fl.aDS (l:=PySem.Challenge.rw_striproam_k23_two_hundred_beginnings) (k:=17) (x:="_law_script") (qs:=Mc.qsT) (xs:=["one_way"]) ?hx ?hNT rfl rfl ⟨rfl,by decide,by decide⟩ (fun w h Y=>PySem.W.km_in_of Y) ?F
 case hx=>
  intro x hx
  simp only[List.mem_cons,List.not_mem_nil,or_false] at hx
  rcases hx with rfl<;>exact Mc.rec_in (by decide +kernel)
 case hNT=>
  intro w
  kernel_rfl
 case F=>
  intro w mg fa h KX G hmg
  have D7:L2.DefAt (L2.KOf KX) mg "signs_of" (Mc.top 7) ["machine"]:=by dsimp only[L2.KOf];refine' Mc.bP KX G ?a ?l ?c ?k ?b;(case a=>k_is);(case l=>k_is);(case c=>k_is);(case k=>k_is);(case b=>exact fun _ _ _ _ _ _=>Mc.bn1 fun _=>rfl)
  have D8:L2.DefAt (L2.KOf KX) mg "cells_of" (Mc.top 8) ["machine","number"]:=by dsimp only[L2.KOf];refine' Mc.bP KX G ?a ?l ?c ?k ?b;(case a=>k_is);(case l=>k_is);(case c=>k_is);(case k=>k_is);(case b=>exact fun _ _ _ _ _ _=>Mc.bn2 fun _ _=>rfl)
  have D9:L2.DefAt (L2.KOf KX) mg "checked_by" (Mc.top 9) ["signs","strip"]:=by dsimp only[L2.KOf];refine' Mc.bP KX G ?a ?l ?c ?k ?b;(case a=>k_is);(case l=>k_is);(case c=>k_is);(case k=>k_is);(case b=>exact fun _ _ _ _ _ _=>Mc.bn2 fun _ _=>rfl)
  have D11:L2.DefAt (L2.KOf KX) mg "reached" (Mc.top 11) ["begin","after","done"]:=by dsimp only[L2.KOf];refine' Mc.bP KX G ?a ?l ?c ?k ?b;(case a=>k_is);(case l=>k_is);(case c=>k_is);(case k=>k_is);(case b=>exact fun _ _ _ _ _ _=>Mc.bn3 fun _ _ _=>rfl)
  have D17:L2.DefAt (L2.KOf KX) mg "is_word" (Mc.top 17) ["part"]:=by dsimp only[L2.KOf];refine' Mc.bP KX G ?a ?l ?c ?k ?b;(case a=>k_is);(case l=>k_is);(case c=>k_is);(case k=>k_is);(case b=>exact fun _ _ _ _ _ _=>Mc.bn1 fun _=>rfl)
  have D18:L2.DefAt (L2.KOf KX) mg "without_signs" (Mc.top 18) ["machine"]:=by dsimp only[L2.KOf];refine' Mc.bP KX G ?a ?l ?c ?k ?b;(case a=>k_is);(case l=>k_is);(case c=>k_is);(case k=>k_is);(case b=>exact fun _ _ _ _ _ _=>Mc.bn1 fun _=>rfl)
  have D19:L2.DefAt (L2.KOf KX) mg "gone_on" (Mc.top 19) ["backs","cells","room"]:=by dsimp only[L2.KOf];refine' Mc.bP KX G ?a ?l ?c ?k ?b;(case a=>k_is);(case l=>k_is);(case c=>k_is);(case k=>k_is);(case b=>exact fun _ _ _ _ _ _=>Mc.bn3 fun _ _ _=>rfl)
  have D20:L2.DefAt (L2.KOf KX) mg "longer" (Mc.top 20) ["begun","cells"]:=by dsimp only[L2.KOf];refine' Mc.bP KX G ?a ?l ?c ?k ?b;(case a=>k_is);(case l=>k_is);(case c=>k_is);(case k=>k_is);(case b=>exact fun _ _ _ _ _ _=>Mc.bn2 fun _ _=>rfl)
  have D21:L2.DefAt (L2.KOf KX) mg "word_behind" (Mc.top 21) ["machine","begun"]:=by dsimp only[L2.KOf];refine' Mc.bP KX G ?a ?l ?c ?k ?b;(case a=>k_is);(case l=>k_is);(case c=>k_is);(case k=>k_is);(case b=>exact fun _ _ _ _ _ _=>Mc.bn2 fun _ _=>rfl)
  have D22:L2.DefAt (L2.KOf KX) mg "one_way" (Mc.top 22) ["machine"]:=by dsimp only[L2.KOf];refine' Mc.bP KX G ?a ?l ?c ?k ?b;(case a=>k_is);(case l=>k_is);(case c=>k_is);(case k=>k_is);(case b=>exact fun _ _ _ _ _ _=>Mc.bn1 fun _=>rfl)
  have D23:L2.DefAt (L2.KOf KX) mg "signs_by" (Mc.top 23) ["reader"]:=by dsimp only[L2.KOf];refine' Mc.bP KX G ?a ?l ?c ?k ?b;(case a=>k_is);(case l=>k_is);(case c=>k_is);(case k=>k_is);(case b=>exact fun _ _ _ _ _ _=>Mc.bn1 fun _=>rfl)
  have D24:L2.DefAt (L2.KOf KX) mg "room_from" (Mc.top 24) ["reader","room","strip"]:=by dsimp only[L2.KOf];refine' Mc.bP KX G ?a ?l ?c ?k ?b;(case a=>k_is);(case l=>k_is);(case c=>k_is);(case k=>k_is);(case b=>exact fun _ _ _ _ _ _=>Mc.bn3 fun _ _ _=>rfl)
  have D25:L2.DefAt (L2.KOf KX) mg "room_by" (Mc.top 25) ["reader","strip"]:=by dsimp only[L2.KOf];refine' Mc.bP KX G ?a ?l ?c ?k ?b;(case a=>k_is);(case l=>k_is);(case c=>k_is);(case k=>k_is);(case b=>exact fun _ _ _ _ _ _=>Mc.bn2 fun _ _=>rfl)
  have D26:L2.DefAt (L2.KOf KX) mg "word_by" (Mc.top 26) ["reader","strip"]:=by dsimp only[L2.KOf];refine' Mc.bP KX G ?a ?l ?c ?k ?b;(case a=>k_is);(case l=>k_is);(case c=>k_is);(case k=>k_is);(case b=>exact fun _ _ _ _ _ _=>Mc.bn2 fun _ _=>rfl)
  have D32:L2.DefAt (L2.KOf KX) mg "held" (Mc.top 32) ["one","other"]:=by dsimp only[L2.KOf];refine' Mc.bP KX G ?a ?l ?c ?k ?b;(case a=>k_is);(case l=>k_is);(case c=>k_is);(case k=>k_is);(case b=>exact fun _ _ _ _ _ _=>Mc.bn2 fun _ _=>rfl)
  have D33:L2.DefAt (L2.KOf KX) mg "compared" (Mc.top 33) ["one","other"]:=by dsimp only[L2.KOf];refine' Mc.bP KX G ?a ?l ?c ?k ?b;(case a=>k_is);(case l=>k_is);(case c=>k_is);(case k=>k_is);(case b=>exact fun _ _ _ _ _ _=>Mc.bn2 fun _ _=>rfl)
  have D39:L2.DefAt (L2.KOf KX) mg "least" (Mc.top 39) ["reader"]:=by dsimp only[L2.KOf];refine' Mc.bP KX G ?a ?l ?c ?k ?b;(case a=>k_is);(case l=>k_is);(case c=>k_is);(case k=>k_is);(case b=>exact fun _ _ _ _ _ _=>Mc.bn1 fun _=>rfl)
  have D40:L2.DefAt (L2.KOf KX) mg "least_of" (Mc.top 40) ["machine"]:=by dsimp only[L2.KOf];refine' Mc.bP KX G ?a ?l ?c ?k ?b;(case a=>k_is);(case l=>k_is);(case c=>k_is);(case k=>k_is);(case b=>exact fun _ _ _ _ _ _=>Mc.bn1 fun _=>rfl)
  have D42:L2.DefAt (L2.KOf KX) mg "_law_cell" (Mc.top 42) ["_law_script","_law_k"]:=by dsimp only[L2.KOf];refine' Mc.bP KX G ?a ?l ?c ?k ?b;(case a=>k_is);(case l=>k_is);(case c=>k_is);(case k=>k_is);(case b=>exact fun _ _ _ _ _ _=>Mc.bn2 fun _ _=>rfl)
  have D43:L2.DefAt (L2.KOf KX) mg "_law_common" (Mc.top 43) ["_law_a","_law_b"]:=by dsimp only[L2.KOf];refine' Mc.bP KX G ?a ?l ?c ?k ?b;(case a=>k_is);(case l=>k_is);(case c=>k_is);(case k=>k_is);(case b=>exact fun _ _ _ _ _ _=>Mc.bn2 fun _ _=>rfl)
  have D44:L2.DefAt (L2.KOf KX) mg "_law_cycles" (Mc.top 44) ["_law_p","_law_q","_law_tail","_law_words"]:=by dsimp only[L2.KOf];refine' Mc.bP KX G ?a ?l ?c ?k ?b;(case a=>k_is);(case l=>k_is);(case c=>k_is);(case k=>k_is);(case b=>exact fun _ _ _ _ _ _=>Mc.bn4 fun _ _ _ _=>rfl)
  have D45:L2.DefAt (L2.KOf KX) mg "_law_many" (Mc.top 45) ["_law_machine","_law_how"]:=by dsimp only[L2.KOf];refine' Mc.bP KX G ?a ?l ?c ?k ?b;(case a=>k_is);(case l=>k_is);(case c=>k_is);(case k=>k_is);(case b=>exact fun _ _ _ _ _ _=>Mc.bn2 fun _ _=>rfl)
  have T:Mc.Txt w (L2.KOf KX) mg:=by
   dsimp only[L2.KOf]
   refine' Mc.aH1 KX G ?z_enumerate ?z_isinstance ?z_len ?z_range ?z_str ?z_tuple ?s_MOST_BEGINNINGS ?s_SIGNS
   (case z_enumerate=>k_is);(case z_isinstance=>k_is);(case z_len=>k_is);(case z_range=>k_is);(case z_str=>k_is);(case z_tuple=>k_is);(case s_MOST_BEGINNINGS=>k_is);(case s_SIGNS=>k_is)
  have Ep_TooMany:∃ W C,L2.ErrP (L2.KOf KX) mg "TooMany" W C:=by
   dsimp only[L2.KOf]
   refine' Mc.aH2 KX G ?m ?e1 ?e2 ?e3 ?e4 ?e5 ?e6 ?e7 ?e8 ?n1 ?n2 ?w1 ?w2 ?w3
   (case m=>k_is)
   (case e1=>k_is)
   (case e2=>k_is);(case e3=>k_is);(case e4=>k_is);(case e5=>k_is);(case e6=>k_is);(case e7=>k_is);(case e8=>k_is)
   (case n2=>k_is);(case w1=>k_is);(case w3=>k_is)
   (case n1=>refine' L2.vU ?l ?h;(case l=>k_is);(case h=>rfl))
   (case w2=>refine' L2.vU ?l ?h;(case l=>k_is);(case h=>rfl))
  have LL:∃ fd,L2.Fun (L2.KOf KX) "law" "law" (Mc.top 46) fa fd/\∀ (s:Shared) (u:Value),BindsTo s fd ⟨[u],[]⟩ [("_law_script",u)]:=by
   dsimp only[L2.KOf]
   refine' Mc.aH3 KX G hmg ?a4 ?l4 ?c4 ?k4
   (case a4=>k_is);(case l4=>k_is);(case c4=>k_is);(case k4=>k_is)
  obtain ⟨fd,FL,hb⟩:=LL
  exact ⟨fd,hb,fun base TH _ _ TL=>Mc.aE6 T Ep_TooMany D7 D8 D9 D11 D17 D18 D19 D20 D21 (Fl.aKA D22 KX TL (by decide)) D23 D24 D25 D26 D32 D33 D39 D40 D42 D43 D44 D45 FL⟩
end
