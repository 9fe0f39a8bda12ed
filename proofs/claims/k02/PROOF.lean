import PyProof.Rows.All
import Wide.All
import OpenK.AllK
import Wide.FinOn
import Lean
import PyProof.EqAt
import PyProof.EqKinds
import PyProof.TupleCall
import PyProof.ExcInit
import PyProof.InstStoreFacts
import PyProof.StrLawsFirst
import PyProof.StrLawsIn
import KE.KLam
import PyProof.ListMulRoad
import PyProof.Rows.ListMul
import PyProof.ZipIter
import PyProof.Draws
import PyProof.ListStr
import PyProof.DictWalks
import PyProof.DictTruth
import PyProof.ListRange
import PyProof.StrLaws
import PyProof.StrLawsIdx
import PyProof.AttrMissHeap
import PyProof.StrBlock2
import PyProof.CallStr
import PyProof.CallRoads3
import PyProof.MeetsStr2
import PyProof.Rows.StrItems
import PyProof.Conv_int
import PyProof.StrLawsTight
import PyProof.Rows.StrClose
import PyProof.StrLawsChain
import PySem.Challenge.RW_striproam_k02_whole_texts_there_and_back
set_option linter.all false
set_option maxRecDepth 100000
set_option maxHeartbeats 4000000
set_option Elab.async false
set_option linter.all false
set_option maxRecDepth 100000
set_option genSizeOf false
theorem Mc.bn1{α:Type}{P:List α->Prop}(h:∀ a,P [a]):∀ us:List α,us.length=1->P us
 | [a],_=>h a
theorem Mc.bn2{α:Type}{P:List α->Prop}(h:∀ a b,P [a,b]):∀ us:List α,us.length=2->P us
 | [a,b],_=>h a b
theorem Mc.bn3{α:Type}{P:List α->Prop}(h:∀ a b c,P [a,b,c]):∀ us:List α,us.length=3->P us
 | [a,b,c],_=>h a b c
open PySem.W (Frag)
noncomputable section
namespace L2
open PySem PySem.Spec PyProof.Rows
abbrev Key:=Sum Int Str
noncomputable def j4:Key->Value->Bool
 | .inl k,v=>Value.isInt k v
 | .inr x,v=>Value.isStrOf x v
noncomputable def aBX(w:World):Key->Int
 | .inl k=>hashInt k
 | .inr x=>hashStr w x
theorem keyIs_shape:∀ {k:Key} {v:Value},j4 k v=true->(∃ i t,k=Sum.inl i/\v=Value.int i t)\/(∃ x t,k=Sum.inr x/\v=Value.str x t)
 | .inl i,v,h=>by
  obtain ⟨t,e⟩:=Value.isInt_shape (k:=i) (v:=v) h
  exact .inl ⟨i,t,rfl,e⟩
 | .inr x,v,h=>by
  obtain ⟨t,e⟩:=Value.isStrOf_shape (x:=x) (v:=v) h
  exact .inr ⟨x,t,rfl,e⟩
theorem sA(i:Int)(t:Tok):j4 (.inl i) (.int i t)=true:=by simp[j4,Value.isInt]
theorem sB(x:Str)(t:Tok):j4 (.inr x) (.str x t)=true:=by simp[j4,Value.isStrOf]
theorem yA(a b:Int):decide ((Sum.inl a:Key)=Sum.inl b)=(a == b):=by
 by_cases e:a=b
 ·subst e;simp
 ·have h:¬ (Sum.inl a:Key)=Sum.inl b:=fun q=>e (Sum.inl.inj q)
  rw[decide_eq_false h]
  exact (beq_eq_false_iff_ne.mpr e).symm
theorem yB(a b:Str):decide ((Sum.inr a:Key)=Sum.inr b)=decide (a=b):=by
 by_cases e:a=b
 ·subst e;simp
 ·have h:¬ (Sum.inr a:Key)=Sum.inr b:=fun q=>e (Sum.inr.inj q)
  rw[decide_eq_false h,decide_eq_false e]
theorem yC(a:Int)(b:Str):decide ((Sum.inl a:Key)=Sum.inr b)=false:=decide_eq_false (fun q=>nomatch q)
theorem yD(a:Str)(b:Int):decide ((Sum.inr a:Key)=Sum.inl b)=false:=decide_eq_false (fun q=>nomatch q)
noncomputable def cX(prog:Program)(w:World):PySem.KeyKind prog w Key where
 is:=j4
 hash:=aBX w
 inj:=fun v a b ha hb=>by
  rcases keyIs_shape ha with ⟨i,t,rfl,rfl⟩|⟨x,t,rfl,rfl⟩
  ·rcases keyIs_shape hb with ⟨j,u,rfl,e⟩|⟨y,u,rfl,e⟩
   · injection e with e1 _; rw [e1]
   · exact nomatch e
  ·rcases keyIs_shape hb with ⟨j,u,rfl,e⟩|⟨y,u,rfl,e⟩
   · exact nomatch e
   · injection e with e1 _; rw [e1]
 byValue:=fun k v h=>by
  rcases keyIs_shape h with ⟨i,t,rfl,rfl⟩|⟨x,t,rfl,rfl⟩<;>rfl
 pyHash:=fun hv h=>by
  rcases keyIs_shape hv with ⟨i,t,rfl,rfl⟩|⟨x,t,rfl,rfl⟩
  ·exact wpAny_pyHash_int h
  ·exact wpAny_pyHash_str h
 eqBool:=fun hu hv h=>by
  rcases keyIs_shape hu with ⟨i,t,rfl,rfl⟩|⟨x,t,rfl,rfl⟩
  ·rcases keyIs_shape hv with ⟨j,u,rfl,rfl⟩|⟨y,u,rfl,rfl⟩
   · rw [yA] at h; exact wpAny_eqBool_int h
   · rw [yC] at h; exact SeqAt.EqAt.int_str i t y u _ _ _ _ h
  ·rcases keyIs_shape hv with ⟨j,u,rfl,rfl⟩|⟨y,u,rfl,rfl⟩
   · rw [yD] at h; exact SeqAt.EqAt.str_int x t j u _ _ _ _ h
   · rw [yB] at h; exact wpAny_eqBool_str h
 «strs»:=fun k x t v h=>by
  rcases keyIs_shape h with ⟨i,u,rfl,e⟩|⟨y,u,rfl,e⟩
  ·exact nomatch e
  ·injection e with e1 _
   subst e1
   cases v<;>rfl
theorem pI(prog:Program)(w:World)(i:Int)(t:Tok):(cX prog w).is (.inl i) (.int i t)=true:=sA i t
theorem pJ(prog:Program)(w:World)(x:Str)(t:Tok):(cX prog w).is (.inr x) (.str x t)=true:=sB x t
end L2
namespace L2
open PySem PySem.Spec PyProof.Rows
inductive V where
 | non|bl (b:Bool)|int (i:Int)|str (x:Str)|byt (b:Array UInt8)|flt (b:UInt64)|ref (a:Addr)|ty (n:String)
 deriving DecidableEq
def a9:V->Value->Prop
 | .non,u=>u=Value.none
 | .bl b,u=>u=Value.bool b
 | .int i,u=>∃ t,u=Value.int i t
 | .str x,u=>∃ t,u=Value.str x t
 | .byt b,u=>∃ t,u=Value.bytes b t
 | .flt b,u=>∃ t,u=Value.float b t
 | .ref a,u=>u=Value.ref a
 | .ty n,u=>u=Value.type n
abbrev aW:List V->List Value->Prop:=Paired a9
theorem aW.length{xs:List V}{us:List Value}(r:aW xs us):xs.length=us.length:=Paired.length r
theorem aW.get:∀ {xs:List V} {us:List Value} {i:Nat} {x:V},aW xs us->xs[i]? = some x->∃ u,us[i]? = some u/\a9 x u
 | _,_,_,_,.nil,e=>by simp at e
 | _,_,0,_,.cons r _,e=>by simp at e;subst e;exact ⟨_,rfl,r⟩
 | _,_,i+1,x,.cons _ t,e=>by
  obtain ⟨u,h1,h2⟩:=aW.get (i:=i) (x:=x) t (by simpa using e)
  exact ⟨u,by simpa using h1,h2⟩
theorem aW.set{x:V}{u:Value}(r:a9 x u):∀ {xs:List V} {us:List Value} (i:Nat),aW xs us->aW (xs.set i x) (us.set i u)
 | _,_,_,.nil=>.nil
 | _,_,0,.cons _ t=>.cons r t
 | _,_,i+1,.cons q t=>.cons q (aW.set r i t)
theorem aW.append:∀ {xs ys:List V} {us ws:List Value},aW xs us->aW ys ws->aW (xs++ys) (us++ws)
 | _,_,_,_,.nil,s=>s
 | _,_,_,_,.cons r t,s=>.cons r (aW.append t s)
theorem aW.take:∀ {xs:List V} {us:List Value} (n:Nat),aW xs us->aW (xs.take n) (us.take n)
 | _,_,0,_=>.nil
 | _,_,_+1,.nil=>.nil
 | _,_,n+1,.cons r t=>.cons r (aW.take n t)
theorem aW.drop:∀ {xs:List V} {us:List Value} (n:Nat),aW xs us->aW (xs.drop n) (us.drop n)
 | _,_,0,r=>r
 | _,_,_+1,.nil=>.nil
 | _,_,n+1,.cons _ t=>aW.drop n t
def hW:Option V->Option Value->Prop
 | some v,some u=>a9 v u
 | none,none=>True
 | _,_=>False
def KV{κ:Type}:List (κ×V)->List (κ×Value)->Prop:=Paired fun (p:κ×V) (q:κ×Value)=>p.1=q.1/\a9 p.2 q.2
noncomputable def kV:Key->V
 | .inl i=>.int i
 | .inr x=>.str x
inductive HO where
 | lst (xs:List V)
 | tup (xs:List V)
 | dK (kvs:List (Key×V))|dT (kvs:List (List Key×V))
 | set (S:Int->Bool) (n:Nat)
 | ins (C dx:Addr) (fs:List (Str×V))
 | own (x:Addr)
 | xd (fs:List (Str×V))
 | met (f x:Addr)
 | rng (lo hi:Int)
 | frz (o:Obj) (u:HO)
 | tbl (qs:List (Pos×Str))
 | cod (q:Str)
 | ext (φ:Heap->Prop)
abbrev Hp:=Addr->Option HO
noncomputable def upd(H:Hp)(a:Addr)(o:HO):Hp:=fun b=>if b=a then some o else H b
theorem bJ{H:Hp}{a:Addr}{o:HO}:upd H a o a=some o:=by unfold upd;rw[if_pos rfl]
theorem aU{H:Hp}{a b:Addr}{o:HO}(h:b≠a):upd H a o b=H b:=by unfold upd;rw[if_neg h]
theorem bV{H:Hp}{a b:Addr}{o:HO}(h:H a=some o)(h':H b=none):a≠b:=by
 intro e;subst e;rw[h] at h';cases h'
section
variable(P:Program)(w:World)
def bZ(H:Hp)(h:Heap)(a:Addr):HO->Prop
 | .lst xs=>xs.length<=sizeLine/\∃ (its:List Value) (n:Nat),aW xs its/\h.get? a=some {cls:=.type "list",data:=.seq its.toArray n}
 | .tup xs=>xs.length<=sizeLine/\∃ its:List Value,aW xs its/\IsTup h a its.toArray
 | .dK kvs=>kvs.length<=sizeLine/\(a == sysModules)=false/\∃ vs,KV kvs vs/\h.DictOf (cX P w) a vs
 | .dT kvs=>kvs.length<=sizeLine/\(a == sysModules)=false/\∃ xs:List (List Key×Addr×Value),
  Paired (fun (p:List Key×V) (q:List Key×Addr×Value)=>p.1=q.1/\H q.2.1=some (.tup (p.1.map kV))/\a9 p.2 q.2.2) kvs xs /\
  ∃ o es ep,h.get? a=some o/\o.ExactDict/\o.data=.dict es ep/\es.toList=xs.map (entryOfKey (tupleKind (cX P w)))/\(xs.map (·.1)).Nodup
 | .set S n=>h.SetOf (intKind P w) a S n
 | .ins C dx fs=>H dx=some (.own a)/\fs.length<=1000/\dx≠a/\h.get? a=some (PySem.W.instObj C dx) /\
  ∃ mA,h.Ns1 dx mA/\(∀ f,hW (fs.lookup f) (mA f))/\PySem.Within mA (fs.map (·.1))
 | .own _=>∃ o,h.get? a=some o
 | .xd fs=>∃ mA,h.Ns1 a mA/\∀ f,hW (fs.lookup f) (mA f)
 | .rng lo hi=>∃ t u v,h.get? a=some {cls:=.type "range",data:=.fields #[.int lo t,.int hi u,.int 1 v]}
 | .frz o u=>h.get? a=some o/\bZ H h a u
 | .tbl qs=>∃ ps:Array Value,h.get? a=some {cls:=.none,data:=.fields ps}/\TriplesOk ps.toList/\∀ p∈qs,codeAmong p.1 ps.toList=none\/∃ c,codeAmong p.1 ps.toList=some (.ref c)/\H c=some (.cod p.2)
 | .cod q=>h.CodeRec (.ref a) q
 | .met f x=>h.get? a=some (PySem.W.methodObj (.ref f) (.ref x))
 | .ext φ=>φ h/\(∃ o,h.get? a=some o)/\∀ h1 h2:Heap,φ h1->(∀ o,h1.get? a=some o->h2.get? a=some o)->φ h2
def HOk(H:Hp)(h:Heap):Prop:=∀ a o,H a=some o->bZ P w H h a o
end
section
variable{P:Program}{w:World}{H H':Hp}{h h':Heap}{a:Addr}{o:HO}
theorem bZ.lt(x:bZ P w H h a o):a < h.objs.size:=by
 cases o with
 | lst xs=>obtain ⟨_,_,_,_,e⟩:=x;exact Heap.lt_size e
 | tup xs=>obtain ⟨_,_,_,p⟩:=x;exact p.lt
 | dK kvs=>obtain ⟨_,_,_,_,o,_,_,e,_⟩:=x;exact Heap.lt_size e
 | dT kvs=>obtain ⟨_,_,_,_,o,_,_,e,_⟩:=x;exact Heap.lt_size e
 | set S n=>obtain ⟨o,_,_,_,e,_⟩:=x;exact Heap.lt_size e
 | ins C dx fs=>obtain ⟨_,_,_,e,_⟩:=x;exact Heap.lt_size e
 | own y=>obtain ⟨_,e⟩:=x;exact Heap.lt_size e
 | xd fs=>obtain ⟨_,⟨_,_,_,e,_⟩,_⟩:=x;exact Heap.lt_size e
 | rng lo hi=>obtain ⟨_,_,_,e⟩:=x;exact Heap.lt_size e
 | frz ob u=>obtain ⟨e,_⟩:=x;exact Heap.lt_size e
 | tbl qs=>obtain ⟨ps,e,_⟩:=x;exact Heap.lt_size e
 | cod q=>obtain ⟨c,o,vs,t,e,ho,_⟩:=x;cases e;exact Heap.lt_size ho
 | met f y=>exact Heap.lt_size (show h.get? a=some _ from x)
 | ext φ=>obtain ⟨_,⟨_,e⟩,_⟩:=x;exact Heap.lt_size e
theorem Paired.mapP{α β:Type}{F G:α->β->Prop}:∀ {l₁:List α} {l₂:List β},Paired F l₁ l₂->(∀ a b,F a b->G a b)->Paired G l₁ l₂
 | _,_,.nil,_=>.nil
 | _,_,.cons r t,f=>.cons (f _ _ r) (Paired.mapP t f)
theorem bZ.stay(x:bZ P w H h a o)(k:∀ b u,(b=a\/H b=some (.own a))->h.get? b=some u->h'.get? b=some u)
  (ho:∀ b,H b=some (.own a)->H' b=some (.own a)) (hc:∀ b q,H b=some (.cod q)->H' b=some (.cod q)) (ht:∀ b xs,H b=some (.tup xs)->H' b=some (.tup xs)):bZ P w H' h' a o:=by
 induction o with
 | lst xs=>obtain ⟨z,its,n,r,e⟩:=x;exact ⟨z,its,n,r,k _ _ (.inl rfl) e⟩
 | tup xs=>obtain ⟨z,its,r,ob,e,c⟩:=x;exact ⟨z,its,r,ob,k _ _ (.inl rfl) e,c⟩
 | dK kvs=>obtain ⟨z,y,vs,r,ob,es,ep,e,c⟩:=x;exact ⟨z,y,vs,r,ob,es,ep,k _ _ (.inl rfl) e,c⟩
 | dT kvs=>
  obtain ⟨z,y,xs,r,ob,es,ep,e,c⟩:=x
  exact ⟨z,y,xs,Paired.mapP r fun p q z=>⟨z.1,ht _ _ z.2.1,z.2.2⟩,ob,es,ep,k _ _ (.inl rfl) e,c⟩
 | set S n=>obtain ⟨ob,es,ep,t,e,c⟩:=x;exact ⟨ob,es,ep,t,k _ _ (.inl rfl) e,c⟩
 | ins C dx fs=>
  obtain ⟨d,z,ne,e,mA,⟨od,es,ep,e2,c⟩,r⟩:=x
  exact ⟨ho _ d,z,ne,k _ _ (.inl rfl) e,mA,⟨od,es,ep,k _ _ (.inr d) e2,c⟩,r⟩
 | own y=>obtain ⟨ob,e⟩:=x;exact ⟨ob,k _ _ (.inl rfl) e⟩
 | xd fs=>obtain ⟨mA,⟨od,es,ep,e,c⟩,r⟩:=x;exact ⟨mA,⟨od,es,ep,k _ _ (.inl rfl) e,c⟩,r⟩
 | rng lo hi=>obtain ⟨t,u,v,e⟩:=x;exact ⟨t,u,v,k _ _ (.inl rfl) e⟩
 | frz ob u ih=>obtain ⟨e,q⟩:=x;exact ⟨k _ _ (.inl rfl) e,ih q⟩
 | tbl qs=>
  obtain ⟨ps,e,t,r⟩:=x
  refine ⟨ps,k _ _ (.inl rfl) e,t,fun p hp=>?_⟩
  rcases r p hp with z|⟨c,z,z2⟩
  · exact .inl z
  · exact .inr ⟨c, z, hc _ _ z2⟩
 | cod q=>
  obtain ⟨c,o,vs,t,e,ho,r⟩:=x
  cases e
  exact ⟨_,o,vs,t,rfl,k _ _ (.inl rfl) ho,r⟩
 | met f y=>
  have e:h.get? a=some (PySem.W.methodObj (.ref f) (.ref y)):=x
  show h'.get? a=some (PySem.W.methodObj (.ref f) (.ref y))
  exact k a _ (.inl rfl) e
 | ext φ=>obtain ⟨p,⟨o,e⟩,st⟩:=x;exact ⟨st _ _ p fun o q=>k _ _ (.inl rfl) q,⟨o,k _ _ (.inl rfl) e⟩,st⟩
theorem HOk.lt(x:HOk P w H h)(e:H a=some o):a < h.objs.size:=(x a o e).lt
theorem HOk.fresh(x:HOk P w H h)(e:h.objs.size<=a):H a=none:=by
 cases q:H a with
 | none=>rfl
 | some u=>exact absurd (Nat.lt_of_lt_of_le (x.lt q) e) (Nat.lt_irrefl _)
theorem HOk.kept(x:HOk P w H h)(k:∀ b u,h.get? b=some u->h'.get? b=some u):HOk P w H h':=fun a o e=>
 (x a o e).stay (fun b u _ q=>k b u q) (fun _ q=>q) (fun _ _ q=>q) fun _ _ q=>q
theorem HOk.laid(x:HOk P w H h)(k:∀ b u,h.get? b=some u->h'.get? b=some u)(hp:h.objs.size<=a)(new:bZ P w (upd H a o) h' a o):HOk P w (upd H a o) h':=fun b u e=>by
 have hn:=x.fresh hp
 by_cases hb:b=a
 ·subst hb;rw[bJ] at e;cases e;exact new
 ·rw[aU hb] at e
  exact (x b u e).stay (fun c v _ q=>k c v q) (fun c q=>by rw[aU (bV q hn)];exact q) (fun c xs q=>by rw[aU (bV q hn)];exact q) fun c xs q=>by rw[aU (bV q hn)];exact q
end
def Rd(H:Hp)(a:Addr)(u:HO):Prop:=H a=some u\/∃ o,H a=some (.frz o u)
theorem Rd.ok{P:Program}{w:World}{H:Hp}{h:Heap}{a:Addr}{u:HO}(r:Rd H a u)(x:HOk P w H h):bZ P w H h a u:=by
 rcases r with r|⟨o,r⟩
 ·exact x a u r
 ·obtain ⟨_,q⟩:=x a _ r
  exact q
def Mut:Option HO->Prop
 | some (.lst _)=>True
 | some (.dK _)=>True
 | some (.dT _)=>True
 | some (.set _ _)=>True
 | some (.ins _ _ _)=>True
 | some (.ext _)=>True
 | _=>False
section
variable{P:Program}{w:World}{H:Hp}{h h':Heap}{x e:Addr}{o':HO}
theorem HOk.write(ok:HOk P w H h)(mu:Mut (H x))(he:e=x\/H e=some (.own x))(k:∀ b u,b≠e->h.get? b=some u->h'.get? b=some u)(heo:∃ u,h'.get? e=some u)
  (new:bZ P w (upd H x o') h' x o'):HOk P w (upd H x o') h':=fun b u q=>by
 have nown:∀ c y,H c=some (.own y)->c≠x:=fun c y r z=>by subst z;rw[r] at mu;exact mu
 have ntup:∀ c xs,H c=some (.tup xs)->c≠x:=fun c xs r z=>by subst z;rw[r] at mu;exact mu
 have ncod:∀ c xs,H c=some (.cod xs)->c≠x:=fun c xs r z=>by subst z;rw[r] at mu;exact mu
 by_cases hb:b=x
 ·subst hb;rw[bJ] at q;cases q;exact new
 ·rw[aU hb] at q
  by_cases hbe:b=e
  ·have q':H b=some (.own x):=by
    rcases he with z|z
    · exact absurd (hbe.trans z) hb
    · rw [hbe]; exact z
   rw[q] at q';cases q'
   obtain ⟨v,hv⟩:=heo
   exact ⟨v,by rw[hbe];exact hv⟩
  ·refine (ok b u q).stay (fun c v hc r=>k c v ?_ r) (fun c r=>by rw[aU (nown c b r)];exact r) (fun c xs r=>by rw[aU (ncod c xs r)];exact r) fun c xs r=>by rw[aU (ntup c xs r)];exact r
   rcases hc with rfl|hc
   ·exact hbe
   ·rintro rfl
    rcases he with z|z
    · exact nown c b hc z
    · rw [hc] at z; cases z; exact hb rfl
end
structure Un(fs ex:List Addr)(H H':Hp)(h h':Heap):Prop where
 keep:∀ b o,h.get? b=some o->H b=none->b∉fs->b∉ex->h'.get? b=some o
 slot:∀ b o,h.get? b=some o->H b=none->b∈fs->b∉ex->∃ sl,h'.get? b=some {o with slots:=sl}
 free:∀ b o,h.get? b=some o->H b=none->b∉ex->H' b=none
 there:∀ b o,h.get? b=some o->b∉ex->∃ o',h'.get? b=some o'
 tups:∀ b xs,H b=some (.tup xs)->H' b=some (.tup xs)
 frzs:∀ b o u,H b=some (.frz o u)->H' b=some (.frz o u)
 tbls:∀ b ps,H b=some (.tbl ps)->H' b=some (.tbl ps)
section
variable{fs fs' ex ex':List Addr}{H H1 H2:Hp}{h h1 h2 h':Heap}{a x e:Addr}{o:HO}
theorem Un.any(u:Un fs ex H H1 h h1){b:Addr}{ob:Obj}(q:h.get? b=some ob)(n:H b=none)(hx:b∉ex):∃ sl,h1.get? b=some {ob with slots:=sl}:=by
 by_cases hb:b∈fs
 · exact u.slot b ob q n hb hx
 · exact ⟨ob.slots, u.keep b ob q n hb hx⟩
theorem Un.trans(a:Un fs ex H H1 h h1)(b:Un fs ex H1 H2 h1 h2):Un fs ex H H2 h h2 where
 keep:=fun c ob q n hc hx=>b.keep c ob (a.keep c ob q n hc hx) (a.free c ob q n hx) hc hx
 slot:=fun c ob q n hc hx=>by
  obtain ⟨sl,e1⟩:=a.slot c ob q n hc hx
  obtain ⟨sl',e2⟩:=b.slot c _ e1 (a.free c ob q n hx) hc hx
  exact ⟨sl',e2⟩
 free:=fun c ob q n hx=>by
  obtain ⟨o',e1⟩:=a.there c ob q hx
  exact b.free c o' e1 (a.free c ob q n hx) hx
 there:=fun c ob q hx=>by
  obtain ⟨o',e1⟩:=a.there c ob q hx
  exact b.there c o' e1 hx
 tups:=fun c xs q=>b.tups c xs (a.tups c xs q)
 frzs:=fun c ob xs q=>b.frzs c ob xs (a.frzs c ob xs q)
 tbls:=fun c ps q=>b.tbls c ps (a.tbls c ps q)
theorem Un.kept(k:∀ b u,h.get? b=some u->h'.get? b=some u):Un fs ex H H h h':=
 ⟨fun b ob q _ _ _=>k b ob q,fun b ob q _ _ _=>⟨ob.slots,k b ob q⟩,fun _ _ _ n _=>n,fun b ob q _=>⟨ob,k b ob q⟩,fun _ _ q=>q,fun _ _ _ q=>q,fun _ _ q=>q⟩
theorem Un.refl:Un fs ex H H h h:=Un.kept fun _ _ q=>q
theorem Un.laid(k:∀ b u,h.get? b=some u->h'.get? b=some u)(hp:h.objs.size<=a)(hn:H a=none):Un fs ex H (upd H a o) h h' where
 keep:=fun b u q _ _ _=>k b u q
 slot:=fun b u q _ _ _=>⟨u.slots,k b u q⟩
 free:=fun b u q n _=>by rw[aU (Nat.ne_of_lt (Nat.lt_of_lt_of_le (Heap.lt_size q) hp))];exact n
 there:=fun b u q _=>⟨u,k b u q⟩
 tups:=fun b xs q=>by rw[aU (bV q hn)];exact q
 frzs:=fun b u xs q=>by rw[aU (bV q hn)];exact q
 tbls:=fun b ps q=>by rw[aU (bV q hn)];exact q
theorem Un.write(mu:Mut (H x))(he:e=x\/H e=some (.own x))(k:∀ b u,b≠e->h.get? b=some u->h'.get? b=some u)(heo:∃ u,h'.get? e=some u):Un fs ex H (upd H x o) h h':=by
 have hx:∀ b,H b=none->b≠x:=fun b n z=>by subst z;rw[n] at mu;exact mu
 have hb:∀ b,H b=none->b≠e:=fun b n z=>by
  subst z
  rcases he with r|r
  · exact hx b n r
  · rw [n] at r; cases r
 have hm:∀ b u,H b=some u->¬ Mut (some u)->b≠x:=fun b u q nm z=>by subst z;rw[q] at mu;exact nm mu
 refine ⟨fun b u q n _ _=>k b u (hb b n) q,fun b u q n _ _=>⟨u.slots,k b u (hb b n) q⟩,fun b u q n _=>by rw[aU (hx b n)];exact n,fun b u q _=>?_,
  fun b xs q=>by rw[aU (hm b _ q fun z=>z)];exact q,fun b u xs q=>by rw[aU (hm b _ q fun z=>z)];exact q,fun b ps q=>by rw[aU (hm b _ q fun z=>z)];exact q⟩
 by_cases hbe:b=e
 ·subst hbe;exact heo
 ·exact ⟨u,k b u hbe q⟩
end
noncomputable def trk(h:Heap)(H:Hp):List Addr:=(List.range h.objs.size).filter fun a=>(H a).isSome
def iJ(h:Heap)(H:Hp):Heap:=PySem.W.hideAll h (trk h H)
theorem sC(h:Heap)(H:Hp):(iJ h H).objs.size=h.objs.size:=PySem.W.hideAll_size _ _
theorem uS{h:Heap}{H:Hp}{b:Addr}{o:Obj}(e:h.get? b=some o)(n:H b=none):(iJ h H).get? b=some o:=
 PySem.W.hideAll_get _ e fun hm=>by
  have q:(H b).isSome=true:=(List.mem_filter.mp hm).2
  rw[n] at q;simp at q
theorem wY{h:Heap}{H:Hp}{b:Addr}{o:Obj}(e:(iJ h H).get? b=some o):h.get? b=some o/\H b=none:=by
 have e':h.get? b=some o:=PySem.W.of_hideAll (trk h H) e
 refine ⟨e',?_⟩
 cases q:H b with
 | none=>rfl
 | some x=>
  have hm:b∈trk h H:=List.mem_filter.mpr ⟨List.mem_range.mpr (Heap.lt_size e'),by simp[q]⟩
  have z:(iJ h H).get? b=none:=PySem.W.hideAll_none (trk h H) hm
  rw[z] at e;cases e
def wZ(g h:Heap)(L:Addr):List (Addr×Obj):=(List.range h.objs.size).filterMap fun a=>if a=L\/(g.get? a).isSome=true then none else (h.get? a).map fun o=>(a,o)
def rest(g h:Heap)(L d:Addr):List (Addr×Obj):=(wZ g h L).filter fun p=>decide (p.1≠d)
end L2
namespace L2
open PySem PySem.Spec PyProof.Rows
structure Mod(K:Frag)(mg:Str->Option Value)(base:Heap):Prop where
 kin:K.In base
 glob:base.Ns mainGlobals mg
 blt:∃ mb,base.Ns builtinsNs mb/\∀ x:Str,x≠"__name__"->mb x=bootBuiltins x
 nolimit:base.NoLimit
structure Cx where
 prog:Program
 w:World
 K:Frag
 mg:Str->Option Value
 base:Heap
 A:Around
 N:List Str
 s₀:Shared
 H₀:Hp
 env:Env
 outer:List Env
 stack:List Env
 ex:List Addr
 fn:Str->Bool
 calm:Bool
 pn:List (Addr×Obj)
 xe:Value->Shared->Prop
noncomputable def frs(l:List Env):List Addr:=l.filterMap (·.frame)
abbrev Cx.fs(X:Cx):List Addr:=frs X.outer
def Vis(sc:Scope)(x:Str):Prop:=sc.names.lookup x=some .local\/sc.names.lookup x=some .cell\/sc.names.lookup x=some .free
def Loc(sc:Scope)(x:Str):Prop:=sc.names.lookup x=some .local\/sc.names.lookup x=some .cell
def aBY(env:Env)(h:Heap)(m:Str->Option Value)(x:Str)(u:Value):Prop:=
 (env.kindOf x=some .local/\m x=some u)\/((env.kindOf x=some .cell\/env.kindOf x=some .free)/\∃ c,env.cells.lookup x=some c/\h.IsCell c (some u))
structure Cx.Ok(X:Cx):Prop where
 mod:Mod X.K X.mg X.base
 kind:X.env.scope.kind=.function
 glob:X.env.globals=mainGlobals
 blt:X.env.builtins=builtinsNs
 above:X.s₀.heap.objs.size<=X.env.locals
 inj:∀ x y c,X.env.cells.lookup x=some c->X.env.cells.lookup y=some c->x=y
 has:∀ x,(X.env.kindOf x=some .cell\/X.env.kindOf x=some .free)->∃ c,X.env.cells.lookup x=some c
 cab:∀ x c,X.fn x=true->X.env.cells.lookup x=some c->X.s₀.heap.objs.size<=c
 hd:X.calm=true->X.A.handled=none
 frames:X.A.frames=some X.stack
 stk:X.stack=X.outer\/(X.stack=X.env::X.outer/\X.env.frame=some X.env.locals)
 exf:∀ b∈X.ex,b≠X.env.locals/\∀ x c,X.env.cells.lookup x=some c->c≠b
 bs:∀ b o,X.base.get? b=some o->X.s₀.heap.get? b=some o/\X.H₀ b=none
 bsz:X.base.objs.size<=X.s₀.heap.objs.size
 noex:∀ b o,X.base.get? b=some o->b∉X.ex
 exfs:∀ b∈X.ex,b∉X.fs
 funs:X.s₀.heap.FunFrames X.base X.outer
 frf:∀ b∈X.fs,X.H₀ b=none
structure Inv(X:Cx)(pins:List (Addr×Obj))(σ:List (Option V))(H:Hp)(s:Shared):Prop where
 ok:X.Ok
 os:s.os=X.s₀.os
 bare:AllBare s.gens
 base:Un X.fs X.ex X.H₀ H X.s₀.heap s.heap
 loc:∃ m,s.heap.Ns X.env.locals m/\∀ (i:Nat) (x:Str) (v:V),X.N[i]? = some x->σ[i]? = some (some v)->Vis X.env.scope x->∃ u,a9 v u/\aBY X.env s.heap m x u
 cell:∀ x c,X.env.cells.lookup x=some c->∃ v,s.heap.IsCell c v
 free:H X.env.locals=none
 freeC:∀ x c,X.env.cells.lookup x=some c->H c=none
 pin:∀ p∈X.pn++pins,s.heap.get? p.1=some p.2/\H p.1=none/\p.1≠X.env.locals/\p.1∉X.fs/\∀ v,p.2.data≠.cell v
 hok:HOk X.prog X.w H s.heap
 len:σ.length=X.N.length
section
variable{X:Cx}{pins:List (Addr×Obj)}{σ:List (Option V)}{H H':Hp}{s:Shared}{h':Heap}
theorem Cx.Ok.nofr(ok:X.Ok){b:Addr}{o:Obj}(e:X.base.get? b=some o):b∉X.fs:=fun hb=>by
 have:=(ok.funs.mem hb).1
 rw[e] at this;cases this
theorem Inv.bs(I:Inv X pins σ H s):∀ b o,X.base.get? b=some o->s.heap.get? b=some o/\H b=none:=fun b o e=>
 ⟨I.base.keep b o (I.ok.bs b o e).1 (I.ok.bs b o e).2 (I.ok.nofr e) (I.ok.noex b o e),I.base.free b o (I.ok.bs b o e).1 (I.ok.bs b o e).2 (I.ok.noex b o e)⟩
theorem Inv.bk(I:Inv X pins σ H s):∀ b o,X.base.get? b=some o->s.heap.get? b=some o:=fun b o e=>(I.bs b o e).1
theorem Inv.mod(I:Inv X pins σ H s):Mod X.K X.mg X.base:=I.ok.mod
theorem Inv.kIn(I:Inv X pins σ H s):X.K.In s.heap:=I.ok.mod.kin.keeps I.bk
theorem Inv.lt(I:Inv X pins σ H s):X.env.locals < s.heap.objs.size:=let ⟨_,hn,_⟩:=I.loc;hn.lt
theorem Inv.sz(I:Inv X pins σ H s):X.s₀.heap.objs.size<=s.heap.objs.size:=Nat.le_trans I.ok.above (Nat.le_of_lt I.lt)
theorem Inv.nofs(I:Inv X pins σ H s){a:Addr}(h:s.heap.objs.size<=a):a∉X.fs:=fun hb=>by
 obtain ⟨_,o,ho,_⟩:=I.ok.funs.mem hb
 exact absurd (Nat.lt_of_lt_of_le (Heap.lt_size ho) (Nat.le_trans I.sz h)) (Nat.lt_irrefl _)
theorem Inv.cne(I:Inv X pins σ H s):∀ x c,X.env.cells.lookup x=some c->c≠X.env.locals:=fun x c e z=>by
 obtain ⟨v,o,ho,hd⟩:=I.cell x c e
 obtain ⟨m,⟨o',es,ep,ho',hd',_⟩,_⟩:=I.loc
 rw[z,ho'] at ho;cases ho;rw[hd'] at hd;cases hd
theorem Inv.funs(I:Inv X pins σ H s):s.heap.FunFrames X.base X.outer:=by
 have all:∀ (l:List Env),(∀ b∈frs l,b∈X.fs)->X.s₀.heap.FunFrames X.base l->s.heap.FunFrames X.base l:=by
  intro l
  induction l with
  | nil=>intro _ _;trivial
  | cons env r ih=>
   intro hs hl
   obtain ⟨hk,⟨L,o,hf,hn,ho,hd⟩,hr⟩:=hl
   have hL:L∈X.fs:=hs L (by unfold frs;rw[List.filterMap_cons,hf];exact List.mem_cons_self)
   obtain ⟨sl,e⟩:=I.base.slot L o ho (I.ok.frf L hL) hL fun z=>I.ok.exfs L z hL
   exact ⟨hk,⟨L,_,hf,hn,e,hd⟩,ih (fun b hb=>hs b (by unfold frs;rw[List.filterMap_cons,hf];exact List.mem_cons_of_mem _ hb)) hr⟩
 exact all X.outer (fun _ hb=>hb) I.ok.funs
theorem Inv.stack(I:Inv X pins σ H s):s.heap.FunFrames X.base X.stack:=by
 rcases I.ok.stk with e|⟨e,hf⟩
 ·rw[e];exact I.funs
 ·rw[e]
  obtain ⟨m,hn,_⟩:=I.loc
  refine .cons (by rw[I.ok.kind];decide) hf hn ?_ I.funs
  exact Heap.get?_none_of_le (Nat.le_trans I.ok.bsz I.ok.above)
theorem Inv.stkSub(I:Inv X pins σ H s):∀ b∈frs X.stack,b∈X.env.locals::X.fs:=fun b hb=>by
 rcases I.ok.stk with e|⟨e,hf⟩
 ·rw[e] at hb;exact List.mem_cons_of_mem _ hb
 ·rw[e] at hb
  unfold frs at hb
  rw[List.filterMap_cons,hf] at hb
  exact hb
theorem Inv.stkFree(I:Inv X pins σ H s):∀ b∈frs X.stack,H b=none:=fun b hb=>by
 rcases List.mem_cons.mp (I.stkSub b hb) with e|hb
 ·rw[e];exact I.free
 ·obtain ⟨_,o,ho,_⟩:=I.ok.funs.mem hb
  exact I.base.free b o ho (I.ok.frf b hb) fun z=>I.ok.exfs b z hb
theorem Inv.step{g':Array GenState}{t':Nat}{d':Drawn}{ch:List Addr}(I:Inv X pins σ H s)
  (hch:∀ b∈ch,(b∈X.ex\/X.s₀.heap.objs.size<=b)/\b≠X.env.locals/\(∀ x c,X.env.cells.lookup x=some c->c≠b)/\∀ p∈X.pn++pins,p.1≠b)
  (keep:∀ b o,b≠X.env.locals->b∉X.fs->b∉ch->s.heap.get? b=some o->H b=none->h'.get? b=some o)
  (slot:∀ b o,b≠X.env.locals->b∈X.fs->b∉ch->s.heap.get? b=some o->H b=none->∃ sl,h'.get? b=some {o with slots:=sl}) (free:∀ b o,b∉ch->s.heap.get? b=some o->H b=none->H' b=none)
  (there:∀ b o,b∉ch->s.heap.get? b=some o->∃ o',h'.get? b=some o')
  (tups:∀ b xs,H b=some (.tup xs)->H' b=some (.tup xs)) (frzs:∀ b o u,H b=some (.frz o u)->H' b=some (.frz o u)) (tbls:∀ b ps,H b=some (.tbl ps)->H' b=some (.tbl ps))
  (ns:∀ m,s.heap.Ns X.env.locals m->h'.Ns X.env.locals m) (hok:HOk X.prog X.w H' h') (hg:AllBare g') :
  Inv X pins σ H' {s with heap:=h',gens:=g',drawn:=d',toks:=t'}:=by
 have neL:∀ b o,X.s₀.heap.get? b=some o->b≠X.env.locals:=fun b o e=>Nat.ne_of_lt (Nat.lt_of_lt_of_le (Heap.lt_size e) I.ok.above)
 have neC:∀ b o,X.s₀.heap.get? b=some o->b∉X.ex->b∉ch:=fun b o e hx hb=>by
  rcases (hch b hb).1 with z|z
  ·exact hx z
  ·exact absurd (Nat.lt_of_lt_of_le (Heap.lt_size e) z) (Nat.lt_irrefl _)
 have cellK:∀ x c,X.env.cells.lookup x=some c->∀ v,s.heap.IsCell c v->h'.IsCell c v:=fun x c e v zz0=>by
  obtain ⟨o,ho,hd⟩:=zz0
  have nch:c∉ch:=fun z=>(hch c z).2.2.1 x c e rfl
  by_cases hc:c∈X.fs
  ·obtain ⟨sl,q⟩:=slot c o (I.cne x c e) hc nch ho (I.freeC x c e)
   exact ⟨_,q,hd⟩
  ·exact ⟨o,keep c o (I.cne x c e) hc nch ho (I.freeC x c e),hd⟩
 refine ⟨I.ok,I.os,hg,⟨fun b o e n hb hx=>?_,fun b o e n hb hx=>?_,fun b o e n hx=>?_,fun b o e hx=>?_,fun b xs e=>tups b xs (I.base.tups b xs e),fun b o xs e=>frzs b o xs (I.base.frzs b o xs e),fun b ps e=>?_⟩,?_,fun x c e=>?_,?_,fun x c e=>?_,fun p hp=>?_,hok,I.len⟩
 ·exact keep b o (neL b o e) hb (neC b o e hx) (I.base.keep b o e n hb hx) (I.base.free b o e n hx)
 ·obtain ⟨sl,e1⟩:=I.base.slot b o e n hb hx
  obtain ⟨sl',e2⟩:=slot b _ (neL b o e) hb (neC b o e hx) e1 (I.base.free b o e n hx)
  exact ⟨sl',e2⟩
 ·obtain ⟨o',e1⟩:=I.base.there b o e hx
  exact free b o' (neC b o e hx) e1 (I.base.free b o e n hx)
 ·obtain ⟨o',e1⟩:=I.base.there b o e hx
  exact there b o' (neC b o e hx) e1
 ·exact tbls b ps (I.base.tbls b ps e)
 ·obtain ⟨m,hn,hl⟩:=I.loc
  refine ⟨m,ns m hn,fun i x v e1 e2 e3=>?_⟩
  obtain ⟨u,r,l⟩:=hl i x v e1 e2 e3
  refine ⟨u,r,?_⟩
  rcases l with l|⟨k,c,e,z⟩
  ·exact .inl l
  ·exact .inr ⟨k,c,e,cellK x c e _ z⟩
 ·obtain ⟨v,z⟩:=I.cell x c e
  exact ⟨v,cellK x c e v z⟩
 ·obtain ⟨m,⟨o,_,_,ho,_⟩,_⟩:=I.loc
  exact free _ o (fun z=>(hch _ z).2.1 rfl) ho I.free
 ·obtain ⟨v,o,ho,hd⟩:=I.cell x c e
  exact free c o (fun z=>(hch c z).2.2.1 x c e rfl) ho (I.freeC x c e)
 ·obtain ⟨e,n,ne,nf,d⟩:=I.pin p hp
  have nch:p.1∉ch:=fun z=>(hch p.1 z).2.2.2 p hp rfl
  exact ⟨keep p.1 p.2 ne nf nch e n,free p.1 p.2 nch e n,ne,nf,d⟩
theorem Inv.un{t':Nat}(I:Inv X pins σ H s)(u:Un X.fs [] H H' s.heap h')(hok:HOk X.prog X.w H' h'):Inv X pins σ H' {s with heap:=h',toks:=t'}:=by
 obtain ⟨m,⟨o,es,ep,ho,r⟩,_⟩:=id I.loc
 obtain ⟨sl,hL⟩:=u.any ho I.free (by simp)
 exact I.step (g':=s.gens) (d':=s.drawn) (ch:=[]) (fun _ z=>nomatch z) (fun b o _ hb _ e n=>u.keep b o e n hb (by simp)) (fun b o _ hb _ e n=>u.slot b o e n hb (by simp)) (fun b o _ e n=>u.free b o e n (by simp)) (fun b o _ e=>u.there b o e (by simp)) u.tups u.frzs u.tbls (fun m' hm=>by
  obtain ⟨o',es',ep',ho',r'⟩:=hm
  rw[ho] at ho';cases ho'
  exact ⟨_,es',ep',hL,r'⟩) hok I.bare
theorem Inv.call{g':Array GenState}{t':Nat}{d':Drawn}{ch:List Addr}(I:Inv X pins σ H s)(u:Un (frs X.stack) ch H H' s.heap h')(hok:HOk X.prog X.w H' h')(hg:AllBare g')
  (hch:∀ b∈ch,(b∈X.ex\/X.s₀.heap.objs.size<=b)/\b≠X.env.locals/\(∀ x c,X.env.cells.lookup x=some c->c≠b)/\∀ p∈X.pn++pins,p.1≠b) :
  Inv X pins σ H' {s with heap:=h',gens:=g',drawn:=d',toks:=t'}:=by
 obtain ⟨m,⟨o,es,ep,ho,r⟩,_⟩:=id I.loc
 obtain ⟨sl,hL⟩:=u.any ho I.free fun z=>(hch _ z).2.1 rfl
 exact I.step (ch:=ch) hch (fun b o hL hb hc e n=>u.keep b o e n (fun z=>(List.mem_cons.mp (I.stkSub b z)).elim hL hb) hc) (fun b o _ _ hc e n=>u.any e n hc) (fun b o hc e n=>u.free b o e n hc) (fun b o hc e=>u.there b o e hc) u.tups u.frzs u.tbls (fun m' hm=>by
  obtain ⟨o',es',ep',ho',r'⟩:=hm
  rw[ho] at ho';cases ho'
  exact ⟨_,es',ep',hL,r'⟩) hok hg
theorem Inv.turned{t':Nat}{it:Addr}(I:Inv X pins σ H s)(k:∀ b o,b≠it->s.heap.get? b=some o->h'.get? b=some o)(hn:H it=none)(hL:it≠X.env.locals)
  (h1:it∈X.ex\/X.s₀.heap.objs.size<=it) (h2:∀ x c,X.env.cells.lookup x=some c->c≠it) (h3:∀ p∈X.pn++pins,p.1≠it):Inv X pins σ H {s with heap:=h',toks:=t'}:=by
 have nit:∀ b u,H b=some u->b≠it:=fun b u e z=>by rw[z,hn] at e;cases e
 refine I.step (g':=s.gens) (d':=s.drawn) (ch:=[it]) (fun b hb=>?_) (fun b o _ _ hc e _=>k b o (fun z=>hc (by simp[z])) e) (fun b o _ _ hc e _=>⟨o.slots,k b o (fun z=>hc (by simp[z])) e⟩) (fun _ _ _ _ n=>n)
  (fun b o hc e=>⟨o,k b o (fun z=>hc (by simp[z])) e⟩) (fun _ _ e=>e) (fun _ _ _ e=>e) (fun _ _ e=>e) (fun m hm=>?_) (fun b u e=>?_) I.bare
 ·have e:b=it:=by simpa using hb
  subst e
  exact ⟨h1,hL,h2,h3⟩
 ·obtain ⟨o,es,ep,ho,r⟩:=hm
  exact ⟨o,es,ep,k _ o (Ne.symm hL) ho,r⟩
 ·refine (I.hok b u e).stay (fun c v hc q=>k c v ?_ q) (fun _ q=>q) (fun _ _ q=>q) fun _ _ q=>q
  rcases hc with z|z
  · rw [z]; exact nit b u e
  · exact nit c _ z
theorem Inv.tok(I:Inv X pins σ H s)(t:Nat):Inv X pins σ H {s with toks:=t}:=I.un (h':=s.heap) (t':=t) Un.refl I.hok
theorem Inv.kept{t':Nat}(I:Inv X pins σ H s)(k:∀ b u,s.heap.get? b=some u->h'.get? b=some u):Inv X pins σ H {s with heap:=h',toks:=t'}:=I.un (Un.kept k) (I.hok.kept k)
theorem Inv.laid{a:Addr}{o:HO}{t':Nat}(I:Inv X pins σ H s)(k:∀ b u,s.heap.get? b=some u->h'.get? b=some u)(hp:s.heap.objs.size<=a)(new:bZ X.prog X.w (upd H a o) h' a o) :
 Inv X pins σ (upd H a o) {s with heap:=h',toks:=t'}:=I.un (Un.laid k hp (I.hok.fresh hp)) (I.hok.laid k hp new)
theorem Inv.write{x e:Addr}{o:HO}{t':Nat}(I:Inv X pins σ H s)(mu:Mut (H x))(he:e=x\/H e=some (.own x))(k:∀ b u,b≠e->s.heap.get? b=some u->h'.get? b=some u)(heo:∃ u,h'.get? e=some u)
 (new:bZ X.prog X.w (upd H x o) h' x o):Inv X pins σ (upd H x o) {s with heap:=h',toks:=t'}:=I.un (Un.write mu he k heo) (I.hok.write mu he k heo new)
theorem Inv.pins_of{pins':List (Addr×Obj)}(I:Inv X pins σ H s)(h:∀ p∈pins',s.heap.get? p.1=some p.2/\H p.1=none/\p.1≠X.env.locals/\p.1∉X.fs/\∀ v,p.2.data≠.cell v):Inv X pins' σ H s:=
 ⟨I.ok,I.os,I.bare,I.base,I.loc,I.cell,I.free,I.freeC,fun p hp=>(List.mem_append.mp hp).elim (fun z=>I.pin p (List.mem_append_left _ z)) (h p),I.hok,I.len⟩
theorem nO{N:List Str}(hN:N.Nodup){i j:Nat}{x:Str}(a:N[i]? = some x)(b:N[j]? = some x):i=j:=by
 obtain ⟨h1,e1⟩:=List.getElem?_eq_some_iff.mp a
 obtain ⟨h2,e2⟩:=List.getElem?_eq_some_iff.mp b
 exact (List.getElem_inj hN).mp (e1.trans e2.symm)
theorem mP{M:Model}{A:Around}{E:Value->Shared->Prop}{i:Nat}{x:Str}{v:V}{u:Value}{Q:Unit->Shared->Prop}(I:Inv X pins σ H s)(hN:X.N.Nodup)(hi:X.N[i]? = some x)(hx:Loc X.env.scope x)(r:a9 v u)
  (h:∀ s',Inv X pins (σ.set i (some v)) H s'->(∃ a,Heap.SameBut a s.heap s'.heap/\(a=X.env.locals\/X.env.cells.lookup x=some a))->Q () s') (hf:X.fn x=true\/X.env.scope.names.lookup x=some .local):wpAny M A (storeName X.env x u) Q E s:=by
 obtain ⟨m,hn,hl⟩:=id I.loc
 have hcls:(X.env.scope.kind == .class || (X.env.scope.kind == .module && X.env.locals != X.env.globals))=false:=by rw[I.ok.kind];rfl
 have hiσ:i < σ.length:=by rw[I.len];exact (List.getElem?_eq_some_iff.mp hi).1
 have cne:=I.cne
 have tracked:∀ {a:Addr} {h':Heap},(∃ o,s.heap.get? a=some o/\H a=none)->Heap.SameBut a s.heap h'->HOk X.prog X.w H h':=fun {a h'} ha hs b ob e=>by
  obtain ⟨_,_,hfree⟩:=ha
  refine (I.hok b ob e).stay (fun c w' hc q=>(hs.2 c ?_).trans q) (fun _ q=>q) (fun _ _ q=>q) fun _ _ q=>q
  rintro rfl
  rcases hc with rfl|hc
  ·rw[hfree] at e;cases e
  ·rw[hfree] at hc;cases hc
 rcases hx with hk|hk
 ·refine wpAny_storeName_local hk hn (fun h' hn' hs=>?_) hcls
  obtain ⟨oL,_,_,hoL,_⟩:=id hn
  refine h _ ⟨I.ok,I.os,I.bare,⟨fun b o e n hb hx=>?_,fun b o e n hb hx=>?_,I.base.free,fun b o e hx=>?_,I.base.tups,I.base.frzs,I.base.tbls⟩,⟨_,hn',fun j y v' e1 e2 e3=>?_⟩,fun y c e=>?_,I.free,I.freeC,fun p hp=>?_,tracked ⟨oL,hoL,I.free⟩ hs,by simpa using I.len⟩ ⟨_,hs,.inl rfl⟩
  ·exact (hs.2 b (Nat.ne_of_lt (Nat.lt_of_lt_of_le (Heap.lt_size e) I.ok.above))).trans (I.base.keep b o e n hb hx)
  ·obtain ⟨sl,e1⟩:=I.base.slot b o e n hb hx
   exact ⟨sl,(hs.2 b (Nat.ne_of_lt (Nat.lt_of_lt_of_le (Heap.lt_size e) I.ok.above))).trans e1⟩
  ·obtain ⟨o',e1⟩:=I.base.there b o e hx
   exact ⟨o',(hs.2 b (Nat.ne_of_lt (Nat.lt_of_lt_of_le (Heap.lt_size e) I.ok.above))).trans e1⟩
  ·by_cases hj:j=i
   ·subst hj
    rw[hi] at e1;cases e1
    rw[List.getElem?_set_self hiσ] at e2
    cases e2
    exact ⟨u,r,.inl ⟨hk,by simp⟩⟩
   ·rw[List.getElem?_set_ne (Ne.symm hj)] at e2
    obtain ⟨u',r',q⟩:=hl j y v' e1 e2 e3
    refine ⟨u',r',?_⟩
    rcases q with ⟨k,e⟩|⟨k,c,e,z⟩
    ·refine .inl ⟨k,?_⟩
     have:y≠x:=fun e=>hj (nO hN e1 (e▸hi))
     simp[this,e]
    ·exact .inr ⟨k,c,e,z.sameBut hs (cne y c e)⟩
  ·obtain ⟨w',z⟩:=I.cell y c e
   exact ⟨w',z.sameBut hs (cne y c e)⟩
  ·obtain ⟨e,n,ne,nf,d⟩:=I.pin p hp
   exact ⟨(hs.2 p.1 ne).trans e,n,ne,nf,d⟩
 ·have hfn:X.fn x=true:=by
   rcases hf with z|z
   ·exact z
   ·rw[z] at hk;cases hk
  obtain ⟨c,hc⟩:=I.ok.has x (.inl hk)
  obtain ⟨w',z⟩:=I.cell x c hc
  refine wpAny_storeName_cell I.ok.kind hk hc z (fun h' hc' hs=>?_)
  obtain ⟨oc,hoc,hocd⟩:=id z
  refine h {s with heap:=h'} ⟨I.ok,I.os,I.bare,⟨fun b o e n hb hx=>?_,fun b o e n hb hx=>?_,I.base.free,fun b o e hx=>?_,I.base.tups,I.base.frzs,I.base.tbls⟩,⟨m,hn.sameBut hs (Ne.symm (cne x c hc)),fun j y v' e1 e2 e3=>?_⟩,fun y c' e=>?_,I.free,I.freeC,fun p hp=>?_,tracked ⟨oc,hoc,I.freeC x c hc⟩ hs,by simpa using I.len⟩ ⟨c,hs,.inr hc⟩
  ·exact (hs.2 b (Nat.ne_of_lt (Nat.lt_of_lt_of_le (Heap.lt_size e) (I.ok.cab x c hfn hc)))).trans (I.base.keep b o e n hb hx)
  ·obtain ⟨sl,e1⟩:=I.base.slot b o e n hb hx
   exact ⟨sl,(hs.2 b (Nat.ne_of_lt (Nat.lt_of_lt_of_le (Heap.lt_size e) (I.ok.cab x c hfn hc)))).trans e1⟩
  ·obtain ⟨o',e1⟩:=I.base.there b o e hx
   exact ⟨o',(hs.2 b (Nat.ne_of_lt (Nat.lt_of_lt_of_le (Heap.lt_size e) (I.ok.cab x c hfn hc)))).trans e1⟩
  ·by_cases hj:j=i
   ·subst hj
    rw[hi] at e1;cases e1
    rw[List.getElem?_set_self hiσ] at e2
    cases e2
    exact ⟨u,r,.inr ⟨.inl hk,c,hc,hc'⟩⟩
   ·rw[List.getElem?_set_ne (Ne.symm hj)] at e2
    obtain ⟨u',r',q⟩:=hl j y v' e1 e2 e3
    refine ⟨u',r',?_⟩
    rcases q with q|⟨k,c',e,z'⟩
    ·exact .inl q
    ·refine .inr ⟨k,c',e,z'.sameBut hs ?_⟩
     rintro rfl
     exact hj (nO hN e1 (I.ok.inj _ _ _ e hc▸hi))
  ·by_cases hcc:c'=c
   ·subst hcc;exact ⟨_,hc'⟩
   ·obtain ⟨w2,z2⟩:=I.cell y c' e
    exact ⟨w2,z2.sameBut hs hcc⟩
  ·obtain ⟨e,n,ne,nf,d⟩:=I.pin p hp
   refine ⟨(hs.2 p.1 ?_).trans e,n,ne,nf,d⟩
   intro q
   rw[q,hoc] at e
   have q':oc=p.2:=Option.some.inj e
   exact d w' (by rw[<-q'];exact hocd)
theorem nP{M:Model}{A:Around}{E:Value->Shared->Prop}{i:Nat}{x:Str}{v:V}{u:Value}{Q:Unit->Shared->Prop}(I:Inv X pins σ H s)(hN:X.N.Nodup)(hi:X.N[i]? = some x)(hx:Loc X.env.scope x)(r:a9 v u)
  (h:∀ s',Inv X pins (σ.set i (some v)) H s'->Q () s') (hf:X.fn x=true\/X.env.scope.names.lookup x=some .local):wpAny M A (storeName X.env x u) Q E s:=
 mP I hN hi hx r (fun s' I' _=>h s' I') hf
theorem Inv.call'{s':Shared}{ch:List Addr}(I:Inv X pins σ H s)(ho:s'.os=s.os)(u:Un (frs X.stack) ch H H' s.heap s'.heap)(hok:HOk X.prog X.w H' s'.heap)(hg:AllBare s'.gens)
  (hch:∀ b∈ch,(b∈X.ex\/X.s₀.heap.objs.size<=b)/\b≠X.env.locals/\(∀ x c,X.env.cells.lookup x=some c->c≠b)/\∀ p∈X.pn++pins,p.1≠b):Inv X pins σ H' s':=by
 obtain ⟨h',g',d',t',o'⟩:=s'
 have e:o'=s.os:=ho
 subst e
 exact I.call (g':=g') (t':=t') (d':=d') u hok hg hch
end
abbrev XK:=Value->Option Addr->Hp->Prop
abbrev St:=List (Option V)
abbrev VK:=V->Hp->Prop
abbrev TE:=St->Hp->VK->Prop
abbrev TT:=St->Hp->(Bool->Hp->Prop)->Prop
abbrev TA:=St->Hp->(List V->Hp->Prop)->Prop
structure gR where
 nx:St->Hp->Prop
 rt:VK
 bk:St->Hp->Prop:=fun _ _=>False
 ct:St->Hp->Prop:=fun _ _=>False
abbrev TS:=gR->St->Hp->Prop
def EP(X:Cx)(pins:List (Addr×Obj))(σ:St)(Q:VK)(u:Value)(s':Shared):Prop:=∃ v H',Inv X pins σ H' s'/\a9 v u/\Q v H'
def TP(X:Cx)(pins:List (Addr×Obj))(σ:St)(Q:Bool->Hp->Prop)(b:Bool)(s':Shared):Prop:=∃ H',Inv X pins σ H' s'/\Q b H'
def AP(X:Cx)(pins:List (Addr×Obj))(σ:St)(Q:List V->Hp->Prop)(us:List Value)(s':Shared):Prop:=∃ vs H',Inv X pins σ H' s'/\aW vs us/\Q vs H'
def SP(X:Cx)(pins:List (Addr×Obj))(D:gR)(f:Flow)(s':Shared):Prop:=
 match f with
 | .next=>∃ σ' H',Inv X pins σ' H' s'/\D.nx σ' H'
 | .brk=>∃ σ' H',Inv X pins σ' H' s'/\D.bk σ' H'
 | .cont=>∃ σ' H',Inv X pins σ' H' s'/\D.ct σ' H'
 | .ret u=>∃ v σ' H',Inv X pins σ' H' s'/\a9 v u/\D.rt v H'
def PE(X:Cx)(e:Expr)(t:TE):Prop:=
 ∀ (pins:List (Addr×Obj)) (s:Shared) (σ:St) (H:Hp) (Q:VK),Inv X pins σ H s->t σ H Q->wpAny (model X.prog X.w) X.A (eval e X.env) (EP X pins σ Q) X.xe s
def PT(X:Cx)(e:Expr)(t:TT):Prop:=
 ∀ (pins:List (Addr×Obj)) (s:Shared) (σ:St) (H:Hp) (Q:Bool->Hp->Prop),Inv X pins σ H s->t σ H Q->wpAny (model X.prog X.w) X.A (isTrue e X.env (eval e X.env)) (TP X pins σ Q) X.xe s
def PW(X:Cx)(e:Expr)(t:TT):Prop:=
 ∀ (whole:Sem Value) (pins:List (Addr×Obj)) (s:Shared) (σ:St) (H:Hp) (Q:Bool->Hp->Prop),Inv X pins σ H s->t σ H Q->wpAny (model X.prog X.w) X.A (isTrue e X.env whole) (TP X pins σ Q) X.xe s
theorem PW.pt{X:Cx}{e:Expr}{t:TT}(h:PW X e t):PT X e t:=h _
def PA(X:Cx)(es:List Expr)(t:TA):Prop:=
 ∀ (pos:Pos) (pins:List (Addr×Obj)) (s:Shared) (σ:St) (H:Hp) (Q:List V->Hp->Prop),Inv X pins σ H s->t σ H Q->wpAny (model X.prog X.w) X.A (spliced (backTo pos (starEach es X.env))) (AP X pins σ Q) X.xe s
def PS(X:Cx)(st:Stmt)(t:TS):Prop:=
 ∀ (pins:List (Addr×Obj)) (s:Shared) (σ:St) (H:Hp) (D:gR),Inv X pins σ H s->t D σ H->wpAny (model X.prog X.w) X.A (exec st X.env) (SP X pins D) X.xe s
def PSs(X:Cx)(st:List Stmt)(t:TS):Prop:=
 ∀ (pins:List (Addr×Obj)) (s:Shared) (σ:St) (H:Hp) (D:gR),Inv X pins σ H s->t D σ H->wpAny (model X.prog X.w) X.A (execs st X.env) (SP X pins D) X.xe s
theorem thn{α:Type}{t:Sem α}{Q Q':α->Shared->Prop}{M:Model}{A:Around}{E:Value->Shared->Prop}{s:Shared}(h:wpAny M A t Q E s)(hQ:∀ a s,Q a s->Q' a s):wpAny M A t Q' E s:=wpAny_mono h hQ fun _ _ x=>x
end L2
namespace L2
open PySem PySem.Spec PyProof.Rows
section
variable{X:Cx}
def lY(i:Nat):TE:=fun σ H Q=>∃ v,σ[i]? = some (some v)/\Q v H
def tC(v:V):TE:=fun _ H Q=>Q v H
theorem yE{i:Nat}{x:Str}{pos:Pos}(hN:X.N[i]? = some x)(hv:Vis X.env.scope x)(hd:(x == ("__debug__":Str))=false:=by decide)(hcd:(x == ("__classdict__":Str))=false:=by decide):PE X (.Name x pos) (lY i):=by
 intro pins s σ H Q I h
 obtain ⟨v,e,h⟩:=h
 obtain ⟨m,hn,hl⟩:=I.loc
 obtain ⟨u,r,l⟩:=hl i x v hN e hv
 have fin:EP X pins σ Q u s:=⟨v,H,I,r,h⟩
 rcases l with ⟨hk,hm⟩|⟨hk,c,hc,hcell⟩
 ·exact wpAny_Name (wpAny_loadName_local I.ok.kind hk hn hm fin) hd
 ·rcases hk with hk|hk
  · exact wpAny_Name (wpAny_loadName_cell I.ok.kind hk hc hcell fin) hd
  · exact wpAny_Name (wpAny_loadName_free I.ok.kind hk hc hcell fin hcd) hd
theorem yF{i j pos}:PE X (.Constant (.int i) j pos) (tC (.int i)):=fun _ _ _ H _ I h=>wpAny_Constant_int ⟨.int i,H,I.tok _,⟨_,rfl⟩,h⟩
theorem aAL{b j pos}:PE X (.Constant (.bool b) j pos) (tC (.bl b)):=fun _ _ _ H _ I h=>Constant_bool ⟨.bl b,H,I,rfl,h⟩
theorem yG{j pos}:PE X (.Constant .none j pos) (tC .non):=fun _ _ _ H _ I h=>Constant_none ⟨.non,H,I,rfl,h⟩
theorem yH{x j pos}:PE X (.Constant (.str x) j pos) (tC (.str x)):=fun _ _ _ H _ I h=>Calls.Constant_str ⟨.str x,H,I.tok _,⟨_,rfl⟩,h⟩
def Gl(X:Cx)(x:Str):Prop:=X.env.kindOf x=some .globalImplicit
theorem pS{E:Value->Shared->Prop}{pins:List (Addr×Obj)}{s:Shared}{σ:St}{H:Hp}{x:Str}{u:Value}{pos:Pos}{Q:Value->Shared->Prop}(I:Inv X pins σ H s)(hg:Gl X x)(hm:X.mg x=some u)(h:Q u s)
  (hd:(x == ("__debug__":Str))=false:=by decide):wpAny (model X.prog X.w) X.A (eval (.Name x pos) X.env) Q E s:=
 Calls.Name_function_global I.ok.kind hg (Calls.loadGlobal_global (by rw[I.ok.glob];exact I.mod.glob.keeps I.bk) hm h) hd
theorem jB{E:Value->Shared->Prop}{pins:List (Addr×Obj)}{s:Shared}{σ:St}{H:Hp}{x:Str}{u:Value}{pos:Pos}{Q:Value->Shared->Prop}(I:Inv X pins σ H s)(hg:Gl X x)(hm:X.mg x=none)(hv:bootBuiltins x=some u)(h:Q u s)
  (hn:x≠"__name__":=by decide) (hd:(x == ("__debug__":Str))=false:=by decide):wpAny (model X.prog X.w) X.A (eval (.Name x pos) X.env) Q E s:=by
 obtain ⟨mb,h1,h2⟩:=I.mod.blt
 exact Calls.Name_function_global I.ok.kind hg (Calls.loadGlobal_builtin (by rw[I.ok.glob];exact I.mod.glob.keeps I.bk) hm (by rw[I.ok.blt];exact h1.keeps I.bk) ((h2 x hn).trans hv) h) hd
theorem cI{x:Str}{v:V}{u:Value}{pos:Pos}(hg:Gl X x)(hm:X.mg x=some u)(r:a9 v u)(hd:(x == ("__debug__":Str))=false:=by decide):PE X (.Name x pos) (tC v):=
 fun _ _ _ H _ I h=>pS I hg hm ⟨v,H,I,r,h⟩ hd
theorem lZ{x:Str}{v:V}{u:Value}{pos:Pos}(hg:Gl X x)(hm:X.mg x=none)(hv:bootBuiltins x=some u)(r:a9 v u)(hn:x≠"__name__":=by decide)(hd:(x == ("__debug__":Str))=false:=by decide):PE X (.Name x pos) (tC v):=
 fun _ _ _ H _ I h=>jB I hg hm hv ⟨v,H,I,r,h⟩ hn hd
variable{a b:Expr}{ta tb:TE}{pos:Pos}
def PC(X:Cx)(op:CmpOp)(a b:Expr)(t:TE):Prop:=
 ∀ (pins:List (Addr×Obj)) (s:Shared) (σ:St) (H:Hp) (Q:VK),Inv X pins σ H s->t σ H Q->
  wpAny (model X.prog X.w) X.A (eval a X.env) (fun v s₁=>wpAny (model X.prog X.w) X.A (eval b X.env) (fun u s₂=>wpAny (model X.prog X.w) X.A (compareOp op v u) (EP X pins σ Q) X.xe s₂) X.xe s₁) X.xe s
theorem uT(b:Expr){op:CmpOp}(h:op≠.In)(h2:op≠.NotIn):behindInMarks op b=false:=by
 have e1:(op == CmpOp.In)=false:=by cases op<;>first|rfl|exact absurd rfl h
 have e2:(op == CmpOp.NotIn)=false:=by cases op<;>first|rfl|exact absurd rfl h2
 cases b<;>simp[behindInMarks,e1,e2]
def tB(t:TE):TT:=fun σ H Q=>t σ H fun x H1=>∃ c,x=.bl c/\Q c H1
theorem dH{op:CmpOp}{t:TE}(h:PC X op a b t)(h1:behindInMarks op b=false:=by first|exact uT _ (by decide) (by decide)|rfl):PT X (.Compare a [op] [b] pos) (tB t):=by
 intro pins s σ H Q I hw
 refine wpAny_isTrue_Compare1 (thn (h pins s σ H _ I hw) fun v s1 h1=>thn h1 fun u s2 h2=>thn h2 fun c s3 zz0=>?_) h1
 obtain ⟨x,H1,I1,r1,q1⟩:=zz0
 obtain ⟨d,rfl,q⟩:=q1
 cases r1
 exact wpAny_truthy_bool ⟨H1,I1,q⟩
theorem dQ{e:Expr}{t:TE}(h:PE X e t)(he:∀ whole,isTrue e X.env whole=(do let v <-whole;standAt e.pos;holding [v] (truthy v)):=by intro _;rfl):PT X e (tB t):=by
 intro pins s σ H Q I hw
 refine isTrue_plain (thn (h pins s σ H _ I hw) fun v s1 zz0=>?_) (he _)
 obtain ⟨x,H1,I1,r1,q1⟩:=zz0
 obtain ⟨d,rfl,q⟩:=q1
 cases r1
 exact wpAny_truthy_bool ⟨H1,I1,q⟩
variable{tA tB':TT}{rest:List Expr}
def tOr(t u:TT):TT:=fun σ H Q=>t σ H fun c H1=>if c=true then Q true H1 else u σ H1 Q
def aBZ(t:TT):TT:=fun σ H Q=>t σ H fun c H1=>Q (!c) H1
theorem iB(ha:PT X a tA):PW X (.BoolOp .Or [a] pos) tA:=by
 intro wh pins s σ H Q I h
 refine isTrue_or (thn (ha pins s σ H Q I h) fun c s1 e=>?_)
 cases c with
 | false=>exact isTrue_or_nil e
 | true=>exact e
theorem iK(ha:PT X a tA)(hb:PW X (.BoolOp .Or (b::rest) pos) tB'):PW X (.BoolOp .Or (a::b::rest) pos) (tOr tA tB'):=by
 intro wh pins s σ H Q I h
 refine isTrue_or (thn (ha pins s σ H _ I h) fun c s1 zz0=>?_)
 obtain ⟨H1,I1,q1⟩:=zz0
 cases c with
 | true=>exact ⟨H1,I1,q1⟩
 | false=>exact hb wh pins s1 σ H1 Q I1 q1
theorem cR(ha:PT X a tA):PT X (.UnaryOp .Not a pos) (aBZ tA):=by
 intro pins s σ H Q I h
 exact isTrue_not (ha pins s σ H (fun c H1=>Q (!c) H1) I h)
def aAM(ta tb:TE):TE:=fun σ H Q=>ta σ H fun x H1=>∃ c,x=.bl c/\if c=true then tb σ H1 Q else Q (.bl false) H1
def aB0(ta tb:TE):TE:=fun σ H Q=>ta σ H fun x H1=>∃ c,x=.bl c/\if c=true then Q (.bl true) H1 else tb σ H1 Q
def aAN(ta:TE):TE:=fun σ H Q=>ta σ H fun x H1=>∃ c,x=.bl c/\Q (.bl (!c)) H1
theorem yI{op}{t:TE}(h:PE X a t):PE X (.BoolOp op [a] pos) t:=fun pins s σ H Q I hw=>BoolOp_one (h pins s σ H Q I hw)
theorem yJ(ha:PE X a ta)(hb:PE X (.BoolOp .And (b::rest) pos) tb):PE X (.BoolOp .And (a::b::rest) pos) (aAM ta tb):=by
 intro pins s σ H Q I h
 refine BoolOp_and (thn (ha pins s σ H _ I h) fun v s1 zz0=>?_)
 obtain ⟨x,H1,I1,r1,q1⟩:=zz0
 obtain ⟨c,rfl,q1⟩:=q1
 cases r1
 refine wpAny_truthy_bool ?_
 cases c with
 | true=>exact hb pins s1 σ H1 Q I1 q1
 | false=>exact ⟨.bl false,H1,I1,rfl,q1⟩
theorem aAO(ha:PE X a ta)(hb:PE X (.BoolOp .Or (b::rest) pos) tb):PE X (.BoolOp .Or (a::b::rest) pos) (aB0 ta tb):=by
 intro pins s σ H Q I h
 refine BoolOp_or (thn (ha pins s σ H _ I h) fun v s1 zz0=>?_)
 obtain ⟨x,H1,I1,r1,q1⟩:=zz0
 obtain ⟨c,rfl,q1⟩:=q1
 cases r1
 refine wpAny_truthy_bool ?_
 cases c with
 | false=>exact hb pins s1 σ H1 Q I1 q1
 | true=>exact ⟨.bl true,H1,I1,rfl,q1⟩
theorem yK(ha:PE X a ta):PE X (.UnaryOp .Not a pos) (aAN ta):=by
 intro pins s σ H Q I h
 refine UnaryOp_ (thn (ha pins s σ H _ I h) fun v s1 zz0=>?_)
 obtain ⟨x,H1,I1,r1,q1⟩:=zz0
 obtain ⟨c,rfl,q1⟩:=q1
 cases r1
 exact not_of (wpAny_truthy_bool ⟨.bl (!c),H1,I1,rfl,q1⟩)
def tIf(t:TT)(ta tb:TE):TE:=fun σ H Q=>t σ H fun c H1=>if c=true then ta σ H1 Q else tb σ H1 Q
theorem uU{c:Expr}(hc:PT X c tA)(ha:PE X a ta)(hb:PE X b tb):PE X (.IfExp c a b pos) (tIf tA ta tb):=by
 intro pins s σ H Q I h
 refine wpAny_IfExp (thn (hc pins s σ H _ I h) fun d s1 zz0=>?_)
 obtain ⟨H1,I1,q1⟩:=zz0
 cases d with
 | true=>exact ha pins s1 σ H1 Q I1 q1
 | false=>exact hb pins s1 σ H1 Q I1 q1
end
end L2
namespace L2
open PySem PySem.Spec PyProof.Rows
def SqL(K:Frag)(H:Hp)(a:Addr)(xs:List V):Prop:=
 Rd H a (.lst xs) \/
  ∃ (o:Obj) (its:Array Value) (n:Nat),K.lookup a=some o/\o.cls=.type "list"/\o.dict=none/\o.data=.seq its n/\its.size<=sizeLine/\aW xs its.toList
def SqT(K:Frag)(H:Hp)(a:Addr)(xs:List V):Prop:=
 Rd H a (.tup xs) \/
  ∃ (o:Obj) (its:Array Value) (n:Nat),K.lookup a=some o/\o.cls=.type "tuple"/\o.data=.seq its n/\its.size<=sizeLine/\aW xs its.toList
noncomputable def aB1:Value->Option V
 | .none=>some .non
 | .bool b=>some (.bl b)
 | .int i _=>some (.int i)
 | .str x _=>some (.str x)
 | .bytes b _=>some (.byt b)
 | .float b _=>some (.flt b)
 | .ref a=>some (.ref a)
 | .type n=>some (.ty n)
 | _=>none
theorem a9.abs{x:V}{u:Value}(r:a9 x u):aB1 u=some x:=by
 cases x with
 | non=>cases r;rfl
 | bl _=>cases r;rfl
 | int _=>obtain ⟨t,rfl⟩:=r;rfl
 | str _=>obtain ⟨t,rfl⟩:=r;rfl
 | byt _=>obtain ⟨t,rfl⟩:=r;rfl
 | flt _=>obtain ⟨t,rfl⟩:=r;rfl
 | ref _=>cases r;rfl
 | ty _=>cases r;rfl
theorem a9.inj{x y:V}{u:Value}(r:a9 x u)(q:a9 y u):x=y:=Option.some.inj (r.abs.symm.trans q.abs)
theorem aW.inj:∀ {xs ys:List V} {us:List Value},aW xs us->aW ys us->xs=ys
 | _,_,_,.nil,.nil=>rfl
 | _,_,_,.cons r t,.cons r' t'=>by rw[r.inj r',aW.inj t t']
section
variable{X:Cx}{pins:List (Addr×Obj)}{σ:St}{H:Hp}{s:Shared}{a:Addr}{xs ys:List V}
theorem SqL.of{K:Frag}(h:H a=some (.lst xs)):SqL K H a xs:=.inl (.inl h)
theorem SqT.of{K:Frag}(h:H a=some (.tup xs)):SqT K H a xs:=.inl (.inl h)
theorem Inv.list(I:Inv X pins σ H s)(h:SqL X.K H a xs):∃ its:List Value,aW xs its/\PlainL s.heap a its.toArray/\xs.length<=sizeLine:=by
 rcases h with h|⟨o,its,n,hk,hc,hd,hs,hz,r⟩
 ·obtain ⟨z,its,n,r,e⟩:=h.ok I.hok
  exact ⟨its,r,⟨_,n,e,rfl,rfl,rfl⟩,z⟩
 ·refine ⟨its.toList,r,⟨o,n,I.kIn a o hk,hc,hd,by simpa using hs⟩,?_⟩
  have e:=r.length
  simp only[Array.length_toList] at e
  omega
theorem Inv.tuple(I:Inv X pins σ H s)(h:SqT X.K H a xs):∃ its:List Value,aW xs its/\IsTup s.heap a its.toArray/\xs.length<=sizeLine:=by
 rcases h with h|⟨o,its,n,hk,hc,hs,hz,r⟩
 ·obtain ⟨z,its,r,p⟩:=h.ok I.hok
  exact ⟨its,r,p,z⟩
 ·refine ⟨its.toList,r,⟨o,I.kIn a o hk,hc,n,by simpa using hs⟩,?_⟩
  have e:=r.length
  simp only[Array.length_toList] at e
  omega
theorem Inv.list_inj(I:Inv X pins σ H s)(h:SqL X.K H a xs)(h':SqL X.K H a ys):xs=ys:=by
 obtain ⟨its,r,⟨o,n,e,_,_,d⟩,_⟩:=I.list h
 obtain ⟨its',r',⟨o',n',e',_,_,d'⟩,_⟩:=I.list h'
 rw[e] at e';cases e'
 rw[d] at d'
 injection d' with d1 _
 have:its=its':=by simpa using congrArg Array.toList d1
 subst this
 exact r.inj r'
theorem Inv.tuple_inj(I:Inv X pins σ H s)(h:SqT X.K H a xs)(h':SqT X.K H a ys):xs=ys:=by
 obtain ⟨its,r,⟨o,e,_,n,d⟩,_⟩:=I.tuple h
 obtain ⟨its',r',⟨o',e',_,n',d'⟩,_⟩:=I.tuple h'
 rw[e] at e';cases e'
 rw[d] at d'
 injection d' with d1 _
 have:its=its':=by simpa using congrArg Array.toList d1
 subst this
 exact r.inj r'
end
abbrev Cx.wish(X:Cx)(E:Value->Shared->Prop):Cx:={X with xe:=E}
abbrev Cx.nox(X:Cx):Cx:=X.wish fun _ _=>False
theorem Cx.Ok.wish{X:Cx}(ok:X.Ok)(E:Value->Shared->Prop):(X.wish E).Ok:=
 ⟨ok.mod,ok.kind,ok.glob,ok.blt,ok.above,ok.inj,ok.has,ok.cab,ok.hd,ok.frames,ok.stk,ok.exf,ok.bs,ok.bsz,ok.noex,ok.exfs,ok.funs,ok.frf⟩
theorem Cx.Ok.unwish{X:Cx}{E:Value->Shared->Prop}(ok:(X.wish E).Ok):X.Ok:=
 ⟨ok.mod,ok.kind,ok.glob,ok.blt,ok.above,ok.inj,ok.has,ok.cab,ok.hd,ok.frames,ok.stk,ok.exf,ok.bs,ok.bsz,ok.noex,ok.exfs,ok.funs,ok.frf⟩
section
variable{X:Cx}{pins:List (Addr×Obj)}{σ:St}{H:Hp}{s:Shared}{E:Value->Shared->Prop}
theorem Inv.wish(I:Inv X pins σ H s)(E:Value->Shared->Prop):Inv (X.wish E) pins σ H s:=⟨I.ok.wish E,I.os,I.bare,I.base,I.loc,I.cell,I.free,I.freeC,I.pin,I.hok,I.len⟩
theorem Inv.unwish(I:Inv (X.wish E) pins σ H s):Inv X pins σ H s:=⟨I.ok.unwish,I.os,I.bare,I.base,I.loc,I.cell,I.free,I.freeC,I.pin,I.hok,I.len⟩
theorem SP.unwish{D:gR}{f:Flow}{s':Shared}(h:SP (X.wish E) pins D f s'):SP X pins D f s':=by
 cases f with
 | next=>obtain ⟨σ',H',I,q⟩:=h;exact ⟨σ',H',I.unwish,q⟩
 | brk=>obtain ⟨σ',H',I,q⟩:=h;exact ⟨σ',H',I.unwish,q⟩
 | cont=>obtain ⟨σ',H',I,q⟩:=h;exact ⟨σ',H',I.unwish,q⟩
 | ret u=>obtain ⟨v,σ',H',I,r,q⟩:=h;exact ⟨v,σ',H',I.unwish,r,q⟩
theorem PE.nox{e:Expr}{t:TE}(h:PE X.nox e t):PE X e t:=fun pins s σ H Q I hw=>
 wpAny_mono (h pins s σ H Q (I.wish _) hw) (fun _ _ ⟨v,H',I',r,q⟩=>⟨v,H',I'.unwish,r,q⟩) fun _ _ z=>False.elim z
theorem PT.nox{e:Expr}{t:TT}(h:PT X.nox e t):PT X e t:=fun pins s σ H Q I hw=>
 wpAny_mono (h pins s σ H Q (I.wish _) hw) (fun _ _ ⟨H',I',q⟩=>⟨H',I'.unwish,q⟩) fun _ _ z=>False.elim z
theorem PSs.nox{st:List Stmt}{t:TS}(h:PSs X.nox st t):PSs X st t:=fun pins s σ H D I hw=>
 wpAny_mono (h pins s σ H D (I.wish _) hw) (fun _ _ q=>q.unwish) fun _ _ z=>False.elim z
end
section
variable{X:Cx}{st:Stmt}{rest:List Stmt}{t u:TS}{e:Expr}{te:TE}{pos:Pos}
def aAP:TS:=fun D σ H=>D.nx σ H
def aB2(t u:TS):TS:=fun D σ H=>t {D with nx:=u D} σ H
theorem bW:PSs X [] aAP:=fun _ _ σ H _ I h=>wpAny_execs_nil ⟨σ,H,I,h⟩
theorem aI(h1:PS X st t)(h2:PSs X rest u):PSs X (st::rest) (aB2 t u):=by
 intro pins s σ H D I h
 refine wpAny_execs_cons (thn (h1 pins s σ H {D with nx:=u D} I h) fun f s1 q=>?_)
 cases f with
 | next=>
  obtain ⟨σ',H',I',q⟩:=q
  exact h2 pins s1 σ' H' D I' q
 | ret v=>exact q
 | brk=>exact q
 | cont=>exact q
theorem aK(h1:PS X st t):PSs X [st] t:=by
 intro pins s σ H D I h
 refine wpAny_execs_cons (thn (h1 pins s σ H D I h) fun f s1 q=>?_)
 cases f with
 | next=>exact wpAny_execs_nil q
 | ret v=>exact q
 | brk=>exact q
 | cont=>exact q
theorem Inv.quiet{pins:List (Addr×Obj)}{σ:St}{H:Hp}{s:Shared}(I:Inv X pins σ H s):interactive X.env=false:=by simp[interactive,I.ok.kind]
def qV(te:TE):TS:=fun D σ H=>te σ H fun _ H1=>D.nx σ H1
theorem gH(he:PE X e te)(hs:swapsWith e none pos.line X.env=pure false:=by rfl):PS X (.Expr e pos) (qV te):=by
 intro pins s σ H D I h
 exact wpAny_Expr_any (thn (he pins s σ H _ I h) fun v s1 ⟨x,H1,I1,r1,q1⟩=>⟨σ,H1,I1,q1⟩) I.quiet hs
def aB3(te:TE):TS:=fun D σ H=>te σ H D.rt
theorem a7(he:PE X e te):PS X (.Return (some e) pos) (aB3 te):=by
 intro pins s σ H D I h
 exact wpAny_Return_some (thn (he pins s σ H _ I h) fun v s1 ⟨x,H1,I1,r1,q1⟩=>⟨x,σ,H1,I1,r1,q1⟩)
def aB4(c:TT)(t u:TS):TS:=fun D σ H=>c σ H fun b H1=>if b=true then t D σ H1 else u D σ H1
theorem cH{c:Expr}{a b:List Stmt}{tc:TT}(hc:PT X c tc)(ha:PSs X a t)(hb:PSs X b u):PS X (.If c a b pos) (aB4 tc t u):=by
 intro pins s σ H D I h
 refine wpAny_If (thn (hc pins s σ H _ I h) fun d s1 zz0=>?_)
 obtain ⟨H1,I1,q1⟩:=zz0
 cases d with
 | true=>exact ha pins s1 σ H1 D I1 q1
 | false=>exact hb pins s1 σ H1 D I1 q1
end
abbrev TG:=V->St->Hp->(St->Hp->Prop)->Prop
abbrev TGs:=List V->St->Hp->(St->Hp->Prop)->Prop
def PG(X:Cx)(target:Expr)(t:TG):Prop:=
 ∀ (pins:List (Addr×Obj)) (s:Shared) (σ:St) (H:Hp) (v:V) (u:Value) (Q:St->Hp->Prop),Inv X pins σ H s->a9 v u->t v σ H Q->
  wpAny (model X.prog X.w) X.A (assign target X.env u) (fun _ s'=>∃ σ' H',Inv X pins σ' H' s'/\Q σ' H') X.xe s
def PGs(X:Cx)(ts:List Expr)(t:TGs):Prop:=
 ∀ (pins:List (Addr×Obj)) (s:Shared) (σ:St) (H:Hp) (vs:List V) (us:List Value) (Q:St->Hp->Prop),Inv X pins σ H s->aW vs us->t vs σ H Q->
  wpAny (model X.prog X.w) X.A (assignInOrder ((assignEach ts X.env).map (·.2)) us) (fun _ s'=>∃ σ' H',Inv X pins σ' H' s'/\Q σ' H') X.xe s
section
variable{X:Cx}{pos:Pos}
def iL(i:Nat):TG:=fun v σ H Q=>Q (σ.set i (some v)) H
theorem bS{i:Nat}{x:Str}(hN:X.N.Nodup)(hi:X.N[i]? = some x)(hx:Loc X.env.scope x)(hf:X.fn x=true\/X.env.scope.names.lookup x=some .local:=by first|exact .inl rfl|exact .inr rfl):PG X (.Name x pos) (iL i):=by
 intro pins s σ H v u Q I r h
 exact wpAny_assign_Name (nP I hN hi hx r (fun s' I'=>⟨_,H,I',h⟩) hf)
def uV:TGs:=fun vs σ H Q=>vs=[]/\Q σ H
def wC(t:TG)(u:TGs):TGs:=fun vs σ H Q=>∃ v r,vs=v::r/\t v σ H fun σ' H'=>u r σ' H' Q
theorem l0:PGs X [] uV:=by
 intro pins s σ H vs us Q I r h
 obtain ⟨e,h⟩:=h
 subst e
 cases r
 exact assignInOrder_nil ⟨σ,H,I,h⟩
theorem eJ{e:Expr}{es:List Expr}{t:TG}{u:TGs}(h1:PG X e t)(h2:PGs X es u)
  (hs:(assignEach (e::es) X.env).map (·.2)=assign e X.env::(assignEach es X.env).map (·.2):=by rfl):PGs X (e::es) (wC t u):=by
 intro pins s σ H vs us Q I r h
 obtain ⟨v,vr,e1,h⟩:=h
 subst e1
 cases r with
 | cons r rr=>
  rw[hs]
  refine assignInOrder_cons (thn (h1 pins s σ H _ _ _ I r h) fun _ s1 zz0=>?_)
  obtain ⟨σ1,H1,I1,q1⟩:=zz0
  exact h2 pins s1 σ1 H1 _ _ Q I1 rr q1
def yL(K:Frag)(n:Nat)(t:TGs):TG:=fun v σ H Q=>∃ a xs,v=.ref a/\SqT K H a xs/\xs.length=n/\t xs σ H Q
theorem nQ{es:List Expr}{k:Nat}{t:TGs}{n:Nat}(hc:X.calm=true)(h:PGs X es t)
  (hn:(assignEach es X.env).length=n:=by rfl) (hst:(assignEach es X.env).findIdx? (·.1)=none:=by rfl):PG X (.Tuple es k pos) (yL X.K n t):=by
 intro pins s σ H v u Q I r hw
 obtain ⟨a,xs,e1,hq,hl,hw⟩:=hw
 subst e1
 cases r
 obtain ⟨its,rv,ht,hz⟩:=I.tuple hq
 refine assign_Tuple_tuple (I.ok.hd hc) ht (by simp[hn,<-hl,rv.length]) hst fun h' hx=>?_
 have I1:Inv X pins σ H {s with heap:=h'}:=I.kept (t':=s.toks) fun b o e=>hx b o (Nat.ne_of_lt (Heap.lt_size e)) e
 exact h pins _ σ H xs _ Q I1 (by simpa using rv) hw
def nR(te:TE)(g:TG):TS:=fun D σ H=>te σ H fun x H1=>g x σ H1 D.nx
theorem aR{i:Nat}{x:Str}{e:Expr}{te:TE}{pos':Pos}(hN:X.N.Nodup)(hi:X.N[i]? = some x)(hx:Loc X.env.scope x)(he:PE X e te)(hs:swapsWith e (some (.Name x pos')) pos.line X.env=pure false:=by rfl)(hf:X.fn x=true\/X.env.scope.names.lookup x=some .local:=by exact .inl rfl) :
  PS X (.Assign [.Name x pos'] e pos) (nR te (iL i)):=by
 intro pins s σ H D I h
 refine wpAny_Assign_Name (thn (he pins s σ H _ I h) fun v s1 zz0=>?_) hs
 obtain ⟨y,H1,I1,r1,q1⟩:=zz0
 exact nP I1 hN hi hx r1 (fun s2 I2=>⟨_,H1,I2,q1⟩) hf
end
structure It where
 go:Nat->Hp->Prop
 yld:Nat->Hp->V->Hp->Prop
 stop:Nat->Hp->Prop
def d6(X:Cx)(pins:List (Addr×Obj))(H:Hp)(b:Addr):Prop:=
 H b=none/\b≠X.env.locals/\b∉X.fs/\(b∈X.ex\/X.s₀.heap.objs.size<=b)/\(∀ x c,X.env.cells.lookup x=some c->c≠b)/\∀ p∈X.pn++pins,p.1≠b
theorem Inv.fpOk{X:Cx}{pins:List (Addr×Obj)}{σ:St}{H H':Hp}{s:Shared}{b:Addr}(I:Inv X pins σ H s)(hb:s.heap.objs.size<=b)(hn:H' b=none):d6 X pins H' b:=by
 refine ⟨hn,Nat.ne_of_gt (Nat.lt_of_lt_of_le I.lt hb),I.nofs hb,.inr (Nat.le_trans I.sz hb),fun x c e z=>?_,fun p hp z=>?_⟩
 ·obtain ⟨v,q⟩:=I.cell x c e
  exact absurd (Nat.lt_of_lt_of_le q.lt (by rw[z];exact hb)) (Nat.lt_irrefl _)
 ·exact absurd (Nat.lt_of_lt_of_le (Heap.lt_size (I.pin p hp).1) (by rw[z];exact hb)) (Nat.lt_irrefl _)
structure Turn(P:Program)(w:World)(K:Frag)(tg:Expr)(J:It)(fp:List Addr)(it:Addr)(tn:Nat->Heap->Prop):Prop where
 mem:it∈fp
 obj:∀ i h,tn i h->∀ b∈fp,∃ o,h.get? b=some o/\∀ v,o.data≠.cell v
 keep:∀ i h h',tn i h->(∀ b∈fp,∀ o,h.get? b=some o->h'.get? b=some o)->tn i h'
 item:∀ (X:Cx),X.prog=P->X.w=w->X.K=K->X.calm=true->∀ (i:Nat) (pins:List (Addr×Obj)) (s:Shared) (σ:St) (H:Hp) (E:Value->Shared->Prop),Inv X pins σ H s->(∀ b∈fp,d6 X pins H b)->tn i s.heap->J.go i H->
  wpAny (model P w) X.A (pyNext (.ref it)) (fun r s1=>∃ u,r=some u /\
   wpAny (model P w) X.A (letOwnedTupleGo tg (.ref it) u) (fun _ s2=>∃ x H',Inv X pins σ H' s2/\a9 x u/\J.yld i H x H'/\tn (i+1) s2.heap/\∀ b∈fp,H' b=none) E s1) E s
 done:∀ (X:Cx),X.prog=P->X.w=w->X.K=K->X.calm=true->∀ (i:Nat) (pins:List (Addr×Obj)) (s:Shared) (σ:St) (H:Hp) (E:Value->Shared->Prop),Inv X pins σ H s->(∀ b∈fp,d6 X pins H b)->tn i s.heap->J.stop i H->
  wpAny (model P w) X.A (pyNext (.ref it)) (fun r s1=>r=none/\Inv X pins σ H s1) E s
 self:∀ (A:Around) (i:Nat) (s:Shared) (Q:Value->Shared->Prop) (E:Value->Shared->Prop),tn i s.heap->Q (.ref it) s->wpAny (model P w) A (pyIter (.ref it)) Q E s
abbrev TI:=St->Hp->(It->Hp->Prop)->Prop
def PIE(X:Cx)(pins:List (Addr×Obj))(σ:St)(tg:Expr)(R:It->Hp->Prop)(itv:Value)(s2:Shared):Prop:=
 ∃ (it:Addr) (fp:List Addr) (tn:Nat->Heap->Prop) (J:It) (H':Hp),itv=.ref it/\Inv X pins σ H' s2/\Turn X.prog X.w X.K tg J fp it tn/\tn 0 s2.heap/\(∀ b∈fp,d6 X pins H' b)/\R J H'
def PI(X:Cx)(tg iter:Expr)(wi:TI):Prop:=
 ∀ (pins:List (Addr×Obj)) (s:Shared) (σ:St) (H:Hp) (R:It->Hp->Prop),Inv X pins σ H s->wi σ H R->
  wpAny (model X.prog X.w) X.A (eval iter X.env) (fun v s1=>wpAny (model X.prog X.w) X.A (pyIter v) (PIE X pins σ tg R) X.xe s1) X.xe s
theorem nE {M : Model} {A : Around} {E : Value -> Shared -> Prop} {s : Shared} {tg : Expr} {it : Addr} {u : Value} {o : Obj} {n : String} {vs : Array Value} {Q : Unit -> Shared -> Prop} (ho : s.heap.get? it = some o) (hc : o.cls = .type n) (hd : o.data = .fields vs)
    (hn : ["enumerate", "zip", "dict_itemiterator", "dict_reverseitemiterator", "odict_iterator", "itertools.zip_longest", "itertools.pairwise"].contains n = false) (hQ : Q () s) : wpAny M A (letOwnedTupleGo tg (.ref it) u) Q E s := by
  unfold letOwnedTupleGo
  cases tg <;> first
    | exact wpAny_pure hQ
    | (cases u <;> first
        | exact wpAny_pure hQ
        | (refine wpAny_bind (wpAny_load ho ?_)
           rw [hc, hd]
           show wpAny M A (if (["enumerate", "zip", "dict_itemiterator", "dict_reverseitemiterator", "odict_iterator", "itertools.zip_longest", "itertools.pairwise"].contains n && vs[0]? == some (rawInt _)) = true then _ else _) Q E s
           rw [if_neg (by intro h; rw [hn, Bool.false_and] at h; cases h)]
           exact wpAny_pure hQ))
def Itl(K:Frag)(a:Addr):It:=
 ⟨fun i H=>∃ xs x,SqL K H a xs/\xs[i]? = some x,fun i H x H'=>H'=H/\∀ xs,SqL K H a xs->xs[i]? = some x,fun i H=>∃ xs,SqL K H a xs/\xs.length<=i⟩
def Itt(K:Frag)(a:Addr):It:=
 ⟨fun i H=>∃ xs x,SqT K H a xs/\xs[i]? = some x,fun i H x H'=>H'=H/\∀ xs,SqT K H a xs->xs[i]? = some x,fun i H=>∃ xs,SqT K H a xs/\xs.length<=i⟩
noncomputable def Itr(lo:Int)(n:Nat):It:=⟨fun i _=>i < n,fun i H x H'=>H'=H/\x=.int (lo+i),fun i _=>n<=i⟩
theorem sD{P:Program}{w:World}{K:Frag}{tg:Expr}(a it:Addr):Turn P w K tg (Itl K a) [it] it (fun i h=>h.IsListIter it a i) where
 mem:=by simp
 obj:=fun i h st b hb=>by
  have e:b=it:=by simpa using hb
  subst e
  obtain ⟨o,e,c,d⟩:=st
  exact ⟨o,e,fun v z=>by rw[d] at z;cases z⟩
 keep:=fun i h h' st k=>st.at fun o e=>k it (by simp) o e
 item:=by
  intro X hP hw hK hc i pins s σ H E I hf st hg
  subst hP hw hK
  obtain ⟨xs,x,hq,hx⟩:=hg
  obtain ⟨its,rv,p,hz⟩:=I.list hq
  obtain ⟨u,hu,ru⟩:=rv.get hx
  obtain ⟨f0,f1,f2,f3,f4,f5⟩:=hf it (by simp)
  refine wpAny_pyNext_list_item st p.isList (x:=u) (by simpa using hu) fun h' st' sb=>?_
  have I1:Inv X pins σ H {s with heap:=h'}:=I.turned (t':=s.toks) (fun b o hb e=>(sb.2 b hb).trans e) f0 f1 f3 f4 f5
  obtain ⟨o,e,c,d⟩:=id st'
  exact ⟨u,rfl,nE (s:={s with heap:=h'}) e c d (by decide) ⟨x,H,I1,ru,⟨rfl,fun ys hy=>by rw[I.list_inj hy hq];exact hx⟩,st',fun b hb=>(hf b hb).1⟩⟩
 done:=by
  intro X hP hw hK hc i pins s σ H E I hf st hg
  subst hP hw hK
  obtain ⟨xs,hq,hx⟩:=hg
  obtain ⟨its,rv,p,hz⟩:=I.list hq
  obtain ⟨f0,f1,f2,f3,f4,f5⟩:=hf it (by simp)
  have hl:=rv.length
  exact wpAny_pyNext_list_end (I.ok.hd hc) st p.isList (by simp;omega) fun h' eb=>⟨rfl,I.turned (t':=s.toks) (fun b o hb e=>eb b o hb e) f0 f1 f3 f4 f5⟩
 self:=fun _ _ _ _ _ st h=>wpAny_pyIter_listiter st h
theorem qW{P:Program}{w:World}{K:Frag}{tg:Expr}(a it:Addr):Turn P w K tg (Itt K a) [it] it (fun i h=>h.IsTupleIter it a i) where
 mem:=by simp
 obj:=fun i h st b hb=>by
  have e:b=it:=by simpa using hb
  subst e
  obtain ⟨o,e,c,d⟩:=st
  exact ⟨o,e,fun v z=>by rw[d] at z;cases z⟩
 keep:=fun i h h' st k=>st.at fun o e=>k it (by simp) o e
 item:=by
  intro X hP hw hK hc i pins s σ H E I hf st hg
  subst hP hw hK
  obtain ⟨xs,x,hq,hx⟩:=hg
  obtain ⟨its,rv,p,hz⟩:=I.tuple hq
  obtain ⟨u,hu,ru⟩:=rv.get hx
  obtain ⟨f0,f1,f2,f3,f4,f5⟩:=hf it (by simp)
  refine wpAny_pyNext_tuple_item st (show s.heap.IsTuple a its.toArray from p) (x:=u) (by simpa using hu) fun h' st' sb=>?_
  have I1:Inv X pins σ H {s with heap:=h'}:=I.turned (t':=s.toks) (fun b o hb e=>(sb.2 b hb).trans e) f0 f1 f3 f4 f5
  obtain ⟨o,e,c,d⟩:=id st'
  exact ⟨u,rfl,nE (s:={s with heap:=h'}) e c d (by decide) ⟨x,H,I1,ru,⟨rfl,fun ys hy=>by rw[I.tuple_inj hy hq];exact hx⟩,st',fun b hb=>(hf b hb).1⟩⟩
 done:=by
  intro X hP hw hK hc i pins s σ H E I hf st hg
  subst hP hw hK
  obtain ⟨xs,hq,hx⟩:=hg
  obtain ⟨its,rv,p,hz⟩:=I.tuple hq
  obtain ⟨f0,f1,f2,f3,f4,f5⟩:=hf it (by simp)
  have hl:=rv.length
  exact wpAny_pyNext_tuple_end (I.ok.hd hc) st (show s.heap.IsTuple a its.toArray from p) (by simp;omega) fun h' eb=>⟨rfl,I.turned (t':=s.toks) (fun b o hb e=>eb b o hb e) f0 f1 f3 f4 f5⟩
 self:=fun _ _ _ _ _ st h=>wpAny_pyIter_tupleiter st h
theorem qX{P:Program}{w:World}{K:Frag}{tg:Expr}(it:Addr)(lo:Int)(n:Nat):Turn P w K tg (Itr lo n) [it] it (fun i h=>IsRangeIter h it (lo+(i:Nat) * 1) ((n:Int) - (i:Nat)) 1) where
 mem:=by simp
 obj:=fun i h st b hb=>by
  have e:b=it:=by simpa using hb
  subst e
  exact ⟨_,st,fun v z=>by
   have z':Data.fields _=Data.cell v:=z
   cases z'⟩
 keep:=fun i h h' st k=>k it (by simp) _ st
 item:=by
  intro X hP hw hK hc i pins s σ H E I hf st hg
  subst hP hw hK
  obtain ⟨f0,f1,f2,f3,f4,f5⟩:=hf it (by simp)
  have W:=Walks.range (prog:=X.prog) (w:=X.w) (I.ok.hd hc) it lo 1 n
  refine W.item i s _ _ hg st fun v h' tk hv st' kk=>?_
  obtain ⟨t,rfl⟩:=hv
  have I1:Inv X pins σ H {s with heap:=h',toks:=tk}:=I.turned (fun b o hb e=>kk b o (by simpa using hb) e) f0 f1 f3 f4 f5
  refine ⟨_,rfl,nE (s:={s with heap:=h',toks:=tk}) (n:="range_iterator") st' rfl rfl (by decide) ⟨.int (lo+i),H,I1,⟨t,?_⟩,⟨rfl,rfl⟩,st',fun b hb=>(hf b hb).1⟩⟩
  rw[Int.mul_one]
 done:=by
  intro X hP hw hK hc i pins s σ H E I hf st hg
  subst hP hw hK
  obtain ⟨f0,f1,f2,f3,f4,f5⟩:=hf it (by simp)
  exact wpAny_pyNext_range_end (I.ok.hd hc) st (by have:n<=i:=hg;omega) fun h' eb=>⟨rfl,I.turned (t':=s.toks) (fun b o hb e=>eb b o hb e) f0 f1 f3 f4 f5⟩
 self:=fun _ _ _ _ _ st h=>wpAny_pyIter_rangeiter st h
end L2
namespace L2
open PySem PySem.Spec PyProof.Rows
section
variable{X:Cx}{tg:Expr}
theorem uW{pins:List (Addr×Obj)}{σ:St}{H:Hp}{s:Shared}{R:It->Hp->Prop}{E:Value->Shared->Prop}{lo hi:Int}{t u v:Tok}{tk:Nat}(I:Inv X pins σ H s)(h1 : -(2 ^ 62)<=lo)(h2:lo < 2 ^ 62)(h3 : -(2 ^ 62)<=hi)(h4:hi < 2 ^ 62)
  (q:R (Itr lo (hi - lo).toNat) H):wpAny (model X.prog X.w) X.A (pyIter (.ref s.heap.objs.size)) (PIE X pins σ tg R) E {s with heap:=s.heap.push {cls:=.type "range",data:=.fields #[.int lo t,.int hi u,.int 1 v]},toks:=tk}:=by
 refine wpAny_pyIter_range (IsRange.new ..) (small_one h1 h2 h3 h4) ?_
 have I1:Inv X pins σ H {s with heap:=s.heap.push {cls:=.type "range",data:=.fields #[.int lo t,.int hi u,.int 1 v]},toks:=tk}:=I.kept fun b o e=>Heap.get?_push_of_some _ e
 refine ⟨(s.heap.push {cls:=.type "range",data:=.fields #[.int lo t,.int hi u,.int 1 v]}).objs.size,[(s.heap.push {cls:=.type "range",data:=.fields #[.int lo t,.int hi u,.int 1 v]}).objs.size],_,_,H,rfl,
  I1.kept (t':=tk) fun b o e=>Heap.get?_push_of_some _ e,qX _ lo (hi - lo).toNat,?_,fun b hb=>?_,q⟩
 ·have e1:lo+((0:Nat):Int) * 1=lo:=by simp
  have e2:(((hi - lo).toNat:Nat):Int) - ((0:Nat):Int)=Builtin.Range.rangeSize lo hi 1:=by rw[rangeSize_one];split<;>omega
  show IsRangeIter _ _ (lo+((0:Nat):Int) * 1) ((((hi - lo).toNat:Nat):Int) - ((0:Nat):Int)) 1
  rw[e1,e2]
  exact Heap.get?_push_size _ rfl
 ·have e:b=(s.heap.push {cls:=.type "range",data:=.fields #[.int lo t,.int hi u,.int 1 v]}).objs.size:=by simpa using hb
  subst e
  exact I1.fpOk (Nat.le_refl _) (I1.hok.fresh (Nat.le_refl _))
def wD(ta:TA):TI:=fun σ H R=>ta σ H fun vs H1=>∃ j:Int,vs=[.int j] /\ -(2 ^ 62)<=j/\j < 2 ^ 62/\R (Itr 0 j.toNat) H1
theorem gW{a:Expr}{ta:TA}{p pos:Pos}(hg:Gl X "range")(hm:X.mg "range"=none)(ha:PA X [a] ta)(hs:starEach [a] X.env=[(false,eval a X.env)]:=by rfl):PI X tg (.Call (.Name "range" p) [a] [] pos) (wD ta):=by
 intro pins s σ H R I h
 refine Call_ (jB I hg hm boot_range (PyProof.Rows.callWith_type1 (thn (ha pos pins s σ H _ I h) fun us s1 zz0=>?_) hs rfl))
 obtain ⟨vs,H1,I1,r1,q1⟩:=zz0
 obtain ⟨j,e,q1,q2,q⟩:=q1
 subst e
 cases r1 with
 | cons r rr=>
  cases rr
  obtain ⟨t,rfl⟩:=r
  exact call_range_1 (uW I1 (by omega) (by omega) q1 q2 (by simpa using q))
def yM(wi:TI)(g:TG)(tb:TS):TS:=fun D σ H=>wi σ H fun J H1=>∃ W:Nat->Nat->St->Hp->Prop,(∃ m,W 0 m σ H1)/\∀ i m σ H,W i m σ H->
 (J.stop i H/\D.nx σ H)\/(J.go i H/\∃ N:St->Hp->Prop,(∀ σ' H',N σ' H'->∃ m',m' < m/\W (i+1) m' σ' H')/\∀ x H',J.yld i H x H'->g x σ H' fun σ2 H2=>tb {D with nx:=N,ct:=N,bk:=D.nx} σ2 H2)
noncomputable def jC(fp:List Addr)(h:Heap):List (Addr×Obj):=fp.filterMap fun b=>(h.get? b).map fun o=>(b,o)
theorem gE{fp:List Addr}{h:Heap}{b:Addr}{o:Obj}(hb:b∈fp)(e:h.get? b=some o):(b,o)∈jC fp h:=List.mem_filterMap.mpr ⟨b,hb,by rw[e];rfl⟩
theorem sE{fp:List Addr}{h:Heap}{p:Addr×Obj}(hp:p∈jC fp h):p.1∈fp/\h.get? p.1=some p.2:=by
 obtain ⟨b,hb,e⟩:=List.mem_filterMap.mp hp
 cases q:h.get? b with
 | none=>rw[q] at e;cases e
 | some o=>
  rw[q] at e
  have e':(b,o)=p:=Option.some.inj e
  subst e'
  exact ⟨hb,q⟩
theorem Inv.pinned{pins:List (Addr×Obj)}{σ:St}{H:Hp}{s:Shared}{fp:List Addr}(I:Inv X pins σ H s)(hf:∀ b∈fp,d6 X pins H b)(ho:∀ b∈fp,∃ o,s.heap.get? b=some o/\∀ v,o.data≠.cell v):Inv X (pins++jC fp s.heap) σ H s:=
 I.pins_of fun p hp=>(List.mem_append.mp hp).elim (fun z=>I.pin p (List.mem_append_right _ z)) fun z=>by
  obtain ⟨hb,e⟩:=sE z
  obtain ⟨f0,f1,f2,_⟩:=hf p.1 hb
  obtain ⟨o,e',d⟩:=ho p.1 hb
  rw[e] at e';cases e'
  exact ⟨e,f0,f1,f2,d⟩
theorem Inv.unpinned{pins pl:List (Addr×Obj)}{σ:St}{H:Hp}{s:Shared}(I:Inv X (pins++pl) σ H s):Inv X pins σ H s:=I.pins_of fun p hp=>I.pin p (List.mem_append_right _ (List.mem_append_left _ hp))
theorem cM{iter:Expr}{body:List Stmt}{wi:TI}{g:TG}{tb:TS}{pos:Pos}(hp:PassesOwn (model X.prog X.w) X.A X.env X.xe)(hc:X.calm=true)(hi:PI X tg iter wi)(hg:PG X tg g)(hb:PSs X body tb)
  (hs:∀ x,foldedSetIterable iter X.env x=pure x:=by intro _;rfl):PS X (.For tg iter body [] pos) (yM wi g tb):=by
 intro pins s σ H D I h
 refine wpAny_For (thn (hi pins s σ H _ I h) fun v s1 h1=>thn h1 fun itv s2 h2=>?_) hs
 obtain ⟨it,fp,tn,J,H2,e,I2,T,st2,f2,W,⟨m0,w0⟩,turn⟩:=h2
 subst e
 have stat:∀ {H':Hp},(∀ b∈fp,H' b=none)->∀ b∈fp,d6 X pins H' b:=fun hn b hb=>⟨hn b hb,(f2 b hb).2⟩
 refine codeAny_forLoop_any (fun n s'=>∃ i σ' H',Inv X pins σ' H' s'/\tn i s'.heap/\(∀ b∈fp,H' b=none)/\W i n σ' H') ?_ m0 ⟨0,σ,H2,I2,st2,fun b hb=>(f2 b hb).1,w0⟩
 rintro n s3 ⟨i,σ3,H3,I3,st3,fr3,w3⟩
 rcases turn i n σ3 H3 w3 with ⟨stop,qn⟩|⟨go,N,hN,step⟩
 ·refine wpAny_passesOwn hp (thn (T.done X rfl rfl rfl hc i pins s3 σ3 H3 X.xe I3 (stat fr3) st3 stop) fun r s4 zz0=>?_)
  obtain ⟨hr,I4⟩:=zz0
  subst hr
  exact wpAny_execs_nil ⟨σ3,H3,I4,qn⟩
 ·refine wpAny_passesOwn hp (thn (T.item X rfl rfl rfl hc i pins s3 σ3 H3 X.xe I3 (stat fr3) st3 go) fun r s4 zz0=>?_)
  obtain ⟨u,hr,h4⟩:=zz0
  subst hr
  refine wpAny_passesOwn hp (thn h4 fun _ s5 zz0=>?_)
  obtain ⟨x,H5,I5,r5,y5,st5,fr5⟩:=zz0
  have I5':=I5.pinned (stat fr5) (T.obj _ _ st5)
  refine wpAny_passesOwn hp (thn (hg _ s5 σ3 H5 x u _ I5' r5 (step x H5 y5)) fun _ s6 zz0=>?_)
  obtain ⟨σ6,H6,I6,q6⟩:=zz0
  refine wpAny_passesOwn hp (thn (hb _ s6 σ6 H6 _ I6 q6) fun f s7 q7=>?_)
  have again:∀ {σ7:St} {H7:Hp},Inv X (pins++jC fp s5.heap) σ7 H7 s7->N σ7 H7->∃ m,m < n/\∃ i σ' H',Inv X pins σ' H' s7/\tn i s7.heap/\(∀ b∈fp,H' b=none)/\W i m σ' H':=fun {σ7 H7} I7 n7=>by
   obtain ⟨m',hm,w7⟩:=hN σ7 H7 n7
   refine ⟨m',hm,i+1,σ7,H7,I7.unpinned,T.keep _ _ _ st5 fun b hb o e=>(I7.pin (b,o) (List.mem_append_right _ (List.mem_append_right _ (gE hb e)))).1,fun b hb=>?_,w7⟩
   obtain ⟨o,e,d⟩:=T.obj _ _ st5 b hb
   exact (I7.pin (b,o) (List.mem_append_right _ (List.mem_append_right _ (gE hb e)))).2.1
  cases f with
  | next=>obtain ⟨σ7,H7,I7,n7⟩:=q7;exact again I7 n7
  | cont=>obtain ⟨σ7,H7,I7,n7⟩:=q7;exact again I7 n7
  | brk=>obtain ⟨σ7,H7,I7,q7⟩:=q7;exact ⟨σ7,H7,I7.unpinned,q7⟩
  | ret v=>obtain ⟨x7,σ7,H7,I7,r7,q7⟩:=q7;exact ⟨x7,σ7,H7,I7.unpinned,r7,q7⟩
end
end L2
namespace L2
open PySem PySem.Spec PyProof.Rows
abbrev R2:=V->V->Hp->VK->Prop
def OpR(X:Cx)(f:Value->Value->Sem Value)(r:R2):Prop:=
 ∀ (pins:List (Addr×Obj)) (s:Shared) (σ:St) (H:Hp) (x y:V) (v u:Value) (Q:VK),Inv X pins σ H s->a9 x v->a9 y u->r x y H Q->
  wpAny (model X.prog X.w) X.A (f v u) (EP X pins σ Q) X.xe s
def UnR(X:Cx)(f:Value->Sem Value)(r:V->Hp->VK->Prop):Prop:=
 ∀ (pins:List (Addr×Obj)) (s:Shared) (σ:St) (H:Hp) (x:V) (v:Value) (Q:VK),Inv X pins σ H s->a9 x v->r x H Q->
  wpAny (model X.prog X.w) X.A (f v) (EP X pins σ Q) X.xe s
def dO(X:Cx)(f:Value)(r:List V->Hp->VK->Prop):Prop:=
 ∀ (pins:List (Addr×Obj)) (s:Shared) (σ:St) (H:Hp) (xs:List V) (us:List Value) (Q:VK),Inv X pins σ H s->aW xs us->r xs H Q->
  wpAny (model X.prog X.w) X.A (call f us) (EP X pins σ Q) X.xe s
def tOp(r:R2)(ta tb:TE):TE:=fun σ H Q=>ta σ H fun x H1=>tb σ H1 fun y H2=>r x y H2 Q
def tUn(r:V->Hp->VK->Prop)(ta:TE):TE:=fun σ H Q=>ta σ H fun x H1=>r x H1 Q
def rI(C:Int->Int->Prop)(g:Int->Int->V):R2:=fun x y H Q=>∃ i j,x=.int i/\y=.int j/\C i j/\Q (g i j) H
def rI0(g:Int->Int->V):R2:=fun x y H Q=>∃ i j,x=.int i/\y=.int j/\Q (g i j) H
def rU(g:Int->V):V->Hp->VK->Prop:=fun x H Q=>∃ i,x=.int i/\Q (g i) H
section
variable{X:Cx}{a b c:Expr}{ta tb tc:TE}{pos:Pos}
theorem uX(ha:PE X a ta)(hb:PE X b tb){pins:List (Addr×Obj)}{s:Shared}{σ:St}{H:Hp}{R:V->V->Hp->Prop}(I:Inv X pins σ H s)
  (h:ta σ H fun x H1=>tb σ H1 fun y H2=>R x y H2) {Q:Value->Shared->Prop} {f:Value->Value->Sem Value}
  (hf:∀ v u s2 x y H2,Inv X pins σ H2 s2->a9 x v->a9 y u->R x y H2->wpAny (model X.prog X.w) X.A (f v u) Q X.xe s2) :
  wpAny (model X.prog X.w) X.A (eval a X.env) (fun v s₁=>wpAny (model X.prog X.w) X.A (eval b X.env) (fun u s₂=>wpAny (model X.prog X.w) X.A (f v u) Q X.xe s₂) X.xe s₁) X.xe s:=by
 refine thn (ha pins s σ H _ I h) fun v s1 zz0=>?_
 obtain ⟨x,H1,I1,r1,q1⟩:=zz0
 refine thn (hb pins s1 σ H1 _ I1 q1) fun u s2 zz0=>?_
 obtain ⟨y,H2,I2,r2,q2⟩:=zz0
 exact hf v u s2 x y H2 I2 r1 r2 q2
theorem wE{op:Operator}{r:R2}(ho:OpR X (binaryOp op) r)(ha:PE X a ta)(hb:PE X b tb):PE X (.BinOp a op b pos) (tOp r ta tb):=by
 intro pins s σ H Q I h
 exact wpAny_BinOp (uX ha hb I h fun v u s2 x y H2 I2 rx ry q=>ho pins s2 σ H2 x y v u Q I2 rx ry q)
theorem aAQ{op:UnaryOp}{r:V->Hp->VK->Prop}(ho:UnR X (unaryOp op) r)(ha:PE X a ta):PE X (.UnaryOp op a pos) (tUn r ta):=by
 intro pins s σ H Q I h
 exact UnaryOp_ (thn (ha pins s σ H _ I h) fun v s1 ⟨x,H1,I1,r1,q1⟩=>ho pins s1 σ H1 x v Q I1 r1 q1)
theorem opI{f:Value->Value->Sem Value}{C:Int->Int->Prop}{g:Int->Int->Int}
  (rule:∀ (i j:Int) (t u:Tok) (s:Shared) (Q:Value->Shared->Prop) (E:Value->Shared->Prop),C i j->Q (.int (g i j) s.toks) {s with toks:=s.toks+1}->wpAny (model X.prog X.w) X.A (f (.int i t) (.int j u)) Q E s) :
  OpR X f (rI C fun i j=>.int (g i j)):=by
 intro pins s σ H x y v u Q I rx ry h
 obtain ⟨i,j,rfl,rfl,hc,q⟩:=h
 obtain ⟨t,rfl⟩:=rx
 obtain ⟨t',rfl⟩:=ry
 exact rule i j t t' s _ _ hc ⟨.int (g i j),H,I.tok _,⟨_,rfl⟩,q⟩
theorem yN{f:Value->Value->Sem Value}{g:Int->Int->Int}
  (rule:∀ (i j:Int) (t u:Tok) (s:Shared) (Q:Value->Shared->Prop) (E:Value->Shared->Prop),Q (.int (g i j) s.toks) {s with toks:=s.toks+1}->wpAny (model X.prog X.w) X.A (f (.int i t) (.int j u)) Q E s) :
  OpR X f (rI0 fun i j=>.int (g i j)):=by
 intro pins s σ H x y v u Q I rx ry h
 obtain ⟨i,j,rfl,rfl,q⟩:=h
 obtain ⟨t,rfl⟩:=rx
 obtain ⟨t',rfl⟩:=ry
 exact rule i j t t' s _ _ ⟨.int (g i j),H,I.tok _,⟨_,rfl⟩,q⟩
theorem qY{f:Value->Value->Sem Value}{g:Int->Int->Bool}
  (rule:∀ (i j:Int) (t u:Tok) (s:Shared) (Q:Value->Shared->Prop) (E:Value->Shared->Prop),Q (.bool (g i j)) s->wpAny (model X.prog X.w) X.A (f (.int i t) (.int j u)) Q E s) :
  OpR X f (rI0 fun i j=>.bl (g i j)):=by
 intro pins s σ H x y v u Q I rx ry h
 obtain ⟨i,j,rfl,rfl,q⟩:=h
 obtain ⟨t,rfl⟩:=rx
 obtain ⟨t',rfl⟩:=ry
 exact rule i j t t' s _ _ ⟨.bl (g i j),H,I,rfl,q⟩
def aB5(i j:Int):Prop:=0<=j/\j<=1000000/\i.natAbs < 2 ^ 64
def uY(i j:Int):Prop:=(-(2 ^ 64) < i/\i < 2 ^ 64)\/(-(2 ^ 64) < j/\j < 2 ^ 64)
theorem uY.ok{i j:Int}(h:uY i j):IntMulOk i j:=by
 rcases h with ⟨h1,h2⟩|⟨h1,h2⟩
 · exact .of_left (intBits_le_64 h1 h2)
 · exact .of_right (intBits_le_64 h1 h2)
theorem yO:OpR X (binaryOp .Add) (rI0 fun i j=>.int (i+j)):=yN fun _ _ _ _ _ _ _ q=>add_int q
theorem yP:OpR X (binaryOp .Sub) (rI0 fun i j=>.int (i - j)):=yN fun _ _ _ _ _ _ _ q=>sub_int q
theorem yQ:OpR X (binaryOp .Mult) (rI uY fun i j=>.int (i * j)):=opI fun _ _ _ _ _ _ _ hc q=>mul_int q hc.ok
theorem yR:OpR X (binaryOp .Mod) (rI (fun _ j=>0 < j) fun i j=>.int (i % j)):=opI fun i j _ _ _ _ _ hc q=>by
 have h1:(0:Int) < j:=hc
 exact mod_int' (by omega) (by rw[Int.fmod_eq_emod_of_nonneg i (by omega)];exact q)
theorem yS:OpR X (binaryOp .Pow) (rI aB5 fun i j=>.int (i ^ j.toNat)):=opI fun _ _ _ _ _ _ _ hc q=>pow_int_small hc.1 hc.2.1 hc.2.2 q
theorem unI{f:Value->Sem Value}{g:Int->Int}
  (rule:∀ (i:Int) (t:Tok) (s:Shared) (Q:Value->Shared->Prop) (E:Value->Shared->Prop),Q (.int (g i) s.toks) {s with toks:=s.toks+1}->wpAny (model X.prog X.w) X.A (f (.int i t)) Q E s) :
  UnR X f (rU fun i=>.int (g i)):=by
 intro pins s σ H x v Q I rx h
 obtain ⟨i,rfl,q⟩:=h
 obtain ⟨t,rfl⟩:=rx
 exact rule i t s _ _ ⟨.int (g i),H,I.tok _,⟨_,rfl⟩,q⟩
theorem yT:UnR X (unaryOp .USub) (rU fun i=>.int (-i)):=unI fun _ _ _ _ _ q=>neg_int q
end
section
variable{X:Cx}{a b c:Expr}{ta tb tc:TE}{pos:Pos}
theorem sG{pins:List (Addr×Obj)}{σ:St}{H:Hp}{s:Shared}{Q:VK}{k k':Bool}(I:Inv X pins σ H s)(q:Q (.bl k) H)(e:k=k'):EP X pins σ Q (.bool k') s:=by
 subst e
 exact ⟨.bl k,H,I,rfl,q⟩
theorem aAR:OpR X (compareOp .Lt) (rI0 fun i j=>.bl (decide (i < j))):=qY fun _ _ _ _ _ _ _ q=>lt_int q
theorem aAS:OpR X (compareOp .LtE) (rI0 fun i j=>.bl (decide (i<=j))):=qY fun _ _ _ _ _ _ _ q=>le_int q
theorem aAT:OpR X (compareOp .Gt) (rI0 fun i j=>.bl (decide (j < i))):=qY fun _ _ _ _ _ _ _ q=>gt_int q
theorem aAU:OpR X (compareOp .GtE) (rI0 fun i j=>.bl (decide (j<=i))):=qY fun _ _ _ _ _ _ _ q=>ge_int q
theorem sH:OpR X (compareOp .In) (fun x y H Q=>∃ i j,x=.str i/\y=.str j/\Q (.bl (!(Builtin.Str.occurrences j i 0 j.length 1).isEmpty)) H):=by
 intro pins s σ H x y v u Q I rx ry h
 obtain ⟨i,j,rfl,rfl,q⟩:=h
 obtain ⟨t,rfl⟩:=rx
 obtain ⟨t',rfl⟩:=ry
 exact in_str (sG I q rfl)
theorem w4:OpR X (compareOp .IsNot) (fun x y H Q=>y=.non/\Q (.bl (!decide (x=.non))) H):=by
 intro pins s σ H x y v u Q I rx ry h
 obtain ⟨rfl,q⟩:=h
 cases ry
 refine isnot_none_gen (sG I q ?_)
 cases x<;>first
  | (cases rx;rfl)
  | (obtain ⟨t,rfl⟩:=rx;rfl)
theorem cS(b:Expr){op:CmpOp}(h:op≠.In:=by decide)(h2:op≠.NotIn:=by decide):behindInMarks op b=false:=by
 have e1:(op == CmpOp.In)=false:=by cases op<;>first|rfl|exact absurd rfl h
 have e2:(op == CmpOp.NotIn)=false:=by cases op<;>first|rfl|exact absurd rfl h2
 cases b<;>simp[behindInMarks,e1,e2]
theorem pT{op:CmpOp}{r:R2}(ho:OpR X (compareOp op) r)(ha:PE X a ta)(hb:PE X b tb)(hm:behindInMarks op b=false):PE X (.Compare a [op] [b] pos) (tOp r ta tb):=by
 intro pins s σ H Q I h
 exact wpAny_Compare1 (uX ha hb I h fun v u s2 x y H2 I2 rx ry q=>ho pins s2 σ H2 x y v u Q I2 rx ry q) hm
def wF(t:TE):TT:=fun σ H Q=>t σ H fun x H'=>∃ k,x=.bl k/\Q k H'
theorem w5{op:CmpOp}{r:R2}(ho:OpR X (compareOp op) r)(ha:PE X a ta)(hb:PE X b tb)(hm:behindInMarks op b=false):PT X (.Compare a [op] [b] pos) (wF (tOp r ta tb)):=by
 intro pins s σ H Q I h
 refine wpAny_isTrue_Compare1 (thn (ha pins s σ H _ I h) fun v s1 ⟨x,H1,I1,r1,q1⟩=>thn (hb pins s1 σ H1 _ I1 q1) fun u s2 ⟨y,H2,I2,r2,q2⟩=>
  thn (ho pins s2 σ H2 x y v u _ I2 r1 r2 q2) fun c s3 ⟨z,H3,I3,r3,k,e,q3⟩=>?_) hm
 subst e
 cases r3
 exact wpAny_truthy_bool ⟨H3,I3,q3⟩
def tChain(r r':R2)(ta tb tc:TE):TE:=fun σ H Q=>ta σ H fun x H1=>tb σ H1 fun y H2=>r x y H2 fun z H3=>∃ k,z=.bl k /\
 (if k=true then tc σ H3 fun w' H4=>r' y w' H4 Q else Q (.bl false) H3)
theorem uZ{op op':CmpOp}{r r':R2}(ho:OpR X (compareOp op) r)(ho':OpR X (compareOp op') r')(ha:PE X a ta)(hb:PE X b tb)(hc:PE X c tc)
  (hm:lastMarks [op,op'] [b,c]=false:=by with_unfolding_all rfl):PE X (.Compare a [op,op'] [b,c] pos) (tChain r r' ta tb tc):=by
 intro pins s σ H Q I h
 refine Compare_chain (thn (ha pins s σ H _ I h) fun v s1 ⟨x,H1,I1,r1,q1⟩=>chain_link (thn (hb pins s1 σ H1 _ I1 q1) fun u s2 ⟨y,H2,I2,r2,q2⟩=>
  thn (ho pins s2 σ H2 x y v u _ I2 r1 r2 q2) fun d s3 ⟨z,H3,I3,r3,k,e,q3⟩=>?_)) hm
 subst e
 cases r3
 refine wpAny_truthy_bool ?_
 cases k with
 | false=>exact ite_ff ⟨.bl false,H3,I3,rfl,q3⟩
 | true=>exact ite_tt (chain_last (thn (hc pins s3 σ H3 _ I3 q3) fun w' s4 ⟨z',H4,I4,r4,q4⟩=>ho' pins s4 σ H4 y z' u w' Q I4 r2 r4 q4))
theorem gJ{op op':CmpOp}{r r':R2}(ho:OpR X (compareOp op) r)(ho':OpR X (compareOp op') r')(ha:PE X a ta)(hb:PE X b tb)(hc:PE X c tc)
  (hm:lastMarks [op,op'] [b,c]=false:=by with_unfolding_all rfl):PT X (.Compare a [op,op'] [b,c] pos) (wF (tChain r r' ta tb tc)):=by
 intro pins s σ H Q I h
 refine isTrue_chain (thn (ha pins s σ H _ I h) fun v s1 ⟨x,H1,I1,r1,q1⟩=>test_link (thn (hb pins s1 σ H1 _ I1 q1) fun u s2 ⟨y,H2,I2,r2,q2⟩=>
  thn (ho pins s2 σ H2 x y v u _ I2 r1 r2 q2) fun d s3 ⟨z,H3,I3,r3,k,e,q3⟩=>?_)) hm
 subst e
 cases r3
 refine wpAny_truthy_bool ?_
 cases k with
 | false=>
  obtain ⟨k',e',q'⟩:=q3
  cases e'
  exact ite_ff ⟨H3,I3,q'⟩
 | true=>
  refine ite_tt (test_last (thn (hc pins s3 σ H3 _ I3 q3) fun w' s4 ⟨z',H4,I4,r4,q4⟩=>thn (ho' pins s4 σ H4 y z' u w' _ I4 r2 r4 q4) fun d' s5 zz0=>?_))
  obtain ⟨z2,H5,I5,r5,k2,e2,q5⟩:=zz0
  subst e2
  cases r5
  exact wpAny_truthy_bool ⟨H5,I5,q5⟩
theorem kZ:(sizeLine:Nat) < 2 ^ 63:=by rw[sizeLine_eq];decide
theorem qZ:OpR X (binaryOp .Add) (fun x y H Q=>∃ i j,x=.str i/\y=.str j/\i.length+j.length<=sizeLine/\Q (.str (i++j)) H):=by
 intro pins s σ H x y v u Q I rx ry h
 obtain ⟨i,j,rfl,rfl,hz,q⟩:=h
 obtain ⟨t,rfl⟩:=rx
 obtain ⟨t',rfl⟩:=ry
 exact add_str (fun t' tk=>⟨.str (i++j),H,I.tok _,⟨_,rfl⟩,q⟩) hz
theorem f6{x:V}{us:List Value}(r:aW [x] us):∃ u,us=[u]/\a9 x u:=by
 cases r with
 | cons r1 r2=>cases r2;exact ⟨_,rfl,r1⟩
theorem k6{x y:V}{us:List Value}(r:aW [x,y] us):∃ u w',us=[u,w']/\a9 x u/\a9 y w':=by
 cases r with
 | cons r1 r2=>
  cases r2 with
  | cons r3 r4=>cases r4;exact ⟨_,_,rfl,r1,r3⟩
theorem sI(hc:X.calm=true):dO X (.builtin "max") (fun xs H Q=>∃ i j,xs=[.int i,.int j]/\Q (.int (if j > i then j else i)) H):=by
 intro pins s σ H xs us Q I r h
 obtain ⟨i,j,rfl,q⟩:=h
 obtain ⟨u,w',rfl,⟨t,rfl⟩,⟨t',rfl⟩⟩:=k6 r
 refine max_two_ints (I.ok.hd hc) fun h' tk k=>⟨_,H,I.kept k,?_,q⟩
 by_cases hj:j > i
 · rw [if_pos hj, if_pos hj]; exact ⟨_, rfl⟩
 · rw [if_neg hj, if_neg hj]; exact ⟨_, rfl⟩
theorem mQ(hc:X.calm=true):dO X (.builtin "min") (fun xs H Q=>∃ i j,xs=[.int i,.int j]/\Q (.int (if j < i then j else i)) H):=by
 intro pins s σ H xs us Q I r h
 obtain ⟨i,j,rfl,q⟩:=h
 obtain ⟨u,w',rfl,⟨t,rfl⟩,⟨t',rfl⟩⟩:=k6 r
 refine min_two_ints (I.ok.hd hc) fun h' tk k=>⟨_,H,I.kept k,?_,q⟩
 by_cases hj:j < i
 · rw [if_pos hj, if_pos hj]; exact ⟨_, rfl⟩
 · rw [if_neg hj, if_neg hj]; exact ⟨_, rfl⟩
theorem mR:dO X (.type "int") (fun xs H Q=>(∃ i,xs=[.int i]/\Q (.int i) H)\/∃ k,xs=[.bl k]/\Q (.int (if k then 1 else 0)) H):=by
 intro pins s σ H xs us Q I r h
 rcases h with ⟨i,rfl,q⟩|⟨k,rfl,q⟩
 ·obtain ⟨u,rfl,t,rfl⟩:=f6 r
  exact call_int_int ⟨.int i,H,I,⟨_,rfl⟩,q⟩
 ·obtain ⟨u,rfl,r1⟩:=f6 r
  cases r1
  exact call_int_bool ⟨.int (if k then 1 else 0),H,I.tok _,⟨_,rfl⟩,q⟩
def yU(K:Frag)(x:V)(H:Hp)(n:Nat):Prop:=
 match x with
 | .str y=>y.length<=sizeLine/\n=y.length
 | .byt y=>y.size<=sizeLine/\n=y.size
 | .ref p=>(∃ xs,SqL K H p xs/\n=xs.length)\/∃ xs,SqT K H p xs/\n=xs.length
 | _=>False
theorem b5:dO X (.builtin "len") (fun xs H Q=>∃ x n,xs=[x]/\yU X.K x H n/\Q (.int n) H):=by
 intro pins s σ H xs us Q I r h
 obtain ⟨x,n,rfl,e,q⟩:=h
 obtain ⟨u,rfl,rx⟩:=f6 r
 have hl:=kZ
 have hs:sizeLine=16777216:=sizeLine_eq
 cases x with
 | str y=>
  obtain ⟨t,rfl⟩:=rx
  obtain ⟨hy,e'⟩:y.length<=sizeLine/\n=y.length:=e
  subst e'
  exact len_str (by omega) ⟨.int _,H,I.tok _,⟨_,rfl⟩,q⟩
 | byt y=>
  obtain ⟨t,rfl⟩:=rx
  obtain ⟨hy,e'⟩:y.size<=sizeLine/\n=y.size:=e
  subst e'
  exact PySem.W.len_bytes (by omega) ⟨.int _,H,I.tok _,⟨_,rfl⟩,q⟩
 | ref p=>
  cases rx
  have e':(∃ xs,SqL X.K H p xs/\n=xs.length)\/∃ xs,SqT X.K H p xs/\n=xs.length:=e
  rcases e' with ⟨xs,hx,e'⟩|⟨xs,hx,e'⟩
  ·subst e'
   obtain ⟨its,r',pl,hz⟩:=I.list hx
   have hlen:=r'.length
   exact Calls.call_len_list pl.isList (by simp only[List.size_toArray];omega) ⟨.int xs.length,H,I.tok _,⟨_,by simp only[List.size_toArray];rw[hlen]⟩,q⟩
  ·subst e'
   obtain ⟨its,r',pl,hz⟩:=I.tuple hx
   have hlen:=r'.length
   exact len_tuple pl (by simp only[List.size_toArray];omega) ⟨.int xs.length,H,I.tok _,⟨_,by simp only[List.size_toArray];rw[hlen]⟩,q⟩
 | _=>exact (show False from e).elim
end
end L2
namespace L2
open PySem PySem.Spec PyProof.Rows
structure ObjM(h:Heap)(x dx C:Addr)(mA:Str->Option Value):Prop where
 obj:h.get? x=some (PySem.W.instObj C dx)
 ns:h.Ns1 dx mA
 ne:dx≠x
theorem mS{h:Heap}{dx:Addr}{mA:Str->Option Value}(n:h.Ns1 dx mA):∃ od,h.get? dx=some od/\∀ name,PySem.W.lookIn name od=some (mA name):=by
 obtain ⟨o,es,ep,ho,hd,hk,_,hm⟩:=n
 refine ⟨o,ho,fun name=>?_⟩
 have e:=hm name
 unfold nsFind findBy at e
 rw[<-Array.find?_toList] at e
 unfold PySem.W.lookIn
 rw[hd]
 dsimp only
 split
 ·rename_i y q
  rw[q] at e
  exact congrArg some e
 ·rename_i q
  rw[q] at e
  have a:es.toList.any (·.refKey)=false:=by
   rw[List.any_eq_false]
   intro y hy
   obtain ⟨z,t,hkey⟩:=hk y (Array.mem_toList_iff.mp hy)
   simp[DictEntry.refKey,hkey]
  have a':¬ es.toList.any (·.refKey)=true:=by rw[a];exact Bool.false_ne_true
  rw[if_neg a']
  exact congrArg some e
theorem ObjM.look{h:Heap}{x dx C:Addr}{mA:Str->Option Value}(I:ObjM h x dx C mA):∃ od,PySem.W.InstAt h x (PySem.W.instObj C dx) C (some od)/\∀ name,PySem.W.lookIn name od=some (mA name):=
 let ⟨od,ho,hl⟩:=mS I.ns
 ⟨od,⟨I.obj,rfl,rfl,ho⟩,hl⟩
section
variable{prog:Program}{w:World}{A:Around}{E:Value->Shared->Prop}{s:Shared}{K:Frag}{x dx C f:Addr}{mA:Str->Option Value}{name:Str}{v:Value}
end
theorem hW.some_of{v:V}{o:Option Value}(r:hW (some v) o):∃ u,o=some u/\a9 v u:=by
 cases o with
 | none=>exact (show False from r).elim
 | some u=>exact ⟨u,rfl,r⟩
section
variable{P:Program}{w:World}{H H':Hp}{h h':Heap}{a C dx:Addr}{fs fs':List (Str×V)}
theorem w6(hok:HOk P w H h)(e:H a=some (.ins C dx fs)):∃ mA,ObjM h a dx C mA/\(∀ f,hW (fs.lookup f) (mA f))/\PySem.Within mA (fs.map (·.1))/\fs.length<=1000/\H dx=some (.own a):=by
 obtain ⟨d,z,ne,ob,mA,n,r,q⟩:=(show bZ P w H h a (.ins C dx fs) from hok a _ e)
 exact ⟨mA,⟨ob,n,ne⟩,r,q,z,d⟩
end
structure Cls(K:Frag)(C:Addr):Prop where
 pg:PySem.W.plainGet K C Str.empty=true
 hd:PySem.W.hasDictIn K C=true
 po:PySem.W.plainOver K C=true
 sa:PySem.W.findIn K (.ref C) "__setattr__"=some (some (.builtin "object.__setattr__"))
theorem Cls.get{K:Frag}{C:Addr}(c:Cls K C)(f:Str):PySem.W.plainGet K C f=true:=c.pg
structure Con(K:Frag)(C:Addr)(f:Str)(v:V)(u:Value):Prop where
 at_:PySem.W.findIn K (.ref C) f=some (some u)
 rel:a9 v u
 get:PySem.W.specialIn K u "__get__"=some none
 cp:PySem.W.copiedNames.contains f=false
structure Meth(K:Frag)(C:Addr)(m:Str)(f:Addr):Prop where
 at_:PySem.W.findIn K (.ref C) m=some (some (.ref f))
 fn:PySem.W.isFn K (.ref f)=true
 kp:PySem.W.keepIn K (.ref f)=true
section
variable{X:Cx}{pins:List (Addr×Obj)}{σ:St}{H:Hp}{s:Shared}{a C dx:Addr}{fs:List (Str×V)}{f:Str}{v:V}{A:Around}{E:Value->Shared->Prop}
end
section
variable{X:Cx}{pins:List (Addr×Obj)}{σ:St}{H:Hp}{s:Shared}{A:Around}{E:Value->Shared->Prop}{Q:Value->Shared->Prop}{c:Value}{b:Bool}
inductive TyOf(K:Frag)(H:Hp):V->Value->Prop where
 | non:TyOf K H .non (.type "NoneType")
 | bl (x:Bool):TyOf K H (.bl x) (.type "bool")
 | int (i:Int):TyOf K H (.int i) (.type "int")
 | str (x:Str):TyOf K H (.str x) (.type "str")
 | flt (x:UInt64):TyOf K H (.flt x) (.type "float")
 | lst {a:Addr} {xs:List V} (e:H a=some (.lst xs)):TyOf K H (.ref a) (.type "list")
 | frz {a:Addr} {o:Obj} {xs:List V} (e:H a=some (.frz o (.lst xs))):TyOf K H (.ref a) (.type "list")
 | tup {a:Addr} {xs:List V} (e:H a=some (.tup xs)):TyOf K H (.ref a) (.type "tuple")
 | dK {a:Addr} {kvs:List (Key×V)} (e:H a=some (.dK kvs)):TyOf K H (.ref a) (.type "dict")
 | dT {a:Addr} {kvs:List (List Key×V)} (e:H a=some (.dT kvs)):TyOf K H (.ref a) (.type "dict")
 | ins {a C dx:Addr} {fs:List (Str×V)} (e:H a=some (.ins C dx fs)) (cl:Cls K C) (ha:PySem.W.findIn K (.ref C) "__class__"=some (some (.builtin "object.__class__")))
  (hn:PySem.W.specialIn K (.builtin "object.__class__") "__get__"=some (some (.builtin "getset_descriptor.__get__"))) (htk:PySem.W.takesIn K (.builtin "object.__class__")=some true)
  (hm:PySem.W.mroIn K C (.type "object")=some true):TyOf K H (.ref a) (.ref C)
theorem sJ{x:V}{u t:Value}(I:Inv X pins σ H s)(rx:a9 x u)(ty:TyOf X.K H x t)(e:PySem.W.kitOne X.K t c=some b)(h:∀ tk,Q (.bool b) {s with toks:=tk}) :
  wpAny (model X.prog X.w) A (call (.builtin "isinstance") [u,c]) Q E s:=by
 cases ty with
 | non=>cases (show u=Value.none from rx);exact PySem.W.kia_one PySem.W.kitx_none I.kIn True.intro e (fun z=>nomatch z) h
 | bl y=>cases (show u=Value.bool y from rx);exact PySem.W.kia_one PySem.W.kitx_bool I.kIn True.intro e (fun z=>nomatch z) h
 | int i=>obtain ⟨t,q⟩:=(show ∃ t,u=Value.int i t from rx);cases q;exact PySem.W.kia_one PySem.W.kitx_int I.kIn True.intro e (fun z=>nomatch z) h
 | str y=>obtain ⟨t,q⟩:=(show ∃ t,u=Value.str y t from rx);cases q;exact PySem.W.kia_one PySem.W.kitx_str I.kIn True.intro e (fun z=>nomatch z) h
 | flt y=>obtain ⟨t,q⟩:=(show ∃ t,u=Value.float y t from rx);cases q;exact PySem.W.kia_one PySem.W.kitx_float I.kIn True.intro e (fun z=>nomatch z) h
 | @lst a xs ea=>
  cases (show u=Value.ref a from rx)
  obtain ⟨_,_,n,_,h1⟩:=(show bZ X.prog X.w H s.heap a (.lst xs) from I.hok a _ ea)
  exact PySem.W.kia_one PySem.W.kitx_list I.kIn ⟨_,h1,rfl⟩ e (fun z=>nomatch z) h
 | @frz a ob xs ea=>
  cases (show u=Value.ref a from rx)
  obtain ⟨_,_,_,n,_,h1⟩:=(show bZ X.prog X.w H s.heap a (.frz ob (.lst xs)) from I.hok a _ ea)
  exact PySem.W.kia_one PySem.W.kitx_list I.kIn ⟨_,h1,rfl⟩ e (fun z=>nomatch z) h
 | @tup a xs ea=>
  cases (show u=Value.ref a from rx)
  obtain ⟨_,_,_,p⟩:=(show bZ X.prog X.w H s.heap a (.tup xs) from I.hok a _ ea)
  obtain ⟨o,h1,h2,_⟩:=p
  exact PySem.W.kia_one PySem.W.kitx_tuple I.kIn ⟨o,h1,h2⟩ e (fun z=>nomatch z) h
 | @dK a kvs ea=>
  cases (show u=Value.ref a from rx)
  obtain ⟨_,_,vs,_,p⟩:=(show bZ X.prog X.w H s.heap a (.dK kvs) from I.hok a _ ea)
  obtain ⟨o,es,ep,h1,h2,_⟩:=p
  exact PySem.W.kia_one PySem.W.kitx_dict I.kIn ⟨o,h1,h2.1⟩ e (fun z=>nomatch z) h
 | @dT a kvs ea=>
  cases (show u=Value.ref a from rx)
  obtain ⟨_,_,xs,_,o,es,ep,h1,h2,_⟩:=(show bZ X.prog X.w H s.heap a (.dT kvs) from I.hok a _ ea)
  exact PySem.W.kia_one PySem.W.kitx_dict I.kIn ⟨o,h1,h2.1⟩ e (fun z=>nomatch z) h
 | @ins a C dx fs ea cl ha hn htk hm=>
  cases (show u=Value.ref a from rx)
  obtain ⟨mA,O,_⟩:=w6 I.hok ea
  obtain ⟨od,J,_⟩:=O.look
  exact PySem.W.kia_one (PySem.W.kitx_own (cl.get _) cl.hd ha hn htk hm) I.kIn J e (fun z=>nomatch z) h
end
end L2
namespace L2
open PySem PySem.Spec PyProof.Rows
structure Room(k:Nat)(A:Around):Prop where
 hd:A.handled=none
 dp:A.depth+3 * k+5 < recursionLimit
 un:A.units+16 * k+200 < cLine
theorem Room.mono{j k:Nat}{A:Around}(r:Room k A)(h:j<=k):Room j A:=⟨r.hd,by have:=r.dp;omega,by have:=r.un;omega⟩
theorem Room.deeper{k:Nat}{A:Around}(r:Room (k+1) A)(env:Env):Room k (A.deeper env):=
 ⟨r.hd,by have:=r.dp;show A.depth+1+3 * k+5 < _;omega,by have:=r.un;show A.units+3+16 * k+200 < _;omega⟩
theorem Room.depth{k:Nat}{A:Around}(r:Room k A):A.depth < recursionLimit:=by have:=r.dp;omega
theorem Room.units{k:Nat}{A:Around}(r:Room k A):A.units+64 < cLine:=by have:=r.un;omega
def fC:TA:=fun _ H Q=>Q [] H
def cV(ta:TE)(tr:TA):TA:=fun σ H Q=>ta σ H fun x H1=>tr σ H1 fun xs H2=>Q (x::xs) H2
section
variable{X:Cx}{e:Expr}{es:List Expr}{te:TE}{t:TA}{pos:Pos}
theorem aO:PA X [] fC:=fun _ _ _ _ H Q I h=>Calls.spliced_nil ⟨[],H,I,.nil,h⟩
theorem aG(ha:PE X e te)(hr:PA X es t)(hs:starEach (e::es) X.env=(false,eval e X.env)::starEach es X.env:=by rfl):PA X (e::es) (cV te t):=by
 intro pos pins s σ H Q I h
 rw[hs]
 show wpAny _ _ (spliced ((false,eval e X.env)::backTo pos (starEach es X.env))) _ _ s
 refine Calls.spliced_cons (thn (ha pins s σ H _ I h) fun u s1 zz0=>?_)
 obtain ⟨x,H1,I1,r1,q1⟩:=zz0
 exact thn (hr pos pins s1 σ H1 _ I1 q1) fun us s2 ⟨xs,H2,I2,r2,q2⟩=>⟨x::xs,H2,I2,.cons r1 r2,q2⟩
def aB6(t:TA):TE:=fun σ H Q=>t σ H fun xs H1=>xs.length<=sizeLine/\∀ p,H1 p=none->Q (.ref p) (upd H1 p (.tup xs))
def aB7(t:TA):TE:=fun σ H Q=>t σ H fun xs H1=>xs.length<=sizeLine/\∀ p,H1 p=none->Q (.ref p) (upd H1 p (.lst xs))
theorem yV{x1}(h:PA X es t):PE X (.Tuple es x1 pos) (aB6 t):=by
 intro pins s σ H Q I hq
 refine wpAny_Tuple_spliced (thn (h pos pins s σ H _ I hq) fun us s1 ⟨xs,H1,I1,r,z,q⟩=>⟨by rw[<-r.length];exact z,?_⟩)
 have hf:H1 s1.heap.objs.size=none:=I1.hok.fresh (Nat.le_refl _)
 refine ⟨.ref s1.heap.objs.size,upd H1 s1.heap.objs.size (.tup xs),I1.laid (t':=s1.toks) (fun b u e=>Heap.get?_push_of_some _ e) (Nat.le_refl _) ?_,rfl,q _ hf⟩
 exact ⟨z,us,r,⟨_,Heap.get?_push_size _ rfl,rfl,_,rfl⟩⟩
theorem yW(h:PA X es t):PE X (.List es pos) (aB7 t):=by
 intro pins s σ H Q I hq
 refine wpAny_List_spliced (thn (h pos pins s σ H _ I hq) fun us s1 ⟨xs,H1,I1,r,z,q⟩=>⟨by rw[<-r.length];exact z,?_⟩)
 have hf:H1 s1.heap.objs.size=none:=I1.hok.fresh (Nat.le_refl _)
 refine ⟨.ref s1.heap.objs.size,upd H1 s1.heap.objs.size (.lst xs),I1.laid (t':=s1.toks) (fun b u e=>Heap.get?_push_of_some _ e) (Nat.le_refl _) ?_,rfl,q _ hf⟩
 exact ⟨z,us,0,r,Heap.get?_push_size _ rfl⟩
end
abbrev Sp:=List V->Hp->VK->XK->Prop
abbrev CXT:=List Env->Hp->Shared->XK->Value->Shared->Prop
structure Env0(P:Program)(w:World)(K:Frag)(mg:Str->Option Value)(base:Heap)(A:Around)(outer:List Env)(s:Shared)(H:Hp):Prop where
 frames:A.frames=some outer
 mod:Mod K mg base
 bs:∀ b o,base.get? b=some o->s.heap.get? b=some o/\H b=none
 bsz:base.objs.size<=s.heap.objs.size
 funs:s.heap.FunFrames base outer
 frf:∀ b∈frs outer,H b=none
 hok:HOk P w H s.heap
 bare:AllBare s.gens
def CE(outer:List Env)(P:Program)(w:World)(H:Hp)(s:Shared)(Q:VK)(u:Value)(s':Shared):Prop:=
 ∃ v H',s'.os=s.os/\AllBare s'.gens/\Un (frs outer) [] H H' s.heap s'.heap/\HOk P w H' s'.heap/\a9 v u/\Q v H'
def CR(CX:CXT)(outer:List Env)(P:Program)(w:World)(H:Hp)(s:Shared)(Q:VK)(E:XK)(r:Result)(s':Shared):Prop:=
 match r with
 | .ok (.ret u)=>CE outer P w H s Q u s'
 | .ok _=>False
 | .error e=>CX outer H s E e s'
structure FnOk(P:Program)(w:World)(K:Frag)(mg:Str->Option Value)(base:Heap)(CX:CXT)(k:Nat)(f:Addr)(fd:FuncData)(ps:List Str)(sp:Sp):Prop where
 len:∀ vs H Q E,sp vs H Q E->vs.length=ps.length
 run:∀ (A:Around) (outer:List Env) (s:Shared) (H:Hp) (args:Args) (us:List Value) (vs:List V) (Q:VK) (E:XK),Room k A->Env0 P w K mg base A outer s H->BindsTo s fd args (ps.zip us)->aW vs us->sp vs H Q E->
  codeAny (model P w) A (.call (.ref f) args) (CR CX outer P w H s Q E) s
theorem FnOk.imp{P:Program}{w:World}{K:Frag}{mg:Str->Option Value}{base:Heap}{CX:CXT}{k:Nat}{f:Addr}{fd:FuncData}{ps:List Str}{sp sp':Sp}(F:FnOk P w K mg base CX k f fd ps sp)
  (h:∀ vs H Q E,sp' vs H Q E->sp vs H Q E):FnOk P w K mg base CX k f fd ps sp':=
 ⟨fun vs H Q E q=>F.len vs H Q E (h _ _ _ _ q),fun A outer s H args us vs Q E hr he hb hv hs=>F.run A outer s H args us vs Q E hr he hb hv (h _ _ _ _ hs)⟩
section
variable{X:Cx}{pins:List (Addr×Obj)}{σ:St}{H:Hp}{s s':Shared}
theorem Inv.env0(I:Inv X pins σ H s):Env0 X.prog X.w X.K X.mg X.base X.A X.stack s H:=
 ⟨I.ok.frames,I.ok.mod,I.bs,Nat.le_trans I.ok.bsz I.sz,I.stack,I.stkFree,I.hok,I.bare⟩
theorem Inv.after{Q:VK}{u:Value}(I:Inv X pins σ H s)(h:CE X.stack X.prog X.w H s Q u s'):EP X pins σ Q u s':=by
 obtain ⟨v,H',os,bare,un,hok,r,q⟩:=h
 obtain ⟨hh,g,d,t,os'⟩:=s'
 obtain rfl:os'=s.os:=os
 exact ⟨v,H',I.call (h':=hh) (g':=g) (d':=d) (t':=t) (ch:=[]) un hok bare (fun b z=>absurd z (by simp)),r,q⟩
end
def q0(sp:Sp)(dvs:List V)(E:XK)(t:TA):TE:=fun σ H Q=>t σ H fun vs H1=>sp (vs++dvs) H1 Q E
def f7(K:Frag)(fd:FuncData)(ps:List Str)(ds:List Value):Prop:=
 ∀ (s:Shared) (us:List Value),K.In s.heap->(us++ds).length=ps.length->BindsTo s fd ⟨us,[]⟩ (ps.zip (us++ds))
theorem f7.all{K:Frag}{fd:FuncData}{ps:List Str}(h:∀ us:List Value,us.length=ps.length->bindArgs fd ⟨us,[]⟩=pure (ps.zip us)):f7 K fd ps []:=fun s us _ hl=>by
 rw[List.append_nil] at hl ⊢
 exact .of_eq (h us hl)
def jD(CX:CXT)(X:Cx)(E:XK):Prop:=∀ (pins:List (Addr×Obj)) (σ:St) (H:Hp) (s:Shared) (e:Value) (s':Shared),Inv X pins σ H s->CX X.stack H s E e s'->X.xe e s'
section
variable{X:Cx}{CX:CXT}{k:Nat}{f C:Addr}{fd:FuncData}{ps:List Str}{sp:Sp}{dvs:List V}{ds:List Value}{E:XK}{x m:Str}{p pos apos:Pos}{e o:Expr}{es:List Expr}{ta:TE}{t:TA}
theorem yX{pins:List (Addr×Obj)}{σ:St}{H:Hp}{s:Shared}{Q:VK}{us:List Value}{vs:List V}(F:FnOk X.prog X.w X.K X.mg X.base CX k f fd ps sp)(hr:Room k X.A)(hb:f7 X.K fd ps ds)(hd:aW dvs ds)(hx:jD CX X E)
  (I:Inv X pins σ H s) (r:aW vs us) (h:sp (vs++dvs) H Q E):wpAny (model X.prog X.w) X.A (call (.ref f) us) (EP X pins σ Q) X.xe s:=by
 have r2:aW (vs++dvs) (us++ds):=r.append hd
 have hl:(us++ds).length=ps.length:=by rw[<-r2.length];exact F.len _ _ _ _ h
 refine wpAny_call (codeAny_mono (F.run X.A X.stack s H ⟨us,[]⟩ (us++ds) (vs++dvs) Q E hr I.env0 (hb s us I.kIn hl) r2 h) fun r s' hq=>?_)
 cases r with
 | error e=>exact hx pins σ H s e s' I hq
 | ok fl=>
  cases fl with
  | ret u=>exact I.after hq
  | next=>exact False.elim hq
  | brk=>exact False.elim hq
  | cont=>exact False.elim hq
theorem w8(F:FnOk X.prog X.w X.K X.mg X.base CX k f fd ps sp)(hr:Room k X.A)(hg:Gl X x)(hm:X.mg x=some (.ref f))(hk:PySem.W.keepIn X.K (.ref f)=true)(hb:f7 X.K fd ps ds)(hd:aW dvs ds)(hx:jD CX X E)
  (ha:PA X (e::es) t) (hdb:(x == ("__debug__":Str))=false:=by decide) (he:starEach (e::es) X.env=(false,eval e X.env)::starEach es X.env:=by rfl) (hpl:(backTo pos (starEach es X.env)).any (·.1)=false:=by rfl) :
  PE X (.Call (.Name x p) (e::es) [] pos) (q0 sp dvs E t):=by
 intro pins s σ H Q I h
 refine wpAny_Call_Name_kw (pS I hg hm ?_ hdb)
 refine PySem.W.callWith_K (h₀:=X.base) I.ok.mod.kin hk (thn (ha pos pins s σ H _ I h) fun us s1 ⟨vs,H1,I1,r,q⟩=>⟨I1.kIn,?_⟩) he hpl
 exact yX F hr hb hd hx I1 r q
structure Mk(K:Frag)(C f:Addr):Prop where
 makes:PySem.W.makesIn K C=true
 init:PySem.W.findIn K (.ref C) "__init__"=some (some (.ref f))
 fn:PySem.W.isFn K (.ref f)=true
 kp:PySem.W.keepIn K (.ref C)=true
end
section
variable{X:Cx}{CX:CXT}{k:Nat}{f C:Addr}{fd:FuncData}{ps ks:List Str}{sp:Sp}{E:XK}{x m:Str}{p pos apos kpos:Pos}{e o:Expr}{es:List Expr}{kws:List Keyword}{te ta:TE}{t tk:TA}{nm:Option Str}
structure KBinds(K:Frag)(fd:FuncData)(ps ks:List Str)(g:List Value->List Value->List Value)(gV:List V->List V->List V):Prop where
 to:∀ (s:Shared) (us ws:List Value),K.In s.heap->(g us ws).length=ps.length->BindsTo s fd ⟨us,ks.zip ws⟩ (ps.zip (g us ws))
 rel:∀ {vs:List V} {us:List Value} {zs:List V} {ws:List Value},aW vs us->aW zs ws->aW (gV vs zs) (g us ws)
variable{g:List Value->List Value->List Value}{gV:List V->List V->List V}
end
structure FnScope(N P:List Str)(sc:Scope):Prop where
 kind:sc.kind=.function
 co:sc.isCoroutine=false
 gen:sc.isGenerator=false
 nd:N.Nodup
 pre:N.take P.length=P
 par:∀ x∈P,sc.names.lookup x=some .local\/sc.names.lookup x=some .cell
 nofree:∀ y∈sc.names,y.2≠.free
theorem mT{kindOf:Str->Option NameKind}{x:Str}:∀ {binds:List (Str×Value)} {m:Str->Option Value},(∀ v,(x,v)∉binds)->bindL kindOf binds m x=m x
 | [],_,_=>rfl
 | (n,v)::r,m,h=>by
  unfold bindL
  rw[mT fun w hw=>h w (List.mem_cons_of_mem _ hw)]
  split
  ·have:x≠n:=by rintro rfl;exact h v List.mem_cons_self
   simp[this]
  ·rfl
theorem mU{kindOf:Str->Option NameKind}{x:Str}:∀ {binds:List (Str×Value)} {m:Str->Option Value},(∀ v,(x,v)∉binds)->bindC kindOf binds m x=m x
 | [],_,_=>rfl
 | (n,v)::r,m,h=>by
  unfold bindC
  rw[mU fun w hw=>h w (List.mem_cons_of_mem _ hw)]
  split
  ·rfl
  ·have:x≠n:=by rintro rfl;exact h v List.mem_cons_self
   simp[this]
theorem mV{kindOf:Str->Option NameKind}{x:Str}{v:Value}:∀ {P:List Str} {vs:List Value} {i:Nat} {m:Str->Option Value},P.Nodup->P[i]? = some x->vs[i]? = some v->kindOf x=some .local->
  bindL kindOf (P.zip vs) m x=some v
 | [],_,_,_,_,h,_,_=>by simp at h
 | _::_,[],_,_,_,_,h,_=>by simp at h
 | p::P,w::vs,0,m,nd,h1,h2,hk=>by
  simp at h1 h2;subst h1;subst h2
  show bindL kindOf ((p,w)::P.zip vs) m p=_
  unfold bindL
  rw[mT fun v hv=>(List.nodup_cons.mp nd).1 (List.of_mem_zip hv).1,if_pos hk]
  simp
 | p::P,w::vs,i+1,m,nd,h1,h2,hk=>by
  show bindL kindOf ((p,w)::P.zip vs) m x=_
  unfold bindL
  exact mV (i:=i) (List.nodup_cons.mp nd).2 (by simpa using h1) (by simpa using h2) hk
theorem mW{kindOf:Str->Option NameKind}{x:Str}{v:Value}:∀ {P:List Str} {vs:List Value} {i:Nat} {m:Str->Option Value},P.Nodup->P[i]? = some x->vs[i]? = some v->kindOf x≠some .local->
  bindC kindOf (P.zip vs) m x=some v
 | [],_,_,_,_,h,_,_=>by simp at h
 | _::_,[],_,_,_,_,h,_=>by simp at h
 | p::P,w::vs,0,m,nd,h1,h2,hk=>by
  simp at h1 h2;subst h1;subst h2
  show bindC kindOf ((p,w)::P.zip vs) m p=_
  unfold bindC
  rw[mU fun v hv=>(List.nodup_cons.mp nd).1 (List.of_mem_zip hv).1,if_neg hk]
  simp
 | p::P,w::vs,i+1,m,nd,h1,h2,hk=>by
  show bindC kindOf ((p,w)::P.zip vs) m x=_
  unfold bindC
  exact mW (i:=i) (List.nodup_cons.mp nd).2 (by simpa using h1) (by simpa using h2) hk
noncomputable def fD(N:List Str)(vs:List V):St:=vs.map some++List.replicate (N.length - vs.length) none
noncomputable def fE(CX:CXT)(P:Program)(w:World)(K:Frag)(mg:Str->Option Value)(base:Heap)(N:List Str)(qual:Str)(scope:Scope)(f:Addr)(cd:Value)(A:Around)(outer:List Env)(s:Shared)(H:Hp)(E:XK):Cx where
 prog:=P
 w:=w
 K:=K
 mg:=mg
 base:=base
 A:=A.deeper (envOfC qual scope s.heap.objs.size f cd)
 N:=N
 s₀:=s
 H₀:=H
 env:=envOfC qual scope s.heap.objs.size f cd
 outer:=outer
 stack:=envOfC qual scope s.heap.objs.size f cd::outer
 ex:=[]
 calm:=true
 fn:=fun _=>true
 pn:=[]
 xe:=fun e s'=>wpAny (model P w) (A.deeper (envOfC qual scope s.heap.objs.size f cd)) (leaving (envOfC qual scope s.heap.objs.size f cd) e) (fun _ s''=>CX outer H s E e s'') (fun e' s''=>CX outer H s E e' s'') s'
theorem nS{sc:Scope}{n:Nat}{x:Str}(h:sc.names.lookup x=some .cell):∃ c,(cellsFrom n sc.names []).lookup x=some c:=by
 have q:=PySem.W.cellsFrom_some sc.names n [] (.inl h)
 exact Option.isSome_iff_exists.mp q
theorem sK{CX:CXT}{P:Program}{w:World}{K:Frag}{mg:Str->Option Value}{base:Heap}{N ps:List Str}{qual:Str}{scope:Scope}{f:Addr}{cd:Value}{A:Around}{outer:List Env}{s s1:Shared}{H:Hp}{E:XK}{us:List Value}{vs:List V}
  (S:FnScope N ps scope) (hd:A.handled=none) (e0:Env0 P w K mg base A outer s H) (hl:vs.length=ps.length) (r:aW vs us)
  (x:InCallC s s.heap.objs.size (bindL (envOfC qual scope s.heap.objs.size f cd).kindOf (ps.zip us) fun _=>none) (cellsFrom (s.heap.objs.size+1) scope.names []) (bindC (envOfC qual scope s.heap.objs.size f cd).kindOf (ps.zip us) fun _=>none) s1) :
  Inv (fE CX P w K mg base N qual scope f cd A outer s H E) [] (fD N vs) H s1:=by
 have hpl:ps.length<=N.length:=by have:=congrArg List.length S.pre;rw[List.length_take] at this;omega
 obtain ⟨h1,tk,rfl,hk⟩:=x.done
 have noA:∀ b:Addr,b∉(fE CX P w K mg base N qual scope f cd A outer s H E).ex:=fun b z=>absurd (show b∈([]:List Addr) from z) (by simp)
 refine ⟨⟨e0.mod,S.kind,rfl,rfl,Nat.le_refl _,fun y z c h1 h2=>?_,fun y hy=>?_,fun y c _ h=>?_,fun _=>hd,Around.frames_deeper e0.frames,.inr ⟨rfl,rfl⟩,fun b z=>absurd z (noA b),e0.bs,e0.bsz,fun b _ _=>noA b,fun b z=>absurd z (noA b),e0.funs,e0.frf⟩,
  rfl,e0.bare,Un.kept hk,⟨_,x.toInCall.ns,fun i y v h1 h2 h3=>?_⟩,fun y c h=>⟨_,x.cell y c h⟩,e0.hok.fresh (Nat.le_refl _),fun y c h=>?_,fun p hp=>absurd (show p∈([]:List (Addr×Obj)) from hp) (by simp),e0.hok.kept hk,?_⟩
 ·exact name_of_addr x.apart (PySem.mem_of_lookup h1) (PySem.mem_of_lookup h2)
 ·have hy:scope.names.lookup y=some .cell\/scope.names.lookup y=some .free:=hy
  rcases hy with hy|hy
  ·exact nS hy
  ·exact absurd rfl (S.nofree _ (PySem.mem_of_lookup hy))
 ·exact Nat.le_of_lt (x.above y c (PySem.mem_of_lookup h))
 ·have hi:i < vs.length:=by
   unfold fD at h2
   by_cases hi:i < vs.length
   ·exact hi
   ·rw[List.getElem?_append_right (by simpa using hi)] at h2
    rw[List.getElem?_replicate] at h2
    split at h2<;>cases h2
  have ha:vs[i]? = some v:=by
   unfold fD at h2
   rw[List.getElem?_append_left (by simpa using hi),List.getElem?_map] at h2
   cases e:vs[i]? with
   | none=>rw[e] at h2;cases h2
   | some a=>rw[e] at h2;cases h2;rfl
  obtain ⟨u,hu,rv⟩:=r.get ha
  have hp:ps[i]? = some y:=by
   rw[<-S.pre,List.getElem?_take_of_lt (by omega)];exact h1
  have ndP:ps.Nodup:=by rw[<-S.pre];exact S.nd.sublist (List.take_sublist _ _)
  refine ⟨u,rv,?_⟩
  rcases S.par y (List.mem_of_getElem? hp) with k|k
  ·exact .inl ⟨k,mV ndP hp hu k⟩
  ·obtain ⟨c,e⟩:=nS (n:=s.heap.objs.size+1) k
   refine .inr ⟨.inl k,c,e,?_⟩
   have q:=x.cell y c e
   rw[mW ndP hp hu (by show scope.names.lookup y≠_;rw[k];decide)] at q
   exact q
 ·exact e0.hok.fresh (Nat.le_of_lt (x.above y c (PySem.mem_of_lookup h)))
 ·unfold fD
  show _=N.length
  rw[List.length_append,List.length_map,List.length_replicate]
  omega
theorem wG{CX:CXT}{P:Program}{w:World}{K:Frag}{mg:Str->Option Value}{base:Heap}{k:Nat}{f:Addr}{name qual:Str}{params:Arguments}{body:List Stmt}{scope:Scope}{dV kV doc pm cdv ct oc:Value}{an od:Option Addr}
  {osl:Array (Option Value)} {N ps:List Str} {sp:Sp} (lk:K.lookup f=some ⟨oc,od,.func (PySem.W.fnOf name qual params body scope dV kV doc pm an cdv ct),osl⟩) (hcd:PySem.W.codeIn K cdv qual=true) (S:FnScope N ps scope)
  (len:∀ vs H Q E,sp vs H Q E->vs.length=ps.length)
  (hbody:∀ (A:Around) (outer:List Env) (s:Shared) (H:Hp) (vs:List V) (Q:VK) (E:XK),Room k (A.deeper (envOfC qual scope s.heap.objs.size f cdv))->sp vs H Q E->
   ∃ t,PSs (fE CX P w K mg base N qual scope f cdv A outer s H E) body t/\t {nx:=fun _ H'=>Q .non H',rt:=Q} (fD N vs) H) :
  FnOk P w K mg base CX (k+1) f (PySem.W.fnOf name qual params body scope dV kV doc pm an cdv ct) ps sp:=by
 refine ⟨len,fun A outer s H args us vs Q E hr e0 hb r hsp=>?_⟩
 have hl:=len _ _ _ _ hsp
 have KX:K.In s.heap:=e0.mod.kin.keeps fun b o e=>(e0.bs b o e).1
 have lim:s.heap.NoLimit:=e0.mod.nolimit.keeps fun b o e=>(e0.bs b o e).1
 have hkind:∀ y∈ps.zip us,scope.names.lookup y.1=some .local\/(scope.names.lookup y.1=some .cell/\((cellsFrom (s.heap.objs.size+1) scope.names []).lookup y.1).isSome=true):=fun zz0 hy=>by
  obtain ⟨n,v⟩:=zz0
  rcases S.par n (List.of_mem_zip hy).1 with q|q
  ·exact .inl q
  ·exact .inr ⟨q,PySem.W.cellsFrom_some _ _ _ (.inl q)⟩
 refine codeAny_call_function hr.depth (KX _ _ lk) rfl S.co S.gen rfl (PySem.W.codeRec_of KX hcd) (hb _ _ _ _ ?_)
 refine wpAny_newFunctionEnv_cells S.kind hkind fun env he s1 x=>?_
 subst he
 refine ⟨lim.keeps x.toInCall.keep,codeAny_func ?_⟩
 obtain ⟨t,ht,hq⟩:=hbody A outer s H vs Q E (hr.deeper _) hsp
 have I:Inv (fE CX P w K mg base N qual scope f cdv A outer s H E) [] (fD N vs) H s1:=sK S hr.hd e0 hl r x
 refine wpAny_mono (ht [] s1 (fD N vs) H _ I hq) (fun fl s' hs=>?_) fun e s' hs=>hs
 have fin:∀ {σ':St} {H':Hp} {v:V} {u:Value},Inv (fE CX P w K mg base N qual scope f cdv A outer s H E) [] σ' H' s'->a9 v u->Q v H'->CE outer P w H s Q u s':=
  fun {σ' H' v u} J rv q=>⟨v,H',J.os,J.bare,J.base,J.hok,rv,q⟩
 cases fl with
 | ret u=>
  obtain ⟨v,σ',H',J,rv,q⟩:=hs
  exact fin J rv q
 | next=>
  obtain ⟨σ',H',J,q⟩:=hs
  exact fin (v:=V.non) (u:=Value.none) J rfl q
 | brk=>
  obtain ⟨_,_,_,q⟩:=hs
  exact False.elim q
 | cont=>
  obtain ⟨_,_,_,q⟩:=hs
  exact False.elim q
end L2
namespace L2
open PySem PySem.Spec PyProof.Rows
section
variable{X:Cx}{x:Str}{p pos:Pos}{e:Expr}{es:List Expr}{t:TA}{id T:String}{r:List V->Hp->VK->Prop}
def tCB(r:List V->Hp->VK->Prop)(t:TA):TE:=fun σ H Q=>t σ H fun vs H1=>r vs H1 Q
theorem bC(hc:dO X (.builtin id) r)(hg:Gl X x)(hm:X.mg x=none)(hv:bootBuiltins x=some (.builtin id))(ha:PA X (e::es) t)(hn:x≠"__name__":=by decide)(hdb:(x == ("__debug__":Str))=false:=by decide)
  (he:starEach (e::es) X.env=(false,eval e X.env)::starEach es X.env:=by rfl) (hpl:(backTo pos (starEach es X.env)).any (·.1)=false:=by rfl):PE X (.Call (.Name x p) (e::es) [] pos) (tCB r t):=by
 intro pins s σ H Q I h
 refine wpAny_Call_Name_kw (jB I hg hm hv ?_ hn hdb)
 exact PyProof.Rows.callWith_builtin1 (thn (ha pos pins s σ H _ I h) fun us s1 ⟨vs,H1,I1,r1,q1⟩=>hc pins s1 σ H1 vs us Q I1 r1 q1) he hpl
theorem bU(hc:dO X (.type T) r)(hg:Gl X x)(hm:X.mg x=none)(hv:bootBuiltins x=some (.type T))(ha:PA X (e::es) t)(hn:x≠"__name__":=by decide)(hdb:(x == ("__debug__":Str))=false:=by decide)
  (he:starEach (e::es) X.env=(false,eval e X.env)::starEach es X.env:=by rfl) (hpl:(backTo pos (starEach es X.env)).any (·.1)=false:=by rfl):PE X (.Call (.Name x p) (e::es) [] pos) (tCB r t):=by
 intro pins s σ H Q I h
 refine wpAny_Call_Name_kw (jB I hg hm hv ?_ hn hdb)
 exact PyProof.Rows.callWith_type1 (thn (ha pos pins s σ H _ I h) fun us s1 ⟨vs,H1,I1,r1,q1⟩=>hc pins s1 σ H1 vs us Q I1 r1 q1) he hpl
end
end L2
namespace HT
open PySem PyProof.Rows
section
open PySem.SeqAt
open PySem.AutoSeq1 (wpAny_loadPart')
open PySem.MeetsSeq PySem.MeetsSeq2 PySem.MeetsSeq3
end
section
variable{prog:Program}{w:World}{A:Around}{E:Value->Shared->Prop}{s:Shared}
theorem w9{t b:Addr}{vs ws:List Value}{Q:Value->Shared->Prop}(ht:IsTup s.heap t vs.toArray)(hb:IsTup s.heap b ws.toArray)(hv:vs≠[])
  (h1:ws=[]->Q (.ref t) s) (h2:ws≠[]->Q (.ref s.heap.objs.size) {s with heap:=s.heap.push {cls:=.type "tuple",data:=.seq (vs++ws).toArray}})
  (hsz:vs.length+ws.length<=sizeLine):wpAny (model prog w) A (binaryOp .Add (.ref t) (.ref b)) Q E s:=by
 obtain ⟨⟨cls,dd,data,sl⟩,ho,hc,n,hd⟩:=id ht
 obtain ⟨⟨cls2,dd2,data2,sl2⟩,ho2,hc2,n2,hd2⟩:=id hb
 simp only at hc hd hc2 hd2
 subst hc hd hc2 hd2
 have e:vs.toArray++ws.toArray=(vs++ws).toArray:=by simp
 by_cases hw:ws=[]
 ·exact concat_meets ⟨_,ho,rfl⟩ ⟨_,ho2,rfl⟩ noFill_tuple_add seq_tuple_add PySem.F.slot_tuple_add PySem.F.entry_tuple_add (PySem.F.args_tuple_add_2 _ _)
   (tuple_addW1 t b vs.toArray ws.toArray n n2 dd dd2 sl sl2 (by simpa using hv) (by simp[hw])) ⟨ho,ho2,h1 hw⟩
 ·refine concat_meets ⟨_,ho,rfl⟩ ⟨_,ho2,rfl⟩ noFill_tuple_add seq_tuple_add PySem.F.slot_tuple_add PySem.F.entry_tuple_add (PySem.F.args_tuple_add_2 _ _)
   (tuple_addW2 t b vs.toArray ws.toArray n n2 dd dd2 sl sl2 (by simpa using hv) (by simpa using hw) (by rw[List.size_toArray,List.size_toArray];exact hsz)) ⟨ho,ho2,?_⟩
  rw[e]
  exact h2 hw
noncomputable def sIx(n d:Nat):Option Int->Nat
 | none=>d
 | some v=>if v < 0 then (v+(n:Int)).toNat else min v.toNat n
theorem yY(n d:Nat)(hd:d<=n)(o:Option Int):sIx n d o<=n:=by
 cases o with
 | none=>exact hd
 | some v=>
  show (if v < 0 then (v+(n:Int)).toNat else min v.toNat n)<=n
  by_cases hv:v < 0
  · rw [if_pos hv]; omega
  · rw [if_neg hv]; exact Nat.min_le_right _ _
theorem pU(v:Int)(n d:Nat):(if v < 0 then max (v+(n:Int)) 0 else min v (n:Int))=((sIx n d (some v):Nat):Int):=by
 show (if v < 0 then max (v+(n:Int)) 0 else min v (n:Int))=(((if v < 0 then (v+(n:Int)).toNat else min v.toNat n):Nat):Int)
 by_cases hv:v < 0
 · simp only [if_pos hv]; omega
 · simp only [if_neg hv]; omega
theorem q9(lo hi:Option Int)(n:Nat):Builtin.Slice.sliceAdjust lo hi 1 (n:Int)=(((sIx n 0 lo:Nat):Int),((sIx n n hi:Nat):Int)):=by
 have h1:¬ ((1:Int) < 0):=by omega
 unfold Builtin.Slice.sliceAdjust
 simp only[h1,if_false]
 refine Prod.ext ?_ ?_
 ·cases lo with
  | none=>rfl
  | some v=>exact pU v n 0
 ·cases hi with
  | none=>rfl
  | some v=>exact pU v n n
theorem rA(i j:Nat):Builtin.Slice.slicePlaces (i:Int) (j:Int) 1=j - i:=by
 unfold Builtin.Slice.slicePlaces
 have h1:(1:Int) > 0:=by omega
 simp only[h1,if_true,Int.ediv_one]
 split<;>omega
theorem k7{v:Value}{o:Option Int}{Q:Option Int->Shared->Prop}(p:IsPart v o)(h:Q o s):wpAny (model prog w) A (Builtin.Slice.slicePartIndex v) Q E s:=by
 cases p with
 | none=>exact slicePart_none h
 | int i t=>exact slicePart_int h
theorem kN{sl:Addr}{vl vu:Value}{lo hi:Option Int}{n:Nat}{Q:Int×Int×Nat->Shared->Prop}(hs:s.heap.IsSliceOf sl vl vu .none)(pl:IsPart vl lo)(pu:IsPart vu hi)
  (h:Q (((sIx n 0 lo:Nat):Int),1,sIx n n hi - sIx n 0 lo) s):wpAny (model prog w) A (Builtin.Slice.sliceApplied (.ref sl) (pure (n:Int))) Q E s:=by
 obtain ⟨os,hos,hcs,hds⟩:=id hs
 unfold Builtin.Slice.sliceApplied Builtin.Slice.sliceFields
 refine wpAny_bind (wpAny_bind (wpAny_field hos hds (x:=vl) rfl (wpAny_bind (wpAny_field hos hds (x:=vu) rfl (wpAny_bind (wpAny_field hos hds (x:=.none) rfl (wpAny_pure ?_)))))))
 refine wpAny_bind (slicePart_none ?_)
 show wpAny _ _ (if ((1:Int) == 0)=true then _ else _) _ _ s
 rw[if_neg (by decide)]
 refine wpAny_bind (k7 pl (wpAny_bind (k7 pu (wpAny_bind (wpAny_pure ?_)))))
 show wpAny _ _ (match Builtin.Slice.sliceAdjust lo hi 1 (n:Int) with|(lo,hi)=>pure (lo,(1:Int),Builtin.Slice.slicePlaces lo hi 1)) _ _ s
 rw[q9 lo hi n]
 show wpAny _ _ (pure (((sIx n 0 lo:Nat):Int),(1:Int),Builtin.Slice.slicePlaces ((sIx n 0 lo:Nat):Int) ((sIx n n hi:Nat):Int) 1)) _ _ s
 rw[rA]
 exact wpAny_pure h
theorem u0(xs:Array Value)(i k:Nat):((List.range k).filterMap fun (m:Nat)=>xs[((i:Int)+(m:Int) * 1).toNat]?).toArray=((xs.toList.drop i).take k).toArray:=by
 have e:(fun (m:Nat)=>xs[((i:Int)+(m:Int) * 1).toNat]?)=fun m=>xs[i+m]?:=by
  funext m
  have:((i:Int)+(m:Int) * 1).toNat=i+m:=by omega
  rw[this]
 rw[e]
 have:=pick_run xs i k
 rw[List.filterMap_map] at this
 have e2:((fun x=>xs[x]?)∘fun x=>i+x)=fun m=>xs[i+m]?:=rfl
 rw[e2] at this
 rw[this]
theorem kD{t sl:Addr}{items:Array Value}{vl vu:Value}{lo hi:Option Int}{Q:Value->Shared->Prop}(ht:IsTup s.heap t items)(hs:s.heap.IsSliceOf sl vl vu .none)(pl:IsPart vl lo)(pu:IsPart vu hi)
  (hw:¬ (sIx items.size 0 lo=0/\sIx items.size items.size hi=items.size))
  (h:Q (.ref s.heap.objs.size) {s with heap:=s.heap.push {cls:=.type "tuple",data:=.seq ((items.toList.drop (sIx items.size 0 lo)).take (sIx items.size items.size hi - sIx items.size 0 lo)).toArray}})
  (hsz:items.size<=sizeLine):wpAny (model prog w) A (getItem (.ref t) (.ref sl)) Q E s:=by
 have htake:sizeOk (.seq ((items.toList.drop (sIx items.size 0 lo)).take (sIx items.size items.size hi - sIx items.size 0 lo)).toArray):=by
  show ((items.toList.drop (sIx items.size 0 lo)).take (sIx items.size items.size hi - sIx items.size 0 lo)).toArray.size<=sizeLine
  rw[List.size_toArray,List.length_take,List.length_drop,Array.length_toList]
  omega
 have hj:sIx items.size items.size hi<=items.size:=yY _ _ (Nat.le_refl _) hi
 obtain ⟨os,hos,hcs,hds⟩:=id hs
 have hTs:s.TypeIs (.ref sl) "slice":=⟨os,hos,hcs⟩
 unfold getItem
 try with_reducible refine wpAny_holding ?_
 first|refine wpAny_bind (wpAny_pure ?_)|skip
 refine wpAny_bind (wpAny_sequenceKey ht.typeIs (by decide) ?_)
 refine wpAny_bind (wpAny_callSpecial?_slot (name:=Str.ofString "__getitem__") ht.typeIs PyProof.Rows.slot_tuple_getitem
  (wpAny_call_entry PyProof.Rows.slot_tuple_getitem ht.typeIs entry_tuple_getitem ?_ (args_tuple_getitem _ _)))
 show wpAny _ _ (Builtin.Tuple.tupleItemsOf (.ref t) >>= _) _ _ s
 refine wpAny_bind (tupleItemsOf_ ht ?_)
 refine wpAny_bind (wpAny_typeOf hTs ?_)
 rw[if_pos (by decide)]
 refine wpAny_bind (kN hs pl pu ?_)
 have hno:¬ ((((sIx items.size 0 lo:Nat):Int) == 0 && (1:Int) == 1 && (sIx items.size items.size hi - sIx items.size 0 lo) == items.size)=true):=by
  intro q
  rw[Bool.and_eq_true,Bool.and_eq_true] at q
  have q1:((sIx items.size 0 lo:Nat):Int)=0:=eq_of_beq q.1.1
  have q2:sIx items.size items.size hi - sIx items.size 0 lo=items.size:=eq_of_beq q.2
  exact hw ⟨by omega,by omega⟩
 show wpAny _ _ (if (((sIx items.size 0 lo:Nat):Int) == 0 && (1:Int) == 1 && (sIx items.size items.size hi - sIx items.size 0 lo) == items.size)=true then _ else _) _ _ s
 rw[if_neg hno,u0]
 first
  | exact wpAny_bind (m:=Builtin.Tuple.tupleExact _) (wpAny_newObj_type (wpAny_pure ⟨_,rfl,wpAny_pure h⟩) htake)
  | exact wpAny_bind (m:=Builtin.Tuple.tupleExact _) (wpAny_newObj_type (wpAny_bind (wpAny_pure (wpAny_pure ⟨_,rfl,wpAny_pure h⟩))) htake)
  | exact wpAny_bind (wpAny_bind (m:=Builtin.Tuple.tupleExact _) (wpAny_newObj_type (wpAny_pure (wpAny_pure ⟨_,rfl,wpAny_pure h⟩)) htake))
  | exact wpAny_bind (wpAny_bind (m:=Builtin.Tuple.tupleExact _) (wpAny_newObj_type (wpAny_pure ⟨_,rfl,wpAny_pure h⟩) htake))
end
end HT
namespace L2
open PySem PySem.Spec PyProof.Rows
abbrev TO:=St->Hp->(Option Int->Hp->Prop)->Prop
def PO(X:Cx)(e:Option Expr)(t:TO):Prop:=
 ∀ (pins:List (Addr×Obj)) (s:Shared) (σ:St) (H:Hp) (Q:Option Int->Hp->Prop),Inv X pins σ H s->t σ H Q->
  wpAny (model X.prog X.w) X.A (evalPart e X.env) (fun u s'=>∃ o H',Inv X pins σ H' s'/\IsPart u o/\Q o H') X.xe s
def xA:TO:=fun _ H Q=>Q none H
def aAV(t:TE):TO:=fun σ H Q=>t σ H fun x H1=>∃ i,x=.int i/\Q (some i) H1
section
variable{X:Cx}{e:Expr}{te:TE}{lo hi:Option Expr}{tl th:TO}{pos p2:Pos}
theorem xB:PO X none xA:=by
 intro pins s σ H Q I h
 rw[evalPart_none]
 exact wpAny_pure ⟨none,H,I,.none,h⟩
theorem xC(h:PE X e te):PO X (some e) (aAV te):=by
 intro pins s σ H Q I hw
 rw[evalPart_some]
 refine thn (h pins s σ H _ I hw) fun u s1 zz0=>?_
 obtain ⟨x,H1,I1,r1,q1⟩:=zz0
 obtain ⟨i,rfl,q⟩:=q1
 obtain ⟨t,rfl⟩:=r1
 exact ⟨some i,H1,I1,.int i t,q⟩
def SlR(X:Cx)(r:V->Option Int->Option Int->Hp->VK->Prop):Prop:=
 ∀ (pins:List (Addr×Obj)) (s:Shared) (σ:St) (H:Hp) (x:V) (v vl vu:Value) (lo hi:Option Int) (sl:Addr) (Q:VK),Inv X pins σ H s->a9 x v->s.heap.IsSliceOf sl vl vu .none->IsPart vl lo->IsPart vu hi->r x lo hi H Q->
  ∃ T id,typeLookup (.type T) "__getitem__"=pure (some (.builtin id))/\s.TypeIs v T/\wpAny (model X.prog X.w) X.A (getItem v (.ref sl)) (EP X pins σ Q) X.xe s
def tSl(r:V->Option Int->Option Int->Hp->VK->Prop)(te:TE)(tl th:TO):TE:=fun σ H Q=>te σ H fun x H1=>tl σ H1 fun l H2=>th σ H2 fun u H3=>r x l u H3 Q
theorem u1{r:V->Option Int->Option Int->Hp->VK->Prop}(hr:SlR X r)(he:PE X e te)(hl:PO X lo tl)(hu:PO X hi th):PE X (.Subscript e (.Slice lo hi none p2) pos) (tSl r te tl th):=by
 intro pins s σ H Q I h
 refine Subscript_ (thn (he pins s σ H _ I h) fun v s1 zz0=>?_)
 obtain ⟨x,H1,I1,r1,q1⟩:=zz0
 refine wpAny_Slice (thn (hl pins s1 σ H1 _ I1 q1) fun vl s2 ⟨l,H2,I2,pl,q2⟩=>thn (hu pins s2 σ H2 _ I2 q2) fun vu s3 zz0=>?_)
 obtain ⟨u,H3,I3,pu,q3⟩:=zz0
 rw[evalPart_none]
 refine wpAny_pure ?_
 have I4:Inv X pins σ H3 {s3 with heap:=s3.heap.push {cls:=.type "slice",data:=.fields #[vl,vu,.none]}}:=I3.kept (t':=s3.toks) fun b ob q=>Heap.get?_push_of_some _ q
 obtain ⟨T,id,hT,ht,hg⟩:=hr pins {s3 with heap:=s3.heap.push {cls:=.type "slice",data:=.fields #[vl,vu,.none]}} σ H3 x v vl vu l u s3.heap.objs.size Q I4 r1 (Heap.IsSliceOf.new ..) pl pu q3
 show wpAny (model X.prog X.w) X.A (subscriptTail e (.Slice lo hi none p2) v (.ref s3.heap.objs.size)) (EP X pins σ Q) X.xe {s3 with heap:=s3.heap.push {cls:=.type "slice",data:=.fields #[vl,vu,.none]}}
 exact tail_any (ops:=[.ref s3.heap.objs.size,v]) ht hT hg (by with_unfolding_all rfl)
noncomputable def jE(xs:List V)(lo hi:Option Int):List V:=(xs.drop (HT.sIx xs.length 0 lo)).take (HT.sIx xs.length xs.length hi - HT.sIx xs.length 0 lo)
theorem kF(xs:List V)(lo hi:Option Int):(jE xs lo hi).length<=xs.length:=by
 unfold jE
 rw[List.length_take,List.length_drop]
 omega
def aB8(K:Frag):V->Option Int->Option Int->Hp->VK->Prop:=fun x lo hi H Q=>∃ a xs,x=.ref a/\SqT K H a xs /\
 ¬ (HT.sIx xs.length 0 lo=0/\HT.sIx xs.length xs.length hi=xs.length)/\∀ p,H p=none->Q (.ref p) (upd H p (.tup (jE xs lo hi)))
theorem yZ:SlR X (aB8 X.K):=by
 intro pins s σ H x v vl vu lo hi sl Q I rx hs pl pu h
 obtain ⟨a,xs,rfl,hx,hw,q⟩:=h
 cases rx
 obtain ⟨its,r,ht,hz⟩:=I.tuple hx
 have hlen:its.toArray.size=xs.length:=by rw[List.size_toArray];exact r.length.symm
 refine ⟨"tuple",_,PyProof.Rows.slot_tuple_getitem.lookup,ht.typeIs,?_⟩
 refine HT.kD ht hs pl pu (by rw[hlen];exact hw) ?_ (by rw[hlen];exact hz)
 rw[hlen]
 refine ⟨.ref s.heap.objs.size,_,I.laid (t':=s.toks) (o:=.tup (jE xs lo hi)) (fun b ob q=>Heap.get?_push_of_some _ q) (Nat.le_refl _) ?_,rfl,q _ (I.hok.fresh (Nat.le_refl _))⟩
 exact ⟨Nat.le_trans (kF xs lo hi) hz,_,(r.drop (HT.sIx xs.length 0 lo)).take (HT.sIx xs.length xs.length hi - HT.sIx xs.length 0 lo),IsTup.new _ _⟩
def aAW(K:Frag):R2:=fun x y H Q=>∃ a b xs ys,x=.ref a/\y=.ref b/\SqT K H a xs/\SqT K H b ys/\xs≠[]/\xs.length+ys.length<=sizeLine /\
 (ys=[]->Q (.ref a) H)/\(ys≠[]->∀ p,H p=none->Q (.ref p) (upd H p (.tup (xs++ys))))
theorem aW.nil_iff{xs:List V}{us:List Value}(r:aW xs us):us=[]↔xs=[]:=by
 cases r with
 | nil=>simp
 | cons _ _=>simp
theorem xD:OpR X (binaryOp .Add) (aAW X.K):=by
 intro pins s σ H x y v u Q I rx ry h
 obtain ⟨a,b,xs,ys,rfl,rfl,ha,hb,hx,hz,q1,q2⟩:=h
 cases rx
 cases ry
 obtain ⟨its,r1,p1,_⟩:=I.tuple ha
 obtain ⟨its2,r2,p2,_⟩:=I.tuple hb
 refine HT.w9 p1 p2 (fun z=>hx (r1.nil_iff.mp z)) (fun z=>⟨.ref a,H,I,rfl,q1 (r2.nil_iff.mp z)⟩) (fun z=>?_) (by rw[<-r1.length,<-r2.length];exact hz)
 refine ⟨.ref s.heap.objs.size,_,I.laid (t':=s.toks) (o:=.tup (xs++ys)) (fun b ob q=>Heap.get?_push_of_some _ q) (Nat.le_refl _) ?_,rfl,q2 (fun w=>z (r2.nil_iff.mpr w)) _ (I.hok.fresh (Nat.le_refl _))⟩
 exact ⟨by rw[List.length_append];exact hz,_,r1.append r2,IsTup.new _ _⟩
end
end L2
namespace L2
open PySem PySem.Spec PyProof.Rows
noncomputable def ixN(n:Nat)(i:Int):Option Nat:=if 0<=i then (if i < n then some i.toNat else none) else if -(n:Int)<=i then some (i+n).toNat else none
noncomputable def atI{α:Type}(xs:List α)(i:Int):Option α:=(ixN xs.length i).bind fun j=>xs[j]?
theorem xE{n:Nat}{i:Int}{j:Nat}(h:ixN n i=some j):seqIndex? i n=some j/\j < n /\ -(n:Int)<=i/\i < n:=by
 unfold ixN at h
 by_cases h0:0<=i
 ·rw[if_pos h0] at h
  by_cases h1:i < n
  ·rw[if_pos h1] at h
   have e:i.toNat=j:=Option.some.inj h
   exact ⟨by rw[seqIndex_of h0 h1,e],by omega,by omega,h1⟩
  ·rw[if_neg h1] at h;cases h
 ·rw[if_neg h0] at h
  by_cases h1 : -(n:Int)<=i
  ·rw[if_pos h1] at h
   have e:(i+n).toNat=j:=Option.some.inj h
   exact ⟨by rw[seqIndex_neg (by omega) h1,e],by omega,h1,by omega⟩
  ·rw[if_neg h1] at h;cases h
theorem l3{α:Type}{xs:List α}{i:Int}{v:α}(h:atI xs i=some v):∃ j,seqIndex? i xs.length=some j/\xs[j]? = some v/\j < xs.length /\ -(xs.length:Int)<=i/\i < xs.length:=by
 unfold atI at h
 cases e:ixN xs.length i with
 | none=>rw[e] at h;cases h
 | some j=>
  rw[e] at h
  obtain ⟨h1,h2,h3,h4⟩:=xE e
  exact ⟨j,h1,h,h2,h3,h4⟩
theorem j5{α:Type}{xs:List α}{j:Nat}{v:α}(h:xs[j]? = some v):atI xs (j:Int)=some v:=by
 have hj:j < xs.length:=(List.getElem?_eq_some_iff.mp h).1
 have e:ixN xs.length (j:Int)=some j:=by
  unfold ixN
  rw[if_pos (by omega),if_pos (by omega)];simp
 unfold atI;rw[e];exact h
theorem u7{α:Type}(xs:List α)(v:α):atI (xs++[v]) (-1)=some v:=by
 have hl:(xs++[v]).length=xs.length+1:=by simp
 have e:ixN (xs++[v]).length (-1)=some xs.length:=by
  unfold ixN
  rw[hl,if_neg (by decide),if_pos (by omega)]
  congr 1
  omega
 unfold atI
 rw[e]
 show (xs++[v])[xs.length]? = some v
 simp
def pV(b:Expr):Prop:=∀ o i,subscripted b false o i=operate [o,i] (getItem o i)
def IxR(X:Cx)(r:R2):Prop:=
 ∀ (value slice:Expr) (pins:List (Addr×Obj)) (s:Shared) (σ:St) (H:Hp) (x y:V) (v u:Value) (Q:VK),Inv X pins σ H s->a9 x v->a9 y u->r x y H Q->
  subscripted slice false v u=operate [v,u] (getItem v u)->wpAny (model X.prog X.w) X.A (subscriptTail value slice v u) (EP X pins σ Q) X.xe s
def MtR(X:Cx)(id:String)(r:V->List V->Hp->VK->Prop):Prop:=
 ∀ (pins:List (Addr×Obj)) (s:Shared) (σ:St) (H:Hp) (x:V) (xs:List V) (v:Value) (us:List Value) (Q:VK),Inv X pins σ H s->a9 x v->aW xs us->r x xs H Q->
  wpAny (model X.prog X.w) X.A (call (.builtin id) (v::us)) (EP X pins σ Q) X.xe s
section
variable{X:Cx}{a b:Expr}{ta tb:TE}{pos:Pos}
theorem aAX{r:R2}(hr:IxR X r)(ha:PE X a ta)(hb:PE X b tb)(hs:pV b):PE X (.Subscript a b pos) (tOp r ta tb):=by
 intro pins s σ H Q I h
 exact Subscript_ (uX ha hb I h fun v u s2 x y H2 I2 rx ry q=>hr a b pins s2 σ H2 x y v u Q I2 rx ry q (hs _ _))
def aB9(K:Frag):R2:=fun x y H Q=>∃ p xs i v,x=.ref p/\y=.int i/\SqL K H p xs/\atI xs i=some v/\Q v H
def aCA(K:Frag):R2:=fun x y H Q=>∃ p xs i v,x=.ref p/\y=.int i/\SqT K H p xs/\atI xs i=some v/\Q v H
def aCB:R2:=fun x y H Q=>∃ z i c,x=.str z/\y=.int i/\z.length<=sizeLine/\atI z.cps.toList i=some c/\Q (.str ⟨#[c]⟩) H
theorem xF:IxR X (aB9 X.K):=by
 intro value slice pins s σ H x y v u Q I rx ry h hs
 obtain ⟨p,xs,i,z,rfl,rfl,hq,he,q⟩:=h
 cases rx
 obtain ⟨t,rfl⟩:=ry
 obtain ⟨its,r,pl,hz⟩:=I.list hq
 obtain ⟨j,h1,h2,h3,h4,h5⟩:=l3 he
 obtain ⟨w,ew,rw'⟩:=r.get h2
 have hl:=r.length
 have hn:=kZ
 have fin:EP X pins σ Q w s:=⟨z,H,I,rw',q⟩
 by_cases h0:0<=i
 ·have hj:i.toNat=j:=by
   rw[seqIndex_of h0 h5] at h1
   exact Option.some.inj h1
  exact item_listR pl.isList h0 (by omega) (by rw[hj];simpa using ew) fin hs
 ·have hj:(i+(its.toArray.size:Int)).toNat=j:=by
   rw[seqIndex_neg (by omega) h4] at h1
   rw[List.size_toArray,<-hl]
   exact Option.some.inj h1
  exact subscriptTail_builtinR (x:=w) pl.isList.typeIs slot_list_getitem.lookup
   (wpAny_getItem_list_neg (Q:=fun r s'=>r=w/\EP X pins σ Q r s') pl.isList (by omega) (by rw[List.size_toArray]<;>omega) (by omega) (by rw[hj];simpa using ew) ⟨rfl,fin⟩) hs
theorem y0:IxR X (aCA X.K):=by
 intro value slice pins s σ H x y v u Q I rx ry h hs
 obtain ⟨p,xs,i,z,rfl,rfl,hq,he,q⟩:=h
 cases rx
 obtain ⟨t,rfl⟩:=ry
 obtain ⟨its,r,pl,hz⟩:=I.tuple hq
 obtain ⟨j,h1,h2,h3,h4,h5⟩:=l3 he
 obtain ⟨w,ew,rw'⟩:=r.get h2
 have hl:=r.length
 have hn:=kZ
 have fin:EP X pins σ Q w s:=⟨z,H,I,rw',q⟩
 exact subscriptTail_builtinR (x:=w) pl.typeIs slot_tuple_getitem.lookup
  (getItem_tuple (j:=j) (Q:=fun r s'=>r=w/\EP X pins σ Q r s') pl (by omega) (by omega) (by rw[List.size_toArray,<-hl];exact h1) (by simpa using ew) ⟨rfl,fin⟩) hs
theorem y2:IxR X aCB:=by
 intro value slice pins s σ H x y v u Q I rx ry h hs
 obtain ⟨z,i,c,rfl,rfl,hz,he,q⟩:=h
 obtain ⟨t,rfl⟩:=rx
 obtain ⟨t',rfl⟩:=ry
 obtain ⟨j,h1,h2,h3,h4,h5⟩:=l3 he
 have hl:z.cps.toList.length=z.length:=by simp[Str.length]
 rw[hl] at h1 h4 h5
 have hn:=kZ
 exact tail_any (typeIs_str s z t) slot_str_getitem.lookup (getItem_str (c:=c) (by
  have e1:decide (i < -(2 ^ 63:Int))=false:=decide_eq_false (by omega)
  have e2:decide (i>=2 ^ 63)=false:=decide_eq_false (by omega)
  rw[e1,e2,Bool.or_false]) (by rw[h1];simpa using h2) ⟨.str ⟨#[c]⟩,H,I.tok _,⟨_,rfl⟩,q⟩) hs
theorem Inv.lst{pins:List (Addr×Obj)}{σ:St}{H:Hp}{s:Shared}{p:Addr}{xs:List V}(I:Inv X pins σ H s)(h:H p=some (.lst xs)) :
  ∃ (its:List Value) (n:Nat),aW xs its/\s.heap.get? p=some {cls:=.type "list",data:=.seq its.toArray n}/\xs.length<=sizeLine:=by
 obtain ⟨z,its,n,r,e⟩:=I.hok p _ h
 exact ⟨its,n,r,e,z⟩
theorem nU(lo hi:Option Int)(n:Nat):(sliceBounds lo hi none n).1=((HT.sIx n 0 lo:Nat):Int)/\(sliceBounds lo hi none n).2.1=((HT.sIx n n hi:Nat):Int)/\(sliceBounds lo hi none n).2.2=1:=by
 refine ⟨?_,?_,rfl⟩
 ·cases lo with
  | none=>simp[sliceBounds,HT.sIx]
  | some i=>
   simp only[sliceBounds,HT.sIx,Option.getD_none,show (1:Int) > 0 by decide,if_true]
   by_cases h:i < 0
   · simp only [h, if_true] <;> omega
   · simp only [h, if_false] <;> omega
 ·cases hi with
  | none=>simp[sliceBounds,HT.sIx]
  | some i=>
   simp only[sliceBounds,HT.sIx,Option.getD_none,show (1:Int) > 0 by decide,if_true]
   by_cases h:i < 0
   · simp only [h, if_true] <;> omega
   · simp only [h, if_false] <;> omega
theorem nA(its:List Value)(lo hi:Option Int):slicePick its.toArray lo hi none=((its.drop (HT.sIx its.length 0 lo)).take (HT.sIx its.length its.length hi - HT.sIx its.length 0 lo)).toArray:=by
 obtain ⟨h1,h2,h3⟩:=nU lo hi its.toArray.size
 unfold slicePick
 rw[h1,h2,h3]
 simp only[sliceRange_one,pick_run,List.size_toArray]<;>rfl
def aCC(K:Frag):V->Option Int->Option Int->Hp->VK->Prop:=fun x lo hi H Q=>∃ a xs,x=.ref a/\SqL K H a xs/\∀ p,H p=none->Q (.ref p) (upd H p (.lst (jE xs lo hi)))
theorem xG:SlR X (aCC X.K):=by
 intro pins s σ H x v vl vu lo hi sl Q I rx hs pl pu h
 obtain ⟨a,xs,rfl,hx,q⟩:=h
 cases rx
 obtain ⟨its,r,ht,hz⟩:=I.list hx
 have hlen:=r.length
 refine ⟨"list",_,slot_list_getitem.lookup,ht.isList.typeIs,?_⟩
 refine wpAny_getItem_list_slice ht.isList hs pl pu .none (by simp) ?_ (by rw[List.size_toArray]<;>omega)
 rw[nA,<-hlen]
 refine ⟨.ref s.heap.objs.size,_,I.laid (t':=s.toks) (o:=.lst (jE xs lo hi)) (fun b ob q=>Heap.get?_push_of_some _ q) (Nat.le_refl _) ?_,rfl,q _ (I.hok.fresh (Nat.le_refl _))⟩
 exact ⟨Nat.le_trans (kF xs lo hi) hz,_,0,(r.drop (HT.sIx xs.length 0 lo)).take (HT.sIx xs.length xs.length hi - HT.sIx xs.length 0 lo),Heap.get?_push_size _ rfl⟩
theorem dI:dO X (.type "tuple") (fun xs H Q=>∃ p ys,xs=[.ref p]/\((SqL X.K H p ys/\∀ l,H l=none->Q (.ref l) (upd H l (.tup ys)))\/(SqT X.K H p ys/\Q (.ref p) H))):=by
 intro pins s σ H xs us Q I r h
 obtain ⟨p,ys,rfl,h⟩:=h
 obtain ⟨u,rfl,rx⟩:=f6 r
 cases rx
 rcases h with ⟨hq,q⟩|⟨hq,q⟩
 ·obtain ⟨its,r',pl,hz⟩:=I.list hq
  have hlen:=r'.length
  refine call_tuple_list pl.isList (fun h' kp=>?_) (by simp only[List.size_toArray]<;>omega)
  have I1:Inv X pins σ H {s with heap:=h'}:=I.kept (t':=s.toks) kp
  have I2:Inv X pins σ (upd H h'.objs.size (.tup ys)) {s with heap:=h'.push {cls:=.type "tuple",data:=.seq its.toArray}}:=
   I1.laid (t':=s.toks) (fun b o e=>Heap.get?_push_of_some _ e) (Nat.le_refl _) (show bZ X.prog X.w _ _ _ (.tup ys) from ⟨hz,its,r',IsTup.new _ _⟩)
  exact ⟨.ref h'.objs.size,_,I2,rfl,q _ (I1.hok.fresh (Nat.le_refl _))⟩
 ·obtain ⟨its,r',pl,hz⟩:=I.tuple hq
  exact call_tuple_same pl ⟨.ref p,H,I,rfl,q⟩
def tyV(K:Frag)(T:String)(x:V)(H:Hp):Prop:=match x with
 | .str _=>T="str"
 | .int _=>T="int"
 | .ref p=>(T="list"/\∃ xs,SqL K H p xs)\/(T="tuple"/\∃ o,K.lookup p=some o/\o.cls=.type "tuple"/\o.dict=none) \/
  (T="dict"/\((∃ kvs,H p=some (.dK kvs))\/∃ kvs,H p=some (.dT kvs)))\/(T="set"/\∃ S n,H p=some (.set S n))
 | _=>False
theorem y3{pins:List (Addr×Obj)}{σ:St}{H:Hp}{s:Shared}{T:String}{x:V}{v:Value}(I:Inv X pins σ H s)(r:a9 x v)(ty:tyV X.K T x H) :
  s.TypeIs v T/\∀ a,v=.ref a->∃ ob,s.heap.get? a=some ob/\ob.dict=none:=by
 cases x with
 | str z=>
  obtain ⟨t,rfl⟩:=r
  cases (show T="str" from ty)
  exact ⟨typeIs_str s z t,fun _ e=>nomatch e⟩
 | int i=>
  obtain ⟨t,rfl⟩:=r
  cases (show T="int" from ty)
  exact ⟨typeIs_int s i t,fun _ e=>nomatch e⟩
 | ref p=>
  cases r
  rcases ty with ⟨rfl,xs,hq⟩|⟨rfl,o,hk,hc,hd⟩|⟨rfl,hk⟩|⟨rfl,S,n,hk⟩
  ·obtain ⟨its,_,pl,_⟩:=I.list hq
   refine ⟨pl.isList.typeIs,fun a e=>?_⟩
   cases e
   obtain ⟨o,n,e,c,hd,_⟩:=pl
   exact ⟨o,e,hd⟩
  ·refine ⟨⟨o,I.kIn p o hk,hc⟩,fun a e=>?_⟩
   cases e
   exact ⟨o,I.kIn _ o hk,hd⟩
  ·have z:∃ o,s.heap.get? p=some o/\o.ExactDict:=by
    rcases hk with ⟨kvs,hk⟩|⟨kvs,hk⟩
    ·obtain ⟨_,_,_,_,o,_,_,e,ex,_⟩:=I.hok p _ hk
     exact ⟨o,e,ex⟩
    ·obtain ⟨_,_,_,_,o,_,_,e,ex,_⟩:=I.hok p _ hk
     exact ⟨o,e,ex⟩
   obtain ⟨o,e,ex⟩:=z
   refine ⟨⟨o,e,ex.1⟩,fun a e2=>?_⟩
   cases e2
   exact ⟨o,e,ex.2.1⟩
  ·obtain ⟨o,_,_,_,e,ex,_⟩:=I.hok p _ hk
   refine ⟨⟨o,e,ex.1⟩,fun a e2=>?_⟩
   cases e2
   exact ⟨o,e,ex.2.1⟩
 | _=>exact False.elim ty
def tBM(K:Frag)(T:String)(r:V->List V->Hp->VK->Prop)(to:TE)(t:TA):TE:=fun σ H Q=>to σ H fun x H1=>tyV K T x H1/\t σ H1 fun xs H2=>r x xs H2 Q
variable{o e:Expr}{es:List Expr}{to:TE}{t:TA}{name:Str}{apos cpos:Pos}{T id:String}{r:V->List V->Hp->VK->Prop}
theorem fF(pa:PlainAttrs T)(slot:Slot T name id)(hty:typeOf (.builtin id)=pure (.type "method_descriptor"))(hm:MtR X id r)(ho:PE X o to)(ha:PA X (e::es) t)
  (hbase:attributeBase o name X.env (eval o X.env)=eval o X.env:=by rfl)
  (hfew:((backTo cpos (starEach (e::es) X.env)).all (fun x=>!x.1) && (backToKw cpos (keywordEach [] X.env)).all (fun x=>x.1.isSome)
   && decide ((e::es).length+([]:List Keyword).length+(if ([]:List Keyword).isEmpty then 0 else 1) < 30))=true:=by rfl)
  (hline:(apos.endLine == cpos.line)=true:=by rfl) (hs:starEach (e::es) X.env=(false,eval e X.env)::starEach es X.env:=by rfl) (hplain:(backTo cpos (starEach es X.env)).any (·.1)=false:=by rfl) :
  PE X (.Call (.Attribute o name apos) (e::es) [] cpos) (tBM X.K T r to t):=by
 intro pins s σ H Q I h
 refine wpAny_Call_method_late hbase hfew hline rfl (thn (ho pins s σ H _ I h) fun v s1 zz0=>?_)
 obtain ⟨x,H1,I1,r1,ty,q1⟩:=zz0
 obtain ⟨h1,h2⟩:=y3 I1 r1 ty
 refine ⟨T,id,pa,slot,hty,h1,h2,?_⟩
 have hA:=ha cpos pins s1 σ H1 _ I1 q1
 rw[hs] at hA ⊢
 refine Calls.callWith_builtin (by show (false || (backTo cpos (starEach es X.env)).any (·.1))=false;rw[hplain]<;>rfl) (Calls.evalArgs_plain ?_)
 exact thn hA fun us s2 ⟨vs,H2,I2,r2,q2⟩=>hm pins s2 σ H2 x vs v us Q I2 r1 r2 q2
end
end L2
namespace L2
open PySem PySem.Spec PyProof.Rows
def MtM(X:Cx)(id:String)(r:V->List V->Hp->VK->Prop):Prop:=
 ∀ (pins:List (Addr×Obj)) (s:Shared) (σ:St) (H:Hp) (x:V) (xs:List V) (v:Value) (us:List Value) (Q:VK),Inv X pins σ H s->a9 x v->aW xs us->r x xs H Q->
  wpAny (model X.prog X.w) X.A (call (.builtin id) (v::us)) (EP X pins σ Q) X.xe s
theorem aW.one:∀ {x:V} {us:List Value},aW [x] us->∃ u,us=[u]/\a9 x u
 | _,_,.cons r .nil=>⟨_,rfl,r⟩
theorem aW.reverse{xs:List V}{us:List Value}(h:aW xs us):aW xs.reverse us.reverse:=by
 induction h with
 | nil=>exact .nil
 | cons r t ih=>rw[List.reverse_cons,List.reverse_cons];exact aW.append ih (.cons r .nil)
section
variable{X:Cx}{pins:List (Addr×Obj)}{σ:St}{H:Hp}{s:Shared}{l b:Addr}{xs ys zs:List V}
theorem Inv.lset{its its':List Value}{n:Nat}{f:Array Value->Array Value}{t':Nat}(I:Inv X pins σ H s)(hH:H l=some (.lst xs))
  (e:s.heap.get? l=some {cls:=.type "list",data:=.seq its.toArray n}) (hf:f its.toArray=its'.toArray) (hv:aW ys its') (hz:ys.length<=sizeLine) :
  Inv X pins σ (upd H l (.lst ys)) {s with heap:=s.heap.update l (Obj.mapSeq f),toks:=t'}:=by
 have q:=PySem.IsL.update e f
 rw[hf] at q
 refine I.write (x:=l) (e:=l) (by rw[hH];exact trivial) (.inl rfl) (fun b' u hb hu=>(Heap.get?_update_other s.heap (Obj.mapSeq f) (Ne.symm hb)).trans hu) ⟨_,q⟩ ?_
 exact ⟨hz,its',_,hv,q⟩
theorem Inv.lnew{its:List Value}{t':Nat}(I:Inv X pins σ H s)(hv:aW ys its)(hz:ys.length<=sizeLine) :
  Inv X pins σ (upd H s.heap.objs.size (.lst ys)) {s with heap:=s.heap.push {cls:=.type "list",data:=.seq its.toArray},toks:=t'}:=
 I.laid (fun _ _ q=>Heap.get?_push_of_some _ q) (Nat.le_refl _) ⟨hz,its,0,hv,Heap.get?_push_size _ rfl⟩
theorem Inv.fresh(I:Inv X pins σ H s):H s.heap.objs.size=none:=I.hok.fresh (Nat.le_refl _)
theorem Inv.lstM(I:Inv X pins σ H s)(hH:H l=some (.lst xs)):xs.length<=sizeLine/\∃ (its:List Value) (n:Nat),aW xs its/\xs.length=its.length/\s.heap.get? l=some {cls:=.type "list",data:=.seq its.toArray n}:=by
 obtain ⟨z,its,n,r,e⟩:=I.hok l _ hH
 exact ⟨z,its,n,r,r.length,e⟩
end
section
variable{X:Cx}
def pW:V->List V->Hp->VK->Prop:=fun x vs H Q=>∃ l xs y,x=.ref l/\vs=[y]/\H l=some (.lst xs)/\xs.length < sizeLine/\Q .non (upd H l (.lst (xs++[y])))
theorem gA:MtM X "list.append" pW:=by
 intro pins s σ H x vs v us Q I rx rv h
 obtain ⟨l,xs,y,rfl,rfl,hH,hz,q⟩:=h
 cases rx
 obtain ⟨u,rfl,ru⟩:=rv.one
 obtain ⟨z,its,n,r,hl,e⟩:=I.lstM hH
 refine call_meets F.slot_list_append ⟨_,e,rfl⟩ F.entry_list_append (F.args_list_append_2 _ _) (PySem.list_append l its.toArray n u (by rw[List.size_toArray];omega)) ⟨e,?_⟩
 refine ⟨.non,_,I.lset (its':=its++[u]) hH e (by simp) (r.append (.cons ru .nil)) ?_,rfl,q⟩
 rw[List.length_append,List.length_singleton]
 omega
end
end L2
namespace Att
open PySem PySem.W PySem.Calls PyProof.Rows
theorem k8{P:Params}{h:Heap}:∀ (ns:List Int) (vs:List Value),WellAll P h vs (ns.map WData.int)->IntsAre vs ns:=by
 intro ns
 induction ns with
 | nil=>
  intro vs w
  rw[List.map_nil] at w
  cases w
  exact .nil
 | cons n ns ih=>
  intro vs w
  rw[List.map_cons] at w
  cases w with
  | cons a b=>
   cases a
   exact .cons _ _ (ih _ b)
theorem sL{l:OpenLaw}{n:Nat}(hn:l.most=some n){P:Params}{h:Heap}{args:List WData}{vals:List Value}
  (hpre:l.row.toRowW.claim.pre args=true) (hwl:WellAll P h vals args) :
  ∃ a vs ns,vals=[Value.ref a]/\args=[WData.list (ns.map WData.int)]/\h.get? a=some {cls:=.type "list",data:=.seq vs.toArray}/\IntsAre vs ns/\ns.length<=n:=by
 have hsh:WShape.hasAll [] args [.list .int]=true:=(pre_splitW hpre).1
 have hc:l.pre.holds [] {args:=args}=true:=(pre_splitW hpre).2
 obtain ⟨d,r,rfl,h1,h2⟩:=hasAllW_cons hsh
 obtain rfl:=hasAllW_nil h2
 obtain ⟨xs,rfl,h3⟩:=hasW_list h1
 obtain ⟨ns,rfl⟩:=items_int h3
 have hlen:ns.length<=n:=by
  unfold OpenLaw.pre at hc
  have h4:(WTm.not (.lt (.lit (.int (n:Int))) (.len (.arg 0)))).holds [] {args:=[.list (ns.map .int)]}=true:=by
   have h4:=(holds_andW hc).1
   rw[hn] at h4
   exact h4
  have h5:=condW_of h4 (w_not (w_lt w_lit (w_len_list (w_arg rfl))))
  rw[List.length_map] at h5
  refine Nat.le_of_not_lt fun q=>?_
  have q':(n:Int) < ((ns.length:Nat):Int):=by omega
  first
   | (rw[decide_eq_true q'] at h5;exact absurd h5 (by decide))
   | (simp at h5;omega)
 cases hwl with
 | cons w1 w2=>
  cases w2
  cases w1 with
  | list ho hall=>exact ⟨_,_,ns,rfl,rfl,ho,k8 ns _ hall,hlen⟩
theorem sM(l:OpenLaw)(args:List WData):l.row.toRowW.claim.post args (.bool true) args=true:=
 postW_of (r:=l.row.toRowW) (X:=(true == true))
  (show WShape.has [] (.bool true) .bool=true by first|rfl|decide|simp[WShape.has,WShape.arms,WShape.armsAll])
  (show (WTm.eq .res (.lit (.bool true))).value [] {args:=args,res:=some (.bool true),after:=args}=some (.bool (true == true)) from w_eq_bool (w_res rfl) w_lit) rfl
theorem attach_call{l:OpenLaw}{n:Nat}{q:Program}{loose:List Str}{XP:(Str->Option Value)->Heap->Prop}{YP:World->Heap->Prop}{d:DefRec}
  (hn:l.most=some n) (hdf:d.params.defaults=[])
  (call:∀ (w:World) (s₀ s₁:Shared) (mg mb:Str->Option Value) (fa:Addr) (o:Obj) (pm cd doc:Value) (a:Addr) (vs:List Value) (ns:List Int),
   Ground q loose [] XP w s₀ mg mb s₁.heap->YP w s₁.heap->
   s₁.heap.get? fa=some o->o.data=.func (docDef d.name d.params d.body d.scope pm cd doc)->s₁.heap.CodeRec cd d.name->mg d.name=some (.ref fa)->
   s₁.heap.get? a=some {cls:=.type "list",data:=.seq vs.toArray}->IntsAre vs ns->ns.length<=n->s₁.gens = #[]->
   codeAny (model l.prog w) callerA (.call (.ref fa) ⟨[.ref a],[]⟩) (fun r s'=>r=.ok (.ret (.bool true))/\OldK s₁.heap s'.heap/\s'.os=s₁.os/\AllBare s'.gens) s₁) :
  WalkO q loose XP YP l.row.toRowW d [] (fun f vs=>PySem.call f vs):=by
 intro w s₀ s₁ mg mb G Y fa o pm cd doc dV kV ho hd hcd hD hmg hg args vals as hpre hlay hrd hwl hlo
 obtain rfl:dV=.none:=Dflts.none hD hdf
 obtain rfl:kV=.none:=Dflts.noKw hD
 obtain ⟨a,vs,ns,rfl,rfl,hobj,hints,hlen⟩:=sL hn hpre hwl
 refine enter_call (codeAny_mono (call w s₀ s₁ mg mb fa o pm cd doc a vs ns G Y ho (fd_plain hd) hcd hmg hobj hints hlen hg) fun r s' hq=>?_)
 obtain ⟨rfl,h2,h3,h4⟩:=hq
 exact ⟨.inl ⟨.bool true,.bool true,[],rfl,fun _=>rfl,.bool true,sM l _,fun _=>⟨List.Pairwise.nil,fun _ hm=>(nomatch hm)⟩⟩,h2,h3,h4⟩
section
variable{prog:Program}{w:World}{A:Around}{E:Value->Shared->Prop}{s:Shared}{K:Frag}
noncomputable def aDY(h:Heap)(L d:Addr):List (Addr×Obj):=(List.range h.objs.size).filterMap fun a=>if a=L\/a=d then none else (h.get? a).map fun o=>(a,o)
end
end Att
namespace L2
open PySem PySem.Spec PyProof.Rows
theorem mX:∀ {vs:List Value} {ns:List Int},IntsAre vs ns->aW (ns.map V.int) vs
 | _,_,.nil=>.nil
 | _,_,.cons n t h=>.cons ⟨t,rfl⟩ (mX h)
def u8(H:Hp):Prop:=∀ b,H b=none\/∃ o xs,H b=some (.frz o (.lst xs))
theorem u9{P:Program}{w:World}{K:Frag}{mg mb:Str->Option Value}{CX:CXT}{k:Nat}{fa a:Addr}{fd:FuncData}{x:Str}{sp:Sp}{s₁:Shared}{vs:List Value}{ns:List Int}
  (KX:K.In s₁.heap) (hns:s₁.heap.Ns mainGlobals mg) (hb:s₁.heap.Ns builtinsNs mb) (hbb:∀ x:Str,x≠"__name__"->mb x=bootBuiltins x) (hlim:s₁.heap.NoLimit) (hg:s₁.gens = #[])
  (ha:s₁.heap.get? a=some {cls:=.type "list",data:=.seq vs.toArray}) (hi:IntsAre vs ns) (hl:ns.length<=sizeLine) (hr:Room k callerA)
  (F:∀ base:Heap,K.In base->base.Ns mainGlobals mg->FnOk P w K mg base CX k fa fd [x] sp) (hbind:∀ (s:Shared) (u:Value),BindsTo s fd ⟨[u],[]⟩ [(x,u)])
  (hsp:∀ H:Hp,u8 H->SqL K H a (ns.map V.int)->sp [.ref a] H (fun v _=>v=.bl true) fun _ _ _=>False)
  (hCX:∀ H e s',CX [] H s₁ (fun _ _ _=>False) e s'->False) :
  codeAny (model P w) callerA (.call (.ref fa) ⟨[.ref a],[]⟩) (fun r s'=>r=.ok (.ret (.bool true))/\OldK s₁.heap s'.heap/\s'.os=s₁.os/\AllBare s'.gens) s₁:=by
 have rv:=mX hi
 have lenV:=hi.length
 have core:∀ H:Hp,u8 H->SqL K H a (ns.map V.int)->HOk P w H s₁.heap->(∀ b,H b≠none->b=a)->(H a≠none->K.lookup a=none)->
   codeAny (model P w) callerA (.call (.ref fa) ⟨[.ref a],[]⟩) (fun r s'=>r=.ok (.ret (.bool true))/\OldK s₁.heap s'.heap/\s'.os=s₁.os/\AllBare s'.gens) s₁:=by
  intro H hO hS hok hA hK
  have base_of:∀ {b:Addr} {o:Obj},s₁.heap.get? b=some o->H b=none->(iJ s₁.heap H).get? b=some o:=fun e n=>uS e n
  have noA:∀ {b:Addr} {o:Obj} {es:Array DictEntry} {ep:Nat},s₁.heap.get? b=some o->o.data=.dict es ep->H b=none:=fun {b o es ep} e d=>by
   cases q:H b with
   | none=>rfl
   | some u=>
    have e':b=a:=hA b (by rw[q];simp)
    subst e'
    rw[ha] at e;cases e
    have d':Data.seq vs.toArray _=Data.dict es ep:=d
    cases d'
  have nsK:∀ {b:Addr} {m:Str->Option Value},s₁.heap.Ns b m->(iJ s₁.heap H).Ns b m:=fun {b m} ⟨o,es,ep,e,d,r⟩=>⟨o,es,ep,base_of e (noA e d),d,r⟩
  have hKb:K.In (iJ s₁.heap H):=fun b o e=>base_of (KX b o e) (by
   cases q:H b with
   | none=>rfl
   | some u=>
    have e':b=a:=hA b (by rw[q];simp)
    subst e'
    rw[hK (by rw[q];simp)] at e;cases e)
  have hM:Mod K mg (iJ s₁.heap H):=⟨hKb,nsK hns,⟨mb,nsK hb,hbb⟩,let ⟨mc,h1,h2⟩:=hlim;⟨mc,nsK h1,h2⟩⟩
  have e0:Env0 P w K mg (iJ s₁.heap H) callerA [] s₁ H:=⟨rfl,hM,fun b o e=>wY e,Nat.le_of_eq (sC _ _),trivial,fun b hb=>absurd (show b∈([]:List Addr) from hb) (by simp),hok,.of_eq hg⟩
  refine codeAny_mono ((F _ hKb (nsK hns)).run callerA [] s₁ H ⟨[.ref a],[]⟩ [.ref a] [.ref a] _ _ hr e0 (hbind s₁ (.ref a)) (.cons rfl .nil) (hsp H hO hS)) fun r s' h=>?_
  cases r with
  | error e=>exact (hCX H e s' h).elim
  | ok fl=>
   cases fl with
   | next=>exact False.elim h
   | brk=>exact False.elim h
   | cont=>exact False.elim h
   | ret u=>
    obtain ⟨v,H',os,bare,un,hok',r',q⟩:=h
    have q':v=.bl true:=q
    subst q'
    obtain rfl:u=Value.bool true:=r'
    refine ⟨rfl,OldK.of_keep fun b o e=>?_,os,bare⟩
    cases q:H b with
    | none=>exact un.keep b o e q (by intro z;exact absurd (show b∈([]:List Addr) from z) (by simp)) (by simp)
    | some u=>
     rcases hO b with z|⟨ob,xs,z⟩
     ·rw[q] at z;cases z
     ·have z2:=un.frzs b ob _ z
      obtain ⟨e1,_⟩:=hok b _ z
      obtain ⟨e2,_⟩:=hok' b _ z2
      rw[e] at e1;cases e1
      exact e2
 cases hk:K.lookup a with
 | some o=>
  have e:=KX a o hk
  rw[ha] at e
  cases e
  refine core (fun _=>none) (fun _=>.inl rfl) (.inr ⟨_,vs.toArray,_,hk,rfl,rfl,rfl,by rw[List.size_toArray,lenV];exact hl,by simpa using rv⟩) (fun b u z=>by have z':(none:Option HO)=some u:=z;cases z') (fun b z=>absurd rfl z) fun z=>absurd rfl z
 | none=>
  refine core (fun b=>if b=a then some (.frz {cls:=.type "list",data:=.seq vs.toArray} (.lst (ns.map V.int))) else none) (fun b=>?_) (.inl (.inr ⟨{cls:=.type "list",data:=.seq vs.toArray},if_pos rfl⟩)) (fun b u z=>?_) (fun b z=>?_) fun _=>hk
  ·by_cases hb:b=a
   ·exact .inr ⟨_,_,if_pos hb⟩
   ·exact .inl (if_neg hb)
  ·by_cases hb:b=a
   ·have z':=(if_pos hb).symm.trans z
    cases z'
    subst hb
    exact ⟨ha,by rw[List.length_map];exact hl,vs,_,rv,ha⟩
   ·have z':=(if_neg hb).symm.trans z
    cases z'
  ·by_cases hb:b=a
   ·exact hb
   ·exact absurd (if_neg hb) z
end L2
namespace L2
open PySem PySem.Spec PyProof.Rows
abbrev KOf{K:Frag}{h:Heap}(_:K.In h):Frag:=K
theorem walk_of{l:PySem.W.OpenLaw}{n k:Nat}{q:Program}{loose:List Str}{XP:(Str->Option Value)->Heap->Prop}{YP:World->Heap->Prop}{d:DefRec}{K:Params->Frag}{CX:World->CXT}{sp:World->Sp}{x:Str}
  (hn:l.most=some n) (hn2:n<=sizeLine) (hdf:d.params.defaults=[]) (hr:Room k callerA)
  (hY:∀ (w:World) (h:Heap),YP w h->(K w.params).In h)
  (F:∀ (w:World) (mg:Str->Option Value) (fa:Addr) (h:Heap),(K w.params).In h->h.Ns mainGlobals mg->mg d.name=some (.ref fa)->
   ∃ fd:FuncData,(∀ (s:Shared) (u:Value),BindsTo s fd ⟨[u],[]⟩ [(x,u)]) /\
    ∀ base:Heap,(K w.params).In base->base.Ns mainGlobals mg->FnOk l.prog w (K w.params) mg base (CX w) k fa fd [x] (sp w))
  (hsp:∀ (w:World) (H:Hp) (a:Addr) (ns:List Int),ns.length<=n->u8 H->SqL (K w.params) H a (ns.map V.int)->sp w [.ref a] H (fun v _=>v=.bl true) fun _ _ _=>False)
  (hCX:∀ (w:World) (H:Hp) (s:Shared) (e:Value) (s':Shared),CX w [] H s (fun _ _ _=>False) e s'->False) :
  PySem.W.WalkO q loose XP YP l.row.toRowW d [] (fun f vs=>PySem.call f vs):=by
 refine Att.attach_call hn hdf fun w s₀ s₁ mg mb fa o pm cd doc a vs ns G Y ho hd hcd hmg hobj hints hlen hg=>?_
 have KX:=hY w _ Y
 obtain ⟨fd,hb,hF⟩:=F w mg fa _ KX G.T.g hmg
 exact u9 KX G.T.g G.T.b G.T.builtins G.T.nolimit hg hobj hints (Nat.le_trans hlen hn2) hr hF hb (fun H hO hS=>hsp w H a ns hlen hO hS) fun H e s'=>hCX w H s₁ e s'
end L2
namespace L2
open PySem PySem.Spec PyProof.Rows
noncomputable def dY(s:Stmt):Arguments:=match s with
 | .FunctionDef _ a _ _ _ _ _ _ _ _=>a
 | _=>{posonlyargs:=[],args:=[],vararg:=none,kwonlyargs:=[],kw_defaults:=[],kwarg:=none,defaults:=[]}
noncomputable def cA(s:Stmt):List Stmt:=match s with
 | .FunctionDef _ _ b _ _ _ _ _ _ _=>b
 | _=>[]
noncomputable def aH(s:Stmt):Scope:=match s with
 | .FunctionDef _ _ _ _ _ _ sc _ _ _=>sc
 | _=>{kind:=.function,names:=[],isGenerator:=false,isCoroutine:=false}
abbrev CX0:CXT:=fun _ _ _ _ _ _=>False
abbrev E0:XK:=fun _ _ _=>False
structure Fun(K:Frag)(x qual:Str)(st:Stmt)(f:Addr)(fd:FuncData):Prop where
 ex:∃ (oc:Value) (od:Option Addr) (kV doc pm:Value) (an:Option Addr) (cdv ct:Value) (osl:Array (Option Value)),
  fd=PySem.W.fnOf x qual (dY st) (cA st) (aH st) .none kV doc pm an cdv ct/\K.lookup f=some ⟨oc,od,.func fd,osl⟩/\PySem.W.codeIn K cdv qual=true
 kp:PySem.W.keepIn K (.ref f)=true
section
variable{P:Program}{w:World}{K:Frag}{mg:Str->Option Value}{base:Heap}
theorem Fun.ok{x qual:Str}{st:Stmt}{f:Addr}{fd:FuncData}{N ps:List Str}{k:Nat}{sp:Sp}(F:Fun K x qual st f fd)(S:FnScope N ps (aH st))(len:∀ vs H Q E,sp vs H Q E->vs.length=ps.length)
  (hbody:∀ (cdv:Value) (A:Around) (outer:List Env) (s:Shared) (H:Hp) (vs:List V) (Q:VK) (E:XK),Room k (A.deeper (envOfC qual (aH st) s.heap.objs.size f cdv))->sp vs H Q E->
   ∃ t,PSs (fE CX0 P w K mg base N qual (aH st) f cdv A outer s H E).nox (cA st) t/\t {nx:=fun _ H'=>Q .non H',rt:=Q} (fD N vs) H):FnOk P w K mg base CX0 (k+1) f fd ps sp:=by
 obtain ⟨oc,od,kV,doc,pm,an,cdv,ct,osl,rfl,lk,hcd⟩:=F.ex
 refine wG lk hcd S len fun A outer s H vs Q E hr hsp=>?_
 obtain ⟨t,h,q⟩:=hbody cdv A outer s H vs Q E hr hsp
 exact ⟨t,h.nox,q⟩
theorem Fun.binds{x qual:Str}{st:Stmt}{f:Addr}{fd:FuncData}{ps:List Str}(F:Fun K x qual st f fd)
  (h:∀ (kV doc pm:Value) (an:Option Addr) (cdv ct:Value) (us:List Value),us.length=ps.length->bindArgs (PySem.W.fnOf x qual (dY st) (cA st) (aH st) .none kV doc pm an cdv ct) ⟨us,[]⟩=pure (ps.zip us)):f7 K fd ps []:=by
 obtain ⟨oc,od,kV,doc,pm,an,cdv,ct,osl,rfl,lk,hcd⟩:=F.ex
 exact .all (h kV doc pm an cdv ct)
theorem sN{x qual:Str}{st:Stmt}{f:Addr}{oc:Value}{od an:Option Addr}{osl:Array (Option Value)}{kV doc pm cdv ct:Value}(l:K.lookup f=some ⟨oc,od,.func (PySem.W.fnOf x qual (dY st) (cA st) (aH st) .none kV doc pm an cdv ct),osl⟩)
 (c:PySem.W.codeIn K cdv qual=true) (k:PySem.W.keepIn K (.ref f)=true):Fun K x qual st f (PySem.W.fnOf x qual (dY st) (cA st) (aH st) .none kV doc pm an cdv ct):=⟨⟨oc,od,kV,doc,pm,an,cdv,ct,osl,rfl,l,c⟩,k⟩
end
section
variable{X:Cx}
theorem pv(i:Nat){x:Str}{pos:Pos}(hN:X.N[i]? = some x:=by rfl)(hv:Vis X.env.scope x:=by first|exact Or.inl rfl|exact Or.inr (Or.inl rfl)|exact Or.inr (Or.inr rfl))(hd:(x == ("__debug__":Str))=false:=by decide)
 (hcd:(x == ("__classdict__":Str))=false:=by decide):PE X (.Name x pos) (lY i):=yE hN hv hd hcd
end
theorem l5{A B:Prop}(h:B):if false=true then A else B:=by
 rw[if_neg Bool.false_ne_true]
 exact h
theorem l6{A B:Prop}(h:A):if true=true then A else B:=by
 rw[if_pos rfl]
 exact h
def aF(H H':Hp):Prop:=∀ b o,H b=some o->H' b=some o
theorem aF.trans{H H1 H2:Hp}(a:aF H H1)(b:aF H1 H2):aF H H2:=fun c o h=>b c o (a c o h)
theorem aF.free{H H':Hp}(e:aF H H'){l:Addr}(h:H' l=Option.none):H l=Option.none:=by
 cases q:H l with
 | none=>rfl
 | some o=>
  rw[e l o q] at h
  cases h
theorem aF.seq{K:Frag}{H H':Hp}{a:Addr}{xs:List V}(e:aF H H')(h:SqL K H a xs):SqL K H' a xs:=by
 rcases h with (h|⟨o,h⟩)|h
 · exact .inl (.inl (e _ _ h))
 · exact .inl (.inr ⟨o, e _ _ h⟩)
 · exact .inr h
end L2
namespace L2
open PySem PySem.Spec PyProof.Rows
theorem rB{env:Env}:∀ (names:List (Str×NameKind)) (acc:List (Str×Addr)),(∀ x∈names,x.2=.free->∃ c,env.cells.lookup x.1=some c)->
  (∀ x c,acc.lookup x=some c->env.cells.lookup x=some c)->
  ∃ cl,(forIn names acc fun x r=>(if (x.2 == NameKind.free)=true then (do let a <-cellOf env x.1;pure (ForInStep.yield ((x.1,a)::r))) else pure (ForInStep.yield r)):Sem (List (Str×Addr)))=pure cl /\
   (∀ x c,cl.lookup x=some c->env.cells.lookup x=some c)/\(∀ x∈names,x.2=.free->∃ c,cl.lookup x.1=some c)/\∀ x c,acc.lookup x=some c->∃ c',cl.lookup x=some c':=by
 intro names
 induction names with
 | nil=>intro acc _ h;exact ⟨acc,rfl,h,fun x hx=>absurd hx (by simp),fun x c e=>⟨c,e⟩⟩
 | cons x r ih=>
  intro acc hf h
  obtain ⟨n,k⟩:=x
  by_cases hk:k=.free
  ·subst hk
   obtain ⟨c,hc⟩:=hf (n,.free) List.mem_cons_self rfl
   have hc:env.cells.lookup n=some c:=hc
   obtain ⟨cl,e1,e2,e3,e4⟩:=ih ((n,c)::acc) (fun y hy=>hf y (List.mem_cons_of_mem _ hy)) (fun y d e=>by
    rw[List.lookup_cons] at e
    cases q:y == n with
    | true=>rw[q] at e;cases e;have:=eq_of_beq q;subst this;exact hc
    | false=>rw[q] at e;exact h y d e)
   refine ⟨cl,?_,e2,fun y hy hyf=>?_,fun y d e=>?_⟩
   ·rw[List.forIn_cons]
    simp only[beq_self_eq_true,if_true]
    unfold cellOf
    simp only[hc,pure_bind]
    exact e1
   ·rcases List.mem_cons.mp hy with z|z
    ·subst z
     exact e4 n c (by rw[List.lookup_cons];simp)
    ·exact e3 y z hyf
   ·by_cases q:y=n
    ·subst q;exact e4 y c (by rw[List.lookup_cons];simp)
    ·exact e4 y d (by rw[List.lookup_cons,beq_false_of_ne q];exact e)
  ·obtain ⟨cl,e1,e2,e3,e4⟩:=ih acc (fun y hy=>hf y (List.mem_cons_of_mem _ hy)) h
   refine ⟨cl,?_,e2,fun y hy hyf=>?_,e4⟩
   ·rw[List.forIn_cons]
    have:(k == NameKind.free)=false:=by simpa using hk
    simp only[this,Bool.false_eq_true,if_false,pure_bind]
    exact e1
   ·rcases List.mem_cons.mp hy with z|z
    ·subst z;exact absurd hyf hk
    ·exact e3 y z hyf
theorem k9{env:Env}{scope:Scope}(hf:∀ x∈scope.names,x.2=.free->∃ c,env.cells.lookup x.1=some c) :
  ∃ cl,closureFor scope env=pure cl/\(∀ x c,cl.lookup x=some c->env.cells.lookup x=some c)/\∀ x∈scope.names,x.2=.free->∃ c,cl.lookup x.1=some c:=by
 obtain ⟨cl,e1,e2,e3,_⟩:=rB scope.names [] hf (fun x c e=>by simp at e)
 refine ⟨cl,?_,e2,e3⟩
 unfold closureFor
 first
  | exact e1
  | (rw[<-e1];rfl)
  | (simp only[bind_pure];exact e1)
theorem cY{env:Env}:∀ {names:List (Str×NameKind)} {x:Str} {k:NameKind},
  (names.map fun (n,k)=>if (k == NameKind.free && env.scope.kind == .function && env.kindOf n == some .cell) then (n,NameKind.cell) else (n,k)).lookup x=some k->
  k=.cell\/k=.free->(∀ y∈names,y.2≠.cell)->(x,NameKind.free)∈names
 | [],_,_,h,_,_=>by simp at h
 | (n,k0)::r,x,k,h,hk,hc=>by
  have ih:=@cY env r x k
  rw[List.map_cons] at h
  dsimp only at h
  by_cases hx:x=n
  ·subst hx
   by_cases hcond:(k0 == NameKind.free && env.scope.kind == .function && env.kindOf x == some .cell)=true
   ·have:k0=.free:=by
     simp only[Bool.and_eq_true] at hcond
     exact eq_of_beq hcond.1.1
    subst this
    exact List.mem_cons_self
   ·rw[if_neg hcond,List.lookup_cons] at h
    simp only[beq_self_eq_true] at h
    cases h
    rcases hk with rfl|rfl
    ·exact absurd rfl (hc _ List.mem_cons_self)
    ·exact List.mem_cons_self
  ·have hb:(x == n)=false:=beq_false_of_ne hx
   refine List.mem_cons_of_mem _ (ih ?_ hk fun y hy=>hc y (List.mem_cons_of_mem _ hy))
   split at h
   ·rw[List.lookup_cons,hb] at h;exact h
   ·rw[List.lookup_cons,hb] at h;exact h
noncomputable def cZ(X:Cx)(N:List Str)(scope:Scope)(cl:List (Str×Addr))(C:Addr)(s:Shared)(H:Hp)(fp:List Addr):Cx where
 prog:=X.prog
 w:=X.w
 K:=X.K
 mg:=X.mg
 base:=X.base
 A:=X.A
 N:=N
 s₀:=s
 H₀:=H
 env:=compEnvC scope cl C X.env
 outer:=X.stack
 stack:=X.stack
 ex:=fp
 calm:=X.calm
 fn:=fun _=>false
 pn:=[]
 xe:=fun _ _=>False
inductive Caps(X:Cx)(scope:Scope):List Str->List (Option Nat)->Prop
 | nil:Caps X scope [] []
 | own {x:Str} {N:List Str} {js:List (Option Nat)} (t:Caps X scope N js):Caps X scope (x::N) (none::js)
 | cap {x:Str} {j:Nat} {N:List Str} {js:List (Option Nat)} (h1:X.N[j]? = some x) (h2:X.env.kindOf x=some .cell\/X.env.kindOf x=some .free)
  (h3:(relabel scope X.env).names.lookup x=some .cell\/(relabel scope X.env).names.lookup x=some .free) (t:Caps X scope N js):Caps X scope (x::N) (some j::js)
theorem Caps.len{X:Cx}{scope:Scope}{N:List Str}{js:List (Option Nat)}(c:Caps X scope N js):js.length=N.length:=by
 induction c with
 | nil=>rfl
 | own _ ih=>simp[ih]
 | cap _ _ _ _ ih=>simp[ih]
theorem Caps.get{X:Cx}{scope:Scope}{N:List Str}{js:List (Option Nat)}(c:Caps X scope N js):∀ {i j:Nat} {x:Str},js[i]? = some (some j)->N[i]? = some x->
  X.N[j]? = some x/\(X.env.kindOf x=some .cell\/X.env.kindOf x=some .free)/\((relabel scope X.env).names.lookup x=some .cell\/(relabel scope X.env).names.lookup x=some .free):=by
 induction c with
 | nil=>intro i j x h;simp at h
 | own _ ih=>
  intro i j x h1 h2
  cases i with
  | zero=>simp at h1
  | succ i=>exact ih (by simpa using h1) (by simpa using h2)
 | cap a b d _ ih=>
  intro i j x h1 h2
  cases i with
  | zero=>
   simp at h1 h2
   subst h1 h2
   exact ⟨a,b,d⟩
  | succ i=>exact ih (by simpa using h1) (by simpa using h2)
noncomputable def fN(js:List (Option Nat))(σ:St):St:=js.map fun o=>o.bind fun j=>(σ[j]?).join
def b6(σ σ':St):Prop:=σ'.length=σ.length/\∀ (i:Nat) v,σ[i]? = some (some v)->σ'[i]? = some (some v)
theorem b6.refl(σ:St):b6 σ σ:=⟨rfl,fun _ _ h=>h⟩
theorem b6.set{σ:St}{i:Nat}{v:Option V}(h:σ[i]? = some none):b6 σ (σ.set i v):=by
 refine ⟨List.length_set,fun j u e=>?_⟩
 by_cases q:i=j
 · subst q; rw [h] at e; cases e
 · rw [List.getElem?_set_ne q]; exact e
theorem b6.trans{a b c:St}(h:b6 a b)(k:b6 b c):b6 a c:=⟨k.1.trans h.1,fun i v e=>k.2 i v (h.2 i v e)⟩
section
variable{X:Cx}
def PIf(X:Cx)(ifs:List Expr)(t:TT):Prop:=
 ∀ (pins:List (Addr×Obj)) (s:Shared) (σ:St) (H:Hp) (Q:Bool->Hp->Prop),Inv X pins σ H s->t σ H Q->
  wpAny (model X.prog X.w) X.A (forIn ifs true fun c r=>if r=true then do let ok <-isTrue c X.env (eval c X.env);pure (ForInStep.yield ok) else pure (ForInStep.yield r)) (TP X pins σ Q) X.xe s
def aCD:TT:=fun _ H Q=>Q true H
theorem c5:PIf X [] aCD:=by
 intro pins s σ H Q I h
 show wpAny _ _ (pure true) _ _ s
 exact wpAny_pure ⟨H,I,h⟩
end
def l7(X:Cx)(N:List Str)(scope:Scope)(js:List (Option Nat))(tg elt:Expr)(ifs:List Expr)(σ:St)(x:V)(H:Hp)(R:Option V->Hp->Prop):Prop:=
 ∀ (cl:List (Str×Addr)) (C:Addr) (s:Shared) (H0:Hp) (fp:List Addr),∃ (g:TG) (tt:TT) (te:TE),PG (cZ X N scope cl C s H0 fp) tg g/\PIf (cZ X N scope cl C s H0 fp) ifs tt/\PE (cZ X N scope cl C s H0 fp) elt te /\
  ∀ σ0,b6 (fN js σ) σ0->g x σ0 H fun σ2 H2=>b6 (fN js σ) σ2/\tt σ2 H2 fun b H3=>if b=true then te σ2 H3 fun y H4=>R (some y) H4 else R none H3
def compK(X:Cx)(N:List Str)(scope:Scope)(js:List (Option Nat))(tg elt:Expr)(ifs:List Expr)(σ:St)(Q:VK)(J:It)(H1:Hp):Prop:=∃ (n:Nat) (W:Nat->List V->Hp->Prop),n<=sizeLine/\W 0 [] H1 /\
 ∀ i ys H,W i ys H->ys.length<=i/\((J.stop i H/\∀ p,H p=none->Q (.ref p) (upd H p (.lst ys)))\/(J.go i H/\i < n/\∃ R:Option V->Hp->Prop,(∀ y H2,R (some y) H2->W (i+1) (ys++[y]) H2)/\(∀ H2,R none H2->W (i+1) ys H2) /\
  ∀ x H',J.yld i H x H'->l7 X N scope js tg elt ifs σ x H' R))
def lA(X:Cx)(N:List Str)(scope:Scope)(js:List (Option Nat))(tg elt:Expr)(ifs:List Expr)(wi:TI):TE:=fun σ H Q=>wi σ H (compK X N scope js tg elt ifs σ Q)
end L2
namespace L2
open PySem PySem.Spec PyProof.Rows
section
variable{prog:Program}{w:World}{A:Around}{R:Result->Shared->Prop}{s:Shared}
theorem nV{elt target iter:Expr}{ifs:List Expr}{scope:Scope}{pos:Pos}{it acc:Value}{env:Env}(I:Nat->Shared->Prop)
  (turn:∀ n s,I n s->wpAny (model prog w) A (pyNext it) (fun r s1=>match r with
   | none=>R (.ok .next) s1
   | some v=>wpAny (model prog w) A (letOwnedTupleGo target it v) (fun _ s1'=>wpAny (model prog w) A (assign target env v) (fun _ s2=>
    wpAny (model prog w) A (forIn ifs true fun c r=>if r=true then do let ok <-isTrue c env (eval c env);pure (ForInStep.yield ok) else pure (ForInStep.yield r)) (fun ok s3=>
     if ok=true then wpAny (model prog w) A (eval elt env) (fun x s4=>
      wpAny (model prog w) A (call (.builtin "list.append") [acc,x]) (fun _ s5=>∃ m,m < n/\I m s5) (fun _ _=>False) s4) (fun _ _=>False) s3
     else ∃ m,m < n/\I m s3) (fun _ _=>False) s2) (fun _ _=>False) s1') (fun _ _=>False) s1) (fun _ _=>False) s)
  (n:Nat) (h:I n s) :
  codeAny (model prog w) A (.compLoop (.ListComp elt [⟨target,iter,ifs,0⟩] scope pos) 0 it acc env) R s:=by
 refine codeAny_loop rfl I (fun n s hI=>?_) n h
 show wpAny _ A ((compTurn (.ListComp elt [⟨target,iter,ifs,0⟩] scope pos) 0 it acc env).onRaise (fun x=>do noteFrame x env;theTreesLotGoes x)) _ _ s
 refine wpAny_noted ?_
 rw[compTurn_list]
 have nr:∀ {α:Type} {t:Sem α} {Q:α->Shared->Prop} {E':Value->Shared->Prop} {s:Shared},wpAny (model prog w) A t Q (fun _ _=>False) s->wpAny (model prog w) A t Q E' s:=fun h=>wpAny_mono h (fun _ _ q=>q) fun _ _ f=>f.elim
 refine wpAny_bind (wpAny_standAt (wpAny_bind (wpAny_mono (turn n s hI) (fun r s₁ h₁=>?_) fun _ _ h'=>h'.elim)))
 cases r with
 | none=>exact wpAny_pure h₁
 | some v=>
  refine wpAny_bind (wpAny_mono h₁ (fun _ s1' h1'=>?_) fun _ _ f=>f.elim)
  refine wpAny_bind (wpAny_mono h1' (fun _ s₂ h₂=>wpAny_bind (wpAny_mono h₂ (fun ok s₃ h₃=>?_) fun _ _ h'=>h'.elim)) fun _ _ h'=>h'.elim)
  cases ok with
  | false=>exact wpAny_pure ⟨rfl,h₃⟩
  | true=>
   exact wpAny_bind (wpAny_bind (wpAny_mono h₃ (fun x s₄ h₄=>wpAny_bind (wpAny_mono h₄ (fun _ s₅ h₅=>wpAny_pure (wpAny_pure ⟨rfl,h₅⟩)) fun _ _ h'=>h'.elim)) fun _ _ h'=>h'.elim))
end
theorem HOk.track{P:Program}{w:World}{H:Hp}{h:Heap}{a:Addr}{o:HO}(x:HOk P w H h)(hn:H a=none)(new:bZ P w (upd H a o) h a o):HOk P w (upd H a o) h:=fun b u e=>by
 by_cases hb:b=a
 ·subst hb;rw[bJ] at e;cases e;exact new
 ·rw[aU hb] at e
  exact (x b u e).stay (fun c v _ q=>q) (fun c q=>by rw[aU (bV q hn)];exact q) (fun c xs q=>by rw[aU (bV q hn)];exact q) fun c xs q=>by rw[aU (bV q hn)];exact q
section
variable{X:Cx}{pins:List (Addr×Obj)}{σ:St}
structure CompEnd(X:Cx)(pins:List (Addr×Obj))(σ:St)(D C:Addr)(ys:List V)(H':Hp)(s':Shared):Prop where
 inv:Inv X pins σ (upd H' D (.lst ys)) s'
 ns:∃ m,s'.heap.Ns C m
 fp:d6 X pins (upd H' D (.lst ys)) C
 nD:H' D=none
theorem CompEnd.gone{D C:Addr}{ys:List V}{H H':Hp}{s':Shared}{h'':Heap}{σ':St}(I:Inv X pins σ' H s')(fp:d6 X pins H C)(hs:Heap.SameBut C s'.heap h''):Inv X pins σ' H {s' with heap:=h''}:=
 I.turned (it:=C) (t':=s'.toks) (fun b o hb e=>(hs.2 b hb).trans e) fp.1 fp.2.1 fp.2.2.2.1 fp.2.2.2.2.1 fp.2.2.2.2.2
theorem nW{prog:Program}{w:World}{A:Around}{E:Value->Shared->Prop}{s:Shared}{l:Addr}{items:Array Value}{nn:Nat}{x:Value}{Q:Value->Shared->Prop}(e:s.heap.get? l=some {cls:=.type "list",dict:=none,data:=.seq items nn})(hz:items.size<=sizeLine)
  (hQ:∀ nn' h',h'.get? l=some {cls:=.type "list",dict:=none,data:=.seq (items.push x) nn'}->Heap.SameBut l s.heap h'->Q .none {s with heap:=h'}) :
  wpAny (model prog w) A (call (.builtin "list.append") [.ref l,x]) Q E s:=by
 refine call_meets F.slot_list_append ⟨_,e,rfl⟩ F.entry_list_append (F.args_list_append_2 _ _) (PySem.list_append l items nn x (by omega)) ⟨e,?_⟩
 exact hQ _ _ (Heap.get?_update_self _ e rfl) (Heap.SameBut.update ..)
theorem lB{N:List Str}{js:List (Option Nat)}{scope:Scope}{tg elt iter:Expr}{ifs:List Expr}{cl:List (Str×Addr)}{pos:Pos}{it:Addr}{fp:List Addr}{tn:Nat->Heap->Prop}{J:It}{s2:Shared}{H2:Hp}{E:Value->Shared->Prop}
  {RR:Value->Addr->Result->Shared->Prop} {Q:VK} (hc:X.calm=true) (caps:Caps X scope N js) (hkind:scope.kind=.function) (hcell:∀ y∈scope.names,y.2≠.cell)
  (hcl1:∀ x c,cl.lookup x=some c->X.env.cells.lookup x=some c) (hcl2:∀ x∈scope.names,x.2=.free->∃ c,cl.lookup x.1=some c)
  (I:Inv X pins σ H2 s2) (T:Turn X.prog X.w X.K tg J fp it tn) (st2:tn 0 s2.heap) (f2:∀ b∈fp,d6 X pins H2 b) (n:Nat) (W:Nat->List V->Hp->Prop) (hn:n<=sizeLine) (w0:W 0 [] H2)
  (turn:∀ i ys H,W i ys H->ys.length<=i/\((J.stop i H/\∀ p,H p=none->Q (.ref p) (upd H p (.lst ys)))\/(J.go i H/\i < n/\∃ R:Option V->Hp->Prop,(∀ y H2,R (some y) H2->W (i+1) (ys++[y]) H2)/\(∀ H2,R none H2->W (i+1) ys H2) /\
   ∀ x H',J.yld i H x H'->l7 X N scope js tg elt ifs σ x H' R)))
  (hRR:∀ D C ys H' s',CompEnd X pins σ D C ys H' s'->Q (.ref D) (upd H' D (.lst ys))->RR (.ref D) C (.ok .next) s') :
  wpAny (model X.prog X.w) X.A (newList []) (fun acc s3=>wpAny (model X.prog X.w) X.A (newFunctionEnv scope X.env.globals cl [] X.env.qual none .none (some X.env)) (fun cenv s4=>
   codeAny (model X.prog X.w) X.A (.compStart (.ListComp elt [⟨tg,iter,ifs,0⟩] scope pos) 0 (.ref it) acc {cenv with scope:=relabel scope X.env}) (RR acc cenv.locals) s4) E s3) E s2:=by
 refine wpAny_newObj_type (wpAny_newFunctionEnv hcell (by intro y hy;simp at hy) (fun h₁ hns₁ hsb₁=>?_) hkind)
 dsimp only at hns₁ hsb₁ ⊢
 generalize hHh:s2.heap.push {cls:=.type "list",dict:=none,data:=.seq ([]:List Value).toArray}=Hh at hns₁ hsb₁ ⊢
 have hC:Hh.objs.size=s2.heap.objs.size+1:=by rw[<-hHh,Heap.size_push]
 have hDC:s2.heap.objs.size≠Hh.objs.size:=by rw[hC];exact Nat.ne_of_lt (Nat.lt_succ_self _)
 have hCle:s2.heap.objs.size<=Hh.objs.size:=by rw[hC];exact Nat.le_succ _
 have old:∀ b o,s2.heap.get? b=some o->h₁.get? b=some o:=fun b o e=>hsb₁.extBut b o (by rw[hC];exact Nat.ne_of_lt (Nat.lt_succ_of_lt (Heap.lt_size e))) (Heap.get?_push_of_some _ (hHh▸Heap.get?_push_of_some _ e))
 have haccO:h₁.get? s2.heap.objs.size=some {cls:=.type "list",dict:=none,data:=.seq ([]:List Value).toArray}:=hsb₁.extBut _ _ hDC (Heap.get?_push_of_some _ (hHh▸Heap.get?_push_size _ rfl))
 have st1:tn 0 h₁:=T.keep _ _ _ st2 fun b hb o e=>old b o e
 have fplt:∀ b∈fp,b < s2.heap.objs.size:=fun b hb=>by
  obtain ⟨o,e,_⟩:=T.obj _ _ st2 b hb
  exact Heap.lt_size e
 have fsIn:∀ b∈frs X.stack,b < s2.heap.objs.size:=fun b hb=>by
  rcases List.mem_cons.mp (I.stkSub b hb) with z|z
  ·rw[z];exact I.lt
  ·refine Nat.lt_of_not_le fun hle=>I.nofs hle z
 have fpC:∀ b∈fp,b≠Hh.objs.size:=fun b hb z=>Nat.lt_irrefl _ (Nat.lt_of_lt_of_le (fplt b hb) (z▸hCle))
 generalize hD:s2.heap.objs.size=D at *
 generalize hCc:Hh.objs.size=C at *
 let X':=cZ X N scope cl C s2 H2 fp
 have ok':X'.Ok:=by
  refine ⟨I.ok.mod,hkind,I.ok.glob,I.ok.blt,by show s2.heap.objs.size<=C;rw[hD];exact hCle,fun x y c e1 e2=>I.ok.inj x y c (hcl1 x c e1) (hcl1 y c e2),fun x hx=>?_,fun x c z=>absurd (show false=true from z) Bool.false_ne_true,I.ok.hd,I.ok.frames,.inl rfl,fun b hb=>?_,
   I.bs,Nat.le_trans I.ok.bsz I.sz,fun b o e hb=>?_,fun b hb z=>?_,I.stack,I.stkFree⟩
  ·have hm:(x,NameKind.free)∈scope.names:=by
    rcases hx with z|z
    ·exact cY (env:=X.env) z (.inl rfl) hcell
    ·exact cY (env:=X.env) z (.inr rfl) hcell
   exact hcl2 _ hm rfl
  ·exact ⟨fpC b hb,fun x c e=>(f2 b hb).2.2.2.2.1 x c (hcl1 x c e)⟩
  ·rcases (f2 b hb).2.2.2.1 with z|z
   ·exact I.ok.noex b o e z
   ·exact absurd (Heap.lt_size (I.ok.bs b o e).1) (Nat.not_lt.mpr z)
  ·rcases List.mem_cons.mp (I.stkSub b z) with q|q
   ·exact (f2 b hb).2.1 q
   ·exact (f2 b hb).2.2.1 q
 have hσl:(fN js σ).length=N.length:=by unfold fN;rw[List.length_map,caps.len]
 have freeC:H2 C=none:=I.hok.fresh (by rw[hD];exact hCle)
 have freeD:H2 D=none:=I.hok.fresh (by rw[hD];exact Nat.le_refl _)
 have DnotFs:D∉frs X.stack:=fun z=>Nat.lt_irrefl _ (fsIn D z)
 have DnotFp:D∉fp:=fun z=>Nat.lt_irrefl _ (fplt D z)
 have I0:∀ tk,Inv X' [] (fN js σ) H2 {s2 with heap:=h₁,toks:=tk}:=fun tk=>by
  refine ⟨ok',rfl,I.bare,Un.kept old,⟨_,hns₁,fun i x v e1 e2 e3=>?_⟩,fun x c e=>?_,freeC,fun x c e=>I.freeC x c (hcl1 x c e),fun p hp=>absurd hp (by show ¬ p∈([]++[]:List (Addr×Obj));simp),I.hok.kept old,hσl⟩
  ·unfold fN at e2
   rw[List.getElem?_map] at e2
   cases q:js[i]? with
   | none=>rw[q] at e2;cases e2
   | some o=>
    rw[q] at e2
    cases o with
    | none=>cases e2
    | some j=>
     have e2':(σ[j]?).join=some v:=Option.some.inj e2
     obtain ⟨c1,c2,c3⟩:=caps.get q e1
     have e4:σ[j]? = some (some v):=by
      cases z:σ[j]? with
      | none=>rw[z] at e2';cases e2'
      | some u=>rw[z] at e2';have:u=some v:=e2';rw[this]
     obtain ⟨m,hm,hl⟩:=I.loc
     have vis:Vis X.env.scope x:=by
      rcases c2 with z|z
      · exact .inr (.inl z)
      · exact .inr (.inr z)
     obtain ⟨u,r,l⟩:=hl j x v c1 e4 vis
     refine ⟨u,r,.inr ⟨c3,?_⟩⟩
     have lc:∃ c,X.env.cells.lookup x=some c/\s2.heap.IsCell c (some u):=by
      rcases l with ⟨k,_⟩|⟨_,z⟩
      · rcases c2 with z | z <;> (rw [k] at z; cases z)
      · exact z
     obtain ⟨c,e5,o,ho,hd⟩:=lc
     have hm2:(x,NameKind.free)∈scope.names:=by
      rcases c3 with z|z
      · exact cY (env := X.env) z (.inl rfl) hcell
      · exact cY (env := X.env) z (.inr rfl) hcell
     obtain ⟨c',e6⟩:=hcl2 _ hm2 rfl
     have e7:=hcl1 _ _ e6
     rw[e5] at e7;cases e7
     exact ⟨c,e6,o,old c o ho,hd⟩
  ·obtain ⟨v,o,ho,hd⟩:=I.cell x c (hcl1 x c e)
   exact ⟨v,o,old c o ho,hd⟩
 have fpok:∀ {H':Hp} {pl:List (Addr×Obj)},(∀ b∈fp,H' b=none)->(∀ b∈fp,∀ p∈pl,p.1≠b)->∀ b∈fp,d6 X' pl H' b:=fun {H' pl} hn hpl b hb=>by
  refine ⟨hn b hb,fpC b hb,ok'.exfs b hb,.inl hb,fun x c e=>(f2 b hb).2.2.2.2.1 x c (hcl1 x c e),fun p hp=>hpl b hb p ?_⟩
  have hp':p∈[]++pl:=hp
  simpa using hp'
 let LI:Nat->Shared->Prop:=fun k s'=>∃ i ys its nn σ' H',k=n+1 - i/\i<=n/\W i ys H'/\tn i s'.heap/\(∀ b∈fp,H' b=none)/\aW ys its/\b6 (fN js σ) σ' /\
  Inv X' [(D,{cls:=.type "list",dict:=none,data:=.seq its.toArray nn})] σ' H' s'
 have loop:∀ tk,codeAny (model X.prog X.w) X.A (.compLoop (.ListComp elt [⟨tg,iter,ifs,0⟩] scope pos) 0 (.ref it) (.ref D) (compEnvC scope cl C X.env)) (RR (.ref D) C) {s2 with heap:=h₁,toks:=tk}:=by
  intro tk
  refine nV LI ?_ (n+1) ⟨0,[],[],0,fN js σ,H2,rfl,Nat.zero_le _,w0,st1,fun b hb=>(f2 b hb).1,.nil,b6.refl _,?_⟩
  ·rintro k s3 ⟨i,ys,its,nn,σ3,H3,rfl,hin,w3,st3,fr3,r3,ks,I3⟩
   obtain ⟨hyl,tr⟩:=turn i ys H3 w3
   have fpk:=fpok (pl:=[(D,{cls:=.type "list",dict:=none,data:=.seq its.toArray nn})]) fr3 (fun b hb p hp z=>by
    rw[List.mem_singleton.mp hp] at z
    exact DnotFp ((show D=b from z)▸hb))
   rcases tr with ⟨stop,q⟩|⟨go,hlt,RW,hR1,hR2,step⟩
   ·refine thn (T.done X' rfl rfl rfl hc i _ s3 σ3 H3 _ I3 fpk st3 stop) fun r s4 zz0=>?_
    obtain ⟨hr,I4⟩:=zz0
    subst hr
    show RR (.ref D) C (.ok .next) s4
    obtain ⟨pe,pn,p1,p2,p3⟩:=I4.pin (D,{cls:=.type "list",dict:=none,data:=.seq its.toArray nn}) (by show _∈[]++_;simp)
    refine hRR D C ys H3 s4 ?_ (q D pn)
    have hok4:HOk X.prog X.w (upd H3 D (.lst ys)) s4.heap:=HOk.track I4.hok pn ⟨Nat.le_trans hyl (Nat.le_trans hin hn),its,nn,r3,pe⟩
    have ltD:∀ b u,H2 b=some u->b≠D:=fun b u e z=>by rw[z,freeD] at e;cases e
    have un4:Un (frs X.stack) fp H2 (upd H3 D (.lst ys)) s2.heap s4.heap:=by
     have ub:=I4.base
     refine ⟨ub.keep,ub.slot,fun b o e nn' hx=>?_,ub.there,fun b xs e=>?_,fun b o u e=>?_,fun b ps e=>?_⟩
     ·rw[aU (fun z=>by have:=Heap.lt_size e;rw[hD,z] at this;exact Nat.lt_irrefl _ this)]
      exact ub.free b o e nn' hx
     ·rw[aU (ltD b _ e)];exact ub.tups b xs e
     ·rw[aU (ltD b _ e)];exact ub.frzs b o u e
     ·rw[aU (ltD b _ e)];exact ub.tbls b ps e
    refine ⟨I.call' I4.os un4 hok4 I4.bare fun b hb=>⟨(f2 b hb).2.2.2.1,(f2 b hb).2.1,(f2 b hb).2.2.2.2.1,(f2 b hb).2.2.2.2.2⟩,?_,?_,pn⟩
    ·obtain ⟨m,hm,_⟩:=I4.loc
     exact ⟨m,hm⟩
    ·refine I.fpOk (by rw[hD];exact hCle) ?_
     rw[aU (Ne.symm hDC)]
     exact I4.free
   ·refine thn (T.item X' rfl rfl rfl hc i _ s3 σ3 H3 _ I3 fpk st3 go) fun r s4 zz0=>?_
    obtain ⟨u,hr,h4⟩:=zz0
    subst hr
    show wpAny _ _ (letOwnedTupleGo tg (.ref it) u) _ _ s4
    refine thn h4 fun _ s5 zz0=>?_
    obtain ⟨x,H5,I5,r5,y5,st5,fr5⟩:=zz0
    obtain ⟨g,tt,te,hg,ht,he,hq⟩:=step x H5 y5 cl C s2 H2 fp
    have fpk5:=fpok (pl:=[(D,{cls:=.type "list",dict:=none,data:=.seq its.toArray nn})]) fr5 (fun b hb p hp z=>by
     rw[List.mem_singleton.mp hp] at z
     exact DnotFp ((show D=b from z)▸hb))
    have I5':=I5.pinned fpk5 (T.obj _ _ st5)
    refine thn (hg _ s5 σ3 H5 x u _ I5' r5 (hq σ3 ks)) fun _ s6 zz0=>?_
    obtain ⟨σ6,H6,I6,ks6,q6⟩:=zz0
    refine thn (ht _ s6 σ6 H6 _ I6 q6) fun b s7 zz0=>?_
    obtain ⟨H7,I7,q7⟩:=zz0
    have stK:∀ {s':Shared} {H':Hp} {σ':St},Inv X' ([(D,{cls:=.type "list",dict:=none,data:=.seq its.toArray nn})]++jC fp s5.heap) σ' H' s'->tn (i+1) s'.heap/\(∀ b∈fp,H' b=none):=fun {s' H' σ'} I'=>by
     refine ⟨T.keep _ _ _ st5 fun b hb o e=>(I'.pin (b,o) (List.mem_append_right _ (List.mem_append_right _ (gE hb e)))).1,fun b hb=>?_⟩
     obtain ⟨o,e,d⟩:=T.obj _ _ st5 b hb
     exact (I'.pin (b,o) (List.mem_append_right _ (List.mem_append_right _ (gE hb e)))).2.1
    cases b with
    | false=>
     rw[if_neg Bool.false_ne_true] at q7 ⊢
     obtain ⟨a1,a2⟩:=stK I7
     exact ⟨n+1 - (i+1),by omega,i+1,ys,its,nn,σ6,H7,rfl,hlt,hR2 _ q7,a1,a2,r3,ks6,I7.unpinned⟩
    | true=>
     rw[if_pos rfl] at q7 ⊢
     refine thn (he _ s7 σ6 H7 _ I7 q7) fun yv s8 zz0=>?_
     obtain ⟨y,H8,I8,r8,q8⟩:=zz0
     obtain ⟨a1,a2⟩:=stK I8
     have I8u:=I8.unpinned
     obtain ⟨pe,pn,p1,p2,p3⟩:=I8u.pin (D,{cls:=.type "list",dict:=none,data:=.seq its.toArray nn}) (by show _∈[]++_;simp)
     have hl8:s8.heap.IsList D its.toArray:=PySem.IsL.isList pe
     have isz:its.length<=sizeLine:=by rw[<-r3.length];exact Nat.le_trans hyl (Nat.le_trans hin hn)
     refine nW pe (by simpa using isz) fun nn' h9 e9 hs9=>?_
     have I9:Inv X' [] σ6 H8 {s8 with heap:=h9,toks:=s8.toks}:=by
      refine Inv.turned (pins:=[]) (it:=D) (t':=s8.toks) (I8u.pins_of (pins':=[]) fun p hp=>absurd hp (by simp)) (fun b o hb e=>(hs9.2 b hb).trans e) pn hDC (.inr (by show s2.heap.objs.size<=D;rw[hD];exact Nat.le_refl _)) (fun x c e z=>?_) fun p hp=>absurd hp (by show ¬ p∈([]++[]:List (Addr×Obj));simp)
      obtain ⟨v,o,ho,hd⟩:=I.cell x c (hcl1 x c e)
      have:=Heap.lt_size ho
      rw[hD,z] at this
      exact Nat.lt_irrefl _ this
     refine ⟨n+1 - (i+1),by omega,i+1,ys++[y],its++[yv],nn',σ6,H8,rfl,hlt,hR1 _ _ q8,?_,a2,aW.append r3 (.cons r8 .nil),ks6,?_⟩
     ·exact T.keep _ _ _ a1 fun b hb o e=>(hs9.2 b (fun z=>DnotFp (z▸hb))).trans e
     ·refine I9.pins_of fun p hp=>?_
      obtain rfl:=List.mem_singleton.mp hp
      exact ⟨by simpa using e9,pn,p1,p2,by simp⟩
  ·refine (I0 tk).pins_of fun p hp=>?_
   obtain rfl:=List.mem_singleton.mp hp
   exact ⟨haccO,freeD,hDC,DnotFs,by simp⟩
 exact codeAny_compStart_list (loop _) (T.self X.A 0 _ _ _ st1 (loop _))
noncomputable def cD(names:List (Str×NameKind))(outer:Str->Option NameKind):Bool:=
 names.all (fun y=>y.2 != .cell) && names.all (fun y=>y.2 != .local || names.lookup y.1 == some .local) && names.all (fun y=>y.2 != .free || outer y.1 == some .cell || outer y.1 == some .free)
theorem cD.cell{names:List (Str×NameKind)}{outer:Str->Option NameKind}(h:cD names outer=true):∀ y∈names,y.2≠.cell:=fun y hy=>by
 unfold cD at h
 simp only[Bool.and_eq_true,List.all_eq_true] at h
 simpa using h.1.1 y hy
theorem cD.names{names:List (Str×NameKind)}{outer:Str->Option NameKind}(h:cD names outer=true):∀ y∈names,y.2=.local->names.lookup y.1=some .local:=fun y hy e=>by
 unfold cD at h
 simp only[Bool.and_eq_true,List.all_eq_true] at h
 have:=h.1.2 y hy
 rw[e] at this
 simpa using this
theorem cD.free{names:List (Str×NameKind)}{outer:Str->Option NameKind}(h:cD names outer=true):∀ y∈names,y.2=.free->outer y.1=some .cell\/outer y.1=some .free:=fun y hy e=>by
 unfold cD at h
 simp only[Bool.and_eq_true,List.all_eq_true] at h
 have:=h.2 y hy
 rw[e] at this
 simpa using this
theorem eW{N:List Str}{js:List (Option Nat)}{scope:Scope}{tg elt iter:Expr}{ifs:List Expr}{pos:Pos}{wi:TI}(hc:X.calm=true)(caps:Caps X scope N js)(hok:cD scope.names X.env.kindOf=true)
  (hi:PI X tg iter wi) (hkind:scope.kind=.function:=by rfl) (hs:∀ x,foldedSetIterable iter X.env x=pure x:=by intro _;rfl) :
  PE X (.ListComp elt [⟨tg,iter,ifs,0⟩] scope pos) (lA X N scope js tg elt ifs wi):=by
 intro pins s σ H Q I h
 obtain ⟨cl,e1,e2,e3⟩:=k9 (env:=X.env) (scope:=scope) fun x hx hf=>I.ok.has _ (cD.free hok x hx hf)
 rw[eval_ListComp]
 refine wpAny_comprehension_free (use:=none) rfl hs e1 hkind (cD.names hok) (thn (hi pins s σ H _ I h) fun v s1 h1=>thn h1 fun itv s2 h2=>?_)
 obtain ⟨it,fp,tn,J,H2,rfl,I2,T,st2,f2,n,W,hn,w0,turn⟩:=h2
 refine lB (RR:=fun acc C=>compPost (model X.prog X.w) X.A X.xe none (EP X pins σ Q) acc C) (Q:=Q) hc caps hkind (cD.cell hok) e2 e3 I2 T st2 f2 n W hn w0 turn ?_
 intro D C ys H' s' ce q
 obtain ⟨m,hm⟩:=ce.ns
 exact ⟨m,hm,fun h' hs'=>⟨.ref D,_,CompEnd.gone (D:=D) (ys:=ys) (H':=H') ce.inv ce.fp hs',rfl,q⟩⟩
theorem rC{i:Nat}{x:Str}{N:List Str}{js:List (Option Nat)}{scope:Scope}{tg elt iter:Expr}{ifs:List Expr}{pos pos' spos:Pos}{wi:TI}(hN:X.N.Nodup)(hi':X.N[i]? = some x)(hx:Loc X.env.scope x)
  (hsw:swapsWith (.ListComp elt [⟨tg,iter,ifs,0⟩] scope pos) (some (.Name x pos')) spos.line X.env=pure true) (hc:X.calm=true) (caps:Caps X scope N js) (hok:cD scope.names X.env.kindOf=true)
  (hi:PI X tg iter wi) (hkind:scope.kind=.function:=by rfl) (hf:X.fn x=true\/X.env.scope.names.lookup x=some .local:=by exact .inl rfl) (hs:∀ x,foldedSetIterable iter X.env x=pure x:=by intro _;rfl) :
  PS X (.Assign [.Name x pos'] (.ListComp elt [⟨tg,iter,ifs,0⟩] scope pos) spos) (nR (lA X N scope js tg elt ifs wi) (iL i)):=by
 intro pins s σ H D I h
 obtain ⟨cl,e1,e2,e3⟩:=k9 (env:=X.env) (scope:=scope) fun x hx hf=>I.ok.has _ (cD.free hok x hx hf)
 rw[exec_Assign_Name_used _ _ _ _ hsw]
 refine wpAny_bind (wpAny_standAt (wpAny_bind ?_))
 show wpAny _ X.A (do let _ <-comprehension (.ListComp elt [⟨tg,iter,ifs,0⟩] scope pos) scope X.env _ (newList []) false (eval iter X.env) (some (assign (.Name x pos') X.env))) _ _ s
 refine wpAny_bind (wpAny_mono (wpAny_comprehension_free (use:=some (assign (.Name x pos') X.env)) (Q:=fun _ s'=>SP X pins D .next s') rfl hs e1 hkind (cD.names hok)
  (thn (hi pins s σ H _ I h) fun v s1 h1=>thn h1 fun itv s2 h2=>?_)) (fun _ s' hq=>wpAny_pure (wpAny_pure hq)) fun _ _ e=>e)
 obtain ⟨it,fp,tn,J,H2,rfl,I2,T,st2,f2,n,W,hn,w0,turn⟩:=h2
 refine lB (RR:=fun acc C=>compPost (model X.prog X.w) X.A X.xe (some (assign (.Name x pos') X.env)) (fun _ s'=>SP X pins D .next s') acc C) (Q:=fun v H'=>D.nx (σ.set i (some v)) H') hc caps hkind (cD.cell hok) e2 e3 I2 T st2 f2 n W hn w0 turn ?_
 intro L C ys H' s' ce q
 show wpAny _ X.A (assign (.Name x pos') X.env (.ref L)) _ _ s'
 refine wpAny_assign_Name (mP (v:=.ref L) ce.inv hN hi' hx rfl (fun s'' I'' sb=>?_) hf)
 obtain ⟨a,hsa,ha⟩:=sb
 have hCa:C≠a:=by
  rcases ha with z|z
  · rw [z]; exact ce.fp.2.1
  · exact fun z' => ce.fp.2.2.2.2.1 x a z z'.symm
 obtain ⟨m,hm⟩:=ce.ns
 exact ⟨m,hm.sameBut hsa hCa,fun h' hs'=>⟨_,_,CompEnd.gone (D:=L) (ys:=ys) (H':=H') I'' ce.fp hs',q⟩⟩
end
noncomputable def wH(W:Nat->List V->Hp->Prop)(i:Nat)(ys:List V):Option V->Hp->Prop
 | some y,H=>W (i+1) (ys++[y]) H
 | none,H=>W (i+1) ys H
theorem xH{X:Cx}{J:It}{N:List Str}{scope:Scope}{js:List (Option Nat)}{tg elt:Expr}{ifs:List Expr}{σ:St}{Q:VK}{n:Nat}{H1:Hp}(W:Nat->List V->Hp->Prop)(hz:n<=sizeLine)(w0:W 0 [] H1)
  (hl:∀ i ys H,i<=n->W i ys H->ys.length<=i) (hgo:∀ i ys H,i < n->W i ys H->J.go i H) (hst:∀ ys H,W n ys H->J.stop n H)
  (step:∀ i x ys H H',i < n->W i ys H->J.yld i H x H'->l7 X N scope js tg elt ifs σ x H' (wH W i ys))
  (done:∀ ys H,W n ys H->∀ p,H p=none->Q (.ref p) (upd H p (.lst ys))) :
  compK X N scope js tg elt ifs σ Q J H1:=by
 refine ⟨n,fun i ys H=>i<=n/\W i ys H,hz,⟨Nat.zero_le _,w0⟩,?_⟩
 rintro i ys H ⟨hi,w⟩
 refine ⟨hl i ys H hi w,?_⟩
 by_cases hlt:i < n
 ·exact .inr ⟨hgo i ys H hlt w,hlt,wH W i ys,fun y H2 q=>⟨hlt,q⟩,fun H2 q=>⟨hlt,q⟩,fun x H' y=>step i x ys H H' hlt w y⟩
 ·have e:i=n:=by omega
  subst e
  exact .inl ⟨hst ys H w,done ys H w⟩
end L2
namespace L2
open PySem PySem.Spec PyProof.Rows
mutual
inductive DatV(K:Frag)(H:Hp):V->PyData->Prop
 | non:DatV K H .non .none
 | bl (b:Bool):DatV K H (.bl b) (.bool b)
 | int (i:Int):DatV K H (.int i) (.int i)
 | str (x:Str):DatV K H (.str x) (.str x)
 | lst {a:Addr} {xs:List V} {ds:List PyData}:SqL K H a xs->DatVs K H xs ds->DatV K H (.ref a) (.list ds)
 | tup {a:Addr} {xs:List V} {ds:List PyData}:SqT K H a xs->DatVs K H xs ds->DatV K H (.ref a) (.tuple ds)
inductive DatVs(K:Frag)(H:Hp):List V->List PyData->Prop
 | nil:DatVs K H [] []
 | cons {x:V} {d:PyData} {xs:List V} {ds:List PyData}:DatV K H x d->DatVs K H xs ds->DatVs K H (x::xs) (d::ds)
end
section
variable{X:Cx}{pins:List (Addr×Obj)}{σ:St}{H:Hp}{s:Shared}
theorem DatV.reads(I:Inv X pins σ H s){x:V}{d:PyData}{u:Value}(h:DatV X.K H x d)(r:a9 x u):∃ as,Reads s.heap u d as:=by
 refine DatV.rec (motive_1:=fun x d _=>∀ u,a9 x u->∃ as,Reads s.heap u d as) (motive_2:=fun xs ds _=>∀ us,aW xs us->∃ as,ReadsAll s.heap us ds as) ?_ ?_ ?_ ?_ ?_ ?_ ?_ ?_ h u r
 ·intro u r;cases r;exact ⟨_,.none⟩
 ·intro b u r;cases r;exact ⟨_,.bool b⟩
 ·intro i u r;obtain ⟨t,rfl⟩:=r;exact ⟨_,.int i t⟩
 ·intro x u r;obtain ⟨t,rfl⟩:=r;exact ⟨_,.str x t⟩
 ·intro a xs ds h _ ih u r
  cases r
  obtain ⟨its,rv,p,hz⟩:=I.list h
  obtain ⟨o,e,c,n,d⟩:=p.isList
  obtain ⟨as,q⟩:=ih _ rv
  exact ⟨_,.list e c d (by simpa using q)⟩
 ·intro a xs ds h _ ih u r
  cases r
  obtain ⟨its,rv,p,hz⟩:=I.tuple h
  obtain ⟨o,e,c,n,d⟩:=p
  obtain ⟨as,q⟩:=ih _ rv
  exact ⟨_,.tuple e c d (by simpa using q)⟩
 ·intro us r;cases r;exact ⟨_,.nil⟩
 ·intro x d xs ds _ _ i1 i2 us r
  cases r with
  | cons r1 r2=>
   obtain ⟨as,q⟩:=i1 _ r1
   obtain ⟨bs,q2⟩:=i2 _ r2
   exact ⟨_,.cons q q2⟩
theorem y4(hu:X.A.units+64 < cLine):OpR X (compareOp .Eq) (fun x y H Q=>∃ d e,DatV X.K H x d/\DatV X.K H y e/\SeqAt.shaped d=true/\SeqAt.shaped e=true/\Q (.bl (PyData.eqv d e)) H):=by
 intro pins s σ H x y u v Q I rx ry h
 obtain ⟨d,e,hx,hy,sd,se,q⟩:=h
 obtain ⟨as,r1⟩:=hx.reads I rx
 obtain ⟨bs,r2⟩:=hy.reads I ry
 exact eq_dataH r1 r2 sd se hu ⟨.bl _,H,I,rfl,q⟩
theorem y6(hu:X.A.units+64 < cLine):OpR X (compareOp .NotEq) (fun x y H Q=>∃ d e,DatV X.K H x d/\DatV X.K H y e/\SeqAt.shaped d=true/\SeqAt.shaped e=true/\Q (.bl (!PyData.eqv d e)) H):=by
 intro pins s σ H x y u v Q I rx ry h
 obtain ⟨d,e,hx,hy,sd,se,q⟩:=h
 obtain ⟨as,r1⟩:=hx.reads I rx
 obtain ⟨bs,r2⟩:=hy.reads I ry
 exact ne_dataH r1 r2 sd se hu ⟨.bl _,H,I,rfl,q⟩
end
theorem SqL.same{K:Frag}{H H':Hp}{a:Addr}{xs:List V}(e:aF H H')(h:SqL K H a xs):SqL K H' a xs:=aF.seq e h
theorem SqT.same{K:Frag}{H H':Hp}{a:Addr}{xs:List V}(e:aF H H')(h:SqT K H a xs):SqT K H' a xs:=by
 rcases h with (h|⟨o,h⟩)|h
 · exact .inl (.inl (e _ _ h))
 · exact .inl (.inr ⟨o, e _ _ h⟩)
 · exact .inr h
theorem DatV.same{K:Frag}{H H':Hp}(e:aF H H'){x:V}{d:PyData}(h:DatV K H x d):DatV K H' x d:=
 DatV.rec (motive_1:=fun x d _=>DatV K H' x d) (motive_2:=fun xs ds _=>DatVs K H' xs ds) .non .bl .int .str (fun h _ q=>.lst (h.same e) q) (fun h _ q=>.tup (h.same e) q) .nil (fun _ _ p q=>.cons p q) h
theorem DatVs.same{K:Frag}{H H':Hp}(e:aF H H'){xs:List V}{ds:List PyData}(h:DatVs K H xs ds):DatVs K H' xs ds:=
 DatVs.rec (motive_1:=fun x d _=>DatV K H' x d) (motive_2:=fun xs ds _=>DatVs K H' xs ds) .non .bl .int .str (fun h _ q=>.lst (h.same e) q) (fun h _ q=>.tup (h.same e) q) .nil (fun _ _ p q=>.cons p q) h
theorem aF.upd{H:Hp}{a:Addr}{o:HO}(h:H a=none):aF H (upd H a o):=fun b u e=>by rw[aU (bV e h)];exact e
theorem DatVs.length{K:Frag}{H:Hp}:∀ {xs:List V} {ds:List PyData},DatVs K H xs ds->xs.length=ds.length
 | _,_,.nil=>rfl
 | _,_,.cons _ t=>by simp[DatVs.length t]
theorem DatVs.append{K:Frag}{H:Hp}:∀ {xs ys:List V} {ds es:List PyData},DatVs K H xs ds->DatVs K H ys es->DatVs K H (xs++ys) (ds++es)
 | _,_,_,_,.nil,h=>h
 | _,_,_,_,.cons a t,h=>.cons a (DatVs.append t h)
theorem DatVs.get{K:Frag}{H:Hp}:∀ {xs:List V} {ds:List PyData} {i:Nat} {x:V},DatVs K H xs ds->xs[i]? = some x->∃ d,ds[i]? = some d/\DatV K H x d
 | _,_,_,_,.nil,e=>by simp at e
 | _,_,0,_,.cons a t,e=>by simp at e;subst e;exact ⟨_,by simp,a⟩
 | _,_,i+1,x,.cons a t,e=>by
  obtain ⟨d,h1,h2⟩:=DatVs.get (i:=i) (x:=x) t (by simpa using e)
  exact ⟨d,by simpa using h1,h2⟩
theorem DatVs.get'{K:Frag}{H:Hp}:∀ {xs:List V} {ds:List PyData} {i:Nat} {d:PyData},DatVs K H xs ds->ds[i]? = some d->∃ x,xs[i]? = some x/\DatV K H x d
 | _,_,_,_,.nil,e=>by simp at e
 | _,_,0,_,.cons a t,e=>by simp at e;subst e;exact ⟨_,by simp,a⟩
 | _,_,i+1,x,.cons a t,e=>by
  obtain ⟨d,h1,h2⟩:=DatVs.get' (i:=i) (d:=x) t (by simpa using e)
  exact ⟨d,by simpa using h1,h2⟩
theorem DatVs.drop{K:Frag}{H:Hp}:∀ {xs:List V} {ds:List PyData} (n:Nat),DatVs K H xs ds->DatVs K H (xs.drop n) (ds.drop n)
 | _,_,0,h=>h
 | _,_,_+1,.nil=>.nil
 | _,_,n+1,.cons _ t=>DatVs.drop n t
theorem DatVs.take{K:Frag}{H:Hp}:∀ {xs:List V} {ds:List PyData} (n:Nat),DatVs K H xs ds->DatVs K H (xs.take n) (ds.take n)
 | _,_,0,_=>.nil
 | _,_,_+1,.nil=>.nil
 | _,_,n+1,.cons a t=>.cons a (DatVs.take n t)
end L2
namespace SX
open PySem PySem.W
section
variable{prog:Program}{w:World}{A:Around}{E:Value->Shared->Prop}{h:Heap}{g:Array GenState}{d:Drawn}{t:Nat}{os:OsState}{K:Frag}
variable{nm q:Str}{C N:Addr}{bs bm bmB:List Value}{hdct:Bool}{sn:List Str}{sub:List Value}{ab:Bool}{col:Option Bool}{dd:Option Addr}{k0 k1 k2 k3 k5:Option Value}{B newId initId:String}
structure BmOk(B:String)(bm:List Value):Prop where
 hasB:bm.contains (.type B)=true
 hasBase:bm.contains (.type "BaseException")=true
 noAttr:bm.contains (.type "AttributeError")=false
 noName:bm.contains (.type "NameError")=false
end
end SX
namespace SX
open PySem PySem.W PySem.Builtin PySem.Builtin.ObjectAttr
abbrev kO:List Value:=[.type "ValueError",.type "Exception",.type "BaseException",.type "object"]
structure ExcC(K:Frag)(W C:Addr):Prop where
 lk:∃ nm q N bs sn sub ab col dd k0 k1 k2 k3 k5,K.lookup C=some (excClassObj nm q C N bs (.ref W::kO) true sn sub ab col dd k0 k1 k2 k3 k5 "ValueError.__new__")
 sa:findIn K (.ref C) "__setattr__"=some (some (.builtin "object.__setattr__"))
 ga:findIn K (.ref C) "__getattribute__"=some (some (.builtin "BaseException.__getattribute__"))
 gh:findIn K (.ref C) "__getattr__"=some none
 cl:findIn K (.ref C) "__class__"=some (some (.builtin "object.__class__"))
 clg:specialIn K (.builtin "object.__class__") "__get__"=some (some (.builtin "getset_descriptor.__get__"))
 clt:takesIn K (.builtin "object.__class__")=some true
 kp:keepIn K (.ref C)=true
theorem passes(self:Value)(C W:Addr):refuseLoop self "__setattr__" (.ref C::.ref W::kO)=pure ():=by
 rw[refuseLoop_ref,refuseLoop_ref]
 exact PySem.F.store_ValueError.passes self
theorem ExcC.cls{K:Frag}{W C:Addr}(c:ExcC K W C):∃ cd:ClassData,clsIn K C=some cd/\cd.hasDict=true/\cd.mro=.ref C::.ref W::kO:=by
 obtain ⟨nm,q,N,bs,sn,sub,ab,col,dd,k0,k1,k2,k3,k5,e⟩:=c.lk
 exact ⟨_,by unfold clsIn;rw[e],rfl,rfl⟩
theorem ExcC.mro{K:Frag}{W C:Addr}(c:ExcC K W C)(b:Value):mroIn K C b=some ((Value.ref C::.ref W::kO).contains b):=by
 obtain ⟨cd,h1,_,h3⟩:=c.cls
 unfold mroIn
 rw[h1,Option.bind_some,h3]
 rfl
section
variable{prog:Program}{w:World}{A:Around}{E:Value->Shared->Prop}{s:Shared}{K:Frag}{W C x:Addr}{name:Str}{v:Value}{vs:Array Value}
theorem sO{od:Option Addr}{o:Option Obj}{Q:Option Value->Shared->Prop}(X:K.In s.heap)(c:ExcC K W C)(I:InstAt s.heap x ⟨.ref C,od,.fields vs,#[]⟩ C o)(h:Q (some (.ref C)) {s with toks:=s.toks+1}) :
  wpAny (model prog w) A (getAttr? (.ref x) "__class__") Q E s:=by
 obtain ⟨hp,g,d,t,os⟩:=s
 obtain ⟨cd,hcd,hdct,hmro⟩:=c.cls
 have L0:=I.type (M:=model prog w)
 have L1:=looks_findIn (M:=model prog w) X c.ga
 have L2:=looks_findIn (M:=model prog w) X c.gh
 have sub:Looks (model prog w) hp (isInstance (.ref x) (.type "BaseException")) true:=L0.andThen (looks_mroIn X (by rw[c.mro];simp[kO]))
 have hf:findObj K C o "__class__"=some (.bind (.builtin "getset_descriptor.__get__") (.builtin "object.__class__")):=by
  unfold findObj
  rw[hcd,Option.bind_some,c.cl,Option.bind_some]
  simp only[c.clg,c.clt,Option.bind_some]
 have L3:=looks_find (M:=model prog w) X I hf
 unfold getAttr?
 refine wpAny_bind (wpAny_mkText ?_)
 unfold getAttrBy?
 refine wpAny_bind (wpAny_attempt ?_)
 unfold getAttrBy
 refine wpAny_holding (wpAny_bind (L0.at (wpAny_bind (L1.at ?_))))
 show wpAny _ _ (getAttrByItsOwn _ _ _ _ _ _) _ _ _
 unfold getAttrByItsOwn
 refine wpAny_bind ?_
 show wpAny _ _ (typeLookup (.ref C) "__getattr__") _ _ _
 refine L2.at (wpAny_bind (wpAny_attempt (wpAny_holding ?_)))
 unfold callGetattribute
 rw[show (false && onTheHeap (Value.builtin "BaseException.__getattribute__"))=false from rfl,if_neg Bool.false_ne_true]
 unfold boundAndCalled
 rw[PySem.F.excAttr_ValueError.ga.bind]
 refine wpAny_bind (wpAny_pure ?_)
 have hk:builtinKind "BaseException.__getattribute__"=some .slot:=by decide +kernel
 have hsplit:splitId "BaseException.__getattribute__"=some ("BaseException","__getattribute__"):=by decide +kernel
 refine wpAny_call (codeAny_call_builtin PySem.F.excAttr_ValueError.ga.plain PySem.F.entry_bexc_ga (@check_slot (model prog w) _ _ _ "BaseException.__getattribute__" "BaseException" "__getattribute__" (.ref x) [.str "__class__" t] [] _ hk hsplit sub (PySem.F.args_bexc_ga (.ref x) (.str "__class__" t)) ?_))
 refine wpAny_bind (wpAny_pure (wpAny_bind (wpAny_pure ?_)))
 refine wpAny_bind (L0.at (wpAny_bind (L3.at ?_)))
 show wpAny _ _ (holding [.builtin "object.__class__"] (call (.builtin "getset_descriptor.__get__") [.builtin "object.__class__",.ref x,.ref C]) >>= ret) _ _ _
 refine wpAny_bind (wpAny_holding (wpAny_call (class_get (s:=⟨hp,g,d,t+1,os⟩) X I (by rw[c.mro];simp[kO]) ?_)))
 refine wpAny_pure ?_
 show wpAny _ _ (handedOut (.ref C)) _ _ _
 exact wpAny_pure (wpAny_pure h)
theorem vA{od:Option Addr}{o:Option Obj}(c:ExcC K W C):KitX K (.ref x) (.ref C) (fun h=>InstAt h x ⟨.ref C,od,.fields vs,#[]⟩ C o) where
 ty:=fun _ _ _ I=>I.type
 it:=fun _ _ X _=>by
  obtain ⟨nm,q,N,bs,sn,sub,ab,col,dd,k0,k1,k2,k3,k5,e⟩:=c.lk
  intro A' Q' E' s' k q
  unfold isType loadHead
  exact wpAny_bind (wpAny_loadPart (k _ _ (X _ _ e)) (wpAny_pure q))
 ne:=fun h tp dd its n sl X htp=>by
  obtain ⟨nm,q,N,bs,sn,sub,ab,col,dd,k0,k1,k2,k3,k5,e⟩:=c.lk
  refine Bool.eq_false_iff.mpr fun q=>?_
  have e':C=tp:=Value.ref.inj (beq_iff_eq.mp q)
  subst e'
  have z:=(X _ _ e).symm.trans htp
  have z':Value.type "type"=Value.type "tuple":=congrArg Obj.cls (Option.some.inj z)
  exact absurd (Value.type.inj z') (by decide)
 ca:=fun X I k=>sO X c I k
theorem lC{od:Option Addr}{o:Option Obj}{cv:Value}{b:Bool}{Q:Value->Shared->Prop}(X:K.In s.heap)(c:ExcC K W C)(I:InstAt s.heap x ⟨.ref C,od,.fields vs,#[]⟩ C o)(e:kitOne K (.ref C) cv=some b)(h:∀ tk,Q (.bool b) {s with toks:=tk}) :
 wpAny (model prog w) A (call (.builtin "isinstance") [.ref x,cv]) Q E s:=kia_one (vA c) X I e (fun z=>nomatch z) h
end
end SX
namespace SX
open PySem PySem.W
def kP(h:Heap)(vs:Array Value)(e:Addr)(T:Option Addr):Prop:=
 match T with
 | none=>vs[1]? = some .none
 | some t=>vs[1]? = some (.ref t)/\t≠e/\∃ oT ts x,h.get? t=some oT/\oT.data=.fields ts/\ts[3]? = some x
section
variable{M:Model}{A:Around}{E:Value->Shared->Prop}{s:Shared}
structure Noted(FL:List Addr)(e:Addr)(T:Option Addr)(C:Addr)(od:Option Addr)(h h':Heap)(T':Option Addr):Prop where
 keep:∀ b o,b∉FL->b≠e->(∀ t,T=some t->b≠t)->h.get? b=some o->h'.get? b=some o
 slot:∀ b o,b∈FL->h.get? b=some o->∃ sl,h'.get? b=some {o with slots:=sl}
 exc:∃ vs,h'.get? e=some ⟨.ref C,od,.fields vs,#[]⟩/\kP h' vs e T'
 new:(∃ t,T'=some t/\h.objs.size<=t)\/(T'=T/\T≠none)
 there:∀ t o,T=some t->h.get? t=some o->∃ o',h'.get? t=some o'
theorem vB{base:Heap}{env:Env}{outer:List Env}{L e C:Addr}{od:Option Addr}{vs:Array Value}{T:Option Addr}{Q:Unit->Shared->Prop}
  (hfr:A.frames=some (env::outer)) (hl:s.heap.FunFrames base (env::outer)) (hf:env.frame=some L) (he:s.heap.get? e=some ⟨.ref C,od,.fields vs,#[]⟩) (ht:kP s.heap vs e T)
  (h:∀ h' T',T'≠none->Noted ((env::outer).filterMap (·.frame)) e T C od s.heap h' T'->Q () {s with heap:=h'}) :
  wpAny M A (noteFrame (.ref e) env) Q E s:=by
 have frF:∀ b∈(env::outer).filterMap (·.frame),∃ o,s.heap.get? b=some o/\∀ vs,o.data≠.fields vs:=fun b hb=>(hl.mem hb).2
 have hene:e∉(env::outer).filterMap (·.frame):=fun hm=>by
  obtain ⟨o,ho,hnf⟩:=frF e hm
  rw[he] at ho;injection ho with ho;subst ho;exact hnf vs rfl
 have h1s:1 < vs.size:=by
  unfold kP at ht
  cases T with
  | none=>exact (Array.getElem?_eq_some_iff.mp ht).1
  | some t=>exact (Array.getElem?_eq_some_iff.mp ht.1).1
 have make:∀ (hp:Heap) (head:Value) (hadNext:Bool),hp.FunFrames base (env::outer)->hp.objs.size=s.heap.objs.size->hp.get? e=some ⟨.ref C,od,.fields vs,#[]⟩->
   (∀ b o,(∀ t,T=some t->b≠t)->s.heap.get? b=some o->hp.get? b=some o)->(∀ t o,T=some t->s.heap.get? t=some o->∃ o',hp.get? t=some o'/\t∉(env::outer).filterMap (·.frame)/\t≠e)->
   wpAny M A (do let a <-frameOf env;let pl <-entryPlaceOf L hadNext;let b <-EntryCells.newEntry head a .none (rawInt L) .none pl;setField (.ref e) 1 b) Q E {s with heap:=hp}:=by
  intro hp head hadNext hlp hsz hep kp tp
  refine wpAny_bind (wpAny_frameOf_fun (s:={s with heap:=hp}) hfr hlp hf fun h₁ hs₁=>?_)
  refine wpAny_bind (wpAny_entryPlaceOf fun pl hpl=>?_)
  unfold EntryCells.newEntry newFields
  refine wpAny_bind (wpAny_newObj_type ?_ (hpl.sizeOk5 _ _ _ _ _))
  have he₁:h₁.get? e=some ⟨.ref C,od,.fields vs,#[]⟩:=(hs₁.2.1 e hene).trans hep
  have he₂:=Heap.get?_push_of_some (h:=h₁) {cls:=.type "traceback",dict:=none,data:=.fields ([head,.ref L,.none,rawInt L,.none]++(if pl.isEmpty then List.replicate 6 Value.none else pl)).toArray} he₁
  refine wpAny_setField he₂ rfl h1s ?_
  have hTe:h₁.objs.size≠e:=Nat.ne_of_gt (Heap.lt_size he₁)
  have he₃:=Heap.get?_update_self (Obj.mapFields (·.setIfInBounds 1 (Value.ref h₁.objs.size))) he₂ rfl
  have hT₃:=(Heap.get?_update_other (h₁.push {cls:=.type "traceback",dict:=none,data:=.fields ([head,.ref L,.none,rawInt L,.none]++(if pl.isEmpty then List.replicate 6 Value.none else pl)).toArray})
   (Obj.mapFields (·.setIfInBounds 1 (Value.ref h₁.objs.size))) (Ne.symm hTe)).trans (Heap.get?_push_size h₁ rfl)
  have keep:∀ b o,b≠e->h₁.get? b=some o->
    ((h₁.push {cls:=.type "traceback",dict:=none,data:=.fields ([head,.ref L,.none,rawInt L,.none]++(if pl.isEmpty then List.replicate 6 Value.none else pl)).toArray}).update e (Obj.mapFields (·.setIfInBounds 1 (Value.ref h₁.objs.size)))).get? b=some o:=
   fun b o hbe hb=>by
    rw[Heap.get?_update_other _ _ (Ne.symm hbe)]
    exact Heap.get?_push_of_some _ hb
  refine h _ (some h₁.objs.size) (by simp) ⟨fun b o hb hbe hbt q=>?_,fun b o hb q=>?_,⟨vs.setIfInBounds 1 (.ref h₁.objs.size),?_,?_⟩,.inl ⟨_,rfl,by rw[hs₁.1,hsz];exact Nat.le_refl _⟩,fun t o e1 e2=>?_⟩
  ·exact keep b o hbe ((hs₁.2.1 b hb).trans (kp b o hbt q))
  ·have hbt:∀ t,T=some t->b≠t:=fun t e1 z=>by
    obtain ⟨o',q',z2,_⟩:=tp t o e1 (z▸q)
    exact z2 (z▸hb)
   obtain ⟨sl,q'⟩:=hs₁.2.2 b o (kp b o hbt q)
   exact ⟨sl,keep b _ (fun z=>hene (z▸hb)) q'⟩
  ·exact he₃
  ·refine ⟨by simp[h1s],hTe,_,_,rawInt L,hT₃,rfl,by first|(simp;done)|(rcases hpl with rfl|⟨_,_,_,_,_,_,_,rfl⟩<;>simp)⟩
  ·obtain ⟨o',q',z2,z3⟩:=tp t o e1 e2
   exact ⟨o',keep t o' z3 ((hs₁.2.1 t z2).trans q')⟩
 unfold noteFrame
 simp only[hf]
 cases T with
 | none=>
  refine wpAny_bind (wpAny_field he rfl ht ?_)
  rw[if_neg (by decide)]
  exact make s.heap .none _ hl rfl he (fun b o _ q=>q) (fun t o e1=>nomatch e1)
 | some t=>
  obtain ⟨ht1,hte,oT,ts,x,hT,hdT,h3⟩:=ht
  have tFL:t∉(env::outer).filterMap (·.frame):=fun hm=>by
   obtain ⟨o,ho,hnf⟩:=frF t hm
   rw[hT] at ho;injection ho with ho;subst ho;exact hnf ts hdT
  refine wpAny_bind (wpAny_field he rfl ht1 ?_)
  rw[if_pos (show (Value.ref t != Value.none)=true from by simp)]
  refine wpAny_bind (wpAny_field hT hdT h3 ?_)
  by_cases hx:(x == rawInt L)=true
  ·rw[if_pos hx]
   refine wpAny_pure (h s.heap (some t) (by simp) ⟨fun b o _ _ _ q=>q,fun b o _ q=>⟨o.slots,q⟩,⟨vs,he,ht1,hte,oT,ts,x,hT,hdT,h3⟩,.inr ⟨rfl,by simp⟩,fun t' o e1 q=>⟨o,q⟩⟩)
  ·rw[if_neg hx]
   refine wpAny_bind (wpAny_setField hT hdT (Array.getElem?_eq_some_iff.mp h3).1 ?_)
   have other:∀ b,b≠t->(s.heap.update t (Obj.mapFields (·.setIfInBounds 3 Value.none))).get? b=s.heap.get? b:=fun b hb=>Heap.get?_update_other _ _ (Ne.symm hb)
   have hT':=Heap.get?_update_self (Obj.mapFields (·.setIfInBounds 3 Value.none)) hT (Obj.isFreed_of_fields (Obj.data_mapFields hdT _))
   refine make (s.heap.update t (Obj.mapFields (·.setIfInBounds 3 Value.none))) _ _ (hl.of_keeps fun b o hb hnf=>⟨o,(other b fun q=>?_).trans hb,rfl⟩) (Heap.SameBut.update ..).1 ((other e (Ne.symm hte)).trans he) (fun b o hb q=>(other b (hb t rfl)).trans q) (fun t' o e1 q=>?_)
   ·rw[q,hT] at hb;injection hb with hb;subst hb;exact hnf ts hdT
   ·cases e1
    exact ⟨_,hT',tFL,hte⟩
theorem rD{e C t:Addr}{od:Option Addr}{vs:Array Value}{fr:Option Addr}{Q:Unit->Shared->Prop}(he:s.heap.get? e=some ⟨.ref C,od,.fields vs,#[]⟩)(ht:kP s.heap vs e (some t))
  (h:∀ h',Heap.SameBut t s.heap h'->kP h' vs e (some t)->Q () {s with heap:=h'}):wpAny M A (setFlight (.ref e) fr) Q E s:=by
 obtain ⟨ht1,hte,oT,ts,x,hT,hdT,h3⟩:=ht
 unfold setFlight
 refine wpAny_bind (wpAny_field he rfl ht1 ?_)
 rw[if_pos (show (Value.ref t != Value.none)=true from by simp)]
 have hsz:=(Array.getElem?_eq_some_iff.mp h3).1
 refine wpAny_setField hT hdT hsz (h _ (Heap.SameBut.update ..) ⟨ht1,hte,_,_,_,Heap.get?_update_self _ hT (Obj.isFreed_of_fields (Obj.data_mapFields hdT _)),Obj.data_mapFields hdT _,Array.getElem?_setIfInBounds_self_of_lt hsz⟩)
end
end SX
namespace L2
open PySem PySem.Spec PyProof.Rows
def ExN(e C:Addr)(od:Option Addr):HO:=.ext fun h=>∃ vs,h.get? e=some ⟨.ref C,od,.fields vs,#[]⟩/\vs[1]? = some .none
def ExO(e C:Addr)(od:Option Addr):HO:=.ext fun h=>∃ vs,h.get? e=some ⟨.ref C,od,.fields vs,#[]⟩
section
variable{P:Program}{w:World}{H:Hp}{h:Heap}{e C:Addr}{od:Option Addr}
theorem y7{vs:Array Value}(a:h.get? e=some ⟨.ref C,od,.fields vs,#[]⟩):bZ P w H h e (ExO e C od):=
 ⟨⟨vs,a⟩,⟨_,a⟩,fun h1 h2 ⟨vs,a⟩ k=>⟨vs,k _ a⟩⟩
theorem sP(ok:HOk P w H h)(q:H e=some (ExO e C od)):∃ vs,h.get? e=some ⟨.ref C,od,.fields vs,#[]⟩:=(ok e _ q).1
end
structure FlyAt(X:Cx)(H:Hp)(h:Heap)(e C:Addr)(od:Option Addr)(traced:Bool):Prop where
 tr:H e=some (ExO e C od)
 tb:∃ vs T,h.get? e=some ⟨.ref C,od,.fields vs,#[]⟩/\SX.kP h vs e T/\(∀ t,T=some t->H t=none/\X.s₀.heap.objs.size<=t/\∀ p∈X.pn,p.1≠t)/\(traced=true->T≠none)
def Fly(X:Cx)(E:XK)(ev:Value)(s':Shared):Prop:=∃ e C od σ H',ev=.ref e/\Inv X [] σ H' s'/\FlyAt X H' s'.heap e C od false/\E (.ref C) (some e) H'
abbrev Cx.fly(X:Cx)(E:XK):Cx:=X.wish (Fly X E)
def rE(X:Cx):Prop:=X.stack=X.env::X.outer/\X.env.frame=some X.env.locals
section
variable{X:Cx}{σ:St}{H:Hp}{s:Shared}{e C:Addr}{od:Option Addr}{b:Bool}
theorem nX(I:Inv X [] σ H s){t:Addr}{oT:Obj}{ts:Array Value}(hT:s.heap.get? t=some oT)(hd:oT.data=.fields ts):t≠X.env.locals/\(∀ x c,X.env.cells.lookup x=some c->c≠t):=by
 refine ⟨fun z=>?_,fun x c q z=>?_⟩
 ·obtain ⟨m,⟨o,es,ep,ho,hd',_⟩,_⟩:=I.loc
  rw[<-z,hT] at ho;cases ho;rw[hd] at hd';cases hd'
 ·obtain ⟨v,o,ho,hd'⟩:=I.cell x c q
  rw[z,hT] at ho;cases ho;rw[hd] at hd';cases hd'
theorem nY{Q:Unit->Shared->Prop}{E':Value->Shared->Prop}(hO:rE X)(I:Inv X [] σ H s)(f:FlyAt X H s.heap e C od b)(h:∀ s',Inv X [] σ H s'->FlyAt X H s'.heap e C od true->Q () s') :
  wpAny (model X.prog X.w) X.A (noteFrame (.ref e) X.env) Q E' s:=by
 obtain ⟨hst,hfm⟩:=hO
 obtain ⟨vs,T,he,ht,hT,_⟩:=f.tb
 have hfr:X.A.frames=some (X.env::X.outer):=by rw[<-hst];exact I.ok.frames
 have hl:s.heap.FunFrames X.base (X.env::X.outer):=by have:=I.stack;rw[hst] at this;exact this
 have hFL:(X.env::X.outer).filterMap (·.frame)=X.env.locals::X.fs:=by rw[List.filterMap_cons,hfm];rfl
 refine SX.vB (T:=T) hfr hl hfm he ht fun h' T' hT' N=>?_
 rw[hFL] at N
 have trk:∀ c u,H c=some u->c∉X.env.locals::X.fs:=fun c u q z=>by
  have:=I.stkFree c (by unfold frs;rw[hst,hFL];exact z)
  rw[q] at this;cases this
 have nT:∀ c u,H c=some u->∀ t,T=some t->c≠t:=fun c u q t e1 z=>by
  have:=(hT t e1).1
  rw[<-z,q] at this;cases this
 have hok':HOk X.prog X.w H h':=fun c u q=>by
  by_cases hc:c=e
  ·subst hc
   rw[f.tr] at q;cases q
   obtain ⟨vs',q',_⟩:=N.exc
   exact y7 q'
  ·refine (I.hok c u q).stay (fun c' v hc' q'=>N.keep c' v ?_ ?_ ?_ q') (fun _ q=>q) (fun _ _ q=>q) fun _ _ q=>q
   ·rcases hc' with z|z
    ·rw[z];exact trk c u q
    ·exact trk c' _ z
   ·rcases hc' with z|z
    ·rw[z];exact hc
    ·intro zz;rw[zz,f.tr] at z;cases z
   ·rcases hc' with z|z
    ·rw[z];exact nT c u q
    ·exact nT c' _ z
 have I':Inv X [] σ H {s with heap:=h',gens:=s.gens,drawn:=s.drawn,toks:=s.toks}:=by
  refine I.step (ch:=T.toList) (fun c hc=>?_) (fun c o h1 h2 h3 q n=>?_) (fun c o h1 h2 h3 q n=>N.slot c o (List.mem_cons_of_mem _ h2) q) (fun _ _ _ _ n=>n) (fun c o h3 q=>?_) (fun _ _ q=>q) (fun _ _ _ q=>q) (fun _ _ q=>q) (fun m hm=>?_) hok' I.bare
  ·have e1:T=some c:=by cases T<;>simp at hc;rw[hc]
   obtain ⟨t1,t2,t3⟩:=hT c e1
   rw[e1] at ht
   obtain ⟨_,_,oT,ts,x,hTo,hTd,_⟩:=ht
   obtain ⟨a1,a2⟩:=nX I hTo hTd
   exact ⟨.inr t2,a1,a2,fun p hp=>t3 p (by simpa using hp)⟩
  ·refine N.keep c o ?_ ?_ ?_ q
   ·intro z
    rcases List.mem_cons.mp z with z|z
    ·exact h1 z
    ·exact h2 z
   ·intro z;rw[z,f.tr] at n;cases n
   ·intro t e1 z;exact h3 (by rw[e1,z];simp)
  ·by_cases hc:c=e
   ·subst hc
    obtain ⟨vs',q',_⟩:=N.exc
    exact ⟨_,q'⟩
   ·by_cases hF:c∈X.env.locals::X.fs
    ·obtain ⟨sl,q'⟩:=N.slot c o hF q
     exact ⟨_,q'⟩
    ·exact ⟨o,N.keep c o hF hc (fun t e1 z=>h3 (by rw[e1,z];simp)) q⟩
  ·obtain ⟨o,es,ep,ho,r⟩:=hm
   obtain ⟨sl,q'⟩:=N.slot _ o List.mem_cons_self ho
   exact ⟨_,es,ep,q',r⟩
 refine h _ I' ⟨f.tr,?_⟩
 obtain ⟨vs',q',t'⟩:=N.exc
 refine ⟨vs',T',q',t',fun t e1=>?_,fun _=>hT'⟩
 rcases N.new with ⟨t2,e2,hle⟩|⟨e2,_⟩
 ·rw[e1] at e2;cases e2
  refine ⟨I.hok.fresh hle,Nat.le_trans I.sz hle,fun p hp z=>?_⟩
  have:=Heap.lt_size (I.pin p (List.mem_append_left _ hp)).1
  rw[z] at this
  exact absurd (Nat.lt_of_lt_of_le this hle) (Nat.lt_irrefl _)
 ·exact hT t (e2▸e1)
theorem pX{Q:Unit->Shared->Prop}{E':Value->Shared->Prop}{fr:Option Addr}{A:Around}(I:Inv X [] σ H s)(f:FlyAt X H s.heap e C od true)(h:∀ s',Inv X [] σ H s'->FlyAt X H s'.heap e C od true->Q () s') :
  wpAny (model X.prog X.w) A (setFlight (.ref e) fr) Q E' s:=by
 obtain ⟨vs,T,he,ht,hT,hn⟩:=f.tb
 cases T with
 | none=>exact absurd rfl (hn rfl)
 | some t=>
  obtain ⟨t1,t2,t3⟩:=hT t rfl
  refine SX.rD he ht fun h' sb ht'=>?_
  obtain ⟨_,hte,oT,ts,x,hTo,hTd,_⟩:=ht
  obtain ⟨a1,a2⟩:=nX I hTo hTd
  have I':Inv X [] σ H {s with heap:=h'}:=I.turned (t':=s.toks) (it:=t) (fun b o hb q=>(sb.2 b hb).trans q) t1 a1 (.inr t2) a2 fun p hp=>t3 p (by simpa using hp)
  exact h _ I' ⟨f.tr,vs,some t,(sb.2 e (Ne.symm hte)).trans he,ht',fun t' e1=>by cases e1;exact ⟨t1,t2,t3⟩,fun _=>by simp⟩
theorem sQ{Q:Value->Shared->Prop}{E':Value->Shared->Prop}{A:Around}(f:FlyAt X H s.heap e C od true)(h:∀ t,Q (.ref t) s):wpAny (model X.prog X.w) A (field (.ref e) 1) Q E' s:=by
 obtain ⟨vs,T,he,ht,hT,hn⟩:=f.tb
 cases T with
 | none=>exact absurd rfl (hn rfl)
 | some t=>exact wpAny_field he rfl ht.1 (h t)
theorem fO{E:XK}(hO:rE X):PassesOwn (model X.prog X.w) X.A X.env (Fly X E):=by
 rintro ev s' ⟨e,C,od,σ,H,rfl,I,f,q⟩
 refine nY hO I f fun s2 I2 f2=>?_
 unfold cameBackBy
 refine wpAny_bind (sQ f2 fun t=>?_)
 rw[if_neg (by simp)]
 exact pX I2 f2 fun s3 I3 f3=>⟨e,C,od,σ,H,rfl,I3,⟨f3.tr,let ⟨vs,T,a,b,c,_⟩:=f3.tb;⟨vs,T,a,b,c,fun z=>nomatch z⟩⟩,q⟩
end
def CXe(P:Program)(w:World):CXT:=fun outer H s E ev s'=>∃ e C od H',ev=.ref e/\s'.os=s.os/\AllBare s'.gens/\Un (frs outer) [] H H' s.heap s'.heap/\HOk P w H' s'.heap/\H' e=some (ExO e C od) /\
 (∃ vs T,s'.heap.get? e=some ⟨.ref C,od,.fields vs,#[]⟩/\SX.kP s'.heap vs e T/\∀ t,T=some t->H' t=none/\s.heap.objs.size<=t)/\E (.ref C) (some e) H'
section
variable{X:Cx}
theorem bK{E E':XK}(hE:∀ c e H,E c e H->E' c e H):jD (CXe X.prog X.w) (X.fly E') E:=by
 rintro pins σ H s ev s' I ⟨e,C,od,H',rfl,os,bare,un,hok,he,⟨vs,T,q1,q2,q3⟩,q⟩
 have I0:Inv X pins σ H s:=I.unwish
 have I1:Inv X [] σ H s:=I0.pins_of fun p hp=>absurd hp (by simp)
 have I2:Inv X [] σ H' s':=I1.call' os un hok bare (fun b hb=>absurd hb (by simp))
 refine ⟨e,C,od,σ,H',rfl,I2,⟨he,vs,T,q1,q2,fun t e1=>?_,fun z=>nomatch z⟩,hE _ _ _ q⟩
 obtain ⟨t1,t2⟩:=q3 t e1
 refine ⟨t1,Nat.le_trans I0.sz t2,fun p hp z=>?_⟩
 have:=Heap.lt_size (I0.pin p (List.mem_append_left _ hp)).1
 rw[z] at this
 exact absurd (Nat.lt_of_lt_of_le this t2) (Nat.lt_irrefl _)
theorem PSs.unfly{E:XK}{st:List Stmt}{t:TS}(h:PSs (X.fly E) st t)(hx:∀ e s',Fly X E e s'->X.xe e s'):PSs X st t:=fun pins s σ H D I hw=>
 wpAny_mono (h pins s σ H D (I.wish _) hw) (fun f s' q=>SP.unwish q) hx
end
theorem sR{P:Program}{w:World}{K:Frag}{mg:Str->Option Value}{base:Heap}{N:List Str}{qual:Str}{scope:Scope}{f:Addr}{cd:Value}{A:Around}{outer:List Env}{s:Shared}{H:Hp}{E:XK}{ev:Value}{s':Shared}
  (h:Fly (fE (CXe P w) P w K mg base N qual scope f cd A outer s H E) E ev s'):(fE (CXe P w) P w K mg base N qual scope f cd A outer s H E).xe ev s':=by
 obtain ⟨e,C,od,σ,H',rfl,I,fl,q⟩:=h
 show wpAny (model P w) _ (leaving _ (.ref e)) _ _ s'
 unfold leaving
 have hO:rE (fE (CXe P w) P w K mg base N qual scope f cd A outer s H E):=⟨rfl,rfl⟩
 refine wpAny_bind (nY hO I fl fun s2 I2 f2=>pX I2 f2 fun s3 I3 f3=>?_)
 obtain ⟨vs,T,a,b,c,_⟩:=f3.tb
 exact ⟨e,C,od,H',rfl,I3.os,I3.bare,I3.base,I3.hok,f3.tr,⟨vs,T,a,b,fun t e1=>⟨(c t e1).1,(c t e1).2.1⟩⟩,q⟩
section
variable{P:Program}{w:World}{K:Frag}{mg:Str->Option Value}{base:Heap}
theorem Fun.okX{x qual:Str}{st:Stmt}{f:Addr}{fd:FuncData}{N ps:List Str}{k:Nat}{sp:Sp}(F:Fun K x qual st f fd)(S:FnScope N ps (aH st))(len:∀ vs H Q E,sp vs H Q E->vs.length=ps.length)
  (hbody:∀ (cdv:Value) (A:Around) (outer:List Env) (s:Shared) (H:Hp) (vs:List V) (Q:VK) (E:XK),Room k (A.deeper (envOfC qual (aH st) s.heap.objs.size f cdv))->sp vs H Q E->
   ∃ t,PSs ((fE (CXe P w) P w K mg base N qual (aH st) f cdv A outer s H E).fly E) (cA st) t/\t {nx:=fun _ H'=>Q .non H',rt:=Q} (fD N vs) H):FnOk P w K mg base (CXe P w) (k+1) f fd ps sp:=by
 obtain ⟨oc,od,kV,doc,pm,an,cdv,ct,osl,rfl,lk,hcd⟩:=F.ex
 refine wG lk hcd S len fun A outer s H vs Q E hr hsp=>?_
 obtain ⟨t,h,q⟩:=hbody cdv A outer s H vs Q E hr hsp
 exact ⟨t,h.unfly fun _ _ z=>sR z,q⟩
end
end L2
namespace L2
open PySem PySem.Spec PyProof.Rows
inductive TyX(K:Frag)(H:Hp):V->Value->Prop where
 | pl {x:V} {t:Value} (h:TyOf K H x t):TyX K H x t
 | exc {a W C:Addr} {d:Addr} {fs:List (Str×V)} (c:SX.ExcC K W C) (e:H a=some (ExO a C (some d))) (ed:H d=some (.xd fs)):TyX K H (.ref a) (.ref C)
 | exc0 {a W C:Addr} (c:SX.ExcC K W C) (e:H a=some (ExO a C none)):TyX K H (.ref a) (.ref C)
def rF:V->Option Value
 | .ty n=>some (.type n)
 | .ref a=>some (.ref a)
 | _=>none
theorem l8{x:V}{u v:Value}(h:rF x=some v)(r:a9 x u):u=v:=by
 cases x with
 | ty n=>cases h;exact r
 | ref a=>cases h;exact r
 | _=>cases h
theorem f8{X:Cx}:dO X (.builtin "isinstance") (fun xs H Q=>∃ x c t cv b,xs=[x,c]/\TyX X.K H x t/\rF c=some cv/\PySem.W.kitOne X.K t cv=some b/\Q (.bl b) H):=by
 intro pins s σ H xs us Q I r h
 obtain ⟨x,c,t,cv,b,rfl,ty,hc,e,q⟩:=h
 obtain ⟨u,v,rfl,ru,rv⟩:=k6 r
 obtain rfl:=l8 hc rv
 cases ty with
 | pl ty=>exact sJ I ru ty e fun tk=>⟨.bl b,H,I.tok _,rfl,q⟩
 | @exc a W C d fs cc ea ed=>
  cases (show u=Value.ref a from ru)
  obtain ⟨vs,hx⟩:=sP I.hok ea
  obtain ⟨mA,hns,r⟩:=(show bZ X.prog X.w H s.heap d (.xd fs) from I.hok d _ ed)
  obtain ⟨od,hod,_⟩:=mS hns
  exact SX.lC (o:=some od) I.kIn cc ⟨hx,rfl,rfl,hod⟩ e fun tk=>⟨.bl b,H,I.tok _,rfl,q⟩
 | @exc0 a W C cc ea=>
  cases (show u=Value.ref a from ru)
  obtain ⟨vs,hx⟩:=sP I.hok ea
  exact SX.lC (o:=none) I.kIn cc ⟨hx,rfl,rfl,True.intro⟩ e fun tk=>⟨.bl b,H,I.tok _,rfl,q⟩
end L2
namespace SX
open PySem PySem.W
structure ExcAny(K:Frag)(C:Addr)(bm:List Value):Prop where
 lk:∃ nm q N bs hd sn sub ab col dd k0 k1 k2 k3 k5 newId,K.lookup C=some (excClassObj nm q C N bs bm hd sn sub ab col dd k0 k1 k2 k3 k5 newId)
 base:bm.contains (.type "BaseException")=true
end SX
namespace L2
open PySem PySem.Spec PyProof.Rows
end L2
namespace L2
open PySem PySem.Spec PyProof.Rows
section
variable{X:Cx}
theorem jF(hc:X.calm=true):dO X (.builtin "all") (fun xs H Q=>∃ (a:Addr) (bs:List Bool),xs=[.ref a]/\SqL X.K H a (bs.map V.bl)/\Q (.bl (bs.all id)) H):=by
 intro pins s σ H xs us Q I r h
 obtain ⟨a,bs,rfl,hq,q⟩:=h
 obtain ⟨u,rfl,ru⟩:=f6 r
 cases (show u=Value.ref a from ru)
 obtain ⟨its,rv,p,hz⟩:=I.list hq
 have hl:its.length=bs.length:=by rw[<-rv.length,List.length_map]
 refine call_all_walk (wpAny_pyIter_list p.isList ?_)
 have ne:a≠s.heap.objs.size:=by
  obtain ⟨o,e,_⟩:=p.isList
  exact Nat.ne_of_lt (Heap.lt_size e)
 refine ⟨_,_,_,_,_,_,fun i=>bs.getD i true,rfl,Walks.list (show X.A.in1.handled=none from I.ok.hd hc) s.heap.objs.size a ne its.toArray,⟨⟨_,Heap.get?_push_size _ rfl,rfl,rfl⟩,p.isList.at fun o e=>Heap.get?_push_of_some _ e⟩,?_,?_⟩
 ·intro i v s' Q' E' hP hQ
  have hP:its.toArray[i]? = some v:=hP
  have hi:its[i]? = some v:=by simpa using hP
  have hlt:i < bs.length:=by rw[<-hl];exact (List.getElem?_eq_some_iff.mp hi).1
  have hb:(bs.map V.bl)[i]? = some (V.bl bs[i]):=by simp[hlt]
  obtain ⟨u',hu,ru'⟩:=rv.get hb
  rw[hi] at hu;cases hu
  cases (show v=Value.bool bs[i] from ru')
  refine wpAny_truthy_bool ?_
  have e:bs.getD i true=bs[i]:=by rw[List.getD_eq_getElem?_getD,List.getElem?_eq_getElem hlt];rfl
  rw[<-e];exact hQ
 ·intro h' tk kp
  have e:(List.range its.toArray.size).all (fun i=>bs.getD i true)=bs.all id:=by
   rw[List.size_toArray,hl,Bool.eq_iff_iff,List.all_eq_true,List.all_eq_true]
   constructor
   ·intro h x hx
    obtain ⟨i,hi,rfl⟩:=List.mem_iff_getElem.mp hx
    have:=h i (List.mem_range.mpr hi)
    rw[List.getD_eq_getElem?_getD,List.getElem?_eq_getElem hi] at this
    exact this
   ·intro h i hi
    have hi:=List.mem_range.mp hi
    rw[List.getD_eq_getElem?_getD,List.getElem?_eq_getElem hi]
    exact h _ (List.getElem_mem hi)
  rw[e]
  refine ⟨.bl _,H,?_,rfl,q⟩
  exact I.kept (t':=tk) fun b o e=>kp b o (fun z=>by
   have:=Heap.lt_size e
   rw[List.mem_singleton.mp z] at this
   exact Nat.lt_irrefl _ this) (Heap.get?_push_of_some _ e)
end
end L2
namespace L2
open PySem PySem.Spec PyProof.Rows
structure Blt(mg:Str->Option Value):Prop where
 b_len:mg "len"=none
 b_isinstance:mg "isinstance"=none
 b_all:mg "all"=none
 b_max:mg "max"=none
 b_min:mg "min"=none
 b_int:mg "int"=none
 b_str:mg "str"=none
 b_bool:mg "bool"=none
 b_tuple:mg "tuple"=none
 b_list:mg "list"=none
 b_range:mg "range"=none
 b_enumerate:mg "enumerate"=none
 b_ValueError:mg "ValueError"=none
structure DefAt(K:Frag)(mg:Str->Option Value)(x:Str)(st:Stmt)(ps:List Str):Prop where
 ex:∃ f fd,Fun K x x st f fd/\f7 K fd ps []/\mg x=some (.ref f)
def Calls(P:Program)(w:World)(K:Frag)(mg:Str->Option Value)(base:Heap)(CX:CXT)(k:Nat)(x:Str)(ps:List Str)(sp:Sp):Prop:=
 ∃ f fd,FnOk P w K mg base CX k f fd ps sp/\f7 K fd ps []/\mg x=some (.ref f)/\PySem.W.keepIn K (.ref f)=true
section
variable{P:Program}{w:World}{K:Frag}{mg:Str->Option Value}{base:Heap}{x:Str}{st:Stmt}{N ps:List Str}{k:Nat}{sp:Sp}
theorem DefAt.ok(D:DefAt K mg x st ps)(S:FnScope N ps (aH st))(len:∀ vs H Q E,sp vs H Q E->vs.length=ps.length)
  (hbody:∀ (f:Addr) (cdv:Value) (A:Around) (outer:List Env) (s:Shared) (H:Hp) (vs:List V) (Q:VK) (E:XK),Room k (A.deeper (envOfC x (aH st) s.heap.objs.size f cdv))->sp vs H Q E->
   ∃ t,PSs (fE CX0 P w K mg base N x (aH st) f cdv A outer s H E).nox (cA st) t/\t {nx:=fun _ H'=>Q .non H',rt:=Q} (fD N vs) H):Calls P w K mg base CX0 (k+1) x ps sp:=by
 obtain ⟨f,fd,F,b,m⟩:=D.ex
 exact ⟨f,fd,F.ok S len (hbody f),b,m,F.kp⟩
theorem DefAt.okX(D:DefAt K mg x st ps)(S:FnScope N ps (aH st))(len:∀ vs H Q E,sp vs H Q E->vs.length=ps.length)
  (hbody:∀ (f:Addr) (cdv:Value) (A:Around) (outer:List Env) (s:Shared) (H:Hp) (vs:List V) (Q:VK) (E:XK),Room k (A.deeper (envOfC x (aH st) s.heap.objs.size f cdv))->sp vs H Q E->
   ∃ t,PSs ((fE (CXe P w) P w K mg base N x (aH st) f cdv A outer s H E).fly E) (cA st) t/\t {nx:=fun _ H'=>Q .non H',rt:=Q} (fD N vs) H):Calls P w K mg base (CXe P w) (k+1) x ps sp:=by
 obtain ⟨f,fd,F,b,m⟩:=D.ex
 exact ⟨f,fd,F.okX S len (hbody f),b,m,F.kp⟩
theorem Calls.imp{CX:CXT}{sp':Sp}(C:Calls P w K mg base CX k x ps sp)(h:∀ vs H Q E,sp' vs H Q E->sp vs H Q E):Calls P w K mg base CX k x ps sp':=by
 obtain ⟨f,fd,F,b,m,kp⟩:=C
 exact ⟨f,fd,F.imp h,b,m,kp⟩
end
section
variable{X:Cx}{CX:CXT}{k:Nat}{x:Str}{ps:List Str}{sp:Sp}{E:XK}{p pos:Pos}{e:Expr}{es:List Expr}{t:TA}
theorem bE(C:Calls X.prog X.w X.K X.mg X.base CX k x ps sp)(hr:Room k X.A)(hg:Gl X x)(hx:jD CX X E)(ha:PA X (e::es) t)(hdb:(x == ("__debug__":Str))=false:=by decide)
  (he:starEach (e::es) X.env=(false,eval e X.env)::starEach es X.env:=by rfl) (hpl:(backTo pos (starEach es X.env)).any (·.1)=false:=by rfl):PE X (.Call (.Name x p) (e::es) [] pos) (q0 sp [] E t):=by
 obtain ⟨f,fd,F,b,m,kp⟩:=C
 exact w8 F hr hg m kp b .nil hx ha hdb he hpl
end
def spI(C:Addr)(fs:List Str):Sp:=fun vs H Q _=>∃ e xs,vs=.ref e::xs/\xs.length=fs.length/\H e=some (ExN e C none)/\∀ d,H d=none->d≠e->Q .non (upd (upd H e (ExN e C (some d))) d (.xd (fs.zip xs)))
structure ErrAt(P:Program)(w:World)(K:Frag)(mg:Str->Option Value)(base:Heap)(x:Str)(fs:List Str)(W C:Addr):Prop where
 c:SX.ExcC K W C
 m:mg x=some (.ref C)
 na:∀ f∈fs,PySem.W.findIn K (.ref C) f=some none
 i:∃ fI fdI,FnOk P w K mg base CX0 1 fI fdI ("self"::fs) (spI C fs)/\PySem.W.findIn K (.ref C) "__init__"=some (some (.ref fI))/\PySem.W.typeIn K (.ref fI)=some (.type "function")/\f7 K fdI ("self"::fs) []
theorem DatV.tup_of{K:Frag}{H:Hp}{v:V}{ds:List PyData}(h:DatV K H v (.tuple ds)):∃ a xs,v=.ref a/\SqT K H a xs/\DatVs K H xs ds:=by
 cases h with
 | tup h1 h2=>exact ⟨_,_,rfl,h1,h2⟩
theorem DatV.lst_of{K:Frag}{H:Hp}{v:V}{ds:List PyData}(h:DatV K H v (.list ds)):∃ a xs,v=.ref a/\SqL K H a xs/\DatVs K H xs ds:=by
 cases h with
 | lst h1 h2=>exact ⟨_,_,rfl,h1,h2⟩
theorem DatV.int_of{K:Frag}{H:Hp}{v:V}{i:Int}(h:DatV K H v (.int i)):v=.int i:=by cases h;rfl
theorem DatV.str_of{K:Frag}{H:Hp}{v:V}{i:Str}(h:DatV K H v (.str i)):v=.str i:=by cases h;rfl
theorem DatVs.cons_of{K:Frag}{H:Hp}{xs:List V}{d:PyData}{ds:List PyData}(h:DatVs K H xs (d::ds)):∃ x t,xs=x::t/\DatV K H x d/\DatVs K H t ds:=by
 cases h with
 | cons h1 h2=>exact ⟨_,_,rfl,h1,h2⟩
theorem DatVs.nil_of{K:Frag}{H:Hp}{xs:List V}(h:DatVs K H xs []):xs=[]:=by cases h;rfl
theorem b6.nil:b6 [] []:=⟨rfl,fun _ _ h=>by simp at h⟩
theorem b6.nil_of{σ:St}(h:b6 [] σ):σ=[]:=List.length_eq_zero_iff.mp h.1
def SqS(K:Frag)(H:Hp)(a:Addr)(xs:List V):Prop:=SqL K H a xs\/SqT K H a xs
theorem SqS.same{K:Frag}{H H':Hp}{a:Addr}{xs:List V}(e:aF H H')(h:SqS K H a xs):SqS K H' a xs:=h.imp (SqL.same e) (SqT.same e)
theorem PI.or{X:Cx}{tg iter:Expr}{w1 w2:TI}(h1:PI X tg iter w1)(h2:PI X tg iter w2):PI X tg iter (fun σ H R=>w1 σ H R\/w2 σ H R):=fun pins s σ H R I h=>h.elim (h1 pins s σ H R I) (h2 pins s σ H R I)
def aCE(K:Frag)(tl:TE):TI:=fun σ H R=>tl σ H fun x H1=>∃ a,x=.ref a/\(((∃ xs,SqL K H1 a xs)/\R (Itl K a) H1)\/((∃ xs,SqT K H1 a xs)/\R (Itt K a) H1))
theorem sS{X:Cx}{tg l:Expr}{tl:TE}(hl:PE X l tl):PI X tg l (aCE X.K tl):=by
 intro pins s σ H R I h
 refine thn (hl pins s σ H _ I h) fun v s1 zz0=>?_
 obtain ⟨x,H1,I1,r1,q1⟩:=zz0
 obtain ⟨a,e,q⟩:=q1
 subst e
 cases r1
 rcases q with ⟨⟨xs,hq⟩,q⟩|⟨⟨xs,hq⟩,q⟩
 ·obtain ⟨its,rv,p,hz⟩:=I1.list hq
  refine wpAny_pyIter_list p.isList ?_
  refine ⟨s1.heap.objs.size,[s1.heap.objs.size],_,_,H1,rfl,I1.kept (t':=s1.toks) fun b o e=>Heap.get?_push_of_some _ e,sD a _,⟨_,Heap.get?_push_size _ rfl,rfl,rfl⟩,fun b hb=>?_,q⟩
  obtain rfl:=List.mem_singleton.mp hb
  exact I1.fpOk (Nat.le_refl _) (I1.hok.fresh (Nat.le_refl _))
 ·obtain ⟨its,rv,p,hz⟩:=I1.tuple hq
  refine wpAny_pyIter_tuple (show s1.heap.IsTuple a its.toArray from p) ?_
  refine ⟨s1.heap.objs.size,[s1.heap.objs.size],_,_,H1,rfl,I1.kept (t':=s1.toks) fun b o e=>Heap.get?_push_of_some _ e,qW a _,⟨_,Heap.get?_push_size _ rfl,rfl,rfl⟩,fun b hb=>?_,q⟩
  obtain rfl:=List.mem_singleton.mp hb
  exact I1.fpOk (Nat.le_refl _) (I1.hok.fresh (Nat.le_refl _))
end L2
namespace L2
open PySem PySem.Spec PyProof.Rows
def aAY(i j:Int):Prop:=0 < j/\j < 2 ^ 64
theorem vC{X:Cx}:OpR X (binaryOp .FloorDiv) (rI aAY fun i j=>.int (i / j)):=opI fun i j _ _ _ _ _ hc q=>by
 have h1:(0:Int) < j:=hc.1
 have h2:j < 2 ^ 64:=hc.2
 have h3:j.natAbs < 2 ^ 64:=by omega
 have h4:j.natAbs.log2 < 64:=(Nat.log2_lt (by omega)).mpr h3
 exact floordiv_int (by omega) (by rw[Int.fdiv_eq_ediv_of_nonneg i (by omega)];exact q) (.inl (PyProof.noPylong_of_log2 (by omega)))
theorem j6{X:Cx}{P:Program}{w:World}:jD (CXe P w) X E0:=by
 rintro pins σ H s ev s' I ⟨e,C,od,H',rfl,os,bare,un,hok,he,hv,q⟩
 exact q.elim
section
variable{X:Cx}
def aCF:V->Option Int->Option Int->Hp->VK->Prop:=fun x lo hi H Q=>∃ z,x=.str z/\z.length<=sizeLine/\Q (.str (Txt.slice z lo hi)) H
theorem pY{v:Value}{o:Option Int}(h:IsPart v o):∃ l:Option (Int×Tok),partValue l=v/\l.map (·.1)=o:=by
 cases h with
 | none=>exact ⟨none,rfl,rfl⟩
 | int i t=>exact ⟨some (i,t),rfl,rfl⟩
theorem y8:SlR X aCF:=by
 intro pins s σ H x v vl vu lo hi sl Q I rx hs pl pu h
 obtain ⟨z,rfl,hz,q⟩:=h
 obtain ⟨t,rfl⟩:=rx
 obtain ⟨l,rfl,el⟩:=pY pl
 obtain ⟨u,rfl,eu⟩:=pY pu
 obtain ⟨o,ho,hc,hd⟩:=hs
 refine ⟨"str",_,PyProof.Rows.slot_str_getitem.lookup,rfl,?_⟩
 refine wpAny_getItem_str_slice (l:=l) (u:=u) (st:=none) ⟨o,ho,hc,hd⟩ rfl ?_
 have le:=Txt.slice_le z lo hi
 unfold Txt.slice at q le
 unfold sliceMade slicePicked
 rw[el,eu]
 simp only[beq_self_eq_true,Bool.true_and,Option.map_none,Option.getD_none] at q le ⊢
 by_cases hb:((Builtin.Str.strSliceIndices lo hi 1 z.length).length == z.length)=true
 ·rw[if_pos hb] at q ⊢
  exact ⟨.str z,H,I,⟨t,rfl⟩,q⟩
 ·rw[if_neg hb] at q le ⊢
  exact ⟨Nat.le_trans le hz,.str _,H,I.tok _,⟨_,rfl⟩,q⟩
end
theorem nZ{X:Cx}:dO X (.builtin "isinstance") (fun xs H Q=>∃ a ys c cv b,xs=[.ref a,c]/\SqT X.K H a ys/\rF c=some cv/\PySem.W.kitOne X.K (.type "tuple") cv=some b/\Q (.bl b) H):=by
 intro pins s σ H xs us Q I r h
 obtain ⟨a,ys,c,cv,b,rfl,ha,hc,e,q⟩:=h
 obtain ⟨u,v,rfl,ru,rv⟩:=k6 r
 obtain rfl:=l8 hc rv
 cases (show u=Value.ref a from ru)
 obtain ⟨its,_,⟨o,h1,h2,_⟩,_⟩:=I.tuple ha
 exact PySem.W.kia_one PySem.W.kitx_tuple I.kIn ⟨o,h1,h2⟩ e (fun z=>nomatch z) fun tk=>⟨.bl b,H,I.tok _,rfl,q⟩
structure RoomH(k:Nat)(A:Around):Prop where
 dp:A.depth+3 * k+5 < recursionLimit
 un:A.units+16 * k+200 < cLine
theorem Room.h{k:Nat}{A:Around}(r:Room k A):RoomH k A:=⟨r.dp,r.un⟩
theorem RoomH.depth{k:Nat}{A:Around}(r:RoomH k A):A.depth < recursionLimit:=by have:=r.dp;omega
structure FnOkH(P:Program)(w:World)(K:Frag)(mg:Str->Option Value)(base:Heap)(k:Nat)(f:Addr)(fd:FuncData)(ps:List Str)(sp:Sp):Prop where
 len:∀ vs H Q E,sp vs H Q E->vs.length=ps.length
 run:∀ (A:Around) (outer:List Env) (s:Shared) (H:Hp) (args:Args) (us:List Value) (vs:List V) (Q:VK),RoomH k A->Env0 P w K mg base A outer s H->BindsTo s fd args (ps.zip us)->aW vs us->sp vs H Q E0->
  codeAny (model P w) A (.call (.ref f) args) (CR CX0 outer P w H s Q E0) s
theorem FnOkH.ok{P:Program}{w:World}{K:Frag}{mg:Str->Option Value}{base:Heap}{k:Nat}{f:Addr}{fd:FuncData}{ps:List Str}{sp:Sp}(F:FnOkH P w K mg base k f fd ps sp)(hE:∀ vs H Q E,sp vs H Q E->sp vs H Q E0):FnOk P w K mg base CX0 k f fd ps sp:=
 ⟨F.len,fun A outer s H args us vs Q E hr he hb hv hs=>codeAny_mono (F.run A outer s H args us vs Q hr.h he hb hv (hE _ _ _ _ hs)) fun r s' h=>by
  cases r with
  | error e=>exact h
  | ok fl=>cases fl<;>exact h⟩
end L2
namespace Mc
open PySem L2 PyProof.Rows
inductive Tn where
 | n (i:Int)|w (x:Str)
noncomputable def Tn.v:Tn->V
 | .n i=>.int i
 | .w x=>.str x
noncomputable def Tn.d:Tn->PyData
 | .n i=>.int i
 | .w x=>.str x
structure Rw where
 l:Tn
 c:List (Int×Int)
 r:Tn
def aX(c:Int×Int):PyData:=.tuple [.int c.1,.int c.2]
def aT(r:Rw):PyData:=.tuple [r.l.d,.tuple (r.c.map aX),r.r.d]
def bX(rs:List Rw):PyData:=.tuple (rs.map aT)
inductive CellsAt(K:Frag)(H:Hp):List V->List (Int×Int)->Prop
 | nil:CellsAt K H [] []
 | cons {q:Addr} {a b:Int} {xs:List V} {cs:List (Int×Int)} (h:SqS K H q [.int a,.int b]) (t:CellsAt K H xs cs):CellsAt K H (.ref q::xs) ((a,b)::cs)
def nF(K:Frag)(H:Hp)(v:V)(r:Rw):Prop:=∃ p b cs,v=.ref p/\SqS K H p [r.l.v,.ref b,r.r.v]/\SqS K H b cs/\CellsAt K H cs r.c
inductive RowsAt(K:Frag)(H:Hp):List V->List Rw->Prop
 | nil:RowsAt K H [] []
 | cons {v:V} {r:Rw} {xs:List V} {rs:List Rw} (h:nF K H v r) (t:RowsAt K H xs rs):RowsAt K H (v::xs) (r::rs)
section
variable{K:Frag}{H H':Hp}
theorem CellsAt.same(e:aF H H'):∀ {xs:List V} {cs:List (Int×Int)},CellsAt K H xs cs->CellsAt K H' xs cs
 | _,_,.nil=>.nil
 | _,_,.cons h t=>.cons (h.same e) (t.same e)
theorem CellsAt.len:∀ {xs:List V} {cs:List (Int×Int)},CellsAt K H xs cs->xs.length=cs.length
 | _,_,.nil=>rfl
 | _,_,.cons h t=>by simp[t.len]
theorem nF.same(e:aF H H'){v:V}{r:Rw}(h:nF K H v r):nF K H' v r:=by
 obtain ⟨p,b,cs,h1,h2,h3,h4⟩:=h
 exact ⟨p,b,cs,h1,h2.same e,h3.same e,h4.same e⟩
theorem RowsAt.same(e:aF H H'):∀ {xs:List V} {rs:List Rw},RowsAt K H xs rs->RowsAt K H' xs rs
 | _,_,.nil=>.nil
 | _,_,.cons h t=>.cons (h.same e) (t.same e)
theorem RowsAt.len:∀ {xs:List V} {rs:List Rw},RowsAt K H xs rs->xs.length=rs.length
 | _,_,.nil=>rfl
 | _,_,.cons h t=>by simp[t.len]
end
def iM(K:Frag)(a:Addr)(xs:List V):Prop:=∃ (o:Obj) (its:Array Value) (n:Nat),K.lookup a=some o/\o.cls=.type "tuple"/\o.data=.seq its n/\its.size<=sizeLine/\aW xs its.toList
theorem iM.sq{K:Frag}{a:Addr}{xs:List V}(h:iM K a xs)(H:Hp):SqT K H a xs:=.inr h
theorem kG:∀ {xs:List PyData},(∀ x∈xs,x.eqv x=true)->PyData.eqvAll xs xs=true
 | [],_=>by rw[PyData.eqvAll.eq_1]
 | x::t,h=>by rw[PyData.eqvAll.eq_2,h x (List.mem_cons_self ..),kG fun y hy=>h y (List.mem_cons_of_mem _ hy)];rfl
theorem j7{xs:List PyData}(h:∀ x∈xs,x.eqv x=true):(PyData.tuple xs).eqv (.tuple xs)=true:=by
 show PyData.eqvAll xs xs=true
 exact kG h
theorem l9(i:Int):(PyData.int i).eqv (.int i)=true:=by rw[PyData.eqv.eq_5];simp
theorem xI(i:Str):(PyData.str i).eqv (.str i)=true:=by rw[PyData.eqv.eq_6];simp
theorem sT(t:Tn):t.d.eqv t.d=true:=by
 cases t with
 | n i=>exact l9 i
 | w x=>exact xI x
theorem vE(c:Int×Int):(aX c).eqv (aX c)=true:=j7 fun x hx=>by
 rcases List.mem_cons.mp hx with z|z
 · rw [z]; exact l9 _
 · rw [List.mem_singleton.mp z]; exact l9 _
theorem xJ(r:Rw):(aT r).eqv (aT r)=true:=j7 fun x hx=>by
 rcases List.mem_cons.mp hx with z|hx
 ·rw[z];exact sT _
 rcases List.mem_cons.mp hx with z|hx
 ·rw[z]
  refine j7 fun y hy=>?_
  obtain ⟨c,_,rfl⟩:=List.mem_map.mp hy
  exact vE c
 ·rw[List.mem_singleton.mp hx];exact sT _
theorem vF(rs:List Rw):(bX rs).eqv (bX rs)=true:=j7 fun x hx=>by
 obtain ⟨r,_,rfl⟩:=List.mem_map.mp hx
 exact xJ r
noncomputable def Tn.ok:Tn->Prop
 | .n _=>True
 | .w x=>PyData.strOk x=true
def Rw.ok(r:Rw):Prop:=r.l.ok/\r.r.ok
theorem pZ:∀ {xs:List PyData},(∀ x∈xs,x.canLay0=true)->PyData.canLayAll0 xs=true
 | [],_=>by rfl
 | x::t,h=>by
  show (x.canLay0 && PyData.canLayAll0 t)=true
  rw[h x (List.mem_cons_self ..),pZ fun y hy=>h y (List.mem_cons_of_mem _ hy)];rfl
theorem mY{n:Nat}:∀ {xs:List PyData},(∀ x∈xs,x.depth<=n)->PyData.depthAll xs<=n
 | [],_=>Nat.zero_le _
 | x::t,h=>by
  show max x.depth (PyData.depthAll t)<=n
  exact Nat.max_le.mpr ⟨h x (List.mem_cons_self ..),mY fun y hy=>h y (List.mem_cons_of_mem _ hy)⟩
def Sh(n:Nat)(d:PyData):Prop:=d.canLay0=true/\d.depth<=n
theorem lD{n:Nat}{xs:List PyData}(h:∀ x∈xs,Sh n x):Sh (n+1) (.tuple xs):=⟨pZ fun x hx=>(h x hx).1,by
 have:=mY fun x hx=>(h x hx).2
 show PyData.depthAll xs+1<=n+1
 omega⟩
theorem n3(n:Nat)(i:Int):Sh n (.int i):=⟨rfl,Nat.zero_le _⟩
theorem sU(n:Nat){x:Str}(h:PyData.strOk x=true):Sh n (.str x):=⟨h,Nat.zero_le _⟩
theorem wI(n:Nat){t:Tn}(h:t.ok):Sh n t.d:=by
 cases t with
 | n i=>exact n3 n i
 | w x=>exact sU n h
theorem Sh.shaped{n:Nat}{d:PyData}(h:Sh n d)(hn:n<=64):SeqAt.shaped d=true:=by
 show (d.canLay0 && decide (d.depth<=64))=true
 rw[h.1,decide_eq_true (Nat.le_trans h.2 hn)];rfl
theorem pK{rs:List Rw}(h:∀ r∈rs,r.ok):SeqAt.shaped (bX rs)=true:=by
 refine Sh.shaped (n:=4) (lD fun x hx=>?_) (by decide)
 obtain ⟨r,hr,rfl⟩:=List.mem_map.mp hx
 refine lD fun x hx=>?_
 rcases List.mem_cons.mp hx with z|hx
 ·rw[z];exact wI _ (h r hr).1
 rcases List.mem_cons.mp hx with z|hx
 ·rw[z]
  refine lD fun x hx=>?_
  obtain ⟨c,_,rfl⟩:=List.mem_map.mp hx
  refine lD fun x hx=>?_
  rcases List.mem_cons.mp hx with z|z
  · rw [z]; exact n3 _ _
  · rw [List.mem_singleton.mp z]; exact n3 _ _
 ·rw[List.mem_singleton.mp hx];exact wI _ (h r hr).2
section
variable{K:Frag}{H:Hp}{p q:Addr}{xs ys:List V}{o:HO}
inductive NoL:PyData->Prop where
 | int (i:Int):NoL (.int i)
 | str (i:Str):NoL (.str i)
 | tup {ds:List PyData} (h:∀ d∈ds,NoL d):NoL (.tuple ds)
end
section
variable{K:Frag}{h:Heap}{mg:Str->Option Value}
theorem bA{x:Str}{st:Stmt}{ps:List Str}{f:Addr}{oc:Value}{od an:Option Addr}{osl:Array (Option Value)}{kV doc pm cdv ct:Value}(X:K.In h)(G:h.Ns mainGlobals mg)
  (a:PySem.W.nsIn K mainGlobals x=some (some (.ref f))) (l:K.lookup f=some ⟨oc,od,.func (PySem.W.fnOf x x (dY st) (cA st) (aH st) .none kV doc pm an cdv ct),osl⟩)
  (c:PySem.W.codeIn K cdv x=true) (k:PySem.W.keepIn K (.ref f)=true)
  (b:∀ (kV doc pm:Value) (an:Option Addr) (cdv ct:Value) (us:List Value),us.length=ps.length->bindArgs (PySem.W.fnOf x x (dY st) (cA st) (aH st) .none kV doc pm an cdv ct) ⟨us,[]⟩=pure (ps.zip us)):DefAt K mg x st ps:=by
 have F:=sN (st:=st) l c k
 exact ⟨f,_,F,F.binds b,PySem.W.mg_of X G a⟩
theorem y9{a:Addr}{x y:Str}{t1 t2 n:Nat}{od:Option Addr}{sl:Array (Option Value)}(l:K.lookup a=some ⟨.type "tuple",od,.seq #[.str x t1,.str y t2] n,sl⟩):iM K a [.str x,.str y]:=
 ⟨_,_,_,l,rfl,rfl,by show 2<=sizeLine;decide,.cons ⟨_,rfl⟩ (.cons ⟨_,rfl⟩ .nil)⟩
theorem zA{a:Addr}{x y:Int}{t1 t2 n:Nat}{od:Option Addr}{sl:Array (Option Value)}(l:K.lookup a=some ⟨.type "tuple",od,.seq #[.int x t1,.int y t2] n,sl⟩):iM K a [.int x,.int y]:=
 ⟨_,_,_,l,rfl,rfl,by show 2<=sizeLine;decide,.cons ⟨_,rfl⟩ (.cons ⟨_,rfl⟩ .nil)⟩
end
end Mc
namespace Mc
open PySem L2 PyProof.Rows
end Mc
namespace L2
open PySem PySem.Spec PyProof.Rows
section
variable{κ:Type}[DecidableEq κ]
theorem hW.getD{o:Option V}{u:Option Value}{d:V}{d':Value}(r:hW o u)(rd:a9 d d'):a9 (o.getD d) (u.getD d'):=by
 cases o with
 | none=>cases u with
  | none=>exact rd
  | some _=>exact (show False from r).elim
 | some _=>cases u with
  | none=>exact (show False from r).elim
  | some _=>exact r
theorem KV.length{kvs:List (κ×V)}{vs:List (κ×Value)}(r:KV kvs vs):kvs.length=vs.length:=Paired.length r
end
theorem rG{P:Program}{w:World}{k:Key}{u:Value}(r:a9 (kV k) u):(cX P w).is k u=true:=by
 cases k with
 | inl i=>obtain ⟨t,e⟩:=(show ∃ t,u=Value.int i t from r);subst e;exact pI P w i t
 | inr x=>obtain ⟨t,e⟩:=(show ∃ t,u=Value.str x t from r);subst e;exact pJ P w x t
section
variable{X:Cx}{pins:List (Addr×Obj)}{σ:St}{H:Hp}{s:Shared}{a:Addr}{y v:V}{u r:Value}{o:Option V}{A:Around}{E:Value->Shared->Prop}
end
def zB(i:Expr):Prop:=∀ ov iv,subscripted i false ov iv=operate [ov,iv] (getItem ov iv)
theorem xK{prog:Program}{w:World}{A:Around}{E:Value->Shared->Prop}{s:Shared}{env:Env}{value slice:Expr}{pos:Pos}{T id:String}{Q:Value->Shared->Prop}
  (hl:typeLookup (.type T) "__getitem__"=pure (some (.builtin id))) (hs:zB slice)
  (h:wpAny (model prog w) A (eval value env) (fun o s₁=>wpAny (model prog w) A (eval slice env) (fun i s₂=>s₂.TypeIs o T/\wpAny (model prog w) A (getItem o i) Q E s₂) E s₁) E s) :
  wpAny (model prog w) A (eval (.Subscript value slice pos) env) Q E s:=by
 refine Subscript_ (wpAny_mono h (fun o s₁ h₁=>wpAny_mono h₁ (fun i s₂ h₂=>?_) fun _ _ x=>x) fun _ _ x=>x)
 obtain ⟨hT,h₂⟩:=h₂
 unfold subscriptTail
 refine wpAny_bind ?_
 rw[getitemInPython_of_ne hT.not_modules]
 refine wpAny_bind (wpAny_specialOf hT hl ?_)
 have fin:wpAny (model prog w) A (subscripted slice false o i) (fun r s₃=>wpAny (model prog w) A (letTemporaryGo value o r >>= fun _=>pure r) Q E s₃) E s₂:=by
  rw[hs o i]
  exact wpAny_operating (wpAny_mono h₂ (fun r s₃ h₃=>wpAny_bind (wpAny_letTemporaryGo (wpAny_pure h₃))) fun _ _ x=>x)
 first
  | exact wpAny_pure (wpAny_bind fin)
  | exact wpAny_bind (wpAny_pure (wpAny_bind fin))
  | exact wpAny_bind fin
structure M1(X:Cx)(o:Expr)(m:Str)(apos:Pos)(e:Expr)(cpos:Pos):Prop where
 base:attributeBase o m X.env (eval o X.env)=eval o X.env
 few:((backTo cpos (starEach [e] X.env)).all (fun x=>!x.1) && (backToKw cpos (keywordEach [] X.env)).all (fun x=>x.1.isSome)
  && decide (([e]:List Expr).length+([]:List Keyword).length+(if ([]:List Keyword).isEmpty then 0 else 1) < 30))=true
 line:(apos.endLine == cpos.line)=true
 trees:backTo cpos (starEach [e] X.env)=[(false,eval e X.env)]
structure M2(X:Cx)(o:Expr)(m:Str)(apos:Pos)(e f:Expr)(cpos:Pos):Prop where
 base:attributeBase o m X.env (eval o X.env)=eval o X.env
 few:((backTo cpos (starEach [e,f] X.env)).all (fun x=>!x.1) && (backToKw cpos (keywordEach [] X.env)).all (fun x=>x.1.isSome)
  && decide (([e,f]:List Expr).length+([]:List Keyword).length+(if ([]:List Keyword).isEmpty then 0 else 1) < 30))=true
 line:(apos.endLine == cpos.line)=true
 trees:backTo cpos (starEach [e,f] X.env)=[(false,eval e X.env),(false,eval f X.env)]
end L2
namespace L2
open PySem PySem.Spec PyProof.Rows
end L2
namespace L2
open PySem PySem.Spec PyProof.Rows
def iC(K:Frag)(H:Hp)(ks:List (List Key×Addr)):Prop:=∀ p∈ks,SqT K H p.2 (p.1.map kV)
theorem iC.same{K:Frag}{H H':Hp}{ks:List (List Key×Addr)}(e:aF H H')(h:iC K H ks):iC K H' ks:=fun p hp=>SqT.same e (h p hp)
theorem SqT.ext{K:Frag}{H:Hp}{a q:Addr}{φ:Heap->Prop}{o:HO}{xs:List V}(h:SqT K H q xs)(ha:H a=some (.ext φ)):SqT K (upd H a o) q xs:=by
 rcases h with (h|⟨u,h⟩)|h
 ·refine .inl (.inl ?_)
  rw[aU (fun z=>by rw[z,ha] at h;cases h)];exact h
 ·refine .inl (.inr ⟨u,?_⟩)
  rw[aU (fun z=>by rw[z,ha] at h;cases h)];exact h
 ·exact .inr h
theorem SqL.ext{K:Frag}{H:Hp}{a q:Addr}{φ:Heap->Prop}{o:HO}{xs:List V}(h:SqL K H q xs)(ha:H a=some (.ext φ)):SqL K (upd H a o) q xs:=by
 rcases h with (h|⟨u,h⟩)|h
 ·refine .inl (.inl ?_)
  rw[aU (fun z=>by rw[z,ha] at h;cases h)];exact h
 ·refine .inl (.inr ⟨u,?_⟩)
  rw[aU (fun z=>by rw[z,ha] at h;cases h)];exact h
 ·exact .inr h
mutual
theorem DatV.ext{K:Frag}{H:Hp}{a:Addr}{φ:Heap->Prop}{o:HO}(ha:H a=some (.ext φ)):∀ {x:V} {d:PyData},DatV K H x d->DatV K (upd H a o) x d
 | _,_,.non=>.non
 | _,_,.bl b=>.bl b
 | _,_,.int i=>.int i
 | _,_,.str x=>.str x
 | _,_,.lst h ds=>.lst (h.ext ha) (DatVs.ext ha ds)
 | _,_,.tup h ds=>.tup (h.ext ha) (DatVs.ext ha ds)
theorem DatVs.ext{K:Frag}{H:Hp}{a:Addr}{φ:Heap->Prop}{o:HO}(ha:H a=some (.ext φ)):∀ {xs:List V} {ds:List PyData},DatVs K H xs ds->DatVs K (upd H a o) xs ds
 | _,_,.nil=>.nil
 | _,_,.cons h t=>.cons (DatV.ext ha h) (DatVs.ext ha t)
end
theorem iC.ext{K:Frag}{H:Hp}{a:Addr}{φ:Heap->Prop}{o:HO}{ks:List (List Key×Addr)}(h:iC K H ks)(ha:H a=some (.ext φ)):iC K (upd H a o) ks:=fun p hp=>SqT.ext (h p hp) ha
end L2
namespace Mc
open PySem L2 PyProof.Rows
def Tn.good(n:Int):Tn->Prop
 | .n i=>0<=i/\i < n
 | .w x=>x="by"\/x="out"
def eK(n:Int)(c:Int×Int):Prop:=0<=c.1/\c.1 < n/\(c.2=1\/c.2 = -1)
def Rw.good(n:Int)(r:Rw):Prop:=r.l.good n/\r.r.good n/\∀ c∈r.c,eK n c
theorem Tn.good.ok{n:Int}{t:Tn}(h:t.good n):t.ok:=by
 cases t with
 | n i=>trivial
 | w x=>
  rcases h with rfl|rfl
  · exact (show PyData.strOk _ = true by decide +kernel)
  · exact (show PyData.strOk _ = true by decide +kernel)
theorem Rw.good.ok{n:Int}{r:Rw}(h:r.good n):r.ok:=⟨h.1.ok,h.2.1.ok⟩
structure Mach(rs:List Rw)(sg:Nat):Prop where
 len:1<=rs.length
 len2:rs.length<=1000
 sg1:1<=sg
 sg3:sg<=3
 row:∀ r∈rs,r.good rs.length/\r.c.length=sg
noncomputable def nG(rs:List Rw)(q:Int):Rw:=rs.getD q.toNat ⟨.n 0,[],.n 0⟩
noncomputable def jG(rs:List Rw)(z:List Nat)(st:Int×Int):Tn×Int:=
 if st.1=0 then ((nG rs st.2).l,1) else if st.1=(z.length:Int)+1 then ((nG rs st.2).r,-1) else
  (.n ((nG rs st.2).c.getD (z.getD (st.1.toNat - 1) 97 - 97) (0,0)).1,((nG rs st.2).c.getD (z.getD (st.1.toNat - 1) 97 - 97) (0,0)).2)
def rH(rs:List Rw)(z:List Nat)(st:Int×Int):Option (Int×Int):=
 match (jG rs z st).1 with
 | .w _=>none
 | .n q=>some (st.1+(jG rs z st).2,q)
def wJ(rs:List Rw)(z:List Nat)(st:Int×Int):Prop:=0<=st.1/\st.1<=(z.length:Int)+1/\0<=st.2/\st.2 < (rs.length:Int)
noncomputable def rJ(rs:List Rw)(z:List Nat):Nat->List (Int×Int)->Int×Int->List (Int×Int)
 | 0,ps,st=>ps++[st]
 | k+1,ps,st=>if st∈ps then ps++[st] else match rH rs z st with
  | none=>ps++[st]
  | some st'=>rJ rs z k (ps++[st]) st'
def wK(rs:List Rw)(z:List Nat):Nat:=(z.length+2) * rs.length
def aAZ(rs:List Rw)(z:List Nat):List (Int×Int):=rJ rs z (wK rs z) [] (0,0)
structure Way(rs:List Rw)(z:List Nat)(ps:List (Int×Int))(st:Int×Int)(k:Nat):Prop where
 nd:ps.Nodup
 val:∀ s∈ps++[st],wJ rs z s
 num:ps.length+k=wK rs z
 res:rJ rs z k ps st=aAZ rs z
end Mc
namespace L2
open PySem PySem.Spec PyProof.Rows
theorem iD:∀ {ys:List Str} {us:List Value},aW (ys.map V.str) us->StrsAre us ys
 | [],_,.nil=>.nil
 | y::ys,_,.cons r t=>by obtain ⟨t',rfl⟩:=r;exact .cons y t' (iD t)
def wL(K:Frag):V->List V->Hp->VK->Prop:=fun x vs H Q=>∃ (sep:Str) (a:Addr) (ys:List Str),x=.str sep/\vs=[.ref a]/\SqL K H a (ys.map V.str)/\(ys.map fun y=>y.length).sum+ys.length * sep.length<=16777216/\Q (.str (Txt.join sep ys)) H
theorem j8{X:Cx}:MtR X "str.join" (wL X.K):=by
 intro pins s σ H x vs v us Q I rx rv h
 obtain ⟨sep,a,ys,rfl,rfl,ha,hz,q⟩:=h
 obtain ⟨t,rfl⟩:=rx
 obtain ⟨u,rfl,ru⟩:=rv.one
 cases (show u=Value.ref a from ru)
 obtain ⟨its,r,pl,_⟩:=I.list ha
 exact join_list (items:=its.toArray) pl.isList (by simpa using iD r) hz fun t' k=>⟨.str _,H,I.tok _,⟨_,rfl⟩,q⟩
end L2
namespace Mc
open PySem L2 PyProof.Rows
noncomputable def one(c:Nat):Str:=⟨#[c]⟩
end Mc
namespace Mc
open PySem L2 PyProof.Rows
section
variable{S O:Type}
inductive Ex(st:S->Option (S⊕O)):Nat->S->O->Prop
 | out {s:S} {o:O} (h:st s=some (.inr o)):Ex st 0 s o
 | go {s s':S} {o:O} {n:Nat} (h:st s=some (.inl s')) (t:Ex st n s' o):Ex st (n+1) s o
inductive Rc(st:S->Option (S⊕O)):Nat->S->S->Prop
 | nil {s:S}:Rc st 0 s s
 | cons {s s' s'':S} {n:Nat} (h:st s=some (.inl s')) (t:Rc st n s' s''):Rc st (n+1) s s''
variable{st:S->Option (S⊕O)}
theorem Rc.ex{k n:Nat}{s s':S}{o:O}(a:Rc st k s s')(b:Ex st n s o):∃ n',n=n'+k/\Ex st n' s' o:=by
 induction a generalizing n with
 | nil=>exact ⟨n,rfl,b⟩
 | cons h t ih=>
  cases b with
  | out h'=>rw[h] at h';cases h'
  | go h' t'=>
   rw[h] at h';cases h'
   obtain ⟨n',e,q⟩:=ih t'
   exact ⟨n',by omega,q⟩
def Res(st:S->Option (S⊕O))(s:S)(r:Option O):Prop:=∀ o,r=some o↔∃ n,Ex st n s o
open Classical in
noncomputable def wM(st:S->Option (S⊕O))(s:S):Option O:=if h:∃ o n,Ex st n s o then some h.choose else none
structure Und2(st:S->Option (S⊕O))(s0:S)(ps:List S)(s:S):Prop where
 nd:ps.Nodup
 back:∀ p∈ps,∃ m,Rc st (m+1) p s
 res:∀ r,Res st s r->Res st s0 r
end
abbrev Th:=Option (Int×Int)
structure Tb where
 f:List Th
 a:List Th
def sV(m:Nat):Th->Prop
 | none=>True
 | some (d,q)=>(d=1\/d = -1)/\0<=q/\q < (m:Int)
structure Tb.good(m:Nat)(t:Tb):Prop where
 lf:t.f.length=m
 la:t.a.length=m
 gf:∀ x∈t.f,sV m x
 ga:∀ x∈t.a,sV m x
end Mc
namespace Mc
open PySem L2 PyProof.Rows
end Mc
namespace L2
open PySem PySem.Spec PyProof.Rows
def Its(z:Str):It:=⟨fun i _=>i < z.cps.size,fun i H x H'=>H'=H/\∃ c,z.cps[i]? = some c/\x=.str ⟨#[c]⟩,fun i _=>i=z.cps.size⟩
theorem n4{P:Program}{w:World}{K:Frag}{tg:Expr}(z:Str)(t:Tok)(T:String)(hT:∀ A:Around,A.handled=none->∀ it,Walks P w A it [it] [it] z.cps.size (SignAt z) fun i h=>h.IsStrIter it T z t i)
  (hself:∀ (A:Around) (it:Addr) (i:Nat) (s:Shared) (Q E:Value->Shared->Prop),s.heap.IsStrIter it T z t i->Q (.ref it) s->wpAny (model P w) A (pyIter (.ref it)) Q E s)
  (hno:["enumerate","zip","dict_itemiterator","dict_reverseitemiterator","odict_iterator","itertools.zip_longest","itertools.pairwise"].contains T=false) (it:Addr):Turn P w K tg (Its z) [it] it (fun i h=>h.IsStrIter it T z t i) where
 mem:=by simp
 obj:=fun i h st b hb=>by
  obtain rfl:b=it:=by simpa using hb
  obtain ⟨o,e,c,d⟩:=st
  exact ⟨o,e,fun v z=>by rw[d] at z;cases z⟩
 keep:=fun i h h' st k=>by
  obtain ⟨o,e,c,d⟩:=st
  exact ⟨o,k it (by simp) o e,c,d⟩
 item:=by
  intro X hP hw hK hc i pins s σ H E I hf st hg
  subst hP hw hK
  obtain ⟨f0,f1,f2,f3,f4,f5⟩:=hf it (by simp)
  refine (hT X.A (I.ok.hd hc) it).item i s _ E hg st fun v h' tk hv st' kp=>?_
  obtain ⟨c,tc,hcc,rfl⟩:=hv
  have I1:Inv X pins σ H {s with heap:=h',toks:=tk}:=I.turned (t':=tk) (it:=it) (fun b o hb e=>kp b o (by simpa using hb) e) f0 f1 f3 f4 f5
  obtain ⟨o,e,cc,d⟩:=id st'
  exact ⟨_,rfl,nE (s:={s with heap:=h',toks:=tk}) e cc d hno ⟨.str ⟨#[c]⟩,H,I1,⟨_,rfl⟩,⟨rfl,c,hcc,rfl⟩,st',fun b hb=>(hf b hb).1⟩⟩
 done:=by
  intro X hP hw hK hc i pins s σ H E I hf st hg
  subst hP hw hK
  obtain ⟨f0,f1,f2,f3,f4,f5⟩:=hf it (by simp)
  have hg:i=z.cps.size:=hg
  subst hg
  exact (hT X.A (I.ok.hd hc) it).done s _ E st fun h' tk kp=>⟨rfl,I.turned (t':=tk) (it:=it) (fun b o hb e=>kp b o (by simpa using hb) e) f0 f1 f3 f4 f5⟩
 self:=fun A i s Q E st h=>hself A it i s Q E st h
def aCG(te:TE):TI:=fun σ H R=>te σ H fun x H1=>∃ z,x=.str z/\R (Its z) H1
theorem sW{X:Cx}{tg l:Expr}{tl:TE}(hl:PE X l tl):PI X tg l (aCG tl):=by
 intro pins s σ H R I h
 refine thn (hl pins s σ H _ I h) fun v s1 zz0=>?_
 obtain ⟨x,H1,I1,r1,q1⟩:=zz0
 obtain ⟨z,e,q⟩:=q1
 subst e
 obtain ⟨t,rfl⟩:=r1
 refine wpAny_pyIter_strU ?_
 have I2:Inv X pins σ H1 {s1 with heap:=s1.heap.push {cls:=.type (strIterType z),data:=.fields #[.str z t,.int 0 0]}}:=I1.kept (t':=s1.toks) fun b o e=>Heap.get?_push_of_some _ e
 have st:(s1.heap.push {cls:=.type (strIterType z),data:=.fields #[.str z t,.int 0 0]}).IsStrIter s1.heap.objs.size (strIterType z) z t 0:=⟨_,Heap.get?_push_size _ rfl,rfl,rfl⟩
 have fin:∀ b∈[s1.heap.objs.size],d6 X pins H1 b:=fun b hb=>by
  obtain rfl:=List.mem_singleton.mp hb
  exact I1.fpOk (Nat.le_refl _) (I1.hok.fresh (Nat.le_refl _))
 by_cases ha:(z.cps.all fun x=>decide (x < 128))=true
 ·have eT:strIterType z="str_ascii_iterator":=by unfold strIterType;rw[if_pos ha]
  rw[eT] at st I2 ⊢
  exact ⟨s1.heap.objs.size,[s1.heap.objs.size],_,_,H1,rfl,I2,n4 z t "str_ascii_iterator" (fun A hA it=>Walks.strAscii hA it z t) (fun A it i s Q E st h=>wpAny_pyIter_striter_ascii st h) (by decide) _,st,fin,q⟩
 ·have eT:strIterType z="str_iterator":=by unfold strIterType;rw[if_neg ha]
  rw[eT] at st I2 ⊢
  exact ⟨s1.heap.objs.size,[s1.heap.objs.size],_,_,H1,rfl,I2,n4 z t "str_iterator" (fun A hA it=>Walks.strWide hA it z t) (fun A it i s Q E st h=>wpAny_pyIter_striter_wide st h) (by decide) _,st,fin,q⟩
end L2
namespace L2
open PySem PySem.Spec PyProof.Rows
structure InK(env:Env)(s₀:Shared)(m cm:Str->Option Value)(s:Shared):Prop where
 ic:InCall s₀ env.locals m s
 cell:∀ n c,env.cells.lookup n=some c->s.heap.IsCell c (cm n)
 inj:∀ n n' c,env.cells.lookup n=some c->env.cells.lookup n'=some c->n=n'
 ne:∀ n c,env.cells.lookup n=some c->c≠env.locals
 up:∀ n c,env.kindOf n=some .cell->env.cells.lookup n=some c->env.locals < c
structure ClAt(h:Heap)(scope:Scope)(cl:List (Str×Addr))(cm:Str->Option Value):Prop where
 cell:∀ n c,cl.lookup n=some c->h.IsCell c (cm n)
 inj:∀ n n' c,cl.lookup n=some c->cl.lookup n'=some c->n=n'
 off:∀ y∈scope.names,y.2=.cell->cl.lookup y.1=none
end L2
namespace L2
open PySem PySem.Spec PyProof.Rows
def FnO(f:Addr)(o:Obj):HO:=.ext fun h=>h.get? f=some o
def vG(c:Addr)(o:Obj)(v:V):HO:=.frz o (.ext fun h=>∃ u,a9 v u/\h.IsCell c (some u))
section
variable{P:Program}{w:World}{H:Hp}{h:Heap}
theorem FnO.ok{f:Addr}{o:Obj}(e:h.get? f=some o):bZ P w H h f (FnO f o):=⟨e,⟨o,e⟩,fun h1 h2 q k=>k o q⟩
theorem vG.ok{c:Addr}{o:Obj}{v:V}{u:Value}(r:a9 v u)(e:h.get? c=some o)(hd:o.data=.cell (some u)):bZ P w H h c (vG c o v):=
 ⟨e,⟨u,r,o,e,hd⟩,⟨o,e⟩,fun h1 h2 ⟨u,r,o,ho,hd⟩ k=>⟨u,r,o,k o ho,hd⟩⟩
end
structure CloScope(N ps fr:List Str)(sc:Scope):Prop where
 kind:sc.kind=.function
 co:sc.isCoroutine=false
 gen:sc.isGenerator=false
 nd:N.Nodup
 pre:N.take (ps++fr).length=ps++fr
 par:∀ x∈ps,sc.names.lookup x=some .local\/sc.names.lookup x=some .cell
 cap:∀ x∈fr,sc.names.lookup x=some .free
 only:∀ y∈sc.names,y.2=.free->y.1∈fr
 off:∀ y∈sc.names,y.2=.cell->y.1∉fr
structure CapAt(H:Hp)(fr:List Str)(cl:List (Str×Addr))(vs:List V):Prop where
 len:vs.length=fr.length
 only:∀ n c,cl.lookup n=some c->n∈fr
 inj:∀ n n' c,cl.lookup n=some c->cl.lookup n'=some c->n=n'
 at':∀ (i:Nat) x v,fr[i]? = some x->vs[i]? = some v->∃ c o,cl.lookup x=some c/\H c=some (vG c o v)
noncomputable def xL(fr:List Str)(cl:List (Str×Addr)):List Addr:=fr.filterMap fun x=>cl.lookup x
theorem CapAt.same{H H':Hp}{fr:List Str}{cl:List (Str×Addr)}{vs:List V}(a:CapAt H fr cl vs)(s:aF H H'):CapAt H' fr cl vs:=⟨a.len,a.only,a.inj,fun i x v h1 h2=>let ⟨c,o,e,q⟩:=a.at' i x v h1 h2;⟨c,o,e,s _ _ q⟩⟩
end L2
namespace L2
open PySem PySem.Spec PyProof.Rows
structure ClSt where
 name:Str
 qual:Str
 params:Arguments
 body:FuncBody
 scope:Scope
noncomputable def ClSt.fd(S:ClSt)(cl:List (Str×Addr))(doc pm:Value)(c:Addr)(ct:Value):FuncData:=
 {name:=S.name,qualname:=S.qual,params:=S.params,body:=S.body,scope:=S.scope,globals:=mainGlobals,closure:=cl,defaults:=.none,kwdefaults:=.none,doc:=doc,pyModule:=pm,annotations:=none,code:=.ref c,closureTuple:=ct,builtins:=builtinsNs}
abbrev ClSt.obj(S:ClSt)(cl:List (Str×Addr))(doc pm:Value)(c:Addr)(ct:Value):Obj:={cls:=.type "function",data:=.func (S.fd cl doc pm c ct)}
end L2
namespace L2
open PySem PySem.Spec PyProof.Rows
structure ClOf(cells:List (Str×Addr))(sc:Scope)(cl:List (Str×Addr)):Prop where
 of:∀ x c,cl.lookup x=some c->cells.lookup x=some c
 all:∀ x∈sc.names,x.2=.free->∃ c,cl.lookup x.1=some c
 only:∀ x c,cl.lookup x=some c->(x,NameKind.free)∈sc.names
structure Tb(mg:Str->Option Value)(base:Heap)(c0 P0:Addr):Prop where
 hd:PySem.W.CodeHd base c0 P0
 bt:∃ bm ob,mg "__builtins__"=some (.ref bm)/\bm≠builtinsNs/\base.get? bm=some ob/\ob.cls=.type "module"/\ob.dict=some builtinsNs/\ob.data=.plain
end L2
namespace L2
open PySem PySem.Spec PyProof.Rows
abbrev Cv:=List (Addr×Obj×V)
noncomputable def aCH(cv:Cv):List Addr:=cv.map (·.1)
structure PubRel(X:Cx)(σ:St)(H:Hp)(js:List Nat)(cv:Cv):Prop where
 at':∀ b o v,cv.lookup b=some (o,v)->∃ x j,j∈js/\X.N[j]? = some x/\X.env.cells.lookup x=some b/\σ[j]? = some (some v)
 all:∀ j∈js,∃ x c o v,X.N[j]? = some x/\X.env.cells.lookup x=some c/\σ[j]? = some (some v)/\cv.lookup c=some (o,v)
 free:∀ b∈aCH cv,H b=none
 inj:∀ x y c,X.env.cells.lookup x=some c->X.env.cells.lookup y=some c->x=y
end L2
namespace L2
open PySem PySem.Spec PyProof.Rows
end L2
namespace Fl
open PySem L2 PyProof.Rows
mutual
noncomputable def zC:PyData->Bool
 | .none=>true
 | .int _=>true
 | .str x=>PyData.strOk x
 | .tuple xs=>wN xs
 | _=>false
noncomputable def wN:List PyData->Bool
 | []=>true
 | x::t=>zC x && wN t
end
mutual
noncomputable def iN(w:World):PyData->Int
 | .none=>reduceHash 0xFCA86420
 | .int i=>hashInt i
 | .str x=>hashStr w x
 | .tuple xs=>reduceHash (Builtin.Tuple.tupleHashOf (p0 w xs))
 | _=>0
noncomputable def p0(w:World):List PyData->List Int
 | []=>[]
 | x::t=>iN w x::p0 w t
end
noncomputable instance decPyData:DecidableEq PyData:=fun a b=>Classical.propDecidable (a=b)
end Fl
namespace Fl
open PySem L2 PyProof.Rows
theorem jH(w:World)(i:Int):iN w (.int i)=hashInt i:=by rw[iN]
theorem jI(w:World)(i:Str):iN w (.str i)=hashStr w i:=by rw[iN]
end Fl
namespace Fl
open PySem L2 PyProof.Rows
abbrev Ent:=PyData×V×V
def rK(w:World)(p:Ent)(en:DictEntry):Prop:=en.hash=iN w p.1/\a9 p.2.1 en.key/\a9 p.2.2 en.val
def n5(w:World)(a:Addr)(es:List Ent)(ep:Nat):HO:=.ext fun h=>(a == sysModules)=false/\∃ o ar,h.get? a=some o/\o.ExactDict/\o.data=.dict ar ep/\Paired (rK w) es ar.toList
noncomputable def zD:PyData->Bool
 | .tuple xs=>zC (.tuple xs) && decide ((PyData.tuple xs).depth<=8)
 | _=>false
noncomputable def iO:PyData->Bool
 | .int _=>true
 | .str _=>true
 | _=>false
def cW(k:PyData)(ks:List PyData):Bool:=(zD k && ks.all zD) || (iO k && ks.all iO)
def keyPy:Key->PyData
 | .inl i=>.int i
 | .inr x=>.str x
theorem p6{d:PyData}(h:iO d=true):∃ k,d=keyPy k:=by
 cases d with
 | int i=>exact ⟨.inl i,rfl⟩
 | str i=>exact ⟨.inr i,rfl⟩
 | _=>cases h
theorem sX{a b:Key}(h:keyPy a=keyPy b):a=b:=by
 cases a<;>cases b<;>cases h<;>rfl
theorem p7{K:Frag}{H:Hp}{v:V}{k:Key}(h:DatV K H v (keyPy k)):v=kV k:=by
 cases k with
 | inl i=>exact h.int_of
 | inr x=>exact h.str_of
theorem vH{P:Program}{w:World}(k:Key):iN w (keyPy k)=(cX P w).hash k:=by
 cases k with
 | inl i=>exact jH w i
 | inr x=>exact jI w x
def vI:Ent->(Key×Value)->Prop:=fun e x=>e.1=keyPy x.1/\e.2.1=kV x.1/\a9 e.2.2 x.2
theorem sY{P:Program}{w:World}:∀ {es:List Ent} {ens:List DictEntry},Paired (rK w) es ens->(∀ e∈es,∃ k,e.1=keyPy k/\e.2.1=kV k)->∃ xs,Pairs (cX P w) ens xs/\Paired vI es xs/\∀ en∈ens,∃ k,(cX P w).is k en.key=true/\en.hash=(cX P w).hash k
 | _,_,.nil,_=>⟨[],.nil,.nil,fun _ h=>by cases h⟩
 | e::es,en::ens,.cons h t,hb=>by
  obtain ⟨xs,h1,h2,h3⟩:=sY (P:=P) t fun e he=>hb e (List.mem_cons_of_mem _ he)
  obtain ⟨k,hk1,hk2⟩:=hb e List.mem_cons_self
  obtain ⟨q1,q2,q3⟩:=h
  have hi:(cX P w).is k en.key=true:=rG (by rw[<-hk2];exact q2)
  refine ⟨(k,en.val)::xs,.cons hi rfl h1,.cons ⟨hk1,hk2,q3⟩ h2,fun en' hen=>?_⟩
  rcases List.mem_cons.mp hen with z|z
  · subst z; exact ⟨k, hi, by rw [q1, hk1, vH (P := P)]⟩
  · exact h3 en' z
noncomputable def atE(es:List Ent)(k:PyData):Option V:=(es.find? fun e=>decide (e.1=k)).map (·.2.2)
theorem n6{k:Key}:∀ {es:List Ent} {xs:List (Key×Value)},Paired vI es xs->hW (atE es (keyPy k)) (valueAt xs k)
 | _,_,.nil=>trivial
 | e::es,x::xs,.cons h t=>by
  have ih:=n6 (k:=k) t
  unfold atE valueAt at ih ⊢
  rw[List.find?_cons,List.find?_cons,h.1]
  by_cases q:x.1=k
  · rw [decide_eq_true q, decide_eq_true (by rw [q])]; exact h.2.2
  · rw [decide_eq_false q, decide_eq_false (fun z => q (sX z))]; exact ih
theorem sZ{o:Option V}{u:Option Value}(h:hW o u):o.isSome=u.isSome:=by
 cases o<;>cases u<;>first|rfl|exact h.elim
section
variable{X:Cx}{pins:List (Addr×Obj)}{σ:L2.St}{H:Hp}{s:Shared}{a:Addr}{es:List Ent}{k:PyData}{kv v:V}{ku u:Value}{A:Around}{E:Value->Shared->Prop}
structure DicAt(X:Cx)(H:Hp)(a:Addr)(es:List Ent)(k:PyData)(kv:V):Prop where
 o:∃ ep,H a=some (n5 X.w a es ep)
 ks:∀ e∈es,DatV X.K H e.2.1 e.1
 nd:(es.map (·.1)).Nodup
 dk:DatV X.K H kv k
 one:cW k (es.map (·.1))=true
theorem lE{α β γ:Type}{f:α->β->Prop}{g:α->γ}{k:β->γ}(h:∀ a b,f a b->g a=k b):∀ {xs:List α} {ys:List β},Paired f xs ys->xs.map g=ys.map k
 | _,_,.nil=>rfl
 | _,_,.cons q t=>by rw[List.map_cons,List.map_cons,h _ _ q,lE h t]
theorem mZ{α β:Type}{f:α->β}:∀ {xs:List α},(xs.map f).Nodup->xs.Nodup
 | [],_=>List.nodup_nil
 | x::t,h=>by
  rw[List.map_cons,List.nodup_cons] at h
  exact List.nodup_cons.mpr ⟨fun z=>h.1 (List.mem_map_of_mem z),mZ h.2⟩
end
end Fl
namespace Fl
open PySem L2 PyProof.Rows
structure Er where
 c:Str
 fs:List (Str×PyData)
inductive R(α:Type) where
 | bad|ok (a:α)|ex (e:Er)
noncomputable def R.bind{α β:Type}:R α->(α->R β)->R β
 | .bad,_=>.bad
 | .ok a,f=>f a
 | .ex e,_=>.ex e
@[simp] theorem R.bind_ok{α β:Type}(a:α)(f:α->R β):(R.ok a).bind f=f a:=id rfl
@[simp] theorem R.bind_bad{α β:Type}(f:α->R β):(R.bad:R α).bind f=.bad:=id rfl
@[simp] theorem R.bind_ex{α β:Type}(e:Er)(f:α->R β):(R.ex e:R α).bind f=.ex e:=id rfl
inductive A where
 | d (x:PyData)|l (xs:List PyData)|m (kvs:List (PyData×PyData))|x (e:Er)|g (k n:Nat) (f:List PyData->R PyData)|k (q:Str)|f (kvs:List (PyData×PyData))
abbrev Sg:=List (Option A)
structure Gb where
 B:Addr->Hp->Nat->Nat->(List PyData->R PyData)->Prop
 T:Hp
 w:World
structure Ct where
 K:Frag
 mg:Str->Option Value
 w:World
 F0:Hp
 H0:Hp
 g:Gb
 cells:List (Str×Addr)
 cls:Str->Option ClSt
theorem vJ{w:World}{p:Addr}{es:List Ent}{ep:Nat}{q:Str}(h:n5 w p es ep=.cod q):False:=by unfold n5 at h;cases h
theorem b2(H:Hp):aF H H:=fun _ _ h=>h
theorem bQ{H H':Hp}(s:aF H H'){a:Addr}(h:H' a=none):H a=none:=by
 cases e:H a with
 | none=>rfl
 | some o=>rw[s a o e] at h;cases h
def lF(H:Hp)(a:Addr):Prop:=H a=none\/∃ q,H a=some (.cod q)
theorem lF.back{H H1:Hp}{a:Addr}(s:aF H H1)(h:lF H1 a):lF H a:=by
 cases e:H a with
 | none=>exact .inl e
 | some o=>
  have e1:=s a o e
  rcases h with z|⟨q,z⟩
  · rw [e1] at z; cases z
  · rw [e1] at z; cases z; exact .inr ⟨q, e⟩
structure Ext(F H F' H':Hp):Prop where
 hh:aF H H'
 ff:aF F F'
 fh:aF F' H'
 nw:∀ a,F a=none->F' a≠none->lF H a
theorem Ext.refl{F H:Hp}(h:aF F H):Ext F H F H:=⟨b2 H,b2 F,h,fun a e n=>absurd e n⟩
theorem Ext.trans{F H F1 H1 F2 H2:Hp}(a:Ext F H F1 H1)(b:Ext F1 H1 F2 H2):Ext F H F2 H2:=
 ⟨fun x o e=>b.hh x o (a.hh x o e),fun x o e=>b.ff x o (a.ff x o e),b.fh,fun x e n=>by
  cases q:F1 x with
  | none=>exact (b.nw x q n).back a.hh
  | some o=>exact a.nw x e (by rw[q];exact fun z=>nomatch z)⟩
theorem Ext.stay{F H F' H':Hp}(s:Ext F H F' H'){p:Addr}{o:HO}(h3:F p=none)(h2:H p=some o)(hno:∀ q,o≠.cod q):F' p=none:=by
 cases q:F' p with
 | none=>rfl
 | some o=>
  rcases s.nw p h3 (by rw[q];exact fun z=>nomatch z) with z|⟨q',z⟩
  · rw [z] at h2; cases h2
  · rw [z] at h2; cases h2; exact absurd rfl (hno _)
theorem vK{F H:Hp}{p:Addr}{o:HO}(s:aF F H):aF (upd F p o) (upd H p o):=fun a u e=>by
 by_cases q:a=p
 · subst q; rw [bJ] at e ⊢; exact e
 · rw [aU q] at e ⊢; exact s a u e
theorem Ext.new{F H:Hp}{p:Addr}{o:HO}(s:aF F H)(hp:H p=none):Ext F H (upd F p o) (upd H p o):=
 ⟨aF.upd hp,aF.upd (bQ s hp),vK s,fun a e n=>by
  by_cases q:a=p
  · subst q; exact .inl hp
  · rw [aU q] at n; exact absurd e n⟩
theorem Ext.own{F H:Hp}{p:Addr}{o:HO}(s:aF F H)(hp:H p=none):Ext F H F (upd H p o):=
 ⟨aF.upd hp,b2 F,fun a u e=>by
  rw[aU (bV (s a u e) hp)];exact s a u e,fun a e n=>absurd e n⟩
def iP(K:Frag)(mg:Str->Option Value)(F:Hp)(e:Er)(a C:Addr):Prop:=mg e.c=some (.ref C)/\∃ od,F a=some (ExO a C od)/\((e.fs=[]/\od=none)\/∃ d fvs,od=some d/\F d=some (.xd fvs)/\fvs.map (·.1)=e.fs.map (·.1)/\DatVs K F (fvs.map (·.2)) (e.fs.map (·.2)))
theorem iP.same{K:Frag}{mg:Str->Option Value}{F F':Hp}{e:Er}{a C:Addr}(s:aF F F')(h:iP K mg F e a C):iP K mg F' e a C:=by
 obtain ⟨m,od,h1,h2⟩:=h
 refine ⟨m,od,s _ _ h1,h2.imp id ?_⟩
 rintro ⟨d,fvs,e1,e2,e3,e4⟩
 exact ⟨d,fvs,e1,s _ _ e2,e3,e4.same s⟩
structure MapRel(K:Frag)(F:Hp)(es:List Ent)(kvs:List (PyData×PyData)):Prop where
 k1:es.map (·.1)=kvs.map (·.1)
 k2:DatVs K F (es.map (·.2.1)) (kvs.map (·.1))
 vs:DatVs K F (es.map (·.2.2)) (kvs.map (·.2))
 nd:(kvs.map (·.1)).Nodup
theorem MapRel.same{K:Frag}{F F':Hp}{es:List Ent}{kvs:List (PyData×PyData)}(s:aF F F')(h:MapRel K F es kvs):MapRel K F' es kvs:=⟨h.k1,h.k2.same s,h.vs.same s,h.nd⟩
def AF(g:Gb)(K:Frag)(mg:Str->Option Value)(F:Hp):A->V->Prop
 | .d x,v=>DatV K F v x
 | .x e,v=>∃ a C,v=.ref a/\iP K mg F e a C
 | .g k n G,v=>∃ f F1,v=.ref f/\aF F1 F/\g.B f F1 k n G
 | .f kvs,v=>∃ p es,v=.ref p/\(∃ ep,F p=some (n5 g.w p es ep))/\MapRel K F es kvs
 | _,_=>False
theorem AF.same{g:Gb}{K:Frag}{mg:Str->Option Value}{F F':Hp}(s:aF F F'):∀ {a:A} {v:V},AF g K mg F a v->AF g K mg F' a v
 | .d x,v,h=>DatV.same s h
 | .x e,v,⟨a,C,h1,h2⟩=>⟨a,C,h1,h2.same s⟩
 | .g k n G,v,⟨f,F1,h1,h2,h3⟩=>⟨f,F1,h1,fun a o z=>s a o (h2 a o z),h3⟩
 | .f kvs,v,⟨p,es,h1,⟨ep,h2⟩,h3⟩=>⟨p,es,h1,⟨ep,s _ _ h2⟩,h3.same s⟩
noncomputable def A.own:A->Bool
 | .l _=>true
 | .m _=>true
 | _=>false
def AO(c:Ct)(F H:Hp):A->V->Prop
 | .l xs,v=>∃ p vs,v=.ref p/\H p=some (.lst vs)/\F p=none/\c.H0 p=none/\DatVs c.K F vs xs
 | .m kvs,v=>∃ p es,v=.ref p/\(∃ ep,H p=some (n5 c.w p es ep))/\F p=none/\c.H0 p=none/\MapRel c.K F es kvs
 | .k q,v=>∃ S f cl doc pm cc ct,c.cls q=some S/\v=.ref f/\F f=some (FnO f (S.obj cl doc pm cc ct))/\F cc=some (.cod S.qual)/\ClOf c.cells S.scope cl
 | a,v=>AF c.g c.K c.mg F a v
theorem AO.ext{c:Ct}{F H F' H':Hp}(s:Ext F H F' H'):∀ {a:A} {v:V},AO c F H a v->AO c F' H' a v
 | .d x,v,h=>DatV.same s.ff h
 | .x e,v,h=>AF.same (g:=c.g) (K:=c.K) (mg:=c.mg) (a:=.x e) s.ff h
 | .g k n G,v,h=>AF.same (g:=c.g) (K:=c.K) (mg:=c.mg) (a:=.g k n G) s.ff h
 | .f kvs,v,h=>AF.same (g:=c.g) (K:=c.K) (mg:=c.mg) (a:=.f kvs) s.ff h
 | .k q,v,⟨S,f,cl,doc,pm,cc,ct,h0,h1,h2,h3,h4⟩=>⟨S,f,cl,doc,pm,cc,ct,h0,h1,s.ff _ _ h2,s.ff _ _ h3,h4⟩
 | .l xs,v,⟨p,vs,h1,h2,h3,h4,h5⟩=>⟨p,vs,h1,s.hh _ _ h2,s.stay h3 h2 (fun _ z=>nomatch z),h4,h5.same s.ff⟩
 | .m kvs,v,⟨p,vs,h1,⟨ep,h2⟩,h3,h4,h5⟩=>⟨p,vs,h1,⟨ep,s.hh _ _ h2⟩,s.stay h3 h2 (fun _ z=>vJ z),h4,h5.same s.ff⟩
theorem AO.at{c:Ct}{F H:Hp}{a:A}{v:V}(h:AO c F H a v)(o:a.own=true):∃ p o,v=.ref p/\H p=some o/\F p=none/\c.H0 p=none:=by
 cases a with
 | l xs=>obtain ⟨p,vs,h1,h2,h3,h4,h5⟩:=h;exact ⟨p,_,h1,h2,h3,h4⟩
 | m xs=>obtain ⟨p,vs,h1,⟨ep,h2⟩,h3,h4,h5⟩:=h;exact ⟨p,_,h1,h2,h3,h4⟩
 | d x=>cases o
 | x e=>cases o
 | g k n f=>cases o
 | k S=>cases o
 | f S=>cases o
theorem AO.off{c:Ct}{F H:Hp}{p:Addr}{o:HO}:∀ {a:A} {v:V},AO c F H a v->v≠.ref p->AO c F (upd H p o) a v
 | .l xs,v,⟨q,vs,h1,h2,h3,h4,h5⟩,n=>⟨q,vs,h1,by rw[aU (fun z=>n (by rw[h1,z]))];exact h2,h3,h4,h5⟩
 | .m xs,v,⟨q,vs,h1,⟨ep,h2⟩,h3,h4,h5⟩,n=>⟨q,vs,h1,⟨ep,by rw[aU (fun z=>n (by rw[h1,z]))];exact h2⟩,h3,h4,h5⟩
 | .d x,v,h,_=>h
 | .x e,v,h,_=>h
 | .g k n G,v,h,_=>h
 | .k S,v,h,_=>h
 | .f S,v,h,_=>h
structure Ab(c:Ct)(ρ:Sg)(σ:L2.St)(F H:Hp):Prop where
 len:ρ.length=σ.length
 fh:aF F H
 slot:∀ (i:Nat) (a:A),ρ[i]? = some (some a)->∃ v,σ[i]? = some (some v)/\AO c F H a v
 apart:∀ (i j:Nat) (a b:A),i≠j->ρ[i]? = some (some a)->ρ[j]? = some (some b)->a.own=true->b.own=true->σ[i]? ≠ σ[j]?
 f0:aF c.F0 F
 h0:aF c.H0 H
 n0:∀ a,c.F0 a=none->F a≠none->lF c.H0 a
 t0:aF c.g.T c.F0
theorem Ab.all{c:Ct}{ρ:Sg}{σ:L2.St}{F H:Hp}(b:Ab c ρ σ F H):Ext c.F0 c.H0 F H:=⟨b.h0,b.f0,b.fh,b.n0⟩
theorem Ab.ext{c:Ct}{ρ:Sg}{σ:L2.St}{F H F' H':Hp}(b:Ab c ρ σ F H)(e:Ext F H F' H'):Ab c ρ σ F' H' where
 len:=b.len
 fh:=e.fh
 slot:=fun i a h=>let ⟨v,h1,h2⟩:=b.slot i a h;⟨v,h1,h2.ext e⟩
 apart:=b.apart
 f0:=fun x o h=>e.ff x o (b.f0 x o h)
 h0:=fun x o h=>e.hh x o (b.h0 x o h)
 n0:=fun a h n=>by
  cases q:F a with
  | none=>exact (e.nw a q n).back b.h0
  | some o=>exact b.n0 a h (by rw[q];exact fun z=>nomatch z)
 t0:=b.t0
def XW(c:Ct)(E:XK)(e:Er):Prop:=∀ a C F' H',Ext c.F0 c.H0 F' H'->iP c.K c.mg F' e a C->E (.ref C) (some a) H'
def Rk{α:Type}(c:Ct)(E:XK)(F H:Hp)(r:R α)(k:α->Prop):Prop:=match r with
 | .bad=>False
 | .ok a=>k a
 | .ex e=>XW c E e
abbrev VR(α:Type):=α->V->Hp->Hp->Hp->Prop
def tV{α:Type}(Rel:VR α)(c:Ct)(E:XK)(f:Sg->R α):TE:=fun σ H Q=>∃ ρ F,Ab c ρ σ F H/\Rk c E F H (f ρ) fun d=>∀ v F' H',Ext F H F' H'->Rel d v H F' H'->Q v H'
def bH(c:Ct):VR PyData:=fun d v _ F _=>DatV c.K F v d
def aP(K:Frag)(F H:Hp)(v:V)(d:PyData):Prop:=DatV K F v d\/∃ p vs xs,v=.ref p/\d=.list xs/\H p=some (.lst vs)/\DatVs K F vs xs
def aQ(c:Ct):VR PyData:=fun d v _ F H=>aP c.K F H v d
def vL(c:Ct):VR A:=fun a v _ F _=>AF c.g c.K c.mg F a v
def kQ(c:Ct):VR (List PyData):=fun xs v H F H'=>∃ p vs,v=.ref p/\H p=none/\H' p=some (.lst vs)/\F p=none/\DatVs c.K F vs xs
abbrev PD(X:Cx)(c:Ct)(E:XK)(e:Expr)(f:Sg->R PyData):Prop:=PE X e (tV (bH c) c E f)
abbrev PR(X:Cx)(c:Ct)(E:XK)(e:Expr)(f:Sg->R PyData):Prop:=PE X e (tV (aQ c) c E f)
abbrev PV(X:Cx)(c:Ct)(E:XK)(e:Expr)(f:Sg->R A):Prop:=PE X e (tV (vL c) c E f)
abbrev PN(X:Cx)(c:Ct)(E:XK)(e:Expr)(f:Sg->R (List PyData)):Prop:=PE X e (tV (kQ c) c E f)
theorem PE.imp{X:Cx}{e:Expr}{t t':TE}(h:PE X e t)(i:∀ σ H Q,t' σ H Q->t σ H Q):PE X e t':=fun pins s σ H Q I q=>h pins s σ H Q I (i σ H Q q)
theorem PT.imp{X:Cx}{e:Expr}{t t':TT}(h:PT X e t)(i:∀ σ H Q,t' σ H Q->t σ H Q):PT X e t':=fun pins s σ H Q I q=>h pins s σ H Q I (i σ H Q q)
theorem PS.imp{X:Cx}{e:Stmt}{t t':TS}(h:PS X e t)(i:∀ D σ H,t' D σ H->t D σ H):PS X e t':=fun pins s σ H D I q=>h pins s σ H D I (i D σ H q)
theorem PSs.imp{X:Cx}{e:List Stmt}{t t':TS}(h:PSs X e t)(i:∀ D σ H,t' D σ H->t D σ H):PSs X e t':=fun pins s σ H D I q=>h pins s σ H D I (i D σ H q)
def wO{α:Type}(Rel:VR α):Prop:=∀ d v H F H1 F2 H2,Ext F H1 F2 H2->Rel d v H F H1->Rel d v H F2 H2
theorem aP.ext{K:Frag}{F H F' H':Hp}{v:V}{d:PyData}(e:Ext F H F' H')(h:aP K F H v d):aP K F' H' v d:=by
 rcases h with h|⟨p,vs,xs,h1,h2,h3,h4⟩
 · exact .inl (h.same e.ff)
 · exact .inr ⟨p, vs, xs, h1, h2, e.hh _ _ h3, h4.same e.ff⟩
theorem jJ(c:Ct):wO (aQ c):=fun d v H F H1 F2 H2 e h=>aP.ext e h
theorem aP.heap{K:Frag}{F H:Hp}{v:V}{d:PyData}(s:aF F H)(h:aP K F H v d):DatV K H v d:=by
 rcases h with h|⟨p,vs,xs,h1,h2,h3,h4⟩
 · exact h.same s
 · subst h1 h2; exact .lst (SqL.of h3) (h4.same s)
section
variable{X:Cx}{c:Ct}{E:XK}{α β γ:Type}{Ra:VR α}{Rb:VR β}{Rc:VR γ}{σ:L2.St}{H:Hp}{Q:VK}
theorem Rk.ok{F:Hp}{a:α}{k:α->Prop}(h:Rk c E F H (.ok a) k):k a:=h
theorem Rk.imp{F:Hp}{r:R α}{k k':α->Prop}(h:Rk c E F H r k)(i:∀ a,r=.ok a->k a->k' a):Rk c E F H r k':=by
 cases r with
 | bad=>exact h
 | ok a=>exact i a rfl h
 | ex e=>exact h
theorem Rk.bind{F:Hp}{r:R α}{f:α->R β}{k:β->Prop}(h:Rk c E F H (r.bind f) k):Rk c E F H r fun a=>Rk c E F H (f a) k:=by
 cases r with
 | bad=>exact h
 | ok a=>exact h
 | ex e=>exact h
theorem Rk.ext{F F' H':Hp}{r:R α}{k:α->Prop}(e:Ext F H F' H')(h:Rk c E F H r k):Rk c E F' H' r k:=by
 cases r with
 | bad=>exact h
 | ok a=>exact h
 | ex x=>exact h
end
def n8{α:Type}(Rel:VR α):Prop:=∀ d v H H1 F' H',aF H H1->Rel d v H1 F' H'->Rel d v H F' H'
theorem eF(c:Ct):n8 (bH c):=fun _ _ _ _ _ _ _ h=>h
theorem aA0(c:Ct):n8 (kQ c):=fun _ _ _ _ _ _ s h=>by
 obtain ⟨p,vs,h1,h2,h3⟩:=h
 exact ⟨p,vs,h1,bQ s h2,h3⟩
section
variable{X:Cx}{c:Ct}{E:XK}{α β γ:Type}{Ra:VR α}{Rb:VR β}{Rc:VR γ}
def Op1(c:Ct)(Ra:VR α)(Rb:VR β)(g:α->R β)(r:V->Hp->VK->Prop):Prop:=
 ∀ (H0 F H:Hp) (a:α) (b:β) (v:V) (Q:VK),aF F H->Ra a v H0 F H->g a=.ok b->(∀ w F' H',Ext F H F' H'->Rb b w H F' H'->Q w H')->r v H Q
def Op2(c:Ct)(Ra:VR α)(Rb:VR β)(Rc:VR γ)(g:α->β->R γ)(r:R2):Prop:=
 ∀ (H0 H1 F H:Hp) (a:α) (b:β) (d:γ) (v u:V) (Q:VK),aF F H->Ra a v H0 F H->Rb b u H1 F H->g a b=.ok d->(∀ w F' H',Ext F H F' H'->Rc d w H F' H'->Q w H')->r v u H Q
def fG(g:α->R β):Prop:=∀ a e,g a≠.ex e
def bI(g:α->β->R γ):Prop:=∀ a b e,g a b≠.ex e
theorem tV1{f:Sg->R α}{g:α->R β}{r:V->Hp->VK->Prop}(ho:Op1 c Ra Rb g r)(hp:fG g)(kb:n8 Rb){σ:L2.St}{H:Hp}{Q:VK}(h:tV Rb c E (fun ρ=>(f ρ).bind g) σ H Q) :
  tV Ra c E f σ H fun v H1=>r v H1 Q:=by
 obtain ⟨ρ,F,ab,h⟩:=h
 refine ⟨ρ,F,ab,(Rk.bind h).imp fun a ea q v F1 H1 e1 rv=>?_⟩
 cases eg:g a with
 | bad=>rw[eg] at q;exact q.elim
 | ex e=>exact absurd eg (hp a e)
 | ok b=>
  rw[eg] at q
  exact ho H F1 H1 a b v Q e1.fh rv eg fun w F' H' e2 rw'=>q w F' H' (e1.trans e2) (kb _ _ _ _ _ _ e1.hh rw')
theorem tV2{f:Sg->R α}{f':Sg->R β}{g:α->β->R γ}{r:R2}(ho:Op2 c Ra Rb Rc g r)(hp:bI g)(ka:wO Ra)(kb:n8 Rc){σ:L2.St}{H:Hp}{Q:VK}(h:tV Rc c E (fun ρ=>(f ρ).bind fun a=>(f' ρ).bind fun b=>g a b) σ H Q) :
  tOp r (tV Ra c E f) (tV Rb c E f') σ H Q:=by
 obtain ⟨ρ,F,ab,h⟩:=h
 refine ⟨ρ,F,ab,(Rk.bind h).imp fun a ea q v F1 H1 e1 rv=>?_⟩
 refine ⟨ρ,F1,ab.ext e1,((Rk.bind q).ext e1).imp fun b eb q u F2 H2 e2 ru=>?_⟩
 cases eg:g a b with
 | bad=>rw[eg] at q;exact q.elim
 | ex e=>exact absurd eg (hp a b e)
 | ok d=>
  rw[eg] at q
  exact ho H H1 F2 H2 a b d v u Q e2.fh (ka _ _ _ _ _ _ _ e2 rv) ru eg fun w F' H' e3 rw'=>q w F' H' ((e1.trans e2).trans e3) (kb _ _ _ _ _ _ (fun x o z=>e2.hh x o (e1.hh x o z)) rw')
end
end Fl
namespace Fl
open PySem L2 PyProof.Rows
section
variable{K:Frag}{F H:Hp}{v:V}
theorem DatV.bl_of{b:Bool}(h:DatV K H v (.bool b)):v=.bl b:=by cases h;rfl
theorem DatV.non_of(h:DatV K H v .none):v=.non:=by cases h;rfl
theorem aP.int_of{i:Int}(h:aP K F H v (.int i)):v=.int i:=by
 rcases h with h|⟨_,_,_,_,h,_⟩
 · exact h.int_of
 · cases h
theorem aP.str_of{i:Str}(h:aP K F H v (.str i)):v=.str i:=by
 rcases h with h|⟨_,_,_,_,h,_⟩
 · exact h.str_of
 · cases h
theorem aP.bl_of{i:Bool}(h:aP K F H v (.bool i)):v=.bl i:=by
 rcases h with h|⟨_,_,_,_,h,_⟩
 · exact DatV.bl_of h
 · cases h
theorem aP.non_of(h:aP K F H v .none):v=.non:=by
 rcases h with h|⟨_,_,_,_,h,_⟩
 · exact DatV.non_of h
 · cases h
theorem aP.tup_of{xs:List PyData}(s:aF F H)(h:aP K F H v (.tuple xs)):∃ a vs,v=.ref a/\SqT K F a vs/\SqT K H a vs/\DatVs K F vs xs:=by
 rcases h with h|⟨_,_,_,_,h,_⟩
 ·obtain ⟨a,vs,h1,h2,h3⟩:=h.tup_of
  exact ⟨a,vs,h1,h2,h2.same s,h3⟩
 ·cases h
theorem aP.lst_of{xs:List PyData}(s:aF F H)(h:aP K F H v (.list xs)):∃ a vs,v=.ref a/\SqL K H a vs/\DatVs K F vs xs:=by
 rcases h with h|⟨p,vs,ys,h1,h2,h3,h4⟩
 ·obtain ⟨a,vs,h1,h2,h3⟩:=h.lst_of
  exact ⟨a,vs,h1,h2.same s,h3⟩
 ·cases h2
  exact ⟨p,vs,h1,SqL.of h3,h4⟩
theorem n9{vs:List V}{xs:List PyData}{i:Int}{d:PyData}(h:DatVs K F vs xs)(e:atI xs i=some d):∃ x,atI vs i=some x/\DatV K F x d:=by
 unfold atI at e ⊢
 rw[h.length]
 cases q:ixN xs.length i with
 | none=>rw[q] at e;cases e
 | some j=>
  rw[q] at e
  exact h.get' (i:=j) e
end
noncomputable def eV(i:Nat):Sg->R PyData:=fun ρ=>match ρ[i]? with
 | some (some (.d x))=>.ok x
 | _=>.bad
noncomputable def rV(i:Nat):Sg->R PyData:=fun ρ=>match ρ[i]? with
 | some (some (.d x))=>.ok x
 | some (some (.l xs))=>.ok (.list xs)
 | _=>.bad
noncomputable def vV(i:Nat):Sg->R A:=fun ρ=>match ρ[i]? with
 | some (some (.d x))=>.ok (.d x)
 | some (some (.x e))=>.ok (.x e)
 | some (some (.g k n f))=>.ok (.g k n f)
 | some (some (.f kvs))=>.ok (.f kvs)
 | _=>.bad
def eC(d:PyData):Sg->R PyData:=fun _=>.ok d
section
variable{X:Cx}{c:Ct}{E:XK}{e a b:Expr}
theorem gK{i:Nat}(h:PE X e (lY i)):PD X c E e (eV i):=PE.imp h fun σ H Q ⟨ρ,F,ab,k⟩=>by
 unfold eV at k
 split at k
 ·rename_i x hx
  obtain ⟨v,h1,h2⟩:=ab.slot i _ hx
  exact ⟨v,h1,k v F H (Ext.refl ab.fh) h2⟩
 ·exact k.elim
theorem aC{i:Nat}(h:PE X e (lY i)):PR X c E e (rV i):=PE.imp h fun σ H Q ⟨ρ,F,ab,k⟩=>by
 unfold rV at k
 split at k
 ·rename_i x hx
  obtain ⟨v,h1,h2⟩:=ab.slot i _ hx
  exact ⟨v,h1,k v F H (Ext.refl ab.fh) (.inl h2)⟩
 ·rename_i x hx
  obtain ⟨v,h1,p,vs,h2,h3,h4,h5,h6⟩:=ab.slot i _ hx
  exact ⟨v,h1,k v F H (Ext.refl ab.fh) (.inr ⟨p,vs,x,h2,rfl,h3,h6⟩)⟩
 ·exact k.elim
theorem aZ{i:Nat}(h:PE X e (lY i)):PV X c E e (vV i):=PE.imp h fun σ H Q ⟨ρ,F,ab,k⟩=>by
 unfold vV at k
 split at k
 ·rename_i x hx
  obtain ⟨v,h1,h2⟩:=ab.slot i _ hx
  exact ⟨v,h1,k v F H (Ext.refl ab.fh) h2⟩
 ·rename_i x hx
  obtain ⟨v,h1,h2⟩:=ab.slot i _ hx
  exact ⟨v,h1,k v F H (Ext.refl ab.fh) h2⟩
 ·rename_i kk nn ff hx
  obtain ⟨v,h1,h2⟩:=ab.slot i _ hx
  exact ⟨v,h1,k v F H (Ext.refl ab.fh) h2⟩
 ·rename_i kvs hx
  obtain ⟨v,h1,h2⟩:=ab.slot i _ hx
  exact ⟨v,h1,k v F H (Ext.refl ab.fh) h2⟩
 ·exact k.elim
theorem b7{v:V}{d:PyData}(h:PE X e (tC v))(hd:∀ F,DatV c.K F v d):PD X c E e (eC d):=PE.imp h fun σ H Q ⟨ρ,F,ab,k⟩=>k v F H (Ext.refl ab.fh) (hd F)
theorem aD{i j pos}:PD X c E (.Constant (.int i) j pos) (eC (.int i)):=b7 yF fun _=>.int i
theorem j9{i j pos}:PD X c E (.Constant (.bool i) j pos) (eC (.bool i)):=b7 aAL fun _=>.bl i
theorem cN{i j pos}:PD X c E (.Constant (.str i) j pos) (eC (.str i)):=b7 yH fun _=>.str i
theorem s9{j pos}:PD X c E (.Constant .none j pos) (eC .none):=b7 yG fun _=>.non
theorem aA{f:Sg->R PyData}(h:PD X c E e f):PR X c E e f:=PE.imp h fun σ H Q ⟨ρ,F,ab,k⟩=>⟨ρ,F,ab,k.imp fun d _ q v F' H' s r=>q v F' H' s (.inl r)⟩
def vD(f:Sg->R PyData):Sg->R A:=fun ρ=>(f ρ).bind fun x=>.ok (.d x)
theorem aM{f:Sg->R PyData}(h:PD X c E e f):PV X c E e (vD f):=PE.imp h fun σ H Q ⟨ρ,F,ab,k⟩=>⟨ρ,F,ab,(Rk.bind k).imp fun d _ q v F' H' s r=>Rk.ok q v F' H' s r⟩
def getD:A->R PyData
 | .d x=>.ok x
 | _=>.bad
def eA(f:Sg->R A):Sg->R PyData:=fun ρ=>(f ρ).bind getD
theorem bP{f:Sg->R A}(h:PV X c E e f):PD X c E e (eA f):=PE.imp h fun σ H Q ⟨ρ,F,ab,k⟩=>⟨ρ,F,ab,(Rk.bind k).imp fun d _ q v F' H' s r=>by
 cases d with
 | d x=>exact Rk.ok q v F' H' s r
 | _=>exact False.elim q⟩
def eL(f:Sg->R (List PyData)):Sg->R PyData:=fun ρ=>(f ρ).bind fun xs=>.ok (.list xs)
theorem cE{f:Sg->R (List PyData)}(h:PN X c E e f):PD X c E e (eL f):=PE.imp h fun σ H Q ⟨ρ,F,ab,k⟩=>⟨ρ,F,ab,(Rk.bind k).imp fun xs _ q v F' H' s r=>by
 obtain ⟨p,vs,h1,h2,h3,h4,h5⟩:=r
 subst h1
 refine Rk.ok q (.ref p) (upd F' p (.lst vs)) H' ⟨s.hh,fun a o z=>?_,fun a o z=>?_,fun a z n=>?_⟩ (.lst (SqL.of bJ) (h5.same (aF.upd h4)))
 ·rw[aU (bV (s.ff a o z) h4)];exact s.ff a o z
 ·by_cases w:a=p
  · subst w; rw [bJ] at z; rw [h3]; exact z
  · rw [aU w] at z; exact s.fh a o z
 ·by_cases w:a=p
  · subst w; exact .inl h2
  · rw [aU w] at n; exact s.nw a z n⟩
def e1{α β:Type}(g:α->R β)(f:Sg->R α):Sg->R β:=fun ρ=>(f ρ).bind g
def e2{α β γ:Type}(g:α->β->R γ)(f:Sg->R α)(f':Sg->R β):Sg->R γ:=fun ρ=>(f ρ).bind fun x=>(f' ρ).bind fun y=>g x y
noncomputable def bN:PyData->PyData->R PyData
 | .int i,.int j=>.ok (.int (i+j))
 | .str x,.str y=>if x.length+y.length<=sizeLine then .ok (.str (x++y)) else .bad
 | .tuple xs,.tuple ys=>if xs.isEmpty=false/\xs.length+ys.length<=sizeLine then .ok (.tuple (xs++ys)) else .bad
 | _,_=>.bad
def dSub:PyData->PyData->R PyData
 | .int i,.int j=>.ok (.int (i - j))
 | _,_=>.bad
noncomputable def dMul:PyData->PyData->R PyData
 | .int i,.int j=>if (-18446744073709551616 < i/\i < 18446744073709551616)\/(-18446744073709551616 < j/\j < 18446744073709551616) then .ok (.int (i * j)) else .bad
 | _,_=>.bad
def dDiv:PyData->PyData->R PyData
 | .int i,.int j=>if 0 < j/\j < 18446744073709551616 then .ok (.int (i / j)) else .bad
 | _,_=>.bad
def dMod:PyData->PyData->R PyData
 | .int i,.int j=>if 0 < j then .ok (.int (i % j)) else .bad
 | _,_=>.bad
def dNeg:PyData->R PyData
 | .int i=>.ok (.int (-i))
 | _=>.bad
def dLt:PyData->PyData->R PyData
 | .int i,.int j=>.ok (.bool (decide (i < j)))
 | _,_=>.bad
def dLe:PyData->PyData->R PyData
 | .int i,.int j=>.ok (.bool (decide (i<=j)))
 | _,_=>.bad
def dGt:PyData->PyData->R PyData
 | .int i,.int j=>.ok (.bool (decide (j < i)))
 | _,_=>.bad
def dGe:PyData->PyData->R PyData
 | .int i,.int j=>.ok (.bool (decide (j<=i)))
 | _,_=>.bad
def dEq(x y:PyData):R PyData:=if SeqAt.shaped x=true/\SeqAt.shaped y=true then .ok (.bool (PyData.eqv x y)) else .bad
def dNe(x y:PyData):R PyData:=if SeqAt.shaped x=true/\SeqAt.shaped y=true then .ok (.bool (!PyData.eqv x y)) else .bad
def eG:PyData->Bool
 | .none=>true
 | _=>false
def dIs(x y:PyData):R PyData:=if eG y=true then .ok (.bool (eG x)) else .bad
def dIsnt(x y:PyData):R PyData:=if eG y=true then .ok (.bool (!eG x)) else .bad
noncomputable def inD:PyData->PyData->Option Bool
 | .str i,.str j=>some (!(Builtin.Str.occurrences j i 0 j.length 1).isEmpty)
 | x,.list xs=>if SeqAt.shaped x=true/\SeqAt.shaped (.list xs)=true then some (xs.any fun y=>PyData.eqv y x) else none
 | x,.tuple xs=>if SeqAt.shaped x=true/\SeqAt.shaped (.tuple xs)=true then some (xs.any fun y=>PyData.eqv y x) else none
 | _,_=>none
def dIn(x y:PyData):R PyData:=match inD x y with
 | some b=>.ok (.bool b)
 | none=>.bad
noncomputable def dIx:PyData->PyData->R PyData
 | .list xs,.int i=>match atI xs i with
  | some v=>.ok v
  | none=>.bad
 | .tuple xs,.int i=>match atI xs i with
  | some v=>.ok v
  | none=>.bad
 | .str z,.int i=>if z.length<=sizeLine then match atI z.cps.toList i with
  | some u=>.ok (.str ⟨#[u]⟩)
  | none=>.bad else .bad
 | _,_=>.bad
end
end Fl
namespace Fl
open PySem L2 PyProof.Rows
section
variable{X:Cx}{c:Ct}{E:XK}{e a b:Expr}{α β γ:Type}{Ra:VR α}{Rb:VR β}{Rc:VR γ}{pos:Pos}
def r2D(Ra:VR α)(Rb:VR β)(Rc:VR γ)(g:α->β->R γ):R2:=fun v u H Q=>∃ H0 H1 F a b d,aF F H/\Ra a v H0 F H/\Rb b u H1 F H/\g a b=.ok d/\∀ w F' H',Ext F H F' H'->Rc d w H F' H'->Q w H'
def r1D(Ra:VR α)(Rb:VR β)(g:α->R β):V->Hp->VK->Prop:=fun v H Q=>∃ H0 F a b,aF F H/\Ra a v H0 F H/\g a=.ok b/\∀ w F' H',Ext F H F' H'->Rb b w H F' H'->Q w H'
theorem lG{g:α->β->R γ}:Op2 c Ra Rb Rc g (r2D Ra Rb Rc g):=fun H0 H1 F H a b d v u Q sf ra rb eg q=>⟨H0,H1,F,a,b,d,sf,ra,rb,eg,q⟩
theorem iQ{g:α->R β}:Op1 c Ra Rb g (r1D Ra Rb g):=fun H0 F H a b v Q sf ra eg q=>⟨H0,F,a,b,sf,ra,eg,q⟩
theorem a5{op:Operator}{g:PyData->PyData->R PyData}{fa fb:Sg->R PyData}(ho:OpR X (binaryOp op) (r2D (aQ c) (aQ c) (bH c) g))(hp:bI g)(ha:PR X c E a fa)(hb:PR X c E b fb):PD X c E (.BinOp a op b pos) (e2 g fa fb):=
 PE.imp (wE ho ha hb) fun σ H Q h=>tV2 lG hp (jJ c) (eF c) h
theorem gX{op:UnaryOp}{g:PyData->R PyData}{fa:Sg->R PyData}(ho:UnR X (unaryOp op) (r1D (aQ c) (bH c) g))(hp:fG g)(ha:PR X c E a fa):PD X c E (.UnaryOp op a pos) (e1 g fa):=
 PE.imp (aAQ ho ha) fun σ H Q h=>tV1 iQ hp (eF c) h
theorem gB{op:CmpOp}{g:PyData->PyData->R PyData}{fa fb:Sg->R PyData}(ho:OpR X (compareOp op) (r2D (aQ c) (aQ c) (bH c) g))(hp:bI g)(ha:PR X c E a fa)(hb:PR X c E b fb)(hm:behindInMarks op b=false):PD X c E (.Compare a [op] [b] pos) (e2 g fa fb):=
 PE.imp (pT ho ha hb hm) fun σ H Q h=>tV2 lG hp (jJ c) (eF c) h
theorem bL{g:PyData->PyData->R PyData}{fa fb:Sg->R PyData}(ho:IxR X (r2D (aQ c) (aQ c) (bH c) g))(hp:bI g)(ha:PR X c E a fa)(hb:PR X c E b fb)(hs:pV b:=by exact fun _ _=>rfl):PD X c E (.Subscript a b pos) (e2 g fa fb):=
 PE.imp (L2.aAX ho ha hb hs) fun σ H Q h=>tV2 lG hp (jJ c) (eF c) h
theorem cP(hK:X.K=c.K):OpR X (binaryOp .Add) (r2D (aQ c) (aQ c) (bH c) bN):=by
 intro pins s σ H v u x y Q I rx ry h
 obtain ⟨H0,H1,F,a,b,d,sf,ra,rb,eg,q⟩:=h
 unfold bN at eg
 split at eg
 ·rename_i i j
  cases eg
  obtain rfl:=aP.int_of ra
  obtain rfl:=aP.int_of rb
  exact yO pins s σ H _ _ x y Q I rx ry ⟨i,j,rfl,rfl,q _ F H (Ext.refl sf) (.int _)⟩
 ·rename_i i j
  split at eg
  ·rename_i hz
   cases eg
   obtain rfl:=aP.str_of ra
   obtain rfl:=aP.str_of rb
   exact qZ pins s σ H _ _ x y Q I rx ry ⟨i,j,rfl,rfl,hz,q _ F H (Ext.refl sf) (.str _)⟩
  ·cases eg
 ·rename_i xs ys
  split at eg
  ·rename_i hz
   cases eg
   obtain ⟨pa,vs,rfl,fa,ha,da⟩:=aP.tup_of sf ra
   obtain ⟨pb,us,rfl,fb,hb,db⟩:=aP.tup_of sf rb
   rw[<-hK] at ha hb
   refine xD pins s σ H _ _ x y Q I rx ry ⟨pa,pb,vs,us,rfl,rfl,ha,hb,?_,by rw[da.length,db.length];exact hz.2,fun z=>?_,fun z p hp=>?_⟩
   ·intro z;subst z;obtain rfl:xs=[]:=by cases da;rfl
    exact absurd hz.1 (by decide)
   ·subst z
    obtain rfl:ys=[]:=by cases db;rfl
    exact q _ F H (Ext.refl sf) (by rw[List.append_nil];exact .tup fa da)
   ·exact q _ _ _ (Ext.new sf hp) (.tup (SqT.of bJ) ((da.append db).same (aF.upd (bQ sf hp))))
  ·cases eg
 ·cases eg
theorem b9:bI bN:=by
 intro a b e h
 unfold bN at h
 split at h<;>(try split at h)<;>cases h
theorem fH{f:Value->Value->Sem Value}{g:PyData->PyData->R PyData}{C:Int->Int->Prop}{k:Int->Int->PyData}{kv:Int->Int->V}(ho:OpR X f (rI C kv))(hk:∀ i j F,DatV c.K F (kv i j) (k i j))
  (hg:∀ a b d,g a b=.ok d->∃ i j,a=.int i/\b=.int j/\C i j/\d=k i j):OpR X f (r2D (aQ c) (aQ c) (bH c) g):=by
 intro pins s σ H v u x y Q I rx ry h
 obtain ⟨H0,H1,F,a,b,d,sf,ra,rb,eg,q⟩:=h
 obtain ⟨i,j,rfl,rfl,hc,rfl⟩:=hg a b d eg
 obtain rfl:=aP.int_of ra
 obtain rfl:=aP.int_of rb
 exact ho pins s σ H _ _ x y Q I rx ry ⟨i,j,rfl,rfl,hc,q _ F H (Ext.refl sf) (hk i j F)⟩
theorem lH{f:Value->Value->Sem Value}{kv:Int->Int->V}(ho:OpR X f (rI0 kv)):OpR X f (rI (fun _ _=>True) kv):=fun pins s σ H x y v u Q I rx ry ⟨i,j,h1,h2,_,q⟩=>ho pins s σ H x y v u Q I rx ry ⟨i,j,h1,h2,q⟩
theorem mB:OpR X (binaryOp .Sub) (r2D (aQ c) (aQ c) (bH c) dSub):=fH (lH yP) (fun _ _ _=>.int _) fun a b d h=>by
 unfold dSub at h;split at h
 · cases h; exact ⟨_, _, rfl, rfl, trivial, rfl⟩
 · cases h
theorem eX:OpR X (binaryOp .Mult) (r2D (aQ c) (aQ c) (bH c) dMul):=fH yQ (fun _ _ _=>.int _) fun a b d h=>by
 unfold dMul at h;split at h
 ·split at h
  · rename_i hc; cases h; exact ⟨_, _, rfl, rfl, hc, rfl⟩
  · cases h
 ·cases h
theorem fP:OpR X (binaryOp .FloorDiv) (r2D (aQ c) (aQ c) (bH c) dDiv):=fH vC (fun _ _ _=>.int _) fun a b d h=>by
 unfold dDiv at h;split at h
 ·split at h
  · rename_i hc; cases h; exact ⟨_, _, rfl, rfl, hc, rfl⟩
  · cases h
 ·cases h
theorem c6:OpR X (binaryOp .Mod) (r2D (aQ c) (aQ c) (bH c) dMod):=fH yR (fun _ _ _=>.int _) fun a b d h=>by
 unfold dMod at h;split at h
 ·split at h
  · rename_i hc; cases h; exact ⟨_, _, rfl, rfl, hc, rfl⟩
  · cases h
 ·cases h
theorem oA:OpR X (compareOp .Lt) (r2D (aQ c) (aQ c) (bH c) dLt):=fH (lH aAR) (fun _ _ _=>.bl _) fun a b d h=>by
 unfold dLt at h;split at h
 · cases h; exact ⟨_, _, rfl, rfl, trivial, rfl⟩
 · cases h
theorem fJ:OpR X (compareOp .LtE) (r2D (aQ c) (aQ c) (bH c) dLe):=fH (lH aAS) (fun _ _ _=>.bl _) fun a b d h=>by
 unfold dLe at h;split at h
 · cases h; exact ⟨_, _, rfl, rfl, trivial, rfl⟩
 · cases h
theorem zE:OpR X (compareOp .Gt) (r2D (aQ c) (aQ c) (bH c) dGt):=fH (lH aAT) (fun _ _ _=>.bl _) fun a b d h=>by
 unfold dGt at h;split at h
 · cases h; exact ⟨_, _, rfl, rfl, trivial, rfl⟩
 · cases h
theorem tD:OpR X (compareOp .GtE) (r2D (aQ c) (aQ c) (bH c) dGe):=fH (lH aAU) (fun _ _ _=>.bl _) fun a b d h=>by
 unfold dGe at h;split at h
 · cases h; exact ⟨_, _, rfl, rfl, trivial, rfl⟩
 · cases h
theorem jK:bI dSub:=by intro a b e h;unfold dSub at h;split at h<;>cases h
theorem c9:bI dMul:=by intro a b e h;unfold dMul at h;split at h<;>(try split at h)<;>cases h
theorem dR:bI dDiv:=by intro a b e h;unfold dDiv at h;split at h<;>(try split at h)<;>cases h
theorem cF:bI dMod:=by intro a b e h;unfold dMod at h;split at h<;>(try split at h)<;>cases h
theorem kR:bI dLt:=by intro a b e h;unfold dLt at h;split at h<;>cases h
theorem dB:bI dLe:=by intro a b e h;unfold dLe at h;split at h<;>cases h
theorem vM:bI dGt:=by intro a b e h;unfold dGt at h;split at h<;>cases h
theorem oB:bI dGe:=by intro a b e h;unfold dGe at h;split at h<;>cases h
theorem fQ:bI dEq:=by intro a b e h;unfold dEq at h;split at h<;>cases h
theorem oC:bI dNe:=by intro a b e h;unfold dNe at h;split at h<;>cases h
theorem rL:bI dIsnt:=by intro a b e h;unfold dIsnt at h;split at h<;>cases h
theorem gL:bI dIn:=by intro a b e h;unfold dIn at h;split at h<;>cases h
theorem dA:fG dNeg:=by intro a e h;unfold dNeg at h;split at h<;>cases h
theorem a6:bI dIx:=by
 intro a b e h
 unfold dIx at h
 split at h<;>(try split at h)<;>(try split at h)<;>cases h
theorem eY:UnR X (unaryOp .USub) (r1D (aQ c) (bH c) dNeg):=by
 intro pins s σ H v x Q I rx h
 obtain ⟨H0,F,a,d,sf,ra,eg,q⟩:=h
 unfold dNeg at eg
 split at eg
 ·rename_i i
  cases eg
  obtain rfl:=aP.int_of ra
  exact yT pins s σ H _ x Q I rx ⟨i,rfl,q _ F H (Ext.refl sf) (.int _)⟩
 ·cases eg
theorem iE(hK:X.K=c.K)(hu:X.A.units+64 < cLine):OpR X (compareOp .Eq) (r2D (aQ c) (aQ c) (bH c) dEq):=by
 intro pins s σ H v u x y Q I rx ry h
 obtain ⟨H0,H1,F,a,b,d,sf,ra,rb,eg,q⟩:=h
 unfold dEq at eg
 split at eg
 ·rename_i hs
  cases eg
  exact y4 hu pins s σ H _ _ x y Q I rx ry ⟨a,b,by rw[hK];exact aP.heap sf ra,by rw[hK];exact aP.heap sf rb,hs.1,hs.2,q _ F H (Ext.refl sf) (.bl _)⟩
 ·cases eg
theorem tE(hK:X.K=c.K)(hu:X.A.units+64 < cLine):OpR X (compareOp .NotEq) (r2D (aQ c) (aQ c) (bH c) dNe):=by
 intro pins s σ H v u x y Q I rx ry h
 obtain ⟨H0,H1,F,a,b,d,sf,ra,rb,eg,q⟩:=h
 unfold dNe at eg
 split at eg
 ·rename_i hs
  cases eg
  exact y6 hu pins s σ H _ _ x y Q I rx ry ⟨a,b,by rw[hK];exact aP.heap sf ra,by rw[hK];exact aP.heap sf rb,hs.1,hs.2,q _ F H (Ext.refl sf) (.bl _)⟩
 ·cases eg
theorem m2{K:Frag}{F H:Hp}{v:V}{d:PyData}(h:aP K F H v d):decide (v=.non)=eG d:=by
 rcases h with h|⟨p,vs,xs,h1,h2,_⟩
 · cases h <;> rfl
 · subst h1 h2; rfl
theorem vN:OpR X (compareOp .IsNot) (r2D (aQ c) (aQ c) (bH c) dIsnt):=by
 intro pins s σ H v u x y Q I rx ry h
 obtain ⟨H0,H1,F,a,b,d,sf,ra,rb,eg,q⟩:=h
 unfold dIsnt at eg
 split at eg
 ·rename_i hs
  cases eg
  have e2:=m2 rb
  rw[hs] at e2
  refine w4 pins s σ H _ _ x y Q I rx ry ⟨of_decide_eq_true e2,q _ F H (Ext.refl sf) ?_⟩
  rw[m2 ra];exact .bl _
 ·cases eg
theorem rM{xs:List PyData}(h:SeqAt.shaped (.list xs)=true):PyData.canLayAll0 xs=true/\PyData.depthAll xs<=63:=by
 have h':(PyData.canLay0 (.list xs) && decide ((PyData.list xs).depth<=64))=true:=h
 rw[Bool.and_eq_true] at h'
 have hd:PyData.depthAll xs+1<=64:=of_decide_eq_true h'.2
 exact ⟨h'.1,by omega⟩
theorem pL{xs:List PyData}(h:SeqAt.shaped (.tuple xs)=true):PyData.canLayAll0 xs=true/\PyData.depthAll xs<=63:=by
 have h':(PyData.canLay0 (.tuple xs) && decide ((PyData.tuple xs).depth<=64))=true:=h
 rw[Bool.and_eq_true] at h'
 have hd:PyData.depthAll xs+1<=64:=of_decide_eq_true h'.2
 exact ⟨h'.1,by omega⟩
theorem lI{d:PyData}(h:SeqAt.shaped d=true):d.canLay0=true:=by
 have h':(PyData.canLay0 d && decide (d.depth<=64))=true:=h
 rw[Bool.and_eq_true] at h'
 exact h'.1
theorem inD_cases{x y:PyData}{b:Bool}(h:inD x y=some b):(∃ i j,x=.str i/\y=.str j/\b = !(Builtin.Str.occurrences j i 0 j.length 1).isEmpty) \/
  (∃ xs,y=.list xs/\SeqAt.shaped x=true/\SeqAt.shaped (.list xs)=true/\b=xs.any fun z=>PyData.eqv z x)\/(∃ xs,y=.tuple xs/\SeqAt.shaped x=true/\SeqAt.shaped (.tuple xs)=true/\b=xs.any fun z=>PyData.eqv z x):=by
 unfold inD at h
 split at h
 ·cases h;exact .inl ⟨_,_,rfl,rfl,rfl⟩
 ·split at h
  · rename_i hs; cases h; exact .inr (.inl ⟨_, rfl, hs.1, hs.2, rfl⟩)
  · cases h
 ·split at h
  · rename_i hs; cases h; exact .inr (.inr ⟨_, rfl, hs.1, hs.2, rfl⟩)
  · cases h
 ·cases h
theorem oD{a b:Nat}(h:a<=63):min a b<=63:=Nat.le_trans (Nat.min_le_left _ _) h
theorem jL(hK:X.K=c.K)(hu:X.A.units+64 < cLine):OpR X (compareOp .In) (r2D (aQ c) (aQ c) (bH c) dIn):=by
 intro pins s σ H v u x y Q I rx ry h
 obtain ⟨H0,H1,F,a,b,d,sf,ra,rb,eg,q⟩:=h
 unfold dIn at eg
 split at eg
 ·rename_i bb hb
  cases eg
  have fin:EP X pins σ Q (.bool bb) s:=⟨.bl bb,H,I,rfl,q _ F H (Ext.refl sf) (.bl _)⟩
  rcases inD_cases hb with ⟨i,j,rfl,rfl,rfl⟩|⟨xs,rfl,h1,h2,rfl⟩|⟨xs,rfl,h1,h2,rfl⟩
  ·obtain rfl:=aP.str_of ra
   obtain rfl:=aP.str_of rb
   exact sH pins s σ H _ _ x y Q I rx ry ⟨i,j,rfl,rfl,q _ F H (Ext.refl sf) (.bl _)⟩
  ·obtain ⟨as,r1⟩:=DatV.reads I (by rw[hK];exact aP.heap sf ra) rx
   obtain ⟨bs,r2⟩:=DatV.reads I (by rw[hK];exact aP.heap sf rb) ry
   have hs:=rM h2
   have hm:=oD (b:=a.depth) hs.2
   exact SeqAt.in_list_reads r2 r1 hs.1 (lI h1) (by omega) fin
  ·obtain ⟨as,r1⟩:=DatV.reads I (by rw[hK];exact aP.heap sf ra) rx
   obtain ⟨bs,r2⟩:=DatV.reads I (by rw[hK];exact aP.heap sf rb) ry
   have hs:=pL h2
   have hm:=oD (b:=a.depth) hs.2
   exact SeqAt.in_tuple_reads r2 r1 hs.1 (lI h1) (by omega) fin
 ·cases eg
theorem bM(hK:X.K=c.K):IxR X (r2D (aQ c) (aQ c) (bH c) dIx):=by
 intro value slice pins s σ H v u x y Q I rx ry h hs
 obtain ⟨H0,H1,F,a,b,d,sf,ra,rb,eg,q⟩:=h
 unfold dIx at eg
 split at eg
 ·rename_i xs i
  split at eg
  ·rename_i w hw
   cases eg
   obtain ⟨p,vs,rfl,h1,h2⟩:=aP.lst_of sf ra
   obtain rfl:=aP.int_of rb
   obtain ⟨z,h3,h4⟩:=n9 h2 hw
   rw[<-hK] at h1
   exact xF value slice pins s σ H _ _ x y Q I rx ry ⟨p,vs,i,z,rfl,rfl,h1,h3,q _ F H (Ext.refl sf) h4⟩ hs
  ·cases eg
 ·rename_i xs i
  split at eg
  ·rename_i w hw
   cases eg
   obtain ⟨p,vs,rfl,_,h1,h2⟩:=aP.tup_of sf ra
   obtain rfl:=aP.int_of rb
   obtain ⟨z,h3,h4⟩:=n9 h2 hw
   rw[<-hK] at h1
   exact y0 value slice pins s σ H _ _ x y Q I rx ry ⟨p,vs,i,z,rfl,rfl,h1,h3,q _ F H (Ext.refl sf) h4⟩ hs
  ·cases eg
 ·rename_i z i
  split at eg
  ·rename_i hz
   split at eg
   ·rename_i w hw
    cases eg
    obtain rfl:=aP.str_of ra
    obtain rfl:=aP.int_of rb
    exact y2 value slice pins s σ H _ _ x y Q I rx ry ⟨z,i,w,rfl,rfl,hz,hw,q _ F H (Ext.refl sf) (.str _)⟩ hs
   ·cases eg
  ·cases eg
 ·cases eg
def tTf(c:Ct)(E:XK)(f:Sg->R Bool):TT:=fun σ H Q=>∃ ρ F,Ab c ρ σ F H/\Rk c E F H (f ρ) fun b=>∀ F' H',Ext F H F' H'->Q b H'
abbrev PTf(X:Cx)(c:Ct)(E:XK)(e:Expr)(f:Sg->R Bool):Prop:=PT X e (tTf c E f)
def asB:PyData->R Bool
 | .bool b=>.ok b
 | _=>.bad
theorem mC{f:Sg->R PyData}{σ:L2.St}{H:Hp}{Q:Bool->Hp->Prop}(h:tTf c E (e1 asB f) σ H Q):tV (bH c) c E f σ H fun x H'=>∃ k,x=.bl k/\Q k H':=by
 obtain ⟨ρ,F,ab,h⟩:=h
 refine ⟨ρ,F,ab,(Rk.bind h).imp fun d _ q v F' H' s r=>?_⟩
 cases d with
 | bool b=>exact ⟨b,DatV.bl_of r,Rk.ok q F' H' s⟩
 | _=>exact False.elim q
theorem dH{op:CmpOp}{g:PyData->PyData->R PyData}{fa fb:Sg->R PyData}(ho:OpR X (compareOp op) (r2D (aQ c) (aQ c) (bH c) g))(hp:bI g)(ha:PR X c E a fa)(hb:PR X c E b fb)(hm:behindInMarks op b=false):PTf X c E (.Compare a [op] [b] pos) (e1 asB (e2 g fa fb)):=
 PT.imp (w5 ho ha hb hm) fun σ H Q h=>tV2 lG hp (jJ c) (eF c) (mC h)
theorem dQ{f:Sg->R PyData}(h:PD X c E e f)(he:∀ whole,isTrue e X.env whole=(do let v <-whole;standAt e.pos;holding [v] (truthy v)):=by intro _;rfl):PTf X c E e (e1 asB f):=
 PT.imp (L2.dQ h he) fun σ H Q h=>mC h
def aCI(f g:Sg->R Bool):Sg->R Bool:=fun ρ=>(f ρ).bind fun b=>if b=true then g ρ else .ok false
def bOr(f g:Sg->R Bool):Sg->R Bool:=fun ρ=>(f ρ).bind fun b=>if b=true then .ok true else g ρ
def dN(f:Sg->R Bool):Sg->R Bool:=fun ρ=>(f ρ).bind fun b=>.ok (!b)
abbrev PWf(X:Cx)(c:Ct)(E:XK)(e:Expr)(f:Sg->R Bool):Prop:=PW X e (tTf c E f)
theorem PW.imp{X:Cx}{e:Expr}{t t':TT}(h:PW X e t)(i:∀ σ H Q,t' σ H Q->t σ H Q):PW X e t':=fun whole pins s σ H Q I q=>h whole pins s σ H Q I (i σ H Q q)
theorem tor{f g:Sg->R Bool}{σ:L2.St}{H:Hp}{Q:Bool->Hp->Prop}(h:tTf c E (bOr f g) σ H Q):tOr (tTf c E f) (tTf c E g) σ H Q:=by
 obtain ⟨ρ,F,ab,h⟩:=h
 refine ⟨ρ,F,ab,(Rk.bind h).imp fun b _ q F' H' s=>?_⟩
 cases b with
 | false=>exact ⟨ρ,F',ab.ext s,(Rk.ext s q).imp fun d _ z F2 H2 s2=>z F2 H2 (s.trans s2)⟩
 | true=>exact Rk.ok q F' H' s
theorem iB{f:Sg->R Bool}(h:PTf X c E a f):PWf X c E (.BoolOp .Or [a] pos) f:=L2.iB h
theorem iK{f g:Sg->R Bool}{rest:List Expr}(h:PTf X c E a f)(h2:PWf X c E (.BoolOp .Or (b::rest) pos) g):PWf X c E (.BoolOp .Or (a::b::rest) pos) (bOr f g):=PW.imp (L2.iK h h2) fun _ _ _ q=>tor q
theorem cR{f:Sg->R Bool}(h:PTf X c E a f):PTf X c E (.UnaryOp .Not a pos) (dN f):=PT.imp (L2.cR h) fun σ H Q ⟨ρ,F,ab,k⟩=>⟨ρ,F,ab,(Rk.bind k).imp fun b _ q F' H' s=>Rk.ok q F' H' s⟩
noncomputable def jM(f g:Sg->R PyData):Sg->R PyData:=fun ρ=>(f ρ).bind fun x=>(asB x).bind fun b=>if b=true then g ρ else .ok (.bool false)
def eOr(f g:Sg->R PyData):Sg->R PyData:=fun ρ=>(f ρ).bind fun x=>(asB x).bind fun b=>if b=true then .ok (.bool true) else g ρ
def vO(f:Sg->R PyData):Sg->R PyData:=fun ρ=>(f ρ).bind fun x=>(asB x).bind fun b=>.ok (.bool (!b))
def eIf{α:Type}(t:Sg->R Bool)(f g:Sg->R α):Sg->R α:=fun ρ=>(t ρ).bind fun b=>if b=true then f ρ else g ρ
theorem gM{op}{f:Sg->R PyData}(h:PD X c E a f):PD X c E (.BoolOp op [a] pos) f:=yI h
theorem iF{f g:Sg->R PyData}{rest:List Expr}(h:PD X c E a f)(h2:PD X c E (.BoolOp .And (b::rest) pos) g):PD X c E (.BoolOp .And (a::b::rest) pos) (jM f g):=PE.imp (yJ h h2) fun σ H Q zz0=>by
 obtain ⟨ρ,F,ab,k⟩:=zz0
 refine ⟨ρ,F,ab,(Rk.bind k).imp fun d _ q v F' H' s r=>?_⟩
 cases d with
 | bool b=>
  refine ⟨b,DatV.bl_of r,?_⟩
  cases b with
  | true=>exact l6 ⟨ρ,F',ab.ext s,(Rk.ext s q).imp fun d _ z v F2 H2 s2=>z v F2 H2 (s.trans s2)⟩
  | false=>exact l5 (Rk.ok q (.bl false) F' H' s (.bl false))
 | _=>exact False.elim q
theorem wP{f g:Sg->R PyData}{rest:List Expr}(h:PD X c E a f)(h2:PD X c E (.BoolOp .Or (b::rest) pos) g):PD X c E (.BoolOp .Or (a::b::rest) pos) (eOr f g):=PE.imp (aAO h h2) fun σ H Q zz0=>by
 obtain ⟨ρ,F,ab,k⟩:=zz0
 refine ⟨ρ,F,ab,(Rk.bind k).imp fun d _ q v F' H' s r=>?_⟩
 cases d with
 | bool b=>
  refine ⟨b,DatV.bl_of r,?_⟩
  cases b with
  | false=>exact l5 ⟨ρ,F',ab.ext s,(Rk.ext s q).imp fun d _ z v F2 H2 s2=>z v F2 H2 (s.trans s2)⟩
  | true=>exact l6 (Rk.ok q (.bl true) F' H' s (.bl true))
 | _=>exact False.elim q
theorem zF{f:Sg->R PyData}(h:PD X c E a f):PD X c E (.UnaryOp .Not a pos) (vO f):=PE.imp (yK h) fun σ H Q zz0=>by
 obtain ⟨ρ,F,ab,k⟩:=zz0
 refine ⟨ρ,F,ab,(Rk.bind k).imp fun d _ q v F' H' s r=>?_⟩
 cases d with
 | bool b=>exact ⟨b,DatV.bl_of r,Rk.ok q _ F' H' s (.bl _)⟩
 | _=>exact False.elim q
theorem aA1{t:Sg->R Bool}{f g:Sg->R PyData}{q:Expr}(hq:PTf X c E q t)(h:PD X c E a f)(h2:PD X c E b g):PD X c E (.IfExp q a b pos) (eIf t f g):=PE.imp (uU hq h h2) fun σ H Q zz0=>by
 obtain ⟨ρ,F,ab,k⟩:=zz0
 refine ⟨ρ,F,ab,(Rk.bind k).imp fun b _ q F' H' s=>?_⟩
 cases b with
 | true=>exact l6 ⟨ρ,F',ab.ext s,(Rk.ext s q).imp fun d _ z v F2 H2 s2=>z v F2 H2 (s.trans s2)⟩
 | false=>exact l5 ⟨ρ,F',ab.ext s,(Rk.ext s q).imp fun d _ z v F2 H2 s2=>z v F2 H2 (s.trans s2)⟩
noncomputable def eCh(g g':PyData->PyData->R PyData)(fa fb fc:Sg->R PyData):Sg->R PyData:=fun ρ=>(fa ρ).bind fun x=>(fb ρ).bind fun y=>(g x y).bind fun z=>(asB z).bind fun k=>if k=true then (fc ρ).bind fun w=>g' y w else .ok (.bool false)
theorem tF{g g':PyData->PyData->R PyData}(hp:bI g)(hp':bI g'){fa fb fc:Sg->R PyData}{σ:L2.St}{H:Hp}{Q:VK}(h:tV (bH c) c E (eCh g g' fa fb fc) σ H Q) :
  tChain (r2D (aQ c) (aQ c) (bH c) g) (r2D (aQ c) (aQ c) (bH c) g') (tV (aQ c) c E fa) (tV (aQ c) c E fb) (tV (aQ c) c E fc) σ H Q:=by
 obtain ⟨ρ,F,ab,h⟩:=h
 refine ⟨ρ,F,ab,(Rk.bind h).imp fun x _ q v F1 H1 s1 rv=>?_⟩
 refine ⟨ρ,F1,ab.ext s1,((Rk.bind q).ext s1).imp fun y _ q u F2 H2 s2 ru=>?_⟩
 cases eg:g x y with
 | bad=>rw[eg] at q;exact q.elim
 | ex e=>exact absurd eg (hp x y e)
 | ok z=>
  rw[eg] at q
  refine ⟨H,H1,F2,x,y,z,s2.fh,aP.ext s2 rv,ru,eg,fun w F3 H3 s3 rw'=>?_⟩
  have s13:=(s1.trans s2).trans s3
  cases z with
  | bool k=>
   refine ⟨k,DatV.bl_of rw',?_⟩
   cases k with
   | false=>exact l5 (Rk.ok q (.bl false) F3 H3 s13 (.bl false))
   | true=>
    have q':Rk c E F H ((fc ρ).bind fun w=>g' y w) (fun d=>∀ v F' H',Ext F H F' H'->bH c d v H F' H'->Q v H'):=q
    refine l6 ⟨ρ,F3,ab.ext s13,((Rk.bind q').ext s13).imp fun w _ q v' F4 H4 s4 rw2=>?_⟩
    cases eg2:g' y w with
    | bad=>rw[eg2] at q;exact q.elim
    | ex e=>exact absurd eg2 (hp' y w e)
    | ok z2=>
     rw[eg2] at q
     exact ⟨H1,H3,F4,y,w,z2,s4.fh,aP.ext (s3.trans s4) ru,rw2,eg2,fun w' F5 H5 s5 r5=>Rk.ok q w' F5 H5 ((s13.trans s4).trans s5) r5⟩
  | _=>exact False.elim q
theorem oE{op op':CmpOp}{g g':PyData->PyData->R PyData}{cc:Expr}{fa fb fc:Sg->R PyData}(ho:OpR X (compareOp op) (r2D (aQ c) (aQ c) (bH c) g))(hp:bI g)(ho':OpR X (compareOp op') (r2D (aQ c) (aQ c) (bH c) g'))(hp':bI g')
  (ha:PR X c E a fa) (hb:PR X c E b fb) (hc:PR X c E cc fc) (hm:lastMarks [op,op'] [b,cc]=false:=by with_unfolding_all rfl):PD X c E (.Compare a [op,op'] [b,cc] pos) (eCh g g' fa fb fc):=
 PE.imp (uZ ho ho' ha hb hc hm) fun σ H Q h=>tF hp hp' h
theorem gJ{op op':CmpOp}{g g':PyData->PyData->R PyData}{cc:Expr}{fa fb fc:Sg->R PyData}(ho:OpR X (compareOp op) (r2D (aQ c) (aQ c) (bH c) g))(hp:bI g)(ho':OpR X (compareOp op') (r2D (aQ c) (aQ c) (bH c) g'))(hp':bI g')
  (ha:PR X c E a fa) (hb:PR X c E b fb) (hc:PR X c E cc fc) (hm:lastMarks [op,op'] [b,cc]=false:=by with_unfolding_all rfl):PTf X c E (.Compare a [op,op'] [b,cc] pos) (e1 asB (eCh g g' fa fb fc)):=
 PT.imp (L2.gJ ho ho' ha hb hc hm) fun σ H Q h=>tF hp hp' (mC h)
end
end Fl
namespace Fl
open PySem L2 PyProof.Rows
def AFs(g:Gb)(K:Frag)(mg:Str->Option Value)(F:Hp):List A->List V->Prop
 | [],[]=>True
 | a::as,v::vs=>AF g K mg F a v/\AFs g K mg F as vs
 | _,_=>False
theorem AFs.same{g:Gb}{K:Frag}{mg:Str->Option Value}{F F':Hp}(s:aF F F'):∀ {as:List A} {vs:List V},AFs g K mg F as vs->AFs g K mg F' as vs
 | [],[],_=>trivial
 | a::as,v::vs,h=>⟨AF.same s h.1,AFs.same s h.2⟩
theorem AFs.len{g:Gb}{K:Frag}{mg:Str->Option Value}{F:Hp}:∀ {as:List A} {vs:List V},AFs g K mg F as vs->vs.length=as.length
 | [],[],_=>rfl
 | a::as,v::vs,h=>by rw[List.length_cons,List.length_cons,AFs.len h.2]
theorem PA.imp{X:Cx}{es:List Expr}{t t':TA}(h:PA X es t)(i:∀ σ H Q,t' σ H Q->t σ H Q):PA X es t':=fun pos pins s σ H Q I q=>h pos pins s σ H Q I (i σ H Q q)
def tAd(c:Ct)(E:XK)(f:Sg->R (List PyData)):TA:=fun σ H Q=>∃ ρ F,Ab c ρ σ F H/\Rk c E F H (f ρ) fun ds=>∀ vs F' H',Ext F H F' H'->DatVs c.K F' vs ds->Q vs H'
def tAv(c:Ct)(E:XK)(f:Sg->R (List A)):TA:=fun σ H Q=>∃ ρ F,Ab c ρ σ F H/\Rk c E F H (f ρ) fun ds=>∀ vs F' H',Ext F H F' H'->AFs c.g c.K c.mg F' ds vs->Q vs H'
abbrev PAd(X:Cx)(c:Ct)(E:XK)(es:List Expr)(f:Sg->R (List PyData)):Prop:=PA X es (tAd c E f)
abbrev PAv(X:Cx)(c:Ct)(E:XK)(es:List Expr)(f:Sg->R (List A)):Prop:=PA X es (tAv c E f)
noncomputable def aJ{α:Type}:Sg->R (List α):=fun _=>.ok []
def aB{α:Type}(f:Sg->R α)(g:Sg->R (List α)):Sg->R (List α):=fun ρ=>(f ρ).bind fun x=>(g ρ).bind fun xs=>.ok (x::xs)
section
variable{X:Cx}{c:Ct}{E:XK}{e a b:Expr}{es:List Expr}{pos:Pos}
theorem b8:PAd X c E [] aJ:=PA.imp aO fun σ H Q ⟨ρ,F,ab,k⟩=>Rk.ok k [] F H (Ext.refl ab.fh) .nil
theorem aY:PAv X c E [] aJ:=PA.imp aO fun σ H Q ⟨ρ,F,ab,k⟩=>Rk.ok k [] F H (Ext.refl ab.fh) trivial
theorem bG{f:Sg->R PyData}{g:Sg->R (List PyData)}(h:PD X c E e f)(h2:PAd X c E es g)(hs:starEach (e::es) X.env=(false,eval e X.env)::starEach es X.env:=by rfl):PAd X c E (e::es) (aB f g):=PA.imp (aG h h2 hs) fun σ H Q zz0=>by
 obtain ⟨ρ,F,ab,k⟩:=zz0
 refine ⟨ρ,F,ab,(Rk.bind k).imp fun x _ q v F1 H1 s1 r1=>⟨ρ,F1,ab.ext s1,((Rk.bind q).ext s1).imp fun xs _ q vs F2 H2 s2 r2=>?_⟩⟩
 exact Rk.ok q (v::vs) F2 H2 (s1.trans s2) (.cons (DatV.same s2.ff r1) r2)
theorem aE{f:Sg->R A}{g:Sg->R (List A)}(h:PV X c E e f)(h2:PAv X c E es g)(hs:starEach (e::es) X.env=(false,eval e X.env)::starEach es X.env:=by rfl):PAv X c E (e::es) (aB f g):=PA.imp (aG h h2 hs) fun σ H Q zz0=>by
 obtain ⟨ρ,F,ab,k⟩:=zz0
 refine ⟨ρ,F,ab,(Rk.bind k).imp fun x _ q v F1 H1 s1 r1=>⟨ρ,F1,ab.ext s1,((Rk.bind q).ext s1).imp fun xs _ q vs F2 H2 s2 r2=>?_⟩⟩
 exact Rk.ok q (v::vs) F2 H2 (s1.trans s2) ⟨AF.same s2.ff r1,r2⟩
def gN(f:Sg->R (List PyData)):Sg->R PyData:=fun ρ=>(f ρ).bind fun xs=>if xs.length<=16777216 then .ok (.tuple xs) else .bad
def dC(f:Sg->R (List PyData)):Sg->R (List PyData):=fun ρ=>(f ρ).bind fun xs=>if xs.length<=16777216 then .ok xs else .bad
theorem cG:sizeLine=16777216:=sizeLine_eq
theorem iG{x1}{f:Sg->R (List PyData)}(h:PAd X c E es f):PD X c E (.Tuple es x1 pos) (gN f):=PE.imp (yV h) fun σ H Q zz0=>by
 obtain ⟨ρ,F,ab,k⟩:=zz0
 refine ⟨ρ,F,ab,(Rk.bind k).imp fun xs _ q vs F1 H1 s1 r1=>?_⟩
 by_cases hz:xs.length<=16777216
 ·rw[if_pos hz] at q
  refine ⟨by rw[r1.length,cG];exact hz,fun p hp=>?_⟩
  exact Rk.ok q (.ref p) _ _ (s1.trans (Ext.new s1.fh hp)) (.tup (SqT.of bJ) (r1.same (aF.upd (bQ s1.fh hp))))
 ·rw[if_neg hz] at q;exact q.elim
theorem d9{f:Sg->R (List PyData)}(h:PAd X c E es f):PN X c E (.List es pos) (dC f):=PE.imp (yW h) fun σ H Q zz0=>by
 obtain ⟨ρ,F,ab,k⟩:=zz0
 refine ⟨ρ,F,ab,(Rk.bind k).imp fun xs _ q vs F1 H1 s1 r1=>?_⟩
 by_cases hz:xs.length<=16777216
 ·rw[if_pos hz] at q
  refine ⟨by rw[r1.length,cG];exact hz,fun p hp=>?_⟩
  exact Rk.ok q (.ref p) _ _ (s1.trans (Ext.own s1.fh hp)) ⟨p,vs,rfl,bQ s1.hh hp,bJ,bQ s1.fh hp,r1⟩
 ·rw[if_neg hz] at q;exact q.elim
noncomputable def dLen:PyData->R PyData
 | .str z=>if z.length<=16777216 then .ok (.int z.length) else .bad
 | .list xs=>.ok (.int xs.length)
 | .tuple xs=>.ok (.int xs.length)
 | _=>.bad
theorem plain_len:fG dLen:=by intro a e h;unfold dLen at h;split at h<;>(try split at h)<;>cases h
theorem cT{fa:Sg->R PyData}(hK:X.K=c.K)(h0:PE X e (tCB (fun xs H Q=>∃ x n,xs=[x]/\yU X.K x H n/\Q (.int n) H) (cV (tV (aQ c) c E fa) fC))):PD X c E e (e1 dLen fa):=
 PE.imp h0 fun σ H Q h=>by
  obtain ⟨ρ,F,ab,k⟩:=tV1 (Ra:=aQ c) iQ plain_len (eF c) h
  refine ⟨ρ,F,ab,k.imp fun d _ q v F' H' s r=>?_⟩
  obtain ⟨H0,F1,a,d',sf,ra,eg,q⟩:=q v F' H' s r
  unfold dLen at eg
  split at eg
  ·rename_i z
   split at eg
   ·rename_i hz
    cases eg
    obtain rfl:=aP.str_of ra
    exact ⟨_,_,rfl,⟨by rw[cG];exact hz,rfl⟩,q _ F1 H' (Ext.refl sf) (.int _)⟩
   ·cases eg
  ·cases eg
   obtain ⟨p,vs,rfl,h1,h2⟩:=aP.lst_of sf ra
   rw[<-hK] at h1
   exact ⟨_,vs.length,rfl,.inl ⟨vs,h1,rfl⟩,q _ F1 H' (Ext.refl sf) (by rw[h2.length];exact .int _)⟩
  ·cases eg
   obtain ⟨p,vs,rfl,_,h1,h2⟩:=aP.tup_of sf ra
   rw[<-hK] at h1
   exact ⟨_,vs.length,rfl,.inr ⟨vs,h1,rfl⟩,q _ F1 H' (Ext.refl sf) (by rw[h2.length];exact .int _)⟩
  ·cases eg
noncomputable def dTup:PyData->R PyData
 | .list xs=>.ok (.tuple xs)
 | .tuple xs=>.ok (.tuple xs)
 | _=>.bad
theorem tG:fG dTup:=by intro a e h;unfold dTup at h;split at h<;>cases h
theorem gO{fa:Sg->R PyData}(hK:X.K=c.K)(h0:PE X e (tCB (fun xs H Q=>∃ p ys,xs=[.ref p]/\((SqL X.K H p ys/\∀ l,H l=none->Q (.ref l) (upd H l (.tup ys)))\/(SqT X.K H p ys/\Q (.ref p) H))) (cV (tV (aQ c) c E fa) fC))):PD X c E e (e1 dTup fa):=
 PE.imp h0 fun σ H Q h=>by
  obtain ⟨ρ,F,ab,k⟩:=tV1 (Ra:=aQ c) iQ tG (eF c) h
  refine ⟨ρ,F,ab,k.imp fun d _ q v F' H' s r=>?_⟩
  obtain ⟨H0,F1,a,d',sf,ra,eg,q⟩:=q v F' H' s r
  unfold dTup at eg
  split at eg
  ·cases eg
   obtain ⟨p,vs,rfl,h1,h2⟩:=aP.lst_of sf ra
   rw[<-hK] at h1
   exact ⟨p,vs,rfl,.inl ⟨h1,fun l hl=>q _ _ _ (Ext.new sf hl) (.tup (SqT.of bJ) (h2.same (aF.upd (bQ sf hl))))⟩⟩
  ·cases eg
   obtain ⟨p,vs,rfl,f1,h1,h2⟩:=aP.tup_of sf ra
   rw[<-hK] at h1
   exact ⟨p,vs,rfl,.inr ⟨h1,q _ F1 H' (Ext.refl sf) (.tup f1 h2)⟩⟩
  ·cases eg
noncomputable def zG:PyData->R (List PyData)
 | .list xs=>.ok xs
 | .tuple xs=>.ok xs
 | _=>.bad
noncomputable def dInt:PyData->R PyData
 | .int i=>.ok (.int i)
 | .bool b=>.ok (.int (if b=true then 1 else 0))
 | _=>.bad
theorem tH:fG dInt:=by intro a e h;unfold dInt at h;split at h<;>cases h
theorem p8{fa:Sg->R PyData}(h0:PE X e (tCB (fun xs H Q=>(∃ i,xs=[.int i]/\Q (.int i) H)\/∃ k,xs=[.bl k]/\Q (.int (if k then 1 else 0)) H) (cV (tV (aQ c) c E fa) fC))):PD X c E e (e1 dInt fa):=
 PE.imp h0 fun σ H Q h=>by
  obtain ⟨ρ,F,ab,k⟩:=tV1 (Ra:=aQ c) iQ tH (eF c) h
  refine ⟨ρ,F,ab,k.imp fun d _ q v F' H' s r=>?_⟩
  obtain ⟨H0,F1,a,d',sf,ra,eg,q⟩:=q v F' H' s r
  unfold dInt at eg
  split at eg
  ·cases eg
   obtain rfl:=aP.int_of ra
   exact .inl ⟨_,rfl,q _ F1 H' (Ext.refl sf) (.int _)⟩
  ·rename_i b
   cases eg
   obtain rfl:=aP.bl_of ra
   exact .inr ⟨b,rfl,q _ F1 H' (Ext.refl sf) (by cases b<;>exact .int _)⟩
  ·cases eg
noncomputable def iR:List PyData->Option (List Bool)
 | []=>some []
 | .bool b::t=>(iR t).map (b :: ·)
 | _=>none
def dAll:PyData->R PyData
 | .list xs=>match iR xs with
  | some bs=>.ok (.bool (bs.all id))
  | none=>.bad
 | _=>.bad
theorem tJ:fG dAll:=by intro a e h;unfold dAll at h;split at h<;>(try split at h)<;>cases h
theorem oF{K:Frag}{F:Hp}:∀ {vs:List V} {xs:List PyData} {bs:List Bool},DatVs K F vs xs->iR xs=some bs->vs=bs.map V.bl
 | _,_,bs,.nil,e=>by cases e;rfl
 | _,_,bs,.cons (d:=d) (ds:=t) h h2,e=>by
  cases d with
  | bool b=>
   unfold iR at e
   cases q:iR t with
   | none=>rw[q] at e;cases e
   | some cs=>
    rw[q] at e
    cases e
    rw[oF h2 q,DatV.bl_of h];rfl
  | _=>cases e
theorem oG{fa:Sg->R PyData}(hK:X.K=c.K)(h0:PE X e (tCB (fun xs H Q=>∃ (a:Addr) (bs:List Bool),xs=[.ref a]/\SqL X.K H a (bs.map V.bl)/\Q (.bl (bs.all id)) H) (cV (tV (aQ c) c E fa) fC))):PD X c E e (e1 dAll fa):=
 PE.imp h0 fun σ H Q h=>by
  obtain ⟨ρ,F,ab,k⟩:=tV1 (Ra:=aQ c) iQ tJ (eF c) h
  refine ⟨ρ,F,ab,k.imp fun d _ q v F' H' s r=>?_⟩
  obtain ⟨H0,F1,a,d',sf,ra,eg,q⟩:=q v F' H' s r
  unfold dAll at eg
  split at eg
  ·split at eg
   ·rename_i bs hb
    cases eg
    obtain ⟨p,vs,rfl,h1,h2⟩:=aP.lst_of sf ra
    rw[<-hK] at h1
    obtain rfl:=oF h2 hb
    exact ⟨p,bs,rfl,h1,q _ F1 H' (Ext.refl sf) (.bl _)⟩
   ·cases eg
  ·cases eg
end
end Fl
namespace Fl
open PySem L2 PyProof.Rows
inductive Fw where
 | nx (ρ:Sg)|bk (ρ:Sg)|ct (ρ:Sg)|rt (a:A)
def AR(g:Gb)(K:Frag)(mg:Str->Option Value)(H F' H':Hp):A->V->Prop
 | .l xs,v=>∃ p us,v=.ref p/\H p=none/\H' p=some (.lst us)/\F' p=none/\DatVs K F' us xs
 | a,v=>AF g K mg F' a v
theorem AR.of{g:Gb}{K:Frag}{mg:Str->Option Value}{H F' H':Hp}{a:A}{v:V}(h:AF g K mg F' a v):AR g K mg H F' H' a v:=by
 cases a with
 | l xs=>exact False.elim h
 | _=>exact h
def fR(c:Ct)(F:Hp)(D:gR):Fw->Prop
 | .nx ρ=>∀ σ' F' H',aF F F'->Ab c ρ σ' F' H'->D.nx σ' H'
 | .bk ρ=>∀ σ' F' H',aF F F'->Ab c ρ σ' F' H'->D.bk σ' H'
 | .ct ρ=>∀ σ' F' H',aF F F'->Ab c ρ σ' F' H'->D.ct σ' H'
 | .rt a=>∀ v F' H',Ext c.F0 c.H0 F' H'->AR c.g c.K c.mg c.H0 F' H' a v->D.rt v H'
theorem fR.same{c:Ct}{F F1:Hp}{D:gR}(s:aF F F1):∀ {w:Fw},fR c F D w->fR c F1 D w
 | .nx ρ,h=>fun σ' F' H' s' ab=>h σ' F' H' (fun a o z=>s' a o (s a o z)) ab
 | .bk ρ,h=>fun σ' F' H' s' ab=>h σ' F' H' (fun a o z=>s' a o (s a o z)) ab
 | .ct ρ,h=>fun σ' F' H' s' ab=>h σ' F' H' (fun a o z=>s' a o (s a o z)) ab
 | .rt a,h=>h
def tSf(c:Ct)(E:XK)(f:Sg->R Fw):TS:=fun D σ H=>∃ ρ F,Ab c ρ σ F H/\Rk c E F H (f ρ) (fR c F D)
abbrev PSf(X:Cx)(c:Ct)(E:XK)(st:Stmt)(f:Sg->R Fw):Prop:=PS X st (tSf c E f)
abbrev jN(X:Cx)(c:Ct)(E:XK)(st:List Stmt)(f:Sg->R Fw):Prop:=PSs X st (tSf c E f)
theorem get_set{α:Type}{l:List α}{i j:Nat}{x y:α}(h:(l.set i x)[j]? = some y):(i=j/\y=x/\i < l.length)\/(i≠j/\l[j]? = some y):=by
 by_cases e:i=j
 ·subst e
  by_cases hl:i < l.length
  · rw [List.getElem?_set_self hl] at h; exact .inl ⟨rfl, (Option.some.inj h).symm, hl⟩
  · rw [List.getElem?_eq_none_iff.mpr (by rw [List.length_set]; omega)] at h; cases h
 ·rw[List.getElem?_set_ne e] at h;exact .inr ⟨e,h⟩
theorem Ab.setF{c:Ct}{ρ:Sg}{σ:L2.St}{F H:Hp}{i:Nat}{a:A}{v:V}(b:Ab c ρ σ F H)(ha:AO c F H a v)(hn:a.own=true->∀ (j:Nat) (a':A),j≠i->ρ[j]? = some (some a')->a'.own=true->σ[j]? ≠ some (some v)):Ab c (ρ.set i (some a)) (σ.set i (some v)) F H where
 len:=by rw[List.length_set,List.length_set];exact b.len
 fh:=b.fh
 slot:=fun j a' h=>by
  rcases get_set h with ⟨e,q,hl⟩|⟨ne,q⟩
  ·subst e
   cases q
   exact ⟨v,List.getElem?_set_self (by rw[<-b.len];exact hl),ha⟩
  ·rw[List.getElem?_set_ne ne];exact b.slot j a' q
 apart:=fun j k a' b' hjk h1 h2 o1 o2=>by
  rcases get_set h1 with ⟨e,q,hl⟩|⟨ne,q⟩
  ·subst e
   cases q
   rcases get_set h2 with ⟨e',q',hl'⟩|⟨ne',q'⟩
   ·exact absurd e' hjk
   ·rw[List.getElem?_set_self (by rw[<-b.len];exact hl),List.getElem?_set_ne ne']
    exact (hn o1 k b' (Ne.symm hjk) q' o2).symm
  ·rcases get_set h2 with ⟨e',q',hl'⟩|⟨ne',q'⟩
   ·subst e'
    cases q'
    rw[List.getElem?_set_self (by rw[<-b.len];exact hl'),List.getElem?_set_ne ne]
    exact hn o2 j a' hjk q o1
   ·rw[List.getElem?_set_ne ne,List.getElem?_set_ne ne']
    exact b.apart j k a' b' hjk q q' o1 o2
 f0:=b.f0
 h0:=b.h0
 n0:=b.n0
 t0:=b.t0
theorem AO.of{c:Ct}{F H:Hp}:∀ {a:A} {v:V},AF c.g c.K c.mg F a v->AO c F H a v
 | .d x,v,h=>h
 | .x e,v,h=>h
 | .g k n G,v,h=>h
 | .f kvs,v,h=>h
theorem AF.notOwn{g:Gb}{K:Frag}{mg:Str->Option Value}{F:Hp}:∀ {a:A} {v:V},AF g K mg F a v->a.own=false
 | .d x,v,h=>rfl
 | .x e,v,h=>rfl
 | .g k n G,v,h=>rfl
 | .f kvs,v,h=>rfl
theorem Ab.setA{c:Ct}{ρ:Sg}{σ:L2.St}{F H:Hp}{i:Nat}{a:A}{v:V}(b:Ab c ρ σ F H)(ha:AF c.g c.K c.mg F a v):Ab c (ρ.set i (some a)) (σ.set i (some v)) F H:=
 b.setF (AO.of ha) fun z=>by rw[AF.notOwn ha] at z;cases z
theorem Ab.setN{c:Ct}{ρ:Sg}{σ:L2.St}{F H F' H':Hp}{i:Nat}{xs:List PyData}{v:V}(b:Ab c ρ σ F H)(e:Ext F H F' H')(h:kQ c xs v H F' H'):Ab c (ρ.set i (some (.l xs))) (σ.set i (some v)) F' H':=by
 obtain ⟨p,vs,rfl,h1,h2,h3,h4⟩:=h
 refine (b.ext e).setF ⟨p,vs,rfl,h2,h3,bQ b.h0 h1,h4⟩ fun _ j a' _ ha' ho=>?_
 obtain ⟨w,hw,q⟩:=b.slot j a' ha'
 rw[hw]
 intro z
 cases z
 obtain ⟨p',o',e',q1,_⟩:=q.at ho
 cases e'
 rw[h1] at q1
 cases q1
theorem Ab.putO{c:Ct}{ρ:Sg}{σ:L2.St}{F H:Hp}{i:Nat}{a a':A}{p:Addr}{o:HO}(b:Ab c ρ σ F H)(hi:ρ[i]? = some (some a))(ho:a.own=true)(hp:σ[i]? = some (some (.ref p)))(ho':a'.own=true)(hy:AO c F (upd H p o) a' (.ref p)) :
  Ab c (ρ.set i (some a')) σ F (upd H p o):=by
 obtain ⟨v,h1,q⟩:=b.slot i _ hi
 rw[hp] at h1
 cases h1
 obtain ⟨p',o',e',h2,h3,h4⟩:=q.at ho
 cases e'
 have other:∀ (j:Nat) (a:A) (w:V),j≠i->ρ[j]? = some (some a)->σ[j]? = some (some w)->AO c F H a w->AO c F (upd H p o) a w:=by
  intro j a2 w hj ha hw q2
  by_cases own:a2.own=true
  ·refine q2.off fun z=>?_
   subst z
   exact b.apart j i _ _ hj ha hi own ho (by rw[hw,hp])
  ·cases a2 with
   | l zs=>exact absurd rfl own
   | m zs=>exact absurd rfl own
   | d x=>exact q2
   | x e=>exact q2
   | g k n f=>exact q2
   | k S=>exact q2
   | f S=>exact q2
 exact {
  len:=by rw[List.length_set];exact b.len
  fh:=fun a o z=>by rw[aU (fun w=>by subst w;rw[h3] at z;cases z)];exact b.fh a o z
  slot:=fun j a h=>by
   rcases get_set h with ⟨e,q,hl⟩|⟨ne,q⟩
   ·subst e
    cases q
    exact ⟨_,hp,hy⟩
   ·obtain ⟨w,hw,q2⟩:=b.slot j a q
    exact ⟨w,hw,other j a w (Ne.symm ne) q hw q2⟩
  apart:=fun j k a' b' hjk h1 h2 o1 o2=>by
   rcases get_set h1 with ⟨e,q,hl⟩|⟨ne,q⟩
   ·subst e
    cases q
    rcases get_set h2 with ⟨e',q',hl'⟩|⟨ne',q'⟩
    ·exact absurd e' hjk
    ·exact b.apart _ k _ b' hjk hi q' ho o2
   ·rcases get_set h2 with ⟨e',q',hl'⟩|⟨ne',q'⟩
    ·subst e'
     exact b.apart j _ a' _ hjk q hi o1 ho
    ·exact b.apart j k a' b' hjk q q' o1 o2
  f0:=b.f0
  h0:=fun a o z=>by rw[aU (fun w=>by subst w;rw[h4] at z;cases z)];exact b.h0 a o z
  n0:=b.n0
  t0:=b.t0}
theorem Ab.putL{c:Ct}{ρ:Sg}{σ:L2.St}{F H:Hp}{i:Nat}{xs ys:List PyData}{p:Addr}{vs:List V}(b:Ab c ρ σ F H)(hi:ρ[i]? = some (some (.l xs)))(hp:σ[i]? = some (some (.ref p)))(hy:DatVs c.K F vs ys) :
  Ab c (ρ.set i (some (.l ys))) σ F (upd H p (.lst vs)):=by
 obtain ⟨v,h1,p',us,rfl,h2,h3,h4,h5⟩:=b.slot i _ hi
 rw[hp] at h1
 cases h1
 exact b.putO hi rfl hp rfl ⟨p,vs,rfl,bJ,h3,h4,hy⟩
noncomputable def fz(i:Nat)(ρ:Sg):Sg:=match ρ[i]? with
 | some (some (.l xs))=>ρ.set i (some (.d (.list xs)))
 | _=>ρ
theorem Ab.publ{c:Ct}{ρ:Sg}{σ:L2.St}{F H:Hp}{i:Nat}{a0 a1:A}{p:Addr}{o:HO}(b:Ab c ρ σ F H)(hi:ρ[i]? = some (some a0))(hp:σ[i]? = some (some (.ref p)))(ow:a0.own=true)(h2:H p=some o)(h3:F p=none)(h4:c.H0 p=none)(no:a1.own=false)(hr:AO c (upd F p o) H a1 (.ref p)):Ab c (ρ.set i (some a1)) σ (upd F p o) H:=by
 have sf:aF F (upd F p o):=aF.upd h3
 exact {
  len:=by rw[List.length_set];exact b.len
  fh:=fun a o' z=>by
   by_cases w:a=p
   ·subst w;rw[bJ] at z;rw[h2];exact z
   ·rw[aU w] at z;exact b.fh a o' z
  slot:=fun j a h=>by
   rcases get_set h with ⟨e,q,hl⟩|⟨ne,q⟩
   ·subst e
    cases q
    exact ⟨_,hp,hr⟩
   ·obtain ⟨w,hw,q2⟩:=b.slot j a q
    refine ⟨w,hw,?_⟩
    have off:∀ r,a.own=true->w=.ref r->F r=none->upd F p o r=none:=fun r oa e f=>by
     rw[aU]
     ·exact f
     ·intro z
      subst z
      exact b.apart j i _ _ (Ne.symm ne) q hi oa ow (by rw[hw,hp,e])
    cases a with
    | l zs=>obtain ⟨r,ws,e,q1,q2,q3,q4⟩:=q2;exact ⟨r,ws,e,q1,off r rfl e q2,q3,q4.same sf⟩
    | m kvs=>obtain ⟨r,ws,e,q1,q2,q3,q4⟩:=q2;exact ⟨r,ws,e,q1,off r rfl e q2,q3,q4.same sf⟩
    | d x=>exact DatV.same sf q2
    | x e=>exact AF.same (g:=c.g) (K:=c.K) (mg:=c.mg) (a:=.x e) sf q2
    | g k n f=>exact AF.same (g:=c.g) (K:=c.K) (mg:=c.mg) (a:=.g k n f) sf q2
    | k S=>obtain ⟨S,f,cl,doc,pm,cc,ct,h0,h1,h2,h3,h4⟩:=q2;exact ⟨S,f,cl,doc,pm,cc,ct,h0,h1,sf _ _ h2,sf _ _ h3,h4⟩
    | f kvs=>exact AF.same (g:=c.g) (K:=c.K) (mg:=c.mg) (a:=.f kvs) sf q2
  apart:=fun j k a' b' hjk h1 h2 o1 o2=>by
   rcases get_set h1 with ⟨e,q,hl⟩|⟨ne,q⟩
   ·cases q;rw[no] at o1;cases o1
   ·rcases get_set h2 with ⟨e',q',hl'⟩|⟨ne',q'⟩
    ·cases q';rw[no] at o2;cases o2
    ·exact b.apart j k a' b' hjk q q' o1 o2
  f0:=fun a o z=>sf a o (b.f0 a o z)
  h0:=b.h0
  n0:=fun a z n=>by
   by_cases w:a=p
   ·subst w;exact .inl h4
   ·rw[aU w] at n;exact b.n0 a z n
  t0:=b.t0}
theorem Ab.frz{c:Ct}{ρ:Sg}{σ:L2.St}{F H:Hp}(b:Ab c ρ σ F H)(i:Nat):∃ F',aF F F'/\Ab c (fz i ρ) σ F' H:=by
 unfold fz
 split
 ·rename_i xs hi
  obtain ⟨v,hp,p,vs,rfl,h2,h3,h4,h5⟩:=b.slot i _ hi
  exact ⟨_,aF.upd h3,b.publ hi hp rfl h2 h3 h4 rfl (.lst (SqL.of bJ) (h5.same (aF.upd h3)))⟩
 ·exact ⟨F,b2 F,b⟩
noncomputable def aA2:PyData->PyData->R PyData
 | .int i,.int j=>.ok (.int (i+j))
 | _,_=>.bad
section
variable{X:Cx}{c:Ct}{E:XK}{e a b:Expr}{st:Stmt}{rest:List Stmt}{pos:Pos}
def sFz(i:Nat)(f:Sg->R Fw):Sg->R Fw:=fun ρ=>f (fz i ρ)
theorem nH(i:Nat){f:Sg->R Fw}(h:PSf X c E st f):PSf X c E st (sFz i f):=PS.imp h fun D σ H zz0=>by
 obtain ⟨ρ,F,ab,k⟩:=zz0
 obtain ⟨F',s,ab'⟩:=ab.frz i
 refine ⟨fz i ρ,F',ab',?_⟩
 have k':Rk c E F H (f (fz i ρ)) (fR c F D):=k
 cases q:f (fz i ρ) with
 | bad=>rw[q] at k';exact k'
 | ok w=>rw[q] at k';exact fR.same s k'
 | ex e=>rw[q] at k';exact k'
noncomputable def sNx:Sg->R Fw:=fun ρ=>.ok (.nx ρ)
def aL(f g:Sg->R Fw):Sg->R Fw:=fun ρ=>(f ρ).bind fun w=>match w with
 | .nx ρ'=>g ρ'
 | w=>.ok w
theorem bW:jN X c E [] sNx:=PSs.imp L2.bW fun D σ H ⟨ρ,F,ab,k⟩=>Rk.ok k σ F H (b2 F) ab
theorem aK{f:Sg->R Fw}(h:PSf X c E st f):jN X c E [st] f:=L2.aK h
theorem aI{f g:Sg->R Fw}(h:PSf X c E st f)(h2:jN X c E rest g):jN X c E (st::rest) (aL f g):=PSs.imp (L2.aI h h2) fun D σ H zz0=>by
 obtain ⟨ρ,F,ab,k⟩:=zz0
 refine ⟨ρ,F,ab,(Rk.bind k).imp fun w _ q=>?_⟩
 cases w with
 | nx ρ'=>
  intro σ' F' H' s ab'
  refine ⟨ρ',F',ab',?_⟩
  have q':Rk c E F H (g ρ') (fR c F D):=q
  cases eg:g ρ' with
  | bad=>rw[eg] at q';exact q'
  | ok w=>rw[eg] at q';exact fR.same s q'
  | ex e=>rw[eg] at q';exact q'
 | bk ρ'=>exact q
 | ct ρ'=>exact q
 | rt a=>exact q
def bD(f:Sg->R A):Sg->R Fw:=fun ρ=>(f ρ).bind fun a=>.ok (.rt a)
theorem a7{f:Sg->R A}(h:PV X c E e f):PSf X c E (.Return (some e) pos) (bD f):=PS.imp (L2.a7 h) fun D σ H ⟨ρ,F,ab,k⟩=>
 ⟨ρ,F,ab,(Rk.bind k).imp fun a _ q v F' H' s r=>Rk.ok q v F' H' (ab.all.trans s) (AR.of r)⟩
noncomputable def aA3:Sg->R Fw:=fun _=>.ok (.rt (.d .none))
def sIf(t:Sg->R Bool)(f g:Sg->R Fw):Sg->R Fw:=fun ρ=>(t ρ).bind fun b=>if b=true then f ρ else g ρ
theorem Rk.fw{F F1 H H1:Hp}{D:gR}{r:R Fw}(s:aF F F1)(k:Rk c E F H r (fR c F D)):Rk c E F1 H1 r (fR c F1 D):=by
 cases r with
 | bad=>exact k
 | ok w=>exact fR.same s k
 | ex e=>exact k
theorem cH{q:Expr}{sa sb:List Stmt}{t:Sg->R Bool}{f g:Sg->R Fw}(hq:PTf X c E q t)(ha:jN X c E sa f)(hb:jN X c E sb g):PSf X c E (.If q sa sb pos) (sIf t f g):=PS.imp (L2.cH hq ha hb) fun D σ H zz0=>by
 obtain ⟨ρ,F,ab,k⟩:=zz0
 refine ⟨ρ,F,ab,(Rk.bind k).imp fun b _ q F' H' s=>?_⟩
 cases b with
 | true=>exact l6 ⟨ρ,F',ab.ext s,Rk.fw s.ff q⟩
 | false=>exact l5 ⟨ρ,F',ab.ext s,Rk.fw s.ff q⟩
def bB(i:Nat)(f:Sg->R A):Sg->R Fw:=fun ρ=>(f ρ).bind fun a=>.ok (.nx (ρ.set i (some a)))
theorem aR{i:Nat}{f:Sg->R A}(h:PS X st (nR (tV (vL c) c E f) (iL i))):PSf X c E st (bB i f):=PS.imp h fun D σ H ⟨ρ,F,ab,k⟩=>
 ⟨ρ,F,ab,(Rk.bind k).imp fun a _ q v F' H' s r=>Rk.ok q _ F' H' s.ff ((ab.ext s).setA r)⟩
def cO(i:Nat)(f:Sg->R (List PyData)):Sg->R Fw:=fun ρ=>(f ρ).bind fun xs=>.ok (.nx (ρ.set i (some (.l xs))))
theorem eZ{i:Nat}{f:Sg->R (List PyData)}(h:PS X st (nR (tV (kQ c) c E f) (iL i))):PSf X c E st (cO i f):=PS.imp h fun D σ H ⟨ρ,F,ab,k⟩=>
 ⟨ρ,F,ab,(Rk.bind k).imp fun a _ q v F' H' s r=>Rk.ok q _ F' H' s.ff (ab.setN s r)⟩
def wQ(f:Sg->R A):Sg->R Fw:=fun ρ=>(f ρ).bind fun _=>.ok (.nx ρ)
theorem gH{f:Sg->R A}(h:PS X st (qV (tV (vL c) c E f))):PSf X c E st (wQ f):=PS.imp h fun D σ H ⟨ρ,F,ab,k⟩=>
 ⟨ρ,F,ab,(Rk.bind k).imp fun a _ q v F' H' s r=>Rk.ok q _ F' H' s.ff (ab.ext s)⟩
def fK(i:Nat)(f:Sg->R PyData):Sg->R Fw:=fun ρ=>match ρ[i]? with
 | some (some (.l xs))=>(f ρ).bind fun x=>if xs.length < 16777216 then .ok (.nx (ρ.set i (some (.l (xs++[x]))))) else .bad
 | _=>.bad
theorem jO{i:Nat}{f:Sg->R PyData}(hK:X.K=c.K)(h:PS X st (qV (tBM X.K "list" pW (lY i) (cV (tV (bH c) c E f) fC)))):PSf X c E st (fK i f):=PS.imp h fun D σ H ⟨ρ,F,ab,k⟩=>by
 unfold fK at k
 split at k
 ·rename_i xs hi
  obtain ⟨v,hp,p,vs,rfl,h2,h3,h4,h5⟩:=ab.slot i _ hi
  refine ⟨_,hp,.inl ⟨rfl,vs,SqL.of h2⟩,ρ,F,ab,(Rk.bind k).imp fun x _ q u F1 H1 s1 r1=>?_⟩
  by_cases hz:xs.length < 16777216
  ·rw[if_pos hz] at q
   refine ⟨p,vs,u,rfl,rfl,s1.hh _ _ h2,by rw[h5.length,cG];exact hz,?_⟩
   exact Rk.ok q σ F1 _ s1.ff ((ab.ext s1).putL hi hp ((h5.same s1.ff).append (.cons r1 .nil)))
  ·rw[if_neg hz] at q;exact q.elim
 ·exact k.elim
def aCJ(i:Nat)(g:PyData->PyData->R PyData)(f:Sg->R PyData):Sg->R Fw:=fun ρ=>(eV i ρ).bind fun x=>(f ρ).bind fun y=>(g x y).bind fun z=>.ok (.nx (ρ.set i (some (.d z))))
end
end Fl
namespace Fl
open PySem L2 PyProof.Rows
def Tg(c:Ct)(g:TG)(fs:PyData->Sg->Option Sg)(is:List Nat):Prop:=∀ (v:V) (x:PyData) (ρ ρ':Sg) (σ:L2.St) (F H:Hp) (Q:L2.St->Hp->Prop),Ab c ρ σ F H->DatV c.K F v x->fs x ρ=some ρ'->
 (∀ σ':L2.St,σ'.length=σ.length->(∀ j:Nat,j∉is->σ'[j]? = σ[j]?)->Ab c ρ' σ' F H->Q σ' H)->g v σ H Q
noncomputable def stN(i:Nat):PyData->Sg->Option Sg:=fun x ρ=>some (ρ.set i (some (.d x)))
theorem bT{c:Ct}(i:Nat):Tg c (iL i) (stN i) [i]:=fun v x ρ ρ' σ F H Q ab r e q=>by
 cases e
 exact q _ List.length_set (fun j hj=>List.getElem?_set_ne (by intro z;subst z;exact hj (by simp))) (ab.setA (a:=.d x) r)
noncomputable def stL:List (PyData->Sg->Option Sg)->List PyData->Sg->Option Sg
 | [],[],ρ=>some ρ
 | f::fs,x::xs,ρ=>(f x ρ).bind (stL fs xs)
 | _,_,_=>none
def Tgs(c:Ct)(g:TGs)(fs:List (PyData->Sg->Option Sg))(is:List Nat):Prop:=∀ (vs:List V) (xs:List PyData) (ρ ρ':Sg) (σ:L2.St) (F H:Hp) (Q:L2.St->Hp->Prop),Ab c ρ σ F H->DatVs c.K F vs xs->stL fs xs ρ=some ρ'->
 (∀ σ':L2.St,σ'.length=σ.length->(∀ j:Nat,j∉is->σ'[j]? = σ[j]?)->Ab c ρ' σ' F H->Q σ' H)->g vs σ H Q
theorem mD{c:Ct}:Tgs c uV [] []:=fun vs xs ρ ρ' σ F H Q ab r e q=>by
 cases xs with
 | nil=>cases e;exact ⟨by cases r;rfl,q σ rfl (fun _ _=>rfl) ab⟩
 | cons x t=>cases e
theorem eM{c:Ct}{g:TG}{gs:TGs}{f:PyData->Sg->Option Sg}{fs:List (PyData->Sg->Option Sg)}{is js:List Nat}(h:Tg c g f is)(h2:Tgs c gs fs js):Tgs c (wC g gs) (f::fs) (is++js):=fun vs xs ρ ρ' σ F H Q ab r e q=>by
 cases r with
 | nil=>cases e
 | cons r1 r2=>
  rename_i x d vs ds
  have e':(f d ρ).bind (stL fs ds)=some ρ':=e
  cases e1:f d ρ with
  | none=>rw[e1] at e';cases e'
  | some ρ1=>
   rw[e1] at e'
   refine ⟨_,_,rfl,h _ _ ρ ρ1 σ F H _ ab r1 e1 fun σ1 l1 k1 ab1=>h2 _ _ ρ1 ρ' σ1 F H _ ab1 r2 e' fun σ2 l2 k2 ab2=>q σ2 (l2.trans l1) (fun j hj=>?_) ab2⟩
   rw[List.mem_append,not_or] at hj
   exact (k2 j hj.2).trans (k1 j hj.1)
noncomputable def stT(fs:List (PyData->Sg->Option Sg)):PyData->Sg->Option Sg:=fun x ρ=>match x with
 | .tuple xs=>stL fs xs ρ
 | _=>none
theorem p9:∀ {fs:List (PyData->Sg->Option Sg)} {xs:List PyData} {ρ ρ':Sg},stL fs xs ρ=some ρ'->xs.length=fs.length
 | [],[],_,_,_=>rfl
 | [],_::_,_,_,h=>by cases h
 | _::_,[],_,_,h=>by cases h
 | f::fs,x::xs,ρ,ρ',h=>by
  have h':(f x ρ).bind (stL fs xs)=some ρ':=h
  cases e:f x ρ with
  | none=>rw[e] at h';cases h'
  | some ρ1=>
   rw[e] at h'
   have:=p9 (fs:=fs) (xs:=xs) h'
   simp[this]
theorem oH{c:Ct}{gs:TGs}{fs:List (PyData->Sg->Option Sg)}{is:List Nat}{n:Nat}{K:Frag}(hK:K=c.K)(h:Tgs c gs fs is)(hn:fs.length=n):Tg c (yL K n gs) (stT fs) is:=fun v x ρ ρ' σ F H Q ab r e q=>by
 cases x with
 | tuple xs=>
  obtain ⟨a,vs,rfl,h1,h2⟩:=r.tup_of
  subst hK
  exact ⟨a,vs,rfl,h1.same ab.fh,by rw[h2.length,p9 e,hn],h vs xs ρ ρ' σ F H Q ab h2 e q⟩
 | _=>cases e
structure Yld(K:Frag)(J:It)(F B:Hp)(xs:List PyData):Prop where
 len:xs.length<=sizeLine
 go:∀ (i:Nat) F1 H1,aF F F1->aF F1 H1->aF B H1->i < xs.length->J.go i H1
 yld:∀ (i:Nat) F1 H1 v H2 x,aF F F1->aF F1 H1->aF B H1->J.yld i H1 v H2->xs[i]? = some x->∃ F2,Ext F1 H1 F2 H2/\DatV K F2 v x
 stop:∀ F1 H1,aF F F1->aF F1 H1->aF B H1->J.stop xs.length H1
def tI(c:Ct)(E:XK)(f:Sg->R (List PyData)):TI:=fun σ H Rr=>∃ ρ F,Ab c ρ σ F H/\Rk c E F H (f ρ) fun xs=>∀ J B F' H',Ext F H F' H'->aF B H'->Yld c.K J F' B xs->Rr J H'
def tI0(c:Ct)(E:XK)(f:Sg->R (List PyData)):TI:=fun σ H Rr=>∃ ρ F,Ab c ρ σ F H/\Rk c E F H (f ρ) fun xs=>∀ J F' H',Ext F H F' H'->Yld c.K J F' (fun _=>none) xs->Rr J H'
theorem PI.imp{X:Cx}{tg e:Expr}{t t':TI}(h:PI X tg e t)(i:∀ σ H Q,t' σ H Q->t σ H Q):PI X tg e t':=fun pins s σ H Q I q=>h pins s σ H Q I (i σ H Q q)
abbrev PIf(X:Cx)(c:Ct)(E:XK)(tg e:Expr)(f:Sg->R (List PyData)):Prop:=PI X tg e (tI c E f)
abbrev PI0(X:Cx)(c:Ct)(E:XK)(tg e:Expr)(f:Sg->R (List PyData)):Prop:=PI X tg e (tI0 c E f)
def jP{H:Hp}:aF (fun _=>none) H:=fun _ _ z=>nomatch z
noncomputable def a8:PyData->R (List PyData)
 | .list xs=>if xs.length<=16777216 then .ok xs else .bad
 | .tuple xs=>if xs.length<=16777216 then .ok xs else .bad
 | .str z=>if z.cps.toList.length<=16777216 then .ok (z.cps.toList.map fun u=>.str ⟨#[u]⟩) else .bad
 | _=>.bad
theorem oI{K:Frag}{F B H:Hp}{a:Addr}{vs:List V}{xs:List PyData}(hz:xs.length<=16777216)(hs:∀ H1,aF F H1->aF B H1->SqL K H1 a vs)(hd:DatVs K F vs xs):Yld K (Itl K a) F B xs where
 len:=by rw[cG];exact hz
 go:=fun i F1 H1 h1 h2 h3 hi=>by
  have q:=hs H1 (fun x o z=>h2 x o (h1 x o z)) h3
  exact ⟨vs,vs[i]'(by rw[hd.length];exact hi),q,by simp⟩
 yld:=fun i F1 H1 v H2 x h1 h2 h3 y e=>by
  obtain ⟨rfl,y⟩:=y
  have q:=y vs (hs _ (fun x o z=>h2 x o (h1 x o z)) h3)
  obtain ⟨d,e2,r⟩:=hd.get q
  rw[e] at e2
  cases e2
  exact ⟨F1,Ext.refl h2,r.same h1⟩
 stop:=fun F1 H1 h1 h2 h3=>⟨vs,hs H1 (fun x o z=>h2 x o (h1 x o z)) h3,by rw[hd.length];exact Nat.le_refl _⟩
theorem qA{K:Frag}{F B:Hp}{a:Addr}{vs:List V}{xs:List PyData}(hz:xs.length<=16777216)(hs:SqT K F a vs)(hd:DatVs K F vs xs):Yld K (Itt K a) F B xs where
 len:=by rw[cG];exact hz
 go:=fun i F1 H1 h1 h2 h3 hi=>by
  have q:=hs.same (H':=H1) (fun x o z=>h2 x o (h1 x o z))
  exact ⟨vs,vs[i]'(by rw[hd.length];exact hi),q,by simp⟩
 yld:=fun i F1 H1 v H2 x h1 h2 h3 y e=>by
  obtain ⟨rfl,y⟩:=y
  have q:=y vs (hs.same (fun x o z=>h2 x o (h1 x o z)))
  obtain ⟨d,e2,r⟩:=hd.get q
  rw[e] at e2
  cases e2
  exact ⟨F1,Ext.refl h2,r.same h1⟩
 stop:=fun F1 H1 h1 h2 h3=>⟨vs,hs.same (fun x o z=>h2 x o (h1 x o z)),by rw[hd.length];exact Nat.le_refl _⟩
theorem qB{K:Frag}{F B:Hp}{z:Str}(hz:z.cps.toList.length<=16777216):Yld K (Its z) F B (z.cps.toList.map fun u=>.str ⟨#[u]⟩) where
 len:=by rw[cG,List.length_map];exact hz
 go:=fun i F1 H1 h1 h2 h3 hi=>by
  rw[List.length_map,Array.length_toList] at hi
  exact hi
 yld:=fun i F1 H1 v H2 x h1 h2 h3 y e=>by
  obtain ⟨rfl,u,hu,rfl⟩:=y
  rw[List.getElem?_map,Array.getElem?_toList,hu] at e
  cases e
  exact ⟨F1,Ext.refl h2,.str _⟩
 stop:=fun F1 H1 h1 h2 h3=>by
  show (z.cps.toList.map _).length=z.cps.size
  rw[List.length_map,Array.length_toList]
section
variable{X:Cx}{c:Ct}{E:XK}{tg e a b:Expr}{pos:Pos}
theorem aCK{f:Sg->R PyData}(hK:X.K=c.K)(h:PD X c E e f):PI0 X c E tg e (e1 a8 f):=PI.imp (PI.or (sS h) (sW h)) fun σ H Q ⟨ρ,F,ab,k⟩=>by
 have k':=Rk.bind k
 cases hf:f ρ with
 | bad=>rw[hf] at k';exact k'.elim
 | ex x=>rw[hf] at k';exact .inl ⟨ρ,F,ab,by rw[hf];exact k'⟩
 | ok d=>
  rw[hf] at k'
  have k2:=Rk.ok k'
  unfold a8 at k2
  split at k2
  ·rename_i xs
   split at k2
   ·rename_i hz
    refine .inl ⟨ρ,F,ab,?_⟩
    rw[hf]
    intro v F' H' s r
    obtain ⟨p,vs,rfl,h1,h2⟩:=DatV.lst_of r
    refine ⟨p,rfl,.inl ⟨⟨vs,?_⟩,?_⟩⟩
    · rw [hK]; exact h1.same s.fh
    · rw [hK]; exact Rk.ok k2 _ F' H' s (oI (H := H') hz (fun H1 q _ => h1.same q) h2)
   ·exact k2.elim
  ·rename_i xs
   split at k2
   ·rename_i hz
    refine .inl ⟨ρ,F,ab,?_⟩
    rw[hf]
    intro v F' H' s r
    obtain ⟨p,vs,rfl,h1,h2⟩:=DatV.tup_of r
    refine ⟨p,rfl,.inr ⟨⟨vs,?_⟩,?_⟩⟩
    · rw [hK]; exact h1.same s.fh
    · rw [hK]; exact Rk.ok k2 _ F' H' s (qA hz h1 h2)
   ·exact k2.elim
  ·rename_i z
   split at k2
   ·rename_i hz
    refine .inr ⟨ρ,F,ab,?_⟩
    rw[hf]
    intro v F' H' s r
    obtain rfl:=DatV.str_of r
    exact ⟨z,rfl,Rk.ok k2 _ F' H' s (qB hz)⟩
   ·exact k2.elim
  ·exact k2.elim
theorem iS{f:Sg->R PyData}(hK:X.K=c.K)(h:PR X c E e f):PIf X c E tg e (e1 a8 f):=PI.imp (PI.or (sS h) (sW h)) fun σ H Q ⟨ρ,F,ab,k⟩=>by
 have k':=Rk.bind k
 cases hf:f ρ with
 | bad=>rw[hf] at k';exact k'.elim
 | ex x=>rw[hf] at k';exact .inl ⟨ρ,F,ab,by rw[hf];exact k'⟩
 | ok d=>
  rw[hf] at k'
  have k2:=Rk.ok k'
  unfold a8 at k2
  split at k2
  ·rename_i xs
   split at k2
   ·rename_i hz
    refine .inl ⟨ρ,F,ab,?_⟩
    rw[hf]
    intro v F' H' s r
    obtain ⟨p,vs,rfl,h1,h2⟩:=aP.lst_of s.fh r
    refine ⟨p,rfl,.inl ⟨⟨vs,?_⟩,?_⟩⟩
    · rw [hK]; exact h1
    · rw [hK]; exact Rk.ok k2 _ H' F' H' s (b2 _) (oI (H := H') hz (fun H1 _ q => h1.same q) h2)
   ·exact k2.elim
  ·rename_i xs
   split at k2
   ·rename_i hz
    refine .inl ⟨ρ,F,ab,?_⟩
    rw[hf]
    intro v F' H' s r
    obtain ⟨p,vs,rfl,h1,_,h2⟩:=aP.tup_of s.fh r
    refine ⟨p,rfl,.inr ⟨⟨vs,?_⟩,?_⟩⟩
    · rw [hK]; exact h1.same s.fh
    · rw [hK]; exact Rk.ok k2 _ H' F' H' s (b2 _) (qA hz h1 h2)
   ·exact k2.elim
  ·rename_i z
   split at k2
   ·rename_i hz
    refine .inr ⟨ρ,F,ab,?_⟩
    rw[hf]
    intro v F' H' s r
    obtain rfl:=aP.str_of r
    exact ⟨z,rfl,Rk.ok k2 _ H' F' H' s (b2 _) (qB hz)⟩
   ·exact k2.elim
  ·exact k2.elim
noncomputable def gP(lo:Int)(n:Nat):List PyData:=(List.range n).map fun i:Nat=>.int (lo+i)
def eB(lo hi:Int):R (List PyData):=if -4611686018427387904<=lo/\lo < 4611686018427387904 /\ -4611686018427387904<=hi/\hi < 4611686018427387904/\hi - lo<=16777216 then .ok (gP lo (hi - lo).toNat) else .bad
def dJ(f:Sg->R PyData):Sg->R (List PyData):=fun ρ=>(f ρ).bind fun x=>match x with
 | .int j=>eB 0 j
 | _=>.bad
def xM(f g:Sg->R PyData):Sg->R (List PyData):=fun ρ=>(f ρ).bind fun x=>(g ρ).bind fun y=>match x,y with
 | .int i,.int j=>eB i j
 | _,_=>.bad
theorem tK{K:Frag}{F B:Hp}{lo:Int}{n:Nat}(hz:n<=16777216):Yld K (Itr lo n) F B (gP lo n) where
 len:=by unfold gP;rw[cG,List.length_map,List.length_range];exact hz
 go:=fun i F1 H1 h1 h2 h3 hi=>by unfold gP at hi;rw[List.length_map,List.length_range] at hi;exact hi
 yld:=fun i F1 H1 v H2 x h1 h2 h3 y e=>by
  obtain ⟨rfl,rfl⟩:=y
  unfold gP at e
  rw[List.getElem?_map] at e
  cases q:(List.range n)[i]? with
  | none=>rw[q] at e;cases e
  | some j=>
   rw[q] at e
   cases e
   obtain ⟨hl,hv⟩:=List.getElem?_eq_some_iff.mp q
   rw[List.getElem_range] at hv
   subst hv
   exact ⟨F1,Ext.refl h2,.int _⟩
 stop:=fun F1 H1 h1 h2 h3=>by show n<=_;unfold gP;rw[List.length_map,List.length_range];exact Nat.le_refl _
theorem kA{f:Sg->R PyData}(h:PI X tg e (wD (cV (tV (aQ c) c E f) fC))):PI0 X c E tg e (dJ f):=PI.imp h fun σ H Q ⟨ρ,F,ab,k⟩=>by
 refine ⟨ρ,F,ab,(Rk.bind k).imp fun x _ q v F' H' s r=>?_⟩
 cases x with
 | int j=>
  have q':Rk c E F H (eB 0 j) _:=q
  unfold eB at q'
  split at q'
  ·rename_i hz
   obtain rfl:=aP.int_of r
   refine ⟨j,rfl,by omega,by omega,?_⟩
   have e0:(j - 0).toNat=j.toNat:=by rw[Int.sub_zero]
   rw[<-e0]
   exact Rk.ok q' _ F' H' s (tK (by omega))
  ·exact q'.elim
 | _=>exact q.elim
end
end Fl
namespace Fl
open PySem L2 PyProof.Rows
noncomputable def eO(js:List (Option Nat))(ρ:Sg):Sg:=js.map fun o=>o.bind fun j=>(ρ[j]?).join
theorem mE{α:Type}{js:List (Option Nat)}{ρ:List (Option α)}{i:Nat}{a:α}(h:(js.map fun o=>o.bind fun j=>(ρ[j]?).join)[i]? = some (some a)):∃ j,js[i]? = some (some j)/\ρ[j]? = some (some a):=by
 rw[List.getElem?_map] at h
 cases e:js[i]? with
 | none=>rw[e] at h;cases h
 | some o=>
  rw[e] at h
  have h':(o.bind fun j=>(ρ[j]?).join)=some a:=Option.some.inj h
  cases o with
  | none=>cases h'
  | some j=>
   have h2:(ρ[j]?).join=some a:=h'
   cases e2:ρ[j]? with
   | none=>rw[e2] at h2;cases h2
   | some o2=>rw[e2] at h2;have:o2=some a:=h2;subst this;exact ⟨j,rfl,e2⟩
theorem mF{α:Type}{js:List (Option Nat)}{ρ:List (Option α)}{i j:Nat}{a:α}(h:js[i]? = some (some j))(h2:ρ[j]? = some (some a)):(js.map fun o=>o.bind fun j=>(ρ[j]?).join)[i]? = some (some a):=by
 rw[List.getElem?_map,h]
 show some ((ρ[j]?).join)=_
 rw[h2];rfl
def mG(js:List (Option Nat)):Prop:=∀ (i k j:Nat),js[i]? = some (some j)->js[k]? = some (some j)->i=k
theorem lJ{js:List (Option Nat)}(h:js.Pairwise fun a b=>a=none\/a≠b):mG js:=fun i k j h1 h2=>by
 obtain ⟨l1,e1⟩:=List.getElem?_eq_some_iff.mp h1
 obtain ⟨l2,e2⟩:=List.getElem?_eq_some_iff.mp h2
 rw[List.pairwise_iff_getElem] at h
 rcases Nat.lt_trichotomy i k with q|q|q
 ·rcases h i k l1 l2 q with z|z
  · rw [e1] at z; cases z
  · exact absurd (e1.trans e2.symm) z
 ·exact q
 ·rcases h k i l2 l1 q with z|z
  · rw [e2] at z; cases z
  · exact absurd (e2.trans e1.symm) z
theorem Ab.cap{c:Ct}{ρ:Sg}{σ σ0:L2.St}{F H:Hp}{js:List (Option Nat)}(b:Ab c ρ σ F H)(ho:mG js)(k:b6 (fN js σ) σ0):Ab c (eO js ρ) σ0 F H where
 len:=by rw[k.1];unfold eO fN;rw[List.length_map,List.length_map]
 fh:=b.fh
 slot:=fun i a h=>by
  obtain ⟨j,h1,h2⟩:=mE h
  obtain ⟨v,h3,h4⟩:=b.slot j a h2
  exact ⟨v,k.2 i v (mF h1 h3),h4⟩
 apart:=fun i i' a a' hne h h' o o'=>by
  obtain ⟨j,h1,h2⟩:=mE h
  obtain ⟨j',h1',h2'⟩:=mE h'
  have hj:j≠j':=fun z=>hne (ho i i' j h1 (by rw[h1',z]))
  obtain ⟨v,h3,_⟩:=b.slot j a h2
  obtain ⟨v',h3',_⟩:=b.slot j' a' h2'
  rw[k.2 i v (mF h1 h3),k.2 i' v' (mF h1' h3'),<-h3,<-h3']
  exact b.apart j j' a a' hj h2 h2' o o'
 f0:=b.f0
 h0:=b.h0
 n0:=b.n0
 t0:=b.t0
noncomputable def R.noEx{α:Type}:R α->R α
 | .ex _=>.bad
 | r=>r
@[simp] theorem R.noEx_ok{α:Type}(a:α):(R.ok a).noEx=.ok a:=id rfl
noncomputable def oJ{α:Type}:Option α->R α
 | some a=>.ok a
 | none=>.bad
@[simp] theorem m3{α:Type}(a:α):oJ (some a)=.ok a:=id rfl
noncomputable def compL(fs:PyData->Sg->Option Sg)(ft:Sg->R Bool)(fe:Sg->R PyData)(ρ0:Sg):List PyData->R (List PyData)
 | []=>.ok []
 | x::t=>(oJ (fs x ρ0)).bind fun ρ1=>(ft ρ1).noEx.bind fun b=>if b=true then (fe ρ1).noEx.bind fun y=>(compL fs ft fe ρ0 t).bind fun ys=>.ok (y::ys) else compL fs ft fe ρ0 t
theorem iT{fs:PyData->Sg->Option Sg}{ft:Sg->R Bool}{fe:Sg->R PyData}{ρ0:Sg}{e:Er}:∀ {xs:List PyData},compL fs ft fe ρ0 xs≠.ex e
 | []=>fun h=>by cases h
 | x::t=>fun h=>by
  unfold compL at h
  cases h1:fs x ρ0 with
  | none=>rw[h1] at h;cases h
  | some ρ1=>
   rw[h1] at h
   have h:((ft ρ1).noEx.bind fun b=>if b=true then (fe ρ1).noEx.bind fun y=>(compL fs ft fe ρ0 t).bind fun ys=>.ok (y::ys) else compL fs ft fe ρ0 t)=.ex e:=h
   cases h2:ft ρ1 with
   | bad=>rw[h2] at h;cases h
   | ex _=>rw[h2] at h;cases h
   | ok b=>
    rw[h2] at h
    have h:(if b=true then (fe ρ1).noEx.bind fun y=>(compL fs ft fe ρ0 t).bind fun ys=>.ok (y::ys) else compL fs ft fe ρ0 t)=.ex e:=h
    cases b with
    | false=>exact iT (xs:=t) h
    | true=>
     have h:((fe ρ1).noEx.bind fun y=>(compL fs ft fe ρ0 t).bind fun ys=>.ok (y::ys))=.ex e:=h
     cases h3:fe ρ1 with
     | bad=>rw[h3] at h;cases h
     | ex _=>rw[h3] at h;cases h
     | ok y=>
      rw[h3] at h
      have h:((compL fs ft fe ρ0 t).bind fun ys=>.ok (y::ys))=.ex e:=h
      cases h4:compL fs ft fe ρ0 t with
      | bad=>rw[h4] at h;cases h
      | ex e'=>exact iT (xs:=t) (e:=e') h4
      | ok ys=>rw[h4] at h;cases h
theorem rN{fs:PyData->Sg->Option Sg}{ft:Sg->R Bool}{fe:Sg->R PyData}{ρ0:Sg}{x:PyData}{t ys:List PyData}(h:compL fs ft fe ρ0 (x::t)=.ok ys) :
  ∃ ρ1 b,fs x ρ0=some ρ1/\ft ρ1=.ok b/\((b=true/\∃ y zs,fe ρ1=.ok y/\compL fs ft fe ρ0 t=.ok zs/\ys=y::zs)\/(b=false/\compL fs ft fe ρ0 t=.ok ys)):=by
 unfold compL at h
 cases h1:fs x ρ0 with
 | none=>rw[h1] at h;cases h
 | some ρ1=>
  rw[h1] at h
  have h:((ft ρ1).noEx.bind fun b=>if b=true then (fe ρ1).noEx.bind fun y=>(compL fs ft fe ρ0 t).bind fun ys=>.ok (y::ys) else compL fs ft fe ρ0 t)=.ok ys:=h
  cases h2:ft ρ1 with
  | bad=>rw[h2] at h;cases h
  | ex _=>rw[h2] at h;cases h
  | ok b=>
   rw[h2] at h
   have h:(if b=true then (fe ρ1).noEx.bind fun y=>(compL fs ft fe ρ0 t).bind fun ys=>.ok (y::ys) else compL fs ft fe ρ0 t)=.ok ys:=h
   refine ⟨ρ1,b,rfl,h2,?_⟩
   cases b with
   | false=>exact .inr ⟨rfl,h⟩
   | true=>
    refine .inl ⟨rfl,?_⟩
    have h:((fe ρ1).noEx.bind fun y=>(compL fs ft fe ρ0 t).bind fun ys=>.ok (y::ys))=.ok ys:=h
    cases h3:fe ρ1 with
    | bad=>rw[h3] at h;cases h
    | ex _=>rw[h3] at h;cases h
    | ok y=>
     rw[h3] at h
     have h:((compL fs ft fe ρ0 t).bind fun ys=>.ok (y::ys))=.ok ys:=h
     cases h4:compL fs ft fe ρ0 t with
     | bad=>rw[h4] at h;cases h
     | ex e'=>rw[h4] at h;cases h
     | ok zs=>rw[h4] at h;cases h;exact ⟨y,zs,rfl,rfl,rfl⟩
def dD(js:List (Option Nat))(fi:Sg->R (List PyData))(fs:PyData->Sg->Option Sg)(ft:Sg->R Bool)(fe:Sg->R PyData):Sg->R (List PyData):=fun ρ=>(fi ρ).bind fun xs=>compL fs ft fe (eO js ρ) xs
noncomputable def fM:Sg->R Bool:=fun _=>.ok true
section
variable{X:Cx}{c:Ct}{E:XK}{e a b:Expr}{pos:Pos}
theorem c5:L2.PIf X [] (tTf c E fM):=fun pins s σ H Q I ⟨ρ,F,ab,k⟩=>L2.c5 pins s σ H Q I (Rk.ok k F H (Ext.refl ab.fh))
theorem vP{js:List (Option Nat)}{is:List Nat}{σ σ0 σ1:L2.St}(k:b6 (fN js σ) σ0)(hl:σ1.length=σ0.length)(h:∀ j:Nat,j∉is->σ1[j]? = σ0[j]?)(hi:∀ i∈is,js[i]? = some none):b6 (fN js σ) σ1:=
 ⟨hl.trans k.1,fun i v e=>by
  by_cases q:i∈is
  ·unfold fN at e
   rw[List.getElem?_map,hi i q] at e
   cases e
  ·rw[h i q];exact k.2 i v e⟩
theorem m4{N:List Str}{js:List (Option Nat)}{scope:Scope}{tg elt:Expr}{ifs:List Expr}{fi:Sg->R (List PyData)}{fs:PyData->Sg->Option Sg}{ft:Sg->R Bool}{fe:Sg->R PyData}{is:List Nat}(ho:mG js)(hi:∀ i∈is,js[i]? = some none)
  (hb:∀ (cl:List (Str×Addr)) (C:Addr) (s:Shared) (H0:Hp) (fp:List Addr),∃ g,PG (cZ X N scope cl C s H0 fp) tg g/\Tg c g fs is/\L2.PIf (cZ X N scope cl C s H0 fp) ifs (tTf c E0 ft)/\PD (cZ X N scope cl C s H0 fp) c E0 elt fe)
  {σ:L2.St} {H:Hp} {Q:VK} (h:tV (kQ c) c E (dD js fi fs ft fe) σ H Q):lA X N scope js tg elt ifs (tI c E fi) σ H Q:=by
 obtain ⟨ρ,F,ab,k⟩:=h
 refine ⟨ρ,F,ab,(Rk.bind k).imp fun xs _ q J B F1 H1 s1 sb yl=>?_⟩
 cases hc:compL fs ft fe (eO js ρ) xs with
 | bad=>rw[hc] at q;exact q.elim
 | ex e=>exact absurd hc iT
 | ok ys=>
  rw[hc] at q
  refine xH (n:=xs.length) (fun i acc H'=>∃ F',Ext F1 H1 F' H'/\acc.length<=i/\∃ zs rest,DatVs c.K F' acc zs/\compL fs ft fe (eO js ρ) (xs.drop i)=.ok rest/\zs++rest=ys) yl.len ⟨F1,Ext.refl s1.fh,Nat.le_refl _,[],ys,.nil,hc,rfl⟩ ?_ ?_ ?_ ?_ ?_
  ·rintro i acc H' _ ⟨F',_,h,_⟩;exact h
  ·rintro i acc H' hlt ⟨F',e1,_⟩
   exact yl.go i F' H' e1.ff e1.fh (fun a o z=>e1.hh a o (sb a o z)) hlt
  ·rintro acc H' ⟨F',e1,_⟩
   exact yl.stop F' H' e1.ff e1.fh (fun a o z=>e1.hh a o (sb a o z))
  ·rintro i v acc Ha Hb hlt ⟨F',e1,hlen,zs,rest,hd,hr,hz⟩ hy
   obtain ⟨F2,e2,rx⟩:=yl.yld i F' Ha v Hb xs[i] e1.ff e1.fh (fun a o z=>e1.hh a o (sb a o z)) hy (List.getElem?_eq_getElem hlt)
   have hdr:xs.drop i=xs[i]::xs.drop (i+1):=List.drop_eq_getElem_cons hlt
   rw[hdr] at hr
   obtain ⟨ρ1,bb,hs,ht,hcase⟩:=rN hr
   intro cl C s H0 fp
   obtain ⟨g,hg,tg',hif,he⟩:=hb cl C s H0 fp
   refine ⟨g,_,_,hg,hif,he,fun σ0 k0=>?_⟩
   have ab0:Ab c (eO js ρ) σ0 F2 Hb:=(ab.ext (s1.trans (e1.trans e2))).cap ho k0
   refine tg' v xs[i] _ ρ1 σ0 F2 Hb _ ab0 rx hs fun σ1 hl1 hk1 ab1=>⟨vP k0 hl1 hk1 hi,ρ1,F2,ab1,?_⟩
   rw[ht]
   intro F3 H3 e3
   rcases hcase with ⟨rfl,y,ws,hy1,hy2,rfl⟩|⟨rfl,hy2⟩
   ·refine l6 ⟨ρ1,F3,ab1.ext e3,?_⟩
    rw[hy1]
    intro w F4 H4 e4 rw'
    refine ⟨F4,e1.trans (e2.trans (e3.trans e4)),by rw[List.length_append,List.length_singleton];omega,zs++[y],ws,(hd.same (e2.trans (e3.trans e4)).ff).append (.cons rw' .nil),hy2,by rw[List.append_assoc];exact hz⟩
   ·exact l5 ⟨F3,e1.trans (e2.trans e3),by omega,zs,rest,hd.same (e2.trans e3).ff,hy2,hz⟩
  ·rintro acc H' ⟨F',e1,_,zs,rest,hd,hr,hz⟩ p hp
   rw[List.drop_length] at hr
   cases hr
   rw[List.append_nil] at hz
   subst hz
   exact Rk.ok q (.ref p) F' _ (s1.trans (e1.trans (Ext.own e1.fh hp))) ⟨p,acc,rfl,bQ (s1.trans e1).hh hp,bJ,bQ e1.fh hp,hd⟩
theorem e8{N:List Str}{js:List (Option Nat)}{scope:Scope}{tg elt:Expr}{ifs:List Expr}{fi:Sg->R (List PyData)}{fs:PyData->Sg->Option Sg}{ft:Sg->R Bool}{fe:Sg->R PyData}{is:List Nat}(h:PE X e (lA X N scope js tg elt ifs (tI c E fi)))(ho:js.Pairwise fun a b=>a=none\/a≠b)(hi:∀ i∈is,js[i]? = some none)
 (hb:∀ (cl:List (Str×Addr)) (C:Addr) (s:Shared) (H0:Hp) (fp:List Addr),∃ g,PG (cZ X N scope cl C s H0 fp) tg g/\Tg c g fs is/\L2.PIf (cZ X N scope cl C s H0 fp) ifs (tTf c E0 ft)/\PD (cZ X N scope cl C s H0 fp) c E0 elt fe) :
 PN X c E e (dD js fi fs ft fe):=PE.imp h fun σ H Q q=>m4 (lJ ho) hi hb q
theorem xN{i:Nat}{st:Stmt}{N:List Str}{js:List (Option Nat)}{scope:Scope}{tg elt:Expr}{ifs:List Expr}{fi:Sg->R (List PyData)}{fs:PyData->Sg->Option Sg}{ft:Sg->R Bool}{fe:Sg->R PyData}{is:List Nat}(h:PS X st (nR (lA X N scope js tg elt ifs (tI c E fi)) (iL i)))(ho:js.Pairwise fun a b=>a=none\/a≠b)(hi:∀ i∈is,js[i]? = some none)
 (hb:∀ (cl:List (Str×Addr)) (C:Addr) (s:Shared) (H0:Hp) (fp:List Addr),∃ g,PG (cZ X N scope cl C s H0 fp) tg g/\Tg c g fs is/\L2.PIf (cZ X N scope cl C s H0 fp) ifs (tTf c E0 ft)/\PD (cZ X N scope cl C s H0 fp) c E0 elt fe) :
 PSf X c E st (cO i (dD js fi fs ft fe)):=eZ (PS.imp h fun D σ H q=>m4 (lJ ho) hi hb q)
end
noncomputable def iU(fs:PyData->Sg->Option Sg)(fb:Sg->R Fw):List PyData->Sg->R Fw
 | [],ρ=>.ok (.nx ρ)
 | x::t,ρ=>(oJ (fs x ρ)).bind fun ρ1=>(fb ρ1).bind fun w=>match w with
  | .nx ρ2=>iU fs fb t ρ2
  | .ct ρ2=>iU fs fb t ρ2
  | .bk ρ2=>.ok (.nx ρ2)
  | .rt a=>.ok (.rt a)
def d7(fi:Sg->R (List PyData))(fs:PyData->Sg->Option Sg)(fb:Sg->R Fw):Sg->R Fw:=fun ρ=>(fi ρ).bind fun xs=>iU fs fb xs ρ
section
variable{X:Cx}{c:Ct}{E:XK}{e a b:Expr}{pos:Pos}{st:Stmt}
theorem cM{g:TG}{fi:Sg->R (List PyData)}{fs:PyData->Sg->Option Sg}{is:List Nat}{fb:Sg->R Fw}(hg:Tg c g fs is)(h:PS X st (yM (tI0 c E fi) g (tSf c E fb))):PSf X c E st (d7 fi fs fb):=PS.imp h fun D σ H zz0=>by
 obtain ⟨ρ,F,ab,k⟩:=zz0
 refine ⟨ρ,F,ab,(Rk.bind k).imp fun xs _ q J F1 H1 s1 yl=>?_⟩
 refine ⟨fun i m σ H=>m=xs.length - i/\i<=xs.length/\∃ ρ' F',aF F1 F'/\Ab c ρ' σ F' H/\Rk c E F' H (iU fs fb (xs.drop i) ρ') (fR c F D),⟨xs.length,by simp,Nat.zero_le _,ρ,F1,b2 _,ab.ext s1,Rk.ext s1 q⟩,?_⟩
 rintro i m σ2 H2 ⟨rfl,hi,ρ2,F2,s2,ab2,k2⟩
 by_cases hlt:i < xs.length
 ·refine .inr ⟨yl.go i F2 H2 s2 ab2.fh jP hlt,fun σ' H'=>∃ ρ' F',aF F1 F'/\Ab c ρ' σ' F' H'/\Rk c E F' H' (iU fs fb (xs.drop (i+1)) ρ') (fR c F D),fun σ' H' w=>⟨xs.length - (i+1),by omega,rfl,hlt,w⟩,fun v H3 y=>?_⟩
  obtain ⟨F3,e3,rv⟩:=yl.yld i F2 H2 v H3 xs[i] s2 ab2.fh jP y (List.getElem?_eq_getElem hlt)
  have hdr:xs.drop i=xs[i]::xs.drop (i+1):=List.drop_eq_getElem_cons hlt
  rw[hdr] at k2
  unfold iU at k2
  cases h1:fs xs[i] ρ2 with
  | none=>rw[h1] at k2;exact k2.elim
  | some ρ3=>
   rw[h1] at k2
   refine hg v xs[i] ρ2 ρ3 σ2 F3 H3 _ (ab2.ext e3) rv h1 fun σ3 _ _ ab3=>⟨ρ3,F3,ab3,?_⟩
   have k3:Rk c E F2 H2 (fb ρ3) _:=Rk.bind k2
   cases h2:fb ρ3 with
   | bad=>rw[h2] at k3;exact k3.elim
   | ex e=>rw[h2] at k3;exact k3
   | ok w=>
    rw[h2] at k3
    have k4:=Rk.ok k3
    have sF:aF F F3:=fun a o z=>e3.ff a o (s2 a o (s1.ff a o z))
    cases w with
    | nx ρ4=>exact fun σ' F' H' s' ab'=>⟨ρ4,F',fun a o z=>s' a o (e3.ff a o (s2 a o z)),ab',k4⟩
    | ct ρ4=>exact fun σ' F' H' s' ab'=>⟨ρ4,F',fun a o z=>s' a o (e3.ff a o (s2 a o z)),ab',k4⟩
    | bk ρ4=>exact fun σ' F' H' s' ab'=>Rk.ok k4 σ' F' H' (fun a o z=>s' a o (sF a o z)) ab'
    | rt a=>exact fun v F' H' z r=>Rk.ok k4 v F' H' z r
 ·have e:i=xs.length:=by omega
  subst e
  rw[List.drop_length] at k2
  exact .inl ⟨yl.stop F2 H2 s2 ab2.fh jP,Rk.ok k2 σ2 F2 H2 (fun a o z=>s2 a o (s1.ff a o z)) ab2⟩
end
end Fl
namespace Fl
open PySem L2 PyProof.Rows
def spG(K:Frag)(mg:Str->Option Value)(T F1:Hp)(n:Nat)(G:List PyData->R PyData):Sp:=fun vs H Q E=>∃ F ds,aF F1 F/\aF T F/\aF F H/\DatVs K F vs ds/\ds.length=n/\match G ds with
 | .bad=>False
 | .ok d=>∀ v F' H',Ext F H F' H'->DatV K F' v d->Q v H'
 | .ex e=>∀ a C F' H',Ext F H F' H'->iP K mg F' e a C->E (.ref C) (some a) H'
def Beh(P:Program)(w:World)(K:Frag)(mg:Str->Option Value)(base:Heap)(T:Hp)(f:Addr)(F1:Hp)(k n:Nat)(G:List PyData->R PyData):Prop:=
 ∃ fd ps,ps.length=n/\f7 K fd ps []/\FnOk P w K mg base (CXe P w) k f fd ps (spG K mg T F1 n G)/\(PySem.W.keepIn K (.ref f)=true\/∃ oc od fd' sl,F1 f=some (FnO f ⟨oc,od,.func fd',sl⟩))
def gOf(P:Program)(w:World)(K:Frag)(mg:Str->Option Value)(base:Heap)(T:Hp):Gb:=⟨Beh P w K mg base T,T,w⟩
def spF(g:Gb)(K:Frag)(mg:Str->Option Value)(n:Nat)(G:List A->R A):Sp:=fun vs H Q E=>∃ F as,aF g.T F/\aF F H/\AFs g K mg F as vs/\as.length=n/\match G as with
 | .bad=>False
 | .ok a=>∀ v F' H',Ext F H F' H'->AF g K mg F' a v->Q v H'
 | .ex e=>∀ a C F' H',Ext F H F' H'->iP K mg F' e a C->E (.ref C) (some a) H'
def aN(P:Program)(w:World)(K:Frag)(mg:Str->Option Value)(base:Heap)(T:Hp)(k:Nat)(x:Str)(ps:List Str)(G:List A->R A):Prop:=Calls P w K mg base (CXe P w) k x ps (spF (gOf P w K mg base T) K mg ps.length G)
def aS(n:Nat)(G:List A->R A)(f:Sg->R (List A)):Sg->R A:=fun ρ=>(f ρ).bind fun as=>if as.length=n then G as else .bad
theorem bF{X:Cx}{c:Ct}{E:XK}{e:Expr}{n:Nat}{G:List A->R A}{g:Gb}{K:Frag}{mg:Str->Option Value}{f:Sg->R (List A)}(hG:g=c.g)(hK:K=c.K)(hM:mg=c.mg)(h:PE X e (q0 (spF g K mg n G) [] E (tAv c E f))):PV X c E e (aS n G f):=PE.imp h fun σ H Q zz0=>by
 obtain ⟨ρ,F,ab,k⟩:=zz0
 subst hG hK hM
 refine ⟨ρ,F,ab,(Rk.bind k).imp fun as _ q vs F1 H1 s1 r1=>?_⟩
 by_cases hn:as.length=n
 ·rw[if_pos hn] at q
  refine ⟨F1,as,fun a o z=>s1.ff a o (ab.f0 a o (ab.t0 a o z)),s1.fh,by rw[List.append_nil];exact r1,hn,?_⟩
  cases hg:G as with
  | bad=>rw[hg] at q;exact q
  | ok a=>rw[hg] at q;exact fun v F' H' s r=>Rk.ok q v F' H' (s1.trans s) r
  | ex e=>rw[hg] at q;exact fun a C F' H' s r=>q a C F' H' ((ab.all.trans s1).trans s) r
 ·rw[if_neg hn] at q;exact q.elim
def fnF(n:Nat)(fb:Sg->R Fw):List A->R A:=fun as=>(fb (as.map some++List.replicate (n - as.length) none)).bind fun w=>match w with
 | .rt (.l _)=>.bad
 | .rt a=>.ok a
 | .nx _=>.ok (.d .none)
 | _=>.bad
theorem AFs.get{g:Gb}{K:Frag}{mg:Str->Option Value}{F:Hp}:∀ {as:List A} {vs:List V} {i:Nat} {a:A},AFs g K mg F as vs->as[i]? = some a->∃ v,vs[i]? = some v/\AF g K mg F a v
 | [],[],_,_,_,h=>by simp at h
 | a::as,v::vs,0,_,h,e=>by simp at e;subst e;exact ⟨v,rfl,h.1⟩
 | a::as,v::vs,i+1,_,h,e=>by
  obtain ⟨w,h1,h2⟩:=AFs.get (i:=i) h.2 (by simpa using e)
  exact ⟨w,by simpa using h1,h2⟩
theorem jQ{α:Type}{as:List α}{n i:Nat}{a:α}(h:(as.map some++List.replicate n none)[i]? = some (some a)):as[i]? = some a:=by
 by_cases hi:i < as.length
 ·rw[List.getElem?_append_left (by rw[List.length_map];exact hi),List.getElem?_map] at h
  cases e:as[i]? with
  | none=>rw[e] at h;cases h
  | some b=>rw[e] at h;cases h;rfl
 ·rw[List.getElem?_append_right (by rw[List.length_map];omega),List.getElem?_replicate] at h
  split at h
  · cases h
  · cases h
theorem vQ{g:Gb}{cells:List (Str×Addr)}{cls:Str->Option ClSt}{K:Frag}{mg:Str->Option Value}{w:World}{F H:Hp}{as:List A}{vs:List V}{n:Nat}(s0:aF g.T F)(s:aF F H)(h:AFs g K mg F as vs):Ab ⟨K,mg,w,F,H,g,cells,cls⟩ (as.map some++List.replicate (n - as.length) none) (vs.map some++List.replicate (n - vs.length) none) F H where
 len:=by rw[List.length_append,List.length_append,List.length_map,List.length_map,List.length_replicate,List.length_replicate,h.len]
 fh:=s
 slot:=fun i a e=>by
  obtain ⟨v,h1,h2⟩:=h.get (jQ e)
  refine ⟨v,?_,AO.of h2⟩
  have hi:i < vs.length:=(List.getElem?_eq_some_iff.mp h1).1
  rw[List.getElem?_append_left (by rw[List.length_map];exact hi),List.getElem?_map,h1];rfl
 apart:=fun i j a b _ e1 _ o _=>by
  obtain ⟨v,h1,h2⟩:=h.get (jQ e1)
  rw[AF.notOwn h2] at o
  cases o
 f0:=b2 F
 h0:=b2 H
 n0:=fun a e n=>absurd e n
 t0:=s0
theorem qC{g:Gb}{cells:List (Str×Addr)}{cls:Str->Option ClSt}{K:Frag}{mg:Str->Option Value}{w:World}{n:Nat}{fb:Sg->R Fw}{vs:List V}{as:List A}{F H:Hp}{Q:VK}{E:XK}(h0:aF g.T F)(h1:aF F H)(h2:AFs g K mg F as vs)(h4:match fnF n fb as with
 | .bad=>False
 | .ok a=>∀ v F' H',Ext F H F' H'->AF g K mg F' a v->Q v H'
 | .ex e=>∀ a C F' H',Ext F H F' H'->iP K mg F' e a C->E (.ref C) (some a) H'):tSf ⟨K,mg,w,F,H,g,cells,cls⟩ E fb {nx:=fun _ H'=>Q .non H',rt:=Q} (vs.map some++List.replicate (n - vs.length) none) H:=by
 refine ⟨_,F,vQ h0 h1 h2,?_⟩
 unfold fnF at h4
 cases e:fb (as.map some++List.replicate (n - as.length) none) with
 | bad=>rw[e] at h4;exact h4
 | ex x=>rw[e] at h4;exact h4
 | ok w=>
  rw[e] at h4
  cases w with
  | nx ρ'=>exact fun σ' F' H' s ab=>h4 .non F' H' ab.all .non
  | rt a=>
   cases a with
   | l xs=>exact h4.elim
   | _=>exact h4
  | bk ρ'=>exact h4.elim
  | ct ρ'=>exact h4.elim
section
variable{P:Program}{w:World}{K:Frag}{mg:Str->Option Value}{base:Heap}{T:Hp}{x:Str}{st:Stmt}{N ps:List Str}{k:Nat}
theorem bO{fb:Sg->R Fw}(D:DefAt K mg x st ps)(S:FnScope N ps (aH st))
  (hbody:∀ (f:Addr) (cdv:Value) (A:Around) (outer:List Env) (s:Shared) (H F:Hp) (E:XK),Room k (A.deeper (envOfC x (aH st) s.heap.objs.size f cdv))->
   jN ((fE (CXe P w) P w K mg base N x (aH st) f cdv A outer s H E).fly E) ⟨K,mg,w,F,H,gOf P w K mg base T,(envOfC x (aH st) s.heap.objs.size f cdv).cells,fun _=>none⟩ E (cA st) fb):aN P w K mg base T (k+1) x ps (fnF N.length fb):=by
 refine D.okX S (fun vs H Q E h=>?_) (fun f cdv A outer s H vs Q E hr h=>?_)
 ·obtain ⟨F,as,_,_,h2,h3,_⟩:=h
  rw[h2.len,h3]
 ·obtain ⟨F,as,h0,h1,h2,h3,h4⟩:=h
  exact ⟨_,hbody f cdv A outer s H F E hr,qC h0 h1 h2 h4⟩
theorem aN.imp{G G':List A->R A}(C:aN P w K mg base T k x ps G)(h:∀ as,G' as≠.bad->G as=G' as):aN P w K mg base T k x ps G':=Calls.imp C fun vs H Q E=>by
 rintro ⟨F,as,h0,h1,h2,h3,h4⟩
 refine ⟨F,as,h0,h1,h2,h3,?_⟩
 cases e:G' as with
 | bad=>rw[e] at h4;exact h4.elim
 | ok a=>rw[h as (by rw[e];exact fun z=>nomatch z),e];rw[e] at h4;exact h4
 | ex x=>rw[h as (by rw[e];exact fun z=>nomatch z),e];rw[e] at h4;exact h4
end
def zH(cn:Str)(fs:List Str)(f:Sg->R (List PyData)):Sg->R Fw:=fun ρ=>(f ρ).bind fun xs=>if xs.length=fs.length then .ex ⟨cn,fs.zip xs⟩ else .bad
end Fl
namespace Fl
open PySem L2 PyProof.Rows
def tPf(c:Ct)(E:XK)(f:Sg->R (Option Int)):TO:=fun σ H Q=>∃ ρ F,Ab c ρ σ F H/\Rk c E F H (f ρ) fun o=>∀ F' H',Ext F H F' H'->Q o H'
noncomputable def oNo:Sg->R (Option Int):=fun _=>.ok none
def oSo(f:Sg->R PyData):Sg->R (Option Int):=fun ρ=>(f ρ).bind fun x=>match x with
 | .int i=>.ok (some i)
 | _=>.bad
noncomputable def jR{α:Type}(xs:List α)(lo hi:Option Int):List α:=(xs.drop (HT.sIx xs.length 0 lo)).take (HT.sIx xs.length xs.length hi - HT.sIx xs.length 0 lo)
noncomputable def dSl:PyData->Option Int->Option Int->R PyData
 | .list xs,lo,hi=>.ok (.list (jR xs lo hi))
 | .tuple xs,lo,hi=>if ¬ (HT.sIx xs.length 0 lo=0/\HT.sIx xs.length xs.length hi=xs.length) then .ok (.tuple (jR xs lo hi)) else .bad
 | .str z,lo,hi=>if z.length<=16777216 then .ok (.str (Txt.slice z lo hi)) else .bad
 | _,_,_=>.bad
def eSl{α:Type}(g:PyData->Option Int->Option Int->R α)(f:Sg->R PyData)(lo hi:Sg->R (Option Int)):Sg->R α:=fun ρ=>(f ρ).bind fun x=>(lo ρ).bind fun l=>(hi ρ).bind fun h=>g x l h
theorem oK{K:Frag}{F:Hp}{vs:List V}{xs:List PyData}(h:DatVs K F vs xs)(lo hi:Option Int):DatVs K F (jE vs lo hi) (jR xs lo hi):=by
 unfold jE jR
 rw[h.length]
 exact (h.drop _).take _
theorem PO.imp{X:Cx}{e:Option Expr}{t t':TO}(h:PO X e t)(i:∀ σ H Q,t' σ H Q->t σ H Q):PO X e t':=fun pins s σ H Q I q=>h pins s σ H Q I (i σ H Q q)
section
variable{X:Cx}{c:Ct}{E:XK}{e a b:Expr}{pos p2:Pos}{lo hi:Option Expr}
theorem nI:PO X none (tPf c E oNo):=PO.imp xB fun σ H Q ⟨ρ,F,ab,k⟩=>Rk.ok k F H (Ext.refl ab.fh)
theorem gY{f:Sg->R PyData}(h:PR X c E e f):PO X (some e) (tPf c E (oSo f)):=PO.imp (xC h) fun σ H Q ⟨ρ,F,ab,k⟩=>⟨ρ,F,ab,(Rk.bind k).imp fun x _ q v F' H' s r=>by
 cases x with
 | int i=>exact ⟨i,aP.int_of r,Rk.ok q F' H' s⟩
 | _=>exact q.elim⟩
def zI(c:Ct){α:Type}(Rb:VR α)(g:PyData->Option Int->Option Int->R α):V->Option Int->Option Int->Hp->VK->Prop:=fun v lo hi H Q=>∃ F x d,aF F H/\aP c.K F H v x/\g x lo hi=.ok d/\∀ w F' H',Ext F H F' H'->Rb d w H F' H'->Q w H'
theorem aA4(hK:X.K=c.K):SlR X (zI c (bH c) dSl):=by
 intro pins s σ H v x vl vu lo hi sl Q I rx hs pl pu h
 obtain ⟨F,d,w,sf,ra,eg,q⟩:=h
 unfold dSl at eg
 split at eg
 ·cases eg
  obtain ⟨p,vs,rfl,h1,h2⟩:=aP.lst_of sf ra
  rw[<-hK] at h1
  exact xG pins s σ H _ x vl vu lo hi sl Q I rx hs pl pu ⟨p,vs,rfl,h1,fun l hl=>q _ _ _ (Ext.new sf hl) (.lst (SqL.of bJ) ((oK h2 lo hi).same (aF.upd (bQ sf hl))))⟩
 ·rename_i xs _ _
  split at eg
  ·rename_i hw
   cases eg
   obtain ⟨p,vs,rfl,_,h1,h2⟩:=aP.tup_of sf ra
   rw[<-hK] at h1
   exact yZ pins s σ H _ x vl vu lo hi sl Q I rx hs pl pu ⟨p,vs,rfl,h1,by rw[h2.length];exact hw,fun l hl=>q _ _ _ (Ext.new sf hl) (.tup (SqT.of bJ) ((oK h2 lo hi).same (aF.upd (bQ sf hl))))⟩
  ·cases eg
 ·split at eg
  ·rename_i hz
   cases eg
   obtain rfl:=aP.str_of ra
   exact y8 pins s σ H _ x vl vu lo hi sl Q I rx hs pl pu ⟨_,rfl,by rw[cG];exact hz,q _ F H (Ext.refl sf) (.str _)⟩
  ·cases eg
 ·cases eg
theorem xO{α:Type}{Rb:VR α}{g:PyData->Option Int->Option Int->R α}(hp:∀ x l h e,g x l h≠.ex e)(kb:n8 Rb){f:Sg->R PyData}{fl fh:Sg->R (Option Int)}{σ:L2.St}{H:Hp}{Q:VK}(h:tV Rb c E (eSl g f fl fh) σ H Q) :
  tSl (zI c Rb g) (tV (aQ c) c E f) (tPf c E fl) (tPf c E fh) σ H Q:=by
 obtain ⟨ρ,F,ab,k⟩:=h
 refine ⟨ρ,F,ab,(Rk.bind k).imp fun x _ q v F1 H1 s1 r1=>⟨ρ,F1,ab.ext s1,((Rk.bind q).ext s1).imp fun l _ q F2 H2 s2=>⟨ρ,F2,ab.ext (s1.trans s2),((Rk.bind q).ext (s1.trans s2)).imp fun hh _ q F3 H3 s3=>?_⟩⟩⟩
 cases eg:g x l hh with
 | bad=>rw[eg] at q;exact q.elim
 | ex e=>exact absurd eg (hp x l hh e)
 | ok d=>
  rw[eg] at q
  have s13:=(s1.trans s2).trans s3
  exact ⟨F3,x,d,s3.fh,aP.ext (s2.trans s3) r1,eg,fun w F' H' s r=>Rk.ok q w F' H' (s13.trans s) (kb _ _ _ _ _ _ s13.hh r)⟩
theorem vR:∀ x l h e,dSl x l h≠.ex e:=by intro x l h e q;unfold dSl at q;split at q<;>(try split at q)<;>cases q
theorem fS{f:Sg->R PyData}{fl fh:Sg->R (Option Int)}(hK:X.K=c.K)(he:PR X c E e f)(hl:PO X lo (tPf c E fl))(hh:PO X hi (tPf c E fh)):PD X c E (.Subscript e (.Slice lo hi none p2) pos) (eSl dSl f fl fh):=
 PE.imp (u1 (aA4 hK) he hl hh) fun σ H Q h=>xO vR (eF c) h
noncomputable def tyN:PyData->String
 | .none=>"NoneType"
 | .bool _=>"bool"
 | .int _=>"int"
 | .str _=>"str"
 | .list _=>"list"
 | .tuple _=>"tuple"
 | .dict _=>"dict"
noncomputable def fU(t T:String):Bool:=t == T || (T == "int" && t == "bool")
noncomputable def eP(T:String)(x:PyData):R PyData:=match x with
 | .dict _=>.bad
 | x=>.ok (.bool (fU (tyN x) T))
structure Kit(K:Frag)(T:String):Prop where
 non:PySem.W.kitOne K (.type "NoneType") (.type T)=some (fU "NoneType" T)
 bl:PySem.W.kitOne K (.type "bool") (.type T)=some (fU "bool" T)
 int:PySem.W.kitOne K (.type "int") (.type T)=some (fU "int" T)
 str:PySem.W.kitOne K (.type "str") (.type T)=some (fU "str" T)
 lst:PySem.W.kitOne K (.type "list") (.type T)=some (fU "list" T)
 tup:PySem.W.kitOne K (.type "tuple") (.type T)=some (fU "tuple" T)
theorem xP(K:Frag):Kit K "int":=⟨rfl,rfl,rfl,rfl,rfl,rfl⟩
theorem vS(K:Frag):Kit K "bool":=⟨rfl,rfl,rfl,rfl,rfl,rfl⟩
theorem xQ(K:Frag):Kit K "str":=⟨rfl,rfl,rfl,rfl,rfl,rfl⟩
theorem vT{X:Cx}:dO X (.builtin "isinstance") (fun xs H Q=>∃ a ys c cv b,xs=[.ref a,c]/\SqL X.K H a ys/\rF c=some cv/\PySem.W.kitOne X.K (.type "list") cv=some b/\Q (.bl b) H):=by
 intro pins s σ H xs us Q I r h
 obtain ⟨a,ys,c,cv,b,rfl,ha,hc,e,q⟩:=h
 obtain ⟨u,v,rfl,ru,rv⟩:=k6 r
 obtain rfl:=l8 hc rv
 cases (show u=Value.ref a from ru)
 obtain ⟨its,_,pl,_⟩:=I.list ha
 obtain ⟨o,h1,h2,_⟩:=pl.isList
 exact PySem.W.kia_one PySem.W.kitx_list I.kIn ⟨o,h1,h2⟩ e (fun z=>nomatch z) fun tk=>⟨.bl b,H,I.tok _,rfl,q⟩
def vU(c:Ct)(T:String):List V->Hp->VK->Prop:=fun xs H Q=>∃ F x v d,xs=[v,.ty T]/\aF F H/\aP c.K F H v x/\eP T x=.ok d/\∀ w F' H',Ext F H F' H'->DatV c.K F' w d->Q w H'
theorem kS(hK:X.K=c.K){T:String}(k:Kit X.K T):dO X (.builtin "isinstance") (vU c T):=by
 intro pins s σ H xs us Q I r h
 obtain ⟨F,x,v,d,rfl,sf,ra,eg,q⟩:=h
 cases x with
 | dict _=>cases eg
 | none=>
  cases eg
  obtain rfl:=aP.non_of ra
  exact f8 pins s σ H _ us Q I r ⟨_,_,_,_,_,rfl,.pl .non,rfl,k.non,q _ F H (Ext.refl sf) (.bl _)⟩
 | bool b=>
  cases eg
  obtain rfl:=aP.bl_of ra
  exact f8 pins s σ H _ us Q I r ⟨_,_,_,_,_,rfl,.pl (.bl b),rfl,k.bl,q _ F H (Ext.refl sf) (.bl _)⟩
 | int b=>
  cases eg
  obtain rfl:=aP.int_of ra
  exact f8 pins s σ H _ us Q I r ⟨_,_,_,_,_,rfl,.pl (.int b),rfl,k.int,q _ F H (Ext.refl sf) (.bl _)⟩
 | str b=>
  cases eg
  obtain rfl:=aP.str_of ra
  exact f8 pins s σ H _ us Q I r ⟨_,_,_,_,_,rfl,.pl (.str b),rfl,k.str,q _ F H (Ext.refl sf) (.bl _)⟩
 | tuple xs=>
  cases eg
  obtain ⟨p,vs,rfl,_,h1,h2⟩:=aP.tup_of sf ra
  rw[<-hK] at h1
  exact nZ pins s σ H _ us Q I r ⟨p,vs,_,_,_,rfl,h1,rfl,k.tup,q _ F H (Ext.refl sf) (.bl _)⟩
 | list xs=>
  cases eg
  obtain ⟨p,vs,rfl,h1,h2⟩:=aP.lst_of sf ra
  rw[<-hK] at h1
  exact vT pins s σ H _ us Q I r ⟨p,vs,_,_,_,rfl,h1,rfl,k.lst,q _ F H (Ext.refl sf) (.bl _)⟩
theorem oM{T:String}{f:Sg->R PyData}(h:PE X e (tCB (vU c T) (cV (tV (aQ c) c E f) (cV (tC (.ty T)) fC)))):PD X c E e (e1 (eP T) f):=PE.imp h fun σ H Q zz0=>by
 obtain ⟨ρ,F,ab,k⟩:=zz0
 refine ⟨ρ,F,ab,(Rk.bind k).imp fun x _ q v F1 H1 s1 r1=>?_⟩
 show vU c T [v,.ty T] H1 Q
 cases x with
 | dict _=>exact q.elim
 | none=>exact ⟨F1,_,v,_,rfl,s1.fh,r1,rfl,fun w F' H' s r=>Rk.ok q w F' H' (s1.trans s) r⟩
 | bool _=>exact ⟨F1,_,v,_,rfl,s1.fh,r1,rfl,fun w F' H' s r=>Rk.ok q w F' H' (s1.trans s) r⟩
 | int _=>exact ⟨F1,_,v,_,rfl,s1.fh,r1,rfl,fun w F' H' s r=>Rk.ok q w F' H' (s1.trans s) r⟩
 | str _=>exact ⟨F1,_,v,_,rfl,s1.fh,r1,rfl,fun w F' H' s r=>Rk.ok q w F' H' (s1.trans s) r⟩
 | list _=>exact ⟨F1,_,v,_,rfl,s1.fh,r1,rfl,fun w F' H' s r=>Rk.ok q w F' H' (s1.trans s) r⟩
 | tuple _=>exact ⟨F1,_,v,_,rfl,s1.fh,r1,rfl,fun w F' H' s r=>Rk.ok q w F' H' (s1.trans s) r⟩
noncomputable def iV:List PyData->Option (List Str)
 | []=>some []
 | .str s::t=>(iV t).map (s :: ·)
 | _=>none
theorem iD{K:Frag}{F:Hp}:∀ {vs:List V} {xs:List PyData} {ys:List Str},DatVs K F vs xs->iV xs=some ys->vs=ys.map V.str
 | _,_,ys,.nil,e=>by cases e;rfl
 | _,_,ys,.cons (d:=d) (ds:=t) h h2,e=>by
  cases d with
  | str b=>
   unfold iV at e
   cases q:iV t with
   | none=>rw[q] at e;cases e
   | some cs=>
    rw[q] at e
    cases e
    rw[iD h2 q,h.str_of];rfl
  | _=>cases e
noncomputable def eH:PyData->PyData->R PyData
 | .str sep,.list xs=>match iV xs with
  | some ys=>if (ys.map fun y=>y.length).sum+ys.length * sep.length<=16777216 then .ok (.str (Txt.join sep ys)) else .bad
  | none=>.bad
 | _,_=>.bad
theorem kB{f g:Sg->R PyData}(hK:X.K=c.K)(h:PE X e (tBM X.K "str" (wL X.K) (tV (aQ c) c E f) (cV (tV (aQ c) c E g) fC)))(hs:∀ ρ x,f ρ=.ok x->∃ z,x=.str z):PD X c E e (e2 eH f g):=PE.imp h fun σ H Q ⟨ρ,F,ab,k⟩=>by
 refine ⟨ρ,F,ab,(Rk.bind k).imp fun x ex q v F1 H1 s1 r1=>?_⟩
 obtain ⟨z,rfl⟩:=hs ρ x ex
 obtain rfl:=aP.str_of r1
 refine ⟨rfl,ρ,F1,ab.ext s1,((Rk.bind q).ext s1).imp fun y _ q u F2 H2 s2 r2=>?_⟩
 cases y with
 | list xs=>
  have q':Rk c E F H (match iV xs with
   | some ys=>if (ys.map fun y=>y.length).sum+ys.length * z.length<=16777216 then R.ok (PyData.str (Txt.join z ys)) else .bad
   | none=>.bad) (fun d=>∀ v F' H',Ext F H F' H'->bH c d v H F' H'->Q v H'):=q
  split at q'
  ·rename_i ys hy
   split at q'
   ·rename_i hz
    obtain ⟨p,vs,rfl,h1,h2⟩:=aP.lst_of s2.fh r2
    rw[<-hK] at h1
    obtain rfl:=iD h2 hy
    exact ⟨z,p,ys,rfl,rfl,h1,hz,Rk.ok q' _ F2 H2 (s1.trans s2) (.str _)⟩
   ·exact q'.elim
  ·exact q'.elim
 | _=>exact q.elim
end
end Fl
namespace Fl
open PySem L2 PyProof.Rows
noncomputable def dS(kvs:List (PyData×PyData))(k:PyData):Option PyData:=(kvs.find? fun p=>decide (p.1=k)).map (·.2)
noncomputable def d8(kvs:List (PyData×PyData))(k:PyData):Bool:=(dS kvs k).isSome
noncomputable def oN(kvs:List (PyData×PyData))(k v:PyData):List (PyData×PyData):=if d8 kvs k=true then kvs.map (fun p=>if p.1=k then (p.1,v) else p) else kvs++[(k,v)]
theorem qD{K:Frag}{F:Hp}{k:PyData}:∀ {es:List Ent} {kvs:List (PyData×PyData)},es.map (·.1)=kvs.map (·.1)->DatVs K F (es.map (·.2.2)) (kvs.map (·.2))->
  (atE es k=none/\dS kvs k=none)\/∃ v d,atE es k=some v/\dS kvs k=some d/\DatV K F v d
 | [],[],_,_=>.inl ⟨rfl,rfl⟩
 | [],_::_,h,_=>by cases h
 | _::_,[],h,_=>by cases h
 | e::es,p::kvs,h,r=>by
  rw[List.map_cons,List.map_cons] at h r
  injection h with h1 h2
  obtain ⟨v,t,e1,r1,r2⟩:=r.cons_of
  rw[List.cons.injEq] at e1
  obtain ⟨rfl,rfl⟩:=e1
  have ih:=qD (k:=k) h2 r2
  unfold atE dS at ih ⊢
  rw[List.find?_cons,List.find?_cons,h1]
  by_cases q:p.1=k
  · rw [decide_eq_true q]; exact .inr ⟨_, _, rfl, rfl, r1⟩
  · rw [decide_eq_false q]; exact ih
theorem MapRel.get{K:Frag}{F:Hp}{es:List Ent}{kvs:List (PyData×PyData)}(m:MapRel K F es kvs)(k:PyData):(atE es k=none/\dS kvs k=none)\/∃ v d,atE es k=some v/\dS kvs k=some d/\DatV K F v d:=qD m.k1 m.vs
theorem MapRel.has{K:Frag}{F:Hp}{es:List Ent}{kvs:List (PyData×PyData)}(m:MapRel K F es kvs)(k:PyData):(atE es k).isSome=d8 kvs k:=by
 unfold d8
 rcases m.get k with ⟨a,b⟩|⟨v,d,a,b,_⟩<;>rw[a,b]<;>rfl
section
variable{X:Cx}{c:Ct}{E:XK}{e a b:Expr}{st:Stmt}{pos:Pos}
noncomputable def aA5(i:Nat):Sg->R Fw:=fun ρ=>.ok (.nx (ρ.set i (some (.m []))))
noncomputable def aCL(neg:Bool)(i:Nat)(f:Sg->R PyData):Sg->R PyData:=fun ρ=>(f ρ).bind fun k=>match ρ[i]? with
 | some (some (.m kvs))=>if cW k (kvs.map (·.1))=true then .ok (.bool (if neg=true then !d8 kvs k else d8 kvs k)) else .bad
 | some (some (.f kvs))=>if cW k (kvs.map (·.1))=true then .ok (.bool (if neg=true then !d8 kvs k else d8 kvs k)) else .bad
 | _=>.bad
noncomputable def aA6(i:Nat)(f:Sg->R PyData):Sg->R PyData:=fun ρ=>match ρ[i]? with
 | some (some (.m kvs))=>(f ρ).bind fun k=>if cW k (kvs.map (·.1))=true then match dS kvs k with
  | some v=>.ok v
  | none=>.bad else .bad
 | some (some (.f kvs))=>(f ρ).bind fun k=>if cW k (kvs.map (·.1))=true then match dS kvs k with
  | some v=>.ok v
  | none=>.bad else .bad
 | _=>.bad
noncomputable def aA7(i:Nat)(f g:Sg->R PyData):Sg->R Fw:=fun ρ=>(g ρ).bind fun v=>match ρ[i]? with
 | some (some (.m kvs))=>(f ρ).bind fun k=>if cW k (kvs.map (·.1))=true/\kvs.length<=16777216 then .ok (.nx (ρ.set i (some (.m (oN kvs k v))))) else .bad
 | _=>.bad
end
theorem iW{K:Frag}{a:Addr}{vs:List V}{xs:List PyData}(m:Mc.iM K a vs)(h:∀ F,DatVs K F vs xs)(F:Hp):DatV K F (.ref a) (.tuple xs):=.tup (m.sq F) (h F)
end Fl
namespace Fl
open PySem L2 PyProof.Rows
section
variable{X:Cx}{c:Ct}{E:XK}{e a b:Expr}{st:Stmt}{pos p2:Pos}
def aCM(fs:PyData->Sg->Option Sg)(f:Sg->R PyData):Sg->R Fw:=fun ρ=>(f ρ).bind fun x=>(oJ (fs x ρ)).bind fun ρ'=>.ok (.nx ρ')
noncomputable def zJ:PyData->R PyData
 | .str z=>if z.length<=16777216 then .ok (.str ⟨z.cps.toList.reverse.toArray⟩) else .bad
 | _=>.bad
def aCN(f:Sg->R PyData)(g:Sg->R (Option Int)):Sg->R PyData:=fun ρ=>(f ρ).bind fun x=>(g ρ).bind fun o=>if o=some (-1) then zJ x else .bad
end
end Fl
namespace Fl
open PySem L2 PyProof.Rows
theorem zK{P:Program}{w:World}{K:Frag}{mg:Str->Option Value}{base:Heap}{T:Hp}{x:Str}{st:Stmt}{N ps:List Str}{k:Nat}{f:Addr}{fd:FuncData}{fb:Sg->R Fw}(FL:Fun K x x st f fd)(S:FnScope N ps (aH st))
  (hbody:∀ (cdv:Value) (A:Around) (outer:List Env) (s:Shared) (H F:Hp) (E:XK),Room k (A.deeper (envOfC x (aH st) s.heap.objs.size f cdv))->
   jN ((fE (CXe P w) P w K mg base N x (aH st) f cdv A outer s H E).fly E) ⟨K,mg,w,F,H,gOf P w K mg base T,(envOfC x (aH st) s.heap.objs.size f cdv).cells,fun _=>none⟩ E (cA st) fb):FnOk P w K mg base (CXe P w) (k+1) f fd ps (spF (gOf P w K mg base T) K mg ps.length (fnF N.length fb)):=by
 refine FL.okX S (fun vs H Q E h=>?_) (fun cdv A outer s H vs Q E hr h=>?_)
 ·obtain ⟨F,as,_,_,h2,h3,_⟩:=h
  rw[h2.len,h3]
 ·obtain ⟨F,as,h0,h1,h2,h3,h4⟩:=h
  exact ⟨_,hbody cdv A outer s H F E hr,qC h0 h1 h2 h4⟩
def nJ(K:Frag)(T:Hp):Sp:=fun vs H Q _=>∃ (a:Addr) (ns:List Int),vs=[.ref a]/\ns.length<=63/\aF T H/\SqL K H a (ns.map V.int)/\∀ H',Q (.bl true) H'
theorem oO{K:Frag}{H:Hp}:∀ (ns:List Int),DatVs K H (ns.map V.int) (ns.map PyData.int)
 | []=>.nil
 | n::t=>.cons (.int n) (oO t)
theorem zL{P:Program}{w:World}{K:Frag}{mg:Str->Option Value}{base:Heap}{T:Hp}{k:Nat}{f:Addr}{fd:FuncData}{x:Str}{G:List A->R A}(h:FnOk P w K mg base (CXe P w) k f fd [x] (spF (gOf P w K mg base T) K mg 1 G))
  (hl:∀ ns:List Int,ns.length<=63->G [.d (.list (ns.map .int))]=.ok (.d (.bool true))):FnOk P w K mg base (CXe P w) k f fd [x] (nJ K T):=h.imp fun vs H Q E=>by
 rintro ⟨a,ns,rfl,hn,ht,hs,q⟩
 refine ⟨H,[.d (.list (ns.map .int))],ht,b2 H,⟨.lst hs (oO ns),trivial⟩,rfl,?_⟩
 rw[hl ns hn]
 intro v F' H' _ r
 obtain rfl:=DatV.bl_of r
 exact q H'
theorem aA8(P:Program)(w:World)(H:Hp)(s:Shared)(e:Value)(s':Shared)(h:CXe P w [] H s (fun _ _ _=>False) e s'):False:=by
 obtain ⟨_,_,_,_,_,_,_,_,_,_,_,q⟩:=h
 exact q
theorem zM{l:PySem.W.OpenLaw}{k:Nat}{q:Program}{loose:List Str}{XP:(Str->Option Value)->Heap->Prop}{YP:World->Heap->Prop}{d:DefRec}{K:Params->Frag}{x:Str}
  (hn:l.most=some 63) (hdf:d.params.defaults=[]) (hr:Room k callerA)
  (hY:∀ (w:World) (h:Heap),YP w h->(K w.params).In h)
  (F:∀ (w:World) (mg:Str->Option Value) (fa:Addr) (h:Heap),(K w.params).In h->h.Ns mainGlobals mg->mg d.name=some (.ref fa)->
   ∃ fd:FuncData,(∀ (s:Shared) (u:Value),BindsTo s fd ⟨[u],[]⟩ [(x,u)]) /\
    ∀ base:Heap,(K w.params).In base->base.Ns mainGlobals mg->FnOk l.prog w (K w.params) mg base (CXe l.prog w) k fa fd [x] (nJ (K w.params) fun _=>none)) :
  PySem.W.WalkO q loose XP YP l.row.toRowW d [] (fun f vs=>PySem.call f vs):=
 walk_of (K:=K) (CX:=fun w=>CXe l.prog w) (sp:=fun w=>nJ (K w.params) fun _=>none) hn (by decide) hdf hr hY F (fun w H a ns hl hO hS=>⟨a,ns,rfl,hl,fun _ _ z=>(nomatch z),hS,fun _=>rfl⟩) fun w H s e s' z=>aA8 _ w H s e s' z
end Fl
namespace Fl
open PySem L2 PyProof.Rows
variable{X:Cx}{c:Ct}{E:XK}{e:Expr}
noncomputable def d2(G:Int->Int->Int):PyData->PyData->R PyData
 | .int i,.int j=>.ok (.int (G i j))
 | _,_=>.bad
noncomputable def d1(G:Int->Int):PyData->R PyData
 | .int i=>.ok (.int (G i))
 | _=>.bad
noncomputable def mH(i j:Int):Int:=if j > i then j else i
noncomputable def eQ(i j:Int):Int:=if j < i then j else i
theorem oP{G:Int->Int->Int}{f g:Sg->R PyData}(h0:PE X e (tCB (fun xs H Q=>∃ i j,xs=[.int i,.int j]/\Q (.int (G i j)) H) (cV (tV (aQ c) c E f) (cV (tV (aQ c) c E g) fC)))):PD X c E e (e2 (d2 G) f g):=PE.imp h0 fun σ H Q zz0=>by
 obtain ⟨ρ,F,ab,k⟩:=zz0
 refine ⟨ρ,F,ab,(Rk.bind k).imp fun x ex q v F1 H1 s1 r1=>?_⟩
 refine ⟨ρ,F1,ab.ext s1,((Rk.bind q).ext s1).imp fun y _ q u F2 H2 s2 r2=>?_⟩
 cases x with
 | int i=>
  cases y with
  | int j=>
   obtain rfl:=aP.int_of r1
   obtain rfl:=aP.int_of r2
   exact ⟨i,j,rfl,Rk.ok q _ F2 H2 (s1.trans s2) (.int _)⟩
  | _=>exact q.elim
 | _=>exact q.elim
end Fl
namespace L2
open PySem PyProof.Rows
variable{X:Cx}
end L2
namespace Fl
open PySem L2 PyProof.Rows
variable{X:Cx}{c:Ct}{E:XK}{e:Expr}
end Fl
namespace Fl
open PySem L2 PyProof.Rows
variable{X:Cx}{c:Ct}{E:XK}{e:Expr}{st:Stmt}
def kT:Sg->R Fw:=fun _=>.bad
theorem oQ:PSf X c E st kT:=fun _ _ _ _ _ _ ⟨_,_,_,k⟩=>k.elim
end Fl
namespace L2
open PySem PyProof.Rows
theorem xR{prog:Program}{w:World}{A:Around}{E:Value->Shared->Prop}{s:Shared}{t b:Addr}{vs ws:List Value}{Q:Value->Shared->Prop}(ht:PlainL s.heap t vs.toArray)(hb:PlainL s.heap b ws.toArray)
  (h2:Q (.ref s.heap.objs.size) {s with heap:=s.heap.push {cls:=.type "list",data:=.seq (vs++ws).toArray}})
  (hsz:vs.length+ws.length<=sizeLine):wpAny (model prog w) A (binaryOp .Add (.ref t) (.ref b)) Q E s:=by
 obtain ⟨⟨cls,dd,data,sl⟩,n,ho,hc,_,hd⟩:=id ht
 obtain ⟨⟨cls2,dd2,data2,sl2⟩,n2,ho2,hc2,_,hd2⟩:=id hb
 simp only at hc hd hc2 hd2
 subst hc hd hc2 hd2
 have e:vs.toArray++ws.toArray=(vs++ws).toArray:=by simp
 refine concat_meets ⟨_,ho,rfl⟩ ⟨_,ho2,rfl⟩ noFill_list_add seq_list_add PySem.F.slot_list_add PySem.F.entry_list_add (PySem.F.args_list_add_2 _ _)
   (list_addW t b vs.toArray ws.toArray n n2 dd dd2 sl sl2 (by rw[List.size_toArray,List.size_toArray];exact hsz)) ⟨ho,ho2,?_⟩
 rw[e]
 exact h2
end L2
namespace Fl
open PySem L2 PyProof.Rows
section
variable{X:Cx}{c:Ct}{E:XK}{e a b:Expr}{pos:Pos}
noncomputable def fV:PyData->PyData->R (List PyData)
 | .list xs,.list ys=>if xs.length+ys.length<=sizeLine then .ok (xs++ys) else .bad
 | _,_=>.bad
theorem xS(hK:X.K=c.K):OpR X (binaryOp .Add) (r2D (aQ c) (aQ c) (kQ c) fV):=by
 intro pins s σ H v u x y Q I rx ry h
 obtain ⟨H0,H1,F,a,b,d,sf,ra,rb,eg,q⟩:=h
 unfold fV at eg
 split at eg
 ·rename_i xs ys
  split at eg
  ·rename_i hz
   cases eg
   obtain ⟨pa,vs,rfl,ha,da⟩:=aP.lst_of sf ra
   obtain ⟨pb,us,rfl,hb,db⟩:=aP.lst_of sf rb
   rw[<-hK] at ha hb
   cases rx
   cases ry
   obtain ⟨its,r1,p1,_⟩:=I.list ha
   obtain ⟨its2,r2,p2,_⟩:=I.list hb
   have hz':vs.length+us.length<=sizeLine:=by rw[da.length,db.length];exact hz
   have hp:=I.fresh
   refine xR p1 p2 ?_ (by rw[<-r1.length,<-r2.length];exact hz')
   exact ⟨.ref _,_,I.lnew (t':=s.toks) (r1.append r2) (by rw[List.length_append];exact hz'),rfl,q _ F _ (Ext.own sf hp) ⟨_,_,rfl,hp,bJ,bQ sf hp,da.append db⟩⟩
  ·cases eg
 ·cases eg
theorem tL:bI fV:=by
 intro a b e h
 unfold fV at h
 split at h<;>(try split at h)<;>cases h
theorem lK(hK:X.K=c.K){fa fb:Sg->R PyData}(ha:PR X c E a fa)(hb:PR X c E b fb):PN X c E (.BinOp a .Add b pos) (e2 fV fa fb):=
 PE.imp (wE (xS hK) ha hb) fun σ H Q h=>tV2 lG tL (jJ c) (aA0 c) h
end
end Fl
namespace Fl
open PySem L2 PyProof.Rows
abbrev TP:=L2.St->Hp->(List (V×V)->Hp->Prop)->Prop
def aCO(p:V×V)(u:Value×Value):Prop:=a9 p.1 u.1/\a9 p.2 u.2
def PPr(X:Cx)(keys:List (Option Expr))(vals:List Expr)(t:TP):Prop:=∀ (pos:Pos) (pins:List (Addr×Obj)) (s:Shared) (σ:L2.St) (H:Hp) (Q:List (V×V)->Hp->Prop),Inv X pins σ H s->t σ H Q->
 wpAny (model X.prog X.w) X.A (evalPairs (pairTrees keys vals X.env pos)) (fun vs s'=>∃ ps H',Inv X pins σ H' s'/\Paired aCO ps vs/\Q ps H') X.xe s
section
variable{X:Cx}{c:Ct}{E:XK}{e a b:Expr}{st:Stmt}{pos:Pos}
noncomputable def oR:List (PyData×PyData)->List (PyData×PyData)->R (List (PyData×PyData))
 | acc,[]=>.ok acc
 | acc,(k,v)::t=>if cW k (acc.map (·.1))=true/\acc.length<=16777216 then oR (oN acc k v) t else .bad
theorem PPr.imp{X:Cx}{ks:List (Option Expr)}{vs:List Expr}{t t':TP}(h:PPr X ks vs t)(i:∀ σ H Q,t' σ H Q->t σ H Q):PPr X ks vs t':=fun pos pins s σ H Q I q=>h pos pins s σ H Q I (i σ H Q q)
noncomputable def aCP:Sg->R (List (PyData×PyData)):=fun _=>.ok []
def aA9(f g:Sg->R PyData)(r:Sg->R (List (PyData×PyData))):Sg->R (List (PyData×PyData)):=fun ρ=>(f ρ).bind fun x=>(g ρ).bind fun y=>(r ρ).bind fun t=>.ok ((x,y)::t)
noncomputable def aBA(i:Nat)(f:Sg->R (List (PyData×PyData))):Sg->R Fw:=fun ρ=>(f ρ).bind fun kvs=>(oR [] kvs).bind fun res=>.ok (.nx (ρ.set i (some (.m res))))
end
end Fl
namespace Fl
open PySem L2 PyProof.Rows
section
variable{X:Cx}{c:Ct}{E:XK}{e a b:Expr}{st:Stmt}{pos:Pos}
noncomputable def zN(i:Nat)(f g:Sg->R PyData):Sg->R PyData:=fun ρ=>match ρ[i]? with
 | some (some (.m kvs))=>(f ρ).bind fun k=>(g ρ).bind fun y=>if cW k (kvs.map (·.1))=true then .ok ((dS kvs k).getD y) else .bad
 | _=>.bad
def iX(K:Frag)(w:World)(a:Addr)(es:List Ent):Prop:=(a == sysModules)=false/\∃ o ar ep,K.lookup a=some o/\o.ExactDict/\o.data=.dict ar ep/\Paired (rK w) es ar.toList
def oS(e:Ent):Prop:=∃ k,e.1=keyPy k/\e.2.1=kV k
end
end Fl
namespace Fl
open PySem L2 PyProof.Rows
section
variable{X:Cx}{c:Ct}{E:XK}
end
end Fl
namespace Fl
open PySem L2 PyProof.Rows
end Fl
namespace Fl
open PySem L2 PyProof.Rows
section
variable{X:Cx}{c:Ct}{E:XK}{e:Expr}{P:Program}{w:World}{base:Heap}
end
end Fl
namespace L2
open PySem PySem.Spec PyProof.Rows
theorem bZ.got{P:Program}{w:World}{H:Hp}{h:Heap}{a:Addr}{o:HO}(x:bZ P w H h a o):∃ u,h.get? a=some u:=by
 cases o with
 | lst xs=>obtain ⟨_,_,_,_,e⟩:=x;exact ⟨_,e⟩
 | tup xs=>obtain ⟨_,_,_,⟨o,e,_⟩⟩:=x;exact ⟨_,e⟩
 | dK kvs=>obtain ⟨_,_,_,_,o,_,_,e,_⟩:=x;exact ⟨_,e⟩
 | dT kvs=>obtain ⟨_,_,_,_,o,_,_,e,_⟩:=x;exact ⟨_,e⟩
 | set S n=>obtain ⟨o,_,_,_,e,_⟩:=x;exact ⟨_,e⟩
 | ins C dx fs=>obtain ⟨_,_,_,e,_⟩:=x;exact ⟨_,e⟩
 | own y=>exact x
 | xd fs=>obtain ⟨_,⟨_,_,_,e,_⟩,_⟩:=x;exact ⟨_,e⟩
 | rng lo hi=>obtain ⟨_,_,_,e⟩:=x;exact ⟨_,e⟩
 | frz ob u=>exact ⟨_,x.1⟩
 | tbl ps=>obtain ⟨_,e,_⟩:=x;exact ⟨_,e⟩
 | cod q=>obtain ⟨c,o,vs,t,e,ho,_⟩:=x;cases e;exact ⟨_,ho⟩
 | met f y=>exact ⟨_,x⟩
 | ext φ=>exact x.2.1
theorem HOk.free{P:Program}{w:World}{H:Hp}{h:Heap}{a:Addr}(x:HOk P w H h)(e:h.get? a=none):H a=none:=by
 cases q:H a with
 | none=>rfl
 | some u=>
  obtain ⟨o,z⟩:=(x a u q).got
  rw[e] at z;cases z
structure ErrP(K:Frag)(mg:Str->Option Value)(x:Str)(W C:Addr):Prop where
 c:SX.ExcC K W C
 m:mg x=some (.ref C)
 lk:∃ nm q N bs sn sub ab col dd k0 k1 k2 k3 k5,K.lookup C=some (excClassObj nm q C N bs (.ref W::SX.kO) true sn sub ab col dd k0 k1 k2 k3 k5 "ValueError.__new__")/\PySem.W.nsOkIn K N=true/\PySem.W.nsIn K N "__init__"=some none
 lw:∃ c0 dd cd sl,K.lookup W=some ⟨c0,dd,.cls cd,sl⟩/\PySem.W.nsOkIn K cd.ns=true/\PySem.W.nsIn K cd.ns "__init__"=some none
def few(i:Int):Prop:=i=40\/i=60\/i=200\/i=300
end L2
namespace Fl
open PySem L2 PyProof.Rows
instance (i:Int):Decidable (few i):=by unfold few;infer_instance
section
variable{X:Cx}{c:Ct}{E:XK}{st:Stmt}{cn:Str}{C:Addr}
end
end Fl
namespace Fl
open PySem L2 PyProof.Rows
end Fl
namespace HT
open PySem PySem.Spec PyProof.Rows L2
def gt2(i j:Int)(x y:Str):Bool:=if i=j then (if x=y then false else decide (y.cps.toList < x.cps.toList)) else decide (j < i)
end HT
namespace Fl
open PySem L2 PyProof.Rows
def FnK(K:Frag)(H:Hp)(f:Addr):Prop:=PySem.W.keepIn K (.ref f)=true\/∃ oc od fd sl,H f=some (FnO f ⟨oc,od,.func fd,sl⟩)
theorem FnK.same{K:Frag}{H H':Hp}{f:Addr}(s:aF H H')(h:FnK K H f):FnK K H' f:=h.imp id fun ⟨oc,od,fd,sl,e⟩=>⟨oc,od,fd,sl,s _ _ e⟩
def gF(K:Frag)(F H:Hp):List V->List PyData->Prop
 | [],[]=>True
 | v::vs,d::ds=>aP K F H v d/\gF K F H vs ds
 | _,_=>False
theorem gF.ext{K:Frag}{F H F' H':Hp}(e:Ext F H F' H'):∀ {vs:List V} {ds:List PyData},gF K F H vs ds->gF K F' H' vs ds
 | [],[],_=>trivial
 | v::vs,d::ds,h=>⟨aP.ext e h.1,gF.ext e h.2⟩
theorem gF.len{K:Frag}{F H:Hp}:∀ {vs:List V} {ds:List PyData},gF K F H vs ds->vs.length=ds.length
 | [],[],_=>rfl
 | v::vs,d::ds,h=>by rw[List.length_cons,List.length_cons,gF.len h.2]
theorem aCQ{K:Frag}{F H:Hp}(s:aF F H):∀ {vs:List V} {ds:List PyData},gF K F H vs ds->∃ FL,aF F FL/\aF FL H/\DatVs K FL vs ds
 | [],[],_=>⟨F,b2 F,s,.nil⟩
 | v::vs,d::ds,h=>by
  obtain ⟨FL,a,b,r⟩:=aCQ s h.2
  rcases h.1 with q|⟨p,us,xs,rfl,rfl,h1,h2⟩
  ·exact ⟨FL,a,b,.cons (q.same a) r⟩
  ·refine ⟨fun x=>if x=p then some (.lst us) else FL x,fun x o z=>?_,fun x o z=>?_,?_⟩
   ·by_cases hx:x=p
    ·subst hx
     have:=s x o z
     rw[h1] at this;cases this
     exact if_pos rfl
    ·exact (if_neg hx).trans (a x o z)
   ·by_cases hx:x=p
    ·subst hx
     have z':=(if_pos rfl).symm.trans z
     rw[h1];exact z'
    ·exact b x o ((if_neg hx).symm.trans z)
   ·have sm:aF FL (fun x=>if x=p then some (.lst us) else FL x):=fun x o z=>by
     by_cases hx:x=p
     ·subst hx
      have:=b x o z
      rw[h1] at this;cases this
      exact if_pos rfl
     ·exact (if_neg hx).trans z
    exact .cons (.lst (SqL.of (if_pos rfl)) (h2.same fun x o z=>sm x o (a x o z))) (r.same sm)
end Fl
namespace Fl
open PySem L2 PyProof.Rows
def aBB(P:Program)(w:World)(K:Frag)(mg:Str->Option Value)(base:Heap)(T:Hp)(S:ClSt)(fr:List Str)(k n:Nat)(Gm:List A->List PyData->R PyData):Prop:=
 ∀ (F0 F1:Hp) (caps:List A) (cvs:List V) (f:Addr) (cl:List (Str×Addr)) (doc pm ct:Value) (cc:Addr),aF T F0->AFs (gOf P w K mg base T) K mg F0 caps cvs->aF F0 F1->
  F1 f=some (FnO f (S.obj cl doc pm cc ct))->F1 cc=some (.cod S.qual)->CapAt F1 fr cl cvs->(∀ c∈xL fr cl,F0 c=none)->Beh P w K mg base T f F1 k n (Gm caps)
theorem AFs.data{g:Gb}{K:Frag}{mg:Str->Option Value}{F:Hp}:∀ {vs:List V} {ds:List PyData},DatVs K F vs ds->AFs g K mg F (ds.map .d) vs
 | _,_,.nil=>trivial
 | _,_,.cons h r=>⟨h,AFs.data r⟩
end Fl
namespace Fl
open PySem L2 PyProof.Rows
def nK(c:Ct)(F:Hp)(S:ClSt)(v:V):Prop:=∃ f cl doc pm cc ct,v=.ref f/\F f=some (FnO f (S.obj cl doc pm cc ct))/\F cc=some (.cod S.qual)/\ClOf c.cells S.scope cl
theorem nK.same{c:Ct}{F F':Hp}{S:ClSt}{v:V}(s:aF F F'):nK c F S v->nK c F' S v:=by
 rintro ⟨f,cl,doc,pm,cc,ct,h1,h2,h3,h4⟩
 exact ⟨f,cl,doc,pm,cc,ct,h1,s _ _ h2,s _ _ h3,h4⟩
noncomputable def aBC:Option (Option A)->Option A
 | some (some (.d x))=>some (.d x)
 | some (some (.x e))=>some (.x e)
 | some (some (.g k n G))=>some (.g k n G)
 | _=>none
noncomputable def tM:List Nat->Sg->Option (List A)
 | [],_=>some []
 | j::js,ρ=>match aBC ρ[j]?,tM js ρ with
  | some a,some as=>some (a::as)
  | _,_=>none
def vW(X:Cx)(T:Hp)(c:Ct)(js:List Nat)(ρ:Sg)(F:Hp)(a:A)(v:V):Prop:=AF c.g c.K c.mg F a v \/
 ∃ S fr sl k n Gm caps,a=.g k n (Gm caps)/\nK c F S v/\aBB X.prog X.w X.K X.mg X.base T S fr k n Gm/\(∀ y,(y,NameKind.free)∈S.scope.names->y∈fr)/\(∀ y∈fr,(y,NameKind.free)∈S.scope.names)/\sl.map (fun j=>X.N[j]?)=fr.map some/\(∀ j∈sl,j∈js)/\tM sl ρ=some caps
theorem vW.same{X:Cx}{T:Hp}{c:Ct}{js:List Nat}{ρ:Sg}{F F':Hp}{a:A}{v:V}(s:aF F F')(h:vW X T c js ρ F a v):vW X T c js ρ F' a v:=by
 rcases h with h|⟨S,fr,sl,k,n,Gm,caps,h1,h2,h3⟩
 · exact .inl (AF.same s h)
 · exact .inr ⟨S, fr, sl, k, n, Gm, caps, h1, h2.same s, h3⟩
end Fl
namespace Fl
open PySem L2 PyProof.Rows
section
variable{P:Program}{w:World}{K:Frag}{mg:Str->Option Value}{base:Heap}{T:Hp}
structure DefAtT(K:Frag)(mg:Str->Option Value)(base:Heap)(T:Hp)(qs:List (Pos×Str))(x:Str)(st:Stmt)(ps:List Str):Prop where
 ex:∃ f oc od kV doc pm an c0 ct osl P0,K.lookup f=some ⟨oc,od,.func (PySem.W.fnOf x x (dY st) (cA st) (aH st) .none kV doc pm an (.ref c0) ct),osl⟩/\PySem.W.codeIn K (.ref c0) x=true/\PySem.W.keepIn K (.ref f)=true /\
  f7 K (PySem.W.fnOf x x (dY st) (cA st) (aH st) .none kV doc pm an (.ref c0) ct) ps []/\mg x=some (.ref f)/\Tb mg base c0 P0/\T P0=some (.tbl qs)
end
end Fl
namespace Fl
open PySem L2 PyProof.Rows
end Fl
namespace Zp
open PySem
section
variable{prog:Program}{w:World}{A:Around}{E:Value->Shared->Prop}{s:Shared}
theorem kE{it t:Addr}{i:Nat}{items}{x:Value}{Q:Value->Shared->Prop}(hit:s.heap.IsTupleIter it t i)
  (ht:s.heap.IsTuple t items) (hx:items[i]? = some x) (hQ:∀ h',h'.IsTupleIter it t (i+1)->Heap.SameBut it s.heap h'->Q x {s with heap:=h'}) :
  wpAny (model prog w) A (Builtin.SmallTypes.nextOf (.ref it)) Q E s:=by
 obtain ⟨o,ho,hc,hd⟩:=id hit
 obtain ⟨ol,hol,_,nl,hdl⟩:=ht
 unfold Builtin.SmallTypes.nextOf
 refine wpAny_bind (wpAny_callSpecial?_slot (name:=Str.ofString "__next__") hit.typeIs F.slot_tuple_iterator_next
  (wpAny_call_entry F.slot_tuple_iterator_next hit.typeIs F.entry_tuple_iterator_next ?_ (F.args_tuple_iterator_next_1 _)))
 show wpAny _ _ (field (.ref it) 0 >>= _) _ _ s
 refine wpAny_bind (wpAny_field ho hd (x:=.ref t) rfl ?_)
 show wpAny _ _ (if (Value.ref t == Value.none)=true then _ else _) _ _ s
 rw[if_neg (show ¬ ((Value.ref t == Value.none)=true) from Bool.false_ne_true)]
 show wpAny _ _ (field (.ref it) 1 >>= _) _ _ s
 refine wpAny_bind (wpAny_field ho hd (x:=.int i 0) rfl ?_)
 show wpAny _ _ (seqItems? (.ref t) >>= _) _ _ s
 refine wpAny_bind (wpAny_seqItems hol hdl ?_)
 simp only[Int.toNat_natCast,hx]
 refine wpAny_bind (wpAny_setField ho hd (by simp) (wpAny_pure ⟨x,rfl,wpAny_pure (hQ _ ?_ (Heap.SameBut.update ..))⟩))
 exact ⟨_,Heap.get?_update_self _ ho (Obj.isFreed_of_fields (Obj.data_mapFields hd _)),(Obj.cls_mapFields ..).trans hc,by
  rw[Obj.data_mapFields hd];simp[rawInt]⟩
theorem kU{it t:Addr}{i:Nat}{items}{Q:Value->Shared->Prop}(hh:A.handled=none)
  (hit:s.heap.IsTupleIter it t i) (ht:s.heap.IsTuple t items) (hx:items[i]? = none)
  (hE:∀ h' e,Heap.ExtBut it s.heap h'->(∃ o,h'.get? e=some o/\o.cls=.type "StopIteration")->E (.ref e) {s with heap:=h'}) :
  wpAny (model prog w) A (Builtin.SmallTypes.nextOf (.ref it)) Q E s:=by
 obtain ⟨o,ho,hc,hd⟩:=id hit
 obtain ⟨ol,hol,_,nl,hdl⟩:=ht
 unfold Builtin.SmallTypes.nextOf
 refine wpAny_bind (wpAny_callSpecial?_slot (name:=Str.ofString "__next__") hit.typeIs F.slot_tuple_iterator_next
  (wpAny_call_entry F.slot_tuple_iterator_next hit.typeIs F.entry_tuple_iterator_next ?_ (F.args_tuple_iterator_next_1 _)))
 show wpAny _ _ (field (.ref it) 0 >>= _) _ _ s
 refine wpAny_bind (wpAny_field ho hd (x:=.ref t) rfl ?_)
 show wpAny _ _ (if (Value.ref t == Value.none)=true then _ else _) _ _ s
 rw[if_neg (show ¬ ((Value.ref t == Value.none)=true) from Bool.false_ne_true)]
 show wpAny _ _ (field (.ref it) 1 >>= _) _ _ s
 refine wpAny_bind (wpAny_field ho hd (x:=.int i 0) rfl ?_)
 show wpAny _ _ (seqItems? (.ref t) >>= _) _ _ s
 refine wpAny_bind (wpAny_seqItems hol hdl ?_)
 simp only[Int.toNat_natCast,hx]
 refine wpAny_bind (wpAny_rule (wpAny_bind (wpAny_setField ho hd (by simp) ?_)))
 show wpAny _ _ (newExc (.type "StopIteration") [] >>= _) _ _ _
 refine wpAny_bind ?_
 simp only[newExc,newTuple]
 refine wpAny_bind (wpAny_newObj_type ?_ (by size_fits))
 refine wpAny_bind (m:=firstArgMember _ _) (wpAny_of_eq (a:=Value.none) (by first|rfl|(simp only[firstArgMember];rfl)) ?_)
 refine wpAny_newObj_type ?_ (by size_fits)
 simp only[raiseNew]
 refine wpAny_bind (wpAny_handled ?_)
 first|rw[show A.in1.handled=none from hh]|rw[hh]
 refine wpAny_bind (wpAny_pure (wpAny_throw ?_))
 exact hE _ _ (((Heap.SameBut.update ..).extBut.push _).push _) ⟨_,Heap.get?_push_size _ rfl,rfl⟩
end
theorem pM{prog:Program}{w:World}{A:Around}(hh:A.handled=none)(it l:Addr)(hne:l≠it)(items:Array Value) :
  Draws prog w A it [it,l] items.size (fun i v=>items[i]? = some v) (fun i h=>h.IsTupleIter it l i/\h.IsTuple l items) where
 live:=fun _ _ st=>let ⟨o,ho,_⟩:=st.1;⟨o,ho⟩
 frame:=fun _ _ _ st hk=>⟨let ⟨o,ho,r⟩:=st.1;⟨o,hk it (by simp) o ho,r⟩,let ⟨o,ho,r⟩:=st.2;⟨o,hk l (by simp) o ho,r⟩⟩
 item:=fun i s Q E hi st hQ=>by
  refine kE st.1 st.2 (x:=items[i]) (by simp[hi]) fun h' hit' hs'=>?_
  exact hQ _ h' s.toks (by simp[hi]) ⟨hit',st.2.extBut hs'.extBut hne⟩ hs'
 done:=fun s Q E st hE=>kU hh st.1 st.2 (by simp) hE
structure Apart(z TI TO i1 i2:Addr)(f1 f2:List Addr):Prop where
 TIz:TI≠z
 TOz:TO≠z
 i1z:i1≠z
 i2z:i2≠z
 TITO:TI≠TO
 TIi1:TI≠i1
 TIi2:TI≠i2
 TOi1:TO≠i1
 TOi2:TO≠i2
 i12:i1≠i2
 z1:z∉f1
 z2:z∉f2
 t1:TO∉f1
 t2:TO∉f2
 i1f2:i1∉f2
 i2f1:i2∉f1
section
variable{prog:Program}{w:World}{A:Around}{E:Value->Shared->Prop}{s:Shared}
abbrev aCR(h:Heap)(z TI TO:Addr)(f0 f1:Value):Prop:=h.get? z=some {cls:=.type "zip",dict:=none,data:=.fields #[f0,f1,.bool false,.ref TI,.ref TO],slots:=#[]}
end
def oU(v:Value)(o:Obj)(h:Heap):Prop:=∀ (prog:Program) (w:World) (A:Around) (E:Value->Shared->Prop) (s:Shared) (Q:Value->Shared->Prop),s.heap=h->Q (.ref h.objs.size) {s with heap:=h.push o}->wpAny (model prog w) A (pyIter v) Q E s
noncomputable abbrev H2(h:Heap)(o1 o2:Obj):Heap:=(h.push o1).push o2
noncomputable abbrev H3(h:Heap)(o1 o2:Obj):Heap:=(H2 h o1 o2).push {cls:=.type "tuple",data:=.seq #[.ref h.objs.size,.ref (h.push o1).objs.size]}
noncomputable abbrev H4(h:Heap)(o1 o2:Obj):Heap:=(H3 h o1 o2).push {cls:=.type "tuple",data:=.seq #[.none,.none]}
noncomputable abbrev H5(h:Heap)(o1 o2:Obj):Heap:=(H4 h o1 o2).push {cls:=.type "zip",data:=.fields #[.none,.bool false,.bool false,.ref (H2 h o1 o2).objs.size,.ref (H3 h o1 o2).objs.size]}
end Zp
namespace L2
open PySem PySem.Spec PyProof.Rows
abbrev Col:=Hp->List V->Prop
structure ColOk(P:Program)(w:World)(K:Frag)(C:Col)(it:Addr)(tn:Nat->Heap->Prop):Prop where
 obj:∀ i h,tn i h->∃ o,h.get? it=some o/\∀ v,o.data≠.cell v
 keep:∀ i h h',tn i h->(∀ o,h.get? it=some o->h'.get? it=some o)->tn i h'
 one:∀ (X:Cx),X.prog=P->X.w=w->X.K=K->∀ pins s σ H xs ys,Inv X pins σ H s->C H xs->C H ys->xs=ys
 draw:∀ (X:Cx),X.prog=P->X.w=w->X.K=K->∀ (i:Nat) (pins:List (Addr×Obj)) (s:Shared) (σ:St) (H:Hp) (xs:List V) (A:Around),Inv X pins σ H s->d6 X pins H it->tn i s.heap->C H xs->A.handled=none->
  ∃ fp Pv St,Draws P w A it fp xs.length Pv St/\St i s.heap/\(∀ j h,St j h->tn j h)/\(∀ j v,Pv j v->∃ x,xs[j]? = some x/\a9 x v)/\∀ b,d6 X pins H b->b≠it->b∉fp
theorem qE{X:Cx}{pins:List (Addr×Obj)}{σ:St}{H:Hp}{s:Shared}{b a:Addr}{o:Obj}(I:Inv X pins σ H s)(hf:d6 X pins H b)(e:X.base.get? a=some o):b≠a:=by
 obtain ⟨_,_,_,h4,_⟩:=hf
 intro z
 rcases h4 with z2|z2
 ·exact I.ok.noex a o e (z▸z2)
 ·have h5:=Heap.lt_size e
  have h6:=I.ok.bsz
  rw[z] at z2
  exact absurd (Nat.lt_of_lt_of_le h5 (Nat.le_trans h6 z2)) (Nat.lt_irrefl _)
theorem tN{X:Cx}{pins:List (Addr×Obj)}{σ:St}{H:Hp}{s:Shared}{b a:Addr}{xs:List V}(I:Inv X pins σ H s)(hf:d6 X pins H b)(h:SqL X.K H a xs):b≠a:=by
 rcases h with (h|⟨o,h⟩)|⟨o,vs,n,h,_⟩
 · intro z; rw [<- z, hf.1] at h; cases h
 · intro z; rw [<- z, hf.1] at h; cases h
 · exact qE I hf (I.ok.mod.kin _ _ h)
theorem tO{X:Cx}{pins:List (Addr×Obj)}{σ:St}{H:Hp}{s:Shared}{b a:Addr}{xs:List V}(I:Inv X pins σ H s)(hf:d6 X pins H b)(h:SqT X.K H a xs):b≠a:=by
 rcases h with (h|⟨o,h⟩)|⟨o,vs,n,h,_⟩
 · intro z; rw [<- z, hf.1] at h; cases h
 · intro z; rw [<- z, hf.1] at h; cases h
 · exact qE I hf (I.ok.mod.kin _ _ h)
theorem vX{P:Program}{w:World}{K:Frag}(a it:Addr):ColOk P w K (fun H xs=>SqL K H a xs) it (fun i h=>h.IsListIter it a i) where
 obj:=fun i h ⟨o,e,c,d⟩=>⟨o,e,fun v z=>by rw[d] at z;cases z⟩
 keep:=fun i h h' st k=>st.at fun o e=>k o e
 one:=by
  intro X hP hw hK pins s σ H xs ys I h1 h2
  subst hK
  exact I.list_inj h1 h2
 draw:=by
  intro X hP hw hK i pins s σ H xs A I hf st hx hh
  subst hP hw hK
  obtain ⟨its,rv,p,hz⟩:=I.list hx
  have hne:=tN I hf hx
  refine ⟨[it,a],(fun i v=>its.toArray[i]? = some v),(fun i h=>h.IsListIter it a i/\h.IsList a its.toArray),by rw[show xs.length=its.toArray.size by rw[rv.length];simp];exact Draws.list hh it a (Ne.symm hne) its.toArray,⟨st,p.isList⟩,fun j h z=>z.1,fun j v e=>?_,fun b hb nb hm=>?_⟩
  ·have e':its[j]? = some v:=by simpa using e
   have hj:j < xs.length:=by rw[rv.length];exact (List.getElem?_eq_some_iff.mp e').1
   obtain ⟨u,hu,ru⟩:=rv.get (List.getElem?_eq_getElem hj)
   rw[e'] at hu;cases hu
   exact ⟨_,List.getElem?_eq_getElem hj,ru⟩
  ·rcases List.mem_cons.mp hm with z|z
   · exact nb z
   · exact tN I hb hx (by simpa using z)
theorem tP{P:Program}{w:World}{K:Frag}(a it:Addr):ColOk P w K (fun H xs=>SqT K H a xs) it (fun i h=>h.IsTupleIter it a i) where
 obj:=fun i h ⟨o,e,c,d⟩=>⟨o,e,fun v z=>by rw[d] at z;cases z⟩
 keep:=fun i h h' ⟨o,e,r⟩ k=>⟨o,k o e,r⟩
 one:=by
  intro X hP hw hK pins s σ H xs ys I h1 h2
  subst hK
  exact I.tuple_inj h1 h2
 draw:=by
  intro X hP hw hK i pins s σ H xs A I hf st hx hh
  subst hP hw hK
  obtain ⟨its,rv,p,hz⟩:=I.tuple hx
  have hne:=tO I hf hx
  refine ⟨[it,a],(fun i v=>its.toArray[i]? = some v),(fun i h=>h.IsTupleIter it a i/\h.IsTuple a its.toArray),by rw[show xs.length=its.toArray.size by rw[rv.length];simp];exact Zp.pM hh it a (Ne.symm hne) its.toArray,⟨st,p⟩,fun j h z=>z.1,fun j v e=>?_,fun b hb nb hm=>?_⟩
  ·have e':its[j]? = some v:=by simpa using e
   have hj:j < xs.length:=by rw[rv.length];exact (List.getElem?_eq_some_iff.mp e').1
   obtain ⟨u,hu,ru⟩:=rv.get (List.getElem?_eq_getElem hj)
   rw[e'] at hu;cases hu
   exact ⟨_,List.getElem?_eq_getElem hj,ru⟩
  ·rcases List.mem_cons.mp hm with z|z
   · exact nb z
   · exact tO I hb hx (by simpa using z)
noncomputable def mI(z:Str):List V:=z.cps.toList.map fun c=>V.str ⟨#[c]⟩
theorem xT{P:Program}{w:World}{K:Frag}(z:Str)(t:Tok)(it:Addr):ColOk P w K (fun _ xs=>xs=mI z) it (fun i h=>h.IsStrIter it (strIterType z) z t i) where
 obj:=fun i h ⟨o,e,c,d⟩=>⟨o,e,fun v z=>by rw[d] at z;cases z⟩
 keep:=fun i h h' ⟨o,e,r⟩ k=>⟨o,k o e,r⟩
 one:=fun _ _ _ _ _ _ _ _ _ _ _ h1 h2=>h1.trans h2.symm
 draw:=by
  intro X hP hw hK i pins s σ H xs A I hf st hx hh
  subst hP hw hK hx
  have hD:Draws X.prog X.w A it [it] z.cps.size (fun i v=>∃ c u,z.cps[i]? = some c/\v=.str ⟨#[c]⟩ u) (fun i h=>h.IsStrIter it (strIterType z) z t i):=by
   unfold strIterType
   split
   · exact Draws.strAscii hh it z t
   · exact Draws.strWide hh it z t
  refine ⟨[it],_,_,by rw[show (mI z).length=z.cps.size by unfold mI;simp];exact hD,st,fun j h z=>z,?_,fun b hb nb hm=>nb (by simpa using hm)⟩
  rintro j v ⟨c,u,hc,rfl⟩
  exact ⟨.str ⟨#[c]⟩,by unfold mI;rw[List.getElem?_map,Array.getElem?_toList,hc];rfl,u,rfl⟩
end L2
namespace L2
open PySem PySem.Spec PyProof.Rows
def vY(K:Frag)(H:Hp)(x:V)(C:Col):Prop:=
 (∃ a xs,x=.ref a/\SqL K H a xs/\C=fun H xs=>SqL K H a xs)\/(∃ a xs,x=.ref a/\SqT K H a xs/\C=fun H xs=>SqT K H a xs)\/∃ z,x=.str z/\C=fun _ xs=>xs=mI z
theorem vZ{X:Cx}{pins:List (Addr×Obj)}{σ:St}{H:Hp}{s:Shared}{x:V}{u:Value}{C:Col}(I:Inv X pins σ H s)(r:a9 x u)(h:vY X.K H x C) :
  ∃ (o:Obj) (tn:Addr->Nat->Heap->Prop),(∀ h':Heap,(∀ b ob,s.heap.get? b=some ob->h'.get? b=some ob)->Zp.oU u o h')/\o.isFreed=false/\(∀ it,ColOk X.prog X.w X.K C it (tn it))/\∀ it h',h'.get? it=some o->tn it 0 h':=by
 rcases h with ⟨a,xs,rfl,hq,rfl⟩|⟨a,xs,rfl,hq,rfl⟩|⟨z,rfl,rfl⟩
 ·cases r
  obtain ⟨its,rv,p,hz⟩:=I.list hq
  refine ⟨{cls:=.type "list_iterator",data:=.fields #[.ref a,.int 0 0]},fun it i h=>h.IsListIter it a i,fun h' kp prog w A E s' Q e q=>?_,rfl,fun it=>vX a it,fun it h' e=>⟨_,e,rfl,rfl⟩⟩
  subst e
  refine wpAny_pyIter_list (l:=a) (items:=its.toArray) ?_ q
  obtain ⟨o,e,r⟩:=p.isList
  exact ⟨o,kp _ _ e,r⟩
 ·cases r
  obtain ⟨its,rv,p,hz⟩:=I.tuple hq
  refine ⟨{cls:=.type "tuple_iterator",data:=.fields #[.ref a,.int 0 0]},fun it i h=>h.IsTupleIter it a i,fun h' kp prog w A E s' Q e q=>?_,rfl,fun it=>tP a it,fun it h' e=>⟨_,e,rfl,rfl⟩⟩
  subst e
  refine wpAny_pyIter_tuple (t:=a) (items:=its.toArray) ?_ q
  obtain ⟨o,e,r⟩:=p
  exact ⟨o,kp _ _ e,r⟩
 ·obtain ⟨t,rfl⟩:=r
  refine ⟨{cls:=.type (strIterType z),data:=.fields #[.str z t,.int 0 0]},fun it i h=>h.IsStrIter it (strIterType z) z t i,fun h' kp prog w A E s' Q e q=>?_,rfl,fun it=>xT z t it,fun it h' e=>⟨_,e,rfl,rfl⟩⟩
  subst e
  exact wpAny_pyIter_strU q
end L2
namespace Fl
open PySem L2 PyProof.Rows
theorem rO{d:PyData}{xs:List PyData}(h:a8 d=.ok xs):xs.length<=16777216:=by
 unfold a8 at h
 split at h
 ·split at h
  · rename_i hz; cases h; exact hz
  · cases h
 ·split at h
  · rename_i hz; cases h; exact hz
  · cases h
 ·split at h
  · rename_i hz; cases h; rw [List.length_map]; exact hz
  · cases h
 ·cases h
theorem tQ{d:PyData}{e:Er}:a8 d≠.ex e:=by
 intro h
 unfold a8 at h
 split at h
 · split at h <;> cases h
 · split at h <;> cases h
 · split at h <;> cases h
 · cases h
theorem oV{K:Frag}{F:Hp}:∀ (cs:List Nat),DatVs K F (cs.map fun c=>V.str ⟨#[c]⟩) (cs.map fun c=>PyData.str ⟨#[c]⟩)
 | []=>.nil
 | c::t=>.cons (.str _) (oV t)
theorem v0{K:Frag}{F B:Hp}{v:V}{d:PyData}{xs:List PyData}(s:aF F B)(r:DatV K F v d)(h:a8 d=.ok xs):∃ C vs,vY K B v C/\(∀ H1,aF F H1->C H1 vs)/\DatVs K F vs xs:=by
 unfold a8 at h
 split at h
 ·split at h
  ·cases h
   obtain ⟨p,vs,rfl,h1,h2⟩:=DatV.lst_of r
   exact ⟨_,vs,.inl ⟨p,vs,rfl,h1.same s,rfl⟩,fun H1 q=>h1.same q,h2⟩
  ·cases h
 ·split at h
  ·cases h
   obtain ⟨p,vs,rfl,h1,h2⟩:=DatV.tup_of r
   exact ⟨_,vs,.inr (.inl ⟨p,vs,rfl,h1.same s,rfl⟩),fun H1 q=>h1.same q,h2⟩
  ·cases h
 ·rename_i z
  split at h
  ·cases h
   obtain rfl:=DatV.str_of r
   exact ⟨_,mI z,.inr (.inr ⟨z,rfl,rfl⟩),fun _ _=>rfl,oV _⟩
  ·cases h
 ·cases h
end Fl
namespace L2
open PySem PySem.Spec PyProof.Rows
end L2
namespace Fl
open PySem L2 PyProof.Rows
section
variable{X:Cx}{c:Ct}{E:XK}{e a b:Expr}{st:Stmt}{pos:Pos}
noncomputable def aBD(i:Nat)(f g:Sg->R PyData):Sg->R Fw:=fun ρ=>match ρ[i]? with
 | some (some (.m kvs))=>(f ρ).bind fun k=>(g ρ).bind fun y=>if cW k (kvs.map (·.1))=true/\kvs.length<=16777216 then .ok (.nx (if d8 kvs k=true then ρ else ρ.set i (some (.m (oN kvs k y))))) else .bad
 | _=>.bad
end
end Fl
namespace Fl
open PySem L2 PyProof.Rows
def aCS(i:Nat):Sg->R Fw:=fun ρ=>match ρ[i]? with
 | some (some (.l xs))=>.ok (.nx (ρ.set i (some (.l xs.reverse))))
 | _=>.bad
end Fl
namespace Zp
open PySem
theorem tR(v:Value)(o:Obj) :
  Meets (Builtin.«enumerate.__new__» ⟨[.type "enumerate",v],[]⟩) (fun _ R s=>oU v o s.heap /\
   R (.ok (.ret (.ref (s.heap.push o).objs.size))) {s with heap:=(s.heap.push o).push {cls:=.type "enumerate",data:=.fields #[.none,.bool false,.ref s.heap.objs.size,rawInt 0,.none,.none]}}):=
 .of_wp fun prog w A R s h=>by
  obtain ⟨hp,g,d,tk,os⟩:=s;obtain ⟨hl,h⟩:=h
  have hsub:=sub_enumerate
  have p1:∀ {A:Around} {E:Value->Shared->Prop} {Q:Value->Shared->Prop},Q (.ref hp.objs.size) ⟨hp.push o,g,d,tk,os⟩->wpAny (model prog w) A (pyIter v) Q E ⟨hp,g,d,tk,os⟩:=fun hq=>hl prog w _ _ ⟨hp,g,d,tk,os⟩ _ rfl hq
  wp_walk
  refine wpAny_stack_any fun st=>wpAny_pure ?_
  split
  ·rename_i c _ _ _ _ _
   cases (c == Value.type "enumerate")<;>(wp_walk using p1;exact ⟨_,rfl,h⟩)
  ·wp_walk using p1
   exact ⟨_,rfl,h⟩
theorem v1{prog:Program}{w:World}{A:Around}{E:Value->Shared->Prop}{s:Shared}{v:Value}{o:Obj}{Q:Value->Shared->Prop}(h1:oU v o s.heap)(f1:o.isFreed=false)
  (h:∀ h',IsEnum h' (s.heap.objs.size+1) s.heap.objs.size 0 .none->h'.get? s.heap.objs.size=some o->h'.objs.size=s.heap.objs.size+2->(∀ b o,s.heap.get? b=some o->h'.get? b=some o)->Q (.ref (s.heap.objs.size+1)) {s with heap:=h'}) :
  wpAny (model prog w) A (call (.type "enumerate") [v]) Q E s:=by
 refine callType_new F.called_enumerate (by decide) (F.typeCall_enumerate_1 _) (F.newCall_enumerate_1 _) (fun obj=>F.args_object_init_2 obj _) F.entry_enumerate_new (tR v o) ⟨h1,?_⟩
 have hz:(s.heap.push o).objs.size=s.heap.objs.size+1:=Heap.size_push ..
 show _/\_
 rw[hz]
 have he:IsEnum ((s.heap.push o).push {cls:=.type "enumerate",data:=.fields #[.none,.bool false,.ref s.heap.objs.size,rawInt 0,.none,.none]}) (s.heap.objs.size+1) s.heap.objs.size 0 .none:=by
  have q:=Heap.get?_push_size (s.heap.push o) (o:={cls:=.type "enumerate",data:=.fields #[.none,.bool false,.ref s.heap.objs.size,rawInt 0,.none,.none]}) rfl
  rw[hz] at q;exact q
 exact ⟨⟨_,he,rfl⟩,h _ he (Heap.get?_push_of_some _ (Heap.get?_push_size _ f1)) (by rw[Heap.size_push,hz]) fun b o y=>Heap.get?_push_of_some _ (Heap.get?_push_of_some _ y)⟩
end Zp
namespace L2
open PySem PySem.Spec PyProof.Rows
def Itn(C:Col):It:=
 ⟨fun i H=>∃ xs,C H xs/\i < xs.length,fun i H x H'=>∃ p v,H p=none/\x=.ref p/\H'=upd H p (.tup [.int i,v])/\∀ xs,C H xs->xs[i]? = some v,fun i H=>∃ xs,C H xs/\i=xs.length⟩
theorem tS{P:Program}{w:World}{K:Frag}{es:List Expr}{k1}{tpos:Pos}{C:Col}{e it:Addr}{tn:Nat->Heap->Prop}(c:ColOk P w K C it tn)(hei:e≠it) :
  Turn P w K (.Tuple es k1 tpos) (Itn C) [e,it] e (fun i h=>(∃ old,IsEnum h e it i old)/\tn i h) where
 mem:=by simp
 obj:=fun i h st b hb=>by
  obtain ⟨⟨old,s1⟩,s2⟩:=st
  rcases List.mem_cons.mp hb with z|z
  ·subst z
   exact ⟨_,s1,fun v z=>by have z':Data.fields _=Data.cell v:=z;cases z'⟩
  ·obtain rfl:b=it:=by simpa using z
   exact c.obj i h s2
 keep:=fun i h h' st k=>by
  obtain ⟨⟨old,s1⟩,s2⟩:=st
  exact ⟨⟨old,k e (by simp) _ s1⟩,c.keep i h h' s2 fun o q=>k it (by simp) o q⟩
 item:=by
  intro X hP hw hK hc i pins s σ H E I hf st hg
  obtain ⟨⟨old,s1⟩,s2⟩:=st
  obtain ⟨xs,hx,hlt⟩:=hg
  have hhd:X.A.in1.handled=none:=I.ok.hd hc
  obtain ⟨fp,Pv,S,D,a1,a2,a3,a4⟩:=c.draw X hP hw hK i pins s σ H xs X.A.in1 I (hf it (by simp)) s2 hx hhd
  have one:=fun zs (h:C H zs)=>c.one X hP hw hK pins s σ H zs xs I h hx
  subst hP hw hK
  obtain ⟨o2,eo2,_⟩:=c.obj _ _ s2
  refine wpAny_pyNext_enum_itemD D s1 a1 hlt hei (a4 e (hf e (by simp)) hei) fun u h' tk pu so si st hz' kp=>?_
  obtain ⟨x,hux,ru⟩:=a3 i u pu
  refine ⟨_,rfl,wpAny_letOwnedTupleGo_enum so fun h2 se sb=>?_⟩
  have ne1:s.heap.objs.size≠e:=Nat.ne_of_gt (Heap.lt_size s1)
  have hT2:h2.get? s.heap.objs.size=some {cls:=.type "tuple",data:=.seq #[.int i tk,u]}:=(sb.2 _ ne1).trans st
  have fT:H s.heap.objs.size=none:=I.hok.fresh (Nat.le_refl _)
  have kp2:∀ b o,b∉[e,it]->s.heap.get? b=some o->h2.get? b=some o:=fun b o hb q=>by
   simp only[List.mem_cons,List.not_mem_nil,or_false,not_or] at hb
   exact (sb.2 b hb.1).trans (kp b o hb.1 hb.2 q)
  have nfp:∀ b uu,H b=some uu->b∉[e,it]:=fun b uu q z2=>by rw[(hf b z2).1] at q;cases q
  have hok2:HOk X.prog X.w H h2:=fun b uu q=>by
   refine (I.hok b uu q).stay (fun c' v' hc' q'=>kp2 c' v' ?_ q') (fun _ q=>q) (fun _ _ q=>q) fun _ _ q=>q
   rcases hc' with z2|z2
   ·rw[z2];exact nfp b uu q
   ·exact nfp c' _ z2
  have hokT:HOk X.prog X.w (upd H s.heap.objs.size (.tup [.int i,x])) h2:=HOk.track hok2 fT ⟨by show 2<=sizeLine;decide,[.int i tk,u],.cons ⟨_,rfl⟩ (.cons ru .nil),⟨_,hT2,rfl,_,rfl⟩⟩
  have ltT:∀ b uu,H b=some uu->b≠s.heap.objs.size:=fun b uu q=>bV q fT
  have I2:Inv X pins σ (upd H s.heap.objs.size (.tup [.int i,x])) {s with heap:=h2,gens:=s.gens,drawn:=s.drawn,toks:=tk+1}:=by
   refine I.step (ch:=[e,it]) (fun b hb=>?_) (fun b o _ _ hc' q _=>kp2 b o hc' q) (fun b o _ _ hc' q _=>⟨o.slots,kp2 b o hc' q⟩)
    (fun b o _ q n=>by rw[aU (Nat.ne_of_lt (Heap.lt_size q))];exact n) (fun b o hc' q=>⟨o,kp2 b o hc' q⟩) (fun b ys q=>by rw[aU (ltT b _ q)];exact q) (fun b o uu q=>by rw[aU (ltT b _ q)];exact q)
    (fun b ps q=>by rw[aU (ltT b _ q)];exact q) (fun m hm=>?_) hokT I.bare
   ·obtain ⟨e0,e1,e2,e3,e4,e5⟩:=hf b hb
    exact ⟨e3,e1,e4,e5⟩
   ·obtain ⟨o,es',ep,ho,r⟩:=hm
    exact ⟨o,es',ep,kp2 _ o (fun z2=>(hf _ z2).2.1 rfl) ho,r⟩
  refine ⟨.ref s.heap.objs.size,_,I2,rfl,⟨_,x,fT,rfl,rfl,fun zs hzs=>by rw[one zs hzs];exact hux⟩,⟨⟨_,by simpa using se⟩,c.keep _ _ _ (a2 _ _ si) fun o q=>(sb.2 it hei.symm).trans q⟩,fun b hb=>?_⟩
  rw[aU]
  ·exact (hf b hb).1
  ·intro z2
   have hlt:b < s.heap.objs.size:=by
    simp only[List.mem_cons,List.not_mem_nil,or_false] at hb
    rcases hb with rfl|rfl
    · exact Heap.lt_size s1
    · exact Heap.lt_size eo2
   rw[z2] at hlt
   exact absurd hlt (Nat.lt_irrefl _)
 done:=by
  intro X hP hw hK hc i pins s σ H E I hf st hg
  obtain ⟨⟨old,s1⟩,s2⟩:=st
  obtain ⟨xs,hx,rfl⟩:=hg
  have hhd:X.A.in1.handled=none:=I.ok.hd hc
  obtain ⟨fp,Pv,S,D,a1,a2,a3,a4⟩:=c.draw X hP hw hK _ pins s σ H xs X.A.in1 I (hf it (by simp)) s2 hx hhd
  subst hP hw hK
  obtain ⟨g0,g1,g2,g3,g4,g5⟩:=hf it (by simp)
  exact wpAny_pyNext_enum_endD D s1 a1 fun h' eb=>⟨rfl,I.turned (t':=s.toks) (fun b o hb q=>eb b o hb q) g0 g1 g3 g4 g5⟩
 self:=fun _ _ _ _ _ st h=>wpAny_pyIter_enum st.1.choose_spec h
def wR(K:Frag)(ta:TA):TI:=fun σ H R=>ta σ H fun vs H1=>∃ x C,vs=[x]/\vY K H1 x C/\R (Itn C) H1
theorem qF{X:Cx}{es:List Expr}{k1}{tpos:Pos}{a:Expr}{ta:TA}{p pos:Pos}(hg:Gl X "enumerate")(hm:X.mg "enumerate"=none)(ha:PA X [a] ta)(hs:starEach [a] X.env=[(false,eval a X.env)]:=by rfl) :
  PI X (.Tuple es k1 tpos) (.Call (.Name "enumerate" p) [a] [] pos) (wR X.K ta):=by
 intro pins s σ H R I h
 refine Call_ (jB I hg hm PyProof.Rows.boot_enumerate (PyProof.Rows.callWith_type1 (thn (ha pos pins s σ H _ I h) fun us s1 zz0=>?_) hs rfl))
 obtain ⟨vs,H1,I1,r1,q1⟩:=zz0
 obtain ⟨x,C,rfl,c1,q⟩:=q1
 obtain ⟨u,rfl,ru⟩:=f6 r1
 obtain ⟨o1,t1,a1,a2,a3,a4⟩:=vZ I1 ru c1
 refine Zp.v1 (a1 _ fun _ _ e=>e) a2 fun h' se si hz' kp=>?_
 have I2:Inv X pins σ H1 {s1 with heap:=h'}:=I1.kept (t':=s1.toks) kp
 refine wpAny_pyIter_enum se ?_
 refine ⟨s1.heap.objs.size+1,[s1.heap.objs.size+1,s1.heap.objs.size],_,_,H1,rfl,I2,tS (a3 _) (Nat.ne_of_gt (Nat.lt_succ_self _)),⟨⟨_,se⟩,a4 _ _ si⟩,fun b hb=>?_,q⟩
 rcases List.mem_cons.mp hb with z|z
 ·subst z
  exact I1.fpOk (Nat.le_succ _) (I1.hok.fresh (Nat.le_succ _))
 ·obtain rfl:b=s1.heap.objs.size:=by simpa using z
  exact I1.fpOk (Nat.le_refl _) (I1.hok.fresh (Nat.le_refl _))
end L2
namespace Fl
open PySem L2 PyProof.Rows
def v2(p:PyData×Nat):PyData:=.tuple [.int (p.2:Int),p.1]
def gZ(x:PyData):R (List PyData):=(a8 x).bind fun xs=>.ok (xs.zipIdx.map v2)
theorem xU{K:Frag}{F B:Hp}{C:Col}{us:List V}{xs:List PyData}(hz:xs.length<=16777216)(h1:∀ H1,aF F H1->aF B H1->C H1 us)(d1:DatVs K F us xs):Yld K (Itn C) F B (xs.zipIdx.map v2) where
 len:=by rw[cG,List.length_map,List.length_zipIdx];exact hz
 go:=fun i F1 H1 a1 a2 a3 hi=>by
  rw[List.length_map,List.length_zipIdx] at hi
  have hs:aF F H1:=fun x o z=>a2 x o (a1 x o z)
  exact ⟨us,h1 H1 hs a3,by rw[d1.length];exact hi⟩
 yld:=fun i F1 H1 v H2 x a1 a2 a3 y e=>by
  obtain ⟨p,u,hp,rfl,rfl,y1⟩:=y
  have hs:aF F H1:=fun x o z=>a2 x o (a1 x o z)
  obtain ⟨dx,e1,r1⟩:=d1.get (y1 us (h1 H1 hs a3))
  rw[List.getElem?_map,List.getElem?_zipIdx,e1] at e
  simp only[Option.map_some,Nat.zero_add] at e
  cases e
  have sm:=aF.upd (o:=.tup [.int i,u]) (bQ a2 hp)
  exact ⟨_,Ext.new a2 hp,.tup (SqT.of bJ) (.cons (.int _) (.cons ((r1.same a1).same sm) .nil))⟩
 stop:=fun F1 H1 a1 a2 a3=>by
  have hs:aF F H1:=fun x o z=>a2 x o (a1 x o z)
  refine ⟨us,h1 H1 hs a3,?_⟩
  rw[List.length_map,List.length_zipIdx,d1.length]
section
variable{X:Cx}{c:Ct}{E:XK}{tg e:Expr}
theorem qG{f:Sg->R PyData}(hK:X.K=c.K)(h:PI X tg e (wR X.K (cV (tV (bH c) c E f) fC))):PI0 X c E tg e (e1 gZ f):=PI.imp h fun σ H Q zz0=>by
 obtain ⟨ρ,F,ab,k⟩:=zz0
 refine ⟨ρ,F,ab,(Rk.bind k).imp fun x _ q v F' H' s r=>?_⟩
 unfold gZ at q
 cases e1:a8 x with
 | bad=>rw[e1] at q;exact q.elim
 | ex e=>exact absurd e1 tQ
 | ok xs=>
  rw[e1] at q
  obtain ⟨C1,us,a1,a2,a3⟩:=v0 s.fh r e1
  rw[hK]
  exact ⟨v,C1,rfl,a1,Rk.ok q _ F' H' s (xU (rO e1) (fun H1 z _=>a2 H1 z) a3)⟩
end
end Fl
namespace Fl
open PySem L2 PyProof.Rows
end Fl
namespace Fl
open PySem L2 PyProof.Rows
end Fl
namespace Zp
open PySem
def Raw(h:Heap)(d:Addr)(ar:Array DictEntry)(ep:Nat):Prop:=∃ o,h.get? d=some o/\o.ExactDict/\o.data=.dict ar ep
end Zp
namespace Fl
open PySem L2 PyProof.Rows
section
variable{X:Cx}{c:Ct}{E:XK}{tg e:Expr}
end
end Fl
namespace Zp
open PySem
end Zp
namespace Zp
open PySem
structure Jz(P1 P2:Nat->Value->Prop)(S1 S2:Nat->Heap->Prop)(s0:Heap)(z TI TO i1 i2 S:Addr)(n:Nat)(acc:Array Value)(h:Heap):Prop where
 size:acc.size<=n
 inc:∀ (j k p q:Nat),j < k->acc[j]? = some (.ref p)->acc[k]? = some (.ref q)->p < q
 top:∀ (j p:Nat),acc[j]? = some (.ref p)->p < h.objs.size
 told:∀ (j:Nat) v,acc[j]? = some v->∃ p x y,v=.ref p/\S < p/\IsPair h p x y/\P1 j x/\P2 j y
 s1:S1 acc.size h
 s2:S2 acc.size h
 ti:IsPair h TI (.ref i1) (.ref i2)
 keep:∀ c o,c≠z->c≠TO->c≠i1->c≠i2->c≠S->s0.get? c=some o->h.get? c=some o
 big:S < h.objs.size
 st:(acc.size=0/\IsZip h z TI TO .none/\∃ a b,IsPair h TO a b)\/(0 < acc.size/\∃ (T:Addr) (bb:Bool) (o:Obj),aCR h z TI TO (rawInt T) (.bool bb)/\h.get? T=some o/\S < T)
end Zp
namespace L2
open PySem PySem.Spec PyProof.Rows
structure LZ(H1 H2:Hp)(xs ys:List V)(l:Addr)(ps:List Addr):Prop where
 same:∀ b o,H1 b=some o->H2 b=some o
 new:H1 l=none
 lst:H2 l=some (.lst (ps.map .ref))
 len:ps.length=min xs.length ys.length
 tup:∀ (j:Nat) p,ps[j]? = some p->H1 p=none/\∃ u v,xs[j]? = some u/\ys[j]? = some v/\H2 p=some (.tup [u,v])
end L2
namespace HT
open PySem PySem.Spec PyProof.Rows L2
end HT
namespace Fl
open PySem L2 PyProof.Rows
end Fl
namespace L2
open PySem PySem.Spec PyProof.Rows
end L2
namespace Mc
open PySem L2 PyProof.Rows Fl
noncomputable def iY:Sg->R Fw:=(bD (vD (jM (e1 (eP "int") (rV 0)) (vO (e1 (eP "bool") (rV 0))))))
noncomputable def dE:List A->R A:=fnF 1 iY
noncomputable def jS:Sg->R Fw:=(bD (vD (jM (eA (aS 1 dE (aB (vV 0) aJ))) (eCh dLe dLt (eC (.int 0)) (rV 0) (rV 1)))))
noncomputable def dU:List A->R A:=fnF 2 jS
noncomputable def g8:Sg->R Fw:=(bD (vD (eOr (e2 dIn (rV 0) (eC (.tuple [.str "by",.str "out"]))) (eA (aS 2 dU (aB (vV 0) (aB (vV 1) aJ)))))))
noncomputable def dW:List A->R A:=fnF 2 g8
noncomputable def jT:Sg->R Fw:=(bD (vD (jM (eA (aS 2 dU (aB (vD (e2 dIx (rV 0) (eC (.int 0)))) (aB (vV 1) aJ)))) (jM (eA (aS 1 dE (aB (vD (e2 dIx (rV 0) (eC (.int 1)))) aJ))) (e2 dIn (e2 dIx (rV 0) (eC (.int 1))) (eC (.tuple [.int 1,.int (-1)])))))))
noncomputable def fA:List A->R A:=fnF 2 jT
noncomputable def hZ:Sg->R Fw:=(bD (vD (jM (eCh dLe dLe (eC (.int 1)) (e1 dLen (rV 0)) (e1 dLen (eC (.str "abc")))) (e2 dEq (e1 dLen (rV 0)) (rV 1)))))
noncomputable def eD:List A->R A:=fnF 2 hZ
noncomputable def iZ:Sg->R Fw:=(aL (sIf (dN (e1 asB (eA (aS 2 eD (aB (vD (e2 dIx (rV 0) (eC (.int 1)))) (aB (vV 2) aJ)))))) (bD (vD (eC (.str "cells")))) sNx)
 (aL (sIf (dN (e1 asB (eA (aS 2 dW (aB (vD (e2 dIx (rV 0) (eC (.int 0)))) (aB (vV 1) aJ)))))) (bD (vD (eC (.str "left")))) sNx)
 (aL (sIf (dN (e1 asB (e1 dAll (eL (dD [none,some 1] (e1 a8 (e2 dIx (rV 0) (eC (.int 1)))) (stN 0) fM (eA (aS 2 fA (aB (vV 0) (aB (vV 1) aJ))))))))) (bD (vD (eC (.str "cell")))) sNx)
 (aL (sIf (dN (e1 asB (eA (aS 2 dW (aB (vD (e2 dIx (rV 0) (eC (.int 2)))) (aB (vV 1) aJ)))))) (bD (vD (eC (.str "right")))) sNx)
 (bD (vD (eC .none)))))))
noncomputable def dZ:List A->R A:=fnF 3 iZ
noncomputable def kW:Sg->R Fw:=(bD (vD (gN (aB (e2 dIx (rV 0) (eC (.int 0))) (aB (e1 dTup (eL (dD [none] (e1 a8 (e2 dIx (rV 0) (eC (.int 1)))) (stN 0) fM (gN (aB (e2 dIx (rV 0) (eC (.int 0))) (aB (e2 dIx (rV 0) (eC (.int 1))) aJ)))))) (aB (e2 dIx (rV 0) (eC (.int 2))) aJ))))))
noncomputable def eR:List A->R A:=fnF 1 kW
noncomputable def kH:Sg->R Fw:=(aL (sIf (e1 asB (e2 dEq (rV 0) (eC (.str "0")))) (bD (vD (eC (.bool true)))) sNx)
 (aL (sIf (bOr (dN (e1 asB (eCh dLe dLe (eC (.int 1)) (e1 dLen (rV 0)) (rV 1)))) (e1 asB (e2 dEq (e2 dIx (rV 0) (eC (.int 0))) (eC (.str "0"))))) (bD (vD (eC (.bool false)))) sNx)
 (bD (vD (e1 dAll (eL (dD [none] (e1 a8 (rV 0)) (stN 0) fM (e2 dIn (rV 0) (eC (.str "0123456789"))))))))))
noncomputable def dL:List A->R A:=fnF 2 kH
noncomputable def d0:Sg->R Fw:=(bD (vD (eOr (e2 dIn (rV 0) (eC (.tuple [.str "by",.str "out"]))) (eA (aS 2 dL (aB (vV 0) (aB (vD (eC (.int 2))) aJ)))))))
noncomputable def bY:List A->R A:=fnF 1 d0
end Mc
namespace Mc
open PySem L2 PyProof.Rows
end Mc
namespace Fl
open PySem L2 PyProof.Rows
@[simp] theorem aEX(d:PyData)(ρ:Sg):eC d ρ=.ok d:=id rfl
@[simp] theorem aEY{α β:Type}(g:α->R β)(f:Sg->R α)(ρ:Sg):e1 g f ρ=(f ρ).bind g:=id rfl
@[simp] theorem aEZ{α β γ:Type}(g:α->β->R γ)(f:Sg->R α)(f':Sg->R β)(ρ:Sg):e2 g f f' ρ=(f ρ).bind fun x=>(f' ρ).bind fun y=>g x y:=id rfl
@[simp] theorem aE0(i:Nat)(ρ:Sg):eV i ρ=match ρ[i]? with|some (some (.d x))=>.ok x|_=>.bad:=id rfl
@[simp] theorem aE1(i:Nat)(ρ:Sg):rV i ρ=match ρ[i]? with|some (some (.d x))=>.ok x|some (some (.l xs))=>.ok (.list xs)|_=>.bad:=id rfl
@[simp] theorem aE2(i:Nat)(ρ:Sg):vV i ρ=match ρ[i]? with|some (some (.d x))=>.ok (.d x)|some (some (.x e))=>.ok (.x e)|some (some (.g k n f))=>.ok (.g k n f)|some (some (.f kvs))=>.ok (.f kvs)|_=>.bad:=id rfl
@[simp] theorem aE3(f:Sg->R PyData)(ρ:Sg):vD f ρ=(f ρ).bind fun x=>.ok (.d x):=id rfl
@[simp] theorem aDZ(x:PyData):getD (.d x)=.ok x:=id rfl
@[simp] theorem aE4(f:Sg->R A)(ρ:Sg):eA f ρ=(f ρ).bind getD:=id rfl
@[simp] theorem aE5(f:Sg->R (List PyData))(ρ:Sg):eL f ρ=(f ρ).bind fun xs=>.ok (.list xs):=id rfl
@[simp] theorem aC9{α:Type}(ρ:Sg):(aJ (α:=α)) ρ=.ok []:=id rfl
@[simp] theorem aCT{α:Type}(f:Sg->R α)(g:Sg->R (List α))(ρ:Sg):aB f g ρ=(f ρ).bind fun x=>(g ρ).bind fun xs=>.ok (x::xs):=id rfl
@[simp] theorem aDA(f:Sg->R (List PyData))(ρ:Sg):gN f ρ=(f ρ).bind fun xs=>if xs.length<=16777216 then .ok (.tuple xs) else .bad:=id rfl
@[simp] theorem aDB(f:Sg->R (List PyData))(ρ:Sg):dC f ρ=(f ρ).bind fun xs=>if xs.length<=16777216 then .ok xs else .bad:=id rfl
@[simp] theorem aCU(n:Nat)(G:List A->R A)(f:Sg->R (List A))(ρ:Sg):aS n G f ρ=(f ρ).bind fun as=>if as.length=n then G as else .bad:=id rfl
@[simp] theorem aD0(n:Nat)(fb:Sg->R Fw)(as:List A):fnF n fb as=(fb (as.map some++List.replicate (n - as.length) none)).bind fun w=>match w with | .rt (.l _)=>.bad | .rt a=>.ok a | .nx _=>.ok (.d .none)|_=>.bad:=id rfl
@[simp] theorem aD1(ρ:Sg):sNx ρ=.ok (.nx ρ):=id rfl
@[simp] theorem aDC(f g:Sg->R Fw)(ρ:Sg):aL f g ρ=(f ρ).bind fun w=>match w with | .nx ρ'=>g ρ'|w=>.ok w:=id rfl
@[simp] theorem aDD(f:Sg->R A)(ρ:Sg):bD f ρ=(f ρ).bind fun a=>.ok (.rt a):=id rfl
@[simp] theorem aCV(ρ:Sg):aA3 ρ=.ok (.rt (.d .none)):=id rfl
@[simp] theorem aD2(t:Sg->R Bool)(f g:Sg->R Fw)(ρ:Sg):sIf t f g ρ=(t ρ).bind fun b=>if b=true then f ρ else g ρ:=id rfl
@[simp] theorem aD3{α:Type}(t:Sg->R Bool)(f g:Sg->R α)(ρ:Sg):eIf t f g ρ=(t ρ).bind fun b=>if b=true then f ρ else g ρ:=id rfl
@[simp] theorem aDE(i:Nat)(f:Sg->R A)(ρ:Sg):bB i f ρ=(f ρ).bind fun a=>.ok (.nx (ρ.set i (some a))):=id rfl
@[simp] theorem aCW(i:Nat)(f:Sg->R (List PyData))(ρ:Sg):cO i f ρ=(f ρ).bind fun xs=>.ok (.nx (ρ.set i (some (.l xs)))):=id rfl
@[simp] theorem aCX(f:Sg->R A)(ρ:Sg):wQ f ρ=(f ρ).bind fun _=>.ok (.nx ρ):=id rfl
@[simp] theorem aD4(i:Nat)(f:Sg->R Fw)(ρ:Sg):sFz i f ρ=f (fz i ρ):=id rfl
@[simp] theorem aE6(i:Nat)(ρ:Sg):fz i ρ=match ρ[i]? with|some (some (.l xs))=>ρ.set i (some (.d (.list xs)))|_=>ρ:=id rfl
@[simp] theorem aDF(i:Nat)(f:Sg->R PyData)(ρ:Sg):fK i f ρ=match ρ[i]? with|some (some (.l xs))=>(f ρ).bind fun x=>if xs.length < 16777216 then .ok (.nx (ρ.set i (some (.l (xs++[x]))))) else .bad|_=>.bad:=id rfl
@[simp] theorem aDG(fs:PyData->Sg->Option Sg)(f:Sg->R PyData)(ρ:Sg):aCM fs f ρ=(f ρ).bind fun x=>(oJ (fs x ρ)).bind fun ρ'=>.ok (.nx ρ'):=id rfl
@[simp] theorem aDH(fi:Sg->R (List PyData))(fs:PyData->Sg->Option Sg)(fb:Sg->R Fw)(ρ:Sg):d7 fi fs fb ρ=(fi ρ).bind fun xs=>iU fs fb xs ρ:=id rfl
@[simp] theorem aCY(js:List (Option Nat))(fi:Sg->R (List PyData))(fs:PyData->Sg->Option Sg)(ft:Sg->R Bool)(fe:Sg->R PyData)(ρ:Sg):dD js fi fs ft fe ρ=(fi ρ).bind fun xs=>compL fs ft fe (eO js ρ) xs:=id rfl
@[simp] theorem aBV(cn:Str)(fs:List Str)(f:Sg->R (List PyData))(ρ:Sg):zH cn fs f ρ=(f ρ).bind fun xs=>if xs.length=fs.length then .ex ⟨cn,fs.zip xs⟩ else .bad:=id rfl
@[simp] theorem aD5(i:Nat)(x:PyData)(ρ:Sg):stN i x ρ=some (ρ.set i (some (.d x))):=id rfl
@[simp] theorem aD6(fs:List (PyData->Sg->Option Sg))(xs:List PyData)(ρ:Sg):stT fs (.tuple xs) ρ=stL fs xs ρ:=id rfl
@[simp] theorem aDI(ρ:Sg):stL [] [] ρ=some ρ:=id rfl
@[simp] theorem aCZ(f:PyData->Sg->Option Sg)(fs:List (PyData->Sg->Option Sg))(x:PyData)(xs:List PyData)(ρ:Sg):stL (f::fs) (x::xs) ρ=(f x ρ).bind (stL fs xs):=id rfl
@[simp] theorem xV(ρ:Sg):fM ρ=.ok true:=id rfl
@[simp] theorem aD7(b:Bool):asB (.bool b)=.ok b:=id rfl
@[simp] theorem aDJ(f:Sg->R Bool)(ρ:Sg):dN f ρ=(f ρ).bind fun b=>.ok (!b):=id rfl
@[simp] theorem aDK(f g:Sg->R Bool)(ρ:Sg):aCI f g ρ=(f ρ).bind fun b=>if b=true then g ρ else .ok false:=id rfl
@[simp] theorem aD8(f g:Sg->R Bool)(ρ:Sg):bOr f g ρ=(f ρ).bind fun b=>if b=true then .ok true else g ρ:=id rfl
@[simp] theorem aDL(f:Sg->R PyData)(ρ:Sg):vO f ρ=(f ρ).bind fun x=>(asB x).bind fun b=>.ok (.bool (!b)):=id rfl
@[simp] theorem aDM(f g:Sg->R PyData)(ρ:Sg):jM f g ρ=(f ρ).bind fun x=>(asB x).bind fun b=>if b=true then g ρ else .ok (.bool false):=id rfl
@[simp] theorem aD9(f g:Sg->R PyData)(ρ:Sg):eOr f g ρ=(f ρ).bind fun x=>(asB x).bind fun b=>if b=true then .ok (.bool true) else g ρ:=id rfl
@[simp] theorem aEA(g g':PyData->PyData->R PyData)(fa fb fc:Sg->R PyData)(ρ:Sg):eCh g g' fa fb fc ρ=(fa ρ).bind fun x=>(fb ρ).bind fun y=>(g x y).bind fun z=>(asB z).bind fun k=>if k=true then (fc ρ).bind fun w=>g' y w else .ok (.bool false):=id rfl
@[simp] theorem aEB{α:Type}(g:PyData->Option Int->Option Int->R α)(f:Sg->R PyData)(lo hi:Sg->R (Option Int))(ρ:Sg):eSl g f lo hi ρ=(f ρ).bind fun x=>(lo ρ).bind fun l=>(hi ρ).bind fun h=>g x l h:=id rfl
@[simp] theorem aEC(ρ:Sg):oNo ρ=.ok none:=id rfl
@[simp] theorem aED(f:Sg->R PyData)(ρ:Sg):oSo f ρ=(f ρ).bind fun x=>match x with | .int i=>.ok (some i)|_=>.bad:=id rfl
@[simp] theorem aBE(f:Sg->R PyData)(ρ:Sg):dJ f ρ=(f ρ).bind fun x=>match x with | .int j=>eB 0 j|_=>.bad:=id rfl
@[simp] theorem aBF(f g:Sg->R PyData)(ρ:Sg):xM f g ρ=(f ρ).bind fun x=>(g ρ).bind fun y=>match x,y with | .int i,.int j=>eB i j|_,_=>.bad:=id rfl
@[simp] theorem aDN(f:Sg->R PyData)(g:Sg->R (Option Int))(ρ:Sg):aCN f g ρ=(f ρ).bind fun x=>(g ρ).bind fun o=>if o=some (-1) then zJ x else .bad:=id rfl
@[simp] theorem aDO(i:Nat)(g:PyData->PyData->R PyData)(f:Sg->R PyData)(ρ:Sg):aCJ i g f ρ=(eV i ρ).bind fun x=>(f ρ).bind fun y=>(g x y).bind fun z=>.ok (.nx (ρ.set i (some (.d z)))):=id rfl
@[simp] theorem aC0(i:Nat)(ρ:Sg):aA5 i ρ=.ok (.nx (ρ.set i (some (.m [])))):=id rfl
@[simp] theorem aDP(neg:Bool)(i:Nat)(f:Sg->R PyData)(ρ:Sg):aCL neg i f ρ=(f ρ).bind fun k=>match ρ[i]? with|some (some (.m kvs))=>if cW k (kvs.map (·.1))=true then .ok (.bool (if neg=true then !d8 kvs k else d8 kvs k)) else .bad|some (some (.f kvs))=>if cW k (kvs.map (·.1))=true then .ok (.bool (if neg=true then !d8 kvs k else d8 kvs k)) else .bad|_=>.bad:=id rfl
@[simp] theorem aC1(i:Nat)(f:Sg->R PyData)(ρ:Sg):aA6 i f ρ=match ρ[i]? with|some (some (.m kvs))=>(f ρ).bind fun k=>if cW k (kvs.map (·.1))=true then (match dS kvs k with|some v=>.ok v|none=>.bad) else .bad|some (some (.f kvs))=>(f ρ).bind fun k=>if cW k (kvs.map (·.1))=true then (match dS kvs k with|some v=>.ok v|none=>.bad) else .bad|_=>.bad:=id rfl
@[simp] theorem aC2(i:Nat)(f g:Sg->R PyData)(ρ:Sg):aA7 i f g ρ=(g ρ).bind fun v=>match ρ[i]? with|some (some (.m kvs))=>(f ρ).bind fun k=>if cW k (kvs.map (·.1))=true/\kvs.length<=16777216 then .ok (.nx (ρ.set i (some (.m (oN kvs k v))))) else .bad|_=>.bad:=id rfl
@[simp] theorem aEE(i j:Int):bN (.int i) (.int j)=.ok (.int (i+j)):=id rfl
@[simp] theorem aEF(i j:Int):dSub (.int i) (.int j)=.ok (.int (i - j)):=id rfl
@[simp] theorem aDQ(i j:Int):aA2 (.int i) (.int j)=.ok (.int (i+j)):=id rfl
@[simp] theorem aEG(i:Int):dNeg (.int i)=.ok (.int (-i)):=id rfl
@[simp] theorem aE7(i j:Int):dLt (.int i) (.int j)=.ok (.bool (decide (i < j))):=id rfl
@[simp] theorem aE8(i j:Int):dLe (.int i) (.int j)=.ok (.bool (decide (i<=j))):=id rfl
@[simp] theorem aE9(i j:Int):dGt (.int i) (.int j)=.ok (.bool (decide (j < i))):=id rfl
@[simp] theorem aFA(i j:Int):dGe (.int i) (.int j)=.ok (.bool (decide (j<=i))):=id rfl
theorem c7{i j:Int}(h:0 < j):dMod (.int i) (.int j)=.ok (.int (i % j)):=if_pos h
theorem gQ{i j:Int}(h:0 < j)(h2:j < 18446744073709551616):dDiv (.int i) (.int j)=.ok (.int (i / j)):=if_pos ⟨h,h2⟩
theorem oW{i j:Int}(h : -18446744073709551616 < j)(h2:j < 18446744073709551616):dMul (.int i) (.int j)=.ok (.int (i * j)):=if_pos (.inr ⟨h,h2⟩)
theorem jU{i j:Int}(h : -18446744073709551616 < i)(h2:i < 18446744073709551616):dMul (.int i) (.int j)=.ok (.int (i * j)):=if_pos (.inl ⟨h,h2⟩)
@[simp] theorem zO(xs:List PyData):dLen (.list xs)=.ok (.int xs.length):=id rfl
@[simp] theorem aEH(xs:List PyData):dLen (.tuple xs)=.ok (.int xs.length):=id rfl
@[simp] theorem aEI(xs:List PyData):dTup (.list xs)=.ok (.tuple xs):=id rfl
@[simp] theorem aEJ(xs:List PyData):dTup (.tuple xs)=.ok (.tuple xs):=id rfl
@[simp] theorem aEK(xs:List PyData):zG (.list xs)=.ok xs:=id rfl
@[simp] theorem aEL(xs:List PyData):zG (.tuple xs)=.ok xs:=id rfl
@[simp] theorem aEM(i:Int):dInt (.int i)=.ok (.int i):=id rfl
@[simp] theorem aEN(b:Bool):dInt (.bool b)=.ok (.int (if b=true then 1 else 0)):=id rfl
@[simp] theorem aFB(x:PyData):dIs x .none=.ok (.bool (eG x)):=id rfl
@[simp] theorem aDR(x:PyData):dIsnt x .none=.ok (.bool (!eG x)):=id rfl
@[simp] theorem aDS:eG .none=true:=id rfl
@[simp] theorem aDT(xs:List PyData):eG (.tuple xs)=false:=id rfl
@[simp] theorem aDU(i:Int):eG (.int i)=false:=id rfl
@[simp] theorem aDV(i:Str):eG (.str i)=false:=id rfl
theorem xW{α:Type}{xs:List α}{i:Int}{v:α}(h0:0<=i)(h:xs[i.toNat]? = some v):atI xs i=some v:=by
 obtain ⟨j,rfl⟩:∃ j:Nat,i=j:=⟨i.toNat,by omega⟩
 exact j5 (j:=j) h
theorem oX{α:Type}(x:α)(t:List α):atI (x::t) 0=some x:=j5 (j:=0) rfl
theorem qH{α:Type}(x y:α)(t:List α):atI (x::y::t) 1=some y:=j5 (j:=1) rfl
theorem xX{α:Type}(x y z:α)(t:List α):atI (x::y::z::t) 2=some z:=j5 (j:=2) rfl
theorem rP{xs:List PyData}{i:Int}{v:PyData}(h:atI xs i=some v):dIx (.tuple xs) (.int i)=.ok v:=by show (match atI xs i with|some v=>R.ok v|none=>.bad)=_;rw[h]
theorem nL{xs:List PyData}{i:Int}{v:PyData}(h:atI xs i=some v):dIx (.list xs) (.int i)=.ok v:=by show (match atI xs i with|some v=>R.ok v|none=>.bad)=_;rw[h]
@[simp] theorem aEO(x:PyData)(t:List PyData):dIx (.tuple (x::t)) (.int 0)=.ok x:=rP (oX x t)
@[simp] theorem aEP(x y:PyData)(t:List PyData):dIx (.tuple (x::y::t)) (.int 1)=.ok y:=rP (qH x y t)
@[simp] theorem aEQ(x y z:PyData)(t:List PyData):dIx (.tuple (x::y::z::t)) (.int 2)=.ok z:=rP (xX x y z t)
@[simp] theorem oY(x:PyData)(t:List PyData):dIx (.list (x::t)) (.int 0)=.ok x:=nL (oX x t)
@[simp] theorem zP(x y:PyData)(t:List PyData):dIx (.list (x::y::t)) (.int 1)=.ok y:=nL (qH x y t)
theorem fW{xs:List PyData}(h:xs.length<=16777216):a8 (.tuple xs)=.ok xs:=if_pos h
theorem kX{xs:List PyData}(h:xs.length<=16777216):a8 (.list xs)=.ok xs:=if_pos h
theorem zQ{x y:PyData}(hx:SeqAt.shaped x=true)(hy:SeqAt.shaped y=true):dEq x y=.ok (.bool (PyData.eqv x y)):=if_pos ⟨hx,hy⟩
theorem tT{x y:PyData}(hx:SeqAt.shaped x=true)(hy:SeqAt.shaped y=true):dNe x y=.ok (.bool (!PyData.eqv x y)):=if_pos ⟨hx,hy⟩
@[simp] theorem aER(T:String)(i:Int):eP T (.int i)=.ok (.bool (fU "int" T)):=id rfl
@[simp] theorem aES(T:String)(i:Str):eP T (.str i)=.ok (.bool (fU "str" T)):=id rfl
@[simp] theorem aET(T:String)(i:List PyData):eP T (.tuple i)=.ok (.bool (fU "tuple" T)):=id rfl
@[simp] theorem aEU(T:String)(i:List PyData):eP T (.list i)=.ok (.bool (fU "list" T)):=id rfl
@[simp] theorem aEV(T:String)(i:Bool):eP T (.bool i)=.ok (.bool (fU "bool" T)):=id rfl
@[simp] theorem aEW(T:String):eP T .none=.ok (.bool (fU "NoneType" T)):=id rfl
theorem tU{x y:Str}(h:x.length+y.length<=16777216):bN (.str x) (.str y)=.ok (.str (x++y)):=by
 unfold bN;exact if_pos (by rw[cG];exact h)
theorem dF{α:Type}{fs:PyData->Sg->Option Sg}{fe:Sg->R PyData}{ρ0:Sg}{d:α->PyData}{g:α->PyData}:∀ {xs:List α},(∀ x∈xs,∃ ρ1,fs (d x) ρ0=some ρ1/\fe ρ1=.ok (g x))->compL fs fM fe ρ0 (xs.map d)=.ok (xs.map g)
 | [],_=>rfl
 | x::t,h=>by
  obtain ⟨ρ1,h1,h2⟩:=h x List.mem_cons_self
  rw[List.map_cons]
  unfold compL
  rw[h1,dF fun y hy=>h y (List.mem_cons_of_mem _ hy),m3,R.bind_ok,xV,R.noEx_ok,R.bind_ok,if_pos rfl,h2];rfl
theorem eS{α:Type}{fs:PyData->Sg->Option Sg}{fb:Sg->R Fw}{d:α->PyData}{xs:List α}{ρ:Sg}(J:Nat->Sg->Prop)(h0:J 0 ρ)(hs:∀ (i:Nat) (x:α) (ρ:Sg),xs[i]? = some x->J i ρ->∃ ρ1 ρ2,fs (d x) ρ=some ρ1/\(fb ρ1=.ok (.nx ρ2)\/fb ρ1=.ok (.ct ρ2))/\J (i+1) ρ2) :
  ∃ ρ',iU fs fb (xs.map d) ρ=.ok (.nx ρ')/\J xs.length ρ':=by
 induction xs generalizing ρ J with
 | nil=>exact ⟨ρ,rfl,h0⟩
 | cons x t ih=>
  obtain ⟨ρ1,ρ2,h1,h2,h3⟩:=hs 0 x ρ rfl h0
  obtain ⟨ρ',q1,q2⟩:=ih (ρ:=ρ2) (fun i=>J (i+1)) h3 (fun i y ρ hy hj=>hs (i+1) y ρ (by simpa using hy) hj)
  refine ⟨ρ',?_,q2⟩
  rw[List.map_cons]
  unfold iU
  rw[h1,m3,R.bind_ok]
  rcases h2 with h2|h2<;>rw[h2]<;>exact q1
end Fl
namespace Fl
open PySem L2 PyProof.Rows
def aFC{α:Type}(d:α->PyData)(ps:List α):List (PyData×PyData):=ps.map fun p=>(d p,.bool true)
end Fl
namespace Mc
open PySem L2 PyProof.Rows Fl
theorem Mach.cons{rs:List Rw}{sg:Nat}(M:Mach rs sg):∃ r t,rs=r::t/\r.c.length=sg:=by
 cases rs with
 | nil=>have:=M.len;simp at this
 | cons r t=>exact ⟨r,t,rfl,(M.row r List.mem_cons_self).2⟩
theorem tW{n:Nat}(h:n<=16777216):eB 0 (n:Int)=.ok ((List.range n).map fun i:Nat=>.int (i:Int)):=by
 unfold eB
 rw[if_pos (by omega)]
 unfold gP
 simp
end Mc
namespace Mc
open PySem L2 PyProof.Rows Fl
theorem lL(i:Int):SeqAt.shaped (.int i)=true:=id rfl
theorem zR(i j:Int):PyData.eqv (.int i) (.int j)=decide (i=j):=by
 rw[PyData.eqv.eq_5]
 by_cases h:i=j
 · simp [h]
 · simp [h]
theorem gC(i j:Int):dEq (.int i) (.int j)=.ok (.bool (decide (i=j))):=by rw[zQ (lL i) (lL j),zR]
end Mc
namespace Mc
open PySem L2 PyProof.Rows Fl
end Mc
namespace Mc
open PySem L2 PyProof.Rows Fl
noncomputable def dP:Sg->R Fw:=(aL (sIf (e1 asB (e2 dLt (rV 1) (e1 dLen (rV 0)))) (bD (vD (e2 dIx (rV 0) (rV 1)))) sNx)
 (bD (vD (eC (.int 0)))))
noncomputable def aV:List A->R A:=fnF 2 dP
noncomputable def eE:Sg->R Fw:=(aL (bB 2 (vD (e2 dMod (rV 0) (e2 bN (rV 1) (eC (.int 2))))))
 (aL (sIf (e1 asB (e2 dLt (rV 2) (rV 1))) (bD (vV 2)) sNx)
 (bD (vD (e2 dIx (eL (dC (aB (eC (.str "by")) (aB (eC (.str "out")) aJ)))) (e2 dSub (rV 2) (rV 1)))))))
noncomputable def b4:List A->R A:=fnF 3 eE
noncomputable def i3:Sg->R Fw:=(aL (bB 3 (aS 2 b4 (aB (vV 0) (aB (vV 1) aJ))))
 (aL (bB 0 (vD (e2 dDiv (rV 0) (e2 bN (rV 1) (eC (.int 2))))))
 (aL (cO 4 (dC aJ))
 (aL (d7 (dJ (rV 2)) (stN 5) (aL (bB 6 (vD (e2 dMod (rV 0) (e2 dMul (eC (.int 2)) (rV 1)))))
 (aL (bB 0 (vD (e2 dDiv (rV 0) (e2 dMul (eC (.int 2)) (rV 1)))))
 (fK 4 (gN (aB (e2 dDiv (rV 6) (eC (.int 2))) (aB (e2 dSub (eC (.int 1)) (e2 dMul (eC (.int 2)) (e2 dMod (rV 6) (eC (.int 2))))) aJ)))))))
 (bD (vD (gN (aB (eV 3) (aB (e1 dTup (rV 4)) (aB (eA (aS 2 b4 (aB (vV 0) (aB (vV 1) aJ)))) aJ))))))))))
noncomputable def dG:List A->R A:=fnF 7 i3
noncomputable def dX:Sg->R Fw:=(aL (cO 3 (dC aJ))
 (aL (d7 (dJ (rV 1)) (stN 4) (aL (bB 5 (vD (e2 dMul (eC (.int 48271)) (e2 bN (rV 4) (eC (.int 1))))))
 (aL (sIf (e1 asB (e2 dGt (e1 dLen (rV 0)) (eC (.int 0)))) (bB 5 (vD (e2 bN (e2 dIx (rV 0) (e2 (d2 eQ) (rV 4) (e2 dSub (e1 dLen (rV 0)) (eC (.int 1))))) (e2 dMul (rV 5) (e1 dInt (e2 dGe (rV 4) (e1 dLen (rV 0)))))))) sNx)
 (fK 3 (eA (aS 3 dG (aB (vV 5) (aB (vV 1) (aB (vV 2) aJ)))))))))
 (bD (vD (e1 dTup (rV 3))))))
noncomputable def b3:List A->R A:=fnF 6 dX
end Mc
namespace Mc
open PySem L2 PyProof.Rows Fl
def bR(ns:List Int):PyData:=.list (ns.map .int)
theorem iH(ns:List Int):dLen (bR ns)=.ok (.int ns.length):=by unfold bR;rw[zO,List.length_map]
theorem tX{ns:List Int}{i:Int}(h0:0<=i)(h1:i < ns.length):∃ v,dIx (bR ns) (.int i)=.ok (.int v):=by
 refine ⟨ns[i.toNat]'(by omega),nL (xW h0 ?_)⟩
 rw[List.getElem?_map,List.getElem?_eq_getElem (by omega)];rfl
theorem gG{n:Nat}(h:n<=16777216):eB 0 (n:Int)=.ok ((List.range n).map fun i:Nat=>.int (i:Int)):=tW h
end Mc
namespace Mc
open PySem L2 PyProof.Rows Fl
end Mc
namespace Mc
open PySem L2 PyProof.Rows Fl
theorem oZ:∀ (n:Nat),iR (List.replicate n (.bool true))=some (List.replicate n true)
 | 0=>rfl
 | n+1=>by rw[List.replicate_succ,iR,oZ n];rfl
theorem qI(n:Nat):dAll (.list (List.replicate n (.bool true)))=.ok (.bool true):=by
 unfold dAll
 simp only
 rw[oZ]
 simp
end Mc
namespace Mc
open PySem L2 PyProof.Rows
def tY(rs:List Rw)(z:List Nat)(s:Int×Int):Option ((Int×Int)⊕Str):=
 match (jG rs z s).1 with
 | .w x=>some (.inr x)
 | .n q=>some (.inl (s.1+(jG rs z s).2,q))
end Mc
namespace Mc
open PySem L2 PyProof.Rows Fl
theorem v3(xs:List PyData)(x:PyData):dIx (.list (xs++[x])) (.int (-1))=.ok x:=nL (L2.u7 xs x)
def gR(rs:List Rw)(z:List Nat)(s:Int×Int):Prop:=wJ rs z s/\((rH rs z s=none/\∃ x,(jG rs z s).1=.w x/\wM (tY rs z) (0,0)=some x)\/((∃ s',rH rs z s=some s')/\wM (tY rs z) (0,0)=none))
end Mc
namespace Mc
open PySem L2 PyProof.Rows Fl
theorem o0{x:PyData}(hx:SeqAt.shaped x=true)(h:∀ i,x≠.str i\/True):inD x (.tuple [.str "by",.str "out"])=some (PyData.eqv (.str "by") x || (PyData.eqv (.str "out") x || false)):=by
 have hs:SeqAt.shaped (.tuple [.str "by",.str "out"])=true:=by decide +kernel
 cases x<;>simp[inD,hx,hs]
theorem tZ(x:Str)(q:Int):PyData.eqv (.str x) (.int q)=false:=by simp[PyData.eqv]
theorem t5(x y:Str):PyData.eqv (.str x) (.str y)=(x == y):=by rw[PyData.eqv.eq_6]
theorem rQ(q:Int):dIn (.int q) (.tuple [.str "by",.str "out"])=.ok (.bool false):=by
 unfold dIn
 rw[o0 rfl fun _=>.inr trivial,tZ,tZ];rfl
theorem rR{x:Str}(h:x="by"\/x="out"):dIn (.str x) (.tuple [.str "by",.str "out"])=.ok (.bool true):=by
 have h2:SeqAt.shaped (.str x)=true:=by rcases h with rfl|rfl<;>decide +kernel
 unfold dIn
 rw[o0 h2 fun _=>.inr trivial,t5,t5]
 rcases h with rfl|rfl<;>rfl
end Mc
namespace Mc
open PySem L2 PyProof.Rows Fl
end Mc
namespace Mc
open PySem L2 PyProof.Rows Fl
theorem v4{d:Int}(h:d=1\/d = -1):dIn (.int d) (.tuple [.int 1,.int (-1)])=.ok (.bool true):=by
 rcases h with rfl|rfl<;>rfl
end Mc
namespace Mc
open PySem L2 PyProof.Rows Fl
end Mc
namespace Fl
open PySem L2 PyProof.Rows
@[simp] theorem aC3(i:Nat)(f:Sg->R (List (PyData×PyData)))(ρ:Sg):aBA i f ρ=(f ρ).bind fun kvs=>(oR [] kvs).bind fun res=>.ok (.nx (ρ.set i (some (.m res)))):=id rfl
@[simp] theorem aDW(ρ:Sg):aCP ρ=.ok []:=id rfl
@[simp] theorem aC4(f g:Sg->R PyData)(r:Sg->R (List (PyData×PyData)))(ρ:Sg):aA9 f g r ρ=(f ρ).bind fun x=>(g ρ).bind fun y=>(r ρ).bind fun t=>.ok ((x,y)::t):=id rfl
@[simp] theorem aBW(i:Nat)(f g:Sg->R PyData)(ρ:Sg):zN i f g ρ=match ρ[i]? with|some (some (.m kvs))=>(f ρ).bind fun k=>(g ρ).bind fun y=>if cW k (kvs.map (·.1))=true then .ok ((dS kvs k).getD y) else .bad|_=>.bad:=id rfl
end Fl
namespace Mc
open PySem L2 PyProof.Rows Fl
end Mc
namespace Mc
open PySem L2 PyProof.Rows Fl
theorem o3{rs:List Rw}{sg:Nat}(M:Mach rs sg):SeqAt.shaped (bX rs)=true:=pK fun r hr=>(M.row r hr).1.ok
end Mc
namespace Mc
open PySem L2 PyProof.Rows Fl
end Mc
namespace Mc
open PySem L2 PyProof.Rows Fl
theorem aBG{rs:List Rw}{sg:Nat}(M:Mach rs sg):dNe (bX rs) (bX rs)=.ok (.bool false):=by rw[tT (o3 M) (o3 M),vF];rfl
end Mc
namespace Zp
open PySem L2
end Zp
namespace Fl
open PySem L2 PyProof.Rows
end Fl
namespace Zp
open PySem
structure Jk(s0:Heap)(d it S:Addr)(ar:Array DictEntry)(ep:Nat)(acc:Array Value)(h:Heap):Prop where
 size:acc.size<=ar.size
 told:acc.toList=(ar.toList.take acc.size).map (·.key)
 iter:h.IsKeyIter it d acc.size ar.size ep
 raw:Raw h d ar ep
 keep:∀ c o,c≠it->c≠S->s0.get? c=some o->h.get? c=some o
end Zp
namespace Zp
open PySem
end Zp
namespace Fl
open PySem L2 PyProof.Rows
def dPow:PyData->PyData->R PyData
 | .int i,.int j=>if 0<=j/\j<=1000000/\i.natAbs < 2 ^ 64 then .ok (.int (i ^ j.toNat)) else .bad
 | _,_=>.bad
section
variable{X:Cx}{c:Ct}{E:XK}{st:Stmt}
theorem xY:OpR X (binaryOp .Pow) (r2D (aQ c) (aQ c) (bH c) dPow):=fH yS (fun _ _ _=>.int _) fun a b d h=>by
 unfold dPow at h;split at h
 ·split at h
  · rename_i hc; cases h; exact ⟨_, _, rfl, rfl, hc, rfl⟩
  · cases h
 ·cases h
theorem t6:bI dPow:=by intro a b e h;unfold dPow at h;split at h<;>(try split at h)<;>cases h
end
end Fl
namespace Fl
open PySem L2 PyProof.Rows
def BxK(c:Ct)(E':XK)(σ:L2.St)(D:gR)(F H:Hp):R Unit->Prop
 | .bad=>False
 | .ok _=>∀ F' H',Ext F H F' H'->D.nx σ H'
 | .ex e=>∀ a C F' H',Ext F H F' H'->iP c.K c.mg F' e a C->E' (.ref C) (some a) H'
theorem BxK.ext{c:Ct}{E':XK}{σ:L2.St}{D:gR}{F H F1 H1:Hp}(s:Ext F H F1 H1):∀ {r:R Unit},BxK c E' σ D F H r->BxK c E' σ D F1 H1 r
 | .bad,h=>h
 | .ok _,h=>fun F' H' e=>h F' H' (s.trans e)
 | .ex _,h=>fun a C F' H' e=>h a C F' H' (s.trans e)
def uV:Sg->R Unit:=fun _=>.ok ()
end Fl
namespace Fl
open PySem L2 PyProof.Rows
theorem qJ{X:Cx}{p:Addr}{es:List Ent}(hM:iX X.K X.w p es)(hk:∀ e∈es,oS e)(nd:(es.map (·.1)).Nodup){pins:List (Addr×Obj)}{σ:L2.St}{H:Hp}{s:Shared}(I:Inv X pins σ H s) :
  ∃ xs o,s.heap.get? p=some o/\o.cls=.type "dict"/\s.heap.DictOf (cX X.prog X.w) p xs/\Paired vI es xs/\(p == sysModules)=false:=by
 obtain ⟨hd,o,ar,ep,h1,h2,h3,h4⟩:=hM
 have h1:=I.kIn p o h1
 obtain ⟨xs,hx1,hx2,hx3⟩:=sY (P:=X.prog) h4 hk
 refine ⟨xs,o,h1,h2.1,⟨o,ar,ep,h1,h2,h3,fun en hen=>hx3 en (by simpa using hen),hx1,?_⟩,hx2,hd⟩
 have:es.map (·.1)=(xs.map (·.1)).map keyPy:=by rw[List.map_map];exact lE (g:=fun e:Ent=>e.1) (fun a b h=>h.1) hx2
 rw[this] at nd
 exact mZ nd
section
variable{X:Cx}{c:Ct}{E:XK}{e a b:Expr}{pos:Pos}
def zS(p:Addr)(es:List Ent)(td ty:TE):TE:=fun σ H Q=>td σ H fun x H1=>ty σ H1 fun y H2=>∃ k v,x=.ref p/\y=kV k/\atE es (keyPy k)=some v/\Q v H2
theorem t7{o i:Expr}{td ty:TE}{p:Addr}{es:List Ent}(hM:iX X.K X.w p es)(hk:∀ e∈es,oS e)(nd:(es.map (·.1)).Nodup)(ho:PE X o td)(hi:PE X i ty)(hs:zB i):PE X (.Subscript o i pos) (zS p es td ty):=by
 intro pins s σ H Q I h
 refine xK PySem.F.slot_dict_getitem.lookup hs (thn (ho pins s σ H _ I h) fun u s1 ⟨x,H1,I1,rx,q1⟩=>thn (hi pins s1 σ H1 _ I1 q1) fun iv s2 zz0=>?_)
 obtain ⟨y,H2,I2,ry,k,v,ex,ey,hv,q2⟩:=zz0
 subst ex ey
 obtain rfl:u=Value.ref p:=rx
 obtain ⟨xs,o',h1,h2,dd,hx,hd⟩:=qJ hM hk nd I2
 have q:=n6 (k:=k) hx
 rw[hv] at q
 obtain ⟨w',hw,rw'⟩:=hW.some_of q
 exact ⟨⟨o',h1,h2⟩,wpAny_getItem_of (rG ry) dd.mapOf hw ⟨v,H2,I2.tok _,rw',q2⟩⟩
noncomputable def gS(kvs:List (PyData×PyData))(k:PyData):R PyData:=if iO k=true then (match dS kvs k with|some v=>.ok v|none=>.bad) else .bad
theorem t8{p:Addr}{es:List Ent}{kvs:List (PyData×PyData)}{f:Sg->R PyData}(hr:∀ F,MapRel c.K F es kvs)(h:PE X e (zS p es (tC (.ref p)) (tV (bH c) c E f))):PD X c E e (e1 (gS kvs) f):=PE.imp h fun σ H Q ⟨ρ,F,ab,k⟩=>by
 refine ⟨ρ,F,ab,(Rk.bind k).imp fun d _ q v F1 H1 s1 r1=>?_⟩
 unfold gS at q
 split at q
 ·rename_i hv
  obtain ⟨kk,rfl⟩:=p6 hv
  obtain rfl:=p7 r1
  rcases (hr F1).get (keyPy kk) with ⟨z1,z2⟩|⟨v',d',h1,h2,h3⟩
  ·rw[z2] at q;exact q.elim
  ·rw[h2] at q
   exact ⟨kk,v',rfl,rfl,h1,Rk.ok q v' F1 H1 s1 h3⟩
 ·exact q.elim
def v5(p:Addr)(es:List Ent):R2:=fun y x H Q=>∃ k,x=.ref p/\y=kV k/\Q (.bl (atE es (keyPy k)).isSome) H
theorem xZ{p:Addr}{es:List Ent}(hM:iX X.K X.w p es)(hk:∀ e∈es,oS e)(nd:(es.map (·.1)).Nodup):OpR X (compareOp .In) (v5 p es):=by
 intro pins s σ H y x v u Q I ry rx h
 obtain ⟨k,rfl,rfl,q⟩:=h
 cases (show u=Value.ref p from rx)
 obtain ⟨xs,o',h1,h2,dd,hx,hd⟩:=qJ hM hk nd I
 refine wpAny_in_of (rG ry) hd dd.mapOf ?_
 rw[<-sZ (n6 (k:=k) hx)]
 exact ⟨.bl _,H,I.tok _,rfl,q⟩
noncomputable def jV(kvs:List (PyData×PyData))(k:PyData):R PyData:=if iO k=true then .ok (.bool (d8 kvs k)) else .bad
theorem v6{p:Addr}{es:List Ent}{kvs:List (PyData×PyData)}{f:Sg->R PyData}(hr:∀ F,MapRel c.K F es kvs){σ:L2.St}{H:Hp}{Q:VK}(h:tV (bH c) c E (e1 (jV kvs) f) σ H Q):tOp (v5 p es) (tV (bH c) c E f) (tC (.ref p)) σ H Q:=by
 obtain ⟨ρ,F,ab,k⟩:=h
 refine ⟨ρ,F,ab,(Rk.bind k).imp fun d _ q v F1 H1 s1 r1=>?_⟩
 unfold jV at q
 split at q
 ·rename_i hv
  obtain ⟨kk,rfl⟩:=p6 hv
  obtain rfl:=p7 r1
  refine ⟨kk,rfl,rfl,?_⟩
  rw[(hr F1).has]
  exact Rk.ok q _ F1 H1 s1 (.bl _)
 ·exact q.elim
theorem zT{p:Addr}{es:List Ent}{kvs:List (PyData×PyData)}{f:Sg->R PyData}(hr:∀ F,MapRel c.K F es kvs)(h:PE X e (tOp (v5 p es) (tV (bH c) c E f) (tC (.ref p)))):PD X c E e (e1 (jV kvs) f):=PE.imp h fun σ H Q q=>v6 hr q
end
def i4(a:Int)(b:Str)(x:Int)(y:Str):List Ent:=[(.int a,.int a,.str b),(.int x,.int x,.str y)]
def i5(a:Str)(b:Int)(x:Str)(y:Int):List Ent:=[(.str a,.str a,.int b),(.str x,.str x,.int y)]
theorem t9{K:Frag}{F:Hp}{a x:Int}{b y:Str}(h:a≠x):MapRel K F (i4 a b x y) [(.int a,.str b),(.int x,.str y)]:=
 ⟨rfl,.cons (.int _) (.cons (.int _) .nil),.cons (.str _) (.cons (.str _) .nil),by simp[h]⟩
theorem m5{K:Frag}{F:Hp}{a x:Str}{b y:Int}(h:a≠x):MapRel K F (i5 a b x y) [(.str a,.int b),(.str x,.int y)]:=
 ⟨rfl,.cons (.str _) (.cons (.str _) .nil),.cons (.int _) (.cons (.int _) .nil),by simp[h]⟩
theorem uA{a x:Int}{b y:Str}:∀ e∈i4 a b x y,oS e:=by
 intro e he
 rcases List.mem_cons.mp he with rfl|he
 ·exact ⟨.inl a,rfl,rfl⟩
 ·obtain rfl:=List.mem_singleton.mp he
  exact ⟨.inl x,rfl,rfl⟩
theorem m6{a x:Str}{b y:Int}:∀ e∈i5 a b x y,oS e:=by
 intro e he
 rcases List.mem_cons.mp he with rfl|he
 ·exact ⟨.inr a,rfl,rfl⟩
 ·obtain rfl:=List.mem_singleton.mp he
  exact ⟨.inr x,rfl,rfl⟩
theorem v7{a x:Int}{b y:Str}(h:a≠x):((i4 a b x y).map (·.1)).Nodup:=by simp[i4,h]
theorem o4{a x:Str}{b y:Int}(h:a≠x):((i5 a b x y).map (·.1)).Nodup:=by simp[i5,h]
theorem aBH{K:Frag}{w:World}{p:Addr}{a x:Int}{b y:Str}{t1 t2 t3 t4 n:Nat}(hp:(p == sysModules)=false)(l:K.lookup p=some {cls:=.type "dict",data:=.dict #[{hash:=hashInt a,key:=.int a t1,val:=.str b t2},{hash:=hashInt x,key:=.int x t3,val:=.str y t4}] n}):iX K w p (i4 a b x y):=
 ⟨hp,_,_,_,l,⟨rfl,rfl,rfl⟩,rfl,.cons ⟨(jH w a).symm,⟨_,rfl⟩,⟨_,rfl⟩⟩ (.cons ⟨(jH w x).symm,⟨_,rfl⟩,⟨_,rfl⟩⟩ .nil)⟩
theorem aBI{K:Frag}{w:World}{p:Addr}{a x:Str}{b y:Int}{t1 t2 t3 t4 n:Nat}(hp:(p == sysModules)=false)(l:K.lookup p=some {cls:=.type "dict",data:=.dict #[{hash:=PyData.keyHash w.params a,key:=.str a t1,val:=.int b t2},{hash:=PyData.keyHash w.params x,key:=.str x t3,val:=.int y t4}] n}):iX K w p (i5 a b x y):=
 ⟨hp,_,_,_,l,⟨rfl,rfl,rfl⟩,rfl,.cons ⟨(jI w a).symm,⟨_,rfl⟩,⟨_,rfl⟩⟩ (.cons ⟨(jI w x).symm,⟨_,rfl⟩,⟨_,rfl⟩⟩ .nil)⟩
end Fl
namespace L2
open PySem PySem.Spec PyProof.Rows
section
variable{X:Cx}
theorem fB:dO X (.type "str") (fun xs H Q=>(∃ i:Int,xs=[.int i]/\i.natAbs.log2 < 1920/\Q (.str (Str.ofString (toString i))) H)\/∃ z,xs=[.str z]/\Q (.str z) H):=by
 intro pins s σ H xs us Q I r h
 rcases h with ⟨i,rfl,hi,q⟩|⟨z,rfl,q⟩
 ·obtain ⟨u,rfl,t,rfl⟩:=f6 r
  exact P.str_of_int hi ⟨.str _,H,I.tok _,⟨_,rfl⟩,q⟩
 ·obtain ⟨u,rfl,t,rfl⟩:=f6 r
  exact P.str_of_str ⟨.str _,H,I,⟨_,rfl⟩,q⟩
def uB:V->List V->Hp->VK->Prop:=fun x vs H Q=>∃ (z y:Str),x=.str z/\vs=[.str y]/\(y.length == 0)=false/\z.length+2<=sizeLine/\∀ p,H p=none->Q (.ref p) (upd H p (.lst ((Txt.split z y).map V.str)))
theorem m7:∀ (l:List (Str×Tok)),aW ((l.map (·.1)).map V.str) (strValues l)
 | []=>.nil
 | (x,t)::l=>.cons ⟨t,rfl⟩ (m7 l)
theorem o5:MtR X "str.split" uB:=by
 intro pins s σ H x vs v us Q I rx rv h
 obtain ⟨z,y,rfl,rfl,hy,hz,q⟩:=h
 obtain ⟨t,rfl⟩:=rx
 obtain ⟨u,rfl,t',rfl⟩:=f6 rv
 have hle:(Txt.split z y).length<=sizeLine:=Nat.le_trans (split_le z y) hz
 have fin:∀ (l:List (Str×Tok)) (k:Nat),l.map (·.1)=Txt.split z y->EP X pins σ Q (.ref s.heap.objs.size) {s with heap:=s.heap.push {cls:=.type "list",data:=.seq (strValues l).toArray},toks:=k}:=fun l k e=>by
  have hf:H s.heap.objs.size=none:=I.hok.fresh (Nat.le_refl _)
  refine ⟨.ref s.heap.objs.size,upd H s.heap.objs.size (.lst ((Txt.split z y).map V.str)),I.laid (t':=k) (fun b u e=>Heap.get?_push_of_some _ e) (Nat.le_refl _) ?_,rfl,q _ hf⟩
  refine ⟨by rw[List.length_map];exact hle,strValues l,0,?_,Heap.get?_push_size _ rfl⟩
  rw[<-e];exact m7 l
 cases h1:(decide (z.length < y.length) || decide (Builtin.Str.strKind z < Builtin.Str.strKind y))
 ·cases hf:(Builtin.Str.occurrences z y 0 z.length (z.length+1)).isEmpty
  ·have e:Txt.split z y=Builtin.Str.partsBetween z (Builtin.Str.occurrences z y 0 z.length (z.length+1)) y.length:=by unfold Txt.split;rw[h1,hf];rfl
   refine call_meets PySem.F.slot_str_split (typeIs_str _ _ _) PySem.F.entry_str_split (PySem.F.args_str_split_2 _ _) (meets_str_split_sep z y t t' h1 hy hf (by omega) (by rw[<-e];exact hle)) ?_
   show wants _ _ _ {s with toks:=_,heap:=s.heap.push {cls:=.type "list",data:=.seq (strsFrom s.toks (Builtin.Str.partsBetween z (Builtin.Str.occurrences z y 0 z.length (z.length+1)) y.length)).toArray}}
   rw[strsFrom_eq]
   exact fin (numbered s.toks _) _ ((numbered_texts _ _).trans e.symm)
  ·have e:Txt.split z y=[z]:=by unfold Txt.split;rw[h1,hf];rfl
   exact call_meets PySem.F.slot_str_split (typeIs_str _ _ _) PySem.F.entry_str_split (PySem.F.args_str_split_2 _ _) (meets_str_split_not_found z y t t' h1 hy hf) (fin [(z,t)] s.toks e.symm)
 ·have e:Txt.split z y=[z]:=by unfold Txt.split;rw[h1];rfl
  exact call_meets PySem.F.slot_str_split (typeIs_str _ _ _) PySem.F.entry_str_split (PySem.F.args_str_split_2 _ _) (meets_str_split_cannot_occur z y t t' h1) (fin [(z,t)] s.toks e.symm)
end
end L2
namespace Fl
open PySem L2 PyProof.Rows
def dStr:PyData->R PyData
 | .int i=>if 0<=i/\i < 1000 then .ok (.str (Str.ofString (toString i))) else .bad
 | .str z=>.ok (.str z)
 | _=>.bad
theorem uC:fG dStr:=by intro a e h;unfold dStr at h;split at h<;>(try split at h)<;>cases h
def gT:PyData->PyData->R (List PyData)
 | .str z,.str y=>if y.length≠0/\z.length<=1000000 then .ok ((Txt.split z y).map .str) else .bad
 | _,_=>.bad
section
variable{X:Cx}{c:Ct}{E:XK}{e:Expr}
theorem gI{fa:Sg->R PyData}(h0:PE X e (tCB (fun xs H Q=>(∃ i:Int,xs=[.int i]/\i.natAbs.log2 < 1920/\Q (.str (Str.ofString (toString i))) H)\/∃ z,xs=[.str z]/\Q (.str z) H) (cV (tV (aQ c) c E fa) fC))):PD X c E e (e1 dStr fa):=
 PE.imp h0 fun σ H Q h=>by
  obtain ⟨ρ,F,ab,k⟩:=tV1 (Ra:=aQ c) iQ uC (eF c) h
  refine ⟨ρ,F,ab,k.imp fun d _ q v F' H' s r=>?_⟩
  obtain ⟨H0,F1,a,d',sf,ra,eg,q⟩:=q v F' H' s r
  unfold dStr at eg
  split at eg
  ·rename_i i
   split at eg
   ·rename_i hi
    cases eg
    obtain rfl:=aP.int_of ra
    refine .inl ⟨_,rfl,?_,q _ F1 H' (Ext.refl sf) (.str _)⟩
    have:i.natAbs < 2 ^ 1920:=Nat.lt_of_lt_of_le (show i.natAbs < 1024 by omega) (Nat.pow_le_pow_right (n:=2) (by decide) (show 10<=1920 by decide))
    by_cases h0:i.natAbs=0
    · rw [h0]; decide
    · exact (Nat.log2_lt h0).mpr this
   ·cases eg
  ·cases eg
   obtain rfl:=aP.str_of ra
   exact .inr ⟨_,rfl,q _ F1 H' (Ext.refl sf) (.str _)⟩
  ·cases eg
theorem lM{K:Frag}{F:Hp}:∀ (l:List Str),DatVs K F (l.map V.str) (l.map PyData.str)
 | []=>.nil
 | x::l=>.cons (.str x) (lM l)
theorem o6{f g:Sg->R PyData}{sep:Str}(h:PE X e (tBM X.K "str" uB (tV (aQ c) c E f) (cV (tV (aQ c) c E g) fC)))(hg:∀ ρ,g ρ=.ok (.str sep)):PN X c E e (e2 gT f g):=PE.imp h fun σ H Q ⟨ρ,F,ab,k⟩=>by
 refine ⟨ρ,F,ab,(Rk.bind k).imp fun x ex q v F1 H1 s1 r1=>?_⟩
 rw[hg ρ,R.bind_ok] at q
 cases x with
 | str z=>
  obtain rfl:=aP.str_of r1
  have q':Rk c E F H (if sep.length≠0/\z.length<=1000000 then R.ok ((Txt.split z sep).map PyData.str) else .bad) (fun d=>∀ v F' H',Ext F H F' H'->kQ c d v H F' H'->Q v H'):=q
  refine ⟨rfl,ρ,F1,ab.ext s1,?_⟩
  rw[hg ρ]
  intro u F2 H2 s2 r2
  split at q'
  ·rename_i hz
   obtain rfl:=aP.str_of r2
   refine ⟨z,sep,rfl,rfl,by simpa using hz.1,by rw[cG];omega,fun p hp=>?_⟩
   exact Rk.ok q' (.ref p) F2 _ ((s1.trans s2).trans (Ext.own s2.fh hp)) ⟨p,_,rfl,bQ (fun a o z=>s2.hh a o (s1.hh a o z)) hp,bJ,bQ s2.fh hp,lM _⟩
  ·exact q'.elim
 | _=>exact q.elim
end
end Fl
namespace PySem
open Sem (wp)
theorem uD:typeLookup (.type "str") "__int__"=pure none:=by rw[typeLookup_type,builtinLookup_eq_fast];kernel_rfl
theorem uE:typeLookup (.type "str") "__index__"=pure none:=by rw[typeLookup_type,builtinLookup_eq_fast];kernel_rfl
theorem uF:typeLookup (.type "str") "__trunc__"=pure none:=by rw[typeLookup_type,builtinLookup_eq_fast];kernel_rfl
theorem x0{α:Type}{M:Model}{A:Around}{c c':Sem α}{Q:α->Shared->Prop}{E:Value->Shared->Prop}{s:Shared}(e:c=c')(h:wpAny M A c' Q E s):wpAny M A c Q E s:=e▸h
theorem mJ(i:Nat)(hi:i < 100)(x:Str)(hx:x=Str.ofString (toString (i:Int)))(u:Tok):Meets (Builtin.«int.__new__» ⟨[.type "int",.str x u],[]⟩) (fun _ R s=>R (.ok (.ret (.int i s.toks))) {s with toks:=s.toks+1}):=
 Meets.of_wp fun prog w A R s hs=>by
  obtain ⟨hp,g,d,tk,os⟩:=s
  have f1:=F.conv_sub_int
  have f2:=F.madeHere_int
  have hT:(⟨hp,g,d,tk,os⟩:Shared).TypeIs (.str x u) "str":=rfl
  have f3:=uD
  have f4:=uE
  have f5:=uF
  repeat (any_goals (first|assumption|wp_step))
  refine x0 (c':=mkInt (i:Int)) ?_ ?_
  ·subst hx
   clear hs hT f1 f2 f3 f4 f5
   match i,hi with
   | 0,_=>kernel_rfl
   | 1,_=>kernel_rfl
   | 2,_=>kernel_rfl
   | 3,_=>kernel_rfl
   | 4,_=>kernel_rfl
   | 5,_=>kernel_rfl
   | 6,_=>kernel_rfl
   | 7,_=>kernel_rfl
   | 8,_=>kernel_rfl
   | 9,_=>kernel_rfl
   | 10,_=>kernel_rfl
   | 11,_=>kernel_rfl
   | 12,_=>kernel_rfl
   | 13,_=>kernel_rfl
   | 14,_=>kernel_rfl
   | 15,_=>kernel_rfl
   | 16,_=>kernel_rfl
   | 17,_=>kernel_rfl
   | 18,_=>kernel_rfl
   | 19,_=>kernel_rfl
   | 20,_=>kernel_rfl
   | 21,_=>kernel_rfl
   | 22,_=>kernel_rfl
   | 23,_=>kernel_rfl
   | 24,_=>kernel_rfl
   | 25,_=>kernel_rfl
   | 26,_=>kernel_rfl
   | 27,_=>kernel_rfl
   | 28,_=>kernel_rfl
   | 29,_=>kernel_rfl
   | 30,_=>kernel_rfl
   | 31,_=>kernel_rfl
   | 32,_=>kernel_rfl
   | 33,_=>kernel_rfl
   | 34,_=>kernel_rfl
   | 35,_=>kernel_rfl
   | 36,_=>kernel_rfl
   | 37,_=>kernel_rfl
   | 38,_=>kernel_rfl
   | 39,_=>kernel_rfl
   | 40,_=>kernel_rfl
   | 41,_=>kernel_rfl
   | 42,_=>kernel_rfl
   | 43,_=>kernel_rfl
   | 44,_=>kernel_rfl
   | 45,_=>kernel_rfl
   | 46,_=>kernel_rfl
   | 47,_=>kernel_rfl
   | 48,_=>kernel_rfl
   | 49,_=>kernel_rfl
   | 50,_=>kernel_rfl
   | 51,_=>kernel_rfl
   | 52,_=>kernel_rfl
   | 53,_=>kernel_rfl
   | 54,_=>kernel_rfl
   | 55,_=>kernel_rfl
   | 56,_=>kernel_rfl
   | 57,_=>kernel_rfl
   | 58,_=>kernel_rfl
   | 59,_=>kernel_rfl
   | 60,_=>kernel_rfl
   | 61,_=>kernel_rfl
   | 62,_=>kernel_rfl
   | 63,_=>kernel_rfl
   | 64,_=>kernel_rfl
   | 65,_=>kernel_rfl
   | 66,_=>kernel_rfl
   | 67,_=>kernel_rfl
   | 68,_=>kernel_rfl
   | 69,_=>kernel_rfl
   | 70,_=>kernel_rfl
   | 71,_=>kernel_rfl
   | 72,_=>kernel_rfl
   | 73,_=>kernel_rfl
   | 74,_=>kernel_rfl
   | 75,_=>kernel_rfl
   | 76,_=>kernel_rfl
   | 77,_=>kernel_rfl
   | 78,_=>kernel_rfl
   | 79,_=>kernel_rfl
   | 80,_=>kernel_rfl
   | 81,_=>kernel_rfl
   | 82,_=>kernel_rfl
   | 83,_=>kernel_rfl
   | 84,_=>kernel_rfl
   | 85,_=>kernel_rfl
   | 86,_=>kernel_rfl
   | 87,_=>kernel_rfl
   | 88,_=>kernel_rfl
   | 89,_=>kernel_rfl
   | 90,_=>kernel_rfl
   | 91,_=>kernel_rfl
   | 92,_=>kernel_rfl
   | 93,_=>kernel_rfl
   | 94,_=>kernel_rfl
   | 95,_=>kernel_rfl
   | 96,_=>kernel_rfl
   | 97,_=>kernel_rfl
   | 98,_=>kernel_rfl
   | 99,_=>kernel_rfl
   | n+100,h=>exact absurd h (by omega)
  ·repeat (any_goals (first|assumption|wp_step))
   all_goals exact ⟨_,rfl,hs⟩
end PySem
namespace L2
open PySem PySem.Spec PyProof.Rows
theorem m8{X:Cx}:dO X (.type "int") (fun xs H Q=>∃ i:Nat,i < 100/\xs=[.str (Str.ofString (toString (i:Int)))]/\Q (.int i) H):=by
 intro pins s σ H xs us Q I r h
 obtain ⟨i,hi,rfl,q⟩:=h
 obtain ⟨u,rfl,t,rfl⟩:=f6 r
 exact call_int_1 (mJ i hi _ rfl t) (show _/\_ from ⟨typeIs_int _ _ _,.int _,H,I.tok _,⟨_,rfl⟩,q⟩)
end L2
namespace Fl
open PySem L2 PyProof.Rows
def dIntS:PyData->R PyData
 | .str z=>match (List.range 100).find? fun i:Nat=>decide (z=Str.ofString (toString (i:Int))) with
  | some i=>.ok (.int i)
  | none=>.bad
 | _=>.bad
theorem rS:fG dIntS:=by intro a e h;unfold dIntS at h;split at h<;>(try split at h)<;>cases h
theorem qK{X:Cx}{c:Ct}{E:XK}{e:Expr}{fa:Sg->R PyData}(h0:PE X e (tCB (fun xs H Q=>∃ i:Nat,i < 100/\xs=[.str (Str.ofString (toString (i:Int)))]/\Q (.int i) H) (cV (tV (aQ c) c E fa) fC))):PD X c E e (e1 dIntS fa):=
 PE.imp h0 fun σ H Q h=>by
  obtain ⟨ρ,F,ab,k⟩:=tV1 (Ra:=aQ c) iQ rS (eF c) h
  refine ⟨ρ,F,ab,k.imp fun d _ q v F' H' s r=>?_⟩
  obtain ⟨H0,F1,a,d',sf,ra,eg,q⟩:=q v F' H' s r
  unfold dIntS at eg
  split at eg
  ·split at eg
   ·rename_i z _ i hz
    cases eg
    obtain rfl:=aP.str_of ra
    have e1:=of_decide_eq_true (p:=(z=Str.ofString (toString (i:Int)))) (List.find?_some (p:=fun i:Nat=>decide (z=Str.ofString (toString (i:Int)))) hz)
    have e2:=List.mem_range.mp (List.mem_of_find?_eq_some hz)
    exact ⟨i,e2,by rw[e1],q _ F1 H' (Ext.refl sf) (.int _)⟩
   ·cases eg
  ·cases eg
end Fl
namespace Fl
open PySem L2 PyProof.Rows
@[simp] theorem aC5(i:Nat)(f g:Sg->R PyData)(ρ:Sg):aBD i f g ρ=match ρ[i]? with
 | some (some (.m kvs))=>(f ρ).bind fun k=>(g ρ).bind fun y=>if cW k (kvs.map (·.1))=true/\kvs.length<=16777216 then .ok (.nx (if d8 kvs k=true then ρ else ρ.set i (some (.m (oN kvs k y))))) else .bad
 | _=>.bad:=id rfl
@[simp] theorem aDX(i:Nat)(ρ:Sg):aCS i ρ=match ρ[i]? with
 | some (some (.l xs))=>.ok (.nx (ρ.set i (some (.l xs.reverse))))
 | _=>.bad:=id rfl
end Fl
namespace Mc
open PySem L2 PyProof.Rows Fl
mutual
def nbD:PyData->Bool
 | .bool _=>false
 | .dict _=>false
 | .list xs=>v8 xs
 | .tuple xs=>v8 xs
 | _=>true
def v8:List PyData->Bool
 | []=>true
 | x::t=>nbD x && v8 t
end
mutual
theorem uG:∀ d:PyData,d.canLay0=true->d.eqv d=true
 | .none,_=>by rfl
 | .bool b,_=>by simp[PyData.eqv]
 | .int i,_=>by simp[PyData.eqv]
 | .str x,_=>by simp[PyData.eqv]
 | .list xs,h=>by
  show PyData.eqvAll xs xs=true
  exact mK xs h
 | .tuple xs,h=>by
  show PyData.eqvAll xs xs=true
  exact mK xs h
 | .dict _,h=>by cases h
theorem mK:∀ xs:List PyData,PyData.canLayAll0 xs=true->PyData.eqvAll xs xs=true
 | [],_=>by rfl
 | x::t,h=>by
  have h':(x.canLay0 && PyData.canLayAll0 t)=true:=h
  rw[Bool.and_eq_true] at h'
  show (x.eqv x && PyData.eqvAll t t)=true
  rw[uG x h'.1,mK t h'.2];rfl
end
theorem zU{d:PyData}(h:SeqAt.shaped d=true):d.canLay0=true:=by
 have h':(d.canLay0 && decide (d.depth<=64))=true:=h
 rw[Bool.and_eq_true] at h'
 exact h'.1
structure Cp(d:PyData):Prop where
 nb:nbD d=true
 sh:SeqAt.shaped d=true
theorem zV{x:PyData}(h:SeqAt.shaped x=true):dNe x x=.ok (.bool false):=by rw[tT h h,uG x (zU h)];rfl
end Mc
namespace Mc
open PySem L2 PyProof.Rows Fl
noncomputable def fX:Sg->R Fw:=(aL (bB 1 (vD (e1 dLen (rV 0))))
 (aL (sIf (dN (e1 asB (eCh dLe dLe (eC (.int 1)) (rV 1) (eC (.int 60))))) kT sNx)
 (aL (bB 2 (vD (e1 dLen (e2 dIx (e2 dIx (rV 0) (eC (.int 0))) (eC (.int 1))))))
 (aL (d7 (e1 gZ (eV 0)) (stT [(stN 3),(stN 4)]) (aL (bB 5 (aS 3 dZ (aB (vV 4) (aB (vV 1) (aB (vV 2) aJ)))))
 (sIf (e1 asB (e2 dIsnt (rV 5) (eC .none))) kT sNx)))
 (bD (vD (e1 dTup (eL (dD [none] (e1 a8 (rV 0)) (stN 0) fM (eA (aS 1 eR (aB (vV 0) aJ))))))))))))
noncomputable def cJ:List A->R A:=fnF 6 fX
noncomputable def iA:Sg->R Fw:=(bD (vD (e2 bN (e1 dStr (e2 dIx (rV 0) (eC (.int 0)))) (e1 (gS [(.int 1,.str ">"),(.int (-1),.str "<")]) (e2 dIx (rV 0) (eC (.int 1)))))))
noncomputable def dM:List A->R A:=fnF 1 iA
noncomputable def i6:Sg->R Fw:=(aL (cO 1 (dD [none] (e1 a8 (e2 dIx (rV 0) (eC (.int 1)))) (stN 0) fM (eA (aS 1 dM (aB (vV 0) aJ)))))
 (bD (vD (e2 eH (eC (.str ",")) (eL (e2 fV (eL (e2 fV (eL (dC (aB (e1 dStr (e2 dIx (rV 0) (eC (.int 0)))) aJ))) (rV 1))) (eL (dC (aB (e1 dStr (e2 dIx (rV 0) (eC (.int 2)))) aJ)))))))))
noncomputable def d3:List A->R A:=fnF 2 i6
noncomputable def fY:Sg->R Fw:=(bD (vD (e2 eH (eC (.str " ")) (eL (dD [none] (e1 a8 (rV 0)) (stN 0) fM (eA (aS 1 d3 (aB (vV 0) aJ))))))))
noncomputable def cK:List A->R A:=fnF 1 fY
noncomputable def d4:Sg->R Fw:=(bD (vD (jM (e1 (jV [(.str ">",.int 1),(.str "<",.int (-1))]) (eSl dSl (rV 0) (oSo (e1 dNeg (eC (.int 1)))) oNo)) (eA (aS 2 dL (aB (vD (eSl dSl (rV 0) oNo (oSo (e1 dNeg (eC (.int 1)))))) (aB (vD (eC (.int 2))) aJ)))))))
noncomputable def cB:List A->R A:=fnF 1 d4
noncomputable def gD:Sg->R Fw:=(aL (bB 1 (vD (eSl dSl (rV 0) (oSo (eC (.int 1))) (oSo (e1 dNeg (eC (.int 1)))))))
 (aL (sIf (dN (e1 asB (eCh dLe dLe (eC (.int 1)) (e1 dLen (rV 1)) (e1 dLen (eC (.str "abc")))))) (bD (vD (eC (.bool false)))) sNx)
 (aL (sIf (bOr (dN (e1 asB (eA (aS 1 bY (aB (vD (e2 dIx (rV 0) (eC (.int 0)))) aJ))))) (dN (e1 asB (eA (aS 1 bY (aB (vD (e2 dIx (rV 0) (e1 dNeg (eC (.int 1))))) aJ)))))) (bD (vD (eC (.bool false)))) sNx)
 (bD (vD (e1 dAll (eL (dD [none] (e1 a8 (rV 1)) (stN 0) fM (eA (aS 1 cB (aB (vV 0) aJ)))))))))))
noncomputable def cQ:List A->R A:=fnF 2 gD
noncomputable def eI:Sg->R Fw:=(bD (vD (eIf (e1 asB (e2 dIn (rV 0) (eC (.tuple [.str "by",.str "out"])))) (eV 0) (e1 dIntS (rV 0)))))
noncomputable def b1:List A->R A:=fnF 1 eI
noncomputable def f9:Sg->R Fw:=(bD (vD (gN (aB (e1 dIntS (eSl dSl (rV 0) oNo (oSo (e1 dNeg (eC (.int 1)))))) (aB (e1 (gS [(.str ">",.int 1),(.str "<",.int (-1))]) (e2 dIx (rV 0) (e1 dNeg (eC (.int 1))))) aJ)))))
noncomputable def cU:List A->R A:=fnF 1 f9
noncomputable def i7:Sg->R Fw:=(aL (bB 1 (vD (e1 dTup (eL (dD [none] (e1 a8 (eSl dSl (rV 0) (oSo (eC (.int 1))) (oSo (e1 dNeg (eC (.int 1)))))) (stN 0) fM (eA (aS 1 cU (aB (vV 0) aJ))))))))
 (bD (vD (gN (aB (eA (aS 1 b1 (aB (vD (e2 dIx (rV 0) (eC (.int 0)))) aJ))) (aB (eV 1) (aB (eA (aS 1 b1 (aB (vD (e2 dIx (rV 0) (e1 dNeg (eC (.int 1))))) aJ))) aJ)))))))
noncomputable def d5:List A->R A:=fnF 2 i7
noncomputable def eU:Sg->R Fw:=(aL (cO 1 (dC aJ))
 (aL (d7 (e1 gZ (eL (e2 gT (rV 0) (eC (.str " "))))) (stT [(stN 2),(stN 3)]) (aL (cO 4 (e2 gT (rV 3) (eC (.str ","))))
 (aL (sFz 4 (sIf (dN (e1 asB (eA (aS 1 cQ (aB (vV 4) aJ))))) kT sNx))
 (sFz 4 (fK 1 (eA (aS 1 d5 (aB (vV 4) aJ))))))))
 (sFz 1 (bD (aS 1 cJ (aB (vV 1) aJ))))))
noncomputable def cC:List A->R A:=fnF 5 eU
noncomputable def gU:Sg->R Fw:=(aL (bB 2 (vD (e2 (d2 mH) (rV 1) (e2 (d2 eQ) (eC (.int 63)) (e1 dLen (rV 0))))))
 (aL (bB 3 (vD (e2 dEq (e2 dMod (eA (aS 2 aV (aB (vV 0) (aB (vD (eC (.int 0))) aJ)))) (eC (.int 2))) (eC (.int 0)))))
 (aL (cO 4 (dC aJ))
 (aL (d7 (dJ (rV 2)) (stN 5) (aL (bB 6 (vD (e2 dDiv (eA (aS 2 aV (aB (vV 0) (aB (vV 5) aJ)))) (e2 bN (eC (.int 1)) (e1 dInt (e2 dEq (rV 5) (eC (.int 0))))))))
 (aL (sIf (bOr (dN (e1 asB (eV 3))) (e1 asB (e2 dGe (rV 5) (e1 dLen (rV 0))))) (aL (bB 6 (vD (e2 dMod (e2 dMul (e2 bN (e2 dMod (rV 6) (e2 dPow (eC (.int 10)) (eC (.int 15)))) (e2 dMul (eC (.int 7919)) (rV 5))) (eC (.int 48271))) (eC (.int 2147483647)))))
 (bB 6 (vD (e2 dMod (e2 dMul (rV 6) (eC (.int 69621))) (eC (.int 2147483629)))))) sNx)
 (fK 4 (eV 6)))))
 (sFz 4 (bD (vV 4)))))))
noncomputable def c8:List A->R A:=fnF 7 gU
noncomputable def fZ:Sg->R Fw:=(aL (cO 1 (dC aJ))
 (aL (d7 (e1 a8 (eV 0)) (stT [(stN 2),(stN 3),(stN 4)]) (aL (cO 5 (e2 fV (eL (e2 fV (eL (dC (aB (e1 dStr (rV 2)) aJ))) (eL (dD [none] (e1 a8 (rV 3)) (stN 0) fM (e2 bN (e1 dStr (e2 dIx (rV 0) (eC (.int 0)))) (e2 dIx (eC (.str "<>")) (e2 dDiv (e2 bN (e2 dIx (rV 0) (eC (.int 1))) (eC (.int 1))) (eC (.int 2))))))))) (eL (dC (aB (e1 dStr (rV 4)) aJ)))))
 (fK 1 (e2 eH (eC (.str ",")) (rV 5)))))
 (bD (vD (e2 eH (eC (.str " ")) (rV 1))))))
noncomputable def cL:List A->R A:=fnF 6 fZ
noncomputable def rT:Sg->R Fw:=(aL (bB 0 (aS 2 c8 (aB (vV 0) (aB (vD (eC (.int 6))) aJ))))
 (aL (bB 1 (vD (e2 bN (eC (.int 1)) (e2 dMod (e2 dDiv (eA (aS 2 aV (aB (vV 0) (aB (vD (eC (.int 0))) aJ)))) (eC (.int 2))) (eC (.int 9))))))
 (aL (sIf (e1 asB (e2 dEq (e2 dMod (eA (aS 2 aV (aB (vV 0) (aB (vD (eC (.int 0))) aJ)))) (eC (.int 2))) (eC (.int 1)))) (bB 1 (vD (e2 bN (eC (.int 1)) (e2 dMod (e2 dDiv (eA (aS 2 aV (aB (vV 0) (aB (vD (eC (.int 0))) aJ)))) (eC (.int 2))) (eC (.int 60)))))) sNx)
 (aL (bB 2 (aS 3 b3 (aB (vD (eSl dSl (rV 0) (oSo (eC (.int 2))) oNo)) (aB (vV 1) (aB (vD (e2 bN (eC (.int 1)) (e2 dMod (eA (aS 2 aV (aB (vV 0) (aB (vD (eC (.int 1))) aJ)))) (eC (.int 3))))) aJ)))))
 (aL (bB 3 (aS 1 cL (aB (vV 2) aJ)))
 (aL (d7 (dJ (eC (.int 2))) (stN 4) (aL (bB 5 (aS 1 cK (aB (vV 2) aJ)))
 (sIf (bOr (dN (e1 asB (e1 (eP "str") (rV 5)))) (bOr (e1 asB (e2 dNe (rV 5) (rV 3))) (e1 asB (e2 dNe (eA (aS 1 cC (aB (vV 3) aJ))) (rV 2))))) (bD (vD (eC (.bool false)))) sNx)))
 (bD (vD (eC (.bool true))))))))))
noncomputable def nM:List A->R A:=fnF 6 rT
end Mc
namespace Mc
open PySem L2 PyProof.Rows Fl
def top(i:Nat):Stmt:=PySem.Challenge.pw_striproam_k02_whole_texts_there_and_back.main.body.getD i (.Pass ⟨0,0,0,0⟩)
structure Txt(w:World)(K:Frag)(mg:Str->Option Value):Prop where
 b_all:mg "all"=none
 b_bool:mg "bool"=none
 b_enumerate:mg "enumerate"=none
 b_int:mg "int"=none
 b_isinstance:mg "isinstance"=none
 b_len:mg "len"=none
 b_max:mg "max"=none
 b_min:mg "min"=none
 b_range:mg "range"=none
 b_str:mg "str"=none
 b_tuple:mg "tuple"=none
 g_ARROWS:∃ a,mg "ARROWS"=some (.ref a)/\iX K w a (i4 1 ">" (-1) "<")
 g_ARROW_STEPS:∃ a,mg "ARROW_STEPS"=some (.ref a)/\iX K w a (i5 ">" 1 "<" (-1))
 g_FIGURES:∃ t,mg "FIGURES"=some (.str "0123456789" t)
 g_MOST_FIGURES:∃ t,mg "MOST_FIGURES"=some (.int 2 t)
 g_MOST_ROOMS:∃ t,mg "MOST_ROOMS"=some (.int 60 t)
 g_SIGNS:∃ t,mg "SIGNS"=some (.str "abc" t)
 g_STEPS:∃ a,mg "STEPS"=some (.ref a)/\iM K a [.int 1,.int (-1)]
 g_STOPS:∃ a,mg "STOPS"=some (.ref a)/\iM K a [.str "by",.str "out"]
section
variable{P:Program}{w:World}{K:Frag}{mg:Str->Option Value}{base:Heap}{TH:Hp}
theorem kI:FnScope ["value"] ["value"] (aH (top 9)):=by constructor<;>first|rfl|decide +kernel
theorem pN(T:Txt w K mg)(D:DefAt K mg "is_whole" (top 9) ["value"]):aN P w K mg base TH 1 "is_whole" ["value"] dE:=
 @bO P w K mg base TH "is_whole" (top 9) ["value"] ["value"] 0 iY D kI (fun f cdv A outer s H F E hr=>by
  have nd:=kI.nd
  exact (Fl.aK (Fl.a7 (aM (iF (oM (bC (kS rfl (xP _)) rfl T.b_isinstance PyProof.Rows.boot_isinstance (aG (aC (pv 0)) (aG (lZ (v:=.ty "int") rfl T.b_int PyProof.Rows.boot_int rfl) aO)))) (gM (zF (oM (bC (kS rfl (vS _)) rfl T.b_isinstance PyProof.Rows.boot_isinstance (aG (aC (pv 0)) (aG (lZ (v:=.ty "bool") rfl T.b_bool PyProof.Rows.boot_bool rfl) aO)))))))))))
theorem lN:FnScope ["value","rooms"] ["value","rooms"] (aH (top 10)):=by constructor<;>first|rfl|decide +kernel
theorem rW(T:Txt w K mg)(D:DefAt K mg "is_room" (top 10) ["value","rooms"])(c_is_whole:aN P w K mg base TH 1 "is_whole" ["value"] dE):aN P w K mg base TH 2 "is_room" ["value","rooms"] dU:=
 @bO P w K mg base TH "is_room" (top 10) ["value","rooms"] ["value","rooms"] 1 jS D lN (fun f cdv A outer s H F E hr=>by
  have nd:=lN.nd
  exact (Fl.aK (Fl.a7 (aM (iF (bP (bF rfl rfl rfl (bE c_is_whole (hr.mono (by decide)) rfl (bK fun _ _ _ h=>h) (aE (aZ (pv 0)) aY)))) (gM (oE fJ dB oA kR (aA aD) (aC (pv 0)) (aC (pv 1)))))))))
theorem lO:FnScope ["value","rooms"] ["value","rooms"] (aH (top 11)):=by constructor<;>first|rfl|decide +kernel
theorem rX(T:Txt w K mg)(D:DefAt K mg "is_turn" (top 11) ["value","rooms"])(c_is_room:aN P w K mg base TH 2 "is_room" ["value","rooms"] dU):aN P w K mg base TH 3 "is_turn" ["value","rooms"] dW:=
 @bO P w K mg base TH "is_turn" (top 11) ["value","rooms"] ["value","rooms"] 2 g8 D lO (fun f cdv A outer s H F E hr=>by
  have nd:=lO.nd
  exact (Fl.aK (Fl.a7 (aM (wP (gB (jL rfl hr.units) gL (aC (pv 0)) (aA (b7 (cI (v:=.ref T.g_STOPS.choose) rfl T.g_STOPS.choose_spec.1 rfl) fun F=>iW T.g_STOPS.choose_spec.2 (by exact fun F=>.cons (.str _) (.cons (.str _) (.nil))) F)) (by with_unfolding_all rfl)) (gM (bP (bF rfl rfl rfl (bE c_is_room (hr.mono (by decide)) rfl (bK fun _ _ _ h=>h) (aE (aZ (pv 0)) (aE (aZ (pv 1)) aY)))))))))))
theorem lP:FnScope ["cell","rooms"] ["cell","rooms"] (aH (top 12)):=by constructor<;>first|rfl|decide +kernel
theorem rY(T:Txt w K mg)(D:DefAt K mg "is_cell" (top 12) ["cell","rooms"])(c_is_whole:aN P w K mg base TH 1 "is_whole" ["value"] dE)(c_is_room:aN P w K mg base TH 2 "is_room" ["value","rooms"] dU):aN P w K mg base TH 3 "is_cell" ["cell","rooms"] fA:=
 @bO P w K mg base TH "is_cell" (top 12) ["cell","rooms"] ["cell","rooms"] 2 jT D lP (fun f cdv A outer s H F E hr=>by
  have nd:=lP.nd
  exact (Fl.aK (Fl.a7 (aM (iF (bP (bF rfl rfl rfl (bE c_is_room (hr.mono (by decide)) rfl (bK fun _ _ _ h=>h) (aE (aM (bL (bM rfl) a6 (aC (pv 0)) (aA aD))) (aE (aZ (pv 1)) aY))))) (iF (bP (bF rfl rfl rfl (bE c_is_whole (hr.mono (by decide)) rfl (bK fun _ _ _ h=>h) (aE (aM (bL (bM rfl) a6 (aC (pv 0)) (aA aD))) aY)))) (gM (gB (jL rfl hr.units) gL (aA (bL (bM rfl) a6 (aC (pv 0)) (aA aD))) (aA (b7 (cI (v:=.ref T.g_STEPS.choose) rfl T.g_STEPS.choose_spec.1 rfl) fun F=>iW T.g_STEPS.choose_spec.2 (by exact fun F=>.cons (.int _) (.cons (.int _) (.nil))) F)) (by with_unfolding_all rfl)))))))))
theorem jW:FnScope ["cells","signs"] ["cells","signs"] (aH (top 13)):=by constructor<;>first|rfl|decide +kernel
theorem o7(T:Txt w K mg)(D:DefAt K mg "has_cells" (top 13) ["cells","signs"]):aN P w K mg base TH 1 "has_cells" ["cells","signs"] eD:=
 @bO P w K mg base TH "has_cells" (top 13) ["cells","signs"] ["cells","signs"] 0 hZ D jW (fun f cdv A outer s H F E hr=>by
  have nd:=jW.nd
  exact (Fl.aK (Fl.a7 (aM (iF (oE fJ dB fJ dB (aA aD) (aA (cT rfl (bC b5 rfl T.b_len PySem.boot_len (aG (aC (pv 0)) aO)))) (aA (cT rfl (bC b5 rfl T.b_len PySem.boot_len (aG (aA (b7 (cI (v:=.str "abc") rfl T.g_SIGNS.choose_spec ⟨_,rfl⟩) fun _=>.str _)) aO))))) (gM (gB (iE rfl hr.units) fQ (aA (cT rfl (bC b5 rfl T.b_len PySem.boot_len (aG (aC (pv 0)) aO)))) (aC (pv 1)) (cS _))))))))
theorem kJ:FnScope ["row","rooms","signs"] ["row","rooms","signs"] (aH (top 14)):=by constructor<;>first|rfl|decide +kernel
theorem pO(T:Txt w K mg)(D:DefAt K mg "fault_of" (top 14) ["row","rooms","signs"])(c_has_cells:aN P w K mg base TH 1 "has_cells" ["cells","signs"] eD)(c_is_turn:aN P w K mg base TH 3 "is_turn" ["value","rooms"] dW)(c_is_cell:aN P w K mg base TH 3 "is_cell" ["cell","rooms"] fA):aN P w K mg base TH 4 "fault_of" ["row","rooms","signs"] dZ:=
 @bO P w K mg base TH "fault_of" (top 14) ["row","rooms","signs"] ["row","rooms","signs"] 3 iZ D kJ (fun f cdv A outer s H F E hr=>by
  have nd:=kJ.nd
  exact (Fl.aI (Fl.cH (Fl.cR (Fl.dQ (bP (bF rfl rfl rfl (bE c_has_cells (hr.mono (by decide)) rfl (bK fun _ _ _ h=>h) (aE (aM (bL (bM rfl) a6 (aC (pv 0)) (aA aD))) (aE (aZ (pv 2)) aY))))))) (Fl.aK (Fl.a7 (aM cN))) Fl.bW)
   (Fl.aI (Fl.cH (Fl.cR (Fl.dQ (bP (bF rfl rfl rfl (bE c_is_turn (hr.mono (by decide)) rfl (bK fun _ _ _ h=>h) (aE (aM (bL (bM rfl) a6 (aC (pv 0)) (aA aD))) (aE (aZ (pv 1)) aY))))))) (Fl.aK (Fl.a7 (aM cN))) Fl.bW)
   (Fl.aI (Fl.cH (Fl.cR (Fl.dQ (oG rfl (bC (jF rfl) rfl T.b_all PyProof.Rows.boot_all (aG (aA (cE (e8 (eW (N:=["cell","rooms"]) (js:=[none,some 1]) rfl (.own (.cap rfl (.inl rfl) (.inl rfl) .nil)) (by rfl) (iS rfl (aA (bL (bM rfl) a6 (aC (pv 0)) (aA aD))))) (by decide) (by decide) (is:=[0]) (fun cl C s0 H0 fp=>⟨_,(bS (i:=0) (show (["cell","rooms"]:List Str).Nodup by decide +kernel) rfl (Or.inl rfl)),(bT 0),Fl.c5,(bP (bF rfl rfl rfl (bE c_is_cell (hr.mono (by decide)) rfl j6 (aE (aZ (pv 0)) (aE (aZ (pv 1)) aY)))))⟩)))) aO))))) (Fl.aK (Fl.a7 (aM cN))) Fl.bW)
   (Fl.aI (Fl.cH (Fl.cR (Fl.dQ (bP (bF rfl rfl rfl (bE c_is_turn (hr.mono (by decide)) rfl (bK fun _ _ _ h=>h) (aE (aM (bL (bM rfl) a6 (aC (pv 0)) (aA aD))) (aE (aZ (pv 1)) aY))))))) (Fl.aK (Fl.a7 (aM cN))) Fl.bW)
   (Fl.aK (Fl.a7 (aM s9))))))))
end
end Mc
namespace Mc
open PySem L2 PyProof.Rows Fl
section
variable{P:Program}{w:World}{K:Frag}{mg:Str->Option Value}{base:Heap}{TH:Hp}
theorem m9:FnScope ["row"] ["row"] (aH (top 15)):=by constructor<;>first|rfl|decide +kernel
theorem uH(T:Txt w K mg)(D:DefAt K mg "frozen" (top 15) ["row"]):aN P w K mg base TH 1 "frozen" ["row"] eR:=
 @bO P w K mg base TH "frozen" (top 15) ["row"] ["row"] 0 kW D m9 (fun f cdv A outer s H F E hr=>by
  have nd:=m9.nd
  exact (Fl.aK (Fl.a7 (aM (iG (bG (bL (bM rfl) a6 (aC (pv 0)) (aA aD)) (bG (gO rfl (bU dI rfl T.b_tuple PyProof.Rows.boot_tuple (aG (aA (cE (e8 (eW (N:=["cell"]) (js:=[none]) rfl (.own .nil) (by rfl) (iS rfl (aA (bL (bM rfl) a6 (aC (pv 0)) (aA aD))))) (by decide) (by decide) (is:=[0]) (fun cl C s0 H0 fp=>⟨_,(bS (i:=0) (show (["cell"]:List Str).Nodup by decide +kernel) rfl (Or.inl rfl)),(bT 0),Fl.c5,(iG (bG (bL (bM rfl) a6 (aC (pv 0)) (aA aD)) (bG (bL (bM rfl) a6 (aC (pv 0)) (aA aD)) b8)))⟩)))) aO))) (bG (bL (bM rfl) a6 (aC (pv 0)) (aA aD)) b8))))))))
theorem i9:FnScope ["rows","rooms","signs","room","row","part"] ["rows"] (aH (top 16)):=by constructor<;>first|rfl|decide +kernel
theorem nB(T:Txt w K mg)(D:DefAt K mg "machine_of" (top 16) ["rows"])(c_fault_of:aN P w K mg base TH 4 "fault_of" ["row","rooms","signs"] dZ)(c_frozen:aN P w K mg base TH 1 "frozen" ["row"] eR):aN P w K mg base TH 5 "machine_of" ["rows"] cJ:=
 @bO P w K mg base TH "machine_of" (top 16) ["rows","rooms","signs","room","row","part"] ["rows"] 4 fX D i9 (fun f cdv A outer s H F E hr=>by
  have nd:=i9.nd
  exact (Fl.aI (Fl.aR (L2.aR (i:=1) nd rfl (Or.inl rfl) (aM (cT rfl (bC b5 rfl T.b_len PySem.boot_len (aG (aC (pv 0)) aO))))))
   (Fl.aI (Fl.cH (Fl.cR (Fl.gJ fJ dB fJ dB (aA aD) (aC (pv 1)) (aA (b7 (cI (v:=.int 60) rfl T.g_MOST_ROOMS.choose_spec ⟨_,rfl⟩) fun _=>.int _)))) (Fl.aK Fl.oQ) Fl.bW)
   (Fl.aI (Fl.aR (L2.aR (i:=2) nd rfl (Or.inl rfl) (aM (cT rfl (bC b5 rfl T.b_len PySem.boot_len (aG (aA (bL (bM rfl) a6 (aA (bL (bM rfl) a6 (aC (pv 0)) (aA aD))) (aA aD))) aO))))))
   (Fl.aI (Fl.cM (oH rfl (eM (bT 3) (eM (bT 4) mD)) rfl) (L2.cM (fO ⟨rfl,rfl⟩) rfl (qG rfl (L2.qF rfl T.b_enumerate (aG (gK (pv 0)) aO))) (nQ rfl (eJ (bS (i:=3) nd rfl (Or.inl rfl)) (eJ (bS (i:=4) nd rfl (Or.inl rfl)) l0)))
   (Fl.aI (Fl.aR (L2.aR (i:=5) nd rfl (Or.inl rfl) (bF rfl rfl rfl (bE c_fault_of (hr.mono (by decide)) rfl (bK fun _ _ _ h=>h) (aE (aZ (pv 4)) (aE (aZ (pv 1)) (aE (aZ (pv 2)) aY)))))))
   (Fl.aK (Fl.cH (Fl.dH vN rL (aC (pv 5)) (aA s9) (cS _)) (Fl.aK Fl.oQ) Fl.bW)))))
   (Fl.aK (Fl.a7 (aM (gO rfl (bU dI rfl T.b_tuple PyProof.Rows.boot_tuple (aG (aA (cE (e8 (eW (N:=["row"]) (js:=[none]) rfl (.own .nil) (by rfl) (iS rfl (aC (pv 0)))) (by decide) (by decide) (is:=[0]) (fun cl C s0 H0 fp=>⟨_,(bS (i:=0) (show (["row"]:List Str).Nodup by decide +kernel) rfl (Or.inl rfl)),(bT 0),Fl.c5,(bP (bF rfl rfl rfl (bE c_frozen (hr.mono (by decide)) rfl j6 (aE (aZ (pv 0)) aY))))⟩)))) aO)))))))))))
theorem jX:FnScope ["cell"] ["cell"] (aH (top 22)):=by constructor<;>first|rfl|decide +kernel
theorem o8(T:Txt w K mg)(D:DefAt K mg "cell_text" (top 22) ["cell"]):aN P w K mg base TH 1 "cell_text" ["cell"] dM:=
 @bO P w K mg base TH "cell_text" (top 22) ["cell"] ["cell"] 0 iA D jX (fun f cdv A outer s H F E hr=>by
  have nd:=jX.nd
  exact (Fl.aK (Fl.a7 (aM (a5 (cP rfl) b9 (aA (gI (bU fB rfl T.b_str PyProof.Rows.boot_str (aG (aA (bL (bM rfl) a6 (aC (pv 0)) (aA aD))) aO)))) (aA (t8 (fun F=>t9 (by decide)) (t7 T.g_ARROWS.choose_spec.2 uA (v7 (by decide)) (cI (v:=.ref T.g_ARROWS.choose) rfl T.g_ARROWS.choose_spec.1 rfl) (bL (bM rfl) a6 (aC (pv 0)) (aA aD)) (fun _ _=>rfl)))))))))
theorem kK:FnScope ["row","cells"] ["row"] (aH (top 23)):=by constructor<;>first|rfl|decide +kernel
theorem pP(T:Txt w K mg)(D:DefAt K mg "row_text" (top 23) ["row"])(c_cell_text:aN P w K mg base TH 1 "cell_text" ["cell"] dM):aN P w K mg base TH 2 "row_text" ["row"] d3:=
 @bO P w K mg base TH "row_text" (top 23) ["row","cells"] ["row"] 1 i6 D kK (fun f cdv A outer s H F E hr=>by
  have nd:=kK.nd
  exact (Fl.aI (xN (L2.rC (i:=1) nd rfl (Or.inl rfl) (by rfl) (N:=["cell"]) (js:=[none]) rfl (.own .nil) (by rfl) (iS rfl (aA (bL (bM rfl) a6 (aC (pv 0)) (aA aD))))) (by decide) (by decide) (is:=[0]) (fun cl C s0 H0 fp=>⟨_,(bS (i:=0) (show (["cell"]:List Str).Nodup by decide +kernel) rfl (Or.inl rfl)),(bT 0),Fl.c5,(bP (bF rfl rfl rfl (bE c_cell_text (hr.mono (by decide)) rfl j6 (aE (aZ (pv 0)) aY))))⟩))
   (Fl.aK (Fl.a7 (aM (kB rfl (fF PySem.F.plainAttrs_str PySem.F.slot_str_join PySem.F.type_str_join j8 (aA cN) (aG (aA (cE (lK rfl (aA (cE (lK rfl (aA (cE (d9 (bG (gI (bU fB rfl T.b_str PyProof.Rows.boot_str (aG (aA (bL (bM rfl) a6 (aC (pv 0)) (aA aD))) aO))) b8)))) (aC (pv 1))))) (aA (cE (d9 (bG (gI (bU fB rfl T.b_str PyProof.Rows.boot_str (aG (aA (bL (bM rfl) a6 (aC (pv 0)) (aA aD))) aO))) b8))))))) aO)) (by intro ρ x h;cases h;exact ⟨_,rfl⟩)))))))
theorem g9:FnScope ["machine"] ["machine"] (aH (top 24)):=by constructor<;>first|rfl|decide +kernel
theorem lQ(T:Txt w K mg)(D:DefAt K mg "machine_text" (top 24) ["machine"])(c_row_text:aN P w K mg base TH 2 "row_text" ["row"] d3):aN P w K mg base TH 3 "machine_text" ["machine"] cK:=
 @bO P w K mg base TH "machine_text" (top 24) ["machine"] ["machine"] 2 fY D g9 (fun f cdv A outer s H F E hr=>by
  have nd:=g9.nd
  exact (Fl.aK (Fl.a7 (aM (kB rfl (fF PySem.F.plainAttrs_str PySem.F.slot_str_join PySem.F.type_str_join j8 (aA cN) (aG (aA (cE (e8 (eW (N:=["row"]) (js:=[none]) rfl (.own .nil) (by rfl) (iS rfl (aC (pv 0)))) (by decide) (by decide) (is:=[0]) (fun cl C s0 H0 fp=>⟨_,(bS (i:=0) (show (["row"]:List Str).Nodup by decide +kernel) rfl (Or.inl rfl)),(bT 0),Fl.c5,(bP (bF rfl rfl rfl (bE c_row_text (hr.mono (by decide)) rfl j6 (aE (aZ (pv 0)) aY))))⟩)))) aO)) (by intro ρ x h;cases h;exact ⟨_,rfl⟩))))))
theorem jY:FnScope ["part","most"] ["part","most"] (aH (top 25)):=by constructor<;>first|rfl|decide +kernel
theorem o9(T:Txt w K mg)(D:DefAt K mg "is_number" (top 25) ["part","most"]):aN P w K mg base TH 1 "is_number" ["part","most"] dL:=
 @bO P w K mg base TH "is_number" (top 25) ["part","most"] ["part","most"] 0 kH D jY (fun f cdv A outer s H F E hr=>by
  have nd:=jY.nd
  exact (Fl.aI (Fl.cH (Fl.dH (iE rfl hr.units) fQ (aC (pv 0)) (aA cN) (cS _)) (Fl.aK (Fl.a7 (aM j9))) Fl.bW)
   (Fl.aI (Fl.cH (PW.pt (Fl.iK (Fl.cR (Fl.gJ fJ dB fJ dB (aA aD) (aA (cT rfl (bC b5 rfl T.b_len PySem.boot_len (aG (aC (pv 0)) aO)))) (aC (pv 1)))) (Fl.iB (Fl.dH (iE rfl hr.units) fQ (aA (bL (bM rfl) a6 (aC (pv 0)) (aA aD))) (aA cN) (cS _))))) (Fl.aK (Fl.a7 (aM j9))) Fl.bW)
   (Fl.aK (Fl.a7 (aM (oG rfl (bC (jF rfl) rfl T.b_all PyProof.Rows.boot_all (aG (aA (cE (e8 (eW (N:=["sign"]) (js:=[none]) rfl (.own .nil) (by rfl) (iS rfl (aC (pv 0)))) (by decide) (by decide) (is:=[0]) (fun cl C s0 H0 fp=>⟨_,(bS (i:=0) (show (["sign"]:List Str).Nodup by decide +kernel) rfl (Or.inl rfl)),(bT 0),Fl.c5,(gB (jL rfl hr.units) gL (aC (pv 0)) (aA (b7 (cI (v:=.str "0123456789") rfl T.g_FIGURES.choose_spec ⟨_,rfl⟩) fun _=>.str _)) (by with_unfolding_all rfl))⟩)))) aO)))))))))
end
end Mc
namespace Mc
open PySem L2 PyProof.Rows Fl
section
variable{P:Program}{w:World}{K:Frag}{mg:Str->Option Value}{base:Heap}{TH:Hp}
theorem hB:FnScope ["part"] ["part"] (aH (top 26)):=by constructor<;>first|rfl|decide +kernel
theorem lR(T:Txt w K mg)(D:DefAt K mg "is_turn_text" (top 26) ["part"])(c_is_number:aN P w K mg base TH 1 "is_number" ["part","most"] dL):aN P w K mg base TH 2 "is_turn_text" ["part"] bY:=
 @bO P w K mg base TH "is_turn_text" (top 26) ["part"] ["part"] 1 d0 D hB (fun f cdv A outer s H F E hr=>by
  have nd:=hB.nd
  exact (Fl.aK (Fl.a7 (aM (wP (gB (jL rfl hr.units) gL (aC (pv 0)) (aA (b7 (cI (v:=.ref T.g_STOPS.choose) rfl T.g_STOPS.choose_spec.1 rfl) fun F=>iW T.g_STOPS.choose_spec.2 (by exact fun F=>.cons (.str _) (.cons (.str _) (.nil))) F)) (by with_unfolding_all rfl)) (gM (bP (bF rfl rfl rfl (bE c_is_number (hr.mono (by decide)) rfl (bK fun _ _ _ h=>h) (aE (aZ (pv 0)) (aE (aM (b7 (cI (v:=.int 2) rfl T.g_MOST_FIGURES.choose_spec ⟨_,rfl⟩) fun _=>.int _)) aY)))))))))))
theorem hJ:FnScope ["part"] ["part"] (aH (top 27)):=by constructor<;>first|rfl|decide +kernel
theorem lS(T:Txt w K mg)(D:DefAt K mg "is_cell_text" (top 27) ["part"])(c_is_number:aN P w K mg base TH 1 "is_number" ["part","most"] dL):aN P w K mg base TH 2 "is_cell_text" ["part"] cB:=
 @bO P w K mg base TH "is_cell_text" (top 27) ["part"] ["part"] 1 d4 D hJ (fun f cdv A outer s H F E hr=>by
  have nd:=hJ.nd
  exact (Fl.aK (Fl.a7 (aM (iF (zT (fun F=>m5 (by decide)) (pT (xZ T.g_ARROW_STEPS.choose_spec.2 m6 (o4 (by decide))) (fS rfl (aC (pv 0)) (gY (aA (gX eY dA (aA aD)))) nI) (cI (v:=.ref T.g_ARROW_STEPS.choose) rfl T.g_ARROW_STEPS.choose_spec.1 rfl) (by with_unfolding_all rfl))) (gM (bP (bF rfl rfl rfl (bE c_is_number (hr.mono (by decide)) rfl (bK fun _ _ _ h=>h) (aE (aM (fS rfl (aC (pv 0)) nI (gY (aA (gX eY dA (aA aD)))))) (aE (aM (b7 (cI (v:=.int 2) rfl T.g_MOST_FIGURES.choose_spec ⟨_,rfl⟩) fun _=>.int _)) aY)))))))))))
theorem iI:FnScope ["parts","cells"] ["parts"] (aH (top 28)):=by constructor<;>first|rfl|decide +kernel
theorem mL(T:Txt w K mg)(D:DefAt K mg "is_row_text" (top 28) ["parts"])(c_is_turn_text:aN P w K mg base TH 2 "is_turn_text" ["part"] bY)(c_is_cell_text:aN P w K mg base TH 2 "is_cell_text" ["part"] cB):aN P w K mg base TH 3 "is_row_text" ["parts"] cQ:=
 @bO P w K mg base TH "is_row_text" (top 28) ["parts","cells"] ["parts"] 2 gD D iI (fun f cdv A outer s H F E hr=>by
  have nd:=iI.nd
  exact (Fl.aI (Fl.aR (L2.aR (i:=1) nd rfl (Or.inl rfl) (aM (fS rfl (aC (pv 0)) (gY (aA aD)) (gY (aA (gX eY dA (aA aD))))))))
   (Fl.aI (Fl.cH (Fl.cR (Fl.gJ fJ dB fJ dB (aA aD) (aA (cT rfl (bC b5 rfl T.b_len PySem.boot_len (aG (aC (pv 1)) aO)))) (aA (cT rfl (bC b5 rfl T.b_len PySem.boot_len (aG (aA (b7 (cI (v:=.str "abc") rfl T.g_SIGNS.choose_spec ⟨_,rfl⟩) fun _=>.str _)) aO)))))) (Fl.aK (Fl.a7 (aM j9))) Fl.bW)
   (Fl.aI (Fl.cH (PW.pt (Fl.iK (Fl.cR (Fl.dQ (bP (bF rfl rfl rfl (bE c_is_turn_text (hr.mono (by decide)) rfl (bK fun _ _ _ h=>h) (aE (aM (bL (bM rfl) a6 (aC (pv 0)) (aA aD))) aY)))))) (Fl.iB (Fl.cR (Fl.dQ (bP (bF rfl rfl rfl (bE c_is_turn_text (hr.mono (by decide)) rfl (bK fun _ _ _ h=>h) (aE (aM (bL (bM rfl) a6 (aC (pv 0)) (aA (gX eY dA (aA aD))))) aY))))))))) (Fl.aK (Fl.a7 (aM j9))) Fl.bW)
   (Fl.aK (Fl.a7 (aM (oG rfl (bC (jF rfl) rfl T.b_all PyProof.Rows.boot_all (aG (aA (cE (e8 (eW (N:=["cell"]) (js:=[none]) rfl (.own .nil) (by rfl) (iS rfl (aC (pv 1)))) (by decide) (by decide) (is:=[0]) (fun cl C s0 H0 fp=>⟨_,(bS (i:=0) (show (["cell"]:List Str).Nodup by decide +kernel) rfl (Or.inl rfl)),(bT 0),Fl.c5,(bP (bF rfl rfl rfl (bE c_is_cell_text (hr.mono (by decide)) rfl j6 (aE (aZ (pv 0)) aY))))⟩)))) aO))))))))))
theorem jZ:FnScope ["part"] ["part"] (aH (top 29)):=by constructor<;>first|rfl|decide +kernel
theorem pA(T:Txt w K mg)(D:DefAt K mg "read_turn" (top 29) ["part"]):aN P w K mg base TH 1 "read_turn" ["part"] b1:=
 @bO P w K mg base TH "read_turn" (top 29) ["part"] ["part"] 0 eI D jZ (fun f cdv A outer s H F E hr=>by
  have nd:=jZ.nd
  exact (Fl.aK (Fl.a7 (aM (aA1 (Fl.dH (jL rfl hr.units) gL (aC (pv 0)) (aA (b7 (cI (v:=.ref T.g_STOPS.choose) rfl T.g_STOPS.choose_spec.1 rfl) fun F=>iW T.g_STOPS.choose_spec.2 (by exact fun F=>.cons (.str _) (.cons (.str _) (.nil))) F)) (by with_unfolding_all rfl)) (gK (pv 0)) (qK (bU m8 rfl T.b_int PyProof.Rows.boot_int (aG (aC (pv 0)) aO))))))))
theorem j0:FnScope ["part"] ["part"] (aH (top 30)):=by constructor<;>first|rfl|decide +kernel
theorem pB(T:Txt w K mg)(D:DefAt K mg "read_cell" (top 30) ["part"]):aN P w K mg base TH 1 "read_cell" ["part"] cU:=
 @bO P w K mg base TH "read_cell" (top 30) ["part"] ["part"] 0 f9 D j0 (fun f cdv A outer s H F E hr=>by
  have nd:=j0.nd
  exact (Fl.aK (Fl.a7 (aM (iG (bG (qK (bU m8 rfl T.b_int PyProof.Rows.boot_int (aG (aA (fS rfl (aC (pv 0)) nI (gY (aA (gX eY dA (aA aD)))))) aO))) (bG (t8 (fun F=>m5 (by decide)) (t7 T.g_ARROW_STEPS.choose_spec.2 m6 (o4 (by decide)) (cI (v:=.ref T.g_ARROW_STEPS.choose) rfl T.g_ARROW_STEPS.choose_spec.1 rfl) (bL (bM rfl) a6 (aC (pv 0)) (aA (gX eY dA (aA aD)))) (fun _ _=>rfl))) b8)))))))
theorem kL:FnScope ["parts","cells"] ["parts"] (aH (top 31)):=by constructor<;>first|rfl|decide +kernel
theorem pQ(T:Txt w K mg)(D:DefAt K mg "read_row" (top 31) ["parts"])(c_read_cell:aN P w K mg base TH 1 "read_cell" ["part"] cU)(c_read_turn:aN P w K mg base TH 1 "read_turn" ["part"] b1):aN P w K mg base TH 2 "read_row" ["parts"] d5:=
 @bO P w K mg base TH "read_row" (top 31) ["parts","cells"] ["parts"] 1 i7 D kL (fun f cdv A outer s H F E hr=>by
  have nd:=kL.nd
  exact (Fl.aI (Fl.aR (L2.aR (i:=1) nd rfl (Or.inl rfl) (aM (gO rfl (bU dI rfl T.b_tuple PyProof.Rows.boot_tuple (aG (aA (cE (e8 (eW (N:=["part"]) (js:=[none]) rfl (.own .nil) (by rfl) (iS rfl (aA (fS rfl (aC (pv 0)) (gY (aA aD)) (gY (aA (gX eY dA (aA aD)))))))) (by decide) (by decide) (is:=[0]) (fun cl C s0 H0 fp=>⟨_,(bS (i:=0) (show (["part"]:List Str).Nodup by decide +kernel) rfl (Or.inl rfl)),(bT 0),Fl.c5,(bP (bF rfl rfl rfl (bE c_read_cell (hr.mono (by decide)) rfl j6 (aE (aZ (pv 0)) aY))))⟩)))) aO))))))
   (Fl.aK (Fl.a7 (aM (iG (bG (bP (bF rfl rfl rfl (bE c_read_turn (hr.mono (by decide)) rfl (bK fun _ _ _ h=>h) (aE (aM (bL (bM rfl) a6 (aC (pv 0)) (aA aD))) aY)))) (bG (gK (pv 1)) (bG (bP (bF rfl rfl rfl (bE c_read_turn (hr.mono (by decide)) rfl (bK fun _ _ _ h=>h) (aE (aM (bL (bM rfl) a6 (aC (pv 0)) (aA (gX eY dA (aA aD))))) aY)))) b8)))))))))
end
end Mc
namespace Mc
open PySem L2 PyProof.Rows Fl
section
variable{P:Program}{w:World}{K:Frag}{mg:Str->Option Value}{base:Heap}{TH:Hp}
theorem hR:FnScope ["text","rows","at","word","parts"] ["text"] (aH (top 32)):=by constructor<;>first|rfl|decide +kernel
theorem lT(T:Txt w K mg)(D:DefAt K mg "read_machine" (top 32) ["text"])(c_is_row_text:aN P w K mg base TH 3 "is_row_text" ["parts"] cQ)(c_read_row:aN P w K mg base TH 2 "read_row" ["parts"] d5)(c_machine_of:aN P w K mg base TH 5 "machine_of" ["rows"] cJ):aN P w K mg base TH 6 "read_machine" ["text"] cC:=
 @bO P w K mg base TH "read_machine" (top 32) ["text","rows","at","word","parts"] ["text"] 5 eU D hR (fun f cdv A outer s H F E hr=>by
  have nd:=hR.nd
  exact (Fl.aI (eZ (L2.aR (i:=1) nd rfl (Or.inl rfl) (d9 b8)))
   (Fl.aI (Fl.cM (oH rfl (eM (bT 2) (eM (bT 3) mD)) rfl) (L2.cM (fO ⟨rfl,rfl⟩) rfl (qG rfl (L2.qF rfl T.b_enumerate (aG (cE (o6 (fF PySem.F.plainAttrs_str PySem.F.slot_str_split PySem.F.type_str_split o5 (aC (pv 0)) (aG (aA cN) aO)) (fun _=>rfl))) aO))) (nQ rfl (eJ (bS (i:=2) nd rfl (Or.inl rfl)) (eJ (bS (i:=3) nd rfl (Or.inl rfl)) l0)))
   (Fl.aI (eZ (L2.aR (i:=4) nd rfl (Or.inl rfl) (o6 (fF PySem.F.plainAttrs_str PySem.F.slot_str_split PySem.F.type_str_split o5 (aC (pv 3)) (aG (aA cN) aO)) (fun _=>rfl))))
   (Fl.aI (nH 4 (Fl.cH (Fl.cR (Fl.dQ (bP (bF rfl rfl rfl (bE c_is_row_text (hr.mono (by decide)) rfl (bK fun _ _ _ h=>h) (aE (aZ (pv 4)) aY)))))) (Fl.aK Fl.oQ) Fl.bW))
   (Fl.aK (nH 4 (jO rfl (L2.gH (fF PySem.F.plainAttrs_list PySem.F.slot_list_append PySem.F.type_list_append gA (pv 1) (aG (bP (bF rfl rfl rfl (bE c_read_row (hr.mono (by decide)) rfl (bK fun _ _ _ h=>h) (aE (aZ (pv 4)) aY)))) aO))))))))))
   (Fl.aK (nH 1 (Fl.a7 (bF rfl rfl rfl (bE c_machine_of (hr.mono (by decide)) rfl (bK fun _ _ _ h=>h) (aE (aZ (pv 1)) aY)))))))))
theorem j1:FnScope ["_law_script","_law_k"] ["_law_script","_law_k"] (aH (top 34)):=by constructor<;>first|rfl|decide +kernel
theorem pC(T:Txt w K mg)(D:DefAt K mg "_law_cell" (top 34) ["_law_script","_law_k"]):aN P w K mg base TH 1 "_law_cell" ["_law_script","_law_k"] aV:=
 @bO P w K mg base TH "_law_cell" (top 34) ["_law_script","_law_k"] ["_law_script","_law_k"] 0 dP D j1 (fun f cdv A outer s H F E hr=>by
  have nd:=j1.nd
  exact (Fl.aI (Fl.cH (Fl.dH oA kR (aC (pv 1)) (aA (cT rfl (bC b5 rfl T.b_len PySem.boot_len (aG (aC (pv 0)) aO)))) (cS _)) (Fl.aK (Fl.a7 (aM (bL (bM rfl) a6 (aC (pv 0)) (aC (pv 1)))))) Fl.bW)
   (Fl.aK (Fl.a7 (aM aD)))))
theorem jA:FnScope ["_law_script","_law_few","_law_many","_law_own","_law_numbers","_law_k","_law_cell_here"] ["_law_script","_law_few"] (aH (top 35)):=by constructor<;>first|rfl|decide +kernel
theorem nC(T:Txt w K mg)(D:DefAt K mg "_law_mixed" (top 35) ["_law_script","_law_few"])(c__law_cell:aN P w K mg base TH 1 "_law_cell" ["_law_script","_law_k"] aV):aN P w K mg base TH 2 "_law_mixed" ["_law_script","_law_few"] c8:=
 @bO P w K mg base TH "_law_mixed" (top 35) ["_law_script","_law_few","_law_many","_law_own","_law_numbers","_law_k","_law_cell_here"] ["_law_script","_law_few"] 1 gU D jA (fun f cdv A outer s H F E hr=>by
  have nd:=jA.nd
  exact (Fl.aI (Fl.aR (L2.aR (i:=2) nd rfl (Or.inl rfl) (aM (oP (G:=mH) (bC (sI rfl) rfl T.b_max PyProof.Rows.boot_max (aG (aC (pv 1)) (aG (aA (oP (G:=eQ) (bC (mQ rfl) rfl T.b_min PyProof.Rows.boot_min (aG (aA aD) (aG (aA (cT rfl (bC b5 rfl T.b_len PySem.boot_len (aG (aC (pv 0)) aO)))) aO))))) aO)))))))
   (Fl.aI (Fl.aR (L2.aR (i:=3) nd rfl (Or.inl rfl) (aM (gB (iE rfl hr.units) fQ (aA (a5 c6 cF (aA (bP (bF rfl rfl rfl (bE c__law_cell (hr.mono (by decide)) rfl (bK fun _ _ _ h=>h) (aE (aZ (pv 0)) (aE (aM aD) aY)))))) (aA aD))) (aA aD) (cS _)))))
   (Fl.aI (eZ (L2.aR (i:=4) nd rfl (Or.inl rfl) (d9 b8)))
   (Fl.aI (Fl.cM (bT 5) (L2.cM (fO ⟨rfl,rfl⟩) rfl (kA (gW rfl T.b_range (aG (aC (pv 2)) aO))) (bS (i:=5) nd rfl (Or.inl rfl))
   (Fl.aI (Fl.aR (L2.aR (i:=6) nd rfl (Or.inl rfl) (aM (a5 fP dR (aA (bP (bF rfl rfl rfl (bE c__law_cell (hr.mono (by decide)) rfl (bK fun _ _ _ h=>h) (aE (aZ (pv 0)) (aE (aZ (pv 5)) aY)))))) (aA (a5 (cP rfl) b9 (aA aD) (aA (p8 (bU mR rfl T.b_int PyProof.Rows.boot_int (aG (aA (gB (iE rfl hr.units) fQ (aC (pv 5)) (aA aD) (cS _))) aO))))))))))
   (Fl.aI (Fl.cH (PW.pt (Fl.iK (Fl.cR (Fl.dQ (gK (pv 3)))) (Fl.iB (Fl.dH tD oB (aC (pv 5)) (aA (cT rfl (bC b5 rfl T.b_len PySem.boot_len (aG (aC (pv 0)) aO)))) (cS _))))) (Fl.aI (Fl.aR (L2.aR (i:=6) nd rfl (Or.inl rfl) (aM (a5 c6 cF (aA (a5 eX c9 (aA (a5 (cP rfl) b9 (aA (a5 c6 cF (aC (pv 6)) (aA (a5 xY t6 (aA aD) (aA aD))))) (aA (a5 eX c9 (aA aD) (aC (pv 5)))))) (aA aD))) (aA aD)))))
   (Fl.aK (Fl.aR (L2.aR (i:=6) nd rfl (Or.inl rfl) (aM (a5 c6 cF (aA (a5 eX c9 (aC (pv 6)) (aA aD))) (aA aD))))))) Fl.bW)
   (Fl.aK (jO rfl (L2.gH (fF PySem.F.plainAttrs_list PySem.F.slot_list_append PySem.F.type_list_append gA (pv 4) (aG (gK (pv 6)) aO)))))))))
   (Fl.aK (nH 4 (Fl.a7 (aZ (pv 4))))))))))
theorem j2:FnScope ["_law_cell_here","_law_many","_law_at"] ["_law_cell_here","_law_many"] (aH (top 36)):=by constructor<;>first|rfl|decide +kernel
theorem pD(T:Txt w K mg)(D:DefAt K mg "_law_turn" (top 36) ["_law_cell_here","_law_many"]):aN P w K mg base TH 1 "_law_turn" ["_law_cell_here","_law_many"] b4:=
 @bO P w K mg base TH "_law_turn" (top 36) ["_law_cell_here","_law_many","_law_at"] ["_law_cell_here","_law_many"] 0 eE D j2 (fun f cdv A outer s H F E hr=>by
  have nd:=j2.nd
  exact (Fl.aI (Fl.aR (L2.aR (i:=2) nd rfl (Or.inl rfl) (aM (a5 c6 cF (aC (pv 0)) (aA (a5 (cP rfl) b9 (aC (pv 1)) (aA aD)))))))
   (Fl.aI (Fl.cH (Fl.dH oA kR (aC (pv 2)) (aC (pv 1)) (cS _)) (Fl.aK (Fl.a7 (aZ (pv 2)))) Fl.bW)
   (Fl.aK (Fl.a7 (aM (bL (bM rfl) a6 (aA (cE (d9 (bG cN (bG cN b8))))) (aA (a5 mB jK (aC (pv 2)) (aC (pv 1)))))))))))
theorem kM:FnScope ["_law_cell_here","_law_many","_law_signs","_law_left","_law_cells","_law_k","_law_part"] ["_law_cell_here","_law_many","_law_signs"] (aH (top 37)):=by constructor<;>first|rfl|decide +kernel
theorem pR(T:Txt w K mg)(D:DefAt K mg "_law_row" (top 37) ["_law_cell_here","_law_many","_law_signs"])(c__law_turn:aN P w K mg base TH 1 "_law_turn" ["_law_cell_here","_law_many"] b4):aN P w K mg base TH 2 "_law_row" ["_law_cell_here","_law_many","_law_signs"] dG:=
 @bO P w K mg base TH "_law_row" (top 37) ["_law_cell_here","_law_many","_law_signs","_law_left","_law_cells","_law_k","_law_part"] ["_law_cell_here","_law_many","_law_signs"] 1 i3 D kM (fun f cdv A outer s H F E hr=>by
  have nd:=kM.nd
  exact (Fl.aI (Fl.aR (L2.aR (i:=3) nd rfl (Or.inl rfl) (bF rfl rfl rfl (bE c__law_turn (hr.mono (by decide)) rfl (bK fun _ _ _ h=>h) (aE (aZ (pv 0)) (aE (aZ (pv 1)) aY))))))
   (Fl.aI (Fl.aR (L2.aR (i:=0) nd rfl (Or.inl rfl) (aM (a5 fP dR (aC (pv 0)) (aA (a5 (cP rfl) b9 (aC (pv 1)) (aA aD)))))))
   (Fl.aI (eZ (L2.aR (i:=4) nd rfl (Or.inl rfl) (d9 b8)))
   (Fl.aI (Fl.cM (bT 5) (L2.cM (fO ⟨rfl,rfl⟩) rfl (kA (gW rfl T.b_range (aG (aC (pv 2)) aO))) (bS (i:=5) nd rfl (Or.inl rfl))
   (Fl.aI (Fl.aR (L2.aR (i:=6) nd rfl (Or.inl rfl) (aM (a5 c6 cF (aC (pv 0)) (aA (a5 eX c9 (aA aD) (aC (pv 1))))))))
   (Fl.aI (Fl.aR (L2.aR (i:=0) nd rfl (Or.inl rfl) (aM (a5 fP dR (aC (pv 0)) (aA (a5 eX c9 (aA aD) (aC (pv 1))))))))
   (Fl.aK (jO rfl (L2.gH (fF PySem.F.plainAttrs_list PySem.F.slot_list_append PySem.F.type_list_append gA (pv 4) (aG (iG (bG (a5 fP dR (aC (pv 6)) (aA aD)) (bG (a5 mB jK (aA aD) (aA (a5 eX c9 (aA aD) (aA (a5 c6 cF (aC (pv 6)) (aA aD)))))) b8))) aO)))))))))
   (Fl.aK (Fl.a7 (aM (iG (bG (gK (pv 3)) (bG (gO rfl (bU dI rfl T.b_tuple PyProof.Rows.boot_tuple (aG (aC (pv 4)) aO))) (bG (bP (bF rfl rfl rfl (bE c__law_turn (hr.mono (by decide)) rfl (bK fun _ _ _ h=>h) (aE (aZ (pv 0)) (aE (aZ (pv 1)) aY))))) b8))))))))))))
theorem hU:FnScope ["_law_cells","_law_many","_law_signs","_law_rows","_law_k","_law_cell_here"] ["_law_cells","_law_many","_law_signs"] (aH (top 38)):=by constructor<;>first|rfl|decide +kernel
theorem lU(T:Txt w K mg)(D:DefAt K mg "_law_machine" (top 38) ["_law_cells","_law_many","_law_signs"])(c__law_row:aN P w K mg base TH 2 "_law_row" ["_law_cell_here","_law_many","_law_signs"] dG):aN P w K mg base TH 3 "_law_machine" ["_law_cells","_law_many","_law_signs"] b3:=
 @bO P w K mg base TH "_law_machine" (top 38) ["_law_cells","_law_many","_law_signs","_law_rows","_law_k","_law_cell_here"] ["_law_cells","_law_many","_law_signs"] 2 dX D hU (fun f cdv A outer s H F E hr=>by
  have nd:=hU.nd
  exact (Fl.aI (eZ (L2.aR (i:=3) nd rfl (Or.inl rfl) (d9 b8)))
   (Fl.aI (Fl.cM (bT 4) (L2.cM (fO ⟨rfl,rfl⟩) rfl (kA (gW rfl T.b_range (aG (aC (pv 1)) aO))) (bS (i:=4) nd rfl (Or.inl rfl))
   (Fl.aI (Fl.aR (L2.aR (i:=5) nd rfl (Or.inl rfl) (aM (a5 eX c9 (aA aD) (aA (a5 (cP rfl) b9 (aC (pv 4)) (aA aD)))))))
   (Fl.aI (Fl.cH (Fl.dH zE vM (aA (cT rfl (bC b5 rfl T.b_len PySem.boot_len (aG (aC (pv 0)) aO)))) (aA aD) (cS _)) (Fl.aK (Fl.aR (L2.aR (i:=5) nd rfl (Or.inl rfl) (aM (a5 (cP rfl) b9 (aA (bL (bM rfl) a6 (aC (pv 0)) (aA (oP (G:=eQ) (bC (mQ rfl) rfl T.b_min PyProof.Rows.boot_min (aG (aC (pv 4)) (aG (aA (a5 mB jK (aA (cT rfl (bC b5 rfl T.b_len PySem.boot_len (aG (aC (pv 0)) aO)))) (aA aD))) aO))))))) (aA (a5 eX c9 (aC (pv 5)) (aA (p8 (bU mR rfl T.b_int PyProof.Rows.boot_int (aG (aA (gB tD oB (aC (pv 4)) (aA (cT rfl (bC b5 rfl T.b_len PySem.boot_len (aG (aC (pv 0)) aO)))) (cS _))) aO))))))))))) Fl.bW)
   (Fl.aK (jO rfl (L2.gH (fF PySem.F.plainAttrs_list PySem.F.slot_list_append PySem.F.type_list_append gA (pv 3) (aG (bP (bF rfl rfl rfl (bE c__law_row (hr.mono (by decide)) rfl (bK fun _ _ _ h=>h) (aE (aZ (pv 5)) (aE (aZ (pv 1)) (aE (aZ (pv 2)) aY)))))) aO)))))))))
   (Fl.aK (Fl.a7 (aM (gO rfl (bU dI rfl T.b_tuple PyProof.Rows.boot_tuple (aG (aC (pv 3)) aO)))))))))
end
end Mc
namespace Mc
open PySem L2 PyProof.Rows Fl
section
variable{P:Program}{w:World}{K:Frag}{mg:Str->Option Value}{base:Heap}{TH:Hp}
theorem hV:FnScope ["_law_machine_here","_law_words","_law_left","_law_cells","_law_right","_law_parts"] ["_law_machine_here"] (aH (top 39)):=by constructor<;>first|rfl|decide +kernel
theorem lV(T:Txt w K mg)(D:DefAt K mg "_law_written" (top 39) ["_law_machine_here"]):aN P w K mg base TH 1 "_law_written" ["_law_machine_here"] cL:=
 @bO P w K mg base TH "_law_written" (top 39) ["_law_machine_here","_law_words","_law_left","_law_cells","_law_right","_law_parts"] ["_law_machine_here"] 0 fZ D hV (fun f cdv A outer s H F E hr=>by
  have nd:=hV.nd
  exact (Fl.aI (eZ (L2.aR (i:=1) nd rfl (Or.inl rfl) (d9 b8)))
   (Fl.aI (Fl.cM (oH rfl (eM (bT 2) (eM (bT 3) (eM (bT 4) mD))) rfl) (L2.cM (fO ⟨rfl,rfl⟩) rfl (aCK rfl (gK (pv 0))) (nQ rfl (eJ (bS (i:=2) nd rfl (Or.inl rfl)) (eJ (bS (i:=3) nd rfl (Or.inl rfl)) (eJ (bS (i:=4) nd rfl (Or.inl rfl)) l0))))
   (Fl.aI (eZ (L2.aR (i:=5) nd rfl (Or.inl rfl) (lK rfl (aA (cE (lK rfl (aA (cE (d9 (bG (gI (bU fB rfl T.b_str PyProof.Rows.boot_str (aG (aC (pv 2)) aO))) b8)))) (aA (cE (e8 (eW (N:=["_law_cell_here"]) (js:=[none]) rfl (.own .nil) (by rfl) (iS rfl (aC (pv 3)))) (by decide) (by decide) (is:=[0]) (fun cl C s0 H0 fp=>⟨_,(bS (i:=0) (show (["_law_cell_here"]:List Str).Nodup by decide +kernel) rfl (Or.inl rfl)),(bT 0),Fl.c5,(a5 (cP rfl) b9 (aA (gI (bU fB rfl T.b_str PyProof.Rows.boot_str (aG (aA (bL (bM rfl) a6 (aC (pv 0)) (aA aD))) aO)))) (aA (bL (bM rfl) a6 (aA cN) (aA (a5 fP dR (aA (a5 (cP rfl) b9 (aA (bL (bM rfl) a6 (aC (pv 0)) (aA aD))) (aA aD))) (aA aD))))))⟩))))))) (aA (cE (d9 (bG (gI (bU fB rfl T.b_str PyProof.Rows.boot_str (aG (aC (pv 4)) aO))) b8)))))))
   (Fl.aK (jO rfl (L2.gH (fF PySem.F.plainAttrs_list PySem.F.slot_list_append PySem.F.type_list_append gA (pv 1) (aG (kB rfl (fF PySem.F.plainAttrs_str PySem.F.slot_str_join PySem.F.type_str_join j8 (aA cN) (aG (aC (pv 5)) aO)) (by intro ρ x h;cases h;exact ⟨_,rfl⟩)) aO))))))))
   (Fl.aK (Fl.a7 (aM (kB rfl (fF PySem.F.plainAttrs_str PySem.F.slot_str_join PySem.F.type_str_join j8 (aA cN) (aG (aC (pv 1)) aO)) (by intro ρ x h;cases h;exact ⟨_,rfl⟩))))))))
theorem uI:FnScope ["_law_script","_law_many","_law_machine_here","_law_text","_law_turn_here","_law_found"] ["_law_script"] (aH (top 40)):=by constructor<;>first|rfl|decide +kernel
theorem zW(T:Txt w K mg){fL:Addr}{fdL:FuncData}(FL:Fun K "law" "law" (top 40) fL fdL)(c__law_mixed:aN P w K mg base TH 2 "_law_mixed" ["_law_script","_law_few"] c8)(c__law_cell:aN P w K mg base TH 1 "_law_cell" ["_law_script","_law_k"] aV)(c__law_machine:aN P w K mg base TH 3 "_law_machine" ["_law_cells","_law_many","_law_signs"] b3)(c__law_written:aN P w K mg base TH 1 "_law_written" ["_law_machine_here"] cL)(c_machine_text:aN P w K mg base TH 3 "machine_text" ["machine"] cK)(c_read_machine:aN P w K mg base TH 6 "read_machine" ["text"] cC):FnOk P w K mg base (CXe P w) 7 fL fdL ["_law_script"] (spF (gOf P w K mg base TH) K mg 1 nM):=
 @zK P w K mg base TH "law" (top 40) ["_law_script","_law_many","_law_machine_here","_law_text","_law_turn_here","_law_found"] ["_law_script"] 6 fL fdL rT FL uI (fun cdv A outer s H F E hr=>by
  have nd:=uI.nd
  exact (Fl.aI (Fl.aR (L2.aR (i:=0) nd rfl (Or.inl rfl) (bF rfl rfl rfl (bE c__law_mixed (hr.mono (by decide)) rfl (bK fun _ _ _ h=>h) (aE (aZ (pv 0)) (aE (aM aD) aY))))))
   (Fl.aI (Fl.aR (L2.aR (i:=1) nd rfl (Or.inl rfl) (aM (a5 (cP rfl) b9 (aA aD) (aA (a5 c6 cF (aA (a5 fP dR (aA (bP (bF rfl rfl rfl (bE c__law_cell (hr.mono (by decide)) rfl (bK fun _ _ _ h=>h) (aE (aZ (pv 0)) (aE (aM aD) aY)))))) (aA aD))) (aA aD)))))))
   (Fl.aI (Fl.cH (Fl.dH (iE rfl hr.units) fQ (aA (a5 c6 cF (aA (bP (bF rfl rfl rfl (bE c__law_cell (hr.mono (by decide)) rfl (bK fun _ _ _ h=>h) (aE (aZ (pv 0)) (aE (aM aD) aY)))))) (aA aD))) (aA aD) (cS _)) (Fl.aK (Fl.aR (L2.aR (i:=1) nd rfl (Or.inl rfl) (aM (a5 (cP rfl) b9 (aA aD) (aA (a5 c6 cF (aA (a5 fP dR (aA (bP (bF rfl rfl rfl (bE c__law_cell (hr.mono (by decide)) rfl (bK fun _ _ _ h=>h) (aE (aZ (pv 0)) (aE (aM aD) aY)))))) (aA aD))) (aA aD)))))))) Fl.bW)
   (Fl.aI (Fl.aR (L2.aR (i:=2) nd rfl (Or.inl rfl) (bF rfl rfl rfl (bE c__law_machine (hr.mono (by decide)) rfl (bK fun _ _ _ h=>h) (aE (aM (fS rfl (aC (pv 0)) (gY (aA aD)) nI)) (aE (aZ (pv 1)) (aE (aM (a5 (cP rfl) b9 (aA aD) (aA (a5 c6 cF (aA (bP (bF rfl rfl rfl (bE c__law_cell (hr.mono (by decide)) rfl (bK fun _ _ _ h=>h) (aE (aZ (pv 0)) (aE (aM aD) aY)))))) (aA aD))))) aY)))))))
   (Fl.aI (Fl.aR (L2.aR (i:=3) nd rfl (Or.inl rfl) (bF rfl rfl rfl (bE c__law_written (hr.mono (by decide)) rfl (bK fun _ _ _ h=>h) (aE (aZ (pv 2)) aY)))))
   (Fl.aI (Fl.cM (bT 4) (L2.cM (fO ⟨rfl,rfl⟩) rfl (kA (gW rfl T.b_range (aG (aA aD) aO))) (bS (i:=4) nd rfl (Or.inl rfl))
   (Fl.aI (Fl.aR (L2.aR (i:=5) nd rfl (Or.inl rfl) (bF rfl rfl rfl (bE c_machine_text (hr.mono (by decide)) rfl (bK fun _ _ _ h=>h) (aE (aZ (pv 2)) aY)))))
   (Fl.aK (Fl.cH (PW.pt (Fl.iK (Fl.cR (Fl.dQ (oM (bC (kS rfl (xQ _)) rfl T.b_isinstance PyProof.Rows.boot_isinstance (aG (aC (pv 5)) (aG (lZ (v:=.ty "str") rfl T.b_str PyProof.Rows.boot_str rfl) aO)))))) (Fl.iK (Fl.dH (tE rfl hr.units) oC (aC (pv 5)) (aC (pv 3)) (cS _)) (Fl.iB (Fl.dH (tE rfl hr.units) oC (aA (bP (bF rfl rfl rfl (bE c_read_machine (hr.mono (by decide)) rfl (bK fun _ _ _ h=>h) (aE (aZ (pv 3)) aY))))) (aC (pv 2)) (cS _)))))) (Fl.aK (Fl.a7 (aM j9))) Fl.bW)))))
   (Fl.aK (Fl.a7 (aM j9))))))))))
end
end Mc
namespace Mc
open PySem L2 PyProof.Rows Fl
theorem kC{P:Nat->Prop}(h0:P 0)(h1:P 1)(h2:P 2)(h3:P 3)(h4:P 4)(h5:P 5)(h6:P 6)(h7:P 7)(h8:P 8)(h9:P 9)(h10:P 10)(h11:P 11)(h12:P 12)(h13:P 13)(h14:P 14)(h15:P 15)(h16:P 16)(h17:P 17)(h18:P 18)(h19:P 19)(h20:P 20)(h21:P 21)(h22:P 22)(h23:P 23)(h24:P 24)(h25:P 25)(h26:P 26)(h27:P 27)(h28:P 28)(h29:P 29)(h30:P 30)(h31:P 31)(h32:P 32)(h33:P 33)(h34:P 34)(h35:P 35)(h36:P 36)(h37:P 37)(h38:P 38)(h39:P 39)(h40:P 40)(h41:P 41)(h42:P 42)(h43:P 43)(h44:P 44)(h45:P 45)(h46:P 46)(h47:P 47)(h48:P 48)(h49:P 49)(h50:P 50)(h51:P 51)(h52:P 52)(h53:P 53)(h54:P 54)(h55:P 55)(h56:P 56)(h57:P 57)(h58:P 58)(h59:P 59):∀ i,i < 60->P i
 | 0,_=>h0
 | 1,_=>h1
 | 2,_=>h2
 | 3,_=>h3
 | 4,_=>h4
 | 5,_=>h5
 | 6,_=>h6
 | 7,_=>h7
 | 8,_=>h8
 | 9,_=>h9
 | 10,_=>h10
 | 11,_=>h11
 | 12,_=>h12
 | 13,_=>h13
 | 14,_=>h14
 | 15,_=>h15
 | 16,_=>h16
 | 17,_=>h17
 | 18,_=>h18
 | 19,_=>h19
 | 20,_=>h20
 | 21,_=>h21
 | 22,_=>h22
 | 23,_=>h23
 | 24,_=>h24
 | 25,_=>h25
 | 26,_=>h26
 | 27,_=>h27
 | 28,_=>h28
 | 29,_=>h29
 | 30,_=>h30
 | 31,_=>h31
 | 32,_=>h32
 | 33,_=>h33
 | 34,_=>h34
 | 35,_=>h35
 | 36,_=>h36
 | 37,_=>h37
 | 38,_=>h38
 | 39,_=>h39
 | 40,_=>h40
 | 41,_=>h41
 | 42,_=>h42
 | 43,_=>h43
 | 44,_=>h44
 | 45,_=>h45
 | 46,_=>h46
 | 47,_=>h47
 | 48,_=>h48
 | 49,_=>h49
 | 50,_=>h50
 | 51,_=>h51
 | 52,_=>h52
 | 53,_=>h53
 | 54,_=>h54
 | 55,_=>h55
 | 56,_=>h56
 | 57,_=>h57
 | 58,_=>h58
 | 59,_=>h59
 | n+60,h=>absurd h (by omega)
def num(i:Nat):Str:=Str.ofString (toString (i:Int))
theorem qL:∀ i,i < 60->dIntS (.str (num i))=.ok (.int (i:Int)):=kC (by kernel_rfl) (by kernel_rfl) (by kernel_rfl) (by kernel_rfl) (by kernel_rfl) (by kernel_rfl) (by kernel_rfl) (by kernel_rfl) (by kernel_rfl) (by kernel_rfl) (by kernel_rfl) (by kernel_rfl) (by kernel_rfl) (by kernel_rfl) (by kernel_rfl) (by kernel_rfl) (by kernel_rfl) (by kernel_rfl) (by kernel_rfl) (by kernel_rfl) (by kernel_rfl) (by kernel_rfl) (by kernel_rfl) (by kernel_rfl) (by kernel_rfl) (by kernel_rfl) (by kernel_rfl) (by kernel_rfl) (by kernel_rfl) (by kernel_rfl) (by kernel_rfl) (by kernel_rfl) (by kernel_rfl) (by kernel_rfl) (by kernel_rfl) (by kernel_rfl) (by kernel_rfl) (by kernel_rfl) (by kernel_rfl) (by kernel_rfl) (by kernel_rfl) (by kernel_rfl) (by kernel_rfl) (by kernel_rfl) (by kernel_rfl) (by kernel_rfl) (by kernel_rfl) (by kernel_rfl) (by kernel_rfl) (by kernel_rfl) (by kernel_rfl) (by kernel_rfl) (by kernel_rfl) (by kernel_rfl) (by kernel_rfl) (by kernel_rfl) (by kernel_rfl) (by kernel_rfl) (by kernel_rfl) (by kernel_rfl)
theorem qM:∀ i,i < 60->dL [.d (.str (num i)),.d (.int 2)]=.ok (.d (.bool true)):=kC (by kernel_rfl) (by kernel_rfl) (by kernel_rfl) (by kernel_rfl) (by kernel_rfl) (by kernel_rfl) (by kernel_rfl) (by kernel_rfl) (by kernel_rfl) (by kernel_rfl) (by kernel_rfl) (by kernel_rfl) (by kernel_rfl) (by kernel_rfl) (by kernel_rfl) (by kernel_rfl) (by kernel_rfl) (by kernel_rfl) (by kernel_rfl) (by kernel_rfl) (by kernel_rfl) (by kernel_rfl) (by kernel_rfl) (by kernel_rfl) (by kernel_rfl) (by kernel_rfl) (by kernel_rfl) (by kernel_rfl) (by kernel_rfl) (by kernel_rfl) (by kernel_rfl) (by kernel_rfl) (by kernel_rfl) (by kernel_rfl) (by kernel_rfl) (by kernel_rfl) (by kernel_rfl) (by kernel_rfl) (by kernel_rfl) (by kernel_rfl) (by kernel_rfl) (by kernel_rfl) (by kernel_rfl) (by kernel_rfl) (by kernel_rfl) (by kernel_rfl) (by kernel_rfl) (by kernel_rfl) (by kernel_rfl) (by kernel_rfl) (by kernel_rfl) (by kernel_rfl) (by kernel_rfl) (by kernel_rfl) (by kernel_rfl) (by kernel_rfl) (by kernel_rfl) (by kernel_rfl) (by kernel_rfl) (by kernel_rfl)
theorem uJ:∀ i,i < 60->dIn (.str (num i)) (.tuple [.str "by",.str "out"])=.ok (.bool false):=kC (by kernel_rfl) (by kernel_rfl) (by kernel_rfl) (by kernel_rfl) (by kernel_rfl) (by kernel_rfl) (by kernel_rfl) (by kernel_rfl) (by kernel_rfl) (by kernel_rfl) (by kernel_rfl) (by kernel_rfl) (by kernel_rfl) (by kernel_rfl) (by kernel_rfl) (by kernel_rfl) (by kernel_rfl) (by kernel_rfl) (by kernel_rfl) (by kernel_rfl) (by kernel_rfl) (by kernel_rfl) (by kernel_rfl) (by kernel_rfl) (by kernel_rfl) (by kernel_rfl) (by kernel_rfl) (by kernel_rfl) (by kernel_rfl) (by kernel_rfl) (by kernel_rfl) (by kernel_rfl) (by kernel_rfl) (by kernel_rfl) (by kernel_rfl) (by kernel_rfl) (by kernel_rfl) (by kernel_rfl) (by kernel_rfl) (by kernel_rfl) (by kernel_rfl) (by kernel_rfl) (by kernel_rfl) (by kernel_rfl) (by kernel_rfl) (by kernel_rfl) (by kernel_rfl) (by kernel_rfl) (by kernel_rfl) (by kernel_rfl) (by kernel_rfl) (by kernel_rfl) (by kernel_rfl) (by kernel_rfl) (by kernel_rfl) (by kernel_rfl) (by kernel_rfl) (by kernel_rfl) (by kernel_rfl) (by kernel_rfl)
theorem qN:∀ i,i < 60->(num i).cps.toList.all (fun c=>decide (48<=c/\c<=57))=true/\(num i).length<=2:=by decide +kernel
def arw(s:Int):Str:=if s=1 then ">" else "<"
def ctS(c:Int×Int):Str:=num c.1.toNat++arw c.2
theorem zX:∀ i,i < 60->dSl (.str (num i++">")) none (some (-1))=.ok (.str (num i))/\dSl (.str (num i++"<")) none (some (-1))=.ok (.str (num i)):=kC ⟨(by kernel_rfl),(by kernel_rfl)⟩ ⟨(by kernel_rfl),(by kernel_rfl)⟩ ⟨(by kernel_rfl),(by kernel_rfl)⟩ ⟨(by kernel_rfl),(by kernel_rfl)⟩ ⟨(by kernel_rfl),(by kernel_rfl)⟩ ⟨(by kernel_rfl),(by kernel_rfl)⟩ ⟨(by kernel_rfl),(by kernel_rfl)⟩ ⟨(by kernel_rfl),(by kernel_rfl)⟩ ⟨(by kernel_rfl),(by kernel_rfl)⟩ ⟨(by kernel_rfl),(by kernel_rfl)⟩ ⟨(by kernel_rfl),(by kernel_rfl)⟩ ⟨(by kernel_rfl),(by kernel_rfl)⟩ ⟨(by kernel_rfl),(by kernel_rfl)⟩ ⟨(by kernel_rfl),(by kernel_rfl)⟩ ⟨(by kernel_rfl),(by kernel_rfl)⟩ ⟨(by kernel_rfl),(by kernel_rfl)⟩ ⟨(by kernel_rfl),(by kernel_rfl)⟩ ⟨(by kernel_rfl),(by kernel_rfl)⟩ ⟨(by kernel_rfl),(by kernel_rfl)⟩ ⟨(by kernel_rfl),(by kernel_rfl)⟩ ⟨(by kernel_rfl),(by kernel_rfl)⟩ ⟨(by kernel_rfl),(by kernel_rfl)⟩ ⟨(by kernel_rfl),(by kernel_rfl)⟩ ⟨(by kernel_rfl),(by kernel_rfl)⟩ ⟨(by kernel_rfl),(by kernel_rfl)⟩ ⟨(by kernel_rfl),(by kernel_rfl)⟩ ⟨(by kernel_rfl),(by kernel_rfl)⟩ ⟨(by kernel_rfl),(by kernel_rfl)⟩ ⟨(by kernel_rfl),(by kernel_rfl)⟩ ⟨(by kernel_rfl),(by kernel_rfl)⟩ ⟨(by kernel_rfl),(by kernel_rfl)⟩ ⟨(by kernel_rfl),(by kernel_rfl)⟩ ⟨(by kernel_rfl),(by kernel_rfl)⟩ ⟨(by kernel_rfl),(by kernel_rfl)⟩ ⟨(by kernel_rfl),(by kernel_rfl)⟩ ⟨(by kernel_rfl),(by kernel_rfl)⟩ ⟨(by kernel_rfl),(by kernel_rfl)⟩ ⟨(by kernel_rfl),(by kernel_rfl)⟩ ⟨(by kernel_rfl),(by kernel_rfl)⟩ ⟨(by kernel_rfl),(by kernel_rfl)⟩ ⟨(by kernel_rfl),(by kernel_rfl)⟩ ⟨(by kernel_rfl),(by kernel_rfl)⟩ ⟨(by kernel_rfl),(by kernel_rfl)⟩ ⟨(by kernel_rfl),(by kernel_rfl)⟩ ⟨(by kernel_rfl),(by kernel_rfl)⟩ ⟨(by kernel_rfl),(by kernel_rfl)⟩ ⟨(by kernel_rfl),(by kernel_rfl)⟩ ⟨(by kernel_rfl),(by kernel_rfl)⟩ ⟨(by kernel_rfl),(by kernel_rfl)⟩ ⟨(by kernel_rfl),(by kernel_rfl)⟩ ⟨(by kernel_rfl),(by kernel_rfl)⟩ ⟨(by kernel_rfl),(by kernel_rfl)⟩ ⟨(by kernel_rfl),(by kernel_rfl)⟩ ⟨(by kernel_rfl),(by kernel_rfl)⟩ ⟨(by kernel_rfl),(by kernel_rfl)⟩ ⟨(by kernel_rfl),(by kernel_rfl)⟩ ⟨(by kernel_rfl),(by kernel_rfl)⟩ ⟨(by kernel_rfl),(by kernel_rfl)⟩ ⟨(by kernel_rfl),(by kernel_rfl)⟩ ⟨(by kernel_rfl),(by kernel_rfl)⟩
theorem zY:∀ i,i < 60->dSl (.str (num i++">")) (some (-1)) none=.ok (.str ">")/\dSl (.str (num i++"<")) (some (-1)) none=.ok (.str "<"):=kC ⟨(by kernel_rfl),(by kernel_rfl)⟩ ⟨(by kernel_rfl),(by kernel_rfl)⟩ ⟨(by kernel_rfl),(by kernel_rfl)⟩ ⟨(by kernel_rfl),(by kernel_rfl)⟩ ⟨(by kernel_rfl),(by kernel_rfl)⟩ ⟨(by kernel_rfl),(by kernel_rfl)⟩ ⟨(by kernel_rfl),(by kernel_rfl)⟩ ⟨(by kernel_rfl),(by kernel_rfl)⟩ ⟨(by kernel_rfl),(by kernel_rfl)⟩ ⟨(by kernel_rfl),(by kernel_rfl)⟩ ⟨(by kernel_rfl),(by kernel_rfl)⟩ ⟨(by kernel_rfl),(by kernel_rfl)⟩ ⟨(by kernel_rfl),(by kernel_rfl)⟩ ⟨(by kernel_rfl),(by kernel_rfl)⟩ ⟨(by kernel_rfl),(by kernel_rfl)⟩ ⟨(by kernel_rfl),(by kernel_rfl)⟩ ⟨(by kernel_rfl),(by kernel_rfl)⟩ ⟨(by kernel_rfl),(by kernel_rfl)⟩ ⟨(by kernel_rfl),(by kernel_rfl)⟩ ⟨(by kernel_rfl),(by kernel_rfl)⟩ ⟨(by kernel_rfl),(by kernel_rfl)⟩ ⟨(by kernel_rfl),(by kernel_rfl)⟩ ⟨(by kernel_rfl),(by kernel_rfl)⟩ ⟨(by kernel_rfl),(by kernel_rfl)⟩ ⟨(by kernel_rfl),(by kernel_rfl)⟩ ⟨(by kernel_rfl),(by kernel_rfl)⟩ ⟨(by kernel_rfl),(by kernel_rfl)⟩ ⟨(by kernel_rfl),(by kernel_rfl)⟩ ⟨(by kernel_rfl),(by kernel_rfl)⟩ ⟨(by kernel_rfl),(by kernel_rfl)⟩ ⟨(by kernel_rfl),(by kernel_rfl)⟩ ⟨(by kernel_rfl),(by kernel_rfl)⟩ ⟨(by kernel_rfl),(by kernel_rfl)⟩ ⟨(by kernel_rfl),(by kernel_rfl)⟩ ⟨(by kernel_rfl),(by kernel_rfl)⟩ ⟨(by kernel_rfl),(by kernel_rfl)⟩ ⟨(by kernel_rfl),(by kernel_rfl)⟩ ⟨(by kernel_rfl),(by kernel_rfl)⟩ ⟨(by kernel_rfl),(by kernel_rfl)⟩ ⟨(by kernel_rfl),(by kernel_rfl)⟩ ⟨(by kernel_rfl),(by kernel_rfl)⟩ ⟨(by kernel_rfl),(by kernel_rfl)⟩ ⟨(by kernel_rfl),(by kernel_rfl)⟩ ⟨(by kernel_rfl),(by kernel_rfl)⟩ ⟨(by kernel_rfl),(by kernel_rfl)⟩ ⟨(by kernel_rfl),(by kernel_rfl)⟩ ⟨(by kernel_rfl),(by kernel_rfl)⟩ ⟨(by kernel_rfl),(by kernel_rfl)⟩ ⟨(by kernel_rfl),(by kernel_rfl)⟩ ⟨(by kernel_rfl),(by kernel_rfl)⟩ ⟨(by kernel_rfl),(by kernel_rfl)⟩ ⟨(by kernel_rfl),(by kernel_rfl)⟩ ⟨(by kernel_rfl),(by kernel_rfl)⟩ ⟨(by kernel_rfl),(by kernel_rfl)⟩ ⟨(by kernel_rfl),(by kernel_rfl)⟩ ⟨(by kernel_rfl),(by kernel_rfl)⟩ ⟨(by kernel_rfl),(by kernel_rfl)⟩ ⟨(by kernel_rfl),(by kernel_rfl)⟩ ⟨(by kernel_rfl),(by kernel_rfl)⟩ ⟨(by kernel_rfl),(by kernel_rfl)⟩
theorem zZ:∀ i,i < 60->dIx (.str (num i++">")) (.int (-1))=.ok (.str ">")/\dIx (.str (num i++"<")) (.int (-1))=.ok (.str "<"):=kC ⟨(by kernel_rfl),(by kernel_rfl)⟩ ⟨(by kernel_rfl),(by kernel_rfl)⟩ ⟨(by kernel_rfl),(by kernel_rfl)⟩ ⟨(by kernel_rfl),(by kernel_rfl)⟩ ⟨(by kernel_rfl),(by kernel_rfl)⟩ ⟨(by kernel_rfl),(by kernel_rfl)⟩ ⟨(by kernel_rfl),(by kernel_rfl)⟩ ⟨(by kernel_rfl),(by kernel_rfl)⟩ ⟨(by kernel_rfl),(by kernel_rfl)⟩ ⟨(by kernel_rfl),(by kernel_rfl)⟩ ⟨(by kernel_rfl),(by kernel_rfl)⟩ ⟨(by kernel_rfl),(by kernel_rfl)⟩ ⟨(by kernel_rfl),(by kernel_rfl)⟩ ⟨(by kernel_rfl),(by kernel_rfl)⟩ ⟨(by kernel_rfl),(by kernel_rfl)⟩ ⟨(by kernel_rfl),(by kernel_rfl)⟩ ⟨(by kernel_rfl),(by kernel_rfl)⟩ ⟨(by kernel_rfl),(by kernel_rfl)⟩ ⟨(by kernel_rfl),(by kernel_rfl)⟩ ⟨(by kernel_rfl),(by kernel_rfl)⟩ ⟨(by kernel_rfl),(by kernel_rfl)⟩ ⟨(by kernel_rfl),(by kernel_rfl)⟩ ⟨(by kernel_rfl),(by kernel_rfl)⟩ ⟨(by kernel_rfl),(by kernel_rfl)⟩ ⟨(by kernel_rfl),(by kernel_rfl)⟩ ⟨(by kernel_rfl),(by kernel_rfl)⟩ ⟨(by kernel_rfl),(by kernel_rfl)⟩ ⟨(by kernel_rfl),(by kernel_rfl)⟩ ⟨(by kernel_rfl),(by kernel_rfl)⟩ ⟨(by kernel_rfl),(by kernel_rfl)⟩ ⟨(by kernel_rfl),(by kernel_rfl)⟩ ⟨(by kernel_rfl),(by kernel_rfl)⟩ ⟨(by kernel_rfl),(by kernel_rfl)⟩ ⟨(by kernel_rfl),(by kernel_rfl)⟩ ⟨(by kernel_rfl),(by kernel_rfl)⟩ ⟨(by kernel_rfl),(by kernel_rfl)⟩ ⟨(by kernel_rfl),(by kernel_rfl)⟩ ⟨(by kernel_rfl),(by kernel_rfl)⟩ ⟨(by kernel_rfl),(by kernel_rfl)⟩ ⟨(by kernel_rfl),(by kernel_rfl)⟩ ⟨(by kernel_rfl),(by kernel_rfl)⟩ ⟨(by kernel_rfl),(by kernel_rfl)⟩ ⟨(by kernel_rfl),(by kernel_rfl)⟩ ⟨(by kernel_rfl),(by kernel_rfl)⟩ ⟨(by kernel_rfl),(by kernel_rfl)⟩ ⟨(by kernel_rfl),(by kernel_rfl)⟩ ⟨(by kernel_rfl),(by kernel_rfl)⟩ ⟨(by kernel_rfl),(by kernel_rfl)⟩ ⟨(by kernel_rfl),(by kernel_rfl)⟩ ⟨(by kernel_rfl),(by kernel_rfl)⟩ ⟨(by kernel_rfl),(by kernel_rfl)⟩ ⟨(by kernel_rfl),(by kernel_rfl)⟩ ⟨(by kernel_rfl),(by kernel_rfl)⟩ ⟨(by kernel_rfl),(by kernel_rfl)⟩ ⟨(by kernel_rfl),(by kernel_rfl)⟩ ⟨(by kernel_rfl),(by kernel_rfl)⟩ ⟨(by kernel_rfl),(by kernel_rfl)⟩ ⟨(by kernel_rfl),(by kernel_rfl)⟩ ⟨(by kernel_rfl),(by kernel_rfl)⟩ ⟨(by kernel_rfl),(by kernel_rfl)⟩
end Mc
namespace Mc
open PySem L2 PyProof.Rows Fl
def jn(c:Nat):List (List Nat)->List Nat
 | []=>[]
 | [p]=>p
 | p::q::r=>p++c::jn c (q::r)
theorem kY(c:Nat):∀ ps:List Str,(Str.join ⟨#[c]⟩ ps).cps.toList=jn c (ps.map fun p=>p.cps.toList)
 | []=>rfl
 | [p]=>rfl
 | p::q::r=>by
  show (p++(⟨#[c]⟩:Str)++Str.join ⟨#[c]⟩ (q::r)).cps.toList=p.cps.toList++c::jn c ((q::r).map fun p=>p.cps.toList)
  rw[<-kY c (q::r)]
  show (p.cps ++ #[c]++(Str.join ⟨#[c]⟩ (q::r)).cps).toList=_
  simp
theorem qO{c:Nat}:∀ {p q x y:List Nat},c∉p->c∉q->p++c::x=q++c::y->p=q/\x=y
 | [],[],x,y,_,_,h=>⟨rfl,(List.cons.inj h).2⟩
 | [],b::q,x,y,_,hq,h=>absurd (by rw[(List.cons.inj h).1];exact List.mem_cons_self) hq
 | a::p,[],x,y,hp,_,h=>absurd (by rw[<-(List.cons.inj h).1];exact List.mem_cons_self) hp
 | a::p,b::q,x,y,hp,hq,h=>by
  obtain ⟨h1,h2⟩:=List.cons.inj h
  obtain ⟨e1,e2⟩:=qO (fun z=>hp (List.mem_cons_of_mem _ z)) (fun z=>hq (List.mem_cons_of_mem _ z)) h2
  exact ⟨by rw[h1,e1],e2⟩
theorem uK{c:Nat}:∀ {ps qs:List (List Nat)},ps≠[]->qs≠[]->(∀ p∈ps,c∉p)->(∀ q∈qs,c∉q)->jn c ps=jn c qs->ps=qs
 | [],_,h,_,_,_,_=>absurd rfl h
 | _,[],_,h,_,_,_=>absurd rfl h
 | [p],[q],_,_,_,_,h=>by rw[show p=q from h]
 | [p],q::q2::s,_,_,hp,_,h=>absurd (by rw[show p=q++c::jn c (q2::s) from h];simp) (hp p List.mem_cons_self)
 | p::p2::r,[q],_,_,_,hq,h=>absurd (by rw[show q=p++c::jn c (p2::r) from h.symm];simp) (hq q List.mem_cons_self)
 | p::p2::r,q::q2::s,_,_,hp,hq,h=>by
  obtain ⟨e1,e2⟩:=qO (hp p List.mem_cons_self) (hq q List.mem_cons_self) (show p++c::jn c (p2::r)=q++c::jn c (q2::s) from h)
  rw[e1,uK (by simp) (by simp) (fun x hx=>hp x (List.mem_cons_of_mem _ hx)) (fun x hx=>hq x (List.mem_cons_of_mem _ hx)) e2]
theorem i8(sep:Str)(ps:List Str):Txt.join sep ps=Str.join sep ps:=by unfold Txt.join;rw[StrLaws.glued_eq_join]
theorem rZ{x y:Str}(h:x.cps.toList=y.cps.toList):x=y:=by
 cases x;cases y
 congr 1
 exact Array.toList_inj.mp h
theorem qP{c:Nat}{ps:List Str}(hne:ps≠[])(hf:∀ p∈ps,c∉p.cps.toList):Txt.split (Txt.join ⟨#[c]⟩ ps) ⟨#[c]⟩=ps:=by
 rw[i8]
 have h1:=StrLaws.join_split (Str.join ⟨#[c]⟩ ps) ⟨#[c]⟩
 have h2:=StrLaws.split_free (Str.join ⟨#[c]⟩ ps) c
 have h3:=split_pos (Str.join ⟨#[c]⟩ ps) ⟨#[c]⟩
 generalize Txt.split (Str.join ⟨#[c]⟩ ps) ⟨#[c]⟩=qs at *
 have e:=congrArg (fun x:Str=>x.cps.toList) h1
 simp only[kY] at e
 have:=uK (c:=c) (by intro z;rw[List.map_eq_nil_iff] at z;rw[z] at h3;simp at h3) (by intro z;exact hne (List.map_eq_nil_iff.mp z)) (fun p hp=>by
  obtain ⟨q,hq,rfl⟩:=List.mem_map.mp hp
  exact h2 q hq) (fun p hp=>by
  obtain ⟨q,hq,rfl⟩:=List.mem_map.mp hp
  exact hf q hq) e
 have inj:∀ {a b:List Str},a.map (fun p:Str=>p.cps.toList)=b.map (fun p:Str=>p.cps.toList)->a=b:=fun {a}=>by
  induction a with
  | nil=>intro b h;rw[List.map_nil] at h;exact (List.map_eq_nil_iff.mp h.symm).symm
  | cons x t ih=>
   intro b h
   cases b with
   | nil=>simp at h
   | cons y s=>
    rw[List.map_cons,List.map_cons] at h
    obtain ⟨h1,h2⟩:=List.cons.inj h
    rw[rZ h1,ih h2]
 exact inj this
theorem join_mem{c d:Nat}{ps:List Str}(h:d∈(Txt.join ⟨#[c]⟩ ps).cps.toList):d=c\/∃ p∈ps,d∈p.cps.toList:=by
 rw[i8,kY] at h
 have:∀ l:List (List Nat),d∈jn c l->d=c\/∃ p∈l,d∈p:=by
  intro l
  induction l with
  | nil=>intro h;cases h
  | cons p t ih=>
   intro h
   cases t with
   | nil=>exact .inr ⟨p,List.mem_cons_self,h⟩
   | cons q r=>
    rcases List.mem_append.mp (show d∈p++c::jn c (q::r) from h) with z|z
    ·exact .inr ⟨p,List.mem_cons_self,z⟩
    ·rcases List.mem_cons.mp z with z|z
     ·exact .inl z
     ·rcases ih z with z|⟨x,hx,hd⟩
      · exact .inl z
      · exact .inr ⟨x, List.mem_cons_of_mem _ hx, hd⟩
 rcases this _ h with z|⟨x,hx,hd⟩
 ·exact .inl z
 ·obtain ⟨p,hp,rfl⟩:=List.mem_map.mp hx
  exact .inr ⟨p,hp,hd⟩
end Mc
namespace Mc
open PySem L2 PyProof.Rows Fl
def tnS:Tn->Str
 | .n i=>num i.toNat
 | .w x=>x
def Pc(x:Str):Prop:=(∀ d∈x.cps.toList,d≠44/\d≠32)/\x.length<=3
theorem lW{i:Nat}(h:i < 60):(∀ d∈(num i).cps.toList,d≠44/\d≠32)/\(num i).length<=2:=by
 obtain ⟨h1,h2⟩:=qN i h
 exact ⟨fun d hd=>by have:=of_decide_eq_true (List.all_eq_true.mp h1 d hd);omega,h2⟩
theorem wS{t:Tn}{n:Int}(h:t.good n)(hn:n<=60):Pc (tnS t):=by
 cases t with
 | n i=>
  have:=lW (i:=i.toNat) (by have:=h.1;have:=h.2;omega)
  exact ⟨this.1,by show (num i.toNat).length<=3;omega⟩
 | w x=>
  rcases h with rfl|rfl
  · exact (show Pc "by" from ⟨by decide, by decide⟩)
  · exact (show Pc "out" from ⟨by decide, by decide⟩)
theorem arw_cases{s:Int}(h:s=1\/s = -1):(s=1/\arw s=">")\/(s = -1/\arw s="<"):=by
 rcases h with rfl|rfl
 · exact .inl ⟨rfl, rfl⟩
 · exact .inr ⟨rfl, rfl⟩
theorem qQ(x y:Str):(x++y).cps.toList=x.cps.toList++y.cps.toList:=by show (x.cps++y.cps).toList=_;simp
theorem mM(x y:Str):(x++y).length=x.length+y.length:=by show (x.cps++y.cps).size=_;rw[Array.size_append];rfl
theorem aBJ{c:Int×Int}{n:Int}(h:eK n c)(hn:n<=60):Pc (ctS c):=by
 obtain ⟨h0,h1,h2⟩:=h
 obtain ⟨a1,a2⟩:=lW (i:=c.1.toNat) (by omega)
 unfold ctS Pc
 rw[qQ,mM]
 rcases arw_cases h2 with ⟨_,e⟩|⟨_,e⟩
 ·rw[e]
  refine ⟨fun d hd=>?_,by show _+1<=3;omega⟩
  rcases List.mem_append.mp hd with z|z
  ·exact a1 d z
  ·have:d∈[62]:=z
   rw[List.mem_singleton.mp this];decide
 ·rw[e]
  refine ⟨fun d hd=>?_,by show _+1<=3;omega⟩
  rcases List.mem_append.mp hd with z|z
  ·exact a1 d z
  ·have:d∈[60]:=z
   rw[List.mem_singleton.mp this];decide
theorem j3{t:Tn}{n:Int}(h:t.good n)(hn:n<=60):dStr t.d=.ok (.str (tnS t)):=by
 cases t with
 | n i=>
  obtain ⟨h0,h1⟩:=h
  show (if 0<=i/\i < 1000 then R.ok (PyData.str (Str.ofString (toString i))) else .bad)=_
  rw[if_pos (by omega)]
  show _=R.ok (PyData.str (Str.ofString (toString ((i.toNat:Nat):Int))))
  rw[Int.toNat_of_nonneg h0]
 | w x=>rfl
theorem x2{s:Int}(h:s=1\/s = -1):gS [(.int 1,.str ">"),(.int (-1),.str "<")] (.int s)=.ok (.str (arw s)):=by
 rcases h with rfl|rfl
 · simp [gS, iO, dS, arw]
 · simp [gS, iO, dS, arw]
theorem qR{i:Int}(h0:0<=i)(h1:i < 60):dStr (.int i)=.ok (.str (num i.toNat)):=j3 (t:=.n i) (n:=60) ⟨h0,h1⟩ (by decide)
theorem aBK{c:Int×Int}{n:Int}(h:eK n c)(hn:n<=60):dM [.d (aX c)]=.ok (.d (.str (ctS c))):=by
 obtain ⟨h0,h1,h2⟩:=h
 have e1':=qR h0 (by omega:c.1 < 60)
 have e2':=x2 h2
 have i0:dIx (aX c) (.int 0)=.ok (.int c.1):=rfl
 have i1:dIx (aX c) (.int 1)=.ok (.int c.2):=rfl
 have ha:bN (.str (num c.1.toNat)) (.str (arw c.2))=.ok (.str (ctS c)):=tU (by
  have:=(lW (i:=c.1.toNat) (by omega)).2
  have:(arw c.2).length=1:=by rcases arw_cases h2 with ⟨_,e⟩|⟨_,e⟩<;>rw[e]<;>rfl
  omega)
 unfold dM iA
 simp[i0,i1,e1',e2',ha]
def pts(r:Rw):List Str:=tnS r.l::(r.c.map ctS++[tnS r.r])
def b0(r:Rw):Str:=Txt.join "," (pts r)
def mtS(rs:List Rw):Str:=Txt.join " " (rs.map b0)
theorem pE:∀ l:List Str,iV (l.map PyData.str)=some l
 | []=>rfl
 | x::t=>by
  show (iV (t.map PyData.str)).map (x :: ·)=_
  rw[pE t];rfl
theorem lX{r:Rw}{n:Int}(h:r.good n)(hn:n<=60):∀ p∈pts r,Pc p:=fun p hp=>by
 rcases List.mem_cons.mp hp with rfl|hp
 ·exact wS h.1 hn
 ·rcases List.mem_append.mp hp with z|z
  ·obtain ⟨c,hc,rfl⟩:=List.mem_map.mp z
   exact aBJ (h.2.2 c hc) hn
  ·rw[List.mem_singleton.mp z];exact wS h.2.1 hn
theorem uL{α:Type}(f:α->Nat)(b:Nat):∀ l:List α,(∀ x∈l,f x<=b)->(l.map f).sum<=l.length * b
 | [],_=>by simp
 | x::t,h=>by
  have h1:=h x List.mem_cons_self
  have h2:=uL f b t fun y hy=>h y (List.mem_cons_of_mem _ hy)
  rw[List.map_cons,List.sum_cons,List.length_cons,Nat.succ_mul]
  omega
theorem join_ok{sep:Str}{l:List Str}{b:Nat}(hs:sep.length=1)(hl:l.length<=100)(hb:b<=1000)(h:∀ p∈l,p.length<=b):eH (.str sep) (.list (l.map .str))=.ok (.str (Txt.join sep l)):=by
 show (match iV (l.map PyData.str) with|some ys=>if (ys.map fun y:Str=>y.length).sum+ys.length * sep.length<=16777216 then R.ok (PyData.str (Txt.join sep ys)) else .bad|none=>.bad)=_
 rw[pE]
 have:=uL (fun p:Str=>p.length) b l h
 have:l.length * b<=100 * 1000:=Nat.mul_le_mul hl hb
 exact if_pos (by rw[hs];omega)
theorem qS{r:Rw}{sg:Nat}(h:r.c.length=sg):(pts r).length=sg+2:=by unfold pts;simp[h]
theorem pF{r:Rw}{n:Int}{sg:Nat}(h:r.good n)(hn:n<=60)(hc:r.c.length=sg)(h3:sg<=3):eH (.str ",") (.list ((pts r).map .str))=.ok (.str (b0 r)):=
 join_ok (b:=3) rfl (by rw[qS hc];omega) (by decide) fun p hp=>(lX h hn p hp).2
theorem z0(a b:PyData)(l:List PyData)(h:l.length<=1000):fV (.list [a]) (.list l)=.ok (a::l)/\fV (.list (a::l)) (.list [b])=.ok (a::(l++[b])):=⟨if_pos (by rw[cG];simp;omega),if_pos (by rw[cG];simp;omega)⟩
theorem mN(r:Rw):(pts r).map PyData.str=.str (tnS r.l)::((r.c.map fun c=>PyData.str (ctS c))++[.str (tnS r.r)]):=by
 unfold pts;rw[List.map_cons,List.map_append,List.map_map];rfl
theorem aBL{r:Rw}{n:Int}{sg:Nat}(h:r.good n)(hn:n<=60)(hc:r.c.length=sg)(h3:sg<=3):d3 [.d (aT r)]=.ok (.d (.str (b0 r))):=by
 have i0:dIx (aT r) (.int 0)=.ok r.l.d:=rfl
 have i1:dIx (aT r) (.int 1)=.ok (.tuple (r.c.map aX)):=rfl
 have i2:dIx (aT r) (.int 2)=.ok r.r.d:=rfl
 have s1:=j3 h.1 hn
 have s2:=j3 h.2.1 hn
 have hdi:a8 (.tuple (r.c.map aX))=.ok (r.c.map aX):=fW (by rw[List.length_map];omega)
 have hco:=dF (fs:=stN 0) (fe:=eA (aS 1 dM (aB (vV 0) aJ))) (ρ0:=[none]) (d:=aX) (g:=fun c=>PyData.str (ctS c)) (xs:=r.c) fun c hc'=>⟨_,rfl,by
  have:=aBK (h.2.2 c hc') hn
  simp[this]⟩
 obtain ⟨k1,k2⟩:=z0 (.str (tnS r.l)) (.str (tnS r.r)) (r.c.map fun c=>PyData.str (ctS c)) (by rw[List.length_map];omega)
 have hj:=pF h hn hc h3
 rw[mN] at hj
 unfold d3 i6
 generalize (r.c.map fun c=>PyData.str (ctS c))=CC at *
 generalize r.c.map aX=CD at *
 simp[i0,i1,i2,s1,s2,hdi,eO,hco,k1,k2,hj]
end Mc
namespace Mc
open PySem L2 PyProof.Rows Fl
section
variable{rs:List Rw}{sg:Nat}
theorem v9(c:Nat)(b:Nat):∀ ps:List Str,(∀ p∈ps,p.length<=b)->(Str.join ⟨#[c]⟩ ps).length<=ps.length * (b+1)
 | [],_=>by show 0<=_;omega
 | [p],h=>by
  have:=h p List.mem_cons_self
  show p.length<=1 * (b+1)
  omega
 | p::q::r,h=>by
  have h1:=h p List.mem_cons_self
  have h2:=v9 c b (q::r) fun x hx=>h x (List.mem_cons_of_mem _ hx)
  show (p++(⟨#[c]⟩:Str)++Str.join ⟨#[c]⟩ (q::r)).length<=_
  rw[mM,mM,List.length_cons,Nat.succ_mul]
  have:(⟨#[c]⟩:Str).length=1:=rfl
  omega
theorem nN:(Str.ofString ",":Str)=⟨#[44]⟩:=by decide
theorem r6:(Str.ofString " ":Str)=⟨#[32]⟩:=by decide
theorem mO{r:Rw}{n:Int}(h:r.good n)(hn:n<=60)(hc:r.c.length=sg)(h3:sg<=3):(b0 r).length<=20:=by
 unfold b0
 rw[nN,i8]
 have:=v9 44 3 (pts r) fun p hp=>(lX h hn p hp).2
 rw[qS hc] at this
 have:(sg+2) * (3+1)<=5 * 4:=Nat.mul_le_mul (by omega) (by omega)
 omega
theorem wA{r:Rw}{n:Int}(h:r.good n)(hn:n<=60):32∉(b0 r).cps.toList:=fun hm=>by
 unfold b0 at hm
 rw[nN] at hm
 rcases join_mem hm with z|⟨p,hp,hd⟩
 · cases z
 · exact ((lX h hn p hp).1 32 hd).2 rfl
theorem pG(M:Mach rs sg)(hn:rs.length<=60):eH (.str " ") (.list ((rs.map b0).map .str))=.ok (.str (mtS rs)):=
 join_ok (b:=20) rfl (by rw[List.length_map];omega) (by decide) fun p hp=>by
  obtain ⟨r,hr,rfl⟩:=List.mem_map.mp hp
  exact mO (M.row r hr).1 (by omega) (M.row r hr).2 M.sg3
theorem aBM(M:Mach rs sg)(hn:rs.length<=60):cK [.d (bX rs)]=.ok (.d (.str (mtS rs))):=by
 have hdi:a8 (bX rs)=.ok (rs.map aT):=fW (by rw[List.length_map];omega)
 have hc:=dF (fs:=stN 0) (fe:=eA (aS 1 d3 (aB (vV 0) aJ))) (ρ0:=[none]) (d:=aT) (g:=fun r=>PyData.str (b0 r)) (xs:=rs) fun r hr=>⟨_,rfl,by
  have:=aBL (M.row r hr).1 (by omega) (M.row r hr).2 M.sg3
  simp[this]⟩
 have hj:=pG M hn
 rw[List.map_map] at hj
 have hj:eH (.str " ") (.list (rs.map fun r=>PyData.str (b0 r)))=.ok (.str (mtS rs)):=hj
 unfold cK fY
 generalize (rs.map fun r=>PyData.str (b0 r))=RR at *
 generalize rs.map aT=RD at *
 simp[hdi,eO,hc,hj]
noncomputable def wrB:Sg->R Fw:=(aL (cO 5 (e2 fV (eL (e2 fV (eL (dC (aB (e1 dStr (rV 2)) aJ))) (eL (dD [none] (e1 a8 (rV 3)) (stN 0) fM (e2 bN (e1 dStr (e2 dIx (rV 0) (eC (.int 0)))) (e2 dIx (eC (.str "<>")) (e2 dDiv (e2 bN (e2 dIx (rV 0) (eC (.int 1))) (eC (.int 1))) (eC (.int 2))))))))) (eL (dC (aB (e1 dStr (rV 4)) aJ)))))
 (fK 1 (e2 eH (eC (.str ",")) (rV 5))))
theorem z4:fZ=(aL (cO 1 (dC aJ)) (aL (d7 (e1 a8 (eV 0)) (stT [(stN 2),(stN 3),(stN 4)]) wrB) (bD (vD (e2 eH (eC (.str " ")) (rV 1)))))):=id rfl
theorem z5{s:Int}(h:s=1\/s = -1):∃ k:Int,dDiv (.int (s+1)) (.int 2)=.ok (.int k)/\dIx (.str "<>") (.int k)=.ok (.str (arw s)):=by
 rcases h with rfl|rfl
 · exact ⟨1, by rw [gQ (by decide) (by decide)]; rfl, by kernel_rfl⟩
 · exact ⟨0, by rw [gQ (by decide) (by decide)]; rfl, by kernel_rfl⟩
theorem z6{r:Rw}{n:Int}{m:PyData}{X:List PyData}{u:Option A}(h:r.good n)(hn:n<=60)(hc:r.c.length=sg)(h3:sg<=3)(hX:X.length<=1000) :
  ∃ u',wrB [some (.d m),some (.l X),some (.d r.l.d),some (.d (.tuple (r.c.map aX))),some (.d r.r.d),u]=.ok (.nx [some (.d m),some (.l (X++[.str (b0 r)])),some (.d r.l.d),some (.d (.tuple (r.c.map aX))),some (.d r.r.d),u']):=by
 have s1:=j3 h.1 hn
 have s2:=j3 h.2.1 hn
 have hdi:a8 (.tuple (r.c.map aX))=.ok (r.c.map aX):=fW (by rw[List.length_map];omega)
 have hco:=dF (fs:=stN 0) (fe:=(e2 bN (e1 dStr (e2 dIx (rV 0) (eC (.int 0)))) (e2 dIx (eC (.str "<>")) (e2 dDiv (e2 bN (e2 dIx (rV 0) (eC (.int 1))) (eC (.int 1))) (eC (.int 2)))))) (ρ0:=[none]) (d:=aX) (g:=fun c=>PyData.str (ctS c)) (xs:=r.c) fun c hc'=>⟨_,rfl,by
  obtain ⟨h0,h1,h2⟩:=h.2.2 c hc'
  have e1':=qR h0 (by omega:c.1 < 60)
  obtain ⟨k,d1,d2⟩:=z5 h2
  have i0:dIx (aX c) (.int 0)=.ok (.int c.1):=rfl
  have i1:dIx (aX c) (.int 1)=.ok (.int c.2):=rfl
  have ha:bN (.str (num c.1.toNat)) (.str (arw c.2))=.ok (.str (ctS c)):=tU (by
   have:=(lW (i:=c.1.toNat) (by omega)).2
   have:(arw c.2).length=1:=by rcases arw_cases h2 with ⟨_,e⟩|⟨_,e⟩<;>rw[e]<;>rfl
   omega)
  simp[i0,i1,e1',d1,d2,ha]⟩
 obtain ⟨k1,k2⟩:=z0 (.str (tnS r.l)) (.str (tnS r.r)) (r.c.map fun c=>PyData.str (ctS c)) (by rw[List.length_map];omega)
 have hj:=pF h hn hc h3
 rw[mN] at hj
 have hX':X.length < 16777216:=by omega
 refine ⟨some (.l (.str (tnS r.l)::((r.c.map fun c=>PyData.str (ctS c))++[.str (tnS r.r)]))),?_⟩
 generalize (r.c.map fun c=>PyData.str (ctS c))=CC at *
 generalize r.c.map aX=CD at *
 simp[wrB,s1,s2,hdi,eO,hco,k1,k2,hj,hX']
theorem aBN(M:Mach rs sg)(hn:rs.length<=60):cL [.d (bX rs)]=.ok (.d (.str (mtS rs))):=by
 have hdi:a8 (bX rs)=.ok (rs.map aT):=fW (by rw[List.length_map];omega)
 obtain ⟨ρ',q1,u2,u3,u4,u5,e⟩:=eS (fs:=stT [(stN 2),(stN 3),(stN 4)]) (fb:=wrB) (d:=aT) (xs:=rs) (ρ:=[some (.d (bX rs)),some (.l []),none,none,none,none])
  (fun i ρ=>∃ u2 u3 u4 u5,ρ=[some (.d (bX rs)),some (.l ((rs.take i).map fun r=>PyData.str (b0 r))),u2,u3,u4,u5]) ⟨none,none,none,none,rfl⟩ (fun i r ρ hi zz0=>by
  obtain ⟨u2,u3,u4,u5,e⟩:=zz0
  subst e
  have hm:=List.mem_of_getElem? hi
  obtain ⟨u',e⟩:=z6 (sg:=sg) (m:=bX rs) (X:=(rs.take i).map fun r=>PyData.str (b0 r)) (u:=u5) (M.row r hm).1 (by omega) (M.row r hm).2 M.sg3 (by rw[List.length_map,List.length_take];omega)
  refine ⟨[some (.d (bX rs)),some (.l ((rs.take i).map fun r=>PyData.str (b0 r))),some (.d r.l.d),some (.d (.tuple (r.c.map aX))),some (.d r.r.d),u5],_,rfl,.inl e,some (.d r.l.d),some (.d (.tuple (r.c.map aX))),some (.d r.r.d),u',?_⟩
  rw[List.take_add_one,hi,List.map_append];rfl)
 subst e
 rw[List.take_length] at q1
 have hj:=pG M hn
 rw[List.map_map] at hj
 have hj:eH (.str " ") (.list (rs.map fun r=>PyData.str (b0 r)))=.ok (.str (mtS rs)):=hj
 unfold cL
 rw[z4]
 generalize (rs.map fun r=>PyData.str (b0 r))=RR at *
 generalize rs.map aT=RD at *
 generalize bX rs=MM at *
 simp[hdi,q1,hj]
theorem wT{t:Tn}{n:Int}(h:t.good n)(hn:n<=60):bY [.d (.str (tnS t))]=.ok (.d (.bool true)):=by
 cases t with
 | n i=>
  have hi:i.toNat < 60:=by have:=h.1;have:=h.2;omega
  have e1':=uJ _ hi
  have e2':=qM _ hi
  show bY [.d (.str (num i.toNat))]=_
  unfold bY d0
  simp[e1',e2']
 | w x=>
  have e:∀ x:Str,(x="by"\/x="out")->dIn (.str x) (.tuple [.str "by",.str "out"])=.ok (.bool true):=fun x hx=>by
   rcases hx with rfl|rfl<;>kernel_rfl
  have e:=e x h
  show bY [.d (.str x)]=_
  unfold bY d0
  simp[e]
theorem wU{t:Tn}{n:Int}(h:t.good n)(hn:n<=60):b1 [.d (.str (tnS t))]=.ok (.d t.d):=by
 cases t with
 | n i=>
  obtain ⟨h0,h1⟩:=h
  have hi:i.toNat < 60:=by omega
  have e1':=uJ _ hi
  have e2':=qL _ hi
  rw[Int.toNat_of_nonneg h0] at e2'
  show b1 [.d (.str (num i.toNat))]=.ok (.d (.int i))
  unfold b1 eI
  simp[e1',e2']
 | w x=>
  have e:∀ x:Str,(x="by"\/x="out")->dIn (.str x) (.tuple [.str "by",.str "out"])=.ok (.bool true):=fun x hx=>by
   rcases hx with rfl|rfl<;>kernel_rfl
  have e:=e x h
  show b1 [.d (.str x)]=.ok (.d (.str x))
  unfold b1 eI
  simp[e]
theorem uM:jV [(.str ">",.int 1),(.str "<",.int (-1))] (.str ">")=.ok (.bool true)/\gS [(.str ">",.int 1),(.str "<",.int (-1))] (.str ">")=.ok (.int 1):=by
 constructor<;>simp[jV,gS,iO,d8,dS]
theorem uN:jV [(.str ">",.int 1),(.str "<",.int (-1))] (.str "<")=.ok (.bool true)/\gS [(.str ">",.int 1),(.str "<",.int (-1))] (.str "<")=.ok (.int (-1)):=by
 have h:¬ (Str.ofString ">"=Str.ofString "<"):=by decide
 constructor<;>simp[jV,gS,iO,d8,dS,h]
theorem wV{c:Int×Int}{n:Int}(h:eK n c)(hn:n<=60):cB [.d (.str (ctS c))]=.ok (.d (.bool true))/\cU [.d (.str (ctS c))]=.ok (.d (aX c)):=by
 obtain ⟨h0,h1,h2⟩:=h
 have hi:c.1.toNat < 60:=by omega
 have e2':=qM _ hi
 have e3:=qL _ hi
 rw[Int.toNat_of_nonneg h0] at e3
 rcases arw_cases h2 with ⟨es,e⟩|⟨es,e⟩
 ·have k1:=(zX _ hi).1
  have k2:=(zY _ hi).1
  have k3:=(zZ _ hi).1
  unfold ctS
  rw[e]
  constructor
  ·unfold cB d4
   simp[k1,k2,uM.1,e2']
  ·unfold cU f9
   simp[k1,k3,uM.2,e3,aX,es]
 ·have k1:=(zX _ hi).2
  have k2:=(zY _ hi).2
  have k3:=(zZ _ hi).2
  unfold ctS
  rw[e]
  constructor
  ·unfold cB d4
   simp[k1,k2,uN.1,e2']
  ·unfold cU f9
   simp[k1,k3,uN.2,e3,aX,es]
end
end Mc
namespace Mc
open PySem L2 PyProof.Rows Fl
section
variable{rs:List Rw}{sg:Nat}
theorem x3(a b:PyData)(l:List PyData):dSl (.list (a::(l++[b]))) (some 1) (some (-1))=.ok (.list l):=by
 show R.ok (PyData.list (jR (a::(l++[b])) (some 1) (some (-1))))=_
 have h1:HT.sIx (a::(l++[b])).length 0 (some 1)=1:=by
  show min (1:Int).toNat (a::(l++[b])).length=1
  simp
 have h2:HT.sIx (a::(l++[b])).length (a::(l++[b])).length (some (-1))=l.length+1:=by
  show ((-1:Int)+((a::(l++[b])).length:Nat)).toNat=_
  simp;omega
 unfold jR
 rw[h1,h2]
 simp
theorem qT:dLen (.str "abc")=.ok (.int 3):=by kernel_rfl
theorem aBO{r:Rw}{n:Int}(h:r.good n)(hn:n<=60)(hc:r.c.length=sg)(h1:1<=sg)(h3:sg<=3):cQ [.d (.list ((pts r).map .str))]=.ok (.d (.bool true))/\d5 [.d (.list ((pts r).map .str))]=.ok (.d (aT r)):=by
 have s1:=wT h.1 hn
 have s2:=wT h.2.1 hn
 have s3:=wU h.1 hn
 have s4:=wU h.2.1 hn
 have hl:(r.c.map fun c=>PyData.str (ctS c)).length=sg:=by rw[List.length_map,hc]
 have hdi:a8 (.list (r.c.map fun c=>PyData.str (ctS c)))=.ok (r.c.map fun c=>PyData.str (ctS c)):=kX (by rw[hl];omega)
 have c1:=dF (fs:=stN 0) (fe:=eA (aS 1 cB (aB (vV 0) aJ))) (ρ0:=[none]) (d:=fun c=>PyData.str (ctS c)) (g:=fun _=>PyData.bool true) (xs:=r.c) fun c hc'=>⟨_,rfl,by
  have:=(wV (h.2.2 c hc') hn).1
  simp[this]⟩
 have c2:=dF (fs:=stN 0) (fe:=eA (aS 1 cU (aB (vV 0) aJ))) (ρ0:=[none]) (d:=fun c=>PyData.str (ctS c)) (g:=aX) (xs:=r.c) fun c hc'=>⟨_,rfl,by
  have:=(wV (h.2.2 c hc') hn).2
  simp[this]⟩
 rw[List.map_const',hc] at c1
 have ha:=qI sg
 have k0:=oY (.str (tnS r.l)) ((r.c.map fun c=>PyData.str (ctS c))++[.str (tnS r.r)])
 have k1:=v3 (.str (tnS r.l)::(r.c.map fun c=>PyData.str (ctS c))) (.str (tnS r.r))
 rw[List.cons_append] at k1
 have k2:=x3 (.str (tnS r.l)) (.str (tnS r.r)) (r.c.map fun c=>PyData.str (ctS c))
 have q1:(1:Int)<=(sg:Int):=by omega
 have q3:(sg:Int)<=3:=by omega
 rw[mN]
 unfold aT
 generalize (r.c.map fun c=>PyData.str (ctS c))=CC at *
 generalize r.c.map aX=CD at *
 generalize PyData.str (tnS r.l)=TL at *
 generalize PyData.str (tnS r.r)=TR at *
 generalize (TL::(CC++[TR]))=LL at *
 constructor
 ·unfold cQ gD
  simp[k0,k1,k2,hl,qT,q1,q3,s1,s2,hdi,eO,c1,ha]
 ·unfold d5 i7
  simp[k0,k1,k2,s3,s4,hdi,eO,c2]
end
end Mc
namespace Mc
open PySem L2 PyProof.Rows Fl
section
variable{rs:List Rw}{sg:Nat}
theorem pH{α:Type}(d:α->PyData){xs:List α}{x:PyData}(h:a8 x=.ok (xs.map d)):gZ x=.ok (xs.zipIdx.map fun p=>.tuple [.int (p.2:Int),d p.1]):=by
 unfold gZ
 rw[h]
 show R.ok (((xs.map d).zipIdx).map v2)=_
 rw[List.zipIdx_map,List.map_map];rfl
theorem uO(i:Int):dE [.d (.int i)]=.ok (.d (.bool true)):=by
 have h1:eP "int" (.int i)=.ok (.bool true):=rfl
 have h2:eP "bool" (.int i)=.ok (.bool false):=rfl
 simp[dE,iY,h1,h2]
theorem uP{i n:Int}(h0:0<=i)(h1:i < n):dU [.d (.int i),.d (.int n)]=.ok (.d (.bool true)):=by
 simp[dU,jS,uO,h0,h1]
theorem uQ{t:Tn}{n:Int}(h:t.good n):dW [.d t.d,.d (.int n)]=.ok (.d (.bool true)):=by
 cases t with
 | n q=>
  have:=uP h.1 h.2
  simp[dW,g8,Tn.d,rQ,this]
 | w x=>simp[dW,g8,Tn.d,rR h]
theorem z7{c:Int×Int}{n:Int}(h:eK n c):fA [.d (aX c),.d (.int n)]=.ok (.d (.bool true)):=by
 obtain ⟨h0,h1,h2⟩:=h
 have:=uP h0 h1
 have h3:=v4 h2
 simp[fA,jT,aX,this,uO,h3]
theorem z8{xs:List PyData}(h:xs.length=sg)(h1:1<=sg)(h3:sg<=3):eD [.d (.tuple xs),.d (.int sg)]=.ok (.d (.bool true)):=by
 have q1:(1:Int)<=(sg:Int):=by omega
 have q3:(sg:Int)<=3:=by omega
 simp[eD,hZ,h,q1,q3,qT,gC]
theorem aBP{r:Rw}{n:Int}(h:r.good n)(hc:r.c.length=sg)(h1:1<=sg)(h3:sg<=3):dZ [.d (aT r),.d (.int n),.d (.int sg)]=.ok (.d .none):=by
 have i0:dIx (aT r) (.int 0)=.ok r.l.d:=rfl
 have i1:dIx (aT r) (.int 1)=.ok (.tuple (r.c.map aX)):=rfl
 have i2:dIx (aT r) (.int 2)=.ok r.r.d:=rfl
 have k1:=z8 (xs:=r.c.map aX) (by rw[List.length_map,hc]) h1 h3
 have k2:=uQ h.1
 have k3:=uQ h.2.1
 have hdi:a8 (.tuple (r.c.map aX))=.ok (r.c.map aX):=fW (by rw[List.length_map];omega)
 have c1:=dF (fs:=stN 0) (fe:=eA (aS 2 fA (aB (vV 0) (aB (vV 1) aJ)))) (ρ0:=[none,some (.d (.int n))]) (d:=aX) (g:=fun _=>PyData.bool true) (xs:=r.c) fun c hc'=>⟨_,rfl,by
  have:=z7 (h.2.2 c hc')
  simp[this]⟩
 rw[List.map_const',hc] at c1
 have ha:=qI sg
 generalize r.c.map aX=CD at *
 generalize aT r=RD at *
 unfold dZ iZ
 simp[i0,i1,i2,k1,k2,k3,hdi,eO,c1,ha]
theorem aBQ{r:Rw}(hc:r.c.length<=1000):eR [.d (aT r)]=.ok (.d (aT r)):=by
 have i0:dIx (aT r) (.int 0)=.ok r.l.d:=rfl
 have i1:dIx (aT r) (.int 1)=.ok (.tuple (r.c.map aX)):=rfl
 have i2:dIx (aT r) (.int 2)=.ok r.r.d:=rfl
 have hdi:a8 (.tuple (r.c.map aX))=.ok (r.c.map aX):=fW (by rw[List.length_map];omega)
 have c1:=dF (fs:=stN 0) (fe:=(gN (aB (e2 dIx (rV 0) (eC (.int 0))) (aB (e2 dIx (rV 0) (eC (.int 1))) aJ)))) (ρ0:=[none]) (d:=aX) (g:=aX) (xs:=r.c) fun c hc'=>⟨_,rfl,by
  simp[aX]⟩
 have e:aT r=.tuple [r.l.d,.tuple (r.c.map aX),r.r.d]:=rfl
 generalize r.c.map aX=CD at *
 generalize aT r=RD at *
 unfold eR kW
 simp[i0,i1,i2,hdi,eO,c1,e]
noncomputable def moB:Sg->R Fw:=(aL (bB 5 (aS 3 dZ (aB (vV 4) (aB (vV 1) (aB (vV 2) aJ)))))
 (sIf (e1 asB (e2 dIsnt (rV 5) (eC .none))) kT sNx))
theorem z9:fX=(aL (bB 1 (vD (e1 dLen (rV 0))))
 (aL (sIf (dN (e1 asB (eCh dLe dLe (eC (.int 1)) (rV 1) (eC (.int 60))))) kT sNx)
 (aL (bB 2 (vD (e1 dLen (e2 dIx (e2 dIx (rV 0) (eC (.int 0))) (eC (.int 1))))))
 (aL (d7 (e1 gZ (eV 0)) (stT [(stN 3),(stN 4)]) moB)
 (bD (vD (e1 dTup (eL (dD [none] (e1 a8 (rV 0)) (stN 0) fM (eA (aS 1 eR (aB (vV 0) aJ)))))))))))):=id rfl
theorem aC6(M:Mach rs sg)(hn:rs.length<=60):cJ [.d (.list (rs.map aT))]=.ok (.d (bX rs)):=by
 have hdi:a8 (.list (rs.map aT))=.ok (rs.map aT):=kX (by rw[List.length_map];omega)
 have hnu:=pH aT hdi
 have hl:(rs.map aT).length=rs.length:=List.length_map ..
 have q1:(1:Int)<=(rs.length:Int):=by have:=M.len;omega
 have q2:(rs.length:Int)<=60:=by omega
 have hr0:∃ r0,r0∈rs/\dIx (.list (rs.map aT)) (.int 0)=.ok (aT r0):=by
  cases rs with
  | nil=>exact absurd M.len (by simp)
  | cons r t=>exact ⟨r,List.mem_cons_self,oY _ _⟩
 obtain ⟨r0,m0,e0⟩:=hr0
 have e1':dIx (aT r0) (.int 1)=.ok (.tuple (r0.c.map aX)):=rfl
 have hl2:(r0.c.map aX).length=sg:=by rw[List.length_map,(M.row r0 m0).2]
 have c1:=dF (fs:=stN 0) (fe:=eA (aS 1 eR (aB (vV 0) aJ))) (ρ0:=[none]) (d:=aT) (g:=aT) (xs:=rs) fun r hr=>⟨_,rfl,by
  have:=aBQ (r:=r) (by have:=(M.row r hr).2;have:=M.sg3;omega)
  simp[this]⟩
 obtain ⟨ρ',q,u3,u4,u5,e⟩:=eS (fs:=stT [(stN 3),(stN 4)]) (fb:=moB) (d:=fun p:Rw×Nat=>PyData.tuple [.int (p.2:Int),aT p.1]) (xs:=rs.zipIdx) (ρ:=[some (.d (.list (rs.map aT))),some (.d (.int rs.length)),some (.d (.int sg)),none,none,none])
  (fun _ ρ=>∃ u3 u4 u5,ρ=[some (.d (.list (rs.map aT))),some (.d (.int rs.length)),some (.d (.int sg)),u3,u4,u5]) ⟨none,none,none,rfl⟩ (fun i p ρ hi zz0=>by
  obtain ⟨u3,u4,u5,e⟩:=zz0
  subst e
  have hm:p.1∈rs:=by
   rw[List.getElem?_zipIdx] at hi
   cases h:rs[i]? with
   | none=>rw[h] at hi;cases hi
   | some r=>rw[h] at hi;cases hi;exact List.mem_of_getElem? h
  have hf:=aBP (M.row _ hm).1 (M.row _ hm).2 M.sg1 M.sg3
  refine ⟨[some (.d (.list (rs.map aT))),some (.d (.int rs.length)),some (.d (.int sg)),some (.d (.int (p.2:Int))),some (.d (aT p.1)),u5],[some (.d (.list (rs.map aT))),some (.d (.int rs.length)),some (.d (.int sg)),some (.d (.int (p.2:Int))),some (.d (aT p.1)),some (.d .none)],rfl,.inl ?_,_,_,_,rfl⟩
  generalize rs.map aT=RD at *
  generalize aT p.1=RP at *
  simp[moB,hf,eG])
 subst e
 unfold cJ bX
 rw[z9]
 generalize rs.map aT=RD at *
 generalize (rs.zipIdx.map fun p:Rw×Nat=>PyData.tuple [.int (p.2:Int),aT p.1])=ZZ at *
 generalize r0.c.map aX=CC at *
 generalize aT r0=R0 at *
 simp[hl,q1,q2,e0,e1',hl2,hnu,q,hdi,eO,c1]
end
end Mc
namespace Mc
open PySem L2 PyProof.Rows Fl
section
variable{rs:List Rw}{sg:Nat}
theorem x4{r:Rw}{n:Int}(h:r.good n)(hn:n<=60)(hc:r.c.length=sg)(h3:sg<=3):gT (.str (b0 r)) (.str ",")=.ok ((pts r).map .str):=by
 show (if (Str.ofString ",":Str).length≠0/\(b0 r).length<=1000000 then R.ok ((Txt.split (b0 r) (Str.ofString ",")).map PyData.str) else .bad)=_
 have:=mO h hn hc h3
 rw[if_pos ⟨by decide,by omega⟩]
 unfold b0
 rw[nN,qP (by unfold pts;simp) fun p hp hm=>((lX h hn p hp).1 44 hm).1 rfl]
theorem aAA(M:Mach rs sg)(hn:rs.length<=60):(mtS rs).length<=1260:=by
 unfold mtS
 rw[r6,i8]
 have:=v9 32 20 (rs.map b0) fun p hp=>by
  obtain ⟨r,hr,rfl⟩:=List.mem_map.mp hp
  exact mO (M.row r hr).1 (by omega) (M.row r hr).2 M.sg3
 rw[List.length_map] at this
 omega
theorem x5(M:Mach rs sg)(hn:rs.length<=60):gT (.str (mtS rs)) (.str " ")=.ok (rs.map fun r=>PyData.str (b0 r)):=by
 show (if (Str.ofString " ":Str).length≠0/\(mtS rs).length<=1000000 then R.ok ((Txt.split (mtS rs) (Str.ofString " ")).map PyData.str) else .bad)=_
 have:=aAA M hn
 rw[if_pos ⟨by decide,by omega⟩]
 unfold mtS
 rw[r6,qP (by have:=M.len;intro z;rw[List.map_eq_nil_iff] at z;rw[z] at this;simp at this) fun p hp hm=>by
  obtain ⟨r,hr,rfl⟩:=List.mem_map.mp hp
  exact wA (M.row r hr).1 (by omega) hm,List.map_map];rfl
noncomputable def rmB:Sg->R Fw:=(aL (cO 4 (e2 gT (rV 3) (eC (.str ","))))
 (aL (sFz 4 (sIf (dN (e1 asB (eA (aS 1 cQ (aB (vV 4) aJ))))) kT sNx))
 (sFz 4 (fK 1 (eA (aS 1 d5 (aB (vV 4) aJ)))))))
theorem aAB:eU=(aL (cO 1 (dC aJ))
 (aL (d7 (e1 gZ (eL (e2 gT (rV 0) (eC (.str " "))))) (stT [(stN 2),(stN 3)]) rmB)
 (sFz 1 (bD (aS 1 cJ (aB (vV 1) aJ)))))):=id rfl
theorem aC7(M:Mach rs sg)(hn:rs.length<=60):cC [.d (.str (mtS rs))]=.ok (.d (bX rs)):=by
 have hs:=x5 M hn
 have hdi:a8 (.list (rs.map fun r=>PyData.str (b0 r)))=.ok (rs.map fun r=>PyData.str (b0 r)):=kX (by rw[List.length_map];omega)
 have hnu:=pH (fun r=>PyData.str (b0 r)) hdi
 have hm:=aC6 M hn
 obtain ⟨ρ',q,u2,u3,u4,e⟩:=eS (fs:=stT [(stN 2),(stN 3)]) (fb:=rmB) (d:=fun p:Rw×Nat=>PyData.tuple [.int (p.2:Int),.str (b0 p.1)]) (xs:=rs.zipIdx) (ρ:=[some (.d (.str (mtS rs))),some (.l []),none,none,none])
  (fun i ρ=>∃ u2 u3 u4,ρ=[some (.d (.str (mtS rs))),some (.l ((rs.take i).map aT)),u2,u3,u4]) ⟨none,none,none,rfl⟩ (fun i p ρ hi zz0=>by
  obtain ⟨u2,u3,u4,e⟩:=zz0
  subst e
  have hg:rs[i]? = some p.1:=by
   rw[List.getElem?_zipIdx] at hi
   cases h:rs[i]? with
   | none=>rw[h] at hi;cases hi
   | some r=>rw[h] at hi;cases hi;rfl
  have hm:p.1∈rs:=List.mem_of_getElem? hg
  have h1:=x4 (M.row _ hm).1 (by omega) (M.row _ hm).2 M.sg3
  have h2:=aBO (M.row _ hm).1 (by omega) (M.row _ hm).2 M.sg1 M.sg3
  have ht:(rs.take (i+1)).map aT=(rs.take i).map aT++[aT p.1]:=by
   rw[List.take_add_one,hg,List.map_append];rfl
  have hl:((rs.take i).map aT).length < 16777216:=by rw[List.length_map,List.length_take];omega
  refine ⟨[some (.d (.str (mtS rs))),some (.l ((rs.take i).map aT)),some (.d (.int (p.2:Int))),some (.d (.str (b0 p.1))),u4],[some (.d (.str (mtS rs))),some (.l ((rs.take i).map aT++[aT p.1])),some (.d (.int (p.2:Int))),some (.d (.str (b0 p.1))),some (.d (.list ((pts p.1).map .str)))],rfl,.inl ?_,_,_,_,by rw[ht]⟩
  generalize (rs.take i).map aT=RD at *
  generalize aT p.1=RP at *
  generalize (pts p.1).map PyData.str=PP at *
  simp[rmB,h1,h2.1,h2.2,hl,fz])
 subst e
 rw[List.length_zipIdx,List.take_length] at q
 unfold cC
 rw[aAB]
 generalize (rs.zipIdx.map fun p:Rw×Nat=>PyData.tuple [.int (p.2:Int),.str (b0 p.1)])=ZZ at *
 generalize (rs.map fun r=>PyData.str (b0 r))=RR at *
 generalize bX rs=MM at *
 generalize rs.map aT=RD at *
 simp[hs,hnu,q,fz,hm]
end
end Mc
namespace Mc
open PySem L2 PyProof.Rows Fl
theorem aAC(G:Int->Int->Int)(i j:Int):d2 G (.int i) (.int j)=.ok (.int (G i j)):=rfl
theorem r9(ns:List Int){k:Int}(h:0<=k):∃ v,aV [.d (bR ns),.d (.int k)]=.ok (.d (.int v)):=by
 by_cases hk:k < (ns.length:Int)
 ·obtain ⟨v,hv⟩:=tX h hk
  exact ⟨v,by simp[aV,dP,iH,hk,hv]⟩
 ·exact ⟨0,by simp[aV,dP,iH,hk]⟩
theorem wW(x:Int){n:Int}(hn:0 < n):∃ t:Tn,b4 [.d (.int x),.d (.int n)]=.ok (.d t.d)/\t.good n:=by
 have h0:=Int.emod_nonneg x (by omega:n+2≠0)
 have h1:=Int.emod_lt_of_pos x (by omega:0 < n+2)
 have hp:0 < n+2:=by omega
 by_cases hm:x % (n+2) < n
 ·exact ⟨.n (x % (n+2)),by simp[b4,eE,c7,hp,hm];rfl,h0,hm⟩
 ·rcases (by omega:x % (n+2) - n=0\/x % (n+2) - n=1) with e|e
  ·have:=oY (.str "by") [.str "out"]
   exact ⟨.w "by",by simp[b4,eE,c7,hp,hm,e,this];rfl,.inl rfl⟩
  ·have:=zP (.str "by") (.str "out") []
   exact ⟨.w "out",by simp[b4,eE,c7,hp,hm,e,this];rfl,.inr rfl⟩
noncomputable def lrB:Sg->R Fw:=(aL (bB 6 (vD (e2 dMod (rV 0) (e2 dMul (eC (.int 2)) (rV 1)))))
 (aL (bB 0 (vD (e2 dDiv (rV 0) (e2 dMul (eC (.int 2)) (rV 1)))))
 (fK 4 (gN (aB (e2 dDiv (rV 6) (eC (.int 2))) (aB (e2 dSub (eC (.int 1)) (e2 dMul (eC (.int 2)) (e2 dMod (rV 6) (eC (.int 2))))) aJ))))))
theorem aAD:i3=(aL (bB 3 (aS 2 b4 (aB (vV 0) (aB (vV 1) aJ))))
 (aL (bB 0 (vD (e2 dDiv (rV 0) (e2 bN (rV 1) (eC (.int 2))))))
 (aL (cO 4 (dC aJ))
 (aL (d7 (dJ (rV 2)) (stN 5) lrB)
 (bD (vD (gN (aB (eV 3) (aB (e1 dTup (rV 4)) (aB (eA (aS 2 b4 (aB (vV 0) (aB (vV 1) aJ)))) aJ)))))))))):=id rfl
theorem aAE(x:Int){n:Int}{sg:Nat}(hn:0 < n)(hn2:n<=60)(hs:sg<=3):∃ r:Rw,dG [.d (.int x),.d (.int n),.d (.int sg)]=.ok (.d (aT r))/\r.good n/\r.c.length=sg:=by
 obtain ⟨t,ht,gt⟩:=wW x hn
 have hr:=gG (n:=sg) (by omega)
 have p2:0 < 2 * n:=by omega
 have p3:2 * n < 18446744073709551616:=by omega
 have p4:0 < n+2:=by omega
 have p5:n+2 < 18446744073709551616:=by omega
 obtain ⟨ρ',q,y,cs,u5,u6,hl,hg,e⟩:=eS (fs:=stN 5) (fb:=lrB) (d:=fun i:Nat=>.int (i:Int)) (xs:=List.range sg) (ρ:=[some (.d (.int (x / (n+2)))),some (.d (.int n)),some (.d (.int sg)),some (.d t.d),some (.l []),none,none])
  (fun i ρ=>∃ (y:Int) (cs:List (Int×Int)) (u5 u6:Option A),cs.length=i/\(∀ c∈cs,eK n c)/\ρ=[some (.d (.int y)),some (.d (.int n)),some (.d (.int sg)),some (.d t.d),some (.l (cs.map aX)),u5,u6]) ⟨_,[],none,none,rfl,fun _ h=>absurd h List.not_mem_nil,rfl⟩ (fun i k ρ hi zz0=>by
  obtain ⟨y,cs,u5,u6,hl,hg,e⟩:=zz0
  subst e
  have hi':i < sg:=by have:=(List.getElem?_eq_some_iff.mp hi).1;simpa using this
  have hll:(cs.map aX).length < 16777216:=by rw[List.length_map,hl];omega
  have m0:=Int.emod_nonneg y (by omega:2 * n≠0)
  have m1:=Int.emod_lt_of_pos y p2
  have hcat:(cs++[(y % (2 * n) / 2,1 - 2 * (y % (2 * n) % 2))]).map aX=cs.map aX++[.tuple [.int (y % (2 * n) / 2),.int (1 - 2 * (y % (2 * n) % 2))]]:=by rw[List.map_append];rfl
  refine ⟨[some (.d (.int y)),some (.d (.int n)),some (.d (.int sg)),some (.d t.d),some (.l (cs.map aX)),some (.d (.int (k:Int))),u6],[some (.d (.int (y / (2 * n)))),some (.d (.int n)),some (.d (.int sg)),some (.d t.d),some (.l (cs.map aX++[.tuple [.int (y % (2 * n) / 2),.int (1 - 2 * (y % (2 * n) % 2))]])),some (.d (.int (k:Int))),some (.d (.int (y % (2 * n))))],rfl,.inl ?_,y / (2 * n),cs++[(y % (2 * n) / 2,1 - 2 * (y % (2 * n) % 2))],some (.d (.int (k:Int))),some (.d (.int (y % (2 * n)))),by rw[List.length_append,hl];rfl,fun c hc=>?_,by rw[hcat]⟩
  ·generalize cs.map aX=CD at *
   generalize t.d=TD at *
   have g1:=jU (i:=2) (j:=n) (by decide) (by decide)
   have g2:=c7 (i:=y) p2
   have g3:=gQ (i:=y) p2 p3
   generalize y % (2 * n)=Y1 at *
   generalize y / (2 * n)=Y2 at *
   have g4:=gQ (i:=Y1) (j:=2) (by decide) (by decide)
   have g5:=c7 (i:=Y1) (j:=2) (by decide)
   have g6:=jU (i:=2) (j:=Y1 % 2) (by decide) (by decide)
   simp[lrB,g1,g2,g3,g4,g5,g6,hll]
  ·rcases List.mem_append.mp hc with z|z
   ·exact hg c z
   ·rw[List.mem_singleton.mp z]
    refine ⟨?_,?_,?_⟩<;>simp only<;>omega)
 subst e
 rw[List.length_range] at hl
 obtain ⟨t2,ht2,gt2⟩:=wW y hn
 refine ⟨⟨t,cs,t2⟩,?_,⟨gt,gt2,hg⟩,hl⟩
 unfold dG
 rw[aAD]
 have g1:=gQ (i:=x) p4 p5
 show _=R.ok (A.d (PyData.tuple [t.d,.tuple (cs.map aX),t2.d]))
 generalize cs.map aX=CD at *
 generalize t.d=TD at *
 generalize t2.d=TD2 at *
 generalize ((List.range sg).map fun i:Nat=>PyData.int (i:Int))=RR at *
 generalize x / (n+2)=X2 at *
 simp[ht,g1,hr,q,ht2]
end Mc
namespace Mc
open PySem L2 PyProof.Rows Fl
noncomputable def lmB:Sg->R Fw:=(aL (bB 5 (vD (e2 dMul (eC (.int 48271)) (e2 bN (rV 4) (eC (.int 1))))))
 (aL (sIf (e1 asB (e2 dGt (e1 dLen (rV 0)) (eC (.int 0)))) (bB 5 (vD (e2 bN (e2 dIx (rV 0) (e2 (d2 eQ) (rV 4) (e2 dSub (e1 dLen (rV 0)) (eC (.int 1))))) (e2 dMul (rV 5) (e1 dInt (e2 dGe (rV 4) (e1 dLen (rV 0)))))))) sNx)
 (fK 3 (eA (aS 3 dG (aB (vV 5) (aB (vV 1) (aB (vV 2) aJ))))))))
theorem aAF:dX=(aL (cO 3 (dC aJ))
 (aL (d7 (dJ (rV 1)) (stN 4) lmB)
 (bD (vD (e1 dTup (rV 3)))))):=id rfl
theorem x6{ns:List Int}{n:Int}{sg:Nat}{L:List PyData}{k:Nat}{u:Option A}:∃ x:Int,(aL (bB 5 (vD (e2 dMul (eC (.int 48271)) (e2 bN (rV 4) (eC (.int 1)))))) (sIf (e1 asB (e2 dGt (e1 dLen (rV 0)) (eC (.int 0)))) (bB 5 (vD (e2 bN (e2 dIx (rV 0) (e2 (d2 eQ) (rV 4) (e2 dSub (e1 dLen (rV 0)) (eC (.int 1))))) (e2 dMul (rV 5) (e1 dInt (e2 dGe (rV 4) (e1 dLen (rV 0)))))))) sNx)) [some (.d (bR ns)),some (.d (.int n)),some (.d (.int sg)),some (.l L),some (.d (.int (k:Int))),u]=.ok (.nx [some (.d (bR ns)),some (.d (.int n)),some (.d (.int sg)),some (.l L),some (.d (.int (k:Int))),some (.d (.int x))]):=by
 have hl:=iH ns
 have g1:=jU (i:=48271) (j:=(k:Int)+1) (by decide) (by decide)
 by_cases h:(0:Int) < ns.length
 ·have hi:0<=eQ (k:Int) ((ns.length:Int) - 1)/\eQ (k:Int) ((ns.length:Int) - 1) < ns.length:=by
   unfold eQ;split<;>omega
  obtain ⟨v,hv⟩:=tX hi.1 hi.2
  generalize bR ns=S at *
  have g2:=fun z:Int=>oW (i:=z) (j:=if (ns.length:Int)<=(k:Int) then 1 else 0) (by split<;>decide) (by split<;>decide)
  generalize (ns.length:Int)=N at *
  refine ⟨v+48271 * ((k:Int)+1) * (if N<=(k:Int) then 1 else 0),?_⟩
  simp[g1,hl,h,aAC,hv,g2]
 ·generalize bR ns=S at *
  generalize (ns.length:Int)=N at *
  exact ⟨48271 * ((k:Int)+1),by simp[g1,hl,h]⟩
theorem aC8{ns:List Int}{n sg:Nat}(h1:1<=n)(h2:n<=60)(s1:1<=sg)(s3:sg<=3):∃ rs:List Rw,b3 [.d (bR ns),.d (.int n),.d (.int sg)]=.ok (.d (bX rs))/\Mach rs sg/\rs.length=n:=by
 have hr:=gG (n:=n) (by omega)
 obtain ⟨ρ',q,rs,u4,u5,hl,hg,e⟩:=eS (fs:=stN 4) (fb:=lmB) (d:=fun i:Nat=>.int (i:Int)) (xs:=List.range n) (ρ:=[some (.d (bR ns)),some (.d (.int n)),some (.d (.int sg)),some (.l []),none,none])
  (fun i ρ=>∃ (rs:List Rw) (u4 u5:Option A),rs.length=i/\(∀ r∈rs,r.good n/\r.c.length=sg)/\ρ=[some (.d (bR ns)),some (.d (.int n)),some (.d (.int sg)),some (.l (rs.map aT)),u4,u5]) ⟨[],none,none,rfl,fun _ h=>absurd h List.not_mem_nil,rfl⟩ (fun i k ρ hi zz0=>by
  obtain ⟨rs,u4,u5,hl,hg,e⟩:=zz0
  subst e
  have hi':i < n:=by have:=(List.getElem?_eq_some_iff.mp hi).1;simpa using this
  have hll:(rs.map aT).length < 16777216:=by rw[List.length_map,hl];omega
  obtain ⟨x,hx⟩:=x6 (ns:=ns) (n:=n) (sg:=sg) (L:=rs.map aT) (k:=k) (u:=u5)
  obtain ⟨r,hr,hrg,hrc⟩:=aAE x (n:=(n:Int)) (sg:=sg) (by omega) (by omega) s3
  have hcat:(rs++[r]).map aT=rs.map aT++[aT r]:=by rw[List.map_append];rfl
  refine ⟨[some (.d (bR ns)),some (.d (.int n)),some (.d (.int sg)),some (.l (rs.map aT)),some (.d (.int (k:Int))),u5],[some (.d (bR ns)),some (.d (.int n)),some (.d (.int sg)),some (.l (rs.map aT++[aT r])),some (.d (.int (k:Int))),some (.d (.int x))],rfl,.inl ?_,rs++[r],some (.d (.int (k:Int))),some (.d (.int x)),by rw[List.length_append,hl];rfl,fun r' hr'=>?_,by rw[hcat]⟩
  ·rw[show lmB=aL (bB 5 (vD (e2 dMul (eC (.int 48271)) (e2 bN (rV 4) (eC (.int 1)))))) (aL (sIf (e1 asB (e2 dGt (e1 dLen (rV 0)) (eC (.int 0)))) (bB 5 (vD (e2 bN (e2 dIx (rV 0) (e2 (d2 eQ) (rV 4) (e2 dSub (e1 dLen (rV 0)) (eC (.int 1))))) (e2 dMul (rV 5) (e1 dInt (e2 dGe (rV 4) (e1 dLen (rV 0)))))))) sNx) (fK 3 (eA (aS 3 dG (aB (vV 5) (aB (vV 1) (aB (vV 2) aJ))))))) from rfl]
   generalize rs.map aT=RD at *
   generalize aT r=RR at *
   generalize bR ns=S at *
   generalize hIf:(sIf (e1 asB (e2 dGt (e1 dLen (rV 0)) (eC (.int 0)))) (bB 5 (vD (e2 bN (e2 dIx (rV 0) (e2 (d2 eQ) (rV 4) (e2 dSub (e1 dLen (rV 0)) (eC (.int 1))))) (e2 dMul (rV 5) (e1 dInt (e2 dGe (rV 4) (e1 dLen (rV 0)))))))) sNx)=IF at *
   have g1:=jU (i:=48271) (j:=(k:Int)+1) (by decide) (by decide)
   simp[g1] at hx
   simp[g1,hx,hr,hll]
  ·rcases List.mem_append.mp hr' with z|z
   · exact hg r' z
   · rw [List.mem_singleton.mp z]; exact ⟨hrg, hrc⟩)
 subst e
 rw[List.length_range] at hl
 refine ⟨rs,?_,⟨by omega,by omega,s1,s3,by rw[hl];exact hg⟩,hl⟩
 unfold b3 bX
 rw[aAF]
 generalize rs.map aT=RD at *
 generalize bR ns=S at *
 generalize ((List.range n).map fun i:Nat=>PyData.int (i:Int))=RR at *
 simp[hr,q]
noncomputable def mxB:Sg->R Fw:=(aL (bB 6 (vD (e2 dDiv (eA (aS 2 aV (aB (vV 0) (aB (vV 5) aJ)))) (e2 bN (eC (.int 1)) (e1 dInt (e2 dEq (rV 5) (eC (.int 0))))))))
 (aL (sIf (bOr (dN (e1 asB (eV 3))) (e1 asB (e2 dGe (rV 5) (e1 dLen (rV 0))))) (aL (bB 6 (vD (e2 dMod (e2 dMul (e2 bN (e2 dMod (rV 6) (e2 dPow (eC (.int 10)) (eC (.int 15)))) (e2 dMul (eC (.int 7919)) (rV 5))) (eC (.int 48271))) (eC (.int 2147483647)))))
 (bB 6 (vD (e2 dMod (e2 dMul (rV 6) (eC (.int 69621))) (eC (.int 2147483629)))))) sNx)
 (fK 4 (eV 6))))
theorem aAG:gU=(aL (bB 2 (vD (e2 (d2 mH) (rV 1) (e2 (d2 eQ) (eC (.int 63)) (e1 dLen (rV 0))))))
 (aL (bB 3 (vD (e2 dEq (e2 dMod (eA (aS 2 aV (aB (vV 0) (aB (vD (eC (.int 0))) aJ)))) (eC (.int 2))) (eC (.int 0)))))
 (aL (cO 4 (dC aJ))
 (aL (d7 (dJ (rV 2)) (stN 5) mxB)
 (sFz 4 (bD (vV 4))))))):=id rfl
theorem x8{ns:List Int}{b:Bool}{m j:Int}{L:List PyData}{k:Nat}{u:Option A}(hL:L.length < 16777216):∃ x:Int,mxB [some (.d (bR ns)),some (.d (.int m)),some (.d (.int j)),some (.d (.bool b)),some (.l L),some (.d (.int (k:Int))),u]=.ok (.nx [some (.d (bR ns)),some (.d (.int m)),some (.d (.int j)),some (.d (.bool b)),some (.l (L++[.int x])),some (.d (.int (k:Int))),some (.d (.int x))]):=by
 have hl:=iH ns
 obtain ⟨v,hv⟩:=r9 ns (k:=(k:Int)) (by omega)
 have g0:∃ w:Int,dDiv (.int v) (.int (1+if k=0 then 1 else 0))=.ok (.int w):=⟨_,gQ (by split<;>decide) (by split<;>decide)⟩
 obtain ⟨w,g0⟩:=g0
 have g1:dPow (.int 10) (.int 15)=.ok (.int 1000000000000000):=by kernel_rfl
 have g2:=c7 (i:=w) (j:=1000000000000000) (by decide)
 have g3:=jU (i:=7919) (j:=(k:Int)) (by decide) (by decide)
 have g4:=fun i:Int=>oW (i:=i) (j:=48271) (by decide) (by decide)
 have g5:=fun i:Int=>c7 (i:=i) (j:=2147483647) (by decide)
 have g6:=fun i:Int=>oW (i:=i) (j:=69621) (by decide) (by decide)
 have g7:=fun i:Int=>c7 (i:=i) (j:=2147483629) (by decide)
 have fin:∀ c:Bool,(c=true->b=true/\¬ (ns.length:Int)<=(k:Int))->(c=false->b=false\/(ns.length:Int)<=(k:Int))->∃ x:Int,mxB [some (.d (bR ns)),some (.d (.int m)),some (.d (.int j)),some (.d (.bool b)),some (.l L),some (.d (.int (k:Int))),u]=.ok (.nx [some (.d (bR ns)),some (.d (.int m)),some (.d (.int j)),some (.d (.bool b)),some (.l (L++[.int x])),some (.d (.int (k:Int))),some (.d (.int x))]):=fun c h1 h2=>by
  generalize bR ns=S at *
  generalize (ns.length:Int)=N at *
  cases c with
  | true=>
   obtain ⟨rfl,hk⟩:=h1 rfl
   refine ⟨w,?_⟩
   simp[mxB,hv,gC,hl,hk,hL,g0]
  | false=>
   refine ⟨((w % 1000000000000000+7919 * (k:Int)) * 48271 % 2147483647) * 69621 % 2147483629,?_⟩
   rcases h2 rfl with rfl|hk
   ·simp[mxB,hv,gC,hl,g0,g1,g2,g3,g4,g5,g6,g7,hL]
   ·cases b with
    | false=>
     simp[mxB,hv,gC,hl,g0,g1,g2,g3,g4,g5,g6,g7,hL]
    | true=>
     simp[mxB,hv,gC,hl,hk,g0,g1,g2,g3,g4,g5,g6,g7,hL]
 by_cases hc:b=true/\¬ (ns.length:Int)<=(k:Int)
 ·exact fin true (fun _=>hc) (fun h=>by cases h)
 ·refine fin false (fun h=>by cases h) fun _=>?_
  cases b with
  | false=>exact .inl rfl
  | true=>exact .inr (by by_cases z:(ns.length:Int)<=(k:Int);exact z;exact absurd ⟨rfl,z⟩ hc)
theorem aBR(ns:List Int):∃ ms:List Int,c8 [.d (bR ns),.d (.int 6)]=.ok (.d (bR ms)):=by
 have hl:=iH ns
 obtain ⟨N,hN,eN⟩:∃ N:Nat,N<=1000/\mH 6 (eQ 63 (ns.length:Int))=(N:Int):=by
  refine ⟨(mH 6 (eQ 63 (ns.length:Int))).toNat,?_,?_⟩<;>(unfold mH eQ;split<;>split<;>omega)
 have hr:=gG (n:=N) (by omega)
 obtain ⟨v,hv⟩:=r9 ns (k:=0) (by omega)
 have g1:=c7 (i:=v) (j:=2) (by decide)
 obtain ⟨ρ',q,xs,u5,u6,hxl,e⟩:=eS (fs:=stN 5) (fb:=mxB) (d:=fun i:Nat=>.int (i:Int)) (xs:=List.range N) (ρ:=[some (.d (bR ns)),some (.d (.int 6)),some (.d (.int N)),some (.d (.bool (decide (v % 2=0)))),some (.l []),none,none])
  (fun i ρ=>∃ (xs:List Int) (u5 u6:Option A),xs.length=i/\ρ=[some (.d (bR ns)),some (.d (.int 6)),some (.d (.int N)),some (.d (.bool (decide (v % 2=0)))),some (.l (xs.map .int)),u5,u6]) ⟨[],none,none,rfl,rfl⟩ (fun i k ρ hi zz0=>by
  obtain ⟨xs,u5,u6,hxl,e⟩:=zz0
  subst e
  have hi':i < N:=by have:=(List.getElem?_eq_some_iff.mp hi).1;simpa using this
  obtain ⟨x,hx⟩:=x8 (ns:=ns) (b:=decide (v % 2=0)) (m:=6) (j:=N) (L:=xs.map .int) (k:=k) (u:=u6) (by rw[List.length_map];omega)
  refine ⟨_,_,rfl,.inl hx,xs++[x],some (.d (.int (k:Int))),some (.d (.int x)),by rw[List.length_append,hxl];rfl,by rw[List.map_append];rfl⟩)
 subst e
 refine ⟨xs,?_⟩
 unfold c8
 rw[aAG]
 show _=R.ok (A.d (PyData.list (xs.map .int)))
 generalize xs.map PyData.int=XX at *
 generalize bR ns=S at *
 generalize ((List.range N).map fun i:Nat=>PyData.int (i:Int))=RR at *
 generalize (ns.length:Int)=LN at *
 simp[hl,aAC,eN,hv,g1,gC,hr,q,fz]
end Mc
namespace Mc
open PySem L2 PyProof.Rows Fl
section
variable{rs:List Rw}{sg:Nat}
def Lo(x:Str):Prop:=∀ d∈x.cps.toList,d < 200
theorem uR{i:Nat}(h:i < 60):Lo (num i):=fun d hd=>by
 have:=of_decide_eq_true (List.all_eq_true.mp (qN i h).1 d hd);omega
theorem wX{t:Tn}{n:Int}(h:t.good n)(hn:n<=60):Lo (tnS t):=by
 cases t with
 | n i=>exact uR (i:=i.toNat) (by have:=h.1;have:=h.2;omega)
 | w x=>
  rcases h with rfl|rfl
  · exact (show Lo "by" from (by decide : ∀ d ∈ (Str.ofString "by").cps.toList, d < 200))
  · exact (show Lo "out" from (by decide : ∀ d ∈ (Str.ofString "out").cps.toList, d < 200))
theorem aBS{c:Int×Int}{n:Int}(h:eK n c)(hn:n<=60):Lo (ctS c):=fun d hd=>by
 obtain ⟨h0,h1,h2⟩:=h
 unfold ctS at hd
 rw[qQ] at hd
 rcases List.mem_append.mp hd with z|z
 ·exact uR (i:=c.1.toNat) (by omega) d z
 ·rcases arw_cases h2 with ⟨_,e⟩|⟨_,e⟩
  ·rw[e] at z
   have:d∈[62]:=z
   rw[List.mem_singleton.mp this];decide
  ·rw[e] at z
   have:d∈[60]:=z
   rw[List.mem_singleton.mp this];decide
theorem aAH{r:Rw}{n:Int}(h:r.good n)(hn:n<=60):∀ p∈pts r,Lo p:=fun p hp=>by
 rcases List.mem_cons.mp hp with rfl|hp
 ·exact wX h.1 hn
 ·rcases List.mem_append.mp hp with z|z
  ·obtain ⟨c,hc,rfl⟩:=List.mem_map.mp z
   exact aBS (h.2.2 c hc) hn
  ·rw[List.mem_singleton.mp z];exact wX h.2.1 hn
theorem qU{c:Nat}{ps:List Str}(hc:c < 200)(h:∀ p∈ps,Lo p):Lo (Txt.join ⟨#[c]⟩ ps):=fun d hd=>by
 rcases join_mem hd with z|⟨p,hp,z⟩
 · rw [z]; exact hc
 · exact h p hp d z
theorem aBT(M:Mach rs sg)(hn:rs.length<=60):Lo (mtS rs):=by
 unfold mtS
 rw[r6]
 refine qU (by decide) fun p hp=>?_
 obtain ⟨r,hr,rfl⟩:=List.mem_map.mp hp
 unfold b0
 rw[nN]
 exact qU (by decide) (aAH (M.row r hr).1 (by omega))
theorem aBU(M:Mach rs sg)(hn:rs.length<=60):SeqAt.shaped (.str (mtS rs))=true:=(sU 0 (by
 show (mtS rs).cps.all (· < 0x110000)=true
 rw[<-Array.all_toList,List.all_eq_true]
 exact fun d hd=>decide_eq_true (by have:=aBT M hn d hd;omega)):Sh 0 _).shaped (by decide)
end
noncomputable def lwB:Sg->R Fw:=(aL (bB 5 (aS 1 cK (aB (vV 2) aJ)))
 (sIf (bOr (dN (e1 asB (e1 (eP "str") (rV 5)))) (bOr (e1 asB (e2 dNe (rV 5) (rV 3))) (e1 asB (e2 dNe (eA (aS 1 cC (aB (vV 3) aJ))) (rV 2))))) (bD (vD (eC (.bool false)))) sNx))
theorem aAI:rT=(aL (bB 0 (aS 2 c8 (aB (vV 0) (aB (vD (eC (.int 6))) aJ))))
 (aL (bB 1 (vD (e2 bN (eC (.int 1)) (e2 dMod (e2 dDiv (eA (aS 2 aV (aB (vV 0) (aB (vD (eC (.int 0))) aJ)))) (eC (.int 2))) (eC (.int 9))))))
 (aL (sIf (e1 asB (e2 dEq (e2 dMod (eA (aS 2 aV (aB (vV 0) (aB (vD (eC (.int 0))) aJ)))) (eC (.int 2))) (eC (.int 1)))) (bB 1 (vD (e2 bN (eC (.int 1)) (e2 dMod (e2 dDiv (eA (aS 2 aV (aB (vV 0) (aB (vD (eC (.int 0))) aJ)))) (eC (.int 2))) (eC (.int 60)))))) sNx)
 (aL (bB 2 (aS 3 b3 (aB (vD (eSl dSl (rV 0) (oSo (eC (.int 2))) oNo)) (aB (vV 1) (aB (vD (e2 bN (eC (.int 1)) (e2 dMod (eA (aS 2 aV (aB (vV 0) (aB (vD (eC (.int 1))) aJ)))) (eC (.int 3))))) aJ)))))
 (aL (bB 3 (aS 1 cL (aB (vV 2) aJ)))
 (aL (d7 (dJ (eC (.int 2))) (stN 4) lwB)
 (bD (vD (eC (.bool true)))))))))):=id rfl
theorem wB(ns:List Int)(hlen:ns.length<=63):nM [.d (.list (ns.map .int))]=.ok (.d (.bool true)):=by
 obtain ⟨ms,h0⟩:=aBR ns
 obtain ⟨v,h1⟩:=r9 ms (k:=0) (by decide)
 obtain ⟨w,h2⟩:=r9 ms (k:=1) (by decide)
 have g1:=gQ (i:=v) (j:=2) (by decide) (by decide)
 have g2:=c7 (i:=v / 2) (j:=9) (by decide)
 have g3:=c7 (i:=v / 2) (j:=60) (by decide)
 have g4:=c7 (i:=v) (j:=2) (by decide)
 have g5:=c7 (i:=w) (j:=3) (by decide)
 have hcut:dSl (bR ms) (some 2) none=.ok (bR (ms.drop 2)):=by
  show R.ok (PyData.list (jR (ms.map .int) (some 2) none))=R.ok (PyData.list ((ms.drop 2).map .int))
  have z:HT.sIx (ms.map PyData.int).length 0 (some 2)=min 2 ms.length:=by
   show min (2:Int).toNat (ms.map PyData.int).length=_
   rw[List.length_map];rfl
  unfold jR
  rw[z,List.map_drop]
  show R.ok (PyData.list (((ms.map PyData.int).drop (min 2 ms.length)).take ((ms.map PyData.int).length - min 2 ms.length)))=_
  rw[List.take_of_length_le (by rw[List.length_drop];exact Nat.le_refl _)]
  by_cases q:2<=ms.length
  ·rw[Nat.min_eq_left q]
  ·rw[Nat.min_eq_right (by omega),List.drop_of_length_le (by rw[List.length_map];exact Nat.le_refl _),List.drop_of_length_le (by rw[List.length_map];omega)]
 obtain ⟨n,hn,n1,n2⟩:∃ n:Nat,(if v % 2=1 then 1+v / 2 % 60 else 1+v / 2 % 9)=(n:Int)/\1<=n/\n<=60:=by
  refine ⟨(if v % 2=1 then 1+v / 2 % 60 else 1+v / 2 % 9).toNat,?_,?_,?_⟩<;>split<;>omega
 obtain ⟨sg,hs,s1,s3⟩:∃ sg:Nat,1+w % 3=(sg:Int)/\1<=sg/\sg<=3:=⟨(1+w % 3).toNat,by omega,by omega,by omega⟩
 obtain ⟨rs,hm,M,hr⟩:=aC8 (ns:=ms.drop 2) n1 n2 s1 s3
 have hr':rs.length<=60:=by omega
 have hw:=aBN M hr'
 have ht:=aBM M hr'
 have hrd:=aC7 M hr'
 have d1:=zV (aBU M hr')
 have d2:=aBG M
 have hstr:eP "str" (.str (mtS rs))=.ok (.bool true):=rfl
 have hrg:eB 0 2=.ok ((List.range 2).map fun i:Nat=>.int (i:Int)):=gG (n:=2) (by decide)
 obtain ⟨ρ',q,u4,u5,e⟩:=eS (fs:=stN 4) (fb:=lwB) (d:=fun i:Nat=>.int (i:Int)) (xs:=List.range 2) (ρ:=[some (.d (bR ms)),some (.d (.int n)),some (.d (bX rs)),some (.d (.str (mtS rs))),none,none])
  (fun _ ρ=>∃ u4 u5,ρ=[some (.d (bR ms)),some (.d (.int n)),some (.d (bX rs)),some (.d (.str (mtS rs))),u4,u5]) ⟨none,none,rfl⟩ (fun i k ρ hi zz0=>by
  obtain ⟨u4,u5,e⟩:=zz0
  subst e
  refine ⟨[some (.d (bR ms)),some (.d (.int n)),some (.d (bX rs)),some (.d (.str (mtS rs))),some (.d (.int (k:Int))),u5],[some (.d (bR ms)),some (.d (.int n)),some (.d (bX rs)),some (.d (.str (mtS rs))),some (.d (.int (k:Int))),some (.d (.str (mtS rs)))],rfl,.inl ?_,_,_,rfl⟩
  generalize bR ms=S at *
  generalize bX rs=MM at *
  generalize mtS rs=TT at *
  simp[lwB,ht,hstr,d1,hrd,d2])
 subst e
 show nM [.d (bR ns)]=_
 unfold nM
 rw[aAI]
 generalize bR ns=S0 at *
 generalize bR (ms.drop 2)=S2 at *
 generalize bR ms=S at *
 generalize bX rs=MM at *
 generalize mtS rs=TT at *
 generalize ((List.range 2).map fun i:Nat=>PyData.int (i:Int))=RR at *
 by_cases hv:v % 2=1
 ·rw[if_pos hv] at hn
  simp[h0,h1,h2,g1,g2,g3,g4,g5,gC,hv,hcut,hn,hs,hm,hw,hrg,q]
 ·rw[if_neg hv] at hn
  simp[h0,h1,h2,g1,g2,g3,g4,g5,gC,hv,hcut,hn,hs,hm,hw,hrg,q]
end Mc
namespace Mc
open PySem L2 PyProof.Rows Fl
section
variable{P:Program}{w:World}{K:Frag}{mg:Str->Option Value}{base:Heap}{TH:Hp}
theorem x9(T:Txt w K mg)(D9:DefAt K mg "is_whole" (top 9) ["value"])(D10:DefAt K mg "is_room" (top 10) ["value","rooms"])(D11:DefAt K mg "is_turn" (top 11) ["value","rooms"])(D12:DefAt K mg "is_cell" (top 12) ["cell","rooms"])(D13:DefAt K mg "has_cells" (top 13) ["cells","signs"])(D14:DefAt K mg "fault_of" (top 14) ["row","rooms","signs"])(D15:DefAt K mg "frozen" (top 15) ["row"])(D16:DefAt K mg "machine_of" (top 16) ["rows"])(D22:DefAt K mg "cell_text" (top 22) ["cell"])(D23:DefAt K mg "row_text" (top 23) ["row"])(D24:DefAt K mg "machine_text" (top 24) ["machine"])(D25:DefAt K mg "is_number" (top 25) ["part","most"])(D26:DefAt K mg "is_turn_text" (top 26) ["part"])(D27:DefAt K mg "is_cell_text" (top 27) ["part"])(D28:DefAt K mg "is_row_text" (top 28) ["parts"])(D29:DefAt K mg "read_turn" (top 29) ["part"])(D30:DefAt K mg "read_cell" (top 30) ["part"])(D31:DefAt K mg "read_row" (top 31) ["parts"])(D32:DefAt K mg "read_machine" (top 32) ["text"])(D34:DefAt K mg "_law_cell" (top 34) ["_law_script","_law_k"])(D35:DefAt K mg "_law_mixed" (top 35) ["_law_script","_law_few"])(D36:DefAt K mg "_law_turn" (top 36) ["_law_cell_here","_law_many"])(D37:DefAt K mg "_law_row" (top 37) ["_law_cell_here","_law_many","_law_signs"])(D38:DefAt K mg "_law_machine" (top 38) ["_law_cells","_law_many","_law_signs"])(D39:DefAt K mg "_law_written" (top 39) ["_law_machine_here"]){fL:Addr}{fdL:FuncData}(FL:Fun K "law" "law" (top 40) fL fdL):FnOk P w K mg base (CXe P w) 7 fL fdL ["_law_script"] (nJ K TH):=by
 have c_is_whole:=@pN P w K mg base TH T D9
 have c_is_room:=@rW P w K mg base TH T D10 c_is_whole
 have c_is_turn:=@rX P w K mg base TH T D11 c_is_room
 have c_is_cell:=@rY P w K mg base TH T D12 c_is_whole c_is_room
 have c_has_cells:=@o7 P w K mg base TH T D13
 have c_fault_of:=@pO P w K mg base TH T D14 c_has_cells c_is_turn c_is_cell
 have c_frozen:=@uH P w K mg base TH T D15
 have c_machine_of:=@nB P w K mg base TH T D16 c_fault_of c_frozen
 have c_cell_text:=@o8 P w K mg base TH T D22
 have c_row_text:=@pP P w K mg base TH T D23 c_cell_text
 have c_machine_text:=@lQ P w K mg base TH T D24 c_row_text
 have c_is_number:=@o9 P w K mg base TH T D25
 have c_is_turn_text:=@lR P w K mg base TH T D26 c_is_number
 have c_is_cell_text:=@lS P w K mg base TH T D27 c_is_number
 have c_is_row_text:=@mL P w K mg base TH T D28 c_is_turn_text c_is_cell_text
 have c_read_turn:=@pA P w K mg base TH T D29
 have c_read_cell:=@pB P w K mg base TH T D30
 have c_read_row:=@pQ P w K mg base TH T D31 c_read_cell c_read_turn
 have c_read_machine:=@lT P w K mg base TH T D32 c_is_row_text c_read_row c_machine_of
 have c__law_cell:=@pC P w K mg base TH T D34
 have c__law_mixed:=@nC P w K mg base TH T D35 c__law_cell
 have c__law_turn:=@pD P w K mg base TH T D36
 have c__law_row:=@pR P w K mg base TH T D37 c__law_turn
 have c__law_machine:=@lU P w K mg base TH T D38 c__law_row
 have c__law_written:=@lV P w K mg base TH T D39
 exact zL (zW (P:=P) (w:=w) (base:=base) (TH:=TH) T FL c__law_mixed c__law_cell c__law_machine c__law_written c_machine_text c_read_machine) wB
end
section
variable{w:World}{K:Frag}{h:Heap}{mg:Str->Option Value}
theorem aAJ(X:K.In h)(G:h.Ns mainGlobals mg){a_ARROWS:Addr}{a_ARROW_STEPS:Addr}{t_FIGURES:Nat}{t_MOST_FIGURES:Nat}{t_MOST_ROOMS:Nat}{t_SIGNS:Nat}{a_STEPS:Addr}{a_STOPS:Addr}(z_all:PySem.W.nsIn K mainGlobals "all"=some none)(z_bool:PySem.W.nsIn K mainGlobals "bool"=some none)(z_enumerate:PySem.W.nsIn K mainGlobals "enumerate"=some none)(z_int:PySem.W.nsIn K mainGlobals "int"=some none)(z_isinstance:PySem.W.nsIn K mainGlobals "isinstance"=some none)(z_len:PySem.W.nsIn K mainGlobals "len"=some none)(z_max:PySem.W.nsIn K mainGlobals "max"=some none)(z_min:PySem.W.nsIn K mainGlobals "min"=some none)(z_range:PySem.W.nsIn K mainGlobals "range"=some none)(z_str:PySem.W.nsIn K mainGlobals "str"=some none)(z_tuple:PySem.W.nsIn K mainGlobals "tuple"=some none)(s_ARROWS:PySem.W.nsIn K mainGlobals "ARROWS"=some (some (.ref a_ARROWS)))(m_ARROWS:iX K w a_ARROWS (i4 1 ">" (-1) "<"))(s_ARROW_STEPS:PySem.W.nsIn K mainGlobals "ARROW_STEPS"=some (some (.ref a_ARROW_STEPS)))(m_ARROW_STEPS:iX K w a_ARROW_STEPS (i5 ">" 1 "<" (-1)))(s_FIGURES:PySem.W.nsIn K mainGlobals "FIGURES"=some (some (.str "0123456789" t_FIGURES)))(s_MOST_FIGURES:PySem.W.nsIn K mainGlobals "MOST_FIGURES"=some (some (.int 2 t_MOST_FIGURES)))(s_MOST_ROOMS:PySem.W.nsIn K mainGlobals "MOST_ROOMS"=some (some (.int 60 t_MOST_ROOMS)))(s_SIGNS:PySem.W.nsIn K mainGlobals "SIGNS"=some (some (.str "abc" t_SIGNS)))(s_STEPS:PySem.W.nsIn K mainGlobals "STEPS"=some (some (.ref a_STEPS)))(m_STEPS:iM K a_STEPS [.int 1,.int (-1)])(s_STOPS:PySem.W.nsIn K mainGlobals "STOPS"=some (some (.ref a_STOPS)))(m_STOPS:iM K a_STOPS [.str "by",.str "out"]):Txt w K mg:=⟨PySem.W.mg_none_of X G z_all,PySem.W.mg_none_of X G z_bool,PySem.W.mg_none_of X G z_enumerate,PySem.W.mg_none_of X G z_int,PySem.W.mg_none_of X G z_isinstance,PySem.W.mg_none_of X G z_len,PySem.W.mg_none_of X G z_max,PySem.W.mg_none_of X G z_min,PySem.W.mg_none_of X G z_range,PySem.W.mg_none_of X G z_str,PySem.W.mg_none_of X G z_tuple,⟨a_ARROWS,PySem.W.mg_of X G s_ARROWS,m_ARROWS⟩,⟨a_ARROW_STEPS,PySem.W.mg_of X G s_ARROW_STEPS,m_ARROW_STEPS⟩,⟨t_FIGURES,PySem.W.mg_of X G s_FIGURES⟩,⟨t_MOST_FIGURES,PySem.W.mg_of X G s_MOST_FIGURES⟩,⟨t_MOST_ROOMS,PySem.W.mg_of X G s_MOST_ROOMS⟩,⟨t_SIGNS,PySem.W.mg_of X G s_SIGNS⟩,⟨a_STEPS,PySem.W.mg_of X G s_STEPS,m_STEPS⟩,⟨a_STOPS,PySem.W.mg_of X G s_STOPS,m_STOPS⟩⟩
theorem aAK{fa f:Addr}{oc:Value}{od an:Option Addr}{osl:Array (Option Value)}{kV doc pm cdv ct:Value}(X:K.In h)(G:h.Ns mainGlobals mg)(hmg:mg "law"=some (.ref fa))(a:PySem.W.nsIn K mainGlobals "law"=some (some (.ref f)))(l:K.lookup f=some ⟨oc,od,.func (PySem.W.fnOf "law" "law" (dY (top 40)) (cA (top 40)) (aH (top 40)) .none kV doc pm an cdv ct),osl⟩)
  (c:PySem.W.codeIn K cdv "law"=true) (k:PySem.W.keepIn K (.ref f)=true):∃ fd,Fun K "law" "law" (top 40) fa fd/\∀ (s:Shared) (u:Value),BindsTo s fd ⟨[u],[]⟩ [("_law_script",u)]:=by
 have e:=hmg.symm.trans (PySem.W.mg_of X G a)
 cases e
 exact ⟨_,sN (st:=top 40) l c k,fun s u=>.of_eq rfl⟩
end
end Mc
open PySem PySem.W PyProof.Rows
set_option maxRecDepth 100000 in
set_option maxHeartbeats 0 in
theorem PySem.Challenge.cw_striproam_k02_whole_texts_there_and_back_holds : PySem.Challenge.rw_striproam_k02_whole_texts_there_and_back.Holds := by
 w_on;o_law;k_head;(case hw=>w_witness2)
 k_fill
 refine Fl.zM (l:=PySem.Challenge.rw_striproam_k02_whole_texts_there_and_back) (k:=7) (x:="_law_script") rfl rfl ⟨rfl,by decide,by decide⟩ (fun w h Y=>PySem.W.kIn_of Y) ?F
 case F=>
  intro w mg fa h KX G hmg
  have D9:L2.DefAt (L2.KOf KX) mg "is_whole" (Mc.top 9) ["value"]:=by dsimp only[L2.KOf];refine' Mc.bA KX G ?a ?l ?c ?k ?b;(case a=>k_is);(case l=>k_is);(case c=>k_is);(case k=>k_is);(case b=>exact fun _ _ _ _ _ _=>Mc.bn1 fun _=>rfl)
  have D10:L2.DefAt (L2.KOf KX) mg "is_room" (Mc.top 10) ["value","rooms"]:=by dsimp only[L2.KOf];refine' Mc.bA KX G ?a ?l ?c ?k ?b;(case a=>k_is);(case l=>k_is);(case c=>k_is);(case k=>k_is);(case b=>exact fun _ _ _ _ _ _=>Mc.bn2 fun _ _=>rfl)
  have D11:L2.DefAt (L2.KOf KX) mg "is_turn" (Mc.top 11) ["value","rooms"]:=by dsimp only[L2.KOf];refine' Mc.bA KX G ?a ?l ?c ?k ?b;(case a=>k_is);(case l=>k_is);(case c=>k_is);(case k=>k_is);(case b=>exact fun _ _ _ _ _ _=>Mc.bn2 fun _ _=>rfl)
  have D12:L2.DefAt (L2.KOf KX) mg "is_cell" (Mc.top 12) ["cell","rooms"]:=by dsimp only[L2.KOf];refine' Mc.bA KX G ?a ?l ?c ?k ?b;(case a=>k_is);(case l=>k_is);(case c=>k_is);(case k=>k_is);(case b=>exact fun _ _ _ _ _ _=>Mc.bn2 fun _ _=>rfl)
  have D13:L2.DefAt (L2.KOf KX) mg "has_cells" (Mc.top 13) ["cells","signs"]:=by dsimp only[L2.KOf];refine' Mc.bA KX G ?a ?l ?c ?k ?b;(case a=>k_is);(case l=>k_is);(case c=>k_is);(case k=>k_is);(case b=>exact fun _ _ _ _ _ _=>Mc.bn2 fun _ _=>rfl)
  have D14:L2.DefAt (L2.KOf KX) mg "fault_of" (Mc.top 14) ["row","rooms","signs"]:=by dsimp only[L2.KOf];refine' Mc.bA KX G ?a ?l ?c ?k ?b;(case a=>k_is);(case l=>k_is);(case c=>k_is);(case k=>k_is);(case b=>exact fun _ _ _ _ _ _=>Mc.bn3 fun _ _ _=>rfl)
  have D15:L2.DefAt (L2.KOf KX) mg "frozen" (Mc.top 15) ["row"]:=by dsimp only[L2.KOf];refine' Mc.bA KX G ?a ?l ?c ?k ?b;(case a=>k_is);(case l=>k_is);(case c=>k_is);(case k=>k_is);(case b=>exact fun _ _ _ _ _ _=>Mc.bn1 fun _=>rfl)
  have D16:L2.DefAt (L2.KOf KX) mg "machine_of" (Mc.top 16) ["rows"]:=by dsimp only[L2.KOf];refine' Mc.bA KX G ?a ?l ?c ?k ?b;(case a=>k_is);(case l=>k_is);(case c=>k_is);(case k=>k_is);(case b=>exact fun _ _ _ _ _ _=>Mc.bn1 fun _=>rfl)
  have D22:L2.DefAt (L2.KOf KX) mg "cell_text" (Mc.top 22) ["cell"]:=by dsimp only[L2.KOf];refine' Mc.bA KX G ?a ?l ?c ?k ?b;(case a=>k_is);(case l=>k_is);(case c=>k_is);(case k=>k_is);(case b=>exact fun _ _ _ _ _ _=>Mc.bn1 fun _=>rfl)
  have D23:L2.DefAt (L2.KOf KX) mg "row_text" (Mc.top 23) ["row"]:=by dsimp only[L2.KOf];refine' Mc.bA KX G ?a ?l ?c ?k ?b;(case a=>k_is);(case l=>k_is);(case c=>k_is);(case k=>k_is);(case b=>exact fun _ _ _ _ _ _=>Mc.bn1 fun _=>rfl)
  have D24:L2.DefAt (L2.KOf KX) mg "machine_text" (Mc.top 24) ["machine"]:=by dsimp only[L2.KOf];refine' Mc.bA KX G ?a ?l ?c ?k ?b;(case a=>k_is);(case l=>k_is);(case c=>k_is);(case k=>k_is);(case b=>exact fun _ _ _ _ _ _=>Mc.bn1 fun _=>rfl)
  have D25:L2.DefAt (L2.KOf KX) mg "is_number" (Mc.top 25) ["part","most"]:=by dsimp only[L2.KOf];refine' Mc.bA KX G ?a ?l ?c ?k ?b;(case a=>k_is);(case l=>k_is);(case c=>k_is);(case k=>k_is);(case b=>exact fun _ _ _ _ _ _=>Mc.bn2 fun _ _=>rfl)
  have D26:L2.DefAt (L2.KOf KX) mg "is_turn_text" (Mc.top 26) ["part"]:=by dsimp only[L2.KOf];refine' Mc.bA KX G ?a ?l ?c ?k ?b;(case a=>k_is);(case l=>k_is);(case c=>k_is);(case k=>k_is);(case b=>exact fun _ _ _ _ _ _=>Mc.bn1 fun _=>rfl)
  have D27:L2.DefAt (L2.KOf KX) mg "is_cell_text" (Mc.top 27) ["part"]:=by dsimp only[L2.KOf];refine' Mc.bA KX G ?a ?l ?c ?k ?b;(case a=>k_is);(case l=>k_is);(case c=>k_is);(case k=>k_is);(case b=>exact fun _ _ _ _ _ _=>Mc.bn1 fun _=>rfl)
  have D28:L2.DefAt (L2.KOf KX) mg "is_row_text" (Mc.top 28) ["parts"]:=by dsimp only[L2.KOf];refine' Mc.bA KX G ?a ?l ?c ?k ?b;(case a=>k_is);(case l=>k_is);(case c=>k_is);(case k=>k_is);(case b=>exact fun _ _ _ _ _ _=>Mc.bn1 fun _=>rfl)
  have D29:L2.DefAt (L2.KOf KX) mg "read_turn" (Mc.top 29) ["part"]:=by dsimp only[L2.KOf];refine' Mc.bA KX G ?a ?l ?c ?k ?b;(case a=>k_is);(case l=>k_is);(case c=>k_is);(case k=>k_is);(case b=>exact fun _ _ _ _ _ _=>Mc.bn1 fun _=>rfl)
  have D30:L2.DefAt (L2.KOf KX) mg "read_cell" (Mc.top 30) ["part"]:=by dsimp only[L2.KOf];refine' Mc.bA KX G ?a ?l ?c ?k ?b;(case a=>k_is);(case l=>k_is);(case c=>k_is);(case k=>k_is);(case b=>exact fun _ _ _ _ _ _=>Mc.bn1 fun _=>rfl)
  have D31:L2.DefAt (L2.KOf KX) mg "read_row" (Mc.top 31) ["parts"]:=by dsimp only[L2.KOf];refine' Mc.bA KX G ?a ?l ?c ?k ?b;(case a=>k_is);(case l=>k_is);(case c=>k_is);(case k=>k_is);(case b=>exact fun _ _ _ _ _ _=>Mc.bn1 fun _=>rfl)
  have D32:L2.DefAt (L2.KOf KX) mg "read_machine" (Mc.top 32) ["text"]:=by dsimp only[L2.KOf];refine' Mc.bA KX G ?a ?l ?c ?k ?b;(case a=>k_is);(case l=>k_is);(case c=>k_is);(case k=>k_is);(case b=>exact fun _ _ _ _ _ _=>Mc.bn1 fun _=>rfl)
  have D34:L2.DefAt (L2.KOf KX) mg "_law_cell" (Mc.top 34) ["_law_script","_law_k"]:=by dsimp only[L2.KOf];refine' Mc.bA KX G ?a ?l ?c ?k ?b;(case a=>k_is);(case l=>k_is);(case c=>k_is);(case k=>k_is);(case b=>exact fun _ _ _ _ _ _=>Mc.bn2 fun _ _=>rfl)
  have D35:L2.DefAt (L2.KOf KX) mg "_law_mixed" (Mc.top 35) ["_law_script","_law_few"]:=by dsimp only[L2.KOf];refine' Mc.bA KX G ?a ?l ?c ?k ?b;(case a=>k_is);(case l=>k_is);(case c=>k_is);(case k=>k_is);(case b=>exact fun _ _ _ _ _ _=>Mc.bn2 fun _ _=>rfl)
  have D36:L2.DefAt (L2.KOf KX) mg "_law_turn" (Mc.top 36) ["_law_cell_here","_law_many"]:=by dsimp only[L2.KOf];refine' Mc.bA KX G ?a ?l ?c ?k ?b;(case a=>k_is);(case l=>k_is);(case c=>k_is);(case k=>k_is);(case b=>exact fun _ _ _ _ _ _=>Mc.bn2 fun _ _=>rfl)
  have D37:L2.DefAt (L2.KOf KX) mg "_law_row" (Mc.top 37) ["_law_cell_here","_law_many","_law_signs"]:=by dsimp only[L2.KOf];refine' Mc.bA KX G ?a ?l ?c ?k ?b;(case a=>k_is);(case l=>k_is);(case c=>k_is);(case k=>k_is);(case b=>exact fun _ _ _ _ _ _=>Mc.bn3 fun _ _ _=>rfl)
  have D38:L2.DefAt (L2.KOf KX) mg "_law_machine" (Mc.top 38) ["_law_cells","_law_many","_law_signs"]:=by dsimp only[L2.KOf];refine' Mc.bA KX G ?a ?l ?c ?k ?b;(case a=>k_is);(case l=>k_is);(case c=>k_is);(case k=>k_is);(case b=>exact fun _ _ _ _ _ _=>Mc.bn3 fun _ _ _=>rfl)
  have D39:L2.DefAt (L2.KOf KX) mg "_law_written" (Mc.top 39) ["_law_machine_here"]:=by dsimp only[L2.KOf];refine' Mc.bA KX G ?a ?l ?c ?k ?b;(case a=>k_is);(case l=>k_is);(case c=>k_is);(case k=>k_is);(case b=>exact fun _ _ _ _ _ _=>Mc.bn1 fun _=>rfl)
  have T:Mc.Txt w (L2.KOf KX) mg:=by
   dsimp only[L2.KOf]
   refine' Mc.aAJ KX G ?z_all ?z_bool ?z_enumerate ?z_int ?z_isinstance ?z_len ?z_max ?z_min ?z_range ?z_str ?z_tuple ?s_ARROWS (Fl.aBH ?p_ARROWS ?m_ARROWS) ?s_ARROW_STEPS (Fl.aBI ?p_ARROW_STEPS ?m_ARROW_STEPS) ?s_FIGURES ?s_MOST_FIGURES ?s_MOST_ROOMS ?s_SIGNS ?s_STEPS (Mc.zA ?m_STEPS) ?s_STOPS (Mc.y9 ?m_STOPS)
   (case z_all=>k_is);(case z_bool=>k_is);(case z_enumerate=>k_is);(case z_int=>k_is);(case z_isinstance=>k_is);(case z_len=>k_is);(case z_max=>k_is);(case z_min=>k_is);(case z_range=>k_is);(case z_str=>k_is);(case z_tuple=>k_is);(case s_ARROWS=>k_is);(case m_ARROWS=>k_is);(case p_ARROWS=>decide);(case s_ARROW_STEPS=>k_is);(case m_ARROW_STEPS=>k_is);(case p_ARROW_STEPS=>decide);(case s_FIGURES=>k_is);(case s_MOST_FIGURES=>k_is);(case s_MOST_ROOMS=>k_is);(case s_SIGNS=>k_is);(case s_STEPS=>k_is);(case m_STEPS=>k_is);(case s_STOPS=>k_is);(case m_STOPS=>k_is)
  have LL:∃ fd,L2.Fun (L2.KOf KX) "law" "law" (Mc.top 40) fa fd/\∀ (s:Shared) (u:Value),BindsTo s fd ⟨[u],[]⟩ [("_law_script",u)]:=by
   dsimp only[L2.KOf]
   refine' Mc.aAK KX G hmg ?a4 ?l4 ?c4 ?k4
   (case a4=>k_is);(case l4=>k_is);(case c4=>k_is);(case k4=>k_is)
  obtain ⟨fd,FL,hb⟩:=LL
  exact ⟨fd,hb,fun base _ _=>Mc.x9 T  D9 D10 D11 D12 D13 D14 D15 D16 D22 D23 D24 D25 D26 D27 D28 D29 D30 D31 D32 D34 D35 D36 D37 D38 D39 FL⟩
end
